"""ballrockers: balls that turn rockers and count."""
