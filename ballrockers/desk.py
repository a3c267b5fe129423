"""A desk that keeps boards by names, and answers rows of words about them."""

from ballrockers.adders import adder
from ballrockers.counters import counter
from ballrockers.errors import NoLeans, NoName, NoSaying
from ballrockers.ever import for_ever
from ballrockers.joined import below
from ballrockers.likeness import alike
from ballrockers.machines import word_board
from ballrockers.mirrors import mirrored
from ballrockers.runs import called
from ballrockers.texts import board_shown, is_of_signs, leans_read, leans_shown, number_read
from ballrockers.ways import come_out, look_at_feeder

LETTERS = "abcdefghijklmnopqrstuvwxyz"
MOST_LETTERS = 8

DONE = "ok"
STUCK = "stuck"
NOTHING = "-"

# The kinds of the words behind the first one; by the name of a kept word something must be kept already.
FORMS = {
    "counter": ("name", "number"),
    "adder": ("name", "number"),
    "word": ("name", "number"),
    "mirror": ("name", "kept"),
    "below": ("name", "kept", "kept"),
    "drop": ("kept",),
    "names": (),
    "show": ("kept",),
    "leans": ("kept",),
    "lean": ("kept", "bits"),
    "ball": ("kept", "number"),
    "run": ("kept", "number"),
    "round": ("kept",),
    "alike": ("kept", "kept"),
}


def keep(kept, name, board, leans, feeder=0):
    """Keeps a board by the name, with its leans and the feeder of the next ball."""
    kept[name] = (board, leans, feeder)
    return DONE


def keep_counter(kept, things):
    """Keeps a board that counts."""
    name, number = things
    board, leans = counter(number)
    return keep(kept, name, board, leans)


def keep_adder(kept, things):
    """Keeps a board that adds."""
    name, size = things
    board = adder(size)
    return keep(kept, name, board, (0,) * board[1])


def keep_word(kept, things):
    """Keeps a board that tells a word."""
    board, leans = word_board(tuple(things[1:]))
    return keep(kept, things[0], board, leans)


def keep_mirrored(kept, things):
    """Keeps a kept board seen from behind."""
    name, other = things
    board, leans, feeder = kept[other]
    return keep(kept, name, mirrored(board), leans)


def keep_below(kept, things):
    """Keeps a kept board with another one below it."""
    name, one, other = things
    board, leans, feeder = kept[one]
    other_board, other_leans, other_feeder = kept[other]
    return keep(kept, name, below(board, other_board), leans + other_leans)


def drop(kept, things):
    """Keeps no longer what is kept by the name."""
    del kept[things[0]]
    return DONE


def all_names(kept, things):
    """All names by which something is kept, sorted."""
    return in_words(sorted(kept))


def show(kept, things):
    """The text of a kept board."""
    return board_shown(kept[things[0]][0])


def show_leans(kept, things):
    """The text of the leans of a kept board."""
    return leans_shown(kept[things[0]][1])


def lean(kept, things):
    """Gives a kept board other leans."""
    name, leans = things
    board = kept[name][0]
    if len(leans) != board[1]:
        raise NoLeans()
    return keep(kept, name, board, leans)


def ball(kept, things):
    """Lets a ball of a feeder fall, whatever was called."""
    name, feeder = things
    board, leans, following = kept[name]
    look_at_feeder(board, leans, feeder)
    door, behind = come_out(board, leans, feeder)
    keep(kept, name, board, behind, door[1])
    return name_shown(door[0])


def run(kept, things):
    """Lets so many balls fall, as the doors call them."""
    name, most = things
    board, leans, feeder = kept[name]
    told_names, (behind, following) = called(board, (leans, feeder), most)
    keep(kept, name, board, behind, following)
    return in_words([name_shown(told_name) for told_name in told_names])


def lead_and_round(kept, things):
    """How many stands are ahead of the round, and in it; of balls that end how many come, and 0."""
    board, leans, feeder = kept[things[0]]
    stands, back = for_ever(board, (leans, feeder))
    # From the last stand of balls that end none comes.
    return f"{len(stands) - 1} 0" if back is None else f"{back} {len(stands) - back}"


def likeness(kept, things):
    """Whether two kept boards are alike with their leans, or how many balls part them."""
    one, other = things
    board, leans, feeder = kept[one]
    other_board, other_leans, other_feeder = kept[other]
    answer = alike(board, leans, other_board, other_leans)
    return answer[0] if answer[0] == "alike" else f"{answer[0]} {len(answer[1])}"


DEEDS = {
    "counter": keep_counter,
    "adder": keep_adder,
    "word": keep_word,
    "mirror": keep_mirrored,
    "below": keep_below,
    "drop": drop,
    "names": all_names,
    "show": show,
    "leans": show_leans,
    "lean": lean,
    "ball": ball,
    "run": run,
    "round": lead_and_round,
    "alike": likeness,
}


class Desk:
    """Keeps boards by names, each with its leans and the feeder from which the next ball comes."""

    def __init__(self):
        self.kept = {}

    def say(self, row):
        """A text that answers the row."""
        words = row.split(" ")
        kinds = kinds_of(words)
        things = [read(word, kind) for word, kind in zip(words[1:], kinds)]
        for thing, kind in zip(things, kinds):
            if kind == "kept" and thing not in self.kept:
                raise NoName()
        deed = DEEDS[words[0]]
        return deed(self.kept, things)


def kinds_of(words):
    """The kinds of the words behind the first one; refuses another first word, and more or fewer words."""
    if words[0] not in FORMS:
        raise NoSaying()
    kinds = FORMS[words[0]]
    # A word has one number or more.
    more = len(words) - 1 - len(kinds) if words[0] == "word" else 0
    kinds = kinds + ("number",) * more
    if len(kinds) != len(words) - 1:
        raise NoSaying()
    return kinds


def read(word, kind):
    """What a word of this kind says; refuses one that says nothing of the kind."""
    if kind == "number":
        thing = number_read(word)
    elif kind == "bits":
        thing = leans_read(word)
    else:
        thing = name_read(word)
    if thing is None:
        raise NoSaying()
    return thing


def name_read(word):
    """The word where it is a name by which the desk may keep something, else None."""
    return word if 1 <= len(word) <= MOST_LETTERS and is_of_signs(word, LETTERS) else None


def name_shown(name):
    """The word for a door's name, or for a ball that is stuck."""
    return STUCK if name is None else str(name)


def in_words(words):
    """The words with a blank between, or the one for none."""
    return " ".join(words) if words else NOTHING
