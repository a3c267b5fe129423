import PyProof.Rows.All
import Wide.All
import OpenK.AllK
import Wide.FinOn
import Lean
import PyProof.EqAt
import PyProof.EqKinds
import PyProof.TupleCall
import KE.KUnpack
import KE.KSortTup
import PySem.Challenge.RW_ballrockers_k59_undone
set_option Elab.async false
set_option linter.all false
set_option genSizeOf false
set_option bootstrap.genMatcherCode false
set_option compiler.extract_closed false
set_option maxRecDepth 100000
set_option maxHeartbeats 0 in
theorem RF.pa59:PySem.Challenge.rw_ballrockers_k59_undone.wellSaid=true:=by kernel_rfl
def eE:=@decide_eq_true_eq
def gF:=@decide_eq_false
def bX:=@if_true
def iE:=@decide_eq_true
def jU:=@of_decide_eq_true
def di:=@if_false
def uJ:=@decide_eq_false_iff_not
def jK:=@congrArg
def C4:=@beq_eq_false_iff_ne
def C5:=@decide_true
open PySem renaming wpAny_bind->aJ,wpAny_pure->bC,wpAny_mono->fS,wpAny_truthy_bool->pU,wpAny_standAt->mQ,wpAny_field->jV,wpAny_callSpecial?_slot->xw,wpAny_newObj_type->vcs,wpAny_holding->mZ,wpAny_pyIter_tuple->uK,wpAny_rule->jW,wpAny_call_entry->uL,wpAny_setField_rec->xx,wpAny_seqItems->sV,wpAny_passesOwn->uM,wpAny_pyIter_list->xy,wpAny_comprehension_free->C6,mem_of_lookup->yI,noFill_tuple_add->yJ,call_meets->pV,wpAny_Call_Name_kw->C7,seq_tuple_add->yK,sizeLine_eq->yL,wpAny_onRaise->C8,wpAny_typeOf->C9,wpAny_ite->xA
open Nat renaming le_refl->aR,lt_of_lt_of_le->ek,le_of_ble_eq_true->jf,ne_of_lt->fL,lt_succ_self->iO,zero_le->gu,le_trans->gJ,lt_irrefl->jg,ne_of_gt->ku,lt_succ_of_lt->pW,not_lt->jh,zero_add->lH,eq_of_beq_eq_true->yM,le_of_lt->pX,lt_of_succ_lt->yN,ble_eq->oZ,le_succ_of_le->yO,pow_le_pow_right->vec,le_succ->sW,add_sub_cancel->Dc,le_of_succ_le->Dd,le_add_right->De,add_assoc->Df
open PySem renaming Value->aa,Shared->af,Addr->ah,Program->ai,World->aj,Around->ak,Expr->ao,Stmt->aq,FuncData->au,OsState->av,Scope->ay,Heap->az,PyData->aA
open Option renaming some->aB,none->aC
open PySem.W renaming Frag->aH
open PySem.Str renaming ofString->bA
open List renaming replicate->bD
open Bool renaming and_eq_true->bE,false_eq_true->dO,not_eq_true'->sY,or_eq_true->pY,false_ne_true->yP,false_and->xB,true_and->yQ,not_false->Dg
open PySem.Heap renaming get?_push_of_some->cA,lt_size->cJ,get?_push_size->iw,size_push->ji
open List renaming length_map->bJ,mem_cons_of_mem->dj,size_toArray->cQ,length_cons->cZ,mem_cons_self->dP,length_append->eF,getElem?_eq_getElem->ig,mem_append_right->gK,map_cons->dw,lookup_cons->fV,mem_cons->fm,getElem?_eq_some_iff->kB,getElem?_append_right->lI,getElem_mem->ir,getElem?_map->jb,append_assoc->jc,getElem?_eq_none_iff->m5,getElem?_cons_succ->mR,drop_eq_getElem_cons->o4,set_cons_zero->kC,getElem?_append_left->pZ,length_take->jX,length_drop->jY,pairwise_append->m9,mem_singleton->mS,set_cons_succ->mT,mem_of_getElem?->o5,all_eq_true->lJ,mem_append->kD,append_nil->kE,replicate_succ->o9,getElem?_cons_zero->sZ,pairwise_iff_getElem->uN,zip_cons_cons->pe,getElem?_set_self->uO,nil_append->nc,map_append->ng,getD_eq_getElem?_getD->yR,length_singleton->xC,find?_cons->p5,getElem?_eq_none->xD,length_filter_le->xE,all_cons->pq,flatten_cons->uP,filterMap_cons->xF,drop_eq_nil_of_le->yS,drop_zero->tu,mem_append_left->yT,getElem?_set_ne->yU,mem_of_mem_take->yV,mem_map->p9,getElem_of_mem->yW,pairwise_singleton->Dh,cons_append->xG,reverse_nil->xH,mem_range->uQ,forIn_nil->uR,pairwise_cons->yX,nodup_cons->xJ,map_nil->tw,length_nil->xK,perm_append_comm->Di,not_mem_nil->yY,drop_length->yZ,take_length->y9,length_set->zc,forIn_cons->zd,any_cons->ze,mem_filter->Dj,foldl_cons->Dl
open PyProof.Rows renaming wpS_bind->bg,wpS_pure->bz,callWith_type1->uS,slot_tuple_getitem->xM,wpS_forRange->jj,wpS_mono->jk,wpS_get->nh,wpS_modify->xN,listUpdate_at->Dm,wpS_lift->uT,seqEpoch_at->Dn
open Int renaming eq_ofNat_of_zero_le->jZ,le_trans->jL,le_of_lt->ni,toNat_natCast->uU,not_lt->pA,emod_lt_of_pos->Dp,le_refl->xO,emod_nonneg->Dq
open PySem.AutoSeq1 renaming wpAny_loadPart'->nj
open Array renaming getElem?_eq_getElem->pB,getD_eq_getD_getElem?->xP,getElem?_toList->uV,length_toList->uW
open PySem.W renaming kia_one->lK
open Option renaming map_some->mU,join_some->qc,getD_some->zf
open Option.some renaming inj->nk
open PySem.W.Fast renaming te14364793385576792824->Dr
open Ne renaming symm->fK
open List.Perm renaming refl->pC,append_left->xQ,append->Ds
open PySem.F renaming args_tuple_add_2->zg,entry_tuple_add->zh,slot_tuple_add->zk,slot_tuple_iterator_next->Dt,slot_tuple_mul->zl,slot_zip_next->Du
open PySem.SeqAt renaming canLay_of_shaped->Dv
open Array.Perm renaming refl->xR
open LawfulMonad renaming pure_bind->qe
open PySem.Paired renaming length->Dw
namespace L2
theorem aR1(h:True:=by rfl):True:=h
theorem aD1(h:True:=by decide):True:=h
theorem aF1(h:True:=by first|exact .inl rfl|exact .inr rfl|assumption):True:=h
end L2
namespace L2
open PySem PySem.Spec PyProof.Rows
noncomputable abbrev Key:=Sum Int Str
noncomputable def iF:Key->aa->Bool|.inl k,v=>Value.isInt k v|.inr x,v=>Value.isStrOf x v
noncomputable def F3(w:aj):Key->Int|.inl k=>hashInt k|.inr x=>hashStr w x
theorem qf:∀{k:Key} {v:aa},iF k v=true->(∃i t,k=Sum.inl i/\v=Value.int i t)\/(∃x t,k=Sum.inr x/\v=Value.str x t)
 |.inl i,v,h=>by
  obtain⟨t,e⟩:=Value.isInt_shape (k:=i) (v:=v) h;exact .inl ⟨i,t,rfl,e⟩
 |.inr x,v,h=>by
  obtain⟨t,e⟩:=Value.isStrOf_shape (x:=x) (v:=v) h;exact .inr ⟨x,t,rfl,e⟩
theorem Rt(i:Int)(t:Tok):iF (.inl i) (.int i t)=true:=by simp[iF,Value.isInt]
theorem Ru(x:Str)(t:Tok):iF (.inr x) (.str x t)=true:=by simp[iF,Value.isStrOf]
theorem Rv(a b:Int):decide ((Sum.inl a:Key)=Sum.inl b)=(a==b):=by by_cases e:a=b;subst e;simp;have h:¬(Sum.inl a:Key)=Sum.inl b:=λq=>e (Sum.inl.inj q);rw[gF h];exact(C4.mpr e).symm
theorem Rw(a b:Str):decide ((Sum.inr a:Key)=Sum.inr b)=decide (a=b):=by by_cases e:a=b;subst e;simp;have h:¬(Sum.inr a:Key)=Sum.inr b:=λq=>e (Sum.inr.inj q);rw[gF h,gF e]
theorem Rx(a:Int)(b:Str):decide ((Sum.inl a:Key)=Sum.inr b)=false:=gF (λq=>nomatch q)
theorem Ry(a:Str)(b:Int):decide ((Sum.inr a:Key)=Sum.inl b)=false:=gF (λq=>nomatch q)
noncomputable def jM(prog:ai)(w:aj):PySem.KeyKind prog w Key where
 is:=iF
 hash:=F3 w
 inj:=λv a b ha hb=>by
  rcases qf ha with⟨i,t,rfl,rfl⟩|⟨x,t,rfl,rfl⟩
  .rcases qf hb with⟨j,u,rfl,e⟩|⟨y,u,rfl,e⟩
   .injection e with e1 _;rw[e1]
   .exact nomatch e
  .rcases qf hb with⟨j,u,rfl,e⟩|⟨y,u,rfl,e⟩
   .exact nomatch e
   .injection e with e1 _;rw[e1]
 byValue:=λk v h=>by
  rcases qf h with⟨i,t,rfl,rfl⟩|⟨x,t,rfl,rfl⟩<;>rfl
 pyHash:=λhv h=>by
  rcases qf hv with⟨i,t,rfl,rfl⟩|⟨x,t,rfl,rfl⟩
  .exact wpAny_pyHash_int h
  .exact wpAny_pyHash_str h
 eqBool:=λhu hv h=>by
  rcases qf hu with⟨i,t,rfl,rfl⟩|⟨x,t,rfl,rfl⟩
  .rcases qf hv with⟨j,u,rfl,rfl⟩|⟨y,u,rfl,rfl⟩
   .rw[Rv]at h;exact wpAny_eqBool_int h
   .rw[Rx]at h;exact SeqAt.EqAt.int_str i t y u _ _ _ _ h
  .rcases qf hv with⟨j,u,rfl,rfl⟩|⟨y,u,rfl,rfl⟩
   .rw[Ry]at h;exact SeqAt.EqAt.str_int x t j u _ _ _ _ h
   .rw[Rw]at h;exact wpAny_eqBool_str h
 «strs»:=λk x t v h=>by
  rcases qf h with⟨i,u,rfl,e⟩|⟨y,u,rfl,e⟩
  .exact nomatch e
  .injection e with e1 _
   subst e1
   cases v<;>rfl
theorem Rz(prog:ai)(w:aj)(i:Int)(t:Tok):(jM prog w).is (.inl i) (.int i t)=true:=Rt i t
theorem RA(prog:ai)(w:aj)(x:Str)(t:Tok):(jM prog w).is (.inr x) (.str x t)=true:=Ru x t
inductive V where
 |aL|bl (b:Bool)|int (i:Int)|str (x:Str)|zm (b:Array UInt8)|xS (b:UInt64)|ref (a:ah)|ty (n:String)
 deriving DecidableEq
noncomputable def RelV:V->aa->Prop|.aL,u=>u=Value.none|.bl b,u=>u=Value.bool b|.int i,u=>∃t,u=Value.int i t|.str x,u=>∃t,u=Value.str x t|.zm b,u=>∃t,u=Value.bytes b t|.xS b,u=>∃t,u=Value.float b t|.ref a,u=>u=Value.ref a|.ty n,u=>u=Value.type n
noncomputable abbrev Vals:List V->List aa->Prop:=Paired RelV
theorem Vals.length{xs:List V}{us:List aa}(r:Vals xs us):xs.length=us.length:=Dw r
theorem Vals.get:∀{xs:List V} {us:List aa} {i:Nat} {x:V},Vals xs us->xs[i]?=aB x->∃u,us[i]?=aB u/\RelV x u
 |_,_,_,_,.nil,e=>by simp at e
 |_,_,0,_,.cons r _,e=>by simp at e;subst e;exact⟨_,rfl,r⟩
 |_,_,i+1,x,.cons _ t,e=>by
  obtain⟨u,h1,h2⟩:=Vals.get (i:=i) (x:=x) t (by simpa using e);exact⟨u,by simpa using h1,h2⟩
theorem Vals.set{x:V}{u:aa}(r:RelV x u):∀{xs:List V} {us:List aa} (i:Nat),Vals xs us->Vals (xs.set i x) (us.set i u)|_,_,_,.nil=>.nil|_,_,0,.cons _ t=>.cons r t|_,_,i+1,.cons q t=>.cons q (Vals.set r i t)
theorem Vals.append:∀{xs ys:List V} {us ws:List aa},Vals xs us->Vals ys ws->Vals (xs++ys) (us++ws)|_,_,_,_,.nil,s=>s|_,_,_,_,.cons r t,s=>.cons r (Vals.append t s)
theorem Vals.take:∀{xs:List V} {us:List aa} (n:Nat),Vals xs us->Vals (xs.take n) (us.take n)|_,_,0,_=>.nil|_,_,_+1,.nil=>.nil|_,_,n+1,.cons r t=>.cons r (Vals.take n t)
theorem Vals.drop:∀{xs:List V} {us:List aa} (n:Nat),Vals xs us->Vals (xs.drop n) (us.drop n)|_,_,0,r=>r|_,_,_+1,.nil=>.nil|_,_,n+1,.cons _ t=>Vals.drop n t
noncomputable def gM:Option V->Option aa->Prop|some v,aB u=>RelV v u|none,aC=>True|_,_=>False
noncomputable def KV{κ:Type}:List (κ×V)->List (κ×aa)->Prop:=Paired λ(p:κ×V) (q:κ×aa)=>p.1=q.1/\RelV p.2 q.2
noncomputable def kV:Key->V|.inl i=>.int i|.inr x=>.str x
inductive HO where
 /-- a list -/
 |lst (xs:List V)
 /-- a tuple (never changes) -/
 |tup (xs:List V)
 /-- a dict zo keys are ints and texts;one zo keys are tuples of ints and texts (uX empty one is both) -/
 |dK (kvs:List (Key×V))|dT (kvs:List (List Key×V))
 /-- a set of ints: its members,its size -/
 |set (S:Int->Bool) (n:Nat)
 /-- an instance of uX class at C,its dict at dx,its attributes -/
 |ins (C dx:ah) (fs:List (Str×V))
 /-- uX dict of uX instance at x -/
 |own (x:ah)
 /-- uX dict of an exception -/
 |xd (fs:List (Str×V))
 /-- a bound method,f of x -/
 |met (f x:ah)
 /-- a range object lo,lo+1,.. below hi -/
 |F4 (lo hi:Int)
 /-- a thing RB is known to uX object (uX script;a dict while a loop walks it): read,never written while it is so -/
 |bL (o:Obj) (u:HO)
 /-- a code zu table -/
 |uY (ps:Array aa)
 /-- any other thing,by what is true of its one object (a def of Mw own: RC a S n:=HO.ext λh=>..) -/
 |ext (φ:az->Prop)
noncomputable abbrev Hp:=ah->Option HO
noncomputable def upd(H:Hp)(a:ah)(o:HO):Hp:=λb=>if b=a then aB o else H b
theorem iu{H:Hp}{a:ah}{o:HO}:upd H a o a=aB o:=by unfold upd;rw[if_pos rfl]
theorem bV{H:Hp}{a b:ah}{o:HO}(h:b≠a):upd H a o b=H b:=by unfold upd;rw[if_neg h]
theorem cV{H:Hp}{a b:ah}{o u:HO}(h:H a=aB o)(h':H b=aB u)(d:o≠u):a≠b:=by intro e;subst e;rw[h]at h';exact d (nk h')
theorem gG{H:Hp}{a b:ah}{o:HO}(h:H a=aB o)(h':H b=aC):a≠b:=by intro e;subst e;rw[h]at h';cases h'
noncomputable def j0(h:az)(a:ah)(items:Array aa):Prop:=∃o,h.get? a=aB o/\o.cls=.type "tuple"/\(∃n,o.data=.seq items n)/\o.dict=aC
theorem j0.tup{h:az}{a:ah}{items:Array aa}(x:j0 h a items):IsTup h a items:=let⟨o,e,c,d,_⟩:=x;⟨o,e,c,d⟩
theorem j0.lt{h:az}{a:ah}{items:Array aa}(x:j0 h a items):a<h.objs.size:=x.tup.lt
theorem j0.new(h:az)(items:Array aa):j0 (h.push {cls:=.type "tuple",data:=.seq items}) h.objs.size items:=⟨_,iw _ rfl,rfl,⟨_,rfl⟩,rfl⟩
section
variable(P:ai)(w:aj)
noncomputable def br(H:Hp)(h:az)(a:ah):HO->Prop
 |.lst xs=>xs.length<=sizeLine/\∃(its:List aa) (n:Nat),Vals xs its/\h.get? a=aB {cls:=.type "list",data:=.seq its.toArray n}
 |.tup xs=>xs.length<=sizeLine/\∃its:List aa,Vals xs its/\j0 h a its.toArray
 |.dK kvs=>kvs.length<=sizeLine/\(a==sysModules)=false/\∃vs,KV kvs vs/\h.DictOf (jM P w) a vs
 |.dT kvs=>kvs.length<=sizeLine/\(a==sysModules)=false/\∃xs:List (List Key×ah×aa),
  Paired (λ(p:List Key×V)(q:List Key×ah×aa)=>p.1=q.1/\H q.2.1=aB (.tup (p.1.map kV))/\RelV p.2 q.2.2) kvs xs/\
  ∃o es ep,h.get? a=aB o/\o.ExactDict/\o.data=.dict es ep/\es.toList=xs.map (entryOfKey (tupleKind (jM P w)))/\(xs.map (·.1)).Nodup
 |.set S n=>h.SetOf (intKind P w) a S n
 |.ins C dx fs=>H dx=aB (.own a)/\fs.length<=1000/\dx≠a/\h.get? a=aB (PySem.W.instObj C dx)/\
  ∃mA,h.Ns1 dx mA/\(∀f,gM (fs.lookup f) (mA f))/\PySem.Within mA (fs.map (·.1))
 |.own _=>∃o,h.get? a=aB o
 |.xd fs=>∃mA,h.Ns1 a mA/\∀f,gM (fs.lookup f) (mA f)
 |.F4 lo hi=>∃t u v,h.get? a=aB {cls:=.type "range",data:=.fields #[.int lo t,.int hi u,.int 1 v]}
 |.bL o u=>h.get? a=aB o/\br H h a u
 |.uY ps=>h.get? a=aB {cls:=.none,data:=.fields ps}
 |.met f x=>h.get? a=aB (PySem.W.methodObj (.ref f) (.ref x))
 |.ext φ=>φ h/\(∃o,h.get? a=aB o)/\∀h1 h2:az,φ h1->(∀o,h1.get? a=aB o->h2.get? a=aB o)->φ h2
noncomputable def eY(H:Hp)(h:az):Prop:=∀a o,H a=aB o->br P w H h a o
end
section
variable{P:ai}{w:aj}{H H':Hp}{h h':az}{a:ah}{o:HO}
theorem br.lt(x:br P w H h a o):a<h.objs.size:=by
 cases o with|lst xs=>obtain⟨_,_,_,_,e⟩:=x;exact cJ e|tup xs=>obtain⟨_,_,_,p⟩:=x;exact p.lt|dK kvs=>obtain⟨_,_,_,_,o,_,_,e,_⟩:=x;exact cJ e|dT kvs=>obtain⟨_,_,_,_,o,_,_,e,_⟩:=x;exact cJ e|set S n=>obtain⟨o,_,_,_,e,_⟩:=x;exact cJ e|ins C dx fs=>obtain⟨_,_,_,e,_⟩:=x;exact cJ e|own y=>obtain⟨_,e⟩:=x;exact cJ e|xd fs=>obtain⟨_,⟨_,_,_,e,_⟩,_⟩:=x;exact cJ e|F4 lo hi=>obtain⟨_,_,_,e⟩:=x;exact cJ e|bL ob u=>obtain⟨e,_⟩:=x;exact cJ e|uY ps=>exact cJ (show h.get? a=aB _ from x)|met f y=>exact cJ (show h.get? a=aB _ from x)|ext φ=>obtain⟨_,⟨_,e⟩,_⟩:=x;exact cJ e
theorem Paired.uZ{α β:Type}{F G:α->β->Prop}:∀{l₁:List α} {l₂:List β},Paired F l₁ l₂->(∀a b,F a b->G a b)->Paired G l₁ l₂|_,_,.nil,_=>.nil|_,_,.cons r t,f=>.cons (f _ _ r) (Paired.uZ t f)
theorem br.stay(x:br P w H h a o)(k:∀b u,(b=a\/H b=aB (.own a))->h.get? b=aB u->h'.get? b=aB u)
 (ho:∀b,H b=aB (.own a)->H' b=aB (.own a)) (ht:∀b xs,H b=aB (.tup xs)->H' b=aB (.tup xs)):br P w H' h' a o:=by
 induction o with
 |lst xs=>obtain⟨z,its,n,r,e⟩:=x;exact⟨z,its,n,r,k _ _ (.inl rfl) e⟩
 |tup xs=>obtain⟨z,its,r,ob,e,c⟩:=x;exact⟨z,its,r,ob,k _ _ (.inl rfl) e,c⟩
 |dK kvs=>obtain⟨z,y,vs,r,ob,es,ep,e,c⟩:=x;exact⟨z,y,vs,r,ob,es,ep,k _ _ (.inl rfl) e,c⟩
 |dT kvs=>
  obtain⟨z,y,xs,r,ob,es,ep,e,c⟩:=x;exact⟨z,y,xs,Paired.uZ r λp q z=>⟨z.1,ht _ _ z.2.1,z.2.2⟩,ob,es,ep,k _ _ (.inl rfl) e,c⟩
 |set S n=>obtain⟨ob,es,ep,t,e,c⟩:=x;exact⟨ob,es,ep,t,k _ _ (.inl rfl) e,c⟩
 |ins C dx fs=>
  obtain⟨d,z,ne,e,mA,⟨od,es,ep,e2,c⟩,r⟩:=x;exact⟨ho _ d,z,ne,k _ _ (.inl rfl) e,mA,⟨od,es,ep,k _ _ (.inr d) e2,c⟩,r⟩
 |own y=>obtain⟨ob,e⟩:=x;exact⟨ob,k _ _ (.inl rfl) e⟩
 |xd fs=>obtain⟨mA,⟨od,es,ep,e,c⟩,r⟩:=x;exact⟨mA,⟨od,es,ep,k _ _ (.inl rfl) e,c⟩,r⟩
 |F4 lo hi=>obtain⟨t,u,v,e⟩:=x;exact⟨t,u,v,k _ _ (.inl rfl) e⟩
 |bL ob u ih=>obtain⟨e,q⟩:=x;exact⟨k _ _ (.inl rfl) e,ih q⟩
 |uY ps=>
  have e:h.get? a=aB {cls:=.none,data:=.fields ps}:=x;show h'.get? a=aB {cls:=.none,data:=.fields ps};exact k a _ (.inl rfl) e
 |met f y=>
  have e:h.get? a=aB (PySem.W.methodObj (.ref f) (.ref y)):=x;show h'.get? a=aB (PySem.W.methodObj (.ref f) (.ref y));exact k a _ (.inl rfl) e
 |ext φ=>obtain⟨p,⟨o,e⟩,st⟩:=x;exact⟨st _ _ p λo q=>k _ _ (.inl rfl) q,⟨o,k _ _ (.inl rfl) e⟩,st⟩
theorem eY.lt(x:eY P w H h)(e:H a=aB o):a<h.objs.size:=(x a o e).lt
theorem eY.fresh(x:eY P w H h)(e:h.objs.size<=a):H a=aC:=by
 cases q:H a with|none=>rfl|some u=>exact absurd (ek (x.lt q) e) (jg _)
theorem eY.kept(x:eY P w H h)(k:∀b u,h.get? b=aB u->h'.get? b=aB u):eY P w H h':=λa o e=>
 (x a o e).stay (λb u _ q=>k b u q) (λ_ q=>q) λ_ _ q=>q
theorem eY.laid(x:eY P w H h)(k:∀b u,h.get? b=aB u->h'.get? b=aB u)(hp:h.objs.size<=a)(new:br P w (upd H a o) h' a o):eY P w (upd H a o) h':=λb u e=>by
 have hn:=x.fresh hp;by_cases hb:b=a;subst hb;rw[iu]at e;cases e;exact new;rw[bV hb]at e;exact(x b u e).stay (λc v _ q=>k c v q) (λc q=>by rw[bV (gG q hn)];exact q) λc xs q=>by rw[bV (gG q hn)];exact q
end
noncomputable def Rd(H:Hp)(a:ah)(u:HO):Prop:=H a=aB u\/∃o,H a=aB (.bL o u)
theorem Rd.ok{P:ai}{w:aj}{H:Hp}{h:az}{a:ah}{u:HO}(r:Rd H a u)(x:eY P w H h):br P w H h a u:=by rcases r with r|⟨o,r⟩;exact x a u r;obtain⟨_,q⟩:=x a _ r;exact q
noncomputable def zw:Option HO->Prop|some (.lst _)=>True|some (.dK _)=>True|some (.dT _)=>True|some (.set _ _)=>True|some (.ins _ _ _)=>True|some (.ext _)=>True|_=>False
section
variable{P:ai}{w:aj}{H:Hp}{h h':az}{x e:ah}{o':HO}
theorem eY.write(ok:eY P w H h)(mu:zw (H x))(he:e=x\/H e=aB (.own x))(k:∀b u,b≠e->h.get? b=aB u->h'.get? b=aB u)(xT:∃u,h'.get? e=aB u)
 (new:br P w (upd H x o') h' x o'):eY P w (upd H x o') h':=λb u q=>by
 have zx:∀c y,H c=aB (.own y)->c≠x:=λc y r z=>by subst z;rw[r]at mu;exact mu
 have F5:∀c xs,H c=aB (.tup xs)->c≠x:=λc xs r z=>by subst z;rw[r]at mu;exact mu
 by_cases hb:b=x;subst hb;rw[iu]at q;cases q;exact new;rw[bV hb]at q;by_cases u5:b=e;have q':H b=aB (.own x):=by rcases he with z|z;exact absurd (u5.trans z) hb;rw[u5];exact z
 rw[q]at q';cases q';obtain⟨v,hv⟩:=xT;exact⟨v,by rw[u5];exact hv⟩;refine(ok b u q).stay (λc v hc r=>k c v ?_ r) (λc r=>by rw[bV (zx c b r)];exact r) λc xs r=>by rw[bV (F5 c xs r)];exact r
 rcases hc with rfl|hc;exact u5;rintro rfl;rcases he with z|z;exact zx c b hc z;rw[hc]at z;cases z;exact hb rfl
end
structure Un(fs ex:List ah)(H H':Hp)(h h':az):Prop where
 keep:∀b o,h.get? b=aB o->H b=aC->b∉fs->b∉ex->h'.get? b=aB o
 slot:∀b o,h.get? b=aB o->H b=aC->b∈fs->b∉ex->∃sl,h'.get? b=aB {o with slots:=sl}
 free:∀b o,h.get? b=aB o->H b=aC->b∉ex->H' b=aC
 there:∀b o,h.get? b=aB o->b∉ex->∃o',h'.get? b=aB o'
 tups:∀b xs,H b=aB (.tup xs)->H' b=aB (.tup xs)
 gO:∀b o u,H b=aB (.bL o u)->H' b=aB (.bL o u)
 iy:∀b ps,H b=aB (.uY ps)->∃more,H' b=aB (.uY (ps++more))
section
variable{fs fs' ex ex':List ah}{H H1 H2:Hp}{h h1 h2 h':az}{a x e:ah}{o:HO}
theorem Un.any(u:Un fs ex H H1 h h1){b:ah}{ob:Obj}(q:h.get? b=aB ob)(n:H b=aC)(hx:b∉ex):∃sl,h1.get? b=aB {ob with slots:=sl}:=by by_cases hb:b∈fs;exact u.slot b ob q n hb hx;exact⟨ob.slots,u.keep b ob q n hb hx⟩
theorem Un.kept(k:∀b u,h.get? b=aB u->h'.get? b=aB u):Un fs ex H H h h':=
 ⟨λb ob q _ _ _=>k b ob q,λb ob q _ _ _=>⟨ob.slots,k b ob q⟩,λ_ _ _ n _=>n,λb ob q _=>⟨ob,k b ob q⟩,λ_ _ q=>q,λ_ _ _ q=>q,λ_ ps q=>⟨#[],by rw[q];simp⟩⟩
theorem Un.refl:Un fs ex H H h h:=Un.kept λ_ _ q=>q
theorem Un.laid(k:∀b u,h.get? b=aB u->h'.get? b=aB u)(hp:h.objs.size<=a)(hn:H a=aC):Un fs ex H (upd H a o) h h' where
 keep:=λb u q _ _ _=>k b u q
 slot:=λb u q _ _ _=>⟨u.slots,k b u q⟩
 free:=λb u q n _=>by rw[bV (fL (ek (cJ q) hp))];exact n
 there:=λb u q _=>⟨u,k b u q⟩
 tups:=λb xs q=>by rw[bV (gG q hn)];exact q
 gO:=λb u xs q=>by rw[bV (gG q hn)];exact q
 iy:=λb ps q=>⟨#[],by rw[bV (gG q hn),q];simp⟩
theorem Un.write(mu:zw (H x))(he:e=x\/H e=aB (.own x))(k:∀b u,b≠e->h.get? b=aB u->h'.get? b=aB u)(xT:∃u,h'.get? e=aB u):Un fs ex H (upd H x o) h h':=by
 have hx:∀b,H b=aC->b≠x:=λb n z=>by subst z;rw[n]at mu;exact mu
 have hb:∀b,H b=aC->b≠e:=λb n z=>by
  subst z;rcases he with r|r
  exact hx b n r;rw[n]at r;cases r
 have hm:∀b u,H b=aB u->¬zw (aB u)->b≠x:=λb u q nm z=>by subst z;rw[q]at mu;exact nm mu
 refine⟨λb u q n _ _=>k b u (hb b n) q,λb u q n _ _=>⟨u.slots,k b u (hb b n) q⟩,λb u q n _=>by rw[bV (hx b n)];exact n,λb u q _=>?_,
  λb xs q=>by rw[bV (hm b _ q λz=>z)];exact q,λb u xs q=>by rw[bV (hm b _ q λz=>z)];exact q,λb ps q=>⟨#[],by rw[bV (hm b _ q λz=>z),q];simp⟩⟩
 by_cases u5:b=e;subst u5;exact xT;exact⟨u,k b u u5 q⟩
end
noncomputable def Dy(h:az)(H:Hp):List ah:=(List.range h.objs.size).filter λa=>(H a).isSome
noncomputable def iP(h:az)(H:Hp):az:=PySem.W.hideAll h (Dy h H)
theorem RD(h:az)(H:Hp):(iP h H).objs.size=h.objs.size:=PySem.W.hideAll_size _ _
theorem RE{h:az}{H:Hp}{b:ah}{o:Obj}(e:h.get? b=aB o)(n:H b=aC):(iP h H).get? b=aB o:=
 PySem.W.hideAll_get _ e λhm=>by
  have q:(H b).isSome=true:=(Dj.mp hm).2;rw[n]at q;simp at q
theorem RG{h:az}{H:Hp}{b:ah}{o:Obj}(e:(iP h H).get? b=aB o):h.get? b=aB o/\H b=aC:=by
 have e':h.get? b=aB o:=PySem.W.of_hideAll (Dy h H) e;refine⟨e',?_⟩;cases q:H b with
 |none=>rfl
 |some x=>
  have hm:b∈Dy h H:=Dj.mpr ⟨uQ.mpr (cJ e'),by simp[q]⟩;have z:(iP h H).get? b=aC:=PySem.W.hideAll_none (Dy h H) hm;rw[z]at e;cases e
structure Mod(K:aH)(mg:Str->Option aa)(base:az):Prop where
 F6:K.In base
 glob:base.Ns mainGlobals mg
 blt:∃mb,base.Ns builtinsNs mb/\∀x:Str,x≠"__name__"->mb x=bootBuiltins x
 nolimit:base.NoLimit
set_option genInjectivity false in
structure Cx where
 prog:ai
 w:aj
 K:aH
 mg:Str->Option aa
 base:az
 A:ak
 N:List Str
 s₀:af
 H₀:Hp
 env:Env
 outer:List Env
 stack:List Env
 ex:List ah
 fn:Str->Bool
 calm:Bool
 pn:List (ah×Obj)
 xe:aa->af->Prop
noncomputable def frs(l:List Env):List ah:=l.filterMap (·.frame)
noncomputable abbrev Cx.fs(X:Cx):List ah:=frs X.outer
noncomputable def xU(sc:ay)(x:Str):Prop:=sc.names.lookup x=aB .local\/sc.names.lookup x=aB .cell\/sc.names.lookup x=aB .free
noncomputable def Loc(sc:ay)(x:Str):Prop:=sc.names.lookup x=aB .local\/sc.names.lookup x=aB .cell
noncomputable def Look(env:Env)(h:az)(m:Str->Option aa)(x:Str)(u:aa):Prop:=
 (env.kindOf x=aB .local/\m x=aB u)\/((env.kindOf x=aB .cell\/env.kindOf x=aB .free)/\∃c,env.cells.lookup x=aB c/\h.IsCell c (aB u))
structure Cx.Ok(X:Cx):Prop where
 mod:Mod X.K X.mg X.base
 kind:X.env.scope.kind=.function
 glob:X.env.globals=mainGlobals
 blt:X.env.builtins=builtinsNs
 above:X.s₀.heap.objs.size<=X.env.locals
 inj:∀x y c,X.env.cells.lookup x=aB c->X.env.cells.lookup y=aB c->x=y
 has:∀x,(X.env.kindOf x=aB .cell\/X.env.kindOf x=aB .free)->∃c,X.env.cells.lookup x=aB c
 zy:∀x c,X.fn x=true->X.env.cells.lookup x=aB c->X.s₀.heap.objs.size<=c
 hd:X.calm=true->X.A.handled=aC
 frames:X.A.frames=aB X.stack
 stk:X.stack=X.outer\/(X.stack=X.env::X.outer/\X.env.frame=aB X.env.locals)
 xV:∀b∈X.ex,b≠X.env.locals/\∀x c,X.env.cells.lookup x=aB c->c≠b
 bs:∀b o,X.base.get? b=aB o->X.s₀.heap.get? b=aB o/\X.H₀ b=aC
 u6:X.base.objs.size<=X.s₀.heap.objs.size
 nq:∀b o,X.base.get? b=aB o->b∉X.ex
 lM:∀b∈X.ex,b∉X.fs
 gP:X.s₀.heap.FunFrames X.base X.outer
 xW:∀b∈X.fs,X.H₀ b=aC
structure Inv(X:Cx)(pins:List (ah×Obj))(σ:List (Option V))(H:Hp)(s:af):Prop where
 ok:X.Ok
 os:s.os=X.s₀.os
 bare:AllBare s.gens
 base:Un X.fs X.ex X.H₀ H X.s₀.heap s.heap
 loc:∃m,s.heap.Ns X.env.locals m/\∀(i:Nat)(x:Str)(v:V),X.N[i]?=aB x->σ[i]?=aB (aB v)->xU X.env.scope x->∃u,RelV v u/\Look X.env s.heap m x u
 cell:∀x c,X.env.cells.lookup x=aB c->∃v,s.heap.IsCell c v
 free:H X.env.locals=aC
 eZ:∀x c,X.env.cells.lookup x=aB c->H c=aC
 pin:∀p∈X.pn++pins,s.heap.get? p.1=aB p.2/\H p.1=aC/\p.1≠X.env.locals/\p.1∉X.fs/\∀v,p.2.data≠.cell v
 hok:eY X.prog X.w H s.heap
 len:σ.length=X.N.length
section
variable{X:Cx}{pins:List (ah×Obj)}{σ:List (Option V)}{H H':Hp}{s:af}{h':az}
theorem Cx.Ok.F7(ok:X.Ok){b:ah}{o:Obj}(e:X.base.get? b=aB o):b∉X.fs:=λhb=>by
 have:=(ok.gP.mem hb).1;rw[e]at this;cases this
theorem Inv.bs(I:Inv X pins σ H s):∀b o,X.base.get? b=aB o->s.heap.get? b=aB o/\H b=aC:=λb o e=>
 ⟨I.base.keep b o (I.ok.bs b o e).1 (I.ok.bs b o e).2 (I.ok.F7 e) (I.ok.nq b o e),I.base.free b o (I.ok.bs b o e).1 (I.ok.bs b o e).2 (I.ok.nq b o e)⟩
theorem Inv.bk(I:Inv X pins σ H s):∀b o,X.base.get? b=aB o->s.heap.get? b=aB o:=λb o e=>(I.bs b o e).1
theorem Inv.mod(I:Inv X pins σ H s):Mod X.K X.mg X.base:=I.ok.mod
theorem Inv.iG(I:Inv X pins σ H s):X.K.In s.heap:=I.ok.mod.F6.keeps I.bk
theorem Inv.lt(I:Inv X pins σ H s):X.env.locals<s.heap.objs.size:=let⟨_,hn,_⟩:=I.loc;hn.lt
theorem Inv.sz(I:Inv X pins σ H s):X.s₀.heap.objs.size<=s.heap.objs.size:=gJ I.ok.above (pX I.lt)
theorem Inv.F8(I:Inv X pins σ H s){a:ah}(h:s.heap.objs.size<=a):a∉X.fs:=λhb=>by
 obtain⟨_,o,ho,_⟩:=I.ok.gP.mem hb;exact absurd (ek (cJ ho) (gJ I.sz h)) (jg _)
theorem Inv.u7(I:Inv X pins σ H s):∀x c,X.env.cells.lookup x=aB c->c≠X.env.locals:=λx c e z=>by
 obtain⟨v,o,ho,hd⟩:=I.cell x c e;obtain⟨m,⟨o',es,ep,ho',hd',_⟩,_⟩:=I.loc;rw[z,ho']at ho;cases ho;rw[hd']at hd;cases hd
theorem Inv.gP(I:Inv X pins σ H s):s.heap.FunFrames X.base X.outer:=by
 have all:∀(l:List Env),(∀b∈frs l,b∈X.fs)->X.s₀.heap.FunFrames X.base l->s.heap.FunFrames X.base l:=by
  intro l;induction l with
  |nil=>intro _ _;trivial
  |cons env r ih=>
   intro hs hl;obtain⟨hk,⟨L,o,hf,hn,ho,hd⟩,hr⟩:=hl;have hL:L∈X.fs:=hs L (by unfold frs;rw[xF,hf];exact dP);obtain⟨sl,e⟩:=I.base.slot L o ho (I.ok.xW L hL) hL λz=>I.ok.lM L z hL;exact⟨hk,⟨L,_,hf,hn,e,hd⟩,ih (λb hb=>hs b (by unfold frs;rw[xF,hf];exact dj _ hb)) hr⟩
 exact all X.outer (λ_ hb=>hb) I.ok.gP
theorem Inv.stack(I:Inv X pins σ H s):s.heap.FunFrames X.base X.stack:=by rcases I.ok.stk with e|⟨e,hf⟩;rw[e];exact I.gP;rw[e];obtain⟨m,hn,_⟩:=I.loc;refine .cons (by rw[I.ok.kind];decide) hf hn ?_ I.gP;exact Heap.get?_none_of_le (gJ I.ok.u6 I.ok.above)
theorem Inv.j5(I:Inv X pins σ H s):∀b∈frs X.stack,b∈X.env.locals::X.fs:=λb hb=>by
 rcases I.ok.stk with e|⟨e,hf⟩;rw[e]at hb;exact dj _ hb;rw[e]at hb;unfold frs at hb;rw[xF,hf]at hb;exact hb
theorem Inv.kF(I:Inv X pins σ H s):∀b∈frs X.stack,H b=aC:=λb hb=>by
 rcases fm.mp (I.j5 b hb)with e|hb;rw[e];exact I.free;obtain⟨_,o,ho,_⟩:=I.ok.gP.mem hb;exact I.base.free b o ho (I.ok.xW b hb) λz=>I.ok.lM b z hb
theorem Inv.step{g':Array GenState}{t':Nat}{d':Drawn}{ch:List ah}(I:Inv X pins σ H s)
 (hch:∀b∈ch,(b∈X.ex\/X.s₀.heap.objs.size<=b)/\b≠X.env.locals/\(∀x c,X.env.cells.lookup x=aB c->c≠b)/\∀p∈X.pn++pins,p.1≠b)
 (keep:∀b o,b≠X.env.locals->b∉X.fs->b∉ch->s.heap.get? b=aB o->H b=aC->h'.get? b=aB o)
 (slot:∀b o,b≠X.env.locals->b∈X.fs->b∉ch->s.heap.get? b=aB o->H b=aC->∃sl,h'.get? b=aB {o with slots:=sl}) (free:∀b o,b∉ch->s.heap.get? b=aB o->H b=aC->H' b=aC)
 (there:∀b o,b∉ch->s.heap.get? b=aB o->∃o',h'.get? b=aB o')
 (tups:∀b xs,H b=aB (.tup xs)->H' b=aB (.tup xs)) (gO:∀b o u,H b=aB (.bL o u)->H' b=aB (.bL o u)) (iy:∀b ps,H b=aB (.uY ps)->∃more,H' b=aB (.uY (ps++more)))
 (ns:∀m,s.heap.Ns X.env.locals m->h'.Ns X.env.locals m) (hok:eY X.prog X.w H' h') (hg:AllBare g') :
 Inv X pins σ H' {s with heap:=h',gens:=g',drawn:=d',toks:=t'}:=by
 have Mx:∀b o,X.s₀.heap.get? b=aB o->b≠X.env.locals:=λb o e=>fL (ek (cJ e) I.ok.above);have mV:∀b o,X.s₀.heap.get? b=aB o->b∉X.ex->b∉ch:=λb o e hx hb=>by
  rcases(hch b hb).1 with z|z;exact hx z;exact absurd (ek (cJ e) z) (jg _)
 have cellK:∀x c,X.env.cells.lookup x=aB c->∀v,s.heap.IsCell c v->h'.IsCell c v:=λx c e v bZ=>by
  obtain⟨o,ho,hd⟩:=bZ;have zz:c∉ch:=λz=>(hch c z).2.2.1 x c e rfl;by_cases hc:c∈X.fs;obtain⟨sl,q⟩:=slot c o (I.u7 x c e) hc zz ho (I.eZ x c e);exact⟨_,q,hd⟩;exact⟨o,keep c o (I.u7 x c e) hc zz ho (I.eZ x c e),hd⟩
 refine⟨I.ok,I.os,hg,⟨λb o e n hb hx=>?_,λb o e n hb hx=>?_,λb o e n hx=>?_,λb o e hx=>?_,λb xs e=>tups b xs (I.base.tups b xs e),λb o xs e=>gO b o xs (I.base.gO b o xs e),λb ps e=>?_⟩,?_,λx c e=>?_,?_,λx c e=>?_,λp hp=>?_,hok,I.len⟩;exact keep b o (Mx b o e) hb (mV b o e hx) (I.base.keep b o e n hb hx) (I.base.free b o e n hx);obtain⟨sl,e1⟩:=I.base.slot b o e n hb hx;obtain⟨RH,e2⟩:=slot b _ (Mx b o e) hb (mV b o e hx) e1 (I.base.free b o e n hx);exact⟨RH,e2⟩;obtain⟨o',e1⟩:=I.base.there b o e hx;exact free b o' (mV b o e hx) e1 (I.base.free b o e n hx);obtain⟨o',e1⟩:=I.base.there b o e hx;exact there b o' (mV b o e hx) e1;obtain⟨m1,e1⟩:=I.base.iy b ps e;obtain⟨m2,e2⟩:=iy b _ e1;exact⟨m1++m2,by rw[e2,Array.append_assoc]⟩;obtain⟨m,hn,hl⟩:=I.loc;refine⟨m,ns m hn,λi x v e1 e2 e3=>?_⟩;obtain⟨u,r,l⟩:=hl i x v e1 e2 e3;refine⟨u,r,?_⟩;rcases l with l|⟨k,c,e,z⟩
 exact .inl l;exact .inr ⟨k,c,e,cellK x c e _ z⟩;obtain⟨v,z⟩:=I.cell x c e;exact⟨v,cellK x c e v z⟩;obtain⟨m,⟨o,_,_,ho,_⟩,_⟩:=I.loc;exact free _ o (λz=>(hch _ z).2.1 rfl) ho I.free;obtain⟨v,o,ho,hd⟩:=I.cell x c e;exact free c o (λz=>(hch c z).2.2.1 x c e rfl) ho (I.eZ x c e);obtain⟨e,n,ne,nf,d⟩:=I.pin p hp;have zz:p.1∉ch:=λz=>(hch p.1 z).2.2.2 p hp rfl;exact⟨keep p.1 p.2 ne nf zz e n,free p.1 p.2 zz e n,ne,nf,d⟩
theorem Inv.un{t':Nat}(I:Inv X pins σ H s)(u:Un X.fs [] H H' s.heap h')(hok:eY X.prog X.w H' h'):Inv X pins σ H' {s with heap:=h',toks:=t'}:=by
 obtain⟨m,⟨o,es,ep,ho,r⟩,_⟩:=id I.loc;obtain⟨sl,hL⟩:=u.any ho I.free (by simp);exact I.step (g':=s.gens) (d':=s.drawn) (ch:=[]) (λ_ z=>nomatch z) (λb o _ hb _ e n=>u.keep b o e n hb (by simp)) (λb o _ hb _ e n=>u.slot b o e n hb (by simp)) (λb o _ e n=>u.free b o e n (by simp)) (λb o _ e=>u.there b o e (by simp)) u.tups u.gO u.iy (λm' hm=>by
  obtain⟨o',es',F9,ho',r'⟩:=hm;rw[ho]at ho';cases ho';exact⟨_,es',F9,hL,r'⟩) hok I.bare
theorem Inv.call{g':Array GenState}{t':Nat}{d':Drawn}{ch:List ah}(I:Inv X pins σ H s)(u:Un (frs X.stack) ch H H' s.heap h')(hok:eY X.prog X.w H' h')(hg:AllBare g')
 (hch:∀b∈ch,(b∈X.ex\/X.s₀.heap.objs.size<=b)/\b≠X.env.locals/\(∀x c,X.env.cells.lookup x=aB c->c≠b)/\∀p∈X.pn++pins,p.1≠b) :
 Inv X pins σ H' {s with heap:=h',gens:=g',drawn:=d',toks:=t'}:=by
 obtain⟨m,⟨o,es,ep,ho,r⟩,_⟩:=id I.loc;obtain⟨sl,hL⟩:=u.any ho I.free λz=>(hch _ z).2.1 rfl;exact I.step (ch:=ch) hch (λb o hL hb hc e n=>u.keep b o e n (λz=>(fm.mp (I.j5 b z)).elim hL hb) hc) (λb o _ _ hc e n=>u.any e n hc) (λb o hc e n=>u.free b o e n hc) (λb o hc e=>u.there b o e hc) u.tups u.gO u.iy (λm' hm=>by
  obtain⟨o',es',F9,ho',r'⟩:=hm;rw[ho]at ho';cases ho';exact⟨_,es',F9,hL,r'⟩) hok hg
theorem Inv.turned{t':Nat}{it:ah}(I:Inv X pins σ H s)(k:∀b o,b≠it->s.heap.get? b=aB o->h'.get? b=aB o)(hn:H it=aC)(hL:it≠X.env.locals)
 (h1:it∈X.ex\/X.s₀.heap.objs.size<=it) (h2:∀x c,X.env.cells.lookup x=aB c->c≠it) (h3:∀p∈X.pn++pins,p.1≠it):Inv X pins σ H {s with heap:=h',toks:=t'}:=by
 have My:∀b u,H b=aB u->b≠it:=λb u e z=>by rw[z,hn]at e;cases e
 refine I.step (g':=s.gens) (d':=s.drawn) (ch:=[it]) (λb hb=>?_) (λb o _ _ hc e _=>k b o (λz=>hc (by simp[z])) e) (λb o _ _ hc e _=>⟨o.slots,k b o (λz=>hc (by simp[z])) e⟩) (λ_ _ _ _ n=>n)
  (λb o hc e=>⟨o,k b o (λz=>hc (by simp[z])) e⟩) (λ_ _ e=>e) (λ_ _ _ e=>e) (λb ps e=>⟨#[],by rw[e];simp⟩) (λm hm=>?_) (λb u e=>?_) I.bare
 have e:b=it:=by simpa using hb
 subst e;exact⟨h1,hL,h2,h3⟩;obtain⟨o,es,ep,ho,r⟩:=hm;exact⟨o,es,ep,k _ o (fK hL) ho,r⟩;refine(I.hok b u e).stay (λc v hc q=>k c v ?_ q) (λ_ q=>q) λ_ _ q=>q;rcases hc with z|z
 rw[z];exact My b u e;exact My c _ z
theorem Inv.tok(I:Inv X pins σ H s)(t:Nat):Inv X pins σ H {s with toks:=t}:=I.un (h':=s.heap) (t':=t) Un.refl I.hok
theorem Inv.kept{t':Nat}(I:Inv X pins σ H s)(k:∀b u,s.heap.get? b=aB u->h'.get? b=aB u):Inv X pins σ H {s with heap:=h',toks:=t'}:=I.un (Un.kept k) (I.hok.kept k)
theorem Inv.laid{a:ah}{o:HO}{t':Nat}(I:Inv X pins σ H s)(k:∀b u,s.heap.get? b=aB u->h'.get? b=aB u)(hp:s.heap.objs.size<=a)(new:br X.prog X.w (upd H a o) h' a o) :
 Inv X pins σ (upd H a o) {s with heap:=h',toks:=t'}:=I.un (Un.laid k hp (I.hok.fresh hp)) (I.hok.laid k hp new)
theorem Inv.write{x e:ah}{o:HO}{t':Nat}(I:Inv X pins σ H s)(mu:zw (H x))(he:e=x\/H e=aB (.own x))(k:∀b u,b≠e->s.heap.get? b=aB u->h'.get? b=aB u)(xT:∃u,h'.get? e=aB u)
 (new:br X.prog X.w (upd H x o) h' x o):Inv X pins σ (upd H x o) {s with heap:=h',toks:=t'}:=I.un (Un.write mu he k xT) (I.hok.write mu he k xT new)
theorem Inv.kG{tB:List (ah×Obj)}(I:Inv X pins σ H s)(h:∀p∈tB,s.heap.get? p.1=aB p.2/\H p.1=aC/\p.1≠X.env.locals/\p.1∉X.fs/\∀v,p.2.data≠.cell v):Inv X tB σ H s:=
 ⟨I.ok,I.os,I.bare,I.base,I.loc,I.cell,I.free,I.eZ,λp hp=>(kD.mp hp).elim (λz=>I.pin p (yT _ z)) (h p),I.hok,I.len⟩
theorem Mz{N:List Str}(hN:N.Nodup){i j:Nat}{x:Str}(a:N[i]?=aB x)(b:N[j]?=aB x):i=j:=by obtain⟨h1,e1⟩:=kB.mp a;obtain⟨h2,e2⟩:=kB.mp b;exact(List.getElem_inj hN).mp (e1.trans e2.symm)
theorem Ga{M:Model}{A:ak}{E:aa->af->Prop}{i:Nat}{x:Str}{v:V}{u:aa}{Q:Unit->af->Prop}(I:Inv X pins σ H s)(hN:X.N.Nodup)(hi:X.N[i]?=aB x)(hx:Loc X.env.scope x)(r:RelV v u)
 (h:∀s',Inv X pins (σ.set i (aB v)) H s'->(∃a,Heap.SameBut a s.heap s'.heap/\(a=X.env.locals\/X.env.cells.lookup x=aB a))->Q () s') (hf:autoParam (X.fn x=true\/X.env.scope.names.lookup x=aB .local) L2.aF1._auto_1):wpAny M A (storeName X.env x u) Q E s:=by
 obtain⟨m,hn,hl⟩:=id I.loc;have hcls:(X.env.scope.kind == .class|| (X.env.scope.kind == .module&&X.env.locals != X.env.globals))=false:=by rw[I.ok.kind];rfl
 have zA:i<σ.length:=by rw[I.len];exact(kB.mp hi).1
 have u7:=I.u7;have tracked:∀{a:ah}{h':az},(∃o,s.heap.get? a=aB o/\H a=aC)->Heap.SameBut a s.heap h'->eY X.prog X.w H h':=λ{a h'} ha hs b ob e=>by
  obtain⟨_,_,hfree⟩:=ha;refine(I.hok b ob e).stay (λc w' hc q=>(hs.2 c ?_).trans q) (λ_ q=>q) λ_ _ q=>q;rintro rfl;rcases hc with rfl|hc;rw[hfree]at e;cases e;rw[hfree]at hc;cases hc
 rcases hx with hk|hk;refine wpAny_storeName_local hk hn (λh' hn' hs=>?_) hcls;obtain⟨oL,_,_,RI,_⟩:=id hn;refine h _ ⟨I.ok,I.os,I.bare,⟨λb o e n hb hx=>?_,λb o e n hb hx=>?_,I.base.free,λb o e hx=>?_,I.base.tups,I.base.gO,I.base.iy⟩,⟨_,hn',λj y v' e1 e2 e3=>?_⟩,λy c e=>?_,I.free,I.eZ,λp hp=>?_,tracked ⟨oL,RI,I.free⟩ hs,by simpa using I.len⟩ ⟨_,hs,.inl rfl⟩;exact(hs.2 b (fL (ek (cJ e) I.ok.above))).trans (I.base.keep b o e n hb hx);obtain⟨sl,e1⟩:=I.base.slot b o e n hb hx;exact⟨sl,(hs.2 b (fL (ek (cJ e) I.ok.above))).trans e1⟩;obtain⟨o',e1⟩:=I.base.there b o e hx;exact⟨o',(hs.2 b (fL (ek (cJ e) I.ok.above))).trans e1⟩;by_cases hj:j=i;subst hj;rw[hi]at e1;cases e1;rw[uO zA]at e2;cases e2;exact⟨u,r,.inl ⟨hk,by simp⟩⟩;rw[yU (fK hj)]at e2;obtain⟨u',r',q⟩:=hl j y v' e1 e2 e3;refine⟨u',r',?_⟩;rcases q with⟨k,e⟩|⟨k,c,e,z⟩;refine .inl ⟨k,?_⟩;have:y≠x:=λe=>hj (Mz hN e1 (e▸hi));simp[this,e];exact .inr ⟨k,c,e,z.sameBut hs (u7 y c e)⟩;obtain⟨w',z⟩:=I.cell y c e;exact⟨w',z.sameBut hs (u7 y c e)⟩;obtain⟨e,n,ne,nf,d⟩:=I.pin p hp;exact⟨(hs.2 p.1 ne).trans e,n,ne,nf,d⟩;have hfn:X.fn x=true:=by rcases hf with z|z;exact z;rw[z]at hk;cases hk
 obtain⟨c,hc⟩:=I.ok.has x (.inl hk);obtain⟨w',z⟩:=I.cell x c hc;refine wpAny_storeName_cell I.ok.kind hk hc z (λh' hc' hs=>?_);obtain⟨oc,hoc,Gb⟩:=id z;refine h {s with heap:=h'} ⟨I.ok,I.os,I.bare,⟨λb o e n hb hx=>?_,λb o e n hb hx=>?_,I.base.free,λb o e hx=>?_,I.base.tups,I.base.gO,I.base.iy⟩,⟨m,hn.sameBut hs (fK (u7 x c hc)),λj y v' e1 e2 e3=>?_⟩,λy c' e=>?_,I.free,I.eZ,λp hp=>?_,tracked ⟨oc,hoc,I.eZ x c hc⟩ hs,by simpa using I.len⟩ ⟨c,hs,.inr hc⟩;exact(hs.2 b (fL (ek (cJ e) (I.ok.zy x c hfn hc)))).trans (I.base.keep b o e n hb hx);obtain⟨sl,e1⟩:=I.base.slot b o e n hb hx;exact⟨sl,(hs.2 b (fL (ek (cJ e) (I.ok.zy x c hfn hc)))).trans e1⟩;obtain⟨o',e1⟩:=I.base.there b o e hx;exact⟨o',(hs.2 b (fL (ek (cJ e) (I.ok.zy x c hfn hc)))).trans e1⟩;by_cases hj:j=i;subst hj;rw[hi]at e1;cases e1;rw[uO zA]at e2;cases e2;exact⟨u,r,.inr ⟨.inl hk,c,hc,hc'⟩⟩;rw[yU (fK hj)]at e2;obtain⟨u',r',q⟩:=hl j y v' e1 e2 e3;refine⟨u',r',?_⟩;rcases q with q|⟨k,c',e,z'⟩;exact .inl q;refine .inr ⟨k,c',e,z'.sameBut hs ?_⟩;rintro rfl;exact hj (Mz hN e1 (I.ok.inj _ _ _ e hc▸hi));by_cases hcc:c'=c;subst hcc;exact⟨_,hc'⟩;obtain⟨w2,z2⟩:=I.cell y c' e;exact⟨w2,z2.sameBut hs hcc⟩;obtain⟨e,n,ne,nf,d⟩:=I.pin p hp;refine⟨(hs.2 p.1 ?_).trans e,n,ne,nf,d⟩;intro q;rw[q,hoc]at e;have q':oc=p.2:=nk e;exact d w' (by rw[<-q'];exact Gb)
theorem Gd{M:Model}{A:ak}{E:aa->af->Prop}{i:Nat}{x:Str}{v:V}{u:aa}{Q:Unit->af->Prop}(I:Inv X pins σ H s)(hN:X.N.Nodup)(hi:X.N[i]?=aB x)(hx:Loc X.env.scope x)(r:RelV v u)
 (h:∀s',Inv X pins (σ.set i (aB v)) H s'->Q () s') (hf:autoParam (X.fn x=true\/X.env.scope.names.lookup x=aB .local) L2.aF1._auto_1):wpAny M A (storeName X.env x u) Q E s:=
 Ga I hN hi hx r (λs' I' _=>h s' I') hf
theorem Inv.tD{s':af}{ch:List ah}(I:Inv X pins σ H s)(ho:s'.os=s.os)(u:Un (frs X.stack) ch H H' s.heap s'.heap)(hok:eY X.prog X.w H' s'.heap)(hg:AllBare s'.gens)
 (hch:∀b∈ch,(b∈X.ex\/X.s₀.heap.objs.size<=b)/\b≠X.env.locals/\(∀x c,X.env.cells.lookup x=aB c->c≠b)/\∀p∈X.pn++pins,p.1≠b):Inv X pins σ H' s':=by
 obtain⟨h',g',d',t',o'⟩:=s';have e:o'=s.os:=ho;subst e;exact I.call (g':=g') (t':=t') (d':=d') u hok hg hch
end
noncomputable abbrev XK:=aa->Option ah->Hp->Prop
noncomputable abbrev St:=List (Option V)
noncomputable abbrev VK:=V->Hp->Prop
noncomputable abbrev TE:=St->Hp->VK->Prop
noncomputable abbrev TT:=St->Hp->(Bool->Hp->Prop)->Prop
noncomputable abbrev TA:=St->Hp->(List V->Hp->Prop)->Prop
set_option genInjectivity false in
structure Ends where
 nx:St->Hp->Prop
 rt:VK
 bk:St->Hp->Prop:=λ_ _=>False
 ct:St->Hp->Prop:=λ_ _=>False
noncomputable abbrev TS:=Ends->St->Hp->Prop
noncomputable def EP(X:Cx)(pins:List (ah×Obj))(σ:St)(Q:VK)(u:aa)(s':af):Prop:=∃v H',Inv X pins σ H' s'/\RelV v u/\Q v H'
noncomputable def TP(X:Cx)(pins:List (ah×Obj))(σ:St)(Q:Bool->Hp->Prop)(b:Bool)(s':af):Prop:=∃H',Inv X pins σ H' s'/\Q b H'
noncomputable def AP(X:Cx)(pins:List (ah×Obj))(σ:St)(Q:List V->Hp->Prop)(us:List aa)(s':af):Prop:=∃vs H',Inv X pins σ H' s'/\Vals vs us/\Q vs H'
theorem EP.el{X:Cx}{pins:List (ah×Obj)}{σ:St}{Q:VK}{u:aa}{s':af}{P:Prop}(q:EP X pins σ Q u s')(k:∀v H',Inv X pins σ H' s'->RelV v u->Q v H'->P):P:=by obtain⟨v,H',a,b,c⟩:=q;exact k v H' a b c
theorem TP.el{X:Cx}{pins:List (ah×Obj)}{σ:St}{Q:Bool->Hp->Prop}{b:Bool}{s':af}{P:Prop}(q:TP X pins σ Q b s')(k:∀H',Inv X pins σ H' s'->Q b H'->P):P:=by obtain⟨H',a,c⟩:=q;exact k H' a c
theorem AP.el{X:Cx}{pins:List (ah×Obj)}{σ:St}{Q:List V->Hp->Prop}{us:List aa}{s':af}{P:Prop}(q:AP X pins σ Q us s')(k:∀vs H',Inv X pins σ H' s'->Vals vs us->Q vs H'->P):P:=by obtain⟨v,H',a,b,c⟩:=q;exact k v H' a b c
noncomputable def SP(X:Cx)(pins:List (ah×Obj))(D:Ends)(f:Flow)(s':af):Prop:=
 match f with|.next=>∃σ' H',Inv X pins σ' H' s'/\D.nx σ' H'|.brk=>∃σ' H',Inv X pins σ' H' s'/\D.bk σ' H'|.cont=>∃σ' H',Inv X pins σ' H' s'/\D.ct σ' H'|.ret u=>∃v σ' H',Inv X pins σ' H' s'/\RelV v u/\D.rt v H'
noncomputable def PE(X:Cx)(e:ao)(t:TE):Prop:=
 ∀(pins:List (ah×Obj))(s:af)(σ:St)(H:Hp)(Q:VK),Inv X pins σ H s->t σ H Q->wpAny (model X.prog X.w) X.A (eval e X.env) (EP X pins σ Q) X.xe s
noncomputable def PT(X:Cx)(e:ao)(t:TT):Prop:=
 ∀(pins:List (ah×Obj))(s:af)(σ:St)(H:Hp)(Q:Bool->Hp->Prop),Inv X pins σ H s->t σ H Q->wpAny (model X.prog X.w) X.A (isTrue e X.env (eval e X.env)) (TP X pins σ Q) X.xe s
noncomputable def PW(X:Cx)(e:ao)(t:TT):Prop:=
 ∀(whole:Sem aa)(pins:List (ah×Obj))(s:af)(σ:St)(H:Hp)(Q:Bool->Hp->Prop),Inv X pins σ H s->t σ H Q->wpAny (model X.prog X.w) X.A (isTrue e X.env whole) (TP X pins σ Q) X.xe s
theorem PW.pt{X:Cx}{e:ao}{t:TT}(h:PW X e t):PT X e t:=h _
noncomputable def PA(X:Cx)(es:List ao)(t:TA):Prop:=
 ∀(pos:Pos)(pins:List (ah×Obj))(s:af)(σ:St)(H:Hp)(Q:List V->Hp->Prop),Inv X pins σ H s->t σ H Q->wpAny (model X.prog X.w) X.A (spliced (backTo pos (starEach es X.env))) (AP X pins σ Q) X.xe s
noncomputable def PS(X:Cx)(st:aq)(t:TS):Prop:=
 ∀(pins:List (ah×Obj))(s:af)(σ:St)(H:Hp)(D:Ends),Inv X pins σ H s->t D σ H->wpAny (model X.prog X.w) X.A (exec st X.env) (SP X pins D) X.xe s
noncomputable def jN(X:Cx)(st:List aq)(t:TS):Prop:=
 ∀(pins:List (ah×Obj))(s:af)(σ:St)(H:Hp)(D:Ends),Inv X pins σ H s->t D σ H->wpAny (model X.prog X.w) X.A (execs st X.env) (SP X pins D) X.xe s
theorem aY{α:Type}{t:Sem α}{Q Q':α->af->Prop}{M:Model}{A:ak}{E:aa->af->Prop}{s:af}(h:wpAny M A t Q E s)(hQ:∀a s,Q a s->Q' a s):wpAny M A t Q' E s:=fS h hQ λ_ _ x=>x
section
variable{X:Cx}
noncomputable def Ge(i:Nat):TE:=λσ H Q=>∃v,σ[i]?=aB (aB v)/\Q v H
noncomputable def tC(v:V):TE:=λ_ H Q=>Q v H
theorem RJ{i:Nat}{x:Str}{pos:Pos}(hN:X.N[i]?=aB x)(hv:xU X.env.scope x)(hd:autoParam ((x==("__debug__" : Str))=false) L2.aD1._auto_1)(hcd:autoParam ((x==("__classdict__" : Str))=false) L2.aD1._auto_1):PE X (.Name x pos) (Ge i):=by
 intro pins s σ H Q I h;obtain⟨v,e,h⟩:=h;obtain⟨m,hn,hl⟩:=I.loc;obtain⟨u,r,l⟩:=hl i x v hN e hv;have fin:EP X pins σ Q u s:=⟨v,H,I,r,h⟩
 rcases l with⟨hk,hm⟩|⟨hk,c,hc,hcell⟩;exact wpAny_Name (wpAny_loadName_local I.ok.kind hk hn hm fin) hd;rcases hk with hk|hk;exact wpAny_Name (wpAny_loadName_cell I.ok.kind hk hc hcell fin) hd;exact wpAny_Name (wpAny_loadName_free I.ok.kind hk hc hcell fin hcd) hd
theorem RK{i j pos}:PE X (.Constant (.int i) j pos) (tC (.int i)):=λ_ _ _ H _ I h=>wpAny_Constant_int ⟨.int i,H,I.tok _,⟨_,rfl⟩,h⟩
theorem zB{b j pos}:PE X (.Constant (.bool b) j pos) (tC (.bl b)):=λ_ _ _ H _ I h=>Constant_bool ⟨.bl b,H,I,rfl,h⟩
theorem RL{j pos}:PE X (.Constant .none j pos) (tC .aL):=λ_ _ _ H _ I h=>Constant_none ⟨.aL,H,I,rfl,h⟩
theorem RM{x j pos}:PE X (.Constant (.str x) j pos) (tC (.str x)):=λ_ _ _ H _ I h=>Calls.Constant_str ⟨.str x,H,I.tok _,⟨_,rfl⟩,h⟩
noncomputable def Gl(X:Cx)(x:Str):Prop:=X.env.kindOf x=aB .globalImplicit
theorem Gf{E:aa->af->Prop}{pins:List (ah×Obj)}{s:af}{σ:St}{H:Hp}{x:Str}{u:aa}{pos:Pos}{Q:aa->af->Prop}(I:Inv X pins σ H s)(hg:Gl X x)(hm:X.mg x=aB u)(h:Q u s)
 (hd:autoParam ((x==("__debug__" : Str))=false) L2.aD1._auto_1):wpAny (model X.prog X.w) X.A (eval (.Name x pos) X.env) Q E s:=
 Calls.Name_function_global I.ok.kind hg (Calls.loadGlobal_global (by rw[I.ok.glob];exact I.mod.glob.keeps I.bk) hm h) hd
theorem qg{E:aa->af->Prop}{pins:List (ah×Obj)}{s:af}{σ:St}{H:Hp}{x:Str}{u:aa}{pos:Pos}{Q:aa->af->Prop}(I:Inv X pins σ H s)(hg:Gl X x)(hm:X.mg x=aC)(hv:bootBuiltins x=aB u)(h:Q u s)
 (hn:autoParam (x≠"__name__") L2.aD1._auto_1) (hd:autoParam ((x==("__debug__" : Str))=false) L2.aD1._auto_1):wpAny (model X.prog X.w) X.A (eval (.Name x pos) X.env) Q E s:=by
 obtain⟨mb,h1,h2⟩:=I.mod.blt;exact Calls.Name_function_global I.ok.kind hg (Calls.loadGlobal_builtin (by rw[I.ok.glob];exact I.mod.glob.keeps I.bk) hm (by rw[I.ok.blt];exact h1.keeps I.bk) ((h2 x hn).trans hv) h) hd
theorem RN{x:Str}{v:V}{u:aa}{pos:Pos}(hg:Gl X x)(hm:X.mg x=aB u)(r:RelV v u)(hd:autoParam ((x==("__debug__" : Str))=false) L2.aD1._auto_1):PE X (.Name x pos) (tC v):=
 λ_ _ _ H _ I h=>Gf I hg hm ⟨v,H,I,r,h⟩ hd
theorem RO{x:Str}{v:V}{u:aa}{pos:Pos}(hg:Gl X x)(hm:X.mg x=aC)(hv:bootBuiltins x=aB u)(r:RelV v u)(hn:autoParam (x≠"__name__") L2.aD1._auto_1)(hd:autoParam ((x==("__debug__" : Str))=false) L2.aD1._auto_1):PE X (.Name x pos) (tC v):=
 λ_ _ _ H _ I h=>qg I hg hm hv ⟨v,H,I,r,h⟩ hn hd
variable{a b:ao}{ta tb:TE}{pos:Pos}
variable{tA Dz:TT}{rest:List ao}
noncomputable def Gg(t u:TT):TT:=λσ H Q=>t σ H λc H1=>if c=true then u σ H1 Q else Q false H1
noncomputable def RP(t u:TT):TT:=λσ H Q=>t σ H λc H1=>if c=true then Q true H1 else u σ H1 Q
noncomputable def Gh(t:TT):TT:=λσ H Q=>t σ H λc H1=>Q (!c) H1
theorem RQ(ha:PT X a tA):PW X (.BoolOp .And [a] pos) tA:=by
 intro wh pins s σ H Q I h;refine isTrue_and (aY (ha pins s σ H Q I h) λc s1 e=>?_);cases c with|true=>exact isTrue_and_nil e|false=>exact e
theorem RS(ha:PT X a tA):PW X (.BoolOp .Or [a] pos) tA:=by
 intro wh pins s σ H Q I h;refine isTrue_or (aY (ha pins s σ H Q I h) λc s1 e=>?_);cases c with|false=>exact isTrue_or_nil e|true=>exact e
theorem RT(ha:PT X a tA)(hb:PW X (.BoolOp .And (b::rest) pos) Dz):PW X (.BoolOp .And (a::b::rest) pos) (Gg tA Dz):=by
 intro wh pins s σ H Q I h;refine isTrue_and (aY (ha pins s σ H _ I h) λc s1 z9=>z9.el λH1 I1 q1=>?_);cases c with|true=>exact hb wh pins s1 σ H1 Q I1 q1|false=>exact⟨H1,I1,q1⟩
theorem pw_or(ha:PT X a tA)(hb:PW X (.BoolOp .Or (b::rest) pos) Dz):PW X (.BoolOp .Or (a::b::rest) pos) (RP tA Dz):=by
 intro wh pins s σ H Q I h;refine isTrue_or (aY (ha pins s σ H _ I h) λc s1 z9=>z9.el λH1 I1 q1=>?_);cases c with|true=>exact⟨H1,I1,q1⟩|false=>exact hb wh pins s1 σ H1 Q I1 q1
theorem RU(ha:PT X a tA):PT X (.UnaryOp .Not a pos) (Gh tA):=by intro pins s σ H Q I h;exact isTrue_not (ha pins s σ H (λc H1=>Q (!c) H1) I h)
noncomputable def zC(ta tb:TE):TE:=λσ H Q=>ta σ H λx H1=>∃c,x=.bl c/\if c=true then tb σ H1 Q else Q (.bl false) H1
noncomputable def Gi(ta tb:TE):TE:=λσ H Q=>ta σ H λx H1=>∃c,x=.bl c/\if c=true then Q (.bl true) H1 else tb σ H1 Q
noncomputable def zD(ta:TE):TE:=λσ H Q=>ta σ H λx H1=>∃c,x=.bl c/\Q (.bl (!c)) H1
theorem RV{op}{t:TE}(h:PE X a t):PE X (.BoolOp op [a] pos) t:=λpins s σ H Q I hw=>BoolOp_one (h pins s σ H Q I hw)
theorem RW(ha:PE X a ta)(hb:PE X (.BoolOp .And (b::rest) pos) tb):PE X (.BoolOp .And (a::b::rest) pos) (zC ta tb):=by
 intro pins s σ H Q I h;refine BoolOp_and (aY (ha pins s σ H _ I h) λv s1 z9=>z9.el λx H1 I1 r1 q1=>?_);obtain⟨c,rfl,q1⟩:=q1;cases r1;refine pU ?_;cases c with|true=>exact hb pins s1 σ H1 Q I1 q1|false=>exact⟨.bl false,H1,I1,rfl,q1⟩
theorem zE(ha:PE X a ta)(hb:PE X (.BoolOp .Or (b::rest) pos) tb):PE X (.BoolOp .Or (a::b::rest) pos) (Gi ta tb):=by
 intro pins s σ H Q I h;refine BoolOp_or (aY (ha pins s σ H _ I h) λv s1 z9=>z9.el λx H1 I1 r1 q1=>?_);obtain⟨c,rfl,q1⟩:=q1;cases r1;refine pU ?_;cases c with|false=>exact hb pins s1 σ H1 Q I1 q1|true=>exact⟨.bl true,H1,I1,rfl,q1⟩
theorem RX(ha:PE X a ta):PE X (.UnaryOp .Not a pos) (zD ta):=by intro pins s σ H Q I h;refine UnaryOp_ (aY (ha pins s σ H _ I h) λv s1 z9=>z9.el λx H1 I1 r1 q1=>?_);obtain⟨c,rfl,q1⟩:=q1;cases r1;exact not_of (pU ⟨.bl (!c),H1,I1,rfl,q1⟩)
noncomputable def RY(t:TT)(ta tb:TE):TE:=λσ H Q=>t σ H λc H1=>if c=true then ta σ H1 Q else tb σ H1 Q
theorem RZ{c:ao}(hc:PT X c tA)(ha:PE X a ta)(hb:PE X b tb):PE X (.IfExp c a b pos) (RY tA ta tb):=by
 intro pins s σ H Q I h;refine wpAny_IfExp (aY (hc pins s σ H _ I h) λd s1 z9=>z9.el λH1 I1 q1=>?_);cases d with|true=>exact ha pins s1 σ H1 Q I1 q1|false=>exact hb pins s1 σ H1 Q I1 q1
end
noncomputable def cH(K:aH)(H:Hp)(a:ah)(xs:List V):Prop:=
 Rd H a (.lst xs)\/
  ∃(o:Obj) (its:Array aa) (n:Nat),K.lookup a=aB o/\o.cls=.type "list"/\o.dict=aC/\o.data=.seq its n/\its.size<=sizeLine/\Vals xs its.toList
noncomputable def bW(K:aH)(H:Hp)(a:ah)(xs:List V):Prop:=
 Rd H a (.tup xs)\/
  ∃(o:Obj) (its:Array aa) (n:Nat),K.lookup a=aB o/\o.cls=.type "tuple"/\o.dict=aC/\o.data=.seq its n/\its.size<=sizeLine/\Vals xs its.toList
noncomputable def Gj:aa->Option V|.none=>aB .aL|.bool b=>aB (.bl b)|.int i _=>aB (.int i)|.str x _=>aB (.str x)|.bytes b _=>aB (.zm b)|.float b _=>aB (.xS b)|.ref a=>aB (.ref a)|.type n=>aB (.ty n)|_=>aC
theorem RelV.abs{x:V}{u:aa}(r:RelV x u):Gj u=aB x:=by
 cases x with|aL=>cases r;rfl|bl _=>cases r;rfl|int _=>obtain⟨t,rfl⟩:=r;rfl|str _=>obtain⟨t,rfl⟩:=r;rfl|zm _=>obtain⟨t,rfl⟩:=r;rfl|xS _=>obtain⟨t,rfl⟩:=r;rfl|ref _=>cases r;rfl|ty _=>cases r;rfl
theorem RelV.inj{x y:V}{u:aa}(r:RelV x u)(q:RelV y u):x=y:=nk (r.abs.symm.trans q.abs)
theorem Vals.inj:∀{xs ys:List V} {us:List aa},Vals xs us->Vals ys us->xs=ys|_,_,_,.nil,.nil=>rfl|_,_,_,.cons r t,.cons r' t'=>by rw[r.inj r',Vals.inj t t']
section
variable{X:Cx}{pins:List (ah×Obj)}{σ:St}{H:Hp}{s:af}{a:ah}{xs ys:List V}
theorem cH.of{K:aH}(h:H a=aB (.lst xs)):cH K H a xs:=.inl (.inl h)
theorem bW.of{K:aH}(h:H a=aB (.tup xs)):bW K H a xs:=.inl (.inl h)
theorem Inv.list(I:Inv X pins σ H s)(h:cH X.K H a xs):∃its:List aa,Vals xs its/\PlainL s.heap a its.toArray/\xs.length<=sizeLine:=by rcases h with h|⟨o,its,n,hk,hc,hd,hs,hz,r⟩;obtain⟨z,its,n,r,e⟩:=h.ok I.hok;exact⟨its,r,⟨_,n,e,rfl,rfl,rfl⟩,z⟩;refine⟨its.toList,r,⟨o,n,I.iG a o hk,hc,hd,by simpa using hs⟩,?_⟩;have e:=r.length;simp only[uW]at e;lia
theorem Inv.nt(I:Inv X pins σ H s)(h:bW X.K H a xs):∃its:List aa,Vals xs its/\j0 s.heap a its.toArray/\xs.length<=sizeLine:=by rcases h with h|⟨o,its,n,hk,hc,hd,hs,hz,r⟩;obtain⟨z,its,r,p⟩:=h.ok I.hok;exact⟨its,r,p,z⟩;refine⟨its.toList,r,⟨o,I.iG a o hk,hc,⟨n,by simpa using hs⟩,hd⟩,?_⟩;have e:=r.length;simp only[uW]at e;lia
theorem Inv.tuple(I:Inv X pins σ H s)(h:bW X.K H a xs):∃its:List aa,Vals xs its/\IsTup s.heap a its.toArray/\xs.length<=sizeLine:=by obtain⟨its,r,p,z⟩:=I.nt h;exact⟨its,r,p.tup,z⟩
theorem Inv.jl(I:Inv X pins σ H s)(h:cH X.K H a xs)(h':cH X.K H a ys):xs=ys:=by
 obtain⟨its,r,⟨o,n,e,_,_,d⟩,_⟩:=I.list h;obtain⟨its',r',⟨o',n',e',_,_,d'⟩,_⟩:=I.list h';rw[e]at e';cases e';rw[d]at d';injection d' with d1 _;have:its=its':=by simpa using jK Array.toList d1
 subst this;exact r.inj r'
theorem Inv.fW(I:Inv X pins σ H s)(h:bW X.K H a xs)(h':bW X.K H a ys):xs=ys:=by
 obtain⟨its,r,⟨o,e,_,n,d⟩,_⟩:=I.tuple h;obtain⟨its',r',⟨o',e',_,n',d'⟩,_⟩:=I.tuple h';rw[e]at e';cases e';rw[d]at d';injection d' with d1 _;have:its=its':=by simpa using jK Array.toList d1
 subst this;exact r.inj r'
end
noncomputable abbrev Cx.iz(X:Cx)(E:aa->af->Prop):Cx:={X with xe:=E}
noncomputable abbrev Cx.xX(X:Cx):Cx:=X.iz λ_ _=>False
theorem Cx.Ok.iz{X:Cx}(ok:X.Ok)(E:aa->af->Prop):(X.iz E).Ok:=
 ⟨ok.mod,ok.kind,ok.glob,ok.blt,ok.above,ok.inj,ok.has,ok.zy,ok.hd,ok.frames,ok.stk,ok.xV,ok.bs,ok.u6,ok.nq,ok.lM,ok.gP,ok.xW⟩
theorem Cx.Ok.eG{X:Cx}{E:aa->af->Prop}(ok:(X.iz E).Ok):X.Ok:=
 ⟨ok.mod,ok.kind,ok.glob,ok.blt,ok.above,ok.inj,ok.has,ok.zy,ok.hd,ok.frames,ok.stk,ok.xV,ok.bs,ok.u6,ok.nq,ok.lM,ok.gP,ok.xW⟩
section
variable{X:Cx}{pins:List (ah×Obj)}{σ:St}{H:Hp}{s:af}{E:aa->af->Prop}
theorem Inv.iz(I:Inv X pins σ H s)(E:aa->af->Prop):Inv (X.iz E) pins σ H s:=⟨I.ok.iz E,I.os,I.bare,I.base,I.loc,I.cell,I.free,I.eZ,I.pin,I.hok,I.len⟩
theorem Inv.eG(I:Inv (X.iz E) pins σ H s):Inv X pins σ H s:=⟨I.ok.eG,I.os,I.bare,I.base,I.loc,I.cell,I.free,I.eZ,I.pin,I.hok,I.len⟩
theorem SP.eG{D:Ends}{f:Flow}{s':af}(h:SP (X.iz E) pins D f s'):SP X pins D f s':=by
 cases f with|next=>obtain⟨σ',H',I,q⟩:=h;exact⟨σ',H',I.eG,q⟩|brk=>obtain⟨σ',H',I,q⟩:=h;exact⟨σ',H',I.eG,q⟩|cont=>obtain⟨σ',H',I,q⟩:=h;exact⟨σ',H',I.eG,q⟩|ret u=>obtain⟨v,σ',H',I,r,q⟩:=h;exact⟨v,σ',H',I.eG,r,q⟩
theorem jN.xX{st:List aq}{t:TS}(h:jN X.xX st t):jN X st t:=λpins s σ H D I hw=>
 fS (h pins s σ H D (I.iz _) hw) (λ_ _ q=>q.eG) λ_ _ z=>False.elim z
end
section
variable{X:Cx}{st:aq}{rest:List aq}{t u:TS}{e:ao}{te:TE}{pos:Pos}
noncomputable def tE:TS:=λD σ H=>D.nx σ H
noncomputable def Gk(t u:TS):TS:=λD σ H=>t {D with nx:=u D} σ H
theorem R0:jN X [] tE:=λ_ _ σ H _ I h=>wpAny_execs_nil ⟨σ,H,I,h⟩
theorem R1(h1:PS X st t)(h2:jN X rest u):jN X (st::rest) (Gk t u):=by
 intro pins s σ H D I h;refine wpAny_execs_cons (aY (h1 pins s σ H {D with nx:=u D} I h) λf s1 q=>?_);cases f with
 |next=>
  obtain⟨σ',H',I',q⟩:=q;exact h2 pins s1 σ' H' D I' q
 |ret v=>exact q
 |brk=>exact q
 |cont=>exact q
noncomputable def R3:TS:=λD σ H=>D.bk σ H
noncomputable def zF:TS:=λD σ H=>D.ct σ H
theorem R4:PS X (.Pass pos) tE:=λ_ _ σ H _ I h=>wpAny_Pass ⟨σ,H,I,h⟩
theorem R5:PS X (.Break pos) R3:=λ_ _ σ H _ I h=>wpAny_Break ⟨σ,H,I,h⟩
theorem R6:PS X (.Continue pos) zF:=λ_ _ σ H _ I h=>wpAny_Continue ⟨σ,H,I,h⟩
theorem Inv.quiet{pins:List (ah×Obj)}{σ:St}{H:Hp}{s:af}(I:Inv X pins σ H s):interactive X.env=false:=by simp[interactive,I.ok.kind]
noncomputable def zG(te:TE):TS:=λD σ H=>te σ H λ_ H1=>D.nx σ H1
theorem R7(he:PE X e te)(hs:autoParam (swapsWith e aC pos.line X.env=pure false) L2.aR1._auto_1):PS X (.Expr e pos) (zG te):=by intro pins s σ H D I h;exact wpAny_Expr_any (aY (he pins s σ H _ I h) λv s1 z9=>z9.el λx H1 I1 r1 q1=>⟨σ,H1,I1,q1⟩) I.quiet hs
noncomputable def Gn(te:TE):TS:=λD σ H=>te σ H D.rt
theorem R8(he:PE X e te):PS X (.Return (aB e) pos) (Gn te):=by intro pins s σ H D I h;exact wpAny_Return_some (aY (he pins s σ H _ I h) λv s1 z9=>z9.el λx H1 I1 r1 q1=>⟨x,σ,H1,I1,r1,q1⟩)
noncomputable def zH:TS:=λD _ H=>D.rt .aL H
theorem R9:PS X (.Return aC pos) zH:=λ_ _ σ H _ I h=>wpAny_Return_none ⟨.aL,σ,H,I,rfl,h⟩
noncomputable def Gp(c:TT)(t u:TS):TS:=λD σ H=>c σ H λb H1=>if b=true then t D σ H1 else u D σ H1
theorem zI{c:ao}{a b:List aq}{tc:TT}(hc:PT X c tc)(ha:jN X a t)(hb:jN X b u):PS X (.If c a b pos) (Gp tc t u):=by
 intro pins s σ H D I h;refine wpAny_If (aY (hc pins s σ H _ I h) λd s1 z9=>z9.el λH1 I1 q1=>?_);cases d with|true=>exact ha pins s1 σ H1 D I1 q1|false=>exact hb pins s1 σ H1 D I1 q1
noncomputable def Sa:TS:=λ_ _ _=>False
theorem Sb:PS X st Sa:=λ_ _ _ _ _ _ h=>h.elim
end
noncomputable abbrev TG:=V->St->Hp->(St->Hp->Prop)->Prop
noncomputable abbrev qh:=List V->St->Hp->(St->Hp->Prop)->Prop
noncomputable def PG(X:Cx)(target:ao)(t:TG):Prop:=
 ∀(pins:List (ah×Obj))(s:af)(σ:St)(H:Hp)(v:V)(u:aa)(Q:St->Hp->Prop),Inv X pins σ H s->RelV v u->t v σ H Q->
  wpAny (model X.prog X.w) X.A (assign target X.env u) (λ_ s'=>∃σ' H',Inv X pins σ' H' s'/\Q σ' H') X.xe s
noncomputable def xY(X:Cx)(ts:List ao)(t:qh):Prop:=
 ∀(pins:List (ah×Obj))(s:af)(σ:St)(H:Hp)(vs:List V)(us:List aa)(Q:St->Hp->Prop),Inv X pins σ H s->Vals vs us->t vs σ H Q->
  wpAny (model X.prog X.w) X.A (assignInOrder ((assignEach ts X.env).map (·.2)) us) (λ_ s'=>∃σ' H',Inv X pins σ' H' s'/\Q σ' H') X.xe s
noncomputable abbrev u9:=V->V->V->Hp->(Hp->Prop)->Prop
noncomputable def lN(X:Cx)(t:u9):Prop:=
 ∀(pins:List (ah×Obj))(s:af)(σ:St)(H:Hp)(o i v:V)(ov iv u:aa)(Q:Hp->Prop),Inv X pins σ H s->RelV o ov->RelV i iv->RelV v u->t o i v H Q->
  wpAny (model X.prog X.w) X.A (setItem ov iv u) (λ_ s'=>∃H',Inv X pins σ H' s'/\Q H') X.xe s
noncomputable abbrev DA:=V->V->Hp->VK->Prop
noncomputable def xZ(X:Cx)(op:Operator)(t:DA):Prop:=
 ∀(pins:List (ah×Obj))(s:af)(σ:St)(H:Hp)(x y:V)(v u:aa)(Q:VK),Inv X pins σ H s->RelV x v->RelV y u->t x y H Q->
  wpAny (model X.prog X.w) X.A (inplaceOp op v u) (EP X pins σ Q) X.xe s
section
variable{X:Cx}{pos:Pos}
noncomputable def gQ(i:Nat):TG:=λv σ H Q=>Q (σ.set i (aB v)) H
theorem MA{i:Nat}{x:Str}(hN:X.N.Nodup)(hi:X.N[i]?=aB x)(hx:Loc X.env.scope x)(hf:autoParam (X.fn x=true\/X.env.scope.names.lookup x=aB .local) L2.aF1._auto_1):PG X (.Name x pos) (gQ i):=by intro pins s σ H v u Q I r h;exact wpAny_assign_Name (Gd I hN hi hx r (λs' I'=>⟨_,H,I',h⟩) hf)
noncomputable def Gq:qh:=λvs σ H Q=>vs=[]/\Q σ H
noncomputable def zJ(t:TG)(u:qh):qh:=λvs σ H Q=>∃v r,vs=v::r/\t v σ H λσ' H'=>u r σ' H' Q
theorem Se:xY X [] Gq:=by intro pins s σ H vs us Q I r h;obtain⟨e,h⟩:=h;subst e;cases r;exact assignInOrder_nil ⟨σ,H,I,h⟩
theorem Sf{e:ao}{es:List ao}{t:TG}{u:qh}(h1:PG X e t)(h2:xY X es u)
 (hs:autoParam ((assignEach (e::es) X.env).map (·.2)=assign e X.env:: (assignEach es X.env).map (·.2)) L2.aR1._auto_1):xY X (e::es) (zJ t u):=by
 intro pins s σ H vs us Q I r h;obtain⟨v,vr,e1,h⟩:=h;subst e1;cases r with
 |cons r rr=>
  rw[hs];refine assignInOrder_cons (aY (h1 pins s σ H _ _ _ I r h) λ_ s1 bZ=>?_);obtain⟨σ1,H1,I1,q1⟩:=bZ;exact h2 pins s1 σ1 H1 _ _ Q I1 rr q1
noncomputable def Gs(K:aH)(n:Nat)(t:qh):TG:=λv σ H Q=>∃a xs,v=.ref a/\bW K H a xs/\xs.length=n/\t xs σ H Q
theorem Sg{es:List ao}{k:Nat}{t:qh}{n:Nat}(hc:X.calm)(h:xY X es t)
 (hn:autoParam ((assignEach es X.env).length=n) L2.aR1._auto_1) (hst:autoParam ((assignEach es X.env).findIdx? (·.1)=aC) L2.aR1._auto_1):PG X (.Tuple es k pos) (Gs X.K n t):=by
 intro pins s σ H v u Q I r hw;obtain⟨a,xs,e1,hq,hl,hw⟩:=hw;subst e1;cases r;obtain⟨its,rv,ht,hz⟩:=I.tuple hq;refine assign_Tuple_tuple (I.ok.hd hc) ht (by simp[hn,<-hl,rv.length]) hst λh' hx=>?_;have I1:Inv X pins σ H {s with heap:=h'}:=I.kept (t':=s.toks) λb o e=>hx b o (fL (cJ e)) e;exact h pins _ σ H xs _ Q I1 (by simpa using rv) hw
noncomputable def Gu(to ti:TE)(t:u9):TG:=λv σ H Q=>to σ H λo H1=>ti σ H1 λi H2=>t o i v H2 λH3=>Q σ H3
theorem Sh{o i:ao}{to ti:TE}{t:u9}(ho:PE X o to)(hi:PE X i ti)(hs:lN X t)
 (ha:∀v,assign (.Subscript o i pos) X.env v=(do
   let ov <-holding [v] (eval o X.env);let iv <-holding [v,ov] (eval i X.env)
   standAt pos
   holding [v,ov,iv] (setItem ov iv v)
   release [v,ov,iv] []):=by intro _;rfl):PG X (.Subscript o i pos) (Gu to ti t):=by
 intro pins s σ H v u Q I r h;rw[ha];refine aJ (mZ (aY (ho pins s σ H _ I h) λov s1 z9=>z9.el λx H1 I1 r1 q1=>?_));refine aJ (mZ (aY (hi pins s1 σ H1 _ I1 q1) λiv s2 z9=>z9.el λy H2 I2 r2 q2=>?_));refine aJ (mQ (aJ (mZ (aY (hs pins s2 σ H2 x y v ov iv u _ I2 r1 r2 r q2) λ_ s3 bZ=>?_))));obtain⟨H3,I3,q3⟩:=bZ;exact wpAny_release ⟨σ,H3,I3,q3⟩
noncomputable def qk(te:TE)(g:TG):TS:=λD σ H=>te σ H λx H1=>g x σ H1 D.nx
theorem MB{tg e:ao}{te:TE}{g:TG}(he:PE X e te)(hg:PG X tg g)(hs:autoParam (swapsWithSole [tg] e pos.line X.env=pure false) L2.aR1._auto_1)(hw:autoParam (swappedStores [tg] e X.env=pure aC) L2.aR1._auto_1)
 (h1:autoParam ((assignEach [tg] X.env).map (·.2)=[assign tg X.env]) L2.aR1._auto_1):PS X (.Assign [tg] e pos) (qk te g):=by
 intro pins s σ H D I h;refine wpAny_Assign_stores (aY (he pins s σ H _ I h) λv s1 z9=>z9.el λx H1 I1 r1 q1=>?_) hs hw;rw[h1];exact aY (hg pins s1 σ H1 x v _ I1 r1 q1) λ_ s2 q=>q
theorem Si{i:Nat}{x:Str}{e:ao}{te:TE}{pos':Pos}(hN:X.N.Nodup)(hi:X.N[i]?=aB x)(hx:Loc X.env.scope x)(he:PE X e te)(hs:autoParam (swapsWith e (aB (.Name x pos')) pos.line X.env=pure false) L2.aR1._auto_1)(hf:autoParam (X.fn x=true\/X.env.scope.names.lookup x=aB .local) L2.aF1._auto_1) :
 PS X (.Assign [.Name x pos'] e pos) (qk te (gQ i)):=by
 intro pins s σ H D I h;refine wpAny_Assign_Name (aY (he pins s σ H _ I h) λv s1 z9=>z9.el λy H1 I1 r1 q1=>?_) hs;exact Gd I1 hN hi hx r1 (λs2 I2=>⟨_,H1,I2,q1⟩) hf
noncomputable def Gv(i:Nat)(te:TE)(ti:DA):TS:=λD σ H=>∃x,σ[i]?=aB (aB x)/\te σ H λy H1=>ti x y H1 λz H2=>D.nx (σ.set i (aB z)) H2
theorem Sj{i:Nat}{x:Str}{e:ao}{te:TE}{op:Operator}{ti:DA}{pos':Pos}(hN:X.N.Nodup)(hi:X.N[i]?=aB x)(hx:Loc X.env.scope x)(he:PE X e te)(ho:xZ X op ti)(hf:autoParam (X.fn x=true\/X.env.scope.names.lookup x=aB .local) L2.aF1._auto_1) :
 PS X (.AugAssign (.Name x pos') op e pos) (Gv i te ti):=by
 intro pins s σ H D I h;obtain⟨v,e1,h⟩:=h;obtain⟨m,hn,hl⟩:=I.loc;have vis:xU X.env.scope x:=by rcases hx with k|k;exact .inl k;exact .inr (.inl k)
 obtain⟨u,r,l⟩:=hl i x v hi e1 vis;refine wpAny_AugAssign_Name ?_;have go:wpAny (model X.prog X.w) X.A (eval e X.env) (λw s₂=>wpAny (model X.prog X.w) X.A (inplaceOp op u w) (λr s₃=>wpAny (model X.prog X.w) X.A (storeName X.env x r) (λ_=>SP X pins D .next) X.xe s₃) X.xe s₂) X.xe s:=by refine aY (he pins s σ H _ I h) λw s1 z9=>z9.el λy H1 I1 r1 q1=>?_;refine aY (ho pins s1 σ H1 v y u w _ I1 r r1 q1) λz s2 z9=>z9.el λzv H2 I2 r2 q2=>?_;exact Gd I2 hN hi hx r2 (λs3 I3=>⟨_,H2,I3,q2⟩) hf
 rcases l with⟨hk,hm⟩|⟨hk,c,hc,hcell⟩;exact wpAny_loadName_local I.ok.kind hk hn hm go;rcases hk with hk|hk;exact wpAny_loadName_cell I.ok.kind hk hc hcell go;rcases hx with k|k;have:X.env.scope.names.lookup x=aB .free:=hk;rw[k]at this;cases this;have:X.env.scope.names.lookup x=aB .free:=hk;rw[k]at this;cases this
noncomputable def DB(f:Int->Int->Int):DA:=λx y H Q=>∃i j,x=.int i/\y=.int j/\Q (.int (f i j)) H
theorem Sk:xZ X .Add (DB λi j=>i+j):=by intro pins s σ H x y v u Q I r1 r2 h;obtain⟨i,j,e1,e2,q⟩:=h;subst e1;subst e2;obtain⟨t,rfl⟩:=r1;obtain⟨t',rfl⟩:=r2;exact iadd_int ⟨.int _,H,I.tok _,⟨_,rfl⟩,q⟩
theorem Sl:xZ X .Sub (DB λi j=>i-j):=by intro pins s σ H x y v u Q I r1 r2 h;obtain⟨i,j,e1,e2,q⟩:=h;subst e1;subst e2;obtain⟨t,rfl⟩:=r1;obtain⟨t',rfl⟩:=r2;exact isub_int ⟨.int _,H,I.tok _,⟨_,rfl⟩,q⟩
end
section
variable{X:Cx}{pos:Pos}
noncomputable def Sm(c:TT)(tb:TS):TS:=λD σ H=>∃W:Nat->St->Hp->Prop,(∃m,W m σ H)/\∀m σ H,W m σ H->
 c σ H λb H1=>if b=true then ∃N:St->Hp->Prop,(∀σ' H',N σ' H'->∃m',m'<m/\W m' σ' H')/\tb {D with nx:=N,ct:=N,bk:=D.nx} σ H1 else D.nx σ H1
theorem Sn{c:ao}{body:List aq}{tc:TT}{tb:TS}(hp:PassesOwn (model X.prog X.w) X.A X.env X.xe)(hc:PT X c tc)(hb:jN X body tb):PS X (.While c body [] pos) (Sm tc tb):=by
 intro pins s σ H D I h;obtain⟨W,⟨m0,w0⟩,turn⟩:=h;refine wpAny_While (codeAny_whileLoop (λn s'=>∃σ' H',Inv X pins σ' H' s'/\W n σ' H') ?_ m0 ⟨σ,H,I,w0⟩);rintro n s1 ⟨σ1,H1,I1,w1⟩;refine uM hp (aY (hc pins s1 σ1 H1 _ I1 (turn n σ1 H1 w1)) λb s2 z9=>z9.el λH2 I2 q2=>?_);cases b with
 |true=>
  obtain⟨N,hN,q2⟩:=q2;rw[if_pos rfl];refine uM hp (aY (hb pins s2 σ1 H2 _ I2 q2) λf s3 q3=>?_);cases f with
  |next=>
   obtain⟨σ3,H3,I3,n3⟩:=q3;obtain⟨m',hm,w3⟩:=hN σ3 H3 n3;exact⟨m',hm,σ3,H3,I3,w3⟩
  |cont=>
   obtain⟨σ3,H3,I3,n3⟩:=q3;obtain⟨m',hm,w3⟩:=hN σ3 H3 n3;exact⟨m',hm,σ3,H3,I3,w3⟩
  |brk=>exact q3
  |ret v=>exact q3
 |false=>
  rw[if_neg yP];exact wpAny_execs_nil ⟨σ1,H2,I2,q2⟩
end
set_option genInjectivity false in
structure It where
 go:Nat->Hp->Prop
 vc:Nat->Hp->V->Hp->Prop
 stop:Nat->Hp->Prop
noncomputable def dQ(X:Cx)(pins:List (ah×Obj))(H:Hp)(b:ah):Prop:=
 H b=aC/\b≠X.env.locals/\b∉X.fs/\(b∈X.ex\/X.s₀.heap.objs.size<=b)/\(∀x c,X.env.cells.lookup x=aB c->c≠b)/\∀p∈X.pn++pins,p.1≠b
theorem Inv.j6{X:Cx}{pins:List (ah×Obj)}{σ:St}{H H':Hp}{s:af}{b:ah}(I:Inv X pins σ H s)(hb:s.heap.objs.size<=b)(hn:H' b=aC):dQ X pins H' b:=by refine⟨hn,ku (ek I.lt hb),I.F8 hb,.inr (gJ I.sz hb),λx c e z=>?_,λp hp z=>?_⟩;obtain⟨v,q⟩:=I.cell x c e;exact absurd (ek q.lt (by rw[z];exact hb)) (jg _);exact absurd (ek (cJ (I.pin p hp).1) (by rw[z];exact hb)) (jg _)
structure Turn(P:ai)(w:aj)(K:aH)(tg:ao)(J:It)(fp:List ah)(it:ah)(tn:Nat->az->Prop):Prop where
 mem:it∈fp
 obj:∀i h,tn i h->∀b∈fp,∃o,h.get? b=aB o/\∀v,o.data≠.cell v
 keep:∀i h h',tn i h->(∀b∈fp,∀o,h.get? b=aB o->h'.get? b=aB o)->tn i h'
 item:∀(X:Cx),X.prog=P->X.w=w->X.K=K->X.calm=true->∀(i:Nat)(pins:List (ah×Obj))(s:af)(σ:St)(H:Hp)(E:aa->af->Prop),Inv X pins σ H s->(∀b∈fp,dQ X pins H b)->tn i s.heap->J.go i H->
  wpAny (model P w) X.A (pyNext (.ref it)) (λr s1=>∃u,r=aB u/\
   wpAny (model P w) X.A (letOwnedTupleGo tg (.ref it) u) (λ_ s2=>∃x H',Inv X pins σ H' s2/\RelV x u/\J.vc i H x H'/\tn (i+1) s2.heap/\∀b∈fp,H' b=aC) E s1) E s
 done:∀(X:Cx),X.prog=P->X.w=w->X.K=K->X.calm=true->∀(i:Nat)(pins:List (ah×Obj))(s:af)(σ:St)(H:Hp)(E:aa->af->Prop),Inv X pins σ H s->(∀b∈fp,dQ X pins H b)->tn i s.heap->J.stop i H->
  wpAny (model P w) X.A (pyNext (.ref it)) (λr s1=>r=aC/\Inv X pins σ H s1) E s
 self:∀(A:ak)(i:Nat)(s:af)(Q:aa->af->Prop)(E:aa->af->Prop),tn i s.heap->Q (.ref it) s->wpAny (model P w) A (pyIter (.ref it)) Q E s
noncomputable abbrev TI:=St->Hp->(It->Hp->Prop)->Prop
noncomputable def DC(X:Cx)(pins:List (ah×Obj))(σ:St)(tg:ao)(R:It->Hp->Prop)(itv:aa)(s2:af):Prop:=
 ∃(it:ah) (fp:List ah) (tn:Nat->az->Prop) (J:It) (H':Hp),itv=.ref it/\Inv X pins σ H' s2/\Turn X.prog X.w X.K tg J fp it tn/\tn 0 s2.heap/\(∀b∈fp,dQ X pins H' b)/\R J H'
noncomputable def PI(X:Cx)(tg iter:ao)(wi:TI):Prop:=
 ∀(pins:List (ah×Obj))(s:af)(σ:St)(H:Hp)(R:It->Hp->Prop),Inv X pins σ H s->wi σ H R->
  wpAny (model X.prog X.w) X.A (eval iter X.env) (λv s1=>wpAny (model X.prog X.w) X.A (pyIter v) (DC X pins σ tg R) X.xe s1) X.xe s
theorem nu{M:Model}{A:ak}{E:aa->af->Prop}{s:af}{tg:ao}{it:ah}{u:aa}{o:Obj}{n:String}{vs:Array aa}{Q:Unit->af->Prop}(ho:s.heap.get? it=aB o)(hc:o.cls=.type n)(hd:o.data=.fields vs)
 (hn:["enumerate","zip","dict_itemiterator","dict_reverseitemiterator","odict_iterator","itertools.zip_longest","itertools.pairwise"].contains n=false) (hQ:Q () s):wpAny M A (letOwnedTupleGo tg (.ref it) u) Q E s:=by
 unfold letOwnedTupleGo;cases tg<;>first
  |exact bC hQ
  |(cases u<;>first
     |exact bC hQ
     |(refine aJ (wpAny_load ho ?_)
       rw[hc,hd];show wpAny M A (if(["enumerate","zip","dict_itemiterator","dict_reverseitemiterator","odict_iterator","itertools.zip_longest","itertools.pairwise"].contains n&&vs[0]? == aB (rawInt _))=true then _ else _) Q E s;rw[if_neg (by intro h;rw[hn,xB]at h;cases h)];exact bC hQ))
noncomputable def DE(K:aH)(a:ah):It:=
 ⟨λi H=>∃xs x,cH K H a xs/\xs[i]?=aB x,λi H x H'=>H'=H/\∀xs,cH K H a xs->xs[i]?=aB x,λi H=>∃xs,cH K H a xs/\xs.length<=i⟩
noncomputable def Gw(K:aH)(a:ah):It:=
 ⟨λi H=>∃xs x,bW K H a xs/\xs[i]?=aB x,λi H x H'=>H'=H/\∀xs,bW K H a xs->xs[i]?=aB x,λi H=>∃xs,bW K H a xs/\xs.length<=i⟩
noncomputable def zK(lo:Int)(n:Nat):It:=⟨λi _=>i<n,λi H x H'=>H'=H/\x=.int (lo+i),λi _=>n<=i⟩
theorem Sq{P:ai}{w:aj}{K:aH}{tg:ao}(a it:ah):Turn P w K tg (DE K a) [it] it (λi h=>h.IsListIter it a i)where
 mem:=by simp
 obj:=λi h st b hb=>by
  have e:b=it:=by simpa using hb
  subst e;obtain⟨o,e,c,d⟩:=st;exact⟨o,e,λv z=>by rw[d]at z;cases z⟩
 keep:=λi h h' st k=>st.at λo e=>k it (by simp) o e
 item:=by intro X hP hw hK hc i pins s σ H E I hf st hg;subst hP hw hK;obtain⟨xs,x,hq,hx⟩:=hg;obtain⟨its,rv,p,hz⟩:=I.list hq;obtain⟨u,hu,ru⟩:=rv.get hx;obtain⟨f0,f1,f2,f3,f4,f5⟩:=hf it (by simp);refine wpAny_pyNext_list_item st p.isList (x:=u) (by simpa using hu) λh' st' sb=>?_;have I1:Inv X pins σ H {s with heap:=h'}:=I.turned (t':=s.toks) (λb o hb e=>(sb.2 b hb).trans e) f0 f1 f3 f4 f5;obtain⟨o,e,c,d⟩:=id st';exact⟨u,rfl,nu (s:={s with heap:=h'}) e c d (by decide) ⟨x,H,I1,ru,⟨rfl,λys hy=>by rw[I.jl hy hq];exact hx⟩,st',λb hb=>(hf b hb).1⟩⟩
 done:=by intro X hP hw hK hc i pins s σ H E I hf st hg;subst hP hw hK;obtain⟨xs,hq,hx⟩:=hg;obtain⟨its,rv,p,hz⟩:=I.list hq;obtain⟨f0,f1,f2,f3,f4,f5⟩:=hf it (by simp);have hl:=rv.length;exact wpAny_pyNext_list_end (I.ok.hd hc) st p.isList (by simp;lia) λh' eb=>⟨rfl,I.turned (t':=s.toks) (λb o hb e=>eb b o hb e) f0 f1 f3 f4 f5⟩
 self:=λ_ _ _ _ _ st h=>wpAny_pyIter_listiter st h
theorem Ss{P:ai}{w:aj}{K:aH}{tg:ao}(a it:ah):Turn P w K tg (Gw K a) [it] it (λi h=>h.IsTupleIter it a i)where
 mem:=by simp
 obj:=λi h st b hb=>by
  have e:b=it:=by simpa using hb
  subst e;obtain⟨o,e,c,d⟩:=st;exact⟨o,e,λv z=>by rw[d]at z;cases z⟩
 keep:=λi h h' st k=>st.at λo e=>k it (by simp) o e
 item:=by intro X hP hw hK hc i pins s σ H E I hf st hg;subst hP hw hK;obtain⟨xs,x,hq,hx⟩:=hg;obtain⟨its,rv,p,hz⟩:=I.tuple hq;obtain⟨u,hu,ru⟩:=rv.get hx;obtain⟨f0,f1,f2,f3,f4,f5⟩:=hf it (by simp);refine wpAny_pyNext_tuple_item st (show s.heap.IsTuple a its.toArray from p) (x:=u) (by simpa using hu) λh' st' sb=>?_;have I1:Inv X pins σ H {s with heap:=h'}:=I.turned (t':=s.toks) (λb o hb e=>(sb.2 b hb).trans e) f0 f1 f3 f4 f5;obtain⟨o,e,c,d⟩:=id st';exact⟨u,rfl,nu (s:={s with heap:=h'}) e c d (by decide) ⟨x,H,I1,ru,⟨rfl,λys hy=>by rw[I.fW hy hq];exact hx⟩,st',λb hb=>(hf b hb).1⟩⟩
 done:=by intro X hP hw hK hc i pins s σ H E I hf st hg;subst hP hw hK;obtain⟨xs,hq,hx⟩:=hg;obtain⟨its,rv,p,hz⟩:=I.tuple hq;obtain⟨f0,f1,f2,f3,f4,f5⟩:=hf it (by simp);have hl:=rv.length;exact wpAny_pyNext_tuple_end (I.ok.hd hc) st (show s.heap.IsTuple a its.toArray from p) (by simp;lia) λh' eb=>⟨rfl,I.turned (t':=s.toks) (λb o hb e=>eb b o hb e) f0 f1 f3 f4 f5⟩
 self:=λ_ _ _ _ _ st h=>wpAny_pyIter_tupleiter st h
theorem Su{P:ai}{w:aj}{K:aH}{tg:ao}(it:ah)(lo:Int)(n:Nat):Turn P w K tg (zK lo n) [it] it (λi h=>IsRangeIter h it (lo+ (i:Nat)*1) ((n:Int)- (i:Nat)) 1)where
 mem:=by simp
 obj:=λi h st b hb=>by
  have e:b=it:=by simpa using hb
  subst e;exact⟨_,st,λv z=>by
   have z':Data.fields _=Data.cell v:=z;cases z'⟩
 keep:=λi h h' st k=>k it (by simp) _ st
 item:=by intro X hP hw hK hc i pins s σ H E I hf st hg;subst hP hw hK;obtain⟨f0,f1,f2,f3,f4,f5⟩:=hf it (by simp);have W:=Walks.range (prog:=X.prog) (w:=X.w) (I.ok.hd hc) it lo 1 n;refine W.item i s _ _ hg st λv h' tk hv st' kk=>?_;obtain⟨t,rfl⟩:=hv;have I1:Inv X pins σ H {s with heap:=h',toks:=tk}:=I.turned (λb o hb e=>kk b o (by simpa using hb) e) f0 f1 f3 f4 f5;refine⟨_,rfl,nu (s:={s with heap:=h',toks:=tk}) (n:="range_iterator") st' rfl rfl (by decide) ⟨.int (lo+i),H,I1,⟨t,?_⟩,⟨rfl,rfl⟩,st',λb hb=>(hf b hb).1⟩⟩;rw[Int.mul_one]
 done:=by intro X hP hw hK hc i pins s σ H E I hf st hg;subst hP hw hK;obtain⟨f0,f1,f2,f3,f4,f5⟩:=hf it (by simp);exact wpAny_pyNext_range_end (I.ok.hd hc) st (by have:n<=i:=hg;lia) λh' eb=>⟨rfl,I.turned (t':=s.toks) (λb o hb e=>eb b o hb e) f0 f1 f3 f4 f5⟩
 self:=λ_ _ _ _ _ st h=>wpAny_pyIter_rangeiter st h
section
variable{X:Cx}{tg:ao}
noncomputable def zL(K:aH)(tl:TE):TI:=λσ H R=>tl σ H λx H1=>∃a,x=.ref a/\(∃xs,cH K H1 a xs)/\R (DE K a) H1
noncomputable def Gx(K:aH)(tl:TE):TI:=λσ H R=>tl σ H λx H1=>∃a,x=.ref a/\(∃xs,bW K H1 a xs)/\R (Gw K a) H1
theorem MC{l:ao}{tl:TE}(hl:PE X l tl):PI X tg l (zL X.K tl):=by
 intro pins s σ H R I h;refine aY (hl pins s σ H _ I h) λv s1 z9=>z9.el λx H1 I1 r1 q1=>?_;obtain⟨a,e,⟨xs,hq⟩,q⟩:=q1;subst e;cases r1;obtain⟨its,rv,p,hz⟩:=I1.list hq;refine xy p.isList ?_;refine⟨s1.heap.objs.size,[s1.heap.objs.size],_,_,H1,rfl,I1.kept (t':=s1.toks) λb o e=>cA _ e,Sq a _,⟨_,iw _ rfl,rfl,rfl⟩,λb hb=>?_,q⟩;have e:b=s1.heap.objs.size:=by simpa using hb
 subst e;exact I1.j6 (aR _) (I1.hok.fresh (aR _))
theorem Sv{l:ao}{tl:TE}(hl:PE X l tl):PI X tg l (Gx X.K tl):=by
 intro pins s σ H R I h;refine aY (hl pins s σ H _ I h) λv s1 z9=>z9.el λx H1 I1 r1 q1=>?_;obtain⟨a,e,⟨xs,hq⟩,q⟩:=q1;subst e;cases r1;obtain⟨its,rv,p,hz⟩:=I1.tuple hq;refine uK (show s1.heap.IsTuple a its.toArray from p) ?_;refine⟨s1.heap.objs.size,[s1.heap.objs.size],_,_,H1,rfl,I1.kept (t':=s1.toks) λb o e=>cA _ e,Ss a _,⟨_,iw _ rfl,rfl,rfl⟩,λb hb=>?_,q⟩;have e:b=s1.heap.objs.size:=by simpa using hb
 subst e;exact I1.j6 (aR _) (I1.hok.fresh (aR _))
theorem MD{pins:List (ah×Obj)}{σ:St}{H:Hp}{s:af}{R:It->Hp->Prop}{E:aa->af->Prop}{lo hi:Int}{t u v:Tok}{tk:Nat}(I:Inv X pins σ H s)(h1:-(2 ^ 62)<=lo)(h2:lo<2 ^ 62)(h3:-(2 ^ 62)<=hi)(h4:hi<2 ^ 62)
 (q:R (zK lo (hi-lo).toNat) H):wpAny (model X.prog X.w) X.A (pyIter (.ref s.heap.objs.size)) (DC X pins σ tg R) E {s with heap:=s.heap.push {cls:=.type "range",data:=.fields #[.int lo t,.int hi u,.int 1 v]},toks:=tk}:=by
 refine wpAny_pyIter_range (IsRange.new ..) (small_one h1 h2 h3 h4) ?_;have I1:Inv X pins σ H {s with heap:=s.heap.push {cls:=.type "range",data:=.fields #[.int lo t,.int hi u,.int 1 v]},toks:=tk}:=I.kept λb o e=>cA _ e;refine⟨(s.heap.push {cls:=.type "range",data:=.fields #[.int lo t,.int hi u,.int 1 v]}).objs.size,[(s.heap.push {cls:=.type "range",data:=.fields #[.int lo t,.int hi u,.int 1 v]}).objs.size],_,_,H,rfl,
  I1.kept (t':=tk) λb o e=>cA _ e,Su _ lo (hi-lo).toNat,?_,λb hb=>?_,q⟩
 have e1:lo+ ((0:Nat):Int)*1=lo:=by simp
 have e2:(((hi-lo).toNat:Nat):Int)- ((0:Nat):Int)=Builtin.Range.rangeSize lo hi 1:=by rw[rangeSize_one];split<;>lia
 show IsRangeIter _ _ (lo+ ((0:Nat):Int)*1) ((((hi-lo).toNat:Nat):Int)- ((0:Nat):Int)) 1;rw[e1,e2];exact iw _ rfl;have e:b=(s.heap.push {cls:=.type "range",data:=.fields #[.int lo t,.int hi u,.int 1 v]}).objs.size:=by simpa using hb
 subst e;exact I1.j6 (aR _) (I1.hok.fresh (aR _))
noncomputable def zM(ta:TA):TI:=λσ H R=>ta σ H λvs H1=>∃j:Int,vs=[.int j]/\-(2 ^ 62)<=j/\j<2 ^ 62/\R (zK 0 j.toNat) H1
noncomputable def zN(ta:TA):TI:=λσ H R=>ta σ H λvs H1=>∃i j:Int,vs=[.int i,.int j]/\(-(2 ^ 62)<=i/\i<2 ^ 62/\-(2 ^ 62)<=j/\j<2 ^ 62)/\R (zK i (j-i).toNat) H1
theorem Sw{a:ao}{ta:TA}{p pos:Pos}(hg:Gl X "range")(hm:X.mg "range" = aC)(ha:PA X [a] ta)(hs:autoParam (starEach [a] X.env=[(false,eval a X.env)]) L2.aR1._auto_1):PI X tg (.Call (.Name "range" p) [a] [] pos) (zM ta):=by
 intro pins s σ H R I h;refine Call_ (qg I hg hm boot_range (uS (aY (ha pos pins s σ H _ I h) λus s1 z9=>z9.el λvs H1 I1 r1 q1=>?_) hs rfl));obtain⟨j,e,q1,q2,q⟩:=q1;subst e;cases r1 with
 |cons r rr=>
  cases rr;obtain⟨t,rfl⟩:=r;exact call_range_1 (MD I1 (by lia) (by lia) q1 q2 (by simpa using q))
theorem Sx{a b:ao}{ta:TA}{p pos:Pos}(hg:Gl X "range")(hm:X.mg "range" = aC)(ha:PA X [a,b] ta)(hs:autoParam (starEach [a,b] X.env=[(false,eval a X.env),(false,eval b X.env)]) L2.aR1._auto_1)(hs2:autoParam (starEach [b] X.env=[(false,eval b X.env)]) L2.aR1._auto_1) :
 PI X tg (.Call (.Name "range" p) [a,b] [] pos) (zN ta):=by
 intro pins s σ H R I h;refine Call_ (qg I hg hm boot_range (uS (aY (ha pos pins s σ H _ I h) λus s1 z9=>z9.el λvs H1 I1 r1 q1=>?_) (by rw[hs,hs2]) (by rw[hs2];rfl)));obtain⟨i,j,e,⟨q1,q2,q3,q4⟩,q⟩:=q1;subst e;cases r1 with
 |cons r rr=>
  cases rr with
  |cons r' rr=>
   cases rr;obtain⟨t,rfl⟩:=r;obtain⟨t',rfl⟩:=r';exact call_range_2 (MD I1 q1 q2 q3 q4 q)
noncomputable def zO(wi:TI)(g:TG)(tb:TS):TS:=λD σ H=>wi σ H λJ H1=>∃W:Nat->Nat->St->Hp->Prop,(∃m,W 0 m σ H1)/\∀i m σ H,W i m σ H->
 (J.stop i H/\D.nx σ H)\/(J.go i H/\∃N:St->Hp->Prop,(∀σ' H',N σ' H'->∃m',m'<m/\W (i+1) m' σ' H')/\∀x H',J.vc i H x H'->g x σ H' λσ2 H2=>tb {D with nx:=N,ct:=N,bk:=D.nx} σ2 H2)
noncomputable def ve(fp:List ah)(h:az):List (ah×Obj):=fp.filterMap λb=>(h.get? b).map λo=>(b,o)
theorem tF{fp:List ah}{h:az}{b:ah}{o:Obj}(hb:b∈fp)(e:h.get? b=aB o):(b,o)∈ve fp h:=List.mem_filterMap.mpr ⟨b,hb,by rw[e];rfl⟩
theorem Sy{fp:List ah}{h:az}{p:ah×Obj}(hp:p∈ve fp h):p.1∈fp/\h.get? p.1=aB p.2:=by
 obtain⟨b,hb,e⟩:=List.mem_filterMap.mp hp;cases q:h.get? b with
 |none=>rw[q]at e;cases e
 |some o=>
  rw[q]at e;have e':(b,o)=p:=nk e;subst e';exact⟨hb,q⟩
theorem Inv.pinned{pins:List (ah×Obj)}{σ:St}{H:Hp}{s:af}{fp:List ah}(I:Inv X pins σ H s)(hf:∀b∈fp,dQ X pins H b)(ho:∀b∈fp,∃o,s.heap.get? b=aB o/\∀v,o.data≠.cell v):Inv X (pins++ve fp s.heap) σ H s:=
 I.kG λp hp=>(kD.mp hp).elim (λz=>I.pin p (gK _ z)) λz=>by
  obtain⟨hb,e⟩:=Sy z;obtain⟨f0,f1,f2,_⟩:=hf p.1 hb;obtain⟨o,e',d⟩:=ho p.1 hb;rw[e]at e';cases e';exact⟨e,f0,f1,f2,d⟩
theorem Inv.dz{pins pl:List (ah×Obj)}{σ:St}{H:Hp}{s:af}(I:Inv X (pins++pl) σ H s):Inv X pins σ H s:=I.kG λp hp=>I.pin p (gK _ (yT _ hp))
theorem Sz{iter:ao}{body:List aq}{wi:TI}{g:TG}{tb:TS}{pos:Pos}(hp:PassesOwn (model X.prog X.w) X.A X.env X.xe)(hc:X.calm)(hi:PI X tg iter wi)(hg:PG X tg g)(hb:jN X body tb)
 (hs:∀x,foldedSetIterable iter X.env x=pure x:=by intro _;rfl):PS X (.For tg iter body [] pos) (zO wi g tb):=by
 intro pins s σ H D I h;refine wpAny_For (aY (hi pins s σ H _ I h) λv s1 h1=>aY h1 λitv s2 h2=>?_) hs;obtain⟨it,fp,tn,J,H2,e,I2,T,st2,f2,W,⟨m0,w0⟩,turn⟩:=h2;subst e;have j7:∀{H':Hp},(∀b∈fp,H' b=aC)->∀b∈fp,dQ X pins H' b:=λhn b hb=>⟨hn b hb,(f2 b hb).2⟩
 refine codeAny_forLoop_any (λn s'=>∃i σ' H',Inv X pins σ' H' s'/\tn i s'.heap/\(∀b∈fp,H' b=aC)/\W i n σ' H') ?_ m0 ⟨0,σ,H2,I2,st2,λb hb=>(f2 b hb).1,w0⟩;rintro n s3 ⟨i,σ3,H3,I3,st3,zP,w3⟩;rcases turn i n σ3 H3 w3 with⟨stop,qn⟩|⟨go,N,hN,step⟩
 .refine uM hp (aY (T.done X rfl rfl rfl hc i pins s3 σ3 H3 X.xe I3 (j7 zP) st3 stop) λr s4 bZ=>?_)
  obtain⟨hr,I4⟩:=bZ;subst hr;exact wpAny_execs_nil ⟨σ3,H3,I4,qn⟩
 .refine uM hp (aY (T.item X rfl rfl rfl hc i pins s3 σ3 H3 X.xe I3 (j7 zP) st3 go) λr s4 bZ=>?_)
  obtain⟨u,hr,h4⟩:=bZ;subst hr;refine uM hp (aY h4 λ_ s5 bZ=>?_);obtain⟨x,H5,I5,r5,y5,lO,ql⟩:=bZ;have Gy:=I5.pinned (j7 ql) (T.obj _ _ lO);refine uM hp (aY (hg _ s5 σ3 H5 x u _ Gy r5 (step x H5 y5)) λ_ s6 bZ=>?_);obtain⟨jd,H6,I6,q6⟩:=bZ;refine uM hp (aY (hb _ s6 jd H6 _ I6 q6) λf s7 q7=>?_);have again:∀{jO:St}{H7:Hp},Inv X (pins++ve fp s5.heap) jO H7 s7->N jO H7->∃m,m<n/\∃i σ' H',Inv X pins σ' H' s7/\tn i s7.heap/\(∀b∈fp,H' b=aC)/\W i m σ' H':=λ{jO H7} I7 n7=>by
   obtain⟨m',hm,w7⟩:=hN jO H7 n7;refine⟨m',hm,i+1,jO,H7,I7.dz,T.keep _ _ _ lO λb hb o e=>(I7.pin (b,o) (gK _ (gK _ (tF hb e)))).1,λb hb=>?_,w7⟩;obtain⟨o,e,d⟩:=T.obj _ _ lO b hb;exact(I7.pin (b,o) (gK _ (gK _ (tF hb e)))).2.1
  cases f with|next=>obtain⟨jO,H7,I7,n7⟩:=q7;exact again I7 n7|cont=>obtain⟨jO,H7,I7,n7⟩:=q7;exact again I7 n7|brk=>obtain⟨jO,H7,I7,q7⟩:=q7;exact⟨jO,H7,I7.dz,q7⟩|ret v=>obtain⟨x7,jO,H7,I7,r7,q7⟩:=q7;exact⟨x7,jO,H7,I7.dz,r7,q7⟩
end
noncomputable abbrev R2:=V->V->Hp->VK->Prop
noncomputable def cX(X:Cx)(f:aa->aa->Sem aa)(r:R2):Prop:=
 ∀(pins:List (ah×Obj))(s:af)(σ:St)(H:Hp)(x y:V)(v u:aa)(Q:VK),Inv X pins σ H s->RelV x v->RelV y u->r x y H Q->
  wpAny (model X.prog X.w) X.A (f v u) (EP X pins σ Q) X.xe s
noncomputable def Gz(X:Cx)(f:aa->Sem aa)(r:V->Hp->VK->Prop):Prop:=
 ∀(pins:List (ah×Obj))(s:af)(σ:St)(H:Hp)(x:V)(v:aa)(Q:VK),Inv X pins σ H s->RelV x v->r x H Q->
  wpAny (model X.prog X.w) X.A (f v) (EP X pins σ Q) X.xe s
noncomputable def bS(X:Cx)(f:aa)(r:List V->Hp->VK->Prop):Prop:=
 ∀(pins:List (ah×Obj))(s:af)(σ:St)(H:Hp)(xs:List V)(us:List aa)(Q:VK),Inv X pins σ H s->Vals xs us->r xs H Q->
  wpAny (model X.prog X.w) X.A (call f us) (EP X pins σ Q) X.xe s
noncomputable def GA(X:Cx)(r:V->Hp->(Bool->Hp->Prop)->Prop):Prop:=
 ∀(pins:List (ah×Obj))(s:af)(σ:St)(H:Hp)(x:V)(v:aa)(Q:Bool->Hp->Prop),Inv X pins σ H s->RelV x v->r x H Q->
  wpAny (model X.prog X.w) X.A (truthy v) (TP X pins σ Q) X.xe s
noncomputable def DF(r:R2)(ta tb:TE):TE:=λσ H Q=>ta σ H λx H1=>tb σ H1 λy H2=>r x y H2 Q
noncomputable def SD(r:V->Hp->VK->Prop)(ta:TE):TE:=λσ H Q=>ta σ H λx H1=>r x H1 Q
noncomputable def rI(C:Int->Int->Prop)(g:Int->Int->V):R2:=λx y H Q=>∃i j,x=.int i/\y=.int j/\C i j/\Q (g i j) H
noncomputable def lP(g:Int->Int->V):R2:=λx y H Q=>∃i j,x=.int i/\y=.int j/\Q (g i j) H
noncomputable def rU(g:Int->V):V->Hp->VK->Prop:=λx H Q=>∃i,x=.int i/\Q (g i) H
section
variable{X:Cx}{a b c:ao}{ta tb tc:TE}{pos:Pos}
theorem vf(ha:PE X a ta)(hb:PE X b tb){pins:List (ah×Obj)}{s:af}{σ:St}{H:Hp}{R:V->V->Hp->Prop}(I:Inv X pins σ H s)
 (h:ta σ H λx H1=>tb σ H1 λy H2=>R x y H2) {Q:aa->af->Prop} {f:aa->aa->Sem aa}
 (hf:∀v u s2 x y H2,Inv X pins σ H2 s2->RelV x v->RelV y u->R x y H2->wpAny (model X.prog X.w) X.A (f v u) Q X.xe s2) :
 wpAny (model X.prog X.w) X.A (eval a X.env) (λv s₁=>wpAny (model X.prog X.w) X.A (eval b X.env) (λu s₂=>wpAny (model X.prog X.w) X.A (f v u) Q X.xe s₂) X.xe s₁) X.xe s:=by
 refine aY (ha pins s σ H _ I h) λv s1 z9=>z9.el λx H1 I1 r1 q1=>?_;refine aY (hb pins s1 σ H1 _ I1 q1) λu s2 z9=>z9.el λy H2 I2 r2 q2=>?_;exact hf v u s2 x y H2 I2 r1 r2 q2
theorem zQ{op:Operator}{r:R2}(ho:cX X (binaryOp op) r)(ha:PE X a ta)(hb:PE X b tb):PE X (.BinOp a op b pos) (DF r ta tb):=by intro pins s σ H Q I h;exact wpAny_BinOp (vf ha hb I h λv u s2 x y H2 I2 rx ry q=>ho pins s2 σ H2 x y v u Q I2 rx ry q)
theorem zR{op:UnaryOp}{r:V->Hp->VK->Prop}(ho:Gz X (unaryOp op) r)(ha:PE X a ta):PE X (.UnaryOp op a pos) (SD r ta):=by intro pins s σ H Q I h;exact UnaryOp_ (aY (ha pins s σ H _ I h) λv s1 z9=>z9.el λx H1 I1 r1 q1=>ho pins s1 σ H1 x v Q I1 r1 q1)
theorem dR{f:aa->aa->Sem aa}{C:Int->Int->Prop}{g:Int->Int->Int}
 (rule:∀(i j:Int)(t u:Tok)(s:af)(Q:aa->af->Prop)(E:aa->af->Prop),C i j->Q (.int (g i j) s.toks) {s with toks:=s.toks+1}->wpAny (model X.prog X.w) X.A (f (.int i t) (.int j u)) Q E s) :
 cX X f (rI C λi j=>.int (g i j)):=by
 intro pins s σ H x y v u Q I rx ry h;obtain⟨i,j,rfl,rfl,hc,q⟩:=h;obtain⟨t,rfl⟩:=rx;obtain⟨t',rfl⟩:=ry;exact rule i j t t' s _ _ hc ⟨.int (g i j),H,I.tok _,⟨_,rfl⟩,q⟩
theorem zS{f:aa->aa->Sem aa}{g:Int->Int->Int}
 (rule:∀(i j:Int)(t u:Tok)(s:af)(Q:aa->af->Prop)(E:aa->af->Prop),Q (.int (g i j) s.toks) {s with toks:=s.toks+1}->wpAny (model X.prog X.w) X.A (f (.int i t) (.int j u)) Q E s) :
 cX X f (lP λi j=>.int (g i j)):=by
 intro pins s σ H x y v u Q I rx ry h;obtain⟨i,j,rfl,rfl,q⟩:=h;obtain⟨t,rfl⟩:=rx;obtain⟨t',rfl⟩:=ry;exact rule i j t t' s _ _ ⟨.int (g i j),H,I.tok _,⟨_,rfl⟩,q⟩
theorem qm{f:aa->aa->Sem aa}{g:Int->Int->Bool}
 (rule:∀(i j:Int)(t u:Tok)(s:af)(Q:aa->af->Prop)(E:aa->af->Prop),Q (.bool (g i j)) s->wpAny (model X.prog X.w) X.A (f (.int i t) (.int j u)) Q E s) :
 cX X f (lP λi j=>.bl (g i j)):=by
 intro pins s σ H x y v u Q I rx ry h;obtain⟨i,j,rfl,rfl,q⟩:=h;obtain⟨t,rfl⟩:=rx;obtain⟨t',rfl⟩:=ry;exact rule i j t t' s _ _ ⟨.bl (g i j),H,I,rfl,q⟩
noncomputable def qo(i j:Int):Prop:=0<j/\j<1073741824
noncomputable def qp(i j:Int):Prop:=0<=j/\j<=1000000/\i.natAbs<2 ^ 64
noncomputable def lQ(i j:Int):Prop:=(-(2 ^ 64)<i/\i<2 ^ 64)\/(-(2 ^ 64)<j/\j<2 ^ 64)
theorem lQ.ok{i j:Int}(h:lQ i j):IntMulOk i j:=by rcases h with⟨h1,h2⟩|⟨h1,h2⟩;exact .of_left (intBits_le_64 h1 h2);exact .of_right (intBits_le_64 h1 h2)
theorem SG:cX X (binaryOp .Add) (lP λi j=>.int (i+j)):=zS λ_ _ _ _ _ _ _ q=>add_int q
theorem SH:cX X (binaryOp .Sub) (lP λi j=>.int (i-j)):=zS λ_ _ _ _ _ _ _ q=>sub_int q
theorem SI:cX X (binaryOp .Mult) (rI lQ λi j=>.int (i*j)):=dR λ_ _ _ _ _ _ _ hc q=>mul_int q hc.ok
theorem SJ:cX X (binaryOp .FloorDiv) (rI qo λi j=>.int (i/j)):=dR λi j _ _ _ _ _ hc q=>by
 have h1:(0:Int)<j:=hc.1;have h2:j<1073741824:=hc.2;exact floordiv_int (by lia) (by rw[Int.fdiv_eq_ediv_of_nonneg i (by lia)];exact q) (.inl (PyProof.noPylong_small (by lia)))
theorem SK:cX X (binaryOp .Mod) (rI (λ_ j=>0<j) λi j=>.int (i % j)):=dR λi j _ _ _ _ _ hc q=>by
 have h1:(0:Int)<j:=hc;exact mod_int' (by lia) (by rw[Int.fmod_eq_emod_of_nonneg i (by lia)];exact q)
theorem SM:cX X (binaryOp .Pow) (rI qp λi j=>.int (i ^ j.toNat)):=dR λ_ _ _ _ _ _ _ hc q=>pow_int_small hc.1 hc.2.1 hc.2.2 q
theorem SN:cX X (binaryOp .LShift) (rI qp λi j=>.int (i*2 ^ j.toNat)):=dR λ_ _ _ _ _ _ _ hc q=>lshift_int_small hc.1 hc.2.1 hc.2.2 q
theorem SO:cX X (inplaceOp .Mult) (rI lQ λi j=>.int (i*j)):=dR λ_ _ _ _ _ _ _ hc q=>imul_int q hc.ok
theorem SQ:cX X (inplaceOp .FloorDiv) (rI qo λi j=>.int (i/j)):=dR λi j _ _ _ _ _ hc q=>by
 have h1:(0:Int)<j:=hc.1;have h2:j<1073741824:=hc.2;exact ifloordiv_int (by lia) (by rw[Int.fdiv_eq_ediv_of_nonneg i (by lia)];exact q) (.inl (PyProof.noPylong_small (by lia)))
theorem SR{f:aa->Sem aa}{g:Int->Int}
 (rule:∀(i:Int)(t:Tok)(s:af)(Q:aa->af->Prop)(E:aa->af->Prop),Q (.int (g i) s.toks) {s with toks:=s.toks+1}->wpAny (model X.prog X.w) X.A (f (.int i t)) Q E s) :
 Gz X f (rU λi=>.int (g i)):=by
 intro pins s σ H x v Q I rx h;obtain⟨i,rfl,q⟩:=h;obtain⟨t,rfl⟩:=rx;exact rule i t s _ _ ⟨.int (g i),H,I.tok _,⟨_,rfl⟩,q⟩
theorem SV:Gz X (unaryOp .USub) (rU λi=>.int (-i)):=SR λ_ _ _ _ _ q=>neg_int q
end
section
variable{X:Cx}{a b c:ao}{ta tb tc:TE}{pos:Pos}
theorem DG{pins:List (ah×Obj)}{σ:St}{H:Hp}{s:af}{Q:VK}{k k':Bool}(I:Inv X pins σ H s)(q:Q (.bl k) H)(e:k=k'):EP X pins σ Q (.bool k') s:=by subst e;exact⟨.bl k,H,I,rfl,q⟩
theorem zT:cX X (compareOp .Lt) (lP λi j=>.bl (decide (i<j))):=qm λ_ _ _ _ _ _ _ q=>lt_int q
theorem zU:cX X (compareOp .LtE) (lP λi j=>.bl (decide (i<=j))):=qm λ_ _ _ _ _ _ _ q=>le_int q
theorem zV:cX X (compareOp .Gt) (lP λi j=>.bl (decide (j<i))):=qm λ_ _ _ _ _ _ _ q=>gt_int q
theorem zW:cX X (compareOp .GtE) (lP λi j=>.bl (decide (j<=i))):=qm λ_ _ _ _ _ _ _ q=>ge_int q
theorem SX:cX X (compareOp .Is) (λx y H Q=>y=.aL/\Q (.bl (decide (x=.aL))) H):=by
 intro pins s σ H x y v u Q I rx ry h;obtain⟨rfl,q⟩:=h;cases ry;refine is_none_gen (DG I q ?_);cases x<;>first
  |(cases rx;rfl)
  |(obtain⟨t,rfl⟩:=rx;rfl)
theorem SY:cX X (compareOp .IsNot) (λx y H Q=>y=.aL/\Q (.bl (!decide (x=.aL))) H):=by
 intro pins s σ H x y v u Q I rx ry h;obtain⟨rfl,q⟩:=h;cases ry;refine isnot_none_gen (DG I q ?_);cases x<;>first
  |(cases rx;rfl)
  |(obtain⟨t,rfl⟩:=rx;rfl)
theorem cX.or{f:aa->aa->Sem aa}{r r':R2}(h:cX X f r)(h':cX X f r'):cX X f (λx y H Q=>r x y H Q\/r' x y H Q):=by
 intro pins s σ H x y v u Q I rx ry q;rcases q with q|q
 exact h pins s σ H x y v u Q I rx ry q;exact h' pins s σ H x y v u Q I rx ry q
theorem S0{op:CmpOp}{r:R2}(ho:cX X (compareOp op) r)(ha:PE X a ta)(hb:PE X b tb)(hm:behindInMarks op b=false):PE X (.Compare a [op] [b] pos) (DF r ta tb):=by intro pins s σ H Q I h;exact wpAny_Compare1 (vf ha hb I h λv u s2 x y H2 I2 rx ry q=>ho pins s2 σ H2 x y v u Q I2 rx ry q) hm
noncomputable def tG(t:TE):TT:=λσ H Q=>t σ H λx H'=>∃k,x=.bl k/\Q k H'
theorem S1{op:CmpOp}{r:R2}(ho:cX X (compareOp op) r)(ha:PE X a ta)(hb:PE X b tb)(hm:behindInMarks op b=false):PT X (.Compare a [op] [b] pos) (tG (DF r ta tb)):=by
 intro pins s σ H Q I h;refine wpAny_isTrue_Compare1 (aY (ha pins s σ H _ I h) λv s1 z9=>z9.el λx H1 I1 r1 q1=>aY (hb pins s1 σ H1 _ I1 q1) λu s2 z9=>z9.el λy H2 I2 r2 q2=>
  aY (ho pins s2 σ H2 x y v u _ I2 r1 r2 q2) λc s3 z9=>z9.el λz H3 I3 r3 ⟨k,e,q3⟩=>?_) hm
 subst e;cases r3;exact pU ⟨H3,I3,q3⟩
noncomputable def GC(r r':R2)(ta tb tc:TE):TE:=λσ H Q=>ta σ H λx H1=>tb σ H1 λy H2=>r x y H2 λz H3=>∃k,z=.bl k/\
 (if k=true then tc σ H3 λw' H4=>r' y w' H4 Q else Q (.bl false) H3)
theorem S2{op op':CmpOp}{r r':R2}(ho:cX X (compareOp op) r)(ho':cX X (compareOp op') r')(ha:PE X a ta)(hb:PE X b tb)(hc:PE X c tc)
 (hm:lastMarks [op,op'] [b,c]=false:=by with_unfolding_all rfl):PE X (.Compare a [op,op'] [b,c] pos) (GC r r' ta tb tc):=by
 intro pins s σ H Q I h;refine Compare_chain (aY (ha pins s σ H _ I h) λv s1 z9=>z9.el λx H1 I1 r1 q1=>chain_link (aY (hb pins s1 σ H1 _ I1 q1) λu s2 z9=>z9.el λy H2 I2 r2 q2=>
  aY (ho pins s2 σ H2 x y v u _ I2 r1 r2 q2) λd s3 z9=>z9.el λz H3 I3 r3 ⟨k,e,q3⟩=>?_)) hm
 subst e;cases r3;refine pU ?_;cases k with|false=>exact ite_ff ⟨.bl false,H3,I3,rfl,q3⟩|true=>exact ite_tt (chain_last (aY (hc pins s3 σ H3 _ I3 q3) λw' s4 z9=>z9.el λz' H4 I4 r4 q4=>ho' pins s4 σ H4 y z' u w' Q I4 r2 r4 q4))
theorem S3{op op':CmpOp}{r r':R2}(ho:cX X (compareOp op) r)(ho':cX X (compareOp op') r')(ha:PE X a ta)(hb:PE X b tb)(hc:PE X c tc)
 (hm:lastMarks [op,op'] [b,c]=false:=by with_unfolding_all rfl):PT X (.Compare a [op,op'] [b,c] pos) (tG (GC r r' ta tb tc)):=by
 intro pins s σ H Q I h;refine isTrue_chain (aY (ha pins s σ H _ I h) λv s1 z9=>z9.el λx H1 I1 r1 q1=>test_link (aY (hb pins s1 σ H1 _ I1 q1) λu s2 z9=>z9.el λy H2 I2 r2 q2=>
  aY (ho pins s2 σ H2 x y v u _ I2 r1 r2 q2) λd s3 z9=>z9.el λz H3 I3 r3 ⟨k,e,q3⟩=>?_)) hm
 subst e;cases r3;refine pU ?_;cases k with
 |false=>
  obtain⟨k',e',q'⟩:=q3;cases e';exact ite_ff ⟨H3,I3,q'⟩
 |true=>
  refine ite_tt (test_last (aY (hc pins s3 σ H3 _ I3 q3) λw' s4 z9=>z9.el λz' H4 I4 r4 q4=>aY (ho' pins s4 σ H4 y z' u w' _ I4 r2 r4 q4) λd' s5 z9=>z9.el λz2 H5 I5 r5 bZ=>?_));obtain⟨k2,e2,q5⟩:=bZ;subst e2;cases r5;exact pU ⟨H5,I5,q5⟩
noncomputable def vg(K:aH)(x:V)(H:Hp)(k:Bool):Prop:=
 match x with|.aL=>k=false|.bl b=>k=b|.int i=>k=(i != 0)|.str y=>y.length<=sizeLine/\k=((y.length:Int) != 0)|.zm y=>y.size<=sizeLine/\k=((y.size:Int) != 0)|.ref p=>(∃xs,cH K H p xs/\k=!xs.isEmpty)\/(∃xs,bW K H p xs/\k=!xs.isEmpty)\/∃kvs,H p=aB (.dK kvs)/\k=!kvs.isEmpty|_=>False
theorem S4{κ:Type}{kvs:List (κ×V)}{vs:List (κ×aa)}(r:KV kvs vs):(!vs.isEmpty)=!kvs.isEmpty:=by cases r<;>rfl
theorem ME{xs:List V}{its:List aa}(r:Vals xs its):(!its.toArray.isEmpty)=!xs.isEmpty:=by cases r<;>simp
theorem x6:(sizeLine:Nat)<2 ^ 63:=by rw[yL];decide
theorem S5:GA X (λx H Q=>∃k,vg X.K x H k/\Q k H):=by
 intro pins s σ H x v Q I rx h;obtain⟨k,e,q⟩:=h;have hl:=x6;have hs:sizeLine=16777216:=yL;cases x with
 |aL=>
  cases rx;have e':k=false:=e;subst e';exact truthy_none ⟨H,I,q⟩
 |bl b=>
  cases rx;have e':k=b:=e;subst e';exact pU ⟨H,I,q⟩
 |int i=>
  obtain⟨t,rfl⟩:=rx;have e':k=(i != 0):=e;subst e';exact PySem.P.truthy_int ⟨H,I,q⟩
 |str y=>
  obtain⟨t,rfl⟩:=rx;obtain⟨hy,e'⟩:y.length<=sizeLine/\k=((y.length:Int) != 0):=e;subst e';exact PySem.P.truthy_str (by lia) ⟨H,I.tok _,q⟩
 |zm y=>
  obtain⟨t,rfl⟩:=rx;obtain⟨hy,e'⟩:y.size<=sizeLine/\k=((y.size:Int) != 0):=e;subst e';exact PySem.W.truthy_bytes (by lia) ⟨H,I.tok _,q⟩
 |ref p=>
  cases rx;have e':(∃xs,cH X.K H p xs/\k=!xs.isEmpty)\/(∃xs,bW X.K H p xs/\k=!xs.isEmpty)\/∃kvs,H p=aB (.dK kvs)/\k=!kvs.isEmpty:=e;rcases e' with⟨xs,hx,e'⟩|⟨xs,hx,e'⟩|⟨kvs,hx,e'⟩
  subst e';obtain⟨its,r,pl,hz⟩:=I.list hx;have hlen:=r.length;exact wpAny_truthy_list pl.isList (by simp only[cQ];lia) ⟨H,I.tok _,by rw[ME r];exact q⟩;subst e';obtain⟨its,r,pl,hz⟩:=I.tuple hx;have hlen:=r.length;exact truthy_tuple pl (by simp only[cQ];lia) ⟨H,I.tok _,by rw[ME r];exact q⟩;subst e';obtain⟨hz,hS,vs,r,m⟩:kvs.length<=sizeLine/\(p==sysModules)=false/\∃vs,KV kvs vs/\s.heap.DictOf (jM X.prog X.w) p vs:=I.hok p _ hx;have hlen:kvs.length=vs.length:=Dw r;exact wpAny_truthy_dict hS m (by lia) ⟨H,I.tok _,by rw[S4 r];exact q⟩
 |_=>exact(show False from e).elim
theorem S6(ha:PE X a ta)(he:∀whole,isTrue a X.env whole=(do let v <-whole;standAt a.pos;holding [v] (truthy v))) :
 PT X a (λσ H Q=>ta σ H λx H'=>∃k,vg X.K x H' k/\Q k H'):=by
 intro pins s σ H Q I h;exact isTrue_plain (aY (ha pins s σ H _ I h) λv s1 z9=>z9.el λx H1 I1 r1 q1=>S5 pins s1 σ H1 x v Q I1 r1 q1) (he _)
theorem vals1{x:V}{us:List aa}(r:Vals [x] us):∃u,us=[u]/\RelV x u:=by
 cases r with|cons r1 r2=>cases r2;exact⟨_,rfl,r1⟩
theorem vals2{x y:V}{us:List aa}(r:Vals [x,y] us):∃u w',us=[u,w']/\RelV x u/\RelV y w':=by
 cases r with
 |cons r1 r2=>
  cases r2 with|cons r3 r4=>cases r4;exact⟨_,_,rfl,r1,r3⟩
theorem S7:bS X (.builtin "abs") (λxs H Q=>∃i,xs=[.int i]/\Q (.int (if i<0 then -i else i)) H):=by intro pins s σ H xs us Q I r h;obtain⟨i,rfl,q⟩:=h;obtain⟨u,rfl,t,rfl⟩:=vals1 r;exact call_abs_int λu tk=>⟨.int (if i<0 then -i else i),H,I.tok _,⟨_,rfl⟩,q⟩
theorem S8(hc:X.calm):bS X (.builtin "max") (λxs H Q=>∃i j,xs=[.int i,.int j]/\Q (.int (if j>i then j else i)) H):=by
 intro pins s σ H xs us Q I r h;obtain⟨i,j,rfl,q⟩:=h;obtain⟨u,w',rfl,⟨t,rfl⟩,⟨t',rfl⟩⟩:=vals2 r;refine max_two_ints (I.ok.hd hc) λh' tk k=>⟨_,H,I.kept k,?_,q⟩
 by_cases hj:j>i;rw[if_pos hj,if_pos hj];exact⟨_,rfl⟩;rw[if_neg hj,if_neg hj];exact⟨_,rfl⟩
theorem S9(hc:X.calm):bS X (.builtin "min") (λxs H Q=>∃i j,xs=[.int i,.int j]/\Q (.int (if j<i then j else i)) H):=by
 intro pins s σ H xs us Q I r h;obtain⟨i,j,rfl,q⟩:=h;obtain⟨u,w',rfl,⟨t,rfl⟩,⟨t',rfl⟩⟩:=vals2 r;refine min_two_ints (I.ok.hd hc) λh' tk k=>⟨_,H,I.kept k,?_,q⟩
 by_cases hj:j<i;rw[if_pos hj,if_pos hj];exact⟨_,rfl⟩;rw[if_neg hj,if_neg hj];exact⟨_,rfl⟩
theorem Tc:bS X (.type "int") (λxs H Q=>(∃i,xs=[.int i]/\Q (.int i) H)\/∃k,xs=[.bl k]/\Q (.int (if k then 1 else 0)) H):=by
 intro pins s σ H xs us Q I r h;rcases h with⟨i,rfl,q⟩|⟨k,rfl,q⟩
 obtain⟨u,rfl,t,rfl⟩:=vals1 r;exact call_int_int ⟨.int i,H,I,⟨_,rfl⟩,q⟩;obtain⟨u,rfl,r1⟩:=vals1 r;cases r1;exact call_int_bool ⟨.int (if k then 1 else 0),H,I.tok _,⟨_,rfl⟩,q⟩
end
structure vh(h:az)(x dx C:ah)(mA:Str->Option aa):Prop where
 obj:h.get? x=aB (PySem.W.instObj C dx)
 ns:h.Ns1 dx mA
 ne:dx≠x
theorem Td{h:az}{dx:ah}{mA:Str->Option aa}(n:h.Ns1 dx mA):∃od,h.get? dx=aB od/\∀name,PySem.W.lookIn name od=aB (mA name):=by
 obtain⟨o,es,ep,ho,hd,hk,_,hm⟩:=n;refine⟨o,ho,λname=>?_⟩;have e:=hm name;unfold nsFind findBy at e;rw[<-Array.find?_toList]at e;unfold PySem.W.lookIn;rw[hd];dsimp only;split;rename_i y q;rw[q]at e;exact jK aB e;rename_i q;rw[q]at e;have a:es.toList.any (·.refKey)=false:=by rw[List.any_eq_false];intro y hy;obtain⟨z,t,hkey⟩:=hk y (Array.mem_toList_iff.mp hy);simp[DictEntry.refKey,hkey]
 have a':¬es.toList.any (·.refKey)=true:=by rw[a];exact yP
 rw[if_neg a'];exact jK aB e
theorem vh.look{h:az}{x dx C:ah}{mA:Str->Option aa}(I:vh h x dx C mA):∃od,PySem.W.InstAt h x (PySem.W.instObj C dx) C (aB od)/\∀name,PySem.W.lookIn name od=aB (mA name):=
 let⟨od,ho,hl⟩:=Td I.ns
 ⟨od,⟨I.obj,rfl,rfl,ho⟩,hl⟩
theorem gM.some_of{v:V}{o:Option aa}(r:gM (aB v) o):∃u,o=aB u/\RelV v u:=by
 cases o with|none=>exact(show False from r).elim|some u=>exact⟨u,rfl,r⟩
section
variable{P:ai}{w:aj}{H H':Hp}{h h':az}{a C dx:ah}{fs fs':List (Str×V)}
theorem Te(hok:eY P w H h)(e:H a=aB (.ins C dx fs)):∃mA,vh h a dx C mA/\(∀f,gM (fs.lookup f) (mA f))/\PySem.Within mA (fs.map (·.1))/\fs.length<=1000/\H dx=aB (.own a):=by
 obtain⟨d,z,ne,ob,mA,n,r,q⟩:=(show br P w H h a (.ins C dx fs)from hok a _ e)
 exact⟨mA,⟨ob,n,ne⟩,r,q,z,d⟩
end
structure GD(K:aH)(C:ah):Prop where
 pg:PySem.W.plainGet K C Str.empty=true
 hd:PySem.W.hasDictIn K C=true
 po:PySem.W.plainOver K C=true
 sa:PySem.W.findIn K (.ref C) "__setattr__" = aB (aB (.builtin "object.__setattr__"))
theorem GD.get{K:aH}{C:ah}(c:GD K C)(f:Str):PySem.W.plainGet K C f=true:=c.pg
section
variable{X:Cx}{pins:List (ah×Obj)}{σ:St}{H:Hp}{s:af}{A:ak}{E:aa->af->Prop}{Q:aa->af->Prop}{c:aa}{b:Bool}
inductive fM(K:aH)(H:Hp):V->aa->Prop where
 |aL:fM K H .aL (.type "NoneType")
 |bl (x:Bool):fM K H (.bl x) (.type "bool")
 |int (i:Int):fM K H (.int i) (.type "int")
 |str (x:Str):fM K H (.str x) (.type "str")
 |xS (x:UInt64):fM K H (.xS x) (.type "float")
 |lst {a:ah} {xs:List V} (e:H a=aB (.lst xs)):fM K H (.ref a) (.type "list")
 |bL {a:ah} {o:Obj} {xs:List V} (e:H a=aB (.bL o (.lst xs))):fM K H (.ref a) (.type "list")
 |tup {a:ah} {xs:List V} (e:H a=aB (.tup xs)):fM K H (.ref a) (.type "tuple")
 |dK {a:ah} {kvs:List (Key×V)} (e:H a=aB (.dK kvs)):fM K H (.ref a) (.type "dict")
 |dT {a:ah} {kvs:List (List Key×V)} (e:H a=aB (.dT kvs)):fM K H (.ref a) (.type "dict")
 |ins {a C dx:ah} {fs:List (Str×V)} (e:H a=aB (.ins C dx fs)) (cl:GD K C) (ha:PySem.W.findIn K (.ref C) "__class__" = aB (aB (.builtin "object.__class__")))
   (hn:PySem.W.specialIn K (.builtin "object.__class__") "__get__" = aB (aB (.builtin "getset_descriptor.__get__"))) (htk:PySem.W.takesIn K (.builtin "object.__class__")=aB true)
   (hm:PySem.W.mroIn K C (.type "object")=aB true):fM K H (.ref a) (.ref C)
theorem Tf{x:V}{u t:aa}(I:Inv X pins σ H s)(rx:RelV x u)(ty:fM X.K H x t)(e:PySem.W.kitOne X.K t c=aB b)(h:∀tk,Q (.bool b) {s with toks:=tk}) :
 wpAny (model X.prog X.w) A (call (.builtin "isinstance") [u,c]) Q E s:=by
 cases ty with
 |aL=>cases(show u=Value.none from rx);exact lK PySem.W.kitx_none I.iG True.intro e (λz=>nomatch z) h
 |bl y=>cases(show u=Value.bool y from rx);exact lK PySem.W.kitx_bool I.iG True.intro e (λz=>nomatch z) h
 |int i=>obtain⟨t,q⟩:=(show ∃t,u=Value.int i t from rx);cases q;exact lK PySem.W.kitx_int I.iG True.intro e (λz=>nomatch z) h
 |str y=>obtain⟨t,q⟩:=(show ∃t,u=Value.str y t from rx);cases q;exact lK PySem.W.kitx_str I.iG True.intro e (λz=>nomatch z) h
 |xS y=>obtain⟨t,q⟩:=(show ∃t,u=Value.float y t from rx);cases q;exact lK PySem.W.kitx_float I.iG True.intro e (λz=>nomatch z) h
 | @lst a xs ea=>
  cases(show u=Value.ref a from rx);obtain⟨_,_,n,_,h1⟩:=(show br X.prog X.w H s.heap a (.lst xs)from I.hok a _ ea)
  exact lK PySem.W.kitx_list I.iG ⟨_,h1,rfl⟩ e (λz=>nomatch z) h
 | @bL a ob xs ea=>
  cases(show u=Value.ref a from rx);obtain⟨_,_,_,n,_,h1⟩:=(show br X.prog X.w H s.heap a (.bL ob (.lst xs))from I.hok a _ ea)
  exact lK PySem.W.kitx_list I.iG ⟨_,h1,rfl⟩ e (λz=>nomatch z) h
 | @tup a xs ea=>
  cases(show u=Value.ref a from rx);obtain⟨_,_,_,p⟩:=(show br X.prog X.w H s.heap a (.tup xs)from I.hok a _ ea)
  obtain⟨o,h1,h2,_⟩:=p;exact lK PySem.W.kitx_tuple I.iG ⟨o,h1,h2⟩ e (λz=>nomatch z) h
 | @dK a kvs ea=>
  cases(show u=Value.ref a from rx);obtain⟨_,_,vs,_,p⟩:=(show br X.prog X.w H s.heap a (.dK kvs)from I.hok a _ ea)
  obtain⟨o,es,ep,h1,h2,_⟩:=p;exact lK PySem.W.kitx_dict I.iG ⟨o,h1,h2.1⟩ e (λz=>nomatch z) h
 | @dT a kvs ea=>
  cases(show u=Value.ref a from rx);obtain⟨_,_,xs,_,o,es,ep,h1,h2,_⟩:=(show br X.prog X.w H s.heap a (.dT kvs)from I.hok a _ ea)
  exact lK PySem.W.kitx_dict I.iG ⟨o,h1,h2.1⟩ e (λz=>nomatch z) h
 | @ins a C dx fs ea cl ha hn htk hm=>
  cases(show u=Value.ref a from rx);obtain⟨mA,O,_⟩:=Te I.hok ea;obtain⟨od,J,_⟩:=O.look;exact lK (PySem.W.kitx_own (cl.get _) cl.hd ha hn htk hm) I.iG J e (λz=>nomatch z) h
end
structure cU(k:Nat)(A:ak):Prop where
 hd:A.handled=aC
 dp:A.depth+3*k+5<recursionLimit
 un:A.units+16*k+200<cLine
theorem cU.deeper{k:Nat}{A:ak}(r:cU (k+1) A)(env:Env):cU k (A.deeper env):=
 ⟨r.hd,by have:=r.dp;show A.depth+1+3*k+5<_;lia,by have:=r.un;show A.units+3+16*k+200<_;lia⟩
theorem cU.depth{k:Nat}{A:ak}(r:cU k A):A.depth<recursionLimit:=by have:=r.dp;lia
theorem cU.units{k:Nat}{A:ak}(r:cU k A):A.units+64<cLine:=by have:=r.un;lia
noncomputable def zX:TA:=λ_ H Q=>Q [] H
noncomputable def zY(ta:TE)(tr:TA):TA:=λσ H Q=>ta σ H λx H1=>tr σ H1 λxs H2=>Q (x::xs) H2
section
variable{X:Cx}{e:ao}{es:List ao}{te:TE}{t:TA}{pos:Pos}
theorem DH:PA X [] zX:=λ_ _ _ _ H Q I h=>Calls.spliced_nil ⟨[],H,I,.nil,h⟩
theorem zZ(ha:PE X e te)(hr:PA X es t)(hs:autoParam (starEach (e::es) X.env=(false,eval e X.env)::starEach es X.env) L2.aR1._auto_1):PA X (e::es) (zY te t):=by intro pos pins s σ H Q I h;rw[hs];show wpAny _ _ (spliced ((false,eval e X.env)::backTo pos (starEach es X.env))) _ _ s;refine Calls.spliced_cons (aY (ha pins s σ H _ I h) λu s1 z9=>z9.el λx H1 I1 r1 q1=>?_);exact aY (hr pos pins s1 σ H1 _ I1 q1) λus s2 z9=>z9.el λxs H2 I2 r2 q2=>⟨x::xs,H2,I2,.cons r1 r2,q2⟩
noncomputable def GF(t:TA):TE:=λσ H Q=>t σ H λxs H1=>xs.length<=sizeLine/\∀p,H1 p=aC->Q (.ref p) (upd H1 p (.tup xs))
noncomputable def GG(t:TA):TE:=λσ H Q=>t σ H λxs H1=>xs.length<=sizeLine/\∀p,H1 p=aC->Q (.ref p) (upd H1 p (.lst xs))
theorem Th{x1}(h:PA X es t):PE X (.Tuple es x1 pos) (GF t):=by intro pins s σ H Q I hq;refine wpAny_Tuple_spliced (aY (h pos pins s σ H _ I hq) λus s1 z9=>z9.el λxs H1 I1 r ⟨z,q⟩=>⟨by rw[<-r.length];exact z,?_⟩);have hf:H1 s1.heap.objs.size=aC:=I1.hok.fresh (aR _);refine⟨.ref s1.heap.objs.size,upd H1 s1.heap.objs.size (.tup xs),I1.laid (t':=s1.toks) (λb u e=>cA _ e) (aR _) ?_,rfl,q _ hf⟩;exact⟨z,us,r,j0.new _ _⟩
theorem Ti(h:PA X es t):PE X (.List es pos) (GG t):=by intro pins s σ H Q I hq;refine wpAny_List_spliced (aY (h pos pins s σ H _ I hq) λus s1 z9=>z9.el λxs H1 I1 r ⟨z,q⟩=>⟨by rw[<-r.length];exact z,?_⟩);have hf:H1 s1.heap.objs.size=aC:=I1.hok.fresh (aR _);refine⟨.ref s1.heap.objs.size,upd H1 s1.heap.objs.size (.lst xs),I1.laid (t':=s1.toks) (λb u e=>cA _ e) (aR _) ?_,rfl,q _ hf⟩;exact⟨z,us,0,r,iw _ rfl⟩
end
noncomputable abbrev Sp:=List V->Hp->VK->XK->Prop
noncomputable abbrev pD:=List Env->Hp->af->XK->aa->af->Prop
structure qq(P:ai)(w:aj)(K:aH)(mg:Str->Option aa)(base:az)(A:ak)(outer:List Env)(s:af)(H:Hp):Prop where
 frames:A.frames=aB outer
 mod:Mod K mg base
 bs:∀b o,base.get? b=aB o->s.heap.get? b=aB o/\H b=aC
 u6:base.objs.size<=s.heap.objs.size
 gP:s.heap.FunFrames base outer
 xW:∀b∈frs outer,H b=aC
 hok:eY P w H s.heap
 bare:AllBare s.gens
noncomputable def CE(outer:List Env)(P:ai)(w:aj)(H:Hp)(s:af)(Q:VK)(u:aa)(s':af):Prop:=
 ∃v H',s'.os=s.os/\AllBare s'.gens/\Un (frs outer) [] H H' s.heap s'.heap/\eY P w H' s'.heap/\RelV v u/\Q v H'
noncomputable def CR(CX:pD)(outer:List Env)(P:ai)(w:aj)(H:Hp)(s:af)(Q:VK)(E:XK)(r:Result)(s':af):Prop:=
 match r with|.ok (.ret u)=>CE outer P w H s Q u s'|.ok _=>False|.error e=>CX outer H s E e s'
structure fq(P:ai)(w:aj)(K:aH)(mg:Str->Option aa)(base:az)(CX:pD)(k:Nat)(f:ah)(fd:au)(ps:List Str)(sp:Sp):Prop where
 len:∀vs H Q E,sp vs H Q E->vs.length=ps.length
 run:∀(A:ak)(outer:List Env)(s:af)(H:Hp)(args:Args)(us:List aa)(vs:List V)(Q:VK)(E:XK),cU k A->qq P w K mg base A outer s H->BindsTo s fd args (ps.zip us)->Vals vs us->sp vs H Q E->
  codeAny (model P w) A (.call (.ref f) args) (CR CX outer P w H s Q E) s
section
variable{X:Cx}{pins:List (ah×Obj)}{σ:St}{H:Hp}{s s':af}
theorem Inv.GH(I:Inv X pins σ H s):qq X.prog X.w X.K X.mg X.base X.A X.stack s H:=
 ⟨I.ok.frames,I.ok.mod,I.bs,gJ I.ok.u6 I.sz,I.stack,I.kF,I.hok,I.bare⟩
theorem Inv.after{Q:VK}{u:aa}(I:Inv X pins σ H s)(h:CE X.stack X.prog X.w H s Q u s'):EP X pins σ Q u s':=by obtain⟨v,H',os,bare,un,hok,r,q⟩:=h;obtain⟨hh,g,d,t,os'⟩:=s';obtain rfl:os'=s.os:=os;exact⟨v,H',I.call (h':=hh) (g':=g) (d':=d) (t':=t) (ch:=[]) un hok bare (λb z=>absurd z (by simp)),r,q⟩
end
noncomputable def tH(sp:Sp)(nv:List V)(E:XK)(t:TA):TE:=λσ H Q=>t σ H λvs H1=>sp (vs++nv) H1 Q E
noncomputable def Binds(K:aH)(fd:au)(ps:List Str)(ds:List aa):Prop:=
 ∀(s:af)(us:List aa),K.In s.heap->(us++ds).length=ps.length->BindsTo s fd ⟨us,[]⟩ (ps.zip (us++ds))
theorem Binds.all{K:aH}{fd:au}{ps:List Str}(h:∀us:List aa,us.length=ps.length->bindArgs fd ⟨us,[]⟩=pure (ps.zip us)):Binds K fd ps []:=λs us _ hl=>by
 rw[kE]at hl ⊢;exact .of_eq (h us hl)
noncomputable def DI(CX:pD)(X:Cx)(E:XK):Prop:=∀(pins:List (ah×Obj)) (σ:St) (H:Hp) (s:af) (e:aa) (s':af),Inv X pins σ H s->CX X.stack H s E e s'->X.xe e s'
section
variable{X:Cx}{CX:pD}{k:Nat}{f C:ah}{fd:au}{ps:List Str}{sp:Sp}{nv:List V}{ds:List aa}{E:XK}{x m:Str}{p pos apos:Pos}{e o:ao}{es:List ao}{ta:TE}{t:TA}
theorem MF{pins:List (ah×Obj)}{σ:St}{H:Hp}{s:af}{Q:VK}{us:List aa}{vs:List V}(F:fq X.prog X.w X.K X.mg X.base CX k f fd ps sp)(hr:cU k X.A)(hb:Binds X.K fd ps ds)(hd:Vals nv ds)(hx:DI CX X E)
 (I:Inv X pins σ H s) (r:Vals vs us) (h:sp (vs++nv) H Q E):wpAny (model X.prog X.w) X.A (call (.ref f) us) (EP X pins σ Q) X.xe s:=by
 have r2:Vals (vs++nv) (us++ds):=r.append hd;have hl:(us++ds).length=ps.length:=by rw[<-r2.length];exact F.len _ _ _ _ h
 refine wpAny_call (codeAny_mono (F.run X.A X.stack s H ⟨us,[]⟩ (us++ds) (vs++nv) Q E hr I.GH (hb s us I.iG hl) r2 h) λr s' hq=>?_);cases r with
 |error e=>exact hx pins σ H s e s' I hq
 |ok fl=>
  cases fl with|ret u=>exact I.after hq|next=>exact False.elim hq|brk=>exact False.elim hq|cont=>exact False.elim hq
theorem MG(F:fq X.prog X.w X.K X.mg X.base CX k f fd ps sp)(hr:cU k X.A)(hg:Gl X x)(hm:X.mg x=aB (.ref f))(hk:PySem.W.keepIn X.K (.ref f))(hb:Binds X.K fd ps ds)(hd:Vals nv ds)(hx:DI CX X E)
 (ha:PA X (e::es) t) (hdb:autoParam ((x==("__debug__" : Str))=false) L2.aD1._auto_1) (he:autoParam (starEach (e::es) X.env=(false,eval e X.env)::starEach es X.env) L2.aR1._auto_1) (hpl:autoParam ((backTo pos (starEach es X.env)).any (·.1)=false) L2.aR1._auto_1) :
 PE X (.Call (.Name x p) (e::es) [] pos) (tH sp nv E t):=by
 intro pins s σ H Q I h;refine C7 (Gf I hg hm ?_ hdb);refine PySem.W.callWith_K (h₀:=X.base) I.ok.mod.F6 hk (aY (ha pos pins s σ H _ I h) λus s1 z9=>z9.el λvs H1 I1 r q=>⟨I1.iG,?_⟩) he hpl;exact MF F hr hb hd hx I1 r q
theorem Tj(F:fq X.prog X.w X.K X.mg X.base CX k f fd ps sp)(hr:cU k X.A)(hg:Gl X x)(hm:X.mg x=aB (.ref f))(hk:PySem.W.keepIn X.K (.ref f))(hb:Binds X.K fd ps ds)(hd:Vals nv ds)(hx:DI CX X E)
 (hdb:autoParam ((x==("__debug__" : Str))=false) L2.aD1._auto_1):PE X (.Call (.Name x p) [] [] pos) (tH sp nv E zX):=by
 intro pins s σ H Q I h;refine C7 (Gf I hg hm ?_ hdb);exact PySem.W.callWith_K0 I.iG hk (MF (us:=[]) F hr hb hd hx I .nil h)
end
structure cY(N P:List Str)(sc:ay):Prop where
 kind:sc.kind=.function
 co:sc.isCoroutine=false
 gen:sc.isGenerator=false
 nd:N.Nodup
 pre:N.take P.length=P
 par:∀x∈P,sc.names.lookup x=aB .local\/sc.names.lookup x=aB .cell
 vj:∀y∈sc.names,y.2≠.free
theorem MJ{kindOf:Str->Option NameKind}{x:Str}:∀{binds:List (Str×aa)} {m:Str->Option aa},(∀v,(x,v)∉binds)->bindL kindOf binds m x=m x
 |[],_,_=>rfl
 |(n,v)::r,m,h=>by
  unfold bindL;rw[MJ λw hw=>h w (dj _ hw)];split;have:x≠n:=by rintro rfl;exact h v dP
  simp[this];rfl
theorem MK{kindOf:Str->Option NameKind}{x:Str}:∀{binds:List (Str×aa)} {m:Str->Option aa},(∀v,(x,v)∉binds)->bindC kindOf binds m x=m x
 |[],_,_=>rfl
 |(n,v)::r,m,h=>by
  unfold bindC;rw[MK λw hw=>h w (dj _ hw)];split;rfl;have:x≠n:=by rintro rfl;exact h v dP
  simp[this]
theorem ML{kindOf:Str->Option NameKind}{x:Str}{v:aa}:∀{P:List Str} {vs:List aa} {i:Nat} {m:Str->Option aa},P.Nodup->P[i]?=aB x->vs[i]?=aB v->kindOf x=aB .local->
 bindL kindOf (P.zip vs) m x=aB v
 |[],_,_,_,_,h,_,_=>by simp at h
 |_::_,[],_,_,_,_,h,_=>by simp at h
 |p::P,w::vs,0,m,nd,h1,h2,hk=>by
  simp at h1 h2;subst h1;subst h2;show bindL kindOf ((p,w)::P.zip vs) m p=_;unfold bindL;rw[MJ λv hv=>(xJ.mp nd).1 (List.of_mem_zip hv).1,if_pos hk];simp
 |p::P,w::vs,i+1,m,nd,h1,h2,hk=>by
  show bindL kindOf ((p,w)::P.zip vs) m x=_;unfold bindL;exact ML (i:=i) (xJ.mp nd).2 (by simpa using h1) (by simpa using h2) hk
theorem MM{kindOf:Str->Option NameKind}{x:Str}{v:aa}:∀{P:List Str} {vs:List aa} {i:Nat} {m:Str->Option aa},P.Nodup->P[i]?=aB x->vs[i]?=aB v->kindOf x≠aB .local->
 bindC kindOf (P.zip vs) m x=aB v
 |[],_,_,_,_,h,_,_=>by simp at h
 |_::_,[],_,_,_,_,h,_=>by simp at h
 |p::P,w::vs,0,m,nd,h1,h2,hk=>by
  simp at h1 h2;subst h1;subst h2;show bindC kindOf ((p,w)::P.zip vs) m p=_;unfold bindC;rw[MK λv hv=>(xJ.mp nd).1 (List.of_mem_zip hv).1,if_neg hk];simp
 |p::P,w::vs,i+1,m,nd,h1,h2,hk=>by
  show bindC kindOf ((p,w)::P.zip vs) m x=_;unfold bindC;exact MM (i:=i) (xJ.mp nd).2 (by simpa using h1) (by simpa using h2) hk
noncomputable def start(N:List Str)(vs:List V):St:=vs.map aB++bD (N.length-vs.length) aC
noncomputable def jm(CX:pD)(P:ai)(w:aj)(K:aH)(mg:Str->Option aa)(base:az)(N:List Str)(qual:Str)(scope:ay)(f:ah)(cd:aa)(A:ak)(outer:List Env)(s:af)(H:Hp)(E:XK):Cx where
 prog:=P
 w:=w
 K:=K
 mg:=mg
 base:=base
 A:=A.deeper (envOfC qual scope s.heap.objs.size f cd)
 N:=N
 s₀:=s
 H₀:=H
 env:=envOfC qual scope s.heap.objs.size f cd
 outer:=outer
 stack:=envOfC qual scope s.heap.objs.size f cd::outer
 ex:=[]
 calm:=true
 fn:=λ_=>true
 pn:=[]
 xe:=λe s'=>wpAny (model P w) (A.deeper (envOfC qual scope s.heap.objs.size f cd)) (leaving (envOfC qual scope s.heap.objs.size f cd) e) (λ_ s''=>CX outer H s E e s'') (λe' s''=>CX outer H s E e' s'') s'
theorem MN{sc:ay}{n:Nat}{x:Str}(h:sc.names.lookup x=aB .cell):∃c,(cellsFrom n sc.names []).lookup x=aB c:=by have q:=PySem.W.cellsFrom_some sc.names n [] (.inl h);exact Option.isSome_iff_exists.mp q
theorem Tn{CX:pD}{P:ai}{w:aj}{K:aH}{mg:Str->Option aa}{base:az}{N ps:List Str}{qual:Str}{scope:ay}{f:ah}{cd:aa}{A:ak}{outer:List Env}{s s1:af}{H:Hp}{E:XK}{us:List aa}{vs:List V}
 (S:cY N ps scope) (hd:A.handled=aC) (e0:qq P w K mg base A outer s H) (hl:vs.length=ps.length) (r:Vals vs us)
 (x:InCallC s s.heap.objs.size (bindL (envOfC qual scope s.heap.objs.size f cd).kindOf (ps.zip us) λ_=>aC) (cellsFrom (s.heap.objs.size+1) scope.names []) (bindC (envOfC qual scope s.heap.objs.size f cd).kindOf (ps.zip us) λ_=>aC) s1) :
 Inv (jm CX P w K mg base N qual scope f cd A outer s H E) [] (start N vs) H s1:=by
 have hpl:ps.length<=N.length:=by have:=jK List.length S.pre;rw[jX]at this;lia
 obtain⟨h1,tk,rfl,hk⟩:=x.done;have z0:∀b:ah,b∉(jm CX P w K mg base N qual scope f cd A outer s H E).ex:=λb z=>absurd (show b∈([]:List ah)from z) (by simp);refine⟨⟨e0.mod,S.kind,rfl,rfl,aR _,λy z c h1 h2=>?_,λy hy=>?_,λy c _ h=>?_,λ_=>hd,Around.frames_deeper e0.frames,.inr ⟨rfl,rfl⟩,λb z=>absurd z (z0 b),e0.bs,e0.u6,λb _ _=>z0 b,λb z=>absurd z (z0 b),e0.gP,e0.xW⟩,
  rfl,e0.bare,Un.kept hk,⟨_,x.toInCall.ns,λi y v h1 h2 h3=>?_⟩,λy c h=>⟨_,x.cell y c h⟩,e0.hok.fresh (aR _),λy c h=>?_,λp hp=>absurd (show p∈([]:List (ah×Obj))from hp) (by simp),e0.hok.kept hk,?_⟩
 exact name_of_addr x.apart (yI h1) (yI h2);have hy:scope.names.lookup y=aB .cell\/scope.names.lookup y=aB .free:=hy;rcases hy with hy|hy
 exact MN hy;exact absurd rfl (S.vj _ (yI hy));exact pX (x.above y c (yI h));have hi:i<vs.length:=by unfold start at h2;by_cases hi:i<vs.length;exact hi;rw[lI (by simpa using hi)]at h2;rw[List.getElem?_replicate]at h2;split at h2<;>cases h2
 have ha:vs[i]?=aB v:=by
  unfold start at h2;rw[pZ (by simpa using hi),jb]at h2;cases e:vs[i]? with|none=>rw[e]at h2;cases h2|some a=>rw[e]at h2;cases h2;rfl
 obtain⟨u,hu,rv⟩:=r.get ha;have hp:ps[i]?=aB y:=by rw[<-S.pre,List.getElem?_take_of_lt (by lia)];exact h1
 have MO:ps.Nodup:=by rw[<-S.pre];exact S.nd.sublist (List.take_sublist _ _)
 refine⟨u,rv,?_⟩;rcases S.par y (o5 hp)with k|k
 exact .inl ⟨k,ML MO hp hu k⟩;obtain⟨c,e⟩:=MN (n:=s.heap.objs.size+1) k;refine .inr ⟨.inl k,c,e,?_⟩;have q:=x.cell y c e;rw[MM MO hp hu (by show scope.names.lookup y≠_;rw[k];decide)]at q;exact q;exact e0.hok.fresh (pX (x.above y c (yI h)));unfold start;show _=N.length;rw[eF,bJ,List.length_replicate];lia
theorem Aa{CX:pD}{P:ai}{w:aj}{K:aH}{mg:Str->Option aa}{base:az}{k:Nat}{f:ah}{name qual:Str}{params:Arguments}{body:List aq}{scope:ay}{dV kV doc pm cdv ct oc:aa}{an od:Option ah}
 {osl:Array (Option aa)} {N ps:List Str} {sp:Sp} (lk:K.lookup f=aB ⟨oc,od,.func (PySem.W.fnOf name qual params body scope dV kV doc pm an cdv ct),osl⟩) (hcd:PySem.W.codeIn K cdv qual) (S:cY N ps scope)
 (len:∀vs H Q E,sp vs H Q E->vs.length=ps.length)
 (hbody:∀(A:ak)(outer:List Env)(s:af)(H:Hp)(vs:List V)(Q:VK)(E:XK),cU k (A.deeper (envOfC qual scope s.heap.objs.size f cdv))->sp vs H Q E->
   ∃t,jN (jm CX P w K mg base N qual scope f cdv A outer s H E) body t/\t {nx:=λ_ H'=>Q .aL H',rt:=Q} (start N vs) H) :
 fq P w K mg base CX (k+1) f (PySem.W.fnOf name qual params body scope dV kV doc pm an cdv ct) ps sp:=by
 refine⟨len,λA outer s H args us vs Q E hr e0 hb r pF=>?_⟩;have hl:=len _ _ _ _ pF;have KX:K.In s.heap:=e0.mod.F6.keeps λb o e=>(e0.bs b o e).1;have lim:s.heap.NoLimit:=e0.mod.nolimit.keeps λb o e=>(e0.bs b o e).1;have hkind:∀y∈ps.zip us,scope.names.lookup y.1=aB .local\/(scope.names.lookup y.1=aB .cell/\((cellsFrom (s.heap.objs.size+1) scope.names []).lookup y.1).isSome):=λbZ hy=>by
  obtain⟨n,v⟩:=bZ;rcases S.par n (List.of_mem_zip hy).1 with q|q;exact .inl q;exact .inr ⟨q,PySem.W.cellsFrom_some _ _ _ (.inl q)⟩
 refine codeAny_call_function hr.depth (KX _ _ lk) rfl S.co S.gen rfl (PySem.W.codeRec_of KX hcd) (hb _ _ _ _ ?_);refine wpAny_newFunctionEnv_cells S.kind hkind λenv he s1 x=>?_;subst he;refine⟨lim.keeps x.toInCall.keep,codeAny_func ?_⟩;obtain⟨t,ht,hq⟩:=hbody A outer s H vs Q E (hr.deeper _) pF;have I:Inv (jm CX P w K mg base N qual scope f cdv A outer s H E) [] (start N vs) H s1:=Tn S hr.hd e0 hl r x;refine fS (ht [] s1 (start N vs) H _ I hq) (λfl s' hs=>?_) λe s' hs=>hs;have fin:∀{σ':St}{H':Hp}{v:V}{u:aa},Inv (jm CX P w K mg base N qual scope f cdv A outer s H E) [] σ' H' s'->RelV v u->Q v H'->CE outer P w H s Q u s':=
  λ{σ' H' v u} J rv q=>⟨v,H',J.os,J.bare,J.base,J.hok,rv,q⟩
 cases fl with
 |ret u=>
  obtain⟨v,σ',H',J,rv,q⟩:=hs;exact fin J rv q
 |next=>
  obtain⟨σ',H',J,q⟩:=hs;exact fin (v:=V.aL) (u:=Value.none) J rfl q
 |brk=>
  obtain⟨_,_,_,q⟩:=hs;exact False.elim q
 |cont=>
  obtain⟨_,_,_,q⟩:=hs;exact False.elim q
section
variable{X:Cx}{x:Str}{p pos:Pos}{e:ao}{es:List ao}{t:TA}{id T:String}{r:List V->Hp->VK->Prop}
noncomputable def MP(r:List V->Hp->VK->Prop)(t:TA):TE:=λσ H Q=>t σ H λvs H1=>r vs H1 Q
theorem MQ(hc:bS X (.builtin id) r)(hg:Gl X x)(hm:X.mg x=aC)(hv:bootBuiltins x=aB (.builtin id))(ha:PA X (e::es) t)(hn:autoParam (x≠"__name__") L2.aD1._auto_1)(hdb:autoParam ((x==("__debug__" : Str))=false) L2.aD1._auto_1)
 (he:autoParam (starEach (e::es) X.env=(false,eval e X.env)::starEach es X.env) L2.aR1._auto_1) (hpl:autoParam ((backTo pos (starEach es X.env)).any (·.1)=false) L2.aR1._auto_1):PE X (.Call (.Name x p) (e::es) [] pos) (MP r t):=by
 intro pins s σ H Q I h;refine C7 (qg I hg hm hv ?_ hn hdb);exact PyProof.Rows.callWith_builtin1 (aY (ha pos pins s σ H _ I h) λus s1 z9=>z9.el λvs H1 I1 r1 q1=>hc pins s1 σ H1 vs us Q I1 r1 q1) he hpl
theorem To(hc:bS X (.type T) r)(hg:Gl X x)(hm:X.mg x=aC)(hv:bootBuiltins x=aB (.type T))(ha:PA X (e::es) t)(hn:autoParam (x≠"__name__") L2.aD1._auto_1)(hdb:autoParam ((x==("__debug__" : Str))=false) L2.aD1._auto_1)
 (he:autoParam (starEach (e::es) X.env=(false,eval e X.env)::starEach es X.env) L2.aR1._auto_1) (hpl:autoParam ((backTo pos (starEach es X.env)).any (·.1)=false) L2.aR1._auto_1):PE X (.Call (.Name x p) (e::es) [] pos) (MP r t):=by
 intro pins s σ H Q I h;refine C7 (qg I hg hm hv ?_ hn hdb);exact uS (aY (ha pos pins s σ H _ I h) λus s1 z9=>z9.el λvs H1 I1 r1 q1=>hc pins s1 σ H1 vs us Q I1 r1 q1) he hpl
end
end L2
namespace HT
open PySem PyProof.Rows
section
variable{prog:ai}{w:aj}{A:ak}{E:aa->af->Prop}{s:af}
theorem qt{t b:ah}{vs ws:List aa}{Q:aa->af->Prop}(ht:IsTup s.heap t vs.toArray)(hb:IsTup s.heap b ws.toArray)(hv:vs≠[])
 (h1:ws=[]->Q (.ref t) s) (h2:ws≠[]->Q (.ref s.heap.objs.size) {s with heap:=s.heap.push {cls:=.type "tuple",data:=.seq (vs++ws).toArray}})
 (hsz:vs.length+ws.length<=sizeLine):wpAny (model prog w) A (binaryOp .Add (.ref t) (.ref b)) Q E s:=by
 obtain⟨⟨cls,dd,data,sl⟩,ho,hc,n,hd⟩:=id ht;obtain⟨⟨GI,dd2,data2,sl2⟩,ho2,hc2,n2,hd2⟩:=id hb;simp only at hc hd hc2 hd2;subst hc hd hc2 hd2;have e:vs.toArray++ws.toArray=(vs++ws).toArray:=by simp
 by_cases hw:ws=[]
 exact concat_meets ⟨_,ho,rfl⟩ ⟨_,ho2,rfl⟩ yJ yK zk zh (zg _ _)
  (tuple_addW1 t b vs.toArray ws.toArray n n2 dd dd2 sl sl2 (by simpa using hv) (by simp[hw])) ⟨ho,ho2,h1 hw⟩
 refine concat_meets ⟨_,ho,rfl⟩ ⟨_,ho2,rfl⟩ yJ yK zk zh (zg _ _)
  (tuple_addW2 t b vs.toArray ws.toArray n n2 dd dd2 sl sl2 (by simpa using hv) (by simpa using hw) (by rw[cQ,cQ];exact hsz)) ⟨ho,ho2,?_⟩
 rw[e];exact h2 hw
noncomputable def bH(n d:Nat):Option Int->Nat|none=>d|some v=>if v<0 then(v+ (n:Int)).toNat else min v.toNat n
theorem Tp(n d:Nat)(hd:d<=n)(o:Option Int):bH n d o<=n:=by
 cases o with
 |none=>exact hd
 |some v=>
  show(if v<0 then(v+ (n:Int)).toNat else min v.toNat n)<=n;by_cases hv:v<0;rw[if_pos hv];lia;rw[if_neg hv];exact Nat.min_le_right _ _
theorem MR(v:Int)(n d:Nat):(if v<0 then max (v+ (n:Int)) 0 else min v (n:Int))=((bH n d (aB v):Nat):Int):=by
 show(if v<0 then max (v+ (n:Int)) 0 else min v (n:Int))=(((if v<0 then(v+ (n:Int)).toNat else min v.toNat n):Nat):Int)
 by_cases hv:v<0;simp only[if_pos hv];lia;simp only[if_neg hv];lia
theorem Tq(lo hi:Option Int)(n:Nat):Builtin.Slice.sliceAdjust lo hi 1 (n:Int)=(((bH n 0 lo:Nat):Int),((bH n n hi:Nat):Int)):=by
 have h1:¬((1:Int)<0):=by lia
 unfold Builtin.Slice.sliceAdjust;simp only[h1,di];refine Prod.ext ?_ ?_;cases lo with|none=>rfl|some v=>exact MR v n 0
 cases hi with|none=>rfl|some v=>exact MR v n n
theorem Tr(i j:Nat):Builtin.Slice.slicePlaces (i:Int) (j:Int) 1=j-i:=by
 unfold Builtin.Slice.slicePlaces;have h1:(1:Int)>0:=by lia
 simp only[h1,bX,Int.ediv_one];split<;>lia
theorem MS{v:aa}{o:Option Int}{Q:Option Int->af->Prop}(p:IsPart v o)(h:Q o s):wpAny (model prog w) A (Builtin.Slice.slicePartIndex v) Q E s:=by
 cases p with|none=>exact slicePart_none h|int i t=>exact slicePart_int h
theorem MT{sl:ah}{vl vu:aa}{lo hi:Option Int}{n:Nat}{Q:Int×Int×Nat->af->Prop}(hs:s.heap.IsSliceOf sl vl vu .none)(pl:IsPart vl lo)(pu:IsPart vu hi)
 (h:Q (((bH n 0 lo:Nat):Int),1,bH n n hi-bH n 0 lo) s):wpAny (model prog w) A (Builtin.Slice.sliceApplied (.ref sl) (pure (n:Int))) Q E s:=by
 obtain⟨os,hos,hcs,hds⟩:=id hs;unfold Builtin.Slice.sliceApplied Builtin.Slice.sliceFields;refine aJ (aJ (jV hos hds (x:=vl) rfl (aJ (jV hos hds (x:=vu) rfl (aJ (jV hos hds (x:=.none) rfl (bC ?_)))))));refine aJ (slicePart_none ?_);show wpAny _ _ (if((1:Int)==0)=true then _ else _) _ _ s;rw[if_neg (by decide)];refine aJ (MS pl (aJ (MS pu (aJ (bC ?_)))));show wpAny _ _ (match Builtin.Slice.sliceAdjust lo hi 1 (n:Int)with|(lo,hi)=>pure (lo,(1:Int),Builtin.Slice.slicePlaces lo hi 1)) _ _ s;rw[Tq lo hi n];show wpAny _ _ (pure (((bH n 0 lo:Nat):Int),(1:Int),Builtin.Slice.slicePlaces ((bH n 0 lo:Nat):Int) ((bH n n hi:Nat):Int) 1)) _ _ s;rw[Tr];exact bC h
theorem Tt(xs:Array aa)(i k:Nat):((List.range k).filterMap λ(m:Nat)=>xs[((i:Int)+ (m:Int)*1).toNat]?).toArray=((xs.toList.drop i).take k).toArray:=by
 have e:(λ(m:Nat)=>xs[((i:Int)+ (m:Int)*1).toNat]?)=λm=>xs[i+m]?:=by
  funext m;have:((i:Int)+ (m:Int)*1).toNat=i+m:=by lia
  rw[this]
 rw[e];have:=pick_run xs i k;rw[List.filterMap_map]at this;have e2:((λx=>xs[x]?)∘λx=>i+x)=λm=>xs[i+m]?:=rfl;rw[e2]at this;rw[this]
theorem fN{t sl:ah}{items:Array aa}{vl vu:aa}{lo hi:Option Int}{Q:aa->af->Prop}(ht:IsTup s.heap t items)(hs:s.heap.IsSliceOf sl vl vu .none)(pl:IsPart vl lo)(pu:IsPart vu hi)
 (hw:¬(bH items.size 0 lo=0/\bH items.size items.size hi=items.size))
 (h:Q (.ref s.heap.objs.size) {s with heap:=s.heap.push {cls:=.type "tuple",data:=.seq ((items.toList.drop (bH items.size 0 lo)).take (bH items.size items.size hi-bH items.size 0 lo)).toArray}})
 (hsz:items.size<=sizeLine):wpAny (model prog w) A (getItem (.ref t) (.ref sl)) Q E s:=by
 have kH:sizeOk (.seq ((items.toList.drop (bH items.size 0 lo)).take (bH items.size items.size hi-bH items.size 0 lo)).toArray):=by show((items.toList.drop (bH items.size 0 lo)).take (bH items.size items.size hi-bH items.size 0 lo)).toArray.size<=sizeLine;rw[cQ,jX,jY,uW];lia
 have hj:bH items.size items.size hi<=items.size:=Tp _ _ (aR _) hi;obtain⟨os,hos,hcs,hds⟩:=id hs;have GJ:s.TypeIs (.ref sl) "slice":=⟨os,hos,hcs⟩
 unfold getItem
 try with_reducible refine mZ ?_
 first|refine aJ (bC ?_)|skip
 refine aJ (wpAny_sequenceKey ht.typeIs (by decide) ?_);refine aJ (xw (name:=Str.ofString "__getitem__") ht.typeIs xM
  (uL xM ht.typeIs entry_tuple_getitem ?_ (args_tuple_getitem _ _)))
 show wpAny _ _ (Builtin.Tuple.tupleItemsOf (.ref t) >>= _) _ _ s;refine aJ (tupleItemsOf_ ht ?_);refine aJ (C9 GJ ?_);rw[if_pos (by decide)];refine aJ (MT hs pl pu ?_);have hno:¬((((bH items.size 0 lo:Nat):Int)==0&& (1:Int)==1&& (bH items.size items.size hi-bH items.size 0 lo)==items.size)):=by intro q;rw[bE,bE]at q;have q1:((bH items.size 0 lo:Nat):Int)=0:=eq_of_beq q.1.1;have q2:bH items.size items.size hi-bH items.size 0 lo=items.size:=eq_of_beq q.2;exact hw ⟨by lia,by lia⟩
 show wpAny _ _ (if(((bH items.size 0 lo:Nat):Int)==0&& (1:Int)==1&& (bH items.size items.size hi-bH items.size 0 lo)==items.size)=true then _ else _) _ _ s;rw[if_neg hno,Tt];first
  |exact aJ (m:=Builtin.Tuple.tupleExact _) (vcs (bC ⟨_,rfl,bC h⟩) kH)
  |exact aJ (m:=Builtin.Tuple.tupleExact _) (vcs (aJ (bC (bC ⟨_,rfl,bC h⟩))) kH)
  |exact aJ (aJ (m:=Builtin.Tuple.tupleExact _) (vcs (bC (bC ⟨_,rfl,bC h⟩)) kH))
  |exact aJ (aJ (m:=Builtin.Tuple.tupleExact _) (vcs (bC ⟨_,rfl,bC h⟩) kH))
end
end HT
namespace L2
open PySem PySem.Spec PyProof.Rows
noncomputable abbrev TO:=St->Hp->(Option Int->Hp->Prop)->Prop
noncomputable def PO(X:Cx)(e:Option ao)(t:TO):Prop:=
 ∀(pins:List (ah×Obj))(s:af)(σ:St)(H:Hp)(Q:Option Int->Hp->Prop),Inv X pins σ H s->t σ H Q->
  wpAny (model X.prog X.w) X.A (evalPart e X.env) (λu s'=>∃o H',Inv X pins σ H' s'/\IsPart u o/\Q o H') X.xe s
noncomputable def Tu:TO:=λ_ H Q=>Q aC H
noncomputable def Ab(t:TE):TO:=λσ H Q=>t σ H λx H1=>∃i,x=.int i/\Q (aB i) H1
section
variable{X:Cx}{e:ao}{te:TE}{lo hi:Option ao}{tl th:TO}{pos p2:Pos}
theorem Tv:PO X aC Tu:=by intro pins s σ H Q I h;rw[evalPart_none];exact bC ⟨aC,H,I,.none,h⟩
theorem Tz(h:PE X e te):PO X (aB e) (Ab te):=by intro pins s σ H Q I hw;rw[evalPart_some];refine aY (h pins s σ H _ I hw) λu s1 z9=>z9.el λx H1 I1 r1 q1=>?_;obtain⟨i,rfl,q⟩:=q1;obtain⟨t,rfl⟩:=r1;exact⟨aB i,H1,I1,.int i t,q⟩
noncomputable def qw(X:Cx)(r:V->Option Int->Option Int->Hp->VK->Prop):Prop:=
 ∀(pins:List (ah×Obj))(s:af)(σ:St)(H:Hp)(x:V)(v vl vu:aa)(lo hi:Option Int)(sl:ah)(Q:VK),Inv X pins σ H s->RelV x v->s.heap.IsSliceOf sl vl vu .none->IsPart vl lo->IsPart vu hi->r x lo hi H Q->
  ∃T id,typeLookup (.type T) "__getitem__" = pure (aB (.builtin id))/\s.TypeIs v T/\wpAny (model X.prog X.w) X.A (getItem v (.ref sl)) (EP X pins σ Q) X.xe s
theorem qw.or{r r':V->Option Int->Option Int->Hp->VK->Prop}(h:qw X r)(h':qw X r'):qw X (λx lo hi H Q=>r x lo hi H Q\/r' x lo hi H Q):=by
 intro pins s σ H x v vl vu lo hi sl Q I rx hs pl pu q;rcases q with q|q
 exact h pins s σ H x v vl vu lo hi sl Q I rx hs pl pu q;exact h' pins s σ H x v vl vu lo hi sl Q I rx hs pl pu q
noncomputable def TF(r:V->Option Int->Option Int->Hp->VK->Prop)(te:TE)(tl th:TO):TE:=λσ H Q=>te σ H λx H1=>tl σ H1 λl H2=>th σ H2 λu H3=>r x l u H3 Q
theorem TH{r:V->Option Int->Option Int->Hp->VK->Prop}(hr:qw X r)(he:PE X e te)(hl:PO X lo tl)(hu:PO X hi th):PE X (.Subscript e (.Slice lo hi aC p2) pos) (TF r te tl th):=by intro pins s σ H Q I h;refine Subscript_ (aY (he pins s σ H _ I h) λv s1 z9=>z9.el λx H1 I1 r1 q1=>?_);refine wpAny_Slice (aY (hl pins s1 σ H1 _ I1 q1) λvl s2 ⟨l,H2,I2,pl,q2⟩=>aY (hu pins s2 σ H2 _ I2 q2) λvu s3 bZ=>?_);obtain⟨u,H3,I3,pu,q3⟩:=bZ;rw[evalPart_none];refine bC ?_;have I4:Inv X pins σ H3 {s3 with heap:=s3.heap.push {cls:=.type "slice",data:=.fields #[vl,vu,.none]}}:=I3.kept (t':=s3.toks) λb ob q=>cA _ q;obtain⟨T,id,hT,ht,hg⟩:=hr pins {s3 with heap:=s3.heap.push {cls:=.type "slice",data:=.fields #[vl,vu,.none]}} σ H3 x v vl vu l u s3.heap.objs.size Q I4 r1 (Heap.IsSliceOf.new ..) pl pu q3;show wpAny (model X.prog X.w) X.A (subscriptTail e (.Slice lo hi aC p2) v (.ref s3.heap.objs.size)) (EP X pins σ Q) X.xe {s3 with heap:=s3.heap.push {cls:=.type "slice",data:=.fields #[vl,vu,.none]}};exact tail_any (ops:=[.ref s3.heap.objs.size,v]) ht hT hg (by with_unfolding_all rfl)
noncomputable def jn(xs:List V)(lo hi:Option Int):List V:=(xs.drop (HT.bH xs.length 0 lo)).take (HT.bH xs.length xs.length hi-HT.bH xs.length 0 lo)
theorem MU(xs:List V)(lo hi:Option Int):(jn xs lo hi).length<=xs.length:=by unfold jn;rw[jX,jY];lia
noncomputable def Ac(K:aH):V->Option Int->Option Int->Hp->VK->Prop:=λx lo hi H Q=>∃a xs,x=.ref a/\bW K H a xs/\
 ¬(HT.bH xs.length 0 lo=0/\HT.bH xs.length xs.length hi=xs.length)/\∀p,H p=aC->Q (.ref p) (upd H p (.tup (jn xs lo hi)))
theorem TJ:qw X (Ac X.K):=by
 intro pins s σ H x v vl vu lo hi sl Q I rx hs pl pu h;obtain⟨a,xs,rfl,hx,hw,q⟩:=h;cases rx;obtain⟨its,r,ht,hz⟩:=I.tuple hx;have hlen:its.toArray.size=xs.length:=by rw[cQ];exact r.length.symm
 refine⟨"tuple",_,xM.lookup,ht.typeIs,?_⟩;refine HT.fN ht hs pl pu (by rw[hlen];exact hw) ?_ (by rw[hlen];exact hz);rw[hlen];refine⟨.ref s.heap.objs.size,_,I.laid (t':=s.toks) (o:=.tup (jn xs lo hi)) (λb ob q=>cA _ q) (aR _) ?_,rfl,q _ (I.hok.fresh (aR _))⟩;exact⟨gJ (MU xs lo hi) hz,_,(r.drop (HT.bH xs.length 0 lo)).take (HT.bH xs.length xs.length hi-HT.bH xs.length 0 lo),j0.new _ _⟩
noncomputable def kI(K:aH):R2:=λx y H Q=>∃a b xs ys,x=.ref a/\y=.ref b/\bW K H a xs/\bW K H b ys/\xs≠[]/\xs.length+ys.length<=sizeLine/\
 (ys=[]->Q (.ref a) H)/\(ys≠[]->∀p,H p=aC->Q (.ref p) (upd H p (.tup (xs++ys))))
theorem Vals.eU{xs:List V}{us:List aa}(r:Vals xs us):us=[]↔xs=[]:=by
 cases r with|nil=>simp|cons _ _=>simp
theorem TL:cX X (binaryOp .Add) (kI X.K):=by intro pins s σ H x y v u Q I rx ry h;obtain⟨a,b,xs,ys,rfl,rfl,ha,hb,hx,hz,q1,q2⟩:=h;cases rx;cases ry;obtain⟨its,r1,p1,_⟩:=I.tuple ha;obtain⟨its2,r2,p2,_⟩:=I.tuple hb;refine HT.qt p1 p2 (λz=>hx (r1.eU.mp z)) (λz=>⟨.ref a,H,I,rfl,q1 (r2.eU.mp z)⟩) (λz=>?_) (by rw[<-r1.length,<-r2.length];exact hz);refine⟨.ref s.heap.objs.size,_,I.laid (t':=s.toks) (o:=.tup (xs++ys)) (λb ob q=>cA _ q) (aR _) ?_,rfl,q2 (λw=>z (r2.eU.mpr w)) _ (I.hok.fresh (aR _))⟩;exact⟨by rw[eF];exact hz,_,r1.append r2,j0.new _ _⟩
end
noncomputable def iA(n:Nat)(i:Int):Option Nat:=if 0<=i then(if i<n then aB i.toNat else aC)else if -(n:Int)<=i then aB (i+n).toNat else aC
noncomputable def dG{α:Type}(xs:List α)(i:Int):Option α:=(iA xs.length i).bind λj=>xs[j]?
theorem MV{n:Nat}{i:Int}{j:Nat}(h:iA n i=aB j):seqIndex? i n=aB j/\j<n/\-(n:Int)<=i/\i<n:=by unfold iA at h;by_cases h0:0<=i;rw[if_pos h0]at h;by_cases h1:i<n;rw[if_pos h1]at h;have e:i.toNat=j:=nk h;exact⟨by rw[seqIndex_of h0 h1,e],by lia,by lia,h1⟩;rw[if_neg h1]at h;cases h;rw[if_neg h0]at h;by_cases h1:-(n:Int)<=i;rw[if_pos h1]at h;have e:(i+n).toNat=j:=nk h;exact⟨by rw[seqIndex_neg (by lia) h1,e],by lia,h1,by lia⟩;rw[if_neg h1]at h;cases h
theorem MW{α:Type}{xs:List α}{i:Int}{v:α}(h:dG xs i=aB v):∃j,seqIndex? i xs.length=aB j/\xs[j]?=aB v/\j<xs.length/\-(xs.length:Int)<=i/\i<xs.length:=by
 unfold dG at h;cases e:iA xs.length i with
 |none=>rw[e]at h;cases h
 |some j=>
  rw[e]at h;obtain⟨h1,h2,h3,h4⟩:=MV e;exact⟨j,h1,h,h2,h3,h4⟩
theorem pG{α:Type}{xs:List α}{j:Nat}{v:α}(h:xs[j]?=aB v):dG xs (j:Int)=aB v:=by
 have hj:j<xs.length:=(kB.mp h).1;have e:iA xs.length (j:Int)=aB j:=by unfold iA;rw[if_pos (by lia),if_pos (by lia)];simp
 unfold dG;rw[e];exact h
noncomputable def GK(b:ao):Prop:=∀o i,subscripted b false o i=operate [o,i] (getItem o i)
noncomputable def qx(X:Cx)(r:R2):Prop:=
 ∀(value slice:ao)(pins:List (ah×Obj))(s:af)(σ:St)(H:Hp)(x y:V)(v u:aa)(Q:VK),Inv X pins σ H s->RelV x v->RelV y u->r x y H Q->
  subscripted slice false v u=operate [v,u] (getItem v u)->wpAny (model X.prog X.w) X.A (subscriptTail value slice v u) (EP X pins σ Q) X.xe s
noncomputable def MX(X:Cx)(id:String)(r:V->List V->Hp->VK->Prop):Prop:=
 ∀(pins:List (ah×Obj))(s:af)(σ:St)(H:Hp)(x:V)(xs:List V)(v:aa)(us:List aa)(Q:VK),Inv X pins σ H s->RelV x v->Vals xs us->r x xs H Q->
  wpAny (model X.prog X.w) X.A (call (.builtin id) (v::us)) (EP X pins σ Q) X.xe s
section
variable{X:Cx}{a b:ao}{ta tb:TE}{pos:Pos}
theorem qx.or{r r':R2}(h:qx X r)(h':qx X r'):qx X (λx y H Q=>r x y H Q\/r' x y H Q):=by
 intro value slice pins s σ H x y v u Q I rx ry q hs;rcases q with q|q
 exact h value slice pins s σ H x y v u Q I rx ry q hs;exact h' value slice pins s σ H x y v u Q I rx ry q hs
theorem Ad{r:R2}(hr:qx X r)(ha:PE X a ta)(hb:PE X b tb)(hs:GK b):PE X (.Subscript a b pos) (DF r ta tb):=by intro pins s σ H Q I h;exact Subscript_ (vf ha hb I h λv u s2 x y H2 I2 rx ry q=>hr a b pins s2 σ H2 x y v u Q I2 rx ry q (hs _ _))
noncomputable def Ae(K:aH):R2:=λx y H Q=>∃p xs i v,x=.ref p/\y=.int i/\cH K H p xs/\dG xs i=aB v/\Q v H
noncomputable def Af(K:aH):R2:=λx y H Q=>∃p xs i v,x=.ref p/\y=.int i/\bW K H p xs/\dG xs i=aB v/\Q v H
theorem TN:qx X (Ae X.K):=by
 intro value slice pins s σ H x y v u Q I rx ry h hs;obtain⟨p,xs,i,z,rfl,rfl,hq,he,q⟩:=h;cases rx;obtain⟨t,rfl⟩:=ry;obtain⟨its,r,pl,hz⟩:=I.list hq;obtain⟨j,h1,h2,h3,h4,h5⟩:=MW he;obtain⟨w,ew,rw'⟩:=r.get h2;have hl:=r.length;have hn:=x6;have fin:EP X pins σ Q w s:=⟨z,H,I,rw',q⟩
 by_cases h0:0<=i;have hj:i.toNat=j:=by rw[seqIndex_of h0 h5]at h1;exact nk h1
 exact item_listR pl.isList h0 (by lia) (by rw[hj];simpa using ew) fin hs;have hj:(i+ (its.toArray.size:Int)).toNat=j:=by rw[seqIndex_neg (by lia) h4]at h1;rw[cQ,<-hl];exact nk h1
 exact subscriptTail_builtinR (x:=w) pl.isList.typeIs slot_list_getitem.lookup
  (wpAny_getItem_list_neg (Q:=λr s'=>r=w/\EP X pins σ Q r s') pl.isList (by lia) (by rw[cQ]<;>lia) (by lia) (by rw[hj];simpa using ew) ⟨rfl,fin⟩) hs
theorem TQ:qx X (Af X.K):=by
 intro value slice pins s σ H x y v u Q I rx ry h hs;obtain⟨p,xs,i,z,rfl,rfl,hq,he,q⟩:=h;cases rx;obtain⟨t,rfl⟩:=ry;obtain⟨its,r,pl,hz⟩:=I.tuple hq;obtain⟨j,h1,h2,h3,h4,h5⟩:=MW he;obtain⟨w,ew,rw'⟩:=r.get h2;have hl:=r.length;have hn:=x6;have fin:EP X pins σ Q w s:=⟨z,H,I,rw',q⟩
 exact subscriptTail_builtinR (x:=w) pl.typeIs slot_tuple_getitem.lookup
  (getItem_tuple (j:=j) (Q:=λr s'=>r=w/\EP X pins σ Q r s') pl (by lia) (by lia) (by rw[cQ,<-hl];exact h1) (by simpa using ew) ⟨rfl,fin⟩) hs
theorem TR(its:List aa)(n j:Nat)(u:aa):Obj.mapSeq (·.setIfInBounds j u) {cls:=.type "list",data:=.seq its.toArray n} ={cls:=.type "list",data:=.seq (its.set j u).toArray n}:=by simp[Obj.mapSeq]
theorem Inv.lst{pins:List (ah×Obj)}{σ:St}{H:Hp}{s:af}{p:ah}{xs:List V}(I:Inv X pins σ H s)(h:H p=aB (.lst xs)) :
 ∃(its:List aa) (n:Nat),Vals xs its/\s.heap.get? p=aB {cls:=.type "list",data:=.seq its.toArray n}/\xs.length<=sizeLine:=by
 obtain⟨z,its,n,r,e⟩:=I.hok p _ h;exact⟨its,n,r,e,z⟩
theorem Inv.vm{pins:List (ah×Obj)}{σ:St}{H:Hp}{s:af}{p:ah}{xs ys:List V}{its its':List aa}{n n':Nat}{f:Obj->Obj}(I:Inv X pins σ H s)(h:H p=aB (.lst xs))
 (ho:s.heap.get? p=aB {cls:=.type "list",data:=.seq its.toArray n}) (hf:f {cls:=.type "list",data:=.seq its.toArray n} ={cls:=.type "list",data:=.seq its'.toArray n'}) (r:Vals ys its') (hz:ys.length<=sizeLine) (t:Nat) :
 Inv X pins σ (upd H p (.lst ys)) {s with heap:=s.heap.update p f,toks:=t}:=by
 have e:(s.heap.update p f).get? p=aB {cls:=.type "list",data:=.seq its'.toArray n'}:=by rw[Heap.get?_update_self f ho (by rw[hf]<;>rfl),hf]
 refine I.write (x:=p) (e:=p) (by rw[h];trivial) (.inl rfl) (λb u hb q=>(Heap.get?_update_other _ _ (fK hb)).trans q) ⟨_,e⟩ ?_;exact⟨hz,its',n',r,e⟩
noncomputable def Ag:V->V->V->Hp->(Hp->Prop)->Prop:=λo i v H Q=>∃p xs k j,o=.ref p/\i=.int k/\H p=aB (.lst xs)/\iA xs.length k=aB j/\Q (upd H p (.lst (xs.set j v)))
theorem TU:lN X Ag:=by
 intro pins s σ H o i v ov iv u Q I ro ri rv h;obtain⟨p,xs,k,j,rfl,rfl,hp,hj,q⟩:=h;cases ro;obtain⟨t,rfl⟩:=ri;obtain⟨its,n,r,ho,hz⟩:=I.lst hp;obtain⟨h1,h2,h3,h4⟩:=MV hj;have hl:=r.length;have hn:=x6;have I':Inv X pins σ (upd H p (.lst (xs.set j v))) {s with heap:=s.heap.update p (Obj.mapSeq (·.setIfInBounds j u))}:=
  I.vm hp ho (TR its n j u) (r.set rv j) (by rw[zc];exact hz) s.toks
 by_cases h0:0<=k;have hk:k.toNat=j:=by rw[seqIndex_of h0 h4]at h1;exact nk h1
 exact PySem.W.ki_setAt ho h0 (by lia) (by rw[cQ,<-hl];exact h4) (by rw[hk];exact⟨_,I',q⟩);have hk:(k+ (its.toArray.size:Int)).toNat=j:=by rw[seqIndex_neg (by lia) h3]at h1;rw[cQ,<-hl];exact nk h1
 exact PySem.W.ki_setBack ho (by lia) (by rw[cQ,<-hl];exact h3) (by lia) (by rw[hk];exact⟨_,I',q⟩)
theorem TV(lo hi:Option Int)(n:Nat):(sliceBounds lo hi aC n).1=((HT.bH n 0 lo:Nat):Int)/\(sliceBounds lo hi aC n).2.1=((HT.bH n n hi:Nat):Int)/\(sliceBounds lo hi aC n).2.2=1:=by
 refine⟨?_,?_,rfl⟩;cases lo with
 |none=>simp[sliceBounds,HT.bH]
 |some i=>
  simp only[sliceBounds,HT.bH,Option.getD_none,show(1:Int)>0 by decide,bX];by_cases h:i<0;simp only[h,bX]<;>lia;simp only[h,di]<;>lia
 cases hi with
 |none=>simp[sliceBounds,HT.bH]
 |some i=>
  simp only[sliceBounds,HT.bH,Option.getD_none,show(1:Int)>0 by decide,bX];by_cases h:i<0;simp only[h,bX]<;>lia;simp only[h,di]<;>lia
theorem TX(its:List aa)(lo hi:Option Int):slicePick its.toArray lo hi aC=((its.drop (HT.bH its.length 0 lo)).take (HT.bH its.length its.length hi-HT.bH its.length 0 lo)).toArray:=by obtain⟨h1,h2,h3⟩:=TV lo hi its.toArray.size;unfold slicePick;rw[h1,h2,h3];simp only[sliceRange_one,pick_run,cQ]<;>rfl
noncomputable def Ah(K:aH):V->Option Int->Option Int->Hp->VK->Prop:=λx lo hi H Q=>∃a xs,x=.ref a/\cH K H a xs/\∀p,H p=aC->Q (.ref p) (upd H p (.lst (jn xs lo hi)))
theorem TY:qw X (Ah X.K):=by intro pins s σ H x v vl vu lo hi sl Q I rx hs pl pu h;obtain⟨a,xs,rfl,hx,q⟩:=h;cases rx;obtain⟨its,r,ht,hz⟩:=I.list hx;have hlen:=r.length;refine⟨"list",_,slot_list_getitem.lookup,ht.isList.typeIs,?_⟩;refine wpAny_getItem_list_slice ht.isList hs pl pu .none (by simp) ?_ (by rw[cQ]<;>lia);rw[TX,<-hlen];refine⟨.ref s.heap.objs.size,_,I.laid (t':=s.toks) (o:=.lst (jn xs lo hi)) (λb ob q=>cA _ q) (aR _) ?_,rfl,q _ (I.hok.fresh (aR _))⟩;exact⟨gJ (MU xs lo hi) hz,_,0,(r.drop (HT.bH xs.length 0 lo)).take (HT.bH xs.length xs.length hi-HT.bH xs.length 0 lo),iw _ rfl⟩
theorem TZ:bS X (.builtin "len") (λxs H Q=>∃p ys,xs=[.ref p]/\(cH X.K H p ys\/bW X.K H p ys)/\Q (.int ys.length) H):=by
 intro pins s σ H xs us Q I r h;obtain⟨p,ys,rfl,hq,q⟩:=h;obtain⟨u,rfl,rx⟩:=vals1 r;cases rx;have hn:=x6;rcases hq with hq|hq
 obtain⟨its,r',pl,hz⟩:=I.list hq;have hlen:=r'.length;exact Calls.call_len_list pl.isList (by simp only[cQ]<;>lia) ⟨.int ys.length,H,I.tok _,⟨s.toks+1,by rw[cQ,hlen]⟩,q⟩;obtain⟨its,r',pl,hz⟩:=I.tuple hq;have hlen:=r'.length;exact len_tuple pl (by simp only[cQ]<;>lia) ⟨.int ys.length,H,I.tok _,⟨s.toks+1,by rw[cQ,hlen]⟩,q⟩
theorem bS.or{f:aa}{r r':List V->Hp->VK->Prop}(h:bS X f r)(h':bS X f r'):bS X f (λxs H Q=>r xs H Q\/r' xs H Q):=by
 intro pins s σ H xs us Q I rs q;rcases q with q|q
 exact h pins s σ H xs us Q I rs q;exact h' pins s σ H xs us Q I rs q
theorem T3:bS X (.type "list") (λxs H Q=>∃p ys,xs=[.ref p]/\(cH X.K H p ys\/bW X.K H p ys)/\∀l,H l=aC->Q (.ref l) (upd H l (.lst ys))):=by
 intro pins s σ H xs us Q I r h;obtain⟨p,ys,rfl,hq,q⟩:=h;obtain⟨u,rfl,rx⟩:=vals1 r;cases rx;have fin:∀(its:List aa),Vals ys its->ys.length<=sizeLine->∀(h':az)(c':Nat),(∀b o',s.heap.get? b=aB o'->h'.get? b=aB o')->
  h'.get? s.heap.objs.size=aB {cls:=.type "list",dict:=aC,data:=.seq its.toArray c',slots:=#[]}->EP X pins σ Q (.ref s.heap.objs.size) {s with heap:=h'}:=λits r' hz h' c' kp e=>
  ⟨.ref s.heap.objs.size,_,I.laid (t':=s.toks) kp (aR _) (show br X.prog X.w _ h' _ (.lst ys)from⟨hz,its,c',r',e⟩),rfl,q _ (I.hok.fresh (aR _))⟩
 rcases hq with hq|hq;obtain⟨its,r',pl,hz⟩:=I.list hq;have hlen:=r'.length;obtain⟨o,ho,hc,n,hd⟩:=pl.isList;exact call_list_seq p (.inl rfl) ho hc hd (λh' c' kp e=>fin its r' hz h' c' kp e) (by simp only[cQ]<;>lia);obtain⟨its,r',pl,hz⟩:=I.tuple hq;have hlen:=r'.length;obtain⟨o,ho,hc,n,hd⟩:=pl;exact call_list_seq p (.inr rfl) ho hc hd (λh' c' kp e=>fin its r' hz h' c' kp e) (by simp only[cQ]<;>lia)
theorem T4:bS X (.type "tuple") (λxs H Q=>∃p ys,xs=[.ref p]/\((cH X.K H p ys/\∀l,H l=aC->Q (.ref l) (upd H l (.tup ys)))\/(bW X.K H p ys/\Q (.ref p) H))):=by
 intro pins s σ H xs us Q I r h;obtain⟨p,ys,rfl,h⟩:=h;obtain⟨u,rfl,rx⟩:=vals1 r;cases rx;rcases h with⟨hq,q⟩|⟨hq,q⟩
 obtain⟨its,r',pl,hz⟩:=I.list hq;have hlen:=r'.length;refine call_tuple_list pl.isList (λh' kp=>?_) (by simp only[cQ]<;>lia);have I1:Inv X pins σ H {s with heap:=h'}:=I.kept (t':=s.toks) kp;have I2:Inv X pins σ (upd H h'.objs.size (.tup ys)) {s with heap:=h'.push {cls:=.type "tuple",data:=.seq its.toArray}}:=
  I1.laid (t':=s.toks) (λb o e=>cA _ e) (aR _) (show br X.prog X.w _ _ _ (.tup ys)from⟨hz,its,r',j0.new _ _⟩)
 exact⟨.ref h'.objs.size,_,I2,rfl,q _ (I1.hok.fresh (aR _))⟩;obtain⟨its,r',pl,hz⟩:=I.tuple hq;exact call_tuple_same pl ⟨.ref p,H,I,rfl,q⟩
noncomputable def MY(K:aH)(T:String)(x:V)(H:Hp):Prop:=match x with
 |.str _=>T = "str"
 |.int _=>T = "int"
 |.ref p=>(T = "list"/\∃xs,cH K H p xs)\/(T = "tuple"/\∃xs,bW K H p xs)\/
  (T = "dict"/\((∃kvs,H p=aB (.dK kvs))\/∃kvs,H p=aB (.dT kvs)))\/(T = "set"/\∃S n,H p=aB (.set S n))
 |_=>False
theorem T5{pins:List (ah×Obj)}{σ:St}{H:Hp}{s:af}{T:String}{x:V}{v:aa}(I:Inv X pins σ H s)(r:RelV x v)(ty:MY X.K T x H) :
 s.TypeIs v T/\∀a,v=.ref a->∃ob,s.heap.get? a=aB ob/\ob.dict=aC:=by
 cases x with
 |str z=>
  obtain⟨t,rfl⟩:=r;cases(show T = "str"from ty);exact⟨typeIs_str s z t,λ_ e=>nomatch e⟩
 |int i=>
  obtain⟨t,rfl⟩:=r;cases(show T = "int"from ty);exact⟨typeIs_int s i t,λ_ e=>nomatch e⟩
 |ref p=>
  cases r;rcases ty with⟨rfl,xs,hq⟩|⟨rfl,xs,hq⟩|⟨rfl,hk⟩|⟨rfl,S,n,hk⟩
  obtain⟨its,_,pl,_⟩:=I.list hq;refine⟨pl.isList.typeIs,λa e=>?_⟩;cases e;obtain⟨o,n,e,c,hd,_⟩:=pl;exact⟨o,e,hd⟩;obtain⟨its,_,⟨o,h1,h2,_,h3⟩,_⟩:=I.nt hq;refine⟨⟨o,h1,h2⟩,λa e=>?_⟩;cases e;exact⟨o,h1,h3⟩;have z:∃o,s.heap.get? p=aB o/\o.ExactDict:=by rcases hk with⟨kvs,hk⟩|⟨kvs,hk⟩;obtain⟨_,_,_,_,o,_,_,e,ex,_⟩:=I.hok p _ hk;exact⟨o,e,ex⟩;obtain⟨_,_,_,_,o,_,_,e,ex,_⟩:=I.hok p _ hk;exact⟨o,e,ex⟩
  obtain⟨o,e,ex⟩:=z;refine⟨⟨o,e,ex.1⟩,λa e2=>?_⟩;cases e2;exact⟨o,e,ex.2.1⟩;obtain⟨o,_,_,_,e,ex,_⟩:=I.hok p _ hk;refine⟨⟨o,e,ex.1⟩,λa e2=>?_⟩;cases e2;exact⟨o,e,ex.2.1⟩
 |_=>exact False.elim ty
noncomputable def T6(K:aH)(T:String)(r:V->List V->Hp->VK->Prop)(to:TE)(t:TA):TE:=λσ H Q=>to σ H λx H1=>MY K T x H1/\t σ H1 λxs H2=>r x xs H2 Q
variable{o e:ao}{es:List ao}{to:TE}{t:TA}{name:Str}{apos cpos:Pos}{T id:String}{r:V->List V->Hp->VK->Prop}
theorem Ai(pa:PlainAttrs T)(slot:Slot T name id)(hty:typeOf (.builtin id)=pure (.type "method_descriptor"))(hm:MX X id r)(ho:PE X o to)(ha:PA X (e::es) t)
 (hbase:autoParam (attributeBase o name X.env (eval o X.env)=eval o X.env) L2.aR1._auto_1)
 (hfew:autoParam (((backTo cpos (starEach (e::es) X.env)).all (λx=>!x.1)&& (backToKw cpos (keywordEach [] X.env)).all (λx=>x.1.isSome)
   && decide ((e::es).length+ ([]:List Keyword).length+ (if([]:List Keyword).isEmpty then 0 else 1)<30))=true) L2.aR1._auto_1)
 (hline:autoParam ((apos.endLine==cpos.line)=true) L2.aR1._auto_1) (hs:autoParam (starEach (e::es) X.env=(false,eval e X.env)::starEach es X.env) L2.aR1._auto_1) (hplain:autoParam ((backTo cpos (starEach es X.env)).any (·.1)=false) L2.aR1._auto_1) :
 PE X (.Call (.Attribute o name apos) (e::es) [] cpos) (T6 X.K T r to t):=by
 intro pins s σ H Q I h;refine wpAny_Call_method_late hbase hfew hline rfl (aY (ho pins s σ H _ I h) λv s1 z9=>z9.el λx H1 I1 r1 bZ=>?_);obtain⟨ty,q1⟩:=bZ;obtain⟨h1,h2⟩:=T5 I1 r1 ty;refine⟨T,id,pa,slot,hty,h1,h2,?_⟩;have hA:=ha cpos pins s1 σ H1 _ I1 q1;rw[hs]at hA ⊢;refine Calls.callWith_builtin (by show(false|| (backTo cpos (starEach es X.env)).any (·.1))=false;rw[hplain]<;>rfl) (Calls.evalArgs_plain ?_);exact aY hA λus s2 z9=>z9.el λvs H2 I2 r2 q2=>hm pins s2 σ H2 x vs v us Q I2 r1 r2 q2
/- xs.append(e),list.index on a Aj tuple .. are MX facts of 06m -/
end
noncomputable def MZ(X:Cx)(id:String)(r:V->List V->Hp->VK->Prop):Prop:=
 ∀(pins:List (ah×Obj))(s:af)(σ:St)(H:Hp)(x:V)(xs:List V)(v:aa)(us:List aa)(Q:VK),Inv X pins σ H s->RelV x v->Vals xs us->r x xs H Q->
  wpAny (model X.prog X.w) X.A (call (.builtin id) (v::us)) (EP X pins σ Q) X.xe s
theorem Vals.one:∀{x:V} {us:List aa},Vals [x] us->∃u,us=[u]/\RelV x u|_,_,.cons r .nil=>⟨_,rfl,r⟩
theorem Vals.rep{xs:List V}{us:List aa}(h:Vals xs us):∀k:Nat,Vals (bD k xs).flatten (bD k us).flatten
 |0=>.nil
 |k+1=>by
  rw[o9,o9,uP,uP];exact Vals.append h (Vals.rep h k)
theorem M1(its:List aa):∀(k:Nat) (acc:List aa),
 List.foldl (λx1 x2=>x1++x2) acc.toArray (bD k its.toArray)=(acc++(bD k its).flatten).toArray
 |0,acc=>by simp
 |k+1,acc=>by
  have e:acc.toArray++its.toArray=(acc++its).toArray:=by simp
  have e2:(acc++its)++(bD k its).flatten=acc++(bD (k+1) its).flatten:=by rw[o9,uP,jc]
  rw[<-e2,<-M1 its k (acc++its),<-e,o9,Dl]
section
variable{X:Cx}{pins:List (ah×Obj)}{σ:St}{H:Hp}{s:af}{l b:ah}{xs ys zs:List V}
theorem Inv.vn{its its':List aa}{n:Nat}{f:Array aa->Array aa}{t':Nat}(I:Inv X pins σ H s)(hH:H l=aB (.lst xs))
 (e:s.heap.get? l=aB {cls:=.type "list",data:=.seq its.toArray n}) (hf:f its.toArray=its'.toArray) (hv:Vals ys its') (hz:ys.length<=sizeLine) :
 Inv X pins σ (upd H l (.lst ys)) {s with heap:=s.heap.update l (Obj.mapSeq f),toks:=t'}:=by
 have q:=PySem.IsL.update e f;rw[hf]at q;refine I.write (x:=l) (e:=l) (by rw[hH];exact trivial) (.inl rfl) (λb' u hb hu=>(Heap.get?_update_other s.heap (Obj.mapSeq f) (fK hb)).trans hu) ⟨_,q⟩ ?_;exact⟨hz,its',_,hv,q⟩
theorem Inv.GL{its:List aa}{t':Nat}(I:Inv X pins σ H s)(hv:Vals ys its)(hz:ys.length<=sizeLine) :
 Inv X pins σ (upd H s.heap.objs.size (.lst ys)) {s with heap:=s.heap.push {cls:=.type "list",data:=.seq its.toArray},toks:=t'}:=
 I.laid (λ_ _ q=>cA _ q) (aR _) ⟨hz,its,0,hv,iw _ rfl⟩
theorem Inv.fresh(I:Inv X pins σ H s):H s.heap.objs.size=aC:=I.hok.fresh (aR _)
theorem Inv.fy(I:Inv X pins σ H s)(hH:H l=aB (.lst xs)):xs.length<=sizeLine/\∃(its:List aa) (n:Nat),Vals xs its/\xs.length=its.length/\s.heap.get? l=aB {cls:=.type "list",data:=.seq its.toArray n}:=by obtain⟨z,its,n,r,e⟩:=I.hok l _ hH;exact⟨z,its,n,r,r.length,e⟩
theorem M3{n:Nat}(h:n<=sizeLine):Builtin.List.listTooLong n=false:=by unfold Builtin.List.listTooLong;exact gF (by lia)
end
section
variable{X:Cx}
noncomputable def T7:V->List V->Hp->VK->Prop:=λx vs H Q=>∃l xs y,x=.ref l/\vs=[y]/\H l=aB (.lst xs)/\xs.length<sizeLine/\Q .aL (upd H l (.lst (xs++[y])))
theorem GN:MZ X "list.append" T7:=by intro pins s σ H x vs v us Q I rx rv h;obtain⟨l,xs,y,rfl,rfl,hH,hz,q⟩:=h;cases rx;obtain⟨u,rfl,ru⟩:=rv.one;obtain⟨z,its,n,r,hl,e⟩:=I.fy hH;refine pV F.slot_list_append ⟨_,e,rfl⟩ F.entry_list_append (F.args_list_append_2 _ _) (PySem.list_append l its.toArray n u (by rw[cQ];lia)) ⟨e,?_⟩;refine⟨.aL,_,I.vn (its':=its++[u]) hH e (by simp) (r.append (.cons ru .nil)) ?_,rfl,q⟩;rw[eF,xC];lia
noncomputable def T8:V->List V->Hp->VK->Prop:=λx vs H Q=>∃l b xs zs,x=.ref l/\vs=[.ref b]/\H l=aB (.lst xs)/\H b=aB (.lst zs)/\xs.length+zs.length<=sizeLine/\Q .aL (upd H l (.lst (xs++zs)))
theorem zvt:MZ X "list.extend" T8:=by
 intro pins s σ H x vs v us Q I rx rv h;obtain⟨l,b,xs,zs,rfl,rfl,hH,hB,hz,q⟩:=h;cases rx;obtain⟨u,rfl,ru⟩:=rv.one;cases ru;obtain⟨z,its,n,r,hl,e⟩:=I.fy hH;obtain⟨z2,its2,n2,r2,hl2,e2⟩:=I.fy hB;have hsz:its.toArray.size+its2.toArray.size<=sizeLine:=by rw[cQ,cQ];lia
 have ny:¬(!its.toArray.isEmpty&&Builtin.List.listTooLong (its.toArray.size+its2.toArray.size))=true:=by rw[M3 hsz,Bool.and_false];exact yP
 refine pV F.slot_list_extend ⟨_,e,rfl⟩ F.entry_list_extend (F.args_list_extend_2 _ _)
  (AutoSeq1.list_extend_list_list_0 l its.toArray n b its2.toArray n2 ny (by rw[cQ];lia) (by lia)) ⟨e,e2,?_⟩
 refine⟨.aL,_,I.vn (its':=its++its2) hH e (by simp) (r.append r2) ?_,rfl,q⟩;rw[eF];lia
noncomputable def Ak:R2:=λx y H Q=>∃l b xs zs,x=.ref l/\y=.ref b/\H l=aB (.lst xs)/\H b=aB (.lst zs)/\xs.length+zs.length<=sizeLine/\∀p,H p=aC->Q (.ref p) (upd H p (.lst (xs++zs)))
theorem T9:cX X (binaryOp .Add) Ak:=by
 intro pins s σ H x y v u Q I rx ry h;obtain⟨l,b,xs,zs,rfl,rfl,hH,hB,hz,q⟩:=h;cases rx;cases ry;obtain⟨z,its,n,r,hl,e⟩:=I.fy hH;obtain⟨z2,its2,n2,r2,hl2,e2⟩:=I.fy hB;refine PySem.P.add_list e e2 ?_ (by rw[cQ,cQ];lia);have ea:its.toArray++its2.toArray=(its++its2).toArray:=by simp
 rw[ea];exact⟨.ref _,_,I.GL (t':=s.toks) (r.append r2) (by rw[eF];lia),rfl,q _ I.fresh⟩
theorem M4{α:Type}(xs:List α)(k:Nat):(bD k xs).flatten.length=k*xs.length:=by
 induction k with|zero=>simp|succ k ih=>rw[o9,uP,eF,ih,Nat.succ_mul,Nat.add_comm]
end
end L2
namespace M5
open PySem PySem.W PySem.Calls PyProof.Rows
theorem Ua{P:Params}{h:az}:∀(ns:List Int) (vs:List aa),WellAll P h vs (ns.map WData.int)->IntsAre vs ns:=by
 intro ns;induction ns with
 |nil=>
  intro vs w;rw[tw]at w;cases w;exact .nil
 |cons n ns ih=>
  intro vs w;rw[dw]at w;cases w with
  |cons a b=>
   cases a;exact .cons _ _ (ih _ b)
theorem Ub{l:OpenLaw}{n:Nat}(hn:l.most=aB n){P:Params}{h:az}{args:List WData}{vals:List aa}
 (hpre:l.row.toRowW.claim.pre args) (hwl:WellAll P h vals args) :
 ∃a vs ns,vals=[Value.ref a]/\args=[WData.list (ns.map WData.int)]/\h.get? a=aB {cls:=.type "list",data:=.seq vs.toArray}/\IntsAre vs ns/\ns.length<=n:=by
 have hsh:WShape.hasAll [] args [.list .int]=true:=(pre_splitW hpre).1;have hc:l.pre.holds [] {args:=args}=true:=(pre_splitW hpre).2;obtain⟨d,r,rfl,h1,h2⟩:=hasAllW_cons hsh;obtain rfl:=hasAllW_nil h2;obtain⟨xs,rfl,h3⟩:=hasW_list h1;obtain⟨ns,rfl⟩:=items_int h3;have hlen:ns.length<=n:=by
  unfold OpenLaw.pre at hc;have h4:(WTm.not (.lt (.lit (.int (n:Int))) (.len (.arg 0)))).holds [] {args:=[.list (ns.map .int)]}=true:=by have h4:=(holds_andW hc).1;rw[hn]at h4;exact h4
  have h5:=condW_of h4 (w_not (w_lt w_lit (w_len_list (w_arg rfl))));rw[bJ]at h5;refine Nat.le_of_not_lt λq=>?_;have q':(n:Int)< ((ns.length:Nat):Int):=by lia
  first
   |(rw[iE q']at h5;exact absurd h5 (by decide))
   |(simp at h5;lia)
 cases hwl with
 |cons w1 w2=>
  cases w2;cases w1 with|list ho hall=>exact⟨_,_,ns,rfl,rfl,ho,Ua ns _ hall,hlen⟩
theorem Uc(l:OpenLaw)(args:List WData):l.row.toRowW.claim.post args (.bool true) args=true:=
 postW_of (r:=l.row.toRowW) (X:=(true==true))
  (show WShape.has [] (.bool true) .bool=true by first|rfl|decide|simp[WShape.has,WShape.arms,WShape.armsAll])
  (show(WTm.eq .res (.lit (.bool true))).value [] {args:=args,res:=aB (.bool true),after:=args}=aB (.bool (true==true))from w_eq_bool (w_res rfl) w_lit) rfl
theorem jo{l:OpenLaw}{n:Nat}{q:ai}{loose:List Str}{XP:(Str->Option aa)->az->Prop}{YP:aj->az->Prop}{d:DefRec}
 (hn:l.most=aB n) (hdf:d.params.defaults=[])
 (call:∀(w:aj)(s₀ s₁:af)(mg mb:Str->Option aa)(fa:ah)(o:Obj)(pm cd doc:aa)(a:ah)(vs:List aa)(ns:List Int),
   Ground q loose [] XP w s₀ mg mb s₁.heap->YP w s₁.heap->
   s₁.heap.get? fa=aB o->o.data=.func (docDef d.name d.params d.body d.scope pm cd doc)->s₁.heap.CodeRec cd d.name->mg d.name=aB (.ref fa)->
   s₁.heap.get? a=aB {cls:=.type "list",data:=.seq vs.toArray}->IntsAre vs ns->ns.length<=n->s₁.gens = #[]->
   codeAny (model l.prog w) callerA (.call (.ref fa) ⟨[.ref a],[]⟩) (λr s'=>r=.ok (.ret (.bool true))/\OldK s₁.heap s'.heap/\s'.os=s₁.os/\AllBare s'.gens) s₁) :
 WalkO q loose XP YP l.row.toRowW d [] (λf vs=>PySem.call f vs):=by
 intro w s₀ s₁ mg mb G Y fa o pm cd doc dV kV ho hd hcd hD hmg hg args vals as hpre hlay hrd hwl hlo;obtain rfl:dV=.none:=Dflts.none hD hdf;obtain rfl:kV=.none:=Dflts.noKw hD;obtain⟨a,vs,ns,rfl,rfl,hobj,hints,hlen⟩:=Ub hn hpre hwl;refine enter_call (codeAny_mono (call w s₀ s₁ mg mb fa o pm cd doc a vs ns G Y ho (fd_plain hd) hcd hmg hobj hints hlen hg) λr s' hq=>?_);obtain⟨rfl,h2,h3,h4⟩:=hq;exact⟨.inl ⟨.bool true,.bool true,[],rfl,λ_=>rfl,.bool true,Uc l _,λ_=>⟨List.Pairwise.nil,λ_ hm=>(nomatch hm)⟩⟩,h2,h3,h4⟩
end M5
namespace L2
open PySem PySem.Spec PyProof.Rows
theorem M6:∀{vs:List aa} {ns:List Int},IntsAre vs ns->Vals (ns.map V.int) vs|_,_,.nil=>.nil|_,_,.cons n t h=>.cons ⟨t,rfl⟩ (M6 h)
noncomputable def vp(H:Hp):Prop:=∀b,H b=aC\/∃o xs,H b=aB (.bL o (.lst xs))
theorem Ud{P:ai}{w:aj}{K:aH}{mg mb:Str->Option aa}{CX:pD}{k:Nat}{fa a:ah}{fd:au}{x:Str}{sp:Sp}{s₁:af}{vs:List aa}{ns:List Int}
 (KX:K.In s₁.heap) (hns:s₁.heap.Ns mainGlobals mg) (hb:s₁.heap.Ns builtinsNs mb) (Ue:∀x:Str,x≠"__name__"->mb x=bootBuiltins x) (hlim:s₁.heap.NoLimit) (hg:s₁.gens = #[])
 (ha:s₁.heap.get? a=aB {cls:=.type "list",data:=.seq vs.toArray}) (hi:IntsAre vs ns) (hl:ns.length<=sizeLine) (hr:cU k callerA)
 (F:∀base:az,K.In base->base.Ns mainGlobals mg->fq P w K mg base CX k fa fd [x] sp) (hbind:∀(s:af)(u:aa),BindsTo s fd ⟨[u],[]⟩ [(x,u)])
 (pF:∀H:Hp,vp H->cH K H a (ns.map V.int)->sp [.ref a] H (λv _=>v=.bl true) λ_ _ _=>False)
 (GO:∀H e s',CX [] H s₁ (λ_ _ _=>False) e s'->False) :
 codeAny (model P w) callerA (.call (.ref fa) ⟨[.ref a],[]⟩) (λr s'=>r=.ok (.ret (.bool true))/\OldK s₁.heap s'.heap/\s'.os=s₁.os/\AllBare s'.gens) s₁:=by
 have rv:=M6 hi;have GP:=hi.length;have core:∀H:Hp,vp H->cH K H a (ns.map V.int)->eY P w H s₁.heap->(∀b,H b≠aC->b=a)->(H a≠aC->K.lookup a=aC)->
  codeAny (model P w) callerA (.call (.ref fa) ⟨[.ref a],[]⟩) (λr s'=>r=.ok (.ret (.bool true))/\OldK s₁.heap s'.heap/\s'.os=s₁.os/\AllBare s'.gens) s₁:=by
  intro H hO hS hok hA hK;have base_of:∀{b:ah}{o:Obj},s₁.heap.get? b=aB o->H b=aC->(iP s₁.heap H).get? b=aB o:=λe n=>RE e n;have z0:∀{b:ah}{o:Obj}{es:Array DictEntry}{ep:Nat},s₁.heap.get? b=aB o->o.data=.dict es ep->H b=aC:=λ{b o es ep} e d=>by
   cases q:H b with
   |none=>rfl
   |some u=>
    have e':b=a:=hA b (by rw[q];simp);subst e';rw[ha]at e;cases e;have d':Data.seq vs.toArray _=Data.dict es ep:=d;cases d'
  have DJ:∀{b:ah}{m:Str->Option aa},s₁.heap.Ns b m->(iP s₁.heap H).Ns b m:=λ{b m}⟨o,es,ep,e,d,r⟩=>⟨o,es,ep,base_of e (z0 e d),d,r⟩
  have M7:K.In (iP s₁.heap H):=λb o e=>base_of (KX b o e) (by
   cases q:H b with
   |none=>rfl
   |some u=>
    have e':b=a:=hA b (by rw[q];simp);subst e';rw[hK (by rw[q];simp)]at e;cases e)
  have hM:Mod K mg (iP s₁.heap H):=⟨M7,DJ hns,⟨mb,DJ hb,Ue⟩,let⟨mc,h1,h2⟩:=hlim;⟨mc,DJ h1,h2⟩⟩
  have e0:qq P w K mg (iP s₁.heap H) callerA [] s₁ H:=⟨rfl,hM,λb o e=>RG e,Nat.le_of_eq (RD _ _),trivial,λb hb=>absurd (show b∈([]:List ah)from hb) (by simp),hok,.of_eq hg⟩
  refine codeAny_mono ((F _ M7 (DJ hns)).run callerA [] s₁ H ⟨[.ref a],[]⟩ [.ref a] [.ref a] _ _ hr e0 (hbind s₁ (.ref a)) (.cons rfl .nil) (pF H hO hS)) λr s' h=>?_;cases r with
  |error e=>exact(GO H e s' h).elim
  |ok fl=>
   cases fl with
   |next=>exact False.elim h
   |brk=>exact False.elim h
   |cont=>exact False.elim h
   |ret u=>
    obtain⟨v,H',os,bare,un,GQ,r',q⟩:=h;have q':v=.bl true:=q;subst q';obtain rfl:u=Value.bool true:=r';refine⟨rfl,OldK.of_keep λb o e=>?_,os,bare⟩;cases q:H b with
    |none=>exact un.keep b o e q (by intro z;exact absurd (show b∈([]:List ah)from z) (by simp)) (by simp)
    |some u=>
     rcases hO b with z|⟨ob,xs,z⟩;rw[q]at z;cases z;have z2:=un.gO b ob _ z;obtain⟨e1,_⟩:=hok b _ z;obtain⟨e2,_⟩:=GQ b _ z2;rw[e]at e1;cases e1;exact e2
 cases hk:K.lookup a with
 |some o=>
  have e:=KX a o hk;rw[ha]at e;cases e;refine core (λ_=>aC) (λ_=>.inl rfl) (.inr ⟨_,vs.toArray,_,hk,rfl,rfl,rfl,by rw[cQ,GP];exact hl,by simpa using rv⟩) (λb u z=>by have z':(aC:Option HO)=aB u:=z;cases z') (λb z=>absurd rfl z) λz=>absurd rfl z
 |none=>
  refine core (λb=>if b=a then aB (.bL {cls:=.type "list",data:=.seq vs.toArray} (.lst (ns.map V.int)))else aC) (λb=>?_) (.inl (.inr ⟨{cls:=.type "list",data:=.seq vs.toArray},if_pos rfl⟩)) (λb u z=>?_) (λb z=>?_) λ_=>hk;by_cases hb:b=a;exact .inr ⟨_,_,if_pos hb⟩;exact .inl (if_neg hb);by_cases hb:b=a;have z':=(if_pos hb).symm.trans z;cases z';subst hb;exact⟨ha,by rw[bJ];exact hl,vs,_,rv,ha⟩;have z':=(if_neg hb).symm.trans z;cases z';by_cases hb:b=a;exact hb;exact absurd (if_neg hb) z
theorem Ug{l:PySem.W.OpenLaw}{n k:Nat}{q:ai}{loose:List Str}{XP:(Str->Option aa)->az->Prop}{YP:aj->az->Prop}{d:DefRec}{K:Params->aH}{CX:aj->pD}{sp:aj->Sp}{x:Str}
 (hn:l.most=aB n) (hn2:n<=sizeLine) (hdf:d.params.defaults=[]) (hr:cU k callerA)
 (hY:∀(w:aj)(h:az),YP w h->(K w.params).In h)
 (F:∀(w:aj)(mg:Str->Option aa)(fa:ah)(h:az),(K w.params).In h->h.Ns mainGlobals mg->mg d.name=aB (.ref fa)->
   ∃fd:au,(∀(s:af)(u:aa),BindsTo s fd ⟨[u],[]⟩ [(x,u)])/\
    ∀base:az,(K w.params).In base->base.Ns mainGlobals mg->fq l.prog w (K w.params) mg base (CX w) k fa fd [x] (sp w))
 (pF:∀(w:aj)(H:Hp)(a:ah)(ns:List Int),ns.length<=n->vp H->cH (K w.params) H a (ns.map V.int)->sp w [.ref a] H (λv _=>v=.bl true) λ_ _ _=>False)
 (GO:∀(w:aj)(H:Hp)(s:af)(e:aa)(s':af),CX w [] H s (λ_ _ _=>False) e s'->False) :
 PySem.W.WalkO q loose XP YP l.row.toRowW d [] (λf vs=>PySem.call f vs):=by
 refine M5.jo hn hdf λw s₀ s₁ mg mb fa o pm cd doc a vs ns G Y ho hd hcd hmg hobj hints hlen hg=>?_;have KX:=hY w _ Y;obtain⟨fd,hb,hF⟩:=F w mg fa _ KX G.T.g hmg;exact Ud KX G.T.g G.T.b G.T.builtins G.T.nolimit hg hobj hints (gJ hlen hn2) hr hF hb (λH hO hS=>pF w H a ns hlen hO hS) λH e s'=>GO w H s₁ e s'
noncomputable def Uh(s:aq):Arguments:=match s with|.FunctionDef _ a _ _ _ _ _ _ _ _=>a|_=>{posonlyargs:=[],args:=[],vararg:=aC,kwonlyargs:=[],kw_defaults:=[],kwarg:=aC,defaults:=[]}
noncomputable def Al(s:aq):List aq:=match s with|.FunctionDef _ _ b _ _ _ _ _ _ _=>b|_=>[]
noncomputable def iQ(s:aq):ay:=match s with|.FunctionDef _ _ _ _ _ _ sc _ _ _=>sc|_=>{kind:=.function,names:=[],isGenerator:=false,isCoroutine:=false}
noncomputable abbrev kJ:pD:=λ_ _ _ _ _ _=>False
noncomputable abbrev E0:XK:=λ_ _ _=>False
theorem nA{X:Cx}:DI kJ X E0:=λ_ _ _ _ _ _ _ h=>h.elim
theorem M8{n:Nat}(h:n<=1000):n<sizeLine:=Nat.lt_of_le_of_lt h (by decide)
noncomputable def iR(cells:List (Str×ah)):List (Str×NameKind)->List (Str×ah)->List (Str×ah)|[],cs=>cs|(n,k)::r,cs=>iR cells r (if k == .free then(match cells.lookup n with|some c=>(n,c)::cs|none=>cs)else cs)
theorem DK{scope:ay}{env:Env}(hf:∀y∈scope.names,y.2=.free->∃c,env.cells.lookup y.1=aB c):closureFor scope env=pure (iR env.cells scope.names []):=by
 have go:∀(l:List (Str×NameKind))(cs:List (Str×ah)),(∀y∈l,y.2=.free->∃c,env.cells.lookup y.1=aB c)->
  (forIn l cs λ(x:Str×NameKind)(r:List (Str×ah))=>(match x with
    |(name,kind)=>if(kind==NameKind.free)=true then(do let a <-cellOf env name;pure (ForInStep.yield ((name,a)::r)))else pure (ForInStep.yield r):Sem (ForInStep (List (Str×ah)))))=(pure (iR env.cells l cs):Sem (List (Str×ah))):=by
  intro l;induction l with
  |nil=>intro cs _;rfl
  |cons x r ih=>
   intro cs h;obtain⟨n,k⟩:=x;rw[zd];by_cases hk:(k==NameKind.free)=true;have hk':k=.free:=by simpa using hk
   obtain⟨c,hc⟩:=h (n,k) dP hk';have hc':env.cells.lookup n=aB c:=hc;simp only[hk,bX,cellOf,hc',iR];exact ih _ λy hy=>h y (dj _ hy);have hk':(k==NameKind.free)=false:=by simpa using hk
   simp only[hk',dO,di,iR];exact ih _ λy hy=>h y (dj _ hy)
 have e:=go scope.names [] hf;unfold closureFor;refine Eq.trans (jK (λt=>t >>= λcs=>pure cs) e) ?_;rfl
theorem DL{cells:List (Str×ah)}:∀(l:List (Str×NameKind)) (cs:List (Str×ah)),(∀x c,cs.lookup x=aB c->cells.lookup x=aB c)->∀x c,(iR cells l cs).lookup x=aB c->cells.lookup x=aB c
 |[],cs,h=>h
 |(n,k)::r,cs,h=>DL r _ λx c e=>by
  by_cases hk:(k==NameKind.free)=true;simp only[hk,bX]at e;cases hc:cells.lookup n with
  |none=>rw[hc]at e;exact h x c e
  |some d=>
   rw[hc]at e;simp only[fV]at e;by_cases hx:(x==n)=true;simp only[hx]at e;cases e;rw[show x=n by simpa using hx];exact hc;have hx':(x==n)=false:=by simpa using hx
   simp only[hx']at e;exact h x c e
  have hk':(k==NameKind.free)=false:=by simpa using hk
  simp only[hk',dO,di]at e;exact h x c e
theorem M9{cells:List (Str×ah)}{x:Str}{c:ah}(hc:cells.lookup x=aB c):∀(l:List (Str×NameKind)) (cs:List (Str×ah)),cs.lookup x=aB c->(iR cells l cs).lookup x=aB c
 |[],cs,h=>h
 |(n,k)::r,cs,h=>M9 hc r _ (by
  by_cases hk:(k==NameKind.free)=true;simp only[hk,bX];cases hn:cells.lookup n with
  |none=>exact h
  |some d=>
   simp only[fV];by_cases hx:(x==n)=true;have:x=n:=by simpa using hx
   subst this;rw[hc]at hn;cases hn;simp;have hx':(x==n)=false:=by simpa using hx
   simp only[hx'];exact h
  have hk':(k==NameKind.free)=false:=by simpa using hk
  simp only[hk',dO,di];exact h)
theorem GR{cells:List (Str×ah)}{x:Str}{c:ah}(hc:cells.lookup x=aB c):∀(l:List (Str×NameKind)) (cs:List (Str×ah)),(x,NameKind.free)∈l->(iR cells l cs).lookup x=aB c
 |[],cs,h=>by cases h
 |(n,k)::r,cs,h=>by
  rcases fm.mp h with e|e;cases e;refine M9 hc r _ ?_;rw[hc];simp[fV];exact GR hc r _ e
theorem GS{x:Str}:∀(l:List (Str×NameKind)) (a:Nat) (acc:List (Str×ah)),(x,NameKind.cell)∉l->(cellsFrom a l acc).lookup x=acc.lookup x
 |[],_,_,_=>rfl
 |(n,k)::r,a,acc,h=>by
  unfold cellsFrom;have hr:(x,NameKind.cell)∉r:=λz=>h (dj _ z);split;rename_i hk;have hk:k=.cell:=by simpa using hk
  rw[GS r _ _ hr,fV];have:(x==n)=false:=by rw[C4];rintro rfl;exact h (by rw[hk];exact dP)
  rw[this];exact GS r _ _ hr
theorem DM{x:Str}{c:ah}:∀(l:List (Str×NameKind)) (a:Nat) (acc:List (Str×ah)),(cellsFrom a l acc).lookup x=aB c->acc.lookup x=aB c\/a<=c
 |[],_,_,h=>.inl h
 |(n,k)::r,a,acc,h=>by
  unfold cellsFrom at h;split at h;rcases DM r _ _ h with h|h
  rw[fV]at h;split at h;cases h;exact .inr (aR _);exact .inl h;exact .inr (Dd h);exact DM r _ _ h
theorem DN{x:Str}:∀(l:List (Str×NameKind)) (a:Nat) (acc:List (Str×ah)),(∃c,acc.lookup x=aB c)->∃c,(cellsFrom a l acc).lookup x=aB c
 |[],_,_,h=>h
 |(n,k)::r,a,acc,h=>by
  unfold cellsFrom;split;refine DN r _ _ ?_;rw[fV];split;exact⟨_,rfl⟩;exact h;exact DN r _ _ h
theorem GU{x:Str}:∀(l:List (Str×NameKind)) (a:Nat) (acc:List (Str×ah)),(x,NameKind.cell)∈l->∃c,(cellsFrom a l acc).lookup x=aB c
 |[],_,_,h=>by cases h
 |(n,k)::r,a,acc,h=>by
  unfold cellsFrom;rcases fm.mp h with e|e
  cases e;rw[if_pos (by rfl)];exact DN r _ _ ⟨a,by simp[fV]⟩;split;exact GU r _ _ e;exact GU r _ _ e
theorem GV{acc:List (Str×ah)}:∀(l:List (Str×NameKind)) (a:Nat) (acc:List (Str×ah)),(∀x y c,acc.lookup x=aB c->acc.lookup y=aB c->x=y)->(∀x c,acc.lookup x=aB c->c<a)->
 ∀x y c,(cellsFrom a l acc).lookup x=aB c->(cellsFrom a l acc).lookup y=aB c->x=y
 |[],_,_,h,_=>h
 |(n,k)::r,a,acc,h,hl=>by
  unfold cellsFrom;split;refine GV (acc:=acc) r _ _ (λx y c e1 e2=>?_) λx c e=>?_;rw[fV]at e1 e2;cases b1:x==n<;>cases b2:y==n<;>simp only[b1,b2]at e1 e2;exact h x y c e1 e2;cases e2;exact absurd (hl x _ e1) (jg _);cases e1;exact absurd (hl y _ e2) (jg _);rw[beq_iff_eq.mp b1,beq_iff_eq.mp b2];rw[fV]at e;cases b1:x==n<;>simp only[b1]at e;exact pW (hl x c e);cases e;exact iO _;exact GV (acc:=acc) r _ _ h hl
theorem GW{x:Str}{c:ah}:∀(l:List (Str×NameKind)) (h:az) (acc:List (Str×ah)),(cellsFrom h.objs.size l acc).lookup x=aB c->h.objs.size<=c->(∀y d,acc.lookup y=aB d->h.objs.size<=d->h.IsCell d aC)->(pushCells h l).IsCell c aC
 |[],h,acc,e,hc,ha=>ha x c e hc
 |(n,k)::r,h,acc,e,hc,ha=>by
  unfold cellsFrom at e;unfold pushCells;split at e;rename_i hk;rw[if_pos hk];by_cases z:h.objs.size+1<=c;refine GW r (h.push {cls:=.type "cell",data:=.cell aC}) ((n,h.objs.size)::acc) (by rw[ji];exact e) (by rw[ji];exact z) λy d e1 e2=>?_;rw[ji]at e2;rw[fV]at e1;cases b1:y==n<;>simp only[b1]at e1;exact(ha y d e1 (Dd e2)).keeps λb o q=>cA _ q;cases e1;exact absurd e2 (Nat.not_succ_le_self _);have hce:c=h.objs.size:=Nat.le_antisymm (Nat.le_of_lt_succ (Nat.lt_of_not_le z)) hc;have:(h.push {cls:=.type "cell",data:=.cell aC}).IsCell c aC:=⟨_,by rw[hce];exact iw _ rfl,rfl⟩
  exact this.keeps λb o q=>pushCells_keeps _ _ b o q;rename_i hk;rw[if_neg hk];exact GW r h acc e hc ha
theorem Na{M:Model}{A:ak}{E:aa->af->Prop}{s:af}{scope:ay}{globals:ah}{cl:List (Str×ah)}{qual:Str}{env:Env}{Q:Env->af->Prop}(hcl:∀x c,cl.lookup x=aB c->c<s.heap.objs.size)
 (hQ:∀h',h'.Ns s.heap.objs.size (λ_=>aC)->(∀b o,s.heap.get? b=aB o->h'.get? b=aB o)->(∀x c,(cellsFrom (s.heap.objs.size+1) scope.names cl).lookup x=aB c->s.heap.objs.size<c->h'.IsCell c aC)->
   Q (newEnv scope s.heap.objs.size globals (cellsFrom (s.heap.objs.size+1) scope.names cl) qual aC .none (aB env) builtinsNs) {s with heap:=h'}) :
 wpAny M A (newFunctionEnv scope globals cl [] qual aC .none (aB env)) Q E s:=by
 simp only[newFunctionEnv,Option.isSome_some,bX];refine aJ (wpAny_alloc ?_);refine aJ (wpAny_layCells _ (λname kind cells=>by cases hkc:kind==NameKind.cell<;>simp[hkc]) _ _ _ _ ?_);have hz:({s with heap:=s.heap.push {cls:=.type "dict",data:=.dict #[]}}:af).heap.objs.size=s.heap.objs.size+1:=ji ..;rw[hz];refine aJ (bC (bC ?_));refine hQ (pushCells (s.heap.push {cls:=.type "dict",data:=.dict #[]}) scope.names) ((Heap.Ns.new s.heap (.type "dict")).keeps (pushCells_keeps _ _)) (λb o e=>pushCells_keeps _ _ b o (cA _ e)) λx c e hc=>?_;refine GW scope.names (s.heap.push {cls:=.type "dict",data:=.dict #[]}) cl (by rw[ji];exact e) (by rw[ji];exact hc) λy d e1 e2=>?_;rw[ji]at e2;exact absurd (hcl y d e1) (jh.mpr (Dd e2))
theorem Nb{cells:List (Str×ah)}{x:Str}:∀(l:List (Str×NameKind)) (cs:List (Str×ah)),(x,NameKind.free)∉l->cs.lookup x=aC->(iR cells l cs).lookup x=aC
 |[],cs,_,h=>h
 |(n,k)::r,cs,hl,h=>by
  have hr:(x,NameKind.free)∉r:=λz=>hl (dj _ z);refine Nb r _ hr ?_;by_cases hk:(k==NameKind.free)=true;simp only[hk,bX];cases cells.lookup n with
  |none=>exact h
  |some d=>
   simp only[fV];have:(x==n)=false:=by rw[C4];rintro rfl;exact hl (by rw[show k=NameKind.free by simpa using hk];exact dP)
   simp only[this];exact h
  have hk':(k==NameKind.free)=false:=by simpa using hk
  simp only[hk',dO,di];exact h
theorem Ui{cells:List (Str×ah)}{x:Str}{c:ah}{l:List (Str×NameKind)}(h:(x,NameKind.free)∉l):¬(iR cells l []).lookup x=aB c:=λz=>by
 rw[Nb l [] h rfl]at z;cases z
noncomputable abbrev Cx.comp(X:Cx)(N:List Str)(scope:ay)(C:ah)(s₀:af)(H₀:Hp)(ex:List ah):Cx:=
 {X with N:=N,s₀:=s₀,H₀:=H₀,env:=compEnvC scope (cellsFrom (C+1) scope.names (iR X.env.cells scope.names [])) C X.env,outer:=X.stack,stack:=X.stack,ex:=ex,fn:=λx=>scope.names.lookup x==aB .cell,pn:=[],xe:=λ_ _=>False}
structure aW(X:Cx)(ow fr:List Str)(ix:List Nat)(scope:ay):Prop where
 kind:scope.kind=.function
 Am:∀y∈scope.names,y.2=.cell->scope.names.lookup y.1=aB .cell
 names:∀y∈scope.names,y.2=.local->scope.names.lookup y.1=aB .local
 own:∀x∈ow,scope.names.lookup x=aB .local\/scope.names.lookup x=aB .cell
 An:∀y∈scope.names,y.2=.free->scope.names.lookup y.1=aB .free
 free:∀y∈scope.names,y.2=.free->X.env.kindOf y.1=aB .cell\/X.env.kindOf y.1=aB .free
 at_:∀(k:Nat)(x:Str),fr[k]?=aB x->∃j,ix[k]?=aB j/\X.N[j]?=aB x/\scope.names.lookup x=aB .free
 len:ix.length=fr.length
noncomputable def iS(ow fr:List Str)(ix:List Nat)(σ:St):St:=ow.map (λ_=>aC)++ix.map λj=>(σ[j]?).join
theorem Nc{x:Str}{k:NameKind}:∀{l:List (Str×NameKind)},l.lookup x=aB k->(x,k)∈l
 |[],h=>by cases h
 |(n,j)::r,h=>by
  simp only[fV]at h;by_cases hx:(x==n)=true;simp only[hx]at h;cases h;rw[show x=n by simpa using hx];exact dP;have hx':(x==n)=false:=by simpa using hx
  simp only[hx']at h;exact dj _ (Nc h)
theorem GX{env:Env}:∀{l:List (Str×NameKind)} {x:Str} {k:NameKind},
 (l.map λ(n,k)=>if(k==NameKind.free&&env.scope.kind == .function&&env.kindOf n==aB .cell)then(n,NameKind.cell)else(n,k)).lookup x=aB k->k=.cell\/k=.free->(x,NameKind.free)∈l\/(x,NameKind.cell)∈l
 |[],x,k,h,_=>by cases h
 |(n,j)::r,x,k,h,hh=>by
  have ih:=@GX env r x k;rw[dw]at h;by_cases hc':(j==NameKind.free&&env.scope.kind == .function&&env.kindOf n==aB .cell)=true;simp only[hc',bX,fV]at h;have hj:j=.free:=by simp only[bE,beq_iff_eq]at hc';exact hc'.1.1
  by_cases hx:(x==n)=true;rw[show x=n by simpa using hx,hj];exact .inl dP;have hx':(x==n)=false:=by simpa using hx
  simp only[hx']at h;exact(ih h hh).imp (dj _) (dj _);have hcf:(j==NameKind.free&&env.scope.kind == .function&&env.kindOf n==aB .cell)=false:=by simpa using hc'
  simp only[hcf,dO,di,fV]at h;by_cases hx:(x==n)=true;simp only[hx]at h;cases h;rcases hh with z|z
  rw[show x=n by simpa using hx,z];exact .inr dP;rw[show x=n by simpa using hx,z];exact .inl dP;have hx':(x==n)=false:=by simpa using hx
  simp only[hx']at h;exact(ih h hh).imp (dj _) (dj _)
theorem DO{env:Env}(hkf:env.scope.kind=.function):∀{l:List (Str×NameKind)} {x:Str},l.lookup x=aB .free->
 (l.map λ(n,k)=>if(k==NameKind.free&&env.scope.kind == .function&&env.kindOf n==aB .cell)then(n,NameKind.cell)else(n,k)).lookup x=aB (if env.kindOf x=aB .cell then .cell else .free)
 |[],x,h=>by cases h
 |(n,j)::r,x,h=>by
  have ih:=@DO env hkf r x;rw[dw];simp only[fV]at h;by_cases hx:(x==n)=true;simp only[hx]at h;cases h;have e:x=n:=by simpa using hx
  subst e;by_cases hq:env.kindOf x=aB .cell;simp[hkf,hq,fV];simp[hq,fV];have hx':(x==n)=false:=by simpa using hx
  simp only[hx']at h;by_cases hc':(j==NameKind.free&&env.scope.kind == .function&&env.kindOf n==aB .cell)=true;simp only[hc',bX,fV,hx'];exact ih h;have hcf:(j==NameKind.free&&env.scope.kind == .function&&env.kindOf n==aB .cell)=false:=by simpa using hc'
  simp only[hcf,dO,di,fV,hx'];exact ih h
section
variable{X:Cx}{pins:List (ah×Obj)}{σ:St}{H:Hp}{s:af}{ow fr:List Str}{ix:List Nat}{scope:ay}{fp:List ah}
theorem Nd(S:aW X ow fr ix scope)(I:Inv X pins σ H s)(hfp:∀b∈fp,dQ X pins H b)(hlt:∀b∈fp,b<s.heap.objs.size){h':az}{tk:Nat}{m:Str->Option aa}(hn:h'.Ns s.heap.objs.size m)(hk:∀b o,s.heap.get? b=aB o->h'.get? b=aB o)(hnc:∀x c,(cellsFrom (s.heap.objs.size+1) scope.names (iR X.env.cells scope.names [])).lookup x=aB c->s.heap.objs.size<c->h'.IsCell c aC) :
 Inv (X.comp (ow++fr) scope s.heap.objs.size s H fp) [] (iS ow fr ix σ) H {s with heap:=h',toks:=tk}:=by
 have sub:=DL (cells:=X.env.cells) scope.names [] (λx c e=>by cases e);have Uj:∀x c,(iR X.env.cells scope.names []).lookup x=aB c->c<s.heap.objs.size:=λx c e=>by
  obtain⟨v,q⟩:=I.cell x c (sub x c e);exact q.lt
 have two:∀x c,(cellsFrom (s.heap.objs.size+1) scope.names (iR X.env.cells scope.names [])).lookup x=aB c->X.env.cells.lookup x=aB c\/s.heap.objs.size<c:=λx c e=>(DM _ _ _ e).imp (sub x c) λz=>z;have pass:∀x,(x,NameKind.free)∈scope.names->scope.names.lookup x=aB .free->(cellsFrom (s.heap.objs.size+1) scope.names (iR X.env.cells scope.names [])).lookup x=(iR X.env.cells scope.names []).lookup x:=λx hx hl=>GS _ _ _ λz=>by
  have:=S.Am _ z rfl;rw[hl]at this;cases this
 have kf:=I.ok.kind;have Nf:∀x c,X.env.cells.lookup x=aB c->c≠s.heap.objs.size:=λx c e z=>by
  obtain⟨v,q⟩:=I.cell x c e;exact absurd q.lt (by rw[z];exact jg _)
 have GY:∀x,(x,NameKind.free)∈scope.names->∃c,(iR X.env.cells scope.names []).lookup x=aB c/\X.env.cells.lookup x=aB c:=λx hx=>by
  obtain⟨c,hc⟩:=I.ok.has x (S.free _ hx rfl);exact⟨c,GR hc _ _ hx,hc⟩
 refine⟨⟨I.ok.mod,?_,I.ok.glob,I.ok.blt,aR _,GV (acc:=[]) _ _ _ (λx y c a b=>I.ok.inj x y c (sub x c a) (sub y c b)) (λx c e=>pW (Uj x c e)),λx hx=>?_,λx c e1 e2=>?_,I.ok.hd,I.ok.frames,.inl rfl,λb hb=>?_,λb o e=>?_,?_,λb o e hb=>?_,λb hb hz=>?_,I.stack,λb hb=>I.kF b hb⟩,
  rfl,I.bare,Un.kept hk,⟨m,hn,λi x v e1 e2 e3=>?_⟩,λx c e=>?_,I.hok.fresh (aR _),λx c e=>(two x c e).elim (I.eZ x c) (λz=>I.hok.fresh (pX z)),λp hp=>?_,I.hok.kept hk,?_⟩
 exact S.kind;have hx':(relabel scope X.env).names.lookup x=aB .cell\/(relabel scope X.env).names.lookup x=aB .free:=hx;have hm:(x,NameKind.free)∈scope.names\/(x,NameKind.cell)∈scope.names:=by rcases hx' with z|z;exact GX (env:=X.env) z (.inl rfl);exact GX (env:=X.env) z (.inr rfl)
 rcases hm with hm|hm;obtain⟨c,hc,_⟩:=GY x hm;exact DN _ _ _ ⟨c,hc⟩;exact GU _ _ _ hm;have e1:scope.names.lookup x=aB .cell:=by have e1:(scope.names.lookup x==aB NameKind.cell)=true:=e1;simpa using e1
 rcases DM _ _ _ e2 with z|z;exfalso;have hcl:∃y,X.env.cells.lookup x=aB c:=⟨c,sub x c z⟩
 exact absurd z (by
  intro z;exact Ui (λq=>by
   have:=S.An _ q rfl;rw[e1]at this;cases this) z)
 exact Dd z;obtain⟨f0,f1,f2,f3,f4,f5⟩:=hfp b hb;refine⟨λz=>?_,λx c e=>(two x c e).elim (f4 x c) λz q=>by
  have:=hlt b hb;rw[q]at z;exact Nat.lt_asymm this z⟩
 have q:=hlt b hb;rw[z]at q;exact absurd q (jg _);exact⟨(I.bs b o e).1,(I.bs b o e).2⟩;exact gJ I.ok.u6 I.sz;obtain⟨f0,f1,f2,f3,f4,f5⟩:=hfp b hb;rcases f3 with z|z
 exact I.ok.nq b o e z;exact absurd (ek (cJ (I.ok.bs b o e).1) z) (jg _);obtain⟨f0,f1,f2,f3,f4,f5⟩:=hfp b hb;rcases fm.mp (I.j5 b hz)with z|z
 exact f1 z;exact f2 z;have hlen:ow.length<=i:=by
  by_cases hi:i<ow.length;unfold iS at e2;rw[pZ (by simpa using hi),jb]at e2;cases q:ow[i]? with|none=>rw[q]at e2;cases e2|some y=>rw[q]at e2;cases e2
  lia
 have Uk:fr[i-ow.length]?=aB x:=by have e1:(ow++fr)[i]?=aB x:=e1;rw[lI hlen]at e1;exact e1
 have Ng:(ix.map λj=>(σ[j]?).join)[i-ow.length]?=aB (aB v):=by unfold iS at e2;rw[lI (by simpa using hlen)]at e2;simpa using e2
 obtain⟨j,hj,hN,hl⟩:=S.at_ _ _ Uk;rw[jb,hj]at Ng;have nB:(σ[j]?).join=aB v:=nk Ng;have hσ:σ[j]?=aB (aB v):=by
  cases q:σ[j]? with
  |none=>rw[q]at nB;cases nB
  |some o=>rw[q]at nB;cases o with
   |none=>cases nB
   |some w=>cases nB;rfl
 obtain⟨m0,hm0,Ul⟩:=I.loc;have hmem:=Nc hl;have hkf:=S.free _ hmem rfl;have GZ:xU X.env.scope x:=hkf.elim (λz=>.inr (.inl z)) λz=>.inr (.inr z);obtain⟨u,ru,lk⟩:=Ul j x v hN hσ GZ;refine⟨u,ru,.inr ?_⟩;have hcell:∃c,X.env.cells.lookup x=aB c/\s.heap.IsCell c (aB u):=by rcases lk with⟨z,_⟩|⟨_,c,e,z⟩;rcases hkf with q|q;rw[show X.env.kindOf x=aB .local from z]at q;cases q;rw[show X.env.kindOf x=aB .local from z]at q;cases q;exact⟨c,e,z⟩
 obtain⟨c,hc,o,ho,hd⟩:=hcell;refine⟨?_,c,(pass x hmem hl).trans (GR hc _ _ hmem),o,hk _ _ ho,hd⟩;show(relabel scope X.env).names.lookup x=aB .cell\/(relabel scope X.env).names.lookup x=aB .free;have q:=DO (env:=X.env) kf hl;by_cases z:X.env.kindOf x=aB .cell;rw[if_pos z]at q;exact .inl q;rw[if_neg z]at q;exact .inr q;rcases two x c e with z|z;obtain⟨v,q⟩:=I.cell x c z;obtain⟨o,ho,hd⟩:=q;exact⟨v,o,hk _ _ ho,hd⟩;exact⟨aC,hnc x c e z⟩;cases(show p∈([]:List (ah×Obj))from hp);show(iS ow fr ix σ).length=(ow++fr).length;unfold iS;rw[eF,bJ,bJ,eF,S.len]
end
theorem G0{α:Type}{M:Model}{A:ak}{t:Sem α}{Q:α->af->Prop}{E:aa->af->Prop}{s:af}(h:wpAny M A t Q (λ_ _=>False) s):wpAny M A t Q E s:=fS h (λ_ _ q=>q) λ_ _ z=>z.elim
noncomputable abbrev gw:aa->af->Prop:=λ_ _=>False
noncomputable abbrev x9(ifs:List ao)(env:Env):Sem Bool:=forIn ifs true λc r=>if r=true then do let ok <-isTrue c env (eval c env);pure (ForInStep.yield ok)else pure (ForInStep.yield r)
theorem Um{prog:ai}{w:aj}{A:ak}{R:Result->af->Prop}{s:af}{elt target iter:ao}{ifs:List ao}{scope:ay}{pos:Pos}{it acc:aa}{env:Env}(I:Nat->af->Prop)
 (turn:∀n s,I n s->wpAny (model prog w) A (pyNext it) (λr s₁=>match r with
   |none=>R (.ok .next) s₁
   |some v=>wpAny (model prog w) A (letOwnedTupleGo target it v) (λ_ s₀=>wpAny (model prog w) A (assign target env v) (λ_ s₂=>
    wpAny (model prog w) A (x9 ifs env) (λok s₃=>
     if ok=true then wpAny (model prog w) A (eval elt env) (λx s₄=>
      wpAny (model prog w) A (call (.builtin "list.append") [acc,x]) (λ_ s₅=>∃m,m<n/\I m s₅) gw s₄) gw s₃
     else ∃m,m<n/\I m s₃) gw s₂) gw s₀) gw s₁) gw s)
 (n:Nat) (h:I n s) :
 codeAny (model prog w) A (.compLoop (.ListComp elt [⟨target,iter,ifs,0⟩] scope pos) 0 it acc env) R s:=by
 refine codeAny_loop rfl I (λn s hI=>?_) n h;show wpAny _ A ((compTurn (.ListComp elt [⟨target,iter,ifs,0⟩] scope pos) 0 it acc env).onRaise (λx=>do noteFrame x env;theTreesLotGoes x)) _ _ s;refine wpAny_noted (G0 ?_);rw[compTurn_list];refine aJ (mQ (aJ (fS (turn n s hI) (λr s₁ h₁=>?_) λ_ _ h'=>h')));cases r with
 |none=>exact bC h₁
 |some v=>
  refine aJ (fS h₁ (λ_ s₀ h₀=>?_) λ_ _ h'=>h');refine aJ (fS h₀ (λ_ s₂ h₂=>aJ (fS h₂ (λok s₃ h₃=>?_) λ_ _ h'=>h')) λ_ _ h'=>h');cases ok with
  |true=>
   simp only[bX]at h₃ ⊢;exact aJ (aJ (fS h₃ (λx s₄ h₄=>aJ (fS h₄ (λ_ s₅ h₅=>bC (bC ⟨rfl,h₅⟩)) λ_ _ h'=>h')) λ_ _ h'=>h'))
  |false=>
   simp only[dO,di]at h₃ ⊢;exact bC ⟨rfl,h₃⟩
noncomputable def iH(X:Cx)(ifs:List ao)(t:TT):Prop:=
 ∀(pins:List (ah×Obj))(s:af)(σ:St)(H:Hp)(Q:Bool->Hp->Prop),Inv X pins σ H s->t σ H Q->wpAny (model X.prog X.w) X.A (x9 ifs X.env) (TP X pins σ Q) X.xe s
noncomputable def G6:TT:=λ_ H Q=>Q true H
theorem Uo{X:Cx}:iH X [] G6:=λpins s σ H Q I h=>wpAny_tests_nil ⟨H,I,h⟩
theorem Up{X:Cx}{c:ao}{t:TT}(h:PT X c t):iH X [c] t:=λpins s σ H Q I q=>wpAny_tests_one (h pins s σ H Q I q)
noncomputable def G7(K:aH)(f:St->St)(wi:TI)(g:TG)(tc:TT)(te:TE):TE:=λσ H Q=>wi σ H λJ H1=>∀D,H1 D=aC->K.lookup D=aC->
 ∃W:Nat->Nat->St->Hp->List V->Prop,(∃m,W 0 m (f σ) (upd H1 D (.lst [])) [])/\∀i m σ' H' ys,W i m σ' H' ys->H' D=aB (.lst ys)/\
  ((J.stop i H'/\Q (.ref D) H')\/(J.go i H'/\∀x H2,J.vc i H' x H2->g x σ' H2 λσ2 H3=>tc σ2 H3 λb H4=>
    if b=true then te σ2 H4 λy H5=>H5 D=aB (.lst ys)/\ys.length<sizeLine/\∃m',m'<m/\W (i+1) m' σ2 (upd H5 D (.lst (ys++[y]))) (ys++[y])
    else ∃m',m'<m/\W (i+1) m' σ2 H4 ys))
section
variable{X:Cx}{ow fr:List Str}{ix:List Nat}{scope:ay}{tg iter elt:ao}{ifs:List ao}{pos:Pos}{wi:TI}{g:TG}{tc:TT}{te:TE}
theorem Nh{pins:List (ah×Obj)}{s:af}{σ:St}{Q:VK}{RR:aa->ah->Result->af->Prop}(S:aW X ow fr ix scope)(hc:X.calm=true)
 (hg:∀C s₀ H₀ ex,PG (X.comp (ow++fr) scope C s₀ H₀ ex) tg g) (ht:∀C s₀ H₀ ex,iH (X.comp (ow++fr) scope C s₀ H₀ ex) ifs tc) (he:∀C s₀ H₀ ex,PE (X.comp (ow++fr) scope C s₀ H₀ ex) elt te)
 {itv:aa} {E:aa->af->Prop}
 (h:DC X pins σ tg (λJ H1=>∀D,H1 D=aC->X.K.lookup D=aC->
   ∃W:Nat->Nat->St->Hp->List V->Prop,(∃m,W 0 m (iS ow fr ix σ) (upd H1 D (.lst [])) [])/\∀i m σ' H' ys,W i m σ' H' ys->H' D=aB (.lst ys)/\
    ((J.stop i H'/\Q (.ref D) H')\/(J.go i H'/\∀x H2,J.vc i H' x H2->g x σ' H2 λσ2 H3=>tc σ2 H3 λb H4=>
      if b=true then te σ2 H4 λy H5=>H5 D=aB (.lst ys)/\ys.length<sizeLine/\∃m',m'<m/\W (i+1) m' σ2 (upd H5 D (.lst (ys++[y]))) (ys++[y])
      else ∃m',m'<m/\W (i+1) m' σ2 H4 ys))) itv s)
 (fin:∀D C H' s' m,dQ X pins H' C->s'.heap.Ns C m->(∀h'',Heap.SameBut C s'.heap h''->Inv X pins σ H' {s' with heap:=h''})->Q (.ref D) H'->RR (.ref D) C (.ok .next) s') :
 wpAny (model X.prog X.w) X.A (newList []) (λacc s₃=>wpAny (model X.prog X.w) X.A (newFunctionEnv scope X.env.globals (iR X.env.cells scope.names []) [] X.env.qual aC .none (aB X.env)) (λcenv s₄=>
  codeAny (model X.prog X.w) X.A (.compStart (.ListComp elt [⟨tg,iter,ifs,0⟩] scope pos) 0 itv acc {cenv with scope:=relabel scope X.env}) (RR acc cenv.locals) s₄) E s₃) E s:=by
 obtain⟨it,fp,tn,J,H1,e,I1,T,st1,f1,hq⟩:=h;subst e;have hD:H1 s.heap.objs.size=aC:=I1.hok.fresh (aR _);have G8:X.K.lookup s.heap.objs.size=aC:=by
  cases e:X.K.lookup s.heap.objs.size with|none=>rfl|some o=>exact absurd (cJ (I1.iG _ _ e)) (jg _)
 obtain⟨W,⟨m0,w0⟩,turn⟩:=hq _ hD G8;have I3:Inv X pins σ (upd H1 s.heap.objs.size (.lst [])) {s with heap:=s.heap.push {cls:=.type "list",dict:=aC,data:=.seq ([]:List aa).toArray}}:=
  I1.laid (t':=s.toks) (o:=.lst []) (λb u q=>cA _ q) (aR _) ⟨gu _,[],0,.nil,iw _ rfl⟩
 have nC:∀b∈fp,b<s.heap.objs.size:=λb hb=>by
  obtain⟨o,ho,_⟩:=T.obj _ _ st1 b hb;exact cJ ho
 have f3:∀b∈fp,dQ X pins (upd H1 s.heap.objs.size (.lst [])) b:=λb hb=>⟨by rw[bV (fL (nC b hb))];exact(f1 b hb).1,(f1 b hb).2⟩
 refine vcs (Na (λx c e=>(I3.cell x c (DL (cells:=X.env.cells) scope.names [] (λx c e=>by cases e) x c e)).elim λv q=>q.lt) (λh₁ hns hk0 hnc=>?_));dsimp only at hns hk0 hnc ⊢;generalize Ao:({s with heap:=s.heap.push {cls:=.type "list",dict:=aC,data:=.seq ([]:List aa).toArray}}:af)=s3 at I3;have vq:s3.heap=s.heap.push {cls:=.type "list",dict:=aC,data:=.seq ([]:List aa).toArray}:=by rw[<-Ao]
 rw[<-vq]at hns hk0 hnc ⊢;have hk:∀b o,s3.heap.get? b=aB o->h₁.get? b=aB o:=hk0;have vt:∀b∈fp,b<s3.heap.objs.size:=λb hb=>by rw[vq,ji];exact pW (nC b hb)
 have J3:=Nd S I3 f3 vt (tk:=s.toks) hns hk hnc;have st3:tn 0 h₁:=T.keep _ _ _ st1 λb hb o e=>hk b o (by rw[vq];exact cA _ e);have vv:∀b∈fp,(X.comp (ow++fr) scope s3.heap.objs.size s3 (upd H1 s.heap.objs.size (.lst [])) fp).Ok->∀{H':Hp},H' b=aC->dQ (X.comp (ow++fr) scope s3.heap.objs.size s3 (upd H1 s.heap.objs.size (.lst [])) fp) [] H' b:=λb hb ok H' hn=>
  ⟨hn,(ok.xV b hb).1,ok.lM b hb,.inl hb,(ok.xV b hb).2,λp hp=>by cases(show p∈([]:List (ah×Obj))from hp)⟩
 have back:∀{σ':St}{H':Hp}{s':af},Inv (X.comp (ow++fr) scope s3.heap.objs.size s3 (upd H1 s.heap.objs.size (.lst [])) fp) [] σ' H' s'->∀h'',Heap.SameBut s3.heap.objs.size s'.heap h''->Inv X pins σ H' {s' with heap:=h''}:=λ{σ' H' s'} I' h'' hs=>by
  have mV:∀b o,s3.heap.get? b=aB o->b≠s3.heap.objs.size:=λb o e=>fL (cJ e);have un:Un (frs X.stack) fp (upd H1 s.heap.objs.size (.lst [])) H' s3.heap h'':=
   ⟨λb o e n hb hx=>(hs.2 b (mV b o e)).trans (I'.base.keep b o e n hb hx),λb o e n hb hx=>by
    obtain⟨sl,q⟩:=I'.base.slot b o e n hb hx;exact⟨sl,(hs.2 b (mV b o e)).trans q⟩,I'.base.free,λb o e hx=>by
    obtain⟨o',q⟩:=I'.base.there b o e hx;exact⟨o',(hs.2 b (mV b o e)).trans q⟩,I'.base.tups,I'.base.gO,I'.base.iy⟩
  have hok:eY X.prog X.w H' h'':=λb ob e=>by
   refine(I'.hok b ob e).stay (λc w' hcc q=>(hs.2 c ?_).trans q) (λ_ q=>q) λ_ _ q=>q;rintro rfl;have hfree:=I'.free;rcases hcc with rfl|hcc
   rw[show H' s3.heap.objs.size=aC from hfree]at e;cases e;rw[show H' s3.heap.objs.size=aC from hfree]at hcc;cases hcc
  have hos:s'.os=s3.os:=I'.os;exact I3.tD (s':={s' with heap:=h''}) (ch:=fp) hos un hok I'.bare λb hb=>by
   obtain⟨_,a1,a2,a3,a4,a5⟩:=f1 b hb;exact⟨a3,a1,a4,a5⟩
 have loop:∀s4:af,Inv (X.comp (ow++fr) scope s3.heap.objs.size s3 (upd H1 s.heap.objs.size (.lst [])) fp) [] (iS ow fr ix σ) (upd H1 s.heap.objs.size (.lst [])) s4->tn 0 s4.heap->
  codeAny (model X.prog X.w) X.A (.compLoop (.ListComp elt [⟨tg,iter,ifs,0⟩] scope pos) 0 (.ref it) (.ref s.heap.objs.size) (X.comp (ow++fr) scope s3.heap.objs.size s3 (upd H1 s.heap.objs.size (.lst [])) fp).env)
   (RR (.ref s.heap.objs.size) s3.heap.objs.size) s4:=by
  intro s4 I4 G9;refine Um (λn s'=>∃i σ' H' ys,Inv (X.comp (ow++fr) scope s3.heap.objs.size s3 (upd H1 s.heap.objs.size (.lst [])) fp) [] σ' H' s'/\tn i s'.heap/\(∀b∈fp,H' b=aC)/\W i n σ' H' ys) ?_ m0 ⟨0,_,_,[],I4,G9,λb hb=>(f3 b hb).1,w0⟩;rintro n s5 ⟨i,jP,H5,ys,I5,lO,ql,w5⟩;obtain⟨Uq,alt⟩:=turn i n jP H5 ys w5;rcases alt with⟨stop,q⟩|⟨go,step⟩
  .refine aY (T.done (X.comp (ow++fr) scope s3.heap.objs.size s3 (upd H1 s.heap.objs.size (.lst [])) fp) rfl rfl rfl hc i [] s5 jP H5 gw I5 (λb hb=>vv b hb I5.ok (ql b hb)) lO stop) λr s6 bZ=>?_
   obtain⟨hr,I6⟩:=bZ;subst hr;obtain⟨m6,DP,_⟩:=I6.loc;exact fin _ _ H5 s6 m6 (I3.j6 (aR _) I6.free) DP (back I6) q
  refine aY (T.item (X.comp (ow++fr) scope s3.heap.objs.size s3 (upd H1 s.heap.objs.size (.lst [])) fp) rfl rfl rfl hc i [] s5 jP H5 gw I5 (λb hb=>vv b hb I5.ok (ql b hb)) lO go) λr s6 bZ=>?_;obtain⟨u,hr,h6⟩:=bZ;subst hr;refine aY h6 λ_ s7 bZ=>?_;obtain⟨x,H7,I7,r7,y7,vz,Hf⟩:=bZ;have Hg:=I7.pinned (λb hb=>vv b hb I7.ok (Hf b hb)) (T.obj _ _ vz);have again:∀{jq:St}{H8:Hp}{s8:af}{zs:List V}{m':Nat},Inv (X.comp (ow++fr) scope s3.heap.objs.size s3 (upd H1 s.heap.objs.size (.lst [])) fp) ([]++ve fp s7.heap) jq H8 s8->m'<n->W (i+1) m' jq H8 zs->
   ∃m,m<n/\∃i σ' H' ys,Inv (X.comp (ow++fr) scope s3.heap.objs.size s3 (upd H1 s.heap.objs.size (.lst [])) fp) [] σ' H' s8/\tn i s8.heap/\(∀b∈fp,H' b=aC)/\W i m σ' H' ys:=λ{jq H8 s8 zs m'} I8 hm w8=>by
   refine⟨m',hm,i+1,jq,H8,zs,I8.dz,T.keep _ _ _ vz λb hb o e=>(I8.pin (b,o) (gK _ (gK _ (tF hb e)))).1,λb hb=>?_,w8⟩;obtain⟨o,e,d⟩:=T.obj _ _ vz b hb;exact(I8.pin (b,o) (gK _ (gK _ (tF hb e)))).2.1
  refine aY (hg _ _ _ _ _ s7 jP H7 x u _ Hg r7 (step x H7 y7)) λ_ s8 bZ=>?_;obtain⟨jq,H8,I8,q8⟩:=bZ;refine aY (ht _ _ _ _ _ s8 jq H8 _ I8 q8) λok s9 z9=>z9.el λH9 I9 q9=>?_;cases ok with
  |false=>
   simp only[dO,di]at q9 ⊢;obtain⟨m',hm,w9⟩:=q9;exact again I9 hm w9
  |true=>
   simp only[bX]at q9 ⊢;refine aY (he _ _ _ _ _ s9 jq H9 _ I9 q9) λy Hh bZ=>?_;obtain⟨vy,Hi,Hj,ry,Hl,hz,m',hm,Ho⟩:=bZ;refine aY (GN _ Hh jq Hi (.ref s.heap.objs.size) [vy] (.ref s.heap.objs.size) [y] (λv H'=>H'=upd Hi s.heap.objs.size (.lst (ys++[vy]))) Hj rfl (.cons ry .nil) ⟨_,ys,vy,rfl,rfl,Hl,hz,rfl⟩) λ_ s11 bZ=>?_;obtain⟨v11,H11,Ur,_,DQ⟩:=bZ;subst DQ;exact again Ur hm Ho
 have DR:Inv (X.comp (ow++fr) scope s3.heap.objs.size s3 (upd H1 s.heap.objs.size (.lst [])) fp) [] (iS ow fr ix σ) (upd H1 s.heap.objs.size (.lst [])) {s with heap:=h₁,toks:=s.toks}:=by rw[<-Ao]at J3 ⊢;exact J3
 exact codeAny_compStart_list (loop _ DR st3) (T.self _ 0 _ _ _ st3 (loop _ DR st3))
theorem Aq(S:aW X ow fr ix scope)(hc:X.calm)(hi:PI X tg iter wi)
 (hg:∀C s₀ H₀ ex,PG (X.comp (ow++fr) scope C s₀ H₀ ex) tg g) (ht:∀C s₀ H₀ ex,iH (X.comp (ow++fr) scope C s₀ H₀ ex) ifs tc) (he:∀C s₀ H₀ ex,PE (X.comp (ow++fr) scope C s₀ H₀ ex) elt te)
 (hs:∀x,foldedSetIterable iter X.env x=pure x:=by intro _;rfl):PE X (.ListComp elt [⟨tg,iter,ifs,0⟩] scope pos) (G7 X.K (iS ow fr ix) wi g tc te):=by
 intro pins s σ H Q I h;rw[eval_ListComp];refine C6 (use:=aC) rfl hs (DK λy hy e=>I.ok.has _ (S.free y hy e)) S.kind S.names (aY (hi pins s σ H _ I h) λv s1 h1=>aY h1 λitv s2 h2=>?_);exact Nh (RR:=λacc C=>compPost (model X.prog X.w) X.A X.xe aC (EP X pins σ Q) acc C) S hc hg ht he h2 λD C H' s' m _ hn hI q=>⟨m,hn,λh'' j8=>⟨.ref D,H',hI h'' j8,rfl,q⟩⟩
theorem Us{i:Nat}{y:Str}{py spos:Pos}(hN:X.N.Nodup)(Hq:X.N[i]?=aB y)(hy:Loc X.env.scope y)(S:aW X ow fr ix scope)(hc:X.calm)(hi:PI X tg iter wi)
 (hg:∀C s₀ H₀ ex,PG (X.comp (ow++fr) scope C s₀ H₀ ex) tg g) (ht:∀C s₀ H₀ ex,iH (X.comp (ow++fr) scope C s₀ H₀ ex) ifs tc) (he:∀C s₀ H₀ ex,PE (X.comp (ow++fr) scope C s₀ H₀ ex) elt te)
 (hsw:autoParam (swapsWith (.ListComp elt [⟨tg,iter,ifs,0⟩] scope pos) (aB (.Name y py)) spos.line X.env=pure true) L2.aR1._auto_1)
 (hf:autoParam (X.fn y=true\/X.env.scope.names.lookup y=aB .local) L2.aF1._auto_1)
 (hs:∀x,foldedSetIterable iter X.env x=pure x:=by intro _;rfl):PS X (.Assign [.Name y py] (.ListComp elt [⟨tg,iter,ifs,0⟩] scope pos) spos) (qk (G7 X.K (iS ow fr ix) wi g tc te) (gQ i)):=by
 intro pins s σ H D I h;rw[exec_Assign_Name_used _ _ _ _ hsw];refine aJ (mQ (aJ ?_));show wpAny _ X.A (do let _ <-comprehension (.ListComp elt [⟨tg,iter,ifs,0⟩] scope pos) scope X.env _ (newList []) false (eval iter X.env) (aB (assign (.Name y py) X.env))) _ _ s;refine aJ (fS (C6 (use:=aB (assign (.Name y py) X.env)) (Q:=λ_ s'=>SP X pins D .next s') rfl hs (DK λy hy e=>I.ok.has _ (S.free y hy e)) S.kind S.names
  (aY (hi pins s σ H _ I h) λv s1 h1=>aY h1 λitv s2 h2=>?_)) (λ_ s' hq=>bC (bC hq)) λ_ _ e=>e)
 refine Nh (Q:=λx H1=>gQ i x σ H1 D.nx) (RR:=λacc C=>compPost (model X.prog X.w) X.A X.xe (aB (assign (.Name y py) X.env)) (λ_ s'=>SP X pins D .next s') acc C) S hc hg ht he h2 λd C H' s' m hC hn hI q=>?_;show wpAny _ X.A (assign (.Name y py) X.env (.ref d)) _ _ _;have I':Inv X pins σ H' s':=by have z:=hI s'.heap (.refl ..);exact z
 refine wpAny_assign_Name (Ga I' hN Hq hy (v:=.ref d) rfl (λs'' Hr ⟨a,Hs,ha⟩=>?_) hf);obtain⟨c0,c1,c2,c3,c4,c5⟩:=hC;have Ht:C≠a:=by rcases ha with rfl|ha;exact c1;exact λz=>c4 _ _ ha z.symm
 refine⟨m,hn.sameBut Hs Ht,λh'' j8=>⟨_,H',Hr.turned (t':=s''.toks) (it:=C) (λb o hb e=>(j8.2 b hb).trans e) c0 c1 c3 c4 c5,q⟩⟩
end
end L2
set_option maxHeartbeats 4000000
namespace L2
open PySem PySem.Spec PyProof.Rows
mutual
inductive Rp(K:aH)(M:ah->Prop)(H:Hp):V->aA->Prop
 |aL:Rp K M H .aL .none
 |bl (b:Bool):Rp K M H (.bl b) (.bool b)
 |int (i:Int):Rp K M H (.int i) (.int i)
 |str (x:Str):Rp K M H (.str x) (.str x)
 |tup {a:ah} {xs:List V} {ds:List aA}:bW K H a xs->¬M a->lR K M H xs ds->Rp K M H (.ref a) (.tuple ds)
 |lst {a:ah} {xs:List V} {ds:List aA}:cH K H a xs->¬M a->lR K M H xs ds->Rp K M H (.ref a) (.list ds)
inductive lR(K:aH)(M:ah->Prop)(H:Hp):List V->List aA->Prop
 |nil:lR K M H [] []
 |cons {x:V} {d:aA} {xs:List V} {ds:List aA}:Rp K M H x d->lR K M H xs ds->lR K M H (x::xs) (d::ds)
end
section
variable{X:Cx}{pins:List (ah×Obj)}{σ:St}{H:Hp}{s:af}{M:ah->Prop}
mutual
theorem Rp.reads(I:Inv X pins σ H s):∀{x:V} {d:aA} {u:aa},Rp X.K M H x d->RelV x u->∃as,Reads s.heap u d as
 |_,_,_,.aL,r=>by cases r;exact⟨_,.none⟩
 |_,_,_,.bl b,r=>by cases r;exact⟨_,.bool b⟩
 |_,_,_,.int i,r=>by obtain⟨t,rfl⟩:=r;exact⟨_,.int i t⟩
 |_,_,_,.str x,r=>by obtain⟨t,rfl⟩:=r;exact⟨_,.str x t⟩
 |_,_,_,.tup h n rr,r=>by
  cases r;obtain⟨its,rv,p,_⟩:=I.tuple h;obtain⟨o,ho,hc,m,hd⟩:=p;obtain⟨as,ra⟩:=lR.reads I rr rv;exact⟨_,.tuple ho hc hd (by simpa using ra)⟩
 |_,_,_,.lst h n rr,r=>by
  cases r;obtain⟨its,rv,p,_⟩:=I.list h;obtain⟨o,m,ho,hc,_,hd⟩:=p;obtain⟨as,ra⟩:=lR.reads I rr rv;exact⟨_,.list ho hc hd (by simpa using ra)⟩
theorem lR.reads(I:Inv X pins σ H s):∀{xs:List V} {ds:List aA} {us:List aa},lR X.K M H xs ds->Vals xs us->∃as,ReadsAll s.heap us ds as
 |_,_,_,.nil,.nil=>⟨_,.nil⟩
 |_,_,_,.cons r t,.cons q v=>by
  obtain⟨as,h1⟩:=Rp.reads I r q;obtain⟨bs,h2⟩:=lR.reads I t v;exact⟨_,.cons h1 h2⟩
end
noncomputable def Ar(K:aH):R2:=λx y H Q=>∃d e,Rp K (λ_=>False) H x d/\Rp K (λ_=>False) H y e/\SeqAt.shaped d=true/\SeqAt.shaped e=true/\Q (.bl (PyData.eqv d e)) H
noncomputable def As(K:aH):R2:=λx y H Q=>∃d e,Rp K (λ_=>False) H x d/\Rp K (λ_=>False) H y e/\SeqAt.shaped d=true/\SeqAt.shaped e=true/\Q (.bl (!PyData.eqv d e)) H
theorem Ut(hu:X.A.units+64<cLine):cX X (compareOp .Eq) (Ar X.K):=by intro pins s σ H x y v u Q I rx ry h;obtain⟨d,e,r1,r2,s1,s2,q⟩:=h;obtain⟨as,ra⟩:=r1.reads I rx;obtain⟨bs,rb⟩:=r2.reads I ry;exact PyProof.Rows.eq_dataH ra rb s1 s2 hu ⟨.bl _,H,I,rfl,q⟩
theorem Uu(hu:X.A.units+64<cLine):cX X (compareOp .NotEq) (As X.K):=by intro pins s σ H x y v u Q I rx ry h;obtain⟨d,e,r1,r2,s1,s2,q⟩:=h;obtain⟨as,ra⟩:=r1.reads I rx;obtain⟨bs,rb⟩:=r2.reads I ry;exact PyProof.Rows.ne_dataH ra rb s1 s2 hu ⟨.bl _,H,I,rfl,q⟩
end
section
variable{prog:ai}{w:aj}{A:ak}{E:aa->af->Prop}{s:af}
theorem Ni{I t:ah}{k:Nat}{its:Array aa}{y:aa}{Q:aa->af->Prop}(hi:s.heap.IsTupleIter I t k)(ht:s.heap.IsTuple t its)(hy:its[k]?=aB y)
 (q:∀g,g.IsTupleIter I t (k+1)->Heap.SameBut I s.heap g->Q y {s with heap:=g}):wpAny (model prog w) A (Builtin.SmallTypes.nextOf (.ref I)) Q E s:=by
 obtain⟨oi,e1,e2,e3⟩:=id hi;obtain⟨ot,e4,_,kt,e5⟩:=ht;unfold Builtin.SmallTypes.nextOf;refine aJ (xw (name:=Str.ofString "__next__") hi.typeIs Dt (uL Dt hi.typeIs F.entry_tuple_iterator_next ?_ (F.args_tuple_iterator_next_1 _)));show wpAny _ _ (field (.ref I) 0 >>= _) _ _ s;refine aJ (jV e1 e3 (x:=.ref t) rfl ?_);show wpAny _ _ (if(Value.ref t==Value.none)=true then _ else _) _ _ s;rw[if_neg (show ¬((Value.ref t==Value.none)=true)from λz=>nomatch z)];show wpAny _ _ (field (.ref I) 1 >>= _) _ _ s;refine aJ (jV e1 e3 (x:=.int k 0) rfl ?_);show wpAny _ _ (seqItems? (.ref t) >>= _) _ _ s;refine aJ (sV e4 e5 ?_);simp only[uU,hy];refine aJ (wpAny_setField e1 e3 (by simp) (bC ⟨y,rfl,bC (q _ ?_ (Heap.SameBut.update ..))⟩));refine⟨_,Heap.get?_update_self _ e1 (Obj.isFreed_of_fields (Obj.data_mapFields e3 _)),(Obj.cls_mapFields ..).trans e2,?_⟩;rw[Obj.data_mapFields e3];simp[rawInt]
theorem Hu{I t:ah}{k:Nat}{its:Array aa}{Q:aa->af->Prop}(hA:A.handled=aC)(hi:s.heap.IsTupleIter I t k)(ht:s.heap.IsTuple t its)(hy:its[k]?=aC)
 (q:∀g e,Heap.ExtBut I s.heap g->(∃o,g.get? e=aB o/\o.cls=.type "StopIteration")->E (.ref e) {s with heap:=g}):wpAny (model prog w) A (Builtin.SmallTypes.nextOf (.ref I)) Q E s:=by
 obtain⟨oi,e1,e2,e3⟩:=id hi;obtain⟨ot,e4,_,kt,e5⟩:=ht;unfold Builtin.SmallTypes.nextOf;refine aJ (xw (name:=Str.ofString "__next__") hi.typeIs Dt (uL Dt hi.typeIs F.entry_tuple_iterator_next ?_ (F.args_tuple_iterator_next_1 _)));show wpAny _ _ (field (.ref I) 0 >>= _) _ _ s;refine aJ (jV e1 e3 (x:=.ref t) rfl ?_);show wpAny _ _ (if(Value.ref t==Value.none)=true then _ else _) _ _ s;rw[if_neg (show ¬((Value.ref t==Value.none)=true)from λz=>nomatch z)];show wpAny _ _ (field (.ref I) 1 >>= _) _ _ s;refine aJ (jV e1 e3 (x:=.int k 0) rfl ?_);show wpAny _ _ (seqItems? (.ref t) >>= _) _ _ s;refine aJ (sV e4 e5 ?_);simp only[uU,hy];refine aJ (jW (aJ (wpAny_setField e1 e3 (by simp) ?_)));show wpAny _ _ (newExc (.type "StopIteration") [] >>= _) _ _ _;refine aJ ?_;simp only[newExc,newTuple];refine aJ (vcs ?_ (by size_fits));refine aJ (m:=firstArgMember _ _) (wpAny_of_eq (a:=Value.none) (by first|rfl|(simp only[firstArgMember];rfl)) ?_);refine vcs ?_ (by size_fits);simp only[raiseNew];refine aJ (wpAny_handled ?_);first|rw[show A.in1.handled=aC from hA]|rw[hA]
 refine aJ (bC (wpAny_throw ?_));exact q _ _ (((Heap.SameBut.update ..).extBut.push _).push _) ⟨_,iw _ rfl,rfl⟩
end
theorem Nj{h h':az}{a:ah}{its:Array aa}(x:h.IsTuple a its)(e:∀o,h.get? a=aB o->h'.get? a=aB o):h'.IsTuple a its:=let⟨o,ho,r⟩:=x;⟨o,e _ ho,r⟩
theorem Uv{prog:ai}{w:aj}{A:ak}(hA:A.handled=aC)(I t:ah)(hne:t≠I)(its:Array aa) :
 Draws prog w A I [I,t] its.size (λi v=>its[i]?=aB v) (λi h=>h.IsTupleIter I t i/\h.IsTuple t its)where
 live:=λ_ _ st=>let⟨o,ho,_⟩:=st.1;⟨o,ho⟩
 frame:=λ_ _ _ st hk=>⟨st.1.at λo e=>hk I (by simp) o e,Nj st.2 λo e=>hk t (by simp) o e⟩
 item:=λi s Q E hi st q=>Ni st.1 st.2 (y:=its[i]) (by simp[hi]) λg a b=>q _ g s.toks (by simp[hi]) ⟨a,st.2.extBut b.extBut hne⟩ b
 done:=λs Q E st q=>Hu hA st.1 st.2 (by simp) q
theorem Uw(l:ah)(its:Array aa)(n:Nat)(dc:Option ah)(sl:Array (Option aa)) :
 Meets (Builtin.«enumerate.__new__» ⟨[.type "enumerate",.ref l],[]⟩) (λ_ R s=>s.heap.get? l=aB {cls:=.type "tuple",dict:=dc,data:=.seq its n,slots:=sl}/\
  R (.ok (.ret (.ref (s.heap.push {cls:=.type "tuple_iterator",data:=.fields #[.ref l,.int 0 0]}).objs.size)))
   {s with heap:=(s.heap.push {cls:=.type "tuple_iterator",data:=.fields #[.ref l,.int 0 0]}).push {cls:=.type "enumerate",data:=.fields #[.none,.bool false,.ref s.heap.objs.size,rawInt 0,.none,.none]}}):=
 .of_wp λprog w A R s h=>by
  obtain⟨hp,g,d,tk,os⟩:=s;obtain⟨e,h⟩:=h;have hsub:=sub_enumerate;have hT:Heap.IsTuple (Shared.heap ⟨hp,g,d,tk,os⟩) l its:=⟨_,e,rfl,n,rfl⟩
  wp_walk using nj e;refine wpAny_stack_any λst=>bC ?_;split;rename_i c _ _ _ _ _;cases(c==Value.type "enumerate")<;> (wp_walk using nj e,uK hT;exact⟨_,rfl,h⟩)
  .wp_walk using nj e,uK hT
   exact⟨_,rfl,h⟩
theorem Ux{prog:ai}{w:aj}{A:ak}{E:aa->af->Prop}{s:af}{l:ah}{its:Array aa}{Q:aa->af->Prop}(hL:s.heap.IsTuple l its)
 (h:∀g,IsEnum g (s.heap.objs.size+1) s.heap.objs.size 0 .none->g.IsTupleIter s.heap.objs.size l 0->g.objs.size=s.heap.objs.size+2->(∀b o,s.heap.get? b=aB o->g.get? b=aB o)->Q (.ref (s.heap.objs.size+1)) {s with heap:=g}) :
 wpAny (model prog w) A (call (.type "enumerate") [.ref l]) Q E s:=by
 obtain⟨⟨c,dc,dt,sl⟩,e1,e2,n,e3⟩:=hL
 replace e2:c=.type "tuple":=e2
 replace e3:dt=.seq its n:=e3;subst e2 e3;refine callType_new F.called_enumerate (by decide) (F.typeCall_enumerate_1 _) (F.newCall_enumerate_1 _) (λobj=>F.args_object_init_2 obj _) F.entry_enumerate_new (Uw l its n dc sl) ⟨e1,?_⟩;have hz:(s.heap.push {cls:=.type "tuple_iterator",data:=.fields #[.ref l,.int 0 0]}).objs.size=s.heap.objs.size+1:=ji ..;show _/\_;rw[hz];have he:IsEnum ((s.heap.push {cls:=.type "tuple_iterator",data:=.fields #[.ref l,.int 0 0]}).push {cls:=.type "enumerate",data:=.fields #[.none,.bool false,.ref s.heap.objs.size,rawInt 0,.none,.none]}) (s.heap.objs.size+1) s.heap.objs.size 0 .none:=by rw[<-hz];exact iw _ rfl
 exact⟨⟨_,he,rfl⟩,h _ he ⟨_,cA _ (iw _ rfl),rfl,rfl⟩ (by rw[ji,hz]) λb o x=>cA _ (cA _ x)⟩
noncomputable def vA(K:aH)(a:ah):It:=
 ⟨λi H=>∃xs x,bW K H a xs/\xs[i]?=aB x,λi H x H'=>∃T v,x=.ref T/\H T=aC/\H'=upd H T (.tup [.int i,v])/\∀xs,bW K H a xs->xs[i]?=aB v,λi H=>∃xs,bW K H a xs/\xs.length<=i⟩
theorem Uy{P:ai}{w:aj}{K:aH}{elts:List ao}{kx:Nat}{tp:Pos}(a e it:ah)(hei:e≠it)(Uz:a≠e)(hai:a≠it) :
 Turn P w K (.Tuple elts kx tp) (vA K a) [e,it] e (λi h=>(∃old,IsEnum h e it i old)/\h.IsTupleIter it a i)where
 mem:=by simp
 obj:=λi h st b hb=>by
  obtain⟨⟨old,he⟩,o,ho,hc,hd⟩:=st;rcases fm.mp hb with rfl|hb;exact⟨_,he,λv z=>by
   have z':Data.fields _=Data.cell v:=z;cases z'⟩
  have e':b=it:=by simpa using hb
  subst e';exact⟨o,ho,λv z=>by rw[hd]at z;cases z⟩
 keep:=λi h h' st k=>by
  obtain⟨⟨old,he⟩,st⟩:=st;exact⟨⟨old,k e (by simp) _ he⟩,st.at λo q=>k it (by simp) o q⟩
 item:=by
  intro X hP hw hK hc i pins s σ H E I hf st hg;subst hP hw hK;obtain⟨xs,x,hq,hx⟩:=hg;obtain⟨⟨old,he⟩,st⟩:=st;obtain⟨its,rv,p,hz⟩:=I.tuple hq;obtain⟨u,hu,ru⟩:=rv.get hx;have hd:X.A.in1.handled=aC:=I.ok.hd hc;have p:s.heap.IsTuple a its.toArray:=p;refine wpAny_pyNext_enum_itemD (Uv hd it a hai its.toArray) he ⟨st,p⟩ (by
   have:i<its.length:=by rw[<-rv.length];exact(kB.mp hx).1
   simpa using this) hei (by simp[hei,fK Uz]) λx' h1 tk hx' ho hit hT hsz hk=>?_
  obtain rfl:u=x':=by
   have:its[i]?=aB x':=by simpa using hx'
   rw[hu]at this;cases this;rfl
  refine⟨_,rfl,wpAny_letOwnedTupleGo_enum ho λh2 UA hs2=>?_⟩;have kK:H s.heap.objs.size=aC:=I.hok.fresh (aR _);have Nk:s.heap.objs.size≠e:=ku (cJ he);have UB:s.heap.objs.size≠it:=by obtain⟨o,q,_⟩:=st;exact ku (cJ q)
  have hs2:Heap.SameBut e h1 h2:=hs2;have kk:∀b o,b≠e->b≠it->s.heap.get? b=aB o->h2.get? b=aB o:=λb o h1 h2 q=>(hs2.2 b h1).trans (hk b o h1 h2 q);have f0:=λb hb=>(hf b hb).1;have nE:∀b o,H b=aB o->b≠e/\b≠it:=λb o q=>⟨λz=>(by rw[z,f0 e (by simp)]at q;cases q),λz=>(by rw[z,f0 it (by simp)]at q;cases q)⟩
  have hT2:h2.get? s.heap.objs.size=aB {cls:=.type "tuple",data:=.seq #[.int i tk,u]}:=(hs2.2 _ Nk).trans hT;have I2:Inv X pins σ (upd H s.heap.objs.size (.tup [.int i,x])) {s with heap:=h2,gens:=s.gens,drawn:=s.drawn,toks:=tk+1}:=by
   refine I.step (ch:=[e,it]) (λb hb=>?_) (λb o _ _ hc e1 _=>kk b o (λz=>hc (by simp[z])) (λz=>hc (by simp[z])) e1) (λb o _ _ hc e1 _=>⟨o.slots,kk b o (λz=>hc (by simp[z])) (λz=>hc (by simp[z])) e1⟩)
    (λb o hc e1 n=>by rw[bV (fL (cJ e1))];exact n) (λb o hc e1=>⟨o,kk b o (λz=>hc (by simp[z])) (λz=>hc (by simp[z])) e1⟩)
    (λb ys q=>by rw[bV (gG q kK)];exact q) (λb o u q=>by rw[bV (gG q kK)];exact q) (λb ps q=>⟨#[],by rw[bV (gG q kK),q];simp⟩) (λm hm=>?_) (λb ob q=>?_) I.bare
   obtain⟨_,a1,a2,a3,a4,a5⟩:=hf b hb;exact⟨a3,a1,a4,a5⟩;obtain⟨o,es,ep,ho',r⟩:=hm;exact⟨o,es,ep,kk _ o (fK (hf e (by simp)).2.1) (fK (hf it (by simp)).2.1) ho',r⟩;by_cases hb:b=s.heap.objs.size;subst hb;rw[iu]at q;cases q;exact⟨by show 2<=sizeLine;decide,[.int i tk,u],.cons ⟨_,rfl⟩ (.cons ru .nil),⟨_,hT2,rfl,⟨_,rfl⟩,rfl⟩⟩;rw[bV hb]at q;refine(I.hok b ob q).stay (λc v hc z=>kk c v ?_ ?_ z) (λc z=>by rw[bV (gG z kK)];exact z) λc ys z=>by rw[bV (gG z kK)];exact z
   rcases hc with rfl|hc;exact(nE c ob q).1;exact(nE c _ hc).1;rcases hc with rfl|hc;exact(nE c ob q).2;exact(nE c _ hc).2
  refine⟨.ref s.heap.objs.size,_,I2,rfl,⟨_,x,rfl,kK,rfl,λys hy=>by rw[I.fW hy hq];exact hx⟩,⟨⟨u,by simpa using UA⟩,hit.1.at λo q=>(hs2.2 it (fK hei)).trans q⟩,λb hb=>?_⟩;rw[bV ?_];exact f0 b hb;rcases fm.mp hb with rfl|hb
  exact fK Nk;have e':b=it:=by simpa using hb
  subst e';exact fK UB
 done:=by
  intro X hP hw hK hc i pins s σ H E I hf st hg;subst hP hw hK;obtain⟨xs,hq,hx⟩:=hg;obtain⟨⟨old,he⟩,st⟩:=st;obtain⟨its,rv,p,hz⟩:=I.tuple hq;obtain⟨f0,f1,f2,f3,f4,f5⟩:=hf it (by simp);have hl:=rv.length;have hd:X.A.in1.handled=aC:=I.ok.hd hc;have p:s.heap.IsTuple a its.toArray:=p;refine PySem.wpAny_pyNext_enum_endD (n:=0) (P:=λ_ _=>True) (St:=λ_ h=>h.IsTupleIter it a i/\h.IsTuple a its.toArray) (fp:=[it,a]) ⟨?_,?_,?_,?_⟩ he ⟨st,p⟩ λh' eb=>⟨rfl,I.turned (t':=s.toks) (λb o hb q=>eb b o hb q) f0 f1 f3 f4 f5⟩
  exact λ_ _ st=>let⟨o,ho,_⟩:=st.1;⟨o,ho⟩;exact λ_ _ _ st hk=>⟨st.1.at λo e=>hk it (by simp) o e,Nj st.2 λo e=>hk a (by simp) o e⟩
  exact λj s' Q' E' hj=>absurd hj (Nat.not_lt_zero _);exact λs' Q' E' st' q'=>Hu hd st'.1 st'.2 (by simp;lia) q'
 self:=λ_ _ _ _ _ st h=>by
  obtain⟨⟨old,he⟩,_⟩:=st;exact wpAny_pyIter_enum he h
section
variable{κ:Type}[DecidableEq κ]
noncomputable def gy(kvs:List (κ×V))(k:κ):Option V:=(kvs.find? λkv=>decide (kv.1=k)).map (·.2)
noncomputable def putK(kvs:List (κ×V))(k:κ)(v:V):List (κ×V):=
 if(kvs.any λkv=>decide (kv.1=k))=true then kvs.map (λkv=>if kv.1=k then(kv.1,v)else kv)else kvs++[(k,v)]
theorem DS{p:κ×V}{r:List (κ×V)}{k:κ}(e:p.1=k):gy (p::r) k=aB p.2:=by simp[gy,p5,e]
theorem Au{p:κ×V}{r:List (κ×V)}{k:κ}(e:¬p.1=k):gy (p::r) k=gy r k:=by simp[gy,p5,e]
theorem Nl(k:κ):∀kvs:List (κ×V),(kvs.any λkv=>decide (kv.1=k))=(gy kvs k).isSome
 |[]=>rfl
 |p::r=>by
  rw[ze];by_cases e:p.1=k;simp only[DS e,iE e,Bool.true_or,Option.isSome_some];rw[Au e,gF e,Bool.false_or];exact Nl k r
theorem Hv(kvs:List (κ×V))(k:κ)(v:V):(putK kvs k v).length<=kvs.length+1:=by unfold putK;split;rw[bJ];lia;rw[eF,cZ,xK];lia
theorem gM.lS{o:Option V}{u:Option aa}(r:gM o u):o.isSome=u.isSome:=by
 cases o with
 |none=>cases u with
  |none=>rfl
  |some _=>exact(show False from r).elim
 |some _=>cases u with
  |none=>exact(show False from r).elim
  |some _=>rfl
theorem KV.val{kvs:List (κ×V)}{vs:List (κ×aa)}(r:KV kvs vs)(k:κ):gM (gy kvs k) (valueAt vs k):=by
 unfold KV at r;induction r with
 |nil=>exact True.intro
 | @cons p q ps qs h t ih=>
  obtain⟨h1,h2⟩:=h;by_cases e:p.1=k;have e':q.1=k:=h1.symm.trans e;have b:valueAt (q::qs) k=aB q.2:=by simp[valueAt,p5,e']
  rw[DS e,b];exact h2;have e':¬q.1=k:=λz=>e (h1.trans z);have b:valueAt (q::qs) k=valueAt qs k:=by simp[valueAt,p5,e']
  rw[Au e,b];exact ih
theorem KV.any{kvs:List (κ×V)}{vs:List (κ×aa)}(r:KV kvs vs)(k:κ):(kvs.any λkv=>decide (kv.1=k))=vs.any λkv=>decide (kv.1=k):=by
 unfold KV at r;induction r with|nil=>rfl|cons h t ih=>rw[ze,ze,ih,h.1]
theorem KV.repl{kvs:List (κ×V)}{vs:List (κ×aa)}(r:KV kvs vs)(k:κ){y:V}{u:aa}(ry:RelV y u) :
 KV (kvs.map λkv=>if kv.1=k then(kv.1,y)else kv) (vs.map λkv=>if kv.1=k then(kv.1,u)else kv):=by
 unfold KV at r ⊢;induction r with
 |nil=>exact .nil
 | @cons p q ps qs h t ih=>
  rw[dw,dw];refine .cons ?_ ih;obtain⟨h1,h2⟩:=h;by_cases e:p.1=k;rw[if_pos e,if_pos (h1.symm.trans e)];exact⟨h1,ry⟩;rw[if_neg e,if_neg (λz=>e (h1.trans z))];exact⟨h1,h2⟩
theorem KV.put{kvs:List (κ×V)}{vs:List (κ×aa)}(r:KV kvs vs)(k:κ){y:V}{u:aa}(ry:RelV y u):KV (putK kvs k y) (stored vs k u):=by unfold putK stored;rw[r.any k];by_cases e:(vs.any λkv=>decide (kv.1=k))=true;rw[if_pos e,if_pos e];exact r.repl k ry;rw[if_neg e,if_neg e];exact Paired.snoc r ⟨rfl,ry⟩
theorem KV.length{kvs:List (κ×V)}{vs:List (κ×aa)}(r:KV kvs vs):kvs.length=vs.length:=Dw r
end
theorem kL{P:ai}{w:aj}{k:Key}{u:aa}(r:RelV (kV k) u):(jM P w).is k u=true:=by
 cases k with|inl i=>obtain⟨t,e⟩:=(show ∃t,u=Value.int i t from r);subst e;exact Rz P w i t|inr x=>obtain⟨t,e⟩:=(show ∃t,u=Value.str x t from r);subst e;exact RA P w x t
theorem Nm{P:ai}{w:aj}:∀{ks:List Key} {us:List aa},Vals (ks.map kV) us->ItemsAre (jM P w) ks us
 |[],_,r=>by rw[tw]at r;cases r;exact .nil
 |k::ks,_,r=>by
  rw[dw]at r;cases r with|cons h t=>exact .cons (kL h) (Nm t)
noncomputable abbrev KT(H:Hp):List (List Key×V)->List (List Key×ah×aa)->Prop:=Paired λp q=>p.1=q.1/\H q.2.1=aB (.tup (p.1.map kV))/\RelV p.2 q.2.2
theorem KT.val{H:Hp}{kvs:List (List Key×V)}{xs:List (List Key×ah×aa)}(r:KT H kvs xs)(k:List Key):gM (gy kvs k) ((atKey xs k).map (·.2)):=by
 induction r with
 |nil=>exact True.intro
 | @cons p q ps qs h t ih=>
  obtain⟨h1,_,h2⟩:=h;by_cases e:p.1=k;have e':q.1=k:=h1.symm.trans e;have b:atKey (q::qs) k=aB q.2:=by simp[atKey,p5,e']
  rw[DS e,b];exact h2;have e':¬q.1=k:=λz=>e (h1.trans z);have b:atKey (q::qs) k=atKey qs k:=by simp[atKey,p5,e']
  rw[Au e,b];exact ih
theorem KT.repl{H:Hp}{kvs:List (List Key×V)}{xs:List (List Key×ah×aa)}(r:KT H kvs xs)(k:List Key){y:V}{u:aa}(ry:RelV y u) :
 KT H (kvs.map λkv=>if kv.1=k then(kv.1,y)else kv) (xs.map (putAt k u)):=by
 induction r with
 |nil=>exact .nil
 | @cons p q ps qs h t ih=>
  rw[dw,dw];refine .cons ?_ ih;obtain⟨h1,h2,h3⟩:=h;unfold putAt;by_cases e:p.1=k;rw[if_pos e,if_pos (h1.symm.trans e)];exact⟨h1,h2,ry⟩;rw[if_neg e,if_neg (λz=>e (h1.trans z))];exact⟨h1,h2,h3⟩
theorem KT.put{H:Hp}{kvs:List (List Key×V)}{xs:List (List Key×ah×aa)}(r:KT H kvs xs)(k:List Key){b:ah}{y:V}{u:aa}(hb:H b=aB (.tup (k.map kV)))(ry:RelV y u) :
 KT H (putK kvs k y) (storedH xs k b u):=by
 have e:(kvs.any λkv=>decide (kv.1=k))=(atKey xs k).isSome:=by rw[Nl,(r.val k).lS,Option.isSome_map]
 unfold putK storedH;rw[e];by_cases q:(atKey xs k).isSome=true;rw[if_pos q,if_pos q];exact r.repl k ry;rw[if_neg q,if_neg q];exact Paired.snoc r ⟨rfl,hb,ry⟩
theorem KT.keeps{H H':Hp}{kvs:List (List Key×V)}{xs:List (List Key×ah×aa)}(r:KT H kvs xs)(ht:∀b ys,H b=aB (.tup ys)->H' b=aB (.tup ys)):KT H' kvs xs:=
 Paired.uZ r λ_ _ z=>⟨z.1,ht _ _ z.2.1,z.2.2⟩
section
variable{P:ai}{w:aj}{H:Hp}{h:az}{a:ah}
theorem tK{u:HO}(ok:eY P w H h)(e:Rd H a u):br P w H h a u:=e.ok ok
theorem kM{kvs:List (Key×V)}(ok:eY P w H h)(e:Rd H a (.dK kvs)):kvs.length<=sizeLine/\(a==sysModules)=false/\∃vs,KV kvs vs/\h.DictOf (jM P w) a vs:=
 show br P w H h a (.dK kvs)from tK ok e
theorem tL{kvs:List (Key×V)}(ok:eY P w H h)(e:H a=aB (.dK kvs)):kvs.length<=sizeLine/\(a==sysModules)=false/\∃vs,KV kvs vs/\h.DictOf (jM P w) a vs:=kM ok (.inl e)
theorem Hw{ks:List Key}(ok:eY P w H h)(e:H a=aB (.tup (ks.map kV))):(tupleKind (jM P w)).is h ks a:=by
 obtain⟨_,its,r,o,h1,h2,⟨n,h3⟩,_⟩:=(show br P w H h a (.tup (ks.map kV))from ok a _ e)
 exact⟨o,its.toArray,n,h1,h2,h3,by simpa using Nm r⟩
theorem nD{kvs:List (List Key×V)}(ok:eY P w H h)(e:Rd H a (.dT kvs)):kvs.length<=sizeLine/\(a==sysModules)=false/\
 ∃xs,KT H kvs xs/\h.DictOfH (tupleKind (jM P w)) a xs:=by
 obtain⟨z,y,xs,r,o,es,ep,h1,h2,h3,h4,h5⟩:=(show br P w H h a (.dT kvs)from tK ok e)
 refine⟨z,y,xs,r,o,es,ep,h1,h2,h3,h4,λx hx=>?_,h5⟩;have all:∀{l:List (List Key×V)}{m:List (List Key×ah×aa)},KT H l m->∀x∈m,(tupleKind (jM P w)).is h x.1 x.2.1:=by
  intro l m q;induction q with
  |nil=>intro x hx;exact nomatch hx
  | @cons p q ps qs hq t ih=>
   intro x hx;rcases fm.mp hx with e|hx
   subst e;exact Hw ok (by rw[<-hq.1];exact hq.2.1);exact ih x hx
 exact all r x hx
theorem Av{kvs:List (List Key×V)}(ok:eY P w H h)(e:H a=aB (.dT kvs)):kvs.length<=sizeLine/\(a==sysModules)=false/\
 ∃xs,KT H kvs xs/\h.DictOfH (tupleKind (jM P w)) a xs:=nD ok (.inl e)
end
noncomputable def qy(H:Hp)(a:ah)(y:V)(r:Option V):Prop:=
 (∃kvs k,Rd H a (.dK kvs)/\y=kV k/\r=gy kvs k)\/∃kvs k b,Rd H a (.dT kvs)/\y=.ref b/\H b=aB (.tup (k.map kV))/\r=gy kvs k
noncomputable def qz(H:Hp)(a:ah)(y v:V)(H':Hp):Prop:=
 (∃kvs k,H a=aB (.dK kvs)/\y=kV k/\kvs.length<sizeLine/\H'=upd H a (.dK (putK kvs k v)))\/
 ∃kvs k b,H a=aB (.dT kvs)/\y=.ref b/\H b=aB (.tup (k.map kV))/\kvs.length<sizeLine/\H'=upd H a (.dT (putK kvs k v))
theorem qz.k{H:Hp}{a:ah}{kvs:List (Key×V)}{k:Key}{v:V}(e:H a=aB (.dK kvs))(hl:kvs.length<sizeLine):qz H a (kV k) v (upd H a (.dK (putK kvs k v))):=.inl ⟨kvs,k,e,rfl,hl,rfl⟩
section
variable{X:Cx}{pins:List (ah×Obj)}{σ:St}{H:Hp}{s:af}{a:ah}{y v:V}{u r:aa}{o:Option V}{A:ak}{E:aa->af->Prop}
theorem Inv.big(I:Inv X pins σ H s):sysModules<s.heap.objs.size:=by have h:mainGlobals<s.heap.objs.size:=(I.mod.glob.keeps I.bk).lt;exact Nat.lt_trans (by decide) h
theorem UC{Q:aa->af->Prop}(hu:A.units+1<cLine)(I:Inv X pins σ H s)(g:qy H a y (aB v))(ry:RelV y u)(h:∀w' s',Inv X pins σ H s'->RelV v w'->Q w' s') :
 wpAny (model X.prog X.w) A (getItem (.ref a) u) Q E s:=by
 rcases g with⟨kvs,k,e,ey,l⟩|⟨kvs,k,b,e,ey,eb,l⟩;subst ey;obtain⟨z,hd,vs,rel,dd⟩:=kM I.hok e;obtain⟨w',hw,rw'⟩:=gM.some_of (v:=v) (o:=valueAt vs k) (by rw[l];exact rel.val k);exact wpAny_getItem_of (kL ry) dd.mapOf hw (h w' _ (I.tok _) rw');subst ey;cases(show u=Value.ref b from ry);obtain⟨z,hd,xs,rel,dd⟩:=nD I.hok e;obtain⟨w',hw,rw'⟩:=gM.some_of (v:=v) (o:=(atKey xs k).map (·.2)) (by rw[l];exact rel.val k);obtain⟨p,hp,hp2⟩:=Option.map_eq_some_iff.mp hw;refine wpAny_getItem_heap (tupleKind_room_in1 hu) (Hw I.hok eb) dd hp ?_;rw[hp2];exact h w' _ (I.tok _) rw'
theorem Hx{h':az}{t':Nat}{ob:HO}(I:Inv X pins σ H s)(mu:zw (H a))(hs:Heap.SameBut a s.heap h')(he:∃q,h'.get? a=aB q)(new:br X.prog X.w (upd H a ob) h' a ob) :
 Inv X pins σ (upd H a ob) {s with heap:=h',toks:=t'}:=
 I.write (x:=a) (e:=a) mu (.inl rfl) (λb q hb z=>(hs.2 b hb).trans z) he new
theorem Nn{P:ai}{w:aj}{H':Hp}{h':az}{kvs:List (Key×V)}{vs:List (Key×aa)}(z:kvs.length<=sizeLine)(hd:(a==sysModules)=false)(rel:KV kvs vs)(dd:h'.DictOf (jM P w) a vs) :
 br P w H' h' a (.dK kvs):=⟨z,hd,vs,rel,dd⟩
theorem UD{H':Hp}{Q:Unit->af->Prop}(hu:A.units+1<cLine)(I:Inv X pins σ H s)(g:qz H a y v H')(ry:RelV y u)(rv:RelV v r)(h:∀s',Inv X pins σ H' s'->Q () s') :
 wpAny (model X.prog X.w) A (setItem (.ref a) u r) Q E s:=by
 rcases g with⟨kvs,k,e,ey,l,eH⟩|⟨kvs,k,b,e,ey,eb,l,eH⟩;subst ey eH;obtain⟨z,hd,vs,rel,dd⟩:=tL I.hok e;have hz:vs.length<=sizeLine:=by rw[<-rel.length];exact z
 have hl:(putK kvs k v).length<=sizeLine:=by have:=Hv kvs k v;lia
 refine wpAny_setItem_pairs (hsz:=hz) (kL ry) dd λh' vB hs=>h _ ?_;have he:∃q,h'.get? a=aB q:=let⟨q,_,_,hq,_⟩:=vB;⟨q,hq⟩;exact Hx I (by rw[e];exact True.intro) hs he (Nn hl hd (rel.put k rv) vB);subst ey eH;cases(show u=Value.ref b from ry);obtain⟨z,hd,xs,rel,dd⟩:=Av I.hok e;have hz:xs.length<=sizeLine:=by rw[<-Dw rel];exact z
 have hl:(putK kvs k v).length<=sizeLine:=by have:=Hv kvs k v;lia
 refine wpAny_setItem_heap (hsz:=hz) (tupleKind_room_in1 hu) (Hw I.hok eb) dd λh' vB hs=>h _ ?_;obtain⟨q,es,ep,hq,h2,h3,h4,_,h5⟩:=vB;refine Hx I (by rw[e];exact True.intro) hs ⟨q,hq⟩ ⟨hl,hd,_,(rel.put k eb rv).keeps λc ys ec=>?_,q,es,ep,hq,h2,h3,h4,h5⟩;rw[bV (cV ec e (λz=>nomatch z))];exact ec
end
theorem UE{X:Cx}{pins:List (ah×Obj)}{σ:St}{H:Hp}{s:af}{a:ah}{y:V}{o:Option V}(I:Inv X pins σ H s)(g:qy H a y o):s.TypeIs (.ref a) "dict":=by rcases g with⟨kvs,k,e,_,_⟩|⟨kvs,k,b,e,_,_,_⟩;obtain⟨_,_,vs,_,dd⟩:=kM I.hok e;exact dd.typeIs;obtain⟨_,_,xs,_,dd⟩:=nD I.hok e;exact dd.typeIs
theorem Np{P:ai}{w:aj}{H:Hp}(h:az)(hb:sysModules<h.objs.size):br P w H (h.push {cls:=.type "dict",data:=.dict #[]}) h.objs.size (.dK []):=
 ⟨gu _,C4.mpr (fK (fL hb)),[],.nil,Heap.DictOf.new h⟩
noncomputable def UG:TE:=λ_ H Q=>∀p,H p=aC->Q (.ref p) (upd H p (.dK []))
section
variable{X:Cx}{pos:Pos}
theorem UH:PE X (.Dict [] [] pos) UG:=λpins s σ H Q I h=>
 wpAny_Dict_empty ⟨.ref s.heap.objs.size,_,I.laid (a:=s.heap.objs.size) (o:=.dK []) (t':=s.toks) (λ_ _ q=>cA _ q) (aR _) (Np s.heap I.big),rfl,h _ (I.hok.fresh (aR _))⟩
end
noncomputable def DT:List (TE×TE)->St->Hp->(List (V×V)->Hp->Prop)->Prop|[],_,H,Q=>Q [] H|(tk,tv)::r,σ,H,Q=>tk σ H λx H1=>tv σ H1 λy H2=>DT r σ H2 λps H3=>Q ((x,y)::ps) H3
noncomputable abbrev VV:List (V×V)->List (aa×aa)->Prop:=Paired λp q=>RelV p.1 q.1/\RelV p.2 q.2
noncomputable def Aw(X:Cx)(pos:Pos)(keys:List (Option ao))(values:List ao)(kN:List (TE×TE)):Prop:=
 ∀(pins:List (ah×Obj))(s:af)(σ:St)(H:Hp)(Q:List (V×V)->Hp->Prop),Inv X pins σ H s->DT kN σ H Q->
  wpAny (model X.prog X.w) X.A (evalPairs (pairTrees keys values X.env pos)) (λvs s'=>∃ps H',Inv X pins σ H' s'/\VV ps vs/\Q ps H') X.xe s
theorem UI{X:Cx}{pos:Pos}:Aw X pos [] [] []:=λpins s σ H Q I h=>pairTrees_nil_walk ⟨[],H,I,.nil,h⟩
theorem UJ{X:Cx}{pos:Pos}{k v:ao}{ks:List (Option ao)}{vs:List ao}{tk tv:TE}{kN:List (TE×TE)}(hk:PE X k tk)(hv:PE X v tv)(hr:Aw X pos ks vs kN) :
 Aw X pos (aB k::ks) (v::vs) ((tk,tv)::kN):=λpins s σ H Q I h=>
 pairTrees_cons_walk (aY (hk pins s σ H _ I h) λu s1 z9=>z9.el λx H1 I1 rx q1=>aY (hv pins s1 σ H1 _ I1 q1) λw2 s2 z9=>z9.el λy H2 I2 ry q2=>
  aY (hr pins s2 σ H2 _ I2 q2) λws s3 ⟨ps,H3,I3,rel,q3⟩=>⟨(x,y)::ps,H3,I3,.cons ⟨rx,ry⟩ rel,q3⟩)
noncomputable def tM(kvs more:List (Key×V)):List (Key×V):=more.foldl (λacc kv=>putK acc kv.1 kv.2) kvs
theorem KV.merge:∀{more:List (Key×V)} {rs:List (Key×aa)} {kvs:List (Key×V)} {vs:List (Key×aa)},KV more rs->KV kvs vs->KV (tM kvs more) (merged vs rs):=by
 intro more rs kvs vs r;unfold KV at r;induction r generalizing kvs vs with
 |nil=>intro q;exact q
 | @cons p q ps qs h t ih=>
  intro r0;have e:KV (putK kvs p.1 p.2) (stored vs q.1 q.2):=by have:=r0.put p.1 h.2;rw[<-h.1];exact this
  exact ih e
theorem Nq:∀(more kvs:List (Key×V)),(tM kvs more).length<=kvs.length+more.length
 |[],kvs=>by show kvs.length<=kvs.length+0;lia
 |p::r,kvs=>by
  have h1:=Nq r (putK kvs p.1 p.2);have h2:=Hv kvs p.1 p.2;show(tM (putK kvs p.1 p.2) r).length<=_;rw[cZ];lia
theorem Nr{P:ai}{w:aj}:∀{kvs:List (Key×V)} {ws:List (aa×aa)},VV (kvs.map λkv=>(kV kv.1,kv.2)) ws->∃rs,Carries (jM P w) ws rs/\KV kvs rs
 |[],_,r=>by rw[tw]at r;cases r;exact⟨[],True.intro,.nil⟩
 |p::kvs,_,r=>by
  rw[dw]at r;cases r with
  | @cons a b as bs h t=>
   obtain⟨rs,c,q⟩:=Nr (P:=P) (w:=w) t;obtain⟨b1,b2⟩:=b;exact⟨(p.1,b2)::rs,⟨kL h.1,rfl,c⟩,.cons ⟨rfl,h.2⟩ q⟩
noncomputable def Ax(kN:List (TE×TE)):TE:=λσ H Q=>∀p,H p=aC->DT kN σ (upd H p (.dK [])) λps H2=>H2 p=aB (.dK [])/\∃kvs:List (Key×V),ps=kvs.map (λkv=>(kV kv.1,kv.2))/\kvs.length<=15/\Q (.ref p) (upd H2 p (.dK (tM [] kvs)))
theorem UK{X:Cx}{pos:Pos}{keys:List (Option ao)}{values:List ao}{kN:List (TE×TE)}(h:Aw X pos keys values kN)(hall:keys.all (·.isSome))(hl:keys.length=values.length)(h0:keys≠[])
 (Hy:keys.length<=15):PE X (.Dict keys values pos) (Ax kN):=by
 intro pins s σ H Q I q;have hn:=I.hok.fresh (aR s.heap.objs.size);have I1:=I.laid (a:=s.heap.objs.size) (o:=.dK []) (h':=s.heap.push {cls:=.type "dict",data:=.dict #[]}) (t':=s.toks) (λ_ _ q=>cA _ q) (aR _) (Np s.heap I.big);refine wpAny_Dict_walk (knd:=jM X.prog X.w) hall hl h0 Hy (aY (h pins _ σ _ _ I1 (q _ hn)) λws s2 bZ=>?_);obtain⟨ps,H2,I2,rel,e,kvs,ep,lk,q2⟩:=bZ;subst ep;obtain⟨rs,c,rk⟩:=Nr (P:=X.prog) (w:=X.w) rel;obtain⟨z,hd,Nt,r0,dd⟩:=tL I2.hok e;cases r0;refine⟨rs,c,dd,λh' vB hs=>⟨.ref s.heap.objs.size,_,?_,rfl,q2⟩⟩;have hz:(tM [] kvs).length<=sizeLine:=by have h1:=Nq kvs [];rw[xK]at h1;rw[yL];lia
 have he:∃q,h'.get? s.heap.objs.size=aB q:=let⟨q,_,_,hq,_⟩:=vB;⟨q,hq⟩;exact Hx I2 (by rw[e];exact True.intro) hs he (Nn hz hd (rk.merge .nil) vB)
noncomputable def jr(e tg iter:ao)(ifs:List ao)(it acc:aa)(env:Env)(emit:Sem Unit):Sem Fin:=do
 standAt iter.pos
 match <-pyNext it with
 |none=>pure (.done .next)
 |some v=>
  letOwnedTupleGo tg it v
  assign tg env v
  let ok <-x9 ifs env
  if ok then emit
  again (.compLoop e 0 it acc env)
theorem UL{prog:ai}{w:aj}{A:ak}{R:Result->af->Prop}{s:af}{e target iter:ao}{ifs:List ao}{it acc:aa}{env:Env}{emit:Sem Unit}(he:compTurn e 0 it acc env=jr e target iter ifs it acc env emit)
 (hd:(model prog w).den (.compLoop e 0 it acc env)=(compTurn e 0 it acc env).onRaise (λx=>do noteFrame x env;theTreesLotGoes x)) (hA:A.under (.compLoop e 0 it acc env)=A) (I:Nat->af->Prop)
 (turn:∀n s,I n s->wpAny (model prog w) A (pyNext it) (λr s₁=>match r with
   |none=>R (.ok .next) s₁
   |some v=>wpAny (model prog w) A (letOwnedTupleGo target it v) (λ_ s₀=>wpAny (model prog w) A (assign target env v) (λ_ s₂=>
    wpAny (model prog w) A (x9 ifs env) (λok s₃=>
     if ok=true then wpAny (model prog w) A emit (λ_ s₅=>∃m,m<n/\I m s₅) gw s₃
     else ∃m,m<n/\I m s₃) gw s₂) gw s₀) gw s₁) gw s)
 (n:Nat) (h:I n s):codeAny (model prog w) A (.compLoop e 0 it acc env) R s:=by
 refine codeAny_loop rfl I (λn s hI=>?_) n h;rw[hd,hA];refine wpAny_noted (G0 ?_);rw[he];unfold jr;refine aJ (mQ (aJ (fS (turn n s hI) (λr s₁ h₁=>?_) λ_ _ z=>z)));cases r with
 |none=>exact bC h₁
 |some v=>
  refine aJ (fS h₁ (λ_ s₀ h₀=>?_) λ_ _ z=>z);refine aJ (fS h₀ (λ_ s₂ h₂=>aJ (fS h₂ (λok s₃ h₃=>?_) λ_ _ z=>z)) λ_ _ z=>z);cases ok with
  |true=>
   simp only[bX]at h₃ ⊢;exact aJ (fS h₃ (λ_ s₅ h₅=>bC ⟨rfl,h₅⟩) λ_ _ z=>z)
  |false=>
   simp only[dO,di]at h₃ ⊢;exact bC ⟨rfl,h₃⟩
theorem UM{prog:ai}{w:aj}{A:ak}{R:Result->af->Prop}{s:af}{e target iter:ao}{ifs:List ao}{rest:List Comprehension}{it acc:aa}{env:Env}(hcl:clausesOf e=⟨target,iter,ifs,0⟩::rest)
 (hd:(model prog w).den (.compStart e 0 it acc env)=(compStart e 0 it acc env).onRaise (λx=>do noteFrame x env;standAt theWindowsPlace)) (hA:A.under (.compStart e 0 it acc env)=A)
 (h0:codeAny (model prog w) A (.compLoop e 0 it acc env) R s)
 (h:wpAny (model prog w) A (pyIter it) (λj s'=>codeAny (model prog w) A (.compLoop e 0 j acc env) R s') (notedBy (model prog w) A env λx s'=>R (.error x) s') s) :
 codeAny (model prog w) A (.compStart e 0 it acc env) R s:=by
 refine codeAny_of_tree ?_;rw[hd,hA];refine wpAny_notedAt ?_;unfold compStart;rw[hcl];show wpAny _ _ (ask >>= _) _ _ s;refine aJ (wpAny_askSetting (xA ?_));split;first
  |exact aJ (bC (bC (And.intro rfl h0)))
  |exact bC (And.intro rfl h0)
 first
  |exact aJ (jW (aJ (mQ (aJ (fS h (λj s' h'=>bC ⟨rfl,h'⟩) λ_ _ z=>z)))))
  |(refine aJ (jW ?_);show wpAny _ _ (standAt iter.pos >>= _) _ _ s;exact aJ (mQ (aJ (fS h (λj s' h'=>bC ⟨rfl,h'⟩) λ_ _ z=>z))))
noncomputable abbrev TM:=St->Hp->(St->Hp->Prop)->Prop
noncomputable def PM(X:Cx)(emit:Sem Unit)(t:TM):Prop:=∀(pins:List (ah×Obj)) (s:af) (σ:St) (H:Hp) (Q:St->Hp->Prop),Inv X pins σ H s->t σ H Q->wpAny (model X.prog X.w) X.A emit (λ_ s'=>∃σ' H',Inv X pins σ' H' s'/\Q σ' H') X.xe s
structure kO(P:ai)(w:aj)(e tg iter:ao)(ifs:List ao)(emit:aa->Env->Sem Unit)(newAcc:Sem aa)(ob:Obj)(u0:HO):Prop where
 cl:∃rest,clausesOf e=⟨tg,iter,ifs,0⟩::rest
 turn:∀it acc env,compTurn e 0 it acc env=jr e tg iter ifs it acc env (emit acc env)
 dl:∀it acc env,(model P w).den (.compLoop e 0 it acc env)=(compTurn e 0 it acc env).onRaise (λx=>do noteFrame x env;theTreesLotGoes x)
 ds:∀it acc env,(model P w).den (.compStart e 0 it acc env)=(compStart e 0 it acc env).onRaise (λx=>do noteFrame x env;standAt theWindowsPlace)
 al:∀(A:ak) it acc env,A.under (.compLoop e 0 it acc env)=A
 as:∀(A:ak) it acc env,A.under (.compStart e 0 it acc env)=A
 new:∀(A:ak)(s:af)(Q:aa->af->Prop)(E:aa->af->Prop),Q (.ref s.heap.objs.size) {s with heap:=s.heap.push ob}->wpAny (model P w) A newAcc Q E s
 ok:∀(H:Hp)(h:az),sysModules<h.objs.size->br P w H (h.push ob) h.objs.size u0
noncomputable def tN(J:It)(f:St)(g:TG)(tc:TT)(tm:TM)(u0:HO)(D:ah)(H1:Hp)(Q:Hp->Prop):Prop:=
 ∃W:Nat->Nat->St->Hp->Prop,(∃m,W 0 m f (upd H1 D u0))/\∀i m σ' H',W i m σ' H'->
  ((J.stop i H'/\Q H')\/(J.go i H'/\∀x H2,J.vc i H' x H2->g x σ' H2 λσ2 H3=>tc σ2 H3 λb H4=>
    if b=true then tm σ2 H4 λjP H5=>∃m',m'<m/\W (i+1) m' jP H5
    else ∃m',m'<m/\W (i+1) m' σ2 H4))
noncomputable def Hz(K:aH)(f:St->St)(wi:TI)(g:TG)(tc:TT)(tm:ah->TM)(u0:HO):TE:=λσ H Q=>wi σ H λJ H1=>∀D,H1 D=aC->K.lookup D=aC->tN J (f σ) g tc (tm D) u0 D H1 λH'=>Q (.ref D) H'
section
variable{X:Cx}{ow fr:List Str}{ix:List Nat}{scope:ay}{e tg iter:ao}{ifs:List ao}{pos:Pos}{wi:TI}{g:TG}{tc:TT}{tm:ah->TM}{emit:aa->Env->Sem Unit}{newAcc:Sem aa}{ob:Obj}{u0:HO}
theorem zev{pins:List (ah×Obj)}{s:af}{σ:St}{Q:VK}{RR:aa->ah->Result->af->Prop}(CK:kO X.prog X.w e tg iter ifs emit newAcc ob u0)(S:aW X ow fr ix scope)(hc:X.calm=true)
 (hg:∀C s₀ H₀ ex,PG (X.comp (ow++fr) scope C s₀ H₀ ex) tg g) (ht:∀C s₀ H₀ ex,iH (X.comp (ow++fr) scope C s₀ H₀ ex) ifs tc) (he:∀C s₀ H₀ ex D,PM (X.comp (ow++fr) scope C s₀ H₀ ex) (emit (.ref D) (X.comp (ow++fr) scope C s₀ H₀ ex).env) (tm D))
 {itv:aa} {E:aa->af->Prop}
 (h:DC X pins σ tg (λJ H1=>∀D,H1 D=aC->X.K.lookup D=aC->tN J (iS ow fr ix σ) g tc (tm D) u0 D H1 λH'=>Q (.ref D) H') itv s)
 (fin:∀D C H' s' m,dQ X pins H' C->s'.heap.Ns C m->(∀h'',Heap.SameBut C s'.heap h''->Inv X pins σ H' {s' with heap:=h''})->Q (.ref D) H'->RR (.ref D) C (.ok .next) s') :
 wpAny (model X.prog X.w) X.A newAcc (λacc s₃=>wpAny (model X.prog X.w) X.A (newFunctionEnv scope X.env.globals (iR X.env.cells scope.names []) [] X.env.qual aC .none (aB X.env)) (λcenv s₄=>
  codeAny (model X.prog X.w) X.A (.compStart e 0 itv acc {cenv with scope:=relabel scope X.env}) (RR acc cenv.locals) s₄) E s₃) E s:=by
 obtain⟨it,fp,tn,J,H1,ei,I1,T,st1,f1,hq⟩:=h;subst ei;have hD:H1 s.heap.objs.size=aC:=I1.hok.fresh (aR _);have G8:X.K.lookup s.heap.objs.size=aC:=by
  cases q:X.K.lookup s.heap.objs.size with|none=>rfl|some o=>exact absurd (cJ (I1.iG _ _ q)) (jg _)
 obtain⟨W,⟨m0,w0⟩,turn⟩:=hq _ hD G8;have I3:Inv X pins σ (upd H1 s.heap.objs.size u0) {s with heap:=s.heap.push ob}:=I1.laid (t':=s.toks) (o:=u0) (λb u q=>cA _ q) (aR _) (CK.ok _ _ I1.big);have nC:∀b∈fp,b<s.heap.objs.size:=λb hb=>by
  obtain⟨o,ho,_⟩:=T.obj _ _ st1 b hb;exact cJ ho
 have f3:∀b∈fp,dQ X pins (upd H1 s.heap.objs.size u0) b:=λb hb=>⟨by rw[bV (fL (nC b hb))];exact(f1 b hb).1,(f1 b hb).2⟩
 refine CK.new _ _ _ _ (Na (λx c e=>(I3.cell x c (DL (cells:=X.env.cells) scope.names [] (λx c e=>by cases e) x c e)).elim λv q=>q.lt) (λh₁ hns hk0 hnc=>?_));dsimp only at hns hk0 hnc ⊢;generalize Ao:({s with heap:=s.heap.push ob}:af)=s3 at I3;have vq:s3.heap=s.heap.push ob:=by rw[<-Ao]
 rw[<-vq]at hns hk0 hnc ⊢;have hk:∀b o,s3.heap.get? b=aB o->h₁.get? b=aB o:=hk0;have vt:∀b∈fp,b<s3.heap.objs.size:=λb hb=>by rw[vq,ji];exact pW (nC b hb)
 have J3:=Nd S I3 f3 vt (tk:=s.toks) hns hk hnc;have st3:tn 0 h₁:=T.keep _ _ _ st1 λb hb o q=>hk b o (by rw[vq];exact cA _ q);generalize lT:X.comp (ow++fr) scope s3.heap.objs.size s3 (upd H1 s.heap.objs.size u0) fp=Y at J3;have vv:∀b∈fp,Y.Ok->∀{H':Hp},H' b=aC->dQ Y [] H' b:=λb hb ok H' hn=>by
  subst lT;exact⟨hn,(ok.xV b hb).1,ok.lM b hb,.inl hb,(ok.xV b hb).2,λp hp=>by cases(show p∈([]:List (ah×Obj))from hp)⟩
 have back:∀{σ':St}{H':Hp}{s':af},Inv Y [] σ' H' s'->∀h'',Heap.SameBut s3.heap.objs.size s'.heap h''->Inv X pins σ H' {s' with heap:=h''}:=λ{σ' H' s'} I' h'' hs=>by
  subst lT;have mV:∀b o,s3.heap.get? b=aB o->b≠s3.heap.objs.size:=λb o q=>fL (cJ q);have un:Un (frs X.stack) fp (upd H1 s.heap.objs.size u0) H' s3.heap h'':=
   ⟨λb o q n hb hx=>(hs.2 b (mV b o q)).trans (I'.base.keep b o q n hb hx),λb o q n hb hx=>by
    obtain⟨sl,z⟩:=I'.base.slot b o q n hb hx;exact⟨sl,(hs.2 b (mV b o q)).trans z⟩,I'.base.free,λb o q hx=>by
    obtain⟨o',z⟩:=I'.base.there b o q hx;exact⟨o',(hs.2 b (mV b o q)).trans z⟩,I'.base.tups,I'.base.gO,I'.base.iy⟩
  have hok:eY X.prog X.w H' h'':=λb ob q=>by
   refine(I'.hok b ob q).stay (λc w' hcc z=>(hs.2 c ?_).trans z) (λ_ z=>z) λ_ _ z=>z;rintro rfl;have hfree:=I'.free;rcases hcc with rfl|hcc
   rw[show H' s3.heap.objs.size=aC from hfree]at q;cases q;rw[show H' s3.heap.objs.size=aC from hfree]at hcc;cases hcc
  have hos:s'.os=s3.os:=I'.os;exact I3.tD (s':={s' with heap:=h''}) (ch:=fp) hos un hok I'.bare λb hb=>by
   obtain⟨_,a1,a2,a3,a4,a5⟩:=f1 b hb;exact⟨a3,a1,a4,a5⟩
 have Ay:Y.prog=X.prog:=by subst lT;rfl
 have Az:Y.w=X.w:=by subst lT;rfl
 have Nu:Y.K=X.K:=by subst lT;rfl
 have AA:Y.A=X.A:=by subst lT;rfl
 have Nv:Y.calm=true:=by rw[<-lT];exact hc
 have HA:Y.xe=gw:=by subst lT;rfl
 have Nx:Y.env.locals=s3.heap.objs.size:=by subst lT;rfl
 have hg':PG Y tg g:=by rw[<-lT];exact hg _ _ _ _
 have ht':iH Y ifs tc:=by rw[<-lT];exact ht _ _ _ _
 have he':∀D,PM Y (emit (.ref D) Y.env) (tm D):=λD=>by rw[<-lT];exact he _ _ _ _ D
 have loop:∀s4:af,Inv Y [] (iS ow fr ix σ) (upd H1 s.heap.objs.size u0) s4->tn 0 s4.heap->codeAny (model X.prog X.w) X.A (.compLoop e 0 (.ref it) (.ref s.heap.objs.size) Y.env) (RR (.ref s.heap.objs.size) s3.heap.objs.size) s4:=by
  intro s4 I4 G9;refine UL (CK.turn _ _ _) (CK.dl _ _ _) (CK.al _ _ _ _) (λn s'=>∃i σ' H',Inv Y [] σ' H' s'/\tn i s'.heap/\(∀b∈fp,H' b=aC)/\W i n σ' H') ?_ m0 ⟨0,_,_,I4,G9,λb hb=>(f3 b hb).1,w0⟩;rintro n s5 ⟨i,jP,H5,I5,lO,ql,w5⟩;rcases turn i n jP H5 w5 with⟨stop,q⟩|⟨go,step⟩
  .have td:=T.done Y Ay Az Nu Nv i [] s5 jP H5 gw I5 (λb hb=>vv b hb I5.ok (ql b hb)) lO stop
   rw[AA]at td;refine aY td λr s6 bZ=>?_;obtain⟨hr,I6⟩:=bZ;subst hr;obtain⟨m6,DP,_⟩:=I6.loc;rw[Nx]at DP;have Ny:=I6.free;rw[Nx]at Ny;exact fin _ _ H5 s6 m6 (I3.j6 (aR _) Ny) DP (back I6) q
  have td:=T.item Y Ay Az Nu Nv i [] s5 jP H5 gw I5 (λb hb=>vv b hb I5.ok (ql b hb)) lO go;rw[AA]at td;refine aY td λr s6 bZ=>?_;obtain⟨u,hr,h6⟩:=bZ;subst hr;refine aY h6 λ_ s7 bZ=>?_;obtain⟨x,H7,I7,r7,y7,vz,Hf⟩:=bZ;have Hg:=I7.pinned (λb hb=>vv b hb I7.ok (Hf b hb)) (T.obj _ _ vz);have again:∀{jq:St}{H8:Hp}{s8:af}{m':Nat},Inv Y ([]++ve fp s7.heap) jq H8 s8->m'<n->W (i+1) m' jq H8->∃m,m<n/\∃i σ' H',Inv Y [] σ' H' s8/\tn i s8.heap/\(∀b∈fp,H' b=aC)/\W i m σ' H':=λ{jq H8 s8 m'} I8 hm w8=>by
   refine⟨m',hm,i+1,jq,H8,I8.dz,T.keep _ _ _ vz λb hb o q=>(I8.pin (b,o) (gK _ (gK _ (tF hb q)))).1,λb hb=>?_,w8⟩;obtain⟨o,q,d⟩:=T.obj _ _ vz b hb;exact(I8.pin (b,o) (gK _ (gK _ (tF hb q)))).2.1
  have q7:=hg' _ s7 jP H7 x u _ Hg r7 (step x H7 y7);rw[Ay,Az,AA,HA]at q7;refine aY q7 λ_ s8 bZ=>?_;obtain⟨jq,H8,I8,q8⟩:=bZ;have q8:=ht' _ s8 jq H8 _ I8 q8;rw[Ay,Az,AA,HA]at q8;refine aY q8 λok s9 z9=>z9.el λH9 I9 q9=>?_;cases ok with
  |false=>
   simp only[dO,di]at q9 ⊢;obtain⟨m',hm,w9⟩:=q9;exact again I9 hm w9
  |true=>
   simp only[bX]at q9 ⊢;have Nz:=he' _ _ s9 jq H9 _ I9 q9;rw[Ay,Az,AA,HA]at Nz;exact aY Nz λ_ Hh ⟨UN,Hi,Hj,m',hm,Ho⟩=>again Hj hm Ho
 have DR:Inv Y [] (iS ow fr ix σ) (upd H1 s.heap.objs.size u0) {s with heap:=h₁,toks:=s.toks}:=by rw[<-Ao]at J3;exact J3
 have hl:=loop _ DR st3;obtain⟨rest,hcl⟩:=CK.cl;have fin':=UM hcl (CK.ds _ _ _) (CK.as _ _ _ _) hl (T.self _ 0 _ _ _ st3 hl);rw[<-lT]at fin';exact fin'
theorem AB(CK:kO X.prog X.w e tg iter ifs emit newAcc ob u0)(hev:eval e X.env=comprehension e scope X.env pos newAcc false (eval iter X.env))(S:aW X ow fr ix scope)(hc:X.calm)(hi:PI X tg iter wi)
 (hg:∀C s₀ H₀ ex,PG (X.comp (ow++fr) scope C s₀ H₀ ex) tg g) (ht:∀C s₀ H₀ ex,iH (X.comp (ow++fr) scope C s₀ H₀ ex) ifs tc) (he:∀C s₀ H₀ ex D,PM (X.comp (ow++fr) scope C s₀ H₀ ex) (emit (.ref D) (X.comp (ow++fr) scope C s₀ H₀ ex).env) (tm D))
 (hs:∀x,foldedSetIterable iter X.env x=pure x):PE X e (Hz X.K (iS ow fr ix) wi g tc tm u0):=by
 intro pins s σ H Q I h;rw[hev];obtain⟨rest,hcl⟩:=CK.cl;refine C6 (use:=aC) hcl hs (DK λy hy e=>I.ok.has _ (S.free y hy e)) S.kind S.names (aY (hi pins s σ H _ I h) λv s1 h1=>aY h1 λitv s2 h2=>?_);exact zev (RR:=λacc C=>compPost (model X.prog X.w) X.A X.xe aC (EP X pins σ Q) acc C) CK S hc hg ht he h2 λD C H' s' m _ hn hI q=>⟨m,hn,λh'' j8=>⟨.ref D,H',hI h'' j8,rfl,q⟩⟩
theorem UO{i:Nat}{y:Str}{py spos:Pos}(CK:kO X.prog X.w e tg iter ifs emit newAcc ob u0)(hev:∀use,evalThenUse e X.env use=(do let _ <-comprehension e scope X.env pos newAcc false (eval iter X.env) (aB use)))(hN:X.N.Nodup)(Hq:X.N[i]?=aB y)(hy:Loc X.env.scope y)(S:aW X ow fr ix scope)(hc:X.calm)(hi:PI X tg iter wi)
 (hg:∀C s₀ H₀ ex,PG (X.comp (ow++fr) scope C s₀ H₀ ex) tg g) (ht:∀C s₀ H₀ ex,iH (X.comp (ow++fr) scope C s₀ H₀ ex) ifs tc) (he:∀C s₀ H₀ ex D,PM (X.comp (ow++fr) scope C s₀ H₀ ex) (emit (.ref D) (X.comp (ow++fr) scope C s₀ H₀ ex).env) (tm D))
 (hsw:swapsWith e (aB (.Name y py)) spos.line X.env=pure true) (hf:X.fn y=true\/X.env.scope.names.lookup y=aB .local)
 (hs:∀x,foldedSetIterable iter X.env x=pure x):PS X (.Assign [.Name y py] e spos) (qk (Hz X.K (iS ow fr ix) wi g tc tm u0) (gQ i)):=by
 intro pins s σ H D I h;rw[exec_Assign_Name_used _ _ _ _ hsw];refine aJ (mQ (aJ ?_));rw[hev];obtain⟨rest,hcl⟩:=CK.cl;refine aJ (fS (C6 (use:=aB (assign (.Name y py) X.env)) (Q:=λ_ s'=>SP X pins D .next s') hcl hs (DK λy hy e=>I.ok.has _ (S.free y hy e)) S.kind S.names
  (aY (hi pins s σ H _ I h) λv s1 h1=>aY h1 λitv s2 h2=>?_)) (λ_ s' hq=>bC (bC hq)) λ_ _ e=>e)
 refine zev (Q:=λx H1=>gQ i x σ H1 D.nx) (RR:=λacc C=>compPost (model X.prog X.w) X.A X.xe (aB (assign (.Name y py) X.env)) (λ_ s'=>SP X pins D .next s') acc C) CK S hc hg ht he h2 λd C H' s' m hC hn hI q=>?_;show wpAny _ X.A (assign (.Name y py) X.env (.ref d)) _ _ _;have I':Inv X pins σ H' s':=hI s'.heap (.refl ..);refine wpAny_assign_Name (Ga I' hN Hq hy (v:=.ref d) rfl (λs'' Hr ⟨a,Hs,ha⟩=>?_) hf);obtain⟨c0,c1,c2,c3,c4,c5⟩:=hC;have Ht:C≠a:=by rcases ha with rfl|ha;exact c1;exact λz=>c4 _ _ ha z.symm
 exact⟨m,hn.sameBut Hs Ht,λh'' j8=>⟨_,H',Hr.turned (t':=s''.toks) (it:=C) (λb o hb q=>(j8.2 b hb).trans q) c0 c1 c3 c4 c5,q⟩⟩
end
theorem UP:fillsNumberSlot (.type "tuple") "mul" = pure false:=
 PySem.fillsNumberSlot_seq (id:="tuple.__mul__") (r:=aB (.builtin "tuple.__rmul__")) zl.lookup (by decide +kernel) F.slot_tuple_rmul.lookup (by decide +kernel)
theorem UQ:seqRepeat? (.type "tuple")=pure (aB (.builtin "tuple.__mul__")):=by unfold seqRepeat?;rw[PySem.seqSlot_of (T:="tuple") (name:="__mul__") (id:="tuple.__mul__") zl.lookup (by decide +kernel),PySem.seqSlot_of (T:="tuple") (name:="__rmul__") (id:="tuple.__rmul__") F.slot_tuple_rmul.lookup (by decide +kernel)];rfl
theorem UR(k:Int)(t:Tok)(l:ah)(its:Array aa)(n:Nat)(dd:Option ah)(sl:Array (Option aa)) :
 Meets (Builtin.«int.__rmul__» ⟨[.int k t,.ref l],[]⟩) (λ_ R s=>s.heap.get? l=aB {cls:=.type "tuple",dict:=dd,data:=.seq its n,slots:=sl}/\R (.ok (.ret Value.notImplemented)) s):=
 .of_wp λprog w A R s h=>by
  obtain⟨hp,g,d,tk,os⟩:=s;obtain⟨e,h⟩:=h
  wp_walk using nj e;exact⟨_,rfl,h⟩
theorem US(l:ah)(its:Array aa)(n:Nat)(dd:Option ah)(sl:Array (Option aa))(k:Int)(t:Tok)(h1:¬(decide (k < -(2 ^ 63))||decide (k>=2 ^ 63)))(h2:(its.isEmpty||k==1)) :
 Meets (Builtin.«tuple.__mul__» ⟨[.ref l,.int k t],[]⟩) (λ_ R s=>s.heap.get? l=aB {cls:=.type "tuple",dict:=dd,data:=.seq its n,slots:=sl}/\R (.ok (.ret (.ref l))) s):=
 .of_wp λprog w A R s h=>by
  obtain⟨hp,g,d,tk,os⟩:=s;obtain⟨e,h⟩:=h;have f1:=AutoSeq1.idx_int
  wp_walk using nj e;refine xA ?_;rw[if_neg h1]
  wp_walk using nj e;exact⟨_,rfl,h⟩
theorem UT(l:ah)(its:Array aa)(n:Nat)(dd:Option ah)(sl:Array (Option aa))(k:Int)(t:Tok)(h1:¬(decide (k < -(2 ^ 63))||decide (k>=2 ^ 63)))(h2:¬(its.isEmpty||k==1))(h3:(decide (k<=0)||its.isEmpty)) :
 Meets (Builtin.«tuple.__mul__» ⟨[.ref l,.int k t],[]⟩) (λ_ R s=>s.heap.get? l=aB {cls:=.type "tuple",dict:=dd,data:=.seq its n,slots:=sl}/\R (.ok (.ret (.ref s.heap.objs.size))) {s with heap:=s.heap.push {cls:=.type "tuple",data:=.seq #[]}}):=
 .of_wp λprog w A R s h=>by
  obtain⟨hp,g,d,tk,os⟩:=s;obtain⟨e,h⟩:=h;have f1:=AutoSeq1.idx_int
  wp_walk using nj e;refine xA ?_;rw[if_neg h1]
  wp_walk using nj e;exact⟨_,rfl,h⟩
theorem UU(l:ah)(its:Array aa)(n:Nat)(dd:Option ah)(sl:Array (Option aa))(k:Int)(t:Tok)(h1:¬(decide (k < -(2 ^ 63))||decide (k>=2 ^ 63)))(h2:¬(its.isEmpty||k==1))(h3:¬(decide (k<=0)||its.isEmpty)=true)
 (h4:¬(its.size*k> (2 ^ 63-1)/8)) (h5:¬Builtin.Tuple.tupleTooMany (its.size*k)) (h6:((bD k.toNat its).foldl (· ++ ·) #[]).size<=sizeLine) :
 Meets (Builtin.«tuple.__mul__» ⟨[.ref l,.int k t],[]⟩) (λ_ R s=>s.heap.get? l=aB {cls:=.type "tuple",dict:=dd,data:=.seq its n,slots:=sl}/\R (.ok (.ret (.ref s.heap.objs.size))) {s with heap:=s.heap.push {cls:=.type "tuple",data:=.seq ((bD k.toNat its).foldl (· ++ ·) #[])}}):=
 .of_wp λprog w A R s h=>by
  obtain⟨hp,g,d,tk,os⟩:=s;obtain⟨e,h⟩:=h;have f1:=AutoSeq1.idx_int
  wp_walk using nj e;refine xA ?_;rw[if_neg h1]
  wp_walk using nj e;refine xA ?_;rw[if_neg h4]
  wp_walk using nj e;exact⟨_,rfl,h⟩
section
variable{X:Cx}
noncomputable def tO(K:aH):R2:=λx y H Q=>∃a k xs,x=.ref a/\y=.int k/\bW K H a xs/\-(2 ^ 62)<=k/\k<2 ^ 62/\xs.length*k.toNat<=sizeLine/\
 ((xs.isEmpty||k==1)=true->Q (.ref a) H)/\((xs.isEmpty||k==1)=false->∀p,H p=aC->Q (.ref p) (upd H p (.tup (bD k.toNat xs).flatten)))
theorem NB{xs:List V}{us:List aa}(r:Vals xs us):us.toArray.isEmpty=xs.isEmpty:=by cases r<;>rfl
theorem UW:cX X (binaryOp .Mult) (tO X.K):=by
 intro pins s σ H x y v u Q I rx ry h;obtain⟨a,k,xs,rfl,rfl,ha,k1,k2,hz,q1,q2⟩:=h;cases rx;obtain⟨t,rfl⟩:=ry;obtain⟨its,r,p,_⟩:=I.tuple ha;obtain⟨⟨c,dd,dt,sl⟩,e1,e2,n,e3⟩:=p
 replace e2:c=.type "tuple":=e2
 replace e3:dt=.seq its.toArray n:=e3;subst e2 e3;have hl:xs.length=its.length:=r.length;have h1:¬(decide (k < -(2 ^ 63))||decide (k>=2 ^ 63))=true:=by simp only[pY,eE];lia
 refine wpAny_binaryOp_repeat_ref (T:="tuple") (U:="int") (by decide) ⟨_,e1,rfl⟩ (λs'=>typeIs_int s' k t) UP F.fills_int_mul F.slot_int_rmul UQ F.slot_int_index.lookup
  (pV F.slot_int_rmul (typeIs_int s k t) F.entry_int_rmul (F.args_int_rmul_2 _ _) (UR k t a its.toArray n dd sl) ⟨e1,rfl,⟨_,e1,rfl⟩,?_⟩)
 by_cases h2:(its.toArray.isEmpty||k==1)=true;refine pV zl ⟨_,e1,rfl⟩ F.entry_tuple_mul (F.args_tuple_mul_2 _ _) (US a its.toArray n dd sl k t h1 h2) ⟨e1,?_⟩;exact⟨.ref a,H,I,rfl,q1 (by rw[<-NB r];exact h2)⟩;have q2:=q2 (by rw[<-NB r];simpa using h2);by_cases h3:(decide (k<=0)||its.toArray.isEmpty)=true;have hk:k.toNat=0:=by
  have:its.toArray.isEmpty=false:=by
   cases q:its.toArray.isEmpty with|false=>rfl|true=>rw[q]at h2;exact absurd rfl h2
  rw[this,Bool.or_false,eE]at h3;lia
 refine pV zl ⟨_,e1,rfl⟩ F.entry_tuple_mul (F.args_tuple_mul_2 _ _) (UT a its.toArray n dd sl k t h1 h2 h3) ⟨e1,?_⟩;rw[hk]at q2;exact⟨.ref s.heap.objs.size,_,I.laid (t':=s.toks) (o:=.tup []) (λb ob q=>cA _ q) (aR _) ⟨gu _,[],.nil,j0.new _ _⟩,rfl,q2 _ (I.hok.fresh (aR _))⟩;have hk:0<k:=by simp only[pY,eE,not_or]at h3;lia
 have hkn:((k.toNat:Nat):Int)=k:=Int.toNat_of_nonneg (by lia);have hmul:(its.toArray.size:Int)*k=((xs.length*k.toNat:Nat):Int):=by rw[cQ,<-hl,Int.natCast_mul,hkn]
 have hsl:(sizeLine:Nat)=16777216:=rfl;have fl:(bD k.toNat its.toArray).foldl (· ++ ·) #[]=(bD k.toNat its).flatten.toArray:=by
  have:=M1 its k.toNat []
  rw[nc]at this;exact this
 refine pV zl ⟨_,e1,rfl⟩ F.entry_tuple_mul (F.args_tuple_mul_2 _ _) (UU a its.toArray n dd sl k t h1 h2 h3 (by rw[hmul];lia) (by
  unfold Builtin.Tuple.tupleTooMany;rw[hmul,eE];lia) (by rw[fl,cQ,M4,Nat.mul_comm,<-hl];exact hz)) ⟨e1,?_⟩
 rw[fl];exact⟨.ref s.heap.objs.size,_,I.laid (t':=s.toks) (o:=.tup (bD k.toNat xs).flatten) (λb ob q=>cA _ q) (aR _) ⟨by rw[M4,Nat.mul_comm];exact hz,_,r.rep k.toNat,j0.new _ _⟩,rfl,q2 _ (I.hok.fresh (aR _))⟩
noncomputable def NC(K:aH):R2:=λx y H Q=>∃a b ys,x=.ref a/\y=.ref b/\bW K H a []/\bW K H b ys/\Q (.ref b) H
theorem UX:cX X (binaryOp .Add) (NC X.K):=by
 intro pins s σ H x y v u Q I rx ry h;obtain⟨a,b,ys,rfl,rfl,ha,hb,q⟩:=h;cases rx;cases ry;obtain⟨its,r1,p1,_⟩:=I.tuple ha;obtain⟨its2,r2,p2,_⟩:=I.tuple hb;cases r1;obtain⟨⟨c,dd,dt,sl⟩,e1,e2,n,e3⟩:=p1;obtain⟨⟨c2,dd2,UY,sl2⟩,f1,f2,n2,f3⟩:=p2
 replace e2:c=.type "tuple":=e2
 replace e3:dt=.seq ([]:List aa).toArray n:=e3
 replace f2:c2=.type "tuple":=f2
 replace f3:UY=.seq its2.toArray n2:=f3;subst e2 e3 f2 f3;exact concat_meets ⟨_,e1,rfl⟩ ⟨_,f1,rfl⟩ yJ yK zk zh (zg _ _) (tuple_addW0 a b ([]:List aa).toArray its2.toArray n n2 dd dd2 sl sl2 rfl) ⟨e1,f1,⟨.ref b,H,I,rfl,q⟩⟩
noncomputable def ff(ds:List aA)(d:aA):Bool:=ds.any λe=>PyData.eqv e d
noncomputable def qA(K:aH)(neg:Bool):R2:=λx y H Q=>∃p xs ds d,y=.ref p/\(cH K H p xs\/bW K H p xs)/\lR K (λ_=>False) H xs ds/\Rp K (λ_=>False) H x d/\ds.all SeqAt.shaped=true/\SeqAt.shaped d=true/\Q (.bl (if neg then !ff ds d else ff ds d)) H
theorem HB{h:az}:∀{us:List aa} {ds:List aA} {as:List ah} {i:Nat} {u:aa},ReadsAll h us ds as->us[i]?=aB u->∃d bs,ds[i]?=aB d/\Reads h u d bs
 |_,_,_,i,u,.nil,e=>by simp at e
 |_,_,_,0,u,.cons r _,e=>by simp at e;subst e;exact⟨_,_,rfl,r⟩
 |_,_,_,i+1,u,.cons _ rs,e=>by
  obtain⟨d,bs,h1,h2⟩:=HB rs (by simpa using e);exact⟨d,bs,by simpa using h1,h2⟩
open Classical in
noncomputable def eL(us:List aa)(ds:List aA)(d:aA)(u:aa):Bool:=decide (∃(i:Nat) (e:aA),us[i]?=aB u/\ds[i]?=aB e/\PyData.eqv e d=true)
open Classical in
theorem DU{us:List aa}{ds:List aA}{d:aA}{u:aa}:eL us ds d u=true↔∃(i:Nat) (e:aA),us[i]?=aB u/\ds[i]?=aB e/\PyData.eqv e d=true:=by unfold eL;exact decide_eq_true_iff
theorem DV{us:List aa}{ds:List aA}{d:aA}(hl:us.length=ds.length):us.any (eL us ds d)=ff ds d:=by
 cases q:ff ds d with
 |true=>
  unfold ff at q;rw[List.any_eq_true]at q;obtain⟨e,h1,h2⟩:=q;obtain⟨i,hi,h3⟩:=List.mem_iff_getElem.mp h1;rw[List.any_eq_true];refine⟨us[i]'(by lia),ir _,?_⟩;rw[DU];exact⟨i,e,by simp,by rw[ig hi,h3],h2⟩
 |false=>
  unfold ff at q;rw[List.any_eq_false]at q ⊢;intro u hu z;rw[DU]at z;obtain⟨i,e,h1,h2,h3⟩:=z;exact q e (o5 h2) h3
theorem AD{h:az}:∀{us:List aa} {ds:List aA} {as:List ah},ReadsAll h us ds as->us.length=ds.length|_,_,_,.nil=>rfl|_,_,_,.cons _ r=>by rw[cZ,cZ,AD r]
theorem DW{A:ak}{s:af}{us:List aa}{ds:List aA}{as bs:List ah}{d:aA}{v:aa}(hu:A.units+64<cLine)(ra:ReadsAll s.heap us ds as)(rb:Reads s.heap v d bs)(s1:ds.all SeqAt.shaped)(s2:SeqAt.shaped d) :
 ∀u∈us,SeqAt.EqAt A s u v (eL us ds d u):=by
 intro u hm;have sh:∀(i:Nat)(e:aA),ds[i]?=aB e->SeqAt.shaped e=true:=λi e q=>lJ.mp s1 e (o5 q);cases q:eL us ds d u with
 |true=>
  rw[DU]at q;obtain⟨i,e,h1,h2,h3⟩:=q;obtain⟨e',cs,h4,h5⟩:=HB ra h1;rw[h2]at h4;cases h4;have:=SeqAt.eqAt_reads e d A s u v cs bs h5 rb (Dv (sh i e h2)) (Dv s2) (SeqAt.room_of_shaped (sh i e h2) hu);rw[h3]at this;exact this
 |false=>
  obtain⟨i,hi,h1⟩:=List.mem_iff_getElem.mp hm;have h1:us[i]?=aB u:=by rw[ig hi,h1]
  obtain⟨e,cs,h4,h5⟩:=HB ra h1;have h3:PyData.eqv e d=false:=by
   cases z:PyData.eqv e d with
   |false=>rfl
   |true=>
    rw[DU.mpr ⟨i,e,h1,h4,z⟩]at q;cases q
  have:=SeqAt.eqAt_reads e d A s u v cs bs h5 rb (Dv (sh i e h4)) (Dv s2) (SeqAt.room_of_shaped (sh i e h4) hu);rw[h3]at this;exact this
theorem UZ(hu:X.A.in1.units+64<cLine):cX X (compareOp .In) (qA X.K false):=by
 intro pins s σ H x y v u Q I rx ry h;obtain⟨p,xs,ds,d,rfl,hq,r1,r2,s1,s2,q⟩:=h;cases ry;obtain⟨bs,rb⟩:=r2.reads I rx;rcases hq with hq|hq
 obtain⟨its,r,pl,hz⟩:=I.list hq;obtain⟨as,ra⟩:=r1.reads I r;refine SeqAt.in_listAt (eL its ds d) pl.isList (λw hw=>DW hu ra rb s1 s2 w (by simpa using hw)) ⟨.bl _,H,I,rfl,?_⟩;rw[show its.toArray.any (eL its ds d)=its.any (eL its ds d) by simp,DV (AD ra)];exact q;obtain⟨its,r,pl,hz⟩:=I.tuple hq;obtain⟨as,ra⟩:=r1.reads I r;refine SeqAt.in_tupleAt (eL its ds d) pl (λw hw=>DW hu ra rb s1 s2 w (by simpa using hw)) ⟨.bl _,H,I,rfl,?_⟩;rw[show its.toArray.any (eL its ds d)=its.any (eL its ds d) by simp,DV (AD ra)];exact q
theorem U0(hu:X.A.in1.units+64<cLine):cX X (compareOp .NotIn) (qA X.K true):=by
 intro pins s σ H x y v u Q I rx ry h;obtain⟨p,xs,ds,d,rfl,hq,r1,r2,s1,s2,q⟩:=h;cases ry;obtain⟨bs,rb⟩:=r2.reads I rx;rcases hq with hq|hq
 obtain⟨its,r,pl,hz⟩:=I.list hq;obtain⟨as,ra⟩:=r1.reads I r;refine SeqAt.notIn_listAt (eL its ds d) pl.isList (λw hw=>DW hu ra rb s1 s2 w (by simpa using hw)) ⟨.bl _,H,I,rfl,?_⟩;rw[show its.toArray.any (eL its ds d)=its.any (eL its ds d) by simp,DV (AD ra)];exact q;obtain⟨its,r,pl,hz⟩:=I.tuple hq;obtain⟨as,ra⟩:=r1.reads I r;refine SeqAt.notIn_tupleAt (eL its ds d) pl (λw hw=>DW hu ra rb s1 s2 w (by simpa using hw)) ⟨.bl _,H,I,rfl,?_⟩;rw[show its.toArray.any (eL its ds d)=its.any (eL its ds d) by simp,DV (AD ra)];exact q
end
end L2
namespace HT
open PySem PySem.Spec PyProof.Rows
section
variable{prog:ai}{w:aj}{A:ak}{E:aa->af->Prop}{s:af}
theorem eV{t sl:ah}{items:Array aa}{vl vu:aa}{lo hi:Option Int}{Q:aa->af->Prop}(ht:IsTup s.heap t items)(hs:s.heap.IsSliceOf sl vl vu .none)(pl:IsPart vl lo)(pu:IsPart vu hi)
 (hw:bH items.size 0 lo=0/\bH items.size items.size hi=items.size)
 (h:Q (.ref t) s):wpAny (model prog w) A (getItem (.ref t) (.ref sl)) Q E s:=by
 obtain⟨os,hos,hcs,hds⟩:=id hs;have GJ:s.TypeIs (.ref sl) "slice":=⟨os,hos,hcs⟩
 unfold getItem
 try with_reducible refine mZ ?_
 first|refine aJ (bC ?_)|skip
 refine aJ (wpAny_sequenceKey ht.typeIs (by decide) ?_);refine aJ (xw (name:=Str.ofString "__getitem__") ht.typeIs xM
  (uL xM ht.typeIs entry_tuple_getitem ?_ (args_tuple_getitem _ _)))
 show wpAny _ _ (Builtin.Tuple.tupleItemsOf (.ref t) >>= _) _ _ s;refine aJ (tupleItemsOf_ ht ?_);refine aJ (C9 GJ ?_);rw[if_pos (by decide)];refine aJ (MT hs pl pu ?_);have hyes:((((bH items.size 0 lo:Nat):Int)==0&& (1:Int)==1&& (bH items.size items.size hi-bH items.size 0 lo)==items.size)):=by rw[hw.1,hw.2];simp
 show wpAny _ _ (if(((bH items.size 0 lo:Nat):Int)==0&& (1:Int)==1&& (bH items.size items.size hi-bH items.size 0 lo)==items.size)=true then _ else _) _ _ s;rw[if_pos hyes];unfold Builtin.Tuple.tupleIsExact;refine aJ (aJ (C9 ht.typeIs (bC ?_)));rw[if_pos (by decide)];refine aJ (jW ?_);exact bC ⟨_,rfl,bC h⟩
end
end HT
namespace L2
open PySem PySem.Spec PyProof.Rows
variable{X:Cx}
noncomputable def AE(K:aH):V->Option Int->Option Int->Hp->VK->Prop:=λx lo hi H Q=>∃a xs,x=.ref a/\bW K H a xs/\
 (HT.bH xs.length 0 lo=0/\HT.bH xs.length xs.length hi=xs.length)/\Q (.ref a) H
theorem U3:qw X (AE X.K):=by
 intro pins s σ H x v vl vu lo hi sl Q I rx hs pl pu h;obtain⟨a,xs,rfl,hx,hw,q⟩:=h;cases rx;obtain⟨its,r,ht,hz⟩:=I.tuple hx;have hlen:its.toArray.size=xs.length:=by rw[cQ];exact r.length.symm
 refine⟨"tuple",_,xM.lookup,ht.typeIs,?_⟩;refine HT.eV ht hs pl pu (by rw[hlen];exact hw) ?_;exact⟨.ref a,_,I,rfl,q⟩
noncomputable def HC(K:aH):V->Option Int->Option Int->Hp->VK->Prop:=λx lo hi H Q=>(Ac K x lo hi H Q\/AE K x lo hi H Q)\/Ah K x lo hi H Q
theorem U4:qw X (HC X.K):=(TJ.or U3).or TY
noncomputable def ZI(b:Bool)(h:az)(I l:ah)(k:Nat):Prop:=match b with|true=>h.IsTupleIter I l k|false=>h.IsListIter I l k
noncomputable def ZS(b:Bool)(h:az)(l:ah)(xs:Array aa):Prop:=match b with|true=>h.IsTuple l xs|false=>h.IsList l xs
noncomputable def AF(b:Bool):String:=match b with|true=>"tuple_iterator" |false=>"list_iterator"
noncomputable def DX(b:Bool)(l:ah):Obj:={cls:=.type (AF b),data:=.fields #[.ref l,.int 0 0]}
theorem ZI.ex{b:Bool}{h h':az}{I l c:ah}{k:Nat}(x:ZI b h I l k)(s:Heap.ExtBut c h h')(n:I≠c):ZI b h' I l k:=by cases b;exact Heap.IsListIter.extBut x s n;exact Heap.IsTupleIter.extBut x s n
theorem ZS.ex{b:Bool}{h h':az}{l c:ah}{xs:Array aa}(x:ZS b h l xs)(s:Heap.ExtBut c h h')(n:l≠c):ZS b h' l xs:=by cases b;exact Heap.IsList.extBut x s n;exact Heap.IsTuple.extBut x s n
theorem ZI.mv{b:Bool}{h h':az}{I l:ah}{k:Nat}(x:ZI b h I l k)(e:∀o,h.get? I=aB o->h'.get? I=aB o):ZI b h' I l k:=by cases b;exact Heap.IsListIter.at x e;exact Heap.IsTupleIter.at x e
theorem ZI.ob{b:Bool}{h:az}{I l:ah}{k:Nat}(x:ZI b h I l k):∃o,h.get? I=aB o/\∀v,o.data≠.cell v:=by cases b;obtain⟨o,h1,h2,h3⟩:=x;exact⟨o,h1,λv z=>by rw[h3]at z;cases z⟩;obtain⟨o,h1,h2,h3⟩:=x;exact⟨o,h1,λv z=>by rw[h3]at z;cases z⟩
theorem ZS.lt{b:Bool}{h:az}{l:ah}{xs:Array aa}(x:ZS b h l xs):l<h.objs.size:=by cases b<;> (obtain⟨o,h1,_⟩:=x;exact cJ h1)
theorem ZS.push{b:Bool}{h:az}{l:ah}{xs:Array aa}(x:ZS b h l xs)(o:Obj):ZS b (h.push o) l xs:=by cases b;exact Heap.IsList.push x o;exact Heap.IsTuple.push x o
section
variable{prog:ai}{w:aj}{A:ak}{E:aa->af->Prop}{s:af}
theorem HE{b:Bool}{I l:ah}{k:Nat}{xs:Array aa}{y:aa}{Q:aa->af->Prop}(hi:ZI b s.heap I l k)(hl:ZS b s.heap l xs)(hy:xs[k]?=aB y)
 (q:∀g,ZI b g I l (k+1)->Heap.SameBut I s.heap g->Q y {s with heap:=g}):wpAny (model prog w) A (Builtin.SmallTypes.nextOf (.ref I)) Q E s:=by
 cases b;exact wpAny_nextOf_list_item hi hl hy q;exact Ni hi hl hy q
theorem z_end{b:Bool}{I l:ah}{k:Nat}{xs:Array aa}{Q:aa->af->Prop}(hA:A.handled=aC)(hi:ZI b s.heap I l k)(hl:ZS b s.heap l xs)(hy:xs[k]?=aC)
 (q:∀g e,Heap.ExtBut I s.heap g->(∃o,g.get? e=aB o/\o.cls=.type "StopIteration")->E (.ref e) {s with heap:=g}):wpAny (model prog w) A (Builtin.SmallTypes.nextOf (.ref I)) Q E s:=by
 cases b;exact wpAny_nextOf_list_end hA hi hl hy q;exact Hu hA hi hl hy q
structure ZA(z TI TO i1 i2 l1 l2:ah):Prop where
 a1:TI≠z/\TO≠z/\i1≠z/\i2≠z
 a2:TI≠TO/\TI≠i1/\TI≠i2/\TO≠i1/\TO≠i2/\i1≠i2
 a3:l1≠z/\l1≠TO/\l1≠i1/\l1≠i2
 a4:l2≠z/\l2≠TO/\l2≠i1/\l2≠i2
theorem U5{n l1 l2:Nat}(h1:l1<n)(h2:l2<n):ZA (n+4) (n+2) (n+3) n (n+1) l1 l2:=by have e:∀{a b:Nat},(a<b\/b<a)->a≠b:=λh=>h.elim fL ku;refine⟨⟨?_,?_,?_,?_⟩,⟨?_,?_,?_,?_,?_,?_⟩,⟨?_,?_,?_,?_⟩,?_,?_,?_,?_⟩<;>exact e (by lia)
theorem U6{b c:Bool}{z TI TO i1 i2 l1 l2:ah}{k:Nat}{xs ys:Array aa}{x y p q:aa}{Q:aa->af->Prop}(D:ZA z TI TO i1 i2 l1 l2)
 (hz:IsZip s.heap z TI TO .none) (hTI:IsPair s.heap TI (.ref i1) (.ref i2)) (hTO:IsPair s.heap TO p q)
 (h1:ZI b s.heap i1 l1 k) (h2:ZI c s.heap i2 l2 k) (hl1:ZS b s.heap l1 xs) (hl2:ZS c s.heap l2 ys) (hx:xs[k]?=aB x) (hy:ys[k]?=aB y)
 (hQ:∀h',IsZip h' z TI TO (rawInt s.heap.objs.size)->IsPair h' TO x y->ZI b h' i1 l1 (k+1)->ZI c h' i2 l2 (k+1)->IsPair h' s.heap.objs.size x y->h'.objs.size=s.heap.objs.size+1->
   (∀c o,c≠z->c≠TO->c≠i1->c≠i2->s.heap.get? c=aB o->h'.get? c=aB o)->Q (.ref s.heap.objs.size) {s with heap:=h'}) :
 wpAny (model prog w) A (Builtin.«zip.__next__» ⟨[.ref z],[]⟩) (λfin s'=>∃v,fin=.done (.ret v)/\Q v s') E s:=by
 obtain⟨⟨d1,d2,d3,d4⟩,⟨d5,d6,d7,d8,d9,AG⟩,⟨DY,U7,U8,U9⟩,HF,HG,HH,U'⟩:=D;show wpAny _ _ (field (.ref z) 2 >>= _) _ _ _;refine aJ (jV hz rfl (x:=.bool false) rfl ?_);show wpAny _ _ (field (.ref z) 3 >>= _) _ _ _;refine aJ (jV hz rfl (x:=.ref TI) rfl (aJ (sV hTI rfl ?_)));show wpAny _ _ (Builtin.SmallTypes.ownedTupleIsFree (.ref z) >>= _) _ _ _;refine aJ ?_;unfold Builtin.SmallTypes.ownedTupleIsFree;refine aJ (jV hz rfl (x:=.none) rfl (bC ?_));simp only[bX];refine aJ (jW (aJ (jV hz rfl (x:=.ref TO) rfl (aJ (xx hz (by simp) λg1 z1 s1=>?_)))))
 replace z1:IsZip g1 z TI TO .ellipsis:=z1;refine aJ ?_;simp only[List.zipIdx_cons,List.zipIdx_nil,zd,uR];refine aJ (aJ (C8 ?_));show wpAny _ _ (Builtin.SmallTypes.nextOf (.ref i1) >>= _) _ _ _;refine aJ (HE (h1.ex s1.extBut d3) (hl1.ex s1.extBut DY) hx λg2 y1 s2=>bC ?_);have t2:IsPair g2 TO p q:=s2.extBut _ _ d8 (s1.extBut _ _ d2 hTO);refine aJ (sV t2 rfl (aJ (wpAny_updateSeq_pair t2 λg3 t3 s3=>?_)))
 replace t3:IsPair g3 TO x q:=t3;refine aJ (wpAny_letGo (bC (aJ (aJ (C8 ?_)))));show wpAny _ _ (Builtin.SmallTypes.nextOf (.ref i2) >>= _) _ _ _;refine aJ (HE (((h2.ex s1.extBut d4).ex s2.extBut (fK AG)).ex s3.extBut (fK d9)) (((hl2.ex s1.extBut HF).ex s2.extBut HH).ex s3.extBut HG) hy λg4 y2 s4=>bC ?_);have t4:IsPair g4 TO x q:=s4.extBut _ _ d9 t3;refine aJ (sV t4 rfl (aJ (wpAny_updateSeq_pair t4 λg5 t5 s5=>?_)))
 replace t5:IsPair g5 TO x y:=t5;refine aJ (wpAny_letGo (bC (bC (aJ (sV t5 rfl (aJ (wpAny_newTuple ?_)))))));have hsz:g5.objs.size=s.heap.objs.size:=by rw[s5.1,s4.1,s3.1,s2.1,s1.1]
 have z5:IsZip g5 z TI TO .ellipsis:=s5.extBut _ _ (fK d2) (s4.extBut _ _ (fK d4) (s3.extBut _ _ (fK d2) (s2.extBut _ _ (fK d3) z1)));have k5:∀c o,c≠z->c≠TO->c≠i1->c≠i2->s.heap.get? c=aB o->g5.get? c=aB o:=λc o c1 c2 c3 c4 e=>s5.extBut _ _ c2 (s4.extBut _ _ c4 (s3.extBut _ _ c2 (s2.extBut _ _ c3 (s1.extBut _ _ c1 e))));have Va:ZI b g5 i1 l1 (k+1):=((y1.ex s3.extBut (fK d8)).ex s4.extBut AG).ex s5.extBut (fK d8);have Vb:ZI c g5 i2 l2 (k+1):=y2.ex s5.extBut (fK d9);have DZ:z<g5.objs.size:=cJ z5;show wpAny _ _ (Builtin.SmallTypes.ownedTupleHandOut (.ref z) (.ref g5.objs.size) >>= _) _ _ _;refine aJ ?_;unfold Builtin.SmallTypes.ownedTupleHandOut;have z6:IsZip (g5.push {cls:=.type "tuple",data:=.seq #[x,y]}) z TI TO .ellipsis:=cA _ z5;refine aJ (xx z6 (by simp) λg7 z7 s7=>?_)
 replace z7:IsZip g7 z TI TO (rawInt g5.objs.size):=z7;refine xx z7 (by simp) λg8 z8 s8=>?_
 replace z8:IsZip g8 z TI TO (rawInt g5.objs.size):=z8;have up:∀c o,c≠z->g5.get? c=aB o->g8.get? c=aB o:=λc o c1 e=>s8.extBut _ _ c1 (s7.extBut _ _ c1 (cA _ e));have p8:IsPair g8 g5.objs.size x y:=s8.extBut _ _ (ku DZ) (s7.extBut _ _ (ku DZ) (iw _ rfl));have n8:g8.objs.size=g5.objs.size+1:=by rw[s8.1,s7.1,ji]
 rw[hsz]at z8 p8 n8;refine bC ⟨_,rfl,?_⟩;show Q (.ref g5.objs.size) _;rw[hsz];exact hQ g8 z8 (up _ _ d2 t5) (Va.mv λo e=>up _ o d3 e) (Vb.mv λo e=>up _ o d4 e) p8 n8 λc o c1 c2 c3 c4 e=>up c o c1 (k5 c o c1 c2 c3 c4 e)
theorem Vc{b c:Bool}{z TI TO i1 i2 l1 l2:ah}{k:Nat}{xs ys:Array aa}{p q:aa}{Q:Fin->af->Prop}(hA:A.handled=aC)(D:ZA z TI TO i1 i2 l1 l2)
 (hz:IsZip s.heap z TI TO .none) (hTI:IsPair s.heap TI (.ref i1) (.ref i2)) (hTO:IsPair s.heap TO p q)
 (h1:ZI b s.heap i1 l1 k) (h2:ZI c s.heap i2 l2 k) (hl1:ZS b s.heap l1 xs) (hl2:ZS c s.heap l2 ys) (he:xs[k]?=aC\/ys[k]?=aC)
 (hE:∀h' e,(∀c o,c≠z->c≠TO->c≠i1->c≠i2->s.heap.get? c=aB o->h'.get? c=aB o)->(∃o,h'.get? e=aB o/\o.cls=.type "StopIteration")->E (.ref e) {s with heap:=h'}) :
 wpAny (model prog w) A (Builtin.«zip.__next__» ⟨[.ref z],[]⟩) Q E s:=by
 obtain⟨⟨d1,d2,d3,d4⟩,⟨d5,d6,d7,d8,d9,AG⟩,⟨DY,U7,U8,U9⟩,HF,HG,HH,U'⟩:=D;show wpAny _ _ (field (.ref z) 2 >>= _) _ _ _;refine aJ (jV hz rfl (x:=.bool false) rfl ?_);show wpAny _ _ (field (.ref z) 3 >>= _) _ _ _;refine aJ (jV hz rfl (x:=.ref TI) rfl (aJ (sV hTI rfl ?_)));show wpAny _ _ (Builtin.SmallTypes.ownedTupleIsFree (.ref z) >>= _) _ _ _;refine aJ ?_;unfold Builtin.SmallTypes.ownedTupleIsFree;refine aJ (jV hz rfl (x:=.none) rfl (bC ?_));simp only[bX];refine aJ (jW (aJ (jV hz rfl (x:=.ref TO) rfl (aJ (xx hz (by simp) λg1 z1 s1=>?_)))))
 replace z1:IsZip g1 z TI TO .ellipsis:=z1;refine aJ ?_;simp only[List.zipIdx_cons,List.zipIdx_nil,zd,uR];refine aJ (aJ (C8 ?_));show wpAny _ _ (Builtin.SmallTypes.nextOf (.ref i1) >>= _) _ _ _;cases hx:xs[k]? with
 |none=>
  refine aJ (z_end hA (h1.ex s1.extBut d3) (hl1.ex s1.extBut DY) hx λg2 e s2 hs=>?_);obtain⟨oe,vC,hce⟩:=hs;have z2:IsZip g2 z TI TO .ellipsis:=s2 _ _ (fK d3) z1;have HJ:e≠z:=λx=>by subst x;rw[z2]at vC;cases vC;simp at hce
  exact xx z2 (by simp) λg3 _ s3=>hE g3 e (λc o c1 _ c3 _ x=>s3.extBut _ _ c1 (s2 _ _ c3 (s1.extBut _ _ c1 x))) ⟨oe,s3.extBut _ _ HJ vC,hce⟩
 |some x=>
  have hy:ys[k]?=aC:=by rcases he with h|h;rw[hx]at h;cases h;exact h
  refine aJ (HE (h1.ex s1.extBut d3) (hl1.ex s1.extBut DY) hx λg2 y1 s2=>bC ?_);have t2:IsPair g2 TO p q:=s2.extBut _ _ d8 (s1.extBut _ _ d2 hTO);refine aJ (sV t2 rfl (aJ (wpAny_updateSeq_pair t2 λg3 t3 s3=>?_)));refine aJ (wpAny_letGo (bC (aJ (aJ (C8 ?_)))));show wpAny _ _ (Builtin.SmallTypes.nextOf (.ref i2) >>= _) _ _ _;refine aJ (z_end hA (((h2.ex s1.extBut d4).ex s2.extBut (fK AG)).ex s3.extBut (fK d9)) (((hl2.ex s1.extBut HF).ex s2.extBut HH).ex s3.extBut HG) hy λg4 e s4 hs=>?_);obtain⟨oe,vC,hce⟩:=hs;have z4:IsZip g4 z TI TO .ellipsis:=s4 _ _ (fK d4) (s3.extBut _ _ (fK d2) (s2.extBut _ _ (fK d3) z1));have HJ:e≠z:=λx=>by subst x;rw[z4]at vC;cases vC;simp at hce
  exact xx z4 (by simp) λg5 _ s5=>hE g5 e (λc o c1 c2 c3 c4 x=>s5.extBut _ _ c1 (s4 _ _ c4 (s3.extBut _ _ c2 (s2.extBut _ _ c3 (s1.extBut _ _ c1 x))))) ⟨oe,s5.extBut _ _ HJ vC,hce⟩
theorem Vd{b c:Bool}{z TI TO i1 i2 l1 l2:ah}{k:Nat}{xs ys:Array aa}{x y p q:aa}{Q:Option aa->af->Prop}(D:ZA z TI TO i1 i2 l1 l2)
 (hz:IsZip s.heap z TI TO .none) (hTI:IsPair s.heap TI (.ref i1) (.ref i2)) (hTO:IsPair s.heap TO p q)
 (h1:ZI b s.heap i1 l1 k) (h2:ZI c s.heap i2 l2 k) (hl1:ZS b s.heap l1 xs) (hl2:ZS c s.heap l2 ys) (hx:xs[k]?=aB x) (hy:ys[k]?=aB y)
 (hQ:∀h',IsZip h' z TI TO (rawInt s.heap.objs.size)->IsPair h' TO x y->ZI b h' i1 l1 (k+1)->ZI c h' i2 l2 (k+1)->IsPair h' s.heap.objs.size x y->h'.objs.size=s.heap.objs.size+1->
   (∀c o,c≠z->c≠TO->c≠i1->c≠i2->s.heap.get? c=aB o->h'.get? c=aB o)->Q (aB (.ref s.heap.objs.size)) {s with heap:=h'}):wpAny (model prog w) A (pyNext (.ref z)) Q E s:=by
 have hT:s.TypeIs (.ref z) "zip":=⟨_,hz,rfl⟩
 unfold pyNext;exact aJ (wpAny_attempt (xw (name:=Str.ofString "__next__") hT Du (uL Du hT F.entry_zip_next (U6 D hz hTI hTO h1 h2 hl1 hl2 hx hy λh' a1 a2 a3 a4 a5 a6 a7=>bC (hQ h' a1 a2 a3 a4 a5 a6 a7)) (F.args_zip_next_1 _))))
theorem Ve{b c:Bool}{z TI TO i1 i2 l1 l2:ah}{k:Nat}{xs ys:Array aa}{p q:aa}{Q:Option aa->af->Prop}(hA:A.in1.handled=aC)(D:ZA z TI TO i1 i2 l1 l2)
 (hz:IsZip s.heap z TI TO .none) (hTI:IsPair s.heap TI (.ref i1) (.ref i2)) (hTO:IsPair s.heap TO p q)
 (h1:ZI b s.heap i1 l1 k) (h2:ZI c s.heap i2 l2 k) (hl1:ZS b s.heap l1 xs) (hl2:ZS c s.heap l2 ys) (he:xs[k]?=aC\/ys[k]?=aC)
 (hQ:∀h',(∀c o,c≠z->c≠TO->c≠i1->c≠i2->s.heap.get? c=aB o->h'.get? c=aB o)->Q aC {s with heap:=h'}):wpAny (model prog w) A (pyNext (.ref z)) Q E s:=by
 have hT:s.TypeIs (.ref z) "zip":=⟨_,hz,rfl⟩
 unfold pyNext;refine aJ (wpAny_attempt (xw (name:=Str.ofString "__next__") hT Du (uL Du hT F.entry_zip_next (Vc hA D hz hTI hTO h1 h2 hl1 hl2 he λh' e hk hs=>?_) (F.args_zip_next_1 _))));obtain⟨o,ho,hc⟩:=hs;exact aJ (wpAny_isInstance (T:="StopIteration") (b:=true) ⟨o,ho,hc⟩ isSubtype_stop (bC (hQ _ hk)))
noncomputable def Ea(h:az)(b:Bool)(l1:ah):az:=h.push (DX b l1)
noncomputable def AH(h:az)(b c:Bool)(l1 l2:ah):az:=(Ea h b l1).push (DX c l2)
noncomputable def AI(h:az)(b c:Bool)(l1 l2:ah):az:=(AH h b c l1 l2).push {cls:=.type "tuple",data:=.seq #[.ref h.objs.size,.ref (Ea h b l1).objs.size]}
noncomputable def AJ(h:az)(b c:Bool)(l1 l2:ah):az:=(AI h b c l1 l2).push {cls:=.type "tuple",data:=.seq #[.none,.none]}
noncomputable def tP(h:az)(b c:Bool)(l1 l2:ah):az:=(AJ h b c l1 l2).push {cls:=.type "zip",data:=.fields #[.none,.bool false,.bool false,.ref (AH h b c l1 l2).objs.size,.ref (AI h b c l1 l2).objs.size]}
theorem Vf(b c:Bool)(l1 l2:ah)(xs ys:Array aa):Meets (Builtin.«zip.__new__» ⟨[.type "zip",.ref l1,.ref l2],[]⟩) (λ_ R s=>ZS b s.heap l1 xs/\ZS c s.heap l2 ys/\
 R (.ok (.ret (.ref (AJ s.heap b c l1 l2).objs.size))) {s with heap:=tP s.heap b c l1 l2}):=
 .of_wp λprog w A R s h=>by
  obtain⟨hp,g,d,tk,os⟩:=s;obtain⟨m1,m2,h⟩:=h;have hsub:=sub_zip;have e1:ZS b (Shared.heap ⟨hp,g,d,tk,os⟩) l1 xs:=m1;have e2:ZS c (Shared.heap ⟨hp.push (DX b l1),g,d,tk,os⟩) l2 ys:=m2.push _;cases b<;>cases c;have q1:Heap.IsList (Shared.heap ⟨hp,g,d,tk,os⟩) l1 xs:=e1;have q2:Heap.IsList (Shared.heap ⟨hp.push {cls:=.type "list_iterator",data:=.fields #[.ref l1,.int 0 0]},g,d,tk,os⟩) l2 ys:=e2
  wp_walk using xy q1,xy q2;exact⟨_,rfl,h⟩;have q1:Heap.IsList (Shared.heap ⟨hp,g,d,tk,os⟩) l1 xs:=e1;have q2:Heap.IsTuple (Shared.heap ⟨hp.push {cls:=.type "list_iterator",data:=.fields #[.ref l1,.int 0 0]},g,d,tk,os⟩) l2 ys:=e2
  wp_walk using xy q1,uK q2;exact⟨_,rfl,h⟩;have q1:Heap.IsTuple (Shared.heap ⟨hp,g,d,tk,os⟩) l1 xs:=e1;have q2:Heap.IsList (Shared.heap ⟨hp.push {cls:=.type "tuple_iterator",data:=.fields #[.ref l1,.int 0 0]},g,d,tk,os⟩) l2 ys:=e2
  wp_walk using uK q1,xy q2;exact⟨_,rfl,h⟩;have q1:Heap.IsTuple (Shared.heap ⟨hp,g,d,tk,os⟩) l1 xs:=e1;have q2:Heap.IsTuple (Shared.heap ⟨hp.push {cls:=.type "tuple_iterator",data:=.fields #[.ref l1,.int 0 0]},g,d,tk,os⟩) l2 ys:=e2
  wp_walk using uK q1,uK q2;exact⟨_,rfl,h⟩
theorem ND{b:Bool}{h:az}{l:ah}{a:ah}(e:h.get? a=aB (DX b l)):ZI b h a l 0:=by cases b<;>exact⟨_,e,rfl,rfl⟩
theorem Vg{b c:Bool}{l1 l2:ah}{xs ys:Array aa}{Q:aa->af->Prop}(m1:ZS b s.heap l1 xs)(m2:ZS c s.heap l2 ys)
 (h:∀h',IsZip h' (s.heap.objs.size+4) (s.heap.objs.size+2) (s.heap.objs.size+3) .none->IsPair h' (s.heap.objs.size+2) (.ref s.heap.objs.size) (.ref (s.heap.objs.size+1))->
   IsPair h' (s.heap.objs.size+3) .none .none->ZI b h' s.heap.objs.size l1 0->ZI c h' (s.heap.objs.size+1) l2 0->h'.objs.size=s.heap.objs.size+5->
   (∀c o,s.heap.get? c=aB o->h'.get? c=aB o)->Q (.ref (s.heap.objs.size+4)) {s with heap:=h'}):wpAny (model prog w) A (call (.type "zip") [.ref l1,.ref l2]) Q E s:=by
 refine callType_new F.called_zip (by decide) (F.typeCall_zip_2 _ _) (F.newCall_zip_2 _ _) (λobj=>F.args_object_init_3 obj _ _) F.entry_zip_new (Vf b c l1 l2 xs ys) ⟨m1,m2,?_⟩;have n1:(Ea s.heap b l1).objs.size=s.heap.objs.size+1:=ji ..;have n2:(AH s.heap b c l1 l2).objs.size=s.heap.objs.size+2:=by unfold AH;rw[ji,n1]
 have n3:(AI s.heap b c l1 l2).objs.size=s.heap.objs.size+3:=by unfold AI;rw[ji,n2]
 have n4:(AJ s.heap b c l1 l2).objs.size=s.heap.objs.size+4:=by unfold AJ;rw[ji,n3]
 have n5:(tP s.heap b c l1 l2).objs.size=s.heap.objs.size+5:=by unfold tP;rw[ji,n4]
 have g5:(tP s.heap b c l1 l2).get? (AJ s.heap b c l1 l2).objs.size=aB _:=iw _ rfl;have g4:(tP s.heap b c l1 l2).get? (AI s.heap b c l1 l2).objs.size=aB _:=cA _ (iw _ rfl);have g3:(tP s.heap b c l1 l2).get? (AH s.heap b c l1 l2).objs.size=aB _:=cA _ (cA _ (iw _ rfl));have g2:(tP s.heap b c l1 l2).get? (Ea s.heap b l1).objs.size=aB _:=cA _ (cA _ (cA _ (iw _ rfl)));have g1:(tP s.heap b c l1 l2).get? s.heap.objs.size=aB _:=cA _ (cA _ (cA _ (cA _ (iw _ rfl))));show _/\_;rw[n2,n3,n4]at g5;rw[n1,n2]at g3;rw[n3]at g4;rw[n1]at g2;rw[n4];exact⟨⟨_,g5,rfl⟩,h _ g5 g3 g4 (ND g1) (ND g2) n5 λc o x=>cA _ (cA _ (cA _ (cA _ (cA _ x))))⟩
end
noncomputable def lU(b:Bool)(K:aH)(H:Hp)(a:ah)(xs:List V):Prop:=match b with|true=>bW K H a xs|false=>cH K H a xs
theorem ya{b:Bool}{X:Cx}{pins:List (ah×Obj)}{σ:St}{H:Hp}{s:af}{a:ah}{xs:List V}(I:Inv X pins σ H s)(h:lU b X.K H a xs):∃its:List aa,Vals xs its/\ZS b s.heap a its.toArray/\xs.length<=sizeLine:=by cases b;obtain⟨its,r,p,z⟩:=I.list h;exact⟨its,r,p.isList,z⟩;exact I.tuple h
theorem NF{b:Bool}{X:Cx}{pins:List (ah×Obj)}{σ:St}{H:Hp}{s:af}{a:ah}{xs ys:List V}(I:Inv X pins σ H s)(h:lU b X.K H a xs)(h':lU b X.K H a ys):xs=ys:=by cases b;exact I.jl h h';exact I.fW h h'
noncomputable def vD(K:aH)(b c:Bool)(a1 a2:ah):It:=
 ⟨λi H=>∃xs ys x y,lU b K H a1 xs/\lU c K H a2 ys/\xs[i]?=aB x/\ys[i]?=aB y,
  λi H v H'=>∃T x y,v=.ref T/\H T=aC/\H'=upd H T (.tup [x,y])/\(∀xs,lU b K H a1 xs->xs[i]?=aB x)/\∀ys,lU c K H a2 ys->ys[i]?=aB y,
  λi H=>∃xs ys,lU b K H a1 xs/\lU c K H a2 ys/\(xs.length<=i\/ys.length<=i)⟩
theorem Inv.qH{X:Cx}{pins:List (ah×Obj)}{σ:St}{H:Hp}{s:af}{h2:az}{t':Nat}{fp:List ah}(I:Inv X pins σ H s)(hf:∀b∈fp,dQ X pins H b)(kk:∀b o,b∉fp->s.heap.get? b=aB o->h2.get? b=aB o) :
 Inv X pins σ H {s with heap:=h2,toks:=t'}:=by
 have f0:=λb hb=>(hf b hb).1;have nE:∀b o,H b=aB o->b∉fp:=λb o q z=>by rw[f0 b z]at q;cases q
 refine I.step (g':=s.gens) (d':=s.drawn) (ch:=fp) (λb hb=>?_) (λb o _ _ hc e1 _=>kk b o hc e1) (λb o _ _ hc e1 _=>⟨o.slots,kk b o hc e1⟩) (λ_ _ _ _ n=>n) (λb o hc e1=>⟨o,kk b o hc e1⟩)
  (λ_ _ q=>q) (λ_ _ _ q=>q) (λb ps q=>⟨#[],by rw[q];simp⟩) (λm hm=>?_) (λb ob q=>?_) I.bare
 obtain⟨_,a1,a2,a3,a4,a5⟩:=hf b hb;exact⟨a3,a1,a4,a5⟩;obtain⟨o,es,ep,ho',r⟩:=hm;exact⟨o,es,ep,kk _ o (λz=>(hf _ z).2.1 rfl) ho',r⟩;refine(I.hok b ob q).stay (λc v hc z=>kk c v ?_ z) (λ_ z=>z) λ_ _ z=>z;rcases hc with rfl|hc;exact nE c ob q;exact nE c _ hc
theorem Inv.qI{X:Cx}{pins:List (ah×Obj)}{σ:St}{H:Hp}{s:af}{h2:az}{fp:List ah}{xs:List V}{us:List aa}(I:Inv X pins σ H s)(hf:∀b∈fp,dQ X pins H b)(kk:∀b o,b∉fp->s.heap.get? b=aB o->h2.get? b=aB o)
 (hT:h2.get? s.heap.objs.size=aB {cls:=.type "tuple",data:=.seq us.toArray}) (hv:Vals xs us) (hz:xs.length<=sizeLine):Inv X pins σ (upd H s.heap.objs.size (.tup xs)) {s with heap:=h2}:=by
 have kK:H s.heap.objs.size=aC:=I.hok.fresh (aR _);have f0:=λb hb=>(hf b hb).1;have nE:∀b o,H b=aB o->b∉fp:=λb o q z=>by rw[f0 b z]at q;cases q
 refine I.step (g':=s.gens) (d':=s.drawn) (ch:=fp) (λb hb=>?_) (λb o _ _ hc e1 _=>kk b o hc e1) (λb o _ _ hc e1 _=>⟨o.slots,kk b o hc e1⟩) (λb o hc e1 n=>by rw[bV (fL (cJ e1))];exact n) (λb o hc e1=>⟨o,kk b o hc e1⟩)
  (λb ys q=>by rw[bV (gG q kK)];exact q) (λb o u q=>by rw[bV (gG q kK)];exact q) (λb ps q=>⟨#[],by rw[bV (gG q kK),q];simp⟩) (λm hm=>?_) (λb ob q=>?_) I.bare
 obtain⟨_,a1,a2,a3,a4,a5⟩:=hf b hb;exact⟨a3,a1,a4,a5⟩;obtain⟨o,es,ep,ho',r⟩:=hm;exact⟨o,es,ep,kk _ o (λz=>(hf _ z).2.1 rfl) ho',r⟩;by_cases hb:b=s.heap.objs.size;subst hb;rw[iu]at q;cases q;exact⟨hz,us,hv,⟨_,hT,rfl,⟨_,rfl⟩,rfl⟩⟩;rw[bV hb]at q;refine(I.hok b ob q).stay (λc v hc z=>kk c v ?_ z) (λc z=>by rw[bV (gG z kK)];exact z) λc ys z=>by rw[bV (gG z kK)];exact z
 rcases hc with rfl|hc;exact nE c ob q;exact nE c _ hc
theorem Vh{P:ai}{w:aj}{K:aH}{elts:List ao}{kx:Nat}{tp:Pos}{b c:Bool}(a1 a2 z TI TO i1 i2:ah)(D:ZA z TI TO i1 i2 a1 a2) :
 Turn P w K (.Tuple elts kx tp) (vD K b c a1 a2) [z,TI,TO,i1,i2] z (λi h=>IsZip h z TI TO .none/\IsPair h TI (.ref i1) (.ref i2)/\(∃p q,IsPair h TO p q)/\ZI b h i1 a1 i/\ZI c h i2 a2 i)where
 mem:=by simp
 obj:=λi h st d hd=>by
  obtain⟨hz,hTI,⟨p,q,hTO⟩,h1,h2⟩:=st;simp only[fm,yY,or_false]at hd;rcases hd with rfl|rfl|rfl|rfl|rfl;exact⟨_,hz,λv z=>by
   have z':Data.fields _=Data.cell v:=z;cases z'⟩
  exact⟨_,hTI,λv z=>by
   have z':Data.seq _ _=Data.cell v:=z;cases z'⟩
  exact⟨_,hTO,λv z=>by
   have z':Data.seq _ _=Data.cell v:=z;cases z'⟩
  exact h1.ob;exact h2.ob
 keep:=λi h h' st k=>by
  obtain⟨hz,hTI,⟨p,q,hTO⟩,h1,h2⟩:=st;exact⟨k z (by simp) _ hz,k TI (by simp) _ hTI,⟨p,q,k TO (by simp) _ hTO⟩,h1.mv λo e=>k i1 (by simp) o e,h2.mv λo e=>k i2 (by simp) o e⟩
 item:=by
  intro X hP hw hK hc i pins s σ H E I hf st hg;subst hP hw hK;obtain⟨xs,ys,x,y,q1,q2,hx,hy⟩:=hg;obtain⟨hz,hTI,⟨p,q,hTO⟩,h1,h2⟩:=st;obtain⟨its,rv,m1,_⟩:=ya I q1;obtain⟨NG,rw',m2,_⟩:=ya I q2;obtain⟨u,hu,ru⟩:=rv.get hx;obtain⟨v,hv,Vi⟩:=rw'.get hy;refine Vd D hz hTI hTO h1 h2 m1 m2 (x:=u) (y:=v) (by simpa using hu) (by simpa using hv) λg b1 b2 b3 b4 b5 b6 b7=>⟨_,rfl,wpAny_letOwnedTupleGo_zip b1 λg2 c1 c2=>?_⟩
  obtain⟨⟨d1,d2,d3,d4⟩,⟨d5,d6,d7,d8,d9,AG⟩,_,_⟩:=D;have c2:Heap.SameBut z g g2:=c2;have DZ:s.heap.objs.size≠z:=ku (cJ hz);have kk:∀d o,d∉[z,TI,TO,i1,i2]->s.heap.get? d=aB o->g2.get? d=aB o:=λd o hd e=>(c2.2 d λx=>hd (by simp[x])).trans (b7 d o (λx=>hd (by simp[x])) (λx=>hd (by simp[x])) (λx=>hd (by simp[x])) (λx=>hd (by simp[x])) e);have hT:g2.get? s.heap.objs.size=aB {cls:=.type "tuple",data:=.seq [u,v].toArray}:=(c2.2 _ DZ).trans b5;have I2:=Inv.qI (xs:=[x,y]) I hf kk hT (.cons ru (.cons Vi .nil)) (by show 2<=sizeLine;decide);have kK:H s.heap.objs.size=aC:=I.hok.fresh (aR _);refine⟨.ref s.heap.objs.size,_,I2,rfl,⟨_,x,y,rfl,kK,rfl,λzs hzs=>by rw[NF I hzs q1];exact hx,λzs hzs=>by rw[NF I hzs q2];exact hy⟩,
   ⟨c1,(c2.2 TI d1).trans (b7 TI _ d1 d5 d6 d7 hTI),⟨u,v,(c2.2 TO d2).trans b2⟩,b3.mv λo e=>(c2.2 i1 d3).trans e,b4.mv λo e=>(c2.2 i2 d4).trans e⟩,λd hd=>?_⟩
  rw[bV ?_];exact(hf d hd).1;intro e;obtain⟨o,ho⟩:∃o,s.heap.get? d=aB o:=by
   simp only[fm,yY,or_false]at hd;rcases hd with rfl|rfl|rfl|rfl|rfl
   exact⟨_,hz⟩;exact⟨_,hTI⟩;exact⟨_,hTO⟩;exact let⟨o,h,_⟩:=h1.ob;⟨o,h⟩;exact let⟨o,h,_⟩:=h2.ob;⟨o,h⟩
  exact fL (cJ ho) e
 done:=by intro X hP hw hK hc i pins s σ H E I hf st hg;subst hP hw hK;obtain⟨xs,ys,q1,q2,hl⟩:=hg;obtain⟨hz,hTI,⟨p,q,hTO⟩,h1,h2⟩:=st;obtain⟨its,rv,m1,_⟩:=ya I q1;obtain⟨NG,rw',m2,_⟩:=ya I q2;have l1:=rv.length;have l2:=rw'.length;exact Ve (I.ok.hd hc) D hz hTI hTO h1 h2 m1 m2 (hl.imp (λh=>by simp;lia) λh=>by simp;lia) λg hk=>⟨rfl,Inv.qH (t':=s.toks) I hf λd o hd e=>hk d o (λx=>hd (by simp[x])) (λx=>hd (by simp[x])) (λx=>hd (by simp[x])) (λx=>hd (by simp[x])) e⟩
 self:=λ_ _ _ _ _ st h=>wpAny_pyIter_zip st.1 h
theorem Vj{bs:List Bool}{its:List aa}(r:Vals (bs.map .bl) its)(i:Nat){v:aa}(h:its[i]?=aB v):∃b,bs[i]?=aB b/\v=.bool b:=by have hl:=r.length;rw[bJ]at hl;obtain⟨hi,_⟩:=kB.mp h;have hb:bs[i]?=aB bs[i]:=ig (by lia);obtain⟨u,hu,ru⟩:=r.get (i:=i) (x:=.bl bs[i]) (by rw[jb,hb];rfl);rw[h]at hu;cases hu;exact⟨_,hb,ru⟩
theorem Vk(bs:List Bool):((List.range bs.length).all λi=>(bs[i]?).getD true)=bs.all id:=by rw[Bool.eq_iff_iff,lJ,lJ];refine⟨λh b hb=>?_,λh i hi=>?_⟩;obtain⟨i,hi,rfl⟩:=yW hb;have:=h i (uQ.mpr hi);rw[ig hi]at this;exact this;have hi':=uQ.mp hi;rw[ig hi'];exact h _ (ir hi')
section
variable{X:Cx}
theorem Vl(hc:X.calm):bS X (.builtin "all") (λxs H Q=>∃(p:ah) (bs:List Bool),xs=[.ref p]/\cH X.K H p (bs.map .bl)/\Q (.bl (bs.all id)) H):=by
 intro pins s σ H xs us Q I r h;obtain⟨p,bs,rfl,hq,q⟩:=h;obtain⟨u,rfl,ru⟩:=vals1 r;cases ru;obtain⟨its,rv,pl,hz⟩:=I.list hq;have hL:s.heap.IsList p its.toArray:=pl.isList;have hlt:p<s.heap.objs.size:=by obtain⟨_,e,_⟩:=hL;exact cJ e
 have hd:X.A.in1.handled=aC:=I.ok.hd hc;have hlen:its.toArray.size=bs.length:=by rw[cQ,<-rv.length,bJ]
 refine call_all_walk (xy hL ⟨s.heap.objs.size,[s.heap.objs.size,p],[s.heap.objs.size],its.toArray.size,_,_,λi=>(bs[i]?).getD true,rfl,Walks.list (A:=X.A.in1) hd _ p (fL hlt) its.toArray,?_,?_,?_⟩);exact⟨⟨_,iw _ rfl,rfl,rfl⟩,hL.push _⟩;intro i v s' Q' E' hP hQ;obtain⟨b,e,rfl⟩:=Vj rv i (by simpa using hP);simp only[e,zf]at hQ;exact pU hQ;intro h' tk hk;rw[hlen,Vk];refine⟨.bl (bs.all id),H,I.kept (t':=tk) λb o e=>hk b o (λhm=>?_) (cA _ e),rfl,q⟩;rw[mS.mp hm]at e;exact jg _ (cJ e)
end
noncomputable def tQ(e tg iter:ao)(ifs:List ao)(it acc:aa)(env:Env)(emit:Sem Unit):Sem Fin:=do
 standAt iter.pos
 match <-pyNext it with
 |none=>pure (.done .next)
 |some v=>
  letOwnedTupleGo tg it v
  assign tg env v
  let ok <-x9 ifs env
  if ok then emit
  again (.compLoop e 1 it acc env)
noncomputable def kP(elt:ao):aa->Env->Sem Unit:=λacc env=>do let _ <-call (.builtin "list.append") [acc,<-eval elt env]
noncomputable def jt(e bw:ao):aa->Env->Sem Unit:=λacc env=>do
 let x <-eval bw env
 standAt bw.pos
 let x <-foldedSetIterable bw env x
 let _ <-runOwn (.compStart e 1 (<-holding [x] (pyIter x)) acc env) env
section
variable{prog:ai}{w:aj}{A:ak}{R:Result->af->Prop}{s:af}{elt j9 cK tg iter:ao}{fB ifs:List ao}{scope:ay}{pos:Pos}{it acc:aa}{env:Env}
theorem Vm(I:Nat->af->Prop)
 (turn:∀n s,I n s->wpAny (model prog w) A (pyNext it) (λr s₁=>match r with
   |none=>R (.ok .next) s₁
   |some v=>wpAny (model prog w) A (letOwnedTupleGo tg it v) (λ_ s₀=>wpAny (model prog w) A (assign tg env v) (λ_ s₂=>
    wpAny (model prog w) A (x9 ifs env) (λok s₃=>
     if ok=true then wpAny (model prog w) A (kP elt acc env) (λ_ s₅=>∃m,m<n/\I m s₅) gw s₃
     else ∃m,m<n/\I m s₃) gw s₂) gw s₀) gw s₁) gw s)
 (n:Nat) (h:I n s):codeAny (model prog w) A (.compLoop (.ListComp elt [⟨j9,cK,fB,0⟩,⟨tg,iter,ifs,0⟩] scope pos) 1 it acc env) R s:=by
 refine codeAny_loop rfl I (λn s hI=>?_) n h;rw[show(model prog w).den (.compLoop (.ListComp elt [⟨j9,cK,fB,0⟩,⟨tg,iter,ifs,0⟩] scope pos) 1 it acc env)=(tQ (.ListComp elt [⟨j9,cK,fB,0⟩,⟨tg,iter,ifs,0⟩] scope pos) tg iter ifs it acc env (kP elt acc env)).onRaise (λx=>do noteFrame x env;theTreesLotGoes x)from rfl,
  show A.under (.compLoop (.ListComp elt [⟨j9,cK,fB,0⟩,⟨tg,iter,ifs,0⟩] scope pos) 1 it acc env)=A from rfl]
 refine wpAny_noted (G0 ?_);unfold tQ;refine aJ (mQ (aJ (fS (turn n s hI) (λr s₁ h₁=>?_) λ_ _ z=>z)));cases r with
 |none=>exact bC h₁
 |some v=>
  refine aJ (fS h₁ (λ_ s₀ h₀=>?_) λ_ _ z=>z);refine aJ (fS h₀ (λ_ s₂ h₂=>aJ (fS h₂ (λok s₃ h₃=>?_) λ_ _ z=>z)) λ_ _ z=>z);cases ok with
  |true=>
   simp only[bX]at h₃ ⊢;exact aJ (fS h₃ (λ_ s₅ h₅=>bC ⟨rfl,h₅⟩) λ_ _ z=>z)
  |false=>
   simp only[dO,di]at h₃ ⊢;exact bC ⟨rfl,h₃⟩
theorem Vn(h0:codeAny (model prog w) A (.compLoop (.ListComp elt [⟨j9,cK,fB,0⟩,⟨tg,iter,ifs,0⟩] scope pos) 1 it acc env) R s)
 (h:wpAny (model prog w) A (pyIter it) (λj s'=>codeAny (model prog w) A (.compLoop (.ListComp elt [⟨j9,cK,fB,0⟩,⟨tg,iter,ifs,0⟩] scope pos) 1 j acc env) R s') (notedBy (model prog w) A env λx s'=>R (.error x) s') s) :
 codeAny (model prog w) A (.compStart (.ListComp elt [⟨j9,cK,fB,0⟩,⟨tg,iter,ifs,0⟩] scope pos) 1 it acc env) R s:=by
 refine codeAny_of_tree ?_;rw[show(model prog w).den (.compStart (.ListComp elt [⟨j9,cK,fB,0⟩,⟨tg,iter,ifs,0⟩] scope pos) 1 it acc env)=(compStart (.ListComp elt [⟨j9,cK,fB,0⟩,⟨tg,iter,ifs,0⟩] scope pos) 1 it acc env).onRaise (λx=>do noteFrame x env;standAt theWindowsPlace)from rfl,
  show A.under (.compStart (.ListComp elt [⟨j9,cK,fB,0⟩,⟨tg,iter,ifs,0⟩] scope pos) 1 it acc env)=A from rfl]
 refine wpAny_notedAt ?_;unfold compStart;rw[show(clausesOf (.ListComp elt [⟨j9,cK,fB,0⟩,⟨tg,iter,ifs,0⟩] scope pos))=[⟨j9,cK,fB,0⟩,⟨tg,iter,ifs,0⟩]from rfl];show wpAny _ _ (ask >>= _) _ _ s;refine aJ (wpAny_askSetting (xA ?_));split;first
  |exact aJ (bC (bC (And.intro rfl h0)))
  |exact bC (And.intro rfl h0)
 first
  |exact aJ (jW (aJ (mQ (aJ (fS h (λj s' h'=>bC ⟨rfl,h'⟩) λ_ _ z=>z)))))
  |(refine aJ (jW ?_);show wpAny _ _ (standAt iter.pos >>= _) _ _ s;exact aJ (mQ (aJ (fS h (λj s' h'=>bC ⟨rfl,h'⟩) λ_ _ z=>z))))
end
section
variable{X:Cx}{elt j9 cK tg iter:ao}{fB ifs:List ao}{scope:ay}{pos:Pos}{wi:TI}{g:TG}{tc:TT}{te:TE}
noncomputable def HK(te:TE)(D:ah):TM:=λσ H Q=>te σ H λy H1=>∃ys,H1 D=aB (.lst ys)/\ys.length<sizeLine/\Q σ (upd H1 D (.lst (ys++[y])))
theorem Vo(he:PE X elt te)(D:ah):PM X (kP elt (.ref D) X.env) (HK te D):=by intro pins s σ H Q I h;unfold kP;refine aJ (aY (he pins s σ H _ I h) λy s1 z9=>z9.el λvy H1 I1 ry bZ=>?_);obtain⟨ys,hD,hz,q⟩:=bZ;refine aJ (aY (GN _ s1 σ H1 (.ref D) [vy] (.ref D) [y] (λv H'=>H'=upd H1 D (.lst (ys++[vy]))) I1 rfl (.cons ry .nil) ⟨_,ys,vy,rfl,rfl,hD,hz,rfl⟩) λ_ s2 bZ=>?_);obtain⟨v2,H2,I2,_,e2⟩:=bZ;subst e2;exact bC ⟨σ,_,I2,q⟩
noncomputable def NH(wi:TI)(g:TG)(tc:TT)(tm:TM):TM:=λσ H Q=>wi σ H λJ H1=>∃W:Nat->Nat->St->Hp->Prop,(∃m,W 0 m σ H1)/\∀i m σ' H',W i m σ' H'->
 ((J.stop i H'/\Q σ' H')\/(J.go i H'/\∀x H2,J.vc i H' x H2->g x σ' H2 λσ2 H3=>tc σ2 H3 λb H4=>
   if b=true then tm σ2 H4 λjP H5=>∃m',m'<m/\W (i+1) m' jP H5
   else ∃m',m'<m/\W (i+1) m' σ2 H4))
theorem NI(hc:X.calm)(hx:X.xe=gw)(hi:PI X tg iter wi)(hg:PG X tg g)(ht:iH X ifs tc)(he:PE X elt te)(hs:∀x,foldedSetIterable iter X.env x=pure x)(D:ah) :
 PM X (jt (.ListComp elt [⟨j9,cK,fB,0⟩,⟨tg,iter,ifs,0⟩] scope pos) iter (.ref D) X.env) (NH wi g tc (HK te D)):=by
 intro pins s σ H Q I h;unfold jt;have q1:=hi pins s σ H _ I h;rw[hx]at q1 ⊢;refine aJ (aY q1 λv s1 h1=>aJ (mQ ?_));rw[hs];refine aJ (bC (aJ (mZ (aY h1 λitv s2 h2=>?_))));obtain⟨it,fp,tn,J,H2,e,I2,T,st2,f2,W,⟨m0,w0⟩,turn⟩:=h2;subst e;have j7:∀{H':Hp},(∀b∈fp,H' b=aC)->∀b∈fp,dQ X pins H' b:=λhn b hb=>⟨hn b hb,(f2 b hb).2⟩
 have loop:codeAny (model X.prog X.w) X.A (.compLoop (.ListComp elt [⟨j9,cK,fB,0⟩,⟨tg,iter,ifs,0⟩] scope pos) 1 (.ref it) (.ref D) X.env)
  (λr s'=>match r with|.ok f=>wpAny (model X.prog X.w) X.A (pure ()) (λ(_:Unit) s'=>∃σ' H',Inv X pins σ' H' s'/\Q σ' H') gw s'|.error e=>cameBackBy (model X.prog X.w) X.A X.env gw e s') s2:=by
  refine Vm (λn s'=>∃i σ' H',Inv X pins σ' H' s'/\tn i s'.heap/\(∀b∈fp,H' b=aC)/\W i n σ' H') ?_ m0 ⟨0,σ,H2,I2,st2,λb hb=>(f2 b hb).1,w0⟩;rintro n s3 ⟨i,σ3,H3,I3,st3,zP,w3⟩;rcases turn i n σ3 H3 w3 with⟨stop,qn⟩|⟨go,step⟩
  .refine aY (T.done X rfl rfl rfl hc i pins s3 σ3 H3 gw I3 (j7 zP) st3 stop) λr s4 bZ=>?_
   obtain⟨hr,I4⟩:=bZ;subst hr;exact bC ⟨σ3,H3,I4,qn⟩
  refine aY (T.item X rfl rfl rfl hc i pins s3 σ3 H3 gw I3 (j7 zP) st3 go) λr s4 bZ=>?_;obtain⟨u,hr,h4⟩:=bZ;subst hr;refine aY h4 λ_ s5 bZ=>?_;obtain⟨x,H5,I5,r5,y5,lO,ql⟩:=bZ;have Gy:=I5.pinned (j7 ql) (T.obj _ _ lO);have again:∀{jO:St}{H7:Hp}{s7:af}{m':Nat},Inv X (pins++ve fp s5.heap) jO H7 s7->m'<n->W (i+1) m' jO H7->∃m,m<n/\∃i σ' H',Inv X pins σ' H' s7/\tn i s7.heap/\(∀b∈fp,H' b=aC)/\W i m σ' H':=λ{jO H7 s7 m'} I7 hm w7=>by
   refine⟨m',hm,i+1,jO,H7,I7.dz,T.keep _ _ _ lO λb hb o e=>(I7.pin (b,o) (gK _ (gK _ (tF hb e)))).1,λb hb=>?_,w7⟩;obtain⟨o,e,d⟩:=T.obj _ _ lO b hb;exact(I7.pin (b,o) (gK _ (gK _ (tF hb e)))).2.1
  have q6:=hg _ s5 σ3 H5 x u _ Gy r5 (step x H5 y5);rw[hx]at q6;refine aY q6 λ_ s6 bZ=>?_;obtain⟨jd,H6,I6,q6⟩:=bZ;have q7:=ht _ s6 jd H6 _ I6 q6;rw[hx]at q7;refine aY q7 λok s7 z9=>z9.el λH7 I7 q7=>?_;cases ok with
  |false=>
   simp only[dO,di]at q7 ⊢;obtain⟨m',hm,w7⟩:=q7;exact again I7 hm w7
  |true=>
   simp only[bX]at q7 ⊢;have q8:=Vo he D _ s7 jd H7 _ I7 q7;rw[hx]at q8;exact aY q8 λ_ s8 ⟨jq,H8,I8,m',hm,w8⟩=>again I8 hm w8
 exact aJ (wpAny_runOwn (Vn loop (T.self _ 0 _ _ _ st2 loop)))
theorem Vp{bw fX:ao}{dg:List ao}(it acc:aa)(env:Env):compTurn (.ListComp elt [⟨tg,iter,ifs,0⟩,⟨fX,bw,dg,0⟩] scope pos) 0 it acc env=jr (.ListComp elt [⟨tg,iter,ifs,0⟩,⟨fX,bw,dg,0⟩] scope pos) tg iter ifs it acc env (jt (.ListComp elt [⟨tg,iter,ifs,0⟩,⟨fX,bw,dg,0⟩] scope pos) bw acc env):=by
 unfold compTurn jr jt;simp only[lH,sZ,mR,bne_self_eq_false,dO,di,reduceIte];congr 1;funext _;congr 1;funext r;cases r with
 |none=>rfl
 |some v=>
  dsimp only;congr 1;funext _;congr 1;funext _;congr 1;funext ok;cases ok;rfl;simp only[bX];simp only[LawfulMonad.bind_assoc,qe]
theorem NJ{P:ai}{w:aj}{bw fX:ao}{dg:List ao}:kO P w (.ListComp elt [⟨tg,iter,ifs,0⟩,⟨fX,bw,dg,0⟩] scope pos) tg iter ifs (jt (.ListComp elt [⟨tg,iter,ifs,0⟩,⟨fX,bw,dg,0⟩] scope pos) bw) (newList []) {cls:=.type "list",dict:=aC,data:=.seq ([]:List aa).toArray} (.lst [])where
 cl:=⟨_,rfl⟩
 turn:=Vp
 dl:=λ_ _ _=>rfl
 ds:=λ_ _ _=>rfl
 al:=λ_ _ _ _=>rfl
 as:=λ_ _ _ _=>rfl
 new:=λA s Q E q=>vcs q
 ok:=λH h hb=>⟨gu _,[],0,.nil,iw _ rfl⟩
end
noncomputable def HL{α:Type}:List α->List α|[]=>[]|[x]=>[x]|x::_::r=>x::HL r
theorem NK:∀{ls:List Int} {us:List aa},Vals (ls.map .int) us->IntsAre us ls|[],_,.nil=>.nil|x::r,_,.cons ⟨t,e⟩ h=>by subst e;exact .cons x t (NK h)
end L2
namespace KO
open PySem PySem.W PyProof.Rows
variable{r:Nat->Int}
noncomputable def J(r:Nat->Int)(p:Array Nat)(i:Nat):Int:=r ((p[i]?).getD 0)
theorem AK(p:Array Nat)(i:Nat):r (p.getD i 0)=J r p i:=by rw[xP];rfl
theorem tR{p q:Array Nat}{i j:Nat}(h:p[i]?=q[j]?):J r p i=J r q j:=by unfold J;rw[h]
theorem NL{p:Array Nat}{src d:Nat}(hs:src<p.size)(hd:d<=src)(k:Nat) :
 J r (bubble p src d) k=if k=src-d then J r p src else if src-d<k/\k<=src then J r p (k-1)else J r p k:=by
 have e:=getElem?_bubble hs d hd k;by_cases h1:k=src-d;rw[if_pos h1]at e ⊢;exact tR e;rw[if_neg h1]at e ⊢;by_cases h2:src-d<k/\k<=src;rw[if_pos h2]at e ⊢;exact tR e;rw[if_neg h2]at e ⊢;exact tR e
end KO
namespace KO
open PySem PySem.W PyProof.Rows
variable{r:Nat->Int}
variable{n:Nat}
end KO
namespace TS
open PySem PySem.W PyProof.Rows KO
structure Cp(prog:ai)(w:aj)(A:ak)(s:af)(κ:SortKind)(f:Nat->Keyed)(r:Nat->Int)(N:Nat):Prop where
 lt:∀(i j:Nat)(C:Bool->af->Prop),i<N->j<N->C (decide (r i<r j)) s->wpAny (model prog w) A (keyLt' κ (f i).1 (f j).1) C (λ_ _=>False) s
 inj:∀i j,i<N->j<N->r i=r j->i=j
noncomputable def St(κ:SortKind)(f:Nat->Keyed)(p:Array Nat)(pd:Array (Nat×Nat×Nat))(g:Nat):SortSt:=SortSt.mk' κ (p.map f) pd g aC
structure Pm(N:Nat)(p:Array Nat):Prop where
 z:p.size=N
 b:∀x∈p,x<N
 nd:p.toList.Nodup
theorem Pm.perm{N:Nat}{p q:Array Nat}(h:Pm N p)(e:q.Perm p):Pm N q:=
 ⟨by rw[e.size_eq];exact h.z,λx hx=>h.b x (e.mem_iff.mp hx),(Array.perm_iff_toList_perm.mp e).nodup_iff.mpr h.nd⟩
theorem Pm.lt{N:Nat}{p:Array Nat}(h:Pm N p){i:Nat}(hi:i<N):p.getD i 0<N:=by rw[xP,pB (by rw[h.z];exact hi)];exact h.b _ (Array.getElem_mem _)
theorem Pm.ne{N:Nat}{p:Array Nat}(h:Pm N p){i j:Nat}(hi:i<j)(hj:j<N):p.getD i 0≠p.getD j 0:=by
 have zi:i<p.size:=by rw[h.z];lia
 have zj:j<p.size:=by rw[h.z];exact hj
 rw[xP,xP,pB zi,pB zj];exact uN.mp h.nd i j (by simpa using zi) (by simpa using zj) hi
noncomputable def Ri(r:Nat->Int)(p:Array Nat)(a b:Nat):Prop:=∀i j,a<=i->i<=j->j<b->J r p i<=J r p j
noncomputable def Fa(r:Nat->Int)(p:Array Nat)(a b:Nat):Prop:=∀i j,a<=i->i<j->j<b->J r p j<J r p i
noncomputable def Ou(p q:Array Nat)(a b:Nat):Prop:=∀k,k<a\/b<=k->q[k]?=p[k]?
theorem Ou.refl{p:Array Nat}{a b:Nat}:Ou p p a b:=λ_ _=>rfl
theorem Ou.trans{p q u:Array Nat}{a b:Nat}(x:Ou p q a b)(y:Ou q u a b):Ou p u a b:=λk hk=>(y k hk).trans (x k hk)
theorem Ou.mono{p q:Array Nat}{a b a' b':Nat}(x:Ou p q a b)(h1:a'<=a)(h2:b<=b'):Ou p q a' b':=λk hk=>x k (by lia)
theorem Ri.out{r:Nat->Int}{p q:Array Nat}{a b c d:Nat}(h:Ri r p c d)(o:Ou p q a b)(hd:d<=a\/b<=c):Ri r q c d:=λi j h1 h2 h3=>by
 rw[tR (o i (by lia)),tR (o j (by lia))];exact h i j h1 h2 h3
theorem Ri.one{r:Nat->Int}{p:Array Nat}{a:Nat}:Ri r p a (a+1):=λi j h1 h2 h3=>by
 have:i=j:=by lia
 subst this;exact xO _
theorem Ri.succ{r:Nat->Int}{p:Array Nat}{a b:Nat}(h:Ri r p a b)(hb:a<b)(e:J r p (b-1)<=J r p b):Ri r p a (b+1):=λi j h1 h2 h3=>by
 by_cases x:j<b;exact h i j h1 h2 x;have:j=b:=by lia
 subst this;by_cases y:i=j;subst y;exact xO _;exact jL (h i (j-1) h1 (by lia) (by lia)) e
theorem Fa.succ{r:Nat->Int}{p:Array Nat}{a b:Nat}(h:Fa r p a b)(hb:a<b)(e:J r p b<J r p (b-1)):Fa r p a (b+1):=λi j h1 h2 h3=>by
 by_cases x:j<b;exact h i j h1 h2 x;have:j=b:=by lia
 subst this;by_cases y:i=j-1;subst y;exact e;exact Int.lt_trans e (h i (j-1) h1 (by lia) (by lia))
theorem tS{r:Nat->Int}{p:Array Nat}{i j:Nat}(hj:j<=p.size)(k:Nat):J r (mirror p i j ((j-i)/2)) k=if i<=k/\k<j then J r p (i+j-1-k)else J r p k:=by have e:=getElem?_mirror_all (i:=i) hj k;by_cases h1:i<=k/\k<j;rw[if_pos h1]at e ⊢;exact tR e;rw[if_neg h1]at e ⊢;exact tR e
theorem Vq{p:Array Nat}{i j:Nat}(hj:j<=p.size):Ou p (mirror p i j ((j-i)/2)) i j:=λk hk=>by
 rw[getElem?_mirror_all hj,if_neg (by lia)]
theorem Fa.Vr{r:Nat->Int}{p:Array Nat}{a b:Nat}(h:Fa r p a b)(hb:b<=p.size):Ri r (mirror p a b ((b-a)/2)) a b:=λi j h1 h2 h3=>by
 rw[tS hb,tS hb,if_pos ⟨h1,by lia⟩,if_pos ⟨by lia,h3⟩];by_cases e:i=j;subst e;exact xO _;exact ni (h _ _ (by lia) (by lia) (by lia))
theorem Vs{p:Array Nat}{src d:Nat}(hs:src<p.size)(hd:d<=src):Ou p (bubble p src d) (src-d) (src+1):=λk hk=>by
 rw[getElem?_bubble hs d hd,if_neg (by lia),if_neg (by lia)]
theorem Vt{r:Nat->Int}{p:Array Nat}{a k l:Nat}(hk:k<p.size)(h1:a<=l)(hl:l<=k)(hs:Ri r p a k)(lo:∀i,a<=i->i<l->J r p i<=J r p k)(hi:∀i,l<=i->i<k->J r p k<J r p i):Ri r (bubble p k (k-l)) a (k+1):=by
 intro i j ha hij hj;rw[NL hk (by lia),NL hk (by lia),show k- (k-l)=l by lia]
 repeat' split
 all_goals first
  |(exfalso;lia)
  |exact xO _
  |exact lo _ (by lia) (by lia)
  |exact ni (hi _ (by lia) (by lia))
  |exact hs _ _ (by lia) (by lia) (by lia)
section
variable{prog:ai}{w:aj}{A:ak}{E:aa->af->Prop}{s:af}{κ:SortKind}{f:Nat->Keyed}{r:Nat->Int}{N:Nat}
theorem ju(c:Cp prog w A s κ f r N){x y:Nat}(hx:x<N)(hy:y<N){st:SortSt}{Q:Option Bool->SortSt->Prop}(hk:kindOf st=κ)(h:Q (aB (decide (r x<r y))) st):wpS (model prog w) A E s (lt' (f x) (f y)) Q st:=by rw[lt'_eq];refine bg (nh ?_);rw[hk];refine bg (uT (wpAny_attempt (fS (c.lt x y (λb s'=>s'=s/\b=decide (r x<r y)) hx hy ⟨rfl,rfl⟩) (λb s' hb=>?_) λ_ _ e=>e.elim)));obtain⟨rfl,rfl⟩:=hb;exact⟨rfl,bz h⟩
theorem NN{p:Array Nat}{i:Nat}(hi:i<p.size):(p.map f)[i]?=aB (f (p.getD i 0)):=by rw[Array.getElem?_map,xP,pB hi];rfl
theorem iI(c:Cp prog w A s κ f r N){p:Array Nat}{pd:Array (Nat×Nat×Nat)}{g:Nat}(P:Pm N p){i j:Nat}(hi:i<N)(hj:j<N){Q:Option Bool->SortSt->Prop}(h:Q (aB (decide (J r p i<J r p j))) (St κ f p pd g)):wpS (model prog w) A E s (ltAt' i j) Q (St κ f p pd g):=by rw[ltAt'_eq];refine bg (nh ?_);show wpS _ _ _ _ (do let x <-elem' (p.map f) i;let y <-elem' (p.map f) j;lt' x y) Q _;rw[elem'_eq,elem'_eq,NN (by rw[P.z];exact hi),NN (by rw[P.z];exact hj)];refine bg (bz (bg (bz (ju c (P.lt hi) (P.lt hj) rfl ?_))));rw[AK (r:=r),AK (r:=r)];exact h
theorem Vu{p:Array Nat}{pd:Array (Nat×Nat×Nat)}{g i j:Nat}{Q:Unit->SortSt->Prop}(h:Q () (St κ f (mirror p i j ((j-i)/2)) pd g)):wpS (model prog w) A E s (reverseSlice' i j) Q (St κ f p pd g):=by rw[reverseSlice'_eq];refine xN ?_;have e:mirror (p.map f) i j ((j-i)/2)=(mirror p i j ((j-i)/2)).map f:=kas_swaps_map f (λk=>i+k) (λk=>j-1-k) _ p;show Q _ (SortSt.mk' κ (mirror (p.map f) i j ((j-i)/2)) pd g aC);rw[e];exact h
theorem Vv{p:Array Nat}{pd:Array (Nat×Nat×Nat)}{g k l:Nat}{Q:Unit->SortSt->Prop}(h:Q () (St κ f (bubble p k (k-l)) pd g)):wpS (model prog w) A E s (moveDown' k l) Q (St κ f p pd g):=by rw[moveDown'_eq];refine xN ?_;have e:bubble (p.map f) k (k-l)=(bubble p k (k-l)).map f:=kas_swaps_map f (λi=>k-i) (λi=>k-i-1) _ p;show Q _ (SortSt.mk' κ (bubble (p.map f) k (k-l)) pd g aC);rw[e];exact h
theorem Pm.rk(c:Cp prog w A s κ f r N){p:Array Nat}(P:Pm N p){i j:Nat}(hi:i<j)(hj:j<N):J r p i≠J r p j:=λe=>by
 rw[<-AK (r:=r),<-AK (r:=r)]at e;exact P.ne hi hj (c.inj _ _ (P.lt (by lia)) (P.lt hj) e)
theorem Vw(c:Cp prog w A s κ f r N){p:Array Nat}{pd:Array (Nat×Nat×Nat)}{g lo m:Nat}(P:Pm N p)(h1:1<=m)(hm:lo+m<=N){Q:Option Nat->SortSt->Prop}
 (h:∀n q,1<=n->n<=m->q.Perm p->Ou p q lo (lo+m)->Ri r q lo (lo+n)->Q (aB n) (St κ f q pd g)):wpS (model prog w) A E s (countRun' lo m) Q (St κ f p pd g):=by
 have zp:=P.z;rw[countRun'_eq];refine bg (jk (jj (I:=λx d st'=>st'=St κ f p pd g/\d=(aC,x)/\Ri r p lo (lo+x))
  (Q:=λd st'=>st'=St κ f p pd g/\∃n,d=(aC,n)/\1<=n/\n<=m/\Ri r p lo (lo+n)/\(n<m->J r p (lo+n)<J r p (lo+n-1))) ?step ?fin ⟨rfl,rfl,Ri.one⟩) ?post)
 case fin=>
  rintro d st' ⟨rfl,rfl,hs⟩;rw[show max 1 m=m by lia]at hs ⊢;exact⟨rfl,m,rfl,h1,aR _,hs,λz=>absurd z (jg _)⟩
 case step=>
  rintro x d st' hx NO ⟨rfl,rfl,hs⟩;dsimp only;refine bg (iI c P (by lia) (by lia) ?_);by_cases q:J r p (lo+x)<J r p (lo+x-1);rw[iE q];exact bz ⟨rfl,x,rfl,hx,by lia,hs,λ_=>q⟩;rw[gF q];exact bz ⟨rfl,rfl,hs.succ (by lia) (pA.mp q)⟩
 case post=>
  rintro d st' ⟨rfl,n,rfl,n1,nm,hs,hor⟩;dsimp only;by_cases e:n=m;rw[if_pos (by simpa using e)];exact bz (h n p n1 nm (xR _) .refl hs)
  .rw[if_neg (by simpa using e)]
   have hd:=hor (by lia);by_cases e2:n>1;rw[if_pos e2];refine bg (iI c P (by lia) (by lia) ?_);have a1:=hs lo (lo+n-1) (aR _) (by lia) (by lia);have a2:=P.rk c (i:=lo) (j:=lo+n-1) (by lia) (by lia);rw[iE (by lia)];exact bz (h n p n1 nm (xR _) .refl hs)
   .rw[if_neg e2]
    obtain rfl:n=1:=by lia
    refine bg (uT (jW ⟨rfl,?_⟩));have f0:Fa r p lo (lo+1):=λi j x y z=>by lia
    refine bg (jk (jj (I:=λx d st'=>st'=St κ f p pd g/\d=(aC,x,0)/\Fa r p lo (lo+x))
     (Q:=λd st'=>st'=St κ f p pd g/\∃n,d=(aC,n,0)/\1<=n/\n<=m/\Fa r p lo (lo+n)) ?AL ?HM ⟨rfl,rfl,f0.succ (by lia) hd⟩) ?dpost)
    case HM=>
     rintro d st' ⟨rfl,rfl,hs⟩;rw[show max (1+1) m=m by lia]at hs ⊢;exact⟨rfl,m,rfl,h1,aR _,hs⟩
    case AL=>
     rintro x d st' hx NO ⟨rfl,rfl,hs⟩;dsimp only;refine bg (iI c P (by lia) (by lia) ?_);by_cases q:J r p (lo+x)<J r p (lo+x-1);rw[iE q];exact bz ⟨rfl,rfl,hs.succ (by lia) q⟩;rw[gF q];refine bg (iI c P (by lia) (by lia) ?_);have a2:=P.rk c (i:=lo+x-1) (j:=lo+x) (by lia) (by lia);rw[iE (by lia)];exact bz ⟨rfl,x,rfl,by lia,by lia,hs⟩
    case dpost=>
     rintro d st' ⟨rfl,n,rfl,n1,nm,hs⟩;dsimp only;rw[if_neg (jg 0)];refine bg (Vu ?_);have hz:lo+n<=p.size:=by lia
     have P':=P.perm (mirror_perm p lo (lo+n) ((lo+n-lo)/2));have hr:=hs.Vr hz;have ho:Ou p (mirror p lo (lo+n) ((lo+n-lo)/2)) lo (lo+m):=(Vq hz).mono (aR _) (by lia);have hp:=mirror_perm p lo (lo+n) ((lo+n-lo)/2);generalize mirror p lo (lo+n) ((lo+n-lo)/2)=q at P' hr ho hp;refine bg (jk (jj (I:=λx d st'=>st'=St κ f q pd g/\d=(aC,x)/\Ri r q lo (lo+x))
      (Q:=λd st'=>st'=St κ f q pd g/\∃n,d=(aC,n)/\1<=n/\n<=m/\Ri r q lo (lo+n)) ?AM ?HN ⟨rfl,rfl,hr⟩) ?AN)
     case HN=>
      rintro d st' ⟨rfl,rfl,hs⟩;rw[show max n m=m by lia]at hs ⊢;exact⟨rfl,m,rfl,h1,aR _,hs⟩
     case AM=>
      rintro x d st' hx NO ⟨rfl,rfl,hs⟩;dsimp only;refine bg (iI c P' (by lia) (by lia) ?_);by_cases y:J r q (lo+x)<J r q (lo+x-1);rw[iE y];exact bz ⟨rfl,x,rfl,by lia,by lia,hs⟩;rw[gF y];exact bz ⟨rfl,rfl,hs.succ (by lia) (pA.mp y)⟩
     case AN=>
      rintro d st' ⟨rfl,n',rfl,n1,nm,hs⟩;exact bz (h n' q n1 nm hp ho hs)
theorem Vx(c:Cp prog w A s κ f r N){p:Array Nat}{pd:Array (Nat×Nat×Nat)}{g lo n ok:Nat}(P:Pm N p)(h1:1<=ok)(hn:ok<=n)(hm:lo+n<=N)(hs:Ri r p lo (lo+ok)){Q:Bool->SortSt->Prop}
 (h:∀q,q.Perm p->Ou p q lo (lo+n)->Ri r q lo (lo+n)->Q true (St κ f q pd g)):wpS (model prog w) A E s (binarySort' lo n ok) Q (St κ f p pd g):=by
 rw[binarySort'_eq];refine bg (jk (jj (I:=λk d st'=>d=(aC,())/\∃q,st'=St κ f q pd g/\q.Perm p/\Ou p q lo (lo+n)/\Ri r q lo (lo+k))
  (Q:=λd st'=>d=(aC,())/\∃q,st'=St κ f q pd g/\q.Perm p/\Ou p q lo (lo+n)/\Ri r q lo (lo+n)) ?step ?fin ⟨rfl,p,rfl,xR _,.refl,by rw[show max ok 1=ok by lia];exact hs⟩) ?post)
 case post=>
  rintro d st' ⟨rfl,q,rfl,h2,h3,h4⟩;exact bz (h q h2 h3 h4)
 case fin=>
  rintro d st' ⟨hc,q,rfl,h2,h3,h4⟩;rw[show max (max ok 1) n=n by lia]at h4;exact⟨hc,q,rfl,h2,h3,h4⟩
 case step=>
  rintro k d st' hk hkn ⟨rfl,q,rfl,h2,h3,h4⟩;have P':=P.perm h2;have zq:=P'.z;refine bg (jk (jj (I:=λx d st'=>st'=St κ f q pd g/\∃l h,d=(aC,l,h)/\l<=h/\h<=k/\h-l<=k-x/\(∀i,lo<=i->i<lo+l->J r q i<=J r q (lo+k))/\(∀i,lo+h<=i->i<lo+k->J r q (lo+k)<J r q i))
   (Q:=λd st'=>st'=St κ f q pd g/\∃l h,d=(aC,l,h)/\l<=k/\(∀i,lo<=i->i<lo+l->J r q i<=J r q (lo+k))/\(∀i,lo+l<=i->i<lo+k->J r q (lo+k)<J r q i)) ?jv ?nF ⟨rfl,0,k,rfl,gu _,aR _,by lia,λi a b=>by lia,λi a b=>by lia⟩) ?jw)
  case nF=>
   rintro d st' ⟨rfl,l,h,rfl,a,b,e,h5,h6⟩;obtain rfl:l=h:=by lia
   exact⟨rfl,l,l,rfl,b,h5,h6⟩
  case jv=>
   rintro x d st' _ hxk ⟨rfl,l,h,rfl,a,b,e,h5,h6⟩;dsimp only;by_cases ge:l>=h;rw[if_pos ge];obtain rfl:l=h:=by lia
   exact bz ⟨rfl,l,l,rfl,b,h5,h6⟩;rw[if_neg ge];refine bg (iI c P' (by lia) (by lia) ?_);by_cases y:J r q (lo+k)<J r q (lo+ (l+h)/2);simp only[y,C5,bX];exact bz ⟨rfl,l,(l+h)/2,rfl,by lia,by lia,by lia,h5,λi z1 z2=>Int.lt_of_lt_of_le y (h4 _ _ (by lia) z1 z2)⟩;simp only[y,decide_false,dO,di];exact bz ⟨rfl,(l+h)/2+1,h,rfl,by lia,by lia,by lia,λi z1 z2=>jL (h4 i (lo+ (l+h)/2) z1 (by lia) (by lia)) (pA.mp y),h6⟩
  case jw=>
   rintro d st' ⟨rfl,l,h,rfl,a,h5,h6⟩;show wpS _ _ _ _ (do moveDown' (lo+k) (lo+l);pure (ForInStep.yield (aC,()))) _ _;refine bg (Vv (bz ⟨rfl,_,rfl,(bubble_perm _ _ _).trans h2,h3.trans ((Vs (by lia) (by lia)).mono (by lia) (by lia)),?_⟩));rw[show lo+ (k+1)=lo+k+1 by lia];exact Vt (by lia) (by lia) (by lia) h4 h5 h6
end
end TS
namespace TS
open PySem PySem.W PyProof.Rows KO
noncomputable def iT:Bool->Keyed->Array Keyed->Nat->Nat->Nat->StateT SortSt Sem (Option Nat):=sortPriv% PySem.Builtin.gallop
noncomputable def qK(past:Nat->StateT SortSt Sem (Option Bool))(n u0 v0:Nat):StateT SortSt Sem (Option Nat):=do
 let mut u:=u0
 let mut v:=v0
 for _ in [0:n] do
  if u>=v then break
  let md:=u+ (v-u)/2
  let aB mr <-past md|return aC
  if mr then u:=md+1 else v:=md
 return aB v
noncomputable def vE(past:Nat->StateT SortSt Sem (Option Bool))(n hn:Nat):StateT SortSt Sem (Option Nat):=do
 let mut lst:=0
 let mut off:=1
 let aB yes <-past hn|return aC
 if yes then
  let top:=n-hn
  for _ in [0:n] do
   if off>=top then break
   let aB mr <-past (hn+off)|return aC
   if !mr then break
   lst:=off
   off:=2*off+1
  qK past n (hn+lst+1) (hn+min off top)
 else
  let top:=hn+1
  for _ in [0:n] do
   if off>=top then break
   let aB fd <-past (hn-off)|return aC
   if fd then break
   lst:=off
   off:=2*off+1
  qK past n (hn+1-min off top) (hn-lst)
theorem Vy(lf:Bool)(x:Keyed)(a:Array Keyed)(bs n hn:Nat):iT lf x a bs n hn=vE (λi=>do
 let y <-elem' a (bs+i)
 if lf then lt' y x else return (<-lt' x y).map (!·)) n hn:=rfl
section
variable{M:Model}{A:ak}{E:aa->af->Prop}{s:af}
theorem Vz{past:Nat->StateT SortSt Sem (Option Bool)}{B:Nat->Bool}{n hn k:Nat}{st:SortSt}{Q:Option Nat->SortSt->Prop}(hp:∀(i:Nat) (Q:Option Bool->SortSt->Prop),i<n->Q (aB (B i)) st->wpS M A E s (past i) Q st)
 (hk:k<=n) (h1:∀i,i<k->B i) (h2:∀i,k<=i->i<n->B i=false) (hh:hn<n) (h:Q (aB k) st):wpS M A E s (vE past n hn) Q st:=by
 have last:∀u v,u<=k->k<=v->v<=n->wpS M A E s (qK past n u v) Q st:=λu v hu hv hvn=>by
  unfold qK;refine bg (jk (jj (I:=λx d st'=>st'=st/\∃u v,d=(aC,u,v)/\u<=k/\k<=v/\v<=n/\v-u<=n-x)
   (Q:=λd st'=>st'=st/\∃u,d=(aC,u,k)) ?step ?fin ⟨rfl,u,v,rfl,hu,hv,hvn,by lia⟩) ?post)
  case fin=>
   rintro d st' ⟨rfl,u,v,rfl,a,b,e,g⟩;obtain rfl:v=k:=by lia
   exact⟨rfl,u,rfl⟩
  case step=>
   rintro x d st' _ hx ⟨rfl,u,v,rfl,a,b,e,g⟩;dsimp only;by_cases z:u>=v;rw[if_pos z];obtain rfl:v=k:=by lia
   exact bz ⟨rfl,u,rfl⟩;rw[if_neg z];refine bg (hp _ _ (by lia) ?_);by_cases y:u+ (v-u)/2<k;rw[h1 _ y];exact bz ⟨rfl,_,v,rfl,by lia,b,e,by lia⟩;rw[h2 _ (by lia) (by lia)];exact bz ⟨rfl,u,_,rfl,a,by lia,by lia,by lia⟩
  case post=>
   rintro d st' ⟨rfl,u,rfl⟩;exact bz h
 unfold vE;refine bg (hp _ _ hh ?_);by_cases y:hn<k
 .rw[h1 _ y]
  show wpS M A E s (if true=true then _ else _) Q st;rw[if_pos rfl];refine bg (jk (jj (I:=λx d st'=>st'=st/\∃l o,d=(aC,l,o)/\hn+l<k/\x+1<=o)
   (Q:=λd st'=>st'=st/\∃l o,d=(aC,l,o)/\hn+l<k/\(n-hn<=o\/k<=hn+o)) ?step ?fin ⟨rfl,0,1,rfl,y,aR _⟩) ?post)
  case fin=>
   rintro d st' ⟨rfl,l,o,rfl,a,b⟩;exact⟨rfl,l,o,rfl,a,.inl (by lia)⟩
  case step=>
   rintro x d st' _ hx ⟨rfl,l,o,rfl,a,b⟩;dsimp only;by_cases z:o>=n-hn;rw[if_pos z];exact bz ⟨rfl,l,o,rfl,a,.inl z⟩;rw[if_neg z];refine bg (hp _ _ (by lia) ?_);by_cases q:hn+o<k;rw[h1 _ q];exact bz ⟨rfl,o,2*o+1,rfl,q,by lia⟩;rw[h2 _ (by lia) (by lia)];exact bz ⟨rfl,l,o,rfl,a,.inr (by lia)⟩
  case post=>
   rintro d st' ⟨rfl,l,o,rfl,a,b⟩;exact last (hn+l+1) (hn+min o (n-hn)) (by lia) (by lia) (by lia)
 .rw[h2 _ (by lia) hh]
  show wpS M A E s (if false=true then _ else _) Q st;rw[if_neg (by simp)];refine bg (jk (jj (I:=λx d st'=>st'=st/\∃l o,d=(aC,l,o)/\k+l<=hn/\x+1<=o)
   (Q:=λd st'=>st'=st/\∃l o,d=(aC,l,o)/\k+l<=hn/\(hn+1<=o\/hn<k+o)) ?AO ?dS ⟨rfl,0,1,rfl,by lia,aR _⟩) ?AQ)
  case dS=>
   rintro d st' ⟨rfl,l,o,rfl,a,b⟩;exact⟨rfl,l,o,rfl,a,.inl (by lia)⟩
  case AO=>
   rintro x d st' _ hx ⟨rfl,l,o,rfl,a,b⟩;dsimp only;by_cases z:o>=hn+1;rw[if_pos z];exact bz ⟨rfl,l,o,rfl,a,.inl z⟩;rw[if_neg z];refine bg (hp _ _ (by lia) ?_);by_cases q:hn-o<k;rw[h1 _ q];exact bz ⟨rfl,l,o,rfl,a,.inr (by lia)⟩;rw[h2 _ (by lia) (by lia)];exact bz ⟨rfl,o,2*o+1,rfl,by lia,by lia⟩
  case AQ=>
   rintro d st' ⟨rfl,l,o,rfl,a,b⟩;exact last (hn+1-min o (hn+1)) (hn-l) (by lia) (by lia) (by lia)
end
end TS
namespace TS
open PySem PySem.W PyProof.Rows KO
noncomputable def ar(f:Nat->Keyed)(l:List Nat):Array Keyed:=(l.map f).toArray
noncomputable def So(r:Nat->Int)(l:List Nat):Prop:=l.Pairwise λa b=>r a<=r b
section
variable{f:Nat->Keyed}{r:Nat->Int}
theorem jx{l:List Nat}:(ar f l).size=l.length:=by simp[ar]
theorem AR{l:List Nat}{i:Nat}(hi:i<l.length):(ar f l)[i]?=aB (f l[i]):=by simp[ar,hi]
theorem AS{l:List Nat}{x:Nat}:(ar f l).push (f x)=ar f (l++[x]):=by simp[ar]
theorem nG{l m:List Nat}:ar f l++ar f m=ar f (l++m):=by simp[ar]
theorem pH{l:List Nat}{i j:Nat}:(ar f l).extract i j=ar f ((l.drop i).take (j-i)):=by simp[ar,List.extract_eq_take_drop]
theorem HP{l:List Nat}:(ar f l).reverse=ar f l.reverse:=by simp[ar]
theorem So.at_{l:List Nat}(h:So r l){i j:Nat}(hij:i<=j)(hj:j<l.length):r (l[i]'(by lia))<=r l[j]:=by by_cases e:i=j;subst e;exact xO _;exact uN.mp h i j (by lia) hj (by lia)
theorem So.drop{l:List Nat}(h:So r l)(k:Nat):So r (l.drop k):=List.Pairwise.sublist (List.drop_sublist _ _) h
theorem So.take{l:List Nat}(h:So r l)(k:Nat):So r (l.take k):=List.Pairwise.sublist (List.take_sublist _ _) h
theorem yb{l:List Nat}{k x:Nat}(h:x∈l.drop k):∃j,∃hj:j<l.length,k<=j/\l[j]=x:=by obtain⟨i,hi,e⟩:=yW h;rw[List.getElem_drop]at e;rw[jY]at hi;exact⟨k+i,by lia,by lia,e⟩
theorem Eb{l:List Nat}{k n x:Nat}(h:x∈(l.drop k).take n):∃j,∃hj:j<l.length,k<=j/\j<k+n/\l[j]=x:=by obtain⟨i,hi,e⟩:=yW h;rw[List.getElem_take,List.getElem_drop]at e;rw[jX,jY]at hi;exact⟨k+i,by lia,by lia,by lia,e⟩
structure MI(r:Nat->Int)(la lb lo:List Nat)(ia ib:Nat):Prop where
 pm:(lo++(la.drop ia++lb.drop ib)).Perm (la++lb)
 so:So r lo
 le:∀x∈lo,(∀y∈la.drop ia,r x<=r y)/\∀y∈lb.drop ib,r x<=r y
 ln:lo.length=ia+ib
theorem AU{l:List Nat}{i k:Nat}:l.drop i=(l.drop i).take k++l.drop (i+k):=by rw[<-List.drop_drop,List.take_append_drop]
theorem MI.nH{la lb lo:List Nat}{ia ib k:Nat}(h:MI r la lb lo ia ib)(sb:So r lb)(hk:ib+k<=lb.length)(hl:∀j (hj:j<lb.length),ib<=j->j<ib+k->∀y∈la.drop ia,r lb[j]<=r y):MI r la lb (lo++(lb.drop ib).take k) ia (ib+k):=by
 refine⟨?_,?_,?_,?_⟩;refine List.Perm.trans ?_ h.pm;rw[jc];refine xQ lo ?_;have e:la.drop ia++lb.drop ib=la.drop ia++(lb.drop ib).take k++lb.drop (ib+k):=by rw[jc,<-AU]
 rw[e,<-jc];exact Ds Di (pC _);refine m9.mpr ⟨h.so,(sb.drop ib).take k,λx hx y hy=>(h.le x hx).2 y (yV hy)⟩;intro x hx;rcases kD.mp hx with hx|hx
 exact⟨(h.le x hx).1,λy hy=>(h.le x hx).2 y (by rw[AU (k:=k)];exact gK _ hy)⟩;obtain⟨j,hj,h1,h2,rfl⟩:=Eb hx;refine⟨λy hy=>hl j hj h1 h2 y hy,λy hy=>?_⟩;obtain⟨i,hi,h3,rfl⟩:=yb hy;exact sb.at_ (by lia) hi;rw[eF,h.ln,jX,jY];lia
theorem MI.lV{la lb lo:List Nat}{ia ib k:Nat}(h:MI r la lb lo ia ib)(sa:So r la)(hk:ia+k<=la.length)(hl:∀j (hj:j<la.length),ia<=j->j<ia+k->∀y∈lb.drop ib,r la[j]<=r y):MI r la lb (lo++(la.drop ia).take k) (ia+k) ib:=by
 refine⟨?_,?_,?_,?_⟩;refine List.Perm.trans ?_ h.pm;rw[jc];refine xQ lo ?_;rw[<-jc,<-AU];refine m9.mpr ⟨h.so,(sa.drop ia).take k,λx hx y hy=>(h.le x hx).1 y (yV hy)⟩;intro x hx;rcases kD.mp hx with hx|hx
 exact⟨λy hy=>(h.le x hx).1 y (by rw[AU (k:=k)];exact gK _ hy),(h.le x hx).2⟩;obtain⟨j,hj,h1,h2,rfl⟩:=Eb hx;refine⟨λy hy=>?_,λy hy=>hl j hj h1 h2 y hy⟩;obtain⟨i,hi,h3,rfl⟩:=yb hy;exact sa.at_ (by lia) hi;rw[eF,h.ln,jX,jY];lia
theorem HQ{l:List Nat}{i:Nat}(hi:i<l.length):(l.drop i).take 1=[l[i]]:=by rw[o4 hi];rfl
noncomputable def Mg(f:Nat->Keyed)(r:Nat->Int)(la lb:List Nat)(x:Array Keyed):Prop:=∃l,x=ar f l/\l.Perm (la++lb)/\So r l
theorem MI.done{la lb lo:List Nat}{ia ib:Nat}(h:MI r la lb lo ia ib)(sa:So r la)(hb:ib=lb.length):Mg f r la lb (ar f lo++(ar f la).extract ia (ar f la).size++(ar f lb).extract ib (ar f lb).size):=by subst hb;have e:(la.drop ia).take (la.length-ia)=la.drop ia:=List.take_of_length_le (by rw[jY];exact aR _);refine⟨lo++la.drop ia,?_,?_,m9.mpr ⟨h.so,sa.drop ia,λx hx y hy=>(h.le x hx).1 y hy⟩⟩;rw[jx,jx,pH,pH,nG,nG,e,yZ,List.take_nil,kE];have:=h.pm;rw[yZ,kE]at this;exact this
theorem MI.last{la lb lo:List Nat}{ia ib:Nat}(h:MI r la lb lo ia ib)(sb:So r lb)(ha:ia+1=la.length)(hl:∀x∈lb,r x<=r (la[ia]'(by lia))):Mg f r la lb (ar f lo++(ar f lb).extract ib (ar f lb).size++(ar f la).extract ia (ar f la).size):=by
 have e:(la.drop ia).take (la.length-ia)=la.drop ia:=List.take_of_length_le (by rw[jY];exact aR _);have e2:(lb.drop ib).take (lb.length-ib)=lb.drop ib:=List.take_of_length_le (by rw[jY];exact aR _);have e3:la.drop ia=[la[ia]'(by lia)]:=by rw[o4 (by lia),show ia+1=la.length from ha,yZ]
 refine⟨lo++lb.drop ib++la.drop ia,?_,?_,?_⟩;rw[jx,jx,pH,pH,nG,nG,e,e2];refine List.Perm.trans ?_ h.pm;rw[jc];exact xQ lo Di;refine m9.mpr ⟨m9.mpr ⟨h.so,sb.drop ib,λx hx y hy=>(h.le x hx).2 y hy⟩,HR e3,λx hx y hy=>?_⟩;rcases kD.mp hx with hx|hx
 exact(h.le x hx).1 y hy;rw[e3]at hy;rw[mS.mp hy];exact hl x (List.mem_of_mem_drop hx)
where
 HR {l:List Nat} {x:Nat} (e:l=[x]):l.Pairwise (λa b=>r a<=r b):=by rw[e];exact Dh ..
end
end TS
namespace TS
open PySem PySem.W PyProof.Rows KO
theorem NP{B:Nat->Bool}:∀n,(∀i j,i<=j->j<n->B j=true->B i=true)->∃k,k<=n/\(∀i,i<k->B i=true)/\∀i,k<=i->i<n->B i=false
 |0,_=>⟨0,aR _,λi h=>by lia,λi _ h=>by lia⟩
 |n+1,m=>by
  cases e:B n with
  |true=>exact⟨n+1,aR _,λi h=>m i n (by lia) (by lia) e,λi _ h=>by lia⟩
  |false=>
   obtain⟨k,a,b,c⟩:=NP (B:=B) n λi j x y z=>m i j x (by lia) z;refine⟨k,by lia,b,λi x y=>?_⟩;by_cases z:i=n;subst z;exact e;exact c i x (by lia)
noncomputable def setG:Nat->StateT SortSt Sem Unit:=sortPriv% PySem.Builtin.setMinGallop
section
variable{prog:ai}{w:aj}{A:ak}{E:aa->af->Prop}{s:af}{κ:SortKind}{f:Nat->Keyed}{r:Nat->Int}{N:Nat}
theorem bN{l:List Nat}{i:Nat}{st:SortSt}{Q:Keyed->SortSt->Prop}(hi:i<l.length)(h:Q (f l[i]) st):wpS (model prog w) A E s (elem' (ar f l) i) Q st:=by rw[elem'_eq,AR hi];exact bz h
theorem Ec{p:Array Nat}{pd:Array (Nat×Nat×Nat)}{g g':Nat}{Q:Unit->SortSt->Prop}(h:Q () (St κ f p pd g')):wpS (model prog w) A E s (setG g') Q (St κ f p pd g):=xN (f:=λs=>SortSt.mk' (kindOf s) (arrOf s) (pendingOf s) g' (failedOf s)) h
noncomputable def Bf(r:Nat->Int)(lf:Bool)(x:Nat)(l:List Nat)(bs i:Nat):Bool:=if lf then decide (r (l.getD (bs+i) 0)<r x)else !decide (r x<r (l.getD (bs+i) 0))
theorem nI{l:List Nat}{i:Nat}(hi:i<l.length):l.getD i 0=l[i]:=by rw[yR,ig hi];rfl
theorem HS(c:Cp prog w A s κ f r N){l:List Nat}(bl:∀y∈l,y<N){x:Nat}(hx:x<N){lf:Bool}{bs n hn:Nat}(sl:∀i j,i<=j->j<n->r (l.getD (bs+i) 0)<=r (l.getD (bs+j) 0))(hb:bs+n<=l.length)(hh:hn<n){st:SortSt}(hk:kindOf st=κ){Q:Option Nat->SortSt->Prop}
 (h:∀k,k<=n->(∀i,i<k->Bf r lf x l bs i=true)->(∀i,k<=i->i<n->Bf r lf x l bs i=false)->Q (aB k) st):wpS (model prog w) A E s (iT lf (f x) (ar f l) bs n hn) Q st:=by
 obtain⟨k,k1,k2,k3⟩:=NP (B:=Bf r lf x l bs) n λi j a b e=>by
  have:=sl i j a b;unfold Bf at e ⊢;cases lf with
  |true=>
   simp only[bX,eE]at e ⊢;lia
  |false=>
   simp only[dO,di,sY,uJ]at e ⊢;lia
 rw[Vy];refine Vz (B:=Bf r lf x l bs) (λi Q hi hQ=>?_) k1 k2 k3 hh (h k k1 k2 k3);have hi':bs+i<l.length:=by lia
 refine bg (bN hi' ?_);unfold Bf at hQ;rw[nI hi']at hQ;have hy:l[bs+i]<N:=bl _ (ir _);cases lf with
 |true=>
  simp only[bX]at hQ ⊢;exact ju c hy hx hk hQ
 |false=>
  simp only[dO,di]at hQ ⊢;exact bg (ju c hx hy hk (bz hQ))
theorem Ed(c:Cp prog w A s κ f r N){l:List Nat}(bl:∀y∈l,y<N)(sl:So r l){x:Nat}(hx:x<N){lf:Bool}{bs n hn:Nat}(hb:bs+n<=l.length)(hh:hn<n){st:SortSt}(hk:kindOf st=κ){Q:Option Nat->SortSt->Prop}
 (h:∀k,k<=n->(∀i,i<k->Bf r lf x l bs i=true)->(∀i,k<=i->i<n->Bf r lf x l bs i=false)->Q (aB k) st):wpS (model prog w) A E s (iT lf (f x) (ar f l) bs n hn) Q st:=
 HS c bl hx (λi j a b=>by rw[nI (l:=l) (i:=bs+i) (by lia),nI (l:=l) (i:=bs+j) (by lia)];exact sl.at_ (by lia) (by lia)) hb hh hk h
end
noncomputable abbrev Arr:=Array Keyed
noncomputable abbrev SS:=StateT SortSt Sem
noncomputable abbrev qL:=Option Arr×Arr×Nat×Nat×Nat×Nat×Nat
noncomputable def fC(a b o:Arr)(i j:Nat):Arr:=o++a.extract i a.size++b.extract j b.size
noncomputable def nJ(a b o:Arr)(i j:Nat):Arr:=o++b.extract j b.size++a.extract i a.size
noncomputable def Ef(a b o:Arr)(i j g ca cb:Nat):SS (ForInStep qL):=do
 let x <-elem' a i
 if(i+1+1==a.size)=true then pure (.done (aB (nJ a b (o.push x) (i+1) j),o.push x,i+1,j,g,ca,cb))
 else if(decide (ca<7)&&decide (cb<7))=true then pure (.done (aC,o.push x,i+1,j,g,ca,cb))else pure (.yield (aC,o.push x,i+1,j,g,ca,cb))
noncomputable def Eg(a b o:Arr)(i j g ca cb:Nat):SS (ForInStep qL):=do
 let x <-elem' b j
 if(j+1==b.size)=true then pure (.done (aB (fC a b (o.push x) i (j+1)),o.push x,i,j+1,g,ca,cb))
 else do
  let y <-elem' a i
  let z <-iT true y b (j+1) (b.size- (j+1)) 0
  match z with
  |some k=>
   if k>0 then
    if(j+1+k==b.size)=true then pure (.done (aB (fC a b (o.push x++b.extract (j+1) (j+1+k)) i (j+1+k)),o.push x++b.extract (j+1) (j+1+k),i,j+1+k,g,ca,k))
    else Ef a b (o.push x++b.extract (j+1) (j+1+k)) i (j+1+k) g ca k
   else Ef a b (o.push x) i (j+1) g ca k
  |_=>pure (.done (aB (fC a b (o.push x) i (j+1)),o.push x,i,j+1,g,ca,cb))
noncomputable def Eh(a b o:Arr)(i j g ca cb:Nat):SS (ForInStep qL):=do
 setG g
 let y <-elem' b j
 let z <-iT false y a i (a.size-i) 0
 match z with
 |some k=>
  if k>0 then
   if(i+k+1==a.size)=true then pure (.done (aB (nJ a b (o++a.extract i (i+k)) (i+k) j),o++a.extract i (i+k),i+k,j,g,k,cb))
   else if(i+k==a.size)=true then pure (.done (aB (fC a b (o++a.extract i (i+k)) (i+k) j),o++a.extract i (i+k),i+k,j,g,k,cb))
   else Eg a b (o++a.extract i (i+k)) (i+k) j g k cb
  else Eg a b o i j g k cb
 |_=>pure (.done (aB (fC a b o i j),o,i,j,g,ca,cb))
noncomputable def NQ(a b:Arr)(t:qL):SS (ForInStep qL):=if t.2.2.2.2.1>1 then Eh a b t.2.1 t.2.2.1 t.2.2.2.1 (t.2.2.2.2.1-1) t.2.2.2.2.2.1 t.2.2.2.2.2.2 else Eh a b t.2.1 t.2.2.1 t.2.2.2.1 t.2.2.2.2.1 t.2.2.2.2.2.1 t.2.2.2.2.2.2
noncomputable abbrev AV:=Option Arr×Arr×Nat×Nat×Nat×Nat
noncomputable def HU(a b:Arr)(g:Nat)(t:AV):SS (ForInStep AV):=do
 let x <-elem' b t.2.2.2.1
 let y <-elem' a t.2.2.1
 let z <-lt' x y
 match z with
 |some q=>
  if q=true then do
   let x <-elem' b t.2.2.2.1
   if(t.2.2.2.1+1==b.size)=true then pure (.done (aB (fC a b (t.2.1.push x) t.2.2.1 (t.2.2.2.1+1)),t.2.1.push x,t.2.2.1,t.2.2.2.1+1,0,t.2.2.2.2.2+1))
   else if t.2.2.2.2.2+1>=g then pure (.done (aC,t.2.1.push x,t.2.2.1,t.2.2.2.1+1,0,t.2.2.2.2.2+1))else pure (.yield (aC,t.2.1.push x,t.2.2.1,t.2.2.2.1+1,0,t.2.2.2.2.2+1))
  else do
   let x <-elem' a t.2.2.1
   if(t.2.2.1+1+1==a.size)=true then pure (.done (aB (nJ a b (t.2.1.push x) (t.2.2.1+1) t.2.2.2.1),t.2.1.push x,t.2.2.1+1,t.2.2.2.1,t.2.2.2.2.1+1,0))
   else if t.2.2.2.2.1+1>=g then pure (.done (aC,t.2.1.push x,t.2.2.1+1,t.2.2.2.1,t.2.2.2.2.1+1,0))else pure (.yield (aC,t.2.1.push x,t.2.2.1+1,t.2.2.2.1,t.2.2.2.2.1+1,0))
 |_=>pure (.done (aB (fC a b t.2.1 t.2.2.1 t.2.2.2.1),t.2.1,t.2.2.1,t.2.2.2.1,t.2.2.2.2.1,t.2.2.2.2.2))
noncomputable abbrev HV:=Option Arr×Arr×Nat×Nat×Nat
noncomputable def NR(a b:Arr)(t:HV):SS (ForInStep HV):=do
 let u <-forIn [0:a.size+b.size] ((aC,t.2.1,t.2.2.1,t.2.2.2.1,0,0):AV) λ_ u=>HU a b t.2.2.2.2 u
 match u.1 with
 |some x=>pure (.done (aB x,u.2.1,u.2.2.1,u.2.2.2.1,t.2.2.2.2))
 |none=>do
  rule "list.sort.gallop"
  let v <-forIn [0:a.size+b.size] ((aC,u.2.1,u.2.2.1,u.2.2.2.1,t.2.2.2.2+1,u.2.2.2.2.1,u.2.2.2.2.2):qL) λ_ v=>NQ a b v
  match v.1 with
  |some x=>pure (.done (aB x,v.2.1,v.2.2.1,v.2.2.2.1,v.2.2.2.2.1))
  |none=>do
   setG (v.2.2.2.2.1+1)
   pure (.yield (aC,v.2.1,v.2.2.1,v.2.2.2.1,v.2.2.2.2.1+1))
noncomputable def vF(a b:Arr):SS Arr:=do
 rule "list.sort.merge-lo"
 let x <-elem' b 0
 if(1==b.size)=true then pure (fC a b #[x] 0 1)
 else if(0+1==a.size)=true then pure (nJ a b #[x] 0 1)
 else do
  let z <-get
  let t <-forIn [0:a.size+b.size] ((aC,#[x],0,1,gallopOf z):HV) λ_ t=>NR a b t
  match t.1 with|some x=>pure x|none=>unsupported "internal:list.sort.merge-bound"
end TS
namespace TS
open PySem PySem.W PyProof.Rows KO
section
variable{prog:ai}{w:aj}{A:ak}{E:aa->af->Prop}{s:af}{κ:SortKind}{f:Nat->Keyed}{r:Nat->Int}{N:Nat}
theorem MI.nK{la lb lo:List Nat}{i j:Nat}(h:MI r la lb lo i j)(sa:So r la)(sb:So r lb)(hi:i<la.length)(hj:j<lb.length)(e:r lb[j]<=r la[i]):MI r la lb (lo++[lb[j]]) i (j+1):=by
 have:=h.nH (k:=1) sb (by lia) λq hq h1 h2 y hy=>by
  obtain rfl:q=j:=by lia
  obtain⟨t,ht,h3,rfl⟩:=yb hy;exact jL e (sa.at_ h3 ht)
 rw[HQ hj]at this;exact this
theorem MI.tT{la lb lo:List Nat}{i j:Nat}(h:MI r la lb lo i j)(sa:So r la)(sb:So r lb)(hi:i<la.length)(hj:j<lb.length)(e:r la[i]<=r lb[j]):MI r la lb (lo++[la[i]]) (i+1) j:=by
 have:=h.lV (k:=1) sa (by lia) λq hq h1 h2 y hy=>by
  obtain rfl:q=i:=by lia
  obtain⟨t,ht,h3,rfl⟩:=yb hy;exact jL e (sb.at_ h3 ht)
 rw[HQ hi]at this;exact this
structure Tw(N:Nat)(r:Nat->Int)(la lb:List Nat):Prop where
 ba:∀x∈la,x<N
 bb:∀x∈lb,x<N
 sa:So r la
 sb:So r lb
 na:0<la.length
 nb:0<lb.length
 h0:r lb[0]<=r la[0]
 hl:∀x∈lb,∀i (hi:i<la.length),i+1=la.length->r x<r la[i]
theorem Tw.done(T:Tw N r la lb){lo:List Nat}{i j:Nat}(m:MI r la lb lo i j)(e:(j==lb.length)):Mg f r la lb (fC (ar f la) (ar f lb) (ar f lo) i j):=m.done T.sa (by simpa using e)
theorem Tw.last(T:Tw N r la lb){lo:List Nat}{i j:Nat}(m:MI r la lb lo i j)(e:(i+1==la.length)):Mg f r la lb (nJ (ar f la) (ar f lb) (ar f lo) i j):=m.last T.sb (by simpa using e) λx hx=>ni (T.hl x hx i _ (by simpa using e))
noncomputable def nL(f:Nat->Keyed)(r:Nat->Int)(la lb:List Nat)(o:Arr)(i j m:Nat):Prop:=∃lo,o=ar f lo/\MI r la lb lo i j/\i+1<la.length/\j<lb.length/\m<=i+j
variable{la lb:List Nat}{p:Array Nat}{pd:Array (Nat×Nat×Nat)}
theorem VA(c:Cp prog w A s κ f r N)(T:Tw N r la lb){g mg:Nat}{t:AV}{m:Nat}(I:nL f r la lb t.2.1 t.2.2.1 t.2.2.2.1 m){Q:ForInStep AV->SortSt->Prop}
 (h1:∀x u,Mg f r la lb x->Q (.done (aB x,u)) (St κ f p pd g)) (h2:∀o i j y z,nL f r la lb o i j (m+1)->Q (.done (aC,o,i,j,y,z)) (St κ f p pd g)/\Q (.yield (aC,o,i,j,y,z)) (St κ f p pd g)) :
 wpS (model prog w) A E s (HU (ar f la) (ar f lb) mg t) Q (St κ f p pd g):=by
 obtain⟨t0,o,i,j,ca,cb⟩:=t;obtain⟨lo,rfl,M,hi,hj,hm⟩:=I
 replace hi:i+1<la.length:=hi
 replace hj:j<lb.length:=hj
 replace hm:m<=i+j:=hm
 replace M:MI r la lb lo i j:=M;have hi':i<la.length:=yN hi;unfold HU;dsimp only;refine bg (bN hj (bg (bN hi' (bg (ju c (T.bb _ (ir hj)) (T.ba _ (ir hi')) rfl ?_)))));by_cases q:r lb[j]<r la[i];rw[iE q];show wpS _ _ _ _ (if true=true then _ else _) _ _;rw[if_pos rfl];refine bg (bN hj ?_);rw[AS,jx];have M':=M.nK T.sa T.sb hi' hj (ni q);by_cases e:(j+1==lb.length)=true;rw[if_pos e];exact bz (h1 _ _ (T.done M' e));rw[if_neg e];have e':j+1≠lb.length:=by simpa using e
 obtain⟨a,b⟩:=h2 _ i (j+1) 0 (cb+1) ⟨_,rfl,M',hi,by lia,by lia⟩;split;exact bz a;exact bz b;rw[gF q];show wpS _ _ _ _ (if false=true then _ else _) _ _;rw[if_neg (by simp)];refine bg (bN hi' ?_);rw[AS,jx];have M':=M.tT T.sa T.sb hi' hj (pA.mp q);by_cases e:(i+1+1==la.length)=true;rw[if_pos e];exact bz (h1 _ _ (T.last M' e));rw[if_neg e];have e':i+1+1≠la.length:=by simpa using e
 obtain⟨a,b⟩:=h2 _ (i+1) j (ca+1) 0 ⟨_,rfl,M',by lia,hj,by lia⟩;split;exact bz a;exact bz b
theorem NS(T:Tw N r la lb){g cg ca cb i j:Nat}{lo:List Nat}{m:Nat}(M:MI r la lb lo i j)(hi:i+1<la.length)(hj:j<lb.length)(hm:m<=i+j)(e:r la[i]<=r lb[j]){Q:ForInStep qL->SortSt->Prop}
 (h1:∀x u,Mg f r la lb x->Q (.done (aB x,u)) (St κ f p pd g)) (h2:∀o i j g' y z,nL f r la lb o i j (m+1)->Q (.done (aC,o,i,j,g',y,z)) (St κ f p pd g)/\Q (.yield (aC,o,i,j,g',y,z)) (St κ f p pd g)) :
 wpS (model prog w) A E s (Ef (ar f la) (ar f lb) (ar f lo) i j cg ca cb) Q (St κ f p pd g):=by
 have hi':i<la.length:=yN hi;unfold Ef;refine bg (bN hi' ?_);rw[AS,jx];have M':=M.tT T.sa T.sb hi' hj e;by_cases e:(i+1+1==la.length)=true;rw[if_pos e];exact bz (h1 _ _ (T.last M' e));rw[if_neg e];have e':i+1+1≠la.length:=by simpa using e
 obtain⟨a,b⟩:=h2 _ (i+1) j cg ca cb ⟨_,rfl,M',by lia,hj,by lia⟩;split;exact bz a;exact bz b
theorem nM{x:Nat}{l:List Nat}{bs i:Nat}(hi:bs+i<l.length):Bf r false x l bs i=!decide (r x<r l[bs+i]):=by unfold Bf;rw[nI hi];rfl
theorem qM{x:Nat}{l:List Nat}{bs i:Nat}(hi:bs+i<l.length):Bf r true x l bs i=decide (r l[bs+i]<r x):=by unfold Bf;rw[nI hi];rfl
theorem NT(c:Cp prog w A s κ f r N)(T:Tw N r la lb){g cg ca cb i j:Nat}{lo:List Nat}{m:Nat}(M:MI r la lb lo i j)(hi:i+1<la.length)(hj:j<lb.length)(hm:m<=i+j)(e:r lb[j]<=r la[i]){Q:ForInStep qL->SortSt->Prop}
 (h1:∀x u,Mg f r la lb x->Q (.done (aB x,u)) (St κ f p pd g)) (h2:∀o i j g' y z,nL f r la lb o i j (m+1)->Q (.done (aC,o,i,j,g',y,z)) (St κ f p pd g)/\Q (.yield (aC,o,i,j,g',y,z)) (St κ f p pd g)) :
 wpS (model prog w) A E s (Eg (ar f la) (ar f lb) (ar f lo) i j cg ca cb) Q (St κ f p pd g):=by
 have hi':i<la.length:=yN hi;unfold Eg;refine bg (bN hj ?_);rw[AS,jx];have M':=M.nK T.sa T.sb hi' hj e;by_cases x1:(j+1==lb.length)=true;rw[if_pos x1];exact bz (h1 _ _ (T.done M' x1));rw[if_neg x1];have AW:j+1≠lb.length:=by simpa using x1
 refine bg (bN hi' (bg (Ed c T.bb T.sb (T.ba _ (ir hi')) (by lia) (by lia) rfl λk hk k1 k2=>?_)));dsimp only;have M2:=M'.nH (k:=k) T.sb (by lia) λq hq a b y hy=>by
  have:=k1 (q- (j+1)) (by lia);rw[qM (by lia)]at this;simp only[show j+1+ (q- (j+1))=q by lia,eE]at this;obtain⟨t,ht,h3,rfl⟩:=yb hy;exact jL (ni this) (T.sa.at_ h3 ht)
 have nx:∀(h:j+1+k<lb.length),r la[i]<=r lb[j+1+k]:=λh=>by
  have:=k2 k (aR _) (by lia);rw[qM h]at this;simpa using this
 by_cases x2:k>0;rw[if_pos x2,pH,nG,show j+1+k- (j+1)=k by lia];by_cases x3:(j+1+k==lb.length)=true;rw[if_pos x3];exact bz (h1 _ _ (T.done M2 x3));rw[if_neg x3];have NU:j+1+k≠lb.length:=by simpa using x3
 exact NS T M2 hi (by lia) (by lia) (nx (by lia)) h1 h2;rw[if_neg x2];obtain rfl:k=0:=by lia
 exact NS T M' hi (by lia) (by lia) (nx (by lia)) h1 h2
theorem VB(c:Cp prog w A s κ f r N)(T:Tw N r la lb){g cg ca cb i j:Nat}{lo:List Nat}{m:Nat}(M:MI r la lb lo i j)(hi:i+1<la.length)(hj:j<lb.length)(hm:m<=i+j){Q:ForInStep qL->SortSt->Prop}
 (h1:∀x u g,Mg f r la lb x->Q (.done (aB x,u)) (St κ f p pd g)) (h2:∀o i j g' y z g,nL f r la lb o i j (m+1)->Q (.done (aC,o,i,j,g',y,z)) (St κ f p pd g)/\Q (.yield (aC,o,i,j,g',y,z)) (St κ f p pd g)) :
 wpS (model prog w) A E s (Eh (ar f la) (ar f lb) (ar f lo) i j cg ca cb) Q (St κ f p pd g):=by
 have hi':i<la.length:=yN hi;unfold Eh;refine bg (Ec (g':=cg) ?_);rw[jx];refine bg (bN hj (bg (Ed c T.ba T.sa (T.bb _ (ir hj)) (by lia) (by lia) rfl λk hk k1 k2=>?_)));dsimp only;have AX:=T.hl _ (ir hj) (la.length-1) (by lia) (by lia);have hk':i+k+1<=la.length:=by by_cases z:i+k+1<=la.length;exact z;have:=k1 (la.length-1-i) (by lia);rw[nM (by lia)]at this;simp only[show i+ (la.length-1-i)=la.length-1 by lia,sY,uJ]at this;exact absurd AX this
 have M2:=M.lV (k:=k) T.sa (by lia) λq hq a b y hy=>by
  have:=k1 (q-i) (by lia);rw[nM (by lia)]at this;simp only[show i+ (q-i)=q by lia,sY,uJ]at this;obtain⟨t,ht,h3,rfl⟩:=yb hy;exact jL (pA.mp this) (T.sb.at_ h3 ht)
 have nx:r lb[j]<=r (la[i+k]'(by lia)):=by have:=k2 k (aR _) (by lia);rw[nM (by lia)]at this;simp only[Bool.not_eq_false',eE]at this;exact ni this
 by_cases x2:k>0;rw[if_pos x2,pH,nG,show i+k-i=k by lia];by_cases x3:(i+k+1==la.length)=true;rw[if_pos x3];exact bz (h1 _ _ _ (T.last M2 x3));rw[if_neg x3];have NU:i+k+1≠la.length:=by simpa using x3
 rw[if_neg (by simp;lia)];exact NT c T M2 (by lia) hj (by lia) nx (λx u=>h1 x u _) λo i j g' y z=>h2 o i j g' y z _;rw[if_neg x2];obtain rfl:k=0:=by lia
 exact NT c T M hi hj hm nx (λx u=>h1 x u _) λo i j g' y z=>h2 o i j g' y z _
theorem AY(c:Cp prog w A s κ f r N)(T:Tw N r la lb){g:Nat}{Q:Arr->SortSt->Prop}(h:∀x g',Mg f r la lb x->Q x (St κ f p pd g')):wpS (model prog w) A E s (vF (ar f la) (ar f lb)) Q (St κ f p pd g):=by
 have na:=T.na;have nb:=T.nb;unfold vF;refine bg (uT (jW ⟨rfl,?_⟩));refine bg (bN nb ?_);have m0:MI r la lb [] 0 0:=⟨pC _,List.Pairwise.nil,(λx hx=>nomatch hx),rfl⟩
 have m1:=m0.nK T.sa T.sb na nb T.h0;rw[nc]at m1;have e1:#[f lb[0]]=ar f [lb[0]]:=rfl;rw[e1,jx,jx];by_cases x1:(1==lb.length)=true;rw[if_pos x1];exact bz (h _ _ (T.done m1 x1));rw[if_neg x1];by_cases x2:(0+1==la.length)=true;rw[if_pos x2];exact bz (h _ _ (T.last m1 x2));rw[if_neg x2];have AW:1≠lb.length:=by simpa using x1
 have HW:1≠la.length:=by simpa using x2
 refine bg (nh ?_);generalize gallopOf (St κ f p pd g)=mg;refine bg (jk (jj (I:=λx d st'=>∃o i j mg g',d=(aC,o,i,j,mg)/\st'=St κ f p pd g'/\nL f r la lb o i j (1+x))
  (Q:=λd st'=>∃x u g',d=(aB x,u)/\st'=St κ f p pd g'/\Mg f r la lb x) ?step ?fin ⟨_,0,1,mg,g,rfl,rfl,_,rfl,m1,by lia,by lia,by lia⟩) ?post)
 case fin=>
  rintro d st' ⟨o,i,j,mg,g',rfl,rfl,lo,rfl,m,a,b,e⟩;lia
 case post=>
  rintro d st' ⟨x,u,g',rfl,rfl,m⟩;exact bz (h _ _ m)
 case step=>
  rintro x d st' _ hx ⟨o,i,j,mg,g',rfl,rfl,I0⟩;unfold NR;refine bg (jk (jj (I:=λy d st'=>st'=St κ f p pd g'/\∃o i j ca cb,d=(aC,o,i,j,ca,cb)/\nL f r la lb o i j (1+x+y))
   (Q:=λd st'=>st'=St κ f p pd g'/\((∃x u,d=(aB x,u)/\Mg f r la lb x)\/∃o i j ca cb,d=(aC,o,i,j,ca,cb)/\nL f r la lb o i j (1+x+1))) ?jv ?nF ⟨rfl,o,i,j,0,0,rfl,I0⟩) ?jw)
  case nF=>
   rintro d st' ⟨rfl,o,i,j,ca,cb,rfl,lo,rfl,m,a,b,e⟩;rw[jx,jx]at e;exact⟨rfl,.inr ⟨_,i,j,ca,cb,rfl,lo,rfl,m,a,b,by lia⟩⟩
  case jv=>
   rintro y d st' _ hy ⟨rfl,o,i,j,ca,cb,rfl,I⟩;refine VA c T I (λx u m=>⟨rfl,.inl ⟨x,u,rfl,m⟩⟩) λo i j y' z I'=>⟨⟨rfl,.inr ⟨o,i,j,y',z,rfl,?_⟩⟩,rfl,o,i,j,y',z,rfl,I'⟩
   obtain⟨lo,e,m,a,b,e'⟩:=I'
   replace e':1+x+y+1<=i+j:=e';exact⟨lo,e,m,a,b,by lia⟩
  case jw=>
   rintro d st' ⟨rfl,⟨z,u,rfl,m⟩|⟨o,i,j,ca,cb,rfl,I⟩⟩;exact bz ⟨z,_,g',rfl,rfl,m⟩
   .refine bg (uT (jW ⟨rfl,?_⟩))
    refine bg (jk (jj (I:=λy d st'=>∃o i j mg ca cb g',st'=St κ f p pd g'/\d=(aC,o,i,j,mg,ca,cb)/\nL f r la lb o i j (1+x+1))
     (Q:=λd st'=>∃g',st'=St κ f p pd g'/\((∃x u,d=(aB x,u)/\Mg f r la lb x)\/∃o i j mg ca cb,d=(aC,o,i,j,mg,ca,cb)/\nL f r la lb o i j (1+x+1))) ?nN ?vG ⟨o,i,j,mg+1,ca,cb,g',rfl,rfl,I⟩) ?nO)
    case vG=>
     rintro d st' ⟨o,i,j,mg,ca,cb,g',rfl,rfl,I⟩;exact⟨g',rfl,.inr ⟨o,i,j,mg,ca,cb,rfl,I⟩⟩
    case nN=>
     rintro y d st' _ hy ⟨o,i,j,mg,ca,cb,g',rfl,rfl,lo,rfl,M,a,b,e⟩;unfold NQ;dsimp only;split<;>exact VB c T (g:=g') M a b e (λx u g m=>⟨g,rfl,.inl ⟨x,u,rfl,m⟩⟩) λo i j g' y z g I=>by
      obtain⟨lo,e1,m,a,b,e'⟩:=I;have I':nL f r la lb o i j (1+x+1):=⟨lo,e1,m,a,b,by lia⟩
      exact⟨⟨g,rfl,.inr ⟨o,i,j,g',y,z,rfl,I'⟩⟩,o,i,j,g',y,z,g,rfl,rfl,I'⟩
    case nO=>
     rintro d st' ⟨g',rfl,⟨z,u,rfl,m⟩|⟨o,i,j,mg,ca,cb,rfl,I⟩⟩;exact bz ⟨z,_,g',rfl,rfl,m⟩;dsimp only;refine bg (Ec (bz ⟨o,i,j,mg+1,_,rfl,rfl,?_⟩));rw[show 1+ (x+1)=1+x+1 by lia];exact I
end
end TS
namespace TS
open PySem PySem.W PyProof.Rows KO
noncomputable abbrev qN:=Option Arr×Nat×Nat×Arr×Nat×Nat×Nat
noncomputable abbrev AZ:=Option Arr×Nat×Nat×Arr×Nat×Nat
noncomputable abbrev HX:=Option Arr×Nat×Nat×Arr×Nat
noncomputable def dS(a b o:Arr)(i j:Nat):Arr:=a.extract 0 i++b.extract 0 j++o.reverse
noncomputable def kc(a b o:Arr)(i j:Nat):Arr:=b.extract 0 j++a.extract 0 i++o.reverse
noncomputable def Ei(a b o:Arr)(i j g ca cb:Nat):SS (ForInStep qN):=do
 let x <-elem' a (i-1)
 if(i-1==0)=true then pure (.done (aB (dS a b (o.push x) (i-1) j),i-1,j,o.push x,g,ca,cb))
 else if(decide (ca<7)&&decide (cb<7))=true then pure (.done (aC,i-1,j,o.push x,g,ca,cb))else pure (.yield (aC,i-1,j,o.push x,g,ca,cb))
noncomputable def Ej(a b o:Arr)(i j g ca cb:Nat):SS (ForInStep qN):=do
 let x <-elem' b (j-1)
 if(j-1==1)=true then pure (.done (aB (kc a b (o.push x) i (j-1)),i,j-1,o.push x,g,ca,cb))
 else do
  let y <-elem' a (i-1)
  let z <-iT true y b 0 (j-1) (j-1-1)
  match z with
  |some k=>
   if j-1-k>0 then
    if(k==1)=true then pure (.done (aB (kc a b (o.push x++(b.extract k (j-1)).reverse) i k),i,k,o.push x++(b.extract k (j-1)).reverse,g,ca,j-1-k))
    else if(k==0)=true then pure (.done (aB (dS a b (o.push x++(b.extract k (j-1)).reverse) i k),i,k,o.push x++(b.extract k (j-1)).reverse,g,ca,j-1-k))
    else Ei a b (o.push x++(b.extract k (j-1)).reverse) i k g ca (j-1-k)
   else Ei a b (o.push x) i (j-1) g ca (j-1-k)
  |_=>pure (.done (aB (dS a b (o.push x) i (j-1)),i,j-1,o.push x,g,ca,cb))
noncomputable def Ek(a b o:Arr)(i j g ca cb:Nat):SS (ForInStep qN):=do
 setG g
 let y <-elem' b (j-1)
 let z <-iT false y a 0 i (i-1)
 match z with
 |some k=>
  if i-k>0 then
   if(k==0)=true then pure (.done (aB (dS a b (o++(a.extract k i).reverse) k j),k,j,o++(a.extract k i).reverse,g,i-k,cb))
   else Ej a b (o++(a.extract k i).reverse) k j g (i-k) cb
  else Ej a b o i j g (i-k) cb
 |_=>pure (.done (aB (dS a b o i j),i,j,o,g,ca,cb))
noncomputable def NV(a b:Arr)(t:qN):SS (ForInStep qN):=if t.2.2.2.2.1>1 then Ek a b t.2.2.2.1 t.2.1 t.2.2.1 (t.2.2.2.2.1-1) t.2.2.2.2.2.1 t.2.2.2.2.2.2 else Ek a b t.2.2.2.1 t.2.1 t.2.2.1 t.2.2.2.2.1 t.2.2.2.2.2.1 t.2.2.2.2.2.2
noncomputable def HY(a b:Arr)(g:Nat)(t:AZ):SS (ForInStep AZ):=do
 let x <-elem' b (t.2.2.1-1)
 let y <-elem' a (t.2.1-1)
 let z <-lt' x y
 match z with
 |some q=>
  if q=true then do
   let x <-elem' a (t.2.1-1)
   if(t.2.1-1==0)=true then pure (.done (aB (dS a b (t.2.2.2.1.push x) (t.2.1-1) t.2.2.1),t.2.1-1,t.2.2.1,t.2.2.2.1.push x,t.2.2.2.2.1+1,0))
   else if t.2.2.2.2.1+1>=g then pure (.done (aC,t.2.1-1,t.2.2.1,t.2.2.2.1.push x,t.2.2.2.2.1+1,0))else pure (.yield (aC,t.2.1-1,t.2.2.1,t.2.2.2.1.push x,t.2.2.2.2.1+1,0))
  else do
   let x <-elem' b (t.2.2.1-1)
   if(t.2.2.1-1==1)=true then pure (.done (aB (kc a b (t.2.2.2.1.push x) t.2.1 (t.2.2.1-1)),t.2.1,t.2.2.1-1,t.2.2.2.1.push x,0,t.2.2.2.2.2+1))
   else if t.2.2.2.2.2+1>=g then pure (.done (aC,t.2.1,t.2.2.1-1,t.2.2.2.1.push x,0,t.2.2.2.2.2+1))else pure (.yield (aC,t.2.1,t.2.2.1-1,t.2.2.2.1.push x,0,t.2.2.2.2.2+1))
 |_=>pure (.done (aB (dS a b t.2.2.2.1 t.2.1 t.2.2.1),t.2.1,t.2.2.1,t.2.2.2.1,t.2.2.2.2.1,t.2.2.2.2.2))
noncomputable def NW(a b:Arr)(t:HX):SS (ForInStep HX):=do
 let u <-forIn [0:a.size+b.size] ((aC,t.2.1,t.2.2.1,t.2.2.2.1,0,0):AZ) λ_ u=>HY a b t.2.2.2.2 u
 match u.1 with
 |some x=>pure (.done (aB x,u.2.1,u.2.2.1,u.2.2.2.1,t.2.2.2.2))
 |none=>do
  rule "list.sort.gallop"
  let v <-forIn [0:a.size+b.size] ((aC,u.2.1,u.2.2.1,u.2.2.2.1,t.2.2.2.2+1,u.2.2.2.2.1,u.2.2.2.2.2):qN) λ_ v=>NV a b v
  match v.1 with
  |some x=>pure (.done (aB x,v.2.1,v.2.2.1,v.2.2.2.1,v.2.2.2.2.1))
  |none=>do
   setG (v.2.2.2.2.1+1)
   pure (.yield (aC,v.2.1,v.2.2.1,v.2.2.2.1,v.2.2.2.2.1+1))
noncomputable def vH(a b:Arr):SS Arr:=do
 rule "list.sort.merge-hi"
 let x <-elem' a (a.size-1)
 if(a.size-1==0)=true then pure (dS a b #[x] (a.size-1) b.size)
 else if(b.size==1)=true then pure (kc a b #[x] (a.size-1) b.size)
 else do
  let z <-get
  let t <-forIn [0:a.size+b.size] ((aC,a.size-1,b.size,#[x],gallopOf z):HX) λ_ t=>NW a b t
  match t.1 with|some x=>pure x|none=>unsupported "internal:list.sort.merge-bound"
section
variable{f:Nat->Keyed}{r:Nat->Int}
structure MH(r:Nat->Int)(la lb lo:List Nat)(i j:Nat):Prop where
 pm:(la.take i++(lb.take j++lo)).Perm (la++lb)
 so:So r lo
 ge:∀x∈lo,(∀y∈la.take i,r y<=r x)/\∀y∈lb.take j,r y<=r x
 ln:i+j+lo.length=la.length+lb.length
theorem yc{l:List Nat}{k i:Nat}(h:k<=i):l.take i=l.take k++(l.drop k).take (i-k):=by rw[<-List.take_add,show k+ (i-k)=i by lia]
theorem tU{l:List Nat}{k x:Nat}(h:x∈l.take k):∃j,∃hj:j<l.length,j<k/\l[j]=x:=by obtain⟨i,hi,e⟩:=yW h;rw[List.getElem_take]at e;rw[jX]at hi;exact⟨i,by lia,by lia,e⟩
variable{la lb lo:List Nat}{i j k:Nat}
theorem MH.lV(h:MH r la lb lo i j)(sa:So r la)(hk:k<=i)(hi:i<=la.length)(hl:∀q (hq:q<la.length),k<=q->q<i->∀y∈lb.take j,r y<=r la[q]):MH r la lb ((la.drop k).take (i-k)++lo) k j:=by
 refine⟨?_,?_,?_,?_⟩;refine List.Perm.trans ?_ h.pm;rw[yc hk,jc];refine xQ _ ?_;rw[<-jc,<-jc];exact Ds Di (pC _);refine m9.mpr ⟨(sa.drop k).take _,h.so,λx hx y hy=>(h.ge y hy).1 x (by rw[yc hk];exact gK _ hx)⟩;intro x hx;rcases kD.mp hx with hx|hx
 obtain⟨q,hq,h1,h2,rfl⟩:=Eb hx;refine⟨λy hy=>?_,hl q hq h1 (by lia)⟩;obtain⟨t,ht,h3,rfl⟩:=tU hy;exact sa.at_ (by lia) hq;exact⟨λy hy=>(h.ge x hx).1 y (by rw[yc hk];exact yT _ hy),(h.ge x hx).2⟩;have:=h.ln;rw[eF,jX,jY];lia
theorem MH.nH(h:MH r la lb lo i j)(sb:So r lb)(hk:k<=j)(hj:j<=lb.length)(hl:∀q (hq:q<lb.length),k<=q->q<j->∀y∈la.take i,r y<=r lb[q]):MH r la lb ((lb.drop k).take (j-k)++lo) i k:=by
 refine⟨?_,?_,?_,?_⟩;refine List.Perm.trans ?_ h.pm;refine xQ _ ?_;rw[yc hk,jc];refine m9.mpr ⟨(sb.drop k).take _,h.so,λx hx y hy=>(h.ge y hy).2 x (by rw[yc hk];exact gK _ hx)⟩;intro x hx;rcases kD.mp hx with hx|hx
 obtain⟨q,hq,h1,h2,rfl⟩:=Eb hx;refine⟨hl q hq h1 (by lia),λy hy=>?_⟩;obtain⟨t,ht,h3,rfl⟩:=tU hy;exact sb.at_ (by lia) hq;exact⟨(h.ge x hx).1,λy hy=>(h.ge x hx).2 y (by rw[yc hk];exact yT _ hy)⟩;have:=h.ln;rw[eF,jX,jY];lia
theorem HZ{l:List Nat}{i:Nat}(hi:i<l.length):(l.drop i).take (i+1-i)=[l[i]]:=by rw[show i+1-i=1 by lia];exact HQ hi
theorem NX(hh:MH r la lb lo (i+1) (j+1))(sa:So r la)(sb:So r lb)(hi:i<la.length)(hj:j<lb.length)(e:r lb[j]<=r la[i]):MH r la lb (la[i]::lo) i (j+1):=by
 have:=hh.lV (k:=i) sa (by lia) (by lia) λq hq h1 h2 y hy=>by
  obtain rfl:q=i:=by lia
  obtain⟨t,ht,h3,rfl⟩:=tU hy;exact jL (sb.at_ (by lia) hj) e
 rw[HZ hi]at this;exact this
theorem NY(hh:MH r la lb lo (i+1) (j+1))(sa:So r la)(sb:So r lb)(hi:i<la.length)(hj:j<lb.length)(e:r la[i]<=r lb[j]):MH r la lb (lb[j]::lo) (i+1) j:=by
 have:=hh.nH (k:=j) sb (by lia) (by lia) λq hq h1 h2 y hy=>by
  obtain rfl:q=j:=by lia
  obtain⟨t,ht,h3,rfl⟩:=tU hy;exact jL (sa.at_ (by lia) hi) e
 rw[HZ hj]at this;exact this
theorem El{l:List Nat}{i:Nat}:(ar f l).extract 0 i=ar f (l.take i):=by rw[pH];rfl
theorem MH.done(h:MH r la lb lo i j)(sa:So r la)(sb:So r lb)(e:i=0\/j=0):Mg f r la lb (dS (ar f la) (ar f lb) (ar f lo.reverse) i j):=by
 refine⟨la.take i++lb.take j++lo,?_,by rw[jc];exact h.pm,m9.mpr ⟨?_,h.so,λx hx y hy=>?_⟩⟩;unfold dS;rw[El,El,HP,nG,nG,List.reverse_reverse];refine m9.mpr ⟨sa.take i,sb.take j,λx hx y hy=>?_⟩;rcases e with rfl|rfl
 cases hx;cases hy;rcases kD.mp hx with hx|hx
 exact(h.ge y hy).1 x hx;exact(h.ge y hy).2 x hx
theorem MH.last(h:MH r la lb lo i 1)(sa:So r la)(sb:So r lb)(na:0<la.length)(nb:0<lb.length)(e:r lb[0]<=r la[0]):Mg f r la lb (kc (ar f la) (ar f lb) (ar f lo.reverse) i 1):=by
 refine⟨lb.take 1++la.take i++lo,?_,?_,m9.mpr ⟨?_,h.so,λx hx y hy=>?_⟩⟩;unfold kc;rw[El,El,HP,nG,nG,List.reverse_reverse];refine List.Perm.trans ?_ h.pm;rw[<-jc];exact Ds Di (pC _);refine m9.mpr ⟨sb.take 1,sa.take i,λx hx y hy=>?_⟩;obtain⟨q,hq,h1,rfl⟩:=tU hx;obtain⟨t,ht,h3,rfl⟩:=tU hy;obtain rfl:q=0:=by lia
 exact jL e (sa.at_ (gu _) ht);rcases kD.mp hx with hx|hx
 exact(h.ge y hy).2 x hx;exact(h.ge y hy).1 x hx
theorem Em{l:List Nat}{x:Nat}:(ar f l.reverse).push (f x)=ar f (x::l).reverse:=by rw[AS,List.reverse_cons]
theorem NZ{l m:List Nat}{i j:Nat}:ar f l.reverse++((ar f m).extract i j).reverse=ar f ((m.drop i).take (j-i)++l).reverse:=by rw[pH,HP,nG,List.reverse_append]
noncomputable def nP(f:Nat->Keyed)(r:Nat->Int)(la lb:List Nat)(o:Arr)(i j m:Nat):Prop:=∃lo,o=ar f lo.reverse/\MH r la lb lo i j/\0<i/\1<j/\i<=la.length/\j<=lb.length/\m+i+j<=la.length+lb.length
end
section
variable{prog:ai}{w:aj}{A:ak}{E:aa->af->Prop}{s:af}{κ:SortKind}{f:Nat->Keyed}{r:Nat->Int}{N:Nat}{la lb:List Nat}{p:Array Nat}{pd:Array (Nat×Nat×Nat)}
theorem Tw.kQ(T:Tw N r la lb){lo:List Nat}{i j:Nat}(m:MH r la lb lo i j)(e:(j==1)):Mg f r la lb (kc (ar f la) (ar f lb) (ar f lo.reverse) i j):=by
 obtain rfl:j=1:=by simpa using e
 exact m.last T.sa T.sb T.na T.nb T.h0
theorem Tw.kR(T:Tw N r la lb){lo:List Nat}{i j:Nat}(m:MH r la lb lo i j)(e:(i==0)):Mg f r la lb (dS (ar f la) (ar f lb) (ar f lo.reverse) i j):=m.done T.sa T.sb (.inl (by simpa using e))
theorem VC(c:Cp prog w A s κ f r N)(T:Tw N r la lb){g mg:Nat}{t:AZ}{m:Nat}(I:nP f r la lb t.2.2.2.1 t.2.1 t.2.2.1 m){Q:ForInStep AZ->SortSt->Prop}
 (h1:∀x u,Mg f r la lb x->Q (.done (aB x,u)) (St κ f p pd g)) (h2:∀o i j y z,nP f r la lb o i j (m+1)->Q (.done (aC,i,j,o,y,z)) (St κ f p pd g)/\Q (.yield (aC,i,j,o,y,z)) (St κ f p pd g)) :
 wpS (model prog w) A E s (HY (ar f la) (ar f lb) mg t) Q (St κ f p pd g):=by
 obtain⟨t0,i,j,o,ca,cb⟩:=t;obtain⟨lo,rfl,M,hi,hj,ha,hb,hm⟩:=I
 replace hi:0<i:=hi
 replace hj:1<j:=hj
 replace ha:i<=la.length:=ha
 replace hb:j<=lb.length:=hb
 replace hm:m+i+j<=la.length+lb.length:=hm
 replace M:MH r la lb lo i j:=M;obtain⟨i,rfl⟩:∃z,i=z+1:=⟨i-1,by lia⟩
 obtain⟨j,rfl⟩:∃z,j=z+1:=⟨j-1,by lia⟩
 have hi':i<la.length:=by lia
 have hj':j<lb.length:=by lia
 unfold HY;dsimp only;rw[Dc,Dc];refine bg (bN hj' (bg (bN hi' (bg (ju c (T.bb _ (ir hj')) (T.ba _ (ir hi')) rfl ?_)))));by_cases q:r lb[j]<r la[i];rw[iE q];show wpS _ _ _ _ (if true=true then _ else _) _ _;rw[if_pos rfl];refine bg (bN hi' ?_);rw[Em];have M':=NX M T.sa T.sb hi' hj' (ni q);by_cases e:(i==0)=true;rw[if_pos e];exact bz (h1 _ _ (T.kR M' e));rw[if_neg e];have e':i≠0:=by simpa using e
 obtain⟨a,b⟩:=h2 _ i (j+1) (ca+1) 0 ⟨_,rfl,M',by lia,hj,by lia,hb,by lia⟩;split;exact bz a;exact bz b;rw[gF q];show wpS _ _ _ _ (if false=true then _ else _) _ _;rw[if_neg (by simp)];refine bg (bN hj' ?_);rw[Em];have M':=NY M T.sa T.sb hi' hj' (pA.mp q);by_cases e:(j==1)=true;rw[if_pos e];exact bz (h1 _ _ (T.kQ M' e));rw[if_neg e];have e':j≠1:=by simpa using e
 obtain⟨a,b⟩:=h2 _ (i+1) j 0 (cb+1) ⟨_,rfl,M',hi,by lia,ha,by lia,by lia⟩;split;exact bz a;exact bz b
theorem N1(T:Tw N r la lb){g cg ca cb i j:Nat}{lo:List Nat}{m:Nat}(M:MH r la lb lo i j)(hi:0<i)(hj:1<j)(ha:i<=la.length)(hb:j<=lb.length)(hm:m+i+j<=la.length+lb.length)(e:r (lb[j-1]'(by lia))<=r (la[i-1]'(by lia))){Q:ForInStep qN->SortSt->Prop}
 (h1:∀x u,Mg f r la lb x->Q (.done (aB x,u)) (St κ f p pd g)) (h2:∀o i j g' y z,nP f r la lb o i j (m+1)->Q (.done (aC,i,j,o,g',y,z)) (St κ f p pd g)/\Q (.yield (aC,i,j,o,g',y,z)) (St κ f p pd g)) :
 wpS (model prog w) A E s (Ei (ar f la) (ar f lb) (ar f lo.reverse) i j cg ca cb) Q (St κ f p pd g):=by
 obtain⟨i,rfl⟩:∃z,i=z+1:=⟨i-1,by lia⟩
 obtain⟨j,rfl⟩:∃z,j=z+1:=⟨j-1,by lia⟩
 have hi':i<la.length:=by lia
 unfold Ei;rw[Dc];refine bg (bN hi' ?_);rw[Em];have M':=NX M T.sa T.sb hi' (by lia) e;by_cases e:(i==0)=true;rw[if_pos e];exact bz (h1 _ _ (T.kR M' e));rw[if_neg e];have e':i≠0:=by simpa using e
 obtain⟨a,b⟩:=h2 _ i (j+1) cg ca cb ⟨_,rfl,M',by lia,hj,by lia,hb,by lia⟩;split;exact bz a;exact bz b
theorem N2(c:Cp prog w A s κ f r N)(T:Tw N r la lb){g cg ca cb i j:Nat}{lo:List Nat}{m:Nat}(M:MH r la lb lo i j)(hi:0<i)(hj:1<j)(ha:i<=la.length)(hb:j<=lb.length)(hm:m+i+j<=la.length+lb.length)(e:r (la[i-1]'(by lia))<=r (lb[j-1]'(by lia))){Q:ForInStep qN->SortSt->Prop}
 (h1:∀x u,Mg f r la lb x->Q (.done (aB x,u)) (St κ f p pd g)) (h2:∀o i j g' y z,nP f r la lb o i j (m+1)->Q (.done (aC,i,j,o,g',y,z)) (St κ f p pd g)/\Q (.yield (aC,i,j,o,g',y,z)) (St κ f p pd g)) :
 wpS (model prog w) A E s (Ej (ar f la) (ar f lb) (ar f lo.reverse) i j cg ca cb) Q (St κ f p pd g):=by
 obtain⟨i,rfl⟩:∃z,i=z+1:=⟨i-1,by lia⟩
 obtain⟨j,rfl⟩:∃z,j=z+1:=⟨j-1,by lia⟩
 have hi':i<la.length:=by lia
 have hj':j<lb.length:=by lia
 unfold Ej;simp only[Dc]at e ⊢;refine bg (bN hj' ?_);rw[Em];have M':=NY M T.sa T.sb hi' hj' e;by_cases x1:(j==1)=true;rw[if_pos x1];exact bz (h1 _ _ (T.kQ M' x1));rw[if_neg x1];have AW:j≠1:=by simpa using x1
 refine bg (bN hi' (bg (Ed c T.bb T.sb (T.ba _ (ir hi')) (by lia) (by lia) rfl λk hk k1 k2=>?_)));dsimp only;have M2:=M'.nH (k:=k) T.sb hk (by lia) λq hq a b y hy=>by
  have:=k2 q a b;rw[qM (by lia)]at this;simp only[lH,uJ]at this;obtain⟨t,ht,h3,rfl⟩:=tU hy;exact jL (T.sa.at_ (by lia) hi') (pA.mp this)
 have nx:∀(h:0<k),r (lb[k-1]'(by lia))<=r la[i]:=λh=>by
  have:=k1 (k-1) (by lia);rw[qM (by lia)]at this;simp only[lH,eE]at this;exact ni this
 by_cases x2:j-k>0;rw[if_pos x2,NZ];by_cases x3:(k==1)=true;rw[if_pos x3];exact bz (h1 _ _ (T.kQ M2 x3));rw[if_neg x3];have NU:k≠1:=by simpa using x3
 by_cases x4:(k==0)=true;rw[if_pos x4];exact bz (h1 _ _ (M2.done T.sa T.sb (.inr (by simpa using x4))));rw[if_neg x4];have VD:k≠0:=by simpa using x4
 exact N1 T M2 hi (by lia) ha (by lia) (by lia) (nx (by lia)) h1 h2;rw[if_neg x2];obtain rfl:k=j:=by lia
 exact N1 T M' hi (by lia) ha (by lia) (by lia) (nx (by lia)) h1 h2
theorem VE(c:Cp prog w A s κ f r N)(T:Tw N r la lb){g cg ca cb i j:Nat}{lo:List Nat}{m:Nat}(M:MH r la lb lo i j)(hi:0<i)(hj:1<j)(ha:i<=la.length)(hb:j<=lb.length)(hm:m+i+j<=la.length+lb.length){Q:ForInStep qN->SortSt->Prop}
 (h1:∀x u g,Mg f r la lb x->Q (.done (aB x,u)) (St κ f p pd g)) (h2:∀o i j g' y z g,nP f r la lb o i j (m+1)->Q (.done (aC,i,j,o,g',y,z)) (St κ f p pd g)/\Q (.yield (aC,i,j,o,g',y,z)) (St κ f p pd g)) :
 wpS (model prog w) A E s (Ek (ar f la) (ar f lb) (ar f lo.reverse) i j cg ca cb) Q (St κ f p pd g):=by
 have hj':j-1<lb.length:=by lia
 unfold Ek;refine bg (Ec (g':=cg) ?_);refine bg (bN hj' (bg (Ed c T.ba T.sa (T.bb _ (ir hj')) (by lia) (by lia) rfl λk hk k1 k2=>?_)));dsimp only;have M2:=M.lV (k:=k) T.sa hk ha λq hq a b y hy=>by
  have:=k2 q a b;rw[nM (by lia)]at this;simp only[lH,Bool.not_eq_false',eE]at this;obtain⟨t,ht,h3,rfl⟩:=tU hy;exact jL (T.sb.at_ (by lia) hj') (ni this)
 have nx:∀(h:0<k),r (la[k-1]'(by lia))<=r lb[j-1]:=λh=>by
  have:=k1 (k-1) (by lia);rw[nM (by lia)]at this;simp only[lH,sY,uJ]at this;exact pA.mp this
 by_cases x2:i-k>0;rw[if_pos x2,NZ];by_cases x4:(k==0)=true;rw[if_pos x4];exact bz (h1 _ _ _ (T.kR M2 x4));rw[if_neg x4];have VD:k≠0:=by simpa using x4
 exact N2 c T M2 (by lia) hj (by lia) hb (by lia) (nx (by lia)) (λx u=>h1 x u _) λo i j g' y z=>h2 o i j g' y z _;rw[if_neg x2];obtain rfl:k=i:=by lia
 exact N2 c T M hi hj ha hb hm (nx hi) (λx u=>h1 x u _) λo i j g' y z=>h2 o i j g' y z _
theorem A2(c:Cp prog w A s κ f r N)(T:Tw N r la lb){g:Nat}{Q:Arr->SortSt->Prop}(h:∀x g',Mg f r la lb x->Q x (St κ f p pd g')):wpS (model prog w) A E s (vH (ar f la) (ar f lb)) Q (St κ f p pd g):=by
 have na:=T.na;have nb:=T.nb;have hn:la.length-1<la.length:=by lia
 unfold vH;refine bg (uT (jW ⟨rfl,?_⟩));rw[jx,jx];refine bg (bN hn ?_);have m0:MH r la lb [] (la.length-1+1) lb.length:=⟨by rw[show la.length-1+1=la.length by lia,y9,y9,kE],List.Pairwise.nil,(λx hx=>nomatch hx),by rw[xK];lia⟩
 have m1:=m0.lV (k:=la.length-1) T.sa (by lia) (by lia) λq hq a b y hy=>ni (T.hl y (yV hy) q hq (by lia));rw[HZ hn]at m1;have e1:#[f la[la.length-1]]=ar f ([la[la.length-1]]:List Nat).reverse:=rfl;rw[e1];by_cases x1:(la.length-1==0)=true;rw[if_pos x1];exact bz (h _ _ (T.kR m1 x1));rw[if_neg x1];by_cases x2:(lb.length==1)=true;rw[if_pos x2];exact bz (h _ _ (T.kQ m1 x2));rw[if_neg x2];have AW:la.length-1≠0:=by simpa using x1
 have HW:lb.length≠1:=by simpa using x2
 refine bg (nh ?_);generalize gallopOf (St κ f p pd g)=mg;refine bg (jk (jj (I:=λx d st'=>∃o i j mg g',d=(aC,i,j,o,mg)/\st'=St κ f p pd g'/\nP f r la lb o i j (1+x))
  (Q:=λd st'=>∃x u g',d=(aB x,u)/\st'=St κ f p pd g'/\Mg f r la lb x) ?step ?fin ⟨_,la.length-1,lb.length,mg,g,rfl,rfl,_,rfl,m1,by lia,by lia,by lia,by lia,by lia⟩) ?post)
 case fin=>
  rintro d st' ⟨o,i,j,mg,g',rfl,rfl,lo,rfl,m,a,b,_,_,e⟩;lia
 case post=>
  rintro d st' ⟨x,u,g',rfl,rfl,m⟩;exact bz (h _ _ m)
 case step=>
  rintro x d st' _ hx ⟨o,i,j,mg,g',rfl,rfl,I0⟩;unfold NW;refine bg (jk (jj (I:=λy d st'=>st'=St κ f p pd g'/\∃o i j ca cb,d=(aC,i,j,o,ca,cb)/\nP f r la lb o i j (1+x+y))
   (Q:=λd st'=>st'=St κ f p pd g'/\((∃x u,d=(aB x,u)/\Mg f r la lb x)\/∃o i j ca cb,d=(aC,i,j,o,ca,cb)/\nP f r la lb o i j (1+x+1))) ?jv ?nF ⟨rfl,o,i,j,0,0,rfl,I0⟩) ?jw)
  case nF=>
   rintro d st' ⟨rfl,o,i,j,ca,cb,rfl,lo,rfl,m,a,b,c1,c2,e⟩;rw[jx,jx]at e;exact⟨rfl,.inr ⟨_,i,j,ca,cb,rfl,lo,rfl,m,a,b,c1,c2,by lia⟩⟩
  case jv=>
   rintro y d st' _ hy ⟨rfl,o,i,j,ca,cb,rfl,I⟩;refine VC c T I (λx u m=>⟨rfl,.inl ⟨x,u,rfl,m⟩⟩) λo i j y' z I'=>⟨⟨rfl,.inr ⟨o,i,j,y',z,rfl,?_⟩⟩,rfl,o,i,j,y',z,rfl,I'⟩
   obtain⟨lo,e,m,a,b,c1,c2,e'⟩:=I'
   replace e':1+x+y+1+i+j<=la.length+lb.length:=e';exact⟨lo,e,m,a,b,c1,c2,by lia⟩
  case jw=>
   rintro d st' ⟨rfl,⟨z,u,rfl,m⟩|⟨o,i,j,ca,cb,rfl,I⟩⟩;exact bz ⟨z,_,g',rfl,rfl,m⟩
   .refine bg (uT (jW ⟨rfl,?_⟩))
    refine bg (jk (jj (I:=λy d st'=>∃o i j mg ca cb g',st'=St κ f p pd g'/\d=(aC,i,j,o,mg,ca,cb)/\nP f r la lb o i j (1+x+1))
     (Q:=λd st'=>∃g',st'=St κ f p pd g'/\((∃x u,d=(aB x,u)/\Mg f r la lb x)\/∃o i j mg ca cb,d=(aC,i,j,o,mg,ca,cb)/\nP f r la lb o i j (1+x+1))) ?nN ?vG ⟨o,i,j,mg+1,ca,cb,g',rfl,rfl,I⟩) ?nO)
    case vG=>
     rintro d st' ⟨o,i,j,mg,ca,cb,g',rfl,rfl,I⟩;exact⟨g',rfl,.inr ⟨o,i,j,mg,ca,cb,rfl,I⟩⟩
    case nN=>
     rintro y d st' _ hy ⟨o,i,j,mg,ca,cb,g',rfl,rfl,lo,rfl,M,a,b,c1,c2,e⟩;unfold NV;dsimp only;split<;>exact VE c T (g:=g') M a b c1 c2 e (λx u g m=>⟨g,rfl,.inl ⟨x,u,rfl,m⟩⟩) λo i j g' y z g I=>by
      obtain⟨lo,e1,m,a,b,c1,c2,e'⟩:=I;have I':nP f r la lb o i j (1+x+1):=⟨lo,e1,m,a,b,c1,c2,by lia⟩
      exact⟨⟨g,rfl,.inr ⟨o,i,j,g',y,z,rfl,I'⟩⟩,o,i,j,g',y,z,g,rfl,rfl,I'⟩
    case nO=>
     rintro d st' ⟨g',rfl,⟨z,u,rfl,m⟩|⟨o,i,j,mg,ca,cb,rfl,I⟩⟩;exact bz ⟨z,_,g',rfl,rfl,m⟩;dsimp only;refine bg (Ec (bz ⟨o,i,j,mg+1,_,rfl,rfl,?_⟩));rw[show 1+ (x+1)=1+x+1 by lia];exact I
end
end TS
namespace TS
open PySem PySem.W PyProof.Rows KO
noncomputable def put(m:Nat){α:Type}(x:List α)(a:Array α):Array α:=x.zipIdx.foldl (λa y=>a.setIfInBounds (m+y.2) y.1) a
noncomputable def kT(m:Nat)(x:Arr):SS Bool:=do
 modify λs=>SortSt.mk' (kindOf s) (put m x.toList (arrOf s)) (pendingOf s) (gallopOf s) (failedOf s)
 let z <-get
 pure (failedOf z).isNone
noncomputable def A3(i:Nat):SS Bool:=do
 let s <-get
 match((pendingOf s)[i]?,(pendingOf s)[i+1]?)with
 |(aB (sa,na,pw),aB (sb,nb,_))=>do
  set (setPending s (((pendingOf s).setIfInBounds i (sa,na+nb,pw)).eraseIdxIfInBounds (i+1)))
  let y <-elem' (arrOf s) sb
  let z <-iT false y (arrOf s) sa na 0
  match z with
  |some k=>
   if(na-k==0)=true then pure true
   else do
    let y <-elem' (arrOf s) (sa+k+ (na-k)-1)
    let z <-iT true y (arrOf s) sb nb (nb-1)
    match z with
    |some q=>
     if(q==0)=true then pure true
     else if na-k<=q then do
      let x <-vF ((arrOf s).extract (sa+k) sb) ((arrOf s).extract sb (sb+q))
      kT (sa+k) x
     else do
      let x <-vH ((arrOf s).extract (sa+k) sb) ((arrOf s).extract sb (sb+q))
      kT (sa+k) x
    |_=>pure false
  |_=>pure false
 |_=>unsupported "internal:list.sort.pending"
theorem VF:mergeAt'=A3:=by kernel_rfl
noncomputable abbrev U1:=Option Unit×Nat
noncomputable abbrev U2:=Option Unit×Unit
noncomputable def Eo(lo n:Nat):SS (ForInStep U1):=do
 modify λs=>setPending s ((pendingOf s).push (lo,n,0))
 pure (.yield (aC,lo+n))
noncomputable def Ep(pw:Nat):SS (ForInStep U2):=do
 let s <-get
 match if(pendingOf s).size>1 then(pendingOf s)[(pendingOf s).size-2]? else aC with
 |some (_,_,old)=>
  if old<=pw then pure (.done (aC,()))
  else do
   let b <-mergeAt' ((pendingOf s).size-2)
   if(!b)=true then pure (.done (aB (),()))else pure (.yield (aC,()))
 |_=>pure (.done (aC,()))
noncomputable def Er(z lo n:Nat):SS (ForInStep U1):=do
 let s <-get
 match(pendingOf s).back? with
 |some (s1,n1,_)=>do
  let u <-forIn [0:z] ((aC,()):U2) λ_ _=>Ep (power' z (2*s1+n1) (2*s1+n1+n1+n) z)
  match u.1 with
  |some r=>pure (.done (aB r,lo))
  |none=>do
   modify λs=>setPending s ((pendingOf s).modify ((pendingOf s).size-1) λx=>match x with|(st,len,_)=>(st,len,power' z (2*s1+n1) (2*s1+n1+n1+n) z))
   Eo lo n
 |_=>Eo lo n
noncomputable def N3(z m:Nat)(t:U1):SS (ForInStep U1):=if t.2>=z then pure (.done (aC,t.2))else do
 let x <-countRun' t.2 (z-t.2)
 match x with
 |some n=>
  if n<m then do
   rule "list.sort.binary-insertion"
   let b <-binarySort' t.2 (min (z-t.2) m) n
   if(!b)=true then pure (.done (aB (),t.2))else Er z t.2 (min (z-t.2) m)
  else Er z t.2 n
 |_=>pure (.done (aB (),t.2))
noncomputable def Ia(p:Array (Nat×Nat×Nat)):Nat:=if Option.any (λx=>decide (x<p[p.size-2+1]?.elim 0 λx=>x.2.1)) (if p.size-2>0 then Option.map (λx=>x.2.1) p[p.size-2-1]? else aC)=true then p.size-2-1 else p.size-2
noncomputable def N4:SS (ForInStep U2):=do
 let s <-get
 if(pendingOf s).size<=1 then pure (.done (aC,()))
 else do
  let b <-mergeAt' (Ia (pendingOf s))
  if(!b)=true then pure (.done (aB (),()))else pure (.yield (aC,()))
noncomputable def N5:SS Unit:=do
 let s <-get
 let t <-forIn [0:(arrOf s).size] ((aC,0):U1) λ_ t=>N3 (arrOf s).size (minRun' (arrOf s).size (arrOf s).size 0) t
 match t.1 with
 |some r=>pure r
 |none=>do
  let u <-forIn [0:(arrOf s).size] ((aC,()):U2) λ_ _=>N4
  match u.1 with|some r=>pure r|none=>pure ()
theorem VG:sortRuns'=N5:=by kernel_rfl
end TS
namespace TS
open PySem PySem.W PyProof.Rows KO
theorem N6{α β:Type}(f:α->β){m:Nat}:∀(x:List (α×Nat)) (a:Array α),(x.map λy=>(f y.1,y.2)).foldl (λa y=>a.setIfInBounds (m+y.2) y.1) (a.map f)=(x.foldl (λa y=>a.setIfInBounds (m+y.2) y.1) a).map f
 |[],a=>rfl
 |y::x,a=>by
  rw[dw,Dl,Dl];have e:(a.map f).setIfInBounds (m+y.2) (f y.1)=(a.setIfInBounds (m+y.2) y.1).map f:=by rw[Array.map_setIfInBounds]
  rw[e];exact N6 f x _
theorem VI{f:Nat->Keyed}{m:Nat}{l:List Nat}{p:Array Nat}:put m (ar f l).toList (p.map f)=(put m l p).map f:=by unfold put ar;rw[<-N6];congr 1;rw[List.zipIdx_map];rfl
theorem N7{α:Type}{m:Nat}:∀(x:List α) (off:Nat) (a:Array α) (t:Nat),m+off+x.length<=a.size->((x.zipIdx off).foldl (λa y=>a.setIfInBounds (m+y.2) y.1) a)[t]?=if m+off<=t/\t<m+off+x.length then x[t- (m+off)]? else a[t]?
 |[],off,a,t,_=>by
  rw[List.zipIdx_nil,List.foldl_nil,if_neg (λz=>by have:=z.2;simp at this;lia)]
 |y::x,off,a,t,h=>by
  rw[cZ]at h ⊢;rw[List.zipIdx_cons,Dl,N7 x (off+1) _ t (by rw[Array.size_setIfInBounds];lia)];rw[Array.getElem?_setIfInBounds];by_cases h1:m+off=t;subst h1;rw[if_neg (by lia),if_pos rfl,if_pos (show m+ (y,off).snd<a.size from by show m+off<a.size;lia),if_pos (by lia),Nat.sub_self];rfl;by_cases h2:m+off<=t/\t<m+off+ (x.length+1);rw[if_pos (by lia),if_pos h2,show t- (m+off)=t- (m+ (off+1))+1 by lia,mR];rw[if_neg (by lia),if_neg h2,if_neg h1]
theorem Ib{α:Type}{m:Nat}{x:List α}{a:Array α}{t:Nat}(h:m+x.length<=a.size):(put m x a)[t]?=if m<=t/\t<m+x.length then x[t-m]? else a[t]?:=N7 x 0 a t h
theorem VJ{m:Nat}{x:List Nat}{p:Array Nat}(h:m+x.length<=p.size):(put m x p).toList=p.toList.take m++x++p.toList.drop (m+x.length):=by
 apply List.ext_getElem?;intro t;rw[uV,Ib h];have hl:(p.toList.take m).length=m:=by rw[jX];simp;lia
 by_cases h1:t<m;rw[if_neg (by lia),jc,pZ (by lia),List.getElem?_take_of_lt h1,uV];by_cases h2:t<m+x.length;rw[if_pos ⟨by lia,h2⟩,pZ (by rw[eF];lia),lI (by lia),hl];rw[if_neg (by lia),lI (by rw[eF];lia),eF,hl,List.getElem?_drop,uV];congr 1;lia
theorem VL{p:Array Nat}{i:Nat}:p.toList.getD i 0=p.getD i 0:=by rw[yR,uV,xP]
section
variable{prog:ai}{w:aj}{A:ak}{E:aa->af->Prop}{s:af}{κ:SortKind}{f:Nat->Keyed}{r:Nat->Int}{N:Nat}
theorem VM{x st:SortSt}{Q:PUnit->SortSt->Prop}(h:Q ⟨⟩ x):wpS (model prog w) A E s (set x:SS PUnit) Q st:=by unfold wpS;rw[StateT.run_set];exact bC ⟨rfl,h⟩
theorem tV{p:Array Nat}{i:Nat}:r (p.toList.getD i 0)=J r p i:=by rw[VL];exact AK p i
theorem VN{p:Array Nat}:p.map f=ar f p.toList:=by unfold ar;apply Array.toList_inj.mp;rw[Array.toList_map]
theorem qP{p:Array Nat}{lf:Bool}{x bs i:Nat}:Bf r lf x p.toList bs i=if lf then decide (J r p (bs+i)<r x)else !decide (r x<J r p (bs+i)):=by unfold Bf;rw[tV (r:=r)]
theorem yd{p:Array Nat}{a n i:Nat}(hi:i<n)(hz:a+n<=p.size):∃h:i< ((p.toList.drop a).take n).length,r (((p.toList.drop a).take n)[i])=J r p (a+i):=by
 have h:i< ((p.toList.drop a).take n).length:=by rw[jX,jY];simp;lia
 refine⟨h,?_⟩;rw[List.getElem_take,List.getElem_drop,<-tV (r:=r) (p:=p),nI (by simp;lia)]
theorem A4{p:Array Nat}{a n:Nat}(hz:a+n<=p.size):((p.toList.drop a).take n).length=n:=by rw[jX,jY];simp;lia
theorem N8{p:Array Nat}{a n:Nat}(h:Ri r p a (a+n))(hz:a+n<=p.size):So r ((p.toList.drop a).take n):=by refine uN.mpr λi j hi hj hij=>?_;rw[A4 hz]at hi hj;obtain⟨_,e1⟩:=yd (r:=r) hi hz;obtain⟨_,e2⟩:=yd (r:=r) hj hz;rw[e1,e2];exact h _ _ (by lia) (by lia) (by lia)
theorem Es{p:Array Nat}{a n x:Nat}(h:x∈(p.toList.drop a).take n)(hz:a+n<=p.size):x∈p/\∃i,i<n/\r x=J r p (a+i):=by refine⟨by simpa using List.mem_of_mem_drop (yV h),?_⟩;obtain⟨i,hi,e⟩:=yW h;rw[A4 hz]at hi;obtain⟨_,e1⟩:=yd (r:=r) hi hz;exact⟨i,hi,by rw[<-e,e1]⟩
theorem VP{p:Array Nat}{sa m0 m1 sc:Nat}{x:List Nat}(P:Pm N p)(h1:sa<=m0)(hm:m0<m1)(h2:m1<=sc)(hc:sc<=N)(hx:x.Perm ((p.toList.drop m0).take (m1-m0)))(sx:So r x)
 (a1:Ri r p sa m0) (a2:Ri r p m1 sc) (b1:∀i,sa<=i->i<m0->∀j,m0<=j->j<m1->J r p i<=J r p j) (b2:∀i,m1<=i->i<sc->∀j,m0<=j->j<m1->J r p j<=J r p i) :
 (put m0 x p).Perm p/\Ou p (put m0 x p) sa sc/\Ri r (put m0 x p) sa sc:=by
 have zp:=P.z;have lx:x.length=m1-m0:=by rw[hx.length_eq,A4 (by lia)]
 have hz:m0+x.length<=p.size:=by lia
 have hJ:∀t,J r (put m0 x p) t=if m0<=t/\t<m1 then r (x.getD (t-m0) 0)else J r p t:=λt=>by
  have e:=Ib (t:=t) hz;rw[lx,show m0+ (m1-m0)=m1 by lia]at e;by_cases q:m0<=t/\t<m1;rw[if_pos q]at e ⊢;unfold J;rw[e,yR];rw[if_neg q]at e ⊢;exact tR e
 have hmem:∀t,t<m1-m0->∃j,m0<=j/\j<m1/\r (x.getD t 0)=J r p j:=λt ht=>by
  rw[nI (by lia)];obtain⟨_,i,hi,e⟩:=Es (r:=r) (hx.mem_iff.mp (ir (show t<x.length by lia))) (by lia);exact⟨m0+i,by lia,by lia,e⟩
 refine⟨?_,λt ht=>?_,λi j hi hij hj=>?_⟩;refine Array.perm_iff_toList_perm.mpr ?_;rw[VJ hz,lx,show m0+ (m1-m0)=m1 by lia];have e:p.toList=p.toList.take m0++(p.toList.drop m0).take (m1-m0)++p.toList.drop m1:=by
  rw[jc];have:p.toList.drop m0=(p.toList.drop m0).take (m1-m0)++p.toList.drop m1:=by have:=AU (l:=p.toList) (i:=m0) (k:=m1-m0);rw[show m0+ (m1-m0)=m1 by lia]at this;exact this
  rw[<-this,List.take_append_drop]
 refine List.Perm.trans ?_ (List.Perm.of_eq e.symm);exact Ds (xQ _ hx) (pC _);rw[Ib hz,if_neg (by lia)];rw[hJ,hJ];by_cases qi:m0<=i/\i<m1;rw[if_pos qi];by_cases qj:m0<=j/\j<m1;rw[if_pos qj,nI (by lia),nI (by lia)];exact sx.at_ (by lia) (by lia);rw[if_neg qj];obtain⟨t,t1,t2,e⟩:=hmem (i-m0) (by lia);rw[e];exact b2 j (by lia) (by lia) t t1 t2;rw[if_neg qi];by_cases qj:m0<=j/\j<m1;rw[if_pos qj];obtain⟨t,t1,t2,e⟩:=hmem (j-m0) (by lia);rw[e];exact b1 i hi (by lia) t t1 t2;rw[if_neg qj];by_cases y:i<m0;by_cases z:j<m0;exact a1 i j hi hij z;exact jL (b1 i hi y m0 (aR _) hm) (b2 j (by lia) hj m0 (aR _) hm);exact a2 i j (by lia) hij hj
theorem Ri.join{p:Array Nat}{a b c:Nat}(x:Ri r p a b)(y:Ri r p b c)(h:∀i,a<=i->i<b->b<c->J r p i<=J r p b):Ri r p a c:=λi j h1 h2 h3=>by
 by_cases q:j<b;exact x i j h1 h2 q;by_cases z:i<b;exact jL (h i h1 z (by lia)) (y b j (aR _) (by lia) h3);exact y i j (by lia) h2 h3
theorem N9(c:Cp prog w A s κ f r N){p:Array Nat}{pd:Array (Nat×Nat×Nat)}{g i sa na pw nb Ic:Nat}(P:Pm N p)(e1:pd[i]?=aB (sa,na,pw))(e2:pd[i+1]?=aB (sa+na,nb,Ic))(ha:1<=na)(hb:1<=nb)(hn:sa+na+nb<=N)(s1:Ri r p sa (sa+na))(s2:Ri r p (sa+na) (sa+na+nb)){Q:Bool->SortSt->Prop}
 (h:∀q g',q.Perm p->Ou p q sa (sa+na+nb)->Ri r q sa (sa+na+nb)->Q true (St κ f q ((pd.setIfInBounds i (sa,na+nb,pw)).eraseIdxIfInBounds (i+1)) g')):wpS (model prog w) A E s (mergeAt' i) Q (St κ f p pd g):=by
 have zp:=P.z;rw[VF];unfold A3;refine bg (nh ?_);show wpS _ _ _ _ (match(pd[i]?,pd[i+1]?)with|(aB (sa,na,pw),aB (sb,nb,_))=>_|_=>_) _ _;rw[e1,e2];dsimp only;refine bg (VM ?_);show wpS _ _ _ _ _ Q (St κ f p ((pd.setIfInBounds i (sa,na+nb,pw)).eraseIdxIfInBounds (i+1)) g);generalize (pd.setIfInBounds i (sa,na+nb,pw)).eraseIdxIfInBounds (i+1)=qQ at h ⊢;have ea:arrOf (St κ f p pd g)=ar f p.toList:=VN;rw[ea];have lp:p.toList.length=N:=by simpa using zp
 have bl:∀y∈p.toList,y<N:=λy hy=>P.b y (by simpa using hy);refine bg (bN (show sa+na<p.toList.length by lia) ?_);have eb:r p.toList[sa+na]=J r p (sa+na):=by rw[<-tV (r:=r) (p:=p),nI (by lia)]
 have xb:p.toList[sa+na]<N:=bl _ (ir _);refine bg (HS c bl xb (λi j a b=>by rw[tV (r:=r),tV (r:=r)];exact s1 _ _ (by lia) (by lia) (by lia)) (by lia) (by lia) rfl λk hk k1 k2=>?_);have Oa:∀i,i<k->J r p (sa+i)<=J r p (sa+na):=λi hi=>by
  have:=k1 i hi;rw[qP,eb]at this;simp only[dO,di,sY,uJ]at this;exact pA.mp this
 have VQ:∀i,k<=i->i<na->J r p (sa+na)<J r p (sa+i):=λi hi hi2=>by
  have:=k2 i hi hi2;rw[qP,eb]at this;simpa using this
 dsimp only;by_cases x1:(na-k==0)=true;rw[if_pos x1];have AW:na-k=0:=by simpa using x1
 refine bz (h p g (xR _) .refl (s1.join s2 λi h1 h2 _=>?_));have:=Oa (i-sa) (by lia);rw[show sa+ (i-sa)=i by lia]at this;exact this;rw[if_neg x1];have AW:na-k≠0:=by simpa using x1
 rw[show sa+k+ (na-k)-1=sa+na-1 by lia];refine bg (bN (show sa+na-1<p.toList.length by lia) ?_);have ec:r p.toList[sa+na-1]=J r p (sa+na-1):=by rw[<-tV (r:=r) (p:=p),nI (by lia)]
 have xc:p.toList[sa+na-1]<N:=bl _ (ir _);refine bg (HS c bl xc (λi j a b=>by rw[tV (r:=r),tV (r:=r)];exact s2 _ _ (by lia) (by lia) (by lia)) (by lia) (by lia) rfl λq hq q1 q2=>?_);have VR:∀i,i<q->J r p (sa+na+i)<J r p (sa+na-1):=λi hi=>by
  have:=q1 i hi;rw[qP,ec]at this;simpa using this
 have ye:∀i,q<=i->i<nb->J r p (sa+na-1)<=J r p (sa+na+i):=λi hi hi2=>by
  have:=q2 i hi hi2;rw[qP,ec]at this;simp only[bX,uJ]at this;exact pA.mp this
 dsimp only;by_cases x2:(q==0)=true;rw[if_pos x2];have HW:q=0:=by simpa using x2
 refine bz (h p g (xR _) .refl (s1.join s2 λi h1 h2 _=>?_));exact jL (s1 i (sa+na-1) h1 (by lia) (by lia)) (by simpa using ye 0 (by lia) (by lia));rw[if_neg x2];have HW:q≠0:=by simpa using x2
 rw[pH,pH,show sa+na- (sa+k)=na-k by lia,show sa+na+q- (sa+na)=q by lia];have za:sa+k+ (na-k)<=p.size:=by lia
 have zb:sa+na+q<=p.size:=by lia
 have ra:Ri r p (sa+k) (sa+k+ (na-k)):=λi j h1 h2 h3=>s1 i j (by lia) h2 (by lia);have rb:Ri r p (sa+na) (sa+na+q):=λi j h1 h2 h3=>s2 i j h1 h2 (by lia);have la:=A4 za;have lb:=A4 zb;have T:Tw N r ((p.toList.drop (sa+k)).take (na-k)) ((p.toList.drop (sa+na)).take q):=by refine⟨λx hx=>P.b x (Es (r:=r) hx za).1,λx hx=>P.b x (Es (r:=r) hx zb).1,N8 ra za,N8 rb zb,by lia,by lia,?_,λx hx i hi hi2=>?_⟩;obtain⟨_,u1⟩:=yd (r:=r) (i:=0) (show 0<na-k by lia) za;obtain⟨_,u2⟩:=yd (r:=r) (i:=0) (show 0<q by lia) zb;rw[u1,u2];exact ni (VQ k (aR _) (by lia));obtain⟨_,j,hj,e⟩:=Es (r:=r) hx zb;rw[la]at hi2;obtain⟨_,u1⟩:=yd (r:=r) (i:=i) (show i<na-k by lia) za;rw[u1,e,show sa+k+i=sa+na-1 by lia];exact VR j hj
 have fin:∀x g',Mg f r ((p.toList.drop (sa+k)).take (na-k)) ((p.toList.drop (sa+na)).take q) x->wpS (model prog w) A E s (kT (sa+k) x) Q (St κ f p qQ g'):=λx g' m=>by
  obtain⟨l,rfl,pl,sl⟩:=m;unfold kT;have hj:(p.toList.drop (sa+k)).take (na-k)++(p.toList.drop (sa+na)).take q=(p.toList.drop (sa+k)).take (sa+na+q- (sa+k)):=by rw[show sa+na+q- (sa+k)=(na-k)+q by lia,List.take_add,List.drop_drop,show sa+k+ (na-k)=sa+na by lia]
  rw[hj]at pl;obtain⟨z1,z2,z3⟩:=VP (r:=r) (sc:=sa+na+nb) P (show sa<=sa+k by lia) (show sa+k<sa+na+q by lia) (by lia) hn pl sl
   (λi j h1 h2 h3=>s1 i j h1 h2 (by lia)) (λi j h1 h2 h3=>s2 i j (by lia) h2 h3)
   (λi h1 h2 j h3 h4=>by
     by_cases y:j<sa+na;exact s1 i j h1 (by lia) y;have:=Oa (i-sa) (by lia);rw[show sa+ (i-sa)=i by lia]at this;exact jL this (s2 (sa+na) j (aR _) (by lia) (by lia)))
   (λi h1 h2 j h3 h4=>by
     by_cases y:j<sa+na;have:=ye (i- (sa+na)) (by lia) (by lia);rw[show sa+na+ (i- (sa+na))=i by lia]at this;exact jL (s1 j (sa+na-1) (by lia) (by lia) (by lia)) this;exact s2 j i (by lia) (by lia) h2)
  refine bg (xN ?_);show wpS _ _ _ _ _ _ (SortSt.mk' κ (put (sa+k) (ar f l).toList (p.map f)) qQ g' aC);rw[VI];refine bg (nh (bz ?_));exact h _ g' z1 z2 z3
 split;exact bg (AY c T fin);exact bg (A2 c T fin)
end
end TS
namespace TS
open PySem PySem.W PyProof.Rows KO
noncomputable def fD(r:Nat->Int)(p:Array Nat):Nat->List (Nat×Nat)->Nat->Prop|a,[],b=>a=b|a,x::t,b=>x.1=a/\1<=x.2/\Ri r p a (a+x.2)/\fD r p (a+x.2) t b
noncomputable def sh(pd:Array (Nat×Nat×Nat)):List (Nat×Nat):=pd.toList.map λx=>(x.1,x.2.1)
variable{r:Nat->Int}{p q:Array Nat}
theorem fD.le:∀{l:List (Nat×Nat)} {a b:Nat},fD r p a l b->a+l.length<=b
 |[],_,_,h=>by cases h;exact aR _
 |x::t,a,b,h=>by
  have:=fD.le h.2.2.2;have:=h.2.1;rw[cZ];lia
theorem fD.app:∀{l m:List (Nat×Nat)} {a b:Nat},fD r p a (l++m) b->∃c,fD r p a l c/\fD r p c m b
 |[],m,a,b,h=>⟨a,rfl,h⟩
 |x::t,m,a,b,h=>by
  obtain⟨c,h1,h2⟩:=fD.app (l:=t) h.2.2.2;exact⟨c,⟨h.1,h.2.1,h.2.2.1,h1⟩,h2⟩
theorem fD.join:∀{l m:List (Nat×Nat)} {a b c:Nat},fD r p a l c->fD r p c m b->fD r p a (l++m) b|[],m,a,b,c,h1,h2=>by cases h1;exact h2|x::t,m,a,b,c,h1,h2=>⟨h1.1,h1.2.1,h1.2.2.1,fD.join h1.2.2.2 h2⟩
theorem fD.out:∀{l:List (Nat×Nat)} {a b x y:Nat},fD r p a l b->Ou p q x y->(b<=x\/y<=a)->fD r q a l b
 |[],a,b,x,y,h,_,_=>h
 |z::t,a,b,x,y,h,o,e=>by
  have:=fD.le h.2.2.2;exact⟨h.1,h.2.1,h.2.2.1.out o (by lia),fD.out h.2.2.2 o (by lia)⟩
theorem zs2{pd:Array (Nat×Nat×Nat)}{a n w:Nat}:sh (pd.push (a,n,w))=sh pd++[(a,n)]:=by unfold sh;rw[Array.toList_push,ng];rfl
theorem vI{pd:Array (Nat×Nat×Nat)}:(sh pd).length=pd.size:=by unfold sh;simp
theorem VS{pd:Array (Nat×Nat×Nat)}{i w:Nat}:sh (pd.modify i λx=>match x with
 |(st,len,_)=>(st,len,w))=sh pd:=by
 unfold sh;apply List.ext_getElem?;intro k;rw[jb,jb,uV,uV,Array.getElem?_modify];split;cases pd[k]?<;>rfl;rfl
theorem Ob{pd:Array (Nat×Nat×Nat)}{i:Nat}(hi:i+1<pd.size):∃x y,pd[i]?=aB x/\pd[i+1]?=aB y/\sh pd=(sh pd).take i++(x.1,x.2.1):: (y.1,y.2.1):: (sh pd).drop (i+2)/\
 ∀n w,sh ((pd.setIfInBounds i (x.1,n,w)).eraseIdxIfInBounds (i+1))=(sh pd).take i++(x.1,n):: (sh pd).drop (i+2):=by
 have h0:i<pd.toList.length:=by simp;lia
 have h1:i+1<pd.toList.length:=by simp;lia
 refine⟨pd[i],pd[i+1],pB (by lia),pB hi,?_,λn w=>?_⟩;have e:pd.toList=pd.toList.take i++pd[i]::pd[i+1]::pd.toList.drop (i+2):=by have a:=o4 h0;have b:=o4 h1;rw[show i+1+1=i+2 by lia]at b;rw[b]at a;have:=(List.take_append_drop i pd.toList).symm;rw[a]at this;simpa using this
 unfold sh;rw[<-List.map_take,<-List.map_drop];have:=jK (List.map λx:Nat×Nat×Nat=>(x.1,x.2.1)) e;rw[ng,dw,dw]at this;exact this;have e:((pd.setIfInBounds i (pd[i].1,n,w)).eraseIdxIfInBounds (i+1)).toList=pd.toList.take i++(pd[i].1,n,w)::pd.toList.drop (i+2):=by
  have z:((pd.setIfInBounds i (pd[i].1,n,w)).eraseIdxIfInBounds (i+1)).toList=(pd.toList.set i (pd[i].1,n,w)).eraseIdx (i+1):=by unfold Array.eraseIdxIfInBounds;rw[dif_pos (by rw[Array.size_setIfInBounds];exact hi),Array.toList_eraseIdx,Array.toList_setIfInBounds]
  rw[z,List.eraseIdx_eq_take_drop_succ];have a:(pd.toList.set i (pd[i].1,n,w)).take (i+1)=pd.toList.take i++[(pd[i].1,n,w)]:=by rw[List.take_add_one,List.take_set_of_le (aR _)];congr 1;rw[uO h0];rfl
  have b:(pd.toList.set i (pd[i].1,n,w)).drop (i+1+1)=pd.toList.drop (i+2):=by rw[List.drop_set_of_lt (by lia)]
  rw[a,b,jc];rfl
 unfold sh;rw[e,ng,dw,<-List.map_take,<-List.map_drop]
section
variable{prog:ai}{w:aj}{A:ak}{E:aa->af->Prop}{s:af}{κ:SortKind}{f:Nat->Keyed}{r:Nat->Int}{N:Nat}
noncomputable def A5(κ:SortKind)(f:Nat->Keyed)(r:Nat->Int)(p0:Array Nat)(lo m:Nat)(st:SortSt):Prop:=∃q pd g,st=St κ f q pd g/\q.Perm p0/\fD r q 0 (sh pd) lo/\1<=pd.size/\pd.size<=m
theorem Oc(c:Cp prog w A s κ f r N){p0 q:Array Nat}(P:Pm N p0){pd:Array (Nat×Nat×Nat)}{g i lo:Nat}(hp:q.Perm p0)(C:fD r q 0 (sh pd) lo)(hl:lo<=N)(hi:i+1<pd.size){Q:Bool->SortSt->Prop}
 (h:∀st,A5 κ f r p0 lo (pd.size-1) st->Q true st):wpS (model prog w) A E s (mergeAt' i) Q (St κ f q pd g):=by
 obtain⟨⟨sa,na,pw⟩,⟨sb,nb,Ic⟩,e1,e2,e3,e4⟩:=Ob hi;dsimp only at e3 e4;rw[e3]at C;obtain⟨a,C1,C2⟩:=C.app;obtain⟨z1,ha,s1,z2,hb,s2,C3⟩:=C2;dsimp only at z1 ha s1 z2 hb s2 C3;subst z1 z2;have l1:=C1.le;have l3:=C3.le;refine N9 c (P.perm hp) e1 e2 ha hb (by lia) s1 s2 λq' g' hq o u=>h _ ⟨q',_,g',rfl,hq.trans hp,?_,?_,?_⟩;rw[e4];refine(C1.out o (.inl (aR _))).join ⟨rfl,by lia,by rw[<-Df];exact u,?_⟩;rw[<-Df];exact C3.out o (.inr (aR _));rw[<-vI,e4,eF,cZ];lia;rw[<-vI,e4,eF,cZ,jY,jX,vI];lia
theorem zy3(c:Cp prog w A s κ f r N){p0:Array Nat}(P:Pm N p0){pw lo m:Nat}(hl:lo<=N){st:SortSt}(I:A5 κ f r p0 lo m st){Q:ForInStep U2->SortSt->Prop}
 (h:∀st,A5 κ f r p0 lo m st->Q (.done (aC,())) st/\Q (.yield (aC,())) st):wpS (model prog w) A E s (Ep pw) Q st:=by
 have I0:=I;obtain⟨q,pd,g,rfl,hp,C,h1,h2⟩:=I;unfold Ep;refine bg (nh ?_);show wpS _ _ _ _ (match if pd.size>1 then pd[pd.size-2]? else aC with|some (_,_,old)=>_|_=>_) _ _;by_cases x:pd.size>1;rw[if_pos x,pB (by lia)];obtain⟨a,b,old⟩:=pd[pd.size-2];dsimp only;by_cases y:old<=pw;rw[if_pos y];exact bz (h _ I0).1;rw[if_neg y];refine bg (Oc c P hp C hl (show pd.size-2+1<pd.size by lia) λst I=>bz (h st ?_).2);obtain⟨q,qQ,g,e,a,b,c1,c2⟩:=I;exact⟨q,qQ,g,e,a,b,c1,by lia⟩;rw[if_neg x];exact bz (h _ I0).1
theorem Od{p0 q:Array Nat}{pd:Array (Nat×Nat×Nat)}{g lo n:Nat}(hp:q.Perm p0)(C:fD r q 0 (sh pd) lo)(h1:1<=n)(u:Ri r q lo (lo+n)){Q:ForInStep U1->SortSt->Prop}(h:∀q pd g,q.Perm p0->fD r q 0 (sh pd) (lo+n)->1<=pd.size->Q (.yield (aC,lo+n)) (St κ f q pd g)) :
 wpS (model prog w) A E s (Eo lo n) Q (St κ f q pd g):=by
 unfold Eo;refine bg (xN (bz ?_));exact h q (pd.push (lo,n,0)) g hp (by rw[zs2];exact C.join ⟨rfl,h1,u,rfl⟩) (by rw[Array.size_push];lia)
theorem Oe(c:Cp prog w A s κ f r N){p0 q:Array Nat}(P:Pm N p0){pd:Array (Nat×Nat×Nat)}{g lo n z:Nat}(hp:q.Perm p0)(C:fD r q 0 (sh pd) lo)(h1:1<=n)(hl:lo+n<=N)(u:Ri r q lo (lo+n)){Q:ForInStep U1->SortSt->Prop}(h:∀q pd g,q.Perm p0->fD r q 0 (sh pd) (lo+n)->1<=pd.size->Q (.yield (aC,lo+n)) (St κ f q pd g)) :
 wpS (model prog w) A E s (Er z lo n) Q (St κ f q pd g):=by
 unfold Er;refine bg (nh ?_);show wpS _ _ _ _ (match pd.back? with|some (s1,n1,_)=>_|_=>_) _ _;cases e:pd.back? with
 |none=>exact Od hp C h1 u h
 |some x=>
  obtain⟨s1,n1,x3⟩:=x;dsimp only;have hz:1<=pd.size:=by rw[Array.back?_eq_getElem?]at e;have:=(Array.getElem?_eq_some_iff.mp e).1;lia
  generalize power' z (2*s1+n1) (2*s1+n1+n1+n) z=pw;refine bg (jk (jj (I:=λ_ d st'=>d=(aC,())/\∃q pd g,st'=St κ f q pd g/\q.Perm p0/\fD r q 0 (sh pd) lo/\1<=pd.size/\Ri r q lo (lo+n))
   (Q:=λd st'=>d=(aC,())/\∃q pd g,st'=St κ f q pd g/\q.Perm p0/\fD r q 0 (sh pd) lo/\1<=pd.size/\Ri r q lo (lo+n)) ?step (λ_ _ h=>h) ⟨rfl,q,pd,g,rfl,hp,C,hz,u⟩) ?post)
  case step=>
   rintro x d st' _ _ ⟨rfl,q,pd,g,rfl,hp,C,hz,u⟩;unfold Ep;refine bg (nh ?_);show wpS _ _ _ _ (match if pd.size>1 then pd[pd.size-2]? else aC with|some (_,_,old)=>_|_=>_) _ _;by_cases x:pd.size>1;rw[if_pos x,pB (by lia)];obtain⟨a,b,old⟩:=pd[pd.size-2];dsimp only;by_cases y:old<=pw;rw[if_pos y];exact bz ⟨rfl,q,pd,g,rfl,hp,C,hz,u⟩;rw[if_neg y];obtain⟨⟨sa,na,pw⟩,⟨sb,nb,Ic⟩,e1,e2,e3,e4⟩:=Ob (pd:=pd) (i:=pd.size-2) (by lia);dsimp only at e3 e4;rw[e3]at C;obtain⟨a,C1,C2⟩:=C.app;obtain⟨z1,ha,t1,z2,hb,t2,C3⟩:=C2;dsimp only at z1 ha t1 z2 hb t2 C3;subst z1 z2;have l1:=C1.le;have l3:=C3.le;refine bg (N9 c (P.perm hp) e1 e2 ha hb (by lia) t1 t2 λq' g' hq o v=>bz ⟨rfl,q',_,g',rfl,hq.trans hp,?_,?_,u.out o (.inr (by lia))⟩);rw[e4];refine(C1.out o (.inl (aR _))).join ⟨rfl,by lia,by rw[<-Df];exact v,?_⟩;rw[<-Df];exact C3.out o (.inr (aR _));rw[<-vI,e4,eF,cZ];lia;rw[if_neg x];exact bz ⟨rfl,q,pd,g,rfl,hp,C,hz,u⟩
  case post=>
   rintro d st' ⟨rfl,q,pd,g,rfl,hp,C,hz,u⟩;dsimp only;refine bg (xN ?_);exact Od (pd:=pd.modify (pd.size-1) _) hp (by rw[VS];exact C) h1 u h
theorem VT{pd:Array (Nat×Nat×Nat)}(h:1<pd.size):Ia pd+1<pd.size:=by
 unfold Ia
 repeat' split
 all_goals lia
theorem VU(c:Cp prog w A s κ f r N){p:Array Nat}(P:Pm N p)(h2:2<=N){Q:Unit->SortSt->Prop}(h:∀q pd g,q.Perm p->Ri r q 0 N->Q () (St κ f q pd g)):wpS (model prog w) A E s sortRuns' Q (St κ f p #[] 7):=by
 rw[VG];unfold N5;refine bg (nh ?_);have hz:(arrOf (St κ f p #[] 7)).size=N:=by show(p.map f).size=N;rw[Array.size_map];exact P.z
 rw[hz];generalize minRun' N N 0=mr;refine bg (jk (jj (I:=λx d st'=>∃lo q pd g,d=(aC,lo)/\st'=St κ f q pd g/\q.Perm p/\fD r q 0 (sh pd) lo/\lo<=N/\x<=lo)
  (Q:=λd st'=>∃q pd g,d=(aC,N)/\st'=St κ f q pd g/\q.Perm p/\fD r q 0 (sh pd) N) ?step ?fin ⟨0,p,#[],7,rfl,rfl,xR _,rfl,gu _,aR _⟩) ?post)
 case fin=>
  rintro d st' ⟨lo,q,pd,g,rfl,rfl,hp,C,a,b⟩;obtain rfl:lo=N:=by lia
  exact⟨q,pd,g,rfl,rfl,hp,C⟩
 case step=>
  rintro x d st' _ hx ⟨lo,q,pd,g,rfl,rfl,hp,C,a,b⟩;unfold N3;dsimp only;by_cases y:lo>=N;rw[if_pos y];obtain rfl:lo=N:=by lia
  exact bz ⟨q,pd,g,rfl,rfl,hp,C⟩;rw[if_neg y];refine bg (Vw c (P.perm hp) (by lia) (by lia) λn q' n1 nm hq o u=>?_);dsimp only;have C':=C.out o (.inl (aR _));have en:∀n,1<=n->lo+n<=N->∀q pd g,q.Perm p->fD r q 0 (sh pd) (lo+n)->1<=pd.size->∃lo' q' qQ g',((aC,lo+n):U1)=(aC,lo')/\St κ f q pd g=St κ f q' qQ g'/\q'.Perm p/\fD r q' 0 (sh qQ) lo'/\lo'<=N/\x+1<=lo':=λn n1 nm q pd g hp C _=>⟨_,q,pd,g,rfl,rfl,hp,C,nm,by lia⟩
  by_cases z:n<mr;rw[if_pos z];refine bg (uT (jW ⟨rfl,?_⟩));refine bg (Vx c (P.perm (hq.trans hp)) n1 (by lia) (by lia) u λq2 hq2 o2 u2=>?_);rw[if_neg (by simp)];exact Oe c P (hq2.trans (hq.trans hp)) (C'.out o2 (.inl (aR _))) (by lia) (by lia) u2 (en _ (by lia) (by lia));rw[if_neg z];exact Oe c P (hq.trans hp) C' n1 (by lia) u (en _ n1 (by lia))
 case post=>
  rintro d st' ⟨q,pd,g,rfl,rfl,hp,C⟩;dsimp only;have l:=C.le;rw[vI,lH]at l;have l1:1<=pd.size:=by
   rw[<-vI];cases e:sh pd with|nil=>rw[e]at C;have:0=N:=C;lia|cons a t=>rw[cZ];lia
  refine bg (jk (jj (I:=λx d st'=>d=(aC,())/\A5 κ f r p N (max 1 (N-x)) st')
   (Q:=λd st'=>d=(aC,())/\A5 κ f r p N 1 st') ?A6 ?Ie ⟨rfl,q,pd,g,rfl,hp,C,l1,by lia⟩) ?A7)
  case Ie=>
   rintro d st' ⟨rfl,I⟩;rw[show max 1 (N-max 0 N)=1 by lia]at I;exact⟨rfl,I⟩
  case A6=>
   rintro x d st' _ hx ⟨rfl,q,pd,g,rfl,hp,C,l1,l2⟩;unfold N4;refine bg (nh ?_);show wpS _ _ _ _ (if pd.size<=1 then _ else _) _ _;by_cases y:pd.size<=1;rw[if_pos y];exact bz ⟨rfl,q,pd,g,rfl,hp,C,l1,y⟩;rw[if_neg y];refine bg (Oc c P hp C (aR _) (VT (by lia)) λst I=>bz ⟨rfl,?_⟩);obtain⟨q,qQ,g,e,a,b,c1,c2⟩:=I;exact⟨q,qQ,g,e,a,b,c1,by lia⟩
  case A7=>
   rintro d st' ⟨rfl,q,pd,g,rfl,hp,C,l1,l2⟩;refine bz (h q pd g hp ?_);have e:(sh pd).length=1:=by rw[vI];lia
   obtain⟨x,ex⟩:=List.length_eq_one_iff.mp e;rw[ex]at C;obtain⟨_,_,u,v⟩:=C;have v:0+x.2=N:=v;rw[v]at u;exact u
end
end TS
namespace LX
noncomputable def bI:List Int->List Int->Bool|a::as,b::bs=>if a=b then bI as bs else decide (a<b)|_,_=>false
theorem Et:∀a:List Int,bI a a=false|[]=>rfl|x::r=>by unfold bI;rw[if_pos rfl];exact Et r
theorem A8:∀{a b c:List Int},a.length=b.length->b.length=c.length->bI a b=true->bI b c=true->bI a c=true
 |[],[],_,_,_,h,_=>by simp[bI]at h
 |x::a,y::b,z::c,h1,h2,h3,h4=>by
  unfold bI at h3 h4 ⊢;by_cases e1:x=y;subst e1;rw[if_pos rfl]at h3;by_cases e2:x=z;subst e2;rw[if_pos rfl]at h4 ⊢;exact A8 (by simpa using h1) (by simpa using h2) h3 h4;rw[if_neg e2]at h4 ⊢;exact h4;rw[if_neg e1]at h3;have l1:x<y:=by simpa using h3
  by_cases e2:y=z;subst e2;rw[if_neg e1];exact h3;rw[if_neg e2]at h4;have l2:y<z:=by simpa using h4
  rw[if_neg (by lia)];exact iE (by lia)
 |[],y::_,_,h,_,_,_=>by simp at h
 |_::_,[],_,h,_,_,_=>by simp at h
 |_::_,_::_,[],_,h,_,_=>by simp at h
theorem Eu:∀{a b:List Int},a.length=b.length->a≠b->bI a b=true\/bI b a=true
 |[],[],_,h=>absurd rfl h
 |x::a,y::b,h1,h2=>by
  unfold bI;by_cases e:x=y;subst e;rw[if_pos rfl,if_pos rfl];exact Eu (by simpa using h1) λz=>h2 (by rw[z]);rw[if_neg e,if_neg (λz=>e z.symm)];simp only[eE];lia
 |[],_::_,h,_=>by simp at h
 |_::_,[],h,_=>by simp at h
theorem Of{α:Type}{p q:α->Bool}:∀{l:List α} {x:α},(∀y∈l,p y=true->q y=true)->x∈l->p x=false->q x=true->l.countP p<l.countP q
 |y::l,x,h,hx,hp,hq=>by
  rw[List.countP_cons,List.countP_cons];have m:l.countP p<=l.countP q:=List.countP_mono_left λz hz=>h z (dj _ hz);have hy:=h y (dP ..);rcases fm.mp hx with e|e
  subst e;rw[hp,hq];simp;lia;have:=Of (λz hz=>h z (dj _ hz)) e hp hq;cases a:p y with|true=>rw[hy a];simp;lia|false=>simp;lia
noncomputable def rk(ks:List (List Int))(i:Nat):Int:=((ks.countP λk=>bI k (ks.getD i [])):Nat)
section
variable{ks:List (List Int)}{m:Nat}
theorem kU(hm:∀k∈ks,k.length=m){i j:Nat}(hi:i<ks.length)(hj:j<ks.length)(h:bI (ks.getD i []) (ks.getD j [])):rk ks i<rk ks j:=by
 have mi:ks.getD i []∈ks:=by simp[hi]
 have mj:ks.getD j []∈ks:=by simp[hj]
 unfold rk;refine Int.ofNat_lt.mpr (Of (x:=ks.getD i []) (λy hy e=>?_) mi (Et _) h);exact A8 (by rw[hm _ hy,hm _ mi]) (by rw[hm _ mi,hm _ mj]) e h
theorem Og(nd:ks.Nodup){i j:Nat}(hi:i<ks.length)(hj:j<ks.length)(h:i≠j):ks.getD i []≠ks.getD j []:=λe=>by
 have e':ks[i]=ks[j]:=by simpa[hi,hj]using e
 rcases Nat.lt_or_gt_of_ne h with x|x;exact uN.mp nd i j hi hj x e';exact uN.mp nd j i hj hi x e'.symm
theorem Oh(hm:∀k∈ks,k.length=m)(nd:ks.Nodup){i j:Nat}(hi:i<ks.length)(hj:j<ks.length):decide (rk ks i<rk ks j)=bI (ks.getD i []) (ks.getD j []):=by
 have mi:ks.getD i []∈ks:=by simp[hi]
 have mj:ks.getD j []∈ks:=by simp[hj]
 cases e:bI (ks.getD i []) (ks.getD j [])with
 |true=>exact iE (kU hm hi hj e)
 |false=>
  refine gF λz=>?_;by_cases x:i=j;subst x;lia;rcases Eu (by rw[hm _ mi,hm _ mj]) (Og nd hi hj x)with y|y
  rw[e]at y;cases y;have:=kU hm hj hi y;lia
theorem VW(hm:∀k∈ks,k.length=m)(nd:ks.Nodup){i j:Nat}(hi:i<ks.length)(hj:j<ks.length)(h:rk ks i=rk ks j):i=j:=by
 have mi:ks.getD i []∈ks:=by simp[hi]
 have mj:ks.getD j []∈ks:=by simp[hj]
 by_cases x:i=j;exact x;rcases Eu (by rw[hm _ mi,hm _ mj]) (Og nd hi hj x)with y|y
 have:=kU hm hi hj y;lia;have:=kU hm hj hi y;lia
end
noncomputable def Ew:List (List Int)->Bool|a::b::r=>bI a b&&Ew (b::r)|_=>true
end LX
namespace RF
open PySem
inductive W where
 |aL|bl (b:Bool)|int (i:Int)|str (x:Str)|tup (ws:List W)|fz (ws:List W)|ref (i:Nat)
mutual
noncomputable def W.lt(n:Nat):W->Bool|.tup ws=>W.kX n ws|.fz ws=>W.kX n ws|.ref i=>Nat.blt i n|_=>true
noncomputable def W.kX(n:Nat):List W->Bool|[]=>true|w::ws=>W.lt n w&&W.kX n ws
end
inductive VO where
 |lst (ws:List W)|dk (kvs:List (L2.Key×W))|dm (kvs:List (L2.Key×W))
structure VH where
 n:Nat
 lo:Nat
 os:List VO
noncomputable def VH.get(h:VH)(i:Nat):Option VO:=if Nat.blt i h.n then h.os[h.n-1-i]? else aC
noncomputable def VH.set(h:VH)(i:Nat)(o:VO):VH:=⟨h.n,if Nat.blt i h.lo then i else h.lo,h.os.set (h.n-1-i) o⟩
noncomputable def VH.new(h:VH)(o:VO):VH:=⟨h.n+1,h.lo,o::h.os⟩
inductive Res(α:Type)where
 |ok (a:α) (h:VH)|ex (x:W) (h:VH)|no
noncomputable def Res.bind{α β:Type}(r:Res α)(f:α->VH->Res β):Res β:=match r with|.ok a h=>f a h|.ex x h=>.ex x h|.no=>.no
noncomputable def Res.of{α:Type}(o:Option α)(h:VH):Res α:=match o with|some a=>.ok a h|none=>.no
inductive Op where
 |add|sub|mul|fdiv|mod|shl|pow
 deriving DecidableEq
inductive Cp where
 |eq|ne|lt|le|gt|ge|A9|vJ|jy|vK
 deriving DecidableEq
inductive Ty where
 |int|bool|tuple|list|str|dict
 deriving DecidableEq
inductive Bi where
 |len|list|tuple|int|abs|max|min|all|qR|Oi|bL|Ex
 deriving DecidableEq
inductive Mt where
 |append|get
 deriving DecidableEq
inductive Kd where
 |seq|bM|vL|pI|zip|keys
 deriving DecidableEq
inductive Tg where
 |one (i:Nat)|many (is:List Nat)|VX (i:Nat) (is:List Nat)
 deriving DecidableEq
inductive E where
 |var (i:Nat)|cst (w:W)
 |nil|cons (a r:E)
 |tup (a:E)|lst (a:E)|Ba (a:E)
 |op (o:Op) (a b:E)|neg (a:E)
 |cmp (c:Cp) (a b:E)|vM (c d:Cp) (a b e:E)
 |not (a:E)|and (a b:E)|or (a b:E)|kY (a:E)|ite (c a b:E)
 |idx (a b:E)|slc (a:E) (bl:Bool) (lo:E) (bh:Bool) (hi:E)
 |call (f:Nat) (a:E)|bi (b:Bi) (a:E)|nQ (t:Ty) (a:E)|mt (m:Mt) (o a:E)
 |lc (k:Kd) (a:E) (t:Tg) (ow:Nat) (ix:List Nat) (c e:E)
 |tW (k:Kd) (a:E) (t:Tg) (ow:Nat) (ix:List Nat) (c:E) (k2:Kd) (a2:E) (t2:Tg) (c2 e:E)
inductive S where
 |skip|seq (a b:S)|set (i:Nat) (e:E)|vN (is:List Nat) (e:E)|aug (i:Nat) (o:Op) (e:E)
 |put (o i v:E)|ite (c:E) (a b:S)|ret (e:E)|expr (e:E)|brk|cnt
 |for (k:Kd) (a:E) (t:Tg) (b:S)|Ey (c:E) (b:S)|no
noncomputable abbrev En:=List (Option W)
inductive Fl where
 |nx (ρ:En)|rt (w:W)|bk (ρ:En)|ct (ρ:En)
noncomputable def aP{α β:Type}(f:α->Option β):List α->Option (List β)
 |[]=>aB []
 |a::r=>match f a with
  |some b=>(match aP f r with
   |some bs=>aB (b::bs)
   |none=>aC)
  |none=>aC
noncomputable def toD(h:VH):Nat->W->Option aA
 |0,_=>aC
 |n+1,w=>match w with
  |.aL=>aB .none
  |.bl b=>aB (.bool b)
  |.int i=>aB (.int i)
  |.str x=>aB (.str x)
  |.tup ws=>(aP (toD h n) ws).map .tuple
  |.fz ws=>(aP (toD h n) ws).map .list
  |.ref i=>match h.get i with
   |some (.lst ws)=>(aP (toD h n) ws).map .list
   |_=>aC
noncomputable def b9(h:VH)(x y:W):Option Bool:=
 match toD h 24 x,toD h 24 y with|some d,aB e=>if SeqAt.shaped d&&SeqAt.shaped e then aB (PyData.eqv d e)else aC|_,_=>aC
noncomputable def big:Nat:=16777216
noncomputable def mW(i:Int):Bool:=decide (-(2 ^ 64)<i)&&decide (i<2 ^ 64)
noncomputable def dR:Op->Int->Int->Option Int|.add,i,j=>aB (i+j)|.sub,i,j=>aB (i-j)|.mul,i,j=>if mW i||mW j then aB (i*j)else aC|.fdiv,i,j=>if decide (0<j)&&decide (j<1073741824)then aB (i/j)else aC|.mod,i,j=>if decide (0<j)then aB (i % j)else aC|.shl,i,j=>if decide (0<=j)&&decide (j<=1000000)&&decide (i.natAbs<2 ^ 64)then aB (i*2 ^ j.toNat)else aC|.pow,i,j=>if decide (0<=j)&&decide (j<=1000000)&&decide (i.natAbs<2 ^ 64)then aB (i ^ j.toNat)else aC
noncomputable def Ez:Op->List W->List W->Option (List W)|.add,xs,ys=>if Nat.ble (xs.length+ys.length) big then aB (xs++ys)else aC|_,_,_=>aC
noncomputable def Ig:Op->List W->List W->Option (List W)|.add,xs,ys=>if Nat.ble (xs.length+ys.length) big then aB (xs++ys)else aC|_,_,_=>aC
noncomputable def fits(i:Int):Bool:=decide (-(2 ^ 62)<=i)&&decide (i<2 ^ 62)
noncomputable def qS(o:Op)(xs:List W)(k:Int):Option (List W):=match o with|.mul=>if fits k&&Nat.ble (xs.length*k.toNat) big then aB (bD k.toNat xs).flatten else aC|_=>aC
noncomputable def eW(o:Op)(x y:W)(h:VH):Res W:=match x,y with
 |.int i,.int j=>.of ((dR o i j).map .int) h
 |.tup xs,.tup ys=>.of ((Ez o xs ys).map .tup) h
 |.tup xs,.int k=>.of ((qS o xs k).map .tup) h
 |.ref i,.ref j=>match h.get i,h.get j with
  |some (.lst xs),aB (.lst ys)=>(match Ig o xs ys with
   |some zs=>.ok (.ref h.n) (h.new (.lst zs))
   |none=>.no)
  |_,_=>.no
 |_,_=>.no
noncomputable def yf(o:Op)(x y:W)(h:VH):Res W:=match x,y with
 |.int i,.int j=>(match o with
  |.add=>.ok (.int (i+j)) h
  |.sub=>.ok (.int (i-j)) h
  |.mul=>.of ((dR .mul i j).map .int) h
  |.fdiv=>.of ((dR .fdiv i j).map .int) h
  |_=>.no)
 |.ref i,.ref j=>match o,h.get i,h.get j with
  |.add,aB (.lst xs),aB (.lst ys)=>if Nat.ble (xs.length+ys.length) big then .ok (.ref i) (h.set i (.lst (xs++ys)))else .no
  |_,_,_=>.no
 |.tup (x::xs),.tup ys=>(match o with
  |.add=>if Nat.ble ((x::xs).length+ys.length) big then .ok (.tup (x::xs++ys)) h else .no
  |_=>.no)
 |_,_=>.no
noncomputable def fE:Cp->Int->Int->Option Bool|.lt,i,j=>aB (decide (i<j))|.le,i,j=>aB (decide (i<=j))|.gt,i,j=>aB (decide (j<i))|.ge,i,j=>aB (decide (j<=i))|_,_,_=>aC
noncomputable def dJ:W->Bool|.aL=>true|_=>false
noncomputable def aO(h:VH):W->Option (List W)
 |.tup ws=>aB ws
 |.fz ws=>aB ws
 |.ref i=>match h.get i with
  |some (.lst ws)=>aB ws
  |_=>aC
 |_=>aC
noncomputable def intD:W->Option Int|.int i=>aB i|_=>aC
noncomputable def lW(h:VH)(x y:W):Option Bool:=match aO h y,toD h 24 x with
 |some ws,aB d=>(match aP (toD h 24) ws with
  |some ds=>if ds.all SeqAt.shaped&&SeqAt.shaped d then aB (L2.ff ds d)else aC
  |none=>aC)
 |_,_=>aC
noncomputable def Bb:W->W->Option Bool|.bl c,.bl b=>aB (c==b)|_,_=>aC
noncomputable def aN(c:Cp)(h:VH)(x y:W):Option Bool:=match c with
 |.jy=>lW h x y
 |.vK=>(lW h x y).map (!·)
 |.eq=>b9 h x y
 |.ne=>(b9 h x y).map (!·)
 |.A9=>if dJ y then aB (dJ x)else Bb x y
 |.vJ=>if dJ y then aB (!dJ x)else(Bb x y).map (!·)
 |c=>match x,y with
  |.int i,.int j=>fE c i j
  |_,_=>aC
noncomputable def lX(h:VH):W->Option Bool
 |.bl b=>aB b
 |.int i=>aB (i != 0)
 |.aL=>aB false
 |.tup ws=>aB (!ws.isEmpty)
 |.ref i=>match h.get i with
  |some (.lst ws)=>aB (!ws.isEmpty)
  |_=>aC
 |_=>aC
noncomputable def qV:W->Option L2.Key|.int i=>aB (.inl i)|.str x=>aB (.inr x)|_=>aC
noncomputable def cj(kvs:List (L2.Key×W))(k:L2.Key):Option W:=(kvs.find? λkv=>decide (kv.1=k)).map (·.2)
noncomputable def jz(kvs:List (L2.Key×W))(k:L2.Key)(w:W):List (L2.Key×W):=
 if(kvs.any λkv=>decide (kv.1=k))=true then kvs.map (λkv=>if kv.1=k then(kv.1,w)else kv)else kvs++[(k,w)]
noncomputable def bF(h:VH)(x y:W):Option W:=match x,y with
 |.tup ws,.int i=>L2.dG ws i
 |.fz ws,.int i=>L2.dG ws i
 |.ref a,.int i=>(match h.get a with
  |some (.lst ws)=>L2.dG ws i
  |some (.dk kvs)=>cj kvs (.inl i)
  |some (.dm kvs)=>cj kvs (.inl i)
  |_=>aC)
 |.ref a,.str x=>(match h.get a with
  |some (.dk kvs)=>cj kvs (.inr x)
  |_=>aC)
 |_,_=>aC
noncomputable def eN(b:Bool)(w:W):Option (Option Int):=match b,w with|false,_=>aB aC|true,.int i=>aB (aB i)|_,_=>aC
noncomputable def iU(ws:List W)(lo hi:Option Int):List W:=(ws.drop (HT.bH ws.length 0 lo)).take (HT.bH ws.length ws.length hi-HT.bH ws.length 0 lo)
noncomputable def jA(x:W)(l u:Option Int)(h:VH):Res W:=match x with
 |.tup ws=>.ok (.tup (iU ws l u)) h
 |.ref i=>(match h.get i with
  |some (.lst ws)=>.ok (.ref h.n) (h.new (.lst (iU ws l u)))
  |_=>.no)
 |_=>.no
@[simp] theorem Bc {ws:List W} {l u:Option Int} {h:VH}:jA (.tup ws) l u h=.ok (.tup (iU ws l u)) h:=rfl
noncomputable def dU:Ty->VH->W->Option Bool
 |t,_,.aL=>aB false
 |t,_,.bl _=>aB (t == .int||t == .bool)
 |t,_,.int _=>aB (t == .int)
 |t,_,.str _=>aB (t == .str)
 |t,_,.tup _=>aB (t == .tuple)
 |_,_,.fz _=>aC
 |t,h,.ref i=>match h.get i with
  |some (.lst _)=>aB (t == .list)
  |some (.dk _)=>aB (t == .dict)
  |_=>aC
noncomputable def fO(xs:List W)(h:VH):Res W:=match xs with
 |[x]=>.of (match aO h x with
  |some ws=>aB (.int ws.length)
  |none=>aC) h
 |_=>.no
noncomputable def gR(xs:List W)(h:VH):Res W:=match xs with
 |[x]=>(match aO h x with
  |some ws=>.ok (.ref h.n) (h.new (.lst ws))
  |none=>.no)
 |_=>.no
noncomputable def qW(xs:List W)(h:VH):Res W:=match xs with
 |[x]=>.of (match aO h x with
  |some ws=>aB (.tup ws)
  |none=>aC) h
 |_=>.no
noncomputable def kg(xs:List W)(h:VH):Res W:=match xs with|[.int i]=>.ok (.int i) h|[.bl b]=>.ok (.int (if b then 1 else 0)) h|_=>.no
noncomputable def kh(xs:List W)(h:VH):Res W:=match xs with|[.int i]=>.ok (.int (if i<0 then -i else i)) h|_=>.no
noncomputable def iZ:W->Option Int|.int i=>aB i|_=>aC
noncomputable def dH:Int->List Int->Int|x,[]=>x|x,y::r=>dH (if y>x then y else x) r
noncomputable def qX(xs:List W)(h:VH):Res W:=match xs with
 |[.int i,.int j]=>.ok (.int (if j>i then j else i)) h
 |[.ref i]=>(match h.get i with
  |some (.lst ws)=>(match aP iZ ws with
   |some (x::r)=>.ok (.int (dH x r)) h
   |_=>.no)
  |_=>.no)
 |_=>.no
noncomputable def ki(xs:List W)(h:VH):Res W:=match xs with|[.int i,.int j]=>.ok (.int (if j<i then j else i)) h|_=>.no
noncomputable def pJ:W->Option Bool|.bl b=>aB b|_=>aC
noncomputable def lY(xs:List W)(h:VH):Res W:=match xs with
 |[.ref i]=>(match h.get i with
  |some (.lst ws)=>.of ((aP pJ ws).map λbs=>.bl (bs.all id)) h
  |_=>.no)
 |_=>.no
noncomputable def fP(j:Nat):List W:=(List.range' 0 j).map λ(i:Nat)=>W.int (0+ (i:Int))
noncomputable def gS(xs:List W)(h:VH):Res W:=match xs with|[.int i]=>if decide (0<=i)&&Nat.ble i.toNat big then .ok (.ref h.n) (h.new (.lst (fP i.toNat)))else .no|_=>.no
noncomputable def vO(xs:List W)(h:VH):Res W:=match xs with|[]=>.ok (.ref h.n) (h.new (.dm []))|_=>.no
noncomputable def Be(xs:List W)(h:VH):Res W:=match xs with
 |[.ref i]=>(match h.get i with
  |some (.dm kvs)=>.ok (.ref i) (h.set i (.dk kvs))
  |some (.dk _)=>.ok (.ref i) h
  |_=>.no)
 |_=>.no
noncomputable def kW:W->Option (List Int)|.tup ws=>aP iZ ws|_=>aC
noncomputable def lZ(x:List Int):List (List Int)->List (List Int)|[]=>[x]|y::r=>if LX.bI x y then x::y::r else y::lZ x r
noncomputable def jB:List (List Int)->List (List Int)|[]=>[]|x::r=>lZ x (jB r)
noncomputable def nR:List (List Int)->Bool|k::k2::r=>Nat.ble 1 k.length&& (k::k2::r).all λq=>Nat.beq q.length k.length|_=>true
noncomputable def l9(xs:List W)(h:VH):Res W:=match xs with
 |[.ref i]=>(match h.get i with
  |some (.lst ws)=>(match aP kW ws with
   |some ks=>if decide ks.Nodup&&nR ks then .ok (.ref h.n) (h.new (.lst ((jB ks).map λk=>.tup (k.map .int))))else .no
   |none=>.no)
  |_=>.no)
 |_=>.no
noncomputable def gT(b:Bi)(xs:List W)(h:VH):Res W:=match b with|.abs=>kh xs h|.max=>qX xs h|.min=>ki xs h|.all=>lY xs h|.qR=>gS xs h|.Oi=>vO xs h|.bL=>Be xs h|.Ex=>l9 xs h|.len=>fO xs h|.list=>gR xs h|.tuple=>qW xs h|.int=>kg xs h
noncomputable def EA(kvs more:List (L2.Key×W)):List (L2.Key×W):=more.foldl (λacc kv=>jz acc kv.1 kv.2) kvs
noncomputable def qY(m:Mt)(o:W)(xs:List W)(h:VH):Res W:=match m,o,xs with
 |.append,.ref i,[x]=>(match h.get i with
  |some (.lst ws)=>if Nat.blt ws.length big then .ok .aL (h.set i (.lst (ws++[x])))else .no
  |_=>.no)
 |.get,.ref i,[k,d]=>(match h.get i,qV k with
  |some (.dk kvs),aB k=>.ok ((cj kvs k).getD d) h
  |some (.dm kvs),aB k=>.ok ((cj kvs k).getD d) h
  |_,_=>.no)
 |_,_,_=>.no
noncomputable def vP(m:Mt)(h:VH)(o:W):Bool:=match m,o with
 |.append,.ref i=>(match h.get i with
  |some (.lst _)=>true
  |_=>false)
 |.get,.ref i=>(match h.get i with
  |some (.dk _)=>true
  |some (.dm _)=>true
  |_=>false)
 |_,_=>false
noncomputable def Ih:L2.Key->W|.inl i=>.int i|.inr x=>.str x
noncomputable def aZ(k:Kd)(x:W)(i:Nat)(h:VH):Option (Option W):=match k with
 |.seq=>(aO h x).map λws=>ws[i]?
 |.pI=>(match x with
  |.tup ws=>aB ((ws[i]?).map λw=>.tup [.int i,w])
  |_=>aC)
 |.keys=>(match x with
  |.ref a=>(match h.get a with
   |some (.dk kvs)=>(match kvs[i]? with
    |some kv=>aB (aB (Ih kv.1))
    |none=>if Nat.beq i kvs.length then aB aC else aC)
   |_=>aC)
  |_=>aC)
 |.zip=>(match x with
  |.tup [u,v]=>(match aO h u,aO h v with
   |some ws,aB zs=>aB (match ws[i]?,zs[i]? with
    |some a,aB b=>aB (.tup [a,b])
    |_,_=>aC)
   |_,_=>aC)
  |_=>aC)
 |.bM=>(match x with
  |.tup [.int j]=>if fits j then aB (if decide ((i:Int)<j)then aB (.int (0+i))else aC)else aC
  |_=>aC)
 |.vL=>(match x with
  |.tup [.int a,.int b]=>if fits a&&fits b then aB (if decide ((i:Int)<b-a)then aB (.int (a+i))else aC)else aC
  |_=>aC)
noncomputable def iV:List Nat->List W->En->Option En|[],[],ρ=>aB ρ|i::is,w::ws,ρ=>iV is ws (ρ.set i (aB w))|_,_,_=>aC
noncomputable def aX(t:Tg)(w:W)(h:VH)(ρ:En):Option En:=match t with
 |.one i=>aB (ρ.set i (aB w))
 |.VX j is=>(match w with
  |.tup [x,y]=>(match aO h y with
   |some ws=>iV is ws (ρ.set j (aB x))
   |none=>aC)
  |_=>aC)
 |.many is=>match aO h w with
  |some ws=>iV is ws ρ
  |none=>aC
noncomputable def fuel:Nat:=1000000
noncomputable def inner(ow:Nat)(ix:List Nat)(ρ:En):En:=bD ow aC++ix.map λj=>(ρ[j]?).join
noncomputable def eB(nx:Nat->VH->Option (Option W))(tg:W->VH->En->Option En)(c:En->VH->Res W)(e:En->VH->Res W):Nat->Nat->En->VH->List W->Res (List W)
 |0,_,_,_,_=>.no
 |f+1,i,ρ,h,acc=>match nx i h with
  |none=>.no
  |some aC=>.ok acc.reverse h
  |some (aB w)=>match tg w h ρ with
   |none=>.no
   |some ρ=>(c ρ h).bind λb h=>match b with
    |.bl true=>(e ρ h).bind λy h=>eB nx tg c e f (i+1) ρ h (y::acc)
    |.bl false=>eB nx tg c e f (i+1) ρ h acc
    |_=>.no
noncomputable def gU(nx:Nat->VH->Option (Option W))(tg:W->VH->En->Option En)(c:En->VH->Res W)(e:En->VH->Res W):Nat->Nat->En->VH->List W->Res (En×List W)
 |0,_,_,_,_=>.no
 |f+1,i,ρ,h,acc=>match nx i h with
  |none=>.no
  |some aC=>.ok (ρ,acc) h
  |some (aB w)=>match tg w h ρ with
   |none=>.no
   |some ρ=>(c ρ h).bind λb h=>match b with
    |.bl true=>(e ρ h).bind λy h=>gU nx tg c e f (i+1) ρ h (y::acc)
    |.bl false=>gU nx tg c e f (i+1) ρ h acc
    |_=>.no
noncomputable def iX(nx:Nat->VH->Option (Option W))(tg:W->VH->En->Option En)(c:En->VH->Res W)(jy:En->VH->List W->Res (En×List W)):Nat->Nat->En->VH->List W->Res (List W)
 |0,_,_,_,_=>.no
 |f+1,i,ρ,h,acc=>match nx i h with
  |none=>.no
  |some aC=>.ok acc.reverse h
  |some (aB w)=>match tg w h ρ with
   |none=>.no
   |some ρ=>(c ρ h).bind λb h=>match b with
    |.bl true=>(jy ρ h acc).bind λp h=>iX nx tg c jy f (i+1) p.1 h p.2
    |.bl false=>iX nx tg c jy f (i+1) ρ h acc
    |_=>.no
noncomputable def dB(nx:Nat->VH->Option (Option W))(tg:W->VH->En->Option En)(b:En->VH->Res Fl):Nat->Nat->En->VH->Res Fl
 |0,_,_,_=>.no
 |f+1,i,ρ,h=>match nx i h with
  |none=>.no
  |some aC=>.ok (.nx ρ) h
  |some (aB w)=>match tg w h ρ with
   |none=>.no
   |some ρ=>(b ρ h).bind λfl h=>match fl with
    |.nx ρ=>dB nx tg b f (i+1) ρ h
    |.ct ρ=>dB nx tg b f (i+1) ρ h
    |.bk ρ=>.ok (.nx ρ) h
    |.rt w=>.ok (.rt w) h
noncomputable def fF(c:En->VH->Res W)(b:En->VH->Res Fl):Nat->En->VH->Res Fl
 |0,_,_=>.no
 |f+1,ρ,h=>(c ρ h).bind λt h=>match t with
  |.bl false=>.ok (.nx ρ) h
  |.bl true=>(b ρ h).bind λfl h=>match fl with
   |.nx ρ=>fF c b f ρ h
   |.ct ρ=>fF c b f ρ h
   |.bk ρ=>.ok (.nx ρ) h
   |.rt w=>.ok (.rt w) h
  |_=>.no
noncomputable def tX:List W->Option (List (L2.Key×W))
 |[]=>aB []
 |k::v::r=>match qV k with
  |some k=>(match tX r with
   |some kvs=>aB ((k,v)::kvs)
   |none=>aC)
  |none=>aC
 |_=>aC
noncomputable def Bg(kvs:List (L2.Key×W)):VO:=.dk (EA [] kvs)
noncomputable def qZ(ρ:En)(a:Nat)(j:Int)(w:W)(h:VH):Res Fl:=match h.get a with|some (.dm kvs)=>if Nat.blt kvs.length big then .ok (.nx ρ) (h.set a (.dm (jz kvs (.inl j) w)))else .no|_=>.no
noncomputable abbrev Call:=Nat->List W->VH->Res W
noncomputable def ev(cl:Call):E->En->VH->Res W
 |.var i,ρ,h=>.of (ρ[i]?).join h
 |.cst w,_,h=>.ok w h
 |.nil,_,h=>.ok (.tup []) h
 |.cons a r,ρ,h=>(ev cl a ρ h).bind λx h=>(ev cl r ρ h).bind λy h=>match y with
  |.tup ys=>.ok (.tup (x::ys)) h
  |_=>.no
 |.tup a,ρ,h=>(ev cl a ρ h).bind λy h=>match y with
  |.tup ys=>if Nat.ble ys.length 1000 then .ok (.tup ys) h else .no
  |_=>.no
 |.lst a,ρ,h=>(ev cl a ρ h).bind λy h=>match y with
  |.tup ys=>if Nat.ble ys.length 1000 then .ok (.ref h.n) (h.new (.lst ys))else .no
  |_=>.no
 |.Ba a,ρ,h=>(ev cl a ρ h).bind λy h=>match y with
  |.tup ys=>(match tX ys with
   |some kvs=>if Nat.ble kvs.length 15 then .ok (.ref h.n) (h.new (Bg kvs))else .no
   |none=>.no)
  |_=>.no
 |.op o a b,ρ,h=>(ev cl a ρ h).bind λx h=>(ev cl b ρ h).bind λy h=>eW o x y h
 |.neg a,ρ,h=>(ev cl a ρ h).bind λx h=>match x with
  |.int i=>.ok (.int (-i)) h
  |_=>.no
 |.cmp c a b,ρ,h=>(ev cl a ρ h).bind λx h=>(ev cl b ρ h).bind λy h=>.of ((aN c h x y).map .bl) h
 |.vM c d a b e,ρ,h=>(ev cl a ρ h).bind λx h=>(ev cl b ρ h).bind λy h=>match aN c h x y with
  |some true=>(ev cl e ρ h).bind λz h=>.of ((aN d h y z).map .bl) h
  |some false=>.ok (.bl false) h
  |none=>.no
 |.not a,ρ,h=>(ev cl a ρ h).bind λx h=>match x with
  |.bl b=>.ok (.bl (!b)) h
  |_=>.no
 |.and a b,ρ,h=>(ev cl a ρ h).bind λx h=>match x with
  |.bl true=>ev cl b ρ h
  |.bl false=>.ok (.bl false) h
  |_=>.no
 |.or a b,ρ,h=>(ev cl a ρ h).bind λx h=>match x with
  |.bl true=>.ok (.bl true) h
  |.bl false=>ev cl b ρ h
  |_=>.no
 |.kY a,ρ,h=>(ev cl a ρ h).bind λx h=>.of ((lX h x).map .bl) h
 |.ite c a b,ρ,h=>(ev cl c ρ h).bind λx h=>match x with
  |.bl true=>ev cl a ρ h
  |.bl false=>ev cl b ρ h
  |_=>.no
 |.idx a b,ρ,h=>(ev cl a ρ h).bind λx h=>(ev cl b ρ h).bind λy h=>.of (bF h x y) h
 |.slc a bl lo bh hi,ρ,h=>(ev cl a ρ h).bind λx h=>(ev cl lo ρ h).bind λl h=>(ev cl hi ρ h).bind λu h=>match eN bl l,eN bh u with
  |some l,aB u=>jA x l u h
  |_,_=>.no
 |.call f a,ρ,h=>(ev cl a ρ h).bind λy h=>match y with
  |.tup ys=>cl f ys h
  |_=>.no
 |.bi b a,ρ,h=>(ev cl a ρ h).bind λy h=>match y with
  |.tup ys=>gT b ys h
  |_=>.no
 |.nQ t a,ρ,h=>(ev cl a ρ h).bind λx h=>.of ((dU t h x).map .bl) h
 |.mt m o a,ρ,h=>(ev cl o ρ h).bind λx h=>if vP m h x then(ev cl a ρ h).bind λy h=>match y with
  |.tup ys=>qY m x ys h
  |_=>.no
  else .no
 |.lc k a t ow ix c e,ρ,h=>(ev cl a ρ h).bind λx h=>(eB (aZ k x) (aX t) (ev cl c) (ev cl e) fuel 0 (inner ow ix ρ) h []).bind λys h=>if Nat.ble ys.length big then .ok (.ref h.n) (h.new (.lst ys))else .no
 |.tW k a t ow ix c k2 a2 t2 c2 e,ρ,h=>(ev cl a ρ h).bind λx h=>(iX (aZ k x) (aX t) (ev cl c) (λρ h acc=>(ev cl a2 ρ h).bind λy h=>gU (aZ k2 y) (aX t2) (ev cl c2) (ev cl e) fuel 0 ρ h acc) fuel 0 (inner ow ix ρ) h []).bind λys h=>if Nat.ble ys.length big then .ok (.ref h.n) (h.new (.lst ys))else .no
noncomputable def exs(cl:Call):S->En->VH->Res Fl
 |.skip,ρ,h=>.ok (.nx ρ) h
 |.seq a b,ρ,h=>(exs cl a ρ h).bind λfl h=>match fl with
  |.nx ρ=>exs cl b ρ h
  |fl=>.ok fl h
 |.set i e,ρ,h=>(ev cl e ρ h).bind λw h=>.ok (.nx (ρ.set i (aB w))) h
 |.vN is e,ρ,h=>(ev cl e ρ h).bind λw h=>.of ((aX (.many is) w h ρ).map .nx) h
 |.aug i o e,ρ,h=>match(ρ[i]?).join with
  |some x=>(ev cl e ρ h).bind λy h=>(yf o x y h).bind λz h=>.ok (.nx (ρ.set i (aB z))) h
  |none=>.no
 |.put o i v,ρ,h=>(ev cl v ρ h).bind λw h=>(ev cl o ρ h).bind λx h=>(ev cl i ρ h).bind λy h=>match x,y with
  |.ref a,.int j=>(match h.get a with
   |some (.lst ws)=>(match L2.iA ws.length j with
    |some k=>.ok (.nx ρ) (h.set a (.lst (ws.set k w)))
    |none=>.no)
   |_=>qZ ρ a j w h)
  |_,_=>.no
 |.ite c a b,ρ,h=>(ev cl c ρ h).bind λx h=>match x with
  |.bl true=>exs cl a ρ h
  |.bl false=>exs cl b ρ h
  |_=>.no
 |.ret e,ρ,h=>(ev cl e ρ h).bind λw h=>.ok (.rt w) h
 |.expr e,ρ,h=>(ev cl e ρ h).bind λ_ h=>.ok (.nx ρ) h
 |.brk,ρ,h=>.ok (.bk ρ) h
 |.cnt,ρ,h=>.ok (.ct ρ) h
 |.for k a t b,ρ,h=>(ev cl a ρ h).bind λx h=>dB (aZ k x) (aX t) (exs cl b) fuel 0 ρ h
 |.Ey c b,ρ,h=>fF (ev cl c) (exs cl b) fuel ρ h
 |.no,_,_=>.no
structure Fn where
 ps:Nat
 n:Nat
 body:S
noncomputable def leave(h:VH)(w:W)(h':VH):Res W:=
 if Nat.ble h.n h'.lo&&W.lt h.n w then .ok w h else .ok w ⟨h'.n,if Nat.ble h.lo h'.lo then h.lo else h'.lo,h'.os⟩
noncomputable def run(F:Nat->Option Fn):Nat->Call
 |0,_,_,_=>.no
 |k+1,f,ws,h=>match F f with
  |some fn=>if Nat.beq ws.length fn.ps then
   (exs (run F k) fn.body (ws.map aB++bD (fn.n-fn.ps) aC) ⟨h.n,h.n,h.os⟩).bind λfl h'=>match fl with|.nx _=>leave h .aL h'|.rt w=>leave h w h'|_=>.no
   else .no
  |none=>.no
open L2 PyProof.Rows PySem.Spec
noncomputable def Fz(K:aH)(H:Hp)(a:ah)(xs:List V):Prop:=
 (∃o,H a=aB (.bL o (.lst xs)))\/∃(o:Obj) (its:Array aa) (n:Nat),K.lookup a=aB o/\o.cls=.type "list"/\o.dict=aC/\o.data=.seq its n/\its.size<=sizeLine/\Vals xs its.toList
theorem Fz.sq{K:aH}{H:Hp}{a:ah}{xs:List V}(h:Fz K H a xs):cH K H a xs:=h.elim (λ⟨o,q⟩=>.inl (.inr ⟨o,q⟩)) .inr
mutual
inductive aI(K:aH)(m:Nat->ah)(n:Nat)(H:Hp):V->W->Prop
 |aL:aI K m n H .aL .aL
 |bl (b:Bool):aI K m n H (.bl b) (.bl b)
 |int (i:Int):aI K m n H (.int i) (.int i)
 |str (x:Str):aI K m n H (.str x) (.str x)
 |tup {a:ah} {vs:List V} {ws:List W}:bW K H a vs->aE K m n H vs ws->aI K m n H (.ref a) (.tup ws)
 |fz {a:ah} {vs:List V} {ws:List W}:Fz K H a vs->aE K m n H vs ws->aI K m n H (.ref a) (.fz ws)
 |ref {i:Nat}:i<n->aI K m n H (.ref (m i)) (.ref i)
inductive aE(K:aH)(m:Nat->ah)(n:Nat)(H:Hp):List V->List W->Prop
 |nil:aE K m n H [] []
 |cons {v:V} {w:W} {vs:List V} {ws:List W}:aI K m n H v w->aE K m n H vs ws->aE K m n H (v::vs) (w::ws)
end
inductive aM(K:aH)(m:Nat->ah)(n:Nat)(H:Hp):List (Key×V)->List (Key×W)->Prop
 |nil:aM K m n H [] []
 |cons {k:Key} {v:V} {w:W} {vs:List (Key×V)} {ws:List (Key×W)}:aI K m n H v w->aM K m n H vs ws->aM K m n H ((k,v)::vs) ((k,w)::ws)
noncomputable def fY(K:aH)(m:Nat->ah)(n:Nat)(H:Hp)(a:ah):VO->Prop|.lst ws=>∃vs,H a=aB (.lst vs)/\aE K m n H vs ws|.dk kvs=>∃kv,Rd H a (.dK kv)/\aM K m n H kv kvs|.dm kvs=>∃kv,H a=aB (.dK kv)/\aM K m n H kv kvs
structure Rel(K:aH)(m:Nat->ah)(h:VH)(H:Hp):Prop where
 obj:∀i,i<h.n->∃o,h.get i=aB o/\fY K m h.n H (m i) o
 inj:∀i j,i<h.n->j<h.n->m i=m j->i=j
 len:h.os.length=h.n
structure bQ(m:Nat->ah)(n:Nat)(H:Hp)(m':Nat->ah)(n':Nat)(H':Hp):Prop where
 le:n<=n'
 same:∀i,i<n->m' i=m i
 new:∀i,n<=i->i<n'->H (m' i)=aC
 apart:∀i j,n<=i->i<n'->j<n->m' i≠m' j
 tup:∀b vs,H b=aB (.tup vs)->H' b=aB (.tup vs)
 bL:∀b o u,H b=aB (.bL o u)->H' b=aB (.bL o u)
 keep:∀b o,(∀i,i<n->m i≠b)->H b=aB o->H' b=aB o
section
variable{K:aH}{m m' m1 m2:Nat->ah}{n n' n1 n2:Nat}{h h':VH}{H H' H1 H2:Hp}
theorem bQ.refl:bQ m n H m n H:=⟨aR _,λ_ _=>rfl,λi a b=>absurd b (jh.mpr a),λi j a b=>absurd b (jh.mpr a),λ_ _ q=>q,λ_ _ _ q=>q,λ_ _ _ q=>q⟩
theorem bQ.trans(a:bQ m n H m1 n1 H1)(b:bQ m1 n1 H1 m2 n2 H2):bQ m n H m2 n2 H2 where
 le:=gJ a.le b.le
 same:=λi hi=>(b.same i (ek hi a.le)).trans (a.same i hi)
 new:=λi hi hi2=>by
  by_cases hc:i<n1;rw[b.same i hc];exact a.new i hi hc;have hc:=jh.mp hc;cases q:H (m2 i)with
  |none=>rfl
  |some o=>
   have q1:H1 (m2 i)=aC:=b.new i hc hi2;rw[a.keep _ o (λj hj z=>b.apart i j hc hi2 (ek hj a.le) ((b.same j (ek hj a.le)).trans ((a.same j hj).trans z)).symm) q]at q1;cases q1
 apart:=λi j hi hi2 hj=>by
  by_cases hc:i<n1;rw[b.same i hc,b.same j (ek hj a.le)];exact a.apart i j hi hc hj;exact b.apart i j (jh.mp hc) hi2 (ek hj a.le)
 tup:=λc vs q=>b.tup c vs (a.tup c vs q)
 bL:=λc o u q=>b.bL c o u (a.bL c o u q)
 keep:=λc o hc q=>b.keep c o (λi hi=>by
  by_cases hl:i<n;rw[a.same i hl];exact hc i hl;intro z;have:=a.new i (jh.mp hl) hi;rw[z,q]at this;cases this) (a.keep c o hc q)
theorem bQ.VY{a:ah}{vs:List V}(s:bQ m n H m' n' H')(q:bW K H a vs):bW K H' a vs:=by rcases q with(q|⟨o,q⟩)|q;exact .inl (.inl (s.tup _ _ q));exact .inl (.inr ⟨o,s.bL _ _ _ q⟩);exact .inr q
theorem bQ.fz{a:ah}{vs:List V}(s:bQ m n H m' n' H')(q:Fz K H a vs):Fz K H' a vs:=by rcases q with⟨o,q⟩|q;exact .inl ⟨o,s.bL _ _ _ q⟩;exact .inr q
mutual
theorem aI.stp(s:bQ m n H m' n' H'):∀{v:V} {w:W},aI K m n H v w->aI K m' n' H' v w|_,_,.aL=>.aL|_,_,.bl b=>.bl b|_,_,.int b=>.int b|_,_,.str b=>.str b|_,_,.tup q r=>.tup (s.VY q) (aE.stp s r)|_,_,.fz q r=>.fz (s.fz q) (aE.stp s r)|_,_,.ref (i:=i) q=>by rw[<-s.same i q];exact .ref (ek q s.le)
theorem aE.stp(s:bQ m n H m' n' H'):∀{vs:List V} {ws:List W},aE K m n H vs ws->aE K m' n' H' vs ws|_,_,.nil=>.nil|_,_,.cons q r=>.cons (aI.stp s q) (aE.stp s r)
end
theorem aM.stp(s:bQ m n H m' n' H'):∀{vs:List (Key×V)} {ws:List (Key×W)},aM K m n H vs ws->aM K m' n' H' vs ws|_,_,.nil=>.nil|_,_,.cons q r=>.cons (q.stp s) (aM.stp s r)
theorem aE.length:∀{vs:List V} {ws:List W},aE K m n H vs ws->vs.length=ws.length|_,_,.nil=>rfl|_,_,.cons _ r=>by rw[cZ,cZ,aE.length r]
theorem aE.get:∀{vs:List V} {ws:List W} {i:Nat} {w:W},aE K m n H vs ws->ws[i]?=aB w->∃v,vs[i]?=aB v/\aI K m n H v w
 |_,_,_,_,.nil,e=>by simp at e
 |_,_,0,_,.cons q _,e=>by simp at e;subst e;exact⟨_,rfl,q⟩
 |_,_,i+1,w,.cons _ r,e=>by
  obtain⟨v,h1,h2⟩:=aE.get (i:=i) (w:=w) r (by simpa using e);exact⟨v,by simpa using h1,h2⟩
theorem aE.append:∀{vs us:List V} {ws zs:List W},aE K m n H vs ws->aE K m n H us zs->aE K m n H (vs++us) (ws++zs)|_,_,_,_,.nil,r=>r|_,_,_,_,.cons q r,t=>.cons q (aE.append r t)
theorem aE.drop:∀(k:Nat) {vs:List V} {ws:List W},aE K m n H vs ws->aE K m n H (vs.drop k) (ws.drop k)|0,_,_,r=>r|_+1,_,_,.nil=>.nil|k+1,_,_,.cons _ r=>aE.drop k r
theorem aE.take:∀(k:Nat) {vs:List V} {ws:List W},aE K m n H vs ws->aE K m n H (vs.take k) (ws.take k)|0,_,_,r=>.nil|_+1,_,_,.nil=>.nil|k+1,_,_,.cons q r=>.cons q (aE.take k r)
theorem aE.set{v:V}{w:W}(q:aI K m n H v w):∀(k:Nat) {vs:List V} {ws:List W},aE K m n H vs ws->aE K m n H (vs.set k v) (ws.set k w)|_,_,_,.nil=>.nil|0,_,_,.cons _ r=>.cons q r|k+1,_,_,.cons p r=>.cons p (aE.set q k r)
theorem fY.stp{a:ah}{o:VO}(s:bQ m n H m' n' H')(e:H' a=H a)(q:fY K m n H a o):fY K m' n' H' a o:=by
 cases o with|lst ws=>obtain⟨vs,h1,h2⟩:=q;exact⟨vs,e.trans h1,h2.stp s⟩|dk ws=>obtain⟨vs,h1,h2⟩:=q;exact⟨vs,h1.imp (λz=>e.trans z) λ⟨o,z⟩=>⟨o,e.trans z⟩,h2.stp s⟩|dm ws=>obtain⟨vs,h1,h2⟩:=q;exact⟨vs,e.trans h1,h2.stp s⟩
theorem fY.some{a:ah}{o:VO}(q:fY K m n H a o):∃u,H a=aB u:=by
 cases o with
 |lst ws=>obtain⟨vs,h1,h2⟩:=q;exact⟨_,h1⟩
 |dk ws=>
  obtain⟨vs,h1,h2⟩:=q;rcases h1 with h1|⟨o,h1⟩<;>exact⟨_,h1⟩
 |dm ws=>obtain⟨vs,h1,h2⟩:=q;exact⟨_,h1⟩
theorem gx{i j:Nat}:Nat.blt i j=true↔i<j:=by unfold Nat.blt;rw[oZ];exact Iff.rfl
theorem cR{i:Nat}{o:VO}(q:h.get i=aB o):i<h.n:=by unfold VH.get at q;split at q;rename_i z;exact gx.mp z;cases q
theorem Rel.at_(r:Rel K m h H){i:Nat}{o:VO}(q:h.get i=aB o):fY K m h.n H (m i) o:=by obtain⟨o',h1,h2⟩:=r.obj i (cR q);rw[q]at h1;cases h1;exact h2
theorem Rel.lst(r:Rel K m h H){i:Nat}{ws:List W}(q:h.get i=aB (.lst ws)):∃vs,H (m i)=aB (.lst vs)/\aE K m h.n H vs ws:=r.at_ q
theorem Rel.dk(r:Rel K m h H){i:Nat}{ws:List (Key×W)}(q:h.get i=aB (.dk ws)):∃vs,Rd H (m i) (.dK vs)/\aM K m h.n H vs ws:=r.at_ q
theorem Rel.dm(r:Rel K m h H){i:Nat}{ws:List (Key×W)}(q:h.get i=aB (.dm ws)):∃vs,H (m i)=aB (.dK vs)/\aM K m h.n H vs ws:=r.at_ q
theorem iB{i:Nat}{o:VO}(hi:i<h.n):(h.new o).get i=h.get i:=by
 unfold VH.get VH.new;have h1:Nat.blt i (h.n+1)=true:=gx.mpr (pW hi);have h2:Nat.blt i h.n=true:=gx.mpr hi;simp only[h1,h2,bX];have:h.n+1-1-i=(h.n-1-i)+1:=by lia
 rw[this];rfl
theorem fj{o:VO}:(h.new o).get h.n=aB o:=by
 unfold VH.get VH.new;have h1:Nat.blt h.n (h.n+1)=true:=gx.mpr (iO _);simp only[h1,bX];have:h.n+1-1-h.n=0:=by lia
 rw[this];rfl
theorem Rel.alloc(r:Rel K m h H){p:ah}{o:VO}{u:HO}(hp:H p=aC)(hu:∀t,u≠.tup t)
 (ho:bQ m h.n H (λi=>if i=h.n then p else m i) (h.n+1) (upd H p u)->fY K (λi=>if i=h.n then p else m i) (h.n+1) (upd H p u) p o) :
 bQ m h.n H (λi=>if i=h.n then p else m i) (h.n+1) (upd H p u)/\Rel K (λi=>if i=h.n then p else m i) (h.new o) (upd H p u):=by
 have tr:∀i,i<h.n->m i≠p:=λi hi z=>by
  obtain⟨o',_,h2⟩:=r.obj i hi;obtain⟨u',h3⟩:=h2.some;rw[z,hp]at h3;cases h3
 have st:bQ m h.n H (λi=>if i=h.n then p else m i) (h.n+1) (upd H p u):=by
  refine⟨sW _,λi hi=>by simp only[if_neg (fL hi)],λi hi hi2=>?_,λi j hi hi2 hj=>?_,λb vs q=>?_,λb o u q=>?_,λb o _ q=>?_⟩;have:i=h.n:=by lia
  subst this;simp only[bX];exact hp;have:i=h.n:=by lia
  subst this;simp only[bX,if_neg (fL hj)];exact(tr j hj).symm;rw[bV (gG q hp)];exact q;rw[bV (gG q hp)];exact q;rw[bV (gG q hp)];exact q
 refine⟨st,⟨λi hi=>?_,λi j hi hj z=>?_,?_⟩⟩;have hi:i<h.n+1:=hi;by_cases e:i=h.n;subst e;exact⟨o,fj,by simp only[bX];exact ho st⟩;have hl:i<h.n:=by lia
 obtain⟨o',h1,h2⟩:=r.obj i hl;refine⟨o',(iB hl).trans h1,?_⟩;simp only[if_neg e];exact fY.stp st (bV (tr i hl)) h2;have hi:i<h.n+1:=hi;have hj:j<h.n+1:=hj;by_cases e:i=h.n;by_cases e2:j=h.n;lia;simp only[if_pos e,if_neg e2]at z;exact absurd z.symm (tr j (by lia));by_cases e2:j=h.n;simp only[if_neg e,if_pos e2]at z;exact absurd z (tr i (by lia));simp only[if_neg e,if_neg e2]at z;exact r.inj i j (by lia) (by lia) z;show(o::h.os).length=h.n+1;rw[cZ,r.len]
theorem VZ(r:Rel K m h H){i:Nat}{o:VO}(hi:i<h.n):(h.set i o).get i=aB o:=by unfold VH.get VH.set;have h1:Nat.blt i h.n=true:=gx.mpr hi;simp only[h1,bX];rw[uO];rw[r.len];lia
theorem vQ{i j:Nat}{o:VO}(hi:i<h.n)(hj:j≠i):(h.set i o).get j=h.get j:=by
 unfold VH.get VH.set;by_cases h1:j<h.n;have h2:Nat.blt j h.n=true:=gx.mpr h1;simp only[h2,bX];rw[yU];lia;have h2:Nat.blt j h.n=false:=by
  cases q:Nat.blt j h.n with|false=>rfl|true=>exact absurd (gx.mp q) h1
 simp only[h2,dO,di]
theorem Rel.write(r:Rel K m h H){i:Nat}{o:VO}{u u0:HO}(hi:i<h.n)(h0:H (m i)=aB u0)(hn:∀t,u0≠.tup t)(hf:∀o t,u0≠.bL o t)
 (ho:bQ m h.n H m h.n (upd H (m i) u)->fY K m h.n (upd H (m i) u) (m i) o) :
 bQ m h.n H m h.n (upd H (m i) u)/\Rel K m (h.set i o) (upd H (m i) u):=by
 have st:bQ m h.n H m h.n (upd H (m i) u):=by refine⟨aR _,λ_ _=>rfl,λj a b=>absurd b (jh.mpr a),λj k a b=>absurd b (jh.mpr a),λb vs q=>?_,λb o t q=>?_,λb o nb q=>?_⟩;rw[bV (cV q h0 (λz=>hn vs z.symm))];exact q;rw[bV (cV q h0 (λz=>hf o t z.symm))];exact q;rw[bV (nb i hi).symm];exact q
 refine⟨st,⟨λj hj=>?_,λa b ha hb=>r.inj a b ha hb,?_⟩⟩;have hj:j<h.n:=hj;by_cases e:j=i;subst e;exact⟨o,VZ r hj,ho st⟩;obtain⟨o',h1,h2⟩:=r.obj j hj;exact⟨o',(vQ hi e).trans h1,fY.stp st (bV λz=>e (r.inj j i hj hi z)) h2⟩;show(h.os.set _ o).length=h.n;rw[zc,r.len]
theorem Rel.more(r:Rel K m h H){p:ah}{u:HO}(hp:H p=aC):bQ m h.n H m h.n (upd H p u)/\Rel K m h (upd H p u):=by
 have st:bQ m h.n H m h.n (upd H p u):=by refine⟨aR _,λ_ _=>rfl,λj a b=>absurd b (jh.mpr a),λj k a b=>absurd b (jh.mpr a),λb vs q=>?_,λb o t q=>?_,λb o nb q=>?_⟩;rw[bV (gG q hp)];exact q;rw[bV (gG q hp)];exact q;rw[bV (gG q hp)];exact q
 refine⟨st,⟨λj hj=>?_,r.inj,r.len⟩⟩;obtain⟨o',h1,h2⟩:=r.obj j hj;obtain⟨u',h3⟩:=h2.some;exact⟨o',h1,fY.stp st (bV (gG h3 hp)) h2⟩
end
theorem Oj{α β:Type}{r:Res α}{f:α->VH->Res β}{b:β}{h':VH}(q:r.bind f=.ok b h'):∃a h1,r=.ok a h1/\f a h1=.ok b h':=by
 cases r with|ok a h=>exact⟨a,h,rfl,q⟩|ex x h=>cases q|no=>cases q
theorem bR{α β:Type}{r:Res α}{f:α->VH->Res β}{w:β}{h':VH}{P:Prop}(e:r.bind f=.ok w h')(k:∀x h1,r=.ok x h1->f x h1=.ok w h'->P):P:=by obtain⟨x,h1,a,b⟩:=Oj e;exact k x h1 a b
theorem of_ok{α:Type}{o:Option α}{h h':VH}{a:α}(q:Res.of o h=.ok a h'):o=aB a/\h'=h:=by
 cases o with|none=>cases q|some b=>cases q;exact⟨rfl,rfl⟩
structure Fr(K:aH)(m:Nat->ah)(n:Nat)(H:Hp)(σ:L2.St)(ρ:En):Prop where
 len:σ.length=ρ.length
 val:∀(i:Nat)(w:W),ρ[i]?=aB (aB w)->∃v,σ[i]?=aB (aB v)/\aI K m n H v w
noncomputable abbrev FE:=En->VH->Res W
noncomputable abbrev FS:=En->VH->Res Fl
noncomputable def fT(K:aH)(f:FE):TE:=λσ H Q=>∃ρ h m w h',Fr K m h.n H σ ρ/\Rel K m h H/\f ρ h=.ok w h'/\
 ∀v H' m',bQ m h.n H m' h'.n H'->Rel K m' h' H'->aI K m' h'.n H' v w->Q v H'
noncomputable def dD(K:aH)(f:FE):TT:=λσ H Q=>∃ρ h m b h',Fr K m h.n H σ ρ/\Rel K m h H/\f ρ h=.ok (.bl b) h'/\
 ∀H' m',bQ m h.n H m' h'.n H'->Rel K m' h' H'->Q b H'
noncomputable def mh(K:aH)(f:FE):TA:=λσ H Q=>∃ρ h m ws h',Fr K m h.n H σ ρ/\Rel K m h H/\f ρ h=.ok (.tup ws) h'/\
 ∀vs H' m',bQ m h.n H m' h'.n H'->Rel K m' h' H'->aE K m' h'.n H' vs ws->Q vs H'
section
variable{K:aH}{m:Nat->ah}{σ:L2.St}{H:Hp}{P:Prop}{fa:FE}{ρ:En}{h h':VH}
theorem fT.el{Q:VK}(q:fT K fa σ H Q)(k:∀ρ h m w h',Fr K m h.n H σ ρ->Rel K m h H->fa ρ h=.ok w h'->(∀v H' m',bQ m h.n H m' h'.n H'->Rel K m' h' H'->aI K m' h'.n H' v w->Q v H')->P):P:=by obtain⟨ρ,h,m,w,h',f,r,e,k'⟩:=q;exact k ρ h m w h' f r e k'
theorem fT.mk{Q:VK}{w:W}(f:Fr K m h.n H σ ρ)(r:Rel K m h H)(e:fa ρ h=.ok w h')(k:∀v H' m',bQ m h.n H m' h'.n H'->Rel K m' h' H'->aI K m' h'.n H' v w->Q v H'):fT K fa σ H Q:=⟨ρ,h,m,w,h',f,r,e,k⟩
theorem dD.el{Q:Bool->Hp->Prop}(q:dD K fa σ H Q)(k:∀ρ h m b h',Fr K m h.n H σ ρ->Rel K m h H->fa ρ h=.ok (.bl b) h'->(∀H' m',bQ m h.n H m' h'.n H'->Rel K m' h' H'->Q b H')->P):P:=by obtain⟨ρ,h,m,w,h',f,r,e,k'⟩:=q;exact k ρ h m w h' f r e k'
theorem dD.mk{Q:Bool->Hp->Prop}{b:Bool}(f:Fr K m h.n H σ ρ)(r:Rel K m h H)(e:fa ρ h=.ok (.bl b) h')(k:∀H' m',bQ m h.n H m' h'.n H'->Rel K m' h' H'->Q b H'):dD K fa σ H Q:=⟨ρ,h,m,b,h',f,r,e,k⟩
theorem mh.el{Q:List V->Hp->Prop}(q:mh K fa σ H Q)(k:∀ρ h m ws h',Fr K m h.n H σ ρ->Rel K m h H->fa ρ h=.ok (.tup ws) h'->(∀vs H' m',bQ m h.n H m' h'.n H'->Rel K m' h' H'->aE K m' h'.n H' vs ws->Q vs H')->P):P:=by obtain⟨ρ,h,m,w,h',f,r,e,k'⟩:=q;exact k ρ h m w h' f r e k'
theorem mh.mk{Q:List V->Hp->Prop}{ws:List W}(f:Fr K m h.n H σ ρ)(r:Rel K m h H)(e:fa ρ h=.ok (.tup ws) h')(k:∀vs H' m',bQ m h.n H m' h'.n H'->Rel K m' h' H'->aE K m' h'.n H' vs ws->Q vs H'):mh K fa σ H Q:=⟨ρ,h,m,ws,h',f,r,e,k⟩
end
noncomputable abbrev SE(X:Cx)(e:ao)(f:FE):Prop:=PE X e (fT X.K f)
noncomputable abbrev ST(X:Cx)(e:ao)(f:FE):Prop:=PT X e (dD X.K f)
noncomputable abbrev SW(X:Cx)(e:ao)(f:FE):Prop:=PW X e (dD X.K f)
noncomputable abbrev SA(X:Cx)(es:List ao)(f:FE):Prop:=PA X es (mh X.K f)
theorem _root_.L2.PE.imp{X:Cx}{e:ao}{t t':TE}(h:PE X e t)(k:∀σ H Q,t' σ H Q->t σ H Q):PE X e t':=λpins s σ H Q I q=>h pins s σ H Q I (k σ H Q q)
theorem _root_.L2.PT.imp{X:Cx}{e:ao}{t t':TT}(h:PT X e t)(k:∀σ H Q,t' σ H Q->t σ H Q):PT X e t':=λpins s σ H Q I q=>h pins s σ H Q I (k σ H Q q)
theorem _root_.L2.PW.imp{X:Cx}{e:ao}{t t':TT}(h:PW X e t)(k:∀σ H Q,t' σ H Q->t σ H Q):PW X e t':=λwh pins s σ H Q I q=>h wh pins s σ H Q I (k σ H Q q)
theorem _root_.L2.PA.imp{X:Cx}{es:List ao}{t t':TA}(h:PA X es t)(k:∀σ H Q,t' σ H Q->t σ H Q):PA X es t':=λp pins s σ H Q I q=>h p pins s σ H Q I (k σ H Q q)
theorem _root_.L2.PS.imp{X:Cx}{st:aq}{t t':TS}(h:PS X st t)(k:∀D σ H,t' D σ H->t D σ H):PS X st t':=λpins s σ H D I q=>h pins s σ H D I (k D σ H q)
theorem _root_.L2.jN.imp{X:Cx}{st:List aq}{t t':TS}(h:jN X st t)(k:∀D σ H,t' D σ H->t D σ H):jN X st t':=λpins s σ H D I q=>h pins s σ H D I (k D σ H q)
section
variable{K:aH}{m m':Nat->ah}{n n':Nat}{h h':VH}{H H':Hp}{σ:L2.St}{ρ:En}
theorem Fr.stp(f:Fr K m n H σ ρ)(s:bQ m n H m' n' H'):Fr K m' n' H' σ ρ:=⟨f.len,λi w e=>let⟨v,h1,h2⟩:=f.val i w e;⟨v,h1,h2.stp s⟩⟩
theorem Fr.set(f:Fr K m n H σ ρ){v:V}{w:W}(q:aI K m n H v w)(i:Nat):Fr K m n H (σ.set i (aB v)) (ρ.set i (aB w)):=by refine⟨by rw[zc,zc];exact f.len,λj w' e=>?_⟩;by_cases hj:i=j;subst hj;by_cases hl:i<ρ.length;rw[uO hl]at e;cases e;exact⟨v,by rw[uO (by rw[f.len];exact hl)],q⟩;rw[xD (by rw[zc];lia)]at e;cases e;rw[yU hj]at e;obtain⟨v',h1,h2⟩:=f.val j w' e;exact⟨v',by rw[yU hj];exact h1,h2⟩
noncomputable def aK(K:aH)(m:Nat->ah)(n:Nat)(H:Hp)(w:W)(h':VH)(Q:VK):Prop:=∀v H' m',bQ m n H m' h'.n H'->Rel K m' h' H'->aI K m' h'.n H' v w->Q v H'
theorem aK.here{w:W}{Q:VK}(k:aK K m h.n H w h Q)(r:Rel K m h H){v:V}(q:aI K m h.n H v w):Q v H:=k v H m .refl r q
theorem aK.list{ws:List W}{vs:List V}{Q:VK}(k:aK K m h.n H (.ref h.n) (h.new (.lst ws)) Q)(r:Rel K m h H)(q:aE K m h.n H vs ws){p:ah}(hp:H p=aC):Q (.ref p) (upd H p (.lst vs)):=by obtain⟨st,r'⟩:=r.alloc (o:=.lst ws) (u:=.lst vs) hp (λ_ z=>nomatch z) (λst=>⟨vs,iu,q.stp st⟩);refine k _ _ _ st r' ?_;have:aI K (λi=>if i=h.n then p else m i) (h.n+1) (upd H p (.lst vs)) (.ref ((λi=>if i=h.n then p else m i) h.n)) (.ref h.n):=.ref (iO _);simp only[bX]at this;exact this
theorem aK.tuple{ws:List W}{vs:List V}{Q:VK}(k:aK K m h.n H (.tup ws) h Q)(r:Rel K m h H)(q:aE K m h.n H vs ws){p:ah}(hp:H p=aC):Q (.ref p) (upd H p (.tup vs)):=by obtain⟨st,r'⟩:=r.more (u:=.tup vs) hp;exact k _ _ _ st r' (.tup (bW.of iu) (q.stp st))
theorem Ol{fa:FE}{g:W->VH->Res W}{G:V->Hp->VK->Prop}
 (hG:∀(m:Nat->ah)(h:VH)(H:Hp)(v:V)(x w:W)(h':VH)(Q:VK),Rel K m h H->aI K m h.n H v x->g x h=.ok w h'->aK K m h.n H w h' Q->G v H Q) {Q:VK}
 (q:fT K (λρ h=>(fa ρ h).bind λx h=>g x h) σ H Q):fT K fa σ H λv H1=>G v H1 Q:=by
 refine q.el λρ h m w h' f r e k=>?_;refine bR e λx h1 e1 e2=>?_;exact(.mk f r e1 λv H1 m1 s1 r1 q1=>hG m1 h1 H1 v x w h' Q r1 q1 e2 λv' H' m' s' r' q'=>k v' H' m' (s1.trans s') r' q')
theorem EB{fa fb:FE}{g:W->W->VH->Res W}{G:V->V->Hp->VK->Prop}
 (hG:∀(m:Nat->ah)(h:VH)(H:Hp)(v u:V)(x y w:W)(h':VH)(Q:VK),Rel K m h H->aI K m h.n H v x->aI K m h.n H u y->g x y h=.ok w h'->aK K m h.n H w h' Q->G v u H Q) {Q:VK}
 (q:fT K (λρ h=>(fa ρ h).bind λx h=>(fb ρ h).bind λy h=>g x y h) σ H Q):fT K fa σ H λv H1=>fT K fb σ H1 λu H2=>G v u H2 Q:=by
 refine q.el λρ h m w h' f r e k=>?_;refine bR e λx h1 e1 e2=>?_;refine bR e2 λy h2 e3 e4=>?_;refine(.mk f r e1 λv H1 m1 s1 r1 q1=>(.mk (f.stp s1) r1 e3 λu H2 m2 s2 r2 q2=>?_));exact hG m2 h2 H2 v u x y w h' Q r2 (q1.stp s2) q2 e4 λv' H' m' s' r' q'=>k v' H' m' ((s1.trans s2).trans s') r' q'
theorem vR{fa:FE}{g:List W->VH->Res W}{G:List V->Hp->VK->Prop}
 (hG:∀(m:Nat->ah)(h:VH)(H:Hp)(vs:List V)(xs:List W)(w:W)(h':VH)(Q:VK),Rel K m h H->aE K m h.n H vs xs->g xs h=.ok w h'->aK K m h.n H w h' Q->G vs H Q) {Q:VK}
 (q:fT K (λρ h=>(fa ρ h).bind λy h=>match y with|.tup ys=>g ys h|_=>.no) σ H Q):mh K fa σ H λvs H1=>G vs H1 Q:=by
 refine q.el λρ h m w h' f r e k=>?_;refine bR e λx h1 e1 e2=>?_;cases x with|tup ys=>exact(.mk f r e1 λvs H1 m1 s1 r1 q1=>hG m1 h1 H1 vs ys w h' Q r1 q1 e2 λv' H' m' s' r' q'=>k v' H' m' (s1.trans s') r' q')|_=>cases e2
theorem Om{f:FE}{Q:Bool->Hp->Prop}(q:dD K f σ H Q):fT K f σ H λx H'=>∃k,x=.bl k/\Q k H':=by refine q.el λρ h m b h' f r e k=>?_;exact(.mk f r e λv H' m' s' r' q'=>by cases q';exact⟨b,rfl,k H' m' s' r'⟩)
end
section
variable{X:Cx}{a b c e:ao}{es:List ao}{fa fb fc:FE}{pos:Pos}
theorem V0{i:Nat}{x:Str}{pos:Pos}(hN:X.N[i]?=aB x)(hv:xU X.env.scope x)(hd:(x==("__debug__" : Str))=false)(hcd:(x==("__classdict__" : Str))=false):SE X (.Name x pos) (λρ h=>.of (ρ[i]?).join h):=
 (RJ hN hv hd hcd).imp λσ H Q z9=>z9.el λρ h m w h' f r e k=>by
   obtain⟨e1,e2⟩:=of_ok e;subst e2;have e3:ρ[i]?=aB (aB w):=by
    cases q:ρ[i]? with|none=>rw[q]at e1;cases e1|some o=>rw[q]at e1;rw[<-e1];rfl
   obtain⟨v,h1,h2⟩:=f.val i w e3;exact⟨v,h1,k v H m .refl r h2⟩
theorem Bh{w:W}{v:V}(h:PE X e (tC v))(hv:∀m n H,aI X.K m n H v w):SE X e (λ_ h=>.ok w h):=
 h.imp λσ H Q z9=>z9.el λρ h m w h' f r e k=>by cases e;exact k v H m .refl r (hv m h.n H)
theorem V1{i j pos}:SE X (.Constant (.int i) j pos) (λ_ h=>.ok (.int i) h):=Bh RK λ_ _ _=>.int i
theorem Bj{i j pos}:SE X (.Constant (.bool i) j pos) (λ_ h=>.ok (.bl i) h):=Bh zB λ_ _ _=>.bl i
theorem V2{j pos}:SE X (.Constant .none j pos) (λ_ h=>.ok .aL h):=Bh RL λ_ _ _=>.aL
theorem V3{i j pos}:SE X (.Constant (.str i) j pos) (λ_ h=>.ok (.str i) h):=Bh RM λ_ _ _=>.str i
theorem Bk:SA X [] (λ_ h=>.ok (.tup []) h):=DH.imp λσ H Q z9=>z9.el λρ h m ws h' f r e k=>by cases e;exact k [] H m .refl r .nil
theorem vS(ha:SE X e fa)(hr:SA X es fb)(hs:starEach (e::es) X.env=(false,eval e X.env)::starEach es X.env) :
 SA X (e::es) (λρ h=>(fa ρ h).bind λx h=>(fb ρ h).bind λy h=>match y with|.tup ys=>.ok (.tup (x::ys)) h|_=>.no):=
 (zZ ha hr hs).imp λσ H Q z9=>z9.el λρ h m ws h' f r e k=>by
   refine bR e λx h1 e1 e2=>?_;refine bR e2 λy h2 e3 e4=>?_;cases y with
   |tup ys=>
    cases e4;exact(.mk f r e1 λv H1 m1 s1 r1 q1=>(.mk (f.stp s1) r1 e3 λvs H2 m2 s2 r2 q2=>k _ H2 m2 (s1.trans s2) r2 (.cons (q1.stp s2) q2)))
   |_=>cases e4
theorem Oo{k:Nat}(h:Nat.ble k 1000):k<=sizeLine:=pX (M8 (jf h))
theorem V4{x1:Nat}(ha:SA X es fa):SE X (.Tuple es x1 pos) (λρ h=>(fa ρ h).bind λy h=>match y with|.tup ys=>(if Nat.ble ys.length 1000 then .ok (.tup ys) h else .no)|_=>.no):=
 (Th ha).imp λσ H Q q=>vR (g:=λys h=>if Nat.ble ys.length 1000 then .ok (.tup ys) h else .no) (G:=λxs H1 Q=>xs.length<=sizeLine/\∀p,H1 p=aC->Q (.ref p) (upd H1 p (.tup xs)))
   (λm h H vs xs w h' Q r q e k=>by
     split at e;rename_i hl;cases e;exact⟨by rw[q.length];exact Oo hl,λp hp=>aK.tuple k r q hp⟩;cases e) q
theorem V5(ha:SA X es fa):SE X (.List es pos) (λρ h=>(fa ρ h).bind λy h=>match y with|.tup ys=>(if Nat.ble ys.length 1000 then .ok (.ref h.n) (h.new (.lst ys))else .no)|_=>.no):=
 (Ti ha).imp λσ H Q q=>vR (g:=λys h=>if Nat.ble ys.length 1000 then .ok (.ref h.n) (h.new (.lst ys))else .no) (G:=λxs H1 Q=>xs.length<=sizeLine/\∀p,H1 p=aC->Q (.ref p) (upd H1 p (.lst xs)))
   (λm h H vs xs w h' Q r q e k=>by
     split at e;rename_i hl;cases e;exact⟨by rw[q.length];exact Oo hl,λp hp=>aK.list k r q hp⟩;cases e) q
noncomputable def Bl(K:aH)(r:R2)(g:W->W->VH->Res W):Prop:=∀(m:Nat->ah) (h:VH) (H:Hp) (v u:V) (x y w:W) (h':VH) (Q:VK),Rel K m h H->aI K m h.n H v x->aI K m h.n H u y->g x y h=.ok w h'->aK K m h.n H w h' Q->r v u H Q
theorem Bm{O:Operator}{r:R2}{g:W->W->VH->Res W}(ho:cX X (binaryOp O) r)(hg:Bl X.K r g)(ha:SE X a fa)(hb:SE X b fb):SE X (.BinOp a O b pos) (λρ h=>(fa ρ h).bind λx h=>(fb ρ h).bind λy h=>g x y h):=
 (zQ ho ha hb).imp λσ H Q q=>EB (G:=r) hg q
noncomputable def Bo:Operator->Option Op|.Add=>aB .add|.Sub=>aB .sub|.Mult=>aB .mul|.FloorDiv=>aB .fdiv|.Mod=>aB .mod|.LShift=>aB .shl|.Pow=>aB .pow|_=>aC
noncomputable def cI:Op->Int->Int->Prop|.mul=>lQ|.fdiv=>qo|.mod=>λ_ j=>0<j|.shl=>qp|.pow=>qp|_=>λ_ _=>True
noncomputable def gI:Op->Int->Int->Int|.add=>(· + ·)|.sub=>(· - ·)|.mul=>(· * ·)|.fdiv=>(· / ·)|.mod=>(· % ·)|.shl=>λi j=>i*2 ^ j.toNat|.pow=>λi j=>i ^ j.toNat
noncomputable def rX(K:aH):Op->R2|.add=>λx y H Q=>kI K x y H Q\/NC K x y H Q\/Ak x y H Q|.mul=>λx y H Q=>tO K x y H Q|_=>λ_ _ _ _=>False
noncomputable def rB(K:aH)(o:Op):R2:=λx y H Q=>rI (cI o) (λi j=>.int (gI o i j)) x y H Q\/rX K o x y H Q
theorem vU{f:aa->aa->Sem aa}{r r':R2}(h:cX X f r)(k:∀x y H Q,r' x y H Q->r x y H Q):cX X f r':=λpins s σ H x y v u Q I rx ry q=>h pins s σ H x y v u Q I rx ry (k _ _ _ _ q)
theorem Bp{O:Operator}{o:Op}(e:Bo O=aB o):cX X (binaryOp O) (rB X.K o):=by
 have tr:∀{g:Int->Int->V}{x y H Q},rI (λ_ _=>True) g x y H Q->lP g x y H Q:=λ⟨i,j,h1,h2,_,h3⟩=>⟨i,j,h1,h2,h3⟩
 cases O<;>cases e;exact vU (SG.or (TL.or (UX.or T9))) λx y H Q q=>q.elim (λz=>.inl (tr z)) .inr;exact vU SH λx y H Q q=>q.elim (λz=>tr z) λz=>z.elim;exact vU (SI.or UW) λx y H Q q=>q;exact vU SK λx y H Q q=>q.elim id λz=>z.elim;exact vU SM λx y H Q q=>q.elim id λz=>z.elim;exact vU SN λx y H Q q=>q.elim id λz=>z.elim;exact vU SJ λx y H Q q=>q.elim id λz=>z.elim
theorem Oq{i:Int}(h:mW i):-(2 ^ 64)<i/\i<2 ^ 64:=by unfold mW at h;rw[bE]at h;exact⟨jU h.1,jU h.2⟩
theorem Ii{o:Op}{i j z:Int}(e:dR o i j=aB z):cI o i j/\z=gI o i j:=by cases o<;>simp only[dR]at e;cases e;exact⟨trivial,rfl⟩;cases e;exact⟨trivial,rfl⟩;split at e;rename_i hc;cases e;rw[pY]at hc;exact⟨hc.elim (λq=>.inl (Oq q)) (λq=>.inr (Oq q)),rfl⟩;cases e;split at e;rename_i hc;cases e;rw[bE]at hc;exact⟨⟨jU hc.1,jU hc.2⟩,rfl⟩;cases e;split at e;rename_i hc;cases e;exact⟨(jU hc:0<j),rfl⟩;cases e;split at e;rename_i hc;cases e;rw[bE,bE]at hc;exact⟨⟨jU hc.1.1,jU hc.1.2,jU hc.2⟩,rfl⟩;cases e;split at e;rename_i hc;cases e;rw[bE,bE]at hc;exact⟨⟨jU hc.1.1,jU hc.1.2,jU hc.2⟩,rfl⟩;cases e
theorem vV{i:Int}(h:fits i):-(2 ^ 62)<=i/\i<2 ^ 62:=by unfold fits at h;rw[bE]at h;exact⟨jU h.1,jU h.2⟩
theorem V6{o:Op}{xs zs:List W}{k:Int}(e:qS o xs k=aB zs):o=.mul/\(-(2 ^ 62)<=k/\k<2 ^ 62)/\xs.length*k.toNat<=sizeLine/\zs=(bD k.toNat xs).flatten:=by unfold qS at e;split at e;split at e;rename_i hc;cases e;rw[bE]at hc;exact⟨rfl,vV hc.1,jf hc.2,rfl⟩;cases e;cases e
theorem aE.rep{K:aH}{m:Nat->ah}{n:Nat}{H:Hp}{vs:List V}{ws:List W}(q:aE K m n H vs ws):∀k:Nat,aE K m n H (bD k vs).flatten (bD k ws).flatten
 |0=>.nil
 |k+1=>by
  rw[o9,o9,uP,uP];exact q.append (aE.rep q k)
theorem V7{K:aH}{m:Nat->ah}{n:Nat}{H:Hp}{vs:List V}{ws:List W}(q:aE K m n H vs ws):vs.isEmpty=ws.isEmpty:=by cases q<;>rfl
theorem V8{ws:List W}{k:Int}(h:(ws.isEmpty||k==1)):(bD k.toNat ws).flatten=ws:=by
 rw[pY]at h;rcases h with h|h
 have:ws=[]:=by simpa using h
 subst this;induction k.toNat with|zero=>rfl|succ j ih=>rw[o9,uP,ih];rfl
 have:k=1:=by simpa using h
 subst this;show(bD 1 ws).flatten=ws;simp
theorem V9{K:aH}(o:Op):Bl K (rB K o) (eW o):=by
 intro m h H v u x y w h' Q r qv qu e k;unfold eW at e;split at e;rename_i i j;obtain⟨e,rfl⟩:=of_ok e;cases qv;cases qu;cases q:dR o i j with
 |none=>rw[q]at e;cases e
 |some z=>
  rw[q]at e;cases e;obtain⟨h1,rfl⟩:=Ii q;exact .inl ⟨i,j,rfl,rfl,h1,aK.here k r (.int _)⟩
 .rename_i xs ys
  obtain⟨e,rfl⟩:=of_ok e;cases q:Ez o xs ys with
  |none=>rw[q]at e;cases e
  |some zs=>
   rw[q]at e;cases e;cases o<;>simp only[Ez]at q;split at q;rename_i hc;cases q;cases qv with
   |tup qa ra=>
    cases qu with
    |tup qb rb=>
     rename_i a va b vb;have hl:=jf hc;cases xs with
     |nil=>
      cases ra;exact .inr (.inr (.inl ⟨a,b,vb,rfl,rfl,qa,qb,aK.here k r (.tup qb rb)⟩))
     |cons x0 xs0=>
      refine .inr (.inl ⟨a,b,va,vb,rfl,rfl,qa,qb,λz=>?_,by rw[ra.length,rb.length];exact hl,λz=>?_,λ_ p hp=>aK.tuple k r (ra.append rb) hp⟩);subst z;cases ra;subst z;cases rb;rw[kE]at k;exact aK.here k r (.tup qa ra)
   cases q
   all_goals cases q
 rename_i xs kk;obtain⟨e,rfl⟩:=of_ok e;cases q:qS o xs kk with
 |none=>rw[q]at e;cases e
 |some zs=>
  rw[q]at e;cases e;obtain⟨rfl,⟨k1,k2⟩,hz,rfl⟩:=V6 q;cases qu;cases qv with
  |tup qa ra=>
   rename_i a va;refine .inr ⟨a,kk,va,rfl,rfl,qa,k1,k2,by rw[ra.length];exact hz,λz=>?_,λz p hp=>aK.tuple k r (ra.rep _) hp⟩;rw[V7 ra]at z;rw[V8 z]at k;exact aK.here k r (.tup qa ra)
 .rename_i i j
  split at e
  .rename_i xs ys hx hy
   split at e
   .rename_i zs q
    cases e;cases o<;>simp only[Ig]at q;split at q;rename_i hc;cases q;obtain⟨va,pa,ra⟩:=r.lst hx;obtain⟨vb,pb,rb⟩:=r.lst hy;cases qv;cases qu;exact .inr (.inr (.inr ⟨m i,m j,va,vb,rfl,rfl,pa,pb,by rw[ra.length,rb.length];exact jf hc,λp hp=>aK.list k r (ra.append rb) hp⟩));cases q
    all_goals cases q
   cases e
  cases e
 cases e
end
section
variable{K:aH}{m:Nat->ah}{h:VH}{H:Hp}
theorem Bq{f:W->Option aA}(ih:∀(w:W) (d:aA) (v:V),f w=aB d->aI K m h.n H v w->Rp K (λ_=>False) H v d):∀{ws:List W} {ds:List aA} {vs:List V},aP f ws=aB ds->aE K m h.n H vs ws->lR K (λ_=>False) H vs ds
 |[],ds,_,e,.nil=>by cases e;exact .nil
 |w::ws,ds,_,e,.cons q r=>by
  unfold aP at e;split at e;rename_i d hd;split at e;rename_i bs hb;cases e;exact .cons (ih w d _ hd q) (Bq ih hb r);cases e;cases e
theorem gV(r:Rel K m h H):∀(n:Nat) (w:W) (d:aA) (v:V),toD h n w=aB d->aI K m h.n H v w->Rp K (λ_=>False) H v d
 |0,_,_,_,e,_=>by cases e
 |n+1,w,d,v,e,q=>by
  cases q with
  |aL=>cases e;exact .aL
  |bl b=>cases e;exact .bl b
  |int b=>cases e;exact .int b
  |str b=>cases e;exact .str b
  | @tup a vs ws sq rs=>
   simp only[toD]at e;cases z:aP (toD h n) ws with|none=>rw[z]at e;cases e|some ds=>rw[z]at e;cases e;exact .tup sq (λz=>z) (Bq (gV r n) z rs)
  | @fz a vs ws sq rs=>
   simp only[toD]at e;cases z:aP (toD h n) ws with|none=>rw[z]at e;cases e|some ds=>rw[z]at e;cases e;exact .lst sq.sq (λz=>z) (Bq (gV r n) z rs)
  | @ref i hi=>
   simp only[toD]at e;cases g:h.get i with
   |none=>rw[g]at e;cases e
   |some o=>
    rw[g]at e;cases o with
    |dk _=>cases e
    |dm _=>cases e
    |lst ws=>
     obtain⟨vs,h1,h2⟩:=r.lst g;simp only at e;cases z:aP (toD h n) ws with|none=>rw[z]at e;cases e|some ds=>rw[z]at e;cases e;exact .lst (cH.of h1) (λz=>z) (Bq (gV r n) z h2)
theorem Ot(r:Rel K m h H){x y:W}{v u:V}{b:Bool}(e:b9 h x y=aB b)(qv:aI K m h.n H v x)(qu:aI K m h.n H u y) :
 ∃d e',Rp K (λ_=>False) H v d/\Rp K (λ_=>False) H u e'/\SeqAt.shaped d=true/\SeqAt.shaped e'=true/\b=PyData.eqv d e':=by
 unfold b9 at e;split at e;rename_i d e' h1 h2;split at e;rename_i hc;cases e;rw[bE]at hc;exact⟨d,e',gV r _ _ _ _ h1 qv,gV r _ _ _ _ h2 qu,hc.1,hc.2,rfl⟩;cases e;cases e
end
theorem yg{K:aH}{m:Nat->ah}{h:VH}{H:Hp}{v:V}{w:W}{ws:List W}(r:Rel K m h H)(q:aI K m h.n H v w)(e:aO h w=aB ws):∃p vs,v=.ref p/\(cH K H p vs\/bW K H p vs)/\aE K m h.n H vs ws:=by
 cases q<;>try cases e
 exact⟨_,_,rfl,.inr ‹_›,‹_›⟩;rename_i q _;exact⟨_,_,rfl,.inl q.sq,‹_›⟩;rename_i i hi;simp only[aO]at e;cases g:h.get i with
 |none=>rw[g]at e;cases e
 |some o=>
  rw[g]at e;cases o with
  |dk _=>cases e
  |dm _=>cases e
  |lst ws=>
   cases e;obtain⟨vs,h1,h2⟩:=r.lst g;exact⟨_,vs,rfl,.inl (cH.of h1),h2⟩
theorem Ov{K:aH}{m:Nat->ah}{h:VH}{H:Hp}(r:Rel K m h H){x y:W}{v u:V}{b:Bool}(e:lW h x y=aB b)(qv:aI K m h.n H v x)(qu:aI K m h.n H u y) :
 (∃p vs ds d,u=.ref p/\(cH K H p vs\/bW K H p vs)/\lR K (λ_=>False) H vs ds/\Rp K (λ_=>False) H v d/\ds.all SeqAt.shaped=true/\SeqAt.shaped d=true/\b=ff ds d):=by
 unfold lW at e;split at e;rename_i ws d h1 h2;split at e;rename_i ds h3;split at e;rename_i hc;cases e;rw[bE]at hc;obtain⟨p,vs,rfl,h4,h5⟩:=yg r qu h1;exact⟨p,vs,ds,d,rfl,h4,Bq (gV r 24) h3 h5,gV r _ _ _ _ h2 qv,hc.1,hc.2,rfl⟩;cases e;cases e;cases e
noncomputable def fZ:CmpOp->Option Cp|.Eq=>aB .eq|.NotEq=>aB .ne|.Lt=>aB .lt|.LtE=>aB .le|.Gt=>aB .gt|.GtE=>aB .ge|.Is=>aB .A9|.IsNot=>aB .vJ|.In=>aB .jy|.NotIn=>aB .vK
noncomputable def rC(K:aH):Cp->R2|.eq=>Ar K|.ne=>As K|.lt=>lP λi j=>.bl (decide (i<j))|.le=>lP λi j=>.bl (decide (i<=j))|.gt=>lP λi j=>.bl (decide (j<i))|.ge=>lP λi j=>.bl (decide (j<=i))|.A9=>λx y H Q=>(y=.aL/\Q (.bl (decide (x=.aL))) H)\/∃c b,x=.bl c/\y=.bl b/\Q (.bl (c==b)) H|.vJ=>λx y H Q=>(y=.aL/\Q (.bl (!decide (x=.aL))) H)\/∃c b,x=.bl c/\y=.bl b/\Q (.bl (!(c==b))) H|.jy=>λx y H Q=>qA K false x y H Q|.vK=>λx y H Q=>qA K true x y H Q
noncomputable def pK:ao->Bool|.Set ..=>false|_=>true
theorem Ij{op:CmpOp}{b:ao}(h:pK b):behindInMarks op b=false:=by cases b<;>first|rfl|cases h
section
variable{X:Cx}{a b c e:ao}{es:List ao}{fa fb fc:FE}{pos:Pos}
theorem Wa:cX X (compareOp .Is) (λx y H Q=>∃c b,x=.bl c/\y=.bl b/\Q (.bl (c==b)) H):=by intro pins s σ H x y v u Q I rx ry h;obtain⟨c,b,rfl,rfl,q⟩:=h;cases rx;cases ry;exact wpAny_is_plain rfl (DG I q (by cases c<;>cases b<;>rfl))
theorem Wb:cX X (compareOp .IsNot) (λx y H Q=>∃c b,x=.bl c/\y=.bl b/\Q (.bl (!(c==b))) H):=by intro pins s σ H x y v u Q I rx ry h;obtain⟨c,b,rfl,rfl,q⟩:=h;cases rx;cases ry;exact wpAny_isNot_plain rfl (DG I q (by cases c<;>cases b<;>rfl))
theorem yh(hu:X.A.units+65<cLine){O:CmpOp}{c:Cp}(e:fZ O=aB c):cX X (compareOp O) (rC X.K c):=by cases O<;>cases e;exact Ut (by lia);exact Uu (by lia);exact zT;exact zU;exact zV;exact zW;exact SX.or Wa;exact SY.or Wb;exact UZ (by show X.A.units+1+64<cLine;lia);exact U0 (by show X.A.units+1+64<cLine;lia)
theorem EC{K:aH}{m:Nat->ah}{n:Nat}{H:Hp}{v:V}{w:W}(q:aI K m n H v w):dJ w=decide (v=.aL):=by cases q<;>simp[dJ]
theorem ED{K:aH}(c:Cp):Bl K (rC K c) (λx y h=>.of ((aN c h x y).map .bl) h):=by
 intro m h H v u x y w h' Q r qv qu e k;obtain⟨e,rfl⟩:=of_ok e;cases z:aN c h' x y with
 |none=>rw[z]at e;cases e
 |some b=>
  rw[z]at e;cases e;have fin:Q (.bl b) H:=aK.here k r (.bl b);unfold aN at z;split at z;obtain⟨p,vs,ds,d,h1,h2,h3,h4,h5,h6,rfl⟩:=Ov r z qv qu;exact⟨p,vs,ds,d,h1,h2,h3,h4,h5,h6,fin⟩;cases z2:lW h' x y with
  |none=>rw[z2]at z;cases z
  |some b2=>
   rw[z2]at z;cases z;obtain⟨p,vs,ds,d,h1,h2,h3,h4,h5,h6,rfl⟩:=Ov r z2 qv qu;exact⟨p,vs,ds,d,h1,h2,h3,h4,h5,h6,fin⟩
  obtain⟨d,e',h1,h2,h3,h4,rfl⟩:=Ot r z qv qu;exact⟨d,e',h1,h2,h3,h4,fin⟩;cases z2:b9 h' x y with
  |none=>rw[z2]at z;cases z
  |some b2=>
   rw[z2]at z;cases z;obtain⟨d,e',h1,h2,h3,h4,rfl⟩:=Ot r z2 qv qu;exact⟨d,e',h1,h2,h3,h4,fin⟩
  split at z;rename_i hn;cases z;have:=EC qu;rw[hn]at this;refine .inl ⟨jU this.symm,?_⟩;rw[<-EC qv];exact fin;unfold Bb at z;split at z;rename_i c b;cases z;cases qv;cases qu;exact .inr ⟨_,_,rfl,rfl,fin⟩;cases z;split at z;rename_i hn;cases z;have:=EC qu;rw[hn]at this;refine .inl ⟨jU this.symm,?_⟩;rw[<-EC qv];exact fin;cases z2:Bb x y with
  |none=>rw[z2]at z;cases z
  |some b2=>
   rw[z2]at z;cases z;unfold Bb at z2;split at z2;rename_i c b;cases z2;cases qv;cases qu;exact .inr ⟨_,_,rfl,rfl,fin⟩;cases z2
  split at z;rename_i i j;cases qv;cases qu;cases c<;>simp only[fE]at z<;>cases z<;>exact⟨i,j,rfl,rfl,fin⟩;cases z
theorem Wc(hu:X.A.units+65<cLine){O:CmpOp}{c:Cp}(e:fZ O=aB c)(hs:pK b)(ha:SE X a fa)(hb:SE X b fb) :
 SE X (.Compare a [O] [b] pos) (λρ h=>(fa ρ h).bind λx h=>(fb ρ h).bind λy h=>.of ((aN c h x y).map .bl) h):=
 (S0 (yh hu e) ha hb (Ij hs)).imp λσ H Q q=>EB (G:=rC X.K c) (ED c) q
theorem Wd(hu:X.A.units+65<cLine){O:CmpOp}{c:Cp}(e:fZ O=aB c)(hs:pK b)(ha:SE X a fa)(hb:SE X b fb) :
 ST X (.Compare a [O] [b] pos) (λρ h=>(fa ρ h).bind λx h=>(fb ρ h).bind λy h=>.of ((aN c h x y).map .bl) h):=
 (S1 (yh hu e) ha hb (Ij hs)).imp λσ H Q q=>EB (G:=rC X.K c) (ED c) (Om q)
theorem Ow{O O':CmpOp}{a b:ao}(h:pK b):lastMarks [O,O'] [a,b]=false:=Ij h
theorem Ox{K:aH}{c1 c2:Cp}{σ:L2.St}{H:Hp}{Q:VK}
 (q:fT K (λρ h=>(fa ρ h).bind λx h=>(fb ρ h).bind λy h=>match aN c1 h x y with
   |some true=>(fc ρ h).bind λz h=>.of ((aN c2 h y z).map .bl) h
   |some false=>.ok (.bl false) h
   |none=>.no) σ H Q):GC (rC K c1) (rC K c2) (fT K fa) (fT K fb) (fT K fc) σ H Q:=by
 refine q.el λρ h m w h' f r e k=>?_;refine bR e λx h1 e1 e2=>?_;refine bR e2 λy h2 e3 e4=>?_;refine(.mk f r e1 λv H1 m1 s1 r1 q1=>(.mk (f.stp s1) r1 e3 λu H2 m2 s2 r2 q2=>?_));have f2:=(f.stp s1).stp s2;have k2:aK K m2 h2.n H2 w h' Q:=λv' H' m' s' r' q'=>k v' H' m' ((s1.trans s2).trans s') r' q';cases z:aN c1 h2 x y with
 |none=>rw[z]at e4;cases e4
 |some b=>
  rw[z]at e4;refine ED c1 m2 h2 H2 v u x y (.bl b) h2 _ r2 (q1.stp s2) q2 (by show Res.of ((aN c1 h2 x y).map W.bl) h2=_;rw[z];rfl) λv3 H3 m3 s3 r3 q3=>?_;cases q3;refine⟨b,rfl,?_⟩;cases b with
  |true=>
   refine bR e4 λz' h4 e5 e6=>?_;rw[if_pos rfl];refine⟨ρ,h2,m3,z',h4,f2.stp s3,r3,e5,λv4 H4 m4 s4 r4 q4=>?_⟩;exact ED c2 m4 h4 H4 u v4 y z' w h' Q r4 ((q2.stp s3).stp s4) q4 e6 λv' H' m' s' r' q'=>k2 v' H' m' ((s3.trans s4).trans s') r' q'
  |false=>
   cases e4;simp only[dO,di];exact k2 _ H3 m3 s3 r3 (.bl false)
theorem We(hu:X.A.units+65<cLine){O O':CmpOp}{c1 c2:Cp}(e:fZ O=aB c1)(e':fZ O'=aB c2)(hs:pK c)(ha:SE X a fa)(hb:SE X b fb)(hc:SE X c fc) :
 SE X (.Compare a [O,O'] [b,c] pos) (λρ h=>(fa ρ h).bind λx h=>(fb ρ h).bind λy h=>match aN c1 h x y with|some true=>(fc ρ h).bind λz h=>.of ((aN c2 h y z).map .bl) h|some false=>.ok (.bl false) h|none=>.no):=(S2 (yh hu e) (yh hu e') ha hb hc (Ow hs)).imp λσ H Q q=>Ox q
theorem Wf(hu:X.A.units+65<cLine){O O':CmpOp}{c1 c2:Cp}(e:fZ O=aB c1)(e':fZ O'=aB c2)(hs:pK c)(ha:SE X a fa)(hb:SE X b fb)(hc:SE X c fc) :
 ST X (.Compare a [O,O'] [b,c] pos) (λρ h=>(fa ρ h).bind λx h=>(fb ρ h).bind λy h=>match aN c1 h x y with|some true=>(fc ρ h).bind λz h=>.of ((aN c2 h y z).map .bl) h|some false=>.ok (.bl false) h|none=>.no):=(S3 (yh hu e) (yh hu e') ha hb hc (Ow hs)).imp λσ H Q q=>Ox (Om q)
noncomputable abbrev Br(fa:FE):FE:=λρ h=>(fa ρ h).bind λx h=>match x with|.bl b=>.ok (.bl (!b)) h|_=>.no
noncomputable abbrev Bs(fa fb:FE):FE:=λρ h=>(fa ρ h).bind λx h=>match x with|.bl true=>fb ρ h|.bl false=>.ok (.bl false) h|_=>.no
noncomputable abbrev Oz(fa fb:FE):FE:=λρ h=>(fa ρ h).bind λx h=>match x with|.bl true=>.ok (.bl true) h|.bl false=>fb ρ h|_=>.no
noncomputable abbrev Ik(fa fb fc:FE):FE:=λρ h=>(fa ρ h).bind λx h=>match x with|.bl true=>fb ρ h|.bl false=>fc ρ h|_=>.no
variable{rest:List ao}
theorem Wg(ha:ST X a fa):ST X (.UnaryOp .Not a pos) (Br fa):=(RU ha).imp λσ H Q z9=>z9.el λρ h m b h' f r e k=>by
 refine bR e λx h1 e1 e2=>?_;cases x<;>try cases e2
 rename_i b;exact(.mk f r e1 λH' m' s' r'=>k H' m' s' r')
theorem Wh(ha:SE X a fa):SE X (.UnaryOp .Not a pos) (Br fa):=(RX ha).imp λσ H Q z9=>z9.el λρ h m b h' f r e k=>by
 refine bR e λx h1 e1 e2=>?_;cases x<;>try cases e2
 rename_i b;exact(.mk f r e1 λv H' m' s' r' q=>by cases q;exact⟨b,rfl,k _ H' m' s' r' (.bl _)⟩)
theorem OA{op:BoolOp}(ha:ST X a fa):SW X (.BoolOp op [a] pos) fa:=by cases op;exact RQ ha;exact RS ha
theorem Wi(ha:ST X a fa)(hb:SW X (.BoolOp .And (b::rest) pos) fb):SW X (.BoolOp .And (a::b::rest) pos) (Bs fa fb):=(RT ha hb).imp λσ H Q z9=>z9.el λρ h m b h' f r e k=>by
 refine bR e λx h1 e1 e2=>?_;cases x<;>try cases e2
 rename_i c;refine(.mk f r e1 λH1 m1 s1 r1=>?_);cases c with|true=>rw[if_pos rfl];exact(.mk (f.stp s1) r1 e2 λH' m' s' r'=>k H' m' (s1.trans s') r')|false=>cases e2;simp only[dO,di];exact k H1 m1 s1 r1
theorem Bt(ha:ST X a fa)(hb:SW X (.BoolOp .Or (b::rest) pos) fb):SW X (.BoolOp .Or (a::b::rest) pos) (Oz fa fb):=(pw_or ha hb).imp λσ H Q z9=>z9.el λρ h m b h' f r e k=>by
 refine bR e λx h1 e1 e2=>?_;cases x<;>try cases e2
 rename_i c;refine(.mk f r e1 λH1 m1 s1 r1=>?_);cases c with|true=>cases e2;rw[if_pos rfl];exact k H1 m1 s1 r1|false=>simp only[dO,di];exact(.mk (f.stp s1) r1 e2 λH' m' s' r'=>k H' m' (s1.trans s') r')
theorem OB{op:BoolOp}(ha:SE X a fa):SE X (.BoolOp op [a] pos) fa:=RV ha
theorem Wj(ha:SE X a fa)(hb:SE X (.BoolOp .And (b::rest) pos) fb):SE X (.BoolOp .And (a::b::rest) pos) (Bs fa fb):=(RW ha hb).imp λσ H Q z9=>z9.el λρ h m w h' f r e k=>by
 refine bR e λx h1 e1 e2=>?_;cases x<;>try cases e2
 rename_i c;refine(.mk f r e1 λv H1 m1 s1 r1 q1=>?_);cases q1;refine⟨c,rfl,?_⟩;cases c with|true=>rw[if_pos rfl];exact(.mk (f.stp s1) r1 e2 λv H' m' s' r' q'=>k v H' m' (s1.trans s') r' q')|false=>cases e2;simp only[dO,di];exact k _ H1 m1 s1 r1 (.bl false)
theorem Bu(ha:SE X a fa)(hb:SE X (.BoolOp .Or (b::rest) pos) fb):SE X (.BoolOp .Or (a::b::rest) pos) (Oz fa fb):=(zE ha hb).imp λσ H Q z9=>z9.el λρ h m w h' f r e k=>by
 refine bR e λx h1 e1 e2=>?_;cases x<;>try cases e2
 rename_i c;refine(.mk f r e1 λv H1 m1 s1 r1 q1=>?_);cases q1;refine⟨c,rfl,?_⟩;cases c with|true=>cases e2;rw[if_pos rfl];exact k _ H1 m1 s1 r1 (.bl true)|false=>simp only[dO,di];exact(.mk (f.stp s1) r1 e2 λv H' m' s' r' q'=>k v H' m' (s1.trans s') r' q')
theorem Wk(hc:ST X c fc)(ha:SE X a fa)(hb:SE X b fb):SE X (.IfExp c a b pos) (Ik fc fa fb):=(RZ hc ha hb).imp λσ H Q z9=>z9.el λρ h m w h' f r e k=>by
 refine bR e λx h1 e1 e2=>?_;cases x<;>try cases e2
 rename_i c;refine(.mk f r e1 λH1 m1 s1 r1=>?_);cases c with|true=>rw[if_pos rfl];exact(.mk (f.stp s1) r1 e2 λv H' m' s' r' q'=>k v H' m' (s1.trans s') r' q')|false=>simp only[dO,di];exact(.mk (f.stp s1) r1 e2 λv H' m' s' r' q'=>k v H' m' (s1.trans s') r' q')
theorem OC{K:aH}{m:Nat->ah}{n:Nat}{H:Hp}{vs:List V}{ws:List W}(q:aE K m n H vs ws):vs.isEmpty=ws.isEmpty:=by cases q<;>rfl
theorem Wl{K:aH}{m:Nat->ah}{h:VH}{H:Hp}{v:V}{w:W}{b:Bool}(r:Rel K m h H)(q:aI K m h.n H v w)(e:lX h w=aB b):vg K v H b:=by
 cases q with
 |aL=>cases e;rfl
 |bl x=>cases e;rfl
 |int i=>cases e;rfl
 |str x=>cases e
 |fz _ _=>cases e
 |tup sq rs=>cases e;exact .inr (.inl ⟨_,sq,by rw[OC rs]⟩)
 | @ref i hi=>
  simp only[lX]at e;cases g:h.get i with
  |none=>rw[g]at e;cases e
  |some o=>
   rw[g]at e;cases o with
   |dk _=>cases e
   |dm _=>cases e
   |lst ws=>
    cases e;obtain⟨vs,h1,h2⟩:=r.lst g;exact .inl ⟨vs,cH.of h1,by rw[OC h2]⟩
theorem Il(ha:SE X a fa)(he:∀whole,isTrue a X.env whole=(do let v <-whole;standAt a.pos;holding [v] (truthy v))) :
 ST X a (λρ h=>(fa ρ h).bind λx h=>.of ((lX h x).map .bl) h):=(S6 ha he).imp λσ H Q z9=>z9.el λρ h m b h' f r e k=>by
 refine bR e λx h1 e1 e2=>?_;obtain⟨e2,rfl⟩:=of_ok e2;cases z:lX h' x with
 |none=>rw[z]at e2;cases e2
 |some c=>
  rw[z]at e2;cases e2;exact(.mk f r e1 λv H' m' s' r' q=>⟨b,Wl r' q z,k H' m' s' r'⟩)
theorem Wm(ha:SE X a fa):SE X (.UnaryOp .USub a pos) (λρ h=>(fa ρ h).bind λx h=>match x with|.int i=>.ok (.int (-i)) h|_=>.no):=
 (zR SV ha).imp λσ H Q q=>Ol (g:=λx h=>match x with|.int i=>.ok (.int (-i)) h|_=>.no) (G:=rU λi=>.int (-i)) (λm h H v x w h' Q r q e k=>by
   cases q<;>try cases e
   rename_i i;exact⟨i,rfl,aK.here k r (.int _)⟩) q
end
section
variable{K:aH}{m m0:Nat->ah}{n n0:Nat}{h:VH}{H H0:Hp}
theorem Rel.adopt(r:Rel K m h H){p:ah}{o:VO}{u u0:HO}(hp:∀i,i<h.n->m i≠p)(hu:H p=aB u0)(ht:∀t,u0≠.tup t)(hf:∀o t,u0≠.bL o t)(s:bQ m0 n0 H0 m h.n H)(h0:H0 p=aC)
 (ho:bQ m h.n H (λi=>if i=h.n then p else m i) (h.n+1) (upd H p u)\/True->(∀{v:V}{w:W},aI K m h.n H v w->aI K (λi=>if i=h.n then p else m i) (h.n+1) (upd H p u) v w)->fY K (λi=>if i=h.n then p else m i) (h.n+1) (upd H p u) p o) :
 bQ m0 n0 H0 (λi=>if i=h.n then p else m i) (h.n+1) (upd H p u)/\Rel K (λi=>if i=h.n then p else m i) (h.new o) (upd H p u):=by
 have kt:∀b vs,H b=aB (.tup vs)->upd H p u b=aB (.tup vs):=λb vs q=>by rw[bV (cV q hu λz=>ht vs z.symm)];exact q
 have kf:∀b o t,H b=aB (.bL o t)->upd H p u b=aB (.bL o t):=λb o t q=>by rw[bV (cV q hu λz=>hf o t z.symm)];exact q
 have mv:∀{v:V}{w:W},aI K m h.n H v w->aI K (λi=>if i=h.n then p else m i) (h.n+1) (upd H p u) v w:=by
  intro v w q;have st:bQ m h.n (λb=>if b=p then aC else H b) (λi=>if i=h.n then p else m i) (h.n+1) (upd H p u):=by
   refine⟨sW _,λi hi=>by simp only[if_neg (fL hi)],λi hi hi2=>?_,λi j hi hi2 hj=>?_,λb vs q=>?_,λb o t q=>?_,λb o _ q=>?_⟩;have:i=h.n:=by lia
   subst this;simp only[bX];have:i=h.n:=by lia
   subst this;simp only[bX,if_neg (fL hj)];exact(hp j hj).symm;split at q;cases q;exact kt b vs q;split at q;cases q;exact kf b o t q;split at q;cases q;rename_i z;rw[bV z];exact q
  refine aI.stp st ?_;have back:∀{a vs},bW K H a vs->bW K (λb=>if b=p then aC else H b) a vs:=by
   intro a vs q;rcases q with(q|⟨o,q⟩)|q
   exact .inl (.inl (by simp only[if_neg (cV q hu λz=>ht vs z.symm)];exact q));exact .inl (.inr ⟨o,by simp only[if_neg (cV q hu λz=>hf o _ z.symm)];exact q⟩);exact .inr q
  have Bv:∀{a vs},Fz K H a vs->Fz K (λb=>if b=p then aC else H b) a vs:=by
   intro a vs q;rcases q with⟨o,q⟩|q
   exact .inl ⟨o,by simp only[if_neg (cV q hu λz=>hf o _ z.symm)];exact q⟩;exact .inr q
  exact(aI.rec (K:=K) (m:=m) (n:=h.n) (H:=H) (motive_1:=λv w _=>aI K m h.n (λb=>if b=p then aC else H b) v w) (motive_2:=λvs ws _=>aE K m h.n (λb=>if b=p then aC else H b) vs ws)
   .aL .bl .int .str (λsq _ ih=>.tup (back sq) ih) (λsq _ ih=>.fz (Bv sq) ih) (λhi=>.ref hi) .nil (λ_ _ i1 i2=>.cons i1 i2) q)
 refine⟨⟨yO s.le,λi hi=>?_,λi hi hi2=>?_,λi j hi hi2 hj=>?_,λb vs q=>kt b vs (s.tup b vs q),λb o t q=>kf b o t (s.bL b o t q),λb o nb q=>?_⟩,⟨λi hi=>?_,λi j hi hj z=>?_,?_⟩⟩;have:=s.le;simp only[if_neg (show i≠h.n by lia)];exact s.same i hi;by_cases e:i=h.n;subst e;simp only[bX];exact h0;simp only[if_neg e];exact s.new i hi (by lia);have:=s.le;simp only[if_neg (show j≠h.n by lia)];by_cases e:i=h.n;subst e;simp only[bX];exact(hp j (by lia)).symm;simp only[if_neg e];exact s.apart i j hi (by lia) hj;rw[bV (gG q h0)];exact s.keep b o nb q;have hi:i<h.n+1:=hi;by_cases e:i=h.n;subst e;exact⟨o,fj,by simp only[bX];exact ho (.inr trivial) mv⟩;have hl:i<h.n:=by lia
 obtain⟨o',h1,h2⟩:=r.obj i hl;refine⟨o',(iB hl).trans h1,?_⟩;simp only[if_neg e];have eq:upd H p u (m i)=H (m i):=bV (hp i hl);cases o' with
 |lst ws=>
  obtain⟨vs,q1,q2⟩:=h2;exact⟨vs,eq.trans q1,aE.rec (K:=K) (m:=m) (n:=h.n) (H:=H) (motive_1:=λv w _=>aI K m h.n H v w) (motive_2:=λvs ws _=>aE K (λi=>if i=h.n then p else m i) (h.n+1) (upd H p u) vs ws)
   .aL .bl .int .str (λsq q _=>.tup sq q) (λsq q _=>.fz sq q) (λhi=>.ref hi) .nil (λq _ _ i2=>.cons (mv q) i2) q2⟩
 |dk ws=>
  obtain⟨vs,q1,q2⟩:=h2;have go:∀{vs:List (Key×V)}{ws:List (Key×W)},aM K m h.n H vs ws->aM K (λi=>if i=h.n then p else m i) (h.n+1) (upd H p u) vs ws:=by
   intro vs ws q2;induction q2 with|nil=>exact .nil|cons q _ ih=>exact .cons (mv q) ih
  exact⟨vs,q1.imp (λz=>eq.trans z) λ⟨o,z⟩=>⟨o,eq.trans z⟩,go q2⟩
 |dm ws=>
  obtain⟨vs,q1,q2⟩:=h2;have go:∀{vs:List (Key×V)}{ws:List (Key×W)},aM K m h.n H vs ws->aM K (λi=>if i=h.n then p else m i) (h.n+1) (upd H p u) vs ws:=by
   intro vs ws q2;induction q2 with|nil=>exact .nil|cons q _ ih=>exact .cons (mv q) ih
  exact⟨vs,eq.trans q1,go q2⟩
 have hi:i<h.n+1:=hi;have hj:j<h.n+1:=hj;by_cases e:i=h.n;by_cases e2:j=h.n;lia;simp only[if_pos e,if_neg e2]at z;exact absurd z.symm (hp j (by lia));by_cases e2:j=h.n;simp only[if_neg e,if_pos e2]at z;exact absurd z (hp i (by lia));simp only[if_neg e,if_neg e2]at z;exact r.inj i j (by lia) (by lia) z;show(o::h.os).length=h.n+1;rw[cZ,r.len]
theorem aE.map{m':Nat->ah}{n':Nat}{H':Hp}(mv:∀{v:V} {w:W},aI K m n H v w->aI K m' n' H' v w):∀{vs:List V} {ws:List W},aE K m n H vs ws->aE K m' n' H' vs ws|_,_,.nil=>.nil|_,_,.cons q r=>.cons (mv q) (aE.map mv r)
theorem aM.map{m':Nat->ah}{n':Nat}{H':Hp}(mv:∀{v:V} {w:W},aI K m n H v w->aI K m' n' H' v w):∀{vs:List (Key×V)} {ws:List (Key×W)},aM K m n H vs ws->aM K m' n' H' vs ws|_,_,.nil=>.nil|_,_,.cons q r=>.cons (mv q) (aM.map mv r)
theorem aM.look(k:Key):∀{vs:List (Key×V)} {ws:List (Key×W)},aM K m n H vs ws->(gy vs k=aC/\cj ws k=aC)\/∃v w,gy vs k=aB v/\cj ws k=aB w/\aI K m n H v w
 |_,_,.nil=>.inl ⟨rfl,rfl⟩
 |_,_,.cons (k:=k') (v:=v) (w:=w) q r=>by
  by_cases e:k'=k;refine .inr ⟨v,w,DS (p:=(k',v)) e,?_,q⟩;unfold cj;rw[p5];simp[e];rcases aM.look k r with⟨a,b⟩|⟨v',w',a,b,c⟩
  refine .inl ⟨(Au (p:=(k',v)) e).trans a,?_⟩;unfold cj at b ⊢;rw[p5];simp only[gF e];exact b;refine .inr ⟨v',w',(Au (p:=(k',v)) e).trans a,?_,c⟩;unfold cj at b ⊢;rw[p5];simp only[gF e];exact b
theorem aM.any(k:Key):∀{vs:List (Key×V)} {ws:List (Key×W)},aM K m n H vs ws->(vs.any λkv=>decide (kv.1=k))=(ws.any λkv=>decide (kv.1=k))|_,_,.nil=>rfl|_,_,.cons q r=>by rw[ze,ze,aM.any k r]
theorem aM.repl{v:V}{w:W}(q:aI K m n H v w)(k:Key):∀{vs:List (Key×V)} {ws:List (Key×W)},aM K m n H vs ws->aM K m n H (vs.map λkv=>if kv.1=k then(kv.1,v)else kv) (ws.map λkv=>if kv.1=k then(kv.1,w)else kv)
 |_,_,.nil=>.nil
 |_,_,.cons (k:=k') p r=>by
  rw[dw,dw];by_cases e:k'=k;simp only[if_pos e];exact .cons q (aM.repl q k r);simp only[if_neg e];exact .cons p (aM.repl q k r)
theorem aM.snoc{v:V}{w:W}(q:aI K m n H v w)(k:Key):∀{vs:List (Key×V)} {ws:List (Key×W)},aM K m n H vs ws->aM K m n H (vs++[(k,v)]) (ws++[(k,w)])|_,_,.nil=>.cons q .nil|_,_,.cons p r=>.cons p (aM.snoc q k r)
theorem aM.put{v:V}{w:W}(q:aI K m n H v w)(k:Key){vs:List (Key×V)}{ws:List (Key×W)}(r:aM K m n H vs ws):aM K m n H (putK vs k v) (jz ws k w):=by unfold putK jz;rw[r.any k];split;exact r.repl q k;exact r.snoc q k
theorem aM.merge{vs:List (Key×V)}{ws:List (Key×W)}(q:aM K m n H vs ws):∀{va:List (Key×V)} {wa:List (Key×W)},aM K m n H va wa->aM K m n H (tM va vs) (EA wa ws):=by
 induction q with|nil=>exact λa=>a|cons q r ih=>exact λa=>ih (a.put q _)
theorem aM.length:∀{vs:List (Key×V)} {ws:List (Key×W)},aM K m n H vs ws->vs.length=ws.length|_,_,.nil=>rfl|_,_,.cons _ r=>by rw[cZ,cZ,aM.length r]
theorem Wn{v:V}{w:W}{k:Key}(q:aI K m n H v w)(e:qV w=aB k):v=kV k:=by cases q<;>cases e<;>rfl
theorem Im{vs:List V}{ws:List W}{i:Int}{w:W}(q:aE K m n H vs ws)(e:dG ws i=aB w):∃v,dG vs i=aB v/\aI K m n H v w:=by
 unfold dG at e ⊢;rw[q.length];cases z:iA ws.length i with
 |none=>rw[z]at e;cases e
 |some j=>
  rw[z]at e;exact q.get e
end
noncomputable def vW(K:aH):R2:=λx y H Q=>Ae K x y H Q\/Af K x y H Q\/(∃a v,x=.ref a/\qy H a y (aB v)/\Q v H)
section
variable{X:Cx}{a b c e o:ao}{es:List ao}{fa fb fc fo:FE}{pos:Pos}
theorem Wo(hu:X.A.units+1<cLine):qx X (λx y H Q=>∃a v,x=.ref a/\qy H a y (aB v)/\Q v H):=by intro value slice pins s σ H x y v u Q I rx ry q hs;obtain⟨a,v',rfl,g,q⟩:=q;obtain rfl:v=Value.ref a:=rx;exact tail_any (UE I g) PySem.F.slot_dict_getitem.lookup (UC hu I g ry λw' s3 I3 rw'=>⟨v',H,I3,rw',q⟩) hs
theorem Bw(hu:X.A.units+2<cLine):qx X (vW X.K):=TN.or (TQ.or (Wo (by lia)))
theorem Wq{K:aH}:Bl K (vW K) (λx y h=>.of (bF h x y) h):=by
 intro m h H v u x y w h' Q r qv qu e0 k;obtain⟨e,e1⟩:=of_ok e0;clear e0;subst e1;unfold bF at e;split at e;cases qv with
 |tup sq rs=>
  cases qu;obtain⟨v',h1,h2⟩:=Im rs e;exact .inr (.inl ⟨_,_,_,v',rfl,rfl,sq,h1,aK.here k r h2⟩)
 cases qv with
 |fz sq rs=>
  cases qu;obtain⟨v',h1,h2⟩:=Im rs e;exact .inl ⟨_,_,_,v',rfl,rfl,sq.sq,h1,aK.here k r h2⟩
 rename_i i j;cases qv;cases qu;cases g:h'.get i with
 |none=>rw[g]at e;cases e
 |some ob=>
  rw[g]at e;cases ob with
  |lst ws=>
   obtain⟨vs,p1,p2⟩:=r.lst g;obtain⟨v',h1,h2⟩:=Im p2 e;exact .inl ⟨_,_,_,v',rfl,rfl,cH.of p1,h1,aK.here k r h2⟩
  |dk ws=>
   have e:cj ws (.inl j)=aB w:=e;obtain⟨vs,p1,p2⟩:=r.dk g;rcases p2.look (.inl j)with⟨_,z⟩|⟨v',w',z1,z2,z3⟩
   rw[z]at e;cases e;rw[z2]at e;cases e;exact .inr (.inr ⟨_,v',rfl,by rw[<-z1];exact .inl ⟨vs,.inl j,p1,rfl,rfl⟩,aK.here k r z3⟩)
  |dm ws=>
   have e:cj ws (.inl j)=aB w:=e;obtain⟨vs,p1,p2⟩:=r.dm g;rcases p2.look (.inl j)with⟨_,z⟩|⟨v',w',z1,z2,z3⟩
   rw[z]at e;cases e;rw[z2]at e;cases e;exact .inr (.inr ⟨_,v',rfl,by rw[<-z1];exact .inl ⟨vs,.inl j,.inl p1,rfl,rfl⟩,aK.here k r z3⟩)
 rename_i i j;cases qv;cases qu;cases g:h'.get i with
 |none=>rw[g]at e;cases e
 |some ob=>
  rw[g]at e;cases ob with
  |lst ws=>cases e
  |dk ws=>
   have e:cj ws (.inr j)=aB w:=e;obtain⟨vs,p1,p2⟩:=r.dk g;rcases p2.look (.inr j)with⟨_,z⟩|⟨v',w',z1,z2,z3⟩
   rw[z]at e;cases e;rw[z2]at e;cases e;exact .inr (.inr ⟨_,v',rfl,by rw[<-z1];exact .inl ⟨vs,.inr j,p1,rfl,rfl⟩,aK.here k r z3⟩)
  |dm _=>cases e
 cases e
theorem Wr(hu:X.A.units+2<cLine)(ha:SE X a fa)(hb:SE X b fb)(hs:GK b):SE X (.Subscript a b pos) (λρ h=>(fa ρ h).bind λx h=>(fb ρ h).bind λy h=>.of (bF h x y) h):=
 (Ad (Bw hu) ha hb hs).imp λσ H Q q=>EB (G:=vW X.K) Wq q
noncomputable def iY(K:aH)(b:Bool)(f:FE):TO:=λσ H Q=>∃ρ h m w o h',Fr K m h.n H σ ρ/\Rel K m h H/\f ρ h=.ok w h'/\eN b w=aB o/\∀H' m',bQ m h.n H m' h'.n H'->Rel K m' h' H'->Q o H'
theorem iY.el{K:aH}{σ:L2.St}{H:Hp}{P:Prop}{b:Bool}{fa:FE}{Q:Option Int->Hp->Prop}(q:iY K b fa σ H Q)(k:∀ρ h m w o h',Fr K m h.n H σ ρ->Rel K m h H->fa ρ h=.ok w h'->eN b w=aB o->(∀H' m',bQ m h.n H m' h'.n H'->Rel K m' h' H'->Q o H')->P):P:=by obtain⟨ρ,h,m,w,o,h',f,r,e,ep,k'⟩:=q;exact k ρ h m w o h' f r e ep k'
theorem iY.mk{K:aH}{σ:L2.St}{H:Hp}{m:Nat->ah}{ρ:En}{h h':VH}{w:W}{o:Option Int}{b:Bool}{fa:FE}{Q:Option Int->Hp->Prop}(f:Fr K m h.n H σ ρ)(r:Rel K m h H)(e:fa ρ h=.ok w h')(ep:eN b w=aB o)(k:∀H' m',bQ m h.n H m' h'.n H'->Rel K m' h' H'->Q o H'):iY K b fa σ H Q:=⟨ρ,h,m,w,o,h',f,r,e,ep,k⟩
theorem Ws{w:W}:PO X aC (iY X.K false (λ_ h=>.ok w h)):=λpins s σ H Q I z9=>z9.el λρ h m w o h' f r e ep k=>by
 cases e;have:o=aC:=by unfold eN at ep;cases ep;rfl
 subst this;exact Tv pins s σ H Q I (k H m .refl r)
theorem Wt(ha:SE X e fa):PO X (aB e) (iY X.K true fa):=λpins s σ H Q I z9=>z9.el λρ h m w o h' f r e ep k=>by
 refine Tz ha pins s σ H Q I (.mk f r e λv H' m' s' r' q=>?_);cases q<;>cases ep;exact⟨_,rfl,k H' m' s' r'⟩
theorem OD{K:aH}{m:Nat->ah}{n:Nat}{H:Hp}{vs:List V}{ws:List W}(q:aE K m n H vs ws)(lo hi:Option Int):aE K m n H (jn vs lo hi) (iU ws lo hi):=by unfold jn iU;rw[q.length];exact(q.drop _).take _
theorem Wu{ws:List W}{lo hi:Option Int}(h:HT.bH ws.length 0 lo=0/\HT.bH ws.length ws.length hi=ws.length):iU ws lo hi=ws:=by unfold iU;rw[h.1,h.2];simp
theorem Wv{lo hi:Option ao}{fl fh:FE}{p2:Pos}{bl bh:Bool}(ha:SE X a fa)(hl:PO X lo (iY X.K bl fl))(hh:PO X hi (iY X.K bh fh)) :
 SE X (.Subscript a (.Slice lo hi aC p2) pos) (λρ h=>(fa ρ h).bind λx h=>(fl ρ h).bind λl h=>(fh ρ h).bind λu h=>match eN bl l,eN bh u with|some l,aB u=>jA x l u h|_,_=>.no):=
 (TH U4 ha hl hh).imp λσ H Q z9=>z9.el λρ h m w h' f r e k=>by
   refine bR e λx h1 e1 e2=>?_;refine bR e2 λl h2 e3 e4=>?_;refine bR e4 λu h3 e5 e6=>?_;split at e6;rename_i l' u' pl pu;refine(.mk f r e1 λv H1 m1 s1 r1 q1=>(.mk (f.stp s1) r1 e3 pl λH2 m2 s2 r2=>(.mk ((f.stp s1).stp s2) r2 e5 pu λH3 m3 s3 r3=>?_)));have q3:=(q1.stp s2).stp s3;have kk:aK X.K m3 h3.n H3 w h' Q:=λv' H' m' s' r' q'=>k v' H' m' (((s1.trans s2).trans s3).trans s') r' q';unfold jA at e6;split at e6;rename_i ws;cases e6;cases q3 with
   | @tup a vs _ sq rs=>
    by_cases hw:HT.bH vs.length 0 l'=0/\HT.bH vs.length vs.length u'=vs.length;refine .inl (.inr ⟨_,_,rfl,sq,hw,?_⟩);have OE:=hw;rw[rs.length]at OE;rw[Wu OE]at kk;exact aK.here kk r3 (.tup sq rs);exact .inl (.inl ⟨_,_,rfl,sq,hw,λp hp=>aK.tuple kk r3 (OD rs l' u') hp⟩)
   rename_i i;cases q3;cases g:h3.get i with
   |none=>rw[g]at e6;cases e6
   |some ob=>
    rw[g]at e6;cases ob with
    |lst ws=>
     cases e6;obtain⟨vs,p1,p2⟩:=r3.lst g;exact .inr ⟨_,_,rfl,cH.of p1,λp hp=>aK.list kk r3 (OD p2 l' u') hp⟩
    |dk ws=>cases e6
    |dm _=>cases e6
   cases e6;cases e6
end
noncomputable def gH:ao->Bool|.Starred ..=>false|_=>true
theorem gf{e:ao}{es:List ao}{env:Env}(h:gH e):starEach (e::es) env=(false,eval e env)::starEach es env:=by cases e<;>first|rfl|cases h
theorem Bx{pos:Pos}{env:Env}:∀{es:List ao},es.all gH=true->(backTo pos (starEach es env)).any (·.1)=false
 |[],_=>rfl
 |e::es,h=>by
  rw[pq,bE]at h;rw[gf h.1];show(false|| (backTo pos (starEach es env)).any (·.1))=false;rw[Bx h.2];rfl
noncomputable abbrev rj:FE:=λ_ h=>.ok (.tup []) h
noncomputable abbrev nS(fa fb:FE):FE:=λρ h=>(fa ρ h).bind λx h=>(fb ρ h).bind λy h=>match y with|.tup ys=>.ok (.tup (x::ys)) h|_=>.no
section
variable{X:Cx}{a b c e o:ao}{es:List ao}{fa fb fc fo:FE}{pos p:Pos}{x:Str}
noncomputable abbrev i6(fa:FE)(g:List W->VH->Res W):FE:=λρ h=>(fa ρ h).bind λy h=>match y with|.tup ys=>g ys h|_=>.no
noncomputable def eO(K:aH)(r:List V->Hp->VK->Prop)(g:List W->VH->Res W):Prop:=∀(m:Nat->ah) (h:VH) (H:Hp) (vs:List V) (xs:List W) (w:W) (h':VH) (Q:VK),Rel K m h H->aE K m h.n H vs xs->g xs h=.ok w h'->aK K m h.n H w h' Q->r vs H Q
theorem yi{id:String}{r:List V->Hp->VK->Prop}{g:List W->VH->Res W}(hc:bS X (.builtin id) r)(hv:eO X.K r g)(hg:Gl X x)(hm:X.mg x=aC)(hb:bootBuiltins x=aB (.builtin id))(ha:SA X (e::es) fa)(hs:(e::es).all gH=true)
 (hn:x≠"__name__") (hdb:(x==("__debug__" : Str))=false):SE X (.Call (.Name x p) (e::es) [] pos) (i6 fa g):=by
 rw[pq,bE]at hs;exact(MQ hc hg hm hb ha hn hdb (gf hs.1) (Bx hs.2)).imp λσ H Q q=>vR hv q
theorem Io{T:String}{r:List V->Hp->VK->Prop}{g:List W->VH->Res W}(hc:bS X (.type T) r)(hv:eO X.K r g)(hg:Gl X x)(hm:X.mg x=aC)(hb:bootBuiltins x=aB (.type T))(ha:SA X (e::es) fa)(hs:(e::es).all gH=true)
 (hn:x≠"__name__") (hdb:(x==("__debug__" : Str))=false):SE X (.Call (.Name x p) (e::es) [] pos) (i6 fa g):=by
 rw[pq,bE]at hs;exact(To hc hg hm hb ha hn hdb (gf hs.1) (Bx hs.2)).imp λσ H Q q=>vR hv q
theorem dM{K:aH}{m:Nat->ah}{n:Nat}{H:Hp}{vs:List V}{w:W}(q:aE K m n H vs [w]):∃v,vs=[v]/\aI K m n H v w:=by cases q with|cons q r=>cases r;exact⟨_,rfl,q⟩
theorem Ww{K:aH}:eO K (λxs H Q=>∃p ys,xs=[.ref p]/\(cH K H p ys\/bW K H p ys)/\Q (.int ys.length) H) fO:=by
 intro m h H vs xs w h' Q r q e k;unfold fO at e;split at e<;>try cases e
 rename_i x;obtain⟨v,rfl,q1⟩:=dM q;obtain⟨e,rfl⟩:=of_ok e;cases z:aO h' x with
 |none=>
  rw[z]at e;cases e
 |some ws=>
  rw[z]at e;cases e;obtain⟨p,us,rfl,h1,h2⟩:=yg r q1 z;exact⟨p,us,rfl,h1,by rw[h2.length];exact aK.here k r (.int _)⟩
theorem Wx{K:aH}:eO K (λxs H Q=>∃p ys,xs=[.ref p]/\(cH K H p ys\/bW K H p ys)/\∀l,H l=aC->Q (.ref l) (upd H l (.lst ys))) gR:=by
 intro m h H vs xs w h' Q r q e k;unfold gR at e;split at e<;>try cases e
 rename_i x;obtain⟨v,rfl,q1⟩:=dM q;cases z:aO h x with
 |none=>rw[z]at e;cases e
 |some ws=>
  rw[z]at e;cases e;obtain⟨p,us,rfl,h1,h2⟩:=yg r q1 z;exact⟨p,us,rfl,h1,λl hl=>aK.list k r h2 hl⟩
theorem Wy{K:aH}:eO K (λxs H Q=>∃p ys,xs=[.ref p]/\((cH K H p ys/\∀l,H l=aC->Q (.ref l) (upd H l (.tup ys)))\/(bW K H p ys/\Q (.ref p) H))) qW:=by
 intro m h H vs xs w h' Q r q e k;unfold qW at e;split at e<;>try cases e
 rename_i x;obtain⟨v,rfl,q1⟩:=dM q;obtain⟨e,rfl⟩:=of_ok e;cases z:aO h' x with
 |none=>
  rw[z]at e;cases e
 |some ws=>
  rw[z]at e;cases e;obtain⟨p,us,rfl,h1,h2⟩:=yg r q1 z;rcases h1 with h1|h1
  exact⟨p,us,rfl,.inl ⟨h1,λl hl=>aK.tuple k r h2 hl⟩⟩;exact⟨p,us,rfl,.inr ⟨h1,aK.here k r (.tup h1 h2)⟩⟩
theorem Wz{K:aH}:eO K (λxs H Q=>(∃i,xs=[.int i]/\Q (.int i) H)\/∃k,xs=[.bl k]/\Q (.int (if k then 1 else 0)) H) kg:=by
 intro m h H vs xs w h' Q r q e k;unfold kg at e;split at e<;>try cases e
 obtain⟨v,rfl,q1⟩:=dM q;cases q1;exact .inl ⟨_,rfl,aK.here k r (.int _)⟩;obtain⟨v,rfl,q1⟩:=dM q;cases q1;exact .inr ⟨_,rfl,aK.here k r (.int _)⟩
theorem WA{K:aH}:eO K (λxs H Q=>∃i,xs=[.int i]/\Q (.int (if i<0 then -i else i)) H) kh:=by
 intro m h H vs xs w h' Q r q e k;unfold kh at e;split at e<;>try cases e
 obtain⟨v,rfl,q1⟩:=dM q;cases q1;exact⟨_,rfl,aK.here k r (.int _)⟩
theorem kZ{K:aH}{m:Nat->ah}{n:Nat}{H:Hp}{vs:List V}{w z:W}(q:aE K m n H vs [w,z]):∃v u,vs=[v,u]/\aI K m n H v w/\aI K m n H u z:=by cases q with|cons q r=>obtain⟨u,rfl,h⟩:=dM r;exact⟨_,_,rfl,q,h⟩
theorem OF{K:aH}{m:Nat->ah}{n:Nat}{H:Hp}:∀{vs:List V} {ws:List W} {is:List Int},aE K m n H vs ws->aP iZ ws=aB is->vs=is.map .int
 |_,_,_,.nil,e=>by cases e;rfl
 |_,_,_,.cons (w:=w) (ws:=ws) q r,e=>by
  unfold aP at e;cases z:iZ w with
  |none=>rw[z]at e;cases e
  |some b=>
   rw[z]at e;cases z2:aP iZ ws with
   |none=>rw[z2]at e;cases e
   |some cs=>
    rw[z2]at e;cases e;unfold iZ at z;split at z<;>cases z;cases q;rw[OF r z2];rfl
theorem OG:∀(r:List Int) (x:Int),x<=dH x r/\∀y∈r,y<=dH x r
 |[],x=>⟨xO _,λ_ h=>nomatch h⟩
 |y::r,x=>by
  have h:=OG r (if y>x then y else x);by_cases q:y>x;rw[if_pos q]at h;have e:dH x (y::r)=dH y r:=by show dH (if y>x then y else x) r=_;rw[if_pos q]
  rw[e];refine⟨by have:=h.1;lia,λz hz=>?_⟩;rcases fm.mp hz with rfl|hz
  exact h.1;exact h.2 z hz;rw[if_neg q]at h;have e:dH x (y::r)=dH x r:=by show dH (if y>x then y else x) r=_;rw[if_neg q]
  rw[e];refine⟨h.1,λz hz=>?_⟩;rcases fm.mp hz with rfl|hz
  have:=h.1;lia;exact h.2 z hz
theorem OH:∀(r:List Int) (x:Int),dH x r∈x::r
 |[],x=>dP
 |y::r,x=>by
  have h:=OH r (if y>x then y else x);by_cases q:y>x;rw[if_pos q]at h;have e:dH x (y::r)=dH y r:=by show dH (if y>x then y else x) r=_;rw[if_pos q]
  rw[e];exact dj _ h;rw[if_neg q]at h;have e:dH x (y::r)=dH x r:=by show dH (if y>x then y else x) r=_;rw[if_neg q]
  rw[e];rcases fm.mp h with h|h
  rw[h];exact dP;exact dj _ (dj _ h)
theorem WB{K:aH}:eO K (λxs H Q=>(∃i j,xs=[.int i,.int j]/\Q (.int (if j>i then j else i)) H)\/∃(p:ah) (ns:List Int),xs=[.ref p]/\cH K H p (ns.map .int)/\0<ns.length/\∀M,M∈ns->(∀a∈ns,a<=M)->Q (.int M) H) qX:=by
 intro m h H vs xs w h' Q r q e k;unfold qX at e;split at e<;>try cases e
 obtain⟨v,u,rfl,q1,q2⟩:=kZ q;cases q1;cases q2;exact .inl ⟨_,_,rfl,aK.here k r (.int _)⟩;rename_i i;split at e<;>try cases e
 rename_i ws g;split at e<;>try cases e
 rename_i x rs z;obtain⟨v,rfl,q1⟩:=dM q;cases q1;obtain⟨us,p1,p2⟩:=r.lst g;refine .inr ⟨_,x::rs,rfl,?_,Nat.succ_pos _,λM h1 h2=>?_⟩;rw[<-OF p2 z];exact .inl (.inl p1);have l1:=OG rs x;have hM:M=dH x rs:=by
  have a1:M<=dH x rs:=by rcases fm.mp h1 with rfl|h1;exact l1.1;exact l1.2 M h1
  have a2:=h2 _ (OH rs x);lia
 rw[hM];exact aK.here k r (.int _)
theorem WC{K:aH}:eO K (λxs H Q=>∃i j,xs=[.int i,.int j]/\Q (.int (if j<i then j else i)) H) ki:=by
 intro m h H vs xs w h' Q r q e k;unfold ki at e;split at e<;>try cases e
 obtain⟨v,u,rfl,q1,q2⟩:=kZ q;cases q1;cases q2;exact⟨_,_,rfl,aK.here k r (.int _)⟩
theorem OI{K:aH}{m:Nat->ah}{n:Nat}{H:Hp}:∀{vs:List V} {ws:List W} {bs:List Bool},aE K m n H vs ws->aP pJ ws=aB bs->vs=bs.map .bl
 |_,_,bs,.nil,e=>by cases e;rfl
 |_,_,bs,.cons (w:=w) (ws:=ws) q r,e=>by
  unfold aP at e;cases z:pJ w with
  |none=>rw[z]at e;cases e
  |some b=>
   rw[z]at e;cases z2:aP pJ ws with
   |none=>rw[z2]at e;cases e
   |some cs=>
    rw[z2]at e;cases e;unfold pJ at z;split at z<;>cases z;cases q;rw[OI r z2];rfl
theorem WD{K:aH}:eO K (λxs H Q=>∃(p:ah) (bs:List Bool),xs=[.ref p]/\cH K H p (bs.map .bl)/\Q (.bl (bs.all id)) H) lY:=by
 intro m h H vs xs w h' Q r q e k;unfold lY at e;split at e<;>try cases e
 rename_i i;split at e<;>try cases e
 rename_i ws g;obtain⟨v,rfl,q1⟩:=dM q;obtain⟨e,rfl⟩:=of_ok e;cases z:aP pJ ws with
 |none=>rw[z]at e;cases e
 |some bs=>
  rw[z]at e;cases e;cases q1;obtain⟨us,p1,p2⟩:=r.lst g;refine⟨_,bs,rfl,?_,aK.here k r (.bl _)⟩;rw[<-OI p2 z];exact .inl (.inl p1)
noncomputable def rm:Ty->String|.int=>"int" |.bool=>"bool" |.tuple=>"tuple" |.list=>"list" |.str=>"str" |.dict=>"dict"
noncomputable def By(K:aH)(n:String):List V->Hp->VK->Prop:=λxs H Q=>∃x b,xs=[x,.ty n]/\((∃t,fM K H x t/\PySem.W.kitOne K t (.type n)=aB b)\/(∃a vs,x=.ref a/\bW K H a vs/\PySem.W.kitOne K (.type "tuple") (.type n)=aB b)\/∃a kvs,x=.ref a/\Rd H a (.dK kvs)/\PySem.W.kitOne K (.type "dict") (.type n)=aB b)/\Q (.bl b) H
theorem WE(n:String):bS X (.builtin "isinstance") (By X.K n):=by
 intro pins s σ H xs us Q I r h;obtain⟨x,b,rfl,hi,q⟩:=h;obtain⟨u,u2,rfl,rx,rc⟩:=vals2 r;obtain rfl:u2=Value.type n:=rc;rcases hi with⟨t,ty,e⟩|⟨a,vs,rfl,sq,e⟩|⟨a,kvs,rfl,rd,e⟩
 exact Tf I rx ty e λtk=>⟨.bl b,H,I.tok _,rfl,q⟩
 obtain rfl:u=Value.ref a:=rx;obtain⟨its,_,p,_⟩:=I.tuple sq;obtain⟨o,h1,h2,_⟩:=p;exact lK PySem.W.kitx_tuple I.iG ⟨o,h1,h2⟩ e (λz=>nomatch z) λtk=>⟨.bl b,H,I.tok _,rfl,q⟩
 obtain rfl:u=Value.ref a:=rx;obtain⟨_,_,_,_,o,_,_,h1,h2,_⟩:=kM I.hok rd;exact lK PySem.W.kitx_dict I.iG ⟨o,h1,h2.1⟩ e (λz=>nomatch z) λtk=>⟨.bl b,H,I.tok _,rfl,q⟩
theorem WG{K:aH}(t:Ty){m:Nat->ah}{h:VH}{H:Hp}{v:V}{x:W}{b:Bool}(r:Rel K m h H)(q:aI K m h.n H v x)(e:dU t h x=aB b) :
 (∃t',fM K H v t'/\PySem.W.kitOne K t' (.type (rm t))=aB b)\/(∃a vs,v=.ref a/\bW K H a vs/\PySem.W.kitOne K (.type "tuple") (.type (rm t))=aB b)\/∃a kvs,v=.ref a/\Rd H a (.dK kvs)/\PySem.W.kitOne K (.type "dict") (.type (rm t))=aB b:=by
 cases q with
 |aL=>cases e;refine .inl ⟨_,.aL,?_⟩;cases t<;>rfl
 |bl x=>cases e;refine .inl ⟨_,.bl x,?_⟩;cases t<;>rfl
 |int x=>cases e;refine .inl ⟨_,.int x,?_⟩;cases t<;>rfl
 |str x=>cases e;refine .inl ⟨_,.str x,?_⟩;cases t<;>rfl
 |tup sq rs=>cases e;refine .inr (.inl ⟨_,_,rfl,sq,?_⟩);cases t<;>rfl
 |fz _ _=>cases e
 | @ref i hi=>
  simp only[dU]at e;cases g:h.get i with
  |none=>rw[g]at e;cases e
  |some o=>
   rw[g]at e;cases o with
   |lst ws=>
    cases e;obtain⟨vs,h1,h2⟩:=r.lst g;refine .inl ⟨_,.lst h1,?_⟩;cases t<;>rfl
   |dk ws=>
    cases e;obtain⟨vs,h1,h2⟩:=r.dk g;refine .inr (.inr ⟨_,_,rfl,h1,?_⟩);cases t<;>rfl
   |dm _=>cases e
theorem WH(t:Ty){T:Str}{p2:Pos}(ha:SE X e fa)(hs:gH e)(hg:Gl X "isinstance")(hm:X.mg "isinstance" = aC)(WI:Gl X T)(WJ:X.mg T=aC)(WK:bootBuiltins T=aB (.type (rm t)))(hn:T≠"__name__")(hd:(T==("__debug__" : Str))=false) :
 SE X (.Call (.Name "isinstance" p) [e,.Name T p2] [] pos) (λρ h=>(fa ρ h).bind λx h=>.of ((dU t h x).map .bl) h):=by
 have hT:PE X (.Name T p2) (tC (.ty (rm t))):=RO WI WJ WK rfl hn hd;refine(MQ (WE (rm t)) hg hm PyProof.Rows.boot_isinstance (zZ ha (zZ hT DH) (gf hs)) (by decide) (by decide) (gf hs) rfl).imp λσ H Q q=>?_;refine Ol (g:=λx h=>.of ((dU t h x).map .bl) h) (G:=λv H1 Q=>By X.K (rm t) [v,.ty (rm t)] H1 Q) (λm h H v x w h' Q r q e k=>?_) q;obtain⟨e,rfl⟩:=of_ok e;cases z:dU t h' x with
 |none=>rw[z]at e;cases e
 |some b=>
  rw[z]at e;cases e;exact⟨v,b,rfl,WG t r q z,aK.here k r (.bl b)⟩
noncomputable def Ip:ao->Bool|.Name .. |.Subscript ..=>true|_=>false
theorem WL{o:ao}{m:Str}{env:Env}(h:Ip o):attributeBase o m env (eval o env)=eval o env:=by cases o<;>first|rfl|cases h
noncomputable abbrev WM(m:Mt)(fo fa:FE):FE:=λρ h=>(fo ρ h).bind λx h=>if vP m h x then(fa ρ h).bind λy h=>match y with|.tup ys=>qY m x ys h|_=>.no else .no
theorem WN{apos:Pos}(ho:SE X o fo)(he:SE X e fa)(hb:Ip o)(hs:gH e)(hl:(apos.endLine==pos.line)) :
 SE X (.Call (.Attribute o "append" apos) [e] [] pos) (WM .append fo (nS fa rj)):=by
 refine(Ai (X:=X) PySem.F.plainAttrs_list PySem.F.slot_list_append PySem.F.type_list_append GN ho (zZ he DH (gf hs)) (WL hb) ?_ hl (gf hs) rfl).imp λσ H Q z9=>z9.el λρ h m w h' f r e k=>?_;rw[gf hs];rfl;refine bR e λx h1 e1 e2=>?_;split at e2;rename_i hk;refine bR e2 λy h2 e3 e4=>?_;refine bR e3 λz h3 e5 e6=>?_;cases e6;refine(.mk f r e1 λv H1 m1 s1 r1 q1=>?_);cases x<;>try cases hk
 rename_i i;simp only[vP]at hk;cases g:h1.get i with
 |none=>rw[g]at hk;cases hk
 |some ob=>
  rw[g]at hk;cases ob with
  |dk _=>cases hk
  |dm _=>cases hk
  |lst ws0=>
   cases q1;obtain⟨Nt,p1,_⟩:=r1.lst g;refine⟨.inl ⟨rfl,Nt,cH.of p1⟩,ρ,h1,m1,z,h2,f.stp s1,r1,e5,λv2 H2 m2 s2 r2 q2=>?_⟩;simp only[qY]at e4;cases g2:h2.get i with
   |none=>rw[g2]at e4;cases e4
   |some ob=>
    rw[g2]at e4;cases ob with
    |dk _=>cases e4
    |dm _=>cases e4
    |lst ws=>
     simp only at e4;split at e4;rename_i hz;cases e4;obtain⟨vs,p2,p3⟩:=r2.lst g2;have hmi:m1 i=m2 i:=(s2.same i (cR g)).symm;refine⟨m1 i,vs,v2,rfl,rfl,by rw[hmi];exact p2,by rw[p3.length];exact gx.mp hz,?_⟩;obtain⟨st,r'⟩:=r2.write (i:=i) (o:=.lst (ws++[z])) (u:=.lst (vs++[v2])) (cR g2) p2 (λ_ z=>nomatch z) (λ_ _ z=>nomatch z) λst=>⟨vs++[v2],iu,(p3.stp st).append (.cons (q2.stp st) .nil)⟩
     rw[hmi];exact k .aL _ m2 ((s1.trans s2).trans st) r' .aL;cases e4
 cases e2
end
section
variable{K:aH}{m m' m1:Nat->ah}{n n' n1:Nat}{h h':VH}{H H' H1:Hp}
mutual
theorem aI.mono(hn:n<=n')(hm:∀i,i<n->m' i=m i)(kt:∀b vs,H b=aB (.tup vs)->H' b=aB (.tup vs))(kf:∀b o u,H b=aB (.bL o u)->H' b=aB (.bL o u)):∀{v:V} {w:W},aI K m n H v w->aI K m' n' H' v w
 |_,_,.aL=>.aL
 |_,_,.bl b=>.bl b
 |_,_,.int b=>.int b
 |_,_,.str b=>.str b
 |_,_,.tup q r=>.tup (by
  rcases q with(q|⟨o,q⟩)|q;exact .inl (.inl (kt _ _ q));exact .inl (.inr ⟨o,kf _ _ _ q⟩);exact .inr q) (aE.mono hn hm kt kf r)
 |_,_,.fz q r=>.fz (by
  rcases q with⟨o,q⟩|q;exact .inl ⟨o,kf _ _ _ q⟩;exact .inr q) (aE.mono hn hm kt kf r)
 |_,_,.ref (i:=i) q=>by rw[<-hm i q];exact .ref (ek q hn)
theorem aE.mono(hn:n<=n')(hm:∀i,i<n->m' i=m i)(kt:∀b vs,H b=aB (.tup vs)->H' b=aB (.tup vs))(kf:∀b o u,H b=aB (.bL o u)->H' b=aB (.bL o u)):∀{vs:List V} {ws:List W},aE K m n H vs ws->aE K m' n' H' vs ws|_,_,.nil=>.nil|_,_,.cons q r=>.cons (aI.mono hn hm kt kf q) (aE.mono hn hm kt kf r)
end
theorem Rel.side(r:Rel K m h H){D:ah}{u u0:HO}(hu:H D=aB u0)(ht:∀t,u0≠.tup t)(hf:∀o t,u0≠.bL o t)(ho:∀i,i<h.n->m i≠D)(s:bQ m1 n1 H1 m h.n H)(h0:H1 D=aC) :
 bQ m1 n1 H1 m h.n (upd H D u)/\Rel K m h (upd H D u)/\∀{v:V}{w:W},aI K m h.n H v w->aI K m h.n (upd H D u) v w:=by
 have kt:∀b vs,H b=aB (.tup vs)->upd H D u b=aB (.tup vs):=λb vs q=>by rw[bV (cV q hu λz=>ht vs z.symm)];exact q
 have kf:∀b o t,H b=aB (.bL o t)->upd H D u b=aB (.bL o t):=λb o t q=>by rw[bV (cV q hu λz=>hf o t z.symm)];exact q
 have mv:∀{v:V}{w:W},aI K m h.n H v w->aI K m h.n (upd H D u) v w:=λq=>q.mono (aR _) (λ_ _=>rfl) kt kf;refine⟨⟨s.le,s.same,s.new,s.apart,λb vs q=>kt b vs (s.tup b vs q),λb o t q=>kf b o t (s.bL b o t q),λb o nb q=>by rw[bV (gG q h0)];exact s.keep b o nb q⟩,⟨λi hi=>?_,r.inj,r.len⟩,mv⟩;obtain⟨o,h1,h2⟩:=r.obj i hi;have eq:upd H D u (m i)=H (m i):=bV (ho i hi);refine⟨o,h1,?_⟩;cases o with|lst ws=>obtain⟨vs,q1,q2⟩:=h2;exact⟨vs,eq.trans q1,q2.map mv⟩|dk ws=>obtain⟨vs,q1,q2⟩:=h2;exact⟨vs,q1.imp (λz=>eq.trans z) λ⟨o,z⟩=>⟨o,eq.trans z⟩,q2.map mv⟩|dm ws=>obtain⟨vs,q1,q2⟩:=h2;exact⟨vs,eq.trans q1,q2.map mv⟩
theorem Rel.out(r:Rel K m h H){p:ah}(hp:H p=aC):∀i,i<h.n->m i≠p:=λi hi z=>by
 obtain⟨o',_,h2⟩:=r.obj i hi;obtain⟨u',h3⟩:=h2.some;rw[z,hp]at h3;cases h3
theorem bQ.out(s:bQ m n H m' n' H'){p:ah}{u:HO}(hp:∀i,i<n->m i≠p)(hu:H p=aB u):∀i,i<n'->m' i≠p:=λi hi z=>by
 by_cases hl:i<n;exact hp i hl ((s.same i hl).symm.trans z);have:=s.new i (jh.mp hl) hi;rw[z,hu]at this;cases this
end
inductive gW(K:aH)(m:Nat->ah)(n:Nat)(H:Hp):List (V×V)->List W->Prop
 |nil:gW K m n H [] []
 |cons {k v:V} {a b:W} {ps:List (V×V)} {ws:List W}:aI K m n H k a->aI K m n H v b->gW K m n H ps ws->gW K m n H ((k,v)::ps) (a::b::ws)
noncomputable def nT(K:aH)(f:FE)(σ:L2.St)(H:Hp)(Q:List (V×V)->Hp->Prop):Prop:=∃ρ h m ws h',Fr K m h.n H σ ρ/\Rel K m h H/\f ρ h=.ok (.tup ws) h'/\
 ∀ps H' m',bQ m h.n H m' h'.n H'->Rel K m' h' H'->gW K m' h'.n H' ps ws->Q ps H'
theorem nT.el{K:aH}{σ:L2.St}{H:Hp}{P:Prop}{fa:FE}{Q:List (V×V)->Hp->Prop}(q:nT K fa σ H Q)(k:∀ρ h m ws h',Fr K m h.n H σ ρ->Rel K m h H->fa ρ h=.ok (.tup ws) h'->(∀ps H' m',bQ m h.n H m' h'.n H'->Rel K m' h' H'->gW K m' h'.n H' ps ws->Q ps H')->P):P:=by obtain⟨ρ,h,m,w,h',f,r,e,k'⟩:=q;exact k ρ h m w h' f r e k'
theorem nT.mk{K:aH}{σ:L2.St}{H:Hp}{m:Nat->ah}{ρ:En}{h h':VH}{ws:List W}{fa:FE}{Q:List (V×V)->Hp->Prop}(f:Fr K m h.n H σ ρ)(r:Rel K m h H)(e:fa ρ h=.ok (.tup ws) h')(k:∀ps H' m',bQ m h.n H m' h'.n H'->Rel K m' h' H'->gW K m' h'.n H' ps ws->Q ps H'):nT K fa σ H Q:=⟨ρ,h,m,ws,h',f,r,e,k⟩
noncomputable def BA(X:Cx)(pos:Pos)(keys:List (Option ao))(values:List ao)(f:FE):Prop:=∃kN,Aw X pos keys values kN/\∀σ H Q,nT X.K f σ H Q->DT kN σ H Q
section
variable{X:Cx}{a b c e o:ao}{es:List ao}{fa fb fc fo fr:FE}{pos p:Pos}{x:Str}
theorem WO:BA X pos [] [] rj:=⟨[],UI,λσ H Q z9=>z9.el λρ h m ws h' f r e k=>by cases e;exact k [] H m .refl r .nil⟩
theorem WQ{ks:List (Option ao)}{vs:List ao}(ha:SE X a fa)(hb:SE X b fb)(hr:BA X pos ks vs fr):BA X pos (aB a::ks) (b::vs) (nS fa (nS fb fr)):=by
 obtain⟨kN,h1,h2⟩:=hr;refine⟨_,UJ ha hb h1,λσ H Q z9=>z9.el λρ h m ws h' f r e k=>?_⟩;refine bR e λx h3 e1 e2=>?_;refine bR e2 λy h4 e3 e4=>?_;refine bR e3 λx2 h5 e5 e6=>?_;refine bR e6 λy2 h6 e7 e8=>?_;cases y2<;>try cases e8
 cases e4;rename_i ys;exact(.mk f r e1 λv H1 m1 s1 r1 q1=>(.mk (f.stp s1) r1 e5 λv2 H2 m2 s2 r2 q2=>h2 σ H2 _ (.mk ((f.stp s1).stp s2) r2 e7 λps H3 m3 s3 r3 q3=>
  k _ H3 m3 ((s1.trans s2).trans s3) r3 (.cons ((q1.stp s2).stp s3) (q2.stp s3) q3))))
theorem OJ{K:aH}{m:Nat->ah}{n:Nat}{H:Hp}:∀{ps:List (V×V)} {ws:List W} {kws:List (Key×W)},gW K m n H ps ws->tX ws=aB kws->∃kvs:List (Key×V),ps=kvs.map (λkv=>(kV kv.1,kv.2))/\aM K m n H kvs kws
 |_,_,_,.nil,e=>by cases e;exact⟨[],rfl,.nil⟩
 |_,_,_,.cons (a:=a) (v:=v) q1 q2 r,e=>by
  simp only[tX]at e;split at e;rename_i k hk;split at e;rename_i kvs hp;cases e;obtain⟨kv,rfl,r'⟩:=OJ r hp;refine⟨(k,v)::kv,?_,.cons q2 r'⟩;rw[dw,Wn q1 hk];cases e;cases e
noncomputable abbrev Iq(f:FE):FE:=λρ h=>(f ρ h).bind λy h=>match y with
 |.tup ys=>(match tX ys with
  |some kvs=>if Nat.ble kvs.length 15 then .ok (.ref h.n) (h.new (Bg kvs))else .no
  |none=>.no)
 |_=>.no
theorem WR(hu:X.A.units+2<cLine){keys:List (Option ao)}{values:List ao}(hp:BA X pos keys values fa)(hall:keys.all (·.isSome))(hl:keys.length=values.length)(h0:keys≠[])(Hy:keys.length<=15):SE X (.Dict keys values pos) (Iq fa):=by
 obtain⟨kN,h1,h2⟩:=hp;refine(UK h1 hall hl h0 Hy).imp λσ H Q z9 p hp=>z9.el λρ h m w h' f r e k=>?_;refine bR e λy h3 e1 e2=>?_;cases y<;>try cases e2
 rename_i ys;obtain⟨jQ,r0⟩:=r.more (u:=.dK []) hp;refine h2 σ _ _ (.mk (f.stp jQ) r0 e1 λps H2 m2 s2 r2 q2=>?_);have hout:=s2.out (r.out hp) iu;have hD:H2 p=aB (.dK []):=s2.keep p _ (r.out hp) iu;refine⟨hD,?_⟩;have e2:(match tX ys with|some kvs=>if Nat.ble kvs.length 15 then Res.ok (W.ref h3.n) (h3.new (Bg kvs))else .no|none=>.no)=.ok w h':=e2
 cases hk:tX ys with
 |none=>
  rw[hk]at e2;cases e2
 |some kws=>
  rw[hk]at e2;have e2:(if Nat.ble kws.length 15 then Res.ok (W.ref h3.n) (h3.new (Bg kws))else .no)=.ok w h':=e2;by_cases hz:Nat.ble kws.length 15=true;rw[if_pos hz]at e2;cases e2;obtain⟨kvs,e3,q3⟩:=OJ q2 hk;refine⟨kvs,e3,by rw[q3.length];exact jf hz,?_⟩;obtain⟨st,r'⟩:=r2.adopt (o:=Bg kws) (u:=.dK (tM [] kvs)) hout hD (λ_ z=>nomatch z) (λ_ _ z=>nomatch z) (jQ.trans s2) hp λ_ mv=>⟨_,.inl iu,(q3.merge .nil).map mv⟩
  refine k _ _ _ st r' ?_;have:aI X.K (λi=>if i=h3.n then p else m2 i) (h3.n+1) (upd H2 p (.dK (tM [] kvs))) (.ref ((λi=>if i=h3.n then p else m2 i) h3.n)) (.ref h3.n):=.ref (iO _);simp only[bX]at this;exact this;rw[if_neg hz]at e2;cases e2
noncomputable def nU(K:aH)(np:Nat)(g:List W->VH->Res W):Sp:=λvs H Q _=>vs.length=np/\∃h m ws w h',Rel K m h H/\aE K m h.n H vs ws/\g ws h=.ok w h'/\aK K m h.n H w h' Q
theorem WS{k:Nat}{f:ah}{fd:au}{ps:List Str}{g:List W->VH->Res W}(F:fq X.prog X.w X.K X.mg X.base kJ k f fd ps (nU X.K ps.length g))(hr:cU k X.A)(hg:Gl X x)(hm:X.mg x=aB (.ref f))(hk:PySem.W.keepIn X.K (.ref f)=true)
 (hb:Binds X.K fd ps []) (ha:SA X (e::es) fa) (hs:(e::es).all gH) (hdb:(x==("__debug__" : Str))=false) (hn:∀ws h w h',g ws h=.ok w h'->ws.length=ps.length):SE X (.Call (.Name x p) (e::es) [] pos) (i6 fa g):=by
 rw[pq,bE]at hs;refine(MG F hr hg hm hk hb .nil nA ha hdb (gf hs.1) (Bx hs.2)).imp λσ H Q q=>vR (G:=λvs H1 Q=>nU X.K ps.length g (vs++[]) H1 Q E0) (λm h H vs xs w h' Q r q e k=>?_) q;rw[kE];exact⟨by rw[q.length];exact hn _ _ _ _ e,h,m,xs,w,h',r,q,e,k⟩
theorem WT{k:Nat}{f:ah}{fd:au}{ps:List Str}{g:List W->VH->Res W}(F:fq X.prog X.w X.K X.mg X.base kJ k f fd ps (nU X.K ps.length g))(hr:cU k X.A)(hg:Gl X x)(hm:X.mg x=aB (.ref f))(hk:PySem.W.keepIn X.K (.ref f)=true)
 (hb:Binds X.K fd ps []) (hdb:(x==("__debug__" : Str))=false) (hn:∀ws h w h',g ws h=.ok w h'->ws.length=ps.length):SE X (.Call (.Name x p) [] [] pos) (i6 rj g):=by
 refine(Tj F hr hg hm hk hb .nil nA hdb).imp λσ H Q z9=>z9.el λρ h m w h' f r e k=>?_;exact⟨hn _ _ _ _ e,h,m,[],w,h',r,.nil,e,k⟩
theorem WU{k:Nat}{f:ah}{fd:au}{ps:List Str}{g:List W->VH->Res W}(F:fq X.prog X.w X.K X.mg X.base kJ k f fd ps (nU X.K ps.length g))(hr:cU k X.A)(hg:Gl X x)(hm:X.mg x=aB (.ref f))(hk:PySem.W.keepIn X.K (.ref f)=true)
 (hb:Binds X.K fd ps [.none]) (ha:SA X (e::es) fa) (hs:(e::es).all gH) (hdb:(x==("__debug__" : Str))=false) (hn:∀ws h w h',g ws h=.ok w h'->ws.length=ps.length):SE X (.Call (.Name x p) (e::es) [] pos) (i6 fa λws h=>g (ws++[.aL]) h):=by
 rw[pq,bE]at hs;refine(MG F hr hg hm hk hb (nv:=[V.aL]) (.cons rfl .nil) nA ha hdb (gf hs.1) (Bx hs.2)).imp λσ H Q q=>vR (G:=λvs H1 Q=>nU X.K ps.length g (vs++[V.aL]) H1 Q E0) (λm h H vs xs w h' Q r q e k=>?_) q;have q':aE X.K m h.n H (vs++[V.aL]) (xs++[W.aL]):=q.append (.cons .aL .nil);exact⟨by rw[q'.length];exact hn _ _ _ _ e,h,m,xs++[W.aL],w,h',r,q',e,k⟩
noncomputable def i7(K:aH)(nx:Nat->VH->Option (Option W))(J:It)(P:(Nat->ah)->Nat->Hp->Prop):Prop:=
 (∀m n H m' n' H',n<=n'->(∀i,i<n->m' i=m i)->(∀b vs,H b=aB (.tup vs)->H' b=aB (.tup vs))->(∀b o u,H b=aB (.bL o u)->H' b=aB (.bL o u))->P m n H->P m' n' H')/\
 ∀m h H,Rel K m h H->P m h.n H->∀i,(∀w,nx i h=aB (aB w)->J.go i H/\∀y H3,J.vc i H y H3->bQ m h.n H m h.n H3/\Rel K m h H3/\aI K m h.n H3 y w)/\(nx i h=aB aC->J.stop i H)
noncomputable def cC(K:aH)(kd:Kd)(f:FE):TI:=λσ H R=>∃ρ h m x h',Fr K m h.n H σ ρ/\Rel K m h H/\f ρ h=.ok x h'/\(∃o,aZ kd x 0 h'=aB o)/\
 ∀J P H' m',bQ m h.n H m' h'.n H'->Rel K m' h' H'->i7 K (aZ kd x) J P->P m' h'.n H'->R J H'
theorem cC.el{K:aH}{σ:L2.St}{H:Hp}{P:Prop}{kd:Kd}{fa:FE}{R}(q:cC K kd fa σ H R)(k:∀ρ h m x h',Fr K m h.n H σ ρ->Rel K m h H->fa ρ h=.ok x h'->∀o,aZ kd x 0 h'=aB o->(∀J P H' m',bQ m h.n H m' h'.n H'->Rel K m' h' H'->i7 K (aZ kd x) J P->P m' h'.n H'->R J H')->P):P:=by obtain⟨ρ,h,m,w,h',f,r,e,⟨o,eo⟩,k'⟩:=q;exact k ρ h m w h' f r e o eo k'
theorem cC.mk{K:aH}{σ:L2.St}{H:Hp}{m:Nat->ah}{ρ:En}{h h':VH}{x:W}{kd:Kd}{fa:FE}{R}(f:Fr K m h.n H σ ρ)(r:Rel K m h H)(e:fa ρ h=.ok x h')(eo:∃o,aZ kd x 0 h'=aB o)(k:∀J P H' m',bQ m h.n H m' h'.n H'->Rel K m' h' H'->i7 K (aZ kd x) J P->P m' h'.n H'->R J H'):cC K kd fa σ H R:=⟨ρ,h,m,x,h',f,r,e,eo,k⟩
theorem Ir{K:aH}{H H':Hp}{a:ah}{vs:List V}(kt:∀b vs,H b=aB (.tup vs)->H' b=aB (.tup vs))(kf:∀b o u,H b=aB (.bL o u)->H' b=aB (.bL o u))(q:bW K H a vs):bW K H' a vs:=by rcases q with(q|⟨o,q⟩)|q;exact .inl (.inl (kt _ _ q));exact .inl (.inr ⟨o,kf _ _ _ q⟩);exact .inr q
theorem OL{K:aH}{H H':Hp}{a:ah}{vs:List V}(kf:∀b o u,H b=aB (.bL o u)->H' b=aB (.bL o u))(q:Fz K H a vs):Fz K H' a vs:=by rcases q with⟨o,q⟩|q;exact .inl ⟨o,kf _ _ _ q⟩;exact .inr q
theorem yj{ws:List W}{h:VH}{x:W}{i:Nat}{o:Option W}(e:aO h x=aB ws)(q:aZ .seq x i h=aB o):ws[i]?=o:=by simp only[aZ,e]at q;cases q;rfl
theorem WV{K:aH}{a:ah}{vs:List V}{ws:List W}:i7 K (aZ .seq (.tup ws)) (Gw K a) (λm n H=>bW K H a vs/\aE K m n H vs ws):=by refine⟨λm n H m' n' H' hn hm kt kf ⟨q1,q2⟩=>⟨Ir kt kf q1,q2.mono hn hm kt kf⟩,λm h H r ⟨q1,q2⟩ i=>⟨λw e=>?_,λe=>?_⟩⟩;have e:=yj (ws:=ws) rfl e;obtain⟨v,h1,h2⟩:=q2.get e;refine⟨⟨vs,v,q1,h1⟩,λy H3 ⟨e3,y3⟩=>?_⟩;subst e3;have:=y3 vs q1;rw[h1]at this;cases this;exact⟨.refl,r,h2⟩;have e:=yj (ws:=ws) rfl e;exact⟨vs,q1,by rw[q2.length];exact m5.mp e⟩
theorem BB{K:aH}{a:ah}{vs:List V}{ws:List W}:i7 K (aZ .seq (.fz ws)) (DE K a) (λm n H=>Fz K H a vs/\aE K m n H vs ws):=by refine⟨λm n H m' n' H' hn hm kt kf ⟨q1,q2⟩=>⟨OL kf q1,q2.mono hn hm kt kf⟩,λm h H r ⟨q1,q2⟩ i=>⟨λw e=>?_,λe=>?_⟩⟩;have e:=yj (ws:=ws) rfl e;obtain⟨v,h1,h2⟩:=q2.get e;refine⟨⟨vs,v,q1.sq,h1⟩,λy H3 ⟨e3,y3⟩=>?_⟩;subst e3;have:=y3 vs q1.sq;rw[h1]at this;cases this;exact⟨.refl,r,h2⟩;have e:=yj (ws:=ws) rfl e;exact⟨vs,q1.sq,by rw[q2.length];exact m5.mp e⟩
theorem WW{K:aH}{a:ah}{l:Nat}:i7 K (aZ .seq (.ref l)) (DE K a) (λm n H=>l<n/\a=m l):=by
 refine⟨λm n H m' n' H' hn hm kt kf ⟨q1,q2⟩=>⟨ek q1 hn,by rw[hm l q1];exact q2⟩,λm h H r ⟨q1,q2⟩ i=>?_⟩;subst q2;cases g:h.get l with
 |none=>exact⟨λw e=>by simp[aZ,aO,g]at e,λe=>by simp[aZ,aO,g]at e⟩
 |some o=>
  cases o with
  |dk _=>exact⟨λw e=>by simp[aZ,aO,g]at e,λe=>by simp[aZ,aO,g]at e⟩
  |dm _=>exact⟨λw e=>by simp[aZ,aO,g]at e,λe=>by simp[aZ,aO,g]at e⟩
  |lst ws=>
   have hs:aO h (.ref l)=aB ws:=by simp[aO,g]
   obtain⟨vs,p1,p2⟩:=r.lst g;refine⟨λw e=>?_,λe=>?_⟩;have e:=yj hs e;obtain⟨v,h1,h2⟩:=p2.get e;refine⟨⟨vs,v,cH.of p1,h1⟩,λy H3 ⟨e3,y3⟩=>?_⟩;subst e3;have:=y3 vs (cH.of p1);rw[h1]at this;cases this;exact⟨.refl,r,h2⟩;have e:=yj hs e;exact⟨vs,cH.of p1,by rw[p2.length];exact m5.mp e⟩
theorem OM{K:aH}{kd:Kd}{x:W}{lo:Int}{k:Nat}(hx:∀i h,aZ kd x i h=aB (if i<k then aB (.int (lo+i))else aC)):i7 K (aZ kd x) (zK lo k) (λ_ _ _=>True):=by refine⟨λ_ _ _ _ _ _ _ _ _ _ _=>trivial,λm h H r _ i=>⟨λw e=>?_,λe=>?_⟩⟩;rw[hx]at e;split at e;rename_i hi;cases e;refine⟨hi,λy H3 ⟨e3,y3⟩=>?_⟩;subst e3 y3;exact⟨.refl,r,.int _⟩;cases e;rw[hx]at e;split at e;cases e;rename_i hi;exact jh.mp hi
theorem ON{tg:ao}(ha:SE X e fa):PI X tg e (cC X.K .seq fa):=λpins s σ H R I z9=>z9.el λρ h m x h' f r ee o en k=>by
 have hs:∃ws,aO h' x=aB ws:=by
  cases z:aO h' x with|none=>simp[aZ,z]at en|some ws=>exact⟨ws,rfl⟩
 obtain⟨ws,hs⟩:=hs;cases x<;>try cases hs
 exact Sv ha pins s σ H R I (.mk f r ee λv H' m' s' r' q=>by
  cases q with|tup sq rs=>exact⟨_,rfl,⟨_,sq⟩,k _ _ H' m' s' r' WV ⟨sq,rs⟩⟩)
 exact MC ha pins s σ H R I (.mk f r ee λv H' m' s' r' q=>by
  cases q with|fz sq rs=>exact⟨_,rfl,⟨_,sq.sq⟩,k _ _ H' m' s' r' BB ⟨sq,rs⟩⟩)
 rename_i l;exact MC ha pins s σ H R I (.mk f r ee λv H' m' s' r' q=>by
  obtain⟨p,vs,e1,e2,e3⟩:=yg r' q hs;cases q with
  |ref hi=>
   cases g:h'.get l with
   |none=>simp[aO,g]at hs
   |some ob=>
    cases ob with
    |dk _=>simp[aO,g]at hs
    |dm _=>simp[aO,g]at hs
    |lst BC=>
     obtain⟨vs',p1,_⟩:=r'.lst g;exact⟨_,rfl,⟨_,cH.of p1⟩,k _ _ H' m' s' r' WW ⟨hi,rfl⟩⟩)
theorem WX{tg:ao}(ha:SA X [e] fa)(hs:gH e)(hg:Gl X "range")(hm:X.mg "range" = aC):PI X tg (.Call (.Name "range" p) [e] [] pos) (cC X.K .bM fa):=λpins s σ H R I z9=>z9.el λρ h m x h' f r ee o en k=>by
 simp only[aZ]at en;split at en;rename_i j;split at en;rename_i hf;refine Sw hg hm ha (gf hs) pins s σ H R I (.mk f r ee λvs H' m' s' r' q=>?_);obtain⟨v,rfl,q1⟩:=dM q;cases q1;refine⟨_,rfl,(vV hf).1,(vV hf).2,k _ _ H' m' s' r' (OM λi h=>?_) trivial⟩;simp only[aZ,hf,bX];split<;>split<;>first|rfl|(exfalso;simp at *;lia)
 cases en;cases en
theorem WY{tg:ao}(ha:SA X [a,b] fa)(hs:gH a)(hs2:gH b)(hg:Gl X "range")(hm:X.mg "range" = aC):PI X tg (.Call (.Name "range" p) [a,b] [] pos) (cC X.K .vL fa):=λpins s σ H R I z9=>z9.el λρ h m x h' f r ee o en k=>by
 simp only[aZ]at en;split at en;rename_i i j;split at en;rename_i hf;refine Sx hg hm ha (by rw[gf hs,gf hs2];rfl) (gf hs2) pins s σ H R I (.mk f r ee λvs H' m' s' r' q=>?_);obtain⟨v,u,rfl,q1,q2⟩:=kZ q;cases q1;cases q2;have hf2:=hf;rw[bE]at hf2;refine⟨_,_,rfl,⟨(vV hf2.1).1,(vV hf2.1).2,(vV hf2.2).1,(vV hf2.2).2⟩,k _ _ H' m' s' r' (OM λi h=>?_) trivial⟩;simp only[aZ,hf,bX];split<;>split<;>first|rfl|(exfalso;simp at *;lia)
 cases en;cases en
theorem WZ{elts:List ao}{kx:Nat}{tp:Pos}{l:ao}{ta:TA}(hg:Gl X "enumerate")(hm:X.mg "enumerate" = aC)(hv:bootBuiltins "enumerate" = aB (.type "enumerate"))(ha:PA X [l] ta)(hs:starEach [l] X.env=[(false,eval l X.env)]) :
 PI X (.Tuple elts kx tp) (.Call (.Name "enumerate" p) [l] [] pos) (λσ H R=>ta σ H λvs H1=>∃a,vs=[.ref a]/\(∃xs,bW X.K H1 a xs)/\R (vA X.K a) H1):=by
 intro pins s σ H R I h;refine Call_ (qg I hg hm hv (uS (aY (ha pos pins s σ H _ I h) λus s1 ⟨vs,H1,I1,r1,q1⟩=>?_) hs rfl));obtain⟨a,e,⟨xs,hq⟩,q⟩:=q1;subst e;obtain⟨u,rfl,ru⟩:=vals1 r1;cases ru;obtain⟨its,rv,pl,hz⟩:=I1.tuple hq;have pl:s1.heap.IsTuple a its.toArray:=pl;have hlt:a<s1.heap.objs.size:=by obtain⟨o,q,_⟩:=pl;exact cJ q
 refine Ux pl λh' he hit hsz kk=>wpAny_pyIter_enum he ?_;have hf:∀b,s1.heap.objs.size<=b->dQ X pins H1 b:=λb hb=>I1.j6 hb (I1.hok.fresh hb);refine⟨s1.heap.objs.size+1,[s1.heap.objs.size+1,s1.heap.objs.size],_,_,H1,rfl,I1.kept (t':=s1.toks) kk,Uy a _ _ (ku (iO _)) (fL (pW hlt)) (fL hlt),⟨⟨_,he⟩,hit⟩,λb hb=>hf b ?_,q⟩;rcases fm.mp hb with rfl|hb
 exact sW _;have e':b=s1.heap.objs.size:=by simpa using hb
 rw[e'];exact aR _
theorem OO{ws:List W}{h:VH}{i:Nat}{o:Option W}(q:aZ .pI (.tup ws) i h=aB o):o=(ws[i]?).map λw=>.tup [.int i,w]:=by cases q;rfl
theorem W0{K:aH}{a:ah}{vs:List V}{ws:List W}:i7 K (aZ .pI (.tup ws)) (vA K a) (λm n H=>bW K H a vs/\aE K m n H vs ws):=by
 refine⟨λm n H m' n' H' hn hm kt kf ⟨q1,q2⟩=>⟨Ir kt kf q1,q2.mono hn hm kt kf⟩,λm h H r ⟨q1,q2⟩ i=>⟨λw e=>?_,λe=>?_⟩⟩;have e:=OO (ws:=ws) e;cases z:ws[i]? with
 |none=>rw[z]at e;cases e
 |some w0=>
  rw[z]at e;cases e;obtain⟨v,h1,h2⟩:=q2.get z;refine⟨⟨vs,v,q1,h1⟩,λy H3 ⟨T,v3,e1,e2,e3,y3⟩=>?_⟩;subst e1 e3;have:=y3 vs q1;rw[h1]at this;cases this;obtain⟨st,r'⟩:=r.more (u:=.tup [.int i,v]) e2;exact⟨st,r',.tup (bW.of iu) (.cons (.int _) (.cons (h2.stp st) .nil))⟩
 have e:=OO (ws:=ws) e;cases z:ws[i]? with|some w0=>rw[z]at e;cases e|none=>exact⟨vs,q1,by rw[q2.length];exact m5.mp z⟩
theorem W2:bootBuiltins "enumerate" = aB (.type "enumerate"):=by decide +kernel
theorem HR(ha:SE X e fa)(hs:gH e):PA X [e] (λσ H Q=>fT X.K fa σ H λv H1=>Q [v] H1):=λp pins s σ H Q I q=>by
 refine zZ ha DH (gf hs) p pins s σ H Q I ?_;refine q.el λρ h m w h' f r ee k=>?_;exact(.mk f r ee λv H' m' s' r' q'=>k v H' m' s' r' q')
theorem W3{elts:List ao}{kx:Nat}{tp:Pos}(ha:SE X e fa)(hs0:gH e)(hg:Gl X "enumerate")(hm:X.mg "enumerate" = aC):PI X (.Tuple elts kx tp) (.Call (.Name "enumerate" p) [e] [] pos) (cC X.K .pI fa):=λpins s σ H R I z9=>z9.el λρ h m x h' f r ee o en k=>by
 cases x with
 |tup ws=>exact WZ hg hm W2 (HR ha hs0) (gf hs0) pins s σ H R I ⟨ρ,h,m,_,h',f,r,ee,λv H' m' s' r' q=>by
  cases q with|tup sq rs=>exact⟨_,rfl,⟨_,sq⟩,k _ _ H' m' s' r' W0 ⟨sq,rs⟩⟩⟩
 |_=>cases en
theorem W4{elts:List ao}{kx:Nat}{tp:Pos}{l l2:ao}{ta:TA}(hg:Gl X "zip")(hm:X.mg "zip" = aC)(ha:PA X [l,l2] ta)(hs:starEach [l,l2] X.env=[(false,eval l X.env),(false,eval l2 X.env)])(hs2:starEach [l2] X.env=[(false,eval l2 X.env)]) :
 PI X (.Tuple elts kx tp) (.Call (.Name "zip" p) [l,l2] [] pos) (λσ H R=>ta σ H λvs H1=>∃b c a1 a2,vs=[.ref a1,.ref a2]/\(∃xs,lU b X.K H1 a1 xs)/\(∃ys,lU c X.K H1 a2 ys)/\R (vD X.K b c a1 a2) H1):=by
 intro pins s σ H R I h;refine Call_ (qg I hg hm PyProof.Rows.boot_zip (uS (aY (ha pos pins s σ H _ I h) λus s1 ⟨vs,H1,I1,r1,q1⟩=>?_) (by rw[hs,hs2]) (by rw[hs2];rfl)));obtain⟨b,c,a1,a2,e,⟨xs,hq⟩,⟨ys,hr⟩,q⟩:=q1;subst e;cases r1 with
 |cons r rr=>
  cases rr with
  |cons r' rr=>
   cases rr;cases r;cases r';obtain⟨its,_,pl,_⟩:=ya I1 hq;obtain⟨NG,_,OP,_⟩:=ya I1 hr;refine Vg pl OP λh' e1 e2 e3 e4 e5 hsz kk=>wpAny_pyIter_zip e1 ?_;have hf:∀b,s1.heap.objs.size<=b->dQ X pins H1 b:=λb hb=>I1.j6 hb (I1.hok.fresh hb);refine⟨s1.heap.objs.size+4,_,_,_,H1,rfl,I1.kept (t':=s1.toks) kk,Vh a1 a2 _ _ _ _ _ (U5 pl.lt OP.lt),⟨e1,e2,⟨_,_,e3⟩,e4,e5⟩,λb hb=>hf b ?_,q⟩;simp only[fm,yY,or_false]at hb;rcases hb with rfl|rfl|rfl|rfl|rfl
   exact De _ _;exact De _ _;exact De _ _;exact aR _;exact De _ _
noncomputable def Src(K:aH)(b:Bool)(a:ah)(u:W)(P:(Nat->ah)->Nat->Hp->Prop):Prop:=
 (∀m n H m' n' H',n<=n'->(∀i,i<n->m' i=m i)->(∀b vs,H b=aB (.tup vs)->H' b=aB (.tup vs))->(∀b o u,H b=aB (.bL o u)->H' b=aB (.bL o u))->P m n H->P m' n' H')/\
 ∀m h H ws,Rel K m h H->P m h.n H->aO h u=aB ws->∃vs,lU b K H a vs/\aE K m h.n H vs ws
theorem OQ{K:aH}{m:Nat->ah}{h:VH}{H:Hp}{v:V}{u:W}{ws:List W}(r:Rel K m h H)(q:aI K m h.n H v u)(e:aO h u=aB ws):∃b a P,v=.ref a/\Src K b a u P/\P m h.n H/\∃xs,lU b K H a xs:=by
 cases q with
 |aL=>cases e
 |bl b=>cases e
 |int b=>cases e
 |str b=>cases e
 |tup sq rs=>exact⟨true,_,λm n H=>bW K H _ _/\aE K m n H _ _,rfl,⟨λm n H m' n' H' hn hm kt kf ⟨q1,q2⟩=>⟨Ir kt kf q1,q2.mono hn hm kt kf⟩,λm h H ws _ ⟨q1,q2⟩ z=>by cases z;exact⟨_,q1,q2⟩⟩,⟨sq,rs⟩,_,sq⟩
 |fz sq rs=>exact⟨false,_,λm n H=>Fz K H _ _/\aE K m n H _ _,rfl,⟨λm n H m' n' H' hn hm kt kf ⟨q1,q2⟩=>⟨OL kf q1,q2.mono hn hm kt kf⟩,λm h H ws _ ⟨q1,q2⟩ z=>by cases z;exact⟨_,q1.sq,q2⟩⟩,⟨sq,rs⟩,_,sq.sq⟩
 |ref hi=>
  rename_i l;have key:∀m (h:VH) H ws,Rel K m h H->aO h (.ref l)=aB ws->∃vs,H (m l)=aB (.lst vs)/\aE K m h.n H vs ws:=λm h H ws r z=>by
   cases g:h.get l with
   |none=>simp[aO,g]at z
   |some o=>
    cases o with
    |dk _=>simp[aO,g]at z
    |dm _=>simp[aO,g]at z
    |lst BC=>
     have:BC=ws:=by simpa[aO,g]using z
     subst this;exact r.lst g
  obtain⟨vs,p1,_⟩:=key m h H ws r e;refine⟨false,_,λm' n _=>l<n/\m l=m' l,rfl,⟨λm1 n H m' n' H' hn hm kt kf ⟨q1,q2⟩=>⟨ek q1 hn,by rw[hm l q1];exact q2⟩,λm1 h H ws r' ⟨q1,q2⟩ z=>?_⟩,⟨hi,rfl⟩,vs,cH.of p1⟩;obtain⟨vs,g1,g2⟩:=key m1 h H ws r' z;rw[q2];exact⟨vs,cH.of g1,g2⟩
theorem Iu{u v:W}{h:VH}{i:Nat}{o:Option W}(q:aZ .zip (.tup [u,v]) i h=aB o):∃ws zs,aO h u=aB ws/\aO h v=aB zs/\o=(match ws[i]?,zs[i]? with|some a,aB b=>aB (.tup [a,b])|_,_=>aC):=by simp only[aZ]at q;split at q;rename_i ws zs h1 h2;cases q;exact⟨ws,zs,h1,h2,rfl⟩;cases q
theorem W5{K:aH}{b c:Bool}{a1 a2:ah}{u v:W}{P1 P2:(Nat->ah)->Nat->Hp->Prop}(s1:Src K b a1 u P1)(s2:Src K c a2 v P2):i7 K (aZ .zip (.tup [u,v])) (vD K b c a1 a2) (λm n H=>P1 m n H/\P2 m n H):=by
 refine⟨λm n H m' n' H' hn hm kt kf ⟨q1,q2⟩=>⟨s1.1 m n H m' n' H' hn hm kt kf q1,s2.1 m n H m' n' H' hn hm kt kf q2⟩,λm h H r ⟨q1,q2⟩ i=>⟨λw e=>?_,λe=>?_⟩⟩;obtain⟨ws,zs,e1,e2,e3⟩:=Iu e;obtain⟨xs,g1,g2⟩:=s1.2 m h H ws r q1 e1;obtain⟨ys,g3,g4⟩:=s2.2 m h H zs r q2 e2;cases z1:ws[i]? with
 |none=>rw[z1]at e3;cases e3
 |some w1=>
  cases z2:zs[i]? with
  |none=>rw[z1,z2]at e3;cases e3
  |some w2=>
   rw[z1,z2]at e3;cases e3;obtain⟨v1,k1,k2⟩:=g2.get z1;obtain⟨v2,k3,k4⟩:=g4.get z2;refine⟨⟨xs,ys,v1,v2,g1,g3,k1,k3⟩,λy H3 ⟨T,x3,y3,f1,f2,f3,f4,f5⟩=>?_⟩;subst f1 f3;have t1:=f4 xs g1;have t2:=f5 ys g3;rw[k1]at t1;cases t1;rw[k3]at t2;cases t2;obtain⟨st,r'⟩:=r.more (u:=.tup [v1,v2]) f2;exact⟨st,r',.tup (bW.of iu) (.cons (k2.stp st) (.cons (k4.stp st) .nil))⟩
 obtain⟨ws,zs,e1,e2,e3⟩:=Iu e;obtain⟨xs,g1,g2⟩:=s1.2 m h H ws r q1 e1;obtain⟨ys,g3,g4⟩:=s2.2 m h H zs r q2 e2;refine⟨xs,ys,g1,g3,?_⟩;cases z1:ws[i]? with
 |none=>exact .inl (by rw[g2.length];exact m5.mp z1)
 |some w1=>
  cases z2:zs[i]? with|none=>exact .inr (by rw[g4.length];exact m5.mp z2)|some w2=>rw[z1,z2]at e3;cases e3
theorem W6{elts:List ao}{kx:Nat}{tp:Pos}(ha:SA X [a,b] fa)(hs:gH a)(hs2:gH b)(hg:Gl X "zip")(hm:X.mg "zip" = aC):PI X (.Tuple elts kx tp) (.Call (.Name "zip" p) [a,b] [] pos) (cC X.K .zip fa):=λpins s σ H R I z9=>z9.el λρ h m x h' f r ee o en k=>by
 have hx:∃u v,x=.tup [u,v]:=by simp only[aZ]at en;split at en;exact⟨_,_,rfl⟩;cases en
 obtain⟨u,v,rfl⟩:=hx;obtain⟨ws,zs,e1,e2,_⟩:=Iu en;refine W4 hg hm ha (by rw[gf hs,gf hs2];rfl) (gf hs2) pins s σ H R I (.mk f r ee λvs H' m' s' r' q=>?_);obtain⟨v1,v2,rfl,q1,q2⟩:=kZ q;obtain⟨b1,a1,P1,rfl,o1,p1,x1⟩:=OQ r' q1 e1;obtain⟨b2,a2,P2,rfl,o2,p2,x2⟩:=OQ r' q2 e2;exact⟨b1,b2,a1,a2,rfl,x1,x2,k _ _ H' m' s' r' (W5 o1 o2) ⟨p1,p2⟩⟩
end
section
variable{X:Cx}{a b c e o:ao}{es:List ao}{fa fb fc fo fr:FE}{pos p:Pos}{x:Str}
noncomputable def dh(K:aH)(t:Tg):TG:=λv σ H Q=>∃ρ h m w ρ',Fr K m h.n H σ ρ/\Rel K m h H/\aI K m h.n H v w/\aX t w h ρ=aB ρ'/\∀σ',Fr K m h.n H σ' ρ'->Q σ' H
theorem dh.el{K:aH}{v:V}{σ:L2.St}{H:Hp}{P:Prop}{tg:Tg}{Q}(q:dh K tg v σ H Q)(k:∀ρ h m w ρ',Fr K m h.n H σ ρ->Rel K m h H->aI K m h.n H v w->aX tg w h ρ=aB ρ'->(∀σ',Fr K m h.n H σ' ρ'->Q σ' H)->P):P:=by obtain⟨ρ,h,m,w,h',f,r,e,eo,k'⟩:=q;exact k ρ h m w h' f r e eo k'
theorem dh.mk{K:aH}{v:V}{σ:L2.St}{H:Hp}{m:Nat->ah}{ρ ρ':En}{h:VH}{w:W}{tg:Tg}{Q}(f:Fr K m h.n H σ ρ)(r:Rel K m h H)(e:aI K m h.n H v w)(eo:aX tg w h ρ=aB ρ')(k:∀σ',Fr K m h.n H σ' ρ'->Q σ' H):dh K tg v σ H Q:=⟨ρ,h,m,w,ρ',f,r,e,eo,k⟩
theorem W7{i:Nat}(hN:X.N.Nodup)(hi:X.N[i]?=aB x)(hx:Loc X.env.scope x)(hf:X.fn x=true\/X.env.scope.names.lookup x=aB .local):PG X (.Name x pos) (dh X.K (.one i)):=λpins s σ H v u Q I ru z9=>z9.el λρ h m w ρ' f r q e k=>by
 cases e;exact MA hN hi hx hf pins s σ H v u Q I ru (k _ (f.set q i))
noncomputable def nV(X:Cx)(e:ao)(i:Nat):Prop:=∃x p,e=.Name x p/\X.N[i]?=aB x/\Loc X.env.scope x/\(X.fn x=true\/X.env.scope.names.lookup x=aB .local)
noncomputable def BD(K:aH)(is:List Nat):qh:=λvs σ H Q=>∃ρ m n ws ρ',Fr K m n H σ ρ/\aE K m n H vs ws/\iV is ws ρ=aB ρ'/\∀σ',Fr K m n H σ' ρ'->Q σ' H
theorem OR(hN:X.N.Nodup):∀{es:List ao} {is:List Nat},Paired (nV X) es is->xY X es (BD X.K is)/\(assignEach es X.env).length=es.length/\(assignEach es X.env).findIdx? (·.1)=aC
 |_,_,.nil=>by
  refine⟨λpins s σ H vs us Q I ru ⟨ρ,m,n,ws,ρ',f,q,e,k⟩=>?_,rfl,rfl⟩;cases ws with|nil=>cases e;cases q;exact Se pins s σ H [] us Q I ru ⟨rfl,k _ f⟩|cons _ _=>cases e
 |e::es,i::is,.cons ⟨x,p,he,hi,hx,hf⟩ t=>by
  subst he;obtain⟨h1,h2,h3⟩:=OR hN t;refine⟨λpins s σ H vs us Q I ru ⟨ρ,m,n,ws,ρ',f,q,e,k⟩=>?_,?_,?_⟩;cases q with
  |nil=>cases e
  |cons q qs=>
   exact Sf (MA hN hi hx hf) h1 rfl pins s σ H _ us Q I ru ⟨_,_,rfl,ρ.set i (aB _),m,n,_,ρ',f.set q i,qs,e,k⟩
  show(assignEach es X.env).length+1=es.length+1;rw[h2];show List.findIdx? _ ((false,_)::assignEach es X.env)=aC;rw[List.findIdx?_cons,h3];rfl
theorem OS:∀{is:List Nat} {ws:List W} {ρ ρ':En},iV is ws ρ=aB ρ'->ws.length=is.length
 |[],[],_,_,_=>rfl
 |[],_::_,_,_,e=>by cases e
 |_::_,[],_,_,e=>by cases e
 |_::_,_::_,_,_,e=>by
  rw[cZ,cZ,OS (by simpa only[iV]using e)]
theorem W8{t:qh}{n k:Nat}(hc:X.calm)(h:xY X es t)(hn:(assignEach es X.env).length=n)(hst:(assignEach es X.env).findIdx? (·.1)=aC) :
 PG X (.Tuple es k pos) (λv σ H Q=>∃a xs,v=.ref a/\cH X.K H a xs/\xs.length=n/\t xs σ H Q):=by
 intro pins s σ H v u Q I r hw;obtain⟨a,xs,rfl,hq,hl,hw⟩:=hw;cases r;obtain⟨its,rv,ht,hz⟩:=I.list hq;rw[assign_Tuple];refine aJ (mQ ?_);unfold unpack;have hsz:(assignEach es X.env).length=its.toArray.size:=by rw[hn,<-hl,rv.length,cQ]
 rw[hst,hsz];refine aJ (mZ (PySem.W.kun_itemsOf (I.ok.hd hc) ht.isList λh' hx=>?_));have I1:Inv X pins σ H {s with heap:=h'}:=I.kept (t':=s.toks) λb o e=>hx b o (fL (cJ e)) e;exact h pins _ σ H xs _ Q I1 (by simpa using rv) hw
theorem OT{is:List Nat}{k:Nat}(hc:X.calm)(hN:X.N.Nodup)(hs:Paired (nV X) es is):PG X (.Tuple es k pos) (dh X.K (.many is)):=λpins s σ H v u Q I ru z9=>z9.el λρ h m w ρ' f r q e k=>by
 obtain⟨h1,h2,h3⟩:=OR hN hs;simp only[aX]at e;cases z:aO h w with
 |none=>rw[z]at e;cases e
 |some ws=>
  rw[z]at e;have e:iV is ws ρ=aB ρ':=e;obtain⟨p,vs,rfl,hq,qs⟩:=yg r q z;have hl:vs.length=es.length:=by rw[qs.length,OS e,hs.length]
  rcases hq with hq|hq;exact W8 hc h1 h2 h3 pins s σ H _ u Q I ru ⟨p,vs,rfl,hq,hl,ρ,m,h.n,ws,ρ',f,qs,e,k⟩;exact Sg hc h1 h2 h3 pins s σ H _ u Q I ru ⟨p,vs,rfl,hq,hl,ρ,m,h.n,ws,ρ',f,qs,e,k⟩
theorem OU{K:aH}{m:Nat->ah}{n:Nat}{H:Hp}{σ:L2.St}{ρ:En}{ow fr:List Str}{ix:List Nat}(f:Fr K m n H σ ρ):Fr K m n H (iS ow fr ix σ) (inner ow.length ix ρ):=by
 unfold iS inner;refine⟨by simp,λi w e=>?_⟩;by_cases hi:i<ow.length;rw[pZ (by simpa using hi)]at e;rw[List.getElem?_replicate]at e;split at e<;>cases e;rw[lI (by simpa using jh.mp hi)]at e;rw[lI (by simpa using jh.mp hi)];simp only[List.length_replicate,bJ]at e ⊢;rw[jb]at e ⊢;cases z:ix[i-ow.length]? with
 |none=>rw[z]at e;cases e
 |some j=>
  rw[z]at e;simp only[mU,Option.some.injEq]at e ⊢;have e3:ρ[j]?=aB (aB w):=by
   cases q:ρ[j]? with|none=>rw[q]at e;cases e|some o=>rw[q]at e;rw[<-e];rfl
  obtain⟨v,h1,h2⟩:=f.val j w e3;exact⟨v,by rw[h1];rfl,h2⟩
theorem Iv{nx:Nat->VH->Option (Option W)}{tg:W->VH->En->Option En}{c e:FE}:∀{f i:Nat} {ρ:En} {h:VH} {acc ys:List W} {h':VH},eB nx tg c e f i ρ h acc=.ok ys h'->acc.length<=ys.length
 |0,_,_,_,_,_,_,q=>by cases q
 |f+1,i,ρ,h,acc,ys,h',q=>by
  simp only[eB]at q;split at q;cases q;cases q;simp;split at q;cases q;refine bR q λb h1 e1 e2=>?_;split at e2;refine bR e2 λy h2 e3 e4=>?_;have:=Iv e4;rw[cZ]at this;lia;exact Iv e2;cases e2
theorem W9{nx:Nat->VH->Option (Option W)}{tg:W->VH->En->Option En}{c e:FE}{f i:Nat}{ρ:En}{h:VH}{acc ys:List W}{h':VH}(q:eB nx tg c e (f+1) i ρ h acc=.ok ys h'):∃o,nx i h=aB o:=by simp only[eB]at q;split at q;cases q;exact⟨_,by assumption⟩;exact⟨_,by assumption⟩
theorem OV{H:Hp}{a:ah}{o:HO}(h:H a=aB o):upd H a o=H:=by funext b;unfold upd;split;rename_i e;rw[e,h];rfl
noncomputable abbrev Iw(kd:Kd)(fa:FE)(t:Tg)(ow:Nat)(ix:List Nat)(fc fe:FE):FE:=λρ h=>(fa ρ h).bind λx h=>(eB (aZ kd x) (aX t) fc fe fuel 0 (inner ow ix ρ) h []).bind λys h=>if Nat.ble ys.length big then .ok (.ref h.n) (h.new (.lst ys))else .no
theorem tY{K:aH}{kd:Kd}{t:Tg}{ow fr:List Str}{ix:List Nat}{fe:FE}{σ:L2.St}{H:Hp}{Q:VK}(q:fT K (Iw kd fa t ow.length ix fc fe) σ H Q):G7 K (iS ow fr ix) (cC K kd fa) (dh K t) (dD K fc) (fT K fe) σ H Q:=by
 refine q.el λρ h m w h' f r e k=>?_;refine bR e λx h1 e1 e2=>?_;refine bR e2 λys h2 e3 e4=>?_;split at e4
 case isFalse=>cases e4
 rename_i hz;cases e4;have hz:=jf hz;refine(.mk f r e1 ?_ λJ P H1 m1 s1 r1 J1 p1 D hD hK=>?_);exact W9 (f:=999999) e3;obtain⟨jQ,r0⟩:=r1.more (u:=.lst []) hD;have p0:=J1.1 m1 h1.n H1 m1 h1.n (upd H1 D (.lst [])) (aR _) (λ_ _=>rfl) (λb vs q=>jQ.tup b vs q) (λb o u q=>jQ.bL b o u q) p1;refine⟨λi fl σ' H' vs=>∃ρ' h3 m3 acc,eB (aZ kd x) (aX t) fc fe fl i ρ' h3 acc=.ok ys h2/\Fr K m3 h3.n H' σ' ρ'/\Rel K m3 h3 H'/\H' D=aB (.lst vs)/\aE K m3 h3.n H' vs acc.reverse/\(∀i,i<h3.n->m3 i≠D)/\bQ m1 h1.n H1 m3 h3.n H'/\P m3 h3.n H',
  ⟨fuel,inner ow.length ix ρ,h1,m1,[],e3,OU ((f.stp s1).stp jQ),r0,iu,.nil,r1.out hD,jQ,p0⟩,?_⟩
 rintro i fl σ' H' vs ⟨ρ',h3,m3,acc,e5,f3,r3,d3,q3,o3,s3,p3⟩;refine⟨d3,?_⟩;cases fl with
 |zero=>cases e5
 |succ fl=>
  simp only[eB]at e5;obtain⟨j1,j2⟩:=J1.2 m3 h3 H' r3 p3 i;split at e5;cases e5;rename_i hn;cases e5;refine .inl ⟨j2 hn,?_⟩;obtain⟨st,r'⟩:=r3.adopt (o:=.lst acc.reverse) (u:=.lst vs) o3 d3 (λ_ z=>nomatch z) (λ_ _ z=>nomatch z) (s1.trans s3) (by
   cases z:H D with
   |none=>rfl
   |some o=>
    have:=s1.keep D o (λi hi z2=>(r1.out hD) i (ek hi s1.le) ((s1.same i hi).trans z2)) z;rw[hD]at this;cases this) λ_ mv=>⟨_,iu,q3.map mv⟩
  rw[OV d3]at st r';refine k _ _ _ st r' ?_;have:aI K (λi=>if i=h2.n then D else m3 i) (h2.n+1) H' (.ref ((λi=>if i=h2.n then D else m3 i) h2.n)) (.ref h2.n):=.ref (iO _);simp only[bX]at this;exact this;rename_i w hn;obtain⟨j3,j4⟩:=j1 w hn;refine .inr ⟨j3,λy H4 hy=>?_⟩;obtain⟨s4,r4,q4⟩:=j4 y H4 hy;split at e5;cases e5;rename_i nW ht;refine⟨ρ',h3,m3,w,nW,f3.stp s4,r4,q4,ht,λjP f5=>?_⟩;refine bR e5 λbv h6 e6 e7=>?_;have d4:H4 D=aB (.lst vs):=s4.keep D _ o3 d3;have BE:=s3.trans s4;have p4:=J1.1 m3 h3.n H' m3 h3.n H4 (aR _) (λ_ _=>rfl) (λb vs q=>s4.tup b vs q) (λb o u q=>s4.bL b o u q) p3;cases bv<;>try cases e7
  rename_i bb;refine⟨nW,h3,m3,bb,h6,f5,r4,e6,λH6 m6 s6 r6=>?_⟩;have o6:=s6.out o3 d4;have d6:H6 D=aB (.lst vs):=s6.keep D _ o3 d4;have p6:=J1.1 m3 h3.n H4 m6 h6.n H6 s6.le s6.same (λb vs q=>s6.tup b vs q) (λb o u q=>s6.bL b o u q) p4;cases bb with
  |false=>
   simp only[dO,di];exact⟨fl,iO _,nW,h6,m6,acc,e7,f5.stp s6,r6,d6,(q3.stp s4).stp s6,o6,BE.trans s6,p6⟩
  |true=>
   simp only[bX];refine bR e7 λy7 h7 e8 e9=>?_;refine⟨nW,h6,m6,y7,h7,f5.stp s6,r6,e8,λv7 H7 m7 s7 r7 q7=>?_⟩;have o7:=s7.out o6 d6;have d7:H7 D=aB (.lst vs):=s7.keep D _ o6 d6;have p7:=J1.1 m6 h6.n H6 m7 h7.n H7 s7.le s7.same (λb vs q=>s7.tup b vs q) (λb o u q=>s7.bL b o u q) p6;have OW:=((q3.stp s4).stp s6).stp s7;have hlen:=Iv e9;rw[cZ]at hlen;refine⟨d7,?_,fl,iO _,nW,h7,m7,y7::acc,e9,?_⟩;rw[OW.length,List.length_reverse];have:big=sizeLine:=rfl;lia;obtain⟨Iz,r8,mv⟩:=r7.side (u:=.lst (vs++[v7])) d7 (λ_ z=>nomatch z) (λ_ _ z=>nomatch z) o7 ((BE.trans s6).trans s7) hD;have kt:∀b us,H7 b=aB (.tup us)->upd H7 D (.lst (vs++[v7])) b=aB (.tup us):=λb us q=>by rw[bV (cV q d7 λz=>nomatch z)];exact q
   have kf:∀b o u,H7 b=aB (.bL o u)->upd H7 D (.lst (vs++[v7])) b=aB (.bL o u):=λb o u q=>by rw[bV (cV q d7 λz=>nomatch z)];exact q
   refine⟨⟨(f5.stp s6).len,λi w e=>let⟨v,h1,h2⟩:=((f5.stp s6).stp s7).val i w e;⟨v,h1,mv h2⟩⟩,r8,iu,?_,o7,Iz,J1.1 m7 h7.n H7 m7 h7.n _ (aR _) (λ_ _=>rfl) kt kf p7⟩;rw[List.reverse_cons];exact(OW.map mv).append (.cons (mv q7) .nil)
theorem EE{nx:Nat->VH->Option (Option W)}{tg:W->VH->En->Option En}{c e:FE}:∀{f i:Nat} {ρ:En} {h:VH} {acc:List W} {p:En×List W} {h':VH},gU nx tg c e f i ρ h acc=.ok p h'->acc.length<=p.2.length
 |0,_,_,_,_,_,_,q=>by cases q
 |f+1,i,ρ,h,acc,ys,h',q=>by
  simp only[gU]at q;split at q;cases q;cases q;exact aR _;split at q;cases q;refine bR q λb h1 e1 e2=>?_;split at e2;refine bR e2 λy h2 e3 e4=>?_;have:=EE e4;rw[cZ]at this;lia;exact EE e2;cases e2
theorem IA{nx:Nat->VH->Option (Option W)}{tg:W->VH->En->Option En}{c:FE}{jy:En->VH->List W->Res (En×List W)}(hi:∀{ρ h acc p h'},jy ρ h acc=.ok p h'->acc.length<=p.2.length):∀{f i:Nat} {ρ:En} {h:VH} {acc ys:List W} {h':VH},iX nx tg c jy f i ρ h acc=.ok ys h'->acc.length<=ys.length
 |0,_,_,_,_,_,_,q=>by cases q
 |f+1,i,ρ,h,acc,ys,h',q=>by
  simp only[iX]at q;split at q;cases q;cases q;simp;split at q;cases q;refine bR q λb h1 e1 e2=>?_;split at e2;refine bR e2 λy h2 e3 e4=>?_;exact gJ (hi e3) (IA hi e4);exact IA hi e2;cases e2
theorem Xa{nx:Nat->VH->Option (Option W)}{tg:W->VH->En->Option En}{c:FE}{jy:En->VH->List W->Res (En×List W)}{f i:Nat}{ρ:En}{h:VH}{acc ys:List W}{h':VH}(q:iX nx tg c jy (f+1) i ρ h acc=.ok ys h'):∃o,nx i h=aB o:=by simp only[iX]at q;split at q;cases q;exact⟨_,by assumption⟩;exact⟨_,by assumption⟩
theorem Xb{nx:Nat->VH->Option (Option W)}{tg:W->VH->En->Option En}{c e:FE}{f i:Nat}{ρ:En}{h:VH}{acc:List W}{p:En×List W}{h':VH}(q:gU nx tg c e (f+1) i ρ h acc=.ok p h'):∃o,nx i h=aB o:=by simp only[gU]at q;split at q;cases q;exact⟨_,by assumption⟩;exact⟨_,by assumption⟩
noncomputable abbrev vX(kd:Kd)(fa:FE)(t:Tg)(ow:Nat)(ix:List Nat)(fc:FE)(gX:Kd)(mX:FE)(t2:Tg)(mq fe:FE):FE:=λρ h=>(fa ρ h).bind λx h=>(iX (aZ kd x) (aX t) fc (λρ h acc=>(mX ρ h).bind λy h=>gU (aZ gX y) (aX t2) mq fe fuel 0 ρ h acc) fuel 0 (inner ow ix ρ) h []).bind λys h=>if Nat.ble ys.length big then .ok (.ref h.n) (h.new (.lst ys))else .no
theorem OX{K:aH}{kd gX:Kd}{t t2:Tg}{ow fr:List Str}{ix:List Nat}{mX mq fe:FE}{σ:L2.St}{H:Hp}{Q:VK}(q:fT K (vX kd fa t ow.length ix fc gX mX t2 mq fe) σ H Q) :
 Hz K (iS ow fr ix) (cC K kd fa) (dh K t) (dD K fc) (λD=>NH (cC K gX mX) (dh K t2) (dD K mq) (HK (fT K fe) D)) (.lst []) σ H Q:=by
 refine q.el λρ h m w h' f r e k=>?_;refine bR e λx h1 e1 e2=>?_;refine bR e2 λys h2 e3 e4=>?_;split at e4
 case isFalse=>cases e4
 rename_i hz;cases e4;have hz:=jf hz;have il:∀{ρ h acc p h'},(mX ρ h).bind (λy h=>gU (aZ gX y) (aX t2) mq fe fuel 0 ρ h acc)=.ok p h'->acc.length<=p.2.length:=λq=>by
  refine bR q λy h1 e1 e2=>?_;exact EE e2
 refine(.mk f r e1 ?_ λJ P H1 m1 s1 r1 J1 p1 D hD hK=>?_);exact Xa (f:=999999) e3;obtain⟨jQ,r0⟩:=r1.more (u:=.lst []) hD;have p0:=J1.1 m1 h1.n H1 m1 h1.n (upd H1 D (.lst [])) (aR _) (λ_ _=>rfl) (λb vs q=>jQ.tup b vs q) (λb o u q=>jQ.bL b o u q) p1;refine⟨λi fl σ' H'=>∃ρ' h3 m3 acc vs,iX (aZ kd x) (aX t) fc (λρ h acc=>(mX ρ h).bind λy h=>gU (aZ gX y) (aX t2) mq fe fuel 0 ρ h acc) fl i ρ' h3 acc=.ok ys h2/\Fr K m3 h3.n H' σ' ρ'/\Rel K m3 h3 H'/\H' D=aB (.lst vs)/\aE K m3 h3.n H' vs acc.reverse/\(∀i,i<h3.n->m3 i≠D)/\bQ m1 h1.n H1 m3 h3.n H'/\P m3 h3.n H',
  ⟨fuel,inner ow.length ix ρ,h1,m1,[],[],e3,OU ((f.stp s1).stp jQ),r0,iu,.nil,r1.out hD,jQ,p0⟩,?_⟩
 rintro i fl σ' H' ⟨ρ',h3,m3,acc,vs,e5,f3,r3,d3,q3,o3,s3,p3⟩;cases fl with
 |zero=>cases e5
 |succ fl=>
  simp only[iX]at e5;obtain⟨j1,j2⟩:=J1.2 m3 h3 H' r3 p3 i;split at e5;cases e5;rename_i hn;cases e5;refine .inl ⟨j2 hn,?_⟩;obtain⟨st,r'⟩:=r3.adopt (o:=.lst acc.reverse) (u:=.lst vs) o3 d3 (λ_ z=>nomatch z) (λ_ _ z=>nomatch z) (s1.trans s3) (by
   cases z:H D with
   |none=>rfl
   |some o=>
    have:=s1.keep D o (λi hi z2=>(r1.out hD) i (ek hi s1.le) ((s1.same i hi).trans z2)) z;rw[hD]at this;cases this) λ_ mv=>⟨_,iu,q3.map mv⟩
  rw[OV d3]at st r';refine k _ _ _ st r' ?_;have:aI K (λi=>if i=h2.n then D else m3 i) (h2.n+1) H' (.ref ((λi=>if i=h2.n then D else m3 i) h2.n)) (.ref h2.n):=.ref (iO _);simp only[bX]at this;exact this;rename_i w hn;obtain⟨j3,j4⟩:=j1 w hn;refine .inr ⟨j3,λy H4 hy=>?_⟩;obtain⟨s4,r4,q4⟩:=j4 y H4 hy;split at e5;cases e5;rename_i nW ht;refine⟨ρ',h3,m3,w,nW,f3.stp s4,r4,q4,ht,λjP f5=>?_⟩;refine bR e5 λbv h6 e6 e7=>?_;have d4:H4 D=aB (.lst vs):=s4.keep D _ o3 d3;have BE:=s3.trans s4;have p4:=J1.1 m3 h3.n H' m3 h3.n H4 (aR _) (λ_ _=>rfl) (λb vs q=>s4.tup b vs q) (λb o u q=>s4.bL b o u q) p3;cases bv<;>try cases e7
  rename_i bb;refine⟨nW,h3,m3,bb,h6,f5,r4,e6,λH6 m6 s6 r6=>?_⟩;have o6:=s6.out o3 d4;have d6:H6 D=aB (.lst vs):=s6.keep D _ o3 d4;have p6:=J1.1 m3 h3.n H4 m6 h6.n H6 s6.le s6.same (λb vs q=>s6.tup b vs q) (λb o u q=>s6.bL b o u q) p4;cases bb with
  |false=>
   simp only[dO,di];exact⟨fl,iO _,nW,h6,m6,acc,vs,e7,f5.stp s6,r6,d6,(q3.stp s4).stp s6,o6,BE.trans s6,p6⟩
  |true=>
   simp only[bX];obtain⟨⟨OY,rq⟩,h9,e8,e9⟩:=Oj e7;refine bR e8 λy7 h7 Xc DQ=>?_;have BF:=IA il e9;refine⟨nW,h6,m6,y7,h7,f5.stp s6,r6,Xc,Xb (f:=999999) DQ,λJ2 P2 H8 m8 s8 r8 BG p8=>?_⟩;have o8:=s8.out o6 d6;have d8:H8 D=aB (.lst vs):=s8.keep D _ o6 d6;have Xd:=J1.1 m6 h6.n H6 m8 h7.n H8 s8.le s8.same (λb vs q=>s8.tup b vs q) (λb o u q=>s8.bL b o u q) p6;refine⟨λj gl σ' H'=>∃EF ha ma mz va,gU (aZ gX y7) (aX t2) mq fe gl j EF ha mz=.ok (OY,rq) h9/\Fr K ma ha.n H' σ' EF/\Rel K ma ha H'/\H' D=aB (.lst va)/\aE K ma ha.n H' va mz.reverse/\(∀i,i<ha.n->ma i≠D)/\bQ m1 h1.n H1 ma ha.n H'/\P ma ha.n H'/\P2 ma ha.n H',
    ⟨fuel,nW,h7,m8,acc,vs,DQ,(f5.stp s6).stp s8,r8,d8,((q3.stp s4).stp s6).stp s8,o8,(BE.trans s6).trans s8,Xd,p8⟩,?_⟩
   rintro j gl σa Ha ⟨EF,ha,ma,mz,va,ea,OZ,ra,da,qa,oa,sa,pa,pb⟩;cases gl with
   |zero=>cases ea
   |succ gl=>
    simp only[gU]at ea;obtain⟨b1,b2⟩:=BG.2 ma ha Ha ra pb j;split at ea;cases ea;rename_i hn2;cases ea;exact .inl ⟨b2 hn2,fl,iO _,OY,h9,ma,rq,va,e9,OZ,ra,da,qa,oa,sa,pa⟩;rename_i w2 hn2;obtain⟨b3,b4⟩:=b1 w2 hn2;refine .inr ⟨b3,λy2 Hb Xe=>?_⟩;obtain⟨sb,rb,qb⟩:=b4 y2 Hb Xe;split at ea;cases ea;rename_i BH BI;refine⟨EF,ha,ma,w2,BH,OZ.stp sb,rb,qb,BI,λσb fb=>?_⟩;refine bR ea λXf hc2 ec ed=>?_;have db:Hb D=aB (.lst va):=sb.keep D _ oa da;have Xg:=J1.1 ma ha.n Ha ma ha.n Hb (aR _) (λ_ _=>rfl) (λb vs q=>sb.tup b vs q) (λb o u q=>sb.bL b o u q) pa;have Xh:=BG.1 ma ha.n Ha ma ha.n Hb (aR _) (λ_ _=>rfl) (λb vs q=>sb.tup b vs q) (λb o u q=>sb.bL b o u q) pb;cases Xf<;>try cases ed
    rename_i O0;refine⟨BH,ha,ma,O0,hc2,fb,rb,ec,λHc mc sc rc=>?_⟩;have oc:=sc.out oa db;have dc:Hc D=aB (.lst va):=sc.keep D _ oa db;have O1:=J1.1 ma ha.n Hb mc hc2.n Hc sc.le sc.same (λb vs q=>sc.tup b vs q) (λb o u q=>sc.bL b o u q) Xg;have O2:=BG.1 ma ha.n Hb mc hc2.n Hc sc.le sc.same (λb vs q=>sc.tup b vs q) (λb o u q=>sc.bL b o u q) Xh;cases O0 with
    |false=>
     simp only[dO,di];exact⟨gl,iO _,BH,hc2,mc,mz,va,ed,fb.stp sc,rc,dc,(qa.stp sb).stp sc,oc,(sa.trans sb).trans sc,O1,O2⟩
    |true=>
     simp only[bX];refine bR ed λyv hd2 ef eg=>?_;refine⟨BH,hc2,mc,yv,hd2,fb.stp sc,rc,ef,λvd Hd md sd rd qd=>?_⟩;have od:=sd.out oc dc;have dd:Hd D=aB (.lst va):=sd.keep D _ oc dc;have pad:=J1.1 mc hc2.n Hc md hd2.n Hd sd.le sd.same (λb vs q=>sd.tup b vs q) (λb o u q=>sd.bL b o u q) O1;have Xi:=BG.1 mc hc2.n Hc md hd2.n Hd sd.le sd.same (λb vs q=>sd.tup b vs q) (λb o u q=>sd.bL b o u q) O2;have O3:=((qa.stp sb).stp sc).stp sd;have hlen:=EE eg;rw[cZ]at hlen;refine⟨va,dd,?_,gl,iO _,BH,hd2,md,yv::mz,va++[vd],eg,?_⟩;rw[O3.length,List.length_reverse];have:big=sizeLine:=rfl;have hl2:rq.length<=ys.length:=BF;have hl3:mz.length+1<=rq.length:=hlen;lia;obtain⟨Iz,r9,mv⟩:=rd.side (u:=.lst (va++[vd])) dd (λ_ z=>nomatch z) (λ_ _ z=>nomatch z) od (((sa.trans sb).trans sc).trans sd) hD;have kt:∀b us,Hd b=aB (.tup us)->upd Hd D (.lst (va++[vd])) b=aB (.tup us):=λb us q=>by rw[bV (cV q dd λz=>nomatch z)];exact q
     have kf:∀b o u,Hd b=aB (.bL o u)->upd Hd D (.lst (va++[vd])) b=aB (.bL o u):=λb o u q=>by rw[bV (cV q dd λz=>nomatch z)];exact q
     refine⟨⟨(fb.stp sc).len,λi w e=>let⟨v,h1,h2⟩:=((fb.stp sc).stp sd).val i w e;⟨v,h1,mv h2⟩⟩,r9,iu,?_,od,Iz,J1.1 md hd2.n Hd md hd2.n _ (aR _) (λ_ _=>rfl) kt kf pad,BG.1 md hd2.n Hd md hd2.n _ (aR _) (λ_ _=>rfl) kt kf Xi⟩;rw[List.reverse_cons];exact(O3.map mv).append (.cons (mv qd) .nil)
end
noncomputable def fG(h h':VH):Prop:=h.n<=h'.n/\h'.lo<=h.lo/\∀i,i<h.n->i<h'.lo->h'.get i=h.get i
theorem fG.refl{h:VH}:fG h h:=⟨aR _,aR _,λ_ _ _=>rfl⟩
theorem fG.trans{h h1 h2:VH}(a:fG h h1)(b:fG h1 h2):fG h h2:=⟨gJ a.1 b.1,gJ b.2.1 a.2.1,λi hi hl=>(b.2.2 i (ek hi a.1) hl).trans (a.2.2 i hi (ek hl b.2.1))⟩
theorem fG.new{h:VH}{o:VO}:fG h (h.new o):=⟨sW _,aR _,λi hi _=>iB hi⟩
theorem fG.set{h:VH}{i:Nat}{o:VO}(hi:i<h.n):fG h (h.set i o):=by refine⟨aR _,?_,λj hj hl=>vQ hi ?_⟩;show(if Nat.blt i h.lo then i else h.lo)<=h.lo;split;rename_i q;exact pX (gx.mp q);exact aR _;have hl:j< (if Nat.blt i h.lo then i else h.lo):=hl;split at hl;lia;rename_i q;intro z;rw[z]at hl;exact q (gx.mpr hl)
noncomputable def Gr{α:Type}(r:Res α)(h:VH):Prop:=∀a h',r=.ok a h'->fG h h'
section
variable{α β:Type}{h:VH}
theorem Gr.ok{a:α}:Gr (Res.ok a h) h:=λ_ _ e=>by cases e;exact .refl
theorem Gr.no:Gr (Res.no:Res α) h:=λ_ _ e=>by cases e
theorem Gr.of{o:Option α}:Gr (Res.of o h) h:=λ_ _ e=>by cases o with|none=>cases e|some a=>cases e;exact .refl
theorem Gr.new{a:α}{o:VO}:Gr (Res.ok a (h.new o)) h:=λ_ _ e=>by cases e;exact .new
theorem Gr.set{a:α}{o o':VO}{i:Nat}(g:h.get i=aB o'):Gr (Res.ok a (h.set i o)) h:=λ_ _ e=>by cases e;exact .set (cR g)
theorem Gr.bind{r:Res α}{f:α->VH->Res β}(a:Gr r h)(b:∀x h1,Gr (f x h1) h1):Gr (r.bind f) h:=λy h' e=>by
 cases r with|ok x h1=>exact(a x h1 rfl).trans (b x h1 y h' e)|ex _ _=>cases e|no=>cases e
end
theorem BJ{o:Op}{x y:W}{h:VH}:Gr (eW o x y h) h:=by unfold eW;split;exact .of;exact .of;exact .of;split;split;exact .new;exact .no;exact .no;exact .no
theorem BK{o:Op}{x y:W}{h:VH}:Gr (yf o x y h) h:=by unfold yf;split;split;exact .ok;exact .ok;exact .of;exact .of;exact .no;split;split;rename_i g _ _;exact .set g;exact .no;exact .no;split;split;exact .ok;exact .no;exact .no;exact .no
theorem Xj{x:W}{l u:Option Int}{h:VH}:Gr (jA x l u h) h:=by unfold jA;split;exact .ok;split;exact .new;exact .no;exact .no
theorem BL{b:Bi}{xs:List W}{h:VH}:Gr (gT b xs h) h:=by
 cases b<;>simp only[gT];unfold fO;split<;>first|exact .of|exact .no
 unfold gR;split;split;exact .new;exact .no;exact .no;unfold qW;split<;>first|exact .of|exact .no
 unfold kg;split<;>first|exact .ok|exact .no
 unfold kh;split<;>first|exact .ok|exact .no
 unfold qX;split;exact .ok;split;split;exact .ok;exact .no;exact .no;exact .no;unfold ki;split<;>first|exact .ok|exact .no
 unfold lY;split;split;exact .of;exact .no;exact .no;unfold gS;split;split;exact .new;exact .no;exact .no;unfold vO;split;exact .new;exact .no;unfold Be;split;split;rename_i g;exact .set g;exact .ok;exact .no;exact .no;unfold l9;split;split;split;split;exact .new;exact .no;exact .no;exact .no;exact .no
theorem BN{m:Mt}{o:W}{xs:List W}{h:VH}:Gr (qY m o xs h) h:=by unfold qY;split;split;split;rename_i g _;exact .set g;exact .no;exact .no;split;exact .ok;exact .ok;exact .no;exact .no
theorem IB{nx:Nat->VH->Option (Option W)}{tg:W->VH->En->Option En}{c e:En->VH->Res W}(hc:∀ρ h,Gr (c ρ h) h)(he:∀ρ h,Gr (e ρ h) h):∀(f i:Nat) (ρ:En) (h:VH) (acc:List W),Gr (gU nx tg c e f i ρ h acc) h
 |0,_,_,_,_=>.no
 |f+1,i,ρ,h,acc=>by
  simp only[gU];split;exact .no;exact .ok;split;exact .no;refine .bind (hc _ _) λb h1=>?_;split;exact .bind (he _ _) λy h2=>IB hc he f _ _ _ _;exact IB hc he f _ _ _ _;exact .no
theorem IC{nx:Nat->VH->Option (Option W)}{tg:W->VH->En->Option En}{c:En->VH->Res W}{e:En->VH->List W->Res (En×List W)}(hc:∀ρ h,Gr (c ρ h) h)(he:∀ρ h acc,Gr (e ρ h acc) h):∀(f i:Nat) (ρ:En) (h:VH) (acc:List W),Gr (iX nx tg c e f i ρ h acc) h
 |0,_,_,_,_=>.no
 |f+1,i,ρ,h,acc=>by
  simp only[iX];split;exact .no;exact .ok;split;exact .no;refine .bind (hc _ _) λb h1=>?_;split;exact .bind (he _ _ _) λy h2=>IC hc he f _ _ _ _;exact IC hc he f _ _ _ _;exact .no
theorem nX{nx:Nat->VH->Option (Option W)}{tg:W->VH->En->Option En}{c e:En->VH->Res W}(hc:∀ρ h,Gr (c ρ h) h)(he:∀ρ h,Gr (e ρ h) h):∀(f i:Nat) (ρ:En) (h:VH) (acc:List W),Gr (eB nx tg c e f i ρ h acc) h
 |0,_,_,_,_=>.no
 |f+1,i,ρ,h,acc=>by
  simp only[eB];split;exact .no;exact .ok;split;exact .no;refine .bind (hc _ _) λb h1=>?_;split;exact .bind (he _ _) λy h2=>nX hc he f _ _ _ _;exact nX hc he f _ _ _ _;exact .no
theorem ID{nx:Nat->VH->Option (Option W)}{tg:W->VH->En->Option En}{b:En->VH->Res Fl}(hb:∀ρ h,Gr (b ρ h) h):∀(f i:Nat) (ρ:En) (h:VH),Gr (dB nx tg b f i ρ h) h
 |0,_,_,_=>.no
 |f+1,i,ρ,h=>by
  simp only[dB];split;exact .no;exact .ok;split;exact .no;refine .bind (hb _ _) λfl h1=>?_;split;exact ID hb f _ _ _;exact ID hb f _ _ _;exact .ok;exact .ok
theorem IE{c:En->VH->Res W}{b:En->VH->Res Fl}(hc:∀ρ h,Gr (c ρ h) h)(hb:∀ρ h,Gr (b ρ h) h):∀(f:Nat) (ρ:En) (h:VH),Gr (fF c b f ρ h) h
 |0,_,_=>.no
 |f+1,ρ,h=>by
  simp only[fF];refine .bind (hc _ _) λt h1=>?_;split;exact .ok;refine .bind (hb _ _) λfl h2=>?_;split;exact IE hc hb f _ _;exact IE hc hb f _ _;exact .ok;exact .ok;exact .no
section
variable{cl:Call}
theorem BO(hcl:∀f ws h,Gr (cl f ws h) h):∀(e:E) (ρ:En) (h:VH),Gr (ev cl e ρ h) h:=by
 intro e;induction e with
 |var i=>intro ρ h;exact .of
 |cst w=>intro ρ h;exact .ok
 |nil=>intro ρ h;exact .ok
 |cons a r i1 i2=>intro ρ h;simp only[ev];refine .bind (i1 _ _) λx h1=>.bind (i2 _ _) λy h2=>?_;split<;>first|exact .ok|exact .no
 |tup a i1=>intro ρ h;simp only[ev];refine .bind (i1 _ _) λx h1=>?_;split<;>first|(split<;>first|exact .ok|exact .no)|exact .no
 |lst a i1=>intro ρ h;simp only[ev];refine .bind (i1 _ _) λx h1=>?_;split<;>first|(split<;>first|exact .new|exact .no)|exact .no
 |Ba a i1=>
  intro ρ h;simp only[ev];refine .bind (i1 _ _) λx h1=>?_;split;split;split;exact .new;exact .no;exact .no;exact .no
 |op o a b i1 i2=>intro ρ h;simp only[ev];exact .bind (i1 _ _) λx h1=>.bind (i2 _ _) λy h2=>BJ
 |neg a i1=>intro ρ h;simp only[ev];refine .bind (i1 _ _) λx h1=>?_;split<;>first|exact .ok|exact .no
 |cmp c a b i1 i2=>intro ρ h;simp only[ev];exact .bind (i1 _ _) λx h1=>.bind (i2 _ _) λy h2=>.of
 |vM c d a b e i1 i2 i3=>
  intro ρ h;simp only[ev];refine .bind (i1 _ _) λx h1=>.bind (i2 _ _) λy h2=>?_;split;exact .bind (i3 _ _) λz h3=>.of;exact .ok;exact .no
 |not a i1=>intro ρ h;simp only[ev];refine .bind (i1 _ _) λx h1=>?_;split<;>first|exact .ok|exact .no
 |and a b i1 i2=>intro ρ h;simp only[ev];refine .bind (i1 _ _) λx h1=>?_;split<;>first|exact i2 _ _|exact .ok|exact .no
 |or a b i1 i2=>intro ρ h;simp only[ev];refine .bind (i1 _ _) λx h1=>?_;split<;>first|exact i2 _ _|exact .ok|exact .no
 |kY a i1=>intro ρ h;simp only[ev];exact .bind (i1 _ _) λx h1=>.of
 |ite c a b i1 i2 i3=>
  intro ρ h;simp only[ev];refine .bind (i1 _ _) λx h1=>?_;split;exact i2 _ _;exact i3 _ _;exact .no
 |idx a b i1 i2=>intro ρ h;simp only[ev];exact .bind (i1 _ _) λx h1=>.bind (i2 _ _) λy h2=>.of
 |slc a bl lo bh hi i1 i2 i3=>
  intro ρ h;simp only[ev];refine .bind (i1 _ _) λx h1=>.bind (i2 _ _) λy h2=>.bind (i3 _ _) λz h3=>?_;split;exact Xj;exact .no
 |call f a i1=>intro ρ h;simp only[ev];refine .bind (i1 _ _) λx h1=>?_;split<;>first|exact hcl _ _ _|exact .no
 |bi b a i1=>intro ρ h;simp only[ev];refine .bind (i1 _ _) λx h1=>?_;split<;>first|exact BL|exact .no
 |nQ t a i1=>intro ρ h;simp only[ev];exact .bind (i1 _ _) λx h1=>.of
 |mt m o a i1 i2=>
  intro ρ h;simp only[ev];refine .bind (i1 _ _) λx h1=>?_;split;refine .bind (i2 _ _) λy h2=>?_;split<;>first|exact BN|exact .no
  exact .no
 |lc k a t ow ix c e i1 i2 i3=>
  intro ρ h;simp only[ev];refine .bind (i1 _ _) λx h1=>.bind (nX i2 i3 _ _ _ _ _) λys h2=>?_;split;exact .new;exact .no
 |tW k a t ow ix c k2 a2 t2 c2 e i1 i2 i3 i4 i5=>
  intro ρ h;simp only[ev];refine .bind (i1 _ _) λx h1=>.bind (IC i2 (λρ h acc=>.bind (i3 _ _) λy h2=>IB i4 i5 _ _ _ _ _) _ _ _ _ _) λys h2=>?_;split;exact .new;exact .no
theorem EG(hcl:∀f ws h,Gr (cl f ws h) h):∀(s:S) (ρ:En) (h:VH),Gr (exs cl s ρ h) h:=by
 have ge:=BO hcl;intro s;induction s with
 |skip=>intro ρ h;exact .ok
 |seq a b i1 i2=>intro ρ h;simp only[exs];refine .bind (i1 _ _) λfl h1=>?_;split<;>first|exact i2 _ _|exact .ok
 |set i e=>intro ρ h;simp only[exs];exact .bind (ge _ _ _) λw h1=>.ok
 |vN is e=>intro ρ h;simp only[exs];exact .bind (ge _ _ _) λw h1=>.of
 |aug i o e=>
  intro ρ h;simp only[exs];split;exact .bind (ge _ _ _) λy h1=>.bind BK λz h2=>.ok;exact .no
 |put o i v=>
  intro ρ h;simp only[exs];refine .bind (ge _ _ _) λw h1=>.bind (ge _ _ _) λx h2=>.bind (ge _ _ _) λy h3=>?_;split;split;split;rename_i g _ _ _;exact .set g;exact .no;unfold qZ;split;split;rename_i g _;exact .set g;exact .no;exact .no;exact .no
 |ite c a b i1 i2=>
  intro ρ h;simp only[exs];refine .bind (ge _ _ _) λx h1=>?_;split;exact i1 _ _;exact i2 _ _;exact .no
 |ret e=>intro ρ h;simp only[exs];exact .bind (ge _ _ _) λw h1=>.ok
 |expr e=>intro ρ h;simp only[exs];exact .bind (ge _ _ _) λw h1=>.ok
 |brk=>intro ρ h;exact .ok
 |cnt=>intro ρ h;exact .ok
 | «for» k a t b i1=>intro ρ h;simp only[exs];exact .bind (ge _ _ _) λx h1=>ID i1 _ _ _ _
 |Ey c b i1=>intro ρ h;simp only[exs];exact IE (ge c) i1 _ _ _
 |no=>intro ρ h;exact .no
end
theorem EH(F:Nat->Option Fn):∀(k f:Nat) (ws:List W) (h:VH),Gr (run F k f ws h) h
 |0,_,_,_=>.no
 |k+1,f,ws,h=>by
  intro a h' e;simp only[run]at e;split at e;rename_i fn hf;split at e;rename_i hl;generalize hr:exs (run F k) fn.body (ws.map aB++bD (fn.n-fn.ps) aC) ⟨h.n,h.n,h.os⟩=r at e;have g:=EG (EH F k) fn.body (ws.map aB++bD (fn.n-fn.ps) aC) ⟨h.n,h.n,h.os⟩;rw[hr]at g;have lv:∀w h1,fG ⟨h.n,h.n,h.os⟩ h1->leave h w h1=.ok a h'->fG h h':=by
   intro w h1 g1 e1;unfold leave at e1;split at e1;cases e1;exact .refl;cases e1;refine⟨g1.1,?_,λi hi hlo=>?_⟩;show(if Nat.ble h.lo h1.lo then h.lo else h1.lo)<=h.lo;split;exact aR _;rename_i q;exact Nat.le_of_not_le λz=>q (oZ.mpr z);have hlo:i< (if Nat.ble h.lo h1.lo then h.lo else h1.lo):=hlo;have hh:i<h1.lo:=by split at hlo;rename_i q;exact ek hlo (jf q);exact hlo
   exact g1.2.2 i hi hh
  cases r with
  |no=>cases e
  |ex _ _=>cases e
  |ok fl h1=>
   have g1:=g fl h1 rfl;simp only[Res.bind]at e;split at e;exact lv _ _ g1 e;exact lv _ _ g1 e;cases e
  cases e;cases e
end RF
namespace HT
open PySem PySem.Spec PyProof.Rows
theorem nY{prog:ai}{w:aj}{A:ak}{E:aa->af->Prop}{s:af}{t b:ah}{vs ws:List aa}{Q:aa->af->Prop}(ht:IsTup s.heap t vs.toArray)(hb:IsTup s.heap b ws.toArray)(hv:vs≠[])
 (h1:ws=[]->Q (.ref t) s) (h2:ws≠[]->Q (.ref s.heap.objs.size) {s with heap:=s.heap.push {cls:=.type "tuple",data:=.seq (vs++ws).toArray}})
 (hsz:vs.length+ws.length<=sizeLine):wpAny (model prog w) A (inplaceOp .Add (.ref t) (.ref b)) Q E s:=by
 obtain⟨⟨cls,dd,data,sl⟩,ho,hc,n,hd⟩:=id ht;obtain⟨⟨GI,dd2,data2,sl2⟩,ho2,hc2,n2,hd2⟩:=id hb;simp only at hc hd hc2 hd2;subst hc hd hc2 hd2;have e:vs.toArray++ws.toArray=(vs++ws).toArray:=by simp
 have hno:typeLookup (.type "tuple") (dunderI "add")=pure aC:=by rfl
 by_cases hw:ws=[]
 exact wpAny_inplaceOp_concat ⟨_,ho,rfl⟩ ⟨_,ho2,rfl⟩ hno yJ yK (pV zk ⟨_,ho,rfl⟩ zh (zg _ _)
  (tuple_addW1 t b vs.toArray ws.toArray n n2 dd dd2 sl sl2 (by simpa using hv) (by simp[hw])) ⟨ho,ho2,h1 hw⟩)
 refine wpAny_inplaceOp_concat ⟨_,ho,rfl⟩ ⟨_,ho2,rfl⟩ hno yJ yK (pV zk ⟨_,ho,rfl⟩ zh (zg _ _)
  (tuple_addW2 t b vs.toArray ws.toArray n n2 dd dd2 sl sl2 (by simpa using hv) (by simpa using hw) (by rw[cQ,cQ];exact hsz)) ⟨ho,ho2,?_⟩)
 rw[e];exact h2 hw
end HT
namespace L2
open PySem PySem.Spec PyProof.Rows
variable{X:Cx}
theorem Xk:xZ X .Add (kI X.K):=by intro pins s σ H x y v u Q I rx ry h;obtain⟨a,b,xs,ys,rfl,rfl,ha,hb,hx,hz,q1,q2⟩:=h;cases rx;cases ry;obtain⟨its,r1,p1,_⟩:=I.tuple ha;obtain⟨its2,r2,p2,_⟩:=I.tuple hb;refine HT.nY p1 p2 (λz=>hx (r1.eU.mp z)) (λz=>⟨.ref a,H,I,rfl,q1 (r2.eU.mp z)⟩) (λz=>?_) (by rw[<-r1.length,<-r2.length];exact hz);refine⟨.ref s.heap.objs.size,_,I.laid (t':=s.toks) (o:=.tup (xs++ys)) (λb ob q=>cA _ q) (aR _) ?_,rfl,q2 (λw=>z (r2.eU.mpr w)) _ (I.hok.fresh (aR _))⟩;exact⟨by rw[eF];exact hz,_,r1.append r2,j0.new _ _⟩
end L2
namespace RF
open PySem PySem.Spec PyProof.Rows L2
noncomputable def vY(K:aH)(m:Nat->ah)(n:Nat)(H:Hp)(D:Ends):Fl->Prop|.nx ρ=>∀σ,Fr K m n H σ ρ->D.nx σ H|.bk ρ=>∀σ,Fr K m n H σ ρ->D.bk σ H|.ct ρ=>∀σ,Fr K m n H σ ρ->D.ct σ H|.rt w=>∀v,aI K m n H v w->D.rt v H
noncomputable def i8(K:aH)(f:FS):TS:=λD σ H=>∃ρ h m fl h',Fr K m h.n H σ ρ/\Rel K m h H/\f ρ h=.ok fl h'/\∀H' m',bQ m h.n H m' h'.n H'->Rel K m' h' H'->vY K m' h'.n H' D fl
theorem i8.el{K:aH}{D:Ends}{σ:L2.St}{H:Hp}{P:Prop}{fa:FS}(q:i8 K fa D σ H)(k:∀ρ h m fl h',Fr K m h.n H σ ρ->Rel K m h H->fa ρ h=.ok fl h'->(∀H' m',bQ m h.n H m' h'.n H'->Rel K m' h' H'->vY K m' h'.n H' D fl)->P):P:=by obtain⟨ρ,h,m,w,h',f,r,e,k'⟩:=q;exact k ρ h m w h' f r e k'
theorem i8.mk{K:aH}{D:Ends}{σ:L2.St}{H:Hp}{m:Nat->ah}{ρ:En}{h h':VH}{fl:Fl}{fa:FS}(f:Fr K m h.n H σ ρ)(r:Rel K m h H)(e:fa ρ h=.ok fl h')(k:∀H' m',bQ m h.n H m' h'.n H'->Rel K m' h' H'->vY K m' h'.n H' D fl):i8 K fa D σ H:=⟨ρ,h,m,fl,h',f,r,e,k⟩
noncomputable abbrev SS(X:Cx)(st:aq)(f:FS):Prop:=PS X st (i8 X.K f)
noncomputable abbrev rz(X:Cx)(st:List aq)(f:FS):Prop:=jN X st (i8 X.K f)
section
variable{X:Cx}{a b c e o:ao}{es:List ao}{fa fb fc fo fr:FE}{pos p:Pos}{x:Str}{st:aq}{sts:List aq}{ga gb:FS}
noncomputable abbrev tZ:FS:=λρ h=>.ok (.nx ρ) h
noncomputable abbrev IF(ga gb:FS):FS:=λρ h=>(ga ρ h).bind λfl h=>match fl with|.nx ρ=>gb ρ h|fl=>.ok fl h
theorem Xl:rz X [] tZ:=R0.imp λD σ H z9=>z9.el λρ h m fl h' f r e k=>by cases e;exact k H m .refl r σ f
theorem Xm:SS X (.Pass pos) tZ:=R4.imp λD σ H z9=>z9.el λρ h m fl h' f r e k=>by cases e;exact k H m .refl r σ f
theorem Xn:SS X (.Break pos) (λρ h=>.ok (.bk ρ) h):=R5.imp λD σ H z9=>z9.el λρ h m fl h' f r e k=>by cases e;exact k H m .refl r σ f
theorem Xo:SS X (.Continue pos) (λρ h=>.ok (.ct ρ) h):=R6.imp λD σ H z9=>z9.el λρ h m fl h' f r e k=>by cases e;exact k H m .refl r σ f
theorem Xp(h1:SS X st ga)(h2:rz X sts gb):rz X (st::sts) (IF ga gb):=(R1 h1 h2).imp λD σ H z9=>z9.el λρ h m fl h' f r e k=>by
 refine bR e λXq h1 e1 e2=>?_;refine(.mk f r e1 λH1 m1 s1 r1=>?_);cases Xq with|nx gz=>exact λσ1 f1=>⟨gz,h1,m1,fl,h',f1,r1,e2,λH' m' s' r'=>k H' m' (s1.trans s') r'⟩|bk gz=>cases e2;exact k H1 m1 s1 r1|ct gz=>cases e2;exact k H1 m1 s1 r1|rt w=>cases e2;exact k H1 m1 s1 r1
theorem BP:SS X st (λ_ _=>.no):=Sb.imp λD σ H z9=>z9.el λρ h m fl h' f r e k=>by cases e
noncomputable def EJ:ao->Bool|.ListComp .. |.SetComp .. |.DictComp ..=>false|_=>true
theorem O4{e:ao}{t:Option ao}{l:Nat}{env:Env}(h:EJ e):swapsWith e t l env=pure false:=by cases e<;>first|rfl|cases h
theorem Xr(he:SE X e fa)(hs:EJ e):SS X (.Expr e pos) (λρ h=>(fa ρ h).bind λ_ h=>.ok (.nx ρ) h):=(R7 he (O4 hs)).imp λD σ H z9=>z9.el λρ h m fl h' f r e k=>by
 refine bR e λw h1 e1 e2=>?_;cases e2;exact(.mk f r e1 λv H1 m1 s1 r1 q1=>k H1 m1 s1 r1 σ (f.stp s1))
theorem Xs(he:SE X e fa):SS X (.Return (aB e) pos) (λρ h=>(fa ρ h).bind λw h=>.ok (.rt w) h):=(R8 he).imp λD σ H z9=>z9.el λρ h m fl h' f r e k=>by
 refine bR e λw h1 e1 e2=>?_;cases e2;exact(.mk f r e1 λv H1 m1 s1 r1 q1=>k H1 m1 s1 r1 v q1)
theorem Xu:SS X (.Return aC pos) (λρ h=>(Res.ok W.aL h).bind λw h=>.ok (.rt w) h):=R9.imp λD σ H z9=>z9.el λρ h m fl h' f r e k=>by
 cases e;exact k H m .refl r .aL .aL
noncomputable abbrev rA(i:Nat)(fa:FE):FS:=λρ h=>(fa ρ h).bind λw h=>.ok (.nx (ρ.set i (aB w))) h
theorem IG{K:aH}{i:Nat}{D:Ends}{σ:L2.St}{H:Hp}(q:i8 K (rA i fa) D σ H):fT K fa σ H λv H1=>gQ i v σ H1 D.nx:=by refine q.el λρ h m fl h' f r e k=>?_;refine bR e λw h1 e1 e2=>?_;cases e2;exact(.mk f r e1 λv H1 m1 s1 r1 q1=>k H1 m1 s1 r1 _ ((f.stp s1).set q1 i))
theorem O5{i:Nat}{pos':Pos}(hN:X.N.Nodup)(hi:X.N[i]?=aB x)(hx:Loc X.env.scope x)(hf:X.fn x=true\/X.env.scope.names.lookup x=aB .local)(he:SE X e fa)
 (hs:swapsWith e (aB (.Name x pos')) pos.line X.env=pure false):SS X (.Assign [.Name x pos'] e pos) (rA i fa):=(Si hN hi hx he hs hf).imp λD σ H q=>IG q
theorem Xv{i:Nat}{pos' lp:Pos}{ow fr:List Str}{ix:List Nat}{scope:ay}{tg iter elt:ao}{ifs:List ao}{kd:Kd}{t:Tg}{fe:FE}(hN:X.N.Nodup)(hi:X.N[i]?=aB x)(hx:Loc X.env.scope x)(hf:X.fn x=true\/X.env.scope.names.lookup x=aB .local)
 (S:aW X ow fr ix scope) (hc:X.calm) (hI:PI X tg iter (cC X.K kd fa)) (hg:∀C s₀ H₀ ex,PG (X.comp (ow++fr) scope C s₀ H₀ ex) tg (dh X.K t)) (ht:∀C s₀ H₀ ex,iH (X.comp (ow++fr) scope C s₀ H₀ ex) ifs (dD X.K fc))
 (he:∀C s₀ H₀ ex,PE (X.comp (ow++fr) scope C s₀ H₀ ex) elt (fT X.K fe)) (hsw:swapsWith (.ListComp elt [⟨tg,iter,ifs,0⟩] scope lp) (aB (.Name x pos')) pos.line X.env=pure true) (hs:∀x,foldedSetIterable iter X.env x=pure x) :
 SS X (.Assign [.Name x pos'] (.ListComp elt [⟨tg,iter,ifs,0⟩] scope lp) pos) (rA i (Iw kd fa t ow.length ix fc fe)):=
 (Us hN hi hx S hc hI hg ht he hsw hf hs).imp λD σ H q=>tY (IG q)
theorem BQ{lp:Pos}{ow fr:List Str}{ix:List Nat}{scope:ay}{tg iter elt:ao}{ifs:List ao}{kd:Kd}{t:Tg}{fe:FE}
 (S:aW X ow fr ix scope) (hc:X.calm) (hI:PI X tg iter (cC X.K kd fa)) (hg:∀C s₀ H₀ ex,PG (X.comp (ow++fr) scope C s₀ H₀ ex) tg (dh X.K t)) (ht:∀C s₀ H₀ ex,iH (X.comp (ow++fr) scope C s₀ H₀ ex) ifs (dD X.K fc))
 (he:∀C s₀ H₀ ex,PE (X.comp (ow++fr) scope C s₀ H₀ ex) elt (fT X.K fe)) (hs:∀x,foldedSetIterable iter X.env x=pure x) :
 SE X (.ListComp elt [⟨tg,iter,ifs,0⟩] scope lp) (Iw kd fa t ow.length ix fc fe):=(Aq S hc hI hg ht he hs).imp λσ H Q q=>tY q
theorem Xw{lp:Pos}{ow fr:List Str}{ix:List Nat}{scope:ay}{tg iter elt fX bw:ao}{ifs dg:List ao}{kd gX:Kd}{t t2:Tg}{fe mX mq:FE}
 (S:aW X ow fr ix scope) (hc:X.calm) (hI:PI X tg iter (cC X.K kd fa)) (hg:∀C s₀ H₀ ex,PG (X.comp (ow++fr) scope C s₀ H₀ ex) tg (dh X.K t)) (ht:∀C s₀ H₀ ex,iH (X.comp (ow++fr) scope C s₀ H₀ ex) ifs (dD X.K fc))
 (pL:∀C s₀ H₀ ex,PI (X.comp (ow++fr) scope C s₀ H₀ ex) fX bw (cC X.K gX mX)) (kj:∀C s₀ H₀ ex,PG (X.comp (ow++fr) scope C s₀ H₀ ex) fX (dh X.K t2)) (BI:∀C s₀ H₀ ex,iH (X.comp (ow++fr) scope C s₀ H₀ ex) dg (dD X.K mq))
 (he:∀C s₀ H₀ ex,PE (X.comp (ow++fr) scope C s₀ H₀ ex) elt (fT X.K fe)) (hs:∀x,foldedSetIterable iter X.env x=pure x) (hs2:∀C s₀ H₀ ex x,foldedSetIterable bw (X.comp (ow++fr) scope C s₀ H₀ ex).env x=pure x) :
 SE X (.ListComp elt [⟨tg,iter,ifs,0⟩,⟨fX,bw,dg,0⟩] scope lp) (vX kd fa t ow.length ix fc gX mX t2 mq fe):=
 (AB NJ rfl S hc hI hg ht (λC s₀ H₀ ex D=>NI (X:=X.comp (ow++fr) scope C s₀ H₀ ex) hc rfl (pL C s₀ H₀ ex) (kj C s₀ H₀ ex) (BI C s₀ H₀ ex) (he C s₀ H₀ ex) (hs2 C s₀ H₀ ex) D) hs).imp λσ H Q q=>OX q
theorem Xx{i:Nat}{pos' lp:Pos}{ow fr:List Str}{ix:List Nat}{scope:ay}{tg iter elt fX bw:ao}{ifs dg:List ao}{kd gX:Kd}{t t2:Tg}{fe mX mq:FE}(hN:X.N.Nodup)(hi:X.N[i]?=aB x)(hx:Loc X.env.scope x)(hf:X.fn x=true\/X.env.scope.names.lookup x=aB .local)
 (S:aW X ow fr ix scope) (hc:X.calm) (hI:PI X tg iter (cC X.K kd fa)) (hg:∀C s₀ H₀ ex,PG (X.comp (ow++fr) scope C s₀ H₀ ex) tg (dh X.K t)) (ht:∀C s₀ H₀ ex,iH (X.comp (ow++fr) scope C s₀ H₀ ex) ifs (dD X.K fc))
 (pL:∀C s₀ H₀ ex,PI (X.comp (ow++fr) scope C s₀ H₀ ex) fX bw (cC X.K gX mX)) (kj:∀C s₀ H₀ ex,PG (X.comp (ow++fr) scope C s₀ H₀ ex) fX (dh X.K t2)) (BI:∀C s₀ H₀ ex,iH (X.comp (ow++fr) scope C s₀ H₀ ex) dg (dD X.K mq))
 (he:∀C s₀ H₀ ex,PE (X.comp (ow++fr) scope C s₀ H₀ ex) elt (fT X.K fe)) (hsw:swapsWith (.ListComp elt [⟨tg,iter,ifs,0⟩,⟨fX,bw,dg,0⟩] scope lp) (aB (.Name x pos')) pos.line X.env=pure true) (hs:∀x,foldedSetIterable iter X.env x=pure x) (hs2:∀C s₀ H₀ ex x,foldedSetIterable bw (X.comp (ow++fr) scope C s₀ H₀ ex).env x=pure x) :
 SS X (.Assign [.Name x pos'] (.ListComp elt [⟨tg,iter,ifs,0⟩,⟨fX,bw,dg,0⟩] scope lp) pos) (rA i (vX kd fa t ow.length ix fc gX mX t2 mq fe)):=
 (UO NJ (λ_=>rfl) hN hi hx S hc hI hg ht (λC s₀ H₀ ex D=>NI (X:=X.comp (ow++fr) scope C s₀ H₀ ex) hc rfl (pL C s₀ H₀ ex) (kj C s₀ H₀ ex) (BI C s₀ H₀ ex) (he C s₀ H₀ ex) (hs2 C s₀ H₀ ex) D) hsw hf hs).imp λD σ H q=>OX (IG q)
noncomputable def nZ:ao->Bool|.Tuple ..=>false|_=>true
theorem Xy{es:List ao}{k:Nat}{e:ao}{l:Nat}{p:Pos}{env:Env}:swapsWithSole [.Tuple es k p] e l env=pure false:=by cases e<;>rfl
theorem Xz{es:List ao}{k:Nat}{p:Pos}{e:ao}{env:Env}(h:nZ e):swappedStores [.Tuple es k p] e env=pure aC:=by cases e<;>first|rfl|cases h
theorem XA{is:List Nat}{k:Nat}(hc:X.calm)(hN:X.N.Nodup)(hs:Paired (nV X) es is)(he:SE X e fa)(ht:nZ e) :
 SS X (.Assign [.Tuple es k p] e pos) (λρ h=>(fa ρ h).bind λw h=>.of ((aX (.many is) w h ρ).map .nx) h):=(MB he (OT hc hN hs) Xy (Xz ht) rfl).imp λD σ H z9=>z9.el λρ h m fl h' f r e k=>by
 refine bR e λw h1 e1 e2=>?_;obtain⟨e2,e3⟩:=of_ok e2;subst e3;cases z:aX (.many is) w h' ρ with
 |none=>rw[z]at e2;cases e2
 |some ρ'=>
  rw[z]at e2;cases e2;exact(.mk f r e1 λv H1 m1 s1 r1 q1=>(.mk (f.stp s1) r1 q1 z λσ' f'=>k H1 m1 s1 r1 σ' f'))
noncomputable def BR:ao->Bool|.Slice ..=>false|_=>true
theorem XC{o i:ao}{p:Pos}{env:Env}(h:BR i)(v:aa):assign (.Subscript o i p) env v=(do
 let ov <-holding [v] (eval o env);let iv <-holding [v,ov] (eval i env)
 standAt p
 holding [v,ov,iv] (setItem ov iv v)
 release [v,ov,iv] []):=by
 cases i<;>first|rfl|cases h
noncomputable abbrev II(fo fi fv:FE):FS:=λρ h=>(fv ρ h).bind λw h=>(fo ρ h).bind λx h=>(fi ρ h).bind λy h=>match x,y with
 |.ref a,.int j=>(match h.get a with
  |some (.lst ws)=>(match L2.iA ws.length j with
   |some k=>.ok (.nx ρ) (h.set a (.lst (ws.set k w)))
   |none=>.no)
  |_=>qZ ρ a j w h)
 |_,_=>.no
theorem XD{o i e:ao}{l:Nat}{p:Pos}{env:Env}:swapsWithSole [.Subscript o i p] e l env=pure false:=by cases e<;>rfl
theorem XE{o i e:ao}{p:Pos}{env:Env}:swappedStores [.Subscript o i p] e env=pure aC:=by cases e<;>rfl
theorem XF{X:Cx}{t t':V->V->V->Hp->(Hp->Prop)->Prop}(h:lN X t)(h':lN X t'):lN X (λo i v H Q=>t o i v H Q\/t' o i v H Q):=by
 intro pins s σ H o i v ov iv u Q I ro ri rv q;rcases q with q|q
 exact h pins s σ H o i v ov iv u Q I ro ri rv q;exact h' pins s σ H o i v ov iv u Q I ro ri rv q
noncomputable def BS:V->V->V->Hp->(Hp->Prop)->Prop:=λo i v H Q=>∃a kvs j,o=.ref a/\i=.int j/\H a=aB (.dK kvs)/\kvs.length<sizeLine/\Q (upd H a (.dK (putK kvs (.inl j) v)))
theorem XG(hu:X.A.units+2<cLine):lN X BS:=by intro pins s σ H o i v ov iv u Q I ro ri rv h;obtain⟨a,kvs,j,rfl,rfl,e,hl,q⟩:=h;cases ro;exact UD (yN hu) I (qz.k (k:=.inl j) e hl) ri rv λs' I'=>⟨_,I',q⟩
theorem XH(hu:X.A.units+2<cLine)(ho:SE X o fo)(hi:SE X a fa)(hv:SE X e fb)(hs:BR a):SS X (.Assign [.Subscript o a p] e pos) (II fo fa fb):=
 (MB hv (Sh ho hi (XF TU (XG hu)) (XC hs)) XD XE rfl).imp λD σ H z9=>z9.el λρ h m fl h' f r e k=>by
   refine bR e λw h1 e1 e2=>?_;refine bR e2 λx h2 e3 e4=>?_;refine bR e4 λy h3 e5 e6=>?_;refine(.mk f r e1 λv H1 m1 s1 r1 q1=>(.mk (f.stp s1) r1 e3 λvo H2 m2 s2 r2 q2=>(.mk ((f.stp s1).stp s2) r2 e5 λvi H3 m3 s3 r3 q3=>?_)));split at e6;rename_i l j;split at e6;rename_i ws g;split at e6;rename_i kk hk;cases e6;cases q3;have ye:=q2.stp s3;cases ye;obtain⟨vs,p1,p2⟩:=r3.lst g;refine .inl ⟨m3 l,vs,j,kk,rfl,rfl,p1,by rw[p2.length];exact hk,?_⟩;have qv:=((q1.stp s2).stp s3)
   obtain⟨st,r'⟩:=r3.write (i:=l) (o:=.lst (ws.set kk w)) (u:=.lst (vs.set kk v)) (cR g) p1 (λ_ z=>nomatch z) (λ_ _ z=>nomatch z) λst=>⟨_,iu,aE.set (qv.stp st) kk (p2.stp st)⟩
   exact k _ m3 (((s1.trans s2).trans s3).trans st) r' σ ((((f.stp s1).stp s2).stp s3).stp st);cases e6;unfold qZ at e6;split at e6;rename_i kvs g;split at e6;rename_i hb;cases e6;cases q3;have ye:=q2.stp s3;cases ye;obtain⟨vs,p1,p2⟩:=r3.dm g;have hlt:vs.length<sizeLine:=by rw[p2.length,yL];exact gx.mp hb
   refine .inr ⟨m3 l,vs,j,rfl,rfl,p1,hlt,?_⟩;have qv:=((q1.stp s2).stp s3)
   obtain⟨st,r'⟩:=r3.write (i:=l) (o:=.dm (jz kvs (.inl j) w)) (u:=.dK (putK vs (.inl j) v)) (cR g) p1 (λ_ z=>nomatch z) (λ_ _ z=>nomatch z) λst=>⟨_,iu,aM.put (qv.stp st) _ (p2.stp st)⟩
   exact k _ m3 (((s1.trans s2).trans s3).trans st) r' σ ((((f.stp s1).stp s2).stp s3).stp st);cases e6;cases e6;cases e6
theorem XI{M:Model}{A:ak}{E:aa->af->Prop}{s:af}{a b:aa}{T id:String}{Q:aa->af->Prop}(ha:s.TypeIs a T)(hb:s.TypeIs b T)
 (hI:typeLookup (.type T) (dunderI "add")=pure (aB (.builtin id))) (hq:isSeqSlot (aB (.builtin id))) (hfill:fillsNumberSlot (.type T) "add" = pure false) (hc:wpAny M A (call (.builtin id) [a,b]) Q E s):wpAny M A (inplaceOp .Add a b) Q E s:=by
 unfold inplaceOp;refine mZ ?_;have h1:fillsInplaceSlot (.type T) "add" (Operator.Add == .Add)=pure false:=by unfold fillsInplaceSlot;show(typeLookup (.type T) (dunderI "add") >>= λfi=>pure (fi.isSome && !isSeqSlot fi))=_;rw[hI,qe,hq];rfl
 have h2:seqSlot? (.type T) (dunderI "add")=pure (aB (.builtin id)):=by unfold seqSlot?;rw[hI,qe,hq];rfl
 refine aJ (C9 ha (aJ (wpAny_of_eq h1 ?_)));show wpAny M A (if false=true then _ else _) Q E s;rw[if_neg yP];refine aJ (binaryOp1_none (nm:="add") ha hb hfill ?_);refine aJ (wpAny_of_eq h2 ?_);exact aJ (jW hc)
noncomputable def t6:R2:=λx y H Q=>∃l b xs zs,x=.ref l/\y=.ref b/\H l=aB (.lst xs)/\H b=aB (.lst zs)/\xs.length+zs.length<=sizeLine/\Q (.ref l) (upd H l (.lst (xs++zs)))
theorem XJ:xZ X .Add t6:=by
 intro pins s σ H x y v u Q I rx ry h;obtain⟨l,b,xs,zs,rfl,rfl,hH,hB,hz,q⟩:=h;cases rx;cases ry;obtain⟨z,its,n,r,hl,e⟩:=I.fy hH;obtain⟨z2,its2,n2,r2,hl2,e2⟩:=I.fy hB;have hsz:its.toArray.size+its2.toArray.size<=sizeLine:=by rw[cQ,cQ];lia
 have ny:¬(!its.toArray.isEmpty&&Builtin.List.listTooLong (its.toArray.size+its2.toArray.size))=true:=by rw[M3 hsz,Bool.and_false];exact yP
 refine XI (T:="list") (id:="list.__iadd__") ⟨_,e,rfl⟩ ⟨_,e2,rfl⟩ PySem.F.slot_list_iadd.lookup (by decide +kernel) noFill_list_add ?_;refine pV PySem.F.slot_list_iadd ⟨_,e,rfl⟩ PySem.F.entry_list_iadd (PySem.F.args_list_iadd_2 _ _)
  (AutoSeq1.list___iadd___list_list_0 l its.toArray n b its2.toArray n2 ny (by rw[cQ];lia) (by lia)) ⟨e,e2,?_⟩
 refine⟨.ref l,_,I.vn (its':=its++its2) hH e (by simp) (r.append r2) ?_,rfl,q⟩;rw[eF];lia
noncomputable def rD:Operator->Option Op|.Add=>aB .add|.Sub=>aB .sub|.Mult=>aB .mul|.FloorDiv=>aB .fdiv|_=>aC
noncomputable def O6(K:aH):Op->R2|.mul=>rI lQ λi j=>.int (i*j)|.fdiv=>rI qo λi j=>.int (i/j)|.add=>λx y H Q=>DB (λi j=>i+j) x y H Q\/t6 x y H Q\/kI K x y H Q|.sub=>DB λi j=>i-j|_=>λ_ _ _ _=>False
theorem BU{O:Operator}{o:Op}(e:rD O=aB o):xZ X O (O6 X.K o):=by
 cases O<;>cases e;intro pins s σ H x y v u Q I rx ry q;rcases q with q|q|q
 exact Sk pins s σ H x y v u Q I rx ry q;exact XJ pins s σ H x y v u Q I rx ry q;exact Xk pins s σ H x y v u Q I rx ry q;exact Sl;exact SO;exact SQ
theorem XM{K:aH}{O:Operator}{o:Op}(e:rD O=aB o):Bl K (O6 K o) (yf o):=by
 intro m h H v u x y w h' Q r qv qu e2 k;unfold yf at e2;split at e2;rename_i i j;cases qv;cases qu;split at e2;cases e2;exact .inl ⟨i,j,rfl,rfl,aK.here k r (.int _)⟩;cases e2;exact⟨i,j,rfl,rfl,aK.here k r (.int _)⟩;obtain⟨e2,rfl⟩:=of_ok e2;cases z:dR .mul i j with
 |none=>rw[z]at e2;cases e2
 |some t=>
  rw[z]at e2;cases e2;obtain⟨c1,rfl⟩:=Ii z;exact⟨i,j,rfl,rfl,c1,aK.here k r (.int _)⟩
 obtain⟨e2,rfl⟩:=of_ok e2;cases z:dR .fdiv i j with
 |none=>rw[z]at e2;cases e2
 |some t=>
  rw[z]at e2;cases e2;obtain⟨c1,rfl⟩:=Ii z;exact⟨i,j,rfl,rfl,c1,aK.here k r (.int _)⟩
 cases e2;rename_i i j;split at e2;rename_i xs ys g1 g2;split at e2;rename_i hz;cases e2;cases qv;cases qu;obtain⟨vs,p1,p2⟩:=r.lst g1;obtain⟨us,p3,p4⟩:=r.lst g2;refine .inr (.inl ⟨m i,m j,vs,us,rfl,rfl,p1,p3,by rw[p2.length,p4.length];exact jf hz,?_⟩);obtain⟨st,r'⟩:=r.write (i:=i) (o:=.lst (xs++ys)) (u:=.lst (vs++us)) (cR g1) p1 (λ_ z=>nomatch z) (λ_ _ z=>nomatch z) λst=>⟨_,iu,(p2.stp st).append (p4.stp st)⟩
 exact k _ _ m st r' (.ref (show i<h.n from cR g1));cases e2;cases e2;rename_i x xs ys;split at e2;split at e2;rename_i hz;cases e2;cases qv with
 |tup qa ra=>
  cases qu with
  |tup qb rb=>
   rename_i a va b vb;refine .inr (.inr ⟨a,b,va,vb,rfl,rfl,qa,qb,λz=>?_,by rw[ra.length,rb.length];exact jf hz,λz=>?_,λ_ p hp=>aK.tuple k r (ra.append rb) hp⟩);subst z;cases ra;subst z;cases rb;rw[kE]at k;exact aK.here k r (.tup qa ra)
 cases e2;cases e2;cases e2
noncomputable abbrev vZ(i:Nat)(o:Op)(fa:FE):FS:=λρ h=>match(ρ[i]?).join with|some x=>(fa ρ h).bind λy h=>(yf o x y h).bind λz h=>.ok (.nx (ρ.set i (aB z))) h|none=>.no
theorem XN{i:Nat}{pos':Pos}{O:Operator}{o:Op}(eo:rD O=aB o)(hN:X.N.Nodup)(hi:X.N[i]?=aB x)(hx:Loc X.env.scope x)(hf:X.fn x=true\/X.env.scope.names.lookup x=aB .local)(he:SE X e fa) :
 SS X (.AugAssign (.Name x pos') O e pos) (vZ i o fa):=(Sj hN hi hx he (BU eo) hf).imp λD σ H z9=>z9.el λρ h m fl h' f r e k=>by
 have e:vZ i o fa ρ h=.ok fl h':=e;simp only[vZ]at e;cases z:(ρ[i]?).join with
 |none=>rw[z]at e;cases e
 |some x=>
  rw[z]at e;simp only at e;refine bR e λy h1 e1 e2=>?_;refine bR e2 λw h2 e3 e4=>?_;cases e4;have e5:ρ[i]?=aB (aB x):=by
   cases q:ρ[i]? with|none=>rw[q]at z;cases z|some o=>rw[q]at z;rw[<-z];rfl
  obtain⟨v,p1,p2⟩:=f.val i x e5;refine⟨v,p1,ρ,h,m,y,h1,f,r,e1,λu H1 m1 s1 r1 q1=>XM eo m1 h1 H1 v u x y w h' _ r1 (p2.stp s1) q1 e3 λv' H' m' s' r' q'=>?_⟩;exact k H' m' (s1.trans s') r' _ (((f.stp s1).stp s').set q' i)
noncomputable abbrev XO(fc:FE)(ga gb:FS):FS:=λρ h=>(fc ρ h).bind λx h=>match x with|.bl true=>ga ρ h|.bl false=>gb ρ h|_=>.no
variable{sa sb:List aq}
theorem XQ(hc:ST X c fc)(ha:rz X sa ga)(hb:rz X sb gb):SS X (.If c sa sb pos) (XO fc ga gb):=(zI hc ha hb).imp λD σ H z9=>z9.el λρ h m fl h' f r e k=>by
 refine bR e λx h1 e1 e2=>?_;cases x<;>try cases e2
 rename_i c;refine(.mk f r e1 λH1 m1 s1 r1=>?_);cases c with|true=>rw[if_pos rfl];exact(.mk (f.stp s1) r1 e2 λH' m' s' r'=>k H' m' (s1.trans s') r')|false=>simp only[dO,di];exact(.mk (f.stp s1) r1 e2 λH' m' s' r'=>k H' m' (s1.trans s') r')
theorem XR{nx:Nat->VH->Option (Option W)}{tg:W->VH->En->Option En}{g:FS}{f i:Nat}{ρ:En}{h:VH}{fl:Fl}{h':VH}(q:dB nx tg g (f+1) i ρ h=.ok fl h'):∃o,nx i h=aB o:=by simp only[dB]at q;split at q;cases q;exact⟨_,by assumption⟩;exact⟨_,by assumption⟩
noncomputable abbrev BV(kd:Kd)(fa:FE)(t:Tg)(g:FS):FS:=λρ h=>(fa ρ h).bind λx h=>dB (aZ kd x) (aX t) g fuel 0 ρ h
theorem XS{K:aH}{kd:Kd}{t:Tg}{D:Ends}{σ:L2.St}{H:Hp}(q:i8 K (BV kd fa t ga) D σ H):zO (cC K kd fa) (dh K t) (i8 K ga) D σ H:=by
 refine q.el λρ h m fl h' f r e k=>?_;refine bR e λx h1 e1 e2=>?_;refine(.mk f r e1 (XR (f:=999999) e2) λJ P H1 m1 s1 r1 J1 p1=>?_);refine⟨λi fu σ' H'=>∃ρ' h3 m3,dB (aZ kd x) (aX t) ga fu i ρ' h3=.ok fl h'/\Fr K m3 h3.n H' σ' ρ'/\Rel K m3 h3 H'/\bQ m1 h1.n H1 m3 h3.n H'/\P m3 h3.n H',⟨fuel,ρ,h1,m1,e2,f.stp s1,r1,.refl,p1⟩,?_⟩;rintro i fu σ' H' ⟨ρ',h3,m3,e3,f3,r3,s3,p3⟩;cases fu with
 |zero=>cases e3
 |succ fu=>
  simp only[dB]at e3;obtain⟨j1,j2⟩:=J1.2 m3 h3 H' r3 p3 i;split at e3;cases e3;rename_i hn;cases e3;exact .inl ⟨j2 hn,k H' m3 (s1.trans s3) r3 σ' f3⟩;rename_i w hn;obtain⟨j3,j4⟩:=j1 w hn;split at e3;cases e3;rename_i O7 ht;refine bR e3 λBW h5 e5 e6=>?_;refine .inr ⟨j3,λjd H6=>∃i9 m6,dB (aZ kd x) (aX t) ga fu (i+1) i9 h5=.ok fl h'/\Fr K m6 h5.n H6 jd i9/\Rel K m6 h5 H6/\bQ m1 h1.n H1 m6 h5.n H6/\P m6 h5.n H6,λjd H6 ⟨i9,m6,a1,a2,a3,a4,a5⟩=>⟨fu,iO _,i9,h5,m6,a1,a2,a3,a4,a5⟩,λy H4 hy=>?_⟩;obtain⟨s4,r4,q4⟩:=j4 y H4 hy;refine⟨ρ',h3,m3,w,O7,f3.stp s4,r4,q4,ht,λjP f5=>⟨O7,h3,m3,BW,h5,f5,r4,e5,λH6 m6 s6 r6=>?_⟩⟩;have p4:=J1.1 m3 h3.n H' m3 h3.n H4 (aR _) (λ_ _=>rfl) (λb vs q=>s4.tup b vs q) (λb o u q=>s4.bL b o u q) p3;have p6:=J1.1 m3 h3.n H4 m6 h5.n H6 s6.le s6.same (λb vs q=>s6.tup b vs q) (λb o u q=>s6.bL b o u q) p4;have rE:=(s3.trans s4).trans s6;cases BW with|nx i9=>exact λjd f6=>⟨i9,m6,e6,f6,r6,rE,p6⟩|ct i9=>exact λjd f6=>⟨i9,m6,e6,f6,r6,rE,p6⟩|bk i9=>cases e6;exact λjd f6=>k H6 m6 (s1.trans rE) r6 jd f6|rt w6=>cases e6;exact λv6 q6=>k H6 m6 (s1.trans rE) r6 v6 q6
theorem XT{kd:Kd}{t:Tg}{tg iter:ao}(hp:PassesOwn (model X.prog X.w) X.A X.env X.xe)(hc:X.calm)(hI:PI X tg iter (cC X.K kd fa))(hg:PG X tg (dh X.K t))(hb:rz X sa ga)(hs:∀x,foldedSetIterable iter X.env x=pure x) :
 SS X (.For tg iter sa [] pos) (BV kd fa t ga):=(Sz hp hc hI hg hb hs).imp λD σ H q=>XS q
theorem XU(hp:PassesOwn (model X.prog X.w) X.A X.env X.xe)(hc:ST X c fc)(hb:rz X sa ga):SS X (.While c sa [] pos) (λρ h=>fF fc ga fuel ρ h):=(Sn hp hc hb).imp λD σ H z9=>z9.el λρ h m fl h' f r e k=>by
 refine⟨λfu σ' H'=>∃ρ' h3 m3,fF fc ga fu ρ' h3=.ok fl h'/\Fr X.K m3 h3.n H' σ' ρ'/\Rel X.K m3 h3 H'/\bQ m h.n H m3 h3.n H',⟨fuel,ρ,h,m,e,f,r,.refl⟩,?_⟩;rintro fu σ' H' ⟨ρ',h3,m3,e3,f3,r3,s3⟩;cases fu with
 |zero=>cases e3
 |succ fu=>
  simp only[fF]at e3;refine bR e3 λx h4 e4 e5=>?_;cases x<;>try cases e5
  rename_i b;refine⟨ρ',h3,m3,b,h4,f3,r3,e4,λH4 m4 s4 r4=>?_⟩;cases b with
  |false=>cases e5;simp only[dO,di];exact k H4 m4 (s3.trans s4) r4 σ' (f3.stp s4)
  |true=>
   simp only[bX];refine bR e5 λBW h5 e6 e7=>?_;refine⟨λjd H6=>∃i9 m6,fF fc ga fu i9 h5=.ok fl h'/\Fr X.K m6 h5.n H6 jd i9/\Rel X.K m6 h5 H6/\bQ m h.n H m6 h5.n H6,λjd H6 ⟨i9,m6,a1,a2,a3,a4⟩=>⟨fu,iO _,i9,h5,m6,a1,a2,a3,a4⟩,?_⟩;refine⟨ρ',h4,m4,BW,h5,f3.stp s4,r4,e6,λH6 m6 s6 r6=>?_⟩;have rE:=(s3.trans s4).trans s6;cases BW with|nx i9=>exact λjd f6=>⟨i9,m6,e7,f6,r6,rE⟩|ct i9=>exact λjd f6=>⟨i9,m6,e7,f6,r6,rE⟩|bk i9=>cases e7;exact λjd f6=>k H6 m6 rE r6 jd f6|rt w6=>cases e7;exact λv6 q6=>k H6 m6 rE r6 v6 q6
end
theorem BX{n:Str}:∀{ps:List Str} {us:List aa},us.length=ps.length->n∈ps->((ps.zip us).lookup n).isSome=true
 |[],_,_,h=>by cases h
 |p::ps,[],hl,_=>by cases hl
 |p::ps,u::us,hl,h=>by
  rw[pe,fV];by_cases e:(n==p)=true;rw[e];rfl;have e':(n==p)=false:=by simpa using e
  rw[e'];refine BX (by simpa using hl) ?_;rcases fm.mp h with z|z
  rw[z]at e';simp at e';exact z
theorem XW{n:Str}{u:aa}{p:Str}{ps:List Str}{us:List aa}(h:n≠p):((p,u)::ps.zip us).lookup n=(ps.zip us).lookup n:=by
 rw[fV];have e':(n==p)=false:=by simpa using h
 rw[e']
theorem O8{α β:Type}{f g:α->Option β}:∀{l:List α},(∀a∈l,f a=g a)->l.filterMap f=l.filterMap g
 |[],_=>rfl
 |a::r,h=>by
  rw[xF,xF,h a dP,O8 λb hb=>h b (dj _ hb)]
theorem EK:∀{ps:List Str} {us:List aa},us.length=ps.length->ps.Nodup->ps.filterMap (λn=>((ps.zip us).lookup n).map (n,·))=ps.zip us
 |[],_,_,_=>rfl
 |p::ps,[],hl,_=>by cases hl
 |p::ps,u::us,hl,hn=>by
  obtain⟨h1,h2⟩:=xJ.mp hn;rw[pe,xF];have e:((p,u)::ps.zip us).lookup p=aB u:=by rw[fV];simp
  rw[e];simp only[mU];congr 1;have ih:=EK (ps:=ps) (us:=us) (by simpa using hl) h2;refine Eq.trans ?_ ih;exact O8 λn hn'=>by
   have hne:n≠p:=λz=>h1 (by rw[<-z];exact hn');rw[XW hne]
theorem O9{x qual:Str}{args:List Arg}{body:List aq}{sc:ay}{kV doc pm:aa}{an:Option ah}{cdv ct:aa}{us:List aa}{df:List ao}(hl:us.length=(args.map (·.arg)).length)(hn:(args.map (·.arg)).Nodup) :
 bindArgs (PySem.W.fnOf x qual ⟨[],args,aC,[],[],aC,df⟩ body sc .none kV doc pm an cdv ct) ⟨us,[]⟩=pure ((args.map (·.arg)).zip us):=by
 have hs:seqItems? Value.none=pure aC:=rfl;have hm:((args.map (·.arg)).filter λn=>(((args.map (·.arg)).zip us).lookup n).isNone)=[]:=by
  rw[List.filter_eq_nil_iff];intro n hn';have:=BX hl hn';cases q:((args.map (·.arg)).zip us).lookup n with|none=>rw[q]at this;cases this|some v=>simp
 unfold bindArgs;simp only[PySem.W.fnOf,tw,nc,kE,hs,qe];have hg:¬(us.length> (args.map (·.arg)).length):=by lia
 have h0:(#[]:Array aa).toList=[]:=rfl;simp only[Option.getD_none,h0,uR,qe,List.drop_nil,xK,Nat.sub_zero,y9,hm,List.isEmpty_nil,Bool.not_true,yZ,List.zip_nil_right,List.zip_nil_left,gF hg,xB,dO,di,EK hl hn]
theorem Pa{z:Str}:∀{qs:List Str} {us:List aa},us.length=qs.length->(qs++[z]).zip us=qs.zip us
 |[],[],_=>rfl
 |[],_::_,h=>by cases h
 |_::_,[],h=>by cases h
 |q::qs,u::us,h=>by
  rw[xG,pe,pe,Pa (by simpa using h)]
theorem IJ{z:Str}{v:aa}:∀{qs:List Str} {us:List aa},us.length=qs.length->(qs++[z]).zip (us++[v])=qs.zip us++[(z,v)]
 |[],[],_=>rfl
 |[],_::_,h=>by cases h
 |_::_,[],h=>by cases h
 |q::qs,u::us,h=>by
  rw[xG,xG,pe,pe,IJ (by simpa using h),xG]
theorem Pb{z:Str}:∀{qs:List Str} {us:List aa},z∉qs->(qs.zip us).lookup z=aC
 |[],_,_=>rfl
 |_::_,[],_=>rfl
 |q::qs,u::us,h=>by
  rw[pe,fV];have e':(z==q)=false:=by simpa using(λe=>h (by rw[e];exact dP))
  rw[e'];exact Pb λe=>h (dj _ e)
section
variable{x qual:Str}{args:List Arg}{df:List ao}{body:List aq}{sc:ay}{kV doc pm:aa}{an:Option ah}{cdv ct:aa}{t:ah}{o:Obj}{n:Nat}{s:af}{us:List aa}{qs:List Str}{z:Str}
theorem Pc(qs:List Str)(z:Str):List.drop ([Value.none].length- (qs++[z]).length) [Value.none]=[Value.none]:=by rw[eF,xC,xC,show 1- (qs.length+1)=0 by lia];rfl
theorem t7(qs:List Str)(z:Str):(qs++[z]).length - [Value.none].length=qs.length:=by simp
theorem XX(ha:args.map (·.arg)=qs++[z])(hn:(qs++[z]).Nodup)(ho:s.heap.get? t=aB o)(hd:o.data=.seq #[.none] n)(hl:us.length=(qs++[z]).length) :
 BindsTo s (PySem.W.fnOf x qual ⟨[],args,aC,[],[],aC,df⟩ body sc (.ref t) kV doc pm an cdv ct) ⟨us,[]⟩ ((qs++[z]).zip us):=by
 apply BindsTo.of_defaults (items:=#[.none]) (n:=n) rfl ho hd;unfold bindArgs;simp only[PySem.W.fnOf,tw,nc,kE,uR,qe,ha];rfl;have hm:(qs.filter λn=>(((qs++[z]).zip us).lookup n).isNone)=[]:=by
  rw[List.filter_eq_nil_iff];intro n hn';have:=BX (n:=n) hl (yT _ hn');cases q:((qs++[z]).zip us).lookup n with|none=>rw[q]at this;cases this|some v=>simp
 have hz:(((qs++[z]).zip us).lookup z).isNone=false:=by
  have:=BX (n:=z) hl (gK _ (mS.mpr rfl));cases q:((qs++[z]).zip us).lookup z with|none=>rw[q]at this;cases this|some v=>rfl
 have hg:¬(us.length> (qs++[z]).length):=by lia
 simp only[zf,Pc,t7,List.take_left',List.take_left,List.drop_left,List.drop_left',hm,gF hg,xB,dO,di,List.isEmpty_nil,Bool.not_true,pe,List.zip_nil_right,zd,uR,hz,qe,EK hl hn]
theorem XY(ha:args.map (·.arg)=qs++[z])(hn:(qs++[z]).Nodup)(ho:s.heap.get? t=aB o)(hd:o.data=.seq #[.none] n)(hl:us.length=qs.length) :
 BindsTo s (PySem.W.fnOf x qual ⟨[],args,aC,[],[],aC,df⟩ body sc (.ref t) kV doc pm an cdv ct) ⟨us,[]⟩ ((qs++[z]).zip (us++[.none])):=by
 apply BindsTo.of_defaults (items:=#[.none]) (n:=n) rfl ho hd;unfold bindArgs;simp only[PySem.W.fnOf,tw,nc,kE,uR,qe,ha];rfl;have hm:(qs.filter λn=>((qs.zip us).lookup n).isNone)=[]:=by
  rw[List.filter_eq_nil_iff];intro n hn';have:=BX (n:=n) hl hn';cases q:(qs.zip us).lookup n with|none=>rw[q]at this;cases this|some v=>simp
 have XZ:z∉qs:=λh=>(List.nodup_append.mp hn).2.2 z h z (mS.mpr rfl) rfl;have hz:((qs.zip us).lookup z).isNone=true:=by rw[Pb XZ];rfl
 have hg:¬(us.length> (qs++[z]).length):=by rw[eF];lia
 have hl2:(us++[Value.none]).length=(qs++[z]).length:=by rw[eF,eF,hl];rfl
 have ha2:=EK hl2 hn;rw[IJ hl]at ha2;simp only[zf,Pc,t7,Pa hl,IJ hl,List.take_left',List.take_left,List.drop_left,List.drop_left',hm,gF hg,xB,dO,di,List.isEmpty_nil,Bool.not_true,pe,List.zip_nil_right,zd,uR,hz,bX,qe,ha2]
end
structure n6(K:aH)(x qual:Str)(st:aq)(f:ah)(fd:au):Prop where
 ex:∃(oc:aa) (od:Option ah) (dV kV doc pm:aa) (an:Option ah) (cdv ct:aa) (osl:Array (Option aa)),fd=PySem.W.fnOf x qual (Uh st) (Al st) (iQ st) dV kV doc pm an cdv ct/\K.lookup f=aB ⟨oc,od,.func fd,osl⟩/\PySem.W.codeIn K cdv qual=true
 kp:PySem.W.keepIn K (.ref f)=true
theorem n6.ok{P:ai}{w:aj}{K:aH}{mg:Str->Option aa}{base:az}{x qual:Str}{st:aq}{f:ah}{fd:au}{N ps:List Str}{k:Nat}{sp:Sp}(F:n6 K x qual st f fd)(S:cY N ps (iQ st))(len:∀vs H Q E,sp vs H Q E->vs.length=ps.length)
 (hbody:∀(cdv:aa)(A:ak)(outer:List Env)(s:af)(H:Hp)(vs:List V)(Q:VK)(E:XK),cU k (A.deeper (envOfC qual (iQ st) s.heap.objs.size f cdv))->sp vs H Q E->∃t,jN (jm kJ P w K mg base N qual (iQ st) f cdv A outer s H E).xX (Al st) t/\t {nx:=λ_ H'=>Q .aL H',rt:=Q} (start N vs) H):fq P w K mg base kJ (k+1) f fd ps sp:=
 let⟨_,_,_,_,_,_,_,cdv,_,_,e,lk,hcd⟩:=F.ex
 by subst e;exact Aa lk hcd S len λA outer s H vs Q E hr pF=>let⟨t,h,q⟩:=hbody cdv A outer s H vs Q E hr pF;⟨t,h.xX,q⟩
section
variable{K:aH}{m m':Nat->ah}{n n':Nat}{h h':VH}{H H':Hp}
mutual
theorem aI.fH:∀{v:V} {w:W},aI K m n H v w->W.lt n w=true|_,_,.aL=>rfl|_,_,.bl _=>rfl|_,_,.int _=>rfl|_,_,.str _=>rfl|_,_,.tup _ r=>aE.fH r|_,_,.fz _ r=>aE.fH r|_,_,.ref q=>gx.mpr q
theorem aE.fH:∀{vs:List V} {ws:List W},aE K m n H vs ws->W.kX n ws=true
 |_,_,.nil=>rfl
 |_,_,.cons q r=>by
  show(W.lt n _&&W.kX n _)=true;rw[aI.fH q,aE.fH r];rfl
end
mutual
theorem aI.cut:∀{v:V} {w:W},aI K m n' H v w->W.lt n w=true->aI K m n H v w|_,_,.aL,_=>.aL|_,_,.bl b,_=>.bl b|_,_,.int b,_=>.int b|_,_,.str b,_=>.str b|_,_,.tup q r,e=>.tup q (aE.cut r e)|_,_,.fz q r,e=>.fz q (aE.cut r e)|_,_,.ref q,e=>.ref (gx.mp e)
theorem aE.cut:∀{vs:List V} {ws:List W},aE K m n' H vs ws->W.kX n ws=true->aE K m n H vs ws
 |_,_,.nil,_=>.nil
 |_,_,.cons q r,e=>by
  have e:(W.lt n _&&W.kX n _)=true:=e;rw[bE]at e;exact .cons (aI.cut q e.1) (aE.cut r e.2)
end
theorem aM.cut{m':Nat->ah}{n1:Nat}{H':Hp}:∀{vs us:List (Key×V)} {ws:List (Key×W)},aM K m n' H vs ws->aM K m' n H' us ws->aM K m n H vs ws|_,_,_,.nil,_=>.nil|_,_,_,.cons q r,.cons q2 r2=>.cons (q.cut q2.fH) (aM.cut (n1:=n1) r r2)
theorem Pd{lo:Nat}(r:Rel K m h H):Rel K m ⟨h.n,lo,h.os⟩ H:=⟨r.obj,r.inj,r.len⟩
theorem Pe{w w2:W}{h1 h2:VH}{v:V}{Q:VK}(r:Rel K m h H)(s:bQ m h.n H m' h1.n H')(r1:Rel K m' h1 H')(q:aI K m' h1.n H' v w)(g:fG ⟨h.n,h.n,h.os⟩ h1)(e:leave h w h1=.ok w2 h2)(k:aK K m h.n H w2 h2 Q):Q v H':=by
 unfold leave at e;split at e;rename_i hc;cases e;rw[bE]at hc;have hlo:=jf hc.1;refine k v H' m' ⟨aR _,s.same,λi a b=>absurd b (jh.mpr a),λi j a b=>absurd b (jh.mpr a),s.tup,s.bL,s.keep⟩ ⟨λi hi=>?_,λi j hi hj=>r1.inj i j (ek hi s.le) (ek hj s.le),r.len⟩ (q.cut hc.2);have hg:h1.get i=h.get i:=g.2.2 i hi (ek hi hlo);obtain⟨o,p1,p2⟩:=r1.obj i (ek hi s.le);rw[hg]at p1;refine⟨o,p1,?_⟩;have p3:=r.at_ p1;cases o with
 |lst ws=>
  obtain⟨vs,a1,a2⟩:=p2;obtain⟨us,b1,b2⟩:=p3;exact⟨vs,a1,a2.cut b2.fH⟩
 |dk ws=>
  obtain⟨vs,a1,a2⟩:=p2;obtain⟨us,b1,b2⟩:=p3;exact⟨vs,a1,aM.cut (n1:=0) a2 b2⟩
 |dm ws=>
  obtain⟨vs,a1,a2⟩:=p2;obtain⟨us,b1,b2⟩:=p3;exact⟨vs,a1,aM.cut (n1:=0) a2 b2⟩
 cases e;exact k v H' m' s (Pd r1) q
theorem X0{N:List Str}{vs:List V}{ws:List W}(q:aE K m n H vs ws):Fr K m n H (L2.start N vs) (ws.map aB++bD (N.length-ws.length) aC):=by
 unfold L2.start;refine⟨by simp[q.length],λi w e=>?_⟩;by_cases hi:i<ws.length;rw[pZ (by simpa using hi)]at e;rw[pZ (by simpa[q.length]using hi)];rw[jb]at e ⊢;cases z:ws[i]? with
 |none=>rw[z]at e;cases e
 |some w'=>
  rw[z]at e;cases e;obtain⟨v,h1,h2⟩:=q.get z;exact⟨v,by rw[h1];rfl,h2⟩
 rw[lI (by simpa using jh.mp hi)]at e;rw[List.getElem?_replicate]at e;split at e<;>cases e
end
theorem IK{F:Nat->Option Fn}{k idx:Nat}{ws:List W}{h h':VH}{w:W}{fn:Fn}(hF:F idx=aB fn)(e:run F k idx ws h=.ok w h'):ws.length=fn.ps:=by
 cases k with
 |zero=>cases e
 |succ k=>
  simp only[run,hF]at e;split at e;rename_i hl;exact yM hl;cases e
theorem Pf{P:ai}{w:aj}{K:aH}{mg:Str->Option aa}{base:az}{F:Nat->Option Fn}{k idx:Nat}{fn:Fn}{x qual:Str}{st:aq}{f:ah}{fd:au}{N ps:List Str}(hF:F idx=aB fn)(Fu:n6 K x qual st f fd)(S:cY N ps (iQ st))
 (hn:fn.n=N.length) (hp:fn.ps=ps.length)
 (hbody:∀(cdv:aa)(A:ak)(outer:List Env)(s:af)(H:Hp)(E:XK),cU k (A.deeper (envOfC qual (iQ st) s.heap.objs.size f cdv))->rz (jm kJ P w K mg base N qual (iQ st) f cdv A outer s H E).xX (Al st) (exs (run F k) fn.body)) :
 fq P w K mg base kJ (k+1) f fd ps (nU K ps.length (run F (k+1) idx)):=by
 refine Fu.ok S (λvs H Q E h=>h.1) λcdv A outer s H vs Q E hr pF=>?_;refine⟨_,hbody cdv A outer s H E hr,?_⟩;obtain⟨hl,h,m,ws,w2,h2,r,q,e,k2⟩:=pF;have hws:=IK hF e;simp only[run,hF]at e;split at e;refine bR e λfl h1 e1 e2=>?_;have g:=EG (EH F k) _ _ _ _ _ e1;have hN:fn.n-fn.ps=N.length-ws.length:=by rw[hn,hws]
 rw[hN]at e1;refine⟨_,⟨h.n,h.n,h.os⟩,m,fl,h1,X0 q,Pd r,e1,λH' m' s' r'=>?_⟩;cases fl with|nx ρ=>exact λσ' f'=>Pe r s' r' .aL g e2 k2|rt w3=>exact λv q3=>Pe r s' r' q3 g e2 k2|bk _=>cases e2|ct _=>cases e2
 cases e
theorem Pg{P:ai}{w:aj}{K:aH}{mg:Str->Option aa}{base:az}{F:Nat->Option Fn}{idx:Nat}{f:ah}{fd:au}{ps:List Str}:fq P w K mg base kJ 0 f fd ps (nU K ps.length (run F 0 idx)):=
 ⟨λvs H Q E h=>h.1,λA outer s H args us vs Q E hr he hb hv hs=>by obtain⟨_,h,m,ws,w2,h2,r,q,e,k2⟩:=hs;cases e⟩
noncomputable def fQ(K:aH)(x:Str):Option ah:=(match PySem.W.nsIn K mainGlobals x with|some (aB (.ref f))=>aB f|_=>aC)
theorem Ph{K:aH}{x:Str}{f:ah}(h:fQ K x=aB f):PySem.W.nsIn K mainGlobals x=aB (aB (.ref f)):=by unfold fQ at h;split at h;rename_i g e;cases h;exact e;cases h
end RF
namespace L2
open PySem PySem.Spec PyProof.Rows
theorem Pj{a:Int}:∀(acc:List aa) (k:Nat),(∀(j:Nat) v,acc[j]?=aB v->∃t,v=.int (a+ ((k+j:Nat):Int)) t)->Vals ((List.range' k acc.length).map λ(i:Nat)=>V.int (a+ (i:Int))) acc
 |[],k,_=>.nil
 |u::r,k,h=>by
  rw[cZ,List.range'_succ,dw];refine .cons ?_ (Pj r (k+1) λj v e=>?_);obtain⟨t,e⟩:=h 0 u rfl;exact⟨t,e⟩;obtain⟨t,e2⟩:=h (j+1) v (by rw[mR];exact e);exact⟨t,by rw[e2,show k+1+j=k+ (j+1) by lia]⟩
section
variable{X:Cx}
theorem X3{a:ao}{ta:TA}{p p2 pos pos2:Pos}(hc:X.calm)(hg:Gl X "list")(hm:X.mg "list" = aC)(kj:Gl X "range")(hm2:X.mg "range" = aC)(ha:PA X [a] ta)(hs:autoParam (starEach [a] X.env=[(false,eval a X.env)]) L2.aR1._auto_1) :
 PE X (.Call (.Name "list" p) [.Call (.Name "range" p2) [a] [] pos2] [] pos) (λσ H Q=>ta σ H λvs H1=>∃j:Nat,vs=[.int j]/\j<=sizeLine/\∀l,H1 l=aC->Q (.ref l) (upd H1 l (.lst ((List.range' 0 j).map λ(i:Nat)=>V.int (0+ (i:Int)))))):=by
 intro pins s σ H Q I h;refine Call_ (qg I hg hm PyProof.Rows.boot_list (uS (Calls.spliced_cons ?_) rfl rfl));refine Call_ (qg I kj hm2 boot_range (uS (aY (ha pos2 pins s σ H _ I h) λus s1 z9=>z9.el λvs H1 I1 r1 q1=>?_) hs rfl));obtain⟨j,e,hj,q⟩:=q1;subst e;cases r1 with
 |cons r rr=>
  cases rr;obtain⟨t,rfl⟩:=r;refine call_range_1 (Calls.spliced_nil ?_);have hz:=x6;have h24:sizeLine<=2 ^ 24:=by decide
  refine call_list_range (n:=j) (I.ok.hd hc) (IsRange.new ..) (small_one (by lia) (by lia) (by lia) (by lia)) (by rw[rangeSize_one];split<;>lia) (by lia) λh' tk acc c hk hD hI=>?_;have I2:Inv X pins σ H1 {s1 with heap:=s1.heap.push {cls:=.type "range",data:=.fields #[.int 0 s1.toks,.int (j:Int) t,.int 1 (s1.toks+1)]},toks:=s1.toks+1+1}:=I1.kept λb o e=>cA _ e;have v:=Pj (a:=0) acc.toList 0 λi v e=>by
   obtain⟨t,e2⟩:=hI.2 i v (by rw[<-e,uV]);exact⟨t,by rw[e2];congr 1⟩
  have hlen:acc.toList.length=j:=by rw[uW];exact hI.1
  rw[hlen]at v;refine⟨.ref _,_,I2.laid (t':=tk) hk (aR _) (show br X.prog X.w _ h' _ (.lst ((List.range' 0 j).map λ(i:Nat)=>V.int (0+ (i:Int))))from⟨by rw[bJ,List.length_range'];exact hj,acc.toList,c,v,?_⟩),rfl,q _ (I2.hok.fresh (aR _))⟩;exact hD
end
end L2
namespace RF
open PySem PySem.Spec PyProof.Rows L2
section
variable{X:Cx}{e:ao}{fa:FE}{p p2 pos pos2:Pos}
theorem Pk{K:aH}{m:Nat->ah}{n:Nat}{H:Hp}:∀is:List Nat,aE K m n H (is.map λ(i:Nat)=>V.int (0+ (i:Int))) (is.map λ(i:Nat)=>W.int (0+ (i:Int)))|[]=>.nil|_::r=>.cons (.int _) (Pk r)
theorem X4(hc:X.calm)(hg:Gl X "list")(hm:X.mg "list" = aC)(kj:Gl X "range")(hm2:X.mg "range" = aC)(ha:SA X [e] fa)(hs:gH e) :
 SE X (.Call (.Name "list" p) [.Call (.Name "range" p2) [e] [] pos2] [] pos) (i6 fa gS):=by
 refine(X3 hc hg hm kj hm2 ha (gf hs)).imp λσ H Q q=>vR (g:=gS) (G:=λvs H1 Q=>∃j:Nat,vs=[.int j]/\j<=sizeLine/\∀l,H1 l=aC->Q (.ref l) (upd H1 l (.lst ((List.range' 0 j).map λ(i:Nat)=>V.int (0+ (i:Int)))))) (λm h H vs xs w h' Q r q e k=>?_) q;unfold gS at e;split at e;rename_i i;split at e;rename_i hz;cases e;rw[bE,eE]at hz;obtain⟨v,rfl,q1⟩:=dM q;cases q1;refine⟨i.toNat,by rw[Int.toNat_of_nonneg hz.1],jf hz.2,λl hl=>?_⟩;exact aK.list k r (Pk _) hl;cases e;cases e
end
end RF
namespace L2
open PySem PySem.Spec PyProof.Rows PySem.W TS KO LX
section
variable{prog:ai}{w:aj}{A:ak}{E:aa->af->Prop}{s:af}{l:ah}{vs:List aa}
noncomputable def TupAt(h:az)(t:ah×List Int):Prop:=∃o n its,h.get? t.1=aB o/\o.cls=.type "tuple"/\o.data=.seq (List.toArray its) n/\Vals (t.2.map V.int) its
theorem TupAt.ne{h:az}{t:ah×List Int}{a:ah}{xs:Array aa}{n:Nat}(p:TupAt h t)(g:h.get? a=aB (seqObj "list" xs n)):t.1≠a:=λe=>by
 obtain⟨o,_,_,e1,e2,_⟩:=p;rw[e,g]at e1;cases e1;exact absurd (Value.type.inj e2) (by decide)
theorem Pn{Q:Bool->af->Prop}:∀{ks ls:List Int} {xs ys:List aa} {i:Nat},Vals (ks.map V.int) xs->Vals (ls.map V.int) ys->ks.length=ls.length->Q (bI ks ls) s->KatLex prog w A true false Q (xs.zip ys) i s
 |[],[],_,_,_,.nil,.nil,_,h=>kat_nil h
 |k::ks,l::ls,_,_,i,.cons ⟨t,e⟩ r,.cons ⟨t',e'⟩ r',hl,h=>by
  subst e e';rw[pe];refine kat_cons (wpAny_eqBool_int ?_);unfold bI at h;by_cases z:k=l;rw[show(k==l)=true by simpa using z];rw[if_pos z]at h;exact kat_yes (Pn r r' (by simpa using hl) h);rw[show(k==l)=false by simpa using z];rw[if_neg z]at h;refine kat_no ?_;cases i with
  |zero=>exact oneLt_int h
  |succ i=>
   rw[show(true&&i+1==0)=false by simp];exact kat_one _ _ (lt_int h)
theorem Po{h:az}{m:Nat}:∀{ts:List (ah×List Int)},(∀t∈ts,TupAt h t)->(∀t∈ts,t.2.length=m+1)->∃fs,KatTups h (ts.map λt=>Value.ref t.1) fs/\fs.length=ts.length/\∀v∈fs,∃i t,v=.int i t
 |[],_,_=>⟨[],trivial,rfl,λv h=>nomatch h⟩
 |t::ts,g,hm=>by
  obtain⟨fs,a,b,c⟩:=Po (λx hx=>g x (dj _ hx)) λx hx=>hm x (dj _ hx);obtain⟨o,n,its,e1,e2,e3,e4⟩:=g t (dP ..);have hl:=hm t (dP ..);match h1:t.2,hl,e4 with
  |k::ks,hl,e4=>
   cases e4 with
   |cons x r=>
    obtain⟨tk,rfl⟩:=x;refine⟨.int k tk::fs,KatTups.cons e1 e2 e3 rfl a,by rw[cZ,cZ,b],λv hv=>?_⟩;rcases fm.mp hv with hv|hv;exact⟨_,_,hv⟩;exact c v hv
noncomputable abbrev dA:ah×List Int:=(0,[])
theorem back{α:Type}(d:α)(ts:List α):(List.range ts.length).map (λi=>ts.getD i d)=ts:=by refine List.ext_getElem (by simp) λi h1 h2=>?_;simp[h2]
theorem X5{a:ah}{n m:Nat}{ts:List (ah×List Int)}{P:PySem.Fin->af->Prop}(ho:s.heap.get? a=aB (seqObj "list" (ts.map λt=>Value.ref t.1).toArray n))(hz:ts.length<=sizeLine)(h2:¬ts.length<2)
 (hm:∀t∈ts,t.2.length=m+1) (nd:(ts.map (·.2)).Nodup) (ta:∀t∈ts,TupAt s.heap t)
 (h:∀us:List (ah×List Int),us.Perm ts->us.Pairwise (λx y=>bI x.2 y.2=true)->P (.done (.ret .none)) {s with heap:=sortedHeap s.heap a (ts.map λt=>Value.ref t.1) (us.map λt=>Value.ref t.1).toArray}) :
 wpAny (model prog w) A (Builtin.«list.sort» ⟨[.ref a],[]⟩) P E s:=by
 rw[list_sort_plain];have ha:a<s.heap.objs.size:=cJ ho;have hl:(ts.map λt=>Value.ref t.1).length<=sizeLine:=by rw[bJ];exact hz
 refine aJ (listItems_at ho rfl ?_);refine aJ (Dm ho rfl ?_ (by rw[cQ];exact hl) (gu _));obtain⟨e1,BY⟩:∃e1,(s.heap.update a (Obj.mapSeq λ_=>#[])).get? a=aB (seqObj "list" #[] e1):=⟨_,get?_update_seq ho (λ_=>#[])⟩
 refine aJ (Dn BY rfl ?_);refine aJ (wpAny_newTuple ?_ (by show(ts.map λt=>Value.ref t.1).length<=_;exact hl));refine aJ (wpAny_newList ?_ (gu _));refine mZ ?_;have ho6:(((s.heap.update a (Obj.mapSeq λ_=>#[])).push (seqObj "tuple" (ts.map λt=>Value.ref t.1).toArray 0)).push (seqObj "list" #[] 0)).get? a=aB (seqObj "list" #[] e1):=cA _ (cA _ BY);have IL:∀t∈ts,TupAt (((s.heap.update a (Obj.mapSeq λ_=>#[])).push (seqObj "tuple" (ts.map λt=>Value.ref t.1).toArray 0)).push (seqObj "list" #[] 0)) t:=λt ht=>by
  have ne:=(ta t ht).ne ho;obtain⟨o,n,its,g,r⟩:=ta t ht;exact⟨o,n,its,cA _ (cA _ (by rw[Heap.get?_update_ne _ _ _ _ ne];exact g)),r⟩
 show wpAny (model prog w) A _ P E {s with heap:=((s.heap.update a (Obj.mapSeq λ_=>#[])).push (seqObj "tuple" (ts.map λt=>Value.ref t.1).toArray 0)).push (seqObj "list" #[] 0)};dsimp only;have hs:¬(ts.map λt=>Value.ref t.1).toArray.size<2:=by rw[cQ,bJ];exact h2
 rw[if_neg hs,if_neg hs];obtain⟨fs,f1,f2,f3⟩:=Po (m:=m) IL hm;refine aJ (kat_kind (T:=.type "int") f1 (by lia) (λv hv=>?_) rfl ?_);obtain⟨i,t,rfl⟩:=f3 v hv;exact Looks.of_pure rfl;have hk:∀k∈ts.map (·.2),k.length=m+1:=λk hk=>by
  obtain⟨t,ht,rfl⟩:=p9.mp hk;exact hm t ht
 have gk:∀i,i<ts.length->(ts.map (·.2)).getD i []=(ts.getD i dA).2:=λi hi=>by simp[hi]
 have gv:∀i,i<ts.length->(ts.map λt=>Value.ref t.1).getD i Value.none=.ref (ts.getD i dA).1:=λi hi=>by simp[hi]
 have gm:∀i,i<ts.length->ts.getD i dA∈ts:=λi hi=>by simp[hi]
 have c:Cp prog w A {s with heap:=((s.heap.update a (Obj.mapSeq λ_=>#[])).push (seqObj "tuple" (ts.map λt=>Value.ref t.1).toArray 0)).push (seqObj "list" #[] 0)} (tuples' true)
  (λi=>((ts.map λt=>Value.ref t.1).getD i Value.none,(ts.map λt=>Value.ref t.1).getD i Value.none)) (rk (ts.map (·.2))) ts.length:=by
  refine⟨λi j C hi hj hC=>?_,λi j hi hj e=>VW hk nd (by rw[bJ];exact hi) (by rw[bJ];exact hj) e⟩;obtain⟨o,n,its,g1,_,g2,g3⟩:=IL _ (gm i hi);obtain⟨o',n',its',X6,_,X7,Pp⟩:=IL _ (gm j hj);have sz:its.length=its'.length:=by have:=g3.length;have:=Pp.length;rw[bJ]at *;rw[hm _ (gm i hi)]at *;rw[hm _ (gm j hj)]at *;lia
  dsimp only;rw[gv i hi,gv j hj];refine kat_lt g1 g2 X6 X7 ?_;rw[show decide (its.toArray.size<its'.toArray.size)=false from gF (by rw[cQ,cQ];lia)];refine Pn g3 Pp (by rw[hm _ (gm i hi),hm _ (gm j hj)]) ?_;rw[Oh hk nd (by rw[bJ];exact hi) (by rw[bJ];exact hj),gk i hi,gk j hj]at hC;exact hC
 have P0:Pm ts.length (List.range ts.length).toArray:=⟨by simp,λx hx=>by simpa using hx,by simpa using List.nodup_range⟩
 have ez:(ts.map λt=>Value.ref t.1).toArray.zip (ts.map λt=>Value.ref t.1).toArray=(List.range ts.length).toArray.map λi=>((ts.map λt=>Value.ref t.1).getD i Value.none,(ts.map λt=>Value.ref t.1).getD i Value.none):=by apply Array.ext;simp;intro i h1 h2;simp at h1 h2;simp[h1]
 rw[ez];refine aJ (fS (VU (E:=λ_ _=>False) c P0 (by lia) (Q:=λ_ st=>∃q pd g,st=TS.St (tuples' true) (λi=>((ts.map λt=>Value.ref t.1).getD i Value.none,(ts.map λt=>Value.ref t.1).getD i Value.none)) q pd g/\q.Perm (List.range ts.length).toArray/\Ri (rk (ts.map (·.2))) q 0 ts.length) λq pd g e u=>⟨q,pd,g,rfl,e,u⟩) ?_ λ_ _ e=>e.elim);rintro⟨⟨⟩,st⟩ s' ⟨rfl,q,pd,g,rfl,hq,u⟩;dsimp only;have pl:q.toList.Perm (List.range ts.length):=by simpa using Array.perm_iff_toList_perm.mp hq
 have hb:∀i∈q.toList,i<ts.length:=λi hi=>uQ.mp (pl.mem_iff.mp hi);have zq:q.size=ts.length:=by rw[hq.size_eq];simp
 have pu:(q.toList.map λi=>ts.getD i dA).Perm ts:=by have:=pl.map λi=>ts.getD i dA;rw[back]at this;exact this
 have ou:(arrOf (TS.St (tuples' true) (λi=>((ts.map λt=>Value.ref t.1).getD i Value.none,(ts.map λt=>Value.ref t.1).getD i Value.none)) q pd g)).map (·.2)=((q.toList.map λi=>ts.getD i dA).map λt=>Value.ref t.1).toArray:=by show(q.map _).map _=_;rw[Array.map_map];apply Array.ext';rw[Array.toList_map,List.map_map];refine List.map_congr_left λi hi=>?_;show(ts.map λt=>Value.ref t.1).getD i Value.none=_;rw[gv i (hb i hi)];rfl
 refine aJ (Dn ho6 rfl ?_);rw[ou];refine aJ (Dm ho6 rfl ?_ (gu _) (by rw[cQ,bJ,pu.length_eq];first|exact hz|exact yO hz));show wpAny _ _ _ _ _ _;rw[show failedOf (TS.St (tuples' true) (λi=>((ts.map λt=>Value.ref t.1).getD i Value.none,(ts.map λt=>Value.ref t.1).getD i Value.none)) q pd g)=aC from rfl];simp only[bne_self_eq_false,dO,di];refine bC (h _ pu ?_);rw[List.pairwise_map,uN];intro i j hi hj hij;have hi':i<q.size:=by simpa using hi
 have hj':j<q.size:=by simpa using hj
 have b1:=hb q[i] (by simp);have b2:=hb q[j] (by simp);have x:=u i j (gu _) (pX hij) (by lia);unfold J at x;rw[pB hi',pB hj',zf,zf]at x;have ne:rk (ts.map (·.2)) q[i]≠rk (ts.map (·.2)) q[j]:=λe=>by
  have e:=c.inj _ _ b1 b2 e;exact uN.mp (P0.perm hq).nd i j hi hj hij (by simpa using e)
 have y:=Oh hk nd (i:=q[i]) (j:=q[j]) (by rw[bJ];exact b1) (by rw[bJ];exact b2);rw[iE (by lia),gk _ b1,gk _ b2]at y;simpa using y.symm
end
end L2
namespace L2
open PySem PySem.Spec PyProof.Rows PySem.W LX
section
variable{prog:ai}{w:aj}{A:ak}{E:aa->af->Prop}{s:af}{l:ah}{vs:List aa}
noncomputable def h1(h:az)(vs:List aa):az:=((h.push (seqObj "list" #[] 0)).update h.objs.size (Obj.mapSeq (· ++ vs.toArray))).push (seqObj "list" vs.toArray 0)
theorem IM{h:az}:((h.push (seqObj "list" #[] 0)).update h.objs.size (Obj.mapSeq (· ++ vs.toArray))).objs.size=h.objs.size+1:=by rw[Heap.size_update,size_push']
theorem n9{h:az}:(h1 h vs).get? (h.objs.size+1)=aB (seqObj "list" vs.toArray 0):=by unfold h1;rw[<-IM (vs:=vs)];exact iw _ rfl
theorem X8{h:az}{b:ah}{o:Obj}(q:h.get? b=aB o):(h1 h vs).get? b=aB o:=by have hlt:b<h.objs.size:=cJ q;unfold h1;rw[Heap.get?_push_ne _ _ _ (by rw[IM];exact fL (pW hlt)),Heap.get?_update_ne _ _ _ _ (fL hlt),Heap.get?_push_ne _ _ _ (fL hlt)];exact q
theorem Pq{h:az}{out:Array aa}:sortedHeap (h1 h vs) (h.objs.size+1) vs out=sortedAll h vs out:=by unfold sortedAll h1;rfl
theorem Yb{Q:aa->af->Prop}(hl:s.heap.IsList l vs.toArray)(hz:vs.length<=sizeLine)
 (h:∀P:PySem.Fin->af->Prop,(∀s',Q (.ref (s.heap.objs.size+1)) s'->P (.done (.ret .none)) s')->wpAny (model prog w) A.in1.in1 (Builtin.«list.sort» ⟨[.ref (s.heap.objs.size+1)],[]⟩) P E {s with heap:=h1 s.heap vs}) :
 wpAny (model prog w) A (call (.builtin "sorted") [.ref l]) Q E s:=by
 refine Calls.call_function_entry kind_sorted plain_sorted entry_sorted (args_sorted1 _) ?_;unfold Builtin.«sorted»;refine aJ (m:=checkCount "sorted" 1 1 _) (bC ?_);refine aJ (collect_list hl ?_ hz);refine aJ (wpAny_newList ?_ hz);show wpAny _ _ _ _ _ {s with heap:=h1 s.heap vs};rw[IM];refine aJ (mZ (uL slot_list_sort ⟨_,n9,rfl⟩ entry_list_sort (h _ λs' q=>?_) (args_list_sort _)));exact⟨_,rfl,bC ⟨_,rfl,q⟩⟩
theorem Yc{a:ah}{n:Nat}{P:PySem.Fin->af->Prop}(ho:s.heap.get? a=aB (seqObj "list" vs.toArray n))(h2:vs.length<2)(h:P (.done (.ret .none)) {s with heap:=sortedHeap s.heap a vs vs.toArray}) :
 wpAny (model prog w) A (Builtin.«list.sort» ⟨[.ref a],[]⟩) P E s:=by
 rw[list_sort_plain];have ha:a<s.heap.objs.size:=cJ ho;have hl:(vs.length:Nat)<=sizeLine:=by rw[yL];lia
 refine aJ (listItems_at ho rfl ?_);refine aJ (Dm ho rfl ?_ (by rw[cQ];exact hl) (gu _));obtain⟨e1,BY⟩:∃e1,(s.heap.update a (Obj.mapSeq λ_=>#[])).get? a=aB (seqObj "list" #[] e1):=⟨_,get?_update_seq ho (λ_=>#[])⟩
 refine aJ (Dn BY rfl ?_);refine aJ (wpAny_newTuple ?_ (by show vs.length<=_;exact hl));refine aJ (wpAny_newList ?_ (gu _));refine mZ ?_;have ho6:(((s.heap.update a (Obj.mapSeq λ_=>#[])).push (seqObj "tuple" vs.toArray 0)).push (seqObj "list" #[] 0)).get? a=aB (seqObj "list" #[] e1):=cA _ (cA _ BY);show wpAny (model prog w) A _ P E {s with heap:=((s.heap.update a (Obj.mapSeq λ_=>#[])).push (seqObj "tuple" vs.toArray 0)).push (seqObj "list" #[] 0)};dsimp only;have hs:vs.toArray.size<2:=by rw[cQ];exact h2
 have hm:(arrOf (SortSt.mk' general' (vs.toArray.zip vs.toArray) #[] 7 aC)).map (·.2)=vs.toArray:=by show(vs.toArray.zip vs.toArray).map (·.2)=vs.toArray;simp only[List.zip_toArray,List.map_toArray];exact jK _ (List.map_snd_zip (aR _))
 rw[if_pos hs,if_pos hs];refine aJ (bC ?_);rw[StateT.run_pure];refine aJ (bC ?_);dsimp only;refine aJ (Dn ho6 rfl ?_);rw[hm];refine aJ (Dm ho6 rfl ?_ (gu _) (by rw[cQ];first|exact hl|exact yO hl));simp only[bne_self_eq_false,dO,di];exact bC h
end
section
variable{X:Cx}
theorem Yd{ts:List (ah×List Int)}{vs:List aa}(r:Vals (ts.map λt=>V.ref t.1) vs):vs=ts.map λt=>Value.ref t.1:=by
 induction ts generalizing vs with
 |nil=>cases r;rfl
 |cons t ts ih=>
  cases r with
  |cons a b=>
   cases a;rw[ih b];rfl
theorem Ye{ts:List (ah×List Int)}:Vals (ts.map λt=>V.ref t.1) (ts.map λt=>Value.ref t.1):=by
 induction ts with|nil=>exact .nil|cons t ts ih=>exact .cons rfl ih
theorem Yg{pins:List (ah×Obj)}{σ:St}{H:Hp}{s:af}{t:ah×List Int}(I:Inv X pins σ H s)(h:bW X.K H t.1 (t.2.map V.int)):TupAt s.heap t:=by obtain⟨its,rv,pt,_⟩:=I.tuple h;obtain⟨o,a,b,n,d⟩:=pt;exact⟨o,n,its,a,b,d,rv⟩
theorem Yh{α:Type}{R:α->α->Prop}:∀{ts:List α},ts.length<2->ts.Pairwise R|[],_=>.nil|[_],_=>Dh ..|_::_::_,h=>absurd h (by simp)
theorem Yi:bS X (.builtin "sorted") (λxs H Q=>∃(p:ah) (m:Nat) (ts:List (ah×List Int)),xs=[.ref p]/\cH X.K H p (ts.map λt=>V.ref t.1)/\(∀t∈ts,bW X.K H t.1 (t.2.map V.int))/\(2<=ts.length->∀t∈ts,t.2.length=m+1)/\(ts.map (·.2)).Nodup/\
 ∀(l:ah)(us:List (ah×List Int)),H l=aC->us.Perm ts->us.Pairwise (λa b=>bI a.2 b.2=true)->Q (.ref l) (upd H l (.lst (us.map λt=>V.ref t.1)))):=by
 intro pins s σ H xs us Q I r h;obtain⟨p,m,ts,rfl,hq,hT,hm,nd,q⟩:=h;obtain⟨u,rfl,ru⟩:=vals1 r;cases ru;obtain⟨its,rv,pl,hz⟩:=I.list hq;have hL:s.heap.IsList p its.toArray:=pl.isList;have e:=Yd rv;subst e;rw[bJ]at hz;have fin:∀us:List (ah×List Int),us.Perm ts->us.Pairwise (λa b=>bI a.2 b.2=true)->∃v H',Inv X pins σ H' {s with heap:=sortedAll s.heap (ts.map λt=>Value.ref t.1) (us.map λt=>Value.ref t.1).toArray}/\RelV v (.ref (s.heap.objs.size+1))/\Q v H':=λus pu pw=>by
  obtain⟨e,he⟩:=sortedAll_at s.heap (ts.map λt=>Value.ref t.1) (us.map λt=>Value.ref t.1).toArray;exact⟨.ref _,_,I.laid (t':=s.toks) (λb o z=>sortedAll_old z) (sW _) (show br X.prog X.w _ _ _ (.lst (us.map λt=>V.ref t.1))from⟨by rw[bJ,pu.length_eq];exact hz,_,e,Ye,he⟩),rfl,q _ us (I.hok.fresh (sW _)) pu pw⟩
 refine Yb hL (by rw[bJ];exact hz) λP hP=>?_;by_cases h2:ts.length<2;refine Yc n9 (by rw[bJ];exact h2) (hP _ ?_)
 dsimp only;rw[Pq];exact fin ts (pC _) (Yh h2);refine X5 n9 hz h2 (hm (by lia)) nd (λt ht=>?_) λus pu pw=>hP _ ?_;obtain⟨o,n,its,g,r⟩:=Yg I (hT t ht);exact⟨o,n,its,X8 g,r⟩;dsimp only;rw[Pq];exact fin us pu pw
end
end L2
namespace RF
open PySem PySem.Spec PyProof.Rows L2 LX
theorem IP(x:List Int):∀l:List (List Int),(lZ x l).Perm (x::l)
 |[]=>pC _
 |y::r=>by
  unfold lZ;split;exact pC _;exact((IP x r).cons y).trans (List.Perm.swap ..)
theorem EL:∀l:List (List Int),(jB l).Perm l|[]=>pC _|x::r=>(IP x _).trans ((EL r).cons x)
theorem Pu{m:Nat}(x:List Int)(hx:x.length=m):∀{l:List (List Int)},(∀k∈l,k.length=m)->x∉l->l.Pairwise (λa b=>bI a b=true)->(lZ x l).Pairwise λa b=>bI a b=true
 |[],_,_,_=>Dh ..
 |y::r,hl,hn,h=>by
  obtain⟨h1,h2⟩:=yX.mp h;have ly:=hl y (dP ..);have lr:∀k∈r,k.length=m:=λk hk=>hl k (dj _ hk);unfold lZ;split;rename_i z;refine yX.mpr ⟨λa ha=>?_,h⟩;rcases fm.mp ha with e|ha;rw[e];exact z;exact A8 (by rw[hx,ly]) (by rw[ly,lr a ha]) z (h1 a ha);rename_i z;have ne:x≠y:=λe=>hn (by rw[e];exact dP ..);have z':bI y x=true:=(Eu (by rw[hx,ly]) ne).resolve_left z;refine yX.mpr ⟨λa ha=>?_,Pu x hx lr (λq=>hn (dj _ q)) h2⟩;rcases fm.mp ((IP x r).mem_iff.mp ha)with e|ha;rw[e];exact z';exact h1 a ha
theorem IQ{m:Nat}:∀l:List (List Int),(∀k∈l,k.length=m)->l.Nodup->(jB l).Pairwise λa b=>bI a b=true
 |[],_,_=>.nil
 |x::r,hl,nd=>by
  have nd:=xJ.mp nd;have p:=EL r;exact Pu x (hl x (dP ..)) (λk hk=>hl k (dj _ (p.mem_iff.mp hk))) (λq=>nd.1 (p.mem_iff.mp q)) (IQ r (λk hk=>hl k (dj _ hk)) nd.2)
theorem Yj{a b:List Int}(e:a.length=b.length)(h1:bI a b)(h2:bI b a):False:=by have:=A8 e e.symm h1 h2;rw[Et]at this;cases this
theorem Pw{l m:List (List Int)}(e:∀a∈l,∀b∈l,a.length=b.length)(u:(jB l).Pairwise λa b=>bI a b)(p:m.Perm l)(h:m.Pairwise λa b=>bI a b):m=jB l:=
 List.Perm.eq_of_pairwise (λa b ha hb x y=>(Yj (e a (p.mem_iff.mp ha) b ((EL l).mem_iff.mp hb)) x y).elim) h u (p.trans (EL l).symm)
section
variable{K:aH}{m:Nat->ah}{n:Nat}{H:Hp}
theorem Px:∀{vs:List V} {ws:List W} {is:List Int},aE K m n H vs ws->aP iZ ws=aB is->vs=is.map .int
 |_,_,_,.nil,e=>by cases e;rfl
 |_,_,_,.cons (w:=w) (ws:=ws) q r,e=>by
  unfold aP at e;cases z:iZ w with
  |none=>rw[z]at e;cases e
  |some b=>
   rw[z]at e;cases z2:aP iZ ws with
   |none=>rw[z2]at e;cases e
   |some cs=>
    rw[z2]at e;cases e;unfold iZ at z;split at z<;>cases z;cases q;rw[Px r z2];rfl
theorem Py:∀is:List Int,aE K m n H (is.map .int) (is.map .int)|[]=>.nil|i::r=>.cons (.int i) (Py r)
theorem t8:∀{vs:List V} {ws:List W} {ks:List (List Int)},aE K m n H vs ws->aP kW ws=aB ks->∃ts:List (ah×List Int),vs=ts.map (λt=>V.ref t.1)/\ts.map (·.2)=ks/\∀t∈ts,bW K H t.1 (t.2.map .int)
 |_,_,_,.nil,e=>by cases e;exact⟨[],rfl,rfl,λt h=>nomatch h⟩
 |_,_,_,.cons (w:=w) (ws:=ws) q r,e=>by
  unfold aP at e;cases z:kW w with
  |none=>rw[z]at e;cases e
  |some b=>
   rw[z]at e;cases z2:aP kW ws with
   |none=>rw[z2]at e;cases e
   |some cs=>
    rw[z2]at e;cases e;unfold kW at z;split at z<;>try cases z
    obtain⟨ts,e1,e2,e3⟩:=t8 r z2;cases q with
    |tup s1 s2=>
     have:=Px s2 z;subst this;refine⟨(_,b)::ts,by rw[e1];rfl,jK (b :: ·) e2,λt ht=>?_⟩;rcases fm.mp ht with e|ht
     rw[e];exact s1;exact e3 t ht
theorem Pz:∀ts:List (ah×List Int),(∀t∈ts,bW K H t.1 (t.2.map .int))->aE K m n H (ts.map λt=>V.ref t.1) ((ts.map (·.2)).map λk=>.tup (k.map .int))|[],_=>.nil|t::r,h=>.cons (.tup (h t (dP ..)) (Py _)) (Pz r λx hx=>h x (dj _ hx))
end
noncomputable def IS(K:aH):List V->Hp->VK->Prop:=λxs H Q=>∃(p:ah) (m:Nat) (ts:List (ah×List Int)),xs=[.ref p]/\cH K H p (ts.map λt=>V.ref t.1)/\(∀t∈ts,bW K H t.1 (t.2.map V.int))/\(2<=ts.length->∀t∈ts,t.2.length=m+1)/\(ts.map (·.2)).Nodup/\
 ∀(l:ah)(us:List (ah×List Int)),H l=aC->us.Perm ts->us.Pairwise (λa b=>bI a.2 b.2=true)->Q (.ref l) (upd H l (.lst (us.map λt=>V.ref t.1)))
theorem Yk:∀{ks:List (List Int)},nR ks=true->∃m,(2<=ks.length->∀k∈ks,k.length=m+1)/\∃m',∀k∈ks,k.length=m'
 |[],_=>⟨0,λh=>absurd h (by simp),0,λk h=>nomatch h⟩
 |[k],_=>⟨0,λh=>absurd h (by simp),k.length,λq hq=>by rw[mS.mp hq]⟩
 |k::k2::r,h=>by
  unfold nR at h;rw[bE]at h;have h1:=jf h.1;have h2:∀q∈k::k2::r,q.length=k.length:=λq hq=>yM (lJ.mp h.2 q hq);exact⟨k.length-1,λ_ q hq=>by rw[h2 q hq];lia,k.length,h2⟩
theorem Yl{K:aH}:eO K (IS K) l9:=by
 intro m h H vs xs w h' Q r q e k;unfold l9 at e;split at e<;>try cases e
 rename_i i;split at e<;>try cases e
 rename_i ws g;obtain⟨v,rfl,q1⟩:=dM q;cases z:aP kW ws with
 |none=>rw[z]at e;cases e
 |some ks=>
  rw[z]at e;dsimp only at e;split at e<;>cases e;rename_i z2;rw[bE,eE]at z2;obtain⟨nd,hl⟩:=z2;cases q1;obtain⟨us,p1,p2⟩:=r.lst g;obtain⟨ts,e1,e2,e3⟩:=t8 p2 z;subst e1 e2;obtain⟨m1,l1,m2,l2⟩:=Yk hl;refine⟨_,m1,ts,rfl,.inl (.inl p1),e3,λh2 t ht=>l1 (by rw[bJ];exact h2) _ (List.mem_map_of_mem ht),nd,λl us hl hp hu=>?_⟩;have hm:us.map (·.2)=jB (ts.map (·.2)):=Pw (λa ha b hb=>by rw[l2 a ha,l2 b hb]) (IQ _ l2 nd) (hp.map _) (List.pairwise_map.mpr hu);rw[<-hm]at k;exact aK.list k r (Pz us λt ht=>e3 t (hp.mem_iff.mp ht)) hl
end RF
namespace L2
open PySem PySem.Spec PyProof.Rows
section
variable{X:Cx}
theorem Ym(hc:X.calm):bS X (.builtin "max") (λxs H Q=>∃(p:ah) (ns:List Int),xs=[.ref p]/\cH X.K H p (ns.map .int)/\0<ns.length/\∀M,M∈ns->(∀a∈ns,a<=M)->Q (.int M) H):=by
 intro pins s σ H xs us Q I r h;obtain⟨p,ns,rfl,hq,hne,q⟩:=h;obtain⟨u,rfl,ru⟩:=vals1 r;cases ru;obtain⟨its,rv,pl,hz⟩:=I.list hq;have hL:s.heap.IsList p its.toArray:=pl.isList;have hi:=NK rv;obtain⟨ys,hx⟩:=hi.allInts.items;have hl':s.heap.IsList p (intItems ys):=hx▸hL;have hns:ns=ys.toList.map (·.1):=by rw[<-nums_intItems,<-hx];exact(show numsOf its.toArray.toList=ns from hi.numsOf).symm
 have hsz:0<ys.size:=by rw[hns,bJ,uW]at hne;exact hne
 refine max_intList (I.ok.hd hc) hl' hsz λv h' tk hv hk=>?_;obtain⟨t,rfl⟩:=intItems_at hv;obtain⟨h1,h2⟩:=argBest_gt (numAt ys) (ys.size-1);refine⟨.int _,H,I.kept (t':=tk) hk,⟨_,rfl⟩,q _ ?_ λa ha=>?_⟩;rw[hns,numAt_eq];exact getD_mem (by rw[bJ,uW];lia);rw[hns]at ha;obtain⟨j,hj,rfl⟩:=mem_getD ha;rw[bJ,uW]at hj;rw[<-numAt_eq];exact h2 j (by lia)
end
end L2
namespace RF
open PySem PySem.Spec PyProof.Rows L2
section
variable{K:aH}{m:Nat->ah}{h:VH}{H:Hp}
theorem aK.BZ{Q:VK}(k:aK K m h.n H (.ref h.n) (h.new (.dm [])) Q)(r:Rel K m h H){p:ah}(hp:H p=aC):Q (.ref p) (upd H p (.dK [])):=by obtain⟨st,r'⟩:=r.alloc (o:=.dm []) (u:=.dK []) hp (λ_ z=>nomatch z) (λst=>⟨[],iu,.nil⟩);refine k _ _ _ st r' ?_;have:aI K (λi=>if i=h.n then p else m i) (h.n+1) (upd H p (.dK [])) (.ref ((λi=>if i=h.n then p else m i) h.n)) (.ref h.n):=.ref (iO _);simp only[bX]at this;exact this
end
section
variable{X:Cx}{e o a k:ao}{lo:Option ao}{fa fo:FE}{pos p2:Pos}
theorem Yn:SE X (.Dict [] [] pos) (i6 rj vO):=UH.imp λσ H Q z9 p hp=>z9.el λρ h m w h' f r e k=>by
 cases e;exact aK.BZ k r hp
end
set_option genInjectivity false in
structure CC where
 N:List Str
 names:List (Str×NameKind)
 t9:Bool
noncomputable def rF:List Str->Str->Nat->Option Nat|[],_,_=>aC|y::r,x,i=>if y==x then aB i else rF r x (i+1)
theorem PB:∀{N:List Str} {x:Str} {k i:Nat},rF N x k=aB i->∃j,i=k+j/\N[j]?=aB x
 |[],_,_,_,e=>by cases e
 |y::r,x,k,i,e=>by
  unfold rF at e;split at e;rename_i h;cases e;exact⟨0,rfl,by simpa using h⟩;obtain⟨j,h1,h2⟩:=PB e;exact⟨j+1,by lia,by simpa using h2⟩
theorem IT{N:List Str}{x:Str}{i:Nat}(e:rF N x 0=aB i):N[i]?=aB x:=by obtain⟨j,h1,h2⟩:=PB e;rw[show i=j by lia];exact h2
noncomputable def rG:Option NameKind->Bool|some .local|some .cell|some .free=>true|_=>false
noncomputable def rH(all:Bool):Option NameKind->Bool|some .local=>true|some .cell=>all|_=>false
noncomputable def okN(x:Str):Bool:=!(x==("__debug__" : Str)) && !(x==("__classdict__" : Str)) && !(x==("__name__" : Str)) && !(x==("" : Str))
theorem Yo{x:Str}(h:okN x):x≠"":=by unfold okN at h;simp only[bE,sY]at h;exact λz=>by rw[z]at h;simp at h
theorem yk{x:Str}(h:okN x):(x==("__debug__" : Str))=false/\(x==("__classdict__" : Str))=false/\x≠"__name__":=by unfold okN at h;simp only[bE,sY]at h;exact⟨h.1.1.1,h.1.1.2,λz=>by rw[z]at h;simp at h⟩
noncomputable def oh(K:aH):Nat->aa->Option W
 |0,_=>aC
 |n+1,v=>match v with
  |.none=>aB .aL
  |.bool b=>aB (.bl b)
  |.int i _=>aB (.int i)
  |.str x _=>aB (.str x)
  |.ref a=>(match K.lookup a with
   |some o=>(match o.cls,o.dict,o.data with
    |.type t,aC,.seq its _=>if t == "tuple" && Nat.ble its.size 1000 then(aP (oh K n) its.toList).map .tup else aC
    |_,_,_=>aC)
   |none=>aC)
  |_=>aC
theorem PC{K:aH}{f:aa->Option W}(ih:∀v w,f v=aB w->∃x,RelV x v/\∀m n H,aI K m n H x w):∀{us:List aa} {ws:List W},aP f us=aB ws->∃xs,Vals xs us/\∀m n H,aE K m n H xs ws
 |[],_,e=>by cases e;exact⟨[],.nil,λ_ _ _=>.nil⟩
 |u::us,ws,e=>by
  unfold aP at e;split at e;rename_i b hb;split at e;rename_i bs B3;cases e;obtain⟨x,h1,h2⟩:=ih u b hb;obtain⟨xs,h3,h4⟩:=PC ih B3;exact⟨x::xs,.cons h1 h3,λm n H=>.cons (h2 m n H) (h4 m n H)⟩;cases e;cases e
theorem PD{K:aH}:∀(n:Nat) (v:aa) (w:W),oh K n v=aB w->∃x,RelV x v/\∀m n H,aI K m n H x w
 |0,_,_,e=>by cases e
 |n+1,v,w,e=>by
  unfold oh at e;split at e;cases e;exact⟨.aL,rfl,λ_ _ _=>.aL⟩;cases e;exact⟨.bl _,rfl,λ_ _ _=>.bl _⟩;cases e;exact⟨.int _,⟨_,rfl⟩,λ_ _ _=>.int _⟩;cases e;exact⟨.str _,⟨_,rfl⟩,λ_ _ _=>.str _⟩;rename_i a;split at e;rename_i o ho;split at e;rename_i t its nn hc Yp hd;split at e;rename_i hz;rw[bE]at hz;have ht:t = "tuple":=by simpa using hz.1
  subst ht;cases z:aP (oh K n) its.toList with
  |none=>rw[z]at e;cases e
  |some ws=>
   rw[z]at e;cases e;obtain⟨xs,h3,h4⟩:=PC (PD n) z;exact⟨.ref a,rfl,λm n H=>.tup (.inr ⟨o,its,nn,ho,hc,Yp,hd,pX (M8 (jf hz.2)),h3⟩) (h4 m n H)⟩
  cases e;cases e;cases e;cases e
noncomputable def cL(f:ao->Option E):List ao->Option E
 |[]=>aB .nil
 |e::es=>match f e,cL f es with
  |some a,aB r=>aB (.cons a r)
  |_,_=>aC
noncomputable def fnAt(K:aH)(x:Str):Option (ah×Obj×au):=match fQ K x with
 |some f=>(match K.lookup f with
  |some o=>(match o.data with
   |.func fd=>aB (f,o,fd)
   |_=>aC)
  |none=>aC)
 |none=>aC
noncomputable def v8:Arguments->Option (List Arg)|⟨[],args,aC,[],[],aC,_⟩=>aB args|_=>aC
noncomputable def isNone:aa->Bool|.none=>true|_=>false
noncomputable def EM:Data->Bool
 |.seq xs _=>(match xs.toList with
  |[v]=>isNone v
  |_=>false)
 |_=>false
noncomputable def fR(K:aH):aa->Bool
 |.ref t=>(match K.lookup t with
  |some o=>EM o.data
  |none=>false)
 |_=>false
noncomputable def IU(K:aH)(x:Str)(n:Nat):Bool:=match fnAt K x with|some (_,_,fd)=>fR K fd.defaults&&Nat.beq (n+1) fd.params.args.length|none=>false
noncomputable def gg(K:aH)(x:Str):Bool:=match fnAt K x with|some (_,_,fd)=>fR K fd.defaults|none=>false
theorem Yq{K:aH}{x:Str}{n:Nat}(h:IU K x n):gg K x=true:=by unfold IU at h;unfold gg;split at h;rw[bE]at h;exact h.1;cases h
noncomputable def mC:E->E|.nil=>.cons (.cst .aL) .nil|.cons a r=>.cons a (mC r)|e=>e
noncomputable def k6:E->Bool|.nil=>true|.cons _ r=>k6 r|_=>false
theorem Yr{cl:Call}:∀{a:E},k6 a=true->∀(ρ:En) (h:VH),ev cl (mC a) ρ h=(ev cl a ρ h).bind λy h=>match y with|.tup ys=>.ok (.tup (ys++[.aL])) h|_=>.no:=by
 intro a;induction a with
 |nil=>intro _ ρ h;rfl
 |cons x r _ ih=>
  intro ha ρ h;have ih:=ih ha;simp only[mC,ev];cases ev cl x ρ h with
  |no=>rfl
  |ex _ _=>rfl
  |ok w h1=>
   show Res.bind (ev cl (mC r) ρ h1) _=Res.bind (Res.bind (ev cl r ρ h1) _) _;rw[ih];cases ev cl r ρ h1 with|no=>rfl|ex _ _=>rfl|ok y h2=>cases y<;>rfl
 |_=>intro ha;cases ha
theorem PF{f:ao->Option E}:∀{es:List ao} {a:E},cL f es=aB a->k6 a=true
 |[],_,h=>by cases h;rfl
 |e::es,a,h=>by
  unfold cL at h;split at h;rename_i x r h1 h2;cases h;show k6 r=true;exact PF h2;cases h
noncomputable def EN(f:ao->Option E):List (Option ao)->List ao->Option E
 |[],[]=>aB .nil
 |some k::ks,v::vs=>match f k,f v,EN f ks vs with
  |some a,aB b,aB r=>aB (.cons a (.cons b r))
  |_,_,_=>aC
 |_,_=>aC
noncomputable def cB(and:Bool)(f:ao->Option E):List ao->Option E
 |[]=>aC
 |[a]=>f a
 |a::b::r=>match f a,cB and f (b::r)with
  |some x,aB y=>aB (if and then .and x y else .or x y)
  |_,_=>aC
noncomputable def cO(f:ao->Option E):Option ao->Option (Bool×E)|none=>aB (false,.cst .aL)|some e=>(f e).map λc=>(true,c)
noncomputable def v9(K:aH)(C:CC)(x:Str):Bool:=C.names.lookup x==aB .globalImplicit&& (match PySem.W.nsIn K mainGlobals x with|some aC=>true|_=>false)
noncomputable def wc(x:Str):Option Ty:=
 if x==("int" : Str)then aB .int else if x==("bool" : Str)then aB .bool else if x==("tuple" : Str)then aB .tuple else if x==("list" : Str)then aB .list else if x==("str" : Str)then aB .str else if x==("dict" : Str)then aB .dict else aC
noncomputable def we(f:Str)(args:List ao):Option ao:=if f==("list" : Str)then(match args with|[.Call (.Name g _) [a] [] _]=>if g==("range" : Str)then aB a else aC|_=>aC)else aC
noncomputable def wg(x:Str):Option Bi:=
 if x==("len" : Str)then aB .len else if x==("list" : Str)then aB .list else if x==("tuple" : Str)then aB .tuple else if x==("int" : Str)then aB .int else if x==("abs" : Str)then aB .abs else if x==("max" : Str)then aB .max else if x==("min" : Str)then aB .min else if x==("all" : Str)then aB .all else if x==("sorted" : Str)then aB .Ex else aC
noncomputable def PJ:ao->Bool|.Tuple ..=>true|_=>false
noncomputable def yl:Kd->ao->Bool|.pI,t=>PJ t|.zip,t=>PJ t|_,_=>true
noncomputable def gY(C:CC):ao->Option Nat|.Name x _=>if okN x&&rH C.t9 (C.names.lookup x)then rF C.N x 0 else aC|_=>aC
noncomputable def ym(C:CC):ao->Option Tg|.Name x p=>(gY C (.Name x p)).map .one|.Tuple es _ _=>(aP (gY C) es).map .many|_=>aC
noncomputable def ownOf(sc:ay):List Str:=(sc.names.filter λy=>(y.2 == .local||y.2 == .cell) && !(y.1==(".0" : Str))).map (·.1)
noncomputable def gh(sc:ay):List Str:=(sc.names.filter λy=>y.2 == .free).map (·.1)
noncomputable def rJ(C:CC)(sc:ay)(ix:List Nat):Bool:=
 decide (sc.kind=.function)&&sc.names.all (λy=>decide (y.2=.cell->sc.names.lookup y.1=aB .cell))&&sc.names.all (λy=>decide (y.2=.free->sc.names.lookup y.1=aB .free))&&sc.names.all (λy=>decide (y.2=.local->sc.names.lookup y.1=aB .local)) &&
 (ownOf sc).all (λx=>decide (sc.names.lookup x=aB .local\/sc.names.lookup x=aB .cell))&&sc.names.all (λy=>decide (y.2=.free->C.names.lookup y.1=aB .cell\/C.names.lookup y.1=aB .free))&&decide (ix.length=(gh sc).length) &&
 ((List.range (gh sc).length).all λk=>match(gh sc)[k]?,ix[k]? with|some x,aB j=>decide (C.N[j]?=aB x)&&decide (sc.names.lookup x=aB .free)|_,_=>false)&&decide (ownOf sc++gh sc).Nodup
noncomputable def jR(sc:ay):CC:=⟨ownOf sc++gh sc,sc.names,true⟩
mutual
noncomputable def cE(K:aH)(T:List Str):Nat->CC->ao->Option E
 |0,_,_=>aC
 |n+1,C,e=>match e with
  |.Name x _=>if okN x then(if rG (C.names.lookup x)then(rF C.N x 0).map .var
   else if C.names.lookup x==aB .globalImplicit then(match PySem.W.nsIn K mainGlobals x with|some (aB v)=>(oh K 8 v).map .cst|_=>aC)else aC)else aC
  |.Constant c _ _=>(match c with
   |.int i=>aB (.cst (.int i))
   |.bool b=>aB (.cst (.bl b))
   |.none=>aB (.cst .aL)
   |.str x=>aB (.cst (.str x))
   |_=>aC)
  |.Tuple es _ _=>(cL (cE K T n C) es).map .tup
  |.List es _=>(cL (cE K T n C) es).map .lst
  |.Dict ks vs _=>(match ks with
   |[]=>(match vs with
    |[]=>aB (.bi .Oi .nil)
    |_::_=>aC)
   |k::ks=>if Nat.ble (k::ks).length 15&&Nat.beq (k::ks).length vs.length&& (k::ks).all (·.isSome)then(EN (cE K T n C) (k::ks) vs).map .Ba else aC)
  |.BinOp a O b _=>(match Bo O,cE K T n C a,cE K T n C b with
   |some o,aB x,aB y=>aB (.op o x y)
   |_,_,_=>aC)
  |.UnaryOp o a _=>(match o with
   |.Not=>(cE K T n C a).map .not
   |.USub=>(cE K T n C a).map .neg
   |_=>aC)
  |.BoolOp o es _=>(match o with
   |.And=>cB true (cE K T n C) es
   |.Or=>cB false (cE K T n C) es)
  |.Compare a Os bs _=>(match Os,bs with
   |[O],[b]=>if pK b then(match fZ O,cE K T n C a,cE K T n C b with
   |some c,aB x,aB y=>aB (.cmp c x y)
   |_,_,_=>aC)else aC
   |[O,O'],[b,c]=>if pK c then(match fZ O,fZ O',cE K T n C a,cE K T n C b,cE K T n C c with
   |some o,aB o',aB x,aB y,aB z=>aB (.vM o o' x y z)
   |_,_,_,_,_=>aC)else aC
   |_,_=>aC)
  |.IfExp c a b _=>(match cT K T n C c,cE K T n C a,cE K T n C b with
   |some z,aB x,aB y=>aB (.ite z x y)
   |_,_,_=>aC)
  |.Subscript a b _=>(match b with
   |.Slice lo hi st _=>(match st with
    |none=>(match cE K T n C a,cO (cE K T n C) lo,cO (cE K T n C) hi with
   |some x,aB (bl,l),aB (bh,u)=>aB (.slc x bl l bh u)
   |_,_,_=>aC)
    |some _=>aC)
   |b=>if BR b then(match cE K T n C a,cE K T n C b with
   |some x,aB y=>aB (.idx x y)
   |_,_=>aC)else aC)
  |.Call fn args kw pos=>(match kw with
   |[]=>(match fn with
    |.Name f _=>if okN f&&C.names.lookup f==aB .globalImplicit then(match PySem.W.nsIn K mainGlobals f with
     |some aC=>if f==("isinstance" : Str)then(match args with
      |[a,.Name t _]=>(match wc t,cE K T n C a with
       |some ty,aB x=>if okN t&&v9 K C t then aB (.nQ ty x)else aC
       |_,_=>aC)
      |_=>aC)
      else(match we f args with
       |some a=>if okN "range" && v9 K C "range"then(cE K T n C a).map λx=>.bi .qR (.cons x .nil)else aC
       |none=>match wg f,args with
       |some b,_::_=>(cL (cE K T n C) args).map (.bi b)
       |_,_=>aC)
     |some (aB _)=>(match rF T f 0 with
      |some i=>if IU K f args.length && !args.isEmpty then(cL (cE K T n C) args).map (λa=>.call i (mC a))else(cL (cE K T n C) args).map (.call i)
      |none=>aC)
     |none=>aC)else aC
    |.Attribute o Ys ap=>if Ip o&& (ap.endLine==pos.line)then(match cE K T n C o,args with
     |some x,[a]=>if Ys==("append" : Str)then(cE K T n C a).map λy=>.mt .append x (.cons y .nil)else aC
     |_,_=>aC)else aC
    |_=>aC)
   |_=>aC)
  |.ListComp elt gs sc _=>(match gs with
   |[g]=>(match g with
    |⟨tg,iter,ifs,0⟩=>(match aP (λx=>rF C.N x 0) (gh sc)with
     |some ix=>if rJ C sc ix then(match cW K T n C iter,ym (jR sc) tg,(match ifs with|[]=>aB (.cst (.bl true))|[c]=>cT K T n (jR sc) c|_=>aC),cE K T n (jR sc) elt with
      |some (kd,a),aB t,aB c,aB e=>if yl kd tg then aB (.lc kd a t (ownOf sc).length ix c e)else aC
      |_,_,_,_=>aC)else aC
     |none=>aC)
    |_=>aC)
   |[g,g2]=>(match g with
    |⟨tg,iter,ifs,0⟩=>(match g2 with
     |⟨fX,bw,dg,0⟩=>(match aP (λx=>rF C.N x 0) (gh sc)with
      |some ix=>if rJ C sc ix then(match cW K T n C iter,ym (jR sc) tg,(match ifs with|[]=>aB (E.cst (.bl true))|[c]=>cT K T n (jR sc) c|_=>aC),cE K T n (jR sc) elt with
       |some (kd,a),aB t,aB c,aB e=>if yl kd tg then(match cW K T n (jR sc) bw,ym (jR sc) fX,(match dg with|[]=>aB (E.cst (.bl true))|[c]=>cT K T n (jR sc) c|_=>aC)with
        |some (gX,a2),aB t2,aB c2=>if yl gX fX then aB (.tW kd a t (ownOf sc).length ix c gX a2 t2 c2 e)else aC
        |_,_,_=>aC)else aC
       |_,_,_,_=>aC)else aC
      |none=>aC)
     |_=>aC)
    |_=>aC)
   |_=>aC)
  |_=>aC
noncomputable def cT(K:aH)(T:List Str):Nat->CC->ao->Option E
 |0,_,_=>aC
 |n+1,C,e=>match e with
  |.Compare a Os bs _=>(match Os,bs with
   |[O],[b]=>if pK b then(match fZ O,cE K T n C a,cE K T n C b with
   |some c,aB x,aB y=>aB (.cmp c x y)
   |_,_,_=>aC)else aC
   |[O,O'],[b,c]=>if pK c then(match fZ O,fZ O',cE K T n C a,cE K T n C b,cE K T n C c with
   |some o,aB o',aB x,aB y,aB z=>aB (.vM o o' x y z)
   |_,_,_,_,_=>aC)else aC
   |_,_=>aC)
  |.UnaryOp o a _=>(match o with
   |.Not=>(cT K T n C a).map .not
   |_=>aC)
  |.BoolOp o es _=>(match o with
   |.And=>cB true (cT K T n C) es
   |.Or=>cB false (cT K T n C) es)
  |.Name x p=>(cE K T n C (.Name x p)).map .kY
  |.Call f as ks p=>(cE K T n C (.Call f as ks p)).map .kY
  |.Subscript a b p=>(cE K T n C (.Subscript a b p)).map .kY
  |_=>aC
noncomputable def cW(K:aH)(T:List Str):Nat->CC->ao->Option (Kd×E)
 |0,_,_=>aC
 |n+1,C,e=>match e with
  |.Call (.Name f p) args [] pos=>if f==("range" : Str)then(if v9 K C f then(match args with
   |[a]=>(cE K T n C a).map λx=>(.bM,.cons x .nil)
   |[a,b]=>(match cE K T n C a,cE K T n C b with
    |some x,aB y=>aB (.vL,.cons x (.cons y .nil))
    |_,_=>aC)
   |_=>aC)else aC)
   else if f==("enumerate" : Str)then(if v9 K C f then(match args with|[a]=>(cE K T n C a).map λx=>(.pI,x)|_=>aC)else aC)
   else if f==("zip" : Str)then(if v9 K C f then(match args with
    |[a,b]=>(match cE K T n C a,cE K T n C b with
     |some x,aB y=>aB (.zip,.cons x (.cons y .nil))
     |_,_=>aC)
    |_=>aC)else aC)
   else(cE K T n C (.Call (.Name f p) args [] pos)).map λx=>(.seq,x)
  |.Set ..=>aC
  |e=>(cE K T n C e).map λx=>(.seq,x)
end
noncomputable def oj(f:aq->Option S):List aq->Option S
 |[]=>aB .skip
 |s::r=>match f s,oj f r with
  |some a,aB b=>aB (.seq a b)
  |_,_=>aC
noncomputable def cS(K:aH)(T:List Str)(d:Nat):Nat->CC->aq->Option S
 |0,_,_=>aC
 |n+1,C,s=>match s with
  |.Pass _=>aB .skip
  |.Break _=>aB .brk
  |.Continue _=>aB .cnt
  |.Raise ..=>aB .no
  |.Return r _=>(match r with
   |none=>aB (.ret (.cst .aL))
   |some e=>(cE K T d C e).map .ret)
  |.Expr e _=>if EJ e then(cE K T d C e).map .expr else aC
  |.Assign l e _=>(match l with
   |[t]=>(match t with
    |.Name x p=>(match gY C (.Name x p),cE K T d C e with
    |some i,aB c=>aB (.set i c)
    |_,_=>aC)
    |.Tuple ts _ _=>if nZ e then(match aP (gY C) ts,cE K T d C e with
    |some is,aB c=>aB (.vN is c)
    |_,_=>aC)else aC
    |.Subscript o i _=>if BR i then(match cE K T d C o,cE K T d C i,cE K T d C e with
    |some x,aB y,aB z=>aB (.put x y z)
    |_,_,_=>aC)else aC
    |_=>aC)
   |_=>aC)
  |.AugAssign t O e _=>(match t with
   |.Name x p=>(match gY C (.Name x p),rD O,cE K T d C e with
    |some i,aB o,aB c=>aB (.aug i o c)
    |_,_,_=>aC)
   |_=>aC)
  |.If c a b _=>(match cT K T d C c,oj (cS K T d n C) a,oj (cS K T d n C) b with
   |some z,aB x,aB y=>aB (.ite z x y)
   |_,_,_=>aC)
  |.For tg it b el _=>(match el with
   |[]=>(match cW K T d C it,ym C tg,oj (cS K T d n C) b with
    |some (kd,a),aB t,aB x=>if yl kd tg then aB (.for kd a t x)else aC
    |_,_,_=>aC)
   |_=>aC)
  |.While c b el _=>(match el with
   |[]=>(match cT K T d C c,oj (cS K T d n C) b with
    |some z,aB x=>aB (.Ey z x)
    |_,_=>aC)
   |_=>aC)
  |_=>aC
structure gZ(X:Cx)(C:CC)(T:List Str)(F:Nat->Option Fn)(k:Nat):Prop where
 hN:X.N=C.N
 nd:C.N.Nodup
 vis:∀x,rG (C.names.lookup x)=true->xU X.env.scope x
 loc:∀x,rH C.t9 (C.names.lookup x)=true->Loc X.env.scope x/\(X.fn x=true\/X.env.scope.names.lookup x=aB .local)
 gl:∀x,C.names.lookup x=aB .globalImplicit->Gl X x
 cf:∀x,(C.names.lookup x=aB .cell\/C.names.lookup x=aB .free)->X.env.kindOf x=aB .cell\/X.env.kindOf x=aB .free
 calm:X.calm=true
 room:cU k X.A
 xe:X.xe=λ_ _=>False
 PK:X.env.scope.kind=.function
 B4:∀x v,PySem.W.nsIn X.K mainGlobals x=aB (aB v)->X.mg x=aB v
 IV:∀x,PySem.W.nsIn X.K mainGlobals x=aB aC->X.mg x=aC
 fns:∀(i:Nat)(x:Str),T[i]?=aB x->x≠""->∃f fd ps fn,fQ X.K x=aB f/\fq X.prog X.w X.K X.mg X.base kJ k f fd ps (nU X.K ps.length (run F k i))/\PySem.W.keepIn X.K (.ref f)=true/\Binds X.K fd ps []/\F i=aB fn/\fn.ps=ps.length/\(gg X.K x=true->Binds X.K fd ps [.none])
section
variable{X:Cx}{C:CC}{T:List Str}{F:Nat->Option Fn}{k:Nat}
theorem gZ.EO(O:gZ X C T F k):X.A.units+65<cLine:=by have:=O.room.un;lia
theorem gZ.u2(O:gZ X C T F k):X.A.units+2<cLine:=Nat.lt_of_le_of_lt (Nat.add_le_add_left (by decide:2<=64) _) O.room.units
theorem B5(O:gZ X C T F k){x:Str}(h:v9 X.K C x):Gl X x/\X.mg x=aC:=by unfold v9 at h;rw[bE]at h;refine⟨O.gl x (by simpa using h.1),O.IV x ?_⟩;have h2:=h.2;split at h2;assumption;cases h2
theorem k7(O:gZ X C T F k){e:ao}{i:Nat}(h:gY C e=aB i):nV X e i:=by unfold gY at h;split at h;split at h;rename_i hc;rw[bE]at hc;obtain⟨h1,h2⟩:=O.loc _ hc.2;exact⟨_,_,rfl,by rw[O.hN];exact IT h,h1,h2⟩;cases h;cases h
theorem IW(O:gZ X C T F k):∀{es:List ao} {is:List Nat},aP (gY C) es=aB is->Paired (nV X) es is
 |[],_,h=>by cases h;exact .nil
 |e::es,is,h=>by
  unfold aP at h;split at h;rename_i b hb;split at h;rename_i bs B3;cases h;exact .cons (k7 O hb) (IW O B3);cases h;cases h
theorem k8(O:gZ X C T F k){e:ao}{t:Tg}(h:ym C e=aB t):PG X e (dh X.K t):=by
 unfold ym at h;split at h;rename_i x p;cases z:gY C (.Name x p)with
 |none=>rw[z]at h;cases h
 |some i=>
  rw[z]at h;cases h;obtain⟨x',p',e,h1,h2,h3⟩:=k7 O z;cases e;exact W7 (O.hN▸O.nd) h1 h2 h3
 rename_i es kx p;cases z:aP (gY C) es with|none=>rw[z]at h;cases h|some is=>rw[z]at h;cases h;exact OT O.calm (O.hN▸O.nd) (IW O z)
 cases h
theorem iJ{f:ao->Option E}{cl:Call}(ih:∀e c,f e=aB c->SE X e (ev cl c)/\gH e):∀{es:List ao} {c:E},cL f es=aB c->SA X es (ev cl c)/\es.all gH=true
 |[],_,h=>by cases h;exact⟨Bk,rfl⟩
 |e::es,c,h=>by
  unfold cL at h;split at h;rename_i a r ha hr;cases h;obtain⟨h1,h2⟩:=ih e a ha;obtain⟨h3,h4⟩:=iJ ih hr;exact⟨vS h1 h3 (gf h2),by rw[pq,h2,h4];rfl⟩;cases h
theorem PL{f:ao->Option E}{cl:Call}{pos:Pos}(ih:∀e c,f e=aB c->SE X e (ev cl c)/\gH e):∀{ks:List (Option ao)} {vs:List ao} {c:E},EN f ks vs=aB c->BA X pos ks vs (ev cl c)
 |[],[],_,h=>by cases h;exact WO
 |[],_::_,_,h=>by cases h
 |none::_,_,_,h=>by cases h
 |some _::_,[],_,h=>by cases h
 |some a::ks,v::vs,c,h=>by
  unfold EN at h;split at h;rename_i x y r hx hy hr;cases h;exact WQ (ih _ _ hx).1 (ih _ _ hy).1 (PL ih hr);cases h
theorem k9{f:ao->Option E}{cl:Call}{pos:Pos}(ih:∀e c,f e=aB c->SE X e (ev cl c)/\gH e):∀{es:List ao} {c:E},(cB true f es=aB c->SE X (.BoolOp .And es pos) (ev cl c))/\(cB false f es=aB c->SE X (.BoolOp .Or es pos) (ev cl c))
 |[],_=>⟨(λh=>nomatch h),(λh=>nomatch h)⟩
 |[a],c=>⟨λh=>OB (ih a c h).1,λh=>OB (ih a c h).1⟩
 |a::b::r,c=>by
  refine⟨λh=>?_,λh=>?_⟩;unfold cB at h;split at h;rename_i x y hx hy;cases h;exact Wj (ih a x hx).1 ((k9 ih).1 hy);cases h;unfold cB at h;split at h;rename_i x y hx hy;cases h;exact Bu (ih a x hx).1 ((k9 ih).2 hy);cases h
theorem ER{f:ao->Option E}{cl:Call}{pos:Pos}(ih:∀e c,f e=aB c->ST X e (ev cl c)):∀{es:List ao} {c:E},(cB true f es=aB c->SW X (.BoolOp .And es pos) (ev cl c))/\(cB false f es=aB c->SW X (.BoolOp .Or es pos) (ev cl c))
 |[],_=>⟨(λh=>nomatch h),(λh=>nomatch h)⟩
 |[a],c=>⟨λh=>OA (ih a c h),λh=>OA (ih a c h)⟩
 |a::b::r,c=>by
  refine⟨λh=>?_,λh=>?_⟩;unfold cB at h;split at h;rename_i x y hx hy;cases h;exact Wi (ih a x hx) ((ER ih).1 hy);cases h;unfold cB at h;split at h;rename_i x y hx hy;cases h;exact Bt (ih a x hx) ((ER ih).2 hy);cases h
theorem ua{f:ao->Option E}{cl:Call}(ih:∀e c,f e=aB c->SE X e (ev cl c)/\gH e){o:Option ao}{b:Bool}{c:E}(h:cO f o=aB (b,c)):PO X o (iY X.K b (ev cl c)):=by
 unfold cO at h;split at h;cases h;exact Ws;rename_i e;cases z:f e with|none=>rw[z]at h;cases h|some c'=>rw[z]at h;cases h;exact Wt (ih _ _ z).1
theorem Yt{x:Str}{t:Ty}(h:wc x=aB t):bootBuiltins x=aB (.type (rm t)):=by unfold wc at h;split at h;rename_i e;cases h;rw[show x = "int" by simpa using e];exact PyProof.Rows.boot_int;split at h;rename_i e;cases h;rw[show x = "bool" by simpa using e];decide +kernel;split at h;rename_i e;cases h;rw[show x = "tuple" by simpa using e];exact PyProof.Rows.boot_tuple;split at h;rename_i e;cases h;rw[show x = "list" by simpa using e];exact PyProof.Rows.boot_list;split at h;rename_i e;cases h;rw[show x = "str" by simpa using e];decide +kernel;split at h;rename_i e;cases h;rw[show x = "dict" by simpa using e];decide +kernel;cases h
theorem B6{x:Str}{b:Bi}{e:ao}{es:List ao}{fa:FE}{p pos:Pos}(h:wg x=aB b)(hg:Gl X x)(hm:X.mg x=aC)(hn:okN x)(hc:X.calm)(ha:SA X (e::es) fa)(hs:(e::es).all gH):SE X (.Call (.Name x p) (e::es) [] pos) (i6 fa (gT b)):=by
 obtain⟨n1,_,n2⟩:=yk hn;unfold wg at h;split at h;rename_i z;cases h;have z:x = "len":=by simpa using z
 subst z;exact yi TZ Ww hg hm PySem.boot_len ha hs n2 n1;split at h;rename_i z;cases h;have z:x = "list":=by simpa using z
 subst z;exact Io T3 Wx hg hm PyProof.Rows.boot_list ha hs n2 n1;split at h;rename_i z;cases h;have z:x = "tuple":=by simpa using z
 subst z;exact Io T4 Wy hg hm PyProof.Rows.boot_tuple ha hs n2 n1;split at h;rename_i z;cases h;have z:x = "int":=by simpa using z
 subst z;exact Io Tc Wz hg hm PyProof.Rows.boot_int ha hs n2 n1;split at h;rename_i z;cases h;have z:x = "abs":=by simpa using z
 subst z;exact yi S7 WA hg hm (by decide +kernel) ha hs n2 n1;split at h;rename_i z;cases h;have z:x = "max":=by simpa using z
 subst z;exact yi ((S8 hc).or (Ym hc)) WB hg hm (by decide +kernel) ha hs n2 n1;split at h;rename_i z;cases h;have z:x = "min":=by simpa using z
 subst z;exact yi (S9 hc) WC hg hm (by decide +kernel) ha hs n2 n1;split at h;rename_i z;cases h;have z:x = "all":=by simpa using z
 subst z;exact yi (Vl hc) WD hg hm (by decide +kernel) ha hs n2 n1;split at h;rename_i z;cases h;have z:x = "sorted":=by simpa using z
 subst z;exact yi Yi Yl hg hm (by decide +kernel) ha hs n2 n1;cases h
theorem Yu{b:ao}(h:BR b):GK b:=λo i=>by cases b<;>first|rfl|cases h
end
section
variable{X:Cx}{C:CC}{T:List Str}{F:Nat->Option Fn}{k:Nat}
theorem uc{env:Env}{kd:NameKind}(hk:kd≠.free):∀{l:List (Str×NameKind)} {x:Str},l.lookup x=aB kd->
 (l.map λ(n,k)=>if(k==NameKind.free&&env.scope.kind == .function&&env.kindOf n==aB .cell)then(n,NameKind.cell)else(n,k)).lookup x=aB kd
 |[],_,h=>by cases h
 |(n,j)::r,x,h=>by
  rw[dw];simp only[fV]at h;by_cases hx:(x==n)=true;simp only[hx]at h;cases h;have:(kd==NameKind.free)=false:=by simpa using hk
  simp only[this,xB,dO,di,fV,hx];have hx':(x==n)=false:=by simpa using hx
  simp only[hx']at h;have ih:=uc (env:=env) hk (l:=r) (x:=x) h;by_cases hc':(j==NameKind.free&&env.scope.kind == .function&&env.kindOf n==aB .cell)=true;simp only[hc',bX,fV,hx'];exact ih;have hcf:(j==NameKind.free&&env.scope.kind == .function&&env.kindOf n==aB .cell)=false:=by simpa using hc'
  simp only[hcf,dO,di,fV,hx'];exact ih
theorem IX(O:gZ X C T F k){sc:ay}{ix:List Nat}(h:rJ C sc ix):aW X (ownOf sc) (gh sc) ix sc/\(ownOf sc++gh sc).Nodup:=by
 unfold rJ at h;simp only[bE,eE,lJ]at h;obtain⟨⟨⟨⟨⟨⟨⟨⟨h1,h2⟩,h2'⟩,h3⟩,h4⟩,h5⟩,h6⟩,h7⟩,h8⟩:=h;refine⟨⟨h1,h2,h3,h4,h2',λy hy e=>O.cf _ (h5 y hy e),λq x e=>?_,h6⟩,h8⟩;have hk:q< (gh sc).length:=(kB.mp e).1;have:=h7 q (uQ.mpr hk);rw[e]at this;cases z:ix[q]? with
 |none=>rw[z]at this;cases this
 |some j=>
  rw[z]at this;simp only[bE,eE]at this;exact⟨j,rfl,by rw[O.hN];exact this.1,this.2⟩
theorem yo(O:gZ X C T F k){sc:ay}{ix:List Nat}(h:rJ C sc ix)(D:ah)(s₀:af)(H₀:Hp)(ex:List ah):gZ (X.comp (ownOf sc++gh sc) sc D s₀ H₀ ex) (jR sc) T F k:=by
 obtain⟨S,nd⟩:=IX O h;refine⟨rfl,nd,λx hx=>?_,λx hx=>?_,λx hx=>?_,λx hx=>?_,O.calm,O.room,rfl,S.kind,O.B4,O.IV,O.fns⟩;have hx:rG (sc.names.lookup x)=true:=hx;cases z:sc.names.lookup x with
 |none=>rw[z]at hx;cases hx
 |some kd=>
  cases kd with
  | «local»=>exact .inl (uc (by decide) z)
  |cell=>exact .inr (.inl (uc (by decide) z))
  |free=>
   have:=DO (env:=X.env) O.PK z;by_cases hc:X.env.kindOf x=aB .cell;rw[if_pos hc]at this;exact .inr (.inl this);rw[if_neg hc]at this;exact .inr (.inr this)
  |globalExplicit=>rw[z]at hx;cases hx
  |globalImplicit=>rw[z]at hx;cases hx
 have hx:rH true (sc.names.lookup x)=true:=hx;cases z:sc.names.lookup x with
 |none=>rw[z]at hx;cases hx
 |some kd=>
  cases kd with| «local»=>exact⟨.inl (uc (by decide) z),.inr (uc (by decide) z)⟩|cell=>exact⟨.inr (uc (by decide) z),.inl (by show(sc.names.lookup x==aB NameKind.cell)=true;rw[z];rfl)⟩|free=>rw[z]at hx;cases hx|globalExplicit=>rw[z]at hx;cases hx|globalImplicit=>rw[z]at hx;cases hx
 exact uc (by decide) hx;have hx:sc.names.lookup x=aB .cell\/sc.names.lookup x=aB .free:=hx;rcases hx with z|z
 exact .inl (uc (by decide) z);have:=DO (env:=X.env) O.PK z;by_cases hc:X.env.kindOf x=aB .cell;rw[if_pos hc]at this;exact .inl this;rw[if_neg hc]at this;exact .inr this
end
theorem map_some{α β:Type}{o:Option α}{f:α->β}{b:β}(h:o.map f=aB b):∃a,o=aB a/\b=f a:=by
 cases o with|none=>cases h|some a=>cases h;exact⟨a,rfl,rfl⟩
structure mD(X:Cx)(C:CC)(T:List Str)(F:Nat->Option Fn)(k n:Nat):Prop where
 e:∀e c,cE X.K T n C e=aB c->SE X e (ev (run F k) c)/\gH e=true
 t:∀e c,cT X.K T n C e=aB c->ST X e (ev (run F k) c)
 w:∀e kd c tg,cW X.K T n C e=aB (kd,c)->yl kd tg=true->PI X tg e (cC X.K kd (ev (run F k) c))/\∀x,foldedSetIterable e X.env x=pure x
section
variable{X:Cx}{C:CC}{T:List Str}{F:Nat->Option Fn}{k n:Nat}
theorem B7(O:gZ X C T F k)(ih:mD X C T F k n)(e:ao)(c:E)(h:cT X.K T (n+1) C e=aB c):ST X e (ev (run F k) c):=by unfold cT at h;split at h;split at h;split at h;rename_i hs;split at h;rename_i h1 h2 h3;cases h;exact Wd O.EO h1 hs (ih.e _ _ h2).1 (ih.e _ _ h3).1;cases h;cases h;split at h;rename_i hs;split at h;rename_i h1 h2 h3 h4 h5;cases h;exact Wf O.EO h1 h2 hs (ih.e _ _ h3).1 (ih.e _ _ h4).1 (ih.e _ _ h5).1;cases h;cases h;cases h;split at h;obtain⟨a,h1,rfl⟩:=map_some h;exact Wg (ih.t _ _ h1);cases h;split at h;exact((ER ih.t).1 h).pt;exact((ER ih.t).2 h).pt;obtain⟨a,h1,rfl⟩:=map_some h;exact Il (ih.e _ _ h1).1 λ_=>rfl;obtain⟨a,h1,rfl⟩:=map_some h;exact Il (ih.e _ _ h1).1 λ_=>rfl;obtain⟨a,h1,rfl⟩:=map_some h;exact Il (ih.e _ _ h1).1 λ_=>rfl;cases h
theorem B8{e:ao}(h:∀a b c,e≠.Set a b c){env:Env}:∀x,foldedSetIterable e env x=pure x:=by intro x;cases e<;>first|rfl|exact absurd rfl (h _ _ _)
theorem B9(O:gZ X C T F k)(ih:mD X C T F k n)(e:ao)(kd:Kd)(c:E)(tg:ao)(h:cW X.K T (n+1) C e=aB (kd,c))(hw:yl kd tg):PI X tg e (cC X.K kd (ev (run F k) c))/\∀x,foldedSetIterable e X.env x=pure x:=by
 unfold cW at h;split at h;rename_i f p args pos;refine⟨?_,λx=>rfl⟩;split at h;rename_i hf;have hf:f = "range":=by simpa using hf
 subst hf;split at h;rename_i ha;obtain⟨g1,g2⟩:=B5 O ha;split at h;rename_i a;obtain⟨x,h1,h2⟩:=map_some h;cases h2;obtain⟨h3,h4⟩:=ih.e _ _ h1;exact WX (vS h3 Bk (gf h4)) h4 g1 g2;rename_i a b;split at h;rename_i x y h1 h2;cases h;obtain⟨h3,h4⟩:=ih.e _ _ h1;obtain⟨h5,h6⟩:=ih.e _ _ h2;exact WY (vS h3 (vS h5 Bk (gf h6)) (gf h4)) h4 h6 g1 g2;cases h;cases h;cases h;split at h;rename_i hf;have hf:f = "enumerate":=by simpa using hf
 subst hf;split at h;rename_i ha;obtain⟨g1,g2⟩:=B5 O ha;split at h;rename_i a;obtain⟨x,h1,h2⟩:=map_some h;cases h2;obtain⟨h3,h4⟩:=ih.e _ _ h1;cases tg<;>first|exact W3 h3 h4 g1 g2|cases hw
 cases h;cases h;split at h;rename_i hf;have hf:f = "zip":=by simpa using hf
 subst hf;split at h;rename_i ha;obtain⟨g1,g2⟩:=B5 O ha;split at h;rename_i a b;split at h;rename_i x y h1 h2;cases h;obtain⟨h3,h4⟩:=ih.e _ _ h1;obtain⟨h5,h6⟩:=ih.e _ _ h2;cases tg<;>first|exact W6 (vS h3 (vS h5 Bk (gf h6)) (gf h4)) h4 h6 g1 g2|cases hw
 cases h;cases h;cases h;obtain⟨x,h1,h2⟩:=map_some h;cases h2;exact ON (ih.e _ _ h1).1;cases h;rename_i hns;obtain⟨x,h1,h2⟩:=map_some h;cases h2;exact⟨ON (ih.e _ _ h1).1,B8 (by first|exact hns|(intro a b c z;exact hns a b c z))⟩
end
section
variable{X:Cx}{C:CC}{T:List Str}{F:Nat->Option Fn}{k n:Nat}
theorem Yv(O:gZ X C T F k){x:Str}{p:Pos}{c:E}(h:cE X.K T (n+1) C (.Name x p)=aB c):SE X (.Name x p) (ev (run F k) c):=by simp only[cE]at h;split at h;rename_i hn;obtain⟨n1,n2,n3⟩:=yk hn;split at h;rename_i hv;obtain⟨i,h1,rfl⟩:=map_some h;exact V0 (by rw[O.hN];exact IT h1) (O.vis x hv) n1 n2;split at h;rename_i hg;split at h;rename_i v hv;obtain⟨w,h1,rfl⟩:=map_some h;obtain⟨y,h2,h3⟩:=PD 8 v w h1;exact Bh (RN (O.gl x (by simpa using hg)) (O.B4 x v hv) h2 n1) h3;cases h;cases h;cases h
theorem Yw{f:Str}{args:List ao}{a:ao}(h:we f args=aB a):∃p pos,f = "list"/\args=[.Call (.Name "range" p) [a] [] pos]:=by unfold we at h;split at h;rename_i hf;split at h;split at h;rename_i hg;cases h;simp only[beq_iff_eq]at hg;subst hg;exact⟨_,_,by simpa using hf,rfl⟩;cases h;cases h;cases h
theorem Yx(O:gZ X C T F k)(ih:mD X C T F k n){f:Str}{p pos:Pos}{args:List ao}{c:E}(h:cE X.K T (n+1) C (.Call (.Name f p) args [] pos)=aB c):SE X (.Call (.Name f p) args [] pos) (ev (run F k) c):=by
 simp only[cE]at h;split at h;rename_i hn;rw[bE]at hn;have hg:=O.gl f (by simpa using hn.2);split at h;rename_i hm;have hm:=O.IV f hm;split at h;rename_i hf;have hf:f = "isinstance":=by simpa using hf
 subst hf;split at h;rename_i a t pt;split at h;rename_i ty x h1 h2;split at h;rename_i hc;cases h;rw[bE]at hc;obtain⟨g1,g2⟩:=B5 O hc.2;obtain⟨h3,h4⟩:=ih.e _ _ h2;obtain⟨n1,n2,n3⟩:=yk hc.1;exact WH ty h3 h4 hg hm g1 g2 (Yt h1) n3 n1;cases h;cases h;cases h;split at h;rename_i a hl;split at h;rename_i hc;rw[bE]at hc;obtain⟨x,h1,rfl⟩:=map_some h;obtain⟨h2,h3⟩:=ih.e _ _ h1;obtain⟨g1,g2⟩:=B5 O hc.2;obtain⟨p2,pos2,rfl,rfl⟩:=Yw hl;exact X4 O.calm hg hm g1 g2 (vS h2 Bk (gf h3)) h3;cases h;split at h;rename_i b e es hb _;obtain⟨a,h1,rfl⟩:=map_some h;obtain⟨h2,h3⟩:=iJ ih.e h1;exact B6 hb hg hm hn.1 O.calm h2 h3;cases h;rename_i v hv;split at h;rename_i i hi;obtain⟨fa,fd,ps,fn,q1,q2,q3,q4,q5,q6,q7⟩:=O.fns i f (IT hi) (Yo hn.1);have q1:=Ph q1;split at h;rename_i IY;rw[bE]at IY;obtain⟨a,h1,rfl⟩:=map_some h;obtain⟨h2,h3⟩:=iJ ih.e h1;have hl:∀ws h w h',run F k i ws h=.ok w h'->ws.length=ps.length:=λws h w h' e=>by rw[IK q5 e,q6]
 have hev:ev (run F k) (.call i (mC a))=i6 (ev (run F k) a) (λws h=>run F k i (ws++[.aL]) h):=by
  funext ρ h;simp only[ev,Yr (PF h1)];show Res.bind (Res.bind (ev (run F k) a ρ h) _) _=Res.bind (ev (run F k) a ρ h) _;cases ev (run F k) a ρ h with|no=>rfl|ex _ _=>rfl|ok y h2=>cases y<;>rfl
 rw[hev];cases args with|nil=>cases IY.2|cons e es=>exact WU q2 O.room hg (O.B4 f _ q1) q3 (q7 (Yq IY.1)) h2 h3 (yk hn.1).1 hl
 obtain⟨a,h1,rfl⟩:=map_some h;obtain⟨h2,h3⟩:=iJ ih.e h1;have hl:∀ws h w h',run F k i ws h=.ok w h'->ws.length=ps.length:=λws h w h' e=>by rw[IK q5 e,q6]
 cases args with
 |nil=>
  simp only[cL]at h1;cases h1;exact WT q2 O.room hg (O.B4 f _ q1) q3 q4 (yk hn.1).1 hl
 |cons e es=>exact WS q2 O.room hg (O.B4 f _ q1) q3 q4 h2 h3 (yk hn.1).1 hl
 cases h;cases h;cases h
theorem Yy(O:gZ X C T F k)(ih:mD X C T F k n){o:ao}{m:Str}{ap pos:Pos}{args:List ao}{c:E}(h:cE X.K T (n+1) C (.Call (.Attribute o m ap) args [] pos)=aB c):SE X (.Call (.Attribute o m ap) args [] pos) (ev (run F k) c):=by
 simp only[cE]at h;split at h;rename_i hn;rw[bE]at hn;split at h;rename_i x a hx;split at h;rename_i hm;have hm:m = "append":=by simpa using hm
 subst hm;obtain⟨y,h1,rfl⟩:=map_some h;obtain⟨h2,h3⟩:=ih.e _ _ h1;exact WN (ih.e _ _ hx).1 h2 hn.1 h3 hn.2;cases h;cases h;cases h
theorem IZ{ow fr:List Str}{sc:ay}{ifs:List ao}{c:E}(O:∀D s₀ H₀ ex,mD (X.comp (ow++fr) sc D s₀ H₀ ex) (jR sc) T F k n)
 (h:(match ifs with|[]=>aB (E.cst (.bl true))|[c]=>cT X.K T n (jR sc) c|_=>aC)=aB c) (D:ah) (s₀:af) (H₀:Hp) (ex:List ah):iH (X.comp (ow++fr) sc D s₀ H₀ ex) ifs (dD X.K (ev (run F k) c)):=by
 split at h;cases h;exact λpins s σ H Q I z9=>z9.el λρ h m b h' f r e q=>by
  cases e;exact Uo pins s σ H Q I (q H m .refl r)
 exact Up ((O D s₀ H₀ ex).t _ _ h);cases h
theorem PN(O:gZ X C T F k)(ih:mD X C T F k n)(mE:∀{sc:ay} {ix:List Nat},rJ C sc ix=true->∀D s₀ H₀ ex,mD (X.comp (ownOf sc++gh sc) sc D s₀ H₀ ex) (jR sc) T F k n)
 {elt tg iter:ao} {ifs:List ao} {sc:ay} {pos:Pos} {c:E} (h:cE X.K T (n+1) C (.ListComp elt [⟨tg,iter,ifs,0⟩] sc pos)=aB c) :
 ∃kd a t ix cc ce,c=.lc kd a t (ownOf sc).length ix cc ce/\aW X (ownOf sc) (gh sc) ix sc/\PI X tg iter (cC X.K kd (ev (run F k) a))/\(∀D s₀ H₀ ex,PG (X.comp (ownOf sc++gh sc) sc D s₀ H₀ ex) tg (dh X.K t))/\
  (∀D s₀ H₀ ex,iH (X.comp (ownOf sc++gh sc) sc D s₀ H₀ ex) ifs (dD X.K (ev (run F k) cc)))/\(∀D s₀ H₀ ex,PE (X.comp (ownOf sc++gh sc) sc D s₀ H₀ ex) elt (fT X.K (ev (run F k) ce)))/\∀x,foldedSetIterable iter X.env x=pure x:=by
 simp only[cE]at h;split at h
 .rename_i ix hix
  split at h
  .rename_i hc
   split at h
   .rename_i kd a t cc ce h1 h2 h3 h4
    split at h
    case isFalse=>cases h
    rename_i hw;cases h;obtain⟨w1,w2⟩:=ih.w _ _ _ tg h1 hw;exact⟨kd,a,t,ix,cc,ce,rfl,(IX O hc).1,w1,λD s₀ H₀ ex=>k8 (yo O hc D s₀ H₀ ex) h2,IZ (mE hc) h3,λD s₀ H₀ ex=>((mE hc D s₀ H₀ ex).e _ _ h4).1,w2⟩
   cases h
  cases h
 cases h
theorem PR(O:gZ X C T F k)(ih:mD X C T F k n)(mE:∀{sc:ay} {ix:List Nat},rJ C sc ix=true->∀D s₀ H₀ ex,mD (X.comp (ownOf sc++gh sc) sc D s₀ H₀ ex) (jR sc) T F k n)
 {elt tg iter fX bw:ao} {ifs dg:List ao} {sc:ay} {pos:Pos} {c:E} (h:cE X.K T (n+1) C (.ListComp elt [⟨tg,iter,ifs,0⟩,⟨fX,bw,dg,0⟩] sc pos)=aB c) :
 ∃kd a t ix cc gX a2 t2 yp ce,c=.tW kd a t (ownOf sc).length ix cc gX a2 t2 yp ce/\aW X (ownOf sc) (gh sc) ix sc/\PI X tg iter (cC X.K kd (ev (run F k) a))/\(∀D s₀ H₀ ex,PG (X.comp (ownOf sc++gh sc) sc D s₀ H₀ ex) tg (dh X.K t))/\
  (∀D s₀ H₀ ex,iH (X.comp (ownOf sc++gh sc) sc D s₀ H₀ ex) ifs (dD X.K (ev (run F k) cc)))/\
  (∀D s₀ H₀ ex,PI (X.comp (ownOf sc++gh sc) sc D s₀ H₀ ex) fX bw (cC X.K gX (ev (run F k) a2)))/\(∀D s₀ H₀ ex,PG (X.comp (ownOf sc++gh sc) sc D s₀ H₀ ex) fX (dh X.K t2))/\
  (∀D s₀ H₀ ex,iH (X.comp (ownOf sc++gh sc) sc D s₀ H₀ ex) dg (dD X.K (ev (run F k) yp)))/\(∀D s₀ H₀ ex,PE (X.comp (ownOf sc++gh sc) sc D s₀ H₀ ex) elt (fT X.K (ev (run F k) ce)))/\
  (∀x,foldedSetIterable iter X.env x=pure x)/\∀D s₀ H₀ ex x,foldedSetIterable bw (X.comp (ownOf sc++gh sc) sc D s₀ H₀ ex).env x=pure x:=by
 simp only[cE]at h;split at h
 .rename_i ix hix
  split at h
  .rename_i hc
   split at h
   .rename_i kd a t cc ce h1 h2 h3 h4
    split at h
    case isFalse=>cases h
    rename_i hw;split at h
    .rename_i gX a2 t2 yp h5 h6 h7
     split at h
     case isFalse=>cases h
     rename_i PU;cases h;obtain⟨w1,w2⟩:=ih.w _ _ _ tg h1 hw;exact⟨kd,a,t,ix,cc,gX,a2,t2,yp,ce,rfl,(IX O hc).1,w1,λD s₀ H₀ ex=>k8 (yo O hc D s₀ H₀ ex) h2,IZ (mE hc) h3,λD s₀ H₀ ex=>((mE hc D s₀ H₀ ex).w _ _ _ fX h5 PU).1,λD s₀ H₀ ex=>k8 (yo O hc D s₀ H₀ ex) h6,IZ (mE hc) h7,
      λD s₀ H₀ ex=>((mE hc D s₀ H₀ ex).e _ _ h4).1,w2,λD s₀ H₀ ex=>((mE hc D s₀ H₀ ex).w _ _ _ fX h5 PU).2⟩
    cases h
   cases h
  cases h
 cases h
theorem Ca(O:gZ X C T F k)(ih:mD X C T F k n)(mE:∀{sc:ay} {ix:List Nat},rJ C sc ix=true->∀D s₀ H₀ ex,mD (X.comp (ownOf sc++gh sc) sc D s₀ H₀ ex) (jR sc) T F k n)
 (e:ao) (c:E) (h:cE X.K T (n+1) C e=aB c):SE X e (ev (run F k) c)/\gH e=true:=by
 have h0:=h;unfold cE at h;split at h;exact⟨Yv O h0,rfl⟩;refine⟨?_,rfl⟩;split at h;cases h;exact V1;cases h;exact Bj;cases h;exact V2;cases h;exact V3;cases h;obtain⟨a,h1,rfl⟩:=map_some h;exact⟨V4 (iJ ih.e h1).1,rfl⟩;obtain⟨a,h1,rfl⟩:=map_some h;exact⟨V5 (iJ ih.e h1).1,rfl⟩;refine⟨?_,rfl⟩;split at h;split at h;cases h;exact Yn;cases h;split at h;rename_i hc;simp only[bE]at hc;obtain⟨a,h1,rfl⟩:=map_some h;exact WR O.u2 (PL ih.e h1) hc.2 (yM hc.1.2) (by simp) (jf hc.1.1);cases h;refine⟨?_,rfl⟩;split at h;rename_i h1 h2 h3;cases h;exact Bm (Bp h1) (V9 _) (ih.e _ _ h2).1 (ih.e _ _ h3).1;cases h;split at h;obtain⟨a,h1,rfl⟩:=map_some h;exact⟨Wh (ih.e _ _ h1).1,rfl⟩;obtain⟨a,h1,rfl⟩:=map_some h;exact⟨Wm (ih.e _ _ h1).1,rfl⟩;cases h;split at h;exact⟨(k9 ih.e).1 h,rfl⟩;exact⟨(k9 ih.e).2 h,rfl⟩;split at h;refine⟨?_,rfl⟩;split at h;rename_i hs;split at h;rename_i h1 h2 h3;cases h;exact Wc O.EO h1 hs (ih.e _ _ h2).1 (ih.e _ _ h3).1;cases h;cases h;refine⟨?_,rfl⟩;split at h;rename_i hs;split at h;rename_i h1 h2 h3 h4 h5;cases h;exact We O.EO h1 h2 hs (ih.e _ _ h3).1 (ih.e _ _ h4).1 (ih.e _ _ h5).1;cases h;cases h;cases h;refine⟨?_,rfl⟩;split at h;rename_i h1 h2 h3;cases h;exact Wk (ih.t _ _ h1) (ih.e _ _ h2).1 (ih.e _ _ h3).1;cases h;split at h;split at h;refine⟨?_,rfl⟩;split at h;rename_i h1 h2 h3;cases h;exact Wv (ih.e _ _ h1).1 (ua ih.e h2) (ua ih.e h3);cases h;cases h;refine⟨?_,rfl⟩;split at h;rename_i hs;split at h;rename_i h1 h2;cases h;exact Wr O.u2 (ih.e _ _ h1).1 (ih.e _ _ h2).1 (Yu hs);cases h;cases h;split at h;split at h;exact⟨Yx O ih h0,rfl⟩;exact⟨Yy O ih h0,rfl⟩;cases h;cases h;split at h;split at h;refine⟨?_,rfl⟩;obtain⟨kd,a,t,ix,cc,ce,rfl,S,w1,w2,w3,w4,w5⟩:=PN O ih mE h0;exact BQ S O.calm w1 w2 w3 w4 w5;cases h;split at h;split at h;refine⟨?_,rfl⟩;obtain⟨kd,a,t,ix,cc,gX,a2,t2,yp,ce,rfl,S,w1,w2,w3,v1,v2,v3,w4,w5,v5⟩:=PR O ih mE h0;exact Xw S O.calm w1 w2 w3 v1 v2 v3 w4 w5 v5;cases h;cases h;cases h;cases h
end
theorem ud{T:List Str}{F:Nat->Option Fn}{k:Nat}:∀(n:Nat) {X:Cx} {C:CC},gZ X C T F k->mD X C T F k n
 |0,_,_,_=>⟨(λe c h=>nomatch h),(λe c h=>nomatch h),(λe kd c tg h _=>nomatch h)⟩
 |n+1,X,C,O=>by
  have ih:=ud n O;have mE:∀{sc:ay}{ix:List Nat},rJ C sc ix=true->∀D s₀ H₀ ex,mD (X.comp (ownOf sc++gh sc) sc D s₀ H₀ ex) (jR sc) T F k n:=λhc D s₀ H₀ ex=>ud n (yo O hc D s₀ H₀ ex);exact⟨Ca O ih mE,B7 O ih,B9 O ih⟩
section
variable{X:Cx}{C:CC}{T:List Str}{F:Nat->Option Fn}{k d:Nat}
theorem wj{f:aq->Option S}{cl:Call}(ih:∀st c,f st=aB c->SS X st (exs cl c)):∀{sts:List aq} {c:S},oj f sts=aB c->rz X sts (exs cl c)
 |[],_,h=>by cases h;exact Xl
 |s::r,c,h=>by
  unfold oj at h;split at h;rename_i a b ha hb;cases h;exact Xp (ih s a ha) (wj ih hb);cases h
theorem Yz{K:aH}{T:List Str}{n:Nat}{C:CC}{elt:ao}{gs:List Comprehension}{sc:ay}{lp:Pos}{c:E}(h:cE K T (n+1) C (.ListComp elt gs sc lp)=aB c):(∃tg iter ifs,gs=[⟨tg,iter,ifs,0⟩])\/∃tg iter ifs fX bw dg,gs=[⟨tg,iter,ifs,0⟩,⟨fX,bw,dg,0⟩]:=by simp only[cE]at h;split at h;rename_i g;split at h;exact .inl ⟨_,_,_,rfl⟩;cases h;rename_i g g2;split at h;split at h;exact .inr ⟨_,_,_,_,_,_,rfl⟩;cases h;cases h;cases h
theorem YA(O:gZ X C T F k){x:Str}{p pos:Pos}{e:ao}{i:Nat}{c:E}(hi:gY C (.Name x p)=aB i)(h:cE X.K T d C e=aB c):SS X (.Assign [.Name x p] e pos) (exs (run F k) (.set i c)):=by
 obtain⟨x',p',ex,h1,h2,h3⟩:=k7 O hi;cases ex;have nd:X.N.Nodup:=O.hN▸O.nd;have Sd:=ud (T:=T) (F:=F) (k:=k) d O;by_cases hc:EJ e=true;exact O5 nd h1 h2 h3 (Sd.e _ _ h).1 (O4 hc);cases d with
 |zero=>cases h
 |succ n=>
  cases e with
  |ListComp elt gs sc lp=>
   have sw:∃b:Bool,swapsWith (.ListComp elt gs sc lp) (aB (.Name x p)) pos.line X.env=pure b:=⟨_,rfl⟩
   obtain⟨b,hb⟩:=sw;cases b with
   |false=>exact O5 nd h1 h2 h3 (Sd.e _ _ h).1 hb
   |true=>
    rcases Yz h with⟨tg,iter,ifs,rfl⟩|⟨tg,iter,ifs,fX,bw,dg,rfl⟩;obtain⟨kd,a,t,ix,cc,ce,rfl,S,w1,w2,w3,w4,w5⟩:=PN O (ud n O) (λhc D s₀ H₀ ex=>ud n (yo O hc D s₀ H₀ ex)) h;exact Xv nd h1 h2 h3 S O.calm w1 w2 w3 w4 hb w5;obtain⟨kd,a,t,ix,cc,gX,a2,t2,yp,ce,rfl,S,w1,w2,w3,v1,v2,v3,w4,w5,v5⟩:=PR O (ud n O) (λhc D s₀ H₀ ex=>ud n (yo O hc D s₀ H₀ ex)) h;exact Xx nd h1 h2 h3 S O.calm w1 w2 w3 v1 v2 v3 w4 hb w5 v5
  |SetComp _ _ _ _=>unfold cE at h;cases h
  |DictComp _ _ _ _ _=>unfold cE at h;cases h
  |_=>exact absurd rfl hc
theorem om(O:gZ X C T F k):∀(n:Nat) (st:aq) (c:S),cS X.K T d n C st=aB c->SS X st (exs (run F k) c)
 |0,_,_,h=>by cases h
 |n+1,st,c,h=>by
  have nd:X.N.Nodup:=O.hN▸O.nd;have Sd:=ud (T:=T) (F:=F) (k:=k) d O;have ih:=om O n;have hp:PassesOwn (model X.prog X.w) X.A X.env X.xe:=by rw[O.xe];exact PassesOwn.never
  unfold cS at h;split at h;cases h;exact Xm;cases h;exact Xn;cases h;exact Xo;cases h;exact BP;split at h;cases h;exact Xu;obtain⟨a,h1,rfl⟩:=map_some h;exact Xs (Sd.e _ _ h1).1;split at h;rename_i hc;obtain⟨a,h1,rfl⟩:=map_some h;exact Xr (Sd.e _ _ h1).1 hc;cases h;split at h;split at h;split at h;rename_i i a h1 h2;cases h;exact YA O h1 h2;cases h;split at h;rename_i ht;split at h;rename_i h1 h2;cases h;exact XA O.calm nd (IW O h1) (Sd.e _ _ h2).1 ht;cases h;cases h;split at h;rename_i hs;split at h;rename_i h1 h2 h3;cases h;exact XH O.u2 (Sd.e _ _ h1).1 (Sd.e _ _ h2).1 (Sd.e _ _ h3).1 hs;cases h;cases h;cases h;cases h;split at h;split at h;rename_i h1 h2 h3;cases h;obtain⟨x',p',ex,a1,a2,a3⟩:=k7 O h1;cases ex;exact XN h2 nd a1 a2 a3 (Sd.e _ _ h3).1;cases h;cases h;split at h;rename_i h1 h2 h3;cases h;exact XQ (Sd.t _ _ h1) (wj ih h2) (wj ih h3);cases h
  .rename_i tg it b el pos
   split at h
   .split at h
    .rename_i h1 h2 h3
     split at h
     case isFalse=>cases h
     rename_i hw;cases h;obtain⟨w1,w2⟩:=Sd.w _ _ _ tg h1 hw;exact XT hp O.calm w1 (k8 O h2) (wj ih h3) w2
    cases h
   cases h
  split at h;split at h;rename_i h1 h2;cases h;exact XU hp (Sd.t _ _ h1) (wj ih h2);cases h;cases h;cases h
end
noncomputable def Ja:FuncBody->Option (List aq)|.stmts b=>aB b|_=>aC
theorem YB{d:Data}(h:EM d):∃n,d=.seq #[.none] n:=by
 cases d with
 |seq xs n=>
  obtain⟨l⟩:=xs;unfold EM at h;simp only[]at h;split at h;rename_i v;cases v<;>first|exact⟨n,rfl⟩|cases h
  cases h
 |_=>cases h
theorem YC{K:aH}{v:aa}(h:fR K v):∃t o n,v=.ref t/\K.lookup t=aB o/\o.data=.seq #[.none] n:=by
 cases v with
 |ref t=>
  have h:(match K.lookup t with|some o=>EM o.data|none=>false)=true:=h;cases e:K.lookup t with
  |none=>rw[e]at h;cases h
  |some o=>
   rw[e]at h;obtain⟨n,q⟩:=YB h;exact⟨t,o,n,rfl,e,q⟩
 |_=>cases h
noncomputable def wk(ps:List Str)(sc:ay):List Str:=ps++(sc.names.filter λy=>(y.2 == .local||y.2 == .cell) && !(ps.contains y.1)).map (·.1)
noncomputable def ET(N ps:List Str)(sc:ay):Bool:=
 decide (sc.kind=.function) && !sc.isCoroutine && !sc.isGenerator&&decide N.Nodup&&decide (N.take ps.length=ps)&&ps.all (λx=>decide (sc.names.lookup x=aB .local\/sc.names.lookup x=aB .cell))&&sc.names.all (λy=>decide (y.2≠.free))&&decide ps.Nodup
theorem YD{N ps:List Str}{sc:ay}(h:ET N ps sc):cY N ps sc/\ps.Nodup:=by unfold ET at h;simp only[bE,eE,lJ,sY]at h;obtain⟨⟨⟨⟨⟨⟨⟨h1,h2⟩,h3⟩,h4⟩,h5⟩,h6⟩,h7⟩,h8⟩:=h;exact⟨⟨h1,h2,h3,h4,h5,h6,h7⟩,h8⟩
noncomputable def iC(x:Str):Str:=x
noncomputable def cF(K:aH)(T:List Str)(d n:Nat)(x:Str):Option Fn:=match fnAt K x with
 |some (f,o,fd)=>(match v8 fd.params,Ja fd.body with
  |some args,aB body=>if fd.name==iC x&&fd.qualname==x&&Nat.beq fd.globals mainGlobals&&fd.closure.isEmpty&& (isNone fd.defaults||fR K fd.defaults && !args.isEmpty)&&Nat.beq fd.builtins builtinsNs&&PySem.W.codeIn K fd.code x&&PySem.W.keepIn K (.ref f) &&
   ET (wk (args.map (·.arg)) fd.scope) (args.map (·.arg)) fd.scope then
   (oj (cS K T d n ⟨wk (args.map (·.arg)) fd.scope,fd.scope.names,true⟩) body).map λb=>⟨(args.map (·.arg)).length,(wk (args.map (·.arg)) fd.scope).length,b⟩
   else aC
  |_,_=>aC)
 |none=>aC
theorem YE{fd:au}{x:Str}{args:List Arg}{body:List aq}(c1:(fd.name==iC x))(c2:(fd.qualname==x))(c3:Nat.beq fd.globals mainGlobals)(c4:fd.closure.isEmpty)(c6:Nat.beq fd.builtins builtinsNs)(ha:v8 fd.params=aB args)(hb:Ja fd.body=aB body) :
 ∃dx,fd=PySem.W.fnOf (iC x) x ⟨[],args,aC,[],[],aC,dx⟩ body fd.scope fd.defaults fd.kwdefaults fd.doc fd.pyModule fd.annotations fd.code fd.closureTuple:=by
 obtain⟨nm,qn,pr,bd,sc,gl,cl,df,kd,dc,pm,an,cdv,ct,bu⟩:=fd;have e1:nm=iC x:=by simpa using c1
 have e2:qn=x:=by simpa using c2
 have e3:gl=mainGlobals:=yM c3;have e4:cl=[]:=by simpa using c4
 have e6:bu=builtinsNs:=yM c6;have e7:bd=.stmts body:=by
  cases bd with|stmts b'=>cases hb;rfl|expr _=>cases hb
 obtain⟨dx,e8⟩:∃dx,pr=⟨[],args,aC,[],[],aC,dx⟩:=by unfold v8 at ha;split at ha;cases ha;rename_i z;exact⟨_,z⟩;cases ha
 exact⟨dx,by rw[e1,e2,e3,e4,e6,e7,e8]⟩
theorem YF{K:aH}{x:Str}{fd:au}{args:List Arg}{body:List aq}{dx:List ao}{sc:ay}{df kd dc pm:aa}{an:Option ah}{cdv ct:aa}{b:Bool}(e:fd=PySem.W.fnOf (iC x) x ⟨[],args,aC,[],[],aC,dx⟩ body sc df kd dc pm an cdv ct)(nd:(args.map (·.arg)).Nodup)
 (hb:b=fR K df) (c5:(isNone df||fR K df && !args.isEmpty)):Binds K fd (args.map (·.arg)) []/\(b=true->Binds K fd (args.map (·.arg)) [.none])/\(b=false->∀us:List aa,us.length=(args.map (·.arg)).length->bindArgs fd ⟨us,[]⟩=pure ((args.map (·.arg)).zip us)):=by
 subst e hb;rw[pY,bE]at c5;rcases c5 with c5|⟨c5,c0⟩
 have e5:df=.none:=by cases df<;>first|rfl|cases c5
 subst e5;exact⟨.all λus hl=>O9 hl nd,(λz=>nomatch z),λ_ us hl=>O9 hl nd⟩;obtain⟨t,o,n,rfl,hk,hd⟩:=YC c5;rw[c5];obtain⟨qs,z,Cb⟩:∃qs z,args.map (·.arg)=qs++[z]:=by rcases List.eq_nil_or_concat (args.map (·.arg))with q|⟨l,b,q⟩;rw[List.map_eq_nil_iff.mp q]at c0;cases c0;exact⟨l,b,by rw[q,List.concat_eq_append]⟩
 have Jb:=nd;rw[Cb]at Jb;refine⟨λs us hK hl=>?_,λ_ s us hK hl=>?_,λz=>nomatch z⟩;rw[kE]at hl ⊢;rw[Cb]at hl ⊢;exact XX Cb Jb (hK _ _ hk) hd hl;rw[Cb]at hl ⊢;exact XY Cb Jb (hK _ _ hk) hd (by rw[eF,eF]at hl;simpa using hl)
theorem YG{K:aH}{x:Str}{f:ah}{o:Obj}{fd:au}(h:fnAt K x=aB (f,o,fd)):fQ K x=aB f/\∃oc od sl,K.lookup f=aB ⟨oc,od,.func fd,sl⟩:=by unfold fnAt at h;split at h;rename_i f' hn;split at h;rename_i o' ho;split at h;rename_i fd' hd;cases h;refine⟨hn,o.cls,o.dict,o.slots,?_⟩;rw[<-hd];exact ho;cases h;cases h;cases h
theorem YH{K:aH}{T:List Str}{d n:Nat}{x:Str}{fn:Fn}:∀(f:ah) (o:Obj) (fd:au) (args:List Arg) (body:List aq) (b:S),fnAt K x=aB (f,o,fd)->v8 fd.params=aB args->Ja fd.body=aB body->(fd.name==iC x&&fd.qualname==x&&Nat.beq fd.globals mainGlobals&&fd.closure.isEmpty&& (isNone fd.defaults||fR K fd.defaults && !args.isEmpty)&&Nat.beq fd.builtins builtinsNs&&PySem.W.codeIn K fd.code x&&PySem.W.keepIn K (.ref f) &&
 ET (wk (args.map (·.arg)) fd.scope) (args.map (·.arg)) fd.scope)=true->oj (cS K T d n ⟨wk (args.map (·.arg)) fd.scope,fd.scope.names,true⟩) body=aB b->fn=⟨(args.map (·.arg)).length,(wk (args.map (·.arg)) fd.scope).length,b⟩->∃f fd st ps N,fQ K x=aB f/\n6 K (iC x) x st f fd/\cY N ps (iQ st)/\fn.n=N.length/\fn.ps=ps.length/\(Binds K fd ps []/\(gg K x=true->Binds K fd ps [.none])/\(gg K x=false->∀us:List aa,us.length=ps.length->bindArgs fd ⟨us,[]⟩=pure (ps.zip us)))/\
 oj (cS K T d n ⟨N,(iQ st).names,true⟩) (Al st)=aB fn.body/\∃o' fd' args,fnAt K x=aB (f,o',fd')/\v8 fd'.params=aB args/\ps=args.map (·.arg):=by
 intro f o fd args body b hf ha hb hc h1 e;rw[bE,bE,bE,bE,bE,bE,bE,bE]at hc;obtain⟨⟨⟨⟨⟨⟨⟨⟨c1,c2⟩,c3⟩,c4⟩,c5⟩,c6⟩,c7⟩,c8⟩,c9⟩:=hc;obtain⟨S,nd⟩:=YD c9;obtain⟨hn,oc,od,sl,lk⟩:=YG hf;obtain⟨dx,ef⟩:=YE c1 c2 c3 c4 c6 ha hb;have hh:gg K x=fR K fd.defaults:=by unfold gg;rw[hf]
 exact⟨f,fd,.FunctionDef (iC x) ⟨[],args,aC,[],[],aC,dx⟩ body [] aC [] fd.scope aC (iC x) ⟨0,0,0,0⟩,args.map (·.arg),wk (args.map (·.arg)) fd.scope,hn,⟨⟨oc,od,_,_,_,_,_,fd.code,_,sl,ef,lk,c7⟩,c8⟩,S,by rw[e],by rw[e],YF ef nd hh c5,by rw[e];exact h1,o,fd,args,hf,ha,rfl⟩
theorem oq{K:aH}{T:List Str}{d n:Nat}{x:Str}{fn:Fn}(h:cF K T d n x=aB fn):∃f fd st ps N,fQ K x=aB f/\n6 K (iC x) x st f fd/\cY N ps (iQ st)/\fn.n=N.length/\fn.ps=ps.length/\(Binds K fd ps []/\(gg K x=true->Binds K fd ps [.none])/\(gg K x=false->∀us:List aa,us.length=ps.length->bindArgs fd ⟨us,[]⟩=pure (ps.zip us)))/\
 oj (cS K T d n ⟨N,(iQ st).names,true⟩) (Al st)=aB fn.body/\∃o' fd' args,fnAt K x=aB (f,o',fd')/\v8 fd'.params=aB args/\ps=args.map (·.arg):=by
 unfold cF at h;split at h;rename_i f o fd hf;split at h;rename_i args body ha hb;split at h;rename_i hc;obtain⟨b,h1,e⟩:=map_some h;exact YH f o fd args body b hf ha hb hc h1 e;cases h;cases h;cases h
theorem EU{α β:Type}{f:α->Option β}:∀{l:List α} {r:List β},aP f l=aB r->∀(i:Nat) (a:α),l[i]?=aB a->∃b,r[i]?=aB b/\f a=aB b
 |[],_,_,i,a,e=>by simp at e
 |x::l,r,h,i,a,e=>by
  unfold aP at h;split at h;rename_i b hb;split at h;rename_i bs B3;cases h;cases i with
  |zero=>simp at e;subst e;exact⟨b,rfl,hb⟩
  |succ i=>
   obtain⟨c,h1,h2⟩:=EU B3 i a (by simpa using e);exact⟨c,by simpa using h1,h2⟩
  cases h;cases h
noncomputable def Jc(K:aH)(T:List Str)(d n:Nat)(x:Str):Option Fn:=if x==("" : Str)then aB ⟨0,0,.no⟩else cF K T d n x
theorem Jd{K:aH}{T:List Str}{d n:Nat}{x:Str}{fn:Fn}(h:Jc K T d n x=aB fn)(hx:x≠""):cF K T d n x=aB fn:=by unfold Jc at h;rw[if_neg (by simpa using hx)]at h;exact h
noncomputable def iK(K:aH)(T:List Str)(d n:Nat):Option (List Fn):=aP (Jc K T d n) T
theorem PV{P:ai}{w:aj}{K:aH}{mg:Str->Option aa}{base:az}{T:List Str}{Fs:List Fn}{k:Nat}(KX:K.In base)(G:base.Ns mainGlobals mg){x:Str}{st:aq}{f:ah}{N ps:List Str}(S:cY N ps (iQ st))
 (H0:∀(i:Nat)(x:Str),T[i]?=aB x->x≠""->∃f fd ps fn,fQ K x=aB f/\fq P w K mg base kJ k f fd ps (nU K ps.length (run (λi=>Fs[i]?) k i))/\PySem.W.keepIn K (.ref f)=true/\Binds K fd ps []/\Fs[i]?=aB fn/\fn.ps=ps.length/\(gg K x=true->Binds K fd ps [.none]))
 (cdv:aa) (A:ak) (outer:List Env) (s:af) (H:Hp) (E:XK) (hr:cU k (A.deeper (envOfC x (iQ st) s.heap.objs.size f cdv))):gZ (jm kJ P w K mg base N x (iQ st) f cdv A outer s H E).xX ⟨N,(iQ st).names,true⟩ T (λi=>Fs[i]?) k:=by
 refine⟨rfl,S.nd,λy hy=>?_,λy hy=>?_,λy hy=>hy,λy hy=>hy,rfl,hr,rfl,S.kind,λy v hv=>PySem.W.mg_of KX G hv,λy hv=>PySem.W.mg_none_of KX G hv,H0⟩;have hy:rG ((iQ st).names.lookup y)=true:=hy;cases z:(iQ st).names.lookup y with
 |none=>rw[z]at hy;cases hy
 |some kd=>cases kd<;>first|exact .inl z|exact .inr (.inl z)|exact .inr (.inr z)|(rw[z]at hy;cases hy)
 have hy:rH true ((iQ st).names.lookup y)=true:=hy;cases z:(iQ st).names.lookup y with
 |none=>rw[z]at hy;cases hy
 |some kd=>cases kd<;>first|exact⟨.inl z,.inl rfl⟩|exact⟨.inr z,.inl rfl⟩|(rw[z]at hy;cases hy)
theorem YI{P:ai}{w:aj}{K:aH}{mg:Str->Option aa}{base:az}{T:List Str}{d n:Nat}{Fs:List Fn}(hP:iK K T d n=aB Fs)(KX:K.In base)(G:base.Ns mainGlobals mg)(k:Nat):∀(j:Nat),j<=k->∀(i:Nat) (x:Str),T[i]?=aB x->x≠""->
 ∃f fd ps fn,fQ K x=aB f/\fq P w K mg base kJ j f fd ps (nU K ps.length (run (λi=>Fs[i]?) j i))/\PySem.W.keepIn K (.ref f)=true/\Binds K fd ps []/\Fs[i]?=aB fn/\fn.ps=ps.length/\(gg K x=true->Binds K fd ps [.none]):=by
 induction k with
 |zero=>
  intro j hj i x e hx;have:j=0:=Nat.le_zero.mp hj;subst this;obtain⟨fn,h1,h2⟩:=EU hP i x e;obtain⟨f,fd,st,ps,N,a1,a2,a3,a4,a5,a6,a7,_⟩:=oq (Jd h2 hx);exact⟨f,fd,ps,fn,a1,Pg,a2.kp,a6.1,h1,a5,a6.2.1⟩
 |succ k ih=>
  intro j hj i x e hx;by_cases hjk:j<=k;exact ih j hjk i x e hx;have:j=k+1:=by lia
  subst this;obtain⟨fn,h1,h2⟩:=EU hP i x e;obtain⟨f,fd,st,ps,N,a1,a2,a3,a4,a5,a6,a7,_⟩:=oq (Jd h2 hx);exact⟨f,fd,ps,fn,a1,Pf (F:=λi=>Fs[i]?) h1 a2 a3 a4 a5 λcdv A outer s H E hr=>wj (om (PV KX G a3 (λj y hj hy=>ih k (aR _) j y hj hy) cdv A outer s H E hr) n) a7,a2.kp,a6.1,h1,a5,a6.2.1⟩
noncomputable def Cc:Res W->Bool|.ok (.bl true) _=>true|_=>false
noncomputable def says(K:aH)(T:List Str)(d n k i:Nat)(ns:List Int):Bool:=match iK K T d n with|some Fs=>Cc (run (λi=>Fs[i]?) k i [.fz (ns.map .int)] ⟨0,0,[]⟩)|none=>false
theorem YJ{r:Res W}(h:Cc r):∃h',r=.ok (.bl true) h':=by
 cases r with
 |no=>cases h
 |ex _ _=>cases h
 |ok w h'=>cases w<;>first|(rename_i b;cases b<;>first|exact⟨h',rfl⟩|cases h)|cases h
theorem PX{K:aH}{m:Nat->ah}{n:Nat}{H:Hp}:∀(ns:List Int),aE K m n H (ns.map V.int) (ns.map W.int)|[]=>.nil|i::r=>.cons (.int i) (PX r)
theorem PY{K:aH}{T:List Str}{d n k i:Nat}{ns:List Int}(h:says K T d n k i ns):∃Fs h',iK K T d n=aB Fs/\run (λi=>Fs[i]?) k i [.fz (ns.map .int)] ⟨0,0,[]⟩=.ok (.bl true) h':=by unfold says at h;split at h;rename_i Fs hF;obtain⟨h',e⟩:=YJ h;exact⟨Fs,h',hF,e⟩;cases h
theorem YK{K:aH}{T:List Str}{d n k i:Nat}{ns:List Int}{Fs:List Fn}(hP:iK K T d n=aB Fs)(h:Cc (run (λi=>Fs[i]?) k i [.fz (ns.map .int)] ⟨0,0,[]⟩)):says K T d n k i ns=true:=by unfold says;rw[hP];exact h
noncomputable def oz(K:aH)(x:Str):Bool:=match fnAt K x with
 |some (_,_,fd)=>(match v8 fd.params with
  |some [a]=>a.arg==("_law_script" : Str) && !(fR K fd.defaults)
  |_=>false)
 |none=>false
theorem YL{l:PySem.W.OpenLaw}{q:ai}{loose:List Str}{XP:(Str->Option aa)->az->Prop}{YP:aj->az->Prop}{dr:DefRec}{K:Params->aH}(T:List Str)(d n k i:Nat)(hn:l.most=aB 63)(hdf:dr.params.defaults=[])(hr:cU k callerA)
 (hY:∀(w:aj)(h:az),YP w h->(K w.params).In h) (hT:T[i]?=aB dr.name) (hne:dr.name≠"") (hS:∀(w:aj)(ns:List Int),ns.length<=63->says (K w.params) T d n k i ns) (hL:∀w:aj,oz (K w.params) dr.name) :
 PySem.W.WalkO q loose XP YP l.row.toRowW dr [] (λf vs=>PySem.call f vs):=by
 have any:∀w:aj,∃Fs,iK (K w.params) T d n=aB Fs:=λw=>let⟨Fs,_,h,_⟩:=PY (hS w [] (gu _));⟨Fs,h⟩;refine L2.Ug (n:=63) (k:=k) (x:="_law_script") (CX:=λ_=>kJ) (sp:=λw=>nU (K w.params) 1 (run (λj=>(Classical.choose (any w))[j]?) k i)) hn (by decide) hdf hr hY ?_ ?_ λ_ _ _ _ _ z=>z;intro w mg fa h KX G hmg;have hP:=Classical.choose_spec (any w);obtain⟨fn',h1,h2⟩:=EU hP i _ hT;obtain⟨f',fd',st,ps',N,a1,a2,a3,a4,a5,a6,a7,o',YM,args,a8,a9,Je⟩:=oq (Jd h2 hne);have hps:ps'=[("_law_script" : Str)]:=by
  have hl:=hL w;unfold oz at hl;rw[a8]at hl;simp only[a9]at hl;cases args with
  |nil=>cases hl
  |cons z zs=>
   cases zs with
   |nil=>
    rw[bE]at hl;have hl:z.arg = "_law_script":=by simpa using hl.1
    rw[Je,dw,hl];rfl
   |cons _ _=>cases hl
 have hnd:gg (K w.params) dr.name=false:=by have hl:=hL w;unfold oz at hl;rw[a8]at hl;unfold gg;rw[a8];simp only[a9]at hl;split at hl;rw[bE]at hl;simpa using hl.2;cases hl
 have e:=PySem.W.mg_of KX G (Ph a1);rw[hmg]at e;cases e;subst hps;refine⟨fd',λs u=>.of_eq (a6.2.2 hnd [u] rfl),λbase KB GB=>?_⟩;cases k with|zero=>exact Pg|succ k=>exact Pf (F:=λj=>(Classical.choose (any w))[j]?) h1 a2 a3 a4 a5 λcdv A outer s H E hr=>wj (om (PV KB GB a3 (λj y hj hy=>YI hP KB GB k k (aR _) j y hj hy) cdv A outer s H E hr) n) a7
 intro w H a ns hl hO hQ;obtain⟨Fs,h',e1,e2⟩:=PY (hS w ns hl);have hP:=Classical.choose_spec (any w);rw[hP]at e1;cases e1;refine⟨rfl,⟨0,0,[]⟩,λ_=>0,_,_,h',⟨λi hi=>absurd hi (Nat.not_lt_zero _),λi j hi=>absurd hi (Nat.not_lt_zero _),rfl⟩,.cons (.fz ?_ (PX ns)) .nil,e2,λv H' m' _ _ q=>by cases q;rfl⟩;rcases hQ with(q|⟨o,q⟩)|q
 rcases hO a with z|⟨o,xs,z⟩;rw[z]at q;cases q;rw[z]at q;cases q;exact .inl ⟨o,q⟩;exact .inr q
section
open E renaming var->v,cons->c,cst->k,nil->n,call->f,idx->x,cmp->p,bi->b,op->o,not->z,and->a,or->r,kY->t,nQ->i,slc->l,lst->m,lc->u,neg->y,mt->w
open S renaming seq->q,skip->s,ret->e,set->d,vN->g,expr->h,put->j
noncomputable def EV:Fn:=⟨1,1,(q (e (a (i .int (v 0)) (z (i .bool (v 0))))) s)⟩
noncomputable def Jf:Fn:=⟨3,3,(q (e (a (f 0 (c (v 0) n)) (.vM .le .le (v 1) (v 0) (v 2)))) s)⟩
noncomputable def EW:Fn:=⟨2,2,(q (.ite (p .eq (b .len (c (v 0) n)) (k (.int 0))) (q (e (o .add (o .mul (k (.int 7)) (v 1)) (k (.int 3)))) s) s) (q (e (b .abs (c (x (v 0) (o .mod (v 1) (b .len (c (v 0) n)))) n))) s))⟩
noncomputable def ue:E:=(p .ge (b .abs (c (v 0) n)) (o .pow (k (.int 10)) (k (.int 18))))
noncomputable def uf:E:=(b .abs (c (v 0) n))
noncomputable def Cd:Fn:=⟨1,1,(q (e (m (c (v 0) (c (u .seq (v 0) (.one 0) 1 [] ue uf) (c (k (.int 0)) (c (k (.int 0)) n)))))) s)⟩
noncomputable def Jg:Fn:=⟨3,4,(q (d 3 (o .mod (o .pow (o .add (o .mul (o .add (o .mod (f 2 (c (v 0) (c (v 1) n))) (k (.int 1000003))) (k (.int 5))) (o .add (v 1) (k (.int 2)))) (o .mul (k (.int 7919)) (v 1))) (k (.int 5))) (k (.int 2147483647)))) (q (e (o .mod (o .fdiv (v 3) (k (.int 13))) (v 2))) s))⟩
noncomputable def Ce:E:=(p .lt (x (v 0) (k (.int 2))) (b .len (c (x (v 0) (k (.int 1))) n)))
noncomputable def wm:S:=(q (d 2 (x (x (v 0) (k (.int 1))) (x (v 0) (k (.int 2))))) (q (.ite (p .gt (v 2) (k (.int 0))) (q (j (x (v 0) (k (.int 1))) (x (v 0) (k (.int 2))) (o .fdiv (v 2) (v 1))) (q (e (o .mod (v 2) (v 1))) s)) s) (q (j (v 0) (k (.int 2)) (o .add (x (v 0) (k (.int 2))) (k (.int 1)))) s)))
noncomputable def rK:Fn:=⟨2,3,(q (.Ey Ce wm) (q (j (v 0) (k (.int 3)) (o .add (x (v 0) (k (.int 3))) (k (.int 1)))) (q (e (f 4 (c (x (v 0) (k (.int 0))) (c (x (v 0) (k (.int 3))) (c (v 1) n))))) s)))⟩
noncomputable def Cf:Fn:=⟨3,3,(q (e (a (i .tuple (v 0)) (.vM .le .le (v 1) (b .len (c (v 0) n)) (v 2)))) s)⟩
noncomputable def EX:S:=(q (.ite (z (t (f 1 (c (v 5) (c (v 3) (c (v 4) n)))))) (q (e (k (.bl false))) s) s) s)
noncomputable def Cg:Fn:=⟨5,6,(q (.ite (z (t (f 6 (c (v 0) (c (v 1) (c (v 2) n)))))) (q (e (k (.bl false))) s) s) (q (.«for» .seq (v 0) (.one 5) EX) (q (e (k (.bl true))) s)))⟩
noncomputable def EY:S:=(q (.ite (z (t (f 11 (c (v 3) (c (v 2) n))))) (q (e (k (.bl false))) s) s) s)
noncomputable def Jh:Fn:=⟨3,4,(q (.ite (z (t (f 6 (c (v 0) (c (v 1) (c (v 1) n)))))) (q (e (k (.bl false))) s) s) (q (.«for» .seq (v 0) (.one 3) EY) (q (e (k (.bl true))) s)))⟩
noncomputable def EZ:S:=(q (.ite (z (t (f 6 (c (v 2) (c (v 1) (c (v 1) n)))))) (q (e (k (.bl false))) s) s) s)
noncomputable def Ji:Fn:=⟨2,3,(q (.ite (z (t (f 6 (c (v 0) (c (k (.int 0)) (c (k (.int 60)) n)))))) (q (e (k (.bl false))) s) s) (q (.«for» .seq (v 0) (.one 2) EZ) (q (e (k (.bl true))) s)))⟩
noncomputable def wo:Fn:=⟨1,6,(q (.ite (z (t (f 6 (c (v 0) (c (k (.int 5)) (c (k (.int 5)) n)))))) (q (e (k (.bl false))) s) s) (q (g [1,2,3,4,5] (v 0)) (q (.ite (r (z (t (f 1 (c (v 1) (c (k (.int 1)) (c (k (.int 40)) n)))))) (z (t (f 1 (c (v 2) (c (k (.int 0)) (c (k (.int 8)) n))))))) (q (e (k (.bl false))) s) s) (q (.ite (z (t (f 7 (c (v 4) (c (k (.int 1)) (c (k (.int 4)) (c (k (.int 0)) (c (o .sub (v 1) (k (.int 1))) n)))))))) (q (e (k (.bl false))) s) s) (q (e (a (f 9 (c (v 3) (c (v 1) n))) (f 8 (c (v 5) (c (v 1) (c (b .len (c (v 4) n)) n)))))) s)))))⟩
noncomputable def rL:Fn:=⟨2,4,(q (.ite (z (t (f 6 (c (v 0) (c (k (.int 2)) (c (k (.int 2)) n)))))) (q (e (k (.bl false))) s) s) (q (g [2,3] (v 0)) (q (e (a (f 1 (c (v 2) (c (k (.int 0)) (c (k (.int 99)) n)))) (f 12 (c (v 3) (c (v 1) n))))) s)))⟩
noncomputable def wu:Fn:=⟨2,2,(q (e (r (p .A9 (v 0) (k .aL)) (f 1 (c (v 0) (c (k (.int 0)) (c (o .sub (v 1) (k (.int 1))) n)))))) s)⟩
noncomputable def rM:Fn:=⟨2,4,(q (.ite (z (t (f 6 (c (v 0) (c (k (.int 2)) (c (k (.int 2)) n)))))) (q (e (k (.bl false))) s) s) (q (g [2,3] (v 0)) (q (e (a (f 1 (c (v 2) (c (k (.int 0)) (c (o .sub (v 1) (k (.int 1))) n)))) (f 1 (c (v 3) (c (k (.int 0)) (c (k (.int 1)) n)))))) s)))⟩
noncomputable def E3:S:=(q (.ite (z (t (f 15 (c (v 7) (c (v 6) (c (v 1) (c (v 2) n))))))) (q .no s) s) s)
noncomputable def E4:S:=(q (.«for» .pI (v 5) (.many [6,7]) E3) s)
noncomputable def wz:Fn:=⟨1,8,(q (.ite (z (t (f 10 (c (v 0) n)))) (q .no s) s) (q (g [1,2,3] (l (v 0) false (k .aL) true (k (.int 3)))) (q (.«for» .pI (v 3) (.many [4,5]) E4) s)))⟩
noncomputable def wA:Fn:=⟨4,4,(q (.ite (r (p .eq (v 0) (k (.str (bA "x")))) (t (f 13 (c (v 0) (c (v 3) n))))) (q (e (.vM .lt .lt (k (.int 0)) (v 1) (o .sub (v 2) (k (.int 1))))) s) s) (q (.ite (p .eq (v 0) (k (.str (bA "<")))) (q (e (p .gt (v 1) (k (.int 0)))) s) s) (q (.ite (p .eq (v 0) (k (.str (bA ">")))) (q (e (p .lt (v 1) (o .sub (v 2) (k (.int 1))))) s) s) (q (e (r (p .eq (v 0) (k (.str (bA ".")))) (p .eq (v 0) (k (.str (bA "s")))))) s))))⟩
noncomputable def wB:Fn:=⟨2,4,(q (d 2 (x (m (c (f 5 (c (v 0) (c (k (.int 3)) n))) (c (f 5 (c (v 0) (c (k (.int 100)) n))) n))) (b .int (c (p .eq (f 5 (c (v 0) (c (k (.int 4)) n))) (k (.int 0))) n)))) (q (d 3 (f 5 (c (v 0) (c (v 1) n)))) (q (.ite (p .eq (f 5 (c (v 0) (c (k (.int 8)) n))) (k (.int 0))) (q (e (.tup (c (v 2) (c (k .aL) n)))) s) s) (q (e (.tup (c (v 2) (c (v 3) n)))) s))))⟩
noncomputable def rN:Fn:=⟨2,2,(q (e (f 7 (c (v 0) (c (v 1) (c (v 1) (c (k (.int 0)) (c (k (.int 1)) n))))))) s)⟩
noncomputable def E8:E:=(f 5 (c (v 1) (c (k (.int 2)) n)))
noncomputable def oA:Fn:=⟨2,2,(q (e (b .tuple (c (u .bM (c (v 1) n) (.one 0) 1 [0] (k (.bl true)) E8) n))) s)⟩
noncomputable def oB:Fn:=⟨2,2,(q (h (f 14 (c (v 0) n))) (q (e (f 17 (c (v 1) (c (x (v 0) (k (.int 1))) n)))) s))⟩
noncomputable def rO:Fn:=⟨2,2,(q (.ite (z (t (f 22 (c (v 0) (c (v 1) n))))) (q .no s) s) s)⟩
noncomputable def jC:Fn:=⟨4,6,(q (d 4 (f 5 (c (v 0) (c (k (.int 10)) n)))) (q (d 5 (x (m (c (k (.str (bA "."))) (c (k (.str (bA "<"))) (c (k (.str (bA ">"))) (c (k (.str (bA "x"))) (c (k (.str (bA "."))) (c (k (.str (bA "."))) n))))))) (b .min (c (v 4) (c (k (.int 5)) n))))) (q (.ite (a (p .gt (v 4) (k (.int 4))) (p .gt (v 3) (k (.int 0)))) (q (d 5 (.tup (c (f 5 (c (v 0) (c (v 3) n))) (c (f 5 (c (v 0) (c (k (.int 2)) n))) n)))) s) s) (q (.ite (a (p .eq (v 4) (k (.int 4))) (p .eq (f 5 (c (v 0) (c (k (.int 4)) n))) (k (.int 0)))) (q (e (k (.str (bA "s")))) s) s) (q (.ite (r (a (p .eq (v 1) (k (.int 0))) (p .vK (v 5) (.tup (c (k (.str (bA "."))) (c (k (.str (bA ">"))) n))))) (a (p .eq (v 1) (o .sub (v 2) (k (.int 1)))) (p .vK (v 5) (.tup (c (k (.str (bA "."))) (c (k (.str (bA "<"))) n)))))) (q (e (x (m (c (k (.str (bA ">"))) (c (k (.str (bA "<"))) (c (k (.str (bA "."))) n)))) (b .min (c (o .add (b .int (c (p .gt (v 1) (k (.int 0))) n)) (o .mul (k (.int 2)) (b .int (c (p .eq (v 2) (k (.int 1))) n)))) (c (k (.int 2)) n))))) s) s) (q (.ite (a (p .eq (v 2) (k (.int 1))) (p .ne (v 5) (k (.str (bA "."))))) (q (e (k (.str (bA ".")))) s) s) (q (e (v 5)) s)))))))⟩
noncomputable def Fb:E:=(f 103 (c (v 1) (c (v 0) (c (v 3) (c (v 2) n)))))
noncomputable def lg:Fn:=⟨3,3,(q (e (b .tuple (c (u .bM (c (v 1) n) (.one 0) 1 [0,2,1] (k (.bl true)) Fb) n))) s)⟩
noncomputable def PZ:E:=(f 104 (c (v 1) (c (v 3) (c (v 2) n))))
noncomputable def P4:E:=(f 5 (c (v 1) (c (v 2) n)))
noncomputable def P5:E:=(f 23 (c (v 1) (c (b .len (c (v 2) n)) n)))
noncomputable def oE:Fn:=⟨4,9,(q (d 4 (o .add (k (.int 1)) (f 5 (c (v 0) (c (v 1) n))))) (q (d 5 (f 5 (c (v 0) (c (o .add (v 3) (k (.int 1))) n)))) (q (d 6 (u .bM (c (f 5 (c (v 0) (c (o .add (v 2) (k (.int 1))) n))) n) (.one 0) 1 [0,5,4] (k (.bl true)) PZ)) (q (d 7 (b .tuple (c (u .bM (c (o .add (k (.int 1)) (f 5 (c (v 0) (c (k (.int 4)) n)))) n) (.one 0) 1 [0,4] (k (.bl true)) P4) n))) (q (d 8 (b .tuple (c (u .bM (c (v 4) n) (.one 0) 1 [0,7] (k (.bl true)) P5) n))) (q (e (.tup (c (v 4) (c (v 5) (c (b .tuple (c (v 6) n)) (c (v 7) (c (v 8) n))))))) s))))))⟩
noncomputable def yq:E:=(f 151 (c (v 0) (c (v 1) n)))
noncomputable def lq:Fn:=⟨2,2,(q (.ite (r (z (t (i .tuple (v 0)))) (p .ne (b .len (c (v 0) n)) (b .len (c (v 1) n)))) (q (e (k (.bl false))) s) s) (q (e (b .all (c (u .zip (c (v 0) (c (v 1) n)) (.many [0,1]) 2 [] (k (.bl true)) yq) n))) s))⟩
noncomputable def oF:Fn:=⟨2,2,(q (e (a (i .int (v 0)) (a (z (i .bool (v 0))) (p .eq (v 0) (v 1))))) s)⟩
noncomputable def dN:Fn:=⟨4,7,(q (.ite (t (i .tuple (v 0))) (q (g [4,5] (v 0)) (q (d 6 (x (v 2) (v 4))) (q (.ite (p .ne (v 4) (v 3)) (q (j (v 2) (v 4) (o .sub (k (.int 1)) (v 6))) s) s) (q (e (.ite (p .eq (v 6) (v 5)) (k (.int (-1))) (k (.int 1)))) s)))) s) (q (.ite (p .eq (v 0) (k (.str (bA "s")))) (q (e (k .aL)) s) s) (q (.ite (p .eq (v 0) (k (.str (bA "x")))) (q (e (v 1)) s) s) (q (.ite (p .eq (v 0) (k (.str (bA ".")))) (q (e (k (.int 0))) s) s) (q (e (.ite (p .eq (v 0) (k (.str (bA "<")))) (k (.int (-1))) (k (.int 1)))) s)))))⟩
noncomputable def Ci:S:=(q (d 10 (x (v 9) (v 4))) (q (d 8 (f 173 (c (v 10) (c (v 8) (c (v 7) (c (v 3) n)))))) (q (.ite (p .A9 (v 8) (k .aL)) (q .brk s) s) (q (.ite (a (t (i .tuple (v 10))) (p .ne (x (v 10) (k (.int 0))) (v 3))) (q (h (w .append (v 6) (c (x (v 10) (k (.int 0))) n))) s) s) (q (.aug 4 .add (v 8)) (q (h (w .append (v 5) (c (v 4) n))) s))))))
noncomputable def jD:Fn:=⟨4,11,(q (d 4 (x (x (v 0) (k (.int 3))) (v 2))) (q (d 5 (m (c (v 4) n))) (q (d 6 (m n)) (q (d 7 (b .list (c (v 1) n))) (q (d 8 (k (.int 0))) (q (.«for» .seq (x (v 0) (k (.int 2))) (.one 9) Ci) (q (e (.tup (c (b .tuple (c (v 5) n)) (c (b .tuple (c (v 6) n)) (c (b .tuple (c (v 7) n)) n))))) s)))))))⟩
noncomputable def ug:Fn:=⟨4,8,(q (g [4,5,6] (f 174 (c (v 0) (c (v 1) (c (v 2) (c (v 3) n)))))) (q (d 7 (.ite (p .gt (b .len (c (v 4) n)) (b .len (c (x (v 0) (k (.int 2))) n))) (x (v 4) (y (k (.int 1)))) (k .aL))) (q (e (.tup (c (v 7) (c (v 6) n)))) s)))⟩
noncomputable def yr:E:=(.tup (c (k (.int 0)) (c (k (.int 1)) n)))
noncomputable def yt:E:=(o .add (v 0) (.tup (c (v 1) n)))
noncomputable def yu:S:=(q (d 1 (.tW .seq (v 1) (.one 0) 2 [] (k (.bl true)) .seq yr (.one 1) (k (.bl true)) yt)) s)
noncomputable def lu:Fn:=⟨1,3,(q (.ite (z (t (f 1 (c (v 0) (c (k (.int 0)) (c (k (.int 8)) n)))))) (q .no s) s) (q (d 1 (m (c (.tup n) n))) (q (.«for» .bM (c (v 0) n) (.one 2) yu) (q (e (v 1)) s))))⟩
noncomputable def wC:E:=(c (b .len (c (x (v 2) (k (.int 3))) n)) n)
noncomputable def wD:E:=(.tup (c (v 0) (c (v 1) n)))
noncomputable def lz:Fn:=⟨1,1,(q (e (.tW .seq (f 190 (c (x (v 0) (k (.int 1))) n)) (.one 0) 2 [0] (k (.bl true)) .bM wC (.one 1) (k (.bl true)) wD)) s)⟩
noncomputable def wF:E:=(p .eq (f 175 (c (v 1) (c (x (v 0) (k (.int 0))) (c (x (v 0) (k (.int 1))) (c (k .aL) n))))) (.tup (c (v 2) (c (v 3) n))))
noncomputable def Cj:E:=(v 0)
noncomputable def lA:Fn:=⟨3,3,(q (h (f 24 (c (v 0) (c (v 1) n)))) (q (.ite (z (t (f 1 (c (v 2) (c (k (.int 0)) (c (o .sub (x (v 0) (k (.int 0))) (k (.int 1))) n)))))) (q .no s) s) (q (e (b .tuple (c (u .seq (f 202 (c (v 0) n)) (.one 0) 1 [0,2,1] wF Cj) n))) s)))⟩
noncomputable abbrev rP:E:=.Ba (c (k (.str (bA "."))) (c (k (.int 0)) (c (k (.str (bA "<"))) (c (y (k (.int 1))) (c (k (.str (bA ">"))) (c (k (.int 1)) n))))))
noncomputable def P6:E:=(o .add (v 0) (.tup (c (k (.int 0)) n)))
noncomputable def P7:E:=(o .add (v 0) (.tup (c (k (.int 1)) n)))
noncomputable def Jj:S:=(q (d 1 (b .Ex (c (o .add (u .seq (v 1) (.one 0) 1 [] (k (.bl true)) P6) (u .seq (v 1) (.one 0) 1 [] (k (.bl true)) P7)) n))) s)
noncomputable def jE:Fn:=⟨1,3,(q (d 1 (m (c (.tup n) n))) (q (.«for» .bM (c (v 0) n) (.one 2) Jj) (q (e (v 1)) s)))⟩
noncomputable def Fc:S:=(q (d 4 (f 207 (c (v 0) (c (v 2) (c (v 3) (c (k .aL) n)))))) (q (.ite (z (t (x (v 4) (k (.int 3))))) (q (h (w .append (v 1) (c (m (c (.tup (c (v 2) (c (v 3) n))) (c (x (v 4) (k (.int 0))) (c (x (v 4) (k (.int 1))) n)))) n))) s) s) s))
noncomputable def Fd:S:=(q (.«for» .bM (c (b .len (c (x (v 0) (k (.int 3))) n)) n) (.one 3) Fc) s)
noncomputable def lB:Fn:=⟨1,5,(q (d 1 (m n)) (q (.«for» .seq (f 294 (c (x (v 0) (k (.int 1))) n)) (.one 2) Fd) (q (e (v 1)) s)))⟩
noncomputable def P8:E:=(f 104 (c (v 1) (c (k (.int 40)) (c (k (.int 8)) n))))
noncomputable def P9:E:=(f 5 (c (v 1) (c (k (.int 40)) n)))
noncomputable def Qa:E:=(f 23 (c (v 1) (c (b .len (c (v 2) n)) n)))
noncomputable def lC:Fn:=⟨1,3,(q (d 1 (b .tuple (c (u .bM (c (k (.int 60)) n) (.one 0) 1 [0] (k (.bl true)) P8) n))) (q (d 2 (b .tuple (c (u .bM (c (o .add (k (.int 1)) (f 5 (c (v 0) (c (k (.int 4)) n)))) n) (.one 0) 1 [0] (k (.bl true)) P9) n))) (q (e (.tup (c (k (.int 40)) (c (k (.int 8)) (c (v 1) (c (v 2) (c (b .tuple (c (u .bM (c (k (.int 40)) n) (.one 0) 1 [0,2] (k (.bl true)) Qa) n)) n))))))) s)))⟩
noncomputable def oG:S:=(q (d 7 (x (v 6) (v 4))) (q (.ite (p .eq (v 7) (k (.str (bA "s")))) (q (e (m (c (v 4) (c (b .tuple (c (v 1) n)) (c (k .aL) (c (k (.bl true)) n)))))) s) s) (q (.ite (r (p .eq (v 7) (k (.str (bA ".")))) (r (p .eq (v 7) (k (.str (bA "<")))) (p .eq (v 7) (k (.str (bA ">")))))) (q (d 5 (x (.Ba (c (k (.str (bA "."))) (c (k (.int 0)) (c (k (.str (bA "<"))) (c (y (k (.int 1))) (c (k (.str (bA ">"))) (c (k (.int 1)) n))))))) (v 7))) s) (q (.ite (p .ne (v 7) (k (.str (bA "x")))) (q (d 5 (o .sub (k (.int 1)) (o .mul (k (.int 2)) (b .int (c (p .eq (x (v 1) (x (v 7) (k (.int 0)))) (x (v 7) (k (.int 1)))) n))))) (q (.ite (p .ne (x (v 7) (k (.int 0))) (v 3)) (q (j (v 1) (x (v 7) (k (.int 0))) (o .sub (k (.int 1)) (x (v 1) (x (v 7) (k (.int 0)))))) s) s) s)) s) s)) (q (d 4 (o .add (v 4) (v 5))) s))))
noncomputable def iL:Fn:=⟨4,8,(q (d 4 (x (x (v 0) (k (.int 3))) (v 2))) (q (d 1 (b .list (c (v 1) n))) (q (d 5 (k (.int 0))) (q (.«for» .seq (x (v 0) (k (.int 2))) (.one 6) oG) (q (e (m (c (v 4) (c (b .tuple (c (v 1) n)) (c (x (x (x (v 0) (k (.int 4))) (v 4)) (k (.int 0))) (c (k (.bl false)) n)))))) s)))))⟩
noncomputable def Fe:E:=(f 328 (c (v 0) (c (v 1) n)))
noncomputable def jF:Fn:=⟨2,2,(q (.ite (r (z (t (i .tuple (v 0)))) (p .ne (b .len (c (v 0) n)) (b .len (c (v 1) n)))) (q (e (k (.bl false))) s) s) (q (e (b .all (c (u .zip (c (v 0) (c (v 1) n)) (.many [0,1]) 2 [] (k (.bl true)) Fe) n))) s))⟩
noncomputable def jG:Fn:=⟨2,2,(q (e (a (i .tuple (v 0)) (a (p .eq (b .len (c (v 0) n)) (k (.int 2))) (a (f 140 (c (x (v 0) (k (.int 0))) (c (x (v 1) (k (.int 0))) n))) (f 151 (c (x (v 0) (k (.int 1))) (c (x (v 1) (k (.int 1))) n))))))) s)⟩
noncomputable def Jk:E:=(a (p .eq (v 1) (v 3)) (p .eq (v 2) (v 4)))
noncomputable def Qc:E:=(v 0)
noncomputable def Ff:Fn:=⟨3,3,(q (e (u .seq (v 0) (.many [0,1,2]) 3 [2,1] Jk Qc)) s)⟩
noncomputable def Qd:E:=m (c (v 4) (c (b .tuple (c (v 1) n)) (c (k .aL) (c (k (.bl true)) n))))
noncomputable def uh:S:=q (d 5 (o .sub (k (.int 1)) (o .mul (k (.int 2)) (b .int (c (p .eq (x (v 1) (x (v 7) (k (.int 0)))) (x (v 7) (k (.int 1)))) n))))) (q (.ite (p .ne (x (v 7) (k (.int 0))) (v 3)) (q (j (v 1) (x (v 7) (k (.int 0))) (o .sub (k (.int 1)) (x (v 1) (x (v 7) (k (.int 0)))))) s) s) s)
noncomputable def iM:E:=r (p .eq (v 7) (k (.str (bA ".")))) (r (p .eq (v 7) (k (.str (bA "<")))) (p .eq (v 7) (k (.str (bA ">")))))
noncomputable def wG:S:=.ite iM (q (d 5 (x rP (v 7))) s) (q (.ite (p .ne (v 7) (k (.str (bA "x")))) uh s) s)
noncomputable def Fg:S:=(q (.ite (z (t (f 320 (c (f 219 (c (v 3) (c (v 5) (c (v 8) n)))) (c (f 700 (c (v 4) (c (v 5) (c (v 8) n)))) n))))) (q (e (k (.bl false))) s) s) s)
noncomputable def Fi:Fn:=⟨1,9,(q (d 1 (f 3 (c (v 0) n))) (q (d 2 (f 5 (c (v 1) (c (k (.int 8)) n)))) (q (d 3 (f 129 (c (v 1) (c (k (.int 9)) (c (k (.int 8)) (c (k (.int 4)) n)))))) (q (.ite (p .eq (v 2) (k (.int 0))) (q (d 3 (f 324 (c (v 1) n))) s) s) (q (d 4 (f 296 (c (v 3) n))) (q (d 5 (f 20 (c (v 1) (c (x (v 3) (k (.int 1))) n)))) (q (d 6 (b .qR (c (x (v 3) (k (.int 0))) n))) (q (.ite (p .eq (v 2) (k (.int 0))) (q (d 6 (m (c (f 5 (c (v 1) (c (k (.int 40)) n))) n))) s) s) (q (.ite (a (p .eq (o .mod (v 2) (k (.int 2))) (k (.int 0))) (p .gt (b .len (c (v 4) n)) (k (.int 0)))) (q (g [7,8,5] (x (v 4) (f 5 (c (v 1) (c (b .len (c (v 4) n)) n))))) (q (d 6 (o .add (m (c (v 8) n)) (v 6))) s)) s) (q (.«for» .seq (l (v 6) false (k .aL) true (k (.int 10))) (.one 8) Fg) (q (e (f 320 (c (f 219 (c (v 3) (c (v 5) (c (x (v 6) (k (.int 0))) n)))) (c (f 700 (c (v 4) (c (v 5) (c (x (v 6) (k (.int 0))) n)))) n)))) s)))))))))))⟩
noncomputable def dW:Fn:=⟨0,0,.no⟩
end
noncomputable def fin(h:VH)(r:Res Fl):Res W:=r.bind λfl h'=>match fl with|.nx _=>leave h .aL h'|.rt w=>leave h w h'|_=>.no
theorem dF{F:Nat->Option Fn}{k f:Nat}{fn:Fn}{ws:List W}{h:VH}(hF:F f=aB fn)(hl:ws.length=fn.ps) :
 run F (k+1) f ws h=fin h (exs (run F k) fn.body (ws.map aB++bD (fn.n-fn.ps) aC) ⟨h.n,h.n,h.os⟩):=by
 simp only[run,hF];rw[if_pos (by rw[hl];exact Nat.beq_refl _)];rfl
theorem Qe{h:VH}{w:W}{h':VH}(h1:h.n<=h'.lo)(h2:W.lt h.n w):leave h w h'=.ok w h:=by unfold leave;rw[if_pos (by rw[bE];exact⟨oZ.mpr h1,h2⟩)]
theorem dX{h h':VH}{w:W}(h1:h.n<=h'.lo)(h2:W.lt h.n w):fin h (.ok (.rt w) h')=.ok w h:=Qe h1 h2
theorem Qf{h h':VH}{ρ:En}(h1:h.n<=h'.lo):fin h (.ok (.nx ρ) h')=.ok .aL h:=Qe h1 (by simp only[W.lt])
@[simp] theorem aD {α β:Type} {a:α} {h:VH} {f:α->VH->Res β}:(Res.ok a h).bind f=f a h:=rfl
@[simp] theorem Jl {α β:Type} {f:α->VH->Res β}:(Res.no:Res α).bind f=.no:=rfl
@[simp] theorem bT {α:Type} {a:α} {h:VH}:Res.of (aB a) h=.ok a h:=rfl
@[simp] theorem Jm {α:Type} {h:VH}:Res.of (aC:Option α) h=.no:=rfl
@[simp] theorem Jo {n:Nat}:W.lt n .aL=true:=by simp only[W.lt]
@[simp] theorem Qg {n:Nat} {b:Bool}:W.lt n (.bl b)=true:=by simp only[W.lt]
@[simp] theorem lt_int {n:Nat} {b:Int}:W.lt n (.int b)=true:=by simp only[W.lt]
@[simp] theorem lt_str {n:Nat} {b:Str}:W.lt n (.str b)=true:=by simp only[W.lt]
@[simp] theorem oH {n:Nat} {b:List W}:W.lt n (.tup b)=W.kX n b:=by simp only[W.lt]
@[simp] theorem Fj {n:Nat}:W.kX n []=true:=by simp only[W.kX]
@[simp] theorem jH {n:Nat} {b:W} {r:List W}:W.kX n (b::r)=(W.lt n b&&W.kX n r):=by simp only[W.kX]
@[simp] theorem wH:((Ty.int==Ty.int):Bool)=true:=rfl
@[simp] theorem um:((Ty.int==Ty.bool):Bool)=false:=rfl
@[simp] theorem rQ:((Ty.int==Ty.tuple):Bool)=false:=rfl
@[simp] theorem uo:((Ty.int==Ty.list):Bool)=false:=rfl
@[simp] theorem wI:((Ty.int==Ty.str):Bool)=false:=rfl
@[simp] theorem uq:((Ty.int==Ty.dict):Bool)=false:=rfl
@[simp] theorem ur:((Ty.bool==Ty.int):Bool)=false:=rfl
@[simp] theorem rR:((Ty.bool==Ty.bool):Bool)=true:=rfl
@[simp] theorem pM:((Ty.bool==Ty.tuple):Bool)=false:=rfl
@[simp] theorem rS:((Ty.bool==Ty.list):Bool)=false:=rfl
@[simp] theorem uu:((Ty.bool==Ty.str):Bool)=false:=rfl
@[simp] theorem rT:((Ty.bool==Ty.dict):Bool)=false:=rfl
@[simp] theorem rV:((Ty.tuple==Ty.int):Bool)=false:=rfl
@[simp] theorem pN:((Ty.tuple==Ty.bool):Bool)=false:=rfl
@[simp] theorem eS:((Ty.tuple==Ty.tuple):Bool)=true:=rfl
@[simp] theorem pO:((Ty.tuple==Ty.list):Bool)=false:=rfl
@[simp] theorem rW:((Ty.tuple==Ty.str):Bool)=false:=rfl
@[simp] theorem pP:((Ty.tuple==Ty.dict):Bool)=false:=rfl
@[simp] theorem uv:((Ty.list==Ty.int):Bool)=false:=rfl
@[simp] theorem rY:((Ty.list==Ty.bool):Bool)=false:=rfl
@[simp] theorem pQ:((Ty.list==Ty.tuple):Bool)=false:=rfl
@[simp] theorem rZ:((Ty.list==Ty.list):Bool)=true:=rfl
@[simp] theorem uw:((Ty.list==Ty.str):Bool)=false:=rfl
@[simp] theorem se:((Ty.list==Ty.dict):Bool)=false:=rfl
@[simp] theorem wJ:((Ty.str==Ty.int):Bool)=false:=rfl
@[simp] theorem ux:((Ty.str==Ty.bool):Bool)=false:=rfl
@[simp] theorem sf:((Ty.str==Ty.tuple):Bool)=false:=rfl
@[simp] theorem uy:((Ty.str==Ty.list):Bool)=false:=rfl
@[simp] theorem wK:((Ty.str==Ty.str):Bool)=true:=rfl
@[simp] theorem uz:((Ty.str==Ty.dict):Bool)=false:=rfl
@[simp] theorem uA:((Ty.dict==Ty.int):Bool)=false:=rfl
@[simp] theorem sj:((Ty.dict==Ty.bool):Bool)=false:=rfl
@[simp] theorem pR:((Ty.dict==Ty.tuple):Bool)=false:=rfl
@[simp] theorem sr:((Ty.dict==Ty.list):Bool)=false:=rfl
@[simp] theorem uB:((Ty.dict==Ty.str):Bool)=false:=rfl
@[simp] theorem su:((Ty.dict==Ty.dict):Bool)=true:=rfl
@[simp] theorem Fo {t:Ty} {h:VH}:dU t h .aL=aB false:=rfl
@[simp] theorem Jp {t:Ty} {h:VH} {b:Bool}:dU t h (.bl b)=aB (t == .int||t == .bool):=rfl
@[simp] theorem Fp {t:Ty} {h:VH} {i:Int}:dU t h (.int i)=aB (t == .int):=rfl
@[simp] theorem Fq {t:Ty} {h:VH} {x:Str}:dU t h (.str x)=aB (t == .str):=rfl
@[simp] theorem lD {t:Ty} {h:VH} {x:List W}:dU t h (.tup x)=aB (t == .tuple):=rfl
@[simp] theorem bU {h:VH} {l i:Nat}:VH.get ⟨h.n,l,h.os⟩ i=h.get i:=by unfold VH.get;rfl
@[simp] theorem oJ {h:VH} {b:Bool}:lX h (.bl b)=aB b:=rfl
noncomputable def forL(tg:W->VH->En->Option En)(b:FS):List W->En->VH->Res Fl
 |[],ρ,h=>.ok (.nx ρ) h
 |w::r,ρ,h=>match tg w h ρ with
  |none=>.no
  |some ρ=>(b ρ h).bind λfl h=>match fl with
   |.nx ρ=>forL tg b r ρ h
   |.ct ρ=>forL tg b r ρ h
   |.bk ρ=>.ok (.nx ρ) h
   |.rt w=>.ok (.rt w) h
noncomputable def ja(tg:W->VH->En->Option En)(c e:FE):List W->En->VH->Res (List W)
 |[],_,h=>.ok [] h
 |w::r,ρ,h=>match tg w h ρ with
  |none=>.no
  |some ρ=>(c ρ h).bind λb h=>match b with
   |.bl true=>(e ρ h).bind λy h=>(ja tg c e r ρ h).bind λys h=>.ok (y::ys) h
   |.bl false=>ja tg c e r ρ h
   |_=>.no
theorem bind_assoc{α β γ:Type}{r:Res α}{f:α->VH->Res β}{g:β->VH->Res γ}:(r.bind f).bind g=r.bind λa h=>(f a h).bind g:=by cases r<;>rfl
theorem Ft{nx:Nat->VH->Option (Option W)}{tg:W->VH->En->Option En}{b:FS}{ws:List W}(hx:∀i h,nx i h=aB ws[i]?):∀(fu i:Nat) (ρ:En) (h:VH),i<=ws.length->ws.length<fu+i->dB nx tg b fu i ρ h=forL tg b (ws.drop i) ρ h
 |0,i,ρ,h,hi,hl=>by lia
 |fu+1,i,ρ,h,hi,hl=>by
  simp only[dB,hx];cases q:ws[i]? with
  |none=>
   rw[yS (m5.mp q)];rfl
  |some w=>
   obtain⟨hi,e⟩:=kB.mp q;rw[o4 hi,e];simp only[forL];cases tg w h ρ with
   |none=>rfl
   |some ρ'=>
    simp only;congr 1;funext fl h1;cases fl<;>simp only[Ft hx fu (i+1) _ _ hi (by lia)]
theorem Ck{nx:Nat->VH->Option (Option W)}{tg:W->VH->En->Option En}{c e:FE}{ws:List W}(hx:∀i h,nx i h=aB ws[i]?):∀(fu i:Nat) (ρ:En) (h:VH) (acc:List W),i<=ws.length->ws.length<fu+i->
 eB nx tg c e fu i ρ h acc=(ja tg c e (ws.drop i) ρ h).bind λys h=>.ok (acc.reverse++ys) h
 |0,i,ρ,h,acc,hi,hl=>by lia
 |fu+1,i,ρ,h,acc,hi,hl=>by
  simp only[eB,hx];cases q:ws[i]? with
  |none=>
   rw[yS (m5.mp q)];simp[ja]
  |some w=>
   obtain⟨hi,ee⟩:=kB.mp q;rw[o4 hi,ee];simp only[ja];cases tg w h ρ with
   |none=>rfl
   |some ρ'=>
    simp only[bind_assoc];congr 1;funext bv h1;cases bv<;>try rfl
    rename_i bb;cases bb with
    |true=>
     simp only[bind_assoc];congr 1;funext y h2;rw[Ck hx fu (i+1) _ _ _ hi (by lia)];congr 1;funext ys h3;simp
    |false=>simp only[Ck hx fu (i+1) _ _ _ hi (by lia)]
theorem yw{ws:List W}{tg:W->VH->En->Option En}{b:FS}{ρ:En}{h:VH}(hl:ws.length<1000000):dB (aZ .seq (.tup ws)) tg b fuel 0 ρ h=forL tg b ws ρ h:=by have:=Ft (nx:=aZ .seq (.tup ws)) (tg:=tg) (b:=b) (ws:=ws) (λi h=>rfl) fuel 0 ρ h (gu _) (by simpa[fuel]using hl);simpa using this
noncomputable def cM:Nat->List W->List W|_,[]=>[]|i,w::r=>.tup [.int i,w]::cM (i+1) r
theorem Qh:∀(ws:List W) (i j:Nat),(cM j ws)[i]?=(ws[i]?).map λw=>.tup [.int ((j+i:Nat):Int),w]
 |[],i,j=>by simp[cM]
 |w::r,0,j=>by simp[cM]
 |w::r,i+1,j=>by
  simp only[cM,mR];rw[Qh r i (j+1)];congr 1;funext w;rw[show j+1+i=j+ (i+1) by lia]
theorem Qi:∀(ws:List W) (j:Nat),(cM j ws).length=ws.length|[],_=>rfl|_::r,j=>by simp[cM,Qi r]
theorem Qj{ws:List W}{tg:W->VH->En->Option En}{b:FS}{ρ:En}{h:VH}(hl:ws.length<1000000):dB (aZ .pI (.tup ws)) tg b fuel 0 ρ h=forL tg b (cM 0 ws) ρ h:=by have:=Ft (nx:=aZ .pI (.tup ws)) (tg:=tg) (b:=b) (ws:=cM 0 ws) (λi h=>by rw[Qh];simp[aZ,aO]) fuel 0 ρ h (gu _) (by simpa[fuel,Qi]using hl);simpa using this
noncomputable def gA(a:Int):Nat->List W|0=>[]|n+1=>.int a::gA (a+1) n
theorem Fv:∀(n i:Nat) (a:Int),(gA a n)[i]?=if i<n then aB (.int (a+i))else aC
 |0,i,a=>by simp[gA]
 |n+1,0,a=>by simp[gA]
 |n+1,i+1,a=>by
  simp only[gA,mR];rw[Fv n i (a+1)];by_cases q:i<n;rw[if_pos q,if_pos (by lia)];congr 2
  push_cast;lia;rw[if_neg q,if_neg (by lia)]
theorem Fw:∀(n:Nat) (a:Int),(gA a n).length=n|0,_=>rfl|n+1,a=>by simp[gA,Fw n]
theorem YN{n:Nat}{tg:W->VH->En->Option En}{b:FS}{ρ:En}{h:VH}(hl:n<1000000):dB (aZ .bM (.tup [.int n])) tg b fuel 0 ρ h=forL tg b (gA 0 n) ρ h:=by
 have hf:fits (n:Int)=true:=by simp[fits];lia
 have:=Ft (nx:=aZ .bM (.tup [.int n])) (tg:=tg) (b:=b) (ws:=gA 0 n) (λi h=>by rw[Fv];simp[aZ,hf]) fuel 0 ρ h (gu _) (by simpa[fuel,Fw]using hl);simpa using this
theorem YO{n:Nat}{tg:W->VH->En->Option En}{c e:FE}{ρ:En}{h:VH}(hl:n<1000000):eB (aZ .bM (.tup [.int n])) tg c e fuel 0 ρ h []=ja tg c e (gA 0 n) ρ h:=by
 have hf:fits (n:Int)=true:=by simp[fits];lia
 have:=Ck (nx:=aZ .bM (.tup [.int n])) (tg:=tg) (c:=c) (e:=e) (ws:=gA 0 n) (λi h=>by rw[Fv];simp[aZ,hf]) fuel 0 ρ h [] (gu _) (by simpa[fuel,Fw]using hl);rw[this];simp only[tu,xH,nc];cases ja tg c e (gA 0 n) ρ h<;>rfl
noncomputable def isInt:W->Bool|.int _=>true|_=>false
noncomputable def Kn(h:VH)(w:W):Prop:=dU .int h w≠aC
theorem fk{h:VH}{l:Nat}{w:W}:Kn ⟨h.n,l,h.os⟩ w↔Kn h w:=by unfold Kn;cases w<;>simp[dU]
structure CoreA(F:Nat->Option Fn):Prop where
 f0:F 0=aB EV
 f1:F 1=aB Jf
 f6:F 6=aB Cf
 f7:F 7=aB Cg
section
variable{F:Nat->Option Fn}(C:CoreA F)
include C
theorem YQ{k:Nat}{h:VH}{w:W}(hw:Kn h w):run F (k+1) 0 [w] h=.ok (.bl (isInt w)) h:=by
 rw[dF C.f0 rfl];cases w<;>try(simp[EV,exs,ev,isInt,dX];done)
 exact absurd rfl hw;rename_i i;unfold Kn at hw;simp only[dU]at hw;cases g:h.get i with
 |none=>rw[g]at hw;exact absurd rfl hw
 |some o=>cases o<;>first|(simp[EV,exs,ev,isInt,dX,dU,g];done)|(simp[g]at hw)
noncomputable def within(w:W)(lo hi:Int):Bool:=match w with|.int i=>decide (lo<=i)&&decide (i<=hi)|_=>false
theorem sA{k:Nat}{h:VH}{w:W}{lo hi:Int}(hw:Kn h w):run F (k+2) 1 [w,.int lo,.int hi] h=.ok (.bl (within w lo hi)) h:=by rw[dF C.f1 rfl];have e:=YQ C (k:=k) (h:=⟨h.n,h.n,h.os⟩) (w:=w) (fk.mpr hw);cases w<;>simp[Jf,exs,ev,e,isInt,within,dX,aN,fE];rename_i i;by_cases h1:lo<=i<;>simp[h1,dX]
noncomputable def gB(w:W)(lo hi:Int):Bool:=match w with|.tup ws=>decide (lo<=ws.length)&&decide ((ws.length:Int)<=hi)|_=>false
theorem wL{k:Nat}{h:VH}{w:W}{lo hi:Int}(hw:Kn h w):run F (k+1) 6 [w,.int lo,.int hi] h=.ok (.bl (gB w lo hi)) h:=by
 rw[dF C.f6 rfl];cases w<;>try(simp[Cf,exs,ev,gB,dX];done)
 rename_i ws;simp[Cf,exs,ev,gB,dX,aN,fE,gT,fO,aO];by_cases h1:lo<=ws.length<;>simp[h1,dX];exact absurd rfl hw;rename_i i;unfold Kn at hw;simp only[dU]at hw;cases g:h.get i with
 |none=>rw[g]at hw;exact absurd rfl hw
 |some o=>cases o<;>first|(simp[Cf,exs,ev,gB,dX,dU,g];done)|(simp[g]at hw)
theorem uC{k:Nat}{h:VH}{t a b:W}{lo hi:Int}:∀(ws:List W) (x:Option W),(∀w∈ws,Kn h w)->∃y,forL (aX (.one 5)) (exs (run F (k+2)) EX) ws [aB t,aB a,aB b,aB (.int lo),aB (.int hi),x] h =
 if ws.all (within · lo hi)then .ok (.nx [aB t,aB a,aB b,aB (.int lo),aB (.int hi),y]) h else .ok (.rt (.bl false)) h
 |[],x,_=>⟨x,by simp[forL]⟩
 |w::r,x,hk=>by
  obtain⟨y,e⟩:=uC (t:=t) (a:=a) (b:=b) (k:=k) (lo:=lo) (hi:=hi) r (aB w) λz hz=>hk z (dj _ hz);refine⟨y,?_⟩;have e1:=sA C (k:=k) (lo:=lo) (hi:=hi) (hk w dP);have eb:exs (run F (k+2)) EX [aB t,aB a,aB b,aB (.int lo),aB (.int hi),aB w] h=if within w lo hi then .ok (.nx [aB t,aB a,aB b,aB (.int lo),aB (.int hi),aB w]) h else .ok (.rt (.bl false)) h:=by cases q:within w lo hi<;>simp[EX,exs,ev,e1,q]
  simp only[forL,aX,List.set,eb];cases q:within w lo hi<;>simp[q,e]
noncomputable def sC(w:W)(a b lo hi:Int):Bool:=match w with|.tup ws=>gB w a b&&ws.all (within · lo hi)|_=>false
theorem Qk{k:Nat}{h:VH}{w:W}{a b lo hi:Int}(hw:Kn h w)(hp:∀ws,w=.tup ws->ws.length<1000000/\∀x∈ws,Kn h x):run F (k+3) 7 [w,.int a,.int b,.int lo,.int hi] h=.ok (.bl (sC w a b lo hi)) h:=by
 rw[dF C.f7 rfl];have e1:=wL C (k:=k+1) (h:=⟨h.n,h.n,h.os⟩) (w:=w) (lo:=a) (hi:=b) (fk.mpr hw);cases q:gB w a b with
 |false=>
  have:sC w a b lo hi=false:=by cases w<;>simp[sC,q]
  simp[Cg,exs,ev,e1,q,this,dX]
 |true=>
  cases w<;>try(simp[gB]at q;done)
  rename_i ws;obtain⟨hl,hk⟩:=hp ws rfl;obtain⟨y,e2⟩:=uC C (k:=k) (h:=⟨h.n,h.n,h.os⟩) (t:=.tup ws) (a:=.int a) (b:=.int b) (lo:=lo) (hi:=hi) ws aC λx hx=>fk.mpr (hk x hx);have e3:sC (.tup ws) a b lo hi=ws.all (within · lo hi):=by simp[sC,q]
  rw[e3];cases q2:ws.all (within · lo hi)with|true=>simp[Cg,exs,ev,e1,q,yw hl,e2,q2,dX]|false=>simp[Cg,exs,ev,e1,q,yw hl,e2,q2,dX]
end
noncomputable def iD:Nat->W->Bool
 |0,_=>false
 |n+1,w=>match w with
  |.aL=>true
  |.bl _=>true
  |.int _=>true
  |.str x=>PyData.strOk x
  |.tup ws=>ws.all (iD n)
  |_=>false
theorem Ql{f:W->Option aA}{p:W->Bool}{n:Nat}(h:∀w,p w=true->∃d,f w=aB d/\d.canLay0=true/\d.depth<=n):∀ws:List W,ws.all p=true->∃ds,aP f ws=aB ds/\PyData.canLayAll0 ds=true/\PyData.depthAll ds<=n
 |[],_=>⟨[],rfl,rfl,gu _⟩
 |w::r,e=>by
  rw[pq,bE]at e;obtain⟨d,h1,h2,h3⟩:=h w e.1;obtain⟨ds,h4,h5,h6⟩:=Ql h r e.2;refine⟨d::ds,by simp[aP,h1,h4],?_,?_⟩;show(d.canLay0&&PyData.canLayAll0 ds)=true;rw[h2,h5];rfl;show max d.depth (PyData.depthAll ds)<=n;lia
theorem Fx(h:VH):∀(n:Nat) (w:W),iD n w=true->∃d,toD h n w=aB d/\d.canLay0=true/\d.depth<=n
 |0,_,e=>by cases e
 |n+1,w,e=>by
  cases w<;>simp only[iD]at e<;>try(cases e;done)
  exact⟨.none,rfl,rfl,gu _⟩;exact⟨.bool _,rfl,rfl,gu _⟩;exact⟨.int _,rfl,rfl,gu _⟩;exact⟨.str _,rfl,e,gu _⟩;obtain⟨ds,h1,h2,h3⟩:=Ql (Fx h n) _ e;exact⟨.tuple ds,by simp[toD,h1],h2,by show PyData.depthAll ds+1<=n+1;lia⟩
mutual
theorem Qm:∀d:aA,d.canLay0=true->PyData.eqv d d=true
 |.none,_=>rfl
 |.bool b,_=>by simp[PyData.eqv]
 |.int i,_=>by simp[PyData.eqv]
 |.str x,_=>by simp[PyData.eqv]
 |.list xs,h=>by
  simp only[PyData.eqv];exact Jq xs h
 |.tuple xs,h=>by
  simp only[PyData.eqv];exact Jq xs h
 |.dict _,h=>by cases h
theorem Jq:∀ds:List aA,PyData.canLayAll0 ds=true->PyData.eqvAll ds ds=true
 |[],_=>rfl
 |d::ds,h=>by
  have h:(d.canLay0&&PyData.canLayAll0 ds)=true:=h;rw[bE]at h;simp only[PyData.eqvAll,Qm d h.1,Jq ds h.2,Bool.and_self]
end
theorem zy2{h:VH}{w:W}(p:iD 24 w):b9 h w w=aB true:=by
 obtain⟨d,h1,h2,h3⟩:=Fx h 24 w p;have hs:SeqAt.shaped d=true:=by unfold SeqAt.shaped;rw[h2,yQ,eE];lia
 unfold b9;rw[h1];simp[hs,Qm d h2]
noncomputable def je(w:W)(x:Str):Bool:=match w with|.str y=>y==x|_=>false
theorem mY{h:VH}{w:W}{x:Str}(p:iD 24 w)(hx:PyData.strOk x):b9 h w (.str x)=aB (je w x):=by
 obtain⟨d,h1,h2,h3⟩:=Fx h 24 w p;have hs:SeqAt.shaped d=true:=by unfold SeqAt.shaped;rw[h2,yQ,eE];lia
 have hs2:SeqAt.shaped (.str x)=true:=by unfold SeqAt.shaped;show(PyData.strOk x&&_)=true;rw[hx];rfl
 unfold b9;rw[h1];have h4:toD h 24 (.str x)=aB (.str x):=rfl;rw[h4];simp only[hs,hs2,Bool.and_self,bX];cases w<;>simp only[toD]at h1<;>try(cases h1;done)
 cases h1;simp[je,PyData.eqv];cases h1;simp[je,PyData.eqv];cases h1;simp[je,PyData.eqv];cases h1;simp[je,PyData.eqv];obtain⟨ds,h5,h6⟩:=Option.map_eq_some_iff.mp h1;subst h6;simp[je,PyData.eqv];simp[iD]at p;simp[iD]at p
theorem Jr{n:Nat}{ws:List W}:iD (n+1) (.tup ws)=ws.all (iD n):=rfl
theorem Js{h:VH}{n:Nat}{w:W}(p:iD n w):Kn h w:=by
 unfold Kn;cases n with|zero=>cases p|succ n=>cases w<;>simp[iD,dU]at p ⊢
structure lE(F:Nat->Option Fn):Prop extends CoreA F where
 f8:F 8=aB Jh
 f9:F 9=aB Ji
 YR:F 10=aB wo
 YS:F 11=aB rL
 YT:F 12=aB wu
 YU:F 13=aB rM
 YV:F 14=aB wz
 YW:F 15=aB wA
theorem YX:dJ .aL=true:=rfl
noncomputable def yx(w:W)(n:Int):Bool:=dJ w||within w 0 (n-1)
noncomputable def door(w:W)(n:Int):Bool:=match w with|.tup [a,b]=>within a 0 99&&yx b n|_=>false
noncomputable def mF(w:W)(g:Int):Bool:=match w with|.tup [a,b]=>within a 0 (g-1)&&within b 0 1|_=>false
noncomputable def fJ(w:W)(c wd g:Int):Bool:=
 if je w "x" || mF w g then decide (0<c)&&decide (c<wd-1)else if je w "<"then decide (0<c)else if je w ">"then decide (c<wd-1)else je w "." || je w "s"
section
variable{F:Nat->Option Fn}(C:lE F)
include C
theorem YY{k:Nat}{h:VH}{w:W}{n:Int}(hw:Kn h w):run F (k+3) 12 [w,.int n] h=.ok (.bl (yx w n)) h:=by rw[dF C.YT rfl];have e:=sA C.toCoreA (k:=k) (h:=⟨h.n,h.n,h.os⟩) (w:=w) (lo:=0) (hi:=n-1) (fk.mpr hw);cases q:dJ w<;>simp[wu,exs,ev,e,aN,YX,q,yx,dX,eW,dR]
theorem YZ{k:Nat}{h:VH}{w:W}{n:Int}(hw:Kn h w)(hp:∀a b,w=.tup [a,b]->Kn h a/\Kn h b):run F (k+4) 11 [w,.int n] h=.ok (.bl (door w n)) h:=by
 rw[dF C.YS rfl];have e1:=wL C.toCoreA (k:=k+2) (h:=⟨h.n,h.n,h.os⟩) (w:=w) (lo:=2) (hi:=2) (fk.mpr hw);cases q:gB w 2 2 with
 |false=>
  have:door w n=false:=by cases w<;>simp[door];rename_i ws;rcases ws with _|⟨a,_|⟨b,_|_⟩⟩<;>simp[gB]at q ⊢
  simp[rL,exs,ev,e1,q,this,dX]
 |true=>
  cases w<;>try(simp[gB]at q;done)
  rename_i ws;have hl:ws.length=2:=by simp[gB]at q;lia
  rcases ws with _|⟨a,_|⟨b,_|_⟩⟩<;>simp at hl;obtain⟨ka,kb⟩:=hp a b rfl;have e2:=sA C.toCoreA (k:=k+1) (h:=⟨h.n,h.n,h.os⟩) (w:=a) (lo:=0) (hi:=99) (fk.mpr ka);have e3:=YY C (k:=k) (h:=⟨h.n,h.n,h.os⟩) (w:=b) (n:=n) (fk.mpr kb);cases q2:within a 0 99<;>simp[rL,exs,ev,e1,q,e2,e3,q2,door,dX,aX,aO,iV]
theorem Y0{k:Nat}{h:VH}{w:W}{n:Int}(hw:Kn h w)(hp:∀a b,w=.tup [a,b]->Kn h a/\Kn h b):run F (k+3) 13 [w,.int n] h=.ok (.bl (mF w n)) h:=by
 rw[dF C.YU rfl];have e1:=wL C.toCoreA (k:=k+1) (h:=⟨h.n,h.n,h.os⟩) (w:=w) (lo:=2) (hi:=2) (fk.mpr hw);cases q:gB w 2 2 with
 |false=>
  have:mF w n=false:=by cases w<;>simp[mF];rename_i ws;rcases ws with _|⟨a,_|⟨b,_|_⟩⟩<;>simp[gB]at q ⊢
  simp[rM,exs,ev,e1,q,this,dX]
 |true=>
  cases w<;>try(simp[gB]at q;done)
  rename_i ws;have hl:ws.length=2:=by simp[gB]at q;lia
  rcases ws with _|⟨a,_|⟨b,_|_⟩⟩<;>simp at hl;obtain⟨ka,kb⟩:=hp a b rfl;have e2:=sA C.toCoreA (k:=k) (h:=⟨h.n,h.n,h.os⟩) (w:=a) (lo:=0) (hi:=n-1) (fk.mpr ka);have e3:=sA C.toCoreA (k:=k) (h:=⟨h.n,h.n,h.os⟩) (w:=b) (lo:=0) (hi:=1) (fk.mpr kb);cases q2:within a 0 (n-1)<;>simp[rM,exs,ev,e1,q,e2,e3,q2,mF,dX,aX,aO,iV,eW,dR]
omit C in
theorem Jt:PyData.strOk (Str.ofString "x")=true:=by decide +kernel
omit C in
theorem Ju:PyData.strOk (Str.ofString "<")=true:=by decide +kernel
omit C in
theorem Jv:PyData.strOk (Str.ofString ">")=true:=by decide +kernel
omit C in
theorem Jw:PyData.strOk (Str.ofString ".")=true:=by decide +kernel
omit C in
theorem Jx:PyData.strOk (Str.ofString "s")=true:=by decide +kernel
theorem Y3{k:Nat}{h:VH}{w:W}{c wd g:Int}(p:iD 24 w):run F (k+4) 15 [w,.int c,.int wd,.int g] h=.ok (.bl (fJ w c wd g)) h:=by
 rw[dF C.YW rfl];have hp:∀a b,w=.tup [a,b]->Kn ⟨h.n,h.n,h.os⟩ a/\Kn ⟨h.n,h.n,h.os⟩ b:=λa b e=>by
  subst e;have p:iD (23+1) (.tup [a,b])=true:=p;rw[Jr,pq,pq,bE,bE]at p;exact⟨Js p.1,Js p.2.1⟩
 have e1:=Y0 C (k:=k) (h:=⟨h.n,h.n,h.os⟩) (w:=w) (n:=g) (Js p) hp;have sx:=mY (h:=⟨h.n,h.n,h.os⟩) (x:=Str.ofString "x") p Jt;have sl:=mY (h:=⟨h.n,h.n,h.os⟩) (x:=Str.ofString "<") p Ju;have sg:=mY (h:=⟨h.n,h.n,h.os⟩) (x:=Str.ofString ">") p Jv;have sd:=mY (h:=⟨h.n,h.n,h.os⟩) (x:=Str.ofString ".") p Jw;have ss:=mY (h:=⟨h.n,h.n,h.os⟩) (x:=Str.ofString "s") p Jx;unfold fJ;cases q1:je w (Str.ofString "x")<;>cases q2:mF w g<;>cases q3:je w (Str.ofString "<")<;>cases q4:je w (Str.ofString ">")<;>cases q5:je w (Str.ofString ".")<;>by_cases h1:0<c<;>
  simp[wA,exs,ev,aN,fE,sx,sl,sg,sd,ss,e1,eW,dR,q1,q2,q3,q4,q5,h1,dX]
theorem Qn{k:Nat}{h:VH}{t a:W}{n:Int}:∀(ws:List W) (x:Option W),(∀w∈ws,Kn h w/\∀a b,w=.tup [a,b]->Kn h a/\Kn h b)->∃y,forL (aX (.one 3)) (exs (run F (k+4)) EY) ws [aB t,aB a,aB (.int n),x] h =
 if ws.all (door · n)then .ok (.nx [aB t,aB a,aB (.int n),y]) h else .ok (.rt (.bl false)) h
 |[],x,_=>⟨x,by simp[forL]⟩
 |w::r,x,hk=>by
  obtain⟨y,e⟩:=Qn (t:=t) (a:=a) (k:=k) (n:=n) r (aB w) λz hz=>hk z (dj _ hz);refine⟨y,?_⟩;obtain⟨k1,k2⟩:=hk w dP;have e1:=YZ C (k:=k) (n:=n) k1 k2;have eb:exs (run F (k+4)) EY [aB t,aB a,aB (.int n),aB w] h=if door w n then .ok (.nx [aB t,aB a,aB (.int n),aB w]) h else .ok (.rt (.bl false)) h:=by cases q:door w n<;>simp[EY,exs,ev,e1,q]
  simp only[forL,aX,List.set,eb];cases q:door w n<;>simp[q,e]
theorem Y4{k:Nat}{h:VH}{ws:List W}{wd n:Int}(hl:ws.length=wd)(hz:ws.length<1000000)(hd:∀w∈ws,door w n):run F (k+5) 8 [.tup ws,.int wd,.int n] h=.ok (.bl true) h:=by
 rw[dF C.f8 rfl];have e1:=wL C.toCoreA (k:=k+3) (h:=⟨h.n,h.n,h.os⟩) (w:=.tup ws) (lo:=wd) (hi:=wd) (by unfold Kn;simp);have q:gB (.tup ws) wd wd=true:=by simp[gB,hl]
 have kn:∀w∈ws,Kn ⟨h.n,h.n,h.os⟩ w/\∀a b,w=.tup [a,b]->Kn ⟨h.n,h.n,h.os⟩ a/\Kn ⟨h.n,h.n,h.os⟩ b:=λw hw=>by
  have:=hd w hw;cases w<;>simp only[door]at this<;>try(cases this;done)
  rename_i us;refine⟨by unfold Kn;simp,λa b e=>?_⟩;cases e;simp only[bE]at this;obtain⟨h1,h2⟩:=this;refine⟨?_,?_⟩;cases a<;>simp[within]at h1;unfold Kn;simp;unfold yx at h2;cases b<;>simp[within,dJ]at h2;unfold Kn;simp;unfold Kn;simp
 obtain⟨y,e2⟩:=Qn C (k:=k) (h:=⟨h.n,h.n,h.os⟩) (t:=.tup ws) (a:=.int wd) (n:=n) ws aC kn;have ha:ws.all (door · n)=true:=lJ.mpr hd;simp[Jh,exs,ev,e1,q,yw hz,e2,ha,dX]
theorem Qo{k:Nat}{h:VH}{t:W}{wd:Int}:∀(ws:List W) (x:Option W),(∀w∈ws,∃us,w=.tup us/\us.length=wd)->∃y,forL (aX (.one 2)) (exs (run F (k+1)) EZ) ws [aB t,aB (.int wd),x] h=.ok (.nx [aB t,aB (.int wd),y]) h
 |[],x,_=>⟨x,by simp[forL]⟩
 |w::r,x,hk=>by
  obtain⟨y,e⟩:=Qo (h:=h) (t:=t) (k:=k) (wd:=wd) r (aB w) λz hz=>hk z (dj _ hz);refine⟨y,?_⟩;obtain⟨us,rfl,hl⟩:=hk w dP;have e1:=wL C.toCoreA (k:=k) (h:=h) (w:=.tup us) (lo:=wd) (hi:=wd) (by unfold Kn;simp);have q:gB (.tup us) wd wd=true:=by simp[gB,hl]
  have eb:exs (run F (k+1)) EZ [aB t,aB (.int wd),aB (.tup us)] h=.ok (.nx [aB t,aB (.int wd),aB (.tup us)]) h:=by simp[EZ,exs,ev,e1,q]
  simp only[forL,aX,List.set,eb,aD,e]
theorem Y5{k:Nat}{h:VH}{ws:List W}{wd:Int}(hl:ws.length<=60)(hd:∀w∈ws,∃us,w=.tup us/\us.length=wd):run F (k+2) 9 [.tup ws,.int wd] h=.ok (.bl true) h:=by
 rw[dF C.f9 rfl];have e1:=wL C.toCoreA (k:=k) (h:=⟨h.n,h.n,h.os⟩) (w:=.tup ws) (lo:=0) (hi:=60) (by unfold Kn;simp);have q:gB (.tup ws) 0 60=true:=by simp[gB];lia
 obtain⟨y,e2⟩:=Qo C (k:=k) (h:=⟨h.n,h.n,h.os⟩) (t:=.tup ws) (wd:=wd) ws aC hd;simp[Ji,exs,ev,e1,q,yw (show ws.length<1000000 by lia),e2,dX]
end
structure Bd where
 wd:Int
 gr:Int
 rows:List (List W)
 fd:List W
 dr:List W
noncomputable def Bd.w(B:Bd):W:=.tup [.int B.wd,.int B.gr,.tup (B.rows.map .tup),.tup B.fd,.tup B.dr]
noncomputable def ck(wd g:Int):Int->List W->Prop|_,[]=>True|c,w::r=>fJ w c wd g=true/\ck wd g (c+1) r
structure Bd.Ok(B:Bd):Prop where
 w1:1<=B.wd
 w2:B.wd<=40
 g1:0<=B.gr
 g2:B.gr<=8
 r1:B.rows.length<=60
 r2:∀r∈B.rows,(r.length:Int)=B.wd/\ck B.wd B.gr 0 r
 f1:1<=B.fd.length
 f2:B.fd.length<=4
 f3:∀f∈B.fd,within f 0 (B.wd-1)=true
 d1:(B.dr.length:Int)=B.wd
 d2:∀d∈B.dr,door d B.fd.length=true
structure Bd.Qp(B:Bd):Prop where
 w1:1<=B.wd
 w2:B.wd<=40
 g1:0<=B.gr
 g2:B.gr<=8
 r1:B.rows.length<=60
 r2:∀r∈B.rows,(r.length:Int)=B.wd
 f1:1<=B.fd.length
 f2:B.fd.length<=4
 f3:∀f∈B.fd,within f 0 (B.wd-1)=true
 d1:(B.dr.length:Int)=B.wd
 d2:∀d∈B.dr,door d B.fd.length=true
theorem Bd.Ok.Y6{B:Bd}(b:B.Ok):B.Qp:=⟨b.w1,b.w2,b.g1,b.g2,b.r1,λr hr=>(b.r2 r hr).1,b.f1,b.f2,b.f3,b.d1,b.d2⟩
theorem Y7{w:W}{g:Int}(h:mF w g)(n:Nat):iD (n+2) w=true:=by
 cases w<;>simp only[mF]at h<;>try(cases h;done)
 rename_i us;rcases us with _|⟨a,_|⟨b,_|_⟩⟩<;>simp at h
 obtain⟨h1,h2⟩:=h;cases a<;>simp[within]at h1;cases b<;>simp[within]at h2;rfl
theorem yy{w:W}{x:Str}(h:je w x):w=.str x:=by cases w<;>simp[je]at h;rw[h]
theorem Y8{w:W}{c wd g:Int}(h:fJ w c wd g)(n:Nat):iD (n+2) w=true:=by
 have st:∀x:Str,PyData.strOk x=true->je w x=true->iD (n+2) w=true:=λx hx e=>by rw[yy e];exact hx
 unfold fJ at h;split at h;rename_i q;rw[pY]at q;rcases q with q|q
 exact st _ (by decide +kernel) q;exact Y7 q n;split at h;rename_i q;exact st _ (by decide +kernel) q;split at h;rename_i q;exact st _ (by decide +kernel) q;rw[pY]at h;rcases h with q|q
 exact st _ (by decide +kernel) q;exact st _ (by decide +kernel) q
section
variable{F:Nat->Option Fn}(C:lE F)
include C
theorem Y9{k:Nat}{h:VH}{B:Bd}(b:B.Qp):run F (k+6) 10 [B.w] h=.ok (.bl true) h:=by
 rw[dF C.YR rfl];have e1:=wL C.toCoreA (k:=k+4) (h:=⟨h.n,h.n,h.os⟩) (w:=B.w) (lo:=5) (hi:=5) (by unfold Kn Bd.w;simp);have q1:gB B.w 5 5=true:=by simp[gB,Bd.w]
 have e2:=sA C.toCoreA (k:=k+3) (h:=⟨h.n,h.n,h.os⟩) (w:=.int B.wd) (lo:=1) (hi:=40) (by unfold Kn;simp);have q2:within (.int B.wd) 1 40=true:=by simp[within,b.w1,b.w2]
 have e3:=sA C.toCoreA (k:=k+3) (h:=⟨h.n,h.n,h.os⟩) (w:=.int B.gr) (lo:=0) (hi:=8) (by unfold Kn;simp);have q3:within (.int B.gr) 0 8=true:=by simp[within,b.g1,b.g2]
 have kf:∀x∈B.fd,Kn ⟨h.n,h.n,h.os⟩ x:=λx hx=>by
  have:=b.f3 x hx;cases x<;>simp[within]at this;unfold Kn;simp
 have hf:=b.f2;have e4:=Qk C.toCoreA (k:=k+2) (h:=⟨h.n,h.n,h.os⟩) (w:=.tup B.fd) (a:=1) (b:=4) (lo:=0) (hi:=B.wd-1) (by unfold Kn;simp) (λws e=>by cases e;exact⟨by lia,kf⟩);have q4:sC (.tup B.fd) 1 4 0 (B.wd-1)=true:=by have h1:=b.f1;simp only[sC,gB,bE,eE];exact⟨⟨by lia,by lia⟩,lJ.mpr b.f3⟩
 have e5:=Y5 C (k:=k+3) (h:=⟨h.n,h.n,h.os⟩) (ws:=B.rows.map .tup) (wd:=B.wd) (by rw[bJ];exact b.r1) (λw hw=>by
  obtain⟨r,hr,e⟩:=p9.mp hw;exact⟨r,e.symm,b.r2 r hr⟩)
 have hd:=b.d1;have Qq:=b.w2;have e6:=Y4 C (k:=k) (h:=⟨h.n,h.n,h.os⟩) (ws:=B.dr) (wd:=B.wd) (n:=B.fd.length) hd (by lia) b.d2;unfold Bd.w at e1 q1 ⊢;simp[wo,exs,ev,e1,q1,e2,q2,e3,q3,e4,q4,e5,e6,dX,aX,aO,iV,eW,dR,gT,fO]
theorem Za{k:Nat}{h:VH}{B:Bd}(b:B.Ok):run F (k+6) 10 [B.w] h=.ok (.bl true) h:=Y9 C b.Y6
theorem Qs{k:Nat}{h:VH}{t rs pl:W}{wd g r0:Int}:∀(ws:List W) (c:Int) (j:Nat) (x y:Option W),c=j->ck wd g c ws->∃x' y',forL (aX (.many [6,7])) (exs (run F (k+4)) E3) (cM j ws) [aB t,aB (.int wd),aB (.int g),aB rs,aB (.int r0),aB pl,x,y] h =
 .ok (.nx [aB t,aB (.int wd),aB (.int g),aB rs,aB (.int r0),aB pl,x',y']) h
 |[],c,j,x,y,_,_=>⟨x,y,by simp[forL,cM]⟩
 |w::r,c,j,x,y,hc,ho=>by
  obtain⟨h1,h2⟩:=ho;obtain⟨x',y',e⟩:=Qs (h:=h) (t:=t) (rs:=rs) (pl:=pl) (k:=k) (wd:=wd) (g:=g) (r0:=r0) r (c+1) (j+1) (aB (.int j)) (aB w) (by rw[hc];push_cast;rfl) h2;refine⟨x',y',?_⟩;have e1:=Y3 C (k:=k) (h:=h) (c:=j) (wd:=wd) (g:=g) (Y8 h1 22);rw[<-hc,h1]at e1;have eb:exs (run F (k+4)) E3 [aB t,aB (.int wd),aB (.int g),aB rs,aB (.int r0),aB pl,aB (.int j),aB w] h=.ok (.nx [aB t,aB (.int wd),aB (.int g),aB rs,aB (.int r0),aB pl,aB (.int j),aB w]) h:=by rw[hc]at e1;simp[E3,exs,ev,e1]
  simp only[forL,cM,aX,aO,iV,List.set,eb,aD,e]
theorem Qt{k:Nat}{h:VH}{t rs:W}{wd g:Int}:∀(ws:List (List W)) (j:Nat) (x y z u:Option W),(∀r∈ws,(r.length:Int)<1000000/\ck wd g 0 r)->∃x' y' z' u',forL (aX (.many [4,5])) (exs (run F (k+4)) E4) (cM j (ws.map .tup)) [aB t,aB (.int wd),aB (.int g),aB rs,x,y,z,u] h =
 .ok (.nx [aB t,aB (.int wd),aB (.int g),aB rs,x',y',z',u']) h
 |[],j,x,y,z,u,_=>⟨x,y,z,u,by simp[forL,cM]⟩
 |w::r,j,x,y,z,u,ho=>by
  obtain⟨h1,h2⟩:=ho w dP;obtain⟨z1,u1,e1⟩:=Qs C (k:=k) (h:=h) (t:=t) (rs:=rs) (pl:=.tup w) (wd:=wd) (g:=g) (r0:=j) w 0 0 z u rfl h2;obtain⟨x',y',z',u',e⟩:=Qt (h:=h) (t:=t) (rs:=rs) (k:=k) (wd:=wd) (g:=g) r (j+1) (aB (.int j)) (aB (.tup w)) z1 u1 λq hq=>ho q (dj _ hq);refine⟨x',y',z',u',?_⟩;have eb:exs (run F (k+4)) E4 [aB t,aB (.int wd),aB (.int g),aB rs,aB (.int j),aB (.tup w),z,u] h=.ok (.nx [aB t,aB (.int wd),aB (.int g),aB rs,aB (.int j),aB (.tup w),z1,u1]) h:=by simp[E4,exs,ev,Qj (show w.length<1000000 by lia),e1]
  simp only[forL,dw,cM,aX,aO,iV,List.set,eb,aD,e]
theorem Zb{k:Nat}{h:VH}{B:Bd}(b:B.Ok):run F (k+7) 14 [B.w] h=.ok .aL h:=by
 rw[dF C.YV rfl];have e1:=Za C (k:=k) (h:=⟨h.n,h.n,h.os⟩) b;have Qq:=b.w2;have h60:=b.r1;obtain⟨x',y',z',u',e2⟩:=Qt C (k:=k+2) (h:=⟨h.n,h.n,h.os⟩) (t:=B.w) (rs:=.tup (B.rows.map .tup)) (wd:=B.wd) (g:=B.gr) B.rows 0 aC aC aC aC λr hr=>⟨by have:=(b.r2 r hr).1;lia,(b.r2 r hr).2⟩
 unfold Bd.w at e1 e2 ⊢;simp[wz,exs,ev,e1,Qf,aX,aO,iV,eN,iU,HT.bH,Qj (show(B.rows.map W.tup).length<1000000 by rw[bJ];lia),e2]
end
structure CoreD(F:Nat->Option Fn):Prop where
 f2:F 2=aB EW
 f3:F 3=aB Cd
 f4:F 4=aB Jg
 f5:F 5=aB rK
theorem fU{h:VH}{i j:Int}:b9 h (.int i) (.int j)=aB (decide (i=j)):=by unfold b9;simp only[toD];show aB (i==j)=_;by_cases q:i=j<;>simp[q]
theorem Fy{i:Int}(h1:-(2 ^ 63)<=i)(h2:i<2 ^ 63):mW i=true:=by unfold mW;simp only[bE,eE];lia
theorem yz{h:VH}{i:Nat}{o o0:VO}(g:h.get i=aB o0):(h.set i o).get i=aB o:=by have hi:=cR g;unfold VH.get at g;rw[if_pos (gx.mpr hi)]at g;have hl:=(kB.mp g).1;unfold VH.get VH.set;simp only[if_pos (gx.mpr hi)];rw[uO hl]
theorem yC{h:VH}{i j:Nat}{o o0:VO}(g:h.get i=aB o0)(hj:j≠i):(h.set i o).get j=h.get j:=vQ (cR g) hj
structure Dk(h:VH)(d c:Nat)(b:Nat):Prop where
 ne:d≠c
 st:∃(ns cells:List Int) (p q:Int),h.get d=aB (.lst [.fz (ns.map .int),.ref c,.int p,.int q])/\h.get c=aB (.lst (cells.map .int))/\(∀x∈cells,(0:Int)<=x)/\0<=p/\0<=q/\q<=b/\cells.length<=63
theorem Dk.mono{h:VH}{d c b b':Nat}(D:Dk h d c b)(hb:b<=b'):Dk h d c b':=by obtain⟨ne,ns,cells,p,q,a1,a2,a3,a4,a5,a6,a7⟩:=D;exact⟨ne,ns,cells,p,q,a1,a2,a3,a4,a5,by lia,a7⟩
structure bO(h h':VH)(d c:Nat):Prop where
 le:h.n<=h'.n
 get:∀i o,i≠d->i≠c->h.get i=aB o->h'.get i=aB o
theorem bO.refl{h:VH}{d c:Nat}:bO h h d c:=⟨aR _,λ_ _ _ _ e=>e⟩
theorem bO.trans{h h1 h2:VH}{d c:Nat}(a:bO h h1 d c)(b:bO h1 h2 d c):bO h h2 d c:=⟨gJ a.le b.le,λi o h1 h2 e=>b.get i o h1 h2 (a.get i o h1 h2 e)⟩
theorem Jy(i:Int):(if i<0 then -i else i)=(i.natAbs:Int):=by split<;>lia
section
variable{F:Nat->Option Fn}(C:CoreD F)
include C
theorem cell{k:Nat}{h:VH}{ns:List Int}{j:Int}(hj:0<=j):∃r,run F (k+1) 2 [.fz (ns.map .int),.int j] h=.ok (.int r) h/\0<=r:=by
 rw[dF C.f2 rfl];cases ns with
 |nil=>
  refine⟨7*j+3,?_,by lia⟩;simp[EW,exs,ev,gT,fO,aO,aN,fU,eW,dR,Fy,dX]
 |cons n0 sD=>
  have hl:(0:Int)< ((n0::sD).length:Int):=by simp only[cZ];lia
  have hm1:=Dq j (show((n0::sD).length:Int)≠0 by lia);have hm2:=Dp j hl;obtain⟨m,hm⟩:=jZ hm1;have hml:m< (n0::sD).length:=by lia
  have ha:dG (List.map W.int (n0::sD)) (j % ((n0::sD).length:Int))=aB (.int ((n0::sD)[m])):=by rw[hm];exact pG (by rw[jb,ig hml];rfl)
  have hb:¬(((sD.length:Int)+1)=0):=by lia
  have hp:(0:Int)< (sD.length:Int)+1:=by lia
  refine⟨(((n0::sD)[m]).natAbs:Int),?_,by lia⟩;simp only[cZ,Int.natCast_add,Int.cast_ofNat_Int,dw]at ha;simp[EW,exs,ev,gT,fO,aO,aN,fU,eW,dR,dX,bF,kh,hb,hp,ha,Jy]
theorem mixed{k:Nat}{h:VH}{ns:List Int}{j m:Int}(hj:0<=j)(hj2:j<=1000000000)(hm:0<m):∃r,run F (k+2) 4 [.fz (ns.map .int),.int j,.int m] h=.ok (.int r) h/\0<=r/\r<m:=by
 rw[dF C.f4 rfl];obtain⟨c,e1,hc⟩:=cell C (k:=k) (h:=⟨h.n,h.n,h.os⟩) (ns:=ns) hj;have h1:=Dq c (show(1000003:Int)≠0 by decide);have h2:=Dp c (show(0:Int)<1000003 by decide);generalize hx:c % 1000003=x at h1 h2;have s1:mW (x+5)=true:=Fy (by lia) (by lia);have s2:mW 7919=true:=Fy (by decide) (by decide);have hb:(x+5)* (j+2)<=1000008*1000000002:=Int.mul_le_mul (by lia) (by lia) (by lia) (by lia);have hb0:0<=(x+5)* (j+2):=Int.mul_nonneg (by lia) (by lia);generalize hy:(x+5)* (j+2)=y at hb hb0;have hn:(y+7919*j).natAbs<2 ^ 64:=by lia
 refine⟨(y+7919*j) ^ 5 % 2147483647/13 % m,?_,Dq _ (by lia),Dp _ hm⟩;have hn':(y+7919*j).natAbs<18446744073709551616:=by lia
 simp[Jg,exs,ev,e1,eW,dR,hx,s1,s2,hy,hn',hm,dX]
theorem Qu{k:Nat}{d c:Nat}{m q:Int}{ns:List Int}(hdc:d≠c)(hm:0<m)(hm2:m<1073741824):∀(n f:Nat) (g:VH) (x:Option W) (cells:List Int) (p:Int),n<f->(cells.length:Int)-p<=n->0<=p->(∀y∈cells,(0:Int)<=y)->
 g.get d=aB (.lst [.fz (ns.map .int),.ref c,.int p,.int q])->g.get c=aB (.lst (cells.map .int))->
 ∃(g':VH) (cells':List Int) (p':Int),0<=p'/\(∀y∈cells',(0:Int)<=y)/\cells'.length=cells.length/\g'.get d=aB (.lst [.fz (ns.map .int),.ref c,.int p',.int q])/\g'.get c=aB (.lst (cells'.map .int))/\g'.n=g.n/\(∀i,i≠d->i≠c->g'.get i=g.get i)/\
  ((∃r,fF (ev (run F (k+2)) Ce) (exs (run F (k+2)) wm) f [aB (.ref d),aB (.int m),x] g=.ok (.rt (.int r)) g'/\0<=r/\r<m)\/∃y,fF (ev (run F (k+2)) Ce) (exs (run F (k+2)) wm) f [aB (.ref d),aB (.int m),x] g=.ok (.nx [aB (.ref d),aB (.int m),y]) g')
 |n,0,g,x,cells,p,hf,_,_,_,_,_=>by lia
 |n,f+1,g,x,cells,p,hf,hn,hp,hnn,gd,gc=>by
  have ec:ev (run F (k+2)) Ce [aB (.ref d),aB (.int m),x] g=.ok (.bl (decide (p<cells.length))) g:=by simp[Ce,ev,bF,gd,dG,iA,gT,fO,aO,gc,aN,fE]
  by_cases hlt:p<cells.length;obtain⟨pn,rfl⟩:=jZ hp;have hpl:pn<cells.length:=by lia
  have hat:dG (cells.map W.int) (pn:Int)=aB (.int cells[pn]):=pG (by rw[jb,ig hpl];rfl);by_cases hpos:0<cells[pn];refine⟨g.set c (.lst ((cells.set pn (cells[pn]/m)).map .int)),cells.set pn (cells[pn]/m),pn,hp,?_,by simp,?_,yz gc,rfl,λi _ hi=>yC gc hi,.inl ⟨cells[pn] % m,?_,Dq _ (by lia),Dp _ hm⟩⟩;intro y hy;rcases List.mem_or_eq_of_mem_set hy with hy|rfl
  exact hnn y hy;exact Int.ediv_nonneg (by lia) (by lia);rw[yC gc hdc];exact gd;have hix:iA (cells.map W.int).length (pn:Int)=aB pn:=by unfold iA;rw[if_pos (by lia),if_pos (by rw[bJ];lia)];simp
  have eb:exs (run F (k+2)) wm [aB (.ref d),aB (.int m),x] g=.ok (.rt (.int (cells[pn] % m))) (g.set c (.lst ((cells.set pn (cells[pn]/m)).map .int))):=by have h2:dG [W.fz (ns.map .int),.ref c,.int pn,.int q] 2=aB (.int pn):=rfl;have h1:dG [W.fz (ns.map .int),.ref c,.int pn,.int q] 1=aB (.ref c):=rfl;simp[wm,exs,ev,bF,gd,h1,h2,gc,hat,aN,fE,hpos,eW,dR,hm,hm2]at hix ⊢;simp[hix,hm,List.map_set]
  simp[fF,ec,hlt,eb];have gs:(g.set d (.lst [.fz (ns.map .int),.ref c,.int ((pn:Int)+1),.int q])).get c=aB (.lst (cells.map .int)):=by rw[yC gd (fK hdc)];exact gc
  cases n with
  |zero=>lia
  |succ n=>
   obtain⟨g',cells',p',a1,a2,a3,a4,a5,a6,a7,a8⟩:=Qu (k:=k) hdc hm hm2 n f (g.set d (.lst [.fz (ns.map .int),.ref c,.int ((pn:Int)+1),.int q])) (aB (.int cells[pn])) cells (pn+1) (by lia) (by lia) (by lia) hnn (yz gd) gs;have eb:exs (run F (k+2)) wm [aB (.ref d),aB (.int m),x] g=.ok (.nx [aB (.ref d),aB (.int m),aB (.int cells[pn])]) (g.set d (.lst [.fz (ns.map .int),.ref c,.int ((pn:Int)+1),.int q])):=by have h2:dG [W.fz (ns.map .int),.ref c,.int pn,.int q] 2=aB (.int pn):=rfl;have h1:dG [W.fz (ns.map .int),.ref c,.int pn,.int q] 1=aB (.ref c):=rfl;have h3:iA 4 2=aB 2:=rfl;simp[wm,exs,ev,bF,gd,h1,h2,h3,gc,hat,aN,fE,hpos,eW,dR]
   refine⟨g',cells',p',a1,a2,a3,a4,a5,a6,λi h1 h2=>by rw[a7 i h1 h2,yC gd h1],?_⟩;rcases a8 with⟨r,e,h3⟩|⟨y,e⟩
   exact .inl ⟨r,by simp[fF,ec,hlt,eb,e],h3⟩;exact .inr ⟨y,by simp[fF,ec,hlt,eb,e]⟩
  exact⟨g,cells,p,hp,hnn,rfl,gd,gc,rfl,λ_ _ _=>rfl,.inr ⟨x,by simp[fF,ec,hlt]⟩⟩
omit C in
theorem Qv{h h':VH}{w:W}(g:fG ⟨h.n,h.n,h.os⟩ h'):∃h2,leave h w h'=.ok w h2/\h.n<=h2.n/\∀i,i<h.n->h2.get i=h'.get i:=by
 unfold leave;split;rename_i q;rw[bE]at q;have hlo:=jf q.1;exact⟨h,rfl,aR _,λi hi=>by
  rw[g.2.2 i hi (ek hi hlo)];exact bU.symm⟩
 exact⟨_,rfl,g.1,λi hi=>bU⟩
theorem take{k:Nat}{h:VH}{d c b:Nat}{m:Int}(D:Dk h d c b)(hb:b<1000000000)(hm:0<m)(hm2:m<1073741824):∃r h',run F (k+3) 5 [.ref d,.int m] h=.ok (.int r) h'/\0<=r/\r<m/\Dk h' d c (b+1)/\bO h h' d c:=by
 rw[dF C.f5 rfl];obtain⟨hne,ns,cells,p,q,gd,gc,hnn,hp,hq,hqb,hl⟩:=D;have Zc:VH.get ⟨h.n,h.n,h.os⟩ d=aB (.lst [.fz (ns.map .int),.ref c,.int p,.int q]):=by rw[bU];exact gd
 have Zd:VH.get ⟨h.n,h.n,h.os⟩ c=aB (.lst (cells.map .int)):=by rw[bU];exact gc
 obtain⟨g',cells',p',a1,a2,a3,a4,a5,a6,a7,a8⟩:=Qu C (k:=k) hne hm hm2 63 fuel ⟨h.n,h.n,h.os⟩ aC cells p (by decide) (by lia) hp hnn Zc Zd;have key:∀(g2:VH)(r:Int)(g6:List Int)(p2 q2:Int),exs (run F (k+2)) rK.body [aB (.ref d),aB (.int m),aC] ⟨h.n,h.n,h.os⟩=.ok (.rt (.int r)) g2->0<=r->r<m->0<=p2->0<=q2->q2<=b+1->g6.length<=63->(∀y∈g6,(0:Int)<=y)->
  g2.get d=aB (.lst [.fz (ns.map .int),.ref c,.int p2,.int q2])->g2.get c=aB (.lst (g6.map .int))->(∀i,i<h.n->i≠d->i≠c->g2.get i=h.get i)->
  ∃r h',fin h (exs (run F (k+2)) rK.body ([W.ref d,W.int m].map aB++bD (rK.n-rK.ps) aC) ⟨h.n,h.n,h.os⟩)=.ok (.int r) h'/\0<=r/\r<m/\Dk h' d c (b+1)/\bO h h' d c:=by
  intro g2 r g6 p2 q2 e r1 r2 b1 b2 b3 b4 b5 b6 b7 b8;obtain⟨h2,e2,hn2,kj⟩:=Qv (w:=.int r) (EG (EH F (k+2)) _ _ _ _ _ e);refine⟨r,h2,?_,r1,r2,⟨hne,ns,g6,p2,q2,?_,?_,b5,b1,b2,by lia,b4⟩,⟨hn2,λi o h1 h3 e3=>?_⟩⟩;show fin h (exs (run F (k+2)) rK.body [aB (.ref d),aB (.int m),aC] ⟨h.n,h.n,h.os⟩)=_;rw[e];exact e2;rw[kj d (cR gd)];exact b6;rw[kj c (cR gc)];exact b7;rw[kj i (cR e3),b8 i (cR e3) h1 h3];exact e3
 rcases a8 with⟨r,e,r1,r2⟩|⟨y,e⟩;refine key g' r cells' p' q ?_ r1 r2 a1 hq (by lia) (by lia) a2 a4 a5 λi hi h1 h2=>by rw[a7 i h1 h2,bU]
 simp[rK,exs,e];obtain⟨r,e2,r1,r2⟩:=mixed C (k:=k) (h:=g'.set d (.lst [.fz (ns.map .int),.ref c,.int p',.int (q+1)])) (ns:=ns) (j:=q+1) (m:=m) (by lia) (by lia) hm;refine key (g'.set d (.lst [.fz (ns.map .int),.ref c,.int p',.int (q+1)])) r cells' p' (q+1) ?_ r1 r2 a1 (by lia) (by lia) (by lia) a2 (yz a4) (by rw[yC a4 (fK hne)];exact a5) λi hi h1 h2=>by rw[yC a4 h1,a7 i h1 h2,bU]
 have h3:dG [W.fz (ns.map .int),.ref c,.int p',.int q] 3=aB (.int q):=rfl;have h30:dG [W.fz (ns.map .int),.ref c,.int p',.int (q+1)] 3=aB (.int (q+1)):=rfl;have Ze:dG [W.fz (ns.map .int),.ref c,.int p',.int (q+1)] 0=aB (.fz (ns.map .int)):=rfl;have Zf:iA 4 3=aB 3:=rfl;have hs:=yz (o:=.lst [.fz (ns.map .int),.ref c,.int p',.int (q+1)]) a4;simp[rK,exs,e,ev,bF,a4,h3,eW,dR,Zf,hs,h30,Ze,e2]
end
theorem bf{cl:Call}{a b:S}{ρ ρ':En}{h h':VH}(e:exs cl a ρ h=.ok (.nx ρ') h'):exs cl (.seq a b) ρ h=exs cl b ρ' h':=by simp only[exs,e,aD]
theorem jS{cl:Call}{a b:S}{ρ:En}{w:W}{h h':VH}(e:exs cl a ρ h=.ok (.rt w) h'):exs cl (.seq a b) ρ h=.ok (.rt w) h':=by simp only[exs,e,aD]
@[simp] theorem Cm {cl:Call} {ρ:En} {h:VH}:exs cl .skip ρ h=.ok (.nx ρ) h:=rfl
theorem Dk.new{h:VH}{d c b:Nat}{o:VO}(D:Dk h d c b):Dk (h.new o) d c b:=by obtain⟨ne,ns,cells,p,q,a1,a2,a3⟩:=D;exact⟨ne,ns,cells,p,q,by rw[iB (cR a1)];exact a1,by rw[iB (cR a2)];exact a2,a3⟩
theorem bO.new{h h':VH}{d c:Nat}{o:VO}(K:bO h h' d c):bO h (h'.new o) d c:=⟨yO K.le,λi o' h1 h2 e=>by
 have:=K.get i o' h1 h2 e;rw[iB (cR this)];exact this⟩
theorem Dk.lo{h:VH}{d c b l:Nat}(D:Dk h d c b):Dk ⟨h.n,l,h.os⟩ d c b:=by obtain⟨ne,ns,cells,p,q,a1,a2,a3⟩:=D;exact⟨ne,ns,cells,p,q,by rw[bU];exact a1,by rw[bU];exact a2,a3⟩
theorem wM{cl:Call}{h h':VH}{d c b:Nat}{w:W}{fl:Fl}{body:S}{ρ:En}{F:Nat->Option Fn}{k:Nat}(e:exs (run F k) body ρ ⟨h.n,h.n,h.os⟩=.ok (.rt w) h')(D0:Dk h d c 0\/∃b,Dk h d c b)(D:Dk h' d c b)(K:bO ⟨h.n,h.n,h.os⟩ h' d c) :
 ∃h2,fin h (exs (run F k) body ρ ⟨h.n,h.n,h.os⟩)=.ok w h2/\Dk h2 d c b/\bO h h2 d c:=by
 obtain⟨h2,e2,hn2,kj⟩:=Qv (w:=w) (EG (EH F k) _ _ _ _ _ e);have hd:d<h.n/\c<h.n:=by rcases D0 with⟨_,ns,cells,p,q,a1,a2,_⟩|⟨b,_,ns,cells,p,q,a1,a2,_⟩<;>exact⟨cR a1,cR a2⟩
 refine⟨h2,by rw[e];exact e2,?_,⟨hn2,λi o h1 h3 e3=>?_⟩⟩;obtain⟨ne,ns,cells,p,q,a1,a2,a3⟩:=D;exact⟨ne,ns,cells,p,q,by rw[kj d hd.1];exact a1,by rw[kj c hd.2];exact a2,a3⟩;rw[kj i (cR e3)];exact K.get i o h1 h3 (by rw[bU];exact e3)
noncomputable abbrev aG:Str:=Str.ofString "."
noncomputable abbrev cu:Str:=Str.ofString "<"
noncomputable abbrev cz:Str:=Str.ofString ">"
noncomputable abbrev sX:Str:=Str.ofString "x"
noncomputable abbrev sS:Str:=Str.ofString "s"
theorem Jz{c wd g:Int}:fJ (.str aG) c wd g=true:=rfl
theorem Cn{c wd g:Int}:fJ (.str sS) c wd g=true:=rfl
theorem Qw{c wd g:Int}(h:0<c):fJ (.str cu) c wd g=true:=by have:fJ (.str cu) c wd g=decide (0<c):=rfl;rw[this];simpa using h
theorem Qx{c wd g:Int}(h:c<wd-1):fJ (.str cz) c wd g=true:=by have:fJ (.str cz) c wd g=decide (c<wd-1):=rfl;rw[this];simpa using h
theorem Co{c wd g:Int}(h:0<c)(h2:c<wd-1):fJ (.str sX) c wd g=true:=by have:fJ (.str sX) c wd g=(decide (0<c)&&decide (c<wd-1)):=rfl;rw[this];simp[h,h2]
theorem Zg{c wd g a b:Int}(a0:0<=a)(a1:a<g)(b0:0<=b)(b1:b<2)(h:0<c)(h2:c<wd-1):fJ (.tup [.int a,.int b]) c wd g=true:=by
 have h3:mF (.tup [.int a,.int b]) g=true:=by simp only[mF,within,bE,eE];lia
 unfold fJ;rw[h3,Bool.or_true,if_pos rfl];simp[h,h2]
inductive Raw(g:Int):W->Prop
 |dot:Raw g (.str aG)
 |lt:Raw g (.str cu)
 |gt:Raw g (.str cz)
 |x:Raw g (.str sX)
 |rk {a b:Int}:0<=a->a<g->0<=b->b<2->Raw g (.tup [.int a,.int b])
theorem lF{h:VH}{x y z:Str}(hx:PyData.strOk x)(hy:PyData.strOk y)(hz:PyData.strOk z):lW h (.str x) (.tup [.str y,.str z])=aB (y==x||z==x):=by
 have sx:SeqAt.shaped (.str x)=true:=by unfold SeqAt.shaped;show(PyData.strOk x&&_)=true;rw[hx];rfl
 have sy:SeqAt.shaped (.str y)=true:=by unfold SeqAt.shaped;show(PyData.strOk y&&_)=true;rw[hy];rfl
 have sz:SeqAt.shaped (.str z)=true:=by unfold SeqAt.shaped;show(PyData.strOk z&&_)=true;rw[hz];rfl
 simp[lW,aO,toD,aP,sx,sy,sz,ff,PyData.eqv]
theorem FA{h:VH}{a b:Int}{y z:Str}(hy:PyData.strOk y)(hz:PyData.strOk z):lW h (.tup [.int a,.int b]) (.tup [.str y,.str z])=aB false:=by
 have sy:SeqAt.shaped (.str y)=true:=by unfold SeqAt.shaped;show(PyData.strOk y&&_)=true;rw[hy];rfl
 have sz:SeqAt.shaped (.str z)=true:=by unfold SeqAt.shaped;show(PyData.strOk z&&_)=true;rw[hz];rfl
 have st:SeqAt.shaped (.tuple [.int a,.int b])=true:=rfl;simp[lW,aO,toD,aP,sy,sz,st,ff,PyData.eqv]
noncomputable def jI:E:=(.or (.and (.cmp .eq (.var 1) (.cst (.int (0)))) (.cmp .vK (.var 5) (.tup (.cons (.cst (.str aG)) (.cons (.cst (.str cz)) .nil))))) (.and (.cmp .eq (.var 1) (.op .sub (.var 2) (.cst (.int (1))))) (.cmp .vK (.var 5) (.tup (.cons (.cst (.str aG)) (.cons (.cst (.str cu)) .nil))))))
noncomputable def sE:E:=(.idx (.lst (.cons (.cst (.str cz)) (.cons (.cst (.str cu)) (.cons (.cst (.str aG)) .nil)))) (.bi .min (.cons (.op .add (.bi .int (.cons (.cmp .gt (.var 1) (.cst (.int (0)))) .nil)) (.op .mul (.cst (.int (2))) (.bi .int (.cons (.cmp .eq (.var 2) (.cst (.int (1)))) .nil)))) (.cons (.cst (.int (2))) .nil))))
noncomputable def sF(P:Int->W->Prop):Int->List W->Prop|_,[]=>True|a,w::r=>P a w/\sF P (a+1) r
theorem uD{P:W->Prop}:∀{ws:List W} {a:Int},sF (λ_ w=>P w) a ws->∀w∈ws,P w
 |[],_,_,w,h=>by cases h
 |x::r,a,⟨h1,h2⟩,w,h=>by
  rcases fm.mp h with rfl|h;exact h1;exact uD h2 w h
theorem sG{cl:Call}{P:Int->W->Prop}{e:E}{tl:En}{d c m lim:Nat}(hs:∀(i:Int) (h:VH) (b:Nat),0<=i->i<lim->Dk h d c b->b+m<1000000000->∃w h',ev cl e (aB (.int i)::tl) h=.ok w h'/\P i w/\Dk h' d c (b+m)/\bO h h' d c) :
 ∀(n:Nat)(a:Int)(x:Option W)(h:VH)(b:Nat),0<=a->a+n<=lim->Dk h d c b->b+m*n<1000000000->
  ∃ws h',ja (aX (.one 0)) (λ_ h=>.ok (.bl true) h) (ev cl e) (gA a n) (x::tl) h=.ok ws h'/\sF P a ws/\ws.length=n/\Dk h' d c (b+m*n)/\bO h h' d c
 |0,a,x,h,b,_,_,D,_=>⟨[],h,rfl,trivial,rfl,by simpa using D,.refl⟩
 |n+1,a,x,h,b,ha,hl,D,hb=>by
  have e1:m* (n+1)=m*n+m:=Nat.mul_succ m n;obtain⟨w,h1,e2,p1,D1,K1⟩:=hs a h b ha (by lia) D (by lia);obtain⟨ws,h2,e3,p2,l2,D2,K2⟩:=sG hs n (a+1) (aB (.int a)) h1 (b+m) (by lia) (by lia) D1 (by lia);refine⟨w::ws,h2,?_,⟨p1,p2⟩,by rw[cZ,l2],D2.mono (by lia),K1.trans K2⟩;simp only[gA,ja,aX,List.set,ev,aD,e2,e3]
theorem Zh{cl:Call}:ev cl (.cst (.bl true))=λ_ h=>.ok (.bl true) h:=rfl
theorem oK{n:Nat}(h:n<=1000000):Nat.ble n big=true:=oZ.mpr (gJ h (by decide))
theorem Qy{cl:Call}{a:E}{ρ:En}{h h1 h2:VH}{n ow:Nat}{ix:List Nat}{e:E}{ys:List W}(ea:ev cl a ρ h=.ok (.tup [.int n]) h1)(hn:n<1000000)(el:ja (aX (.one 0)) (λ_ h=>.ok (.bl true) h) (ev cl e) (gA 0 n) (inner ow ix ρ) h1=.ok ys h2)(hy:ys.length<=1000000) :
 ev cl (.lc .bM a (.one 0) ow ix (.cst (.bl true)) e) ρ h=.ok (.ref h2.n) (h2.new (.lst ys)):=by
 have l:=YO (n:=n) (tg:=aX (.one 0)) (c:=λ_ h=>.ok (.bl true) h) (e:=ev cl e) (ρ:=inner ow ix ρ) (h:=h1) hn;rw[el]at l;have q:ev cl (.lc .bM a (.one 0) ow ix (.cst (.bl true)) e) ρ h=(ev cl a ρ h).bind λx h=>(eB (aZ .bM x) (aX (.one 0)) (ev cl (.cst (.bl true))) (ev cl e) fuel 0 (inner ow ix ρ) h []).bind λys h=>if Nat.ble ys.length big then .ok (.ref h.n) (h.new (.lst ys))else .no:=by rw[ev]
 rw[q,ea,aD];show(eB (aZ .bM (.tup [.int n])) (aX (.one 0)) (λ_ h=>.ok (.bl true) h) (ev cl e) fuel 0 (inner ow ix ρ) h1 []).bind _=_;rw[l,aD,if_pos (oK hy)]
theorem Qz{cl:Call}{x:E}{ρ:En}{h h1:VH}{i:Nat}{ys:List W}(e:ev cl x ρ h=.ok (.ref i) h1)(g:h1.get i=aB (.lst ys)):ev cl (.bi .tuple (.cons x .nil)) ρ h=.ok (.tup ys) h1:=by simp only[ev,e,aD,gT,qW,aO,g,mU,bT]
theorem wN{cl:Call}{a:E}{ρ:En}{h h1 h2:VH}{n ow:Nat}{ix:List Nat}{e:E}{ys:List W}(ea:ev cl a ρ h=.ok (.tup [.int n]) h1)(hn:n<1000000)(el:ja (aX (.one 0)) (λ_ h=>.ok (.bl true) h) (ev cl e) (gA 0 n) (inner ow ix ρ) h1=.ok ys h2)(hy:ys.length<=1000000) :
 ev cl (.bi .tuple (.cons (.lc .bM a (.one 0) ow ix (.cst (.bl true)) e) .nil)) ρ h=.ok (.tup ys) (h2.new (.lst ys)):=Qz (Qy ea hn el hy) fj
theorem QA{wd g:Int}:∀{ws:List W} {c:Int},sF (λi w=>fJ w i wd g=true) c ws->ck wd g c ws|[],_,_=>trivial|_::_,_,⟨h1,h2⟩=>⟨h1,QA h2⟩
theorem QB{n:Nat}(h:n<=1000000):Nat.blt n big=true:=gx.mpr (Nat.lt_of_le_of_lt h (by decide))
theorem Zi{h:VH}{xs ys:List W}(hl:xs.length+ys.length<=1000000):eW .add (.tup xs) (.tup ys) h=.ok (.tup (xs++ys)) h:=by have:Ez .add xs ys=aB (xs++ys):=if_pos (oK hl);simp only[eW,this,mU,bT]
theorem QC{cl:Call}{i l:Nat}{x:E}{ρ:En}{h h1:VH}{w:W}{acc wO:List W}(oM:ρ[i]?=aB (aB (.ref l)))(g0:h.get l=aB (.lst wO))(e:ev cl x ρ h=.ok w h1)(g:h1.get l=aB (.lst acc))(hl:acc.length<=1000000) :
 ev cl (.mt .append (.var i) (.cons x .nil)) ρ h=.ok .aL (h1.set l (.lst (acc++[w]))):=by
 have hk:vP .append h (.ref l)=true:=by simp only[vP,g0]
 have hm:qY .append (.ref l) [w] h1=.ok .aL (h1.set l (.lst (acc++[w]))):=by simp only[qY,g];rw[if_pos (QB hl)]
 simp only[ev,oM,qc,bT,aD,hk,bX,e,hm]
theorem Zj{w:W}{g:Int}(h:mF w g):∃a b:Int,w=.tup [.int a,.int b]/\0<=a/\a<g/\0<=b/\b<2:=by
 cases w<;>simp only[mF]at h<;>try(cases h;done)
 rename_i us;rcases us with _|⟨a,_|⟨b,_|_⟩⟩<;>simp at h
 obtain⟨h1,h2⟩:=h;cases a<;>simp[within]at h1;cases b<;>simp[within]at h2;exact⟨_,_,rfl,by lia,by lia,by lia,by lia⟩
noncomputable def bY(w:W)(hd:Int)(ls:List Int):Option (Int×List Int×List Int):=match w with|.tup [.int g,.int s]=>aB (if ls.getD g.toNat 0=s then -1 else 1,[g],ls.set g.toNat (1-ls.getD g.toNat 0))|.str x=>if x==sS then aC else if x==sX then aB (hd,[],ls)else if x==aG then aB (0,[],ls)else aB (if x==cu then -1 else 1,[],ls)|_=>aC
noncomputable def bK(r:List W)(c:Int):W:=(r[c.toNat]?).getD .aL
structure Fa where
 cs:List Int
 ts:List Int
 ls:List Int
 st:Bool
noncomputable def aQ:List (List W)->Int->Int->List Int->Fa
 |[],_,_,ls=>⟨[],[],ls,false⟩
 |r::rs,c,hd,ls=>match bY (bK r c) hd ls with
  |none=>⟨[],[],ls,true⟩
  |some (d,t,l)=>⟨(c+d):: (aQ rs (c+d) d l).cs,t++(aQ rs (c+d) d l).ts,(aQ rs (c+d) d l).ls,(aQ rs (c+d) d l).st⟩
noncomputable def cy:Int->List Int->Int|c,[]=>c|_,x::r=>cy x r
noncomputable def cD(ls:List Int):Prop:=∀x∈ls,x=0\/x=1
theorem FD{w:W}{c wd g:Int}(h:fJ w c wd g):(w=.str sX/\0<c/\c<wd-1)\/(w=.str cu/\0<c)\/(w=.str cz/\c<wd-1)\/w=.str aG\/w=.str sS\/∃a b:Nat,w=.tup [.int a,.int b]/\(a:Int)<g/\b<2/\0<c/\c<wd-1:=by
 unfold fJ at h;split at h;rename_i q;rw[bE,eE,eE]at h;rw[pY]at q;rcases q with q|q
 exact .inl ⟨yy q,h⟩;obtain⟨a,b,rfl,h1,h2,h3,h4⟩:=Zj q;obtain⟨a,rfl⟩:=jZ h1;obtain⟨b,rfl⟩:=jZ h3;exact .inr (.inr (.inr (.inr (.inr ⟨a,b,rfl,h2,by lia,h⟩))));split at h;rename_i q;exact .inr (.inl ⟨yy q,by simpa using h⟩);split at h;rename_i q;exact .inr (.inr (.inl ⟨yy q,by simpa using h⟩));rw[pY]at h;rcases h with q|q
 exact .inr (.inr (.inr (.inl (yy q))));exact .inr (.inr (.inr (.inr (.inl (yy q)))))
theorem FF{hd:Int}{ls:List Int}:bY (.str sX) hd ls=aB (hd,[],ls):=rfl
theorem FG{hd:Int}{ls:List Int}:bY (.str cu) hd ls=aB (-1,[],ls):=rfl
theorem FH{hd:Int}{ls:List Int}:bY (.str cz) hd ls=aB (1,[],ls):=rfl
theorem FI{hd:Int}{ls:List Int}:bY (.str aG) hd ls=aB (0,[],ls):=rfl
theorem FJ{hd:Int}{ls:List Int}:bY (.str sS) hd ls=aC:=rfl
theorem FL{hd:Int}{ls:List Int}{a b:Nat}:bY (.tup [.int a,.int b]) hd ls=aB (if ls.getD a 0=b then -1 else 1,[(a:Int)],ls.set a (1-ls.getD a 0)):=rfl
theorem Zk{ls:List Int}(h:cD ls)(a:Nat):ls.getD a 0=0\/ls.getD a 0=1:=by
 rw[yR];cases q:ls[a]? with|none=>exact .inl rfl|some x=>exact h x (o5 q)
theorem JA{w:W}{c wd g hd:Int}{ls:List Int}(h:fJ w c wd g)(c0:0<=c)(c1:c<wd)(h1:-1<=hd)(h2:hd<=1)(b:cD ls){d:Int}{t l:List Int}(e:bY w hd ls=aB (d,t,l)):-1<=d/\d<=1/\0<=c+d/\c+d<wd/\l.length=ls.length/\cD l/\t.length<=1:=by rcases FD h with⟨rfl,h3,h4⟩|⟨rfl,h3⟩|⟨rfl,h3⟩|rfl|rfl|⟨p,q,rfl,h3,h4,h5,h6⟩;rw[FF]at e;cases e;exact⟨h1,h2,by lia,by lia,rfl,b,by simp⟩;rw[FG]at e;cases e;exact⟨by lia,by lia,by lia,by lia,rfl,b,by simp⟩;rw[FH]at e;cases e;exact⟨by lia,by lia,by lia,by lia,rfl,b,by simp⟩;rw[FI]at e;cases e;exact⟨by lia,by lia,by lia,by lia,rfl,b,by simp⟩;rw[FJ]at e;cases e;rw[FL]at e;cases e;refine⟨by split<;>lia,by split<;>lia,by split<;>lia,by split<;>lia,by simp,λx hx=>?_,by simp⟩;rcases List.mem_or_eq_of_mem_set hx with hx|rfl;exact b x hx;rcases Zk b p with q|q<;>rw[q]<;>lia
noncomputable def Cq(wd g:Int)(rs:List (List W)):Prop:=∀r∈rs,(r.length:Int)=wd/\ck wd g 0 r
theorem QD{wd g:Int}:∀{ws:List W} {c:Int} (i:Nat) {w:W},ck wd g c ws->ws[i]?=aB w->fJ w (c+i) wd g=true
 |[],_,_,_,_,e=>by simp at e
 |x::r,c,0,w,⟨h1,h2⟩,e=>by
  simp at e;subst e;simpa using h1
 |x::r,c,i+1,w,⟨h1,h2⟩,e=>by
  have:=QD i h2 (by simpa using e);rw[show c+ ((i+1:Nat):Int)=c+1+i by push_cast;lia];exact this
theorem yD{wd g c:Int}{r:List W}(h:(r.length:Int)=wd/\ck wd g 0 r)(c0:0<=c)(c1:c<wd):r[c.toNat]?=aB (bK r c)/\fJ (bK r c) c wd g=true:=by
 obtain⟨n,rfl⟩:=jZ c0;have hn:n<r.length:=by lia
 have e:r[n]?=aB r[n]:=ig hn;have e2:bK r n=r[n]:=by unfold bK;rw[uU,e];rfl
 rw[e2,uU];refine⟨e,?_⟩;have:=QD n h.2 e;simpa using this
structure Fa.Ok(q:Fa)(wd:Int)(c:Int)(m n:Nat):Prop where
 l1:q.ls.length=n
 l2:cD q.ls
 c1:∀x∈q.cs,0<=x/\x<wd
 c2:q.cs.length<=m
 c3:q.st=false->q.cs.length=m
 c5:q.st=true->q.cs.length<m
 c4:0<=cy c q.cs/\cy c q.cs<wd
 t1:q.ts.length<=m
theorem FN{wd g:Int}:∀(rs:List (List W)) (c hd:Int) (ls:List Int),Cq wd g rs->0<=c->c<wd->-1<=hd->hd<=1->cD ls->(aQ rs c hd ls).Ok wd c rs.length ls.length
 |[],c,hd,ls,_,c0,c1,_,_,b=>⟨rfl,b,by simp[aQ],by simp[aQ],by simp[aQ],by simp[aQ],⟨c0,c1⟩,by simp[aQ]⟩
 |r::rs,c,hd,ls,ok,c0,c1,h1,h2,b=>by
  obtain⟨_,hm⟩:=yD (ok r dP) c0 c1;unfold aQ;cases e:bY (bK r c) hd ls with
  |none=>exact⟨rfl,b,by simp,by simp,by simp,by simp,⟨c0,c1⟩,by simp⟩
  |some q=>
   obtain⟨d,t,l⟩:=q;obtain⟨a1,a2,a3,a4,a5,a6,a7⟩:=JA hm c0 c1 h1 h2 b e;have ih:=FN rs (c+d) d l (λr hr=>ok r (dj _ hr)) a3 a4 a1 a2 a6;refine⟨ih.l1.trans a5,ih.l2,λx hx=>?_,?_,λh=>?_,λh=>?_,ih.c4,?_⟩;rcases fm.mp hx with rfl|hx;exact⟨a3,a4⟩;exact ih.c1 x hx;simp only[cZ];have:=ih.c2;lia;simp only[cZ];have:=ih.c3 h;lia;simp only[cZ];have:=ih.c5 h;lia;simp only[cZ,eF];have:=ih.t1;lia
theorem QE{r:List W}{rs:List (List W)}{c hd:Int}{ls:List Int}(e:bY (bK r c) hd ls=aC):aQ (r::rs) c hd ls=⟨[],[],ls,true⟩:=by unfold aQ;rw[e]
theorem QF{r:List W}{rs:List (List W)}{c hd d:Int}{ls t l:List Int}(e:bY (bK r c) hd ls=aB (d,t,l)):aQ (r::rs) c hd ls=⟨(c+d):: (aQ rs (c+d) d l).cs,t++(aQ rs (c+d) d l).ts,(aQ rs (c+d) d l).ls,(aQ rs (c+d) d l).st⟩:=by rw[aQ,e]
noncomputable def st3(h:VH)(gs:List VO)(c t l:List W):VH:=⟨h.n+3+gs.length,h.n,gs++(.lst l :: .lst t :: .lst c::h.os)⟩
theorem wQ{h:VH}{gs:List VO}{c t l:List W}:(st3 h gs c t l).get h.n=aB (.lst c):=by unfold st3 VH.get;rw[if_pos (gx.mpr (by show h.n<h.n+3+gs.length;lia))];show(gs++(.lst l :: .lst t :: .lst c::h.os))[h.n+3+gs.length-1-h.n]?=_;rw[lI (by lia),show h.n+3+gs.length-1-h.n-gs.length=2 by lia];rfl
theorem wR{h:VH}{gs:List VO}{c t l:List W}:(st3 h gs c t l).get (h.n+1)=aB (.lst t):=by unfold st3 VH.get;rw[if_pos (gx.mpr (by show h.n+1<h.n+3+gs.length;lia))];show(gs++(.lst l :: .lst t :: .lst c::h.os))[h.n+3+gs.length-1- (h.n+1)]?=_;rw[lI (by lia),show h.n+3+gs.length-1- (h.n+1)-gs.length=1 by lia];rfl
theorem Cr{h:VH}{gs:List VO}{c t l:List W}:(st3 h gs c t l).get (h.n+2)=aB (.lst l):=by unfold st3 VH.get;rw[if_pos (gx.mpr (by show h.n+2<h.n+3+gs.length;lia))];show(gs++(.lst l :: .lst t :: .lst c::h.os))[h.n+3+gs.length-1- (h.n+2)]?=_;rw[lI (by lia),show h.n+3+gs.length-1- (h.n+2)-gs.length=0 by lia];rfl
theorem QG{a b:Nat}(h:b<=a):Nat.blt a b=false:=by
 cases q:Nat.blt a b with|false=>rfl|true=>have:=gx.mp q;lia
theorem Zl{h:VH}{gs:List VO}{c t l c':List W}:(st3 h gs c t l).set h.n (.lst c')=st3 h gs c' t l:=by unfold st3 VH.set;simp only[QG (aR h.n)];rw[List.set_append_right _ _ (by lia),show h.n+3+gs.length-1-h.n-gs.length=2 by lia];rfl
theorem Zm{h:VH}{gs:List VO}{c t l t':List W}:(st3 h gs c t l).set (h.n+1) (.lst t')=st3 h gs c t' l:=by unfold st3 VH.set;simp only[QG (sW h.n)];rw[List.set_append_right _ _ (by lia),show h.n+3+gs.length-1- (h.n+1)-gs.length=1 by lia];rfl
theorem gC{h:VH}{x y:Str}(hx:PyData.strOk x)(hy:PyData.strOk y):b9 h (.str x) (.str y)=aB (x==y):=by rw[mY (x:=y) (by exact hx) hy];rfl
@[simp] theorem JB {h:VH}:b9 h (.str sX) (.str (bA "x"))=aB true:=(gC (by decide +kernel) (by decide +kernel)).trans (by decide +kernel)
@[simp] theorem sH {h:VH}:b9 h (.str sX) (.str (bA "<"))=aB false:=(gC (by decide +kernel) (by decide +kernel)).trans (by decide +kernel)
@[simp] theorem sI {h:VH}:b9 h (.str sX) (.str (bA ">"))=aB false:=(gC (by decide +kernel) (by decide +kernel)).trans (by decide +kernel)
@[simp] theorem oN {h:VH}:b9 h (.str sX) (.str (bA "."))=aB false:=(gC (by decide +kernel) (by decide +kernel)).trans (by decide +kernel)
@[simp] theorem wU {h:VH}:b9 h (.str sX) (.str (bA "s"))=aB false:=(gC (by decide +kernel) (by decide +kernel)).trans (by decide +kernel)
@[simp] theorem FO {h:VH}:b9 h (.str cu) (.str (bA "x"))=aB false:=(gC (by decide +kernel) (by decide +kernel)).trans (by decide +kernel)
@[simp] theorem oO {h:VH}:b9 h (.str cu) (.str (bA "<"))=aB true:=(gC (by decide +kernel) (by decide +kernel)).trans (by decide +kernel)
@[simp] theorem oQ {h:VH}:b9 h (.str cu) (.str (bA ">"))=aB false:=(gC (by decide +kernel) (by decide +kernel)).trans (by decide +kernel)
@[simp] theorem mG {h:VH}:b9 h (.str cu) (.str (bA "."))=aB false:=(gC (by decide +kernel) (by decide +kernel)).trans (by decide +kernel)
@[simp] theorem sJ {h:VH}:b9 h (.str cu) (.str (bA "s"))=aB false:=(gC (by decide +kernel) (by decide +kernel)).trans (by decide +kernel)
@[simp] theorem FP {h:VH}:b9 h (.str cz) (.str (bA "x"))=aB false:=(gC (by decide +kernel) (by decide +kernel)).trans (by decide +kernel)
@[simp] theorem oR {h:VH}:b9 h (.str cz) (.str (bA "<"))=aB false:=(gC (by decide +kernel) (by decide +kernel)).trans (by decide +kernel)
@[simp] theorem oS {h:VH}:b9 h (.str cz) (.str (bA ">"))=aB true:=(gC (by decide +kernel) (by decide +kernel)).trans (by decide +kernel)
@[simp] theorem mH {h:VH}:b9 h (.str cz) (.str (bA "."))=aB false:=(gC (by decide +kernel) (by decide +kernel)).trans (by decide +kernel)
@[simp] theorem sL {h:VH}:b9 h (.str cz) (.str (bA "s"))=aB false:=(gC (by decide +kernel) (by decide +kernel)).trans (by decide +kernel)
@[simp] theorem Cs {h:VH}:b9 h (.str aG) (.str (bA "x"))=aB false:=(gC (by decide +kernel) (by decide +kernel)).trans (by decide +kernel)
@[simp] theorem mJ {h:VH}:b9 h (.str aG) (.str (bA "<"))=aB false:=(gC (by decide +kernel) (by decide +kernel)).trans (by decide +kernel)
@[simp] theorem mK {h:VH}:b9 h (.str aG) (.str (bA ">"))=aB false:=(gC (by decide +kernel) (by decide +kernel)).trans (by decide +kernel)
@[simp] theorem ko {h:VH}:b9 h (.str aG) (.str (bA "."))=aB true:=(gC (by decide +kernel) (by decide +kernel)).trans (by decide +kernel)
@[simp] theorem oU {h:VH}:b9 h (.str aG) (.str (bA "s"))=aB false:=(gC (by decide +kernel) (by decide +kernel)).trans (by decide +kernel)
@[simp] theorem JC {h:VH}:b9 h (.str sS) (.str (bA "x"))=aB false:=(gC (by decide +kernel) (by decide +kernel)).trans (by decide +kernel)
@[simp] theorem FQ {h:VH}:b9 h (.str sS) (.str (bA "<"))=aB false:=(gC (by decide +kernel) (by decide +kernel)).trans (by decide +kernel)
@[simp] theorem FT {h:VH}:b9 h (.str sS) (.str (bA ">"))=aB false:=(gC (by decide +kernel) (by decide +kernel)).trans (by decide +kernel)
@[simp] theorem Ct {h:VH}:b9 h (.str sS) (.str (bA "."))=aB false:=(gC (by decide +kernel) (by decide +kernel)).trans (by decide +kernel)
@[simp] theorem wV {h:VH}:b9 h (.str sS) (.str (bA "s"))=aB true:=(gC (by decide +kernel) (by decide +kernel)).trans (by decide +kernel)
theorem Zn{h0:VH}{gs:List VO}{c t l l':List W}{w:W}:leave (st3 h0 gs c t l) w (VH.set ⟨(st3 h0 gs c t l).n,(st3 h0 gs c t l).n,(st3 h0 gs c t l).os⟩ (h0.n+2) (.lst l'))=.ok w (st3 h0 gs c t l'):=by
 have hb:Nat.blt (h0.n+2) (h0.n+3+gs.length)=true:=gx.mpr (by lia);have hn:Nat.ble (h0.n+3+gs.length) (h0.n+2)=false:=by
  cases q:Nat.ble (h0.n+3+gs.length) (h0.n+2)with|false=>rfl|true=>have:=jf q;lia
 have hl:Nat.ble h0.n (h0.n+2)=true:=oZ.mpr (by lia);unfold leave VH.set st3;simp only[hb,bX,hn,xB,hl];rw[if_neg (by simp),List.set_append_right _ _ (by lia),show h0.n+3+gs.length-1- (h0.n+2)-gs.length=0 by lia];rfl
theorem QH{ls:List Int}{a:Nat}(h:a<ls.length):dG (ls.map W.int) (a:Int)=aB (.int (ls.getD a 0)):=
 pG (by rw[jb,ig h,yR,ig h];rfl)
theorem QI{n a:Nat}(h:a<n):iA n (a:Int)=aB a:=by unfold iA;rw[if_pos (by lia),if_pos (by lia)];simp
theorem Zo{cl:Call}{a b:S}{ρ ρ':En}{h h':VH}(e:exs cl a ρ h=.ok (.bk ρ') h'):exs cl (.seq a b) ρ h=.ok (.bk ρ') h':=by simp only[exs,e,aD]
theorem QJ{wd g c:Int}{r:List W}(ok:(r.length:Int)=wd/\ck wd g 0 r)(c0:0<=c)(c1:c<wd):dG r c=aB (bK r c):=by have:=(yD ok c0 c1).1;obtain⟨n,rfl⟩:=jZ c0;rw[uU]at this;exact pG this
noncomputable def iW(ls:List Int):W:=.tup (ls.map .int)
theorem oV{n:Nat}{ls:List Int}:W.lt n (iW ls)=true:=by
 unfold iW;rw[oH];induction ls with|nil=>simp|cons x r ih=>rw[dw,jH,ih,lt_int];rfl
theorem Bd.Ok.wW{B:Bd}(b:B.Ok){f:Nat}(hf:f<B.fd.length):∃c:Int,B.fd[f]?=aB (.int c)/\0<=c/\c<B.wd:=by
 have h:=b.f3 _ (ir hf);have e:B.fd[f]?=aB B.fd[f]:=ig hf;generalize B.fd[f]=w at h e;cases w<;>simp only[within]at h<;>try(cases h;done)
 rename_i c;rw[bE,eE,eE]at h;exact⟨c,e,h.1,by lia⟩
noncomputable def Bd.col(B:Bd)(f:Nat):Int:=match B.fd[f]? with|some (.int c)=>c|_=>0
theorem Bd.Ok.col{B:Bd}(b:B.Ok){f:Nat}(hf:f<B.fd.length):B.fd[f]?=aB (.int (B.col f))/\0<=B.col f/\B.col f<B.wd:=by
 obtain⟨c,e,h⟩:=b.wW hf;have:B.col f=c:=by unfold Bd.col;rw[e]
 rw[this];exact⟨e,h⟩
noncomputable def Bd.aU(B:Bd)(ls:List Int)(f:Nat):Fa:=aQ B.rows (B.col f) 0 ls
theorem Bd.Ok.rows{B:Bd}(b:B.Ok){ls:List Int}(hl:(ls.length:Int)=B.gr):Cq B.wd (ls.length:Int) B.rows:=by rw[hl];exact b.r2
theorem Bd.Ok.aU{B:Bd}(b:B.Ok){ls:List Int}{f:Nat}(hf:f<B.fd.length)(hl:(ls.length:Int)=B.gr)(bi:cD ls):(B.aU ls f).Ok B.wd (B.col f) B.rows.length ls.length:=
 FN _ _ _ _ (b.rows hl) (b.col hf).2.1 (b.col hf).2.2 (by decide) (by decide) bi
noncomputable def mL(B:Bd)(ls:List Int)(f:Nat):W:=.tup [iW (B.col f:: (B.aU ls f).cs),iW (B.aU ls f).ts,iW (B.aU ls f).ls]
theorem Zp{B:Bd}{ls:List Int}{f n:Nat}:W.lt n (mL B ls f)=true:=by unfold mL;simp[oV]
theorem JD{cl:Call}{i l:Nat}{ρ:En}{h:VH}{ws:List W}(oM:ρ[i]?=aB (aB (.ref l)))(g:h.get l=aB (.lst ws)):ev cl (.bi .tuple (.cons (.var i) .nil)) ρ h=.ok (.tup ws) h:=by simp only[ev,oM,qc,bT,aD,gT,qW,aO,g,mU]
theorem JE{cl:Call}{a b c:E}{ρ:En}{h:VH}{x y z:W}(ea:ev cl a ρ h=.ok x h)(eb:ev cl b ρ h=.ok y h)(ec:ev cl c ρ h=.ok z h):ev cl (.tup (.cons a (.cons b (.cons c .nil)))) ρ h=.ok (.tup [x,y,z]) h:=by rw[ev,ev,ea,aD,ev,eb,aD,ev,ec,aD,ev];rfl
theorem QK:∀(cs:List Int) (c:Int),(c::cs)[cs.length]?=aB (cy c cs)
 |[],c=>rfl
 |x::r,c=>by
  rw[cZ,mR];exact QK r x
theorem Zq{cs:List Int}{c:Int}:dG ((c::cs).map W.int) (-1)=aB (.int (cy c cs)):=by
 have e:iA ((c::cs).map W.int).length (-1)=aB cs.length:=by unfold iA;rw[if_neg (by decide),bJ,cZ,if_pos (by lia)];congr 1;lia
 unfold dG;rw[e,Option.bind_some,jb,QK];rfl
noncomputable def Bd.door(B:Bd)(c:Int):W:=(B.dr[c.toNat]?).getD .aL
theorem Bd.Ok.door{B:Bd}(b:B.Ok){c:Int}(c0:0<=c)(c1:c<B.wd):dG B.dr c=aB (B.door c)/\RF.door (B.door c) B.fd.length=true:=by
 obtain⟨n,rfl⟩:=jZ c0;have hd:=b.d1;have hn:n<B.dr.length:=by lia
 have e:B.dr[n]?=aB B.dr[n]:=ig hn;have e2:B.door n=B.dr[n]:=by unfold Bd.door;rw[uU,e];rfl
 rw[e2];exact⟨pG e,b.d2 _ (ir hn)⟩
theorem JF{cl:Call}{a b:E}{ρ:En}{h:VH}{x y:W}(ea:ev cl a ρ h=.ok x h)(eb:ev cl b ρ h=.ok y h):ev cl (.tup (.cons a (.cons b .nil))) ρ h=.ok (.tup [x,y]) h:=by rw[ev,ev,ea,aD,ev,eb,aD,ev];rfl
theorem Zr{ls:List Int}{g:Int}(hl:(ls.length:Int)=g)(b:cD ls):sC (iW ls) g g 0 1=true:=by unfold iW sC gB;simp only[bJ,bE,eE,lJ];refine⟨⟨by lia,by lia⟩,λw hw=>?_⟩;obtain⟨x,hx,rfl⟩:=p9.mp hw;rcases b x hx with rfl|rfl<;>rfl
noncomputable def g9:List (Key×W):=[(.inr aG,.int 0),(.inr cu,.int (-1)),(.inr cz,.int 1)]
theorem Zs:EA [] [(.inr aG,.int 0),(.inr cu,.int (-1)),(.inr cz,.int 1)]=g9:=by rfl
theorem Zt:cj g9 (.inr aG)=aB (.int 0):=by rfl
theorem Zu:cj g9 (.inr cu)=aB (.int (-1)):=by rfl
theorem Zv:cj g9 (.inr cz)=aB (.int 1):=by rfl
theorem Zw{cl:Call}{ρ:En}{h:VH}:ev cl rP ρ h=.ok (.ref h.n) (h.new (.dk g9)):=by simp only[rP,ev,aD,tX,qV];rw[if_pos (by decide)];show Res.ok _ (h.new (.dk (EA [] _)))=_;rw[Zs]
theorem Zx{h:VH}{o:VO}:(h.new o).get h.n=aB o:=by unfold VH.get VH.new;rw[if_pos (gx.mpr (by show h.n<h.n+1;lia))];show(o::h.os)[h.n+1-1-h.n]?=_;rw[show h.n+1-1-h.n=0 by lia];rfl
theorem Cu{h:VH}{p q:Int}{x:Str}(hx:PyData.strOk x):b9 h (.tup [.int p,.int q]) (.str x)=aB false:=by rw[mY (x:=x) rfl hx];rfl
section
variable{F:Nat->Option Fn}(C:CoreD F)
include C
theorem QL{k:Nat}:∀(ns:List Int) (x:Option W) (h:VH),∃cells:List Int,ja (aX (.one 0)) (ev (run F k) ue) (ev (run F k) uf) (ns.map .int) [x] h=.ok (cells.map .int) h/\(∀y∈cells,(0:Int)<=y)/\cells.length<=ns.length
 |[],x,h=>⟨[],rfl,(λy hy=>by cases hy),aR _⟩
 |n::ns,x,h=>by
  obtain⟨cells,e,h1,h2⟩:=QL (k:=k) ns (aB (.int n)) h;have Hh:((10:Int).natAbs<2 ^ 64):=by decide
  have ec:ev (run F k) ue [aB (.int n)] h=.ok (.bl (decide (1000000000000000000<=(n.natAbs:Int)))) h:=by simp[ue,ev,gT,kh,eW,dR,aN,fE,Jy]
  have ee:ev (run F k) uf [aB (.int n)] h=.ok (.int (n.natAbs:Int)) h:=by simp[uf,ev,gT,kh,Jy]
  by_cases q:1000000000000000000<=(n.natAbs:Int)
  refine⟨(n.natAbs:Int)::cells,?_,λy hy=>?_,by rw[cZ,cZ];lia⟩;simp only[ja,dw,aX,List.set,ec,aD,q,C5,ee,e];rcases fm.mp hy with rfl|hy
  lia;exact h1 y hy;refine⟨cells,?_,h1,by rw[cZ];lia⟩;simp only[ja,dw,aX,List.set,ec,aD,q,decide_false,e]
theorem JG{k:Nat}{h:VH}{ns:List Int}(hl:ns.length<=63):∃h',run F (k+1) 3 [.fz (ns.map .int)] h=.ok (.ref (h.n+1)) h'/\Dk h' (h.n+1) h.n 0:=by
 rw[dF C.f3 rfl];obtain⟨cells,e,h1,h2⟩:=QL C (k:=k) ns aC ⟨h.n,h.n,h.os⟩;have l:=Ck (nx:=aZ .seq (.fz (ns.map .int))) (tg:=aX (.one 0)) (c:=ev (run F k) ue) (e:=ev (run F k) uf) (ws:=ns.map .int) (λi h=>rfl) fuel 0 [aC] ⟨h.n,h.n,h.os⟩ [] (gu _) (by rw[bJ];unfold fuel;lia);rw[tu,e]at l;have l:eB (aZ .seq (.fz (ns.map .int))) (aX (.one 0)) (ev (run F k) ue) (ev (run F k) uf) fuel 0 [aC] ⟨h.n,h.n,h.os⟩ []=.ok (cells.map .int) ⟨h.n,h.n,h.os⟩:=l;have q:ev (run F k) (.lc .seq (.var 0) (.one 0) 1 [] ue uf) [aB (.fz (ns.map .int))] ⟨h.n,h.n,h.os⟩=.ok (.ref h.n) (VH.new ⟨h.n,h.n,h.os⟩ (.lst (cells.map .int))):=by rw[ev];have:ev (run F k) (.var 0) [aB (.fz (ns.map .int))] ⟨h.n,h.n,h.os⟩=.ok (.fz (ns.map .int)) ⟨h.n,h.n,h.os⟩:=rfl;rw[this,aD];show(eB (aZ .seq (.fz (ns.map .int))) (aX (.one 0)) (ev (run F k) ue) (ev (run F k) uf) fuel 0 [aC] ⟨h.n,h.n,h.os⟩ []).bind _=_;rw[l,aD,if_pos (oK (by rw[bJ];lia))]
 let iN:VH:=VH.new ⟨h.n,h.n,h.os⟩ (.lst (cells.map .int));let o:VO:=.lst [.fz (ns.map .int),.ref h.n,.int 0,.int 0];have eb:exs (run F k) Cd.body [aB (.fz (ns.map .int))] ⟨h.n,h.n,h.os⟩=.ok (.rt (.ref (h.n+1))) (iN.new o):=by simp only[Cd,exs,ev,aD,bT,sZ,qc]at q ⊢;rw[q];rfl
 refine⟨⟨h.n+2,if Nat.ble h.lo h.n then h.lo else h.n,(iN.new o).os⟩,?_,?_⟩;show fin h (exs (run F k) Cd.body [aB (.fz (ns.map .int))] ⟨h.n,h.n,h.os⟩)=_;rw[eb];show leave h (.ref (h.n+1)) (iN.new o)=_;unfold leave;rw[if_neg (by
  rw[bE];intro z;have:=z.2;simp only[W.lt]at this;have:=gx.mp this;lia)]
 rfl;refine⟨by lia,ns,cells,0,0,?_,?_,h1,by lia,by lia,by lia,by lia⟩;show VH.get ⟨(iN.new o).n,_,(iN.new o).os⟩ (h.n+1)=_;rw[bU];exact fj (h:=iN);show VH.get ⟨(iN.new o).n,_,(iN.new o).os⟩ h.n=_;rw[bU,iB (h:=iN) (by show h.n<h.n+1;lia)];exact fj (h:=⟨h.n,h.n,h.os⟩)
end
theorem pS{cl:Call}{o:Op}{a b:E}{ρ:En}{h h1 h2:VH}{x y:W}{r:Res W}(ea:ev cl a ρ h=.ok x h1)(eb:ev cl b ρ h1=.ok y h2)(e:eW o x y h2=r):ev cl (.op o a b) ρ h=r:=by rw[ev,ea,aD,eb,aD,e]
theorem gp{cl:Call}{a:E}{ρ:En}{h h1:VH}{x:W}(ea:ev cl a ρ h=.ok x h1):exs cl (.ret a) ρ h=.ok (.rt x) h1:=by rw[exs,ea,aD]
theorem cN{cl:Call}{i:Nat}{a:E}{ρ:En}{h h1:VH}{x:W}(ea:ev cl a ρ h=.ok x h1):exs cl (.set i a) ρ h=.ok (.nx (ρ.set i (aB x))) h1:=by rw[exs,ea,aD]
theorem aF{cl:Call}{i:Nat}{ρ:En}{h:VH}{x:W}(e:ρ[i]?=aB (aB x)):ev cl (.var i) ρ h=.ok x h:=by rw[ev,e];rfl
theorem bP{cl:Call}{a b:E}{ρ:En}{h h1 h2:VH}{x y z:W}(ea:ev cl a ρ h=.ok x h1)(eb:ev cl b ρ h1=.ok y h2)(e:bF h2 x y=aB z):ev cl (.idx a b) ρ h=.ok z h2:=by rw[ev,ea,aD,eb,aD,e];rfl
theorem kq{cl:Call}{a:E}{ρ:En}{h h1:VH}{x:W}{ws:List W}(ea:ev cl a ρ h=.ok x h1)(e:aO h1 x=aB ws):ev cl (.bi .len (.cons a .nil)) ρ h=.ok (.int ws.length) h1:=by rw[ev,ev,ea,aD,ev,aD];show fO [x] h1=_;simp only[fO,e,bT]
theorem wX{cl:Call}{ρ:En}{h h1 h':VH}{n:Nat}{a:E}{x w:W}(ea:ev cl a ρ h=.ok x h1)(e:cl n [x] h1=.ok w h'):ev cl (.call n (.cons a .nil)) ρ h=.ok w h':=by rw[ev,ev,ea,aD,ev];exact e
theorem lG{cl:Call}{ρ:En}{h h1 h2 h':VH}{n:Nat}{a b:E}{x y w:W}(ea:ev cl a ρ h=.ok x h1)(eb:ev cl b ρ h1=.ok y h2)(e:cl n [x,y] h2=.ok w h'):ev cl (.call n (.cons a (.cons b .nil))) ρ h=.ok w h':=by rw[ev,ev,ea,aD,ev,eb,aD,ev];exact e
theorem JH{cl:Call}{ρ:En}{h h1 h2 h3 h':VH}{n:Nat}{a b c:E}{x y z w:W}(ea:ev cl a ρ h=.ok x h1)(eb:ev cl b ρ h1=.ok y h2)(ec:ev cl c ρ h2=.ok z h3)(e:cl n [x,y,z] h3=.ok w h'):ev cl (.call n (.cons a (.cons b (.cons c .nil)))) ρ h=.ok w h':=by rw[ev,ev,ea,aD,ev,eb,aD,ev,ec,aD,ev];exact e
theorem Zy{cl:Call}{ρ:En}{h h1 h2 h3 h4 h':VH}{n:Nat}{a b c d:E}{x y z u w:W}(ea:ev cl a ρ h=.ok x h1)(eb:ev cl b ρ h1=.ok y h2)(ec:ev cl c ρ h2=.ok z h3)(ed:ev cl d ρ h3=.ok u h4)(e:cl n [x,y,z,u] h4=.ok w h'):ev cl (.call n (.cons a (.cons b (.cons c (.cons d .nil))))) ρ h=.ok w h':=by rw[ev,ev,ea,aD,ev,eb,aD,ev,ec,aD,ev,ed,aD,ev];exact e
theorem oW{cl:Call}{a b:E}{ρ:En}{h h1 h2:VH}{x y:W}(ea:ev cl a ρ h=.ok x h1)(eb:ev cl b ρ h1=.ok y h2):ev cl (.tup (.cons a (.cons b .nil))) ρ h=.ok (.tup [x,y]) h2:=by rw[ev,ev,ea,aD,ev,eb,aD,ev];rfl
theorem JI{cl:Call}{a lo hi:E}{bl bh:Bool}{ρ:En}{h h1 h2 h3 h4:VH}{x l u w:W}{l' u':Option Int}(ea:ev cl a ρ h=.ok x h1)(el:ev cl lo ρ h1=.ok l h2)(eu:ev cl hi ρ h2=.ok u h3)(pl:eN bl l=aB l')(pu:eN bh u=aB u')(e:jA x l' u' h3=.ok w h4):ev cl (.slc a bl lo bh hi) ρ h=.ok w h4:=by rw[ev,ea,aD,el,aD,eu,aD,pl,pu];exact e
theorem QM{xs ys:List Int}{h:VH}(hl:xs.length+ys.length<=1000000):eW .add (iW xs) (iW ys) h=.ok (iW (xs++ys)) h:=by unfold iW;rw[Zi (by rw[bJ,bJ];exact hl),ng]
theorem JJ{cl:Call}{c:E}{a b:S}{ρ:En}{h h1:VH}(e:ev cl c ρ h=.ok (.bl false) h1):exs cl (.ite c a b) ρ h=exs cl b ρ h1:=by rw[exs,e];rfl
theorem Cv{cl:Call}{a:E}{ρ:En}{h h1:VH}{x:W}(ea:ev cl a ρ h=.ok x h1):exs cl (.expr a) ρ h=.ok (.nx ρ) h1:=by rw[exs,ea,aD]
theorem JK{n:Nat}{ls:List Int}:iD (n+2) (iW ls)=true:=by unfold iW;rw[Jr,lJ];intro w hw;obtain⟨x,_,rfl⟩:=p9.mp hw;rfl
theorem QN{P:Int->Prop}:∀{ws:List W},(∀w∈ws,∃x:Int,w=.int x/\P x)->∃xs:List Int,ws=xs.map .int/\∀x∈xs,P x
 |[],_=>⟨[],rfl,by simp⟩
 |w::r,h=>by
  obtain⟨x,rfl,hx⟩:=h w dP;obtain⟨xs,rfl,hs⟩:=QN λw hw=>h w (dj _ hw);refine⟨x::xs,rfl,λy hy=>?_⟩;rcases fm.mp hy with rfl|hy;exact hx;exact hs y hy
section
variable{F:Nat->Option Fn}(C:CoreD F)
include C
theorem Zz{k:Nat}{h:VH}{d c b g:Nat}(JL:F 20=aB oA)(D:Dk h d c b)(hb:b+10<1000000000)(hg:g<=8) :
 ∃ls h',run F (k+4) 20 [.ref d,.int g] h=.ok (iW ls) h'/\ls.length=g/\cD ls/\Dk h' d c (b+10)/\bO h h' d c:=by
 rw[dF JL rfl];have D0:Dk ⟨h.n,h.n,h.os⟩ d c b:=D.lo;obtain⟨ws,h2,e2,p2,l2,D2,K2⟩:=sG (cl:=run F (k+3)) (P:=λ_ w=>∃x:Int,w=.int x/\(x=0\/x=1)) (e:=E8) (tl:=[aB (.ref d)]) (m:=1) (lim:=g) (λi h b h0 hl D hb=>by
  obtain⟨r,h',e,r0,r1,D',K'⟩:=take C (k:=k) (m:=2) D (by lia) (by decide) (by decide);exact⟨.int r,h',by simp[E8,ev,e],⟨r,rfl,by lia⟩,D',K'⟩) g 0 aC ⟨h.n,h.n,h.os⟩ b (by lia) (by lia) D0 (by lia)
 obtain⟨ls,rfl,Cw⟩:=QN (uD p2);have e3:=wN (cl:=run F (k+3)) (a:=.cons (.var 1) .nil) (ρ:=[aB (.ref d),aB (.int g)]) (h:=⟨h.n,h.n,h.os⟩) (ow:=1) (ix:=[0]) (e:=E8) (by simp[ev]) (by lia) e2 (by rw[l2];lia);obtain⟨h5,e5,D5,K5⟩:=wM (cl:=run F (k+3)) (fl:=.nx []) (w:=iW ls) (body:=oA.body) (ρ:=[aB (.ref d),aB (.int g)]) (F:=F) (k:=k+3) (h:=h) (h':=h2.new (.lst (ls.map .int))) (by simp only[oA,exs,e3,aD];rfl) (.inr ⟨b,D⟩) (D2.new.mono (show _<=b+10 by lia)) K2.new;exact⟨ls,h5,e5,by rw[bJ]at l2;exact l2,Cw,D5,K5⟩
end
structure wY(F:Nat->Option Fn):Prop where
 wZ:F 173=aB dN
 xg:F 174=aB jD
structure oX(F:Nat->Option Fn):Prop where
 wZ:F 173=aB dN
 xg:F 174=aB jD
 JM:F 175=aB ug
theorem uE{cl:Call}{i:Nat}{ρ:En}{h:VH}{x:W}(e:ρ[i]?=aB (aB x)):ev cl (.var i) ρ h=.ok x h:=by rw[ev,e];rfl
theorem Cy{cl:Call}{a b:E}{ρ:En}{h h1 h2:VH}{x y z:W}(ea:ev cl a ρ h=.ok x h1)(eb:ev cl b ρ h1=.ok y h2)(e:bF h2 x y=aB z):ev cl (.idx a b) ρ h=.ok z h2:=by rw[ev,ea,aD,eb,aD,e];rfl
theorem Cz{cl:Call}{i:Nat}{a:E}{ρ:En}{h h1:VH}{x:W}(ea:ev cl a ρ h=.ok x h1):exs cl (.set i a) ρ h=.ok (.nx (ρ.set i (aB x))) h1:=by rw[exs,ea];rfl
theorem ZC{h:VH}{x:W}{r:List W}:bF h (.tup (x::r)) (.int 0)=aB x:=pG (j:=0) (xs:=x::r) rfl
theorem JN{h:VH}{i:Int}:b9 h (.int i) .aL=aB false:=rfl
section
variable{F:Nat->Option Fn}(C:wY F)
include C
theorem ZD{k:Nat}{h0:VH}{gs:List VO}{cs ts:List W}{ls:List Int}{w:W}{c wd hd:Int}(hm:fJ w c wd (ls.length:Int)) :
 run F (k+1) 173 [w,.int hd,.ref (h0.n+2),.aL] (st3 h0 gs cs ts (ls.map .int))=match bY w hd ls with
  |none=>.ok .aL (st3 h0 gs cs ts (ls.map .int))
  |some (d,_,l)=>.ok (.int d) (st3 h0 gs cs ts (l.map .int)):=by
 rw[dF C.wZ rfl];rcases FD hm with⟨rfl,h3,h4⟩|⟨rfl,h3⟩|⟨rfl,h3⟩|rfl|rfl|⟨p,q,rfl,h3,h4,h5,h6⟩
 rw[FF];simp[dN,exs,ev,aN,dX];rw[FG];simp[dN,exs,ev,aN,dX];rw[FH];simp[dN,exs,ev,aN,dX];rw[FI];simp[dN,exs,ev,aN,dX];rw[FJ];simp[dN,exs,ev,aN,dX];rw[FL];have hp:p<ls.length:=by lia
 have e1:=QH hp;have g:VH.get ⟨(st3 h0 gs cs ts (ls.map .int)).n,(st3 h0 gs cs ts (ls.map .int)).n,(st3 h0 gs cs ts (ls.map .int)).os⟩ (h0.n+2)=aB (.lst (ls.map .int)):=by rw[bU];exact Cr
 have e2:iA (ls.map W.int).length (p:Int)=aB p:=QI (by rw[bJ];exact hp);have e3:exs (run F k) dN.body [aB (.tup [.int p,.int q]),aB (.int hd),aB (.ref (h0.n+2)),aB .aL,aC,aC,aC] ⟨(st3 h0 gs cs ts (ls.map .int)).n,(st3 h0 gs cs ts (ls.map .int)).n,(st3 h0 gs cs ts (ls.map .int)).os⟩=.ok (.rt (.int (if ls.getD p 0=q then -1 else 1))) (VH.set ⟨(st3 h0 gs cs ts (ls.map .int)).n,(st3 h0 gs cs ts (ls.map .int)).n,(st3 h0 gs cs ts (ls.map .int)).os⟩ (h0.n+2) (.lst ((ls.set p (1-ls.getD p 0)).map .int))):=by
  rw[List.map_set];generalize ls.getD p 0=y at e1 ⊢;by_cases z:y=(q:Int)
  simp only[dN,exs,ev,aX,aO,iV,qc,mR,sZ,bT,aD,lD,mU,oJ,eS,mT,kC,bF,g,e1,eW,dR,e2,aN,fU,JN,Dg,z,C5,bX];simp only[dN,exs,ev,aX,aO,iV,qc,mR,sZ,bT,aD,lD,mU,oJ,eS,mT,kC,bF,g,e1,eW,dR,e2,aN,fU,JN,Dg,z,decide_false,di]
 show fin _ (exs (run F k) dN.body [aB (.tup [.int p,.int q]),aB (.int hd),aB (.ref (h0.n+2)),aB .aL,aC,aC,aC] _)=_;rw[e3];exact Zn
theorem ZE{k:Nat}{h0:VH}{b l f:W}{r:List W}{c wd hd:Int}{cs ts:List W}{ls:List Int}{y:Option W}(ok:(r.length:Int)=wd/\ck wd (ls.length:Int) 0 r)(c0:0<=c)(c1:c<wd)(hc:cs.length<=1000)(ht:ts.length<=1000) :
 exs (run F (k+1)) Ci [aB b,aB l,aB f,aB .aL,aB (.int c),aB (.ref h0.n),aB (.ref (h0.n+1)),aB (.ref (h0.n+2)),aB (.int hd),aB (.tup r),y] (st3 h0 [] cs ts (ls.map .int))=match bY (bK r c) hd ls with
  |none=>.ok (.bk [aB b,aB l,aB f,aB .aL,aB (.int c),aB (.ref h0.n),aB (.ref (h0.n+1)),aB (.ref (h0.n+2)),aB .aL,aB (.tup r),aB (bK r c)]) (st3 h0 [] cs ts (ls.map .int))
  |some (d,t,l')=>.ok (.nx [aB b,aB l,aB f,aB .aL,aB (.int (c+d)),aB (.ref h0.n),aB (.ref (h0.n+1)),aB (.ref (h0.n+2)),aB (.int d),aB (.tup r),aB (bK r c)]) (st3 h0 [] (cs++[.int (c+d)]) (ts++t.map .int) (l'.map .int)):=by
 obtain⟨_,hm⟩:=yD ok c0 c1;have e0:=QJ ok c0 c1;generalize bK r c=w at hm e0 ⊢;have e1:=ZD C (k:=k) (h0:=h0) (gs:=[]) (cs:=cs) (ts:=ts) (hd:=hd) hm;unfold Ci;rw[bf (ρ':=[aB b,aB l,aB f,aB .aL,aB (.int c),aB (.ref h0.n),aB (.ref (h0.n+1)),aB (.ref (h0.n+2)),aB (.int hd),aB (.tup r),aB w]) (h':=st3 h0 [] cs ts (ls.map .int)) (Cz (Cy (x:=.tup r) (y:=.int c) (uE rfl) (uE rfl) e0))];have key:∀(d:Int)(l':List Int)(t:List Int),bY w hd ls=aB (d,t,l')->exs (run F (k+1)) (.seq (.ite (.and (.kY (.nQ .tuple (.var 10))) (.cmp .ne (.idx (.var 10) (.cst (.int (0)))) (.var 3))) (.seq (.expr (.mt .append (.var 6) (.cons (.idx (.var 10) (.cst (.int (0)))) .nil))) .skip) .skip) (.seq (.aug 4 .add (.var 8)) (.seq (.expr (.mt .append (.var 5) (.cons (.var 4) .nil))) .skip))) [aB b,aB l,aB f,aB .aL,aB (.int c),aB (.ref h0.n),aB (.ref (h0.n+1)),aB (.ref (h0.n+2)),aB (.int d),aB (.tup r),aB w] (st3 h0 [] cs ts (l'.map .int))=.ok (.nx [aB b,aB l,aB f,aB .aL,aB (.int (c+d)),aB (.ref h0.n),aB (.ref (h0.n+1)),aB (.ref (h0.n+2)),aB (.int d),aB (.tup r),aB w]) (st3 h0 [] (cs++[.int (c+d)]) (ts++t.map .int) (l'.map .int)):=by
  intro d l' t es;have fin:∀ts':List W,exs (run F (k+1)) (.seq (.aug 4 .add (.var 8)) (.seq (.expr (.mt .append (.var 5) (.cons (.var 4) .nil))) .skip)) [aB b,aB l,aB f,aB .aL,aB (.int c),aB (.ref h0.n),aB (.ref (h0.n+1)),aB (.ref (h0.n+2)),aB (.int d),aB (.tup r),aB w] (st3 h0 [] cs ts' (l'.map .int))=.ok (.nx [aB b,aB l,aB f,aB .aL,aB (.int (c+d)),aB (.ref h0.n),aB (.ref (h0.n+1)),aB (.ref (h0.n+2)),aB (.int d),aB (.tup r),aB w]) (st3 h0 [] (cs++[.int (c+d)]) ts' (l'.map .int)):=by intro ts';rw[bf (ρ':=[aB b,aB l,aB f,aB .aL,aB (.int (c+d)),aB (.ref h0.n),aB (.ref (h0.n+1)),aB (.ref (h0.n+2)),aB (.int d),aB (.tup r),aB w]) (h':=st3 h0 [] cs ts' (l'.map .int)) rfl];have ea:=QC (cl:=run F (k+1)) (i:=5) (l:=h0.n) (x:=.var 4) (ρ:=[aB b,aB l,aB f,aB .aL,aB (.int (c+d)),aB (.ref h0.n),aB (.ref (h0.n+1)),aB (.ref (h0.n+2)),aB (.int d),aB (.tup r),aB w]) (h:=st3 h0 [] cs ts' (l'.map .int)) (h1:=st3 h0 [] cs ts' (l'.map .int)) (w:=.int (c+d)) (acc:=cs) (wO:=cs) rfl wQ (by simp[ev]) wQ (by lia);rw[Zl]at ea;simp only[exs,ea,aD]
  rcases FD hm with⟨rfl,h3,h4⟩|⟨rfl,h3⟩|⟨rfl,h3⟩|rfl|rfl|⟨p,q,rfl,h3,h4,h5,h6⟩;rw[FF]at es;cases es;rw[bf (ρ':=[aB b,aB l,aB f,aB .aL,aB (.int c),aB (.ref h0.n),aB (.ref (h0.n+1)),aB (.ref (h0.n+2)),aB (.int hd),aB (.tup r),aB (.str sX)]) (h':=st3 h0 [] cs ts (ls.map .int)) rfl,fin];simp;rw[FG]at es;cases es;rw[bf (ρ':=[aB b,aB l,aB f,aB .aL,aB (.int c),aB (.ref h0.n),aB (.ref (h0.n+1)),aB (.ref (h0.n+2)),aB (.int (-1)),aB (.tup r),aB (.str cu)]) (h':=st3 h0 [] cs ts (ls.map .int)) rfl,fin];simp;rw[FH]at es;cases es;rw[bf (ρ':=[aB b,aB l,aB f,aB .aL,aB (.int c),aB (.ref h0.n),aB (.ref (h0.n+1)),aB (.ref (h0.n+2)),aB (.int 1),aB (.tup r),aB (.str cz)]) (h':=st3 h0 [] cs ts (ls.map .int)) rfl,fin];simp;rw[FI]at es;cases es;rw[bf (ρ':=[aB b,aB l,aB f,aB .aL,aB (.int c),aB (.ref h0.n),aB (.ref (h0.n+1)),aB (.ref (h0.n+2)),aB (.int 0),aB (.tup r),aB (.str aG)]) (h':=st3 h0 [] cs ts (ls.map .int)) rfl,fin];simp;rw[FJ]at es;cases es;rw[FL]at es;cases es;have ea:=QC (cl:=run F (k+1)) (i:=6) (l:=h0.n+1) (x:=.idx (.var 10) (.cst (.int 0))) (ρ:=[aB b,aB l,aB f,aB .aL,aB (.int c),aB (.ref h0.n),aB (.ref (h0.n+1)),aB (.ref (h0.n+2)),aB (.int (if ls.getD p 0=q then -1 else 1)),aB (.tup r),aB (.tup [.int p,.int q])]) (h:=st3 h0 [] cs ts ((ls.set p (1-ls.getD p 0)).map .int)) (h1:=st3 h0 [] cs ts ((ls.set p (1-ls.getD p 0)).map .int)) (w:=.int p) (acc:=ts) (wO:=ts) rfl wR (by simp[ev,bF];rfl) wR (by lia);rw[Zm]at ea;have eb:exs (run F (k+1)) (.ite (.and (.kY (.nQ .tuple (.var 10))) (.cmp .ne (.idx (.var 10) (.cst (.int (0)))) (.var 3))) (.seq (.expr (.mt .append (.var 6) (.cons (.idx (.var 10) (.cst (.int (0)))) .nil))) .skip) .skip) [aB b,aB l,aB f,aB .aL,aB (.int c),aB (.ref h0.n),aB (.ref (h0.n+1)),aB (.ref (h0.n+2)),aB (.int (if ls.getD p 0=q then -1 else 1)),aB (.tup r),aB (.tup [.int p,.int q])] (st3 h0 [] cs ts ((ls.set p (1-ls.getD p 0)).map .int))=.ok (.nx [aB b,aB l,aB f,aB .aL,aB (.int c),aB (.ref h0.n),aB (.ref (h0.n+1)),aB (.ref (h0.n+2)),aB (.int (if ls.getD p 0=q then -1 else 1)),aB (.tup r),aB (.tup [.int p,.int q])]) (st3 h0 [] cs (ts++[.int p]) ((ls.set p (1-ls.getD p 0)).map .int)):=by
   rw[exs];have e5:ev (run F (k+1)) (.and (.kY (.nQ .tuple (.var 10))) (.cmp .ne (.idx (.var 10) (.cst (.int (0)))) (.var 3))) [aB b,aB l,aB f,aB .aL,aB (.int c),aB (.ref h0.n),aB (.ref (h0.n+1)),aB (.ref (h0.n+2)),aB (.int (if ls.getD p 0=q then -1 else 1)),aB (.tup r),aB (.tup [.int p,.int q])] (st3 h0 [] cs ts ((ls.set p (1-ls.getD p 0)).map .int))=.ok (.bl true) (st3 h0 [] cs ts ((ls.set p (1-ls.getD p 0)).map .int)):=by simp[ev,ZC,aN,JN]
   rw[e5,aD];simp only[exs,ea,aD]
  rw[bf eb,fin];rfl
 cases es:bY w hd ls with
 |none=>
  rw[es]at e1;rw[bf (ρ':=[aB b,aB l,aB f,aB .aL,aB (.int c),aB (.ref h0.n),aB (.ref (h0.n+1)),aB (.ref (h0.n+2)),aB .aL,aB (.tup r),aB w]) (h':=st3 h0 [] cs ts (ls.map .int)) (by simp only[exs,ev,qc,mR,sZ,bT,aD,e1,mT,kC])];exact Zo rfl
 |some q=>
  obtain⟨d,t,l'⟩:=q;rw[es]at e1;rw[bf (ρ':=[aB b,aB l,aB f,aB .aL,aB (.int c),aB (.ref h0.n),aB (.ref (h0.n+1)),aB (.ref (h0.n+2)),aB (.int d),aB (.tup r),aB w]) (h':=st3 h0 [] cs ts (l'.map .int)) (by simp only[exs,ev,qc,mR,sZ,bT,aD,e1,mT,kC])];rw[bf (ρ':=[aB b,aB l,aB f,aB .aL,aB (.int c),aB (.ref h0.n),aB (.ref (h0.n+1)),aB (.ref (h0.n+2)),aB (.int d),aB (.tup r),aB w]) (h':=st3 h0 [] cs ts (l'.map .int)) rfl];exact key d l' t es
theorem QO{k:Nat}{h0:VH}{b l f:W}{wd:Int}:∀(rs:List (List W)) (c hd:Int) (cs ts:List W) (ls:List Int) (x y:Option W),Cq wd (ls.length:Int) rs->0<=c->c<wd->-1<=hd->hd<=1->cD ls->cs.length+rs.length<=1000->ts.length+rs.length<=1000->
 ∃c' hd' x' y',forL (aX (.one 9)) (exs (run F (k+1)) Ci) (rs.map .tup) [aB b,aB l,aB f,aB .aL,aB (.int c),aB (.ref h0.n),aB (.ref (h0.n+1)),aB (.ref (h0.n+2)),aB (.int hd),x,y] (st3 h0 [] cs ts (ls.map .int)) =
  .ok (.nx [aB b,aB l,aB f,aB .aL,c',aB (.ref h0.n),aB (.ref (h0.n+1)),aB (.ref (h0.n+2)),hd',x',y']) (st3 h0 [] (cs++(aQ rs c hd ls).cs.map .int) (ts++(aQ rs c hd ls).ts.map .int) ((aQ rs c hd ls).ls.map .int))
 |[],c,hd,cs,ts,ls,x,y,_,_,_,_,_,_,_,_=>⟨aB (.int c),aB (.int hd),x,y,by simp[forL,aQ]⟩
 |r::rs,c,hd,cs,ts,ls,x,y,ok,c0,c1,h1,h2,bi,hc,ht=>by
  have hc':cs.length+rs.length+1<=1000:=by rw[cZ]at hc;lia
  have ht':ts.length+rs.length+1<=1000:=by rw[cZ]at ht;lia
  have eb:=ZE C (k:=k) (h0:=h0) (b:=b) (l:=l) (f:=f) (hd:=hd) (cs:=cs) (ts:=ts) (y:=y) (ok r dP) c0 c1 (by lia) (by lia);obtain⟨_,hm⟩:=yD (ok r dP) c0 c1;cases e:bY (bK r c) hd ls with
  |none=>
   rw[e]at eb;rw[QE e];refine⟨aB (.int c),aB .aL,aB (.tup r),aB (bK r c),?_⟩;simp only[dw,forL,aX,mT,kC,eb,aD,tw,kE]
  |some q=>
   obtain⟨d,t,l'⟩:=q;rw[e]at eb;obtain⟨a1,a2,a3,a4,a5,a6,a7⟩:=JA hm c0 c1 h1 h2 bi e;obtain⟨c',hd',x',y',ih⟩:=QO (k:=k) (h0:=h0) (b:=b) (l:=l) (f:=f) rs (c+d) d (cs++[.int (c+d)]) (ts++t.map .int) l' (aB (.tup r)) (aB (bK r c)) (λr hr=>by rw[a5];exact ok r (dj _ hr)) a3 a4 a1 a2 a6 (by simp only[eF,xC];lia) (by simp only[eF,bJ];lia);rw[QF e];refine⟨c',hd',x',y',?_⟩;simp only[dw,forL,aX,mT,kC,eb,aD,ih,ng,jc,List.singleton_append]
theorem ZF{k:Nat}{h:VH}{B:Bd}{ls:List Int}{f:Nat}(b:B.Ok)(hf:f<B.fd.length)(hl:(ls.length:Int)=B.gr)(bi:cD ls):run F (k+2) 174 [B.w,iW ls,.int f,.aL] h=.ok (mL B ls f) h:=by
 rw[dF C.xg rfl];obtain⟨e0,c0,c1⟩:=b.col hf;have hr:=b.r1;obtain⟨c',hd',x',y',el⟩:=QO C (k:=k) (h0:=h) (b:=B.w) (l:=iW ls) (f:=.int f) B.rows (B.col f) 0 [.int (B.col f)] [] ls aC aC (b.rows hl) c0 c1 (by decide) (by decide) bi (by rw[xC];lia) (by rw[xK];lia);have e1:dG B.fd (f:Int)=aB (.int (B.col f)):=pG e0;have i3:dG [W.int B.wd,.int B.gr,.tup (B.rows.map .tup),.tup B.fd,.tup B.dr] 3=aB (.tup B.fd):=rfl;have i2:dG [W.int B.wd,.int B.gr,.tup (B.rows.map .tup),.tup B.fd,.tup B.dr] 2=aB (.tup (B.rows.map .tup)):=rfl;have hz:(B.rows.map W.tup).length<1000000:=by rw[bJ];lia
 have eb:exs (run F (k+1)) jD.body [aB B.w,aB (iW ls),aB (.int f),aB .aL,aC,aC,aC,aC,aC,aC,aC] ⟨h.n,h.n,h.os⟩=.ok (.rt (mL B ls f)) (st3 h [] (([.int (B.col f)]:List W)++(aQ B.rows (B.col f) 0 ls).cs.map .int) (([]:List W)++(aQ B.rows (B.col f) 0 ls).ts.map .int) ((aQ B.rows (B.col f) 0 ls).ls.map .int)):=by
  show exs (run F (k+1)) (.seq _ _) _ _=_;rw[bf (ρ':=[aB B.w,aB (iW ls),aB (.int f),aB .aL,aB (.int (B.col f)),aC,aC,aC,aC,aC,aC]) (h':=⟨h.n,h.n,h.os⟩) (by unfold Bd.w;simp[exs,ev,bF,i3,e1])];rw[bf (ρ':=[aB B.w,aB (iW ls),aB (.int f),aB .aL,aB (.int (B.col f)),aB (.ref h.n),aC,aC,aC,aC,aC]) (h':=VH.new ⟨h.n,h.n,h.os⟩ (.lst [.int (B.col f)])) (by simp[exs,ev])];rw[bf (ρ':=[aB B.w,aB (iW ls),aB (.int f),aB .aL,aB (.int (B.col f)),aB (.ref h.n),aB (.ref (h.n+1)),aC,aC,aC,aC]) (h':=VH.new (VH.new ⟨h.n,h.n,h.os⟩ (.lst [.int (B.col f)])) (.lst [])) (by simp[exs,ev,VH.new])];rw[bf (ρ':=[aB B.w,aB (iW ls),aB (.int f),aB .aL,aB (.int (B.col f)),aB (.ref h.n),aB (.ref (h.n+1)),aB (.ref (h.n+2)),aC,aC,aC]) (h':=st3 h [] [.int (B.col f)] [] (ls.map .int)) (by unfold iW;simp[exs,ev,VH.new,gT,gR,aO,st3])];rw[bf (ρ':=[aB B.w,aB (iW ls),aB (.int f),aB .aL,aB (.int (B.col f)),aB (.ref h.n),aB (.ref (h.n+1)),aB (.ref (h.n+2)),aB (.int 0),aC,aC]) (h':=st3 h [] [.int (B.col f)] [] (ls.map .int)) (by simp[exs,ev])];have ei:ev (run F (k+1)) (.idx (.var 0) (.cst (.int (2)))) [aB B.w,aB (iW ls),aB (.int f),aB .aL,aB (.int (B.col f)),aB (.ref h.n),aB (.ref (h.n+1)),aB (.ref (h.n+2)),aB (.int 0),aC,aC] (st3 h [] [.int (B.col f)] [] (ls.map .int))=.ok (.tup (B.rows.map .tup)) (st3 h [] [.int (B.col f)] [] (ls.map .int)):=by unfold Bd.w;simp[ev,bF,i2]
  have ef:=yw (tg:=aX (.one 9)) (b:=exs (run F (k+1)) Ci) (ρ:=[aB B.w,aB (iW ls),aB (.int f),aB .aL,aB (.int (B.col f)),aB (.ref h.n),aB (.ref (h.n+1)),aB (.ref (h.n+2)),aB (.int 0),aC,aC]) (h:=st3 h [] [.int (B.col f)] [] (ls.map .int)) hz;rw[el]at ef;refine(bf (by rw[exs,ei,aD,ef])).trans ?_;have et:=JE (cl:=run F (k+1)) (JD (i:=5) (ρ:=[aB B.w,aB (iW ls),aB (.int f),aB .aL,c',aB (.ref h.n),aB (.ref (h.n+1)),aB (.ref (h.n+2)),hd',x',y']) rfl (wQ (h:=h) (gs:=[]) (c:=([.int (B.col f)]:List W)++(aQ B.rows (B.col f) 0 ls).cs.map .int) (t:=([]:List W)++(aQ B.rows (B.col f) 0 ls).ts.map .int) (l:=(aQ B.rows (B.col f) 0 ls).ls.map .int))) (JD (i:=6) rfl wR) (JD (i:=7) rfl Cr);simp only[exs,et,aD];rfl
 show fin h (exs (run F (k+1)) jD.body [aB B.w,aB (iW ls),aB (.int f),aB .aL,aC,aC,aC,aC,aC,aC,aC] ⟨h.n,h.n,h.os⟩)=_;rw[eb];exact dX (aR _) Zp
end
section
variable{F:Nat->Option Fn}(C:oX F)
include C
theorem ZG{k:Nat}{h:VH}{B:Bd}{ls:List Int}{f:Nat}(b:B.Ok)(hf:f<B.fd.length)(hl:(ls.length:Int)=B.gr)(bi:cD ls):run F (k+2) 174 [B.w,iW ls,.int f,.aL] h=.ok (mL B ls f) h:=ZF ⟨C.wZ,C.xg⟩ b hf hl bi
noncomputable def ic(B:Bd)(ls:List Int)(f:Nat):W:=if(B.aU ls f).st then .aL else .int (cy (B.col f) (B.aU ls f).cs)
theorem ZH{k:Nat}{h:VH}{B:Bd}{ls:List Int}{f:Nat}(b:B.Ok)(hf:f<B.fd.length)(hl:(ls.length:Int)=B.gr)(bi:cD ls):run F (k+3) 175 [B.w,iW ls,.int f,.aL] h=.ok (.tup [ic B ls f,iW (B.aU ls f).ls]) h:=by
 rw[dF C.JM rfl];have e1:=ZG C (k:=k) (h:=⟨h.n,h.n,h.os⟩) b hf hl bi;have q:=b.aU hf hl bi;have i2:dG [W.int B.wd,.int B.gr,.tup (B.rows.map .tup),.tup B.fd,.tup B.dr] 2=aB (.tup (B.rows.map .tup)):=rfl;have e2:exs (run F (k+2)) (.vN [4,5,6] (.call 174 (.cons (.var 0) (.cons (.var 1) (.cons (.var 2) (.cons (.var 3) .nil)))))) [aB B.w,aB (iW ls),aB (.int f),aB .aL,aC,aC,aC,aC] ⟨h.n,h.n,h.os⟩=.ok (.nx [aB B.w,aB (iW ls),aB (.int f),aB .aL,aB (iW (B.col f:: (B.aU ls f).cs)),aB (iW (B.aU ls f).ts),aB (iW (B.aU ls f).ls),aC]) ⟨h.n,h.n,h.os⟩:=by simp only[exs,ev,qc,mR,sZ,bT,aD,e1,mL,aX,aO,iV,mT,kC,mU]
 have e3:ev (run F (k+2)) (.cmp .gt (.bi .len (.cons (.var 4) .nil)) (.bi .len (.cons (.idx (.var 0) (.cst (.int (2)))) .nil))) [aB B.w,aB (iW ls),aB (.int f),aB .aL,aB (iW (B.col f:: (B.aU ls f).cs)),aB (iW (B.aU ls f).ts),aB (iW (B.aU ls f).ls),aC] ⟨h.n,h.n,h.os⟩=.ok (.bl (!(B.aU ls f).st)) ⟨h.n,h.n,h.os⟩:=by
  have:decide ((B.rows.length:Int)< ((B.aU ls f).cs.length:Int)+1)=!(B.aU ls f).st:=by
   cases z:(B.aU ls f).st with|true=>have:=q.c5 z;exact gF (by lia)|false=>have:=q.c3 z;exact iE (by lia)
  unfold Bd.w iW;simp[ev,gT,fO,aO,bF,i2,aN,fE,this]
 have el:=Zq (cs:=(B.aU ls f).cs) (c:=B.col f);show fin h (exs (run F (k+2)) (.seq (.vN [4,5,6] (.call 174 (.cons (.var 0) (.cons (.var 1) (.cons (.var 2) (.cons (.var 3) .nil)))))) _) [aB B.w,aB (iW ls),aB (.int f),aB .aL,aC,aC,aC,aC] ⟨h.n,h.n,h.os⟩)=_;rw[bf e2];have e4:ev (run F (k+2)) (.idx (.var 4) (.neg (.cst (.int (1))))) [aB B.w,aB (iW ls),aB (.int f),aB .aL,aB (iW (B.col f:: (B.aU ls f).cs)),aB (iW (B.aU ls f).ts),aB (iW (B.aU ls f).ls),aC] ⟨h.n,h.n,h.os⟩=.ok (.int (cy (B.col f) (B.aU ls f).cs)) ⟨h.n,h.n,h.os⟩:=by unfold iW;simp only[ev,qc,mR,sZ,bT,aD,bF,el]
 have e5:exs (run F (k+2)) (.set 7 (.ite (.cmp .gt (.bi .len (.cons (.var 4) .nil)) (.bi .len (.cons (.idx (.var 0) (.cst (.int (2)))) .nil))) (.idx (.var 4) (.neg (.cst (.int (1))))) (.cst .aL))) [aB B.w,aB (iW ls),aB (.int f),aB .aL,aB (iW (B.col f:: (B.aU ls f).cs)),aB (iW (B.aU ls f).ts),aB (iW (B.aU ls f).ls),aC] ⟨h.n,h.n,h.os⟩=.ok (.nx [aB B.w,aB (iW ls),aB (.int f),aB .aL,aB (iW (B.col f:: (B.aU ls f).cs)),aB (iW (B.aU ls f).ts),aB (iW (B.aU ls f).ls),aB (ic B ls f)]) ⟨h.n,h.n,h.os⟩:=by
  unfold ic;rw[exs,ev,e3];cases z:(B.aU ls f).st with|true=>rfl|false=>simp only[Dg,aD,e4];rfl
 rw[bf e5];simp only[exs];rw[JF (x:=ic B ls f) (y:=iW (B.aU ls f).ls) rfl rfl];refine dX (aR _) ?_;unfold ic;split<;>simp[oV]
end
theorem FU:∃m,fuel=m+1000:=⟨999000,rfl⟩
theorem JO{nx:Nat->VH->Option (Option W)}{e:FE}{h:VH}{ws:List W}{x:W}{tl:En}{f:W->W}(hx:∀i,nx i h=aB ws[i]?)(he:∀w∈ws,e (aB x::aB w::tl) h=.ok (f w) h) :
 ∀(fu i:Nat)(b:Option W)(acc:List W),i<=ws.length->ws.length<fu+i->∃b',gU nx (aX (.one 1)) (λ_ h=>.ok (.bl true) h) e fu i (aB x::b::tl) h acc=.ok (aB x::b'::tl,((ws.drop i).map f).reverse++acc) h
 |0,i,b,acc,hi,hl=>by lia
 |fu+1,i,b,acc,hi,hl=>by
  cases q:ws[i]? with
  |none=>
   rw[yS (m5.mp q)];exact⟨b,by simp only[gU,hx,q];rfl⟩
  |some w=>
   obtain⟨hi,ee⟩:=kB.mp q;obtain⟨b',ih⟩:=JO hx he fu (i+1) (aB w) (f w::acc) hi (by lia);refine⟨b',?_⟩;simp only[gU,hx,q,aX,mT,kC,aD,he w (o5 q),ih];rw[o4 hi,ee];simp
theorem JP{nx:Nat->VH->Option (Option W)}{jy:En->VH->List W->Res (En×List W)}{h:VH}{ws:List W}{tl:En}{g:W->List W}(hx:∀i,nx i h=aB ws[i]?)
 (hi:∀x∈ws,∀(b:Option W)(acc:List W),∃b',jy (aB x::b::tl) h acc=.ok (aB x::b'::tl,(g x).reverse++acc) h) :
 ∀(fu i:Nat)(a b:Option W)(acc:List W),i<=ws.length->ws.length<fu+i->iX nx (aX (.one 0)) (λ_ h=>.ok (.bl true) h) jy fu i (a::b::tl) h acc=.ok (acc.reverse++(ws.drop i).flatMap g) h
 |0,i,a,b,acc,hi,hl=>by lia
 |fu+1,i,a,b,acc,hi',hl=>by
  cases q:ws[i]? with
  |none=>
   rw[yS (m5.mp q)];simp only[iX,hx,q];simp
  |some w=>
   obtain⟨hil,ee⟩:=kB.mp q;obtain⟨b',e1⟩:=hi w (o5 q) b acc;simp only[iX,hx,q,aX,kC,aD,e1];rw[JP hx hi fu (i+1) (aB w) b' ((g w).reverse++acc) hil (by lia),o4 hil,ee];simp
theorem JQ{nx:Nat->VH->Option (Option W)}{c e:FE}{h:VH}{ws:List W}{tl:En}{p:W->Bool}{f:W->W}(hx:∀i,nx i h=aB ws[i]?)(hc:∀w∈ws,c (aB w::tl) h=.ok (.bl (p w)) h)(he:∀w∈ws,e (aB w::tl) h=.ok (f w) h) :
 ∀(fu i:Nat)(a:Option W)(acc:List W),i<=ws.length->ws.length<fu+i->eB nx (aX (.one 0)) c e fu i (a::tl) h acc=.ok (acc.reverse++((ws.drop i).filter p).map f) h
 |0,i,a,acc,hi,hl=>by lia
 |fu+1,i,a,acc,hi,hl=>by
  cases q:ws[i]? with
  |none=>
   rw[yS (m5.mp q)];simp only[eB,hx,q];simp
  |some w=>
   obtain⟨hi,ee⟩:=kB.mp q;have hm:=o5 q;simp only[eB,hx,q,aX,kC,hc w hm,aD];rw[o4 hi,ee];cases z:p w with
   |true=>
    simp only[he w hm,aD];rw[JQ hx hc he fu (i+1) (aB w) (f w::acc) hi (by lia)];simp[z]
   |false=>
    rw[JQ hx hc he fu (i+1) (aB w) acc hi (by lia)];simp[z]
theorem QS{h:VH}{n:Nat}:∀ls:List Int,aP (toD h (n+1)) (ls.map W.int)=aB (ls.map PyData.int)|[]=>rfl|x::r=>by simp only[dw,aP,QS r];rfl
theorem CA{h:VH}{n:Nat}{ws:List W}:toD h (n+1) (.tup ws)=(aP (toD h n) ws).map .tuple:=rfl
theorem JR{h:VH}{n:Nat}{i:Int}:toD h (n+1) (.int i)=aB (.int i):=rfl
theorem yE{h:VH}{n:Nat}{ls:List Int}:toD h (n+2) (iW ls)=aB (.tuple (ls.map .int)):=by unfold iW;rw[CA,QS,mU]
theorem JS:∀ls ms:List Int,PyData.eqvAll (ls.map .int) (ms.map .int)=decide (ls=ms)
 |[],[]=>rfl
 |[],_::_=>rfl
 |_::_,[]=>rfl
 |x::r,y::s=>by
  simp only[dw,PyData.eqvAll,PyData.eqv,JS r s];by_cases a:x=y<;>by_cases b:r=s<;>simp[a,b]
theorem QT{h:VH}{w:W}{d:aA}(p:iD 24 w)(e:toD h 24 w=aB d):SeqAt.shaped d=true:=by obtain⟨d',h1,h2,h3⟩:=Fx h 24 w p;rw[e]at h1;cases h1;unfold SeqAt.shaped;rw[h2,yQ,eE];lia
theorem JT{h:VH}{w w':W}{d d':aA}(p:iD 24 w)(p':iD 24 w')(e:toD h 24 w=aB d)(e':toD h 24 w'=aB d'):b9 h w w'=aB (PyData.eqv d d'):=by unfold b9;rw[e,e'];simp[QT p e,QT p' e']
theorem ZJ{h:VH}{a b:List Int}:b9 h (iW a) (iW b)=aB (decide (a=b)):=by rw[JT JK JK yE yE];simp only[PyData.eqv,JS]
noncomputable abbrev Pr:=List Int×Nat
noncomputable def bB(p:Pr):W:=.tup [iW p.1,.int p.2]
noncomputable def aS:Nat->List (List Int)|0=>[[]]|n+1=>(aS n).flatMap λl=>[l++[0],l++[1]]
theorem xh:∀n,(aS n).length=2 ^ n
 |0=>rfl
 |n+1=>by
  simp only[aS,List.length_flatMap,cZ,xK];rw[Nat.pow_succ,<-xh n];induction aS n with|nil=>rfl|cons x r ih=>simp only[dw,List.sum_cons,ih,cZ];lia
theorem sM:∀n,∀l∈aS n,l.length=n/\cD l
 |0,l,h=>by
  simp only[aS,mS]at h;subst h;exact⟨rfl,by intro x hx;cases hx⟩
 |n+1,l,h=>by
  simp only[aS,List.mem_flatMap]at h;obtain⟨m,hm,h⟩:=h;obtain⟨h1,h2⟩:=sM n m hm;simp only[fm,yY,or_false]at h;rcases h with rfl|rfl
  refine⟨by simp[h1],λx hx=>?_⟩;rcases kD.mp hx with hx|hx
  exact h2 x hx;simp only[mS]at hx;exact .inl hx;refine⟨by simp[h1],λx hx=>?_⟩;rcases kD.mp hx with hx|hx
  exact h2 x hx;simp only[mS]at hx;exact .inr hx
noncomputable def bx(g nf:Nat):List Pr:=(aS g).flatMap λl=>(List.range nf).map λf=>(l,f)
theorem JU{g nf:Nat}{p:Pr}(h:p∈bx g nf):p.1.length=g/\cD p.1/\p.2<nf:=by simp only[bx,List.mem_flatMap,p9,uQ]at h;obtain⟨l,hl,f,hf,rfl⟩:=h;exact⟨(sM g l hl).1,(sM g l hl).2,hf⟩
theorem yF{g nf:Nat}(hg:g<=8)(hn:nf<=4):(bx g nf).length<=1024:=by
 have h1:(bx g nf).length=(aS g).length*nf:=by
  unfold bx;rw[List.length_flatMap];simp only[bJ,List.length_range];induction aS g with|nil=>simp|cons x r ih=>rw[dw,List.sum_cons,ih,cZ,Nat.add_mul];lia
 rw[h1,xh];have:2 ^ g<=2 ^ 8:=vec (by decide) hg;calc 2 ^ g*nf<=2 ^ 8*4:=Nat.mul_le_mul this hn
  _<=1024:=by decide
end RF
namespace RF
open PySem L2 LX
theorem QU{m:Nat}:∀{l:List (List Int)},(∀k∈l,k.length=m)->Ew l=true->l.Pairwise λa b=>bI a b=true
 |[],_,_=>.nil
 |[a],_,_=>Dh ..
 |a::b::r,hl,h=>by
  unfold Ew at h;rw[bE]at h;have ih:=QU (l:=b::r) (λk hk=>hl k (dj _ hk)) h.2;refine yX.mpr ⟨λx hx=>?_,ih⟩;rcases fm.mp hx with rfl|hx'
  exact h.1;exact A8 (by rw[hl a (dP ..),hl b (dj _ (dP ..))]) (by rw[hl b (dj _ (dP ..)),hl x (dj _ hx)]) h.1 ((yX.mp ih).1 x hx')
theorem ZK:((List.range 9).all λg=>Ew (aS g))=true:=by decide +kernel
theorem QV{g:Nat}(hg:g<=8):(aS g).Pairwise λa b=>bI a b=true:=
 QU (m:=g) (λk hk=>(sM g k hk).1) (lJ.mp ZK g (uQ.mpr (by lia)))
theorem QW{α:Type}{f g:α->α}:∀l:List α,(l.map f++l.map g).Perm (l.flatMap λx=>[f x,g x])
 |[]=>pC _
 |a::r=>by
  rw[dw,dw,List.flatMap_cons,xG,xG];refine List.Perm.cons _ ?_;refine(List.perm_middle (a:=g a) (l₁:=r.map f) (l₂:=r.map g)).trans (List.Perm.cons _ ?_);exact QW r
theorem FW{t:Nat}:((aS t).map (· ++ [(0:Int)])++(aS t).map (· ++ [(1:Int)])).Perm (aS (t+1)):=QW _
theorem ZL{l:List (List Int)}(h:l.Pairwise λa b=>bI a b):l.Nodup:=
 List.nodup_iff_pairwise_ne.mpr (h.imp λ{a b} x e=>by rw[e,Et]at x;cases x)
theorem QX{t:Nat}(ht:t<8):((aS t).map (· ++ [(0:Int)])++(aS t).map (· ++ [(1:Int)])).Nodup:=FW.nodup_iff.mpr (ZL (QV (by lia)))
theorem ZM{t:Nat}(ht:t<8):jB ((aS t).map (· ++ [(0:Int)])++(aS t).map (· ++ [(1:Int)]))=aS (t+1):=by have hl:∀k∈(aS t).map (· ++ [(0:Int)])++(aS t).map (· ++ [(1:Int)]),k.length=t+1:=λk hk=>(sM (t+1) k (FW.mem_iff.mp hk)).1;exact(Pw (λa ha b hb=>by rw[hl a ha,hl b hb]) (IQ _ hl (QX ht)) FW.symm (QV (by lia))).symm
theorem ZN{t:Nat}(ht:t<8):nR ((aS t).map (· ++ [(0:Int)])++(aS t).map (· ++ [(1:Int)]))=true:=by
 have hl:∀k∈(aS t).map (· ++ [(0:Int)])++(aS t).map (· ++ [(1:Int)]),k.length=t+1:=λk hk=>(sM (t+1) k (FW.mem_iff.mp hk)).1;generalize (aS t).map (· ++ [(0:Int)])++(aS t).map (· ++ [(1:Int)])=l at hl;match l,hl with
 |[],_=>rfl
 |[a],_=>rfl
 |k::k2::r,hl=>
  unfold nR;have hk:=hl k (dP ..);rw[bE];refine⟨oZ.mpr (by rw[hk];lia),lJ.mpr λq hq=>?_⟩;rw[hl q hq,hk];exact Nat.beq_refl _
end RF
namespace RF
open PySem L2
theorem CB{nx:Nat->VH->Option (Option W)}{tg:W->VH->En->Option En}{b:FS}{n:Nat}{I:Nat->En->VH->Prop}
 (go:∀i ρ h,i<n->I i ρ h->∃w gz FY h2,nx i h=aB (aB w)/\tg w h ρ=aB gz/\b gz h=.ok (.nx FY) h2/\I (i+1) FY h2)
 (stop:∀ρ h,I n ρ h->nx n h=aB aC) :
 ∀(m i fu:Nat)(ρ:En)(h:VH),i+m=n->m<fu->I i ρ h->∃ρ' h',dB nx tg b fu i ρ h=.ok (.nx ρ') h'/\I n ρ' h'
 |_,_,0,_,_,_,hf,_=>by lia
 |0,i,fu+1,ρ,h,hi,_,hI=>by
  obtain rfl:i=n:=by lia
  refine⟨ρ,h,?_,hI⟩;simp only[dB,stop ρ h hI]
 |m+1,i,fu+1,ρ,h,hi,hf,hI=>by
  obtain⟨w,gz,FY,h2,e1,e2,e3,pL⟩:=go i ρ h (by lia) hI;obtain⟨ρ',h',e4,JV⟩:=CB go stop m (i+1) fu FY h2 (by lia) (by lia) pL;refine⟨ρ',h',?_,JV⟩;simp only[dB,e1,e2,e3,aD,e4]
theorem QY{nx:Nat->VH->Option (Option W)}{tg:W->VH->En->Option En}{e:FE}{n:Nat}{I:Nat->En->VH->List W->Prop}
 (go:∀i ρ h acc,i<n->I i ρ h acc->∃w gz y h2,nx i h=aB (aB w)/\tg w h ρ=aB gz/\e gz h=.ok y h2/\I (i+1) gz h2 (acc++[y]))
 (stop:∀ρ h acc,I n ρ h acc->nx n h=aB aC) :
 ∀(m i fu:Nat)(ρ:En)(h:VH)(acc:List W),i+m=n->m<fu->I i ρ h acc->∃ys ρ' h',eB nx tg (λ_ h=>.ok (.bl true) h) e fu i ρ h acc.reverse=.ok ys h'/\I n ρ' h' ys
 |_,_,0,_,_,_,_,hf,_=>by lia
 |0,i,fu+1,ρ,h,acc,hi,_,hI=>by
  obtain rfl:i=n:=by lia
  refine⟨acc,ρ,h,?_,hI⟩;simp only[eB,stop ρ h acc hI,List.reverse_reverse]
 |m+1,i,fu+1,ρ,h,acc,hi,hf,hI=>by
  obtain⟨w,gz,y,h2,e1,e2,e3,pL⟩:=go i ρ h acc (by lia) hI;obtain⟨ys,ρ',h',e4,JV⟩:=QY go stop m (i+1) fu gz h2 (acc++[y]) (by lia) (by lia) pL;refine⟨ys,ρ',h',?_,JV⟩;rw[List.reverse_append]at e4;simp only[eB,e1,e2,aD,e3];exact e4
theorem ZO{nx:Nat->VH->Option (Option W)}{tg:W->VH->En->Option En}{e:FE}{n:Nat}{I:Nat->En->VH->List W->Prop}
 (go:∀i ρ h acc,i<n->I i ρ h acc->∃w gz y h2,nx i h=aB (aB w)/\tg w h ρ=aB gz/\e gz h=.ok y h2/\I (i+1) gz h2 (acc++[y]))
 (stop:∀ρ h acc,I n ρ h acc->nx n h=aB aC) {ρ:En} {h:VH} (hn:n<1000000) (hI:I 0 ρ h []):∃ys ρ' h',eB nx tg (λ_ h=>.ok (.bl true) h) e fuel 0 ρ h []=.ok ys h'/\I n ρ' h' ys:=
 QY go stop n 0 fuel ρ h [] (lH _) hn hI
theorem FZ{n i:Nat}{h:VH}(hn:n<1000000):aZ .bM (.tup [.int n]) i h=aB (if i<n then aB (.int (i:Int))else aC):=by
 have hf:fits (n:Int)=true:=by unfold fits;simp;lia
 show(if fits (n:Int)then aB (if decide ((i:Int)<n)then aB (W.int (0+i))else aC)else aC)=_;rw[if_pos hf,Int.zero_add];by_cases q:i<n;rw[if_pos q,iE (by lia)];rfl;rw[if_neg q,gF (by lia)];rfl
theorem ZP{h h':VH}{w:W}(hw:W.lt h.n w=false):∃h2,fin h (.ok (.rt w) h')=.ok w h2/\h2.n=h'.n/\(∀i,h2.get i=h'.get i)/\h2.lo=min h.lo h'.lo:=by refine⟨⟨h'.n,if Nat.ble h.lo h'.lo then h.lo else h'.lo,h'.os⟩,?_,rfl,λi=>rfl,?_⟩;show leave h w h'=_;unfold leave;rw[hw,Bool.and_false];rfl;show(if Nat.ble h.lo h'.lo then h.lo else h'.lo)=_;by_cases q:h.lo<=h'.lo;rw[if_pos (oZ.mpr q)];lia;rw[if_neg (λz=>q (oZ.mp z))];lia
theorem CD{i n:Nat}(h:n<=i):W.lt n (.ref i)=false:=by show Nat.blt i n=false;rw[<-Bool.not_eq_true,gx];lia
section
variable{cl:Call}{ρ:En}{h h1 h2 h3 h':VH}{a b r:E}
theorem aT{x:W}{xs:List W}(ea:ev cl a ρ h=.ok x h1)(er:ev cl r ρ h1=.ok (.tup xs) h2):ev cl (.cons a r) ρ h=.ok (.tup (x::xs)) h2:=by rw[ev,ea,aD,er];rfl
theorem cG:ev cl .nil ρ h=.ok (.tup []) h:=by rw[ev]
theorem aV{w:W}:ev cl (.cst w) ρ h=.ok w h:=by rw[ev]
theorem fy{ys:List W}(ea:ev cl a ρ h=.ok (.tup ys) h1)(hl:Nat.ble ys.length 1000):ev cl (.lst a) ρ h=.ok (.ref h1.n) (h1.new (.lst ys)):=by rw[ev,ea,aD];show(if Nat.ble ys.length 1000=true then _ else _)=_;rw[if_pos hl]
theorem xj{ys:List W}(ea:ev cl a ρ h=.ok (.tup ys) h1)(hl:Nat.ble ys.length 1000):ev cl (.tup a) ρ h=.ok (.tup ys) h1:=by rw[ev,ea,aD];show(if Nat.ble ys.length 1000=true then _ else _)=_;rw[if_pos hl]
theorem CF{x:W}{ws:List W}(ea:ev cl a ρ h=.ok x h1)(e:aO h1 x=aB ws):ev cl (.bi .list (.cons a .nil)) ρ h=.ok (.ref h1.n) (h1.new (.lst ws)):=by rw[ev,aT ea cG,aD];show gR [x] h1=_;simp only[gR,e]
theorem uF{ys:List W}{n:Nat}{w:W}(ea:ev cl a ρ h=.ok (.tup ys) h1)(e:cl n ys h1=.ok w h'):ev cl (.call n a) ρ h=.ok w h':=by rw[ev,ea,aD];exact e
theorem QZ{x:W}{ws:List W}(ea:ev cl a ρ h=.ok x h1)(e:aO h1 x=aB ws):ev cl (.bi .tuple (.cons a .nil)) ρ h=.ok (.tup ws) h1:=by rw[ev,aT ea cG,aD];show qW [x] h1=_;simp only[qW,e,bT]
theorem Q0{k:Kd}{t:Tg}{ow:Nat}{ix:List Nat}{x:W}{ys:List W}(ea:ev cl a ρ h=.ok x h1)(el:eB (aZ k x) (aX t) (λ_ h=>.ok (.bl true) h) (ev cl b) fuel 0 (inner ow ix ρ) h1 []=.ok ys h2)(hy:ys.length<=1000000) :
 ev cl (.lc k a t ow ix (.cst (.bl true)) b) ρ h=.ok (.ref h2.n) (h2.new (.lst ys)):=by
 rw[ev,ea,aD,Zh,el,aD,if_pos (oK hy)]
theorem jJ{k:Kd}{t:Tg}{x:W}{s:S}(ea:ev cl a ρ h=.ok x h1):exs cl (.«for» k a t s) ρ h=dB (aZ k x) (aX t) (exs cl s) fuel 0 ρ h1:=by rw[exs,ea,aD]
end
structure Gm(h h':VH):Prop where
 le:h.n<=h'.n
 lo:min h.lo h.n<=h'.lo
 get:∀j,j<h.n->h'.get j=h.get j
theorem Gm.refl{h:VH}:Gm h h:=⟨aR _,Nat.min_le_left _ _,λ_ _=>rfl⟩
theorem Gm.trans{a b c:VH}(x:Gm a b)(y:Gm b c):Gm a c:=⟨gJ x.le y.le,by
 have:=x.lo;have:=y.lo;have:=x.le;lia,λj hj=>by rw[y.get j (ek hj x.le),x.get j hj]⟩
theorem Gm.new{h h':VH}{o:VO}(x:Gm h h'):Gm h (h'.new o):=⟨yO x.le,x.lo,λj hj=>by rw[iB (ek hj x.le),x.get j hj]⟩
theorem Gm.set{h h':VH}{o:VO}{a:Nat}(x:Gm h h')(ha:h.n<=a)(hb:a<h'.n):Gm h (h'.set a o):=⟨x.le,by
 have:=x.lo;show _<=if Nat.blt a h'.lo then a else h'.lo
 split<;>lia,λj hj=>by rw[vQ hb (by lia),x.get j hj]⟩
theorem CG{h h':VH}{w:W}(hw:W.lt h.n w=false)(x:Gm ⟨h.n,h.n,h.os⟩ h'):∃h2,fin h (.ok (.rt w) h')=.ok w h2/\Gm h h2/\∀i,h2.get i=h'.get i:=by obtain⟨h2,e,n2,G,l2⟩:=ZP (h':=h') hw;refine⟨h2,e,⟨by rw[n2];exact x.le,?_,λj hj=>by rw[G,x.get j hj];rfl⟩,G⟩;have:=x.lo;have e2:(⟨h.n,h.n,h.os⟩:VH).lo=h.n:=rfl;have e3:(⟨h.n,h.n,h.os⟩:VH).n=h.n:=rfl;rw[l2];rw[e2,e3]at this;lia
theorem uG{a i:Nat}{h:VH}{ws:List W}(g:h.get a=aB (.lst ws)):aZ .seq (.ref a) i h=aB ws[i]?:=by simp only[aZ,aO,g,mU]
theorem zdt{a:Nat}{h:VH}{ws:List W}(g:h.get a=aB (.lst ws)):aO h (.ref a)=aB ws:=by simp only[aO,g]
end RF
namespace RF
open PySem L2 LX
theorem CH{xs ys:List W}{h:VH}{i j:Nat}(gi:h.get i=aB (.lst xs))(gj:h.get j=aB (.lst ys))(hl:xs.length+ys.length<=1000000):eW .add (.ref i) (.ref j) h=.ok (.ref h.n) (h.new (.lst (xs++ys))):=by simp only[eW,gi,gj,Ig];rw[if_pos (oK hl)]
theorem Q2:∀ks:List (List Int),aP kW (ks.map iW)=aB ks
 |[]=>rfl
 |k::r=>by
  have hz:∀l:List Int,aP iZ (l.map W.int)=aB l:=by
   intro l;induction l with|nil=>rfl|cons a l ih=>simp only[dw,aP,iZ,ih]
  have e:kW (iW k)=aB k:=hz k;simp only[dw,aP,e,Q2 r]
theorem Q3{cl:Call}{ρ:En}{h:VH}{j:Nat}{x:Int}{A:List (List Int)}(oM:ρ[1]?=aB (aB (.ref j)))(g:h.get j=aB (.lst (A.map iW)))(hA:∀k∈A,k.length<=8)(hl:A.length<=256) :
 ev cl (.lc .seq (.var 1) (.one 0) 1 [] (.cst (.bl true)) (.op .add (.var 0) (.tup (.cons (.cst (.int x)) .nil)))) ρ h=.ok (.ref h.n) (h.new (.lst ((A.map (· ++ [x])).map iW))):=by
 obtain⟨ys,ρ',h',e1,hI⟩:=ZO (nx:=aZ .seq (.ref j)) (tg:=aX (.one 0)) (e:=ev cl (.op .add (.var 0) (.tup (.cons (.cst (.int x)) .nil)))) (n:=A.length)
  (I:=λi ρ h1 acc=>(∃y,ρ=[y])/\h1=h/\acc=((A.take i).map (· ++ [x])).map iW)
  (λi ρ h1 acc hi hI=>by
    obtain⟨⟨y,rfl⟩,rfl,rfl⟩:=hI;have hx:=ig hi;refine⟨iW A[i],[aB (iW A[i])],iW (A[i]++[x]),h1,?_,rfl,?_,⟨_,rfl⟩,rfl,?_⟩;rw[uG g,jb,hx];rfl;refine pS (x:=iW A[i]) (y:=.tup [.int x]) (aF rfl) (xj (aT aV cG) rfl) ?_;exact QM (xs:=A[i]) (ys:=[x]) (h:=h1) (by have:=hA _ (ir hi);simp;lia);rw[List.take_add_one,hx,ng,ng];rfl)
  (λρ h1 acc hI=>by
    obtain⟨_,rfl,_⟩:=hI;rw[uG g,xD (by rw[bJ];exact aR _)])
  (ρ:=[aC]) (h:=h) (by lia) ⟨⟨aC,rfl⟩,rfl,rfl⟩
 obtain⟨_,rfl,rfl⟩:=hI;rw[y9]at e1;exact Q0 (x:=.ref j) (aF oM) e1 (by rw[bJ,bJ];lia)
theorem ZQ{F:Nat->Option Fn}(mO:F 294=aB jE){k g:Nat}{h:VH}(hg:g<=8):∃j h',run F (k+1) 294 [.int (g:Int)] h=.ok (.ref j) h'/\h'.get j=aB (.lst ((aS g).map iW))/\Gm h h'/\h.n<=j:=by
 let k0:VH:=⟨h.n,h.n,h.os⟩
 obtain⟨ρ',h',e1,hI⟩:=CB (nx:=aZ .bM (.tup [.int (g:Int)])) (tg:=aX (.one 2)) (b:=exs (run F k) Jj) (n:=g)
  (I:=λi ρ h1=>∃j x,ρ=[aB (.int (g:Int)),aB (.ref j),x]/\h1.get j=aB (.lst ((aS i).map iW))/\Gm k0 h1/\h.n<=j)
  (λi ρ h1 hi hI=>by
    obtain⟨j,x,rfl,g1,G,hj⟩:=hI;have l8:∀q∈aS i,q.length<=8:=λq hq=>by rw[(sM i q hq).1];lia
    have ll:(aS i).length<=256:=by rw[xh];exact gJ (vec (by decide) (show i<=8 by lia)) (by decide)
    let A0:List W:=((aS i).map (· ++ [(0:Int)])).map iW;let A1:List W:=((aS i).map (· ++ [(1:Int)])).map iW;let h2:=h1.new (.lst A0);let h3:=h2.new (.lst A1);let h4:=h3.new (.lst (A0++A1));let h5:=h4.new (.lst ((aS (i+1)).map iW));have hj1:=cR g1;have g2:h2.get j=aB (.lst ((aS i).map iW)):=(iB hj1).trans g1;have q0:h3.get h1.n=aB (.lst A0):=(iB (iO _)).trans fj;have q1:h3.get h2.n=aB (.lst A1):=fj;have q2:h4.get h3.n=aB (.lst (A0++A1)):=fj;refine⟨.int (i:Int),[aB (.int (g:Int)),aB (.ref j),aB (.int (i:Int))],[aB (.int (g:Int)),aB (.ref h4.n),aB (.int (i:Int))],h5,by rw[FZ (by lia),if_pos hi],rfl,?_,h4.n,_,rfl,fj,G.new.new.new.new,?_⟩;unfold Jj P6 P7;have ea:ev (run F k) (.op .add (.lc .seq (.var 1) (.one 0) 1 [] (.cst (.bl true)) (.op .add (.var 0) (.tup (.cons (.cst (.int (0))) .nil)))) (.lc .seq (.var 1) (.one 0) 1 [] (.cst (.bl true)) (.op .add (.var 0) (.tup (.cons (.cst (.int (1))) .nil))))) [aB (.int (g:Int)),aB (.ref j),aB (.int (i:Int))] h1=.ok (.ref h3.n) h4:=
     pS (Q3 rfl g1 l8 ll) (Q3 rfl g2 l8 ll) (CH q0 q1 (by simp only[A0,A1,bJ];lia))
    have es:ev (run F k) (.bi .Ex (.cons (.op .add (.lc .seq (.var 1) (.one 0) 1 [] (.cst (.bl true)) (.op .add (.var 0) (.tup (.cons (.cst (.int (0))) .nil)))) (.lc .seq (.var 1) (.one 0) 1 [] (.cst (.bl true)) (.op .add (.var 0) (.tup (.cons (.cst (.int (1))) .nil))))) .nil)) [aB (.int (g:Int)),aB (.ref j),aB (.int (i:Int))] h1=.ok (.ref h4.n) h5:=by
     rw[ev,aT ea cG,aD];show l9 [.ref h3.n] h4=_;have em:aP kW (A0++A1)=aB ((aS i).map (· ++ [(0:Int)])++(aS i).map (· ++ [(1:Int)])):=by show aP kW (((aS i).map (· ++ [(0:Int)])).map iW++((aS i).map (· ++ [(1:Int)])).map iW)=_;rw[<-ng];exact Q2 _
     simp only[l9,q2,em];rw[ZN (by lia),iE (QX (by lia)),ZM (by lia)];rfl
    exact(bf (cN es)).trans (by rw[exs];rfl);have:=G.le;have e0:k0.n=h.n:=rfl;show h.n<=h1.n+1+1+1;lia)
  (λρ h1 hI=>by rw[FZ (by lia),if_neg (jg _)])
  g 0 fuel [aB (.int (g:Int)),aB (.ref h.n),aC] (k0.new (.lst [.tup []])) (lH _) (show _<1000000 by lia) ⟨h.n,aC,rfl,fj,Gm.refl.new,aR _⟩
 obtain⟨j,x,rfl,g1,G,hj⟩:=hI;have eb:exs (run F k) jE.body [aB (.int (g:Int)),aC,aC] k0=.ok (.rt (.ref j)) h':=by refine(bf (cN (h1:=k0.new (.lst [.tup []])) (x:=.ref h.n) (fy (aT (xj cG rfl) cG) rfl))).trans ?_;refine(bf ((jJ (h1:=k0.new (.lst [.tup []])) (x:=.tup [.int (g:Int)]) (aT (aF (x:=.int (g:Int)) rfl) cG)).trans e1)).trans ?_;exact jS (gp (aF rfl))
 obtain⟨h2,e2,G2,g2⟩:=CG (h:=h) (h':=h') (w:=.ref j) (CD hj) G;refine⟨j,h2,?_,by rw[g2];exact g1,G2,hj⟩;rw[dF mO rfl,<-e2];exact jK (fin h) eb
end RF
namespace RF
open PySem L2
noncomputable abbrev bG(b:W)(m:Nat)(f:W)(c hd:Int)(x y:Option W):En:=[aB b,aB (.ref m),aB f,aB .aL,aB (.int c),aB (.int hd),x,y]
theorem ZR:oG=.seq (.set 7 (.idx (.var 6) (.var 4))) (.seq (.ite (.cmp .eq (.var 7) (.cst (.str (bA "s")))) (.seq (.ret Qd) .skip) .skip) (.seq wG (.seq (.set 4 (.op .add (.var 4) (.var 5))) .skip))):=rfl
theorem uH{cl:Call}{c:E}{a b:S}{ρ:En}{h h1:VH}(e:ev cl c ρ h=.ok (.bl true) h1):exs cl (.ite c a b) ρ h=exs cl a ρ h1:=by rw[exs,e,aD]
theorem pT{cl:Call}{c:E}{a b:S}{ρ:En}{h h1:VH}(e:ev cl c ρ h=.ok (.bl false) h1):exs cl (.ite c a b) ρ h=exs cl b ρ h1:=by rw[exs,e,aD]
theorem ie{cl:Call}{c:Cp}{ρ:En}{h:VH}{w:W}{x:Str}{r:Bool}(oM:ρ[7]?=aB (aB w))(e:aN c h w (.str x)=aB r):ev cl (.cmp c (.var 7) (.cst (.str x))) ρ h=.ok (.bl r) h:=by rw[ev,aF oM,aD,aV,aD,e];rfl
section
variable{cl:Call}{b f:W}{m:Nat}{c hd:Int}{r:Option W}{h:VH}
theorem CI{ρ:En}{w:W}{r1 r2 r3:Bool}(oM:ρ[7]?=aB (aB w))(e1:b9 h w (.str (bA "."))=aB r1)(e2:b9 h w (.str (bA "<"))=aB r2)(e3:b9 h w (.str (bA ">"))=aB r3):ev cl iM ρ h=.ok (.bl (r1|| (r2||r3))) h:=by
 unfold iM;have c1:=ie (cl:=cl) (c:=.eq) (h:=h) oM (r:=r1) (x:=bA ".") (by simp only[aN,e1]);have c2:=ie (cl:=cl) (c:=.eq) (h:=h) oM (r:=r2) (x:=bA "<") (by simp only[aN,e2]);have c3:=ie (cl:=cl) (c:=.eq) (h:=h) oM (r:=r3) (x:=bA ">") (by simp only[aN,e3]);rw[ev,c1,aD];cases r1 with
 |true=>rfl
 |false=>
  show ev cl (.or _ _) ρ h=_;rw[ev,c2,aD];cases r2 with|true=>rfl|false=>exact c3
theorem JW{x:Str}{d:Int}(e1:(.str x:W)=.str aG\/(.str x:W)=.str cu\/(.str x:W)=.str cz)(e:cj g9 (.inr x)=aB (.int d)) :
 exs cl wG (bG b m f c hd r (aB (.str x))) h=.ok (.nx (bG b m f c d r (aB (.str x)))) (h.new (.dk g9)):=by
 have ec:ev cl iM (bG b m f c hd r (aB (.str x))) h=.ok (.bl true) h:=by rcases e1 with e1|e1|e1;rw[e1];exact CI (w:=.str aG) (r1:=true) (r2:=false) (r3:=false) rfl ko mJ mK;rw[e1];exact CI (w:=.str cu) (r1:=false) (r2:=true) (r3:=false) rfl mG oO oQ;rw[e1];exact CI (w:=.str cz) (r1:=false) (r2:=false) (r3:=true) rfl mH oR oS
 have ed:ev cl (.idx rP (.var 7)) (bG b m f c hd r (aB (.str x))) h=.ok (.int d) (h.new (.dk g9)):=
  bP (x:=.ref h.n) (y:=.str x) Zw (aF rfl) (by
   unfold bF;simp only[Zx,e])
 unfold wG;rw[uH ec];exact(bf (cN ed)).trans (by rw[exs];rfl)
theorem ZT:exs cl wG (bG b m f c hd r (aB (.str sX))) h=.ok (.nx (bG b m f c hd r (aB (.str sX)))) h:=by have ec:ev cl iM (bG b m f c hd r (aB (.str sX))) h=.ok (.bl false) h:=CI (w:=.str sX) (r1:=false) (r2:=false) (r3:=false) rfl oN sH sI;unfold wG;rw[pT ec];exact(bf (ρ':=bG b m f c hd r (aB (.str sX))) (h':=h) ((pT (ie (w:=.str sX) (r:=false) rfl (by simp[aN]))).trans (by rw[exs]))).trans (by rw[exs])
theorem ZU{ls:List Int}{p q:Nat}(hp:p<ls.length)(g:h.get m=aB (.lst (ls.map .int))) :
 exs cl wG (bG b m f c hd r (aB (.tup [.int p,.int q]))) h=.ok (.nx (bG b m f c (if ls.getD p 0=q then -1 else 1) r (aB (.tup [.int p,.int q])))) (h.set m (.lst ((ls.set p (1-ls.getD p 0)).map .int))):=by
 have n1:b9 h (.tup [.int (p:Int),.int (q:Int)]) (.str (bA "."))=aB false:=Cu (by decide +kernel);have n2:b9 h (.tup [.int (p:Int),.int (q:Int)]) (.str (bA "<"))=aB false:=Cu (by decide +kernel);have n3:b9 h (.tup [.int (p:Int),.int (q:Int)]) (.str (bA ">"))=aB false:=Cu (by decide +kernel);have n4:b9 h (.tup [.int (p:Int),.int (q:Int)]) (.str (bA "x"))=aB false:=Cu (by decide +kernel);have i1:∀ρ:En,ρ[1]?=aB (aB (.ref m))->ρ[7]?=aB (aB (.tup [.int (p:Int),.int (q:Int)]))->ev cl (.idx (.var 1) (.idx (.var 7) (.cst (.int (0))))) ρ h=.ok (.int (ls.getD p 0)) h:=λρ h1 h7=>
  bP (x:=.ref m) (y:=.int (p:Int)) (aF h1) (bP (x:=.tup [.int p,.int q]) (aF h7) aV rfl) (by
   simp only[bF,g];exact QH hp)
 have ec:ev cl iM (bG b m f c hd r (aB (.tup [.int p,.int q]))) h=.ok (.bl false) h:=CI (w:=.tup [.int p,.int q]) (r1:=false) (r2:=false) (r3:=false) rfl n1 n2 n3;unfold wG;rw[pT ec];refine(bf (ρ':=bG b m f c (if ls.getD p 0=q then -1 else 1) r (aB (.tup [.int p,.int q]))) (h':=h.set m (.lst ((ls.set p (1-ls.getD p 0)).map .int))) ?_).trans (by rw[exs]);rw[uH (ie (w:=.tup [.int p,.int q]) (r:=true) rfl (by simp[aN,n4]))];unfold uh;have e5:ev cl (.op .sub (.cst (.int (1))) (.op .mul (.cst (.int (2))) (.bi .int (.cons (.cmp .eq (.idx (.var 1) (.idx (.var 7) (.cst (.int (0))))) (.idx (.var 7) (.cst (.int (1))))) .nil)))) (bG b m f c hd r (aB (.tup [.int p,.int q]))) h=.ok (.int (if ls.getD p 0=q then -1 else 1)) h:=by
  have ex:ev cl (.bi .int (.cons (.cmp .eq (.idx (.var 1) (.idx (.var 7) (.cst (.int (0))))) (.idx (.var 7) (.cst (.int (1))))) .nil)) (bG b m f c hd r (aB (.tup [.int p,.int q]))) h=.ok (.int (if ls.getD p 0=q then 1 else 0)) h:=by
   have e8:ev cl (.cmp .eq (.idx (.var 1) (.idx (.var 7) (.cst (.int (0))))) (.idx (.var 7) (.cst (.int (1))))) (bG b m f c hd r (aB (.tup [.int p,.int q]))) h=.ok (.bl (decide (ls.getD p 0=q))) h:=by rw[ev,i1 _ rfl rfl,aD,bP (x:=.tup [.int p,.int q]) (y:=.int 1) (z:=.int q) (aF rfl) aV rfl,aD];simp only[aN,fU];rfl
   rw[ev,aT e8 cG,aD];show Res.ok (W.int (if decide (ls.getD p 0=(q:Int))=true then 1 else 0)) h=_;by_cases z:ls.getD p 0=(q:Int)
   rw[if_pos z,if_pos (iE z)];rw[if_neg z,if_neg (by rw[gF z];simp)]
  refine pS (h1:=h) (h2:=h) (x:=.int 1) (y:=.int (2* (if ls.getD p 0=(q:Int)then 1 else 0))) aV (pS (h1:=h) (h2:=h) (x:=.int 2) (y:=.int (if ls.getD p 0=(q:Int)then 1 else 0)) aV ex ?_) ?_;show(Res.of ((if mW 2||mW (if ls.getD p 0=(q:Int)then(1:Int)else 0)then aB (2* (if ls.getD p 0=(q:Int)then(1:Int)else 0))else aC).map W.int) h)=_;rw[show mW 2=true from by decide,Bool.true_or];rfl;show Res.ok (W.int (1-2* (if ls.getD p 0=(q:Int)then(1:Int)else 0))) h=_;split<;>rfl
 refine(bf (cN e5)).trans ?_;show exs cl _ (bG b m f c (if ls.getD p 0=q then -1 else 1) r (aB (.tup [.int p,.int q]))) h=_;refine(bf (ρ':=bG b m f c (if ls.getD p 0=q then -1 else 1) r (aB (.tup [.int p,.int q]))) (h':=h.set m (.lst ((ls.set p (1-ls.getD p 0)).map .int))) ?_).trans (by rw[exs]);have en:ev cl (.cmp .ne (.idx (.var 7) (.cst (.int (0)))) (.var 3)) (bG b m f c (if ls.getD p 0=q then -1 else 1) r (aB (.tup [.int p,.int q]))) h=.ok (.bl true) h:=by rw[ev,bP (x:=.tup [.int p,.int q]) (y:=.int 0) (z:=.int p) (aF rfl) aV rfl,aD,aF (x:=.aL) rfl,aD];rfl
 rw[uH en];refine(bf (ρ':=bG b m f c (if ls.getD p 0=q then -1 else 1) r (aB (.tup [.int p,.int q]))) (h':=h.set m (.lst ((ls.set p (1-ls.getD p 0)).map .int))) ?_).trans (by rw[exs]);have ZV:ev cl (.op .sub (.cst (.int (1))) (.idx (.var 1) (.idx (.var 7) (.cst (.int (0)))))) (bG b m f c (if ls.getD p 0=q then -1 else 1) r (aB (.tup [.int p,.int q]))) h=.ok (.int (1-ls.getD p 0)) h:=pS (x:=.int 1) (y:=.int (ls.getD p 0)) aV (i1 _ rfl rfl) rfl;rw[exs,ZV,aD,aF (x:=.ref m) rfl,aD,bP (x:=.tup [.int p,.int q]) (y:=.int 0) (z:=.int p) (aF rfl) aV rfl,aD];have hx:iA (ls.map W.int).length (p:Int)=aB p:=QI (by rw[bJ];exact hp);simp only[g,hx,List.map_set]
end
section
variable{cl:Call}{b f:W}{m:Nat}{k0:VH}
theorem ZW{c hd wd:Int}{r:List W}{ls:List Int}{h:VH}{y:Option W}(ok:(r.length:Int)=wd/\ck wd (ls.length:Int) 0 r)(c0:0<=c)(c1:c<wd)(g:h.get m=aB (.lst (ls.map .int)))(hm:k0.n<=m)(G:Gm k0 h) :
 match bY (bK r c) hd ls with
 |none=>∃h2,exs cl oG (bG b m f c hd (aB (.tup r)) y) h=.ok (.rt (.ref h.n)) h2/\h2.get h.n=aB (.lst [.int c,iW ls,.aL,.bl true])/\Gm k0 h2/\k0.n<=h.n
 |some (d,t,l)=>∃h2,exs cl oG (bG b m f c hd (aB (.tup r)) y) h=.ok (.nx (bG b m f (c+d) d (aB (.tup r)) (aB (bK r c)))) h2/\h2.get m=aB (.lst (l.map .int))/\Gm k0 h2:=by
 obtain⟨_,hw⟩:=yD ok c0 c1;have e0:=QJ ok c0 c1;generalize bK r c=w at hw e0 ⊢;have s1:exs cl (.set 7 (.idx (.var 6) (.var 4))) (bG b m f c hd (aB (.tup r)) y) h=.ok (.nx (bG b m f c hd (aB (.tup r)) (aB w))) h:=cN (bP (x:=.tup r) (y:=.int c) (aF rfl) (aF rfl) e0);have no:b9 h w (.str sS)=aB false->exs cl (.ite (.cmp .eq (.var 7) (.cst (.str (bA "s")))) (.seq (.ret Qd) .skip) .skip) (bG b m f c hd (aB (.tup r)) (aB w)) h=.ok (.nx (bG b m f c hd (aB (.tup r)) (aB w))) h:=λe=>
  (pT (ie (c:=.eq) (r:=false) rfl (by simp only[aN,e]))).trans (by rw[exs])
 have tl:∀(d:Int)(h2:VH),exs cl (.seq (.set 4 (.op .add (.var 4) (.var 5))) .skip) (bG b m f c d (aB (.tup r)) (aB w)) h2=.ok (.nx (bG b m f (c+d) d (aB (.tup r)) (aB w))) h2:=λd h2=>
  (bf (cN (x:=.int (c+d)) (pS (x:=.int c) (y:=.int d) (aF rfl) (aF rfl) rfl))).trans (by rw[exs];rfl)
 have hmn:=cR g;have ZX:=G.le;rw[ZR,bf s1];rcases FD hw with⟨rfl,h3,h4⟩|⟨rfl,h3⟩|⟨rfl,h3⟩|rfl|rfl|⟨p,q,rfl,h3,h4,h5,h6⟩
 rw[FF];refine⟨h,?_,g,G⟩;rw[bf (no wU),bf ZT];exact tl hd h;rw[FG];refine⟨h.new (.dk g9),?_,(iB hmn).trans g,G.new⟩;rw[bf (no sJ),bf (JW (.inr (.inl rfl)) Zu)];exact tl (-1) _;rw[FH];refine⟨h.new (.dk g9),?_,(iB hmn).trans g,G.new⟩;rw[bf (no sL),bf (JW (.inr (.inr rfl)) Zv)];exact tl 1 _;rw[FI];refine⟨h.new (.dk g9),?_,(iB hmn).trans g,G.new⟩;rw[bf (no oU),bf (JW (.inl rfl) Zt)];exact tl 0 _;rw[FJ];refine⟨h.new (.lst [.int c,iW ls,.aL,.bl true]),?_,fj,G.new,ZX⟩;refine jS ?_;rw[uH (ie (c:=.eq) (w:=.str sS) (r:=true) rfl (by simp only[aN,wV]))];refine jS (gp ?_);exact fy (aT (aF (x:=.int c) rfl) (aT (QZ (x:=.ref m) (aF rfl) (zdt g)) (aT aV (aT aV cG)))) rfl;rw[FL];refine⟨h.set m (.lst ((ls.set p (1-ls.getD p 0)).map .int)),?_,yz g,G.set hm hmn⟩;rw[bf (no (Cu (by decide +kernel))),bf (ZU (by lia) g)];exact tl _ _
theorem Q4{wd:Int}:∀(rs:List (List W)) (c hd:Int) (ls:List Int) (x y:Option W) (h:VH),Cq wd (ls.length:Int) rs->0<=c->c<wd->-1<=hd->hd<=1->cD ls->h.get m=aB (.lst (ls.map .int))->k0.n<=m->Gm k0 h->
 if(aQ rs c hd ls).st then ∃i h2,forL (aX (.one 6)) (exs cl oG) (rs.map .tup) (bG b m f c hd x y) h=.ok (.rt (.ref i)) h2/\h2.get i=aB (.lst [.int (cy c (aQ rs c hd ls).cs),iW (aQ rs c hd ls).ls,.aL,.bl true])/\Gm k0 h2/\k0.n<=i
 else ∃hd' x' y' h2,forL (aX (.one 6)) (exs cl oG) (rs.map .tup) (bG b m f c hd x y) h=.ok (.nx (bG b m f (cy c (aQ rs c hd ls).cs) hd' x' y')) h2/\h2.get m=aB (.lst ((aQ rs c hd ls).ls.map .int))/\Gm k0 h2
 |[],c,hd,ls,x,y,h,_,_,_,_,_,_,g,_,G=>by
  rw[if_neg (by simp[aQ])];exact⟨hd,x,y,h,rfl,g,G⟩
 |r::rs,c,hd,ls,x,y,h,ok,c0,c1,h1,h2,bi,g,hm,G=>by
  have eb:=ZW (cl:=cl) (b:=b) (f:=f) (hd:=hd) (y:=y) (ok r dP) c0 c1 g hm G;obtain⟨_,hw⟩:=yD (ok r dP) c0 c1;cases e:bY (bK r c) hd ls with
  |none=>
   rw[e]at eb;obtain⟨h3,e3,g3,G3,l3⟩:=eb;rw[QE e,if_pos rfl];refine⟨h.n,h3,?_,g3,G3,l3⟩;simp only[dw,forL,aX,mT,kC,e3,aD]
  |some q=>
   obtain⟨d,t,l'⟩:=q;rw[e]at eb;obtain⟨h3,e3,g3,G3⟩:=eb;obtain⟨a1,a2,a3,a4,a5,a6,a7⟩:=JA hw c0 c1 h1 h2 bi e;have ih:=Q4 rs (c+d) d l' (aB (.tup r)) (aB (bK r c)) h3 (λr hr=>by rw[a5];exact ok r (dj _ hr)) a3 a4 a1 a2 a6 g3 hm G3;rw[QF e];have ef:forL (aX (.one 6)) (exs cl oG) ((r::rs).map .tup) (bG b m f c hd x y) h=forL (aX (.one 6)) (exs cl oG) (rs.map .tup) (bG b m f (c+d) d (aB (.tup r)) (aB (bK r c))) h3:=by simp only[dw,forL,aX,mT,kC,e3,aD]
   rw[ef];exact ih
end
theorem ZY{w:W}{n:Int}(h:door w n):∃a b,w=.tup [a,b]:=by unfold door at h;split at h;exact⟨_,_,rfl⟩;cases h
theorem ZZ{F:Nat->Option Fn}(gD:F 207=aB iL){k:Nat}{h:VH}{B:Bd}{ls:List Int}{f:Nat}{c:Int}(b:B.Ok)(hf:B.fd[f]?=aB (.int c))(c0:0<=c)(c1:c<B.wd)(hl:(ls.length:Int)=B.gr)(bi:cD ls) :
 ∃i h' nm,run F (k+1) 207 [B.w,iW ls,.int f,.aL] h=.ok (.ref i) h'/\h'.get i=aB (.lst [.int (cy c (aQ B.rows c 0 ls).cs),iW (aQ B.rows c 0 ls).ls,nm,.bl (aQ B.rows c 0 ls).st])/\Gm h h'/\h.n<=i:=by
 let k0:VH:=⟨h.n,h.n,h.os⟩
 let k1:=k0.new (.lst (ls.map .int));have hr:Cq B.wd (ls.length:Int) B.rows:=by rw[hl];exact b.r2
 have ok:=FN B.rows c 0 ls hr c0 c1 (by decide) (by decide) bi;have hz:(B.rows.map W.tup).length<1000000:=by have:=b.r1;rw[bJ];lia
 have el:=Q4 (cl:=run F k) (b:=B.w) (f:=.int f) (m:=h.n) (k0:=k0) B.rows c 0 ls aC aC k1 hr c0 c1 (by decide) (by decide) bi fj (aR _) Gm.refl.new;have pre:∀R,exs (run F k) (.seq (.«for» .seq (.idx (.var 0) (.cst (.int (2)))) (.one 6) oG) (.seq (.ret (.lst (.cons (.var 4) (.cons (.bi .tuple (.cons (.var 1) .nil)) (.cons (.idx (.idx (.idx (.var 0) (.cst (.int (4)))) (.var 4)) (.cst (.int (0)))) (.cons (.cst (.bl false)) .nil)))))) .skip)) (bG B.w h.n (.int f) c 0 aC aC) k1=R->
  exs (run F k) iL.body [aB B.w,aB (iW ls),aB (.int f),aB .aL,aC,aC,aC,aC] k0=R:=λR e=>by
  refine(bf (cN (h1:=k0) (x:=.int c) (bP (x:=.tup B.fd) (y:=.int f) (bP (x:=B.w) (aF rfl) aV rfl) (aF rfl) (pG hf)))).trans ?_;refine(bf (cN (h1:=k1) (x:=.ref h.n) (CF (x:=iW ls) (aF rfl) rfl))).trans ?_;exact(bf (cN (h1:=k1) (x:=.int 0) aV)).trans e
 have ef:exs (run F k) (.«for» .seq (.idx (.var 0) (.cst (.int (2)))) (.one 6) oG) (bG B.w h.n (.int f) c 0 aC aC) k1=forL (aX (.one 6)) (exs (run F k) oG) (B.rows.map .tup) (bG B.w h.n (.int f) c 0 aC aC) k1:=by rw[jJ (bP (x:=B.w) (z:=.tup (B.rows.map .tup)) (aF rfl) aV rfl)];exact yw hz
 cases z:(aQ B.rows c 0 ls).st with
 |true=>
  rw[if_pos z]at el;obtain⟨i,h2,e2,g2,G2,l2⟩:=el;obtain⟨h3,e3,G3,g3⟩:=CG (h:=h) (h':=h2) (w:=.ref i) (CD l2) G2;refine⟨i,h3,.aL,?_,by rw[g3];exact g2,G3,l2⟩;rw[dF gD rfl,<-e3];exact jK (fin h) (pre _ (jS (ef.trans e2)))
 |false=>
  rw[if_neg (by rw[z];simp)]at el;obtain⟨hd',x',y',h2,e2,g2,G2⟩:=el;obtain⟨d1,d2⟩:=b.door ok.c4.1 ok.c4.2;obtain⟨nm,cw,hp⟩:=ZY d2;rw[hp]at d1;let h3:=h2.new (.lst [.int (cy c (aQ B.rows c 0 ls).cs),iW (aQ B.rows c 0 ls).ls,nm,.bl false]);have l2:h.n<=h2.n:=G2.le;obtain⟨h4,e4,G4,g4⟩:=CG (h:=h) (h':=h3) (w:=.ref h2.n) (CD l2) G2.new;refine⟨h2.n,h4,nm,?_,by rw[g4];exact fj,G4,l2⟩;rw[dF gD rfl,<-e4];refine jK (fin h) (pre _ ((bf (ef.trans e2)).trans (jS (gp ?_))));exact fy (h1:=h2) (aT (aF (x:=.int (cy c (aQ B.rows c 0 ls).cs)) rfl) (aT (QZ (x:=.ref h.n) (aF rfl) (zdt g2)) (aT (h1:=h2) (bP (x:=.tup [nm,cw]) (bP (x:=.tup B.dr) (y:=.int (cy c (aQ B.rows c 0 ls).cs)) (bP (x:=B.w) (aF rfl) aV rfl) (aF rfl) d1) aV rfl) (aT aV cG)))) rfl
structure kr(F:Nat->Option Fn):Prop extends CoreD F where
 Z0:F 23=aB wB
 JX:F 103=aB jC
 JY:F 104=aB lg
 JZ:F 129=aB oE
noncomputable def sN:S:=(.ite (.and (.cmp .eq (.var 2) (.cst (.int (1)))) (.cmp .ne (.var 5) (.cst (.str aG)))) (.seq (.ret (.cst (.str aG))) .skip) .skip)
noncomputable def sO:S:=(.seq (.ite jI (.seq (.ret sE) .skip) .skip) (.seq sN (.seq (.ret (.var 5)) .skip)))
section
variable{F:Nat->Option Fn}(C:kr F)
include C
theorem Z1{k:Nat}{h:VH}{d c b:Nat}{co wd g:Int}(D:Dk h d c b)(hb:b+5<1000000000)(h0:0<=co)(h1:co<wd)(g0:0<=g)(g1:g<=8) :
 ∃w h',run F (k+4) 103 [.ref d,.int co,.int wd,.int g] h=.ok w h'/\fJ w co wd g=true/\Dk h' d c (b+5)/\bO h h' d c:=by
 rw[dF C.JX rfl];have D0:Dk ⟨h.n,h.n,h.os⟩ d c b:=D.lo;have tail:∀(w5:W)(dI:Int)(h3:VH),Raw g w5->∃w h4,exs (run F (k+3)) sO
  [aB (.ref d),aB (.int co),aB (.int wd),aB (.int g),aB (.int dI),aB w5] h3=.ok (.rt w) h4/\fJ w co wd g=true/\(h4=h3\/∃o,h4=h3.new o):=by
  intro w5 dI h3 R;have two:mW 2=true:=Fy (by lia) (by lia);have i0:dG [W.str cz,.str cu,.str aG] 0=aB (.str cz):=rfl;have i1:dG [W.str cz,.str cu,.str aG] 1=aB (.str cu):=rfl;have i2:dG [W.str cz,.str cu,.str aG] 2=aB (.str aG):=rfl;have fC:∀(b1 b2:Bool),lW h3 w5 (.tup [.str aG,.str cz])=aB b1->lW h3 w5 (.tup [.str aG,.str cu])=aB b2->(co≠0\/b1=true)->(co≠wd-1\/b2=true)->fJ w5 co wd g=true->∃w h4,exs (run F (k+3)) sO
   [aB (.ref d),aB (.int co),aB (.int wd),aB (.int g),aB (.int dI),aB w5] h3=.ok (.rt w) h4/\fJ w co wd g=true/\(h4=h3\/∃o,h4=h3.new o):=by
   intro b1 b2 n1 n2 o1 o2 hm;have cond:ev (run F (k+3)) jI [aB (.ref d),aB (.int co),aB (.int wd),aB (.int g),aB (.int dI),aB w5] h3=.ok (.bl false) h3:=by by_cases c0:co=0<;>by_cases c1:co=wd-1<;>simp[c0,c1]at o1 o2<;>simp_all [jI,ev,aN,fU,eW,dR]
   obtain⟨bq,hq⟩:∃bq,b9 h3 w5 (.str aG)=aB bq:=by
    cases R with|dot=>exact⟨_,mY (by decide +kernel) (by decide +kernel)⟩|lt=>exact⟨_,mY (by decide +kernel) (by decide +kernel)⟩|gt=>exact⟨_,mY (by decide +kernel) (by decide +kernel)⟩|x=>exact⟨_,mY (by decide +kernel) (by decide +kernel)⟩|rk a0 a1 b0 b1=>exact⟨_,mY rfl (by decide +kernel)⟩
   by_cases w1:wd=1;cases bq with|true=>exact⟨w5,h3,by simp only[sO,exs,cond,aD,sN];simp[ev,aN,fU,w1,hq],hm,.inl rfl⟩|false=>exact⟨.str aG,h3,by simp only[sO,exs,cond,aD,sN];simp[ev,aN,fU,w1,hq],Jz,.inl rfl⟩
   exact⟨w5,h3,by simp only[sO,exs,cond,aD,sN];simp[ev,aN,fU,w1],hm,.inl rfl⟩
  have dS:∀(b1 b2:Bool),lW h3 w5 (.tup [.str aG,.str cz])=aB b1->lW h3 w5 (.tup [.str aG,.str cu])=aB b2->((co=0/\b1=false)\/(co=wd-1/\b2=false))->∃w h4,exs (run F (k+3)) sO
   [aB (.ref d),aB (.int co),aB (.int wd),aB (.int g),aB (.int dI),aB w5] h3=.ok (.rt w) h4/\fJ w co wd g=true/\(h4=h3\/∃o,h4=h3.new o):=by
   intro b1 b2 n1 n2 o;have cond:ev (run F (k+3)) jI [aB (.ref d),aB (.int co),aB (.int wd),aB (.int g),aB (.int dI),aB w5] h3=.ok (.bl true) h3:=by by_cases c0:co=0<;>by_cases c1:co=wd-1<;>cases b1<;>cases b2<;>simp_all [jI,ev,aN,fU,eW,dR]
   have r1:∀(x:Str)(j:Int),(if(2:Int)< (if 0<co then 1 else 0)+2* (if wd=1 then 1 else 0)then 2 else(if 0<co then 1 else 0)+2* (if wd=1 then 1 else 0))=j->dG [W.str cz,.str cu,.str aG] j=aB (.str x)->ev (run F (k+3)) sE [aB (.ref d),aB (.int co),aB (.int wd),aB (.int g),aB (.int dI),aB w5] h3=.ok (.str x) (h3.new (.lst [W.str cz,.str cu,.str aG])):=by intro x j hj ha;have hg:=fj (h:=h3) (o:=.lst [W.str cz,.str cu,.str aG]);by_cases c0:0<co<;>by_cases c1:wd=1<;>simp[c0,c1]at hj<;>subst hj<;>simp[sE,ev,aN,fE,fU,eW,dR,two,gT,kg,ki,bF,hg,ha,c0,c1]
   have fin:∀x:Str,ev (run F (k+3)) sE [aB (.ref d),aB (.int co),aB (.int wd),aB (.int g),aB (.int dI),aB w5] h3=.ok (.str x) (h3.new (.lst [W.str cz,.str cu,.str aG]))->fJ (.str x) co wd g=true->
    ∃w h4,exs (run F (k+3)) sO [aB (.ref d),aB (.int co),aB (.int wd),aB (.int g),aB (.int dI),aB w5] h3=.ok (.rt w) h4/\fJ w co wd g=true/\(h4=h3\/∃o,h4=h3.new o):=
    λx e hm=>⟨.str x,h3.new (.lst [W.str cz,.str cu,.str aG]),by simp only[sO,exs,cond,aD,e],hm,.inr ⟨_,rfl⟩⟩
   by_cases w1:wd=1;exact fin aG (r1 aG 2 (by rw[if_neg (by lia:¬0<co)];simp[w1]) i2) Jz;by_cases c0:co=0;exact fin cz (r1 cz 0 (by rw[if_neg (by lia:¬0<co)];simp[w1]) i0) (Qx (by lia));exact fin cu (r1 cu 1 (by rw[if_pos (by lia:0<co)];simp[w1]) i1) (Qw (by lia))
  have d1:(aG==cu)=false:=by decide +kernel
  have d2:(cz==cu)=false:=by decide +kernel
  have d3:(aG==cz)=false:=by decide +kernel
  have d4:(cu==cz)=false:=by decide +kernel
  have d5:(aG==sX)=false:=by decide +kernel
  have d6:(cz==sX)=false:=by decide +kernel
  have d7:(cu==sX)=false:=by decide +kernel
  have k1:PyData.strOk aG=true:=by decide +kernel
  have k2:PyData.strOk cu=true:=by decide +kernel
  have k3:PyData.strOk cz=true:=by decide +kernel
  have k4:PyData.strOk sX=true:=by decide +kernel
  cases R with
  |dot=>exact fC true true (by rw[lF k1 k1 k3];simp) (by rw[lF k1 k1 k2];simp) (.inr rfl) (.inr rfl) Jz
  |lt=>
   by_cases c0:co=0;exact dS false true (by rw[lF k2 k1 k3,d1,d2];rfl) (by rw[lF k2 k1 k2];simp) (.inl ⟨c0,rfl⟩);exact fC false true (by rw[lF k2 k1 k3,d1,d2];rfl) (by rw[lF k2 k1 k2];simp) (.inl c0) (.inr rfl) (Qw (by lia))
  |gt=>
   by_cases c0:co=wd-1;exact dS true false (by rw[lF k3 k1 k3];simp) (by rw[lF k3 k1 k2,d3,d4];rfl) (.inr ⟨c0,rfl⟩);exact fC true false (by rw[lF k3 k1 k3];simp) (by rw[lF k3 k1 k2,d3,d4];rfl) (.inr rfl) (.inl c0) (Qx (by lia))
  |x=>
   by_cases c0:co=0\/co=wd-1;exact dS false false (by rw[lF k4 k1 k3,d5,d6];rfl) (by rw[lF k4 k1 k2,d5,d7];rfl) (c0.elim (λz=>.inl ⟨z,rfl⟩) λz=>.inr ⟨z,rfl⟩);exact fC false false (by rw[lF k4 k1 k3,d5,d6];rfl) (by rw[lF k4 k1 k2,d5,d7];rfl) (.inl (by lia)) (.inl (by lia)) (Co (by lia) (by lia))
  |rk a0 a1 b0 b1=>
   by_cases c0:co=0\/co=wd-1;exact dS false false (FA k1 k3) (FA k1 k2) (c0.elim (λz=>.inl ⟨z,rfl⟩) λz=>.inr ⟨z,rfl⟩);exact fC false false (FA k1 k3) (FA k1 k2) (.inl (by lia)) (.inl (by lia)) (Zg a0 a1 b0 b1 (by lia) (by lia))
 obtain⟨dI,iN,e1,l0,l1,D1,K1⟩:=take C.toCoreD (k:=k) (m:=10) D0 (by lia) (by lia) (by lia);have done:∀(w5:W)(h3:VH),Raw g w5->Dk h3 d c (b+5)->bO ⟨h.n,h.n,h.os⟩ h3 d c->exs (run F (k+3)) jC.body [aB (.ref d),aB (.int co),aB (.int wd),aB (.int g),aC,aC] ⟨h.n,h.n,h.os⟩=exs (run F (k+3)) sO [aB (.ref d),aB (.int co),aB (.int wd),aB (.int g),aB (.int dI),aB w5] h3->
  ∃w h',fin h (exs (run F (k+3)) jC.body [aB (.ref d),aB (.int co),aB (.int wd),aB (.int g),aC,aC] ⟨h.n,h.n,h.os⟩)=.ok w h'/\fJ w co wd g=true/\Dk h' d c (b+5)/\bO h h' d c:=by
  intro w5 h3 R D3 K3 e;obtain⟨w,h4,e4,hm,hh⟩:=tail w5 dI h3 R;have D4:Dk h4 d c (b+5)/\bO ⟨h.n,h.n,h.os⟩ h4 d c:=by rcases hh with rfl|⟨o,rfl⟩;exact⟨D3,K3⟩;exact⟨D3.new,K3.new⟩
  obtain⟨h5,e5,D5,K5⟩:=wM (cl:=run F (k+3)) (fl:=.nx []) (e.trans e4) (.inr ⟨b,D⟩) D4.1 D4.2;exact⟨w,h5,e5,hm,D5,K5⟩
 have Q5:=fj (h:=iN) (o:=.lst [W.str aG,.str cu,.str cz,.str sX,.str aG,.str aG]);have two:∀(x:Str)(j:Int),(if(5:Int)<dI then 5 else dI)=j->dG [W.str aG,.str cu,.str cz,.str sX,.str aG,.str aG] j=aB (.str x)->∀rest:S,exs (run F (k+3)) (.seq (.set 4 (.call 5 (.cons (.var 0) (.cons (.cst (.int (10))) .nil)))) (.seq (.set 5 (.idx (.lst (.cons (.cst (.str aG)) (.cons (.cst (.str cu)) (.cons (.cst (.str cz)) (.cons (.cst (.str sX)) (.cons (.cst (.str aG)) (.cons (.cst (.str aG)) .nil))))))) (.bi .min (.cons (.var 4) (.cons (.cst (.int (5))) .nil))))) rest)) [aB (.ref d),aB (.int co),aB (.int wd),aB (.int g),aC,aC] ⟨h.n,h.n,h.os⟩ =
  exs (run F (k+3)) rest [aB (.ref d),aB (.int co),aB (.int wd),aB (.int g),aB (.int dI),aB (.str x)] (iN.new (.lst [W.str aG,.str cu,.str cz,.str sX,.str aG,.str aG])):=by
  intro x j hj ha rest;refine(bf (ρ':=[aB (.ref d),aB (.int co),aB (.int wd),aB (.int g),aB (.int dI),aC]) (h':=iN) (by simp[exs,ev,e1])).trans ?_;refine bf ?_;by_cases q:(5:Int)<dI;rw[if_pos q]at hj;subst hj;simp[exs,ev,gT,ki,q,bF,Q5,ha];rw[if_neg q]at hj;subst hj;simp[exs,ev,gT,ki,q,bF,Q5,ha]
 have low:∀(x:Str),dI<=3->dG [W.str aG,.str cu,.str cz,.str sX,.str aG,.str aG] dI=aB (.str x)->Raw g (.str x)->_:=λx hl ha R=>done (.str x) (iN.new (.lst [W.str aG,.str cu,.str cz,.str sX,.str aG,.str aG])) R (D1.new.mono (by lia)) K1.new (by
  refine(two x dI (if_neg (by lia)) ha _).trans ?_;have n1:¬(4<dI):=by lia
  have n2:¬(dI=4):=by lia
  refine(bf (ρ':=[aB (.ref d),aB (.int co),aB (.int wd),aB (.int g),aB (.int dI),aB (.str x)]) (h':=iN.new (.lst [W.str aG,.str cu,.str cz,.str sX,.str aG,.str aG])) (by simp[exs,ev,aN,fE,n1])).trans ?_;refine(bf (ρ':=[aB (.ref d),aB (.int co),aB (.int wd),aB (.int g),aB (.int dI),aB (.str x)]) (h':=iN.new (.lst [W.str aG,.str cu,.str cz,.str sX,.str aG,.str aG])) (by simp[exs,ev,aN,fU,n2])).trans ?_;rfl)
 by_cases l4:dI<=3;have:dI=0\/dI=1\/dI=2\/dI=3:=by lia
 rcases this with z|z|z|z;exact low aG l4 (by rw[z];rfl) .dot;exact low cu l4 (by rw[z];rfl) .lt;exact low cz l4 (by rw[z];rfl) .gt;exact low sX l4 (by rw[z];rfl) .x;by_cases l5:dI=4
 ·-- a blind place,or nothing
  obtain⟨r4,h4,e4,_,_,D4,K4⟩:=take C.toCoreD (k:=k) (m:=4) (D1.new (o:=.lst [W.str aG,.str cu,.str cz,.str sX,.str aG,.str aG])) (by lia) (by lia) (by lia);have n1:¬(4<dI):=by lia
  have s3:∀rest:S,exs (run F (k+3)) (.seq (.ite (.and (.cmp .gt (.var 4) (.cst (.int (4)))) (.cmp .gt (.var 3) (.cst (.int (0))))) (.seq (.set 5 (.tup (.cons (.call 5 (.cons (.var 0) (.cons (.var 3) .nil))) (.cons (.call 5 (.cons (.var 0) (.cons (.cst (.int (2))) .nil))) .nil)))) .skip) .skip) rest) [aB (.ref d),aB (.int co),aB (.int wd),aB (.int g),aB (.int dI),aB (.str aG)] (iN.new (.lst [W.str aG,.str cu,.str cz,.str sX,.str aG,.str aG]))=exs (run F (k+3)) rest [aB (.ref d),aB (.int co),aB (.int wd),aB (.int g),aB (.int dI),aB (.str aG)] (iN.new (.lst [W.str aG,.str cu,.str cz,.str sX,.str aG,.str aG])):=λrest=>bf (by simp[exs,ev,aN,fE,n1]);by_cases r0:r4=0;obtain⟨h5,e5,D5,K5⟩:=wM (cl:=run F (k+3)) (fl:=.nx []) (w:=.str sS) (body:=jC.body) (ρ:=[aB (.ref d),aB (.int co),aB (.int wd),aB (.int g),aC,aC]) (F:=F) (k:=k+3) (h:=h) (h':=h4) (b:=b+5) ((two aG 4 (by rw[l5];rfl) rfl _).trans ((s3 _).trans (jS (by simp[exs,ev,aN,fU,l5,e4,r0])))) (.inr ⟨b,D⟩) (D4.mono (by lia)) (K1.new.trans K4);exact⟨_,h5,e5,Cn,D5,K5⟩;exact done (.str aG) h4 .dot (D4.mono (by lia)) (K1.new.trans K4) ((two aG 4 (by rw[l5];rfl) rfl _).trans ((s3 _).trans (bf (by simp[exs,ev,aN,fU,l5,e4,r0]))))
 ·-- a mF,if there are groups
  have n1:4<dI:=by lia
  have n2:¬(dI=4):=by lia
  have ha:∃j:Int,(if(5:Int)<dI then 5 else dI)=j/\dG [W.str aG,.str cu,.str cz,.str sX,.str aG,.str aG] j=aB (.str aG):=⟨5,by split<;>lia,rfl⟩
  obtain⟨j,hj,ha⟩:=ha;by_cases hg:0<g;obtain⟨ra,h4,e4,a0,a1,D4,K4⟩:=take C.toCoreD (k:=k) (m:=g) (D1.new (o:=.lst [W.str aG,.str cu,.str cz,.str sX,.str aG,.str aG])) (by lia) hg (by lia);obtain⟨rb,h5,e5,b0,b1,D5,K5⟩:=take C.toCoreD (k:=k) (m:=2) D4 (by lia) (by lia) (by lia);exact done (.tup [.int ra,.int rb]) h5 (.rk a0 a1 b0 b1) (D5.mono (by lia)) ((K1.new.trans K4).trans K5) ((two aG j hj ha _).trans ((bf (ρ':=[aB (.ref d),aB (.int co),aB (.int wd),aB (.int g),aB (.int dI),aB (.tup [.int ra,.int rb])]) (h':=h5) (by simp[exs,ev,aN,fE,n1,hg,e4,e5])).trans (bf (by simp[exs,ev,aN,fU,n2]))));exact done (.str aG) (iN.new (.lst [W.str aG,.str cu,.str cz,.str sX,.str aG,.str aG])) .dot (D1.new.mono (by lia)) K1.new ((two aG j hj ha _).trans ((bf (ρ':=[aB (.ref d),aB (.int co),aB (.int wd),aB (.int g),aB (.int dI),aB (.str aG)]) (h':=iN.new (.lst [W.str aG,.str cu,.str cz,.str sX,.str aG,.str aG])) (by simp[exs,ev,aN,fE,n1,hg])).trans (bf (by simp[exs,ev,aN,fU,n2]))))
theorem Q6{k:Nat}{h:VH}{d c b:Nat}{wd:Nat}{g:Int}(D:Dk h d c b)(hb:b+200<1000000000)(h1:wd<=40)(g0:0<=g)(g1:g<=8) :
 ∃ws h',run F (k+5) 104 [.ref d,.int wd,.int g] h=.ok (.tup ws) h'/\ws.length=wd/\ck wd g 0 ws/\Dk h' d c (b+200)/\bO h h' d c:=by
 rw[dF C.JY rfl];have D0:Dk ⟨h.n,h.n,h.os⟩ d c b:=D.lo;obtain⟨ws,h2,e2,p2,l2,D2,K2⟩:=sG (cl:=run F (k+4)) (P:=λi w=>fJ w i wd g) (e:=Fb) (tl:=[aB (.ref d),aB (.int g),aB (.int wd)]) (m:=5) (lim:=wd) (λi h b h0 hl D hb=>by
  obtain⟨w,h',e,a1,a2,a3⟩:=Z1 C (k:=k) (co:=i) (wd:=wd) (g:=g) D hb h0 hl g0 g1;exact⟨w,h',by simp[Fb,ev,e],a1,a2,a3⟩) wd 0 aC ⟨h.n,h.n,h.os⟩ b (by lia) (by lia) D0 (by lia)
 have e3:=wN (cl:=run F (k+4)) (a:=.cons (.var 1) .nil) (ρ:=[aB (.ref d),aB (.int wd),aB (.int g)]) (h:=⟨h.n,h.n,h.os⟩) (ow:=1) (ix:=[0,2,1]) (e:=Fb) (by simp[ev]) (by lia) e2 (by lia);obtain⟨h5,e5,D5,K5⟩:=wM (cl:=run F (k+4)) (fl:=.nx []) (w:=.tup ws) (body:=lg.body) (ρ:=[aB (.ref d),aB (.int wd),aB (.int g)]) (F:=F) (k:=k+4) (h:=h) (h':=h2.new (.lst ws)) (by simp only[lg,exs,e3,aD]) (.inr ⟨b,D⟩) (D2.new.mono (show _<=b+200 by lia)) K2.new;exact⟨ws,h5,e5,l2,QA p2,D5,K5⟩
theorem Q7{k:Nat}{h:VH}{d c b:Nat}{nf:Int}(D:Dk h d c b)(hb:b+5<1000000000)(n0:1<=nf)(n1:nf<=4) :
 ∃w h',run F (k+4) 23 [.ref d,.int nf] h=.ok w h'/\door w nf=true/\Dk h' d c (b+5)/\bO h h' d c:=by
 rw[dF C.Z0 rfl];have D0:Dk ⟨h.n,h.n,h.os⟩ d c b:=D.lo;obtain⟨r1,h1,e1,a1,b1,D1,K1⟩:=take C.toCoreD (k:=k) (m:=3) D0 (by lia) (by lia) (by lia);obtain⟨r2,h2,e2,a2,b2,D2,K2⟩:=take C.toCoreD (k:=k) (m:=100) D1 (by lia) (by lia) (by lia);have hg:=fj (h:=h2) (o:=.lst [.int r1,.int r2]);obtain⟨r3,h3,e3,a3,b3,D3,K3⟩:=take C.toCoreD (k:=k) (m:=4) (D2.new (o:=.lst [.int r1,.int r2])) (by lia) (by lia) (by lia);obtain⟨r4,h4,e4,a4,b4,D4,K4⟩:=take C.toCoreD (k:=k) (m:=nf) D3 (by lia) (by lia) (by lia);obtain⟨r5,h5,e5,a5,b5,D5,K5⟩:=take C.toCoreD (k:=k) (m:=8) D4 (by lia) (by lia) (by lia);obtain⟨_,ns,cells,p,q,gd,gc,_⟩:=D2;have Q8:h3.get h2.n=aB (.lst [.int r1,.int r2]):=K3.get _ _ (ku (cR gd)) (ku (cR gc)) hg;have KK:bO ⟨h.n,h.n,h.os⟩ h5 d c:=((((K1.trans K2).new (o:=.lst [.int r1,.int r2])).trans K3).trans K4).trans K5;have nm:∃x:Int,0<=x/\x<=99/\exs (run F (k+3)) (.set 2 (.idx (.lst (.cons (.call 5 (.cons (.var 0) (.cons (.cst (.int (3))) .nil))) (.cons (.call 5 (.cons (.var 0) (.cons (.cst (.int (100))) .nil))) .nil))) (.bi .int (.cons (.cmp .eq (.call 5 (.cons (.var 0) (.cons (.cst (.int (4))) .nil))) (.cst (.int (0)))) .nil)))) [aB (.ref d),aB (.int nf),aC,aC] ⟨h.n,h.n,h.os⟩=.ok (.nx [aB (.ref d),aB (.int nf),aB (.int x),aC]) h3:=by have i0:dG [W.int r1,.int r2] 0=aB (.int r1):=rfl;have i1:dG [W.int r1,.int r2] 1=aB (.int r2):=rfl;by_cases z:r3=0;exact⟨r2,a2,by lia,by simp[exs,ev,e1,e2,e3,aN,fU,z,gT,kg,bF,Q8,i1]⟩;exact⟨r1,a1,by lia,by simp[exs,ev,e1,e2,e3,aN,fU,z,gT,kg,bF,Q8,i0]⟩
 obtain⟨x,x0,x1,ex⟩:=nm;have e6:exs (run F (k+3)) (.set 3 (.call 5 (.cons (.var 0) (.cons (.var 1) .nil)))) [aB (.ref d),aB (.int nf),aB (.int x),aC] h3=.ok (.nx [aB (.ref d),aB (.int nf),aB (.int x),aB (.int r4)]) h4:=by simp[exs,ev,e4]
 have hd:∀w:W,w=.tup [.int x,.aL]\/w=.tup [.int x,.int r4]->door w nf=true:=by
  intro w hw;rcases hw with rfl|rfl
  simp[door,within,yx,dJ,x0,x1];simp only[door,within,yx,dJ,bE,eE,Bool.false_or];lia
 have body:∃w,exs (run F (k+3)) wB.body [aB (.ref d),aB (.int nf),aC,aC] ⟨h.n,h.n,h.os⟩=.ok (.rt w) h5/\door w nf=true:=by by_cases z:r5=0;exact⟨.tup [.int x,.aL],(bf ex).trans ((bf e6).trans (by simp[exs,ev,e5,aN,fU,z])),hd _ (.inl rfl)⟩;exact⟨.tup [.int x,.int r4],(bf ex).trans ((bf e6).trans (by simp[exs,ev,e5,aN,fU,z])),hd _ (.inr rfl)⟩
 obtain⟨w,eb,hw⟩:=body;obtain⟨h6,e7,D6,K6⟩:=wM (cl:=run F (k+3)) (fl:=.nx []) eb (.inr ⟨b,D⟩) (D5.mono (show _<=b+5 by lia)) KK;exact⟨w,h6,e7,hw,D6,K6⟩
theorem Z2{k:Nat}{d c wd n b:Nat}{g:Int}{h:VH}{x:Option W}(D:Dk h d c b)(hb:b+200*n<1000000000)(h1:wd<=40)(g0:0<=g)(g1:g<=8) :
 ∃(rs:List (List W)) (h':VH),ja (aX (.one 0)) (λ_ h=>.ok (.bl true) h) (ev (run F (k+5)) (.call 104 (.cons (.var 1) (.cons (.var 3) (.cons (.var 2) .nil))))) (gA 0 n) [x,aB (.ref d),aB (.int g),aB (.int wd)] h=.ok (rs.map .tup) h'/\rs.length=n/\(∀r∈rs,(r.length:Int)=wd/\ck wd g 0 r)/\Dk h' d c (b+200*n)/\bO h h' d c:=by
 obtain⟨ws,h',e,p,l,D',K'⟩:=sG (cl:=run F (k+5)) (P:=λ_ w=>∃r,w=.tup r/\(r.length:Int)=wd/\ck wd g 0 r) (e:=.call 104 (.cons (.var 1) (.cons (.var 3) (.cons (.var 2) .nil)))) (tl:=[aB (.ref d),aB (.int g),aB (.int wd)]) (m:=200) (lim:=n) (λi h b _ _ D hb=>by
  obtain⟨ws,h',e,a1,a2,a3,a4⟩:=Q6 C (k:=k) (wd:=wd) (g:=g) D hb h1 g0 g1;exact⟨.tup ws,h',by simp[ev,e],⟨ws,rfl,by lia,a2⟩,a3,a4⟩) n 0 x h b (by lia) (by lia) D hb
 replace p:=uD p;have hr:∃rs:List (List W),ws=rs.map .tup/\∀r∈rs,(r.length:Int)=wd/\ck wd g 0 r:=by
  clear e l;induction ws with
  |nil=>exact⟨[],rfl,λr hr=>by cases hr⟩
  |cons w ws ih=>
   obtain⟨rs,e1,e2⟩:=ih λw hw=>p w (dj _ hw);obtain⟨r,e3,e4⟩:=p w dP;refine⟨r::rs,by rw[e3,e1];rfl,λq hq=>?_⟩;rcases fm.mp hq with rfl|hq;exact e4;exact e2 q hq
 obtain⟨rs,rfl,hrs⟩:=hr;exact⟨rs,h',e,by rw[<-l,bJ],hrs,D',K'⟩
theorem Z3{k:Nat}{d c wd n b:Nat}{h:VH}{x:Option W}(D:Dk h d c b)(hb:b+1*n<1000000000)(h0:1<=wd)(h1:wd<=40) :
 ∃(fs:List W) (h':VH),ja (aX (.one 0)) (λ_ h=>.ok (.bl true) h) (ev (run F (k+3)) (.call 5 (.cons (.var 1) (.cons (.var 2) .nil)))) (gA 0 n) [x,aB (.ref d),aB (.int wd)] h=.ok fs h'/\fs.length=n/\(∀f∈fs,within f 0 ((wd:Int)-1)=true)/\Dk h' d c (b+1*n)/\bO h h' d c:=by
 obtain⟨ws,h',e,p,l,D',K'⟩:=sG (cl:=run F (k+3)) (P:=λ_ w=>within w 0 ((wd:Int)-1)) (e:=.call 5 (.cons (.var 1) (.cons (.var 2) .nil))) (tl:=[aB (.ref d),aB (.int wd)]) (m:=1) (lim:=n) (λi h b _ _ D hb=>by
  obtain⟨r,h',e,a1,a2,a3,a4⟩:=take C.toCoreD (k:=k) (m:=wd) D (by lia) (by lia) (by lia);exact⟨.int r,h',by simp[ev,e],by simp only[within,bE,eE];lia,a3,a4⟩) n 0 x h b (by lia) (by lia) D hb
 exact⟨ws,h',e,l,uD p,D',K'⟩
theorem Z4{k:Nat}{d c n b:Nat}{h:VH}{x:Option W}{fs:List W}(D:Dk h d c b)(hb:b+5*n<1000000000)(h0:1<=fs.length)(h1:fs.length<=4) :
 ∃(ds:List W) (h':VH),ja (aX (.one 0)) (λ_ h=>.ok (.bl true) h) (ev (run F (k+4)) (.call 23 (.cons (.var 1) (.cons (.bi .len (.cons (.var 2) .nil)) .nil)))) (gA 0 n) [x,aB (.ref d),aB (.tup fs)] h=.ok ds h'/\ds.length=n/\(∀w∈ds,door w fs.length=true)/\Dk h' d c (b+5*n)/\bO h h' d c:=by
 obtain⟨ws,h',e,p,l,D',K'⟩:=sG (cl:=run F (k+4)) (P:=λ_ w=>door w fs.length) (e:=.call 23 (.cons (.var 1) (.cons (.bi .len (.cons (.var 2) .nil)) .nil))) (tl:=[aB (.ref d),aB (.tup fs)]) (m:=5) (lim:=n) (λi h b _ _ D hb=>by
  obtain⟨w,h',e,a1,a2,a3⟩:=Q7 C (k:=k) (nf:=fs.length) D hb (by lia) (by lia);exact⟨w,h',by simp[ev,e,gT,fO,aO],a1,a2,a3⟩) n 0 x h b (by lia) (by lia) D hb
 exact⟨ws,h',e,l,uD p,D',K'⟩
theorem Z5{k:Nat}{h:VH}{d c b:Nat}{mw mr mg:Int}(D:Dk h d c b)(hb:b+13000<1000000000)(w0:1<=mw)(w1:mw<=40)(r0:0<=mr)(r1:mr<=60)(g0:0<=mg)(g1:mg<=8) :
 ∃B h',run F (k+6) 129 [.ref d,.int mw,.int mr,.int mg] h=.ok (Bd.w B) h'/\B.Ok/\B.wd<=mw/\B.gr<=mg/\(B.rows.length:Int)<=mr/\Dk h' d c (b+13000)/\bO h h' d c:=by
 rw[dF C.JZ rfl];have D0:Dk ⟨h.n,h.n,h.os⟩ d c b:=D.lo;obtain⟨t1,h1,e1,a1,b1,D1,K1⟩:=take C.toCoreD (k:=k+2) (m:=mw) D0 (by lia) (by lia) (by lia);obtain⟨wd,J0⟩:=jZ (show 0<=1+t1 by lia);obtain⟨gr,h2,e2,a2,b2,D2,K2⟩:=take C.toCoreD (k:=k+2) (m:=mg+1) D1 (by lia) (by lia) (by lia);obtain⟨t3,h3,e3,a3,b3,D3,K3⟩:=take C.toCoreD (k:=k+2) (m:=mr+1) D2 (by lia) (by lia) (by lia);obtain⟨nr,hnr⟩:=jZ a3;obtain⟨rs,h4,e4,l4,p4,D4,K4⟩:=Z2 C (k:=k) (n:=nr) (wd:=wd) (g:=gr) (x:=aC) D3 (by lia) (by lia) a2 (by lia);have Z6:=D4.new (o:=.lst (rs.map .tup));obtain⟨t5,h5,e5,a5,b5,D5,K5⟩:=take C.toCoreD (k:=k+2) (m:=4) Z6 (by lia) (by lia) (by lia);obtain⟨nf,hnf⟩:=jZ (show 0<=1+t5 by lia);obtain⟨fs,h6,e6,l6,p6,D6,K6⟩:=Z3 C (k:=k+2) (n:=nf) (wd:=wd) (x:=aC) D5 (by lia) (by lia) (by lia);have Z7:=D6.new (o:=.lst fs);obtain⟨ds,h7,e7,l7,p7,D7,K7⟩:=Z4 C (k:=k+1) (n:=wd) (fs:=fs) (x:=aC) Z7 (by lia) (by lia) (by lia);obtain⟨hne,ns,cells,p,q,gd,gc,_⟩:=D4;have gl:(h7.new (.lst ds)).get h4.n=aB (.lst (rs.map .tup)):=by
  have n1:h4.n≠d:=ku (cR gd);have n2:h4.n≠c:=ku (cR gc);have q1:=K5.get h4.n _ n1 n2 fj;have q2:=K6.get h4.n _ n1 n2 q1;have q3:(h6.new (.lst fs)).get h4.n=aB (.lst (rs.map .tup)):=by rw[iB (cR q2)];exact q2
  have q4:=K7.get h4.n _ n1 n2 q3;rw[iB (cR q4)];exact q4
 have s1:exs (run F (k+5)) (.set 4 (.op .add (.cst (.int (1))) (.call 5 (.cons (.var 0) (.cons (.var 1) .nil))))) [aB (.ref d),aB (.int mw),aB (.int mr),aB (.int mg),aC,aC,aC,aC,aC] ⟨h.n,h.n,h.os⟩=.ok (.nx [aB (.ref d),aB (.int mw),aB (.int mr),aB (.int mg),aB (.int wd),aC,aC,aC,aC]) h1:=by simp[exs,ev,e1,eW,dR,J0]
 have s2:exs (run F (k+5)) (.set 5 (.call 5 (.cons (.var 0) (.cons (.op .add (.var 3) (.cst (.int (1)))) .nil)))) [aB (.ref d),aB (.int mw),aB (.int mr),aB (.int mg),aB (.int wd),aC,aC,aC,aC] h1=.ok (.nx [aB (.ref d),aB (.int mw),aB (.int mr),aB (.int mg),aB (.int wd),aB (.int gr),aC,aC,aC]) h2:=by simp[exs,ev,e2,eW,dR]
 have s3:=Qy (cl:=run F (k+5)) (a:=.cons (.call 5 (.cons (.var 0) (.cons (.op .add (.var 2) (.cst (.int (1)))) .nil))) .nil) (ρ:=[aB (.ref d),aB (.int mw),aB (.int mr),aB (.int mg),aB (.int wd),aB (.int gr),aC,aC,aC]) (h:=h2) (h1:=h3) (n:=nr) (ow:=1) (ix:=[0,5,4]) (by simp[ev,eW,dR,e3,hnr]) (by lia) e4 (by rw[bJ];lia);have s4:=wN (cl:=run F (k+5)) (a:=.cons (.op .add (.cst (.int (1))) (.call 5 (.cons (.var 0) (.cons (.cst (.int (4))) .nil)))) .nil) (ρ:=[aB (.ref d),aB (.int mw),aB (.int mr),aB (.int mg),aB (.int wd),aB (.int gr),aB (.ref h4.n),aC,aC]) (h:=h4.new (.lst (rs.map .tup))) (h1:=h5) (n:=nf) (ow:=1) (ix:=[0,4]) (by simp[ev,eW,dR,e5,hnf]) (by lia) e6 (by lia);have s5:=wN (cl:=run F (k+5)) (a:=.cons (.var 4) .nil) (ρ:=[aB (.ref d),aB (.int mw),aB (.int mr),aB (.int mg),aB (.int wd),aB (.int gr),aB (.ref h4.n),aB (.tup fs),aC]) (h:=h6.new (.lst fs)) (h1:=h6.new (.lst fs)) (n:=wd) (ow:=1) (ix:=[0,7]) (by simp[ev]) (by lia) e7 (by lia);have body:exs (run F (k+5)) oE.body [aB (.ref d),aB (.int mw),aB (.int mr),aB (.int mg),aC,aC,aC,aC,aC] ⟨h.n,h.n,h.os⟩=.ok (.rt (Bd.w ⟨wd,gr,rs,fs,ds⟩)) (h7.new (.lst ds)):=by refine(bf s1).trans ((bf s2).trans ?_);refine(bf (ρ':=[aB (.ref d),aB (.int mw),aB (.int mr),aB (.int mg),aB (.int wd),aB (.int gr),aB (.ref h4.n),aC,aC]) (h':=h4.new (.lst (rs.map .tup))) (by unfold PZ;simp only[exs,s3,aD];rfl)).trans ?_;refine(bf (ρ':=[aB (.ref d),aB (.int mw),aB (.int mr),aB (.int mg),aB (.int wd),aB (.int gr),aB (.ref h4.n),aB (.tup fs),aC]) (h':=h6.new (.lst fs)) (by unfold P4;simp only[exs,s4,aD];rfl)).trans ?_;refine(bf (ρ':=[aB (.ref d),aB (.int mw),aB (.int mr),aB (.int mg),aB (.int wd),aB (.int gr),aB (.ref h4.n),aB (.tup fs),aB (.tup ds)]) (h':=h7.new (.lst ds)) (by unfold P5;simp only[exs,s5,aD];rfl)).trans ?_;simp[exs,ev,gT,qW,aO,gl,Bd.w]
 have KK:bO ⟨h.n,h.n,h.os⟩ (h7.new (.lst ds)) d c:=((((((K1.trans K2).trans K3).trans K4).new.trans K5).trans K6).new.trans K7).new;obtain⟨h8,e8,D8,K8⟩:=wM (cl:=run F (k+5)) (fl:=.nx []) body (.inr ⟨b,D⟩) (D7.new.mono (show _<=b+13000 by lia)) KK;refine⟨⟨wd,gr,rs,fs,ds⟩,h8,e8,⟨by show(1:Int)<=wd;lia,by show(wd:Int)<=40;lia,a2,by show gr<=8;lia,by show rs.length<=60;lia,p4,by show 1<=fs.length;lia,by show fs.length<=4;lia,p6,by show(ds.length:Int)=wd;lia,p7⟩,by show(wd:Int)<=mw;lia,by show gr<=mg;lia,by show(rs.length:Int)<=mr;lia,D8,K8⟩
end
theorem Z8{F:Nat->Option Fn}(B':lE F)(J4:F 17=aB rN)(J5:F 22=aB oB)(J6:F 24=aB rO){k:Nat}{h:VH}{B:Bd}{ls:List Int}(b:B.Ok)(hl:(ls.length:Int)=B.gr)(bi:cD ls):run F (k+9) 24 [B.w,iW ls] h=.ok .aL h:=by
 have hg:=b.g2;have w0:∀h:VH,run F (k+7) 17 [iW ls,.int B.gr] h=.ok (.bl true) h:=by
  intro h;rw[dF J4 rfl];have e:=Qk B'.toCoreA (k:=k+3) (h:=⟨h.n,h.n,h.os⟩) (w:=iW ls) (a:=B.gr) (b:=B.gr) (lo:=0) (hi:=1) (by unfold Kn iW;simp) (λws e=>by
   cases e;refine⟨by rw[bJ];lia,λx hx=>?_⟩;obtain⟨y,_,rfl⟩:=p9.mp hx;unfold Kn;simp)
  rw[Zr hl bi]at e;simp[rN,exs,ev,e,dX]
 have w1:∀h:VH,run F (k+8) 22 [B.w,iW ls] h=.ok (.bl true) h:=by
  intro h;have Z9:=Zb B' (k:=k) (h:=⟨h.n,h.n,h.os⟩) b;have eb:exs (run F (k+7)) oB.body [aB B.w,aB (iW ls)] ⟨h.n,h.n,h.os⟩=.ok (.rt (.bl true)) ⟨h.n,h.n,h.os⟩:=by refine(bf (ρ':=[aB B.w,aB (iW ls)]) (h':=⟨h.n,h.n,h.os⟩) ?_).trans (jS (gp (lG (x:=iW ls) (y:=.int B.gr) (aF rfl) (bP (x:=B.w) (y:=.int 1) (aF rfl) rfl rfl) (w0 _))));rw[exs,wX (x:=B.w) (aF rfl) Z9,aD]
  rw[dF J5 rfl];show fin h (exs (run F (k+7)) oB.body [aB B.w,aB (iW ls)] ⟨h.n,h.n,h.os⟩)=_;rw[eb];exact dX (aR _) rfl
 rw[dF J6 rfl];simp[rO,exs,ev,w1,Qf]
structure CJ(F:Nat->Option Fn):Prop where
 y:oX F
 J4:F 17=aB rN
 J5:F 22=aB oB
 J6:F 24=aB rO
 b:lE F
 JL:F 20=aB oA
 J7:F 140=aB lq
 J8:F 151=aB oF
 J9:F 190=aB lu
 J':F 202=aB lz
 Ka:F 219=aB lA
theorem Kc{h:VH}{i:Nat}{ws:List W}(g:h.get i=aB (.lst ws))(j:Nat):aZ .seq (.ref i) j h=aB ws[j]?:=by simp only[aZ,aO,g,mU]
theorem xm{g:Nat}(h:g<=8):2 ^ g<=256:=gJ (vec (by decide) h) (by decide)
section
variable{F:Nat->Option Fn}(C:CJ F)
include C
omit C in
theorem zug{l:List Int}{x:Int}{h:VH}(hl:l.length<=8):eW .add (iW l) (.tup [.int x]) h=.ok (iW (l++[x])) h:=by have:=QM (xs:=l) (ys:=[x]) (h:=h) (by simp;lia);exact this
omit C in
theorem zuh{cl:Call}{h:VH}{g t j:Nat}(ht:t<8)(hj:h.get j=aB (.lst ((aS t).map iW))) :
 exs cl yu [aB (.int g),aB (.ref j),aB (.int t)] h=.ok (.nx [aB (.int g),aB (.ref h.n),aB (.int t)]) (h.new (.lst ((aS (t+1)).map iW))):=by
 have e1:iX (aZ .seq (.ref j)) (aX (.one 0)) (λ_ h=>.ok (.bl true) h) (λρ h acc=>(ev cl yr ρ h).bind λy h=>gU (aZ .seq y) (aX (.one 1)) (λ_ h=>.ok (.bl true) h) (ev cl yt) fuel 0 ρ h acc) fuel 0 [aC,aC] h []=.ok ((aS (t+1)).map iW) h:=by
  have hl:((aS t).map iW).length<fuel+0:=by have:=xm (g:=t) (by lia);obtain⟨m,hm⟩:=FU;rw[bJ,xh];lia
  have:=JP (jy:=λρ h acc=>(ev cl yr ρ h).bind λy h=>gU (aZ .seq y) (aX (.one 1)) (λ_ h=>.ok (.bl true) h) (ev cl yt) fuel 0 ρ h acc) (tl:=[]) (g:=λx=>match x with|.tup xs=>[.tup (xs++[.int 0]),.tup (xs++[.int 1])]|_=>[]) (Kc hj) (λx hx b acc=>by
   obtain⟨l,hl,rfl⟩:=p9.mp hx;have hlen:=(sM t l hl).1;have ea:ev cl yr (aB (iW l)::b :: []) h=.ok (.tup [.int 0,.int 1]) h:=rfl;obtain⟨b',e2⟩:=JO (nx:=aZ .seq (.tup [.int 0,.int 1])) (e:=ev cl yt) (h:=h) (ws:=[.int 0,.int 1]) (x:=iW l) (tl:=[]) (f:=λw=>.tup (l.map .int++[w])) (λi=>rfl) (λw hw=>by
    have:∃y:Int,w=.int y:=by simp only[fm,yY,or_false]at hw;rcases hw with rfl|rfl<;>exact⟨_,rfl⟩
    obtain⟨y,rfl⟩:=this;show ev cl (.op .add (.var 0) (.tup (.cons (.var 1) .nil))) _ h=_;refine pS (aF rfl) (h2:=h) (y:=.tup [.int y]) rfl ?_;rw[zug (by lia)];unfold iW;rw[ng];rfl) fuel 0 b acc (by simp) (by obtain⟨m,hm⟩:=FU;simp;lia)
   exact⟨b',by rw[ea,aD,e2];rfl⟩) fuel 0 aC aC [] (by lia) hl
  rw[this];congr 1;simp only[xH,nc,tu,aS,List.flatMap_map,List.map_flatMap];congr 1;funext l;simp[iW]
 have hz:((aS (t+1)).map iW).length<=1000000:=by have:=xm (g:=t+1) (by lia);rw[bJ,xh];lia
 have e2:ev cl (.tW .seq (.var 1) (.one 0) 2 [] (.cst (.bl true)) .seq yr (.one 1) (.cst (.bl true)) yt) [aB (.int g),aB (.ref j),aB (.int t)] h=.ok (.ref h.n) (h.new (.lst ((aS (t+1)).map iW))):=by rw[ev,aF (x:=.ref j) rfl,aD];show(iX (aZ .seq (.ref j)) (aX (.one 0)) (λ_ h=>.ok (.bl true) h) (λρ h acc=>(ev cl yr ρ h).bind λy h=>gU (aZ .seq y) (aX (.one 1)) (λ_ h=>.ok (.bl true) h) (ev cl yt) fuel 0 ρ h acc) fuel 0 [aC,aC] h []).bind _=_;rw[e1,aD,if_pos (oK hz)]
 unfold yu;rw[bf (cN e2)];rfl
omit C in
theorem Q9{cl:Call}{g:Nat}:∀(n t j:Nat) (x:Option W) (h:VH),t+n<=8->h.get j=aB (.lst ((aS t).map iW))->∃j' x' h',forL (aX (.one 2)) (exs cl yu) (gA (t:Int) n) [aB (.int g),aB (.ref j),x] h=.ok (.nx [aB (.int g),aB (.ref j'),x']) h'/\h'.get j'=aB (.lst ((aS (t+n)).map iW))/\h'.lo=h.lo/\h.n<=h'.n/\j<=j'
 |0,t,j,x,h,_,hj=>⟨j,x,h,rfl,hj,rfl,aR _,aR _⟩
 |n+1,t,j,x,h,ht,hj=>by
  have e1:=zuh (cl:=cl) (g:=g) (h:=h) (t:=t) (j:=j) (by lia) hj;obtain⟨j',x',h',e2,g2,l2,n2,m2⟩:=Q9 (cl:=cl) (g:=g) n (t+1) h.n (aB (.int t)) (h.new (.lst ((aS (t+1)).map iW))) (by lia) fj;refine⟨j',x',h',?_,by rw[show t+ (n+1)=t+1+n by lia];exact g2,l2,gJ (sW _) n2,gJ (pX (cR hj)) m2⟩;simp only[gA,forL,aX,mT,kC,e1,aD];exact e2
theorem zoc{k:Nat}{h:VH}{g:Nat}(hg:g<=8)(hlo:h.lo<=h.n):∃j h',run F (k+3) 190 [.int g] h=.ok (.ref j) h'/\h'.get j=aB (.lst ((aS g).map iW))/\h'.lo=h.lo/\h.n<=h'.n:=by
 rw[dF C.J9 rfl];have e0:=sA C.b.toCoreA (k:=k) (h:=⟨h.n,h.n,h.os⟩) (w:=.int g) (lo:=0) (hi:=8) (by unfold Kn;simp);have hw:within (.int g) 0 8=true:=by simp only[within,bE,eE];lia
 rw[hw]at e0;have g1:(VH.new ⟨h.n,h.n,h.os⟩ (.lst [.tup []])).get h.n=aB (.lst ((aS 0).map iW)):=fj (h:=⟨h.n,h.n,h.os⟩);obtain⟨j',x',h',e2,g2,l2,n2,m2⟩:=Q9 (cl:=run F (k+2)) (g:=g) g 0 h.n aC (VH.new ⟨h.n,h.n,h.os⟩ (.lst [.tup []])) (by lia) g1;have e3:=YN (n:=g) (tg:=aX (.one 2)) (b:=exs (run F (k+2)) yu) (ρ:=[aB (.int g),aB (.ref h.n),aC]) (h:=VH.new ⟨h.n,h.n,h.os⟩ (.lst [.tup []])) (by lia);have eb:exs (run F (k+2)) lu.body [aB (.int g),aC,aC] ⟨h.n,h.n,h.os⟩=.ok (.rt (.ref j')) h':=by
  show exs (run F (k+2)) (.seq _ _) _ _=_;rw[bf (ρ':=[aB (.int g),aC,aC]) (h':=⟨h.n,h.n,h.os⟩) (by simp[exs,ev,e0])];rw[bf (ρ':=[aB (.int g),aB (.ref h.n),aC]) (h':=VH.new ⟨h.n,h.n,h.os⟩ (.lst [.tup []])) (by simp[exs,ev])];have:exs (run F (k+2)) (.«for» .bM (.cons (.var 0) .nil) (.one 2) yu) [aB (.int g),aB (.ref h.n),aC] (VH.new ⟨h.n,h.n,h.os⟩ (.lst [.tup []]))=.ok (.nx [aB (.int g),aB (.ref j'),x']) h':=by rw[exs];have ea:ev (run F (k+2)) (.cons (.var 0) .nil) [aB (.int g),aB (.ref h.n),aC] (VH.new ⟨h.n,h.n,h.os⟩ (.lst [.tup []]))=.ok (.tup [.int g]) (VH.new ⟨h.n,h.n,h.os⟩ (.lst [.tup []])):=rfl;rw[ea,aD,e3];exact e2
  rw[bf this];simp[exs,ev]
 show ∃j h',fin h (exs (run F (k+2)) lu.body [aB (.int g),aC,aC] ⟨h.n,h.n,h.os⟩)=.ok (.ref j) h'/\_;rw[eb];have hn2:h.n+1<=h'.n:=n2;have hj:=cR g2;have l2:h'.lo=h.n:=l2;show ∃j h2,leave h (.ref j') h'=.ok (.ref j) h2/\_;unfold leave;by_cases hq:(Nat.ble h.n h'.lo&&W.lt h.n (.ref j'))=true
 ·-- uX list is new
  exfalso;rw[bE]at hq;have:j'<h.n:=by have:=hq.2;simp only[W.lt]at this;exact gx.mp this
  lia
 rw[if_neg hq];refine⟨j',⟨h'.n,if Nat.ble h.lo h'.lo then h.lo else h'.lo,h'.os⟩,rfl,by rw[bU];rw[show(0+g)=g by lia]at g2;exact g2,?_,by show h.n<=h'.n;lia⟩;show(if Nat.ble h.lo h'.lo then h.lo else h'.lo)=h.lo;rw[if_pos (oZ.mpr (by lia))]
end
theorem zui{h h':VH}{j:Nat}(hlo:h.lo<=h.n)(h1:h'.lo=h.n)(h2:h.n<=j):fin h (.ok (.rt (.ref j)) h')=.ok (.ref j) ⟨h'.n,h.lo,h'.os⟩:=by
 show leave h (.ref j) h'=_;unfold leave;rw[if_neg (by
  intro z;rw[bE]at z;have:=z.2;simp only[W.lt]at this;have:=gx.mp this;lia),h1,if_pos (oZ.mpr hlo)]
noncomputable def Bd.out(B:Bd)(p:Pr):Bool:=!(B.aU p.1 p.2).st
noncomputable def Bd.co(B:Bd)(p:Pr):Int:=cy (B.col p.2) (B.aU p.1 p.2).cs
noncomputable def Bd.be(B:Bd)(p:Pr):List Int:=(B.aU p.1 p.2).ls
noncomputable def Bd.jT(B:Bd)(ls:List Int)(c:Int)(p:Pr):Bool:=B.out p&&decide (B.co p=c)&&decide (B.be p=ls)
theorem zyo{n:Nat}{p:Pr}:W.lt n (bB p)=true:=by unfold bB;simp[oV]
theorem Ra{n:Nat}:∀{ps:List Pr},W.kX n (ps.map bB)=true|[]=>by simp|p::r=>by rw[dw,jH,zyo,Ra];rfl
theorem zyp{h:VH}{B:Bd}{ls:List Int}{c:Int}{p:Pr}:b9 h (.tup [ic B p.1 p.2,iW (B.aU p.1 p.2).ls]) (.tup [.int c,iW ls])=aB (B.jT ls c p):=by
 unfold Bd.jT Bd.out Bd.co Bd.be ic;have pl:∀x:W,(x=.aL\/∃i:Int,x=.int i)->∀m:List Int,iD 24 (.tup [x,iW m])=true:=by intro x hx m;rw[Jr];rcases hx with rfl|⟨i,rfl⟩<;>simp only[pq,JK (n:=21),List.all_nil,Bool.and_true,yQ]<;>rfl
 cases z:(B.aU p.1 p.2).st with
 |true=>
  simp only[bX];rw[JT (d:=.tuple [.none,.tuple ((B.aU p.1 p.2).ls.map .int)]) (d':=.tuple [.int c,.tuple (ls.map .int)]) (pl _ (.inl rfl) _) (pl _ (.inr ⟨_,rfl⟩) _) (by rw[CA];simp only[aP,yE (n:=21)];rfl) (by rw[CA];simp only[aP,yE (n:=21),JR (n:=22)];rfl)];rfl
 |false=>
  simp only[dO,di];rw[JT (d:=.tuple [.int (cy (B.col p.2) (B.aU p.1 p.2).cs),.tuple ((B.aU p.1 p.2).ls.map .int)]) (d':=.tuple [.int c,.tuple (ls.map .int)]) (pl _ (.inr ⟨_,rfl⟩) _) (pl _ (.inr ⟨_,rfl⟩) _) (by rw[CA];simp only[aP,yE (n:=21),JR (n:=22)];rfl) (by rw[CA];simp only[aP,yE (n:=21),JR (n:=22)];rfl)];simp only[PyData.eqv,PyData.eqvAll,JS,Bool.and_true,Dg,yQ];congr 2
section
variable{F:Nat->Option Fn}(C:CJ F)
include C
theorem zod{k:Nat}{h:VH}{B:Bd}{g:Nat}(b:B.Ok)(hg:B.gr=g)(hlo:h.lo<=h.n):∃j h',run F (k+4) 202 [B.w] h=.ok (.ref j) h'/\h'.get j=aB (.lst ((bx g B.fd.length).map bB))/\h'.lo=h.lo/\h.n<=h'.n:=by
 rw[dF C.J' rfl];have yG:g<=8:=by have:=b.g2;lia
 have yH:=b.f2;obtain⟨j,h1,e1,g1,l1,n1⟩:=zoc C (k:=k) (h:=⟨h.n,h.n,h.os⟩) (g:=g) yG (aR _);have l1:h1.lo=h.n:=l1;have n1:h.n<=h1.n:=n1;have i1:bF ⟨h.n,h.n,h.os⟩ B.w (.int 1)=aB (.int B.gr):=rfl;have ea:ev (run F (k+3)) (.call 190 (.cons (.idx (.var 0) (.cst (.int (1)))) .nil)) [aB B.w] ⟨h.n,h.n,h.os⟩=.ok (.ref j) h1:=by refine wX (bP (aF rfl) rfl i1) ?_;rw[hg];exact e1
 have hz1:((aS g).map iW).length<fuel+0:=by have:=xm yG;obtain⟨m,hm⟩:=FU;rw[bJ,xh];lia
 have e2:iX (aZ .seq (.ref j)) (aX (.one 0)) (λ_ h=>.ok (.bl true) h) (λρ h acc=>(ev (run F (k+3)) wC ρ h).bind λy h=>gU (aZ .bM y) (aX (.one 1)) (λ_ h=>.ok (.bl true) h) (ev (run F (k+3)) wD) fuel 0 ρ h acc) fuel 0 [aC,aC,aB B.w] h1 []=.ok ((bx g B.fd.length).map bB) h1:=by
  have:=JP (jy:=λρ h acc=>(ev (run F (k+3)) wC ρ h).bind λy h=>gU (aZ .bM y) (aX (.one 1)) (λ_ h=>.ok (.bl true) h) (ev (run F (k+3)) wD) fuel 0 ρ h acc) (tl:=[aB B.w]) (g:=λx=>(gA 0 B.fd.length).map λw=>.tup [x,w]) (Kc g1) (λx hx bb acc=>by
   have i3:bF h1 B.w (.int 3)=aB (.tup B.fd):=rfl;have ea:ev (run F (k+3)) wC (aB x::bb :: [aB B.w]) h1=.ok (.tup [.int B.fd.length]) h1:=by unfold wC;rw[ev,kq (ws:=B.fd) (bP (aF rfl) rfl i3) rfl,aD,ev];rfl
   obtain⟨b',e2⟩:=JO (nx:=aZ .bM (.tup [.int B.fd.length])) (e:=ev (run F (k+3)) wD) (h:=h1) (ws:=gA 0 B.fd.length) (x:=x) (tl:=[aB B.w]) (f:=λw=>.tup [x,w]) (λi=>by
    have hfit:fits (B.fd.length:Int)=true:=by unfold fits;simp only[bE,eE];lia
    simp only[aZ,hfit,bX,Fv];by_cases q:i<B.fd.length;rw[if_pos q,if_pos (iE (by lia))];rw[if_neg q,if_neg (by rw[eE];lia)]) (λw hw=>by
    unfold wD;exact oW (aF rfl) (aF rfl)) fuel 0 bb acc (by lia) (by obtain⟨m,hm⟩:=FU;rw[Fw];lia)
   exact⟨b',by rw[ea,aD,e2];rfl⟩) fuel 0 aC aC [] (by lia) hz1
  rw[this];congr 1;simp only[xH,nc,tu,bx,List.flatMap_map,List.map_flatMap];congr 1;funext l;rw[List.map_map];have:∀(n:Nat)(a:Nat),(gA (a:Int) n).map (λw=>W.tup [iW l,w])=(List.range' a n).map (bB∘λf=>(l,f)):=by
   intro n;induction n with|zero=>intro a;rfl|succ n ih=>intro a;simp only[gA,dw,List.range'_succ];rw[show((a:Int)+1)=((a+1:Nat):Int) by lia,ih (a+1)];rfl
  rw[List.range_eq_range'];exact this B.fd.length 0
 have hz:((bx g B.fd.length).map bB).length<=1000000:=by have:=yF (g:=g) (nf:=B.fd.length) yG yH;rw[bJ];lia
 have e3:ev (run F (k+3)) (.tW .seq (.call 190 (.cons (.idx (.var 0) (.cst (.int (1)))) .nil)) (.one 0) 2 [0] (.cst (.bl true)) .bM wC (.one 1) (.cst (.bl true)) wD) [aB B.w] ⟨h.n,h.n,h.os⟩=.ok (.ref h1.n) (h1.new (.lst ((bx g B.fd.length).map bB))):=by rw[ev,ea,aD];show(iX (aZ .seq (.ref j)) (aX (.one 0)) (λ_ h=>.ok (.bl true) h) (λρ h acc=>(ev (run F (k+3)) wC ρ h).bind λy h=>gU (aZ .bM y) (aX (.one 1)) (λ_ h=>.ok (.bl true) h) (ev (run F (k+3)) wD) fuel 0 ρ h acc) fuel 0 [aC,aC,aB B.w] h1 []).bind _=_;rw[e2,aD,if_pos (oK hz)]
 have eb:exs (run F (k+3)) lz.body [aB B.w] ⟨h.n,h.n,h.os⟩=.ok (.rt (.ref h1.n)) (h1.new (.lst ((bx g B.fd.length).map bB))):=jS (gp e3);show ∃j h',fin h (exs (run F (k+3)) lz.body [aB B.w] ⟨h.n,h.n,h.os⟩)=.ok (.ref j) h'/\_;rw[eb,zui hlo (show(h1.new (.lst ((bx g B.fd.length).map bB))).lo=h.n from l1) n1];exact⟨h1.n,_,rfl,by rw[bU (h:=h1.new (.lst ((bx g B.fd.length).map bB)))];exact fj,rfl,by show h.n<=h1.n+1;lia⟩
theorem zyq{k:Nat}{h:VH}{B:Bd}{g:Nat}{ls:List Int}{c:Nat}(b:B.Ok)(hg:B.gr=g)(hl:(ls.length:Int)=B.gr)(bi:cD ls)(hc:(c:Int)<B.wd) :
 run F (k+10) 219 [B.w,iW ls,.int c] h=.ok (.tup (((bx g B.fd.length).filter (B.jT ls c)).map bB)) h:=by
 rw[dF C.Ka rfl];have yG:g<=8:=by have:=b.g2;lia
 have yH:=b.f2;have e1:=Z8 C.b C.J4 C.J5 C.J6 (k:=k) (h:=⟨h.n,h.n,h.os⟩) b hl bi;have e2:=sA C.b.toCoreA (k:=k+7) (h:=⟨h.n,h.n,h.os⟩) (w:=.int c) (lo:=0) (hi:=B.wd-1) (by unfold Kn;simp);have hw:within (.int c) 0 (B.wd-1)=true:=by simp only[within,bE,eE];lia
 rw[hw]at e2;have i0:bF ⟨h.n,h.n,h.os⟩ B.w (.int 0)=aB (.int B.wd):=rfl;obtain⟨j,h1,e3,g1,l1,n1⟩:=zod C (k:=k+5) (h:=⟨h.n,h.n,h.os⟩) b hg (aR _);have l1:h1.lo=h.n:=l1;have hz1:((bx g B.fd.length).map bB).length<fuel+0:=by have:=yF (g:=g) (nf:=B.fd.length) yG yH;have hf:fuel=1000000:=rfl;rw[bJ];lia
 have e4:eB (aZ .seq (.ref j)) (aX (.one 0)) (ev (run F (k+9)) wF) (ev (run F (k+9)) Cj) fuel 0 [aC,aB B.w,aB (.int c),aB (iW ls)] h1 []=.ok (((bx g B.fd.length).filter (B.jT ls c)).map bB) h1:=by
  have:=JQ (c:=ev (run F (k+9)) wF) (e:=ev (run F (k+9)) Cj) (tl:=[aB B.w,aB (.int c),aB (iW ls)]) (p:=λw=>match w with|.tup [.tup xs,.int f]=>(match aP (λx=>match x with|W.int i=>aB i|_=>aC) xs with|some l=>B.jT ls c (l,f.toNat)|none=>false)|_=>false) (f:=id) (Kc g1) (λw hw=>by
   obtain⟨p,hp,rfl⟩:=p9.mp hw;obtain⟨h2,h3,h4⟩:=JU hp;have e5:=ZH C.y (k:=k+6) (h:=h1) (B:=B) (ls:=p.1) (f:=p.2) b h4 (by lia) h3;have ep:ev (run F (k+9)) wF (aB (bB p) :: [aB B.w,aB (.int c),aB (iW ls)]) h1=.ok (.bl (B.jT ls c p)) h1:=by unfold wF;rw[ev,Zy (aF rfl) (bP (aF rfl) rfl (z:=iW p.1) rfl) (bP (aF rfl) rfl (z:=.int p.2) rfl) (x:=B.w) rfl e5,aD,oW (x:=.int c) (y:=iW ls) (aF rfl) (aF rfl),aD];show Res.of ((b9 h1 _ _).map W.bl) h1=_;rw[zyp];rfl
   rw[ep];have hm:∀l:List Int,aP (λx=>match x with|W.int i=>aB i|_=>aC) (l.map W.int)=aB l:=by
    intro l;induction l with|nil=>rfl|cons x r ih=>simp only[dw,aP,ih]
   show _=Res.ok (W.bl (match aP (λx=>match x with|W.int i=>aB i|_=>aC) (p.1.map W.int)with|some l=>B.jT ls c (l,(p.2:Int).toNat)|none=>false)) h1;rw[hm];rfl) (λw hw=>aF rfl) fuel 0 aC [] (by lia) hz1
  rw[this];congr 1;simp only[xH,nc,tu,List.map_id,List.filter_map];congr 1;refine List.filter_congr λp hp=>?_;have hm:∀l:List Int,aP (λx=>match x with|W.int i=>aB i|_=>aC) (l.map W.int)=aB l:=by
   intro l;induction l with|nil=>rfl|cons x r ih=>simp only[dw,aP,ih]
  show(match aP (λx=>match x with|W.int i=>aB i|_=>aC) (p.1.map W.int)with|some l=>B.jT ls c (l,(p.2:Int).toNat)|none=>false)=_;rw[hm];rfl
 have hz:(((bx g B.fd.length).filter (B.jT ls c)).map bB).length<=1000000:=by have:=yF (g:=g) (nf:=B.fd.length) yG yH;have h2:=xE (B.jT ls c) (bx g B.fd.length);rw[bJ];lia
 have e5:ev (run F (k+9)) (.lc .seq (.call 202 (.cons (.var 0) .nil)) (.one 0) 1 [0,2,1] wF Cj) [aB B.w,aB (iW ls),aB (.int c)] ⟨h.n,h.n,h.os⟩=.ok (.ref h1.n) (h1.new (.lst (((bx g B.fd.length).filter (B.jT ls c)).map bB))):=by rw[ev,wX (aF rfl) e3,aD];show(eB (aZ .seq (.ref j)) (aX (.one 0)) (ev (run F (k+9)) wF) (ev (run F (k+9)) Cj) fuel 0 [aC,aB B.w,aB (.int c),aB (iW ls)] h1 []).bind _=_;rw[e4,aD,if_pos (oK hz)]
 have e6:=Qz e5 fj;have eb:exs (run F (k+9)) lA.body [aB B.w,aB (iW ls),aB (.int c)] ⟨h.n,h.n,h.os⟩=.ok (.rt (.tup (((bx g B.fd.length).filter (B.jT ls c)).map bB))) (h1.new (.lst (((bx g B.fd.length).filter (B.jT ls c)).map bB))):=by show exs (run F (k+9)) (.seq _ _) _ _=_;rw[bf (Cv (lG (aF rfl) (aF rfl) e1))];rw[bf (ρ':=[aB B.w,aB (iW ls),aB (.int c)]) (h':=⟨h.n,h.n,h.os⟩) (by simp[exs,ev,i0,eW,dR,e2])];exact jS (gp e6)
 show fin h (exs (run F (k+9)) lA.body [aB B.w,aB (iW ls),aB (.int c)] ⟨h.n,h.n,h.os⟩)=_;rw[eb];exact dX (by show h.n<=h1.lo;lia) (by rw[oH];exact Ra)
end
structure EI(B:Bd)(k0 h:VH)(a L:Nat)(ls:List (List Int))(rs:List Nat)(ps:List Pr):Prop where
 ga:h.get a=aB (.lst (rs.map .ref))
 gL:h.get L=aB (.lst (ls.map iW))
 ne:L≠a
 ka:k0.n<=a
 G:Gm k0 h
 len:rs.length=ps.length
 at_:∀(i r:Nat)(p:Pr),rs[i]?=aB r->ps[i]?=aB p->h.get r=aB (.lst [bB p,.int (B.co p),iW (B.be p)])
 gt:∀r∈rs,r≠a
 lo:∀r∈rs,k0.n<=r
section
variable{B:Bd}{k0 h h':VH}{a L:Nat}{ls:List (List Int)}{rs:List Nat}{ps:List Pr}
theorem EI.gm(I:EI B k0 h a L ls rs ps)(g:Gm h h'):EI B k0 h' a L ls rs ps:=
 ⟨by rw[g.get _ (cR I.ga)];exact I.ga,by rw[g.get _ (cR I.gL)];exact I.gL,I.ne,I.ka,I.G.trans g,I.len,λi r p h1 h2=>by
  have:=I.at_ i r p h1 h2;rw[g.get _ (cR this)];exact this,I.gt,I.lo⟩
theorem EI.push(I:EI B k0 h a L ls rs ps){p:Pr}:EI B k0 ((h.new (.lst [bB p,.int (B.co p),iW (B.be p)])).set a (.lst ((rs++[h.n]).map .ref))) a L ls (rs++[h.n]) (ps++[p]):=by
 have la:=cR I.ga;have la':a< (h.new (.lst [bB p,.int (B.co p),iW (B.be p)])).n:=pW la;have ga':(h.new (.lst [bB p,.int (B.co p),iW (B.be p)])).get a=aB (.lst (rs.map .ref)):=(iB la).trans I.ga;refine⟨yz ga',?_,I.ne,I.ka,I.G.new.set I.ka la',by rw[eF,eF,I.len];rfl,λi r q h1 h2=>?_,λr hr=>?_,λr hr=>?_⟩;rw[vQ la' I.ne,iB (cR I.gL)];exact I.gL;by_cases hi:i<rs.length;rw[pZ hi]at h1;rw[pZ (by rw[<-I.len];exact hi)]at h2;have:=I.at_ i r q h1 h2;rw[vQ la' (I.gt r (o5 h1)),iB (cR this)];exact this;rw[lI (by lia)]at h1;rw[lI (by rw[<-I.len];lia),<-I.len]at h2;cases z:i-rs.length with
 |zero=>
  rw[z]at h1 h2;cases h1;cases h2;rw[vQ la' (ku la)];exact fj
 |succ n=>rw[z]at h1;cases h1
 rcases kD.mp hr with hr|hr;exact I.gt r hr;rw[mS.mp hr];exact ku la;rcases kD.mp hr with hr|hr;exact I.lo r hr;rw[mS.mp hr];exact I.G.le
end
noncomputable abbrev dY(B:Bd)(a:Nat)(x2 x3 x4:Option W):En:=[aB B.w,aB (.ref a),x2,x3,x4]
section
variable{F:Nat->Option Fn}(gD:F 207=aB iL)
include gD
theorem zuj{k a L f:Nat}{B:Bd}{k0 h:VH}{ls:List (List Int)}{rs:List Nat}{ps:List Pr}{l:List Int}{x4:Option W}(b:B.Ok)(hf:f<B.fd.length)(hl:(l.length:Int)=B.gr)(bi:cD l)(I:EI B k0 h a L ls rs ps)(hz:rs.length<=100000) :
 ∃h2 y4 rs',exs (run F (k+1)) Fc (dY B a (aB (iW l)) (aB (.int (f:Int))) x4) h=.ok (.nx (dY B a (aB (iW l)) (aB (.int (f:Int))) y4)) h2/\EI B k0 h2 a L ls rs' (ps++[(l,f)].filter B.out):=by
 obtain⟨hfd,hc1,hc2⟩:=b.col hf;obtain⟨c,xo⟩:∃c,B.col f=c:=⟨_,rfl⟩
 rw[xo]at hfd hc1 hc2;obtain⟨i,h2,nm,e2,g2,G2,l2⟩:=ZZ gD (k:=k) (h:=h) (B:=B) (ls:=l) (f:=f) (c:=c) b hfd hc1 hc2 hl bi;have I2:=I.gm G2;have CM:aQ B.rows c 0 l=B.aU l f:=by unfold Bd.aU;rw[xo]
 rw[CM]at g2;have i0:bF h2 (.ref i) (.int 0)=aB (.int (cy c (B.aU l f).cs)):=by simp only[bF,g2];rfl
 have i1:bF h2 (.ref i) (.int 1)=aB (iW (B.aU l f).ls):=by simp only[bF,g2];rfl
 have i3:bF h2 (.ref i) (.int 3)=aB (.bl (B.aU l f).st):=by simp only[bF,g2];rfl
 unfold Fc;have s1:exs (run F (k+1)) (.set 4 (.call 207 (.cons (.var 0) (.cons (.var 2) (.cons (.var 3) (.cons (.cst .aL) .nil)))))) (dY B a (aB (iW l)) (aB (.int (f:Int))) x4) h=.ok (.nx (dY B a (aB (iW l)) (aB (.int (f:Int))) (aB (.ref i)))) h2:=
  cN (uF (ys:=[B.w,iW l,.int (f:Int),.aL]) (h1:=h) (aT (aF rfl) (aT (aF rfl) (aT (aF rfl) (aT aV cG)))) e2)
 have cd:ev (run F (k+1)) (.not (.kY (.idx (.var 4) (.cst (.int (3)))))) (dY B a (aB (iW l)) (aB (.int (f:Int))) (aB (.ref i))) h2=.ok (.bl (!(B.aU l f).st)) h2:=by have e:ev (run F (k+1)) (.idx (.var 4) (.cst (.int (3)))) (dY B a (aB (iW l)) (aB (.int (f:Int))) (aB (.ref i))) h2=.ok (.bl (B.aU l f).st) h2:=bP (x:=.ref i) (y:=.int 3) (aF rfl) aV i3;rw[ev,ev,e,aD];cases(B.aU l f).st<;>rfl
 rw[bf s1];cases z:(B.aU l f).st with
 |true=>
  rw[z]at cd;have ho:[(l,f)].filter B.out=[]:=by simp[Bd.out,z]
  refine⟨h2,aB (.ref i),rs,?_,by rw[ho,kE];exact I2⟩;exact(bf (ρ':=dY B a (aB (iW l)) (aB (.int (f:Int))) (aB (.ref i))) (h':=h2) ((pT cd).trans (by rw[exs]))).trans (by rw[exs])
 |false=>
  rw[z]at cd;have ho:[(l,f)].filter B.out=[(l,f)]:=by simp[Bd.out,z]
  rw[ho];refine⟨_,aB (.ref i),rs++[h2.n],?_,I2.push (p:=(l,f))⟩;refine(bf (ρ':=dY B a (aB (iW l)) (aB (.int (f:Int))) (aB (.ref i))) (h':=(h2.new (.lst [bB (l,f),.int (B.co (l,f)),iW (B.be (l,f))])).set a (.lst ((rs++[h2.n]).map .ref))) ?_).trans (by rw[exs]);rw[uH cd];have hco:B.co (l,f)=cy c (B.aU l f).cs:=by unfold Bd.co;rw[xo]
  have ea:ev (run F (k+1)) (.mt .append (.var 1) (.cons (.lst (.cons (.tup (.cons (.var 2) (.cons (.var 3) .nil))) (.cons (.idx (.var 4) (.cst (.int (0)))) (.cons (.idx (.var 4) (.cst (.int (1)))) .nil)))) .nil)) (dY B a (aB (iW l)) (aB (.int (f:Int))) (aB (.ref i))) h2=.ok .aL ((h2.new (.lst [bB (l,f),.int (B.co (l,f)),iW (B.be (l,f))])).set a (.lst ((rs++[h2.n]).map .ref))):=by
   have hk:vP .append h2 (.ref a)=true:=by simp only[vP,I2.ga]
   have gn:(h2.new (.lst [bB (l,f),.int (B.co (l,f)),iW (B.be (l,f))])).get a=aB (.lst (rs.map .ref)):=(iB (cR I2.ga)).trans I2.ga;rw[ev,aF (x:=.ref a) rfl,aD,if_pos hk,aT (fy (h1:=h2) (ys:=[bB (l,f),.int (B.co (l,f)),iW (B.be (l,f))]) (aT (oW (x:=iW l) (y:=.int (f:Int)) (aF rfl) (aF rfl)) (aT (h1:=h2) (bP (x:=.ref i) (y:=.int 0) (aF rfl) aV (by rw[hco];exact i0)) (aT (h1:=h2) (bP (x:=.ref i) (y:=.int 1) (aF rfl) aV i1) cG))) rfl) cG,aD];show qY .append (.ref a) [.ref h2.n] _=_;simp only[qY,gn];rw[if_pos (QB (by rw[bJ];lia)),ng];rfl
  exact(bf (ρ':=dY B a (aB (iW l)) (aB (.int (f:Int))) (aB (.ref i))) (by rw[exs,ea,aD])).trans (by rw[exs])
end
noncomputable def gq(A:List (List Int))(nf i:Nat):List Pr:=(A.take i).flatMap λl=>(List.range nf).map λf=>(l,f)
theorem zoe{A:List (List Int)}{nf i:Nat}{l:List Int}(h:A[i]?=aB l):gq A nf (i+1)=gq A nf i++(List.range nf).map λf=>(l,f):=by unfold gq;rw[List.take_add_one,h,List.flatMap_append];simp
theorem zp6{A:List (List Int)}{nf:Nat}(hA:A.length<=256)(hn:nf<=4)(i:Nat):(gq A nf i).length<=1024:=by
 have:∀B:List (List Int),(B.flatMap λl=>(List.range nf).map λf=>(l,f)).length=B.length*nf:=by
  intro B;induction B with|nil=>simp|cons b r ih=>rw[List.flatMap_cons,eF,ih,bJ,List.length_range,cZ];rw[Nat.succ_mul];lia
 unfold gq;rw[this];have h1:(A.take i).length<=256:=by rw[jX];lia
 exact gJ (Nat.mul_le_mul h1 hn) (by decide)
section
variable{F:Nat->Option Fn}(gD:F 207=aB iL)(mO:F 294=aB jE)(sP:F 296=aB lB)
include gD in
theorem zp7{k a L i:Nat}{B:Bd}{k0 h:VH}{A:List (List Int)}{rs:List Nat}{l:List Int}{x3 x4:Option W}(b:B.Ok)(hA:A.length<=256)(hl:(l.length:Int)=B.gr)(bi:cD l)(hi:A[i]?=aB l)(I:EI B k0 h a L A rs ((gq A B.fd.length i).filter B.out)) :
 ∃h2 y3 y4 rs',exs (run F (k+1)) Fd (dY B a (aB (iW l)) x3 x4) h=.ok (.nx (dY B a (aB (iW l)) y3 y4)) h2/\EI B k0 h2 a L A rs' ((gq A B.fd.length (i+1)).filter B.out):=by
 have yH:=b.f2;obtain⟨ρ',h',e1,hI⟩:=CB (nx:=aZ .bM (.tup [.int (B.fd.length:Int)])) (tg:=aX (.one 3)) (b:=exs (run F (k+1)) Fc) (n:=B.fd.length)
  (I:=λj ρ h1=>∃x3 x4 rs,ρ=dY B a (aB (iW l)) x3 x4/\EI B k0 h1 a L A rs ((gq A B.fd.length i++(List.range j).map λf=>(l,f)).filter B.out))
  (λj ρ h1 hj hI=>by
    obtain⟨x3,x4,rs,rfl,I⟩:=hI;have hz:rs.length<=100000:=by rw[I.len];have h1:=xE B.out (gq A B.fd.length i++(List.range j).map λf=>(l,f));rw[eF,bJ,List.length_range]at h1;have:=zp6 (nf:=B.fd.length) hA yH i;lia
    obtain⟨h2,y4,rs',e2,I2⟩:=zuj gD (k:=k) (f:=j) (x4:=x4) b hj hl bi I hz;refine⟨.int (j:Int),dY B a (aB (iW l)) (aB (.int (j:Int))) x4,_,h2,by rw[FZ (by lia),if_pos hj],rfl,e2,_,y4,rs',rfl,?_⟩;rw[List.range_succ,ng,<-jc,List.filter_append (l₂:=[j].map λf=>(l,f))];exact I2)
  (λρ h1 hI=>by rw[FZ (by lia),if_neg (jg _)])
  B.fd.length 0 fuel (dY B a (aB (iW l)) x3 x4) h (lH _) (show _<1000000 by lia) ⟨x3,x4,rs,rfl,by simpa using I⟩
 obtain⟨y3,y4,rs',rfl,I'⟩:=hI;rw[<-zoe hi]at I';refine⟨h',y3,y4,rs',?_,I'⟩;unfold Fd;exact(bf ((jJ (x:=.tup [.int (B.fd.length:Int)]) (aT (kq (ws:=B.fd) (bP (x:=B.w) (aF rfl) aV rfl) rfl) cG)).trans e1)).trans (by rw[exs])
include gD mO sP in
theorem zuk{k g:Nat}{B:Bd}{h:VH}(b:B.Ok)(hg:B.gr=g):∃(a:Nat) (h':VH) (rs:List Nat),run F (k+2) 296 [B.w] h=.ok (.ref a) h'/\h'.get a=aB (.lst (rs.map .ref))/\rs.length=((bx g B.fd.length).filter B.out).length/\
 (∀(i r:Nat)(p:Pr),rs[i]?=aB r->((bx g B.fd.length).filter B.out)[i]?=aB p->h'.get r=aB (.lst [bB p,.int (B.co p),iW (B.be p)]))/\Gm h h'/\h.n<=a/\∀r∈rs,h.n<=r:=by
 let k0:VH:=⟨h.n,h.n,h.os⟩
 let k1:=k0.new (.lst []);have g8:g<=8:=by have:=b.g2;lia
 obtain⟨L,h1,e1,g1,G1,l1⟩:=ZQ mO (k:=k) (h:=k1) g8;have hA:(aS g).length<=256:=by rw[xh];exact gJ (vec (by decide) g8) (by decide)
 have hz:(aS g).length<1000000:=by lia
 have l1':h.n+1<=L:=l1;have I0:EI B k0 h1 h.n L (aS g) [] ((gq (aS g) B.fd.length 0).filter B.out):=
  ⟨by rw[G1.get _ (show h.n<h.n+1 by lia)];exact fj (h:=k0),g1,by lia,aR _,Gm.refl.new.trans G1,rfl,(λi r p h1 _=>by cases h1),(λr hr=>by cases hr),(λr hr=>by cases hr)⟩
 obtain⟨ρ',h',e2,hI⟩:=CB (nx:=aZ .seq (.ref L)) (tg:=aX (.one 2)) (b:=exs (run F (k+1)) Fd) (n:=(aS g).length)
  (I:=λi ρ h2=>∃x2 x3 x4 rs,ρ=dY B h.n x2 x3 x4/\EI B k0 h2 h.n L (aS g) rs ((gq (aS g) B.fd.length i).filter B.out))
  (λi ρ h2 hi hI=>by
    obtain⟨x2,x3,x4,rs,rfl,I⟩:=hI;have hx:=ig hi;obtain⟨q1,q2⟩:=sM g _ (ir hi);obtain⟨h3,y3,y4,rs',e3,I3⟩:=zp7 gD (k:=k) (x3:=x3) (x4:=x4) b hA (by rw[q1,hg]) q2 hx I;refine⟨iW (aS g)[i],dY B h.n (aB (iW (aS g)[i])) x3 x4,_,h3,?_,rfl,e3,_,y3,y4,rs',rfl,I3⟩;rw[uG I.gL,jb,hx];rfl)
  (λρ h2 hI=>by
    obtain⟨x2,x3,x4,rs,rfl,I⟩:=hI;rw[uG I.gL,xD (by rw[bJ];exact aR _)])
  (aS g).length 0 fuel (dY B h.n aC aC aC) h1 (lH _) (show _<1000000 by lia) ⟨aC,aC,aC,[],rfl,I0⟩
 obtain⟨x2,x3,x4,rs,rfl,I⟩:=hI;have ep:gq (aS g) B.fd.length (aS g).length=bx g B.fd.length:=by unfold gq bx;rw[y9]
 rw[ep]at I;obtain⟨h2,e3,G3,g3⟩:=CG (h:=h) (h':=h') (w:=.ref h.n) (CD (aR _)) I.G;refine⟨h.n,h2,rs,?_,by rw[g3];exact I.ga,I.len,λi r p q1 q2=>by rw[g3];exact I.at_ i r p q1 q2,G3,aR _,I.lo⟩;have eb:exs (run F (k+1)) lB.body [aB B.w,aC,aC,aC,aC] k0=.ok (.rt (.ref h.n)) h':=by refine(bf (cN (h1:=k1) (x:=.ref h.n) (fy cG rfl))).trans ?_;refine(bf ((jJ (h1:=h1) (x:=.ref L) (wX (x:=.int (g:Int)) (bP (x:=B.w) (aF rfl) aV (by rw[<-hg];rfl)) e1)).trans e2)).trans ?_;exact jS (gp (aF rfl))
 rw[dF sP rfl,<-e3];exact jK (fin h) eb
end
theorem CN{cl:Call}{a:E}{ρ:En}{h h1:VH}{j:Nat}{n:Nat}(ea:ev cl a ρ h=.ok (.ref j) h1)(g:h1.get j=aB (.lst (bD n (.bl true)))):ev cl (.bi .all (.cons a .nil)) ρ h=.ok (.bl true) h1:=by
 have hm:aP pJ (bD n (W.bl true))=aB (bD n true):=by
  induction n with
  |zero=>rfl
  |succ n ih=>
   clear g;simp only[o9,aP,pJ];rw[show aP pJ (bD n (W.bl true))=aB (bD n true)from by
    clear ih;induction n with|zero=>rfl|succ n ih=>simp only[o9,aP,pJ,ih]]
 have ha:(bD n true).all id=true:=by rw[lJ];intro x hx;exact(List.mem_replicate.mp hx).2
 rw[ev,ev,ea,aD,ev,aD,aD];show lY [.ref j] h1=_;simp only[lY,g,hm,mU,ha,bT]
section
variable{F:Nat->Option Fn}(C:CJ F)
include C
theorem Rb{k:Nat}{h:VH}{i:Int}:run F (k+1) 151 [.int i,.int i] h=.ok (.bl true) h:=by rw[dF C.J8 rfl];simp[oF,exs,ev,aN,fU,dX]
theorem zul{k:Nat}{h:VH}{a:List Int}(ha:a.length<=1000):run F (k+2) 140 [iW a,iW a] h=.ok (.bl true) h:=by
 rw[dF C.J7 rfl];have hx:∀i h,aZ .zip (.tup [iW a,iW a]) i h=aB ((a.map λx=>W.tup [.int x,.int x])[i]?):=by intro i h;unfold iW;simp only[aZ,aO,jb];cases a[i]?<;>rfl
 have hl:∀(xs:List Int)(ρ:En)(x y:Option W)(h:VH),ja (aX (.many [0,1])) (λ_ h=>.ok (.bl true) h) (ev (run F (k+1)) yq) (xs.map λx=>W.tup [.int x,.int x]) [x,y] h=.ok (bD xs.length (.bl true)) h:=by
  intro xs;induction xs with
  |nil=>intro ρ x y h;rfl
  |cons z r ih=>
   intro ρ x y h;have e0:ev (run F (k+1)) yq [aB (.int z),aB (.int z)] h=.ok (.bl true) h:=lG (aF rfl) (aF rfl) (Rb C);simp only[dw,ja,aX,aO,iV,kC,mT,aD,e0,ih ρ];rfl
 have e1:=Ck (tg:=aX (.many [0,1])) (c:=λ_ h=>.ok (.bl true) h) (e:=ev (run F (k+1)) yq) hx fuel 0 [aC,aC] ⟨h.n,h.n,h.os⟩ [] (gu _) (by have hf:fuel=1000000:=rfl;rw[bJ];lia);rw[tu,hl a [] aC aC,aD]at e1;have e2:ev (run F (k+1)) (.lc .zip (.cons (.var 0) (.cons (.var 1) .nil)) (.many [0,1]) 2 [] (.cst (.bl true)) yq) [aB (iW a),aB (iW a)] ⟨h.n,h.n,h.os⟩=.ok (.ref h.n) (VH.new ⟨h.n,h.n,h.os⟩ (.lst (bD a.length (.bl true)))):=by rw[ev,show ev (run F (k+1)) (.cons (.var 0) (.cons (.var 1) .nil)) [aB (iW a),aB (iW a)] ⟨h.n,h.n,h.os⟩=.ok (.tup [iW a,iW a]) ⟨h.n,h.n,h.os⟩from rfl,aD];show(eB (aZ .zip (.tup [iW a,iW a])) (aX (.many [0,1])) (λ_ h=>.ok (.bl true) h) (ev (run F (k+1)) yq) fuel 0 [aC,aC] ⟨h.n,h.n,h.os⟩ []).bind _=_;rw[e1,aD,if_pos (oK (by simp;lia))];rfl
 have e3:=CN e2 (fj (h:=⟨h.n,h.n,h.os⟩));have e4:ev (run F (k+1)) (.or (.not (.kY (.nQ .tuple (.var 0)))) (.cmp .ne (.bi .len (.cons (.var 0) .nil)) (.bi .len (.cons (.var 1) .nil)))) [aB (iW a),aB (iW a)] ⟨h.n,h.n,h.os⟩=.ok (.bl false) ⟨h.n,h.n,h.os⟩:=by unfold iW;simp[ev,gT,fO,aO,aN,fU]
 have eb:exs (run F (k+1)) lq.body [aB (iW a),aB (iW a)] ⟨h.n,h.n,h.os⟩=.ok (.rt (.bl true)) (VH.new ⟨h.n,h.n,h.os⟩ (.lst (bD a.length (.bl true)))):=by show exs (run F (k+1)) (.seq _ _) _ _=_;rw[bf ((JJ e4).trans rfl)];exact jS (gp e3)
 show fin h (exs (run F (k+1)) lq.body [aB (iW a),aB (iW a)] ⟨h.n,h.n,h.os⟩)=_;rw[eb];exact dX (aR _) (by simp)
end
theorem F0{α:Type}{nx:Nat->VH->Option (Option W)}{tg:W->VH->En->Option En}{c e:FE}{ps:List α}{p:α->Bool}{f:α->W}{h:VH}{I:En->Prop}
 (go:∀i ρ a,ps[i]?=aB a->I ρ->∃w gz,nx i h=aB (aB w)/\tg w h ρ=aB gz/\c gz h=.ok (.bl (p a)) h/\e gz h=.ok (f a) h/\I gz) (stop:nx ps.length h=aB aC) :
 ∀(m i fu:Nat)(ρ:En)(acc:List W),i+m=ps.length->m<fu->I ρ->eB nx tg c e fu i ρ h acc=.ok (acc.reverse++((ps.drop i).filter p).map f) h
 |_,_,0,_,_,_,hf,_=>by lia
 |0,i,fu+1,ρ,acc,hi,_,_=>by
  obtain rfl:i=ps.length:=by lia
  rw[yZ];simp only[eB,stop,List.filter_nil,tw,kE]
 |m+1,i,fu+1,ρ,acc,hi,hf,hI=>by
  have hlt:i<ps.length:=by lia
  obtain⟨w,gz,e1,e2,e3,e4,pL⟩:=go i ρ _ (ig hlt) hI;rw[o4 hlt,List.filter_cons];cases z:p ps[i]with
  |true=>
   rw[z]at e3;simp only[eB,e1,e2,e3,e4,aD];rw[F0 go stop m (i+1) fu gz _ (by lia) (by lia) pL];simp
  |false=>
   rw[z]at e3;simp only[eB,e1,e2,e3,aD];rw[F0 go stop m (i+1) fu gz _ (by lia) (by lia) pL];simp
theorem lcE{cl:Call}{k:Kd}{a c b:E}{t:Tg}{ow:Nat}{ix:List Nat}{x:W}{ρ:En}{h h1:VH}{ys:List W}(ea:ev cl a ρ h=.ok x h1)(el:eB (aZ k x) (aX t) (ev cl c) (ev cl b) fuel 0 (inner ow ix ρ) h1 []=.ok ys h1)(hl:ys.length<=1000000):ev cl (.lc k a t ow ix c b) ρ h=.ok (.ref h1.n) (h1.new (.lst ys)):=by rw[ev,ea,aD];show((eB _ _ _ _ fuel 0 _ h1 []).bind _)=_;rw[el,aD,if_pos (oK hl)]
theorem zyr{F:Nat->Option Fn}(xq:F 700=aB Ff){k a:Nat}{B:Bd}{h:VH}{rs:List Nat}{ps:List Pr}{ls:List Int}{c:Int}(g:h.get a=aB (.lst (rs.map .ref)))(len:rs.length=ps.length)(hz:ps.length<=100000)
 (at_:∀(i r:Nat)(p:Pr),rs[i]?=aB r->ps[i]?=aB p->h.get r=aB (.lst [bB p,.int (B.co p),iW (B.be p)])) :
 ∃j h',run F (k+1) 700 [.ref a,iW ls,.int c] h=.ok (.ref j) h'/\h'.get j=aB (.lst ((ps.filter λp=>decide (B.co p=c)&&decide (B.be p=ls)).map bB))/\Gm h h'/\h.n<=j:=by
 let k0:VH:=⟨h.n,h.n,h.os⟩
 have g0:k0.get a=aB (.lst (rs.map .ref)):=g;have el:=F0 (nx:=aZ .seq (.ref a)) (tg:=aX (.many [0,1,2])) (c:=ev (run F k) Jk) (e:=ev (run F k) Qc) (ps:=ps) (p:=λp=>decide (B.co p=c)&&decide (B.be p=ls)) (f:=bB) (h:=k0)
  (I:=λρ=>∃x y z,ρ=[x,y,z,aB (.int c),aB (iW ls)])
  (λi ρ p hp hI=>by
    obtain⟨x,y,z,rfl⟩:=hI;obtain⟨hi,_⟩:=kB.mp hp;have hr:=ig (l:=rs) (i:=i) (by lia);have gr:k0.get rs[i]=aB (.lst [bB p,.int (B.co p),iW (B.be p)]):=at_ i _ p hr hp;refine⟨.ref rs[i],[aB (bB p),aB (.int (B.co p)),aB (iW (B.be p)),aB (.int c),aB (iW ls)],?_,?_,?_,?_,⟨_,_,_,rfl⟩⟩;rw[uG g0,jb,hr];rfl;simp only[aX,zdt gr,iV];rfl;unfold Jk;have c1:ev (run F k) (.cmp .eq (.var 1) (.var 3)) [aB (bB p),aB (.int (B.co p)),aB (iW (B.be p)),aB (.int c),aB (iW ls)] k0=.ok (.bl (decide (B.co p=c))) k0:=by rw[ev,aF (x:=.int (B.co p)) rfl,aD,aF (x:=.int c) rfl,aD];simp only[aN,fU];rfl
    have c2:ev (run F k) (.cmp .eq (.var 2) (.var 4)) [aB (bB p),aB (.int (B.co p)),aB (iW (B.be p)),aB (.int c),aB (iW ls)] k0=.ok (.bl (decide (B.be p=ls))) k0:=by rw[ev,aF (x:=iW (B.be p)) rfl,aD,aF (x:=iW ls) rfl,aD];simp only[aN,ZJ];rfl
    rw[ev,c1,aD];cases decide (B.co p=c)with|true=>exact c2|false=>rfl
    exact aF rfl)
  (by rw[uG g0,xD (by rw[bJ,len];exact aR _)])
  ps.length 0 fuel [aC,aC,aC,aB (.int c),aB (iW ls)] [] (lH _) (show _<1000000 by lia) ⟨aC,aC,aC,rfl⟩
 rw[tu,xH,nc]at el;generalize hD:(ps.filter λp=>decide (B.co p=c)&&decide (B.be p=ls))=D at el;have Uq:D.length<=100000:=by rw[<-hD];exact gJ (xE _ _) hz
 have eb:exs (run F k) Ff.body [aB (.ref a),aB (iW ls),aB (.int c)] k0=.ok (.rt (.ref k0.n)) (k0.new (.lst (D.map bB))):=
  jS (gp (lcE (x:=.ref a) (aF rfl) el (by rw[bJ];lia)))
 obtain⟨h2,e2,G2,g2⟩:=CG (h:=h) (h':=k0.new (.lst (D.map bB))) (w:=.ref k0.n) (CD (aR _)) Gm.refl.new;refine⟨k0.n,h2,?_,by rw[g2];exact fj,G2,aR _⟩;rw[dF xq rfl,<-e2];exact jK (fin h) eb
section
variable{F:Nat->Option Fn}(C:CJ F)(sQ:F 320=aB jF)(mP:F 328=aB jG)
include C mP in
theorem zum{k:Nat}{h:VH}{p:Pr}(hp:p.1.length<=1000):run F (k+3) 328 [bB p,bB p] h=.ok (.bl true) h:=by
 have ea:=zul C (k:=k) (h:=⟨h.n,h.n,h.os⟩) hp;have ei:=Rb C (k:=k+1) (h:=⟨h.n,h.n,h.os⟩) (i:=(p.2:Int));rw[dF mP rfl];have eb:exs (run F (k+2)) jG.body [aB (bB p),aB (bB p)] ⟨h.n,h.n,h.os⟩=.ok (.rt (.bl true)) ⟨h.n,h.n,h.os⟩:=by
  refine jS (gp ?_);rw[ev,show ev (run F (k+2)) (.nQ .tuple (.var 0)) [aB (bB p),aB (bB p)] ⟨h.n,h.n,h.os⟩=.ok (.bl true) ⟨h.n,h.n,h.os⟩from rfl,aD];show ev _ (.and _ _) _ _=_;have c2:ev (run F (k+2)) (.cmp .eq (.bi .len (.cons (.var 0) .nil)) (.cst (.int (2)))) [aB (bB p),aB (bB p)] ⟨h.n,h.n,h.os⟩=.ok (.bl true) ⟨h.n,h.n,h.os⟩:=by rw[ev,kq (x:=bB p) (ws:=[iW p.1,.int p.2]) (aF rfl) rfl,aD,aV,aD];simp only[aN,fU];rfl
  rw[ev,c2,aD];show ev _ (.and _ _) _ _=_;rw[ev,lG (bP (x:=bB p) (y:=.int 0) (z:=iW p.1) (aF rfl) aV rfl) (bP (x:=bB p) (y:=.int 0) (z:=iW p.1) (aF rfl) aV rfl) ea,aD];exact lG (bP (x:=bB p) (y:=.int 1) (z:=.int p.2) (aF rfl) aV rfl) (bP (x:=bB p) (y:=.int 1) (z:=.int p.2) (aF rfl) aV rfl) ei
 show fin h (exs (run F (k+2)) jG.body [aB (bB p),aB (bB p)] ⟨h.n,h.n,h.os⟩)=_;rw[eb];exact dX (aR _) rfl
include C sQ mP in
theorem zp8{k j:Nat}{h:VH}{ps:List Pr}(g:h.get j=aB (.lst (ps.map bB)))(hp:∀p∈ps,p.1.length<=1000)(hz:ps.length<=100000):run F (k+4) 320 [.tup (ps.map bB),.ref j] h=.ok (.bl true) h:=by
 let k0:VH:=⟨h.n,h.n,h.os⟩
 have g0:k0.get j=aB (.lst (ps.map bB)):=g;have nx:∀i,aZ .zip (.tup [.tup (ps.map bB),.ref j]) i k0=aB ((ps[i]?).map λp=>W.tup [bB p,bB p]):=λi=>by
  simp only[aZ,aO,g0,jb];cases ps[i]?<;>rfl
 have el:=F0 (nx:=aZ .zip (.tup [.tup (ps.map bB),.ref j])) (tg:=aX (.many [0,1])) (c:=λ_ h=>.ok (.bl true) h) (e:=ev (run F (k+3)) Fe) (ps:=ps) (p:=λ_=>true) (f:=λ_=>W.bl true) (h:=k0)
  (I:=λρ=>∃x y,ρ=[x,y])
  (λi ρ p Rc hI=>by
    obtain⟨x,y,rfl⟩:=hI;refine⟨.tup [bB p,bB p],[aB (bB p),aB (bB p)],by rw[nx,Rc];rfl,rfl,rfl,?_,⟨_,_,rfl⟩⟩;unfold Fe;exact lG (aF rfl) (aF rfl) (zum C mP (hp p (o5 Rc))))
  (by rw[nx,xD (aR _)];rfl)
  ps.length 0 fuel [aC,aC] [] (lH _) (show _<1000000 by lia) ⟨aC,aC,rfl⟩
 have ey:((ps.drop 0).filter λ_=>true).map (λ_=>W.bl true)=bD ps.length (W.bl true):=by rw[tu,List.filter_eq_self.mpr (λ_ _=>rfl),List.map_const']
 rw[ey,xH,nc]at el;have e2:ev (run F (k+3)) (.lc .zip (.cons (.var 0) (.cons (.var 1) .nil)) (.many [0,1]) 2 [] (.cst (.bl true)) Fe) [aB (.tup (ps.map bB)),aB (.ref j)] k0=.ok (.ref k0.n) (k0.new (.lst (bD ps.length (.bl true)))):=
  Q0 (x:=.tup [.tup (ps.map bB),.ref j]) (aT (aF rfl) (aT (aF rfl) cG)) el (by rw[List.length_replicate];lia)
 have e3:=CN e2 (fj (h:=k0));have eb:exs (run F (k+3)) jF.body [aB (.tup (ps.map bB)),aB (.ref j)] k0=.ok (.rt (.bl true)) (k0.new (.lst (bD ps.length (.bl true)))):=by
  have cd:ev (run F (k+3)) (.or (.not (.kY (.nQ .tuple (.var 0)))) (.cmp .ne (.bi .len (.cons (.var 0) .nil)) (.bi .len (.cons (.var 1) .nil)))) [aB (.tup (ps.map bB)),aB (.ref j)] k0=.ok (.bl false) k0:=by have c1:ev (run F (k+3)) (.not (.kY (.nQ .tuple (.var 0)))) [aB (.tup (ps.map bB)),aB (.ref j)] k0=.ok (.bl false) k0:=rfl;rw[ev,c1,aD];show ev _ (.cmp _ _ _) _ _=_;rw[ev,kq (ws:=ps.map bB) (x:=.tup (ps.map bB)) (aF rfl) rfl,aD,kq (ws:=ps.map bB) (x:=.ref j) (aF rfl) (zdt g0),aD];simp only[aN,fU,C5];rfl
  refine(bf (ρ':=[aB (.tup (ps.map bB)),aB (.ref j)]) (h':=k0) ((pT cd).trans (by rw[exs]))).trans ?_;exact jS (gp e3)
 rw[dF sQ rfl];show fin h (exs (run F (k+3)) jF.body [aB (.tup (ps.map bB)),aB (.ref j)] k0)=_;rw[eb];exact dX (aR _) rfl
end
section
variable{F:Nat->Option Fn}(C:kr F)(sR:F 324=aB lC)
include C sR
theorem zp9{k:Nat}{h:VH}{d c b:Nat}(D:Dk h d c b)(hb:b+13000<1000000000) :
 ∃B h',run F (k+6) 324 [.ref d] h=.ok (Bd.w B) h'/\B.Ok/\B.wd=40/\Dk h' d c (b+13000)/\bO h h' d c:=by
 rw[dF sR rfl];have D0:Dk ⟨h.n,h.n,h.os⟩ d c b:=D.lo;obtain⟨ws,h1,e1,p1,l1,D1,K1⟩:=sG (cl:=run F (k+5)) (P:=λ_ w=>∃r,w=.tup r/\(r.length:Int)=40/\ck 40 8 0 r) (e:=P8) (tl:=[aB (.ref d)]) (m:=200) (lim:=60) (λi h b _ _ D hb=>by
  obtain⟨ws,h',e,a1,a2,a3,a4⟩:=Q6 C (k:=k) (wd:=40) (g:=8) D hb (by lia) (by lia) (by lia);exact⟨.tup ws,h',JH (x:=.ref d) (y:=.int 40) (z:=.int 8) (aF rfl) aV aV e,⟨ws,rfl,by lia,a2⟩,a3,a4⟩) 60 0 aC ⟨h.n,h.n,h.os⟩ b (by lia) (by lia) D0 (by lia)
 replace p1:=uD p1;have hr:∃rs:List (List W),ws=rs.map .tup/\∀r∈rs,(r.length:Int)=40/\ck 40 8 0 r:=by
  clear e1 l1;induction ws with
  |nil=>exact⟨[],rfl,λr hr=>by cases hr⟩
  |cons w ws ih=>
   obtain⟨rs,e1,e2⟩:=ih λw hw=>p1 w (dj _ hw);obtain⟨r,e3,e4⟩:=p1 w dP;refine⟨r::rs,by rw[e3,e1];rfl,λq hq=>?_⟩;rcases fm.mp hq with rfl|hq;exact e4;exact e2 q hq
 obtain⟨rs,rfl,hrs⟩:=hr;rw[bJ]at l1;have D1':=D1.new (o:=.lst (rs.map .tup));obtain⟨t2,h2,e2,a2,b2,D2,K2⟩:=take C.toCoreD (k:=k+2) (m:=4) D1' (by lia) (by lia) (by lia);obtain⟨nf,hnf⟩:=jZ (show 0<=1+t2 by lia);obtain⟨fs,h3,e3,p3,l3,D3,K3⟩:=sG (cl:=run F (k+5)) (P:=λ_ w=>within w 0 ((40:Int)-1)) (e:=P9) (tl:=[aB (.ref d)]) (m:=1) (lim:=nf) (λi h b _ _ D hb=>by
  obtain⟨r,h',e,a1,a2,a3,a4⟩:=take C.toCoreD (k:=k+2) (m:=40) D (by lia) (by lia) (by lia);exact⟨.int r,h',lG (x:=.ref d) (y:=.int 40) (aF rfl) aV e,by simp only[within,bE,eE];lia,a3,a4⟩) nf 0 aC h2 _ (by lia) (by lia) D2 (by lia)
 have D3':=D3.new (o:=.lst fs);have n0:1<=fs.length:=by lia
 have n1:fs.length<=4:=by lia
 obtain⟨ds,h4,e4,p4,l4,D4,K4⟩:=sG (cl:=run F (k+5)) (P:=λ_ w=>door w fs.length) (e:=Qa) (tl:=[aB (.ref d),aB (.tup fs)]) (m:=5) (lim:=40) (λi h b _ _ D hb=>by
  obtain⟨w,h',e,a1,a2,a3⟩:=Q7 C (k:=k+1) (nf:=fs.length) D hb (by lia) (by lia);exact⟨w,h',lG (x:=.ref d) (y:=.int fs.length) (aF rfl) (kq (ws:=fs) (x:=.tup fs) (aF rfl) rfl) e,a1,a2,a3⟩) 40 0 aC (h3.new (.lst fs)) _ (by lia) (by lia) D3' (by lia)
 have s1:=wN (cl:=run F (k+5)) (a:=.cons (.cst (.int (60))) .nil) (ρ:=[aB (.ref d),aC,aC]) (h:=⟨h.n,h.n,h.os⟩) (h1:=⟨h.n,h.n,h.os⟩) (n:=60) (ow:=1) (ix:=[0]) (aT aV cG) (by lia) e1 (by rw[bJ];lia);have s2:=wN (cl:=run F (k+5)) (a:=.cons (.op .add (.cst (.int (1))) (.call 5 (.cons (.var 0) (.cons (.cst (.int (4))) .nil)))) .nil) (ρ:=[aB (.ref d),aB (.tup (rs.map .tup)),aC]) (h:=h1.new (.lst (rs.map .tup))) (h1:=h2) (n:=nf) (ow:=1) (ix:=[0])
  (aT (pS (x:=.int 1) (y:=.int t2) aV (lG (x:=.ref d) (y:=.int 4) (aF rfl) aV e2) (by show Res.ok (W.int (1+t2)) h2=_;rw[hnf])) cG) (by lia) e3 (by lia)
 have s3:=wN (cl:=run F (k+5)) (a:=.cons (.cst (.int (40))) .nil) (ρ:=[aB (.ref d),aB (.tup (rs.map .tup)),aB (.tup fs)]) (h:=h3.new (.lst fs)) (h1:=h3.new (.lst fs)) (n:=40) (ow:=1) (ix:=[0,2]) (aT aV cG) (by lia) e4 (by lia);have body:exs (run F (k+5)) lC.body [aB (.ref d),aC,aC] ⟨h.n,h.n,h.os⟩=.ok (.rt (Bd.w ⟨40,8,rs,fs,ds⟩)) (h4.new (.lst ds)):=by refine(bf (cN s1)).trans ?_;refine(bf (cN s2)).trans ?_;exact jS (gp (xj (aT aV (aT aV (aT (aF (x:=.tup (rs.map .tup)) rfl) (aT (aF (x:=.tup fs) rfl) (aT s3 cG))))) rfl))
 have KK:bO ⟨h.n,h.n,h.os⟩ (h4.new (.lst ds)) d c:=((((K1.new.trans K2).trans K3).new).trans K4).new;obtain⟨h8,e8,D8,K8⟩:=wM (cl:=run F (k+5)) (fl:=.nx []) body (.inr ⟨b,D⟩) (D4.new.mono (show _<=b+13000 by lia)) KK;refine⟨⟨40,8,rs,fs,ds⟩,h8,e8,⟨by show(1:Int)<=40;lia,by show(40:Int)<=40;lia,by show(0:Int)<=8;lia,by show(8:Int)<=8;lia,by show rs.length<=60;lia,hrs,n0,n1,uD p3,by show(ds.length:Int)=40;lia,uD p4⟩,rfl,D8,K8⟩
end
structure ES(B:Bd)(d c:Nat)(h:VH)(a:Nat)(rs:List Nat)(ps:List Pr):Prop where
 ga:h.get a=aB (.lst (rs.map .ref))
 len:rs.length=ps.length
 at_:∀(i r:Nat)(p:Pr),rs[i]?=aB r->ps[i]?=aB p->h.get r=aB (.lst [bB p,.int (B.co p),iW (B.be p)])
 na:a≠d/\a≠c
 nr:∀r∈rs,r≠d/\r≠c
section
variable{B:Bd}{d c:Nat}{h h':VH}{a:Nat}{rs:List Nat}{ps:List Pr}
theorem ES.keep(E:ES B d c h a rs ps)(K:bO h h' d c):ES B d c h' a rs ps:=
 ⟨K.get _ _ E.na.1 E.na.2 E.ga,E.len,λi r p h1 h2=>by
  have n:=E.nr r (o5 h1);exact K.get _ _ n.1 n.2 (E.at_ i r p h1 h2),E.na,E.nr⟩
theorem ES.gm(E:ES B d c h a rs ps)(G:Gm h h'):ES B d c h' a rs ps:=
 ⟨by rw[G.get _ (cR E.ga)];exact E.ga,E.len,λi r p h1 h2=>by
  have:=E.at_ i r p h1 h2;rw[G.get _ (cR this)];exact this,E.na,E.nr⟩
theorem Dk.gm{b:Nat}(D:Dk h d c b)(G:Gm h h'):Dk h' d c b:=by obtain⟨ne,ns,cells,p,q,a1,a2,a3⟩:=D;exact⟨ne,ns,cells,p,q,by rw[G.get _ (cR a1)];exact a1,by rw[G.get _ (cR a2)];exact a2,a3⟩
theorem Dk.lt{b:Nat}(D:Dk h d c b):d<h.n/\c<h.n:=by obtain⟨_,ns,cells,p,q,a1,a2,_⟩:=D;exact⟨cR a1,cR a2⟩
end
theorem zld{B:Bd}{g nf:Nat}{ls:List Int}{x:Nat}:((bx g nf).filter B.out).filter (λp=>decide (B.co p=(x:Int))&&decide (B.be p=ls))=(bx g nf).filter (B.jT ls x):=by rw[List.filter_filter];refine jK (λf=>(bx g nf).filter f) (funext λp=>?_);unfold Bd.jT;cases B.out p<;>cases decide (B.co p=(x:Int))<;>cases decide (B.be p=ls)<;>rfl
structure F1(F:Nat->Option Fn):Prop where
 c:CJ F
 p:kr F
 gD:F 207=aB iL
 mO:F 294=aB jE
 sP:F 296=aB lB
 sQ:F 320=aB jF
 sR:F 324=aB lC
 mP:F 328=aB jG
 xq:F 700=aB Ff
 Ke:F 701=aB Fi
section
variable{F:Nat->Option Fn}(C:F1 F)
include C
theorem Rf{k a g:Nat}{B:Bd}{d c:Nat}{h:VH}{rs:List Nat}{ls:List Int}{x:Int}{X:E}{ρ:En}(b:B.Ok)(hg:B.gr=g)(E:ES B d c h a rs ((bx g B.fd.length).filter B.out))(hl:(ls.length:Int)=B.gr)(bi:cD ls)(x0:0<=x)(x1:x<B.wd)
 (r3:ρ[3]?=aB (aB B.w)) (r4:ρ[4]?=aB (aB (.ref a))) (r5:ρ[5]?=aB (aB (iW ls))) (eX:ev (run F (k+10)) X ρ h=.ok (.int x) h) :
 ∃h',ev (run F (k+10)) (.call 320 (.cons (.call 219 (.cons (.var 3) (.cons (.var 5) (.cons X .nil)))) (.cons (.call 700 (.cons (.var 4) (.cons (.var 5) (.cons X .nil)))) .nil))) ρ h=.ok (.bl true) h'/\Gm h h':=by
 obtain⟨x,rfl⟩:=jZ x0;have g8:g<=8:=by have:=b.g2;lia
 have e1:=zyq C.c (k:=k) (h:=h) (ls:=ls) (c:=x) b hg hl bi x1;have hz:((bx g B.fd.length).filter B.out).length<=100000:=by have h1:=xE B.out (bx g B.fd.length);have h2:=yF (g:=g) (nf:=B.fd.length) g8 b.f2;lia
 obtain⟨j,h',e2,g2,G2,l2⟩:=zyr C.xq (k:=k+9) (a:=a) (B:=B) (h:=h) (ls:=ls) (c:=(x:Int)) E.ga E.len hz E.at_;rw[zld]at g2;have e3:=zp8 C.c C.sQ C.mP (k:=k+6) (j:=j) (h:=h') g2 (λp hp=>by
  have:=(JU (Dj.mp hp).1).1;lia) (by
  have h1:=xE (B.jT ls x) (bx g B.fd.length);have h2:=yF (g:=g) (nf:=B.fd.length) g8 b.f2;lia)
 exact⟨h',lG (JH (aF r3) (aF r5) eX e1) (JH (aF r4) (aF r5) eX e2) e3,G2⟩
end
structure CL(B:Bd)(h:VH)(m:Nat)(ws:List W):Prop where
 g:h.get m=aB (.lst ws)
 ok:∀w∈ws,∃x:Int,w=.int x/\0<=x/\x<B.wd
 ne:0<ws.length
 sz:ws.length<=100
noncomputable abbrev cP(sc dk t:W)(B:Bd)(a:Nat)(ls:List Int)(m:Nat)(x7 x8:Option W):En:=[aB sc,aB dk,aB t,aB B.w,aB (.ref a),aB (iW ls),aB (.ref m),x7,x8]
section
variable{F:Nat->Option Fn}(C:F1 F)
include C
theorem zys{k a g m:Nat}{B:Bd}{d c:Nat}{h:VH}{rs:List Nat}{ls:List Int}{ws:List W}{sc dk t:W}{x7 x8:Option W}(b:B.Ok)(hg:B.gr=g)(E:ES B d c h a rs ((bx g B.fd.length).filter B.out))(hl:(ls.length:Int)=B.gr)(bi:cD ls)(L:CL B h m ws) :
 ∃h',exs (run F (k+10)) (.seq (.«for» .seq (.slc (.var 6) false (.cst .aL) true (.cst (.int (10)))) (.one 8) Fg) (.seq (.ret (.call 320 (.cons (.call 219 (.cons (.var 3) (.cons (.var 5) (.cons (.idx (.var 6) (.cst (.int (0)))) .nil)))) (.cons (.call 700 (.cons (.var 4) (.cons (.var 5) (.cons (.idx (.var 6) (.cst (.int (0)))) .nil)))) .nil)))) .skip)) (cP sc dk t B a ls m x7 x8) h=.ok (.rt (.bl true)) h':=by
 let s:=iU ws aC (aB 10);have hs:∀w∈s,w∈ws:=λw hw=>List.mem_of_mem_drop (yV hw);have sl:s.length<=100:=by
  have:s.length<=ws.length:=by show((ws.drop _).take _).length<=_;rw[jX,jY];lia
  have:=L.sz;lia
 let h1:=h.new (.lst s);have e0:ev (run F (k+10)) (.slc (.var 6) false (.cst .aL) true (.cst (.int (10)))) (cP sc dk t B a ls m x7 x8) h=.ok (.ref h.n) h1:=
  JI (x:=.ref m) (l:=.aL) (u:=.int 10) (aF rfl) aV aV rfl rfl (by simp only[jA,L.g];rfl)
 obtain⟨ρ',h',e1,hI⟩:=CB (nx:=aZ .seq (.ref h.n)) (tg:=aX (.one 8)) (b:=exs (run F (k+10)) Fg) (n:=s.length)
  (I:=λi ρ h2=>(∃x8,ρ=cP sc dk t B a ls m x7 x8)/\Gm h1 h2)
  (λi ρ h2 hi hI=>by
    obtain⟨⟨x8,rfl⟩,G⟩:=hI;have gs:h2.get h.n=aB (.lst s):=by rw[G.get _ (iO _)];exact fj
    obtain⟨x,hx,x0,x1⟩:=L.ok _ (hs _ (ir hi));have E2:=(E.gm (Gm.refl.new (o:=.lst s))).gm G;obtain⟨h3,e3,G3⟩:=Rf C (k:=k) (X:=.var 8) (ρ:=cP sc dk t B a ls m x7 (aB (.int x))) b hg E2 hl bi x0 x1 rfl rfl rfl (aF rfl);refine⟨.int x,cP sc dk t B a ls m x7 (aB (.int x)),cP sc dk t B a ls m x7 (aB (.int x)),h3,?_,rfl,?_,⟨_,rfl⟩,G.trans G3⟩;rw[uG gs,ig hi,hx];unfold Fg;have en:ev (run F (k+10)) (.not (.kY (.call 320 (.cons (.call 219 (.cons (.var 3) (.cons (.var 5) (.cons (.var 8) .nil)))) (.cons (.call 700 (.cons (.var 4) (.cons (.var 5) (.cons (.var 8) .nil)))) .nil))))) (cP sc dk t B a ls m x7 (aB (.int x))) h2=.ok (.bl false) h3:=by rw[ev,ev,e3,aD];rfl
    exact(bf (ρ':=cP sc dk t B a ls m x7 (aB (.int x))) (h':=h3) ((pT en).trans (by rw[exs]))).trans (by rw[exs]))
  (λρ h2 hI=>by
    obtain⟨⟨x8,rfl⟩,G⟩:=hI;have gs:h2.get h.n=aB (.lst s):=by rw[G.get _ (iO _)];exact fj
    rw[uG gs,xD (aR _)])
  s.length 0 fuel (cP sc dk t B a ls m x7 x8) h1 (lH _) (show _<1000000 by lia) ⟨⟨x8,rfl⟩,Gm.refl⟩
 obtain⟨⟨Kf,rfl⟩,G⟩:=hI;have E2:=(E.gm (Gm.refl.new (o:=.lst s))).gm G;have gm:h'.get m=aB (.lst ws):=by rw[G.get _ (pW (cR L.g)),iB (cR L.g)];exact L.g
 obtain⟨x,hx,x0,x1⟩:=L.ok _ (ir L.ne);have eX:ev (run F (k+10)) (.idx (.var 6) (.cst (.int (0)))) (cP sc dk t B a ls m x7 Kf) h'=.ok (.int x) h':=
  bP (x:=.ref m) (y:=.int 0) (aF rfl) aV (by
   simp only[bF,gm];refine pG (j:=0) ?_;rw[ig L.ne,hx])
 obtain⟨h3,e3,G3⟩:=Rf C (k:=k) (X:=.idx (.var 6) (.cst (.int (0)))) (ρ:=cP sc dk t B a ls m x7 Kf) b hg E2 hl bi x0 x1 rfl rfl rfl eX;refine⟨h3,?_⟩;refine(bf (ρ':=cP sc dk t B a ls m x7 Kf) (h':=h') ((jJ e0).trans e1)).trans ?_;exact jS (gp e3)
theorem zyt{k a g m:Nat}{B:Bd}{d c bb:Nat}{h:VH}{rs:List Nat}{ls:List Int}{ws:List W}{sc:W}{t:Int}(b:B.Ok)(hg:B.gr=g)(E:ES B d c h a rs ((bx g B.fd.length).filter B.out))(hl:(ls.length:Int)=B.gr)(bi:cD ls)(L:CL B h m ws)(nm:m≠d/\m≠c)(Rg:ws.length<=40)(t0:0<=t)(t1:t<1000)(D:Dk h d c bb)(hb:bb<1000000) :
 ∃ls' m' BC x7 x8 h',exs (run F (k+3)) (.ite (.and (.cmp .eq (.op .mod (.var 2) (.cst (.int (2)))) (.cst (.int (0)))) (.cmp .gt (.bi .len (.cons (.var 4) .nil)) (.cst (.int (0))))) (.seq (.vN [7,8,5] (.idx (.var 4) (.call 5 (.cons (.var 1) (.cons (.bi .len (.cons (.var 4) .nil)) .nil))))) (.seq (.set 6 (.op .add (.lst (.cons (.var 8) .nil)) (.var 6))) .skip)) .skip) (cP sc (.ref d) (.int t) B a ls m aC aC) h=.ok (.nx (cP sc (.ref d) (.int t) B a ls' m' x7 x8)) h'/\
  ES B d c h' a rs ((bx g B.fd.length).filter B.out)/\(ls'.length:Int)=B.gr/\cD ls'/\CL B h' m' BC:=by
 have el:∀x7 x8,ev (run F (k+3)) (.bi .len (.cons (.var 4) .nil)) (cP sc (.ref d) (.int t) B a ls m x7 x8) h=.ok (.int (rs.length:Int)) h:=λx7 x8=>by
  have:=kq (cl:=run F (k+3)) (a:=.var 4) (ρ:=cP sc (.ref d) (.int t) B a ls m x7 x8) (h:=h) (h1:=h) (x:=.ref a) (ws:=rs.map .ref) (aF rfl) (zdt E.ga);rw[bJ]at this;exact this
 have em:ev (run F (k+3)) (.cmp .eq (.op .mod (.var 2) (.cst (.int (2)))) (.cst (.int (0)))) (cP sc (.ref d) (.int t) B a ls m aC aC) h=.ok (.bl (decide (t % 2=0))) h:=by rw[ev,pS (x:=.int t) (y:=.int 2) (r:=.ok (.int (t % 2)) h) (aF rfl) aV rfl,aD,aV,aD];simp only[aN,fU];rfl
 have eg:ev (run F (k+3)) (.cmp .gt (.bi .len (.cons (.var 4) .nil)) (.cst (.int (0)))) (cP sc (.ref d) (.int t) B a ls m aC aC) h=.ok (.bl (decide ((0:Int)<rs.length))) h:=by rw[ev,el,aD,aV,aD];rfl
 have ec:ev (run F (k+3)) (.and (.cmp .eq (.op .mod (.var 2) (.cst (.int (2)))) (.cst (.int (0)))) (.cmp .gt (.bi .len (.cons (.var 4) .nil)) (.cst (.int (0))))) (cP sc (.ref d) (.int t) B a ls m aC aC) h=.ok (.bl (decide (t % 2=0)&&decide ((0:Int)<rs.length))) h:=by
  rw[ev,em,aD];cases decide (t % 2=0)with|true=>exact eg|false=>rfl
 cases z:(decide (t % 2=0)&&decide ((0:Int)<rs.length))with
 |false=>
  rw[z]at ec;exact⟨ls,m,ws,aC,aC,h,(pT ec).trans (by rw[exs]),E,hl,bi,L⟩
 |true=>
  rw[z]at ec;have hr:0<rs.length:=by rw[bE,eE,eE]at z;lia
  have g8:g<=8:=by have:=b.g2;lia
  have hz:rs.length<=1024:=by rw[E.len];have h1:=xE B.out (bx g B.fd.length);have h2:=yF (g:=g) (nf:=B.fd.length) g8 b.f2;lia
  obtain⟨i,h1,e1,i0,i1,D1,K1⟩:=take C.p.toCoreD (k:=k) (m:=(rs.length:Int)) D (by lia) (by lia) (by lia);obtain⟨i,rfl⟩:=jZ i0;have hi:i<rs.length:=by lia
  have hp:i< ((bx g B.fd.length).filter B.out).length:=by rw[<-E.len];exact hi
  have E1:=E.keep K1;have ge:=E1.at_ i _ _ (ig hi) (ig hp);have hm:=Dj.mp (ir hp);generalize ((bx g B.fd.length).filter B.out)[i]=p at ge hm;obtain⟨q1,q2,q3⟩:=JU hm.1;obtain⟨f1,f2,f3⟩:=b.col q3;have ok:=FN B.rows (B.col p.2) 0 p.1 b.r2 f2 f3 (by decide) (by decide) q2;have gm:h1.get m=aB (.lst ws):=K1.get _ _ nm.1 nm.2 L.g;let h2:=h1.new (.lst [.int (B.co p)]);let h3:=h2.new (.lst ([.int (B.co p)]++ws));refine⟨B.be p,h2.n,[.int (B.co p)]++ws,aB (bB p),aB (.int (B.co p)),h3,?_,(E1.gm (Gm.refl.new (o:=.lst [.int (B.co p)]))).gm (Gm.refl.new (o:=.lst ([.int (B.co p)]++ws))),?_,ok.l2,⟨fj,λw hw=>?_,by simp,by rw[eF,xC];lia⟩⟩;rw[uH ec];refine(bf (ρ':=cP sc (.ref d) (.int t) B a (B.be p) m (aB (bB p)) (aB (.int (B.co p)))) (h':=h1) ?_).trans ?_;have ex:ev (run F (k+3)) (.idx (.var 4) (.call 5 (.cons (.var 1) (.cons (.bi .len (.cons (.var 4) .nil)) .nil)))) (cP sc (.ref d) (.int t) B a ls m aC aC) h=.ok (.ref rs[i]) h1:=
   bP (x:=.ref a) (y:=.int (i:Int)) (aF rfl) (lG (x:=.ref d) (y:=.int (rs.length:Int)) (aF rfl) (el aC aC) e1) (by
    simp only[bF,E1.ga];exact pG (by rw[jb,ig hi];rfl))
  rw[exs,ex,aD];simp only[aX,zdt ge,iV];rfl;have ea:ev (run F (k+3)) (.op .add (.lst (.cons (.var 8) .nil)) (.var 6)) (cP sc (.ref d) (.int t) B a (B.be p) m (aB (bB p)) (aB (.int (B.co p)))) h1=.ok (.ref h2.n) h3:=
   pS (x:=.ref h1.n) (y:=.ref m) (h1:=h2) (h2:=h2) (fy (aT (aF rfl) cG) rfl) (aF rfl) (CH fj ((iB (cR gm)).trans gm) (by simp;lia))
  exact(bf (cN ea)).trans (by rw[exs];rfl);have:=ok.l1;show(((B.aU p.1 p.2).ls.length:Nat):Int)=_;unfold Bd.aU;rw[this,q1,hg];rcases kD.mp hw with hw|hw
  rw[mS.mp hw];exact⟨_,rfl,ok.c4.1,ok.c4.2⟩;exact L.ok w hw
end
theorem zyu{cl:Call}{a:E}{ρ:En}{h h1:VH}{n:Nat}(ea:ev cl a ρ h=.ok (.int n) h1)(hn:n<=100000):ev cl (.bi .qR (.cons a .nil)) ρ h=.ok (.ref h1.n) (h1.new (.lst (fP n))):=by rw[ev,aT ea cG,aD];show gS [.int (n:Int)] h1=_;have e2:((n:Int)).toNat=n:=uU n;simp only[gS,e2];rw[iE (by lia:(0:Int)<=(n:Int)),oK (by lia)];rfl
section
variable{F:Nat->Option Fn}(C:F1 F)
include C
theorem CO{ns:List Int}(hl:ns.length<=63):Cc (run F 30 701 [.fz (ns.map .int)] ⟨0,0,[]⟩)=true:=by
 rw[show(30:Nat)=29+1 from rfl,dF C.Ke rfl];obtain⟨h1,e1,D1⟩:=JG C.p.toCoreD (k:=28) (h:=⟨0,0,[]⟩) hl;generalize hsc:W.fz (ns.map .int)=sc at *;clear hl hsc;have D1:Dk h1 1 0 0:=D1;have e1:run F (28+1) 3 [sc] ⟨0,0,[]⟩=.ok (.ref 1) h1:=e1;obtain⟨t,h2,e2,t0,t1,D2,K2⟩:=take C.p.toCoreD (k:=26) (m:=8) D1 (by lia) (by lia) (by lia);obtain⟨B0,h3,e3,b0,_,_,_,D3,K3⟩:=Z5 C.p (k:=23) (mw:=9) (mr:=8) (mg:=4) D2 (by lia) (by lia) (by lia) (by lia) (by lia) (by lia) (by lia);obtain⟨B,h4,eI,b,hw,D4⟩:∃B h4,exs (run F 29) (.ite (.cmp .eq (.var 2) (.cst (.int (0)))) (.seq (.set 3 (.call 324 (.cons (.var 1) .nil))) .skip) .skip) [aB sc,aB (.ref 1),aB (.int t),aB B0.w,aC,aC,aC,aC,aC] h3=.ok (.nx [aB sc,aB (.ref 1),aB (.int t),aB (Bd.w B),aC,aC,aC,aC,aC]) h4/\B.Ok/\(t=0->B.wd=40)/\Dk h4 1 0 30000:=by
  have ec:ev (run F 29) (.cmp .eq (.var 2) (.cst (.int (0)))) [aB sc,aB (.ref 1),aB (.int t),aB B0.w,aC,aC,aC,aC,aC] h3=.ok (.bl (decide (t=0))) h3:=by rw[ev,aF (x:=.int t) rfl,aD,aV,aD];simp only[aN,fU];rfl
  by_cases z:t=0;rw[iE z]at ec;obtain⟨B,h4,e4,b,hw,D4,K4⟩:=zp9 C.p C.sR (k:=23) D3 (by lia);refine⟨B,h4,?_,b,λ_=>hw,D4.mono (by lia)⟩;rw[uH ec];exact(bf (cN (wX (x:=.ref 1) (aF rfl) e4))).trans (by rw[exs];rfl);rw[gF z]at ec;exact⟨B0,h3,(pT ec).trans (by rw[exs]),b0,λq=>absurd q z,D3.mono (by lia)⟩
 obtain⟨g,hg⟩:=jZ b.g1;have g8:g<=8:=by have:=b.g2;lia
 obtain⟨wd,J0⟩:=jZ (show 0<=B.wd by have:=b.w1;lia);have w1:=b.w1;have w2:=b.w2;obtain⟨a,h5,rs,e5,ga,len,at_,G5,la,lr⟩:=zuk C.gD C.mO C.sP (k:=27) (h:=h4) b hg;obtain⟨d4,c4⟩:=D4.lt;have D5:=D4.gm G5;have E5:ES B 1 0 h5 a rs ((bx g B.fd.length).filter B.out):=⟨ga,len,at_,⟨by lia,by lia⟩,λr hr=>by have:=lr r hr;exact⟨by lia,by lia⟩⟩
 obtain⟨ls,h6,e6,l6,b6,D6,K6⟩:=Zz C.p.toCoreD (k:=25) (g:=g) C.c.JL D5 (by lia) g8;have E6:=E5.keep K6;let h7:=h6.new (.lst (fP wd));have D7:Dk h7 1 0 _:=D6.new (o:=.lst (fP wd));have E7:ES B 1 0 h7 a rs _:=E6.gm (Gm.refl.new (o:=.lst (fP wd)));obtain⟨d6,c6⟩:=D6.lt;have li:(fP wd).length=wd:=by unfold fP;rw[bJ,List.length_range']
 obtain⟨m,ws,h9,eJ,E9,L9,nm,Rg,D9⟩:∃m ws h9,exs (run F 29) (.ite (.cmp .eq (.var 2) (.cst (.int (0)))) (.seq (.set 6 (.lst (.cons (.call 5 (.cons (.var 1) (.cons (.cst (.int (40))) .nil))) .nil))) .skip) .skip) [aB sc,aB (.ref 1),aB (.int t),aB (Bd.w B),aB (.ref a),aB (iW ls),aB (.ref h6.n),aC,aC] h7=.ok (.nx (cP sc (.ref 1) (.int t) B a ls m aC aC)) h9/\
  ES B 1 0 h9 a rs ((bx g B.fd.length).filter B.out)/\CL B h9 m ws/\(m≠1/\m≠0)/\ws.length<=40/\Dk h9 1 0 40000:=by
  have ec:ev (run F 29) (.cmp .eq (.var 2) (.cst (.int (0)))) [aB sc,aB (.ref 1),aB (.int t),aB (Bd.w B),aB (.ref a),aB (iW ls),aB (.ref h6.n),aC,aC] h7=.ok (.bl (decide (t=0))) h7:=by rw[ev,aF (x:=.int t) rfl,aD,aV,aD];simp only[aN,fU];rfl
  by_cases z:t=0;rw[iE z]at ec;have Qq:=hw z;obtain⟨x,h8,e8,x0,x1,D8,K8⟩:=take C.p.toCoreD (k:=26) (m:=40) D7 (by lia) (by lia) (by lia);obtain⟨d8,c8⟩:=D8.lt;refine⟨h8.n,[.int x],h8.new (.lst [.int x]),?_,(E7.keep K8).gm (Gm.refl.new (o:=.lst [.int x])),⟨fj,λw hw=>⟨x,mS.mp hw,x0,by lia⟩,by simp,by simp⟩,⟨by lia,by lia⟩,by simp,(D8.new (o:=.lst [.int x])).mono (by lia)⟩;rw[uH ec];exact(bf (cN (fy (aT (lG (x:=.ref 1) (y:=.int 40) (aF rfl) aV e8) cG) rfl))).trans (by rw[exs];rfl);rw[gF z]at ec;refine⟨h6.n,fP wd,h7,(pT ec).trans (by rw[exs]),E7,⟨fj,λw hw=>?_,by lia,by lia⟩,⟨by lia,by lia⟩,by lia,D7.mono (by lia)⟩;unfold fP at hw;obtain⟨i,hi,rfl⟩:=p9.mp hw;have:=List.mem_range'_1.mp hi;exact⟨_,rfl,by lia,by lia⟩
 obtain⟨ls',m',BC,x7,x8,h10,eK,E10,l10,b10,L10⟩:=zyt C (k:=26) (sc:=sc) b hg E9 (by rw[l6,hg]) b6 L9 nm Rg t0 (by lia) D9 (by lia);obtain⟨h11,eT⟩:=zys C (k:=19) (sc:=sc) (dk:=.ref 1) (t:=.int t) (x7:=x7) (x8:=x8) b hg E10 l10 b10 L10;have eb:exs (run F 29) Fi.body [aB sc,aC,aC,aC,aC,aC,aC,aC,aC] ⟨0,0,[]⟩=.ok (.rt (.bl true)) h11:=by
  refine(bf (cN (h1:=h1) (x:=.ref 1) (wX (aF rfl) e1))).trans ?_;refine(bf (cN (h1:=h2) (x:=.int t) (lG (x:=.ref 1) (y:=.int 8) (aF rfl) aV e2))).trans ?_;have e3':ev (run F 29) (.call 129 (.cons (.var 1) (.cons (.cst (.int (9))) (.cons (.cst (.int (8))) (.cons (.cst (.int (4))) .nil))))) [aB sc,aB (.ref 1),aB (.int t),aC,aC,aC,aC,aC,aC] h2=.ok B0.w h3:=
   uF (ys:=[.ref 1,.int 9,.int 8,.int 4]) (h1:=h2) (aT (aF rfl) (aT aV (aT aV (aT aV cG)))) e3
  refine(bf (cN (h1:=h3) (x:=B0.w) e3')).trans ?_;refine(bf eI).trans ?_;refine(bf (cN (h1:=h5) (x:=.ref a) (wX (x:=B.w) (aF rfl) e5))).trans ?_;refine(bf (cN (h1:=h6) (x:=iW ls) (lG (x:=.ref 1) (y:=.int (g:Int)) (aF rfl) (bP (x:=B.w) (aF rfl) aV (by rw[<-hg];rfl)) e6))).trans ?_;refine(bf (cN (h1:=h7) (x:=.ref h6.n) (zyu (n:=wd) (bP (x:=B.w) (aF rfl) aV (by rw[<-J0];rfl)) (by lia)))).trans ?_;refine(bf eJ).trans ?_;refine(bf eK).trans ?_;exact eT
 show Cc (fin ⟨0,0,[]⟩ (exs (run F 29) Fi.body [aB sc,aC,aC,aC,aC,aC,aC,aC,aC] ⟨0,0,[]⟩))=true;rw[eb];have:∃h2,fin ⟨0,0,[]⟩ (.ok (.rt (.bl true)) h11)=.ok (.bl true) h2:=by show ∃h2,leave ⟨0,0,[]⟩ (.bl true) h11=.ok (.bl true) h2;unfold leave;split<;>exact⟨_,rfl⟩
 obtain⟨h12,e12⟩:=this;rw[e12];rfl
end
end RF
namespace HD
open PySem PySem.W PySem.Calls PyProof.Rows
noncomputable section
noncomputable def p:ai:=PySem.Challenge.pw_ballrockers_k59_undone
noncomputable abbrev S(x:String):Str:=Str.ofString x
noncomputable abbrev U(x:String)(t:Tok):aa:=Value.str (S x) t
noncomputable abbrev R(a:ah):aa:=Value.ref a
noncomputable abbrev I(i:Int)(t:Tok):aa:=Value.int i t
noncomputable abbrev E(P:Params)(x:String)(t:Tok)(v:aa):DictEntry:=DictEntry.mk (PyData.keyHash P (S x)) (Value.str (S x) t) v
noncomputable abbrev N(o:Obj)(l r:BT):BT:=BT.node o l r
noncomputable abbrev Z:BT:=BT.nil
noncomputable abbrev L(o:Obj):BT:=BT.node o Z Z
noncomputable abbrev Y(c:String)(d:Data):Obj:=Obj.mk (Value.type c) aC d #[]
noncomputable abbrev X(d:Data):Obj:=Obj.mk Value.none aC d #[]
noncomputable def xr(l:List aq)(i:Nat):aq:=l.getD i (Stmt.Pass ⟨0,0,0,0⟩)
noncomputable def Rh:aq->List aq|.FunctionDef _ _ b _ _ _ _ _ _ _=>b|.ClassDef _ _ _ b _ _ _ _ _ _ _=>b|_=>[]
noncomputable def Rj:aq->Arguments|.FunctionDef _ a _ _ _ _ _ _ _ _=>a|_=>⟨[],[],aC,[],[],aC,[]⟩
noncomputable def Rk:aq->ay|.FunctionDef _ _ _ _ _ _ s _ _ _=>s|_=>p.main.scope
noncomputable def fb(i:Nat):List aq:=Rh (xr p.main.body i)
noncomputable def fa(i:Nat):Arguments:=Rj (xr p.main.body i)
noncomputable def fs(i:Nat):ay:=Rk (xr p.main.body i)
noncomputable def cb(i j:Nat):List aq:=Rh (xr (fb i) j)
noncomputable def ca(i j:Nat):Arguments:=Rj (xr (fb i) j)
noncomputable def cs(i j:Nat):ay:=Rk (xr (fb i) j)
noncomputable abbrev O:aa:=Value.none
noncomputable abbrev J(i:Int):aa:=Value.int i 0
noncomputable abbrev V(t:Tok):aa:=Value.str (S "/claim/cut.py") t
noncomputable abbrev A(l:Array aa):Data:=Data.fields l
noncomputable abbrev B(f:au):Data:=Data.func f
noncomputable abbrev G(x:String)(i:Nat)(g:ah)(c:List (Str×ah))(d k o m:aa)(n:Option ah)(cd ct:aa)(b:ah):au:=FuncData.mk (S x) (S x) (fa i) (FuncBody.stmts (fb i)) (fs i) g c d k o m n cd ct b
section
variable(P:Params)
noncomputable def N0:Nat:=4980
noncomputable def lo:List Str:=[S "fallen",S "heading_behind",S "come_down"]
noncomputable def keep:List Nat:=[1,2,3,4,5,7,8,9,10,12,13,14,15,16,17,18,19,20,21,22,23,24,25,26,27,28,30,31,32,37,38,40,41,42,43,44,45,46,47,48,49,50,51,52,53,54,55,56,57,58]
noncomputable def life:Life:=(Life.mk [] [] [] 0 [] [] false #[] [] 0 false false false 0 [2000,10,10] false 0 true [] [] 0 false)
noncomputable def m0:Nat:=11
noncomputable def ann:Option aa:=(aB (R 6))
noncomputable def env:Env:={scope:=p.main.scope,locals:=mainNs,globals:=mainNs,cells:=[],code:=(R 13),frame:=aB 14}
noncomputable def bd:List aq:=behindTheImports p
noncomputable def cd:Code:=Code.body bd env
noncomputable def fr:List Frame:=[topFrame (Pos.mk 0 0 0 0)]
noncomputable abbrev qC(n:String)(t:Nat)(l k:Int)(r m:Nat):Obj:=Y "code" (A #[U n t,U n (t+1),V (t+2),J l,J k,J 0,J 0,J 3,R r,Value.bool true,J 181,R (r+1),O,R (r+2),R (r+3),R (r+4),J (Int.ofNat m),J l,V (m+1)])
noncomputable abbrev qD(n:String)(t:Nat)(l k:Int)(r m:Nat):Obj:=Y "code" (A #[U n t,U n (t+1),V (t+2),J l,J k,J 0,J 0,J 3,R r,Value.bool true,J 181,R (r+1),O,O,O,R (r+2),J (Int.ofNat m),J l,V (m+1)])
noncomputable def qU:Nat->List String->List aa|_,[]=>[]|t,x::r=>U x t::qU (t+1) r
noncomputable abbrev qT(t:Nat)(l:List String):Obj:=Y "tuple" (Data.seq (qU t l).toArray 0)
noncomputable abbrev qF(n:String)(i:Nat)(u:aa)(r:ah):Obj:=Y "function" (B (G n i 3 [] O O O u aC (R r) O 0))
noncomputable abbrev qG(n:String)(i:Nat):Obj:=X (B (G n i 0 [] O O O O aC O O 0))
noncomputable def qJ:List (Int×Nat)->List aa|[]=>[]|(a,b)::r=>J a::J 0::R b::qJ r
noncomputable def qO:List Obj->List Obj|x::_::r=>x::qO r|x=>x
noncomputable def qE:List Obj->List Obj|_::y::r=>y::qE r|_=>[]
noncomputable def qB:Nat->List Obj->BT|f+1,x::r=>N x (qB f (qO r)) (qB f (qE r))|_,_=>Z
 def a0:=(Y "tuple" (Data.seq #[] 0))
 def a1:=(X (A #[]))
 def a2:=(Y "code" (A #[(U "<module>" 182),(U "<module>" 183),(V 184),(J 1),(J 0),(J 0),(J 0),(J 0),(R 11),(Value.bool false),(J 181),(R 12),O,O,O,O,(J 185),(J 1),(V 186)]))
 def a3:=(Obj.mk (Value.type "frame") aC Data.plain #[(aB (R 13)),(aB (R 3)),(aB (R 3)),aC,(aB (U "__main__" 164)),aC,(aB (R 0))])
 def ha:az:=Heap.mk (Array.mk [(boot_o_0 P),(boot_o_1 P),(boot_o_2 P),(boot_o_3 P),(boot_o_4 P),(boot_o_5 P),(boot_o_6 P),(boot_o_7 P),(boot_o_8 P),(boot_o_9 P),(boot_o_10 P),a0,a1,a2,a3]) (Life.mk [] [] [] 0 [] [] false #[] [] 0 false false false 0 [2000,10,10] false 0 true [] [] 0 false)
noncomputable def sa(w:aj)(os:av):af:=⟨ha w.params,(Array.mk []),(Drawn.mk 0 0 0 0),187,os⟩
theorem uI{w:aj}{n:Nat}{s s':SharedT}{l:List aq}{pos pos':Pos}(h:PySem.W.Fast.tw10110043849684766642 PySem.W.Fast.tw14364793385576792824 p w m0 ann 1 n s (piecesOf l env cd pos fr)=aB (.next,s',cd,pos')) :
 segRun treeTable p w m0 ann 1 n s.abs (piecesOf l env cd pos fr)=aB (.next,s'.abs,cd,pos'):=
 segRun_of (by rw[PySem.W.Fast.te10110043849684766642,Dr];exact h)
theorem CP{w:aj}{n:Nat}{s s':af}{pos:Pos}(h:PySem.W.Fast.tw15667345088766844465 PySem.W.Fast.tw14364793385576792824 p w m0 ann n s (topStub p)=aB (s',⟨PySem.W.Fast.tw11892475500146522536 PySem.W.Fast.tw14364793385576792824 cd,cd,pos,fr⟩)) :
 topGo treeTable p w m0 ann n s (topStub p)=aB (s',⟨denote treeTable cd,cd,pos,fr⟩):=by
 rw[PySem.W.Fast.te15667345088766844465,Dr,PySem.W.Fast.te11892475500146522536];exact h
theorem zun{w:aj}{n:Nat}{s s':af}{pos pos':Pos}(h:PySem.W.Fast.tw14374325043358763698 PySem.W.Fast.tw14364793385576792824 p w m0 ann 1 n s (blockOf bd env cd pos fr)=aB (.next,s',cd,pos')) :
 segRun treeTable p w m0 ann 1 n s (blockOf bd env cd pos fr)=aB (.next,s',cd,pos'):=by
 rw[PySem.W.Fast.te14374325043358763698,Dr];exact h
theorem CQ{w:aj}{n:Nat}{s s':af}{pos:Pos}(h:PySem.W.Fast.tw14082659384304107361 PySem.W.Fast.tw14364793385576792824 p w m0 ann n s ⟨doneF .next,cd,pos,fr⟩=aB s') :
 topRun treeTable p w m0 ann n s ⟨doneF .next,cd,pos,fr⟩=aB s':=by
 rw[PySem.W.Fast.te14082659384304107361,Dr];exact h
set_option maxHeartbeats 0 in
theorem pre(w:aj)(os:av):topGo treeTable p w m0 ann 12 ⟨boot_heap w.params,Array.mk [],boot_drawn,boot_toks,os⟩ (topStub p)=aB (sa w os,⟨denote treeTable cd,cd,(Pos.mk 0 0 0 0),fr⟩):=CP (by kernel_rfl)
 def Rl:List Obj:=[(boot_o_0 P),(boot_o_1 P),(boot_o_2 P),(boot_o_3 P),(boot_o_4 P),(boot_o_5 P),(boot_o_6 P),(boot_o_7 P),(boot_o_8 P),(boot_o_9 P),(boot_o_10 P),a0,a1,a2,a3]
 def tb:=qB 20 (Rl P)
noncomputable def sb(w:aj)(os:av):SharedT:=⟨tb w.params,15,life,(Array.mk []),(Drawn.mk 0 0 0 0),187,os⟩
set_option maxHeartbeats 0 in
theorem block(w:aj)(os:av):segRun treeTable p w m0 ann 1 1 (sa w os) (blockOf bd env cd (Pos.mk 0 0 0 0) fr)=aB (.next,(sb w os).abs,cd,(Pos.mk 0 0 0 0)):=zun (by kernel_rfl)
 def Rm:=[(E P "__doc__" 166 O),(E P "__package__" 167 O),(E P "__loader__" 168 (Value.builtin "__main__.__loader__#opaque")),(E P "__spec__" 169 O),(E P "__annotations__" 170 (R 6)),(E P "__builtins__" 171 (R 4)),(E P "__file__" 173 (V 172)),(E P "__cached__" 174 O),(E P "BoardError" 206 (R 24)),(E P "NoBoard" 222 (R 37)),(E P "Fault" 249 (R 56)),(E P "NoLeans" 265 (R 68)),(E P "NoNumber" 281 (R 80)),(E P "is_whole" 290 (R 89)),(E P "is_whole_within" 299 (R 96)),(E P "is_tuple_within" 308 (R 103)),(E P "are_wholes_within" 320 (R 110)),(E P "MOST_COLUMNS" 324 (I 40 323)),(E P "MOST_ROWS" 326 (I 60 325)),(E P "MOST_GROUPS" 328 (I 8 327)),(E P "MOST_FEEDERS" 330 (I 4 329)),(E P "MOST_NAME" 332 (I 99 331)),(E P "look_at_board" 346 (R 117)),(E P "is_leans" 354 (R 124)),(E P "all_leans" 360 (R 129)),(E P "look_at_leans" 368 (R 136)),(E P "is_board_but_for_places" 380 (R 143)),(E P "are_rows" 389 (R 150)),(E P "are_doors" 399 (R 157))]
 def a4:=Y "dict" (Data.dict ((E P "__name__" 165 (U "ballrockers.boards" 321))::Rm P).toArray 30)
 def Rn:List (Int×Nat):=[(2,20),(4,33),(6,45),(11,64),(13,76),(16,88),(18,95),(20,102),(22,109),(35,116),(43,123),(46,128),(53,135),(56,142),(65,149),(72,156)]
 def a5:=X (A (qJ Rn).toArray)
 def a6:=(Y "tuple" (Data.seq #[(Value.type "ValueError")] 0))
 def a7:=(Y "builtin_function_or_method" (A #[(Value.builtin "type.__prepare__"),(Value.type "type")]))
 def a8:=(Y "dict" (Data.dict #[(E P "__module__" 196 (U "ballrockers.errors" 187)),(E P "__qualname__" 198 (U "BoardError" 197)),(E P "__firstlineno__" 200 (I 2 199)),(E P "__static_attributes__" 201 (R 22))] 4))
 def a9:=(Y "code" (A #[(U "BoardError" 191),(U "BoardError" 192),(V 193),(J 2),(J 0),(J 0),(J 0),(J 0),(R 18),(Value.bool false),(J 181),(R 19),O,O,O,O,(J 194),(J 2),(V 195)]))
 def Je:=(Obj.mk (Value.type "frame") aC Data.plain #[(aB (R 20)),(aB (R 3)),(aB (R 17)),aC,(aB (U "ballrockers.errors" 187)),aC,(aB (R 0))])
 def a11:=(Y "dict" (Data.dict #[(E P "__module__" 196 (U "ballrockers.errors" 187)),(E P "__firstlineno__" 200 (I 2 199)),(E P "__static_attributes__" 201 (R 22)),(E P "__weakref__" 203 (R 25)),(E P "__doc__" 204 O)] 3))
 def a12:=(Obj.mk (Value.type "type") aC (Data.cls (ClassData.mk (S "BoardError") [(Value.type "ValueError")] [(R 24),(Value.type "ValueError"),(Value.type "Exception"),(Value.type "BaseException"),(Value.type "object")] 23 (S "BoardError") true [] [(R 37),(R 56),(R 68),(R 80)] false aC false)) #[(aB (R 15)),aC,(aB (U "BoardError" 189)),(aB (U "BoardError" 197)),(aB (Value.builtin "ValueError.__new__")),(aB (Value.bool true))])
 def a13:=(Y "getset_descriptor" (A #[(U "__weakref__" 202),(R 24),(Value.builtin "ExceptionGroup.__weakref__"),O]))
 def a14:=(Y "super" (A #[(R 24),(R 24),(R 24)]))
 def a15:=(Y "builtin_function_or_method" (A #[(Value.builtin "object.__init_subclass__"),(R 24)]))
 def F2:=(Y "tuple" (Data.seq #[(R 24)] 0))
 def a17:=(Y "dict" (Data.dict #[(E P "__module__" 214 (U "ballrockers.errors" 187)),(E P "__qualname__" 216 (U "NoBoard" 215)),(E P "__firstlineno__" 218 (I 4 217)),(E P "__static_attributes__" 219 (R 35))] 4))
 def a18:=(Y "code" (A #[(U "NoBoard" 209),(U "NoBoard" 210),(V 211),(J 4),(J 0),(J 0),(J 0),(J 0),(R 31),(Value.bool false),(J 181),(R 32),O,O,O,O,(J 212),(J 4),(V 213)]))
 def a19:=(Obj.mk (Value.type "frame") aC Data.plain #[(aB (R 33)),(aB (R 3)),(aB (R 30)),aC,(aB (U "ballrockers.errors" 187)),aC,(aB (R 0))])
 def a20:=(Y "dict" (Data.dict #[(E P "__module__" 214 (U "ballrockers.errors" 187)),(E P "__firstlineno__" 218 (I 4 217)),(E P "__static_attributes__" 219 (R 35)),(E P "__doc__" 220 O)] 2))
 def a21:=(Obj.mk (Value.type "type") aC (Data.cls (ClassData.mk (S "NoBoard") [(R 24)] [(R 37),(R 24),(Value.type "ValueError"),(Value.type "Exception"),(Value.type "BaseException"),(Value.type "object")] 36 (S "NoBoard") true [] [] false aC false)) #[(aB (R 28)),aC,(aB (U "NoBoard" 207)),(aB (U "NoBoard" 215)),(aB (Value.builtin "ValueError.__new__")),(aB (Value.bool true))])
 def a22:=(Y "super" (A #[(R 37),(R 37),(R 37)]))
 def a23:=(Y "builtin_function_or_method" (A #[(Value.builtin "object.__init_subclass__"),(R 37)]))
 def a24:=(Y "dict" (Data.dict #[(E P "__module__" 230 (U "ballrockers.errors" 187)),(E P "__qualname__" 232 (U "Fault" 231)),(E P "__firstlineno__" 234 (I 6 233)),(E P "__init__" 243 (R 53)),(E P "__static_attributes__" 246 (R 54))] 5))
 def a25:=(X (A #[(J 8),(J 4),(R 52)]))
 def a26:=(Y "code" (A #[(U "Fault" 225),(U "Fault" 226),(V 227),(J 6),(J 0),(J 0),(J 0),(J 0),(R 43),(Value.bool false),(J 181),(R 44),O,O,O,O,(J 228),(J 6),(V 229)]))
 def a27:=(Obj.mk (Value.type "frame") aC Data.plain #[(aB (R 45)),(aB (R 3)),(aB (R 42)),aC,(aB (U "ballrockers.errors" 187)),aC,(aB (R 0))])
 def a28:=qT 238 ["self","row","column"]
 def a29:=(X (B (FuncData.mk (S "__init__") (S "Fault.__init__") (ca 3 0) (FuncBody.stmts (cb 3 0)) (cs 3 0) 0 [] O O O O aC O O 0)))
 def a30:=(Y "code" (A #[(U "__init__" 235),(U "Fault.__init__" 236),(V 237),(J 8),(J 3),(J 0),(J 0),(J 3),(R 47),(Value.bool true),(J 181),(R 48),O,(R 49),(R 50),(R 51),(J 241),(J 8),(V 242)]))
 def a31:=(Y "function" (B (FuncData.mk (S "__init__") (S "Fault.__init__") (ca 3 0) (FuncBody.stmts (cb 3 0)) (cs 3 0) 3 [] O O O (U "ballrockers.errors" 187) aC (R 52) O 0)))
 def a32:=qT 244 ["column","row"]
 def a33:=(Y "dict" (Data.dict #[(E P "__module__" 230 (U "ballrockers.errors" 187)),(E P "__firstlineno__" 234 (I 6 233)),(E P "__init__" 243 (R 53)),(E P "__static_attributes__" 246 (R 54)),(E P "__doc__" 247 O)] 2))
 def a34:=(Obj.mk (Value.type "type") aC (Data.cls (ClassData.mk (S "Fault") [(R 24)] [(R 56),(R 24),(Value.type "ValueError"),(Value.type "Exception"),(Value.type "BaseException"),(Value.type "object")] 55 (S "Fault") true [] [] false aC false)) #[(aB (R 40)),aC,(aB (U "Fault" 223)),(aB (U "Fault" 231)),(aB (Value.builtin "ValueError.__new__")),(aB (Value.bool true))])
 def a35:=(Y "super" (A #[(R 56),(R 56),(R 56)]))
 def a36:=(Y "builtin_function_or_method" (A #[(Value.builtin "object.__init_subclass__"),(R 56)]))
 def a37:=(Y "dict" (Data.dict #[(E P "__module__" 257 (U "ballrockers.errors" 187)),(E P "__qualname__" 259 (U "NoLeans" 258)),(E P "__firstlineno__" 261 (I 11 260)),(E P "__static_attributes__" 262 (R 66))] 4))
 def a38:=(Y "code" (A #[(U "NoLeans" 252),(U "NoLeans" 253),(V 254),(J 11),(J 0),(J 0),(J 0),(J 0),(R 62),(Value.bool false),(J 181),(R 63),O,O,O,O,(J 255),(J 11),(V 256)]))
 def a39:=(Obj.mk (Value.type "frame") aC Data.plain #[(aB (R 64)),(aB (R 3)),(aB (R 61)),aC,(aB (U "ballrockers.errors" 187)),aC,(aB (R 0))])
 def a40:=(Y "dict" (Data.dict #[(E P "__module__" 257 (U "ballrockers.errors" 187)),(E P "__firstlineno__" 261 (I 11 260)),(E P "__static_attributes__" 262 (R 66)),(E P "__doc__" 263 O)] 2))
 def a41:=(Obj.mk (Value.type "type") aC (Data.cls (ClassData.mk (S "NoLeans") [(R 24)] [(R 68),(R 24),(Value.type "ValueError"),(Value.type "Exception"),(Value.type "BaseException"),(Value.type "object")] 67 (S "NoLeans") true [] [] false aC false)) #[(aB (R 59)),aC,(aB (U "NoLeans" 250)),(aB (U "NoLeans" 258)),(aB (Value.builtin "ValueError.__new__")),(aB (Value.bool true))])
 def a42:=(Y "super" (A #[(R 68),(R 68),(R 68)]))
 def a43:=(Y "builtin_function_or_method" (A #[(Value.builtin "object.__init_subclass__"),(R 68)]))
 def a44:=(Y "dict" (Data.dict #[(E P "__module__" 273 (U "ballrockers.errors" 187)),(E P "__qualname__" 275 (U "NoNumber" 274)),(E P "__firstlineno__" 277 (I 13 276)),(E P "__static_attributes__" 278 (R 78))] 4))
 def a45:=(Y "code" (A #[(U "NoNumber" 268),(U "NoNumber" 269),(V 270),(J 13),(J 0),(J 0),(J 0),(J 0),(R 74),(Value.bool false),(J 181),(R 75),O,O,O,O,(J 271),(J 13),(V 272)]))
 def a46:=(Obj.mk (Value.type "frame") aC Data.plain #[(aB (R 76)),(aB (R 3)),(aB (R 73)),aC,(aB (U "ballrockers.errors" 187)),aC,(aB (R 0))])
 def a47:=(Y "dict" (Data.dict #[(E P "__module__" 273 (U "ballrockers.errors" 187)),(E P "__firstlineno__" 277 (I 13 276)),(E P "__static_attributes__" 278 (R 78)),(E P "__doc__" 279 O)] 2))
 def a48:=(Obj.mk (Value.type "type") aC (Data.cls (ClassData.mk (S "NoNumber") [(R 24)] [(R 80),(R 24),(Value.type "ValueError"),(Value.type "Exception"),(Value.type "BaseException"),(Value.type "object")] 79 (S "NoNumber") true [] [] false aC false)) #[(aB (R 71)),aC,(aB (U "NoNumber" 266)),(aB (U "NoNumber" 274)),(aB (Value.builtin "ValueError.__new__")),(aB (Value.bool true))])
 def a49:=(Y "super" (A #[(R 80),(R 80),(R 80)]))
 def a50:=(Y "builtin_function_or_method" (A #[(Value.builtin "object.__init_subclass__"),(R 80)]))
 def a51:=qT 287 ["thing"]
 def a52:=qG "is_whole" 7
 def a53:=qC "is_whole" 284 16 1 83 288
 def sU:=U "ballrockers.whole" 282
 def a54:=qF "is_whole" 7 sU 88
 def a55:=qT 294 ["thing","low","high"]
 def a56:=qG "is_whole_within" 8
 def a57:=qC "is_whole_within" 291 18 3 90 297
 def a58:=qF "is_whole_within" 8 sU 95
 def a59:=qT 303 ["thing","fewest","most"]
 def a60:=qG "is_tuple_within" 9
 def a61:=qC "is_tuple_within" 300 20 3 97 306
 def a62:=qF "is_tuple_within" 9 sU 102
 def a63:=qT 312 ["thing","fewest","most","low","high","number"]
 def a64:=qG "are_wholes_within" 10
 def a65:=qC "are_wholes_within" 309 22 5 104 318
 def a66:=qF "are_wholes_within" 10 sU 109
 def a67:=qT 336 ["board","width","groups","rows","row","places","column","piece"]
 def a68:=qG "look_at_board" 17
 def a69:=qC "look_at_board" 333 35 1 111 344
 def gE:=U "ballrockers.boards" 321
 def a70:=qF "look_at_board" 17 gE 116
 def a71:=qT 350 ["board","thing"]
 def a72:=qG "is_leans" 18
 def a73:=qC "is_leans" 347 43 2 118 352
 def a74:=qF "is_leans" 18 gE 123
 def a75:=qG "all_leans" 19
 def a76:=qD "all_leans" 355 46 1 125 358
 def a77:=qF "all_leans" 19 gE 128
 def a78:=qT 364 ["board","thing"]
 def a79:=qG "look_at_leans" 20
 def a80:=qC "look_at_leans" 361 53 2 130 366
 def a81:=qF "look_at_leans" 20 gE 135
 def a82:=qT 372 ["board","width","groups","rows","feeders","doors"]
 def a83:=qG "is_board_but_for_places" 21
 def a84:=qC "is_board_but_for_places" 369 56 1 137 378
 def a85:=qF "is_board_but_for_places" 21 gE 142
 def a86:=qT 384 ["thing","width","places"]
 def a87:=qG "are_rows" 22
 def a88:=qC "are_rows" 381 65 2 144 387
 def a89:=qF "are_rows" 22 gE 149
 def a90:=qT 393 ["thing","width","feeders","door"]
 def a91:=qG "are_doors" 23
 def a92:=qC "are_doors" 390 72 3 151 397
 def a93:=qF "are_doors" 23 gE 156
 def Ro:List Obj:=((Rl P).set 3 (a4 P)).set 12 a5++[a6,a7,(a8 P),a0,a1,a9,Je,a0,(a11 P),a12,a13,a14,a15,F2,a7,(a17 P),a0,a1,a18,a19,a0,(a20 P),a21,a22,a23,F2,a7,(a24 P),a0,a25,a26,a27,a0,a1,a28,a0,a29,a30,a31,a32,(a33 P),a34,a35,a36,F2,a7,(a37 P),a0,a1,a38,a39,a0,(a40 P),a41,a42,a43,F2,a7,(a44 P),a0,a1,a45,a46,a0,(a47 P),a48,a49,a50,a0,a1,a51,a0,a52,a53,a54,a0,a1,a55,a0,a56,a57,a58,a0,a1,a59,a0,a60,a61,a62,a0,a1,a63,a0,a64,a65,a66,a0,a1,a67,a0,a68,a69,a70,a0,a1,a71,a0,a72,a73,a74,a0,a1,a75,a76,a77,a0,a1,a78,a0,a79,a80,a81,a0,a1,a82,a0,a83,a84,a85,a0,a1,a86,a0,a87,a88,a89,a0,a1,a90,a0,a91,a92,a93]
 def t0:=qB 20 (Ro P)
noncomputable def s0(w:aj)(os:av):SharedT:=⟨t0 w.params,158,life,(Array.mk []),(Drawn.mk 0 0 0 0),400,os⟩
noncomputable def jQ:List aq:=(bd.drop 0).take 24
set_option maxHeartbeats 0 in
theorem Kg(w:aj)(os:av):segRun treeTable p w m0 ann 1 1489 (sb w os).abs (piecesOf jQ env cd (Pos.mk 0 0 0 0) fr)=aB (.next,(s0 w os).abs,cd,(Pos.mk 72 0 78 15)):=uI (by kernel_rfl)
 def Kh:=(Rm P++[(E P "is_door" 409 (R 164)),(E P "is_feeder_or_none" 417 (R 171)),(E P "may_stand" 427 (R 178)),(E P "is_rocker" 437 (R 185)),(E P "are_leans" 445 (R 192)),(E P "LEFT" 450 (I (-1) 449)),(E P "STRAIGHT" 452 (I 0 451)),(E P "RIGHT" 454 (I 1 453)),(E P "fallen" 471 (R 200)),(E P "heading_behind" 484 (R 208)),(E P "come_down" 498 (R 216)),(E P "undone" 506 (R 221)),(E P "all_pairs" 512 (R 226)),(E P "_law_cell" 522 (R 233)),(E P "_law_mixed" 532 (R 240)),(E P "_law_deck" 538 (R 245)),(E P "_law_take" 547 (R 252)),(E P "_law_piece" 559 (R 259)),(E P "_law_row" 565 (R 264)),(E P "_law_door" 575 (R 271)),(E P "_law_board" 581 (R 276)),(E P "_law_leans" 587 (R 281)),(E P "_law_fall" 601 (R 288)),(E P "_law_is" 609 (R 295)),(E P "_law_are" 615 (R 300)),(E P "_law_all_leans" 621 (R 305)),(E P "_law_ends" 632 (R 312)),(E P "_law_is_pair" 640 (R 319)),(E P "_law_are_pairs" 646 (R 324)),(E P "_law_great" 652 (R 329)),(E P "_law_due" 658 (R 334)),(E P "law" 673 (R 341))])
 def a94:=Y "dict" (Data.dict ((E P "__name__" 165 (U "law_ballrockers_k59_undone" 513))::Kh P).toArray 62)
 def Kl:List (Int×Nat):=Rn++[(79,163),(84,170),(86,177),(94,184),(99,191),(105,199),(121,207),(135,215),(140,220),(145,225),(148,232),(152,239),(155,244),(157,251),(166,258),(178,263),(180,270),(186,275),(193,280),(195,287),(211,294),(213,299),(217,304),(222,311),(230,318),(232,323),(236,328),(240,333),(242,340)]
 def a95:=X (A (qJ Kl).toArray)
 def a96:=qT 403 ["thing","feeders","name","call"]
 def a97:=qG "is_door" 24
 def a98:=qC "is_door" 400 79 2 158 407
 def a99:=qF "is_door" 24 gE 163
 def Km:=qT 413 ["thing","feeders"]
 def Ko:=qG "is_feeder_or_none" 25
 def Kp:=qC "is_feeder_or_none" 410 84 2 165 415
 def Kq:=qF "is_feeder_or_none" 25 gE 170
 def Kr:=qT 421 ["piece","column","width","groups"]
 def Ks:=qG "may_stand" 26
 def Ku:=qC "may_stand" 418 86 4 172 425
 def Kv:=qF "may_stand" 26 gE 177
 def Kw:=qT 431 ["thing","groups","group","side"]
 def Ky:=qG "is_rocker" 27
 def Kz:=qC "is_rocker" 428 94 2 179 435
 def KA:=qF "is_rocker" 27 gE 184
 def KC:=qT 441 ["thing","groups"]
 def KD:=qG "are_leans" 28
 def KG:=qC "are_leans" 438 99 2 186 443
 def KH:=qF "are_leans" 28 gE 191
 def xu:=(Y "tuple" (Data.seq #[O] 0))
 def KI:=qT 458 ["board","leans","feeder","fault","column","columns","turned","leaning","heading","places","piece"]
 def KJ:=qG "fallen" 33
 def KL:=qC "fallen" 455 105 4 194 469
 def KN:=(Y "function" (B (G "fallen" 33 3 [] (R 193) O O (U "ballrockers.ways" 446) aC (R 199) O 0)))
 def KP:=qT 475 ["piece","heading","leaning","fault","group","side","lean"]
 def KQ:=qG "heading_behind" 34
 def KR:=qC "heading_behind" 472 121 4 202 482
 def KS:=(Y "function" (B (G "heading_behind" 34 3 [] (R 201) O O (U "ballrockers.ways" 446) aC (R 207) O 0)))
 def KU:=qT 488 ["board","leans","feeder","fault","columns","turned","behind","column"]
 def KW:=qG "come_down" 35
 def KY:=qC "come_down" 485 135 4 210 496
 def KZ:=(Y "function" (B (G "come_down" 35 3 [] (R 209) O O (U "ballrockers.ways" 446) aC (R 215) O 0)))
 def K0:=qG "undone" 37
 def K9:=qD "undone" 501 140 3 217 504
 def La:=qF "undone" 37 (U "ballrockers.undoing" 499) 220
 def Lb:=qG "all_pairs" 38
 def Lc:=qD "all_pairs" 507 145 1 222 510
 def Ld:=qF "all_pairs" 38 (U "ballrockers.undoing" 499) 225
 def Le:=qT 518 ["_law_script","_law_k"]
 def Lf:=qG "_law_cell" 40
 def Lg:=qC "_law_cell" 515 148 2 227 520
 def dZ:=U "law_ballrockers_k59_undone" 513
 def Lh:=qF "_law_cell" 40 dZ 232
 def Li:=qT 526 ["_law_script","_law_k","_law_many","_law_number"]
 def Lj:=qG "_law_mixed" 41
 def Lk:=qC "_law_mixed" 523 152 3 234 530
 def Ll:=qF "_law_mixed" 41 dZ 239
 def Lm:=qG "_law_deck" 42
 def Ln:=qD "_law_deck" 533 155 1 241 536
 def Lo:=qF "_law_deck" 42 dZ 244
 def Lp:=qT 542 ["_law_deck_here","_law_many","_law_cell_here"]
 def Lq:=qG "_law_take" 43
 def Lr:=qC "_law_take" 539 157 2 246 545
 def Ls:=qF "_law_take" 43 dZ 251
 def Lu:=qT 551 ["_law_deck_here","_law_column","_law_width","_law_groups","_law_kind","_law_piece_here"]
 def Lv:=qG "_law_piece" 44
 def Lw:=qC "_law_piece" 548 166 4 253 557
 def Lx:=qF "_law_piece" 44 dZ 258
 def Ly:=qG "_law_row" 45
 def Lz:=qD "_law_row" 560 178 3 260 563
 def LA:=qF "_law_row" 45 dZ 263
 def LB:=qT 569 ["_law_deck_here","_law_feeders","_law_name","_law_call"]
 def LC:=qG "_law_door" 46
 def LD:=qC "_law_door" 566 180 2 265 573
 def LF:=qF "_law_door" 46 dZ 270
 def LG:=qG "_law_board" 47
 def LH:=qD "_law_board" 576 186 4 272 579
 def LI:=qF "_law_board" 47 dZ 275
 def LJ:=qG "_law_leans" 48
 def LK:=qD "_law_leans" 582 193 2 277 585
 def LL:=qF "_law_leans" 48 dZ 280
 def LM:=qT 591 ["_law_board_here","_law_leans_here","_law_feeder","_law_fault","_law_column","_law_came","_law_row_here","_law_piece_here"]
 def LN:=qG "_law_fall" 49
 def LO:=qC "_law_fall" 588 195 4 282 599
 def LP:=qF "_law_fall" 49 dZ 287
 def LQ:=qT 605 ["_law_found","_law_due_here"]
 def LR:=qG "_law_is" 50
 def LS:=qC "_law_is" 602 211 2 289 607
 def LU:=qF "_law_is" 50 dZ 294
 def LV:=(X (B (FuncData.mk (S "_law_are") (S "_law_are") (fa 51) (FuncBody.stmts (fb 51)) (fs 55) 0 [] O O O O aC O O 0)))
 def LW:=qD "_law_are" 610 213 2 296 613
 def LY:=(Y "function" (B (FuncData.mk (S "_law_are") (S "_law_are") (fa 51) (FuncBody.stmts (fb 51)) (fs 55) 3 [] O O O (U "law_ballrockers_k59_undone" 513) aC (R 299) O 0)))
 def LZ:=qG "_law_all_leans" 52
 def L0:=qD "_law_all_leans" 616 217 1 301 619
 def L1:=qF "_law_all_leans" 52 dZ 304
 def L3:=qT 625 ["_law_board_here","_law_found","_law_leans_here","_law_feeder","_law_ball"]
 def L4:=qG "_law_ends" 53
 def L5:=qC "_law_ends" 622 222 1 306 630
 def L6:=qF "_law_ends" 53 dZ 311
 def L7:=qT 636 ["_law_found","_law_due_here"]
 def L8:=qG "_law_is_pair" 54
 def Ma:=qC "_law_is_pair" 633 230 2 313 638
 def Mb:=qF "_law_is_pair" 54 dZ 318
 def Mc:=qG "_law_are_pairs" 55
 def Me:=qD "_law_are_pairs" 641 232 2 320 644
 def Mf:=qF "_law_are_pairs" 55 dZ 323
 def Mh:=qG "_law_great" 56
 def Mi:=qD "_law_great" 647 236 1 325 650
 def Mj:=qF "_law_great" 56 dZ 328
 def Mk:=qG "_law_due" 57
 def Ml:=qD "_law_due" 653 240 3 330 656
 def Mm:=qF "_law_due" 57 dZ 333
 def Mn:=qT 662 ["_law_script","_law_deck_here","_law_kind","_law_board_here","_law_ends_here","_law_leans_here","_law_columns","_law_pair","_law_column"]
 def Mp:=qG "law" 58
 def Mq:=qC "law" 659 242 1 335 671
 def Mr:=qF "law" 58 dZ 340
 def Ms:List Obj:=((Ro P).set 3 (a94 P)).set 12 a95++[a0,a1,a96,a0,a97,a98,a99,a0,a1,Km,a0,Ko,Kp,Kq,a0,a1,Kr,a0,Ks,Ku,Kv,a0,a1,Kw,a0,Ky,Kz,KA,a0,a1,KC,a0,KD,KG,KH,xu,a0,a1,KI,a0,KJ,KL,KN,xu,a0,a1,KP,a0,KQ,KR,KS,xu,a0,a1,KU,a0,KW,KY,KZ,a0,a1,K0,K9,La,a0,a1,Lb,Lc,Ld,a0,a1,Le,a0,Lf,Lg,Lh,a0,a1,Li,a0,Lj,Lk,Ll,a0,a1,Lm,Ln,Lo,a0,a1,Lp,a0,Lq,Lr,Ls,a0,a1,Lu,a0,Lv,Lw,Lx,a0,a1,Ly,Lz,LA,a0,a1,LB,a0,LC,LD,LF,a0,a1,LG,LH,LI,a0,a1,LJ,LK,LL,a0,a1,LM,a0,LN,LO,LP,a0,a1,LQ,a0,LR,LS,LU,a0,a1,LV,LW,LY,a0,a1,LZ,L0,L1,a0,a1,L3,a0,L4,L5,L6,a0,a1,L7,a0,L8,Ma,Mb,a0,a1,Mc,Me,Mf,a0,a1,Mh,Mi,Mj,a0,a1,Mk,Ml,Mm,a0,a1,Mn,a0,Mp,Mq,Mr]
 def t1:=qB 20 (Ms P)
noncomputable def s1(w:aj)(os:av):SharedT:=⟨t1 w.params,342,life,(Array.mk []),(Drawn.mk 0 0 0 0),674,os⟩
noncomputable def st1:List aq:=(bd.drop 24).take 35
set_option maxHeartbeats 0 in
theorem Mu(w:aj)(os:av):segRun treeTable p w m0 ann 1 940 (s0 w os).abs (piecesOf st1 env cd (Pos.mk 72 0 78 15) fr)=aB (.next,(s1 w os).abs,cd,(Pos.mk 242 0 259 144)):=uI (by kernel_rfl)
 def hz:az:=Heap.mk (Array.mk (Ms P)) (Life.mk [] [] [] 0 [] [] false #[] [] 0 false false false 0 [2000,10,10] false 0 true [] [] 0 false)
noncomputable def sz(w:aj)(os:av):af:=⟨hz w.params,(Array.mk []),(Drawn.mk 0 0 0 0),674,os⟩
set_option maxHeartbeats 0 in
theorem fin(w:aj)(os:av):topRun treeTable p w m0 ann 2 (s1 w os).abs ⟨doneF .next,cd,(Pos.mk 242 0 259 144),fr⟩=aB (sz w os):=CQ (by kernel_rfl)
 def as:List ah:=[2,3,15,22,23,24,25,28,35,36,37,40,47,49,50,52,53,54,55,56,59,66,67,68,71,78,79,80,83,85,86,88,89,90,92,93,95,96,97,99,100,102,103,104,106,107,109,110,111,113,114,116,117,118,120,121,123,124,125,128,129,130,132,133,135,136,137,139,140,142,143,144,146,147,149,150,151,153,154,156,157,158,160,161,163,164,165,167,168,170,171,172,174,175,177,178,179,181,182,184,185,186,188,189,191,192,193,194,196,197,199,200,201,202,204,205,207,208,209,210,212,213,215,216,217,220,221,222,225,226,227,229,230,232,233,234,236,237,239,240,241,244,245,246,248,249,251,252,253,255,256,258,259,260,263,264,265,267,268,270,271,272,275,276,277,280,281,282,284,285,287,288,289,291,292,294,295,296,299,300,301,304,305,306,308,309,311,312,313,315,316,318,319,320,323,324,325,328,329,330,333,334,335,337,338,340,341]
 def K:Frag:=as.map λi=>(i,(Ms P).getD i a0)
noncomputable def M0:Nat:=(12+ (1+ (1489+ (940+2))))
theorem CS:bd=jQ++(st1++([])):=by kernel_rfl
theorem rest(w:aj)(os:av):topRun treeTable p w m0 ann (1489+ (940+ (2))) (sb w os).abs (restOf bd env cd (Pos.mk 0 0 0 0) fr)=aB (sz w os):=by rw[show restOf bd env cd (Pos.mk 0 0 0 0) fr=restOf (jQ++(st1++([]))) env cd (Pos.mk 0 0 0 0) fr from jK (λb=>restOf b env cd (Pos.mk 0 0 0 0) fr) CS];exact(piece_app (Kg w os) (piece_app (Mu w os) (piece_nil (fin w os))))
theorem run(w:aj)(os:av):topRun treeTable p w m0 ann M0 ⟨boot_heap w.params,Array.mk [],boot_drawn,boot_toks,os⟩ (topStub p)=aB (sz w os):=
 go_top (pre w os) (piece_block (block w os) (rest w os))
noncomputable def oY:Nat:=58
noncomputable def zyv:Pos:=(Pos.mk 242 0 259 144)
noncomputable def q:ai:={p with main:={p.main with body:=keep.map (xr p.main.body)}}
theorem CT:∀P,as=(K P).map (·.1):=λ_=>by kernel_rfl
noncomputable def H:Hook:=kHook K as CT
noncomputable def Xt(s:af):Bool:=xlAt q [] s&&recOk [] s
theorem zyw(w:aj)(os:av):(staticsOk (importedModules p.main.body) (boot_heap w.params) (hz w.params)&&namesBound p (hz w.params)&&gensDone (sz w os)&&laidKept (boot_heap w.params) (hz w.params))=true:=by rw[PySem.W.Fast.te5923862056798008813];kernel_rfl
theorem zyx(w:aj)(os:av):seen ((recsOf q).map (·.name)) (ownsOf q) [] {sz w os with gens:=#[]}=expectedOf q:=by rw[PySem.W.Fast.te5160383126252970620,PySem.W.R.mapR_eq,PySem.W.Fast.te3399658132070893891,PySem.W.Fast.te5991557255702980513];kernel_rfl
theorem CU(w:aj)(os:av):(sz w os).heap.bltView=bltViewBooted:=by kernel_rfl
theorem zyy(w:aj)(os:av):((sz w os).heap.keysOk (looseW q lo) ((recsOf q).map (·.name)) ((litsOf q).map (·.1)) ((clssOf q (looseW q lo)).map (·.name))&& (sz w os).heap.accountedOkI (importedModules p.main.body)&& (sz w os).heap.isNs mainGlobals&& (sz w os).heap.isNs builtinsNs&&tablesOk q (sz w os).heap&&Xt (sz w os)&& (if true=true then(sz w os).gens.size==0 else !leftWithCleanup (sz w os).gens))=true:=by rw[PySem.W.Fast.te10880121769531294198,PySem.W.Fast.te821141287760084731,PySem.W.R.mapR_eq,PySem.W.Fast.te3399658132070893891,PySem.W.Fast.te7409074990110511671,PySem.W.Fast.te13664370479719496447,PySem.W.Fast.te14722251495701143533,PySem.W.Fast.te10994771534591457954,PySem.W.Fast.te5923862056798008813];kernel_rfl
theorem zyz(w:aj)(os:av):tabsOk q (sz w os)=true:=by rw[PySem.W.Fast.te479339242167458305];kernel_rfl
theorem CV(w:aj)(os:av):pinSeenD q (drecsOf q) (sz w os)=pinGoodD (drecsOf q):=by rw[PySem.W.Fast.te16090120013241838585,PySem.W.Fast.te3247288618530077131];kernel_rfl
theorem CW(w:aj)(os:av):plainSeenE q (looseW q lo) (sz w os)=plainGoodE q (looseW q lo):=by rw[PySem.W.Fast.te2386780881361962483,PySem.W.Fast.te821141287760084731];kernel_rfl
theorem CY(w:aj)(os:av):plainSeenD q lo (sz w os)=plainGoodD q lo:=by rw[PySem.W.Fast.te11698064438423848299];kernel_rfl
theorem zy0(w:aj)(os:av):wideSeen q (sz w os)=wideGood q:=by rw[PySem.W.Fast.te7317090234206586261];kernel_rfl
theorem CZ(w:aj)(os:av):clsSeenW q lo (sz w os)=clsGoodW q lo:=by rw[PySem.W.Fast.te7369524293546568484];kernel_rfl
theorem zy1(w:aj)(os:av):as.map (sz w os).heap.get?=(K w.params).map λp=>aB p.2:=by kernel_rfl
theorem left:LeftO p q lo Xt (Hook.obs H) (Hook.val H) N0 true:=
 LeftO.of_pieces (H₀:=boot_heap) (H₁:=hz) (boot_open (by kernel_rfl) (by kernel_rfl) (λs=>by kernel_rfl)) (λw=>by kernel_rfl) run (by kernel_rfl)
  (λw=>funext λos=>looks_pair (zyw w os) (looks_pair
    (looks_pair (zyx w os) (looks_pair (CU w os) (looks_pair (zyy w os) (looks_pair (zyz w os) (looks_pair (CV w os) (looks_pair (CW w os) (looks_pair (CY w os) (looks_pair (zy0 w os) (CZ w os)))))))))
    (zy1 w os)))
noncomputable def df:DefRec:=⟨S "law",fa oY,fb oY,fs oY,zyv⟩
theorem C0:defOf q (S "law")=aB (df,[]):=by kernel_rfl
theorem holds(l:OpenLaw)(hp:l.prog=p)(hn:l.name=S "law")(ok:l.wellSaid)(hch:(chainsOk q&&opensWell p&& (frees l.row.toRowW&&l.row.within.isEmpty)))(hb:l.row.toRowW.prog.bare)(hw:l.row.toRowW.promised)
 (hwr:(!l.row.writes||l.row.records.isEmpty)) (hk:p.theDef (S "law")=aB (df.params,df.body,df.scope)) (hkw:kwWritten? df.params.kwonlyargs df.params.kw_defaults=aB [])
 (call:WalkO q lo (XL q []) (Hook.says H) l.row.toRowW df [] λf vs=>PySem.call f vs):l.Holds:=
 holds_law ok λsaid=>PySem.W.holds_open (q:=q) (loose:=lo) (Xt:=Xt) (XP:=XL q []) (Yf:=Hook.obs H) (Ya:=Hook.val H) (YP:=Hook.says H) (N:=N0) (r:=l.row) (by have h:l.row.toRowW.prog=p:=hp;show LeftO l.row.toRowW.prog q lo Xt (Hook.obs H) (Hook.val H) N0 true;rw[h];exact left) (Hook.of H) (Hook.keeps H) (λs e=>xl_of s (Bool.and_eq_true_iff.mp e).1) XL.keeps
  (by show defOf q l.name=_;rw[hn];exact C0) (by show l.prog.theDef l.name=_;rw[hp,hn];exact hk) hkw (λs e=>recFacts_of (Bool.and_eq_true_iff.mp e).2) hwr said (by have h:l.row.toRowW.prog=p:=hp;rw[h];exact hch) hb hw call
end
end
end HD
namespace RF
noncomputable def Rq:List PySem.Str:=(["is_whole","is_whole_within","_law_cell","_law_deck","_law_mixed","_law_take","is_tuple_within","are_wholes_within","are_doors","are_rows","is_board_but_for_places","is_door","is_feeder_or_none","is_rocker","look_at_board","may_stand"]++bD 1 "" ++ ["are_leans"]++bD 2 "" ++ ["_law_leans"]++bD 1 "" ++ ["is_leans","_law_door","look_at_leans"]++bD 78 "" ++ ["_law_piece","_law_row"]++bD 24 "" ++ ["_law_board"]++bD 10 "" ++ ["_law_are"]++bD 10 "" ++ ["_law_is"]++bD 21 "" ++ ["heading_behind","fallen","come_down"]++bD 14 "" ++ ["all_leans"]++bD 11 "" ++ ["all_pairs"]++bD 4 "" ++ ["_law_fall"]++bD 11 "" ++ ["undone"]++bD 74 "" ++ ["_law_all_leans"]++bD 1 "" ++ ["_law_ends"]++bD 23 "" ++ ["_law_are_pairs"]++bD 3 "" ++ ["_law_great"]++bD 3 "" ++ ["_law_is_pair"]++bD 371 "" ++ ["_law_due","law"]).map bA
noncomputable def Rr:List Fn:=[EV,Jf,EW,Cd,Jg,rK,Cf,Cg,Jh,Ji,wo,rL,wu,rM,wz,wA]++bD 1 dW++[rN]++bD 2 dW++[oA]++bD 1 dW++[oB,wB,rO]++bD 78 dW++[jC,lg]++bD 24 dW++[oE]++bD 10 dW++[lq]++bD 10 dW++[oF]++bD 21 dW++[dN,jD,ug]++bD 14 dW++[lu]++bD 11 dW++[lz]++bD 4 dW++[iL]++bD 11 dW++[lA]++bD 74 dW++[jE]++bD 1 dW++[lB]++bD 23 dW++[jF]++bD 3 dW++[lC]++bD 3 dW++[jG]++bD 371 dW++[Ff,Fi]
theorem c59:F1 λi=>Rr[i]?:=by repeat' (first|rfl|constructor)
end RF
set_option maxHeartbeats 0 in
theorem RF.Mv(P:PySem.Params):RF.iK (HD.K P) RF.Rq 60 60=aB RF.Rr:=by kernel_rfl
open PySem PySem.W PyProof.Rows
set_option maxRecDepth 100000 in
set_option maxHeartbeats 0 in
theorem PySem.Challenge.cw_ballrockers_k59_undone_holds : PySem.Challenge.rw_ballrockers_k59_undone.Holds := by
 refine HD.holds _ rfl rfl RF.pa59 (by kernel_rfl) ⟨rfl,rfl,rfl,rfl,rfl,by decide +kernel⟩ ?hw rfl (by kernel_rfl) (by kernel_rfl) ?call
 (case hw=>w_witness2)
 refine RF.YL RF.Rq 60 60 30 701 rfl (by kernel_rfl) ⟨rfl,by decide,by decide⟩ (λw h Y=>PySem.W.kIn_of Y) (by kernel_rfl) (by decide +kernel) ?b ?c
 (case c=>intro w;kernel_rfl)
 (case b=>
   intro w ns hl
   exact RF.YK (RF.Mv _) (RF.CO RF.c59 hl))
