import PyProof.Rows.All
import Wide.All
import OpenK.AllK
import Wide.FinOn
import Lean
import PyProof.EqAt
import PyProof.EqKinds
import PyProof.TupleCall
import KE.KUnpack
import PySem.Challenge.RW_ballrockers_k56_word_boards
set_option Elab.async false
set_option linter.all false
set_option genSizeOf false
set_option bootstrap.genMatcherCode false
set_option compiler.extract_closed false
set_option maxRecDepth 100000
set_option maxHeartbeats 0 in
theorem RF.pa56:PySem.Challenge.rw_ballrockers_k56_word_boards.wellSaid=true:=by kernel_rfl
def gz:=@decide_eq_true_eq
def jl:=@decide_eq_false
def cC:=@if_true
def jm:=@decide_eq_true
def kW:=@of_decide_eq_true
def ez:=@if_false
def mD:=@congrArg
def CG:=@beq_eq_false_iff_ne
def xh:=@beq_iff_eq
def CH:=@decide_true
open PySem renaming wpAny_bind->aS,wpAny_pure->bS,wpAny_mono->gV,wpAny_standAt->mE,wpAny_truthy_bool->qj,wpAny_newObj_type->qk,wpAny_field->kX,wpAny_callSpecial?_slot->xj,wpAny_pyIter_tuple->uN,wpAny_holding->pF,wpAny_setField_rec->xm,wpAny_seqItems->sP,wpAny_passesOwn->uO,wpAny_pyIter_list->xo,wpAny_comprehension_free->CI,mem_of_lookup->yK,wpAny_call_entry->xq,noFill_tuple_add->yL,call_meets->ql,wpAny_rule->qm,wpAny_Call_Name_kw->CJ,seq_tuple_add->yM,sizeLine_eq->yN,wpAny_onRaise->CL,wpAny_typeOf->CM,wpAny_ite->xr
open List renaming getElem?_eq_getElem->cJ,length_map->bD,length_cons->dg,getElem?_map->dO,mem_cons_of_mem->eY,size_toArray->dU,getElem?_eq_some_iff->iB,mem_cons_self->eZ,getD_eq_getElem?_getD->i8,length_append->fE,getElem?_eq_none->iS,mem_append_right->jn,lookup_cons->gA,all_eq_true->ic,getElem?_append_right->lH,map_cons->fF,mem_cons->fT,map_append->iu,getElem?_cons_succ->lI,length_take->jo,getElem_mem->jF,mem_map->gB,getElem?_append_left->pG,getElem?_cons_zero->nO,getElem?_eq_none_iff->pH,mem_of_getElem?->nC,foldl_cons->kM,set_cons_zero->nD,mem_singleton->nP,set_cons_succ->nQ,length_replicate->qo,take_length->nF,append_nil->nG,replicate_succ->qp,mem_range->mF,take_add_one->pI,zip_cons_cons->qq,getElem?_set_self->uP,find?_cons->nR,cons_append->pJ,filterMap_cons->uQ,flatten_cons->sQ,getElem?_range->uR,eq_of_mem_replicate->vcs,length_drop->sR,getElem?_set_ne->xu,all_cons->pK,length_range->uS,nodup_cons->sU,length_singleton->yO,length_range'->xw,drop_eq_getElem_cons->CN,mem_or_eq_of_mem_set->CO,length_set->uT,getElem?_replicate->CP,forIn_nil->uU,drop_eq_nil_of_le->CQ,getElem?_drop->yP,mem_append->xx,append_assoc->yQ,mem_append_left->CS,map_nil->uV,forIn_cons->yR,any_cons->xy,nil_append->yS,ext_getElem?->CT,mem_range'_1->CU,foldl_append->CV,any_eq_true->CW,not_mem_nil->CY,length_nil->CZ,range_succ->C0
open PySem renaming Value->aa,Shared->af,Addr->ah,Program->ai,World->aj,Around->ak,Expr->ao,Stmt->aq,FuncData->au,OsState->av,Scope->ay,Heap->az,PyData->aA
open Option renaming some->aB,none->aC
open PySem.W renaming Frag->aK
open PySem.Str renaming ofString->bB
open List renaming replicate->bK
open Bool renaming and_eq_true->bQ,false_eq_true->fG,or_eq_true->pL,false_ne_true->uW,not_eq_true'->uX,false_and->xA
open PySem.Heap renaming get?_push_of_some->di,lt_size->dz,get?_push_size->iT,size_push->j6
open Nat renaming le_refl->bf,lt_of_lt_of_le->dF,lt_succ_self->fU,lt_irrefl->gC,le_of_ble_eq_true->kY,ne_of_lt->gE,le_trans->iw,zero_add->i9,not_lt->jG,zero_le->lJ,eq_of_beq_eq_true->yT,lt_succ_of_lt->xB,le_of_lt->sV,ne_of_gt->sW,le_succ->qt,ble_eq->qw,lt_of_le_of_lt->C1,not_lt_zero->yU,sub_add_cancel->C2,le_of_succ_le->vec,le_add_right->C3,mul_assoc->C4
open Option renaming map_some->jq,join_some->nH,getD_some->C5
open PySem.AutoSeq1 renaming wpAny_loadPart'->nS
open PyProof.Rows renaming slot_tuple_getitem->xC,callWith_type1->yV
open PySem.W renaming kia_one->mG
open Option.some renaming inj->nT
open PySem.W.Fast renaming te14364793385576792824->C6
open Int renaming toNat_natCast->qx,eq_ofNat_of_zero_le->xD,emod_lt_of_pos->yW,emod_nonneg->yX,mul_comm->xE,pow_succ->C7
open Ne renaming symm->fH
open PySem.F renaming args_tuple_add_2->yY,entry_tuple_add->yZ,slot_tuple_add->za,slot_tuple_iterator_next->C8,slot_tuple_mul->zb,slot_zip_next->C9
open Array renaming length_toList->xF
open PySem.SeqAt renaming canLay_of_shaped->Dc
open PySem.Paired renaming length->xG
open LawfulMonad renaming pure_bind->qy
open Sum.inl renaming inj->Dd
namespace L2
theorem aR(h:True:=by rfl):True:=h
theorem aD(h:True:=by decide):True:=h
theorem aF(h:True:=by first|exact .inl rfl|exact .inr rfl|assumption):True:=h
end L2
namespace L2
open PySem PySem.Spec PyProof.Rows
noncomputable abbrev Key:=Sum Int Str
noncomputable def jr:Key->aa->Bool|.inl k,v=>Value.isInt k v|.inr x,v=>Value.isStrOf x v
noncomputable def E7(w:aj):Key->Int|.inl k=>hashInt k|.inr x=>hashStr w x
theorem pN:∀{k:Key} {v:aa},jr k v=true->(∃i t,k=Sum.inl i/\v=Value.int i t)\/(∃x t,k=Sum.inr x/\v=Value.str x t)
 |.inl i,v,h=>by
  obtain⟨t,e⟩:=Value.isInt_shape (k:=i) (v:=v) h;exact .inl ⟨i,t,rfl,e⟩
 |.inr x,v,h=>by
  obtain⟨t,e⟩:=Value.isStrOf_shape (x:=x) (v:=v) h;exact .inr ⟨x,t,rfl,e⟩
theorem OY(i:Int)(t:Tok):jr (.inl i) (.int i t)=true:=by simp[jr,Value.isInt]
theorem OZ(x:Str)(t:Tok):jr (.inr x) (.str x t)=true:=by simp[jr,Value.isStrOf]
theorem O0(a b:Int):decide ((Sum.inl a:Key)=Sum.inl b)=(a==b):=by by_cases e:a=b;subst e;simp;have h:¬(Sum.inl a:Key)=Sum.inl b:=λq=>e (Dd q);rw[jl h];exact(CG.mpr e).symm
theorem O1(a b:Str):decide ((Sum.inr a:Key)=Sum.inr b)=decide (a=b):=by by_cases e:a=b;subst e;simp;have h:¬(Sum.inr a:Key)=Sum.inr b:=λq=>e (Sum.inr.inj q);rw[jl h,jl e]
theorem O2(a:Int)(b:Str):decide ((Sum.inl a:Key)=Sum.inr b)=false:=jl (λq=>nomatch q)
theorem O3(a:Str)(b:Int):decide ((Sum.inr a:Key)=Sum.inl b)=false:=jl (λq=>nomatch q)
noncomputable def iC(prog:ai)(w:aj):PySem.KeyKind prog w Key where
 is:=jr
 hash:=E7 w
 inj:=λv a b ha hb=>by
  rcases pN ha with⟨i,t,rfl,rfl⟩|⟨x,t,rfl,rfl⟩
  .rcases pN hb with⟨j,u,rfl,e⟩|⟨y,u,rfl,e⟩
   .injection e with e1 _;rw[e1]
   .exact nomatch e
  .rcases pN hb with⟨j,u,rfl,e⟩|⟨y,u,rfl,e⟩
   .exact nomatch e
   .injection e with e1 _;rw[e1]
 byValue:=λk v h=>by
  rcases pN h with⟨i,t,rfl,rfl⟩|⟨x,t,rfl,rfl⟩<;>rfl
 pyHash:=λhv h=>by
  rcases pN hv with⟨i,t,rfl,rfl⟩|⟨x,t,rfl,rfl⟩
  .exact wpAny_pyHash_int h
  .exact wpAny_pyHash_str h
 eqBool:=λhu hv h=>by
  rcases pN hu with⟨i,t,rfl,rfl⟩|⟨x,t,rfl,rfl⟩
  .rcases pN hv with⟨j,u,rfl,rfl⟩|⟨y,u,rfl,rfl⟩
   .rw[O0]at h;exact wpAny_eqBool_int h
   .rw[O2]at h;exact SeqAt.EqAt.int_str i t y u _ _ _ _ h
  .rcases pN hv with⟨j,u,rfl,rfl⟩|⟨y,u,rfl,rfl⟩
   .rw[O3]at h;exact SeqAt.EqAt.str_int x t j u _ _ _ _ h
   .rw[O1]at h;exact wpAny_eqBool_str h
 «strs»:=λk x t v h=>by
  rcases pN h with⟨i,u,rfl,e⟩|⟨y,u,rfl,e⟩
  .exact nomatch e
  .injection e with e1 _
   subst e1
   cases v<;>rfl
theorem O4(prog:ai)(w:aj)(i:Int)(t:Tok):(iC prog w).is (.inl i) (.int i t)=true:=OY i t
theorem O5(prog:ai)(w:aj)(x:Str)(t:Tok):(iC prog w).is (.inr x) (.str x t)=true:=OZ x t
inductive V where
 |aR|bl (b:Bool)|int (i:Int)|str (x:Str)|zc (b:Array UInt8)|xH (b:UInt64)|ref (a:ah)|ty (n:String)
 deriving DecidableEq
noncomputable def RelV:V->aa->Prop|.aR,u=>u=Value.none|.bl b,u=>u=Value.bool b|.int i,u=>∃t,u=Value.int i t|.str x,u=>∃t,u=Value.str x t|.zc b,u=>∃t,u=Value.bytes b t|.xH b,u=>∃t,u=Value.float b t|.ref a,u=>u=Value.ref a|.ty n,u=>u=Value.type n
noncomputable abbrev Vals:List V->List aa->Prop:=Paired RelV
theorem Vals.length{xs:List V}{us:List aa}(r:Vals xs us):xs.length=us.length:=xG r
theorem Vals.get:∀{xs:List V} {us:List aa} {i:Nat} {x:V},Vals xs us->xs[i]?=aB x->∃u,us[i]?=aB u/\RelV x u
 |_,_,_,_,.nil,e=>by simp at e
 |_,_,0,_,.cons r _,e=>by simp at e;subst e;exact⟨_,rfl,r⟩
 |_,_,i+1,x,.cons _ t,e=>by
  obtain⟨u,h1,h2⟩:=Vals.get (i:=i) (x:=x) t (by simpa using e);exact⟨u,by simpa using h1,h2⟩
theorem Vals.set{x:V}{u:aa}(r:RelV x u):∀{xs:List V} {us:List aa} (i:Nat),Vals xs us->Vals (xs.set i x) (us.set i u)|_,_,_,.nil=>.nil|_,_,0,.cons _ t=>.cons r t|_,_,i+1,.cons q t=>.cons q (Vals.set r i t)
theorem Vals.append:∀{xs ys:List V} {us ws:List aa},Vals xs us->Vals ys ws->Vals (xs++ys) (us++ws)|_,_,_,_,.nil,s=>s|_,_,_,_,.cons r t,s=>.cons r (Vals.append t s)
theorem Vals.take:∀{xs:List V} {us:List aa} (n:Nat),Vals xs us->Vals (xs.take n) (us.take n)|_,_,0,_=>.nil|_,_,_+1,.nil=>.nil|_,_,n+1,.cons r t=>.cons r (Vals.take n t)
theorem Vals.drop:∀{xs:List V} {us:List aa} (n:Nat),Vals xs us->Vals (xs.drop n) (us.drop n)|_,_,0,r=>r|_,_,_+1,.nil=>.nil|_,_,n+1,.cons _ t=>Vals.drop n t
noncomputable def gF:Option V->Option aa->Prop|some v,aB u=>RelV v u|none,aC=>True|_,_=>False
noncomputable def KV{κ:Type}:List (κ×V)->List (κ×aa)->Prop:=Paired λ(p:κ×V) (q:κ×aa)=>p.1=q.1/\RelV p.2 q.2
noncomputable def kV:Key->V|.inl i=>.int i|.inr x=>.str x
inductive HO where
 /-- a list -/
 |lst (xs:List V)
 /-- a tuple (never changes) -/
 |tup (xs:List V)
 /-- a dict zd keys are ints and texts;one zd keys are tuples of ints and texts (xJ empty one is both) -/
 |dK (kvs:List (Key×V))|dT (kvs:List (List Key×V))
 /-- a set of ints: its members,its size -/
 |set (S:Int->Bool) (n:Nat)
 /-- an instance of xJ class at C,its dict at dx,its attributes -/
 |ins (C dx:ah) (fs:List (Str×V))
 /-- xJ dict of xJ instance at x -/
 |own (x:ah)
 /-- xJ dict of an exception -/
 |xd (fs:List (Str×V))
 /-- a bound method,f of x -/
 |met (f x:ah)
 /-- a range object lo,lo+1,.. below hi -/
 |E8 (lo hi:Int)
 /-- a thing O6 is known to xJ object (xJ script;a dict while a loop walks it): read,never written while it is so -/
 |bC (o:Obj) (u:HO)
 /-- a code ze table -/
 |uY (ps:Array aa)
 /-- any other thing,by what is true of its one object (a def of KC own: O7 a S n:=HO.ext λh=>..) -/
 |ext (φ:az->Prop)
noncomputable abbrev Hp:=ah->Option HO
noncomputable def upd(H:Hp)(a:ah)(o:HO):Hp:=λb=>if b=a then aB o else H b
theorem fJ{H:Hp}{a:ah}{o:HO}:upd H a o a=aB o:=by unfold upd;rw[if_pos rfl]
theorem bZ{H:Hp}{a b:ah}{o:HO}(h:b≠a):upd H a o b=H b:=by unfold upd;rw[if_neg h]
theorem cD{H:Hp}{a b:ah}{o u:HO}(h:H a=aB o)(h':H b=aB u)(d:o≠u):a≠b:=by intro e;subst e;rw[h]at h';exact d (nT h')
theorem iy{H:Hp}{a b:ah}{o:HO}(h:H a=aB o)(h':H b=aC):a≠b:=by intro e;subst e;rw[h]at h';cases h'
noncomputable def kZ(h:az)(a:ah)(items:Array aa):Prop:=∃o,h.get? a=aB o/\o.cls=.type "tuple"/\(∃n,o.data=.seq items n)/\o.dict=aC
theorem kZ.tup{h:az}{a:ah}{items:Array aa}(x:kZ h a items):IsTup h a items:=let⟨o,e,c,d,_⟩:=x;⟨o,e,c,d⟩
theorem kZ.lt{h:az}{a:ah}{items:Array aa}(x:kZ h a items):a<h.objs.size:=x.tup.lt
theorem kZ.new(h:az)(items:Array aa):kZ (h.push {cls:=.type "tuple",data:=.seq items}) h.objs.size items:=⟨_,iT _ rfl,rfl,⟨_,rfl⟩,rfl⟩
section
variable(P:ai)(w:aj)
noncomputable def br(H:Hp)(h:az)(a:ah):HO->Prop
 |.lst xs=>xs.length<=sizeLine/\∃(its:List aa) (n:Nat),Vals xs its/\h.get? a=aB {cls:=.type "list",data:=.seq its.toArray n}
 |.tup xs=>xs.length<=sizeLine/\∃its:List aa,Vals xs its/\kZ h a its.toArray
 |.dK kvs=>kvs.length<=sizeLine/\(a==sysModules)=false/\∃vs,KV kvs vs/\h.DictOf (iC P w) a vs
 |.dT kvs=>kvs.length<=sizeLine/\(a==sysModules)=false/\∃xs:List (List Key×ah×aa),
  Paired (λ(p:List Key×V)(q:List Key×ah×aa)=>p.1=q.1/\H q.2.1=aB (.tup (p.1.map kV))/\RelV p.2 q.2.2) kvs xs/\
  ∃o es ep,h.get? a=aB o/\o.ExactDict/\o.data=.dict es ep/\es.toList=xs.map (entryOfKey (tupleKind (iC P w)))/\(xs.map (·.1)).Nodup
 |.set S n=>h.SetOf (intKind P w) a S n
 |.ins C dx fs=>H dx=aB (.own a)/\fs.length<=1000/\dx≠a/\h.get? a=aB (PySem.W.instObj C dx)/\
  ∃mA,h.Ns1 dx mA/\(∀f,gF (fs.lookup f) (mA f))/\PySem.Within mA (fs.map (·.1))
 |.own _=>∃o,h.get? a=aB o
 |.xd fs=>∃mA,h.Ns1 a mA/\∀f,gF (fs.lookup f) (mA f)
 |.E8 lo hi=>∃t u v,h.get? a=aB {cls:=.type "range",data:=.fields #[.int lo t,.int hi u,.int 1 v]}
 |.bC o u=>h.get? a=aB o/\br H h a u
 |.uY ps=>h.get? a=aB {cls:=.none,data:=.fields ps}
 |.met f x=>h.get? a=aB (PySem.W.methodObj (.ref f) (.ref x))
 |.ext φ=>φ h/\(∃o,h.get? a=aB o)/\∀h1 h2:az,φ h1->(∀o,h1.get? a=aB o->h2.get? a=aB o)->φ h2
noncomputable def fm(H:Hp)(h:az):Prop:=∀a o,H a=aB o->br P w H h a o
end
section
variable{P:ai}{w:aj}{H H':Hp}{h h':az}{a:ah}{o:HO}
theorem br.lt(x:br P w H h a o):a<h.objs.size:=by
 cases o with|lst xs=>obtain⟨_,_,_,_,e⟩:=x;exact dz e|tup xs=>obtain⟨_,_,_,p⟩:=x;exact p.lt|dK kvs=>obtain⟨_,_,_,_,o,_,_,e,_⟩:=x;exact dz e|dT kvs=>obtain⟨_,_,_,_,o,_,_,e,_⟩:=x;exact dz e|set S n=>obtain⟨o,_,_,_,e,_⟩:=x;exact dz e|ins C dx fs=>obtain⟨_,_,_,e,_⟩:=x;exact dz e|own y=>obtain⟨_,e⟩:=x;exact dz e|xd fs=>obtain⟨_,⟨_,_,_,e,_⟩,_⟩:=x;exact dz e|E8 lo hi=>obtain⟨_,_,_,e⟩:=x;exact dz e|bC ob u=>obtain⟨e,_⟩:=x;exact dz e|uY ps=>exact dz (show h.get? a=aB _ from x)|met f y=>exact dz (show h.get? a=aB _ from x)|ext φ=>obtain⟨_,⟨_,e⟩,_⟩:=x;exact dz e
theorem Paired.uZ{α β:Type}{F G:α->β->Prop}:∀{l₁:List α} {l₂:List β},Paired F l₁ l₂->(∀a b,F a b->G a b)->Paired G l₁ l₂|_,_,.nil,_=>.nil|_,_,.cons r t,f=>.cons (f _ _ r) (Paired.uZ t f)
theorem br.stay(x:br P w H h a o)(k:∀b u,(b=a\/H b=aB (.own a))->h.get? b=aB u->h'.get? b=aB u)
 (ho:∀b,H b=aB (.own a)->H' b=aB (.own a)) (ht:∀b xs,H b=aB (.tup xs)->H' b=aB (.tup xs)):br P w H' h' a o:=by
 induction o with
 |lst xs=>obtain⟨z,its,n,r,e⟩:=x;exact⟨z,its,n,r,k _ _ (.inl rfl) e⟩
 |tup xs=>obtain⟨z,its,r,ob,e,c⟩:=x;exact⟨z,its,r,ob,k _ _ (.inl rfl) e,c⟩
 |dK kvs=>obtain⟨z,y,vs,r,ob,es,ep,e,c⟩:=x;exact⟨z,y,vs,r,ob,es,ep,k _ _ (.inl rfl) e,c⟩
 |dT kvs=>
  obtain⟨z,y,xs,r,ob,es,ep,e,c⟩:=x;exact⟨z,y,xs,Paired.uZ r λp q z=>⟨z.1,ht _ _ z.2.1,z.2.2⟩,ob,es,ep,k _ _ (.inl rfl) e,c⟩
 |set S n=>obtain⟨ob,es,ep,t,e,c⟩:=x;exact⟨ob,es,ep,t,k _ _ (.inl rfl) e,c⟩
 |ins C dx fs=>
  obtain⟨d,z,ne,e,mA,⟨od,es,ep,e2,c⟩,r⟩:=x;exact⟨ho _ d,z,ne,k _ _ (.inl rfl) e,mA,⟨od,es,ep,k _ _ (.inr d) e2,c⟩,r⟩
 |own y=>obtain⟨ob,e⟩:=x;exact⟨ob,k _ _ (.inl rfl) e⟩
 |xd fs=>obtain⟨mA,⟨od,es,ep,e,c⟩,r⟩:=x;exact⟨mA,⟨od,es,ep,k _ _ (.inl rfl) e,c⟩,r⟩
 |E8 lo hi=>obtain⟨t,u,v,e⟩:=x;exact⟨t,u,v,k _ _ (.inl rfl) e⟩
 |bC ob u ih=>obtain⟨e,q⟩:=x;exact⟨k _ _ (.inl rfl) e,ih q⟩
 |uY ps=>
  have e:h.get? a=aB {cls:=.none,data:=.fields ps}:=x;show h'.get? a=aB {cls:=.none,data:=.fields ps};exact k a _ (.inl rfl) e
 |met f y=>
  have e:h.get? a=aB (PySem.W.methodObj (.ref f) (.ref y)):=x;show h'.get? a=aB (PySem.W.methodObj (.ref f) (.ref y));exact k a _ (.inl rfl) e
 |ext φ=>obtain⟨p,⟨o,e⟩,st⟩:=x;exact⟨st _ _ p λo q=>k _ _ (.inl rfl) q,⟨o,k _ _ (.inl rfl) e⟩,st⟩
theorem fm.lt(x:fm P w H h)(e:H a=aB o):a<h.objs.size:=(x a o e).lt
theorem fm.fresh(x:fm P w H h)(e:h.objs.size<=a):H a=aC:=by
 cases q:H a with|none=>rfl|some u=>exact absurd (dF (x.lt q) e) (gC _)
theorem fm.kept(x:fm P w H h)(k:∀b u,h.get? b=aB u->h'.get? b=aB u):fm P w H h':=λa o e=>
 (x a o e).stay (λb u _ q=>k b u q) (λ_ q=>q) λ_ _ q=>q
theorem fm.laid(x:fm P w H h)(k:∀b u,h.get? b=aB u->h'.get? b=aB u)(hp:h.objs.size<=a)(new:br P w (upd H a o) h' a o):fm P w (upd H a o) h':=λb u e=>by
 have hn:=x.fresh hp;by_cases hb:b=a;subst hb;rw[fJ]at e;cases e;exact new;rw[bZ hb]at e;exact(x b u e).stay (λc v _ q=>k c v q) (λc q=>by rw[bZ (iy q hn)];exact q) λc xs q=>by rw[bZ (iy q hn)];exact q
end
noncomputable def Rd(H:Hp)(a:ah)(u:HO):Prop:=H a=aB u\/∃o,H a=aB (.bC o u)
theorem Rd.ok{P:ai}{w:aj}{H:Hp}{h:az}{a:ah}{u:HO}(r:Rd H a u)(x:fm P w H h):br P w H h a u:=by rcases r with r|⟨o,r⟩;exact x a u r;obtain⟨_,q⟩:=x a _ r;exact q
noncomputable def zf:Option HO->Prop|some (.lst _)=>True|some (.dK _)=>True|some (.dT _)=>True|some (.set _ _)=>True|some (.ins _ _ _)=>True|some (.ext _)=>True|_=>False
section
variable{P:ai}{w:aj}{H:Hp}{h h':az}{x e:ah}{o':HO}
theorem fm.write(ok:fm P w H h)(mu:zf (H x))(he:e=x\/H e=aB (.own x))(k:∀b u,b≠e->h.get? b=aB u->h'.get? b=aB u)(xK:∃u,h'.get? e=aB u)
 (new:br P w (upd H x o') h' x o'):fm P w (upd H x o') h':=λb u q=>by
 have zg:∀c y,H c=aB (.own y)->c≠x:=λc y r z=>by subst z;rw[r]at mu;exact mu
 have E9:∀c xs,H c=aB (.tup xs)->c≠x:=λc xs r z=>by subst z;rw[r]at mu;exact mu
 by_cases hb:b=x;subst hb;rw[fJ]at q;cases q;exact new;rw[bZ hb]at q;by_cases u5:b=e;have q':H b=aB (.own x):=by rcases he with z|z;exact absurd (u5.trans z) hb;rw[u5];exact z
 rw[q]at q';cases q';obtain⟨v,hv⟩:=xK;exact⟨v,by rw[u5];exact hv⟩;refine(ok b u q).stay (λc v hc r=>k c v ?_ r) (λc r=>by rw[bZ (zg c b r)];exact r) λc xs r=>by rw[bZ (E9 c xs r)];exact r
 rcases hc with rfl|hc;exact u5;rintro rfl;rcases he with z|z;exact zg c b hc z;rw[hc]at z;cases z;exact hb rfl
end
structure Un(fs ex:List ah)(H H':Hp)(h h':az):Prop where
 keep:∀b o,h.get? b=aB o->H b=aC->b∉fs->b∉ex->h'.get? b=aB o
 slot:∀b o,h.get? b=aB o->H b=aC->b∈fs->b∉ex->∃sl,h'.get? b=aB {o with slots:=sl}
 free:∀b o,h.get? b=aB o->H b=aC->b∉ex->H' b=aC
 there:∀b o,h.get? b=aB o->b∉ex->∃o',h'.get? b=aB o'
 tups:∀b xs,H b=aB (.tup xs)->H' b=aB (.tup xs)
 iD:∀b o u,H b=aB (.bC o u)->H' b=aB (.bC o u)
 ja:∀b ps,H b=aB (.uY ps)->∃more,H' b=aB (.uY (ps++more))
section
variable{fs fs' ex ex':List ah}{H H1 H2:Hp}{h h1 h2 h':az}{a x e:ah}{o:HO}
theorem Un.any(u:Un fs ex H H1 h h1){b:ah}{ob:Obj}(q:h.get? b=aB ob)(n:H b=aC)(hx:b∉ex):∃sl,h1.get? b=aB {ob with slots:=sl}:=by by_cases hb:b∈fs;exact u.slot b ob q n hb hx;exact⟨ob.slots,u.keep b ob q n hb hx⟩
theorem Un.kept(k:∀b u,h.get? b=aB u->h'.get? b=aB u):Un fs ex H H h h':=
 ⟨λb ob q _ _ _=>k b ob q,λb ob q _ _ _=>⟨ob.slots,k b ob q⟩,λ_ _ _ n _=>n,λb ob q _=>⟨ob,k b ob q⟩,λ_ _ q=>q,λ_ _ _ q=>q,λ_ ps q=>⟨#[],by rw[q];simp⟩⟩
theorem Un.refl:Un fs ex H H h h:=Un.kept λ_ _ q=>q
theorem Un.laid(k:∀b u,h.get? b=aB u->h'.get? b=aB u)(hp:h.objs.size<=a)(hn:H a=aC):Un fs ex H (upd H a o) h h' where
 keep:=λb u q _ _ _=>k b u q
 slot:=λb u q _ _ _=>⟨u.slots,k b u q⟩
 free:=λb u q n _=>by rw[bZ (gE (dF (dz q) hp))];exact n
 there:=λb u q _=>⟨u,k b u q⟩
 tups:=λb xs q=>by rw[bZ (iy q hn)];exact q
 iD:=λb u xs q=>by rw[bZ (iy q hn)];exact q
 ja:=λb ps q=>⟨#[],by rw[bZ (iy q hn),q];simp⟩
theorem Un.write(mu:zf (H x))(he:e=x\/H e=aB (.own x))(k:∀b u,b≠e->h.get? b=aB u->h'.get? b=aB u)(xK:∃u,h'.get? e=aB u):Un fs ex H (upd H x o) h h':=by
 have hx:∀b,H b=aC->b≠x:=λb n z=>by subst z;rw[n]at mu;exact mu
 have hb:∀b,H b=aC->b≠e:=λb n z=>by
  subst z;rcases he with r|r
  exact hx b n r;rw[n]at r;cases r
 have hm:∀b u,H b=aB u->¬zf (aB u)->b≠x:=λb u q nm z=>by subst z;rw[q]at mu;exact nm mu
 refine⟨λb u q n _ _=>k b u (hb b n) q,λb u q n _ _=>⟨u.slots,k b u (hb b n) q⟩,λb u q n _=>by rw[bZ (hx b n)];exact n,λb u q _=>?_,
  λb xs q=>by rw[bZ (hm b _ q λz=>z)];exact q,λb u xs q=>by rw[bZ (hm b _ q λz=>z)];exact q,λb ps q=>⟨#[],by rw[bZ (hm b _ q λz=>z),q];simp⟩⟩
 by_cases u5:b=e;subst u5;exact xK;exact⟨u,k b u u5 q⟩
end
noncomputable def De(h:az)(H:Hp):List ah:=(List.range h.objs.size).filter λa=>(H a).isSome
noncomputable def jH(h:az)(H:Hp):az:=PySem.W.hideAll h (De h H)
theorem O8(h:az)(H:Hp):(jH h H).objs.size=h.objs.size:=PySem.W.hideAll_size _ _
theorem O9{h:az}{H:Hp}{b:ah}{o:Obj}(e:h.get? b=aB o)(n:H b=aC):(jH h H).get? b=aB o:=
 PySem.W.hideAll_get _ e λhm=>by
  have q:(H b).isSome=true:=(List.mem_filter.mp hm).2;rw[n]at q;simp at q
theorem Pa{h:az}{H:Hp}{b:ah}{o:Obj}(e:(jH h H).get? b=aB o):h.get? b=aB o/\H b=aC:=by
 have e':h.get? b=aB o:=PySem.W.of_hideAll (De h H) e;refine⟨e',?_⟩;cases q:H b with
 |none=>rfl
 |some x=>
  have hm:b∈De h H:=List.mem_filter.mpr ⟨mF.mpr (dz e'),by simp[q]⟩;have z:(jH h H).get? b=aC:=PySem.W.hideAll_none (De h H) hm;rw[z]at e;cases e
structure Mod(K:aK)(mg:Str->Option aa)(base:az):Prop where
 Fb:K.In base
 glob:base.Ns mainGlobals mg
 blt:∃mb,base.Ns builtinsNs mb/\∀x:Str,x≠"__name__"->mb x=bootBuiltins x
 nolimit:base.NoLimit
set_option genInjectivity false in
structure Cx where
 prog:ai
 w:aj
 K:aK
 mg:Str->Option aa
 base:az
 A:ak
 N:List Str
 s₀:af
 H₀:Hp
 env:Env
 outer:List Env
 stack:List Env
 ex:List ah
 fn:Str->Bool
 calm:Bool
 pn:List (ah×Obj)
 xe:aa->af->Prop
noncomputable def frs(l:List Env):List ah:=l.filterMap (·.frame)
noncomputable abbrev Cx.fs(X:Cx):List ah:=frs X.outer
noncomputable def xM(sc:ay)(x:Str):Prop:=sc.names.lookup x=aB .local\/sc.names.lookup x=aB .cell\/sc.names.lookup x=aB .free
noncomputable def Loc(sc:ay)(x:Str):Prop:=sc.names.lookup x=aB .local\/sc.names.lookup x=aB .cell
noncomputable def Look(env:Env)(h:az)(m:Str->Option aa)(x:Str)(u:aa):Prop:=
 (env.kindOf x=aB .local/\m x=aB u)\/((env.kindOf x=aB .cell\/env.kindOf x=aB .free)/\∃c,env.cells.lookup x=aB c/\h.IsCell c (aB u))
structure Cx.Ok(X:Cx):Prop where
 mod:Mod X.K X.mg X.base
 kind:X.env.scope.kind=.function
 glob:X.env.globals=mainGlobals
 blt:X.env.builtins=builtinsNs
 above:X.s₀.heap.objs.size<=X.env.locals
 inj:∀x y c,X.env.cells.lookup x=aB c->X.env.cells.lookup y=aB c->x=y
 has:∀x,(X.env.kindOf x=aB .cell\/X.env.kindOf x=aB .free)->∃c,X.env.cells.lookup x=aB c
 zh:∀x c,X.fn x=true->X.env.cells.lookup x=aB c->X.s₀.heap.objs.size<=c
 hd:X.calm=true->X.A.handled=aC
 frames:X.A.frames=aB X.stack
 stk:X.stack=X.outer\/(X.stack=X.env::X.outer/\X.env.frame=aB X.env.locals)
 xN:∀b∈X.ex,b≠X.env.locals/\∀x c,X.env.cells.lookup x=aB c->c≠b
 bs:∀b o,X.base.get? b=aB o->X.s₀.heap.get? b=aB o/\X.H₀ b=aC
 u6:X.base.objs.size<=X.s₀.heap.objs.size
 nU:∀b o,X.base.get? b=aB o->b∉X.ex
 mH:∀b∈X.ex,b∉X.fs
 iE:X.s₀.heap.FunFrames X.base X.outer
 xO:∀b∈X.fs,X.H₀ b=aC
structure Inv(X:Cx)(pins:List (ah×Obj))(σ:List (Option V))(H:Hp)(s:af):Prop where
 ok:X.Ok
 os:s.os=X.s₀.os
 bare:AllBare s.gens
 base:Un X.fs X.ex X.H₀ H X.s₀.heap s.heap
 loc:∃m,s.heap.Ns X.env.locals m/\∀(i:Nat)(x:Str)(v:V),X.N[i]?=aB x->σ[i]?=aB (aB v)->xM X.env.scope x->∃u,RelV v u/\Look X.env s.heap m x u
 cell:∀x c,X.env.cells.lookup x=aB c->∃v,s.heap.IsCell c v
 free:H X.env.locals=aC
 fq:∀x c,X.env.cells.lookup x=aB c->H c=aC
 pin:∀p∈X.pn++pins,s.heap.get? p.1=aB p.2/\H p.1=aC/\p.1≠X.env.locals/\p.1∉X.fs/\∀v,p.2.data≠.cell v
 hok:fm X.prog X.w H s.heap
 len:σ.length=X.N.length
section
variable{X:Cx}{pins:List (ah×Obj)}{σ:List (Option V)}{H H':Hp}{s:af}{h':az}
theorem Cx.Ok.Fc(ok:X.Ok){b:ah}{o:Obj}(e:X.base.get? b=aB o):b∉X.fs:=λhb=>by
 have:=(ok.iE.mem hb).1;rw[e]at this;cases this
theorem Inv.bs(I:Inv X pins σ H s):∀b o,X.base.get? b=aB o->s.heap.get? b=aB o/\H b=aC:=λb o e=>
 ⟨I.base.keep b o (I.ok.bs b o e).1 (I.ok.bs b o e).2 (I.ok.Fc e) (I.ok.nU b o e),I.base.free b o (I.ok.bs b o e).1 (I.ok.bs b o e).2 (I.ok.nU b o e)⟩
theorem Inv.bk(I:Inv X pins σ H s):∀b o,X.base.get? b=aB o->s.heap.get? b=aB o:=λb o e=>(I.bs b o e).1
theorem Inv.mod(I:Inv X pins σ H s):Mod X.K X.mg X.base:=I.ok.mod
theorem Inv.jt(I:Inv X pins σ H s):X.K.In s.heap:=I.ok.mod.Fb.keeps I.bk
theorem Inv.lt(I:Inv X pins σ H s):X.env.locals<s.heap.objs.size:=let⟨_,hn,_⟩:=I.loc;hn.lt
theorem Inv.sz(I:Inv X pins σ H s):X.s₀.heap.objs.size<=s.heap.objs.size:=iw I.ok.above (sV I.lt)
theorem Inv.Fd(I:Inv X pins σ H s){a:ah}(h:s.heap.objs.size<=a):a∉X.fs:=λhb=>by
 obtain⟨_,o,ho,_⟩:=I.ok.iE.mem hb;exact absurd (dF (dz ho) (iw I.sz h)) (gC _)
theorem Inv.u7(I:Inv X pins σ H s):∀x c,X.env.cells.lookup x=aB c->c≠X.env.locals:=λx c e z=>by
 obtain⟨v,o,ho,hd⟩:=I.cell x c e;obtain⟨m,⟨o',es,ep,ho',hd',_⟩,_⟩:=I.loc;rw[z,ho']at ho;cases ho;rw[hd']at hd;cases hd
theorem Inv.iE(I:Inv X pins σ H s):s.heap.FunFrames X.base X.outer:=by
 have all:∀(l:List Env),(∀b∈frs l,b∈X.fs)->X.s₀.heap.FunFrames X.base l->s.heap.FunFrames X.base l:=by
  intro l;induction l with
  |nil=>intro _ _;trivial
  |cons env r ih=>
   intro hs hl;obtain⟨hk,⟨L,o,hf,hn,ho,hd⟩,hr⟩:=hl;have hL:L∈X.fs:=hs L (by unfold frs;rw[uQ,hf];exact eZ);obtain⟨sl,e⟩:=I.base.slot L o ho (I.ok.xO L hL) hL λz=>I.ok.mH L z hL;exact⟨hk,⟨L,_,hf,hn,e,hd⟩,ih (λb hb=>hs b (by unfold frs;rw[uQ,hf];exact eY _ hb)) hr⟩
 exact all X.outer (λ_ hb=>hb) I.ok.iE
theorem Inv.stack(I:Inv X pins σ H s):s.heap.FunFrames X.base X.stack:=by rcases I.ok.stk with e|⟨e,hf⟩;rw[e];exact I.iE;rw[e];obtain⟨m,hn,_⟩:=I.loc;refine .cons (by rw[I.ok.kind];decide) hf hn ?_ I.iE;exact Heap.get?_none_of_le (iw I.ok.u6 I.ok.above)
theorem Inv.k6(I:Inv X pins σ H s):∀b∈frs X.stack,b∈X.env.locals::X.fs:=λb hb=>by
 rcases I.ok.stk with e|⟨e,hf⟩;rw[e]at hb;exact eY _ hb;rw[e]at hb;unfold frs at hb;rw[uQ,hf]at hb;exact hb
theorem Inv.lK(I:Inv X pins σ H s):∀b∈frs X.stack,H b=aC:=λb hb=>by
 rcases fT.mp (I.k6 b hb)with e|hb;rw[e];exact I.free;obtain⟨_,o,ho,_⟩:=I.ok.iE.mem hb;exact I.base.free b o ho (I.ok.xO b hb) λz=>I.ok.mH b z hb
theorem Inv.step{g':Array GenState}{t':Nat}{d':Drawn}{ch:List ah}(I:Inv X pins σ H s)
 (hch:∀b∈ch,(b∈X.ex\/X.s₀.heap.objs.size<=b)/\b≠X.env.locals/\(∀x c,X.env.cells.lookup x=aB c->c≠b)/\∀p∈X.pn++pins,p.1≠b)
 (keep:∀b o,b≠X.env.locals->b∉X.fs->b∉ch->s.heap.get? b=aB o->H b=aC->h'.get? b=aB o)
 (slot:∀b o,b≠X.env.locals->b∈X.fs->b∉ch->s.heap.get? b=aB o->H b=aC->∃sl,h'.get? b=aB {o with slots:=sl}) (free:∀b o,b∉ch->s.heap.get? b=aB o->H b=aC->H' b=aC)
 (there:∀b o,b∉ch->s.heap.get? b=aB o->∃o',h'.get? b=aB o')
 (tups:∀b xs,H b=aB (.tup xs)->H' b=aB (.tup xs)) (iD:∀b o u,H b=aB (.bC o u)->H' b=aB (.bC o u)) (ja:∀b ps,H b=aB (.uY ps)->∃more,H' b=aB (.uY (ps++more)))
 (ns:∀m,s.heap.Ns X.env.locals m->h'.Ns X.env.locals m) (hok:fm X.prog X.w H' h') (hg:AllBare g') :
 Inv X pins σ H' {s with heap:=h',gens:=g',drawn:=d',toks:=t'}:=by
 have KD:∀b o,X.s₀.heap.get? b=aB o->b≠X.env.locals:=λb o e=>gE (dF (dz e) I.ok.above);have nI:∀b o,X.s₀.heap.get? b=aB o->b∉X.ex->b∉ch:=λb o e hx hb=>by
  rcases(hch b hb).1 with z|z;exact hx z;exact absurd (dF (dz e) z) (gC _)
 have cellK:∀x c,X.env.cells.lookup x=aB c->∀v,s.heap.IsCell c v->h'.IsCell c v:=λx c e v b9=>by
  obtain⟨o,ho,hd⟩:=b9;have zj:c∉ch:=λz=>(hch c z).2.2.1 x c e rfl;by_cases hc:c∈X.fs;obtain⟨sl,q⟩:=slot c o (I.u7 x c e) hc zj ho (I.fq x c e);exact⟨_,q,hd⟩;exact⟨o,keep c o (I.u7 x c e) hc zj ho (I.fq x c e),hd⟩
 refine⟨I.ok,I.os,hg,⟨λb o e n hb hx=>?_,λb o e n hb hx=>?_,λb o e n hx=>?_,λb o e hx=>?_,λb xs e=>tups b xs (I.base.tups b xs e),λb o xs e=>iD b o xs (I.base.iD b o xs e),λb ps e=>?_⟩,?_,λx c e=>?_,?_,λx c e=>?_,λp hp=>?_,hok,I.len⟩;exact keep b o (KD b o e) hb (nI b o e hx) (I.base.keep b o e n hb hx) (I.base.free b o e n hx);obtain⟨sl,e1⟩:=I.base.slot b o e n hb hx;obtain⟨Pb,e2⟩:=slot b _ (KD b o e) hb (nI b o e hx) e1 (I.base.free b o e n hx);exact⟨Pb,e2⟩;obtain⟨o',e1⟩:=I.base.there b o e hx;exact free b o' (nI b o e hx) e1 (I.base.free b o e n hx);obtain⟨o',e1⟩:=I.base.there b o e hx;exact there b o' (nI b o e hx) e1;obtain⟨m1,e1⟩:=I.base.ja b ps e;obtain⟨m2,e2⟩:=ja b _ e1;exact⟨m1++m2,by rw[e2,Array.append_assoc]⟩;obtain⟨m,hn,hl⟩:=I.loc;refine⟨m,ns m hn,λi x v e1 e2 e3=>?_⟩;obtain⟨u,r,l⟩:=hl i x v e1 e2 e3;refine⟨u,r,?_⟩;rcases l with l|⟨k,c,e,z⟩
 exact .inl l;exact .inr ⟨k,c,e,cellK x c e _ z⟩;obtain⟨v,z⟩:=I.cell x c e;exact⟨v,cellK x c e v z⟩;obtain⟨m,⟨o,_,_,ho,_⟩,_⟩:=I.loc;exact free _ o (λz=>(hch _ z).2.1 rfl) ho I.free;obtain⟨v,o,ho,hd⟩:=I.cell x c e;exact free c o (λz=>(hch c z).2.2.1 x c e rfl) ho (I.fq x c e);obtain⟨e,n,ne,nf,d⟩:=I.pin p hp;have zj:p.1∉ch:=λz=>(hch p.1 z).2.2.2 p hp rfl;exact⟨keep p.1 p.2 ne nf zj e n,free p.1 p.2 zj e n,ne,nf,d⟩
theorem Inv.un{t':Nat}(I:Inv X pins σ H s)(u:Un X.fs [] H H' s.heap h')(hok:fm X.prog X.w H' h'):Inv X pins σ H' {s with heap:=h',toks:=t'}:=by
 obtain⟨m,⟨o,es,ep,ho,r⟩,_⟩:=id I.loc;obtain⟨sl,hL⟩:=u.any ho I.free (by simp);exact I.step (g':=s.gens) (d':=s.drawn) (ch:=[]) (λ_ z=>nomatch z) (λb o _ hb _ e n=>u.keep b o e n hb (by simp)) (λb o _ hb _ e n=>u.slot b o e n hb (by simp)) (λb o _ e n=>u.free b o e n (by simp)) (λb o _ e=>u.there b o e (by simp)) u.tups u.iD u.ja (λm' hm=>by
  obtain⟨o',es',zk,ho',r'⟩:=hm;rw[ho]at ho';cases ho';exact⟨_,es',zk,hL,r'⟩) hok I.bare
theorem Inv.call{g':Array GenState}{t':Nat}{d':Drawn}{ch:List ah}(I:Inv X pins σ H s)(u:Un (frs X.stack) ch H H' s.heap h')(hok:fm X.prog X.w H' h')(hg:AllBare g')
 (hch:∀b∈ch,(b∈X.ex\/X.s₀.heap.objs.size<=b)/\b≠X.env.locals/\(∀x c,X.env.cells.lookup x=aB c->c≠b)/\∀p∈X.pn++pins,p.1≠b) :
 Inv X pins σ H' {s with heap:=h',gens:=g',drawn:=d',toks:=t'}:=by
 obtain⟨m,⟨o,es,ep,ho,r⟩,_⟩:=id I.loc;obtain⟨sl,hL⟩:=u.any ho I.free λz=>(hch _ z).2.1 rfl;exact I.step (ch:=ch) hch (λb o hL hb hc e n=>u.keep b o e n (λz=>(fT.mp (I.k6 b z)).elim hL hb) hc) (λb o _ _ hc e n=>u.any e n hc) (λb o hc e n=>u.free b o e n hc) (λb o hc e=>u.there b o e hc) u.tups u.iD u.ja (λm' hm=>by
  obtain⟨o',es',zk,ho',r'⟩:=hm;rw[ho]at ho';cases ho';exact⟨_,es',zk,hL,r'⟩) hok hg
theorem Inv.turned{t':Nat}{it:ah}(I:Inv X pins σ H s)(k:∀b o,b≠it->s.heap.get? b=aB o->h'.get? b=aB o)(hn:H it=aC)(hL:it≠X.env.locals)
 (h1:it∈X.ex\/X.s₀.heap.objs.size<=it) (h2:∀x c,X.env.cells.lookup x=aB c->c≠it) (h3:∀p∈X.pn++pins,p.1≠it):Inv X pins σ H {s with heap:=h',toks:=t'}:=by
 have KG:∀b u,H b=aB u->b≠it:=λb u e z=>by rw[z,hn]at e;cases e
 refine I.step (g':=s.gens) (d':=s.drawn) (ch:=[it]) (λb hb=>?_) (λb o _ _ hc e _=>k b o (λz=>hc (by simp[z])) e) (λb o _ _ hc e _=>⟨o.slots,k b o (λz=>hc (by simp[z])) e⟩) (λ_ _ _ _ n=>n)
  (λb o hc e=>⟨o,k b o (λz=>hc (by simp[z])) e⟩) (λ_ _ e=>e) (λ_ _ _ e=>e) (λb ps e=>⟨#[],by rw[e];simp⟩) (λm hm=>?_) (λb u e=>?_) I.bare
 have e:b=it:=by simpa using hb
 subst e;exact⟨h1,hL,h2,h3⟩;obtain⟨o,es,ep,ho,r⟩:=hm;exact⟨o,es,ep,k _ o (fH hL) ho,r⟩;refine(I.hok b u e).stay (λc v hc q=>k c v ?_ q) (λ_ q=>q) λ_ _ q=>q;rcases hc with z|z
 rw[z];exact KG b u e;exact KG c _ z
theorem Inv.tok(I:Inv X pins σ H s)(t:Nat):Inv X pins σ H {s with toks:=t}:=I.un (h':=s.heap) (t':=t) Un.refl I.hok
theorem Inv.kept{t':Nat}(I:Inv X pins σ H s)(k:∀b u,s.heap.get? b=aB u->h'.get? b=aB u):Inv X pins σ H {s with heap:=h',toks:=t'}:=I.un (Un.kept k) (I.hok.kept k)
theorem Inv.laid{a:ah}{o:HO}{t':Nat}(I:Inv X pins σ H s)(k:∀b u,s.heap.get? b=aB u->h'.get? b=aB u)(hp:s.heap.objs.size<=a)(new:br X.prog X.w (upd H a o) h' a o) :
 Inv X pins σ (upd H a o) {s with heap:=h',toks:=t'}:=I.un (Un.laid k hp (I.hok.fresh hp)) (I.hok.laid k hp new)
theorem Inv.write{x e:ah}{o:HO}{t':Nat}(I:Inv X pins σ H s)(mu:zf (H x))(he:e=x\/H e=aB (.own x))(k:∀b u,b≠e->s.heap.get? b=aB u->h'.get? b=aB u)(xK:∃u,h'.get? e=aB u)
 (new:br X.prog X.w (upd H x o) h' x o):Inv X pins σ (upd H x o) {s with heap:=h',toks:=t'}:=I.un (Un.write mu he k xK) (I.hok.write mu he k xK new)
theorem Inv.lN{sY:List (ah×Obj)}(I:Inv X pins σ H s)(h:∀p∈sY,s.heap.get? p.1=aB p.2/\H p.1=aC/\p.1≠X.env.locals/\p.1∉X.fs/\∀v,p.2.data≠.cell v):Inv X sY σ H s:=
 ⟨I.ok,I.os,I.bare,I.base,I.loc,I.cell,I.free,I.fq,λp hp=>(xx.mp hp).elim (λz=>I.pin p (CS _ z)) (h p),I.hok,I.len⟩
theorem KH{N:List Str}(hN:N.Nodup){i j:Nat}{x:Str}(a:N[i]?=aB x)(b:N[j]?=aB x):i=j:=by obtain⟨h1,e1⟩:=iB.mp a;obtain⟨h2,e2⟩:=iB.mp b;exact(List.getElem_inj hN).mp (e1.trans e2.symm)
theorem Fe{M:Model}{A:ak}{E:aa->af->Prop}{i:Nat}{x:Str}{v:V}{u:aa}{Q:Unit->af->Prop}(I:Inv X pins σ H s)(hN:X.N.Nodup)(hi:X.N[i]?=aB x)(hx:Loc X.env.scope x)(r:RelV v u)
 (h:∀s',Inv X pins (σ.set i (aB v)) H s'->(∃a,Heap.SameBut a s.heap s'.heap/\(a=X.env.locals\/X.env.cells.lookup x=aB a))->Q () s') (hf:autoParam (X.fn x=true\/X.env.scope.names.lookup x=aB .local) L2.aF._auto_1):wpAny M A (storeName X.env x u) Q E s:=by
 obtain⟨m,hn,hl⟩:=id I.loc;have hcls:(X.env.scope.kind == .class|| (X.env.scope.kind == .module&&X.env.locals != X.env.globals))=false:=by rw[I.ok.kind];rfl
 have zl:i<σ.length:=by rw[I.len];exact(iB.mp hi).1
 have u7:=I.u7;have tracked:∀{a:ah}{h':az},(∃o,s.heap.get? a=aB o/\H a=aC)->Heap.SameBut a s.heap h'->fm X.prog X.w H h':=λ{a h'} ha hs b ob e=>by
  obtain⟨_,_,hfree⟩:=ha;refine(I.hok b ob e).stay (λc w' hc q=>(hs.2 c ?_).trans q) (λ_ q=>q) λ_ _ q=>q;rintro rfl;rcases hc with rfl|hc;rw[hfree]at e;cases e;rw[hfree]at hc;cases hc
 rcases hx with hk|hk;refine wpAny_storeName_local hk hn (λh' hn' hs=>?_) hcls;obtain⟨oL,_,_,Pc,_⟩:=id hn;refine h _ ⟨I.ok,I.os,I.bare,⟨λb o e n hb hx=>?_,λb o e n hb hx=>?_,I.base.free,λb o e hx=>?_,I.base.tups,I.base.iD,I.base.ja⟩,⟨_,hn',λj y v' e1 e2 e3=>?_⟩,λy c e=>?_,I.free,I.fq,λp hp=>?_,tracked ⟨oL,Pc,I.free⟩ hs,by simpa using I.len⟩ ⟨_,hs,.inl rfl⟩;exact(hs.2 b (gE (dF (dz e) I.ok.above))).trans (I.base.keep b o e n hb hx);obtain⟨sl,e1⟩:=I.base.slot b o e n hb hx;exact⟨sl,(hs.2 b (gE (dF (dz e) I.ok.above))).trans e1⟩;obtain⟨o',e1⟩:=I.base.there b o e hx;exact⟨o',(hs.2 b (gE (dF (dz e) I.ok.above))).trans e1⟩;by_cases hj:j=i;subst hj;rw[hi]at e1;cases e1;rw[uP zl]at e2;cases e2;exact⟨u,r,.inl ⟨hk,by simp⟩⟩;rw[xu (fH hj)]at e2;obtain⟨u',r',q⟩:=hl j y v' e1 e2 e3;refine⟨u',r',?_⟩;rcases q with⟨k,e⟩|⟨k,c,e,z⟩;refine .inl ⟨k,?_⟩;have:y≠x:=λe=>hj (KH hN e1 (e▸hi));simp[this,e];exact .inr ⟨k,c,e,z.sameBut hs (u7 y c e)⟩;obtain⟨w',z⟩:=I.cell y c e;exact⟨w',z.sameBut hs (u7 y c e)⟩;obtain⟨e,n,ne,nf,d⟩:=I.pin p hp;exact⟨(hs.2 p.1 ne).trans e,n,ne,nf,d⟩;have hfn:X.fn x=true:=by rcases hf with z|z;exact z;rw[z]at hk;cases hk
 obtain⟨c,hc⟩:=I.ok.has x (.inl hk);obtain⟨w',z⟩:=I.cell x c hc;refine wpAny_storeName_cell I.ok.kind hk hc z (λh' hc' hs=>?_);obtain⟨oc,hoc,Ff⟩:=id z;refine h {s with heap:=h'} ⟨I.ok,I.os,I.bare,⟨λb o e n hb hx=>?_,λb o e n hb hx=>?_,I.base.free,λb o e hx=>?_,I.base.tups,I.base.iD,I.base.ja⟩,⟨m,hn.sameBut hs (fH (u7 x c hc)),λj y v' e1 e2 e3=>?_⟩,λy c' e=>?_,I.free,I.fq,λp hp=>?_,tracked ⟨oc,hoc,I.fq x c hc⟩ hs,by simpa using I.len⟩ ⟨c,hs,.inr hc⟩;exact(hs.2 b (gE (dF (dz e) (I.ok.zh x c hfn hc)))).trans (I.base.keep b o e n hb hx);obtain⟨sl,e1⟩:=I.base.slot b o e n hb hx;exact⟨sl,(hs.2 b (gE (dF (dz e) (I.ok.zh x c hfn hc)))).trans e1⟩;obtain⟨o',e1⟩:=I.base.there b o e hx;exact⟨o',(hs.2 b (gE (dF (dz e) (I.ok.zh x c hfn hc)))).trans e1⟩;by_cases hj:j=i;subst hj;rw[hi]at e1;cases e1;rw[uP zl]at e2;cases e2;exact⟨u,r,.inr ⟨.inl hk,c,hc,hc'⟩⟩;rw[xu (fH hj)]at e2;obtain⟨u',r',q⟩:=hl j y v' e1 e2 e3;refine⟨u',r',?_⟩;rcases q with q|⟨k,c',e,z'⟩;exact .inl q;refine .inr ⟨k,c',e,z'.sameBut hs ?_⟩;rintro rfl;exact hj (KH hN e1 (I.ok.inj _ _ _ e hc▸hi));by_cases hcc:c'=c;subst hcc;exact⟨_,hc'⟩;obtain⟨w2,z2⟩:=I.cell y c' e;exact⟨w2,z2.sameBut hs hcc⟩;obtain⟨e,n,ne,nf,d⟩:=I.pin p hp;refine⟨(hs.2 p.1 ?_).trans e,n,ne,nf,d⟩;intro q;rw[q,hoc]at e;have q':oc=p.2:=nT e;exact d w' (by rw[<-q'];exact Ff)
theorem Fg{M:Model}{A:ak}{E:aa->af->Prop}{i:Nat}{x:Str}{v:V}{u:aa}{Q:Unit->af->Prop}(I:Inv X pins σ H s)(hN:X.N.Nodup)(hi:X.N[i]?=aB x)(hx:Loc X.env.scope x)(r:RelV v u)
 (h:∀s',Inv X pins (σ.set i (aB v)) H s'->Q () s') (hf:autoParam (X.fn x=true\/X.env.scope.names.lookup x=aB .local) L2.aF._auto_1):wpAny M A (storeName X.env x u) Q E s:=
 Fe I hN hi hx r (λs' I' _=>h s' I') hf
theorem Inv.sZ{s':af}{ch:List ah}(I:Inv X pins σ H s)(ho:s'.os=s.os)(u:Un (frs X.stack) ch H H' s.heap s'.heap)(hok:fm X.prog X.w H' s'.heap)(hg:AllBare s'.gens)
 (hch:∀b∈ch,(b∈X.ex\/X.s₀.heap.objs.size<=b)/\b≠X.env.locals/\(∀x c,X.env.cells.lookup x=aB c->c≠b)/\∀p∈X.pn++pins,p.1≠b):Inv X pins σ H' s':=by
 obtain⟨h',g',d',t',o'⟩:=s';have e:o'=s.os:=ho;subst e;exact I.call (g':=g') (t':=t') (d':=d') u hok hg hch
end
noncomputable abbrev XK:=aa->Option ah->Hp->Prop
noncomputable abbrev St:=List (Option V)
noncomputable abbrev VK:=V->Hp->Prop
noncomputable abbrev TE:=St->Hp->VK->Prop
noncomputable abbrev TT:=St->Hp->(Bool->Hp->Prop)->Prop
noncomputable abbrev TA:=St->Hp->(List V->Hp->Prop)->Prop
set_option genInjectivity false in
structure Ends where
 nx:St->Hp->Prop
 rt:VK
 bk:St->Hp->Prop:=λ_ _=>False
 ct:St->Hp->Prop:=λ_ _=>False
noncomputable abbrev TS:=Ends->St->Hp->Prop
noncomputable def EP(X:Cx)(pins:List (ah×Obj))(σ:St)(Q:VK)(u:aa)(s':af):Prop:=∃v H',Inv X pins σ H' s'/\RelV v u/\Q v H'
noncomputable def TP(X:Cx)(pins:List (ah×Obj))(σ:St)(Q:Bool->Hp->Prop)(b:Bool)(s':af):Prop:=∃H',Inv X pins σ H' s'/\Q b H'
noncomputable def AP(X:Cx)(pins:List (ah×Obj))(σ:St)(Q:List V->Hp->Prop)(us:List aa)(s':af):Prop:=∃vs H',Inv X pins σ H' s'/\Vals vs us/\Q vs H'
theorem EP.el{X:Cx}{pins:List (ah×Obj)}{σ:St}{Q:VK}{u:aa}{s':af}{P:Prop}(q:EP X pins σ Q u s')(k:∀v H',Inv X pins σ H' s'->RelV v u->Q v H'->P):P:=by obtain⟨v,H',a,b,c⟩:=q;exact k v H' a b c
theorem TP.el{X:Cx}{pins:List (ah×Obj)}{σ:St}{Q:Bool->Hp->Prop}{b:Bool}{s':af}{P:Prop}(q:TP X pins σ Q b s')(k:∀H',Inv X pins σ H' s'->Q b H'->P):P:=by obtain⟨H',a,c⟩:=q;exact k H' a c
theorem AP.el{X:Cx}{pins:List (ah×Obj)}{σ:St}{Q:List V->Hp->Prop}{us:List aa}{s':af}{P:Prop}(q:AP X pins σ Q us s')(k:∀vs H',Inv X pins σ H' s'->Vals vs us->Q vs H'->P):P:=by obtain⟨v,H',a,b,c⟩:=q;exact k v H' a b c
noncomputable def SP(X:Cx)(pins:List (ah×Obj))(D:Ends)(f:Flow)(s':af):Prop:=
 match f with|.next=>∃σ' H',Inv X pins σ' H' s'/\D.nx σ' H'|.brk=>∃σ' H',Inv X pins σ' H' s'/\D.bk σ' H'|.cont=>∃σ' H',Inv X pins σ' H' s'/\D.ct σ' H'|.ret u=>∃v σ' H',Inv X pins σ' H' s'/\RelV v u/\D.rt v H'
noncomputable def PE(X:Cx)(e:ao)(t:TE):Prop:=
 ∀(pins:List (ah×Obj))(s:af)(σ:St)(H:Hp)(Q:VK),Inv X pins σ H s->t σ H Q->wpAny (model X.prog X.w) X.A (eval e X.env) (EP X pins σ Q) X.xe s
noncomputable def PT(X:Cx)(e:ao)(t:TT):Prop:=
 ∀(pins:List (ah×Obj))(s:af)(σ:St)(H:Hp)(Q:Bool->Hp->Prop),Inv X pins σ H s->t σ H Q->wpAny (model X.prog X.w) X.A (isTrue e X.env (eval e X.env)) (TP X pins σ Q) X.xe s
noncomputable def PW(X:Cx)(e:ao)(t:TT):Prop:=
 ∀(whole:Sem aa)(pins:List (ah×Obj))(s:af)(σ:St)(H:Hp)(Q:Bool->Hp->Prop),Inv X pins σ H s->t σ H Q->wpAny (model X.prog X.w) X.A (isTrue e X.env whole) (TP X pins σ Q) X.xe s
theorem PW.pt{X:Cx}{e:ao}{t:TT}(h:PW X e t):PT X e t:=h _
noncomputable def PA(X:Cx)(es:List ao)(t:TA):Prop:=
 ∀(pos:Pos)(pins:List (ah×Obj))(s:af)(σ:St)(H:Hp)(Q:List V->Hp->Prop),Inv X pins σ H s->t σ H Q->wpAny (model X.prog X.w) X.A (spliced (backTo pos (starEach es X.env))) (AP X pins σ Q) X.xe s
noncomputable def PS(X:Cx)(st:aq)(t:TS):Prop:=
 ∀(pins:List (ah×Obj))(s:af)(σ:St)(H:Hp)(D:Ends),Inv X pins σ H s->t D σ H->wpAny (model X.prog X.w) X.A (exec st X.env) (SP X pins D) X.xe s
noncomputable def kN(X:Cx)(st:List aq)(t:TS):Prop:=
 ∀(pins:List (ah×Obj))(s:af)(σ:St)(H:Hp)(D:Ends),Inv X pins σ H s->t D σ H->wpAny (model X.prog X.w) X.A (execs st X.env) (SP X pins D) X.xe s
theorem bg{α:Type}{t:Sem α}{Q Q':α->af->Prop}{M:Model}{A:ak}{E:aa->af->Prop}{s:af}(h:wpAny M A t Q E s)(hQ:∀a s,Q a s->Q' a s):wpAny M A t Q' E s:=gV h hQ λ_ _ x=>x
section
variable{X:Cx}
noncomputable def Fi(i:Nat):TE:=λσ H Q=>∃v,σ[i]?=aB (aB v)/\Q v H
noncomputable def tC(v:V):TE:=λ_ H Q=>Q v H
theorem Pe{i:Nat}{x:Str}{pos:Pos}(hN:X.N[i]?=aB x)(hv:xM X.env.scope x)(hd:autoParam ((x==("__debug__" : Str))=false) L2.aD._auto_1)(hcd:autoParam ((x==("__classdict__" : Str))=false) L2.aD._auto_1):PE X (.Name x pos) (Fi i):=by
 intro pins s σ H Q I h;obtain⟨v,e,h⟩:=h;obtain⟨m,hn,hl⟩:=I.loc;obtain⟨u,r,l⟩:=hl i x v hN e hv;have fin:EP X pins σ Q u s:=⟨v,H,I,r,h⟩
 rcases l with⟨hk,hm⟩|⟨hk,c,hc,hcell⟩;exact wpAny_Name (wpAny_loadName_local I.ok.kind hk hn hm fin) hd;rcases hk with hk|hk;exact wpAny_Name (wpAny_loadName_cell I.ok.kind hk hc hcell fin) hd;exact wpAny_Name (wpAny_loadName_free I.ok.kind hk hc hcell fin hcd) hd
theorem Pf{i j pos}:PE X (.Constant (.int i) j pos) (tC (.int i)):=λ_ _ _ H _ I h=>wpAny_Constant_int ⟨.int i,H,I.tok _,⟨_,rfl⟩,h⟩
theorem zm{b j pos}:PE X (.Constant (.bool b) j pos) (tC (.bl b)):=λ_ _ _ H _ I h=>Constant_bool ⟨.bl b,H,I,rfl,h⟩
theorem Pg{j pos}:PE X (.Constant .none j pos) (tC .aR):=λ_ _ _ H _ I h=>Constant_none ⟨.aR,H,I,rfl,h⟩
theorem Ph{x j pos}:PE X (.Constant (.str x) j pos) (tC (.str x)):=λ_ _ _ H _ I h=>Calls.Constant_str ⟨.str x,H,I.tok _,⟨_,rfl⟩,h⟩
noncomputable def Gl(X:Cx)(x:Str):Prop:=X.env.kindOf x=aB .globalImplicit
theorem Fj{E:aa->af->Prop}{pins:List (ah×Obj)}{s:af}{σ:St}{H:Hp}{x:Str}{u:aa}{pos:Pos}{Q:aa->af->Prop}(I:Inv X pins σ H s)(hg:Gl X x)(hm:X.mg x=aB u)(h:Q u s)
 (hd:autoParam ((x==("__debug__" : Str))=false) L2.aD._auto_1):wpAny (model X.prog X.w) X.A (eval (.Name x pos) X.env) Q E s:=
 Calls.Name_function_global I.ok.kind hg (Calls.loadGlobal_global (by rw[I.ok.glob];exact I.mod.glob.keeps I.bk) hm h) hd
theorem u9{E:aa->af->Prop}{pins:List (ah×Obj)}{s:af}{σ:St}{H:Hp}{x:Str}{u:aa}{pos:Pos}{Q:aa->af->Prop}(I:Inv X pins σ H s)(hg:Gl X x)(hm:X.mg x=aC)(hv:bootBuiltins x=aB u)(h:Q u s)
 (hn:autoParam (x≠"__name__") L2.aD._auto_1) (hd:autoParam ((x==("__debug__" : Str))=false) L2.aD._auto_1):wpAny (model X.prog X.w) X.A (eval (.Name x pos) X.env) Q E s:=by
 obtain⟨mb,h1,h2⟩:=I.mod.blt;exact Calls.Name_function_global I.ok.kind hg (Calls.loadGlobal_builtin (by rw[I.ok.glob];exact I.mod.glob.keeps I.bk) hm (by rw[I.ok.blt];exact h1.keeps I.bk) ((h2 x hn).trans hv) h) hd
theorem Pj{x:Str}{v:V}{u:aa}{pos:Pos}(hg:Gl X x)(hm:X.mg x=aB u)(r:RelV v u)(hd:autoParam ((x==("__debug__" : Str))=false) L2.aD._auto_1):PE X (.Name x pos) (tC v):=
 λ_ _ _ H _ I h=>Fj I hg hm ⟨v,H,I,r,h⟩ hd
theorem Pk{x:Str}{v:V}{u:aa}{pos:Pos}(hg:Gl X x)(hm:X.mg x=aC)(hv:bootBuiltins x=aB u)(r:RelV v u)(hn:autoParam (x≠"__name__") L2.aD._auto_1)(hd:autoParam ((x==("__debug__" : Str))=false) L2.aD._auto_1):PE X (.Name x pos) (tC v):=
 λ_ _ _ H _ I h=>u9 I hg hm hv ⟨v,H,I,r,h⟩ hn hd
variable{a b:ao}{ta tb:TE}{pos:Pos}
variable{tA Df:TT}{rest:List ao}
noncomputable def Fo(t u:TT):TT:=λσ H Q=>t σ H λc H1=>if c=true then u σ H1 Q else Q false H1
noncomputable def Pn(t u:TT):TT:=λσ H Q=>t σ H λc H1=>if c=true then Q true H1 else u σ H1 Q
noncomputable def Fp(t:TT):TT:=λσ H Q=>t σ H λc H1=>Q (!c) H1
theorem Po(ha:PT X a tA):PW X (.BoolOp .And [a] pos) tA:=by
 intro wh pins s σ H Q I h;refine isTrue_and (bg (ha pins s σ H Q I h) λc s1 e=>?_);cases c with|true=>exact isTrue_and_nil e|false=>exact e
theorem Pp(ha:PT X a tA):PW X (.BoolOp .Or [a] pos) tA:=by
 intro wh pins s σ H Q I h;refine isTrue_or (bg (ha pins s σ H Q I h) λc s1 e=>?_);cases c with|false=>exact isTrue_or_nil e|true=>exact e
theorem Pq(ha:PT X a tA)(hb:PW X (.BoolOp .And (b::rest) pos) Df):PW X (.BoolOp .And (a::b::rest) pos) (Fo tA Df):=by
 intro wh pins s σ H Q I h;refine isTrue_and (bg (ha pins s σ H _ I h) λc s1 z9=>z9.el λH1 I1 q1=>?_);cases c with|true=>exact hb wh pins s1 σ H1 Q I1 q1|false=>exact⟨H1,I1,q1⟩
theorem pw_or(ha:PT X a tA)(hb:PW X (.BoolOp .Or (b::rest) pos) Df):PW X (.BoolOp .Or (a::b::rest) pos) (Pn tA Df):=by
 intro wh pins s σ H Q I h;refine isTrue_or (bg (ha pins s σ H _ I h) λc s1 z9=>z9.el λH1 I1 q1=>?_);cases c with|true=>exact⟨H1,I1,q1⟩|false=>exact hb wh pins s1 σ H1 Q I1 q1
theorem Pr(ha:PT X a tA):PT X (.UnaryOp .Not a pos) (Fp tA):=by intro pins s σ H Q I h;exact isTrue_not (ha pins s σ H (λc H1=>Q (!c) H1) I h)
noncomputable def zo(ta tb:TE):TE:=λσ H Q=>ta σ H λx H1=>∃c,x=.bl c/\if c=true then tb σ H1 Q else Q (.bl false) H1
noncomputable def Fq(ta tb:TE):TE:=λσ H Q=>ta σ H λx H1=>∃c,x=.bl c/\if c=true then Q (.bl true) H1 else tb σ H1 Q
noncomputable def zp(ta:TE):TE:=λσ H Q=>ta σ H λx H1=>∃c,x=.bl c/\Q (.bl (!c)) H1
theorem Pu{op}{t:TE}(h:PE X a t):PE X (.BoolOp op [a] pos) t:=λpins s σ H Q I hw=>BoolOp_one (h pins s σ H Q I hw)
theorem Pw(ha:PE X a ta)(hb:PE X (.BoolOp .And (b::rest) pos) tb):PE X (.BoolOp .And (a::b::rest) pos) (zo ta tb):=by
 intro pins s σ H Q I h;refine BoolOp_and (bg (ha pins s σ H _ I h) λv s1 z9=>z9.el λx H1 I1 r1 q1=>?_);obtain⟨c,rfl,q1⟩:=q1;cases r1;refine qj ?_;cases c with|true=>exact hb pins s1 σ H1 Q I1 q1|false=>exact⟨.bl false,H1,I1,rfl,q1⟩
theorem zq(ha:PE X a ta)(hb:PE X (.BoolOp .Or (b::rest) pos) tb):PE X (.BoolOp .Or (a::b::rest) pos) (Fq ta tb):=by
 intro pins s σ H Q I h;refine BoolOp_or (bg (ha pins s σ H _ I h) λv s1 z9=>z9.el λx H1 I1 r1 q1=>?_);obtain⟨c,rfl,q1⟩:=q1;cases r1;refine qj ?_;cases c with|false=>exact hb pins s1 σ H1 Q I1 q1|true=>exact⟨.bl true,H1,I1,rfl,q1⟩
theorem Px(ha:PE X a ta):PE X (.UnaryOp .Not a pos) (zp ta):=by intro pins s σ H Q I h;refine UnaryOp_ (bg (ha pins s σ H _ I h) λv s1 z9=>z9.el λx H1 I1 r1 q1=>?_);obtain⟨c,rfl,q1⟩:=q1;cases r1;exact not_of (qj ⟨.bl (!c),H1,I1,rfl,q1⟩)
noncomputable def Py(t:TT)(ta tb:TE):TE:=λσ H Q=>t σ H λc H1=>if c=true then ta σ H1 Q else tb σ H1 Q
theorem Pz{c:ao}(hc:PT X c tA)(ha:PE X a ta)(hb:PE X b tb):PE X (.IfExp c a b pos) (Py tA ta tb):=by
 intro pins s σ H Q I h;refine wpAny_IfExp (bg (hc pins s σ H _ I h) λd s1 z9=>z9.el λH1 I1 q1=>?_);cases d with|true=>exact ha pins s1 σ H1 Q I1 q1|false=>exact hb pins s1 σ H1 Q I1 q1
end
noncomputable def dh(K:aK)(H:Hp)(a:ah)(xs:List V):Prop:=
 Rd H a (.lst xs)\/
  ∃(o:Obj) (its:Array aa) (n:Nat),K.lookup a=aB o/\o.cls=.type "list"/\o.dict=aC/\o.data=.seq its n/\its.size<=sizeLine/\Vals xs its.toList
noncomputable def cN(K:aK)(H:Hp)(a:ah)(xs:List V):Prop:=
 Rd H a (.tup xs)\/
  ∃(o:Obj) (its:Array aa) (n:Nat),K.lookup a=aB o/\o.cls=.type "tuple"/\o.dict=aC/\o.data=.seq its n/\its.size<=sizeLine/\Vals xs its.toList
noncomputable def Ft:aa->Option V|.none=>aB .aR|.bool b=>aB (.bl b)|.int i _=>aB (.int i)|.str x _=>aB (.str x)|.bytes b _=>aB (.zc b)|.float b _=>aB (.xH b)|.ref a=>aB (.ref a)|.type n=>aB (.ty n)|_=>aC
theorem RelV.abs{x:V}{u:aa}(r:RelV x u):Ft u=aB x:=by
 cases x with|aR=>cases r;rfl|bl _=>cases r;rfl|int _=>obtain⟨t,rfl⟩:=r;rfl|str _=>obtain⟨t,rfl⟩:=r;rfl|zc _=>obtain⟨t,rfl⟩:=r;rfl|xH _=>obtain⟨t,rfl⟩:=r;rfl|ref _=>cases r;rfl|ty _=>cases r;rfl
theorem RelV.inj{x y:V}{u:aa}(r:RelV x u)(q:RelV y u):x=y:=nT (r.abs.symm.trans q.abs)
theorem Vals.inj:∀{xs ys:List V} {us:List aa},Vals xs us->Vals ys us->xs=ys|_,_,_,.nil,.nil=>rfl|_,_,_,.cons r t,.cons r' t'=>by rw[r.inj r',Vals.inj t t']
section
variable{X:Cx}{pins:List (ah×Obj)}{σ:St}{H:Hp}{s:af}{a:ah}{xs ys:List V}
theorem dh.of{K:aK}(h:H a=aB (.lst xs)):dh K H a xs:=.inl (.inl h)
theorem cN.of{K:aK}(h:H a=aB (.tup xs)):cN K H a xs:=.inl (.inl h)
theorem Inv.list(I:Inv X pins σ H s)(h:dh X.K H a xs):∃its:List aa,Vals xs its/\PlainL s.heap a its.toArray/\xs.length<=sizeLine:=by rcases h with h|⟨o,its,n,hk,hc,hd,hs,hz,r⟩;obtain⟨z,its,n,r,e⟩:=h.ok I.hok;exact⟨its,r,⟨_,n,e,rfl,rfl,rfl⟩,z⟩;refine⟨its.toList,r,⟨o,n,I.jt a o hk,hc,hd,by simpa using hs⟩,?_⟩;have e:=r.length;simp only[xF]at e;lia
theorem Inv.nV(I:Inv X pins σ H s)(h:cN X.K H a xs):∃its:List aa,Vals xs its/\kZ s.heap a its.toArray/\xs.length<=sizeLine:=by rcases h with h|⟨o,its,n,hk,hc,hd,hs,hz,r⟩;obtain⟨z,its,r,p⟩:=h.ok I.hok;exact⟨its,r,p,z⟩;refine⟨its.toList,r,⟨o,I.jt a o hk,hc,⟨n,by simpa using hs⟩,hd⟩,?_⟩;have e:=r.length;simp only[xF]at e;lia
theorem Inv.tuple(I:Inv X pins σ H s)(h:cN X.K H a xs):∃its:List aa,Vals xs its/\IsTup s.heap a its.toArray/\xs.length<=sizeLine:=by obtain⟨its,r,p,z⟩:=I.nV h;exact⟨its,r,p.tup,z⟩
theorem Inv.j7(I:Inv X pins σ H s)(h:dh X.K H a xs)(h':dh X.K H a ys):xs=ys:=by
 obtain⟨its,r,⟨o,n,e,_,_,d⟩,_⟩:=I.list h;obtain⟨its',r',⟨o',n',e',_,_,d'⟩,_⟩:=I.list h';rw[e]at e';cases e';rw[d]at d';injection d' with d1 _;have:its=its':=by simpa using mD Array.toList d1
 subst this;exact r.inj r'
theorem Inv.gG(I:Inv X pins σ H s)(h:cN X.K H a xs)(h':cN X.K H a ys):xs=ys:=by
 obtain⟨its,r,⟨o,e,_,n,d⟩,_⟩:=I.tuple h;obtain⟨its',r',⟨o',e',_,n',d'⟩,_⟩:=I.tuple h';rw[e]at e';cases e';rw[d]at d';injection d' with d1 _;have:its=its':=by simpa using mD Array.toList d1
 subst this;exact r.inj r'
end
noncomputable abbrev Cx.jb(X:Cx)(E:aa->af->Prop):Cx:={X with xe:=E}
noncomputable abbrev Cx.xP(X:Cx):Cx:=X.jb λ_ _=>False
theorem Cx.Ok.jb{X:Cx}(ok:X.Ok)(E:aa->af->Prop):(X.jb E).Ok:=
 ⟨ok.mod,ok.kind,ok.glob,ok.blt,ok.above,ok.inj,ok.has,ok.zh,ok.hd,ok.frames,ok.stk,ok.xN,ok.bs,ok.u6,ok.nU,ok.mH,ok.iE,ok.xO⟩
theorem Cx.Ok.eL{X:Cx}{E:aa->af->Prop}(ok:(X.jb E).Ok):X.Ok:=
 ⟨ok.mod,ok.kind,ok.glob,ok.blt,ok.above,ok.inj,ok.has,ok.zh,ok.hd,ok.frames,ok.stk,ok.xN,ok.bs,ok.u6,ok.nU,ok.mH,ok.iE,ok.xO⟩
section
variable{X:Cx}{pins:List (ah×Obj)}{σ:St}{H:Hp}{s:af}{E:aa->af->Prop}
theorem Inv.jb(I:Inv X pins σ H s)(E:aa->af->Prop):Inv (X.jb E) pins σ H s:=⟨I.ok.jb E,I.os,I.bare,I.base,I.loc,I.cell,I.free,I.fq,I.pin,I.hok,I.len⟩
theorem Inv.eL(I:Inv (X.jb E) pins σ H s):Inv X pins σ H s:=⟨I.ok.eL,I.os,I.bare,I.base,I.loc,I.cell,I.free,I.fq,I.pin,I.hok,I.len⟩
theorem SP.eL{D:Ends}{f:Flow}{s':af}(h:SP (X.jb E) pins D f s'):SP X pins D f s':=by
 cases f with|next=>obtain⟨σ',H',I,q⟩:=h;exact⟨σ',H',I.eL,q⟩|brk=>obtain⟨σ',H',I,q⟩:=h;exact⟨σ',H',I.eL,q⟩|cont=>obtain⟨σ',H',I,q⟩:=h;exact⟨σ',H',I.eL,q⟩|ret u=>obtain⟨v,σ',H',I,r,q⟩:=h;exact⟨v,σ',H',I.eL,r,q⟩
theorem kN.xP{st:List aq}{t:TS}(h:kN X.xP st t):kN X st t:=λpins s σ H D I hw=>
 gV (h pins s σ H D (I.jb _) hw) (λ_ _ q=>q.eL) λ_ _ z=>False.elim z
end
section
variable{X:Cx}{st:aq}{rest:List aq}{t u:TS}{e:ao}{te:TE}{pos:Pos}
noncomputable def tu:TS:=λD σ H=>D.nx σ H
noncomputable def Fv(t u:TS):TS:=λD σ H=>t {D with nx:=u D} σ H
theorem PB:kN X [] tu:=λ_ _ σ H _ I h=>wpAny_execs_nil ⟨σ,H,I,h⟩
theorem PC(h1:PS X st t)(h2:kN X rest u):kN X (st::rest) (Fv t u):=by
 intro pins s σ H D I h;refine wpAny_execs_cons (bg (h1 pins s σ H {D with nx:=u D} I h) λf s1 q=>?_);cases f with
 |next=>
  obtain⟨σ',H',I',q⟩:=q;exact h2 pins s1 σ' H' D I' q
 |ret v=>exact q
 |brk=>exact q
 |cont=>exact q
noncomputable def PD:TS:=λD σ H=>D.bk σ H
noncomputable def zu:TS:=λD σ H=>D.ct σ H
theorem PF:PS X (.Pass pos) tu:=λ_ _ σ H _ I h=>wpAny_Pass ⟨σ,H,I,h⟩
theorem PJ:PS X (.Break pos) PD:=λ_ _ σ H _ I h=>wpAny_Break ⟨σ,H,I,h⟩
theorem PK:PS X (.Continue pos) zu:=λ_ _ σ H _ I h=>wpAny_Continue ⟨σ,H,I,h⟩
theorem Inv.quiet{pins:List (ah×Obj)}{σ:St}{H:Hp}{s:af}(I:Inv X pins σ H s):interactive X.env=false:=by simp[interactive,I.ok.kind]
noncomputable def zw(te:TE):TS:=λD σ H=>te σ H λ_ H1=>D.nx σ H1
theorem PL(he:PE X e te)(hs:autoParam (swapsWith e aC pos.line X.env=pure false) L2.aR._auto_1):PS X (.Expr e pos) (zw te):=by intro pins s σ H D I h;exact wpAny_Expr_any (bg (he pins s σ H _ I h) λv s1 z9=>z9.el λx H1 I1 r1 q1=>⟨σ,H1,I1,q1⟩) I.quiet hs
noncomputable def Fw(te:TE):TS:=λD σ H=>te σ H D.rt
theorem PN(he:PE X e te):PS X (.Return (aB e) pos) (Fw te):=by intro pins s σ H D I h;exact wpAny_Return_some (bg (he pins s σ H _ I h) λv s1 z9=>z9.el λx H1 I1 r1 q1=>⟨x,σ,H1,I1,r1,q1⟩)
noncomputable def zx:TS:=λD _ H=>D.rt .aR H
theorem PR:PS X (.Return aC pos) zx:=λ_ _ σ H _ I h=>wpAny_Return_none ⟨.aR,σ,H,I,rfl,h⟩
noncomputable def Fx(c:TT)(t u:TS):TS:=λD σ H=>c σ H λb H1=>if b=true then t D σ H1 else u D σ H1
theorem zy{c:ao}{a b:List aq}{tc:TT}(hc:PT X c tc)(ha:kN X a t)(hb:kN X b u):PS X (.If c a b pos) (Fx tc t u):=by
 intro pins s σ H D I h;refine wpAny_If (bg (hc pins s σ H _ I h) λd s1 z9=>z9.el λH1 I1 q1=>?_);cases d with|true=>exact ha pins s1 σ H1 D I1 q1|false=>exact hb pins s1 σ H1 D I1 q1
noncomputable def PU:TS:=λ_ _ _=>False
theorem PV:PS X st PU:=λ_ _ _ _ _ _ h=>h.elim
end
noncomputable abbrev TG:=V->St->Hp->(St->Hp->Prop)->Prop
noncomputable abbrev qz:=List V->St->Hp->(St->Hp->Prop)->Prop
noncomputable def PG(X:Cx)(target:ao)(t:TG):Prop:=
 ∀(pins:List (ah×Obj))(s:af)(σ:St)(H:Hp)(v:V)(u:aa)(Q:St->Hp->Prop),Inv X pins σ H s->RelV v u->t v σ H Q->
  wpAny (model X.prog X.w) X.A (assign target X.env u) (λ_ s'=>∃σ' H',Inv X pins σ' H' s'/\Q σ' H') X.xe s
noncomputable def xQ(X:Cx)(ts:List ao)(t:qz):Prop:=
 ∀(pins:List (ah×Obj))(s:af)(σ:St)(H:Hp)(vs:List V)(us:List aa)(Q:St->Hp->Prop),Inv X pins σ H s->Vals vs us->t vs σ H Q->
  wpAny (model X.prog X.w) X.A (assignInOrder ((assignEach ts X.env).map (·.2)) us) (λ_ s'=>∃σ' H',Inv X pins σ' H' s'/\Q σ' H') X.xe s
noncomputable abbrev vc:=V->V->V->Hp->(Hp->Prop)->Prop
noncomputable def mJ(X:Cx)(t:vc):Prop:=
 ∀(pins:List (ah×Obj))(s:af)(σ:St)(H:Hp)(o i v:V)(ov iv u:aa)(Q:Hp->Prop),Inv X pins σ H s->RelV o ov->RelV i iv->RelV v u->t o i v H Q->
  wpAny (model X.prog X.w) X.A (setItem ov iv u) (λ_ s'=>∃H',Inv X pins σ H' s'/\Q H') X.xe s
noncomputable abbrev Dg:=V->V->Hp->VK->Prop
noncomputable def xR(X:Cx)(op:Operator)(t:Dg):Prop:=
 ∀(pins:List (ah×Obj))(s:af)(σ:St)(H:Hp)(x y:V)(v u:aa)(Q:VK),Inv X pins σ H s->RelV x v->RelV y u->t x y H Q->
  wpAny (model X.prog X.w) X.A (inplaceOp op v u) (EP X pins σ Q) X.xe s
section
variable{X:Cx}{pos:Pos}
noncomputable def iF(i:Nat):TG:=λv σ H Q=>Q (σ.set i (aB v)) H
theorem KI{i:Nat}{x:Str}(hN:X.N.Nodup)(hi:X.N[i]?=aB x)(hx:Loc X.env.scope x)(hf:autoParam (X.fn x=true\/X.env.scope.names.lookup x=aB .local) L2.aF._auto_1):PG X (.Name x pos) (iF i):=by intro pins s σ H v u Q I r h;exact wpAny_assign_Name (Fg I hN hi hx r (λs' I'=>⟨_,H,I',h⟩) hf)
noncomputable def Fy:qz:=λvs σ H Q=>vs=[]/\Q σ H
noncomputable def zz(t:TG)(u:qz):qz:=λvs σ H Q=>∃v r,vs=v::r/\t v σ H λσ' H'=>u r σ' H' Q
theorem KJ:xQ X [] Fy:=by intro pins s σ H vs us Q I r h;obtain⟨e,h⟩:=h;subst e;cases r;exact assignInOrder_nil ⟨σ,H,I,h⟩
theorem FA{e:ao}{es:List ao}{t:TG}{u:qz}(h1:PG X e t)(h2:xQ X es u)
 (hs:autoParam ((assignEach (e::es) X.env).map (·.2)=assign e X.env:: (assignEach es X.env).map (·.2)) L2.aR._auto_1):xQ X (e::es) (zz t u):=by
 intro pins s σ H vs us Q I r h;obtain⟨v,vr,e1,h⟩:=h;subst e1;cases r with
 |cons r rr=>
  rw[hs];refine assignInOrder_cons (bg (h1 pins s σ H _ _ _ I r h) λ_ s1 b9=>?_);obtain⟨σ1,H1,I1,q1⟩:=b9;exact h2 pins s1 σ1 H1 _ _ Q I1 rr q1
noncomputable def FD(K:aK)(n:Nat)(t:qz):TG:=λv σ H Q=>∃a xs,v=.ref a/\cN K H a xs/\xs.length=n/\t xs σ H Q
theorem KL{es:List ao}{k:Nat}{t:qz}{n:Nat}(hc:X.calm)(h:xQ X es t)
 (hn:autoParam ((assignEach es X.env).length=n) L2.aR._auto_1) (hst:autoParam ((assignEach es X.env).findIdx? (·.1)=aC) L2.aR._auto_1):PG X (.Tuple es k pos) (FD X.K n t):=by
 intro pins s σ H v u Q I r hw;obtain⟨a,xs,e1,hq,hl,hw⟩:=hw;subst e1;cases r;obtain⟨its,rv,ht,hz⟩:=I.tuple hq;refine assign_Tuple_tuple (I.ok.hd hc) ht (by simp[hn,<-hl,rv.length]) hst λh' hx=>?_;have I1:Inv X pins σ H {s with heap:=h'}:=I.kept (t':=s.toks) λb o e=>hx b o (gE (dz e)) e;exact h pins _ σ H xs _ Q I1 (by simpa using rv) hw
noncomputable def FF(to ti:TE)(t:vc):TG:=λv σ H Q=>to σ H λo H1=>ti σ H1 λi H2=>t o i v H2 λH3=>Q σ H3
theorem PX{o i:ao}{to ti:TE}{t:vc}(ho:PE X o to)(hi:PE X i ti)(hs:mJ X t)
 (ha:∀v,assign (.Subscript o i pos) X.env v=(do
   let ov <-holding [v] (eval o X.env);let iv <-holding [v,ov] (eval i X.env)
   standAt pos
   holding [v,ov,iv] (setItem ov iv v)
   release [v,ov,iv] []):=by intro _;rfl):PG X (.Subscript o i pos) (FF to ti t):=by
 intro pins s σ H v u Q I r h;rw[ha];refine aS (pF (bg (ho pins s σ H _ I h) λov s1 z9=>z9.el λx H1 I1 r1 q1=>?_));refine aS (pF (bg (hi pins s1 σ H1 _ I1 q1) λiv s2 z9=>z9.el λy H2 I2 r2 q2=>?_));refine aS (mE (aS (pF (bg (hs pins s2 σ H2 x y v ov iv u _ I2 r1 r2 r q2) λ_ s3 b9=>?_))));obtain⟨H3,I3,q3⟩:=b9;exact wpAny_release ⟨σ,H3,I3,q3⟩
noncomputable def qA(te:TE)(g:TG):TS:=λD σ H=>te σ H λx H1=>g x σ H1 D.nx
theorem KN{tg e:ao}{te:TE}{g:TG}(he:PE X e te)(hg:PG X tg g)(hs:autoParam (swapsWithSole [tg] e pos.line X.env=pure false) L2.aR._auto_1)(hw:autoParam (swappedStores [tg] e X.env=pure aC) L2.aR._auto_1)
 (h1:autoParam ((assignEach [tg] X.env).map (·.2)=[assign tg X.env]) L2.aR._auto_1):PS X (.Assign [tg] e pos) (qA te g):=by
 intro pins s σ H D I h;refine wpAny_Assign_stores (bg (he pins s σ H _ I h) λv s1 z9=>z9.el λx H1 I1 r1 q1=>?_) hs hw;rw[h1];exact bg (hg pins s1 σ H1 x v _ I1 r1 q1) λ_ s2 q=>q
theorem PY{i:Nat}{x:Str}{e:ao}{te:TE}{pos':Pos}(hN:X.N.Nodup)(hi:X.N[i]?=aB x)(hx:Loc X.env.scope x)(he:PE X e te)(hs:autoParam (swapsWith e (aB (.Name x pos')) pos.line X.env=pure false) L2.aR._auto_1)(hf:autoParam (X.fn x=true\/X.env.scope.names.lookup x=aB .local) L2.aF._auto_1) :
 PS X (.Assign [.Name x pos'] e pos) (qA te (iF i)):=by
 intro pins s σ H D I h;refine wpAny_Assign_Name (bg (he pins s σ H _ I h) λv s1 z9=>z9.el λy H1 I1 r1 q1=>?_) hs;exact Fg I1 hN hi hx r1 (λs2 I2=>⟨_,H1,I2,q1⟩) hf
noncomputable def FG(i:Nat)(te:TE)(ti:Dg):TS:=λD σ H=>∃x,σ[i]?=aB (aB x)/\te σ H λy H1=>ti x y H1 λz H2=>D.nx (σ.set i (aB z)) H2
theorem PZ{i:Nat}{x:Str}{e:ao}{te:TE}{op:Operator}{ti:Dg}{pos':Pos}(hN:X.N.Nodup)(hi:X.N[i]?=aB x)(hx:Loc X.env.scope x)(he:PE X e te)(ho:xR X op ti)(hf:autoParam (X.fn x=true\/X.env.scope.names.lookup x=aB .local) L2.aF._auto_1) :
 PS X (.AugAssign (.Name x pos') op e pos) (FG i te ti):=by
 intro pins s σ H D I h;obtain⟨v,e1,h⟩:=h;obtain⟨m,hn,hl⟩:=I.loc;have vis:xM X.env.scope x:=by rcases hx with k|k;exact .inl k;exact .inr (.inl k)
 obtain⟨u,r,l⟩:=hl i x v hi e1 vis;refine wpAny_AugAssign_Name ?_;have go:wpAny (model X.prog X.w) X.A (eval e X.env) (λw s₂=>wpAny (model X.prog X.w) X.A (inplaceOp op u w) (λr s₃=>wpAny (model X.prog X.w) X.A (storeName X.env x r) (λ_=>SP X pins D .next) X.xe s₃) X.xe s₂) X.xe s:=by refine bg (he pins s σ H _ I h) λw s1 z9=>z9.el λy H1 I1 r1 q1=>?_;refine bg (ho pins s1 σ H1 v y u w _ I1 r r1 q1) λz s2 z9=>z9.el λzv H2 I2 r2 q2=>?_;exact Fg I2 hN hi hx r2 (λs3 I3=>⟨_,H2,I3,q2⟩) hf
 rcases l with⟨hk,hm⟩|⟨hk,c,hc,hcell⟩;exact wpAny_loadName_local I.ok.kind hk hn hm go;rcases hk with hk|hk;exact wpAny_loadName_cell I.ok.kind hk hc hcell go;rcases hx with k|k;have:X.env.scope.names.lookup x=aB .free:=hk;rw[k]at this;cases this;have:X.env.scope.names.lookup x=aB .free:=hk;rw[k]at this;cases this
noncomputable def Dh(f:Int->Int->Int):Dg:=λx y H Q=>∃i j,x=.int i/\y=.int j/\Q (.int (f i j)) H
theorem P0:xR X .Add (Dh λi j=>i+j):=by intro pins s σ H x y v u Q I r1 r2 h;obtain⟨i,j,e1,e2,q⟩:=h;subst e1;subst e2;obtain⟨t,rfl⟩:=r1;obtain⟨t',rfl⟩:=r2;exact iadd_int ⟨.int _,H,I.tok _,⟨_,rfl⟩,q⟩
theorem P4:xR X .Sub (Dh λi j=>i-j):=by intro pins s σ H x y v u Q I r1 r2 h;obtain⟨i,j,e1,e2,q⟩:=h;subst e1;subst e2;obtain⟨t,rfl⟩:=r1;obtain⟨t',rfl⟩:=r2;exact isub_int ⟨.int _,H,I.tok _,⟨_,rfl⟩,q⟩
end
section
variable{X:Cx}{pos:Pos}
noncomputable def P5(c:TT)(tb:TS):TS:=λD σ H=>∃W:Nat->St->Hp->Prop,(∃m,W m σ H)/\∀m σ H,W m σ H->
 c σ H λb H1=>if b=true then ∃N:St->Hp->Prop,(∀σ' H',N σ' H'->∃m',m'<m/\W m' σ' H')/\tb {D with nx:=N,ct:=N,bk:=D.nx} σ H1 else D.nx σ H1
theorem P6{c:ao}{body:List aq}{tc:TT}{tb:TS}(hp:PassesOwn (model X.prog X.w) X.A X.env X.xe)(hc:PT X c tc)(hb:kN X body tb):PS X (.While c body [] pos) (P5 tc tb):=by
 intro pins s σ H D I h;obtain⟨W,⟨m0,w0⟩,turn⟩:=h;refine wpAny_While (codeAny_whileLoop (λn s'=>∃σ' H',Inv X pins σ' H' s'/\W n σ' H') ?_ m0 ⟨σ,H,I,w0⟩);rintro n s1 ⟨σ1,H1,I1,w1⟩;refine uO hp (bg (hc pins s1 σ1 H1 _ I1 (turn n σ1 H1 w1)) λb s2 z9=>z9.el λH2 I2 q2=>?_);cases b with
 |true=>
  obtain⟨N,hN,q2⟩:=q2;rw[if_pos rfl];refine uO hp (bg (hb pins s2 σ1 H2 _ I2 q2) λf s3 q3=>?_);cases f with
  |next=>
   obtain⟨σ3,H3,I3,n3⟩:=q3;obtain⟨m',hm,w3⟩:=hN σ3 H3 n3;exact⟨m',hm,σ3,H3,I3,w3⟩
  |cont=>
   obtain⟨σ3,H3,I3,n3⟩:=q3;obtain⟨m',hm,w3⟩:=hN σ3 H3 n3;exact⟨m',hm,σ3,H3,I3,w3⟩
  |brk=>exact q3
  |ret v=>exact q3
 |false=>
  rw[if_neg uW];exact wpAny_execs_nil ⟨σ1,H2,I2,q2⟩
end
set_option genInjectivity false in
structure It where
 go:Nat->Hp->Prop
 tw:Nat->Hp->V->Hp->Prop
 stop:Nat->Hp->Prop
noncomputable def eE(X:Cx)(pins:List (ah×Obj))(H:Hp)(b:ah):Prop:=
 H b=aC/\b≠X.env.locals/\b∉X.fs/\(b∈X.ex\/X.s₀.heap.objs.size<=b)/\(∀x c,X.env.cells.lookup x=aB c->c≠b)/\∀p∈X.pn++pins,p.1≠b
theorem Inv.j8{X:Cx}{pins:List (ah×Obj)}{σ:St}{H H':Hp}{s:af}{b:ah}(I:Inv X pins σ H s)(hb:s.heap.objs.size<=b)(hn:H' b=aC):eE X pins H' b:=by refine⟨hn,sW (dF I.lt hb),I.Fd hb,.inr (iw I.sz hb),λx c e z=>?_,λp hp z=>?_⟩;obtain⟨v,q⟩:=I.cell x c e;exact absurd (dF q.lt (by rw[z];exact hb)) (gC _);exact absurd (dF (dz (I.pin p hp).1) (by rw[z];exact hb)) (gC _)
structure Turn(P:ai)(w:aj)(K:aK)(tg:ao)(J:It)(fp:List ah)(it:ah)(tn:Nat->az->Prop):Prop where
 mem:it∈fp
 obj:∀i h,tn i h->∀b∈fp,∃o,h.get? b=aB o/\∀v,o.data≠.cell v
 keep:∀i h h',tn i h->(∀b∈fp,∀o,h.get? b=aB o->h'.get? b=aB o)->tn i h'
 item:∀(X:Cx),X.prog=P->X.w=w->X.K=K->X.calm=true->∀(i:Nat)(pins:List (ah×Obj))(s:af)(σ:St)(H:Hp)(E:aa->af->Prop),Inv X pins σ H s->(∀b∈fp,eE X pins H b)->tn i s.heap->J.go i H->
  wpAny (model P w) X.A (pyNext (.ref it)) (λr s1=>∃u,r=aB u/\
   wpAny (model P w) X.A (letOwnedTupleGo tg (.ref it) u) (λ_ s2=>∃x H',Inv X pins σ H' s2/\RelV x u/\J.tw i H x H'/\tn (i+1) s2.heap/\∀b∈fp,H' b=aC) E s1) E s
 done:∀(X:Cx),X.prog=P->X.w=w->X.K=K->X.calm=true->∀(i:Nat)(pins:List (ah×Obj))(s:af)(σ:St)(H:Hp)(E:aa->af->Prop),Inv X pins σ H s->(∀b∈fp,eE X pins H b)->tn i s.heap->J.stop i H->
  wpAny (model P w) X.A (pyNext (.ref it)) (λr s1=>r=aC/\Inv X pins σ H s1) E s
 self:∀(A:ak)(i:Nat)(s:af)(Q:aa->af->Prop)(E:aa->af->Prop),tn i s.heap->Q (.ref it) s->wpAny (model P w) A (pyIter (.ref it)) Q E s
noncomputable abbrev TI:=St->Hp->(It->Hp->Prop)->Prop
noncomputable def zA(X:Cx)(pins:List (ah×Obj))(σ:St)(tg:ao)(R:It->Hp->Prop)(itv:aa)(s2:af):Prop:=
 ∃(it:ah) (fp:List ah) (tn:Nat->az->Prop) (J:It) (H':Hp),itv=.ref it/\Inv X pins σ H' s2/\Turn X.prog X.w X.K tg J fp it tn/\tn 0 s2.heap/\(∀b∈fp,eE X pins H' b)/\R J H'
noncomputable def PI(X:Cx)(tg iter:ao)(wi:TI):Prop:=
 ∀(pins:List (ah×Obj))(s:af)(σ:St)(H:Hp)(R:It->Hp->Prop),Inv X pins σ H s->wi σ H R->
  wpAny (model X.prog X.w) X.A (eval iter X.env) (λv s1=>wpAny (model X.prog X.w) X.A (pyIter v) (zA X pins σ tg R) X.xe s1) X.xe s
theorem lO{M:Model}{A:ak}{E:aa->af->Prop}{s:af}{tg:ao}{it:ah}{u:aa}{o:Obj}{n:String}{vs:Array aa}{Q:Unit->af->Prop}(ho:s.heap.get? it=aB o)(hc:o.cls=.type n)(hd:o.data=.fields vs)
 (hn:["enumerate","zip","dict_itemiterator","dict_reverseitemiterator","odict_iterator","itertools.zip_longest","itertools.pairwise"].contains n=false) (hQ:Q () s):wpAny M A (letOwnedTupleGo tg (.ref it) u) Q E s:=by
 unfold letOwnedTupleGo;cases tg<;>first
  |exact bS hQ
  |(cases u<;>first
     |exact bS hQ
     |(refine aS (wpAny_load ho ?_)
       rw[hc,hd];show wpAny M A (if(["enumerate","zip","dict_itemiterator","dict_reverseitemiterator","odict_iterator","itertools.zip_longest","itertools.pairwise"].contains n&&vs[0]? == aB (rawInt _))=true then _ else _) Q E s;rw[if_neg (by intro h;rw[hn,xA]at h;cases h)];exact bS hQ))
noncomputable def Di(K:aK)(a:ah):It:=
 ⟨λi H=>∃xs x,dh K H a xs/\xs[i]?=aB x,λi H x H'=>H'=H/\∀xs,dh K H a xs->xs[i]?=aB x,λi H=>∃xs,dh K H a xs/\xs.length<=i⟩
noncomputable def FH(K:aK)(a:ah):It:=
 ⟨λi H=>∃xs x,cN K H a xs/\xs[i]?=aB x,λi H x H'=>H'=H/\∀xs,cN K H a xs->xs[i]?=aB x,λi H=>∃xs,cN K H a xs/\xs.length<=i⟩
noncomputable def zB(lo:Int)(n:Nat):It:=⟨λi _=>i<n,λi H x H'=>H'=H/\x=.int (lo+i),λi _=>n<=i⟩
theorem P7{P:ai}{w:aj}{K:aK}{tg:ao}(a it:ah):Turn P w K tg (Di K a) [it] it (λi h=>h.IsListIter it a i)where
 mem:=by simp
 obj:=λi h st b hb=>by
  have e:b=it:=by simpa using hb
  subst e;obtain⟨o,e,c,d⟩:=st;exact⟨o,e,λv z=>by rw[d]at z;cases z⟩
 keep:=λi h h' st k=>st.at λo e=>k it (by simp) o e
 item:=by intro X hP hw hK hc i pins s σ H E I hf st hg;subst hP hw hK;obtain⟨xs,x,hq,hx⟩:=hg;obtain⟨its,rv,p,hz⟩:=I.list hq;obtain⟨u,hu,ru⟩:=rv.get hx;obtain⟨f0,f1,f2,f3,f4,f5⟩:=hf it (by simp);refine wpAny_pyNext_list_item st p.isList (x:=u) (by simpa using hu) λh' st' sb=>?_;have I1:Inv X pins σ H {s with heap:=h'}:=I.turned (t':=s.toks) (λb o hb e=>(sb.2 b hb).trans e) f0 f1 f3 f4 f5;obtain⟨o,e,c,d⟩:=id st';exact⟨u,rfl,lO (s:={s with heap:=h'}) e c d (by decide) ⟨x,H,I1,ru,⟨rfl,λys hy=>by rw[I.j7 hy hq];exact hx⟩,st',λb hb=>(hf b hb).1⟩⟩
 done:=by intro X hP hw hK hc i pins s σ H E I hf st hg;subst hP hw hK;obtain⟨xs,hq,hx⟩:=hg;obtain⟨its,rv,p,hz⟩:=I.list hq;obtain⟨f0,f1,f2,f3,f4,f5⟩:=hf it (by simp);have hl:=rv.length;exact wpAny_pyNext_list_end (I.ok.hd hc) st p.isList (by simp;lia) λh' eb=>⟨rfl,I.turned (t':=s.toks) (λb o hb e=>eb b o hb e) f0 f1 f3 f4 f5⟩
 self:=λ_ _ _ _ _ st h=>wpAny_pyIter_listiter st h
theorem P8{P:ai}{w:aj}{K:aK}{tg:ao}(a it:ah):Turn P w K tg (FH K a) [it] it (λi h=>h.IsTupleIter it a i)where
 mem:=by simp
 obj:=λi h st b hb=>by
  have e:b=it:=by simpa using hb
  subst e;obtain⟨o,e,c,d⟩:=st;exact⟨o,e,λv z=>by rw[d]at z;cases z⟩
 keep:=λi h h' st k=>st.at λo e=>k it (by simp) o e
 item:=by intro X hP hw hK hc i pins s σ H E I hf st hg;subst hP hw hK;obtain⟨xs,x,hq,hx⟩:=hg;obtain⟨its,rv,p,hz⟩:=I.tuple hq;obtain⟨u,hu,ru⟩:=rv.get hx;obtain⟨f0,f1,f2,f3,f4,f5⟩:=hf it (by simp);refine wpAny_pyNext_tuple_item st (show s.heap.IsTuple a its.toArray from p) (x:=u) (by simpa using hu) λh' st' sb=>?_;have I1:Inv X pins σ H {s with heap:=h'}:=I.turned (t':=s.toks) (λb o hb e=>(sb.2 b hb).trans e) f0 f1 f3 f4 f5;obtain⟨o,e,c,d⟩:=id st';exact⟨u,rfl,lO (s:={s with heap:=h'}) e c d (by decide) ⟨x,H,I1,ru,⟨rfl,λys hy=>by rw[I.gG hy hq];exact hx⟩,st',λb hb=>(hf b hb).1⟩⟩
 done:=by intro X hP hw hK hc i pins s σ H E I hf st hg;subst hP hw hK;obtain⟨xs,hq,hx⟩:=hg;obtain⟨its,rv,p,hz⟩:=I.tuple hq;obtain⟨f0,f1,f2,f3,f4,f5⟩:=hf it (by simp);have hl:=rv.length;exact wpAny_pyNext_tuple_end (I.ok.hd hc) st (show s.heap.IsTuple a its.toArray from p) (by simp;lia) λh' eb=>⟨rfl,I.turned (t':=s.toks) (λb o hb e=>eb b o hb e) f0 f1 f3 f4 f5⟩
 self:=λ_ _ _ _ _ st h=>wpAny_pyIter_tupleiter st h
theorem P9{P:ai}{w:aj}{K:aK}{tg:ao}(it:ah)(lo:Int)(n:Nat):Turn P w K tg (zB lo n) [it] it (λi h=>IsRangeIter h it (lo+ (i:Nat)*1) ((n:Int)- (i:Nat)) 1)where
 mem:=by simp
 obj:=λi h st b hb=>by
  have e:b=it:=by simpa using hb
  subst e;exact⟨_,st,λv z=>by
   have z':Data.fields _=Data.cell v:=z;cases z'⟩
 keep:=λi h h' st k=>k it (by simp) _ st
 item:=by intro X hP hw hK hc i pins s σ H E I hf st hg;subst hP hw hK;obtain⟨f0,f1,f2,f3,f4,f5⟩:=hf it (by simp);have W:=Walks.range (prog:=X.prog) (w:=X.w) (I.ok.hd hc) it lo 1 n;refine W.item i s _ _ hg st λv h' tk hv st' kk=>?_;obtain⟨t,rfl⟩:=hv;have I1:Inv X pins σ H {s with heap:=h',toks:=tk}:=I.turned (λb o hb e=>kk b o (by simpa using hb) e) f0 f1 f3 f4 f5;refine⟨_,rfl,lO (s:={s with heap:=h',toks:=tk}) (n:="range_iterator") st' rfl rfl (by decide) ⟨.int (lo+i),H,I1,⟨t,?_⟩,⟨rfl,rfl⟩,st',λb hb=>(hf b hb).1⟩⟩;rw[Int.mul_one]
 done:=by intro X hP hw hK hc i pins s σ H E I hf st hg;subst hP hw hK;obtain⟨f0,f1,f2,f3,f4,f5⟩:=hf it (by simp);exact wpAny_pyNext_range_end (I.ok.hd hc) st (by have:n<=i:=hg;lia) λh' eb=>⟨rfl,I.turned (t':=s.toks) (λb o hb e=>eb b o hb e) f0 f1 f3 f4 f5⟩
 self:=λ_ _ _ _ _ st h=>wpAny_pyIter_rangeiter st h
section
variable{X:Cx}{tg:ao}
noncomputable def zC(K:aK)(tl:TE):TI:=λσ H R=>tl σ H λx H1=>∃a,x=.ref a/\(∃xs,dh K H1 a xs)/\R (Di K a) H1
noncomputable def FI(K:aK)(tl:TE):TI:=λσ H R=>tl σ H λx H1=>∃a,x=.ref a/\(∃xs,cN K H1 a xs)/\R (FH K a) H1
theorem KO{l:ao}{tl:TE}(hl:PE X l tl):PI X tg l (zC X.K tl):=by
 intro pins s σ H R I h;refine bg (hl pins s σ H _ I h) λv s1 z9=>z9.el λx H1 I1 r1 q1=>?_;obtain⟨a,e,⟨xs,hq⟩,q⟩:=q1;subst e;cases r1;obtain⟨its,rv,p,hz⟩:=I1.list hq;refine xo p.isList ?_;refine⟨s1.heap.objs.size,[s1.heap.objs.size],_,_,H1,rfl,I1.kept (t':=s1.toks) λb o e=>di _ e,P7 a _,⟨_,iT _ rfl,rfl,rfl⟩,λb hb=>?_,q⟩;have e:b=s1.heap.objs.size:=by simpa using hb
 subst e;exact I1.j8 (bf _) (I1.hok.fresh (bf _))
theorem Qa{l:ao}{tl:TE}(hl:PE X l tl):PI X tg l (FI X.K tl):=by
 intro pins s σ H R I h;refine bg (hl pins s σ H _ I h) λv s1 z9=>z9.el λx H1 I1 r1 q1=>?_;obtain⟨a,e,⟨xs,hq⟩,q⟩:=q1;subst e;cases r1;obtain⟨its,rv,p,hz⟩:=I1.tuple hq;refine uN (show s1.heap.IsTuple a its.toArray from p) ?_;refine⟨s1.heap.objs.size,[s1.heap.objs.size],_,_,H1,rfl,I1.kept (t':=s1.toks) λb o e=>di _ e,P8 a _,⟨_,iT _ rfl,rfl,rfl⟩,λb hb=>?_,q⟩;have e:b=s1.heap.objs.size:=by simpa using hb
 subst e;exact I1.j8 (bf _) (I1.hok.fresh (bf _))
theorem KP{pins:List (ah×Obj)}{σ:St}{H:Hp}{s:af}{R:It->Hp->Prop}{E:aa->af->Prop}{lo hi:Int}{t u v:Tok}{tk:Nat}(I:Inv X pins σ H s)(h1:-(2 ^ 62)<=lo)(h2:lo<2 ^ 62)(h3:-(2 ^ 62)<=hi)(h4:hi<2 ^ 62)
 (q:R (zB lo (hi-lo).toNat) H):wpAny (model X.prog X.w) X.A (pyIter (.ref s.heap.objs.size)) (zA X pins σ tg R) E {s with heap:=s.heap.push {cls:=.type "range",data:=.fields #[.int lo t,.int hi u,.int 1 v]},toks:=tk}:=by
 refine wpAny_pyIter_range (IsRange.new ..) (small_one h1 h2 h3 h4) ?_;have I1:Inv X pins σ H {s with heap:=s.heap.push {cls:=.type "range",data:=.fields #[.int lo t,.int hi u,.int 1 v]},toks:=tk}:=I.kept λb o e=>di _ e;refine⟨(s.heap.push {cls:=.type "range",data:=.fields #[.int lo t,.int hi u,.int 1 v]}).objs.size,[(s.heap.push {cls:=.type "range",data:=.fields #[.int lo t,.int hi u,.int 1 v]}).objs.size],_,_,H,rfl,
  I1.kept (t':=tk) λb o e=>di _ e,P9 _ lo (hi-lo).toNat,?_,λb hb=>?_,q⟩
 have e1:lo+ ((0:Nat):Int)*1=lo:=by simp
 have e2:(((hi-lo).toNat:Nat):Int)- ((0:Nat):Int)=Builtin.Range.rangeSize lo hi 1:=by rw[rangeSize_one];split<;>lia
 show IsRangeIter _ _ (lo+ ((0:Nat):Int)*1) ((((hi-lo).toNat:Nat):Int)- ((0:Nat):Int)) 1;rw[e1,e2];exact iT _ rfl;have e:b=(s.heap.push {cls:=.type "range",data:=.fields #[.int lo t,.int hi u,.int 1 v]}).objs.size:=by simpa using hb
 subst e;exact I1.j8 (bf _) (I1.hok.fresh (bf _))
noncomputable def zD(ta:TA):TI:=λσ H R=>ta σ H λvs H1=>∃j:Int,vs=[.int j]/\-(2 ^ 62)<=j/\j<2 ^ 62/\R (zB 0 j.toNat) H1
noncomputable def zE(ta:TA):TI:=λσ H R=>ta σ H λvs H1=>∃i j:Int,vs=[.int i,.int j]/\(-(2 ^ 62)<=i/\i<2 ^ 62/\-(2 ^ 62)<=j/\j<2 ^ 62)/\R (zB i (j-i).toNat) H1
theorem Qc{a:ao}{ta:TA}{p pos:Pos}(hg:Gl X "range")(hm:X.mg "range" = aC)(ha:PA X [a] ta)(hs:autoParam (starEach [a] X.env=[(false,eval a X.env)]) L2.aR._auto_1):PI X tg (.Call (.Name "range" p) [a] [] pos) (zD ta):=by
 intro pins s σ H R I h;refine Call_ (u9 I hg hm boot_range (yV (bg (ha pos pins s σ H _ I h) λus s1 z9=>z9.el λvs H1 I1 r1 q1=>?_) hs rfl));obtain⟨j,e,q1,q2,q⟩:=q1;subst e;cases r1 with
 |cons r rr=>
  cases rr;obtain⟨t,rfl⟩:=r;exact call_range_1 (KP I1 (by lia) (by lia) q1 q2 (by simpa using q))
theorem Qd{a b:ao}{ta:TA}{p pos:Pos}(hg:Gl X "range")(hm:X.mg "range" = aC)(ha:PA X [a,b] ta)(hs:autoParam (starEach [a,b] X.env=[(false,eval a X.env),(false,eval b X.env)]) L2.aR._auto_1)(hs2:autoParam (starEach [b] X.env=[(false,eval b X.env)]) L2.aR._auto_1) :
 PI X tg (.Call (.Name "range" p) [a,b] [] pos) (zE ta):=by
 intro pins s σ H R I h;refine Call_ (u9 I hg hm boot_range (yV (bg (ha pos pins s σ H _ I h) λus s1 z9=>z9.el λvs H1 I1 r1 q1=>?_) (by rw[hs,hs2]) (by rw[hs2];rfl)));obtain⟨i,j,e,⟨q1,q2,q3,q4⟩,q⟩:=q1;subst e;cases r1 with
 |cons r rr=>
  cases rr with
  |cons r' rr=>
   cases rr;obtain⟨t,rfl⟩:=r;obtain⟨t',rfl⟩:=r';exact call_range_2 (KP I1 q1 q2 q3 q4 q)
noncomputable def zF(wi:TI)(g:TG)(tb:TS):TS:=λD σ H=>wi σ H λJ H1=>∃W:Nat->Nat->St->Hp->Prop,(∃m,W 0 m σ H1)/\∀i m σ H,W i m σ H->
 (J.stop i H/\D.nx σ H)\/(J.go i H/\∃N:St->Hp->Prop,(∀σ' H',N σ' H'->∃m',m'<m/\W (i+1) m' σ' H')/\∀x H',J.tw i H x H'->g x σ H' λσ2 H2=>tb {D with nx:=N,ct:=N,bk:=D.nx} σ2 H2)
noncomputable def ve(fp:List ah)(h:az):List (ah×Obj):=fp.filterMap λb=>(h.get? b).map λo=>(b,o)
theorem tB{fp:List ah}{h:az}{b:ah}{o:Obj}(hb:b∈fp)(e:h.get? b=aB o):(b,o)∈ve fp h:=List.mem_filterMap.mpr ⟨b,hb,by rw[e];rfl⟩
theorem Qe{fp:List ah}{h:az}{p:ah×Obj}(hp:p∈ve fp h):p.1∈fp/\h.get? p.1=aB p.2:=by
 obtain⟨b,hb,e⟩:=List.mem_filterMap.mp hp;cases q:h.get? b with
 |none=>rw[q]at e;cases e
 |some o=>
  rw[q]at e;have e':(b,o)=p:=nT e;subst e';exact⟨hb,q⟩
theorem Inv.pinned{pins:List (ah×Obj)}{σ:St}{H:Hp}{s:af}{fp:List ah}(I:Inv X pins σ H s)(hf:∀b∈fp,eE X pins H b)(ho:∀b∈fp,∃o,s.heap.get? b=aB o/\∀v,o.data≠.cell v):Inv X (pins++ve fp s.heap) σ H s:=
 I.lN λp hp=>(xx.mp hp).elim (λz=>I.pin p (jn _ z)) λz=>by
  obtain⟨hb,e⟩:=Qe z;obtain⟨f0,f1,f2,_⟩:=hf p.1 hb;obtain⟨o,e',d⟩:=ho p.1 hb;rw[e]at e';cases e';exact⟨e,f0,f1,f2,d⟩
theorem Inv.dP{pins pl:List (ah×Obj)}{σ:St}{H:Hp}{s:af}(I:Inv X (pins++pl) σ H s):Inv X pins σ H s:=I.lN λp hp=>I.pin p (jn _ (CS _ hp))
theorem Qf{iter:ao}{body:List aq}{wi:TI}{g:TG}{tb:TS}{pos:Pos}(hp:PassesOwn (model X.prog X.w) X.A X.env X.xe)(hc:X.calm)(hi:PI X tg iter wi)(hg:PG X tg g)(hb:kN X body tb)
 (hs:∀x,foldedSetIterable iter X.env x=pure x:=by intro _;rfl):PS X (.For tg iter body [] pos) (zF wi g tb):=by
 intro pins s σ H D I h;refine wpAny_For (bg (hi pins s σ H _ I h) λv s1 h1=>bg h1 λitv s2 h2=>?_) hs;obtain⟨it,fp,tn,J,H2,e,I2,T,st2,f2,W,⟨m0,w0⟩,turn⟩:=h2;subst e;have k7:∀{H':Hp},(∀b∈fp,H' b=aC)->∀b∈fp,eE X pins H' b:=λhn b hb=>⟨hn b hb,(f2 b hb).2⟩
 refine codeAny_forLoop_any (λn s'=>∃i σ' H',Inv X pins σ' H' s'/\tn i s'.heap/\(∀b∈fp,H' b=aC)/\W i n σ' H') ?_ m0 ⟨0,σ,H2,I2,st2,λb hb=>(f2 b hb).1,w0⟩;rintro n s3 ⟨i,σ3,H3,I3,st3,zG,w3⟩;rcases turn i n σ3 H3 w3 with⟨stop,qn⟩|⟨go,N,hN,step⟩
 .refine uO hp (bg (T.done X rfl rfl rfl hc i pins s3 σ3 H3 X.xe I3 (k7 zG) st3 stop) λr s4 b9=>?_)
  obtain⟨hr,I4⟩:=b9;subst hr;exact wpAny_execs_nil ⟨σ3,H3,I4,qn⟩
 .refine uO hp (bg (T.item X rfl rfl rfl hc i pins s3 σ3 H3 X.xe I3 (k7 zG) st3 go) λr s4 b9=>?_)
  obtain⟨u,hr,h4⟩:=b9;subst hr;refine uO hp (bg h4 λ_ s5 b9=>?_);obtain⟨x,H5,I5,r5,y5,mK,qH⟩:=b9;have FJ:=I5.pinned (k7 qH) (T.obj _ _ mK);refine uO hp (bg (hg _ s5 σ3 H5 x u _ FJ r5 (step x H5 y5)) λ_ s6 b9=>?_);obtain⟨jW,H6,I6,q6⟩:=b9;refine uO hp (bg (hb _ s6 jW H6 _ I6 q6) λf s7 q7=>?_);have again:∀{kO:St}{H7:Hp},Inv X (pins++ve fp s5.heap) kO H7 s7->N kO H7->∃m,m<n/\∃i σ' H',Inv X pins σ' H' s7/\tn i s7.heap/\(∀b∈fp,H' b=aC)/\W i m σ' H':=λ{kO H7} I7 n7=>by
   obtain⟨m',hm,w7⟩:=hN kO H7 n7;refine⟨m',hm,i+1,kO,H7,I7.dP,T.keep _ _ _ mK λb hb o e=>(I7.pin (b,o) (jn _ (jn _ (tB hb e)))).1,λb hb=>?_,w7⟩;obtain⟨o,e,d⟩:=T.obj _ _ mK b hb;exact(I7.pin (b,o) (jn _ (jn _ (tB hb e)))).2.1
  cases f with|next=>obtain⟨kO,H7,I7,n7⟩:=q7;exact again I7 n7|cont=>obtain⟨kO,H7,I7,n7⟩:=q7;exact again I7 n7|brk=>obtain⟨kO,H7,I7,q7⟩:=q7;exact⟨kO,H7,I7.dP,q7⟩|ret v=>obtain⟨x7,kO,H7,I7,r7,q7⟩:=q7;exact⟨x7,kO,H7,I7.dP,r7,q7⟩
end
noncomputable abbrev R2:=V->V->Hp->VK->Prop
noncomputable def dH(X:Cx)(f:aa->aa->Sem aa)(r:R2):Prop:=
 ∀(pins:List (ah×Obj))(s:af)(σ:St)(H:Hp)(x y:V)(v u:aa)(Q:VK),Inv X pins σ H s->RelV x v->RelV y u->r x y H Q->
  wpAny (model X.prog X.w) X.A (f v u) (EP X pins σ Q) X.xe s
noncomputable def FL(X:Cx)(f:aa->Sem aa)(r:V->Hp->VK->Prop):Prop:=
 ∀(pins:List (ah×Obj))(s:af)(σ:St)(H:Hp)(x:V)(v:aa)(Q:VK),Inv X pins σ H s->RelV x v->r x H Q->
  wpAny (model X.prog X.w) X.A (f v) (EP X pins σ Q) X.xe s
noncomputable def cG(X:Cx)(f:aa)(r:List V->Hp->VK->Prop):Prop:=
 ∀(pins:List (ah×Obj))(s:af)(σ:St)(H:Hp)(xs:List V)(us:List aa)(Q:VK),Inv X pins σ H s->Vals xs us->r xs H Q->
  wpAny (model X.prog X.w) X.A (call f us) (EP X pins σ Q) X.xe s
noncomputable def FN(X:Cx)(r:V->Hp->(Bool->Hp->Prop)->Prop):Prop:=
 ∀(pins:List (ah×Obj))(s:af)(σ:St)(H:Hp)(x:V)(v:aa)(Q:Bool->Hp->Prop),Inv X pins σ H s->RelV x v->r x H Q->
  wpAny (model X.prog X.w) X.A (truthy v) (TP X pins σ Q) X.xe s
noncomputable def Dj(r:R2)(ta tb:TE):TE:=λσ H Q=>ta σ H λx H1=>tb σ H1 λy H2=>r x y H2 Q
noncomputable def Qg(r:V->Hp->VK->Prop)(ta:TE):TE:=λσ H Q=>ta σ H λx H1=>r x H1 Q
noncomputable def rI(C:Int->Int->Prop)(g:Int->Int->V):R2:=λx y H Q=>∃i j,x=.int i/\y=.int j/\C i j/\Q (g i j) H
noncomputable def mL(g:Int->Int->V):R2:=λx y H Q=>∃i j,x=.int i/\y=.int j/\Q (g i j) H
noncomputable def rU(g:Int->V):V->Hp->VK->Prop:=λx H Q=>∃i,x=.int i/\Q (g i) H
section
variable{X:Cx}{a b c:ao}{ta tb tc:TE}{pos:Pos}
theorem vf(ha:PE X a ta)(hb:PE X b tb){pins:List (ah×Obj)}{s:af}{σ:St}{H:Hp}{R:V->V->Hp->Prop}(I:Inv X pins σ H s)
 (h:ta σ H λx H1=>tb σ H1 λy H2=>R x y H2) {Q:aa->af->Prop} {f:aa->aa->Sem aa}
 (hf:∀v u s2 x y H2,Inv X pins σ H2 s2->RelV x v->RelV y u->R x y H2->wpAny (model X.prog X.w) X.A (f v u) Q X.xe s2) :
 wpAny (model X.prog X.w) X.A (eval a X.env) (λv s₁=>wpAny (model X.prog X.w) X.A (eval b X.env) (λu s₂=>wpAny (model X.prog X.w) X.A (f v u) Q X.xe s₂) X.xe s₁) X.xe s:=by
 refine bg (ha pins s σ H _ I h) λv s1 z9=>z9.el λx H1 I1 r1 q1=>?_;refine bg (hb pins s1 σ H1 _ I1 q1) λu s2 z9=>z9.el λy H2 I2 r2 q2=>?_;exact hf v u s2 x y H2 I2 r1 r2 q2
theorem zH{op:Operator}{r:R2}(ho:dH X (binaryOp op) r)(ha:PE X a ta)(hb:PE X b tb):PE X (.BinOp a op b pos) (Dj r ta tb):=by intro pins s σ H Q I h;exact wpAny_BinOp (vf ha hb I h λv u s2 x y H2 I2 rx ry q=>ho pins s2 σ H2 x y v u Q I2 rx ry q)
theorem zI{op:UnaryOp}{r:V->Hp->VK->Prop}(ho:FL X (unaryOp op) r)(ha:PE X a ta):PE X (.UnaryOp op a pos) (Qg r ta):=by intro pins s σ H Q I h;exact UnaryOp_ (bg (ha pins s σ H _ I h) λv s1 z9=>z9.el λx H1 I1 r1 q1=>ho pins s1 σ H1 x v Q I1 r1 q1)
theorem gH{f:aa->aa->Sem aa}{C:Int->Int->Prop}{g:Int->Int->Int}
 (rule:∀(i j:Int)(t u:Tok)(s:af)(Q:aa->af->Prop)(E:aa->af->Prop),C i j->Q (.int (g i j) s.toks) {s with toks:=s.toks+1}->wpAny (model X.prog X.w) X.A (f (.int i t) (.int j u)) Q E s) :
 dH X f (rI C λi j=>.int (g i j)):=by
 intro pins s σ H x y v u Q I rx ry h;obtain⟨i,j,rfl,rfl,hc,q⟩:=h;obtain⟨t,rfl⟩:=rx;obtain⟨t',rfl⟩:=ry;exact rule i j t t' s _ _ hc ⟨.int (g i j),H,I.tok _,⟨_,rfl⟩,q⟩
theorem zJ{f:aa->aa->Sem aa}{g:Int->Int->Int}
 (rule:∀(i j:Int)(t u:Tok)(s:af)(Q:aa->af->Prop)(E:aa->af->Prop),Q (.int (g i j) s.toks) {s with toks:=s.toks+1}->wpAny (model X.prog X.w) X.A (f (.int i t) (.int j u)) Q E s) :
 dH X f (mL λi j=>.int (g i j)):=by
 intro pins s σ H x y v u Q I rx ry h;obtain⟨i,j,rfl,rfl,q⟩:=h;obtain⟨t,rfl⟩:=rx;obtain⟨t',rfl⟩:=ry;exact rule i j t t' s _ _ ⟨.int (g i j),H,I.tok _,⟨_,rfl⟩,q⟩
theorem qI{f:aa->aa->Sem aa}{g:Int->Int->Bool}
 (rule:∀(i j:Int)(t u:Tok)(s:af)(Q:aa->af->Prop)(E:aa->af->Prop),Q (.bool (g i j)) s->wpAny (model X.prog X.w) X.A (f (.int i t) (.int j u)) Q E s) :
 dH X f (mL λi j=>.bl (g i j)):=by
 intro pins s σ H x y v u Q I rx ry h;obtain⟨i,j,rfl,rfl,q⟩:=h;obtain⟨t,rfl⟩:=rx;obtain⟨t',rfl⟩:=ry;exact rule i j t t' s _ _ ⟨.bl (g i j),H,I,rfl,q⟩
noncomputable def qK(i j:Int):Prop:=0<j/\j<1073741824
noncomputable def vg(i j:Int):Prop:=0<=j/\j<=1000000/\i.natAbs<2 ^ 64
noncomputable def mO(i j:Int):Prop:=(-(2 ^ 64)<i/\i<2 ^ 64)\/(-(2 ^ 64)<j/\j<2 ^ 64)
theorem mO.ok{i j:Int}(h:mO i j):IntMulOk i j:=by rcases h with⟨h1,h2⟩|⟨h1,h2⟩;exact .of_left (intBits_le_64 h1 h2);exact .of_right (intBits_le_64 h1 h2)
theorem Qh:dH X (binaryOp .Add) (mL λi j=>.int (i+j)):=zJ λ_ _ _ _ _ _ _ q=>add_int q
theorem Qi:dH X (binaryOp .Sub) (mL λi j=>.int (i-j)):=zJ λ_ _ _ _ _ _ _ q=>sub_int q
theorem Qj:dH X (binaryOp .Mult) (rI mO λi j=>.int (i*j)):=gH λ_ _ _ _ _ _ _ hc q=>mul_int q hc.ok
theorem Qk:dH X (binaryOp .FloorDiv) (rI qK λi j=>.int (i/j)):=gH λi j _ _ _ _ _ hc q=>by
 have h1:(0:Int)<j:=hc.1;have h2:j<1073741824:=hc.2;exact floordiv_int (by lia) (by rw[Int.fdiv_eq_ediv_of_nonneg i (by lia)];exact q) (.inl (PyProof.noPylong_small (by lia)))
theorem Ql:dH X (binaryOp .Mod) (rI (λ_ j=>0<j) λi j=>.int (i % j)):=gH λi j _ _ _ _ _ hc q=>by
 have h1:(0:Int)<j:=hc;exact mod_int' (by lia) (by rw[Int.fmod_eq_emod_of_nonneg i (by lia)];exact q)
theorem Qm:dH X (binaryOp .Pow) (rI vg λi j=>.int (i ^ j.toNat)):=gH λ_ _ _ _ _ _ _ hc q=>pow_int_small hc.1 hc.2.1 hc.2.2 q
theorem Qn:dH X (inplaceOp .Mult) (rI mO λi j=>.int (i*j)):=gH λ_ _ _ _ _ _ _ hc q=>imul_int q hc.ok
theorem Qo:dH X (inplaceOp .FloorDiv) (rI qK λi j=>.int (i/j)):=gH λi j _ _ _ _ _ hc q=>by
 have h1:(0:Int)<j:=hc.1;have h2:j<1073741824:=hc.2;exact ifloordiv_int (by lia) (by rw[Int.fdiv_eq_ediv_of_nonneg i (by lia)];exact q) (.inl (PyProof.noPylong_small (by lia)))
theorem Qp{f:aa->Sem aa}{g:Int->Int}
 (rule:∀(i:Int)(t:Tok)(s:af)(Q:aa->af->Prop)(E:aa->af->Prop),Q (.int (g i) s.toks) {s with toks:=s.toks+1}->wpAny (model X.prog X.w) X.A (f (.int i t)) Q E s) :
 FL X f (rU λi=>.int (g i)):=by
 intro pins s σ H x v Q I rx h;obtain⟨i,rfl,q⟩:=h;obtain⟨t,rfl⟩:=rx;exact rule i t s _ _ ⟨.int (g i),H,I.tok _,⟨_,rfl⟩,q⟩
theorem Qq:FL X (unaryOp .USub) (rU λi=>.int (-i)):=Qp λ_ _ _ _ _ q=>neg_int q
end
section
variable{X:Cx}{a b c:ao}{ta tb tc:TE}{pos:Pos}
theorem Dl{pins:List (ah×Obj)}{σ:St}{H:Hp}{s:af}{Q:VK}{k k':Bool}(I:Inv X pins σ H s)(q:Q (.bl k) H)(e:k=k'):EP X pins σ Q (.bool k') s:=by subst e;exact⟨.bl k,H,I,rfl,q⟩
theorem zK:dH X (compareOp .Lt) (mL λi j=>.bl (decide (i<j))):=qI λ_ _ _ _ _ _ _ q=>lt_int q
theorem zL:dH X (compareOp .LtE) (mL λi j=>.bl (decide (i<=j))):=qI λ_ _ _ _ _ _ _ q=>le_int q
theorem zM:dH X (compareOp .Gt) (mL λi j=>.bl (decide (j<i))):=qI λ_ _ _ _ _ _ _ q=>gt_int q
theorem zN:dH X (compareOp .GtE) (mL λi j=>.bl (decide (j<=i))):=qI λ_ _ _ _ _ _ _ q=>ge_int q
theorem Qs:dH X (compareOp .Is) (λx y H Q=>y=.aR/\Q (.bl (decide (x=.aR))) H):=by
 intro pins s σ H x y v u Q I rx ry h;obtain⟨rfl,q⟩:=h;cases ry;refine is_none_gen (Dl I q ?_);cases x<;>first
  |(cases rx;rfl)
  |(obtain⟨t,rfl⟩:=rx;rfl)
theorem Qt:dH X (compareOp .IsNot) (λx y H Q=>y=.aR/\Q (.bl (!decide (x=.aR))) H):=by
 intro pins s σ H x y v u Q I rx ry h;obtain⟨rfl,q⟩:=h;cases ry;refine isnot_none_gen (Dl I q ?_);cases x<;>first
  |(cases rx;rfl)
  |(obtain⟨t,rfl⟩:=rx;rfl)
theorem dH.or{f:aa->aa->Sem aa}{r r':R2}(h:dH X f r)(h':dH X f r'):dH X f (λx y H Q=>r x y H Q\/r' x y H Q):=by
 intro pins s σ H x y v u Q I rx ry q;rcases q with q|q
 exact h pins s σ H x y v u Q I rx ry q;exact h' pins s σ H x y v u Q I rx ry q
theorem Qu{op:CmpOp}{r:R2}(ho:dH X (compareOp op) r)(ha:PE X a ta)(hb:PE X b tb)(hm:behindInMarks op b=false):PE X (.Compare a [op] [b] pos) (Dj r ta tb):=by intro pins s σ H Q I h;exact wpAny_Compare1 (vf ha hb I h λv u s2 x y H2 I2 rx ry q=>ho pins s2 σ H2 x y v u Q I2 rx ry q) hm
noncomputable def tD(t:TE):TT:=λσ H Q=>t σ H λx H'=>∃k,x=.bl k/\Q k H'
theorem Qv{op:CmpOp}{r:R2}(ho:dH X (compareOp op) r)(ha:PE X a ta)(hb:PE X b tb)(hm:behindInMarks op b=false):PT X (.Compare a [op] [b] pos) (tD (Dj r ta tb)):=by
 intro pins s σ H Q I h;refine wpAny_isTrue_Compare1 (bg (ha pins s σ H _ I h) λv s1 z9=>z9.el λx H1 I1 r1 q1=>bg (hb pins s1 σ H1 _ I1 q1) λu s2 z9=>z9.el λy H2 I2 r2 q2=>
  bg (ho pins s2 σ H2 x y v u _ I2 r1 r2 q2) λc s3 z9=>z9.el λz H3 I3 r3 ⟨k,e,q3⟩=>?_) hm
 subst e;cases r3;exact qj ⟨H3,I3,q3⟩
noncomputable def FO(r r':R2)(ta tb tc:TE):TE:=λσ H Q=>ta σ H λx H1=>tb σ H1 λy H2=>r x y H2 λz H3=>∃k,z=.bl k/\
 (if k=true then tc σ H3 λw' H4=>r' y w' H4 Q else Q (.bl false) H3)
theorem Qw{op op':CmpOp}{r r':R2}(ho:dH X (compareOp op) r)(ho':dH X (compareOp op') r')(ha:PE X a ta)(hb:PE X b tb)(hc:PE X c tc)
 (hm:lastMarks [op,op'] [b,c]=false:=by with_unfolding_all rfl):PE X (.Compare a [op,op'] [b,c] pos) (FO r r' ta tb tc):=by
 intro pins s σ H Q I h;refine Compare_chain (bg (ha pins s σ H _ I h) λv s1 z9=>z9.el λx H1 I1 r1 q1=>chain_link (bg (hb pins s1 σ H1 _ I1 q1) λu s2 z9=>z9.el λy H2 I2 r2 q2=>
  bg (ho pins s2 σ H2 x y v u _ I2 r1 r2 q2) λd s3 z9=>z9.el λz H3 I3 r3 ⟨k,e,q3⟩=>?_)) hm
 subst e;cases r3;refine qj ?_;cases k with|false=>exact ite_ff ⟨.bl false,H3,I3,rfl,q3⟩|true=>exact ite_tt (chain_last (bg (hc pins s3 σ H3 _ I3 q3) λw' s4 z9=>z9.el λz' H4 I4 r4 q4=>ho' pins s4 σ H4 y z' u w' Q I4 r2 r4 q4))
theorem Qx{op op':CmpOp}{r r':R2}(ho:dH X (compareOp op) r)(ho':dH X (compareOp op') r')(ha:PE X a ta)(hb:PE X b tb)(hc:PE X c tc)
 (hm:lastMarks [op,op'] [b,c]=false:=by with_unfolding_all rfl):PT X (.Compare a [op,op'] [b,c] pos) (tD (FO r r' ta tb tc)):=by
 intro pins s σ H Q I h;refine isTrue_chain (bg (ha pins s σ H _ I h) λv s1 z9=>z9.el λx H1 I1 r1 q1=>test_link (bg (hb pins s1 σ H1 _ I1 q1) λu s2 z9=>z9.el λy H2 I2 r2 q2=>
  bg (ho pins s2 σ H2 x y v u _ I2 r1 r2 q2) λd s3 z9=>z9.el λz H3 I3 r3 ⟨k,e,q3⟩=>?_)) hm
 subst e;cases r3;refine qj ?_;cases k with
 |false=>
  obtain⟨k',e',q'⟩:=q3;cases e';exact ite_ff ⟨H3,I3,q'⟩
 |true=>
  refine ite_tt (test_last (bg (hc pins s3 σ H3 _ I3 q3) λw' s4 z9=>z9.el λz' H4 I4 r4 q4=>bg (ho' pins s4 σ H4 y z' u w' _ I4 r2 r4 q4) λd' s5 z9=>z9.el λz2 H5 I5 r5 b9=>?_));obtain⟨k2,e2,q5⟩:=b9;subst e2;cases r5;exact qj ⟨H5,I5,q5⟩
noncomputable def vh(K:aK)(x:V)(H:Hp)(k:Bool):Prop:=
 match x with|.aR=>k=false|.bl b=>k=b|.int i=>k=(i != 0)|.str y=>y.length<=sizeLine/\k=((y.length:Int) != 0)|.zc y=>y.size<=sizeLine/\k=((y.size:Int) != 0)|.ref p=>(∃xs,dh K H p xs/\k=!xs.isEmpty)\/(∃xs,cN K H p xs/\k=!xs.isEmpty)\/∃kvs,H p=aB (.dK kvs)/\k=!kvs.isEmpty|_=>False
theorem Qy{κ:Type}{kvs:List (κ×V)}{vs:List (κ×aa)}(r:KV kvs vs):(!vs.isEmpty)=!kvs.isEmpty:=by cases r<;>rfl
theorem KQ{xs:List V}{its:List aa}(r:Vals xs its):(!its.toArray.isEmpty)=!xs.isEmpty:=by cases r<;>simp
theorem zO:(sizeLine:Nat)<2 ^ 63:=by rw[yN];decide
theorem Qz:FN X (λx H Q=>∃k,vh X.K x H k/\Q k H):=by
 intro pins s σ H x v Q I rx h;obtain⟨k,e,q⟩:=h;have hl:=zO;have hs:sizeLine=16777216:=yN;cases x with
 |aR=>
  cases rx;have e':k=false:=e;subst e';exact truthy_none ⟨H,I,q⟩
 |bl b=>
  cases rx;have e':k=b:=e;subst e';exact qj ⟨H,I,q⟩
 |int i=>
  obtain⟨t,rfl⟩:=rx;have e':k=(i != 0):=e;subst e';exact PySem.P.truthy_int ⟨H,I,q⟩
 |str y=>
  obtain⟨t,rfl⟩:=rx;obtain⟨hy,e'⟩:y.length<=sizeLine/\k=((y.length:Int) != 0):=e;subst e';exact PySem.P.truthy_str (by lia) ⟨H,I.tok _,q⟩
 |zc y=>
  obtain⟨t,rfl⟩:=rx;obtain⟨hy,e'⟩:y.size<=sizeLine/\k=((y.size:Int) != 0):=e;subst e';exact PySem.W.truthy_bytes (by lia) ⟨H,I.tok _,q⟩
 |ref p=>
  cases rx;have e':(∃xs,dh X.K H p xs/\k=!xs.isEmpty)\/(∃xs,cN X.K H p xs/\k=!xs.isEmpty)\/∃kvs,H p=aB (.dK kvs)/\k=!kvs.isEmpty:=e;rcases e' with⟨xs,hx,e'⟩|⟨xs,hx,e'⟩|⟨kvs,hx,e'⟩
  subst e';obtain⟨its,r,pl,hz⟩:=I.list hx;have hlen:=r.length;exact wpAny_truthy_list pl.isList (by simp only[dU];lia) ⟨H,I.tok _,by rw[KQ r];exact q⟩;subst e';obtain⟨its,r,pl,hz⟩:=I.tuple hx;have hlen:=r.length;exact truthy_tuple pl (by simp only[dU];lia) ⟨H,I.tok _,by rw[KQ r];exact q⟩;subst e';obtain⟨hz,hS,vs,r,m⟩:kvs.length<=sizeLine/\(p==sysModules)=false/\∃vs,KV kvs vs/\s.heap.DictOf (iC X.prog X.w) p vs:=I.hok p _ hx;have hlen:kvs.length=vs.length:=xG r;exact wpAny_truthy_dict hS m (by lia) ⟨H,I.tok _,by rw[Qy r];exact q⟩
 |_=>exact(show False from e).elim
theorem QA(ha:PE X a ta)(he:∀whole,isTrue a X.env whole=(do let v <-whole;standAt a.pos;holding [v] (truthy v))) :
 PT X a (λσ H Q=>ta σ H λx H'=>∃k,vh X.K x H' k/\Q k H'):=by
 intro pins s σ H Q I h;exact isTrue_plain (bg (ha pins s σ H _ I h) λv s1 z9=>z9.el λx H1 I1 r1 q1=>Qz pins s1 σ H1 x v Q I1 r1 q1) (he _)
theorem vals1{x:V}{us:List aa}(r:Vals [x] us):∃u,us=[u]/\RelV x u:=by
 cases r with|cons r1 r2=>cases r2;exact⟨_,rfl,r1⟩
theorem vals2{x y:V}{us:List aa}(r:Vals [x,y] us):∃u w',us=[u,w']/\RelV x u/\RelV y w':=by
 cases r with
 |cons r1 r2=>
  cases r2 with|cons r3 r4=>cases r4;exact⟨_,_,rfl,r1,r3⟩
theorem QB:cG X (.builtin "abs") (λxs H Q=>∃i,xs=[.int i]/\Q (.int (if i<0 then -i else i)) H):=by intro pins s σ H xs us Q I r h;obtain⟨i,rfl,q⟩:=h;obtain⟨u,rfl,t,rfl⟩:=vals1 r;exact call_abs_int λu tk=>⟨.int (if i<0 then -i else i),H,I.tok _,⟨_,rfl⟩,q⟩
theorem QC(hc:X.calm):cG X (.builtin "max") (λxs H Q=>∃i j,xs=[.int i,.int j]/\Q (.int (if j>i then j else i)) H):=by
 intro pins s σ H xs us Q I r h;obtain⟨i,j,rfl,q⟩:=h;obtain⟨u,w',rfl,⟨t,rfl⟩,⟨t',rfl⟩⟩:=vals2 r;refine max_two_ints (I.ok.hd hc) λh' tk k=>⟨_,H,I.kept k,?_,q⟩
 by_cases hj:j>i;rw[if_pos hj,if_pos hj];exact⟨_,rfl⟩;rw[if_neg hj,if_neg hj];exact⟨_,rfl⟩
theorem QD(hc:X.calm):cG X (.builtin "min") (λxs H Q=>∃i j,xs=[.int i,.int j]/\Q (.int (if j<i then j else i)) H):=by
 intro pins s σ H xs us Q I r h;obtain⟨i,j,rfl,q⟩:=h;obtain⟨u,w',rfl,⟨t,rfl⟩,⟨t',rfl⟩⟩:=vals2 r;refine min_two_ints (I.ok.hd hc) λh' tk k=>⟨_,H,I.kept k,?_,q⟩
 by_cases hj:j<i;rw[if_pos hj,if_pos hj];exact⟨_,rfl⟩;rw[if_neg hj,if_neg hj];exact⟨_,rfl⟩
theorem QE:cG X (.type "int") (λxs H Q=>(∃i,xs=[.int i]/\Q (.int i) H)\/∃k,xs=[.bl k]/\Q (.int (if k then 1 else 0)) H):=by
 intro pins s σ H xs us Q I r h;rcases h with⟨i,rfl,q⟩|⟨k,rfl,q⟩
 obtain⟨u,rfl,t,rfl⟩:=vals1 r;exact call_int_int ⟨.int i,H,I,⟨_,rfl⟩,q⟩;obtain⟨u,rfl,r1⟩:=vals1 r;cases r1;exact call_int_bool ⟨.int (if k then 1 else 0),H,I.tok _,⟨_,rfl⟩,q⟩
end
structure vj(h:az)(x dx C:ah)(mA:Str->Option aa):Prop where
 obj:h.get? x=aB (PySem.W.instObj C dx)
 ns:h.Ns1 dx mA
 ne:dx≠x
theorem QF{h:az}{dx:ah}{mA:Str->Option aa}(n:h.Ns1 dx mA):∃od,h.get? dx=aB od/\∀name,PySem.W.lookIn name od=aB (mA name):=by
 obtain⟨o,es,ep,ho,hd,hk,_,hm⟩:=n;refine⟨o,ho,λname=>?_⟩;have e:=hm name;unfold nsFind findBy at e;rw[<-Array.find?_toList]at e;unfold PySem.W.lookIn;rw[hd];dsimp only;split;rename_i y q;rw[q]at e;exact mD aB e;rename_i q;rw[q]at e;have a:es.toList.any (·.refKey)=false:=by rw[List.any_eq_false];intro y hy;obtain⟨z,t,hkey⟩:=hk y (Array.mem_toList_iff.mp hy);simp[DictEntry.refKey,hkey]
 have a':¬es.toList.any (·.refKey)=true:=by rw[a];exact uW
 rw[if_neg a'];exact mD aB e
theorem vj.look{h:az}{x dx C:ah}{mA:Str->Option aa}(I:vj h x dx C mA):∃od,PySem.W.InstAt h x (PySem.W.instObj C dx) C (aB od)/\∀name,PySem.W.lookIn name od=aB (mA name):=
 let⟨od,ho,hl⟩:=QF I.ns
 ⟨od,⟨I.obj,rfl,rfl,ho⟩,hl⟩
theorem gF.some_of{v:V}{o:Option aa}(r:gF (aB v) o):∃u,o=aB u/\RelV v u:=by
 cases o with|none=>exact(show False from r).elim|some u=>exact⟨u,rfl,r⟩
section
variable{P:ai}{w:aj}{H H':Hp}{h h':az}{a C dx:ah}{fs fs':List (Str×V)}
theorem QG(hok:fm P w H h)(e:H a=aB (.ins C dx fs)):∃mA,vj h a dx C mA/\(∀f,gF (fs.lookup f) (mA f))/\PySem.Within mA (fs.map (·.1))/\fs.length<=1000/\H dx=aB (.own a):=by
 obtain⟨d,z,ne,ob,mA,n,r,q⟩:=(show br P w H h a (.ins C dx fs)from hok a _ e)
 exact⟨mA,⟨ob,n,ne⟩,r,q,z,d⟩
end
structure FP(K:aK)(C:ah):Prop where
 pg:PySem.W.plainGet K C Str.empty=true
 hd:PySem.W.hasDictIn K C=true
 po:PySem.W.plainOver K C=true
 sa:PySem.W.findIn K (.ref C) "__setattr__" = aB (aB (.builtin "object.__setattr__"))
theorem FP.get{K:aK}{C:ah}(c:FP K C)(f:Str):PySem.W.plainGet K C f=true:=c.pg
section
variable{X:Cx}{pins:List (ah×Obj)}{σ:St}{H:Hp}{s:af}{A:ak}{E:aa->af->Prop}{Q:aa->af->Prop}{c:aa}{b:Bool}
inductive fV(K:aK)(H:Hp):V->aa->Prop where
 |aR:fV K H .aR (.type "NoneType")
 |bl (x:Bool):fV K H (.bl x) (.type "bool")
 |int (i:Int):fV K H (.int i) (.type "int")
 |str (x:Str):fV K H (.str x) (.type "str")
 |xH (x:UInt64):fV K H (.xH x) (.type "float")
 |lst {a:ah} {xs:List V} (e:H a=aB (.lst xs)):fV K H (.ref a) (.type "list")
 |bC {a:ah} {o:Obj} {xs:List V} (e:H a=aB (.bC o (.lst xs))):fV K H (.ref a) (.type "list")
 |tup {a:ah} {xs:List V} (e:H a=aB (.tup xs)):fV K H (.ref a) (.type "tuple")
 |dK {a:ah} {kvs:List (Key×V)} (e:H a=aB (.dK kvs)):fV K H (.ref a) (.type "dict")
 |dT {a:ah} {kvs:List (List Key×V)} (e:H a=aB (.dT kvs)):fV K H (.ref a) (.type "dict")
 |ins {a C dx:ah} {fs:List (Str×V)} (e:H a=aB (.ins C dx fs)) (cl:FP K C) (ha:PySem.W.findIn K (.ref C) "__class__" = aB (aB (.builtin "object.__class__")))
   (hn:PySem.W.specialIn K (.builtin "object.__class__") "__get__" = aB (aB (.builtin "getset_descriptor.__get__"))) (htk:PySem.W.takesIn K (.builtin "object.__class__")=aB true)
   (hm:PySem.W.mroIn K C (.type "object")=aB true):fV K H (.ref a) (.ref C)
theorem QH{x:V}{u t:aa}(I:Inv X pins σ H s)(rx:RelV x u)(ty:fV X.K H x t)(e:PySem.W.kitOne X.K t c=aB b)(h:∀tk,Q (.bool b) {s with toks:=tk}) :
 wpAny (model X.prog X.w) A (call (.builtin "isinstance") [u,c]) Q E s:=by
 cases ty with
 |aR=>cases(show u=Value.none from rx);exact mG PySem.W.kitx_none I.jt True.intro e (λz=>nomatch z) h
 |bl y=>cases(show u=Value.bool y from rx);exact mG PySem.W.kitx_bool I.jt True.intro e (λz=>nomatch z) h
 |int i=>obtain⟨t,q⟩:=(show ∃t,u=Value.int i t from rx);cases q;exact mG PySem.W.kitx_int I.jt True.intro e (λz=>nomatch z) h
 |str y=>obtain⟨t,q⟩:=(show ∃t,u=Value.str y t from rx);cases q;exact mG PySem.W.kitx_str I.jt True.intro e (λz=>nomatch z) h
 |xH y=>obtain⟨t,q⟩:=(show ∃t,u=Value.float y t from rx);cases q;exact mG PySem.W.kitx_float I.jt True.intro e (λz=>nomatch z) h
 | @lst a xs ea=>
  cases(show u=Value.ref a from rx);obtain⟨_,_,n,_,h1⟩:=(show br X.prog X.w H s.heap a (.lst xs)from I.hok a _ ea)
  exact mG PySem.W.kitx_list I.jt ⟨_,h1,rfl⟩ e (λz=>nomatch z) h
 | @bC a ob xs ea=>
  cases(show u=Value.ref a from rx);obtain⟨_,_,_,n,_,h1⟩:=(show br X.prog X.w H s.heap a (.bC ob (.lst xs))from I.hok a _ ea)
  exact mG PySem.W.kitx_list I.jt ⟨_,h1,rfl⟩ e (λz=>nomatch z) h
 | @tup a xs ea=>
  cases(show u=Value.ref a from rx);obtain⟨_,_,_,p⟩:=(show br X.prog X.w H s.heap a (.tup xs)from I.hok a _ ea)
  obtain⟨o,h1,h2,_⟩:=p;exact mG PySem.W.kitx_tuple I.jt ⟨o,h1,h2⟩ e (λz=>nomatch z) h
 | @dK a kvs ea=>
  cases(show u=Value.ref a from rx);obtain⟨_,_,vs,_,p⟩:=(show br X.prog X.w H s.heap a (.dK kvs)from I.hok a _ ea)
  obtain⟨o,es,ep,h1,h2,_⟩:=p;exact mG PySem.W.kitx_dict I.jt ⟨o,h1,h2.1⟩ e (λz=>nomatch z) h
 | @dT a kvs ea=>
  cases(show u=Value.ref a from rx);obtain⟨_,_,xs,_,o,es,ep,h1,h2,_⟩:=(show br X.prog X.w H s.heap a (.dT kvs)from I.hok a _ ea)
  exact mG PySem.W.kitx_dict I.jt ⟨o,h1,h2.1⟩ e (λz=>nomatch z) h
 | @ins a C dx fs ea cl ha hn htk hm=>
  cases(show u=Value.ref a from rx);obtain⟨mA,O,_⟩:=QG I.hok ea;obtain⟨od,J,_⟩:=O.look;exact mG (PySem.W.kitx_own (cl.get _) cl.hd ha hn htk hm) I.jt J e (λz=>nomatch z) h
end
structure dB(k:Nat)(A:ak):Prop where
 hd:A.handled=aC
 dp:A.depth+3*k+5<recursionLimit
 un:A.units+16*k+200<cLine
theorem dB.deeper{k:Nat}{A:ak}(r:dB (k+1) A)(env:Env):dB k (A.deeper env):=
 ⟨r.hd,by have:=r.dp;show A.depth+1+3*k+5<_;lia,by have:=r.un;show A.units+3+16*k+200<_;lia⟩
theorem dB.depth{k:Nat}{A:ak}(r:dB k A):A.depth<recursionLimit:=by have:=r.dp;lia
theorem dB.units{k:Nat}{A:ak}(r:dB k A):A.units+64<cLine:=by have:=r.un;lia
noncomputable def zP:TA:=λ_ H Q=>Q [] H
noncomputable def zQ(ta:TE)(tr:TA):TA:=λσ H Q=>ta σ H λx H1=>tr σ H1 λxs H2=>Q (x::xs) H2
section
variable{X:Cx}{e:ao}{es:List ao}{te:TE}{t:TA}{pos:Pos}
theorem zR:PA X [] zP:=λ_ _ _ _ H Q I h=>Calls.spliced_nil ⟨[],H,I,.nil,h⟩
theorem xS(ha:PE X e te)(hr:PA X es t)(hs:autoParam (starEach (e::es) X.env=(false,eval e X.env)::starEach es X.env) L2.aR._auto_1):PA X (e::es) (zQ te t):=by intro pos pins s σ H Q I h;rw[hs];show wpAny _ _ (spliced ((false,eval e X.env)::backTo pos (starEach es X.env))) _ _ s;refine Calls.spliced_cons (bg (ha pins s σ H _ I h) λu s1 z9=>z9.el λx H1 I1 r1 q1=>?_);exact bg (hr pos pins s1 σ H1 _ I1 q1) λus s2 z9=>z9.el λxs H2 I2 r2 q2=>⟨x::xs,H2,I2,.cons r1 r2,q2⟩
noncomputable def FQ(t:TA):TE:=λσ H Q=>t σ H λxs H1=>xs.length<=sizeLine/\∀p,H1 p=aC->Q (.ref p) (upd H1 p (.tup xs))
noncomputable def FT(t:TA):TE:=λσ H Q=>t σ H λxs H1=>xs.length<=sizeLine/\∀p,H1 p=aC->Q (.ref p) (upd H1 p (.lst xs))
theorem QI{x1}(h:PA X es t):PE X (.Tuple es x1 pos) (FQ t):=by intro pins s σ H Q I hq;refine wpAny_Tuple_spliced (bg (h pos pins s σ H _ I hq) λus s1 z9=>z9.el λxs H1 I1 r ⟨z,q⟩=>⟨by rw[<-r.length];exact z,?_⟩);have hf:H1 s1.heap.objs.size=aC:=I1.hok.fresh (bf _);refine⟨.ref s1.heap.objs.size,upd H1 s1.heap.objs.size (.tup xs),I1.laid (t':=s1.toks) (λb u e=>di _ e) (bf _) ?_,rfl,q _ hf⟩;exact⟨z,us,r,kZ.new _ _⟩
theorem QJ(h:PA X es t):PE X (.List es pos) (FT t):=by intro pins s σ H Q I hq;refine wpAny_List_spliced (bg (h pos pins s σ H _ I hq) λus s1 z9=>z9.el λxs H1 I1 r ⟨z,q⟩=>⟨by rw[<-r.length];exact z,?_⟩);have hf:H1 s1.heap.objs.size=aC:=I1.hok.fresh (bf _);refine⟨.ref s1.heap.objs.size,upd H1 s1.heap.objs.size (.lst xs),I1.laid (t':=s1.toks) (λb u e=>di _ e) (bf _) ?_,rfl,q _ hf⟩;exact⟨z,us,0,r,iT _ rfl⟩
end
noncomputable abbrev Sp:=List V->Hp->VK->XK->Prop
noncomputable abbrev pO:=List Env->Hp->af->XK->aa->af->Prop
structure qL(P:ai)(w:aj)(K:aK)(mg:Str->Option aa)(base:az)(A:ak)(outer:List Env)(s:af)(H:Hp):Prop where
 frames:A.frames=aB outer
 mod:Mod K mg base
 bs:∀b o,base.get? b=aB o->s.heap.get? b=aB o/\H b=aC
 u6:base.objs.size<=s.heap.objs.size
 iE:s.heap.FunFrames base outer
 xO:∀b∈frs outer,H b=aC
 hok:fm P w H s.heap
 bare:AllBare s.gens
noncomputable def CE(outer:List Env)(P:ai)(w:aj)(H:Hp)(s:af)(Q:VK)(u:aa)(s':af):Prop:=
 ∃v H',s'.os=s.os/\AllBare s'.gens/\Un (frs outer) [] H H' s.heap s'.heap/\fm P w H' s'.heap/\RelV v u/\Q v H'
noncomputable def CR(CX:pO)(outer:List Env)(P:ai)(w:aj)(H:Hp)(s:af)(Q:VK)(E:XK)(r:Result)(s':af):Prop:=
 match r with|.ok (.ret u)=>CE outer P w H s Q u s'|.ok _=>False|.error e=>CX outer H s E e s'
structure fK(P:ai)(w:aj)(K:aK)(mg:Str->Option aa)(base:az)(CX:pO)(k:Nat)(f:ah)(fd:au)(ps:List Str)(sp:Sp):Prop where
 len:∀vs H Q E,sp vs H Q E->vs.length=ps.length
 run:∀(A:ak)(outer:List Env)(s:af)(H:Hp)(args:Args)(us:List aa)(vs:List V)(Q:VK)(E:XK),dB k A->qL P w K mg base A outer s H->BindsTo s fd args (ps.zip us)->Vals vs us->sp vs H Q E->
  codeAny (model P w) A (.call (.ref f) args) (CR CX outer P w H s Q E) s
section
variable{X:Cx}{pins:List (ah×Obj)}{σ:St}{H:Hp}{s s':af}
theorem Inv.FU(I:Inv X pins σ H s):qL X.prog X.w X.K X.mg X.base X.A X.stack s H:=
 ⟨I.ok.frames,I.ok.mod,I.bs,iw I.ok.u6 I.sz,I.stack,I.lK,I.hok,I.bare⟩
theorem Inv.after{Q:VK}{u:aa}(I:Inv X pins σ H s)(h:CE X.stack X.prog X.w H s Q u s'):EP X pins σ Q u s':=by obtain⟨v,H',os,bare,un,hok,r,q⟩:=h;obtain⟨hh,g,d,t,os'⟩:=s';obtain rfl:os'=s.os:=os;exact⟨v,H',I.call (h':=hh) (g':=g) (d':=d) (t':=t) (ch:=[]) un hok bare (λb z=>absurd z (by simp)),r,q⟩
end
noncomputable def tE(sp:Sp)(nW:List V)(E:XK)(t:TA):TE:=λσ H Q=>t σ H λvs H1=>sp (vs++nW) H1 Q E
noncomputable def Binds(K:aK)(fd:au)(ps:List Str)(ds:List aa):Prop:=
 ∀(s:af)(us:List aa),K.In s.heap->(us++ds).length=ps.length->BindsTo s fd ⟨us,[]⟩ (ps.zip (us++ds))
theorem Binds.all{K:aK}{fd:au}{ps:List Str}(h:∀us:List aa,us.length=ps.length->bindArgs fd ⟨us,[]⟩=pure (ps.zip us)):Binds K fd ps []:=λs us _ hl=>by
 rw[nG]at hl ⊢;exact .of_eq (h us hl)
noncomputable def Dm(CX:pO)(X:Cx)(E:XK):Prop:=∀(pins:List (ah×Obj)) (σ:St) (H:Hp) (s:af) (e:aa) (s':af),Inv X pins σ H s->CX X.stack H s E e s'->X.xe e s'
section
variable{X:Cx}{CX:pO}{k:Nat}{f C:ah}{fd:au}{ps:List Str}{sp:Sp}{nW:List V}{ds:List aa}{E:XK}{x m:Str}{p pos apos:Pos}{e o:ao}{es:List ao}{ta:TE}{t:TA}
theorem KR{pins:List (ah×Obj)}{σ:St}{H:Hp}{s:af}{Q:VK}{us:List aa}{vs:List V}(F:fK X.prog X.w X.K X.mg X.base CX k f fd ps sp)(hr:dB k X.A)(hb:Binds X.K fd ps ds)(hd:Vals nW ds)(hx:Dm CX X E)
 (I:Inv X pins σ H s) (r:Vals vs us) (h:sp (vs++nW) H Q E):wpAny (model X.prog X.w) X.A (call (.ref f) us) (EP X pins σ Q) X.xe s:=by
 have r2:Vals (vs++nW) (us++ds):=r.append hd;have hl:(us++ds).length=ps.length:=by rw[<-r2.length];exact F.len _ _ _ _ h
 refine wpAny_call (codeAny_mono (F.run X.A X.stack s H ⟨us,[]⟩ (us++ds) (vs++nW) Q E hr I.FU (hb s us I.jt hl) r2 h) λr s' hq=>?_);cases r with
 |error e=>exact hx pins σ H s e s' I hq
 |ok fl=>
  cases fl with|ret u=>exact I.after hq|next=>exact False.elim hq|brk=>exact False.elim hq|cont=>exact False.elim hq
theorem KS(F:fK X.prog X.w X.K X.mg X.base CX k f fd ps sp)(hr:dB k X.A)(hg:Gl X x)(hm:X.mg x=aB (.ref f))(hk:PySem.W.keepIn X.K (.ref f))(hb:Binds X.K fd ps ds)(hd:Vals nW ds)(hx:Dm CX X E)
 (ha:PA X (e::es) t) (hdb:autoParam ((x==("__debug__" : Str))=false) L2.aD._auto_1) (he:autoParam (starEach (e::es) X.env=(false,eval e X.env)::starEach es X.env) L2.aR._auto_1) (hpl:autoParam ((backTo pos (starEach es X.env)).any (·.1)=false) L2.aR._auto_1) :
 PE X (.Call (.Name x p) (e::es) [] pos) (tE sp nW E t):=by
 intro pins s σ H Q I h;refine CJ (Fj I hg hm ?_ hdb);refine PySem.W.callWith_K (h₀:=X.base) I.ok.mod.Fb hk (bg (ha pos pins s σ H _ I h) λus s1 z9=>z9.el λvs H1 I1 r q=>⟨I1.jt,?_⟩) he hpl;exact KR F hr hb hd hx I1 r q
theorem QK(F:fK X.prog X.w X.K X.mg X.base CX k f fd ps sp)(hr:dB k X.A)(hg:Gl X x)(hm:X.mg x=aB (.ref f))(hk:PySem.W.keepIn X.K (.ref f))(hb:Binds X.K fd ps ds)(hd:Vals nW ds)(hx:Dm CX X E)
 (hdb:autoParam ((x==("__debug__" : Str))=false) L2.aD._auto_1):PE X (.Call (.Name x p) [] [] pos) (tE sp nW E zP):=by
 intro pins s σ H Q I h;refine CJ (Fj I hg hm ?_ hdb);exact PySem.W.callWith_K0 I.jt hk (KR (us:=[]) F hr hb hd hx I .nil h)
end
structure dG(N P:List Str)(sc:ay):Prop where
 kind:sc.kind=.function
 co:sc.isCoroutine=false
 gen:sc.isGenerator=false
 nd:N.Nodup
 pre:N.take P.length=P
 par:∀x∈P,sc.names.lookup x=aB .local\/sc.names.lookup x=aB .cell
 vm:∀y∈sc.names,y.2≠.free
theorem KU{kindOf:Str->Option NameKind}{x:Str}:∀{binds:List (Str×aa)} {m:Str->Option aa},(∀v,(x,v)∉binds)->bindL kindOf binds m x=m x
 |[],_,_=>rfl
 |(n,v)::r,m,h=>by
  unfold bindL;rw[KU λw hw=>h w (eY _ hw)];split;have:x≠n:=by rintro rfl;exact h v eZ
  simp[this];rfl
theorem KW{kindOf:Str->Option NameKind}{x:Str}:∀{binds:List (Str×aa)} {m:Str->Option aa},(∀v,(x,v)∉binds)->bindC kindOf binds m x=m x
 |[],_,_=>rfl
 |(n,v)::r,m,h=>by
  unfold bindC;rw[KW λw hw=>h w (eY _ hw)];split;rfl;have:x≠n:=by rintro rfl;exact h v eZ
  simp[this]
theorem KY{kindOf:Str->Option NameKind}{x:Str}{v:aa}:∀{P:List Str} {vs:List aa} {i:Nat} {m:Str->Option aa},P.Nodup->P[i]?=aB x->vs[i]?=aB v->kindOf x=aB .local->
 bindL kindOf (P.zip vs) m x=aB v
 |[],_,_,_,_,h,_,_=>by simp at h
 |_::_,[],_,_,_,_,h,_=>by simp at h
 |p::P,w::vs,0,m,nd,h1,h2,hk=>by
  simp at h1 h2;subst h1;subst h2;show bindL kindOf ((p,w)::P.zip vs) m p=_;unfold bindL;rw[KU λv hv=>(sU.mp nd).1 (List.of_mem_zip hv).1,if_pos hk];simp
 |p::P,w::vs,i+1,m,nd,h1,h2,hk=>by
  show bindL kindOf ((p,w)::P.zip vs) m x=_;unfold bindL;exact KY (i:=i) (sU.mp nd).2 (by simpa using h1) (by simpa using h2) hk
theorem KZ{kindOf:Str->Option NameKind}{x:Str}{v:aa}:∀{P:List Str} {vs:List aa} {i:Nat} {m:Str->Option aa},P.Nodup->P[i]?=aB x->vs[i]?=aB v->kindOf x≠aB .local->
 bindC kindOf (P.zip vs) m x=aB v
 |[],_,_,_,_,h,_,_=>by simp at h
 |_::_,[],_,_,_,_,h,_=>by simp at h
 |p::P,w::vs,0,m,nd,h1,h2,hk=>by
  simp at h1 h2;subst h1;subst h2;show bindC kindOf ((p,w)::P.zip vs) m p=_;unfold bindC;rw[KW λv hv=>(sU.mp nd).1 (List.of_mem_zip hv).1,if_neg hk];simp
 |p::P,w::vs,i+1,m,nd,h1,h2,hk=>by
  show bindC kindOf ((p,w)::P.zip vs) m x=_;unfold bindC;exact KZ (i:=i) (sU.mp nd).2 (by simpa using h1) (by simpa using h2) hk
noncomputable def start(N:List Str)(vs:List V):St:=vs.map aB++bK (N.length-vs.length) aC
noncomputable def j9(CX:pO)(P:ai)(w:aj)(K:aK)(mg:Str->Option aa)(base:az)(N:List Str)(qual:Str)(scope:ay)(f:ah)(cd:aa)(A:ak)(outer:List Env)(s:af)(H:Hp)(E:XK):Cx where
 prog:=P
 w:=w
 K:=K
 mg:=mg
 base:=base
 A:=A.deeper (envOfC qual scope s.heap.objs.size f cd)
 N:=N
 s₀:=s
 H₀:=H
 env:=envOfC qual scope s.heap.objs.size f cd
 outer:=outer
 stack:=envOfC qual scope s.heap.objs.size f cd::outer
 ex:=[]
 calm:=true
 fn:=λ_=>true
 pn:=[]
 xe:=λe s'=>wpAny (model P w) (A.deeper (envOfC qual scope s.heap.objs.size f cd)) (leaving (envOfC qual scope s.heap.objs.size f cd) e) (λ_ s''=>CX outer H s E e s'') (λe' s''=>CX outer H s E e' s'') s'
theorem K0{sc:ay}{n:Nat}{x:Str}(h:sc.names.lookup x=aB .cell):∃c,(cellsFrom n sc.names []).lookup x=aB c:=by have q:=PySem.W.cellsFrom_some sc.names n [] (.inl h);exact Option.isSome_iff_exists.mp q
theorem QL{CX:pO}{P:ai}{w:aj}{K:aK}{mg:Str->Option aa}{base:az}{N ps:List Str}{qual:Str}{scope:ay}{f:ah}{cd:aa}{A:ak}{outer:List Env}{s s1:af}{H:Hp}{E:XK}{us:List aa}{vs:List V}
 (S:dG N ps scope) (hd:A.handled=aC) (e0:qL P w K mg base A outer s H) (hl:vs.length=ps.length) (r:Vals vs us)
 (x:InCallC s s.heap.objs.size (bindL (envOfC qual scope s.heap.objs.size f cd).kindOf (ps.zip us) λ_=>aC) (cellsFrom (s.heap.objs.size+1) scope.names []) (bindC (envOfC qual scope s.heap.objs.size f cd).kindOf (ps.zip us) λ_=>aC) s1) :
 Inv (j9 CX P w K mg base N qual scope f cd A outer s H E) [] (start N vs) H s1:=by
 have hpl:ps.length<=N.length:=by have:=mD List.length S.pre;rw[jo]at this;lia
 obtain⟨h1,tk,rfl,hk⟩:=x.done;have zS:∀b:ah,b∉(j9 CX P w K mg base N qual scope f cd A outer s H E).ex:=λb z=>absurd (show b∈([]:List ah)from z) (by simp);refine⟨⟨e0.mod,S.kind,rfl,rfl,bf _,λy z c h1 h2=>?_,λy hy=>?_,λy c _ h=>?_,λ_=>hd,Around.frames_deeper e0.frames,.inr ⟨rfl,rfl⟩,λb z=>absurd z (zS b),e0.bs,e0.u6,λb _ _=>zS b,λb z=>absurd z (zS b),e0.iE,e0.xO⟩,
  rfl,e0.bare,Un.kept hk,⟨_,x.toInCall.ns,λi y v h1 h2 h3=>?_⟩,λy c h=>⟨_,x.cell y c h⟩,e0.hok.fresh (bf _),λy c h=>?_,λp hp=>absurd (show p∈([]:List (ah×Obj))from hp) (by simp),e0.hok.kept hk,?_⟩
 exact name_of_addr x.apart (yK h1) (yK h2);have hy:scope.names.lookup y=aB .cell\/scope.names.lookup y=aB .free:=hy;rcases hy with hy|hy
 exact K0 hy;exact absurd rfl (S.vm _ (yK hy));exact sV (x.above y c (yK h));have hi:i<vs.length:=by unfold start at h2;by_cases hi:i<vs.length;exact hi;rw[lH (by simpa using hi)]at h2;rw[CP]at h2;split at h2<;>cases h2
 have ha:vs[i]?=aB v:=by
  unfold start at h2;rw[pG (by simpa using hi),dO]at h2;cases e:vs[i]? with|none=>rw[e]at h2;cases h2|some a=>rw[e]at h2;cases h2;rfl
 obtain⟨u,hu,rv⟩:=r.get ha;have hp:ps[i]?=aB y:=by rw[<-S.pre,List.getElem?_take_of_lt (by lia)];exact h1
 have K1:ps.Nodup:=by rw[<-S.pre];exact S.nd.sublist (List.take_sublist _ _)
 refine⟨u,rv,?_⟩;rcases S.par y (nC hp)with k|k
 exact .inl ⟨k,KY K1 hp hu k⟩;obtain⟨c,e⟩:=K0 (n:=s.heap.objs.size+1) k;refine .inr ⟨.inl k,c,e,?_⟩;have q:=x.cell y c e;rw[KZ K1 hp hu (by show scope.names.lookup y≠_;rw[k];decide)]at q;exact q;exact e0.hok.fresh (sV (x.above y c (yK h)));unfold start;show _=N.length;rw[fE,bD,qo];lia
theorem zT{CX:pO}{P:ai}{w:aj}{K:aK}{mg:Str->Option aa}{base:az}{k:Nat}{f:ah}{name qual:Str}{params:Arguments}{body:List aq}{scope:ay}{dV kV doc pm cdv ct oc:aa}{an od:Option ah}
 {osl:Array (Option aa)} {N ps:List Str} {sp:Sp} (lk:K.lookup f=aB ⟨oc,od,.func (PySem.W.fnOf name qual params body scope dV kV doc pm an cdv ct),osl⟩) (hcd:PySem.W.codeIn K cdv qual) (S:dG N ps scope)
 (len:∀vs H Q E,sp vs H Q E->vs.length=ps.length)
 (hbody:∀(A:ak)(outer:List Env)(s:af)(H:Hp)(vs:List V)(Q:VK)(E:XK),dB k (A.deeper (envOfC qual scope s.heap.objs.size f cdv))->sp vs H Q E->
   ∃t,kN (j9 CX P w K mg base N qual scope f cdv A outer s H E) body t/\t {nx:=λ_ H'=>Q .aR H',rt:=Q} (start N vs) H) :
 fK P w K mg base CX (k+1) f (PySem.W.fnOf name qual params body scope dV kV doc pm an cdv ct) ps sp:=by
 refine⟨len,λA outer s H args us vs Q E hr e0 hb r pP=>?_⟩;have hl:=len _ _ _ _ pP;have KX:K.In s.heap:=e0.mod.Fb.keeps λb o e=>(e0.bs b o e).1;have lim:s.heap.NoLimit:=e0.mod.nolimit.keeps λb o e=>(e0.bs b o e).1;have hkind:∀y∈ps.zip us,scope.names.lookup y.1=aB .local\/(scope.names.lookup y.1=aB .cell/\((cellsFrom (s.heap.objs.size+1) scope.names []).lookup y.1).isSome):=λb9 hy=>by
  obtain⟨n,v⟩:=b9;rcases S.par n (List.of_mem_zip hy).1 with q|q;exact .inl q;exact .inr ⟨q,PySem.W.cellsFrom_some _ _ _ (.inl q)⟩
 refine codeAny_call_function hr.depth (KX _ _ lk) rfl S.co S.gen rfl (PySem.W.codeRec_of KX hcd) (hb _ _ _ _ ?_);refine wpAny_newFunctionEnv_cells S.kind hkind λenv he s1 x=>?_;subst he;refine⟨lim.keeps x.toInCall.keep,codeAny_func ?_⟩;obtain⟨t,ht,hq⟩:=hbody A outer s H vs Q E (hr.deeper _) pP;have I:Inv (j9 CX P w K mg base N qual scope f cdv A outer s H E) [] (start N vs) H s1:=QL S hr.hd e0 hl r x;refine gV (ht [] s1 (start N vs) H _ I hq) (λfl s' hs=>?_) λe s' hs=>hs;have fin:∀{σ':St}{H':Hp}{v:V}{u:aa},Inv (j9 CX P w K mg base N qual scope f cdv A outer s H E) [] σ' H' s'->RelV v u->Q v H'->CE outer P w H s Q u s':=
  λ{σ' H' v u} J rv q=>⟨v,H',J.os,J.bare,J.base,J.hok,rv,q⟩
 cases fl with
 |ret u=>
  obtain⟨v,σ',H',J,rv,q⟩:=hs;exact fin J rv q
 |next=>
  obtain⟨σ',H',J,q⟩:=hs;exact fin (v:=V.aR) (u:=Value.none) J rfl q
 |brk=>
  obtain⟨_,_,_,q⟩:=hs;exact False.elim q
 |cont=>
  obtain⟨_,_,_,q⟩:=hs;exact False.elim q
section
variable{X:Cx}{x:Str}{p pos:Pos}{e:ao}{es:List ao}{t:TA}{id T:String}{r:List V->Hp->VK->Prop}
noncomputable def K4(r:List V->Hp->VK->Prop)(t:TA):TE:=λσ H Q=>t σ H λvs H1=>r vs H1 Q
theorem K5(hc:cG X (.builtin id) r)(hg:Gl X x)(hm:X.mg x=aC)(hv:bootBuiltins x=aB (.builtin id))(ha:PA X (e::es) t)(hn:autoParam (x≠"__name__") L2.aD._auto_1)(hdb:autoParam ((x==("__debug__" : Str))=false) L2.aD._auto_1)
 (he:autoParam (starEach (e::es) X.env=(false,eval e X.env)::starEach es X.env) L2.aR._auto_1) (hpl:autoParam ((backTo pos (starEach es X.env)).any (·.1)=false) L2.aR._auto_1):PE X (.Call (.Name x p) (e::es) [] pos) (K4 r t):=by
 intro pins s σ H Q I h;refine CJ (u9 I hg hm hv ?_ hn hdb);exact PyProof.Rows.callWith_builtin1 (bg (ha pos pins s σ H _ I h) λus s1 z9=>z9.el λvs H1 I1 r1 q1=>hc pins s1 σ H1 vs us Q I1 r1 q1) he hpl
theorem QM(hc:cG X (.type T) r)(hg:Gl X x)(hm:X.mg x=aC)(hv:bootBuiltins x=aB (.type T))(ha:PA X (e::es) t)(hn:autoParam (x≠"__name__") L2.aD._auto_1)(hdb:autoParam ((x==("__debug__" : Str))=false) L2.aD._auto_1)
 (he:autoParam (starEach (e::es) X.env=(false,eval e X.env)::starEach es X.env) L2.aR._auto_1) (hpl:autoParam ((backTo pos (starEach es X.env)).any (·.1)=false) L2.aR._auto_1):PE X (.Call (.Name x p) (e::es) [] pos) (K4 r t):=by
 intro pins s σ H Q I h;refine CJ (u9 I hg hm hv ?_ hn hdb);exact yV (bg (ha pos pins s σ H _ I h) λus s1 z9=>z9.el λvs H1 I1 r1 q1=>hc pins s1 σ H1 vs us Q I1 r1 q1) he hpl
end
end L2
namespace HT
open PySem PyProof.Rows
section
variable{prog:ai}{w:aj}{A:ak}{E:aa->af->Prop}{s:af}
theorem qM{t b:ah}{vs ws:List aa}{Q:aa->af->Prop}(ht:IsTup s.heap t vs.toArray)(hb:IsTup s.heap b ws.toArray)(hv:vs≠[])
 (h1:ws=[]->Q (.ref t) s) (h2:ws≠[]->Q (.ref s.heap.objs.size) {s with heap:=s.heap.push {cls:=.type "tuple",data:=.seq (vs++ws).toArray}})
 (hsz:vs.length+ws.length<=sizeLine):wpAny (model prog w) A (binaryOp .Add (.ref t) (.ref b)) Q E s:=by
 obtain⟨⟨cls,dd,data,sl⟩,ho,hc,n,hd⟩:=id ht;obtain⟨⟨FW,dd2,data2,sl2⟩,ho2,hc2,n2,hd2⟩:=id hb;simp only at hc hd hc2 hd2;subst hc hd hc2 hd2;have e:vs.toArray++ws.toArray=(vs++ws).toArray:=by simp
 by_cases hw:ws=[]
 exact concat_meets ⟨_,ho,rfl⟩ ⟨_,ho2,rfl⟩ yL yM za yZ (yY _ _)
  (tuple_addW1 t b vs.toArray ws.toArray n n2 dd dd2 sl sl2 (by simpa using hv) (by simp[hw])) ⟨ho,ho2,h1 hw⟩
 refine concat_meets ⟨_,ho,rfl⟩ ⟨_,ho2,rfl⟩ yL yM za yZ (yY _ _)
  (tuple_addW2 t b vs.toArray ws.toArray n n2 dd dd2 sl sl2 (by simpa using hv) (by simpa using hw) (by rw[dU,dU];exact hsz)) ⟨ho,ho2,?_⟩
 rw[e];exact h2 hw
noncomputable def bR(n d:Nat):Option Int->Nat|none=>d|some v=>if v<0 then(v+ (n:Int)).toNat else min v.toNat n
theorem nX(n d:Nat):bR n d aC=d:=rfl
theorem qN(n d k:Nat):bR n d (aB (k:Int))=min k n:=by show(if(k:Int)<0 then((k:Int)+ (n:Int)).toNat else min (k:Int).toNat n)=min k n;rw[if_neg (by lia),qx]
theorem QN(n d:Nat)(hd:d<=n)(o:Option Int):bR n d o<=n:=by
 cases o with
 |none=>exact hd
 |some v=>
  show(if v<0 then(v+ (n:Int)).toNat else min v.toNat n)<=n;by_cases hv:v<0;rw[if_pos hv];lia;rw[if_neg hv];exact Nat.min_le_right _ _
theorem K7(v:Int)(n d:Nat):(if v<0 then max (v+ (n:Int)) 0 else min v (n:Int))=((bR n d (aB v):Nat):Int):=by
 show(if v<0 then max (v+ (n:Int)) 0 else min v (n:Int))=(((if v<0 then(v+ (n:Int)).toNat else min v.toNat n):Nat):Int)
 by_cases hv:v<0;simp only[if_pos hv];lia;simp only[if_neg hv];lia
theorem QO(lo hi:Option Int)(n:Nat):Builtin.Slice.sliceAdjust lo hi 1 (n:Int)=(((bR n 0 lo:Nat):Int),((bR n n hi:Nat):Int)):=by
 have h1:¬((1:Int)<0):=by lia
 unfold Builtin.Slice.sliceAdjust;simp only[h1,ez];refine Prod.ext ?_ ?_;cases lo with|none=>rfl|some v=>exact K7 v n 0
 cases hi with|none=>rfl|some v=>exact K7 v n n
theorem QS(i j:Nat):Builtin.Slice.slicePlaces (i:Int) (j:Int) 1=j-i:=by
 unfold Builtin.Slice.slicePlaces;have h1:(1:Int)>0:=by lia
 simp only[h1,cC,Int.ediv_one];split<;>lia
theorem K8{v:aa}{o:Option Int}{Q:Option Int->af->Prop}(p:IsPart v o)(h:Q o s):wpAny (model prog w) A (Builtin.Slice.slicePartIndex v) Q E s:=by
 cases p with|none=>exact slicePart_none h|int i t=>exact slicePart_int h
theorem K9{sl:ah}{vl vu:aa}{lo hi:Option Int}{n:Nat}{Q:Int×Int×Nat->af->Prop}(hs:s.heap.IsSliceOf sl vl vu .none)(pl:IsPart vl lo)(pu:IsPart vu hi)
 (h:Q (((bR n 0 lo:Nat):Int),1,bR n n hi-bR n 0 lo) s):wpAny (model prog w) A (Builtin.Slice.sliceApplied (.ref sl) (pure (n:Int))) Q E s:=by
 obtain⟨os,hos,hcs,hds⟩:=id hs;unfold Builtin.Slice.sliceApplied Builtin.Slice.sliceFields;refine aS (aS (kX hos hds (x:=vl) rfl (aS (kX hos hds (x:=vu) rfl (aS (kX hos hds (x:=.none) rfl (bS ?_)))))));refine aS (slicePart_none ?_);show wpAny _ _ (if((1:Int)==0)=true then _ else _) _ _ s;rw[if_neg (by decide)];refine aS (K8 pl (aS (K8 pu (aS (bS ?_)))));show wpAny _ _ (match Builtin.Slice.sliceAdjust lo hi 1 (n:Int)with|(lo,hi)=>pure (lo,(1:Int),Builtin.Slice.slicePlaces lo hi 1)) _ _ s;rw[QO lo hi n];show wpAny _ _ (pure (((bR n 0 lo:Nat):Int),(1:Int),Builtin.Slice.slicePlaces ((bR n 0 lo:Nat):Int) ((bR n n hi:Nat):Int) 1)) _ _ s;rw[QS];exact bS h
theorem QT(xs:Array aa)(i k:Nat):((List.range k).filterMap λ(m:Nat)=>xs[((i:Int)+ (m:Int)*1).toNat]?).toArray=((xs.toList.drop i).take k).toArray:=by
 have e:(λ(m:Nat)=>xs[((i:Int)+ (m:Int)*1).toNat]?)=λm=>xs[i+m]?:=by
  funext m;have:((i:Int)+ (m:Int)*1).toNat=i+m:=by lia
  rw[this]
 rw[e];have:=pick_run xs i k;rw[List.filterMap_map]at this;have e2:((λx=>xs[x]?)∘λx=>i+x)=λm=>xs[i+m]?:=rfl;rw[e2]at this;rw[this]
theorem fX{t sl:ah}{items:Array aa}{vl vu:aa}{lo hi:Option Int}{Q:aa->af->Prop}(ht:IsTup s.heap t items)(hs:s.heap.IsSliceOf sl vl vu .none)(pl:IsPart vl lo)(pu:IsPart vu hi)
 (hw:¬(bR items.size 0 lo=0/\bR items.size items.size hi=items.size))
 (h:Q (.ref s.heap.objs.size) {s with heap:=s.heap.push {cls:=.type "tuple",data:=.seq ((items.toList.drop (bR items.size 0 lo)).take (bR items.size items.size hi-bR items.size 0 lo)).toArray}})
 (hsz:items.size<=sizeLine):wpAny (model prog w) A (getItem (.ref t) (.ref sl)) Q E s:=by
 have lP:sizeOk (.seq ((items.toList.drop (bR items.size 0 lo)).take (bR items.size items.size hi-bR items.size 0 lo)).toArray):=by show((items.toList.drop (bR items.size 0 lo)).take (bR items.size items.size hi-bR items.size 0 lo)).toArray.size<=sizeLine;rw[dU,jo,sR,xF];lia
 have hj:bR items.size items.size hi<=items.size:=QN _ _ (bf _) hi;obtain⟨os,hos,hcs,hds⟩:=id hs;have FY:s.TypeIs (.ref sl) "slice":=⟨os,hos,hcs⟩
 unfold getItem
 try with_reducible refine pF ?_
 first|refine aS (bS ?_)|skip
 refine aS (wpAny_sequenceKey ht.typeIs (by decide) ?_);refine aS (xj (name:=Str.ofString "__getitem__") ht.typeIs xC
  (xq xC ht.typeIs entry_tuple_getitem ?_ (args_tuple_getitem _ _)))
 show wpAny _ _ (Builtin.Tuple.tupleItemsOf (.ref t) >>= _) _ _ s;refine aS (tupleItemsOf_ ht ?_);refine aS (CM FY ?_);rw[if_pos (by decide)];refine aS (K9 hs pl pu ?_);have hno:¬((((bR items.size 0 lo:Nat):Int)==0&& (1:Int)==1&& (bR items.size items.size hi-bR items.size 0 lo)==items.size)):=by intro q;rw[bQ,bQ]at q;have q1:((bR items.size 0 lo:Nat):Int)=0:=eq_of_beq q.1.1;have q2:bR items.size items.size hi-bR items.size 0 lo=items.size:=eq_of_beq q.2;exact hw ⟨by lia,by lia⟩
 show wpAny _ _ (if(((bR items.size 0 lo:Nat):Int)==0&& (1:Int)==1&& (bR items.size items.size hi-bR items.size 0 lo)==items.size)=true then _ else _) _ _ s;rw[if_neg hno,QT];first
  |exact aS (m:=Builtin.Tuple.tupleExact _) (qk (bS ⟨_,rfl,bS h⟩) lP)
  |exact aS (m:=Builtin.Tuple.tupleExact _) (qk (aS (bS (bS ⟨_,rfl,bS h⟩))) lP)
  |exact aS (aS (m:=Builtin.Tuple.tupleExact _) (qk (bS (bS ⟨_,rfl,bS h⟩)) lP))
  |exact aS (aS (m:=Builtin.Tuple.tupleExact _) (qk (bS ⟨_,rfl,bS h⟩) lP))
end
end HT
namespace L2
open PySem PySem.Spec PyProof.Rows
noncomputable abbrev TO:=St->Hp->(Option Int->Hp->Prop)->Prop
noncomputable def PO(X:Cx)(e:Option ao)(t:TO):Prop:=
 ∀(pins:List (ah×Obj))(s:af)(σ:St)(H:Hp)(Q:Option Int->Hp->Prop),Inv X pins σ H s->t σ H Q->
  wpAny (model X.prog X.w) X.A (evalPart e X.env) (λu s'=>∃o H',Inv X pins σ H' s'/\IsPart u o/\Q o H') X.xe s
noncomputable def QU:TO:=λ_ H Q=>Q aC H
noncomputable def zU(t:TE):TO:=λσ H Q=>t σ H λx H1=>∃i,x=.int i/\Q (aB i) H1
section
variable{X:Cx}{e:ao}{te:TE}{lo hi:Option ao}{tl th:TO}{pos p2:Pos}
theorem QV:PO X aC QU:=by intro pins s σ H Q I h;rw[evalPart_none];exact bS ⟨aC,H,I,.none,h⟩
theorem QW(h:PE X e te):PO X (aB e) (zU te):=by intro pins s σ H Q I hw;rw[evalPart_some];refine bg (h pins s σ H _ I hw) λu s1 z9=>z9.el λx H1 I1 r1 q1=>?_;obtain⟨i,rfl,q⟩:=q1;obtain⟨t,rfl⟩:=r1;exact⟨aB i,H1,I1,.int i t,q⟩
noncomputable def qP(X:Cx)(r:V->Option Int->Option Int->Hp->VK->Prop):Prop:=
 ∀(pins:List (ah×Obj))(s:af)(σ:St)(H:Hp)(x:V)(v vl vu:aa)(lo hi:Option Int)(sl:ah)(Q:VK),Inv X pins σ H s->RelV x v->s.heap.IsSliceOf sl vl vu .none->IsPart vl lo->IsPart vu hi->r x lo hi H Q->
  ∃T id,typeLookup (.type T) "__getitem__" = pure (aB (.builtin id))/\s.TypeIs v T/\wpAny (model X.prog X.w) X.A (getItem v (.ref sl)) (EP X pins σ Q) X.xe s
theorem qP.or{r r':V->Option Int->Option Int->Hp->VK->Prop}(h:qP X r)(h':qP X r'):qP X (λx lo hi H Q=>r x lo hi H Q\/r' x lo hi H Q):=by
 intro pins s σ H x v vl vu lo hi sl Q I rx hs pl pu q;rcases q with q|q
 exact h pins s σ H x v vl vu lo hi sl Q I rx hs pl pu q;exact h' pins s σ H x v vl vu lo hi sl Q I rx hs pl pu q
noncomputable def QX(r:V->Option Int->Option Int->Hp->VK->Prop)(te:TE)(tl th:TO):TE:=λσ H Q=>te σ H λx H1=>tl σ H1 λl H2=>th σ H2 λu H3=>r x l u H3 Q
theorem QY{r:V->Option Int->Option Int->Hp->VK->Prop}(hr:qP X r)(he:PE X e te)(hl:PO X lo tl)(hu:PO X hi th):PE X (.Subscript e (.Slice lo hi aC p2) pos) (QX r te tl th):=by intro pins s σ H Q I h;refine Subscript_ (bg (he pins s σ H _ I h) λv s1 z9=>z9.el λx H1 I1 r1 q1=>?_);refine wpAny_Slice (bg (hl pins s1 σ H1 _ I1 q1) λvl s2 ⟨l,H2,I2,pl,q2⟩=>bg (hu pins s2 σ H2 _ I2 q2) λvu s3 b9=>?_);obtain⟨u,H3,I3,pu,q3⟩:=b9;rw[evalPart_none];refine bS ?_;have I4:Inv X pins σ H3 {s3 with heap:=s3.heap.push {cls:=.type "slice",data:=.fields #[vl,vu,.none]}}:=I3.kept (t':=s3.toks) λb ob q=>di _ q;obtain⟨T,id,hT,ht,hg⟩:=hr pins {s3 with heap:=s3.heap.push {cls:=.type "slice",data:=.fields #[vl,vu,.none]}} σ H3 x v vl vu l u s3.heap.objs.size Q I4 r1 (Heap.IsSliceOf.new ..) pl pu q3;show wpAny (model X.prog X.w) X.A (subscriptTail e (.Slice lo hi aC p2) v (.ref s3.heap.objs.size)) (EP X pins σ Q) X.xe {s3 with heap:=s3.heap.push {cls:=.type "slice",data:=.fields #[vl,vu,.none]}};exact tail_any (ops:=[.ref s3.heap.objs.size,v]) ht hT hg (by with_unfolding_all rfl)
noncomputable def kc(xs:List V)(lo hi:Option Int):List V:=(xs.drop (HT.bR xs.length 0 lo)).take (HT.bR xs.length xs.length hi-HT.bR xs.length 0 lo)
theorem La(xs:List V)(lo hi:Option Int):(kc xs lo hi).length<=xs.length:=by unfold kc;rw[jo,sR];lia
noncomputable def zV(K:aK):V->Option Int->Option Int->Hp->VK->Prop:=λx lo hi H Q=>∃a xs,x=.ref a/\cN K H a xs/\
 ¬(HT.bR xs.length 0 lo=0/\HT.bR xs.length xs.length hi=xs.length)/\∀p,H p=aC->Q (.ref p) (upd H p (.tup (kc xs lo hi)))
theorem QZ:qP X (zV X.K):=by
 intro pins s σ H x v vl vu lo hi sl Q I rx hs pl pu h;obtain⟨a,xs,rfl,hx,hw,q⟩:=h;cases rx;obtain⟨its,r,ht,hz⟩:=I.tuple hx;have hlen:its.toArray.size=xs.length:=by rw[dU];exact r.length.symm
 refine⟨"tuple",_,xC.lookup,ht.typeIs,?_⟩;refine HT.fX ht hs pl pu (by rw[hlen];exact hw) ?_ (by rw[hlen];exact hz);rw[hlen];refine⟨.ref s.heap.objs.size,_,I.laid (t':=s.toks) (o:=.tup (kc xs lo hi)) (λb ob q=>di _ q) (bf _) ?_,rfl,q _ (I.hok.fresh (bf _))⟩;exact⟨iw (La xs lo hi) hz,_,(r.drop (HT.bR xs.length 0 lo)).take (HT.bR xs.length xs.length hi-HT.bR xs.length 0 lo),kZ.new _ _⟩
noncomputable def lQ(K:aK):R2:=λx y H Q=>∃a b xs ys,x=.ref a/\y=.ref b/\cN K H a xs/\cN K H b ys/\xs≠[]/\xs.length+ys.length<=sizeLine/\
 (ys=[]->Q (.ref a) H)/\(ys≠[]->∀p,H p=aC->Q (.ref p) (upd H p (.tup (xs++ys))))
theorem Vals.eW{xs:List V}{us:List aa}(r:Vals xs us):us=[]↔xs=[]:=by
 cases r with|nil=>simp|cons _ _=>simp
theorem Q0:dH X (binaryOp .Add) (lQ X.K):=by intro pins s σ H x y v u Q I rx ry h;obtain⟨a,b,xs,ys,rfl,rfl,ha,hb,hx,hz,q1,q2⟩:=h;cases rx;cases ry;obtain⟨its,r1,p1,_⟩:=I.tuple ha;obtain⟨its2,r2,p2,_⟩:=I.tuple hb;refine HT.qM p1 p2 (λz=>hx (r1.eW.mp z)) (λz=>⟨.ref a,H,I,rfl,q1 (r2.eW.mp z)⟩) (λz=>?_) (by rw[<-r1.length,<-r2.length];exact hz);refine⟨.ref s.heap.objs.size,_,I.laid (t':=s.toks) (o:=.tup (xs++ys)) (λb ob q=>di _ q) (bf _) ?_,rfl,q2 (λw=>z (r2.eW.mpr w)) _ (I.hok.fresh (bf _))⟩;exact⟨by rw[fE];exact hz,_,r1.append r2,kZ.new _ _⟩
end
noncomputable def iU(n:Nat)(i:Int):Option Nat:=if 0<=i then(if i<n then aB i.toNat else aC)else if -(n:Int)<=i then aB (i+n).toNat else aC
noncomputable def fy{α:Type}(xs:List α)(i:Int):Option α:=(iU xs.length i).bind λj=>xs[j]?
theorem Lb{n:Nat}{i:Int}{j:Nat}(h:iU n i=aB j):seqIndex? i n=aB j/\j<n/\-(n:Int)<=i/\i<n:=by unfold iU at h;by_cases h0:0<=i;rw[if_pos h0]at h;by_cases h1:i<n;rw[if_pos h1]at h;have e:i.toNat=j:=nT h;exact⟨by rw[seqIndex_of h0 h1,e],by lia,by lia,h1⟩;rw[if_neg h1]at h;cases h;rw[if_neg h0]at h;by_cases h1:-(n:Int)<=i;rw[if_pos h1]at h;have e:(i+n).toNat=j:=nT h;exact⟨by rw[seqIndex_neg (by lia) h1,e],by lia,h1,by lia⟩;rw[if_neg h1]at h;cases h
theorem Lc{α:Type}{xs:List α}{i:Int}{v:α}(h:fy xs i=aB v):∃j,seqIndex? i xs.length=aB j/\xs[j]?=aB v/\j<xs.length/\-(xs.length:Int)<=i/\i<xs.length:=by
 unfold fy at h;cases e:iU xs.length i with
 |none=>rw[e]at h;cases h
 |some j=>
  rw[e]at h;obtain⟨h1,h2,h3,h4⟩:=Lb e;exact⟨j,h1,h,h2,h3,h4⟩
theorem lR{α:Type}{xs:List α}{j:Nat}{v:α}(h:xs[j]?=aB v):fy xs (j:Int)=aB v:=by
 have hj:j<xs.length:=(iB.mp h).1;have e:iU xs.length (j:Int)=aB j:=by unfold iU;rw[if_pos (by lia),if_pos (by lia)];simp
 unfold fy;rw[e];exact h
noncomputable def FZ(b:ao):Prop:=∀o i,subscripted b false o i=operate [o,i] (getItem o i)
noncomputable def qQ(X:Cx)(r:R2):Prop:=
 ∀(value slice:ao)(pins:List (ah×Obj))(s:af)(σ:St)(H:Hp)(x y:V)(v u:aa)(Q:VK),Inv X pins σ H s->RelV x v->RelV y u->r x y H Q->
  subscripted slice false v u=operate [v,u] (getItem v u)->wpAny (model X.prog X.w) X.A (subscriptTail value slice v u) (EP X pins σ Q) X.xe s
noncomputable def Ld(X:Cx)(id:String)(r:V->List V->Hp->VK->Prop):Prop:=
 ∀(pins:List (ah×Obj))(s:af)(σ:St)(H:Hp)(x:V)(xs:List V)(v:aa)(us:List aa)(Q:VK),Inv X pins σ H s->RelV x v->Vals xs us->r x xs H Q->
  wpAny (model X.prog X.w) X.A (call (.builtin id) (v::us)) (EP X pins σ Q) X.xe s
section
variable{X:Cx}{a b:ao}{ta tb:TE}{pos:Pos}
theorem qQ.or{r r':R2}(h:qQ X r)(h':qQ X r'):qQ X (λx y H Q=>r x y H Q\/r' x y H Q):=by
 intro value slice pins s σ H x y v u Q I rx ry q hs;rcases q with q|q
 exact h value slice pins s σ H x y v u Q I rx ry q hs;exact h' value slice pins s σ H x y v u Q I rx ry q hs
theorem zW{r:R2}(hr:qQ X r)(ha:PE X a ta)(hb:PE X b tb)(hs:FZ b):PE X (.Subscript a b pos) (Dj r ta tb):=by intro pins s σ H Q I h;exact Subscript_ (vf ha hb I h λv u s2 x y H2 I2 rx ry q=>hr a b pins s2 σ H2 x y v u Q I2 rx ry q (hs _ _))
noncomputable def zX(K:aK):R2:=λx y H Q=>∃p xs i v,x=.ref p/\y=.int i/\dh K H p xs/\fy xs i=aB v/\Q v H
noncomputable def zY(K:aK):R2:=λx y H Q=>∃p xs i v,x=.ref p/\y=.int i/\cN K H p xs/\fy xs i=aB v/\Q v H
theorem Q2:qQ X (zX X.K):=by
 intro value slice pins s σ H x y v u Q I rx ry h hs;obtain⟨p,xs,i,z,rfl,rfl,hq,he,q⟩:=h;cases rx;obtain⟨t,rfl⟩:=ry;obtain⟨its,r,pl,hz⟩:=I.list hq;obtain⟨j,h1,h2,h3,h4,h5⟩:=Lc he;obtain⟨w,ew,rw'⟩:=r.get h2;have hl:=r.length;have hn:=zO;have fin:EP X pins σ Q w s:=⟨z,H,I,rw',q⟩
 by_cases h0:0<=i;have hj:i.toNat=j:=by rw[seqIndex_of h0 h5]at h1;exact nT h1
 exact item_listR pl.isList h0 (by lia) (by rw[hj];simpa using ew) fin hs;have hj:(i+ (its.toArray.size:Int)).toNat=j:=by rw[seqIndex_neg (by lia) h4]at h1;rw[dU,<-hl];exact nT h1
 exact subscriptTail_builtinR (x:=w) pl.isList.typeIs slot_list_getitem.lookup
  (wpAny_getItem_list_neg (Q:=λr s'=>r=w/\EP X pins σ Q r s') pl.isList (by lia) (by rw[dU]<;>lia) (by lia) (by rw[hj];simpa using ew) ⟨rfl,fin⟩) hs
theorem Q3:qQ X (zY X.K):=by
 intro value slice pins s σ H x y v u Q I rx ry h hs;obtain⟨p,xs,i,z,rfl,rfl,hq,he,q⟩:=h;cases rx;obtain⟨t,rfl⟩:=ry;obtain⟨its,r,pl,hz⟩:=I.tuple hq;obtain⟨j,h1,h2,h3,h4,h5⟩:=Lc he;obtain⟨w,ew,rw'⟩:=r.get h2;have hl:=r.length;have hn:=zO;have fin:EP X pins σ Q w s:=⟨z,H,I,rw',q⟩
 exact subscriptTail_builtinR (x:=w) pl.typeIs slot_tuple_getitem.lookup
  (getItem_tuple (j:=j) (Q:=λr s'=>r=w/\EP X pins σ Q r s') pl (by lia) (by lia) (by rw[dU,<-hl];exact h1) (by simpa using ew) ⟨rfl,fin⟩) hs
theorem Q4(its:List aa)(n j:Nat)(u:aa):Obj.mapSeq (·.setIfInBounds j u) {cls:=.type "list",data:=.seq its.toArray n} ={cls:=.type "list",data:=.seq (its.set j u).toArray n}:=by simp[Obj.mapSeq]
theorem Inv.lst{pins:List (ah×Obj)}{σ:St}{H:Hp}{s:af}{p:ah}{xs:List V}(I:Inv X pins σ H s)(h:H p=aB (.lst xs)) :
 ∃(its:List aa) (n:Nat),Vals xs its/\s.heap.get? p=aB {cls:=.type "list",data:=.seq its.toArray n}/\xs.length<=sizeLine:=by
 obtain⟨z,its,n,r,e⟩:=I.hok p _ h;exact⟨its,n,r,e,z⟩
theorem Inv.vn{pins:List (ah×Obj)}{σ:St}{H:Hp}{s:af}{p:ah}{xs ys:List V}{its its':List aa}{n n':Nat}{f:Obj->Obj}(I:Inv X pins σ H s)(h:H p=aB (.lst xs))
 (ho:s.heap.get? p=aB {cls:=.type "list",data:=.seq its.toArray n}) (hf:f {cls:=.type "list",data:=.seq its.toArray n} ={cls:=.type "list",data:=.seq its'.toArray n'}) (r:Vals ys its') (hz:ys.length<=sizeLine) (t:Nat) :
 Inv X pins σ (upd H p (.lst ys)) {s with heap:=s.heap.update p f,toks:=t}:=by
 have e:(s.heap.update p f).get? p=aB {cls:=.type "list",data:=.seq its'.toArray n'}:=by rw[Heap.get?_update_self f ho (by rw[hf]<;>rfl),hf]
 refine I.write (x:=p) (e:=p) (by rw[h];trivial) (.inl rfl) (λb u hb q=>(Heap.get?_update_other _ _ (fH hb)).trans q) ⟨_,e⟩ ?_;exact⟨hz,its',n',r,e⟩
noncomputable def zZ:V->V->V->Hp->(Hp->Prop)->Prop:=λo i v H Q=>∃p xs k j,o=.ref p/\i=.int k/\H p=aB (.lst xs)/\iU xs.length k=aB j/\Q (upd H p (.lst (xs.set j v)))
theorem Q5:mJ X zZ:=by
 intro pins s σ H o i v ov iv u Q I ro ri rv h;obtain⟨p,xs,k,j,rfl,rfl,hp,hj,q⟩:=h;cases ro;obtain⟨t,rfl⟩:=ri;obtain⟨its,n,r,ho,hz⟩:=I.lst hp;obtain⟨h1,h2,h3,h4⟩:=Lb hj;have hl:=r.length;have hn:=zO;have I':Inv X pins σ (upd H p (.lst (xs.set j v))) {s with heap:=s.heap.update p (Obj.mapSeq (·.setIfInBounds j u))}:=
  I.vn hp ho (Q4 its n j u) (r.set rv j) (by rw[uT];exact hz) s.toks
 by_cases h0:0<=k;have hk:k.toNat=j:=by rw[seqIndex_of h0 h4]at h1;exact nT h1
 exact PySem.W.ki_setAt ho h0 (by lia) (by rw[dU,<-hl];exact h4) (by rw[hk];exact⟨_,I',q⟩);have hk:(k+ (its.toArray.size:Int)).toNat=j:=by rw[seqIndex_neg (by lia) h3]at h1;rw[dU,<-hl];exact nT h1
 exact PySem.W.ki_setBack ho (by lia) (by rw[dU,<-hl];exact h3) (by lia) (by rw[hk];exact⟨_,I',q⟩)
theorem Q6(lo hi:Option Int)(n:Nat):(sliceBounds lo hi aC n).1=((HT.bR n 0 lo:Nat):Int)/\(sliceBounds lo hi aC n).2.1=((HT.bR n n hi:Nat):Int)/\(sliceBounds lo hi aC n).2.2=1:=by
 refine⟨?_,?_,rfl⟩;cases lo with
 |none=>simp[sliceBounds,HT.bR]
 |some i=>
  simp only[sliceBounds,HT.bR,Option.getD_none,show(1:Int)>0 by decide,cC];by_cases h:i<0;simp only[h,cC]<;>lia;simp only[h,ez]<;>lia
 cases hi with
 |none=>simp[sliceBounds,HT.bR]
 |some i=>
  simp only[sliceBounds,HT.bR,Option.getD_none,show(1:Int)>0 by decide,cC];by_cases h:i<0;simp only[h,cC]<;>lia;simp only[h,ez]<;>lia
theorem Q7(its:List aa)(lo hi:Option Int):slicePick its.toArray lo hi aC=((its.drop (HT.bR its.length 0 lo)).take (HT.bR its.length its.length hi-HT.bR its.length 0 lo)).toArray:=by obtain⟨h1,h2,h3⟩:=Q6 lo hi its.toArray.size;unfold slicePick;rw[h1,h2,h3];simp only[sliceRange_one,pick_run,dU]<;>rfl
noncomputable def z0(K:aK):V->Option Int->Option Int->Hp->VK->Prop:=λx lo hi H Q=>∃a xs,x=.ref a/\dh K H a xs/\∀p,H p=aC->Q (.ref p) (upd H p (.lst (kc xs lo hi)))
theorem Q8:qP X (z0 X.K):=by intro pins s σ H x v vl vu lo hi sl Q I rx hs pl pu h;obtain⟨a,xs,rfl,hx,q⟩:=h;cases rx;obtain⟨its,r,ht,hz⟩:=I.list hx;have hlen:=r.length;refine⟨"list",_,slot_list_getitem.lookup,ht.isList.typeIs,?_⟩;refine wpAny_getItem_list_slice ht.isList hs pl pu .none (by simp) ?_ (by rw[dU]<;>lia);rw[Q7,<-hlen];refine⟨.ref s.heap.objs.size,_,I.laid (t':=s.toks) (o:=.lst (kc xs lo hi)) (λb ob q=>di _ q) (bf _) ?_,rfl,q _ (I.hok.fresh (bf _))⟩;exact⟨iw (La xs lo hi) hz,_,0,(r.drop (HT.bR xs.length 0 lo)).take (HT.bR xs.length xs.length hi-HT.bR xs.length 0 lo),iT _ rfl⟩
theorem Q9:cG X (.builtin "len") (λxs H Q=>∃p ys,xs=[.ref p]/\(dh X.K H p ys\/cN X.K H p ys)/\Q (.int ys.length) H):=by
 intro pins s σ H xs us Q I r h;obtain⟨p,ys,rfl,hq,q⟩:=h;obtain⟨u,rfl,rx⟩:=vals1 r;cases rx;have hn:=zO;rcases hq with hq|hq
 obtain⟨its,r',pl,hz⟩:=I.list hq;have hlen:=r'.length;exact Calls.call_len_list pl.isList (by simp only[dU]<;>lia) ⟨.int ys.length,H,I.tok _,⟨s.toks+1,by rw[dU,hlen]⟩,q⟩;obtain⟨its,r',pl,hz⟩:=I.tuple hq;have hlen:=r'.length;exact len_tuple pl (by simp only[dU]<;>lia) ⟨.int ys.length,H,I.tok _,⟨s.toks+1,by rw[dU,hlen]⟩,q⟩
theorem cG.or{f:aa}{r r':List V->Hp->VK->Prop}(h:cG X f r)(h':cG X f r'):cG X f (λxs H Q=>r xs H Q\/r' xs H Q):=by
 intro pins s σ H xs us Q I rs q;rcases q with q|q
 exact h pins s σ H xs us Q I rs q;exact h' pins s σ H xs us Q I rs q
theorem Ra:cG X (.type "list") (λxs H Q=>∃p ys,xs=[.ref p]/\(dh X.K H p ys\/cN X.K H p ys)/\∀l,H l=aC->Q (.ref l) (upd H l (.lst ys))):=by
 intro pins s σ H xs us Q I r h;obtain⟨p,ys,rfl,hq,q⟩:=h;obtain⟨u,rfl,rx⟩:=vals1 r;cases rx;have fin:∀(its:List aa),Vals ys its->ys.length<=sizeLine->∀(h':az)(c':Nat),(∀b o',s.heap.get? b=aB o'->h'.get? b=aB o')->
  h'.get? s.heap.objs.size=aB {cls:=.type "list",dict:=aC,data:=.seq its.toArray c',slots:=#[]}->EP X pins σ Q (.ref s.heap.objs.size) {s with heap:=h'}:=λits r' hz h' c' kp e=>
  ⟨.ref s.heap.objs.size,_,I.laid (t':=s.toks) kp (bf _) (show br X.prog X.w _ h' _ (.lst ys)from⟨hz,its,c',r',e⟩),rfl,q _ (I.hok.fresh (bf _))⟩
 rcases hq with hq|hq;obtain⟨its,r',pl,hz⟩:=I.list hq;have hlen:=r'.length;obtain⟨o,ho,hc,n,hd⟩:=pl.isList;exact call_list_seq p (.inl rfl) ho hc hd (λh' c' kp e=>fin its r' hz h' c' kp e) (by simp only[dU]<;>lia);obtain⟨its,r',pl,hz⟩:=I.tuple hq;have hlen:=r'.length;obtain⟨o,ho,hc,n,hd⟩:=pl;exact call_list_seq p (.inr rfl) ho hc hd (λh' c' kp e=>fin its r' hz h' c' kp e) (by simp only[dU]<;>lia)
theorem Rb:cG X (.type "tuple") (λxs H Q=>∃p ys,xs=[.ref p]/\((dh X.K H p ys/\∀l,H l=aC->Q (.ref l) (upd H l (.tup ys)))\/(cN X.K H p ys/\Q (.ref p) H))):=by
 intro pins s σ H xs us Q I r h;obtain⟨p,ys,rfl,h⟩:=h;obtain⟨u,rfl,rx⟩:=vals1 r;cases rx;rcases h with⟨hq,q⟩|⟨hq,q⟩
 obtain⟨its,r',pl,hz⟩:=I.list hq;have hlen:=r'.length;refine call_tuple_list pl.isList (λh' kp=>?_) (by simp only[dU]<;>lia);have I1:Inv X pins σ H {s with heap:=h'}:=I.kept (t':=s.toks) kp;have I2:Inv X pins σ (upd H h'.objs.size (.tup ys)) {s with heap:=h'.push {cls:=.type "tuple",data:=.seq its.toArray}}:=
  I1.laid (t':=s.toks) (λb o e=>di _ e) (bf _) (show br X.prog X.w _ _ _ (.tup ys)from⟨hz,its,r',kZ.new _ _⟩)
 exact⟨.ref h'.objs.size,_,I2,rfl,q _ (I1.hok.fresh (bf _))⟩;obtain⟨its,r',pl,hz⟩:=I.tuple hq;exact call_tuple_same pl ⟨.ref p,H,I,rfl,q⟩
noncomputable def Le(K:aK)(T:String)(x:V)(H:Hp):Prop:=match x with
 |.str _=>T = "str"
 |.int _=>T = "int"
 |.ref p=>(T = "list"/\∃xs,dh K H p xs)\/(T = "tuple"/\∃xs,cN K H p xs)\/
  (T = "dict"/\((∃kvs,H p=aB (.dK kvs))\/∃kvs,H p=aB (.dT kvs)))\/(T = "set"/\∃S n,H p=aB (.set S n))
 |_=>False
theorem Rc{pins:List (ah×Obj)}{σ:St}{H:Hp}{s:af}{T:String}{x:V}{v:aa}(I:Inv X pins σ H s)(r:RelV x v)(ty:Le X.K T x H) :
 s.TypeIs v T/\∀a,v=.ref a->∃ob,s.heap.get? a=aB ob/\ob.dict=aC:=by
 cases x with
 |str z=>
  obtain⟨t,rfl⟩:=r;cases(show T = "str"from ty);exact⟨typeIs_str s z t,λ_ e=>nomatch e⟩
 |int i=>
  obtain⟨t,rfl⟩:=r;cases(show T = "int"from ty);exact⟨typeIs_int s i t,λ_ e=>nomatch e⟩
 |ref p=>
  cases r;rcases ty with⟨rfl,xs,hq⟩|⟨rfl,xs,hq⟩|⟨rfl,hk⟩|⟨rfl,S,n,hk⟩
  obtain⟨its,_,pl,_⟩:=I.list hq;refine⟨pl.isList.typeIs,λa e=>?_⟩;cases e;obtain⟨o,n,e,c,hd,_⟩:=pl;exact⟨o,e,hd⟩;obtain⟨its,_,⟨o,h1,h2,_,h3⟩,_⟩:=I.nV hq;refine⟨⟨o,h1,h2⟩,λa e=>?_⟩;cases e;exact⟨o,h1,h3⟩;have z:∃o,s.heap.get? p=aB o/\o.ExactDict:=by rcases hk with⟨kvs,hk⟩|⟨kvs,hk⟩;obtain⟨_,_,_,_,o,_,_,e,ex,_⟩:=I.hok p _ hk;exact⟨o,e,ex⟩;obtain⟨_,_,_,_,o,_,_,e,ex,_⟩:=I.hok p _ hk;exact⟨o,e,ex⟩
  obtain⟨o,e,ex⟩:=z;refine⟨⟨o,e,ex.1⟩,λa e2=>?_⟩;cases e2;exact⟨o,e,ex.2.1⟩;obtain⟨o,_,_,_,e,ex,_⟩:=I.hok p _ hk;refine⟨⟨o,e,ex.1⟩,λa e2=>?_⟩;cases e2;exact⟨o,e,ex.2.1⟩
 |_=>exact False.elim ty
noncomputable def Rf(K:aK)(T:String)(r:V->List V->Hp->VK->Prop)(to:TE)(t:TA):TE:=λσ H Q=>to σ H λx H1=>Le K T x H1/\t σ H1 λxs H2=>r x xs H2 Q
variable{o e:ao}{es:List ao}{to:TE}{t:TA}{name:Str}{apos cpos:Pos}{T id:String}{r:V->List V->Hp->VK->Prop}
theorem tF(pa:PlainAttrs T)(slot:Slot T name id)(hty:typeOf (.builtin id)=pure (.type "method_descriptor"))(hm:Ld X id r)(ho:PE X o to)(ha:PA X (e::es) t)
 (hbase:autoParam (attributeBase o name X.env (eval o X.env)=eval o X.env) L2.aR._auto_1)
 (hfew:autoParam (((backTo cpos (starEach (e::es) X.env)).all (λx=>!x.1)&& (backToKw cpos (keywordEach [] X.env)).all (λx=>x.1.isSome)
   && decide ((e::es).length+ ([]:List Keyword).length+ (if([]:List Keyword).isEmpty then 0 else 1)<30))=true) L2.aR._auto_1)
 (hline:autoParam ((apos.endLine==cpos.line)=true) L2.aR._auto_1) (hs:autoParam (starEach (e::es) X.env=(false,eval e X.env)::starEach es X.env) L2.aR._auto_1) (hplain:autoParam ((backTo cpos (starEach es X.env)).any (·.1)=false) L2.aR._auto_1) :
 PE X (.Call (.Attribute o name apos) (e::es) [] cpos) (Rf X.K T r to t):=by
 intro pins s σ H Q I h;refine wpAny_Call_method_late hbase hfew hline rfl (bg (ho pins s σ H _ I h) λv s1 z9=>z9.el λx H1 I1 r1 b9=>?_);obtain⟨ty,q1⟩:=b9;obtain⟨h1,h2⟩:=Rc I1 r1 ty;refine⟨T,id,pa,slot,hty,h1,h2,?_⟩;have hA:=ha cpos pins s1 σ H1 _ I1 q1;rw[hs]at hA ⊢;refine Calls.callWith_builtin (by show(false|| (backTo cpos (starEach es X.env)).any (·.1))=false;rw[hplain]<;>rfl) (Calls.evalArgs_plain ?_);exact bg hA λus s2 z9=>z9.el λvs H2 I2 r2 q2=>hm pins s2 σ H2 x vs v us Q I2 r1 r2 q2
/- xs.append(e),list.index on a Aa tuple .. are Ld facts of 06m -/
end
noncomputable def F0(X:Cx)(id:String)(r:V->List V->Hp->VK->Prop):Prop:=
 ∀(pins:List (ah×Obj))(s:af)(σ:St)(H:Hp)(x:V)(xs:List V)(v:aa)(us:List aa)(Q:VK),Inv X pins σ H s->RelV x v->Vals xs us->r x xs H Q->
  wpAny (model X.prog X.w) X.A (call (.builtin id) (v::us)) (EP X pins σ Q) X.xe s
theorem Vals.one:∀{x:V} {us:List aa},Vals [x] us->∃u,us=[u]/\RelV x u|_,_,.cons r .nil=>⟨_,rfl,r⟩
theorem Vals.rep{xs:List V}{us:List aa}(h:Vals xs us):∀k:Nat,Vals (bK k xs).flatten (bK k us).flatten
 |0=>.nil
 |k+1=>by
  rw[qp,qp,sQ,sQ];exact Vals.append h (Vals.rep h k)
theorem Lg(its:List aa):∀(k:Nat) (acc:List aa),
 List.foldl (λx1 x2=>x1++x2) acc.toArray (bK k its.toArray)=(acc++(bK k its).flatten).toArray
 |0,acc=>by simp
 |k+1,acc=>by
  have e:acc.toArray++its.toArray=(acc++its).toArray:=by simp
  have e2:(acc++its)++(bK k its).flatten=acc++(bK (k+1) its).flatten:=by rw[qp,sQ,yQ]
  rw[<-e2,<-Lg its k (acc++its),<-e,qp,kM]
section
variable{X:Cx}{pins:List (ah×Obj)}{σ:St}{H:Hp}{s:af}{l b:ah}{xs ys zs:List V}
theorem Inv.vp{its its':List aa}{n:Nat}{f:Array aa->Array aa}{t':Nat}(I:Inv X pins σ H s)(hH:H l=aB (.lst xs))
 (e:s.heap.get? l=aB {cls:=.type "list",data:=.seq its.toArray n}) (hf:f its.toArray=its'.toArray) (hv:Vals ys its') (hz:ys.length<=sizeLine) :
 Inv X pins σ (upd H l (.lst ys)) {s with heap:=s.heap.update l (Obj.mapSeq f),toks:=t'}:=by
 have q:=PySem.IsL.update e f;rw[hf]at q;refine I.write (x:=l) (e:=l) (by rw[hH];exact trivial) (.inl rfl) (λb' u hb hu=>(Heap.get?_update_other s.heap (Obj.mapSeq f) (fH hb)).trans hu) ⟨_,q⟩ ?_;exact⟨hz,its',_,hv,q⟩
theorem Inv.F1{its:List aa}{t':Nat}(I:Inv X pins σ H s)(hv:Vals ys its)(hz:ys.length<=sizeLine) :
 Inv X pins σ (upd H s.heap.objs.size (.lst ys)) {s with heap:=s.heap.push {cls:=.type "list",data:=.seq its.toArray},toks:=t'}:=
 I.laid (λ_ _ q=>di _ q) (bf _) ⟨hz,its,0,hv,iT _ rfl⟩
theorem Inv.fresh(I:Inv X pins σ H s):H s.heap.objs.size=aC:=I.hok.fresh (bf _)
theorem Inv.fY(I:Inv X pins σ H s)(hH:H l=aB (.lst xs)):xs.length<=sizeLine/\∃(its:List aa) (n:Nat),Vals xs its/\xs.length=its.length/\s.heap.get? l=aB {cls:=.type "list",data:=.seq its.toArray n}:=by obtain⟨z,its,n,r,e⟩:=I.hok l _ hH;exact⟨z,its,n,r,r.length,e⟩
theorem Lh{n:Nat}(h:n<=sizeLine):Builtin.List.listTooLong n=false:=by unfold Builtin.List.listTooLong;exact jl (by lia)
end
section
variable{X:Cx}
noncomputable def Rg:V->List V->Hp->VK->Prop:=λx vs H Q=>∃l xs y,x=.ref l/\vs=[y]/\H l=aB (.lst xs)/\xs.length<sizeLine/\Q .aR (upd H l (.lst (xs++[y])))
theorem F2:F0 X "list.append" Rg:=by intro pins s σ H x vs v us Q I rx rv h;obtain⟨l,xs,y,rfl,rfl,hH,hz,q⟩:=h;cases rx;obtain⟨u,rfl,ru⟩:=rv.one;obtain⟨z,its,n,r,hl,e⟩:=I.fY hH;refine ql F.slot_list_append ⟨_,e,rfl⟩ F.entry_list_append (F.args_list_append_2 _ _) (PySem.list_append l its.toArray n u (by rw[dU];lia)) ⟨e,?_⟩;refine⟨.aR,_,I.vp (its':=its++[u]) hH e (by simp) (r.append (.cons ru .nil)) ?_,rfl,q⟩;rw[fE,yO];lia
noncomputable def Rh:V->List V->Hp->VK->Prop:=λx vs H Q=>∃l b xs zs,x=.ref l/\vs=[.ref b]/\H l=aB (.lst xs)/\H b=aB (.lst zs)/\xs.length+zs.length<=sizeLine/\Q .aR (upd H l (.lst (xs++zs)))
theorem zvm:F0 X "list.extend" Rh:=by
 intro pins s σ H x vs v us Q I rx rv h;obtain⟨l,b,xs,zs,rfl,rfl,hH,hB,hz,q⟩:=h;cases rx;obtain⟨u,rfl,ru⟩:=rv.one;cases ru;obtain⟨z,its,n,r,hl,e⟩:=I.fY hH;obtain⟨z2,its2,n2,r2,hl2,e2⟩:=I.fY hB;have hsz:its.toArray.size+its2.toArray.size<=sizeLine:=by rw[dU,dU];lia
 have nY:¬(!its.toArray.isEmpty&&Builtin.List.listTooLong (its.toArray.size+its2.toArray.size))=true:=by rw[Lh hsz,Bool.and_false];exact uW
 refine ql F.slot_list_extend ⟨_,e,rfl⟩ F.entry_list_extend (F.args_list_extend_2 _ _)
  (AutoSeq1.list_extend_list_list_0 l its.toArray n b its2.toArray n2 nY (by rw[dU];lia) (by lia)) ⟨e,e2,?_⟩
 refine⟨.aR,_,I.vp (its':=its++its2) hH e (by simp) (r.append r2) ?_,rfl,q⟩;rw[fE];lia
noncomputable def Ab:R2:=λx y H Q=>∃l b xs zs,x=.ref l/\y=.ref b/\H l=aB (.lst xs)/\H b=aB (.lst zs)/\xs.length+zs.length<=sizeLine/\∀p,H p=aC->Q (.ref p) (upd H p (.lst (xs++zs)))
theorem Ri:dH X (binaryOp .Add) Ab:=by
 intro pins s σ H x y v u Q I rx ry h;obtain⟨l,b,xs,zs,rfl,rfl,hH,hB,hz,q⟩:=h;cases rx;cases ry;obtain⟨z,its,n,r,hl,e⟩:=I.fY hH;obtain⟨z2,its2,n2,r2,hl2,e2⟩:=I.fY hB;refine PySem.P.add_list e e2 ?_ (by rw[dU,dU];lia);have ea:its.toArray++its2.toArray=(its++its2).toArray:=by simp
 rw[ea];exact⟨.ref _,_,I.F1 (t':=s.toks) (r.append r2) (by rw[fE];lia),rfl,q _ I.fresh⟩
theorem Li{α:Type}(xs:List α)(k:Nat):(bK k xs).flatten.length=k*xs.length:=by
 induction k with|zero=>simp|succ k ih=>rw[qp,sQ,fE,ih,Nat.succ_mul,Nat.add_comm]
end
end L2
namespace Lj
open PySem PySem.W PySem.Calls PyProof.Rows
theorem Rj{P:Params}{h:az}:∀(ns:List Int) (vs:List aa),WellAll P h vs (ns.map WData.int)->IntsAre vs ns:=by
 intro ns;induction ns with
 |nil=>
  intro vs w;rw[uV]at w;cases w;exact .nil
 |cons n ns ih=>
  intro vs w;rw[fF]at w;cases w with
  |cons a b=>
   cases a;exact .cons _ _ (ih _ b)
theorem Rk{l:OpenLaw}{n:Nat}(hn:l.most=aB n){P:Params}{h:az}{args:List WData}{vals:List aa}
 (hpre:l.row.toRowW.claim.pre args) (hwl:WellAll P h vals args) :
 ∃a vs ns,vals=[Value.ref a]/\args=[WData.list (ns.map WData.int)]/\h.get? a=aB {cls:=.type "list",data:=.seq vs.toArray}/\IntsAre vs ns/\ns.length<=n:=by
 have hsh:WShape.hasAll [] args [.list .int]=true:=(pre_splitW hpre).1;have hc:l.pre.holds [] {args:=args}=true:=(pre_splitW hpre).2;obtain⟨d,r,rfl,h1,h2⟩:=hasAllW_cons hsh;obtain rfl:=hasAllW_nil h2;obtain⟨xs,rfl,h3⟩:=hasW_list h1;obtain⟨ns,rfl⟩:=items_int h3;have hlen:ns.length<=n:=by
  unfold OpenLaw.pre at hc;have h4:(WTm.not (.lt (.lit (.int (n:Int))) (.len (.arg 0)))).holds [] {args:=[.list (ns.map .int)]}=true:=by have h4:=(holds_andW hc).1;rw[hn]at h4;exact h4
  have h5:=condW_of h4 (w_not (w_lt w_lit (w_len_list (w_arg rfl))));rw[bD]at h5;refine Nat.le_of_not_lt λq=>?_;have q':(n:Int)< ((ns.length:Nat):Int):=by lia
  first
   |(rw[jm q']at h5;exact absurd h5 (by decide))
   |(simp at h5;lia)
 cases hwl with
 |cons w1 w2=>
  cases w2;cases w1 with|list ho hall=>exact⟨_,_,ns,rfl,rfl,ho,Rj ns _ hall,hlen⟩
theorem Rl(l:OpenLaw)(args:List WData):l.row.toRowW.claim.post args (.bool true) args=true:=
 postW_of (r:=l.row.toRowW) (X:=(true==true))
  (show WShape.has [] (.bool true) .bool=true by first|rfl|decide|simp[WShape.has,WShape.arms,WShape.armsAll])
  (show(WTm.eq .res (.lit (.bool true))).value [] {args:=args,res:=aB (.bool true),after:=args}=aB (.bool (true==true))from w_eq_bool (w_res rfl) w_lit) rfl
theorem kg{l:OpenLaw}{n:Nat}{q:ai}{loose:List Str}{XP:(Str->Option aa)->az->Prop}{YP:aj->az->Prop}{d:DefRec}
 (hn:l.most=aB n) (hdf:d.params.defaults=[])
 (call:∀(w:aj)(s₀ s₁:af)(mg mb:Str->Option aa)(fa:ah)(o:Obj)(pm cd doc:aa)(a:ah)(vs:List aa)(ns:List Int),
   Ground q loose [] XP w s₀ mg mb s₁.heap->YP w s₁.heap->
   s₁.heap.get? fa=aB o->o.data=.func (docDef d.name d.params d.body d.scope pm cd doc)->s₁.heap.CodeRec cd d.name->mg d.name=aB (.ref fa)->
   s₁.heap.get? a=aB {cls:=.type "list",data:=.seq vs.toArray}->IntsAre vs ns->ns.length<=n->s₁.gens = #[]->
   codeAny (model l.prog w) callerA (.call (.ref fa) ⟨[.ref a],[]⟩) (λr s'=>r=.ok (.ret (.bool true))/\OldK s₁.heap s'.heap/\s'.os=s₁.os/\AllBare s'.gens) s₁) :
 WalkO q loose XP YP l.row.toRowW d [] (λf vs=>PySem.call f vs):=by
 intro w s₀ s₁ mg mb G Y fa o pm cd doc dV kV ho hd hcd hD hmg hg args vals as hpre hlay hrd hwl hlo;obtain rfl:dV=.none:=Dflts.none hD hdf;obtain rfl:kV=.none:=Dflts.noKw hD;obtain⟨a,vs,ns,rfl,rfl,hobj,hints,hlen⟩:=Rk hn hpre hwl;refine enter_call (codeAny_mono (call w s₀ s₁ mg mb fa o pm cd doc a vs ns G Y ho (fd_plain hd) hcd hmg hobj hints hlen hg) λr s' hq=>?_);obtain⟨rfl,h2,h3,h4⟩:=hq;exact⟨.inl ⟨.bool true,.bool true,[],rfl,λ_=>rfl,.bool true,Rl l _,λ_=>⟨List.Pairwise.nil,λ_ hm=>(nomatch hm)⟩⟩,h2,h3,h4⟩
end Lj
namespace L2
open PySem PySem.Spec PyProof.Rows
theorem Lk:∀{vs:List aa} {ns:List Int},IntsAre vs ns->Vals (ns.map V.int) vs|_,_,.nil=>.nil|_,_,.cons n t h=>.cons ⟨t,rfl⟩ (Lk h)
noncomputable def vq(H:Hp):Prop:=∀b,H b=aC\/∃o xs,H b=aB (.bC o (.lst xs))
theorem Rm{P:ai}{w:aj}{K:aK}{mg mb:Str->Option aa}{CX:pO}{k:Nat}{fa a:ah}{fd:au}{x:Str}{sp:Sp}{s₁:af}{vs:List aa}{ns:List Int}
 (KX:K.In s₁.heap) (hns:s₁.heap.Ns mainGlobals mg) (hb:s₁.heap.Ns builtinsNs mb) (F3:∀x:Str,x≠"__name__"->mb x=bootBuiltins x) (hlim:s₁.heap.NoLimit) (hg:s₁.gens = #[])
 (ha:s₁.heap.get? a=aB {cls:=.type "list",data:=.seq vs.toArray}) (hi:IntsAre vs ns) (hl:ns.length<=sizeLine) (hr:dB k callerA)
 (F:∀base:az,K.In base->base.Ns mainGlobals mg->fK P w K mg base CX k fa fd [x] sp) (hbind:∀(s:af)(u:aa),BindsTo s fd ⟨[u],[]⟩ [(x,u)])
 (pP:∀H:Hp,vq H->dh K H a (ns.map V.int)->sp [.ref a] H (λv _=>v=.bl true) λ_ _ _=>False)
 (F4:∀H e s',CX [] H s₁ (λ_ _ _=>False) e s'->False) :
 codeAny (model P w) callerA (.call (.ref fa) ⟨[.ref a],[]⟩) (λr s'=>r=.ok (.ret (.bool true))/\OldK s₁.heap s'.heap/\s'.os=s₁.os/\AllBare s'.gens) s₁:=by
 have rv:=Lk hi;have F5:=hi.length;have core:∀H:Hp,vq H->dh K H a (ns.map V.int)->fm P w H s₁.heap->(∀b,H b≠aC->b=a)->(H a≠aC->K.lookup a=aC)->
  codeAny (model P w) callerA (.call (.ref fa) ⟨[.ref a],[]⟩) (λr s'=>r=.ok (.ret (.bool true))/\OldK s₁.heap s'.heap/\s'.os=s₁.os/\AllBare s'.gens) s₁:=by
  intro H hO hS hok hA hK;have base_of:∀{b:ah}{o:Obj},s₁.heap.get? b=aB o->H b=aC->(jH s₁.heap H).get? b=aB o:=λe n=>O9 e n;have zS:∀{b:ah}{o:Obj}{es:Array DictEntry}{ep:Nat},s₁.heap.get? b=aB o->o.data=.dict es ep->H b=aC:=λ{b o es ep} e d=>by
   cases q:H b with
   |none=>rfl
   |some u=>
    have e':b=a:=hA b (by rw[q];simp);subst e';rw[ha]at e;cases e;have d':Data.seq vs.toArray _=Data.dict es ep:=d;cases d'
  have Dn:∀{b:ah}{m:Str->Option aa},s₁.heap.Ns b m->(jH s₁.heap H).Ns b m:=λ{b m}⟨o,es,ep,e,d,r⟩=>⟨o,es,ep,base_of e (zS e d),d,r⟩
  have Ll:K.In (jH s₁.heap H):=λb o e=>base_of (KX b o e) (by
   cases q:H b with
   |none=>rfl
   |some u=>
    have e':b=a:=hA b (by rw[q];simp);subst e';rw[hK (by rw[q];simp)]at e;cases e)
  have hM:Mod K mg (jH s₁.heap H):=⟨Ll,Dn hns,⟨mb,Dn hb,F3⟩,let⟨mc,h1,h2⟩:=hlim;⟨mc,Dn h1,h2⟩⟩
  have e0:qL P w K mg (jH s₁.heap H) callerA [] s₁ H:=⟨rfl,hM,λb o e=>Pa e,Nat.le_of_eq (O8 _ _),trivial,λb hb=>absurd (show b∈([]:List ah)from hb) (by simp),hok,.of_eq hg⟩
  refine codeAny_mono ((F _ Ll (Dn hns)).run callerA [] s₁ H ⟨[.ref a],[]⟩ [.ref a] [.ref a] _ _ hr e0 (hbind s₁ (.ref a)) (.cons rfl .nil) (pP H hO hS)) λr s' h=>?_;cases r with
  |error e=>exact(F4 H e s' h).elim
  |ok fl=>
   cases fl with
   |next=>exact False.elim h
   |brk=>exact False.elim h
   |cont=>exact False.elim h
   |ret u=>
    obtain⟨v,H',os,bare,un,F6,r',q⟩:=h;have q':v=.bl true:=q;subst q';obtain rfl:u=Value.bool true:=r';refine⟨rfl,OldK.of_keep λb o e=>?_,os,bare⟩;cases q:H b with
    |none=>exact un.keep b o e q (by intro z;exact absurd (show b∈([]:List ah)from z) (by simp)) (by simp)
    |some u=>
     rcases hO b with z|⟨ob,xs,z⟩;rw[q]at z;cases z;have z2:=un.iD b ob _ z;obtain⟨e1,_⟩:=hok b _ z;obtain⟨e2,_⟩:=F6 b _ z2;rw[e]at e1;cases e1;exact e2
 cases hk:K.lookup a with
 |some o=>
  have e:=KX a o hk;rw[ha]at e;cases e;refine core (λ_=>aC) (λ_=>.inl rfl) (.inr ⟨_,vs.toArray,_,hk,rfl,rfl,rfl,by rw[dU,F5];exact hl,by simpa using rv⟩) (λb u z=>by have z':(aC:Option HO)=aB u:=z;cases z') (λb z=>absurd rfl z) λz=>absurd rfl z
 |none=>
  refine core (λb=>if b=a then aB (.bC {cls:=.type "list",data:=.seq vs.toArray} (.lst (ns.map V.int)))else aC) (λb=>?_) (.inl (.inr ⟨{cls:=.type "list",data:=.seq vs.toArray},if_pos rfl⟩)) (λb u z=>?_) (λb z=>?_) λ_=>hk;by_cases hb:b=a;exact .inr ⟨_,_,if_pos hb⟩;exact .inl (if_neg hb);by_cases hb:b=a;have z':=(if_pos hb).symm.trans z;cases z';subst hb;exact⟨ha,by rw[bD];exact hl,vs,_,rv,ha⟩;have z':=(if_neg hb).symm.trans z;cases z';by_cases hb:b=a;exact hb;exact absurd (if_neg hb) z
theorem Rn{l:PySem.W.OpenLaw}{n k:Nat}{q:ai}{loose:List Str}{XP:(Str->Option aa)->az->Prop}{YP:aj->az->Prop}{d:DefRec}{K:Params->aK}{CX:aj->pO}{sp:aj->Sp}{x:Str}
 (hn:l.most=aB n) (hn2:n<=sizeLine) (hdf:d.params.defaults=[]) (hr:dB k callerA)
 (hY:∀(w:aj)(h:az),YP w h->(K w.params).In h)
 (F:∀(w:aj)(mg:Str->Option aa)(fa:ah)(h:az),(K w.params).In h->h.Ns mainGlobals mg->mg d.name=aB (.ref fa)->
   ∃fd:au,(∀(s:af)(u:aa),BindsTo s fd ⟨[u],[]⟩ [(x,u)])/\
    ∀base:az,(K w.params).In base->base.Ns mainGlobals mg->fK l.prog w (K w.params) mg base (CX w) k fa fd [x] (sp w))
 (pP:∀(w:aj)(H:Hp)(a:ah)(ns:List Int),ns.length<=n->vq H->dh (K w.params) H a (ns.map V.int)->sp w [.ref a] H (λv _=>v=.bl true) λ_ _ _=>False)
 (F4:∀(w:aj)(H:Hp)(s:af)(e:aa)(s':af),CX w [] H s (λ_ _ _=>False) e s'->False) :
 PySem.W.WalkO q loose XP YP l.row.toRowW d [] (λf vs=>PySem.call f vs):=by
 refine Lj.kg hn hdf λw s₀ s₁ mg mb fa o pm cd doc a vs ns G Y ho hd hcd hmg hobj hints hlen hg=>?_;have KX:=hY w _ Y;obtain⟨fd,hb,hF⟩:=F w mg fa _ KX G.T.g hmg;exact Rm KX G.T.g G.T.b G.T.builtins G.T.nolimit hg hobj hints (iw hlen hn2) hr hF hb (λH hO hS=>pP w H a ns hlen hO hS) λH e s'=>F4 w H s₁ e s'
noncomputable def Ro(s:aq):Arguments:=match s with|.FunctionDef _ a _ _ _ _ _ _ _ _=>a|_=>{posonlyargs:=[],args:=[],vararg:=aC,kwonlyargs:=[],kw_defaults:=[],kwarg:=aC,defaults:=[]}
noncomputable def Ac(s:aq):List aq:=match s with|.FunctionDef _ _ b _ _ _ _ _ _ _=>b|_=>[]
noncomputable def jI(s:aq):ay:=match s with|.FunctionDef _ _ _ _ _ _ sc _ _ _=>sc|_=>{kind:=.function,names:=[],isGenerator:=false,isCoroutine:=false}
noncomputable abbrev lS:pO:=λ_ _ _ _ _ _=>False
noncomputable abbrev E0:XK:=λ_ _ _=>False
theorem nZ{X:Cx}:Dm lS X E0:=λ_ _ _ _ _ _ _ h=>h.elim
theorem Lm{n:Nat}(h:n<=1000):n<sizeLine:=C1 h (by decide)
noncomputable def jJ(cells:List (Str×ah)):List (Str×NameKind)->List (Str×ah)->List (Str×ah)|[],cs=>cs|(n,k)::r,cs=>jJ cells r (if k == .free then(match cells.lookup n with|some c=>(n,c)::cs|none=>cs)else cs)
theorem Dp{scope:ay}{env:Env}(hf:∀y∈scope.names,y.2=.free->∃c,env.cells.lookup y.1=aB c):closureFor scope env=pure (jJ env.cells scope.names []):=by
 have go:∀(l:List (Str×NameKind))(cs:List (Str×ah)),(∀y∈l,y.2=.free->∃c,env.cells.lookup y.1=aB c)->
  (forIn l cs λ(x:Str×NameKind)(r:List (Str×ah))=>(match x with
    |(name,kind)=>if(kind==NameKind.free)=true then(do let a <-cellOf env name;pure (ForInStep.yield ((name,a)::r)))else pure (ForInStep.yield r):Sem (ForInStep (List (Str×ah)))))=(pure (jJ env.cells l cs):Sem (List (Str×ah))):=by
  intro l;induction l with
  |nil=>intro cs _;rfl
  |cons x r ih=>
   intro cs h;obtain⟨n,k⟩:=x;rw[yR];by_cases hk:(k==NameKind.free)=true;have hk':k=.free:=by simpa using hk
   obtain⟨c,hc⟩:=h (n,k) eZ hk';have hc':env.cells.lookup n=aB c:=hc;simp only[hk,cC,cellOf,hc',jJ];exact ih _ λy hy=>h y (eY _ hy);have hk':(k==NameKind.free)=false:=by simpa using hk
   simp only[hk',fG,ez,jJ];exact ih _ λy hy=>h y (eY _ hy)
 have e:=go scope.names [] hf;unfold closureFor;refine Eq.trans (mD (λt=>t >>= λcs=>pure cs) e) ?_;rfl
theorem Dq{cells:List (Str×ah)}:∀(l:List (Str×NameKind)) (cs:List (Str×ah)),(∀x c,cs.lookup x=aB c->cells.lookup x=aB c)->∀x c,(jJ cells l cs).lookup x=aB c->cells.lookup x=aB c
 |[],cs,h=>h
 |(n,k)::r,cs,h=>Dq r _ λx c e=>by
  by_cases hk:(k==NameKind.free)=true;simp only[hk,cC]at e;cases hc:cells.lookup n with
  |none=>rw[hc]at e;exact h x c e
  |some d=>
   rw[hc]at e;simp only[gA]at e;by_cases hx:(x==n)=true;simp only[hx]at e;cases e;rw[show x=n by simpa using hx];exact hc;have hx':(x==n)=false:=by simpa using hx
   simp only[hx']at e;exact h x c e
  have hk':(k==NameKind.free)=false:=by simpa using hk
  simp only[hk',fG,ez]at e;exact h x c e
theorem Ln{cells:List (Str×ah)}{x:Str}{c:ah}(hc:cells.lookup x=aB c):∀(l:List (Str×NameKind)) (cs:List (Str×ah)),cs.lookup x=aB c->(jJ cells l cs).lookup x=aB c
 |[],cs,h=>h
 |(n,k)::r,cs,h=>Ln hc r _ (by
  by_cases hk:(k==NameKind.free)=true;simp only[hk,cC];cases hn:cells.lookup n with
  |none=>exact h
  |some d=>
   simp only[gA];by_cases hx:(x==n)=true;have:x=n:=by simpa using hx
   subst this;rw[hc]at hn;cases hn;simp;have hx':(x==n)=false:=by simpa using hx
   simp only[hx'];exact h
  have hk':(k==NameKind.free)=false:=by simpa using hk
  simp only[hk',fG,ez];exact h)
theorem F7{cells:List (Str×ah)}{x:Str}{c:ah}(hc:cells.lookup x=aB c):∀(l:List (Str×NameKind)) (cs:List (Str×ah)),(x,NameKind.free)∈l->(jJ cells l cs).lookup x=aB c
 |[],cs,h=>by cases h
 |(n,k)::r,cs,h=>by
  rcases fT.mp h with e|e;cases e;refine Ln hc r _ ?_;rw[hc];simp[gA];exact F7 hc r _ e
theorem F8{x:Str}:∀(l:List (Str×NameKind)) (a:Nat) (acc:List (Str×ah)),(x,NameKind.cell)∉l->(cellsFrom a l acc).lookup x=acc.lookup x
 |[],_,_,_=>rfl
 |(n,k)::r,a,acc,h=>by
  unfold cellsFrom;have hr:(x,NameKind.cell)∉r:=λz=>h (eY _ z);split;rename_i hk;have hk:k=.cell:=by simpa using hk
  rw[F8 r _ _ hr,gA];have:(x==n)=false:=by rw[CG];rintro rfl;exact h (by rw[hk];exact eZ)
  rw[this];exact F8 r _ _ hr
theorem Dr{x:Str}{c:ah}:∀(l:List (Str×NameKind)) (a:Nat) (acc:List (Str×ah)),(cellsFrom a l acc).lookup x=aB c->acc.lookup x=aB c\/a<=c
 |[],_,_,h=>.inl h
 |(n,k)::r,a,acc,h=>by
  unfold cellsFrom at h;split at h;rcases Dr r _ _ h with h|h
  rw[gA]at h;split at h;cases h;exact .inr (bf _);exact .inl h;exact .inr (vec h);exact Dr r _ _ h
theorem Ds{x:Str}:∀(l:List (Str×NameKind)) (a:Nat) (acc:List (Str×ah)),(∃c,acc.lookup x=aB c)->∃c,(cellsFrom a l acc).lookup x=aB c
 |[],_,_,h=>h
 |(n,k)::r,a,acc,h=>by
  unfold cellsFrom;split;refine Ds r _ _ ?_;rw[gA];split;exact⟨_,rfl⟩;exact h;exact Ds r _ _ h
theorem F9{x:Str}:∀(l:List (Str×NameKind)) (a:Nat) (acc:List (Str×ah)),(x,NameKind.cell)∈l->∃c,(cellsFrom a l acc).lookup x=aB c
 |[],_,_,h=>by cases h
 |(n,k)::r,a,acc,h=>by
  unfold cellsFrom;rcases fT.mp h with e|e
  cases e;rw[if_pos (by rfl)];exact Ds r _ _ ⟨a,by simp[gA]⟩;split;exact F9 r _ _ e;exact F9 r _ _ e
theorem Ga{acc:List (Str×ah)}:∀(l:List (Str×NameKind)) (a:Nat) (acc:List (Str×ah)),(∀x y c,acc.lookup x=aB c->acc.lookup y=aB c->x=y)->(∀x c,acc.lookup x=aB c->c<a)->
 ∀x y c,(cellsFrom a l acc).lookup x=aB c->(cellsFrom a l acc).lookup y=aB c->x=y
 |[],_,_,h,_=>h
 |(n,k)::r,a,acc,h,hl=>by
  unfold cellsFrom;split;refine Ga (acc:=acc) r _ _ (λx y c e1 e2=>?_) λx c e=>?_;rw[gA]at e1 e2;cases b1:x==n<;>cases b2:y==n<;>simp only[b1,b2]at e1 e2;exact h x y c e1 e2;cases e2;exact absurd (hl x _ e1) (gC _);cases e1;exact absurd (hl y _ e2) (gC _);rw[xh.mp b1,xh.mp b2];rw[gA]at e;cases b1:x==n<;>simp only[b1]at e;exact xB (hl x c e);cases e;exact fU _;exact Ga (acc:=acc) r _ _ h hl
theorem Gb{x:Str}{c:ah}:∀(l:List (Str×NameKind)) (h:az) (acc:List (Str×ah)),(cellsFrom h.objs.size l acc).lookup x=aB c->h.objs.size<=c->(∀y d,acc.lookup y=aB d->h.objs.size<=d->h.IsCell d aC)->(pushCells h l).IsCell c aC
 |[],h,acc,e,hc,ha=>ha x c e hc
 |(n,k)::r,h,acc,e,hc,ha=>by
  unfold cellsFrom at e;unfold pushCells;split at e;rename_i hk;rw[if_pos hk];by_cases z:h.objs.size+1<=c;refine Gb r (h.push {cls:=.type "cell",data:=.cell aC}) ((n,h.objs.size)::acc) (by rw[j6];exact e) (by rw[j6];exact z) λy d e1 e2=>?_;rw[j6]at e2;rw[gA]at e1;cases b1:y==n<;>simp only[b1]at e1;exact(ha y d e1 (vec e2)).keeps λb o q=>di _ q;cases e1;exact absurd e2 (Nat.not_succ_le_self _);have hce:c=h.objs.size:=Nat.le_antisymm (Nat.le_of_lt_succ (Nat.lt_of_not_le z)) hc;have:(h.push {cls:=.type "cell",data:=.cell aC}).IsCell c aC:=⟨_,by rw[hce];exact iT _ rfl,rfl⟩
  exact this.keeps λb o q=>pushCells_keeps _ _ b o q;rename_i hk;rw[if_neg hk];exact Gb r h acc e hc ha
theorem Lo{M:Model}{A:ak}{E:aa->af->Prop}{s:af}{scope:ay}{globals:ah}{cl:List (Str×ah)}{qual:Str}{env:Env}{Q:Env->af->Prop}(hcl:∀x c,cl.lookup x=aB c->c<s.heap.objs.size)
 (hQ:∀h',h'.Ns s.heap.objs.size (λ_=>aC)->(∀b o,s.heap.get? b=aB o->h'.get? b=aB o)->(∀x c,(cellsFrom (s.heap.objs.size+1) scope.names cl).lookup x=aB c->s.heap.objs.size<c->h'.IsCell c aC)->
   Q (newEnv scope s.heap.objs.size globals (cellsFrom (s.heap.objs.size+1) scope.names cl) qual aC .none (aB env) builtinsNs) {s with heap:=h'}) :
 wpAny M A (newFunctionEnv scope globals cl [] qual aC .none (aB env)) Q E s:=by
 simp only[newFunctionEnv,Option.isSome_some,cC];refine aS (wpAny_alloc ?_);refine aS (wpAny_layCells _ (λname kind cells=>by cases hkc:kind==NameKind.cell<;>simp[hkc]) _ _ _ _ ?_);have hz:({s with heap:=s.heap.push {cls:=.type "dict",data:=.dict #[]}}:af).heap.objs.size=s.heap.objs.size+1:=j6 ..;rw[hz];refine aS (bS (bS ?_));refine hQ (pushCells (s.heap.push {cls:=.type "dict",data:=.dict #[]}) scope.names) ((Heap.Ns.new s.heap (.type "dict")).keeps (pushCells_keeps _ _)) (λb o e=>pushCells_keeps _ _ b o (di _ e)) λx c e hc=>?_;refine Gb scope.names (s.heap.push {cls:=.type "dict",data:=.dict #[]}) cl (by rw[j6];exact e) (by rw[j6];exact hc) λy d e1 e2=>?_;rw[j6]at e2;exact absurd (hcl y d e1) (jG.mpr (vec e2))
theorem Lp{cells:List (Str×ah)}{x:Str}:∀(l:List (Str×NameKind)) (cs:List (Str×ah)),(x,NameKind.free)∉l->cs.lookup x=aC->(jJ cells l cs).lookup x=aC
 |[],cs,_,h=>h
 |(n,k)::r,cs,hl,h=>by
  have hr:(x,NameKind.free)∉r:=λz=>hl (eY _ z);refine Lp r _ hr ?_;by_cases hk:(k==NameKind.free)=true;simp only[hk,cC];cases cells.lookup n with
  |none=>exact h
  |some d=>
   simp only[gA];have:(x==n)=false:=by rw[CG];rintro rfl;exact hl (by rw[show k=NameKind.free by simpa using hk];exact eZ)
   simp only[this];exact h
  have hk':(k==NameKind.free)=false:=by simpa using hk
  simp only[hk',fG,ez];exact h
theorem Rq{cells:List (Str×ah)}{x:Str}{c:ah}{l:List (Str×NameKind)}(h:(x,NameKind.free)∉l):¬(jJ cells l []).lookup x=aB c:=λz=>by
 rw[Lp l [] h rfl]at z;cases z
noncomputable abbrev Cx.comp(X:Cx)(N:List Str)(scope:ay)(C:ah)(s₀:af)(H₀:Hp)(ex:List ah):Cx:=
 {X with N:=N,s₀:=s₀,H₀:=H₀,env:=compEnvC scope (cellsFrom (C+1) scope.names (jJ X.env.cells scope.names [])) C X.env,outer:=X.stack,stack:=X.stack,ex:=ex,fn:=λx=>scope.names.lookup x==aB .cell,pn:=[],xe:=λ_ _=>False}
structure aW(X:Cx)(ow fr:List Str)(ix:List Nat)(scope:ay):Prop where
 kind:scope.kind=.function
 Ad:∀y∈scope.names,y.2=.cell->scope.names.lookup y.1=aB .cell
 names:∀y∈scope.names,y.2=.local->scope.names.lookup y.1=aB .local
 own:∀x∈ow,scope.names.lookup x=aB .local\/scope.names.lookup x=aB .cell
 Ae:∀y∈scope.names,y.2=.free->scope.names.lookup y.1=aB .free
 free:∀y∈scope.names,y.2=.free->X.env.kindOf y.1=aB .cell\/X.env.kindOf y.1=aB .free
 at_:∀(k:Nat)(x:Str),fr[k]?=aB x->∃j,ix[k]?=aB j/\X.N[j]?=aB x/\scope.names.lookup x=aB .free
 len:ix.length=fr.length
noncomputable def ju(ow fr:List Str)(ix:List Nat)(σ:St):St:=ow.map (λ_=>aC)++ix.map λj=>(σ[j]?).join
theorem Lq{x:Str}{k:NameKind}:∀{l:List (Str×NameKind)},l.lookup x=aB k->(x,k)∈l
 |[],h=>by cases h
 |(n,j)::r,h=>by
  simp only[gA]at h;by_cases hx:(x==n)=true;simp only[hx]at h;cases h;rw[show x=n by simpa using hx];exact eZ;have hx':(x==n)=false:=by simpa using hx
  simp only[hx']at h;exact eY _ (Lq h)
theorem Gd{env:Env}:∀{l:List (Str×NameKind)} {x:Str} {k:NameKind},
 (l.map λ(n,k)=>if(k==NameKind.free&&env.scope.kind == .function&&env.kindOf n==aB .cell)then(n,NameKind.cell)else(n,k)).lookup x=aB k->k=.cell\/k=.free->(x,NameKind.free)∈l\/(x,NameKind.cell)∈l
 |[],x,k,h,_=>by cases h
 |(n,j)::r,x,k,h,hh=>by
  have ih:=@Gd env r x k;rw[fF]at h;by_cases hc':(j==NameKind.free&&env.scope.kind == .function&&env.kindOf n==aB .cell)=true;simp only[hc',cC,gA]at h;have hj:j=.free:=by simp only[bQ,xh]at hc';exact hc'.1.1
  by_cases hx:(x==n)=true;rw[show x=n by simpa using hx,hj];exact .inl eZ;have hx':(x==n)=false:=by simpa using hx
  simp only[hx']at h;exact(ih h hh).imp (eY _) (eY _);have hcf:(j==NameKind.free&&env.scope.kind == .function&&env.kindOf n==aB .cell)=false:=by simpa using hc'
  simp only[hcf,fG,ez,gA]at h;by_cases hx:(x==n)=true;simp only[hx]at h;cases h;rcases hh with z|z
  rw[show x=n by simpa using hx,z];exact .inr eZ;rw[show x=n by simpa using hx,z];exact .inl eZ;have hx':(x==n)=false:=by simpa using hx
  simp only[hx']at h;exact(ih h hh).imp (eY _) (eY _)
theorem Dt{env:Env}(hkf:env.scope.kind=.function):∀{l:List (Str×NameKind)} {x:Str},l.lookup x=aB .free->
 (l.map λ(n,k)=>if(k==NameKind.free&&env.scope.kind == .function&&env.kindOf n==aB .cell)then(n,NameKind.cell)else(n,k)).lookup x=aB (if env.kindOf x=aB .cell then .cell else .free)
 |[],x,h=>by cases h
 |(n,j)::r,x,h=>by
  have ih:=@Dt env hkf r x;rw[fF];simp only[gA]at h;by_cases hx:(x==n)=true;simp only[hx]at h;cases h;have e:x=n:=by simpa using hx
  subst e;by_cases hq:env.kindOf x=aB .cell;simp[hkf,hq,gA];simp[hq,gA];have hx':(x==n)=false:=by simpa using hx
  simp only[hx']at h;by_cases hc':(j==NameKind.free&&env.scope.kind == .function&&env.kindOf n==aB .cell)=true;simp only[hc',cC,gA,hx'];exact ih h;have hcf:(j==NameKind.free&&env.scope.kind == .function&&env.kindOf n==aB .cell)=false:=by simpa using hc'
  simp only[hcf,fG,ez,gA,hx'];exact ih h
section
variable{X:Cx}{pins:List (ah×Obj)}{σ:St}{H:Hp}{s:af}{ow fr:List Str}{ix:List Nat}{scope:ay}{fp:List ah}
theorem Lr(S:aW X ow fr ix scope)(I:Inv X pins σ H s)(hfp:∀b∈fp,eE X pins H b)(hlt:∀b∈fp,b<s.heap.objs.size){h':az}{tk:Nat}{m:Str->Option aa}(hn:h'.Ns s.heap.objs.size m)(hk:∀b o,s.heap.get? b=aB o->h'.get? b=aB o)(hnc:∀x c,(cellsFrom (s.heap.objs.size+1) scope.names (jJ X.env.cells scope.names [])).lookup x=aB c->s.heap.objs.size<c->h'.IsCell c aC) :
 Inv (X.comp (ow++fr) scope s.heap.objs.size s H fp) [] (ju ow fr ix σ) H {s with heap:=h',toks:=tk}:=by
 have sub:=Dq (cells:=X.env.cells) scope.names [] (λx c e=>by cases e);have Rr:∀x c,(jJ X.env.cells scope.names []).lookup x=aB c->c<s.heap.objs.size:=λx c e=>by
  obtain⟨v,q⟩:=I.cell x c (sub x c e);exact q.lt
 have two:∀x c,(cellsFrom (s.heap.objs.size+1) scope.names (jJ X.env.cells scope.names [])).lookup x=aB c->X.env.cells.lookup x=aB c\/s.heap.objs.size<c:=λx c e=>(Dr _ _ _ e).imp (sub x c) λz=>z;have pass:∀x,(x,NameKind.free)∈scope.names->scope.names.lookup x=aB .free->(cellsFrom (s.heap.objs.size+1) scope.names (jJ X.env.cells scope.names [])).lookup x=(jJ X.env.cells scope.names []).lookup x:=λx hx hl=>F8 _ _ _ λz=>by
  have:=S.Ad _ z rfl;rw[hl]at this;cases this
 have kf:=I.ok.kind;have Lu:∀x c,X.env.cells.lookup x=aB c->c≠s.heap.objs.size:=λx c e z=>by
  obtain⟨v,q⟩:=I.cell x c e;exact absurd q.lt (by rw[z];exact gC _)
 have Ge:∀x,(x,NameKind.free)∈scope.names->∃c,(jJ X.env.cells scope.names []).lookup x=aB c/\X.env.cells.lookup x=aB c:=λx hx=>by
  obtain⟨c,hc⟩:=I.ok.has x (S.free _ hx rfl);exact⟨c,F7 hc _ _ hx,hc⟩
 refine⟨⟨I.ok.mod,?_,I.ok.glob,I.ok.blt,bf _,Ga (acc:=[]) _ _ _ (λx y c a b=>I.ok.inj x y c (sub x c a) (sub y c b)) (λx c e=>xB (Rr x c e)),λx hx=>?_,λx c e1 e2=>?_,I.ok.hd,I.ok.frames,.inl rfl,λb hb=>?_,λb o e=>?_,?_,λb o e hb=>?_,λb hb hz=>?_,I.stack,λb hb=>I.lK b hb⟩,
  rfl,I.bare,Un.kept hk,⟨m,hn,λi x v e1 e2 e3=>?_⟩,λx c e=>?_,I.hok.fresh (bf _),λx c e=>(two x c e).elim (I.fq x c) (λz=>I.hok.fresh (sV z)),λp hp=>?_,I.hok.kept hk,?_⟩
 exact S.kind;have hx':(relabel scope X.env).names.lookup x=aB .cell\/(relabel scope X.env).names.lookup x=aB .free:=hx;have hm:(x,NameKind.free)∈scope.names\/(x,NameKind.cell)∈scope.names:=by rcases hx' with z|z;exact Gd (env:=X.env) z (.inl rfl);exact Gd (env:=X.env) z (.inr rfl)
 rcases hm with hm|hm;obtain⟨c,hc,_⟩:=Ge x hm;exact Ds _ _ _ ⟨c,hc⟩;exact F9 _ _ _ hm;have e1:scope.names.lookup x=aB .cell:=by have e1:(scope.names.lookup x==aB NameKind.cell)=true:=e1;simpa using e1
 rcases Dr _ _ _ e2 with z|z;exfalso;have hcl:∃y,X.env.cells.lookup x=aB c:=⟨c,sub x c z⟩
 exact absurd z (by
  intro z;exact Rq (λq=>by
   have:=S.Ae _ q rfl;rw[e1]at this;cases this) z)
 exact vec z;obtain⟨f0,f1,f2,f3,f4,f5⟩:=hfp b hb;refine⟨λz=>?_,λx c e=>(two x c e).elim (f4 x c) λz q=>by
  have:=hlt b hb;rw[q]at z;exact Nat.lt_asymm this z⟩
 have q:=hlt b hb;rw[z]at q;exact absurd q (gC _);exact⟨(I.bs b o e).1,(I.bs b o e).2⟩;exact iw I.ok.u6 I.sz;obtain⟨f0,f1,f2,f3,f4,f5⟩:=hfp b hb;rcases f3 with z|z
 exact I.ok.nU b o e z;exact absurd (dF (dz (I.ok.bs b o e).1) z) (gC _);obtain⟨f0,f1,f2,f3,f4,f5⟩:=hfp b hb;rcases fT.mp (I.k6 b hz)with z|z
 exact f1 z;exact f2 z;have hlen:ow.length<=i:=by
  by_cases hi:i<ow.length;unfold ju at e2;rw[pG (by simpa using hi),dO]at e2;cases q:ow[i]? with|none=>rw[q]at e2;cases e2|some y=>rw[q]at e2;cases e2
  lia
 have Rt:fr[i-ow.length]?=aB x:=by have e1:(ow++fr)[i]?=aB x:=e1;rw[lH hlen]at e1;exact e1
 have Lv:(ix.map λj=>(σ[j]?).join)[i-ow.length]?=aB (aB v):=by unfold ju at e2;rw[lH (by simpa using hlen)]at e2;simpa using e2
 obtain⟨j,hj,hN,hl⟩:=S.at_ _ _ Rt;rw[dO,hj]at Lv;have n6:(σ[j]?).join=aB v:=nT Lv;have hσ:σ[j]?=aB (aB v):=by
  cases q:σ[j]? with
  |none=>rw[q]at n6;cases n6
  |some o=>rw[q]at n6;cases o with
   |none=>cases n6
   |some w=>cases n6;rfl
 obtain⟨m0,hm0,xT⟩:=I.loc;have hmem:=Lq hl;have hkf:=S.free _ hmem rfl;have Gf:xM X.env.scope x:=hkf.elim (λz=>.inr (.inl z)) λz=>.inr (.inr z);obtain⟨u,ru,lk⟩:=xT j x v hN hσ Gf;refine⟨u,ru,.inr ?_⟩;have hcell:∃c,X.env.cells.lookup x=aB c/\s.heap.IsCell c (aB u):=by rcases lk with⟨z,_⟩|⟨_,c,e,z⟩;rcases hkf with q|q;rw[show X.env.kindOf x=aB .local from z]at q;cases q;rw[show X.env.kindOf x=aB .local from z]at q;cases q;exact⟨c,e,z⟩
 obtain⟨c,hc,o,ho,hd⟩:=hcell;refine⟨?_,c,(pass x hmem hl).trans (F7 hc _ _ hmem),o,hk _ _ ho,hd⟩;show(relabel scope X.env).names.lookup x=aB .cell\/(relabel scope X.env).names.lookup x=aB .free;have q:=Dt (env:=X.env) kf hl;by_cases z:X.env.kindOf x=aB .cell;rw[if_pos z]at q;exact .inl q;rw[if_neg z]at q;exact .inr q;rcases two x c e with z|z;obtain⟨v,q⟩:=I.cell x c z;obtain⟨o,ho,hd⟩:=q;exact⟨v,o,hk _ _ ho,hd⟩;exact⟨aC,hnc x c e z⟩;cases(show p∈([]:List (ah×Obj))from hp);show(ju ow fr ix σ).length=(ow++fr).length;unfold ju;rw[fE,bD,bD,fE,S.len]
end
theorem Gg{α:Type}{M:Model}{A:ak}{t:Sem α}{Q:α->af->Prop}{E:aa->af->Prop}{s:af}(h:wpAny M A t Q (λ_ _=>False) s):wpAny M A t Q E s:=gV h (λ_ _ q=>q) λ_ _ z=>z.elim
noncomputable abbrev gW:aa->af->Prop:=λ_ _=>False
noncomputable abbrev xU(ifs:List ao)(env:Env):Sem Bool:=forIn ifs true λc r=>if r=true then do let ok <-isTrue c env (eval c env);pure (ForInStep.yield ok)else pure (ForInStep.yield r)
theorem Ru{prog:ai}{w:aj}{A:ak}{R:Result->af->Prop}{s:af}{elt target iter:ao}{ifs:List ao}{scope:ay}{pos:Pos}{it acc:aa}{env:Env}(I:Nat->af->Prop)
 (turn:∀n s,I n s->wpAny (model prog w) A (pyNext it) (λr s₁=>match r with
   |none=>R (.ok .next) s₁
   |some v=>wpAny (model prog w) A (letOwnedTupleGo target it v) (λ_ s₀=>wpAny (model prog w) A (assign target env v) (λ_ s₂=>
    wpAny (model prog w) A (xU ifs env) (λok s₃=>
     if ok=true then wpAny (model prog w) A (eval elt env) (λx s₄=>
      wpAny (model prog w) A (call (.builtin "list.append") [acc,x]) (λ_ s₅=>∃m,m<n/\I m s₅) gW s₄) gW s₃
     else ∃m,m<n/\I m s₃) gW s₂) gW s₀) gW s₁) gW s)
 (n:Nat) (h:I n s) :
 codeAny (model prog w) A (.compLoop (.ListComp elt [⟨target,iter,ifs,0⟩] scope pos) 0 it acc env) R s:=by
 refine codeAny_loop rfl I (λn s hI=>?_) n h;show wpAny _ A ((compTurn (.ListComp elt [⟨target,iter,ifs,0⟩] scope pos) 0 it acc env).onRaise (λx=>do noteFrame x env;theTreesLotGoes x)) _ _ s;refine wpAny_noted (Gg ?_);rw[compTurn_list];refine aS (mE (aS (gV (turn n s hI) (λr s₁ h₁=>?_) λ_ _ h'=>h')));cases r with
 |none=>exact bS h₁
 |some v=>
  refine aS (gV h₁ (λ_ s₀ h₀=>?_) λ_ _ h'=>h');refine aS (gV h₀ (λ_ s₂ h₂=>aS (gV h₂ (λok s₃ h₃=>?_) λ_ _ h'=>h')) λ_ _ h'=>h');cases ok with
  |true=>
   simp only[cC]at h₃ ⊢;exact aS (aS (gV h₃ (λx s₄ h₄=>aS (gV h₄ (λ_ s₅ h₅=>bS (bS ⟨rfl,h₅⟩)) λ_ _ h'=>h')) λ_ _ h'=>h'))
  |false=>
   simp only[fG,ez]at h₃ ⊢;exact bS ⟨rfl,h₃⟩
noncomputable def iG(X:Cx)(ifs:List ao)(t:TT):Prop:=
 ∀(pins:List (ah×Obj))(s:af)(σ:St)(H:Hp)(Q:Bool->Hp->Prop),Inv X pins σ H s->t σ H Q->wpAny (model X.prog X.w) X.A (xU ifs X.env) (TP X pins σ Q) X.xe s
noncomputable def Gh:TT:=λ_ H Q=>Q true H
theorem Rv{X:Cx}:iG X [] Gh:=λpins s σ H Q I h=>wpAny_tests_nil ⟨H,I,h⟩
theorem Rw{X:Cx}{c:ao}{t:TT}(h:PT X c t):iG X [c] t:=λpins s σ H Q I q=>wpAny_tests_one (h pins s σ H Q I q)
noncomputable def Gi(K:aK)(f:St->St)(wi:TI)(g:TG)(tc:TT)(te:TE):TE:=λσ H Q=>wi σ H λJ H1=>∀D,H1 D=aC->K.lookup D=aC->
 ∃W:Nat->Nat->St->Hp->List V->Prop,(∃m,W 0 m (f σ) (upd H1 D (.lst [])) [])/\∀i m σ' H' ys,W i m σ' H' ys->H' D=aB (.lst ys)/\
  ((J.stop i H'/\Q (.ref D) H')\/(J.go i H'/\∀x H2,J.tw i H' x H2->g x σ' H2 λσ2 H3=>tc σ2 H3 λb H4=>
    if b=true then te σ2 H4 λy H5=>H5 D=aB (.lst ys)/\ys.length<sizeLine/\∃m',m'<m/\W (i+1) m' σ2 (upd H5 D (.lst (ys++[y]))) (ys++[y])
    else ∃m',m'<m/\W (i+1) m' σ2 H4 ys))
section
variable{X:Cx}{ow fr:List Str}{ix:List Nat}{scope:ay}{tg iter elt:ao}{ifs:List ao}{pos:Pos}{wi:TI}{g:TG}{tc:TT}{te:TE}
theorem Lw{pins:List (ah×Obj)}{s:af}{σ:St}{Q:VK}{RR:aa->ah->Result->af->Prop}(S:aW X ow fr ix scope)(hc:X.calm=true)
 (hg:∀C s₀ H₀ ex,PG (X.comp (ow++fr) scope C s₀ H₀ ex) tg g) (ht:∀C s₀ H₀ ex,iG (X.comp (ow++fr) scope C s₀ H₀ ex) ifs tc) (he:∀C s₀ H₀ ex,PE (X.comp (ow++fr) scope C s₀ H₀ ex) elt te)
 {itv:aa} {E:aa->af->Prop}
 (h:zA X pins σ tg (λJ H1=>∀D,H1 D=aC->X.K.lookup D=aC->
   ∃W:Nat->Nat->St->Hp->List V->Prop,(∃m,W 0 m (ju ow fr ix σ) (upd H1 D (.lst [])) [])/\∀i m σ' H' ys,W i m σ' H' ys->H' D=aB (.lst ys)/\
    ((J.stop i H'/\Q (.ref D) H')\/(J.go i H'/\∀x H2,J.tw i H' x H2->g x σ' H2 λσ2 H3=>tc σ2 H3 λb H4=>
      if b=true then te σ2 H4 λy H5=>H5 D=aB (.lst ys)/\ys.length<sizeLine/\∃m',m'<m/\W (i+1) m' σ2 (upd H5 D (.lst (ys++[y]))) (ys++[y])
      else ∃m',m'<m/\W (i+1) m' σ2 H4 ys))) itv s)
 (fin:∀D C H' s' m,eE X pins H' C->s'.heap.Ns C m->(∀h'',Heap.SameBut C s'.heap h''->Inv X pins σ H' {s' with heap:=h''})->Q (.ref D) H'->RR (.ref D) C (.ok .next) s') :
 wpAny (model X.prog X.w) X.A (newList []) (λacc s₃=>wpAny (model X.prog X.w) X.A (newFunctionEnv scope X.env.globals (jJ X.env.cells scope.names []) [] X.env.qual aC .none (aB X.env)) (λcenv s₄=>
  codeAny (model X.prog X.w) X.A (.compStart (.ListComp elt [⟨tg,iter,ifs,0⟩] scope pos) 0 itv acc {cenv with scope:=relabel scope X.env}) (RR acc cenv.locals) s₄) E s₃) E s:=by
 obtain⟨it,fp,tn,J,H1,e,I1,T,st1,f1,hq⟩:=h;subst e;have hD:H1 s.heap.objs.size=aC:=I1.hok.fresh (bf _);have Gj:X.K.lookup s.heap.objs.size=aC:=by
  cases e:X.K.lookup s.heap.objs.size with|none=>rfl|some o=>exact absurd (dz (I1.jt _ _ e)) (gC _)
 obtain⟨W,⟨m0,w0⟩,turn⟩:=hq _ hD Gj;have I3:Inv X pins σ (upd H1 s.heap.objs.size (.lst [])) {s with heap:=s.heap.push {cls:=.type "list",dict:=aC,data:=.seq ([]:List aa).toArray}}:=
  I1.laid (t':=s.toks) (o:=.lst []) (λb u q=>di _ q) (bf _) ⟨lJ _,[],0,.nil,iT _ rfl⟩
 have n9:∀b∈fp,b<s.heap.objs.size:=λb hb=>by
  obtain⟨o,ho,_⟩:=T.obj _ _ st1 b hb;exact dz ho
 have f3:∀b∈fp,eE X pins (upd H1 s.heap.objs.size (.lst [])) b:=λb hb=>⟨by rw[bZ (gE (n9 b hb))];exact(f1 b hb).1,(f1 b hb).2⟩
 refine qk (Lo (λx c e=>(I3.cell x c (Dq (cells:=X.env.cells) scope.names [] (λx c e=>by cases e) x c e)).elim λv q=>q.lt) (λh₁ hns hk0 hnc=>?_));dsimp only at hns hk0 hnc ⊢;generalize Af:({s with heap:=s.heap.push {cls:=.type "list",dict:=aC,data:=.seq ([]:List aa).toArray}}:af)=s3 at I3;have vt:s3.heap=s.heap.push {cls:=.type "list",dict:=aC,data:=.seq ([]:List aa).toArray}:=by rw[<-Af]
 rw[<-vt]at hns hk0 hnc ⊢;have hk:∀b o,s3.heap.get? b=aB o->h₁.get? b=aB o:=hk0;have vz:∀b∈fp,b<s3.heap.objs.size:=λb hb=>by rw[vt,j6];exact xB (n9 b hb)
 have J3:=Lr S I3 f3 vz (tk:=s.toks) hns hk hnc;have st3:tn 0 h₁:=T.keep _ _ _ st1 λb hb o e=>hk b o (by rw[vt];exact di _ e);have vA:∀b∈fp,(X.comp (ow++fr) scope s3.heap.objs.size s3 (upd H1 s.heap.objs.size (.lst [])) fp).Ok->∀{H':Hp},H' b=aC->eE (X.comp (ow++fr) scope s3.heap.objs.size s3 (upd H1 s.heap.objs.size (.lst [])) fp) [] H' b:=λb hb ok H' hn=>
  ⟨hn,(ok.xN b hb).1,ok.mH b hb,.inl hb,(ok.xN b hb).2,λp hp=>by cases(show p∈([]:List (ah×Obj))from hp)⟩
 have back:∀{σ':St}{H':Hp}{s':af},Inv (X.comp (ow++fr) scope s3.heap.objs.size s3 (upd H1 s.heap.objs.size (.lst [])) fp) [] σ' H' s'->∀h'',Heap.SameBut s3.heap.objs.size s'.heap h''->Inv X pins σ H' {s' with heap:=h''}:=λ{σ' H' s'} I' h'' hs=>by
  have nI:∀b o,s3.heap.get? b=aB o->b≠s3.heap.objs.size:=λb o e=>gE (dz e);have un:Un (frs X.stack) fp (upd H1 s.heap.objs.size (.lst [])) H' s3.heap h'':=
   ⟨λb o e n hb hx=>(hs.2 b (nI b o e)).trans (I'.base.keep b o e n hb hx),λb o e n hb hx=>by
    obtain⟨sl,q⟩:=I'.base.slot b o e n hb hx;exact⟨sl,(hs.2 b (nI b o e)).trans q⟩,I'.base.free,λb o e hx=>by
    obtain⟨o',q⟩:=I'.base.there b o e hx;exact⟨o',(hs.2 b (nI b o e)).trans q⟩,I'.base.tups,I'.base.iD,I'.base.ja⟩
  have hok:fm X.prog X.w H' h'':=λb ob e=>by
   refine(I'.hok b ob e).stay (λc w' hcc q=>(hs.2 c ?_).trans q) (λ_ q=>q) λ_ _ q=>q;rintro rfl;have hfree:=I'.free;rcases hcc with rfl|hcc
   rw[show H' s3.heap.objs.size=aC from hfree]at e;cases e;rw[show H' s3.heap.objs.size=aC from hfree]at hcc;cases hcc
  have hos:s'.os=s3.os:=I'.os;exact I3.sZ (s':={s' with heap:=h''}) (ch:=fp) hos un hok I'.bare λb hb=>by
   obtain⟨_,a1,a2,a3,a4,a5⟩:=f1 b hb;exact⟨a3,a1,a4,a5⟩
 have loop:∀s4:af,Inv (X.comp (ow++fr) scope s3.heap.objs.size s3 (upd H1 s.heap.objs.size (.lst [])) fp) [] (ju ow fr ix σ) (upd H1 s.heap.objs.size (.lst [])) s4->tn 0 s4.heap->
  codeAny (model X.prog X.w) X.A (.compLoop (.ListComp elt [⟨tg,iter,ifs,0⟩] scope pos) 0 (.ref it) (.ref s.heap.objs.size) (X.comp (ow++fr) scope s3.heap.objs.size s3 (upd H1 s.heap.objs.size (.lst [])) fp).env)
   (RR (.ref s.heap.objs.size) s3.heap.objs.size) s4:=by
  intro s4 I4 Gk;refine Ru (λn s'=>∃i σ' H' ys,Inv (X.comp (ow++fr) scope s3.heap.objs.size s3 (upd H1 s.heap.objs.size (.lst [])) fp) [] σ' H' s'/\tn i s'.heap/\(∀b∈fp,H' b=aC)/\W i n σ' H' ys) ?_ m0 ⟨0,_,_,[],I4,Gk,λb hb=>(f3 b hb).1,w0⟩;rintro n s5 ⟨i,kh,H5,ys,I5,mK,qH,w5⟩;obtain⟨hDl,alt⟩:=turn i n kh H5 ys w5;rcases alt with⟨stop,q⟩|⟨go,step⟩
  .refine bg (T.done (X.comp (ow++fr) scope s3.heap.objs.size s3 (upd H1 s.heap.objs.size (.lst [])) fp) rfl rfl rfl hc i [] s5 kh H5 gW I5 (λb hb=>vA b hb I5.ok (qH b hb)) mK stop) λr s6 b9=>?_
   obtain⟨hr,I6⟩:=b9;subst hr;obtain⟨m6,Du,_⟩:=I6.loc;exact fin _ _ H5 s6 m6 (I3.j8 (bf _) I6.free) Du (back I6) q
  refine bg (T.item (X.comp (ow++fr) scope s3.heap.objs.size s3 (upd H1 s.heap.objs.size (.lst [])) fp) rfl rfl rfl hc i [] s5 kh H5 gW I5 (λb hb=>vA b hb I5.ok (qH b hb)) mK go) λr s6 b9=>?_;obtain⟨u,hr,h6⟩:=b9;subst hr;refine bg h6 λ_ s7 b9=>?_;obtain⟨x,H7,I7,r7,y7,vB,Gn⟩:=b9;have Gp:=I7.pinned (λb hb=>vA b hb I7.ok (Gn b hb)) (T.obj _ _ vB);have again:∀{ki:St}{H8:Hp}{s8:af}{zs:List V}{m':Nat},Inv (X.comp (ow++fr) scope s3.heap.objs.size s3 (upd H1 s.heap.objs.size (.lst [])) fp) ([]++ve fp s7.heap) ki H8 s8->m'<n->W (i+1) m' ki H8 zs->
   ∃m,m<n/\∃i σ' H' ys,Inv (X.comp (ow++fr) scope s3.heap.objs.size s3 (upd H1 s.heap.objs.size (.lst [])) fp) [] σ' H' s8/\tn i s8.heap/\(∀b∈fp,H' b=aC)/\W i m σ' H' ys:=λ{ki H8 s8 zs m'} I8 hm w8=>by
   refine⟨m',hm,i+1,ki,H8,zs,I8.dP,T.keep _ _ _ vB λb hb o e=>(I8.pin (b,o) (jn _ (jn _ (tB hb e)))).1,λb hb=>?_,w8⟩;obtain⟨o,e,d⟩:=T.obj _ _ vB b hb;exact(I8.pin (b,o) (jn _ (jn _ (tB hb e)))).2.1
  refine bg (hg _ _ _ _ _ s7 kh H7 x u _ Gp r7 (step x H7 y7)) λ_ s8 b9=>?_;obtain⟨ki,H8,I8,q8⟩:=b9;refine bg (ht _ _ _ _ _ s8 ki H8 _ I8 q8) λok s9 z9=>z9.el λH9 I9 q9=>?_;cases ok with
  |false=>
   simp only[fG,ez]at q9 ⊢;obtain⟨m',hm,w9⟩:=q9;exact again I9 hm w9
  |true=>
   simp only[cC]at q9 ⊢;refine bg (he _ _ _ _ _ s9 ki H9 _ I9 q9) λy Gq b9=>?_;obtain⟨vy,Gs,Gu,ry,Gv,hz,m',hm,Gw⟩:=b9;refine bg (F2 _ Gq ki Gs (.ref s.heap.objs.size) [vy] (.ref s.heap.objs.size) [y] (λv H'=>H'=upd Gs s.heap.objs.size (.lst (ys++[vy]))) Gu rfl (.cons ry .nil) ⟨_,ys,vy,rfl,rfl,Gv,hz,rfl⟩) λ_ s11 b9=>?_;obtain⟨v11,H11,Rx,_,nJ⟩:=b9;subst nJ;exact again Rx hm Gw
 have Dv:Inv (X.comp (ow++fr) scope s3.heap.objs.size s3 (upd H1 s.heap.objs.size (.lst [])) fp) [] (ju ow fr ix σ) (upd H1 s.heap.objs.size (.lst [])) {s with heap:=h₁,toks:=s.toks}:=by rw[<-Af]at J3 ⊢;exact J3
 exact codeAny_compStart_list (loop _ Dv st3) (T.self _ 0 _ _ _ st3 (loop _ Dv st3))
theorem Ag(S:aW X ow fr ix scope)(hc:X.calm)(hi:PI X tg iter wi)
 (hg:∀C s₀ H₀ ex,PG (X.comp (ow++fr) scope C s₀ H₀ ex) tg g) (ht:∀C s₀ H₀ ex,iG (X.comp (ow++fr) scope C s₀ H₀ ex) ifs tc) (he:∀C s₀ H₀ ex,PE (X.comp (ow++fr) scope C s₀ H₀ ex) elt te)
 (hs:∀x,foldedSetIterable iter X.env x=pure x:=by intro _;rfl):PE X (.ListComp elt [⟨tg,iter,ifs,0⟩] scope pos) (Gi X.K (ju ow fr ix) wi g tc te):=by
 intro pins s σ H Q I h;rw[eval_ListComp];refine CI (use:=aC) rfl hs (Dp λy hy e=>I.ok.has _ (S.free y hy e)) S.kind S.names (bg (hi pins s σ H _ I h) λv s1 h1=>bg h1 λitv s2 h2=>?_);exact Lw (RR:=λacc C=>compPost (model X.prog X.w) X.A X.xe aC (EP X pins σ Q) acc C) S hc hg ht he h2 λD C H' s' m _ hn hI q=>⟨m,hn,λh'' k8=>⟨.ref D,H',hI h'' k8,rfl,q⟩⟩
theorem Ry{i:Nat}{y:Str}{py spos:Pos}(hN:X.N.Nodup)(Gx:X.N[i]?=aB y)(hy:Loc X.env.scope y)(S:aW X ow fr ix scope)(hc:X.calm)(hi:PI X tg iter wi)
 (hg:∀C s₀ H₀ ex,PG (X.comp (ow++fr) scope C s₀ H₀ ex) tg g) (ht:∀C s₀ H₀ ex,iG (X.comp (ow++fr) scope C s₀ H₀ ex) ifs tc) (he:∀C s₀ H₀ ex,PE (X.comp (ow++fr) scope C s₀ H₀ ex) elt te)
 (hsw:autoParam (swapsWith (.ListComp elt [⟨tg,iter,ifs,0⟩] scope pos) (aB (.Name y py)) spos.line X.env=pure true) L2.aR._auto_1)
 (hf:autoParam (X.fn y=true\/X.env.scope.names.lookup y=aB .local) L2.aF._auto_1)
 (hs:∀x,foldedSetIterable iter X.env x=pure x:=by intro _;rfl):PS X (.Assign [.Name y py] (.ListComp elt [⟨tg,iter,ifs,0⟩] scope pos) spos) (qA (Gi X.K (ju ow fr ix) wi g tc te) (iF i)):=by
 intro pins s σ H D I h;rw[exec_Assign_Name_used _ _ _ _ hsw];refine aS (mE (aS ?_));show wpAny _ X.A (do let _ <-comprehension (.ListComp elt [⟨tg,iter,ifs,0⟩] scope pos) scope X.env _ (newList []) false (eval iter X.env) (aB (assign (.Name y py) X.env))) _ _ s;refine aS (gV (CI (use:=aB (assign (.Name y py) X.env)) (Q:=λ_ s'=>SP X pins D .next s') rfl hs (Dp λy hy e=>I.ok.has _ (S.free y hy e)) S.kind S.names
  (bg (hi pins s σ H _ I h) λv s1 h1=>bg h1 λitv s2 h2=>?_)) (λ_ s' hq=>bS (bS hq)) λ_ _ e=>e)
 refine Lw (Q:=λx H1=>iF i x σ H1 D.nx) (RR:=λacc C=>compPost (model X.prog X.w) X.A X.xe (aB (assign (.Name y py) X.env)) (λ_ s'=>SP X pins D .next s') acc C) S hc hg ht he h2 λd C H' s' m hC hn hI q=>?_;show wpAny _ X.A (assign (.Name y py) X.env (.ref d)) _ _ _;have I':Inv X pins σ H' s':=by have z:=hI s'.heap (.refl ..);exact z
 refine wpAny_assign_Name (Fe I' hN Gx hy (v:=.ref d) rfl (λs'' Gy ⟨a,Gz,ha⟩=>?_) hf);obtain⟨c0,c1,c2,c3,c4,c5⟩:=hC;have GA:C≠a:=by rcases ha with rfl|ha;exact c1;exact λz=>c4 _ _ ha z.symm
 refine⟨m,hn.sameBut Gz GA,λh'' k8=>⟨_,H',Gy.turned (t':=s''.toks) (it:=C) (λb o hb e=>(k8.2 b hb).trans e) c0 c1 c3 c4 c5,q⟩⟩
end
end L2
set_option maxHeartbeats 4000000
namespace L2
open PySem PySem.Spec PyProof.Rows
mutual
inductive Rp(K:aK)(M:ah->Prop)(H:Hp):V->aA->Prop
 |aR:Rp K M H .aR .none
 |bl (b:Bool):Rp K M H (.bl b) (.bool b)
 |int (i:Int):Rp K M H (.int i) (.int i)
 |str (x:Str):Rp K M H (.str x) (.str x)
 |tup {a:ah} {xs:List V} {ds:List aA}:cN K H a xs->¬M a->mP K M H xs ds->Rp K M H (.ref a) (.tuple ds)
 |lst {a:ah} {xs:List V} {ds:List aA}:dh K H a xs->¬M a->mP K M H xs ds->Rp K M H (.ref a) (.list ds)
inductive mP(K:aK)(M:ah->Prop)(H:Hp):List V->List aA->Prop
 |nil:mP K M H [] []
 |cons {x:V} {d:aA} {xs:List V} {ds:List aA}:Rp K M H x d->mP K M H xs ds->mP K M H (x::xs) (d::ds)
end
section
variable{X:Cx}{pins:List (ah×Obj)}{σ:St}{H:Hp}{s:af}{M:ah->Prop}
mutual
theorem Rp.reads(I:Inv X pins σ H s):∀{x:V} {d:aA} {u:aa},Rp X.K M H x d->RelV x u->∃as,Reads s.heap u d as
 |_,_,_,.aR,r=>by cases r;exact⟨_,.none⟩
 |_,_,_,.bl b,r=>by cases r;exact⟨_,.bool b⟩
 |_,_,_,.int i,r=>by obtain⟨t,rfl⟩:=r;exact⟨_,.int i t⟩
 |_,_,_,.str x,r=>by obtain⟨t,rfl⟩:=r;exact⟨_,.str x t⟩
 |_,_,_,.tup h n rr,r=>by
  cases r;obtain⟨its,rv,p,_⟩:=I.tuple h;obtain⟨o,ho,hc,m,hd⟩:=p;obtain⟨as,ra⟩:=mP.reads I rr rv;exact⟨_,.tuple ho hc hd (by simpa using ra)⟩
 |_,_,_,.lst h n rr,r=>by
  cases r;obtain⟨its,rv,p,_⟩:=I.list h;obtain⟨o,m,ho,hc,_,hd⟩:=p;obtain⟨as,ra⟩:=mP.reads I rr rv;exact⟨_,.list ho hc hd (by simpa using ra)⟩
theorem mP.reads(I:Inv X pins σ H s):∀{xs:List V} {ds:List aA} {us:List aa},mP X.K M H xs ds->Vals xs us->∃as,ReadsAll s.heap us ds as
 |_,_,_,.nil,.nil=>⟨_,.nil⟩
 |_,_,_,.cons r t,.cons q v=>by
  obtain⟨as,h1⟩:=Rp.reads I r q;obtain⟨bs,h2⟩:=mP.reads I t v;exact⟨_,.cons h1 h2⟩
end
noncomputable def Ah(K:aK):R2:=λx y H Q=>∃d e,Rp K (λ_=>False) H x d/\Rp K (λ_=>False) H y e/\SeqAt.shaped d=true/\SeqAt.shaped e=true/\Q (.bl (PyData.eqv d e)) H
noncomputable def Ai(K:aK):R2:=λx y H Q=>∃d e,Rp K (λ_=>False) H x d/\Rp K (λ_=>False) H y e/\SeqAt.shaped d=true/\SeqAt.shaped e=true/\Q (.bl (!PyData.eqv d e)) H
theorem Rz(hu:X.A.units+64<cLine):dH X (compareOp .Eq) (Ah X.K):=by intro pins s σ H x y v u Q I rx ry h;obtain⟨d,e,r1,r2,s1,s2,q⟩:=h;obtain⟨as,ra⟩:=r1.reads I rx;obtain⟨bs,rb⟩:=r2.reads I ry;exact PyProof.Rows.eq_dataH ra rb s1 s2 hu ⟨.bl _,H,I,rfl,q⟩
theorem RA(hu:X.A.units+64<cLine):dH X (compareOp .NotEq) (Ai X.K):=by intro pins s σ H x y v u Q I rx ry h;obtain⟨d,e,r1,r2,s1,s2,q⟩:=h;obtain⟨as,ra⟩:=r1.reads I rx;obtain⟨bs,rb⟩:=r2.reads I ry;exact PyProof.Rows.ne_dataH ra rb s1 s2 hu ⟨.bl _,H,I,rfl,q⟩
end
section
variable{prog:ai}{w:aj}{A:ak}{E:aa->af->Prop}{s:af}
theorem Lx{I t:ah}{k:Nat}{its:Array aa}{y:aa}{Q:aa->af->Prop}(hi:s.heap.IsTupleIter I t k)(ht:s.heap.IsTuple t its)(hy:its[k]?=aB y)
 (q:∀g,g.IsTupleIter I t (k+1)->Heap.SameBut I s.heap g->Q y {s with heap:=g}):wpAny (model prog w) A (Builtin.SmallTypes.nextOf (.ref I)) Q E s:=by
 obtain⟨oi,e1,e2,e3⟩:=id hi;obtain⟨ot,e4,_,kt,e5⟩:=ht;unfold Builtin.SmallTypes.nextOf;refine aS (xj (name:=Str.ofString "__next__") hi.typeIs C8 (xq C8 hi.typeIs F.entry_tuple_iterator_next ?_ (F.args_tuple_iterator_next_1 _)));show wpAny _ _ (field (.ref I) 0 >>= _) _ _ s;refine aS (kX e1 e3 (x:=.ref t) rfl ?_);show wpAny _ _ (if(Value.ref t==Value.none)=true then _ else _) _ _ s;rw[if_neg (show ¬((Value.ref t==Value.none)=true)from λz=>nomatch z)];show wpAny _ _ (field (.ref I) 1 >>= _) _ _ s;refine aS (kX e1 e3 (x:=.int k 0) rfl ?_);show wpAny _ _ (seqItems? (.ref t) >>= _) _ _ s;refine aS (sP e4 e5 ?_);simp only[qx,hy];refine aS (wpAny_setField e1 e3 (by simp) (bS ⟨y,rfl,bS (q _ ?_ (Heap.SameBut.update ..))⟩));refine⟨_,Heap.get?_update_self _ e1 (Obj.isFreed_of_fields (Obj.data_mapFields e3 _)),(Obj.cls_mapFields ..).trans e2,?_⟩;rw[Obj.data_mapFields e3];simp[rawInt]
theorem GC{I t:ah}{k:Nat}{its:Array aa}{Q:aa->af->Prop}(hA:A.handled=aC)(hi:s.heap.IsTupleIter I t k)(ht:s.heap.IsTuple t its)(hy:its[k]?=aC)
 (q:∀g e,Heap.ExtBut I s.heap g->(∃o,g.get? e=aB o/\o.cls=.type "StopIteration")->E (.ref e) {s with heap:=g}):wpAny (model prog w) A (Builtin.SmallTypes.nextOf (.ref I)) Q E s:=by
 obtain⟨oi,e1,e2,e3⟩:=id hi;obtain⟨ot,e4,_,kt,e5⟩:=ht;unfold Builtin.SmallTypes.nextOf;refine aS (xj (name:=Str.ofString "__next__") hi.typeIs C8 (xq C8 hi.typeIs F.entry_tuple_iterator_next ?_ (F.args_tuple_iterator_next_1 _)));show wpAny _ _ (field (.ref I) 0 >>= _) _ _ s;refine aS (kX e1 e3 (x:=.ref t) rfl ?_);show wpAny _ _ (if(Value.ref t==Value.none)=true then _ else _) _ _ s;rw[if_neg (show ¬((Value.ref t==Value.none)=true)from λz=>nomatch z)];show wpAny _ _ (field (.ref I) 1 >>= _) _ _ s;refine aS (kX e1 e3 (x:=.int k 0) rfl ?_);show wpAny _ _ (seqItems? (.ref t) >>= _) _ _ s;refine aS (sP e4 e5 ?_);simp only[qx,hy];refine aS (qm (aS (wpAny_setField e1 e3 (by simp) ?_)));show wpAny _ _ (newExc (.type "StopIteration") [] >>= _) _ _ _;refine aS ?_;simp only[newExc,newTuple];refine aS (qk ?_ (by size_fits));refine aS (m:=firstArgMember _ _) (wpAny_of_eq (a:=Value.none) (by first|rfl|(simp only[firstArgMember];rfl)) ?_);refine qk ?_ (by size_fits);simp only[raiseNew];refine aS (wpAny_handled ?_);first|rw[show A.in1.handled=aC from hA]|rw[hA]
 refine aS (bS (wpAny_throw ?_));exact q _ _ (((Heap.SameBut.update ..).extBut.push _).push _) ⟨_,iT _ rfl,rfl⟩
end
theorem Ly{h h':az}{a:ah}{its:Array aa}(x:h.IsTuple a its)(e:∀o,h.get? a=aB o->h'.get? a=aB o):h'.IsTuple a its:=let⟨o,ho,r⟩:=x;⟨o,e _ ho,r⟩
theorem RB{prog:ai}{w:aj}{A:ak}(hA:A.handled=aC)(I t:ah)(hne:t≠I)(its:Array aa) :
 Draws prog w A I [I,t] its.size (λi v=>its[i]?=aB v) (λi h=>h.IsTupleIter I t i/\h.IsTuple t its)where
 live:=λ_ _ st=>let⟨o,ho,_⟩:=st.1;⟨o,ho⟩
 frame:=λ_ _ _ st hk=>⟨st.1.at λo e=>hk I (by simp) o e,Ly st.2 λo e=>hk t (by simp) o e⟩
 item:=λi s Q E hi st q=>Lx st.1 st.2 (y:=its[i]) (by simp[hi]) λg a b=>q _ g s.toks (by simp[hi]) ⟨a,st.2.extBut b.extBut hne⟩ b
 done:=λs Q E st q=>GC hA st.1 st.2 (by simp) q
theorem RC(l:ah)(its:Array aa)(n:Nat)(dc:Option ah)(sl:Array (Option aa)) :
 Meets (Builtin.«enumerate.__new__» ⟨[.type "enumerate",.ref l],[]⟩) (λ_ R s=>s.heap.get? l=aB {cls:=.type "tuple",dict:=dc,data:=.seq its n,slots:=sl}/\
  R (.ok (.ret (.ref (s.heap.push {cls:=.type "tuple_iterator",data:=.fields #[.ref l,.int 0 0]}).objs.size)))
   {s with heap:=(s.heap.push {cls:=.type "tuple_iterator",data:=.fields #[.ref l,.int 0 0]}).push {cls:=.type "enumerate",data:=.fields #[.none,.bool false,.ref s.heap.objs.size,rawInt 0,.none,.none]}}):=
 .of_wp λprog w A R s h=>by
  obtain⟨hp,g,d,tk,os⟩:=s;obtain⟨e,h⟩:=h;have hsub:=sub_enumerate;have hT:Heap.IsTuple (Shared.heap ⟨hp,g,d,tk,os⟩) l its:=⟨_,e,rfl,n,rfl⟩
  wp_walk using nS e;refine wpAny_stack_any λst=>bS ?_;split;rename_i c _ _ _ _ _;cases(c==Value.type "enumerate")<;> (wp_walk using nS e,uN hT;exact⟨_,rfl,h⟩)
  .wp_walk using nS e,uN hT
   exact⟨_,rfl,h⟩
theorem RD{prog:ai}{w:aj}{A:ak}{E:aa->af->Prop}{s:af}{l:ah}{its:Array aa}{Q:aa->af->Prop}(hL:s.heap.IsTuple l its)
 (h:∀g,IsEnum g (s.heap.objs.size+1) s.heap.objs.size 0 .none->g.IsTupleIter s.heap.objs.size l 0->g.objs.size=s.heap.objs.size+2->(∀b o,s.heap.get? b=aB o->g.get? b=aB o)->Q (.ref (s.heap.objs.size+1)) {s with heap:=g}) :
 wpAny (model prog w) A (call (.type "enumerate") [.ref l]) Q E s:=by
 obtain⟨⟨c,dc,dt,sl⟩,e1,e2,n,e3⟩:=hL
 replace e2:c=.type "tuple":=e2
 replace e3:dt=.seq its n:=e3;subst e2 e3;refine callType_new F.called_enumerate (by decide) (F.typeCall_enumerate_1 _) (F.newCall_enumerate_1 _) (λobj=>F.args_object_init_2 obj _) F.entry_enumerate_new (RC l its n dc sl) ⟨e1,?_⟩;have hz:(s.heap.push {cls:=.type "tuple_iterator",data:=.fields #[.ref l,.int 0 0]}).objs.size=s.heap.objs.size+1:=j6 ..;show _/\_;rw[hz];have he:IsEnum ((s.heap.push {cls:=.type "tuple_iterator",data:=.fields #[.ref l,.int 0 0]}).push {cls:=.type "enumerate",data:=.fields #[.none,.bool false,.ref s.heap.objs.size,rawInt 0,.none,.none]}) (s.heap.objs.size+1) s.heap.objs.size 0 .none:=by rw[<-hz];exact iT _ rfl
 exact⟨⟨_,he,rfl⟩,h _ he ⟨_,di _ (iT _ rfl),rfl,rfl⟩ (by rw[j6,hz]) λb o x=>di _ (di _ x)⟩
noncomputable def vC(K:aK)(a:ah):It:=
 ⟨λi H=>∃xs x,cN K H a xs/\xs[i]?=aB x,λi H x H'=>∃T v,x=.ref T/\H T=aC/\H'=upd H T (.tup [.int i,v])/\∀xs,cN K H a xs->xs[i]?=aB v,λi H=>∃xs,cN K H a xs/\xs.length<=i⟩
theorem RE{P:ai}{w:aj}{K:aK}{elts:List ao}{kx:Nat}{tp:Pos}(a e it:ah)(hei:e≠it)(RG:a≠e)(hai:a≠it) :
 Turn P w K (.Tuple elts kx tp) (vC K a) [e,it] e (λi h=>(∃old,IsEnum h e it i old)/\h.IsTupleIter it a i)where
 mem:=by simp
 obj:=λi h st b hb=>by
  obtain⟨⟨old,he⟩,o,ho,hc,hd⟩:=st;rcases fT.mp hb with rfl|hb;exact⟨_,he,λv z=>by
   have z':Data.fields _=Data.cell v:=z;cases z'⟩
  have e':b=it:=by simpa using hb
  subst e';exact⟨o,ho,λv z=>by rw[hd]at z;cases z⟩
 keep:=λi h h' st k=>by
  obtain⟨⟨old,he⟩,st⟩:=st;exact⟨⟨old,k e (by simp) _ he⟩,st.at λo q=>k it (by simp) o q⟩
 item:=by
  intro X hP hw hK hc i pins s σ H E I hf st hg;subst hP hw hK;obtain⟨xs,x,hq,hx⟩:=hg;obtain⟨⟨old,he⟩,st⟩:=st;obtain⟨its,rv,p,hz⟩:=I.tuple hq;obtain⟨u,hu,ru⟩:=rv.get hx;have hd:X.A.in1.handled=aC:=I.ok.hd hc;have p:s.heap.IsTuple a its.toArray:=p;refine wpAny_pyNext_enum_itemD (RB hd it a hai its.toArray) he ⟨st,p⟩ (by
   have:i<its.length:=by rw[<-rv.length];exact(iB.mp hx).1
   simpa using this) hei (by simp[hei,fH RG]) λx' h1 tk hx' ho hit hT hsz hk=>?_
  obtain rfl:u=x':=by
   have:its[i]?=aB x':=by simpa using hx'
   rw[hu]at this;cases this;rfl
  refine⟨_,rfl,wpAny_letOwnedTupleGo_enum ho λh2 GD hs2=>?_⟩;have lT:H s.heap.objs.size=aC:=I.hok.fresh (bf _);have Lz:s.heap.objs.size≠e:=sW (dz he);have RH:s.heap.objs.size≠it:=by obtain⟨o,q,_⟩:=st;exact sW (dz q)
  have hs2:Heap.SameBut e h1 h2:=hs2;have kk:∀b o,b≠e->b≠it->s.heap.get? b=aB o->h2.get? b=aB o:=λb o h1 h2 q=>(hs2.2 b h1).trans (hk b o h1 h2 q);have f0:=λb hb=>(hf b hb).1;have nE:∀b o,H b=aB o->b≠e/\b≠it:=λb o q=>⟨λz=>(by rw[z,f0 e (by simp)]at q;cases q),λz=>(by rw[z,f0 it (by simp)]at q;cases q)⟩
  have hT2:h2.get? s.heap.objs.size=aB {cls:=.type "tuple",data:=.seq #[.int i tk,u]}:=(hs2.2 _ Lz).trans hT;have I2:Inv X pins σ (upd H s.heap.objs.size (.tup [.int i,x])) {s with heap:=h2,gens:=s.gens,drawn:=s.drawn,toks:=tk+1}:=by
   refine I.step (ch:=[e,it]) (λb hb=>?_) (λb o _ _ hc e1 _=>kk b o (λz=>hc (by simp[z])) (λz=>hc (by simp[z])) e1) (λb o _ _ hc e1 _=>⟨o.slots,kk b o (λz=>hc (by simp[z])) (λz=>hc (by simp[z])) e1⟩)
    (λb o hc e1 n=>by rw[bZ (gE (dz e1))];exact n) (λb o hc e1=>⟨o,kk b o (λz=>hc (by simp[z])) (λz=>hc (by simp[z])) e1⟩)
    (λb ys q=>by rw[bZ (iy q lT)];exact q) (λb o u q=>by rw[bZ (iy q lT)];exact q) (λb ps q=>⟨#[],by rw[bZ (iy q lT),q];simp⟩) (λm hm=>?_) (λb ob q=>?_) I.bare
   obtain⟨_,a1,a2,a3,a4,a5⟩:=hf b hb;exact⟨a3,a1,a4,a5⟩;obtain⟨o,es,ep,ho',r⟩:=hm;exact⟨o,es,ep,kk _ o (fH (hf e (by simp)).2.1) (fH (hf it (by simp)).2.1) ho',r⟩;by_cases hb:b=s.heap.objs.size;subst hb;rw[fJ]at q;cases q;exact⟨by show 2<=sizeLine;decide,[.int i tk,u],.cons ⟨_,rfl⟩ (.cons ru .nil),⟨_,hT2,rfl,⟨_,rfl⟩,rfl⟩⟩;rw[bZ hb]at q;refine(I.hok b ob q).stay (λc v hc z=>kk c v ?_ ?_ z) (λc z=>by rw[bZ (iy z lT)];exact z) λc ys z=>by rw[bZ (iy z lT)];exact z
   rcases hc with rfl|hc;exact(nE c ob q).1;exact(nE c _ hc).1;rcases hc with rfl|hc;exact(nE c ob q).2;exact(nE c _ hc).2
  refine⟨.ref s.heap.objs.size,_,I2,rfl,⟨_,x,rfl,lT,rfl,λys hy=>by rw[I.gG hy hq];exact hx⟩,⟨⟨u,by simpa using GD⟩,hit.1.at λo q=>(hs2.2 it (fH hei)).trans q⟩,λb hb=>?_⟩;rw[bZ ?_];exact f0 b hb;rcases fT.mp hb with rfl|hb
  exact fH Lz;have e':b=it:=by simpa using hb
  subst e';exact fH RH
 done:=by
  intro X hP hw hK hc i pins s σ H E I hf st hg;subst hP hw hK;obtain⟨xs,hq,hx⟩:=hg;obtain⟨⟨old,he⟩,st⟩:=st;obtain⟨its,rv,p,hz⟩:=I.tuple hq;obtain⟨f0,f1,f2,f3,f4,f5⟩:=hf it (by simp);have hl:=rv.length;have hd:X.A.in1.handled=aC:=I.ok.hd hc;have p:s.heap.IsTuple a its.toArray:=p;refine PySem.wpAny_pyNext_enum_endD (n:=0) (P:=λ_ _=>True) (St:=λ_ h=>h.IsTupleIter it a i/\h.IsTuple a its.toArray) (fp:=[it,a]) ⟨?_,?_,?_,?_⟩ he ⟨st,p⟩ λh' eb=>⟨rfl,I.turned (t':=s.toks) (λb o hb q=>eb b o hb q) f0 f1 f3 f4 f5⟩
  exact λ_ _ st=>let⟨o,ho,_⟩:=st.1;⟨o,ho⟩;exact λ_ _ _ st hk=>⟨st.1.at λo e=>hk it (by simp) o e,Ly st.2 λo e=>hk a (by simp) o e⟩
  exact λj s' Q' E' hj=>absurd hj (yU _);exact λs' Q' E' st' q'=>GC hd st'.1 st'.2 (by simp;lia) q'
 self:=λ_ _ _ _ _ st h=>by
  obtain⟨⟨old,he⟩,_⟩:=st;exact wpAny_pyIter_enum he h
section
variable{κ:Type}[DecidableEq κ]
noncomputable def fj(kvs:List (κ×V))(k:κ):Option V:=(kvs.find? λkv=>decide (kv.1=k)).map (·.2)
noncomputable def putK(kvs:List (κ×V))(k:κ)(v:V):List (κ×V):=
 if(kvs.any λkv=>decide (kv.1=k))=true then kvs.map (λkv=>if kv.1=k then(kv.1,v)else kv)else kvs++[(k,v)]
theorem Dw{p:κ×V}{r:List (κ×V)}{k:κ}(e:p.1=k):fj (p::r) k=aB p.2:=by simp[fj,nR,e]
theorem Aj{p:κ×V}{r:List (κ×V)}{k:κ}(e:¬p.1=k):fj (p::r) k=fj r k:=by simp[fj,nR,e]
theorem LA(k:κ):∀kvs:List (κ×V),(kvs.any λkv=>decide (kv.1=k))=(fj kvs k).isSome
 |[]=>rfl
 |p::r=>by
  rw[xy];by_cases e:p.1=k;simp only[Dw e,jm e,Bool.true_or,Option.isSome_some];rw[Aj e,jl e,Bool.false_or];exact LA k r
theorem Dy(kvs:List (κ×V))(k:κ)(v:V):(putK kvs k v).length<=kvs.length+1:=by unfold putK;split;rw[bD];lia;rw[fE,dg,CZ];lia
theorem gF.mQ{o:Option V}{u:Option aa}(r:gF o u):o.isSome=u.isSome:=by
 cases o with
 |none=>cases u with
  |none=>rfl
  |some _=>exact(show False from r).elim
 |some _=>cases u with
  |none=>exact(show False from r).elim
  |some _=>rfl
theorem gF.getD{o:Option V}{u:Option aa}{d:V}{d':aa}(r:gF o u)(rd:RelV d d'):RelV (o.getD d) (u.getD d'):=by
 cases o with
 |none=>cases u with
  |none=>exact rd
  |some _=>exact(show False from r).elim
 |some _=>cases u with
  |none=>exact(show False from r).elim
  |some _=>exact r
theorem KV.val{kvs:List (κ×V)}{vs:List (κ×aa)}(r:KV kvs vs)(k:κ):gF (fj kvs k) (valueAt vs k):=by
 unfold KV at r;induction r with
 |nil=>exact True.intro
 | @cons p q ps qs h t ih=>
  obtain⟨h1,h2⟩:=h;by_cases e:p.1=k;have e':q.1=k:=h1.symm.trans e;have b:valueAt (q::qs) k=aB q.2:=by simp[valueAt,nR,e']
  rw[Dw e,b];exact h2;have e':¬q.1=k:=λz=>e (h1.trans z);have b:valueAt (q::qs) k=valueAt qs k:=by simp[valueAt,nR,e']
  rw[Aj e,b];exact ih
theorem KV.any{kvs:List (κ×V)}{vs:List (κ×aa)}(r:KV kvs vs)(k:κ):(kvs.any λkv=>decide (kv.1=k))=vs.any λkv=>decide (kv.1=k):=by
 unfold KV at r;induction r with|nil=>rfl|cons h t ih=>rw[xy,xy,ih,h.1]
theorem KV.repl{kvs:List (κ×V)}{vs:List (κ×aa)}(r:KV kvs vs)(k:κ){y:V}{u:aa}(ry:RelV y u) :
 KV (kvs.map λkv=>if kv.1=k then(kv.1,y)else kv) (vs.map λkv=>if kv.1=k then(kv.1,u)else kv):=by
 unfold KV at r ⊢;induction r with
 |nil=>exact .nil
 | @cons p q ps qs h t ih=>
  rw[fF,fF];refine .cons ?_ ih;obtain⟨h1,h2⟩:=h;by_cases e:p.1=k;rw[if_pos e,if_pos (h1.symm.trans e)];exact⟨h1,ry⟩;rw[if_neg e,if_neg (λz=>e (h1.trans z))];exact⟨h1,h2⟩
theorem KV.put{kvs:List (κ×V)}{vs:List (κ×aa)}(r:KV kvs vs)(k:κ){y:V}{u:aa}(ry:RelV y u):KV (putK kvs k y) (stored vs k u):=by unfold putK stored;rw[r.any k];by_cases e:(vs.any λkv=>decide (kv.1=k))=true;rw[if_pos e,if_pos e];exact r.repl k ry;rw[if_neg e,if_neg e];exact Paired.snoc r ⟨rfl,ry⟩
theorem KV.keys{kvs:List (κ×V)}{vs:List (κ×aa)}(r:KV kvs vs):kvs.map (·.1)=vs.map (·.1):=by
 unfold KV at r;induction r with|nil=>rfl|cons h t ih=>rw[fF,fF,ih,h.1]
theorem KV.length{kvs:List (κ×V)}{vs:List (κ×aa)}(r:KV kvs vs):kvs.length=vs.length:=xG r
end
theorem jv{P:ai}{w:aj}{k:Key}{u:aa}(r:RelV (kV k) u):(iC P w).is k u=true:=by
 cases k with|inl i=>obtain⟨t,e⟩:=(show ∃t,u=Value.int i t from r);subst e;exact O4 P w i t|inr x=>obtain⟨t,e⟩:=(show ∃t,u=Value.str x t from r);subst e;exact O5 P w x t
theorem LB{P:ai}{w:aj}:∀{ks:List Key} {us:List aa},Vals (ks.map kV) us->ItemsAre (iC P w) ks us
 |[],_,r=>by rw[uV]at r;cases r;exact .nil
 |k::ks,_,r=>by
  rw[fF]at r;cases r with|cons h t=>exact .cons (jv h) (LB t)
noncomputable abbrev KT(H:Hp):List (List Key×V)->List (List Key×ah×aa)->Prop:=Paired λp q=>p.1=q.1/\H q.2.1=aB (.tup (p.1.map kV))/\RelV p.2 q.2.2
theorem KT.val{H:Hp}{kvs:List (List Key×V)}{xs:List (List Key×ah×aa)}(r:KT H kvs xs)(k:List Key):gF (fj kvs k) ((atKey xs k).map (·.2)):=by
 induction r with
 |nil=>exact True.intro
 | @cons p q ps qs h t ih=>
  obtain⟨h1,_,h2⟩:=h;by_cases e:p.1=k;have e':q.1=k:=h1.symm.trans e;have b:atKey (q::qs) k=aB q.2:=by simp[atKey,nR,e']
  rw[Dw e,b];exact h2;have e':¬q.1=k:=λz=>e (h1.trans z);have b:atKey (q::qs) k=atKey qs k:=by simp[atKey,nR,e']
  rw[Aj e,b];exact ih
theorem KT.repl{H:Hp}{kvs:List (List Key×V)}{xs:List (List Key×ah×aa)}(r:KT H kvs xs)(k:List Key){y:V}{u:aa}(ry:RelV y u) :
 KT H (kvs.map λkv=>if kv.1=k then(kv.1,y)else kv) (xs.map (putAt k u)):=by
 induction r with
 |nil=>exact .nil
 | @cons p q ps qs h t ih=>
  rw[fF,fF];refine .cons ?_ ih;obtain⟨h1,h2,h3⟩:=h;unfold putAt;by_cases e:p.1=k;rw[if_pos e,if_pos (h1.symm.trans e)];exact⟨h1,h2,ry⟩;rw[if_neg e,if_neg (λz=>e (h1.trans z))];exact⟨h1,h2,h3⟩
theorem KT.put{H:Hp}{kvs:List (List Key×V)}{xs:List (List Key×ah×aa)}(r:KT H kvs xs)(k:List Key){b:ah}{y:V}{u:aa}(hb:H b=aB (.tup (k.map kV)))(ry:RelV y u) :
 KT H (putK kvs k y) (storedH xs k b u):=by
 have e:(kvs.any λkv=>decide (kv.1=k))=(atKey xs k).isSome:=by rw[LA,(r.val k).mQ,Option.isSome_map]
 unfold putK storedH;rw[e];by_cases q:(atKey xs k).isSome=true;rw[if_pos q,if_pos q];exact r.repl k ry;rw[if_neg q,if_neg q];exact Paired.snoc r ⟨rfl,hb,ry⟩
theorem KT.keeps{H H':Hp}{kvs:List (List Key×V)}{xs:List (List Key×ah×aa)}(r:KT H kvs xs)(ht:∀b ys,H b=aB (.tup ys)->H' b=aB (.tup ys)):KT H' kvs xs:=
 Paired.uZ r λ_ _ z=>⟨z.1,ht _ _ z.2.1,z.2.2⟩
section
variable{P:ai}{w:aj}{H:Hp}{h:az}{a:ah}
theorem tG{u:HO}(ok:fm P w H h)(e:Rd H a u):br P w H h a u:=e.ok ok
theorem jw{kvs:List (Key×V)}(ok:fm P w H h)(e:Rd H a (.dK kvs)):kvs.length<=sizeLine/\(a==sysModules)=false/\∃vs,KV kvs vs/\h.DictOf (iC P w) a vs:=
 show br P w H h a (.dK kvs)from tG ok e
theorem kj{kvs:List (Key×V)}(ok:fm P w H h)(e:H a=aB (.dK kvs)):kvs.length<=sizeLine/\(a==sysModules)=false/\∃vs,KV kvs vs/\h.DictOf (iC P w) a vs:=jw ok (.inl e)
theorem Dz{ks:List Key}(ok:fm P w H h)(e:H a=aB (.tup (ks.map kV))):(tupleKind (iC P w)).is h ks a:=by
 obtain⟨_,its,r,o,h1,h2,⟨n,h3⟩,_⟩:=(show br P w H h a (.tup (ks.map kV))from ok a _ e)
 exact⟨o,its.toArray,n,h1,h2,h3,by simpa using LB r⟩
theorem ko{kvs:List (List Key×V)}(ok:fm P w H h)(e:Rd H a (.dT kvs)):kvs.length<=sizeLine/\(a==sysModules)=false/\
 ∃xs,KT H kvs xs/\h.DictOfH (tupleKind (iC P w)) a xs:=by
 obtain⟨z,y,xs,r,o,es,ep,h1,h2,h3,h4,h5⟩:=(show br P w H h a (.dT kvs)from tG ok e)
 refine⟨z,y,xs,r,o,es,ep,h1,h2,h3,h4,λx hx=>?_,h5⟩;have all:∀{l:List (List Key×V)}{m:List (List Key×ah×aa)},KT H l m->∀x∈m,(tupleKind (iC P w)).is h x.1 x.2.1:=by
  intro l m q;induction q with
  |nil=>intro x hx;exact nomatch hx
  | @cons p q ps qs hq t ih=>
   intro x hx;rcases fT.mp hx with e|hx
   subst e;exact Dz ok (by rw[<-hq.1];exact hq.2.1);exact ih x hx
 exact all r x hx
theorem Ak{kvs:List (List Key×V)}(ok:fm P w H h)(e:H a=aB (.dT kvs)):kvs.length<=sizeLine/\(a==sysModules)=false/\
 ∃xs,KT H kvs xs/\h.DictOfH (tupleKind (iC P w)) a xs:=ko ok (.inl e)
end
noncomputable def mR(H:Hp)(a:ah)(y:V)(r:Option V):Prop:=
 (∃kvs k,Rd H a (.dK kvs)/\y=kV k/\r=fj kvs k)\/∃kvs k b,Rd H a (.dT kvs)/\y=.ref b/\H b=aB (.tup (k.map kV))/\r=fj kvs k
noncomputable def qR(H:Hp)(a:ah)(y v:V)(H':Hp):Prop:=
 (∃kvs k,H a=aB (.dK kvs)/\y=kV k/\kvs.length<sizeLine/\H'=upd H a (.dK (putK kvs k v)))\/
 ∃kvs k b,H a=aB (.dT kvs)/\y=.ref b/\H b=aB (.tup (k.map kV))/\kvs.length<sizeLine/\H'=upd H a (.dT (putK kvs k v))
theorem qR.k{H:Hp}{a:ah}{kvs:List (Key×V)}{k:Key}{v:V}(e:H a=aB (.dK kvs))(hl:kvs.length<sizeLine):qR H a (kV k) v (upd H a (.dK (putK kvs k v))):=.inl ⟨kvs,k,e,rfl,hl,rfl⟩
section
variable{X:Cx}{pins:List (ah×Obj)}{σ:St}{H:Hp}{s:af}{a:ah}{y v:V}{u r:aa}{o:Option V}{A:ak}{E:aa->af->Prop}
theorem Inv.big(I:Inv X pins σ H s):sysModules<s.heap.objs.size:=by have h:mainGlobals<s.heap.objs.size:=(I.mod.glob.keeps I.bk).lt;exact Nat.lt_trans (by decide) h
theorem RI{Q:aa->af->Prop}(hu:A.units+1<cLine)(I:Inv X pins σ H s)(g:mR H a y (aB v))(ry:RelV y u)(h:∀w' s',Inv X pins σ H s'->RelV v w'->Q w' s') :
 wpAny (model X.prog X.w) A (getItem (.ref a) u) Q E s:=by
 rcases g with⟨kvs,k,e,ey,l⟩|⟨kvs,k,b,e,ey,eb,l⟩;subst ey;obtain⟨z,hd,vs,rel,dd⟩:=jw I.hok e;obtain⟨w',hw,rw'⟩:=gF.some_of (v:=v) (o:=valueAt vs k) (by rw[l];exact rel.val k);exact wpAny_getItem_of (jv ry) dd.mapOf hw (h w' _ (I.tok _) rw');subst ey;cases(show u=Value.ref b from ry);obtain⟨z,hd,xs,rel,dd⟩:=ko I.hok e;obtain⟨w',hw,rw'⟩:=gF.some_of (v:=v) (o:=(atKey xs k).map (·.2)) (by rw[l];exact rel.val k);obtain⟨p,hp,hp2⟩:=Option.map_eq_some_iff.mp hw;refine wpAny_getItem_heap (tupleKind_room_in1 hu) (Dz I.hok eb) dd hp ?_;rw[hp2];exact h w' _ (I.tok _) rw'
theorem Al{h':az}{t':Nat}{ob:HO}(I:Inv X pins σ H s)(mu:zf (H a))(hs:Heap.SameBut a s.heap h')(he:∃q,h'.get? a=aB q)(new:br X.prog X.w (upd H a ob) h' a ob) :
 Inv X pins σ (upd H a ob) {s with heap:=h',toks:=t'}:=
 I.write (x:=a) (e:=a) mu (.inl rfl) (λb q hb z=>(hs.2 b hb).trans z) he new
theorem DA{P:ai}{w:aj}{H':Hp}{h':az}{kvs:List (Key×V)}{vs:List (Key×aa)}(z:kvs.length<=sizeLine)(hd:(a==sysModules)=false)(rel:KV kvs vs)(dd:h'.DictOf (iC P w) a vs) :
 br P w H' h' a (.dK kvs):=⟨z,hd,vs,rel,dd⟩
theorem RJ{H':Hp}{Q:Unit->af->Prop}(hu:A.units+1<cLine)(I:Inv X pins σ H s)(g:qR H a y v H')(ry:RelV y u)(rv:RelV v r)(h:∀s',Inv X pins σ H' s'->Q () s') :
 wpAny (model X.prog X.w) A (setItem (.ref a) u r) Q E s:=by
 rcases g with⟨kvs,k,e,ey,l,eH⟩|⟨kvs,k,b,e,ey,eb,l,eH⟩;subst ey eH;obtain⟨z,hd,vs,rel,dd⟩:=kj I.hok e;have hz:vs.length<=sizeLine:=by rw[<-rel.length];exact z
 have hl:(putK kvs k v).length<=sizeLine:=by have:=Dy kvs k v;lia
 refine wpAny_setItem_pairs (hsz:=hz) (jv ry) dd λh' mS hs=>h _ ?_;have he:∃q,h'.get? a=aB q:=let⟨q,_,_,hq,_⟩:=mS;⟨q,hq⟩;exact Al I (by rw[e];exact True.intro) hs he (DA hl hd (rel.put k rv) mS);subst ey eH;cases(show u=Value.ref b from ry);obtain⟨z,hd,xs,rel,dd⟩:=Ak I.hok e;have hz:xs.length<=sizeLine:=by rw[<-xG rel];exact z
 have hl:(putK kvs k v).length<=sizeLine:=by have:=Dy kvs k v;lia
 refine wpAny_setItem_heap (hsz:=hz) (tupleKind_room_in1 hu) (Dz I.hok eb) dd λh' mS hs=>h _ ?_;obtain⟨q,es,ep,hq,h2,h3,h4,_,h5⟩:=mS;refine Al I (by rw[e];exact True.intro) hs ⟨q,hq⟩ ⟨hl,hd,_,(rel.put k eb rv).keeps λc ys ec=>?_,q,es,ep,hq,h2,h3,h4,h5⟩;rw[bZ (cD ec e (λz=>nomatch z))];exact ec
end
theorem RK{X:Cx}{pins:List (ah×Obj)}{σ:St}{H:Hp}{s:af}{a:ah}{y:V}{o:Option V}(I:Inv X pins σ H s)(g:mR H a y o):s.TypeIs (.ref a) "dict":=by rcases g with⟨kvs,k,e,_,_⟩|⟨kvs,k,b,e,_,_,_⟩;obtain⟨_,_,vs,_,dd⟩:=jw I.hok e;exact dd.typeIs;obtain⟨_,_,xs,_,dd⟩:=ko I.hok e;exact dd.typeIs
theorem GF{P:ai}{w:aj}{H:Hp}(h:az)(hb:sysModules<h.objs.size):br P w H (h.push {cls:=.type "dict",data:=.dict #[]}) h.objs.size (.dK []):=
 ⟨lJ _,CG.mpr (fH (gE hb)),[],.nil,Heap.DictOf.new h⟩
noncomputable def RL:TE:=λ_ H Q=>∀p,H p=aC->Q (.ref p) (upd H p (.dK []))
section
variable{X:Cx}{pos:Pos}
theorem RM:PE X (.Dict [] [] pos) RL:=λpins s σ H Q I h=>
 wpAny_Dict_empty ⟨.ref s.heap.objs.size,_,I.laid (a:=s.heap.objs.size) (o:=.dK []) (t':=s.toks) (λ_ _ q=>di _ q) (bf _) (GF s.heap I.big),rfl,h _ (I.hok.fresh (bf _))⟩
end
noncomputable def DB:List (TE×TE)->St->Hp->(List (V×V)->Hp->Prop)->Prop|[],_,H,Q=>Q [] H|(tk,tv)::r,σ,H,Q=>tk σ H λx H1=>tv σ H1 λy H2=>DB r σ H2 λps H3=>Q ((x,y)::ps) H3
noncomputable abbrev VV:List (V×V)->List (aa×aa)->Prop:=Paired λp q=>RelV p.1 q.1/\RelV p.2 q.2
noncomputable def Am(X:Cx)(pos:Pos)(keys:List (Option ao))(values:List ao)(lU:List (TE×TE)):Prop:=
 ∀(pins:List (ah×Obj))(s:af)(σ:St)(H:Hp)(Q:List (V×V)->Hp->Prop),Inv X pins σ H s->DB lU σ H Q->
  wpAny (model X.prog X.w) X.A (evalPairs (pairTrees keys values X.env pos)) (λvs s'=>∃ps H',Inv X pins σ H' s'/\VV ps vs/\Q ps H') X.xe s
theorem RN{X:Cx}{pos:Pos}:Am X pos [] [] []:=λpins s σ H Q I h=>pairTrees_nil_walk ⟨[],H,I,.nil,h⟩
theorem RO{X:Cx}{pos:Pos}{k v:ao}{ks:List (Option ao)}{vs:List ao}{tk tv:TE}{lU:List (TE×TE)}(hk:PE X k tk)(hv:PE X v tv)(hr:Am X pos ks vs lU) :
 Am X pos (aB k::ks) (v::vs) ((tk,tv)::lU):=λpins s σ H Q I h=>
 pairTrees_cons_walk (bg (hk pins s σ H _ I h) λu s1 z9=>z9.el λx H1 I1 rx q1=>bg (hv pins s1 σ H1 _ I1 q1) λw2 s2 z9=>z9.el λy H2 I2 ry q2=>
  bg (hr pins s2 σ H2 _ I2 q2) λws s3 ⟨ps,H3,I3,rel,q3⟩=>⟨(x,y)::ps,H3,I3,.cons ⟨rx,ry⟩ rel,q3⟩)
noncomputable def pQ(kvs more:List (Key×V)):List (Key×V):=more.foldl (λacc kv=>putK acc kv.1 kv.2) kvs
theorem KV.merge:∀{more:List (Key×V)} {rs:List (Key×aa)} {kvs:List (Key×V)} {vs:List (Key×aa)},KV more rs->KV kvs vs->KV (pQ kvs more) (merged vs rs):=by
 intro more rs kvs vs r;unfold KV at r;induction r generalizing kvs vs with
 |nil=>intro q;exact q
 | @cons p q ps qs h t ih=>
  intro r0;have e:KV (putK kvs p.1 p.2) (stored vs q.1 q.2):=by have:=r0.put p.1 h.2;rw[<-h.1];exact this
  exact ih e
theorem GG:∀(more kvs:List (Key×V)),(pQ kvs more).length<=kvs.length+more.length
 |[],kvs=>by show kvs.length<=kvs.length+0;lia
 |p::r,kvs=>by
  have h1:=GG r (putK kvs p.1 p.2);have h2:=Dy kvs p.1 p.2;show(pQ (putK kvs p.1 p.2) r).length<=_;rw[dg];lia
theorem LC{P:ai}{w:aj}:∀{kvs:List (Key×V)} {ws:List (aa×aa)},VV (kvs.map λkv=>(kV kv.1,kv.2)) ws->∃rs,Carries (iC P w) ws rs/\KV kvs rs
 |[],_,r=>by rw[uV]at r;cases r;exact⟨[],True.intro,.nil⟩
 |p::kvs,_,r=>by
  rw[fF]at r;cases r with
  | @cons a b as bs h t=>
   obtain⟨rs,c,q⟩:=LC (P:=P) (w:=w) t;obtain⟨b1,b2⟩:=b;exact⟨(p.1,b2)::rs,⟨jv h.1,rfl,c⟩,.cons ⟨rfl,h.2⟩ q⟩
noncomputable def An(lU:List (TE×TE)):TE:=λσ H Q=>∀p,H p=aC->DB lU σ (upd H p (.dK [])) λps H2=>H2 p=aB (.dK [])/\∃kvs:List (Key×V),ps=kvs.map (λkv=>(kV kv.1,kv.2))/\kvs.length<=15/\Q (.ref p) (upd H2 p (.dK (pQ [] kvs)))
theorem RP{X:Cx}{pos:Pos}{keys:List (Option ao)}{values:List ao}{lU:List (TE×TE)}(h:Am X pos keys values lU)(hall:keys.all (·.isSome))(hl:keys.length=values.length)(h0:keys≠[])
 (GH:keys.length<=15):PE X (.Dict keys values pos) (An lU):=by
 intro pins s σ H Q I q;have hn:=I.hok.fresh (bf s.heap.objs.size);have I1:=I.laid (a:=s.heap.objs.size) (o:=.dK []) (h':=s.heap.push {cls:=.type "dict",data:=.dict #[]}) (t':=s.toks) (λ_ _ q=>di _ q) (bf _) (GF s.heap I.big);refine wpAny_Dict_walk (knd:=iC X.prog X.w) hall hl h0 GH (bg (h pins _ σ _ _ I1 (q _ hn)) λws s2 b9=>?_);obtain⟨ps,H2,I2,rel,e,kvs,ep,lk,q2⟩:=b9;subst ep;obtain⟨rs,c,rk⟩:=LC (P:=X.prog) (w:=X.w) rel;obtain⟨z,hd,tH,r0,dd⟩:=kj I2.hok e;cases r0;refine⟨rs,c,dd,λh' mS hs=>⟨.ref s.heap.objs.size,_,?_,rfl,q2⟩⟩;have hz:(pQ [] kvs).length<=sizeLine:=by have h1:=GG kvs [];rw[CZ]at h1;rw[yN];lia
 have he:∃q,h'.get? s.heap.objs.size=aB q:=let⟨q,_,_,hq,_⟩:=mS;⟨q,hq⟩;exact Al I2 (by rw[e];exact True.intro) hs he (DA hz hd (rk.merge .nil) mS)
structure M2(X:Cx)(o:ao)(m:Str)(apos:Pos)(e f:ao)(cpos:Pos):Prop where
 base:attributeBase o m X.env (eval o X.env)=eval o X.env
 few:((backTo cpos (starEach [e,f] X.env)).all (λx=>!x.1)&& (backToKw cpos (keywordEach [] X.env)).all (λx=>x.1.isSome)
  && decide (([e,f]:List ao).length+ ([]:List Keyword).length+ (if([]:List Keyword).isEmpty then 0 else 1)<30))=true
 line:(apos.endLine==cpos.line)=true
 trees:backTo cpos (starEach [e,f] X.env)=[(false,eval e X.env),(false,eval f X.env)]
noncomputable def LD(H:Hp)(a:ah):Prop:=(∃kvs,Rd H a (.dK kvs))\/∃kvs,Rd H a (.dT kvs)
theorem RQ{X:Cx}{pins:List (ah×Obj)}{σ:St}{H:Hp}{s:af}{a:ah}(I:Inv X pins σ H s)(d:LD H a) :
 s.TypeIs (.ref a) "dict"/\(∀b,Value.ref a=.ref b->∃ob,s.heap.get? b=aB ob/\ob.dict=aC)/\(a==sysModules)=false:=by
 rcases d with⟨kvs,e⟩|⟨kvs,e⟩;obtain⟨_,hd,vs,_,dd⟩:=jw I.hok e;refine⟨dd.typeIs,λb q=>?_,hd⟩;cases q;obtain⟨ob,_,_,h1,h2,_⟩:=dd;exact⟨ob,h1,h2.2.1⟩;obtain⟨_,hd,xs,_,dd⟩:=ko I.hok e;refine⟨dd.typeIs,λb q=>?_,hd⟩;cases q;obtain⟨ob,_,_,h1,h2,_⟩:=dd;exact⟨ob,h1,h2.2.1⟩
section
variable{X:Cx}{pins:List (ah×Obj)}{σ:St}{H:Hp}{s:af}{a:ah}{y d:V}{u r:aa}{o:Option V}{A:ak}{E:aa->af->Prop}
theorem RS{Q:aa->af->Prop}(hu:A.units+1<cLine)(I:Inv X pins σ H s)(g:mR H a y o)(ry:RelV y u)(rd:RelV d r)(h:∀w' s',Inv X pins σ H s'->RelV (o.getD d) w'->Q w' s') :
 wpAny (model X.prog X.w) A (call (.builtin "dict.get") [.ref a,u,r]) Q E s:=by
 rcases g with⟨kvs,k,e,ey,l⟩|⟨kvs,k,b,e,ey,eb,l⟩;subst ey;obtain⟨z,hd,vs,rel,dd⟩:=jw I.hok e;refine call_meetsIn PySem.F.slot_dict_get dd.typeIs PySem.F.entry_dict_get (PySem.F.args_dict_get_3 _ _ _) (meets_dict_get_default (iC X.prog X.w) a (jv ry) hd r) ⟨_,dd.mapOf,h _ _ (I.tok _) ?_⟩;rw[l];exact(rel.val k).getD rd;subst ey;cases(show u=Value.ref b from ry);obtain⟨z,hd,xs,rel,dd⟩:=ko I.hok e;refine call_meetsIn PySem.F.slot_dict_get dd.typeIs PySem.F.entry_dict_get (PySem.F.args_dict_get_3 _ _ _) (meetsH_dict_get_default (tupleKind (iC X.prog X.w)) a b hd r) ⟨tupleKind_room_in1 hu,k,xs,Dz I.hok eb,dd,h _ _ (I.tok _) ?_⟩;rw[l];exact(rel.val k).getD rd
end
noncomputable def RT(td ty tx:TE):TE:=λσ H Q=>td σ H λx H1=>∃a,x=.ref a/\LD H1 a/\ty σ H1 λy H2=>tx σ H2 λz H3=>∃o,mR H3 a y o/\Q (o.getD z) H3
section
variable{X:Cx}{o e f:ao}{apos cpos:Pos}{td ty tx:TE}
theorem RU(hu:X.A.units+1<cLine)(ho:PE X o td)(he:PE X e ty)(hf:PE X f tx)(m:M2 X o "get" apos e f cpos):PE X (.Call (.Attribute o "get" apos) [e,f] [] cpos) (RT td ty tx):=by
 intro pins s σ H Q I h;refine wpAny_Call_method m.base m.few m.line PySem.F.plainAttrs_dict PySem.F.slot_dict_get PySem.F.type_dict_get (bg (ho pins s σ H _ I h) λu s1 z9=>z9.el λx H1 I1 rx b9=>?_);obtain⟨a,ex,d,q1⟩:=b9;subst ex;obtain rfl:u=Value.ref a:=rx;obtain⟨t1,t2,_⟩:=RQ I1 d;refine⟨t1,t2,?_⟩;rw[m.trees];refine Calls.callWith_builtin rfl (Calls.evalArgs_plain (Calls.spliced_cons (bg (he pins s1 σ H1 _ I1 q1) λiv s2 z9=>z9.el λy H2 I2 ry q2=>
  Calls.spliced_cons (bg (hf pins s2 σ H2 _ I2 q2) λfv s3 z9=>z9.el λz H3 I3 rz ⟨ov,g,q3⟩=>Calls.spliced_nil ?_))))
 exact RS hu I3 g ry rz λw' s4 I4 rw'=>⟨_,H3,I4,rw',q3⟩
end
noncomputable def kq(e tg iter:ao)(ifs:List ao)(it acc:aa)(env:Env)(emit:Sem Unit):Sem Fin:=do
 standAt iter.pos
 match <-pyNext it with
 |none=>pure (.done .next)
 |some v=>
  letOwnedTupleGo tg it v
  assign tg env v
  let ok <-xU ifs env
  if ok then emit
  again (.compLoop e 0 it acc env)
theorem RV{prog:ai}{w:aj}{A:ak}{R:Result->af->Prop}{s:af}{e target iter:ao}{ifs:List ao}{it acc:aa}{env:Env}{emit:Sem Unit}(he:compTurn e 0 it acc env=kq e target iter ifs it acc env emit)
 (hd:(model prog w).den (.compLoop e 0 it acc env)=(compTurn e 0 it acc env).onRaise (λx=>do noteFrame x env;theTreesLotGoes x)) (hA:A.under (.compLoop e 0 it acc env)=A) (I:Nat->af->Prop)
 (turn:∀n s,I n s->wpAny (model prog w) A (pyNext it) (λr s₁=>match r with
   |none=>R (.ok .next) s₁
   |some v=>wpAny (model prog w) A (letOwnedTupleGo target it v) (λ_ s₀=>wpAny (model prog w) A (assign target env v) (λ_ s₂=>
    wpAny (model prog w) A (xU ifs env) (λok s₃=>
     if ok=true then wpAny (model prog w) A emit (λ_ s₅=>∃m,m<n/\I m s₅) gW s₃
     else ∃m,m<n/\I m s₃) gW s₂) gW s₀) gW s₁) gW s)
 (n:Nat) (h:I n s):codeAny (model prog w) A (.compLoop e 0 it acc env) R s:=by
 refine codeAny_loop rfl I (λn s hI=>?_) n h;rw[hd,hA];refine wpAny_noted (Gg ?_);rw[he];unfold kq;refine aS (mE (aS (gV (turn n s hI) (λr s₁ h₁=>?_) λ_ _ z=>z)));cases r with
 |none=>exact bS h₁
 |some v=>
  refine aS (gV h₁ (λ_ s₀ h₀=>?_) λ_ _ z=>z);refine aS (gV h₀ (λ_ s₂ h₂=>aS (gV h₂ (λok s₃ h₃=>?_) λ_ _ z=>z)) λ_ _ z=>z);cases ok with
  |true=>
   simp only[cC]at h₃ ⊢;exact aS (gV h₃ (λ_ s₅ h₅=>bS ⟨rfl,h₅⟩) λ_ _ z=>z)
  |false=>
   simp only[fG,ez]at h₃ ⊢;exact bS ⟨rfl,h₃⟩
theorem RW{prog:ai}{w:aj}{A:ak}{R:Result->af->Prop}{s:af}{e target iter:ao}{ifs:List ao}{rest:List Comprehension}{it acc:aa}{env:Env}(hcl:clausesOf e=⟨target,iter,ifs,0⟩::rest)
 (hd:(model prog w).den (.compStart e 0 it acc env)=(compStart e 0 it acc env).onRaise (λx=>do noteFrame x env;standAt theWindowsPlace)) (hA:A.under (.compStart e 0 it acc env)=A)
 (h0:codeAny (model prog w) A (.compLoop e 0 it acc env) R s)
 (h:wpAny (model prog w) A (pyIter it) (λj s'=>codeAny (model prog w) A (.compLoop e 0 j acc env) R s') (notedBy (model prog w) A env λx s'=>R (.error x) s') s) :
 codeAny (model prog w) A (.compStart e 0 it acc env) R s:=by
 refine codeAny_of_tree ?_;rw[hd,hA];refine wpAny_notedAt ?_;unfold compStart;rw[hcl];show wpAny _ _ (ask >>= _) _ _ s;refine aS (wpAny_askSetting (xr ?_));split;first
  |exact aS (bS (bS (And.intro rfl h0)))
  |exact bS (And.intro rfl h0)
 first
  |exact aS (qm (aS (mE (aS (gV h (λj s' h'=>bS ⟨rfl,h'⟩) λ_ _ z=>z)))))
  |(refine aS (qm ?_);show wpAny _ _ (standAt iter.pos >>= _) _ _ s;exact aS (mE (aS (gV h (λj s' h'=>bS ⟨rfl,h'⟩) λ_ _ z=>z))))
noncomputable abbrev TM:=St->Hp->(St->Hp->Prop)->Prop
noncomputable def PM(X:Cx)(emit:Sem Unit)(t:TM):Prop:=∀(pins:List (ah×Obj)) (s:af) (σ:St) (H:Hp) (Q:St->Hp->Prop),Inv X pins σ H s->t σ H Q->wpAny (model X.prog X.w) X.A emit (λ_ s'=>∃σ' H',Inv X pins σ' H' s'/\Q σ' H') X.xe s
structure kr(P:ai)(w:aj)(e tg iter:ao)(ifs:List ao)(emit:aa->Env->Sem Unit)(newAcc:Sem aa)(ob:Obj)(u0:HO):Prop where
 cl:∃rest,clausesOf e=⟨tg,iter,ifs,0⟩::rest
 turn:∀it acc env,compTurn e 0 it acc env=kq e tg iter ifs it acc env (emit acc env)
 dl:∀it acc env,(model P w).den (.compLoop e 0 it acc env)=(compTurn e 0 it acc env).onRaise (λx=>do noteFrame x env;theTreesLotGoes x)
 ds:∀it acc env,(model P w).den (.compStart e 0 it acc env)=(compStart e 0 it acc env).onRaise (λx=>do noteFrame x env;standAt theWindowsPlace)
 al:∀(A:ak) it acc env,A.under (.compLoop e 0 it acc env)=A
 as:∀(A:ak) it acc env,A.under (.compStart e 0 it acc env)=A
 new:∀(A:ak)(s:af)(Q:aa->af->Prop)(E:aa->af->Prop),Q (.ref s.heap.objs.size) {s with heap:=s.heap.push ob}->wpAny (model P w) A newAcc Q E s
 ok:∀(H:Hp)(h:az),sysModules<h.objs.size->br P w H (h.push ob) h.objs.size u0
noncomputable def tK(J:It)(f:St)(g:TG)(tc:TT)(tm:TM)(u0:HO)(D:ah)(H1:Hp)(Q:Hp->Prop):Prop:=
 ∃W:Nat->Nat->St->Hp->Prop,(∃m,W 0 m f (upd H1 D u0))/\∀i m σ' H',W i m σ' H'->
  ((J.stop i H'/\Q H')\/(J.go i H'/\∀x H2,J.tw i H' x H2->g x σ' H2 λσ2 H3=>tc σ2 H3 λb H4=>
    if b=true then tm σ2 H4 λkh H5=>∃m',m'<m/\W (i+1) m' kh H5
    else ∃m',m'<m/\W (i+1) m' σ2 H4))
noncomputable def DC(K:aK)(f:St->St)(wi:TI)(g:TG)(tc:TT)(tm:ah->TM)(u0:HO):TE:=λσ H Q=>wi σ H λJ H1=>∀D,H1 D=aC->K.lookup D=aC->tK J (f σ) g tc (tm D) u0 D H1 λH'=>Q (.ref D) H'
section
variable{X:Cx}{ow fr:List Str}{ix:List Nat}{scope:ay}{e tg iter:ao}{ifs:List ao}{pos:Pos}{wi:TI}{g:TG}{tc:TT}{tm:ah->TM}{emit:aa->Env->Sem Unit}{newAcc:Sem aa}{ob:Obj}{u0:HO}
theorem LF{pins:List (ah×Obj)}{s:af}{σ:St}{Q:VK}{RR:aa->ah->Result->af->Prop}(CK:kr X.prog X.w e tg iter ifs emit newAcc ob u0)(S:aW X ow fr ix scope)(hc:X.calm=true)
 (hg:∀C s₀ H₀ ex,PG (X.comp (ow++fr) scope C s₀ H₀ ex) tg g) (ht:∀C s₀ H₀ ex,iG (X.comp (ow++fr) scope C s₀ H₀ ex) ifs tc) (he:∀C s₀ H₀ ex D,PM (X.comp (ow++fr) scope C s₀ H₀ ex) (emit (.ref D) (X.comp (ow++fr) scope C s₀ H₀ ex).env) (tm D))
 {itv:aa} {E:aa->af->Prop}
 (h:zA X pins σ tg (λJ H1=>∀D,H1 D=aC->X.K.lookup D=aC->tK J (ju ow fr ix σ) g tc (tm D) u0 D H1 λH'=>Q (.ref D) H') itv s)
 (fin:∀D C H' s' m,eE X pins H' C->s'.heap.Ns C m->(∀h'',Heap.SameBut C s'.heap h''->Inv X pins σ H' {s' with heap:=h''})->Q (.ref D) H'->RR (.ref D) C (.ok .next) s') :
 wpAny (model X.prog X.w) X.A newAcc (λacc s₃=>wpAny (model X.prog X.w) X.A (newFunctionEnv scope X.env.globals (jJ X.env.cells scope.names []) [] X.env.qual aC .none (aB X.env)) (λcenv s₄=>
  codeAny (model X.prog X.w) X.A (.compStart e 0 itv acc {cenv with scope:=relabel scope X.env}) (RR acc cenv.locals) s₄) E s₃) E s:=by
 obtain⟨it,fp,tn,J,H1,ei,I1,T,st1,f1,hq⟩:=h;subst ei;have hD:H1 s.heap.objs.size=aC:=I1.hok.fresh (bf _);have Gj:X.K.lookup s.heap.objs.size=aC:=by
  cases q:X.K.lookup s.heap.objs.size with|none=>rfl|some o=>exact absurd (dz (I1.jt _ _ q)) (gC _)
 obtain⟨W,⟨m0,w0⟩,turn⟩:=hq _ hD Gj;have I3:Inv X pins σ (upd H1 s.heap.objs.size u0) {s with heap:=s.heap.push ob}:=I1.laid (t':=s.toks) (o:=u0) (λb u q=>di _ q) (bf _) (CK.ok _ _ I1.big);have n9:∀b∈fp,b<s.heap.objs.size:=λb hb=>by
  obtain⟨o,ho,_⟩:=T.obj _ _ st1 b hb;exact dz ho
 have f3:∀b∈fp,eE X pins (upd H1 s.heap.objs.size u0) b:=λb hb=>⟨by rw[bZ (gE (n9 b hb))];exact(f1 b hb).1,(f1 b hb).2⟩
 refine CK.new _ _ _ _ (Lo (λx c e=>(I3.cell x c (Dq (cells:=X.env.cells) scope.names [] (λx c e=>by cases e) x c e)).elim λv q=>q.lt) (λh₁ hns hk0 hnc=>?_));dsimp only at hns hk0 hnc ⊢;generalize Af:({s with heap:=s.heap.push ob}:af)=s3 at I3;have vt:s3.heap=s.heap.push ob:=by rw[<-Af]
 rw[<-vt]at hns hk0 hnc ⊢;have hk:∀b o,s3.heap.get? b=aB o->h₁.get? b=aB o:=hk0;have vz:∀b∈fp,b<s3.heap.objs.size:=λb hb=>by rw[vt,j6];exact xB (n9 b hb)
 have J3:=Lr S I3 f3 vz (tk:=s.toks) hns hk hnc;have st3:tn 0 h₁:=T.keep _ _ _ st1 λb hb o q=>hk b o (by rw[vt];exact di _ q);generalize mT:X.comp (ow++fr) scope s3.heap.objs.size s3 (upd H1 s.heap.objs.size u0) fp=Y at J3;have vA:∀b∈fp,Y.Ok->∀{H':Hp},H' b=aC->eE Y [] H' b:=λb hb ok H' hn=>by
  subst mT;exact⟨hn,(ok.xN b hb).1,ok.mH b hb,.inl hb,(ok.xN b hb).2,λp hp=>by cases(show p∈([]:List (ah×Obj))from hp)⟩
 have back:∀{σ':St}{H':Hp}{s':af},Inv Y [] σ' H' s'->∀h'',Heap.SameBut s3.heap.objs.size s'.heap h''->Inv X pins σ H' {s' with heap:=h''}:=λ{σ' H' s'} I' h'' hs=>by
  subst mT;have nI:∀b o,s3.heap.get? b=aB o->b≠s3.heap.objs.size:=λb o q=>gE (dz q);have un:Un (frs X.stack) fp (upd H1 s.heap.objs.size u0) H' s3.heap h'':=
   ⟨λb o q n hb hx=>(hs.2 b (nI b o q)).trans (I'.base.keep b o q n hb hx),λb o q n hb hx=>by
    obtain⟨sl,z⟩:=I'.base.slot b o q n hb hx;exact⟨sl,(hs.2 b (nI b o q)).trans z⟩,I'.base.free,λb o q hx=>by
    obtain⟨o',z⟩:=I'.base.there b o q hx;exact⟨o',(hs.2 b (nI b o q)).trans z⟩,I'.base.tups,I'.base.iD,I'.base.ja⟩
  have hok:fm X.prog X.w H' h'':=λb ob q=>by
   refine(I'.hok b ob q).stay (λc w' hcc z=>(hs.2 c ?_).trans z) (λ_ z=>z) λ_ _ z=>z;rintro rfl;have hfree:=I'.free;rcases hcc with rfl|hcc
   rw[show H' s3.heap.objs.size=aC from hfree]at q;cases q;rw[show H' s3.heap.objs.size=aC from hfree]at hcc;cases hcc
  have hos:s'.os=s3.os:=I'.os;exact I3.sZ (s':={s' with heap:=h''}) (ch:=fp) hos un hok I'.bare λb hb=>by
   obtain⟨_,a1,a2,a3,a4,a5⟩:=f1 b hb;exact⟨a3,a1,a4,a5⟩
 have Ao:Y.prog=X.prog:=by subst mT;rfl
 have Aq:Y.w=X.w:=by subst mT;rfl
 have LG:Y.K=X.K:=by subst mT;rfl
 have Ar:Y.A=X.A:=by subst mT;rfl
 have LH:Y.calm=true:=by rw[<-mT];exact hc
 have GI:Y.xe=gW:=by subst mT;rfl
 have LI:Y.env.locals=s3.heap.objs.size:=by subst mT;rfl
 have hg':PG Y tg g:=by rw[<-mT];exact hg _ _ _ _
 have ht':iG Y ifs tc:=by rw[<-mT];exact ht _ _ _ _
 have he':∀D,PM Y (emit (.ref D) Y.env) (tm D):=λD=>by rw[<-mT];exact he _ _ _ _ D
 have loop:∀s4:af,Inv Y [] (ju ow fr ix σ) (upd H1 s.heap.objs.size u0) s4->tn 0 s4.heap->codeAny (model X.prog X.w) X.A (.compLoop e 0 (.ref it) (.ref s.heap.objs.size) Y.env) (RR (.ref s.heap.objs.size) s3.heap.objs.size) s4:=by
  intro s4 I4 Gk;refine RV (CK.turn _ _ _) (CK.dl _ _ _) (CK.al _ _ _ _) (λn s'=>∃i σ' H',Inv Y [] σ' H' s'/\tn i s'.heap/\(∀b∈fp,H' b=aC)/\W i n σ' H') ?_ m0 ⟨0,_,_,I4,Gk,λb hb=>(f3 b hb).1,w0⟩;rintro n s5 ⟨i,kh,H5,I5,mK,qH,w5⟩;rcases turn i n kh H5 w5 with⟨stop,q⟩|⟨go,step⟩
  .have td:=T.done Y Ao Aq LG LH i [] s5 kh H5 gW I5 (λb hb=>vA b hb I5.ok (qH b hb)) mK stop
   rw[Ar]at td;refine bg td λr s6 b9=>?_;obtain⟨hr,I6⟩:=b9;subst hr;obtain⟨m6,Du,_⟩:=I6.loc;rw[LI]at Du;have LJ:=I6.free;rw[LI]at LJ;exact fin _ _ H5 s6 m6 (I3.j8 (bf _) LJ) Du (back I6) q
  have td:=T.item Y Ao Aq LG LH i [] s5 kh H5 gW I5 (λb hb=>vA b hb I5.ok (qH b hb)) mK go;rw[Ar]at td;refine bg td λr s6 b9=>?_;obtain⟨u,hr,h6⟩:=b9;subst hr;refine bg h6 λ_ s7 b9=>?_;obtain⟨x,H7,I7,r7,y7,vB,Gn⟩:=b9;have Gp:=I7.pinned (λb hb=>vA b hb I7.ok (Gn b hb)) (T.obj _ _ vB);have again:∀{ki:St}{H8:Hp}{s8:af}{m':Nat},Inv Y ([]++ve fp s7.heap) ki H8 s8->m'<n->W (i+1) m' ki H8->∃m,m<n/\∃i σ' H',Inv Y [] σ' H' s8/\tn i s8.heap/\(∀b∈fp,H' b=aC)/\W i m σ' H':=λ{ki H8 s8 m'} I8 hm w8=>by
   refine⟨m',hm,i+1,ki,H8,I8.dP,T.keep _ _ _ vB λb hb o q=>(I8.pin (b,o) (jn _ (jn _ (tB hb q)))).1,λb hb=>?_,w8⟩;obtain⟨o,q,d⟩:=T.obj _ _ vB b hb;exact(I8.pin (b,o) (jn _ (jn _ (tB hb q)))).2.1
  have q7:=hg' _ s7 kh H7 x u _ Gp r7 (step x H7 y7);rw[Ao,Aq,Ar,GI]at q7;refine bg q7 λ_ s8 b9=>?_;obtain⟨ki,H8,I8,q8⟩:=b9;have q8:=ht' _ s8 ki H8 _ I8 q8;rw[Ao,Aq,Ar,GI]at q8;refine bg q8 λok s9 z9=>z9.el λH9 I9 q9=>?_;cases ok with
  |false=>
   simp only[fG,ez]at q9 ⊢;obtain⟨m',hm,w9⟩:=q9;exact again I9 hm w9
  |true=>
   simp only[cC]at q9 ⊢;have LK:=he' _ _ s9 ki H9 _ I9 q9;rw[Ao,Aq,Ar,GI]at LK;exact bg LK λ_ Gq ⟨RX,Gs,Gu,m',hm,Gw⟩=>again Gu hm Gw
 have Dv:Inv Y [] (ju ow fr ix σ) (upd H1 s.heap.objs.size u0) {s with heap:=h₁,toks:=s.toks}:=by rw[<-Af]at J3;exact J3
 have hl:=loop _ Dv st3;obtain⟨rest,hcl⟩:=CK.cl;have fin':=RW hcl (CK.ds _ _ _) (CK.as _ _ _ _) hl (T.self _ 0 _ _ _ st3 hl);rw[<-mT]at fin';exact fin'
theorem tL(CK:kr X.prog X.w e tg iter ifs emit newAcc ob u0)(hev:eval e X.env=comprehension e scope X.env pos newAcc false (eval iter X.env))(S:aW X ow fr ix scope)(hc:X.calm)(hi:PI X tg iter wi)
 (hg:∀C s₀ H₀ ex,PG (X.comp (ow++fr) scope C s₀ H₀ ex) tg g) (ht:∀C s₀ H₀ ex,iG (X.comp (ow++fr) scope C s₀ H₀ ex) ifs tc) (he:∀C s₀ H₀ ex D,PM (X.comp (ow++fr) scope C s₀ H₀ ex) (emit (.ref D) (X.comp (ow++fr) scope C s₀ H₀ ex).env) (tm D))
 (hs:∀x,foldedSetIterable iter X.env x=pure x):PE X e (DC X.K (ju ow fr ix) wi g tc tm u0):=by
 intro pins s σ H Q I h;rw[hev];obtain⟨rest,hcl⟩:=CK.cl;refine CI (use:=aC) hcl hs (Dp λy hy e=>I.ok.has _ (S.free y hy e)) S.kind S.names (bg (hi pins s σ H _ I h) λv s1 h1=>bg h1 λitv s2 h2=>?_);exact LF (RR:=λacc C=>compPost (model X.prog X.w) X.A X.xe aC (EP X pins σ Q) acc C) CK S hc hg ht he h2 λD C H' s' m _ hn hI q=>⟨m,hn,λh'' k8=>⟨.ref D,H',hI h'' k8,rfl,q⟩⟩
theorem LM{i:Nat}{y:Str}{py spos:Pos}(CK:kr X.prog X.w e tg iter ifs emit newAcc ob u0)(hev:∀use,evalThenUse e X.env use=(do let _ <-comprehension e scope X.env pos newAcc false (eval iter X.env) (aB use)))(hN:X.N.Nodup)(Gx:X.N[i]?=aB y)(hy:Loc X.env.scope y)(S:aW X ow fr ix scope)(hc:X.calm)(hi:PI X tg iter wi)
 (hg:∀C s₀ H₀ ex,PG (X.comp (ow++fr) scope C s₀ H₀ ex) tg g) (ht:∀C s₀ H₀ ex,iG (X.comp (ow++fr) scope C s₀ H₀ ex) ifs tc) (he:∀C s₀ H₀ ex D,PM (X.comp (ow++fr) scope C s₀ H₀ ex) (emit (.ref D) (X.comp (ow++fr) scope C s₀ H₀ ex).env) (tm D))
 (hsw:swapsWith e (aB (.Name y py)) spos.line X.env=pure true) (hf:X.fn y=true\/X.env.scope.names.lookup y=aB .local)
 (hs:∀x,foldedSetIterable iter X.env x=pure x):PS X (.Assign [.Name y py] e spos) (qA (DC X.K (ju ow fr ix) wi g tc tm u0) (iF i)):=by
 intro pins s σ H D I h;rw[exec_Assign_Name_used _ _ _ _ hsw];refine aS (mE (aS ?_));rw[hev];obtain⟨rest,hcl⟩:=CK.cl;refine aS (gV (CI (use:=aB (assign (.Name y py) X.env)) (Q:=λ_ s'=>SP X pins D .next s') hcl hs (Dp λy hy e=>I.ok.has _ (S.free y hy e)) S.kind S.names
  (bg (hi pins s σ H _ I h) λv s1 h1=>bg h1 λitv s2 h2=>?_)) (λ_ s' hq=>bS (bS hq)) λ_ _ e=>e)
 refine LF (Q:=λx H1=>iF i x σ H1 D.nx) (RR:=λacc C=>compPost (model X.prog X.w) X.A X.xe (aB (assign (.Name y py) X.env)) (λ_ s'=>SP X pins D .next s') acc C) CK S hc hg ht he h2 λd C H' s' m hC hn hI q=>?_;show wpAny _ X.A (assign (.Name y py) X.env (.ref d)) _ _ _;have I':Inv X pins σ H' s':=hI s'.heap (.refl ..);refine wpAny_assign_Name (Fe I' hN Gx hy (v:=.ref d) rfl (λs'' Gy ⟨a,Gz,ha⟩=>?_) hf);obtain⟨c0,c1,c2,c3,c4,c5⟩:=hC;have GA:C≠a:=by rcases ha with rfl|ha;exact c1;exact λz=>c4 _ _ ha z.symm
 exact⟨m,hn.sameBut Gz GA,λh'' k8=>⟨_,H',Gy.turned (t':=s''.toks) (it:=C) (λb o hb q=>(k8.2 b hb).trans q) c0 c1 c3 c4 c5,q⟩⟩
end
theorem RY:fillsNumberSlot (.type "tuple") "mul" = pure false:=
 PySem.fillsNumberSlot_seq (id:="tuple.__mul__") (r:=aB (.builtin "tuple.__rmul__")) zb.lookup (by decide +kernel) F.slot_tuple_rmul.lookup (by decide +kernel)
theorem RZ:seqRepeat? (.type "tuple")=pure (aB (.builtin "tuple.__mul__")):=by unfold seqRepeat?;rw[PySem.seqSlot_of (T:="tuple") (name:="__mul__") (id:="tuple.__mul__") zb.lookup (by decide +kernel),PySem.seqSlot_of (T:="tuple") (name:="__rmul__") (id:="tuple.__rmul__") F.slot_tuple_rmul.lookup (by decide +kernel)];rfl
theorem R0(k:Int)(t:Tok)(l:ah)(its:Array aa)(n:Nat)(dd:Option ah)(sl:Array (Option aa)) :
 Meets (Builtin.«int.__rmul__» ⟨[.int k t,.ref l],[]⟩) (λ_ R s=>s.heap.get? l=aB {cls:=.type "tuple",dict:=dd,data:=.seq its n,slots:=sl}/\R (.ok (.ret Value.notImplemented)) s):=
 .of_wp λprog w A R s h=>by
  obtain⟨hp,g,d,tk,os⟩:=s;obtain⟨e,h⟩:=h
  wp_walk using nS e;exact⟨_,rfl,h⟩
theorem R1(l:ah)(its:Array aa)(n:Nat)(dd:Option ah)(sl:Array (Option aa))(k:Int)(t:Tok)(h1:¬(decide (k < -(2 ^ 63))||decide (k>=2 ^ 63)))(h2:(its.isEmpty||k==1)) :
 Meets (Builtin.«tuple.__mul__» ⟨[.ref l,.int k t],[]⟩) (λ_ R s=>s.heap.get? l=aB {cls:=.type "tuple",dict:=dd,data:=.seq its n,slots:=sl}/\R (.ok (.ret (.ref l))) s):=
 .of_wp λprog w A R s h=>by
  obtain⟨hp,g,d,tk,os⟩:=s;obtain⟨e,h⟩:=h;have f1:=AutoSeq1.idx_int
  wp_walk using nS e;refine xr ?_;rw[if_neg h1]
  wp_walk using nS e;exact⟨_,rfl,h⟩
theorem R3(l:ah)(its:Array aa)(n:Nat)(dd:Option ah)(sl:Array (Option aa))(k:Int)(t:Tok)(h1:¬(decide (k < -(2 ^ 63))||decide (k>=2 ^ 63)))(h2:¬(its.isEmpty||k==1))(h3:(decide (k<=0)||its.isEmpty)) :
 Meets (Builtin.«tuple.__mul__» ⟨[.ref l,.int k t],[]⟩) (λ_ R s=>s.heap.get? l=aB {cls:=.type "tuple",dict:=dd,data:=.seq its n,slots:=sl}/\R (.ok (.ret (.ref s.heap.objs.size))) {s with heap:=s.heap.push {cls:=.type "tuple",data:=.seq #[]}}):=
 .of_wp λprog w A R s h=>by
  obtain⟨hp,g,d,tk,os⟩:=s;obtain⟨e,h⟩:=h;have f1:=AutoSeq1.idx_int
  wp_walk using nS e;refine xr ?_;rw[if_neg h1]
  wp_walk using nS e;exact⟨_,rfl,h⟩
theorem R4(l:ah)(its:Array aa)(n:Nat)(dd:Option ah)(sl:Array (Option aa))(k:Int)(t:Tok)(h1:¬(decide (k < -(2 ^ 63))||decide (k>=2 ^ 63)))(h2:¬(its.isEmpty||k==1))(h3:¬(decide (k<=0)||its.isEmpty)=true)
 (h4:¬(its.size*k> (2 ^ 63-1)/8)) (h5:¬Builtin.Tuple.tupleTooMany (its.size*k)) (h6:((bK k.toNat its).foldl (· ++ ·) #[]).size<=sizeLine) :
 Meets (Builtin.«tuple.__mul__» ⟨[.ref l,.int k t],[]⟩) (λ_ R s=>s.heap.get? l=aB {cls:=.type "tuple",dict:=dd,data:=.seq its n,slots:=sl}/\R (.ok (.ret (.ref s.heap.objs.size))) {s with heap:=s.heap.push {cls:=.type "tuple",data:=.seq ((bK k.toNat its).foldl (· ++ ·) #[])}}):=
 .of_wp λprog w A R s h=>by
  obtain⟨hp,g,d,tk,os⟩:=s;obtain⟨e,h⟩:=h;have f1:=AutoSeq1.idx_int
  wp_walk using nS e;refine xr ?_;rw[if_neg h1]
  wp_walk using nS e;refine xr ?_;rw[if_neg h4]
  wp_walk using nS e;exact⟨_,rfl,h⟩
section
variable{X:Cx}
noncomputable def tM(K:aK):R2:=λx y H Q=>∃a k xs,x=.ref a/\y=.int k/\cN K H a xs/\-(2 ^ 62)<=k/\k<2 ^ 62/\xs.length*k.toNat<=sizeLine/\
 ((xs.isEmpty||k==1)=true->Q (.ref a) H)/\((xs.isEmpty||k==1)=false->∀p,H p=aC->Q (.ref p) (upd H p (.tup (bK k.toNat xs).flatten)))
theorem LN{xs:List V}{us:List aa}(r:Vals xs us):us.toArray.isEmpty=xs.isEmpty:=by cases r<;>rfl
theorem R5:dH X (binaryOp .Mult) (tM X.K):=by
 intro pins s σ H x y v u Q I rx ry h;obtain⟨a,k,xs,rfl,rfl,ha,k1,k2,hz,q1,q2⟩:=h;cases rx;obtain⟨t,rfl⟩:=ry;obtain⟨its,r,p,_⟩:=I.tuple ha;obtain⟨⟨c,dd,dt,sl⟩,e1,e2,n,e3⟩:=p
 replace e2:c=.type "tuple":=e2
 replace e3:dt=.seq its.toArray n:=e3;subst e2 e3;have hl:xs.length=its.length:=r.length;have h1:¬(decide (k < -(2 ^ 63))||decide (k>=2 ^ 63))=true:=by simp only[pL,gz];lia
 refine wpAny_binaryOp_repeat_ref (T:="tuple") (U:="int") (by decide) ⟨_,e1,rfl⟩ (λs'=>typeIs_int s' k t) RY F.fills_int_mul F.slot_int_rmul RZ F.slot_int_index.lookup
  (ql F.slot_int_rmul (typeIs_int s k t) F.entry_int_rmul (F.args_int_rmul_2 _ _) (R0 k t a its.toArray n dd sl) ⟨e1,rfl,⟨_,e1,rfl⟩,?_⟩)
 by_cases h2:(its.toArray.isEmpty||k==1)=true;refine ql zb ⟨_,e1,rfl⟩ F.entry_tuple_mul (F.args_tuple_mul_2 _ _) (R1 a its.toArray n dd sl k t h1 h2) ⟨e1,?_⟩;exact⟨.ref a,H,I,rfl,q1 (by rw[<-LN r];exact h2)⟩;have q2:=q2 (by rw[<-LN r];simpa using h2);by_cases h3:(decide (k<=0)||its.toArray.isEmpty)=true;have hk:k.toNat=0:=by
  have:its.toArray.isEmpty=false:=by
   cases q:its.toArray.isEmpty with|false=>rfl|true=>rw[q]at h2;exact absurd rfl h2
  rw[this,Bool.or_false,gz]at h3;lia
 refine ql zb ⟨_,e1,rfl⟩ F.entry_tuple_mul (F.args_tuple_mul_2 _ _) (R3 a its.toArray n dd sl k t h1 h2 h3) ⟨e1,?_⟩;rw[hk]at q2;exact⟨.ref s.heap.objs.size,_,I.laid (t':=s.toks) (o:=.tup []) (λb ob q=>di _ q) (bf _) ⟨lJ _,[],.nil,kZ.new _ _⟩,rfl,q2 _ (I.hok.fresh (bf _))⟩;have hk:0<k:=by simp only[pL,gz,not_or]at h3;lia
 have hkn:((k.toNat:Nat):Int)=k:=Int.toNat_of_nonneg (by lia);have hmul:(its.toArray.size:Int)*k=((xs.length*k.toNat:Nat):Int):=by rw[dU,<-hl,Int.natCast_mul,hkn]
 have hsl:(sizeLine:Nat)=16777216:=rfl;have fl:(bK k.toNat its.toArray).foldl (· ++ ·) #[]=(bK k.toNat its).flatten.toArray:=by
  have:=Lg its k.toNat []
  rw[yS]at this;exact this
 refine ql zb ⟨_,e1,rfl⟩ F.entry_tuple_mul (F.args_tuple_mul_2 _ _) (R4 a its.toArray n dd sl k t h1 h2 h3 (by rw[hmul];lia) (by
  unfold Builtin.Tuple.tupleTooMany;rw[hmul,gz];lia) (by rw[fl,dU,Li,Nat.mul_comm,<-hl];exact hz)) ⟨e1,?_⟩
 rw[fl];exact⟨.ref s.heap.objs.size,_,I.laid (t':=s.toks) (o:=.tup (bK k.toNat xs).flatten) (λb ob q=>di _ q) (bf _) ⟨by rw[Li,Nat.mul_comm];exact hz,_,r.rep k.toNat,kZ.new _ _⟩,rfl,q2 _ (I.hok.fresh (bf _))⟩
noncomputable def LO(K:aK):R2:=λx y H Q=>∃a b ys,x=.ref a/\y=.ref b/\cN K H a []/\cN K H b ys/\Q (.ref b) H
theorem R6:dH X (binaryOp .Add) (LO X.K):=by
 intro pins s σ H x y v u Q I rx ry h;obtain⟨a,b,ys,rfl,rfl,ha,hb,q⟩:=h;cases rx;cases ry;obtain⟨its,r1,p1,_⟩:=I.tuple ha;obtain⟨its2,r2,p2,_⟩:=I.tuple hb;cases r1;obtain⟨⟨c,dd,dt,sl⟩,e1,e2,n,e3⟩:=p1;obtain⟨⟨c2,dd2,R7,sl2⟩,f1,f2,n2,f3⟩:=p2
 replace e2:c=.type "tuple":=e2
 replace e3:dt=.seq ([]:List aa).toArray n:=e3
 replace f2:c2=.type "tuple":=f2
 replace f3:R7=.seq its2.toArray n2:=f3;subst e2 e3 f2 f3;exact concat_meets ⟨_,e1,rfl⟩ ⟨_,f1,rfl⟩ yL yM za yZ (yY _ _) (tuple_addW0 a b ([]:List aa).toArray its2.toArray n n2 dd dd2 sl sl2 rfl) ⟨e1,f1,⟨.ref b,H,I,rfl,q⟩⟩
noncomputable def fZ(ds:List aA)(d:aA):Bool:=ds.any λe=>PyData.eqv e d
noncomputable def qS(K:aK)(neg:Bool):R2:=λx y H Q=>∃p xs ds d,y=.ref p/\(dh K H p xs\/cN K H p xs)/\mP K (λ_=>False) H xs ds/\Rp K (λ_=>False) H x d/\ds.all SeqAt.shaped=true/\SeqAt.shaped d=true/\Q (.bl (if neg then !fZ ds d else fZ ds d)) H
theorem GJ{h:az}:∀{us:List aa} {ds:List aA} {as:List ah} {i:Nat} {u:aa},ReadsAll h us ds as->us[i]?=aB u->∃d bs,ds[i]?=aB d/\Reads h u d bs
 |_,_,_,i,u,.nil,e=>by simp at e
 |_,_,_,0,u,.cons r _,e=>by simp at e;subst e;exact⟨_,_,rfl,r⟩
 |_,_,_,i+1,u,.cons _ rs,e=>by
  obtain⟨d,bs,h1,h2⟩:=GJ rs (by simpa using e);exact⟨d,bs,by simpa using h1,h2⟩
open Classical in
noncomputable def eN(us:List aa)(ds:List aA)(d:aA)(u:aa):Bool:=decide (∃(i:Nat) (e:aA),us[i]?=aB u/\ds[i]?=aB e/\PyData.eqv e d=true)
open Classical in
theorem DE{us:List aa}{ds:List aA}{d:aA}{u:aa}:eN us ds d u=true↔∃(i:Nat) (e:aA),us[i]?=aB u/\ds[i]?=aB e/\PyData.eqv e d=true:=by unfold eN;exact decide_eq_true_iff
theorem DF{us:List aa}{ds:List aA}{d:aA}(hl:us.length=ds.length):us.any (eN us ds d)=fZ ds d:=by
 cases q:fZ ds d with
 |true=>
  unfold fZ at q;rw[CW]at q;obtain⟨e,h1,h2⟩:=q;obtain⟨i,hi,h3⟩:=List.mem_iff_getElem.mp h1;rw[CW];refine⟨us[i]'(by lia),jF _,?_⟩;rw[DE];exact⟨i,e,by simp,by rw[cJ hi,h3],h2⟩
 |false=>
  unfold fZ at q;rw[List.any_eq_false]at q ⊢;intro u hu z;rw[DE]at z;obtain⟨i,e,h1,h2,h3⟩:=z;exact q e (nC h2) h3
theorem As{h:az}:∀{us:List aa} {ds:List aA} {as:List ah},ReadsAll h us ds as->us.length=ds.length|_,_,_,.nil=>rfl|_,_,_,.cons _ r=>by rw[dg,dg,As r]
theorem DG{A:ak}{s:af}{us:List aa}{ds:List aA}{as bs:List ah}{d:aA}{v:aa}(hu:A.units+64<cLine)(ra:ReadsAll s.heap us ds as)(rb:Reads s.heap v d bs)(s1:ds.all SeqAt.shaped)(s2:SeqAt.shaped d) :
 ∀u∈us,SeqAt.EqAt A s u v (eN us ds d u):=by
 intro u hm;have sh:∀(i:Nat)(e:aA),ds[i]?=aB e->SeqAt.shaped e=true:=λi e q=>ic.mp s1 e (nC q);cases q:eN us ds d u with
 |true=>
  rw[DE]at q;obtain⟨i,e,h1,h2,h3⟩:=q;obtain⟨e',cs,h4,h5⟩:=GJ ra h1;rw[h2]at h4;cases h4;have:=SeqAt.eqAt_reads e d A s u v cs bs h5 rb (Dc (sh i e h2)) (Dc s2) (SeqAt.room_of_shaped (sh i e h2) hu);rw[h3]at this;exact this
 |false=>
  obtain⟨i,hi,h1⟩:=List.mem_iff_getElem.mp hm;have h1:us[i]?=aB u:=by rw[cJ hi,h1]
  obtain⟨e,cs,h4,h5⟩:=GJ ra h1;have h3:PyData.eqv e d=false:=by
   cases z:PyData.eqv e d with
   |false=>rfl
   |true=>
    rw[DE.mpr ⟨i,e,h1,h4,z⟩]at q;cases q
  have:=SeqAt.eqAt_reads e d A s u v cs bs h5 rb (Dc (sh i e h4)) (Dc s2) (SeqAt.room_of_shaped (sh i e h4) hu);rw[h3]at this;exact this
theorem R8(hu:X.A.in1.units+64<cLine):dH X (compareOp .In) (qS X.K false):=by
 intro pins s σ H x y v u Q I rx ry h;obtain⟨p,xs,ds,d,rfl,hq,r1,r2,s1,s2,q⟩:=h;cases ry;obtain⟨bs,rb⟩:=r2.reads I rx;rcases hq with hq|hq
 obtain⟨its,r,pl,hz⟩:=I.list hq;obtain⟨as,ra⟩:=r1.reads I r;refine SeqAt.in_listAt (eN its ds d) pl.isList (λw hw=>DG hu ra rb s1 s2 w (by simpa using hw)) ⟨.bl _,H,I,rfl,?_⟩;rw[show its.toArray.any (eN its ds d)=its.any (eN its ds d) by simp,DF (As ra)];exact q;obtain⟨its,r,pl,hz⟩:=I.tuple hq;obtain⟨as,ra⟩:=r1.reads I r;refine SeqAt.in_tupleAt (eN its ds d) pl (λw hw=>DG hu ra rb s1 s2 w (by simpa using hw)) ⟨.bl _,H,I,rfl,?_⟩;rw[show its.toArray.any (eN its ds d)=its.any (eN its ds d) by simp,DF (As ra)];exact q
theorem R9(hu:X.A.in1.units+64<cLine):dH X (compareOp .NotIn) (qS X.K true):=by
 intro pins s σ H x y v u Q I rx ry h;obtain⟨p,xs,ds,d,rfl,hq,r1,r2,s1,s2,q⟩:=h;cases ry;obtain⟨bs,rb⟩:=r2.reads I rx;rcases hq with hq|hq
 obtain⟨its,r,pl,hz⟩:=I.list hq;obtain⟨as,ra⟩:=r1.reads I r;refine SeqAt.notIn_listAt (eN its ds d) pl.isList (λw hw=>DG hu ra rb s1 s2 w (by simpa using hw)) ⟨.bl _,H,I,rfl,?_⟩;rw[show its.toArray.any (eN its ds d)=its.any (eN its ds d) by simp,DF (As ra)];exact q;obtain⟨its,r,pl,hz⟩:=I.tuple hq;obtain⟨as,ra⟩:=r1.reads I r;refine SeqAt.notIn_tupleAt (eN its ds d) pl (λw hw=>DG hu ra rb s1 s2 w (by simpa using hw)) ⟨.bl _,H,I,rfl,?_⟩;rw[show its.toArray.any (eN its ds d)=its.any (eN its ds d) by simp,DF (As ra)];exact q
end
end L2
namespace HT
open PySem PySem.Spec PyProof.Rows
section
variable{prog:ai}{w:aj}{A:ak}{E:aa->af->Prop}{s:af}
theorem fk{t sl:ah}{items:Array aa}{vl vu:aa}{lo hi:Option Int}{Q:aa->af->Prop}(ht:IsTup s.heap t items)(hs:s.heap.IsSliceOf sl vl vu .none)(pl:IsPart vl lo)(pu:IsPart vu hi)
 (hw:bR items.size 0 lo=0/\bR items.size items.size hi=items.size)
 (h:Q (.ref t) s):wpAny (model prog w) A (getItem (.ref t) (.ref sl)) Q E s:=by
 obtain⟨os,hos,hcs,hds⟩:=id hs;have FY:s.TypeIs (.ref sl) "slice":=⟨os,hos,hcs⟩
 unfold getItem
 try with_reducible refine pF ?_
 first|refine aS (bS ?_)|skip
 refine aS (wpAny_sequenceKey ht.typeIs (by decide) ?_);refine aS (xj (name:=Str.ofString "__getitem__") ht.typeIs xC
  (xq xC ht.typeIs entry_tuple_getitem ?_ (args_tuple_getitem _ _)))
 show wpAny _ _ (Builtin.Tuple.tupleItemsOf (.ref t) >>= _) _ _ s;refine aS (tupleItemsOf_ ht ?_);refine aS (CM FY ?_);rw[if_pos (by decide)];refine aS (K9 hs pl pu ?_);have hyes:((((bR items.size 0 lo:Nat):Int)==0&& (1:Int)==1&& (bR items.size items.size hi-bR items.size 0 lo)==items.size)):=by rw[hw.1,hw.2];simp
 show wpAny _ _ (if(((bR items.size 0 lo:Nat):Int)==0&& (1:Int)==1&& (bR items.size items.size hi-bR items.size 0 lo)==items.size)=true then _ else _) _ _ s;rw[if_pos hyes];unfold Builtin.Tuple.tupleIsExact;refine aS (aS (CM ht.typeIs (bS ?_)));rw[if_pos (by decide)];refine aS (qm ?_);exact bS ⟨_,rfl,bS h⟩
end
end HT
namespace L2
open PySem PySem.Spec PyProof.Rows
variable{X:Cx}
noncomputable def Au(K:aK):V->Option Int->Option Int->Hp->VK->Prop:=λx lo hi H Q=>∃a xs,x=.ref a/\cN K H a xs/\
 (HT.bR xs.length 0 lo=0/\HT.bR xs.length xs.length hi=xs.length)/\Q (.ref a) H
theorem Sa:qP X (Au X.K):=by
 intro pins s σ H x v vl vu lo hi sl Q I rx hs pl pu h;obtain⟨a,xs,rfl,hx,hw,q⟩:=h;cases rx;obtain⟨its,r,ht,hz⟩:=I.tuple hx;have hlen:its.toArray.size=xs.length:=by rw[dU];exact r.length.symm
 refine⟨"tuple",_,xC.lookup,ht.typeIs,?_⟩;refine HT.fk ht hs pl pu (by rw[hlen];exact hw) ?_;exact⟨.ref a,_,I,rfl,q⟩
noncomputable def GK(K:aK):V->Option Int->Option Int->Hp->VK->Prop:=λx lo hi H Q=>(zV K x lo hi H Q\/Au K x lo hi H Q)\/z0 K x lo hi H Q
theorem Sb:qP X (GK X.K):=(QZ.or Sa).or Q8
noncomputable def ZI(b:Bool)(h:az)(I l:ah)(k:Nat):Prop:=match b with|true=>h.IsTupleIter I l k|false=>h.IsListIter I l k
noncomputable def ZS(b:Bool)(h:az)(l:ah)(xs:Array aa):Prop:=match b with|true=>h.IsTuple l xs|false=>h.IsList l xs
noncomputable def Av(b:Bool):String:=match b with|true=>"tuple_iterator" |false=>"list_iterator"
noncomputable def DH(b:Bool)(l:ah):Obj:={cls:=.type (Av b),data:=.fields #[.ref l,.int 0 0]}
theorem ZI.ex{b:Bool}{h h':az}{I l c:ah}{k:Nat}(x:ZI b h I l k)(s:Heap.ExtBut c h h')(n:I≠c):ZI b h' I l k:=by cases b;exact Heap.IsListIter.extBut x s n;exact Heap.IsTupleIter.extBut x s n
theorem ZS.ex{b:Bool}{h h':az}{l c:ah}{xs:Array aa}(x:ZS b h l xs)(s:Heap.ExtBut c h h')(n:l≠c):ZS b h' l xs:=by cases b;exact Heap.IsList.extBut x s n;exact Heap.IsTuple.extBut x s n
theorem ZI.mv{b:Bool}{h h':az}{I l:ah}{k:Nat}(x:ZI b h I l k)(e:∀o,h.get? I=aB o->h'.get? I=aB o):ZI b h' I l k:=by cases b;exact Heap.IsListIter.at x e;exact Heap.IsTupleIter.at x e
theorem ZI.ob{b:Bool}{h:az}{I l:ah}{k:Nat}(x:ZI b h I l k):∃o,h.get? I=aB o/\∀v,o.data≠.cell v:=by cases b;obtain⟨o,h1,h2,h3⟩:=x;exact⟨o,h1,λv z=>by rw[h3]at z;cases z⟩;obtain⟨o,h1,h2,h3⟩:=x;exact⟨o,h1,λv z=>by rw[h3]at z;cases z⟩
theorem ZS.lt{b:Bool}{h:az}{l:ah}{xs:Array aa}(x:ZS b h l xs):l<h.objs.size:=by cases b<;> (obtain⟨o,h1,_⟩:=x;exact dz h1)
theorem ZS.push{b:Bool}{h:az}{l:ah}{xs:Array aa}(x:ZS b h l xs)(o:Obj):ZS b (h.push o) l xs:=by cases b;exact Heap.IsList.push x o;exact Heap.IsTuple.push x o
section
variable{prog:ai}{w:aj}{A:ak}{E:aa->af->Prop}{s:af}
theorem GL{b:Bool}{I l:ah}{k:Nat}{xs:Array aa}{y:aa}{Q:aa->af->Prop}(hi:ZI b s.heap I l k)(hl:ZS b s.heap l xs)(hy:xs[k]?=aB y)
 (q:∀g,ZI b g I l (k+1)->Heap.SameBut I s.heap g->Q y {s with heap:=g}):wpAny (model prog w) A (Builtin.SmallTypes.nextOf (.ref I)) Q E s:=by
 cases b;exact wpAny_nextOf_list_item hi hl hy q;exact Lx hi hl hy q
theorem z_end{b:Bool}{I l:ah}{k:Nat}{xs:Array aa}{Q:aa->af->Prop}(hA:A.handled=aC)(hi:ZI b s.heap I l k)(hl:ZS b s.heap l xs)(hy:xs[k]?=aC)
 (q:∀g e,Heap.ExtBut I s.heap g->(∃o,g.get? e=aB o/\o.cls=.type "StopIteration")->E (.ref e) {s with heap:=g}):wpAny (model prog w) A (Builtin.SmallTypes.nextOf (.ref I)) Q E s:=by
 cases b;exact wpAny_nextOf_list_end hA hi hl hy q;exact GC hA hi hl hy q
structure ZA(z TI TO i1 i2 l1 l2:ah):Prop where
 a1:TI≠z/\TO≠z/\i1≠z/\i2≠z
 a2:TI≠TO/\TI≠i1/\TI≠i2/\TO≠i1/\TO≠i2/\i1≠i2
 a3:l1≠z/\l1≠TO/\l1≠i1/\l1≠i2
 a4:l2≠z/\l2≠TO/\l2≠i1/\l2≠i2
theorem Se{n l1 l2:Nat}(h1:l1<n)(h2:l2<n):ZA (n+4) (n+2) (n+3) n (n+1) l1 l2:=by have e:∀{a b:Nat},(a<b\/b<a)->a≠b:=λh=>h.elim gE sW;refine⟨⟨?_,?_,?_,?_⟩,⟨?_,?_,?_,?_,?_,?_⟩,⟨?_,?_,?_,?_⟩,?_,?_,?_,?_⟩<;>exact e (by lia)
theorem Sf{b c:Bool}{z TI TO i1 i2 l1 l2:ah}{k:Nat}{xs ys:Array aa}{x y p q:aa}{Q:aa->af->Prop}(D:ZA z TI TO i1 i2 l1 l2)
 (hz:IsZip s.heap z TI TO .none) (hTI:IsPair s.heap TI (.ref i1) (.ref i2)) (hTO:IsPair s.heap TO p q)
 (h1:ZI b s.heap i1 l1 k) (h2:ZI c s.heap i2 l2 k) (hl1:ZS b s.heap l1 xs) (hl2:ZS c s.heap l2 ys) (hx:xs[k]?=aB x) (hy:ys[k]?=aB y)
 (hQ:∀h',IsZip h' z TI TO (rawInt s.heap.objs.size)->IsPair h' TO x y->ZI b h' i1 l1 (k+1)->ZI c h' i2 l2 (k+1)->IsPair h' s.heap.objs.size x y->h'.objs.size=s.heap.objs.size+1->
   (∀c o,c≠z->c≠TO->c≠i1->c≠i2->s.heap.get? c=aB o->h'.get? c=aB o)->Q (.ref s.heap.objs.size) {s with heap:=h'}) :
 wpAny (model prog w) A (Builtin.«zip.__next__» ⟨[.ref z],[]⟩) (λfin s'=>∃v,fin=.done (.ret v)/\Q v s') E s:=by
 obtain⟨⟨d1,d2,d3,d4⟩,⟨d5,d6,d7,d8,d9,Aw⟩,⟨DJ,Sg,Sh,Si⟩,GN,GO,GP,Sj⟩:=D;show wpAny _ _ (field (.ref z) 2 >>= _) _ _ _;refine aS (kX hz rfl (x:=.bool false) rfl ?_);show wpAny _ _ (field (.ref z) 3 >>= _) _ _ _;refine aS (kX hz rfl (x:=.ref TI) rfl (aS (sP hTI rfl ?_)));show wpAny _ _ (Builtin.SmallTypes.ownedTupleIsFree (.ref z) >>= _) _ _ _;refine aS ?_;unfold Builtin.SmallTypes.ownedTupleIsFree;refine aS (kX hz rfl (x:=.none) rfl (bS ?_));simp only[cC];refine aS (qm (aS (kX hz rfl (x:=.ref TO) rfl (aS (xm hz (by simp) λg1 z1 s1=>?_)))))
 replace z1:IsZip g1 z TI TO .ellipsis:=z1;refine aS ?_;simp only[List.zipIdx_cons,List.zipIdx_nil,yR,uU];refine aS (aS (CL ?_));show wpAny _ _ (Builtin.SmallTypes.nextOf (.ref i1) >>= _) _ _ _;refine aS (GL (h1.ex s1.extBut d3) (hl1.ex s1.extBut DJ) hx λg2 y1 s2=>bS ?_);have t2:IsPair g2 TO p q:=s2.extBut _ _ d8 (s1.extBut _ _ d2 hTO);refine aS (sP t2 rfl (aS (wpAny_updateSeq_pair t2 λg3 t3 s3=>?_)))
 replace t3:IsPair g3 TO x q:=t3;refine aS (wpAny_letGo (bS (aS (aS (CL ?_)))));show wpAny _ _ (Builtin.SmallTypes.nextOf (.ref i2) >>= _) _ _ _;refine aS (GL (((h2.ex s1.extBut d4).ex s2.extBut (fH Aw)).ex s3.extBut (fH d9)) (((hl2.ex s1.extBut GN).ex s2.extBut GP).ex s3.extBut GO) hy λg4 y2 s4=>bS ?_);have t4:IsPair g4 TO x q:=s4.extBut _ _ d9 t3;refine aS (sP t4 rfl (aS (wpAny_updateSeq_pair t4 λg5 t5 s5=>?_)))
 replace t5:IsPair g5 TO x y:=t5;refine aS (wpAny_letGo (bS (bS (aS (sP t5 rfl (aS (wpAny_newTuple ?_)))))));have hsz:g5.objs.size=s.heap.objs.size:=by rw[s5.1,s4.1,s3.1,s2.1,s1.1]
 have z5:IsZip g5 z TI TO .ellipsis:=s5.extBut _ _ (fH d2) (s4.extBut _ _ (fH d4) (s3.extBut _ _ (fH d2) (s2.extBut _ _ (fH d3) z1)));have k5:∀c o,c≠z->c≠TO->c≠i1->c≠i2->s.heap.get? c=aB o->g5.get? c=aB o:=λc o c1 c2 c3 c4 e=>s5.extBut _ _ c2 (s4.extBut _ _ c4 (s3.extBut _ _ c2 (s2.extBut _ _ c3 (s1.extBut _ _ c1 e))));have Sk:ZI b g5 i1 l1 (k+1):=((y1.ex s3.extBut (fH d8)).ex s4.extBut Aw).ex s5.extBut (fH d8);have Sl:ZI c g5 i2 l2 (k+1):=y2.ex s5.extBut (fH d9);have DK:z<g5.objs.size:=dz z5;show wpAny _ _ (Builtin.SmallTypes.ownedTupleHandOut (.ref z) (.ref g5.objs.size) >>= _) _ _ _;refine aS ?_;unfold Builtin.SmallTypes.ownedTupleHandOut;have z6:IsZip (g5.push {cls:=.type "tuple",data:=.seq #[x,y]}) z TI TO .ellipsis:=di _ z5;refine aS (xm z6 (by simp) λg7 z7 s7=>?_)
 replace z7:IsZip g7 z TI TO (rawInt g5.objs.size):=z7;refine xm z7 (by simp) λg8 z8 s8=>?_
 replace z8:IsZip g8 z TI TO (rawInt g5.objs.size):=z8;have up:∀c o,c≠z->g5.get? c=aB o->g8.get? c=aB o:=λc o c1 e=>s8.extBut _ _ c1 (s7.extBut _ _ c1 (di _ e));have p8:IsPair g8 g5.objs.size x y:=s8.extBut _ _ (sW DK) (s7.extBut _ _ (sW DK) (iT _ rfl));have n8:g8.objs.size=g5.objs.size+1:=by rw[s8.1,s7.1,j6]
 rw[hsz]at z8 p8 n8;refine bS ⟨_,rfl,?_⟩;show Q (.ref g5.objs.size) _;rw[hsz];exact hQ g8 z8 (up _ _ d2 t5) (Sk.mv λo e=>up _ o d3 e) (Sl.mv λo e=>up _ o d4 e) p8 n8 λc o c1 c2 c3 c4 e=>up c o c1 (k5 c o c1 c2 c3 c4 e)
theorem Sm{b c:Bool}{z TI TO i1 i2 l1 l2:ah}{k:Nat}{xs ys:Array aa}{p q:aa}{Q:Fin->af->Prop}(hA:A.handled=aC)(D:ZA z TI TO i1 i2 l1 l2)
 (hz:IsZip s.heap z TI TO .none) (hTI:IsPair s.heap TI (.ref i1) (.ref i2)) (hTO:IsPair s.heap TO p q)
 (h1:ZI b s.heap i1 l1 k) (h2:ZI c s.heap i2 l2 k) (hl1:ZS b s.heap l1 xs) (hl2:ZS c s.heap l2 ys) (he:xs[k]?=aC\/ys[k]?=aC)
 (hE:∀h' e,(∀c o,c≠z->c≠TO->c≠i1->c≠i2->s.heap.get? c=aB o->h'.get? c=aB o)->(∃o,h'.get? e=aB o/\o.cls=.type "StopIteration")->E (.ref e) {s with heap:=h'}) :
 wpAny (model prog w) A (Builtin.«zip.__next__» ⟨[.ref z],[]⟩) Q E s:=by
 obtain⟨⟨d1,d2,d3,d4⟩,⟨d5,d6,d7,d8,d9,Aw⟩,⟨DJ,Sg,Sh,Si⟩,GN,GO,GP,Sj⟩:=D;show wpAny _ _ (field (.ref z) 2 >>= _) _ _ _;refine aS (kX hz rfl (x:=.bool false) rfl ?_);show wpAny _ _ (field (.ref z) 3 >>= _) _ _ _;refine aS (kX hz rfl (x:=.ref TI) rfl (aS (sP hTI rfl ?_)));show wpAny _ _ (Builtin.SmallTypes.ownedTupleIsFree (.ref z) >>= _) _ _ _;refine aS ?_;unfold Builtin.SmallTypes.ownedTupleIsFree;refine aS (kX hz rfl (x:=.none) rfl (bS ?_));simp only[cC];refine aS (qm (aS (kX hz rfl (x:=.ref TO) rfl (aS (xm hz (by simp) λg1 z1 s1=>?_)))))
 replace z1:IsZip g1 z TI TO .ellipsis:=z1;refine aS ?_;simp only[List.zipIdx_cons,List.zipIdx_nil,yR,uU];refine aS (aS (CL ?_));show wpAny _ _ (Builtin.SmallTypes.nextOf (.ref i1) >>= _) _ _ _;cases hx:xs[k]? with
 |none=>
  refine aS (z_end hA (h1.ex s1.extBut d3) (hl1.ex s1.extBut DJ) hx λg2 e s2 hs=>?_);obtain⟨oe,vD,hce⟩:=hs;have z2:IsZip g2 z TI TO .ellipsis:=s2 _ _ (fH d3) z1;have GQ:e≠z:=λx=>by subst x;rw[z2]at vD;cases vD;simp at hce
  exact xm z2 (by simp) λg3 _ s3=>hE g3 e (λc o c1 _ c3 _ x=>s3.extBut _ _ c1 (s2 _ _ c3 (s1.extBut _ _ c1 x))) ⟨oe,s3.extBut _ _ GQ vD,hce⟩
 |some x=>
  have hy:ys[k]?=aC:=by rcases he with h|h;rw[hx]at h;cases h;exact h
  refine aS (GL (h1.ex s1.extBut d3) (hl1.ex s1.extBut DJ) hx λg2 y1 s2=>bS ?_);have t2:IsPair g2 TO p q:=s2.extBut _ _ d8 (s1.extBut _ _ d2 hTO);refine aS (sP t2 rfl (aS (wpAny_updateSeq_pair t2 λg3 t3 s3=>?_)));refine aS (wpAny_letGo (bS (aS (aS (CL ?_)))));show wpAny _ _ (Builtin.SmallTypes.nextOf (.ref i2) >>= _) _ _ _;refine aS (z_end hA (((h2.ex s1.extBut d4).ex s2.extBut (fH Aw)).ex s3.extBut (fH d9)) (((hl2.ex s1.extBut GN).ex s2.extBut GP).ex s3.extBut GO) hy λg4 e s4 hs=>?_);obtain⟨oe,vD,hce⟩:=hs;have z4:IsZip g4 z TI TO .ellipsis:=s4 _ _ (fH d4) (s3.extBut _ _ (fH d2) (s2.extBut _ _ (fH d3) z1));have GQ:e≠z:=λx=>by subst x;rw[z4]at vD;cases vD;simp at hce
  exact xm z4 (by simp) λg5 _ s5=>hE g5 e (λc o c1 c2 c3 c4 x=>s5.extBut _ _ c1 (s4 _ _ c4 (s3.extBut _ _ c2 (s2.extBut _ _ c3 (s1.extBut _ _ c1 x))))) ⟨oe,s5.extBut _ _ GQ vD,hce⟩
theorem Sn{b c:Bool}{z TI TO i1 i2 l1 l2:ah}{k:Nat}{xs ys:Array aa}{x y p q:aa}{Q:Option aa->af->Prop}(D:ZA z TI TO i1 i2 l1 l2)
 (hz:IsZip s.heap z TI TO .none) (hTI:IsPair s.heap TI (.ref i1) (.ref i2)) (hTO:IsPair s.heap TO p q)
 (h1:ZI b s.heap i1 l1 k) (h2:ZI c s.heap i2 l2 k) (hl1:ZS b s.heap l1 xs) (hl2:ZS c s.heap l2 ys) (hx:xs[k]?=aB x) (hy:ys[k]?=aB y)
 (hQ:∀h',IsZip h' z TI TO (rawInt s.heap.objs.size)->IsPair h' TO x y->ZI b h' i1 l1 (k+1)->ZI c h' i2 l2 (k+1)->IsPair h' s.heap.objs.size x y->h'.objs.size=s.heap.objs.size+1->
   (∀c o,c≠z->c≠TO->c≠i1->c≠i2->s.heap.get? c=aB o->h'.get? c=aB o)->Q (aB (.ref s.heap.objs.size)) {s with heap:=h'}):wpAny (model prog w) A (pyNext (.ref z)) Q E s:=by
 have hT:s.TypeIs (.ref z) "zip":=⟨_,hz,rfl⟩
 unfold pyNext;exact aS (wpAny_attempt (xj (name:=Str.ofString "__next__") hT C9 (xq C9 hT F.entry_zip_next (Sf D hz hTI hTO h1 h2 hl1 hl2 hx hy λh' a1 a2 a3 a4 a5 a6 a7=>bS (hQ h' a1 a2 a3 a4 a5 a6 a7)) (F.args_zip_next_1 _))))
theorem So{b c:Bool}{z TI TO i1 i2 l1 l2:ah}{k:Nat}{xs ys:Array aa}{p q:aa}{Q:Option aa->af->Prop}(hA:A.in1.handled=aC)(D:ZA z TI TO i1 i2 l1 l2)
 (hz:IsZip s.heap z TI TO .none) (hTI:IsPair s.heap TI (.ref i1) (.ref i2)) (hTO:IsPair s.heap TO p q)
 (h1:ZI b s.heap i1 l1 k) (h2:ZI c s.heap i2 l2 k) (hl1:ZS b s.heap l1 xs) (hl2:ZS c s.heap l2 ys) (he:xs[k]?=aC\/ys[k]?=aC)
 (hQ:∀h',(∀c o,c≠z->c≠TO->c≠i1->c≠i2->s.heap.get? c=aB o->h'.get? c=aB o)->Q aC {s with heap:=h'}):wpAny (model prog w) A (pyNext (.ref z)) Q E s:=by
 have hT:s.TypeIs (.ref z) "zip":=⟨_,hz,rfl⟩
 unfold pyNext;refine aS (wpAny_attempt (xj (name:=Str.ofString "__next__") hT C9 (xq C9 hT F.entry_zip_next (Sm hA D hz hTI hTO h1 h2 hl1 hl2 he λh' e hk hs=>?_) (F.args_zip_next_1 _))));obtain⟨o,ho,hc⟩:=hs;exact aS (wpAny_isInstance (T:="StopIteration") (b:=true) ⟨o,ho,hc⟩ isSubtype_stop (bS (hQ _ hk)))
noncomputable def DL(h:az)(b:Bool)(l1:ah):az:=h.push (DH b l1)
noncomputable def Ax(h:az)(b c:Bool)(l1 l2:ah):az:=(DL h b l1).push (DH c l2)
noncomputable def Ay(h:az)(b c:Bool)(l1 l2:ah):az:=(Ax h b c l1 l2).push {cls:=.type "tuple",data:=.seq #[.ref h.objs.size,.ref (DL h b l1).objs.size]}
noncomputable def Az(h:az)(b c:Bool)(l1 l2:ah):az:=(Ay h b c l1 l2).push {cls:=.type "tuple",data:=.seq #[.none,.none]}
noncomputable def tN(h:az)(b c:Bool)(l1 l2:ah):az:=(Az h b c l1 l2).push {cls:=.type "zip",data:=.fields #[.none,.bool false,.bool false,.ref (Ax h b c l1 l2).objs.size,.ref (Ay h b c l1 l2).objs.size]}
theorem Sq(b c:Bool)(l1 l2:ah)(xs ys:Array aa):Meets (Builtin.«zip.__new__» ⟨[.type "zip",.ref l1,.ref l2],[]⟩) (λ_ R s=>ZS b s.heap l1 xs/\ZS c s.heap l2 ys/\
 R (.ok (.ret (.ref (Az s.heap b c l1 l2).objs.size))) {s with heap:=tN s.heap b c l1 l2}):=
 .of_wp λprog w A R s h=>by
  obtain⟨hp,g,d,tk,os⟩:=s;obtain⟨m1,m2,h⟩:=h;have hsub:=sub_zip;have e1:ZS b (Shared.heap ⟨hp,g,d,tk,os⟩) l1 xs:=m1;have e2:ZS c (Shared.heap ⟨hp.push (DH b l1),g,d,tk,os⟩) l2 ys:=m2.push _;cases b<;>cases c;have q1:Heap.IsList (Shared.heap ⟨hp,g,d,tk,os⟩) l1 xs:=e1;have q2:Heap.IsList (Shared.heap ⟨hp.push {cls:=.type "list_iterator",data:=.fields #[.ref l1,.int 0 0]},g,d,tk,os⟩) l2 ys:=e2
  wp_walk using xo q1,xo q2;exact⟨_,rfl,h⟩;have q1:Heap.IsList (Shared.heap ⟨hp,g,d,tk,os⟩) l1 xs:=e1;have q2:Heap.IsTuple (Shared.heap ⟨hp.push {cls:=.type "list_iterator",data:=.fields #[.ref l1,.int 0 0]},g,d,tk,os⟩) l2 ys:=e2
  wp_walk using xo q1,uN q2;exact⟨_,rfl,h⟩;have q1:Heap.IsTuple (Shared.heap ⟨hp,g,d,tk,os⟩) l1 xs:=e1;have q2:Heap.IsList (Shared.heap ⟨hp.push {cls:=.type "tuple_iterator",data:=.fields #[.ref l1,.int 0 0]},g,d,tk,os⟩) l2 ys:=e2
  wp_walk using uN q1,xo q2;exact⟨_,rfl,h⟩;have q1:Heap.IsTuple (Shared.heap ⟨hp,g,d,tk,os⟩) l1 xs:=e1;have q2:Heap.IsTuple (Shared.heap ⟨hp.push {cls:=.type "tuple_iterator",data:=.fields #[.ref l1,.int 0 0]},g,d,tk,os⟩) l2 ys:=e2
  wp_walk using uN q1,uN q2;exact⟨_,rfl,h⟩
theorem LP{b:Bool}{h:az}{l:ah}{a:ah}(e:h.get? a=aB (DH b l)):ZI b h a l 0:=by cases b<;>exact⟨_,e,rfl,rfl⟩
theorem Ss{b c:Bool}{l1 l2:ah}{xs ys:Array aa}{Q:aa->af->Prop}(m1:ZS b s.heap l1 xs)(m2:ZS c s.heap l2 ys)
 (h:∀h',IsZip h' (s.heap.objs.size+4) (s.heap.objs.size+2) (s.heap.objs.size+3) .none->IsPair h' (s.heap.objs.size+2) (.ref s.heap.objs.size) (.ref (s.heap.objs.size+1))->
   IsPair h' (s.heap.objs.size+3) .none .none->ZI b h' s.heap.objs.size l1 0->ZI c h' (s.heap.objs.size+1) l2 0->h'.objs.size=s.heap.objs.size+5->
   (∀c o,s.heap.get? c=aB o->h'.get? c=aB o)->Q (.ref (s.heap.objs.size+4)) {s with heap:=h'}):wpAny (model prog w) A (call (.type "zip") [.ref l1,.ref l2]) Q E s:=by
 refine callType_new F.called_zip (by decide) (F.typeCall_zip_2 _ _) (F.newCall_zip_2 _ _) (λobj=>F.args_object_init_3 obj _ _) F.entry_zip_new (Sq b c l1 l2 xs ys) ⟨m1,m2,?_⟩;have n1:(DL s.heap b l1).objs.size=s.heap.objs.size+1:=j6 ..;have n2:(Ax s.heap b c l1 l2).objs.size=s.heap.objs.size+2:=by unfold Ax;rw[j6,n1]
 have n3:(Ay s.heap b c l1 l2).objs.size=s.heap.objs.size+3:=by unfold Ay;rw[j6,n2]
 have n4:(Az s.heap b c l1 l2).objs.size=s.heap.objs.size+4:=by unfold Az;rw[j6,n3]
 have n5:(tN s.heap b c l1 l2).objs.size=s.heap.objs.size+5:=by unfold tN;rw[j6,n4]
 have g5:(tN s.heap b c l1 l2).get? (Az s.heap b c l1 l2).objs.size=aB _:=iT _ rfl;have g4:(tN s.heap b c l1 l2).get? (Ay s.heap b c l1 l2).objs.size=aB _:=di _ (iT _ rfl);have g3:(tN s.heap b c l1 l2).get? (Ax s.heap b c l1 l2).objs.size=aB _:=di _ (di _ (iT _ rfl));have g2:(tN s.heap b c l1 l2).get? (DL s.heap b l1).objs.size=aB _:=di _ (di _ (di _ (iT _ rfl)));have g1:(tN s.heap b c l1 l2).get? s.heap.objs.size=aB _:=di _ (di _ (di _ (di _ (iT _ rfl))));show _/\_;rw[n2,n3,n4]at g5;rw[n1,n2]at g3;rw[n3]at g4;rw[n1]at g2;rw[n4];exact⟨⟨_,g5,rfl⟩,h _ g5 g3 g4 (LP g1) (LP g2) n5 λc o x=>di _ (di _ (di _ (di _ (di _ x))))⟩
end
noncomputable def mU(b:Bool)(K:aK)(H:Hp)(a:ah)(xs:List V):Prop:=match b with|true=>cN K H a xs|false=>dh K H a xs
theorem xV{b:Bool}{X:Cx}{pins:List (ah×Obj)}{σ:St}{H:Hp}{s:af}{a:ah}{xs:List V}(I:Inv X pins σ H s)(h:mU b X.K H a xs):∃its:List aa,Vals xs its/\ZS b s.heap a its.toArray/\xs.length<=sizeLine:=by cases b;obtain⟨its,r,p,z⟩:=I.list h;exact⟨its,r,p.isList,z⟩;exact I.tuple h
theorem LQ{b:Bool}{X:Cx}{pins:List (ah×Obj)}{σ:St}{H:Hp}{s:af}{a:ah}{xs ys:List V}(I:Inv X pins σ H s)(h:mU b X.K H a xs)(h':mU b X.K H a ys):xs=ys:=by cases b;exact I.j7 h h';exact I.gG h h'
noncomputable def vE(K:aK)(b c:Bool)(a1 a2:ah):It:=
 ⟨λi H=>∃xs ys x y,mU b K H a1 xs/\mU c K H a2 ys/\xs[i]?=aB x/\ys[i]?=aB y,
  λi H v H'=>∃T x y,v=.ref T/\H T=aC/\H'=upd H T (.tup [x,y])/\(∀xs,mU b K H a1 xs->xs[i]?=aB x)/\∀ys,mU c K H a2 ys->ys[i]?=aB y,
  λi H=>∃xs ys,mU b K H a1 xs/\mU c K H a2 ys/\(xs.length<=i\/ys.length<=i)⟩
theorem Inv.qV{X:Cx}{pins:List (ah×Obj)}{σ:St}{H:Hp}{s:af}{h2:az}{t':Nat}{fp:List ah}(I:Inv X pins σ H s)(hf:∀b∈fp,eE X pins H b)(kk:∀b o,b∉fp->s.heap.get? b=aB o->h2.get? b=aB o) :
 Inv X pins σ H {s with heap:=h2,toks:=t'}:=by
 have f0:=λb hb=>(hf b hb).1;have nE:∀b o,H b=aB o->b∉fp:=λb o q z=>by rw[f0 b z]at q;cases q
 refine I.step (g':=s.gens) (d':=s.drawn) (ch:=fp) (λb hb=>?_) (λb o _ _ hc e1 _=>kk b o hc e1) (λb o _ _ hc e1 _=>⟨o.slots,kk b o hc e1⟩) (λ_ _ _ _ n=>n) (λb o hc e1=>⟨o,kk b o hc e1⟩)
  (λ_ _ q=>q) (λ_ _ _ q=>q) (λb ps q=>⟨#[],by rw[q];simp⟩) (λm hm=>?_) (λb ob q=>?_) I.bare
 obtain⟨_,a1,a2,a3,a4,a5⟩:=hf b hb;exact⟨a3,a1,a4,a5⟩;obtain⟨o,es,ep,ho',r⟩:=hm;exact⟨o,es,ep,kk _ o (λz=>(hf _ z).2.1 rfl) ho',r⟩;refine(I.hok b ob q).stay (λc v hc z=>kk c v ?_ z) (λ_ z=>z) λ_ _ z=>z;rcases hc with rfl|hc;exact nE c ob q;exact nE c _ hc
theorem Inv.qW{X:Cx}{pins:List (ah×Obj)}{σ:St}{H:Hp}{s:af}{h2:az}{fp:List ah}{xs:List V}{us:List aa}(I:Inv X pins σ H s)(hf:∀b∈fp,eE X pins H b)(kk:∀b o,b∉fp->s.heap.get? b=aB o->h2.get? b=aB o)
 (hT:h2.get? s.heap.objs.size=aB {cls:=.type "tuple",data:=.seq us.toArray}) (hv:Vals xs us) (hz:xs.length<=sizeLine):Inv X pins σ (upd H s.heap.objs.size (.tup xs)) {s with heap:=h2}:=by
 have lT:H s.heap.objs.size=aC:=I.hok.fresh (bf _);have f0:=λb hb=>(hf b hb).1;have nE:∀b o,H b=aB o->b∉fp:=λb o q z=>by rw[f0 b z]at q;cases q
 refine I.step (g':=s.gens) (d':=s.drawn) (ch:=fp) (λb hb=>?_) (λb o _ _ hc e1 _=>kk b o hc e1) (λb o _ _ hc e1 _=>⟨o.slots,kk b o hc e1⟩) (λb o hc e1 n=>by rw[bZ (gE (dz e1))];exact n) (λb o hc e1=>⟨o,kk b o hc e1⟩)
  (λb ys q=>by rw[bZ (iy q lT)];exact q) (λb o u q=>by rw[bZ (iy q lT)];exact q) (λb ps q=>⟨#[],by rw[bZ (iy q lT),q];simp⟩) (λm hm=>?_) (λb ob q=>?_) I.bare
 obtain⟨_,a1,a2,a3,a4,a5⟩:=hf b hb;exact⟨a3,a1,a4,a5⟩;obtain⟨o,es,ep,ho',r⟩:=hm;exact⟨o,es,ep,kk _ o (λz=>(hf _ z).2.1 rfl) ho',r⟩;by_cases hb:b=s.heap.objs.size;subst hb;rw[fJ]at q;cases q;exact⟨hz,us,hv,⟨_,hT,rfl,⟨_,rfl⟩,rfl⟩⟩;rw[bZ hb]at q;refine(I.hok b ob q).stay (λc v hc z=>kk c v ?_ z) (λc z=>by rw[bZ (iy z lT)];exact z) λc ys z=>by rw[bZ (iy z lT)];exact z
 rcases hc with rfl|hc;exact nE c ob q;exact nE c _ hc
theorem Su{P:ai}{w:aj}{K:aK}{elts:List ao}{kx:Nat}{tp:Pos}{b c:Bool}(a1 a2 z TI TO i1 i2:ah)(D:ZA z TI TO i1 i2 a1 a2) :
 Turn P w K (.Tuple elts kx tp) (vE K b c a1 a2) [z,TI,TO,i1,i2] z (λi h=>IsZip h z TI TO .none/\IsPair h TI (.ref i1) (.ref i2)/\(∃p q,IsPair h TO p q)/\ZI b h i1 a1 i/\ZI c h i2 a2 i)where
 mem:=by simp
 obj:=λi h st d hd=>by
  obtain⟨hz,hTI,⟨p,q,hTO⟩,h1,h2⟩:=st;simp only[fT,CY,or_false]at hd;rcases hd with rfl|rfl|rfl|rfl|rfl;exact⟨_,hz,λv z=>by
   have z':Data.fields _=Data.cell v:=z;cases z'⟩
  exact⟨_,hTI,λv z=>by
   have z':Data.seq _ _=Data.cell v:=z;cases z'⟩
  exact⟨_,hTO,λv z=>by
   have z':Data.seq _ _=Data.cell v:=z;cases z'⟩
  exact h1.ob;exact h2.ob
 keep:=λi h h' st k=>by
  obtain⟨hz,hTI,⟨p,q,hTO⟩,h1,h2⟩:=st;exact⟨k z (by simp) _ hz,k TI (by simp) _ hTI,⟨p,q,k TO (by simp) _ hTO⟩,h1.mv λo e=>k i1 (by simp) o e,h2.mv λo e=>k i2 (by simp) o e⟩
 item:=by
  intro X hP hw hK hc i pins s σ H E I hf st hg;subst hP hw hK;obtain⟨xs,ys,x,y,q1,q2,hx,hy⟩:=hg;obtain⟨hz,hTI,⟨p,q,hTO⟩,h1,h2⟩:=st;obtain⟨its,rv,m1,_⟩:=xV I q1;obtain⟨LR,rw',m2,_⟩:=xV I q2;obtain⟨u,hu,ru⟩:=rv.get hx;obtain⟨v,hv,Sv⟩:=rw'.get hy;refine Sn D hz hTI hTO h1 h2 m1 m2 (x:=u) (y:=v) (by simpa using hu) (by simpa using hv) λg b1 b2 b3 b4 b5 b6 b7=>⟨_,rfl,wpAny_letOwnedTupleGo_zip b1 λg2 c1 c2=>?_⟩
  obtain⟨⟨d1,d2,d3,d4⟩,⟨d5,d6,d7,d8,d9,Aw⟩,_,_⟩:=D;have c2:Heap.SameBut z g g2:=c2;have DK:s.heap.objs.size≠z:=sW (dz hz);have kk:∀d o,d∉[z,TI,TO,i1,i2]->s.heap.get? d=aB o->g2.get? d=aB o:=λd o hd e=>(c2.2 d λx=>hd (by simp[x])).trans (b7 d o (λx=>hd (by simp[x])) (λx=>hd (by simp[x])) (λx=>hd (by simp[x])) (λx=>hd (by simp[x])) e);have hT:g2.get? s.heap.objs.size=aB {cls:=.type "tuple",data:=.seq [u,v].toArray}:=(c2.2 _ DK).trans b5;have I2:=Inv.qW (xs:=[x,y]) I hf kk hT (.cons ru (.cons Sv .nil)) (by show 2<=sizeLine;decide);have lT:H s.heap.objs.size=aC:=I.hok.fresh (bf _);refine⟨.ref s.heap.objs.size,_,I2,rfl,⟨_,x,y,rfl,lT,rfl,λzs hzs=>by rw[LQ I hzs q1];exact hx,λzs hzs=>by rw[LQ I hzs q2];exact hy⟩,
   ⟨c1,(c2.2 TI d1).trans (b7 TI _ d1 d5 d6 d7 hTI),⟨u,v,(c2.2 TO d2).trans b2⟩,b3.mv λo e=>(c2.2 i1 d3).trans e,b4.mv λo e=>(c2.2 i2 d4).trans e⟩,λd hd=>?_⟩
  rw[bZ ?_];exact(hf d hd).1;intro e;obtain⟨o,ho⟩:∃o,s.heap.get? d=aB o:=by
   simp only[fT,CY,or_false]at hd;rcases hd with rfl|rfl|rfl|rfl|rfl
   exact⟨_,hz⟩;exact⟨_,hTI⟩;exact⟨_,hTO⟩;exact let⟨o,h,_⟩:=h1.ob;⟨o,h⟩;exact let⟨o,h,_⟩:=h2.ob;⟨o,h⟩
  exact gE (dz ho) e
 done:=by intro X hP hw hK hc i pins s σ H E I hf st hg;subst hP hw hK;obtain⟨xs,ys,q1,q2,hl⟩:=hg;obtain⟨hz,hTI,⟨p,q,hTO⟩,h1,h2⟩:=st;obtain⟨its,rv,m1,_⟩:=xV I q1;obtain⟨LR,rw',m2,_⟩:=xV I q2;have l1:=rv.length;have l2:=rw'.length;exact So (I.ok.hd hc) D hz hTI hTO h1 h2 m1 m2 (hl.imp (λh=>by simp;lia) λh=>by simp;lia) λg hk=>⟨rfl,Inv.qV (t':=s.toks) I hf λd o hd e=>hk d o (λx=>hd (by simp[x])) (λx=>hd (by simp[x])) (λx=>hd (by simp[x])) (λx=>hd (by simp[x])) e⟩
 self:=λ_ _ _ _ _ st h=>wpAny_pyIter_zip st.1 h
theorem Sw{bs:List Bool}{its:List aa}(r:Vals (bs.map .bl) its)(i:Nat){v:aa}(h:its[i]?=aB v):∃b,bs[i]?=aB b/\v=.bool b:=by have hl:=r.length;rw[bD]at hl;obtain⟨hi,_⟩:=iB.mp h;have hb:bs[i]?=aB bs[i]:=cJ (by lia);obtain⟨u,hu,ru⟩:=r.get (i:=i) (x:=.bl bs[i]) (by rw[dO,hb];rfl);rw[h]at hu;cases hu;exact⟨_,hb,ru⟩
theorem Sx(bs:List Bool):((List.range bs.length).all λi=>(bs[i]?).getD true)=bs.all id:=by rw[Bool.eq_iff_iff,ic,ic];refine⟨λh b hb=>?_,λh i hi=>?_⟩;obtain⟨i,hi,rfl⟩:=List.getElem_of_mem hb;have:=h i (mF.mpr hi);rw[cJ hi]at this;exact this;have hi':=mF.mp hi;rw[cJ hi'];exact h _ (jF hi')
section
variable{X:Cx}
theorem Sy(hc:X.calm):cG X (.builtin "all") (λxs H Q=>∃(p:ah) (bs:List Bool),xs=[.ref p]/\dh X.K H p (bs.map .bl)/\Q (.bl (bs.all id)) H):=by
 intro pins s σ H xs us Q I r h;obtain⟨p,bs,rfl,hq,q⟩:=h;obtain⟨u,rfl,ru⟩:=vals1 r;cases ru;obtain⟨its,rv,pl,hz⟩:=I.list hq;have hL:s.heap.IsList p its.toArray:=pl.isList;have hlt:p<s.heap.objs.size:=by obtain⟨_,e,_⟩:=hL;exact dz e
 have hd:X.A.in1.handled=aC:=I.ok.hd hc;have hlen:its.toArray.size=bs.length:=by rw[dU,<-rv.length,bD]
 refine call_all_walk (xo hL ⟨s.heap.objs.size,[s.heap.objs.size,p],[s.heap.objs.size],its.toArray.size,_,_,λi=>(bs[i]?).getD true,rfl,Walks.list (A:=X.A.in1) hd _ p (gE hlt) its.toArray,?_,?_,?_⟩);exact⟨⟨_,iT _ rfl,rfl,rfl⟩,hL.push _⟩;intro i v s' Q' E' hP hQ;obtain⟨b,e,rfl⟩:=Sw rv i (by simpa using hP);simp only[e,C5]at hQ;exact qj hQ;intro h' tk hk;rw[hlen,Sx];refine⟨.bl (bs.all id),H,I.kept (t':=tk) λb o e=>hk b o (λhm=>?_) (di _ e),rfl,q⟩;rw[nP.mp hm]at e;exact gC _ (dz e)
end
section
variable{X:Cx}
theorem Inv.freeze{pins:List (ah×Obj)}{σ:St}{H:Hp}{s:af}{a:ah}{kvs:List (Key×V)}(I:Inv X pins σ H s)(e:H a=aB (.dK kvs)):∃ob,Inv X pins σ (upd H a (.bC ob (.dK kvs))) s:=by
 obtain⟨z,y,vs,r,ob,es,ep,e1,c⟩:=(show br X.prog X.w H s.heap a (.dK kvs)from I.hok a _ e)
 refine⟨ob,?_⟩;exact I.write (x:=a) (e:=a) (o:=.bC ob (.dK kvs)) (h':=s.heap) (t':=s.toks) (by rw[e];trivial) (.inl rfl) (λ_ _ _ q=>q) ⟨ob,e1⟩ ⟨e1,z,y,vs,r,ob,es,ep,e1,c⟩
theorem AA{P:ai}{w:aj}{k:Key}{u:aa}(h:(iC P w).is k u):RelV (kV k) u:=by rcases pN h with⟨i,t,rfl,rfl⟩|⟨x,t,rfl,rfl⟩;exact⟨t,rfl⟩;exact⟨t,rfl⟩
noncomputable def AB(a:ah)(ob:Obj)(kvs:List (Key×V)):It where
 go:=λi H=>H a=aB (.bC ob (.dK kvs))/\i<kvs.length
 tw:=λi H x H'=>H'=H/\∃k v,kvs[i]?=aB (k,v)/\x=kV k
 stop:=λi H=>H a=aB (.bC ob (.dK kvs))/\i=kvs.length
theorem Sz{P:ai}{w:aj}{K:aK}{tg:ao}{a it:ah}{ob:Obj}{kvs:List (Key×V)}{es:Array DictEntry}{ep:Nat}(hd:ob.data=.dict es ep)(hne:a≠it):Turn P w K tg (AB a ob kvs) [it] it (λi h=>h.IsKeyIter it a i kvs.length ep)where
 mem:=by simp
 obj:=λi h st b hb=>by
  have e:b=it:=by simpa using hb
  subst e;obtain⟨o,e,c,d⟩:=st;exact⟨o,e,λv z=>by rw[d]at z;cases z⟩
 keep:=λi h h' st k=>by
  obtain⟨o,e,c,d⟩:=st;exact⟨o,k it (by simp) o e,c,d⟩
 item:=by
  intro X hP hw hK hc i pins s σ H E I hf st hg;subst hP hw hK;obtain⟨e0,hi⟩:=hg;obtain⟨e1,z,y,vs,r,o',es',zk,e2,c1,c2,c3,c4,c5⟩:=(show br X.prog X.w H s.heap a (.bC ob (.dK kvs))from I.hok a _ e0)
  rw[e1]at e2;cases e2;rw[hd]at c2;cases c2;obtain⟨f0,f1,f2,f3,f4,f5⟩:=hf it (by simp);have hl:=r.length;have W:=Walks.dictKeys (knd:=iC X.prog X.w) (I.ok.hd hc) it a hne vs ep;refine W.item i s _ _ (by lia) ⟨by rw[<-hl];exact st,ob,es,e1,c1,hd,c3,c4,c5⟩ λv h' tk hv st' kk=>?_;obtain⟨k,x,hk,his⟩:=hv;have I1:Inv X pins σ H {s with heap:=h',toks:=tk}:=I.turned (λb o hb e=>kk b o (by simpa using hb) e) f0 f1 f3 f4 f5;have st2:h'.IsKeyIter it a (i+1) kvs.length ep:=by rw[hl];exact st'.1
  obtain⟨o,e,c,d⟩:=id st2;have hk2:∃v0,kvs[i]?=aB (k,v0):=by
   have q:=r.keys;have q2:(kvs.map (·.1))[i]?=(vs.map (·.1))[i]?:=by rw[q]
   rw[dO,dO,hk]at q2;cases q3:kvs[i]? with|none=>rw[q3]at q2;cases q2|some p=>rw[q3]at q2;obtain⟨p1,p2⟩:=p;cases q2;exact⟨p2,rfl⟩
  obtain⟨v0,SD⟩:=hk2;exact⟨v,rfl,lO (s:={s with heap:=h',toks:=tk}) e c d (by decide) ⟨kV k,H,I1,AA his,⟨rfl,k,v0,SD,rfl⟩,st2,λb hb=>(hf b hb).1⟩⟩
 done:=by
  intro X hP hw hK hc i pins s σ H E I hf st hg;subst hP hw hK;obtain⟨e0,hi⟩:=hg;obtain⟨e1,z,y,vs,r,o',es',zk,e2,c1,c2,c3,c4,c5⟩:=(show br X.prog X.w H s.heap a (.bC ob (.dK kvs))from I.hok a _ e0)
  rw[e1]at e2;cases e2;rw[hd]at c2;cases c2;obtain⟨f0,f1,f2,f3,f4,f5⟩:=hf it (by simp);have hl:=r.length;have W:=Walks.dictKeys (knd:=iC X.prog X.w) (I.ok.hd hc) it a hne vs ep;refine W.done s _ _ ⟨by rw[<-hl];rw[hi]at st;exact st,ob,es,e1,c1,hd,c3,c4,c5⟩ λh' tk kk=>?_;exact⟨rfl,I.turned (λb o hb e=>kk b o (by simpa using hb) e) f0 f1 f3 f4 f5⟩
 self:=λ_ _ _ _ _ st h=>wpAny_pyIter_keyiter st h
end
section
variable{X:Cx}
noncomputable def oh(k v:ao):aa->Env->Sem Unit:=λacc env=>do
 let kv <-eval k env
 let vv <-holding [kv] (eval v env)
 match acc with
 |.ref d=>do
  standAt {line:=k.pos.line,col:=k.pos.col,endLine:=v.pos.endLine,endCol:=v.pos.endCol}
  holding [kv,vv] (dictSet d kv vv)
 |_=>unsupported "internal:dictcomp"
theorem LS{P:ai}{w:aj}{k v tg iter:ao}{ifs:List ao}{scope:ay}{pos:Pos}:kr P w (.DictComp k v [⟨tg,iter,ifs,0⟩] scope pos) tg iter ifs (oh k v) newDict {cls:=.type "dict",data:=.dict #[]} (.dK [])where
 cl:=⟨[],rfl⟩
 turn:=λ_ _ _=>rfl
 dl:=λ_ _ _=>rfl
 ds:=λ_ _ _=>rfl
 al:=λ_ _ _ _=>rfl
 as:=λ_ _ _ _=>rfl
 new:=λA s Q E q=>qk q
 ok:=λH h hb=>GF h hb
noncomputable def LU(tk tv:TE)(D:ah):TM:=λσ H Q=>tk σ H λx H1=>tv σ H1 λy H2=>∃kvs k,H2 D=aB (.dK kvs)/\x=kV k/\kvs.length<sizeLine/\Q σ (upd H2 D (.dK (putK kvs k y)))
theorem LV{k v:ao}{tk tv:TE}(hk:PE X k tk)(hv:PE X v tv)(D:ah):PM X (oh k v (.ref D) X.env) (LU tk tv D):=by
 intro pins s σ H Q I h;unfold oh;refine aS (bg (hk pins s σ H _ I h) λu s1 z9=>z9.el λx H1 I1 r1 q1=>?_);refine aS (pF (bg (hv pins s1 σ H1 _ I1 q1) λu2 s2 z9=>z9.el λy H2 I2 r2 b9=>?_));obtain⟨kvs,kk,e,ex,l,q2⟩:=b9;refine aS (mE (pF ?_));subst ex;obtain⟨z,hd,vs,rel,dd⟩:=kj I2.hok e;have hz:vs.length<=sizeLine:=by rw[<-rel.length];exact z
 have hl:(putK kvs kk y).length<=sizeLine:=by have:=Dy kvs kk y;lia
 refine wpAny_dictSet_pairs (jv r1) dd (λh' mS hs=>?_) hz;have he:∃q,h'.get? D=aB q:=let⟨q,_,_,hq,_⟩:=mS;⟨q,hq⟩;exact⟨σ,_,Al I2 (by rw[e];exact True.intro) hs he (DA hl hd (rel.put kk r2) mS),q2⟩
end
noncomputable def tO(e tg iter:ao)(ifs:List ao)(it acc:aa)(env:Env)(emit:Sem Unit):Sem Fin:=do
 standAt iter.pos
 match <-pyNext it with
 |none=>pure (.done .next)
 |some v=>
  letOwnedTupleGo tg it v
  assign tg env v
  let ok <-xU ifs env
  if ok then emit
  again (.compLoop e 1 it acc env)
noncomputable def lV(elt:ao):aa->Env->Sem Unit:=λacc env=>do let _ <-call (.builtin "list.append") [acc,<-eval elt env]
noncomputable def ku(e bz:ao):aa->Env->Sem Unit:=λacc env=>do
 let x <-eval bz env
 standAt bz.pos
 let x <-foldedSetIterable bz env x
 let _ <-runOwn (.compStart e 1 (<-holding [x] (pyIter x)) acc env) env
section
variable{prog:ai}{w:aj}{A:ak}{R:Result->af->Prop}{s:af}{elt k9 dj tg iter:ao}{fL ifs:List ao}{scope:ay}{pos:Pos}{it acc:aa}{env:Env}
theorem SG(I:Nat->af->Prop)
 (turn:∀n s,I n s->wpAny (model prog w) A (pyNext it) (λr s₁=>match r with
   |none=>R (.ok .next) s₁
   |some v=>wpAny (model prog w) A (letOwnedTupleGo tg it v) (λ_ s₀=>wpAny (model prog w) A (assign tg env v) (λ_ s₂=>
    wpAny (model prog w) A (xU ifs env) (λok s₃=>
     if ok=true then wpAny (model prog w) A (lV elt acc env) (λ_ s₅=>∃m,m<n/\I m s₅) gW s₃
     else ∃m,m<n/\I m s₃) gW s₂) gW s₀) gW s₁) gW s)
 (n:Nat) (h:I n s):codeAny (model prog w) A (.compLoop (.ListComp elt [⟨k9,dj,fL,0⟩,⟨tg,iter,ifs,0⟩] scope pos) 1 it acc env) R s:=by
 refine codeAny_loop rfl I (λn s hI=>?_) n h;rw[show(model prog w).den (.compLoop (.ListComp elt [⟨k9,dj,fL,0⟩,⟨tg,iter,ifs,0⟩] scope pos) 1 it acc env)=(tO (.ListComp elt [⟨k9,dj,fL,0⟩,⟨tg,iter,ifs,0⟩] scope pos) tg iter ifs it acc env (lV elt acc env)).onRaise (λx=>do noteFrame x env;theTreesLotGoes x)from rfl,
  show A.under (.compLoop (.ListComp elt [⟨k9,dj,fL,0⟩,⟨tg,iter,ifs,0⟩] scope pos) 1 it acc env)=A from rfl]
 refine wpAny_noted (Gg ?_);unfold tO;refine aS (mE (aS (gV (turn n s hI) (λr s₁ h₁=>?_) λ_ _ z=>z)));cases r with
 |none=>exact bS h₁
 |some v=>
  refine aS (gV h₁ (λ_ s₀ h₀=>?_) λ_ _ z=>z);refine aS (gV h₀ (λ_ s₂ h₂=>aS (gV h₂ (λok s₃ h₃=>?_) λ_ _ z=>z)) λ_ _ z=>z);cases ok with
  |true=>
   simp only[cC]at h₃ ⊢;exact aS (gV h₃ (λ_ s₅ h₅=>bS ⟨rfl,h₅⟩) λ_ _ z=>z)
  |false=>
   simp only[fG,ez]at h₃ ⊢;exact bS ⟨rfl,h₃⟩
theorem SH(h0:codeAny (model prog w) A (.compLoop (.ListComp elt [⟨k9,dj,fL,0⟩,⟨tg,iter,ifs,0⟩] scope pos) 1 it acc env) R s)
 (h:wpAny (model prog w) A (pyIter it) (λj s'=>codeAny (model prog w) A (.compLoop (.ListComp elt [⟨k9,dj,fL,0⟩,⟨tg,iter,ifs,0⟩] scope pos) 1 j acc env) R s') (notedBy (model prog w) A env λx s'=>R (.error x) s') s) :
 codeAny (model prog w) A (.compStart (.ListComp elt [⟨k9,dj,fL,0⟩,⟨tg,iter,ifs,0⟩] scope pos) 1 it acc env) R s:=by
 refine codeAny_of_tree ?_;rw[show(model prog w).den (.compStart (.ListComp elt [⟨k9,dj,fL,0⟩,⟨tg,iter,ifs,0⟩] scope pos) 1 it acc env)=(compStart (.ListComp elt [⟨k9,dj,fL,0⟩,⟨tg,iter,ifs,0⟩] scope pos) 1 it acc env).onRaise (λx=>do noteFrame x env;standAt theWindowsPlace)from rfl,
  show A.under (.compStart (.ListComp elt [⟨k9,dj,fL,0⟩,⟨tg,iter,ifs,0⟩] scope pos) 1 it acc env)=A from rfl]
 refine wpAny_notedAt ?_;unfold compStart;rw[show(clausesOf (.ListComp elt [⟨k9,dj,fL,0⟩,⟨tg,iter,ifs,0⟩] scope pos))=[⟨k9,dj,fL,0⟩,⟨tg,iter,ifs,0⟩]from rfl];show wpAny _ _ (ask >>= _) _ _ s;refine aS (wpAny_askSetting (xr ?_));split;first
  |exact aS (bS (bS (And.intro rfl h0)))
  |exact bS (And.intro rfl h0)
 first
  |exact aS (qm (aS (mE (aS (gV h (λj s' h'=>bS ⟨rfl,h'⟩) λ_ _ z=>z)))))
  |(refine aS (qm ?_);show wpAny _ _ (standAt iter.pos >>= _) _ _ s;exact aS (mE (aS (gV h (λj s' h'=>bS ⟨rfl,h'⟩) λ_ _ z=>z))))
end
section
variable{X:Cx}{elt k9 dj tg iter:ao}{fL ifs:List ao}{scope:ay}{pos:Pos}{wi:TI}{g:TG}{tc:TT}{te:TE}
noncomputable def GR(te:TE)(D:ah):TM:=λσ H Q=>te σ H λy H1=>∃ys,H1 D=aB (.lst ys)/\ys.length<sizeLine/\Q σ (upd H1 D (.lst (ys++[y])))
theorem SI(he:PE X elt te)(D:ah):PM X (lV elt (.ref D) X.env) (GR te D):=by intro pins s σ H Q I h;unfold lV;refine aS (bg (he pins s σ H _ I h) λy s1 z9=>z9.el λvy H1 I1 ry b9=>?_);obtain⟨ys,hD,hz,q⟩:=b9;refine aS (bg (F2 _ s1 σ H1 (.ref D) [vy] (.ref D) [y] (λv H'=>H'=upd H1 D (.lst (ys++[vy]))) I1 rfl (.cons ry .nil) ⟨_,ys,vy,rfl,rfl,hD,hz,rfl⟩) λ_ s2 b9=>?_);obtain⟨v2,H2,I2,_,e2⟩:=b9;subst e2;exact bS ⟨σ,_,I2,q⟩
noncomputable def LW(wi:TI)(g:TG)(tc:TT)(tm:TM):TM:=λσ H Q=>wi σ H λJ H1=>∃W:Nat->Nat->St->Hp->Prop,(∃m,W 0 m σ H1)/\∀i m σ' H',W i m σ' H'->
 ((J.stop i H'/\Q σ' H')\/(J.go i H'/\∀x H2,J.tw i H' x H2->g x σ' H2 λσ2 H3=>tc σ2 H3 λb H4=>
   if b=true then tm σ2 H4 λkh H5=>∃m',m'<m/\W (i+1) m' kh H5
   else ∃m',m'<m/\W (i+1) m' σ2 H4))
theorem LX(hc:X.calm)(hx:X.xe=gW)(hi:PI X tg iter wi)(hg:PG X tg g)(ht:iG X ifs tc)(he:PE X elt te)(hs:∀x,foldedSetIterable iter X.env x=pure x)(D:ah) :
 PM X (ku (.ListComp elt [⟨k9,dj,fL,0⟩,⟨tg,iter,ifs,0⟩] scope pos) iter (.ref D) X.env) (LW wi g tc (GR te D)):=by
 intro pins s σ H Q I h;unfold ku;have q1:=hi pins s σ H _ I h;rw[hx]at q1 ⊢;refine aS (bg q1 λv s1 h1=>aS (mE ?_));rw[hs];refine aS (bS (aS (pF (bg h1 λitv s2 h2=>?_))));obtain⟨it,fp,tn,J,H2,e,I2,T,st2,f2,W,⟨m0,w0⟩,turn⟩:=h2;subst e;have k7:∀{H':Hp},(∀b∈fp,H' b=aC)->∀b∈fp,eE X pins H' b:=λhn b hb=>⟨hn b hb,(f2 b hb).2⟩
 have loop:codeAny (model X.prog X.w) X.A (.compLoop (.ListComp elt [⟨k9,dj,fL,0⟩,⟨tg,iter,ifs,0⟩] scope pos) 1 (.ref it) (.ref D) X.env)
  (λr s'=>match r with|.ok f=>wpAny (model X.prog X.w) X.A (pure ()) (λ(_:Unit) s'=>∃σ' H',Inv X pins σ' H' s'/\Q σ' H') gW s'|.error e=>cameBackBy (model X.prog X.w) X.A X.env gW e s') s2:=by
  refine SG (λn s'=>∃i σ' H',Inv X pins σ' H' s'/\tn i s'.heap/\(∀b∈fp,H' b=aC)/\W i n σ' H') ?_ m0 ⟨0,σ,H2,I2,st2,λb hb=>(f2 b hb).1,w0⟩;rintro n s3 ⟨i,σ3,H3,I3,st3,zG,w3⟩;rcases turn i n σ3 H3 w3 with⟨stop,qn⟩|⟨go,step⟩
  .refine bg (T.done X rfl rfl rfl hc i pins s3 σ3 H3 gW I3 (k7 zG) st3 stop) λr s4 b9=>?_
   obtain⟨hr,I4⟩:=b9;subst hr;exact bS ⟨σ3,H3,I4,qn⟩
  refine bg (T.item X rfl rfl rfl hc i pins s3 σ3 H3 gW I3 (k7 zG) st3 go) λr s4 b9=>?_;obtain⟨u,hr,h4⟩:=b9;subst hr;refine bg h4 λ_ s5 b9=>?_;obtain⟨x,H5,I5,r5,y5,mK,qH⟩:=b9;have FJ:=I5.pinned (k7 qH) (T.obj _ _ mK);have again:∀{kO:St}{H7:Hp}{s7:af}{m':Nat},Inv X (pins++ve fp s5.heap) kO H7 s7->m'<n->W (i+1) m' kO H7->∃m,m<n/\∃i σ' H',Inv X pins σ' H' s7/\tn i s7.heap/\(∀b∈fp,H' b=aC)/\W i m σ' H':=λ{kO H7 s7 m'} I7 hm w7=>by
   refine⟨m',hm,i+1,kO,H7,I7.dP,T.keep _ _ _ mK λb hb o e=>(I7.pin (b,o) (jn _ (jn _ (tB hb e)))).1,λb hb=>?_,w7⟩;obtain⟨o,e,d⟩:=T.obj _ _ mK b hb;exact(I7.pin (b,o) (jn _ (jn _ (tB hb e)))).2.1
  have q6:=hg _ s5 σ3 H5 x u _ FJ r5 (step x H5 y5);rw[hx]at q6;refine bg q6 λ_ s6 b9=>?_;obtain⟨jW,H6,I6,q6⟩:=b9;have q7:=ht _ s6 jW H6 _ I6 q6;rw[hx]at q7;refine bg q7 λok s7 z9=>z9.el λH7 I7 q7=>?_;cases ok with
  |false=>
   simp only[fG,ez]at q7 ⊢;obtain⟨m',hm,w7⟩:=q7;exact again I7 hm w7
  |true=>
   simp only[cC]at q7 ⊢;have q8:=SI he D _ s7 jW H7 _ I7 q7;rw[hx]at q8;exact bg q8 λ_ s8 ⟨ki,H8,I8,m',hm,w8⟩=>again I8 hm w8
 exact aS (wpAny_runOwn (SH loop (T.self _ 0 _ _ _ st2 loop)))
theorem SJ{bz gJ:ao}{dI:List ao}(it acc:aa)(env:Env):compTurn (.ListComp elt [⟨tg,iter,ifs,0⟩,⟨gJ,bz,dI,0⟩] scope pos) 0 it acc env=kq (.ListComp elt [⟨tg,iter,ifs,0⟩,⟨gJ,bz,dI,0⟩] scope pos) tg iter ifs it acc env (ku (.ListComp elt [⟨tg,iter,ifs,0⟩,⟨gJ,bz,dI,0⟩] scope pos) bz acc env):=by
 unfold compTurn kq ku;simp only[i9,nO,lI,bne_self_eq_false,fG,ez,reduceIte];congr 1;funext _;congr 1;funext r;cases r with
 |none=>rfl
 |some v=>
  dsimp only;congr 1;funext _;congr 1;funext _;congr 1;funext ok;cases ok;rfl;simp only[cC];simp only[LawfulMonad.bind_assoc,qy]
theorem LY{P:ai}{w:aj}{bz gJ:ao}{dI:List ao}:kr P w (.ListComp elt [⟨tg,iter,ifs,0⟩,⟨gJ,bz,dI,0⟩] scope pos) tg iter ifs (ku (.ListComp elt [⟨tg,iter,ifs,0⟩,⟨gJ,bz,dI,0⟩] scope pos) bz) (newList []) {cls:=.type "list",dict:=aC,data:=.seq ([]:List aa).toArray} (.lst [])where
 cl:=⟨_,rfl⟩
 turn:=SJ
 dl:=λ_ _ _=>rfl
 ds:=λ_ _ _=>rfl
 al:=λ_ _ _ _=>rfl
 as:=λ_ _ _ _=>rfl
 new:=λA s Q E q=>qk q
 ok:=λH h hb=>⟨lJ _,[],0,.nil,iT _ rfl⟩
end
noncomputable def cX{α:Type}:List α->List α|[]=>[]|[x]=>[x]|x::_::r=>x::cX r
theorem LZ{α:Type}:∀l:List α,(cX l).length=(l.length+1)/2
 |[]=>by simp[cX]
 |[x]=>by simp[cX]
 |x::y::r=>by
  show(cX r).length+1=_;rw[LZ r,dg,dg];lia
theorem DM{α:Type}:∀(l:List α) (i:Nat),(cX l)[i]?=l[2*i]?
 |[],i=>by simp[cX]
 |[x],0=>rfl
 |[x],i+1=>by
  show([x]:List α)[i+1]?=_;rw[iS (by simp),iS (by simp;lia)]
 |x::y::r,0=>rfl
 |x::y::r,i+1=>by
  show(cX r)[i]?=_;rw[DM r i,show 2* (i+1)=2*i+1+1 by lia,lI,lI]
end L2
namespace RF
open PySem
inductive W where
 |aR|bl (b:Bool)|int (i:Int)|str (x:Str)|tup (ws:List W)|fz (ws:List W)|ref (i:Nat)
mutual
noncomputable def W.lt(n:Nat):W->Bool|.tup ws=>W.lW n ws|.fz ws=>W.lW n ws|.ref i=>Nat.blt i n|_=>true
noncomputable def W.lW(n:Nat):List W->Bool|[]=>true|w::ws=>W.lt n w&&W.lW n ws
end
inductive VO where
 |lst (ws:List W)|dk (kvs:List (L2.Key×W))|dm (kvs:List (L2.Key×W))
structure VH where
 n:Nat
 lo:Nat
 os:List VO
noncomputable def VH.get(h:VH)(i:Nat):Option VO:=if Nat.blt i h.n then h.os[h.n-1-i]? else aC
noncomputable def VH.set(h:VH)(i:Nat)(o:VO):VH:=⟨h.n,if Nat.blt i h.lo then i else h.lo,h.os.set (h.n-1-i) o⟩
noncomputable def VH.new(h:VH)(o:VO):VH:=⟨h.n+1,h.lo,o::h.os⟩
inductive Res(α:Type)where
 |ok (a:α) (h:VH)|ex (x:W) (h:VH)|no
noncomputable def Res.bind{α β:Type}(r:Res α)(f:α->VH->Res β):Res β:=match r with|.ok a h=>f a h|.ex x h=>.ex x h|.no=>.no
noncomputable def Res.of{α:Type}(o:Option α)(h:VH):Res α:=match o with|some a=>.ok a h|none=>.no
inductive Op where
 |add|sub|mul|fdiv|mod|shl|pow
 deriving DecidableEq
inductive Cp where
 |eq|ne|lt|le|gt|ge|xW|qX|kP|DN
 deriving DecidableEq
inductive Ty where
 |int|bool|tuple|list|str|dict
 deriving DecidableEq
inductive Bi where
 |len|list|tuple|int|abs|max|min|all|GS|GU|bC|st2
 deriving DecidableEq
inductive Mt where
 |append|get|update
 deriving DecidableEq
inductive Kd where
 |seq|bV|mV|lX|zip|keys
 deriving DecidableEq
inductive Tg where
 |one (i:Nat)|many (is:List Nat)|AD (i:Nat) (is:List Nat)
 deriving DecidableEq
inductive E where
 |var (i:Nat)|cst (w:W)
 |nil|cons (a r:E)
 |tup (a:E)|lst (a:E)|AE (a:E)
 |op (o:Op) (a b:E)|neg (a:E)
 |cmp (c:Cp) (a b:E)|qY (c d:Cp) (a b e:E)
 |not (a:E)|and (a b:E)|or (a b:E)|kQ (a:E)|ite (c a b:E)
 |idx (a b:E)|slc (a:E) (bl:Bool) (lo:E) (bh:Bool) (hi:E)
 |call (f:Nat) (a:E)|bi (b:Bi) (a:E)|oj (t:Ty) (a:E)|mt (m:Mt) (o a:E)
 |lc (k:Kd) (a:E) (t:Tg) (ow:Nat) (ix:List Nat) (c e:E)
 |xX (k:Kd) (a:E) (t:Tg) (ow:Nat) (ix:List Nat) (c:E) (k2:Kd) (a2:E) (t2:Tg) (c2 e:E)
 |dc (k:Kd) (a:E) (t:Tg) (ow:Nat) (ix:List Nat) (c e v:E)
inductive S where
 |skip|seq (a b:S)|set (i:Nat) (e:E)|vF (is:List Nat) (e:E)|aug (i:Nat) (o:Op) (e:E)
 |put (o i v:E)|ite (c:E) (a b:S)|ret (e:E)|expr (e:E)|brk|cnt
 |for (k:Kd) (a:E) (t:Tg) (b:S)|xY (c:E) (b:S)|no
noncomputable abbrev En:=List (Option W)
inductive Fl where
 |nx (ρ:En)|rt (w:W)|bk (ρ:En)|ct (ρ:En)
noncomputable def bF{α β:Type}(f:α->Option β):List α->Option (List β)
 |[]=>aB []
 |a::r=>match f a with
  |some b=>(match bF f r with
   |some bs=>aB (b::bs)
   |none=>aC)
  |none=>aC
noncomputable def toD(h:VH):Nat->W->Option aA
 |0,_=>aC
 |n+1,w=>match w with
  |.aR=>aB .none
  |.bl b=>aB (.bool b)
  |.int i=>aB (.int i)
  |.str x=>aB (.str x)
  |.tup ws=>(bF (toD h n) ws).map .tuple
  |.fz ws=>(bF (toD h n) ws).map .list
  |.ref i=>match h.get i with
   |some (.lst ws)=>(bF (toD h n) ws).map .list
   |_=>aC
noncomputable def cY(h:VH)(x y:W):Option Bool:=
 match toD h 24 x,toD h 24 y with|some d,aB e=>if SeqAt.shaped d&&SeqAt.shaped e then aB (PyData.eqv d e)else aC|_,_=>aC
noncomputable def big:Nat:=16777216
noncomputable def jX(i:Int):Bool:=decide (-(2 ^ 64)<i)&&decide (i<2 ^ 64)
noncomputable def gH:Op->Int->Int->Option Int|.add,i,j=>aB (i+j)|.sub,i,j=>aB (i-j)|.mul,i,j=>if jX i||jX j then aB (i*j)else aC|.fdiv,i,j=>if decide (0<j)&&decide (j<1073741824)then aB (i/j)else aC|.mod,i,j=>if decide (0<j)then aB (i % j)else aC|.shl,i,j=>if decide (0<=j)&&decide (j<=1000000)&&decide (i.natAbs<2 ^ 64)then aB (i*2 ^ j.toNat)else aC|.pow,i,j=>if decide (0<=j)&&decide (j<=1000000)&&decide (i.natAbs<2 ^ 64)then aB (i ^ j.toNat)else aC
noncomputable def GV:Op->List W->List W->Option (List W)|.add,xs,ys=>if Nat.ble (xs.length+ys.length) big then aB (xs++ys)else aC|_,_,_=>aC
noncomputable def DO:Op->List W->List W->Option (List W)|.add,xs,ys=>if Nat.ble (xs.length+ys.length) big then aB (xs++ys)else aC|_,_,_=>aC
noncomputable def fits(i:Int):Bool:=decide (-(2 ^ 62)<=i)&&decide (i<2 ^ 62)
noncomputable def qZ(o:Op)(xs:List W)(k:Int):Option (List W):=match o with|.mul=>if fits k&&Nat.ble (xs.length*k.toNat) big then aB (bK k.toNat xs).flatten else aC|_=>aC
noncomputable def iV(o:Op)(x y:W)(h:VH):Res W:=match x,y with
 |.int i,.int j=>.of ((gH o i j).map .int) h
 |.tup xs,.tup ys=>.of ((GV o xs ys).map .tup) h
 |.tup xs,.int k=>.of ((qZ o xs k).map .tup) h
 |.ref i,.ref j=>match h.get i,h.get j with
  |some (.lst xs),aB (.lst ys)=>(match DO o xs ys with
   |some zs=>.ok (.ref h.n) (h.new (.lst zs))
   |none=>.no)
  |_,_=>.no
 |_,_=>.no
noncomputable def vG(o:Op)(x y:W)(h:VH):Res W:=match x,y with
 |.int i,.int j=>(match o with
  |.add=>.ok (.int (i+j)) h
  |.sub=>.ok (.int (i-j)) h
  |.mul=>.of ((gH .mul i j).map .int) h
  |.fdiv=>.of ((gH .fdiv i j).map .int) h
  |_=>.no)
 |.ref i,.ref j=>match o,h.get i,h.get j with
  |.add,aB (.lst xs),aB (.lst ys)=>if Nat.ble (xs.length+ys.length) big then .ok (.ref i) (h.set i (.lst (xs++ys)))else .no
  |_,_,_=>.no
 |.tup (x::xs),.tup ys=>(match o with
  |.add=>if Nat.ble ((x::xs).length+ys.length) big then .ok (.tup (x::xs++ys)) h else .no
  |_=>.no)
 |_,_=>.no
noncomputable def ie:Cp->Int->Int->Option Bool|.lt,i,j=>aB (decide (i<j))|.le,i,j=>aB (decide (i<=j))|.gt,i,j=>aB (decide (j<i))|.ge,i,j=>aB (decide (j<=i))|_,_,_=>aC
noncomputable def dQ:W->Bool|.aR=>true|_=>false
noncomputable def aV(h:VH):W->Option (List W)
 |.tup ws=>aB ws
 |.fz ws=>aB ws
 |.ref i=>match h.get i with
  |some (.lst ws)=>aB ws
  |_=>aC
 |_=>aC
noncomputable def intD:W->Option Int|.int i=>aB i|_=>aC
noncomputable def tP(h:VH)(x y:W):Option Bool:=match aV h y,toD h 24 x with
 |some ws,aB d=>(match bF (toD h 24) ws with
  |some ds=>if ds.all SeqAt.shaped&&SeqAt.shaped d then aB (L2.fZ ds d)else aC
  |none=>aC)
 |_,_=>aC
noncomputable def AF:W->W->Option Bool|.bl c,.bl b=>aB (c==b)|_,_=>aC
noncomputable def bw(c:Cp)(h:VH)(x y:W):Option Bool:=match c with
 |.kP=>tP h x y
 |.DN=>(tP h x y).map (!·)
 |.eq=>cY h x y
 |.ne=>(cY h x y).map (!·)
 |.xW=>if dQ y then aB (dQ x)else AF x y
 |.qX=>if dQ y then aB (!dQ x)else(AF x y).map (!·)
 |c=>match x,y with
  |.int i,.int j=>ie c i j
  |_,_=>aC
noncomputable def mX(h:VH):W->Option Bool
 |.bl b=>aB b
 |.int i=>aB (i != 0)
 |.aR=>aB false
 |.tup ws=>aB (!ws.isEmpty)
 |.ref i=>match h.get i with
  |some (.lst ws)=>aB (!ws.isEmpty)
  |_=>aC
 |_=>aC
noncomputable def lg:W->Option L2.Key|.int i=>aB (.inl i)|.str x=>aB (.inr x)|_=>aC
noncomputable def aQ(kvs:List (L2.Key×W))(k:L2.Key):Option W:=(kvs.find? λkv=>decide (kv.1=k)).map (·.2)
noncomputable def bA(kvs:List (L2.Key×W))(k:L2.Key)(w:W):List (L2.Key×W):=
 if(kvs.any λkv=>decide (kv.1=k))=true then kvs.map (λkv=>if kv.1=k then(kv.1,w)else kv)else kvs++[(k,w)]
noncomputable def bT(h:VH)(x y:W):Option W:=match x,y with
 |.tup ws,.int i=>L2.fy ws i
 |.fz ws,.int i=>L2.fy ws i
 |.ref a,.int i=>(match h.get a with
  |some (.lst ws)=>L2.fy ws i
  |some (.dk kvs)=>aQ kvs (.inl i)
  |some (.dm kvs)=>aQ kvs (.inl i)
  |_=>aC)
 |.ref a,.str x=>(match h.get a with
  |some (.dk kvs)=>aQ kvs (.inr x)
  |_=>aC)
 |_,_=>aC
noncomputable def f9(b:Bool)(w:W):Option (Option Int):=match b,w with|false,_=>aB aC|true,.int i=>aB (aB i)|_,_=>aC
noncomputable def jc(ws:List W)(lo hi:Option Int):List W:=(ws.drop (HT.bR ws.length 0 lo)).take (HT.bR ws.length ws.length hi-HT.bR ws.length 0 lo)
noncomputable def kB(x:W)(l u:Option Int)(h:VH):Res W:=match x with
 |.tup ws=>.ok (.tup (jc ws l u)) h
 |.ref i=>(match h.get i with
  |some (.lst ws)=>.ok (.ref h.n) (h.new (.lst (jc ws l u)))
  |_=>.no)
 |_=>.no
@[simp] theorem AG {ws:List W} {l u:Option Int} {h:VH}:kB (.tup ws) l u h=.ok (.tup (jc ws l u)) h:=rfl
noncomputable def cP:Ty->VH->W->Option Bool
 |t,_,.aR=>aB false
 |t,_,.bl _=>aB (t == .int||t == .bool)
 |t,_,.int _=>aB (t == .int)
 |t,_,.str _=>aB (t == .str)
 |t,_,.tup _=>aB (t == .tuple)
 |_,_,.fz _=>aC
 |t,h,.ref i=>match h.get i with
  |some (.lst _)=>aB (t == .list)
  |some (.dk _)=>aB (t == .dict)
  |_=>aC
noncomputable def iH(xs:List W)(h:VH):Res W:=match xs with
 |[x]=>.of (match aV h x with
  |some ws=>aB (.int ws.length)
  |none=>aC) h
 |_=>.no
noncomputable def iI(xs:List W)(h:VH):Res W:=match xs with
 |[x]=>(match aV h x with
  |some ws=>.ok (.ref h.n) (h.new (.lst ws))
  |none=>.no)
 |_=>.no
noncomputable def vH(xs:List W)(h:VH):Res W:=match xs with
 |[x]=>.of (match aV h x with
  |some ws=>aB (.tup ws)
  |none=>aC) h
 |_=>.no
noncomputable def mY(xs:List W)(h:VH):Res W:=match xs with|[.int i]=>.ok (.int i) h|[.bl b]=>.ok (.int (if b then 1 else 0)) h|_=>.no
noncomputable def lq(xs:List W)(h:VH):Res W:=match xs with|[.int i]=>.ok (.int (if i<0 then -i else i)) h|_=>.no
noncomputable def iZ:W->Option Int|.int i=>aB i|_=>aC
noncomputable def dJ:Int->List Int->Int|x,[]=>x|x,y::r=>dJ (if y>x then y else x) r
noncomputable def mZ(xs:List W)(h:VH):Res W:=match xs with
 |[.int i,.int j]=>.ok (.int (if j>i then j else i)) h
 |[.ref i]=>(match h.get i with
  |some (.lst ws)=>(match bF iZ ws with
   |some (x::r)=>.ok (.int (dJ x r)) h
   |_=>.no)
  |_=>.no)
 |_=>.no
noncomputable def rj(xs:List W)(h:VH):Res W:=match xs with|[.int i,.int j]=>.ok (.int (if j<i then j else i)) h|_=>.no
noncomputable def tQ:W->Option Bool|.bl b=>aB b|_=>aC
noncomputable def kC(xs:List W)(h:VH):Res W:=match xs with
 |[.ref i]=>(match h.get i with
  |some (.lst ws)=>.of ((bF tQ ws).map λbs=>.bl (bs.all id)) h
  |_=>.no)
 |_=>.no
noncomputable def AH(j:Nat):List W:=(List.range' 0 j).map λ(i:Nat)=>W.int (0+ (i:Int))
noncomputable def tR(xs:List W)(h:VH):Res W:=match xs with|[.int i]=>if decide (0<=i)&&Nat.ble i.toNat big then .ok (.ref h.n) (h.new (.lst (AH i.toNat)))else .no|_=>.no
noncomputable def vI(xs:List W)(h:VH):Res W:=match xs with|[]=>.ok (.ref h.n) (h.new (.dm []))|_=>.no
noncomputable def m5(xs:List W)(h:VH):Res W:=match xs with
 |[.ref i]=>(match h.get i with
  |some (.dm kvs)=>.ok (.ref i) (h.set i (.dk kvs))
  |_=>.no)
 |_=>.no
noncomputable def rm:W->Option Nat|.aR=>aB 0|.int i=>if i=1 then aB 1 else aC|_=>aC
noncomputable def m9(xs:List W)(h:VH):Res W:=match xs with
 |[.ref i,l,.int k]=>(match h.get i,rm l with
  |some (.lst ws),aB c=>if k=2 then .ok (.ref h.n) (h.new (.lst (L2.cX (ws.drop c))))else .no
  |_,_=>.no)
 |_=>.no
noncomputable def lu(b:Bi)(xs:List W)(h:VH):Res W:=match b with|.abs=>lq xs h|.max=>mZ xs h|.min=>rj xs h|.all=>kC xs h|.GS=>tR xs h|.GU=>vI xs h|.bC=>m5 xs h|.st2=>m9 xs h|.len=>iH xs h|.list=>iI xs h|.tuple=>vH xs h|.int=>mY xs h
noncomputable def xZ(kvs more:List (L2.Key×W)):List (L2.Key×W):=more.foldl (λacc kv=>bA acc kv.1 kv.2) kvs
noncomputable def om(a b:Nat)(h:VH):Res W:=match h.get a,h.get b with|some (.dm kvs),aB (.dm more)=>if Nat.beq a b then .no else if Nat.ble (kvs.length+more.length) 1000 then .ok .aR (h.set a (.dm (xZ kvs more)))else .no|_,_=>.no
noncomputable def kR(m:Mt)(o:W)(xs:List W)(h:VH):Res W:=match m,o,xs with
 |.update,.ref i,[.ref j]=>om i j h
 |.append,.ref i,[x]=>(match h.get i with
  |some (.lst ws)=>if Nat.blt ws.length big then .ok .aR (h.set i (.lst (ws++[x])))else .no
  |_=>.no)
 |.get,.ref i,[k,d]=>(match h.get i,lg k with
  |some (.dk kvs),aB k=>.ok ((aQ kvs k).getD d) h
  |some (.dm kvs),aB k=>.ok ((aQ kvs k).getD d) h
  |_,_=>.no)
 |_,_,_=>.no
noncomputable def ly(m:Mt)(h:VH)(o:W):Bool:=match m,o with
 |.update,.ref i=>(match h.get i with
  |some (.dm _)=>true
  |_=>false)
 |.append,.ref i=>(match h.get i with
  |some (.lst _)=>true
  |_=>false)
 |.get,.ref i=>(match h.get i with
  |some (.dk _)=>true
  |some (.dm _)=>true
  |_=>false)
 |_,_=>false
noncomputable def vJ:L2.Key->W|.inl i=>.int i|.inr x=>.str x
noncomputable def aY(k:Kd)(x:W)(i:Nat)(h:VH):Option (Option W):=match k with
 |.seq=>(aV h x).map λws=>ws[i]?
 |.lX=>(match x with
  |.tup ws=>aB ((ws[i]?).map λw=>.tup [.int i,w])
  |_=>aC)
 |.keys=>(match x with
  |.ref a=>(match h.get a with
   |some (.dk kvs)=>(match kvs[i]? with
    |some kv=>aB (aB (vJ kv.1))
    |none=>if Nat.beq i kvs.length then aB aC else aC)
   |_=>aC)
  |_=>aC)
 |.zip=>(match x with
  |.tup [u,v]=>(match aV h u,aV h v with
   |some ws,aB zs=>aB (match ws[i]?,zs[i]? with
    |some a,aB b=>aB (.tup [a,b])
    |_,_=>aC)
   |_,_=>aC)
  |_=>aC)
 |.bV=>(match x with
  |.tup [.int j]=>if fits j then aB (if decide ((i:Int)<j)then aB (.int (0+i))else aC)else aC
  |_=>aC)
 |.mV=>(match x with
  |.tup [.int a,.int b]=>if fits a&&fits b then aB (if decide ((i:Int)<b-a)then aB (.int (a+i))else aC)else aC
  |_=>aC)
noncomputable def rq:List Nat->List W->En->Option En|[],[],ρ=>aB ρ|i::is,w::ws,ρ=>rq is ws (ρ.set i (aB w))|_,_,_=>aC
noncomputable def bH(t:Tg)(w:W)(h:VH)(ρ:En):Option En:=match t with
 |.one i=>aB (ρ.set i (aB w))
 |.AD j is=>(match w with
  |.tup [x,y]=>(match aV h y with
   |some ws=>rq is ws (ρ.set j (aB x))
   |none=>aC)
  |_=>aC)
 |.many is=>match aV h w with
  |some ws=>rq is ws ρ
  |none=>aC
noncomputable def fuel:Nat:=1000000
noncomputable def inner(ow:Nat)(ix:List Nat)(ρ:En):En:=bK ow aC++ix.map λj=>(ρ[j]?).join
noncomputable def ig(nx:Nat->VH->Option (Option W))(tg:W->VH->En->Option En)(c:En->VH->Res W)(e:En->VH->Res W):Nat->Nat->En->VH->List W->Res (List W)
 |0,_,_,_,_=>.no
 |f+1,i,ρ,h,acc=>match nx i h with
  |none=>.no
  |some aC=>.ok acc.reverse h
  |some (aB w)=>match tg w h ρ with
   |none=>.no
   |some ρ=>(c ρ h).bind λb h=>match b with
    |.bl true=>(e ρ h).bind λy h=>ig nx tg c e f (i+1) ρ h (y::acc)
    |.bl false=>ig nx tg c e f (i+1) ρ h acc
    |_=>.no
noncomputable def jx(nx:Nat->VH->Option (Option W))(tg:W->VH->En->Option En)(c:En->VH->Res W)(e:En->VH->Res W):Nat->Nat->En->VH->List W->Res (En×List W)
 |0,_,_,_,_=>.no
 |f+1,i,ρ,h,acc=>match nx i h with
  |none=>.no
  |some aC=>.ok (ρ,acc) h
  |some (aB w)=>match tg w h ρ with
   |none=>.no
   |some ρ=>(c ρ h).bind λb h=>match b with
    |.bl true=>(e ρ h).bind λy h=>jx nx tg c e f (i+1) ρ h (y::acc)
    |.bl false=>jx nx tg c e f (i+1) ρ h acc
    |_=>.no
noncomputable def kT(nx:Nat->VH->Option (Option W))(tg:W->VH->En->Option En)(c:En->VH->Res W)(kP:En->VH->List W->Res (En×List W)):Nat->Nat->En->VH->List W->Res (List W)
 |0,_,_,_,_=>.no
 |f+1,i,ρ,h,acc=>match nx i h with
  |none=>.no
  |some aC=>.ok acc.reverse h
  |some (aB w)=>match tg w h ρ with
   |none=>.no
   |some ρ=>(c ρ h).bind λb h=>match b with
    |.bl true=>(kP ρ h acc).bind λp h=>kT nx tg c kP f (i+1) p.1 h p.2
    |.bl false=>kT nx tg c kP f (i+1) ρ h acc
    |_=>.no
noncomputable def jK(nx:Nat->VH->Option (Option W))(tg:W->VH->En->Option En)(c:En->VH->Res W)(e v:En->VH->Res W):Nat->Nat->En->VH->List (L2.Key×W)->Res (List (L2.Key×W))
 |0,_,_,_,_=>.no
 |f+1,i,ρ,h,acc=>match nx i h with
  |none=>.no
  |some aC=>.ok acc h
  |some (aB w)=>match tg w h ρ with
   |none=>.no
   |some ρ=>(c ρ h).bind λb h=>match b with
    |.bl true=>(e ρ h).bind λx h=>(v ρ h).bind λy h=>(match lg x with
     |some k=>if Nat.blt acc.length big then jK nx tg c e v f (i+1) ρ h (bA acc k y)else .no
     |none=>.no)
    |.bl false=>jK nx tg c e v f (i+1) ρ h acc
    |_=>.no
noncomputable def eF(nx:Nat->VH->Option (Option W))(tg:W->VH->En->Option En)(b:En->VH->Res Fl):Nat->Nat->En->VH->Res Fl
 |0,_,_,_=>.no
 |f+1,i,ρ,h=>match nx i h with
  |none=>.no
  |some aC=>.ok (.nx ρ) h
  |some (aB w)=>match tg w h ρ with
   |none=>.no
   |some ρ=>(b ρ h).bind λfl h=>match fl with
    |.nx ρ=>eF nx tg b f (i+1) ρ h
    |.ct ρ=>eF nx tg b f (i+1) ρ h
    |.bk ρ=>.ok (.nx ρ) h
    |.rt w=>.ok (.rt w) h
noncomputable def dD(c:En->VH->Res W)(b:En->VH->Res Fl):Nat->En->VH->Res Fl
 |0,_,_=>.no
 |f+1,ρ,h=>(c ρ h).bind λt h=>match t with
  |.bl false=>.ok (.nx ρ) h
  |.bl true=>(b ρ h).bind λfl h=>match fl with
   |.nx ρ=>dD c b f ρ h
   |.ct ρ=>dD c b f ρ h
   |.bk ρ=>.ok (.nx ρ) h
   |.rt w=>.ok (.rt w) h
  |_=>.no
noncomputable def tS:List W->Option (List (L2.Key×W))
 |[]=>aB []
 |k::v::r=>match lg k with
  |some k=>(match tS r with
   |some kvs=>aB ((k,v)::kvs)
   |none=>aC)
  |none=>aC
 |_=>aC
noncomputable def AI(kvs:List (L2.Key×W)):VO:=.dk (xZ [] kvs)
noncomputable def oq(ρ:En)(a:Nat)(j:Int)(w:W)(h:VH):Res Fl:=match h.get a with|some (.dm kvs)=>if Nat.blt kvs.length big then .ok (.nx ρ) (h.set a (.dm (bA kvs (.inl j) w)))else .no|_=>.no
noncomputable abbrev Call:=Nat->List W->VH->Res W
noncomputable def ev(cl:Call):E->En->VH->Res W
 |.var i,ρ,h=>.of (ρ[i]?).join h
 |.cst w,_,h=>.ok w h
 |.nil,_,h=>.ok (.tup []) h
 |.cons a r,ρ,h=>(ev cl a ρ h).bind λx h=>(ev cl r ρ h).bind λy h=>match y with
  |.tup ys=>.ok (.tup (x::ys)) h
  |_=>.no
 |.tup a,ρ,h=>(ev cl a ρ h).bind λy h=>match y with
  |.tup ys=>if Nat.ble ys.length 1000 then .ok (.tup ys) h else .no
  |_=>.no
 |.lst a,ρ,h=>(ev cl a ρ h).bind λy h=>match y with
  |.tup ys=>if Nat.ble ys.length 1000 then .ok (.ref h.n) (h.new (.lst ys))else .no
  |_=>.no
 |.AE a,ρ,h=>(ev cl a ρ h).bind λy h=>match y with
  |.tup ys=>(match tS ys with
   |some kvs=>if Nat.ble kvs.length 15 then .ok (.ref h.n) (h.new (AI kvs))else .no
   |none=>.no)
  |_=>.no
 |.op o a b,ρ,h=>(ev cl a ρ h).bind λx h=>(ev cl b ρ h).bind λy h=>iV o x y h
 |.neg a,ρ,h=>(ev cl a ρ h).bind λx h=>match x with
  |.int i=>.ok (.int (-i)) h
  |_=>.no
 |.cmp c a b,ρ,h=>(ev cl a ρ h).bind λx h=>(ev cl b ρ h).bind λy h=>.of ((bw c h x y).map .bl) h
 |.qY c d a b e,ρ,h=>(ev cl a ρ h).bind λx h=>(ev cl b ρ h).bind λy h=>match bw c h x y with
  |some true=>(ev cl e ρ h).bind λz h=>.of ((bw d h y z).map .bl) h
  |some false=>.ok (.bl false) h
  |none=>.no
 |.not a,ρ,h=>(ev cl a ρ h).bind λx h=>match x with
  |.bl b=>.ok (.bl (!b)) h
  |_=>.no
 |.and a b,ρ,h=>(ev cl a ρ h).bind λx h=>match x with
  |.bl true=>ev cl b ρ h
  |.bl false=>.ok (.bl false) h
  |_=>.no
 |.or a b,ρ,h=>(ev cl a ρ h).bind λx h=>match x with
  |.bl true=>.ok (.bl true) h
  |.bl false=>ev cl b ρ h
  |_=>.no
 |.kQ a,ρ,h=>(ev cl a ρ h).bind λx h=>.of ((mX h x).map .bl) h
 |.ite c a b,ρ,h=>(ev cl c ρ h).bind λx h=>match x with
  |.bl true=>ev cl a ρ h
  |.bl false=>ev cl b ρ h
  |_=>.no
 |.idx a b,ρ,h=>(ev cl a ρ h).bind λx h=>(ev cl b ρ h).bind λy h=>.of (bT h x y) h
 |.slc a bl lo bh hi,ρ,h=>(ev cl a ρ h).bind λx h=>(ev cl lo ρ h).bind λl h=>(ev cl hi ρ h).bind λu h=>match f9 bl l,f9 bh u with
  |some l,aB u=>kB x l u h
  |_,_=>.no
 |.call f a,ρ,h=>(ev cl a ρ h).bind λy h=>match y with
  |.tup ys=>cl f ys h
  |_=>.no
 |.bi b a,ρ,h=>(ev cl a ρ h).bind λy h=>match y with
  |.tup ys=>lu b ys h
  |_=>.no
 |.oj t a,ρ,h=>(ev cl a ρ h).bind λx h=>.of ((cP t h x).map .bl) h
 |.mt m o a,ρ,h=>(ev cl o ρ h).bind λx h=>if ly m h x then(ev cl a ρ h).bind λy h=>match y with
  |.tup ys=>kR m x ys h
  |_=>.no
  else .no
 |.lc k a t ow ix c e,ρ,h=>(ev cl a ρ h).bind λx h=>(ig (aY k x) (bH t) (ev cl c) (ev cl e) fuel 0 (inner ow ix ρ) h []).bind λys h=>if Nat.ble ys.length big then .ok (.ref h.n) (h.new (.lst ys))else .no
 |.xX k a t ow ix c k2 a2 t2 c2 e,ρ,h=>(ev cl a ρ h).bind λx h=>(kT (aY k x) (bH t) (ev cl c) (λρ h acc=>(ev cl a2 ρ h).bind λy h=>jx (aY k2 y) (bH t2) (ev cl c2) (ev cl e) fuel 0 ρ h acc) fuel 0 (inner ow ix ρ) h []).bind λys h=>if Nat.ble ys.length big then .ok (.ref h.n) (h.new (.lst ys))else .no
 |.dc k a t ow ix c e v,ρ,h=>(ev cl a ρ h).bind λx h=>(jK (aY k x) (bH t) (ev cl c) (ev cl e) (ev cl v) fuel 0 (inner ow ix ρ) h []).bind λkvs h=>.ok (.ref h.n) (h.new (.dm kvs))
noncomputable def exs(cl:Call):S->En->VH->Res Fl
 |.skip,ρ,h=>.ok (.nx ρ) h
 |.seq a b,ρ,h=>(exs cl a ρ h).bind λfl h=>match fl with
  |.nx ρ=>exs cl b ρ h
  |fl=>.ok fl h
 |.set i e,ρ,h=>(ev cl e ρ h).bind λw h=>.ok (.nx (ρ.set i (aB w))) h
 |.vF is e,ρ,h=>(ev cl e ρ h).bind λw h=>.of ((bH (.many is) w h ρ).map .nx) h
 |.aug i o e,ρ,h=>match(ρ[i]?).join with
  |some x=>(ev cl e ρ h).bind λy h=>(vG o x y h).bind λz h=>.ok (.nx (ρ.set i (aB z))) h
  |none=>.no
 |.put o i v,ρ,h=>(ev cl v ρ h).bind λw h=>(ev cl o ρ h).bind λx h=>(ev cl i ρ h).bind λy h=>match x,y with
  |.ref a,.int j=>(match h.get a with
   |some (.lst ws)=>(match L2.iU ws.length j with
    |some k=>.ok (.nx ρ) (h.set a (.lst (ws.set k w)))
    |none=>.no)
   |_=>oq ρ a j w h)
  |_,_=>.no
 |.ite c a b,ρ,h=>(ev cl c ρ h).bind λx h=>match x with
  |.bl true=>exs cl a ρ h
  |.bl false=>exs cl b ρ h
  |_=>.no
 |.ret e,ρ,h=>(ev cl e ρ h).bind λw h=>.ok (.rt w) h
 |.expr e,ρ,h=>(ev cl e ρ h).bind λ_ h=>.ok (.nx ρ) h
 |.brk,ρ,h=>.ok (.bk ρ) h
 |.cnt,ρ,h=>.ok (.ct ρ) h
 |.for k a t b,ρ,h=>(ev cl a ρ h).bind λx h=>eF (aY k x) (bH t) (exs cl b) fuel 0 ρ h
 |.xY c b,ρ,h=>dD (ev cl c) (exs cl b) fuel ρ h
 |.no,_,_=>.no
structure Fn where
 ps:Nat
 n:Nat
 body:S
noncomputable def leave(h:VH)(w:W)(h':VH):Res W:=
 if Nat.ble h.n h'.lo&&W.lt h.n w then .ok w h else .ok w ⟨h'.n,if Nat.ble h.lo h'.lo then h.lo else h'.lo,h'.os⟩
noncomputable def run(F:Nat->Option Fn):Nat->Call
 |0,_,_,_=>.no
 |k+1,f,ws,h=>match F f with
  |some fn=>if Nat.beq ws.length fn.ps then
   (exs (run F k) fn.body (ws.map aB++bK (fn.n-fn.ps) aC) ⟨h.n,h.n,h.os⟩).bind λfl h'=>match fl with|.nx _=>leave h .aR h'|.rt w=>leave h w h'|_=>.no
   else .no
  |none=>.no
open L2 PyProof.Rows PySem.Spec
noncomputable def Fz(K:aK)(H:Hp)(a:ah)(xs:List V):Prop:=
 (∃o,H a=aB (.bC o (.lst xs)))\/∃(o:Obj) (its:Array aa) (n:Nat),K.lookup a=aB o/\o.cls=.type "list"/\o.dict=aC/\o.data=.seq its n/\its.size<=sizeLine/\Vals xs its.toList
theorem Fz.sq{K:aK}{H:Hp}{a:ah}{xs:List V}(h:Fz K H a xs):dh K H a xs:=h.elim (λ⟨o,q⟩=>.inl (.inr ⟨o,q⟩)) .inr
mutual
inductive aL(K:aK)(m:Nat->ah)(n:Nat)(H:Hp):V->W->Prop
 |aR:aL K m n H .aR .aR
 |bl (b:Bool):aL K m n H (.bl b) (.bl b)
 |int (i:Int):aL K m n H (.int i) (.int i)
 |str (x:Str):aL K m n H (.str x) (.str x)
 |tup {a:ah} {vs:List V} {ws:List W}:cN K H a vs->aF K m n H vs ws->aL K m n H (.ref a) (.tup ws)
 |fz {a:ah} {vs:List V} {ws:List W}:Fz K H a vs->aF K m n H vs ws->aL K m n H (.ref a) (.fz ws)
 |ref {i:Nat}:i<n->aL K m n H (.ref (m i)) (.ref i)
inductive aF(K:aK)(m:Nat->ah)(n:Nat)(H:Hp):List V->List W->Prop
 |nil:aF K m n H [] []
 |cons {v:V} {w:W} {vs:List V} {ws:List W}:aL K m n H v w->aF K m n H vs ws->aF K m n H (v::vs) (w::ws)
end
inductive aN(K:aK)(m:Nat->ah)(n:Nat)(H:Hp):List (Key×V)->List (Key×W)->Prop
 |nil:aN K m n H [] []
 |cons {k:Key} {v:V} {w:W} {vs:List (Key×V)} {ws:List (Key×W)}:aL K m n H v w->aN K m n H vs ws->aN K m n H ((k,v)::vs) ((k,w)::ws)
noncomputable def fM(K:aK)(m:Nat->ah)(n:Nat)(H:Hp)(a:ah):VO->Prop|.lst ws=>∃vs,H a=aB (.lst vs)/\aF K m n H vs ws|.dk kvs=>∃kv,Rd H a (.dK kv)/\aN K m n H kv kvs|.dm kvs=>∃kv,H a=aB (.dK kv)/\aN K m n H kv kvs
structure Rel(K:aK)(m:Nat->ah)(h:VH)(H:Hp):Prop where
 obj:∀i,i<h.n->∃o,h.get i=aB o/\fM K m h.n H (m i) o
 inj:∀i j,i<h.n->j<h.n->m i=m j->i=j
 len:h.os.length=h.n
structure bY(m:Nat->ah)(n:Nat)(H:Hp)(m':Nat->ah)(n':Nat)(H':Hp):Prop where
 le:n<=n'
 same:∀i,i<n->m' i=m i
 new:∀i,n<=i->i<n'->H (m' i)=aC
 apart:∀i j,n<=i->i<n'->j<n->m' i≠m' j
 tup:∀b vs,H b=aB (.tup vs)->H' b=aB (.tup vs)
 bC:∀b o u,H b=aB (.bC o u)->H' b=aB (.bC o u)
 keep:∀b o,(∀i,i<n->m i≠b)->H b=aB o->H' b=aB o
section
variable{K:aK}{m m' m1 m2:Nat->ah}{n n' n1 n2:Nat}{h h':VH}{H H' H1 H2:Hp}
theorem bY.refl:bY m n H m n H:=⟨bf _,λ_ _=>rfl,λi a b=>absurd b (jG.mpr a),λi j a b=>absurd b (jG.mpr a),λ_ _ q=>q,λ_ _ _ q=>q,λ_ _ _ q=>q⟩
theorem bY.trans(a:bY m n H m1 n1 H1)(b:bY m1 n1 H1 m2 n2 H2):bY m n H m2 n2 H2 where
 le:=iw a.le b.le
 same:=λi hi=>(b.same i (dF hi a.le)).trans (a.same i hi)
 new:=λi hi hi2=>by
  by_cases hc:i<n1;rw[b.same i hc];exact a.new i hi hc;have hc:=jG.mp hc;cases q:H (m2 i)with
  |none=>rfl
  |some o=>
   have q1:H1 (m2 i)=aC:=b.new i hc hi2;rw[a.keep _ o (λj hj z=>b.apart i j hc hi2 (dF hj a.le) ((b.same j (dF hj a.le)).trans ((a.same j hj).trans z)).symm) q]at q1;cases q1
 apart:=λi j hi hi2 hj=>by
  by_cases hc:i<n1;rw[b.same i hc,b.same j (dF hj a.le)];exact a.apart i j hi hc hj;exact b.apart i j (jG.mp hc) hi2 (dF hj a.le)
 tup:=λc vs q=>b.tup c vs (a.tup c vs q)
 bC:=λc o u q=>b.bC c o u (a.bC c o u q)
 keep:=λc o hc q=>b.keep c o (λi hi=>by
  by_cases hl:i<n;rw[a.same i hl];exact hc i hl;intro z;have:=a.new i (jG.mp hl) hi;rw[z,q]at this;cases this) (a.keep c o hc q)
theorem bY.SK{a:ah}{vs:List V}(s:bY m n H m' n' H')(q:cN K H a vs):cN K H' a vs:=by rcases q with(q|⟨o,q⟩)|q;exact .inl (.inl (s.tup _ _ q));exact .inl (.inr ⟨o,s.bC _ _ _ q⟩);exact .inr q
theorem bY.fz{a:ah}{vs:List V}(s:bY m n H m' n' H')(q:Fz K H a vs):Fz K H' a vs:=by rcases q with⟨o,q⟩|q;exact .inl ⟨o,s.bC _ _ _ q⟩;exact .inr q
mutual
theorem aL.stp(s:bY m n H m' n' H'):∀{v:V} {w:W},aL K m n H v w->aL K m' n' H' v w|_,_,.aR=>.aR|_,_,.bl b=>.bl b|_,_,.int b=>.int b|_,_,.str b=>.str b|_,_,.tup q r=>.tup (s.SK q) (aF.stp s r)|_,_,.fz q r=>.fz (s.fz q) (aF.stp s r)|_,_,.ref (i:=i) q=>by rw[<-s.same i q];exact .ref (dF q s.le)
theorem aF.stp(s:bY m n H m' n' H'):∀{vs:List V} {ws:List W},aF K m n H vs ws->aF K m' n' H' vs ws|_,_,.nil=>.nil|_,_,.cons q r=>.cons (aL.stp s q) (aF.stp s r)
end
theorem aN.stp(s:bY m n H m' n' H'):∀{vs:List (Key×V)} {ws:List (Key×W)},aN K m n H vs ws->aN K m' n' H' vs ws|_,_,.nil=>.nil|_,_,.cons q r=>.cons (q.stp s) (aN.stp s r)
theorem aF.length:∀{vs:List V} {ws:List W},aF K m n H vs ws->vs.length=ws.length|_,_,.nil=>rfl|_,_,.cons _ r=>by rw[dg,dg,aF.length r]
theorem aF.get:∀{vs:List V} {ws:List W} {i:Nat} {w:W},aF K m n H vs ws->ws[i]?=aB w->∃v,vs[i]?=aB v/\aL K m n H v w
 |_,_,_,_,.nil,e=>by simp at e
 |_,_,0,_,.cons q _,e=>by simp at e;subst e;exact⟨_,rfl,q⟩
 |_,_,i+1,w,.cons _ r,e=>by
  obtain⟨v,h1,h2⟩:=aF.get (i:=i) (w:=w) r (by simpa using e);exact⟨v,by simpa using h1,h2⟩
theorem aF.append:∀{vs us:List V} {ws zs:List W},aF K m n H vs ws->aF K m n H us zs->aF K m n H (vs++us) (ws++zs)|_,_,_,_,.nil,r=>r|_,_,_,_,.cons q r,t=>.cons q (aF.append r t)
theorem aF.drop:∀(k:Nat) {vs:List V} {ws:List W},aF K m n H vs ws->aF K m n H (vs.drop k) (ws.drop k)|0,_,_,r=>r|_+1,_,_,.nil=>.nil|k+1,_,_,.cons _ r=>aF.drop k r
theorem aF.take:∀(k:Nat) {vs:List V} {ws:List W},aF K m n H vs ws->aF K m n H (vs.take k) (ws.take k)|0,_,_,r=>.nil|_+1,_,_,.nil=>.nil|k+1,_,_,.cons q r=>.cons q (aF.take k r)
theorem aF.set{v:V}{w:W}(q:aL K m n H v w):∀(k:Nat) {vs:List V} {ws:List W},aF K m n H vs ws->aF K m n H (vs.set k v) (ws.set k w)|_,_,_,.nil=>.nil|0,_,_,.cons _ r=>.cons q r|k+1,_,_,.cons p r=>.cons p (aF.set q k r)
theorem fM.stp{a:ah}{o:VO}(s:bY m n H m' n' H')(e:H' a=H a)(q:fM K m n H a o):fM K m' n' H' a o:=by
 cases o with|lst ws=>obtain⟨vs,h1,h2⟩:=q;exact⟨vs,e.trans h1,h2.stp s⟩|dk ws=>obtain⟨vs,h1,h2⟩:=q;exact⟨vs,h1.imp (λz=>e.trans z) λ⟨o,z⟩=>⟨o,e.trans z⟩,h2.stp s⟩|dm ws=>obtain⟨vs,h1,h2⟩:=q;exact⟨vs,e.trans h1,h2.stp s⟩
theorem fM.some{a:ah}{o:VO}(q:fM K m n H a o):∃u,H a=aB u:=by
 cases o with
 |lst ws=>obtain⟨vs,h1,h2⟩:=q;exact⟨_,h1⟩
 |dk ws=>
  obtain⟨vs,h1,h2⟩:=q;rcases h1 with h1|⟨o,h1⟩<;>exact⟨_,h1⟩
 |dm ws=>obtain⟨vs,h1,h2⟩:=q;exact⟨_,h1⟩
theorem gX{i j:Nat}:Nat.blt i j=true↔i<j:=by unfold Nat.blt;rw[qw];exact Iff.rfl
theorem cA{i:Nat}{o:VO}(q:h.get i=aB o):i<h.n:=by unfold VH.get at q;split at q;rename_i z;exact gX.mp z;cases q
theorem Rel.at_(r:Rel K m h H){i:Nat}{o:VO}(q:h.get i=aB o):fM K m h.n H (m i) o:=by obtain⟨o',h1,h2⟩:=r.obj i (cA q);rw[q]at h1;cases h1;exact h2
theorem Rel.lst(r:Rel K m h H){i:Nat}{ws:List W}(q:h.get i=aB (.lst ws)):∃vs,H (m i)=aB (.lst vs)/\aF K m h.n H vs ws:=r.at_ q
theorem Rel.dk(r:Rel K m h H){i:Nat}{ws:List (Key×W)}(q:h.get i=aB (.dk ws)):∃vs,Rd H (m i) (.dK vs)/\aN K m h.n H vs ws:=r.at_ q
theorem Rel.dm(r:Rel K m h H){i:Nat}{ws:List (Key×W)}(q:h.get i=aB (.dm ws)):∃vs,H (m i)=aB (.dK vs)/\aN K m h.n H vs ws:=r.at_ q
theorem iz{i:Nat}{o:VO}(hi:i<h.n):(h.new o).get i=h.get i:=by
 unfold VH.get VH.new;have h1:Nat.blt i (h.n+1)=true:=gX.mpr (xB hi);have h2:Nat.blt i h.n=true:=gX.mpr hi;simp only[h1,h2,cC];have:h.n+1-1-i=(h.n-1-i)+1:=by lia
 rw[this];rfl
theorem dW{o:VO}:(h.new o).get h.n=aB o:=by
 unfold VH.get VH.new;have h1:Nat.blt h.n (h.n+1)=true:=gX.mpr (fU _);simp only[h1,cC];have:h.n+1-1-h.n=0:=by lia
 rw[this];rfl
theorem Rel.alloc(r:Rel K m h H){p:ah}{o:VO}{u:HO}(hp:H p=aC)(hu:∀t,u≠.tup t)
 (ho:bY m h.n H (λi=>if i=h.n then p else m i) (h.n+1) (upd H p u)->fM K (λi=>if i=h.n then p else m i) (h.n+1) (upd H p u) p o) :
 bY m h.n H (λi=>if i=h.n then p else m i) (h.n+1) (upd H p u)/\Rel K (λi=>if i=h.n then p else m i) (h.new o) (upd H p u):=by
 have tr:∀i,i<h.n->m i≠p:=λi hi z=>by
  obtain⟨o',_,h2⟩:=r.obj i hi;obtain⟨u',h3⟩:=h2.some;rw[z,hp]at h3;cases h3
 have st:bY m h.n H (λi=>if i=h.n then p else m i) (h.n+1) (upd H p u):=by
  refine⟨qt _,λi hi=>by simp only[if_neg (gE hi)],λi hi hi2=>?_,λi j hi hi2 hj=>?_,λb vs q=>?_,λb o u q=>?_,λb o _ q=>?_⟩;have:i=h.n:=by lia
  subst this;simp only[cC];exact hp;have:i=h.n:=by lia
  subst this;simp only[cC,if_neg (gE hj)];exact(tr j hj).symm;rw[bZ (iy q hp)];exact q;rw[bZ (iy q hp)];exact q;rw[bZ (iy q hp)];exact q
 refine⟨st,⟨λi hi=>?_,λi j hi hj z=>?_,?_⟩⟩;have hi:i<h.n+1:=hi;by_cases e:i=h.n;subst e;exact⟨o,dW,by simp only[cC];exact ho st⟩;have hl:i<h.n:=by lia
 obtain⟨o',h1,h2⟩:=r.obj i hl;refine⟨o',(iz hl).trans h1,?_⟩;simp only[if_neg e];exact fM.stp st (bZ (tr i hl)) h2;have hi:i<h.n+1:=hi;have hj:j<h.n+1:=hj;by_cases e:i=h.n;by_cases e2:j=h.n;lia;simp only[if_pos e,if_neg e2]at z;exact absurd z.symm (tr j (by lia));by_cases e2:j=h.n;simp only[if_neg e,if_pos e2]at z;exact absurd z (tr i (by lia));simp only[if_neg e,if_neg e2]at z;exact r.inj i j (by lia) (by lia) z;show(o::h.os).length=h.n+1;rw[dg,r.len]
theorem SM(r:Rel K m h H){i:Nat}{o:VO}(hi:i<h.n):(h.set i o).get i=aB o:=by unfold VH.get VH.set;have h1:Nat.blt i h.n=true:=gX.mpr hi;simp only[h1,cC];rw[uP];rw[r.len];lia
theorem pR{i j:Nat}{o:VO}(hi:i<h.n)(hj:j≠i):(h.set i o).get j=h.get j:=by
 unfold VH.get VH.set;by_cases h1:j<h.n;have h2:Nat.blt j h.n=true:=gX.mpr h1;simp only[h2,cC];rw[xu];lia;have h2:Nat.blt j h.n=false:=by
  cases q:Nat.blt j h.n with|false=>rfl|true=>exact absurd (gX.mp q) h1
 simp only[h2,fG,ez]
theorem Rel.write(r:Rel K m h H){i:Nat}{o:VO}{u u0:HO}(hi:i<h.n)(h0:H (m i)=aB u0)(hn:∀t,u0≠.tup t)(hf:∀o t,u0≠.bC o t)
 (ho:bY m h.n H m h.n (upd H (m i) u)->fM K m h.n (upd H (m i) u) (m i) o) :
 bY m h.n H m h.n (upd H (m i) u)/\Rel K m (h.set i o) (upd H (m i) u):=by
 have st:bY m h.n H m h.n (upd H (m i) u):=by refine⟨bf _,λ_ _=>rfl,λj a b=>absurd b (jG.mpr a),λj k a b=>absurd b (jG.mpr a),λb vs q=>?_,λb o t q=>?_,λb o nb q=>?_⟩;rw[bZ (cD q h0 (λz=>hn vs z.symm))];exact q;rw[bZ (cD q h0 (λz=>hf o t z.symm))];exact q;rw[bZ (nb i hi).symm];exact q
 refine⟨st,⟨λj hj=>?_,λa b ha hb=>r.inj a b ha hb,?_⟩⟩;have hj:j<h.n:=hj;by_cases e:j=i;subst e;exact⟨o,SM r hj,ho st⟩;obtain⟨o',h1,h2⟩:=r.obj j hj;exact⟨o',(pR hi e).trans h1,fM.stp st (bZ λz=>e (r.inj j i hj hi z)) h2⟩;show(h.os.set _ o).length=h.n;rw[uT,r.len]
theorem Rel.more(r:Rel K m h H){p:ah}{u:HO}(hp:H p=aC):bY m h.n H m h.n (upd H p u)/\Rel K m h (upd H p u):=by
 have st:bY m h.n H m h.n (upd H p u):=by refine⟨bf _,λ_ _=>rfl,λj a b=>absurd b (jG.mpr a),λj k a b=>absurd b (jG.mpr a),λb vs q=>?_,λb o t q=>?_,λb o nb q=>?_⟩;rw[bZ (iy q hp)];exact q;rw[bZ (iy q hp)];exact q;rw[bZ (iy q hp)];exact q
 refine⟨st,⟨λj hj=>?_,r.inj,r.len⟩⟩;obtain⟨o',h1,h2⟩:=r.obj j hj;obtain⟨u',h3⟩:=h2.some;exact⟨o',h1,fM.stp st (bZ (iy h3 hp)) h2⟩
end
theorem L0{α β:Type}{r:Res α}{f:α->VH->Res β}{b:β}{h':VH}(q:r.bind f=.ok b h'):∃a h1,r=.ok a h1/\f a h1=.ok b h':=by
 cases r with|ok a h=>exact⟨a,h,rfl,q⟩|ex x h=>cases q|no=>cases q
theorem bI{α β:Type}{r:Res α}{f:α->VH->Res β}{w:β}{h':VH}{P:Prop}(e:r.bind f=.ok w h')(k:∀x h1,r=.ok x h1->f x h1=.ok w h'->P):P:=by obtain⟨x,h1,a,b⟩:=L0 e;exact k x h1 a b
theorem of_ok{α:Type}{o:Option α}{h h':VH}{a:α}(q:Res.of o h=.ok a h'):o=aB a/\h'=h:=by
 cases o with|none=>cases q|some b=>cases q;exact⟨rfl,rfl⟩
structure Fr(K:aK)(m:Nat->ah)(n:Nat)(H:Hp)(σ:L2.St)(ρ:En):Prop where
 len:σ.length=ρ.length
 val:∀(i:Nat)(w:W),ρ[i]?=aB (aB w)->∃v,σ[i]?=aB (aB v)/\aL K m n H v w
noncomputable abbrev FE:=En->VH->Res W
noncomputable abbrev FS:=En->VH->Res Fl
noncomputable def eG(K:aK)(f:FE):TE:=λσ H Q=>∃ρ h m w h',Fr K m h.n H σ ρ/\Rel K m h H/\f ρ h=.ok w h'/\
 ∀v H' m',bY m h.n H m' h'.n H'->Rel K m' h' H'->aL K m' h'.n H' v w->Q v H'
noncomputable def cZ(K:aK)(f:FE):TT:=λσ H Q=>∃ρ h m b h',Fr K m h.n H σ ρ/\Rel K m h H/\f ρ h=.ok (.bl b) h'/\
 ∀H' m',bY m h.n H m' h'.n H'->Rel K m' h' H'->Q b H'
noncomputable def nc(K:aK)(f:FE):TA:=λσ H Q=>∃ρ h m ws h',Fr K m h.n H σ ρ/\Rel K m h H/\f ρ h=.ok (.tup ws) h'/\
 ∀vs H' m',bY m h.n H m' h'.n H'->Rel K m' h' H'->aF K m' h'.n H' vs ws->Q vs H'
section
variable{K:aK}{m:Nat->ah}{σ:L2.St}{H:Hp}{P:Prop}{fa:FE}{ρ:En}{h h':VH}
theorem eG.el{Q:VK}(q:eG K fa σ H Q)(k:∀ρ h m w h',Fr K m h.n H σ ρ->Rel K m h H->fa ρ h=.ok w h'->(∀v H' m',bY m h.n H m' h'.n H'->Rel K m' h' H'->aL K m' h'.n H' v w->Q v H')->P):P:=by obtain⟨ρ,h,m,w,h',f,r,e,k'⟩:=q;exact k ρ h m w h' f r e k'
theorem eG.mk{Q:VK}{w:W}(f:Fr K m h.n H σ ρ)(r:Rel K m h H)(e:fa ρ h=.ok w h')(k:∀v H' m',bY m h.n H m' h'.n H'->Rel K m' h' H'->aL K m' h'.n H' v w->Q v H'):eG K fa σ H Q:=⟨ρ,h,m,w,h',f,r,e,k⟩
theorem cZ.el{Q:Bool->Hp->Prop}(q:cZ K fa σ H Q)(k:∀ρ h m b h',Fr K m h.n H σ ρ->Rel K m h H->fa ρ h=.ok (.bl b) h'->(∀H' m',bY m h.n H m' h'.n H'->Rel K m' h' H'->Q b H')->P):P:=by obtain⟨ρ,h,m,w,h',f,r,e,k'⟩:=q;exact k ρ h m w h' f r e k'
theorem cZ.mk{Q:Bool->Hp->Prop}{b:Bool}(f:Fr K m h.n H σ ρ)(r:Rel K m h H)(e:fa ρ h=.ok (.bl b) h')(k:∀H' m',bY m h.n H m' h'.n H'->Rel K m' h' H'->Q b H'):cZ K fa σ H Q:=⟨ρ,h,m,b,h',f,r,e,k⟩
theorem nc.el{Q:List V->Hp->Prop}(q:nc K fa σ H Q)(k:∀ρ h m ws h',Fr K m h.n H σ ρ->Rel K m h H->fa ρ h=.ok (.tup ws) h'->(∀vs H' m',bY m h.n H m' h'.n H'->Rel K m' h' H'->aF K m' h'.n H' vs ws->Q vs H')->P):P:=by obtain⟨ρ,h,m,w,h',f,r,e,k'⟩:=q;exact k ρ h m w h' f r e k'
theorem nc.mk{Q:List V->Hp->Prop}{ws:List W}(f:Fr K m h.n H σ ρ)(r:Rel K m h H)(e:fa ρ h=.ok (.tup ws) h')(k:∀vs H' m',bY m h.n H m' h'.n H'->Rel K m' h' H'->aF K m' h'.n H' vs ws->Q vs H'):nc K fa σ H Q:=⟨ρ,h,m,ws,h',f,r,e,k⟩
end
noncomputable abbrev SE(X:Cx)(e:ao)(f:FE):Prop:=PE X e (eG X.K f)
noncomputable abbrev ST(X:Cx)(e:ao)(f:FE):Prop:=PT X e (cZ X.K f)
noncomputable abbrev SW(X:Cx)(e:ao)(f:FE):Prop:=PW X e (cZ X.K f)
noncomputable abbrev SA(X:Cx)(es:List ao)(f:FE):Prop:=PA X es (nc X.K f)
theorem _root_.L2.PE.imp{X:Cx}{e:ao}{t t':TE}(h:PE X e t)(k:∀σ H Q,t' σ H Q->t σ H Q):PE X e t':=λpins s σ H Q I q=>h pins s σ H Q I (k σ H Q q)
theorem _root_.L2.PT.imp{X:Cx}{e:ao}{t t':TT}(h:PT X e t)(k:∀σ H Q,t' σ H Q->t σ H Q):PT X e t':=λpins s σ H Q I q=>h pins s σ H Q I (k σ H Q q)
theorem _root_.L2.PW.imp{X:Cx}{e:ao}{t t':TT}(h:PW X e t)(k:∀σ H Q,t' σ H Q->t σ H Q):PW X e t':=λwh pins s σ H Q I q=>h wh pins s σ H Q I (k σ H Q q)
theorem _root_.L2.PA.imp{X:Cx}{es:List ao}{t t':TA}(h:PA X es t)(k:∀σ H Q,t' σ H Q->t σ H Q):PA X es t':=λp pins s σ H Q I q=>h p pins s σ H Q I (k σ H Q q)
theorem _root_.L2.PS.imp{X:Cx}{st:aq}{t t':TS}(h:PS X st t)(k:∀D σ H,t' D σ H->t D σ H):PS X st t':=λpins s σ H D I q=>h pins s σ H D I (k D σ H q)
theorem _root_.L2.kN.imp{X:Cx}{st:List aq}{t t':TS}(h:kN X st t)(k:∀D σ H,t' D σ H->t D σ H):kN X st t':=λpins s σ H D I q=>h pins s σ H D I (k D σ H q)
section
variable{K:aK}{m m':Nat->ah}{n n':Nat}{h h':VH}{H H':Hp}{σ:L2.St}{ρ:En}
theorem Fr.stp(f:Fr K m n H σ ρ)(s:bY m n H m' n' H'):Fr K m' n' H' σ ρ:=⟨f.len,λi w e=>let⟨v,h1,h2⟩:=f.val i w e;⟨v,h1,h2.stp s⟩⟩
theorem Fr.set(f:Fr K m n H σ ρ){v:V}{w:W}(q:aL K m n H v w)(i:Nat):Fr K m n H (σ.set i (aB v)) (ρ.set i (aB w)):=by refine⟨by rw[uT,uT];exact f.len,λj w' e=>?_⟩;by_cases hj:i=j;subst hj;by_cases hl:i<ρ.length;rw[uP hl]at e;cases e;exact⟨v,by rw[uP (by rw[f.len];exact hl)],q⟩;rw[iS (by rw[uT];lia)]at e;cases e;rw[xu hj]at e;obtain⟨v',h1,h2⟩:=f.val j w' e;exact⟨v',by rw[xu hj];exact h1,h2⟩
noncomputable def aO(K:aK)(m:Nat->ah)(n:Nat)(H:Hp)(w:W)(h':VH)(Q:VK):Prop:=∀v H' m',bY m n H m' h'.n H'->Rel K m' h' H'->aL K m' h'.n H' v w->Q v H'
theorem aO.here{w:W}{Q:VK}(k:aO K m h.n H w h Q)(r:Rel K m h H){v:V}(q:aL K m h.n H v w):Q v H:=k v H m .refl r q
theorem aO.list{ws:List W}{vs:List V}{Q:VK}(k:aO K m h.n H (.ref h.n) (h.new (.lst ws)) Q)(r:Rel K m h H)(q:aF K m h.n H vs ws){p:ah}(hp:H p=aC):Q (.ref p) (upd H p (.lst vs)):=by obtain⟨st,r'⟩:=r.alloc (o:=.lst ws) (u:=.lst vs) hp (λ_ z=>nomatch z) (λst=>⟨vs,fJ,q.stp st⟩);refine k _ _ _ st r' ?_;have:aL K (λi=>if i=h.n then p else m i) (h.n+1) (upd H p (.lst vs)) (.ref ((λi=>if i=h.n then p else m i) h.n)) (.ref h.n):=.ref (fU _);simp only[cC]at this;exact this
theorem aO.tuple{ws:List W}{vs:List V}{Q:VK}(k:aO K m h.n H (.tup ws) h Q)(r:Rel K m h H)(q:aF K m h.n H vs ws){p:ah}(hp:H p=aC):Q (.ref p) (upd H p (.tup vs)):=by obtain⟨st,r'⟩:=r.more (u:=.tup vs) hp;exact k _ _ _ st r' (.tup (cN.of fJ) (q.stp st))
theorem L1{fa:FE}{g:W->VH->Res W}{G:V->Hp->VK->Prop}
 (hG:∀(m:Nat->ah)(h:VH)(H:Hp)(v:V)(x w:W)(h':VH)(Q:VK),Rel K m h H->aL K m h.n H v x->g x h=.ok w h'->aO K m h.n H w h' Q->G v H Q) {Q:VK}
 (q:eG K (λρ h=>(fa ρ h).bind λx h=>g x h) σ H Q):eG K fa σ H λv H1=>G v H1 Q:=by
 refine q.el λρ h m w h' f r e k=>?_;refine bI e λx h1 e1 e2=>?_;exact(.mk f r e1 λv H1 m1 s1 r1 q1=>hG m1 h1 H1 v x w h' Q r1 q1 e2 λv' H' m' s' r' q'=>k v' H' m' (s1.trans s') r' q')
theorem DP{fa fb:FE}{g:W->W->VH->Res W}{G:V->V->Hp->VK->Prop}
 (hG:∀(m:Nat->ah)(h:VH)(H:Hp)(v u:V)(x y w:W)(h':VH)(Q:VK),Rel K m h H->aL K m h.n H v x->aL K m h.n H u y->g x y h=.ok w h'->aO K m h.n H w h' Q->G v u H Q) {Q:VK}
 (q:eG K (λρ h=>(fa ρ h).bind λx h=>(fb ρ h).bind λy h=>g x y h) σ H Q):eG K fa σ H λv H1=>eG K fb σ H1 λu H2=>G v u H2 Q:=by
 refine q.el λρ h m w h' f r e k=>?_;refine bI e λx h1 e1 e2=>?_;refine bI e2 λy h2 e3 e4=>?_;refine(.mk f r e1 λv H1 m1 s1 r1 q1=>(.mk (f.stp s1) r1 e3 λu H2 m2 s2 r2 q2=>?_));exact hG m2 h2 H2 v u x y w h' Q r2 (q1.stp s2) q2 e4 λv' H' m' s' r' q'=>k v' H' m' ((s1.trans s2).trans s') r' q'
theorem ya{fa:FE}{g:List W->VH->Res W}{G:List V->Hp->VK->Prop}
 (hG:∀(m:Nat->ah)(h:VH)(H:Hp)(vs:List V)(xs:List W)(w:W)(h':VH)(Q:VK),Rel K m h H->aF K m h.n H vs xs->g xs h=.ok w h'->aO K m h.n H w h' Q->G vs H Q) {Q:VK}
 (q:eG K (λρ h=>(fa ρ h).bind λy h=>match y with|.tup ys=>g ys h|_=>.no) σ H Q):nc K fa σ H λvs H1=>G vs H1 Q:=by
 refine q.el λρ h m w h' f r e k=>?_;refine bI e λx h1 e1 e2=>?_;cases x with|tup ys=>exact(.mk f r e1 λvs H1 m1 s1 r1 q1=>hG m1 h1 H1 vs ys w h' Q r1 q1 e2 λv' H' m' s' r' q'=>k v' H' m' (s1.trans s') r' q')|_=>cases e2
theorem L4{f:FE}{Q:Bool->Hp->Prop}(q:cZ K f σ H Q):eG K f σ H λx H'=>∃k,x=.bl k/\Q k H':=by refine q.el λρ h m b h' f r e k=>?_;exact(.mk f r e λv H' m' s' r' q'=>by cases q';exact⟨b,rfl,k H' m' s' r'⟩)
end
section
variable{X:Cx}{a b c e:ao}{es:List ao}{fa fb fc:FE}{pos:Pos}
theorem SN{i:Nat}{x:Str}{pos:Pos}(hN:X.N[i]?=aB x)(hv:xM X.env.scope x)(hd:(x==("__debug__" : Str))=false)(hcd:(x==("__classdict__" : Str))=false):SE X (.Name x pos) (λρ h=>.of (ρ[i]?).join h):=
 (Pe hN hv hd hcd).imp λσ H Q z9=>z9.el λρ h m w h' f r e k=>by
   obtain⟨e1,e2⟩:=of_ok e;subst e2;have e3:ρ[i]?=aB (aB w):=by
    cases q:ρ[i]? with|none=>rw[q]at e1;cases e1|some o=>rw[q]at e1;rw[<-e1];rfl
   obtain⟨v,h1,h2⟩:=f.val i w e3;exact⟨v,h1,k v H m .refl r h2⟩
theorem AJ{w:W}{v:V}(h:PE X e (tC v))(hv:∀m n H,aL X.K m n H v w):SE X e (λ_ h=>.ok w h):=
 h.imp λσ H Q z9=>z9.el λρ h m w h' f r e k=>by cases e;exact k v H m .refl r (hv m h.n H)
theorem SO{i j pos}:SE X (.Constant (.int i) j pos) (λ_ h=>.ok (.int i) h):=AJ Pf λ_ _ _=>.int i
theorem AK{i j pos}:SE X (.Constant (.bool i) j pos) (λ_ h=>.ok (.bl i) h):=AJ zm λ_ _ _=>.bl i
theorem SQ{j pos}:SE X (.Constant .none j pos) (λ_ h=>.ok .aR h):=AJ Pg λ_ _ _=>.aR
theorem SR{i j pos}:SE X (.Constant (.str i) j pos) (λ_ h=>.ok (.str i) h):=AJ Ph λ_ _ _=>.str i
theorem DQ:SA X [] (λ_ h=>.ok (.tup []) h):=zR.imp λσ H Q z9=>z9.el λρ h m ws h' f r e k=>by cases e;exact k [] H m .refl r .nil
theorem yb(ha:SE X e fa)(hr:SA X es fb)(hs:starEach (e::es) X.env=(false,eval e X.env)::starEach es X.env) :
 SA X (e::es) (λρ h=>(fa ρ h).bind λx h=>(fb ρ h).bind λy h=>match y with|.tup ys=>.ok (.tup (x::ys)) h|_=>.no):=
 (xS ha hr hs).imp λσ H Q z9=>z9.el λρ h m ws h' f r e k=>by
   refine bI e λx h1 e1 e2=>?_;refine bI e2 λy h2 e3 e4=>?_;cases y with
   |tup ys=>
    cases e4;exact(.mk f r e1 λv H1 m1 s1 r1 q1=>(.mk (f.stp s1) r1 e3 λvs H2 m2 s2 r2 q2=>k _ H2 m2 (s1.trans s2) r2 (.cons (q1.stp s2) q2)))
   |_=>cases e4
theorem L5{k:Nat}(h:Nat.ble k 1000):k<=sizeLine:=sV (Lm (kY h))
theorem SV{x1:Nat}(ha:SA X es fa):SE X (.Tuple es x1 pos) (λρ h=>(fa ρ h).bind λy h=>match y with|.tup ys=>(if Nat.ble ys.length 1000 then .ok (.tup ys) h else .no)|_=>.no):=
 (QI ha).imp λσ H Q q=>ya (g:=λys h=>if Nat.ble ys.length 1000 then .ok (.tup ys) h else .no) (G:=λxs H1 Q=>xs.length<=sizeLine/\∀p,H1 p=aC->Q (.ref p) (upd H1 p (.tup xs)))
   (λm h H vs xs w h' Q r q e k=>by
     split at e;rename_i hl;cases e;exact⟨by rw[q.length];exact L5 hl,λp hp=>aO.tuple k r q hp⟩;cases e) q
theorem SX(ha:SA X es fa):SE X (.List es pos) (λρ h=>(fa ρ h).bind λy h=>match y with|.tup ys=>(if Nat.ble ys.length 1000 then .ok (.ref h.n) (h.new (.lst ys))else .no)|_=>.no):=
 (QJ ha).imp λσ H Q q=>ya (g:=λys h=>if Nat.ble ys.length 1000 then .ok (.ref h.n) (h.new (.lst ys))else .no) (G:=λxs H1 Q=>xs.length<=sizeLine/\∀p,H1 p=aC->Q (.ref p) (upd H1 p (.lst xs)))
   (λm h H vs xs w h' Q r q e k=>by
     split at e;rename_i hl;cases e;exact⟨by rw[q.length];exact L5 hl,λp hp=>aO.list k r q hp⟩;cases e) q
noncomputable def AL(K:aK)(r:R2)(g:W->W->VH->Res W):Prop:=∀(m:Nat->ah) (h:VH) (H:Hp) (v u:V) (x y w:W) (h':VH) (Q:VK),Rel K m h H->aL K m h.n H v x->aL K m h.n H u y->g x y h=.ok w h'->aO K m h.n H w h' Q->r v u H Q
theorem AM{O:Operator}{r:R2}{g:W->W->VH->Res W}(ho:dH X (binaryOp O) r)(hg:AL X.K r g)(ha:SE X a fa)(hb:SE X b fb):SE X (.BinOp a O b pos) (λρ h=>(fa ρ h).bind λx h=>(fb ρ h).bind λy h=>g x y h):=
 (zH ho ha hb).imp λσ H Q q=>DP (G:=r) hg q
noncomputable def AN:Operator->Option Op|.Add=>aB .add|.Sub=>aB .sub|.Mult=>aB .mul|.FloorDiv=>aB .fdiv|.Mod=>aB .mod|.Pow=>aB .pow|_=>aC
noncomputable def cI:Op->Int->Int->Prop|.mul=>mO|.fdiv=>qK|.mod=>λ_ j=>0<j|.shl=>vg|.pow=>vg|_=>λ_ _=>True
noncomputable def gI:Op->Int->Int->Int|.add=>(· + ·)|.sub=>(· - ·)|.mul=>(· * ·)|.fdiv=>(· / ·)|.mod=>(· % ·)|.shl=>λi j=>i*2 ^ j.toNat|.pow=>λi j=>i ^ j.toNat
noncomputable def rX(K:aK):Op->R2|.add=>λx y H Q=>lQ K x y H Q\/LO K x y H Q\/Ab x y H Q|.mul=>λx y H Q=>tM K x y H Q|_=>λ_ _ _ _=>False
noncomputable def rB(K:aK)(o:Op):R2:=λx y H Q=>rI (cI o) (λi j=>.int (gI o i j)) x y H Q\/rX K o x y H Q
theorem yc{f:aa->aa->Sem aa}{r r':R2}(h:dH X f r)(k:∀x y H Q,r' x y H Q->r x y H Q):dH X f r':=λpins s σ H x y v u Q I rx ry q=>h pins s σ H x y v u Q I rx ry (k _ _ _ _ q)
theorem AO{O:Operator}{o:Op}(e:AN O=aB o):dH X (binaryOp O) (rB X.K o):=by
 have tr:∀{g:Int->Int->V}{x y H Q},rI (λ_ _=>True) g x y H Q->mL g x y H Q:=λ⟨i,j,h1,h2,_,h3⟩=>⟨i,j,h1,h2,h3⟩
 cases O<;>cases e;exact yc (Qh.or (Q0.or (R6.or Ri))) λx y H Q q=>q.elim (λz=>.inl (tr z)) .inr;exact yc Qi λx y H Q q=>q.elim (λz=>tr z) λz=>z.elim;exact yc (Qj.or R5) λx y H Q q=>q;exact yc Ql λx y H Q q=>q.elim id λz=>z.elim;exact yc Qm λx y H Q q=>q.elim id λz=>z.elim;exact yc Qk λx y H Q q=>q.elim id λz=>z.elim
theorem L6{i:Int}(h:jX i):-(2 ^ 64)<i/\i<2 ^ 64:=by unfold jX at h;rw[bQ]at h;exact⟨kW h.1,kW h.2⟩
theorem GW{o:Op}{i j z:Int}(e:gH o i j=aB z):cI o i j/\z=gI o i j:=by cases o<;>simp only[gH]at e;cases e;exact⟨trivial,rfl⟩;cases e;exact⟨trivial,rfl⟩;split at e;rename_i hc;cases e;rw[pL]at hc;exact⟨hc.elim (λq=>.inl (L6 q)) (λq=>.inr (L6 q)),rfl⟩;cases e;split at e;rename_i hc;cases e;rw[bQ]at hc;exact⟨⟨kW hc.1,kW hc.2⟩,rfl⟩;cases e;split at e;rename_i hc;cases e;exact⟨(kW hc:0<j),rfl⟩;cases e;split at e;rename_i hc;cases e;rw[bQ,bQ]at hc;exact⟨⟨kW hc.1.1,kW hc.1.2,kW hc.2⟩,rfl⟩;cases e;split at e;rename_i hc;cases e;rw[bQ,bQ]at hc;exact⟨⟨kW hc.1.1,kW hc.1.2,kW hc.2⟩,rfl⟩;cases e
theorem vK{i:Int}(h:fits i):-(2 ^ 62)<=i/\i<2 ^ 62:=by unfold fits at h;rw[bQ]at h;exact⟨kW h.1,kW h.2⟩
theorem SY{o:Op}{xs zs:List W}{k:Int}(e:qZ o xs k=aB zs):o=.mul/\(-(2 ^ 62)<=k/\k<2 ^ 62)/\xs.length*k.toNat<=sizeLine/\zs=(bK k.toNat xs).flatten:=by unfold qZ at e;split at e;split at e;rename_i hc;cases e;rw[bQ]at hc;exact⟨rfl,vK hc.1,kY hc.2,rfl⟩;cases e;cases e
theorem aF.rep{K:aK}{m:Nat->ah}{n:Nat}{H:Hp}{vs:List V}{ws:List W}(q:aF K m n H vs ws):∀k:Nat,aF K m n H (bK k vs).flatten (bK k ws).flatten
 |0=>.nil
 |k+1=>by
  rw[qp,qp,sQ,sQ];exact q.append (aF.rep q k)
theorem S0{K:aK}{m:Nat->ah}{n:Nat}{H:Hp}{vs:List V}{ws:List W}(q:aF K m n H vs ws):vs.isEmpty=ws.isEmpty:=by cases q<;>rfl
theorem S1{ws:List W}{k:Int}(h:(ws.isEmpty||k==1)):(bK k.toNat ws).flatten=ws:=by
 rw[pL]at h;rcases h with h|h
 have:ws=[]:=by simpa using h
 subst this;induction k.toNat with|zero=>rfl|succ j ih=>rw[qp,sQ,ih];rfl
 have:k=1:=by simpa using h
 subst this;show(bK 1 ws).flatten=ws;simp
theorem S2{K:aK}(o:Op):AL K (rB K o) (iV o):=by
 intro m h H v u x y w h' Q r qv qu e k;unfold iV at e;split at e;rename_i i j;obtain⟨e,rfl⟩:=of_ok e;cases qv;cases qu;cases q:gH o i j with
 |none=>rw[q]at e;cases e
 |some z=>
  rw[q]at e;cases e;obtain⟨h1,rfl⟩:=GW q;exact .inl ⟨i,j,rfl,rfl,h1,aO.here k r (.int _)⟩
 .rename_i xs ys
  obtain⟨e,rfl⟩:=of_ok e;cases q:GV o xs ys with
  |none=>rw[q]at e;cases e
  |some zs=>
   rw[q]at e;cases e;cases o<;>simp only[GV]at q;split at q;rename_i hc;cases q;cases qv with
   |tup qa ra=>
    cases qu with
    |tup qb rb=>
     rename_i a va b vb;have hl:=kY hc;cases xs with
     |nil=>
      cases ra;exact .inr (.inr (.inl ⟨a,b,vb,rfl,rfl,qa,qb,aO.here k r (.tup qb rb)⟩))
     |cons x0 xs0=>
      refine .inr (.inl ⟨a,b,va,vb,rfl,rfl,qa,qb,λz=>?_,by rw[ra.length,rb.length];exact hl,λz=>?_,λ_ p hp=>aO.tuple k r (ra.append rb) hp⟩);subst z;cases ra;subst z;cases rb;rw[nG]at k;exact aO.here k r (.tup qa ra)
   cases q
   all_goals cases q
 rename_i xs kk;obtain⟨e,rfl⟩:=of_ok e;cases q:qZ o xs kk with
 |none=>rw[q]at e;cases e
 |some zs=>
  rw[q]at e;cases e;obtain⟨rfl,⟨k1,k2⟩,hz,rfl⟩:=SY q;cases qu;cases qv with
  |tup qa ra=>
   rename_i a va;refine .inr ⟨a,kk,va,rfl,rfl,qa,k1,k2,by rw[ra.length];exact hz,λz=>?_,λz p hp=>aO.tuple k r (ra.rep _) hp⟩;rw[S0 ra]at z;rw[S1 z]at k;exact aO.here k r (.tup qa ra)
 .rename_i i j
  split at e
  .rename_i xs ys hx hy
   split at e
   .rename_i zs q
    cases e;cases o<;>simp only[DO]at q;split at q;rename_i hc;cases q;obtain⟨va,pa,ra⟩:=r.lst hx;obtain⟨vb,pb,rb⟩:=r.lst hy;cases qv;cases qu;exact .inr (.inr (.inr ⟨m i,m j,va,vb,rfl,rfl,pa,pb,by rw[ra.length,rb.length];exact kY hc,λp hp=>aO.list k r (ra.append rb) hp⟩));cases q
    all_goals cases q
   cases e
  cases e
 cases e
end
section
variable{K:aK}{m:Nat->ah}{h:VH}{H:Hp}
theorem AQ{f:W->Option aA}(ih:∀(w:W) (d:aA) (v:V),f w=aB d->aL K m h.n H v w->Rp K (λ_=>False) H v d):∀{ws:List W} {ds:List aA} {vs:List V},bF f ws=aB ds->aF K m h.n H vs ws->mP K (λ_=>False) H vs ds
 |[],ds,_,e,.nil=>by cases e;exact .nil
 |w::ws,ds,_,e,.cons q r=>by
  unfold bF at e;split at e;rename_i d hd;split at e;rename_i bs hb;cases e;exact .cons (ih w d _ hd q) (AQ ih hb r);cases e;cases e
theorem iJ(r:Rel K m h H):∀(n:Nat) (w:W) (d:aA) (v:V),toD h n w=aB d->aL K m h.n H v w->Rp K (λ_=>False) H v d
 |0,_,_,_,e,_=>by cases e
 |n+1,w,d,v,e,q=>by
  cases q with
  |aR=>cases e;exact .aR
  |bl b=>cases e;exact .bl b
  |int b=>cases e;exact .int b
  |str b=>cases e;exact .str b
  | @tup a vs ws sq rs=>
   simp only[toD]at e;cases z:bF (toD h n) ws with|none=>rw[z]at e;cases e|some ds=>rw[z]at e;cases e;exact .tup sq (λz=>z) (AQ (iJ r n) z rs)
  | @fz a vs ws sq rs=>
   simp only[toD]at e;cases z:bF (toD h n) ws with|none=>rw[z]at e;cases e|some ds=>rw[z]at e;cases e;exact .lst sq.sq (λz=>z) (AQ (iJ r n) z rs)
  | @ref i hi=>
   simp only[toD]at e;cases g:h.get i with
   |none=>rw[g]at e;cases e
   |some o=>
    rw[g]at e;cases o with
    |dk _=>cases e
    |dm _=>cases e
    |lst ws=>
     obtain⟨vs,h1,h2⟩:=r.lst g;simp only at e;cases z:bF (toD h n) ws with|none=>rw[z]at e;cases e|some ds=>rw[z]at e;cases e;exact .lst (dh.of h1) (λz=>z) (AQ (iJ r n) z h2)
theorem L7(r:Rel K m h H){x y:W}{v u:V}{b:Bool}(e:cY h x y=aB b)(qv:aL K m h.n H v x)(qu:aL K m h.n H u y) :
 ∃d e',Rp K (λ_=>False) H v d/\Rp K (λ_=>False) H u e'/\SeqAt.shaped d=true/\SeqAt.shaped e'=true/\b=PyData.eqv d e':=by
 unfold cY at e;split at e;rename_i d e' h1 h2;split at e;rename_i hc;cases e;rw[bQ]at hc;exact⟨d,e',iJ r _ _ _ _ h1 qv,iJ r _ _ _ _ h2 qu,hc.1,hc.2,rfl⟩;cases e;cases e
end
theorem yd{K:aK}{m:Nat->ah}{h:VH}{H:Hp}{v:V}{w:W}{ws:List W}(r:Rel K m h H)(q:aL K m h.n H v w)(e:aV h w=aB ws):∃p vs,v=.ref p/\(dh K H p vs\/cN K H p vs)/\aF K m h.n H vs ws:=by
 cases q<;>try cases e
 exact⟨_,_,rfl,.inr ‹_›,‹_›⟩;rename_i q _;exact⟨_,_,rfl,.inl q.sq,‹_›⟩;rename_i i hi;simp only[aV]at e;cases g:h.get i with
 |none=>rw[g]at e;cases e
 |some o=>
  rw[g]at e;cases o with
  |dk _=>cases e
  |dm _=>cases e
  |lst ws=>
   cases e;obtain⟨vs,h1,h2⟩:=r.lst g;exact⟨_,vs,rfl,.inl (dh.of h1),h2⟩
theorem L8{K:aK}{m:Nat->ah}{h:VH}{H:Hp}(r:Rel K m h H){x y:W}{v u:V}{b:Bool}(e:tP h x y=aB b)(qv:aL K m h.n H v x)(qu:aL K m h.n H u y) :
 (∃p vs ds d,u=.ref p/\(dh K H p vs\/cN K H p vs)/\mP K (λ_=>False) H vs ds/\Rp K (λ_=>False) H v d/\ds.all SeqAt.shaped=true/\SeqAt.shaped d=true/\b=fZ ds d):=by
 unfold tP at e;split at e;rename_i ws d h1 h2;split at e;rename_i ds h3;split at e;rename_i hc;cases e;rw[bQ]at hc;obtain⟨p,vs,rfl,h4,h5⟩:=yd r qu h1;exact⟨p,vs,ds,d,rfl,h4,AQ (iJ r 24) h3 h5,iJ r _ _ _ _ h2 qv,hc.1,hc.2,rfl⟩;cases e;cases e;cases e
noncomputable def gK:CmpOp->Option Cp|.Eq=>aB .eq|.NotEq=>aB .ne|.Lt=>aB .lt|.LtE=>aB .le|.Gt=>aB .gt|.GtE=>aB .ge|.Is=>aB .xW|.IsNot=>aB .qX|.In=>aB .kP|.NotIn=>aB .DN
noncomputable def rC(K:aK):Cp->R2|.eq=>Ah K|.ne=>Ai K|.lt=>mL λi j=>.bl (decide (i<j))|.le=>mL λi j=>.bl (decide (i<=j))|.gt=>mL λi j=>.bl (decide (j<i))|.ge=>mL λi j=>.bl (decide (j<=i))|.xW=>λx y H Q=>(y=.aR/\Q (.bl (decide (x=.aR))) H)\/∃c b,x=.bl c/\y=.bl b/\Q (.bl (c==b)) H|.qX=>λx y H Q=>(y=.aR/\Q (.bl (!decide (x=.aR))) H)\/∃c b,x=.bl c/\y=.bl b/\Q (.bl (!(c==b))) H|.kP=>λx y H Q=>qS K false x y H Q|.DN=>λx y H Q=>qS K true x y H Q
noncomputable def pS:ao->Bool|.Set ..=>false|_=>true
theorem GX{op:CmpOp}{b:ao}(h:pS b):behindInMarks op b=false:=by cases b<;>first|rfl|cases h
section
variable{X:Cx}{a b c e:ao}{es:List ao}{fa fb fc:FE}{pos:Pos}
theorem S3:dH X (compareOp .Is) (λx y H Q=>∃c b,x=.bl c/\y=.bl b/\Q (.bl (c==b)) H):=by intro pins s σ H x y v u Q I rx ry h;obtain⟨c,b,rfl,rfl,q⟩:=h;cases rx;cases ry;exact wpAny_is_plain rfl (Dl I q (by cases c<;>cases b<;>rfl))
theorem S4:dH X (compareOp .IsNot) (λx y H Q=>∃c b,x=.bl c/\y=.bl b/\Q (.bl (!(c==b))) H):=by intro pins s σ H x y v u Q I rx ry h;obtain⟨c,b,rfl,rfl,q⟩:=h;cases rx;cases ry;exact wpAny_isNot_plain rfl (Dl I q (by cases c<;>cases b<;>rfl))
theorem ye(hu:X.A.units+65<cLine){O:CmpOp}{c:Cp}(e:gK O=aB c):dH X (compareOp O) (rC X.K c):=by cases O<;>cases e;exact Rz (by lia);exact RA (by lia);exact zK;exact zL;exact zM;exact zN;exact Qs.or S3;exact Qt.or S4;exact R8 (by show X.A.units+1+64<cLine;lia);exact R9 (by show X.A.units+1+64<cLine;lia)
theorem DR{K:aK}{m:Nat->ah}{n:Nat}{H:Hp}{v:V}{w:W}(q:aL K m n H v w):dQ w=decide (v=.aR):=by cases q<;>simp[dQ]
theorem DS{K:aK}(c:Cp):AL K (rC K c) (λx y h=>.of ((bw c h x y).map .bl) h):=by
 intro m h H v u x y w h' Q r qv qu e k;obtain⟨e,rfl⟩:=of_ok e;cases z:bw c h' x y with
 |none=>rw[z]at e;cases e
 |some b=>
  rw[z]at e;cases e;have fin:Q (.bl b) H:=aO.here k r (.bl b);unfold bw at z;split at z;obtain⟨p,vs,ds,d,h1,h2,h3,h4,h5,h6,rfl⟩:=L8 r z qv qu;exact⟨p,vs,ds,d,h1,h2,h3,h4,h5,h6,fin⟩;cases z2:tP h' x y with
  |none=>rw[z2]at z;cases z
  |some b2=>
   rw[z2]at z;cases z;obtain⟨p,vs,ds,d,h1,h2,h3,h4,h5,h6,rfl⟩:=L8 r z2 qv qu;exact⟨p,vs,ds,d,h1,h2,h3,h4,h5,h6,fin⟩
  obtain⟨d,e',h1,h2,h3,h4,rfl⟩:=L7 r z qv qu;exact⟨d,e',h1,h2,h3,h4,fin⟩;cases z2:cY h' x y with
  |none=>rw[z2]at z;cases z
  |some b2=>
   rw[z2]at z;cases z;obtain⟨d,e',h1,h2,h3,h4,rfl⟩:=L7 r z2 qv qu;exact⟨d,e',h1,h2,h3,h4,fin⟩
  split at z;rename_i hn;cases z;have:=DR qu;rw[hn]at this;refine .inl ⟨kW this.symm,?_⟩;rw[<-DR qv];exact fin;unfold AF at z;split at z;rename_i c b;cases z;cases qv;cases qu;exact .inr ⟨_,_,rfl,rfl,fin⟩;cases z;split at z;rename_i hn;cases z;have:=DR qu;rw[hn]at this;refine .inl ⟨kW this.symm,?_⟩;rw[<-DR qv];exact fin;cases z2:AF x y with
  |none=>rw[z2]at z;cases z
  |some b2=>
   rw[z2]at z;cases z;unfold AF at z2;split at z2;rename_i c b;cases z2;cases qv;cases qu;exact .inr ⟨_,_,rfl,rfl,fin⟩;cases z2
  split at z;rename_i i j;cases qv;cases qu;cases c<;>simp only[ie]at z<;>cases z<;>exact⟨i,j,rfl,rfl,fin⟩;cases z
theorem S5(hu:X.A.units+65<cLine){O:CmpOp}{c:Cp}(e:gK O=aB c)(hs:pS b)(ha:SE X a fa)(hb:SE X b fb) :
 SE X (.Compare a [O] [b] pos) (λρ h=>(fa ρ h).bind λx h=>(fb ρ h).bind λy h=>.of ((bw c h x y).map .bl) h):=
 (Qu (ye hu e) ha hb (GX hs)).imp λσ H Q q=>DP (G:=rC X.K c) (DS c) q
theorem S6(hu:X.A.units+65<cLine){O:CmpOp}{c:Cp}(e:gK O=aB c)(hs:pS b)(ha:SE X a fa)(hb:SE X b fb) :
 ST X (.Compare a [O] [b] pos) (λρ h=>(fa ρ h).bind λx h=>(fb ρ h).bind λy h=>.of ((bw c h x y).map .bl) h):=
 (Qv (ye hu e) ha hb (GX hs)).imp λσ H Q q=>DP (G:=rC X.K c) (DS c) (L4 q)
theorem Ma{O O':CmpOp}{a b:ao}(h:pS b):lastMarks [O,O'] [a,b]=false:=GX h
theorem Mb{K:aK}{c1 c2:Cp}{σ:L2.St}{H:Hp}{Q:VK}
 (q:eG K (λρ h=>(fa ρ h).bind λx h=>(fb ρ h).bind λy h=>match bw c1 h x y with
   |some true=>(fc ρ h).bind λz h=>.of ((bw c2 h y z).map .bl) h
   |some false=>.ok (.bl false) h
   |none=>.no) σ H Q):FO (rC K c1) (rC K c2) (eG K fa) (eG K fb) (eG K fc) σ H Q:=by
 refine q.el λρ h m w h' f r e k=>?_;refine bI e λx h1 e1 e2=>?_;refine bI e2 λy h2 e3 e4=>?_;refine(.mk f r e1 λv H1 m1 s1 r1 q1=>(.mk (f.stp s1) r1 e3 λu H2 m2 s2 r2 q2=>?_));have f2:=(f.stp s1).stp s2;have k2:aO K m2 h2.n H2 w h' Q:=λv' H' m' s' r' q'=>k v' H' m' ((s1.trans s2).trans s') r' q';cases z:bw c1 h2 x y with
 |none=>rw[z]at e4;cases e4
 |some b=>
  rw[z]at e4;refine DS c1 m2 h2 H2 v u x y (.bl b) h2 _ r2 (q1.stp s2) q2 (by show Res.of ((bw c1 h2 x y).map W.bl) h2=_;rw[z];rfl) λv3 H3 m3 s3 r3 q3=>?_;cases q3;refine⟨b,rfl,?_⟩;cases b with
  |true=>
   refine bI e4 λz' h4 e5 e6=>?_;rw[if_pos rfl];refine⟨ρ,h2,m3,z',h4,f2.stp s3,r3,e5,λv4 H4 m4 s4 r4 q4=>?_⟩;exact DS c2 m4 h4 H4 u v4 y z' w h' Q r4 ((q2.stp s3).stp s4) q4 e6 λv' H' m' s' r' q'=>k2 v' H' m' ((s3.trans s4).trans s') r' q'
  |false=>
   cases e4;simp only[fG,ez];exact k2 _ H3 m3 s3 r3 (.bl false)
theorem S7(hu:X.A.units+65<cLine){O O':CmpOp}{c1 c2:Cp}(e:gK O=aB c1)(e':gK O'=aB c2)(hs:pS c)(ha:SE X a fa)(hb:SE X b fb)(hc:SE X c fc) :
 SE X (.Compare a [O,O'] [b,c] pos) (λρ h=>(fa ρ h).bind λx h=>(fb ρ h).bind λy h=>match bw c1 h x y with|some true=>(fc ρ h).bind λz h=>.of ((bw c2 h y z).map .bl) h|some false=>.ok (.bl false) h|none=>.no):=(Qw (ye hu e) (ye hu e') ha hb hc (Ma hs)).imp λσ H Q q=>Mb q
theorem S8(hu:X.A.units+65<cLine){O O':CmpOp}{c1 c2:Cp}(e:gK O=aB c1)(e':gK O'=aB c2)(hs:pS c)(ha:SE X a fa)(hb:SE X b fb)(hc:SE X c fc) :
 ST X (.Compare a [O,O'] [b,c] pos) (λρ h=>(fa ρ h).bind λx h=>(fb ρ h).bind λy h=>match bw c1 h x y with|some true=>(fc ρ h).bind λz h=>.of ((bw c2 h y z).map .bl) h|some false=>.ok (.bl false) h|none=>.no):=(Qx (ye hu e) (ye hu e') ha hb hc (Ma hs)).imp λσ H Q q=>Mb (L4 q)
noncomputable abbrev AR(fa:FE):FE:=λρ h=>(fa ρ h).bind λx h=>match x with|.bl b=>.ok (.bl (!b)) h|_=>.no
noncomputable abbrev AS(fa fb:FE):FE:=λρ h=>(fa ρ h).bind λx h=>match x with|.bl true=>fb ρ h|.bl false=>.ok (.bl false) h|_=>.no
noncomputable abbrev Mc(fa fb:FE):FE:=λρ h=>(fa ρ h).bind λx h=>match x with|.bl true=>.ok (.bl true) h|.bl false=>fb ρ h|_=>.no
noncomputable abbrev GY(fa fb fc:FE):FE:=λρ h=>(fa ρ h).bind λx h=>match x with|.bl true=>fb ρ h|.bl false=>fc ρ h|_=>.no
variable{rest:List ao}
theorem S9(ha:ST X a fa):ST X (.UnaryOp .Not a pos) (AR fa):=(Pr ha).imp λσ H Q z9=>z9.el λρ h m b h' f r e k=>by
 refine bI e λx h1 e1 e2=>?_;cases x<;>try cases e2
 rename_i b;exact(.mk f r e1 λH' m' s' r'=>k H' m' s' r')
theorem Tc(ha:SE X a fa):SE X (.UnaryOp .Not a pos) (AR fa):=(Px ha).imp λσ H Q z9=>z9.el λρ h m b h' f r e k=>by
 refine bI e λx h1 e1 e2=>?_;cases x<;>try cases e2
 rename_i b;exact(.mk f r e1 λv H' m' s' r' q=>by cases q;exact⟨b,rfl,k _ H' m' s' r' (.bl _)⟩)
theorem Me{op:BoolOp}(ha:ST X a fa):SW X (.BoolOp op [a] pos) fa:=by cases op;exact Po ha;exact Pp ha
theorem Td(ha:ST X a fa)(hb:SW X (.BoolOp .And (b::rest) pos) fb):SW X (.BoolOp .And (a::b::rest) pos) (AS fa fb):=(Pq ha hb).imp λσ H Q z9=>z9.el λρ h m b h' f r e k=>by
 refine bI e λx h1 e1 e2=>?_;cases x<;>try cases e2
 rename_i c;refine(.mk f r e1 λH1 m1 s1 r1=>?_);cases c with|true=>rw[if_pos rfl];exact(.mk (f.stp s1) r1 e2 λH' m' s' r'=>k H' m' (s1.trans s') r')|false=>cases e2;simp only[fG,ez];exact k H1 m1 s1 r1
theorem AU(ha:ST X a fa)(hb:SW X (.BoolOp .Or (b::rest) pos) fb):SW X (.BoolOp .Or (a::b::rest) pos) (Mc fa fb):=(pw_or ha hb).imp λσ H Q z9=>z9.el λρ h m b h' f r e k=>by
 refine bI e λx h1 e1 e2=>?_;cases x<;>try cases e2
 rename_i c;refine(.mk f r e1 λH1 m1 s1 r1=>?_);cases c with|true=>cases e2;rw[if_pos rfl];exact k H1 m1 s1 r1|false=>simp only[fG,ez];exact(.mk (f.stp s1) r1 e2 λH' m' s' r'=>k H' m' (s1.trans s') r')
theorem Mf{op:BoolOp}(ha:SE X a fa):SE X (.BoolOp op [a] pos) fa:=Pu ha
theorem Te(ha:SE X a fa)(hb:SE X (.BoolOp .And (b::rest) pos) fb):SE X (.BoolOp .And (a::b::rest) pos) (AS fa fb):=(Pw ha hb).imp λσ H Q z9=>z9.el λρ h m w h' f r e k=>by
 refine bI e λx h1 e1 e2=>?_;cases x<;>try cases e2
 rename_i c;refine(.mk f r e1 λv H1 m1 s1 r1 q1=>?_);cases q1;refine⟨c,rfl,?_⟩;cases c with|true=>rw[if_pos rfl];exact(.mk (f.stp s1) r1 e2 λv H' m' s' r' q'=>k v H' m' (s1.trans s') r' q')|false=>cases e2;simp only[fG,ez];exact k _ H1 m1 s1 r1 (.bl false)
theorem AV(ha:SE X a fa)(hb:SE X (.BoolOp .Or (b::rest) pos) fb):SE X (.BoolOp .Or (a::b::rest) pos) (Mc fa fb):=(zq ha hb).imp λσ H Q z9=>z9.el λρ h m w h' f r e k=>by
 refine bI e λx h1 e1 e2=>?_;cases x<;>try cases e2
 rename_i c;refine(.mk f r e1 λv H1 m1 s1 r1 q1=>?_);cases q1;refine⟨c,rfl,?_⟩;cases c with|true=>cases e2;rw[if_pos rfl];exact k _ H1 m1 s1 r1 (.bl true)|false=>simp only[fG,ez];exact(.mk (f.stp s1) r1 e2 λv H' m' s' r' q'=>k v H' m' (s1.trans s') r' q')
theorem Tf(hc:ST X c fc)(ha:SE X a fa)(hb:SE X b fb):SE X (.IfExp c a b pos) (GY fc fa fb):=(Pz hc ha hb).imp λσ H Q z9=>z9.el λρ h m w h' f r e k=>by
 refine bI e λx h1 e1 e2=>?_;cases x<;>try cases e2
 rename_i c;refine(.mk f r e1 λH1 m1 s1 r1=>?_);cases c with|true=>rw[if_pos rfl];exact(.mk (f.stp s1) r1 e2 λv H' m' s' r' q'=>k v H' m' (s1.trans s') r' q')|false=>simp only[fG,ez];exact(.mk (f.stp s1) r1 e2 λv H' m' s' r' q'=>k v H' m' (s1.trans s') r' q')
theorem Mg{K:aK}{m:Nat->ah}{n:Nat}{H:Hp}{vs:List V}{ws:List W}(q:aF K m n H vs ws):vs.isEmpty=ws.isEmpty:=by cases q<;>rfl
theorem Th{K:aK}{m:Nat->ah}{h:VH}{H:Hp}{v:V}{w:W}{b:Bool}(r:Rel K m h H)(q:aL K m h.n H v w)(e:mX h w=aB b):vh K v H b:=by
 cases q with
 |aR=>cases e;rfl
 |bl x=>cases e;rfl
 |int i=>cases e;rfl
 |str x=>cases e
 |fz _ _=>cases e
 |tup sq rs=>cases e;exact .inr (.inl ⟨_,sq,by rw[Mg rs]⟩)
 | @ref i hi=>
  simp only[mX]at e;cases g:h.get i with
  |none=>rw[g]at e;cases e
  |some o=>
   rw[g]at e;cases o with
   |dk _=>cases e
   |dm _=>cases e
   |lst ws=>
    cases e;obtain⟨vs,h1,h2⟩:=r.lst g;exact .inl ⟨vs,dh.of h1,by rw[Mg h2]⟩
theorem GZ(ha:SE X a fa)(he:∀whole,isTrue a X.env whole=(do let v <-whole;standAt a.pos;holding [v] (truthy v))) :
 ST X a (λρ h=>(fa ρ h).bind λx h=>.of ((mX h x).map .bl) h):=(QA ha he).imp λσ H Q z9=>z9.el λρ h m b h' f r e k=>by
 refine bI e λx h1 e1 e2=>?_;obtain⟨e2,rfl⟩:=of_ok e2;cases z:mX h' x with
 |none=>rw[z]at e2;cases e2
 |some c=>
  rw[z]at e2;cases e2;exact(.mk f r e1 λv H' m' s' r' q=>⟨b,Th r' q z,k H' m' s' r'⟩)
theorem Ti(ha:SE X a fa):SE X (.UnaryOp .USub a pos) (λρ h=>(fa ρ h).bind λx h=>match x with|.int i=>.ok (.int (-i)) h|_=>.no):=
 (zI Qq ha).imp λσ H Q q=>L1 (g:=λx h=>match x with|.int i=>.ok (.int (-i)) h|_=>.no) (G:=rU λi=>.int (-i)) (λm h H v x w h' Q r q e k=>by
   cases q<;>try cases e
   rename_i i;exact⟨i,rfl,aO.here k r (.int _)⟩) q
end
section
variable{K:aK}{m m0:Nat->ah}{n n0:Nat}{h:VH}{H H0:Hp}
theorem Rel.adopt(r:Rel K m h H){p:ah}{o:VO}{u u0:HO}(hp:∀i,i<h.n->m i≠p)(hu:H p=aB u0)(ht:∀t,u0≠.tup t)(hf:∀o t,u0≠.bC o t)(s:bY m0 n0 H0 m h.n H)(h0:H0 p=aC)
 (ho:bY m h.n H (λi=>if i=h.n then p else m i) (h.n+1) (upd H p u)\/True->(∀{v:V}{w:W},aL K m h.n H v w->aL K (λi=>if i=h.n then p else m i) (h.n+1) (upd H p u) v w)->fM K (λi=>if i=h.n then p else m i) (h.n+1) (upd H p u) p o) :
 bY m0 n0 H0 (λi=>if i=h.n then p else m i) (h.n+1) (upd H p u)/\Rel K (λi=>if i=h.n then p else m i) (h.new o) (upd H p u):=by
 have kt:∀b vs,H b=aB (.tup vs)->upd H p u b=aB (.tup vs):=λb vs q=>by rw[bZ (cD q hu λz=>ht vs z.symm)];exact q
 have kf:∀b o t,H b=aB (.bC o t)->upd H p u b=aB (.bC o t):=λb o t q=>by rw[bZ (cD q hu λz=>hf o t z.symm)];exact q
 have mv:∀{v:V}{w:W},aL K m h.n H v w->aL K (λi=>if i=h.n then p else m i) (h.n+1) (upd H p u) v w:=by
  intro v w q;have st:bY m h.n (λb=>if b=p then aC else H b) (λi=>if i=h.n then p else m i) (h.n+1) (upd H p u):=by
   refine⟨qt _,λi hi=>by simp only[if_neg (gE hi)],λi hi hi2=>?_,λi j hi hi2 hj=>?_,λb vs q=>?_,λb o t q=>?_,λb o _ q=>?_⟩;have:i=h.n:=by lia
   subst this;simp only[cC];have:i=h.n:=by lia
   subst this;simp only[cC,if_neg (gE hj)];exact(hp j hj).symm;split at q;cases q;exact kt b vs q;split at q;cases q;exact kf b o t q;split at q;cases q;rename_i z;rw[bZ z];exact q
  refine aL.stp st ?_;have back:∀{a vs},cN K H a vs->cN K (λb=>if b=p then aC else H b) a vs:=by
   intro a vs q;rcases q with(q|⟨o,q⟩)|q
   exact .inl (.inl (by simp only[if_neg (cD q hu λz=>ht vs z.symm)];exact q));exact .inl (.inr ⟨o,by simp only[if_neg (cD q hu λz=>hf o _ z.symm)];exact q⟩);exact .inr q
  have AW:∀{a vs},Fz K H a vs->Fz K (λb=>if b=p then aC else H b) a vs:=by
   intro a vs q;rcases q with⟨o,q⟩|q
   exact .inl ⟨o,by simp only[if_neg (cD q hu λz=>hf o _ z.symm)];exact q⟩;exact .inr q
  exact(aL.rec (K:=K) (m:=m) (n:=h.n) (H:=H) (motive_1:=λv w _=>aL K m h.n (λb=>if b=p then aC else H b) v w) (motive_2:=λvs ws _=>aF K m h.n (λb=>if b=p then aC else H b) vs ws)
   .aR .bl .int .str (λsq _ ih=>.tup (back sq) ih) (λsq _ ih=>.fz (AW sq) ih) (λhi=>.ref hi) .nil (λ_ _ i1 i2=>.cons i1 i2) q)
 refine⟨⟨Nat.le_succ_of_le s.le,λi hi=>?_,λi hi hi2=>?_,λi j hi hi2 hj=>?_,λb vs q=>kt b vs (s.tup b vs q),λb o t q=>kf b o t (s.bC b o t q),λb o nb q=>?_⟩,⟨λi hi=>?_,λi j hi hj z=>?_,?_⟩⟩;have:=s.le;simp only[if_neg (show i≠h.n by lia)];exact s.same i hi;by_cases e:i=h.n;subst e;simp only[cC];exact h0;simp only[if_neg e];exact s.new i hi (by lia);have:=s.le;simp only[if_neg (show j≠h.n by lia)];by_cases e:i=h.n;subst e;simp only[cC];exact(hp j (by lia)).symm;simp only[if_neg e];exact s.apart i j hi (by lia) hj;rw[bZ (iy q h0)];exact s.keep b o nb q;have hi:i<h.n+1:=hi;by_cases e:i=h.n;subst e;exact⟨o,dW,by simp only[cC];exact ho (.inr trivial) mv⟩;have hl:i<h.n:=by lia
 obtain⟨o',h1,h2⟩:=r.obj i hl;refine⟨o',(iz hl).trans h1,?_⟩;simp only[if_neg e];have eq:upd H p u (m i)=H (m i):=bZ (hp i hl);cases o' with
 |lst ws=>
  obtain⟨vs,q1,q2⟩:=h2;exact⟨vs,eq.trans q1,aF.rec (K:=K) (m:=m) (n:=h.n) (H:=H) (motive_1:=λv w _=>aL K m h.n H v w) (motive_2:=λvs ws _=>aF K (λi=>if i=h.n then p else m i) (h.n+1) (upd H p u) vs ws)
   .aR .bl .int .str (λsq q _=>.tup sq q) (λsq q _=>.fz sq q) (λhi=>.ref hi) .nil (λq _ _ i2=>.cons (mv q) i2) q2⟩
 |dk ws=>
  obtain⟨vs,q1,q2⟩:=h2;have go:∀{vs:List (Key×V)}{ws:List (Key×W)},aN K m h.n H vs ws->aN K (λi=>if i=h.n then p else m i) (h.n+1) (upd H p u) vs ws:=by
   intro vs ws q2;induction q2 with|nil=>exact .nil|cons q _ ih=>exact .cons (mv q) ih
  exact⟨vs,q1.imp (λz=>eq.trans z) λ⟨o,z⟩=>⟨o,eq.trans z⟩,go q2⟩
 |dm ws=>
  obtain⟨vs,q1,q2⟩:=h2;have go:∀{vs:List (Key×V)}{ws:List (Key×W)},aN K m h.n H vs ws->aN K (λi=>if i=h.n then p else m i) (h.n+1) (upd H p u) vs ws:=by
   intro vs ws q2;induction q2 with|nil=>exact .nil|cons q _ ih=>exact .cons (mv q) ih
  exact⟨vs,eq.trans q1,go q2⟩
 have hi:i<h.n+1:=hi;have hj:j<h.n+1:=hj;by_cases e:i=h.n;by_cases e2:j=h.n;lia;simp only[if_pos e,if_neg e2]at z;exact absurd z.symm (hp j (by lia));by_cases e2:j=h.n;simp only[if_neg e,if_pos e2]at z;exact absurd z (hp i (by lia));simp only[if_neg e,if_neg e2]at z;exact r.inj i j (by lia) (by lia) z;show(o::h.os).length=h.n+1;rw[dg,r.len]
theorem aF.map{m':Nat->ah}{n':Nat}{H':Hp}(mv:∀{v:V} {w:W},aL K m n H v w->aL K m' n' H' v w):∀{vs:List V} {ws:List W},aF K m n H vs ws->aF K m' n' H' vs ws|_,_,.nil=>.nil|_,_,.cons q r=>.cons (mv q) (aF.map mv r)
theorem aN.map{m':Nat->ah}{n':Nat}{H':Hp}(mv:∀{v:V} {w:W},aL K m n H v w->aL K m' n' H' v w):∀{vs:List (Key×V)} {ws:List (Key×W)},aN K m n H vs ws->aN K m' n' H' vs ws|_,_,.nil=>.nil|_,_,.cons q r=>.cons (mv q) (aN.map mv r)
theorem aN.look(k:Key):∀{vs:List (Key×V)} {ws:List (Key×W)},aN K m n H vs ws->(fj vs k=aC/\aQ ws k=aC)\/∃v w,fj vs k=aB v/\aQ ws k=aB w/\aL K m n H v w
 |_,_,.nil=>.inl ⟨rfl,rfl⟩
 |_,_,.cons (k:=k') (v:=v) (w:=w) q r=>by
  by_cases e:k'=k;refine .inr ⟨v,w,Dw (p:=(k',v)) e,?_,q⟩;unfold aQ;rw[nR];simp[e];rcases aN.look k r with⟨a,b⟩|⟨v',w',a,b,c⟩
  refine .inl ⟨(Aj (p:=(k',v)) e).trans a,?_⟩;unfold aQ at b ⊢;rw[nR];simp only[jl e];exact b;refine .inr ⟨v',w',(Aj (p:=(k',v)) e).trans a,?_,c⟩;unfold aQ at b ⊢;rw[nR];simp only[jl e];exact b
theorem aN.any(k:Key):∀{vs:List (Key×V)} {ws:List (Key×W)},aN K m n H vs ws->(vs.any λkv=>decide (kv.1=k))=(ws.any λkv=>decide (kv.1=k))|_,_,.nil=>rfl|_,_,.cons q r=>by rw[xy,xy,aN.any k r]
theorem aN.repl{v:V}{w:W}(q:aL K m n H v w)(k:Key):∀{vs:List (Key×V)} {ws:List (Key×W)},aN K m n H vs ws->aN K m n H (vs.map λkv=>if kv.1=k then(kv.1,v)else kv) (ws.map λkv=>if kv.1=k then(kv.1,w)else kv)
 |_,_,.nil=>.nil
 |_,_,.cons (k:=k') p r=>by
  rw[fF,fF];by_cases e:k'=k;simp only[if_pos e];exact .cons q (aN.repl q k r);simp only[if_neg e];exact .cons p (aN.repl q k r)
theorem aN.snoc{v:V}{w:W}(q:aL K m n H v w)(k:Key):∀{vs:List (Key×V)} {ws:List (Key×W)},aN K m n H vs ws->aN K m n H (vs++[(k,v)]) (ws++[(k,w)])|_,_,.nil=>.cons q .nil|_,_,.cons p r=>.cons p (aN.snoc q k r)
theorem aN.put{v:V}{w:W}(q:aL K m n H v w)(k:Key){vs:List (Key×V)}{ws:List (Key×W)}(r:aN K m n H vs ws):aN K m n H (putK vs k v) (bA ws k w):=by unfold putK bA;rw[r.any k];split;exact r.repl q k;exact r.snoc q k
theorem aN.merge{vs:List (Key×V)}{ws:List (Key×W)}(q:aN K m n H vs ws):∀{va:List (Key×V)} {wa:List (Key×W)},aN K m n H va wa->aN K m n H (pQ va vs) (xZ wa ws):=by
 induction q with|nil=>exact λa=>a|cons q r ih=>exact λa=>ih (a.put q _)
theorem aN.length:∀{vs:List (Key×V)} {ws:List (Key×W)},aN K m n H vs ws->vs.length=ws.length|_,_,.nil=>rfl|_,_,.cons _ r=>by rw[dg,dg,aN.length r]
theorem yf{v:V}{w:W}{k:Key}(q:aL K m n H v w)(e:lg w=aB k):v=kV k:=by cases q<;>cases e<;>rfl
theorem G0{vs:List V}{ws:List W}{i:Int}{w:W}(q:aF K m n H vs ws)(e:fy ws i=aB w):∃v,fy vs i=aB v/\aL K m n H v w:=by
 unfold fy at e ⊢;rw[q.length];cases z:iU ws.length i with
 |none=>rw[z]at e;cases e
 |some j=>
  rw[z]at e;exact q.get e
end
noncomputable def vL(K:aK):R2:=λx y H Q=>zX K x y H Q\/zY K x y H Q\/(∃a v,x=.ref a/\mR H a y (aB v)/\Q v H)
section
variable{X:Cx}{a b c e o:ao}{es:List ao}{fa fb fc fo:FE}{pos:Pos}
theorem zs2(hu:X.A.units+1<cLine):qQ X (λx y H Q=>∃a v,x=.ref a/\mR H a y (aB v)/\Q v H):=by intro value slice pins s σ H x y v u Q I rx ry q hs;obtain⟨a,v',rfl,g,q⟩:=q;obtain rfl:v=Value.ref a:=rx;exact tail_any (RK I g) PySem.F.slot_dict_getitem.lookup (RI hu I g ry λw' s3 I3 rw'=>⟨v',H,I3,rw',q⟩) hs
theorem AX(hu:X.A.units+2<cLine):qQ X (vL X.K):=Q2.or (Q3.or (zs2 (by lia)))
theorem Tj{K:aK}:AL K (vL K) (λx y h=>.of (bT h x y) h):=by
 intro m h H v u x y w h' Q r qv qu e0 k;obtain⟨e,e1⟩:=of_ok e0;clear e0;subst e1;unfold bT at e;split at e;cases qv with
 |tup sq rs=>
  cases qu;obtain⟨v',h1,h2⟩:=G0 rs e;exact .inr (.inl ⟨_,_,_,v',rfl,rfl,sq,h1,aO.here k r h2⟩)
 cases qv with
 |fz sq rs=>
  cases qu;obtain⟨v',h1,h2⟩:=G0 rs e;exact .inl ⟨_,_,_,v',rfl,rfl,sq.sq,h1,aO.here k r h2⟩
 rename_i i j;cases qv;cases qu;cases g:h'.get i with
 |none=>rw[g]at e;cases e
 |some ob=>
  rw[g]at e;cases ob with
  |lst ws=>
   obtain⟨vs,p1,p2⟩:=r.lst g;obtain⟨v',h1,h2⟩:=G0 p2 e;exact .inl ⟨_,_,_,v',rfl,rfl,dh.of p1,h1,aO.here k r h2⟩
  |dk ws=>
   have e:aQ ws (.inl j)=aB w:=e;obtain⟨vs,p1,p2⟩:=r.dk g;rcases p2.look (.inl j)with⟨_,z⟩|⟨v',w',z1,z2,z3⟩
   rw[z]at e;cases e;rw[z2]at e;cases e;exact .inr (.inr ⟨_,v',rfl,by rw[<-z1];exact .inl ⟨vs,.inl j,p1,rfl,rfl⟩,aO.here k r z3⟩)
  |dm ws=>
   have e:aQ ws (.inl j)=aB w:=e;obtain⟨vs,p1,p2⟩:=r.dm g;rcases p2.look (.inl j)with⟨_,z⟩|⟨v',w',z1,z2,z3⟩
   rw[z]at e;cases e;rw[z2]at e;cases e;exact .inr (.inr ⟨_,v',rfl,by rw[<-z1];exact .inl ⟨vs,.inl j,.inl p1,rfl,rfl⟩,aO.here k r z3⟩)
 rename_i i j;cases qv;cases qu;cases g:h'.get i with
 |none=>rw[g]at e;cases e
 |some ob=>
  rw[g]at e;cases ob with
  |lst ws=>cases e
  |dk ws=>
   have e:aQ ws (.inr j)=aB w:=e;obtain⟨vs,p1,p2⟩:=r.dk g;rcases p2.look (.inr j)with⟨_,z⟩|⟨v',w',z1,z2,z3⟩
   rw[z]at e;cases e;rw[z2]at e;cases e;exact .inr (.inr ⟨_,v',rfl,by rw[<-z1];exact .inl ⟨vs,.inr j,p1,rfl,rfl⟩,aO.here k r z3⟩)
  |dm _=>cases e
 cases e
theorem Tn(hu:X.A.units+2<cLine)(ha:SE X a fa)(hb:SE X b fb)(hs:FZ b):SE X (.Subscript a b pos) (λρ h=>(fa ρ h).bind λx h=>(fb ρ h).bind λy h=>.of (bT h x y) h):=
 (zW (AX hu) ha hb hs).imp λσ H Q q=>DP (G:=vL X.K) Tj q
noncomputable def jd(K:aK)(b:Bool)(f:FE):TO:=λσ H Q=>∃ρ h m w o h',Fr K m h.n H σ ρ/\Rel K m h H/\f ρ h=.ok w h'/\f9 b w=aB o/\∀H' m',bY m h.n H m' h'.n H'->Rel K m' h' H'->Q o H'
theorem jd.el{K:aK}{σ:L2.St}{H:Hp}{P:Prop}{b:Bool}{fa:FE}{Q:Option Int->Hp->Prop}(q:jd K b fa σ H Q)(k:∀ρ h m w o h',Fr K m h.n H σ ρ->Rel K m h H->fa ρ h=.ok w h'->f9 b w=aB o->(∀H' m',bY m h.n H m' h'.n H'->Rel K m' h' H'->Q o H')->P):P:=by obtain⟨ρ,h,m,w,o,h',f,r,e,ep,k'⟩:=q;exact k ρ h m w o h' f r e ep k'
theorem jd.mk{K:aK}{σ:L2.St}{H:Hp}{m:Nat->ah}{ρ:En}{h h':VH}{w:W}{o:Option Int}{b:Bool}{fa:FE}{Q:Option Int->Hp->Prop}(f:Fr K m h.n H σ ρ)(r:Rel K m h H)(e:fa ρ h=.ok w h')(ep:f9 b w=aB o)(k:∀H' m',bY m h.n H m' h'.n H'->Rel K m' h' H'->Q o H'):jd K b fa σ H Q:=⟨ρ,h,m,w,o,h',f,r,e,ep,k⟩
theorem To{w:W}:PO X aC (jd X.K false (λ_ h=>.ok w h)):=λpins s σ H Q I z9=>z9.el λρ h m w o h' f r e ep k=>by
 cases e;have:o=aC:=by unfold f9 at ep;cases ep;rfl
 subst this;exact QV pins s σ H Q I (k H m .refl r)
theorem Mh(ha:SE X e fa):PO X (aB e) (jd X.K true fa):=λpins s σ H Q I z9=>z9.el λρ h m w o h' f r e ep k=>by
 refine QW ha pins s σ H Q I (.mk f r e λv H' m' s' r' q=>?_);cases q<;>cases ep;exact⟨_,rfl,k H' m' s' r'⟩
theorem Mi{K:aK}{m:Nat->ah}{n:Nat}{H:Hp}{vs:List V}{ws:List W}(q:aF K m n H vs ws)(lo hi:Option Int):aF K m n H (kc vs lo hi) (jc ws lo hi):=by unfold kc jc;rw[q.length];exact(q.drop _).take _
theorem Tp{ws:List W}{lo hi:Option Int}(h:HT.bR ws.length 0 lo=0/\HT.bR ws.length ws.length hi=ws.length):jc ws lo hi=ws:=by unfold jc;rw[h.1,h.2];simp
theorem Tq{lo hi:Option ao}{fl fh:FE}{p2:Pos}{bl bh:Bool}(ha:SE X a fa)(hl:PO X lo (jd X.K bl fl))(hh:PO X hi (jd X.K bh fh)) :
 SE X (.Subscript a (.Slice lo hi aC p2) pos) (λρ h=>(fa ρ h).bind λx h=>(fl ρ h).bind λl h=>(fh ρ h).bind λu h=>match f9 bl l,f9 bh u with|some l,aB u=>kB x l u h|_,_=>.no):=
 (QY Sb ha hl hh).imp λσ H Q z9=>z9.el λρ h m w h' f r e k=>by
   refine bI e λx h1 e1 e2=>?_;refine bI e2 λl h2 e3 e4=>?_;refine bI e4 λu h3 e5 e6=>?_;split at e6;rename_i l' u' pl pu;refine(.mk f r e1 λv H1 m1 s1 r1 q1=>(.mk (f.stp s1) r1 e3 pl λH2 m2 s2 r2=>(.mk ((f.stp s1).stp s2) r2 e5 pu λH3 m3 s3 r3=>?_)));have q3:=(q1.stp s2).stp s3;have kk:aO X.K m3 h3.n H3 w h' Q:=λv' H' m' s' r' q'=>k v' H' m' (((s1.trans s2).trans s3).trans s') r' q';unfold kB at e6;split at e6;rename_i ws;cases e6;cases q3 with
   | @tup a vs _ sq rs=>
    by_cases hw:HT.bR vs.length 0 l'=0/\HT.bR vs.length vs.length u'=vs.length;refine .inl (.inr ⟨_,_,rfl,sq,hw,?_⟩);have Mj:=hw;rw[rs.length]at Mj;rw[Tp Mj]at kk;exact aO.here kk r3 (.tup sq rs);exact .inl (.inl ⟨_,_,rfl,sq,hw,λp hp=>aO.tuple kk r3 (Mi rs l' u') hp⟩)
   rename_i i;cases q3;cases g:h3.get i with
   |none=>rw[g]at e6;cases e6
   |some ob=>
    rw[g]at e6;cases ob with
    |lst ws=>
     cases e6;obtain⟨vs,p1,p2⟩:=r3.lst g;exact .inr ⟨_,_,rfl,dh.of p1,λp hp=>aO.list kk r3 (Mi p2 l' u') hp⟩
    |dk ws=>cases e6
    |dm _=>cases e6
   cases e6;cases e6
end
noncomputable def gY:ao->Bool|.Starred ..=>false|_=>true
theorem fS{e:ao}{es:List ao}{env:Env}(h:gY e):starEach (e::es) env=(false,eval e env)::starEach es env:=by cases e<;>first|rfl|cases h
theorem AY{pos:Pos}{env:Env}:∀{es:List ao},es.all gY=true->(backTo pos (starEach es env)).any (·.1)=false
 |[],_=>rfl
 |e::es,h=>by
  rw[pK,bQ]at h;rw[fS h.1];show(false|| (backTo pos (starEach es env)).any (·.1))=false;rw[AY h.2];rfl
noncomputable abbrev lz:FE:=λ_ h=>.ok (.tup []) h
noncomputable abbrev iK(fa fb:FE):FE:=λρ h=>(fa ρ h).bind λx h=>(fb ρ h).bind λy h=>match y with|.tup ys=>.ok (.tup (x::ys)) h|_=>.no
section
variable{X:Cx}{a b c e o:ao}{es:List ao}{fa fb fc fo:FE}{pos p:Pos}{x:Str}
noncomputable abbrev jL(fa:FE)(g:List W->VH->Res W):FE:=λρ h=>(fa ρ h).bind λy h=>match y with|.tup ys=>g ys h|_=>.no
noncomputable def fB(K:aK)(r:List V->Hp->VK->Prop)(g:List W->VH->Res W):Prop:=∀(m:Nat->ah) (h:VH) (H:Hp) (vs:List V) (xs:List W) (w:W) (h':VH) (Q:VK),Rel K m h H->aF K m h.n H vs xs->g xs h=.ok w h'->aO K m h.n H w h' Q->r vs H Q
theorem AZ{id:String}{r:List V->Hp->VK->Prop}{g:List W->VH->Res W}(hc:cG X (.builtin id) r)(hv:fB X.K r g)(hg:Gl X x)(hm:X.mg x=aC)(hb:bootBuiltins x=aB (.builtin id))(ha:SA X (e::es) fa)(hs:(e::es).all gY=true)
 (hn:x≠"__name__") (hdb:(x==("__debug__" : Str))=false):SE X (.Call (.Name x p) (e::es) [] pos) (jL fa g):=by
 rw[pK,bQ]at hs;exact(K5 hc hg hm hb ha hn hdb (fS hs.1) (AY hs.2)).imp λσ H Q q=>ya hv q
theorem G1{T:String}{r:List V->Hp->VK->Prop}{g:List W->VH->Res W}(hc:cG X (.type T) r)(hv:fB X.K r g)(hg:Gl X x)(hm:X.mg x=aC)(hb:bootBuiltins x=aB (.type T))(ha:SA X (e::es) fa)(hs:(e::es).all gY=true)
 (hn:x≠"__name__") (hdb:(x==("__debug__" : Str))=false):SE X (.Call (.Name x p) (e::es) [] pos) (jL fa g):=by
 rw[pK,bQ]at hs;exact(QM hc hg hm hb ha hn hdb (fS hs.1) (AY hs.2)).imp λσ H Q q=>ya hv q
theorem fC{K:aK}{m:Nat->ah}{n:Nat}{H:Hp}{vs:List V}{w:W}(q:aF K m n H vs [w]):∃v,vs=[v]/\aL K m n H v w:=by cases q with|cons q r=>cases r;exact⟨_,rfl,q⟩
theorem Tr{K:aK}:fB K (λxs H Q=>∃p ys,xs=[.ref p]/\(dh K H p ys\/cN K H p ys)/\Q (.int ys.length) H) iH:=by
 intro m h H vs xs w h' Q r q e k;unfold iH at e;split at e<;>try cases e
 rename_i x;obtain⟨v,rfl,q1⟩:=fC q;obtain⟨e,rfl⟩:=of_ok e;cases z:aV h' x with
 |none=>
  rw[z]at e;cases e
 |some ws=>
  rw[z]at e;cases e;obtain⟨p,us,rfl,h1,h2⟩:=yd r q1 z;exact⟨p,us,rfl,h1,by rw[h2.length];exact aO.here k r (.int _)⟩
theorem Tt{K:aK}:fB K (λxs H Q=>∃p ys,xs=[.ref p]/\(dh K H p ys\/cN K H p ys)/\∀l,H l=aC->Q (.ref l) (upd H l (.lst ys))) iI:=by
 intro m h H vs xs w h' Q r q e k;unfold iI at e;split at e<;>try cases e
 rename_i x;obtain⟨v,rfl,q1⟩:=fC q;cases z:aV h x with
 |none=>rw[z]at e;cases e
 |some ws=>
  rw[z]at e;cases e;obtain⟨p,us,rfl,h1,h2⟩:=yd r q1 z;exact⟨p,us,rfl,h1,λl hl=>aO.list k r h2 hl⟩
theorem Tu{K:aK}:fB K (λxs H Q=>∃p ys,xs=[.ref p]/\((dh K H p ys/\∀l,H l=aC->Q (.ref l) (upd H l (.tup ys)))\/(cN K H p ys/\Q (.ref p) H))) vH:=by
 intro m h H vs xs w h' Q r q e k;unfold vH at e;split at e<;>try cases e
 rename_i x;obtain⟨v,rfl,q1⟩:=fC q;obtain⟨e,rfl⟩:=of_ok e;cases z:aV h' x with
 |none=>
  rw[z]at e;cases e
 |some ws=>
  rw[z]at e;cases e;obtain⟨p,us,rfl,h1,h2⟩:=yd r q1 z;rcases h1 with h1|h1
  exact⟨p,us,rfl,.inl ⟨h1,λl hl=>aO.tuple k r h2 hl⟩⟩;exact⟨p,us,rfl,.inr ⟨h1,aO.here k r (.tup h1 h2)⟩⟩
theorem Tv{K:aK}:fB K (λxs H Q=>(∃i,xs=[.int i]/\Q (.int i) H)\/∃k,xs=[.bl k]/\Q (.int (if k then 1 else 0)) H) mY:=by
 intro m h H vs xs w h' Q r q e k;unfold mY at e;split at e<;>try cases e
 obtain⟨v,rfl,q1⟩:=fC q;cases q1;exact .inl ⟨_,rfl,aO.here k r (.int _)⟩;obtain⟨v,rfl,q1⟩:=fC q;cases q1;exact .inr ⟨_,rfl,aO.here k r (.int _)⟩
theorem Tw{K:aK}:fB K (λxs H Q=>∃i,xs=[.int i]/\Q (.int (if i<0 then -i else i)) H) lq:=by
 intro m h H vs xs w h' Q r q e k;unfold lq at e;split at e<;>try cases e
 obtain⟨v,rfl,q1⟩:=fC q;cases q1;exact⟨_,rfl,aO.here k r (.int _)⟩
theorem kD{K:aK}{m:Nat->ah}{n:Nat}{H:Hp}{vs:List V}{w z:W}(q:aF K m n H vs [w,z]):∃v u,vs=[v,u]/\aL K m n H v w/\aL K m n H u z:=by cases q with|cons q r=>obtain⟨u,rfl,h⟩:=fC r;exact⟨_,_,rfl,q,h⟩
theorem Mk{K:aK}{m:Nat->ah}{n:Nat}{H:Hp}:∀{vs:List V} {ws:List W} {is:List Int},aF K m n H vs ws->bF iZ ws=aB is->vs=is.map .int
 |_,_,_,.nil,e=>by cases e;rfl
 |_,_,_,.cons (w:=w) (ws:=ws) q r,e=>by
  unfold bF at e;cases z:iZ w with
  |none=>rw[z]at e;cases e
  |some b=>
   rw[z]at e;cases z2:bF iZ ws with
   |none=>rw[z2]at e;cases e
   |some cs=>
    rw[z2]at e;cases e;unfold iZ at z;split at z<;>cases z;cases q;rw[Mk r z2];rfl
theorem Ml:∀(r:List Int) (x:Int),x<=dJ x r/\∀y∈r,y<=dJ x r
 |[],x=>⟨Int.le_refl _,λ_ h=>nomatch h⟩
 |y::r,x=>by
  have h:=Ml r (if y>x then y else x);by_cases q:y>x;rw[if_pos q]at h;have e:dJ x (y::r)=dJ y r:=by show dJ (if y>x then y else x) r=_;rw[if_pos q]
  rw[e];refine⟨by have:=h.1;lia,λz hz=>?_⟩;rcases fT.mp hz with rfl|hz
  exact h.1;exact h.2 z hz;rw[if_neg q]at h;have e:dJ x (y::r)=dJ x r:=by show dJ (if y>x then y else x) r=_;rw[if_neg q]
  rw[e];refine⟨h.1,λz hz=>?_⟩;rcases fT.mp hz with rfl|hz
  have:=h.1;lia;exact h.2 z hz
theorem Mm:∀(r:List Int) (x:Int),dJ x r∈x::r
 |[],x=>eZ
 |y::r,x=>by
  have h:=Mm r (if y>x then y else x);by_cases q:y>x;rw[if_pos q]at h;have e:dJ x (y::r)=dJ y r:=by show dJ (if y>x then y else x) r=_;rw[if_pos q]
  rw[e];exact eY _ h;rw[if_neg q]at h;have e:dJ x (y::r)=dJ x r:=by show dJ (if y>x then y else x) r=_;rw[if_neg q]
  rw[e];rcases fT.mp h with h|h
  rw[h];exact eZ;exact eY _ (eY _ h)
theorem Tz{K:aK}:fB K (λxs H Q=>(∃i j,xs=[.int i,.int j]/\Q (.int (if j>i then j else i)) H)\/∃(p:ah) (ns:List Int),xs=[.ref p]/\dh K H p (ns.map .int)/\0<ns.length/\∀M,M∈ns->(∀a∈ns,a<=M)->Q (.int M) H) mZ:=by
 intro m h H vs xs w h' Q r q e k;unfold mZ at e;split at e<;>try cases e
 obtain⟨v,u,rfl,q1,q2⟩:=kD q;cases q1;cases q2;exact .inl ⟨_,_,rfl,aO.here k r (.int _)⟩;rename_i i;split at e<;>try cases e
 rename_i ws g;split at e<;>try cases e
 rename_i x rs z;obtain⟨v,rfl,q1⟩:=fC q;cases q1;obtain⟨us,p1,p2⟩:=r.lst g;refine .inr ⟨_,x::rs,rfl,?_,Nat.succ_pos _,λM h1 h2=>?_⟩;rw[<-Mk p2 z];exact .inl (.inl p1);have l1:=Ml rs x;have hM:M=dJ x rs:=by
  have a1:M<=dJ x rs:=by rcases fT.mp h1 with rfl|h1;exact l1.1;exact l1.2 M h1
  have a2:=h2 _ (Mm rs x);lia
 rw[hM];exact aO.here k r (.int _)
theorem TF{K:aK}:fB K (λxs H Q=>∃i j,xs=[.int i,.int j]/\Q (.int (if j<i then j else i)) H) rj:=by
 intro m h H vs xs w h' Q r q e k;unfold rj at e;split at e<;>try cases e
 obtain⟨v,u,rfl,q1,q2⟩:=kD q;cases q1;cases q2;exact⟨_,_,rfl,aO.here k r (.int _)⟩
theorem Mn{K:aK}{m:Nat->ah}{n:Nat}{H:Hp}:∀{vs:List V} {ws:List W} {bs:List Bool},aF K m n H vs ws->bF tQ ws=aB bs->vs=bs.map .bl
 |_,_,bs,.nil,e=>by cases e;rfl
 |_,_,bs,.cons (w:=w) (ws:=ws) q r,e=>by
  unfold bF at e;cases z:tQ w with
  |none=>rw[z]at e;cases e
  |some b=>
   rw[z]at e;cases z2:bF tQ ws with
   |none=>rw[z2]at e;cases e
   |some cs=>
    rw[z2]at e;cases e;unfold tQ at z;split at z<;>cases z;cases q;rw[Mn r z2];rfl
theorem TH{K:aK}:fB K (λxs H Q=>∃(p:ah) (bs:List Bool),xs=[.ref p]/\dh K H p (bs.map .bl)/\Q (.bl (bs.all id)) H) kC:=by
 intro m h H vs xs w h' Q r q e k;unfold kC at e;split at e<;>try cases e
 rename_i i;split at e<;>try cases e
 rename_i ws g;obtain⟨v,rfl,q1⟩:=fC q;obtain⟨e,rfl⟩:=of_ok e;cases z:bF tQ ws with
 |none=>rw[z]at e;cases e
 |some bs=>
  rw[z]at e;cases e;cases q1;obtain⟨us,p1,p2⟩:=r.lst g;refine⟨_,bs,rfl,?_,aO.here k r (.bl _)⟩;rw[<-Mn p2 z];exact .inl (.inl p1)
noncomputable def rA:Ty->String|.int=>"int" |.bool=>"bool" |.tuple=>"tuple" |.list=>"list" |.str=>"str" |.dict=>"dict"
noncomputable def A0(K:aK)(n:String):List V->Hp->VK->Prop:=λxs H Q=>∃x b,xs=[x,.ty n]/\((∃t,fV K H x t/\PySem.W.kitOne K t (.type n)=aB b)\/(∃a vs,x=.ref a/\cN K H a vs/\PySem.W.kitOne K (.type "tuple") (.type n)=aB b)\/∃a kvs,x=.ref a/\Rd H a (.dK kvs)/\PySem.W.kitOne K (.type "dict") (.type n)=aB b)/\Q (.bl b) H
theorem TJ(n:String):cG X (.builtin "isinstance") (A0 X.K n):=by
 intro pins s σ H xs us Q I r h;obtain⟨x,b,rfl,hi,q⟩:=h;obtain⟨u,u2,rfl,rx,rc⟩:=vals2 r;obtain rfl:u2=Value.type n:=rc;rcases hi with⟨t,ty,e⟩|⟨a,vs,rfl,sq,e⟩|⟨a,kvs,rfl,rd,e⟩
 exact QH I rx ty e λtk=>⟨.bl b,H,I.tok _,rfl,q⟩
 obtain rfl:u=Value.ref a:=rx;obtain⟨its,_,p,_⟩:=I.tuple sq;obtain⟨o,h1,h2,_⟩:=p;exact mG PySem.W.kitx_tuple I.jt ⟨o,h1,h2⟩ e (λz=>nomatch z) λtk=>⟨.bl b,H,I.tok _,rfl,q⟩
 obtain rfl:u=Value.ref a:=rx;obtain⟨_,_,_,_,o,_,_,h1,h2,_⟩:=jw I.hok rd;exact mG PySem.W.kitx_dict I.jt ⟨o,h1,h2.1⟩ e (λz=>nomatch z) λtk=>⟨.bl b,H,I.tok _,rfl,q⟩
theorem TL{K:aK}(t:Ty){m:Nat->ah}{h:VH}{H:Hp}{v:V}{x:W}{b:Bool}(r:Rel K m h H)(q:aL K m h.n H v x)(e:cP t h x=aB b) :
 (∃t',fV K H v t'/\PySem.W.kitOne K t' (.type (rA t))=aB b)\/(∃a vs,v=.ref a/\cN K H a vs/\PySem.W.kitOne K (.type "tuple") (.type (rA t))=aB b)\/∃a kvs,v=.ref a/\Rd H a (.dK kvs)/\PySem.W.kitOne K (.type "dict") (.type (rA t))=aB b:=by
 cases q with
 |aR=>cases e;refine .inl ⟨_,.aR,?_⟩;cases t<;>rfl
 |bl x=>cases e;refine .inl ⟨_,.bl x,?_⟩;cases t<;>rfl
 |int x=>cases e;refine .inl ⟨_,.int x,?_⟩;cases t<;>rfl
 |str x=>cases e;refine .inl ⟨_,.str x,?_⟩;cases t<;>rfl
 |tup sq rs=>cases e;refine .inr (.inl ⟨_,_,rfl,sq,?_⟩);cases t<;>rfl
 |fz _ _=>cases e
 | @ref i hi=>
  simp only[cP]at e;cases g:h.get i with
  |none=>rw[g]at e;cases e
  |some o=>
   rw[g]at e;cases o with
   |lst ws=>
    cases e;obtain⟨vs,h1,h2⟩:=r.lst g;refine .inl ⟨_,.lst h1,?_⟩;cases t<;>rfl
   |dk ws=>
    cases e;obtain⟨vs,h1,h2⟩:=r.dk g;refine .inr (.inr ⟨_,_,rfl,h1,?_⟩);cases t<;>rfl
   |dm _=>cases e
theorem TN(t:Ty){T:Str}{p2:Pos}(ha:SE X e fa)(hs:gY e)(hg:Gl X "isinstance")(hm:X.mg "isinstance" = aC)(TQ:Gl X T)(TR:X.mg T=aC)(TU:bootBuiltins T=aB (.type (rA t)))(hn:T≠"__name__")(hd:(T==("__debug__" : Str))=false) :
 SE X (.Call (.Name "isinstance" p) [e,.Name T p2] [] pos) (λρ h=>(fa ρ h).bind λx h=>.of ((cP t h x).map .bl) h):=by
 have hT:PE X (.Name T p2) (tC (.ty (rA t))):=Pk TQ TR TU rfl hn hd;refine(K5 (TJ (rA t)) hg hm PyProof.Rows.boot_isinstance (xS ha (xS hT zR) (fS hs)) (by decide) (by decide) (fS hs) rfl).imp λσ H Q q=>?_;refine L1 (g:=λx h=>.of ((cP t h x).map .bl) h) (G:=λv H1 Q=>A0 X.K (rA t) [v,.ty (rA t)] H1 Q) (λm h H v x w h' Q r q e k=>?_) q;obtain⟨e,rfl⟩:=of_ok e;cases z:cP t h' x with
 |none=>rw[z]at e;cases e
 |some b=>
  rw[z]at e;cases e;exact⟨v,b,rfl,TL t r q z,aO.here k r (.bl b)⟩
noncomputable def A1:ao->Bool|.Name .. |.Subscript ..=>true|_=>false
theorem G2{o:ao}{m:Str}{env:Env}(h:A1 o):attributeBase o m env (eval o env)=eval o env:=by cases o<;>first|rfl|cases h
noncomputable abbrev G3(m:Mt)(fo fa:FE):FE:=λρ h=>(fo ρ h).bind λx h=>if ly m h x then(fa ρ h).bind λy h=>match y with|.tup ys=>kR m x ys h|_=>.no else .no
theorem TV{apos:Pos}(ho:SE X o fo)(he:SE X e fa)(hb:A1 o)(hs:gY e)(hl:(apos.endLine==pos.line)) :
 SE X (.Call (.Attribute o "append" apos) [e] [] pos) (G3 .append fo (iK fa lz)):=by
 refine(tF (X:=X) PySem.F.plainAttrs_list PySem.F.slot_list_append PySem.F.type_list_append F2 ho (xS he zR (fS hs)) (G2 hb) ?_ hl (fS hs) rfl).imp λσ H Q z9=>z9.el λρ h m w h' f r e k=>?_;rw[fS hs];rfl;refine bI e λx h1 e1 e2=>?_;split at e2;rename_i hk;refine bI e2 λy h2 e3 e4=>?_;refine bI e3 λz h3 e5 e6=>?_;cases e6;refine(.mk f r e1 λv H1 m1 s1 r1 q1=>?_);cases x<;>try cases hk
 rename_i i;simp only[ly]at hk;cases g:h1.get i with
 |none=>rw[g]at hk;cases hk
 |some ob=>
  rw[g]at hk;cases ob with
  |dk _=>cases hk
  |dm _=>cases hk
  |lst Mp=>
   cases q1;obtain⟨tH,p1,_⟩:=r1.lst g;refine⟨.inl ⟨rfl,tH,dh.of p1⟩,ρ,h1,m1,z,h2,f.stp s1,r1,e5,λv2 H2 m2 s2 r2 q2=>?_⟩;simp only[kR]at e4;cases g2:h2.get i with
   |none=>rw[g2]at e4;cases e4
   |some ob=>
    rw[g2]at e4;cases ob with
    |dk _=>cases e4
    |dm _=>cases e4
    |lst ws=>
     simp only at e4;split at e4;rename_i hz;cases e4;obtain⟨vs,p2,p3⟩:=r2.lst g2;have hmi:m1 i=m2 i:=(s2.same i (cA g)).symm;refine⟨m1 i,vs,v2,rfl,rfl,by rw[hmi];exact p2,by rw[p3.length];exact gX.mp hz,?_⟩;obtain⟨st,r'⟩:=r2.write (i:=i) (o:=.lst (ws++[z])) (u:=.lst (vs++[v2])) (cA g2) p2 (λ_ z=>nomatch z) (λ_ _ z=>nomatch z) λst=>⟨vs++[v2],fJ,(p3.stp st).append (.cons (q2.stp st) .nil)⟩
     rw[hmi];exact k .aR _ m2 ((s1.trans s2).trans st) r' .aR;cases e4
 cases e2
theorem TX{apos:Pos}(hu:X.A.units+1<cLine)(ho:SE X o fo)(ha:SE X a fa)(F3:SE X b fb)(hb:A1 o)(hs:gY a)(hs2:gY b)(hl:(apos.endLine==pos.line)) :
 SE X (.Call (.Attribute o "get" apos) [a,b] [] pos) (G3 .get fo (iK fa (iK fb lz))):=by
 have tr:backTo pos (starEach [a,b] X.env)=[(false,eval a X.env),(false,eval b X.env)]:=by rw[fS hs,fS hs2];rfl
 refine(RU hu ho ha F3 ⟨G2 hb,by rw[tr];rfl,hl,tr⟩).imp λσ H Q z9=>z9.el λρ h m w h' f r e k=>?_;refine bI e λx h1 e1 e2=>?_;split at e2;rename_i hk;refine bI e2 λy h2 e3 e4=>?_;refine bI e3 λz h3 e5 e6=>?_;refine bI e6 λy2 h4 e7 e8=>?_;refine bI e7 λz2 h5 e9 vM=>?_;cases vM;cases e8;refine(.mk f r e1 λv H1 m1 s1 r1 q1=>?_);cases x<;>try cases hk
 rename_i i;simp only[ly]at hk;cases g:h1.get i with
 |none=>rw[g]at hk;cases hk
 |some ob=>
  rw[g]at hk;cases ob with
  |lst _=>cases hk
  |dk Mp=>
   cases q1;obtain⟨tH,p1,_⟩:=r1.dk g;refine⟨m1 i,rfl,.inl ⟨tH,p1⟩,ρ,h1,m1,z,h3,f.stp s1,r1,e5,λv2 H2 m2 s2 r2 q2=>(.mk ((f.stp s1).stp s2) r2 e9 λv3 H3 m3 s3 r3 q3=>?_)⟩;simp only[kR]at e4;split at e4;rename_i kvs kk g2 hkk;cases e4;obtain⟨vs,p2,p3⟩:=r3.dk g2;have hmi:m1 i=m3 i:=((s3.same i (dF (cA g) s2.le)).trans (s2.same i (cA g))).symm;have hv:=yf (q2.stp s3) hkk;subst hv;refine⟨fj vs kk,by rw[hmi];exact .inl ⟨vs,kk,p2,rfl,rfl⟩,?_⟩;have ou:=(s1.trans s2).trans s3;rcases p3.look kk with⟨z1,z2⟩|⟨v',w',z1,z2,z3⟩
   rw[z1];rw[z2]at k;exact k _ H3 m3 ou r3 q3;rw[z1];rw[z2]at k;exact k _ H3 m3 ou r3 z3;rename_i kvs kk g2 hkk;cases e4;obtain⟨vs,p2,p3⟩:=r3.dm g2;have hmi:m1 i=m3 i:=((s3.same i (dF (cA g) s2.le)).trans (s2.same i (cA g))).symm;have hv:=yf (q2.stp s3) hkk;subst hv;refine⟨fj vs kk,by rw[hmi];exact .inl ⟨vs,kk,.inl p2,rfl,rfl⟩,?_⟩;have ou:=(s1.trans s2).trans s3;rcases p3.look kk with⟨z1,z2⟩|⟨v',w',z1,z2,z3⟩
   rw[z1];rw[z2]at k;exact k _ H3 m3 ou r3 q3;rw[z1];rw[z2]at k;exact k _ H3 m3 ou r3 z3;cases e4
  |dm Mp=>
   cases q1;obtain⟨tH,p1,_⟩:=r1.dm g;refine⟨m1 i,rfl,.inl ⟨tH,.inl p1⟩,ρ,h1,m1,z,h3,f.stp s1,r1,e5,λv2 H2 m2 s2 r2 q2=>(.mk ((f.stp s1).stp s2) r2 e9 λv3 H3 m3 s3 r3 q3=>?_)⟩;simp only[kR]at e4;split at e4;rename_i kvs kk g2 hkk;cases e4;obtain⟨vs,p2,p3⟩:=r3.dk g2;have hmi:m1 i=m3 i:=((s3.same i (dF (cA g) s2.le)).trans (s2.same i (cA g))).symm;have hv:=yf (q2.stp s3) hkk;subst hv;refine⟨fj vs kk,by rw[hmi];exact .inl ⟨vs,kk,p2,rfl,rfl⟩,?_⟩;have ou:=(s1.trans s2).trans s3;rcases p3.look kk with⟨z1,z2⟩|⟨v',w',z1,z2,z3⟩
   rw[z1];rw[z2]at k;exact k _ H3 m3 ou r3 q3;rw[z1];rw[z2]at k;exact k _ H3 m3 ou r3 z3;rename_i kvs kk g2 hkk;cases e4;obtain⟨vs,p2,p3⟩:=r3.dm g2;have hmi:m1 i=m3 i:=((s3.same i (dF (cA g) s2.le)).trans (s2.same i (cA g))).symm;have hv:=yf (q2.stp s3) hkk;subst hv;refine⟨fj vs kk,by rw[hmi];exact .inl ⟨vs,kk,.inl p2,rfl,rfl⟩,?_⟩;have ou:=(s1.trans s2).trans s3;rcases p3.look kk with⟨z1,z2⟩|⟨v',w',z1,z2,z3⟩
   rw[z1];rw[z2]at k;exact k _ H3 m3 ou r3 q3;rw[z1];rw[z2]at k;exact k _ H3 m3 ou r3 z3;cases e4
 cases e2
end
section
variable{K:aK}{m m' m1:Nat->ah}{n n' n1:Nat}{h h':VH}{H H' H1:Hp}
mutual
theorem aL.mono(hn:n<=n')(hm:∀i,i<n->m' i=m i)(kt:∀b vs,H b=aB (.tup vs)->H' b=aB (.tup vs))(kf:∀b o u,H b=aB (.bC o u)->H' b=aB (.bC o u)):∀{v:V} {w:W},aL K m n H v w->aL K m' n' H' v w
 |_,_,.aR=>.aR
 |_,_,.bl b=>.bl b
 |_,_,.int b=>.int b
 |_,_,.str b=>.str b
 |_,_,.tup q r=>.tup (by
  rcases q with(q|⟨o,q⟩)|q;exact .inl (.inl (kt _ _ q));exact .inl (.inr ⟨o,kf _ _ _ q⟩);exact .inr q) (aF.mono hn hm kt kf r)
 |_,_,.fz q r=>.fz (by
  rcases q with⟨o,q⟩|q;exact .inl ⟨o,kf _ _ _ q⟩;exact .inr q) (aF.mono hn hm kt kf r)
 |_,_,.ref (i:=i) q=>by rw[<-hm i q];exact .ref (dF q hn)
theorem aF.mono(hn:n<=n')(hm:∀i,i<n->m' i=m i)(kt:∀b vs,H b=aB (.tup vs)->H' b=aB (.tup vs))(kf:∀b o u,H b=aB (.bC o u)->H' b=aB (.bC o u)):∀{vs:List V} {ws:List W},aF K m n H vs ws->aF K m' n' H' vs ws|_,_,.nil=>.nil|_,_,.cons q r=>.cons (aL.mono hn hm kt kf q) (aF.mono hn hm kt kf r)
end
theorem Rel.side(r:Rel K m h H){D:ah}{u u0:HO}(hu:H D=aB u0)(ht:∀t,u0≠.tup t)(hf:∀o t,u0≠.bC o t)(ho:∀i,i<h.n->m i≠D)(s:bY m1 n1 H1 m h.n H)(h0:H1 D=aC) :
 bY m1 n1 H1 m h.n (upd H D u)/\Rel K m h (upd H D u)/\∀{v:V}{w:W},aL K m h.n H v w->aL K m h.n (upd H D u) v w:=by
 have kt:∀b vs,H b=aB (.tup vs)->upd H D u b=aB (.tup vs):=λb vs q=>by rw[bZ (cD q hu λz=>ht vs z.symm)];exact q
 have kf:∀b o t,H b=aB (.bC o t)->upd H D u b=aB (.bC o t):=λb o t q=>by rw[bZ (cD q hu λz=>hf o t z.symm)];exact q
 have mv:∀{v:V}{w:W},aL K m h.n H v w->aL K m h.n (upd H D u) v w:=λq=>q.mono (bf _) (λ_ _=>rfl) kt kf;refine⟨⟨s.le,s.same,s.new,s.apart,λb vs q=>kt b vs (s.tup b vs q),λb o t q=>kf b o t (s.bC b o t q),λb o nb q=>by rw[bZ (iy q h0)];exact s.keep b o nb q⟩,⟨λi hi=>?_,r.inj,r.len⟩,mv⟩;obtain⟨o,h1,h2⟩:=r.obj i hi;have eq:upd H D u (m i)=H (m i):=bZ (ho i hi);refine⟨o,h1,?_⟩;cases o with|lst ws=>obtain⟨vs,q1,q2⟩:=h2;exact⟨vs,eq.trans q1,q2.map mv⟩|dk ws=>obtain⟨vs,q1,q2⟩:=h2;exact⟨vs,q1.imp (λz=>eq.trans z) λ⟨o,z⟩=>⟨o,eq.trans z⟩,q2.map mv⟩|dm ws=>obtain⟨vs,q1,q2⟩:=h2;exact⟨vs,eq.trans q1,q2.map mv⟩
theorem Rel.out(r:Rel K m h H){p:ah}(hp:H p=aC):∀i,i<h.n->m i≠p:=λi hi z=>by
 obtain⟨o',_,h2⟩:=r.obj i hi;obtain⟨u',h3⟩:=h2.some;rw[z,hp]at h3;cases h3
theorem bY.out(s:bY m n H m' n' H'){p:ah}{u:HO}(hp:∀i,i<n->m i≠p)(hu:H p=aB u):∀i,i<n'->m' i≠p:=λi hi z=>by
 by_cases hl:i<n;exact hp i hl ((s.same i hl).symm.trans z);have:=s.new i (jG.mp hl) hi;rw[z,hu]at this;cases this
end
inductive iL(K:aK)(m:Nat->ah)(n:Nat)(H:Hp):List (V×V)->List W->Prop
 |nil:iL K m n H [] []
 |cons {k v:V} {a b:W} {ps:List (V×V)} {ws:List W}:aL K m n H k a->aL K m n H v b->iL K m n H ps ws->iL K m n H ((k,v)::ps) (a::b::ws)
noncomputable def oz(K:aK)(f:FE)(σ:L2.St)(H:Hp)(Q:List (V×V)->Hp->Prop):Prop:=∃ρ h m ws h',Fr K m h.n H σ ρ/\Rel K m h H/\f ρ h=.ok (.tup ws) h'/\
 ∀ps H' m',bY m h.n H m' h'.n H'->Rel K m' h' H'->iL K m' h'.n H' ps ws->Q ps H'
theorem oz.el{K:aK}{σ:L2.St}{H:Hp}{P:Prop}{fa:FE}{Q:List (V×V)->Hp->Prop}(q:oz K fa σ H Q)(k:∀ρ h m ws h',Fr K m h.n H σ ρ->Rel K m h H->fa ρ h=.ok (.tup ws) h'->(∀ps H' m',bY m h.n H m' h'.n H'->Rel K m' h' H'->iL K m' h'.n H' ps ws->Q ps H')->P):P:=by obtain⟨ρ,h,m,w,h',f,r,e,k'⟩:=q;exact k ρ h m w h' f r e k'
theorem oz.mk{K:aK}{σ:L2.St}{H:Hp}{m:Nat->ah}{ρ:En}{h h':VH}{ws:List W}{fa:FE}{Q:List (V×V)->Hp->Prop}(f:Fr K m h.n H σ ρ)(r:Rel K m h H)(e:fa ρ h=.ok (.tup ws) h')(k:∀ps H' m',bY m h.n H m' h'.n H'->Rel K m' h' H'->iL K m' h'.n H' ps ws->Q ps H'):oz K fa σ H Q:=⟨ρ,h,m,ws,h',f,r,e,k⟩
noncomputable def A2(X:Cx)(pos:Pos)(keys:List (Option ao))(values:List ao)(f:FE):Prop:=∃lU,Am X pos keys values lU/\∀σ H Q,oz X.K f σ H Q->DB lU σ H Q
section
variable{X:Cx}{a b c e o:ao}{es:List ao}{fa fb fc fo fr:FE}{pos p:Pos}{x:Str}
theorem TY:A2 X pos [] [] lz:=⟨[],RN,λσ H Q z9=>z9.el λρ h m ws h' f r e k=>by cases e;exact k [] H m .refl r .nil⟩
theorem TZ{ks:List (Option ao)}{vs:List ao}(ha:SE X a fa)(hb:SE X b fb)(hr:A2 X pos ks vs fr):A2 X pos (aB a::ks) (b::vs) (iK fa (iK fb fr)):=by
 obtain⟨lU,h1,h2⟩:=hr;refine⟨_,RO ha hb h1,λσ H Q z9=>z9.el λρ h m ws h' f r e k=>?_⟩;refine bI e λx h3 e1 e2=>?_;refine bI e2 λy h4 e3 e4=>?_;refine bI e3 λx2 h5 e5 e6=>?_;refine bI e6 λy2 h6 e7 e8=>?_;cases y2<;>try cases e8
 cases e4;rename_i ys;exact(.mk f r e1 λv H1 m1 s1 r1 q1=>(.mk (f.stp s1) r1 e5 λv2 H2 m2 s2 r2 q2=>h2 σ H2 _ (.mk ((f.stp s1).stp s2) r2 e7 λps H3 m3 s3 r3 q3=>
  k _ H3 m3 ((s1.trans s2).trans s3) r3 (.cons ((q1.stp s2).stp s3) (q2.stp s3) q3))))
theorem Mq{K:aK}{m:Nat->ah}{n:Nat}{H:Hp}:∀{ps:List (V×V)} {ws:List W} {kws:List (Key×W)},iL K m n H ps ws->tS ws=aB kws->∃kvs:List (Key×V),ps=kvs.map (λkv=>(kV kv.1,kv.2))/\aN K m n H kvs kws
 |_,_,_,.nil,e=>by cases e;exact⟨[],rfl,.nil⟩
 |_,_,_,.cons (a:=a) (v:=v) q1 q2 r,e=>by
  simp only[tS]at e;split at e;rename_i k hk;split at e;rename_i kvs hp;cases e;obtain⟨kv,rfl,r'⟩:=Mq r hp;refine⟨(k,v)::kv,?_,.cons q2 r'⟩;rw[fF,yf q1 hk];cases e;cases e
noncomputable abbrev G4(f:FE):FE:=λρ h=>(f ρ h).bind λy h=>match y with
 |.tup ys=>(match tS ys with
  |some kvs=>if Nat.ble kvs.length 15 then .ok (.ref h.n) (h.new (AI kvs))else .no
  |none=>.no)
 |_=>.no
theorem T3(hu:X.A.units+2<cLine){keys:List (Option ao)}{values:List ao}(hp:A2 X pos keys values fa)(hall:keys.all (·.isSome))(hl:keys.length=values.length)(h0:keys≠[])(GH:keys.length<=15):SE X (.Dict keys values pos) (G4 fa):=by
 obtain⟨lU,h1,h2⟩:=hp;refine(RP h1 hall hl h0 GH).imp λσ H Q z9 p hp=>z9.el λρ h m w h' f r e k=>?_;refine bI e λy h3 e1 e2=>?_;cases y<;>try cases e2
 rename_i ys;obtain⟨je,r0⟩:=r.more (u:=.dK []) hp;refine h2 σ _ _ (.mk (f.stp je) r0 e1 λps H2 m2 s2 r2 q2=>?_);have hout:=s2.out (r.out hp) fJ;have hD:H2 p=aB (.dK []):=s2.keep p _ (r.out hp) fJ;refine⟨hD,?_⟩;have e2:(match tS ys with|some kvs=>if Nat.ble kvs.length 15 then Res.ok (W.ref h3.n) (h3.new (AI kvs))else .no|none=>.no)=.ok w h':=e2
 cases hk:tS ys with
 |none=>
  rw[hk]at e2;cases e2
 |some kws=>
  rw[hk]at e2;have e2:(if Nat.ble kws.length 15 then Res.ok (W.ref h3.n) (h3.new (AI kws))else .no)=.ok w h':=e2;by_cases hz:Nat.ble kws.length 15=true;rw[if_pos hz]at e2;cases e2;obtain⟨kvs,e3,q3⟩:=Mq q2 hk;refine⟨kvs,e3,by rw[q3.length];exact kY hz,?_⟩;obtain⟨st,r'⟩:=r2.adopt (o:=AI kws) (u:=.dK (pQ [] kvs)) hout hD (λ_ z=>nomatch z) (λ_ _ z=>nomatch z) (je.trans s2) hp λ_ mv=>⟨_,.inl fJ,(q3.merge .nil).map mv⟩
  refine k _ _ _ st r' ?_;have:aL X.K (λi=>if i=h3.n then p else m2 i) (h3.n+1) (upd H2 p (.dK (pQ [] kvs))) (.ref ((λi=>if i=h3.n then p else m2 i) h3.n)) (.ref h3.n):=.ref (fU _);simp only[cC]at this;exact this;rw[if_neg hz]at e2;cases e2
noncomputable def oA(K:aK)(np:Nat)(g:List W->VH->Res W):Sp:=λvs H Q _=>vs.length=np/\∃h m ws w h',Rel K m h H/\aF K m h.n H vs ws/\g ws h=.ok w h'/\aO K m h.n H w h' Q
theorem T4{k:Nat}{f:ah}{fd:au}{ps:List Str}{g:List W->VH->Res W}(F:fK X.prog X.w X.K X.mg X.base lS k f fd ps (oA X.K ps.length g))(hr:dB k X.A)(hg:Gl X x)(hm:X.mg x=aB (.ref f))(hk:PySem.W.keepIn X.K (.ref f)=true)
 (hb:Binds X.K fd ps []) (ha:SA X (e::es) fa) (hs:(e::es).all gY) (hdb:(x==("__debug__" : Str))=false) (hn:∀ws h w h',g ws h=.ok w h'->ws.length=ps.length):SE X (.Call (.Name x p) (e::es) [] pos) (jL fa g):=by
 rw[pK,bQ]at hs;refine(KS F hr hg hm hk hb .nil nZ ha hdb (fS hs.1) (AY hs.2)).imp λσ H Q q=>ya (G:=λvs H1 Q=>oA X.K ps.length g (vs++[]) H1 Q E0) (λm h H vs xs w h' Q r q e k=>?_) q;rw[nG];exact⟨by rw[q.length];exact hn _ _ _ _ e,h,m,xs,w,h',r,q,e,k⟩
theorem T5{k:Nat}{f:ah}{fd:au}{ps:List Str}{g:List W->VH->Res W}(F:fK X.prog X.w X.K X.mg X.base lS k f fd ps (oA X.K ps.length g))(hr:dB k X.A)(hg:Gl X x)(hm:X.mg x=aB (.ref f))(hk:PySem.W.keepIn X.K (.ref f)=true)
 (hb:Binds X.K fd ps []) (hdb:(x==("__debug__" : Str))=false) (hn:∀ws h w h',g ws h=.ok w h'->ws.length=ps.length):SE X (.Call (.Name x p) [] [] pos) (jL lz g):=by
 refine(QK F hr hg hm hk hb .nil nZ hdb).imp λσ H Q z9=>z9.el λρ h m w h' f r e k=>?_;exact⟨hn _ _ _ _ e,h,m,[],w,h',r,.nil,e,k⟩
theorem T6{k:Nat}{f:ah}{fd:au}{ps:List Str}{g:List W->VH->Res W}(F:fK X.prog X.w X.K X.mg X.base lS k f fd ps (oA X.K ps.length g))(hr:dB k X.A)(hg:Gl X x)(hm:X.mg x=aB (.ref f))(hk:PySem.W.keepIn X.K (.ref f)=true)
 (hb:Binds X.K fd ps [.none]) (ha:SA X (e::es) fa) (hs:(e::es).all gY) (hdb:(x==("__debug__" : Str))=false) (hn:∀ws h w h',g ws h=.ok w h'->ws.length=ps.length):SE X (.Call (.Name x p) (e::es) [] pos) (jL fa λws h=>g (ws++[.aR]) h):=by
 rw[pK,bQ]at hs;refine(KS F hr hg hm hk hb (nW:=[V.aR]) (.cons rfl .nil) nZ ha hdb (fS hs.1) (AY hs.2)).imp λσ H Q q=>ya (G:=λvs H1 Q=>oA X.K ps.length g (vs++[V.aR]) H1 Q E0) (λm h H vs xs w h' Q r q e k=>?_) q;have q':aF X.K m h.n H (vs++[V.aR]) (xs++[W.aR]):=q.append (.cons .aR .nil);exact⟨by rw[q'.length];exact hn _ _ _ _ e,h,m,xs++[W.aR],w,h',r,q',e,k⟩
noncomputable def jf(K:aK)(nx:Nat->VH->Option (Option W))(J:It)(P:(Nat->ah)->Nat->Hp->Prop):Prop:=
 (∀m n H m' n' H',n<=n'->(∀i,i<n->m' i=m i)->(∀b vs,H b=aB (.tup vs)->H' b=aB (.tup vs))->(∀b o u,H b=aB (.bC o u)->H' b=aB (.bC o u))->P m n H->P m' n' H')/\
 ∀m h H,Rel K m h H->P m h.n H->∀i,(∀w,nx i h=aB (aB w)->J.go i H/\∀y H3,J.tw i H y H3->bY m h.n H m h.n H3/\Rel K m h H3/\aL K m h.n H3 y w)/\(nx i h=aB aC->J.stop i H)
noncomputable def cy(K:aK)(kd:Kd)(f:FE):TI:=λσ H R=>∃ρ h m x h',Fr K m h.n H σ ρ/\Rel K m h H/\f ρ h=.ok x h'/\(∃o,aY kd x 0 h'=aB o)/\
 ∀J P H' m',bY m h.n H m' h'.n H'->Rel K m' h' H'->jf K (aY kd x) J P->P m' h'.n H'->R J H'
theorem cy.el{K:aK}{σ:L2.St}{H:Hp}{P:Prop}{kd:Kd}{fa:FE}{R}(q:cy K kd fa σ H R)(k:∀ρ h m x h',Fr K m h.n H σ ρ->Rel K m h H->fa ρ h=.ok x h'->∀o,aY kd x 0 h'=aB o->(∀J P H' m',bY m h.n H m' h'.n H'->Rel K m' h' H'->jf K (aY kd x) J P->P m' h'.n H'->R J H')->P):P:=by obtain⟨ρ,h,m,w,h',f,r,e,⟨o,eo⟩,k'⟩:=q;exact k ρ h m w h' f r e o eo k'
theorem cy.mk{K:aK}{σ:L2.St}{H:Hp}{m:Nat->ah}{ρ:En}{h h':VH}{x:W}{kd:Kd}{fa:FE}{R}(f:Fr K m h.n H σ ρ)(r:Rel K m h H)(e:fa ρ h=.ok x h')(eo:∃o,aY kd x 0 h'=aB o)(k:∀J P H' m',bY m h.n H m' h'.n H'->Rel K m' h' H'->jf K (aY kd x) J P->P m' h'.n H'->R J H'):cy K kd fa σ H R:=⟨ρ,h,m,x,h',f,r,e,eo,k⟩
theorem G5{K:aK}{H H':Hp}{a:ah}{vs:List V}(kt:∀b vs,H b=aB (.tup vs)->H' b=aB (.tup vs))(kf:∀b o u,H b=aB (.bC o u)->H' b=aB (.bC o u))(q:cN K H a vs):cN K H' a vs:=by rcases q with(q|⟨o,q⟩)|q;exact .inl (.inl (kt _ _ q));exact .inl (.inr ⟨o,kf _ _ _ q⟩);exact .inr q
theorem Mr{K:aK}{H H':Hp}{a:ah}{vs:List V}(kf:∀b o u,H b=aB (.bC o u)->H' b=aB (.bC o u))(q:Fz K H a vs):Fz K H' a vs:=by rcases q with⟨o,q⟩|q;exact .inl ⟨o,kf _ _ _ q⟩;exact .inr q
theorem yg{ws:List W}{h:VH}{x:W}{i:Nat}{o:Option W}(e:aV h x=aB ws)(q:aY .seq x i h=aB o):ws[i]?=o:=by simp only[aY,e]at q;cases q;rfl
theorem T7{K:aK}{a:ah}{vs:List V}{ws:List W}:jf K (aY .seq (.tup ws)) (FH K a) (λm n H=>cN K H a vs/\aF K m n H vs ws):=by refine⟨λm n H m' n' H' hn hm kt kf ⟨q1,q2⟩=>⟨G5 kt kf q1,q2.mono hn hm kt kf⟩,λm h H r ⟨q1,q2⟩ i=>⟨λw e=>?_,λe=>?_⟩⟩;have e:=yg (ws:=ws) rfl e;obtain⟨v,h1,h2⟩:=q2.get e;refine⟨⟨vs,v,q1,h1⟩,λy H3 ⟨e3,y3⟩=>?_⟩;subst e3;have:=y3 vs q1;rw[h1]at this;cases this;exact⟨.refl,r,h2⟩;have e:=yg (ws:=ws) rfl e;exact⟨vs,q1,by rw[q2.length];exact pH.mp e⟩
theorem A3{K:aK}{a:ah}{vs:List V}{ws:List W}:jf K (aY .seq (.fz ws)) (Di K a) (λm n H=>Fz K H a vs/\aF K m n H vs ws):=by refine⟨λm n H m' n' H' hn hm kt kf ⟨q1,q2⟩=>⟨Mr kf q1,q2.mono hn hm kt kf⟩,λm h H r ⟨q1,q2⟩ i=>⟨λw e=>?_,λe=>?_⟩⟩;have e:=yg (ws:=ws) rfl e;obtain⟨v,h1,h2⟩:=q2.get e;refine⟨⟨vs,v,q1.sq,h1⟩,λy H3 ⟨e3,y3⟩=>?_⟩;subst e3;have:=y3 vs q1.sq;rw[h1]at this;cases this;exact⟨.refl,r,h2⟩;have e:=yg (ws:=ws) rfl e;exact⟨vs,q1.sq,by rw[q2.length];exact pH.mp e⟩
theorem T8{K:aK}{a:ah}{l:Nat}:jf K (aY .seq (.ref l)) (Di K a) (λm n H=>l<n/\a=m l):=by
 refine⟨λm n H m' n' H' hn hm kt kf ⟨q1,q2⟩=>⟨dF q1 hn,by rw[hm l q1];exact q2⟩,λm h H r ⟨q1,q2⟩ i=>?_⟩;subst q2;cases g:h.get l with
 |none=>exact⟨λw e=>by simp[aY,aV,g]at e,λe=>by simp[aY,aV,g]at e⟩
 |some o=>
  cases o with
  |dk _=>exact⟨λw e=>by simp[aY,aV,g]at e,λe=>by simp[aY,aV,g]at e⟩
  |dm _=>exact⟨λw e=>by simp[aY,aV,g]at e,λe=>by simp[aY,aV,g]at e⟩
  |lst ws=>
   have hs:aV h (.ref l)=aB ws:=by simp[aV,g]
   obtain⟨vs,p1,p2⟩:=r.lst g;refine⟨λw e=>?_,λe=>?_⟩;have e:=yg hs e;obtain⟨v,h1,h2⟩:=p2.get e;refine⟨⟨vs,v,dh.of p1,h1⟩,λy H3 ⟨e3,y3⟩=>?_⟩;subst e3;have:=y3 vs (dh.of p1);rw[h1]at this;cases this;exact⟨.refl,r,h2⟩;have e:=yg hs e;exact⟨vs,dh.of p1,by rw[p2.length];exact pH.mp e⟩
theorem Ms{K:aK}{kd:Kd}{x:W}{lo:Int}{k:Nat}(hx:∀i h,aY kd x i h=aB (if i<k then aB (.int (lo+i))else aC)):jf K (aY kd x) (zB lo k) (λ_ _ _=>True):=by refine⟨λ_ _ _ _ _ _ _ _ _ _ _=>trivial,λm h H r _ i=>⟨λw e=>?_,λe=>?_⟩⟩;rw[hx]at e;split at e;rename_i hi;cases e;refine⟨hi,λy H3 ⟨e3,y3⟩=>?_⟩;subst e3 y3;exact⟨.refl,r,.int _⟩;cases e;rw[hx]at e;split at e;cases e;rename_i hi;exact jG.mp hi
theorem G6{tg:ao}(ha:SE X e fa):PI X tg e (cy X.K .seq fa):=λpins s σ H R I z9=>z9.el λρ h m x h' f r ee o en k=>by
 have hs:∃ws,aV h' x=aB ws:=by
  cases z:aV h' x with|none=>simp[aY,z]at en|some ws=>exact⟨ws,rfl⟩
 obtain⟨ws,hs⟩:=hs;cases x<;>try cases hs
 exact Qa ha pins s σ H R I (.mk f r ee λv H' m' s' r' q=>by
  cases q with|tup sq rs=>exact⟨_,rfl,⟨_,sq⟩,k _ _ H' m' s' r' T7 ⟨sq,rs⟩⟩)
 exact KO ha pins s σ H R I (.mk f r ee λv H' m' s' r' q=>by
  cases q with|fz sq rs=>exact⟨_,rfl,⟨_,sq.sq⟩,k _ _ H' m' s' r' A3 ⟨sq,rs⟩⟩)
 rename_i l;exact KO ha pins s σ H R I (.mk f r ee λv H' m' s' r' q=>by
  obtain⟨p,vs,e1,e2,e3⟩:=yd r' q hs;cases q with
  |ref hi=>
   cases g:h'.get l with
   |none=>simp[aV,g]at hs
   |some ob=>
    cases ob with
    |dk _=>simp[aV,g]at hs
    |dm _=>simp[aV,g]at hs
    |lst Mu=>
     obtain⟨vs',p1,_⟩:=r'.lst g;exact⟨_,rfl,⟨_,dh.of p1⟩,k _ _ H' m' s' r' T8 ⟨hi,rfl⟩⟩)
theorem T9{tg:ao}(ha:SA X [e] fa)(hs:gY e)(hg:Gl X "range")(hm:X.mg "range" = aC):PI X tg (.Call (.Name "range" p) [e] [] pos) (cy X.K .bV fa):=λpins s σ H R I z9=>z9.el λρ h m x h' f r ee o en k=>by
 simp only[aY]at en;split at en;rename_i j;split at en;rename_i hf;refine Qc hg hm ha (fS hs) pins s σ H R I (.mk f r ee λvs H' m' s' r' q=>?_);obtain⟨v,rfl,q1⟩:=fC q;cases q1;refine⟨_,rfl,(vK hf).1,(vK hf).2,k _ _ H' m' s' r' (Ms λi h=>?_) trivial⟩;simp only[aY,hf,cC];split<;>split<;>first|rfl|(exfalso;simp at *;lia)
 cases en;cases en
theorem Ua{tg:ao}(ha:SA X [a,b] fa)(hs:gY a)(hs2:gY b)(hg:Gl X "range")(hm:X.mg "range" = aC):PI X tg (.Call (.Name "range" p) [a,b] [] pos) (cy X.K .mV fa):=λpins s σ H R I z9=>z9.el λρ h m x h' f r ee o en k=>by
 simp only[aY]at en;split at en;rename_i i j;split at en;rename_i hf;refine Qd hg hm ha (by rw[fS hs,fS hs2];rfl) (fS hs2) pins s σ H R I (.mk f r ee λvs H' m' s' r' q=>?_);obtain⟨v,u,rfl,q1,q2⟩:=kD q;cases q1;cases q2;have hf2:=hf;rw[bQ]at hf2;refine⟨_,_,rfl,⟨(vK hf2.1).1,(vK hf2.1).2,(vK hf2.2).1,(vK hf2.2).2⟩,k _ _ H' m' s' r' (Ms λi h=>?_) trivial⟩;simp only[aY,hf,cC];split<;>split<;>first|rfl|(exfalso;simp at *;lia)
 cases en;cases en
noncomputable def Ub(tl:TE):TI:=λσ H R=>tl σ H λx H1=>∃a kvs,x=.ref a/\((∃ob,H1 a=aB (.bC ob (.dK kvs))/\R (AB a ob kvs) H1)\/(H1 a=aB (.dK kvs)/\∀ob,R (AB a ob kvs) (upd H1 a (.bC ob (.dK kvs)))))
theorem Uc{tg l:ao}{tl:TE}(hl:PE X l tl):PI X tg l (Ub tl):=by
 intro pins s σ H R I h;refine bg (hl pins s σ H _ I h) λv s1 b9=>?_;obtain⟨x,H1,I1,r1,q1⟩:=b9;obtain⟨a,kvs,e,q⟩:=q1;subst e;cases r1;have key:∀(H2:Hp)(ob:Obj),Inv X pins σ H2 s1->H2 a=aB (.bC ob (.dK kvs))->R (AB a ob kvs) H2->wpAny (model X.prog X.w) X.A (pyIter (.ref a)) (λitv s2=>zA X pins σ tg R itv s2) X.xe s1:=by
  intro H2 ob I2 e0 q2;obtain⟨e1,z,y,vs,r,o',es,ep,e2,c1,c2,c3,c4,c5⟩:=(show br X.prog X.w H2 s1.heap a (.bC ob (.dK kvs))from I2.hok a _ e0)
  rw[e1]at e2;cases e2;refine wpAny_pyIter_dict (knd:=iC X.prog X.w) y ⟨ob,es,e1,c1,c2,c3,c4,c5⟩ ?_;have hlen:=r.length;refine⟨s1.heap.objs.size,[s1.heap.objs.size],_,_,H2,rfl,I2.kept (t':=s1.toks) λb o e=>di _ e,Sz (kvs:=kvs) c2 (gE (dz e1)),⟨_,iT _ rfl,rfl,by rw[hlen];rfl⟩,λb hb=>?_,q2⟩;have e:b=s1.heap.objs.size:=by simpa using hb
  subst e;exact I2.j8 (bf _) (I2.hok.fresh (bf _))
 rcases q with⟨ob,e0,q⟩|⟨e0,q⟩;exact key H1 ob I1 e0 q;obtain⟨ob,I2⟩:=I1.freeze e0;exact key _ ob I2 fJ (q ob)
theorem aN.key{K:aK}{m:Nat->ah}{n:Nat}{H:Hp}:∀{vs:List (Key×V)} {ws:List (Key×W)} (i:Nat),aN K m n H vs ws->(vs[i]?).map (·.1)=(ws[i]?).map (·.1)|_,_,_,.nil=>rfl|_,_,0,.cons _ _=>rfl|_,_,i+1,.cons _ r=>by simpa using aN.key i r
theorem Ud{K:aK}{m:Nat->ah}{n:Nat}{H:Hp}(k:Key):aL K m n H (kV k) (vJ k):=by cases k;exact .int _;exact .str _
theorem Mv{K:aK}{a:ah}{l:Nat}{ob:Obj}{kv:List (Key×V)}:jf K (aY .keys (.ref l)) (AB a ob kv) (λm n H=>l<n/\a=m l/\H a=aB (.bC ob (.dK kv))):=by
 refine⟨λm n H m' n' H' hn hm kt kf ⟨q1,q2,q3⟩=>⟨dF q1 hn,by rw[hm l q1];exact q2,kf _ _ _ q3⟩,λm h H r ⟨q1,q2,q3⟩ i=>?_⟩;subst q2;cases g:h.get l with
 |none=>exact⟨λw e=>by simp[aY,g]at e,λe=>by simp[aY,g]at e⟩
 |some o=>
  cases o with
  |lst _=>exact⟨λw e=>by simp[aY,g]at e,λe=>by simp[aY,g]at e⟩
  |dm _=>exact⟨λw e=>by simp[aY,g]at e,λe=>by simp[aY,g]at e⟩
  |dk ws=>
   obtain⟨vs,p1,p2⟩:=r.dk g;have hv:vs=kv:=by rcases p1 with p1|⟨o,p1⟩;rw[q3]at p1;cases p1;rw[q3]at p1;cases p1;rfl
   subst hv;have hk:=p2.key i;refine⟨λw e=>?_,λe=>?_⟩;simp only[aY,g]at e;cases z:ws[i]? with
   |none=>
    rw[z]at e;simp only at e;split at e<;>cases e
   |some p=>
    rw[z]at e hk;simp only[jq,Option.some.injEq]at e hk;subst e;cases z2:vs[i]? with
    |none=>rw[z2]at hk;cases hk
    |some q=>
     rw[z2]at hk;simp only[jq,Option.some.injEq]at hk;refine⟨⟨q3,(iB.mp z2).1⟩,λy H3 ⟨e3,k3,v3,e4,e5⟩=>?_⟩;subst e3 e5;rw[z2]at e4;cases e4;rw[<-hk];exact⟨.refl,r,Ud _⟩
   simp only[aY,g]at e;cases z:ws[i]? with
   |some p=>rw[z]at e;cases e
   |none=>
    rw[z]at e;simp only at e;split at e;rename_i hb;exact⟨q3,by rw[p2.length];exact yT hb⟩;cases e
theorem Rel.frozen{K:aK}{m:Nat->ah}{h:VH}{H:Hp}(r:Rel K m h H){i:Nat}{o:VO}{u u0:HO}(hi:h.get i=aB o)(h0:H (m i)=aB u0)(hn:∀t,u0≠.tup t)(hf:∀o t,u0≠.bC o t)
 (ho:bY m h.n H m h.n (upd H (m i) u)->fM K m h.n (upd H (m i) u) (m i) o) :
 bY m h.n H m h.n (upd H (m i) u)/\Rel K m h (upd H (m i) u):=by
 have st:bY m h.n H m h.n (upd H (m i) u):=by refine⟨bf _,λ_ _=>rfl,λj a b=>absurd b (jG.mpr a),λj k a b=>absurd b (jG.mpr a),λb vs q=>?_,λb o t q=>?_,λb o nb q=>?_⟩;rw[bZ (cD q h0 (λz=>hn vs z.symm))];exact q;rw[bZ (cD q h0 (λz=>hf o t z.symm))];exact q;rw[bZ (nb i (cA hi)).symm];exact q
 refine⟨st,⟨λj hj=>?_,r.inj,r.len⟩⟩;by_cases e:j=i;subst e;exact⟨o,hi,ho st⟩;obtain⟨o',h1,h2⟩:=r.obj j hj;exact⟨o',h1,fM.stp st (bZ λz=>e (r.inj j i hj (cA hi) z)) h2⟩
theorem Ue{tg:ao}(ha:SE X e fa):PI X tg e (cy X.K .keys fa):=λpins s σ H R I z9=>z9.el λρ h m x h' f r ee o en k=>by
 have hs:∃l kvs,x=.ref l/\h'.get l=aB (.dk kvs):=by simp only[aY]at en;split at en;rename_i l;split at en;exact⟨_,_,rfl,by assumption⟩;cases en;cases en
 obtain⟨l,kvs,rfl,g⟩:=hs;refine Uc ha pins s σ H R I (.mk f r ee λv H' m' s' r' q=>?_);cases q with
 |ref hi=>
  obtain⟨vs,p1,p2⟩:=r'.dk g;refine⟨m' l,vs,rfl,?_⟩;rcases p1 with p1|⟨ob,p1⟩;refine .inr ⟨p1,λob=>?_⟩;obtain⟨st,r2⟩:=r'.frozen (u:=.bC ob (.dK vs)) g p1 (λ_ z=>nomatch z) (λ_ _ z=>nomatch z) λst=>⟨vs,.inr ⟨ob,fJ⟩,p2.stp st⟩
  exact k _ _ _ m' (s'.trans st) r2 Mv ⟨hi,rfl,fJ⟩;exact .inl ⟨ob,p1,k _ _ H' m' s' r' Mv ⟨hi,rfl,p1⟩⟩
theorem Ug{elts:List ao}{kx:Nat}{tp:Pos}{l:ao}{ta:TA}(hg:Gl X "enumerate")(hm:X.mg "enumerate" = aC)(hv:bootBuiltins "enumerate" = aB (.type "enumerate"))(ha:PA X [l] ta)(hs:starEach [l] X.env=[(false,eval l X.env)]) :
 PI X (.Tuple elts kx tp) (.Call (.Name "enumerate" p) [l] [] pos) (λσ H R=>ta σ H λvs H1=>∃a,vs=[.ref a]/\(∃xs,cN X.K H1 a xs)/\R (vC X.K a) H1):=by
 intro pins s σ H R I h;refine Call_ (u9 I hg hm hv (yV (bg (ha pos pins s σ H _ I h) λus s1 ⟨vs,H1,I1,r1,q1⟩=>?_) hs rfl));obtain⟨a,e,⟨xs,hq⟩,q⟩:=q1;subst e;obtain⟨u,rfl,ru⟩:=vals1 r1;cases ru;obtain⟨its,rv,pl,hz⟩:=I1.tuple hq;have pl:s1.heap.IsTuple a its.toArray:=pl;have hlt:a<s1.heap.objs.size:=by obtain⟨o,q,_⟩:=pl;exact dz q
 refine RD pl λh' he hit hsz kk=>wpAny_pyIter_enum he ?_;have hf:∀b,s1.heap.objs.size<=b->eE X pins H1 b:=λb hb=>I1.j8 hb (I1.hok.fresh hb);refine⟨s1.heap.objs.size+1,[s1.heap.objs.size+1,s1.heap.objs.size],_,_,H1,rfl,I1.kept (t':=s1.toks) kk,RE a _ _ (sW (fU _)) (gE (xB hlt)) (gE hlt),⟨⟨_,he⟩,hit⟩,λb hb=>hf b ?_,q⟩;rcases fT.mp hb with rfl|hb
 exact qt _;have e':b=s1.heap.objs.size:=by simpa using hb
 rw[e'];exact bf _
theorem Mw{ws:List W}{h:VH}{i:Nat}{o:Option W}(q:aY .lX (.tup ws) i h=aB o):o=(ws[i]?).map λw=>.tup [.int i,w]:=by cases q;rfl
theorem Uh{K:aK}{a:ah}{vs:List V}{ws:List W}:jf K (aY .lX (.tup ws)) (vC K a) (λm n H=>cN K H a vs/\aF K m n H vs ws):=by
 refine⟨λm n H m' n' H' hn hm kt kf ⟨q1,q2⟩=>⟨G5 kt kf q1,q2.mono hn hm kt kf⟩,λm h H r ⟨q1,q2⟩ i=>⟨λw e=>?_,λe=>?_⟩⟩;have e:=Mw (ws:=ws) e;cases z:ws[i]? with
 |none=>rw[z]at e;cases e
 |some w0=>
  rw[z]at e;cases e;obtain⟨v,h1,h2⟩:=q2.get z;refine⟨⟨vs,v,q1,h1⟩,λy H3 ⟨T,v3,e1,e2,e3,y3⟩=>?_⟩;subst e1 e3;have:=y3 vs q1;rw[h1]at this;cases this;obtain⟨st,r'⟩:=r.more (u:=.tup [.int i,v]) e2;exact⟨st,r',.tup (cN.of fJ) (.cons (.int _) (.cons (h2.stp st) .nil))⟩
 have e:=Mw (ws:=ws) e;cases z:ws[i]? with|some w0=>rw[z]at e;cases e|none=>exact⟨vs,q1,by rw[q2.length];exact pH.mp z⟩
theorem Ui:bootBuiltins "enumerate" = aB (.type "enumerate"):=by decide +kernel
theorem Uj(ha:SE X e fa)(hs:gY e):PA X [e] (λσ H Q=>eG X.K fa σ H λv H1=>Q [v] H1):=λp pins s σ H Q I q=>by
 refine xS ha zR (fS hs) p pins s σ H Q I ?_;refine q.el λρ h m w h' f r ee k=>?_;exact(.mk f r ee λv H' m' s' r' q'=>k v H' m' s' r' q')
theorem Uk{elts:List ao}{kx:Nat}{tp:Pos}(ha:SE X e fa)(hs0:gY e)(hg:Gl X "enumerate")(hm:X.mg "enumerate" = aC):PI X (.Tuple elts kx tp) (.Call (.Name "enumerate" p) [e] [] pos) (cy X.K .lX fa):=λpins s σ H R I z9=>z9.el λρ h m x h' f r ee o en k=>by
 cases x with
 |tup ws=>exact Ug hg hm Ui (Uj ha hs0) (fS hs0) pins s σ H R I ⟨ρ,h,m,_,h',f,r,ee,λv H' m' s' r' q=>by
  cases q with|tup sq rs=>exact⟨_,rfl,⟨_,sq⟩,k _ _ H' m' s' r' Uh ⟨sq,rs⟩⟩⟩
 |_=>cases en
theorem Ul{elts:List ao}{kx:Nat}{tp:Pos}{l l2:ao}{ta:TA}(hg:Gl X "zip")(hm:X.mg "zip" = aC)(ha:PA X [l,l2] ta)(hs:starEach [l,l2] X.env=[(false,eval l X.env),(false,eval l2 X.env)])(hs2:starEach [l2] X.env=[(false,eval l2 X.env)]) :
 PI X (.Tuple elts kx tp) (.Call (.Name "zip" p) [l,l2] [] pos) (λσ H R=>ta σ H λvs H1=>∃b c a1 a2,vs=[.ref a1,.ref a2]/\(∃xs,mU b X.K H1 a1 xs)/\(∃ys,mU c X.K H1 a2 ys)/\R (vE X.K b c a1 a2) H1):=by
 intro pins s σ H R I h;refine Call_ (u9 I hg hm PyProof.Rows.boot_zip (yV (bg (ha pos pins s σ H _ I h) λus s1 ⟨vs,H1,I1,r1,q1⟩=>?_) (by rw[hs,hs2]) (by rw[hs2];rfl)));obtain⟨b,c,a1,a2,e,⟨xs,hq⟩,⟨ys,hr⟩,q⟩:=q1;subst e;cases r1 with
 |cons r rr=>
  cases rr with
  |cons r' rr=>
   cases rr;cases r;cases r';obtain⟨its,_,pl,_⟩:=xV I1 hq;obtain⟨LR,_,Mx,_⟩:=xV I1 hr;refine Ss pl Mx λh' e1 e2 e3 e4 e5 hsz kk=>wpAny_pyIter_zip e1 ?_;have hf:∀b,s1.heap.objs.size<=b->eE X pins H1 b:=λb hb=>I1.j8 hb (I1.hok.fresh hb);refine⟨s1.heap.objs.size+4,_,_,_,H1,rfl,I1.kept (t':=s1.toks) kk,Su a1 a2 _ _ _ _ _ (Se pl.lt Mx.lt),⟨e1,e2,⟨_,_,e3⟩,e4,e5⟩,λb hb=>hf b ?_,q⟩;simp only[fT,CY,or_false]at hb;rcases hb with rfl|rfl|rfl|rfl|rfl
   exact C3 _ _;exact C3 _ _;exact C3 _ _;exact bf _;exact C3 _ _
noncomputable def Src(K:aK)(b:Bool)(a:ah)(u:W)(P:(Nat->ah)->Nat->Hp->Prop):Prop:=
 (∀m n H m' n' H',n<=n'->(∀i,i<n->m' i=m i)->(∀b vs,H b=aB (.tup vs)->H' b=aB (.tup vs))->(∀b o u,H b=aB (.bC o u)->H' b=aB (.bC o u))->P m n H->P m' n' H')/\
 ∀m h H ws,Rel K m h H->P m h.n H->aV h u=aB ws->∃vs,mU b K H a vs/\aF K m h.n H vs ws
theorem My{K:aK}{m:Nat->ah}{h:VH}{H:Hp}{v:V}{u:W}{ws:List W}(r:Rel K m h H)(q:aL K m h.n H v u)(e:aV h u=aB ws):∃b a P,v=.ref a/\Src K b a u P/\P m h.n H/\∃xs,mU b K H a xs:=by
 cases q with
 |aR=>cases e
 |bl b=>cases e
 |int b=>cases e
 |str b=>cases e
 |tup sq rs=>exact⟨true,_,λm n H=>cN K H _ _/\aF K m n H _ _,rfl,⟨λm n H m' n' H' hn hm kt kf ⟨q1,q2⟩=>⟨G5 kt kf q1,q2.mono hn hm kt kf⟩,λm h H ws _ ⟨q1,q2⟩ z=>by cases z;exact⟨_,q1,q2⟩⟩,⟨sq,rs⟩,_,sq⟩
 |fz sq rs=>exact⟨false,_,λm n H=>Fz K H _ _/\aF K m n H _ _,rfl,⟨λm n H m' n' H' hn hm kt kf ⟨q1,q2⟩=>⟨Mr kf q1,q2.mono hn hm kt kf⟩,λm h H ws _ ⟨q1,q2⟩ z=>by cases z;exact⟨_,q1.sq,q2⟩⟩,⟨sq,rs⟩,_,sq.sq⟩
 |ref hi=>
  rename_i l;have key:∀m (h:VH) H ws,Rel K m h H->aV h (.ref l)=aB ws->∃vs,H (m l)=aB (.lst vs)/\aF K m h.n H vs ws:=λm h H ws r z=>by
   cases g:h.get l with
   |none=>simp[aV,g]at z
   |some o=>
    cases o with
    |dk _=>simp[aV,g]at z
    |dm _=>simp[aV,g]at z
    |lst Mu=>
     have:Mu=ws:=by simpa[aV,g]using z
     subst this;exact r.lst g
  obtain⟨vs,p1,_⟩:=key m h H ws r e;refine⟨false,_,λm' n _=>l<n/\m l=m' l,rfl,⟨λm1 n H m' n' H' hn hm kt kf ⟨q1,q2⟩=>⟨dF q1 hn,by rw[hm l q1];exact q2⟩,λm1 h H ws r' ⟨q1,q2⟩ z=>?_⟩,⟨hi,rfl⟩,vs,dh.of p1⟩;obtain⟨vs,g1,g2⟩:=key m1 h H ws r' z;rw[q2];exact⟨vs,dh.of g1,g2⟩
theorem G7{u v:W}{h:VH}{i:Nat}{o:Option W}(q:aY .zip (.tup [u,v]) i h=aB o):∃ws zs,aV h u=aB ws/\aV h v=aB zs/\o=(match ws[i]?,zs[i]? with|some a,aB b=>aB (.tup [a,b])|_,_=>aC):=by simp only[aY]at q;split at q;rename_i ws zs h1 h2;cases q;exact⟨ws,zs,h1,h2,rfl⟩;cases q
theorem Um{K:aK}{b c:Bool}{a1 a2:ah}{u v:W}{P1 P2:(Nat->ah)->Nat->Hp->Prop}(s1:Src K b a1 u P1)(s2:Src K c a2 v P2):jf K (aY .zip (.tup [u,v])) (vE K b c a1 a2) (λm n H=>P1 m n H/\P2 m n H):=by
 refine⟨λm n H m' n' H' hn hm kt kf ⟨q1,q2⟩=>⟨s1.1 m n H m' n' H' hn hm kt kf q1,s2.1 m n H m' n' H' hn hm kt kf q2⟩,λm h H r ⟨q1,q2⟩ i=>⟨λw e=>?_,λe=>?_⟩⟩;obtain⟨ws,zs,e1,e2,e3⟩:=G7 e;obtain⟨xs,g1,g2⟩:=s1.2 m h H ws r q1 e1;obtain⟨ys,g3,g4⟩:=s2.2 m h H zs r q2 e2;cases z1:ws[i]? with
 |none=>rw[z1]at e3;cases e3
 |some w1=>
  cases z2:zs[i]? with
  |none=>rw[z1,z2]at e3;cases e3
  |some w2=>
   rw[z1,z2]at e3;cases e3;obtain⟨v1,k1,k2⟩:=g2.get z1;obtain⟨v2,k3,k4⟩:=g4.get z2;refine⟨⟨xs,ys,v1,v2,g1,g3,k1,k3⟩,λy H3 ⟨T,x3,y3,f1,f2,f3,f4,f5⟩=>?_⟩;subst f1 f3;have t1:=f4 xs g1;have t2:=f5 ys g3;rw[k1]at t1;cases t1;rw[k3]at t2;cases t2;obtain⟨st,r'⟩:=r.more (u:=.tup [v1,v2]) f2;exact⟨st,r',.tup (cN.of fJ) (.cons (k2.stp st) (.cons (k4.stp st) .nil))⟩
 obtain⟨ws,zs,e1,e2,e3⟩:=G7 e;obtain⟨xs,g1,g2⟩:=s1.2 m h H ws r q1 e1;obtain⟨ys,g3,g4⟩:=s2.2 m h H zs r q2 e2;refine⟨xs,ys,g1,g3,?_⟩;cases z1:ws[i]? with
 |none=>exact .inl (by rw[g2.length];exact pH.mp z1)
 |some w1=>
  cases z2:zs[i]? with|none=>exact .inr (by rw[g4.length];exact pH.mp z2)|some w2=>rw[z1,z2]at e3;cases e3
theorem Uo{elts:List ao}{kx:Nat}{tp:Pos}(ha:SA X [a,b] fa)(hs:gY a)(hs2:gY b)(hg:Gl X "zip")(hm:X.mg "zip" = aC):PI X (.Tuple elts kx tp) (.Call (.Name "zip" p) [a,b] [] pos) (cy X.K .zip fa):=λpins s σ H R I z9=>z9.el λρ h m x h' f r ee o en k=>by
 have hx:∃u v,x=.tup [u,v]:=by simp only[aY]at en;split at en;exact⟨_,_,rfl⟩;cases en
 obtain⟨u,v,rfl⟩:=hx;obtain⟨ws,zs,e1,e2,_⟩:=G7 en;refine Ul hg hm ha (by rw[fS hs,fS hs2];rfl) (fS hs2) pins s σ H R I (.mk f r ee λvs H' m' s' r' q=>?_);obtain⟨v1,v2,rfl,q1,q2⟩:=kD q;obtain⟨b1,a1,P1,rfl,o1,p1,x1⟩:=My r' q1 e1;obtain⟨b2,a2,P2,rfl,o2,p2,x2⟩:=My r' q2 e2;exact⟨b1,b2,a1,a2,rfl,x1,x2,k _ _ H' m' s' r' (Um o1 o2) ⟨p1,p2⟩⟩
end
section
variable{X:Cx}{a b c e o:ao}{es:List ao}{fa fb fc fo fr:FE}{pos p:Pos}{x:Str}
noncomputable def cK(K:aK)(t:Tg):TG:=λv σ H Q=>∃ρ h m w ρ',Fr K m h.n H σ ρ/\Rel K m h H/\aL K m h.n H v w/\bH t w h ρ=aB ρ'/\∀σ',Fr K m h.n H σ' ρ'->Q σ' H
theorem cK.el{K:aK}{v:V}{σ:L2.St}{H:Hp}{P:Prop}{tg:Tg}{Q}(q:cK K tg v σ H Q)(k:∀ρ h m w ρ',Fr K m h.n H σ ρ->Rel K m h H->aL K m h.n H v w->bH tg w h ρ=aB ρ'->(∀σ',Fr K m h.n H σ' ρ'->Q σ' H)->P):P:=by obtain⟨ρ,h,m,w,h',f,r,e,eo,k'⟩:=q;exact k ρ h m w h' f r e eo k'
theorem cK.mk{K:aK}{v:V}{σ:L2.St}{H:Hp}{m:Nat->ah}{ρ ρ':En}{h:VH}{w:W}{tg:Tg}{Q}(f:Fr K m h.n H σ ρ)(r:Rel K m h H)(e:aL K m h.n H v w)(eo:bH tg w h ρ=aB ρ')(k:∀σ',Fr K m h.n H σ' ρ'->Q σ' H):cK K tg v σ H Q:=⟨ρ,h,m,w,ρ',f,r,e,eo,k⟩
theorem Mz{i:Nat}(hN:X.N.Nodup)(hi:X.N[i]?=aB x)(hx:Loc X.env.scope x)(hf:X.fn x=true\/X.env.scope.names.lookup x=aB .local):PG X (.Name x pos) (cK X.K (.one i)):=λpins s σ H v u Q I ru z9=>z9.el λρ h m w ρ' f r q e k=>by
 cases e;exact KI hN hi hx hf pins s σ H v u Q I ru (k _ (f.set q i))
noncomputable def lA(X:Cx)(e:ao)(i:Nat):Prop:=∃x p,e=.Name x p/\X.N[i]?=aB x/\Loc X.env.scope x/\(X.fn x=true\/X.env.scope.names.lookup x=aB .local)
noncomputable def A4(K:aK)(is:List Nat):qz:=λvs σ H Q=>∃ρ m n ws ρ',Fr K m n H σ ρ/\aF K m n H vs ws/\rq is ws ρ=aB ρ'/\∀σ',Fr K m n H σ' ρ'->Q σ' H
theorem MA(hN:X.N.Nodup):∀{es:List ao} {is:List Nat},Paired (lA X) es is->xQ X es (A4 X.K is)/\(assignEach es X.env).length=es.length/\(assignEach es X.env).findIdx? (·.1)=aC
 |_,_,.nil=>by
  refine⟨λpins s σ H vs us Q I ru ⟨ρ,m,n,ws,ρ',f,q,e,k⟩=>?_,rfl,rfl⟩;cases ws with|nil=>cases e;cases q;exact KJ pins s σ H [] us Q I ru ⟨rfl,k _ f⟩|cons _ _=>cases e
 |e::es,i::is,.cons ⟨x,p,he,hi,hx,hf⟩ t=>by
  subst he;obtain⟨h1,h2,h3⟩:=MA hN t;refine⟨λpins s σ H vs us Q I ru ⟨ρ,m,n,ws,ρ',f,q,e,k⟩=>?_,?_,?_⟩;cases q with
  |nil=>cases e
  |cons q qs=>
   exact FA (KI hN hi hx hf) h1 rfl pins s σ H _ us Q I ru ⟨_,_,rfl,ρ.set i (aB _),m,n,_,ρ',f.set q i,qs,e,k⟩
  show(assignEach es X.env).length+1=es.length+1;rw[h2];show List.findIdx? _ ((false,_)::assignEach es X.env)=aC;rw[List.findIdx?_cons,h3];rfl
theorem MB:∀{is:List Nat} {ws:List W} {ρ ρ':En},rq is ws ρ=aB ρ'->ws.length=is.length
 |[],[],_,_,_=>rfl
 |[],_::_,_,_,e=>by cases e
 |_::_,[],_,_,e=>by cases e
 |_::_,_::_,_,_,e=>by
  rw[dg,dg,MB (by simpa only[rq]using e)]
theorem Up{t:qz}{n k:Nat}(hc:X.calm)(h:xQ X es t)(hn:(assignEach es X.env).length=n)(hst:(assignEach es X.env).findIdx? (·.1)=aC) :
 PG X (.Tuple es k pos) (λv σ H Q=>∃a xs,v=.ref a/\dh X.K H a xs/\xs.length=n/\t xs σ H Q):=by
 intro pins s σ H v u Q I r hw;obtain⟨a,xs,rfl,hq,hl,hw⟩:=hw;cases r;obtain⟨its,rv,ht,hz⟩:=I.list hq;rw[assign_Tuple];refine aS (mE ?_);unfold unpack;have hsz:(assignEach es X.env).length=its.toArray.size:=by rw[hn,<-hl,rv.length,dU]
 rw[hst,hsz];refine aS (pF (PySem.W.kun_itemsOf (I.ok.hd hc) ht.isList λh' hx=>?_));have I1:Inv X pins σ H {s with heap:=h'}:=I.kept (t':=s.toks) λb o e=>hx b o (gE (dz e)) e;exact h pins _ σ H xs _ Q I1 (by simpa using rv) hw
theorem G8{is:List Nat}{k:Nat}(hc:X.calm)(hN:X.N.Nodup)(hs:Paired (lA X) es is):PG X (.Tuple es k pos) (cK X.K (.many is)):=λpins s σ H v u Q I ru z9=>z9.el λρ h m w ρ' f r q e k=>by
 obtain⟨h1,h2,h3⟩:=MA hN hs;simp only[bH]at e;cases z:aV h w with
 |none=>rw[z]at e;cases e
 |some ws=>
  rw[z]at e;have e:rq is ws ρ=aB ρ':=e;obtain⟨p,vs,rfl,hq,qs⟩:=yd r q z;have hl:vs.length=es.length:=by rw[qs.length,MB e,hs.length]
  rcases hq with hq|hq;exact Up hc h1 h2 h3 pins s σ H _ u Q I ru ⟨p,vs,rfl,hq,hl,ρ,m,h.n,ws,ρ',f,qs,e,k⟩;exact KL hc h1 h2 h3 pins s σ H _ u Q I ru ⟨p,vs,rfl,hq,hl,ρ,m,h.n,ws,ρ',f,qs,e,k⟩
theorem Uq{is:List Nat}{j k k':Nat}{p':Pos}{en:ao}(hc:X.calm)(hN:X.N.Nodup)(hs:Paired (lA X) es is)(hj:lA X en j):PG X (.Tuple [en,.Tuple es k' p'] k pos) (cK X.K (.AD j is)):=λpins s σ H v u Q I ru z9=>z9.el λρ h m w ρ' f r q e kk=>by
 obtain⟨x,px,rfl,g1,g2,g3⟩:=hj;simp only[bH]at e;split at e;rename_i wa wb;cases z:aV h wb with
 |none=>rw[z]at e;cases e
 |some ws=>
  rw[z]at e;cases q with
  |tup s1 s2=>
   obtain⟨va,vb,rfl,q1,q2⟩:=kD s2;refine KL hc (FA (Mz hN g1 g2 g3) (FA (G8 hc hN hs) KJ)) rfl rfl pins s σ H _ u Q I ru ⟨_,_,rfl,s1,rfl,va,[vb],rfl,?_⟩;refine .mk f r q1 rfl λσ1 f1=>?_;refine⟨vb,[],rfl,.mk f1 r q2 (show bH (.many is) wb h _=aB ρ' by simp only[bH,z];exact e) λσ2 f2=>?_⟩;exact⟨rfl,kk σ2 f2⟩
 cases e
theorem G9{K:aK}{m:Nat->ah}{n:Nat}{H:Hp}{σ:L2.St}{ρ:En}{ow fr:List Str}{ix:List Nat}(f:Fr K m n H σ ρ):Fr K m n H (ju ow fr ix σ) (inner ow.length ix ρ):=by
 unfold ju inner;refine⟨by simp,λi w e=>?_⟩;by_cases hi:i<ow.length;rw[pG (by simpa using hi)]at e;rw[CP]at e;split at e<;>cases e;rw[lH (by simpa using jG.mp hi)]at e;rw[lH (by simpa using jG.mp hi)];simp only[qo,bD]at e ⊢;rw[dO]at e ⊢;cases z:ix[i-ow.length]? with
 |none=>rw[z]at e;cases e
 |some j=>
  rw[z]at e;simp only[jq,Option.some.injEq]at e ⊢;have e3:ρ[j]?=aB (aB w):=by
   cases q:ρ[j]? with|none=>rw[q]at e;cases e|some o=>rw[q]at e;rw[<-e];rfl
  obtain⟨v,h1,h2⟩:=f.val j w e3;exact⟨v,by rw[h1];rfl,h2⟩
theorem Hf{nx:Nat->VH->Option (Option W)}{tg:W->VH->En->Option En}{c e:FE}:∀{f i:Nat} {ρ:En} {h:VH} {acc ys:List W} {h':VH},ig nx tg c e f i ρ h acc=.ok ys h'->acc.length<=ys.length
 |0,_,_,_,_,_,_,q=>by cases q
 |f+1,i,ρ,h,acc,ys,h',q=>by
  simp only[ig]at q;split at q;cases q;cases q;simp;split at q;cases q;refine bI q λb h1 e1 e2=>?_;split at e2;refine bI e2 λy h2 e3 e4=>?_;have:=Hf e4;rw[dg]at this;lia;exact Hf e2;cases e2
theorem Ur{nx:Nat->VH->Option (Option W)}{tg:W->VH->En->Option En}{c e:FE}{f i:Nat}{ρ:En}{h:VH}{acc ys:List W}{h':VH}(q:ig nx tg c e (f+1) i ρ h acc=.ok ys h'):∃o,nx i h=aB o:=by simp only[ig]at q;split at q;cases q;exact⟨_,by assumption⟩;exact⟨_,by assumption⟩
theorem Hg{H:Hp}{a:ah}{o:HO}(h:H a=aB o):upd H a o=H:=by funext b;unfold upd;split;rename_i e;rw[e,h];rfl
noncomputable abbrev Hh(kd:Kd)(fa:FE)(t:Tg)(ow:Nat)(ix:List Nat)(fc fe:FE):FE:=λρ h=>(fa ρ h).bind λx h=>(ig (aY kd x) (bH t) fc fe fuel 0 (inner ow ix ρ) h []).bind λys h=>if Nat.ble ys.length big then .ok (.ref h.n) (h.new (.lst ys))else .no
theorem tT{K:aK}{kd:Kd}{t:Tg}{ow fr:List Str}{ix:List Nat}{fe:FE}{σ:L2.St}{H:Hp}{Q:VK}(q:eG K (Hh kd fa t ow.length ix fc fe) σ H Q):Gi K (ju ow fr ix) (cy K kd fa) (cK K t) (cZ K fc) (eG K fe) σ H Q:=by
 refine q.el λρ h m w h' f r e k=>?_;refine bI e λx h1 e1 e2=>?_;refine bI e2 λys h2 e3 e4=>?_;split at e4
 case isFalse=>cases e4
 rename_i hz;cases e4;have hz:=kY hz;refine(.mk f r e1 ?_ λJ P H1 m1 s1 r1 J1 p1 D hD hK=>?_);exact Ur (f:=999999) e3;obtain⟨je,r0⟩:=r1.more (u:=.lst []) hD;have p0:=J1.1 m1 h1.n H1 m1 h1.n (upd H1 D (.lst [])) (bf _) (λ_ _=>rfl) (λb vs q=>je.tup b vs q) (λb o u q=>je.bC b o u q) p1;refine⟨λi fl σ' H' vs=>∃ρ' h3 m3 acc,ig (aY kd x) (bH t) fc fe fl i ρ' h3 acc=.ok ys h2/\Fr K m3 h3.n H' σ' ρ'/\Rel K m3 h3 H'/\H' D=aB (.lst vs)/\aF K m3 h3.n H' vs acc.reverse/\(∀i,i<h3.n->m3 i≠D)/\bY m1 h1.n H1 m3 h3.n H'/\P m3 h3.n H',
  ⟨fuel,inner ow.length ix ρ,h1,m1,[],e3,G9 ((f.stp s1).stp je),r0,fJ,.nil,r1.out hD,je,p0⟩,?_⟩
 rintro i fl σ' H' vs ⟨ρ',h3,m3,acc,e5,f3,r3,d3,q3,o3,s3,p3⟩;refine⟨d3,?_⟩;cases fl with
 |zero=>cases e5
 |succ fl=>
  simp only[ig]at e5;obtain⟨j1,j2⟩:=J1.2 m3 h3 H' r3 p3 i;split at e5;cases e5;rename_i hn;cases e5;refine .inl ⟨j2 hn,?_⟩;obtain⟨st,r'⟩:=r3.adopt (o:=.lst acc.reverse) (u:=.lst vs) o3 d3 (λ_ z=>nomatch z) (λ_ _ z=>nomatch z) (s1.trans s3) (by
   cases z:H D with
   |none=>rfl
   |some o=>
    have:=s1.keep D o (λi hi z2=>(r1.out hD) i (dF hi s1.le) ((s1.same i hi).trans z2)) z;rw[hD]at this;cases this) λ_ mv=>⟨_,fJ,q3.map mv⟩
  rw[Hg d3]at st r';refine k _ _ _ st r' ?_;have:aL K (λi=>if i=h2.n then D else m3 i) (h2.n+1) H' (.ref ((λi=>if i=h2.n then D else m3 i) h2.n)) (.ref h2.n):=.ref (fU _);simp only[cC]at this;exact this;rename_i w hn;obtain⟨j3,j4⟩:=j1 w hn;refine .inr ⟨j3,λy H4 hy=>?_⟩;obtain⟨s4,r4,q4⟩:=j4 y H4 hy;split at e5;cases e5;rename_i jY ht;refine⟨ρ',h3,m3,w,jY,f3.stp s4,r4,q4,ht,λkh f5=>?_⟩;refine bI e5 λbv h6 e6 e7=>?_;have d4:H4 D=aB (.lst vs):=s4.keep D _ o3 d3;have tU:=s3.trans s4;have p4:=J1.1 m3 h3.n H' m3 h3.n H4 (bf _) (λ_ _=>rfl) (λb vs q=>s4.tup b vs q) (λb o u q=>s4.bC b o u q) p3;cases bv<;>try cases e7
  rename_i bb;refine⟨jY,h3,m3,bb,h6,f5,r4,e6,λH6 m6 s6 r6=>?_⟩;have o6:=s6.out o3 d4;have d6:H6 D=aB (.lst vs):=s6.keep D _ o3 d4;have p6:=J1.1 m3 h3.n H4 m6 h6.n H6 s6.le s6.same (λb vs q=>s6.tup b vs q) (λb o u q=>s6.bC b o u q) p4;cases bb with
  |false=>
   simp only[fG,ez];exact⟨fl,fU _,jY,h6,m6,acc,e7,f5.stp s6,r6,d6,(q3.stp s4).stp s6,o6,tU.trans s6,p6⟩
  |true=>
   simp only[cC];refine bI e7 λy7 h7 e8 e9=>?_;refine⟨jY,h6,m6,y7,h7,f5.stp s6,r6,e8,λv7 H7 m7 s7 r7 q7=>?_⟩;have o7:=s7.out o6 d6;have d7:H7 D=aB (.lst vs):=s7.keep D _ o6 d6;have p7:=J1.1 m6 h6.n H6 m7 h7.n H7 s7.le s7.same (λb vs q=>s7.tup b vs q) (λb o u q=>s7.bC b o u q) p6;have MC:=((q3.stp s4).stp s6).stp s7;have hlen:=Hf e9;rw[dg]at hlen;refine⟨d7,?_,fl,fU _,jY,h7,m7,y7::acc,e9,?_⟩;rw[MC.length,List.length_reverse];have:big=sizeLine:=rfl;lia;obtain⟨A5,r8,mv⟩:=r7.side (u:=.lst (vs++[v7])) d7 (λ_ z=>nomatch z) (λ_ _ z=>nomatch z) o7 ((tU.trans s6).trans s7) hD;have kt:∀b us,H7 b=aB (.tup us)->upd H7 D (.lst (vs++[v7])) b=aB (.tup us):=λb us q=>by rw[bZ (cD q d7 λz=>nomatch z)];exact q
   have kf:∀b o u,H7 b=aB (.bC o u)->upd H7 D (.lst (vs++[v7])) b=aB (.bC o u):=λb o u q=>by rw[bZ (cD q d7 λz=>nomatch z)];exact q
   refine⟨⟨(f5.stp s6).len,λi w e=>let⟨v,h1,h2⟩:=((f5.stp s6).stp s7).val i w e;⟨v,h1,mv h2⟩⟩,r8,fJ,?_,o7,A5,J1.1 m7 h7.n H7 m7 h7.n _ (bf _) (λ_ _=>rfl) kt kf p7⟩;rw[List.reverse_cons];exact(MC.map mv).append (.cons (mv q7) .nil)
theorem DT{nx:Nat->VH->Option (Option W)}{tg:W->VH->En->Option En}{c e:FE}:∀{f i:Nat} {ρ:En} {h:VH} {acc:List W} {p:En×List W} {h':VH},jx nx tg c e f i ρ h acc=.ok p h'->acc.length<=p.2.length
 |0,_,_,_,_,_,_,q=>by cases q
 |f+1,i,ρ,h,acc,ys,h',q=>by
  simp only[jx]at q;split at q;cases q;cases q;exact bf _;split at q;cases q;refine bI q λb h1 e1 e2=>?_;split at e2;refine bI e2 λy h2 e3 e4=>?_;have:=DT e4;rw[dg]at this;lia;exact DT e2;cases e2
theorem Hi{nx:Nat->VH->Option (Option W)}{tg:W->VH->En->Option En}{c:FE}{kP:En->VH->List W->Res (En×List W)}(hi:∀{ρ h acc p h'},kP ρ h acc=.ok p h'->acc.length<=p.2.length):∀{f i:Nat} {ρ:En} {h:VH} {acc ys:List W} {h':VH},kT nx tg c kP f i ρ h acc=.ok ys h'->acc.length<=ys.length
 |0,_,_,_,_,_,_,q=>by cases q
 |f+1,i,ρ,h,acc,ys,h',q=>by
  simp only[kT]at q;split at q;cases q;cases q;simp;split at q;cases q;refine bI q λb h1 e1 e2=>?_;split at e2;refine bI e2 λy h2 e3 e4=>?_;exact iw (hi e3) (Hi hi e4);exact Hi hi e2;cases e2
theorem Us{nx:Nat->VH->Option (Option W)}{tg:W->VH->En->Option En}{c:FE}{kP:En->VH->List W->Res (En×List W)}{f i:Nat}{ρ:En}{h:VH}{acc ys:List W}{h':VH}(q:kT nx tg c kP (f+1) i ρ h acc=.ok ys h'):∃o,nx i h=aB o:=by simp only[kT]at q;split at q;cases q;exact⟨_,by assumption⟩;exact⟨_,by assumption⟩
theorem Ut{nx:Nat->VH->Option (Option W)}{tg:W->VH->En->Option En}{c e:FE}{f i:Nat}{ρ:En}{h:VH}{acc:List W}{p:En×List W}{h':VH}(q:jx nx tg c e (f+1) i ρ h acc=.ok p h'):∃o,nx i h=aB o:=by simp only[jx]at q;split at q;cases q;exact⟨_,by assumption⟩;exact⟨_,by assumption⟩
noncomputable abbrev vN(kd:Kd)(fa:FE)(t:Tg)(ow:Nat)(ix:List Nat)(fc:FE)(iM:Kd)(nK:FE)(t2:Tg)(ng fe:FE):FE:=λρ h=>(fa ρ h).bind λx h=>(kT (aY kd x) (bH t) fc (λρ h acc=>(nK ρ h).bind λy h=>jx (aY iM y) (bH t2) ng fe fuel 0 ρ h acc) fuel 0 (inner ow ix ρ) h []).bind λys h=>if Nat.ble ys.length big then .ok (.ref h.n) (h.new (.lst ys))else .no
theorem MD{K:aK}{kd iM:Kd}{t t2:Tg}{ow fr:List Str}{ix:List Nat}{nK ng fe:FE}{σ:L2.St}{H:Hp}{Q:VK}(q:eG K (vN kd fa t ow.length ix fc iM nK t2 ng fe) σ H Q) :
 DC K (ju ow fr ix) (cy K kd fa) (cK K t) (cZ K fc) (λD=>LW (cy K iM nK) (cK K t2) (cZ K ng) (GR (eG K fe) D)) (.lst []) σ H Q:=by
 refine q.el λρ h m w h' f r e k=>?_;refine bI e λx h1 e1 e2=>?_;refine bI e2 λys h2 e3 e4=>?_;split at e4
 case isFalse=>cases e4
 rename_i hz;cases e4;have hz:=kY hz;have il:∀{ρ h acc p h'},(nK ρ h).bind (λy h=>jx (aY iM y) (bH t2) ng fe fuel 0 ρ h acc)=.ok p h'->acc.length<=p.2.length:=λq=>by
  refine bI q λy h1 e1 e2=>?_;exact DT e2
 refine(.mk f r e1 ?_ λJ P H1 m1 s1 r1 J1 p1 D hD hK=>?_);exact Us (f:=999999) e3;obtain⟨je,r0⟩:=r1.more (u:=.lst []) hD;have p0:=J1.1 m1 h1.n H1 m1 h1.n (upd H1 D (.lst [])) (bf _) (λ_ _=>rfl) (λb vs q=>je.tup b vs q) (λb o u q=>je.bC b o u q) p1;refine⟨λi fl σ' H'=>∃ρ' h3 m3 acc vs,kT (aY kd x) (bH t) fc (λρ h acc=>(nK ρ h).bind λy h=>jx (aY iM y) (bH t2) ng fe fuel 0 ρ h acc) fl i ρ' h3 acc=.ok ys h2/\Fr K m3 h3.n H' σ' ρ'/\Rel K m3 h3 H'/\H' D=aB (.lst vs)/\aF K m3 h3.n H' vs acc.reverse/\(∀i,i<h3.n->m3 i≠D)/\bY m1 h1.n H1 m3 h3.n H'/\P m3 h3.n H',
  ⟨fuel,inner ow.length ix ρ,h1,m1,[],[],e3,G9 ((f.stp s1).stp je),r0,fJ,.nil,r1.out hD,je,p0⟩,?_⟩
 rintro i fl σ' H' ⟨ρ',h3,m3,acc,vs,e5,f3,r3,d3,q3,o3,s3,p3⟩;cases fl with
 |zero=>cases e5
 |succ fl=>
  simp only[kT]at e5;obtain⟨j1,j2⟩:=J1.2 m3 h3 H' r3 p3 i;split at e5;cases e5;rename_i hn;cases e5;refine .inl ⟨j2 hn,?_⟩;obtain⟨st,r'⟩:=r3.adopt (o:=.lst acc.reverse) (u:=.lst vs) o3 d3 (λ_ z=>nomatch z) (λ_ _ z=>nomatch z) (s1.trans s3) (by
   cases z:H D with
   |none=>rfl
   |some o=>
    have:=s1.keep D o (λi hi z2=>(r1.out hD) i (dF hi s1.le) ((s1.same i hi).trans z2)) z;rw[hD]at this;cases this) λ_ mv=>⟨_,fJ,q3.map mv⟩
  rw[Hg d3]at st r';refine k _ _ _ st r' ?_;have:aL K (λi=>if i=h2.n then D else m3 i) (h2.n+1) H' (.ref ((λi=>if i=h2.n then D else m3 i) h2.n)) (.ref h2.n):=.ref (fU _);simp only[cC]at this;exact this;rename_i w hn;obtain⟨j3,j4⟩:=j1 w hn;refine .inr ⟨j3,λy H4 hy=>?_⟩;obtain⟨s4,r4,q4⟩:=j4 y H4 hy;split at e5;cases e5;rename_i jY ht;refine⟨ρ',h3,m3,w,jY,f3.stp s4,r4,q4,ht,λkh f5=>?_⟩;refine bI e5 λbv h6 e6 e7=>?_;have d4:H4 D=aB (.lst vs):=s4.keep D _ o3 d3;have tU:=s3.trans s4;have p4:=J1.1 m3 h3.n H' m3 h3.n H4 (bf _) (λ_ _=>rfl) (λb vs q=>s4.tup b vs q) (λb o u q=>s4.bC b o u q) p3;cases bv<;>try cases e7
  rename_i bb;refine⟨jY,h3,m3,bb,h6,f5,r4,e6,λH6 m6 s6 r6=>?_⟩;have o6:=s6.out o3 d4;have d6:H6 D=aB (.lst vs):=s6.keep D _ o3 d4;have p6:=J1.1 m3 h3.n H4 m6 h6.n H6 s6.le s6.same (λb vs q=>s6.tup b vs q) (λb o u q=>s6.bC b o u q) p4;cases bb with
  |false=>
   simp only[fG,ez];exact⟨fl,fU _,jY,h6,m6,acc,vs,e7,f5.stp s6,r6,d6,(q3.stp s4).stp s6,o6,tU.trans s6,p6⟩
  |true=>
   simp only[cC];obtain⟨⟨ME,rD⟩,h9,e8,e9⟩:=L0 e7;refine bI e8 λy7 h7 vM nJ=>?_;have A6:=Hi il e9;refine⟨jY,h6,m6,y7,h7,f5.stp s6,r6,vM,Ut (f:=999999) nJ,λJ2 P2 H8 m8 s8 r8 A7 p8=>?_⟩;have o8:=s8.out o6 d6;have d8:H8 D=aB (.lst vs):=s8.keep D _ o6 d6;have Uu:=J1.1 m6 h6.n H6 m8 h7.n H8 s8.le s8.same (λb vs q=>s8.tup b vs q) (λb o u q=>s8.bC b o u q) p6;refine⟨λj gl σ' H'=>∃DU ha ma nh va,jx (aY iM y7) (bH t2) ng fe gl j DU ha nh=.ok (ME,rD) h9/\Fr K ma ha.n H' σ' DU/\Rel K ma ha H'/\H' D=aB (.lst va)/\aF K ma ha.n H' va nh.reverse/\(∀i,i<ha.n->ma i≠D)/\bY m1 h1.n H1 ma ha.n H'/\P ma ha.n H'/\P2 ma ha.n H',
    ⟨fuel,jY,h7,m8,acc,vs,nJ,(f5.stp s6).stp s8,r8,d8,((q3.stp s4).stp s6).stp s8,o8,(tU.trans s6).trans s8,Uu,p8⟩,?_⟩
   rintro j gl σa Ha ⟨DU,ha,ma,nh,va,ea,MF,ra,da,qa,oa,sa,pa,pb⟩;cases gl with
   |zero=>cases ea
   |succ gl=>
    simp only[jx]at ea;obtain⟨b1,b2⟩:=A7.2 ma ha Ha ra pb j;split at ea;cases ea;rename_i hn2;cases ea;exact .inl ⟨b2 hn2,fl,fU _,ME,h9,ma,rD,va,e9,MF,ra,da,qa,oa,sa,pa⟩;rename_i w2 hn2;obtain⟨b3,b4⟩:=b1 w2 hn2;refine .inr ⟨b3,λy2 Hb Uv=>?_⟩;obtain⟨sb,rb,qb⟩:=b4 y2 Hb Uv;split at ea;cases ea;rename_i A8 A9;refine⟨DU,ha,ma,w2,A8,MF.stp sb,rb,qb,A9,λσb fb=>?_⟩;refine bI ea λUw hc2 ec ed=>?_;have db:Hb D=aB (.lst va):=sb.keep D _ oa da;have Ux:=J1.1 ma ha.n Ha ma ha.n Hb (bf _) (λ_ _=>rfl) (λb vs q=>sb.tup b vs q) (λb o u q=>sb.bC b o u q) pa;have Uy:=A7.1 ma ha.n Ha ma ha.n Hb (bf _) (λ_ _=>rfl) (λb vs q=>sb.tup b vs q) (λb o u q=>sb.bC b o u q) pb;cases Uw<;>try cases ed
    rename_i MG;refine⟨A8,ha,ma,MG,hc2,fb,rb,ec,λHc mc sc rc=>?_⟩;have oc:=sc.out oa db;have dc:Hc D=aB (.lst va):=sc.keep D _ oa db;have MH:=J1.1 ma ha.n Hb mc hc2.n Hc sc.le sc.same (λb vs q=>sc.tup b vs q) (λb o u q=>sc.bC b o u q) Ux;have MI:=A7.1 ma ha.n Hb mc hc2.n Hc sc.le sc.same (λb vs q=>sc.tup b vs q) (λb o u q=>sc.bC b o u q) Uy;cases MG with
    |false=>
     simp only[fG,ez];exact⟨gl,fU _,A8,hc2,mc,nh,va,ed,fb.stp sc,rc,dc,(qa.stp sb).stp sc,oc,(sa.trans sb).trans sc,MH,MI⟩
    |true=>
     simp only[cC];refine bI ed λyv hd2 ef eg=>?_;refine⟨A8,hc2,mc,yv,hd2,fb.stp sc,rc,ef,λvd Hd md sd rd qd=>?_⟩;have od:=sd.out oc dc;have dd:Hd D=aB (.lst va):=sd.keep D _ oc dc;have pad:=J1.1 mc hc2.n Hc md hd2.n Hd sd.le sd.same (λb vs q=>sd.tup b vs q) (λb o u q=>sd.bC b o u q) MH;have Uz:=A7.1 mc hc2.n Hc md hd2.n Hd sd.le sd.same (λb vs q=>sd.tup b vs q) (λb o u q=>sd.bC b o u q) MI;have MJ:=((qa.stp sb).stp sc).stp sd;have hlen:=DT eg;rw[dg]at hlen;refine⟨va,dd,?_,gl,fU _,A8,hd2,md,yv::nh,va++[vd],eg,?_⟩;rw[MJ.length,List.length_reverse];have:big=sizeLine:=rfl;have hl2:rD.length<=ys.length:=A6;have hl3:nh.length+1<=rD.length:=hlen;lia;obtain⟨A5,r9,mv⟩:=rd.side (u:=.lst (va++[vd])) dd (λ_ z=>nomatch z) (λ_ _ z=>nomatch z) od (((sa.trans sb).trans sc).trans sd) hD;have kt:∀b us,Hd b=aB (.tup us)->upd Hd D (.lst (va++[vd])) b=aB (.tup us):=λb us q=>by rw[bZ (cD q dd λz=>nomatch z)];exact q
     have kf:∀b o u,Hd b=aB (.bC o u)->upd Hd D (.lst (va++[vd])) b=aB (.bC o u):=λb o u q=>by rw[bZ (cD q dd λz=>nomatch z)];exact q
     refine⟨⟨(fb.stp sc).len,λi w e=>let⟨v,h1,h2⟩:=((fb.stp sc).stp sd).val i w e;⟨v,h1,mv h2⟩⟩,r9,fJ,?_,od,A5,J1.1 md hd2.n Hd md hd2.n _ (bf _) (λ_ _=>rfl) kt kf pad,A7.1 md hd2.n Hd md hd2.n _ (bf _) (λ_ _=>rfl) kt kf Uz⟩;rw[List.reverse_cons];exact(MJ.map mv).append (.cons (mv qd) .nil)
theorem UA{nx:Nat->VH->Option (Option W)}{tg:W->VH->En->Option En}{c e v:FE}{f i:Nat}{ρ:En}{h:VH}{acc ys:List (Key×W)}{h':VH}(q:jK nx tg c e v (f+1) i ρ h acc=.ok ys h'):∃o,nx i h=aB o:=by simp only[jK]at q;split at q;cases q;exact⟨_,by assumption⟩;exact⟨_,by assumption⟩
noncomputable abbrev Hj(kd:Kd)(fa:FE)(t:Tg)(ow:Nat)(ix:List Nat)(fc fe fv:FE):FE:=λρ h=>(fa ρ h).bind λx h=>(jK (aY kd x) (bH t) fc fe fv fuel 0 (inner ow ix ρ) h []).bind λkvs h=>.ok (.ref h.n) (h.new (.dm kvs))
theorem tV{K:aK}{kd:Kd}{t:Tg}{ow fr:List Str}{ix:List Nat}{fe fv:FE}{σ:L2.St}{H:Hp}{Q:VK}(q:eG K (Hj kd fa t ow.length ix fc fe fv) σ H Q):DC K (ju ow fr ix) (cy K kd fa) (cK K t) (cZ K fc) (LU (eG K fe) (eG K fv)) (.dK []) σ H Q:=by
 refine q.el λρ h m w h' f r e k=>?_;refine bI e λx h1 e1 e2=>?_;refine bI e2 λys h2 e3 e4=>?_;cases e4;refine(.mk f r e1 ?_ λJ P H1 m1 s1 r1 J1 p1 D hD hK=>?_);exact UA (f:=999999) e3;obtain⟨je,r0⟩:=r1.more (u:=.dK []) hD;have p0:=J1.1 m1 h1.n H1 m1 h1.n (upd H1 D (.dK [])) (bf _) (λ_ _=>rfl) (λb vs q=>je.tup b vs q) (λb o u q=>je.bC b o u q) p1;refine⟨λi fl σ' H'=>∃ρ' h3 m3 acc vs,jK (aY kd x) (bH t) fc fe fv fl i ρ' h3 acc=.ok ys h2/\Fr K m3 h3.n H' σ' ρ'/\Rel K m3 h3 H'/\H' D=aB (.dK vs)/\aN K m3 h3.n H' vs acc/\(∀i,i<h3.n->m3 i≠D)/\bY m1 h1.n H1 m3 h3.n H'/\P m3 h3.n H',
  ⟨fuel,inner ow.length ix ρ,h1,m1,[],[],e3,G9 ((f.stp s1).stp je),r0,fJ,.nil,r1.out hD,je,p0⟩,?_⟩
 rintro i fl σ' H' ⟨ρ',h3,m3,acc,vs,e5,f3,r3,d3,q3,o3,s3,p3⟩;cases fl with
 |zero=>cases e5
 |succ fl=>
  simp only[jK]at e5;obtain⟨j1,j2⟩:=J1.2 m3 h3 H' r3 p3 i;split at e5;cases e5;rename_i hn;cases e5;refine .inl ⟨j2 hn,?_⟩;obtain⟨st,r'⟩:=r3.adopt (o:=.dm ys) (u:=.dK vs) o3 d3 (λ_ z=>nomatch z) (λ_ _ z=>nomatch z) (s1.trans s3) (by
   cases z:H D with
   |none=>rfl
   |some o=>
    have:=s1.keep D o (λi hi z2=>(r1.out hD) i (dF hi s1.le) ((s1.same i hi).trans z2)) z;rw[hD]at this;cases this) λ_ mv=>⟨_,fJ,q3.map mv⟩
  rw[Hg d3]at st r';refine k _ _ _ st r' ?_;have:aL K (λi=>if i=h2.n then D else m3 i) (h2.n+1) H' (.ref ((λi=>if i=h2.n then D else m3 i) h2.n)) (.ref h2.n):=.ref (fU _);simp only[cC]at this;exact this;rename_i w hn;obtain⟨j3,j4⟩:=j1 w hn;refine .inr ⟨j3,λy H4 hy=>?_⟩;obtain⟨s4,r4,q4⟩:=j4 y H4 hy;split at e5;cases e5;rename_i jY ht;refine⟨ρ',h3,m3,w,jY,f3.stp s4,r4,q4,ht,λkh f5=>?_⟩;refine bI e5 λbv h6 e6 e7=>?_;have d4:H4 D=aB (.dK vs):=s4.keep D _ o3 d3;have tU:=s3.trans s4;have p4:=J1.1 m3 h3.n H' m3 h3.n H4 (bf _) (λ_ _=>rfl) (λb vs q=>s4.tup b vs q) (λb o u q=>s4.bC b o u q) p3;cases bv<;>try cases e7
  rename_i bb;refine⟨jY,h3,m3,bb,h6,f5,r4,e6,λH6 m6 s6 r6=>?_⟩;have o6:=s6.out o3 d4;have d6:H6 D=aB (.dK vs):=s6.keep D _ o3 d4;have p6:=J1.1 m3 h3.n H4 m6 h6.n H6 s6.le s6.same (λb vs q=>s6.tup b vs q) (λb o u q=>s6.bC b o u q) p4;cases bb with
  |false=>
   simp only[fG,ez];exact⟨fl,fU _,jY,h6,m6,acc,vs,e7,f5.stp s6,r6,d6,(q3.stp s4).stp s6,o6,tU.trans s6,p6⟩
  |true=>
   simp only[cC];refine bI e7 λy7 h7 e8 e9=>?_;refine bI e9 λy8 h8 vM nJ=>?_;refine⟨jY,h6,m6,y7,h7,f5.stp s6,r6,e8,λv7 H7 m7 s7 r7 q7=>⟨jY,h7,m7,y8,h8,(f5.stp s6).stp s7,r7,vM,λv8 H8 m8 s8 r8 q8=>?_⟩⟩;have o7:=s7.out o6 d6;have d7:H7 D=aB (.dK vs):=s7.keep D _ o6 d6;have o8:=s8.out o7 d7;have d8:H8 D=aB (.dK vs):=s8.keep D _ o7 d7;have vO:=s7.trans s8;have p8:=J1.1 m6 h6.n H6 m8 h8.n H8 vO.le vO.same (λb vs q=>vO.tup b vs q) (λb o u q=>vO.bC b o u q) p6;have MK:=((q3.stp s4).stp s6).stp vO;split at nJ;rename_i kk hk;split at nJ;rename_i hz;refine⟨vs,kk,d8,yf (q7.stp s8) hk,?_,fl,fU _,jY,h8,m8,bA acc kk y8,putK vs kk v8,nJ,?_⟩;rw[MK.length];exact gX.mp hz;obtain⟨A5,r9,mv⟩:=r8.side (u:=.dK (putK vs kk v8)) d8 (λ_ z=>nomatch z) (λ_ _ z=>nomatch z) o8 ((tU.trans s6).trans vO) hD;have kt:∀b us,H8 b=aB (.tup us)->upd H8 D (.dK (putK vs kk v8)) b=aB (.tup us):=λb us q=>by rw[bZ (cD q d8 λz=>nomatch z)];exact q
   have kf:∀b o u,H8 b=aB (.bC o u)->upd H8 D (.dK (putK vs kk v8)) b=aB (.bC o u):=λb o u q=>by rw[bZ (cD q d8 λz=>nomatch z)];exact q
   exact⟨⟨(f5.stp s6).len,λi w e=>let⟨v,h1,h2⟩:=((f5.stp s6).stp vO).val i w e;⟨v,h1,mv h2⟩⟩,r9,fJ,(MK.put q8 kk).map mv,o8,A5,J1.1 m8 h8.n H8 m8 h8.n _ (bf _) (λ_ _=>rfl) kt kf p8⟩;cases nJ;cases nJ
end
noncomputable def fN(h h':VH):Prop:=h.n<=h'.n/\h'.lo<=h.lo/\∀i,i<h.n->i<h'.lo->h'.get i=h.get i
theorem fN.refl{h:VH}:fN h h:=⟨bf _,bf _,λ_ _ _=>rfl⟩
theorem fN.trans{h h1 h2:VH}(a:fN h h1)(b:fN h1 h2):fN h h2:=⟨iw a.1 b.1,iw b.2.1 a.2.1,λi hi hl=>(b.2.2 i (dF hi a.1) hl).trans (a.2.2 i hi (dF hl b.2.1))⟩
theorem fN.new{h:VH}{o:VO}:fN h (h.new o):=⟨qt _,bf _,λi hi _=>iz hi⟩
theorem fN.set{h:VH}{i:Nat}{o:VO}(hi:i<h.n):fN h (h.set i o):=by refine⟨bf _,?_,λj hj hl=>pR hi ?_⟩;show(if Nat.blt i h.lo then i else h.lo)<=h.lo;split;rename_i q;exact sV (gX.mp q);exact bf _;have hl:j< (if Nat.blt i h.lo then i else h.lo):=hl;split at hl;lia;rename_i q;intro z;rw[z]at hl;exact q (gX.mpr hl)
noncomputable def Gr{α:Type}(r:Res α)(h:VH):Prop:=∀a h',r=.ok a h'->fN h h'
section
variable{α β:Type}{h:VH}
theorem Gr.ok{a:α}:Gr (Res.ok a h) h:=λ_ _ e=>by cases e;exact .refl
theorem Gr.no:Gr (Res.no:Res α) h:=λ_ _ e=>by cases e
theorem Gr.of{o:Option α}:Gr (Res.of o h) h:=λ_ _ e=>by cases o with|none=>cases e|some a=>cases e;exact .refl
theorem Gr.new{a:α}{o:VO}:Gr (Res.ok a (h.new o)) h:=λ_ _ e=>by cases e;exact .new
theorem Gr.set{a:α}{o o':VO}{i:Nat}(g:h.get i=aB o'):Gr (Res.ok a (h.set i o)) h:=λ_ _ e=>by cases e;exact .set (cA g)
theorem Gr.bind{r:Res α}{f:α->VH->Res β}(a:Gr r h)(b:∀x h1,Gr (f x h1) h1):Gr (r.bind f) h:=λy h' e=>by
 cases r with|ok x h1=>exact(a x h1 rfl).trans (b x h1 y h' e)|ex _ _=>cases e|no=>cases e
end
theorem Ba{o:Op}{x y:W}{h:VH}:Gr (iV o x y h) h:=by unfold iV;split;exact .of;exact .of;exact .of;split;split;exact .new;exact .no;exact .no;exact .no
theorem Bb{o:Op}{x y:W}{h:VH}:Gr (vG o x y h) h:=by unfold vG;split;split;exact .ok;exact .ok;exact .of;exact .of;exact .no;split;split;rename_i g _ _;exact .set g;exact .no;exact .no;split;split;exact .ok;exact .no;exact .no;exact .no
theorem UB{x:W}{l u:Option Int}{h:VH}:Gr (kB x l u h) h:=by unfold kB;split;exact .ok;split;exact .new;exact .no;exact .no
theorem Bc{b:Bi}{xs:List W}{h:VH}:Gr (lu b xs h) h:=by
 cases b<;>simp only[lu];unfold iH;split<;>first|exact .of|exact .no
 unfold iI;split;split;exact .new;exact .no;exact .no;unfold vH;split<;>first|exact .of|exact .no
 unfold mY;split<;>first|exact .ok|exact .no
 unfold lq;split<;>first|exact .ok|exact .no
 unfold mZ;split;exact .ok;split;split;exact .ok;exact .no;exact .no;exact .no;unfold rj;split<;>first|exact .ok|exact .no
 unfold kC;split;split;exact .of;exact .no;exact .no;unfold tR;split;split;exact .new;exact .no;exact .no;unfold vI;split;exact .new;exact .no;unfold m5;split;split;rename_i g;exact .set g;exact .no;exact .no;unfold m9;split;split;split;exact .new;exact .no;exact .no;exact .no
theorem Be{m:Mt}{o:W}{xs:List W}{h:VH}:Gr (kR m o xs h) h:=by unfold kR;split;unfold om;split;split;exact .no;split;rename_i g _ _ _;exact .set g;exact .no;exact .no;split;split;rename_i g _;exact .set g;exact .no;exact .no;split;exact .ok;exact .ok;exact .no;exact .no
theorem Hl{nx:Nat->VH->Option (Option W)}{tg:W->VH->En->Option En}{c e:En->VH->Res W}(hc:∀ρ h,Gr (c ρ h) h)(he:∀ρ h,Gr (e ρ h) h):∀(f i:Nat) (ρ:En) (h:VH) (acc:List W),Gr (jx nx tg c e f i ρ h acc) h
 |0,_,_,_,_=>.no
 |f+1,i,ρ,h,acc=>by
  simp only[jx];split;exact .no;exact .ok;split;exact .no;refine .bind (hc _ _) λb h1=>?_;split;exact .bind (he _ _) λy h2=>Hl hc he f _ _ _ _;exact Hl hc he f _ _ _ _;exact .no
theorem Ho{nx:Nat->VH->Option (Option W)}{tg:W->VH->En->Option En}{c:En->VH->Res W}{e:En->VH->List W->Res (En×List W)}(hc:∀ρ h,Gr (c ρ h) h)(he:∀ρ h acc,Gr (e ρ h acc) h):∀(f i:Nat) (ρ:En) (h:VH) (acc:List W),Gr (kT nx tg c e f i ρ h acc) h
 |0,_,_,_,_=>.no
 |f+1,i,ρ,h,acc=>by
  simp only[kT];split;exact .no;exact .ok;split;exact .no;refine .bind (hc _ _) λb h1=>?_;split;exact .bind (he _ _ _) λy h2=>Ho hc he f _ _ _ _;exact Ho hc he f _ _ _ _;exact .no
theorem oB{nx:Nat->VH->Option (Option W)}{tg:W->VH->En->Option En}{c e:En->VH->Res W}(hc:∀ρ h,Gr (c ρ h) h)(he:∀ρ h,Gr (e ρ h) h):∀(f i:Nat) (ρ:En) (h:VH) (acc:List W),Gr (ig nx tg c e f i ρ h acc) h
 |0,_,_,_,_=>.no
 |f+1,i,ρ,h,acc=>by
  simp only[ig];split;exact .no;exact .ok;split;exact .no;refine .bind (hc _ _) λb h1=>?_;split;exact .bind (he _ _) λy h2=>oB hc he f _ _ _ _;exact oB hc he f _ _ _ _;exact .no
theorem oE{nx:Nat->VH->Option (Option W)}{tg:W->VH->En->Option En}{c e v:En->VH->Res W}(hc:∀ρ h,Gr (c ρ h) h)(he:∀ρ h,Gr (e ρ h) h)(hv:∀ρ h,Gr (v ρ h) h):∀(f i:Nat) (ρ:En) (h:VH) (acc:List (L2.Key×W)),Gr (jK nx tg c e v f i ρ h acc) h
 |0,_,_,_,_=>.no
 |f+1,i,ρ,h,acc=>by
  simp only[jK];split;exact .no;exact .ok;split;exact .no;refine .bind (hc _ _) λb h1=>?_;split;refine .bind (he _ _) λy h2=>.bind (hv _ _) λz h3=>?_;split;split;exact oE hc he hv f _ _ _ _;exact .no;exact .no;exact oE hc he hv f _ _ _ _;exact .no
theorem Hq{nx:Nat->VH->Option (Option W)}{tg:W->VH->En->Option En}{b:En->VH->Res Fl}(hb:∀ρ h,Gr (b ρ h) h):∀(f i:Nat) (ρ:En) (h:VH),Gr (eF nx tg b f i ρ h) h
 |0,_,_,_=>.no
 |f+1,i,ρ,h=>by
  simp only[eF];split;exact .no;exact .ok;split;exact .no;refine .bind (hb _ _) λfl h1=>?_;split;exact Hq hb f _ _ _;exact Hq hb f _ _ _;exact .ok;exact .ok
theorem Hr{c:En->VH->Res W}{b:En->VH->Res Fl}(hc:∀ρ h,Gr (c ρ h) h)(hb:∀ρ h,Gr (b ρ h) h):∀(f:Nat) (ρ:En) (h:VH),Gr (dD c b f ρ h) h
 |0,_,_=>.no
 |f+1,ρ,h=>by
  simp only[dD];refine .bind (hc _ _) λt h1=>?_;split;exact .ok;refine .bind (hb _ _) λfl h2=>?_;split;exact Hr hc hb f _ _;exact Hr hc hb f _ _;exact .ok;exact .ok;exact .no
section
variable{cl:Call}
theorem Bf(hcl:∀f ws h,Gr (cl f ws h) h):∀(e:E) (ρ:En) (h:VH),Gr (ev cl e ρ h) h:=by
 intro e;induction e with
 |var i=>intro ρ h;exact .of
 |cst w=>intro ρ h;exact .ok
 |nil=>intro ρ h;exact .ok
 |cons a r i1 i2=>intro ρ h;simp only[ev];refine .bind (i1 _ _) λx h1=>.bind (i2 _ _) λy h2=>?_;split<;>first|exact .ok|exact .no
 |tup a i1=>intro ρ h;simp only[ev];refine .bind (i1 _ _) λx h1=>?_;split<;>first|(split<;>first|exact .ok|exact .no)|exact .no
 |lst a i1=>intro ρ h;simp only[ev];refine .bind (i1 _ _) λx h1=>?_;split<;>first|(split<;>first|exact .new|exact .no)|exact .no
 |AE a i1=>
  intro ρ h;simp only[ev];refine .bind (i1 _ _) λx h1=>?_;split;split;split;exact .new;exact .no;exact .no;exact .no
 |op o a b i1 i2=>intro ρ h;simp only[ev];exact .bind (i1 _ _) λx h1=>.bind (i2 _ _) λy h2=>Ba
 |neg a i1=>intro ρ h;simp only[ev];refine .bind (i1 _ _) λx h1=>?_;split<;>first|exact .ok|exact .no
 |cmp c a b i1 i2=>intro ρ h;simp only[ev];exact .bind (i1 _ _) λx h1=>.bind (i2 _ _) λy h2=>.of
 |qY c d a b e i1 i2 i3=>
  intro ρ h;simp only[ev];refine .bind (i1 _ _) λx h1=>.bind (i2 _ _) λy h2=>?_;split;exact .bind (i3 _ _) λz h3=>.of;exact .ok;exact .no
 |not a i1=>intro ρ h;simp only[ev];refine .bind (i1 _ _) λx h1=>?_;split<;>first|exact .ok|exact .no
 |and a b i1 i2=>intro ρ h;simp only[ev];refine .bind (i1 _ _) λx h1=>?_;split<;>first|exact i2 _ _|exact .ok|exact .no
 |or a b i1 i2=>intro ρ h;simp only[ev];refine .bind (i1 _ _) λx h1=>?_;split<;>first|exact i2 _ _|exact .ok|exact .no
 |kQ a i1=>intro ρ h;simp only[ev];exact .bind (i1 _ _) λx h1=>.of
 |ite c a b i1 i2 i3=>
  intro ρ h;simp only[ev];refine .bind (i1 _ _) λx h1=>?_;split;exact i2 _ _;exact i3 _ _;exact .no
 |idx a b i1 i2=>intro ρ h;simp only[ev];exact .bind (i1 _ _) λx h1=>.bind (i2 _ _) λy h2=>.of
 |slc a bl lo bh hi i1 i2 i3=>
  intro ρ h;simp only[ev];refine .bind (i1 _ _) λx h1=>.bind (i2 _ _) λy h2=>.bind (i3 _ _) λz h3=>?_;split;exact UB;exact .no
 |call f a i1=>intro ρ h;simp only[ev];refine .bind (i1 _ _) λx h1=>?_;split<;>first|exact hcl _ _ _|exact .no
 |bi b a i1=>intro ρ h;simp only[ev];refine .bind (i1 _ _) λx h1=>?_;split<;>first|exact Bc|exact .no
 |oj t a i1=>intro ρ h;simp only[ev];exact .bind (i1 _ _) λx h1=>.of
 |mt m o a i1 i2=>
  intro ρ h;simp only[ev];refine .bind (i1 _ _) λx h1=>?_;split;refine .bind (i2 _ _) λy h2=>?_;split<;>first|exact Be|exact .no
  exact .no
 |lc k a t ow ix c e i1 i2 i3=>
  intro ρ h;simp only[ev];refine .bind (i1 _ _) λx h1=>.bind (oB i2 i3 _ _ _ _ _) λys h2=>?_;split;exact .new;exact .no
 |xX k a t ow ix c k2 a2 t2 c2 e i1 i2 i3 i4 i5=>
  intro ρ h;simp only[ev];refine .bind (i1 _ _) λx h1=>.bind (Ho i2 (λρ h acc=>.bind (i3 _ _) λy h2=>Hl i4 i5 _ _ _ _ _) _ _ _ _ _) λys h2=>?_;split;exact .new;exact .no
 |dc k a t ow ix c e v i1 i2 i3 i4=>
  intro ρ h;simp only[ev];exact .bind (i1 _ _) λx h1=>.bind (oE i2 i3 i4 _ _ _ _ _) λys h2=>.new
theorem Hs(hcl:∀f ws h,Gr (cl f ws h) h):∀(s:S) (ρ:En) (h:VH),Gr (exs cl s ρ h) h:=by
 have ge:=Bf hcl;intro s;induction s with
 |skip=>intro ρ h;exact .ok
 |seq a b i1 i2=>intro ρ h;simp only[exs];refine .bind (i1 _ _) λfl h1=>?_;split<;>first|exact i2 _ _|exact .ok
 |set i e=>intro ρ h;simp only[exs];exact .bind (ge _ _ _) λw h1=>.ok
 |vF is e=>intro ρ h;simp only[exs];exact .bind (ge _ _ _) λw h1=>.of
 |aug i o e=>
  intro ρ h;simp only[exs];split;exact .bind (ge _ _ _) λy h1=>.bind Bb λz h2=>.ok;exact .no
 |put o i v=>
  intro ρ h;simp only[exs];refine .bind (ge _ _ _) λw h1=>.bind (ge _ _ _) λx h2=>.bind (ge _ _ _) λy h3=>?_;split;split;split;rename_i g _ _ _;exact .set g;exact .no;unfold oq;split;split;rename_i g _;exact .set g;exact .no;exact .no;exact .no
 |ite c a b i1 i2=>
  intro ρ h;simp only[exs];refine .bind (ge _ _ _) λx h1=>?_;split;exact i1 _ _;exact i2 _ _;exact .no
 |ret e=>intro ρ h;simp only[exs];exact .bind (ge _ _ _) λw h1=>.ok
 |expr e=>intro ρ h;simp only[exs];exact .bind (ge _ _ _) λw h1=>.ok
 |brk=>intro ρ h;exact .ok
 |cnt=>intro ρ h;exact .ok
 | «for» k a t b i1=>intro ρ h;simp only[exs];exact .bind (ge _ _ _) λx h1=>Hq i1 _ _ _ _
 |xY c b i1=>intro ρ h;simp only[exs];exact Hr (ge c) i1 _ _ _
 |no=>intro ρ h;exact .no
end
theorem Ht(F:Nat->Option Fn):∀(k f:Nat) (ws:List W) (h:VH),Gr (run F k f ws h) h
 |0,_,_,_=>.no
 |k+1,f,ws,h=>by
  intro a h' e;simp only[run]at e;split at e;rename_i fn hf;split at e;rename_i hl;generalize hr:exs (run F k) fn.body (ws.map aB++bK (fn.n-fn.ps) aC) ⟨h.n,h.n,h.os⟩=r at e;have g:=Hs (Ht F k) fn.body (ws.map aB++bK (fn.n-fn.ps) aC) ⟨h.n,h.n,h.os⟩;rw[hr]at g;have lv:∀w h1,fN ⟨h.n,h.n,h.os⟩ h1->leave h w h1=.ok a h'->fN h h':=by
   intro w h1 g1 e1;unfold leave at e1;split at e1;cases e1;exact .refl;cases e1;refine⟨g1.1,?_,λi hi hlo=>?_⟩;show(if Nat.ble h.lo h1.lo then h.lo else h1.lo)<=h.lo;split;exact bf _;rename_i q;exact Nat.le_of_not_le λz=>q (qw.mpr z);have hlo:i< (if Nat.ble h.lo h1.lo then h.lo else h1.lo):=hlo;have hh:i<h1.lo:=by split at hlo;rename_i q;exact dF hlo (kY q);exact hlo
   exact g1.2.2 i hi hh
  cases r with
  |no=>cases e
  |ex _ _=>cases e
  |ok fl h1=>
   have g1:=g fl h1 rfl;simp only[Res.bind]at e;split at e;exact lv _ _ g1 e;exact lv _ _ g1 e;cases e
  cases e;cases e
end RF
namespace HT
open PySem PySem.Spec PyProof.Rows
theorem oF{prog:ai}{w:aj}{A:ak}{E:aa->af->Prop}{s:af}{t b:ah}{vs ws:List aa}{Q:aa->af->Prop}(ht:IsTup s.heap t vs.toArray)(hb:IsTup s.heap b ws.toArray)(hv:vs≠[])
 (h1:ws=[]->Q (.ref t) s) (h2:ws≠[]->Q (.ref s.heap.objs.size) {s with heap:=s.heap.push {cls:=.type "tuple",data:=.seq (vs++ws).toArray}})
 (hsz:vs.length+ws.length<=sizeLine):wpAny (model prog w) A (inplaceOp .Add (.ref t) (.ref b)) Q E s:=by
 obtain⟨⟨cls,dd,data,sl⟩,ho,hc,n,hd⟩:=id ht;obtain⟨⟨FW,dd2,data2,sl2⟩,ho2,hc2,n2,hd2⟩:=id hb;simp only at hc hd hc2 hd2;subst hc hd hc2 hd2;have e:vs.toArray++ws.toArray=(vs++ws).toArray:=by simp
 have hno:typeLookup (.type "tuple") (dunderI "add")=pure aC:=by rfl
 by_cases hw:ws=[]
 exact wpAny_inplaceOp_concat ⟨_,ho,rfl⟩ ⟨_,ho2,rfl⟩ hno yL yM (ql za ⟨_,ho,rfl⟩ yZ (yY _ _)
  (tuple_addW1 t b vs.toArray ws.toArray n n2 dd dd2 sl sl2 (by simpa using hv) (by simp[hw])) ⟨ho,ho2,h1 hw⟩)
 refine wpAny_inplaceOp_concat ⟨_,ho,rfl⟩ ⟨_,ho2,rfl⟩ hno yL yM (ql za ⟨_,ho,rfl⟩ yZ (yY _ _)
  (tuple_addW2 t b vs.toArray ws.toArray n n2 dd dd2 sl sl2 (by simpa using hv) (by simpa using hw) (by rw[dU,dU];exact hsz)) ⟨ho,ho2,?_⟩)
 rw[e];exact h2 hw
end HT
namespace L2
open PySem PySem.Spec PyProof.Rows
variable{X:Cx}
theorem UC:xR X .Add (lQ X.K):=by intro pins s σ H x y v u Q I rx ry h;obtain⟨a,b,xs,ys,rfl,rfl,ha,hb,hx,hz,q1,q2⟩:=h;cases rx;cases ry;obtain⟨its,r1,p1,_⟩:=I.tuple ha;obtain⟨its2,r2,p2,_⟩:=I.tuple hb;refine HT.oF p1 p2 (λz=>hx (r1.eW.mp z)) (λz=>⟨.ref a,H,I,rfl,q1 (r2.eW.mp z)⟩) (λz=>?_) (by rw[<-r1.length,<-r2.length];exact hz);refine⟨.ref s.heap.objs.size,_,I.laid (t':=s.toks) (o:=.tup (xs++ys)) (λb ob q=>di _ q) (bf _) ?_,rfl,q2 (λw=>z (r2.eW.mpr w)) _ (I.hok.fresh (bf _))⟩;exact⟨by rw[fE];exact hz,_,r1.append r2,kZ.new _ _⟩
end L2
namespace RF
open PySem PySem.Spec PyProof.Rows L2
noncomputable def vP(K:aK)(m:Nat->ah)(n:Nat)(H:Hp)(D:Ends):Fl->Prop|.nx ρ=>∀σ,Fr K m n H σ ρ->D.nx σ H|.bk ρ=>∀σ,Fr K m n H σ ρ->D.bk σ H|.ct ρ=>∀σ,Fr K m n H σ ρ->D.ct σ H|.rt w=>∀v,aL K m n H v w->D.rt v H
noncomputable def jM(K:aK)(f:FS):TS:=λD σ H=>∃ρ h m fl h',Fr K m h.n H σ ρ/\Rel K m h H/\f ρ h=.ok fl h'/\∀H' m',bY m h.n H m' h'.n H'->Rel K m' h' H'->vP K m' h'.n H' D fl
theorem jM.el{K:aK}{D:Ends}{σ:L2.St}{H:Hp}{P:Prop}{fa:FS}(q:jM K fa D σ H)(k:∀ρ h m fl h',Fr K m h.n H σ ρ->Rel K m h H->fa ρ h=.ok fl h'->(∀H' m',bY m h.n H m' h'.n H'->Rel K m' h' H'->vP K m' h'.n H' D fl)->P):P:=by obtain⟨ρ,h,m,w,h',f,r,e,k'⟩:=q;exact k ρ h m w h' f r e k'
theorem jM.mk{K:aK}{D:Ends}{σ:L2.St}{H:Hp}{m:Nat->ah}{ρ:En}{h h':VH}{fl:Fl}{fa:FS}(f:Fr K m h.n H σ ρ)(r:Rel K m h H)(e:fa ρ h=.ok fl h')(k:∀H' m',bY m h.n H m' h'.n H'->Rel K m' h' H'->vP K m' h'.n H' D fl):jM K fa D σ H:=⟨ρ,h,m,fl,h',f,r,e,k⟩
noncomputable abbrev SS(X:Cx)(st:aq)(f:FS):Prop:=PS X st (jM X.K f)
noncomputable abbrev rE(X:Cx)(st:List aq)(f:FS):Prop:=kN X st (jM X.K f)
section
variable{X:Cx}{a b c e o:ao}{es:List ao}{fa fb fc fo fr:FE}{pos p:Pos}{x:Str}{st:aq}{sts:List aq}{ga gb:FS}
noncomputable abbrev tW:FS:=λρ h=>.ok (.nx ρ) h
noncomputable abbrev Hu(ga gb:FS):FS:=λρ h=>(ga ρ h).bind λfl h=>match fl with|.nx ρ=>gb ρ h|fl=>.ok fl h
theorem UD:rE X [] tW:=PB.imp λD σ H z9=>z9.el λρ h m fl h' f r e k=>by cases e;exact k H m .refl r σ f
theorem UE:SS X (.Pass pos) tW:=PF.imp λD σ H z9=>z9.el λρ h m fl h' f r e k=>by cases e;exact k H m .refl r σ f
theorem UG:SS X (.Break pos) (λρ h=>.ok (.bk ρ) h):=PJ.imp λD σ H z9=>z9.el λρ h m fl h' f r e k=>by cases e;exact k H m .refl r σ f
theorem UH:SS X (.Continue pos) (λρ h=>.ok (.ct ρ) h):=PK.imp λD σ H z9=>z9.el λρ h m fl h' f r e k=>by cases e;exact k H m .refl r σ f
theorem UI(h1:SS X st ga)(h2:rE X sts gb):rE X (st::sts) (Hu ga gb):=(PC h1 h2).imp λD σ H z9=>z9.el λρ h m fl h' f r e k=>by
 refine bI e λUJ h1 e1 e2=>?_;refine(.mk f r e1 λH1 m1 s1 r1=>?_);cases UJ with|nx dX=>exact λσ1 f1=>⟨dX,h1,m1,fl,h',f1,r1,e2,λH' m' s' r'=>k H' m' (s1.trans s') r'⟩|bk dX=>cases e2;exact k H1 m1 s1 r1|ct dX=>cases e2;exact k H1 m1 s1 r1|rt w=>cases e2;exact k H1 m1 s1 r1
theorem Bg:SS X st (λ_ _=>.no):=PV.imp λD σ H z9=>z9.el λρ h m fl h' f r e k=>by cases e
noncomputable def DV:ao->Bool|.ListComp .. |.SetComp .. |.DictComp ..=>false|_=>true
theorem ML{e:ao}{t:Option ao}{l:Nat}{env:Env}(h:DV e):swapsWith e t l env=pure false:=by cases e<;>first|rfl|cases h
theorem UK(he:SE X e fa)(hs:DV e):SS X (.Expr e pos) (λρ h=>(fa ρ h).bind λ_ h=>.ok (.nx ρ) h):=(PL he (ML hs)).imp λD σ H z9=>z9.el λρ h m fl h' f r e k=>by
 refine bI e λw h1 e1 e2=>?_;cases e2;exact(.mk f r e1 λv H1 m1 s1 r1 q1=>k H1 m1 s1 r1 σ (f.stp s1))
theorem UL(he:SE X e fa):SS X (.Return (aB e) pos) (λρ h=>(fa ρ h).bind λw h=>.ok (.rt w) h):=(PN he).imp λD σ H z9=>z9.el λρ h m fl h' f r e k=>by
 refine bI e λw h1 e1 e2=>?_;cases e2;exact(.mk f r e1 λv H1 m1 s1 r1 q1=>k H1 m1 s1 r1 v q1)
theorem UM:SS X (.Return aC pos) (λρ h=>(Res.ok W.aR h).bind λw h=>.ok (.rt w) h):=PR.imp λD σ H z9=>z9.el λρ h m fl h' f r e k=>by
 cases e;exact k H m .refl r .aR .aR
noncomputable abbrev oG(i:Nat)(fa:FE):FS:=λρ h=>(fa ρ h).bind λw h=>.ok (.nx (ρ.set i (aB w))) h
theorem DW{K:aK}{i:Nat}{D:Ends}{σ:L2.St}{H:Hp}(q:jM K (oG i fa) D σ H):eG K fa σ H λv H1=>iF i v σ H1 D.nx:=by refine q.el λρ h m fl h' f r e k=>?_;refine bI e λw h1 e1 e2=>?_;cases e2;exact(.mk f r e1 λv H1 m1 s1 r1 q1=>k H1 m1 s1 r1 _ ((f.stp s1).set q1 i))
theorem Hv{i:Nat}{pos':Pos}(hN:X.N.Nodup)(hi:X.N[i]?=aB x)(hx:Loc X.env.scope x)(hf:X.fn x=true\/X.env.scope.names.lookup x=aB .local)(he:SE X e fa)
 (hs:swapsWith e (aB (.Name x pos')) pos.line X.env=pure false):SS X (.Assign [.Name x pos'] e pos) (oG i fa):=(PY hN hi hx he hs hf).imp λD σ H q=>DW q
theorem UN{i:Nat}{pos' lp:Pos}{ow fr:List Str}{ix:List Nat}{scope:ay}{tg iter elt:ao}{ifs:List ao}{kd:Kd}{t:Tg}{fe:FE}(hN:X.N.Nodup)(hi:X.N[i]?=aB x)(hx:Loc X.env.scope x)(hf:X.fn x=true\/X.env.scope.names.lookup x=aB .local)
 (S:aW X ow fr ix scope) (hc:X.calm) (hI:PI X tg iter (cy X.K kd fa)) (hg:∀C s₀ H₀ ex,PG (X.comp (ow++fr) scope C s₀ H₀ ex) tg (cK X.K t)) (ht:∀C s₀ H₀ ex,iG (X.comp (ow++fr) scope C s₀ H₀ ex) ifs (cZ X.K fc))
 (he:∀C s₀ H₀ ex,PE (X.comp (ow++fr) scope C s₀ H₀ ex) elt (eG X.K fe)) (hsw:swapsWith (.ListComp elt [⟨tg,iter,ifs,0⟩] scope lp) (aB (.Name x pos')) pos.line X.env=pure true) (hs:∀x,foldedSetIterable iter X.env x=pure x) :
 SS X (.Assign [.Name x pos'] (.ListComp elt [⟨tg,iter,ifs,0⟩] scope lp) pos) (oG i (Hh kd fa t ow.length ix fc fe)):=
 (Ry hN hi hx S hc hI hg ht he hsw hf hs).imp λD σ H q=>tT (DW q)
theorem Bh{lp:Pos}{ow fr:List Str}{ix:List Nat}{scope:ay}{tg iter elt:ao}{ifs:List ao}{kd:Kd}{t:Tg}{fe:FE}
 (S:aW X ow fr ix scope) (hc:X.calm) (hI:PI X tg iter (cy X.K kd fa)) (hg:∀C s₀ H₀ ex,PG (X.comp (ow++fr) scope C s₀ H₀ ex) tg (cK X.K t)) (ht:∀C s₀ H₀ ex,iG (X.comp (ow++fr) scope C s₀ H₀ ex) ifs (cZ X.K fc))
 (he:∀C s₀ H₀ ex,PE (X.comp (ow++fr) scope C s₀ H₀ ex) elt (eG X.K fe)) (hs:∀x,foldedSetIterable iter X.env x=pure x) :
 SE X (.ListComp elt [⟨tg,iter,ifs,0⟩] scope lp) (Hh kd fa t ow.length ix fc fe):=(Ag S hc hI hg ht he hs).imp λσ H Q q=>tT q
theorem UO{lp:Pos}{ow fr:List Str}{ix:List Nat}{scope:ay}{tg iter elt gJ bz:ao}{ifs dI:List ao}{kd iM:Kd}{t t2:Tg}{fe nK ng:FE}
 (S:aW X ow fr ix scope) (hc:X.calm) (hI:PI X tg iter (cy X.K kd fa)) (hg:∀C s₀ H₀ ex,PG (X.comp (ow++fr) scope C s₀ H₀ ex) tg (cK X.K t)) (ht:∀C s₀ H₀ ex,iG (X.comp (ow++fr) scope C s₀ H₀ ex) ifs (cZ X.K fc))
 (lB:∀C s₀ H₀ ex,PI (X.comp (ow++fr) scope C s₀ H₀ ex) gJ bz (cy X.K iM nK)) (vQ:∀C s₀ H₀ ex,PG (X.comp (ow++fr) scope C s₀ H₀ ex) gJ (cK X.K t2)) (A9:∀C s₀ H₀ ex,iG (X.comp (ow++fr) scope C s₀ H₀ ex) dI (cZ X.K ng))
 (he:∀C s₀ H₀ ex,PE (X.comp (ow++fr) scope C s₀ H₀ ex) elt (eG X.K fe)) (hs:∀x,foldedSetIterable iter X.env x=pure x) (hs2:∀C s₀ H₀ ex x,foldedSetIterable bz (X.comp (ow++fr) scope C s₀ H₀ ex).env x=pure x) :
 SE X (.ListComp elt [⟨tg,iter,ifs,0⟩,⟨gJ,bz,dI,0⟩] scope lp) (vN kd fa t ow.length ix fc iM nK t2 ng fe):=
 (tL LY rfl S hc hI hg ht (λC s₀ H₀ ex D=>LX (X:=X.comp (ow++fr) scope C s₀ H₀ ex) hc rfl (lB C s₀ H₀ ex) (vQ C s₀ H₀ ex) (A9 C s₀ H₀ ex) (he C s₀ H₀ ex) (hs2 C s₀ H₀ ex) D) hs).imp λσ H Q q=>MD q
theorem UP{i:Nat}{pos' lp:Pos}{ow fr:List Str}{ix:List Nat}{scope:ay}{tg iter elt gJ bz:ao}{ifs dI:List ao}{kd iM:Kd}{t t2:Tg}{fe nK ng:FE}(hN:X.N.Nodup)(hi:X.N[i]?=aB x)(hx:Loc X.env.scope x)(hf:X.fn x=true\/X.env.scope.names.lookup x=aB .local)
 (S:aW X ow fr ix scope) (hc:X.calm) (hI:PI X tg iter (cy X.K kd fa)) (hg:∀C s₀ H₀ ex,PG (X.comp (ow++fr) scope C s₀ H₀ ex) tg (cK X.K t)) (ht:∀C s₀ H₀ ex,iG (X.comp (ow++fr) scope C s₀ H₀ ex) ifs (cZ X.K fc))
 (lB:∀C s₀ H₀ ex,PI (X.comp (ow++fr) scope C s₀ H₀ ex) gJ bz (cy X.K iM nK)) (vQ:∀C s₀ H₀ ex,PG (X.comp (ow++fr) scope C s₀ H₀ ex) gJ (cK X.K t2)) (A9:∀C s₀ H₀ ex,iG (X.comp (ow++fr) scope C s₀ H₀ ex) dI (cZ X.K ng))
 (he:∀C s₀ H₀ ex,PE (X.comp (ow++fr) scope C s₀ H₀ ex) elt (eG X.K fe)) (hsw:swapsWith (.ListComp elt [⟨tg,iter,ifs,0⟩,⟨gJ,bz,dI,0⟩] scope lp) (aB (.Name x pos')) pos.line X.env=pure true) (hs:∀x,foldedSetIterable iter X.env x=pure x) (hs2:∀C s₀ H₀ ex x,foldedSetIterable bz (X.comp (ow++fr) scope C s₀ H₀ ex).env x=pure x) :
 SS X (.Assign [.Name x pos'] (.ListComp elt [⟨tg,iter,ifs,0⟩,⟨gJ,bz,dI,0⟩] scope lp) pos) (oG i (vN kd fa t ow.length ix fc iM nK t2 ng fe)):=
 (LM LY (λ_=>rfl) hN hi hx S hc hI hg ht (λC s₀ H₀ ex D=>LX (X:=X.comp (ow++fr) scope C s₀ H₀ ex) hc rfl (lB C s₀ H₀ ex) (vQ C s₀ H₀ ex) (A9 C s₀ H₀ ex) (he C s₀ H₀ ex) (hs2 C s₀ H₀ ex) D) hsw hf hs).imp λD σ H q=>MD (DW q)
theorem Bj{lp:Pos}{ow fr:List Str}{ix:List Nat}{scope:ay}{tg iter ek ni:ao}{ifs:List ao}{kd:Kd}{t:Tg}{fe fv:FE}
 (S:aW X ow fr ix scope) (hc:X.calm) (hI:PI X tg iter (cy X.K kd fa)) (hg:∀C s₀ H₀ ex,PG (X.comp (ow++fr) scope C s₀ H₀ ex) tg (cK X.K t)) (ht:∀C s₀ H₀ ex,iG (X.comp (ow++fr) scope C s₀ H₀ ex) ifs (cZ X.K fc))
 (he:∀C s₀ H₀ ex,PE (X.comp (ow++fr) scope C s₀ H₀ ex) ek (eG X.K fe)) (hv:∀C s₀ H₀ ex,PE (X.comp (ow++fr) scope C s₀ H₀ ex) ni (eG X.K fv)) (hs:∀x,foldedSetIterable iter X.env x=pure x) :
 SE X (.DictComp ek ni [⟨tg,iter,ifs,0⟩] scope lp) (Hj kd fa t ow.length ix fc fe fv):=
 (tL LS rfl S hc hI hg ht (λC s₀ H₀ ex D=>LV (he C s₀ H₀ ex) (hv C s₀ H₀ ex) D) hs).imp λσ H Q q=>tV q
theorem UQ{i:Nat}{pos' lp:Pos}{ow fr:List Str}{ix:List Nat}{scope:ay}{tg iter ek ni:ao}{ifs:List ao}{kd:Kd}{t:Tg}{fe fv:FE}(hN:X.N.Nodup)(hi:X.N[i]?=aB x)(hx:Loc X.env.scope x)(hf:X.fn x=true\/X.env.scope.names.lookup x=aB .local)
 (S:aW X ow fr ix scope) (hc:X.calm) (hI:PI X tg iter (cy X.K kd fa)) (hg:∀C s₀ H₀ ex,PG (X.comp (ow++fr) scope C s₀ H₀ ex) tg (cK X.K t)) (ht:∀C s₀ H₀ ex,iG (X.comp (ow++fr) scope C s₀ H₀ ex) ifs (cZ X.K fc))
 (he:∀C s₀ H₀ ex,PE (X.comp (ow++fr) scope C s₀ H₀ ex) ek (eG X.K fe)) (hv:∀C s₀ H₀ ex,PE (X.comp (ow++fr) scope C s₀ H₀ ex) ni (eG X.K fv)) (hsw:swapsWith (.DictComp ek ni [⟨tg,iter,ifs,0⟩] scope lp) (aB (.Name x pos')) pos.line X.env=pure true) (hs:∀x,foldedSetIterable iter X.env x=pure x) :
 SS X (.Assign [.Name x pos'] (.DictComp ek ni [⟨tg,iter,ifs,0⟩] scope lp) pos) (oG i (Hj kd fa t ow.length ix fc fe fv)):=
 (LM LS (λ_=>rfl) hN hi hx S hc hI hg ht (λC s₀ H₀ ex D=>LV (he C s₀ H₀ ex) (hv C s₀ H₀ ex) D) hsw hf hs).imp λD σ H q=>tV (DW q)
noncomputable def oH:ao->Bool|.Tuple ..=>false|_=>true
theorem UR{es:List ao}{k:Nat}{e:ao}{l:Nat}{p:Pos}{env:Env}:swapsWithSole [.Tuple es k p] e l env=pure false:=by cases e<;>rfl
theorem US{es:List ao}{k:Nat}{p:Pos}{e:ao}{env:Env}(h:oH e):swappedStores [.Tuple es k p] e env=pure aC:=by cases e<;>first|rfl|cases h
theorem UT{is:List Nat}{k:Nat}(hc:X.calm)(hN:X.N.Nodup)(hs:Paired (lA X) es is)(he:SE X e fa)(ht:oH e) :
 SS X (.Assign [.Tuple es k p] e pos) (λρ h=>(fa ρ h).bind λw h=>.of ((bH (.many is) w h ρ).map .nx) h):=(KN he (G8 hc hN hs) UR (US ht) rfl).imp λD σ H z9=>z9.el λρ h m fl h' f r e k=>by
 refine bI e λw h1 e1 e2=>?_;obtain⟨e2,e3⟩:=of_ok e2;subst e3;cases z:bH (.many is) w h' ρ with
 |none=>rw[z]at e2;cases e2
 |some ρ'=>
  rw[z]at e2;cases e2;exact(.mk f r e1 λv H1 m1 s1 r1 q1=>(.mk (f.stp s1) r1 q1 z λσ' f'=>k H1 m1 s1 r1 σ' f'))
noncomputable def Bk:ao->Bool|.Slice ..=>false|_=>true
theorem UU{o i:ao}{p:Pos}{env:Env}(h:Bk i)(v:aa):assign (.Subscript o i p) env v=(do
 let ov <-holding [v] (eval o env);let iv <-holding [v,ov] (eval i env)
 standAt p
 holding [v,ov,iv] (setItem ov iv v)
 release [v,ov,iv] []):=by
 cases i<;>first|rfl|cases h
noncomputable abbrev Hw(fo fi fv:FE):FS:=λρ h=>(fv ρ h).bind λw h=>(fo ρ h).bind λx h=>(fi ρ h).bind λy h=>match x,y with
 |.ref a,.int j=>(match h.get a with
  |some (.lst ws)=>(match L2.iU ws.length j with
   |some k=>.ok (.nx ρ) (h.set a (.lst (ws.set k w)))
   |none=>.no)
  |_=>oq ρ a j w h)
 |_,_=>.no
theorem UW{o i e:ao}{l:Nat}{p:Pos}{env:Env}:swapsWithSole [.Subscript o i p] e l env=pure false:=by cases e<;>rfl
theorem UX{o i e:ao}{p:Pos}{env:Env}:swappedStores [.Subscript o i p] e env=pure aC:=by cases e<;>rfl
theorem UY{X:Cx}{t t':V->V->V->Hp->(Hp->Prop)->Prop}(h:mJ X t)(h':mJ X t'):mJ X (λo i v H Q=>t o i v H Q\/t' o i v H Q):=by
 intro pins s σ H o i v ov iv u Q I ro ri rv q;rcases q with q|q
 exact h pins s σ H o i v ov iv u Q I ro ri rv q;exact h' pins s σ H o i v ov iv u Q I ro ri rv q
noncomputable def Bl:V->V->V->Hp->(Hp->Prop)->Prop:=λo i v H Q=>∃a kvs j,o=.ref a/\i=.int j/\H a=aB (.dK kvs)/\kvs.length<sizeLine/\Q (upd H a (.dK (putK kvs (.inl j) v)))
theorem UZ(hu:X.A.units+2<cLine):mJ X Bl:=by intro pins s σ H o i v ov iv u Q I ro ri rv h;obtain⟨a,kvs,j,rfl,rfl,e,hl,q⟩:=h;cases ro;exact RJ (Nat.lt_of_succ_lt hu) I (qR.k (k:=.inl j) e hl) ri rv λs' I'=>⟨_,I',q⟩
theorem U0(hu:X.A.units+2<cLine)(ho:SE X o fo)(hi:SE X a fa)(hv:SE X e fb)(hs:Bk a):SS X (.Assign [.Subscript o a p] e pos) (Hw fo fa fb):=
 (KN hv (PX ho hi (UY Q5 (UZ hu)) (UU hs)) UW UX rfl).imp λD σ H z9=>z9.el λρ h m fl h' f r e k=>by
   refine bI e λw h1 e1 e2=>?_;refine bI e2 λx h2 e3 e4=>?_;refine bI e4 λy h3 e5 e6=>?_;refine(.mk f r e1 λv H1 m1 s1 r1 q1=>(.mk (f.stp s1) r1 e3 λvo H2 m2 s2 r2 q2=>(.mk ((f.stp s1).stp s2) r2 e5 λvi H3 m3 s3 r3 q3=>?_)));split at e6;rename_i l j;split at e6;rename_i ws g;split at e6;rename_i kk hk;cases e6;cases q3;have Hx:=q2.stp s3;cases Hx;obtain⟨vs,p1,p2⟩:=r3.lst g;refine .inl ⟨m3 l,vs,j,kk,rfl,rfl,p1,by rw[p2.length];exact hk,?_⟩;have qv:=((q1.stp s2).stp s3)
   obtain⟨st,r'⟩:=r3.write (i:=l) (o:=.lst (ws.set kk w)) (u:=.lst (vs.set kk v)) (cA g) p1 (λ_ z=>nomatch z) (λ_ _ z=>nomatch z) λst=>⟨_,fJ,aF.set (qv.stp st) kk (p2.stp st)⟩
   exact k _ m3 (((s1.trans s2).trans s3).trans st) r' σ ((((f.stp s1).stp s2).stp s3).stp st);cases e6;unfold oq at e6;split at e6;rename_i kvs g;split at e6;rename_i hb;cases e6;cases q3;have Hx:=q2.stp s3;cases Hx;obtain⟨vs,p1,p2⟩:=r3.dm g;have hlt:vs.length<sizeLine:=by rw[p2.length,yN];exact gX.mp hb
   refine .inr ⟨m3 l,vs,j,rfl,rfl,p1,hlt,?_⟩;have qv:=((q1.stp s2).stp s3)
   obtain⟨st,r'⟩:=r3.write (i:=l) (o:=.dm (bA kvs (.inl j) w)) (u:=.dK (putK vs (.inl j) v)) (cA g) p1 (λ_ z=>nomatch z) (λ_ _ z=>nomatch z) λst=>⟨_,fJ,aN.put (qv.stp st) _ (p2.stp st)⟩
   exact k _ m3 (((s1.trans s2).trans s3).trans st) r' σ ((((f.stp s1).stp s2).stp s3).stp st);cases e6;cases e6;cases e6
theorem U1{M:Model}{A:ak}{E:aa->af->Prop}{s:af}{a b:aa}{T id:String}{Q:aa->af->Prop}(ha:s.TypeIs a T)(hb:s.TypeIs b T)
 (hI:typeLookup (.type T) (dunderI "add")=pure (aB (.builtin id))) (hq:isSeqSlot (aB (.builtin id))) (hfill:fillsNumberSlot (.type T) "add" = pure false) (hc:wpAny M A (call (.builtin id) [a,b]) Q E s):wpAny M A (inplaceOp .Add a b) Q E s:=by
 unfold inplaceOp;refine pF ?_;have h1:fillsInplaceSlot (.type T) "add" (Operator.Add == .Add)=pure false:=by unfold fillsInplaceSlot;show(typeLookup (.type T) (dunderI "add") >>= λfi=>pure (fi.isSome && !isSeqSlot fi))=_;rw[hI,qy,hq];rfl
 have h2:seqSlot? (.type T) (dunderI "add")=pure (aB (.builtin id)):=by unfold seqSlot?;rw[hI,qy,hq];rfl
 refine aS (CM ha (aS (wpAny_of_eq h1 ?_)));show wpAny M A (if false=true then _ else _) Q E s;rw[if_neg uW];refine aS (binaryOp1_none (nm:="add") ha hb hfill ?_);refine aS (wpAny_of_eq h2 ?_);exact aS (qm hc)
noncomputable def tX:R2:=λx y H Q=>∃l b xs zs,x=.ref l/\y=.ref b/\H l=aB (.lst xs)/\H b=aB (.lst zs)/\xs.length+zs.length<=sizeLine/\Q (.ref l) (upd H l (.lst (xs++zs)))
theorem U3:xR X .Add tX:=by
 intro pins s σ H x y v u Q I rx ry h;obtain⟨l,b,xs,zs,rfl,rfl,hH,hB,hz,q⟩:=h;cases rx;cases ry;obtain⟨z,its,n,r,hl,e⟩:=I.fY hH;obtain⟨z2,its2,n2,r2,hl2,e2⟩:=I.fY hB;have hsz:its.toArray.size+its2.toArray.size<=sizeLine:=by rw[dU,dU];lia
 have nY:¬(!its.toArray.isEmpty&&Builtin.List.listTooLong (its.toArray.size+its2.toArray.size))=true:=by rw[Lh hsz,Bool.and_false];exact uW
 refine U1 (T:="list") (id:="list.__iadd__") ⟨_,e,rfl⟩ ⟨_,e2,rfl⟩ PySem.F.slot_list_iadd.lookup (by decide +kernel) noFill_list_add ?_;refine ql PySem.F.slot_list_iadd ⟨_,e,rfl⟩ PySem.F.entry_list_iadd (PySem.F.args_list_iadd_2 _ _)
  (AutoSeq1.list___iadd___list_list_0 l its.toArray n b its2.toArray n2 nY (by rw[dU];lia) (by lia)) ⟨e,e2,?_⟩
 refine⟨.ref l,_,I.vp (its':=its++its2) hH e (by simp) (r.append r2) ?_,rfl,q⟩;rw[fE];lia
noncomputable def rF:Operator->Option Op|.Add=>aB .add|.Sub=>aB .sub|.Mult=>aB .mul|.FloorDiv=>aB .fdiv|_=>aC
noncomputable def MM(K:aK):Op->R2|.mul=>rI mO λi j=>.int (i*j)|.fdiv=>rI qK λi j=>.int (i/j)|.add=>λx y H Q=>Dh (λi j=>i+j) x y H Q\/tX x y H Q\/lQ K x y H Q|.sub=>Dh λi j=>i-j|_=>λ_ _ _ _=>False
theorem Bm{O:Operator}{o:Op}(e:rF O=aB o):xR X O (MM X.K o):=by
 cases O<;>cases e;intro pins s σ H x y v u Q I rx ry q;rcases q with q|q|q
 exact P0 pins s σ H x y v u Q I rx ry q;exact U3 pins s σ H x y v u Q I rx ry q;exact UC pins s σ H x y v u Q I rx ry q;exact P4;exact Qn;exact Qo
theorem U4{K:aK}{O:Operator}{o:Op}(e:rF O=aB o):AL K (MM K o) (vG o):=by
 intro m h H v u x y w h' Q r qv qu e2 k;unfold vG at e2;split at e2;rename_i i j;cases qv;cases qu;split at e2;cases e2;exact .inl ⟨i,j,rfl,rfl,aO.here k r (.int _)⟩;cases e2;exact⟨i,j,rfl,rfl,aO.here k r (.int _)⟩;obtain⟨e2,rfl⟩:=of_ok e2;cases z:gH .mul i j with
 |none=>rw[z]at e2;cases e2
 |some t=>
  rw[z]at e2;cases e2;obtain⟨c1,rfl⟩:=GW z;exact⟨i,j,rfl,rfl,c1,aO.here k r (.int _)⟩
 obtain⟨e2,rfl⟩:=of_ok e2;cases z:gH .fdiv i j with
 |none=>rw[z]at e2;cases e2
 |some t=>
  rw[z]at e2;cases e2;obtain⟨c1,rfl⟩:=GW z;exact⟨i,j,rfl,rfl,c1,aO.here k r (.int _)⟩
 cases e2;rename_i i j;split at e2;rename_i xs ys g1 g2;split at e2;rename_i hz;cases e2;cases qv;cases qu;obtain⟨vs,p1,p2⟩:=r.lst g1;obtain⟨us,p3,p4⟩:=r.lst g2;refine .inr (.inl ⟨m i,m j,vs,us,rfl,rfl,p1,p3,by rw[p2.length,p4.length];exact kY hz,?_⟩);obtain⟨st,r'⟩:=r.write (i:=i) (o:=.lst (xs++ys)) (u:=.lst (vs++us)) (cA g1) p1 (λ_ z=>nomatch z) (λ_ _ z=>nomatch z) λst=>⟨_,fJ,(p2.stp st).append (p4.stp st)⟩
 exact k _ _ m st r' (.ref (show i<h.n from cA g1));cases e2;cases e2;rename_i x xs ys;split at e2;split at e2;rename_i hz;cases e2;cases qv with
 |tup qa ra=>
  cases qu with
  |tup qb rb=>
   rename_i a va b vb;refine .inr (.inr ⟨a,b,va,vb,rfl,rfl,qa,qb,λz=>?_,by rw[ra.length,rb.length];exact kY hz,λz=>?_,λ_ p hp=>aO.tuple k r (ra.append rb) hp⟩);subst z;cases ra;subst z;cases rb;rw[nG]at k;exact aO.here k r (.tup qa ra)
 cases e2;cases e2;cases e2
noncomputable abbrev vR(i:Nat)(o:Op)(fa:FE):FS:=λρ h=>match(ρ[i]?).join with|some x=>(fa ρ h).bind λy h=>(vG o x y h).bind λz h=>.ok (.nx (ρ.set i (aB z))) h|none=>.no
theorem U5{i:Nat}{pos':Pos}{O:Operator}{o:Op}(eo:rF O=aB o)(hN:X.N.Nodup)(hi:X.N[i]?=aB x)(hx:Loc X.env.scope x)(hf:X.fn x=true\/X.env.scope.names.lookup x=aB .local)(he:SE X e fa) :
 SS X (.AugAssign (.Name x pos') O e pos) (vR i o fa):=(PZ hN hi hx he (Bm eo) hf).imp λD σ H z9=>z9.el λρ h m fl h' f r e k=>by
 have e:vR i o fa ρ h=.ok fl h':=e;simp only[vR]at e;cases z:(ρ[i]?).join with
 |none=>rw[z]at e;cases e
 |some x=>
  rw[z]at e;simp only at e;refine bI e λy h1 e1 e2=>?_;refine bI e2 λw h2 e3 e4=>?_;cases e4;have e5:ρ[i]?=aB (aB x):=by
   cases q:ρ[i]? with|none=>rw[q]at z;cases z|some o=>rw[q]at z;rw[<-z];rfl
  obtain⟨v,p1,p2⟩:=f.val i x e5;refine⟨v,p1,ρ,h,m,y,h1,f,r,e1,λu H1 m1 s1 r1 q1=>U4 eo m1 h1 H1 v u x y w h' _ r1 (p2.stp s1) q1 e3 λv' H' m' s' r' q'=>?_⟩;exact k H' m' (s1.trans s') r' _ (((f.stp s1).stp s').set q' i)
noncomputable abbrev U6(fc:FE)(ga gb:FS):FS:=λρ h=>(fc ρ h).bind λx h=>match x with|.bl true=>ga ρ h|.bl false=>gb ρ h|_=>.no
variable{sa sb:List aq}
theorem U7(hc:ST X c fc)(ha:rE X sa ga)(hb:rE X sb gb):SS X (.If c sa sb pos) (U6 fc ga gb):=(zy hc ha hb).imp λD σ H z9=>z9.el λρ h m fl h' f r e k=>by
 refine bI e λx h1 e1 e2=>?_;cases x<;>try cases e2
 rename_i c;refine(.mk f r e1 λH1 m1 s1 r1=>?_);cases c with|true=>rw[if_pos rfl];exact(.mk (f.stp s1) r1 e2 λH' m' s' r'=>k H' m' (s1.trans s') r')|false=>simp only[fG,ez];exact(.mk (f.stp s1) r1 e2 λH' m' s' r'=>k H' m' (s1.trans s') r')
theorem U8{nx:Nat->VH->Option (Option W)}{tg:W->VH->En->Option En}{g:FS}{f i:Nat}{ρ:En}{h:VH}{fl:Fl}{h':VH}(q:eF nx tg g (f+1) i ρ h=.ok fl h'):∃o,nx i h=aB o:=by simp only[eF]at q;split at q;cases q;exact⟨_,by assumption⟩;exact⟨_,by assumption⟩
noncomputable abbrev Bo(kd:Kd)(fa:FE)(t:Tg)(g:FS):FS:=λρ h=>(fa ρ h).bind λx h=>eF (aY kd x) (bH t) g fuel 0 ρ h
theorem U9{K:aK}{kd:Kd}{t:Tg}{D:Ends}{σ:L2.St}{H:Hp}(q:jM K (Bo kd fa t ga) D σ H):zF (cy K kd fa) (cK K t) (jM K ga) D σ H:=by
 refine q.el λρ h m fl h' f r e k=>?_;refine bI e λx h1 e1 e2=>?_;refine(.mk f r e1 (U8 (f:=999999) e2) λJ P H1 m1 s1 r1 J1 p1=>?_);refine⟨λi fu σ' H'=>∃ρ' h3 m3,eF (aY kd x) (bH t) ga fu i ρ' h3=.ok fl h'/\Fr K m3 h3.n H' σ' ρ'/\Rel K m3 h3 H'/\bY m1 h1.n H1 m3 h3.n H'/\P m3 h3.n H',⟨fuel,ρ,h1,m1,e2,f.stp s1,r1,.refl,p1⟩,?_⟩;rintro i fu σ' H' ⟨ρ',h3,m3,e3,f3,r3,s3,p3⟩;cases fu with
 |zero=>cases e3
 |succ fu=>
  simp only[eF]at e3;obtain⟨j1,j2⟩:=J1.2 m3 h3 H' r3 p3 i;split at e3;cases e3;rename_i hn;cases e3;exact .inl ⟨j2 hn,k H' m3 (s1.trans s3) r3 σ' f3⟩;rename_i w hn;obtain⟨j3,j4⟩:=j1 w hn;split at e3;cases e3;rename_i Hy ht;refine bI e3 λBp h5 e5 e6=>?_;refine .inr ⟨j3,λjW H6=>∃jN m6,eF (aY kd x) (bH t) ga fu (i+1) jN h5=.ok fl h'/\Fr K m6 h5.n H6 jW jN/\Rel K m6 h5 H6/\bY m1 h1.n H1 m6 h5.n H6/\P m6 h5.n H6,λjW H6 ⟨jN,m6,a1,a2,a3,a4,a5⟩=>⟨fu,fU _,jN,h5,m6,a1,a2,a3,a4,a5⟩,λy H4 hy=>?_⟩;obtain⟨s4,r4,q4⟩:=j4 y H4 hy;refine⟨ρ',h3,m3,w,Hy,f3.stp s4,r4,q4,ht,λkh f5=>⟨Hy,h3,m3,Bp,h5,f5,r4,e5,λH6 m6 s6 r6=>?_⟩⟩;have p4:=J1.1 m3 h3.n H' m3 h3.n H4 (bf _) (λ_ _=>rfl) (λb vs q=>s4.tup b vs q) (λb o u q=>s4.bC b o u q) p3;have p6:=J1.1 m3 h3.n H4 m6 h5.n H6 s6.le s6.same (λb vs q=>s6.tup b vs q) (λb o u q=>s6.bC b o u q) p4;have iN:=(s3.trans s4).trans s6;cases Bp with|nx jN=>exact λjW f6=>⟨jN,m6,e6,f6,r6,iN,p6⟩|ct jN=>exact λjW f6=>⟨jN,m6,e6,f6,r6,iN,p6⟩|bk jN=>cases e6;exact λjW f6=>k H6 m6 (s1.trans iN) r6 jW f6|rt w6=>cases e6;exact λv6 q6=>k H6 m6 (s1.trans iN) r6 v6 q6
theorem U'{kd:Kd}{t:Tg}{tg iter:ao}(hp:PassesOwn (model X.prog X.w) X.A X.env X.xe)(hc:X.calm)(hI:PI X tg iter (cy X.K kd fa))(hg:PG X tg (cK X.K t))(hb:rE X sa ga)(hs:∀x,foldedSetIterable iter X.env x=pure x) :
 SS X (.For tg iter sa [] pos) (Bo kd fa t ga):=(Qf hp hc hI hg hb hs).imp λD σ H q=>U9 q
theorem Va(hp:PassesOwn (model X.prog X.w) X.A X.env X.xe)(hc:ST X c fc)(hb:rE X sa ga):SS X (.While c sa [] pos) (λρ h=>dD fc ga fuel ρ h):=(P6 hp hc hb).imp λD σ H z9=>z9.el λρ h m fl h' f r e k=>by
 refine⟨λfu σ' H'=>∃ρ' h3 m3,dD fc ga fu ρ' h3=.ok fl h'/\Fr X.K m3 h3.n H' σ' ρ'/\Rel X.K m3 h3 H'/\bY m h.n H m3 h3.n H',⟨fuel,ρ,h,m,e,f,r,.refl⟩,?_⟩;rintro fu σ' H' ⟨ρ',h3,m3,e3,f3,r3,s3⟩;cases fu with
 |zero=>cases e3
 |succ fu=>
  simp only[dD]at e3;refine bI e3 λx h4 e4 e5=>?_;cases x<;>try cases e5
  rename_i b;refine⟨ρ',h3,m3,b,h4,f3,r3,e4,λH4 m4 s4 r4=>?_⟩;cases b with
  |false=>cases e5;simp only[fG,ez];exact k H4 m4 (s3.trans s4) r4 σ' (f3.stp s4)
  |true=>
   simp only[cC];refine bI e5 λBp h5 e6 e7=>?_;refine⟨λjW H6=>∃jN m6,dD fc ga fu jN h5=.ok fl h'/\Fr X.K m6 h5.n H6 jW jN/\Rel X.K m6 h5 H6/\bY m h.n H m6 h5.n H6,λjW H6 ⟨jN,m6,a1,a2,a3,a4⟩=>⟨fu,fU _,jN,h5,m6,a1,a2,a3,a4⟩,?_⟩;refine⟨ρ',h4,m4,Bp,h5,f3.stp s4,r4,e6,λH6 m6 s6 r6=>?_⟩;have iN:=(s3.trans s4).trans s6;cases Bp with|nx jN=>exact λjW f6=>⟨jN,m6,e7,f6,r6,iN⟩|ct jN=>exact λjW f6=>⟨jN,m6,e7,f6,r6,iN⟩|bk jN=>cases e7;exact λjW f6=>k H6 m6 iN r6 jW f6|rt w6=>cases e7;exact λv6 q6=>k H6 m6 iN r6 v6 q6
end
theorem Bq{n:Str}:∀{ps:List Str} {us:List aa},us.length=ps.length->n∈ps->((ps.zip us).lookup n).isSome=true
 |[],_,_,h=>by cases h
 |p::ps,[],hl,_=>by cases hl
 |p::ps,u::us,hl,h=>by
  rw[qq,gA];by_cases e:(n==p)=true;rw[e];rfl;have e':(n==p)=false:=by simpa using e
  rw[e'];refine Bq (by simpa using hl) ?_;rcases fT.mp h with z|z
  rw[z]at e';simp at e';exact z
theorem Vb{n:Str}{u:aa}{p:Str}{ps:List Str}{us:List aa}(h:n≠p):((p,u)::ps.zip us).lookup n=(ps.zip us).lookup n:=by
 rw[gA];have e':(n==p)=false:=by simpa using h
 rw[e']
theorem MN{α β:Type}{f g:α->Option β}:∀{l:List α},(∀a∈l,f a=g a)->l.filterMap f=l.filterMap g
 |[],_=>rfl
 |a::r,h=>by
  rw[uQ,uQ,h a eZ,MN λb hb=>h b (eY _ hb)]
theorem DX:∀{ps:List Str} {us:List aa},us.length=ps.length->ps.Nodup->ps.filterMap (λn=>((ps.zip us).lookup n).map (n,·))=ps.zip us
 |[],_,_,_=>rfl
 |p::ps,[],hl,_=>by cases hl
 |p::ps,u::us,hl,hn=>by
  obtain⟨h1,h2⟩:=sU.mp hn;rw[qq,uQ];have e:((p,u)::ps.zip us).lookup p=aB u:=by rw[gA];simp
  rw[e];simp only[jq];congr 1;have ih:=DX (ps:=ps) (us:=us) (by simpa using hl) h2;refine Eq.trans ?_ ih;exact MN λn hn'=>by
   have hne:n≠p:=λz=>h1 (by rw[<-z];exact hn');rw[Vb hne]
theorem MO{x qual:Str}{args:List Arg}{body:List aq}{sc:ay}{kV doc pm:aa}{an:Option ah}{cdv ct:aa}{us:List aa}{df:List ao}(hl:us.length=(args.map (·.arg)).length)(hn:(args.map (·.arg)).Nodup) :
 bindArgs (PySem.W.fnOf x qual ⟨[],args,aC,[],[],aC,df⟩ body sc .none kV doc pm an cdv ct) ⟨us,[]⟩=pure ((args.map (·.arg)).zip us):=by
 have hs:seqItems? Value.none=pure aC:=rfl;have hm:((args.map (·.arg)).filter λn=>(((args.map (·.arg)).zip us).lookup n).isNone)=[]:=by
  rw[List.filter_eq_nil_iff];intro n hn';have:=Bq hl hn';cases q:((args.map (·.arg)).zip us).lookup n with|none=>rw[q]at this;cases this|some v=>simp
 unfold bindArgs;simp only[PySem.W.fnOf,uV,yS,nG,hs,qy];have hg:¬(us.length> (args.map (·.arg)).length):=by lia
 have h0:(#[]:Array aa).toList=[]:=rfl;simp only[Option.getD_none,h0,uU,qy,List.drop_nil,CZ,Nat.sub_zero,nF,hm,List.isEmpty_nil,Bool.not_true,List.drop_length,List.zip_nil_right,List.zip_nil_left,jl hg,xA,fG,ez,DX hl hn]
theorem MP{z:Str}:∀{qs:List Str} {us:List aa},us.length=qs.length->(qs++[z]).zip us=qs.zip us
 |[],[],_=>rfl
 |[],_::_,h=>by cases h
 |_::_,[],h=>by cases h
 |q::qs,u::us,h=>by
  rw[pJ,qq,qq,MP (by simpa using h)]
theorem Hz{z:Str}{v:aa}:∀{qs:List Str} {us:List aa},us.length=qs.length->(qs++[z]).zip (us++[v])=qs.zip us++[(z,v)]
 |[],[],_=>rfl
 |[],_::_,h=>by cases h
 |_::_,[],h=>by cases h
 |q::qs,u::us,h=>by
  rw[pJ,pJ,qq,qq,Hz (by simpa using h),pJ]
theorem MQ{z:Str}:∀{qs:List Str} {us:List aa},z∉qs->(qs.zip us).lookup z=aC
 |[],_,_=>rfl
 |_::_,[],_=>rfl
 |q::qs,u::us,h=>by
  rw[qq,gA];have e':(z==q)=false:=by simpa using(λe=>h (by rw[e];exact eZ))
  rw[e'];exact MQ λe=>h (eY _ e)
section
variable{x qual:Str}{args:List Arg}{df:List ao}{body:List aq}{sc:ay}{kV doc pm:aa}{an:Option ah}{cdv ct:aa}{t:ah}{o:Obj}{n:Nat}{s:af}{us:List aa}{qs:List Str}{z:Str}
theorem MR(qs:List Str)(z:Str):List.drop ([Value.none].length- (qs++[z]).length) [Value.none]=[Value.none]:=by rw[fE,yO,yO,show 1- (qs.length+1)=0 by lia];rfl
theorem tY(qs:List Str)(z:Str):(qs++[z]).length - [Value.none].length=qs.length:=by simp
theorem Vc(ha:args.map (·.arg)=qs++[z])(hn:(qs++[z]).Nodup)(ho:s.heap.get? t=aB o)(hd:o.data=.seq #[.none] n)(hl:us.length=(qs++[z]).length) :
 BindsTo s (PySem.W.fnOf x qual ⟨[],args,aC,[],[],aC,df⟩ body sc (.ref t) kV doc pm an cdv ct) ⟨us,[]⟩ ((qs++[z]).zip us):=by
 apply BindsTo.of_defaults (items:=#[.none]) (n:=n) rfl ho hd;unfold bindArgs;simp only[PySem.W.fnOf,uV,yS,nG,uU,qy,ha];rfl;have hm:(qs.filter λn=>(((qs++[z]).zip us).lookup n).isNone)=[]:=by
  rw[List.filter_eq_nil_iff];intro n hn';have:=Bq (n:=n) hl (CS _ hn');cases q:((qs++[z]).zip us).lookup n with|none=>rw[q]at this;cases this|some v=>simp
 have hz:(((qs++[z]).zip us).lookup z).isNone=false:=by
  have:=Bq (n:=z) hl (jn _ (nP.mpr rfl));cases q:((qs++[z]).zip us).lookup z with|none=>rw[q]at this;cases this|some v=>rfl
 have hg:¬(us.length> (qs++[z]).length):=by lia
 simp only[C5,MR,tY,List.take_left',List.take_left,List.drop_left,List.drop_left',hm,jl hg,xA,fG,ez,List.isEmpty_nil,Bool.not_true,qq,List.zip_nil_right,yR,uU,hz,qy,DX hl hn]
theorem Vd(ha:args.map (·.arg)=qs++[z])(hn:(qs++[z]).Nodup)(ho:s.heap.get? t=aB o)(hd:o.data=.seq #[.none] n)(hl:us.length=qs.length) :
 BindsTo s (PySem.W.fnOf x qual ⟨[],args,aC,[],[],aC,df⟩ body sc (.ref t) kV doc pm an cdv ct) ⟨us,[]⟩ ((qs++[z]).zip (us++[.none])):=by
 apply BindsTo.of_defaults (items:=#[.none]) (n:=n) rfl ho hd;unfold bindArgs;simp only[PySem.W.fnOf,uV,yS,nG,uU,qy,ha];rfl;have hm:(qs.filter λn=>((qs.zip us).lookup n).isNone)=[]:=by
  rw[List.filter_eq_nil_iff];intro n hn';have:=Bq (n:=n) hl hn';cases q:(qs.zip us).lookup n with|none=>rw[q]at this;cases this|some v=>simp
 have Ve:z∉qs:=λh=>(List.nodup_append.mp hn).2.2 z h z (nP.mpr rfl) rfl;have hz:((qs.zip us).lookup z).isNone=true:=by rw[MQ Ve];rfl
 have hg:¬(us.length> (qs++[z]).length):=by rw[fE];lia
 have hl2:(us++[Value.none]).length=(qs++[z]).length:=by rw[fE,fE,hl];rfl
 have ha2:=DX hl2 hn;rw[Hz hl]at ha2;simp only[C5,MR,tY,MP hl,Hz hl,List.take_left',List.take_left,List.drop_left,List.drop_left',hm,jl hg,xA,fG,ez,List.isEmpty_nil,Bool.not_true,qq,List.zip_nil_right,yR,uU,hz,cC,qy,ha2]
end
structure oJ(K:aK)(x qual:Str)(st:aq)(f:ah)(fd:au):Prop where
 ex:∃(oc:aa) (od:Option ah) (dV kV doc pm:aa) (an:Option ah) (cdv ct:aa) (osl:Array (Option aa)),fd=PySem.W.fnOf x qual (Ro st) (Ac st) (jI st) dV kV doc pm an cdv ct/\K.lookup f=aB ⟨oc,od,.func fd,osl⟩/\PySem.W.codeIn K cdv qual=true
 kp:PySem.W.keepIn K (.ref f)=true
theorem oJ.ok{P:ai}{w:aj}{K:aK}{mg:Str->Option aa}{base:az}{x qual:Str}{st:aq}{f:ah}{fd:au}{N ps:List Str}{k:Nat}{sp:Sp}(F:oJ K x qual st f fd)(S:dG N ps (jI st))(len:∀vs H Q E,sp vs H Q E->vs.length=ps.length)
 (hbody:∀(cdv:aa)(A:ak)(outer:List Env)(s:af)(H:Hp)(vs:List V)(Q:VK)(E:XK),dB k (A.deeper (envOfC qual (jI st) s.heap.objs.size f cdv))->sp vs H Q E->∃t,kN (j9 lS P w K mg base N qual (jI st) f cdv A outer s H E).xP (Ac st) t/\t {nx:=λ_ H'=>Q .aR H',rt:=Q} (start N vs) H):fK P w K mg base lS (k+1) f fd ps sp:=
 let⟨_,_,_,_,_,_,_,cdv,_,_,e,lk,hcd⟩:=F.ex
 by subst e;exact zT lk hcd S len λA outer s H vs Q E hr pP=>let⟨t,h,q⟩:=hbody cdv A outer s H vs Q E hr pP;⟨t,h.xP,q⟩
section
variable{K:aK}{m m':Nat->ah}{n n':Nat}{h h':VH}{H H':Hp}
mutual
theorem aL.fO:∀{v:V} {w:W},aL K m n H v w->W.lt n w=true|_,_,.aR=>rfl|_,_,.bl _=>rfl|_,_,.int _=>rfl|_,_,.str _=>rfl|_,_,.tup _ r=>aF.fO r|_,_,.fz _ r=>aF.fO r|_,_,.ref q=>gX.mpr q
theorem aF.fO:∀{vs:List V} {ws:List W},aF K m n H vs ws->W.lW n ws=true
 |_,_,.nil=>rfl
 |_,_,.cons q r=>by
  show(W.lt n _&&W.lW n _)=true;rw[aL.fO q,aF.fO r];rfl
end
mutual
theorem aL.cut:∀{v:V} {w:W},aL K m n' H v w->W.lt n w=true->aL K m n H v w|_,_,.aR,_=>.aR|_,_,.bl b,_=>.bl b|_,_,.int b,_=>.int b|_,_,.str b,_=>.str b|_,_,.tup q r,e=>.tup q (aF.cut r e)|_,_,.fz q r,e=>.fz q (aF.cut r e)|_,_,.ref q,e=>.ref (gX.mp e)
theorem aF.cut:∀{vs:List V} {ws:List W},aF K m n' H vs ws->W.lW n ws=true->aF K m n H vs ws
 |_,_,.nil,_=>.nil
 |_,_,.cons q r,e=>by
  have e:(W.lt n _&&W.lW n _)=true:=e;rw[bQ]at e;exact .cons (aL.cut q e.1) (aF.cut r e.2)
end
theorem aN.cut{m':Nat->ah}{n1:Nat}{H':Hp}:∀{vs us:List (Key×V)} {ws:List (Key×W)},aN K m n' H vs ws->aN K m' n H' us ws->aN K m n H vs ws|_,_,_,.nil,_=>.nil|_,_,_,.cons q r,.cons q2 r2=>.cons (q.cut q2.fO) (aN.cut (n1:=n1) r r2)
theorem MS{lo:Nat}(r:Rel K m h H):Rel K m ⟨h.n,lo,h.os⟩ H:=⟨r.obj,r.inj,r.len⟩
theorem MT{w w2:W}{h1 h2:VH}{v:V}{Q:VK}(r:Rel K m h H)(s:bY m h.n H m' h1.n H')(r1:Rel K m' h1 H')(q:aL K m' h1.n H' v w)(g:fN ⟨h.n,h.n,h.os⟩ h1)(e:leave h w h1=.ok w2 h2)(k:aO K m h.n H w2 h2 Q):Q v H':=by
 unfold leave at e;split at e;rename_i hc;cases e;rw[bQ]at hc;have hlo:=kY hc.1;refine k v H' m' ⟨bf _,s.same,λi a b=>absurd b (jG.mpr a),λi j a b=>absurd b (jG.mpr a),s.tup,s.bC,s.keep⟩ ⟨λi hi=>?_,λi j hi hj=>r1.inj i j (dF hi s.le) (dF hj s.le),r.len⟩ (q.cut hc.2);have hg:h1.get i=h.get i:=g.2.2 i hi (dF hi hlo);obtain⟨o,p1,p2⟩:=r1.obj i (dF hi s.le);rw[hg]at p1;refine⟨o,p1,?_⟩;have p3:=r.at_ p1;cases o with
 |lst ws=>
  obtain⟨vs,a1,a2⟩:=p2;obtain⟨us,b1,b2⟩:=p3;exact⟨vs,a1,a2.cut b2.fO⟩
 |dk ws=>
  obtain⟨vs,a1,a2⟩:=p2;obtain⟨us,b1,b2⟩:=p3;exact⟨vs,a1,aN.cut (n1:=0) a2 b2⟩
 |dm ws=>
  obtain⟨vs,a1,a2⟩:=p2;obtain⟨us,b1,b2⟩:=p3;exact⟨vs,a1,aN.cut (n1:=0) a2 b2⟩
 cases e;exact k v H' m' s (MS r1) q
theorem Vf{N:List Str}{vs:List V}{ws:List W}(q:aF K m n H vs ws):Fr K m n H (L2.start N vs) (ws.map aB++bK (N.length-ws.length) aC):=by
 unfold L2.start;refine⟨by simp[q.length],λi w e=>?_⟩;by_cases hi:i<ws.length;rw[pG (by simpa using hi)]at e;rw[pG (by simpa[q.length]using hi)];rw[dO]at e ⊢;cases z:ws[i]? with
 |none=>rw[z]at e;cases e
 |some w'=>
  rw[z]at e;cases e;obtain⟨v,h1,h2⟩:=q.get z;exact⟨v,by rw[h1];rfl,h2⟩
 rw[lH (by simpa using jG.mp hi)]at e;rw[CP]at e;split at e<;>cases e
end
theorem HA{F:Nat->Option Fn}{k idx:Nat}{ws:List W}{h h':VH}{w:W}{fn:Fn}(hF:F idx=aB fn)(e:run F k idx ws h=.ok w h'):ws.length=fn.ps:=by
 cases k with
 |zero=>cases e
 |succ k=>
  simp only[run,hF]at e;split at e;rename_i hl;exact yT hl;cases e
theorem MU{P:ai}{w:aj}{K:aK}{mg:Str->Option aa}{base:az}{F:Nat->Option Fn}{k idx:Nat}{fn:Fn}{x qual:Str}{st:aq}{f:ah}{fd:au}{N ps:List Str}(hF:F idx=aB fn)(Fu:oJ K x qual st f fd)(S:dG N ps (jI st))
 (hn:fn.n=N.length) (hp:fn.ps=ps.length)
 (hbody:∀(cdv:aa)(A:ak)(outer:List Env)(s:af)(H:Hp)(E:XK),dB k (A.deeper (envOfC qual (jI st) s.heap.objs.size f cdv))->rE (j9 lS P w K mg base N qual (jI st) f cdv A outer s H E).xP (Ac st) (exs (run F k) fn.body)) :
 fK P w K mg base lS (k+1) f fd ps (oA K ps.length (run F (k+1) idx)):=by
 refine Fu.ok S (λvs H Q E h=>h.1) λcdv A outer s H vs Q E hr pP=>?_;refine⟨_,hbody cdv A outer s H E hr,?_⟩;obtain⟨hl,h,m,ws,w2,h2,r,q,e,k2⟩:=pP;have hws:=HA hF e;simp only[run,hF]at e;split at e;refine bI e λfl h1 e1 e2=>?_;have g:=Hs (Ht F k) _ _ _ _ _ e1;have hN:fn.n-fn.ps=N.length-ws.length:=by rw[hn,hws]
 rw[hN]at e1;refine⟨_,⟨h.n,h.n,h.os⟩,m,fl,h1,Vf q,MS r,e1,λH' m' s' r'=>?_⟩;cases fl with|nx ρ=>exact λσ' f'=>MT r s' r' .aR g e2 k2|rt w3=>exact λv q3=>MT r s' r' q3 g e2 k2|bk _=>cases e2|ct _=>cases e2
 cases e
theorem MV{P:ai}{w:aj}{K:aK}{mg:Str->Option aa}{base:az}{F:Nat->Option Fn}{idx:Nat}{f:ah}{fd:au}{ps:List Str}:fK P w K mg base lS 0 f fd ps (oA K ps.length (run F 0 idx)):=
 ⟨λvs H Q E h=>h.1,λA outer s H args us vs Q E hr he hb hv hs=>by obtain⟨_,h,m,ws,w2,h2,r,q,e,k2⟩:=hs;cases e⟩
noncomputable def gh(K:aK)(x:Str):Option ah:=(match PySem.W.nsIn K mainGlobals x with|some (aB (.ref f))=>aB f|_=>aC)
theorem MW{K:aK}{x:Str}{f:ah}(h:gh K x=aB f):PySem.W.nsIn K mainGlobals x=aB (aB (.ref f)):=by unfold gh at h;split at h;rename_i g e;cases h;exact e;cases h
end RF
namespace L2
open PySem PySem.Spec PyProof.Rows
theorem MX:∀{vs:List V} {us:List aa},Vals vs us->Vals (cX vs) (cX us)|_,_,.nil=>.nil|_,_,.cons p .nil=>.cons p .nil|_,_,.cons p (.cons _ r)=>.cons p (MX r)
theorem MY{α β:Type}{f:α->Option β}{g:α->β}:∀{l:List α},(∀x∈l,f x=aB (g x))->l.filterMap f=l.map g
 |[],_=>rfl
 |x::r,h=>by
  rw[uQ,h x eZ,fF,MY λy hy=>h y (eY _ hy)]
theorem Br(us:List aa)(c:Nat)(hc:c<=1){lo:Option Int}(hlo:lo=if c=0 then aC else aB 1):slicePick us.toArray lo aC (aB 2)=(cX (us.drop c)).toArray:=by
 have hb:sliceBounds lo aC (aB 2) us.length=(((min c us.length:Nat):Int),(us.length:Int),2):=by
  subst hlo;match c,hc with|0,_=>simp[sliceBounds]|1,_=>simp[sliceBounds];lia
 unfold slicePick;rw[dU,hb];congr 1;have hr:sliceRange ((min c us.length:Nat):Int) (us.length:Int) 2=(List.range ((us.length-c+1)/2)).map λ(k:Nat)=>c+2*k:=by
  unfold sliceRange;have HB:(if(2:Int)>0 then(if((min c us.length:Nat):Int)< (us.length:Int)then((us.length:Int)- ((min c us.length:Nat):Int)+2-1)/2 else 0)else(if((min c us.length:Nat):Int)> (us.length:Int)then(((min c us.length:Nat):Int)- (us.length:Int)-2-1)/ (-2)else 0)).toNat=(us.length-c+1)/2:=by rw[if_pos (by decide)];split<;>lia
  show(List.range (if(2:Int)>0 then(if((min c us.length:Nat):Int)< (us.length:Int)then((us.length:Int)- ((min c us.length:Nat):Int)+2-1)/2 else 0)else(if((min c us.length:Nat):Int)> (us.length:Int)then(((min c us.length:Nat):Int)- (us.length:Int)-2-1)/ (-2)else 0)).toNat).map _=_;rw[HB];refine List.map_congr_left λk hk=>?_;have:=mF.mp hk;lia
 rw[hr,List.filterMap_map];have hlen:(us.drop c).length=us.length-c:=sR;refine CT λi=>?_;rw[DM,yP];rw[MY (g:=λk=>us.getD (c+2*k) .none) λk hk=>by
  have:=mF.mp hk;show us.toArray[c+2*k]?=_;rw[List.getElem?_toArray,i8,cJ (by lia)];rfl]
 rw[dO];by_cases hi:i< (us.length-c+1)/2;rw[uR hi,jq,i8,cJ (by lia)];rfl;rw[iS (by rw[uS];lia),iS (by lia)];rfl
section
variable{X:Cx}{e k:ao}{lo:Option ao}{te:TE}{tl tk:TO}{pos p2:Pos}
theorem Vg(he:PE X e te)(hl:PO X lo tl)(hk:PO X (aB k) tk):PE X (.Subscript e (.Slice lo aC (aB k) p2) pos) (λσ H Q=>te σ H λx H1=>tl σ H1 λl H2=>tk σ H2 λo H3=>∃a xs c,x=.ref a/\c<=1/\l=(if c=0 then aC else aB 1)/\o=aB 2/\dh X.K H3 a xs/\∀p,H3 p=aC->Q (.ref p) (upd H3 p (.lst (cX (xs.drop c))))):=by intro pins s σ H Q I h;refine Subscript_ (bg (he pins s σ H _ I h) λv s1 z9=>z9.el λx H1 I1 r1 q1=>?_);refine wpAny_Slice ?_;refine bg (hl pins s1 σ H1 _ I1 q1) λvl s2 b9=>?_;obtain⟨l,H2,I2,pl,q2⟩:=b9;rw[evalPart_none];refine bS ?_;refine bg (hk pins s2 σ H2 _ I2 q2) λvk s3 b9=>?_;obtain⟨o,H3,I3,pk,q3⟩:=b9;obtain⟨a,xs,c,rfl,hc,rfl,rfl,hx,q⟩:=q3;cases r1;have I4:Inv X pins σ H3 {s3 with heap:=s3.heap.push {cls:=.type "slice",data:=.fields #[vl,.none,vk]}}:=I3.kept (t':=s3.toks) λb ob q=>di _ q;obtain⟨its,r,ht,hz⟩:=I4.list hx;have hlen:=r.length;show wpAny (model X.prog X.w) X.A (subscriptTail e (.Slice lo aC (aB k) p2) (.ref a) (.ref s3.heap.objs.size)) (EP X pins σ Q) X.xe {s3 with heap:=s3.heap.push {cls:=.type "slice",data:=.fields #[vl,.none,vk]}};refine tail_any (ops:=[.ref a,.ref s3.heap.objs.size]) ht.isList.typeIs slot_list_getitem.lookup ?_ (by with_unfolding_all rfl);refine wpAny_getItem_list_slice ht.isList (Heap.IsSliceOf.new ..) pl .none pk (by decide) ?_ (by rw[dU]<;>lia);rw[Br its c hc rfl];refine⟨.ref _,_,I4.laid (t':=s3.toks) (o:=.lst (cX (xs.drop c))) (λb ob q=>di _ q) (bf _) ?_,rfl,q _ (I4.hok.fresh (bf _))⟩;refine⟨?_,_,0,MX (r.drop c),iT _ rfl⟩;rw[LZ,sR];lia
end
theorem MZ:∀{ls:List Int} {us:List aa},Vals (ls.map .int) us->IntsAre us ls|[],_,.nil=>.nil|x::r,_,.cons ⟨t,e⟩ h=>by subst e;exact .cons x t (MZ h)
section
variable{X:Cx}
noncomputable def Vh:V->List V->Hp->VK->Prop:=λx vs H Q=>∃a b kvs more,x=.ref a/\vs=[.ref b]/\a≠b/\H a=aB (.dK kvs)/\H b=aB (.dK more)/\kvs.length+more.length<=sizeLine/\Q .aR (upd H a (.dK (pQ kvs more)))
theorem Vi:F0 X "dict.update" Vh:=by intro pins s σ H x vs v us Q I rx rv h;obtain⟨a,b,kvs,more,rfl,rfl,hne,hA,hB,hz,q⟩:=h;cases rx;obtain⟨u,rfl,ru⟩:=rv.one;cases ru;obtain⟨z1,hd1,Vj,Bs,M1⟩:=kj I.hok hA;obtain⟨z2,hd2,Vk,Bt,dd2⟩:=kj I.hok hB;refine call_meetsIn PySem.F.slot_dict_update M1.typeIs PySem.F.entry_dict_update (PySem.F.args_dict_update_2 _ _) (meets_dict_update (iC X.prog X.w) a b hne hd2) ⟨Vj,Vk,M1,dd2,by rw[<-xG Bs,<-xG Bt];exact hz,λh' mS _ hs=>?_⟩;have he:∃q,h'.get? a=aB q:=let⟨q,_,_,hq,_⟩:=mS;⟨q,hq⟩;exact⟨.aR,_,Al I (by rw[hA];exact True.intro) hs he (DA (iw (GG more kvs) hz) hd1 (KV.merge Bt Bs) mS),rfl,q⟩
end
section
variable{X:Cx}
theorem Vl(hc:X.calm):cG X (.builtin "max") (λxs H Q=>∃(p:ah) (ns:List Int),xs=[.ref p]/\dh X.K H p (ns.map .int)/\0<ns.length/\∀M,M∈ns->(∀a∈ns,a<=M)->Q (.int M) H):=by
 intro pins s σ H xs us Q I r h;obtain⟨p,ns,rfl,hq,hne,q⟩:=h;obtain⟨u,rfl,ru⟩:=vals1 r;cases ru;obtain⟨its,rv,pl,hz⟩:=I.list hq;have hL:s.heap.IsList p its.toArray:=pl.isList;have hi:=MZ rv;obtain⟨ys,hx⟩:=hi.allInts.items;have hl':s.heap.IsList p (intItems ys):=hx▸hL;have hns:ns=ys.toList.map (·.1):=by rw[<-nums_intItems,<-hx];exact(show numsOf its.toArray.toList=ns from hi.numsOf).symm
 have hsz:0<ys.size:=by rw[hns,bD,xF]at hne;exact hne
 refine max_intList (I.ok.hd hc) hl' hsz λv h' tk hv hk=>?_;obtain⟨t,rfl⟩:=intItems_at hv;obtain⟨h1,h2⟩:=argBest_gt (numAt ys) (ys.size-1);refine⟨.int _,H,I.kept (t':=tk) hk,⟨_,rfl⟩,q _ ?_ λa ha=>?_⟩;rw[hns,numAt_eq];exact getD_mem (by rw[bD,xF];lia);rw[hns]at ha;obtain⟨j,hj,rfl⟩:=mem_getD ha;rw[bD,xF]at hj;rw[<-numAt_eq];exact h2 j (by lia)
end
end L2
namespace RF
open PySem PySem.Spec PyProof.Rows L2
section
variable{K:aK}{m:Nat->ah}{h:VH}{H:Hp}
theorem Vm{a:ah}{u:HO}(e:H a=aB u):upd H a u=H:=by funext b;by_cases z:b=a;subst z;rw[fJ,e];rw[bZ z]
theorem Rel.HC(r:Rel K m h H){i:Nat}{kvs:List (Key×W)}(g:h.get i=aB (.dm kvs)):Rel K m (h.set i (.dk kvs)) H:=by
 obtain⟨vs,p1,p2⟩:=r.dm g;obtain⟨_,r'⟩:=r.write (i:=i) (o:=.dk kvs) (u:=.dK vs) (cA g) p1 (λ_ z=>nomatch z) (λ_ _ z=>nomatch z) λst=>⟨vs,.inl fJ,p2.stp st⟩
 rw[Vm p1]at r';exact r'
theorem aO.Bu{Q:VK}(k:aO K m h.n H (.ref h.n) (h.new (.dm [])) Q)(r:Rel K m h H){p:ah}(hp:H p=aC):Q (.ref p) (upd H p (.dK [])):=by obtain⟨st,r'⟩:=r.alloc (o:=.dm []) (u:=.dK []) hp (λ_ z=>nomatch z) (λst=>⟨[],fJ,.nil⟩);refine k _ _ _ st r' ?_;have:aL K (λi=>if i=h.n then p else m i) (h.n+1) (upd H p (.dK [])) (.ref ((λi=>if i=h.n then p else m i) h.n)) (.ref h.n):=.ref (fU _);simp only[cC]at this;exact this
end
section
variable{X:Cx}{e o a k:ao}{lo:Option ao}{fa fo:FE}{pos p2:Pos}
theorem Vn:SE X (.Dict [] [] pos) (jL lz vI):=RM.imp λσ H Q z9 p hp=>z9.el λρ h m w h' f r e k=>by
 cases e;exact aO.Bu k r hp
theorem Vo(he:SE X e fa):SE X e (jL (iK fa lz) m5):=he.imp λσ H Q z9=>z9.el λρ h m w h' f r e k=>by
 refine bI e λy h1 e1 e2=>?_;refine bI e1 λx h2 e3 e4=>?_;cases e4;refine(.mk f r e3 λv H1 m1 s1 r1 q1=>?_);dsimp only at e2;unfold m5 at e2;split at e2;rename_i i heq;cases heq;split at e2;rename_i kvs g;cases e2;exact k v H1 m1 s1 (r1.HC g) q1;cases e2;cases e2
theorem Vp{apos:Pos}(ho:SE X o fo)(he:SE X e fa)(hb:A1 o)(hs:gY e)(hl:(apos.endLine==pos.line)) :
 SE X (.Call (.Attribute o "update" apos) [e] [] pos) (G3 .update fo (iK fa lz)):=by
 refine(tF (X:=X) PySem.F.plainAttrs_dict PySem.F.slot_dict_update PySem.F.type_dict_update Vi ho (xS he zR (fS hs)) (G2 hb) ?_ hl (fS hs) rfl).imp λσ H Q z9=>z9.el λρ h m w h' f r e k=>?_;rw[fS hs];rfl;refine bI e λx h1 e1 e2=>?_;split at e2;rename_i hk;refine bI e2 λy h2 e3 e4=>?_;refine bI e3 λz h3 e5 e6=>?_;cases e6;refine(.mk f r e1 λv H1 m1 s1 r1 q1=>?_);cases x<;>try cases hk
 rename_i i;simp only[ly]at hk;split at hk;rename_i Vq g;cases q1;obtain⟨tH,p1,_⟩:=r1.dm g;refine⟨.inr (.inr (.inl ⟨rfl,.inl ⟨tH,p1⟩⟩)),ρ,h1,m1,z,h2,f.stp s1,r1,e5,λv2 H2 m2 s2 r2 q2=>?_⟩;cases z<;>try cases e4
 rename_i j;simp only[kR]at e4;unfold om at e4;split at e4;rename_i kvs more ga gb;split at e4;cases e4;rename_i hab;split at e4;rename_i hz;cases e4;cases q2;obtain⟨va,a1,a2⟩:=r2.dm ga;obtain⟨vb,b1,b2⟩:=r2.dm gb;have hne:m2 i≠m2 j:=λz=>hab (by rw[r2.inj _ _ (cA ga) (cA gb) z];exact Nat.beq_refl _);have hmi:m1 i=m2 i:=(s2.same i (cA g)).symm;have hz':va.length+vb.length<=sizeLine:=by rw[a2.length,b2.length,yN];have:=qw.mp hz;lia
 refine⟨m1 i,m2 j,va,vb,rfl,rfl,by rw[hmi];exact hne,by rw[hmi];exact a1,b1,hz',?_⟩;obtain⟨st,r'⟩:=r2.write (i:=i) (o:=.dm (xZ kvs more)) (u:=.dK (pQ va vb)) (cA ga) a1 (λ_ z=>nomatch z) (λ_ _ z=>nomatch z) λst=>⟨_,fJ,aN.merge (b2.stp st) (a2.stp st)⟩
 rw[hmi];exact k _ _ _ ((s1.trans s2).trans st) r' .aR;cases e4;cases e4;cases hk;cases e2
theorem aF.cX{K:aK}{m:Nat->ah}{n:Nat}{H:Hp}:∀{vs:List V} {ws:List W},aF K m n H vs ws->aF K m n H (L2.cX vs) (L2.cX ws)|_,_,.nil=>.nil|_,_,.cons q .nil=>.cons q .nil|_,_,.cons q (.cons _ r)=>.cons q r.cX
theorem aF.tZ{K:aK}{m:Nat->ah}{n:Nat}{H:Hp}:∀(c:Nat) {vs:List V} {ws:List W},aF K m n H vs ws->aF K m n H (vs.drop c) (ws.drop c)|0,_,_,q=>q|c+1,_,_,.nil=>.nil|c+1,_,_,.cons _ r=>r.tZ c
theorem Vr{w:W}{c:Nat}(h:rm w=aB c):c<=1/\((w=.aR/\c=0)\/(w=.int 1/\c=1)):=by unfold rm at h;split at h;cases h;exact⟨by decide,.inl ⟨rfl,rfl⟩⟩;split at h;rename_i q;cases h;subst q;exact⟨by decide,.inr ⟨rfl,rfl⟩⟩;cases h;cases h
end
section
variable{X:Cx}{a k:ao}{lo:Option ao}{x y z:E}{bl:Bool}{cl:Call}{pos p2:Pos}
theorem Vs(ha:SE X a (ev cl x))(hl:PO X lo (jd X.K bl (ev cl y)))(hk:SE X k (ev cl z))(hy:(bl=false/\y=.cst .aR)\/(bl=true/\y=.cst (.int 1))):SE X (.Subscript a (.Slice lo aC (aB k) p2) pos) (ev cl (.bi .st2 (.cons x (.cons y (.cons z .nil))))):=
 (Vg ha hl (Mh hk)).imp λσ H Q z9=>z9.el λρ h m w h' f r e k=>by
   refine bI e λw0 h1 e1 e2=>?_;refine bI e1 λw1 h2 e3 e4=>?_;refine bI e4 λw2 h3 e5 e6=>?_;refine bI e5 λw3 h4 e7 e8=>?_;refine bI e8 λw4 h5 e9 vM=>?_;refine bI e9 λw5 h6 nJ Vt=>?_;refine bI Vt λw6 h7 Vu Vv=>?_;cases Vu;cases Vv;cases vM;cases e6;have t6:m9 [w1,w3,w5] h1=.ok w h':=e2;clear e2;unfold m9 at t6;split at t6;rename_i i l kk heq;cases heq;split at t6;rename_i ws c g hc;split at t6;rename_i hk2;subst hk2;cases t6;obtain⟨hc1,hc2⟩:=Vr hc;refine .mk f r e3 λv1 H1 m1 s1 r1 q1=>?_;have hp:f9 bl w3=aB (if c=0 then aC else aB 1):=by rcases hy with⟨rfl,rfl⟩|⟨rfl,rfl⟩;cases e7;rcases hc2 with⟨_,rfl⟩|⟨z,_⟩;rfl;cases z;cases e7;rcases hc2 with⟨z,_⟩|⟨_,rfl⟩;cases z;rfl
   refine .mk (f.stp s1) r1 e7 hp λH2 m2 s2 r2=>?_;refine .mk ((f.stp s1).stp s2) r2 nJ rfl λH3 m3 s3 r3=>?_;cases(q1.stp s2).stp s3;obtain⟨vs,g1,g2⟩:=r3.lst g;refine⟨_,vs,c,rfl,hc1,rfl,rfl,dh.of g1,λp hp=>?_⟩;exact aO.list (λv' H' m' s' r' q'=>k v' H' m' (((s1.trans s2).trans s3).trans s') r' q') r3 (g2.tZ c).cX hp;cases t6;cases t6;cases t6
end
set_option genInjectivity false in
structure CC where
 N:List Str
 names:List (Str×NameKind)
 t7:Bool
noncomputable def oK:List Str->Str->Nat->Option Nat|[],_,_=>aC|y::r,x,i=>if y==x then aB i else oK r x (i+1)
theorem M3:∀{N:List Str} {x:Str} {k i:Nat},oK N x k=aB i->∃j,i=k+j/\N[j]?=aB x
 |[],_,_,_,e=>by cases e
 |y::r,x,k,i,e=>by
  unfold oK at e;split at e;rename_i h;cases e;exact⟨0,rfl,by simpa using h⟩;obtain⟨j,h1,h2⟩:=M3 e;exact⟨j+1,by lia,by simpa using h2⟩
theorem HE{N:List Str}{x:Str}{i:Nat}(e:oK N x 0=aB i):N[i]?=aB x:=by obtain⟨j,h1,h2⟩:=M3 e;rw[show i=j by lia];exact h2
noncomputable def rG:Option NameKind->Bool|some .local|some .cell|some .free=>true|_=>false
noncomputable def rH(all:Bool):Option NameKind->Bool|some .local=>true|some .cell=>all|_=>false
noncomputable def okN(x:Str):Bool:=!(x==("__debug__" : Str)) && !(x==("__classdict__" : Str)) && !(x==("__name__" : Str)) && !(x==("" : Str))
theorem Vw{x:Str}(h:okN x):x≠"":=by unfold okN at h;simp only[bQ,uX]at h;exact λz=>by rw[z]at h;simp at h
theorem yh{x:Str}(h:okN x):(x==("__debug__" : Str))=false/\(x==("__classdict__" : Str))=false/\x≠"__name__":=by unfold okN at h;simp only[bQ,uX]at h;exact⟨h.1.1.1,h.1.1.2,λz=>by rw[z]at h;simp at h⟩
noncomputable def oM(K:aK):Nat->aa->Option W
 |0,_=>aC
 |n+1,v=>match v with
  |.none=>aB .aR
  |.bool b=>aB (.bl b)
  |.int i _=>aB (.int i)
  |.str x _=>aB (.str x)
  |.ref a=>(match K.lookup a with
   |some o=>(match o.cls,o.dict,o.data with
    |.type t,aC,.seq its _=>if t == "tuple" && Nat.ble its.size 1000 then(bF (oM K n) its.toList).map .tup else aC
    |_,_,_=>aC)
   |none=>aC)
  |_=>aC
theorem M4{K:aK}{f:aa->Option W}(ih:∀v w,f v=aB w->∃x,RelV x v/\∀m n H,aL K m n H x w):∀{us:List aa} {ws:List W},bF f us=aB ws->∃xs,Vals xs us/\∀m n H,aF K m n H xs ws
 |[],_,e=>by cases e;exact⟨[],.nil,λ_ _ _=>.nil⟩
 |u::us,ws,e=>by
  unfold bF at e;split at e;rename_i b hb;split at e;rename_i bs Bv;cases e;obtain⟨x,h1,h2⟩:=ih u b hb;obtain⟨xs,h3,h4⟩:=M4 ih Bv;exact⟨x::xs,.cons h1 h3,λm n H=>.cons (h2 m n H) (h4 m n H)⟩;cases e;cases e
theorem M5{K:aK}:∀(n:Nat) (v:aa) (w:W),oM K n v=aB w->∃x,RelV x v/\∀m n H,aL K m n H x w
 |0,_,_,e=>by cases e
 |n+1,v,w,e=>by
  unfold oM at e;split at e;cases e;exact⟨.aR,rfl,λ_ _ _=>.aR⟩;cases e;exact⟨.bl _,rfl,λ_ _ _=>.bl _⟩;cases e;exact⟨.int _,⟨_,rfl⟩,λ_ _ _=>.int _⟩;cases e;exact⟨.str _,⟨_,rfl⟩,λ_ _ _=>.str _⟩;rename_i a;split at e;rename_i o ho;split at e;rename_i t its nn hc Vx hd;split at e;rename_i hz;rw[bQ]at hz;have ht:t = "tuple":=by simpa using hz.1
  subst ht;cases z:bF (oM K n) its.toList with
  |none=>rw[z]at e;cases e
  |some ws=>
   rw[z]at e;cases e;obtain⟨xs,h3,h4⟩:=M4 (M5 n) z;exact⟨.ref a,rfl,λm n H=>.tup (.inr ⟨o,its,nn,ho,hc,Vx,hd,sV (Lm (kY hz.2)),h3⟩) (h4 m n H)⟩
  cases e;cases e;cases e;cases e
noncomputable def cL(f:ao->Option E):List ao->Option E
 |[]=>aB .nil
 |e::es=>match f e,cL f es with
  |some a,aB r=>aB (.cons a r)
  |_,_=>aC
noncomputable def fnAt(K:aK)(x:Str):Option (ah×Obj×au):=match gh K x with
 |some f=>(match K.lookup f with
  |some o=>(match o.data with
   |.func fd=>aB (f,o,fd)
   |_=>aC)
  |none=>aC)
 |none=>aC
noncomputable def vS:Arguments->Option (List Arg)|⟨[],args,aC,[],[],aC,_⟩=>aB args|_=>aC
noncomputable def isNone:aa->Bool|.none=>true|_=>false
noncomputable def DY:Data->Bool
 |.seq xs _=>(match xs.toList with
  |[v]=>isNone v
  |_=>false)
 |_=>false
noncomputable def gj(K:aK):aa->Bool
 |.ref t=>(match K.lookup t with
  |some o=>DY o.data
  |none=>false)
 |_=>false
noncomputable def zev(K:aK)(x:Str)(n:Nat):Bool:=match fnAt K x with|some (_,_,fd)=>gj K fd.defaults&&Nat.beq (n+1) fd.params.args.length|none=>false
noncomputable def gM(K:aK)(x:Str):Bool:=match fnAt K x with|some (_,_,fd)=>gj K fd.defaults|none=>false
theorem Vy{K:aK}{x:Str}{n:Nat}(h:zev K x n):gM K x=true:=by unfold zev at h;unfold gM;split at h;rw[bQ]at h;exact h.1;cases h
noncomputable def nj:E->E|.nil=>.cons (.cst .aR) .nil|.cons a r=>.cons a (nj r)|e=>e
noncomputable def lY:E->Bool|.nil=>true|.cons _ r=>lY r|_=>false
theorem Vz{cl:Call}:∀{a:E},lY a=true->∀(ρ:En) (h:VH),ev cl (nj a) ρ h=(ev cl a ρ h).bind λy h=>match y with|.tup ys=>.ok (.tup (ys++[.aR])) h|_=>.no:=by
 intro a;induction a with
 |nil=>intro _ ρ h;rfl
 |cons x r _ ih=>
  intro ha ρ h;have ih:=ih ha;simp only[nj,ev];cases ev cl x ρ h with
  |no=>rfl
  |ex _ _=>rfl
  |ok w h1=>
   show Res.bind (ev cl (nj r) ρ h1) _=Res.bind (Res.bind (ev cl r ρ h1) _) _;rw[ih];cases ev cl r ρ h1 with|no=>rfl|ex _ _=>rfl|ok y h2=>cases y<;>rfl
 |_=>intro ha;cases ha
theorem M6{f:ao->Option E}:∀{es:List ao} {a:E},cL f es=aB a->lY a=true
 |[],_,h=>by cases h;rfl
 |e::es,a,h=>by
  unfold cL at h;split at h;rename_i x r h1 h2;cases h;show lY r=true;exact M6 h2;cases h
noncomputable def DZ(f:ao->Option E):List (Option ao)->List ao->Option E
 |[],[]=>aB .nil
 |some k::ks,v::vs=>match f k,f v,DZ f ks vs with
  |some a,aB b,aB r=>aB (.cons a (.cons b r))
  |_,_,_=>aC
 |_,_=>aC
noncomputable def cB(and:Bool)(f:ao->Option E):List ao->Option E
 |[]=>aC
 |[a]=>f a
 |a::b::r=>match f a,cB and f (b::r)with
  |some x,aB y=>aB (if and then .and x y else .or x y)
  |_,_=>aC
noncomputable def cO(f:ao->Option E):Option ao->Option (Bool×E)|none=>aB (false,.cst .aR)|some e=>(f e).map λc=>(true,c)
noncomputable def yi(K:aK)(C:CC)(x:Str):Bool:=C.names.lookup x==aB .globalImplicit&& (match PySem.W.nsIn K mainGlobals x with|some aC=>true|_=>false)
noncomputable def vU(x:Str):Option Ty:=
 if x==("int" : Str)then aB .int else if x==("bool" : Str)then aB .bool else if x==("tuple" : Str)then aB .tuple else if x==("list" : Str)then aB .list else if x==("str" : Str)then aB .str else if x==("dict" : Str)then aB .dict else aC
noncomputable def VA(f:Str)(args:List ao):Option ao:=if f==("list" : Str)then(match args with|[.Call (.Name g _) [a] [] _]=>if g==("range" : Str)then aB a else aC|_=>aC)else aC
noncomputable def vV(x:Str):Option Bi:=
 if x==("len" : Str)then aB .len else if x==("list" : Str)then aB .list else if x==("tuple" : Str)then aB .tuple else if x==("int" : Str)then aB .int else if x==("abs" : Str)then aB .abs else if x==("max" : Str)then aB .max else if x==("min" : Str)then aB .min else if x==("all" : Str)then aB .all else aC
noncomputable def M7:ao->Bool|.Tuple ..=>true|_=>false
noncomputable def vW:Kd->ao->Bool|.lX,t=>M7 t|.zip,t=>M7 t|_,_=>true
noncomputable def gO(C:CC):ao->Option Nat|.Name x _=>if okN x&&rH C.t7 (C.names.lookup x)then oK C.N x 0 else aC|_=>aC
noncomputable def vX(C:CC):ao->Option Tg
 |.Name x p=>(gO C (.Name x p)).map .one
 |.Tuple [e,.Tuple es _ _] _ _=>(match bF (gO C) es,gO C e with
  |some is,aB j=>aB (.AD j is)
  |_,_=>aC)
 |.Tuple es _ _=>(bF (gO C) es).map .many
 |_=>aC
noncomputable def ownOf(sc:ay):List Str:=(sc.names.filter λy=>(y.2 == .local||y.2 == .cell) && !(y.1==(".0" : Str))).map (·.1)
noncomputable def eX(sc:ay):List Str:=(sc.names.filter λy=>y.2 == .free).map (·.1)
noncomputable def oN(C:CC)(sc:ay)(ix:List Nat):Bool:=
 decide (sc.kind=.function)&&sc.names.all (λy=>decide (y.2=.cell->sc.names.lookup y.1=aB .cell))&&sc.names.all (λy=>decide (y.2=.free->sc.names.lookup y.1=aB .free))&&sc.names.all (λy=>decide (y.2=.local->sc.names.lookup y.1=aB .local)) &&
 (ownOf sc).all (λx=>decide (sc.names.lookup x=aB .local\/sc.names.lookup x=aB .cell))&&sc.names.all (λy=>decide (y.2=.free->C.names.lookup y.1=aB .cell\/C.names.lookup y.1=aB .free))&&decide (ix.length=(eX sc).length) &&
 ((List.range (eX sc).length).all λk=>match(eX sc)[k]?,ix[k]? with|some x,aB j=>decide (C.N[j]?=aB x)&&decide (sc.names.lookup x=aB .free)|_,_=>false)&&decide (ownOf sc++eX sc).Nodup
noncomputable def jg(sc:ay):CC:=⟨ownOf sc++eX sc,sc.names,true⟩
noncomputable def vY(bl:Bool)(l:E):Bool:=match l with
 |.cst w=>(match w with
  |.aR=>!bl
  |.int i=>bl&&decide (i=1)
  |_=>false)
 |_=>false
theorem VB{bl:Bool}{l:E}(h:vY bl l):(bl=false/\l=.cst .aR)\/(bl=true/\l=.cst (.int 1)):=by unfold vY at h;split at h;split at h;exact .inl ⟨by simpa using h,rfl⟩;rw[bQ,gz]at h;obtain⟨h1,rfl⟩:=h;exact .inr ⟨h1,rfl⟩;cases h;cases h
noncomputable def VC(x:Str):Bool:=x==("rockers" : Str)
noncomputable def M8(C:CC)(x:Str):Bool:=VC x&& (oK C.N ("doors" : Str) 0).isNone
mutual
noncomputable def cE(K:aK)(T:List Str):Nat->CC->ao->Option E
 |0,_,_=>aC
 |n+1,C,e=>match e with
  |.Name x _=>if okN x then(if rG (C.names.lookup x)then(oK C.N x 0).map .var
   else if C.names.lookup x==aB .globalImplicit then(match PySem.W.nsIn K mainGlobals x with|some (aB v)=>(oM K 8 v).map .cst|_=>aC)else aC)else aC
  |.Constant c _ _=>(match c with
   |.int i=>aB (.cst (.int i))
   |.bool b=>aB (.cst (.bl b))
   |.none=>aB (.cst .aR)
   |.str x=>aB (.cst (.str x))
   |_=>aC)
  |.Tuple es _ _=>(cL (cE K T n C) es).map .tup
  |.List es _=>(cL (cE K T n C) es).map .lst
  |.Dict ks vs _=>(match ks with
   |[]=>(match vs with
    |[]=>aB (.bi .GU .nil)
    |_::_=>aC)
   |k::ks=>if Nat.ble (k::ks).length 15&&Nat.beq (k::ks).length vs.length&& (k::ks).all (·.isSome)then(DZ (cE K T n C) (k::ks) vs).map .AE else aC)
  |.BinOp a O b _=>(match AN O,cE K T n C a,cE K T n C b with
   |some o,aB x,aB y=>aB (.op o x y)
   |_,_,_=>aC)
  |.UnaryOp o a _=>(match o with
   |.Not=>(cE K T n C a).map .not
   |.USub=>(cE K T n C a).map .neg
   |_=>aC)
  |.BoolOp o es _=>(match o with
   |.And=>cB true (cE K T n C) es
   |.Or=>cB false (cE K T n C) es)
  |.Compare a Os bs _=>(match Os,bs with
   |[O],[b]=>if pS b then(match gK O,cE K T n C a,cE K T n C b with
   |some c,aB x,aB y=>aB (.cmp c x y)
   |_,_,_=>aC)else aC
   |[O,O'],[b,c]=>if pS c then(match gK O,gK O',cE K T n C a,cE K T n C b,cE K T n C c with
   |some o,aB o',aB x,aB y,aB z=>aB (.qY o o' x y z)
   |_,_,_,_,_=>aC)else aC
   |_,_=>aC)
  |.IfExp c a b _=>(match cT K T n C c,cE K T n C a,cE K T n C b with
   |some z,aB x,aB y=>aB (.ite z x y)
   |_,_,_=>aC)
  |.Subscript a b _=>(match b with
   |.Slice lo hi st _=>(match st with
    |none=>(match cE K T n C a,cO (cE K T n C) lo,cO (cE K T n C) hi with
   |some x,aB (bl,l),aB (bh,u)=>aB (.slc x bl l bh u)
   |_,_,_=>aC)
    |some s=>(match hi with
     |none=>(match cE K T n C a,cO (cE K T n C) lo,cE K T n C s with
      |some x,aB (bl,l),aB y=>if vY bl l then aB (.bi .st2 (.cons x (.cons l (.cons y .nil))))else aC
      |_,_,_=>aC)
     |some _=>aC))
   |b=>if Bk b then(match cE K T n C a,cE K T n C b with
   |some x,aB y=>aB (.idx x y)
   |_,_=>aC)else aC)
  |.Call fn args kw pos=>(match kw with
   |[]=>(match fn with
    |.Name f _=>if okN f&&C.names.lookup f==aB .globalImplicit then(match PySem.W.nsIn K mainGlobals f with
     |some aC=>if f==("isinstance" : Str)then(match args with
      |[a,.Name t _]=>(match vU t,cE K T n C a with
       |some ty,aB x=>if okN t&&yi K C t then aB (.oj ty x)else aC
       |_,_=>aC)
      |_=>aC)
      else(match vV f,args with|some b,_::_=>(cL (cE K T n C) args).map (.bi b)|_,_=>aC)
     |some (aB _)=>(match oK T f 0 with
      |some i=>if zev K f args.length && !args.isEmpty then(cL (cE K T n C) args).map (λa=>.call i (nj a))else(cL (cE K T n C) args).map (.call i)
      |none=>aC)
     |none=>aC)else aC
    |.Attribute o HF ap=>if A1 o&& (ap.endLine==pos.line)then(match cE K T n C o,args with
     |some x,[a]=>if HF==("append" : Str)then(cE K T n C a).map λy=>.mt .append x (.cons y .nil)else if HF==("update" : Str)then(cE K T n C a).map λy=>.mt .update x (.cons y .nil)else aC
     |some x,[a,b]=>if HF==("get" : Str)then(match cE K T n C a,cE K T n C b with
      |some y,aB z=>aB (.mt .get x (.cons y (.cons z .nil)))
      |_,_=>aC)else aC
     |_,_=>aC)else aC
    |_=>aC)
   |_=>aC)
  |.ListComp elt gs sc _=>(match gs with
   |[g]=>(match g with
    |⟨tg,iter,ifs,0⟩=>(match bF (λx=>oK C.N x 0) (eX sc)with
     |some ix=>if oN C sc ix then(match cW K T n C iter,vX (jg sc) tg,(match ifs with|[]=>aB (.cst (.bl true))|[c]=>cT K T n (jg sc) c|_=>aC),cE K T n (jg sc) elt with
      |some (kd,a),aB t,aB c,aB e=>if vW kd tg then aB (.lc kd a t (ownOf sc).length ix c e)else aC
      |_,_,_,_=>aC)else aC
     |none=>aC)
    |_=>aC)
   |[g,g2]=>(match g with
    |⟨tg,iter,ifs,0⟩=>(match g2 with
     |⟨gJ,bz,dI,0⟩=>(match bF (λx=>oK C.N x 0) (eX sc)with
      |some ix=>if oN C sc ix then(match cW K T n C iter,vX (jg sc) tg,(match ifs with|[]=>aB (E.cst (.bl true))|[c]=>cT K T n (jg sc) c|_=>aC),cE K T n (jg sc) elt with
       |some (kd,a),aB t,aB c,aB e=>if vW kd tg then(match cW K T n (jg sc) bz,vX (jg sc) gJ,(match dI with|[]=>aB (E.cst (.bl true))|[c]=>cT K T n (jg sc) c|_=>aC)with
        |some (iM,a2),aB t2,aB c2=>if vW iM gJ then aB (.xX kd a t (ownOf sc).length ix c iM a2 t2 c2 e)else aC
        |_,_,_=>aC)else aC
       |_,_,_,_=>aC)else aC
      |none=>aC)
     |_=>aC)
    |_=>aC)
   |_=>aC)
  |.DictComp ek ni gs sc _=>(match gs with
   |[g]=>(match g with
    |⟨tg,iter,ifs,0⟩=>(match bF (λx=>oK C.N x 0) (eX sc)with
     |some ix=>if oN C sc ix then(match cW K T n C iter,vX (jg sc) tg,(match ifs with|[]=>aB (.cst (.bl true))|[c]=>cT K T n (jg sc) c|_=>aC),cE K T n (jg sc) ek,cE K T n (jg sc) ni with
      |some (kd,a),aB t,aB c,aB e,aB v=>if vW kd tg then aB (.dc kd a t (ownOf sc).length ix c e v)else aC
      |_,_,_,_,_=>aC)else aC
     |none=>aC)
    |_=>aC)
   |_=>aC)
  |_=>aC
noncomputable def cT(K:aK)(T:List Str):Nat->CC->ao->Option E
 |0,_,_=>aC
 |n+1,C,e=>match e with
  |.Compare a Os bs _=>(match Os,bs with
   |[O],[b]=>if pS b then(match gK O,cE K T n C a,cE K T n C b with
   |some c,aB x,aB y=>aB (.cmp c x y)
   |_,_,_=>aC)else aC
   |[O,O'],[b,c]=>if pS c then(match gK O,gK O',cE K T n C a,cE K T n C b,cE K T n C c with
   |some o,aB o',aB x,aB y,aB z=>aB (.qY o o' x y z)
   |_,_,_,_,_=>aC)else aC
   |_,_=>aC)
  |.UnaryOp o a _=>(match o with
   |.Not=>(cT K T n C a).map .not
   |_=>aC)
  |.BoolOp o es _=>(match o with
   |.And=>cB true (cT K T n C) es
   |.Or=>cB false (cT K T n C) es)
  |.Name x p=>(cE K T n C (.Name x p)).map .kQ
  |.Call f as ks p=>(cE K T n C (.Call f as ks p)).map .kQ
  |.Subscript a b p=>(cE K T n C (.Subscript a b p)).map .kQ
  |_=>aC
noncomputable def cW(K:aK)(T:List Str):Nat->CC->ao->Option (Kd×E)
 |0,_,_=>aC
 |n+1,C,e=>match e with
  |.Call (.Name f p) args [] pos=>if f==("range" : Str)then(if yi K C f then(match args with
   |[a]=>(cE K T n C a).map λx=>(.bV,.cons x .nil)
   |[a,b]=>(match cE K T n C a,cE K T n C b with
    |some x,aB y=>aB (.mV,.cons x (.cons y .nil))
    |_,_=>aC)
   |_=>aC)else aC)
   else if f==("enumerate" : Str)then(if yi K C f then(match args with|[a]=>(cE K T n C a).map λx=>(.lX,x)|_=>aC)else aC)
   else if f==("zip" : Str)then(if yi K C f then(match args with
    |[a,b]=>(match cE K T n C a,cE K T n C b with
     |some x,aB y=>aB (.zip,.cons x (.cons y .nil))
     |_,_=>aC)
    |_=>aC)else aC)
   else(cE K T n C (.Call (.Name f p) args [] pos)).map λx=>(.seq,x)
  |.Set ..=>aC
  |.Name x p=>(cE K T n C (.Name x p)).map λc=>if M8 C x then(.keys,.bi .bC (.cons c .nil))else(.seq,c)
  |e=>(cE K T n C e).map λx=>(.seq,x)
end
noncomputable def oO(f:aq->Option S):List aq->Option S
 |[]=>aB .skip
 |s::r=>match f s,oO f r with
  |some a,aB b=>aB (.seq a b)
  |_,_=>aC
noncomputable def cS(K:aK)(T:List Str)(d:Nat):Nat->CC->aq->Option S
 |0,_,_=>aC
 |n+1,C,s=>match s with
  |.Pass _=>aB .skip
  |.Break _=>aB .brk
  |.Continue _=>aB .cnt
  |.Raise ..=>aB .no
  |.Return r _=>(match r with
   |none=>aB (.ret (.cst .aR))
   |some e=>(cE K T d C e).map .ret)
  |.Expr e _=>if DV e then(cE K T d C e).map .expr else aC
  |.Assign l e _=>(match l with
   |[t]=>(match t with
    |.Name x p=>(match gO C (.Name x p),cE K T d C e with
    |some i,aB c=>aB (.set i c)
    |_,_=>aC)
    |.Tuple ts _ _=>if oH e then(match bF (gO C) ts,cE K T d C e with
    |some is,aB c=>aB (.vF is c)
    |_,_=>aC)else aC
    |.Subscript o i _=>if Bk i then(match cE K T d C o,cE K T d C i,cE K T d C e with
    |some x,aB y,aB z=>aB (.put x y z)
    |_,_,_=>aC)else aC
    |_=>aC)
   |_=>aC)
  |.AugAssign t O e _=>(match t with
   |.Name x p=>(match gO C (.Name x p),rF O,cE K T d C e with
    |some i,aB o,aB c=>aB (.aug i o c)
    |_,_,_=>aC)
   |_=>aC)
  |.If c a b _=>(match cT K T d C c,oO (cS K T d n C) a,oO (cS K T d n C) b with
   |some z,aB x,aB y=>aB (.ite z x y)
   |_,_,_=>aC)
  |.For tg it b el _=>(match el with
   |[]=>(match cW K T d C it,vX C tg,oO (cS K T d n C) b with
    |some (kd,a),aB t,aB x=>if vW kd tg then aB (.for kd a t x)else aC
    |_,_,_=>aC)
   |_=>aC)
  |.While c b el _=>(match el with
   |[]=>(match cT K T d C c,oO (cS K T d n C) b with
    |some z,aB x=>aB (.xY z x)
    |_,_=>aC)
   |_=>aC)
  |_=>aC
structure gZ(X:Cx)(C:CC)(T:List Str)(F:Nat->Option Fn)(k:Nat):Prop where
 hN:X.N=C.N
 nd:C.N.Nodup
 vis:∀x,rG (C.names.lookup x)=true->xM X.env.scope x
 loc:∀x,rH C.t7 (C.names.lookup x)=true->Loc X.env.scope x/\(X.fn x=true\/X.env.scope.names.lookup x=aB .local)
 gl:∀x,C.names.lookup x=aB .globalImplicit->Gl X x
 cf:∀x,(C.names.lookup x=aB .cell\/C.names.lookup x=aB .free)->X.env.kindOf x=aB .cell\/X.env.kindOf x=aB .free
 calm:X.calm=true
 room:dB k X.A
 xe:X.xe=λ_ _=>False
 M9:X.env.scope.kind=.function
 Bw:∀x v,PySem.W.nsIn X.K mainGlobals x=aB (aB v)->X.mg x=aB v
 HG:∀x,PySem.W.nsIn X.K mainGlobals x=aB aC->X.mg x=aC
 fns:∀(i:Nat)(x:Str),T[i]?=aB x->x≠""->∃f fd ps fn,gh X.K x=aB f/\fK X.prog X.w X.K X.mg X.base lS k f fd ps (oA X.K ps.length (run F k i))/\PySem.W.keepIn X.K (.ref f)=true/\Binds X.K fd ps []/\F i=aB fn/\fn.ps=ps.length/\(gM X.K x=true->Binds X.K fd ps [.none])
section
variable{X:Cx}{C:CC}{T:List Str}{F:Nat->Option Fn}{k:Nat}
theorem gZ.D0(O:gZ X C T F k):X.A.units+65<cLine:=by have:=O.room.un;lia
theorem gZ.u2(O:gZ X C T F k):X.A.units+2<cLine:=C1 (Nat.add_le_add_left (by decide:2<=64) _) O.room.units
theorem gZ.u1(O:gZ X C T F k):X.A.units+1<cLine:=C1 (Nat.add_le_add_left (by decide:1<=64) _) O.room.units
theorem D4(O:gZ X C T F k){x:Str}(h:yi X.K C x):Gl X x/\X.mg x=aC:=by unfold yi at h;rw[bQ]at h;refine⟨O.gl x (by simpa using h.1),O.HG x ?_⟩;have h2:=h.2;split at h2;assumption;cases h2
theorem kE(O:gZ X C T F k){e:ao}{i:Nat}(h:gO C e=aB i):lA X e i:=by unfold gO at h;split at h;split at h;rename_i hc;rw[bQ]at hc;obtain⟨h1,h2⟩:=O.loc _ hc.2;exact⟨_,_,rfl,by rw[O.hN];exact HE h,h1,h2⟩;cases h;cases h
theorem D5(O:gZ X C T F k):∀{es:List ao} {is:List Nat},bF (gO C) es=aB is->Paired (lA X) es is
 |[],_,h=>by cases h;exact .nil
 |e::es,is,h=>by
  unfold bF at h;split at h;rename_i b hb;split at h;rename_i bs Bv;cases h;exact .cons (kE O hb) (D5 O Bv);cases h;cases h
theorem kF(O:gZ X C T F k){e:ao}{t:Tg}(h:vX C e=aB t):PG X e (cK X.K t):=by
 unfold vX at h;split at h;rename_i x p;cases z:gO C (.Name x p)with
 |none=>rw[z]at h;cases h
 |some i=>
  rw[z]at h;cases h;obtain⟨x',p',e,h1,h2,h3⟩:=kE O z;cases e;exact Mz (O.hN▸O.nd) h1 h2 h3
 split at h;rename_i is j z z2;cases h;obtain⟨x',p',e,h1,h2,h3⟩:=kE O z2;exact Uq O.calm (O.hN▸O.nd) (D5 O z) ⟨x',p',e,h1,h2,h3⟩;cases h;rename_i es kx p _;cases z:bF (gO C) es with|none=>rw[z]at h;cases h|some is=>rw[z]at h;cases h;exact G8 O.calm (O.hN▸O.nd) (D5 O z)
 cases h
theorem jy{f:ao->Option E}{cl:Call}(ih:∀e c,f e=aB c->SE X e (ev cl c)/\gY e):∀{es:List ao} {c:E},cL f es=aB c->SA X es (ev cl c)/\es.all gY=true
 |[],_,h=>by cases h;exact⟨DQ,rfl⟩
 |e::es,c,h=>by
  unfold cL at h;split at h;rename_i a r ha hr;cases h;obtain⟨h1,h2⟩:=ih e a ha;obtain⟨h3,h4⟩:=jy ih hr;exact⟨yb h1 h3 (fS h2),by rw[pK,h2,h4];rfl⟩;cases h
theorem Na{f:ao->Option E}{cl:Call}{pos:Pos}(ih:∀e c,f e=aB c->SE X e (ev cl c)/\gY e):∀{ks:List (Option ao)} {vs:List ao} {c:E},DZ f ks vs=aB c->A2 X pos ks vs (ev cl c)
 |[],[],_,h=>by cases h;exact TY
 |[],_::_,_,h=>by cases h
 |none::_,_,_,h=>by cases h
 |some _::_,[],_,h=>by cases h
 |some a::ks,v::vs,c,h=>by
  unfold DZ at h;split at h;rename_i x y r hx hy hr;cases h;exact TZ (ih _ _ hx).1 (ih _ _ hy).1 (Na ih hr);cases h
theorem lZ{f:ao->Option E}{cl:Call}{pos:Pos}(ih:∀e c,f e=aB c->SE X e (ev cl c)/\gY e):∀{es:List ao} {c:E},(cB true f es=aB c->SE X (.BoolOp .And es pos) (ev cl c))/\(cB false f es=aB c->SE X (.BoolOp .Or es pos) (ev cl c))
 |[],_=>⟨(λh=>nomatch h),(λh=>nomatch h)⟩
 |[a],c=>⟨λh=>Mf (ih a c h).1,λh=>Mf (ih a c h).1⟩
 |a::b::r,c=>by
  refine⟨λh=>?_,λh=>?_⟩;unfold cB at h;split at h;rename_i x y hx hy;cases h;exact Te (ih a x hx).1 ((lZ ih).1 hy);cases h;unfold cB at h;split at h;rename_i x y hx hy;cases h;exact AV (ih a x hx).1 ((lZ ih).2 hy);cases h
theorem D7{f:ao->Option E}{cl:Call}{pos:Pos}(ih:∀e c,f e=aB c->ST X e (ev cl c)):∀{es:List ao} {c:E},(cB true f es=aB c->SW X (.BoolOp .And es pos) (ev cl c))/\(cB false f es=aB c->SW X (.BoolOp .Or es pos) (ev cl c))
 |[],_=>⟨(λh=>nomatch h),(λh=>nomatch h)⟩
 |[a],c=>⟨λh=>Me (ih a c h),λh=>Me (ih a c h)⟩
 |a::b::r,c=>by
  refine⟨λh=>?_,λh=>?_⟩;unfold cB at h;split at h;rename_i x y hx hy;cases h;exact Td (ih a x hx) ((D7 ih).1 hy);cases h;unfold cB at h;split at h;rename_i x y hx hy;cases h;exact AU (ih a x hx) ((D7 ih).2 hy);cases h
theorem oQ{f:ao->Option E}{cl:Call}(ih:∀e c,f e=aB c->SE X e (ev cl c)/\gY e){o:Option ao}{b:Bool}{c:E}(h:cO f o=aB (b,c)):PO X o (jd X.K b (ev cl c)):=by
 unfold cO at h;split at h;cases h;exact To;rename_i e;cases z:f e with|none=>rw[z]at h;cases h|some c'=>rw[z]at h;cases h;exact Mh (ih _ _ z).1
theorem VD{x:Str}{t:Ty}(h:vU x=aB t):bootBuiltins x=aB (.type (rA t)):=by unfold vU at h;split at h;rename_i e;cases h;rw[show x = "int" by simpa using e];exact PyProof.Rows.boot_int;split at h;rename_i e;cases h;rw[show x = "bool" by simpa using e];decide +kernel;split at h;rename_i e;cases h;rw[show x = "tuple" by simpa using e];exact PyProof.Rows.boot_tuple;split at h;rename_i e;cases h;rw[show x = "list" by simpa using e];exact PyProof.Rows.boot_list;split at h;rename_i e;cases h;rw[show x = "str" by simpa using e];decide +kernel;split at h;rename_i e;cases h;rw[show x = "dict" by simpa using e];decide +kernel;cases h
theorem Bx{x:Str}{b:Bi}{e:ao}{es:List ao}{fa:FE}{p pos:Pos}(h:vV x=aB b)(hg:Gl X x)(hm:X.mg x=aC)(hn:okN x)(hc:X.calm)(ha:SA X (e::es) fa)(hs:(e::es).all gY):SE X (.Call (.Name x p) (e::es) [] pos) (jL fa (lu b)):=by
 obtain⟨n1,_,n2⟩:=yh hn;unfold vV at h;split at h;rename_i z;cases h;have z:x = "len":=by simpa using z
 subst z;exact AZ Q9 Tr hg hm PySem.boot_len ha hs n2 n1;split at h;rename_i z;cases h;have z:x = "list":=by simpa using z
 subst z;exact G1 Ra Tt hg hm PyProof.Rows.boot_list ha hs n2 n1;split at h;rename_i z;cases h;have z:x = "tuple":=by simpa using z
 subst z;exact G1 Rb Tu hg hm PyProof.Rows.boot_tuple ha hs n2 n1;split at h;rename_i z;cases h;have z:x = "int":=by simpa using z
 subst z;exact G1 QE Tv hg hm PyProof.Rows.boot_int ha hs n2 n1;split at h;rename_i z;cases h;have z:x = "abs":=by simpa using z
 subst z;exact AZ QB Tw hg hm (by decide +kernel) ha hs n2 n1;split at h;rename_i z;cases h;have z:x = "max":=by simpa using z
 subst z;exact AZ ((QC hc).or (Vl hc)) Tz hg hm (by decide +kernel) ha hs n2 n1;split at h;rename_i z;cases h;have z:x = "min":=by simpa using z
 subst z;exact AZ (QD hc) TF hg hm (by decide +kernel) ha hs n2 n1;split at h;rename_i z;cases h;have z:x = "all":=by simpa using z
 subst z;exact AZ (Sy hc) TH hg hm (by decide +kernel) ha hs n2 n1;cases h
theorem VE{b:ao}(h:Bk b):FZ b:=λo i=>by cases b<;>first|rfl|cases h
end
section
variable{X:Cx}{C:CC}{T:List Str}{F:Nat->Option Fn}{k:Nat}
theorem t8{env:Env}{kd:NameKind}(hk:kd≠.free):∀{l:List (Str×NameKind)} {x:Str},l.lookup x=aB kd->
 (l.map λ(n,k)=>if(k==NameKind.free&&env.scope.kind == .function&&env.kindOf n==aB .cell)then(n,NameKind.cell)else(n,k)).lookup x=aB kd
 |[],_,h=>by cases h
 |(n,j)::r,x,h=>by
  rw[fF];simp only[gA]at h;by_cases hx:(x==n)=true;simp only[hx]at h;cases h;have:(kd==NameKind.free)=false:=by simpa using hk
  simp only[this,xA,fG,ez,gA,hx];have hx':(x==n)=false:=by simpa using hx
  simp only[hx']at h;have ih:=t8 (env:=env) hk (l:=r) (x:=x) h;by_cases hc':(j==NameKind.free&&env.scope.kind == .function&&env.kindOf n==aB .cell)=true;simp only[hc',cC,gA,hx'];exact ih;have hcf:(j==NameKind.free&&env.scope.kind == .function&&env.kindOf n==aB .cell)=false:=by simpa using hc'
  simp only[hcf,fG,ez,gA,hx'];exact ih
theorem D8(O:gZ X C T F k){sc:ay}{ix:List Nat}(h:oN C sc ix):aW X (ownOf sc) (eX sc) ix sc/\(ownOf sc++eX sc).Nodup:=by
 unfold oN at h;simp only[bQ,gz,ic]at h;obtain⟨⟨⟨⟨⟨⟨⟨⟨h1,h2⟩,h2'⟩,h3⟩,h4⟩,h5⟩,h6⟩,h7⟩,h8⟩:=h;refine⟨⟨h1,h2,h3,h4,h2',λy hy e=>O.cf _ (h5 y hy e),λq x e=>?_,h6⟩,h8⟩;have hk:q< (eX sc).length:=(iB.mp e).1;have:=h7 q (mF.mpr hk);rw[e]at this;cases z:ix[q]? with
 |none=>rw[z]at this;cases this
 |some j=>
  rw[z]at this;simp only[bQ,gz]at this;exact⟨j,rfl,by rw[O.hN];exact this.1,this.2⟩
theorem t9(O:gZ X C T F k){sc:ay}{ix:List Nat}(h:oN C sc ix)(D:ah)(s₀:af)(H₀:Hp)(ex:List ah):gZ (X.comp (ownOf sc++eX sc) sc D s₀ H₀ ex) (jg sc) T F k:=by
 obtain⟨S,nd⟩:=D8 O h;refine⟨rfl,nd,λx hx=>?_,λx hx=>?_,λx hx=>?_,λx hx=>?_,O.calm,O.room,rfl,S.kind,O.Bw,O.HG,O.fns⟩;have hx:rG (sc.names.lookup x)=true:=hx;cases z:sc.names.lookup x with
 |none=>rw[z]at hx;cases hx
 |some kd=>
  cases kd with
  | «local»=>exact .inl (t8 (by decide) z)
  |cell=>exact .inr (.inl (t8 (by decide) z))
  |free=>
   have:=Dt (env:=X.env) O.M9 z;by_cases hc:X.env.kindOf x=aB .cell;rw[if_pos hc]at this;exact .inr (.inl this);rw[if_neg hc]at this;exact .inr (.inr this)
  |globalExplicit=>rw[z]at hx;cases hx
  |globalImplicit=>rw[z]at hx;cases hx
 have hx:rH true (sc.names.lookup x)=true:=hx;cases z:sc.names.lookup x with
 |none=>rw[z]at hx;cases hx
 |some kd=>
  cases kd with| «local»=>exact⟨.inl (t8 (by decide) z),.inr (t8 (by decide) z)⟩|cell=>exact⟨.inr (t8 (by decide) z),.inl (by show(sc.names.lookup x==aB NameKind.cell)=true;rw[z];rfl)⟩|free=>rw[z]at hx;cases hx|globalExplicit=>rw[z]at hx;cases hx|globalImplicit=>rw[z]at hx;cases hx
 exact t8 (by decide) hx;have hx:sc.names.lookup x=aB .cell\/sc.names.lookup x=aB .free:=hx;rcases hx with z|z
 exact .inl (t8 (by decide) z);have:=Dt (env:=X.env) O.M9 z;by_cases hc:X.env.kindOf x=aB .cell;rw[if_pos hc]at this;exact .inl this;rw[if_neg hc]at this;exact .inr this
end
theorem map_some{α β:Type}{o:Option α}{f:α->β}{b:β}(h:o.map f=aB b):∃a,o=aB a/\b=f a:=by
 cases o with|none=>cases h|some a=>cases h;exact⟨a,rfl,rfl⟩
structure lC(X:Cx)(C:CC)(T:List Str)(F:Nat->Option Fn)(k n:Nat):Prop where
 e:∀e c,cE X.K T n C e=aB c->SE X e (ev (run F k) c)/\gY e=true
 t:∀e c,cT X.K T n C e=aB c->ST X e (ev (run F k) c)
 w:∀e kd c tg,cW X.K T n C e=aB (kd,c)->vW kd tg=true->PI X tg e (cy X.K kd (ev (run F k) c))/\∀x,foldedSetIterable e X.env x=pure x
section
variable{X:Cx}{C:CC}{T:List Str}{F:Nat->Option Fn}{k n:Nat}
theorem By(O:gZ X C T F k)(ih:lC X C T F k n)(e:ao)(c:E)(h:cT X.K T (n+1) C e=aB c):ST X e (ev (run F k) c):=by unfold cT at h;split at h;split at h;split at h;rename_i hs;split at h;rename_i h1 h2 h3;cases h;exact S6 O.D0 h1 hs (ih.e _ _ h2).1 (ih.e _ _ h3).1;cases h;cases h;split at h;rename_i hs;split at h;rename_i h1 h2 h3 h4 h5;cases h;exact S8 O.D0 h1 h2 hs (ih.e _ _ h3).1 (ih.e _ _ h4).1 (ih.e _ _ h5).1;cases h;cases h;cases h;split at h;obtain⟨a,h1,rfl⟩:=map_some h;exact S9 (ih.t _ _ h1);cases h;split at h;exact((D7 ih.t).1 h).pt;exact((D7 ih.t).2 h).pt;obtain⟨a,h1,rfl⟩:=map_some h;exact GZ (ih.e _ _ h1).1 λ_=>rfl;obtain⟨a,h1,rfl⟩:=map_some h;exact GZ (ih.e _ _ h1).1 λ_=>rfl;obtain⟨a,h1,rfl⟩:=map_some h;exact GZ (ih.e _ _ h1).1 λ_=>rfl;cases h
theorem BA{e:ao}(h:∀a b c,e≠.Set a b c){env:Env}:∀x,foldedSetIterable e env x=pure x:=by intro x;cases e<;>first|rfl|exact absurd rfl (h _ _ _)
theorem BB(O:gZ X C T F k)(ih:lC X C T F k n)(e:ao)(kd:Kd)(c:E)(tg:ao)(h:cW X.K T (n+1) C e=aB (kd,c))(hw:vW kd tg):PI X tg e (cy X.K kd (ev (run F k) c))/\∀x,foldedSetIterable e X.env x=pure x:=by
 unfold cW at h;split at h;rename_i f p args pos;refine⟨?_,λx=>rfl⟩;split at h;rename_i hf;have hf:f = "range":=by simpa using hf
 subst hf;split at h;rename_i ha;obtain⟨g1,g2⟩:=D4 O ha;split at h;rename_i a;obtain⟨x,h1,h2⟩:=map_some h;cases h2;obtain⟨h3,h4⟩:=ih.e _ _ h1;exact T9 (yb h3 DQ (fS h4)) h4 g1 g2;rename_i a b;split at h;rename_i x y h1 h2;cases h;obtain⟨h3,h4⟩:=ih.e _ _ h1;obtain⟨h5,h6⟩:=ih.e _ _ h2;exact Ua (yb h3 (yb h5 DQ (fS h6)) (fS h4)) h4 h6 g1 g2;cases h;cases h;cases h;split at h;rename_i hf;have hf:f = "enumerate":=by simpa using hf
 subst hf;split at h;rename_i ha;obtain⟨g1,g2⟩:=D4 O ha;split at h;rename_i a;obtain⟨x,h1,h2⟩:=map_some h;cases h2;obtain⟨h3,h4⟩:=ih.e _ _ h1;cases tg<;>first|exact Uk h3 h4 g1 g2|cases hw
 cases h;cases h;split at h;rename_i hf;have hf:f = "zip":=by simpa using hf
 subst hf;split at h;rename_i ha;obtain⟨g1,g2⟩:=D4 O ha;split at h;rename_i a b;split at h;rename_i x y h1 h2;cases h;obtain⟨h3,h4⟩:=ih.e _ _ h1;obtain⟨h5,h6⟩:=ih.e _ _ h2;cases tg<;>first|exact Uo (yb h3 (yb h5 DQ (fS h6)) (fS h4)) h4 h6 g1 g2|cases hw
 cases h;cases h;cases h;obtain⟨x,h1,h2⟩:=map_some h;cases h2;exact G6 (ih.e _ _ h1).1;cases h;rename_i nm _;obtain⟨x,h1,h2⟩:=map_some h;by_cases hcn:M8 C nm=true;simp only[hcn,cC]at h2;cases h2;exact⟨Ue (Vo (ih.e _ _ h1).1),λx=>rfl⟩;simp only[hcn,ez]at h2;cases h2;exact⟨G6 (ih.e _ _ h1).1,λx=>rfl⟩;rename_i hns hnm;obtain⟨x,h1,h2⟩:=map_some h;cases h2;exact⟨G6 (ih.e _ _ h1).1,BA (by first|exact hns|(intro a b c z;exact hns a b c z))⟩
end
section
variable{X:Cx}{C:CC}{T:List Str}{F:Nat->Option Fn}{k n:Nat}
theorem VF(O:gZ X C T F k){x:Str}{p:Pos}{c:E}(h:cE X.K T (n+1) C (.Name x p)=aB c):SE X (.Name x p) (ev (run F k) c):=by simp only[cE]at h;split at h;rename_i hn;obtain⟨n1,n2,n3⟩:=yh hn;split at h;rename_i hv;obtain⟨i,h1,rfl⟩:=map_some h;exact SN (by rw[O.hN];exact HE h1) (O.vis x hv) n1 n2;split at h;rename_i hg;split at h;rename_i v hv;obtain⟨w,h1,rfl⟩:=map_some h;obtain⟨y,h2,h3⟩:=M5 8 v w h1;exact AJ (Pj (O.gl x (by simpa using hg)) (O.Bw x v hv) h2 n1) h3;cases h;cases h;cases h
theorem VG(O:gZ X C T F k)(ih:lC X C T F k n){f:Str}{p pos:Pos}{args:List ao}{c:E}(h:cE X.K T (n+1) C (.Call (.Name f p) args [] pos)=aB c):SE X (.Call (.Name f p) args [] pos) (ev (run F k) c):=by
 simp only[cE]at h;split at h;rename_i hn;rw[bQ]at hn;have hg:=O.gl f (by simpa using hn.2);split at h;rename_i hm;have hm:=O.HG f hm;split at h;rename_i hf;have hf:f = "isinstance":=by simpa using hf
 subst hf;split at h;rename_i a t pt;split at h;rename_i ty x h1 h2;split at h;rename_i hc;cases h;rw[bQ]at hc;obtain⟨g1,g2⟩:=D4 O hc.2;obtain⟨h3,h4⟩:=ih.e _ _ h2;obtain⟨n1,n2,n3⟩:=yh hc.1;exact TN ty h3 h4 hg hm g1 g2 (VD h1) n3 n1;cases h;cases h;cases h;split at h;rename_i b e es hb;obtain⟨a,h1,rfl⟩:=map_some h;obtain⟨h2,h3⟩:=jy ih.e h1;exact Bx hb hg hm hn.1 O.calm h2 h3;cases h;rename_i v hv;split at h;rename_i i hi;obtain⟨fa,fd,ps,fn,q1,q2,q3,q4,q5,q6,q7⟩:=O.fns i f (HE hi) (Vw hn.1);have q1:=MW q1;split at h;rename_i HH;rw[bQ]at HH;obtain⟨a,h1,rfl⟩:=map_some h;obtain⟨h2,h3⟩:=jy ih.e h1;have hl:∀ws h w h',run F k i ws h=.ok w h'->ws.length=ps.length:=λws h w h' e=>by rw[HA q5 e,q6]
 have hev:ev (run F k) (.call i (nj a))=jL (ev (run F k) a) (λws h=>run F k i (ws++[.aR]) h):=by
  funext ρ h;simp only[ev,Vz (M6 h1)];show Res.bind (Res.bind (ev (run F k) a ρ h) _) _=Res.bind (ev (run F k) a ρ h) _;cases ev (run F k) a ρ h with|no=>rfl|ex _ _=>rfl|ok y h2=>cases y<;>rfl
 rw[hev];cases args with|nil=>cases HH.2|cons e es=>exact T6 q2 O.room hg (O.Bw f _ q1) q3 (q7 (Vy HH.1)) h2 h3 (yh hn.1).1 hl
 obtain⟨a,h1,rfl⟩:=map_some h;obtain⟨h2,h3⟩:=jy ih.e h1;have hl:∀ws h w h',run F k i ws h=.ok w h'->ws.length=ps.length:=λws h w h' e=>by rw[HA q5 e,q6]
 cases args with
 |nil=>
  simp only[cL]at h1;cases h1;exact T5 q2 O.room hg (O.Bw f _ q1) q3 q4 (yh hn.1).1 hl
 |cons e es=>exact T4 q2 O.room hg (O.Bw f _ q1) q3 q4 h2 h3 (yh hn.1).1 hl
 cases h;cases h;cases h
theorem VI(O:gZ X C T F k)(ih:lC X C T F k n){o:ao}{m:Str}{ap pos:Pos}{args:List ao}{c:E}(h:cE X.K T (n+1) C (.Call (.Attribute o m ap) args [] pos)=aB c):SE X (.Call (.Attribute o m ap) args [] pos) (ev (run F k) c):=by
 simp only[cE]at h;split at h;rename_i hn;rw[bQ]at hn;split at h;rename_i x a hx;split at h;rename_i hm;have hm:m = "append":=by simpa using hm
 subst hm;obtain⟨y,h1,rfl⟩:=map_some h;obtain⟨h2,h3⟩:=ih.e _ _ h1;exact TV (ih.e _ _ hx).1 h2 hn.1 h3 hn.2;split at h;rename_i hm;have hm:m = "update":=by simpa using hm
 subst hm;obtain⟨y,h1,rfl⟩:=map_some h;obtain⟨h2,h3⟩:=ih.e _ _ h1;exact Vp (ih.e _ _ hx).1 h2 hn.1 h3 hn.2;cases h;rename_i x a b hx;split at h;rename_i hm;have hm:m = "get":=by simpa using hm
 subst hm;split at h;rename_i y z h1 h2;cases h;obtain⟨h3,h4⟩:=ih.e _ _ h1;obtain⟨h5,h6⟩:=ih.e _ _ h2;exact TX O.u1 (ih.e _ _ hx).1 h3 h5 hn.1 h4 h6 hn.2;cases h;cases h;cases h;cases h
theorem D9{ow fr:List Str}{sc:ay}{ifs:List ao}{c:E}(O:∀D s₀ H₀ ex,lC (X.comp (ow++fr) sc D s₀ H₀ ex) (jg sc) T F k n)
 (h:(match ifs with|[]=>aB (E.cst (.bl true))|[c]=>cT X.K T n (jg sc) c|_=>aC)=aB c) (D:ah) (s₀:af) (H₀:Hp) (ex:List ah):iG (X.comp (ow++fr) sc D s₀ H₀ ex) ifs (cZ X.K (ev (run F k) c)):=by
 split at h;cases h;exact λpins s σ H Q I z9=>z9.el λρ h m b h' f r e q=>by
  cases e;exact Rv pins s σ H Q I (q H m .refl r)
 exact Rw ((O D s₀ H₀ ex).t _ _ h);cases h
theorem Nb(O:gZ X C T F k)(ih:lC X C T F k n)(jZ:∀{sc:ay} {ix:List Nat},oN C sc ix=true->∀D s₀ H₀ ex,lC (X.comp (ownOf sc++eX sc) sc D s₀ H₀ ex) (jg sc) T F k n)
 {elt tg iter:ao} {ifs:List ao} {sc:ay} {pos:Pos} {c:E} (h:cE X.K T (n+1) C (.ListComp elt [⟨tg,iter,ifs,0⟩] sc pos)=aB c) :
 ∃kd a t ix cc ce,c=.lc kd a t (ownOf sc).length ix cc ce/\aW X (ownOf sc) (eX sc) ix sc/\PI X tg iter (cy X.K kd (ev (run F k) a))/\(∀D s₀ H₀ ex,PG (X.comp (ownOf sc++eX sc) sc D s₀ H₀ ex) tg (cK X.K t))/\
  (∀D s₀ H₀ ex,iG (X.comp (ownOf sc++eX sc) sc D s₀ H₀ ex) ifs (cZ X.K (ev (run F k) cc)))/\(∀D s₀ H₀ ex,PE (X.comp (ownOf sc++eX sc) sc D s₀ H₀ ex) elt (eG X.K (ev (run F k) ce)))/\∀x,foldedSetIterable iter X.env x=pure x:=by
 simp only[cE]at h;split at h
 .rename_i ix hix
  split at h
  .rename_i hc
   split at h
   .rename_i kd a t cc ce h1 h2 h3 h4
    split at h
    case isFalse=>cases h
    rename_i hw;cases h;obtain⟨w1,w2⟩:=ih.w _ _ _ tg h1 hw;exact⟨kd,a,t,ix,cc,ce,rfl,(D8 O hc).1,w1,λD s₀ H₀ ex=>kF (t9 O hc D s₀ H₀ ex) h2,D9 (jZ hc) h3,λD s₀ H₀ ex=>((jZ hc D s₀ H₀ ex).e _ _ h4).1,w2⟩
   cases h
  cases h
 cases h
theorem Nc(O:gZ X C T F k)(ih:lC X C T F k n)(jZ:∀{sc:ay} {ix:List Nat},oN C sc ix=true->∀D s₀ H₀ ex,lC (X.comp (ownOf sc++eX sc) sc D s₀ H₀ ex) (jg sc) T F k n)
 {elt tg iter gJ bz:ao} {ifs dI:List ao} {sc:ay} {pos:Pos} {c:E} (h:cE X.K T (n+1) C (.ListComp elt [⟨tg,iter,ifs,0⟩,⟨gJ,bz,dI,0⟩] sc pos)=aB c) :
 ∃kd a t ix cc iM a2 t2 yj ce,c=.xX kd a t (ownOf sc).length ix cc iM a2 t2 yj ce/\aW X (ownOf sc) (eX sc) ix sc/\PI X tg iter (cy X.K kd (ev (run F k) a))/\(∀D s₀ H₀ ex,PG (X.comp (ownOf sc++eX sc) sc D s₀ H₀ ex) tg (cK X.K t))/\
  (∀D s₀ H₀ ex,iG (X.comp (ownOf sc++eX sc) sc D s₀ H₀ ex) ifs (cZ X.K (ev (run F k) cc)))/\
  (∀D s₀ H₀ ex,PI (X.comp (ownOf sc++eX sc) sc D s₀ H₀ ex) gJ bz (cy X.K iM (ev (run F k) a2)))/\(∀D s₀ H₀ ex,PG (X.comp (ownOf sc++eX sc) sc D s₀ H₀ ex) gJ (cK X.K t2))/\
  (∀D s₀ H₀ ex,iG (X.comp (ownOf sc++eX sc) sc D s₀ H₀ ex) dI (cZ X.K (ev (run F k) yj)))/\(∀D s₀ H₀ ex,PE (X.comp (ownOf sc++eX sc) sc D s₀ H₀ ex) elt (eG X.K (ev (run F k) ce)))/\
  (∀x,foldedSetIterable iter X.env x=pure x)/\∀D s₀ H₀ ex x,foldedSetIterable bz (X.comp (ownOf sc++eX sc) sc D s₀ H₀ ex).env x=pure x:=by
 simp only[cE]at h;split at h
 .rename_i ix hix
  split at h
  .rename_i hc
   split at h
   .rename_i kd a t cc ce h1 h2 h3 h4
    split at h
    case isFalse=>cases h
    rename_i hw;split at h
    .rename_i iM a2 t2 yj h5 h6 h7
     split at h
     case isFalse=>cases h
     rename_i Nd;cases h;obtain⟨w1,w2⟩:=ih.w _ _ _ tg h1 hw;exact⟨kd,a,t,ix,cc,iM,a2,t2,yj,ce,rfl,(D8 O hc).1,w1,λD s₀ H₀ ex=>kF (t9 O hc D s₀ H₀ ex) h2,D9 (jZ hc) h3,λD s₀ H₀ ex=>((jZ hc D s₀ H₀ ex).w _ _ _ gJ h5 Nd).1,λD s₀ H₀ ex=>kF (t9 O hc D s₀ H₀ ex) h6,D9 (jZ hc) h7,
      λD s₀ H₀ ex=>((jZ hc D s₀ H₀ ex).e _ _ h4).1,w2,λD s₀ H₀ ex=>((jZ hc D s₀ H₀ ex).w _ _ _ gJ h5 Nd).2⟩
    cases h
   cases h
  cases h
 cases h
theorem Nf(O:gZ X C T F k)(ih:lC X C T F k n)(jZ:∀{sc:ay} {ix:List Nat},oN C sc ix=true->∀D s₀ H₀ ex,lC (X.comp (ownOf sc++eX sc) sc D s₀ H₀ ex) (jg sc) T F k n)
 {ek ni tg iter:ao} {ifs:List ao} {sc:ay} {pos:Pos} {c:E} (h:cE X.K T (n+1) C (.DictComp ek ni [⟨tg,iter,ifs,0⟩] sc pos)=aB c) :
 ∃kd a t ix cc ce cv,c=.dc kd a t (ownOf sc).length ix cc ce cv/\aW X (ownOf sc) (eX sc) ix sc/\PI X tg iter (cy X.K kd (ev (run F k) a))/\(∀D s₀ H₀ ex,PG (X.comp (ownOf sc++eX sc) sc D s₀ H₀ ex) tg (cK X.K t))/\
  (∀D s₀ H₀ ex,iG (X.comp (ownOf sc++eX sc) sc D s₀ H₀ ex) ifs (cZ X.K (ev (run F k) cc)))/\(∀D s₀ H₀ ex,PE (X.comp (ownOf sc++eX sc) sc D s₀ H₀ ex) ek (eG X.K (ev (run F k) ce)))/\
  (∀D s₀ H₀ ex,PE (X.comp (ownOf sc++eX sc) sc D s₀ H₀ ex) ni (eG X.K (ev (run F k) cv)))/\∀x,foldedSetIterable iter X.env x=pure x:=by
 simp only[cE]at h;split at h
 .rename_i ix hix
  split at h
  .rename_i hc
   split at h
   .rename_i kd a t cc ce cv h1 h2 h3 h4 h5
    split at h
    case isFalse=>cases h
    rename_i hw;cases h;obtain⟨w1,w2⟩:=ih.w _ _ _ tg h1 hw;exact⟨kd,a,t,ix,cc,ce,cv,rfl,(D8 O hc).1,w1,λD s₀ H₀ ex=>kF (t9 O hc D s₀ H₀ ex) h2,D9 (jZ hc) h3,λD s₀ H₀ ex=>((jZ hc D s₀ H₀ ex).e _ _ h4).1,λD s₀ H₀ ex=>((jZ hc D s₀ H₀ ex).e _ _ h5).1,w2⟩
   cases h
  cases h
 cases h
theorem BC(O:gZ X C T F k)(ih:lC X C T F k n)(jZ:∀{sc:ay} {ix:List Nat},oN C sc ix=true->∀D s₀ H₀ ex,lC (X.comp (ownOf sc++eX sc) sc D s₀ H₀ ex) (jg sc) T F k n)
 (e:ao) (c:E) (h:cE X.K T (n+1) C e=aB c):SE X e (ev (run F k) c)/\gY e=true:=by
 have h0:=h;unfold cE at h;split at h;exact⟨VF O h0,rfl⟩;refine⟨?_,rfl⟩;split at h;cases h;exact SO;cases h;exact AK;cases h;exact SQ;cases h;exact SR;cases h;obtain⟨a,h1,rfl⟩:=map_some h;exact⟨SV (jy ih.e h1).1,rfl⟩;obtain⟨a,h1,rfl⟩:=map_some h;exact⟨SX (jy ih.e h1).1,rfl⟩;refine⟨?_,rfl⟩;split at h;split at h;cases h;exact Vn;cases h;split at h;rename_i hc;simp only[bQ]at hc;obtain⟨a,h1,rfl⟩:=map_some h;exact T3 O.u2 (Na ih.e h1) hc.2 (yT hc.1.2) (by simp) (kY hc.1.1);cases h;refine⟨?_,rfl⟩;split at h;rename_i h1 h2 h3;cases h;exact AM (AO h1) (S2 _) (ih.e _ _ h2).1 (ih.e _ _ h3).1;cases h;split at h;obtain⟨a,h1,rfl⟩:=map_some h;exact⟨Tc (ih.e _ _ h1).1,rfl⟩;obtain⟨a,h1,rfl⟩:=map_some h;exact⟨Ti (ih.e _ _ h1).1,rfl⟩;cases h;split at h;exact⟨(lZ ih.e).1 h,rfl⟩;exact⟨(lZ ih.e).2 h,rfl⟩;split at h;refine⟨?_,rfl⟩;split at h;rename_i hs;split at h;rename_i h1 h2 h3;cases h;exact S5 O.D0 h1 hs (ih.e _ _ h2).1 (ih.e _ _ h3).1;cases h;cases h;refine⟨?_,rfl⟩;split at h;rename_i hs;split at h;rename_i h1 h2 h3 h4 h5;cases h;exact S7 O.D0 h1 h2 hs (ih.e _ _ h3).1 (ih.e _ _ h4).1 (ih.e _ _ h5).1;cases h;cases h;cases h;refine⟨?_,rfl⟩;split at h;rename_i h1 h2 h3;cases h;exact Tf (ih.t _ _ h1) (ih.e _ _ h2).1 (ih.e _ _ h3).1;cases h;split at h;split at h;refine⟨?_,rfl⟩;split at h;rename_i h1 h2 h3;cases h;exact Tq (ih.e _ _ h1).1 (oQ ih.e h2) (oQ ih.e h3);cases h;split at h;refine⟨?_,rfl⟩;split at h;rename_i x bl l y h1 h2 h3;split at h;rename_i hb;cases h;exact Vs (ih.e _ _ h1).1 (oQ ih.e h2) (ih.e _ _ h3).1 (VB hb);cases h;cases h;cases h;refine⟨?_,rfl⟩;split at h;rename_i hs;split at h;rename_i h1 h2;cases h;exact Tn O.u2 (ih.e _ _ h1).1 (ih.e _ _ h2).1 (VE hs);cases h;cases h;split at h;split at h;exact⟨VG O ih h0,rfl⟩;exact⟨VI O ih h0,rfl⟩;cases h;cases h;split at h;split at h;refine⟨?_,rfl⟩;obtain⟨kd,a,t,ix,cc,ce,rfl,S,w1,w2,w3,w4,w5⟩:=Nb O ih jZ h0;exact Bh S O.calm w1 w2 w3 w4 w5;cases h;split at h;split at h;refine⟨?_,rfl⟩;obtain⟨kd,a,t,ix,cc,iM,a2,t2,yj,ce,rfl,S,w1,w2,w3,v1,v2,v3,w4,w5,v5⟩:=Nc O ih jZ h0;exact UO S O.calm w1 w2 w3 v1 v2 v3 w4 w5 v5;cases h;cases h;cases h;split at h;split at h;refine⟨?_,rfl⟩;obtain⟨kd,a,t,ix,cc,ce,cv,rfl,S,w1,w2,w3,w4,w6,w5⟩:=Nf O ih jZ h0;exact Bj S O.calm w1 w2 w3 w4 w6 w5;cases h;cases h;cases h
end
theorem pT{T:List Str}{F:Nat->Option Fn}{k:Nat}:∀(n:Nat) {X:Cx} {C:CC},gZ X C T F k->lC X C T F k n
 |0,_,_,_=>⟨(λe c h=>nomatch h),(λe c h=>nomatch h),(λe kd c tg h _=>nomatch h)⟩
 |n+1,X,C,O=>by
  have ih:=pT n O;have jZ:∀{sc:ay}{ix:List Nat},oN C sc ix=true->∀D s₀ H₀ ex,lC (X.comp (ownOf sc++eX sc) sc D s₀ H₀ ex) (jg sc) T F k n:=λhc D s₀ H₀ ex=>pT n (t9 O hc D s₀ H₀ ex);exact⟨BC O ih jZ,By O ih,BB O ih⟩
section
variable{X:Cx}{C:CC}{T:List Str}{F:Nat->Option Fn}{k d:Nat}
theorem vZ{f:aq->Option S}{cl:Call}(ih:∀st c,f st=aB c->SS X st (exs cl c)):∀{sts:List aq} {c:S},oO f sts=aB c->rE X sts (exs cl c)
 |[],_,h=>by cases h;exact UD
 |s::r,c,h=>by
  unfold oO at h;split at h;rename_i a b ha hb;cases h;exact UI (ih s a ha) (vZ ih hb);cases h
theorem VJ{K:aK}{T:List Str}{n:Nat}{C:CC}{elt:ao}{gs:List Comprehension}{sc:ay}{lp:Pos}{c:E}(h:cE K T (n+1) C (.ListComp elt gs sc lp)=aB c):(∃tg iter ifs,gs=[⟨tg,iter,ifs,0⟩])\/∃tg iter ifs gJ bz dI,gs=[⟨tg,iter,ifs,0⟩,⟨gJ,bz,dI,0⟩]:=by simp only[cE]at h;split at h;rename_i g;split at h;exact .inl ⟨_,_,_,rfl⟩;cases h;rename_i g g2;split at h;split at h;exact .inr ⟨_,_,_,_,_,_,rfl⟩;cases h;cases h;cases h
theorem VL{K:aK}{T:List Str}{n:Nat}{C:CC}{ek ev:ao}{gs:List Comprehension}{sc:ay}{lp:Pos}{c:E}(h:cE K T (n+1) C (.DictComp ek ev gs sc lp)=aB c):∃tg iter ifs,gs=[⟨tg,iter,ifs,0⟩]:=by simp only[cE]at h;split at h;rename_i g;split at h;exact⟨_,_,_,rfl⟩;cases h;cases h
theorem VM(O:gZ X C T F k){x:Str}{p pos:Pos}{e:ao}{i:Nat}{c:E}(hi:gO C (.Name x p)=aB i)(h:cE X.K T d C e=aB c):SS X (.Assign [.Name x p] e pos) (exs (run F k) (.set i c)):=by
 obtain⟨x',p',ex,h1,h2,h3⟩:=kE O hi;cases ex;have nd:X.N.Nodup:=O.hN▸O.nd;have Sd:=pT (T:=T) (F:=F) (k:=k) d O;by_cases hc:DV e=true;exact Hv nd h1 h2 h3 (Sd.e _ _ h).1 (ML hc);cases d with
 |zero=>cases h
 |succ n=>
  cases e with
  |ListComp elt gs sc lp=>
   have sw:∃b:Bool,swapsWith (.ListComp elt gs sc lp) (aB (.Name x p)) pos.line X.env=pure b:=⟨_,rfl⟩
   obtain⟨b,hb⟩:=sw;cases b with
   |false=>exact Hv nd h1 h2 h3 (Sd.e _ _ h).1 hb
   |true=>
    rcases VJ h with⟨tg,iter,ifs,rfl⟩|⟨tg,iter,ifs,gJ,bz,dI,rfl⟩;obtain⟨kd,a,t,ix,cc,ce,rfl,S,w1,w2,w3,w4,w5⟩:=Nb O (pT n O) (λhc D s₀ H₀ ex=>pT n (t9 O hc D s₀ H₀ ex)) h;exact UN nd h1 h2 h3 S O.calm w1 w2 w3 w4 hb w5;obtain⟨kd,a,t,ix,cc,iM,a2,t2,yj,ce,rfl,S,w1,w2,w3,v1,v2,v3,w4,w5,v5⟩:=Nc O (pT n O) (λhc D s₀ H₀ ex=>pT n (t9 O hc D s₀ H₀ ex)) h;exact UP nd h1 h2 h3 S O.calm w1 w2 w3 v1 v2 v3 w4 hb w5 v5
  |SetComp _ _ _ _=>unfold cE at h;cases h
  |DictComp ek ni gs sc lp=>
   have sw:∃b:Bool,swapsWith (.DictComp ek ni gs sc lp) (aB (.Name x p)) pos.line X.env=pure b:=⟨_,rfl⟩
   obtain⟨b,hb⟩:=sw;cases b with
   |false=>exact Hv nd h1 h2 h3 (Sd.e _ _ h).1 hb
   |true=>
    obtain⟨tg,iter,ifs,rfl⟩:=VL h;obtain⟨kd,a,t,ix,cc,ce,cv,rfl,S,w1,w2,w3,w4,w6,w5⟩:=Nf O (pT n O) (λhc D s₀ H₀ ex=>pT n (t9 O hc D s₀ H₀ ex)) h;exact UQ nd h1 h2 h3 S O.calm w1 w2 w3 w4 w6 hb w5
  |_=>exact absurd rfl hc
theorem oR(O:gZ X C T F k):∀(n:Nat) (st:aq) (c:S),cS X.K T d n C st=aB c->SS X st (exs (run F k) c)
 |0,_,_,h=>by cases h
 |n+1,st,c,h=>by
  have nd:X.N.Nodup:=O.hN▸O.nd;have Sd:=pT (T:=T) (F:=F) (k:=k) d O;have ih:=oR O n;have hp:PassesOwn (model X.prog X.w) X.A X.env X.xe:=by rw[O.xe];exact PassesOwn.never
  unfold cS at h;split at h;cases h;exact UE;cases h;exact UG;cases h;exact UH;cases h;exact Bg;split at h;cases h;exact UM;obtain⟨a,h1,rfl⟩:=map_some h;exact UL (Sd.e _ _ h1).1;split at h;rename_i hc;obtain⟨a,h1,rfl⟩:=map_some h;exact UK (Sd.e _ _ h1).1 hc;cases h;split at h;split at h;split at h;rename_i i a h1 h2;cases h;exact VM O h1 h2;cases h;split at h;rename_i ht;split at h;rename_i h1 h2;cases h;exact UT O.calm nd (D5 O h1) (Sd.e _ _ h2).1 ht;cases h;cases h;split at h;rename_i hs;split at h;rename_i h1 h2 h3;cases h;exact U0 O.u2 (Sd.e _ _ h1).1 (Sd.e _ _ h2).1 (Sd.e _ _ h3).1 hs;cases h;cases h;cases h;cases h;split at h;split at h;rename_i h1 h2 h3;cases h;obtain⟨x',p',ex,a1,a2,a3⟩:=kE O h1;cases ex;exact U5 h2 nd a1 a2 a3 (Sd.e _ _ h3).1;cases h;cases h;split at h;rename_i h1 h2 h3;cases h;exact U7 (Sd.t _ _ h1) (vZ ih h2) (vZ ih h3);cases h
  .rename_i tg it b el pos
   split at h
   .split at h
    .rename_i h1 h2 h3
     split at h
     case isFalse=>cases h
     rename_i hw;cases h;obtain⟨w1,w2⟩:=Sd.w _ _ _ tg h1 hw;exact U' hp O.calm w1 (kF O h2) (vZ ih h3) w2
    cases h
   cases h
  split at h;split at h;rename_i h1 h2;cases h;exact Va hp (Sd.t _ _ h1) (vZ ih h2);cases h;cases h;cases h
end
noncomputable def HJ:FuncBody->Option (List aq)|.stmts b=>aB b|_=>aC
theorem VN{d:Data}(h:DY d):∃n,d=.seq #[.none] n:=by
 cases d with
 |seq xs n=>
  obtain⟨l⟩:=xs;unfold DY at h;simp only[]at h;split at h;rename_i v;cases v<;>first|exact⟨n,rfl⟩|cases h
  cases h
 |_=>cases h
theorem VP{K:aK}{v:aa}(h:gj K v):∃t o n,v=.ref t/\K.lookup t=aB o/\o.data=.seq #[.none] n:=by
 cases v with
 |ref t=>
  have h:(match K.lookup t with|some o=>DY o.data|none=>false)=true:=h;cases e:K.lookup t with
  |none=>rw[e]at h;cases h
  |some o=>
   rw[e]at h;obtain⟨n,q⟩:=VN h;exact⟨t,o,n,rfl,e,q⟩
 |_=>cases h
noncomputable def v9(ps:List Str)(sc:ay):List Str:=ps++(sc.names.filter λy=>(y.2 == .local||y.2 == .cell) && !(ps.contains y.1)).map (·.1)
noncomputable def Ea(N ps:List Str)(sc:ay):Bool:=
 decide (sc.kind=.function) && !sc.isCoroutine && !sc.isGenerator&&decide N.Nodup&&decide (N.take ps.length=ps)&&ps.all (λx=>decide (sc.names.lookup x=aB .local\/sc.names.lookup x=aB .cell))&&sc.names.all (λy=>decide (y.2≠.free))&&decide ps.Nodup
theorem VQ{N ps:List Str}{sc:ay}(h:Ea N ps sc):dG N ps sc/\ps.Nodup:=by unfold Ea at h;simp only[bQ,gz,ic,uX]at h;obtain⟨⟨⟨⟨⟨⟨⟨h1,h2⟩,h3⟩,h4⟩,h5⟩,h6⟩,h7⟩,h8⟩:=h;exact⟨⟨h1,h2,h3,h4,h5,h6,h7⟩,h8⟩
noncomputable def jh(x:Str):Str:=x
noncomputable def cF(K:aK)(T:List Str)(d n:Nat)(x:Str):Option Fn:=match fnAt K x with
 |some (f,o,fd)=>(match vS fd.params,HJ fd.body with
  |some args,aB body=>if fd.name==jh x&&fd.qualname==x&&Nat.beq fd.globals mainGlobals&&fd.closure.isEmpty&& (isNone fd.defaults||gj K fd.defaults && !args.isEmpty)&&Nat.beq fd.builtins builtinsNs&&PySem.W.codeIn K fd.code x&&PySem.W.keepIn K (.ref f) &&
   Ea (v9 (args.map (·.arg)) fd.scope) (args.map (·.arg)) fd.scope then
   (oO (cS K T d n ⟨v9 (args.map (·.arg)) fd.scope,fd.scope.names,true⟩) body).map λb=>⟨(args.map (·.arg)).length,(v9 (args.map (·.arg)) fd.scope).length,b⟩
   else aC
  |_,_=>aC)
 |none=>aC
theorem VR{fd:au}{x:Str}{args:List Arg}{body:List aq}(c1:(fd.name==jh x))(c2:(fd.qualname==x))(c3:Nat.beq fd.globals mainGlobals)(c4:fd.closure.isEmpty)(c6:Nat.beq fd.builtins builtinsNs)(ha:vS fd.params=aB args)(hb:HJ fd.body=aB body) :
 ∃dx,fd=PySem.W.fnOf (jh x) x ⟨[],args,aC,[],[],aC,dx⟩ body fd.scope fd.defaults fd.kwdefaults fd.doc fd.pyModule fd.annotations fd.code fd.closureTuple:=by
 obtain⟨nm,qn,pr,bd,sc,gl,cl,df,kd,dc,pm,an,cdv,ct,bu⟩:=fd;have e1:nm=jh x:=by simpa using c1
 have e2:qn=x:=by simpa using c2
 have e3:gl=mainGlobals:=yT c3;have e4:cl=[]:=by simpa using c4
 have e6:bu=builtinsNs:=yT c6;have e7:bd=.stmts body:=by
  cases bd with|stmts b'=>cases hb;rfl|expr _=>cases hb
 obtain⟨dx,e8⟩:∃dx,pr=⟨[],args,aC,[],[],aC,dx⟩:=by unfold vS at ha;split at ha;cases ha;rename_i z;exact⟨_,z⟩;cases ha
 exact⟨dx,by rw[e1,e2,e3,e4,e6,e7,e8]⟩
theorem VS{K:aK}{x:Str}{fd:au}{args:List Arg}{body:List aq}{dx:List ao}{sc:ay}{df kd dc pm:aa}{an:Option ah}{cdv ct:aa}{b:Bool}(e:fd=PySem.W.fnOf (jh x) x ⟨[],args,aC,[],[],aC,dx⟩ body sc df kd dc pm an cdv ct)(nd:(args.map (·.arg)).Nodup)
 (hb:b=gj K df) (c5:(isNone df||gj K df && !args.isEmpty)):Binds K fd (args.map (·.arg)) []/\(b=true->Binds K fd (args.map (·.arg)) [.none])/\(b=false->∀us:List aa,us.length=(args.map (·.arg)).length->bindArgs fd ⟨us,[]⟩=pure ((args.map (·.arg)).zip us)):=by
 subst e hb;rw[pL,bQ]at c5;rcases c5 with c5|⟨c5,c0⟩
 have e5:df=.none:=by cases df<;>first|rfl|cases c5
 subst e5;exact⟨.all λus hl=>MO hl nd,(λz=>nomatch z),λ_ us hl=>MO hl nd⟩;obtain⟨t,o,n,rfl,hk,hd⟩:=VP c5;rw[c5];obtain⟨qs,z,BD⟩:∃qs z,args.map (·.arg)=qs++[z]:=by rcases List.eq_nil_or_concat (args.map (·.arg))with q|⟨l,b,q⟩;rw[List.map_eq_nil_iff.mp q]at c0;cases c0;exact⟨l,b,by rw[q,List.concat_eq_append]⟩
 have HK:=nd;rw[BD]at HK;refine⟨λs us hK hl=>?_,λ_ s us hK hl=>?_,λz=>nomatch z⟩;rw[nG]at hl ⊢;rw[BD]at hl ⊢;exact Vc BD HK (hK _ _ hk) hd hl;rw[BD]at hl ⊢;exact Vd BD HK (hK _ _ hk) hd (by rw[fE,fE]at hl;simpa using hl)
theorem VT{K:aK}{x:Str}{f:ah}{o:Obj}{fd:au}(h:fnAt K x=aB (f,o,fd)):gh K x=aB f/\∃oc od sl,K.lookup f=aB ⟨oc,od,.func fd,sl⟩:=by unfold fnAt at h;split at h;rename_i f' hn;split at h;rename_i o' ho;split at h;rename_i fd' hd;cases h;refine⟨hn,o.cls,o.dict,o.slots,?_⟩;rw[<-hd];exact ho;cases h;cases h;cases h
theorem VU{K:aK}{T:List Str}{d n:Nat}{x:Str}{fn:Fn}:∀(f:ah) (o:Obj) (fd:au) (args:List Arg) (body:List aq) (b:S),fnAt K x=aB (f,o,fd)->vS fd.params=aB args->HJ fd.body=aB body->(fd.name==jh x&&fd.qualname==x&&Nat.beq fd.globals mainGlobals&&fd.closure.isEmpty&& (isNone fd.defaults||gj K fd.defaults && !args.isEmpty)&&Nat.beq fd.builtins builtinsNs&&PySem.W.codeIn K fd.code x&&PySem.W.keepIn K (.ref f) &&
 Ea (v9 (args.map (·.arg)) fd.scope) (args.map (·.arg)) fd.scope)=true->oO (cS K T d n ⟨v9 (args.map (·.arg)) fd.scope,fd.scope.names,true⟩) body=aB b->fn=⟨(args.map (·.arg)).length,(v9 (args.map (·.arg)) fd.scope).length,b⟩->∃f fd st ps N,gh K x=aB f/\oJ K (jh x) x st f fd/\dG N ps (jI st)/\fn.n=N.length/\fn.ps=ps.length/\(Binds K fd ps []/\(gM K x=true->Binds K fd ps [.none])/\(gM K x=false->∀us:List aa,us.length=ps.length->bindArgs fd ⟨us,[]⟩=pure (ps.zip us)))/\
 oO (cS K T d n ⟨N,(jI st).names,true⟩) (Ac st)=aB fn.body/\∃o' fd' args,fnAt K x=aB (f,o',fd')/\vS fd'.params=aB args/\ps=args.map (·.arg):=by
 intro f o fd args body b hf ha hb hc h1 e;rw[bQ,bQ,bQ,bQ,bQ,bQ,bQ,bQ]at hc;obtain⟨⟨⟨⟨⟨⟨⟨⟨c1,c2⟩,c3⟩,c4⟩,c5⟩,c6⟩,c7⟩,c8⟩,c9⟩:=hc;obtain⟨S,nd⟩:=VQ c9;obtain⟨hn,oc,od,sl,lk⟩:=VT hf;obtain⟨dx,ef⟩:=VR c1 c2 c3 c4 c6 ha hb;have hh:gM K x=gj K fd.defaults:=by unfold gM;rw[hf]
 exact⟨f,fd,.FunctionDef (jh x) ⟨[],args,aC,[],[],aC,dx⟩ body [] aC [] fd.scope aC (jh x) ⟨0,0,0,0⟩,args.map (·.arg),v9 (args.map (·.arg)) fd.scope,hn,⟨⟨oc,od,_,_,_,_,_,fd.code,_,sl,ef,lk,c7⟩,c8⟩,S,by rw[e],by rw[e],VS ef nd hh c5,by rw[e];exact h1,o,fd,args,hf,ha,rfl⟩
theorem oS{K:aK}{T:List Str}{d n:Nat}{x:Str}{fn:Fn}(h:cF K T d n x=aB fn):∃f fd st ps N,gh K x=aB f/\oJ K (jh x) x st f fd/\dG N ps (jI st)/\fn.n=N.length/\fn.ps=ps.length/\(Binds K fd ps []/\(gM K x=true->Binds K fd ps [.none])/\(gM K x=false->∀us:List aa,us.length=ps.length->bindArgs fd ⟨us,[]⟩=pure (ps.zip us)))/\
 oO (cS K T d n ⟨N,(jI st).names,true⟩) (Ac st)=aB fn.body/\∃o' fd' args,fnAt K x=aB (f,o',fd')/\vS fd'.params=aB args/\ps=args.map (·.arg):=by
 unfold cF at h;split at h;rename_i f o fd hf;split at h;rename_i args body ha hb;split at h;rename_i hc;obtain⟨b,h1,e⟩:=map_some h;exact VU f o fd args body b hf ha hb hc h1 e;cases h;cases h;cases h
theorem Eb{α β:Type}{f:α->Option β}:∀{l:List α} {r:List β},bF f l=aB r->∀(i:Nat) (a:α),l[i]?=aB a->∃b,r[i]?=aB b/\f a=aB b
 |[],_,_,i,a,e=>by simp at e
 |x::l,r,h,i,a,e=>by
  unfold bF at h;split at h;rename_i b hb;split at h;rename_i bs Bv;cases h;cases i with
  |zero=>simp at e;subst e;exact⟨b,rfl,hb⟩
  |succ i=>
   obtain⟨c,h1,h2⟩:=Eb Bv i a (by simpa using e);exact⟨c,by simpa using h1,h2⟩
  cases h;cases h
noncomputable def HL(K:aK)(T:List Str)(d n:Nat)(x:Str):Option Fn:=if x==("" : Str)then aB ⟨0,0,.no⟩else cF K T d n x
theorem HM{K:aK}{T:List Str}{d n:Nat}{x:Str}{fn:Fn}(h:HL K T d n x=aB fn)(hx:x≠""):cF K T d n x=aB fn:=by unfold HL at h;rw[if_neg (by simpa using hx)]at h;exact h
noncomputable def jz(K:aK)(T:List Str)(d n:Nat):Option (List Fn):=bF (HL K T d n) T
theorem Ng{P:ai}{w:aj}{K:aK}{mg:Str->Option aa}{base:az}{T:List Str}{Fs:List Fn}{k:Nat}(KX:K.In base)(G:base.Ns mainGlobals mg){x:Str}{st:aq}{f:ah}{N ps:List Str}(S:dG N ps (jI st))
 (H0:∀(i:Nat)(x:Str),T[i]?=aB x->x≠""->∃f fd ps fn,gh K x=aB f/\fK P w K mg base lS k f fd ps (oA K ps.length (run (λi=>Fs[i]?) k i))/\PySem.W.keepIn K (.ref f)=true/\Binds K fd ps []/\Fs[i]?=aB fn/\fn.ps=ps.length/\(gM K x=true->Binds K fd ps [.none]))
 (cdv:aa) (A:ak) (outer:List Env) (s:af) (H:Hp) (E:XK) (hr:dB k (A.deeper (envOfC x (jI st) s.heap.objs.size f cdv))):gZ (j9 lS P w K mg base N x (jI st) f cdv A outer s H E).xP ⟨N,(jI st).names,true⟩ T (λi=>Fs[i]?) k:=by
 refine⟨rfl,S.nd,λy hy=>?_,λy hy=>?_,λy hy=>hy,λy hy=>hy,rfl,hr,rfl,S.kind,λy v hv=>PySem.W.mg_of KX G hv,λy hv=>PySem.W.mg_none_of KX G hv,H0⟩;have hy:rG ((jI st).names.lookup y)=true:=hy;cases z:(jI st).names.lookup y with
 |none=>rw[z]at hy;cases hy
 |some kd=>cases kd<;>first|exact .inl z|exact .inr (.inl z)|exact .inr (.inr z)|(rw[z]at hy;cases hy)
 have hy:rH true ((jI st).names.lookup y)=true:=hy;cases z:(jI st).names.lookup y with
 |none=>rw[z]at hy;cases hy
 |some kd=>cases kd<;>first|exact⟨.inl z,.inl rfl⟩|exact⟨.inr z,.inl rfl⟩|(rw[z]at hy;cases hy)
theorem VW{P:ai}{w:aj}{K:aK}{mg:Str->Option aa}{base:az}{T:List Str}{d n:Nat}{Fs:List Fn}(hP:jz K T d n=aB Fs)(KX:K.In base)(G:base.Ns mainGlobals mg)(k:Nat):∀(j:Nat),j<=k->∀(i:Nat) (x:Str),T[i]?=aB x->x≠""->
 ∃f fd ps fn,gh K x=aB f/\fK P w K mg base lS j f fd ps (oA K ps.length (run (λi=>Fs[i]?) j i))/\PySem.W.keepIn K (.ref f)=true/\Binds K fd ps []/\Fs[i]?=aB fn/\fn.ps=ps.length/\(gM K x=true->Binds K fd ps [.none]):=by
 induction k with
 |zero=>
  intro j hj i x e hx;have:j=0:=Nat.le_zero.mp hj;subst this;obtain⟨fn,h1,h2⟩:=Eb hP i x e;obtain⟨f,fd,st,ps,N,a1,a2,a3,a4,a5,a6,a7,_⟩:=oS (HM h2 hx);exact⟨f,fd,ps,fn,a1,MV,a2.kp,a6.1,h1,a5,a6.2.1⟩
 |succ k ih=>
  intro j hj i x e hx;by_cases hjk:j<=k;exact ih j hjk i x e hx;have:j=k+1:=by lia
  subst this;obtain⟨fn,h1,h2⟩:=Eb hP i x e;obtain⟨f,fd,st,ps,N,a1,a2,a3,a4,a5,a6,a7,_⟩:=oS (HM h2 hx);exact⟨f,fd,ps,fn,a1,MU (F:=λi=>Fs[i]?) h1 a2 a3 a4 a5 λcdv A outer s H E hr=>vZ (oR (Ng KX G a3 (λj y hj hy=>ih k (bf _) j y hj hy) cdv A outer s H E hr) n) a7,a2.kp,a6.1,h1,a5,a6.2.1⟩
noncomputable def yk:Res W->Bool|.ok (.bl true) _=>true|_=>false
noncomputable def says(K:aK)(T:List Str)(d n k i:Nat)(ns:List Int):Bool:=match jz K T d n with|some Fs=>yk (run (λi=>Fs[i]?) k i [.fz (ns.map .int)] ⟨0,0,[]⟩)|none=>false
theorem VX{r:Res W}(h:yk r):∃h',r=.ok (.bl true) h':=by
 cases r with
 |no=>cases h
 |ex _ _=>cases h
 |ok w h'=>cases w<;>first|(rename_i b;cases b<;>first|exact⟨h',rfl⟩|cases h)|cases h
theorem Nh{K:aK}{m:Nat->ah}{n:Nat}{H:Hp}:∀(ns:List Int),aF K m n H (ns.map V.int) (ns.map W.int)|[]=>.nil|i::r=>.cons (.int i) (Nh r)
theorem Ni{K:aK}{T:List Str}{d n k i:Nat}{ns:List Int}(h:says K T d n k i ns):∃Fs h',jz K T d n=aB Fs/\run (λi=>Fs[i]?) k i [.fz (ns.map .int)] ⟨0,0,[]⟩=.ok (.bl true) h':=by unfold says at h;split at h;rename_i Fs hF;obtain⟨h',e⟩:=VX h;exact⟨Fs,h',hF,e⟩;cases h
theorem VY{K:aK}{T:List Str}{d n k i:Nat}{ns:List Int}{Fs:List Fn}(hP:jz K T d n=aB Fs)(h:yk (run (λi=>Fs[i]?) k i [.fz (ns.map .int)] ⟨0,0,[]⟩)):says K T d n k i ns=true:=by unfold says;rw[hP];exact h
noncomputable def oU(K:aK)(x:Str):Bool:=match fnAt K x with
 |some (_,_,fd)=>(match vS fd.params with
  |some [a]=>a.arg==("_law_script" : Str) && !(gj K fd.defaults)
  |_=>false)
 |none=>false
theorem VZ{l:PySem.W.OpenLaw}{q:ai}{loose:List Str}{XP:(Str->Option aa)->az->Prop}{YP:aj->az->Prop}{dr:DefRec}{K:Params->aK}(T:List Str)(d n k i:Nat)(hn:l.most=aB 63)(hdf:dr.params.defaults=[])(hr:dB k callerA)
 (hY:∀(w:aj)(h:az),YP w h->(K w.params).In h) (hT:T[i]?=aB dr.name) (hne:dr.name≠"") (hS:∀(w:aj)(ns:List Int),ns.length<=63->says (K w.params) T d n k i ns) (hL:∀w:aj,oU (K w.params) dr.name) :
 PySem.W.WalkO q loose XP YP l.row.toRowW dr [] (λf vs=>PySem.call f vs):=by
 have any:∀w:aj,∃Fs,jz (K w.params) T d n=aB Fs:=λw=>let⟨Fs,_,h,_⟩:=Ni (hS w [] (lJ _));⟨Fs,h⟩;refine L2.Rn (n:=63) (k:=k) (x:="_law_script") (CX:=λ_=>lS) (sp:=λw=>oA (K w.params) 1 (run (λj=>(Classical.choose (any w))[j]?) k i)) hn (by decide) hdf hr hY ?_ ?_ λ_ _ _ _ _ z=>z;intro w mg fa h KX G hmg;have hP:=Classical.choose_spec (any w);obtain⟨fn',h1,h2⟩:=Eb hP i _ hT;obtain⟨f',fd',st,ps',N,a1,a2,a3,a4,a5,a6,a7,o',V0,args,a8,a9,HN⟩:=oS (HM h2 hne);have hps:ps'=[("_law_script" : Str)]:=by
  have hl:=hL w;unfold oU at hl;rw[a8]at hl;simp only[a9]at hl;cases args with
  |nil=>cases hl
  |cons z zs=>
   cases zs with
   |nil=>
    rw[bQ]at hl;have hl:z.arg = "_law_script":=by simpa using hl.1
    rw[HN,fF,hl];rfl
   |cons _ _=>cases hl
 have hnd:gM (K w.params) dr.name=false:=by have hl:=hL w;unfold oU at hl;rw[a8]at hl;unfold gM;rw[a8];simp only[a9]at hl;split at hl;rw[bQ]at hl;simpa using hl.2;cases hl
 have e:=PySem.W.mg_of KX G (MW a1);rw[hmg]at e;cases e;subst hps;refine⟨fd',λs u=>.of_eq (a6.2.2 hnd [u] rfl),λbase KB GB=>?_⟩;cases k with|zero=>exact MV|succ k=>exact MU (F:=λj=>(Classical.choose (any w))[j]?) h1 a2 a3 a4 a5 λcdv A outer s H E hr=>vZ (oR (Ng KB GB a3 (λj y hj hy=>VW hP KB GB k k (bf _) j y hj hy) cdv A outer s H E hr) n) a7
 intro w H a ns hl hO hQ;obtain⟨Fs,h',e1,e2⟩:=Ni (hS w ns hl);have hP:=Classical.choose_spec (any w);rw[hP]at e1;cases e1;refine⟨rfl,⟨0,0,[]⟩,λ_=>0,_,_,h',⟨λi hi=>absurd hi (yU _),λi j hi=>absurd hi (yU _),rfl⟩,.cons (.fz ?_ (Nh ns)) .nil,e2,λv H' m' _ _ q=>by cases q;rfl⟩;rcases hQ with(q|⟨o,q⟩)|q
 rcases hO a with z|⟨o,xs,z⟩;rw[z]at q;cases q;rw[z]at q;cases q;exact .inl ⟨o,q⟩;exact .inr q
section
open E renaming var->v,cons->c,cst->k,nil->n,call->f,idx->x,cmp->p,bi->b,op->o,not->z,and->a,or->r,kQ->t,oj->i,slc->l,lst->m,lc->u,neg->y,mt->w
open S renaming seq->q,skip->s,ret->e,set->d,vF->g,expr->h,put->j
noncomputable def wc:Fn:=⟨1,1,(q (e (a (i .int (v 0)) (z (i .bool (v 0))))) s)⟩
noncomputable def BE:Fn:=⟨3,3,(q (e (a (f 0 (c (v 0) n)) (.qY .le .le (v 1) (v 0) (v 2)))) s)⟩
noncomputable def Ec:Fn:=⟨2,2,(q (.ite (p .eq (b .len (c (v 0) n)) (k (.int 0))) (q (e (o .add (o .mul (k (.int 7)) (v 1)) (k (.int 3)))) s) s) (q (e (b .abs (c (x (v 0) (o .mod (v 1) (b .len (c (v 0) n)))) n))) s))⟩
noncomputable def ua:E:=(p .ge (b .abs (c (v 0) n)) (o .pow (k (.int 10)) (k (.int 18))))
noncomputable def zdt:E:=(b .abs (c (v 0) n))
noncomputable def BF:Fn:=⟨1,1,(q (e (m (c (v 0) (c (u .seq (v 0) (.one 0) 1 [] ua zdt) (c (k (.int 0)) (c (k (.int 0)) n)))))) s)⟩
noncomputable def HP:Fn:=⟨3,4,(q (d 3 (o .mod (o .pow (o .add (o .mul (o .add (o .mod (f 2 (c (v 0) (c (v 1) n))) (k (.int 1000003))) (k (.int 5))) (o .add (v 1) (k (.int 2)))) (o .mul (k (.int 7919)) (v 1))) (k (.int 5))) (k (.int 2147483647)))) (q (e (o .mod (o .fdiv (v 3) (k (.int 13))) (v 2))) s))⟩
noncomputable def BG:E:=(p .lt (x (v 0) (k (.int 2))) (b .len (c (x (v 0) (k (.int 1))) n)))
noncomputable def we:S:=(q (d 2 (x (x (v 0) (k (.int 1))) (x (v 0) (k (.int 2))))) (q (.ite (p .gt (v 2) (k (.int 0))) (q (j (x (v 0) (k (.int 1))) (x (v 0) (k (.int 2))) (o .fdiv (v 2) (v 1))) (q (e (o .mod (v 2) (v 1))) s)) s) (q (j (v 0) (k (.int 2)) (o .add (x (v 0) (k (.int 2))) (k (.int 1)))) s)))
noncomputable def rJ:Fn:=⟨2,3,(q (.xY BG we) (q (j (v 0) (k (.int 3)) (o .add (x (v 0) (k (.int 3))) (k (.int 1)))) (q (e (f 4 (c (x (v 0) (k (.int 0))) (c (x (v 0) (k (.int 3))) (c (v 1) n))))) s)))⟩
noncomputable def rK:Fn:=⟨3,3,(q (e (a (i .tuple (v 0)) (.qY .le .le (v 1) (b .len (c (v 0) n)) (v 2)))) s)⟩
noncomputable def Ed:S:=(q (.ite (z (t (f 1 (c (v 5) (c (v 3) (c (v 4) n)))))) (q (e (k (.bl false))) s) s) s)
noncomputable def BH:Fn:=⟨5,6,(q (.ite (z (t (f 6 (c (v 0) (c (v 1) (c (v 2) n)))))) (q (e (k (.bl false))) s) s) (q (.«for» .seq (v 0) (.one 5) Ed) (q (e (k (.bl true))) s)))⟩
noncomputable def uc:E:=(p .lt (v 3) (v 0))
noncomputable def Ef:S:=(q (.aug 2 .add (k (.int 1))) (q (.aug 3 .mul (k (.int 2))) s))
noncomputable def wg:Fn:=⟨2,4,(q (.ite (r (z (t (f 1 (c (v 0) (c (k (.int 1)) (c (k (.int 1000000000)) n)))))) (z (t (f 1 (c (v 1) (c (k (.int 1)) (c (k (.int 4)) n))))))) (q .no s) s) (q (d 2 (k (.int 0))) (q (d 3 (v 1)) (q (.xY uc Ef) (q (e (v 2)) s)))))⟩
noncomputable def Eg:E:=(w .get (v 1) (c (v 0) (c (k (.str (bB "."))) n)))
noncomputable def rL:Fn:=⟨2,2,(q (e (b .tuple (c (u .bV (c (v 0) n) (.one 0) 1 [1] (k (.bl true)) Eg) n))) s)⟩
noncomputable def wj:Fn:=⟨2,2,(q (e (m (c (f 33 (c (v 0) (c (v 1) n))) (c (f 33 (c (v 0) (c (.dc .keys (b .bC (c (v 1) n)) (.one 0) 1 [] (k (.bl true)) (o .add (v 0) (k (.int 1))) (k (.str (bB "<")))) n))) n)))) s)⟩
noncomputable def HQ:S:=(q (h (w .append (v 2) (c (o .mod (v 0) (k (.int 2))) n))) (q (.aug 0 .fdiv (k (.int 2))) s))
noncomputable def rM:Fn:=⟨2,4,(q (d 2 (m n)) (q (.«for» .bV (c (v 1) n) (.one 3) HQ) (q (e (b .tuple (c (v 2) n))) s)))⟩
noncomputable def Eh:E:=(b .max (c (o .sub (v 1) (v 0)) (c (o .sub (v 2) (v 1)) n)))
noncomputable def HR:S:=(q (d 5 (.dc .seq (v 2) (.many [0,1,2]) 3 [4] (p .gt (o .sub (v 1) (v 3)) (v 0)) (o .sub (v 1) (v 3)) (k (.str (bB "<"))))) (q (h (w .update (v 5) (c (.dc .seq (v 2) (.many [0,1,2]) 3 [4] (p .lt (o .add (v 1) (v 3)) (v 2)) (o .add (v 1) (v 3)) (k (.str (bB ">")))) n))) (q (h (w .append (v 3) (c (f 33 (c (v 0) (c (v 5) n))) n))) s)))
noncomputable def wk:Fn:=⟨3,6,(q (d 3 (m (c (f 33 (c (v 0) (c (.dc .seq (v 2) (.many [0,1,2]) 3 [1] (k (.bl true)) (v 1) (.tup (c (v 3) (c (k (.int 0)) n)))) n))) n))) (q (.«for» .mV (c (k (.int 1)) (c (b .max (c (u .seq (v 2) (.many [0,1,2]) 3 [] (k (.bl true)) Eh) n)) n)) (.one 4) HR) (q (e (v 3)) s)))⟩
noncomputable def Nj:E:=(.tup (c (v 0) (c (o .fdiv (o .add (v 0) (v 1)) (k (.int 2))) (c (v 1) n))))
noncomputable def wm:Fn:=⟨1,1,(q (e (u .zip (c (b .st2 (c (v 0) (c (k .aR) (c (k (.int 2)) n)))) (c (b .st2 (c (v 0) (c (k (.int 1)) (c (k (.int 2)) n)))) n)) (.many [0,1]) 2 [] (k (.bl true)) Nj)) s)⟩
noncomputable def Nk:E:=(f 71 (c (v 0) (c (v 1) (c (v 2) n))))
noncomputable def rN:Fn:=⟨1,3,(q (.ite (r (z (t (f 6 (c (v 0) (c (k (.int 1)) (c (k (.int 16)) n)))))) (z (t (f 6 (c (x (v 0) (k (.int 0))) (c (k (.int 1)) (c (k (.int 4)) n))))))) (q (e (k (.bl false))) s) s) (q (d 1 (b .len (c (v 0) n))) (q (d 2 (b .len (c (x (v 0) (k (.int 0))) n))) (q (e (a (p .le (o .mul (v 1) (v 2)) (k (.int 16))) (b .all (c (u .seq (v 0) (.one 0) 1 [2,1] (k (.bl true)) Nk) n)))) s))))⟩
noncomputable def rO:Fn:=⟨2,4,(q (.ite (z (t (f 6 (c (v 0) (c (k (.int 2)) (c (k (.int 2)) n)))))) (q (e (k (.bl false))) s) s) (q (g [2,3] (v 0)) (q (e (a (f 1 (c (v 2) (c (k (.int 0)) (c (k (.int 99)) n)))) (f 1 (c (v 3) (c (k (.int 0)) (c (o .sub (v 1) (k (.int 1))) n)))))) s)))⟩
noncomputable def Nl:E:=(f 70 (c (v 0) (c (v 1) n)))
noncomputable def rP:Fn:=⟨3,3,(q (e (a (f 6 (c (v 0) (c (v 1) (c (v 1) n)))) (b .all (c (u .seq (v 0) (.one 0) 1 [2] (k (.bl true)) Nl) n)))) s)⟩
noncomputable def Nm:E:=(v 1)
noncomputable def wo:Fn:=⟨2,2,(q (e (o .add (u .seq (v 1) (.many [0,1,2]) 3 [] (k (.bl true)) Nm) (l (v 0) true (o .mul (k (.int 2)) (b .len (c (v 1) n))) false (k .aR)))) s)⟩
noncomputable def Nn:E:=(o .add (o .mul (k (.int 2)) (o .add (o .mul (v 1) (v 2)) (v 0))) (k (.int 1)))
noncomputable def HS:E:=(u .bV (c (v 1) n) (.one 0) 1 [0,1] (k (.bl true)) Nn)
noncomputable def HU:E:=(f 68 (c (v 0) n))
noncomputable def wu:E:=(v 0)
noncomputable def yl:E:=(v 1)
noncomputable def HV:E:=(f 72 (c (v 0) (c (v 1) n)))
noncomputable def BI:S:=(q (d 7 (u .seq (v 4) (.one 0) 1 [] (k (.bl true)) HU)) (q (d 5 (o .add (f 67 (c (v 3) (c (v 6) (c (.xX .seq (v 7) (.one 0) 2 [] (k (.bl true)) .seq wu (.one 1) (k (.bl true)) yl) n)))) (v 5))) (q (d 4 (u .zip (c (v 4) (c (v 7) n)) (.many [0,1]) 2 [] (k (.bl true)) HV)) s)))
noncomputable def Np:E:=(x (v 0) (k (.int 0)))
noncomputable def rQ:Fn:=⟨2,9,(q (d 2 (f 32 (c (v 0) (c (k (.int 1)) n)))) (q (d 3 (o .add (o .mul (o .mul (k (.int 2)) (v 0)) (v 1)) (k (.int 1)))) (q (d 4 (u .bV (c (v 1) n) (.one 0) 1 [0] (k (.bl true)) HS)) (q (d 5 (m n)) (q (.«for» .bV (c (v 2) n) (.one 6) BI) (q (d 8 (b .tuple (c (u .seq (v 4) (.one 0) 1 [] (k (.bl true)) Np) n))) (q (e (.tup (c (v 3) (c (v 2) (c (b .tuple (c (v 5) n)) (c (v 8) (c (o .mul (.tup (c (k (.tup [(.int 0),(.int 0)])) n)) (v 3)) n))))))) s)))))))⟩
noncomputable def BJ:S:=(q (d 6 (x (v 5) (v 3))) (q (.ite (p .eq (v 6) (k (.str (bB "s")))) (q (e (k .aR)) s) s) (q (.ite (r (p .eq (v 6) (k (.str (bB ".")))) (r (p .eq (v 6) (k (.str (bB "<")))) (p .eq (v 6) (k (.str (bB ">")))))) (q (d 4 (x (.AE (c (k (.str (bB "."))) (c (k (.int 0)) (c (k (.str (bB "<"))) (c (y (k (.int 1))) (c (k (.str (bB ">"))) (c (k (.int 1)) n))))))) (v 6))) s) (q (.ite (p .ne (v 6) (k (.str (bB "x")))) (q (d 4 (o .sub (k (.int 1)) (o .mul (k (.int 2)) (b .int (c (p .eq (x (v 1) (x (v 6) (k (.int 0)))) (x (v 6) (k (.int 1)))) n))))) (q (j (v 1) (x (v 6) (k (.int 0))) (o .sub (k (.int 1)) (x (v 1) (x (v 6) (k (.int 0)))))) s)) s) s)) (q (d 3 (o .add (v 3) (v 4))) s))))
noncomputable def oV:Fn:=⟨3,7,(q (d 3 (x (x (v 0) (k (.int 3))) (v 2))) (q (d 1 (b .list (c (v 1) n))) (q (d 4 (k (.int 0))) (q (.«for» .seq (x (v 0) (k (.int 2))) (.one 5) BJ) (q (e (m (c (v 3) (c (b .tuple (c (v 1) n)) n)))) s)))))⟩
noncomputable def eO:Fn:=⟨4,7,(q (.ite (t (i .tuple (v 0))) (q (g [4,5] (v 0)) (q (d 6 (x (v 2) (v 4))) (q (.ite (p .ne (v 4) (v 3)) (q (j (v 2) (v 4) (o .sub (k (.int 1)) (v 6))) s) s) (q (e (.ite (p .eq (v 6) (v 5)) (k (.int (-1))) (k (.int 1)))) s)))) s) (q (.ite (p .eq (v 0) (k (.str (bB "s")))) (q (e (k .aR)) s) s) (q (.ite (p .eq (v 0) (k (.str (bB "x")))) (q (e (v 1)) s) s) (q (.ite (p .eq (v 0) (k (.str (bB ".")))) (q (e (k (.int 0))) s) s) (q (e (.ite (p .eq (v 0) (k (.str (bB "<")))) (k (.int (-1))) (k (.int 1)))) s)))))⟩
noncomputable def BK:S:=(q (d 10 (x (v 9) (v 4))) (q (d 8 (f 173 (c (v 10) (c (v 8) (c (v 7) (c (v 3) n)))))) (q (.ite (p .xW (v 8) (k .aR)) (q .brk s) s) (q (.ite (a (t (i .tuple (v 10))) (p .ne (x (v 10) (k (.int 0))) (v 3))) (q (h (w .append (v 6) (c (x (v 10) (k (.int 0))) n))) s) s) (q (.aug 4 .add (v 8)) (q (h (w .append (v 5) (c (v 4) n))) s))))))
noncomputable def l5:Fn:=⟨4,11,(q (d 4 (x (x (v 0) (k (.int 3))) (v 2))) (q (d 5 (m (c (v 4) n))) (q (d 6 (m n)) (q (d 7 (b .list (c (v 1) n))) (q (d 8 (k (.int 0))) (q (.«for» .seq (x (v 0) (k (.int 2))) (.one 9) BK) (q (e (.tup (c (b .tuple (c (v 5) n)) (c (b .tuple (c (v 6) n)) (c (b .tuple (c (v 7) n)) n))))) s)))))))⟩
noncomputable def HW:E:=(f 41 (c (v 0) (c (v 1) n)))
noncomputable def HX:E:=(k (.tup [(.int 0),(.int 0)]))
noncomputable def Ei:E:=(b .GU n)
noncomputable def Ej:S:=(q (.ite (p .ne (v 19) (x (x (v 6) (v 15)) (v 9))) (q (j (x (v 10) (v 9)) (v 7) (.tup (c (v 9) (c (o .sub (k (.int 1)) (v 19)) n)))) s) s) s)
noncomputable def Ek:S:=(q (g [16,17,18] (f 174 (c (v 1) (c (v 11) (c (v 13) (c (k .aR) n)))))) (q (d 7 (x (v 16) (y (k (.int 1))))) (q (j (v 8) (v 7) (.tup (c (v 14) (c (k (.int 0)) n)))) (q (.«for» .lX (v 18) (.many [9,19]) Ej) s))))
noncomputable def BL:S:=(q (.«for» .lX (v 12) (.AD 13 [14,15]) Ek) s)
noncomputable def El:S:=(q (.aug 4 .add (b .tuple (c (f 36 (c (v 2) (c (v 20) n))) n))) s)
noncomputable def l6:Fn:=⟨1,21,(q (.ite (z (t (f 69 (c (v 0) n)))) (q .no s) s) (q (d 1 (f 77 (c (b .len (c (v 0) n)) (c (b .len (c (x (v 0) (k (.int 0))) n)) n)))) (q (g [2,3,4,5] (l (v 1) false (k .aR) true (k (.int 4)))) (q (d 6 (b .tuple (c (u .bV (c (b .len (c (v 0) n)) n) (.one 0) 1 [3] (k (.bl true)) HW) n))) (q (d 8 (u .bV (c (v 2) n) (.one 0) 1 [] (k (.bl true)) HX)) (q (d 10 (u .bV (c (v 3) n) (.one 0) 1 [] (k (.bl true)) Ei)) (q (.«for» .zip (c (v 6) (c (v 0) n)) (.many [11,12]) BL) (q (.«for» .seq (v 10) (.one 20) El) (q (e (.tup (c (.tup (c (v 2) (c (v 3) (c (v 4) (c (v 5) (c (b .tuple (c (v 8) n)) n)))))) (c (v 6) n)))) s)))))))))⟩
noncomputable abbrev rR:E:=.AE (c (k (.str (bB "."))) (c (k (.int 0)) (c (k (.str (bB "<"))) (c (y (k (.int 1))) (c (k (.str (bB ">"))) (c (k (.int 1)) n))))))
noncomputable abbrev sE:E:=k (.str (bB "s"))
noncomputable def wz:S:=(.ite (r (p .eq (v 6) (k (.str (bB ".")))) (r (p .eq (v 6) (k (.str (bB "<")))) (p .eq (v 6) (k (.str (bB ">")))))) (q (d 4 (x rR (v 6))) s) (q (.ite (p .ne (v 6) (k (.str (bB "x")))) (q (d 4 (o .sub (k (.int 1)) (o .mul (k (.int 2)) (b .int (c (p .eq (x (v 1) (x (v 6) (k (.int 0)))) (x (v 6) (k (.int 1)))) n))))) (q (j (v 1) (x (v 6) (k (.int 0))) (o .sub (k (.int 1)) (x (v 1) (x (v 6) (k (.int 0)))))) s)) s) s))
noncomputable def kG:Fn:=⟨3,3,(q (e (a (i .int (v 0)) (a (z (i .bool (v 0))) (.qY .le .le (v 1) (v 0) (v 2))))) s)⟩
noncomputable def Em:E:=(p .lt (v 2) (v 0))
noncomputable def Eo:S:=(q (d 2 (o .mul (k (.int 2)) (v 2))) (q (d 1 (o .add (v 1) (k (.int 1)))) s))
noncomputable def jA:Fn:=⟨1,3,(q (d 1 (k (.int 0))) (q (d 2 (k (.int 1))) (q (.xY Em Eo) (q (e (v 1)) s))))⟩
noncomputable def iO:Fn:=⟨4,4,(q (.ite (t (i .tuple (v 0))) (q (.ite (r (p .ne (b .len (c (v 0) n)) (k (.int 2))) (r (z (t (f 102 (c (x (v 0) (k (.int 0))) (c (k (.int 0)) (c (o .sub (v 3) (k (.int 1))) n)))))) (z (t (f 102 (c (x (v 0) (k (.int 1))) (c (k (.int 0)) (c (k (.int 1)) n)))))))) (q (e (k (.bl false))) s) s) s) (q (.ite (r (z (t (i .str (v 0)))) (p .DN (v 0) (.tup (c (k (.str (bB "."))) (c (k (.str (bB "<"))) (c (k (.str (bB ">"))) (c (k (.str (bB "x"))) (c (k (.str (bB "s"))) n)))))))) (q (e (k (.bl false))) s) s) s)) (q (.ite (r (p .eq (v 0) (k (.str (bB ".")))) (p .eq (v 0) (k (.str (bB "s"))))) (q (e (k (.bl true))) s) s) (q (e (a (r (p .gt (v 1) (k (.int 0))) (p .eq (v 0) (k (.str (bB ">"))))) (r (p .lt (v 1) (o .sub (v 2) (k (.int 1)))) (p .eq (v 0) (k (.str (bB "<"))))))) s)))⟩
noncomputable def Nq:E:=(f 155 (c (x (v 2) (v 0)) (c (v 0) (c (v 3) (c (v 1) n)))))
noncomputable def Ep:S:=(q (.ite (r (z (t (i .tuple (v 6)))) (p .ne (b .len (c (v 6) n)) (v 1))) (q (e (k (.bl false))) s) s) (q (.ite (z (t (b .all (c (u .bV (c (v 1) n) (.one 0) 1 [2,6,1] (k (.bl true)) Nq) n)))) (q (e (k (.bl false))) s) s) s))
noncomputable def Er:S:=(q (.ite (r (z (t (i .tuple (v 7)))) (r (p .ne (b .len (c (v 7) n)) (k (.int 2))) (z (t (f 102 (c (x (v 7) (k (.int 0))) (c (k (.int 0)) (c (k (.int 99)) n)))))))) (q (e (k (.bl false))) s) s) (q (.ite (a (p .qX (x (v 7) (k (.int 1))) (k .aR)) (z (t (f 102 (c (x (v 7) (k (.int 1))) (c (k (.int 0)) (c (o .sub (b .len (c (v 4) n)) (k (.int 1))) n))))))) (q (e (k (.bl false))) s) s) s))
noncomputable def Nr:E:=(f 102 (c (v 0) (c (k (.int 0)) (c (o .sub (v 1) (k (.int 1))) n))))
noncomputable def kH:Fn:=⟨1,8,(q (.ite (r (z (t (i .tuple (v 0)))) (p .ne (b .len (c (v 0) n)) (k (.int 5)))) (q (e (k (.bl false))) s) s) (q (g [1,2,3,4,5] (v 0)) (q (.ite (r (z (t (f 102 (c (v 1) (c (k (.int 1)) (c (k (.int 40)) n)))))) (z (t (f 102 (c (v 2) (c (k (.int 0)) (c (k (.int 8)) n))))))) (q (e (k (.bl false))) s) s) (q (.ite (r (z (t (i .tuple (v 3)))) (r (p .gt (b .len (c (v 3) n)) (k (.int 60))) (r (z (t (i .tuple (v 5)))) (p .ne (b .len (c (v 5) n)) (v 1))))) (q (e (k (.bl false))) s) s) (q (.ite (r (z (t (i .tuple (v 4)))) (z (.qY .le .le (k (.int 1)) (b .len (c (v 4) n)) (k (.int 4))))) (q (e (k (.bl false))) s) s) (q (.«for» .seq (v 3) (.one 6) Ep) (q (.«for» .seq (v 5) (.one 7) Er) (q (e (b .all (c (u .seq (v 4) (.one 0) 1 [1] (k (.bl true)) Nr) n))) s))))))))⟩
noncomputable def HY:E:=(.tup (c (.tup (c (v 1) (c (o .mod (o .add (v 0) (k (.int 1))) (b .len (c (v 2) n))) n))) n))
noncomputable def l7:Fn:=⟨1,3,(q (.ite (z (t (f 7 (c (v 0) (c (k (.int 1)) (c (k (.int 16)) (c (k (.int 0)) (c (k (.int 99)) n)))))))) (q .no s) s) (q (g [1,2] (f 187 (c (b .tuple (c (u .lX (v 0) (.many [0,1]) 2 [0] (k (.bl true)) HY) n)) n))) (q (e (.tup (c (v 1) (c (x (v 2) (k (.int 0))) n)))) s)))⟩
noncomputable def Es:E:=(f 5 (c (v 1) (c (v 2) n)))
noncomputable def HZ:E:=(f 102 (c (x (v 0) (k (.int 1))) (c (k (.int 0)) (c (k (.int 0)) n))))
noncomputable def Ia:E:=(f 102 (c (v 0) (c (k (.int 0)) (c (k (.int 1)) n))))
noncomputable def Et:S:=(q (d 8 (f 147 (c (v 6) (c (v 7) (c (k (.int 0)) n))))) (q (.ite (r (p .xW (v 8) (k .aR)) (p .ne (x (x (x (v 6) (k (.int 4))) (x (v 8) (k (.int 0)))) (k (.int 0))) (x (v 4) (o .mod (v 3) (b .len (c (v 4) n)))))) (q (e (k (.bl false))) s) s) (q (d 7 (x (v 8) (k (.int 1)))) s)))
noncomputable def BN:Fn:=⟨1,9,(q (d 1 (f 3 (c (v 0) n))) (q (d 2 (x (m (c (k (.int 1)) (c (k (.int 2)) (c (k (.int 3)) (c (k (.int 100)) n))))) (f 5 (c (v 1) (c (k (.int 4)) n))))) (q (d 4 (b .tuple (c (u .bV (c (o .add (k (.int 1)) (f 5 (c (v 1) (c (k (.int 16)) n)))) n) (.one 0) 1 [1,2] (k (.bl true)) Es) n))) (q (d 5 (f 293 (c (v 4) n))) (q (.ite (r (z (t (i .tuple (v 5)))) (r (p .ne (b .len (c (v 5) n)) (k (.int 2))) (z (t (f 152 (c (x (v 5) (k (.int 0))) n)))))) (q (e (k (.bl false))) s) s) (q (g [6,7] (v 5)) (q (.ite (r (p .ne (b .len (c (x (v 6) (k (.int 3))) n)) (k (.int 1))) (z (t (b .all (c (u .seq (x (v 6) (k (.int 4))) (.one 0) 1 [] (k (.bl true)) HZ) n))))) (q (e (k (.bl false))) s) s) (q (.ite (p .ne (x (v 6) (k (.int 1))) (f 149 (c (b .len (c (v 4) n)) n))) (q (e (k (.bl false))) s) s) (q (.ite (r (z (t (i .tuple (v 7)))) (p .ne (b .len (c (v 7) n)) (x (v 6) (k (.int 1))))) (q (e (k (.bl false))) s) s) (q (.ite (z (t (b .all (c (u .seq (v 7) (.one 0) 1 [] (k (.bl true)) Ia) n)))) (q (e (k (.bl false))) s) s) (q (.«for» .bV (c (o .add (o .mul (k (.int 3)) (b .len (c (v 4) n))) (k (.int 3))) n) (.one 3) Et) (q (e (p .eq (f 293 (c (v 4) n)) (v 5))) s))))))))))))⟩
noncomputable def gp:Fn:=⟨0,0,.no⟩
end
noncomputable def fin(h:VH)(r:Res Fl):Res W:=r.bind λfl h'=>match fl with|.nx _=>leave h .aR h'|.rt w=>leave h w h'|_=>.no
theorem fD{F:Nat->Option Fn}{k f:Nat}{fn:Fn}{ws:List W}{h:VH}(hF:F f=aB fn)(hl:ws.length=fn.ps) :
 run F (k+1) f ws h=fin h (exs (run F k) fn.body (ws.map aB++bK (fn.n-fn.ps) aC) ⟨h.n,h.n,h.os⟩):=by
 simp only[run,hF];rw[if_pos (by rw[hl];exact Nat.beq_refl _)];rfl
theorem V1{h:VH}{w:W}{h':VH}(h1:h.n<=h'.lo)(h2:W.lt h.n w):leave h w h'=.ok w h:=by unfold leave;rw[if_pos (by rw[bQ];exact⟨qw.mpr h1,h2⟩)]
theorem eS{h h':VH}{w:W}(h1:h.n<=h'.lo)(h2:W.lt h.n w):fin h (.ok (.rt w) h')=.ok w h:=V1 h1 h2
@[simp] theorem aD {α β:Type} {a:α} {h:VH} {f:α->VH->Res β}:(Res.ok a h).bind f=f a h:=rfl
@[simp] theorem Ib {α β:Type} {f:α->VH->Res β}:(Res.no:Res α).bind f=.no:=rfl
@[simp] theorem bM {α:Type} {a:α} {h:VH}:Res.of (aB a) h=.ok a h:=rfl
@[simp] theorem Ic {α:Type} {h:VH}:Res.of (aC:Option α) h=.no:=rfl
@[simp] theorem Ie {n:Nat}:W.lt n .aR=true:=by simp only[W.lt]
@[simp] theorem Nt {n:Nat} {b:Bool}:W.lt n (.bl b)=true:=by simp only[W.lt]
@[simp] theorem lt_int {n:Nat} {b:Int}:W.lt n (.int b)=true:=by simp only[W.lt]
@[simp] theorem lt_str {n:Nat} {b:Str}:W.lt n (.str b)=true:=by simp only[W.lt]
@[simp] theorem lD {n:Nat} {b:List W}:W.lt n (.tup b)=W.lW n b:=by simp only[W.lt]
@[simp] theorem Eu {n:Nat}:W.lW n []=true:=by simp only[W.lW]
@[simp] theorem iP {n:Nat} {b:W} {r:List W}:W.lW n (b::r)=(W.lt n b&&W.lW n r):=by simp only[W.lW]
@[simp] theorem wA:((Ty.int==Ty.int):Bool)=true:=rfl
@[simp] theorem ud:((Ty.int==Ty.bool):Bool)=false:=rfl
@[simp] theorem rS:((Ty.int==Ty.tuple):Bool)=false:=rfl
@[simp] theorem ue:((Ty.int==Ty.list):Bool)=false:=rfl
@[simp] theorem wB:((Ty.int==Ty.str):Bool)=false:=rfl
@[simp] theorem uf:((Ty.int==Ty.dict):Bool)=false:=rfl
@[simp] theorem ug:((Ty.bool==Ty.int):Bool)=false:=rfl
@[simp] theorem rT:((Ty.bool==Ty.bool):Bool)=true:=rfl
@[simp] theorem pU:((Ty.bool==Ty.tuple):Bool)=false:=rfl
@[simp] theorem rV:((Ty.bool==Ty.list):Bool)=false:=rfl
@[simp] theorem uh:((Ty.bool==Ty.str):Bool)=false:=rfl
@[simp] theorem rW:((Ty.bool==Ty.dict):Bool)=false:=rfl
@[simp] theorem rY:((Ty.tuple==Ty.int):Bool)=false:=rfl
@[simp] theorem pV:((Ty.tuple==Ty.bool):Bool)=false:=rfl
@[simp] theorem eT:((Ty.tuple==Ty.tuple):Bool)=true:=rfl
@[simp] theorem pW:((Ty.tuple==Ty.list):Bool)=false:=rfl
@[simp] theorem rZ:((Ty.tuple==Ty.str):Bool)=false:=rfl
@[simp] theorem pX:((Ty.tuple==Ty.dict):Bool)=false:=rfl
@[simp] theorem um:((Ty.list==Ty.int):Bool)=false:=rfl
@[simp] theorem se:((Ty.list==Ty.bool):Bool)=false:=rfl
@[simp] theorem pY:((Ty.list==Ty.tuple):Bool)=false:=rfl
@[simp] theorem sf:((Ty.list==Ty.list):Bool)=true:=rfl
@[simp] theorem uo:((Ty.list==Ty.str):Bool)=false:=rfl
@[simp] theorem sj:((Ty.list==Ty.dict):Bool)=false:=rfl
@[simp] theorem wC:((Ty.str==Ty.int):Bool)=false:=rfl
@[simp] theorem uq:((Ty.str==Ty.bool):Bool)=false:=rfl
@[simp] theorem sr:((Ty.str==Ty.tuple):Bool)=false:=rfl
@[simp] theorem ur:((Ty.str==Ty.list):Bool)=false:=rfl
@[simp] theorem wD:((Ty.str==Ty.str):Bool)=true:=rfl
@[simp] theorem uu:((Ty.str==Ty.dict):Bool)=false:=rfl
@[simp] theorem uv:((Ty.dict==Ty.int):Bool)=false:=rfl
@[simp] theorem su:((Ty.dict==Ty.bool):Bool)=false:=rfl
@[simp] theorem pZ:((Ty.dict==Ty.tuple):Bool)=false:=rfl
@[simp] theorem sy:((Ty.dict==Ty.list):Bool)=false:=rfl
@[simp] theorem uw:((Ty.dict==Ty.str):Bool)=false:=rfl
@[simp] theorem sA:((Ty.dict==Ty.dict):Bool)=true:=rfl
@[simp] theorem Ew {t:Ty} {h:VH}:cP t h .aR=aB false:=rfl
@[simp] theorem Ig {t:Ty} {h:VH} {b:Bool}:cP t h (.bl b)=aB (t == .int||t == .bool):=rfl
@[simp] theorem Ex {t:Ty} {h:VH} {i:Int}:cP t h (.int i)=aB (t == .int):=rfl
@[simp] theorem Ey {t:Ty} {h:VH} {x:Str}:cP t h (.str x)=aB (t == .str):=rfl
@[simp] theorem l8 {t:Ty} {h:VH} {x:List W}:cP t h (.tup x)=aB (t == .tuple):=rfl
@[simp] theorem dY {h:VH} {l i:Nat}:VH.get ⟨h.n,l,h.os⟩ i=h.get i:=by unfold VH.get;rfl
@[simp] theorem oW {h:VH} {b:Bool}:mX h (.bl b)=aB b:=rfl
noncomputable def forL(tg:W->VH->En->Option En)(b:FS):List W->En->VH->Res Fl
 |[],ρ,h=>.ok (.nx ρ) h
 |w::r,ρ,h=>match tg w h ρ with
  |none=>.no
  |some ρ=>(b ρ h).bind λfl h=>match fl with
   |.nx ρ=>forL tg b r ρ h
   |.ct ρ=>forL tg b r ρ h
   |.bk ρ=>.ok (.nx ρ) h
   |.rt w=>.ok (.rt w) h
noncomputable def ux(tg:W->VH->En->Option En)(c e:FE):List W->En->VH->Res (List W)
 |[],_,h=>.ok [] h
 |w::r,ρ,h=>match tg w h ρ with
  |none=>.no
  |some ρ=>(c ρ h).bind λb h=>match b with
   |.bl true=>(e ρ h).bind λy h=>(ux tg c e r ρ h).bind λys h=>.ok (y::ys) h
   |.bl false=>ux tg c e r ρ h
   |_=>.no
theorem bind_assoc{α β γ:Type}{r:Res α}{f:α->VH->Res β}{g:β->VH->Res γ}:(r.bind f).bind g=r.bind λa h=>(f a h).bind g:=by cases r<;>rfl
theorem Nu{nx:Nat->VH->Option (Option W)}{tg:W->VH->En->Option En}{b:FS}{ws:List W}(hx:∀i h,nx i h=aB ws[i]?):∀(fu i:Nat) (ρ:En) (h:VH),i<=ws.length->ws.length<fu+i->eF nx tg b fu i ρ h=forL tg b (ws.drop i) ρ h
 |0,i,ρ,h,hi,hl=>by lia
 |fu+1,i,ρ,h,hi,hl=>by
  simp only[eF,hx];cases q:ws[i]? with
  |none=>
   rw[CQ (pH.mp q)];rfl
  |some w=>
   obtain⟨hi,e⟩:=iB.mp q;rw[CN hi,e];simp only[forL];cases tg w h ρ with
   |none=>rfl
   |some ρ'=>
    simp only;congr 1;funext fl h1;cases fl<;>simp only[Nu hx fu (i+1) _ _ hi (by lia)]
theorem Ih{nx:Nat->VH->Option (Option W)}{tg:W->VH->En->Option En}{c e:FE}{ws:List W}(hx:∀i h,nx i h=aB ws[i]?):∀(fu i:Nat) (ρ:En) (h:VH) (acc:List W),i<=ws.length->ws.length<fu+i->
 ig nx tg c e fu i ρ h acc=(ux tg c e (ws.drop i) ρ h).bind λys h=>.ok (acc.reverse++ys) h
 |0,i,ρ,h,acc,hi,hl=>by lia
 |fu+1,i,ρ,h,acc,hi,hl=>by
  simp only[ig,hx];cases q:ws[i]? with
  |none=>
   rw[CQ (pH.mp q)];simp[ux]
  |some w=>
   obtain⟨hi,ee⟩:=iB.mp q;rw[CN hi,ee];simp only[ux];cases tg w h ρ with
   |none=>rfl
   |some ρ'=>
    simp only[bind_assoc];congr 1;funext bv h1;cases bv<;>try rfl
    rename_i bb;cases bb with
    |true=>
     simp only[bind_assoc];congr 1;funext y h2;rw[Ih hx fu (i+1) _ _ _ hi (by lia)];congr 1;funext ys h3;simp
    |false=>simp only[Ih hx fu (i+1) _ _ _ hi (by lia)]
theorem Ez{ws:List W}{tg:W->VH->En->Option En}{b:FS}{ρ:En}{h:VH}(hl:ws.length<1000000):eF (aY .seq (.tup ws)) tg b fuel 0 ρ h=forL tg b ws ρ h:=by have:=Nu (nx:=aY .seq (.tup ws)) (tg:=tg) (b:=b) (ws:=ws) (λi h=>rfl) fuel 0 ρ h (lJ _) (by simpa[fuel]using hl);simpa using this
noncomputable def isInt:W->Bool|.int _=>true|_=>false
noncomputable def Kn(h:VH)(w:W):Prop:=cP .int h w≠aC
theorem l9{h:VH}{l:Nat}{w:W}:Kn ⟨h.n,l,h.os⟩ w↔Kn h w:=by unfold Kn;cases w<;>simp[cP]
structure oX(F:Nat->Option Fn):Prop where
 f0:F 0=aB wc
 f1:F 1=aB BE
 f6:F 6=aB rK
 f7:F 7=aB BH
section
variable{F:Nat->Option Fn}(C:oX F)
include C
theorem V2{k:Nat}{h:VH}{w:W}(hw:Kn h w):run F (k+1) 0 [w] h=.ok (.bl (isInt w)) h:=by
 rw[fD C.f0 rfl];cases w<;>try(simp[wc,exs,ev,isInt,eS];done)
 exact absurd rfl hw;rename_i i;unfold Kn at hw;simp only[cP]at hw;cases g:h.get i with
 |none=>rw[g]at hw;exact absurd rfl hw
 |some o=>cases o<;>first|(simp[wc,exs,ev,isInt,eS,cP,g];done)|(simp[g]at hw)
noncomputable def within(w:W)(lo hi:Int):Bool:=match w with|.int i=>decide (lo<=i)&&decide (i<=hi)|_=>false
theorem V3{k:Nat}{h:VH}{w:W}{lo hi:Int}(hw:Kn h w):run F (k+2) 1 [w,.int lo,.int hi] h=.ok (.bl (within w lo hi)) h:=by rw[fD C.f1 rfl];have e:=V2 C (k:=k) (h:=⟨h.n,h.n,h.os⟩) (w:=w) (l9.mpr hw);cases w<;>simp[BE,exs,ev,e,isInt,within,eS,bw,ie];rename_i i;by_cases h1:lo<=i<;>simp[h1,eS]
noncomputable def jB(w:W)(lo hi:Int):Bool:=match w with|.tup ws=>decide (lo<=ws.length)&&decide ((ws.length:Int)<=hi)|_=>false
theorem V4{k:Nat}{h:VH}{w:W}{lo hi:Int}(hw:Kn h w):run F (k+1) 6 [w,.int lo,.int hi] h=.ok (.bl (jB w lo hi)) h:=by
 rw[fD C.f6 rfl];cases w<;>try(simp[rK,exs,ev,jB,eS];done)
 rename_i ws;simp[rK,exs,ev,jB,eS,bw,ie,lu,iH,aV];by_cases h1:lo<=ws.length<;>simp[h1,eS];exact absurd rfl hw;rename_i i;unfold Kn at hw;simp only[cP]at hw;cases g:h.get i with
 |none=>rw[g]at hw;exact absurd rfl hw
 |some o=>cases o<;>first|(simp[rK,exs,ev,jB,eS,cP,g];done)|(simp[g]at hw)
theorem uy{k:Nat}{h:VH}{t a b:W}{lo hi:Int}:∀(ws:List W) (x:Option W),(∀w∈ws,Kn h w)->∃y,forL (bH (.one 5)) (exs (run F (k+2)) Ed) ws [aB t,aB a,aB b,aB (.int lo),aB (.int hi),x] h =
 if ws.all (within · lo hi)then .ok (.nx [aB t,aB a,aB b,aB (.int lo),aB (.int hi),y]) h else .ok (.rt (.bl false)) h
 |[],x,_=>⟨x,by simp[forL]⟩
 |w::r,x,hk=>by
  obtain⟨y,e⟩:=uy (t:=t) (a:=a) (b:=b) (k:=k) (lo:=lo) (hi:=hi) r (aB w) λz hz=>hk z (eY _ hz);refine⟨y,?_⟩;have e1:=V3 C (k:=k) (lo:=lo) (hi:=hi) (hk w eZ);have eb:exs (run F (k+2)) Ed [aB t,aB a,aB b,aB (.int lo),aB (.int hi),aB w] h=if within w lo hi then .ok (.nx [aB t,aB a,aB b,aB (.int lo),aB (.int hi),aB w]) h else .ok (.rt (.bl false)) h:=by cases q:within w lo hi<;>simp[Ed,exs,ev,e1,q]
  simp only[forL,bH,List.set,eb];cases q:within w lo hi<;>simp[q,e]
noncomputable def ym(w:W)(a b lo hi:Int):Bool:=match w with|.tup ws=>jB w a b&&ws.all (within · lo hi)|_=>false
theorem V5{k:Nat}{h:VH}{w:W}{a b lo hi:Int}(hw:Kn h w)(hp:∀ws,w=.tup ws->ws.length<1000000/\∀x∈ws,Kn h x):run F (k+3) 7 [w,.int a,.int b,.int lo,.int hi] h=.ok (.bl (ym w a b lo hi)) h:=by
 rw[fD C.f7 rfl];have e1:=V4 C (k:=k+1) (h:=⟨h.n,h.n,h.os⟩) (w:=w) (lo:=a) (hi:=b) (l9.mpr hw);cases q:jB w a b with
 |false=>
  have:ym w a b lo hi=false:=by cases w<;>simp[ym,q]
  simp[BH,exs,ev,e1,q,this,eS]
 |true=>
  cases w<;>try(simp[jB]at q;done)
  rename_i ws;obtain⟨hl,hk⟩:=hp ws rfl;obtain⟨y,e2⟩:=uy C (k:=k) (h:=⟨h.n,h.n,h.os⟩) (t:=.tup ws) (a:=.int a) (b:=.int b) (lo:=lo) (hi:=hi) ws aC λx hx=>l9.mpr (hk x hx);have e3:ym (.tup ws) a b lo hi=ws.all (within · lo hi):=by simp[ym,q]
  rw[e3];cases q2:ws.all (within · lo hi)with|true=>simp[BH,exs,ev,e1,q,Ez hl,e2,q2,eS]|false=>simp[BH,exs,ev,e1,q,Ez hl,e2,q2,eS]
end
noncomputable def gu:Nat->W->Bool
 |0,_=>false
 |n+1,w=>match w with
  |.aR=>true
  |.bl _=>true
  |.int _=>true
  |.str x=>PyData.strOk x
  |.tup ws=>ws.all (gu n)
  |_=>false
theorem Nv{f:W->Option aA}{p:W->Bool}{n:Nat}(h:∀w,p w=true->∃d,f w=aB d/\d.canLay0=true/\d.depth<=n):∀ws:List W,ws.all p=true->∃ds,bF f ws=aB ds/\PyData.canLayAll0 ds=true/\PyData.depthAll ds<=n
 |[],_=>⟨[],rfl,rfl,lJ _⟩
 |w::r,e=>by
  rw[pK,bQ]at e;obtain⟨d,h1,h2,h3⟩:=h w e.1;obtain⟨ds,h4,h5,h6⟩:=Nv h r e.2;refine⟨d::ds,by simp[bF,h1,h4],?_,?_⟩;show(d.canLay0&&PyData.canLayAll0 ds)=true;rw[h2,h5];rfl;show max d.depth (PyData.depthAll ds)<=n;lia
theorem Ii(h:VH):∀(n:Nat) (w:W),gu n w=true->∃d,toD h n w=aB d/\d.canLay0=true/\d.depth<=n
 |0,_,e=>by cases e
 |n+1,w,e=>by
  cases w<;>simp only[gu]at e<;>try(cases e;done)
  exact⟨.none,rfl,rfl,lJ _⟩;exact⟨.bool _,rfl,rfl,lJ _⟩;exact⟨.int _,rfl,rfl,lJ _⟩;exact⟨.str _,rfl,e,lJ _⟩;obtain⟨ds,h1,h2,h3⟩:=Nv (Ii h n) _ e;exact⟨.tuple ds,by simp[toD,h1],h2,by show PyData.depthAll ds+1<=n+1;lia⟩
mutual
theorem Nx:∀d:aA,d.canLay0=true->PyData.eqv d d=true
 |.none,_=>rfl
 |.bool b,_=>by simp[PyData.eqv]
 |.int i,_=>by simp[PyData.eqv]
 |.str x,_=>by simp[PyData.eqv]
 |.list xs,h=>by
  simp only[PyData.eqv];exact Ij xs h
 |.tuple xs,h=>by
  simp only[PyData.eqv];exact Ij xs h
 |.dict _,h=>by cases h
theorem Ij:∀ds:List aA,PyData.canLayAll0 ds=true->PyData.eqvAll ds ds=true
 |[],_=>rfl
 |d::ds,h=>by
  have h:(d.canLay0&&PyData.canLayAll0 ds)=true:=h;rw[bQ]at h;simp only[PyData.eqvAll,Nx d h.1,Ij ds h.2,Bool.and_self]
end
theorem V6{h:VH}{w:W}(p:gu 24 w):cY h w w=aB true:=by
 obtain⟨d,h1,h2,h3⟩:=Ii h 24 w p;have hs:SeqAt.shaped d=true:=by unfold SeqAt.shaped;rw[h2,Bool.true_and,gz];lia
 unfold cY;rw[h1];simp[hs,Nx d h2]
noncomputable def mh(w:W)(x:Str):Bool:=match w with|.str y=>y==x|_=>false
theorem yo{h:VH}{w:W}{x:Str}(p:gu 24 w)(hx:PyData.strOk x):cY h w (.str x)=aB (mh w x):=by
 obtain⟨d,h1,h2,h3⟩:=Ii h 24 w p;have hs:SeqAt.shaped d=true:=by unfold SeqAt.shaped;rw[h2,Bool.true_and,gz];lia
 have hs2:SeqAt.shaped (.str x)=true:=by unfold SeqAt.shaped;show(PyData.strOk x&&_)=true;rw[hx];rfl
 unfold cY;rw[h1];have h4:toD h 24 (.str x)=aB (.str x):=rfl;rw[h4];simp only[hs,hs2,Bool.and_self,cC];cases w<;>simp only[toD]at h1<;>try(cases h1;done)
 cases h1;simp[mh,PyData.eqv];cases h1;simp[mh,PyData.eqv];cases h1;simp[mh,PyData.eqv];cases h1;simp[mh,PyData.eqv];obtain⟨ds,h5,h6⟩:=Option.map_eq_some_iff.mp h1;subst h6;simp[mh,PyData.eqv];simp[gu]at p;simp[gu]at p
theorem Ik{n:Nat}{ws:List W}:gu (n+1) (.tup ws)=ws.all (gu n):=rfl
theorem zxw:dQ .aR=true:=rfl
noncomputable def yp(w:W)(n:Int):Bool:=dQ w||within w 0 (n-1)
noncomputable def door(w:W)(n:Int):Bool:=match w with|.tup [a,b]=>within a 0 99&&yp b n|_=>false
noncomputable def wF(w:W)(g:Int):Bool:=match w with|.tup [a,b]=>within a 0 (g-1)&&within b 0 1|_=>false
noncomputable def jO(w:W)(c wd g:Int):Bool:=
 if mh w "x" || wF w g then decide (0<c)&&decide (c<wd-1)else if mh w "<"then decide (0<c)else if mh w ">"then decide (c<wd-1)else mh w "." || mh w "s"
section
variable{F:Nat->Option Fn}
theorem V7:PyData.strOk (Str.ofString "x")=true:=by decide +kernel
theorem V8:PyData.strOk (Str.ofString "<")=true:=by decide +kernel
theorem V9:PyData.strOk (Str.ofString ">")=true:=by decide +kernel
theorem Wa:PyData.strOk (Str.ofString ".")=true:=by decide +kernel
theorem Wb:PyData.strOk (Str.ofString "s")=true:=by decide +kernel
end
structure Bd where
 wd:Int
 gr:Int
 rows:List (List W)
 fd:List W
 dr:List W
noncomputable def Bd.w(B:Bd):W:=.tup [.int B.wd,.int B.gr,.tup (B.rows.map .tup),.tup B.fd,.tup B.dr]
noncomputable def dw(wd g:Int):Int->List W->Prop|_,[]=>True|c,w::r=>jO w c wd g=true/\dw wd g (c+1) r
structure Bd.Ok(B:Bd):Prop where
 w1:1<=B.wd
 w2:B.wd<=40
 g1:0<=B.gr
 g2:B.gr<=8
 r1:B.rows.length<=60
 r2:∀r∈B.rows,(r.length:Int)=B.wd/\dw B.wd B.gr 0 r
 f1:1<=B.fd.length
 f2:B.fd.length<=4
 f3:∀f∈B.fd,within f 0 (B.wd-1)=true
 d1:(B.dr.length:Int)=B.wd
 d2:∀d∈B.dr,door d B.fd.length=true
theorem Wc{w:W}{g:Int}(h:wF w g)(n:Nat):gu (n+2) w=true:=by
 cases w<;>simp only[wF]at h<;>try(cases h;done)
 rename_i us;rcases us with _|⟨a,_|⟨b,_|_⟩⟩<;>simp at h
 obtain⟨h1,h2⟩:=h;cases a<;>simp[within]at h1;cases b<;>simp[within]at h2;rfl
theorem yq{w:W}{x:Str}(h:mh w x):w=.str x:=by cases w<;>simp[mh]at h;rw[h]
theorem Wd{w:W}{c wd g:Int}(h:jO w c wd g)(n:Nat):gu (n+2) w=true:=by
 have st:∀x:Str,PyData.strOk x=true->mh w x=true->gu (n+2) w=true:=λx hx e=>by rw[yq e];exact hx
 unfold jO at h;split at h;rename_i q;rw[pL]at q;rcases q with q|q
 exact st _ (by decide +kernel) q;exact Wc q n;split at h;rename_i q;exact st _ (by decide +kernel) q;split at h;rename_i q;exact st _ (by decide +kernel) q;rw[pL]at h;rcases h with q|q
 exact st _ (by decide +kernel) q;exact st _ (by decide +kernel) q
structure mj(F:Nat->Option Fn):Prop where
 f2:F 2=aB Ec
 f3:F 3=aB BF
 f4:F 4=aB HP
 f5:F 5=aB rJ
theorem uz{h:VH}{i j:Int}:cY h (.int i) (.int j)=aB (decide (i=j)):=by unfold cY;simp only[toD];show aB (i==j)=_;by_cases q:i=j<;>simp[q]
theorem Il{i:Int}(h1:-(2 ^ 63)<=i)(h2:i<2 ^ 63):jX i=true:=by unfold jX;simp only[bQ,gz];lia
theorem oY{h:VH}{i:Nat}{o o0:VO}(g:h.get i=aB o0):(h.set i o).get i=aB o:=by have hi:=cA g;unfold VH.get at g;rw[if_pos (gX.mpr hi)]at g;have hl:=(iB.mp g).1;unfold VH.get VH.set;simp only[if_pos (gX.mpr hi)];rw[uP hl]
theorem yr{h:VH}{i j:Nat}{o o0:VO}(g:h.get i=aB o0)(hj:j≠i):(h.set i o).get j=h.get j:=pR (cA g) hj
structure Dk(h:VH)(d c:Nat)(b:Nat):Prop where
 ne:d≠c
 st:∃(ns cells:List Int) (p q:Int),h.get d=aB (.lst [.fz (ns.map .int),.ref c,.int p,.int q])/\h.get c=aB (.lst (cells.map .int))/\(∀x∈cells,(0:Int)<=x)/\0<=p/\0<=q/\q<=b/\cells.length<=63
theorem Dk.mono{h:VH}{d c b b':Nat}(D:Dk h d c b)(hb:b<=b'):Dk h d c b':=by obtain⟨ne,ns,cells,p,q,a1,a2,a3,a4,a5,a6,a7⟩:=D;exact⟨ne,ns,cells,p,q,a1,a2,a3,a4,a5,by lia,a7⟩
structure BO(h h':VH)(d c:Nat):Prop where
 le:h.n<=h'.n
 get:∀i o,i≠d->i≠c->h.get i=aB o->h'.get i=aB o
theorem Im(i:Int):(if i<0 then -i else i)=(i.natAbs:Int):=by split<;>lia
section
variable{F:Nat->Option Fn}(C:mj F)
include C
theorem cell{k:Nat}{h:VH}{ns:List Int}{j:Int}(hj:0<=j):∃r,run F (k+1) 2 [.fz (ns.map .int),.int j] h=.ok (.int r) h/\0<=r:=by
 rw[fD C.f2 rfl];cases ns with
 |nil=>
  refine⟨7*j+3,?_,by lia⟩;simp[Ec,exs,ev,lu,iH,aV,bw,uz,iV,gH,Il,eS]
 |cons n0 sC=>
  have hl:(0:Int)< ((n0::sC).length:Int):=by simp only[dg];lia
  have hm1:=yX j (show((n0::sC).length:Int)≠0 by lia);have hm2:=yW j hl;obtain⟨m,hm⟩:=xD hm1;have hml:m< (n0::sC).length:=by lia
  have ha:fy (List.map W.int (n0::sC)) (j % ((n0::sC).length:Int))=aB (.int ((n0::sC)[m])):=by rw[hm];exact lR (by rw[dO,cJ hml];rfl)
  have hb:¬(((sC.length:Int)+1)=0):=by lia
  have hp:(0:Int)< (sC.length:Int)+1:=by lia
  refine⟨(((n0::sC)[m]).natAbs:Int),?_,by lia⟩;simp only[dg,Int.natCast_add,Int.cast_ofNat_Int,fF]at ha;simp[Ec,exs,ev,lu,iH,aV,bw,uz,iV,gH,eS,bT,lq,hb,hp,ha,Im]
theorem mixed{k:Nat}{h:VH}{ns:List Int}{j m:Int}(hj:0<=j)(hj2:j<=1000000000)(hm:0<m):∃r,run F (k+2) 4 [.fz (ns.map .int),.int j,.int m] h=.ok (.int r) h/\0<=r/\r<m:=by
 rw[fD C.f4 rfl];obtain⟨c,e1,hc⟩:=cell C (k:=k) (h:=⟨h.n,h.n,h.os⟩) (ns:=ns) hj;have h1:=yX c (show(1000003:Int)≠0 by decide);have h2:=yW c (show(0:Int)<1000003 by decide);generalize hx:c % 1000003=x at h1 h2;have s1:jX (x+5)=true:=Il (by lia) (by lia);have s2:jX 7919=true:=Il (by decide) (by decide);have hb:(x+5)* (j+2)<=1000008*1000000002:=Int.mul_le_mul (by lia) (by lia) (by lia) (by lia);have hb0:0<=(x+5)* (j+2):=Int.mul_nonneg (by lia) (by lia);generalize hy:(x+5)* (j+2)=y at hb hb0;have hn:(y+7919*j).natAbs<2 ^ 64:=by lia
 refine⟨(y+7919*j) ^ 5 % 2147483647/13 % m,?_,yX _ (by lia),yW _ hm⟩;have hn':(y+7919*j).natAbs<18446744073709551616:=by lia
 simp[HP,exs,ev,e1,iV,gH,hx,s1,s2,hy,hn',hm,eS]
theorem Ny{k:Nat}{d c:Nat}{m q:Int}{ns:List Int}(hdc:d≠c)(hm:0<m)(hm2:m<1073741824):∀(n f:Nat) (g:VH) (x:Option W) (cells:List Int) (p:Int),n<f->(cells.length:Int)-p<=n->0<=p->(∀y∈cells,(0:Int)<=y)->
 g.get d=aB (.lst [.fz (ns.map .int),.ref c,.int p,.int q])->g.get c=aB (.lst (cells.map .int))->
 ∃(g':VH) (cells':List Int) (p':Int),0<=p'/\(∀y∈cells',(0:Int)<=y)/\cells'.length=cells.length/\g'.get d=aB (.lst [.fz (ns.map .int),.ref c,.int p',.int q])/\g'.get c=aB (.lst (cells'.map .int))/\g'.n=g.n/\(∀i,i≠d->i≠c->g'.get i=g.get i)/\
  ((∃r,dD (ev (run F (k+2)) BG) (exs (run F (k+2)) we) f [aB (.ref d),aB (.int m),x] g=.ok (.rt (.int r)) g'/\0<=r/\r<m)\/∃y,dD (ev (run F (k+2)) BG) (exs (run F (k+2)) we) f [aB (.ref d),aB (.int m),x] g=.ok (.nx [aB (.ref d),aB (.int m),y]) g')
 |n,0,g,x,cells,p,hf,_,_,_,_,_=>by lia
 |n,f+1,g,x,cells,p,hf,hn,hp,hnn,gd,gc=>by
  have ec:ev (run F (k+2)) BG [aB (.ref d),aB (.int m),x] g=.ok (.bl (decide (p<cells.length))) g:=by simp[BG,ev,bT,gd,fy,iU,lu,iH,aV,gc,bw,ie]
  by_cases hlt:p<cells.length;obtain⟨pn,rfl⟩:=xD hp;have hpl:pn<cells.length:=by lia
  have hat:fy (cells.map W.int) (pn:Int)=aB (.int cells[pn]):=lR (by rw[dO,cJ hpl];rfl);by_cases hpos:0<cells[pn];refine⟨g.set c (.lst ((cells.set pn (cells[pn]/m)).map .int)),cells.set pn (cells[pn]/m),pn,hp,?_,by simp,?_,oY gc,rfl,λi _ hi=>yr gc hi,.inl ⟨cells[pn] % m,?_,yX _ (by lia),yW _ hm⟩⟩;intro y hy;rcases CO hy with hy|rfl
  exact hnn y hy;exact Int.ediv_nonneg (by lia) (by lia);rw[yr gc hdc];exact gd;have hix:iU (cells.map W.int).length (pn:Int)=aB pn:=by unfold iU;rw[if_pos (by lia),if_pos (by rw[bD];lia)];simp
  have eb:exs (run F (k+2)) we [aB (.ref d),aB (.int m),x] g=.ok (.rt (.int (cells[pn] % m))) (g.set c (.lst ((cells.set pn (cells[pn]/m)).map .int))):=by have h2:fy [W.fz (ns.map .int),.ref c,.int pn,.int q] 2=aB (.int pn):=rfl;have h1:fy [W.fz (ns.map .int),.ref c,.int pn,.int q] 1=aB (.ref c):=rfl;simp[we,exs,ev,bT,gd,h1,h2,gc,hat,bw,ie,hpos,iV,gH,hm,hm2]at hix ⊢;simp[hix,hm,List.map_set]
  simp[dD,ec,hlt,eb];have gs:(g.set d (.lst [.fz (ns.map .int),.ref c,.int ((pn:Int)+1),.int q])).get c=aB (.lst (cells.map .int)):=by rw[yr gd (fH hdc)];exact gc
  cases n with
  |zero=>lia
  |succ n=>
   obtain⟨g',cells',p',a1,a2,a3,a4,a5,a6,a7,a8⟩:=Ny (k:=k) hdc hm hm2 n f (g.set d (.lst [.fz (ns.map .int),.ref c,.int ((pn:Int)+1),.int q])) (aB (.int cells[pn])) cells (pn+1) (by lia) (by lia) (by lia) hnn (oY gd) gs;have eb:exs (run F (k+2)) we [aB (.ref d),aB (.int m),x] g=.ok (.nx [aB (.ref d),aB (.int m),aB (.int cells[pn])]) (g.set d (.lst [.fz (ns.map .int),.ref c,.int ((pn:Int)+1),.int q])):=by have h2:fy [W.fz (ns.map .int),.ref c,.int pn,.int q] 2=aB (.int pn):=rfl;have h1:fy [W.fz (ns.map .int),.ref c,.int pn,.int q] 1=aB (.ref c):=rfl;have h3:iU 4 2=aB 2:=rfl;simp[we,exs,ev,bT,gd,h1,h2,h3,gc,hat,bw,ie,hpos,iV,gH]
   refine⟨g',cells',p',a1,a2,a3,a4,a5,a6,λi h1 h2=>by rw[a7 i h1 h2,yr gd h1],?_⟩;rcases a8 with⟨r,e,h3⟩|⟨y,e⟩
   exact .inl ⟨r,by simp[dD,ec,hlt,eb,e],h3⟩;exact .inr ⟨y,by simp[dD,ec,hlt,eb,e]⟩
  exact⟨g,cells,p,hp,hnn,rfl,gd,gc,rfl,λ_ _ _=>rfl,.inr ⟨x,by simp[dD,ec,hlt]⟩⟩
omit C in
theorem We{h h':VH}{w:W}(g:fN ⟨h.n,h.n,h.os⟩ h'):∃h2,leave h w h'=.ok w h2/\h.n<=h2.n/\∀i,i<h.n->h2.get i=h'.get i:=by
 unfold leave;split;rename_i q;rw[bQ]at q;have hlo:=kY q.1;exact⟨h,rfl,bf _,λi hi=>by
  rw[g.2.2 i hi (dF hi hlo)];exact dY.symm⟩
 exact⟨_,rfl,g.1,λi hi=>dY⟩
theorem take{k:Nat}{h:VH}{d c b:Nat}{m:Int}(D:Dk h d c b)(hb:b<1000000000)(hm:0<m)(hm2:m<1073741824):∃r h',run F (k+3) 5 [.ref d,.int m] h=.ok (.int r) h'/\0<=r/\r<m/\Dk h' d c (b+1)/\BO h h' d c:=by
 rw[fD C.f5 rfl];obtain⟨hne,ns,cells,p,q,gd,gc,hnn,hp,hq,hqb,hl⟩:=D;have Wf:VH.get ⟨h.n,h.n,h.os⟩ d=aB (.lst [.fz (ns.map .int),.ref c,.int p,.int q]):=by rw[dY];exact gd
 have Wg:VH.get ⟨h.n,h.n,h.os⟩ c=aB (.lst (cells.map .int)):=by rw[dY];exact gc
 obtain⟨g',cells',p',a1,a2,a3,a4,a5,a6,a7,a8⟩:=Ny C (k:=k) hne hm hm2 63 fuel ⟨h.n,h.n,h.os⟩ aC cells p (by decide) (by lia) hp hnn Wf Wg;have key:∀(g2:VH)(r:Int)(iQ:List Int)(p2 q2:Int),exs (run F (k+2)) rJ.body [aB (.ref d),aB (.int m),aC] ⟨h.n,h.n,h.os⟩=.ok (.rt (.int r)) g2->0<=r->r<m->0<=p2->0<=q2->q2<=b+1->iQ.length<=63->(∀y∈iQ,(0:Int)<=y)->
  g2.get d=aB (.lst [.fz (ns.map .int),.ref c,.int p2,.int q2])->g2.get c=aB (.lst (iQ.map .int))->(∀i,i<h.n->i≠d->i≠c->g2.get i=h.get i)->
  ∃r h',fin h (exs (run F (k+2)) rJ.body ([W.ref d,W.int m].map aB++bK (rJ.n-rJ.ps) aC) ⟨h.n,h.n,h.os⟩)=.ok (.int r) h'/\0<=r/\r<m/\Dk h' d c (b+1)/\BO h h' d c:=by
  intro g2 r iQ p2 q2 e r1 r2 b1 b2 b3 b4 b5 b6 b7 b8;obtain⟨h2,e2,hn2,vQ⟩:=We (w:=.int r) (Hs (Ht F (k+2)) _ _ _ _ _ e);refine⟨r,h2,?_,r1,r2,⟨hne,ns,iQ,p2,q2,?_,?_,b5,b1,b2,by lia,b4⟩,⟨hn2,λi o h1 h3 e3=>?_⟩⟩;show fin h (exs (run F (k+2)) rJ.body [aB (.ref d),aB (.int m),aC] ⟨h.n,h.n,h.os⟩)=_;rw[e];exact e2;rw[vQ d (cA gd)];exact b6;rw[vQ c (cA gc)];exact b7;rw[vQ i (cA e3),b8 i (cA e3) h1 h3];exact e3
 rcases a8 with⟨r,e,r1,r2⟩|⟨y,e⟩;refine key g' r cells' p' q ?_ r1 r2 a1 hq (by lia) (by lia) a2 a4 a5 λi hi h1 h2=>by rw[a7 i h1 h2,dY]
 simp[rJ,exs,e];obtain⟨r,e2,r1,r2⟩:=mixed C (k:=k) (h:=g'.set d (.lst [.fz (ns.map .int),.ref c,.int p',.int (q+1)])) (ns:=ns) (j:=q+1) (m:=m) (by lia) (by lia) hm;refine key (g'.set d (.lst [.fz (ns.map .int),.ref c,.int p',.int (q+1)])) r cells' p' (q+1) ?_ r1 r2 a1 (by lia) (by lia) (by lia) a2 (oY a4) (by rw[yr a4 (fH hne)];exact a5) λi hi h1 h2=>by rw[yr a4 h1,a7 i h1 h2,dY]
 have h3:fy [W.fz (ns.map .int),.ref c,.int p',.int q] 3=aB (.int q):=rfl;have h30:fy [W.fz (ns.map .int),.ref c,.int p',.int (q+1)] 3=aB (.int (q+1)):=rfl;have Wh:fy [W.fz (ns.map .int),.ref c,.int p',.int (q+1)] 0=aB (.fz (ns.map .int)):=rfl;have Wi:iU 4 3=aB 3:=rfl;have hs:=oY (o:=.lst [.fz (ns.map .int),.ref c,.int p',.int (q+1)]) a4;simp[rJ,exs,e,ev,bT,a4,h3,iV,gH,Wi,hs,h30,Wh,e2]
end
theorem aZ{cl:Call}{a b:S}{ρ ρ':En}{h h':VH}(e:exs cl a ρ h=.ok (.nx ρ') h'):exs cl (.seq a b) ρ h=exs cl b ρ' h':=by simp only[exs,e,aD]
theorem iX{cl:Call}{a b:S}{ρ:En}{w:W}{h h':VH}(e:exs cl a ρ h=.ok (.rt w) h'):exs cl (.seq a b) ρ h=.ok (.rt w) h':=by simp only[exs,e,aD]
@[simp] theorem BP {cl:Call} {ρ:En} {h:VH}:exs cl .skip ρ h=.ok (.nx ρ) h:=rfl
theorem Dk.new{h:VH}{d c b:Nat}{o:VO}(D:Dk h d c b):Dk (h.new o) d c b:=by obtain⟨ne,ns,cells,p,q,a1,a2,a3⟩:=D;exact⟨ne,ns,cells,p,q,by rw[iz (cA a1)];exact a1,by rw[iz (cA a2)];exact a2,a3⟩
theorem BQ{cl:Call}{a b:E}{ρ:En}{h:VH}{x y:Bool}(ea:ev cl a ρ h=.ok (.bl x) h)(eb:ev cl b ρ h=.ok (.bl y) h):ev cl (.and a b) ρ h=.ok (.bl (x&&y)) h:=by rw[ev,ea,aD];cases x;rfl;exact eb
theorem wG{cl:Call}{a b:E}{ρ:En}{h:VH}{x y:Bool}(ea:ev cl a ρ h=.ok (.bl x) h)(eb:ev cl b ρ h=.ok (.bl y) h):ev cl (.or a b) ρ h=.ok (.bl (x||y)) h:=by rw[ev,ea,aD];cases x;exact eb;rfl
noncomputable abbrev cQ:Str:=Str.ofString "."
noncomputable abbrev eK:Str:=Str.ofString "<"
noncomputable abbrev iY:Str:=Str.ofString ">"
noncomputable abbrev sX:Str:=Str.ofString "x"
noncomputable abbrev sS:Str:=Str.ofString "s"
theorem yt{cl:Call}:ev cl (.cst (.bl true))=λ_ h=>.ok (.bl true) h:=rfl
theorem p5{n:Nat}(h:n<=1000000):Nat.ble n big=true:=qw.mpr (iw h (by decide))
theorem yu{n:Nat}(h:n<=1000000):Nat.blt n big=true:=gX.mpr (C1 h (by decide))
theorem Nz{cl:Call}{i l:Nat}{x:E}{ρ:En}{h h1:VH}{w:W}{acc wH:List W}(nk:ρ[i]?=aB (aB (.ref l)))(g0:h.get l=aB (.lst wH))(e:ev cl x ρ h=.ok w h1)(g:h1.get l=aB (.lst acc))(hl:acc.length<=1000000) :
 ev cl (.mt .append (.var i) (.cons x .nil)) ρ h=.ok .aR (h1.set l (.lst (acc++[w]))):=by
 have hk:ly .append h (.ref l)=true:=by simp only[ly,g0]
 have hm:kR .append (.ref l) [w] h1=.ok .aR (h1.set l (.lst (acc++[w]))):=by simp only[kR,g];rw[if_pos (yu hl)]
 simp only[ev,nk,nH,bM,aD,hk,cC,e,hm]
theorem Wj{w:W}{g:Int}(h:wF w g):∃a b:Int,w=.tup [.int a,.int b]/\0<=a/\a<g/\0<=b/\b<2:=by
 cases w<;>simp only[wF]at h<;>try(cases h;done)
 rename_i us;rcases us with _|⟨a,_|⟨b,_|_⟩⟩<;>simp at h
 obtain⟨h1,h2⟩:=h;cases a<;>simp[within]at h1;cases b<;>simp[within]at h2;exact⟨_,_,rfl,by lia,by lia,by lia,by lia⟩
theorem Wk{wd g g':Int}{f:W->W}(hf:∀w c,jO w c wd g=true->jO (f w) c wd g'):∀{ws:List W} {c:Int},dw wd g c ws->dw wd g' c (ws.map f)|[],_,_=>trivial|_::_,_,⟨h1,h2⟩=>⟨hf _ _ h1,Wk hf h2⟩
theorem Wl{w:W}{n:Int}(h:door w n):∃(a:Int) (b:W),w=.tup [.int a,b]/\0<=a/\a<=99/\(b=.aR\/∃i:Int,b=.int i/\0<=i/\i<n):=by
 cases w<;>simp only[door]at h<;>try(cases h;done)
 rename_i us;rcases us with _|⟨a,_|⟨b,_|_⟩⟩<;>simp at h
 obtain⟨h1,h2⟩:=h;cases a<;>simp[within]at h1;unfold yp at h2;cases b<;>simp[within,dQ]at h2;exact⟨_,_,rfl,h1.1,h1.2,.inl rfl⟩;exact⟨_,_,rfl,h1.1,h1.2,.inr ⟨_,rfl,by lia,by lia⟩⟩
theorem NB{wd g:Int}{n:Nat}:∀{ws:List W} {c:Int},dw wd g c ws->ws.all (gu (n+2))=true|[],_,_=>rfl|_::_,_,⟨h1,h2⟩=>by rw[pK,Wd h1,NB h2];rfl
theorem NC{B:Bd}(b:B.Ok)(n:Nat):gu (n+6) B.w=true:=by
 have h1:(B.rows.map W.tup).all (gu (n+4))=true:=by rw[ic];intro w hw;obtain⟨r,hr,rfl⟩:=gB.mp hw;exact NB (n:=n+1) (b.r2 r hr).2
 have h2:B.fd.all (gu (n+4))=true:=by rw[ic];intro w hw;have:=b.f3 w hw;cases w<;>simp[within]at this;rfl
 have h3:B.dr.all (gu (n+4))=true:=by rw[ic];intro w hw;obtain⟨a,c,rfl,_,_,h⟩:=Wl (b.d2 w hw);rcases h with rfl|⟨i,rfl,_⟩<;>rfl
 show(gu (n+5) (.int B.wd)&& (gu (n+5) (.int B.gr)&& (gu (n+5) (.tup (B.rows.map .tup))&& (gu (n+5) (.tup B.fd)&& (gu (n+5) (.tup B.dr)&&true)))))=true;rw[Ik,Ik,Ik,h1,h2,h3];rfl
theorem Wm{B:Bd}(b:B.Ok):gu 24 B.w=true:=NC b 18
noncomputable def bL(w:W)(hd:Int)(ls:List Int):Option (Int×List Int×List Int):=match w with|.tup [.int g,.int s]=>aB (if ls.getD g.toNat 0=s then -1 else 1,[g],ls.set g.toNat (1-ls.getD g.toNat 0))|.str x=>if x==sS then aC else if x==sX then aB (hd,[],ls)else if x==cQ then aB (0,[],ls)else aB (if x==eK then -1 else 1,[],ls)|_=>aC
noncomputable def bx(r:List W)(c:Int):W:=(r[c.toNat]?).getD .aR
structure Fa where
 cs:List Int
 ts:List Int
 ls:List Int
 st:Bool
noncomputable def aI:List (List W)->Int->Int->List Int->Fa
 |[],_,_,ls=>⟨[],[],ls,false⟩
 |r::rs,c,hd,ls=>match bL (bx r c) hd ls with
  |none=>⟨[],[],ls,true⟩
  |some (d,t,l)=>⟨(c+d):: (aI rs (c+d) d l).cs,t++(aI rs (c+d) d l).ts,(aI rs (c+d) d l).ls,(aI rs (c+d) d l).st⟩
noncomputable def bE:Int->List Int->Int|c,[]=>c|_,x::r=>bE x r
noncomputable def eU(ls:List Int):Prop:=∀x∈ls,x=0\/x=1
theorem yw{w:W}{c wd g:Int}(h:jO w c wd g):(w=.str sX/\0<c/\c<wd-1)\/(w=.str eK/\0<c)\/(w=.str iY/\c<wd-1)\/w=.str cQ\/w=.str sS\/∃a b:Nat,w=.tup [.int a,.int b]/\(a:Int)<g/\b<2/\0<c/\c<wd-1:=by
 unfold jO at h;split at h;rename_i q;rw[bQ,gz,gz]at h;rw[pL]at q;rcases q with q|q
 exact .inl ⟨yq q,h⟩;obtain⟨a,b,rfl,h1,h2,h3,h4⟩:=Wj q;obtain⟨a,rfl⟩:=xD h1;obtain⟨b,rfl⟩:=xD h3;exact .inr (.inr (.inr (.inr (.inr ⟨a,b,rfl,h2,by lia,h⟩))));split at h;rename_i q;exact .inr (.inl ⟨yq q,by simpa using h⟩);split at h;rename_i q;exact .inr (.inr (.inl ⟨yq q,by simpa using h⟩));rw[pL]at h;rcases h with q|q
 exact .inr (.inr (.inr (.inl (yq q))));exact .inr (.inr (.inr (.inr (.inl (yq q)))))
theorem EA{hd:Int}{ls:List Int}:bL (.str sX) hd ls=aB (hd,[],ls):=rfl
theorem EB{hd:Int}{ls:List Int}:bL (.str eK) hd ls=aB (-1,[],ls):=rfl
theorem EC{hd:Int}{ls:List Int}:bL (.str iY) hd ls=aB (1,[],ls):=rfl
theorem ED{hd:Int}{ls:List Int}:bL (.str cQ) hd ls=aB (0,[],ls):=rfl
theorem EE{hd:Int}{ls:List Int}:bL (.str sS) hd ls=aC:=rfl
theorem EF{hd:Int}{ls:List Int}{a b:Nat}:bL (.tup [.int a,.int b]) hd ls=aB (if ls.getD a 0=b then -1 else 1,[(a:Int)],ls.set a (1-ls.getD a 0)):=rfl
theorem Wn{ls:List Int}(h:eU ls)(a:Nat):ls.getD a 0=0\/ls.getD a 0=1:=by
 rw[i8];cases q:ls[a]? with|none=>exact .inl rfl|some x=>exact h x (nC q)
theorem Io{w:W}{c wd g hd:Int}{ls:List Int}(h:jO w c wd g)(c0:0<=c)(c1:c<wd)(h1:-1<=hd)(h2:hd<=1)(b:eU ls){d:Int}{t l:List Int}(e:bL w hd ls=aB (d,t,l)):-1<=d/\d<=1/\0<=c+d/\c+d<wd/\l.length=ls.length/\eU l/\t.length<=1:=by rcases yw h with⟨rfl,h3,h4⟩|⟨rfl,h3⟩|⟨rfl,h3⟩|rfl|rfl|⟨p,q,rfl,h3,h4,h5,h6⟩;rw[EA]at e;cases e;exact⟨h1,h2,by lia,by lia,rfl,b,by simp⟩;rw[EB]at e;cases e;exact⟨by lia,by lia,by lia,by lia,rfl,b,by simp⟩;rw[EC]at e;cases e;exact⟨by lia,by lia,by lia,by lia,rfl,b,by simp⟩;rw[ED]at e;cases e;exact⟨by lia,by lia,by lia,by lia,rfl,b,by simp⟩;rw[EE]at e;cases e;rw[EF]at e;cases e;refine⟨by split<;>lia,by split<;>lia,by split<;>lia,by split<;>lia,by simp,λx hx=>?_,by simp⟩;rcases CO hx with hx|rfl;exact b x hx;rcases Wn b p with q|q<;>rw[q]<;>lia
noncomputable def uA(wd g:Int)(rs:List (List W)):Prop:=∀r∈rs,(r.length:Int)=wd/\dw wd g 0 r
theorem Ip{wd g:Int}:∀{ws:List W} {c:Int} (i:Nat) {w:W},dw wd g c ws->ws[i]?=aB w->jO w (c+i) wd g=true
 |[],_,_,_,_,e=>by simp at e
 |x::r,c,0,w,⟨h1,h2⟩,e=>by
  simp at e;subst e;simpa using h1
 |x::r,c,i+1,w,⟨h1,h2⟩,e=>by
  have:=Ip i h2 (by simpa using e);rw[show c+ ((i+1:Nat):Int)=c+1+i by push_cast;lia];exact this
theorem wI{wd g c:Int}{r:List W}(h:(r.length:Int)=wd/\dw wd g 0 r)(c0:0<=c)(c1:c<wd):r[c.toNat]?=aB (bx r c)/\jO (bx r c) c wd g=true:=by
 obtain⟨n,rfl⟩:=xD c0;have hn:n<r.length:=by lia
 have e:r[n]?=aB r[n]:=cJ hn;have e2:bx r n=r[n]:=by unfold bx;rw[qx,e];rfl
 rw[e2,qx];refine⟨e,?_⟩;have:=Ip n h.2 e;simpa using this
structure Fa.Ok(q:Fa)(wd:Int)(c:Int)(m n:Nat):Prop where
 l1:q.ls.length=n
 l2:eU q.ls
 c1:∀x∈q.cs,0<=x/\x<wd
 c2:q.cs.length<=m
 c3:q.st=false->q.cs.length=m
 c5:q.st=true->q.cs.length<m
 c4:0<=bE c q.cs/\bE c q.cs<wd
 t1:q.ts.length<=m
theorem ND{wd g:Int}:∀(rs:List (List W)) (c hd:Int) (ls:List Int),uA wd g rs->0<=c->c<wd->-1<=hd->hd<=1->eU ls->(aI rs c hd ls).Ok wd c rs.length ls.length
 |[],c,hd,ls,_,c0,c1,_,_,b=>⟨rfl,b,by simp[aI],by simp[aI],by simp[aI],by simp[aI],⟨c0,c1⟩,by simp[aI]⟩
 |r::rs,c,hd,ls,ok,c0,c1,h1,h2,b=>by
  obtain⟨_,hm⟩:=wI (ok r eZ) c0 c1;unfold aI;cases e:bL (bx r c) hd ls with
  |none=>exact⟨rfl,b,by simp,by simp,by simp,by simp,⟨c0,c1⟩,by simp⟩
  |some q=>
   obtain⟨d,t,l⟩:=q;obtain⟨a1,a2,a3,a4,a5,a6,a7⟩:=Io hm c0 c1 h1 h2 b e;have ih:=ND rs (c+d) d l (λr hr=>ok r (eY _ hr)) a3 a4 a1 a2 a6;refine⟨ih.l1.trans a5,ih.l2,λx hx=>?_,?_,λh=>?_,λh=>?_,ih.c4,?_⟩;rcases fT.mp hx with rfl|hx;exact⟨a3,a4⟩;exact ih.c1 x hx;simp only[dg];have:=ih.c2;lia;simp only[dg];have:=ih.c3 h;lia;simp only[dg];have:=ih.c5 h;lia;simp only[dg,fE];have:=ih.t1;lia
theorem Wo{r:List W}{rs:List (List W)}{c hd:Int}{ls:List Int}(e:bL (bx r c) hd ls=aC):aI (r::rs) c hd ls=⟨[],[],ls,true⟩:=by unfold aI;rw[e]
theorem Wq{r:List W}{rs:List (List W)}{c hd d:Int}{ls t l:List Int}(e:bL (bx r c) hd ls=aB (d,t,l)):aI (r::rs) c hd ls=⟨(c+d):: (aI rs (c+d) d l).cs,t++(aI rs (c+d) d l).ts,(aI rs (c+d) d l).ls,(aI rs (c+d) d l).st⟩:=by rw[aI,e]
noncomputable def st3(h:VH)(gs:List VO)(c t l:List W):VH:=⟨h.n+3+gs.length,h.n,gs++(.lst l :: .lst t :: .lst c::h.os)⟩
theorem wJ{h:VH}{gs:List VO}{c t l:List W}:(st3 h gs c t l).get h.n=aB (.lst c):=by unfold st3 VH.get;rw[if_pos (gX.mpr (by show h.n<h.n+3+gs.length;lia))];show(gs++(.lst l :: .lst t :: .lst c::h.os))[h.n+3+gs.length-1-h.n]?=_;rw[lH (by lia),show h.n+3+gs.length-1-h.n-gs.length=2 by lia];rfl
theorem wK{h:VH}{gs:List VO}{c t l:List W}:(st3 h gs c t l).get (h.n+1)=aB (.lst t):=by unfold st3 VH.get;rw[if_pos (gX.mpr (by show h.n+1<h.n+3+gs.length;lia))];show(gs++(.lst l :: .lst t :: .lst c::h.os))[h.n+3+gs.length-1- (h.n+1)]?=_;rw[lH (by lia),show h.n+3+gs.length-1- (h.n+1)-gs.length=1 by lia];rfl
theorem BR{h:VH}{gs:List VO}{c t l:List W}:(st3 h gs c t l).get (h.n+2)=aB (.lst l):=by unfold st3 VH.get;rw[if_pos (gX.mpr (by show h.n+2<h.n+3+gs.length;lia))];show(gs++(.lst l :: .lst t :: .lst c::h.os))[h.n+3+gs.length-1- (h.n+2)]?=_;rw[lH (by lia),show h.n+3+gs.length-1- (h.n+2)-gs.length=0 by lia];rfl
theorem NF{a b:Nat}(h:b<=a):Nat.blt a b=false:=by
 cases q:Nat.blt a b with|false=>rfl|true=>have:=gX.mp q;lia
theorem Wr{h:VH}{gs:List VO}{c t l c':List W}:(st3 h gs c t l).set h.n (.lst c')=st3 h gs c' t l:=by unfold st3 VH.set;simp only[NF (bf h.n)];rw[List.set_append_right _ _ (by lia),show h.n+3+gs.length-1-h.n-gs.length=2 by lia];rfl
theorem Ws{h:VH}{gs:List VO}{c t l t':List W}:(st3 h gs c t l).set (h.n+1) (.lst t')=st3 h gs c t' l:=by unfold st3 VH.set;simp only[NF (qt h.n)];rw[List.set_append_right _ _ (by lia),show h.n+3+gs.length-1- (h.n+1)-gs.length=1 by lia];rfl
theorem ir{h:VH}{x y:Str}(hx:PyData.strOk x)(hy:PyData.strOk y):cY h (.str x) (.str y)=aB (x==y):=by rw[yo (x:=y) (by exact hx) hy];rfl
@[simp] theorem Iq {h:VH}:cY h (.str sX) (.str (bB "x"))=aB true:=(ir (by decide +kernel) (by decide +kernel)).trans (by decide +kernel)
@[simp] theorem EG {h:VH}:cY h (.str sX) (.str (bB "<"))=aB false:=(ir (by decide +kernel) (by decide +kernel)).trans (by decide +kernel)
@[simp] theorem EH {h:VH}:cY h (.str sX) (.str (bB ">"))=aB false:=(ir (by decide +kernel) (by decide +kernel)).trans (by decide +kernel)
@[simp] theorem BS {h:VH}:cY h (.str sX) (.str (bB "."))=aB false:=(ir (by decide +kernel) (by decide +kernel)).trans (by decide +kernel)
@[simp] theorem wL {h:VH}:cY h (.str sX) (.str (bB "s"))=aB false:=(ir (by decide +kernel) (by decide +kernel)).trans (by decide +kernel)
@[simp] theorem EJ {h:VH}:cY h (.str eK) (.str (bB "x"))=aB false:=(ir (by decide +kernel) (by decide +kernel)).trans (by decide +kernel)
@[simp] theorem BU {h:VH}:cY h (.str eK) (.str (bB "<"))=aB true:=(ir (by decide +kernel) (by decide +kernel)).trans (by decide +kernel)
@[simp] theorem BV {h:VH}:cY h (.str eK) (.str (bB ">"))=aB false:=(ir (by decide +kernel) (by decide +kernel)).trans (by decide +kernel)
@[simp] theorem yx {h:VH}:cY h (.str eK) (.str (bB "."))=aB false:=(ir (by decide +kernel) (by decide +kernel)).trans (by decide +kernel)
@[simp] theorem sD {h:VH}:cY h (.str eK) (.str (bB "s"))=aB false:=(ir (by decide +kernel) (by decide +kernel)).trans (by decide +kernel)
@[simp] theorem EK {h:VH}:cY h (.str iY) (.str (bB "x"))=aB false:=(ir (by decide +kernel) (by decide +kernel)).trans (by decide +kernel)
@[simp] theorem BW {h:VH}:cY h (.str iY) (.str (bB "<"))=aB false:=(ir (by decide +kernel) (by decide +kernel)).trans (by decide +kernel)
@[simp] theorem BX {h:VH}:cY h (.str iY) (.str (bB ">"))=aB true:=(ir (by decide +kernel) (by decide +kernel)).trans (by decide +kernel)
@[simp] theorem yy {h:VH}:cY h (.str iY) (.str (bB "."))=aB false:=(ir (by decide +kernel) (by decide +kernel)).trans (by decide +kernel)
@[simp] theorem sF {h:VH}:cY h (.str iY) (.str (bB "s"))=aB false:=(ir (by decide +kernel) (by decide +kernel)).trans (by decide +kernel)
@[simp] theorem BY {h:VH}:cY h (.str cQ) (.str (bB "x"))=aB false:=(ir (by decide +kernel) (by decide +kernel)).trans (by decide +kernel)
@[simp] theorem yz {h:VH}:cY h (.str cQ) (.str (bB "<"))=aB false:=(ir (by decide +kernel) (by decide +kernel)).trans (by decide +kernel)
@[simp] theorem yC {h:VH}:cY h (.str cQ) (.str (bB ">"))=aB false:=(ir (by decide +kernel) (by decide +kernel)).trans (by decide +kernel)
@[simp] theorem wM {h:VH}:cY h (.str cQ) (.str (bB "."))=aB true:=(ir (by decide +kernel) (by decide +kernel)).trans (by decide +kernel)
@[simp] theorem oZ {h:VH}:cY h (.str cQ) (.str (bB "s"))=aB false:=(ir (by decide +kernel) (by decide +kernel)).trans (by decide +kernel)
@[simp] theorem Ir {h:VH}:cY h (.str sS) (.str (bB "x"))=aB false:=(ir (by decide +kernel) (by decide +kernel)).trans (by decide +kernel)
@[simp] theorem EL {h:VH}:cY h (.str sS) (.str (bB "<"))=aB false:=(ir (by decide +kernel) (by decide +kernel)).trans (by decide +kernel)
@[simp] theorem EM {h:VH}:cY h (.str sS) (.str (bB ">"))=aB false:=(ir (by decide +kernel) (by decide +kernel)).trans (by decide +kernel)
@[simp] theorem BZ {h:VH}:cY h (.str sS) (.str (bB "."))=aB false:=(ir (by decide +kernel) (by decide +kernel)).trans (by decide +kernel)
@[simp] theorem wN {h:VH}:cY h (.str sS) (.str (bB "s"))=aB true:=(ir (by decide +kernel) (by decide +kernel)).trans (by decide +kernel)
theorem Wt{h0:VH}{gs:List VO}{c t l l':List W}{w:W}:leave (st3 h0 gs c t l) w (VH.set ⟨(st3 h0 gs c t l).n,(st3 h0 gs c t l).n,(st3 h0 gs c t l).os⟩ (h0.n+2) (.lst l'))=.ok w (st3 h0 gs c t l'):=by
 have hb:Nat.blt (h0.n+2) (h0.n+3+gs.length)=true:=gX.mpr (by lia);have hn:Nat.ble (h0.n+3+gs.length) (h0.n+2)=false:=by
  cases q:Nat.ble (h0.n+3+gs.length) (h0.n+2)with|false=>rfl|true=>have:=kY q;lia
 have hl:Nat.ble h0.n (h0.n+2)=true:=qw.mpr (by lia);unfold leave VH.set st3;simp only[hb,cC,hn,xA,hl];rw[if_neg (by simp),List.set_append_right _ _ (by lia),show h0.n+3+gs.length-1- (h0.n+2)-gs.length=0 by lia];rfl
theorem NG{ls:List Int}{a:Nat}(h:a<ls.length):fy (ls.map W.int) (a:Int)=aB (.int (ls.getD a 0)):=
 lR (by rw[dO,cJ h,i8,cJ h];rfl)
theorem Iu{n a:Nat}(h:a<n):iU n (a:Int)=aB a:=by unfold iU;rw[if_pos (by lia),if_pos (by lia)];simp
theorem Wu{cl:Call}{a b:S}{ρ ρ':En}{h h':VH}(e:exs cl a ρ h=.ok (.bk ρ') h'):exs cl (.seq a b) ρ h=.ok (.bk ρ') h':=by simp only[exs,e,aD]
theorem Iv{wd g c:Int}{r:List W}(ok:(r.length:Int)=wd/\dw wd g 0 r)(c0:0<=c)(c1:c<wd):fy r c=aB (bx r c):=by have:=(wI ok c0 c1).1;obtain⟨n,rfl⟩:=xD c0;rw[qx]at this;exact lR this
noncomputable def iW(ls:List Int):W:=.tup (ls.map .int)
theorem B0{n:Nat}{ls:List Int}:W.lt n (iW ls)=true:=by
 unfold iW;rw[lD];induction ls with|nil=>simp|cons x r ih=>rw[fF,iP,ih,lt_int];rfl
theorem Bd.Ok.wO{B:Bd}(b:B.Ok){f:Nat}(hf:f<B.fd.length):∃c:Int,B.fd[f]?=aB (.int c)/\0<=c/\c<B.wd:=by
 have h:=b.f3 _ (jF hf);have e:B.fd[f]?=aB B.fd[f]:=cJ hf;generalize B.fd[f]=w at h e;cases w<;>simp only[within]at h<;>try(cases h;done)
 rename_i c;rw[bQ,gz,gz]at h;exact⟨c,e,h.1,by lia⟩
noncomputable def Bd.col(B:Bd)(f:Nat):Int:=match B.fd[f]? with|some (.int c)=>c|_=>0
theorem Bd.Ok.col{B:Bd}(b:B.Ok){f:Nat}(hf:f<B.fd.length):B.fd[f]?=aB (.int (B.col f))/\0<=B.col f/\B.col f<B.wd:=by
 obtain⟨c,e,h⟩:=b.wO hf;have:B.col f=c:=by unfold Bd.col;rw[e]
 rw[this];exact⟨e,h⟩
noncomputable def Bd.dM(B:Bd)(ls:List Int)(f:Nat):Fa:=aI B.rows (B.col f) 0 ls
theorem Bd.Ok.rows{B:Bd}(b:B.Ok){ls:List Int}(hl:(ls.length:Int)=B.gr):uA B.wd (ls.length:Int) B.rows:=by rw[hl];exact b.r2
theorem Bd.Ok.dM{B:Bd}(b:B.Ok){ls:List Int}{f:Nat}(hf:f<B.fd.length)(hl:(ls.length:Int)=B.gr)(bi:eU ls):(B.dM ls f).Ok B.wd (B.col f) B.rows.length ls.length:=
 ND _ _ _ _ (b.rows hl) (b.col hf).2.1 (b.col hf).2.2 (by decide) (by decide) bi
noncomputable def sG(B:Bd)(ls:List Int)(f:Nat):W:=.tup [iW (B.col f:: (B.dM ls f).cs),iW (B.dM ls f).ts,iW (B.dM ls f).ls]
theorem Wv{B:Bd}{ls:List Int}{f n:Nat}:W.lt n (sG B ls f)=true:=by unfold sG;simp[B0]
theorem Iw{cl:Call}{i l:Nat}{ρ:En}{h:VH}{ws:List W}(nk:ρ[i]?=aB (aB (.ref l)))(g:h.get l=aB (.lst ws)):ev cl (.bi .tuple (.cons (.var i) .nil)) ρ h=.ok (.tup ws) h:=by simp only[ev,nk,nH,bM,aD,lu,vH,aV,g,jq]
theorem Iz{cl:Call}{a b c:E}{ρ:En}{h:VH}{x y z:W}(ea:ev cl a ρ h=.ok x h)(eb:ev cl b ρ h=.ok y h)(ec:ev cl c ρ h=.ok z h):ev cl (.tup (.cons a (.cons b (.cons c .nil)))) ρ h=.ok (.tup [x,y,z]) h:=by rw[ev,ev,ea,aD,ev,eb,aD,ev,ec,aD,ev];rfl
theorem NH:∀(cs:List Int) (c:Int),(c::cs)[cs.length]?=aB (bE c cs)
 |[],c=>rfl
 |x::r,c=>by
  rw[dg,lI];exact NH r x
theorem Ww{cs:List Int}{c:Int}:fy ((c::cs).map W.int) (-1)=aB (.int (bE c cs)):=by
 have e:iU ((c::cs).map W.int).length (-1)=aB cs.length:=by unfold iU;rw[if_neg (by decide),bD,dg,if_pos (by lia)];congr 1;lia
 unfold fy;rw[e,Option.bind_some,dO,NH];rfl
noncomputable def jP:List (Key×W):=[(.inr cQ,.int 0),(.inr eK,.int (-1)),(.inr iY,.int 1)]
theorem Wx:xZ [] [(.inr cQ,.int 0),(.inr eK,.int (-1)),(.inr iY,.int 1)]=jP:=by rfl
theorem Wy:aQ jP (.inr cQ)=aB (.int 0):=by rfl
theorem Wz:aQ jP (.inr eK)=aB (.int (-1)):=by rfl
theorem WA:aQ jP (.inr iY)=aB (.int 1):=by rfl
theorem WB{cl:Call}{ρ:En}{h:VH}:ev cl rR ρ h=.ok (.ref h.n) (h.new (.dk jP)):=by simp only[rR,ev,aD,tS,lg];rw[if_pos (by decide)];show Res.ok _ (h.new (.dk (xZ [] _)))=_;rw[Wx]
theorem WC{h:VH}{o:VO}:(h.new o).get h.n=aB o:=by unfold VH.get VH.new;rw[if_pos (gX.mpr (by show h.n<h.n+1;lia))];show(o::h.os)[h.n+1-1-h.n]?=_;rw[show h.n+1-1-h.n=0 by lia];rfl
theorem yD{h:VH}{p q:Int}{x:Str}(hx:PyData.strOk x):cY h (.tup [.int p,.int q]) (.str x)=aB false:=by rw[yo (x:=x) rfl hx];rfl
noncomputable abbrev Kv:=List (L2.Key×W)
noncomputable def bW(w:Nat)(kvs:Kv):List W:=(List.range w).map λ(i:Nat)=>(aQ kvs (.inl (i:Int))).getD (.str cQ)
noncomputable def fP:List Int->List (Int×Int×Int)|a::b::r=>(a,(a+b)/2,b)::fP r|_=>[]
noncomputable def nL(cs:List Int)(aP:List (Int×Int×Int)):List Int:=aP.map (λf=>f.2.1)++cs.drop (2*aP.length)
noncomputable def o9(g:Int)(aP:List (Int×Int×Int)):Kv:=aP.foldl (λkv f=>bA kv (.inl f.2.1) (.tup [.int g,.int 0])) []
noncomputable def p9(s:Int)(aP:List (Int×Int×Int)):Kv:=aP.foldl (λkv f=>if f.1<f.2.1-s then bA kv (.inl (f.2.1-s)) (.str eK)else kv) []
noncomputable def uB(s:Int)(aP:List (Int×Int×Int)):Kv:=aP.foldl (λkv f=>if f.2.1+s<f.2.2 then bA kv (.inl (f.2.1+s)) (.str iY)else kv) []
noncomputable def yE(kvs more:Kv):Kv:=more.foldl (λacc kv=>bA acc kv.1 kv.2) kvs
noncomputable def gap(f:Int×Int×Int):Int:=if f.2.2-f.2.1>f.2.1-f.1 then f.2.2-f.2.1 else f.2.1-f.1
noncomputable def sH:Int->List Int->Int|x,[]=>x|x,y::r=>sH (if y>x then y else x) r
noncomputable def gP:List (Int×Int×Int)->Int|[]=>0|f::r=>sH (gap f) (r.map gap)
noncomputable def B3(w:Nat)(aP:List (Int×Int×Int))(i:Nat):List W:=bW w (yE (p9 ((i:Int)+1) aP) (uB ((i:Int)+1) aP))
noncomputable def B4(w:Nat)(g:Int)(aP:List (Int×Int×Int)):List (List W):=bW w (o9 g aP):: (List.range (gP aP-1).toNat).map λi=>B3 w aP i
noncomputable def jC(w:Nat):Nat->Nat->List (List Int)->List (List W)->List (List W)×List (List Int)|0,_,lanes,rows=>(rows,lanes)|n+1,g,lanes,rows=>jC w n (g+1) (List.zipWith nL lanes (lanes.map fP)) (B4 w g (lanes.map fP).flatten++rows)
noncomputable def mq(S P:Nat):List (List Int):=(List.range P).map λ(f:Nat)=>(List.range S).map λ(s:Nat)=>2* ((f:Int)*S+s)+1
noncomputable def aU(S:Nat):Nat:=if S<=1 then 0 else if S<=2 then 1 else if S<=4 then 2 else if S<=8 then 3 else 4
noncomputable def bq(S P:Nat):Nat:=2*S*P+1
noncomputable def aT(S P:Nat):List (List W):=(jC (bq S P) (aU S) 0 (mq S P) []).1
noncomputable def kI:List Int->Int|x::_=>x|[]=>0
noncomputable def aX(S P:Nat):List Int:=(jC (bq S P) (aU S) 0 (mq S P) []).2.map kI
noncomputable def aM(S P:Nat):Bd:=⟨bq S P,aU S,aT S P,(aX S P).map .int,bK (bq S P) (.tup [.int 0,.int 0])⟩
noncomputable def aH:Int->Nat->List Int|_,0=>[]|z,n+1=>z % 2::aH (z/2) n
noncomputable def gQ(S f s:Nat):Int:=2* ((f:Int)*S+s)+1
noncomputable def EN(wd g:Int):Int->List W->Bool|_,[]=>true|c,w::r=>jO w c wd g&&EN wd g (c+1) r
theorem NI{wd g:Int}:∀{c:Int} {r:List W},EN wd g c r=true->dw wd g c r
 |_,[],_=>trivial
 |c,w::r,h=>by
  simp only[EN,bQ]at h;exact⟨h.1,NI h.2⟩
noncomputable def wQ:Nat->List (List Int)->Bool|0,lanes=>lanes.all λl=>!l.isEmpty|n+1,lanes=>!(lanes.map fP).flatten.isEmpty&&wQ n (List.zipWith nL lanes (lanes.map fP))
noncomputable def B5(S P:Nat):Bool:=
 (aT S P).length<=60&& (aT S P).all (λr=>r.length==bq S P&&EN (bq S P) (aU S) 0 r)
 && (aX S P).length==P&& (aX S P).all (λc=>decide (0<=c)&&decide (c<=(bq S P:Int)-1))&&wQ (aU S) (mq S P)
noncomputable def jQ(S P:Nat):Bool:=(List.range P).all λf=>(List.range S).all λs=>
 match aI (aT S P) ((aX S P).getD f 0) 0 (aH s (aU S))with|⟨cs,_,_,st⟩=>!st&&cs.length==(aT S P).length&&bE ((aX S P).getD f 0) cs==gQ S f s
noncomputable def yF:List (Nat×Nat):=(List.range 16).flatMap λs=>((List.range 4).filter λp=>decide ((s+1)* (p+1)<=16)).map λp=>(s+1,p+1)
theorem WD:(yF.all λx=>B5 x.1 x.2)=true:=by decide +kernel
theorem WE:(yF.all λx=>jQ x.1 x.2)=true:=by decide +kernel
theorem B6{S P:Nat}(s1:1<=S)(p1:1<=P)(p4:P<=4)(sp:S*P<=16):(S,P)∈yF:=by
 have iN:S<=16:=iw (by calc S=S*1:=(Nat.mul_one S).symm
  _<=S*P:=Nat.mul_le_mul_left _ p1) sp
 refine List.mem_flatMap.mpr ⟨S-1,mF.mpr (by lia),gB.mpr ⟨P-1,List.mem_filter.mpr ⟨mF.mpr (by lia),?_⟩,?_⟩⟩;rw[C2 s1,C2 p1];exact jm sp;rw[C2 s1,C2 p1]
structure Shape(S P:Nat):Prop where
 s1:1<=S
 p1:1<=P
 p4:P<=4
 sp:S*P<=16
section
variable{S P:Nat}
theorem Shape.B5(h:Shape S P):B5 S P=true:=ic.mp WD _ (B6 h.s1 h.p1 h.p4 h.sp)
theorem Shape.jQ(h:Shape S P):jQ S P=true:=ic.mp WE _ (B6 h.s1 h.p1 h.p4 h.sp)
theorem Shape.iN(h:Shape S P):S<=16:=iw (by calc S=S*1:=(Nat.mul_one S).symm
 _<=S*P:=Nat.mul_le_mul_left _ h.p1) h.sp
theorem Shape.wd(h:Shape S P):bq S P<=33:=by have:=h.sp;unfold bq;rw[C4];lia
theorem sI:aU S<=4:=by unfold aU;split<;> (try split)<;> (try split)<;> (try split)<;>lia
theorem Shape.rows(h:Shape S P):uA (bq S P) (aU S) (aT S P)/\(aT S P).length<=60/\(aX S P).length=P/\(∀c∈aX S P,0<=c/\c<=(bq S P:Int)-1)/\wQ (aU S) (mq S P)=true:=by have q:=h.B5;simp only[RF.B5,bQ,gz,ic,xh]at q;obtain⟨⟨⟨⟨q1,q2⟩,q3⟩,q4⟩,q5⟩:=q;refine⟨λr hr=>⟨by rw[(q2 r hr).1],NI (q2 r hr).2⟩,q1,q3,λc hc=>?_,q5⟩;exact q4 c hc
theorem Shape.ok(h:Shape S P):(aM S P).Ok:=by
 obtain⟨r,r1,f1,f2,_⟩:=h.rows;have w:=h.wd;refine⟨?_,?_,?_,?_,r1,r,?_,?_,?_,?_,?_⟩;show(1:Int)<=(bq S P:Nat)
 unfold bq;lia;show((bq S P:Nat):Int)<=40;lia;exact Int.natCast_nonneg _;have:=sI (S:=S);show((aU S:Nat):Int)<=8;lia;show 1<=((aX S P).map W.int).length;rw[bD,f1];exact h.p1;show((aX S P).map W.int).length<=4;rw[bD,f1];exact h.p4;intro f hf;obtain⟨c,hc,rfl⟩:=gB.mp hf;have:=f2 c hc;show(decide (0<=c)&&decide (c<=(bq S P:Int)-1))=true;rw[jm this.1,jm this.2];rfl;show((bK (bq S P) _).length:Int)=_;rw[qo];rfl;intro d hd;rw[vcs hd];show(within (.int 0) 0 99&&yp (.int 0) _)=true;have:1<=(aM S P).fd.length:=by show 1<=((aX S P).map W.int).length;rw[bD,f1];exact h.p1
 simp only[within,yp,bQ,gz,dQ];simp;lia
theorem pe:∀{z:Int} {n:Nat},(aH z n).length=n|_,0=>rfl|z,n+1=>by rw[aH,dg,pe]
theorem wR:∀{n:Nat} {z:Int},eU (aH z n)
 |0,_=>λx h=>by cases h
 |n+1,z=>λx h=>by
  rcases fT.mp h with rfl|h;exact Int.emod_two_eq z;exact wR x h
theorem Shape.col(h:Shape S P){f:Nat}(hf:f<P):(aM S P).col f=(aX S P).getD f 0:=by
 have l:=h.rows.2.2.1;have e:(aX S P)[f]?=aB ((aX S P)[f]'(by rw[l];exact hf)):=cJ _;unfold Bd.col;show(match((aX S P).map W.int)[f]? with|some (.int c)=>c|_=>0)=_
 rw[dO,e,i8,e];rfl
theorem Shape.dM(h:Shape S P){f s:Nat}(hf:f<P)(hs:s<S):((aM S P).dM (aH s (aU S)) f).st=false/\((aM S P).dM (aH s (aU S)) f).cs.length=(aT S P).length/\
 bE ((aM S P).col f) ((aM S P).dM (aH s (aU S)) f).cs=gQ S f s:=by
 have q:=ic.mp (ic.mp h.jQ f (mF.mpr hf)) s (mF.mpr hs);unfold Bd.dM;rw[h.col hf];show(aI (aT S P) ((aX S P).getD f 0) 0 (aH s (aU S))).st=false/\(aI (aT S P) ((aX S P).getD f 0) 0 (aH s (aU S))).cs.length=_/\bE _ (aI (aT S P) ((aX S P).getD f 0) 0 (aH s (aU S))).cs=_;generalize aI (aT S P) ((aX S P).getD f 0) 0 (aH s (aU S))=Fa at q;obtain⟨cs,ts,ls,st⟩:=Fa;simp only[bQ,uX,xh]at q;exact⟨q.1.1,q.1.2,q.2⟩
end
theorem NJ{k k':L2.Key}{w:W}:∀{kv:Kv},aQ (kv.map λx=>if x.1=k then(x.1,w)else x) k'=if k'=k then(if(kv.any λx=>decide (x.1=k))=true then aB w else aC)else aQ kv k'
 |[]=>by simp[aQ]
 |x::r=>by
  have ih:=NJ (k:=k) (k':=k') (w:=w) (kv:=r);unfold aQ at ih ⊢;rw[fF,nR,nR,xy];by_cases e:x.1=k;by_cases e':k'=k;subst e';simp[e];have:¬x.1=k':=λq=>e' (by rw[<-q,e]);rw[if_neg e']at ih;simp[e,e',this];simp at ih;have h2:¬k=k':=λq=>e' q.symm;simpa[e,h2]using ih;by_cases e':k'=k;subst e';have e3:decide (x.1=k')=false:=jl e;rw[e3,Bool.false_or,if_neg e];rw[if_pos rfl]at ih ⊢;rw[<-ih];simp only[e3];rw[if_neg e']at ih;by_cases e2:x.1=k';simp[e,e2,e'];simp[e,e2,e'];simpa using ih
theorem WG{k k':L2.Key}{w:W}{kv:Kv}(h:¬(kv.any λx=>decide (x.1=k))):aQ (kv++[(k,w)]) k'=if k'=k then aB w else aQ kv k':=by
 unfold aQ;rw[List.find?_append];by_cases e:k'=k;subst e;have:kv.find? (λx=>decide (x.1=k'))=aC:=by rw[List.find?_eq_none];intro x hx q;exact h (CW.mpr ⟨x,hx,q⟩)
 rw[this];simp;have h2:¬k=k':=λq=>e q.symm;rw[if_neg e];simp[h2]
theorem IA{k k':L2.Key}{w:W}{kv:Kv}:aQ (bA kv k w) k'=if k'=k then aB w else aQ kv k':=by unfold bA;split;rename_i h;rw[NJ,if_pos h];rename_i h;exact WG h
theorem IB{k:L2.Key}{w:W}{kv:Kv}:(bA kv k w).length<=kv.length+1:=by unfold bA;split;rw[bD];exact qt _;rw[fE];exact bf _
structure Ev where
 c:Int
 n:Int
 b:List Int
 t:List Int
noncomputable def bN(g:Nat)(kv:Kv)(e:Ev):Kv:=if e.b.getD g 0=e.t.getD g 0 then kv else bA kv (.inl e.c) (.tup [.int g,.int (1-e.b.getD g 0)])
noncomputable def cj(g:Nat)(es:List Ev):Kv:=es.foldl (bN g) []
noncomputable def ck(d:List W)(e:Ev):List W:=d.set e.c.toNat (.tup [.int e.n,.int 0])
theorem NK{g:Nat}{kv:Kv}{e:Ev}{c:Int}(h:e.c≠c):aQ (bN g kv e) (.inl c)=aQ kv (.inl c):=by unfold bN;split;rfl;rw[IA,if_neg];intro q;exact h (Dd q).symm
theorem IC{g:Nat}{c:Int}:∀{es:List Ev} {kv:Kv},(∀e∈es,e.c≠c)->aQ (es.foldl (bN g) kv) (.inl c)=aQ kv (.inl c)
 |[],_,_=>rfl
 |e::r,kv,h=>by
  rw[kM,IC λx hx=>h x (eY _ hx),NK (h e eZ)]
theorem NL{g:Nat}{e:Ev}:∀{es:List Ev} {kv:Kv},e∈es->(es.map Ev.c).Nodup->aQ kv (.inl e.c)=aC->aQ (es.foldl (bN g) kv) (.inl e.c)=if e.b.getD g 0=e.t.getD g 0 then aC else aB (.tup [.int g,.int (1-e.b.getD g 0)])
 |x::r,kv,h,nd,q=>by
  rw[fF,sU]at nd;rw[kM];rcases fT.mp h with rfl|h
  rw[IC λy hy q=>nd.1 (gB.mpr ⟨y,hy,q⟩)];unfold bN;split;exact q;rw[IA,if_pos rfl];have:x.c≠e.c:=λq=>nd.1 (gB.mpr ⟨e,h,q.symm⟩);exact NL h nd.2 (by rw[NK this];exact q)
theorem ID:∀{es:List Ev} {d:List W},(es.foldl ck d).length=d.length|[],_=>rfl|e::r,d=>by rw[kM,ID,ck,uT]
theorem NN{i:Nat}:∀{es:List Ev} {d:List W},(∀e∈es,e.c.toNat≠i)->(es.foldl ck d)[i]?=d[i]?
 |[],_,_=>rfl
 |e::r,d,h=>by
  rw[kM,NN λx hx=>h x (eY _ hx),ck,xu (h e eZ)]
theorem NO{e:Ev}:∀{es:List Ev} {d:List W},e∈es->(es.map Ev.c).Nodup->(∀x∈es,0<=x.c/\x.c.toNat<d.length)->(es.foldl ck d)[e.c.toNat]?=aB (.tup [.int e.n,.int 0])
 |x::r,d,h,nd,q=>by
  rw[fF,sU]at nd;rw[kM];rcases fT.mp h with rfl|h
  rw[NN λy hy z=>nd.1 (gB.mpr ⟨y,hy,by
   have h1:=q y (eY _ hy);have h2:=q e eZ;lia⟩)]
  rw[ck,uP (q e eZ).2];exact NO h nd.2 λy hy=>by
   have:=q y (eY _ hy);rw[ck,uT];exact this
noncomputable def iR(kv:Kv):Kv:=kv.foldl (λacc x=>match x.1 with|.inl i=>bA acc (.inl (i+1)) (.str eK)|.inr _=>acc) []
noncomputable def keyed(kv:Kv)(c:Int):Bool:=kv.any λx=>decide (x.1=.inl c)
theorem WH{kv:Kv}{c:Int}:(aQ kv (.inl c)).isSome=keyed kv c:=by unfold aQ keyed;rw[Option.isSome_map,Bool.eq_iff_iff,List.find?_isSome,CW]
theorem IE{c:Int}:∀{kv acc:Kv},aQ (kv.foldl (λacc x=>match x.1 with
 |.inl i=>bA acc (.inl (i+1)) (.str eK)
 |.inr _=>acc) acc) (.inl c)=if keyed kv (c-1)=true then aB (.str eK)else aQ acc (.inl c)
 |[],acc=>rfl
 |(.inl i,w)::r,acc=>by
  rw[kM,IE];have hk:keyed ((.inl i,w)::r) (c-1)=(decide ((.inl i:L2.Key)=.inl (c-1))||keyed r (c-1)):=rfl;rw[hk];show(if keyed r (c-1)=true then aB (W.str eK)else aQ (bA acc (.inl (i+1)) (.str eK)) (.inl c))=_;rw[IA];by_cases h:keyed r (c-1)=true;simp[h];by_cases h2:i=c-1;subst h2;simp[h];have h3:¬(c=i+1):=by lia
  have h4:¬(.inl c:L2.Key)=.inl (i+1):=λq=>h3 (Dd q);have h5:¬(.inl i:L2.Key)=.inl (c-1):=λq=>h2 (Dd q);rw[if_neg h,if_neg h4];simp[h,h5]
 |(.inr s,w)::r,acc=>by
  rw[kM,IE];have hk:keyed ((.inr s,w)::r) (c-1)=(decide ((.inr s:L2.Key)=.inl (c-1))||keyed r (c-1)):=rfl;rw[hk];have:¬(.inr s:L2.Key)=.inl (c-1):=λq=>nomatch q
  simp[this]
theorem IF{kv:Kv}{c:Int}:aQ (iR kv) (.inl c)=if(aQ kv (.inl (c-1))).isSome=true then aB (.str eK)else aC:=by unfold iR;rw[IE,WH];rfl
theorem WI{kv:Kv}:(iR kv).length<=kv.length:=by
 have:∀(kv acc:Kv),(kv.foldl (λacc x=>match x.1 with
  |.inl i=>bA acc (.inl (i+1)) (.str eK)
  |.inr _=>acc) acc).length<=acc.length+kv.length:=by
  intro kv;induction kv with
  |nil=>intro acc;exact bf _
  |cons x r ih=>
   intro acc;rw[kM,dg];refine iw (ih _) ?_;obtain⟨k,w⟩:=x;cases k with
   |inl i=>
    have:=IB (k:=.inl (i+1)) (w:=.str eK) (kv:=acc);show(bA acc _ _).length+_<=_;lia
   |inr s=>show acc.length+_<=_;lia
 refine iw (this kv []) ?_;simp
theorem EO{w:Nat}{kv:Kv}{c:Int}(c0:0<=c)(c1:c<w):bx (bW w kv) c=(aQ kv (.inl c)).getD (.str cQ):=by unfold bx bW;rw[dO,uR (by lia)];show(aQ kv (.inl ((c.toNat:Nat):Int))).getD _=_;rw[Int.toNat_of_nonneg c0]
theorem B7{w:Nat}{kv:Kv}:(bW w kv).length=w:=by unfold bW;rw[bD,uS]
theorem NP{wd g:Int}:∀{ws:List W} {c:Int},(∀i (hi:i<ws.length),jO ws[i] (c+i) wd g=true)->dw wd g c ws
 |[],_,_=>trivial
 |x::r,c,h=>⟨by have:=h 0 (Nat.succ_pos _);rw[show c+ ((0:Nat):Int)=c from Int.add_zero c]at this;exact this,NP λi hi=>by
  have:=h (i+1) (by simpa using hi);rw[show c+1+ (i:Int)=c+ ((i+1:Nat):Int) by push_cast;lia];simpa using this⟩
theorem NQ{w:Nat}{g:Int}{kv:Kv}(h:∀c:Int,0<=c->c<w->jO ((aQ kv (.inl c)).getD (.str cQ)) c w g):dw w g 0 (bW w kv):=by
 refine NP λi hi=>?_;rw[B7]at hi;have:(bW w kv)[i]'(by rw[B7];exact hi)=(aQ kv (.inl (i:Int))).getD (.str cQ):=by simp[bW]
 rw[this,Int.zero_add];exact h _ (Int.natCast_nonneg _) (by lia)
theorem uC{r:List W}{rs:List (List W)}{c hd d:Int}{ls t l:List Int}(e:bL (bx r c) hd ls=aB (d,t,l)):aI (r::rs) c hd ls=⟨(c+d):: (aI rs (c+d) d l).cs,t++(aI rs (c+d) d l).ts,(aI rs (c+d) d l).ls,(aI rs (c+d) d l).st⟩:=by rw[aI,e]
theorem NR{r:List W}{rs:List (List W)}{c hd:Int}{ls:List Int}(e:bL (bx r c) hd ls=aC):aI (r::rs) c hd ls=⟨[],[],ls,true⟩:=by rw[aI,e]
theorem NS:∀(r1 r2:List (List W)) (c hd:Int) (ls:List Int),(aI r1 c hd ls).st=false->
 ∃hd' ts,aI (r1++r2) c hd ls=⟨(aI r1 c hd ls).cs++(aI r2 (bE c (aI r1 c hd ls).cs) hd' (aI r1 c hd ls).ls).cs,ts,(aI r2 (bE c (aI r1 c hd ls).cs) hd' (aI r1 c hd ls).ls).ls,(aI r2 (bE c (aI r1 c hd ls).cs) hd' (aI r1 c hd ls).ls).st⟩
 |[],r2,c,hd,ls,_=>⟨hd,(aI r2 c hd ls).ts,rfl⟩
 |r::rs,r2,c,hd,ls,h=>by
  rw[pJ];cases e:bL (bx r c) hd ls with
  |none=>rw[NR e]at h;cases h
  |some q=>
   obtain⟨d,t,l⟩:=q;rw[uC e]at h;obtain⟨hd',ts,q⟩:=NS rs r2 (c+d) d l h;refine⟨hd',t++ts,?_⟩;rw[uC e,uC e,q];rfl
theorem IG:∀(c:Int) (xs ys:List Int),bE c (xs++ys)=bE (bE c xs) ys|_,[],_=>rfl|_,x::r,ys=>IG x r ys
structure fQ(N G:Nat)(es:List Ev):Prop where
 nd:(es.map Ev.c).Nodup
 odd:∀e∈es,∃i:Nat,i<N/\e.c=2* (i:Int)+1
 bl:∀e∈es,e.b.length=G
 tl:∀e∈es,e.t.length=G
 bb:∀e∈es,eU e.b
 tb:∀e∈es,eU e.t
section
variable{N G:Nat}{es:List Ev}
theorem fQ.look(h:fQ N G es){e:Ev}(he:e∈es)(g:Nat):aQ (cj g es) (.inl e.c)=if e.b.getD g 0=e.t.getD g 0 then aC else aB (.tup [.int g,.int (1-e.b.getD g 0)]):=NL he h.nd rfl
theorem fQ.wU(h:fQ N G es){c:Int}(hc:∀e∈es,e.c≠c)(g:Nat):aQ (cj g es) (.inl c)=aC:=by unfold cj;rw[IC hc];rfl
theorem fQ.before(h:fQ N G es){e:Ev}(he:e∈es)(g:Nat):aQ (cj g es) (.inl (e.c-1))=aC:=h.wU (λx hx q=>by
 obtain⟨i,_,e1⟩:=h.odd e he;obtain⟨j,_,e2⟩:=h.odd x hx;lia) g
noncomputable def bU(w:Nat)(es:List Ev)(g:Nat):List (List W):=[bW w (cj g es),bW w (iR (cj g es))]
noncomputable def cM(b t:List Int)(j:Nat):List Int:=t.take j++b.drop j
theorem NT{b t:List Int}{j:Nat}(l:b.length=t.length)(hj:j<b.length):(cM b t j).getD j 0=b.getD j 0:=by unfold cM;rw[i8,i8,lH (by rw[jo];lia),jo,yP];rw[show j+ (j-min j t.length)=j by lia]
theorem NU{b t:List Int}{j:Nat}(l:b.length=t.length)(hj:j<b.length):(cM b t j).set j (t.getD j 0)=cM b t (j+1):=by apply CT;intro i;unfold cM;rw[List.getElem?_set,fE,jo,sR,i8];by_cases e:j=i;subst e;rw[if_pos rfl,if_pos (by lia),pG (by rw[jo];lia),List.getElem?_take,if_pos (fU _),cJ (by lia)];rfl;rw[if_neg e];by_cases e2:i<j;rw[pG (by rw[jo];lia),pG (by rw[jo];lia),List.getElem?_take,List.getElem?_take,if_pos e2,if_pos (by lia)];rw[lH (by rw[jo];lia),lH (by rw[jo];lia),yP,yP,jo,jo];congr 1;lia
theorem WJ{b t:List Int}{j:Nat}(l:b.length=t.length)(hj:j<b.length)(e:b.getD j 0=t.getD j 0):cM b t (j+1)=cM b t j:=by
 rw[<-NU l hj,<-e];apply CT;intro i;rw[List.getElem?_set];by_cases q:j=i;subst q;rw[if_pos rfl];have:=NT l hj;rw[i8]at this;have hl:j< (cM b t j).length:=by unfold cM;rw[fE,jo,sR];lia
 rw[if_pos hl,cJ hl];rw[cJ hl]at this;rw[<-this];rfl;rw[if_neg q]
theorem WK{b t:List Int}(l:b.length=t.length):cM b t b.length=t:=by unfold cM;rw[l,nF,<-l,List.drop_length,nG]
theorem WL{b t:List Int}{j:Nat}(hb:eU b)(ht:eU t)(l:b.length=t.length)(hj:j<b.length)(e:¬b.getD j 0=t.getD j 0):1-b.getD j 0=t.getD j 0/\b.getD j 0≠1-b.getD j 0:=by have h1:=hb _ (jF hj);have h2:=ht _ (jF (l▸hj));rw[i8,i8,cJ hj,cJ (l▸hj)]at *;simp only[C5]at *;constructor<;>rcases h1 with h1|h1<;>rcases h2 with h2|h2<;>lia
theorem fQ.turn(h:fQ N G es){w:Nat}(hw:w=2*N+1){e:Ev}(he:e∈es){g:Nat}(hg:g<G)(hd:Int)(rest:List (List W)) :
 ∃hd' cs ts,aI (bU w es g++rest) e.c hd (cM e.b e.t g)=⟨cs++(aI rest e.c hd' (cM e.b e.t (g+1))).cs,ts,(aI rest e.c hd' (cM e.b e.t (g+1))).ls,(aI rest e.c hd' (cM e.b e.t (g+1))).st⟩/\bE e.c cs=e.c:=by
 obtain⟨i,hi,ec⟩:=h.odd e he;have l:e.b.length=e.t.length:=by rw[h.bl e he,h.tl e he]
 have hj:g<e.b.length:=by rw[h.bl e he];exact hg
 have c0:0<=e.c:=by lia
 have c1:e.c<w:=by lia
 have c2:e.c+1<w:=by lia
 have la:=h.look he g;show ∃hd' cs ts,aI (bW w (cj g es)::bW w (iR (cj g es))::rest) e.c hd (cM e.b e.t g)=_/\_;by_cases q:e.b.getD g 0=e.t.getD g 0;rw[if_pos q]at la;have s1:∀hd ls,bL (bx (bW w (cj g es)) e.c) hd ls=aB (0,[],ls):=λhd ls=>by
  rw[EO c0 c1,la];rfl
 have lb:aQ (iR (cj g es)) (.inl e.c)=aC:=by rw[IF,h.before he];rfl
 have s2:∀hd ls,bL (bx (bW w (iR (cj g es))) e.c) hd ls=aB (0,[],ls):=λhd ls=>by
  rw[EO c0 c1,lb];rfl
 refine⟨0,[e.c,e.c],(aI rest e.c 0 (cM e.b e.t (g+1))).ts,?_,rfl⟩;rw[uC (s1 hd _),Int.add_zero,uC (s2 0 _),Int.add_zero,WJ l hj q];rfl;rw[if_neg q]at la;obtain⟨f1,f2⟩:=WL (h.bb e he) (h.tb e he) l hj q;have s1:∀hd,bL (bx (bW w (cj g es)) e.c) hd (cM e.b e.t g)=aB (1,[(g:Int)],cM e.b e.t (g+1)):=λhd=>by
  rw[EO c0 c1,la];show aB ((if(cM e.b e.t g).getD ((g:Int).toNat) 0=1-e.b.getD g 0 then(-1:Int)else 1),[(g:Int)],(cM e.b e.t g).set ((g:Int).toNat) (1- (cM e.b e.t g).getD ((g:Int).toNat) 0))=_;rw[qx,NT l hj,if_neg f2,f1,NU l hj]
 have lb:aQ (iR (cj g es)) (.inl (e.c+1))=aB (.str eK):=by rw[IF,Int.add_sub_cancel,la];rfl
 have s2:∀hd ls,bL (bx (bW w (iR (cj g es))) (e.c+1)) hd ls=aB (-1,[],ls):=λhd ls=>by
  rw[EO (by lia) c2,lb];rfl
 refine⟨-1,[e.c+1,e.c],[(g:Int)]++(aI rest e.c (-1) (cM e.b e.t (g+1))).ts,?_,rfl⟩;rw[uC (s1 hd),uC (s2 1 _),show e.c+1 + -1=e.c by lia];rfl
theorem fQ.turns(h:fQ N G es){w:Nat}(hw:w=2*N+1){e:Ev}(he:e∈es):∀(n g:Nat) (hd:Int),g+n=G->
 ∃cs ts,aI ((List.range' g n).flatMap (bU w es)) e.c hd (cM e.b e.t g)=⟨cs,ts,e.t,false⟩/\bE e.c cs=e.c
 |0,g,hd,hg=>by
  have l:e.b.length=e.t.length:=by rw[h.bl e he,h.tl e he]
  refine⟨[],[],?_,rfl⟩;rw[show g=e.b.length by rw[h.bl e he];exact hg,WK l];rfl
 |n+1,g,hd,hg=>by
  rw[List.range'_succ,List.flatMap_cons];obtain⟨hd',cs,ts,e1,l1⟩:=h.turn hw he (g:=g) (by lia) hd ((List.range' (g+1) n).flatMap (bU w es));obtain⟨WM,WN,e2,l2⟩:=h.turns hw he n (g+1) hd' (by lia);rw[e1,e2];exact⟨_,_,rfl,by rw[IG,l1,l2]⟩
theorem II{c wd g:Int}:jO (.str cQ) c wd g=true:=rfl
theorem fQ.wV(h:fQ N G es){w:Nat}(hw:w=2*N+1):uA w G ((List.range' 0 G).flatMap (bU w es)):=by
 intro r hr;obtain⟨g,hg,hr⟩:=List.mem_flatMap.mp hr;have hg:=(CU.mp hg).2;rcases fT.mp hr with rfl|hr
 refine⟨by rw[B7],NQ λc c0 c1=>?_⟩;by_cases q:∃e∈es,e.c=c;obtain⟨e,he,rfl⟩:=q;obtain⟨i,hi,ec⟩:=h.odd e he;rw[h.look he];split;exact II;have hb:=h.bb e he _ (jF (show g<e.b.length by rw[h.bl e he];lia));have hb2:e.b.getD g 0=e.b[g]'(by rw[h.bl e he];lia):=by rw[i8,cJ (by rw[h.bl e he];lia)];rfl
 rw[<-hb2]at hb;have hrk:wF (.tup [.int g,.int (1-e.b.getD g 0)]) G=true:=by simp only[wF,within,bQ,gz];lia
 show jO (.tup [.int g,.int (1-e.b.getD g 0)]) e.c w G=true;unfold jO;rw[hrk,Bool.or_true,if_pos rfl,jm (show 0<e.c by lia),jm (show e.c< (w:Int)-1 by lia)];rfl;rw[h.wU λe he z=>q ⟨e,he,z⟩];exact II;rw[nP.mp hr];refine⟨by rw[B7],NQ λc c0 c1=>?_⟩;rw[IF];split;rename_i z;by_cases q:∃e∈es,e.c=c-1;obtain⟨e,he,ec⟩:=q;obtain⟨i,hi,e2⟩:=h.odd e he;show decide (0<c)=true;exact jm (by lia);rw[h.wU λe he z=>q ⟨e,he,z⟩]at z;cases z;exact II
noncomputable def kJ(S P:Nat)(es:List Ev):List (List W):=aT S P++(List.range' 0 (aU S)).flatMap (bU (bq S P) es)
theorem NV{S P:Nat}(sh:Shape S P)(h:fQ (S*P) (aU S) es):uA (bq S P) (aU S) (kJ S P es):=by
 intro r hr;rcases xx.mp hr with hr|hr
 exact sh.rows.1 r hr;exact h.wV (by unfold bq;rw[C4]) r hr
theorem WO{S P:Nat}(sh:Shape S P)(h:fQ (S*P) (aU S) es){f s:Nat}(hf:f<P)(hs:s<S){e:Ev}(he:e∈es)(ec:e.c=gQ S f s)(eb:e.b=((aM S P).dM (aH s (aU S)) f).ls) :
 ∃cs ts,aI (kJ S P es) ((aM S P).col f) 0 (aH s (aU S))=⟨cs,ts,e.t,false⟩/\bE ((aM S P).col f) cs=e.c:=by
 obtain⟨p1,_,p3⟩:=sh.dM hf hs;obtain⟨hd',ts,e1⟩:=NS (aT S P) ((List.range' 0 (aU S)).flatMap (bU (bq S P) es)) ((aM S P).col f) 0 (aH s (aU S)) p1;obtain⟨WM,WN,e2,l2⟩:=h.turns (w:=bq S P) (by unfold bq;rw[C4]) he (aU S) 0 hd' (i9 _);have e3:bE ((aM S P).col f) (aI (aT S P) ((aM S P).col f) 0 (aH s (aU S))).cs=e.c:=by rw[ec];exact p3
 have e4:(aI (aT S P) ((aM S P).col f) 0 (aH s (aU S))).ls=cM e.b e.t 0:=by unfold cM;rw[List.take_zero,List.drop_zero,eb];rfl
 unfold kJ;rw[e1,e3,e4,e2];exact⟨_,_,rfl,by rw[IG,e3,l2]⟩
end
structure uD(S P:Nat)(M:List (List (Int×Int))):Prop where
 l:M.length=S
 r:∀row∈M,row.length=P
 p:∀row∈M,∀x∈row,0<=x.1/\x.1<=99/\0<=x.2/\x.2<S
noncomputable def jR(S P s f:Nat)(x:Int×Int):Ev:=⟨gQ S f s,x.1,((aM S P).dM (aH s (aU S)) f).ls,aH x.2 (aU S)⟩
noncomputable def cU(S P s:Nat):Nat->List (Int×Int)->List Ev|_,[]=>[]|f,x::r=>jR S P s f x::cU S P s (f+1) r
noncomputable def bO(S P:Nat):Nat->List (List (Int×Int))->List Ev|_,[]=>[]|s,x::r=>cU S P s 0 x++bO S P (s+1) r
section
variable{S P:Nat}
theorem ER{s:Nat}{e:Ev}:∀{f:Nat} {row:List (Int×Int)},e∈cU S P s f row->∃i x,row[i]?=aB x/\e=jR S P s (f+i) x
 |f,x::r,h=>by
  rcases fT.mp h with rfl|h;exact⟨0,x,rfl,rfl⟩;obtain⟨i,y,h1,h2⟩:=ER h;exact⟨i+1,y,h1,by rw[h2,show f+1+i=f+ (i+1) by lia]⟩
theorem NW{s:Nat}{x:Int×Int}:∀{f i:Nat} {row:List (Int×Int)},row[i]?=aB x->jR S P s (f+i) x∈cU S P s f row
 |f,0,y::r,h=>by
  obtain rfl:y=x:=by simpa using h
  exact eZ
 |f,i+1,y::r,h=>by
  rw[show f+ (i+1)=f+1+i by lia];exact eY _ (NW (by simpa using h))
theorem ES{e:Ev}:∀{s:Nat} {M:List (List (Int×Int))},e∈bO S P s M->∃j i row x,M[j]?=aB row/\row[i]?=aB x/\e=jR S P (s+j) i x
 |s,row::M,h=>by
  rcases xx.mp h with h|h;obtain⟨i,x,h1,h2⟩:=ER h;exact⟨0,i,row,x,rfl,h1,by rw[h2,i9];rfl⟩;obtain⟨j,i,IJ,x,h0,h1,h2⟩:=ES h;exact⟨j+1,i,IJ,x,h0,h1,by rw[h2,show s+1+j=s+ (j+1) by lia]⟩
theorem NX{x:Int×Int}{row:List (Int×Int)}{i:Nat}:∀{s j:Nat} {M:List (List (Int×Int))},M[j]?=aB row->row[i]?=aB x->jR S P (s+j) i x∈bO S P s M
 |s,0,y::M,h,h1=>by
  obtain rfl:y=row:=by simpa using h
  refine CS _ ?_;have:=NW (S:=S) (P:=P) (s:=s) (f:=0) h1;rw[i9]at this;exact this
 |s,j+1,y::M,h,h1=>by
  rw[show s+ (j+1)=s+1+j by lia];exact jn _ (NX (by simpa using h) h1)
theorem NY{f f' s s':Nat}(h:s<S)(h':s'<S)(e:gQ S f s=gQ S f' s'):f=f'/\s=s':=by
 unfold gQ at e;have e2:S*f+s=S*f'+s':=by
  have:((S*f+s:Nat):Int)=((S*f'+s':Nat):Int):=by push_cast;rw[xE (S:Int) f,xE (S:Int) f'];lia
  lia
 have a:(S*f+s) % S=s:=by rw[Nat.mul_add_mod,Nat.mod_eq_of_lt h]
 have b:(S*f'+s') % S=s':=by rw[Nat.mul_add_mod,Nat.mod_eq_of_lt h']
 have es:s=s':=by rw[<-a,e2,b]
 subst es;refine⟨?_,rfl⟩;have:S*f=S*f':=by lia
 exact Nat.eq_of_mul_eq_mul_left (by lia) this
theorem NZ{s:Nat}(hs:s<S):∀{f:Nat} {row:List (Int×Int)},((cU S P s f row).map Ev.c).Nodup
 |_,[]=>List.nodup_nil
 |f,x::r=>by
  rw[cU,fF,sU];refine⟨λh=>?_,NZ hs⟩;obtain⟨e,he,ec⟩:=gB.mp h;obtain⟨i,y,h1,rfl⟩:=ER he;have:=(NY hs hs ec).1;lia
theorem N1:∀{s:Nat} {M:List (List (Int×Int))},s+M.length<=S->((bO S P s M).map Ev.c).Nodup
 |_,[],_=>List.nodup_nil
 |s,row::M,h=>by
  rw[dg]at h;rw[bO,iu,List.nodup_append];refine⟨NZ (by lia),N1 (by lia),λa ha b hb ab=>?_⟩;obtain⟨e,he,rfl⟩:=gB.mp ha;obtain⟨e2,GD,rfl⟩:=gB.mp hb;obtain⟨i,y,h1,rfl⟩:=ER he;obtain⟨j,i2,r2,y2,h2,h3,rfl⟩:=ES GD;have hj:j<M.length:=(iB.mp h2).1;have:=(NY (by lia) (by lia) ab).2;lia
theorem IK{M:List (List (Int×Int))}(sh:Shape S P)(m:uD S P M):fQ (S*P) (aU S) (bO S P 0 M):=by
 have key:∀e∈bO S P 0 M,∃s f x,s<S/\f<P/\e=jR S P s f x:=λe he=>by
  obtain⟨j,i,row,x,h1,h2,h3⟩:=ES he;have hj:=(iB.mp h1).1;have hi:=(iB.mp h2).1;rw[m.l]at hj;rw[m.r row (nC h1)]at hi;exact⟨j,i,x,hj,hi,by rw[h3,i9]⟩
 have N2:∀s f,s<S->f<P->((aM S P).dM (aH s (aU S)) f).ls.length=aU S/\eU ((aM S P).dM (aH s (aU S)) f).ls:=λs f hs hf=>by
  have hf':f< (aM S P).fd.length:=by show f< ((aX S P).map W.int).length;rw[bD,sh.rows.2.2.1];exact hf
  have q:=sh.ok.dM (ls:=aH s (aU S)) (f:=f) hf' (by rw[pe];rfl) wR;exact⟨by rw[q.l1,pe],q.l2⟩
 refine⟨N1 (by rw[m.l];lia),λe he=>?_,λe he=>?_,λe he=>?_,λe he=>?_,λe he=>?_⟩;obtain⟨s,f,x,hs,hf,rfl⟩:=key e he;refine⟨f*S+s,?_,?_⟩;calc f*S+s<f*S+S:=by lia
  _=(f+1)*S:=by rw[Nat.add_mul,Nat.one_mul]
  _<=P*S:=Nat.mul_le_mul_right _ hf
  _=S*P:=Nat.mul_comm _ _
 show gQ S f s=_;unfold gQ
 push_cast;rfl;obtain⟨s,f,x,hs,hf,rfl⟩:=key e he;exact(N2 s f hs hf).1;obtain⟨s,f,x,hs,hf,rfl⟩:=key e he;exact pe;obtain⟨s,f,x,hs,hf,rfl⟩:=key e he;exact(N2 s f hs hf).2;obtain⟨s,f,x,hs,hf,rfl⟩:=key e he;exact wR
noncomputable def mw(S P:Nat)(M:List (List (Int×Int))):List W:=(bO S P 0 M).foldl ck (bK (bq S P) (.tup [.int 0,.int 0]))
noncomputable def cu(S P:Nat)(M:List (List (Int×Int))):Bd:=⟨bq S P,aU S,kJ S P (bO S P 0 M),(aX S P).map .int,mw S P M⟩
theorem WQ{M:List (List (Int×Int))}(sh:Shape S P)(m:uD S P M){s f:Nat}{row:List (Int×Int)}{x:Int×Int}(h1:M[s]?=aB row)(h2:row[f]?=aB x) :
 ∃cs ts,aI (cu S P M).rows ((aM S P).col f) 0 (aH s (aU S))=⟨cs,ts,aH x.2 (aU S),false⟩/\(cu S P M).dr[(bE ((aM S P).col f) cs).toNat]?=aB (.tup [.int x.1,.int 0])/\0<=bE ((aM S P).col f) cs/\bE ((aM S P).col f) cs<bq S P:=by
 have hs:=(iB.mp h1).1;have hf:=(iB.mp h2).1;rw[m.l]at hs;rw[m.r row (nC h1)]at hf;have he:=NX (S:=S) (P:=P) (s:=0) h1 h2;rw[i9]at he;have ok:=IK sh m;obtain⟨cs,ts,e1,l1⟩:=WO sh ok hf hs he rfl rfl;have bound:∀e∈bO S P 0 M,0<=e.c/\e.c<bq S P:=λe h=>by
  obtain⟨i,hi,ec⟩:=ok.odd e h;unfold bq;rw[C4];lia
 refine⟨cs,ts,e1,?_,?_⟩;rw[l1];refine NO he ok.nd λe h=>?_;have:=bound e h;rw[qo];lia;rw[l1];exact bound _ he
end
structure gS(F:Nat->Option Fn):Prop where
 IL:F 173=aB eO
 IM:F 174=aB l5
theorem uE{cl:Call}{i:Nat}{ρ:En}{h:VH}{x:W}(e:ρ[i]?=aB (aB x)):ev cl (.var i) ρ h=.ok x h:=by rw[ev,e];rfl
theorem B8{cl:Call}{a b:E}{ρ:En}{h h1 h2:VH}{x y z:W}(ea:ev cl a ρ h=.ok x h1)(eb:ev cl b ρ h1=.ok y h2)(e:bT h2 x y=aB z):ev cl (.idx a b) ρ h=.ok z h2:=by rw[ev,ea,aD,eb,aD,e];rfl
theorem B9{cl:Call}{i:Nat}{a:E}{ρ:En}{h h1:VH}{x:W}(ea:ev cl a ρ h=.ok x h1):exs cl (.set i a) ρ h=.ok (.nx (ρ.set i (aB x))) h1:=by rw[exs,ea];rfl
theorem IP{h:VH}{x:W}{r:List W}:bT h (.tup (x::r)) (.int 0)=aB x:=lR (j:=0) (xs:=x::r) rfl
theorem IQ{h:VH}{i:Int}:cY h (.int i) .aR=aB false:=rfl
section
variable{F:Nat->Option Fn}(C:gS F)
include C
theorem WR{k:Nat}{h0:VH}{gs:List VO}{cs ts:List W}{ls:List Int}{w:W}{c wd hd:Int}(hm:jO w c wd (ls.length:Int)) :
 run F (k+1) 173 [w,.int hd,.ref (h0.n+2),.aR] (st3 h0 gs cs ts (ls.map .int))=match bL w hd ls with
  |none=>.ok .aR (st3 h0 gs cs ts (ls.map .int))
  |some (d,_,l)=>.ok (.int d) (st3 h0 gs cs ts (l.map .int)):=by
 rw[fD C.IL rfl];rcases yw hm with⟨rfl,h3,h4⟩|⟨rfl,h3⟩|⟨rfl,h3⟩|rfl|rfl|⟨p,q,rfl,h3,h4,h5,h6⟩
 rw[EA];simp[eO,exs,ev,bw,eS];rw[EB];simp[eO,exs,ev,bw,eS];rw[EC];simp[eO,exs,ev,bw,eS];rw[ED];simp[eO,exs,ev,bw,eS];rw[EE];simp[eO,exs,ev,bw,eS];rw[EF];have hp:p<ls.length:=by lia
 have e1:=NG hp;have g:VH.get ⟨(st3 h0 gs cs ts (ls.map .int)).n,(st3 h0 gs cs ts (ls.map .int)).n,(st3 h0 gs cs ts (ls.map .int)).os⟩ (h0.n+2)=aB (.lst (ls.map .int)):=by rw[dY];exact BR
 have e2:iU (ls.map W.int).length (p:Int)=aB p:=Iu (by rw[bD];exact hp);have e3:exs (run F k) eO.body [aB (.tup [.int p,.int q]),aB (.int hd),aB (.ref (h0.n+2)),aB .aR,aC,aC,aC] ⟨(st3 h0 gs cs ts (ls.map .int)).n,(st3 h0 gs cs ts (ls.map .int)).n,(st3 h0 gs cs ts (ls.map .int)).os⟩=.ok (.rt (.int (if ls.getD p 0=q then -1 else 1))) (VH.set ⟨(st3 h0 gs cs ts (ls.map .int)).n,(st3 h0 gs cs ts (ls.map .int)).n,(st3 h0 gs cs ts (ls.map .int)).os⟩ (h0.n+2) (.lst ((ls.set p (1-ls.getD p 0)).map .int))):=by
  rw[List.map_set];generalize ls.getD p 0=y at e1 ⊢;by_cases z:y=(q:Int)
  simp only[eO,exs,ev,bH,aV,rq,nH,lI,nO,bM,aD,l8,jq,oW,eT,nQ,nD,bT,g,e1,iV,gH,e2,bw,uz,IQ,Bool.not_false,z,CH,cC];simp only[eO,exs,ev,bH,aV,rq,nH,lI,nO,bM,aD,l8,jq,oW,eT,nQ,nD,bT,g,e1,iV,gH,e2,bw,uz,IQ,Bool.not_false,z,decide_false,ez]
 show fin _ (exs (run F k) eO.body [aB (.tup [.int p,.int q]),aB (.int hd),aB (.ref (h0.n+2)),aB .aR,aC,aC,aC] _)=_;rw[e3];exact Wt
theorem WS{k:Nat}{h0:VH}{b l f:W}{r:List W}{c wd hd:Int}{cs ts:List W}{ls:List Int}{y:Option W}(ok:(r.length:Int)=wd/\dw wd (ls.length:Int) 0 r)(c0:0<=c)(c1:c<wd)(hc:cs.length<=1000)(ht:ts.length<=1000) :
 exs (run F (k+1)) BK [aB b,aB l,aB f,aB .aR,aB (.int c),aB (.ref h0.n),aB (.ref (h0.n+1)),aB (.ref (h0.n+2)),aB (.int hd),aB (.tup r),y] (st3 h0 [] cs ts (ls.map .int))=match bL (bx r c) hd ls with
  |none=>.ok (.bk [aB b,aB l,aB f,aB .aR,aB (.int c),aB (.ref h0.n),aB (.ref (h0.n+1)),aB (.ref (h0.n+2)),aB .aR,aB (.tup r),aB (bx r c)]) (st3 h0 [] cs ts (ls.map .int))
  |some (d,t,l')=>.ok (.nx [aB b,aB l,aB f,aB .aR,aB (.int (c+d)),aB (.ref h0.n),aB (.ref (h0.n+1)),aB (.ref (h0.n+2)),aB (.int d),aB (.tup r),aB (bx r c)]) (st3 h0 [] (cs++[.int (c+d)]) (ts++t.map .int) (l'.map .int)):=by
 obtain⟨_,hm⟩:=wI ok c0 c1;have e0:=Iv ok c0 c1;generalize bx r c=w at hm e0 ⊢;have e1:=WR C (k:=k) (h0:=h0) (gs:=[]) (cs:=cs) (ts:=ts) (hd:=hd) hm;unfold BK;rw[aZ (ρ':=[aB b,aB l,aB f,aB .aR,aB (.int c),aB (.ref h0.n),aB (.ref (h0.n+1)),aB (.ref (h0.n+2)),aB (.int hd),aB (.tup r),aB w]) (h':=st3 h0 [] cs ts (ls.map .int)) (B9 (B8 (x:=.tup r) (y:=.int c) (uE rfl) (uE rfl) e0))];have key:∀(d:Int)(l':List Int)(t:List Int),bL w hd ls=aB (d,t,l')->exs (run F (k+1)) (.seq (.ite (.and (.kQ (.oj .tuple (.var 10))) (.cmp .ne (.idx (.var 10) (.cst (.int (0)))) (.var 3))) (.seq (.expr (.mt .append (.var 6) (.cons (.idx (.var 10) (.cst (.int (0)))) .nil))) .skip) .skip) (.seq (.aug 4 .add (.var 8)) (.seq (.expr (.mt .append (.var 5) (.cons (.var 4) .nil))) .skip))) [aB b,aB l,aB f,aB .aR,aB (.int c),aB (.ref h0.n),aB (.ref (h0.n+1)),aB (.ref (h0.n+2)),aB (.int d),aB (.tup r),aB w] (st3 h0 [] cs ts (l'.map .int))=.ok (.nx [aB b,aB l,aB f,aB .aR,aB (.int (c+d)),aB (.ref h0.n),aB (.ref (h0.n+1)),aB (.ref (h0.n+2)),aB (.int d),aB (.tup r),aB w]) (st3 h0 [] (cs++[.int (c+d)]) (ts++t.map .int) (l'.map .int)):=by
  intro d l' t es;have fin:∀ts':List W,exs (run F (k+1)) (.seq (.aug 4 .add (.var 8)) (.seq (.expr (.mt .append (.var 5) (.cons (.var 4) .nil))) .skip)) [aB b,aB l,aB f,aB .aR,aB (.int c),aB (.ref h0.n),aB (.ref (h0.n+1)),aB (.ref (h0.n+2)),aB (.int d),aB (.tup r),aB w] (st3 h0 [] cs ts' (l'.map .int))=.ok (.nx [aB b,aB l,aB f,aB .aR,aB (.int (c+d)),aB (.ref h0.n),aB (.ref (h0.n+1)),aB (.ref (h0.n+2)),aB (.int d),aB (.tup r),aB w]) (st3 h0 [] (cs++[.int (c+d)]) ts' (l'.map .int)):=by intro ts';rw[aZ (ρ':=[aB b,aB l,aB f,aB .aR,aB (.int (c+d)),aB (.ref h0.n),aB (.ref (h0.n+1)),aB (.ref (h0.n+2)),aB (.int d),aB (.tup r),aB w]) (h':=st3 h0 [] cs ts' (l'.map .int)) rfl];have ea:=Nz (cl:=run F (k+1)) (i:=5) (l:=h0.n) (x:=.var 4) (ρ:=[aB b,aB l,aB f,aB .aR,aB (.int (c+d)),aB (.ref h0.n),aB (.ref (h0.n+1)),aB (.ref (h0.n+2)),aB (.int d),aB (.tup r),aB w]) (h:=st3 h0 [] cs ts' (l'.map .int)) (h1:=st3 h0 [] cs ts' (l'.map .int)) (w:=.int (c+d)) (acc:=cs) (wH:=cs) rfl wJ (by simp[ev]) wJ (by lia);rw[Wr]at ea;simp only[exs,ea,aD]
  rcases yw hm with⟨rfl,h3,h4⟩|⟨rfl,h3⟩|⟨rfl,h3⟩|rfl|rfl|⟨p,q,rfl,h3,h4,h5,h6⟩;rw[EA]at es;cases es;rw[aZ (ρ':=[aB b,aB l,aB f,aB .aR,aB (.int c),aB (.ref h0.n),aB (.ref (h0.n+1)),aB (.ref (h0.n+2)),aB (.int hd),aB (.tup r),aB (.str sX)]) (h':=st3 h0 [] cs ts (ls.map .int)) rfl,fin];simp;rw[EB]at es;cases es;rw[aZ (ρ':=[aB b,aB l,aB f,aB .aR,aB (.int c),aB (.ref h0.n),aB (.ref (h0.n+1)),aB (.ref (h0.n+2)),aB (.int (-1)),aB (.tup r),aB (.str eK)]) (h':=st3 h0 [] cs ts (ls.map .int)) rfl,fin];simp;rw[EC]at es;cases es;rw[aZ (ρ':=[aB b,aB l,aB f,aB .aR,aB (.int c),aB (.ref h0.n),aB (.ref (h0.n+1)),aB (.ref (h0.n+2)),aB (.int 1),aB (.tup r),aB (.str iY)]) (h':=st3 h0 [] cs ts (ls.map .int)) rfl,fin];simp;rw[ED]at es;cases es;rw[aZ (ρ':=[aB b,aB l,aB f,aB .aR,aB (.int c),aB (.ref h0.n),aB (.ref (h0.n+1)),aB (.ref (h0.n+2)),aB (.int 0),aB (.tup r),aB (.str cQ)]) (h':=st3 h0 [] cs ts (ls.map .int)) rfl,fin];simp;rw[EE]at es;cases es;rw[EF]at es;cases es;have ea:=Nz (cl:=run F (k+1)) (i:=6) (l:=h0.n+1) (x:=.idx (.var 10) (.cst (.int 0))) (ρ:=[aB b,aB l,aB f,aB .aR,aB (.int c),aB (.ref h0.n),aB (.ref (h0.n+1)),aB (.ref (h0.n+2)),aB (.int (if ls.getD p 0=q then -1 else 1)),aB (.tup r),aB (.tup [.int p,.int q])]) (h:=st3 h0 [] cs ts ((ls.set p (1-ls.getD p 0)).map .int)) (h1:=st3 h0 [] cs ts ((ls.set p (1-ls.getD p 0)).map .int)) (w:=.int p) (acc:=ts) (wH:=ts) rfl wK (by simp[ev,bT];rfl) wK (by lia);rw[Ws]at ea;have eb:exs (run F (k+1)) (.ite (.and (.kQ (.oj .tuple (.var 10))) (.cmp .ne (.idx (.var 10) (.cst (.int (0)))) (.var 3))) (.seq (.expr (.mt .append (.var 6) (.cons (.idx (.var 10) (.cst (.int (0)))) .nil))) .skip) .skip) [aB b,aB l,aB f,aB .aR,aB (.int c),aB (.ref h0.n),aB (.ref (h0.n+1)),aB (.ref (h0.n+2)),aB (.int (if ls.getD p 0=q then -1 else 1)),aB (.tup r),aB (.tup [.int p,.int q])] (st3 h0 [] cs ts ((ls.set p (1-ls.getD p 0)).map .int))=.ok (.nx [aB b,aB l,aB f,aB .aR,aB (.int c),aB (.ref h0.n),aB (.ref (h0.n+1)),aB (.ref (h0.n+2)),aB (.int (if ls.getD p 0=q then -1 else 1)),aB (.tup r),aB (.tup [.int p,.int q])]) (st3 h0 [] cs (ts++[.int p]) ((ls.set p (1-ls.getD p 0)).map .int)):=by
   rw[exs];have e5:ev (run F (k+1)) (.and (.kQ (.oj .tuple (.var 10))) (.cmp .ne (.idx (.var 10) (.cst (.int (0)))) (.var 3))) [aB b,aB l,aB f,aB .aR,aB (.int c),aB (.ref h0.n),aB (.ref (h0.n+1)),aB (.ref (h0.n+2)),aB (.int (if ls.getD p 0=q then -1 else 1)),aB (.tup r),aB (.tup [.int p,.int q])] (st3 h0 [] cs ts ((ls.set p (1-ls.getD p 0)).map .int))=.ok (.bl true) (st3 h0 [] cs ts ((ls.set p (1-ls.getD p 0)).map .int)):=by simp[ev,IP,bw,IQ]
   rw[e5,aD];simp only[exs,ea,aD]
  rw[aZ eb,fin];rfl
 cases es:bL w hd ls with
 |none=>
  rw[es]at e1;rw[aZ (ρ':=[aB b,aB l,aB f,aB .aR,aB (.int c),aB (.ref h0.n),aB (.ref (h0.n+1)),aB (.ref (h0.n+2)),aB .aR,aB (.tup r),aB w]) (h':=st3 h0 [] cs ts (ls.map .int)) (by simp only[exs,ev,nH,lI,nO,bM,aD,e1,nQ,nD])];exact Wu rfl
 |some q=>
  obtain⟨d,t,l'⟩:=q;rw[es]at e1;rw[aZ (ρ':=[aB b,aB l,aB f,aB .aR,aB (.int c),aB (.ref h0.n),aB (.ref (h0.n+1)),aB (.ref (h0.n+2)),aB (.int d),aB (.tup r),aB w]) (h':=st3 h0 [] cs ts (l'.map .int)) (by simp only[exs,ev,nH,lI,nO,bM,aD,e1,nQ,nD])];rw[aZ (ρ':=[aB b,aB l,aB f,aB .aR,aB (.int c),aB (.ref h0.n),aB (.ref (h0.n+1)),aB (.ref (h0.n+2)),aB (.int d),aB (.tup r),aB w]) (h':=st3 h0 [] cs ts (l'.map .int)) rfl];exact key d l' t es
theorem N3{k:Nat}{h0:VH}{b l f:W}{wd:Int}:∀(rs:List (List W)) (c hd:Int) (cs ts:List W) (ls:List Int) (x y:Option W),uA wd (ls.length:Int) rs->0<=c->c<wd->-1<=hd->hd<=1->eU ls->cs.length+rs.length<=1000->ts.length+rs.length<=1000->
 ∃c' hd' x' y',forL (bH (.one 9)) (exs (run F (k+1)) BK) (rs.map .tup) [aB b,aB l,aB f,aB .aR,aB (.int c),aB (.ref h0.n),aB (.ref (h0.n+1)),aB (.ref (h0.n+2)),aB (.int hd),x,y] (st3 h0 [] cs ts (ls.map .int)) =
  .ok (.nx [aB b,aB l,aB f,aB .aR,c',aB (.ref h0.n),aB (.ref (h0.n+1)),aB (.ref (h0.n+2)),hd',x',y']) (st3 h0 [] (cs++(aI rs c hd ls).cs.map .int) (ts++(aI rs c hd ls).ts.map .int) ((aI rs c hd ls).ls.map .int))
 |[],c,hd,cs,ts,ls,x,y,_,_,_,_,_,_,_,_=>⟨aB (.int c),aB (.int hd),x,y,by simp[forL,aI]⟩
 |r::rs,c,hd,cs,ts,ls,x,y,ok,c0,c1,h1,h2,bi,hc,ht=>by
  have hc':cs.length+rs.length+1<=1000:=by rw[dg]at hc;lia
  have ht':ts.length+rs.length+1<=1000:=by rw[dg]at ht;lia
  have eb:=WS C (k:=k) (h0:=h0) (b:=b) (l:=l) (f:=f) (hd:=hd) (cs:=cs) (ts:=ts) (y:=y) (ok r eZ) c0 c1 (by lia) (by lia);obtain⟨_,hm⟩:=wI (ok r eZ) c0 c1;cases e:bL (bx r c) hd ls with
  |none=>
   rw[e]at eb;rw[Wo e];refine⟨aB (.int c),aB .aR,aB (.tup r),aB (bx r c),?_⟩;simp only[fF,forL,bH,nQ,nD,eb,aD,uV,nG]
  |some q=>
   obtain⟨d,t,l'⟩:=q;rw[e]at eb;obtain⟨a1,a2,a3,a4,a5,a6,a7⟩:=Io hm c0 c1 h1 h2 bi e;obtain⟨c',hd',x',y',ih⟩:=N3 (k:=k) (h0:=h0) (b:=b) (l:=l) (f:=f) rs (c+d) d (cs++[.int (c+d)]) (ts++t.map .int) l' (aB (.tup r)) (aB (bx r c)) (λr hr=>by rw[a5];exact ok r (eY _ hr)) a3 a4 a1 a2 a6 (by simp only[fE,yO];lia) (by simp only[fE,bD];lia);rw[Wq e];refine⟨c',hd',x',y',?_⟩;simp only[fF,forL,bH,nQ,nD,eb,aD,ih,iu,yQ,List.singleton_append]
theorem WT{k:Nat}{h:VH}{B:Bd}{ls:List Int}{f:Nat}(b:B.Ok)(hf:f<B.fd.length)(hl:(ls.length:Int)=B.gr)(bi:eU ls):run F (k+2) 174 [B.w,iW ls,.int f,.aR] h=.ok (sG B ls f) h:=by
 rw[fD C.IM rfl];obtain⟨e0,c0,c1⟩:=b.col hf;have hr:=b.r1;obtain⟨c',hd',x',y',el⟩:=N3 C (k:=k) (h0:=h) (b:=B.w) (l:=iW ls) (f:=.int f) B.rows (B.col f) 0 [.int (B.col f)] [] ls aC aC (b.rows hl) c0 c1 (by decide) (by decide) bi (by rw[yO];lia) (by rw[CZ];lia);have e1:fy B.fd (f:Int)=aB (.int (B.col f)):=lR e0;have i3:fy [W.int B.wd,.int B.gr,.tup (B.rows.map .tup),.tup B.fd,.tup B.dr] 3=aB (.tup B.fd):=rfl;have i2:fy [W.int B.wd,.int B.gr,.tup (B.rows.map .tup),.tup B.fd,.tup B.dr] 2=aB (.tup (B.rows.map .tup)):=rfl;have hz:(B.rows.map W.tup).length<1000000:=by rw[bD];lia
 have eb:exs (run F (k+1)) l5.body [aB B.w,aB (iW ls),aB (.int f),aB .aR,aC,aC,aC,aC,aC,aC,aC] ⟨h.n,h.n,h.os⟩=.ok (.rt (sG B ls f)) (st3 h [] (([.int (B.col f)]:List W)++(aI B.rows (B.col f) 0 ls).cs.map .int) (([]:List W)++(aI B.rows (B.col f) 0 ls).ts.map .int) ((aI B.rows (B.col f) 0 ls).ls.map .int)):=by
  show exs (run F (k+1)) (.seq _ _) _ _=_;rw[aZ (ρ':=[aB B.w,aB (iW ls),aB (.int f),aB .aR,aB (.int (B.col f)),aC,aC,aC,aC,aC,aC]) (h':=⟨h.n,h.n,h.os⟩) (by unfold Bd.w;simp[exs,ev,bT,i3,e1])];rw[aZ (ρ':=[aB B.w,aB (iW ls),aB (.int f),aB .aR,aB (.int (B.col f)),aB (.ref h.n),aC,aC,aC,aC,aC]) (h':=VH.new ⟨h.n,h.n,h.os⟩ (.lst [.int (B.col f)])) (by simp[exs,ev])];rw[aZ (ρ':=[aB B.w,aB (iW ls),aB (.int f),aB .aR,aB (.int (B.col f)),aB (.ref h.n),aB (.ref (h.n+1)),aC,aC,aC,aC]) (h':=VH.new (VH.new ⟨h.n,h.n,h.os⟩ (.lst [.int (B.col f)])) (.lst [])) (by simp[exs,ev,VH.new])];rw[aZ (ρ':=[aB B.w,aB (iW ls),aB (.int f),aB .aR,aB (.int (B.col f)),aB (.ref h.n),aB (.ref (h.n+1)),aB (.ref (h.n+2)),aC,aC,aC]) (h':=st3 h [] [.int (B.col f)] [] (ls.map .int)) (by unfold iW;simp[exs,ev,VH.new,lu,iI,aV,st3])];rw[aZ (ρ':=[aB B.w,aB (iW ls),aB (.int f),aB .aR,aB (.int (B.col f)),aB (.ref h.n),aB (.ref (h.n+1)),aB (.ref (h.n+2)),aB (.int 0),aC,aC]) (h':=st3 h [] [.int (B.col f)] [] (ls.map .int)) (by simp[exs,ev])];have ei:ev (run F (k+1)) (.idx (.var 0) (.cst (.int (2)))) [aB B.w,aB (iW ls),aB (.int f),aB .aR,aB (.int (B.col f)),aB (.ref h.n),aB (.ref (h.n+1)),aB (.ref (h.n+2)),aB (.int 0),aC,aC] (st3 h [] [.int (B.col f)] [] (ls.map .int))=.ok (.tup (B.rows.map .tup)) (st3 h [] [.int (B.col f)] [] (ls.map .int)):=by unfold Bd.w;simp[ev,bT,i2]
  have ef:=Ez (tg:=bH (.one 9)) (b:=exs (run F (k+1)) BK) (ρ:=[aB B.w,aB (iW ls),aB (.int f),aB .aR,aB (.int (B.col f)),aB (.ref h.n),aB (.ref (h.n+1)),aB (.ref (h.n+2)),aB (.int 0),aC,aC]) (h:=st3 h [] [.int (B.col f)] [] (ls.map .int)) hz;rw[el]at ef;refine(aZ (by rw[exs,ei,aD,ef])).trans ?_;have et:=Iz (cl:=run F (k+1)) (Iw (i:=5) (ρ:=[aB B.w,aB (iW ls),aB (.int f),aB .aR,c',aB (.ref h.n),aB (.ref (h.n+1)),aB (.ref (h.n+2)),hd',x',y']) rfl (wJ (h:=h) (gs:=[]) (c:=([.int (B.col f)]:List W)++(aI B.rows (B.col f) 0 ls).cs.map .int) (t:=([]:List W)++(aI B.rows (B.col f) 0 ls).ts.map .int) (l:=(aI B.rows (B.col f) 0 ls).ls.map .int))) (Iw (i:=6) rfl wK) (Iw (i:=7) rfl BR);simp only[exs,et,aD];rfl
 show fin h (exs (run F (k+1)) l5.body [aB B.w,aB (iW ls),aB (.int f),aB .aR,aC,aC,aC,aC,aC,aC,aC] ⟨h.n,h.n,h.os⟩)=_;rw[eb];exact eS (bf _) Wv
end
theorem N4{n:Nat}:∀{ws:List W},(∀w∈ws,W.lt n w=true)->W.lW n ws=true|[],_=>by simp|w::r,h=>by rw[iP,h w eZ,N4 λw hw=>h w (eY _ hw)];rfl
section
variable{F:Nat->Option Fn}
theorem N5{m:Nat}:∀(n:Nat) (w:W),gu n w=true->W.lt m w=true
 |0,_,e=>by cases e
 |n+1,w,e=>by
  cases w<;>simp only[gu]at e<;>try(cases e;done)
  simp;simp;simp;simp;rw[lD];exact N4 λw hw=>N5 n w (ic.mp e w hw)
end
section
variable{F:Nat->Option Fn}(C:mj F)
include C
theorem N6{k:Nat}:∀(ns:List Int) (x:Option W) (h:VH),∃cells:List Int,ux (bH (.one 0)) (ev (run F k) ua) (ev (run F k) zdt) (ns.map .int) [x] h=.ok (cells.map .int) h/\(∀y∈cells,(0:Int)<=y)/\cells.length<=ns.length
 |[],x,h=>⟨[],rfl,(λy hy=>by cases hy),bf _⟩
 |n::ns,x,h=>by
  obtain⟨cells,e,h1,h2⟩:=N6 (k:=k) ns (aB (.int n)) h;have Gq:((10:Int).natAbs<2 ^ 64):=by decide
  have ec:ev (run F k) ua [aB (.int n)] h=.ok (.bl (decide (1000000000000000000<=(n.natAbs:Int)))) h:=by simp[ua,ev,lu,lq,iV,gH,bw,ie,Im]
  have ee:ev (run F k) zdt [aB (.int n)] h=.ok (.int (n.natAbs:Int)) h:=by simp[zdt,ev,lu,lq,Im]
  by_cases q:1000000000000000000<=(n.natAbs:Int)
  refine⟨(n.natAbs:Int)::cells,?_,λy hy=>?_,by rw[dg,dg];lia⟩;simp only[ux,fF,bH,List.set,ec,aD,q,CH,ee,e];rcases fT.mp hy with rfl|hy
  lia;exact h1 y hy;refine⟨cells,?_,h1,by rw[dg];lia⟩;simp only[ux,fF,bH,List.set,ec,aD,q,decide_false,e]
theorem IS{k:Nat}{h:VH}{ns:List Int}(hl:ns.length<=63):∃h',run F (k+1) 3 [.fz (ns.map .int)] h=.ok (.ref (h.n+1)) h'/\Dk h' (h.n+1) h.n 0:=by
 rw[fD C.f3 rfl];obtain⟨cells,e,h1,h2⟩:=N6 C (k:=k) ns aC ⟨h.n,h.n,h.os⟩;have l:=Ih (nx:=aY .seq (.fz (ns.map .int))) (tg:=bH (.one 0)) (c:=ev (run F k) ua) (e:=ev (run F k) zdt) (ws:=ns.map .int) (λi h=>rfl) fuel 0 [aC] ⟨h.n,h.n,h.os⟩ [] (lJ _) (by rw[bD];unfold fuel;lia);rw[List.drop_zero,e]at l;have l:ig (aY .seq (.fz (ns.map .int))) (bH (.one 0)) (ev (run F k) ua) (ev (run F k) zdt) fuel 0 [aC] ⟨h.n,h.n,h.os⟩ []=.ok (cells.map .int) ⟨h.n,h.n,h.os⟩:=l;have q:ev (run F k) (.lc .seq (.var 0) (.one 0) 1 [] ua zdt) [aB (.fz (ns.map .int))] ⟨h.n,h.n,h.os⟩=.ok (.ref h.n) (VH.new ⟨h.n,h.n,h.os⟩ (.lst (cells.map .int))):=by rw[ev];have:ev (run F k) (.var 0) [aB (.fz (ns.map .int))] ⟨h.n,h.n,h.os⟩=.ok (.fz (ns.map .int)) ⟨h.n,h.n,h.os⟩:=rfl;rw[this,aD];show(ig (aY .seq (.fz (ns.map .int))) (bH (.one 0)) (ev (run F k) ua) (ev (run F k) zdt) fuel 0 [aC] ⟨h.n,h.n,h.os⟩ []).bind _=_;rw[l,aD,if_pos (p5 (by rw[bD];lia))]
 let pq:VH:=VH.new ⟨h.n,h.n,h.os⟩ (.lst (cells.map .int));let o:VO:=.lst [.fz (ns.map .int),.ref h.n,.int 0,.int 0];have eb:exs (run F k) BF.body [aB (.fz (ns.map .int))] ⟨h.n,h.n,h.os⟩=.ok (.rt (.ref (h.n+1))) (pq.new o):=by simp only[BF,exs,ev,aD,bM,nO,nH]at q ⊢;rw[q];rfl
 refine⟨⟨h.n+2,if Nat.ble h.lo h.n then h.lo else h.n,(pq.new o).os⟩,?_,?_⟩;show fin h (exs (run F k) BF.body [aB (.fz (ns.map .int))] ⟨h.n,h.n,h.os⟩)=_;rw[eb];show leave h (.ref (h.n+1)) (pq.new o)=_;unfold leave;rw[if_neg (by
  rw[bQ];intro z;have:=z.2;simp only[W.lt]at this;have:=gX.mp this;lia)]
 rfl;refine⟨by lia,ns,cells,0,0,?_,?_,h1,by lia,by lia,by lia,by lia⟩;show VH.get ⟨(pq.new o).n,_,(pq.new o).os⟩ (h.n+1)=_;rw[dY];exact dW (h:=pq);show VH.get ⟨(pq.new o).n,_,(pq.new o).os⟩ h.n=_;rw[dY,iz (h:=pq) (by show h.n<h.n+1;lia)];exact dW (h:=⟨h.n,h.n,h.os⟩)
end
theorem eu{cl:Call}{o:Op}{a b:E}{ρ:En}{h h1 h2:VH}{x y:W}{r:Res W}(ea:ev cl a ρ h=.ok x h1)(eb:ev cl b ρ h1=.ok y h2)(e:iV o x y h2=r):ev cl (.op o a b) ρ h=r:=by rw[ev,ea,aD,eb,aD,e]
theorem dR{cl:Call}{a:E}{ρ:En}{h h1:VH}{x:W}(ea:ev cl a ρ h=.ok x h1):exs cl (.ret a) ρ h=.ok (.rt x) h1:=by rw[exs,ea,aD]
theorem bX{cl:Call}{i:Nat}{a:E}{ρ:En}{h h1:VH}{x:W}(ea:ev cl a ρ h=.ok x h1):exs cl (.set i a) ρ h=.ok (.nx (ρ.set i (aB x))) h1:=by rw[exs,ea,aD]
theorem aE{cl:Call}{i:Nat}{ρ:En}{h:VH}{x:W}(e:ρ[i]?=aB (aB x)):ev cl (.var i) ρ h=.ok x h:=by rw[ev,e];rfl
theorem cg{cl:Call}{a b:E}{ρ:En}{h h1 h2:VH}{x y z:W}(ea:ev cl a ρ h=.ok x h1)(eb:ev cl b ρ h1=.ok y h2)(e:bT h2 x y=aB z):ev cl (.idx a b) ρ h=.ok z h2:=by rw[ev,ea,aD,eb,aD,e];rfl
theorem dN{cl:Call}{a:E}{ρ:En}{h h1:VH}{x:W}{ws:List W}(ea:ev cl a ρ h=.ok x h1)(e:aV h1 x=aB ws):ev cl (.bi .len (.cons a .nil)) ρ h=.ok (.int ws.length) h1:=by rw[ev,ev,ea,aD,ev,aD];show iH [x] h1=_;simp only[iH,e,bM]
theorem uF{cl:Call}{ρ:En}{h h1 h':VH}{n:Nat}{a:E}{x w:W}(ea:ev cl a ρ h=.ok x h1)(e:cl n [x] h1=.ok w h'):ev cl (.call n (.cons a .nil)) ρ h=.ok w h':=by rw[ev,ev,ea,aD,ev];exact e
theorem nq{cl:Call}{ρ:En}{h h1 h2 h':VH}{n:Nat}{a b:E}{x y w:W}(ea:ev cl a ρ h=.ok x h1)(eb:ev cl b ρ h1=.ok y h2)(e:cl n [x,y] h2=.ok w h'):ev cl (.call n (.cons a (.cons b .nil))) ρ h=.ok w h':=by rw[ev,ev,ea,aD,ev,eb,aD,ev];exact e
theorem nt{cl:Call}{ρ:En}{h h1 h2 h3 h':VH}{n:Nat}{a b c:E}{x y z w:W}(ea:ev cl a ρ h=.ok x h1)(eb:ev cl b ρ h1=.ok y h2)(ec:ev cl c ρ h2=.ok z h3)(e:cl n [x,y,z] h3=.ok w h'):ev cl (.call n (.cons a (.cons b (.cons c .nil)))) ρ h=.ok w h':=by rw[ev,ev,ea,aD,ev,eb,aD,ev,ec,aD,ev];exact e
theorem WU{cl:Call}{ρ:En}{h h1 h2 h3 h4 h':VH}{n:Nat}{a b c d:E}{x y z u w:W}(ea:ev cl a ρ h=.ok x h1)(eb:ev cl b ρ h1=.ok y h2)(ec:ev cl c ρ h2=.ok z h3)(ed:ev cl d ρ h3=.ok u h4)(e:cl n [x,y,z,u] h4=.ok w h'):ev cl (.call n (.cons a (.cons b (.cons c (.cons d .nil))))) ρ h=.ok w h':=by rw[ev,ev,ea,aD,ev,eb,aD,ev,ec,aD,ev,ed,aD,ev];exact e
theorem kK{cl:Call}{a b:E}{ρ:En}{h h1 h2:VH}{x y:W}(ea:ev cl a ρ h=.ok x h1)(eb:ev cl b ρ h1=.ok y h2):ev cl (.tup (.cons a (.cons b .nil))) ρ h=.ok (.tup [x,y]) h2:=by rw[ev,ev,ea,aD,ev,eb,aD,ev];rfl
theorem Ca{cl:Call}{a b c:E}{ρ:En}{h h1 h2 h3:VH}{x y z:W}(ea:ev cl a ρ h=.ok x h1)(eb:ev cl b ρ h1=.ok y h2)(ec:ev cl c ρ h2=.ok z h3):ev cl (.tup (.cons a (.cons b (.cons c .nil)))) ρ h=.ok (.tup [x,y,z]) h3:=by rw[ev,ev,ea,aD,ev,eb,aD,ev,ec,aD,ev];rfl
theorem uG{cl:Call}{a b c d e:E}{ρ:En}{h h1 h2 h3 h4 h5:VH}{x y z u v:W}(ea:ev cl a ρ h=.ok x h1)(eb:ev cl b ρ h1=.ok y h2)(ec:ev cl c ρ h2=.ok z h3)(ed:ev cl d ρ h3=.ok u h4)(ee:ev cl e ρ h4=.ok v h5):ev cl (.tup (.cons a (.cons b (.cons c (.cons d (.cons e .nil)))))) ρ h=.ok (.tup [x,y,z,u,v]) h5:=by rw[ev,ev,ea,aD,ev,eb,aD,ev,ec,aD,ev,ed,aD,ev,ee,aD,ev];rfl
theorem pA{nx:Nat->VH->Option (Option W)}{tg:W->VH->En->Option En}{b:FS}{n:Nat}{I:Nat->En->VH->Prop}
 (go:∀i ρ h,i<n->I i ρ h->∃w dX pB h2,nx i h=aB (aB w)/\tg w h ρ=aB dX/\b dX h=.ok (.nx pB) h2/\I (i+1) pB h2)
 (stop:∀ρ h,I n ρ h->nx n h=aB aC) :
 ∀(m i fu:Nat)(ρ:En)(h:VH),i+m=n->m<fu->I i ρ h->∃ρ' h',eF nx tg b fu i ρ h=.ok (.nx ρ') h'/\I n ρ' h'
 |_,_,0,_,_,_,hf,_=>by lia
 |0,i,fu+1,ρ,h,hi,_,hI=>by
  obtain rfl:i=n:=by lia
  refine⟨ρ,h,?_,hI⟩;simp only[eF,stop ρ h hI]
 |m+1,i,fu+1,ρ,h,hi,hf,hI=>by
  obtain⟨w,dX,pB,h2,e1,e2,e3,lB⟩:=go i ρ h (by lia) hI;obtain⟨ρ',h',e4,wW⟩:=pA go stop m (i+1) fu pB h2 (by lia) (by lia) lB;refine⟨ρ',h',?_,wW⟩;simp only[eF,e1,e2,e3,aD,e4]
theorem N7{nx:Nat->VH->Option (Option W)}{tg:W->VH->En->Option En}{e:FE}{n:Nat}{I:Nat->En->VH->List W->Prop}
 (go:∀i ρ h acc,i<n->I i ρ h acc->∃w dX y h2,nx i h=aB (aB w)/\tg w h ρ=aB dX/\e dX h=.ok y h2/\I (i+1) dX h2 (acc++[y]))
 (stop:∀ρ h acc,I n ρ h acc->nx n h=aB aC) :
 ∀(m i fu:Nat)(ρ:En)(h:VH)(acc:List W),i+m=n->m<fu->I i ρ h acc->∃ys ρ' h',ig nx tg (λ_ h=>.ok (.bl true) h) e fu i ρ h acc.reverse=.ok ys h'/\I n ρ' h' ys
 |_,_,0,_,_,_,_,hf,_=>by lia
 |0,i,fu+1,ρ,h,acc,hi,_,hI=>by
  obtain rfl:i=n:=by lia
  refine⟨acc,ρ,h,?_,hI⟩;simp only[ig,stop ρ h acc hI,List.reverse_reverse]
 |m+1,i,fu+1,ρ,h,acc,hi,hf,hI=>by
  obtain⟨w,dX,y,h2,e1,e2,e3,lB⟩:=go i ρ h acc (by lia) hI;obtain⟨ys,ρ',h',e4,wW⟩:=N7 go stop m (i+1) fu dX h2 (acc++[y]) (by lia) (by lia) lB;refine⟨ys,ρ',h',?_,wW⟩;rw[List.reverse_append]at e4;simp only[ig,e1,e2,aD,e3];exact e4
theorem ET{nx:Nat->VH->Option (Option W)}{tg:W->VH->En->Option En}{c e v:FE}{n:Nat}{I:Nat->En->VH->Kv->Prop}
 (go:∀i ρ h acc,i<n->I i ρ h acc->∃w dX t h1,nx i h=aB (aB w)/\tg w h ρ=aB dX/\c dX h=.ok (.bl t) h1/\
   ((t=true/\∃x k y h2 h3,e dX h1=.ok x h2/\v dX h2=.ok y h3/\lg x=aB k/\Nat.blt acc.length big=true/\I (i+1) dX h3 (bA acc k y))\/(t=false/\I (i+1) dX h1 acc)))
 (stop:∀ρ h acc,I n ρ h acc->nx n h=aB aC) :
 ∀(m i fu:Nat)(ρ:En)(h:VH)(acc:Kv),i+m=n->m<fu->I i ρ h acc->∃ys ρ' h',jK nx tg c e v fu i ρ h acc=.ok ys h'/\I n ρ' h' ys
 |_,_,0,_,_,_,_,hf,_=>by lia
 |0,i,fu+1,ρ,h,acc,hi,_,hI=>by
  obtain rfl:i=n:=by lia
  refine⟨acc,ρ,h,?_,hI⟩;simp only[jK,stop ρ h acc hI]
 |m+1,i,fu+1,ρ,h,acc,hi,hf,hI=>by
  obtain⟨w,dX,t,h1,e1,e2,e3,q⟩:=go i ρ h acc (by lia) hI;rcases q with⟨rfl,x,k,y,h2,h3,e4,e5,e6,e7,lB⟩|⟨rfl,lB⟩
  .obtain⟨ys,ρ',h',e8,wW⟩:=ET go stop m (i+1) fu dX h3 _ (by lia) (by lia) lB
   refine⟨ys,ρ',h',?_,wW⟩;simp only[jK,e1,e2,e3,aD,e4,e5,e6,e7,cC,e8]
  .obtain⟨ys,ρ',h',e8,wW⟩:=ET go stop m (i+1) fu dX h1 _ (by lia) (by lia) lB
   refine⟨ys,ρ',h',?_,wW⟩;simp only[jK,e1,e2,e3,aD,e8]
theorem kU{nx:Nat->VH->Option (Option W)}{tg:W->VH->En->Option En}{e:FE}{n:Nat}{I:Nat->En->VH->List W->Prop}
 (go:∀i ρ h acc,i<n->I i ρ h acc->∃w dX y h2,nx i h=aB (aB w)/\tg w h ρ=aB dX/\e dX h=.ok y h2/\I (i+1) dX h2 (acc++[y]))
 (stop:∀ρ h acc,I n ρ h acc->nx n h=aB aC) {ρ:En} {h:VH} (hn:n<1000000) (hI:I 0 ρ h []):∃ys ρ' h',ig nx tg (λ_ h=>.ok (.bl true) h) e fuel 0 ρ h []=.ok ys h'/\I n ρ' h' ys:=
 N7 go stop n 0 fuel ρ h [] (i9 _) hn hI
theorem i6{n i:Nat}{h:VH}(hn:n<1000000):aY .bV (.tup [.int n]) i h=aB (if i<n then aB (.int (i:Int))else aC):=by
 have hf:fits (n:Int)=true:=by unfold fits;simp;lia
 show(if fits (n:Int)then aB (if decide ((i:Int)<n)then aB (W.int (0+i))else aC)else aC)=_;rw[if_pos hf,Int.zero_add];by_cases q:i<n;rw[if_pos q,jm (by lia)];rfl;rw[if_neg q,jl (by lia)];rfl
theorem N8{h h':VH}{w:W}(hw:W.lt h.n w=false):∃h2,fin h (.ok (.rt w) h')=.ok w h2/\h2.n=h'.n/\(∀i,h2.get i=h'.get i)/\h2.lo=min h.lo h'.lo:=by refine⟨⟨h'.n,if Nat.ble h.lo h'.lo then h.lo else h'.lo,h'.os⟩,?_,rfl,λi=>rfl,?_⟩;show leave h w h'=_;unfold leave;rw[hw,Bool.and_false];rfl;show(if Nat.ble h.lo h'.lo then h.lo else h'.lo)=_;by_cases q:h.lo<=h'.lo;rw[if_pos (qw.mpr q)];lia;rw[if_neg (λz=>q (qw.mp z))];lia
theorem Cb{i n:Nat}(h:n<=i):W.lt n (.ref i)=false:=by show Nat.blt i n=false;rw[<-Bool.not_eq_true,gX];lia
section
variable{cl:Call}{ρ:En}{h h1 h2 h3 h':VH}{a b r:E}
theorem aJ{x:W}{xs:List W}(ea:ev cl a ρ h=.ok x h1)(er:ev cl r ρ h1=.ok (.tup xs) h2):ev cl (.cons a r) ρ h=.ok (.tup (x::xs)) h2:=by rw[ev,ea,aD,er];rfl
theorem bJ:ev cl .nil ρ h=.ok (.tup []) h:=by rw[ev]
theorem aG{w:W}:ev cl (.cst w) ρ h=.ok w h:=by rw[ev]
theorem fY{ys:List W}(ea:ev cl a ρ h=.ok (.tup ys) h1)(hl:Nat.ble ys.length 1000):ev cl (.lst a) ρ h=.ok (.ref h1.n) (h1.new (.lst ys)):=by rw[ev,ea,aD];show(if Nat.ble ys.length 1000=true then _ else _)=_;rw[if_pos hl]
theorem sJ{ys:List W}(ea:ev cl a ρ h=.ok (.tup ys) h1)(hl:Nat.ble ys.length 1000):ev cl (.tup a) ρ h=.ok (.tup ys) h1:=by rw[ev,ea,aD];show(if Nat.ble ys.length 1000=true then _ else _)=_;rw[if_pos hl]
theorem Cc{x:W}{ws:List W}(ea:ev cl a ρ h=.ok x h1)(e:aV h1 x=aB ws):ev cl (.bi .list (.cons a .nil)) ρ h=.ok (.ref h1.n) (h1.new (.lst ws)):=by rw[ev,aJ ea bJ,aD];show iI [x] h1=_;simp only[iI,e]
theorem uH{ys:List W}{n:Nat}{w:W}(ea:ev cl a ρ h=.ok (.tup ys) h1)(e:cl n ys h1=.ok w h'):ev cl (.call n a) ρ h=.ok w h':=by rw[ev,ea,aD];exact e
theorem qc{x:W}{ws:List W}(ea:ev cl a ρ h=.ok x h1)(e:aV h1 x=aB ws):ev cl (.bi .tuple (.cons a .nil)) ρ h=.ok (.tup ws) h1:=by rw[ev,aJ ea bJ,aD];show vH [x] h1=_;simp only[vH,e,bM]
theorem nu{k:Kd}{t:Tg}{ow:Nat}{ix:List Nat}{x:W}{ys:List W}(ea:ev cl a ρ h=.ok x h1)(el:ig (aY k x) (bH t) (λ_ h=>.ok (.bl true) h) (ev cl b) fuel 0 (inner ow ix ρ) h1 []=.ok ys h2)(hy:ys.length<=1000000) :
 ev cl (.lc k a t ow ix (.cst (.bl true)) b) ρ h=.ok (.ref h2.n) (h2.new (.lst ys)):=by
 rw[ev,ea,aD,yt,el,aD,if_pos (p5 hy)]
theorem eV{k:Kd}{t:Tg}{x:W}{s:S}(ea:ev cl a ρ h=.ok x h1):exs cl (.«for» k a t s) ρ h=eF (aY k x) (bH t) (exs cl s) fuel 0 ρ h1:=by rw[exs,ea,aD]
end
noncomputable def Pv(w:W):Prop:=∀n,W.lt n w=true
theorem Pv.tup{ws:List W}(h:∀w∈ws,Pv w):Pv (.tup ws):=λn=>by
 rw[lD];induction ws with
 |nil=>rfl
 |cons a r ih=>
  rw[iP,h a (eZ ..),ih λw hw=>h w (eY _ hw)];rfl
theorem Pv.int{i:Int}:Pv (.int i):=λ_=>lt_int
theorem Pv.str{i:Str}:Pv (.str i):=λ_=>lt_str
structure gT(F:Nat->Option Fn):Prop where
 f0:F 0=aB wc
 f1:F 1=aB BE
 f6:F 6=aB rK
section
variable{F:Nat->Option Fn}(C:gT F)
include C
theorem WV{k:Nat}{h:VH}{w:W}(hw:Kn h w):run F (k+1) 0 [w] h=.ok (.bl (isInt w)) h:=by
 rw[fD C.f0 rfl];cases w<;>try(simp[wc,exs,ev,isInt,eS];done)
 exact absurd rfl hw;rename_i i;unfold Kn at hw;simp only[cP]at hw;cases g:h.get i with
 |none=>rw[g]at hw;exact absurd rfl hw
 |some o=>cases o<;>first|(simp[wc,exs,ev,isInt,eS,cP,g];done)|(simp[g]at hw)
theorem EU{k:Nat}{h:VH}{w:W}{lo hi:Int}(hw:Kn h w):run F (k+2) 1 [w,.int lo,.int hi] h=.ok (.bl (within w lo hi)) h:=by rw[fD C.f1 rfl];have e:=WV C (k:=k) (h:=⟨h.n,h.n,h.os⟩) (w:=w) (l9.mpr hw);cases w<;>simp[BE,exs,ev,e,isInt,within,eS,bw,ie];rename_i i;by_cases h1:lo<=i<;>simp[h1,eS]
theorem EV{k:Nat}{h:VH}{w:W}{lo hi:Int}(hw:Kn h w):run F (k+1) 6 [w,.int lo,.int hi] h=.ok (.bl (jB w lo hi)) h:=by
 rw[fD C.f6 rfl];cases w<;>try(simp[rK,exs,ev,jB,eS];done)
 rename_i ws;simp[rK,exs,ev,jB,eS,bw,ie,lu,iH,aV];by_cases h1:lo<=ws.length<;>simp[h1,eS];exact absurd rfl hw;rename_i i;unfold Kn at hw;simp only[cP]at hw;cases g:h.get i with
 |none=>rw[g]at hw;exact absurd rfl hw
 |some o=>cases o<;>first|(simp[rK,exs,ev,jB,eS,cP,g];done)|(simp[g]at hw)
end
structure nv(F:Nat->Option Fn):Prop where
 f32:F 32=aB wg
 WW:F 33=aB rL
 WX:F 36=aB wj
 WY:F 41=aB rM
 WZ:F 67=aB wk
 W0:F 68=aB wm
 W2:F 69=aB rN
 W3:F 70=aB rO
 W4:F 71=aB rP
 W5:F 72=aB wo
 W6:F 77=aB rQ
 IT:F 147=aB oV
 IU:F 187=aB l6
noncomputable def W7(h:VH)(p:Nat)(kvs:Kv):Prop:=h.get p=aB (.dm kvs)\/h.get p=aB (.dk kvs)
section
variable{F:Nat->Option Fn}(C:nv F)
include C
theorem mz{k p n:Nat}{h:VH}{kvs:Kv}(g:W7 h p kvs)(hv:∀kv∈kvs,Pv kv.2)(hn:n<1000):run F (k+1) 33 [.int n,.ref p] h=.ok (.tup (bW n kvs)) h:=by
 have look:∀i:Int,ev (run F k) Eg [aB (.int i),aB (.ref p)] ⟨h.n,h.n,h.os⟩=.ok ((aQ kvs (.inl i)).getD (.str cQ)) ⟨h.n,h.n,h.os⟩:=λi=>by
  have hk:ly .get ⟨h.n,h.n,h.os⟩ (.ref p)=true:=by rcases g with g|g<;> (have g1:VH.get ⟨h.n,h.n,h.os⟩ p=_:=g)<;>simp only[ly,g1]
  have hm:kR .get (.ref p) [.int i,.str (bB ".")] ⟨h.n,h.n,h.os⟩=.ok ((aQ kvs (.inl i)).getD (.str (bB "."))) ⟨h.n,h.n,h.os⟩:=by rcases g with g|g<;> (have g1:VH.get ⟨h.n,h.n,h.os⟩ p=_:=g)<;>simp only[kR,g1,lg]
  unfold Eg;rw[ev,aE (x:=.ref p) rfl,aD,if_pos hk,aJ (aE (x:=.int i) rfl) (aJ aG bJ),aD];exact hm
 obtain⟨ys,ρ',h',e1,hI⟩:=kU (nx:=aY .bV (.tup [.int n])) (tg:=bH (.one 0)) (e:=ev (run F k) Eg) (n:=n)
  (I:=λi ρ h1 acc=>(∃x,ρ=[x,aB (.ref p)])/\h1=⟨h.n,h.n,h.os⟩/\acc=(List.range i).map λ(i:Nat)=>(aQ kvs (.inl (i:Int))).getD (.str cQ))
  (λi ρ h1 acc hi hI=>by
    obtain⟨⟨x,rfl⟩,rfl,rfl⟩:=hI;refine⟨.int (i:Int),[aB (.int i),aB (.ref p)],_,_,?_,rfl,look i,⟨_,rfl⟩,rfl,?_⟩;rw[i6 (by lia),if_pos hi];rw[C0,iu];rfl)
  (λρ h1 acc hI=>by rw[i6 (by lia),if_neg (gC _)])
  (ρ:=inner 1 [1] [aB (.int n),aB (.ref p)]) (h:=⟨h.n,h.n,h.os⟩) (by lia) ⟨⟨aC,rfl⟩,rfl,rfl⟩
 obtain⟨_,rfl,rfl⟩:=hI;rw[fD C.WW rfl];have eb:exs (run F k) rL.body [aB (.int n),aB (.ref p)] ⟨h.n,h.n,h.os⟩=.ok (.rt (.tup (bW n kvs))) (VH.new ⟨h.n,h.n,h.os⟩ (.lst (bW n kvs))):=by
  refine iX (dR (qc (nu (aJ (aE (x:=.int n) rfl) bJ) e1 ?_) ?_));rw[B7];lia;show(match VH.get _ _ with|some (.lst ws)=>aB ws|_=>aC)=_
  rw[dW]
 show fin h (exs (run F k) rL.body [aB (.int n),aB (.ref p)] ⟨h.n,h.n,h.os⟩)=_;rw[eb];refine eS (bf _) (Pv.tup (λw hw=>?_) _);obtain⟨i,_,rfl⟩:=gB.mp hw;cases q:aQ kvs (.inl (i:Int))with
 |none=>exact Pv.str
 |some v=>
  unfold aQ at q;obtain⟨kv,q1,rfl⟩:=Option.map_eq_some_iff.mp q;exact hv kv (List.mem_of_find?_eq_some q1)
end
noncomputable def ji(kvs:Kv):Prop:=∀kv∈kvs,(∃i,kv.1=.inl i)/\Pv kv.2
theorem ji.put{kvs:Kv}{i:Int}{w:W}(h:ji kvs)(p:Pv w):ji (bA kvs (.inl i) w):=by
 unfold bA;split;intro kv hk;obtain⟨x,hx,rfl⟩:=gB.mp hk;split;exact⟨(h x hx).1,p⟩;exact h x hx;intro kv hk;rcases xx.mp hk with hk|hk
 exact h kv hk;rw[nP.mp hk];exact⟨⟨i,rfl⟩,p⟩
theorem ji.nil:ji []:=λ_ h=>by cases h
theorem ji.v{kvs:Kv}(h:ji kvs):∀kv∈kvs,Pv kv.2:=λkv hk=>(h kv hk).2
theorem W8{kvs:Kv}:ji (iR kvs):=by
 have:∀(kv acc:Kv),ji acc->ji (kv.foldl (λacc x=>match x.1 with
  |.inl i=>bA acc (.inl (i+1)) (.str eK)
  |.inr _=>acc) acc):=by
  intro kv;induction kv with
  |nil=>intro acc h;exact h
  |cons x r ih=>
   intro acc h;rw[kM];refine ih _ ?_;obtain⟨k,w⟩:=x;cases k with|inl i=>exact h.put Pv.str|inr s=>exact h
 exact this kvs [] .nil
theorem W9{kvs:Kv}{i:Int}{w:W}:iR (kvs++[(.inl i,w)])=bA (iR kvs) (.inl (i+1)) (.str eK):=by unfold iR;rw[CV];rfl
section
variable{F:Nat->Option Fn}(C:nv F)
include C
theorem Xa{k p n:Nat}{h:VH}{kvs:Kv}(g:h.get p=aB (.dm kvs))(ok:ji kvs)(hl:kvs.length<=1000)(hn:n<1000) :
 ∃i h',run F (k+2) 36 [.int n,.ref p] h=.ok (.ref i) h'/\h'.get i=aB (.lst [.tup (bW n kvs),.tup (bW n (iR kvs))])/\h.n<=i/\h.n<=h'.n/\(∀j,j<h.n->j≠p->h'.get j=h.get j)/\min h.lo p<=h'.lo:=by
 have g0:VH.get ⟨h.n,h.n,h.os⟩ p=aB (.dm kvs):=g;have hp:p<h.n:=cA g;have eA:=mz C (k:=k) (p:=p) (n:=n) (h:=⟨h.n,h.n,h.os⟩) (.inl g0) ok.v hn;generalize hk1:VH.set ⟨h.n,h.n,h.os⟩ p (.dk kvs)=k1;have g1:k1.get p=aB (.dk kvs):=by rw[<-hk1];exact oY g0
 have n1:k1.n=h.n:=by rw[<-hk1];rfl
 obtain⟨ys,ρ',h',e1,hI⟩:=ET (nx:=aY .keys (.ref p)) (tg:=bH (.one 0)) (c:=λ_ h=>.ok (.bl true) h) (e:=ev (run F (k+1)) (.op .add (.var 0) (.cst (.int (1))))) (v:=ev (run F (k+1)) (.cst (.str eK))) (n:=kvs.length)
  (I:=λi ρ h1 acc=>(∃x,ρ=[x])/\h1=k1/\acc=iR (kvs.take i))
  (λi ρ h1 acc hi hI=>by
    obtain⟨⟨x,rfl⟩,rfl,rfl⟩:=hI;have hx:=cJ hi;obtain⟨⟨j,hj⟩,_⟩:=ok _ (jF hi);refine⟨.int j,[aB (.int j)],true,h1,?_,rfl,rfl,.inl ⟨rfl,.int (j+1),.inl (j+1),.str eK,h1,h1,?_,aG,rfl,?_,⟨_,rfl⟩,rfl,?_⟩⟩;simp only[aY,g1,hx,hj,vJ];exact eu (aE rfl) aG rfl;have:=WI (kv:=kvs.take i);rw[jo]at this;exact yu (by lia);rw[pI,hx];have e5:kvs[i]=(.inl j,kvs[i].2):=by rw[<-hj]
    show _=iR (kvs.take i++[kvs[i]]);rw[e5,W9])
  (λρ h1 acc hI=>by
    obtain⟨_,rfl,rfl⟩:=hI;simp only[aY,g1,iS (bf _),Nat.beq_refl,cC])
  kvs.length 0 fuel [aC] k1 [] (i9 _) (show _<1000000 by lia) ⟨⟨aC,rfl⟩,rfl,rfl⟩
 obtain⟨_,rfl,rfl⟩:=hI;rw[nF]at e1;have eB:=mz C (k:=k) (p:=h'.n) (n:=n) (h:=h'.new (.dm (iR kvs))) (.inl dW) W8.v hn;have Xb:ev (run F (k+1)) (.bi .bC (.cons (.var 1) .nil)) [aB (.int n),aB (.ref p)] ⟨h.n,h.n,h.os⟩=.ok (.ref p) h':=by rw[ev,aJ (aE (x:=.ref p) rfl) bJ,aD];show m5 [.ref p] _=_;simp only[m5,g0,hk1]
 have IV:ev (run F (k+1)) (.dc .keys (.bi .bC (.cons (.var 1) .nil)) (.one 0) 1 [] (.cst (.bl true)) (.op .add (.var 0) (.cst (.int (1)))) (.cst (.str eK))) [aB (.int n),aB (.ref p)] ⟨h.n,h.n,h.os⟩=.ok (.ref h'.n) (h'.new (.dm (iR kvs))):=by rw[ev,Xb,aD,yt];show((jK _ _ _ _ _ fuel 0 [aC] h' []).bind _)=_;rw[e1,aD]
 have eb:exs (run F (k+1)) wj.body [aB (.int n),aB (.ref p)] ⟨h.n,h.n,h.os⟩=.ok (.rt (.ref (h'.n+1))) ((h'.new (.dm (iR kvs))).new (.lst [.tup (bW n kvs),.tup (bW n (iR kvs))])):=
  iX (dR (fY (aJ (nq (aE rfl) (aE rfl) eA) (aJ (nq (aE rfl) IV eB) bJ)) rfl))
 rw[fD C.WX rfl];obtain⟨h2,e2,n2,G,lo2⟩:=N8 (h:=h) (h':=(h'.new (.dm (iR kvs))).new (.lst [.tup (bW n kvs),.tup (bW n (iR kvs))])) (w:=.ref (h'.n+1)) (Cb (by lia));refine⟨h'.n+1,h2,?_,?_,by lia,?_,λj hj hne=>?_,?_⟩;rw[<-e2];exact mD (fin h) eb;rw[G];exact dW;rw[n2];show h.n<=h'.n+1+1;lia;rw[G,iz (show j< (h'.new (.dm (iR kvs))).n by show j<h'.n+1;lia),iz (by lia),<-hk1];exact pR (h:=⟨h.n,h.n,h.os⟩) hp hne;rw[lo2];show _<=min h.lo h'.lo;rw[<-hk1];show _<=min h.lo (if Nat.blt p h.n then p else h.n);rw[if_pos (gX.mpr hp)];exact bf _
end
structure Gm(h h':VH):Prop where
 le:h.n<=h'.n
 lo:min h.lo h.n<=h'.lo
 get:∀j,j<h.n->h'.get j=h.get j
theorem Gm.refl{h:VH}:Gm h h:=⟨bf _,Nat.min_le_left _ _,λ_ _=>rfl⟩
theorem Gm.trans{a b c:VH}(x:Gm a b)(y:Gm b c):Gm a c:=⟨iw x.le y.le,by
 have:=x.lo;have:=y.lo;have:=x.le;lia,λj hj=>by rw[y.get j (dF hj x.le),x.get j hj]⟩
theorem Gm.new{h h':VH}{o:VO}(x:Gm h h'):Gm h (h'.new o):=⟨Nat.le_succ_of_le x.le,x.lo,λj hj=>by rw[iz (dF hj x.le),x.get j hj]⟩
theorem Gm.set{h h':VH}{o:VO}{a:Nat}(x:Gm h h')(ha:h.n<=a)(hb:a<h'.n):Gm h (h'.set a o):=⟨x.le,by
 have:=x.lo;show _<=if Nat.blt a h'.lo then a else h'.lo
 split<;>lia,λj hj=>by rw[pR hb (by lia),x.get j hj]⟩
theorem EW{h h':VH}{w:W}(hw:W.lt h.n w=false)(x:Gm ⟨h.n,h.n,h.os⟩ h'):∃h2,fin h (.ok (.rt w) h')=.ok w h2/\Gm h h2/\∀i,h2.get i=h'.get i:=by obtain⟨h2,e,n2,G,l2⟩:=N8 (h':=h') hw;refine⟨h2,e,⟨by rw[n2];exact x.le,?_,λj hj=>by rw[G,x.get j hj];rfl⟩,G⟩;have:=x.lo;have e2:(⟨h.n,h.n,h.os⟩:VH).lo=h.n:=rfl;have e3:(⟨h.n,h.n,h.os⟩:VH).n=h.n:=rfl;rw[l2];rw[e2,e3]at this;lia
theorem wX{h h':VH}{w:W}(p:Pv w)(x:Gm ⟨h.n,h.n,h.os⟩ h'):fin h (.ok (.rt w) h')=.ok w h:=eS (by
 have:=x.lo;have e2:(⟨h.n,h.n,h.os⟩:VH).lo=h.n:=rfl;have e3:(⟨h.n,h.n,h.os⟩:VH).n=h.n:=rfl;rw[e2,e3]at this;lia) (p _)
theorem uI{a i:Nat}{h:VH}{ws:List W}(g:h.get a=aB (.lst ws)):aY .seq (.ref a) i h=aB ws[i]?:=by simp only[aY,aV,g,jq]
theorem nM{a:Nat}{h:VH}{ws:List W}(g:h.get a=aB (.lst ws)):aV h (.ref a)=aB ws:=by simp only[aV,g]
noncomputable def fW(f:Int×Int×Int):W:=.tup [.int f.1,.int f.2.1,.int f.2.2]
section
variable{F:Nat->Option Fn}(C:nv F)
include C
theorem Xc{k s:Nat}{h:VH}{z:Int}(hs:s<1000):run F (k+1) 41 [.int z,.int s] h=.ok (iW (aH z s)) h:=by
 have half:∀(i:Nat)(y:Int),aH y (i+1)=aH y i++[(y/2 ^ i) % 2]:=by
  intro i;induction i with
  |zero=>intro y;simp[aH]
  |succ n ih=>
   intro y;rw[aH,ih (y/2),aH,pJ];rw[Int.ediv_ediv_of_nonneg (by decide:(0:Int)<=2),show(2:Int)*2 ^ n=2 ^ (n+1) by rw[C7,xE]]
 obtain⟨ρ',h',e1,hI⟩:=pA (nx:=aY .bV (.tup [.int s])) (tg:=bH (.one 3)) (b:=exs (run F k) HQ) (n:=s)
  (I:=λi ρ h1=>(∃x,ρ=[aB (.int (z/2 ^ i)),aB (.int s),aB (.ref h.n),x])/\Gm ⟨h.n,h.n,h.os⟩ h1/\h1.get h.n=aB (.lst ((aH z i).map .int)))
  (λi ρ h1 hi hI=>by
    obtain⟨⟨x,rfl⟩,w1,g1⟩:=hI;have hlt:=cA g1;refine⟨.int (i:Int),[aB (.int (z/2 ^ i)),aB (.int s),aB (.ref h.n),aB (.int (i:Int))],[aB (.int (z/2 ^ (i+1))),aB (.int s),aB (.ref h.n),aB (.int (i:Int))],h1.set h.n (.lst ((aH z (i+1)).map .int)),?_,rfl,?_,⟨_,rfl⟩,w1.set (bf _) hlt,oY g1⟩;rw[i6 (by lia),if_pos hi];unfold HQ;have ea:ev (run F k) (.mt .append (.var 2) (.cons (.op .mod (.var 0) (.cst (.int 2))) .nil)) [aB (.int (z/2 ^ i)),aB (.int s),aB (.ref h.n),aB (.int (i:Int))] h1=.ok .aR (h1.set h.n (.lst ((aH z (i+1)).map .int))):=by
     have hk:ly .append h1 (.ref h.n)=true:=by simp only[ly,g1]
     rw[ev,aE (x:=.ref h.n) rfl,aD,if_pos hk,aJ (eu (r:=.ok (.int ((z/2 ^ i) % 2)) h1) (aE rfl) aG rfl) bJ,aD];show kR .append (.ref h.n) [.int ((z/2 ^ i) % 2)] h1=_;simp only[kR,g1];rw[if_pos (yu (by rw[bD,pe];lia)),half,iu];rfl
    refine(aZ (ρ':=[aB (.int (z/2 ^ i)),aB (.int s),aB (.ref h.n),aB (.int (i:Int))]) (h':=h1.set h.n (.lst ((aH z (i+1)).map .int))) (by rw[exs,ea,aD])).trans ?_;refine(aZ (ρ':=[aB (.int (z/2 ^ (i+1))),aB (.int s),aB (.ref h.n),aB (.int (i:Int))]) (h':=h1.set h.n (.lst ((aH z (i+1)).map .int))) ?_).trans (by rw[exs]);rw[exs];show((ev (run F k) (.cst (.int 2)) _ _).bind _)=_;rw[aG,aD];show Res.ok (Fl.nx [aB (.int (z/2 ^ i/2)),aB (.int s),aB (.ref h.n),aB (.int (i:Int))]) _=_;rw[Int.ediv_ediv_of_nonneg (Int.pow_nonneg (by decide)),show(2:Int) ^ i*2=2 ^ (i+1)from(C7 2 i).symm])
  (λρ h1 hI=>by rw[i6 (by lia),if_neg (gC _)])
  s 0 fuel [aB (.int z),aB (.int s),aB (.ref h.n),aC] (VH.new ⟨h.n,h.n,h.os⟩ (.lst [])) (i9 _) (show _<1000000 by lia)
  ⟨⟨aC,by simp⟩,Gm.refl.new,dW⟩
 obtain⟨⟨x,rfl⟩,w1,g1⟩:=hI;rw[fD C.WY rfl];have eb:exs (run F k) rM.body [aB (.int z),aB (.int s),aC,aC] ⟨h.n,h.n,h.os⟩=.ok (.rt (iW (aH z s))) h':=by refine(aZ (bX (x:=.ref h.n) (h1:=VH.new ⟨h.n,h.n,h.os⟩ (.lst [])) (fY bJ rfl))).trans ?_;refine(aZ ((eV (aJ (aE (x:=.int s) rfl) bJ)).trans e1)).trans ?_;exact iX (dR (qc (aE rfl) (nM g1)))
 show fin h (exs (run F k) rM.body [aB (.int z),aB (.int s),aC,aC] ⟨h.n,h.n,h.os⟩)=_;rw[eb];refine wX (Pv.tup λw hw=>?_) w1;obtain⟨i,_,rfl⟩:=gB.mp hw;exact Pv.int
end
theorem Xd{ws:List W}{k:Nat}(h:k<=ws.length):jc ws (aB (k:Int)) aC=ws.drop k:=by unfold jc;rw[HT.nX,HT.qN,Nat.min_eq_left h];exact List.take_of_length_le (by rw[sR];lia)
noncomputable def EX(cs:List Int)(i:Nat):Int×Int×Int:=(cs.getD (2*i) 0,(cs.getD (2*i) 0+cs.getD (2*i+1) 0)/2,cs.getD (2*i+1) 0)
theorem EY:∀cs:List Int,(fP cs).length=cs.length/2
 |[]=>rfl
 |[_]=>by simp[fP]
 |a::b::r=>by
  rw[fP,dg,EY r,dg,dg];lia
theorem N9:∀(cs:List Int) (i:Nat),i<cs.length/2->(fP cs)[i]?=aB (EX cs i)
 |[],i,h=>by simp at h
 |[_],i,h=>by simp at h
 |a::b::r,0,h=>rfl
 |a::b::r,i+1,h=>by
  have:=N9 r i (by rw[dg,dg]at h;lia);rw[fP,lI,this];unfold EX;rw[show 2* (i+1)=2*i+1+1 by lia];rfl
theorem Xe{cs:List Int}{i:Nat}(h:i<cs.length/2):(fP cs).take (i+1)=(fP cs).take i++[EX cs i]:=by rw[pI,N9 cs i h];rfl
section
variable{F:Nat->Option Fn}(C:nv F)
include C
theorem Xf{k a:Nat}{h:VH}{cs:List Int}(g:h.get a=aB (.lst (cs.map .int)))(hl:cs.length<1000) :
 ∃i h',run F (k+1) 68 [.ref a] h=.ok (.ref i) h'/\h'.get i=aB (.lst ((fP cs).map fW))/\h.n<=i/\Gm h h':=by
 have ha:=cA g;let k0:VH:=⟨h.n,h.n,h.os⟩
 have g0:k0.get a=aB (.lst (cs.map .int)):=g;let k1:=k0.new (.lst (cX (cs.map W.int)));have g1:k1.get a=aB (.lst (cs.map .int)):=by rw[show k1.get a=k0.get a from iz ha];exact g0
 let k2:=k1.new (.lst (cX ((cs.map W.int).drop 1)));have ga:k2.get h.n=aB (.lst (cX (cs.map W.int))):=by rw[show k2.get h.n=k1.get h.n from iz (fU _)];exact dW (h:=k0)
 have gb:k2.get (h.n+1)=aB (.lst (cX ((cs.map W.int).drop 1))):=dW (h:=k1);have nx:∀i:Nat,aY .zip (.tup [.ref h.n,.ref (h.n+1)]) i k2=aB (if i<cs.length/2 then aB (.tup [.int (cs.getD (2*i) 0),.int (cs.getD (2*i+1) 0)])else aC):=λi=>by
  simp only[aY,aV,ga,gb];rw[DM,DM,yP,dO,dO,Nat.add_comm 1];by_cases q:i<cs.length/2;rw[if_pos q,cJ (show 2*i<cs.length by lia),cJ (show 2*i+1<cs.length by lia),i8,i8,cJ (show 2*i<cs.length by lia),cJ (show 2*i+1<cs.length by lia)];rfl;rw[if_neg q,iS (show cs.length<=2*i+1 by lia)];cases(Option.map W.int cs[2*i]?)<;>rfl
 obtain⟨ys,ρ',h',e1,hI⟩:=kU (nx:=aY .zip (.tup [.ref h.n,.ref (h.n+1)])) (tg:=bH (.many [0,1])) (e:=ev (run F k) Nj) (n:=cs.length/2)
  (I:=λi ρ h1 acc=>(∃x y,ρ=[x,y])/\h1=k2/\acc=((fP cs).take i).map fW)
  (λi ρ h1 acc hi hI=>by
    obtain⟨⟨x,y,rfl⟩,rfl,rfl⟩:=hI;refine⟨.tup [.int (cs.getD (2*i) 0),.int (cs.getD (2*i+1) 0)],[aB (.int (cs.getD (2*i) 0)),aB (.int (cs.getD (2*i+1) 0))],fW (EX cs i),_,?_,rfl,?_,⟨_,_,rfl⟩,rfl,?_⟩;rw[nx,if_pos hi];exact Ca (aE rfl) (eu (eu (aE rfl) (aE rfl) rfl) aG rfl) (aE rfl);rw[Xe hi,iu];rfl)
  (λρ h1 acc hI=>by rw[hI.2.1,nx,if_neg (gC _)])
  (ρ:=inner 2 [] [aB (.ref a)]) (h:=k2) (by lia) ⟨⟨aC,aC,rfl⟩,rfl,rfl⟩
 obtain⟨_,rfl,rfl⟩:=hI;rw[<-EY,nF]at e1;have es:∀(e:E)(l:W)(c:Nat)(hh:VH)(q:hh.get a=aB (.lst (cs.map .int))),ev (run F k) e [aB (.ref a)] hh=.ok l hh->rm l=aB c->ev (run F k) (.bi .st2 (.cons (.var 0) (.cons e (.cons (.cst (.int 2)) .nil)))) [aB (.ref a)] hh=.ok (.ref hh.n) (hh.new (.lst (cX ((cs.map W.int).drop c)))):=λe l c hh q e1 e2=>by
  rw[ev,aJ (aE (x:=.ref a) rfl) (aJ e1 (aJ aG bJ)),aD];show m9 [.ref a,l,.int 2] hh=_;simp only[m9,q,e2,cC]
 rw[fD C.W0 rfl];have eb:exs (run F k) wm.body [aB (.ref a)] ⟨h.n,h.n,h.os⟩=.ok (.rt (.ref k2.n)) (k2.new (.lst ((fP cs).map fW))):=by refine iX (dR (nu (aJ (h1:=k1) (es _ .aR 0 k0 g0 aG rfl) (aJ (h1:=k2) (es _ (.int 1) 1 k1 g1 aG rfl) bJ)) e1 ?_));rw[bD,EY];lia
 obtain⟨h2,e2,w2,G⟩:=EW (h:=h) (h':=k2.new (.lst ((fP cs).map fW))) (w:=.ref k2.n) (Cb (show h.n<=h.n+1+1 by lia)) (((Gm.refl.new).new).new);refine⟨k2.n,h2,?_,by rw[G];exact dW,show h.n<=h.n+1+1 by lia,w2⟩;rw[<-e2];exact mD (fin h) eb
theorem Xg{k a f:Nat}{h:VH}{cs:List Int}{aP:List (Int×Int×Int)}(g:h.get a=aB (.lst (cs.map .int)))(gf:h.get f=aB (.lst (aP.map fW)))(hl:cs.length<1000)(hf:aP.length<1000)(hfc:2*aP.length<=cs.length) :
 ∃i h',run F (k+1) 72 [.ref a,.ref f] h=.ok (.ref i) h'/\h'.get i=aB (.lst ((nL cs aP).map .int))/\h.n<=i/\Gm h h':=by
 have ha:=cA g;have hf':=cA gf;let k0:VH:=⟨h.n,h.n,h.os⟩
 have g0:k0.get f=aB (.lst (aP.map fW)):=gf;obtain⟨ys,ρ',h',e1,hI⟩:=kU (nx:=aY .seq (.ref f)) (tg:=bH (.many [0,1,2])) (e:=ev (run F k) Nm) (n:=aP.length)
  (I:=λi ρ h1 acc=>(∃x y z,ρ=[x,y,z])/\h1=k0/\acc=(aP.take i).map λq=>W.int q.2.1)
  (λi ρ h1 acc hi hI=>by
    obtain⟨⟨x,y,z,rfl⟩,rfl,rfl⟩:=hI;have hx:=cJ hi;refine⟨fW aP[i],[aB (.int aP[i].1),aB (.int aP[i].2.1),aB (.int aP[i].2.2)],.int aP[i].2.1,k0,?_,rfl,aE rfl,⟨_,_,_,rfl⟩,rfl,?_⟩;rw[uI g0,dO,hx];rfl;rw[pI,hx,iu];rfl)
  (λρ h1 acc hI=>by rw[hI.2.1,uI g0,iS (by rw[bD];exact bf _)])
  (ρ:=inner 3 [] [aB (.ref a),aB (.ref f)]) (h:=k0) (by lia) ⟨⟨aC,aC,aC,rfl⟩,rfl,rfl⟩
 obtain⟨_,rfl,rfl⟩:=hI;rw[nF]at e1;let k1:=k0.new (.lst (aP.map λq=>W.int q.2.1));have ga:k1.get a=aB (.lst (cs.map .int)):=by rw[show k1.get a=k0.get a from iz ha];exact g
 have Cd:k1.get f=aB (.lst (aP.map fW)):=by rw[show k1.get f=k0.get f from iz hf'];exact g0
 let k2:=k1.new (.lst ((cs.map W.int).drop (2*aP.length)));have IW:ev (run F k) (.slc (.var 0) true (.op .mul (.cst (.int 2)) (.bi .len (.cons (.var 1) .nil))) false (.cst .aR)) [aB (.ref a),aB (.ref f)] k1=.ok (.ref k1.n) k2:=by rw[ev,aE (x:=.ref a) rfl,aD,eu (r:=.ok (.int (2* (aP.length:Int))) k1) aG (dN (aE (x:=.ref f) rfl) (nM Cd)) (by rw[bD];rfl),aD,aG,aD];show kB (.ref a) (aB (2* (aP.length:Int))) aC k1=_;simp only[kB,ga];show Res.ok (W.ref k1.n) (k1.new (.lst (jc (cs.map W.int) (aB (2* (aP.length:Int))) aC)))=_;rw[show(2* (aP.length:Int))=((2*aP.length:Nat):Int) by push_cast;rfl,Xd (by rw[bD];exact hfc)]
 rw[fD C.W5 rfl];have eb:exs (run F k) wo.body [aB (.ref a),aB (.ref f)] ⟨h.n,h.n,h.os⟩=.ok (.rt (.ref k2.n)) (k2.new (.lst ((nL cs aP).map .int))):=by
  refine iX (dR (eu (h1:=k1) (h2:=k2) (x:=.ref h.n) (y:=.ref k1.n) (nu (aE (x:=.ref f) rfl) e1 (by rw[bD];lia)) IW ?_));have g3:k2.get h.n=aB (.lst (aP.map λq=>W.int q.2.1)):=by rw[show k2.get h.n=k1.get h.n from iz (fU _)];exact dW (h:=k0)
  have g4:k2.get k1.n=aB (.lst ((cs.map W.int).drop (2*aP.length))):=dW (h:=k1);have:nL cs aP=(aP.map λq=>q.2.1)++cs.drop (2*aP.length):=rfl;rw[this,iu,List.map_map,List.map_drop];simp only[iV,g3,g4,DO];rw[if_pos (p5 (by rw[bD,sR,bD];lia))];rfl
 obtain⟨h2,e2,w2,G⟩:=EW (h:=h) (h':=k2.new (.lst ((nL cs aP).map .int))) (w:=.ref k2.n) (Cb (show h.n<=h.n+1+1 by lia)) (((Gm.refl.new).new).new);refine⟨k2.n,h2,?_,by rw[G];exact dW,show h.n<=h.n+1+1 by lia,w2⟩;rw[<-e2];exact mD (fin h) eb
end
theorem Oa:∀ls:List Int,bF iZ (ls.map .int)=aB ls|[]=>rfl|x::r=>by simp only[fF,bF,iZ,Oa r]
noncomputable def lE(p:Int×Int×Int->Bool)(kk:Int×Int×Int->Int)(w:W)(aP:List (Int×Int×Int)):Kv:=aP.foldl (λkv x=>if p x=true then bA kv (.inl (kk x)) w else kv) []
theorem Ob{p:Int×Int×Int->Bool}{kk:Int×Int×Int->Int}{w:W}{aP:List (Int×Int×Int)}{x:Int×Int×Int}:lE p kk w (aP++[x])=if p x=true then bA (lE p kk w aP) (.inl (kk x)) w else lE p kk w aP:=by unfold lE;rw[CV];rfl
theorem EZ{p:Int×Int×Int->Bool}{kk:Int×Int×Int->Int}{w:W}(pw:Pv w)(aP:List (Int×Int×Int)):ji (lE p kk w aP)/\(lE p kk w aP).length<=aP.length:=by
 have:∀(l:List (Int×Int×Int))(acc:Kv),ji acc->ji (l.foldl (λkv x=>if p x=true then bA kv (.inl (kk x)) w else kv) acc)/\(l.foldl (λkv x=>if p x=true then bA kv (.inl (kk x)) w else kv) acc).length<=acc.length+l.length:=by
  intro l;induction l with
  |nil=>intro acc h;exact⟨h,bf _⟩
  |cons x r ih=>
   intro acc h;rw[kM,dg];by_cases q:p x=true;rw[if_pos q];obtain⟨h1,h2⟩:=ih _ (h.put (i:=kk x) pw);have:=IB (k:=.inl (kk x)) (w:=w) (kv:=acc);exact⟨h1,iw h2 (by rw[<-Nat.add_assoc,Nat.add_right_comm];exact Nat.add_le_add_right this _)⟩;rw[if_neg q];obtain⟨h1,h2⟩:=ih _ h;exact⟨h1,iw h2 (Nat.add_le_add_left (qt _) _)⟩
 obtain⟨h1,h2⟩:=this aP [] .nil;exact⟨h1,by simpa[lE]using h2⟩
theorem Oc{g:Int}{aP:List (Int×Int×Int)}:o9 g aP=lE (λ_=>true) (λx=>x.2.1) (.tup [.int g,.int 0]) aP:=by unfold o9 lE;simp
theorem Od{s:Int}{aP:List (Int×Int×Int)}:p9 s aP=lE (λx=>decide (x.1<x.2.1-s)) (λx=>x.2.1-s) (.str eK) aP:=by unfold p9 lE;simp
theorem Oe{s:Int}{aP:List (Int×Int×Int)}:uB s aP=lE (λx=>decide (x.2.1+s<x.2.2)) (λx=>x.2.1+s) (.str iY) aP:=by unfold uB lE;simp
theorem Of:∀{b a:Kv},ji a->ji b->ji (yE a b)
 |[],a,h,_=>h
 |x::r,a,h,h2=>by
  obtain⟨⟨i,hi⟩,p⟩:=h2 x eZ;unfold yE;rw[kM,hi];exact Of (h.put p) λy hy=>h2 y (eY _ hy)
theorem Og:∀(r:List Int) (x:Int),dJ x r=sH x r|[],_=>rfl|y::r,x=>by rw[dJ,sH,Og r]
theorem IX{cl:Call}{c e v:E}{f:Nat}{h:VH}{s:Option W}{aP:List (Int×Int×Int)}(g:h.get f=aB (.lst (aP.map fW)))(hl:aP.length<=1000){p:Int×Int×Int->Bool}{kk:Int×Int×Int->Int}{w:W}(pw:Pv w)
 (hc:∀x:Int×Int×Int,ev cl c [aB (.int x.1),aB (.int x.2.1),aB (.int x.2.2),s] h=.ok (.bl (p x)) h)
 (he:∀x:Int×Int×Int,ev cl e [aB (.int x.1),aB (.int x.2.1),aB (.int x.2.2),s] h=.ok (.int (kk x)) h)
 (hv:∀x:Int×Int×Int,ev cl v [aB (.int x.1),aB (.int x.2.1),aB (.int x.2.2),s] h=.ok w h) :
 jK (aY .seq (.ref f)) (bH (.many [0,1,2])) (ev cl c) (ev cl e) (ev cl v) fuel 0 [aC,aC,aC,s] h []=.ok (lE p kk w aP) h:=by
 obtain⟨ys,ρ',h',e1,hI⟩:=ET (nx:=aY .seq (.ref f)) (tg:=bH (.many [0,1,2])) (c:=ev cl c) (e:=ev cl e) (v:=ev cl v) (n:=aP.length)
  (I:=λi ρ h1 acc=>(∃x y z,ρ=[x,y,z,s])/\h1=h/\acc=lE p kk w (aP.take i))
  (λi ρ h1 acc hi hI=>by
    obtain⟨⟨x,y,z,rfl⟩,rfl,rfl⟩:=hI;have hx:=cJ hi;have ht:aP.take (i+1)=aP.take i++[aP[i]]:=by rw[pI,hx];rfl
    refine⟨fW aP[i],[aB (.int aP[i].1),aB (.int aP[i].2.1),aB (.int aP[i].2.2),s],p aP[i],h1,?_,rfl,hc _,?_⟩;rw[uI g,dO,hx];rfl;cases q:p aP[i]with
    |true=>
     refine .inl ⟨rfl,.int (kk aP[i]),.inl (kk aP[i]),w,h1,h1,he _,hv _,rfl,?_,⟨_,_,_,rfl⟩,rfl,?_⟩;have:=(EZ (p:=p) (kk:=kk) pw (aP.take i)).2;rw[jo]at this;exact yu (by lia);rw[ht,Ob,if_pos q]
    |false=>
     refine .inr ⟨rfl,⟨_,_,_,rfl⟩,rfl,?_⟩;rw[ht,Ob,if_neg (by rw[q];exact uW)])
  (λρ h1 acc hI=>by rw[hI.2.1,uI g,iS (by rw[bD];exact bf _)])
  aP.length 0 fuel [aC,aC,aC,s] h [] (i9 _) (show _<1000000 by lia) ⟨⟨aC,aC,aC,rfl⟩,rfl,rfl⟩
 obtain⟨_,rfl,rfl⟩:=hI;rw[nF]at e1;exact e1
theorem Oh{b:Int}{i:Nat}{h:VH}(h0:1<=b)(h1:b<=1000000):aY .mV (.tup [.int 1,.int b]) i h=aB (if i< (b-1).toNat then aB (.int (1+ (i:Int)))else aC):=by
 have hf:(fits 1&&fits b)=true:=by unfold fits;simp;lia
 show(if fits 1&&fits b then aB (if decide ((i:Int)<b-1)then aB (W.int (1+i))else aC)else aC)=_;rw[if_pos hf];by_cases q:i< (b-1).toNat
 rw[if_pos q,jm (by lia)];rfl;rw[if_neg q,jl (by lia)];rfl
section
variable{F:Nat->Option Fn}(C:nv F)
include C
theorem Xh{k f n:Nat}{g:Int}{h:VH}{aP:List (Int×Int×Int)}(gf:h.get f=aB (.lst (aP.map fW)))(hl:aP.length<=400)(hne:aP≠[])(hn:n<1000)(m1:1<=gP aP)(m2:gP aP<=400) :
 ∃i h',run F (k+2) 67 [.int n,.int g,.ref f] h=.ok (.ref i) h'/\h'.get i=aB (.lst ((B4 n g aP).map .tup))/\h.n<=i/\Gm h h':=by
 have hf':=cA gf;let k0:VH:=⟨h.n,h.n,h.os⟩
 have g0:k0.get f=aB (.lst (aP.map fW)):=gf;let k1:=k0.new (.dm (o9 g aP));have pM:Pv (.tup [.int g,.int 0]):=Pv.tup λw hw=>by
  rcases fT.mp hw with rfl|hw;exact Pv.int;rw[nP.mp hw];exact Pv.int
 have e1:ev (run F (k+1)) (.dc .seq (.var 2) (.many [0,1,2]) 3 [1] (.cst (.bl true)) (.var 1) (.tup (.cons (.var 3) (.cons (.cst (.int (0))) .nil)))) [aB (.int n),aB (.int g),aB (.ref f),aC,aC,aC] k0=.ok (.ref h.n) k1:=by rw[ev,aE (x:=.ref f) rfl,aD];show((jK _ _ _ _ _ fuel 0 [aC,aC,aC,aB (.int g)] k0 []).bind _)=_;rw[IX (p:=λ_=>true) (kk:=λx=>x.2.1) (w:=.tup [.int g,.int 0]) g0 (by lia) pM (λx=>aG) (λx=>aE rfl) (λx=>kK (aE rfl) aG),aD,<-Oc]
 have Xi:ji (o9 g aP):=by rw[Oc];exact(EZ pM aP).1
 have r1:=mz C (k:=k) (p:=h.n) (n:=n) (h:=k1) (.inl dW) Xi.v hn;let k2:=k1.new (.lst [.tup (bW n (o9 g aP))]);have w2:Gm k0 k2:=(Gm.refl.new).new;have Oi:k2.get f=aB (.lst (aP.map fW)):=by rw[w2.get f hf'];exact g0
 obtain⟨ys,ρ',h',e3,hI⟩:=kU (nx:=aY .seq (.ref f)) (tg:=bH (.many [0,1,2])) (e:=ev (run F (k+1)) Eh) (n:=aP.length)
  (I:=λi ρ h1 acc=>(∃x y z,ρ=[x,y,z])/\h1=k2/\acc=(aP.take i).map λq=>W.int (gap q))
  (λi ρ h1 acc hi hI=>by
    obtain⟨⟨x,y,z,rfl⟩,rfl,rfl⟩:=hI;have hx:=cJ hi;refine⟨fW aP[i],[aB (.int aP[i].1),aB (.int aP[i].2.1),aB (.int aP[i].2.2)],.int (gap aP[i]),k2,?_,rfl,?_,⟨_,_,_,rfl⟩,rfl,?_⟩;rw[uI Oi,dO,hx];rfl;unfold Eh;rw[ev,aJ (eu (r:=.ok (.int (aP[i].2.1-aP[i].1)) k2) (aE rfl) (aE rfl) rfl) (aJ (eu (r:=.ok (.int (aP[i].2.2-aP[i].2.1)) k2) (aE rfl) (aE rfl) rfl) bJ),aD];rfl;rw[pI,hx,iu];rfl)
  (λρ h1 acc hI=>by rw[hI.2.1,uI Oi,iS (by rw[bD];exact bf _)])
  (ρ:=inner 3 [] [aB (.int n),aB (.int g),aB (.ref f),aB (.ref k1.n),aC,aC]) (h:=k2) (by lia) ⟨⟨aC,aC,aC,rfl⟩,rfl,rfl⟩
 obtain⟨_,rfl,rfl⟩:=hI;rw[nF]at e3;let k3:=k2.new (.lst (aP.map λq=>W.int (gap q)));have g3:k3.get k2.n=aB (.lst (aP.map λq=>W.int (gap q))):=dW;have Xj:ev (run F (k+1)) (.bi .max (.cons (.lc .seq (.var 2) (.many [0,1,2]) 3 [] (.cst (.bl true)) Eh) .nil)) [aB (.int n),aB (.int g),aB (.ref f),aB (.ref k1.n),aC,aC] k2=.ok (.int (gP aP)) k3:=by
  rw[ev,aJ (nu (aE (x:=.ref f) rfl) e3 (by rw[bD];lia)) bJ,aD];show mZ [.ref k2.n] k3=_;obtain⟨x,r,rfl⟩:∃x r,aP=x::r:=by
   cases aP with|nil=>exact absurd rfl hne|cons x r=>exact⟨x,r,rfl⟩
  have:(x::r).map (λq=>W.int (gap q))=(gap x::r.map gap).map W.int:=by simp
  rw[this]at g3;have hm:bF iZ ((gap x::r.map gap).map W.int)=aB (gap x::r.map gap):=Oa _;simp only[mZ,g3,hm];rw[Og];rfl
 have w3:Gm k0 k3:=w2.new;have IY:k3.get k1.n=aB (.lst ([bW n (o9 g aP)].map .tup)):=by rw[show k3.get k1.n=k2.get k1.n from iz (fU _)];exact dW (h:=k1)
 obtain⟨Hy,k4,e4,hI⟩:=pA (nx:=aY .mV (.tup [.int 1,.int (gP aP)])) (tg:=bH (.one 4)) (b:=exs (run F (k+1)) HR) (n:=(gP aP-1).toNat)
  (I:=λi ρ h1=>(∃x y,ρ=[aB (.int n),aB (.int g),aB (.ref f),aB (.ref k1.n),x,y])/\Gm k0 h1/\h1.get k1.n=aB (.lst ((bW n (o9 g aP):: (List.range i).map λi=>B3 n aP i).map .tup)))
  (λi ρ h1 hi hI=>by
    obtain⟨⟨x,y,rfl⟩,w1,g1⟩:=hI;have hlt:=cA g1;have Cd:h1.get f=aB (.lst (aP.map fW)):=by rw[w1.get f hf'];exact g0
    have Oj:=EZ (p:=λx=>decide (x.1<x.2.1- (1+ (i:Int)))) (kk:=λx=>x.2.1- (1+ (i:Int))) (w:=.str eK) Pv.str aP;have Ol:=EZ (p:=λx=>decide (x.2.1+ (1+ (i:Int))<x.2.2)) (kk:=λx=>x.2.1+ (1+ (i:Int))) (w:=.str iY) Pv.str aP;rw[<-Od]at Oj;rw[<-Oe]at Ol;let a1:=h1.new (.dm (p9 (1+ (i:Int)) aP));let a2:=a1.new (.dm (uB (1+ (i:Int)) aP));let a3:=a2.set h1.n (.dm (yE (p9 (1+ (i:Int)) aP) (uB (1+ (i:Int)) aP)));have Xk:a1.get f=aB (.lst (aP.map fW)):=by rw[show a1.get f=h1.get f from iz (cA Cd)];exact Cd
    have d1:exs (run F (k+1)) (.set 5 (.dc .seq (.var 2) (.many [0,1,2]) 3 [4] (.cmp .gt (.op .sub (.var 1) (.var 3)) (.var 0)) (.op .sub (.var 1) (.var 3)) (.cst (.str eK)))) [aB (.int n),aB (.int g),aB (.ref f),aB (.ref k1.n),aB (.int (1+ (i:Int))),y] h1=.ok (.nx [aB (.int n),aB (.int g),aB (.ref f),aB (.ref k1.n),aB (.int (1+ (i:Int))),aB (.ref h1.n)]) a1:=by refine(bX (x:=.ref h1.n) (h1:=a1) ?_);rw[ev,aE (x:=.ref f) rfl,aD];show((jK _ _ _ _ _ fuel 0 [aC,aC,aC,aB (.int (1+ (i:Int)))] h1 []).bind _)=_;rw[IX (p:=λx=>decide (x.1<x.2.1- (1+ (i:Int)))) (kk:=λx=>x.2.1- (1+ (i:Int))) (w:=.str eK) Cd (by lia) Pv.str (λx=>?_) (λx=>eu (aE rfl) (aE rfl) rfl) (λx=>aG),aD,<-Od];rw[ev,eu (r:=.ok (.int (x.2.1- (1+ (i:Int)))) h1) (aE rfl) (aE rfl) rfl,aD,aE (x:=.int x.1) rfl,aD];rfl
    have d2:ev (run F (k+1)) (.mt .update (.var 5) (.cons (.dc .seq (.var 2) (.many [0,1,2]) 3 [4] (.cmp .lt (.op .add (.var 1) (.var 3)) (.var 2)) (.op .add (.var 1) (.var 3)) (.cst (.str iY))) .nil)) [aB (.int n),aB (.int g),aB (.ref f),aB (.ref k1.n),aB (.int (1+ (i:Int))),aB (.ref h1.n)] a1=.ok .aR a3:=by
     have ga:a1.get h1.n=aB (.dm (p9 (1+ (i:Int)) aP)):=dW;have hk:ly .update a1 (.ref h1.n)=true:=by simp only[ly,ga]
     have IV:ev (run F (k+1)) (.dc .seq (.var 2) (.many [0,1,2]) 3 [4] (.cmp .lt (.op .add (.var 1) (.var 3)) (.var 2)) (.op .add (.var 1) (.var 3)) (.cst (.str iY))) [aB (.int n),aB (.int g),aB (.ref f),aB (.ref k1.n),aB (.int (1+ (i:Int))),aB (.ref h1.n)] a1=.ok (.ref a1.n) a2:=by rw[ev,aE (x:=.ref f) rfl,aD];show((jK _ _ _ _ _ fuel 0 [aC,aC,aC,aB (.int (1+ (i:Int)))] a1 []).bind _)=_;rw[IX (p:=λx=>decide (x.2.1+ (1+ (i:Int))<x.2.2)) (kk:=λx=>x.2.1+ (1+ (i:Int))) (w:=.str iY) Xk (by lia) Pv.str (λx=>?_) (λx=>eu (aE rfl) (aE rfl) rfl) (λx=>aG),aD,<-Oe];rw[ev,eu (r:=.ok (.int (x.2.1+ (1+ (i:Int)))) a1) (aE rfl) (aE rfl) rfl,aD,aE (x:=.int x.2.2) rfl,aD];rfl
     rw[ev,aE (x:=.ref h1.n) rfl,aD,if_pos hk,aJ IV bJ,aD];show om h1.n a1.n a2=_;have gx:a2.get h1.n=aB (.dm (p9 (1+ (i:Int)) aP)):=by rw[show a2.get h1.n=a1.get h1.n from iz (fU _)];exact ga
     have gy:a2.get a1.n=aB (.dm (uB (1+ (i:Int)) aP)):=dW;have nb:Nat.beq h1.n a1.n=false:=by rw[<-Bool.not_eq_true,Nat.beq_eq];show ¬h1.n=h1.n+1;lia
     simp only[om,gx,gy,nb];rw[if_neg uW,if_pos (qw.mpr (by lia))];rfl
    have E1:a3.get h1.n=aB (.dm (yE (p9 (1+ (i:Int)) aP) (uB (1+ (i:Int)) aP))):=by refine oY (o0:=.dm (p9 (1+ (i:Int)) aP)) ?_;rw[show a2.get h1.n=a1.get h1.n from iz (fU _)];exact dW
    have r4:=mz C (k:=k) (p:=h1.n) (n:=n) (h:=a3) (.inl E1) (Of Oj.1 Ol.1).v hn;have wa:Gm h1 a3:=((Gm.refl.new).new).set (bf _) (show h1.n<h1.n+1+1 by lia);have IZ:a3.get k1.n=aB (.lst ((bW n (o9 g aP):: (List.range i).map λi=>B3 n aP i).map .tup)):=by rw[wa.get _ hlt];exact g1
    refine⟨.int (1+ (i:Int)),[aB (.int n),aB (.int g),aB (.ref f),aB (.ref k1.n),aB (.int (1+ (i:Int))),y],[aB (.int n),aB (.int g),aB (.ref f),aB (.ref k1.n),aB (.int (1+ (i:Int))),aB (.ref h1.n)],a3.set k1.n (.lst ((bW n (o9 g aP):: (List.range (i+1)).map λi=>B3 n aP i).map .tup)),?_,rfl,?_,⟨_,_,rfl⟩,?_,oY IZ⟩;rw[Oh m1 (by lia),if_pos hi];unfold HR;refine(aZ d1).trans ?_;refine(aZ (ρ':=[aB (.int n),aB (.int g),aB (.ref f),aB (.ref k1.n),aB (.int (1+ (i:Int))),aB (.ref h1.n)]) (h':=a3) (by rw[exs,d2,aD])).trans ?_;refine(aZ (ρ':=[aB (.int n),aB (.int g),aB (.ref f),aB (.ref k1.n),aB (.int (1+ (i:Int))),aB (.ref h1.n)]) (h':=a3.set k1.n (.lst ((bW n (o9 g aP):: (List.range (i+1)).map λi=>B3 n aP i).map .tup))) ?_).trans (by rw[exs]);have hk:ly .append a3 (.ref k1.n)=true:=by simp only[ly,IZ]
    rw[exs,ev,aE (x:=.ref k1.n) rfl,aD,if_pos hk,aJ (nq (aE rfl) (aE rfl) r4) bJ,aD];show((kR .append (.ref k1.n) [.tup (bW n (yE (p9 (1+ (i:Int)) aP) (uB (1+ (i:Int)) aP)))] a3).bind _)=_;simp only[kR,IZ];rw[if_pos (yu (by simp;lia)),aD,C0,iu,<-pJ,iu];rw[show(1:Int)+i=(i:Int)+1 from Int.add_comm _ _];rfl;exact(w1.trans wa).set (show h.n<=h.n+1 from qt _) (dF hlt wa.le))
  (λρ h1 hI=>by rw[Oh m1 (by lia),if_neg (gC _)])
  (gP aP-1).toNat 0 fuel [aB (.int n),aB (.int g),aB (.ref f),aB (.ref k1.n),aC,aC] k3 (i9 _) (show _<1000000 by lia) ⟨⟨_,_,rfl⟩,w3,IY⟩
 obtain⟨⟨x4,x5,rfl⟩,w4,g4⟩:=hI;rw[fD C.WZ rfl];have eb:exs (run F (k+1)) wk.body [aB (.int n),aB (.int g),aB (.ref f),aC,aC,aC] ⟨h.n,h.n,h.os⟩=.ok (.rt (.ref k1.n)) k4:=by refine(aZ (bX (x:=.ref k1.n) (h1:=k2) (fY (aJ (nq (aE rfl) e1 r1) bJ) rfl))).trans ?_;refine(aZ ((eV (aJ aG (aJ Xj bJ))).trans e4)).trans ?_;exact iX (dR (aE rfl))
 obtain⟨h2,e5,w5,G⟩:=EW (h:=h) (h':=k4) (w:=.ref k1.n) (Cb (show h.n<=h.n+1 by lia)) w4;refine⟨k1.n,h2,?_,by rw[G];exact g4,show h.n<=h.n+1 by lia,w5⟩;rw[<-e5];exact mD (fin h) eb
end
theorem Xl{w:W}(h:gu 24 w):Pv w:=λn=>N5 24 _ h
theorem uJ{B:Bd}(b:B.Ok):Pv B.w:=Xl (Wm b)
structure LL{X:Type}(enc:X->W)(h:VH)(rs:List Nat)(ls:List (List X)):Prop where
 len:rs.length=ls.length
 at_:∀(i r:Nat)(l:List X),rs[i]?=aB r->ls[i]?=aB l->h.get r=aB (.lst (l.map enc))
theorem LL.gm{X:Type}{enc:X->W}{h h':VH}{rs:List Nat}{ls:List (List X)}(L:LL enc h rs ls)(g:Gm h h'):LL enc h' rs ls:=⟨L.len,λi r l h1 h2=>by
 have:=L.at_ i r l h1 h2;rw[g.get r (cA this)];exact this⟩
theorem LL.nil{X:Type}{enc:X->W}{h:VH}:LL enc h [] ([]:List (List X)):=⟨rfl,λi r l h1 _=>by cases h1⟩
theorem LL.snoc{X:Type}{enc:X->W}{h:VH}{rs:List Nat}{ls:List (List X)}{r:Nat}{l:List X}(L:LL enc h rs ls)(g:h.get r=aB (.lst (l.map enc))):LL enc h (rs++[r]) (ls++[l]):=⟨by rw[fE,fE,L.len];rfl,λi q m h1 h2=>by
 by_cases hi:i<rs.length;rw[pG hi]at h1;rw[pG (by rw[<-L.len];exact hi)]at h2;exact L.at_ i q m h1 h2;rw[lH (by lia)]at h1;rw[lH (by rw[<-L.len];lia),<-L.len]at h2;cases z:i-rs.length with
 |zero=>
  rw[z]at h1 h2;cases h1;cases h2;exact g
 |succ n=>rw[z]at h1;cases h1⟩
theorem yG{h:VH}{a i:Nat}{rs:List Nat}(g:h.get a=aB (.lst (rs.map .ref))):aY .seq (.ref a) i h=aB ((rs[i]?).map .ref):=by rw[uI g,dO]
noncomputable def uK:Nat->Nat->List (List Int)->Bool
 |0,nr,lanes=>(lanes.all λl=>!l.isEmpty)&&decide (nr<=1000)
 |n+1,nr,lanes=>!(lanes.map fP).flatten.isEmpty&&decide (1<=gP (lanes.map fP).flatten)&&decide (gP (lanes.map fP).flatten<=400)&&decide ((lanes.map fP).flatten.length<=400)
  && (lanes.all λl=>decide (l.length<1000))&&decide (nr<=1000)&&uK n (nr+1+ (gP (lanes.map fP).flatten-1).toNat) (List.zipWith nL lanes (lanes.map fP))
theorem Xm:(yF.all λx=>uK (aU x.1) 0 (mq x.1 x.2))=true:=by decide +kernel
theorem Shape.uK{S P:Nat}(h:Shape S P):uK (aU S) 0 (mq S P)=true:=ic.mp Xm _ (B6 h.s1 h.p1 h.p4 h.sp)
noncomputable def jj(s:Int):Nat->Int->Int->Int|0,_,g=>g|n+1,r,g=>if r<s then jj s n (r*2) (g+1)else g
theorem Om:((List.range 17).all λS=>decide (jj (S:Int) 5 1 0=(aU S:Int))&&decide (S<=2 ^ 5))=true:=by decide +kernel
theorem Oo{cl:Call}{s ff:Int}{h:VH}:∀(n fu:Nat) (r g:Int),s<=r*2 ^ n->n<fu->∃r',dD (ev cl uc) (exs cl Ef) fu [aB (.int s),aB (.int ff),aB (.int g),aB (.int r)] h=.ok (.nx [aB (.int s),aB (.int ff),aB (.int (jj s n r g)),aB (.int r')]) h
 |0,fu+1,r,g,hs,_=>by
  refine⟨r,?_⟩;have ec:ev cl uc [aB (.int s),aB (.int ff),aB (.int g),aB (.int r)] h=.ok (.bl false) h:=by unfold uc;rw[ev,aE (x:=.int r) rfl,aD,aE (x:=.int s) rfl,aD];show Res.ok (W.bl (decide (r<s))) h=_;rw[jl (by simp at hs;lia)]
  simp only[dD,ec,aD,jj]
 |n+1,fu+1,r,g,hs,hf=>by
  by_cases q:r<s;have ec:ev cl uc [aB (.int s),aB (.int ff),aB (.int g),aB (.int r)] h=.ok (.bl true) h:=by unfold uc;rw[ev,aE (x:=.int r) rfl,aD,aE (x:=.int s) rfl,aD];show Res.ok (W.bl (decide (r<s))) h=_;rw[jm q]
  have eb:exs cl Ef [aB (.int s),aB (.int ff),aB (.int g),aB (.int r)] h=.ok (.nx [aB (.int s),aB (.int ff),aB (.int (g+1)),aB (.int (r*2))]) h:=by unfold Ef;refine(aZ (ρ':=[aB (.int s),aB (.int ff),aB (.int (g+1)),aB (.int r)]) (h':=h) ?_).trans ?_;rw[exs];rfl;refine(aZ (ρ':=[aB (.int s),aB (.int ff),aB (.int (g+1)),aB (.int (r*2))]) (h':=h) ?_).trans (by rw[exs]);rw[exs];show(((Res.of ((if jX r||jX 2 then aB (r*2)else aC).map W.int) h)).bind _)=_;rw[if_pos (by rw[show jX 2=true from by decide,Bool.or_true])];rfl
  obtain⟨r',e⟩:=Oo (cl:=cl) (s:=s) (ff:=ff) (h:=h) n fu (r*2) (g+1) (by rw[Int.mul_assoc,show(2:Int)*2 ^ n=2 ^ (n+1) by rw[C7,xE]];exact hs) (by lia);refine⟨r',?_⟩;simp only[dD,ec,aD,eb,e,jj,if_pos q];refine⟨r,?_⟩;have ec:ev cl uc [aB (.int s),aB (.int ff),aB (.int g),aB (.int r)] h=.ok (.bl false) h:=by unfold uc;rw[ev,aE (x:=.int r) rfl,aD,aE (x:=.int s) rfl,aD];show Res.ok (W.bl (decide (r<s))) h=_;rw[jl q]
  simp only[dD,ec,aD,jj,if_neg q]
theorem Xn{F:Nat->Option Fn}(A:gT F)(C:nv F){k S:Nat}{h:VH}(h1:1<=S)(h2:S<=16):run F (k+3) 32 [.int S,.int 1] h=.ok (.int (aU S:Int)) h:=by
 rw[fD C.f32 rfl];have e1:=EU A (k:=k) (h:=⟨h.n,h.n,h.os⟩) (w:=.int S) (lo:=1) (hi:=1000000000) (by simp[Kn,cP]);have e2:=EU A (k:=k) (h:=⟨h.n,h.n,h.os⟩) (w:=.int 1) (lo:=1) (hi:=4) (by simp[Kn,cP]);have w1:within (.int S) 1 1000000000=true:=by simp[within];lia
 have w2:within (.int 1) 1 4=true:=by decide
 rw[w1]at e1;rw[w2]at e2;have hq:=ic.mp Om S (mF.mpr (by lia));rw[bQ,gz,gz]at hq;obtain⟨r',e3⟩:=Oo (cl:=run F (k+2)) (s:=S) (ff:=1) (h:=⟨h.n,h.n,h.os⟩) 5 fuel 1 0 (by lia) (by decide);rw[hq.1]at e3;simp[wg,exs,ev,e1,e2,e3,eS]
theorem Oq{nx:Nat->VH->Option (Option W)}{e:FE}{h:VH}{ws:List W}{x:W}{tl:En}{f:W->W}(hx:∀i,nx i h=aB ws[i]?)(he:∀w∈ws,e (aB x::aB w::tl) h=.ok (f w) h) :
 ∀(fu i:Nat)(b:Option W)(acc:List W),i<=ws.length->ws.length<fu+i->∃b',jx nx (bH (.one 1)) (λ_ h=>.ok (.bl true) h) e fu i (aB x::b::tl) h acc=.ok (aB x::b'::tl,((ws.drop i).map f).reverse++acc) h
 |0,i,b,acc,hi,hl=>by lia
 |fu+1,i,b,acc,hi,hl=>by
  cases q:ws[i]? with
  |none=>
   rw[CQ (pH.mp q)];exact⟨b,by simp only[jx,hx,q];rfl⟩
  |some w=>
   obtain⟨hi,ee⟩:=iB.mp q;obtain⟨b',ih⟩:=Oq hx he fu (i+1) (aB w) (f w::acc) hi (by lia);refine⟨b',?_⟩;simp only[jx,hx,q,bH,nQ,nD,aD,he w (nC q),ih];rw[CN hi,ee];simp
theorem Ot{nx:Nat->VH->Option (Option W)}{kP:En->VH->List W->Res (En×List W)}{h:VH}{ws:List W}{tl:En}{g:W->List W}(hx:∀i,nx i h=aB ws[i]?)
 (hi:∀x∈ws,∀(b:Option W)(acc:List W),∃b',kP (aB x::b::tl) h acc=.ok (aB x::b'::tl,(g x).reverse++acc) h) :
 ∀(fu i:Nat)(a b:Option W)(acc:List W),i<=ws.length->ws.length<fu+i->kT nx (bH (.one 0)) (λ_ h=>.ok (.bl true) h) kP fu i (a::b::tl) h acc=.ok (acc.reverse++(ws.drop i).flatMap g) h
 |0,i,a,b,acc,hi,hl=>by lia
 |fu+1,i,a,b,acc,hi',hl=>by
  cases q:ws[i]? with
  |none=>
   rw[CQ (pH.mp q)];simp only[kT,hx,q];simp
  |some w=>
   obtain⟨hil,ee⟩:=iB.mp q;obtain⟨b',e1⟩:=hi w (nC q) b acc;simp only[kT,hx,q,bH,nD,aD,e1];rw[Ot hx hi fu (i+1) (aB w) b' ((g w).reverse++acc) hil (by lia),CN hil,ee];simp
theorem I0{n:Nat}(h:n<=100000):jX (n:Int)=true:=by unfold jX;simp;lia
theorem lF{h:VH}{i:Int}{j:Int}(s:jX i=true\/jX j):iV .mul (.int i) (.int j) h=.ok (.int (i*j)) h:=by show Res.of ((if jX i||jX j then aB (i*j)else aC).map W.int) h=_;rw[if_pos (by rcases s with s|s<;>rw[s]<;>simp)];rfl
theorem LL.take_snoc{X:Type}{enc:X->W}{h:VH}{rs:List Nat}{ls:List (List X)}{r i:Nat}{l:List X}(L:LL enc h rs (ls.take i))(hl:ls[i]?=aB l)(g:h.get r=aB (.lst (l.map enc))):LL enc h (rs++[r]) (ls.take (i+1)):=by rw[pI,hl];exact L.snoc g
section
variable{F:Nat->Option Fn}(C:nv F)
include C
omit C in
theorem Xo{cl:Call}{S P:Nat}{h:VH}{r2 r3 r4 r5 r6 r7 r8:Option W}(hS:S<=16)(hP:P<=4) :
 ∃a h' rs,ev cl (.lc .bV (.cons (.var 1) .nil) (.one 0) 1 [0] (.cst (.bl true)) HS) [aB (.int S),aB (.int P),r2,r3,r4,r5,r6,r7,r8] h=.ok (.ref a) h'/\h.n<=a/\Gm h h'/\h'.get a=aB (.lst (rs.map .ref))/\LL W.int h' rs (mq S P):=by
 have hlen:(mq S P).length=P:=by unfold mq;rw[bD,uS]
 obtain⟨ys,ρ',h',e1,hI⟩:=kU (nx:=aY .bV (.tup [.int P])) (tg:=bH (.one 0)) (e:=ev cl HS) (n:=P)
  (I:=λi ρ h1 acc=>(∃x,ρ=[x,aB (.int S)])/\Gm h h1/\∃rs,acc=rs.map W.ref/\LL W.int h1 rs ((mq S P).take i))
  (λi ρ h1 acc hi hI=>by
    obtain⟨⟨x,rfl⟩,w1,rs,rfl,L⟩:=hI;obtain⟨ys,pB,h2,e2,lB⟩:=kU (nx:=aY .bV (.tup [.int S])) (tg:=bH (.one 0)) (e:=ev cl Nn) (n:=S)
     (I:=λj ρ h2 acc=>(∃x,ρ=[x,aB (.int (i:Int)),aB (.int S)])/\h2=h1/\acc=((List.range j).map λ(s:Nat)=>(2* ((i:Int)*S+s)+1)).map W.int)
     (λj ρ h2 acc hj hI=>by
       obtain⟨⟨x,rfl⟩,rfl,rfl⟩:=hI;refine⟨.int (j:Int),[aB (.int (j:Int)),aB (.int (i:Int)),aB (.int S)],.int (2* ((i:Int)*S+j)+1),h2,?_,rfl,?_,⟨_,rfl⟩,rfl,?_⟩;rw[i6 (by lia),if_pos hj];exact eu (eu aG (eu (eu (aE rfl) (aE rfl) (lF (.inl (I0 (by lia))))) (aE rfl) rfl) (lF (.inl (by decide)))) aG rfl;rw[C0,iu,iu];rfl)
     (λρ h2 acc hI=>by rw[i6 (by lia),if_neg (gC _)])
     (ρ:=inner 1 [0,1] [aB (.int (i:Int)),aB (.int S)]) (h:=h1) (by lia) ⟨⟨aC,rfl⟩,rfl,rfl⟩
    obtain⟨_,rfl,rfl⟩:=lB;refine⟨.int (i:Int),[aB (.int (i:Int)),aB (.int S)],.ref h2.n,_,?_,rfl,nu (aJ (aE rfl) bJ) e2 (by simp;lia),⟨_,rfl⟩,w1.new,rs++[h2.n],by rw[iu];rfl,?_⟩;rw[i6 (by lia),if_pos hi];refine(L.gm Gm.refl.new).take_snoc (l:=(List.range S).map λ(s:Nat)=>2* ((i:Int)*S+s)+1) ?_ dW;unfold mq;rw[dO,uR hi];rfl)
  (λρ h1 acc hI=>by rw[i6 (by lia),if_neg (gC _)])
  (ρ:=inner 1 [0] [aB (.int S),aB (.int P),r2,r3,r4,r5,r6,r7,r8]) (h:=h) (by lia) ⟨⟨aC,rfl⟩,.refl,[],rfl,LL.nil⟩
 obtain⟨_,w1,rs,rfl,L⟩:=hI;rw[List.take_of_length_le (Nat.le_of_eq hlen)]at L;have hl2:=L.len;exact⟨h'.n,_,rs,nu (aJ (aE rfl) bJ) e1 (by rw[bD];lia),w1.le,w1.new,dW,L.gm Gm.refl.new⟩
theorem Xp{k a:Nat}{h:VH}{rs:List Nat}{lanes:List (List Int)}{ρ:En}(ga:h.get a=aB (.lst (rs.map .ref)))(L:LL W.int h rs lanes)(hl:lanes.length<=4)(hs:∀l∈lanes,l.length<1000)(nk:ρ[4]?=aB (aB (.ref a))) :
 ∃b h' fs,ev (run F (k+1)) (.lc .seq (.var 4) (.one 0) 1 [] (.cst (.bl true)) HU) ρ h=.ok (.ref b) h'/\h.n<=b/\Gm h h'/\h'.get b=aB (.lst (fs.map .ref))/\LL fW h' fs (lanes.map fP):=by
 have hlen:=L.len;obtain⟨ys,ρ',h',e1,hI⟩:=kU (nx:=aY .seq (.ref a)) (tg:=bH (.one 0)) (e:=ev (run F (k+1)) HU) (n:=lanes.length)
  (I:=λi ρ h1 acc=>(∃x,ρ=[x])/\Gm h h1/\∃fs,acc=fs.map W.ref/\LL fW h1 fs ((lanes.map fP).take i))
  (λi ρ h1 acc hi hI=>by
    obtain⟨⟨x,rfl⟩,w1,fs,rfl,Lf⟩:=hI;have hr:=cJ (show i<rs.length by lia);have hx:=cJ hi;have gr:=L.at_ i _ _ hr hx;have Ja:h1.get rs[i]=aB (.lst (lanes[i].map .int)):=by rw[w1.get _ (cA gr)];exact gr
    obtain⟨j,h2,e2,g2,_,w2⟩:=Xf C (k:=k) Ja (hs _ (jF hi));refine⟨.ref rs[i],[aB (.ref rs[i])],.ref j,h2,?_,rfl,uF (aE rfl) e2,⟨_,rfl⟩,w1.trans w2,fs++[j],by rw[iu];rfl,?_⟩;rw[yG (by rw[w1.get _ (cA ga)];exact ga),hr];rfl;exact(Lf.gm w2).take_snoc (by rw[dO,hx];rfl) g2)
  (λρ h1 acc hI=>by rw[yG (by rw[hI.2.1.get _ (cA ga)];exact ga),iS (by lia)];rfl)
  (ρ:=inner 1 [] ρ) (h:=h) (by lia) ⟨⟨aC,rfl⟩,.refl,[],rfl,LL.nil⟩
 obtain⟨_,w1,fs,rfl,Lf⟩:=hI;rw[show(lanes.map fP).take lanes.length=lanes.map fP by rw[<-bD (f:=fP),nF]]at Lf;have hl2:=Lf.len;rw[bD]at hl2;exact⟨h'.n,_,fs,nu (aE nk) e1 (by rw[bD];lia),w1.le,w1.new,dW,Lf.gm Gm.refl.new⟩
omit C in
theorem Xq{cl:Call}{b:Nat}{h:VH}{fs:List Nat}{aP:List (List (Int×Int×Int))}{ρ:En}(gb:h.get b=aB (.lst (fs.map .ref)))(L:LL fW h fs aP)(hl:aP.length<=4)(hs:aP.flatten.length<=400)(nk:ρ[7]?=aB (aB (.ref b))) :
 ev cl (.xX .seq (.var 7) (.one 0) 2 [] (.cst (.bl true)) .seq wu (.one 1) (.cst (.bl true)) yl) ρ h=.ok (.ref h.n) (h.new (.lst (aP.flatten.map fW))):=by
 have hlen:=L.len;have hg:∀i,(hi:i<fs.length)->aV h (.ref fs[i])=aB ((aP[i]'(by lia)).map fW):=λi hi=>nM (L.at_ i _ _ (cJ hi) (cJ (by lia)));have hin:∀x∈fs.map W.ref,∀(bb:Option W)(acc:List W),∃b',(λρ h acc=>(ev cl wu ρ h).bind λy h=>jx (aY .seq y) (bH (.one 1)) (λ_ h=>.ok (.bl true) h) (ev cl yl) fuel 0 ρ h acc) (aB x::bb :: []) h acc=.ok (aB x::b' :: [],((aV h x).getD []).reverse++acc) h:=λx hx bb acc=>by
  obtain⟨r,hr,rfl⟩:=gB.mp hx;obtain⟨i,hi,rfl⟩:=List.getElem_of_mem hr;have e:=hg i hi;have hlt:((aP[i]'(by lia)).map fW).length<1000000:=by have:(aP[i]'(by lia)).length<=aP.flatten.length:=(List.sublist_flatten_of_mem (jF (by lia))).length_le;rw[bD];lia
  obtain⟨b',e2⟩:=Oq (nx:=aY .seq (.ref fs[i])) (e:=ev cl yl) (h:=h) (ws:=(aP[i]'(by lia)).map fW) (x:=.ref fs[i]) (tl:=[]) (f:=id) (λj=>by simp only[aY,e,jq]) (λw hw=>aE rfl) fuel 0 bb acc (lJ _) hlt;refine⟨b',?_⟩;show((ev cl wu [aB (.ref fs[i]),bb] h).bind _)=_;rw[show ev cl wu [aB (.ref fs[i]),bb] h=.ok (.ref fs[i]) h from aE rfl,aD,e2,e];simp
 have eo:=Ot (kP:=λρ h acc=>(ev cl wu ρ h).bind λy h=>jx (aY .seq y) (bH (.one 1)) (λ_ h=>.ok (.bl true) h) (ev cl yl) fuel 0 ρ h acc) (nx:=aY .seq (.ref b)) (tl:=[]) (g:=λx=>(aV h x).getD []) (ws:=fs.map W.ref) (h:=h) (λi=>uI gb) hin fuel 0 aC aC [] (lJ _) (by rw[bD];show _<1000000;lia);have Ce:∀(fs:List Nat)(aP:List (List (Int×Int×Int))),LL fW h fs aP->(fs.map W.ref).flatMap (λx=>(aV h x).getD [])=aP.flatten.map fW:=by
  intro fs;induction fs with
  |nil=>
   intro aP L;have:=L.len;cases aP with|nil=>rfl|cons x r=>simp at this
  |cons x r ih=>
   intro aP L;cases aP with
   |nil=>have:=L.len;simp at this
   |cons y s=>
    have:=L.at_ 0 x y rfl rfl;rw[fF,List.flatMap_cons,sQ,iu,nM this,ih s ⟨by have:=L.len;simpa using this,λi r l h1 h2=>L.at_ (i+1) r l (by simpa using h1) (by simpa using h2)⟩];rfl
 rw[List.drop_zero,List.reverse_nil,yS,Ce fs aP L]at eo;rw[ev,aE nk,aD,yt];show((kT (aY .seq (.ref b)) (bH (.one 0)) (λ_ h=>.ok (.bl true) h) (λρ h acc=>(ev cl wu ρ h).bind λy h=>jx (aY .seq y) (bH (.one 1)) (λ_ h=>.ok (.bl true) h) (ev cl yl) fuel 0 ρ h acc) fuel 0 [aC,aC] h []).bind _)=_;rw[eo,aD,if_pos (p5 (by rw[bD];lia))]
theorem Xr{k a b:Nat}{h:VH}{rs fs:List Nat}{lanes:List (List Int)}{aP:List (List (Int×Int×Int))}{ρ:En}(ga:h.get a=aB (.lst (rs.map .ref)))(gb:h.get b=aB (.lst (fs.map .ref)))(L:LL W.int h rs lanes)(Lf:LL fW h fs aP)(hl:lanes.length<=4)(hlf:aP.length=lanes.length)(hs:∀l∈lanes,l.length<1000)(hf:∀i (h1:i<lanes.length),2* (aP[i]'(by lia)).length<=lanes[i].length)(nk:ρ[4]?=aB (aB (.ref a)))(Jb:ρ[7]?=aB (aB (.ref b))) :
 ∃c h' ss,ev (run F (k+1)) (.lc .zip (.cons (.var 4) (.cons (.var 7) .nil)) (.many [0,1]) 2 [] (.cst (.bl true)) HV) ρ h=.ok (.ref c) h'/\h.n<=c/\Gm h h'/\h'.get c=aB (.lst (ss.map .ref))/\LL W.int h' ss (List.zipWith nL lanes aP):=by
 have hlen:=L.len;have hlen2:=Lf.len;have hz:(List.zipWith nL lanes aP).length=lanes.length:=by rw[List.length_zipWith];lia
 have nx:∀(i:Nat)(h1:VH),Gm h h1->aY .zip (.tup [.ref a,.ref b]) i h1=aB (match rs[i]?,fs[i]? with
  |some x,aB y=>aB (.tup [.ref x,.ref y])
  |_,_=>aC):=λi h1 w1=>by
  have g1:h1.get a=aB (.lst (rs.map .ref)):=by rw[w1.get _ (cA ga)];exact ga
  have g2:h1.get b=aB (.lst (fs.map .ref)):=by rw[w1.get _ (cA gb)];exact gb
  simp only[aY,aV,g1,g2,dO];cases rs[i]?<;>cases fs[i]?<;>rfl
 obtain⟨ys,ρ',h',e1,hI⟩:=kU (nx:=aY .zip (.tup [.ref a,.ref b])) (tg:=bH (.many [0,1])) (e:=ev (run F (k+1)) HV) (n:=lanes.length)
  (I:=λi ρ h1 acc=>(∃x y,ρ=[x,y])/\Gm h h1/\∃ss,acc=ss.map W.ref/\LL W.int h1 ss ((List.zipWith nL lanes aP).take i))
  (λi ρ h1 acc hi hI=>by
    obtain⟨⟨x,y,rfl⟩,w1,ss,rfl,Ls⟩:=hI;have hr:=cJ (show i<rs.length by lia);have hq:=cJ (show i<fs.length by lia);have hx:=cJ hi;have hy:=cJ (show i<aP.length by lia);have gr:=L.at_ i _ _ hr hx;have gq:=Lf.at_ i _ _ hq hy;have Ja:h1.get rs[i]=aB (.lst (lanes[i].map .int)):=by rw[w1.get _ (cA gr)];exact gr
    have Xs:h1.get fs[i]=aB (.lst (aP[i].map fW)):=by rw[w1.get _ (cA gq)];exact gq
    have hs1:=hs _ (jF hi);have hf1:=hf i hi;obtain⟨j,h2,e2,g2,_,w2⟩:=Xg C (k:=k) Ja Xs hs1 (by lia) hf1;refine⟨.tup [.ref rs[i],.ref fs[i]],[aB (.ref rs[i]),aB (.ref fs[i])],.ref j,h2,?_,rfl,nq (aE rfl) (aE rfl) e2,⟨_,_,rfl⟩,w1.trans w2,ss++[j],by rw[iu];rfl,?_⟩;rw[nx i h1 w1,hr,hq];refine(Ls.gm w2).take_snoc ?_ g2;rw[List.getElem?_zipWith,hx,hy])
  (λρ h1 acc hI=>by rw[nx _ h1 hI.2.1,iS (by lia)])
  (ρ:=inner 2 [] ρ) (h:=h) (by lia) ⟨⟨aC,aC,rfl⟩,.refl,[],rfl,LL.nil⟩
 obtain⟨_,w1,ss,rfl,Ls⟩:=hI;rw[show(List.zipWith nL lanes aP).take lanes.length=List.zipWith nL lanes aP by rw[<-hz,nF]]at Ls;have hl2:=Ls.len;exact⟨h'.n,_,ss,nu (aJ (aE nk) (aJ (aE Jb) bJ)) e1 (by rw[bD];lia),w1.le,w1.new,dW,Ls.gm Gm.refl.new⟩
end
structure wY(w G:Nat)(k0:VH)(S P:Nat)(i:Nat)(ρ:En)(h:VH):Prop where
 ex:∃(a r:Nat) (rs:List Nat) (lanes:List (List Int)) (rows:List (List W)) (x6 x7:Option W),
  ρ=[aB (.int S),aB (.int P),aB (.int G),aB (.int w),aB (.ref a),aB (.ref r),x6,x7,aC]/\Gm k0 h/\h.get a=aB (.lst (rs.map .ref))/\LL W.int h rs lanes/\
  h.get r=aB (.lst (rows.map .tup))/\lanes.length=P/\uK (G-i) rows.length lanes=true/\jC w (G-i) i lanes rows=jC w G 0 (mq S P) []
theorem Cf{x:W}{n:Nat}{h:VH}(hn:n<=1000):iV .mul (.tup [x]) (.int n) h=.ok (.tup (bK n x)) h:=by
 have hf:(fits (n:Int)&&Nat.ble ([x].length* ((n:Nat):Int).toNat) big)=true:=by rw[bQ];refine⟨?_,p5 ?_⟩;unfold fits;simp;lia;simp;lia
 show Res.of ((if(fits (n:Int)&&Nat.ble ([x].length* ((n:Nat):Int).toNat) big)=true then aB (bK ((n:Nat):Int).toNat [x]).flatten else aC).map W.tup) h=_;rw[if_pos hf,qx,List.flatten_replicate_singleton];rfl
theorem Ou{w:Nat}{g:Int}{aP:List (Int×Int×Int)}:(B4 w g aP).length=1+ (gP aP-1).toNat:=by unfold B4;rw[dg,bD,uS];lia
section
variable{F:Nat->Option Fn}(A:gT F)(C:nv F)
include C
theorem Xu{k w G S P:Nat}{k0:VH}(hw:w<1000)(hP:P<=4){i:Nat}{ρ:En}{h:VH}(hi:i<G)(I:wY w G k0 S P i ρ h) :
 ∃pB h2,exs (run F (k+2)) BI (ρ.set 6 (aB (.int (i:Int)))) h=.ok (.nx pB) h2/\wY w G k0 S P (i+1) pB h2:=by
 obtain⟨a,r,rs,lanes,rows,x6,x7,rfl,w0,ga,L,gr,hl,ok,hp⟩:=I;rw[show G-i=(G- (i+1))+1 by lia]at ok hp;simp only[uK,bQ,gz,ic,uX,List.isEmpty_eq_false_iff]at ok;obtain⟨⟨⟨⟨⟨⟨o1,o2⟩,o3⟩,o4⟩,o5⟩,o6⟩,o7⟩:=ok;rw[jC]at hp;show ∃pB h2,exs (run F (k+2)) BI [aB (.int S),aB (.int P),aB (.int G),aB (.int w),aB (.ref a),aB (.ref r),aB (.int (i:Int)),x7,aC] h=_/\_;obtain⟨b,h1,fs,e1,hb,w1,gb,Lf⟩:=Xp C (k:=k+1) (ρ:=[aB (.int S),aB (.int P),aB (.int G),aB (.int w),aB (.ref a),aB (.ref r),aB (.int (i:Int)),x7,aC]) ga L (by lia) o5 rfl;have e2:=Xq (cl:=run F (k+2)) (ρ:=[aB (.int S),aB (.int P),aB (.int G),aB (.int w),aB (.ref a),aB (.ref r),aB (.int (i:Int)),aB (.ref b),aC]) gb Lf (by rw[bD];lia) o4 rfl;obtain⟨d,h3,e3,g3,hd,w3⟩:=Xh C (k:=k) (g:=(i:Int)) (h:=h1.new (.lst ((lanes.map fP).flatten.map fW))) (f:=h1.n) dW o4 o1 hw o2 o3;have Ov:Gm h h3:=w1.new.trans w3;have E2:h3.get r=aB (.lst (rows.map .tup)):=by rw[Ov.get _ (cA gr)];exact gr
 let h4:=h3.new (.lst ((B4 w i (lanes.map fP).flatten++rows).map .tup));have Jc:Gm h h4:=Ov.new;have Xv:h4.get a=aB (.lst (rs.map .ref)):=by rw[Jc.get _ (cA ga)];exact ga
 have Ow:Gm h1 h4:=(Gm.refl.new.trans w3).new;have Xw:h4.get b=aB (.lst (fs.map .ref)):=by rw[Ow.get _ (cA gb)];exact gb
 obtain⟨c,h5,ss,e5,hc,w5,gc,Ls⟩:=Xr C (k:=k+1) (ρ:=[aB (.int S),aB (.int P),aB (.int G),aB (.int w),aB (.ref a),aB (.ref h3.n),aB (.int (i:Int)),aB (.ref b),aC]) Xv Xw (L.gm Jc) (Lf.gm Ow) (by lia) (by rw[bD]) o5 (λj hj=>by rw[List.getElem_map,EY];lia) rfl rfl;refine⟨[aB (.int S),aB (.int P),aB (.int G),aB (.int w),aB (.ref c),aB (.ref h3.n),aB (.int (i:Int)),aB (.ref b),aC],h5,?_,⟨c,h3.n,ss,_,_,_,_,rfl,w0.trans (Jc.trans w5),gc,Ls,?_,?_,?_,hp⟩⟩;unfold BI;refine(aZ (bX e1)).trans ?_;refine(aZ (ρ':=[aB (.int S),aB (.int P),aB (.int G),aB (.int w),aB (.ref a),aB (.ref h3.n),aB (.int (i:Int)),aB (.ref b),aC]) (h':=h4) ?_).trans ?_;refine bX (x:=.ref h3.n) (h1:=h4) (eu (nt (aE rfl) (aE rfl) e2 e3) (aE rfl) ?_);simp only[iV,g3,E2,DO];rw[if_pos (p5 (by rw[bD,bD,Ou];lia)),<-iu];exact(aZ (bX e5)).trans (by rw[exs];rfl);rw[w5.get _ (show h3.n<h3.n+1 from fU _)];exact dW;rw[List.length_zipWith,bD];lia;rw[fE,Ou,show 1+ (gP (lanes.map fP).flatten-1).toNat+rows.length=rows.length+1+ (gP (lanes.map fP).flatten-1).toNat by lia];exact o7
include A
theorem Xx{k S P:Nat}{h:VH}(sh:Shape S P):run F (k+5) 77 [.int S,.int P] h=.ok (aM S P).w h:=by
 have iN:=sh.iN;have Xy:=sh.wd;have Xz:=Xn A C (k:=k+1) (h:=⟨h.n,h.n,h.os⟩) sh.s1 iN;obtain⟨a,k1,rs,e4,ha,w1,ga,L⟩:=Xo (cl:=run F (k+4)) (S:=S) (P:=P) (h:=⟨h.n,h.n,h.os⟩) (r2:=aB (.int (aU S:Int))) (r3:=aB (.int (bq S P:Int))) (r4:=aC) (r5:=aC) (r6:=aC) (r7:=aC) (r8:=aC) iN sh.p4;let k2:=k1.new (.lst []);obtain⟨ρ3,k3,e5,I⟩:=pA (nx:=aY .bV (.tup [.int (aU S)])) (tg:=bH (.one 6)) (b:=exs (run F (k+4)) BI) (n:=aU S)
  (I:=wY (bq S P) (aU S) ⟨h.n,h.n,h.os⟩ S P)
  (λi ρ h1 hi hI=>by
    obtain⟨pB,h2,e,lB⟩:=Xu C (k:=k+2) (by lia) sh.p4 hi hI;refine⟨.int (i:Int),_,pB,h2,?_,rfl,e,lB⟩;rw[i6 (by have:=sI (S:=S);lia),if_pos hi])
  (λρ h1 hI=>by rw[i6 (by have:=sI (S:=S);lia),if_neg (gC _)])
  (aU S) 0 fuel [aB (.int S),aB (.int P),aB (.int (aU S:Int)),aB (.int (bq S P:Int)),aB (.ref a),aB (.ref k1.n),aC,aC,aC] k2 (i9 _) (show _<1000000 by have:=sI (S:=S);lia)
  ⟨a,k1.n,rs,mq S P,[],aC,aC,rfl,w1.new,by rw[show k2.get a=k1.get a from iz (cA ga)];exact ga,L.gm Gm.refl.new,dW,by unfold mq;rw[bD,uS],sh.uK,rfl⟩
 obtain⟨a2,r2,Jd,lanes,rows,x6,x7,rfl,w3,E1,L3,E2,hl3,Je,hp3⟩:=I;rw[Nat.sub_self]at Je hp3;simp only[uK,bQ,gz,ic,uX,List.isEmpty_eq_false_iff]at Je;have hR:aT S P=rows:=by unfold aT;rw[<-hp3];rfl
 have hF:aX S P=lanes.map kI:=by unfold aX;rw[<-hp3];rfl
 have hlen:=L3.len;have p4:=sh.p4;obtain⟨ys,ρ',h',e6,hI⟩:=kU (nx:=aY .seq (.ref a2)) (tg:=bH (.one 0)) (e:=ev (run F (k+4)) Np) (n:=lanes.length)
  (I:=λi ρ h1 acc=>(∃x,ρ=[x])/\h1=k3/\acc=((lanes.map kI).take i).map W.int)
  (λi ρ h1 acc hi hI=>by
    obtain⟨⟨x,rfl⟩,rfl,rfl⟩:=hI;have hr:=cJ (show i<Jd.length by lia);have hx:=cJ hi;have gr:=L3.at_ i _ _ hr hx;have hne:=Je.1 _ (jF hi);refine⟨.ref Jd[i],[aB (.ref Jd[i])],.int (kI lanes[i]),h1,?_,rfl,?_,⟨_,rfl⟩,rfl,?_⟩;rw[yG E1,hr];rfl;refine cg (aE rfl) aG ?_;generalize lanes[i]=l at gr hne;obtain⟨x,r,rfl⟩:∃x r,l=x::r:=by
     cases l with|nil=>exact absurd rfl hne|cons x r=>exact⟨x,r,rfl⟩
    simp only[bT,gr];exact lR (j:=0) rfl;rw[pI,dO,hx,iu];rfl)
  (λρ h1 acc hI=>by rw[hI.2.1,yG E1,iS (by lia)];rfl)
  (ρ:=inner 1 [] [aB (.int S),aB (.int P),aB (.int (aU S:Int)),aB (.int (bq S P:Int)),aB (.ref a2),aB (.ref r2),x6,x7,aC]) (h:=k3) (by lia) ⟨⟨aC,rfl⟩,rfl,rfl⟩
 obtain⟨_,rfl,rfl⟩:=hI;rw[<-bD (f:=kI),nF,<-hF]at e6;have Ox:(h'.new (.lst ((aX S P).map W.int))).get r2=aB (.lst (rows.map .tup)):=by rw[iz (cA E2)];exact E2
 rw[<-hR]at Ox;have hbody:exs (run F (k+4)) rQ.body [aB (.int S),aB (.int P),aC,aC,aC,aC,aC,aC,aC] ⟨h.n,h.n,h.os⟩=.ok (.rt (aM S P).w) (h'.new (.lst ((aX S P).map W.int))):=by
  refine(aZ (bX (nq (aE rfl) aG Xz))).trans ?_;refine(aZ (bX (x:=.int (bq S P:Int)) (h1:=⟨h.n,h.n,h.os⟩) (eu (eu (eu aG (aE rfl) (lF (.inl (by decide)))) (aE rfl) (lF (.inr (I0 (by lia))))) aG ?_))).trans ?_;show Res.ok (W.int (2* (S:Int)*P+1)) _=_;unfold bq
  push_cast;rfl;refine(aZ (bX e4)).trans ?_;refine(aZ (bX (x:=.ref k1.n) (h1:=k2) (fY bJ rfl))).trans ?_;refine(aZ ((eV (aJ (aE rfl) bJ)).trans e5)).trans ?_;refine(aZ (bX (x:=.tup ((aX S P).map W.int)) (qc (nu (aE rfl) e6 (by rw[bD,hF,bD];lia)) (nM dW)))).trans ?_;refine iX (dR (uG (aE rfl) (aE rfl) (qc (aE rfl) (nM Ox)) (aE rfl) (eu (sJ (aJ aG bJ) rfl) (aE rfl) ?_)));exact Cf (by lia)
 rw[fD C.W6 rfl];show fin h (exs (run F (k+4)) rQ.body [aB (.int S),aB (.int P),aC,aC,aC,aC,aC,aC,aC] ⟨h.n,h.n,h.os⟩)=_;rw[hbody];exact wX (uJ sh.ok) w3.new
end
noncomputable def cV(x:Int×Int):W:=.tup [.int x.1,.int x.2]
noncomputable def cz(r:List (Int×Int)):W:=.tup (r.map cV)
noncomputable def mW(M:List (List (Int×Int))):W:=.tup (M.map cz)
theorem E3{x:Int×Int}:Pv (cV x):=Pv.tup λw hw=>by
 rcases fT.mp hw with rfl|hw;exact Pv.int;rw[nP.mp hw];exact Pv.int
theorem Cg{h:VH}{ws:List W}:Kn h (.tup ws):=by simp[Kn,cP]
theorem Jf{h:VH}{i:Int}:Kn h (.int i):=by simp[Kn,cP]
theorem Jg:∀n,bF tQ (bK n (W.bl true))=aB (bK n true)|0=>rfl|n+1=>by simp only[qp,bF,tQ,Jg n]
theorem Ci{cl:Call}{ρ:En}{h:VH}{ws:List W}{x:W}{a e:E}{ix:List Nat}{tl:En}(ea:ev cl a ρ h=.ok (.tup ws) h)(hl:ws.length<1000)(hin:inner 1 ix ρ=aC::tl)
 (he:∀w∈ws,ev cl e (aB w::tl) h=.ok (.bl true) h):∃h',ev cl (.bi .all (.cons (.lc .seq a (.one 0) 1 ix (.cst (.bl true)) e) .nil)) ρ h=.ok (.bl true) h'/\Gm h h':=by
 obtain⟨ys,ρ',h',e1,hI⟩:=kU (nx:=aY .seq (.tup ws)) (tg:=bH (.one 0)) (e:=ev cl e) (n:=ws.length)
  (I:=λi ρ h1 acc=>(∃x,ρ=x::tl)/\h1=h/\acc=bK i (W.bl true))
  (λi ρ h1 acc hi hI=>by
    obtain⟨⟨x,rfl⟩,rfl,rfl⟩:=hI;have hx:=cJ hi;refine⟨ws[i],aB ws[i]::tl,.bl true,h1,?_,rfl,he _ (jF hi),⟨_,rfl⟩,rfl,?_⟩;simp only[aY,aV,jq,hx];rw[<-List.replicate_succ'])
  (λρ h1 acc hI=>by simp only[aY,aV,jq,iS (bf _)])
  (ρ:=inner 1 ix ρ) (h:=h) (by lia) ⟨⟨aC,hin⟩,rfl,rfl⟩
 obtain⟨_,rfl,rfl⟩:=hI;refine⟨_,?_,Gm.refl.new (o:=.lst (bK ws.length (W.bl true)))⟩;rw[ev,aJ (nu ea e1 (by rw[qo];lia)) bJ,aD];show kC [.ref h'.n] _=_;have g:(h'.new (.lst (bK ws.length (W.bl true)))).get h'.n=aB (.lst (bK ws.length (W.bl true))):=dW;simp only[kC,g,Jg,jq,bM];have ha:(bK ws.length true).all id=true:=ic.mpr λb hb=>vcs hb;rw[ha]
theorem nN{cl:Call}{ρ:En}{h h1:VH}{a:E}{b:Bool}(ea:ev cl a ρ h=.ok (.bl b) h1):ev cl (.not (.kQ a)) ρ h=.ok (.bl (!b)) h1:=by rw[ev,ev,ea,aD];cases b<;>rfl
section
variable{F:Nat->Option Fn}(A:gT F)(C:nv F)
include A C
theorem XA{k S:Nat}{h:VH}{x:Int×Int}(h1:0<=x.1/\x.1<=99)(h2:0<=x.2/\x.2<S):run F (k+3) 70 [cV x,.int S] h=.ok (.bl true) h:=by
 have e6:=EV A (k:=k+1) (h:=⟨h.n,h.n,h.os⟩) (w:=cV x) (lo:=2) (hi:=2) Cg;have e1:=EU A (k:=k) (h:=⟨h.n,h.n,h.os⟩) (w:=.int x.1) (lo:=0) (hi:=99) Jf;have e2:=EU A (k:=k) (h:=⟨h.n,h.n,h.os⟩) (w:=.int x.2) (lo:=0) (hi:=(S:Int)-1) Jf;rw[show jB (cV x) 2 2=true from rfl]at e6;rw[show within (.int x.1) 0 99=true by simp[within];lia]at e1;rw[show within (.int x.2) 0 ((S:Int)-1)=true by simp[within];lia]at e2;rw[fD C.W3 rfl];have eb:exs (run F (k+2)) rO.body [aB (cV x),aB (.int S),aC,aC] ⟨h.n,h.n,h.os⟩=.ok (.rt (.bl true)) ⟨h.n,h.n,h.os⟩:=by refine(aZ (ρ':=[aB (cV x),aB (.int S),aC,aC]) (h':=⟨h.n,h.n,h.os⟩) ?_).trans ?_;rw[exs,nN (nt (aE rfl) aG aG e6),aD];show exs _ .skip _ _=_;rw[exs];refine(aZ (ρ':=[aB (cV x),aB (.int S),aB (.int x.1),aB (.int x.2)]) (h':=⟨h.n,h.n,h.os⟩) ?_).trans ?_;rw[exs,aE (x:=cV x) rfl,aD];rfl;refine iX (dR ?_);rw[ev,nt (aE rfl) aG aG e1,aD];exact nt (aE rfl) aG (eu (aE rfl) aG rfl) e2
 show fin h (exs (run F (k+2)) rO.body [aB (cV x),aB (.int S),aC,aC] ⟨h.n,h.n,h.os⟩)=_;rw[eb];exact eS (bf _) rfl
theorem XC{k S P:Nat}{h:VH}{r:List (Int×Int)}(hl:r.length=P)(hP:P<=4)(hx:∀x∈r,0<=x.1/\x.1<=99/\0<=x.2/\x.2<S):run F (k+4) 71 [cz r,.int P,.int S] h=.ok (.bl true) h:=by
 have e6:=EV A (k:=k+2) (h:=⟨h.n,h.n,h.os⟩) (w:=cz r) (lo:=P) (hi:=P) Cg;rw[show jB (cz r) P P=true by simp[jB,cz,hl]]at e6;obtain⟨h',e7,w7⟩:=Ci (cl:=run F (k+3)) (ρ:=[aB (cz r),aB (.int P),aB (.int S)]) (h:=⟨h.n,h.n,h.os⟩) (ws:=r.map cV) (x:=.aR) (a:=.var 0) (e:=Nl) (ix:=[2]) (tl:=[aB (.int S)]) (aE rfl) (by rw[bD];lia) rfl (λw hw=>by
  obtain⟨x,hm,rfl⟩:=gB.mp hw;obtain⟨a1,a2,a3,a4⟩:=hx x hm;exact nq (aE rfl) (aE rfl) (XA A C ⟨a1,a2⟩ ⟨a3,a4⟩))
 rw[fD C.W4 rfl];have eb:exs (run F (k+3)) rP.body [aB (cz r),aB (.int P),aB (.int S)] ⟨h.n,h.n,h.os⟩=.ok (.rt (.bl true)) h':=by refine iX (dR ?_);rw[ev,nt (aE rfl) (aE rfl) (aE rfl) e6,aD];exact e7
 show fin h (exs (run F (k+3)) rP.body [aB (cz r),aB (.int P),aB (.int S)] ⟨h.n,h.n,h.os⟩)=_;rw[eb];exact wX (λ_=>rfl) w7
theorem XD{k S P:Nat}{h:VH}{M:List (List (Int×Int))}(sh:Shape S P)(m:uD S P M):run F (k+5) 69 [mW M] h=.ok (.bl true) h:=by
 have iN:=sh.iN;have p4:=sh.p4;have sp:=sh.sp;have s1:=sh.s1;have p1:=sh.p1;obtain⟨r0,M',rfl⟩:∃r M',M=r::M':=by
  cases M with|nil=>have:=m.l;simp at this;lia|cons r M'=>exact⟨r,M',rfl⟩
 have l0:=m.r r0 eZ;have lM:=m.l;have e6:=EV A (k:=k+3) (h:=⟨h.n,h.n,h.os⟩) (w:=mW (r0::M')) (lo:=1) (hi:=16) Cg;have e7:=EV A (k:=k+3) (h:=⟨h.n,h.n,h.os⟩) (w:=cz r0) (lo:=1) (hi:=4) Cg;rw[show jB (mW (r0::M')) 1 16=true by simp[jB,mW];simp at lM;lia]at e6;rw[show jB (cz r0) 1 4=true by simp[jB,cz];lia]at e7;have i0:∀g:VH,bT g (mW (r0::M')) (.int 0)=aB (cz r0):=λg=>IP;obtain⟨h',e8,w8⟩:=Ci (cl:=run F (k+4)) (ρ:=[aB (mW (r0::M')),aB (.int S),aB (.int P)]) (h:=⟨h.n,h.n,h.os⟩) (ws:=(r0::M').map cz) (x:=.aR) (a:=.var 0) (e:=Nk) (ix:=[2,1]) (tl:=[aB (.int P),aB (.int S)]) (aE rfl) (by rw[bD];lia) rfl (λw hw=>by
  obtain⟨x,hm,rfl⟩:=gB.mp hw;exact nt (aE rfl) (aE rfl) (aE rfl) (XC A C (m.r x hm) p4 (m.p x hm)))
 rw[fD C.W2 rfl];have eb:exs (run F (k+4)) rN.body [aB (mW (r0::M')),aC,aC] ⟨h.n,h.n,h.os⟩=.ok (.rt (.bl true)) h':=by
  refine(aZ (ρ':=[aB (mW (r0::M')),aC,aC]) (h':=⟨h.n,h.n,h.os⟩) ?_).trans ?_;rw[exs,wG (x:=false) (y:=false) (nN (nt (aE rfl) aG aG e6)) (nN (nt (cg (aE rfl) aG (i0 _)) aG aG e7)),aD];show exs _ .skip _ _=_;rw[exs];refine(aZ (bX (x:=.int (S:Int)) (dN (ws:=(r0::M').map cz) (aE rfl) rfl |>.trans (by rw[bD,lM])))).trans ?_;refine(aZ (bX (x:=.int (P:Int)) (dN (ws:=r0.map cV) (cg (aE rfl) aG (i0 _)) rfl |>.trans (by rw[bD,l0])))).trans ?_;refine iX (dR ?_);have ec:ev (run F (k+4)) (.cmp .le (.op .mul (.var 1) (.var 2)) (.cst (.int (16)))) [aB (mW (r0::M')),aB (.int S),aB (.int P)] ⟨h.n,h.n,h.os⟩=.ok (.bl true) ⟨h.n,h.n,h.os⟩:=by rw[ev,eu (aE rfl) (aE rfl) (lF (.inl (I0 (by lia)))),aD,aG,aD];show Res.ok (W.bl (decide ((S:Int)* (P:Int)<=16))) _=_;rw[jm (by have:=Int.ofNat_le.mpr sp;rwa [Int.natCast_mul]at this)]
  show ev (run F (k+4)) (.and _ _) [aB (mW (r0::M')),aB (.int S),aB (.int P)] ⟨h.n,h.n,h.os⟩=_;rw[ev,ec,aD];exact e8
 show fin h (exs (run F (k+4)) rN.body [aB (mW (r0::M')),aC,aC] ⟨h.n,h.n,h.os⟩)=_;rw[eb];exact wX (λ_=>rfl) w8
end
theorem XE:BJ=.seq (.set 6 (.idx (.var 5) (.var 3))) (.seq (.ite (.cmp .eq (.var 6) sE) (.seq (.ret (.cst .aR)) .skip) .skip) (.seq wz (.seq (.set 3 (.op .add (.var 3) (.var 4))) .skip))):=rfl
theorem XF{cl:Call}{ρ:En}{h:VH}{x:Str}{d:Int}{i:Nat}(nk:ρ[i]?=aB (aB (.str x)))(e:aQ jP (.inr x)=aB (.int d)):ev cl (.idx rR (.var i)) ρ h=.ok (.int d) (h.new (.dk jP)):=by refine cg WB (aE nk) ?_;unfold bT;simp only[WC,e]
section
variable{cl:Call}{k0 h:VH}{b f:W}{l:Nat}{r:W}{c hd:Int}{ls:List Int}
theorem Jh{d:Int}{x:Str}(e1:(.str x:W)=.str cQ\/(.str x:W)=.str eK\/(.str x:W)=.str iY)(e:aQ jP (.inr x)=aB (.int d)) :
 exs cl wz [aB b,aB (.ref l),aB f,aB (.int c),aB (.int hd),aB r,aB (.str x)] h=.ok (.nx [aB b,aB (.ref l),aB f,aB (.int c),aB (.int d),aB r,aB (.str x)]) (h.new (.dk jP)):=by
 have ed:=XF (cl:=cl) (i:=6) (ρ:=[aB b,aB (.ref l),aB f,aB (.int c),aB (.int hd),aB r,aB (.str x)]) (h:=h) rfl e;have ec:ev cl (.or (.cmp .eq (.var 6) (.cst (.str (bB ".")))) (.or (.cmp .eq (.var 6) (.cst (.str (bB "<")))) (.cmp .eq (.var 6) (.cst (.str (bB ">")))))) [aB b,aB (.ref l),aB f,aB (.int c),aB (.int hd),aB r,aB (.str x)] h=.ok (.bl true) h:=by rcases e1 with e1|e1|e1<;>rw[e1]<;>simp[ev,bw]
 unfold wz;rw[exs,ec,aD];simp only[exs,ed,aD,nQ,nD]
theorem XG:exs cl wz [aB b,aB (.ref l),aB f,aB (.int c),aB (.int hd),aB r,aB (.str sX)] h=.ok (.nx [aB b,aB (.ref l),aB f,aB (.int c),aB (.int hd),aB r,aB (.str sX)]) h:=by simp[wz,exs,ev,bw]
theorem XH{p q:Nat}(hp:p<ls.length)(g:h.get l=aB (.lst (ls.map .int))) :
 exs cl wz [aB b,aB (.ref l),aB f,aB (.int c),aB (.int hd),aB r,aB (.tup [.int p,.int q])] h=.ok (.nx [aB b,aB (.ref l),aB f,aB (.int c),aB (.int (if ls.getD p 0=q then -1 else 1)),aB r,aB (.tup [.int p,.int q])]) (h.set l (.lst ((ls.set p (1-ls.getD p 0)).map .int))):=by
 have e1:=NG hp;have e2:iU (ls.map W.int).length (p:Int)=aB p:=Iu (by rw[bD];exact hp);have i0:fy [W.int p,.int q] 0=aB (.int p):=rfl;have i1:fy [W.int p,.int q] 1=aB (.int q):=rfl;have n1:∀h,cY h (.tup [.int (p:Int),.int (q:Int)]) (.str (bB "."))=aB false:=λh=>yD (by decide +kernel);have n2:∀h,cY h (.tup [.int (p:Int),.int (q:Int)]) (.str (bB "<"))=aB false:=λh=>yD (by decide +kernel);have n3:∀h,cY h (.tup [.int (p:Int),.int (q:Int)]) (.str (bB ">"))=aB false:=λh=>yD (by decide +kernel);have n4:∀h,cY h (.tup [.int (p:Int),.int (q:Int)]) (.str (bB "x"))=aB false:=λh=>yD (by decide +kernel);have s1:exs cl (.set 4 (.op .sub (.cst (.int (1))) (.op .mul (.cst (.int (2))) (.bi .int (.cons (.cmp .eq (.idx (.var 1) (.idx (.var 6) (.cst (.int (0))))) (.idx (.var 6) (.cst (.int (1))))) .nil))))) [aB b,aB (.ref l),aB f,aB (.int c),aB (.int hd),aB r,aB (.tup [.int p,.int q])] h=.ok (.nx [aB b,aB (.ref l),aB f,aB (.int c),aB (.int (if ls.getD p 0=q then -1 else 1)),aB r,aB (.tup [.int p,.int q])]) h:=by
  generalize ls.getD p 0=y at e1 ⊢;have sm:jX 2=true:=by decide
  by_cases z:y=(q:Int)
  simp only[exs,ev,nH,lI,nO,bM,aD,bT,i0,i1,g,e1,bw,uz,z,CH,cC,jq,lu,mY,iV,gH,sm,Bool.true_or,nQ,nD];rfl;simp only[exs,ev,nH,lI,nO,bM,aD,bT,i0,i1,g,e1,bw,uz,z,decide_false,ez,jq,lu,mY,iV,gH,sm,Bool.true_or,nQ,nD];rfl
 generalize hy:(if ls.getD p 0=(q:Int)then(-1:Int)else 1)=dd at s1 ⊢;have s3:exs cl (.put (.var 1) (.idx (.var 6) (.cst (.int (0)))) (.op .sub (.cst (.int (1))) (.idx (.var 1) (.idx (.var 6) (.cst (.int (0))))))) [aB b,aB (.ref l),aB f,aB (.int c),aB (.int dd),aB r,aB (.tup [.int p,.int q])] h=.ok (.nx [aB b,aB (.ref l),aB f,aB (.int c),aB (.int dd),aB r,aB (.tup [.int p,.int q])]) (h.set l (.lst ((ls.set p (1-ls.getD p 0)).map .int))):=by simp only[exs,ev,nH,lI,nO,bM,aD,bT,i0,g,e1,iV,gH,jq,e2,List.map_set]
 have ec:ev cl (.or (.cmp .eq (.var 6) (.cst (.str (bB ".")))) (.or (.cmp .eq (.var 6) (.cst (.str (bB "<")))) (.cmp .eq (.var 6) (.cst (.str (bB ">")))))) [aB b,aB (.ref l),aB f,aB (.int c),aB (.int hd),aB r,aB (.tup [.int p,.int q])] h=.ok (.bl false) h:=by simp[ev,bw,n1,n2,n3]
 have ed:ev cl (.cmp .ne (.var 6) (.cst (.str (bB "x")))) [aB b,aB (.ref l),aB f,aB (.int c),aB (.int hd),aB r,aB (.tup [.int p,.int q])] h=.ok (.bl true) h:=by simp[ev,bw,n4]
 unfold wz;rw[exs,ec,aD];simp only;refine(aZ (ρ':=[aB b,aB (.ref l),aB f,aB (.int c),aB (.int dd),aB r,aB (.tup [.int p,.int q])]) (h':=h.set l (.lst ((ls.set p (1-ls.getD p 0)).map .int))) ?_).trans (by rw[exs]);rw[exs,ed,aD];simp only;rw[aZ s1,aZ s3,exs]
end
theorem XI{cl:Call}{k0 h:VH}{b f:W}{l:Nat}{r:List W}{c wd hd:Int}{ls:List Int}{y:Option W}(ok:(r.length:Int)=wd/\dw wd (ls.length:Int) 0 r)(c0:0<=c)(c1:c<wd)(w0:Gm k0 h)(xT:k0.n<=l)(g:h.get l=aB (.lst (ls.map .int))) :
 (bL (bx r c) hd ls=aC->exs cl BJ [aB b,aB (.ref l),aB f,aB (.int c),aB (.int hd),aB (.tup r),y] h=.ok (.rt .aR) h)/\
 (∀d t l',bL (bx r c) hd ls=aB (d,t,l')->∃h',exs cl BJ [aB b,aB (.ref l),aB f,aB (.int c),aB (.int hd),aB (.tup r),y] h=.ok (.nx [aB b,aB (.ref l),aB f,aB (.int (c+d)),aB (.int d),aB (.tup r),aB (bx r c)]) h'/\Gm k0 h'/\h'.get l=aB (.lst (l'.map .int))):=by
 obtain⟨_,hm⟩:=wI ok c0 c1;have e0:=Iv ok c0 c1;generalize bx r c=w at hm e0 ⊢;have hlt:=cA g;have s1:exs cl (.set 6 (.idx (.var 5) (.var 3))) [aB b,aB (.ref l),aB f,aB (.int c),aB (.int hd),aB (.tup r),y] h=.ok (.nx [aB b,aB (.ref l),aB f,aB (.int c),aB (.int hd),aB (.tup r),aB w]) h:=bX (cg (x:=.tup r) (y:=.int c) (aE rfl) (aE rfl) e0);have no:cY h w (.str sS)=aB false->exs cl (.ite (.cmp .eq (.var 6) sE) (.seq (.ret (.cst .aR)) .skip) .skip) [aB b,aB (.ref l),aB f,aB (.int c),aB (.int hd),aB (.tup r),aB w] h=.ok (.nx [aB b,aB (.ref l),aB f,aB (.int c),aB (.int hd),aB (.tup r),aB w]) h:=by intro e;simp only[exs,ev,nH,lI,nO,bM,aD,bw,e,jq]
 have tl:∀(d:Int)(h':VH),exs cl (.seq (.set 3 (.op .add (.var 3) (.var 4))) .skip) [aB b,aB (.ref l),aB f,aB (.int c),aB (.int d),aB (.tup r),aB w] h'=.ok (.nx [aB b,aB (.ref l),aB f,aB (.int (c+d)),aB (.int d),aB (.tup r),aB w]) h':=λd h'=>
  (aZ (bX (eu (aE rfl) (aE rfl) rfl))).trans (by rw[exs];rfl)
 have gn:∀o,(h.new o).get l=aB (.lst (ls.map .int)):=λo=>by rw[iz hlt];exact g
 rw[XE,aZ s1];rcases yw hm with⟨rfl,h3,h4⟩|⟨rfl,h3⟩|⟨rfl,h3⟩|rfl|rfl|⟨p,q,rfl,h3,h4,h5,h6⟩
 rw[EA];refine⟨(λz=>nomatch z),λd t l' z=>?_⟩;cases z;rw[aZ (no wL),aZ XG,tl];exact⟨h,rfl,w0,g⟩;rw[EB];refine⟨(λz=>nomatch z),λd t l' z=>?_⟩;cases z;rw[aZ (no sD),aZ (Jh (.inr (.inl rfl)) Wz),tl];exact⟨_,rfl,w0.new,gn _⟩;rw[EC];refine⟨(λz=>nomatch z),λd t l' z=>?_⟩;cases z;rw[aZ (no sF),aZ (Jh (.inr (.inr rfl)) WA),tl];exact⟨_,rfl,w0.new,gn _⟩;rw[ED];refine⟨(λz=>nomatch z),λd t l' z=>?_⟩;cases z;rw[aZ (no oZ),aZ (Jh (.inl rfl) Wy),tl];exact⟨_,rfl,w0.new,gn _⟩;rw[EE];refine⟨λ_=>?_,λd t l' z=>nomatch z⟩;refine iX ?_;have ec:ev cl (.cmp .eq (.var 6) sE) [aB b,aB (.ref l),aB f,aB (.int c),aB (.int hd),aB (.tup r),aB (.str sS)] h=.ok (.bl true) h:=by simp only[ev,nH,lI,nO,bM,aD,bw,wN,jq]
 rw[exs,ec,aD];exact iX (dR aG);rw[EF];refine⟨(λz=>nomatch z),λd t l' z=>?_⟩;cases z;rw[aZ (no (yD (by decide +kernel))),aZ (XH (by lia) g),tl];exact⟨_,rfl,w0.set xT hlt,oY g⟩
theorem Oz{cl:Call}{k0:VH}{b f:W}{l:Nat}{wd:Int}(xT:k0.n<=l):∀(rs:List (List W)) (c hd:Int) (h:VH) (ls:List Int) (x y:Option W),uA wd (ls.length:Int) rs->0<=c->c<wd->-1<=hd->hd<=1->eU ls->Gm k0 h->h.get l=aB (.lst (ls.map .int))->(aI rs c hd ls).st=false->
 ∃hd' x' y' h',forL (bH (.one 5)) (exs cl BJ) (rs.map .tup) [aB b,aB (.ref l),aB f,aB (.int c),aB (.int hd),x,y] h=.ok (.nx [aB b,aB (.ref l),aB f,aB (.int (bE c (aI rs c hd ls).cs)),hd',x',y']) h'/\Gm k0 h'/\h'.get l=aB (.lst ((aI rs c hd ls).ls.map .int))
 |[],c,hd,h,ls,x,y,_,_,_,_,_,_,w0,g,_=>⟨aB (.int hd),x,y,h,rfl,w0,g⟩
 |r::rs,c,hd,h,ls,x,y,ok,c0,c1,h1,h2,bi,w0,g,st=>by
  obtain⟨bn,bs⟩:=XI (cl:=cl) (b:=b) (f:=f) (y:=y) (hd:=hd) (ok r eZ) c0 c1 w0 xT g;obtain⟨_,hm⟩:=wI (ok r eZ) c0 c1;cases e:bL (bx r c) hd ls with
  |none=>rw[NR e]at st;cases st
  |some q=>
   obtain⟨d,t,l'⟩:=q;obtain⟨h3,eb,w3,g3⟩:=bs d t l' e;obtain⟨a1,a2,a3,a4,a5,a6,a7⟩:=Io hm c0 c1 h1 h2 bi e;rw[uC e]at st ⊢;obtain⟨hd',x',y',h',ih,w',g'⟩:=Oz (cl:=cl) (b:=b) (f:=f) xT rs (c+d) d h3 l' (aB (.tup r)) (aB (bx r c)) (λr hr=>by rw[a5];exact ok r (eY _ hr)) a3 a4 a1 a2 a6 w3 g3 st;refine⟨hd',x',y',h',?_,w',g'⟩;simp only[fF,forL,bH,nQ,nD,eb,aD,ih,bE]
theorem XJ{F:Nat->Option Fn}(C:nv F){k f:Nat}{h:VH}{B:Bd}{ls:List Int}{c:Int}{cs ts l':List Int}(hr:uA B.wd (ls.length:Int) B.rows)(hn:B.rows.length<1000000)(hf:B.fd[f]?=aB (.int c))(c0:0<=c)(c1:c<B.wd)(bi:eU ls)(e:aI B.rows c 0 ls=⟨cs,ts,l',false⟩) :
 ∃i h',run F (k+1) 147 [B.w,iW ls,.int f] h=.ok (.ref i) h'/\h'.get i=aB (.lst [.int (bE c cs),iW l'])/\Gm h h':=by
 let k1:VH:=VH.new ⟨h.n,h.n,h.os⟩ (.lst (ls.map .int));obtain⟨hd',x',y',h3,e3,w3,g3⟩:=Oz (cl:=run F k) (k0:=⟨h.n,h.n,h.os⟩) (b:=B.w) (f:=.int f) (l:=h.n) (wd:=B.wd) (bf _) B.rows c 0 k1 ls aC aC hr c0 c1 (by decide) (by decide) bi Gm.refl.new dW (by rw[e]);rw[e]at e3 g3;have i3:∀g:VH,bT g B.w (.int 3)=aB (.tup B.fd):=λg=>rfl;have i2:∀g:VH,bT g B.w (.int 2)=aB (.tup (B.rows.map .tup)):=λg=>rfl;have Ji:∀g:VH,bT g (.tup B.fd) (.int f)=aB (.int c):=λg=>lR hf;have eb:exs (run F k) oV.body [aB B.w,aB (iW ls),aB (.int f),aC,aC,aC,aC] ⟨h.n,h.n,h.os⟩=.ok (.rt (.ref h3.n)) (h3.new (.lst [.int (bE c cs),iW l'])):=by refine(aZ (bX (cg (cg (aE rfl) aG (i3 _)) (aE rfl) (Ji _)))).trans ?_;refine(aZ (bX (x:=.ref h.n) (h1:=k1) (Cc (aE (x:=iW ls) rfl) rfl))).trans ?_;refine(aZ (bX aG)).trans ?_;refine(aZ ((eV (cg (aE (x:=B.w) rfl) aG (i2 _))).trans ((Ez (by rw[bD];exact hn)).trans e3))).trans ?_;exact iX (dR (fY (aJ (aE rfl) (aJ (qc (aE rfl) (nM g3)) bJ)) rfl))
 rw[fD C.IT rfl];obtain⟨h2,e2,w2,G⟩:=EW (h:=h) (h':=h3.new (.lst [.int (bE c cs),iW l'])) (w:=.ref h3.n) (Cb (by have:=w3.le;exact this)) w3.new;refine⟨h3.n,h2,?_,by rw[G];exact dW,w2⟩;rw[<-e2];exact mD (fin h) eb
structure St(k0:VH)(D R:Nat)(rs:List Nat):Prop where
 d:k0.n<=D
 r:k0.n<=R
 ro:∀x∈rs,k0.n<=x
 dr:D≠R
 dn:D∉rs
 rn:R∉rs
 nd:rs.Nodup
structure DI(k0:VH)(D R:Nat)(rs:List Nat)(ds:List W)(K:Nat->Kv)(h:VH):Prop where
 gm:Gm k0 h
 d:h.get D=aB (.lst ds)
 r:h.get R=aB (.lst (rs.map .ref))
 k:∀(g r:Nat),rs[g]?=aB r->h.get r=aB (.dm (K g))
section
variable{k0 h:VH}{D R:Nat}{rs:List Nat}{ds:List W}{K:Nat->Kv}
theorem DI.door(s:St k0 D R rs)(I:DI k0 D R rs ds K h)(ds':List W):DI k0 D R rs ds' K (h.set D (.lst ds')):=by have hD:=cA I.d;refine⟨I.gm.set s.d hD,oY I.d,?_,λg r e=>?_⟩;rw[pR hD (fH s.dr)];exact I.r;rw[pR hD (λz=>s.dn (z▸nC e))];exact I.k g r e
theorem DI.put(s:St k0 D R rs)(I:DI k0 D R rs ds K h){g r:Nat}(e:rs[g]?=aB r)(kv:Kv):DI k0 D R rs ds (λj=>if j=g then kv else K j) (h.set r (.dm kv)):=by have hr:=cA (I.k g r e);have hm:=nC e;refine⟨I.gm.set (s.ro r hm) hr,?_,?_,λj q e2=>?_⟩;rw[pR hr (λz=>s.dn (by rw[z];exact hm))];exact I.d;rw[pR hr (λz=>s.rn (by rw[z];exact hm))];exact I.r;by_cases z:j=g;subst z;rw[e]at e2;cases e2;rw[if_pos rfl];exact oY (I.k j r e);rw[if_neg z,pR hr (λy=>z ?_)];exact I.k j q e2;obtain⟨h1,h2⟩:=iB.mp e;obtain⟨h3,h4⟩:=iB.mp e2;exact(List.getElem_inj s.nd).mp (by rw[h4,h2,y])
theorem DI.same(I:DI k0 D R rs ds K h){K':Nat->Kv}(e:∀g,g<rs.length->K g=K' g):DI k0 D R rs ds K' h:=⟨I.gm,I.d,I.r,λg r q=>by rw[<-e g (iB.mp q).1];exact I.k g r q⟩
noncomputable abbrev cR(m p w g rows fd st:W)(x7:Option W)(D:Nat)(x9:Option W)(R:Nat)(jD gU g9 ia jS gv gw i7 fR iA:Option W):En:=
 [aB m,aB p,aB w,aB g,aB rows,aB fd,aB st,x7,aB (.ref D),x9,aB (.ref R),jD,gU,g9,ia,jS,gv,gw,i7,fR,iA]
theorem XM{cl:Call}{m p w gg rows fd:W}{x9 jD gU g9 ia gv gw fR iA:Option W}{G:Nat}{sts:List (List Int)}{e:Ev}{nx:Nat}(s:St k0 D R rs)(I:DI k0 D R rs ds K h)(hrs:rs.length=G)(hbl:e.b.length=G)(htl:e.t.length=G)(hst:sts[nx]?=aB e.t)(hK:∀g,(K g).length<=500)(hG:G<=8) :
 ∃XN Jj h',exs cl (.«for» .lX (.var 18) (.many [9,19]) Ej) (cR m p w gg rows fd (.tup (sts.map iW)) (aB (.int e.c)) D x9 R jD gU g9 ia (aB (.int nx)) gv gw (aB (iW e.b)) fR iA) h=.ok (.nx (cR m p w gg rows fd (.tup (sts.map iW)) (aB (.int e.c)) D XN R jD gU g9 ia (aB (.int nx)) gv gw (aB (iW e.b)) Jj iA)) h'/\DI k0 D R rs ds (λg=>bN g (K g) e) h':=by
 obtain⟨ρ',h',e1,hI⟩:=pA (nx:=aY .lX (iW e.b)) (tg:=bH (.many [9,19])) (b:=exs cl Ej) (n:=G)
  (I:=λi ρ h1=>(∃x9 fR,ρ=cR m p w gg rows fd (.tup (sts.map iW)) (aB (.int e.c)) D x9 R jD gU g9 ia (aB (.int nx)) gv gw (aB (iW e.b)) fR iA)/\DI k0 D R rs ds (λg=>if g<i then bN g (K g) e else K g) h1)
  (λi ρ h1 hi hI=>by
    obtain⟨⟨y9,j5,rfl⟩,I1⟩:=hI;have hb:=cJ (show i<e.b.length by lia);have ht:=cJ (show i<e.t.length by lia);have hr:=cJ (show i<rs.length by lia);have gr:=I1.k i _ hr;rw[if_neg (gC _)]at gr;have db:e.b.getD i 0=e.b[i]:=by rw[i8,hb];rfl
    have dt:e.t.getD i 0=e.t[i]:=by rw[i8,ht];rfl
    let dX:=cR m p w gg rows fd (.tup (sts.map iW)) (aB (.int e.c)) D (aB (.int (i:Int))) R jD gU g9 ia (aB (.int nx)) gv gw (aB (iW e.b)) (aB (.int e.b[i])) iA;have ec:ev cl (.cmp .ne (.var 19) (.idx (.idx (.var 6) (.var 15)) (.var 9))) dX h1=.ok (.bl (!decide (e.b[i]=e.t[i]))) h1:=by
     have q1:ev cl (.idx (.idx (.var 6) (.var 15)) (.var 9)) dX h1=.ok (.int e.t[i]) h1:=by refine cg (cg (z:=iW e.t) (aE (x:=.tup (sts.map iW)) rfl) (aE (x:=.int nx) rfl) ?_) (aE (x:=.int (i:Int)) rfl) ?_;exact lR (by rw[dO,hst];rfl);exact lR (by rw[dO,ht];rfl)
     rw[ev,aE (x:=.int e.b[i]) rfl,aD,q1,aD];simp only[bw,uz,jq,bM]
    refine⟨.tup [.int (i:Int),.int e.b[i]],dX,dX,if e.b[i]=e.t[i]then h1 else h1.set rs[i] (.dm (bN i (K i) e)),?_,rfl,?_,⟨_,_,rfl⟩,?_⟩;show aB (((e.b.map W.int)[i]?).map λw=>W.tup [.int i,w])=_;rw[dO,hb];rfl;unfold Ej;by_cases q:e.b[i]=e.t[i];rw[if_pos q];rw[jm q]at ec;refine(aZ (ρ':=dX) (h':=h1) ?_).trans (by rw[exs]);rw[exs,ec,aD];show exs cl .skip dX h1=_;rw[exs];rw[if_neg q];rw[jl q]at ec;refine(aZ (ρ':=dX) (h':=h1.set rs[i] (.dm (bN i (K i) e))) ?_).trans (by rw[exs]);rw[exs,ec,aD];show exs cl (.seq (.put (.idx (.var 10) (.var 9)) (.var 7) (.tup (.cons (.var 9) (.cons (.op .sub (.cst (.int (1))) (.var 19)) .nil)))) .skip) dX h1=_;refine(aZ (ρ':=dX) (h':=h1.set rs[i] (.dm (bN i (K i) e))) ?_).trans (by rw[exs]);have Jk:ev cl (.tup (.cons (.var 9) (.cons (.op .sub (.cst (.int (1))) (.var 19)) .nil))) dX h1=.ok (.tup [.int (i:Int),.int (1-e.b[i])]) h1:=kK (aE rfl) (eu aG (aE rfl) rfl);have XO:ev cl (.idx (.var 10) (.var 9)) dX h1=.ok (.ref rs[i]) h1:=by refine cg (aE (x:=.ref R) rfl) (aE (x:=.int (i:Int)) rfl) ?_;simp only[bT,I1.r];exact lR (by rw[dO,hr];rfl)
    rw[exs,Jk,aD,XO,aD,aE (x:=.int e.c) rfl,aD];simp only[gr,oq];rw[if_pos (yu (by have:=hK i;lia))];congr 2;unfold bN;rw[db,dt,if_neg q];by_cases q:e.b[i]=e.t[i];rw[if_pos q];refine I1.same λg hg=>?_;by_cases z:g<i;rw[if_pos z,if_pos (by lia)];rw[if_neg z];by_cases z2:g=i;subst z2;rw[if_pos (fU _)];unfold bN;rw[db,dt,if_pos q];rw[if_neg (by lia)];rw[if_neg q];refine(I1.put s hr (bN i (K i) e)).same λg hg=>?_;by_cases z2:g=i;subst z2;rw[if_pos rfl,if_pos (fU _)];rw[if_neg z2];by_cases z:g<i;rw[if_pos z,if_pos (by lia)];rw[if_neg z,if_neg (by lia)])
  (λρ h1 hI=>by
    show aB (((e.b.map W.int)[G]?).map λw=>W.tup [.int G,w])=_;rw[iS (by rw[bD];lia)];rfl)
  G 0 fuel (cR m p w gg rows fd (.tup (sts.map iW)) (aB (.int e.c)) D x9 R jD gU g9 ia (aB (.int nx)) gv gw (aB (iW e.b)) fR iA) h (i9 _) (show _<1000000 by lia) ⟨⟨_,_,rfl⟩,I.same λg _=>by rw[if_neg (yU _)]⟩
 obtain⟨⟨y9,j5,rfl⟩,I2⟩:=hI;refine⟨y9,j5,h',(eV (aE rfl)).trans e1,I2.same λg hg=>?_⟩;rw[if_pos (by lia)]
end
theorem XQ{g:Nat}{kv:Kv}{e:Ev}:(bN g kv e).length<=kv.length+1:=by unfold bN;split;exact qt _;exact IB
theorem Jl{g:Nat}:∀{es:List Ev} {kv:Kv},(es.foldl (bN g) kv).length<=kv.length+es.length
 |[],_=>bf _
 |e::r,kv=>by
  rw[kM,dg];have h1:=Jl (g:=g) (es:=r) (kv:=bN g kv e);have h2:=XQ (g:=g) (kv:=kv) (e:=e);exact iw h1 (by rw[<-Nat.add_assoc,Nat.add_right_comm];exact Nat.add_le_add_right h2 _)
theorem XR{g:Nat}{es:List Ev}{e:Ev}:cj g (es++[e])=bN g (cj g es) e:=by unfold cj;rw[CV];rfl
theorem XS{es:List Ev}{e:Ev}{d:List W}:(es++[e]).foldl ck d=ck (es.foldl ck d) e:=by rw[CV];rfl
theorem OA{S P s:Nat}{x:Int×Int}:∀{f:Nat} {A:List (Int×Int)},cU S P s f (A++[x])=cU S P s f A++[jR S P s (f+A.length) x]
 |f,[]=>rfl
 |f,y::A=>by
  rw[pJ,cU,cU,OA,dg,pJ,show f+1+A.length=f+ (A.length+1) by lia]
theorem OB{S P:Nat}{x:List (Int×Int)}:∀{s:Nat} {A:List (List (Int×Int))},bO S P s (A++[x])=bO S P s A++cU S P (s+A.length) 0 x
 |s,[]=>by simp[bO]
 |s,y::A=>by
  rw[pJ,bO,bO,OB,dg,yQ,show s+1+A.length=s+ (A.length+1) by lia]
theorem Jm{S P s:Nat}:∀{f:Nat} {A:List (Int×Int)},(cU S P s f A).length=A.length|_,[]=>rfl|f,x::r=>by rw[cU,dg,Jm,dg]
theorem Jo{S P:Nat}:∀{s:Nat} {A:List (List (Int×Int))},(∀r∈A,r.length=P)->(bO S P s A).length=A.length*P
 |_,[],_=>by simp[bO]
 |s,x::r,h=>by
  rw[bO,fE,Jm,Jo λy hy=>h y (eY _ hy),h x eZ,dg,Nat.add_mul];lia
noncomputable def EI(k0:VH)(D R:Nat)(rs:List Nat)(w:Nat)(es:List Ev)(h:VH):Prop:=DI k0 D R rs (es.foldl ck (bK w (.tup [.int 0,.int 0]))) (λg=>cj g es) h
section
variable{F:Nat->Option Fn}(Y:gS F)
include Y
theorem XT{k:Nat}{k0 h:VH}{D R:Nat}{rs:List Nat}{S P:Nat}{es:List Ev}{m fd:W}{x7 x9 gU gv gw i7 fR iA:Option W}{s f:Nat}{x:Int×Int}(sh:Shape S P)(st:St k0 D R rs)(hrs:rs.length=aU S)(hs:s<S)(hf:f<P)(hx:0<=x.2/\x.2<S)(hes:es.length<=400)(I:EI k0 D R rs (bq S P) es h) :
 ∃y7 y9 ny nA nB j5 h',exs (run F (k+2)) Ek (cR m (aM S P).w (.int (bq S P)) (.int (aU S)) (.tup ((aT S P).map .tup)) fd (.tup (((List.range S).map λ(s:Nat)=>aH s (aU S)).map iW)) x7 D x9 R (aB (iW (aH s (aU S)))) gU (aB (.int f)) (aB (.int x.1)) (aB (.int x.2)) gv gw i7 fR iA) h =
  .ok (.nx (cR m (aM S P).w (.int (bq S P)) (.int (aU S)) (.tup ((aT S P).map .tup)) fd (.tup (((List.range S).map λ(s:Nat)=>aH s (aU S)).map iW)) y7 D y9 R (aB (iW (aH s (aU S)))) gU (aB (.int f)) (aB (.int x.1)) (aB (.int x.2)) ny nA nB j5 iA)) h'/\EI k0 D R rs (bq S P) (es++[jR S P s f x]) h':=by
 have hf':f< (aM S P).fd.length:=by show f< ((aX S P).map W.int).length;rw[bD,sh.rows.2.2.1];exact hf
 obtain⟨p1,p2,p3⟩:=sh.dM hf hs;have q:=sh.ok.dM (ls:=aH s (aU S)) (f:=f) hf' (by rw[pe];rfl) wR;have wd:=sh.wd;have hG:=sI (S:=S);have pC:0<=gQ S f s/\gQ S f s<bq S P:=by have:=q.c4;rw[p3]at this;exact this
 let e:=jR S P s f x;have Jp:=WT Y (k:=k) (h:=h) sh.ok hf' (by rw[pe];rfl) (wR (n:=aU S) (z:=s));let cs:=((aM S P).dM (aH s (aU S)) f).cs;let ts:=((aM S P).dM (aH s (aU S)) f).ts;have hl:((aM S P).dM (aH s (aU S)) f).ls.length=aU S:=by rw[q.l1,pe]
 let ds:=es.foldl ck (bK (bq S P) (W.tup [.int 0,.int 0]));have hdl:ds.length=bq S P:=by show(es.foldl ck _).length=_;rw[ID,qo]
 have I1:=DI.door st I (ck ds e);obtain⟨nx,OC⟩:∃nx:Nat,x.2=nx:=⟨x.2.toNat,by lia⟩
 have hst:((List.range S).map λ(s:Nat)=>aH s (aU S))[nx]?=aB e.t:=by rw[dO,uR (by lia)];show aB (aH (nx:Int) (aU S))=aB (aH x.2 (aU S));rw[OC]
 obtain⟨y9,j5,h',e5,I2⟩:=XM (cl:=run F (k+2)) (m:=m) (p:=(aM S P).w) (w:=.int (bq S P)) (gg:=.int (aU S)) (rows:=.tup ((aT S P).map .tup)) (fd:=fd) (x9:=x9) (jD:=aB (iW (aH s (aU S)))) (gU:=gU) (g9:=aB (.int f)) (ia:=aB (.int x.1)) (gv:=aB (iW ((aM S P).col f::cs))) (gw:=aB (iW ts)) (fR:=fR) (iA:=iA) (e:=e) (nx:=nx) st I1 hrs hl pe hst (λg=>by
  have:=Jl (g:=g) (es:=es) (kv:=[]);show(es.foldl (bN g) []).length<=500;have h0:([]:Kv).length=0:=rfl;lia) (by lia)
 rw[<-OC]at e5;refine⟨aB (.int e.c),y9,aB (iW ((aM S P).col f::cs)),aB (iW ts),aB (iW e.b),j5,h',?_,?_⟩;unfold Ek;refine(aZ (ρ':=cR m (aM S P).w (.int (bq S P)) (.int (aU S)) (.tup ((aT S P).map .tup)) fd (.tup (((List.range S).map λ(s:Nat)=>aH s (aU S)).map iW)) x7 D x9 R (aB (iW (aH s (aU S)))) gU (aB (.int f)) (aB (.int x.1)) (aB (.int x.2)) (aB (iW ((aM S P).col f::cs))) (aB (iW ts)) (aB (iW e.b)) fR iA) (h':=h) ?_).trans ?_;rw[exs,WU (aE rfl) (aE rfl) (aE rfl) aG Jp,aD];rfl;refine(aZ (bX (x:=.int e.c) (h1:=h) (cg (aE rfl) (y:=.int (-1)) (h2:=h) (by rw[ev,aG,aD]) ?_))).trans ?_;show fy (((aM S P).col f::cs).map W.int) (-1)=_;rw[Ww];show aB (W.int (bE _ _))=aB (W.int (gQ S f s));rw[p3];refine(aZ (ρ':=cR m (aM S P).w (.int (bq S P)) (.int (aU S)) (.tup ((aT S P).map .tup)) fd (.tup (((List.range S).map λ(s:Nat)=>aH s (aU S)).map iW)) (aB (.int e.c)) D x9 R (aB (iW (aH s (aU S)))) gU (aB (.int f)) (aB (.int x.1)) (aB (.int x.2)) (aB (iW ((aM S P).col f::cs))) (aB (iW ts)) (aB (iW e.b)) fR iA) (h':=h.set D (.lst (ck ds e))) ?_).trans ?_;have Jk:∀ρ:En,ρ[14]?=aB (aB (.int x.1))->ev (run F (k+2)) (.tup (.cons (.var 14) (.cons (.cst (.int (0))) .nil))) ρ h=.ok (.tup [.int x.1,.int 0]) h:=λρ nk=>kK (aE nk) aG;have hix:iU ds.length e.c=aB e.c.toNat:=by have:e.c=((e.c.toNat:Nat):Int):=(Int.toNat_of_nonneg pC.1).symm;rw[this,Iu (by rw[hdl];have:=pC.2;have h9:e.c=gQ S f s:=rfl;lia)];rfl
 have gD:h.get D=aB (.lst ds):=I.d;rw[exs,Jk _ rfl,aD,aE (x:=.ref D) rfl,aD,aE (x:=.int e.c) rfl,aD];simp only[gD,hix];rfl;exact(aZ e5).trans (by rw[exs]);unfold EI;rw[XS];refine I2.same λg _=>?_;rw[XR]
end
noncomputable def cH(S:Nat):List (List Int):=(List.range S).map λ(s:Nat)=>aH s (aU S)
section
variable{F:Nat->Option Fn}(Y:gS F)
include Y
theorem XU{k:Nat}{k0 h:VH}{D R:Nat}{rs:List Nat}{S P:Nat}{es:List Ev}{m fd:W}{row:List (Int×Int)}{x7 x9 g9 ia jS gv gw i7 fR iA:Option W}{s:Nat}(sh:Shape S P)(st:St k0 D R rs)(hrs:rs.length=aU S)(hs:s<S)(Cj:row.length=P)(hx:∀x∈row,0<=x.2/\x.2<S)(hes:es.length<=300)(I:EI k0 D R rs (bq S P) es h) :
 ∃y7 y9 qe qf qg ny nA nB j5 h',exs (run F (k+2)) BL (cR m (aM S P).w (.int (bq S P)) (.int (aU S)) (.tup ((aT S P).map .tup)) fd (.tup ((cH S).map iW)) x7 D x9 R (aB (iW (aH s (aU S)))) (aB (cz row)) g9 ia jS gv gw i7 fR iA) h =
  .ok (.nx (cR m (aM S P).w (.int (bq S P)) (.int (aU S)) (.tup ((aT S P).map .tup)) fd (.tup ((cH S).map iW)) y7 D y9 R (aB (iW (aH s (aU S)))) (aB (cz row)) qe qf qg ny nA nB j5 iA)) h'/\EI k0 D R rs (bq S P) (es++cU S P s 0 row) h':=by
 have p4:=sh.p4;obtain⟨ρ',h',e1,hI⟩:=pA (nx:=aY .lX (cz row)) (tg:=bH (.AD 13 [14,15])) (b:=exs (run F (k+2)) Ek) (n:=row.length)
  (I:=λj ρ h1=>(∃x7 x9 g9 ia jS gv gw i7 fR,ρ=cR m (aM S P).w (.int (bq S P)) (.int (aU S)) (.tup ((aT S P).map .tup)) fd (.tup ((cH S).map iW)) x7 D x9 R (aB (iW (aH s (aU S)))) (aB (cz row)) g9 ia jS gv gw i7 fR iA)/\EI k0 D R rs (bq S P) (es++cU S P s 0 (row.take j)) h1)
  (λj ρ h1 hj hI=>by
    obtain⟨⟨z7,z9,OD,OE,OF,Jq,Jr,Js,Jt,rfl⟩,I1⟩:=hI;have OG:=cJ hj;have ht:row.take (j+1)=row.take j++[row[j]]:=by rw[pI,OG];rfl
    obtain⟨y7,y9,ny,nA,nB,j5,h2,e2,I2⟩:=XT Y (k:=k) (m:=m) (fd:=fd) (x7:=z7) (x9:=z9) (gU:=aB (cz row)) (gv:=Jq) (gw:=Jr) (i7:=Js) (fR:=Jt) (iA:=iA) (f:=j) (x:=row[j]) sh st hrs hs (by lia) (hx _ (jF hj)) (by
     rw[fE,Jm,jo];lia) I1
    refine⟨.tup [.int j,cV row[j]],_,_,h2,?_,rfl,e2,⟨_,_,_,_,_,_,_,_,_,rfl⟩,?_⟩;show aB (((row.map cV)[j]?).map λw=>W.tup [.int j,w])=_;rw[dO,OG];rfl;rw[ht,OA,<-yQ,jo,i9,Nat.min_eq_left (sV hj)];exact I2)
  (λρ h1 hI=>by
    show aB (((row.map cV)[row.length]?).map λw=>W.tup [.int row.length,w])=_;rw[iS (by rw[bD];exact bf _)];rfl)
  row.length 0 fuel (cR m (aM S P).w (.int (bq S P)) (.int (aU S)) (.tup ((aT S P).map .tup)) fd (.tup ((cH S).map iW)) x7 D x9 R (aB (iW (aH s (aU S)))) (aB (cz row)) g9 ia jS gv gw i7 fR iA) h (i9 _) (show _<1000000 by lia)
  ⟨⟨_,_,_,_,_,_,_,_,_,rfl⟩,by rw[List.take_zero,cU,nG];exact I⟩
 obtain⟨⟨y7,y9,qe,qf,qg,ny,nA,nB,j5,rfl⟩,I2⟩:=hI;rw[nF]at I2;refine⟨y7,y9,qe,qf,qg,ny,nA,nB,j5,h',?_,I2⟩;unfold BL;exact(aZ ((eV (aE rfl)).trans e1)).trans (by rw[exs])
theorem XW{k:Nat}{k0 h:VH}{D R:Nat}{rs:List Nat}{S P:Nat}{fd:W}{M:List (List (Int×Int))}(sh:Shape S P)(mo:uD S P M)(st:St k0 D R rs)(hrs:rs.length=aU S)(I:EI k0 D R rs (bq S P) [] h) :
 ∃y7 y9 Ck Cm qe qf qg ny nA nB j5 h',exs (run F (k+2)) (.«for» .zip (.cons (.var 6) (.cons (.var 0) .nil)) (.many [11,12]) BL) (cR (mW M) (aM S P).w (.int (bq S P)) (.int (aU S)) (.tup ((aT S P).map .tup)) fd (.tup ((cH S).map iW)) aC D aC R aC aC aC aC aC aC aC aC aC aC) h =
  .ok (.nx (cR (mW M) (aM S P).w (.int (bq S P)) (.int (aU S)) (.tup ((aT S P).map .tup)) fd (.tup ((cH S).map iW)) y7 D y9 R Ck Cm qe qf qg ny nA nB j5 aC)) h'/\EI k0 D R rs (bq S P) (bO S P 0 M) h':=by
 have iN:=sh.iN;have lM:=mo.l;have sp:=sh.sp;have nx:∀(i:Nat)(h:VH),aY .zip (.tup [.tup ((cH S).map iW),mW M]) i h=aB (match(cH S)[i]?,M[i]? with
  |some a,aB b=>aB (.tup [iW a,cz b])
  |_,_=>aC):=λi h=>by
  show aB (match((cH S).map iW)[i]?,(M.map cz)[i]? with|some a,aB b=>aB (W.tup [a,b])|_,_=>aC)=_
  rw[dO,dO];cases(cH S)[i]?<;>cases M[i]?<;>rfl
 have hst:∀i,i<S->(cH S)[i]?=aB (aH i (aU S)):=λi hi=>by
  unfold cH;rw[dO,uR hi];rfl
 obtain⟨ρ',h',e1,hI⟩:=pA (nx:=aY .zip (.tup [.tup ((cH S).map iW),mW M])) (tg:=bH (.many [11,12])) (b:=exs (run F (k+2)) BL) (n:=S)
  (I:=λi ρ h1=>(∃x7 x9 jD gU g9 ia jS gv gw i7 fR,ρ=cR (mW M) (aM S P).w (.int (bq S P)) (.int (aU S)) (.tup ((aT S P).map .tup)) fd (.tup ((cH S).map iW)) x7 D x9 R jD gU g9 ia jS gv gw i7 fR aC)/\EI k0 D R rs (bq S P) (bO S P 0 (M.take i)) h1)
  (λi ρ h1 hi hI=>by
    obtain⟨⟨z7,z9,z11,z12,OD,OE,OF,Jq,Jr,Js,Jt,rfl⟩,I1⟩:=hI;have hm:=cJ (show i<M.length by lia);have ht:M.take (i+1)=M.take i++[M[i]]:=by rw[pI,hm];rfl
    have hmem:M[i]∈M:=jF _;have hlen:(bO S P 0 (M.take i)).length<=300:=by rw[Jo (P:=P) λr hr=>mo.r r (List.mem_of_mem_take hr),jo];have:min i M.length*P<=S*P:=Nat.mul_le_mul_right _ (by lia);lia
    obtain⟨y7,y9,qe,qf,qg,ny,nA,nB,j5,h2,e2,I2⟩:=XU Y (k:=k) (m:=mW M) (fd:=fd) (row:=M[i]) (x7:=z7) (x9:=z9) (g9:=OD) (ia:=OE) (jS:=OF) (gv:=Jq) (gw:=Jr) (i7:=Js) (fR:=Jt) (iA:=aC) sh st hrs hi (mo.r _ hmem) (λx hx=>(mo.p _ hmem x hx).2.2) hlen I1;refine⟨.tup [iW (aH i (aU S)),cz M[i]],_,_,h2,?_,rfl,e2,⟨_,_,_,_,_,_,_,_,_,_,_,rfl⟩,?_⟩;rw[nx,hst i hi,hm];rw[ht,OB,jo,i9,Nat.min_eq_left (by lia)];exact I2)
  (λρ h1 hI=>by
    rw[nx,iS (show M.length<=S by lia)];cases(cH S)[S]?<;>rfl)
  S 0 fuel (cR (mW M) (aM S P).w (.int (bq S P)) (.int (aU S)) (.tup ((aT S P).map .tup)) fd (.tup ((cH S).map iW)) aC D aC R aC aC aC aC aC aC aC aC aC aC) h (i9 _) (show _<1000000 by lia)
  ⟨⟨_,_,_,_,_,_,_,_,_,_,_,rfl⟩,by rw[List.take_zero];exact I⟩
 obtain⟨⟨y7,y9,Ck,Cm,qe,qf,qg,ny,nA,nB,j5,rfl⟩,I2⟩:=hI;rw[show M.take S=M by rw[<-lM,nF]]at I2;exact⟨y7,y9,Ck,Cm,qe,qf,qg,ny,nA,nB,j5,h',(eV (aJ (aE rfl) (aJ (aE rfl) bJ))).trans e1,I2⟩
end
theorem XX{xs ys:List W}{h:VH}(hne:xs≠[])(hl:xs.length+ys.length<=1000000):vG .add (.tup xs) (.tup ys) h=.ok (.tup (xs++ys)) h:=by
 cases xs with
 |nil=>exact absurd rfl hne
 |cons x r=>
  show(if Nat.ble ((x::r).length+ys.length) big=true then Res.ok (W.tup (x::r++ys)) h else .no)=_;rw[if_pos (p5 hl)]
theorem XY:(yF.all λx=>(aU x.1==0) || !(aT x.1 x.2).isEmpty)=true:=by decide +kernel
theorem XZ{g:Nat}{es:List Ev}:ji (cj g es):=by
 have:∀(es:List Ev)(kv:Kv),ji kv->ji (es.foldl (bN g) kv):=by
  intro es;induction es with
  |nil=>intro kv h;exact h
  |cons e r ih=>
   intro kv h;rw[kM];refine ih _ ?_;unfold bN;split;exact h;exact h.put (E3 (x:=((g:Int),1-e.b.getD g 0)))
 exact this es [] .nil
theorem X0{w:W}{c wd g:Int}(h:jO w c wd g):Pv w:=by rcases yw h with⟨rfl,_⟩|⟨rfl,_⟩|⟨rfl,_⟩|rfl|rfl|⟨a,b,rfl,_⟩;exact Pv.str;exact Pv.str;exact Pv.str;exact Pv.str;exact Pv.str;exact E3 (x:=((a:Int),(b:Int)))
theorem X3{wd g:Int}{c:Int}{r:List W}(h:dw wd g c r):Pv (.tup r):=Pv.tup λw hw=>by
 obtain⟨i,hi,rfl⟩:=List.getElem_of_mem hw;exact X0 (Ip i h (cJ hi))
section
variable{F:Nat->Option Fn}(A:oX F)(C:nv F)(Y:gS F)
include C
theorem X4{k:Nat}{k0 h:VH}{D R:Nat}{rs:List Nat}{S P:Nat}{es:List Ev}{m p fd sv:W}{x7 x9 jD gU g9 ia jS gv gw i7 fR:Option W}(sh:Shape S P)(st:St k0 D R rs)(hrs:rs.length=aU S)(hes:es.length<=400)(I:EI k0 D R rs (bq S P) es h) :
 ∃E4 h',exs (run F (k+2)) (.«for» .seq (.var 10) (.one 20) El) (cR m p (.int (bq S P)) (.int (aU S)) (.tup ((aT S P).map .tup)) fd sv x7 D x9 R jD gU g9 ia jS gv gw i7 fR aC) h =
  .ok (.nx (cR m p (.int (bq S P)) (.int (aU S)) (.tup ((kJ S P es).map .tup)) fd sv x7 D x9 R jD gU g9 ia jS gv gw i7 fR E4)) h'/\Gm k0 h'/\h'.get D=aB (.lst (es.foldl ck (bK (bq S P) (.tup [.int 0,.int 0])))):=by
 have wd:=sh.wd;have hG:=sI (S:=S);have X5:=sh.rows.2.1;obtain⟨ρ',h',e1,hI⟩:=pA (nx:=aY .seq (.ref R)) (tg:=bH (.one 20)) (b:=exs (run F (k+2)) El) (n:=aU S)
  (I:=λi ρ h1=>(∃iA,ρ=cR m p (.int (bq S P)) (.int (aU S)) (.tup ((aT S P++(List.range' 0 i).flatMap (bU (bq S P) es)).map .tup)) fd sv x7 D x9 R jD gU g9 ia jS gv gw i7 fR iA)/\Gm k0 h1/\
    h1.get D=aB (.lst (es.foldl ck (bK (bq S P) (.tup [.int 0,.int 0]))))/\h1.get R=aB (.lst (rs.map .ref))/\∀(g r:Nat),i<=g->rs[g]?=aB r->h1.get r=aB (.dm (cj g es)))
  (λi ρ h1 hi hI=>by
    obtain⟨⟨z20,rfl⟩,w1,gD,gR,gk⟩:=hI;have hr:=cJ (show i<rs.length by lia);have hm:rs[i]∈rs:=jF _;have gi:=gk i _ (bf _) hr;have hlen:=Jl (g:=i) (es:=es) (kv:=[]);have h0:([]:Kv).length=0:=rfl;obtain⟨j,h2,e2,g2,hj,n2,o2,lo2⟩:=Xa C (k:=k) (n:=bq S P) (h:=h1) (p:=rs[i]) gi XZ (show(es.foldl (bN i) []).length<=1000 by lia) (by lia);have hD:=cA gD;have hR:=cA gR;have hne:(aT S P++(List.range' 0 i).flatMap (bU (bq S P) es)).map W.tup≠[]:=by
     have:=ic.mp XY _ (B6 sh.s1 sh.p1 sh.p4 sh.sp);simp only[pL,xh,uX,List.isEmpty_eq_false_iff]at this;rcases this with this|this
     exact absurd this (by show ¬aU S=0;lia);intro z;rw[List.map_eq_nil_iff,List.append_eq_nil_iff]at z;exact this z.1
    have hle:((aT S P++(List.range' 0 i).flatMap (bU (bq S P) es)).map W.tup).length<=1000:=by
     rw[bD,fE];have:((List.range' 0 i).flatMap (bU (bq S P) es)).length=i*2:=by
      rw[List.length_flatMap];have:(List.range' 0 i).map (λg=>(bU (bq S P) es g).length)=bK i 2:=by apply CT;intro j;rw[dO,CP];by_cases q:j<i;rw[if_pos q,List.getElem?_range' q];rfl;rw[if_neg q,iS (by rw[xw];lia)];rfl
      rw[this,List.sum_replicate_nat]
     lia
    have Cj:aT S P++(List.range' 0 (i+1)).flatMap (bU (bq S P) es)=(aT S P++(List.range' 0 i).flatMap (bU (bq S P) es))++bU (bq S P) es i:=by rw[List.range'_concat,List.flatMap_append,<-yQ];simp
    refine⟨.ref rs[i],cR m p (.int (bq S P)) (.int (aU S)) (.tup ((aT S P++(List.range' 0 i).flatMap (bU (bq S P) es)).map .tup)) fd sv x7 D x9 R jD gU g9 ia jS gv gw i7 fR (aB (.ref rs[i])),cR m p (.int (bq S P)) (.int (aU S)) (.tup ((aT S P++(List.range' 0 (i+1)).flatMap (bU (bq S P) es)).map .tup)) fd sv x7 D x9 R jD gU g9 ia jS gv gw i7 fR (aB (.ref rs[i])),h2,?_,rfl,?_,⟨_,rfl⟩,?_,?_,?_,?_⟩;rw[yG gR,hr];rfl;unfold El;refine(aZ (ρ':=cR m p (.int (bq S P)) (.int (aU S)) (.tup ((aT S P++(List.range' 0 (i+1)).flatMap (bU (bq S P) es)).map .tup)) fd sv x7 D x9 R jD gU g9 ia jS gv gw i7 fR (aB (.ref rs[i]))) (h':=h2) ?_).trans (by rw[exs]);have et:ev (run F (k+2)) (.bi .tuple (.cons (.call 36 (.cons (.var 2) (.cons (.var 20) .nil))) .nil)) (cR m p (.int (bq S P)) (.int (aU S)) (.tup ((aT S P++(List.range' 0 i).flatMap (bU (bq S P) es)).map .tup)) fd sv x7 D x9 R jD gU g9 ia jS gv gw i7 fR (aB (.ref rs[i]))) h1=.ok (.tup ((bU (bq S P) es i).map .tup)) h2:=
     qc (nq (aE rfl) (aE rfl) e2) (nM g2)
    rw[exs];show((ev (run F (k+2)) (.bi .tuple (.cons (.call 36 (.cons (.var 2) (.cons (.var 20) .nil))) .nil)) _ h1).bind _)=_;rw[et,aD,XX hne (by rw[bD (as:=bU (bq S P) es i)];show _+2<=_;lia),aD,<-iu,<-Cj];rfl;refine⟨iw w1.le n2,?_,λq hq=>?_⟩;have:=w1.lo;have:=st.ro _ hm;lia;rw[o2 q (dF hq w1.le) (λz=>by have:=st.ro _ hm;lia),w1.get q hq];rw[o2 D hD (λz=>st.dn (by rw[z];exact hm))];exact gD;rw[o2 R hR (λz=>st.rn (by rw[z];exact hm))];exact gR;intro g r hg hgr;have gg:=gk g r (by lia) hgr;rw[o2 r (cA gg) (λz=>?_)];exact gg;obtain⟨q1,q2⟩:=iB.mp hgr;have:=(List.getElem_inj st.nd (h₀:=q1) (h₁:=show i<rs.length by lia)).mp (by rw[q2,z]);lia)
  (λρ h1 hI=>by rw[yG hI.2.2.2.1,iS (by lia)];rfl)
  (aU S) 0 fuel (cR m p (.int (bq S P)) (.int (aU S)) (.tup ((aT S P).map .tup)) fd sv x7 D x9 R jD gU g9 ia jS gv gw i7 fR aC) h (i9 _) (show _<1000000 by lia)
  ⟨⟨aC,by rw[show List.range' 0 0=[]from rfl,List.flatMap_nil,nG]⟩,I.gm,I.d,I.r,λg r _ e=>I.k g r e⟩
 obtain⟨⟨E4,rfl⟩,w2,gD,_,_⟩:=hI;exact⟨E4,h',(eV (aE rfl)).trans e1,w2,gD⟩
end
section
variable{F:Nat->Option Fn}(A:gT F)(C:nv F)(Y:gS F)
include A C Y
theorem X6{k S P:Nat}{h:VH}{M:List (List (Int×Int))}(sh:Shape S P)(mo:uD S P M):run F (k+6) 187 [mW M] h=.ok (.tup [(cu S P M).w,.tup ((cH S).map iW)]) h:=by
 have iN:=sh.iN;have s1:=sh.s1;have p1:=sh.p1;have p4:=sh.p4;have sp:=sh.sp;have wd:=sh.wd;have hG:=sI (S:=S);obtain⟨r0,M',rfl⟩:∃r M',M=r::M':=by
  cases M with|nil=>have:=mo.l;simp at this;lia|cons r M'=>exact⟨r,M',rfl⟩
 generalize hM:r0::M'=M at mo;have l0:r0.length=P:=mo.r r0 (hM▸eZ);have lM:=mo.l;have i0:∀g:VH,bT g (mW M) (.int 0)=aB (cz r0):=λg=>by rw[<-hM];exact IP
 let k0:VH:=⟨h.n,h.n,h.os⟩
 have X7:=XD A C (k:=k) (h:=k0) sh mo;have X8:=Xx A C (k:=k) (h:=k0) sh;obtain⟨ys,ρ',h',e1,hI⟩:=kU (nx:=aY .bV (.tup [.int S])) (tg:=bH (.one 0)) (e:=ev (run F (k+5)) HW) (n:=S)
  (I:=λi ρ h1 acc=>(∃x,ρ=[x,aB (.int (aU S))])/\h1=k0/\acc=((List.range i).map λ(s:Nat)=>aH s (aU S)).map iW)
  (λi ρ h1 acc hi hI=>by
    obtain⟨⟨x,rfl⟩,rfl,rfl⟩:=hI;refine⟨.int (i:Int),[aB (.int (i:Int)),aB (.int (aU S))],iW (aH i (aU S)),_,?_,rfl,nq (aE rfl) (aE rfl) (Xc C (k:=k+4) (by lia)),⟨_,rfl⟩,rfl,?_⟩;rw[i6 (by lia),if_pos hi];rw[C0,iu,iu];rfl)
  (λρ h1 acc hI=>by rw[i6 (by lia),if_neg (gC _)])
  (ρ:=[aC,aB (.int (aU S))]) (h:=k0) (by lia) ⟨⟨aC,rfl⟩,rfl,rfl⟩
 obtain⟨_,rfl,rfl⟩:=hI;let k1:=k0.new (.lst ((cH S).map iW));obtain⟨ys,ρ',h',e2,hI⟩:=kU (nx:=aY .bV (.tup [.int (bq S P)])) (tg:=bH (.one 0)) (e:=ev (run F (k+5)) HX) (n:=bq S P)
  (I:=λi ρ h1 acc=>(∃x,ρ=[x])/\h1=k1/\acc=bK i (W.tup [.int 0,.int 0]))
  (λi ρ h1 acc hi hI=>by
    obtain⟨⟨x,rfl⟩,rfl,rfl⟩:=hI;refine⟨.int (i:Int),[aB (.int (i:Int))],.tup [.int 0,.int 0],_,?_,rfl,aG,⟨_,rfl⟩,rfl,?_⟩;rw[i6 (by lia),if_pos hi];rw[<-List.replicate_succ'])
  (λρ h1 acc hI=>by rw[i6 (by lia),if_neg (gC _)])
  (ρ:=[aC]) (h:=k1) (by lia) ⟨⟨aC,rfl⟩,rfl,rfl⟩
 obtain⟨_,rfl,rfl⟩:=hI;let k2:=k1.new (.lst (bK (bq S P) (W.tup [.int 0,.int 0])));obtain⟨ys,ρ',h',e3,hI⟩:=kU (nx:=aY .bV (.tup [.int (aU S)])) (tg:=bH (.one 0)) (e:=ev (run F (k+5)) Ei) (n:=aU S)
  (I:=λi ρ h1 acc=>(∃x,ρ=[x])/\Gm k2 h1/\h1.n=k2.n+i/\acc=(List.range' k2.n i).map W.ref/\∀j,j<i->h1.get (k2.n+j)=aB (.dm []))
  (λi ρ h1 acc hi hI=>by
    obtain⟨⟨x,rfl⟩,w1,n1,rfl,g1⟩:=hI;refine⟨.int (i:Int),[aB (.int (i:Int))],.ref h1.n,h1.new (.dm []),?_,rfl,?_,⟨_,rfl⟩,w1.new,?_,?_,λj hj=>?_⟩;rw[i6 (by lia),if_pos hi];unfold Ei;rw[ev,bJ,aD];rfl;show h1.n+1=_;lia;rw[List.range'_concat,iu,n1,Nat.one_mul];rfl;by_cases q:j=i;subst q;rw[<-n1];exact dW;rw[iz (by lia)];exact g1 j (by lia))
  (λρ h1 acc hI=>by rw[i6 (by lia),if_neg (gC _)])
  (ρ:=[aC]) (h:=k2) (by lia) ⟨⟨aC,rfl⟩,.refl,rfl,rfl,λj hj=>absurd hj (yU _)⟩
 obtain⟨_,w3,n3,rfl,g3⟩:=hI;let k3:=h'.new (.lst ((List.range' k2.n (aU S)).map W.ref));have hn2:k2.n=h.n+1+1:=rfl;have st:St k0 k1.n h'.n (List.range' k2.n (aU S)):=by have hk1:k1.n=h.n+1:=rfl;have hk0:k0.n=h.n:=rfl;refine⟨by lia,by lia,λx hx=>?_,by lia,λz=>?_,λz=>?_,List.nodup_range'⟩;have:=(CU.mp hx).1;lia;have:=(CU.mp z).1;lia;have:=(CU.mp z).2;lia
 have Yb:Gm k0 k2:=(Gm.refl.new).new;have gD:k3.get k1.n=aB (.lst (bK (bq S P) (W.tup [.int 0,.int 0]))):=by rw[show k3.get k1.n=h'.get k1.n from iz (by have hk1:k1.n=h.n+1:=rfl;lia),w3.get k1.n (fU _)];exact dW (h:=k1)
 have I:EI k0 k1.n h'.n (List.range' k2.n (aU S)) (bq S P) [] k3:=by
  refine⟨(Yb.trans w3).new,gD,dW,λg r e=>?_⟩;have hg:g<aU S:=by have:=(iB.mp e).1;rw[xw]at this;exact this
  rw[List.getElem?_range' hg]at e;cases e;rw[Nat.one_mul,show k3.get (k2.n+g)=h'.get (k2.n+g)from iz (by lia)];exact g3 g hg
 have hev:(bO S P 0 M).length<=400:=by rw[Jo mo.r,lM];lia
 obtain⟨y7,y9,Ck,Cm,qe,qf,qg,ny,nA,nB,j5,k4,e4,I4⟩:=XW Y (k:=k+3) (fd:=.tup ((aX S P).map .int)) sh mo st (by rw[xw]) I;obtain⟨E4,k5,e5,w5,Yc⟩:=X4 C (k:=k+3) (m:=mW M) (p:=(aM S P).w) (fd:=.tup ((aX S P).map .int)) (sv:=.tup ((cH S).map iW)) (x7:=y7) (x9:=y9) (jD:=Ck) (gU:=Cm) (g9:=qe) (ia:=qf) (jS:=qg) (gv:=ny) (gw:=nA) (i7:=nB) (fR:=j5) sh st (by rw[xw]) hev I4;have els:ev (run F (k+5)) (.lc .bV (.cons (.bi .len (.cons (.var 0) .nil)) .nil) (.one 0) 1 [3] (.cst (.bl true)) HW) [aB (mW M),aB (aM S P).w,aB (.int (bq S P)),aB (.int (aU S)),aB (.tup ((aT S P).map .tup)),aB (.tup ((aX S P).map .int)),aC,aC,aC,aC,aC,aC,aC,aC,aC,aC,aC,aC,aC,aC,aC] k0=.ok (.ref k0.n) k1:=by
  have Ju:ev (run F (k+5)) (.bi .len (.cons (.var 0) .nil)) [aB (mW M),aB (aM S P).w,aB (.int (bq S P)),aB (.int (aU S)),aB (.tup ((aT S P).map .tup)),aB (.tup ((aX S P).map .int)),aC,aC,aC,aC,aC,aC,aC,aC,aC,aC,aC,aC,aC,aC,aC] k0=.ok (.int S) k0:=
   dN (ws:=M.map cz) (aE (x:=mW M) rfl) rfl |>.trans (by rw[bD,lM])
  rw[ev,aJ Ju bJ,aD,yt];show((ig _ _ _ _ fuel 0 [aC,aB (.int (aU S))] k0 []).bind _)=_;rw[e1,aD,if_pos (p5 (by rw[bD,bD,uS];lia))];rfl
 have Yd:ev (run F (k+5)) (.lc .bV (.cons (.var 2) .nil) (.one 0) 1 [] (.cst (.bl true)) HX) [aB (mW M),aB (aM S P).w,aB (.int (bq S P)),aB (.int (aU S)),aB (.tup ((aT S P).map .tup)),aB (.tup ((aX S P).map .int)),aB (.tup ((cH S).map iW)),aC,aC,aC,aC,aC,aC,aC,aC,aC,aC,aC,aC,aC,aC] k1=.ok (.ref k1.n) k2:=by rw[ev,aJ (aE (x:=.int (bq S P)) rfl) bJ,aD,yt];show((ig _ _ _ _ fuel 0 [aC] k1 []).bind _)=_;rw[e2,aD,if_pos (p5 (by rw[qo];lia))]
 have Ye:ev (run F (k+5)) (.lc .bV (.cons (.var 3) .nil) (.one 0) 1 [] (.cst (.bl true)) Ei) [aB (mW M),aB (aM S P).w,aB (.int (bq S P)),aB (.int (aU S)),aB (.tup ((aT S P).map .tup)),aB (.tup ((aX S P).map .int)),aB (.tup ((cH S).map iW)),aC,aB (.ref k1.n),aC,aC,aC,aC,aC,aC,aC,aC,aC,aC,aC,aC] k2=.ok (.ref h'.n) k3:=by rw[ev,aJ (aE (x:=.int (aU S)) rfl) bJ,aD,yt];show((ig _ _ _ _ fuel 0 [aC] k2 []).bind _)=_;rw[e3,aD,if_pos (p5 (by rw[bD,xw];lia))]
 have eb:exs (run F (k+5)) l6.body [aB (mW M),aC,aC,aC,aC,aC,aC,aC,aC,aC,aC,aC,aC,aC,aC,aC,aC,aC,aC,aC,aC] ⟨h.n,h.n,h.os⟩=.ok (.rt (.tup [(cu S P M).w,.tup ((cH S).map iW)])) k5:=by
  refine(aZ (ρ':=[aB (mW M),aC,aC,aC,aC,aC,aC,aC,aC,aC,aC,aC,aC,aC,aC,aC,aC,aC,aC,aC,aC]) (h':=k0) ?_).trans ?_;rw[exs,nN (uF (aE rfl) X7),aD];show exs _ .skip _ _=_;rw[exs];refine(aZ (bX (x:=(aM S P).w) (h1:=k0) (nq (x:=.int S) (y:=.int P) (h1:=k0) (h2:=k0) ?_ ?_ X8))).trans ?_;exact dN (ws:=M.map cz) (aE (x:=mW M) rfl) rfl |>.trans (by rw[bD,lM])
  exact dN (ws:=r0.map cV) (cg (aE (x:=mW M) rfl) aG (i0 _)) rfl |>.trans (by rw[bD,l0])
  refine(aZ (ρ':=[aB (mW M),aB (aM S P).w,aB (.int (bq S P)),aB (.int (aU S)),aB (.tup ((aT S P).map .tup)),aB (.tup ((aX S P).map .int)),aC,aC,aC,aC,aC,aC,aC,aC,aC,aC,aC,aC,aC,aC,aC]) (h':=k0) ?_).trans ?_;have IW:ev (run F (k+5)) (.slc (.var 1) false (.cst .aR) true (.cst (.int (4)))) [aB (mW M),aB (aM S P).w,aC,aC,aC,aC,aC,aC,aC,aC,aC,aC,aC,aC,aC,aC,aC,aC,aC,aC,aC] k0=.ok (.tup [.int (bq S P),.int (aU S),.tup ((aT S P).map .tup),.tup ((aX S P).map .int)]) k0:=by rw[ev,aE (x:=(aM S P).w) rfl,aD,aG,aD,aG,aD];rfl
  show exs (run F (k+5)) (.vF [2,3,4,5] _) [aB (mW M),aB (aM S P).w,aC,aC,aC,aC,aC,aC,aC,aC,aC,aC,aC,aC,aC,aC,aC,aC,aC,aC,aC] k0=_;rw[exs,IW,aD];rfl;refine(aZ (bX (x:=.tup ((cH S).map iW)) (h1:=k1) (qc (x:=.ref k0.n) (h1:=k1) els (nM dW)))).trans ?_;refine(aZ (bX (x:=.ref k1.n) (h1:=k2) Yd)).trans ?_;refine(aZ (bX (x:=.ref h'.n) (h1:=k3) Ye)).trans ?_;refine(aZ e4).trans ?_;refine(aZ e5).trans ?_;refine iX (dR (kK (uG (aE rfl) (aE rfl) (aE rfl) (aE rfl) (qc (aE rfl) (nM Yc))) (aE rfl)))
 have ok:=IK sh mo;have pv:Pv (.tup [(cu S P M).w,.tup ((cH S).map iW)]):=by
  refine Pv.tup λw hw=>?_;rcases fT.mp hw with rfl|hw
  refine Pv.tup λw hw=>?_;simp only[fT,CY,or_false]at hw;rcases hw with rfl|rfl|rfl|rfl|rfl
  exact Pv.int;exact Pv.int;refine Pv.tup λw hw=>?_;obtain⟨r,hr,rfl⟩:=gB.mp hw;exact X3 (NV sh ok r hr).2;refine Pv.tup λw hw=>?_;obtain⟨r,hr,rfl⟩:=gB.mp hw;exact Pv.int;refine Pv.tup λw hw=>?_;have:∀(es:List Ev)(d:List W),(∀w∈d,Pv w)->∀w∈es.foldl ck d,Pv w:=by
   intro es;induction es with
   |nil=>intro d h;exact h
   |cons e r ih=>
    intro d h;rw[kM];refine ih _ λw hw=>?_;rcases CO hw with hw|rfl
    exact h w hw;exact E3 (x:=(e.n,0))
  exact this _ _ (λw hw=>by rw[vcs hw];exact E3 (x:=(0,0))) w hw;rw[nP.mp hw];refine Pv.tup λw hw=>?_;obtain⟨r,hr,rfl⟩:=gB.mp hw;refine Pv.tup λw hw=>?_;obtain⟨r,hr,rfl⟩:=gB.mp hw;exact Pv.int
 rw[fD C.IU rfl];show fin h (exs (run F (k+5)) l6.body [aB (mW M),aC,aC,aC,aC,aC,aC,aC,aC,aC,aC,aC,aC,aC,aC,aC,aC,aC,aC,aC,aC] ⟨h.n,h.n,h.os⟩)=_;rw[eb];exact wX pv w5
end
theorem Yg{h h':VH}{w:W}:∃h2,fin h (.ok (.rt w) h')=.ok w h2:=by show ∃h2,leave h w h'=.ok w h2;unfold leave;split<;>exact⟨_,rfl⟩
theorem Cn{h:VH}{d c b:Nat}(D:Dk h d c b):d<h.n/\c<h.n:=by obtain⟨_,ns,cells,p,q,a1,a2,_⟩:=D;exact⟨cA a1,cA a2⟩
theorem jT{cl:Call}{c:E}{b:S}{ρ:En}{h h1:VH}(e:ev cl c ρ h=.ok (.bl false) h1):exs cl (.ite c b .skip) ρ h=.ok (.nx ρ) h1:=by rw[exs,e,aD];show exs _ .skip _ _=_;rw[exs]
theorem kL{cl:Call}{a b:E}{ρ:En}{h h1:VH}(ea:ev cl a ρ h=.ok (.bl false) h1):ev cl (.or a b) ρ h=ev cl b ρ h1:=by rw[ev,ea,aD]
theorem Yh{cl:Call}{a b:E}{ρ:En}{h h1:VH}(ea:ev cl a ρ h=.ok (.bl true) h1):ev cl (.and a b) ρ h=ev cl b ρ h1:=by rw[ev,ea,aD]
theorem Yi{cl:Call}{a b:E}{ρ:En}{h h1:VH}(ea:ev cl a ρ h=.ok (.bl false) h1):ev cl (.and a b) ρ h=.ok (.bl false) h1:=by rw[ev,ea,aD]
theorem jE{cl:Call}{c:Cp}{a b:E}{ρ:En}{h h1 h2:VH}{x y:W}{r:Bool}(ea:ev cl a ρ h=.ok x h1)(eb:ev cl b ρ h1=.ok y h2)(e:bw c h2 x y=aB r):ev cl (.cmp c a b) ρ h=.ok (.bl r) h2:=by rw[ev,ea,aD,eb,aD,e];rfl
theorem uL{cl:Call}{a:E}{ρ:En}{h h1:VH}{ws:List W}(ea:ev cl a ρ h=.ok (.tup ws) h1):ev cl (.not (.kQ (.oj .tuple a))) ρ h=.ok (.bl false) h1:=by refine nN (b:=true) ?_;rw[ev,ea,aD];rfl
theorem qh{cl:Call}{a b:E}{ρ:En}{h h1 h2:VH}{i:Int}(ea:ev cl a ρ h=.ok (.int i) h1)(eb:ev cl b ρ h1=.ok (.int i) h2):ev cl (.cmp .ne a b) ρ h=.ok (.bl false) h2:=by refine jE ea eb ?_;simp only[bw,uz,CH];rfl
theorem yH{x:Str}(hx:PyData.strOk x):SeqAt.shaped (.str x)=true:=by unfold SeqAt.shaped;show(PyData.strOk x&&_)=true;rw[hx];rfl
theorem Jv{h:VH}{x a b c d e:Str}(hx:PyData.strOk x)(ha:PyData.strOk a)(hb:PyData.strOk b)(hc:PyData.strOk c)(hd:PyData.strOk d)(he:PyData.strOk e):tP h (.str x) (.tup [.str a,.str b,.str c,.str d,.str e])=aB (a==x|| (b==x|| (c==x|| (d==x||e==x)))):=by simp[tP,aV,toD,bF,yH hx,yH ha,yH hb,yH hc,yH hd,yH he,fZ,PyData.eqv]
section
variable{F:Nat->Option Fn}(dZ:F 102=aB kG)(jU:F 155=aB iO)(sL:F 149=aB jA)
include dZ
theorem mC{k:Nat}{h:VH}{i lo hi:Int}(h1:lo<=i)(h2:i<=hi):run F (k+1) 102 [.int i,.int lo,.int hi] h=.ok (.bl true) h:=by rw[fD dZ rfl];simp[kG,exs,ev,eS,bw,ie,h1,h2]
theorem yI{k:Nat}{ρ:En}{h:VH}{a b c:E}{i lo hi:Int}(ea:ev (run F (k+1)) a ρ h=.ok (.int i) h)(eb:ev (run F (k+1)) b ρ h=.ok (.int lo) h)(ec:ev (run F (k+1)) c ρ h=.ok (.int hi) h)(h1:lo<=i)(h2:i<=hi) :
 ev (run F (k+1)) (.not (.kQ (.call 102 (.cons a (.cons b (.cons c .nil)))))) ρ h=.ok (.bl false) h:=nN (b:=true) (nt ea eb ec (mC dZ h1 h2))
include jU
theorem Yj{k:Nat}{h:VH}{w:W}{c wd g:Int}(m:jO w c wd g):run F (k+2) 155 [w,.int c,.int wd,.int g] h=.ok (.bl true) h:=by
 rw[fD jU rfl];have st:∀x:Str,(x=sX/\0<c/\c<wd-1)\/(x=eK/\0<c)\/(x=iY/\c<wd-1)\/x=cQ\/x=sS->exs (run F (k+1)) iO.body [aB (.str x),aB (.int c),aB (.int wd),aB (.int g)] ⟨h.n,h.n,h.os⟩=.ok (.rt (.bl true)) ⟨h.n,h.n,h.os⟩:=λx hx=>by
  have hin:∀h0:VH,tP h0 (.str x) (.tup [.str (bB "."),.str (bB "<"),.str (bB ">"),.str (bB "x"),.str (bB "s")])=aB true:=λh0=>by
   rw[Jv (by rcases hx with⟨rfl,_⟩|⟨rfl,_⟩|⟨rfl,_⟩|rfl|rfl<;>decide +kernel) (by decide +kernel) (by decide +kernel) (by decide +kernel) (by decide +kernel) (by decide +kernel)];rcases hx with⟨rfl,_⟩|⟨rfl,_⟩|⟨rfl,_⟩|rfl|rfl<;>decide +kernel
  have q1:∀h0:VH,cY h0 (.str x) (.str (bB "."))=aB (x==cQ):=λh0=>yo (by rcases hx with⟨rfl,_⟩|⟨rfl,_⟩|⟨rfl,_⟩|rfl|rfl<;>decide +kernel) (by decide +kernel);have q2:∀h0:VH,cY h0 (.str x) (.str (bB "s"))=aB (x==sS):=λh0=>yo (by rcases hx with⟨rfl,_⟩|⟨rfl,_⟩|⟨rfl,_⟩|rfl|rfl<;>decide +kernel) (by decide +kernel);have q3:∀h0:VH,cY h0 (.str x) (.str (bB "<"))=aB (x==eK):=λh0=>yo (by rcases hx with⟨rfl,_⟩|⟨rfl,_⟩|⟨rfl,_⟩|rfl|rfl<;>decide +kernel) (by decide +kernel);have q4:∀h0:VH,cY h0 (.str x) (.str (bB ">"))=aB (x==iY):=λh0=>yo (by rcases hx with⟨rfl,_⟩|⟨rfl,_⟩|⟨rfl,_⟩|rfl|rfl<;>decide +kernel) (by decide +kernel);have z:(x==cQ||x==sS)=true\/((x==cQ||x==sS)=false/\((decide (0<c)||x==iY)&& (decide (c<wd-1)||x==eK))):=by rcases hx with⟨rfl,a,b⟩|⟨rfl,a⟩|⟨rfl,a⟩|rfl|rfl;exact .inr ⟨by decide +kernel,by simp[a,b]⟩;exact .inr ⟨by decide +kernel,by simp[a]⟩;exact .inr ⟨by decide +kernel,by simp[a]⟩;exact .inl (by decide +kernel);exact .inl (by decide +kernel)
  generalize hb1:(x==cQ)=b1 at q1 z;generalize hb2:(x==sS)=b2 at q2 z;generalize hb3:(x==eK)=b3 at q3 z;generalize hb4:(x==iY)=b4 at q4 z;refine(aZ (ρ':=[aB (.str x),aB (.int c),aB (.int wd),aB (.int g)]) (h':=⟨h.n,h.n,h.os⟩) ?_).trans ?_;have e1:ev (run F (k+1)) (.kQ (.oj .tuple (.var 0))) [aB (.str x),aB (.int c),aB (.int wd),aB (.int g)] ⟨h.n,h.n,h.os⟩=.ok (.bl false) ⟨h.n,h.n,h.os⟩:=by rw[ev,ev,aE (x:=.str x) rfl,aD];rfl
  show exs (run F (k+1)) (.ite _ _ _) _ _=_;rw[exs,e1,aD];show exs (run F (k+1)) (.seq _ _) _ _=_;refine(aZ (jT ?_)).trans (by rw[exs]);refine(kL (h1:=⟨h.n,h.n,h.os⟩) (nN (b:=true) ?_)).trans ?_;rw[ev,aE (x:=.str x) rfl,aD];rfl;refine jE (x:=.str x) (aE rfl) (sJ (aJ aG (aJ aG (aJ aG (aJ aG (aJ aG bJ))))) rfl) ?_;simp only[bw,hin];rfl;have c1:ev (run F (k+1)) (.or (.cmp .eq (.var 0) (.cst (.str (bB ".")))) (.cmp .eq (.var 0) (.cst (.str (bB "s"))))) [aB (.str x),aB (.int c),aB (.int wd),aB (.int g)] ⟨h.n,h.n,h.os⟩=.ok (.bl (b1||b2)) ⟨h.n,h.n,h.os⟩:=
   wG (jE (aE (x:=.str x) rfl) aG (q1 ⟨h.n,h.n,h.os⟩)) (jE (aE (x:=.str x) rfl) aG (q2 ⟨h.n,h.n,h.os⟩))
  rcases z with z|⟨z,z2⟩;rw[z]at c1;refine iX ?_;rw[exs,c1,aD];exact iX (dR aG);rw[z]at c1;refine(aZ (jT c1)).trans (iX (dR ?_));rw[<-z2];refine BQ (wG (jE (aE (x:=.int c) rfl) aG rfl) (jE (aE (x:=.str x) rfl) aG (q4 ⟨h.n,h.n,h.os⟩))) (wG (jE (aE (x:=.int c) rfl) (eu (aE (x:=.int wd) rfl) aG rfl) rfl) (jE (aE (x:=.str x) rfl) aG (q3 ⟨h.n,h.n,h.os⟩)))
 have Jw:exs (run F (k+1)) iO.body [aB w,aB (.int c),aB (.int wd),aB (.int g)] ⟨h.n,h.n,h.os⟩=.ok (.rt (.bl true)) ⟨h.n,h.n,h.os⟩:=by
  rcases yw m with⟨rfl,a,b⟩|⟨rfl,a⟩|⟨rfl,a⟩|rfl|rfl|⟨p,q,rfl,h3,h4,h5,h6⟩;exact st _ (.inl ⟨rfl,a,b⟩);exact st _ (.inr (.inl ⟨rfl,a⟩));exact st _ (.inr (.inr (.inl ⟨rfl,a⟩)));exact st _ (.inr (.inr (.inr (.inl rfl))));exact st _ (.inr (.inr (.inr (.inr rfl))));refine(aZ (ρ':=[aB (.tup [.int p,.int q]),aB (.int c),aB (.int wd),aB (.int g)]) (h':=⟨h.n,h.n,h.os⟩) ?_).trans ?_;have e1:ev (run F (k+1)) (.kQ (.oj .tuple (.var 0))) [aB (.tup [.int p,.int q]),aB (.int c),aB (.int wd),aB (.int g)] ⟨h.n,h.n,h.os⟩=.ok (.bl true) ⟨h.n,h.n,h.os⟩:=by rw[ev,ev,aE (x:=.tup [.int p,.int q]) rfl,aD];rfl
  show exs (run F (k+1)) (.ite _ _ _) _ _=_;rw[exs,e1,aD];show exs (run F (k+1)) (.seq _ _) _ _=_;refine(aZ (jT ?_)).trans (by rw[exs]);refine(kL (qh (i:=2) (dN (ws:=[.int p,.int q]) (aE rfl) rfl) aG)).trans ?_;refine(kL (yI dZ (i:=p) (lo:=0) (hi:=g-1) (cg (aE (x:=.tup [.int p,.int q]) rfl) aG rfl) aG (eu (aE (x:=.int g) rfl) aG rfl) (by lia) (by lia))).trans ?_;exact yI dZ (i:=q) (lo:=0) (hi:=1) (cg (aE (x:=.tup [.int p,.int q]) rfl) aG rfl) aG aG (by lia) (by lia);have n1:∀x:Str,PyData.strOk x=true->∀h0:VH,cY h0 (.tup [.int (p:Int),.int (q:Int)]) (.str x)=aB false:=λx hx h0=>yD hx;have c2:ev (run F (k+1)) (.or (.cmp .eq (.var 0) (.cst (.str (bB ".")))) (.cmp .eq (.var 0) (.cst (.str (bB "s"))))) [aB (.tup [.int p,.int q]),aB (.int c),aB (.int wd),aB (.int g)] ⟨h.n,h.n,h.os⟩=.ok (.bl (false||false)) ⟨h.n,h.n,h.os⟩:=
   wG (jE (aE (x:=.tup [.int p,.int q]) rfl) aG (n1 (bB ".") (by decide +kernel) ⟨h.n,h.n,h.os⟩)) (jE (aE (x:=.tup [.int p,.int q]) rfl) aG (n1 (bB "s") (by decide +kernel) ⟨h.n,h.n,h.os⟩))
  refine(aZ (jT c2)).trans (iX (dR ?_));have:=BQ (cl:=run F (k+1)) (wG (jE (cl:=run F (k+1)) (h:=⟨h.n,h.n,h.os⟩) (ρ:=[aB (.tup [.int p,.int q]),aB (.int c),aB (.int wd),aB (.int g)]) (c:=.gt) (a:=.var 1) (b:=.cst (.int 0)) (aE (x:=.int c) rfl) aG rfl) (jE (c:=.eq) (a:=.var 0) (b:=.cst (.str (bB ">"))) (aE (x:=.tup [.int p,.int q]) rfl) aG (n1 (bB ">") (by decide +kernel) ⟨h.n,h.n,h.os⟩)))
   (wG (jE (c:=.lt) (a:=.var 1) (b:=.op .sub (.var 2) (.cst (.int 1))) (aE (x:=.int c) rfl) (eu (aE (x:=.int wd) rfl) aG rfl) rfl) (jE (c:=.eq) (a:=.var 0) (b:=.cst (.str (bB "<"))) (aE (x:=.tup [.int p,.int q]) rfl) aG (n1 (bB "<") (by decide +kernel) ⟨h.n,h.n,h.os⟩)))
  refine this.trans ?_;simp[h5,h6]
 show fin h (exs (run F (k+1)) iO.body [aB w,aB (.int c),aB (.int wd),aB (.int g)] ⟨h.n,h.n,h.os⟩)=_;rw[Jw];exact eS (bf _) rfl
end
section
theorem OH{cl:Call}{s:Int}{h:VH}:∀(n fu:Nat) (r g:Int),s<=r*2 ^ n->n<fu->∃r',dD (ev cl Em) (exs cl Eo) fu [aB (.int s),aB (.int g),aB (.int r)] h=.ok (.nx [aB (.int s),aB (.int (jj s n r g)),aB (.int r')]) h
 |n,0,r,g,_,hf=>by lia
 |n,fu+1,r,g,hs,hf=>by
  have ec:ev cl Em [aB (.int s),aB (.int g),aB (.int r)] h=.ok (.bl (decide (r<s))) h:=by unfold Em;exact jE (aE (x:=.int r) rfl) (aE (x:=.int s) rfl) rfl
  by_cases q:r<s;obtain⟨n,rfl⟩:∃m,n=m+1:=⟨n-1,by
   have:n≠0:=λz=>by
    subst z;rw[Int.pow_zero,Int.mul_one]at hs;lia
   lia⟩
  have eb:exs cl Eo [aB (.int s),aB (.int g),aB (.int r)] h=.ok (.nx [aB (.int s),aB (.int (g+1)),aB (.int (r*2))]) h:=by unfold Eo;refine(aZ (bX (x:=.int (r*2)) (eu (x:=.int 2) (y:=.int r) aG (aE rfl) ?_))).trans ((aZ (bX (x:=.int (g+1)) (eu (x:=.int g) (y:=.int 1) (aE rfl) aG rfl))).trans (by rw[exs];rfl));rw[xE r 2];exact lF (.inl (by decide))
  obtain⟨r',e⟩:=OH (cl:=cl) (s:=s) (h:=h) n fu (r*2) (g+1) (by rw[Int.mul_assoc,show(2:Int)*2 ^ n=2 ^ (n+1) by rw[C7,xE]];exact hs) (by lia);refine⟨r',?_⟩;rw[jm q]at ec;simp only[dD,ec,aD,eb,e,jj,if_pos q];refine⟨r,?_⟩;rw[jl q]at ec;have hd:jj s n r g=g:=by cases n<;>simp[jj,q]
  simp only[dD,ec,aD,hd]
theorem Yk{F:Nat->Option Fn}(sL:F 149=aB jA){k S:Nat}{h:VH}(h2:S<=16):run F (k+1) 149 [.int S] h=.ok (.int (aU S:Int)) h:=by
 rw[fD sL rfl];have hq:=ic.mp Om S (mF.mpr (by lia));rw[bQ,gz,gz]at hq;obtain⟨r',e3⟩:=OH (cl:=run F k) (s:=S) (h:=⟨h.n,h.n,h.os⟩) 5 fuel 1 0 (by lia) (by decide);rw[hq.1]at e3;have eb:exs (run F k) jA.body [aB (.int S),aC,aC] ⟨h.n,h.n,h.os⟩=.ok (.rt (.int (aU S:Int))) ⟨h.n,h.n,h.os⟩:=by refine(aZ (bX (x:=.int 0) aG)).trans ((aZ (bX (x:=.int 1) aG)).trans ?_);refine(aZ (ρ':=[aB (.int S),aB (.int (aU S:Int)),aB (.int r')]) (h':=⟨h.n,h.n,h.os⟩) ?_).trans (iX (dR (aE rfl)));rw[exs];exact e3
 show fin h (exs (run F k) jA.body [aB (.int S),aC,aC] ⟨h.n,h.n,h.os⟩)=_;rw[eb];exact eS (bf _) rfl
end
theorem Yl{cl:Call}{ρ:En}{h:VH}{n:Nat}{a e:E}{ix:List Nat}{tl:En}(ea:ev cl a ρ h=.ok (.int (n:Int)) h)(hl:n<1000)(hin:inner 1 ix ρ=aC::tl)
 (he:∀i:Nat,i<n->ev cl e (aB (.int (i:Int))::tl) h=.ok (.bl true) h):∃h',ev cl (.bi .all (.cons (.lc .bV (.cons a .nil) (.one 0) 1 ix (.cst (.bl true)) e) .nil)) ρ h=.ok (.bl true) h'/\Gm h h':=by
 obtain⟨ys,ρ',h',e1,hI⟩:=kU (nx:=aY .bV (.tup [.int n])) (tg:=bH (.one 0)) (e:=ev cl e) (n:=n)
  (I:=λi ρ h1 acc=>(∃x,ρ=x::tl)/\h1=h/\acc=bK i (W.bl true))
  (λi ρ h1 acc hi hI=>by
    obtain⟨⟨x,rfl⟩,rfl,rfl⟩:=hI;refine⟨.int (i:Int),aB (.int (i:Int))::tl,.bl true,h1,?_,rfl,he _ hi,⟨_,rfl⟩,rfl,?_⟩;rw[i6 (by lia),if_pos hi];rw[<-List.replicate_succ'])
  (λρ h1 acc hI=>by rw[i6 (by lia),if_neg (gC _)])
  (ρ:=inner 1 ix ρ) (h:=h) (by lia) ⟨⟨aC,hin⟩,rfl,rfl⟩
 obtain⟨_,rfl,rfl⟩:=hI;refine⟨_,?_,Gm.refl.new (o:=.lst (bK n (W.bl true)))⟩;rw[ev,aJ (nu (aJ ea bJ) e1 (by rw[qo];lia)) bJ,aD];show kC [.ref h'.n] _=_;have g:(h'.new (.lst (bK n (W.bl true)))).get h'.n=aB (.lst (bK n (W.bl true))):=dW;simp only[kC,g,Jg,jq,bM];have ha:(bK n true).all id=true:=ic.mpr λb hb=>vcs hb;rw[ha]
theorem Jx{w:W}{lo hi:Int}(h:within w lo hi):∃i,w=.int i/\lo<=i/\i<=hi:=by
 cases w<;>simp only[within]at h<;>try(cases h;done)
 rw[bQ,gz,gz]at h;exact⟨_,rfl,h⟩
theorem E5{ws:List W}{i:Nat}{h:VH}:aY .seq (.tup ws) i h=aB ws[i]?:=rfl
noncomputable abbrev dS(B:Bd)(x6 x7:Option W):En:=[aB B.w,aB (.int B.wd),aB (.int B.gr),aB (.tup (B.rows.map .tup)),aB (.tup B.fd),aB (.tup B.dr),x6,x7]
section
variable{F:Nat->Option Fn}(dZ:F 102=aB kG)(jU:F 155=aB iO)(sM:F 152=aB kH)
include dZ jU
theorem Ym{k:Nat}{h:VH}{B:Bd}{r:List W}{x6:Option W}(b:B.Ok)(hr:r∈B.rows):∃h',exs (run F (k+2)) Ep (dS B (aB (.tup r)) x6) h=.ok (.nx (dS B (aB (.tup r)) x6)) h'/\Gm h h':=by
 have ok:=b.r2 r hr;have w1:=b.w1;have w2:=b.w2;obtain⟨n,hn⟩:∃n:Nat,B.wd=n:=⟨B.wd.toNat,by lia⟩
 obtain⟨h',e1,g1⟩:=Yl (cl:=run F (k+2)) (ρ:=dS B (aB (.tup r)) x6) (h:=h) (n:=n) (a:=.var 1) (e:=Nq) (ix:=[2,6,1]) (tl:=[aB (.int B.gr),aB (.tup r),aB (.int B.wd)]) (by rw[<-hn];exact aE rfl) (by lia) rfl (λi hi=>by
  obtain⟨_,hm⟩:=wI ok (show(0:Int)<=i by lia) (by lia);have e0:=Iv ok (show(0:Int)<=i by lia) (by lia);exact uH (aJ (cg (x:=.tup r) (y:=.int i) (aE rfl) (aE rfl) e0) (aJ (aE rfl) (aJ (aE rfl) (aJ (aE rfl) bJ)))) (Yj dZ jU hm))
 refine⟨h',?_,g1⟩;unfold Ep;refine(aZ (jT (h1:=h) ((kL (h1:=h) (uL (ws:=r) (aE rfl))).trans (qh (i:=B.wd) ?_ (aE rfl))))).trans ((aZ (jT (nN e1))).trans (by rw[exs]));exact(dN (ws:=r) (aE rfl) rfl).trans (by rw[ok.1])
omit jU in
theorem Yn{k:Nat}{h:VH}{B:Bd}{d:W}{x6:Option W}(b:B.Ok)(hd:d∈B.dr):exs (run F (k+2)) Er (dS B x6 (aB d)) h=.ok (.nx (dS B x6 (aB d))) h:=by
 have f1:=b.f1;have dd:=b.d2 d hd;cases d<;>simp only[door]at dd<;>try(cases dd;done)
 rename_i us;rcases us with _|⟨a,_|⟨c,_|_⟩⟩<;>simp only[]at dd<;>try(cases dd;done)
 rw[bQ]at dd;obtain⟨i,rfl,i0,i1⟩:=Jx dd.1;have s1:exs (run F (k+2)) (.ite (.or (.not (.kQ (.oj .tuple (.var 7)))) (.or (.cmp .ne (.bi .len (.cons (.var 7) .nil)) (.cst (.int (2)))) (.not (.kQ (.call 102 (.cons (.idx (.var 7) (.cst (.int (0)))) (.cons (.cst (.int (0))) (.cons (.cst (.int (99))) .nil)))))))) (.seq (.ret (.cst (.bl false))) .skip) .skip) (dS B x6 (aB (.tup [.int i,c]))) h=.ok (.nx (dS B x6 (aB (.tup [.int i,c])))) h:=
  jT ((kL (h1:=h) (uL (ws:=[.int i,c]) (aE rfl))).trans ((kL (h1:=h) (qh (i:=2) (dN (ws:=[.int i,c]) (aE rfl) rfl) aG)).trans (yI (k:=k+1) dZ (i:=i) (lo:=0) (hi:=99) (cg (aE (x:=.tup [.int i,c]) rfl) aG rfl) aG aG i0 i1)))
 unfold Er;refine(aZ s1).trans ((aZ (jT (h1:=h) ?_)).trans (by rw[exs]));have ei:ev (run F (k+2)) (.idx (.var 7) (.cst (.int (1)))) (dS B x6 (aB (.tup [.int i,c]))) h=.ok c h:=cg (aE (x:=.tup [.int i,c]) rfl) aG rfl;have df:=dd.2;unfold yp at df;cases c with
 |aR=>exact Yi (jE ei aG rfl)
 |int j=>
  rw[show dQ (.int j)=false from rfl,Bool.false_or]at df;obtain⟨j',hj,j0,j1⟩:=Jx df;cases hj;exact(Yh (jE ei aG rfl)).trans (yI (k:=k+1) dZ (i:=j) (lo:=0) (hi:=(B.fd.length:Int)-1) ei aG (eu (dN (ws:=B.fd) (aE rfl) rfl) aG rfl) j0 j1)
 |_=>simp[dQ,within]at df
include sM
theorem Yo{k:Nat}{h:VH}{B:Bd}(b:B.Ok):run F (k+3) 152 [B.w] h=.ok (.bl true) h:=by
 have w1:=b.w1;have w2:=b.w2;have g1:=b.g1;have g2:=b.g2;have r1:=b.r1;have f1:=b.f1;have f2:=b.f2;have d1:=b.d1;let k0:VH:=⟨h.n,h.n,h.os⟩
 obtain⟨ρ',h1,e1,hI⟩:=pA (nx:=aY .seq (.tup (B.rows.map .tup))) (tg:=bH (.one 6)) (b:=exs (run F (k+2)) Ep) (n:=B.rows.length)
  (I:=λi ρ h1=>(∃x6,ρ=dS B x6 aC)/\Gm k0 h1)
  (λi ρ h1 hi hI=>by
    obtain⟨⟨x6,rfl⟩,w⟩:=hI;obtain⟨h2,e2,w2⟩:=Ym dZ jU (k:=k) (h:=h1) (x6:=aC) b (jF hi);exact⟨.tup B.rows[i],_,_,h2,by rw[E5,dO,cJ hi];rfl,rfl,e2,⟨_,rfl⟩,w.trans w2⟩)
  (λρ h1 hI=>by rw[E5,iS (by rw[bD];exact bf _)])
  B.rows.length 0 fuel (dS B aC aC) k0 (i9 _) (show _<1000000 by lia) ⟨⟨aC,rfl⟩,.refl⟩
 obtain⟨⟨x6,rfl⟩,Yp⟩:=hI;obtain⟨ρ',h2,e2,hI⟩:=pA (nx:=aY .seq (.tup B.dr)) (tg:=bH (.one 7)) (b:=exs (run F (k+2)) Er) (n:=B.dr.length)
  (I:=λi ρ h2=>(∃x7,ρ=dS B x6 x7)/\h2=h1)
  (λi ρ h2 hi hI=>by
    obtain⟨⟨x7,rfl⟩,rfl⟩:=hI;exact⟨B.dr[i],_,_,h2,by rw[E5,cJ hi],rfl,Yn dZ b (jF hi),⟨_,rfl⟩,rfl⟩)
  (λρ h1 hI=>by rw[E5,iS (bf _)])
  B.dr.length 0 fuel (dS B x6 aC) h1 (i9 _) (show _<1000000 by lia) ⟨⟨aC,rfl⟩,rfl⟩
 obtain⟨⟨x7,rfl⟩,rfl⟩:=hI;obtain⟨h3,e3,w3⟩:=Ci (cl:=run F (k+2)) (ρ:=dS B x6 x7) (h:=h2) (ws:=B.fd) (x:=.aR) (a:=.var 4) (e:=Nr) (ix:=[1]) (tl:=[aB (.int B.wd)]) (aE rfl) (by lia) rfl (λw hw=>by
  obtain⟨i,rfl,i0,i1⟩:=Jx (b.f3 w hw);exact nt (aE rfl) aG (eu (aE (x:=.int B.wd) rfl) aG rfl) (mC dZ i0 i1))
 have eb:exs (run F (k+2)) kH.body [aB B.w,aC,aC,aC,aC,aC,aC,aC] k0=.ok (.rt (.bl true)) h3:=by
  refine(aZ (jT (h1:=k0) ((kL (h1:=k0) (uL (ws:=[.int B.wd,.int B.gr,.tup (B.rows.map .tup),.tup B.fd,.tup B.dr]) (aE rfl))).trans (qh (i:=5) (dN (ws:=[.int B.wd,.int B.gr,.tup (B.rows.map .tup),.tup B.fd,.tup B.dr]) (aE rfl) rfl) aG)))).trans ?_;refine(aZ (ρ':=dS B aC aC) (h':=k0) ?_).trans ?_;rw[exs,aE (x:=B.w) rfl,aD];rfl;refine(aZ (jT (h1:=k0) (ρ:=dS B aC aC) ((kL (h1:=k0) (yI (k:=k+1) dZ (aE rfl) aG aG w1 w2)).trans (yI (k:=k+1) dZ (aE rfl) aG aG g1 g2)))).trans ?_;have hgt:ev (run F (k+2)) (.cmp .gt (.bi .len (.cons (.var 3) .nil)) (.cst (.int (60)))) (dS B aC aC) k0=.ok (.bl false) k0:=
   jE (dN (ws:=B.rows.map .tup) (aE rfl) rfl) aG (by show aB (decide ((60:Int)< ((B.rows.map W.tup).length:Int)))=_;rw[bD,jl (by lia)])
  refine(aZ (jT (h1:=k0) (ρ:=dS B aC aC) ((kL (h1:=k0) (uL (ws:=B.rows.map .tup) (aE rfl))).trans ((kL (h1:=k0) hgt).trans ((kL (h1:=k0) (uL (ws:=B.dr) (aE rfl))).trans (qh (i:=B.wd) ((dN (ws:=B.dr) (aE rfl) rfl).trans (by rw[d1])) (aE rfl))))))).trans ?_;have hch:ev (run F (k+2)) (.not (.qY .le .le (.cst (.int (1))) (.bi .len (.cons (.var 4) .nil)) (.cst (.int (4))))) (dS B aC aC) k0=.ok (.bl false) k0:=by
   have el:ev (run F (k+2)) (.bi .len (.cons (.var 4) .nil)) (dS B aC aC) k0=.ok (.int (B.fd.length:Int)) k0:=dN (ws:=B.fd) (aE rfl) rfl;have c1:(1:Int)<=B.fd.length:=by lia
   have c2:(B.fd.length:Int)<=4:=by lia
   rw[ev,ev,aG,aD,el,aD];simp[ev,bw,ie,c1,c2]
  refine(aZ (jT (h1:=k0) (ρ:=dS B aC aC) ((kL (h1:=k0) (uL (ws:=B.fd) (aE rfl))).trans hch))).trans ?_;refine(aZ ((eV (aE rfl)).trans e1)).trans ?_;refine(aZ ((eV (aE rfl)).trans e2)).trans ?_;exact iX (dR e3)
 rw[fD sM rfl];show fin h (exs (run F (k+2)) kH.body [aB B.w,aC,aC,aC,aC,aC,aC,aC] k0)=_;rw[eb];exact wX (λ_=>rfl) (Yp.trans w3)
end
theorem Yq:(yF.all λx=>decide ((aT x.1 x.2).length+2*aU x.1<=60))=true:=by decide +kernel
theorem OI{Pd:W->Prop}:∀{es:List Ev} {d:List W},(∀w∈d,Pd w)->(∀e∈es,Pd (.tup [.int e.n,.int 0]))->∀w∈es.foldl ck d,Pd w
 |[],d,h,_=>h
 |e::r,d,h,he=>by
  rw[kM];refine OI (λw hw=>?_) λx hx=>he x (eY _ hx);rcases CO hw with hw|rfl
  exact h w hw;exact he e eZ
theorem OJ{S P:Nat}{M:List (List (Int×Int))}(mo:uD S P M):∀d∈mw S P M,∃n:Int,d=.tup [.int n,.int 0]/\0<=n/\n<=99:=
 OI (λw hw=>⟨0,vcs hw,by decide,by decide⟩) λe he=>by
  obtain⟨j,i,row,x,h1,h2,rfl⟩:=ES he;have:=mo.p row (nC h1) x (nC h2);exact⟨x.1,rfl,this.1,this.2.1⟩
theorem OL{w:Nat}{es:List Ev}:∀l:List Nat,(l.map λg=>(bU w es g).length).sum=l.length*2
 |[]=>rfl
 |a::r=>by
  rw[fF,List.sum_cons,OL r,dg];show 2+_=_;lia
theorem Jy{S P:Nat}{M:List (List (Int×Int))}(sh:Shape S P)(mo:uD S P M):(cu S P M).Ok:=by
 obtain⟨r,r1,f1,f2,_⟩:=sh.rows;have w:=sh.wd;have p1:=sh.p1;have ok:=IK sh mo;have fr:=ic.mp Yq _ (B6 sh.s1 sh.p1 sh.p4 sh.sp);rw[gz]at fr;refine⟨?_,?_,?_,?_,?_,NV sh ok,?_,?_,?_,?_,?_⟩;show(1:Int)<=(bq S P:Nat)
 unfold bq;lia;show((bq S P:Nat):Int)<=40;lia;exact Int.natCast_nonneg _;have:=sI (S:=S);show((aU S:Nat):Int)<=8;lia;show(aT S P++(List.range' 0 (aU S)).flatMap (bU (bq S P) (bO S P 0 M))).length<=60;rw[fE,List.length_flatMap,OL,xw];lia;show 1<=((aX S P).map W.int).length;rw[bD,f1];exact sh.p1;show((aX S P).map W.int).length<=4;rw[bD,f1];exact sh.p4;intro f hf;obtain⟨c,hc,rfl⟩:=gB.mp hf;have:=f2 c hc;show(decide (0<=c)&&decide (c<=(bq S P:Int)-1))=true;rw[jm this.1,jm this.2];rfl;show((mw S P M).length:Int)=(bq S P:Nat)
 unfold mw;rw[ID,qo];intro d hd;obtain⟨n,rfl,n0,n1⟩:=OJ mo d hd;show door (.tup [.int n,.int 0]) (((aX S P).map W.int).length:Int)=true;rw[bD,f1];simp[door,within,yp,dQ];lia
noncomputable def bP(ns:List Int):List (List (Int×Int)):=(List.range ns.length).map λ(i:Nat)=>[(ns.getD i 0,((i:Int)+1) % (ns.length:Int))]
theorem Jz{ns:List Int}(h1:1<=ns.length)(h2:ns.length<=16):Shape ns.length 1:=⟨h1,bf _,by decide,by lia⟩
theorem JA{ns:List Int}(h1:1<=ns.length)(hb:∀x∈ns,0<=x/\x<=99):uD ns.length 1 (bP ns):=by
 refine⟨by unfold bP;rw[bD,uS],λrow hr=>?_,λrow hr x hx=>?_⟩;obtain⟨i,_,rfl⟩:=gB.mp hr;rfl;obtain⟨i,hi,rfl⟩:=gB.mp hr;rw[nP.mp hx];have hi:=mF.mp hi;have hm:ns.getD i 0∈ns:=by rw[i8,cJ hi];exact jF hi
 have:=hb _ hm;have p:(0:Int)<ns.length:=by lia
 exact⟨this.1,this.2,yX _ (by lia),yW _ p⟩
theorem OM{ns:List Int}{i:Nat}(hi:i<ns.length):(bP ns)[i]?=aB [(ns.getD i 0,((i:Int)+1) % (ns.length:Int))]:=by unfold bP;rw[dO,uR hi];rfl
structure yJ(F:Nat->Option Fn):Prop where
 a:oX F
 c:nv F
 y:gS F
 dZ:F 102=aB kG
 sL:F 149=aB jA
 sM:F 152=aB kH
 jU:F 155=aB iO
 JB:F 293=aB l7
theorem yJ.a3{F:Nat->Option Fn}(C:yJ F):gT F:=⟨C.a.f0,C.a.f1,C.a.f6⟩
theorem ON{F:Nat->Option Fn}(C:yJ F){k:Nat}{h:VH}{ns:List Int}(h1:1<=ns.length)(h2:ns.length<=16)(hb:∀x∈ns,0<=x/\x<=99) :
 run F (k+7) 293 [iW ns] h=.ok (.tup [(cu ns.length 1 (bP ns)).w,iW (aH 0 (aU ns.length))]) h:=by
 have sh:=Jz h1 h2;have mo:=JA h1 hb;let k0:VH:=⟨h.n,h.n,h.os⟩
 have e7:=V5 C.a (k:=k+3) (h:=k0) (w:=iW ns) (a:=1) (b:=16) (lo:=0) (hi:=99) Cg (λws e=>by
  cases e;refine⟨by rw[bD];lia,λx hx=>?_⟩;obtain⟨i,_,rfl⟩:=gB.mp hx;exact Jf)
 have w7:ym (iW ns) 1 16 0 99=true:=by show(jB (.tup (ns.map .int)) 1 16&& (ns.map W.int).all (within · 0 99))=true;rw[bQ];refine⟨?_,ic.mpr λx hx=>?_⟩;simp[jB];lia;obtain⟨i,hi,rfl⟩:=gB.mp hx;have:=hb i hi;show(decide (0<=i)&&decide (i<=99))=true;rw[jm this.1,jm this.2];rfl
 rw[w7]at e7;obtain⟨ys,ρ',h',e1,hI⟩:=kU (nx:=aY .lX (iW ns)) (tg:=bH (.many [0,1])) (e:=ev (run F (k+6)) HY) (n:=ns.length)
  (I:=λi ρ h1 acc=>(∃x y,ρ=[x,y,aB (iW ns)])/\h1=k0/\acc=((bP ns).take i).map cz)
  (λi ρ h1 acc hi hI=>by
    obtain⟨⟨x,y,rfl⟩,rfl,rfl⟩:=hI;have hx:=cJ hi;have p:(0:Int)<ns.length:=by lia
    refine⟨.tup [.int (i:Int),.int ns[i]],[aB (.int (i:Int)),aB (.int ns[i]),aB (iW ns)],cz [(ns.getD i 0,((i:Int)+1) % (ns.length:Int))],k0,?_,rfl,?_,⟨_,_,rfl⟩,rfl,?_⟩;show aB (((ns.map W.int)[i]?).map λw=>W.tup [.int i,w])=_;rw[dO,hx];rfl;have hg:ns.getD i 0=ns[i]:=by rw[i8,hx];rfl
    rw[hg];unfold HY;refine sJ (aJ (sJ (aJ (aE (x:=.int ns[i]) rfl) (aJ (eu (eu (x:=.int (i:Int)) (aE rfl) aG rfl) ((dN (ws:=ns.map .int) (aE (x:=iW ns) rfl) rfl).trans (by rw[bD])) ?_) bJ)) rfl) bJ) rfl;show(Res.of ((if decide ((0:Int)<ns.length)then aB (((i:Int)+1) % (ns.length:Int))else aC).map W.int) k0)=_;rw[if_pos (jm p)];rfl;rw[pI,OM hi,iu];rfl)
  (λρ h1 acc hI=>by
    show aB (((ns.map W.int)[ns.length]?).map λw=>W.tup [.int ns.length,w])=_;rw[iS (by rw[bD];exact bf _)];rfl)
  (ρ:=inner 2 [0] [aB (iW ns),aC,aC]) (h:=k0) (by lia) ⟨⟨aC,aC,rfl⟩,rfl,rfl⟩
 obtain⟨_,rfl,rfl⟩:=hI;have hall:(bP ns).take ns.length=bP ns:=List.take_of_length_le (by rw[mo.l];exact bf _);rw[hall]at e1;have Yr:((bP ns).map cz).length=ns.length:=by rw[bD,mo.l]
 let k1:=k0.new (.lst ((bP ns).map cz));have e3:=X6 C.a3 C.c C.y (k:=k) (h:=k1) sh mo;have eb:exs (run F (k+6)) l7.body [aB (iW ns),aC,aC] k0=.ok (.rt (.tup [(cu ns.length 1 (bP ns)).w,iW (aH 0 (aU ns.length))])) k1:=by refine(aZ (jT (h1:=k0) (nN (b:=true) ?_))).trans ?_;exact uH (aJ (aE rfl) (aJ aG (aJ aG (aJ aG (aJ aG bJ))))) e7;refine(aZ (ρ':=[aB (iW ns),aB (cu ns.length 1 (bP ns)).w,aB (.tup ((cH ns.length).map iW))]) (h':=k1) ?_).trans ?_;have ec:=uF (cl:=run F (k+6)) (n:=187) (qc (x:=.ref k0.n) (h1:=k1) (nu (k:=.lX) (t:=.many [0,1]) (ow:=2) (ix:=[0]) (aE (x:=iW ns) (i:=0) (ρ:=[aB (iW ns),aC,aC]) (h:=k0) rfl) e1 (by rw[Yr];lia)) (nM dW)) e3;show exs (run F (k+6)) (.vF [1,2] _) _ k0=_;rw[exs,ec,aD];rfl;refine iX (dR (kK (aE rfl) (cg (aE (x:=.tup ((cH ns.length).map iW)) rfl) aG ?_)));refine lR (j:=0) ?_;unfold cH;rw[dO,dO,uR (by lia)];rfl
 rw[fD C.JB rfl];show fin h (exs (run F (k+6)) l7.body [aB (iW ns),aC,aC] k0)=_;rw[eb];refine wX (Pv.tup λw hw=>?_) (Gm.refl.new);rcases fT.mp hw with rfl|hw
 exact uJ (Jy sh mo);rw[nP.mp hw];refine Pv.tup λw hw=>?_;obtain⟨r,hr,rfl⟩:=gB.mp hw;exact Pv.int
noncomputable abbrev qi(sc dk nm:W)(x3:Option W)(wd fd b l:W)(x8:Option W):En:=[aB sc,aB dk,aB nm,x3,aB wd,aB fd,aB b,aB l,x8]
theorem Ys{t n:Nat}:(((t % n:Nat):Int)+1) % (n:Int)=(((t+1) % n:Nat):Int):=by rw[show((t % n:Nat):Int)+1=((t % n+1:Nat):Int) by push_cast;rfl,<-Int.natCast_emod,Nat.mod_add_mod]
section
variable{F:Nat->Option Fn}(C:yJ F)
include C
theorem Yt{k t:Nat}{h:VH}{ns:List Int}{sc dk nm fd:W}{x8:Option W}(h1:1<=ns.length)(h2:ns.length<=16)(hb:∀x∈ns,0<=x/\x<=99) :
 ∃y8 h',exs (run F (k+1)) Et (qi sc dk nm (aB (.int (t:Int))) (iW ns) fd (cu ns.length 1 (bP ns)).w (iW (aH ((t % ns.length:Nat):Int) (aU ns.length))) x8) h
  = .ok (.nx (qi sc dk nm (aB (.int (t:Int))) (iW ns) fd (cu ns.length 1 (bP ns)).w (iW (aH (((t+1) % ns.length:Nat):Int) (aU ns.length))) y8)) h':=by
 have sh:=Jz h1 h2;have mo:=JA h1 hb;have hs:t % ns.length<ns.length:=Nat.mod_lt _ h1;have hM:=OM hs;generalize hS:t % ns.length=s at hs hM ⊢;have Yu:((s:Int)+1) % (ns.length:Int)=(((t+1) % ns.length:Nat):Int):=by rw[<-hS,Ys]
 rw[Yu]at hM;obtain⟨cs,ts,e1,d1,c0,c1⟩:=WQ sh mo hM (f:=0) (x:=(ns.getD s 0,(((t+1) % ns.length:Nat):Int))) rfl;have ok:=Jy sh mo;have pC:=sh.col (f:=0) (by decide);have hlen:=sh.rows.2.2.1;have hfd:(cu ns.length 1 (bP ns)).fd[0]?=aB (.int ((aM ns.length 1).col 0)):=by show((aX ns.length 1).map W.int)[0]?=_;rw[dO,pC,i8,cJ (by lia)];rfl
 have hc2:=sh.rows.2.2.2.1 ((aX ns.length 1).getD 0 0) (by
  rw[i8,cJ (show 0< (aX ns.length 1).length by lia)];exact jF _)
 rw[<-pC]at hc2;have hr:=ok.r2;have r1:=ok.r1;obtain⟨i,h',e2,g2,w2⟩:=XJ C.c (k:=k) (h:=h) (B:=cu ns.length 1 (bP ns)) (f:=0) (ls:=aH s (aU ns.length)) (by rw[pe];exact hr) (by lia) hfd hc2.1 (by show _< ((bq ns.length 1:Nat):Int);lia) wR e1;obtain⟨cl,hcl⟩:∃cl:Nat,bE ((aM ns.length 1).col 0) cs=cl:=⟨(bE ((aM ns.length 1).col 0) cs).toNat,by lia⟩
 rw[hcl]at d1 g2;rw[qx]at d1;generalize hl2:aH (((t+1) % ns.length:Nat):Int) (aU ns.length)=l2 at g2 ⊢;refine⟨aB (.ref i),h',?_⟩;unfold Et;refine(aZ (bX (x:=.ref i) (h1:=h') (nt (x:=(cu ns.length 1 (bP ns)).w) (y:=iW (aH s (aU ns.length))) (z:=.int 0) (aE rfl) (aE rfl) aG e2))).trans ?_;have i0:bT h' (.ref i) (.int 0)=aB (.int (cl:Int)):=by simp only[bT,g2];rfl
 have i1:bT h' (.ref i) (.int 1)=aB (iW l2):=by simp only[bT,g2];rfl
 have Yv:ev (run F (k+1)) (.cmp .xW (.var 8) (.cst .aR)) (qi sc dk nm (aB (.int (t:Int))) (iW ns) fd (cu ns.length 1 (bP ns)).w (iW (aH s (aU ns.length))) (aB (.ref i))) h'=.ok (.bl false) h':=jE (aE (x:=.ref i) rfl) aG rfl;have en:ev (run F (k+1)) (.idx (.idx (.idx (.var 6) (.cst (.int (4)))) (.idx (.var 8) (.cst (.int (0))))) (.cst (.int (0)))) (qi sc dk nm (aB (.int (t:Int))) (iW ns) fd (cu ns.length 1 (bP ns)).w (iW (aH s (aU ns.length))) (aB (.ref i))) h'=.ok (.int (ns.getD s 0)) h':=
  cg (x:=.tup [.int (ns.getD s 0),.int 0]) (cg (x:=.tup (cu ns.length 1 (bP ns)).dr) (cg (aE (x:=(cu ns.length 1 (bP ns)).w) rfl) aG rfl) (cg (aE (x:=.ref i) rfl) aG i0) (lR d1)) aG rfl
 have ew:ev (run F (k+1)) (.idx (.var 4) (.op .mod (.var 3) (.bi .len (.cons (.var 4) .nil)))) (qi sc dk nm (aB (.int (t:Int))) (iW ns) fd (cu ns.length 1 (bP ns)).w (iW (aH s (aU ns.length))) (aB (.ref i))) h'=.ok (.int (ns.getD s 0)) h':=by
  refine cg (x:=iW ns) (y:=.int s) (aE rfl) (eu (x:=.int (t:Int)) (aE rfl) ((dN (ws:=ns.map .int) (aE (x:=iW ns) rfl) rfl).trans (by rw[bD])) ?_) (lR ?_);have p:(0:Int)<ns.length:=by lia
  show(Res.of ((if decide ((0:Int)<ns.length)then aB ((t:Int) % (ns.length:Int))else aC).map W.int) h')=_;rw[if_pos (jm p),<-Int.natCast_emod,hS];rfl;rw[dO,i8,cJ hs];rfl
 refine(aZ (jT (h1:=h') ((kL Yv).trans (qh en ew)))).trans ?_;exact(aZ (bX (x:=iW l2) (cg (aE (x:=.ref i) rfl) aG i1))).trans (by rw[exs];rfl)
end
section
variable{F:Nat->Option Fn}(C:yJ F)(T:mj F)(sN:F 700=aB BN)
include T in
theorem Yw{k d c b n:Nat}{h:VH}{nm:Int}(D:Dk h d c b)(hb:b<1000)(hn:n<=16)(m1:1<=nm)(m2:nm<=100) :
 ∃(ns:List Int) (h':VH),ig (aY .bV (.tup [.int n])) (bH (.one 0)) (λ_ h=>.ok (.bl true) h) (ev (run F (k+3)) Es) fuel 0 [aC,aB (.ref d),aB (.int nm)] h []=.ok (ns.map .int) h'/\ns.length=n/\∀x∈ns,0<=x/\x<=99:=by
 obtain⟨ys,ρ',h',e1,hI⟩:=kU (nx:=aY .bV (.tup [.int n])) (tg:=bH (.one 0)) (e:=ev (run F (k+3)) Es) (n:=n)
  (I:=λi ρ h1 acc=>∃x ns,ρ=[x,aB (.ref d),aB (.int nm)]/\acc=ns.map W.int/\ns.length=i/\(∀x∈ns,(0:Int)<=x/\x<=99)/\Dk h1 d c (b+2*i))
  (λi ρ h1 acc hi hI=>by
    obtain⟨x,ns,rfl,rfl,li,ok,D1⟩:=hI;obtain⟨u,h6,e6,u0,u1,D6,K6⟩:=take T (k:=k) (m:=nm) (h:=h1) D1 (by lia) (by lia) (by lia);refine⟨.int (i:Int),[aB (.int (i:Int)),aB (.ref d),aB (.int nm)],.int u,h6,?_,rfl,nq (aE rfl) (aE rfl) e6,_,ns++[u],rfl,by rw[iu];rfl,by rw[fE,li];rfl,λy hy=>?_,D6.mono (by lia)⟩;rw[i6 (by lia),if_pos hi];rcases xx.mp hy with hy|hy;exact ok y hy;rw[nP.mp hy];exact⟨u0,by lia⟩)
  (λρ h1 acc hI=>by rw[i6 (by lia),if_neg (gC _)])
  (ρ:=[aC,aB (.ref d),aB (.int nm)]) (h:=h) (by lia) ⟨aC,[],rfl,rfl,rfl,(λ_ h=>by cases h),D.mono (by lia)⟩
 obtain⟨_,ns,_,rfl,li,ok,_⟩:=hI;exact⟨ns,h',e1,li,ok⟩
include C T sN in
theorem Co{ns:List Int}(hl:ns.length<=63):yk (run F 30 700 [.fz (ns.map .int)] ⟨0,0,[]⟩)=true:=by
 rw[show(30:Nat)=29+1 from rfl,fD sN rfl];obtain⟨h1,e1,D1⟩:=IS T (k:=28) (h:=⟨0,0,[]⟩) hl;generalize hsc:W.fz (ns.map .int)=sc at *;clear hl hsc;let pq:=h1.new (.lst [.int 1,.int 2,.int 3,.int 100]);obtain⟨l1,l2⟩:=Cn D1;obtain⟨r,h2,e2,r0,r1,D2,K2⟩:=take T (k:=26) (m:=4) (h:=pq) D1.new (by decide) (by decide) (by decide);have gn:h2.get h1.n=aB (.lst [.int 1,.int 2,.int 3,.int 100]):=K2.get h1.n _ (by lia) (by lia) dW;obtain⟨nm,en,n0,n1⟩:∃nm:Int,bT h2 (.ref h1.n) (.int r)=aB (.int nm)/\1<=nm/\nm<=100:=by
  simp only[bT,gn];have:r=0\/r=1\/r=2\/r=3:=by lia
  rcases this with rfl|rfl|rfl|rfl;exact⟨1,rfl,by decide,by decide⟩;exact⟨2,rfl,by decide,by decide⟩;exact⟨3,rfl,by decide,by decide⟩;exact⟨100,rfl,by decide,by decide⟩
 obtain⟨q,h3,e3,q0,q1,D3,K3⟩:=take T (k:=26) (m:=16) (h:=h2) D2 (by decide) (by decide) (by decide);obtain⟨n,hn⟩:∃n:Nat,1+q=n:=⟨(1+q).toNat,by lia⟩
 obtain⟨ws,h4,e4,lw,E6⟩:=Yw T (k:=26) (n:=n) (nm:=nm) D3 (by decide) (by lia) n0 n1;have w1:1<=ws.length:=by lia
 have w2:ws.length<=16:=by lia
 have sh:=Jz w1 w2;have mo:=JA w1 E6;have ok:=Jy sh mo;have iN:=sh.iN;let h5:=h4.new (.lst (ws.map .int));have ew:=ON C (k:=22) (h:=h5) w1 w2 E6;generalize hB:cu ws.length 1 (bP ws)=B at ew ok;generalize hG:aH 0 (aU ws.length)=l0 at ew;have lG:l0.length=aU ws.length:=by rw[<-hG,pe]
 have bG:eU l0:=by rw[<-hG];exact wR
 let fd:W:=.tup [B.w,iW l0];let dk:W:=.ref (0+1);have hdr:∀w∈B.dr,ev (run F 29) HZ (aB w:: ([]:En)) h5=.ok (.bl true) h5:=λw hw=>by
  rw[<-hB]at hw;obtain⟨z,rfl,_,_⟩:=OJ mo w hw;exact nt (cg (x:=.tup [.int z,.int 0]) (aE rfl) aG rfl) aG aG (mC (k:=28) C.dZ (by decide) (by decide))
 obtain⟨h6,e6,g6⟩:=Ci (cl:=run F 29) (ρ:=qi sc dk (.int nm) aC (iW ws) fd B.w (iW l0) aC) (h:=h5) (ws:=B.dr) (x:=.aR) (a:=.idx (.var 6) (.cst (.int 4))) (e:=HZ) (ix:=[]) (tl:=[]) (cg (aE (x:=B.w) rfl) aG rfl) (by have:=ok.d1;have:=ok.w2;lia) rfl hdr;have hls:∀w∈l0.map W.int,ev (run F 29) Ia (aB w:: ([]:En)) h6=.ok (.bl true) h6:=λw hw=>by
  obtain⟨i,hi,rfl⟩:=gB.mp hw;have:=bG i hi;exact nt (aE rfl) aG aG (mC (k:=28) C.dZ (by lia) (by lia))
 obtain⟨h7,e7,g7⟩:=Ci (cl:=run F 29) (ρ:=qi sc dk (.int nm) aC (iW ws) fd B.w (iW l0) aC) (h:=h6) (ws:=l0.map .int) (x:=.aR) (a:=.var 7) (e:=Ia) (ix:=[]) (tl:=[]) (aE rfl) (by rw[bD,lG];have:=sI (S:=ws.length);lia) rfl hls;obtain⟨ρ8,h8,e8,hI⟩:=pA (nx:=aY .bV (.tup [.int (3*ws.length+3:Nat)])) (tg:=bH (.one 3)) (b:=exs (run F 29) Et) (n:=3*ws.length+3)
  (I:=λi ρ _=>∃x3 x8,ρ=qi sc dk (.int nm) x3 (iW ws) fd B.w (iW (aH ((i % ws.length:Nat):Int) (aU ws.length))) x8)
  (λi ρ h hi hI=>by
    obtain⟨x3,x8,rfl⟩:=hI;obtain⟨y8,h',e⟩:=Yt C (k:=28) (t:=i) (h:=h) (sc:=sc) (dk:=dk) (nm:=.int nm) (fd:=fd) (x8:=x8) w1 w2 E6;rw[hB]at e;refine⟨.int (i:Int),_,_,h',?_,rfl,e,⟨_,_,rfl⟩⟩;rw[i6 (by lia),if_pos hi])
  (λρ h hI=>by rw[i6 (by lia),if_neg (gC _)])
  (3*ws.length+3) 0 fuel (qi sc dk (.int nm) aC (iW ws) fd B.w (iW l0) aC) h7 (i9 _) (show _<1000000 by lia) ⟨aC,aC,by rw[Nat.zero_mod,<-hG];rfl⟩
 obtain⟨x3,x8,rfl⟩:=hI;have e9:=ON C (k:=22) (h:=h8) w1 w2 E6;rw[hB,hG]at e9;have hp:gu 24 fd=true:=by
  show([B.w,iW l0].all (gu 23))=true;rw[pK,pK,bQ,bQ];refine⟨NC ok 17,?_,rfl⟩;show((l0.map W.int).all (gu 22))=true;exact ic.mpr λw hw=>by
   obtain⟨i,_,rfl⟩:=gB.mp hw;rfl
 have eb:exs (run F 29) BN.body [aB sc,aC,aC,aC,aC,aC,aC,aC,aC] ⟨0,0,[]⟩=.ok (.rt (.bl true)) h8:=by
  refine(aZ (bX (h1:=h1) (x:=dk) (uF (aE rfl) e1))).trans ?_;refine(aZ (bX (h1:=h2) (x:=.int nm) (cg (x:=.ref h1.n) (y:=.int r) (fY (aJ aG (aJ aG (aJ aG (aJ aG bJ)))) rfl) (nq (aE (x:=dk) rfl) aG e2) en))).trans ?_;have ea:ev (run F 29) (.op .add (.cst (.int (1))) (.call 5 (.cons (.var 1) (.cons (.cst (.int (16))) .nil)))) [aB sc,aB dk,aB (.int nm),aC,aC,aC,aC,aC,aC] h2=.ok (.int n) h3:=
   eu (x:=.int 1) (y:=.int q) aG (nq (aE (x:=dk) rfl) aG e3) (mD (λz:Int=>Res.ok (W.int z) h3) hn)
  have el:ev (run F 29) (.lc .bV (.cons (.op .add (.cst (.int (1))) (.call 5 (.cons (.var 1) (.cons (.cst (.int (16))) .nil)))) .nil) (.one 0) 1 [1,2] (.cst (.bl true)) Es) [aB sc,aB dk,aB (.int nm),aC,aC,aC,aC,aC,aC] h2=.ok (.ref h4.n) h5:=
   nu (h1:=h3) (x:=.tup [.int n]) (aJ ea bJ) e4 (by rw[bD];lia)
  refine(aZ (bX (h1:=h5) (x:=iW ws) (qc (x:=.ref h4.n) (h1:=h5) el (nM dW)))).trans ?_;refine(aZ (bX (h1:=h5) (x:=fd) (uF (aE rfl) ew))).trans ?_;refine(aZ (jT (h1:=h5) (ρ:=[aB sc,aB dk,aB (.int nm),aC,aB (iW ws),aB fd,aC,aC,aC]) ((kL (h1:=h5) (uL (ws:=[B.w,iW l0]) (aE rfl))).trans ((kL (h1:=h5) (qh (i:=2) (dN (ws:=[B.w,iW l0]) (aE rfl) rfl) aG)).trans (nN (b:=true) (uF (cg (x:=fd) (aE rfl) aG rfl) (Yo (k:=26) C.dZ C.jU C.sM ok))))))).trans ?_;refine(aZ (ρ':=qi sc dk (.int nm) aC (iW ws) fd B.w (iW l0) aC) (h':=h5) ?_).trans ?_;show exs (run F 29) (.vF [6,7] (.var 5)) _ h5=_;rw[exs,aE (x:=fd) rfl,aD];rfl;have hfl:B.fd.length=1:=by rw[<-hB];show((aX ws.length 1).map W.int).length=1;rw[bD];exact sh.rows.2.2.1
  refine(aZ (jT (h1:=h6) ((kL (h1:=h5) (qh (i:=1) ((dN (ws:=B.fd) (cg (x:=B.w) (aE rfl) aG rfl) rfl).trans (by rw[hfl];rfl)) aG)).trans (nN e6)))).trans ?_;have hgr:B.gr=(aU ws.length:Int):=by rw[<-hB];rfl
  refine(aZ (jT (h1:=h6) (qh (i:=B.gr) (cg (x:=B.w) (aE rfl) aG rfl) (uF ((dN (ws:=ws.map .int) (aE (x:=iW ws) rfl) rfl).trans (by rw[bD])) (by rw[hgr];exact Yk (k:=28) C.sL w2))))).trans ?_;refine(aZ (jT (h1:=h6) ((kL (h1:=h6) (uL (ws:=l0.map .int) (aE rfl))).trans (qh (i:=B.gr) ((dN (ws:=l0.map .int) (aE (x:=iW l0) rfl) rfl).trans (by rw[bD,lG,hgr])) (cg (x:=B.w) (aE rfl) aG rfl))))).trans ?_;refine(aZ (jT (nN e7))).trans ?_;refine(aZ ((eV (h1:=h7) (x:=.tup [.int (3*ws.length+3:Nat)]) (aJ (eu (x:=.int (3* (ws.length:Int))) (eu (x:=.int 3) aG ((dN (ws:=ws.map .int) (aE (x:=iW ws) rfl) rfl).trans (by rw[bD])) (lF (.inl (by decide)))) aG rfl) bJ)).trans e8)).trans ?_;refine iX (dR (jE (x:=fd) (y:=fd) (h1:=h8) (uF (aE (x:=iW ws) rfl) e9) (aE rfl) (V6 hp)))
 show yk (fin ⟨0,0,[]⟩ (exs (run F 29) BN.body [aB sc,aC,aC,aC,aC,aC,aC,aC,aC] ⟨0,0,[]⟩))=true;rw[eb];obtain⟨h9,e9⟩:=Yg (h:=⟨0,0,[]⟩) (h':=h8) (w:=.bl true);rw[e9];rfl
end
structure Cq(F:Nat->Option Fn):Prop where
 c:yJ F
 t:mj F
 sN:F 700=aB BN
theorem Yx{F:Nat->Option Fn}(C:Cq F){ns:List Int}(hl:ns.length<=63):yk (run F 30 700 [.fz (ns.map .int)] ⟨0,0,[]⟩)=true:=Co C.c C.t C.sN hl
end RF
namespace HD
open PySem PySem.W PySem.Calls PyProof.Rows
noncomputable section
noncomputable def p:ai:=PySem.Challenge.pw_ballrockers_k56_word_boards
noncomputable abbrev S(x:String):Str:=Str.ofString x
noncomputable abbrev U(x:String)(t:Tok):aa:=Value.str (S x) t
noncomputable abbrev R(a:ah):aa:=Value.ref a
noncomputable abbrev I(i:Int)(t:Tok):aa:=Value.int i t
noncomputable abbrev E(P:Params)(x:String)(t:Tok)(v:aa):DictEntry:=DictEntry.mk (PyData.keyHash P (S x)) (Value.str (S x) t) v
noncomputable abbrev N(o:Obj)(l r:BT):BT:=BT.node o l r
noncomputable abbrev Z:BT:=BT.nil
noncomputable abbrev L(o:Obj):BT:=BT.node o Z Z
noncomputable abbrev Y(c:String)(d:Data):Obj:=Obj.mk (Value.type c) aC d #[]
noncomputable abbrev X(d:Data):Obj:=Obj.mk Value.none aC d #[]
noncomputable def wZ(l:List aq)(i:Nat):aq:=l.getD i (Stmt.Pass ⟨0,0,0,0⟩)
noncomputable def OO:aq->List aq|.FunctionDef _ _ b _ _ _ _ _ _ _=>b|.ClassDef _ _ _ b _ _ _ _ _ _ _=>b|_=>[]
noncomputable def OP:aq->Arguments|.FunctionDef _ a _ _ _ _ _ _ _ _=>a|_=>⟨[],[],aC,[],[],aC,[]⟩
noncomputable def OQ:aq->ay|.FunctionDef _ _ _ _ _ _ s _ _ _=>s|_=>p.main.scope
noncomputable def fb(i:Nat):List aq:=OO (wZ p.main.body i)
noncomputable def fa(i:Nat):Arguments:=OP (wZ p.main.body i)
noncomputable def fs(i:Nat):ay:=OQ (wZ p.main.body i)
noncomputable def cb(i j:Nat):List aq:=OO (wZ (fb i) j)
noncomputable def ca(i j:Nat):Arguments:=OP (wZ (fb i) j)
noncomputable def cs(i j:Nat):ay:=OQ (wZ (fb i) j)
noncomputable abbrev O:aa:=Value.none
noncomputable abbrev J(i:Int):aa:=Value.int i 0
noncomputable abbrev V(t:Tok):aa:=Value.str (S "/claim/cut.py") t
noncomputable abbrev A(l:Array aa):Data:=Data.fields l
noncomputable abbrev B(f:au):Data:=Data.func f
noncomputable abbrev G(x:String)(i:Nat)(g:ah)(c:List (Str×ah))(d k o m:aa)(n:Option ah)(cd ct:aa)(b:ah):au:=FuncData.mk (S x) (S x) (fa i) (FuncBody.stmts (fb i)) (fs i) g c d k o m n cd ct b
section
variable(P:Params)
noncomputable def N0:Nat:=3806
noncomputable def lo:List Str:=[S "MOST_STANDS",S "fallen",S "heading_behind"]
noncomputable def keep:List Nat:=[1,2,3,4,6,7,8,9,10,11,13,14,16,17,18,20,21,22,26,27,28,29,30,31,32,33,34,35,36,37,39,40,41,42,43,44,45,46,47,48]
noncomputable def life:Life:=(Life.mk [] [] [] 0 [] [] false #[] [] 0 false false false 0 [2000,10,10] false 0 true [] [] 0 false)
noncomputable def m0:Nat:=11
noncomputable def ann:Option aa:=(aB (R 6))
noncomputable def env:Env:={scope:=p.main.scope,locals:=mainNs,globals:=mainNs,cells:=[],code:=(R 13),frame:=aB 14}
noncomputable def bd:List aq:=behindTheImports p
noncomputable def cd:Code:=Code.body bd env
noncomputable def fr:List Frame:=[topFrame (Pos.mk 0 0 0 0)]
noncomputable abbrev qC(n:String)(t:Nat)(l k:Int)(r m:Nat):Obj:=Y "code" (A #[U n t,U n (t+1),V (t+2),J l,J k,J 0,J 0,J 3,R r,Value.bool true,J 181,R (r+1),O,R (r+2),R (r+3),R (r+4),J (Int.ofNat m),J l,V (m+1)])
noncomputable abbrev qD(n:String)(t:Nat)(l k:Int)(r m:Nat):Obj:=Y "code" (A #[U n t,U n (t+1),V (t+2),J l,J k,J 0,J 0,J 3,R r,Value.bool true,J 181,R (r+1),O,O,O,R (r+2),J (Int.ofNat m),J l,V (m+1)])
noncomputable def qU:Nat->List String->List aa|_,[]=>[]|t,x::r=>U x t::qU (t+1) r
noncomputable abbrev qT(t:Nat)(l:List String):Obj:=Y "tuple" (Data.seq (qU t l).toArray 0)
noncomputable abbrev qF(n:String)(i:Nat)(u:aa)(r:ah):Obj:=Y "function" (B (G n i 3 [] O O O u aC (R r) O 0))
noncomputable abbrev qG(n:String)(i:Nat):Obj:=X (B (G n i 0 [] O O O O aC O O 0))
noncomputable def qJ:List (Int×Nat)->List aa|[]=>[]|(a,b)::r=>J a::J 0::R b::qJ r
noncomputable def qO:List Obj->List Obj|x::_::r=>x::qO r|x=>x
noncomputable def qE:List Obj->List Obj|_::y::r=>y::qE r|_=>[]
noncomputable def qB:Nat->List Obj->BT|f+1,x::r=>N x (qB f (qO r)) (qB f (qE r))|_,_=>Z
 def a0:=(Y "tuple" (Data.seq #[] 0))
 def a1:=(X (A #[]))
 def a2:=(Y "code" (A #[(U "<module>" 182),(U "<module>" 183),(V 184),(J 1),(J 0),(J 0),(J 0),(J 0),(R 11),(Value.bool false),(J 181),(R 12),O,O,O,O,(J 185),(J 1),(V 186)]))
 def a3:=(Obj.mk (Value.type "frame") aC Data.plain #[(aB (R 13)),(aB (R 3)),(aB (R 3)),aC,(aB (U "__main__" 164)),aC,(aB (R 0))])
 def ha:az:=Heap.mk (Array.mk [(boot_o_0 P),(boot_o_1 P),(boot_o_2 P),(boot_o_3 P),(boot_o_4 P),(boot_o_5 P),(boot_o_6 P),(boot_o_7 P),(boot_o_8 P),(boot_o_9 P),(boot_o_10 P),a0,a1,a2,a3]) (Life.mk [] [] [] 0 [] [] false #[] [] 0 false false false 0 [2000,10,10] false 0 true [] [] 0 false)
noncomputable def sa(w:aj)(os:av):af:=⟨ha w.params,(Array.mk []),(Drawn.mk 0 0 0 0),187,os⟩
theorem uM{w:aj}{n:Nat}{s s':SharedT}{l:List aq}{pos pos':Pos}(h:PySem.W.Fast.tw10110043849684766642 PySem.W.Fast.tw14364793385576792824 p w m0 ann 1 n s (piecesOf l env cd pos fr)=aB (.next,s',cd,pos')) :
 segRun treeTable p w m0 ann 1 n s.abs (piecesOf l env cd pos fr)=aB (.next,s'.abs,cd,pos'):=
 segRun_of (by rw[PySem.W.Fast.te10110043849684766642,C6];exact h)
theorem Cr{w:aj}{n:Nat}{s s':af}{pos:Pos}(h:PySem.W.Fast.tw15667345088766844465 PySem.W.Fast.tw14364793385576792824 p w m0 ann n s (topStub p)=aB (s',⟨PySem.W.Fast.tw11892475500146522536 PySem.W.Fast.tw14364793385576792824 cd,cd,pos,fr⟩)) :
 topGo treeTable p w m0 ann n s (topStub p)=aB (s',⟨denote treeTable cd,cd,pos,fr⟩):=by
 rw[PySem.W.Fast.te15667345088766844465,C6,PySem.W.Fast.te11892475500146522536];exact h
theorem Yy{w:aj}{n:Nat}{s s':af}{pos pos':Pos}(h:PySem.W.Fast.tw14374325043358763698 PySem.W.Fast.tw14364793385576792824 p w m0 ann 1 n s (blockOf bd env cd pos fr)=aB (.next,s',cd,pos')) :
 segRun treeTable p w m0 ann 1 n s (blockOf bd env cd pos fr)=aB (.next,s',cd,pos'):=by
 rw[PySem.W.Fast.te14374325043358763698,C6];exact h
theorem Cs{w:aj}{n:Nat}{s s':af}{pos:Pos}(h:PySem.W.Fast.tw14082659384304107361 PySem.W.Fast.tw14364793385576792824 p w m0 ann n s ⟨doneF .next,cd,pos,fr⟩=aB s') :
 topRun treeTable p w m0 ann n s ⟨doneF .next,cd,pos,fr⟩=aB s':=by
 rw[PySem.W.Fast.te14082659384304107361,C6];exact h
set_option maxHeartbeats 0 in
theorem pre(w:aj)(os:av):topGo treeTable p w m0 ann 12 ⟨boot_heap w.params,Array.mk [],boot_drawn,boot_toks,os⟩ (topStub p)=aB (sa w os,⟨denote treeTable cd,cd,(Pos.mk 0 0 0 0),fr⟩):=Cr (by kernel_rfl)
 def OR:List Obj:=[(boot_o_0 P),(boot_o_1 P),(boot_o_2 P),(boot_o_3 P),(boot_o_4 P),(boot_o_5 P),(boot_o_6 P),(boot_o_7 P),(boot_o_8 P),(boot_o_9 P),(boot_o_10 P),a0,a1,a2,a3]
 def tb:=qB 20 (OR P)
noncomputable def sb(w:aj)(os:av):SharedT:=⟨tb w.params,15,life,(Array.mk []),(Drawn.mk 0 0 0 0),187,os⟩
set_option maxHeartbeats 0 in
theorem block(w:aj)(os:av):segRun treeTable p w m0 ann 1 1 (sa w os) (blockOf bd env cd (Pos.mk 0 0 0 0) fr)=aB (.next,(sb w os).abs,cd,(Pos.mk 0 0 0 0)):=Yy (by kernel_rfl)
 def OS:=[(E P "__doc__" 166 O),(E P "__package__" 167 O),(E P "__loader__" 168 (Value.builtin "__main__.__loader__#opaque")),(E P "__spec__" 169 O),(E P "__annotations__" 170 (R 6)),(E P "__builtins__" 171 (R 4)),(E P "__file__" 173 (V 172)),(E P "__cached__" 174 O),(E P "BoardError" 206 (R 24)),(E P "NoNumber" 222 (R 37)),(E P "NoMachine" 238 (R 49)),(E P "NoWord" 254 (R 61)),(E P "is_whole" 263 (R 70)),(E P "is_whole_within" 272 (R 77)),(E P "is_tuple_within" 281 (R 84)),(E P "are_wholes_within" 293 (R 91)),(E P "MOST_FEEDERS" 295 (I 4 294)),(E P "MOST_NAME" 297 (I 99 296)),(E P "MOST_STANDS" 303 (I 1000000000 302)),(E P "least_groups" 313 (R 98)),(E P "row_of" 321 (R 103)),(E P "turning_rows" 327 (R 108)),(E P "binary" 337 (R 115)),(E P "LEFT" 342 (I (-1) 341)),(E P "STRAIGHT" 344 (I 0 343)),(E P "RIGHT" 346 (I 1 345)),(E P "fallen" 363 (R 123)),(E P "heading_behind" 376 (R 131)),(E P "MOST_STATES" 380 (I 16 379)),(E P "MOST_TOGETHER" 382 (I 16 381)),(E P "PLAIN_DOOR" 385 (R 132)),(E P "machine_board" 391 (R 137)),(E P "word_board" 397 (R 142)),(E P "is_machine" 403 (R 147)),(E P "is_state" 409 (R 152)),(E P "is_pair" 419 (R 159)),(E P "parting_board" 425 (R 164)),(E P "forks_of" 431 (R 169))]
 def a4:=Y "dict" (Data.dict ((E P "__name__" 165 (U "ballrockers.machines" 377))::OS P).toArray 39)
 def OT:List (Int×Nat):=[(2,20),(4,33),(6,45),(8,57),(11,69),(13,76),(15,83),(17,90),(28,97),(38,102),(40,107),(42,114),(52,122),(68,130),(86,136),(105,141),(110,146),(116,151),(118,158),(123,163),(134,168)]
 def a5:=X (A (qJ OT).toArray)
 def a6:=(Y "tuple" (Data.seq #[(Value.type "ValueError")] 0))
 def a7:=(Y "builtin_function_or_method" (A #[(Value.builtin "type.__prepare__"),(Value.type "type")]))
 def a8:=(Y "dict" (Data.dict #[(E P "__module__" 196 (U "ballrockers.errors" 187)),(E P "__qualname__" 198 (U "BoardError" 197)),(E P "__firstlineno__" 200 (I 2 199)),(E P "__static_attributes__" 201 (R 22))] 4))
 def a9:=(Y "code" (A #[(U "BoardError" 191),(U "BoardError" 192),(V 193),(J 2),(J 0),(J 0),(J 0),(J 0),(R 18),(Value.bool false),(J 181),(R 19),O,O,O,O,(J 194),(J 2),(V 195)]))
 def HN:=(Obj.mk (Value.type "frame") aC Data.plain #[(aB (R 20)),(aB (R 3)),(aB (R 17)),aC,(aB (U "ballrockers.errors" 187)),aC,(aB (R 0))])
 def Yz:=(Y "dict" (Data.dict #[(E P "__module__" 196 (U "ballrockers.errors" 187)),(E P "__firstlineno__" 200 (I 2 199)),(E P "__static_attributes__" 201 (R 22)),(E P "__weakref__" 203 (R 25)),(E P "__doc__" 204 O)] 3))
 def YA:=(Obj.mk (Value.type "type") aC (Data.cls (ClassData.mk (S "BoardError") [(Value.type "ValueError")] [(R 24),(Value.type "ValueError"),(Value.type "Exception"),(Value.type "BaseException"),(Value.type "object")] 23 (S "BoardError") true [] [(R 37),(R 49),(R 61)] false aC false)) #[(aB (R 15)),aC,(aB (U "BoardError" 189)),(aB (U "BoardError" 197)),(aB (Value.builtin "ValueError.__new__")),(aB (Value.bool true))])
 def YB:=(Y "getset_descriptor" (A #[(U "__weakref__" 202),(R 24),(Value.builtin "ExceptionGroup.__weakref__"),O]))
 def YC:=(Y "super" (A #[(R 24),(R 24),(R 24)]))
 def YD:=(Y "builtin_function_or_method" (A #[(Value.builtin "object.__init_subclass__"),(R 24)]))
 def JC:=(Y "tuple" (Data.seq #[(R 24)] 0))
 def YE:=(Y "dict" (Data.dict #[(E P "__module__" 214 (U "ballrockers.errors" 187)),(E P "__qualname__" 216 (U "NoNumber" 215)),(E P "__firstlineno__" 218 (I 4 217)),(E P "__static_attributes__" 219 (R 35))] 4))
 def YF:=(Y "code" (A #[(U "NoNumber" 209),(U "NoNumber" 210),(V 211),(J 4),(J 0),(J 0),(J 0),(J 0),(R 31),(Value.bool false),(J 181),(R 32),O,O,O,O,(J 212),(J 4),(V 213)]))
 def YG:=(Obj.mk (Value.type "frame") aC Data.plain #[(aB (R 33)),(aB (R 3)),(aB (R 30)),aC,(aB (U "ballrockers.errors" 187)),aC,(aB (R 0))])
 def YH:=(Y "dict" (Data.dict #[(E P "__module__" 214 (U "ballrockers.errors" 187)),(E P "__firstlineno__" 218 (I 4 217)),(E P "__static_attributes__" 219 (R 35)),(E P "__doc__" 220 O)] 2))
 def YI:=(Obj.mk (Value.type "type") aC (Data.cls (ClassData.mk (S "NoNumber") [(R 24)] [(R 37),(R 24),(Value.type "ValueError"),(Value.type "Exception"),(Value.type "BaseException"),(Value.type "object")] 36 (S "NoNumber") true [] [] false aC false)) #[(aB (R 28)),aC,(aB (U "NoNumber" 207)),(aB (U "NoNumber" 215)),(aB (Value.builtin "ValueError.__new__")),(aB (Value.bool true))])
 def YJ:=(Y "super" (A #[(R 37),(R 37),(R 37)]))
 def YK:=(Y "builtin_function_or_method" (A #[(Value.builtin "object.__init_subclass__"),(R 37)]))
 def YL:=(Y "dict" (Data.dict #[(E P "__module__" 230 (U "ballrockers.errors" 187)),(E P "__qualname__" 232 (U "NoMachine" 231)),(E P "__firstlineno__" 234 (I 6 233)),(E P "__static_attributes__" 235 (R 47))] 4))
 def YM:=(Y "code" (A #[(U "NoMachine" 225),(U "NoMachine" 226),(V 227),(J 6),(J 0),(J 0),(J 0),(J 0),(R 43),(Value.bool false),(J 181),(R 44),O,O,O,O,(J 228),(J 6),(V 229)]))
 def YN:=(Obj.mk (Value.type "frame") aC Data.plain #[(aB (R 45)),(aB (R 3)),(aB (R 42)),aC,(aB (U "ballrockers.errors" 187)),aC,(aB (R 0))])
 def YO:=(Y "dict" (Data.dict #[(E P "__module__" 230 (U "ballrockers.errors" 187)),(E P "__firstlineno__" 234 (I 6 233)),(E P "__static_attributes__" 235 (R 47)),(E P "__doc__" 236 O)] 2))
 def YQ:=(Obj.mk (Value.type "type") aC (Data.cls (ClassData.mk (S "NoMachine") [(R 24)] [(R 49),(R 24),(Value.type "ValueError"),(Value.type "Exception"),(Value.type "BaseException"),(Value.type "object")] 48 (S "NoMachine") true [] [] false aC false)) #[(aB (R 40)),aC,(aB (U "NoMachine" 223)),(aB (U "NoMachine" 231)),(aB (Value.builtin "ValueError.__new__")),(aB (Value.bool true))])
 def YR:=(Y "super" (A #[(R 49),(R 49),(R 49)]))
 def YS:=(Y "builtin_function_or_method" (A #[(Value.builtin "object.__init_subclass__"),(R 49)]))
 def YT:=(Y "dict" (Data.dict #[(E P "__module__" 246 (U "ballrockers.errors" 187)),(E P "__qualname__" 248 (U "NoWord" 247)),(E P "__firstlineno__" 250 (I 8 249)),(E P "__static_attributes__" 251 (R 59))] 4))
 def a32:=(Y "code" (A #[(U "NoWord" 241),(U "NoWord" 242),(V 243),(J 8),(J 0),(J 0),(J 0),(J 0),(R 55),(Value.bool false),(J 181),(R 56),O,O,O,O,(J 244),(J 8),(V 245)]))
 def YU:=(Obj.mk (Value.type "frame") aC Data.plain #[(aB (R 57)),(aB (R 3)),(aB (R 54)),aC,(aB (U "ballrockers.errors" 187)),aC,(aB (R 0))])
 def YV:=(Y "dict" (Data.dict #[(E P "__module__" 246 (U "ballrockers.errors" 187)),(E P "__firstlineno__" 250 (I 8 249)),(E P "__static_attributes__" 251 (R 59)),(E P "__doc__" 252 O)] 2))
 def YW:=(Obj.mk (Value.type "type") aC (Data.cls (ClassData.mk (S "NoWord") [(R 24)] [(R 61),(R 24),(Value.type "ValueError"),(Value.type "Exception"),(Value.type "BaseException"),(Value.type "object")] 60 (S "NoWord") true [] [] false aC false)) #[(aB (R 52)),aC,(aB (U "NoWord" 239)),(aB (U "NoWord" 247)),(aB (Value.builtin "ValueError.__new__")),(aB (Value.bool true))])
 def YX:=(Y "super" (A #[(R 61),(R 61),(R 61)]))
 def YY:=(Y "builtin_function_or_method" (A #[(Value.builtin "object.__init_subclass__"),(R 61)]))
 def YZ:=qT 260 ["thing"]
 def Y0:=qG "is_whole" 6
 def Y3:=qC "is_whole" 257 11 1 64 261
 def sO:=U "ballrockers.whole" 255
 def Y4:=qF "is_whole" 6 sO 69
 def Y5:=qT 267 ["thing","low","high"]
 def Y6:=qG "is_whole_within" 7
 def Y7:=qC "is_whole_within" 264 13 3 71 270
 def Y8:=qF "is_whole_within" 7 sO 76
 def Y9:=qT 276 ["thing","fewest","most"]
 def Za:=qG "is_tuple_within" 8
 def Zb:=qC "is_tuple_within" 273 15 3 78 279
 def Zc:=qF "is_tuple_within" 8 sO 83
 def Zd:=qT 285 ["thing","fewest","most","low","high","number"]
 def Ze:=qG "are_wholes_within" 9
 def Zf:=qC "are_wholes_within" 282 17 5 85 291
 def Zg:=qF "are_wholes_within" 9 sO 90
 def Zh:=qT 307 ["stands","feeders","groups","reached"]
 def Zi:=qG "least_groups" 14
 def Zj:=qC "least_groups" 304 28 2 92 311
 def Zk:=qF "least_groups" 14 (U "ballrockers.groups" 298) 97
 def Zl:=qG "row_of" 16
 def Zm:=qD "row_of" 316 38 2 99 319
 def xg:=U "ballrockers.making" 314
 def Zn:=qF "row_of" 16 xg 102
 def Zo:=qG "turning_rows" 17
 def Zp:=qD "turning_rows" 322 40 2 104 325
 def Zq:=qF "turning_rows" 17 xg 107
 def a64:=qT 331 ["number","size","found","at"]
 def Zr:=qG "binary" 18
 def Zs:=qC "binary" 328 42 2 109 335
 def Zt:=qF "binary" 18 xg 114
 def OU:=(Y "tuple" (Data.seq #[O] 0))
 def Zu:=qT 350 ["board","leans","feeder","fault","column","columns","turned","leaning","heading","places","piece"]
 def Zv:=qG "fallen" 23
 def Zw:=qC "fallen" 347 52 4 117 361
 def Zx:=(Y "function" (B (G "fallen" 23 3 [] (R 116) O O (U "ballrockers.ways" 338) aC (R 122) O 0)))
 def Zy:=qT 367 ["piece","heading","leaning","fault","group","side","lean"]
 def Zz:=qG "heading_behind" 24
 def ZC:=qC "heading_behind" 364 68 4 125 374
 def ZD:=(Y "function" (B (G "heading_behind" 24 3 [] (R 124) O O (U "ballrockers.ways" 338) aC (R 130) O 0)))
 def ZE:=(Y "tuple" (Data.seq #[(I 0 383),(I 0 384)] 0))
 def ZF:=qG "machine_board" 29
 def ZG:=qD "machine_board" 386 86 1 133 389
 def jV:=U "ballrockers.machines" 377
 def ZH:=qF "machine_board" 29 jV 136
 def ZJ:=qG "word_board" 30
 def ZK:=qD "word_board" 392 105 1 138 395
 def ZL:=qF "word_board" 30 jV 141
 def ZM:=qG "is_machine" 31
 def ZN:=qD "is_machine" 398 110 1 143 401
 def ZO:=qF "is_machine" 31 jV 146
 def ZP:=qG "is_state" 32
 def ZQ:=qD "is_state" 404 116 3 148 407
 def ZR:=qF "is_state" 32 jV 151
 def ZT:=qT 413 ["thing","states","name","following"]
 def ZU:=qG "is_pair" 33
 def ZV:=qC "is_pair" 410 118 2 153 417
 def ZW:=qF "is_pair" 33 jV 158
 def ZX:=qG "parting_board" 34
 def ZY:=qD "parting_board" 420 123 2 160 423
 def ZZ:=qF "parting_board" 34 jV 163
 def Z0:=qG "forks_of" 35
 def Z1:=qD "forks_of" 426 134 1 165 429
 def Z2:=qF "forks_of" 35 jV 168
 def OV:List Obj:=((OR P).set 3 (a4 P)).set 12 a5++[a6,a7,(a8 P),a0,a1,a9,HN,a0,(Yz P),YA,YB,YC,YD,JC,a7,(YE P),a0,a1,YF,YG,a0,(YH P),YI,YJ,YK,JC,a7,(YL P),a0,a1,YM,YN,a0,(YO P),YQ,YR,YS,JC,a7,(YT P),a0,a1,a32,YU,a0,(YV P),YW,YX,YY,a0,a1,YZ,a0,Y0,Y3,Y4,a0,a1,Y5,a0,Y6,Y7,Y8,a0,a1,Y9,a0,Za,Zb,Zc,a0,a1,Zd,a0,Ze,Zf,Zg,a0,a1,Zh,a0,Zi,Zj,Zk,a0,a1,Zl,Zm,Zn,a0,a1,Zo,Zp,Zq,a0,a1,a64,a0,Zr,Zs,Zt,OU,a0,a1,Zu,a0,Zv,Zw,Zx,OU,a0,a1,Zy,a0,Zz,ZC,ZD,ZE,a0,a1,ZF,ZG,ZH,a0,a1,ZJ,ZK,ZL,a0,a1,ZM,ZN,ZO,a0,a1,ZP,ZQ,ZR,a0,a1,ZT,a0,ZU,ZV,ZW,a0,a1,ZX,ZY,ZZ,a0,a1,Z0,Z1,Z2]
 def t0:=qB 20 (OV P)
noncomputable def s0(w:aj)(os:av):SharedT:=⟨t0 w.params,170,life,(Array.mk []),(Drawn.mk 0 0 0 0),432,os⟩
noncomputable def je:List aq:=(bd.drop 0).take 36
set_option maxHeartbeats 0 in
theorem JD(w:aj)(os:av):segRun treeTable p w m0 ann 1 1480 (sb w os).abs (piecesOf je env cd (Pos.mk 0 0 0 0) fr)=aB (.next,(s0 w os).abs,cd,(Pos.mk 134 0 135 99)):=uM (by kernel_rfl)
 def Ct:=(OS P++[(E P "joined_columns" 437 (R 174)),(E P "fork_rows" 443 (R 179)),(E P "_law_cell" 453 (R 186)),(E P "_law_mixed" 463 (R 193)),(E P "_law_deck" 469 (R 198)),(E P "_law_take" 478 (R 205)),(E P "_law_number" 487 (R 212)),(E P "_law_is_piece" 497 (R 219)),(E P "_law_is_board" 503 (R 224)),(E P "_law_fall" 516 (R 231)),(E P "_law_groups" 525 (R 238)),(E P "law" 531 (R 243))])
 def JE:=Y "dict" (Data.dict ((E P "__name__" 165 (U "law_ballrockers_k56_word_boards" 444))::Ct P).toArray 51)
 def Cu:List (Int×Nat):=OT++[(136,173),(138,178),(146,185),(150,192),(153,197),(155,204),(164,211),(166,218),(175,223),(196,230),(211,237),(218,242)]
 def JF:=X (A (qJ Cu).toArray)
 def JG:=qG "joined_columns" 36
 def JH:=qD "joined_columns" 432 136 2 170 435
 def JI:=qF "joined_columns" 36 jV 173
 def JJ:=qG "fork_rows" 37
 def JK:=qD "fork_rows" 438 138 3 175 441
 def JL:=qF "fork_rows" 37 jV 178
 def JM:=qT 449 ["_law_script","_law_k"]
 def JN:=qG "_law_cell" 39
 def JO:=qC "_law_cell" 446 146 2 180 451
 def jk:=U "law_ballrockers_k56_word_boards" 444
 def JP:=qF "_law_cell" 39 jk 185
 def JQ:=qT 457 ["_law_script","_law_k","_law_many","_law_number_here"]
 def JR:=qG "_law_mixed" 40
 def JS:=qC "_law_mixed" 454 150 3 187 461
 def JT:=qF "_law_mixed" 40 jk 192
 def JU:=qG "_law_deck" 41
 def JV:=qD "_law_deck" 464 153 1 194 467
 def JW:=qF "_law_deck" 41 jk 197
 def JX:=qT 473 ["_law_deck_here","_law_many","_law_cell_here"]
 def JY:=qG "_law_take" 42
 def JZ:=qC "_law_take" 470 155 2 199 476
 def J0:=qF "_law_take" 42 jk 204
 def J4:=qT 482 ["_law_thing","_law_low","_law_high"]
 def J5:=qG "_law_number" 43
 def J6:=qC "_law_number" 479 164 3 206 485
 def J7:=qF "_law_number" 43 jk 211
 def J8:=qT 491 ["_law_piece","_law_column","_law_width","_law_groups_here"]
 def J9:=qG "_law_is_piece" 44
 def J':=qC "_law_is_piece" 488 166 4 213 495
 def Ka:=qF "_law_is_piece" 44 jk 218
 def Kc:=qG "_law_is_board" 45
 def Ke:=qD "_law_is_board" 498 175 1 220 501
 def Kf:=qF "_law_is_board" 45 jk 223
 def Kg:=qT 507 ["_law_board","_law_leans","_law_feeder","_law_column","_law_came","_law_row","_law_piece"]
 def Kh:=qG "_law_fall" 46
 def Kl:=qC "_law_fall" 504 196 3 225 514
 def Km:=qF "_law_fall" 46 jk 230
 def Ko:=qT 520 ["_law_many","_law_groups_here","_law_leans"]
 def Kp:=qG "_law_groups" 47
 def Kq:=qC "_law_groups" 517 211 1 232 523
 def Kr:=qF "_law_groups" 47 jk 237
 def Ks:=qG "law" 48
 def Ku:=qD "law" 526 218 1 239 529
 def Kw:=qF "law" 48 jk 242
 def Ky:List Obj:=((OV P).set 3 (JE P)).set 12 JF++[a0,a1,JG,JH,JI,a0,a1,JJ,JK,JL,a0,a1,JM,a0,JN,JO,JP,a0,a1,JQ,a0,JR,JS,JT,a0,a1,JU,JV,JW,a0,a1,JX,a0,JY,JZ,J0,a0,a1,J4,a0,J5,J6,J7,a0,a1,J8,a0,J9,J',Ka,a0,a1,Kc,Ke,Kf,a0,a1,Kg,a0,Kh,Kl,Km,a0,a1,Ko,a0,Kp,Kq,Kr,a0,a1,Ks,Ku,Kw]
 def t1:=qB 20 (Ky P)
noncomputable def s1(w:aj)(os:av):SharedT:=⟨t1 w.params,244,life,(Array.mk []),(Drawn.mk 0 0 0 0),532,os⟩
noncomputable def st1:List aq:=(bd.drop 36).take 13
set_option maxHeartbeats 0 in
theorem Kz(w:aj)(os:av):segRun treeTable p w m0 ann 1 362 (s0 w os).abs (piecesOf st1 env cd (Pos.mk 134 0 135 99) fr)=aB (.next,(s1 w os).abs,cd,(Pos.mk 218 0 239 46)):=uM (by kernel_rfl)
 def hz:az:=Heap.mk (Array.mk (Ky P)) (Life.mk [] [] [] 0 [] [] false #[] [] 0 false false false 0 [2000,10,10] false 0 true [] [] 0 false)
noncomputable def sz(w:aj)(os:av):af:=⟨hz w.params,(Array.mk []),(Drawn.mk 0 0 0 0),532,os⟩
set_option maxHeartbeats 0 in
theorem fin(w:aj)(os:av):topRun treeTable p w m0 ann 2 (s1 w os).abs ⟨doneF .next,cd,(Pos.mk 218 0 239 46),fr⟩=aB (sz w os):=Cs (by kernel_rfl)
 def as:List ah:=[2,3,15,22,23,24,25,28,35,36,37,40,47,48,49,52,59,60,61,64,66,67,69,70,71,73,74,76,77,78,80,81,83,84,85,87,88,90,91,92,94,95,97,98,99,102,103,104,107,108,109,111,112,114,115,116,117,119,120,122,123,124,125,127,128,130,131,132,133,136,137,138,141,142,143,146,147,148,151,152,153,155,156,158,159,160,163,164,165,168,169,170,173,174,175,178,179,180,182,183,185,186,187,189,190,192,193,194,197,198,199,201,202,204,205,206,208,209,211,212,213,215,216,218,219,220,223,224,225,227,228,230,231,232,234,235,237,238,239,242,243]
 def K:Frag:=as.map λi=>(i,(Ky P).getD i a0)
noncomputable def M0:Nat:=(12+ (1+ (1480+ (362+2))))
theorem Cv:bd=je++(st1++([])):=by kernel_rfl
theorem rest(w:aj)(os:av):topRun treeTable p w m0 ann (1480+ (362+ (2))) (sb w os).abs (restOf bd env cd (Pos.mk 0 0 0 0) fr)=aB (sz w os):=by rw[show restOf bd env cd (Pos.mk 0 0 0 0) fr=restOf (je++(st1++([]))) env cd (Pos.mk 0 0 0 0) fr from mD (λb=>restOf b env cd (Pos.mk 0 0 0 0) fr) Cv];exact(piece_app (JD w os) (piece_app (Kz w os) (piece_nil (fin w os))))
theorem run(w:aj)(os:av):topRun treeTable p w m0 ann M0 ⟨boot_heap w.params,Array.mk [],boot_drawn,boot_toks,os⟩ (topStub p)=aB (sz w os):=
 go_top (pre w os) (piece_block (block w os) (rest w os))
noncomputable def pD:Nat:=48
noncomputable def Z3:Pos:=(Pos.mk 218 0 239 46)
noncomputable def q:ai:={p with main:={p.main with body:=keep.map (wZ p.main.body)}}
theorem Cw:∀P,as=(K P).map (·.1):=λ_=>by kernel_rfl
noncomputable def H:Hook:=kHook K as Cw
noncomputable def Xt(s:af):Bool:=xlAt q [] s&&recOk [] s
theorem Z4(w:aj)(os:av):(staticsOk (importedModules p.main.body) (boot_heap w.params) (hz w.params)&&namesBound p (hz w.params)&&gensDone (sz w os)&&laidKept (boot_heap w.params) (hz w.params))=true:=by rw[PySem.W.Fast.te5923862056798008813];kernel_rfl
theorem Z5(w:aj)(os:av):seen ((recsOf q).map (·.name)) (ownsOf q) [] {sz w os with gens:=#[]}=expectedOf q:=by rw[PySem.W.Fast.te5160383126252970620,PySem.W.R.mapR_eq,PySem.W.Fast.te3399658132070893891,PySem.W.Fast.te5991557255702980513];kernel_rfl
theorem Cy(w:aj)(os:av):(sz w os).heap.bltView=bltViewBooted:=by kernel_rfl
theorem Z6(w:aj)(os:av):((sz w os).heap.keysOk (looseW q lo) ((recsOf q).map (·.name)) ((litsOf q).map (·.1)) ((clssOf q (looseW q lo)).map (·.name))&& (sz w os).heap.accountedOkI (importedModules p.main.body)&& (sz w os).heap.isNs mainGlobals&& (sz w os).heap.isNs builtinsNs&&tablesOk q (sz w os).heap&&Xt (sz w os)&& (if true=true then(sz w os).gens.size==0 else !leftWithCleanup (sz w os).gens))=true:=by rw[PySem.W.Fast.te10880121769531294198,PySem.W.Fast.te821141287760084731,PySem.W.R.mapR_eq,PySem.W.Fast.te3399658132070893891,PySem.W.Fast.te7409074990110511671,PySem.W.Fast.te13664370479719496447,PySem.W.Fast.te14722251495701143533,PySem.W.Fast.te10994771534591457954,PySem.W.Fast.te5923862056798008813];kernel_rfl
theorem Z7(w:aj)(os:av):tabsOk q (sz w os)=true:=by rw[PySem.W.Fast.te479339242167458305];kernel_rfl
theorem Cz(w:aj)(os:av):pinSeenD q (drecsOf q) (sz w os)=pinGoodD (drecsOf q):=by rw[PySem.W.Fast.te16090120013241838585,PySem.W.Fast.te3247288618530077131];kernel_rfl
theorem CA(w:aj)(os:av):plainSeenE q (looseW q lo) (sz w os)=plainGoodE q (looseW q lo):=by rw[PySem.W.Fast.te2386780881361962483,PySem.W.Fast.te821141287760084731];kernel_rfl
theorem CB(w:aj)(os:av):plainSeenD q lo (sz w os)=plainGoodD q lo:=by rw[PySem.W.Fast.te11698064438423848299];kernel_rfl
theorem Z8(w:aj)(os:av):wideSeen q (sz w os)=wideGood q:=by rw[PySem.W.Fast.te7317090234206586261];kernel_rfl
theorem CD(w:aj)(os:av):clsSeenW q lo (sz w os)=clsGoodW q lo:=by rw[PySem.W.Fast.te7369524293546568484];kernel_rfl
theorem Z9(w:aj)(os:av):as.map (sz w os).heap.get?=(K w.params).map λp=>aB p.2:=by kernel_rfl
theorem left:LeftO p q lo Xt (Hook.obs H) (Hook.val H) N0 true:=
 LeftO.of_pieces (H₀:=boot_heap) (H₁:=hz) (boot_open (by kernel_rfl) (by kernel_rfl) (λs=>by kernel_rfl)) (λw=>by kernel_rfl) run (by kernel_rfl)
  (λw=>funext λos=>looks_pair (Z4 w os) (looks_pair
    (looks_pair (Z5 w os) (looks_pair (Cy w os) (looks_pair (Z6 w os) (looks_pair (Z7 w os) (looks_pair (Cz w os) (looks_pair (CA w os) (looks_pair (CB w os) (looks_pair (Z8 w os) (CD w os)))))))))
    (Z9 w os)))
noncomputable def df:DefRec:=⟨S "law",fa pD,fb pD,fs pD,Z3⟩
theorem CF:defOf q (S "law")=aB (df,[]):=by kernel_rfl
theorem holds(l:OpenLaw)(hp:l.prog=p)(hn:l.name=S "law")(ok:l.wellSaid)(hch:(chainsOk q&&opensWell p&& (frees l.row.toRowW&&l.row.within.isEmpty)))(hb:l.row.toRowW.prog.bare)(hw:l.row.toRowW.promised)
 (hwr:(!l.row.writes||l.row.records.isEmpty)) (hk:p.theDef (S "law")=aB (df.params,df.body,df.scope)) (hkw:kwWritten? df.params.kwonlyargs df.params.kw_defaults=aB [])
 (call:WalkO q lo (XL q []) (Hook.says H) l.row.toRowW df [] λf vs=>PySem.call f vs):l.Holds:=
 holds_law ok λsaid=>PySem.W.holds_open (q:=q) (loose:=lo) (Xt:=Xt) (XP:=XL q []) (Yf:=Hook.obs H) (Ya:=Hook.val H) (YP:=Hook.says H) (N:=N0) (r:=l.row) (by have h:l.row.toRowW.prog=p:=hp;show LeftO l.row.toRowW.prog q lo Xt (Hook.obs H) (Hook.val H) N0 true;rw[h];exact left) (Hook.of H) (Hook.keeps H) (λs e=>xl_of s (Bool.and_eq_true_iff.mp e).1) XL.keeps
  (by show defOf q l.name=_;rw[hn];exact CF) (by show l.prog.theDef l.name=_;rw[hp,hn];exact hk) hkw (λs e=>recFacts_of (Bool.and_eq_true_iff.mp e).2) hwr said (by have h:l.row.toRowW.prog=p:=hp;rw[h];exact hch) hb hw call
end
end
end HD
namespace RF
noncomputable def OW:List PySem.Str:=(["is_whole","is_whole_within","_law_cell","_law_deck","_law_mixed","_law_take","is_tuple_within","are_wholes_within"]++bK 24 "" ++ ["least_groups","row_of"]++bK 2 "" ++ ["turning_rows"]++bK 4 "" ++ ["binary"]++bK 25 "" ++ ["fork_rows","forks_of","is_machine","is_pair","is_state","joined_columns"]++bK 4 "" ++ ["parting_board"]++bK 24 "" ++ ["_law_number"]++bK 44 "" ++ ["_law_fall"]++bK 1 "" ++ ["_law_groups"]++bK 2 "" ++ ["_law_is_board"]++bK 2 "" ++ ["_law_is_piece"]++bK 17 "" ++ ["heading_behind","fallen"]++bK 12 "" ++ ["machine_board"]++bK 105 "" ++ ["word_board"]++bK 406 "" ++ ["law"]).map bB
noncomputable def OX:List Fn:=[wc,BE,Ec,BF,HP,rJ,rK,BH]++bK 24 gp++[wg,rL]++bK 2 gp++[wj]++bK 4 gp++[rM]++bK 25 gp++[wk,wm,rN,rO,rP,wo]++bK 4 gp++[rQ]++bK 24 gp++[kG]++bK 44 gp++[oV]++bK 1 gp++[jA]++bK 2 gp++[kH]++bK 2 gp++[iO]++bK 17 gp++[eO,l5]++bK 12 gp++[l6]++bK 105 gp++[l7]++bK 406 gp++[BN]
theorem c56:Cq λi=>OX[i]?:=by repeat' (first|rfl|constructor)
end RF
set_option maxHeartbeats 0 in
theorem RF.KA(P:PySem.Params):RF.jz (HD.K P) RF.OW 60 60=aB RF.OX:=by kernel_rfl
open PySem PySem.W PyProof.Rows
set_option maxRecDepth 100000 in
set_option maxHeartbeats 0 in
theorem PySem.Challenge.cw_ballrockers_k56_word_boards_holds : PySem.Challenge.rw_ballrockers_k56_word_boards.Holds := by
 refine HD.holds _ rfl rfl RF.pa56 (by kernel_rfl) ⟨rfl,rfl,rfl,rfl,rfl,by decide +kernel⟩ ?hw rfl (by kernel_rfl) (by kernel_rfl) ?call
 (case hw=>w_witness2)
 refine RF.VZ RF.OW 60 60 30 700 rfl (by kernel_rfl) ⟨rfl,by decide,by decide⟩ (λw h Y=>PySem.W.kIn_of Y) (by kernel_rfl) (by decide +kernel) ?b ?c
 (case c=>intro w;kernel_rfl)
 (case b=>
   intro w ns hl
   exact RF.VY (RF.KA _) (RF.Yx RF.c56 hl))
