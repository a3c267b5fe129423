import PyProof.Rows.All
import Wide.All
import OpenK.AllK
import Wide.FinOn
import Lean
import PyProof.EqAt
import PyProof.EqKinds
import PyProof.TupleCall
import KE.KUnpack
import KE.KSortTup
import PySem.Challenge.RW_ballrockers_k73_at_once_far
set_option Elab.async false
set_option linter.all false
set_option genSizeOf false
set_option bootstrap.genMatcherCode false
set_option compiler.extract_closed false
set_option maxRecDepth 100000
set_option maxHeartbeats 0 in
theorem RF.pa73:PySem.Challenge.rw_ballrockers_k73_at_once_far.wellSaid=true:=by kernel_rfl
def fj:=@decide_eq_true_eq
def gX:=@decide_eq_false
def bZ:=@if_true
def kM:=@of_decide_eq_true
def dF:=@if_false
def kq:=@decide_eq_true
def vq:=@decide_eq_false_iff_not
def jF:=@congrArg
def Dq:=@beq_eq_false_iff_ne
def Dr:=@decide_true
open PySem renaming wpAny_bind->aM,wpAny_pure->bA,wpAny_mono->fZ,wpAny_truthy_bool->qH,wpAny_standAt->nD,wpAny_field->kN,wpAny_callSpecial?_slot->xZ,wpAny_newObj_type->tO,wpAny_holding->nO,wpAny_pyIter_tuple->vt,wpAny_rule->kO,wpAny_call_entry->vv,wpAny_setField_rec->ya,wpAny_seqItems->tP,wpAny_passesOwn->vz,wpAny_pyIter_list->yb,wpAny_comprehension_free->Ds,mem_of_lookup->zg,noFill_tuple_add->zh,call_meets->qI,wpAny_Call_Name_kw->vec,seq_tuple_add->zk,sizeLine_eq->zl,wpAny_onRaise->Dt,wpAny_typeOf->Du,seqIndex_neg->Dv,wpAny_ite->yc,seqIndex_of->Dw
open Nat renaming le_refl->aT,lt_of_lt_of_le->dP,le_of_ble_eq_true->kr,ne_of_lt->fR,lt_succ_self->iT,zero_le->gf,le_trans->ie,lt_irrefl->jG,not_lt->jH,lt_succ_of_lt->tQ,zero_add->nF,ne_of_gt->pX,eq_of_beq_eq_true->zm,le_of_lt->tR,lt_of_succ_lt->zo,le_succ_of_le->zu,le_succ->tS,ble_eq->qK,add_sub_cancel->Dy,le_of_succ_le->Dz,le_add_right->DA,mul_le_mul->DB,add_assoc->DC
open PySem.Heap renaming get?_push_of_some->cu,lt_size->cH,get?_push_size->iJ,size_push->jI
open PySem renaming Value->aa,Shared->af,Addr->ah,Program->ai,World->aj,Around->ak,Expr->ao,Stmt->au,FuncData->av,OsState->ay,Scope->aA,Heap->aB,PyData->aC
open Option renaming some->aD,none->aE
open PySem.W renaming Frag->aK
open PySem.Str renaming ofString->bw
open List renaming replicate->bD
open Bool renaming and_eq_true->bE,false_eq_true->dZ,or_eq_true->pY,not_eq_true'->tT,false_ne_true->zw,false_and->zx
open List renaming length_map->bz,getElem?_eq_getElem->eT,size_toArray->cG,mem_cons_of_mem->dQ,length_append->eW,mem_cons_self->fk,mem_append_right->ig,length_cons->fD,getElem?_map->gh,getElem?_eq_some_iff->jJ,lookup_cons->gw,mem_of_getElem?->jg,mem_cons->fP,getElem_mem->iK,replicate_succ->ku,map_cons->gQ,getElem?_eq_none_iff->nP,append_assoc->jK,getElem?_eq_none->nG,getElem?_set_self->nQ,getElem?_append_right->qL,length_take->kP,length_drop->kQ,pairwise_append->nR,getD_eq_getElem?_getD->tU,getElem?_append_left->tV,drop_eq_getElem_cons->tW,mem_map->jz,mem_append->mF,all_eq_true->nH,pairwise_iff_getElem->vA,mem_singleton->pZ,zip_cons_cons->p5,append_nil->nI,flatten_cons->p9,getElem?_cons_succ->vB,length_singleton->yd,find?_cons->vcs,getElem?_set_ne->ye,mem_of_mem_take->yf,length_range->vC,filterMap_cons->yg,map_append->tX,all_cons->qM,mem_range->tY,mem_append_left->zy,nodup_cons->vD,length_set->vE,getElem_of_mem->zz,getElem?_cons_zero->DE,forIn_nil->vF,drop_eq_nil_of_le->DF,nil_append->yh,perm_append_comm->DG,mem_of_mem_drop->DH,take_length->zA,map_set->vG,forIn_cons->zB,set_cons_zero->DI,map_nil->yi,map_map->yj,not_mem_nil->DJ,drop_length->DK,cons_append->DL,any_cons->zC,foldl_cons->DM,length_nil->DN
open PyProof.Rows renaming wpS_bind->aY,wpS_pure->bx,callWith_type1->vH,slot_tuple_getitem->yk,wpS_forRange->jL,wpS_mono->jM,wpS_get->nS,wpS_modify->yl,listUpdate_at->DO,wpS_lift->vI,seqEpoch_at->DP
open Int renaming eq_ofNat_of_zero_le->jh,le_trans->kB,toNat_natCast->tZ,le_of_lt->nT,not_lt->qc,emod_lt_of_pos->DQ,le_refl->ym,emod_nonneg->DR
open PySem.AutoSeq1 renaming wpAny_loadPart'->nU
open Array renaming getElem?_eq_getElem->qe,getD_eq_getD_getElem?->yo,getElem?_toList->vJ,length_toList->vK
open Option.some renaming inj->mG
open PySem.W renaming kia_one->mH
open Ne renaming symm->eX
open PySem.W.Fast renaming te14364793385576792824->DS
open List.Perm renaming append_left->yp,refl->qN,append->DT
open PySem.F renaming args_tuple_add_2->zD,entry_tuple_add->zE,slot_tuple_add->zF,slot_tuple_iterator_next->DU,slot_tuple_mul->zG,slot_zip_next->DV
open Option renaming map_some->vL,getD_some->zH
open PySem.SeqAt renaming canLay_of_shaped->DW
open Array.Perm renaming refl->yq
open LawfulMonad renaming pure_bind->qP
open PySem.Paired renaming length->DX
namespace L2
theorem aR1(h:True:=by rfl):True:=h
theorem aD1(h:True:=by decide):True:=h
theorem aF1(h:True:=by first|exact .inl rfl|exact .inr rfl|assumption):True:=h
end L2
namespace L2
open PySem PySem.Spec PyProof.Rows
noncomputable abbrev Key:=Sum Int Str
noncomputable def iU:Key->aa->Bool|.inl k,v=>Value.isInt k v|.inr x,v=>Value.isStrOf x v
noncomputable def Gi(w:aj):Key->Int|.inl k=>hashInt k|.inr x=>hashStr w x
theorem qQ:∀{k:Key} {v:aa},iU k v=true->(∃i t,k=Sum.inl i/\v=Value.int i t)\/(∃x t,k=Sum.inr x/\v=Value.str x t)
 |.inl i,v,h=>by
  obtain⟨t,e⟩:=Value.isInt_shape (k:=i) (v:=v) h;exact .inl ⟨i,t,rfl,e⟩
 |.inr x,v,h=>by
  obtain⟨t,e⟩:=Value.isStrOf_shape (x:=x) (v:=v) h;exact .inr ⟨x,t,rfl,e⟩
theorem RY(i:Int)(t:Tok):iU (.inl i) (.int i t)=true:=by simp[iU,Value.isInt]
theorem RZ(x:Str)(t:Tok):iU (.inr x) (.str x t)=true:=by simp[iU,Value.isStrOf]
theorem R0(a b:Int):decide ((Sum.inl a:Key)=Sum.inl b)=(a==b):=by by_cases e:a=b;subst e;simp;have h:¬(Sum.inl a:Key)=Sum.inl b:=λq=>e (Sum.inl.inj q);rw[gX h];exact(Dq.mpr e).symm
theorem R1(a b:Str):decide ((Sum.inr a:Key)=Sum.inr b)=decide (a=b):=by by_cases e:a=b;subst e;simp;have h:¬(Sum.inr a:Key)=Sum.inr b:=λq=>e (Sum.inr.inj q);rw[gX h,gX e]
theorem R3(a:Int)(b:Str):decide ((Sum.inl a:Key)=Sum.inr b)=false:=gX (λq=>nomatch q)
theorem R4(a:Str)(b:Int):decide ((Sum.inr a:Key)=Sum.inl b)=false:=gX (λq=>nomatch q)
noncomputable def kC(prog:ai)(w:aj):PySem.KeyKind prog w Key where
 is:=iU
 hash:=Gi w
 inj:=λv a b ha hb=>by
  rcases qQ ha with⟨i,t,rfl,rfl⟩|⟨x,t,rfl,rfl⟩
  .rcases qQ hb with⟨j,u,rfl,e⟩|⟨y,u,rfl,e⟩
   .injection e with e1 _;rw[e1]
   .exact nomatch e
  .rcases qQ hb with⟨j,u,rfl,e⟩|⟨y,u,rfl,e⟩
   .exact nomatch e
   .injection e with e1 _;rw[e1]
 byValue:=λk v h=>by
  rcases qQ h with⟨i,t,rfl,rfl⟩|⟨x,t,rfl,rfl⟩<;>rfl
 pyHash:=λhv h=>by
  rcases qQ hv with⟨i,t,rfl,rfl⟩|⟨x,t,rfl,rfl⟩
  .exact wpAny_pyHash_int h
  .exact wpAny_pyHash_str h
 eqBool:=λhu hv h=>by
  rcases qQ hu with⟨i,t,rfl,rfl⟩|⟨x,t,rfl,rfl⟩
  .rcases qQ hv with⟨j,u,rfl,rfl⟩|⟨y,u,rfl,rfl⟩
   .rw[R0]at h;exact wpAny_eqBool_int h
   .rw[R3]at h;exact SeqAt.EqAt.int_str i t y u _ _ _ _ h
  .rcases qQ hv with⟨j,u,rfl,rfl⟩|⟨y,u,rfl,rfl⟩
   .rw[R4]at h;exact SeqAt.EqAt.str_int x t j u _ _ _ _ h
   .rw[R1]at h;exact wpAny_eqBool_str h
 «strs»:=λk x t v h=>by
  rcases qQ h with⟨i,u,rfl,e⟩|⟨y,u,rfl,e⟩
  .exact nomatch e
  .injection e with e1 _
   subst e1
   cases v<;>rfl
theorem R5(prog:ai)(w:aj)(i:Int)(t:Tok):(kC prog w).is (.inl i) (.int i t)=true:=RY i t
theorem R6(prog:ai)(w:aj)(x:Str)(t:Tok):(kC prog w).is (.inr x) (.str x t)=true:=RZ x t
inductive V where
 |aQ|bl (b:Bool)|int (i:Int)|str (x:Str)|zI (b:Array UInt8)|yr (b:UInt64)|ref (a:ah)|ty (n:String)
 deriving DecidableEq
noncomputable def RelV:V->aa->Prop|.aQ,u=>u=Value.none|.bl b,u=>u=Value.bool b|.int i,u=>∃t,u=Value.int i t|.str x,u=>∃t,u=Value.str x t|.zI b,u=>∃t,u=Value.bytes b t|.yr b,u=>∃t,u=Value.float b t|.ref a,u=>u=Value.ref a|.ty n,u=>u=Value.type n
noncomputable abbrev Vals:List V->List aa->Prop:=Paired RelV
theorem Vals.length{xs:List V}{us:List aa}(r:Vals xs us):xs.length=us.length:=DX r
theorem Vals.get:∀{xs:List V} {us:List aa} {i:Nat} {x:V},Vals xs us->xs[i]?=aD x->∃u,us[i]?=aD u/\RelV x u
 |_,_,_,_,.nil,e=>by simp at e
 |_,_,0,_,.cons r _,e=>by simp at e;subst e;exact⟨_,rfl,r⟩
 |_,_,i+1,x,.cons _ t,e=>by
  obtain⟨u,h1,h2⟩:=Vals.get (i:=i) (x:=x) t (by simpa using e);exact⟨u,by simpa using h1,h2⟩
theorem Vals.set{x:V}{u:aa}(r:RelV x u):∀{xs:List V} {us:List aa} (i:Nat),Vals xs us->Vals (xs.set i x) (us.set i u)|_,_,_,.nil=>.nil|_,_,0,.cons _ t=>.cons r t|_,_,i+1,.cons q t=>.cons q (Vals.set r i t)
theorem Vals.append:∀{xs ys:List V} {us ws:List aa},Vals xs us->Vals ys ws->Vals (xs++ys) (us++ws)|_,_,_,_,.nil,s=>s|_,_,_,_,.cons r t,s=>.cons r (Vals.append t s)
theorem Vals.take:∀{xs:List V} {us:List aa} (n:Nat),Vals xs us->Vals (xs.take n) (us.take n)|_,_,0,_=>.nil|_,_,_+1,.nil=>.nil|_,_,n+1,.cons r t=>.cons r (Vals.take n t)
theorem Vals.drop:∀{xs:List V} {us:List aa} (n:Nat),Vals xs us->Vals (xs.drop n) (us.drop n)|_,_,0,r=>r|_,_,_+1,.nil=>.nil|_,_,n+1,.cons _ t=>Vals.drop n t
noncomputable def ir:Option V->Option aa->Prop|some v,aD u=>RelV v u|none,aE=>True|_,_=>False
noncomputable def KV{κ:Type}:List (κ×V)->List (κ×aa)->Prop:=Paired λ(p:κ×V) (q:κ×aa)=>p.1=q.1/\RelV p.2 q.2
noncomputable def kV:Key->V|.inl i=>.int i|.inr x=>.str x
inductive HO where
 /-- a list -/
 |lst (xs:List V)
 /-- a tuple (never changes) -/
 |tup (xs:List V)
 /-- a dict zJ keys are ints and texts;one zJ keys are tuples of ints and texts (yt empty one is both) -/
 |dK (kvs:List (Key×V))|dT (kvs:List (List Key×V))
 /-- a set of ints: its members,its size -/
 |set (S:Int->Bool) (n:Nat)
 /-- an instance of yt class at C,its dict at dx,its attributes -/
 |ins (C dx:ah) (fs:List (Str×V))
 /-- yt dict of yt instance at x -/
 |own (x:ah)
 /-- yt dict of an exception -/
 |xd (fs:List (Str×V))
 /-- a bound method,f of x -/
 |met (f x:ah)
 /-- a range object lo,lo+1,.. below hi -/
 |Gj (lo hi:Int)
 /-- a thing R7 is known to yt object (yt script;a dict while a loop walks it): read,never written while it is so -/
 |bL (o:Obj) (u:HO)
 /-- a code zK table -/
 |vM (ps:Array aa)
 /-- any other thing,by what is true of its one object (a def of M3 own: R8 a S n:=HO.ext λh=>..) -/
 |ext (φ:aB->Prop)
noncomputable abbrev Hp:=ah->Option HO
noncomputable def upd(H:Hp)(a:ah)(o:HO):Hp:=λb=>if b=a then aD o else H b
theorem iu{H:Hp}{a:ah}{o:HO}:upd H a o a=aD o:=by unfold upd;rw[if_pos rfl]
theorem bV{H:Hp}{a b:ah}{o:HO}(h:b≠a):upd H a o b=H b:=by unfold upd;rw[if_neg h]
theorem cP{H:Hp}{a b:ah}{o u:HO}(h:H a=aD o)(h':H b=aD u)(d:o≠u):a≠b:=by intro e;subst e;rw[h]at h';exact d (mG h')
theorem gY{H:Hp}{a b:ah}{o:HO}(h:H a=aD o)(h':H b=aE):a≠b:=by intro e;subst e;rw[h]at h';cases h'
noncomputable def kR(h:aB)(a:ah)(items:Array aa):Prop:=∃o,h.get? a=aD o/\o.cls=.type "tuple"/\(∃n,o.data=.seq items n)/\o.dict=aE
theorem kR.tup{h:aB}{a:ah}{items:Array aa}(x:kR h a items):IsTup h a items:=let⟨o,e,c,d,_⟩:=x;⟨o,e,c,d⟩
theorem kR.lt{h:aB}{a:ah}{items:Array aa}(x:kR h a items):a<h.objs.size:=x.tup.lt
theorem kR.new(h:aB)(items:Array aa):kR (h.push {cls:=.type "tuple",data:=.seq items}) h.objs.size items:=⟨_,iJ _ rfl,rfl,⟨_,rfl⟩,rfl⟩
section
variable(P:ai)(w:aj)
noncomputable def aZ(H:Hp)(h:aB)(a:ah):HO->Prop
 |.lst xs=>xs.length<=sizeLine/\∃(its:List aa) (n:Nat),Vals xs its/\h.get? a=aD {cls:=.type "list",data:=.seq its.toArray n}
 |.tup xs=>xs.length<=sizeLine/\∃its:List aa,Vals xs its/\kR h a its.toArray
 |.dK kvs=>kvs.length<=sizeLine/\(a==sysModules)=false/\∃vs,KV kvs vs/\h.DictOf (kC P w) a vs
 |.dT kvs=>kvs.length<=sizeLine/\(a==sysModules)=false/\∃xs:List (List Key×ah×aa),
  Paired (λ(p:List Key×V)(q:List Key×ah×aa)=>p.1=q.1/\H q.2.1=aD (.tup (p.1.map kV))/\RelV p.2 q.2.2) kvs xs/\
  ∃o es ep,h.get? a=aD o/\o.ExactDict/\o.data=.dict es ep/\es.toList=xs.map (entryOfKey (tupleKind (kC P w)))/\(xs.map (·.1)).Nodup
 |.set S n=>h.SetOf (intKind P w) a S n
 |.ins C dx fs=>H dx=aD (.own a)/\fs.length<=1000/\dx≠a/\h.get? a=aD (PySem.W.instObj C dx)/\
  ∃mA,h.Ns1 dx mA/\(∀f,ir (fs.lookup f) (mA f))/\PySem.Within mA (fs.map (·.1))
 |.own _=>∃o,h.get? a=aD o
 |.xd fs=>∃mA,h.Ns1 a mA/\∀f,ir (fs.lookup f) (mA f)
 |.Gj lo hi=>∃t u v,h.get? a=aD {cls:=.type "range",data:=.fields #[.int lo t,.int hi u,.int 1 v]}
 |.bL o u=>h.get? a=aD o/\aZ H h a u
 |.vM ps=>h.get? a=aD {cls:=.none,data:=.fields ps}
 |.met f x=>h.get? a=aD (PySem.W.methodObj (.ref f) (.ref x))
 |.ext φ=>φ h/\(∃o,h.get? a=aD o)/\∀h1 h2:aB,φ h1->(∀o,h1.get? a=aD o->h2.get? a=aD o)->φ h2
noncomputable def fm(H:Hp)(h:aB):Prop:=∀a o,H a=aD o->aZ P w H h a o
end
section
variable{P:ai}{w:aj}{H H':Hp}{h h':aB}{a:ah}{o:HO}
theorem aZ.lt(x:aZ P w H h a o):a<h.objs.size:=by
 cases o with|lst xs=>obtain⟨_,_,_,_,e⟩:=x;exact cH e|tup xs=>obtain⟨_,_,_,p⟩:=x;exact p.lt|dK kvs=>obtain⟨_,_,_,_,o,_,_,e,_⟩:=x;exact cH e|dT kvs=>obtain⟨_,_,_,_,o,_,_,e,_⟩:=x;exact cH e|set S n=>obtain⟨o,_,_,_,e,_⟩:=x;exact cH e|ins C dx fs=>obtain⟨_,_,_,e,_⟩:=x;exact cH e|own y=>obtain⟨_,e⟩:=x;exact cH e|xd fs=>obtain⟨_,⟨_,_,_,e,_⟩,_⟩:=x;exact cH e|Gj lo hi=>obtain⟨_,_,_,e⟩:=x;exact cH e|bL ob u=>obtain⟨e,_⟩:=x;exact cH e|vM ps=>exact cH (show h.get? a=aD _ from x)|met f y=>exact cH (show h.get? a=aD _ from x)|ext φ=>obtain⟨_,⟨_,e⟩,_⟩:=x;exact cH e
theorem Paired.vN{α β:Type}{F G:α->β->Prop}:∀{l₁:List α} {l₂:List β},Paired F l₁ l₂->(∀a b,F a b->G a b)->Paired G l₁ l₂|_,_,.nil,_=>.nil|_,_,.cons r t,f=>.cons (f _ _ r) (Paired.vN t f)
theorem aZ.stay(x:aZ P w H h a o)(k:∀b u,(b=a\/H b=aD (.own a))->h.get? b=aD u->h'.get? b=aD u)
 (ho:∀b,H b=aD (.own a)->H' b=aD (.own a)) (ht:∀b xs,H b=aD (.tup xs)->H' b=aD (.tup xs)):aZ P w H' h' a o:=by
 induction o with
 |lst xs=>obtain⟨z,its,n,r,e⟩:=x;exact⟨z,its,n,r,k _ _ (.inl rfl) e⟩
 |tup xs=>obtain⟨z,its,r,ob,e,c⟩:=x;exact⟨z,its,r,ob,k _ _ (.inl rfl) e,c⟩
 |dK kvs=>obtain⟨z,y,vs,r,ob,es,ep,e,c⟩:=x;exact⟨z,y,vs,r,ob,es,ep,k _ _ (.inl rfl) e,c⟩
 |dT kvs=>
  obtain⟨z,y,xs,r,ob,es,ep,e,c⟩:=x;exact⟨z,y,xs,Paired.vN r λp q z=>⟨z.1,ht _ _ z.2.1,z.2.2⟩,ob,es,ep,k _ _ (.inl rfl) e,c⟩
 |set S n=>obtain⟨ob,es,ep,t,e,c⟩:=x;exact⟨ob,es,ep,t,k _ _ (.inl rfl) e,c⟩
 |ins C dx fs=>
  obtain⟨d,z,ne,e,mA,⟨od,es,ep,e2,c⟩,r⟩:=x;exact⟨ho _ d,z,ne,k _ _ (.inl rfl) e,mA,⟨od,es,ep,k _ _ (.inr d) e2,c⟩,r⟩
 |own y=>obtain⟨ob,e⟩:=x;exact⟨ob,k _ _ (.inl rfl) e⟩
 |xd fs=>obtain⟨mA,⟨od,es,ep,e,c⟩,r⟩:=x;exact⟨mA,⟨od,es,ep,k _ _ (.inl rfl) e,c⟩,r⟩
 |Gj lo hi=>obtain⟨t,u,v,e⟩:=x;exact⟨t,u,v,k _ _ (.inl rfl) e⟩
 |bL ob u ih=>obtain⟨e,q⟩:=x;exact⟨k _ _ (.inl rfl) e,ih q⟩
 |vM ps=>
  have e:h.get? a=aD {cls:=.none,data:=.fields ps}:=x;show h'.get? a=aD {cls:=.none,data:=.fields ps};exact k a _ (.inl rfl) e
 |met f y=>
  have e:h.get? a=aD (PySem.W.methodObj (.ref f) (.ref y)):=x;show h'.get? a=aD (PySem.W.methodObj (.ref f) (.ref y));exact k a _ (.inl rfl) e
 |ext φ=>obtain⟨p,⟨o,e⟩,st⟩:=x;exact⟨st _ _ p λo q=>k _ _ (.inl rfl) q,⟨o,k _ _ (.inl rfl) e⟩,st⟩
theorem fm.lt(x:fm P w H h)(e:H a=aD o):a<h.objs.size:=(x a o e).lt
theorem fm.fresh(x:fm P w H h)(e:h.objs.size<=a):H a=aE:=by
 cases q:H a with|none=>rfl|some u=>exact absurd (dP (x.lt q) e) (jG _)
theorem fm.kept(x:fm P w H h)(k:∀b u,h.get? b=aD u->h'.get? b=aD u):fm P w H h':=λa o e=>
 (x a o e).stay (λb u _ q=>k b u q) (λ_ q=>q) λ_ _ q=>q
theorem fm.laid(x:fm P w H h)(k:∀b u,h.get? b=aD u->h'.get? b=aD u)(hp:h.objs.size<=a)(new:aZ P w (upd H a o) h' a o):fm P w (upd H a o) h':=λb u e=>by
 have hn:=x.fresh hp;by_cases hb:b=a;subst hb;rw[iu]at e;cases e;exact new;rw[bV hb]at e;exact(x b u e).stay (λc v _ q=>k c v q) (λc q=>by rw[bV (gY q hn)];exact q) λc xs q=>by rw[bV (gY q hn)];exact q
end
noncomputable def Rd(H:Hp)(a:ah)(u:HO):Prop:=H a=aD u\/∃o,H a=aD (.bL o u)
theorem Rd.ok{P:ai}{w:aj}{H:Hp}{h:aB}{a:ah}{u:HO}(r:Rd H a u)(x:fm P w H h):aZ P w H h a u:=by rcases r with r|⟨o,r⟩;exact x a u r;obtain⟨_,q⟩:=x a _ r;exact q
noncomputable def zL:Option HO->Prop|some (.lst _)=>True|some (.dK _)=>True|some (.dT _)=>True|some (.set _ _)=>True|some (.ins _ _ _)=>True|some (.ext _)=>True|_=>False
section
variable{P:ai}{w:aj}{H:Hp}{h h':aB}{x e:ah}{o':HO}
theorem fm.write(ok:fm P w H h)(mu:zL (H x))(he:e=x\/H e=aD (.own x))(k:∀b u,b≠e->h.get? b=aD u->h'.get? b=aD u)(yu:∃u,h'.get? e=aD u)
 (new:aZ P w (upd H x o') h' x o'):fm P w (upd H x o') h':=λb u q=>by
 have zM:∀c y,H c=aD (.own y)->c≠x:=λc y r z=>by subst z;rw[r]at mu;exact mu
 have Gk:∀c xs,H c=aD (.tup xs)->c≠x:=λc xs r z=>by subst z;rw[r]at mu;exact mu
 by_cases hb:b=x;subst hb;rw[iu]at q;cases q;exact new;rw[bV hb]at q;by_cases vO:b=e;have q':H b=aD (.own x):=by rcases he with z|z;exact absurd (vO.trans z) hb;rw[vO];exact z
 rw[q]at q';cases q';obtain⟨v,hv⟩:=yu;exact⟨v,by rw[vO];exact hv⟩;refine(ok b u q).stay (λc v hc r=>k c v ?_ r) (λc r=>by rw[bV (zM c b r)];exact r) λc xs r=>by rw[bV (Gk c xs r)];exact r
 rcases hc with rfl|hc;exact vO;rintro rfl;rcases he with z|z;exact zM c b hc z;rw[hc]at z;cases z;exact hb rfl
end
structure Un(fs ex:List ah)(H H':Hp)(h h':aB):Prop where
 keep:∀b o,h.get? b=aD o->H b=aE->b∉fs->b∉ex->h'.get? b=aD o
 slot:∀b o,h.get? b=aD o->H b=aE->b∈fs->b∉ex->∃sl,h'.get? b=aD {o with slots:=sl}
 free:∀b o,h.get? b=aD o->H b=aE->b∉ex->H' b=aE
 there:∀b o,h.get? b=aD o->b∉ex->∃o',h'.get? b=aD o'
 tups:∀b xs,H b=aD (.tup xs)->H' b=aD (.tup xs)
 iw:∀b o u,H b=aD (.bL o u)->H' b=aD (.bL o u)
 iL:∀b ps,H b=aD (.vM ps)->∃more,H' b=aD (.vM (ps++more))
section
variable{fs fs' ex ex':List ah}{H H1 H2:Hp}{h h1 h2 h':aB}{a x e:ah}{o:HO}
theorem Un.any(u:Un fs ex H H1 h h1){b:ah}{ob:Obj}(q:h.get? b=aD ob)(n:H b=aE)(hx:b∉ex):∃sl,h1.get? b=aD {ob with slots:=sl}:=by by_cases hb:b∈fs;exact u.slot b ob q n hb hx;exact⟨ob.slots,u.keep b ob q n hb hx⟩
theorem Un.kept(k:∀b u,h.get? b=aD u->h'.get? b=aD u):Un fs ex H H h h':=
 ⟨λb ob q _ _ _=>k b ob q,λb ob q _ _ _=>⟨ob.slots,k b ob q⟩,λ_ _ _ n _=>n,λb ob q _=>⟨ob,k b ob q⟩,λ_ _ q=>q,λ_ _ _ q=>q,λ_ ps q=>⟨#[],by rw[q];simp⟩⟩
theorem Un.refl:Un fs ex H H h h:=Un.kept λ_ _ q=>q
theorem Un.laid(k:∀b u,h.get? b=aD u->h'.get? b=aD u)(hp:h.objs.size<=a)(hn:H a=aE):Un fs ex H (upd H a o) h h' where
 keep:=λb u q _ _ _=>k b u q
 slot:=λb u q _ _ _=>⟨u.slots,k b u q⟩
 free:=λb u q n _=>by rw[bV (fR (dP (cH q) hp))];exact n
 there:=λb u q _=>⟨u,k b u q⟩
 tups:=λb xs q=>by rw[bV (gY q hn)];exact q
 iw:=λb u xs q=>by rw[bV (gY q hn)];exact q
 iL:=λb ps q=>⟨#[],by rw[bV (gY q hn),q];simp⟩
theorem Un.write(mu:zL (H x))(he:e=x\/H e=aD (.own x))(k:∀b u,b≠e->h.get? b=aD u->h'.get? b=aD u)(yu:∃u,h'.get? e=aD u):Un fs ex H (upd H x o) h h':=by
 have hx:∀b,H b=aE->b≠x:=λb n z=>by subst z;rw[n]at mu;exact mu
 have hb:∀b,H b=aE->b≠e:=λb n z=>by
  subst z;rcases he with r|r
  exact hx b n r;rw[n]at r;cases r
 have hm:∀b u,H b=aD u->¬zL (aD u)->b≠x:=λb u q nm z=>by subst z;rw[q]at mu;exact nm mu
 refine⟨λb u q n _ _=>k b u (hb b n) q,λb u q n _ _=>⟨u.slots,k b u (hb b n) q⟩,λb u q n _=>by rw[bV (hx b n)];exact n,λb u q _=>?_,
  λb xs q=>by rw[bV (hm b _ q λz=>z)];exact q,λb u xs q=>by rw[bV (hm b _ q λz=>z)];exact q,λb ps q=>⟨#[],by rw[bV (hm b _ q λz=>z),q];simp⟩⟩
 by_cases vO:b=e;subst vO;exact yu;exact⟨u,k b u vO q⟩
end
noncomputable def DY(h:aB)(H:Hp):List ah:=(List.range h.objs.size).filter λa=>(H a).isSome
noncomputable def ji(h:aB)(H:Hp):aB:=PySem.W.hideAll h (DY h H)
theorem R9(h:aB)(H:Hp):(ji h H).objs.size=h.objs.size:=PySem.W.hideAll_size _ _
theorem Sa{h:aB}{H:Hp}{b:ah}{o:Obj}(e:h.get? b=aD o)(n:H b=aE):(ji h H).get? b=aD o:=
 PySem.W.hideAll_get _ e λhm=>by
  have q:(H b).isSome=true:=(List.mem_filter.mp hm).2;rw[n]at q;simp at q
theorem Sb{h:aB}{H:Hp}{b:ah}{o:Obj}(e:(ji h H).get? b=aD o):h.get? b=aD o/\H b=aE:=by
 have e':h.get? b=aD o:=PySem.W.of_hideAll (DY h H) e;refine⟨e',?_⟩;cases q:H b with
 |none=>rfl
 |some x=>
  have hm:b∈DY h H:=List.mem_filter.mpr ⟨tY.mpr (cH e'),by simp[q]⟩;have z:(ji h H).get? b=aE:=PySem.W.hideAll_none (DY h H) hm;rw[z]at e;cases e
structure Mod(K:aK)(mg:Str->Option aa)(base:aB):Prop where
 Gn:K.In base
 glob:base.Ns mainGlobals mg
 blt:∃mb,base.Ns builtinsNs mb/\∀x:Str,x≠"__name__"->mb x=bootBuiltins x
 nolimit:base.NoLimit
set_option genInjectivity false in
structure Cx where
 prog:ai
 w:aj
 K:aK
 mg:Str->Option aa
 base:aB
 A:ak
 N:List Str
 s₀:af
 H₀:Hp
 env:Env
 outer:List Env
 stack:List Env
 ex:List ah
 fn:Str->Bool
 calm:Bool
 pn:List (ah×Obj)
 xe:aa->af->Prop
noncomputable def frs(l:List Env):List ah:=l.filterMap (·.frame)
noncomputable abbrev Cx.fs(X:Cx):List ah:=frs X.outer
noncomputable def yw(sc:aA)(x:Str):Prop:=sc.names.lookup x=aD .local\/sc.names.lookup x=aD .cell\/sc.names.lookup x=aD .free
noncomputable def Loc(sc:aA)(x:Str):Prop:=sc.names.lookup x=aD .local\/sc.names.lookup x=aD .cell
noncomputable def Look(env:Env)(h:aB)(m:Str->Option aa)(x:Str)(u:aa):Prop:=
 (env.kindOf x=aD .local/\m x=aD u)\/((env.kindOf x=aD .cell\/env.kindOf x=aD .free)/\∃c,env.cells.lookup x=aD c/\h.IsCell c (aD u))
structure Cx.Ok(X:Cx):Prop where
 mod:Mod X.K X.mg X.base
 kind:X.env.scope.kind=.function
 glob:X.env.globals=mainGlobals
 blt:X.env.builtins=builtinsNs
 above:X.s₀.heap.objs.size<=X.env.locals
 inj:∀x y c,X.env.cells.lookup x=aD c->X.env.cells.lookup y=aD c->x=y
 has:∀x,(X.env.kindOf x=aD .cell\/X.env.kindOf x=aD .free)->∃c,X.env.cells.lookup x=aD c
 zN:∀x c,X.fn x=true->X.env.cells.lookup x=aD c->X.s₀.heap.objs.size<=c
 hd:X.calm=true->X.A.handled=aE
 frames:X.A.frames=aD X.stack
 stk:X.stack=X.outer\/(X.stack=X.env::X.outer/\X.env.frame=aD X.env.locals)
 yy:∀b∈X.ex,b≠X.env.locals/\∀x c,X.env.cells.lookup x=aD c->c≠b
 bs:∀b o,X.base.get? b=aD o->X.s₀.heap.get? b=aD o/\X.H₀ b=aE
 vP:X.base.objs.size<=X.s₀.heap.objs.size
 nV:∀b o,X.base.get? b=aD o->b∉X.ex
 mJ:∀b∈X.ex,b∉X.fs
 iy:X.s₀.heap.FunFrames X.base X.outer
 yz:∀b∈X.fs,X.H₀ b=aE
structure Inv(X:Cx)(pins:List (ah×Obj))(σ:List (Option V))(H:Hp)(s:af):Prop where
 ok:X.Ok
 os:s.os=X.s₀.os
 bare:AllBare s.gens
 base:Un X.fs X.ex X.H₀ H X.s₀.heap s.heap
 loc:∃m,s.heap.Ns X.env.locals m/\∀(i:Nat)(x:Str)(v:V),X.N[i]?=aD x->σ[i]?=aD (aD v)->yw X.env.scope x->∃u,RelV v u/\Look X.env s.heap m x u
 cell:∀x c,X.env.cells.lookup x=aD c->∃v,s.heap.IsCell c v
 free:H X.env.locals=aE
 fq:∀x c,X.env.cells.lookup x=aD c->H c=aE
 pin:∀p∈X.pn++pins,s.heap.get? p.1=aD p.2/\H p.1=aE/\p.1≠X.env.locals/\p.1∉X.fs/\∀v,p.2.data≠.cell v
 hok:fm X.prog X.w H s.heap
 len:σ.length=X.N.length
section
variable{X:Cx}{pins:List (ah×Obj)}{σ:List (Option V)}{H H':Hp}{s:af}{h':aB}
theorem Cx.Ok.Gp(ok:X.Ok){b:ah}{o:Obj}(e:X.base.get? b=aD o):b∉X.fs:=λhb=>by
 have:=(ok.iy.mem hb).1;rw[e]at this;cases this
theorem Inv.bs(I:Inv X pins σ H s):∀b o,X.base.get? b=aD o->s.heap.get? b=aD o/\H b=aE:=λb o e=>
 ⟨I.base.keep b o (I.ok.bs b o e).1 (I.ok.bs b o e).2 (I.ok.Gp e) (I.ok.nV b o e),I.base.free b o (I.ok.bs b o e).1 (I.ok.bs b o e).2 (I.ok.nV b o e)⟩
theorem Inv.bk(I:Inv X pins σ H s):∀b o,X.base.get? b=aD o->s.heap.get? b=aD o:=λb o e=>(I.bs b o e).1
theorem Inv.mod(I:Inv X pins σ H s):Mod X.K X.mg X.base:=I.ok.mod
theorem Inv.iV(I:Inv X pins σ H s):X.K.In s.heap:=I.ok.mod.Gn.keeps I.bk
theorem Inv.lt(I:Inv X pins σ H s):X.env.locals<s.heap.objs.size:=let⟨_,hn,_⟩:=I.loc;hn.lt
theorem Inv.sz(I:Inv X pins σ H s):X.s₀.heap.objs.size<=s.heap.objs.size:=ie I.ok.above (tR I.lt)
theorem Inv.Gq(I:Inv X pins σ H s){a:ah}(h:s.heap.objs.size<=a):a∉X.fs:=λhb=>by
 obtain⟨_,o,ho,_⟩:=I.ok.iy.mem hb;exact absurd (dP (cH ho) (ie I.sz h)) (jG _)
theorem Inv.vQ(I:Inv X pins σ H s):∀x c,X.env.cells.lookup x=aD c->c≠X.env.locals:=λx c e z=>by
 obtain⟨v,o,ho,hd⟩:=I.cell x c e;obtain⟨m,⟨o',es,ep,ho',hd',_⟩,_⟩:=I.loc;rw[z,ho']at ho;cases ho;rw[hd']at hd;cases hd
theorem Inv.iy(I:Inv X pins σ H s):s.heap.FunFrames X.base X.outer:=by
 have all:∀(l:List Env),(∀b∈frs l,b∈X.fs)->X.s₀.heap.FunFrames X.base l->s.heap.FunFrames X.base l:=by
  intro l;induction l with
  |nil=>intro _ _;trivial
  |cons env r ih=>
   intro hs hl;obtain⟨hk,⟨L,o,hf,hn,ho,hd⟩,hr⟩:=hl;have hL:L∈X.fs:=hs L (by unfold frs;rw[yg,hf];exact fk);obtain⟨sl,e⟩:=I.base.slot L o ho (I.ok.yz L hL) hL λz=>I.ok.mJ L z hL;exact⟨hk,⟨L,_,hf,hn,e,hd⟩,ih (λb hb=>hs b (by unfold frs;rw[yg,hf];exact dQ _ hb)) hr⟩
 exact all X.outer (λ_ hb=>hb) I.ok.iy
theorem Inv.stack(I:Inv X pins σ H s):s.heap.FunFrames X.base X.stack:=by rcases I.ok.stk with e|⟨e,hf⟩;rw[e];exact I.iy;rw[e];obtain⟨m,hn,_⟩:=I.loc;refine .cons (by rw[I.ok.kind];decide) hf hn ?_ I.iy;exact Heap.get?_none_of_le (ie I.ok.vP I.ok.above)
theorem Inv.kT(I:Inv X pins σ H s):∀b∈frs X.stack,b∈X.env.locals::X.fs:=λb hb=>by
 rcases I.ok.stk with e|⟨e,hf⟩;rw[e]at hb;exact dQ _ hb;rw[e]at hb;unfold frs at hb;rw[yg,hf]at hb;exact hb
theorem Inv.lE(I:Inv X pins σ H s):∀b∈frs X.stack,H b=aE:=λb hb=>by
 rcases fP.mp (I.kT b hb)with e|hb;rw[e];exact I.free;obtain⟨_,o,ho,_⟩:=I.ok.iy.mem hb;exact I.base.free b o ho (I.ok.yz b hb) λz=>I.ok.mJ b z hb
theorem Inv.step{g':Array GenState}{t':Nat}{d':Drawn}{ch:List ah}(I:Inv X pins σ H s)
 (hch:∀b∈ch,(b∈X.ex\/X.s₀.heap.objs.size<=b)/\b≠X.env.locals/\(∀x c,X.env.cells.lookup x=aD c->c≠b)/\∀p∈X.pn++pins,p.1≠b)
 (keep:∀b o,b≠X.env.locals->b∉X.fs->b∉ch->s.heap.get? b=aD o->H b=aE->h'.get? b=aD o)
 (slot:∀b o,b≠X.env.locals->b∈X.fs->b∉ch->s.heap.get? b=aD o->H b=aE->∃sl,h'.get? b=aD {o with slots:=sl}) (free:∀b o,b∉ch->s.heap.get? b=aD o->H b=aE->H' b=aE)
 (there:∀b o,b∉ch->s.heap.get? b=aD o->∃o',h'.get? b=aD o')
 (tups:∀b xs,H b=aD (.tup xs)->H' b=aD (.tup xs)) (iw:∀b o u,H b=aD (.bL o u)->H' b=aD (.bL o u)) (iL:∀b ps,H b=aD (.vM ps)->∃more,H' b=aD (.vM (ps++more)))
 (ns:∀m,s.heap.Ns X.env.locals m->h'.Ns X.env.locals m) (hok:fm X.prog X.w H' h') (hg:AllBare g') :
 Inv X pins σ H' {s with heap:=h',gens:=g',drawn:=d',toks:=t'}:=by
 have M4:∀b o,X.s₀.heap.get? b=aD o->b≠X.env.locals:=λb o e=>fR (dP (cH e) I.ok.above);have nJ:∀b o,X.s₀.heap.get? b=aD o->b∉X.ex->b∉ch:=λb o e hx hb=>by
  rcases(hch b hb).1 with z|z;exact hx z;exact absurd (dP (cH e) z) (jG _)
 have cellK:∀x c,X.env.cells.lookup x=aD c->∀v,s.heap.IsCell c v->h'.IsCell c v:=λx c e v bW=>by
  obtain⟨o,ho,hd⟩:=bW;have zO:c∉ch:=λz=>(hch c z).2.2.1 x c e rfl;by_cases hc:c∈X.fs;obtain⟨sl,q⟩:=slot c o (I.vQ x c e) hc zO ho (I.fq x c e);exact⟨_,q,hd⟩;exact⟨o,keep c o (I.vQ x c e) hc zO ho (I.fq x c e),hd⟩
 refine⟨I.ok,I.os,hg,⟨λb o e n hb hx=>?_,λb o e n hb hx=>?_,λb o e n hx=>?_,λb o e hx=>?_,λb xs e=>tups b xs (I.base.tups b xs e),λb o xs e=>iw b o xs (I.base.iw b o xs e),λb ps e=>?_⟩,?_,λx c e=>?_,?_,λx c e=>?_,λp hp=>?_,hok,I.len⟩;exact keep b o (M4 b o e) hb (nJ b o e hx) (I.base.keep b o e n hb hx) (I.base.free b o e n hx);obtain⟨sl,e1⟩:=I.base.slot b o e n hb hx;obtain⟨Se,e2⟩:=slot b _ (M4 b o e) hb (nJ b o e hx) e1 (I.base.free b o e n hx);exact⟨Se,e2⟩;obtain⟨o',e1⟩:=I.base.there b o e hx;exact free b o' (nJ b o e hx) e1 (I.base.free b o e n hx);obtain⟨o',e1⟩:=I.base.there b o e hx;exact there b o' (nJ b o e hx) e1;obtain⟨m1,e1⟩:=I.base.iL b ps e;obtain⟨m2,e2⟩:=iL b _ e1;exact⟨m1++m2,by rw[e2,Array.append_assoc]⟩;obtain⟨m,hn,hl⟩:=I.loc;refine⟨m,ns m hn,λi x v e1 e2 e3=>?_⟩;obtain⟨u,r,l⟩:=hl i x v e1 e2 e3;refine⟨u,r,?_⟩;rcases l with l|⟨k,c,e,z⟩
 exact .inl l;exact .inr ⟨k,c,e,cellK x c e _ z⟩;obtain⟨v,z⟩:=I.cell x c e;exact⟨v,cellK x c e v z⟩;obtain⟨m,⟨o,_,_,ho,_⟩,_⟩:=I.loc;exact free _ o (λz=>(hch _ z).2.1 rfl) ho I.free;obtain⟨v,o,ho,hd⟩:=I.cell x c e;exact free c o (λz=>(hch c z).2.2.1 x c e rfl) ho (I.fq x c e);obtain⟨e,n,ne,nf,d⟩:=I.pin p hp;have zO:p.1∉ch:=λz=>(hch p.1 z).2.2.2 p hp rfl;exact⟨keep p.1 p.2 ne nf zO e n,free p.1 p.2 zO e n,ne,nf,d⟩
theorem Inv.un{t':Nat}(I:Inv X pins σ H s)(u:Un X.fs [] H H' s.heap h')(hok:fm X.prog X.w H' h'):Inv X pins σ H' {s with heap:=h',toks:=t'}:=by
 obtain⟨m,⟨o,es,ep,ho,r⟩,_⟩:=id I.loc;obtain⟨sl,hL⟩:=u.any ho I.free (by simp);exact I.step (g':=s.gens) (d':=s.drawn) (ch:=[]) (λ_ z=>nomatch z) (λb o _ hb _ e n=>u.keep b o e n hb (by simp)) (λb o _ hb _ e n=>u.slot b o e n hb (by simp)) (λb o _ e n=>u.free b o e n (by simp)) (λb o _ e=>u.there b o e (by simp)) u.tups u.iw u.iL (λm' hm=>by
  obtain⟨o',es',Gs,ho',r'⟩:=hm;rw[ho]at ho';cases ho';exact⟨_,es',Gs,hL,r'⟩) hok I.bare
theorem Inv.call{g':Array GenState}{t':Nat}{d':Drawn}{ch:List ah}(I:Inv X pins σ H s)(u:Un (frs X.stack) ch H H' s.heap h')(hok:fm X.prog X.w H' h')(hg:AllBare g')
 (hch:∀b∈ch,(b∈X.ex\/X.s₀.heap.objs.size<=b)/\b≠X.env.locals/\(∀x c,X.env.cells.lookup x=aD c->c≠b)/\∀p∈X.pn++pins,p.1≠b) :
 Inv X pins σ H' {s with heap:=h',gens:=g',drawn:=d',toks:=t'}:=by
 obtain⟨m,⟨o,es,ep,ho,r⟩,_⟩:=id I.loc;obtain⟨sl,hL⟩:=u.any ho I.free λz=>(hch _ z).2.1 rfl;exact I.step (ch:=ch) hch (λb o hL hb hc e n=>u.keep b o e n (λz=>(fP.mp (I.kT b z)).elim hL hb) hc) (λb o _ _ hc e n=>u.any e n hc) (λb o hc e n=>u.free b o e n hc) (λb o hc e=>u.there b o e hc) u.tups u.iw u.iL (λm' hm=>by
  obtain⟨o',es',Gs,ho',r'⟩:=hm;rw[ho]at ho';cases ho';exact⟨_,es',Gs,hL,r'⟩) hok hg
theorem Inv.turned{t':Nat}{it:ah}(I:Inv X pins σ H s)(k:∀b o,b≠it->s.heap.get? b=aD o->h'.get? b=aD o)(hn:H it=aE)(hL:it≠X.env.locals)
 (h1:it∈X.ex\/X.s₀.heap.objs.size<=it) (h2:∀x c,X.env.cells.lookup x=aD c->c≠it) (h3:∀p∈X.pn++pins,p.1≠it):Inv X pins σ H {s with heap:=h',toks:=t'}:=by
 have M5:∀b u,H b=aD u->b≠it:=λb u e z=>by rw[z,hn]at e;cases e
 refine I.step (g':=s.gens) (d':=s.drawn) (ch:=[it]) (λb hb=>?_) (λb o _ _ hc e _=>k b o (λz=>hc (by simp[z])) e) (λb o _ _ hc e _=>⟨o.slots,k b o (λz=>hc (by simp[z])) e⟩) (λ_ _ _ _ n=>n)
  (λb o hc e=>⟨o,k b o (λz=>hc (by simp[z])) e⟩) (λ_ _ e=>e) (λ_ _ _ e=>e) (λb ps e=>⟨#[],by rw[e];simp⟩) (λm hm=>?_) (λb u e=>?_) I.bare
 have e:b=it:=by simpa using hb
 subst e;exact⟨h1,hL,h2,h3⟩;obtain⟨o,es,ep,ho,r⟩:=hm;exact⟨o,es,ep,k _ o (eX hL) ho,r⟩;refine(I.hok b u e).stay (λc v hc q=>k c v ?_ q) (λ_ q=>q) λ_ _ q=>q;rcases hc with z|z
 rw[z];exact M5 b u e;exact M5 c _ z
theorem Inv.tok(I:Inv X pins σ H s)(t:Nat):Inv X pins σ H {s with toks:=t}:=I.un (h':=s.heap) (t':=t) Un.refl I.hok
theorem Inv.kept{t':Nat}(I:Inv X pins σ H s)(k:∀b u,s.heap.get? b=aD u->h'.get? b=aD u):Inv X pins σ H {s with heap:=h',toks:=t'}:=I.un (Un.kept k) (I.hok.kept k)
theorem Inv.laid{a:ah}{o:HO}{t':Nat}(I:Inv X pins σ H s)(k:∀b u,s.heap.get? b=aD u->h'.get? b=aD u)(hp:s.heap.objs.size<=a)(new:aZ X.prog X.w (upd H a o) h' a o) :
 Inv X pins σ (upd H a o) {s with heap:=h',toks:=t'}:=I.un (Un.laid k hp (I.hok.fresh hp)) (I.hok.laid k hp new)
theorem Inv.write{x e:ah}{o:HO}{t':Nat}(I:Inv X pins σ H s)(mu:zL (H x))(he:e=x\/H e=aD (.own x))(k:∀b u,b≠e->s.heap.get? b=aD u->h'.get? b=aD u)(yu:∃u,h'.get? e=aD u)
 (new:aZ X.prog X.w (upd H x o) h' x o):Inv X pins σ (upd H x o) {s with heap:=h',toks:=t'}:=I.un (Un.write mu he k yu) (I.hok.write mu he k yu new)
theorem Inv.lF{t6:List (ah×Obj)}(I:Inv X pins σ H s)(h:∀p∈t6,s.heap.get? p.1=aD p.2/\H p.1=aE/\p.1≠X.env.locals/\p.1∉X.fs/\∀v,p.2.data≠.cell v):Inv X t6 σ H s:=
 ⟨I.ok,I.os,I.bare,I.base,I.loc,I.cell,I.free,I.fq,λp hp=>(mF.mp hp).elim (λz=>I.pin p (zy _ z)) (h p),I.hok,I.len⟩
theorem M6{N:List Str}(hN:N.Nodup){i j:Nat}{x:Str}(a:N[i]?=aD x)(b:N[j]?=aD x):i=j:=by obtain⟨h1,e1⟩:=jJ.mp a;obtain⟨h2,e2⟩:=jJ.mp b;exact(List.getElem_inj hN).mp (e1.trans e2.symm)
theorem Gu{M:Model}{A:ak}{E:aa->af->Prop}{i:Nat}{x:Str}{v:V}{u:aa}{Q:Unit->af->Prop}(I:Inv X pins σ H s)(hN:X.N.Nodup)(hi:X.N[i]?=aD x)(hx:Loc X.env.scope x)(r:RelV v u)
 (h:∀s',Inv X pins (σ.set i (aD v)) H s'->(∃a,Heap.SameBut a s.heap s'.heap/\(a=X.env.locals\/X.env.cells.lookup x=aD a))->Q () s') (hf:autoParam (X.fn x=true\/X.env.scope.names.lookup x=aD .local) L2.aF1._auto_1):wpAny M A (storeName X.env x u) Q E s:=by
 obtain⟨m,hn,hl⟩:=id I.loc;have hcls:(X.env.scope.kind == .class|| (X.env.scope.kind == .module&&X.env.locals != X.env.globals))=false:=by rw[I.ok.kind];rfl
 have zP:i<σ.length:=by rw[I.len];exact(jJ.mp hi).1
 have vQ:=I.vQ;have tracked:∀{a:ah}{h':aB},(∃o,s.heap.get? a=aD o/\H a=aE)->Heap.SameBut a s.heap h'->fm X.prog X.w H h':=λ{a h'} ha hs b ob e=>by
  obtain⟨_,_,hfree⟩:=ha;refine(I.hok b ob e).stay (λc w' hc q=>(hs.2 c ?_).trans q) (λ_ q=>q) λ_ _ q=>q;rintro rfl;rcases hc with rfl|hc;rw[hfree]at e;cases e;rw[hfree]at hc;cases hc
 rcases hx with hk|hk;refine wpAny_storeName_local hk hn (λh' hn' hs=>?_) hcls;obtain⟨oL,_,_,Sf,_⟩:=id hn;refine h _ ⟨I.ok,I.os,I.bare,⟨λb o e n hb hx=>?_,λb o e n hb hx=>?_,I.base.free,λb o e hx=>?_,I.base.tups,I.base.iw,I.base.iL⟩,⟨_,hn',λj y v' e1 e2 e3=>?_⟩,λy c e=>?_,I.free,I.fq,λp hp=>?_,tracked ⟨oL,Sf,I.free⟩ hs,by simpa using I.len⟩ ⟨_,hs,.inl rfl⟩;exact(hs.2 b (fR (dP (cH e) I.ok.above))).trans (I.base.keep b o e n hb hx);obtain⟨sl,e1⟩:=I.base.slot b o e n hb hx;exact⟨sl,(hs.2 b (fR (dP (cH e) I.ok.above))).trans e1⟩;obtain⟨o',e1⟩:=I.base.there b o e hx;exact⟨o',(hs.2 b (fR (dP (cH e) I.ok.above))).trans e1⟩;by_cases hj:j=i;subst hj;rw[hi]at e1;cases e1;rw[nQ zP]at e2;cases e2;exact⟨u,r,.inl ⟨hk,by simp⟩⟩;rw[ye (eX hj)]at e2;obtain⟨u',r',q⟩:=hl j y v' e1 e2 e3;refine⟨u',r',?_⟩;rcases q with⟨k,e⟩|⟨k,c,e,z⟩;refine .inl ⟨k,?_⟩;have:y≠x:=λe=>hj (M6 hN e1 (e▸hi));simp[this,e];exact .inr ⟨k,c,e,z.sameBut hs (vQ y c e)⟩;obtain⟨w',z⟩:=I.cell y c e;exact⟨w',z.sameBut hs (vQ y c e)⟩;obtain⟨e,n,ne,nf,d⟩:=I.pin p hp;exact⟨(hs.2 p.1 ne).trans e,n,ne,nf,d⟩;have hfn:X.fn x=true:=by rcases hf with z|z;exact z;rw[z]at hk;cases hk
 obtain⟨c,hc⟩:=I.ok.has x (.inl hk);obtain⟨w',z⟩:=I.cell x c hc;refine wpAny_storeName_cell I.ok.kind hk hc z (λh' hc' hs=>?_);obtain⟨oc,hoc,Gv⟩:=id z;refine h {s with heap:=h'} ⟨I.ok,I.os,I.bare,⟨λb o e n hb hx=>?_,λb o e n hb hx=>?_,I.base.free,λb o e hx=>?_,I.base.tups,I.base.iw,I.base.iL⟩,⟨m,hn.sameBut hs (eX (vQ x c hc)),λj y v' e1 e2 e3=>?_⟩,λy c' e=>?_,I.free,I.fq,λp hp=>?_,tracked ⟨oc,hoc,I.fq x c hc⟩ hs,by simpa using I.len⟩ ⟨c,hs,.inr hc⟩;exact(hs.2 b (fR (dP (cH e) (I.ok.zN x c hfn hc)))).trans (I.base.keep b o e n hb hx);obtain⟨sl,e1⟩:=I.base.slot b o e n hb hx;exact⟨sl,(hs.2 b (fR (dP (cH e) (I.ok.zN x c hfn hc)))).trans e1⟩;obtain⟨o',e1⟩:=I.base.there b o e hx;exact⟨o',(hs.2 b (fR (dP (cH e) (I.ok.zN x c hfn hc)))).trans e1⟩;by_cases hj:j=i;subst hj;rw[hi]at e1;cases e1;rw[nQ zP]at e2;cases e2;exact⟨u,r,.inr ⟨.inl hk,c,hc,hc'⟩⟩;rw[ye (eX hj)]at e2;obtain⟨u',r',q⟩:=hl j y v' e1 e2 e3;refine⟨u',r',?_⟩;rcases q with q|⟨k,c',e,z'⟩;exact .inl q;refine .inr ⟨k,c',e,z'.sameBut hs ?_⟩;rintro rfl;exact hj (M6 hN e1 (I.ok.inj _ _ _ e hc▸hi));by_cases hcc:c'=c;subst hcc;exact⟨_,hc'⟩;obtain⟨w2,z2⟩:=I.cell y c' e;exact⟨w2,z2.sameBut hs hcc⟩;obtain⟨e,n,ne,nf,d⟩:=I.pin p hp;refine⟨(hs.2 p.1 ?_).trans e,n,ne,nf,d⟩;intro q;rw[q,hoc]at e;have q':oc=p.2:=mG e;exact d w' (by rw[<-q'];exact Gv)
theorem Gw{M:Model}{A:ak}{E:aa->af->Prop}{i:Nat}{x:Str}{v:V}{u:aa}{Q:Unit->af->Prop}(I:Inv X pins σ H s)(hN:X.N.Nodup)(hi:X.N[i]?=aD x)(hx:Loc X.env.scope x)(r:RelV v u)
 (h:∀s',Inv X pins (σ.set i (aD v)) H s'->Q () s') (hf:autoParam (X.fn x=true\/X.env.scope.names.lookup x=aD .local) L2.aF1._auto_1):wpAny M A (storeName X.env x u) Q E s:=
 Gu I hN hi hx r (λs' I' _=>h s' I') hf
theorem Inv.t7{s':af}{ch:List ah}(I:Inv X pins σ H s)(ho:s'.os=s.os)(u:Un (frs X.stack) ch H H' s.heap s'.heap)(hok:fm X.prog X.w H' s'.heap)(hg:AllBare s'.gens)
 (hch:∀b∈ch,(b∈X.ex\/X.s₀.heap.objs.size<=b)/\b≠X.env.locals/\(∀x c,X.env.cells.lookup x=aD c->c≠b)/\∀p∈X.pn++pins,p.1≠b):Inv X pins σ H' s':=by
 obtain⟨h',g',d',t',o'⟩:=s';have e:o'=s.os:=ho;subst e;exact I.call (g':=g') (t':=t') (d':=d') u hok hg hch
end
noncomputable abbrev XK:=aa->Option ah->Hp->Prop
noncomputable abbrev St:=List (Option V)
noncomputable abbrev VK:=V->Hp->Prop
noncomputable abbrev TE:=St->Hp->VK->Prop
noncomputable abbrev TT:=St->Hp->(Bool->Hp->Prop)->Prop
noncomputable abbrev TA:=St->Hp->(List V->Hp->Prop)->Prop
set_option genInjectivity false in
structure Ends where
 nx:St->Hp->Prop
 rt:VK
 bk:St->Hp->Prop:=λ_ _=>False
 ct:St->Hp->Prop:=λ_ _=>False
noncomputable abbrev TS:=Ends->St->Hp->Prop
noncomputable def EP(X:Cx)(pins:List (ah×Obj))(σ:St)(Q:VK)(u:aa)(s':af):Prop:=∃v H',Inv X pins σ H' s'/\RelV v u/\Q v H'
noncomputable def TP(X:Cx)(pins:List (ah×Obj))(σ:St)(Q:Bool->Hp->Prop)(b:Bool)(s':af):Prop:=∃H',Inv X pins σ H' s'/\Q b H'
noncomputable def AP(X:Cx)(pins:List (ah×Obj))(σ:St)(Q:List V->Hp->Prop)(us:List aa)(s':af):Prop:=∃vs H',Inv X pins σ H' s'/\Vals vs us/\Q vs H'
theorem EP.el{X:Cx}{pins:List (ah×Obj)}{σ:St}{Q:VK}{u:aa}{s':af}{P:Prop}(q:EP X pins σ Q u s')(k:∀v H',Inv X pins σ H' s'->RelV v u->Q v H'->P):P:=by obtain⟨v,H',a,b,c⟩:=q;exact k v H' a b c
theorem TP.el{X:Cx}{pins:List (ah×Obj)}{σ:St}{Q:Bool->Hp->Prop}{b:Bool}{s':af}{P:Prop}(q:TP X pins σ Q b s')(k:∀H',Inv X pins σ H' s'->Q b H'->P):P:=by obtain⟨H',a,c⟩:=q;exact k H' a c
theorem AP.el{X:Cx}{pins:List (ah×Obj)}{σ:St}{Q:List V->Hp->Prop}{us:List aa}{s':af}{P:Prop}(q:AP X pins σ Q us s')(k:∀vs H',Inv X pins σ H' s'->Vals vs us->Q vs H'->P):P:=by obtain⟨v,H',a,b,c⟩:=q;exact k v H' a b c
noncomputable def SP(X:Cx)(pins:List (ah×Obj))(D:Ends)(f:Flow)(s':af):Prop:=
 match f with|.next=>∃σ' H',Inv X pins σ' H' s'/\D.nx σ' H'|.brk=>∃σ' H',Inv X pins σ' H' s'/\D.bk σ' H'|.cont=>∃σ' H',Inv X pins σ' H' s'/\D.ct σ' H'|.ret u=>∃v σ' H',Inv X pins σ' H' s'/\RelV v u/\D.rt v H'
noncomputable def PE(X:Cx)(e:ao)(t:TE):Prop:=
 ∀(pins:List (ah×Obj))(s:af)(σ:St)(H:Hp)(Q:VK),Inv X pins σ H s->t σ H Q->wpAny (model X.prog X.w) X.A (eval e X.env) (EP X pins σ Q) X.xe s
noncomputable def PT(X:Cx)(e:ao)(t:TT):Prop:=
 ∀(pins:List (ah×Obj))(s:af)(σ:St)(H:Hp)(Q:Bool->Hp->Prop),Inv X pins σ H s->t σ H Q->wpAny (model X.prog X.w) X.A (isTrue e X.env (eval e X.env)) (TP X pins σ Q) X.xe s
noncomputable def PW(X:Cx)(e:ao)(t:TT):Prop:=
 ∀(whole:Sem aa)(pins:List (ah×Obj))(s:af)(σ:St)(H:Hp)(Q:Bool->Hp->Prop),Inv X pins σ H s->t σ H Q->wpAny (model X.prog X.w) X.A (isTrue e X.env whole) (TP X pins σ Q) X.xe s
theorem PW.pt{X:Cx}{e:ao}{t:TT}(h:PW X e t):PT X e t:=h _
noncomputable def PA(X:Cx)(es:List ao)(t:TA):Prop:=
 ∀(pos:Pos)(pins:List (ah×Obj))(s:af)(σ:St)(H:Hp)(Q:List V->Hp->Prop),Inv X pins σ H s->t σ H Q->wpAny (model X.prog X.w) X.A (spliced (backTo pos (starEach es X.env))) (AP X pins σ Q) X.xe s
noncomputable def PS(X:Cx)(st:au)(t:TS):Prop:=
 ∀(pins:List (ah×Obj))(s:af)(σ:St)(H:Hp)(D:Ends),Inv X pins σ H s->t D σ H->wpAny (model X.prog X.w) X.A (exec st X.env) (SP X pins D) X.xe s
noncomputable def kD(X:Cx)(st:List au)(t:TS):Prop:=
 ∀(pins:List (ah×Obj))(s:af)(σ:St)(H:Hp)(D:Ends),Inv X pins σ H s->t D σ H->wpAny (model X.prog X.w) X.A (execs st X.env) (SP X pins D) X.xe s
theorem aW{α:Type}{t:Sem α}{Q Q':α->af->Prop}{M:Model}{A:ak}{E:aa->af->Prop}{s:af}(h:wpAny M A t Q E s)(hQ:∀a s,Q a s->Q' a s):wpAny M A t Q' E s:=fZ h hQ λ_ _ x=>x
section
variable{X:Cx}
noncomputable def Gx(i:Nat):TE:=λσ H Q=>∃v,σ[i]?=aD (aD v)/\Q v H
noncomputable def tC(v:V):TE:=λ_ H Q=>Q v H
theorem Sg{i:Nat}{x:Str}{pos:Pos}(hN:X.N[i]?=aD x)(hv:yw X.env.scope x)(hd:autoParam ((x==("__debug__" : Str))=false) L2.aD1._auto_1)(hcd:autoParam ((x==("__classdict__" : Str))=false) L2.aD1._auto_1):PE X (.Name x pos) (Gx i):=by
 intro pins s σ H Q I h;obtain⟨v,e,h⟩:=h;obtain⟨m,hn,hl⟩:=I.loc;obtain⟨u,r,l⟩:=hl i x v hN e hv;have fin:EP X pins σ Q u s:=⟨v,H,I,r,h⟩
 rcases l with⟨hk,hm⟩|⟨hk,c,hc,hcell⟩;exact wpAny_Name (wpAny_loadName_local I.ok.kind hk hn hm fin) hd;rcases hk with hk|hk;exact wpAny_Name (wpAny_loadName_cell I.ok.kind hk hc hcell fin) hd;exact wpAny_Name (wpAny_loadName_free I.ok.kind hk hc hcell fin hcd) hd
theorem Sh{i j pos}:PE X (.Constant (.int i) j pos) (tC (.int i)):=λ_ _ _ H _ I h=>wpAny_Constant_int ⟨.int i,H,I.tok _,⟨_,rfl⟩,h⟩
theorem zQ{b j pos}:PE X (.Constant (.bool b) j pos) (tC (.bl b)):=λ_ _ _ H _ I h=>Constant_bool ⟨.bl b,H,I,rfl,h⟩
theorem Si{j pos}:PE X (.Constant .none j pos) (tC .aQ):=λ_ _ _ H _ I h=>Constant_none ⟨.aQ,H,I,rfl,h⟩
theorem Sj{x j pos}:PE X (.Constant (.str x) j pos) (tC (.str x)):=λ_ _ _ H _ I h=>Calls.Constant_str ⟨.str x,H,I.tok _,⟨_,rfl⟩,h⟩
noncomputable def Gl(X:Cx)(x:Str):Prop:=X.env.kindOf x=aD .globalImplicit
theorem Gy{E:aa->af->Prop}{pins:List (ah×Obj)}{s:af}{σ:St}{H:Hp}{x:Str}{u:aa}{pos:Pos}{Q:aa->af->Prop}(I:Inv X pins σ H s)(hg:Gl X x)(hm:X.mg x=aD u)(h:Q u s)
 (hd:autoParam ((x==("__debug__" : Str))=false) L2.aD1._auto_1):wpAny (model X.prog X.w) X.A (eval (.Name x pos) X.env) Q E s:=
 Calls.Name_function_global I.ok.kind hg (Calls.loadGlobal_global (by rw[I.ok.glob];exact I.mod.glob.keeps I.bk) hm h) hd
theorem qR{E:aa->af->Prop}{pins:List (ah×Obj)}{s:af}{σ:St}{H:Hp}{x:Str}{u:aa}{pos:Pos}{Q:aa->af->Prop}(I:Inv X pins σ H s)(hg:Gl X x)(hm:X.mg x=aE)(hv:bootBuiltins x=aD u)(h:Q u s)
 (hn:autoParam (x≠"__name__") L2.aD1._auto_1) (hd:autoParam ((x==("__debug__" : Str))=false) L2.aD1._auto_1):wpAny (model X.prog X.w) X.A (eval (.Name x pos) X.env) Q E s:=by
 obtain⟨mb,h1,h2⟩:=I.mod.blt;exact Calls.Name_function_global I.ok.kind hg (Calls.loadGlobal_builtin (by rw[I.ok.glob];exact I.mod.glob.keeps I.bk) hm (by rw[I.ok.blt];exact h1.keeps I.bk) ((h2 x hn).trans hv) h) hd
theorem Sk{x:Str}{v:V}{u:aa}{pos:Pos}(hg:Gl X x)(hm:X.mg x=aD u)(r:RelV v u)(hd:autoParam ((x==("__debug__" : Str))=false) L2.aD1._auto_1):PE X (.Name x pos) (tC v):=
 λ_ _ _ H _ I h=>Gy I hg hm ⟨v,H,I,r,h⟩ hd
theorem Sl{x:Str}{v:V}{u:aa}{pos:Pos}(hg:Gl X x)(hm:X.mg x=aE)(hv:bootBuiltins x=aD u)(r:RelV v u)(hn:autoParam (x≠"__name__") L2.aD1._auto_1)(hd:autoParam ((x==("__debug__" : Str))=false) L2.aD1._auto_1):PE X (.Name x pos) (tC v):=
 λ_ _ _ H _ I h=>qR I hg hm hv ⟨v,H,I,r,h⟩ hn hd
variable{a b:ao}{ta tb:TE}{pos:Pos}
variable{tA DZ:TT}{rest:List ao}
noncomputable def Gz(t u:TT):TT:=λσ H Q=>t σ H λc H1=>if c=true then u σ H1 Q else Q false H1
noncomputable def Sm(t u:TT):TT:=λσ H Q=>t σ H λc H1=>if c=true then Q true H1 else u σ H1 Q
noncomputable def GA(t:TT):TT:=λσ H Q=>t σ H λc H1=>Q (!c) H1
theorem Sn(ha:PT X a tA):PW X (.BoolOp .And [a] pos) tA:=by
 intro wh pins s σ H Q I h;refine isTrue_and (aW (ha pins s σ H Q I h) λc s1 e=>?_);cases c with|true=>exact isTrue_and_nil e|false=>exact e
theorem Sq(ha:PT X a tA):PW X (.BoolOp .Or [a] pos) tA:=by
 intro wh pins s σ H Q I h;refine isTrue_or (aW (ha pins s σ H Q I h) λc s1 e=>?_);cases c with|false=>exact isTrue_or_nil e|true=>exact e
theorem Ss(ha:PT X a tA)(hb:PW X (.BoolOp .And (b::rest) pos) DZ):PW X (.BoolOp .And (a::b::rest) pos) (Gz tA DZ):=by
 intro wh pins s σ H Q I h;refine isTrue_and (aW (ha pins s σ H _ I h) λc s1 z9=>z9.el λH1 I1 q1=>?_);cases c with|true=>exact hb wh pins s1 σ H1 Q I1 q1|false=>exact⟨H1,I1,q1⟩
theorem pw_or(ha:PT X a tA)(hb:PW X (.BoolOp .Or (b::rest) pos) DZ):PW X (.BoolOp .Or (a::b::rest) pos) (Sm tA DZ):=by
 intro wh pins s σ H Q I h;refine isTrue_or (aW (ha pins s σ H _ I h) λc s1 z9=>z9.el λH1 I1 q1=>?_);cases c with|true=>exact⟨H1,I1,q1⟩|false=>exact hb wh pins s1 σ H1 Q I1 q1
theorem Su(ha:PT X a tA):PT X (.UnaryOp .Not a pos) (GA tA):=by intro pins s σ H Q I h;exact isTrue_not (ha pins s σ H (λc H1=>Q (!c) H1) I h)
noncomputable def zR(ta tb:TE):TE:=λσ H Q=>ta σ H λx H1=>∃c,x=.bl c/\if c=true then tb σ H1 Q else Q (.bl false) H1
noncomputable def GC(ta tb:TE):TE:=λσ H Q=>ta σ H λx H1=>∃c,x=.bl c/\if c=true then Q (.bl true) H1 else tb σ H1 Q
noncomputable def zS(ta:TE):TE:=λσ H Q=>ta σ H λx H1=>∃c,x=.bl c/\Q (.bl (!c)) H1
theorem Sv{op}{t:TE}(h:PE X a t):PE X (.BoolOp op [a] pos) t:=λpins s σ H Q I hw=>BoolOp_one (h pins s σ H Q I hw)
theorem Sw(ha:PE X a ta)(hb:PE X (.BoolOp .And (b::rest) pos) tb):PE X (.BoolOp .And (a::b::rest) pos) (zR ta tb):=by
 intro pins s σ H Q I h;refine BoolOp_and (aW (ha pins s σ H _ I h) λv s1 z9=>z9.el λx H1 I1 r1 q1=>?_);obtain⟨c,rfl,q1⟩:=q1;cases r1;refine qH ?_;cases c with|true=>exact hb pins s1 σ H1 Q I1 q1|false=>exact⟨.bl false,H1,I1,rfl,q1⟩
theorem zT(ha:PE X a ta)(hb:PE X (.BoolOp .Or (b::rest) pos) tb):PE X (.BoolOp .Or (a::b::rest) pos) (GC ta tb):=by
 intro pins s σ H Q I h;refine BoolOp_or (aW (ha pins s σ H _ I h) λv s1 z9=>z9.el λx H1 I1 r1 q1=>?_);obtain⟨c,rfl,q1⟩:=q1;cases r1;refine qH ?_;cases c with|false=>exact hb pins s1 σ H1 Q I1 q1|true=>exact⟨.bl true,H1,I1,rfl,q1⟩
theorem Sx(ha:PE X a ta):PE X (.UnaryOp .Not a pos) (zS ta):=by intro pins s σ H Q I h;refine UnaryOp_ (aW (ha pins s σ H _ I h) λv s1 z9=>z9.el λx H1 I1 r1 q1=>?_);obtain⟨c,rfl,q1⟩:=q1;cases r1;exact not_of (qH ⟨.bl (!c),H1,I1,rfl,q1⟩)
noncomputable def Sy(t:TT)(ta tb:TE):TE:=λσ H Q=>t σ H λc H1=>if c=true then ta σ H1 Q else tb σ H1 Q
theorem Sz{c:ao}(hc:PT X c tA)(ha:PE X a ta)(hb:PE X b tb):PE X (.IfExp c a b pos) (Sy tA ta tb):=by
 intro pins s σ H Q I h;refine wpAny_IfExp (aW (hc pins s σ H _ I h) λd s1 z9=>z9.el λH1 I1 q1=>?_);cases d with|true=>exact ha pins s1 σ H1 Q I1 q1|false=>exact hb pins s1 σ H1 Q I1 q1
end
noncomputable def cC(K:aK)(H:Hp)(a:ah)(xs:List V):Prop:=
 Rd H a (.lst xs)\/
  ∃(o:Obj) (its:Array aa) (n:Nat),K.lookup a=aD o/\o.cls=.type "list"/\o.dict=aE/\o.data=.seq its n/\its.size<=sizeLine/\Vals xs its.toList
noncomputable def bX(K:aK)(H:Hp)(a:ah)(xs:List V):Prop:=
 Rd H a (.tup xs)\/
  ∃(o:Obj) (its:Array aa) (n:Nat),K.lookup a=aD o/\o.cls=.type "tuple"/\o.dict=aE/\o.data=.seq its n/\its.size<=sizeLine/\Vals xs its.toList
noncomputable def GD:aa->Option V|.none=>aD .aQ|.bool b=>aD (.bl b)|.int i _=>aD (.int i)|.str x _=>aD (.str x)|.bytes b _=>aD (.zI b)|.float b _=>aD (.yr b)|.ref a=>aD (.ref a)|.type n=>aD (.ty n)|_=>aE
theorem RelV.abs{x:V}{u:aa}(r:RelV x u):GD u=aD x:=by
 cases x with|aQ=>cases r;rfl|bl _=>cases r;rfl|int _=>obtain⟨t,rfl⟩:=r;rfl|str _=>obtain⟨t,rfl⟩:=r;rfl|zI _=>obtain⟨t,rfl⟩:=r;rfl|yr _=>obtain⟨t,rfl⟩:=r;rfl|ref _=>cases r;rfl|ty _=>cases r;rfl
theorem RelV.inj{x y:V}{u:aa}(r:RelV x u)(q:RelV y u):x=y:=mG (r.abs.symm.trans q.abs)
theorem Vals.inj:∀{xs ys:List V} {us:List aa},Vals xs us->Vals ys us->xs=ys|_,_,_,.nil,.nil=>rfl|_,_,_,.cons r t,.cons r' t'=>by rw[r.inj r',Vals.inj t t']
section
variable{X:Cx}{pins:List (ah×Obj)}{σ:St}{H:Hp}{s:af}{a:ah}{xs ys:List V}
theorem cC.of{K:aK}(h:H a=aD (.lst xs)):cC K H a xs:=.inl (.inl h)
theorem bX.of{K:aK}(h:H a=aD (.tup xs)):bX K H a xs:=.inl (.inl h)
theorem Inv.list(I:Inv X pins σ H s)(h:cC X.K H a xs):∃its:List aa,Vals xs its/\PlainL s.heap a its.toArray/\xs.length<=sizeLine:=by rcases h with h|⟨o,its,n,hk,hc,hd,hs,hz,r⟩;obtain⟨z,its,n,r,e⟩:=h.ok I.hok;exact⟨its,r,⟨_,n,e,rfl,rfl,rfl⟩,z⟩;refine⟨its.toList,r,⟨o,n,I.iV a o hk,hc,hd,by simpa using hs⟩,?_⟩;have e:=r.length;simp only[vK]at e;lia
theorem Inv.nW(I:Inv X pins σ H s)(h:bX X.K H a xs):∃its:List aa,Vals xs its/\kR s.heap a its.toArray/\xs.length<=sizeLine:=by rcases h with h|⟨o,its,n,hk,hc,hd,hs,hz,r⟩;obtain⟨z,its,r,p⟩:=h.ok I.hok;exact⟨its,r,p,z⟩;refine⟨its.toList,r,⟨o,I.iV a o hk,hc,⟨n,by simpa using hs⟩,hd⟩,?_⟩;have e:=r.length;simp only[vK]at e;lia
theorem Inv.tuple(I:Inv X pins σ H s)(h:bX X.K H a xs):∃its:List aa,Vals xs its/\IsTup s.heap a its.toArray/\xs.length<=sizeLine:=by obtain⟨its,r,p,z⟩:=I.nW h;exact⟨its,r,p.tup,z⟩
theorem Inv.jN(I:Inv X pins σ H s)(h:cC X.K H a xs)(h':cC X.K H a ys):xs=ys:=by
 obtain⟨its,r,⟨o,n,e,_,_,d⟩,_⟩:=I.list h;obtain⟨its',r',⟨o',n',e',_,_,d'⟩,_⟩:=I.list h';rw[e]at e';cases e';rw[d]at d';injection d' with d1 _;have:its=its':=by simpa using jF Array.toList d1
 subst this;exact r.inj r'
theorem Inv.gx(I:Inv X pins σ H s)(h:bX X.K H a xs)(h':bX X.K H a ys):xs=ys:=by
 obtain⟨its,r,⟨o,e,_,n,d⟩,_⟩:=I.tuple h;obtain⟨its',r',⟨o',e',_,n',d'⟩,_⟩:=I.tuple h';rw[e]at e';cases e';rw[d]at d';injection d' with d1 _;have:its=its':=by simpa using jF Array.toList d1
 subst this;exact r.inj r'
end
noncomputable abbrev Cx.iM(X:Cx)(E:aa->af->Prop):Cx:={X with xe:=E}
noncomputable abbrev Cx.yC(X:Cx):Cx:=X.iM λ_ _=>False
theorem Cx.Ok.iM{X:Cx}(ok:X.Ok)(E:aa->af->Prop):(X.iM E).Ok:=
 ⟨ok.mod,ok.kind,ok.glob,ok.blt,ok.above,ok.inj,ok.has,ok.zN,ok.hd,ok.frames,ok.stk,ok.yy,ok.bs,ok.vP,ok.nV,ok.mJ,ok.iy,ok.yz⟩
theorem Cx.Ok.eE{X:Cx}{E:aa->af->Prop}(ok:(X.iM E).Ok):X.Ok:=
 ⟨ok.mod,ok.kind,ok.glob,ok.blt,ok.above,ok.inj,ok.has,ok.zN,ok.hd,ok.frames,ok.stk,ok.yy,ok.bs,ok.vP,ok.nV,ok.mJ,ok.iy,ok.yz⟩
section
variable{X:Cx}{pins:List (ah×Obj)}{σ:St}{H:Hp}{s:af}{E:aa->af->Prop}
theorem Inv.iM(I:Inv X pins σ H s)(E:aa->af->Prop):Inv (X.iM E) pins σ H s:=⟨I.ok.iM E,I.os,I.bare,I.base,I.loc,I.cell,I.free,I.fq,I.pin,I.hok,I.len⟩
theorem Inv.eE(I:Inv (X.iM E) pins σ H s):Inv X pins σ H s:=⟨I.ok.eE,I.os,I.bare,I.base,I.loc,I.cell,I.free,I.fq,I.pin,I.hok,I.len⟩
theorem SP.eE{D:Ends}{f:Flow}{s':af}(h:SP (X.iM E) pins D f s'):SP X pins D f s':=by
 cases f with|next=>obtain⟨σ',H',I,q⟩:=h;exact⟨σ',H',I.eE,q⟩|brk=>obtain⟨σ',H',I,q⟩:=h;exact⟨σ',H',I.eE,q⟩|cont=>obtain⟨σ',H',I,q⟩:=h;exact⟨σ',H',I.eE,q⟩|ret u=>obtain⟨v,σ',H',I,r,q⟩:=h;exact⟨v,σ',H',I.eE,r,q⟩
theorem kD.yC{st:List au}{t:TS}(h:kD X.yC st t):kD X st t:=λpins s σ H D I hw=>
 fZ (h pins s σ H D (I.iM _) hw) (λ_ _ q=>q.eE) λ_ _ z=>False.elim z
end
section
variable{X:Cx}{st:au}{rest:List au}{t u:TS}{e:ao}{te:TE}{pos:Pos}
noncomputable def t8:TS:=λD σ H=>D.nx σ H
noncomputable def GF(t u:TS):TS:=λD σ H=>t {D with nx:=u D} σ H
theorem SD:kD X [] t8:=λ_ _ σ H _ I h=>wpAny_execs_nil ⟨σ,H,I,h⟩
theorem SG(h1:PS X st t)(h2:kD X rest u):kD X (st::rest) (GF t u):=by
 intro pins s σ H D I h;refine wpAny_execs_cons (aW (h1 pins s σ H {D with nx:=u D} I h) λf s1 q=>?_);cases f with
 |next=>
  obtain⟨σ',H',I',q⟩:=q;exact h2 pins s1 σ' H' D I' q
 |ret v=>exact q
 |brk=>exact q
 |cont=>exact q
noncomputable def SH:TS:=λD σ H=>D.bk σ H
noncomputable def zU:TS:=λD σ H=>D.ct σ H
theorem SI:PS X (.Pass pos) t8:=λ_ _ σ H _ I h=>wpAny_Pass ⟨σ,H,I,h⟩
theorem SJ:PS X (.Break pos) SH:=λ_ _ σ H _ I h=>wpAny_Break ⟨σ,H,I,h⟩
theorem SK:PS X (.Continue pos) zU:=λ_ _ σ H _ I h=>wpAny_Continue ⟨σ,H,I,h⟩
theorem Inv.quiet{pins:List (ah×Obj)}{σ:St}{H:Hp}{s:af}(I:Inv X pins σ H s):interactive X.env=false:=by simp[interactive,I.ok.kind]
noncomputable def zV(te:TE):TS:=λD σ H=>te σ H λ_ H1=>D.nx σ H1
theorem SM(he:PE X e te)(hs:autoParam (swapsWith e aE pos.line X.env=pure false) L2.aR1._auto_1):PS X (.Expr e pos) (zV te):=by intro pins s σ H D I h;exact wpAny_Expr_any (aW (he pins s σ H _ I h) λv s1 z9=>z9.el λx H1 I1 r1 q1=>⟨σ,H1,I1,q1⟩) I.quiet hs
noncomputable def GG(te:TE):TS:=λD σ H=>te σ H D.rt
theorem SN(he:PE X e te):PS X (.Return (aD e) pos) (GG te):=by intro pins s σ H D I h;exact wpAny_Return_some (aW (he pins s σ H _ I h) λv s1 z9=>z9.el λx H1 I1 r1 q1=>⟨x,σ,H1,I1,r1,q1⟩)
noncomputable def zW:TS:=λD _ H=>D.rt .aQ H
theorem SO:PS X (.Return aE pos) zW:=λ_ _ σ H _ I h=>wpAny_Return_none ⟨.aQ,σ,H,I,rfl,h⟩
noncomputable def GH(c:TT)(t u:TS):TS:=λD σ H=>c σ H λb H1=>if b=true then t D σ H1 else u D σ H1
theorem zX{c:ao}{a b:List au}{tc:TT}(hc:PT X c tc)(ha:kD X a t)(hb:kD X b u):PS X (.If c a b pos) (GH tc t u):=by
 intro pins s σ H D I h;refine wpAny_If (aW (hc pins s σ H _ I h) λd s1 z9=>z9.el λH1 I1 q1=>?_);cases d with|true=>exact ha pins s1 σ H1 D I1 q1|false=>exact hb pins s1 σ H1 D I1 q1
noncomputable def SQ:TS:=λ_ _ _=>False
theorem SR:PS X st SQ:=λ_ _ _ _ _ _ h=>h.elim
end
noncomputable abbrev TG:=V->St->Hp->(St->Hp->Prop)->Prop
noncomputable abbrev qS:=List V->St->Hp->(St->Hp->Prop)->Prop
noncomputable def PG(X:Cx)(target:ao)(t:TG):Prop:=
 ∀(pins:List (ah×Obj))(s:af)(σ:St)(H:Hp)(v:V)(u:aa)(Q:St->Hp->Prop),Inv X pins σ H s->RelV v u->t v σ H Q->
  wpAny (model X.prog X.w) X.A (assign target X.env u) (λ_ s'=>∃σ' H',Inv X pins σ' H' s'/\Q σ' H') X.xe s
noncomputable def yD(X:Cx)(ts:List ao)(t:qS):Prop:=
 ∀(pins:List (ah×Obj))(s:af)(σ:St)(H:Hp)(vs:List V)(us:List aa)(Q:St->Hp->Prop),Inv X pins σ H s->Vals vs us->t vs σ H Q->
  wpAny (model X.prog X.w) X.A (assignInOrder ((assignEach ts X.env).map (·.2)) us) (λ_ s'=>∃σ' H',Inv X pins σ' H' s'/\Q σ' H') X.xe s
noncomputable abbrev nX:=V->V->V->Hp->(Hp->Prop)->Prop
noncomputable def kU(X:Cx)(t:nX):Prop:=
 ∀(pins:List (ah×Obj))(s:af)(σ:St)(H:Hp)(o i v:V)(ov iv u:aa)(Q:Hp->Prop),Inv X pins σ H s->RelV o ov->RelV i iv->RelV v u->t o i v H Q->
  wpAny (model X.prog X.w) X.A (setItem ov iv u) (λ_ s'=>∃H',Inv X pins σ H' s'/\Q H') X.xe s
noncomputable abbrev yE:=V->V->Hp->VK->Prop
noncomputable def vR(X:Cx)(op:Operator)(t:yE):Prop:=
 ∀(pins:List (ah×Obj))(s:af)(σ:St)(H:Hp)(x y:V)(v u:aa)(Q:VK),Inv X pins σ H s->RelV x v->RelV y u->t x y H Q->
  wpAny (model X.prog X.w) X.A (inplaceOp op v u) (EP X pins σ Q) X.xe s
section
variable{X:Cx}{pos:Pos}
noncomputable def iz(i:Nat):TG:=λv σ H Q=>Q (σ.set i (aD v)) H
theorem M7{i:Nat}{x:Str}(hN:X.N.Nodup)(hi:X.N[i]?=aD x)(hx:Loc X.env.scope x)(hf:autoParam (X.fn x=true\/X.env.scope.names.lookup x=aD .local) L2.aF1._auto_1):PG X (.Name x pos) (iz i):=by intro pins s σ H v u Q I r h;exact wpAny_assign_Name (Gw I hN hi hx r (λs' I'=>⟨_,H,I',h⟩) hf)
noncomputable def GI:qS:=λvs σ H Q=>vs=[]/\Q σ H
noncomputable def zY(t:TG)(u:qS):qS:=λvs σ H Q=>∃v r,vs=v::r/\t v σ H λσ' H'=>u r σ' H' Q
theorem SV:yD X [] GI:=by intro pins s σ H vs us Q I r h;obtain⟨e,h⟩:=h;subst e;cases r;exact assignInOrder_nil ⟨σ,H,I,h⟩
theorem SX{e:ao}{es:List ao}{t:TG}{u:qS}(h1:PG X e t)(h2:yD X es u)
 (hs:autoParam ((assignEach (e::es) X.env).map (·.2)=assign e X.env:: (assignEach es X.env).map (·.2)) L2.aR1._auto_1):yD X (e::es) (zY t u):=by
 intro pins s σ H vs us Q I r h;obtain⟨v,vr,e1,h⟩:=h;subst e1;cases r with
 |cons r rr=>
  rw[hs];refine assignInOrder_cons (aW (h1 pins s σ H _ _ _ I r h) λ_ s1 bW=>?_);obtain⟨σ1,H1,I1,q1⟩:=bW;exact h2 pins s1 σ1 H1 _ _ Q I1 rr q1
noncomputable def GJ(K:aK)(n:Nat)(t:qS):TG:=λv σ H Q=>∃a xs,v=.ref a/\bX K H a xs/\xs.length=n/\t xs σ H Q
theorem SY{es:List ao}{k:Nat}{t:qS}{n:Nat}(hc:X.calm)(h:yD X es t)
 (hn:autoParam ((assignEach es X.env).length=n) L2.aR1._auto_1) (hst:autoParam ((assignEach es X.env).findIdx? (·.1)=aE) L2.aR1._auto_1):PG X (.Tuple es k pos) (GJ X.K n t):=by
 intro pins s σ H v u Q I r hw;obtain⟨a,xs,e1,hq,hl,hw⟩:=hw;subst e1;cases r;obtain⟨its,rv,ht,hz⟩:=I.tuple hq;refine assign_Tuple_tuple (I.ok.hd hc) ht (by simp[hn,<-hl,rv.length]) hst λh' hx=>?_;have I1:Inv X pins σ H {s with heap:=h'}:=I.kept (t':=s.toks) λb o e=>hx b o (fR (cH e)) e;exact h pins _ σ H xs _ Q I1 (by simpa using rv) hw
noncomputable def GK(to ti:TE)(t:nX):TG:=λv σ H Q=>to σ H λo H1=>ti σ H1 λi H2=>t o i v H2 λH3=>Q σ H3
theorem S0{o i:ao}{to ti:TE}{t:nX}(ho:PE X o to)(hi:PE X i ti)(hs:kU X t)
 (ha:∀v,assign (.Subscript o i pos) X.env v=(do
   let ov <-holding [v] (eval o X.env);let iv <-holding [v,ov] (eval i X.env)
   standAt pos
   holding [v,ov,iv] (setItem ov iv v)
   release [v,ov,iv] []):=by intro _;rfl):PG X (.Subscript o i pos) (GK to ti t):=by
 intro pins s σ H v u Q I r h;rw[ha];refine aM (nO (aW (ho pins s σ H _ I h) λov s1 z9=>z9.el λx H1 I1 r1 q1=>?_));refine aM (nO (aW (hi pins s1 σ H1 _ I1 q1) λiv s2 z9=>z9.el λy H2 I2 r2 q2=>?_));refine aM (nD (aM (nO (aW (hs pins s2 σ H2 x y v ov iv u _ I2 r1 r2 r q2) λ_ s3 bW=>?_))));obtain⟨H3,I3,q3⟩:=bW;exact wpAny_release ⟨σ,H3,I3,q3⟩
noncomputable def qV(te:TE)(g:TG):TS:=λD σ H=>te σ H λx H1=>g x σ H1 D.nx
theorem M8{tg e:ao}{te:TE}{g:TG}(he:PE X e te)(hg:PG X tg g)(hs:autoParam (swapsWithSole [tg] e pos.line X.env=pure false) L2.aR1._auto_1)(hw:autoParam (swappedStores [tg] e X.env=pure aE) L2.aR1._auto_1)
 (h1:autoParam ((assignEach [tg] X.env).map (·.2)=[assign tg X.env]) L2.aR1._auto_1):PS X (.Assign [tg] e pos) (qV te g):=by
 intro pins s σ H D I h;refine wpAny_Assign_stores (aW (he pins s σ H _ I h) λv s1 z9=>z9.el λx H1 I1 r1 q1=>?_) hs hw;rw[h1];exact aW (hg pins s1 σ H1 x v _ I1 r1 q1) λ_ s2 q=>q
theorem S4{i:Nat}{x:Str}{e:ao}{te:TE}{pos':Pos}(hN:X.N.Nodup)(hi:X.N[i]?=aD x)(hx:Loc X.env.scope x)(he:PE X e te)(hs:autoParam (swapsWith e (aD (.Name x pos')) pos.line X.env=pure false) L2.aR1._auto_1)(hf:autoParam (X.fn x=true\/X.env.scope.names.lookup x=aD .local) L2.aF1._auto_1) :
 PS X (.Assign [.Name x pos'] e pos) (qV te (iz i)):=by
 intro pins s σ H D I h;refine wpAny_Assign_Name (aW (he pins s σ H _ I h) λv s1 z9=>z9.el λy H1 I1 r1 q1=>?_) hs;exact Gw I1 hN hi hx r1 (λs2 I2=>⟨_,H1,I2,q1⟩) hf
noncomputable def GL(i:Nat)(te:TE)(ti:yE):TS:=λD σ H=>∃x,σ[i]?=aD (aD x)/\te σ H λy H1=>ti x y H1 λz H2=>D.nx (σ.set i (aD z)) H2
theorem S6{i:Nat}{x:Str}{e:ao}{te:TE}{op:Operator}{ti:yE}{pos':Pos}(hN:X.N.Nodup)(hi:X.N[i]?=aD x)(hx:Loc X.env.scope x)(he:PE X e te)(ho:vR X op ti)(hf:autoParam (X.fn x=true\/X.env.scope.names.lookup x=aD .local) L2.aF1._auto_1) :
 PS X (.AugAssign (.Name x pos') op e pos) (GL i te ti):=by
 intro pins s σ H D I h;obtain⟨v,e1,h⟩:=h;obtain⟨m,hn,hl⟩:=I.loc;have vis:yw X.env.scope x:=by rcases hx with k|k;exact .inl k;exact .inr (.inl k)
 obtain⟨u,r,l⟩:=hl i x v hi e1 vis;refine wpAny_AugAssign_Name ?_;have go:wpAny (model X.prog X.w) X.A (eval e X.env) (λw s₂=>wpAny (model X.prog X.w) X.A (inplaceOp op u w) (λr s₃=>wpAny (model X.prog X.w) X.A (storeName X.env x r) (λ_=>SP X pins D .next) X.xe s₃) X.xe s₂) X.xe s:=by refine aW (he pins s σ H _ I h) λw s1 z9=>z9.el λy H1 I1 r1 q1=>?_;refine aW (ho pins s1 σ H1 v y u w _ I1 r r1 q1) λz s2 z9=>z9.el λzv H2 I2 r2 q2=>?_;exact Gw I2 hN hi hx r2 (λs3 I3=>⟨_,H2,I3,q2⟩) hf
 rcases l with⟨hk,hm⟩|⟨hk,c,hc,hcell⟩;exact wpAny_loadName_local I.ok.kind hk hn hm go;rcases hk with hk|hk;exact wpAny_loadName_cell I.ok.kind hk hc hcell go;rcases hx with k|k;have:X.env.scope.names.lookup x=aD .free:=hk;rw[k]at this;cases this;have:X.env.scope.names.lookup x=aD .free:=hk;rw[k]at this;cases this
noncomputable def zZ(to ti te:TE)(qW:V->V->Hp->VK->Prop)(D7:yE)(qX:nX):TS:=λD σ H=>to σ H λo H1=>ti σ H1 λi H2=>qW o i H2 λx H3=>te σ H3 λy H4=>D7 x y H4 λz H5=>qX o i z H5 λH6=>D.nx σ H6
noncomputable def z0(X:Cx)(t:V->V->Hp->VK->Prop):Prop:=
 ∀(pins:List (ah×Obj))(s:af)(σ:St)(H:Hp)(o i:V)(ov iv:aa)(Q:VK),Inv X pins σ H s->RelV o ov->RelV i iv->t o i H Q->
  wpAny (model X.prog X.w) X.A (getItem ov iv) (EP X pins σ Q) X.xe s
theorem S8{o i e:ao}{to ti te:TE}{qW:V->V->Hp->VK->Prop}{D7:yE}{qX:nX}{op:Operator}{tpos:Pos}(ho:PE X o to)(hi:PE X i ti)(hg:z0 X qW)(he:PE X e te)(hp:vR X op D7)(hs:kU X qX)
 (ha:∀ov iv new,augStore i ov iv new=(do holding [new,ov,iv] (setItem ov iv new);release [new,ov,iv] [];pure .next):=by intros;rfl):PS X (.AugAssign (.Subscript o i tpos) op e pos) (zZ to ti te qW D7 qX):=by
 intro pins s σ H D I h;refine wpAny_AugAssign_SubscriptAny (aW (ho pins s σ H _ I h) λov s1 z9=>z9.el λx1 H1 I1 r1 q1=>?_) ha;refine aW (hi pins s1 σ H1 _ I1 q1) λiv s2 z9=>z9.el λx2 H2 I2 r2 q2=>?_;refine aW (hg pins s2 σ H2 x1 x2 ov iv _ I2 r1 r2 q2) λold s3 z9=>z9.el λx3 H3 I3 r3 q3=>?_;refine aW (he pins s3 σ H3 _ I3 q3) λv s4 z9=>z9.el λx4 H4 I4 r4 q4=>?_;refine aW (hp pins s4 σ H4 x3 x4 old v _ I4 r3 r4 q4) λnew s5 z9=>z9.el λx5 H5 I5 r5 q5=>?_;exact aW (hs pins s5 σ H5 x1 x2 x5 ov iv new _ I5 r1 r2 r5 q5) λ_ s6 ⟨H6,I6,q6⟩=>⟨σ,H6,I6,q6⟩
noncomputable def D9(f:Int->Int->Int):yE:=λx y H Q=>∃i j,x=.int i/\y=.int j/\Q (.int (f i j)) H
theorem M9:vR X .Add (D9 λi j=>i+j):=by intro pins s σ H x y v u Q I r1 r2 h;obtain⟨i,j,e1,e2,q⟩:=h;subst e1;subst e2;obtain⟨t,rfl⟩:=r1;obtain⟨t',rfl⟩:=r2;exact iadd_int ⟨.int _,H,I.tok _,⟨_,rfl⟩,q⟩
theorem S9:vR X .Sub (D9 λi j=>i-j):=by intro pins s σ H x y v u Q I r1 r2 h;obtain⟨i,j,e1,e2,q⟩:=h;subst e1;subst e2;obtain⟨t,rfl⟩:=r1;obtain⟨t',rfl⟩:=r2;exact isub_int ⟨.int _,H,I.tok _,⟨_,rfl⟩,q⟩
end
section
variable{X:Cx}{pos:Pos}
noncomputable def Tc(c:TT)(tb:TS):TS:=λD σ H=>∃W:Nat->St->Hp->Prop,(∃m,W m σ H)/\∀m σ H,W m σ H->
 c σ H λb H1=>if b=true then ∃N:St->Hp->Prop,(∀σ' H',N σ' H'->∃m',m'<m/\W m' σ' H')/\tb {D with nx:=N,ct:=N,bk:=D.nx} σ H1 else D.nx σ H1
theorem Td{c:ao}{body:List au}{tc:TT}{tb:TS}(hp:PassesOwn (model X.prog X.w) X.A X.env X.xe)(hc:PT X c tc)(hb:kD X body tb):PS X (.While c body [] pos) (Tc tc tb):=by
 intro pins s σ H D I h;obtain⟨W,⟨m0,w0⟩,turn⟩:=h;refine wpAny_While (codeAny_whileLoop (λn s'=>∃σ' H',Inv X pins σ' H' s'/\W n σ' H') ?_ m0 ⟨σ,H,I,w0⟩);rintro n s1 ⟨σ1,H1,I1,w1⟩;refine vz hp (aW (hc pins s1 σ1 H1 _ I1 (turn n σ1 H1 w1)) λb s2 z9=>z9.el λH2 I2 q2=>?_);cases b with
 |true=>
  obtain⟨N,hN,q2⟩:=q2;rw[if_pos rfl];refine vz hp (aW (hb pins s2 σ1 H2 _ I2 q2) λf s3 q3=>?_);cases f with
  |next=>
   obtain⟨σ3,H3,I3,n3⟩:=q3;obtain⟨m',hm,w3⟩:=hN σ3 H3 n3;exact⟨m',hm,σ3,H3,I3,w3⟩
  |cont=>
   obtain⟨σ3,H3,I3,n3⟩:=q3;obtain⟨m',hm,w3⟩:=hN σ3 H3 n3;exact⟨m',hm,σ3,H3,I3,w3⟩
  |brk=>exact q3
  |ret v=>exact q3
 |false=>
  rw[if_neg zw];exact wpAny_execs_nil ⟨σ1,H2,I2,q2⟩
end
set_option genInjectivity false in
structure It where
 go:Nat->Hp->Prop
 vS:Nat->Hp->V->Hp->Prop
 stop:Nat->Hp->Prop
noncomputable def dR(X:Cx)(pins:List (ah×Obj))(H:Hp)(b:ah):Prop:=
 H b=aE/\b≠X.env.locals/\b∉X.fs/\(b∈X.ex\/X.s₀.heap.objs.size<=b)/\(∀x c,X.env.cells.lookup x=aD c->c≠b)/\∀p∈X.pn++pins,p.1≠b
theorem Inv.kX{X:Cx}{pins:List (ah×Obj)}{σ:St}{H H':Hp}{s:af}{b:ah}(I:Inv X pins σ H s)(hb:s.heap.objs.size<=b)(hn:H' b=aE):dR X pins H' b:=by refine⟨hn,pX (dP I.lt hb),I.Gq hb,.inr (ie I.sz hb),λx c e z=>?_,λp hp z=>?_⟩;obtain⟨v,q⟩:=I.cell x c e;exact absurd (dP q.lt (by rw[z];exact hb)) (jG _);exact absurd (dP (cH (I.pin p hp).1) (by rw[z];exact hb)) (jG _)
structure Turn(P:ai)(w:aj)(K:aK)(tg:ao)(J:It)(fp:List ah)(it:ah)(tn:Nat->aB->Prop):Prop where
 mem:it∈fp
 obj:∀i h,tn i h->∀b∈fp,∃o,h.get? b=aD o/\∀v,o.data≠.cell v
 keep:∀i h h',tn i h->(∀b∈fp,∀o,h.get? b=aD o->h'.get? b=aD o)->tn i h'
 item:∀(X:Cx),X.prog=P->X.w=w->X.K=K->X.calm=true->∀(i:Nat)(pins:List (ah×Obj))(s:af)(σ:St)(H:Hp)(E:aa->af->Prop),Inv X pins σ H s->(∀b∈fp,dR X pins H b)->tn i s.heap->J.go i H->
  wpAny (model P w) X.A (pyNext (.ref it)) (λr s1=>∃u,r=aD u/\
   wpAny (model P w) X.A (letOwnedTupleGo tg (.ref it) u) (λ_ s2=>∃x H',Inv X pins σ H' s2/\RelV x u/\J.vS i H x H'/\tn (i+1) s2.heap/\∀b∈fp,H' b=aE) E s1) E s
 done:∀(X:Cx),X.prog=P->X.w=w->X.K=K->X.calm=true->∀(i:Nat)(pins:List (ah×Obj))(s:af)(σ:St)(H:Hp)(E:aa->af->Prop),Inv X pins σ H s->(∀b∈fp,dR X pins H b)->tn i s.heap->J.stop i H->
  wpAny (model P w) X.A (pyNext (.ref it)) (λr s1=>r=aE/\Inv X pins σ H s1) E s
 self:∀(A:ak)(i:Nat)(s:af)(Q:aa->af->Prop)(E:aa->af->Prop),tn i s.heap->Q (.ref it) s->wpAny (model P w) A (pyIter (.ref it)) Q E s
noncomputable abbrev TI:=St->Hp->(It->Hp->Prop)->Prop
noncomputable def Ea(X:Cx)(pins:List (ah×Obj))(σ:St)(tg:ao)(R:It->Hp->Prop)(itv:aa)(s2:af):Prop:=
 ∃(it:ah) (fp:List ah) (tn:Nat->aB->Prop) (J:It) (H':Hp),itv=.ref it/\Inv X pins σ H' s2/\Turn X.prog X.w X.K tg J fp it tn/\tn 0 s2.heap/\(∀b∈fp,dR X pins H' b)/\R J H'
noncomputable def PI(X:Cx)(tg iter:ao)(wi:TI):Prop:=
 ∀(pins:List (ah×Obj))(s:af)(σ:St)(H:Hp)(R:It->Hp->Prop),Inv X pins σ H s->wi σ H R->
  wpAny (model X.prog X.w) X.A (eval iter X.env) (λv s1=>wpAny (model X.prog X.w) X.A (pyIter v) (Ea X pins σ tg R) X.xe s1) X.xe s
theorem nY{M:Model}{A:ak}{E:aa->af->Prop}{s:af}{tg:ao}{it:ah}{u:aa}{o:Obj}{n:String}{vs:Array aa}{Q:Unit->af->Prop}(ho:s.heap.get? it=aD o)(hc:o.cls=.type n)(hd:o.data=.fields vs)
 (hn:["enumerate","zip","dict_itemiterator","dict_reverseitemiterator","odict_iterator","itertools.zip_longest","itertools.pairwise"].contains n=false) (hQ:Q () s):wpAny M A (letOwnedTupleGo tg (.ref it) u) Q E s:=by
 unfold letOwnedTupleGo;cases tg<;>first
  |exact bA hQ
  |(cases u<;>first
     |exact bA hQ
     |(refine aM (wpAny_load ho ?_)
       rw[hc,hd];show wpAny M A (if(["enumerate","zip","dict_itemiterator","dict_reverseitemiterator","odict_iterator","itertools.zip_longest","itertools.pairwise"].contains n&&vs[0]? == aD (rawInt _))=true then _ else _) Q E s;rw[if_neg (by intro h;rw[hn,zx]at h;cases h)];exact bA hQ))
noncomputable def Eb(K:aK)(a:ah):It:=
 ⟨λi H=>∃xs x,cC K H a xs/\xs[i]?=aD x,λi H x H'=>H'=H/\∀xs,cC K H a xs->xs[i]?=aD x,λi H=>∃xs,cC K H a xs/\xs.length<=i⟩
noncomputable def GN(K:aK)(a:ah):It:=
 ⟨λi H=>∃xs x,bX K H a xs/\xs[i]?=aD x,λi H x H'=>H'=H/\∀xs,bX K H a xs->xs[i]?=aD x,λi H=>∃xs,bX K H a xs/\xs.length<=i⟩
noncomputable def Aa(lo:Int)(n:Nat):It:=⟨λi _=>i<n,λi H x H'=>H'=H/\x=.int (lo+i),λi _=>n<=i⟩
theorem Te{P:ai}{w:aj}{K:aK}{tg:ao}(a it:ah):Turn P w K tg (Eb K a) [it] it (λi h=>h.IsListIter it a i)where
 mem:=by simp
 obj:=λi h st b hb=>by
  have e:b=it:=by simpa using hb
  subst e;obtain⟨o,e,c,d⟩:=st;exact⟨o,e,λv z=>by rw[d]at z;cases z⟩
 keep:=λi h h' st k=>st.at λo e=>k it (by simp) o e
 item:=by intro X hP hw hK hc i pins s σ H E I hf st hg;subst hP hw hK;obtain⟨xs,x,hq,hx⟩:=hg;obtain⟨its,rv,p,hz⟩:=I.list hq;obtain⟨u,hu,ru⟩:=rv.get hx;obtain⟨f0,f1,f2,f3,f4,f5⟩:=hf it (by simp);refine wpAny_pyNext_list_item st p.isList (x:=u) (by simpa using hu) λh' st' sb=>?_;have I1:Inv X pins σ H {s with heap:=h'}:=I.turned (t':=s.toks) (λb o hb e=>(sb.2 b hb).trans e) f0 f1 f3 f4 f5;obtain⟨o,e,c,d⟩:=id st';exact⟨u,rfl,nY (s:={s with heap:=h'}) e c d (by decide) ⟨x,H,I1,ru,⟨rfl,λys hy=>by rw[I.jN hy hq];exact hx⟩,st',λb hb=>(hf b hb).1⟩⟩
 done:=by intro X hP hw hK hc i pins s σ H E I hf st hg;subst hP hw hK;obtain⟨xs,hq,hx⟩:=hg;obtain⟨its,rv,p,hz⟩:=I.list hq;obtain⟨f0,f1,f2,f3,f4,f5⟩:=hf it (by simp);have hl:=rv.length;exact wpAny_pyNext_list_end (I.ok.hd hc) st p.isList (by simp;lia) λh' eb=>⟨rfl,I.turned (t':=s.toks) (λb o hb e=>eb b o hb e) f0 f1 f3 f4 f5⟩
 self:=λ_ _ _ _ _ st h=>wpAny_pyIter_listiter st h
theorem Tf{P:ai}{w:aj}{K:aK}{tg:ao}(a it:ah):Turn P w K tg (GN K a) [it] it (λi h=>h.IsTupleIter it a i)where
 mem:=by simp
 obj:=λi h st b hb=>by
  have e:b=it:=by simpa using hb
  subst e;obtain⟨o,e,c,d⟩:=st;exact⟨o,e,λv z=>by rw[d]at z;cases z⟩
 keep:=λi h h' st k=>st.at λo e=>k it (by simp) o e
 item:=by intro X hP hw hK hc i pins s σ H E I hf st hg;subst hP hw hK;obtain⟨xs,x,hq,hx⟩:=hg;obtain⟨its,rv,p,hz⟩:=I.tuple hq;obtain⟨u,hu,ru⟩:=rv.get hx;obtain⟨f0,f1,f2,f3,f4,f5⟩:=hf it (by simp);refine wpAny_pyNext_tuple_item st (show s.heap.IsTuple a its.toArray from p) (x:=u) (by simpa using hu) λh' st' sb=>?_;have I1:Inv X pins σ H {s with heap:=h'}:=I.turned (t':=s.toks) (λb o hb e=>(sb.2 b hb).trans e) f0 f1 f3 f4 f5;obtain⟨o,e,c,d⟩:=id st';exact⟨u,rfl,nY (s:={s with heap:=h'}) e c d (by decide) ⟨x,H,I1,ru,⟨rfl,λys hy=>by rw[I.gx hy hq];exact hx⟩,st',λb hb=>(hf b hb).1⟩⟩
 done:=by intro X hP hw hK hc i pins s σ H E I hf st hg;subst hP hw hK;obtain⟨xs,hq,hx⟩:=hg;obtain⟨its,rv,p,hz⟩:=I.tuple hq;obtain⟨f0,f1,f2,f3,f4,f5⟩:=hf it (by simp);have hl:=rv.length;exact wpAny_pyNext_tuple_end (I.ok.hd hc) st (show s.heap.IsTuple a its.toArray from p) (by simp;lia) λh' eb=>⟨rfl,I.turned (t':=s.toks) (λb o hb e=>eb b o hb e) f0 f1 f3 f4 f5⟩
 self:=λ_ _ _ _ _ st h=>wpAny_pyIter_tupleiter st h
theorem Th{P:ai}{w:aj}{K:aK}{tg:ao}(it:ah)(lo:Int)(n:Nat):Turn P w K tg (Aa lo n) [it] it (λi h=>IsRangeIter h it (lo+ (i:Nat)*1) ((n:Int)- (i:Nat)) 1)where
 mem:=by simp
 obj:=λi h st b hb=>by
  have e:b=it:=by simpa using hb
  subst e;exact⟨_,st,λv z=>by
   have z':Data.fields _=Data.cell v:=z;cases z'⟩
 keep:=λi h h' st k=>k it (by simp) _ st
 item:=by intro X hP hw hK hc i pins s σ H E I hf st hg;subst hP hw hK;obtain⟨f0,f1,f2,f3,f4,f5⟩:=hf it (by simp);have W:=Walks.range (prog:=X.prog) (w:=X.w) (I.ok.hd hc) it lo 1 n;refine W.item i s _ _ hg st λv h' tk hv st' kk=>?_;obtain⟨t,rfl⟩:=hv;have I1:Inv X pins σ H {s with heap:=h',toks:=tk}:=I.turned (λb o hb e=>kk b o (by simpa using hb) e) f0 f1 f3 f4 f5;refine⟨_,rfl,nY (s:={s with heap:=h',toks:=tk}) (n:="range_iterator") st' rfl rfl (by decide) ⟨.int (lo+i),H,I1,⟨t,?_⟩,⟨rfl,rfl⟩,st',λb hb=>(hf b hb).1⟩⟩;rw[Int.mul_one]
 done:=by intro X hP hw hK hc i pins s σ H E I hf st hg;subst hP hw hK;obtain⟨f0,f1,f2,f3,f4,f5⟩:=hf it (by simp);exact wpAny_pyNext_range_end (I.ok.hd hc) st (by have:n<=i:=hg;lia) λh' eb=>⟨rfl,I.turned (t':=s.toks) (λb o hb e=>eb b o hb e) f0 f1 f3 f4 f5⟩
 self:=λ_ _ _ _ _ st h=>wpAny_pyIter_rangeiter st h
section
variable{X:Cx}{tg:ao}
noncomputable def Ab(K:aK)(tl:TE):TI:=λσ H R=>tl σ H λx H1=>∃a,x=.ref a/\(∃xs,cC K H1 a xs)/\R (Eb K a) H1
noncomputable def GO(K:aK)(tl:TE):TI:=λσ H R=>tl σ H λx H1=>∃a,x=.ref a/\(∃xs,bX K H1 a xs)/\R (GN K a) H1
theorem Na{l:ao}{tl:TE}(hl:PE X l tl):PI X tg l (Ab X.K tl):=by
 intro pins s σ H R I h;refine aW (hl pins s σ H _ I h) λv s1 z9=>z9.el λx H1 I1 r1 q1=>?_;obtain⟨a,e,⟨xs,hq⟩,q⟩:=q1;subst e;cases r1;obtain⟨its,rv,p,hz⟩:=I1.list hq;refine yb p.isList ?_;refine⟨s1.heap.objs.size,[s1.heap.objs.size],_,_,H1,rfl,I1.kept (t':=s1.toks) λb o e=>cu _ e,Te a _,⟨_,iJ _ rfl,rfl,rfl⟩,λb hb=>?_,q⟩;have e:b=s1.heap.objs.size:=by simpa using hb
 subst e;exact I1.kX (aT _) (I1.hok.fresh (aT _))
theorem Ti{l:ao}{tl:TE}(hl:PE X l tl):PI X tg l (GO X.K tl):=by
 intro pins s σ H R I h;refine aW (hl pins s σ H _ I h) λv s1 z9=>z9.el λx H1 I1 r1 q1=>?_;obtain⟨a,e,⟨xs,hq⟩,q⟩:=q1;subst e;cases r1;obtain⟨its,rv,p,hz⟩:=I1.tuple hq;refine vt (show s1.heap.IsTuple a its.toArray from p) ?_;refine⟨s1.heap.objs.size,[s1.heap.objs.size],_,_,H1,rfl,I1.kept (t':=s1.toks) λb o e=>cu _ e,Tf a _,⟨_,iJ _ rfl,rfl,rfl⟩,λb hb=>?_,q⟩;have e:b=s1.heap.objs.size:=by simpa using hb
 subst e;exact I1.kX (aT _) (I1.hok.fresh (aT _))
theorem Nb{pins:List (ah×Obj)}{σ:St}{H:Hp}{s:af}{R:It->Hp->Prop}{E:aa->af->Prop}{lo hi:Int}{t u v:Tok}{tk:Nat}(I:Inv X pins σ H s)(h1:-(2 ^ 62)<=lo)(h2:lo<2 ^ 62)(h3:-(2 ^ 62)<=hi)(h4:hi<2 ^ 62)
 (q:R (Aa lo (hi-lo).toNat) H):wpAny (model X.prog X.w) X.A (pyIter (.ref s.heap.objs.size)) (Ea X pins σ tg R) E {s with heap:=s.heap.push {cls:=.type "range",data:=.fields #[.int lo t,.int hi u,.int 1 v]},toks:=tk}:=by
 refine wpAny_pyIter_range (IsRange.new ..) (small_one h1 h2 h3 h4) ?_;have I1:Inv X pins σ H {s with heap:=s.heap.push {cls:=.type "range",data:=.fields #[.int lo t,.int hi u,.int 1 v]},toks:=tk}:=I.kept λb o e=>cu _ e;refine⟨(s.heap.push {cls:=.type "range",data:=.fields #[.int lo t,.int hi u,.int 1 v]}).objs.size,[(s.heap.push {cls:=.type "range",data:=.fields #[.int lo t,.int hi u,.int 1 v]}).objs.size],_,_,H,rfl,
  I1.kept (t':=tk) λb o e=>cu _ e,Th _ lo (hi-lo).toNat,?_,λb hb=>?_,q⟩
 have e1:lo+ ((0:Nat):Int)*1=lo:=by simp
 have e2:(((hi-lo).toNat:Nat):Int)- ((0:Nat):Int)=Builtin.Range.rangeSize lo hi 1:=by rw[rangeSize_one];split<;>lia
 show IsRangeIter _ _ (lo+ ((0:Nat):Int)*1) ((((hi-lo).toNat:Nat):Int)- ((0:Nat):Int)) 1;rw[e1,e2];exact iJ _ rfl;have e:b=(s.heap.push {cls:=.type "range",data:=.fields #[.int lo t,.int hi u,.int 1 v]}).objs.size:=by simpa using hb
 subst e;exact I1.kX (aT _) (I1.hok.fresh (aT _))
noncomputable def Ac(ta:TA):TI:=λσ H R=>ta σ H λvs H1=>∃j:Int,vs=[.int j]/\-(2 ^ 62)<=j/\j<2 ^ 62/\R (Aa 0 j.toNat) H1
noncomputable def Ad(ta:TA):TI:=λσ H R=>ta σ H λvs H1=>∃i j:Int,vs=[.int i,.int j]/\(-(2 ^ 62)<=i/\i<2 ^ 62/\-(2 ^ 62)<=j/\j<2 ^ 62)/\R (Aa i (j-i).toNat) H1
theorem Tj{a:ao}{ta:TA}{p pos:Pos}(hg:Gl X "range")(hm:X.mg "range" = aE)(ha:PA X [a] ta)(hs:autoParam (starEach [a] X.env=[(false,eval a X.env)]) L2.aR1._auto_1):PI X tg (.Call (.Name "range" p) [a] [] pos) (Ac ta):=by
 intro pins s σ H R I h;refine Call_ (qR I hg hm boot_range (vH (aW (ha pos pins s σ H _ I h) λus s1 z9=>z9.el λvs H1 I1 r1 q1=>?_) hs rfl));obtain⟨j,e,q1,q2,q⟩:=q1;subst e;cases r1 with
 |cons r rr=>
  cases rr;obtain⟨t,rfl⟩:=r;exact call_range_1 (Nb I1 (by lia) (by lia) q1 q2 (by simpa using q))
theorem Tn{a b:ao}{ta:TA}{p pos:Pos}(hg:Gl X "range")(hm:X.mg "range" = aE)(ha:PA X [a,b] ta)(hs:autoParam (starEach [a,b] X.env=[(false,eval a X.env),(false,eval b X.env)]) L2.aR1._auto_1)(hs2:autoParam (starEach [b] X.env=[(false,eval b X.env)]) L2.aR1._auto_1) :
 PI X tg (.Call (.Name "range" p) [a,b] [] pos) (Ad ta):=by
 intro pins s σ H R I h;refine Call_ (qR I hg hm boot_range (vH (aW (ha pos pins s σ H _ I h) λus s1 z9=>z9.el λvs H1 I1 r1 q1=>?_) (by rw[hs,hs2]) (by rw[hs2];rfl)));obtain⟨i,j,e,⟨q1,q2,q3,q4⟩,q⟩:=q1;subst e;cases r1 with
 |cons r rr=>
  cases rr with
  |cons r' rr=>
   cases rr;obtain⟨t,rfl⟩:=r;obtain⟨t',rfl⟩:=r';exact call_range_2 (Nb I1 q1 q2 q3 q4 q)
noncomputable def Ae(wi:TI)(g:TG)(tb:TS):TS:=λD σ H=>wi σ H λJ H1=>∃W:Nat->Nat->St->Hp->Prop,(∃m,W 0 m σ H1)/\∀i m σ H,W i m σ H->
 (J.stop i H/\D.nx σ H)\/(J.go i H/\∃N:St->Hp->Prop,(∀σ' H',N σ' H'->∃m',m'<m/\W (i+1) m' σ' H')/\∀x H',J.vS i H x H'->g x σ H' λσ2 H2=>tb {D with nx:=N,ct:=N,bk:=D.nx} σ2 H2)
noncomputable def vU(fp:List ah)(h:aB):List (ah×Obj):=fp.filterMap λb=>(h.get? b).map λo=>(b,o)
theorem t9{fp:List ah}{h:aB}{b:ah}{o:Obj}(hb:b∈fp)(e:h.get? b=aD o):(b,o)∈vU fp h:=List.mem_filterMap.mpr ⟨b,hb,by rw[e];rfl⟩
theorem To{fp:List ah}{h:aB}{p:ah×Obj}(hp:p∈vU fp h):p.1∈fp/\h.get? p.1=aD p.2:=by
 obtain⟨b,hb,e⟩:=List.mem_filterMap.mp hp;cases q:h.get? b with
 |none=>rw[q]at e;cases e
 |some o=>
  rw[q]at e;have e':(b,o)=p:=mG e;subst e';exact⟨hb,q⟩
theorem Inv.pinned{pins:List (ah×Obj)}{σ:St}{H:Hp}{s:af}{fp:List ah}(I:Inv X pins σ H s)(hf:∀b∈fp,dR X pins H b)(ho:∀b∈fp,∃o,s.heap.get? b=aD o/\∀v,o.data≠.cell v):Inv X (pins++vU fp s.heap) σ H s:=
 I.lF λp hp=>(mF.mp hp).elim (λz=>I.pin p (ig _ z)) λz=>by
  obtain⟨hb,e⟩:=To z;obtain⟨f0,f1,f2,_⟩:=hf p.1 hb;obtain⟨o,e',d⟩:=ho p.1 hb;rw[e]at e';cases e';exact⟨e,f0,f1,f2,d⟩
theorem Inv.di{pins pl:List (ah×Obj)}{σ:St}{H:Hp}{s:af}(I:Inv X (pins++pl) σ H s):Inv X pins σ H s:=I.lF λp hp=>I.pin p (ig _ (zy _ hp))
theorem Tp{iter:ao}{body:List au}{wi:TI}{g:TG}{tb:TS}{pos:Pos}(hp:PassesOwn (model X.prog X.w) X.A X.env X.xe)(hc:X.calm)(hi:PI X tg iter wi)(hg:PG X tg g)(hb:kD X body tb)
 (hs:∀x,foldedSetIterable iter X.env x=pure x:=by intro _;rfl):PS X (.For tg iter body [] pos) (Ae wi g tb):=by
 intro pins s σ H D I h;refine wpAny_For (aW (hi pins s σ H _ I h) λv s1 h1=>aW h1 λitv s2 h2=>?_) hs;obtain⟨it,fp,tn,J,H2,e,I2,T,st2,f2,W,⟨m0,w0⟩,turn⟩:=h2;subst e;have kY:∀{H':Hp},(∀b∈fp,H' b=aE)->∀b∈fp,dR X pins H' b:=λhn b hb=>⟨hn b hb,(f2 b hb).2⟩
 refine codeAny_forLoop_any (λn s'=>∃i σ' H',Inv X pins σ' H' s'/\tn i s'.heap/\(∀b∈fp,H' b=aE)/\W i n σ' H') ?_ m0 ⟨0,σ,H2,I2,st2,λb hb=>(f2 b hb).1,w0⟩;rintro n s3 ⟨i,σ3,H3,I3,st3,Af,w3⟩;rcases turn i n σ3 H3 w3 with⟨stop,qn⟩|⟨go,N,hN,step⟩
 .refine vz hp (aW (T.done X rfl rfl rfl hc i pins s3 σ3 H3 X.xe I3 (kY Af) st3 stop) λr s4 bW=>?_)
  obtain⟨hr,I4⟩:=bW;subst hr;exact wpAny_execs_nil ⟨σ3,H3,I4,qn⟩
 .refine vz hp (aW (T.item X rfl rfl rfl hc i pins s3 σ3 H3 X.xe I3 (kY Af) st3 go) λr s4 bW=>?_)
  obtain⟨u,hr,h4⟩:=bW;subst hr;refine vz hp (aW h4 λ_ s5 bW=>?_);obtain⟨x,H5,I5,r5,y5,mK,qY⟩:=bW;have GP:=I5.pinned (kY qY) (T.obj _ _ mK);refine vz hp (aW (hg _ s5 σ3 H5 x u _ GP r5 (step x H5 y5)) λ_ s6 bW=>?_);obtain⟨jA,H6,I6,q6⟩:=bW;refine vz hp (aW (hb _ s6 jA H6 _ I6 q6) λf s7 q7=>?_);have again:∀{kE:St}{H7:Hp},Inv X (pins++vU fp s5.heap) kE H7 s7->N kE H7->∃m,m<n/\∃i σ' H',Inv X pins σ' H' s7/\tn i s7.heap/\(∀b∈fp,H' b=aE)/\W i m σ' H':=λ{kE H7} I7 n7=>by
   obtain⟨m',hm,w7⟩:=hN kE H7 n7;refine⟨m',hm,i+1,kE,H7,I7.di,T.keep _ _ _ mK λb hb o e=>(I7.pin (b,o) (ig _ (ig _ (t9 hb e)))).1,λb hb=>?_,w7⟩;obtain⟨o,e,d⟩:=T.obj _ _ mK b hb;exact(I7.pin (b,o) (ig _ (ig _ (t9 hb e)))).2.1
  cases f with|next=>obtain⟨kE,H7,I7,n7⟩:=q7;exact again I7 n7|cont=>obtain⟨kE,H7,I7,n7⟩:=q7;exact again I7 n7|brk=>obtain⟨kE,H7,I7,q7⟩:=q7;exact⟨kE,H7,I7.di,q7⟩|ret v=>obtain⟨x7,kE,H7,I7,r7,q7⟩:=q7;exact⟨x7,kE,H7,I7.di,r7,q7⟩
end
noncomputable abbrev R2:=V->V->Hp->VK->Prop
noncomputable def cQ(X:Cx)(f:aa->aa->Sem aa)(r:R2):Prop:=
 ∀(pins:List (ah×Obj))(s:af)(σ:St)(H:Hp)(x y:V)(v u:aa)(Q:VK),Inv X pins σ H s->RelV x v->RelV y u->r x y H Q->
  wpAny (model X.prog X.w) X.A (f v u) (EP X pins σ Q) X.xe s
noncomputable def GQ(X:Cx)(f:aa->Sem aa)(r:V->Hp->VK->Prop):Prop:=
 ∀(pins:List (ah×Obj))(s:af)(σ:St)(H:Hp)(x:V)(v:aa)(Q:VK),Inv X pins σ H s->RelV x v->r x H Q->
  wpAny (model X.prog X.w) X.A (f v) (EP X pins σ Q) X.xe s
noncomputable def bU(X:Cx)(f:aa)(r:List V->Hp->VK->Prop):Prop:=
 ∀(pins:List (ah×Obj))(s:af)(σ:St)(H:Hp)(xs:List V)(us:List aa)(Q:VK),Inv X pins σ H s->Vals xs us->r xs H Q->
  wpAny (model X.prog X.w) X.A (call f us) (EP X pins σ Q) X.xe s
noncomputable def GR(X:Cx)(r:V->Hp->(Bool->Hp->Prop)->Prop):Prop:=
 ∀(pins:List (ah×Obj))(s:af)(σ:St)(H:Hp)(x:V)(v:aa)(Q:Bool->Hp->Prop),Inv X pins σ H s->RelV x v->r x H Q->
  wpAny (model X.prog X.w) X.A (truthy v) (TP X pins σ Q) X.xe s
noncomputable def Ec(r:R2)(ta tb:TE):TE:=λσ H Q=>ta σ H λx H1=>tb σ H1 λy H2=>r x y H2 Q
noncomputable def Tq(r:V->Hp->VK->Prop)(ta:TE):TE:=λσ H Q=>ta σ H λx H1=>r x H1 Q
noncomputable def rI(C:Int->Int->Prop)(g:Int->Int->V):R2:=λx y H Q=>∃i j,x=.int i/\y=.int j/\C i j/\Q (g i j) H
noncomputable def mO(g:Int->Int->V):R2:=λx y H Q=>∃i j,x=.int i/\y=.int j/\Q (g i j) H
noncomputable def rU(g:Int->V):V->Hp->VK->Prop:=λx H Q=>∃i,x=.int i/\Q (g i) H
section
variable{X:Cx}{a b c:ao}{ta tb tc:TE}{pos:Pos}
theorem vV(ha:PE X a ta)(hb:PE X b tb){pins:List (ah×Obj)}{s:af}{σ:St}{H:Hp}{R:V->V->Hp->Prop}(I:Inv X pins σ H s)
 (h:ta σ H λx H1=>tb σ H1 λy H2=>R x y H2) {Q:aa->af->Prop} {f:aa->aa->Sem aa}
 (hf:∀v u s2 x y H2,Inv X pins σ H2 s2->RelV x v->RelV y u->R x y H2->wpAny (model X.prog X.w) X.A (f v u) Q X.xe s2) :
 wpAny (model X.prog X.w) X.A (eval a X.env) (λv s₁=>wpAny (model X.prog X.w) X.A (eval b X.env) (λu s₂=>wpAny (model X.prog X.w) X.A (f v u) Q X.xe s₂) X.xe s₁) X.xe s:=by
 refine aW (ha pins s σ H _ I h) λv s1 z9=>z9.el λx H1 I1 r1 q1=>?_;refine aW (hb pins s1 σ H1 _ I1 q1) λu s2 z9=>z9.el λy H2 I2 r2 q2=>?_;exact hf v u s2 x y H2 I2 r1 r2 q2
theorem Ag{op:Operator}{r:R2}(ho:cQ X (binaryOp op) r)(ha:PE X a ta)(hb:PE X b tb):PE X (.BinOp a op b pos) (Ec r ta tb):=by intro pins s σ H Q I h;exact wpAny_BinOp (vV ha hb I h λv u s2 x y H2 I2 rx ry q=>ho pins s2 σ H2 x y v u Q I2 rx ry q)
theorem Ah{op:UnaryOp}{r:V->Hp->VK->Prop}(ho:GQ X (unaryOp op) r)(ha:PE X a ta):PE X (.UnaryOp op a pos) (Tq r ta):=by intro pins s σ H Q I h;exact UnaryOp_ (aW (ha pins s σ H _ I h) λv s1 z9=>z9.el λx H1 I1 r1 q1=>ho pins s1 σ H1 x v Q I1 r1 q1)
theorem eY{f:aa->aa->Sem aa}{C:Int->Int->Prop}{g:Int->Int->Int}
 (rule:∀(i j:Int)(t u:Tok)(s:af)(Q:aa->af->Prop)(E:aa->af->Prop),C i j->Q (.int (g i j) s.toks) {s with toks:=s.toks+1}->wpAny (model X.prog X.w) X.A (f (.int i t) (.int j u)) Q E s) :
 cQ X f (rI C λi j=>.int (g i j)):=by
 intro pins s σ H x y v u Q I rx ry h;obtain⟨i,j,rfl,rfl,hc,q⟩:=h;obtain⟨t,rfl⟩:=rx;obtain⟨t',rfl⟩:=ry;exact rule i j t t' s _ _ hc ⟨.int (g i j),H,I.tok _,⟨_,rfl⟩,q⟩
theorem Ai{f:aa->aa->Sem aa}{g:Int->Int->Int}
 (rule:∀(i j:Int)(t u:Tok)(s:af)(Q:aa->af->Prop)(E:aa->af->Prop),Q (.int (g i j) s.toks) {s with toks:=s.toks+1}->wpAny (model X.prog X.w) X.A (f (.int i t) (.int j u)) Q E s) :
 cQ X f (mO λi j=>.int (g i j)):=by
 intro pins s σ H x y v u Q I rx ry h;obtain⟨i,j,rfl,rfl,q⟩:=h;obtain⟨t,rfl⟩:=rx;obtain⟨t',rfl⟩:=ry;exact rule i j t t' s _ _ ⟨.int (g i j),H,I.tok _,⟨_,rfl⟩,q⟩
theorem qZ{f:aa->aa->Sem aa}{g:Int->Int->Bool}
 (rule:∀(i j:Int)(t u:Tok)(s:af)(Q:aa->af->Prop)(E:aa->af->Prop),Q (.bool (g i j)) s->wpAny (model X.prog X.w) X.A (f (.int i t) (.int j u)) Q E s) :
 cQ X f (mO λi j=>.bl (g i j)):=by
 intro pins s σ H x y v u Q I rx ry h;obtain⟨i,j,rfl,rfl,q⟩:=h;obtain⟨t,rfl⟩:=rx;obtain⟨t',rfl⟩:=ry;exact rule i j t t' s _ _ ⟨.bl (g i j),H,I,rfl,q⟩
noncomputable def rq(i j:Int):Prop:=0<j/\j<1073741824
noncomputable def rz(i j:Int):Prop:=0<=j/\j<=1000000/\i.natAbs<2 ^ 64
noncomputable def mP(i j:Int):Prop:=(-(2 ^ 64)<i/\i<2 ^ 64)\/(-(2 ^ 64)<j/\j<2 ^ 64)
theorem mP.ok{i j:Int}(h:mP i j):IntMulOk i j:=by rcases h with⟨h1,h2⟩|⟨h1,h2⟩;exact .of_left (intBits_le_64 h1 h2);exact .of_right (intBits_le_64 h1 h2)
theorem Tr:cQ X (binaryOp .Add) (mO λi j=>.int (i+j)):=Ai λ_ _ _ _ _ _ _ q=>add_int q
theorem Tt:cQ X (binaryOp .Sub) (mO λi j=>.int (i-j)):=Ai λ_ _ _ _ _ _ _ q=>sub_int q
theorem Tu:cQ X (binaryOp .Mult) (rI mP λi j=>.int (i*j)):=eY λ_ _ _ _ _ _ _ hc q=>mul_int q hc.ok
theorem Tv:cQ X (binaryOp .FloorDiv) (rI rq λi j=>.int (i/j)):=eY λi j _ _ _ _ _ hc q=>by
 have h1:(0:Int)<j:=hc.1;have h2:j<1073741824:=hc.2;exact floordiv_int (by lia) (by rw[Int.fdiv_eq_ediv_of_nonneg i (by lia)];exact q) (.inl (PyProof.noPylong_small (by lia)))
theorem Tz:cQ X (binaryOp .Mod) (rI (λ_ j=>0<j) λi j=>.int (i % j)):=eY λi j _ _ _ _ _ hc q=>by
 have h1:(0:Int)<j:=hc;exact mod_int' (by lia) (by rw[Int.fmod_eq_emod_of_nonneg i (by lia)];exact q)
theorem TF:cQ X (binaryOp .Pow) (rI rz λi j=>.int (i ^ j.toNat)):=eY λ_ _ _ _ _ _ _ hc q=>pow_int_small hc.1 hc.2.1 hc.2.2 q
theorem TH:cQ X (binaryOp .LShift) (rI rz λi j=>.int (i*2 ^ j.toNat)):=eY λ_ _ _ _ _ _ _ hc q=>lshift_int_small hc.1 hc.2.1 hc.2.2 q
theorem TJ:cQ X (inplaceOp .Mult) (rI mP λi j=>.int (i*j)):=eY λ_ _ _ _ _ _ _ hc q=>imul_int q hc.ok
theorem TL:cQ X (inplaceOp .FloorDiv) (rI rq λi j=>.int (i/j)):=eY λi j _ _ _ _ _ hc q=>by
 have h1:(0:Int)<j:=hc.1;have h2:j<1073741824:=hc.2;exact ifloordiv_int (by lia) (by rw[Int.fdiv_eq_ediv_of_nonneg i (by lia)];exact q) (.inl (PyProof.noPylong_small (by lia)))
theorem TN{f:aa->Sem aa}{g:Int->Int}
 (rule:∀(i:Int)(t:Tok)(s:af)(Q:aa->af->Prop)(E:aa->af->Prop),Q (.int (g i) s.toks) {s with toks:=s.toks+1}->wpAny (model X.prog X.w) X.A (f (.int i t)) Q E s) :
 GQ X f (rU λi=>.int (g i)):=by
 intro pins s σ H x v Q I rx h;obtain⟨i,rfl,q⟩:=h;obtain⟨t,rfl⟩:=rx;exact rule i t s _ _ ⟨.int (g i),H,I.tok _,⟨_,rfl⟩,q⟩
theorem TQ:GQ X (unaryOp .USub) (rU λi=>.int (-i)):=TN λ_ _ _ _ _ q=>neg_int q
end
section
variable{X:Cx}{a b c:ao}{ta tb tc:TE}{pos:Pos}
theorem Ed{pins:List (ah×Obj)}{σ:St}{H:Hp}{s:af}{Q:VK}{k k':Bool}(I:Inv X pins σ H s)(q:Q (.bl k) H)(e:k=k'):EP X pins σ Q (.bool k') s:=by subst e;exact⟨.bl k,H,I,rfl,q⟩
theorem Aj:cQ X (compareOp .Lt) (mO λi j=>.bl (decide (i<j))):=qZ λ_ _ _ _ _ _ _ q=>lt_int q
theorem Ak:cQ X (compareOp .LtE) (mO λi j=>.bl (decide (i<=j))):=qZ λ_ _ _ _ _ _ _ q=>le_int q
theorem Al:cQ X (compareOp .Gt) (mO λi j=>.bl (decide (j<i))):=qZ λ_ _ _ _ _ _ _ q=>gt_int q
theorem Am:cQ X (compareOp .GtE) (mO λi j=>.bl (decide (j<=i))):=qZ λ_ _ _ _ _ _ _ q=>ge_int q
theorem TR:cQ X (compareOp .Is) (λx y H Q=>y=.aQ/\Q (.bl (decide (x=.aQ))) H):=by
 intro pins s σ H x y v u Q I rx ry h;obtain⟨rfl,q⟩:=h;cases ry;refine is_none_gen (Ed I q ?_);cases x<;>first
  |(cases rx;rfl)
  |(obtain⟨t,rfl⟩:=rx;rfl)
theorem TU:cQ X (compareOp .IsNot) (λx y H Q=>y=.aQ/\Q (.bl (!decide (x=.aQ))) H):=by
 intro pins s σ H x y v u Q I rx ry h;obtain⟨rfl,q⟩:=h;cases ry;refine isnot_none_gen (Ed I q ?_);cases x<;>first
  |(cases rx;rfl)
  |(obtain⟨t,rfl⟩:=rx;rfl)
theorem cQ.or{f:aa->aa->Sem aa}{r r':R2}(h:cQ X f r)(h':cQ X f r'):cQ X f (λx y H Q=>r x y H Q\/r' x y H Q):=by
 intro pins s σ H x y v u Q I rx ry q;rcases q with q|q
 exact h pins s σ H x y v u Q I rx ry q;exact h' pins s σ H x y v u Q I rx ry q
theorem TV{op:CmpOp}{r:R2}(ho:cQ X (compareOp op) r)(ha:PE X a ta)(hb:PE X b tb)(hm:behindInMarks op b=false):PE X (.Compare a [op] [b] pos) (Ec r ta tb):=by intro pins s σ H Q I h;exact wpAny_Compare1 (vV ha hb I h λv u s2 x y H2 I2 rx ry q=>ho pins s2 σ H2 x y v u Q I2 rx ry q) hm
noncomputable def ua(t:TE):TT:=λσ H Q=>t σ H λx H'=>∃k,x=.bl k/\Q k H'
theorem TX{op:CmpOp}{r:R2}(ho:cQ X (compareOp op) r)(ha:PE X a ta)(hb:PE X b tb)(hm:behindInMarks op b=false):PT X (.Compare a [op] [b] pos) (ua (Ec r ta tb)):=by
 intro pins s σ H Q I h;refine wpAny_isTrue_Compare1 (aW (ha pins s σ H _ I h) λv s1 z9=>z9.el λx H1 I1 r1 q1=>aW (hb pins s1 σ H1 _ I1 q1) λu s2 z9=>z9.el λy H2 I2 r2 q2=>
  aW (ho pins s2 σ H2 x y v u _ I2 r1 r2 q2) λc s3 z9=>z9.el λz H3 I3 r3 ⟨k,e,q3⟩=>?_) hm
 subst e;cases r3;exact qH ⟨H3,I3,q3⟩
noncomputable def GS(r r':R2)(ta tb tc:TE):TE:=λσ H Q=>ta σ H λx H1=>tb σ H1 λy H2=>r x y H2 λz H3=>∃k,z=.bl k/\
 (if k=true then tc σ H3 λw' H4=>r' y w' H4 Q else Q (.bl false) H3)
theorem TY{op op':CmpOp}{r r':R2}(ho:cQ X (compareOp op) r)(ho':cQ X (compareOp op') r')(ha:PE X a ta)(hb:PE X b tb)(hc:PE X c tc)
 (hm:lastMarks [op,op'] [b,c]=false:=by with_unfolding_all rfl):PE X (.Compare a [op,op'] [b,c] pos) (GS r r' ta tb tc):=by
 intro pins s σ H Q I h;refine Compare_chain (aW (ha pins s σ H _ I h) λv s1 z9=>z9.el λx H1 I1 r1 q1=>chain_link (aW (hb pins s1 σ H1 _ I1 q1) λu s2 z9=>z9.el λy H2 I2 r2 q2=>
  aW (ho pins s2 σ H2 x y v u _ I2 r1 r2 q2) λd s3 z9=>z9.el λz H3 I3 r3 ⟨k,e,q3⟩=>?_)) hm
 subst e;cases r3;refine qH ?_;cases k with|false=>exact ite_ff ⟨.bl false,H3,I3,rfl,q3⟩|true=>exact ite_tt (chain_last (aW (hc pins s3 σ H3 _ I3 q3) λw' s4 z9=>z9.el λz' H4 I4 r4 q4=>ho' pins s4 σ H4 y z' u w' Q I4 r2 r4 q4))
theorem TZ{op op':CmpOp}{r r':R2}(ho:cQ X (compareOp op) r)(ho':cQ X (compareOp op') r')(ha:PE X a ta)(hb:PE X b tb)(hc:PE X c tc)
 (hm:lastMarks [op,op'] [b,c]=false:=by with_unfolding_all rfl):PT X (.Compare a [op,op'] [b,c] pos) (ua (GS r r' ta tb tc)):=by
 intro pins s σ H Q I h;refine isTrue_chain (aW (ha pins s σ H _ I h) λv s1 z9=>z9.el λx H1 I1 r1 q1=>test_link (aW (hb pins s1 σ H1 _ I1 q1) λu s2 z9=>z9.el λy H2 I2 r2 q2=>
  aW (ho pins s2 σ H2 x y v u _ I2 r1 r2 q2) λd s3 z9=>z9.el λz H3 I3 r3 ⟨k,e,q3⟩=>?_)) hm
 subst e;cases r3;refine qH ?_;cases k with
 |false=>
  obtain⟨k',e',q'⟩:=q3;cases e';exact ite_ff ⟨H3,I3,q'⟩
 |true=>
  refine ite_tt (test_last (aW (hc pins s3 σ H3 _ I3 q3) λw' s4 z9=>z9.el λz' H4 I4 r4 q4=>aW (ho' pins s4 σ H4 y z' u w' _ I4 r2 r4 q4) λd' s5 z9=>z9.el λz2 H5 I5 r5 bW=>?_));obtain⟨k2,e2,q5⟩:=bW;subst e2;cases r5;exact qH ⟨H5,I5,q5⟩
noncomputable def vW(K:aK)(x:V)(H:Hp)(k:Bool):Prop:=
 match x with|.aQ=>k=false|.bl b=>k=b|.int i=>k=(i != 0)|.str y=>y.length<=sizeLine/\k=((y.length:Int) != 0)|.zI y=>y.size<=sizeLine/\k=((y.size:Int) != 0)|.ref p=>(∃xs,cC K H p xs/\k=!xs.isEmpty)\/(∃xs,bX K H p xs/\k=!xs.isEmpty)\/∃kvs,H p=aD (.dK kvs)/\k=!kvs.isEmpty|_=>False
theorem T3{κ:Type}{kvs:List (κ×V)}{vs:List (κ×aa)}(r:KV kvs vs):(!vs.isEmpty)=!kvs.isEmpty:=by cases r<;>rfl
theorem Nc{xs:List V}{its:List aa}(r:Vals xs its):(!its.toArray.isEmpty)=!xs.isEmpty:=by cases r<;>simp
theorem uc:(sizeLine:Nat)<2 ^ 63:=by rw[zl];decide
theorem T4:GR X (λx H Q=>∃k,vW X.K x H k/\Q k H):=by
 intro pins s σ H x v Q I rx h;obtain⟨k,e,q⟩:=h;have hl:=uc;have hs:sizeLine=16777216:=zl;cases x with
 |aQ=>
  cases rx;have e':k=false:=e;subst e';exact truthy_none ⟨H,I,q⟩
 |bl b=>
  cases rx;have e':k=b:=e;subst e';exact qH ⟨H,I,q⟩
 |int i=>
  obtain⟨t,rfl⟩:=rx;have e':k=(i != 0):=e;subst e';exact PySem.P.truthy_int ⟨H,I,q⟩
 |str y=>
  obtain⟨t,rfl⟩:=rx;obtain⟨hy,e'⟩:y.length<=sizeLine/\k=((y.length:Int) != 0):=e;subst e';exact PySem.P.truthy_str (by lia) ⟨H,I.tok _,q⟩
 |zI y=>
  obtain⟨t,rfl⟩:=rx;obtain⟨hy,e'⟩:y.size<=sizeLine/\k=((y.size:Int) != 0):=e;subst e';exact PySem.W.truthy_bytes (by lia) ⟨H,I.tok _,q⟩
 |ref p=>
  cases rx;have e':(∃xs,cC X.K H p xs/\k=!xs.isEmpty)\/(∃xs,bX X.K H p xs/\k=!xs.isEmpty)\/∃kvs,H p=aD (.dK kvs)/\k=!kvs.isEmpty:=e;rcases e' with⟨xs,hx,e'⟩|⟨xs,hx,e'⟩|⟨kvs,hx,e'⟩
  subst e';obtain⟨its,r,pl,hz⟩:=I.list hx;have hlen:=r.length;exact wpAny_truthy_list pl.isList (by simp only[cG];lia) ⟨H,I.tok _,by rw[Nc r];exact q⟩;subst e';obtain⟨its,r,pl,hz⟩:=I.tuple hx;have hlen:=r.length;exact truthy_tuple pl (by simp only[cG];lia) ⟨H,I.tok _,by rw[Nc r];exact q⟩;subst e';obtain⟨hz,hS,vs,r,m⟩:kvs.length<=sizeLine/\(p==sysModules)=false/\∃vs,KV kvs vs/\s.heap.DictOf (kC X.prog X.w) p vs:=I.hok p _ hx;have hlen:kvs.length=vs.length:=DX r;exact wpAny_truthy_dict hS m (by lia) ⟨H,I.tok _,by rw[T3 r];exact q⟩
 |_=>exact(show False from e).elim
theorem T5(ha:PE X a ta)(he:∀whole,isTrue a X.env whole=(do let v <-whole;standAt a.pos;holding [v] (truthy v))) :
 PT X a (λσ H Q=>ta σ H λx H'=>∃k,vW X.K x H' k/\Q k H'):=by
 intro pins s σ H Q I h;exact isTrue_plain (aW (ha pins s σ H _ I h) λv s1 z9=>z9.el λx H1 I1 r1 q1=>T4 pins s1 σ H1 x v Q I1 r1 q1) (he _)
theorem vals1{x:V}{us:List aa}(r:Vals [x] us):∃u,us=[u]/\RelV x u:=by
 cases r with|cons r1 r2=>cases r2;exact⟨_,rfl,r1⟩
theorem vals2{x y:V}{us:List aa}(r:Vals [x,y] us):∃u w',us=[u,w']/\RelV x u/\RelV y w':=by
 cases r with
 |cons r1 r2=>
  cases r2 with|cons r3 r4=>cases r4;exact⟨_,_,rfl,r1,r3⟩
theorem T6:bU X (.builtin "abs") (λxs H Q=>∃i,xs=[.int i]/\Q (.int (if i<0 then -i else i)) H):=by intro pins s σ H xs us Q I r h;obtain⟨i,rfl,q⟩:=h;obtain⟨u,rfl,t,rfl⟩:=vals1 r;exact call_abs_int λu tk=>⟨.int (if i<0 then -i else i),H,I.tok _,⟨_,rfl⟩,q⟩
theorem T7(hc:X.calm):bU X (.builtin "max") (λxs H Q=>∃i j,xs=[.int i,.int j]/\Q (.int (if j>i then j else i)) H):=by
 intro pins s σ H xs us Q I r h;obtain⟨i,j,rfl,q⟩:=h;obtain⟨u,w',rfl,⟨t,rfl⟩,⟨t',rfl⟩⟩:=vals2 r;refine max_two_ints (I.ok.hd hc) λh' tk k=>⟨_,H,I.kept k,?_,q⟩
 by_cases hj:j>i;rw[if_pos hj,if_pos hj];exact⟨_,rfl⟩;rw[if_neg hj,if_neg hj];exact⟨_,rfl⟩
theorem T8(hc:X.calm):bU X (.builtin "min") (λxs H Q=>∃i j,xs=[.int i,.int j]/\Q (.int (if j<i then j else i)) H):=by
 intro pins s σ H xs us Q I r h;obtain⟨i,j,rfl,q⟩:=h;obtain⟨u,w',rfl,⟨t,rfl⟩,⟨t',rfl⟩⟩:=vals2 r;refine min_two_ints (I.ok.hd hc) λh' tk k=>⟨_,H,I.kept k,?_,q⟩
 by_cases hj:j<i;rw[if_pos hj,if_pos hj];exact⟨_,rfl⟩;rw[if_neg hj,if_neg hj];exact⟨_,rfl⟩
theorem T9:bU X (.type "int") (λxs H Q=>(∃i,xs=[.int i]/\Q (.int i) H)\/∃k,xs=[.bl k]/\Q (.int (if k then 1 else 0)) H):=by
 intro pins s σ H xs us Q I r h;rcases h with⟨i,rfl,q⟩|⟨k,rfl,q⟩
 obtain⟨u,rfl,t,rfl⟩:=vals1 r;exact call_int_int ⟨.int i,H,I,⟨_,rfl⟩,q⟩;obtain⟨u,rfl,r1⟩:=vals1 r;cases r1;exact call_int_bool ⟨.int (if k then 1 else 0),H,I.tok _,⟨_,rfl⟩,q⟩
end
structure vX(h:aB)(x dx C:ah)(mA:Str->Option aa):Prop where
 obj:h.get? x=aD (PySem.W.instObj C dx)
 ns:h.Ns1 dx mA
 ne:dx≠x
theorem Ua{h:aB}{dx:ah}{mA:Str->Option aa}(n:h.Ns1 dx mA):∃od,h.get? dx=aD od/\∀name,PySem.W.lookIn name od=aD (mA name):=by
 obtain⟨o,es,ep,ho,hd,hk,_,hm⟩:=n;refine⟨o,ho,λname=>?_⟩;have e:=hm name;unfold nsFind findBy at e;rw[<-Array.find?_toList]at e;unfold PySem.W.lookIn;rw[hd];dsimp only;split;rename_i y q;rw[q]at e;exact jF aD e;rename_i q;rw[q]at e;have a:es.toList.any (·.refKey)=false:=by rw[List.any_eq_false];intro y hy;obtain⟨z,t,hkey⟩:=hk y (Array.mem_toList_iff.mp hy);simp[DictEntry.refKey,hkey]
 have a':¬es.toList.any (·.refKey)=true:=by rw[a];exact zw
 rw[if_neg a'];exact jF aD e
theorem vX.look{h:aB}{x dx C:ah}{mA:Str->Option aa}(I:vX h x dx C mA):∃od,PySem.W.InstAt h x (PySem.W.instObj C dx) C (aD od)/\∀name,PySem.W.lookIn name od=aD (mA name):=
 let⟨od,ho,hl⟩:=Ua I.ns
 ⟨od,⟨I.obj,rfl,rfl,ho⟩,hl⟩
theorem ir.some_of{v:V}{o:Option aa}(r:ir (aD v) o):∃u,o=aD u/\RelV v u:=by
 cases o with|none=>exact(show False from r).elim|some u=>exact⟨u,rfl,r⟩
section
variable{P:ai}{w:aj}{H H':Hp}{h h':aB}{a C dx:ah}{fs fs':List (Str×V)}
theorem Ub(hok:fm P w H h)(e:H a=aD (.ins C dx fs)):∃mA,vX h a dx C mA/\(∀f,ir (fs.lookup f) (mA f))/\PySem.Within mA (fs.map (·.1))/\fs.length<=1000/\H dx=aD (.own a):=by
 obtain⟨d,z,ne,ob,mA,n,r,q⟩:=(show aZ P w H h a (.ins C dx fs)from hok a _ e)
 exact⟨mA,⟨ob,n,ne⟩,r,q,z,d⟩
end
structure GU(K:aK)(C:ah):Prop where
 pg:PySem.W.plainGet K C Str.empty=true
 hd:PySem.W.hasDictIn K C=true
 po:PySem.W.plainOver K C=true
 sa:PySem.W.findIn K (.ref C) "__setattr__" = aD (aD (.builtin "object.__setattr__"))
theorem GU.get{K:aK}{C:ah}(c:GU K C)(f:Str):PySem.W.plainGet K C f=true:=c.pg
section
variable{X:Cx}{pins:List (ah×Obj)}{σ:St}{H:Hp}{s:af}{A:ak}{E:aa->af->Prop}{Q:aa->af->Prop}{c:aa}{b:Bool}
inductive fS(K:aK)(H:Hp):V->aa->Prop where
 |aQ:fS K H .aQ (.type "NoneType")
 |bl (x:Bool):fS K H (.bl x) (.type "bool")
 |int (i:Int):fS K H (.int i) (.type "int")
 |str (x:Str):fS K H (.str x) (.type "str")
 |yr (x:UInt64):fS K H (.yr x) (.type "float")
 |lst {a:ah} {xs:List V} (e:H a=aD (.lst xs)):fS K H (.ref a) (.type "list")
 |bL {a:ah} {o:Obj} {xs:List V} (e:H a=aD (.bL o (.lst xs))):fS K H (.ref a) (.type "list")
 |tup {a:ah} {xs:List V} (e:H a=aD (.tup xs)):fS K H (.ref a) (.type "tuple")
 |dK {a:ah} {kvs:List (Key×V)} (e:H a=aD (.dK kvs)):fS K H (.ref a) (.type "dict")
 |dT {a:ah} {kvs:List (List Key×V)} (e:H a=aD (.dT kvs)):fS K H (.ref a) (.type "dict")
 |ins {a C dx:ah} {fs:List (Str×V)} (e:H a=aD (.ins C dx fs)) (cl:GU K C) (ha:PySem.W.findIn K (.ref C) "__class__" = aD (aD (.builtin "object.__class__")))
   (hn:PySem.W.specialIn K (.builtin "object.__class__") "__get__" = aD (aD (.builtin "getset_descriptor.__get__"))) (htk:PySem.W.takesIn K (.builtin "object.__class__")=aD true)
   (hm:PySem.W.mroIn K C (.type "object")=aD true):fS K H (.ref a) (.ref C)
theorem Uc{x:V}{u t:aa}(I:Inv X pins σ H s)(rx:RelV x u)(ty:fS X.K H x t)(e:PySem.W.kitOne X.K t c=aD b)(h:∀tk,Q (.bool b) {s with toks:=tk}) :
 wpAny (model X.prog X.w) A (call (.builtin "isinstance") [u,c]) Q E s:=by
 cases ty with
 |aQ=>cases(show u=Value.none from rx);exact mH PySem.W.kitx_none I.iV True.intro e (λz=>nomatch z) h
 |bl y=>cases(show u=Value.bool y from rx);exact mH PySem.W.kitx_bool I.iV True.intro e (λz=>nomatch z) h
 |int i=>obtain⟨t,q⟩:=(show ∃t,u=Value.int i t from rx);cases q;exact mH PySem.W.kitx_int I.iV True.intro e (λz=>nomatch z) h
 |str y=>obtain⟨t,q⟩:=(show ∃t,u=Value.str y t from rx);cases q;exact mH PySem.W.kitx_str I.iV True.intro e (λz=>nomatch z) h
 |yr y=>obtain⟨t,q⟩:=(show ∃t,u=Value.float y t from rx);cases q;exact mH PySem.W.kitx_float I.iV True.intro e (λz=>nomatch z) h
 | @lst a xs ea=>
  cases(show u=Value.ref a from rx);obtain⟨_,_,n,_,h1⟩:=(show aZ X.prog X.w H s.heap a (.lst xs)from I.hok a _ ea)
  exact mH PySem.W.kitx_list I.iV ⟨_,h1,rfl⟩ e (λz=>nomatch z) h
 | @bL a ob xs ea=>
  cases(show u=Value.ref a from rx);obtain⟨_,_,_,n,_,h1⟩:=(show aZ X.prog X.w H s.heap a (.bL ob (.lst xs))from I.hok a _ ea)
  exact mH PySem.W.kitx_list I.iV ⟨_,h1,rfl⟩ e (λz=>nomatch z) h
 | @tup a xs ea=>
  cases(show u=Value.ref a from rx);obtain⟨_,_,_,p⟩:=(show aZ X.prog X.w H s.heap a (.tup xs)from I.hok a _ ea)
  obtain⟨o,h1,h2,_⟩:=p;exact mH PySem.W.kitx_tuple I.iV ⟨o,h1,h2⟩ e (λz=>nomatch z) h
 | @dK a kvs ea=>
  cases(show u=Value.ref a from rx);obtain⟨_,_,vs,_,p⟩:=(show aZ X.prog X.w H s.heap a (.dK kvs)from I.hok a _ ea)
  obtain⟨o,es,ep,h1,h2,_⟩:=p;exact mH PySem.W.kitx_dict I.iV ⟨o,h1,h2.1⟩ e (λz=>nomatch z) h
 | @dT a kvs ea=>
  cases(show u=Value.ref a from rx);obtain⟨_,_,xs,_,o,es,ep,h1,h2,_⟩:=(show aZ X.prog X.w H s.heap a (.dT kvs)from I.hok a _ ea)
  exact mH PySem.W.kitx_dict I.iV ⟨o,h1,h2.1⟩ e (λz=>nomatch z) h
 | @ins a C dx fs ea cl ha hn htk hm=>
  cases(show u=Value.ref a from rx);obtain⟨mA,O,_⟩:=Ub I.hok ea;obtain⟨od,J,_⟩:=O.look;exact mH (PySem.W.kitx_own (cl.get _) cl.hd ha hn htk hm) I.iV J e (λz=>nomatch z) h
end
structure cM(k:Nat)(A:ak):Prop where
 hd:A.handled=aE
 dp:A.depth+3*k+5<recursionLimit
 un:A.units+16*k+200<cLine
theorem cM.deeper{k:Nat}{A:ak}(r:cM (k+1) A)(env:Env):cM k (A.deeper env):=
 ⟨r.hd,by have:=r.dp;show A.depth+1+3*k+5<_;lia,by have:=r.un;show A.units+3+16*k+200<_;lia⟩
theorem cM.depth{k:Nat}{A:ak}(r:cM k A):A.depth<recursionLimit:=by have:=r.dp;lia
theorem cM.units{k:Nat}{A:ak}(r:cM k A):A.units+64<cLine:=by have:=r.un;lia
noncomputable def An:TA:=λ_ H Q=>Q [] H
noncomputable def Ao(ta:TE)(tr:TA):TA:=λσ H Q=>ta σ H λx H1=>tr σ H1 λxs H2=>Q (x::xs) H2
section
variable{X:Cx}{e:ao}{es:List ao}{te:TE}{t:TA}{pos:Pos}
theorem Ef:PA X [] An:=λ_ _ _ _ H Q I h=>Calls.spliced_nil ⟨[],H,I,.nil,h⟩
theorem Aq(ha:PE X e te)(hr:PA X es t)(hs:autoParam (starEach (e::es) X.env=(false,eval e X.env)::starEach es X.env) L2.aR1._auto_1):PA X (e::es) (Ao te t):=by intro pos pins s σ H Q I h;rw[hs];show wpAny _ _ (spliced ((false,eval e X.env)::backTo pos (starEach es X.env))) _ _ s;refine Calls.spliced_cons (aW (ha pins s σ H _ I h) λu s1 z9=>z9.el λx H1 I1 r1 q1=>?_);exact aW (hr pos pins s1 σ H1 _ I1 q1) λus s2 z9=>z9.el λxs H2 I2 r2 q2=>⟨x::xs,H2,I2,.cons r1 r2,q2⟩
noncomputable def GV(t:TA):TE:=λσ H Q=>t σ H λxs H1=>xs.length<=sizeLine/\∀p,H1 p=aE->Q (.ref p) (upd H1 p (.tup xs))
noncomputable def GW(t:TA):TE:=λσ H Q=>t σ H λxs H1=>xs.length<=sizeLine/\∀p,H1 p=aE->Q (.ref p) (upd H1 p (.lst xs))
theorem Ud{x1}(h:PA X es t):PE X (.Tuple es x1 pos) (GV t):=by intro pins s σ H Q I hq;refine wpAny_Tuple_spliced (aW (h pos pins s σ H _ I hq) λus s1 z9=>z9.el λxs H1 I1 r ⟨z,q⟩=>⟨by rw[<-r.length];exact z,?_⟩);have hf:H1 s1.heap.objs.size=aE:=I1.hok.fresh (aT _);refine⟨.ref s1.heap.objs.size,upd H1 s1.heap.objs.size (.tup xs),I1.laid (t':=s1.toks) (λb u e=>cu _ e) (aT _) ?_,rfl,q _ hf⟩;exact⟨z,us,r,kR.new _ _⟩
theorem Ue(h:PA X es t):PE X (.List es pos) (GW t):=by intro pins s σ H Q I hq;refine wpAny_List_spliced (aW (h pos pins s σ H _ I hq) λus s1 z9=>z9.el λxs H1 I1 r ⟨z,q⟩=>⟨by rw[<-r.length];exact z,?_⟩);have hf:H1 s1.heap.objs.size=aE:=I1.hok.fresh (aT _);refine⟨.ref s1.heap.objs.size,upd H1 s1.heap.objs.size (.lst xs),I1.laid (t':=s1.toks) (λb u e=>cu _ e) (aT _) ?_,rfl,q _ hf⟩;exact⟨z,us,0,r,iJ _ rfl⟩
end
noncomputable abbrev Sp:=List V->Hp->VK->XK->Prop
noncomputable abbrev qf:=List Env->Hp->af->XK->aa->af->Prop
structure rA(P:ai)(w:aj)(K:aK)(mg:Str->Option aa)(base:aB)(A:ak)(outer:List Env)(s:af)(H:Hp):Prop where
 frames:A.frames=aD outer
 mod:Mod K mg base
 bs:∀b o,base.get? b=aD o->s.heap.get? b=aD o/\H b=aE
 vP:base.objs.size<=s.heap.objs.size
 iy:s.heap.FunFrames base outer
 yz:∀b∈frs outer,H b=aE
 hok:fm P w H s.heap
 bare:AllBare s.gens
noncomputable def CE(outer:List Env)(P:ai)(w:aj)(H:Hp)(s:af)(Q:VK)(u:aa)(s':af):Prop:=
 ∃v H',s'.os=s.os/\AllBare s'.gens/\Un (frs outer) [] H H' s.heap s'.heap/\fm P w H' s'.heap/\RelV v u/\Q v H'
noncomputable def CR(CX:qf)(outer:List Env)(P:ai)(w:aj)(H:Hp)(s:af)(Q:VK)(E:XK)(r:Result)(s':af):Prop:=
 match r with|.ok (.ret u)=>CE outer P w H s Q u s'|.ok _=>False|.error e=>CX outer H s E e s'
structure fE(P:ai)(w:aj)(K:aK)(mg:Str->Option aa)(base:aB)(CX:qf)(k:Nat)(f:ah)(fd:av)(ps:List Str)(sp:Sp):Prop where
 len:∀vs H Q E,sp vs H Q E->vs.length=ps.length
 run:∀(A:ak)(outer:List Env)(s:af)(H:Hp)(args:Args)(us:List aa)(vs:List V)(Q:VK)(E:XK),cM k A->rA P w K mg base A outer s H->BindsTo s fd args (ps.zip us)->Vals vs us->sp vs H Q E->
  codeAny (model P w) A (.call (.ref f) args) (CR CX outer P w H s Q E) s
section
variable{X:Cx}{pins:List (ah×Obj)}{σ:St}{H:Hp}{s s':af}
theorem Inv.GX(I:Inv X pins σ H s):rA X.prog X.w X.K X.mg X.base X.A X.stack s H:=
 ⟨I.ok.frames,I.ok.mod,I.bs,ie I.ok.vP I.sz,I.stack,I.lE,I.hok,I.bare⟩
theorem Inv.after{Q:VK}{u:aa}(I:Inv X pins σ H s)(h:CE X.stack X.prog X.w H s Q u s'):EP X pins σ Q u s':=by obtain⟨v,H',os,bare,un,hok,r,q⟩:=h;obtain⟨hh,g,d,t,os'⟩:=s';obtain rfl:os'=s.os:=os;exact⟨v,H',I.call (h':=hh) (g':=g) (d':=d) (t':=t) (ch:=[]) un hok bare (λb z=>absurd z (by simp)),r,q⟩
end
noncomputable def ud(sp:Sp)(nZ:List V)(E:XK)(t:TA):TE:=λσ H Q=>t σ H λvs H1=>sp (vs++nZ) H1 Q E
noncomputable def Binds(K:aK)(fd:av)(ps:List Str)(ds:List aa):Prop:=
 ∀(s:af)(us:List aa),K.In s.heap->(us++ds).length=ps.length->BindsTo s fd ⟨us,[]⟩ (ps.zip (us++ds))
theorem Binds.all{K:aK}{fd:av}{ps:List Str}(h:∀us:List aa,us.length=ps.length->bindArgs fd ⟨us,[]⟩=pure (ps.zip us)):Binds K fd ps []:=λs us _ hl=>by
 rw[nI]at hl ⊢;exact .of_eq (h us hl)
noncomputable def Eg(CX:qf)(X:Cx)(E:XK):Prop:=∀(pins:List (ah×Obj)) (σ:St) (H:Hp) (s:af) (e:aa) (s':af),Inv X pins σ H s->CX X.stack H s E e s'->X.xe e s'
section
variable{X:Cx}{CX:qf}{k:Nat}{f C:ah}{fd:av}{ps:List Str}{sp:Sp}{nZ:List V}{ds:List aa}{E:XK}{x m:Str}{p pos apos:Pos}{e o:ao}{es:List ao}{ta:TE}{t:TA}
theorem Nd{pins:List (ah×Obj)}{σ:St}{H:Hp}{s:af}{Q:VK}{us:List aa}{vs:List V}(F:fE X.prog X.w X.K X.mg X.base CX k f fd ps sp)(hr:cM k X.A)(hb:Binds X.K fd ps ds)(hd:Vals nZ ds)(hx:Eg CX X E)
 (I:Inv X pins σ H s) (r:Vals vs us) (h:sp (vs++nZ) H Q E):wpAny (model X.prog X.w) X.A (call (.ref f) us) (EP X pins σ Q) X.xe s:=by
 have r2:Vals (vs++nZ) (us++ds):=r.append hd;have hl:(us++ds).length=ps.length:=by rw[<-r2.length];exact F.len _ _ _ _ h
 refine wpAny_call (codeAny_mono (F.run X.A X.stack s H ⟨us,[]⟩ (us++ds) (vs++nZ) Q E hr I.GX (hb s us I.iV hl) r2 h) λr s' hq=>?_);cases r with
 |error e=>exact hx pins σ H s e s' I hq
 |ok fl=>
  cases fl with|ret u=>exact I.after hq|next=>exact False.elim hq|brk=>exact False.elim hq|cont=>exact False.elim hq
theorem Nf(F:fE X.prog X.w X.K X.mg X.base CX k f fd ps sp)(hr:cM k X.A)(hg:Gl X x)(hm:X.mg x=aD (.ref f))(hk:PySem.W.keepIn X.K (.ref f))(hb:Binds X.K fd ps ds)(hd:Vals nZ ds)(hx:Eg CX X E)
 (ha:PA X (e::es) t) (hdb:autoParam ((x==("__debug__" : Str))=false) L2.aD1._auto_1) (he:autoParam (starEach (e::es) X.env=(false,eval e X.env)::starEach es X.env) L2.aR1._auto_1) (hpl:autoParam ((backTo pos (starEach es X.env)).any (·.1)=false) L2.aR1._auto_1) :
 PE X (.Call (.Name x p) (e::es) [] pos) (ud sp nZ E t):=by
 intro pins s σ H Q I h;refine vec (Gy I hg hm ?_ hdb);refine PySem.W.callWith_K (h₀:=X.base) I.ok.mod.Gn hk (aW (ha pos pins s σ H _ I h) λus s1 z9=>z9.el λvs H1 I1 r q=>⟨I1.iV,?_⟩) he hpl;exact Nd F hr hb hd hx I1 r q
theorem Ug(F:fE X.prog X.w X.K X.mg X.base CX k f fd ps sp)(hr:cM k X.A)(hg:Gl X x)(hm:X.mg x=aD (.ref f))(hk:PySem.W.keepIn X.K (.ref f))(hb:Binds X.K fd ps ds)(hd:Vals nZ ds)(hx:Eg CX X E)
 (hdb:autoParam ((x==("__debug__" : Str))=false) L2.aD1._auto_1):PE X (.Call (.Name x p) [] [] pos) (ud sp nZ E An):=by
 intro pins s σ H Q I h;refine vec (Gy I hg hm ?_ hdb);exact PySem.W.callWith_K0 I.iV hk (Nd (us:=[]) F hr hb hd hx I .nil h)
end
structure cR(N P:List Str)(sc:aA):Prop where
 kind:sc.kind=.function
 co:sc.isCoroutine=false
 gen:sc.isGenerator=false
 nd:N.Nodup
 pre:N.take P.length=P
 par:∀x∈P,sc.names.lookup x=aD .local\/sc.names.lookup x=aD .cell
 vY:∀y∈sc.names,y.2≠.free
theorem Ng{kindOf:Str->Option NameKind}{x:Str}:∀{binds:List (Str×aa)} {m:Str->Option aa},(∀v,(x,v)∉binds)->bindL kindOf binds m x=m x
 |[],_,_=>rfl
 |(n,v)::r,m,h=>by
  unfold bindL;rw[Ng λw hw=>h w (dQ _ hw)];split;have:x≠n:=by rintro rfl;exact h v fk
  simp[this];rfl
theorem Nh{kindOf:Str->Option NameKind}{x:Str}:∀{binds:List (Str×aa)} {m:Str->Option aa},(∀v,(x,v)∉binds)->bindC kindOf binds m x=m x
 |[],_,_=>rfl
 |(n,v)::r,m,h=>by
  unfold bindC;rw[Nh λw hw=>h w (dQ _ hw)];split;rfl;have:x≠n:=by rintro rfl;exact h v fk
  simp[this]
theorem Ni{kindOf:Str->Option NameKind}{x:Str}{v:aa}:∀{P:List Str} {vs:List aa} {i:Nat} {m:Str->Option aa},P.Nodup->P[i]?=aD x->vs[i]?=aD v->kindOf x=aD .local->
 bindL kindOf (P.zip vs) m x=aD v
 |[],_,_,_,_,h,_,_=>by simp at h
 |_::_,[],_,_,_,_,h,_=>by simp at h
 |p::P,w::vs,0,m,nd,h1,h2,hk=>by
  simp at h1 h2;subst h1;subst h2;show bindL kindOf ((p,w)::P.zip vs) m p=_;unfold bindL;rw[Ng λv hv=>(vD.mp nd).1 (List.of_mem_zip hv).1,if_pos hk];simp
 |p::P,w::vs,i+1,m,nd,h1,h2,hk=>by
  show bindL kindOf ((p,w)::P.zip vs) m x=_;unfold bindL;exact Ni (i:=i) (vD.mp nd).2 (by simpa using h1) (by simpa using h2) hk
theorem Nj{kindOf:Str->Option NameKind}{x:Str}{v:aa}:∀{P:List Str} {vs:List aa} {i:Nat} {m:Str->Option aa},P.Nodup->P[i]?=aD x->vs[i]?=aD v->kindOf x≠aD .local->
 bindC kindOf (P.zip vs) m x=aD v
 |[],_,_,_,_,h,_,_=>by simp at h
 |_::_,[],_,_,_,_,h,_=>by simp at h
 |p::P,w::vs,0,m,nd,h1,h2,hk=>by
  simp at h1 h2;subst h1;subst h2;show bindC kindOf ((p,w)::P.zip vs) m p=_;unfold bindC;rw[Nh λv hv=>(vD.mp nd).1 (List.of_mem_zip hv).1,if_neg hk];simp
 |p::P,w::vs,i+1,m,nd,h1,h2,hk=>by
  show bindC kindOf ((p,w)::P.zip vs) m x=_;unfold bindC;exact Nj (i:=i) (vD.mp nd).2 (by simpa using h1) (by simpa using h2) hk
noncomputable def start(N:List Str)(vs:List V):St:=vs.map aD++bD (N.length-vs.length) aE
noncomputable def jO(CX:qf)(P:ai)(w:aj)(K:aK)(mg:Str->Option aa)(base:aB)(N:List Str)(qual:Str)(scope:aA)(f:ah)(cd:aa)(A:ak)(outer:List Env)(s:af)(H:Hp)(E:XK):Cx where
 prog:=P
 w:=w
 K:=K
 mg:=mg
 base:=base
 A:=A.deeper (envOfC qual scope s.heap.objs.size f cd)
 N:=N
 s₀:=s
 H₀:=H
 env:=envOfC qual scope s.heap.objs.size f cd
 outer:=outer
 stack:=envOfC qual scope s.heap.objs.size f cd::outer
 ex:=[]
 calm:=true
 fn:=λ_=>true
 pn:=[]
 xe:=λe s'=>wpAny (model P w) (A.deeper (envOfC qual scope s.heap.objs.size f cd)) (leaving (envOfC qual scope s.heap.objs.size f cd) e) (λ_ s''=>CX outer H s E e s'') (λe' s''=>CX outer H s E e' s'') s'
theorem Nk{sc:aA}{n:Nat}{x:Str}(h:sc.names.lookup x=aD .cell):∃c,(cellsFrom n sc.names []).lookup x=aD c:=by have q:=PySem.W.cellsFrom_some sc.names n [] (.inl h);exact Option.isSome_iff_exists.mp q
theorem Uh{CX:qf}{P:ai}{w:aj}{K:aK}{mg:Str->Option aa}{base:aB}{N ps:List Str}{qual:Str}{scope:aA}{f:ah}{cd:aa}{A:ak}{outer:List Env}{s s1:af}{H:Hp}{E:XK}{us:List aa}{vs:List V}
 (S:cR N ps scope) (hd:A.handled=aE) (e0:rA P w K mg base A outer s H) (hl:vs.length=ps.length) (r:Vals vs us)
 (x:InCallC s s.heap.objs.size (bindL (envOfC qual scope s.heap.objs.size f cd).kindOf (ps.zip us) λ_=>aE) (cellsFrom (s.heap.objs.size+1) scope.names []) (bindC (envOfC qual scope s.heap.objs.size f cd).kindOf (ps.zip us) λ_=>aE) s1) :
 Inv (jO CX P w K mg base N qual scope f cd A outer s H E) [] (start N vs) H s1:=by
 have hpl:ps.length<=N.length:=by have:=jF List.length S.pre;rw[kP]at this;lia
 obtain⟨h1,tk,rfl,hk⟩:=x.done;have Ar:∀b:ah,b∉(jO CX P w K mg base N qual scope f cd A outer s H E).ex:=λb z=>absurd (show b∈([]:List ah)from z) (by simp);refine⟨⟨e0.mod,S.kind,rfl,rfl,aT _,λy z c h1 h2=>?_,λy hy=>?_,λy c _ h=>?_,λ_=>hd,Around.frames_deeper e0.frames,.inr ⟨rfl,rfl⟩,λb z=>absurd z (Ar b),e0.bs,e0.vP,λb _ _=>Ar b,λb z=>absurd z (Ar b),e0.iy,e0.yz⟩,
  rfl,e0.bare,Un.kept hk,⟨_,x.toInCall.ns,λi y v h1 h2 h3=>?_⟩,λy c h=>⟨_,x.cell y c h⟩,e0.hok.fresh (aT _),λy c h=>?_,λp hp=>absurd (show p∈([]:List (ah×Obj))from hp) (by simp),e0.hok.kept hk,?_⟩
 exact name_of_addr x.apart (zg h1) (zg h2);have hy:scope.names.lookup y=aD .cell\/scope.names.lookup y=aD .free:=hy;rcases hy with hy|hy
 exact Nk hy;exact absurd rfl (S.vY _ (zg hy));exact tR (x.above y c (zg h));have hi:i<vs.length:=by unfold start at h2;by_cases hi:i<vs.length;exact hi;rw[qL (by simpa using hi)]at h2;rw[List.getElem?_replicate]at h2;split at h2<;>cases h2
 have ha:vs[i]?=aD v:=by
  unfold start at h2;rw[tV (by simpa using hi),gh]at h2;cases e:vs[i]? with|none=>rw[e]at h2;cases h2|some a=>rw[e]at h2;cases h2;rfl
 obtain⟨u,hu,rv⟩:=r.get ha;have hp:ps[i]?=aD y:=by rw[<-S.pre,List.getElem?_take_of_lt (by lia)];exact h1
 have Nl:ps.Nodup:=by rw[<-S.pre];exact S.nd.sublist (List.take_sublist _ _)
 refine⟨u,rv,?_⟩;rcases S.par y (jg hp)with k|k
 exact .inl ⟨k,Ni Nl hp hu k⟩;obtain⟨c,e⟩:=Nk (n:=s.heap.objs.size+1) k;refine .inr ⟨.inl k,c,e,?_⟩;have q:=x.cell y c e;rw[Nj Nl hp hu (by show scope.names.lookup y≠_;rw[k];decide)]at q;exact q;exact e0.hok.fresh (tR (x.above y c (zg h)));unfold start;show _=N.length;rw[eW,bz,List.length_replicate];lia
theorem Au{CX:qf}{P:ai}{w:aj}{K:aK}{mg:Str->Option aa}{base:aB}{k:Nat}{f:ah}{name qual:Str}{params:Arguments}{body:List au}{scope:aA}{dV kV doc pm cdv ct oc:aa}{an od:Option ah}
 {osl:Array (Option aa)} {N ps:List Str} {sp:Sp} (lk:K.lookup f=aD ⟨oc,od,.func (PySem.W.fnOf name qual params body scope dV kV doc pm an cdv ct),osl⟩) (hcd:PySem.W.codeIn K cdv qual) (S:cR N ps scope)
 (len:∀vs H Q E,sp vs H Q E->vs.length=ps.length)
 (hbody:∀(A:ak)(outer:List Env)(s:af)(H:Hp)(vs:List V)(Q:VK)(E:XK),cM k (A.deeper (envOfC qual scope s.heap.objs.size f cdv))->sp vs H Q E->
   ∃t,kD (jO CX P w K mg base N qual scope f cdv A outer s H E) body t/\t {nx:=λ_ H'=>Q .aQ H',rt:=Q} (start N vs) H) :
 fE P w K mg base CX (k+1) f (PySem.W.fnOf name qual params body scope dV kV doc pm an cdv ct) ps sp:=by
 refine⟨len,λA outer s H args us vs Q E hr e0 hb r qg=>?_⟩;have hl:=len _ _ _ _ qg;have KX:K.In s.heap:=e0.mod.Gn.keeps λb o e=>(e0.bs b o e).1;have lim:s.heap.NoLimit:=e0.mod.nolimit.keeps λb o e=>(e0.bs b o e).1;have hkind:∀y∈ps.zip us,scope.names.lookup y.1=aD .local\/(scope.names.lookup y.1=aD .cell/\((cellsFrom (s.heap.objs.size+1) scope.names []).lookup y.1).isSome):=λbW hy=>by
  obtain⟨n,v⟩:=bW;rcases S.par n (List.of_mem_zip hy).1 with q|q;exact .inl q;exact .inr ⟨q,PySem.W.cellsFrom_some _ _ _ (.inl q)⟩
 refine codeAny_call_function hr.depth (KX _ _ lk) rfl S.co S.gen rfl (PySem.W.codeRec_of KX hcd) (hb _ _ _ _ ?_);refine wpAny_newFunctionEnv_cells S.kind hkind λenv he s1 x=>?_;subst he;refine⟨lim.keeps x.toInCall.keep,codeAny_func ?_⟩;obtain⟨t,ht,hq⟩:=hbody A outer s H vs Q E (hr.deeper _) qg;have I:Inv (jO CX P w K mg base N qual scope f cdv A outer s H E) [] (start N vs) H s1:=Uh S hr.hd e0 hl r x;refine fZ (ht [] s1 (start N vs) H _ I hq) (λfl s' hs=>?_) λe s' hs=>hs;have fin:∀{σ':St}{H':Hp}{v:V}{u:aa},Inv (jO CX P w K mg base N qual scope f cdv A outer s H E) [] σ' H' s'->RelV v u->Q v H'->CE outer P w H s Q u s':=
  λ{σ' H' v u} J rv q=>⟨v,H',J.os,J.bare,J.base,J.hok,rv,q⟩
 cases fl with
 |ret u=>
  obtain⟨v,σ',H',J,rv,q⟩:=hs;exact fin J rv q
 |next=>
  obtain⟨σ',H',J,q⟩:=hs;exact fin (v:=V.aQ) (u:=Value.none) J rfl q
 |brk=>
  obtain⟨_,_,_,q⟩:=hs;exact False.elim q
 |cont=>
  obtain⟨_,_,_,q⟩:=hs;exact False.elim q
section
variable{X:Cx}{x:Str}{p pos:Pos}{e:ao}{es:List ao}{t:TA}{id T:String}{r:List V->Hp->VK->Prop}
noncomputable def Nm(r:List V->Hp->VK->Prop)(t:TA):TE:=λσ H Q=>t σ H λvs H1=>r vs H1 Q
theorem Nn(hc:bU X (.builtin id) r)(hg:Gl X x)(hm:X.mg x=aE)(hv:bootBuiltins x=aD (.builtin id))(ha:PA X (e::es) t)(hn:autoParam (x≠"__name__") L2.aD1._auto_1)(hdb:autoParam ((x==("__debug__" : Str))=false) L2.aD1._auto_1)
 (he:autoParam (starEach (e::es) X.env=(false,eval e X.env)::starEach es X.env) L2.aR1._auto_1) (hpl:autoParam ((backTo pos (starEach es X.env)).any (·.1)=false) L2.aR1._auto_1):PE X (.Call (.Name x p) (e::es) [] pos) (Nm r t):=by
 intro pins s σ H Q I h;refine vec (qR I hg hm hv ?_ hn hdb);exact PyProof.Rows.callWith_builtin1 (aW (ha pos pins s σ H _ I h) λus s1 z9=>z9.el λvs H1 I1 r1 q1=>hc pins s1 σ H1 vs us Q I1 r1 q1) he hpl
theorem Ui(hc:bU X (.type T) r)(hg:Gl X x)(hm:X.mg x=aE)(hv:bootBuiltins x=aD (.type T))(ha:PA X (e::es) t)(hn:autoParam (x≠"__name__") L2.aD1._auto_1)(hdb:autoParam ((x==("__debug__" : Str))=false) L2.aD1._auto_1)
 (he:autoParam (starEach (e::es) X.env=(false,eval e X.env)::starEach es X.env) L2.aR1._auto_1) (hpl:autoParam ((backTo pos (starEach es X.env)).any (·.1)=false) L2.aR1._auto_1):PE X (.Call (.Name x p) (e::es) [] pos) (Nm r t):=by
 intro pins s σ H Q I h;refine vec (qR I hg hm hv ?_ hn hdb);exact vH (aW (ha pos pins s σ H _ I h) λus s1 z9=>z9.el λvs H1 I1 r1 q1=>hc pins s1 σ H1 vs us Q I1 r1 q1) he hpl
end
end L2
namespace HT
open PySem PyProof.Rows
section
variable{prog:ai}{w:aj}{A:ak}{E:aa->af->Prop}{s:af}
theorem rD{t b:ah}{vs ws:List aa}{Q:aa->af->Prop}(ht:IsTup s.heap t vs.toArray)(hb:IsTup s.heap b ws.toArray)(hv:vs≠[])
 (h1:ws=[]->Q (.ref t) s) (h2:ws≠[]->Q (.ref s.heap.objs.size) {s with heap:=s.heap.push {cls:=.type "tuple",data:=.seq (vs++ws).toArray}})
 (hsz:vs.length+ws.length<=sizeLine):wpAny (model prog w) A (binaryOp .Add (.ref t) (.ref b)) Q E s:=by
 obtain⟨⟨cls,dd,data,sl⟩,ho,hc,n,hd⟩:=id ht;obtain⟨⟨GY,dd2,data2,sl2⟩,ho2,hc2,n2,hd2⟩:=id hb;simp only at hc hd hc2 hd2;subst hc hd hc2 hd2;have e:vs.toArray++ws.toArray=(vs++ws).toArray:=by simp
 by_cases hw:ws=[]
 exact concat_meets ⟨_,ho,rfl⟩ ⟨_,ho2,rfl⟩ zh zk zF zE (zD _ _)
  (tuple_addW1 t b vs.toArray ws.toArray n n2 dd dd2 sl sl2 (by simpa using hv) (by simp[hw])) ⟨ho,ho2,h1 hw⟩
 refine concat_meets ⟨_,ho,rfl⟩ ⟨_,ho2,rfl⟩ zh zk zF zE (zD _ _)
  (tuple_addW2 t b vs.toArray ws.toArray n n2 dd dd2 sl sl2 (by simpa using hv) (by simpa using hw) (by rw[cG,cG];exact hsz)) ⟨ho,ho2,?_⟩
 rw[e];exact h2 hw
noncomputable def bF(n d:Nat):Option Int->Nat|none=>d|some v=>if v<0 then(v+ (n:Int)).toNat else min v.toNat n
theorem rE(n d k:Nat):bF n d (aD (k:Int))=min k n:=by show(if(k:Int)<0 then((k:Int)+ (n:Int)).toNat else min (k:Int).toNat n)=min k n;rw[if_neg (by lia),tZ]
theorem Uj(n d:Nat)(hd:d<=n)(o:Option Int):bF n d o<=n:=by
 cases o with
 |none=>exact hd
 |some v=>
  show(if v<0 then(v+ (n:Int)).toNat else min v.toNat n)<=n;by_cases hv:v<0;rw[if_pos hv];lia;rw[if_neg hv];exact Nat.min_le_right _ _
theorem Np(v:Int)(n d:Nat):(if v<0 then max (v+ (n:Int)) 0 else min v (n:Int))=((bF n d (aD v):Nat):Int):=by
 show(if v<0 then max (v+ (n:Int)) 0 else min v (n:Int))=(((if v<0 then(v+ (n:Int)).toNat else min v.toNat n):Nat):Int)
 by_cases hv:v<0;simp only[if_pos hv];lia;simp only[if_neg hv];lia
theorem Uk(lo hi:Option Int)(n:Nat):Builtin.Slice.sliceAdjust lo hi 1 (n:Int)=(((bF n 0 lo:Nat):Int),((bF n n hi:Nat):Int)):=by
 have h1:¬((1:Int)<0):=by lia
 unfold Builtin.Slice.sliceAdjust;simp only[h1,dF];refine Prod.ext ?_ ?_;cases lo with|none=>rfl|some v=>exact Np v n 0
 cases hi with|none=>rfl|some v=>exact Np v n n
theorem Ul(i j:Nat):Builtin.Slice.slicePlaces (i:Int) (j:Int) 1=j-i:=by
 unfold Builtin.Slice.slicePlaces;have h1:(1:Int)>0:=by lia
 simp only[h1,bZ,Int.ediv_one];split<;>lia
theorem Nq{v:aa}{o:Option Int}{Q:Option Int->af->Prop}(p:IsPart v o)(h:Q o s):wpAny (model prog w) A (Builtin.Slice.slicePartIndex v) Q E s:=by
 cases p with|none=>exact slicePart_none h|int i t=>exact slicePart_int h
theorem Nr{sl:ah}{vl vu:aa}{lo hi:Option Int}{n:Nat}{Q:Int×Int×Nat->af->Prop}(hs:s.heap.IsSliceOf sl vl vu .none)(pl:IsPart vl lo)(pu:IsPart vu hi)
 (h:Q (((bF n 0 lo:Nat):Int),1,bF n n hi-bF n 0 lo) s):wpAny (model prog w) A (Builtin.Slice.sliceApplied (.ref sl) (pure (n:Int))) Q E s:=by
 obtain⟨os,hos,hcs,hds⟩:=id hs;unfold Builtin.Slice.sliceApplied Builtin.Slice.sliceFields;refine aM (aM (kN hos hds (x:=vl) rfl (aM (kN hos hds (x:=vu) rfl (aM (kN hos hds (x:=.none) rfl (bA ?_)))))));refine aM (slicePart_none ?_);show wpAny _ _ (if((1:Int)==0)=true then _ else _) _ _ s;rw[if_neg (by decide)];refine aM (Nq pl (aM (Nq pu (aM (bA ?_)))));show wpAny _ _ (match Builtin.Slice.sliceAdjust lo hi 1 (n:Int)with|(lo,hi)=>pure (lo,(1:Int),Builtin.Slice.slicePlaces lo hi 1)) _ _ s;rw[Uk lo hi n];show wpAny _ _ (pure (((bF n 0 lo:Nat):Int),(1:Int),Builtin.Slice.slicePlaces ((bF n 0 lo:Nat):Int) ((bF n n hi:Nat):Int) 1)) _ _ s;rw[Ul];exact bA h
theorem Um(xs:Array aa)(i k:Nat):((List.range k).filterMap λ(m:Nat)=>xs[((i:Int)+ (m:Int)*1).toNat]?).toArray=((xs.toList.drop i).take k).toArray:=by
 have e:(λ(m:Nat)=>xs[((i:Int)+ (m:Int)*1).toNat]?)=λm=>xs[i+m]?:=by
  funext m;have:((i:Int)+ (m:Int)*1).toNat=i+m:=by lia
  rw[this]
 rw[e];have:=pick_run xs i k;rw[List.filterMap_map]at this;have e2:((λx=>xs[x]?)∘λx=>i+x)=λm=>xs[i+m]?:=rfl;rw[e2]at this;rw[this]
theorem fT{t sl:ah}{items:Array aa}{vl vu:aa}{lo hi:Option Int}{Q:aa->af->Prop}(ht:IsTup s.heap t items)(hs:s.heap.IsSliceOf sl vl vu .none)(pl:IsPart vl lo)(pu:IsPart vu hi)
 (hw:¬(bF items.size 0 lo=0/\bF items.size items.size hi=items.size))
 (h:Q (.ref s.heap.objs.size) {s with heap:=s.heap.push {cls:=.type "tuple",data:=.seq ((items.toList.drop (bF items.size 0 lo)).take (bF items.size items.size hi-bF items.size 0 lo)).toArray}})
 (hsz:items.size<=sizeLine):wpAny (model prog w) A (getItem (.ref t) (.ref sl)) Q E s:=by
 have lG:sizeOk (.seq ((items.toList.drop (bF items.size 0 lo)).take (bF items.size items.size hi-bF items.size 0 lo)).toArray):=by show((items.toList.drop (bF items.size 0 lo)).take (bF items.size items.size hi-bF items.size 0 lo)).toArray.size<=sizeLine;rw[cG,kP,kQ,vK];lia
 have hj:bF items.size items.size hi<=items.size:=Uj _ _ (aT _) hi;obtain⟨os,hos,hcs,hds⟩:=id hs;have GZ:s.TypeIs (.ref sl) "slice":=⟨os,hos,hcs⟩
 unfold getItem
 try with_reducible refine nO ?_
 first|refine aM (bA ?_)|skip
 refine aM (wpAny_sequenceKey ht.typeIs (by decide) ?_);refine aM (xZ (name:=Str.ofString "__getitem__") ht.typeIs yk
  (vv yk ht.typeIs entry_tuple_getitem ?_ (args_tuple_getitem _ _)))
 show wpAny _ _ (Builtin.Tuple.tupleItemsOf (.ref t) >>= _) _ _ s;refine aM (tupleItemsOf_ ht ?_);refine aM (Du GZ ?_);rw[if_pos (by decide)];refine aM (Nr hs pl pu ?_);have hno:¬((((bF items.size 0 lo:Nat):Int)==0&& (1:Int)==1&& (bF items.size items.size hi-bF items.size 0 lo)==items.size)):=by intro q;rw[bE,bE]at q;have q1:((bF items.size 0 lo:Nat):Int)=0:=eq_of_beq q.1.1;have q2:bF items.size items.size hi-bF items.size 0 lo=items.size:=eq_of_beq q.2;exact hw ⟨by lia,by lia⟩
 show wpAny _ _ (if(((bF items.size 0 lo:Nat):Int)==0&& (1:Int)==1&& (bF items.size items.size hi-bF items.size 0 lo)==items.size)=true then _ else _) _ _ s;rw[if_neg hno,Um];first
  |exact aM (m:=Builtin.Tuple.tupleExact _) (tO (bA ⟨_,rfl,bA h⟩) lG)
  |exact aM (m:=Builtin.Tuple.tupleExact _) (tO (aM (bA (bA ⟨_,rfl,bA h⟩))) lG)
  |exact aM (aM (m:=Builtin.Tuple.tupleExact _) (tO (bA (bA ⟨_,rfl,bA h⟩)) lG))
  |exact aM (aM (m:=Builtin.Tuple.tupleExact _) (tO (bA ⟨_,rfl,bA h⟩) lG))
end
end HT
namespace L2
open PySem PySem.Spec PyProof.Rows
noncomputable abbrev TO:=St->Hp->(Option Int->Hp->Prop)->Prop
noncomputable def PO(X:Cx)(e:Option ao)(t:TO):Prop:=
 ∀(pins:List (ah×Obj))(s:af)(σ:St)(H:Hp)(Q:Option Int->Hp->Prop),Inv X pins σ H s->t σ H Q->
  wpAny (model X.prog X.w) X.A (evalPart e X.env) (λu s'=>∃o H',Inv X pins σ H' s'/\IsPart u o/\Q o H') X.xe s
noncomputable def Uo:TO:=λ_ H Q=>Q aE H
noncomputable def Av(t:TE):TO:=λσ H Q=>t σ H λx H1=>∃i,x=.int i/\Q (aD i) H1
section
variable{X:Cx}{e:ao}{te:TE}{lo hi:Option ao}{tl th:TO}{pos p2:Pos}
theorem Up:PO X aE Uo:=by intro pins s σ H Q I h;rw[evalPart_none];exact bA ⟨aE,H,I,.none,h⟩
theorem Uq(h:PE X e te):PO X (aD e) (Av te):=by intro pins s σ H Q I hw;rw[evalPart_some];refine aW (h pins s σ H _ I hw) λu s1 z9=>z9.el λx H1 I1 r1 q1=>?_;obtain⟨i,rfl,q⟩:=q1;obtain⟨t,rfl⟩:=r1;exact⟨aD i,H1,I1,.int i t,q⟩
noncomputable def rF(X:Cx)(r:V->Option Int->Option Int->Hp->VK->Prop):Prop:=
 ∀(pins:List (ah×Obj))(s:af)(σ:St)(H:Hp)(x:V)(v vl vu:aa)(lo hi:Option Int)(sl:ah)(Q:VK),Inv X pins σ H s->RelV x v->s.heap.IsSliceOf sl vl vu .none->IsPart vl lo->IsPart vu hi->r x lo hi H Q->
  ∃T id,typeLookup (.type T) "__getitem__" = pure (aD (.builtin id))/\s.TypeIs v T/\wpAny (model X.prog X.w) X.A (getItem v (.ref sl)) (EP X pins σ Q) X.xe s
theorem rF.or{r r':V->Option Int->Option Int->Hp->VK->Prop}(h:rF X r)(h':rF X r'):rF X (λx lo hi H Q=>r x lo hi H Q\/r' x lo hi H Q):=by
 intro pins s σ H x v vl vu lo hi sl Q I rx hs pl pu q;rcases q with q|q
 exact h pins s σ H x v vl vu lo hi sl Q I rx hs pl pu q;exact h' pins s σ H x v vl vu lo hi sl Q I rx hs pl pu q
noncomputable def Ur(r:V->Option Int->Option Int->Hp->VK->Prop)(te:TE)(tl th:TO):TE:=λσ H Q=>te σ H λx H1=>tl σ H1 λl H2=>th σ H2 λu H3=>r x l u H3 Q
theorem Us{r:V->Option Int->Option Int->Hp->VK->Prop}(hr:rF X r)(he:PE X e te)(hl:PO X lo tl)(hu:PO X hi th):PE X (.Subscript e (.Slice lo hi aE p2) pos) (Ur r te tl th):=by intro pins s σ H Q I h;refine Subscript_ (aW (he pins s σ H _ I h) λv s1 z9=>z9.el λx H1 I1 r1 q1=>?_);refine wpAny_Slice (aW (hl pins s1 σ H1 _ I1 q1) λvl s2 ⟨l,H2,I2,pl,q2⟩=>aW (hu pins s2 σ H2 _ I2 q2) λvu s3 bW=>?_);obtain⟨u,H3,I3,pu,q3⟩:=bW;rw[evalPart_none];refine bA ?_;have I4:Inv X pins σ H3 {s3 with heap:=s3.heap.push {cls:=.type "slice",data:=.fields #[vl,vu,.none]}}:=I3.kept (t':=s3.toks) λb ob q=>cu _ q;obtain⟨T,id,hT,ht,hg⟩:=hr pins {s3 with heap:=s3.heap.push {cls:=.type "slice",data:=.fields #[vl,vu,.none]}} σ H3 x v vl vu l u s3.heap.objs.size Q I4 r1 (Heap.IsSliceOf.new ..) pl pu q3;show wpAny (model X.prog X.w) X.A (subscriptTail e (.Slice lo hi aE p2) v (.ref s3.heap.objs.size)) (EP X pins σ Q) X.xe {s3 with heap:=s3.heap.push {cls:=.type "slice",data:=.fields #[vl,vu,.none]}};exact tail_any (ops:=[.ref s3.heap.objs.size,v]) ht hT hg (by with_unfolding_all rfl)
noncomputable def jP(xs:List V)(lo hi:Option Int):List V:=(xs.drop (HT.bF xs.length 0 lo)).take (HT.bF xs.length xs.length hi-HT.bF xs.length 0 lo)
theorem Nt(xs:List V)(lo hi:Option Int):(jP xs lo hi).length<=xs.length:=by unfold jP;rw[kP,kQ];lia
noncomputable def Aw(K:aK):V->Option Int->Option Int->Hp->VK->Prop:=λx lo hi H Q=>∃a xs,x=.ref a/\bX K H a xs/\
 ¬(HT.bF xs.length 0 lo=0/\HT.bF xs.length xs.length hi=xs.length)/\∀p,H p=aE->Q (.ref p) (upd H p (.tup (jP xs lo hi)))
theorem Ut:rF X (Aw X.K):=by
 intro pins s σ H x v vl vu lo hi sl Q I rx hs pl pu h;obtain⟨a,xs,rfl,hx,hw,q⟩:=h;cases rx;obtain⟨its,r,ht,hz⟩:=I.tuple hx;have hlen:its.toArray.size=xs.length:=by rw[cG];exact r.length.symm
 refine⟨"tuple",_,yk.lookup,ht.typeIs,?_⟩;refine HT.fT ht hs pl pu (by rw[hlen];exact hw) ?_ (by rw[hlen];exact hz);rw[hlen];refine⟨.ref s.heap.objs.size,_,I.laid (t':=s.toks) (o:=.tup (jP xs lo hi)) (λb ob q=>cu _ q) (aT _) ?_,rfl,q _ (I.hok.fresh (aT _))⟩;exact⟨ie (Nt xs lo hi) hz,_,(r.drop (HT.bF xs.length 0 lo)).take (HT.bF xs.length xs.length hi-HT.bF xs.length 0 lo),kR.new _ _⟩
noncomputable def lH(K:aK):R2:=λx y H Q=>∃a b xs ys,x=.ref a/\y=.ref b/\bX K H a xs/\bX K H b ys/\xs≠[]/\xs.length+ys.length<=sizeLine/\
 (ys=[]->Q (.ref a) H)/\(ys≠[]->∀p,H p=aE->Q (.ref p) (upd H p (.tup (xs++ys))))
theorem Vals.eU{xs:List V}{us:List aa}(r:Vals xs us):us=[]↔xs=[]:=by
 cases r with|nil=>simp|cons _ _=>simp
theorem Uu:cQ X (binaryOp .Add) (lH X.K):=by intro pins s σ H x y v u Q I rx ry h;obtain⟨a,b,xs,ys,rfl,rfl,ha,hb,hx,hz,q1,q2⟩:=h;cases rx;cases ry;obtain⟨its,r1,p1,_⟩:=I.tuple ha;obtain⟨its2,r2,p2,_⟩:=I.tuple hb;refine HT.rD p1 p2 (λz=>hx (r1.eU.mp z)) (λz=>⟨.ref a,H,I,rfl,q1 (r2.eU.mp z)⟩) (λz=>?_) (by rw[<-r1.length,<-r2.length];exact hz);refine⟨.ref s.heap.objs.size,_,I.laid (t':=s.toks) (o:=.tup (xs++ys)) (λb ob q=>cu _ q) (aT _) ?_,rfl,q2 (λw=>z (r2.eU.mpr w)) _ (I.hok.fresh (aT _))⟩;exact⟨by rw[eW];exact hz,_,r1.append r2,kR.new _ _⟩
end
noncomputable def gR(n:Nat)(i:Int):Option Nat:=if 0<=i then(if i<n then aD i.toNat else aE)else if -(n:Int)<=i then aD (i+n).toNat else aE
noncomputable def cZ{α:Type}(xs:List α)(i:Int):Option α:=(gR xs.length i).bind λj=>xs[j]?
theorem Nu{n:Nat}{i:Int}{j:Nat}(h:gR n i=aD j):seqIndex? i n=aD j/\j<n/\-(n:Int)<=i/\i<n:=by unfold gR at h;by_cases h0:0<=i;rw[if_pos h0]at h;by_cases h1:i<n;rw[if_pos h1]at h;have e:i.toNat=j:=mG h;exact⟨by rw[Dw h0 h1,e],by lia,by lia,h1⟩;rw[if_neg h1]at h;cases h;rw[if_neg h0]at h;by_cases h1:-(n:Int)<=i;rw[if_pos h1]at h;have e:(i+n).toNat=j:=mG h;exact⟨by rw[Dv (by lia) h1,e],by lia,h1,by lia⟩;rw[if_neg h1]at h;cases h
theorem Eh{α:Type}{xs:List α}{i:Int}{v:α}(h:cZ xs i=aD v):∃j,seqIndex? i xs.length=aD j/\xs[j]?=aD v/\j<xs.length/\-(xs.length:Int)<=i/\i<xs.length:=by
 unfold cZ at h;cases e:gR xs.length i with
 |none=>rw[e]at h;cases h
 |some j=>
  rw[e]at h;obtain⟨h1,h2,h3,h4⟩:=Nu e;exact⟨j,h1,h,h2,h3,h4⟩
theorem iN{α:Type}{xs:List α}{j:Nat}{v:α}(h:xs[j]?=aD v):cZ xs (j:Int)=aD v:=by
 have hj:j<xs.length:=(jJ.mp h).1;have e:gR xs.length (j:Int)=aD j:=by unfold gR;rw[if_pos (by lia),if_pos (by lia)];simp
 unfold cZ;rw[e];exact h
noncomputable def G0(b:ao):Prop:=∀o i,subscripted b false o i=operate [o,i] (getItem o i)
noncomputable def qh(X:Cx)(r:R2):Prop:=
 ∀(value slice:ao)(pins:List (ah×Obj))(s:af)(σ:St)(H:Hp)(x y:V)(v u:aa)(Q:VK),Inv X pins σ H s->RelV x v->RelV y u->r x y H Q->
  subscripted slice false v u=operate [v,u] (getItem v u)->wpAny (model X.prog X.w) X.A (subscriptTail value slice v u) (EP X pins σ Q) X.xe s
noncomputable def Nv(X:Cx)(id:String)(r:V->List V->Hp->VK->Prop):Prop:=
 ∀(pins:List (ah×Obj))(s:af)(σ:St)(H:Hp)(x:V)(xs:List V)(v:aa)(us:List aa)(Q:VK),Inv X pins σ H s->RelV x v->Vals xs us->r x xs H Q->
  wpAny (model X.prog X.w) X.A (call (.builtin id) (v::us)) (EP X pins σ Q) X.xe s
section
variable{X:Cx}{a b:ao}{ta tb:TE}{pos:Pos}
theorem qh.or{r r':R2}(h:qh X r)(h':qh X r'):qh X (λx y H Q=>r x y H Q\/r' x y H Q):=by
 intro value slice pins s σ H x y v u Q I rx ry q hs;rcases q with q|q
 exact h value slice pins s σ H x y v u Q I rx ry q hs;exact h' value slice pins s σ H x y v u Q I rx ry q hs
theorem Ax{r:R2}(hr:qh X r)(ha:PE X a ta)(hb:PE X b tb)(hs:G0 b):PE X (.Subscript a b pos) (Ec r ta tb):=by intro pins s σ H Q I h;exact Subscript_ (vV ha hb I h λv u s2 x y H2 I2 rx ry q=>hr a b pins s2 σ H2 x y v u Q I2 rx ry q (hs _ _))
noncomputable def vZ(K:aK):R2:=λx y H Q=>∃p xs i v,x=.ref p/\y=.int i/\cC K H p xs/\cZ xs i=aD v/\Q v H
noncomputable def Ay(K:aK):R2:=λx y H Q=>∃p xs i v,x=.ref p/\y=.int i/\bX K H p xs/\cZ xs i=aD v/\Q v H
noncomputable def Az:R2:=λx y H Q=>∃z i c,x=.str z/\y=.int i/\z.length<=sizeLine/\cZ z.cps.toList i=aD c/\Q (.str ⟨#[c]⟩) H
theorem Uv:qh X (vZ X.K):=by
 intro value slice pins s σ H x y v u Q I rx ry h hs;obtain⟨p,xs,i,z,rfl,rfl,hq,he,q⟩:=h;cases rx;obtain⟨t,rfl⟩:=ry;obtain⟨its,r,pl,hz⟩:=I.list hq;obtain⟨j,h1,h2,h3,h4,h5⟩:=Eh he;obtain⟨w,ew,rw'⟩:=r.get h2;have hl:=r.length;have hn:=uc;have fin:EP X pins σ Q w s:=⟨z,H,I,rw',q⟩
 by_cases h0:0<=i;have hj:i.toNat=j:=by rw[Dw h0 h5]at h1;exact mG h1
 exact item_listR pl.isList h0 (by lia) (by rw[hj];simpa using ew) fin hs;have hj:(i+ (its.toArray.size:Int)).toNat=j:=by rw[Dv (by lia) h4]at h1;rw[cG,<-hl];exact mG h1
 exact subscriptTail_builtinR (x:=w) pl.isList.typeIs slot_list_getitem.lookup
  (wpAny_getItem_list_neg (Q:=λr s'=>r=w/\EP X pins σ Q r s') pl.isList (by lia) (by rw[cG]<;>lia) (by lia) (by rw[hj];simpa using ew) ⟨rfl,fin⟩) hs
theorem Uw:qh X (Ay X.K):=by
 intro value slice pins s σ H x y v u Q I rx ry h hs;obtain⟨p,xs,i,z,rfl,rfl,hq,he,q⟩:=h;cases rx;obtain⟨t,rfl⟩:=ry;obtain⟨its,r,pl,hz⟩:=I.tuple hq;obtain⟨j,h1,h2,h3,h4,h5⟩:=Eh he;obtain⟨w,ew,rw'⟩:=r.get h2;have hl:=r.length;have hn:=uc;have fin:EP X pins σ Q w s:=⟨z,H,I,rw',q⟩
 exact subscriptTail_builtinR (x:=w) pl.typeIs slot_tuple_getitem.lookup
  (getItem_tuple (j:=j) (Q:=λr s'=>r=w/\EP X pins σ Q r s') pl (by lia) (by lia) (by rw[cG,<-hl];exact h1) (by simpa using ew) ⟨rfl,fin⟩) hs
theorem Ux:qh X Az:=by
 intro value slice pins s σ H x y v u Q I rx ry h hs;obtain⟨z,i,c,rfl,rfl,hz,he,q⟩:=h;obtain⟨t,rfl⟩:=rx;obtain⟨t',rfl⟩:=ry;obtain⟨j,h1,h2,h3,h4,h5⟩:=Eh he;have hl:z.cps.toList.length=z.length:=by simp[Str.length]
 rw[hl]at h1 h4 h5;have hn:=uc;exact tail_any (typeIs_str s z t) slot_str_getitem.lookup (getItem_str (c:=c) (by
  have e1:decide (i < -(2 ^ 63:Int))=false:=gX (by lia);have e2:decide (i>=2 ^ 63)=false:=gX (by lia);rw[e1,e2,Bool.or_false]) (by rw[h1];simpa using h2) ⟨.str ⟨#[c]⟩,H,I.tok _,⟨_,rfl⟩,q⟩) hs
theorem Uy(its:List aa)(n j:Nat)(u:aa):Obj.mapSeq (·.setIfInBounds j u) {cls:=.type "list",data:=.seq its.toArray n} ={cls:=.type "list",data:=.seq (its.set j u).toArray n}:=by simp[Obj.mapSeq]
theorem Inv.lst{pins:List (ah×Obj)}{σ:St}{H:Hp}{s:af}{p:ah}{xs:List V}(I:Inv X pins σ H s)(h:H p=aD (.lst xs)) :
 ∃(its:List aa) (n:Nat),Vals xs its/\s.heap.get? p=aD {cls:=.type "list",data:=.seq its.toArray n}/\xs.length<=sizeLine:=by
 obtain⟨z,its,n,r,e⟩:=I.hok p _ h;exact⟨its,n,r,e,z⟩
theorem Inv.v8{pins:List (ah×Obj)}{σ:St}{H:Hp}{s:af}{p:ah}{xs ys:List V}{its its':List aa}{n n':Nat}{f:Obj->Obj}(I:Inv X pins σ H s)(h:H p=aD (.lst xs))
 (ho:s.heap.get? p=aD {cls:=.type "list",data:=.seq its.toArray n}) (hf:f {cls:=.type "list",data:=.seq its.toArray n} ={cls:=.type "list",data:=.seq its'.toArray n'}) (r:Vals ys its') (hz:ys.length<=sizeLine) (t:Nat) :
 Inv X pins σ (upd H p (.lst ys)) {s with heap:=s.heap.update p f,toks:=t}:=by
 have e:(s.heap.update p f).get? p=aD {cls:=.type "list",data:=.seq its'.toArray n'}:=by rw[Heap.get?_update_self f ho (by rw[hf]<;>rfl),hf]
 refine I.write (x:=p) (e:=p) (by rw[h];trivial) (.inl rfl) (λb u hb q=>(Heap.get?_update_other _ _ (eX hb)).trans q) ⟨_,e⟩ ?_;exact⟨hz,its',n',r,e⟩
noncomputable def AA:V->V->V->Hp->(Hp->Prop)->Prop:=λo i v H Q=>∃p xs k j,o=.ref p/\i=.int k/\H p=aD (.lst xs)/\gR xs.length k=aD j/\Q (upd H p (.lst (xs.set j v)))
theorem Nx:kU X AA:=by
 intro pins s σ H o i v ov iv u Q I ro ri rv h;obtain⟨p,xs,k,j,rfl,rfl,hp,hj,q⟩:=h;cases ro;obtain⟨t,rfl⟩:=ri;obtain⟨its,n,r,ho,hz⟩:=I.lst hp;obtain⟨h1,h2,h3,h4⟩:=Nu hj;have hl:=r.length;have hn:=uc;have I':Inv X pins σ (upd H p (.lst (xs.set j v))) {s with heap:=s.heap.update p (Obj.mapSeq (·.setIfInBounds j u))}:=
  I.v8 hp ho (Uy its n j u) (r.set rv j) (by rw[vE];exact hz) s.toks
 by_cases h0:0<=k;have hk:k.toNat=j:=by rw[Dw h0 h4]at h1;exact mG h1
 exact PySem.W.ki_setAt ho h0 (by lia) (by rw[cG,<-hl];exact h4) (by rw[hk];exact⟨_,I',q⟩);have hk:(k+ (its.toArray.size:Int)).toNat=j:=by rw[Dv (by lia) h3]at h1;rw[cG,<-hl];exact mG h1
 exact PySem.W.ki_setBack ho (by lia) (by rw[cG,<-hl];exact h3) (by lia) (by rw[hk];exact⟨_,I',q⟩)
theorem Uz(lo hi:Option Int)(n:Nat):(sliceBounds lo hi aE n).1=((HT.bF n 0 lo:Nat):Int)/\(sliceBounds lo hi aE n).2.1=((HT.bF n n hi:Nat):Int)/\(sliceBounds lo hi aE n).2.2=1:=by
 refine⟨?_,?_,rfl⟩;cases lo with
 |none=>simp[sliceBounds,HT.bF]
 |some i=>
  simp only[sliceBounds,HT.bF,Option.getD_none,show(1:Int)>0 by decide,bZ];by_cases h:i<0;simp only[h,bZ]<;>lia;simp only[h,dF]<;>lia
 cases hi with
 |none=>simp[sliceBounds,HT.bF]
 |some i=>
  simp only[sliceBounds,HT.bF,Option.getD_none,show(1:Int)>0 by decide,bZ];by_cases h:i<0;simp only[h,bZ]<;>lia;simp only[h,dF]<;>lia
theorem UA(its:List aa)(lo hi:Option Int):slicePick its.toArray lo hi aE=((its.drop (HT.bF its.length 0 lo)).take (HT.bF its.length its.length hi-HT.bF its.length 0 lo)).toArray:=by obtain⟨h1,h2,h3⟩:=Uz lo hi its.toArray.size;unfold slicePick;rw[h1,h2,h3];simp only[sliceRange_one,pick_run,cG]<;>rfl
noncomputable def AB(K:aK):V->Option Int->Option Int->Hp->VK->Prop:=λx lo hi H Q=>∃a xs,x=.ref a/\cC K H a xs/\∀p,H p=aE->Q (.ref p) (upd H p (.lst (jP xs lo hi)))
theorem UB:rF X (AB X.K):=by intro pins s σ H x v vl vu lo hi sl Q I rx hs pl pu h;obtain⟨a,xs,rfl,hx,q⟩:=h;cases rx;obtain⟨its,r,ht,hz⟩:=I.list hx;have hlen:=r.length;refine⟨"list",_,slot_list_getitem.lookup,ht.isList.typeIs,?_⟩;refine wpAny_getItem_list_slice ht.isList hs pl pu .none (by simp) ?_ (by rw[cG]<;>lia);rw[UA,<-hlen];refine⟨.ref s.heap.objs.size,_,I.laid (t':=s.toks) (o:=.lst (jP xs lo hi)) (λb ob q=>cu _ q) (aT _) ?_,rfl,q _ (I.hok.fresh (aT _))⟩;exact⟨ie (Nt xs lo hi) hz,_,0,(r.drop (HT.bF xs.length 0 lo)).take (HT.bF xs.length xs.length hi-HT.bF xs.length 0 lo),iJ _ rfl⟩
theorem UC:bU X (.builtin "len") (λxs H Q=>∃p ys,xs=[.ref p]/\(cC X.K H p ys\/bX X.K H p ys)/\Q (.int ys.length) H):=by
 intro pins s σ H xs us Q I r h;obtain⟨p,ys,rfl,hq,q⟩:=h;obtain⟨u,rfl,rx⟩:=vals1 r;cases rx;have hn:=uc;rcases hq with hq|hq
 obtain⟨its,r',pl,hz⟩:=I.list hq;have hlen:=r'.length;exact Calls.call_len_list pl.isList (by simp only[cG]<;>lia) ⟨.int ys.length,H,I.tok _,⟨s.toks+1,by rw[cG,hlen]⟩,q⟩;obtain⟨its,r',pl,hz⟩:=I.tuple hq;have hlen:=r'.length;exact len_tuple pl (by simp only[cG]<;>lia) ⟨.int ys.length,H,I.tok _,⟨s.toks+1,by rw[cG,hlen]⟩,q⟩
theorem bU.or{f:aa}{r r':List V->Hp->VK->Prop}(h:bU X f r)(h':bU X f r'):bU X f (λxs H Q=>r xs H Q\/r' xs H Q):=by
 intro pins s σ H xs us Q I rs q;rcases q with q|q
 exact h pins s σ H xs us Q I rs q;exact h' pins s σ H xs us Q I rs q
theorem UD:bU X (.type "list") (λxs H Q=>∃p ys,xs=[.ref p]/\(cC X.K H p ys\/bX X.K H p ys)/\∀l,H l=aE->Q (.ref l) (upd H l (.lst ys))):=by
 intro pins s σ H xs us Q I r h;obtain⟨p,ys,rfl,hq,q⟩:=h;obtain⟨u,rfl,rx⟩:=vals1 r;cases rx;have fin:∀(its:List aa),Vals ys its->ys.length<=sizeLine->∀(h':aB)(c':Nat),(∀b o',s.heap.get? b=aD o'->h'.get? b=aD o')->
  h'.get? s.heap.objs.size=aD {cls:=.type "list",dict:=aE,data:=.seq its.toArray c',slots:=#[]}->EP X pins σ Q (.ref s.heap.objs.size) {s with heap:=h'}:=λits r' hz h' c' kp e=>
  ⟨.ref s.heap.objs.size,_,I.laid (t':=s.toks) kp (aT _) (show aZ X.prog X.w _ h' _ (.lst ys)from⟨hz,its,c',r',e⟩),rfl,q _ (I.hok.fresh (aT _))⟩
 rcases hq with hq|hq;obtain⟨its,r',pl,hz⟩:=I.list hq;have hlen:=r'.length;obtain⟨o,ho,hc,n,hd⟩:=pl.isList;exact call_list_seq p (.inl rfl) ho hc hd (λh' c' kp e=>fin its r' hz h' c' kp e) (by simp only[cG]<;>lia);obtain⟨its,r',pl,hz⟩:=I.tuple hq;have hlen:=r'.length;obtain⟨o,ho,hc,n,hd⟩:=pl;exact call_list_seq p (.inr rfl) ho hc hd (λh' c' kp e=>fin its r' hz h' c' kp e) (by simp only[cG]<;>lia)
theorem UE:bU X (.type "tuple") (λxs H Q=>∃p ys,xs=[.ref p]/\((cC X.K H p ys/\∀l,H l=aE->Q (.ref l) (upd H l (.tup ys)))\/(bX X.K H p ys/\Q (.ref p) H))):=by
 intro pins s σ H xs us Q I r h;obtain⟨p,ys,rfl,h⟩:=h;obtain⟨u,rfl,rx⟩:=vals1 r;cases rx;rcases h with⟨hq,q⟩|⟨hq,q⟩
 obtain⟨its,r',pl,hz⟩:=I.list hq;have hlen:=r'.length;refine call_tuple_list pl.isList (λh' kp=>?_) (by simp only[cG]<;>lia);have I1:Inv X pins σ H {s with heap:=h'}:=I.kept (t':=s.toks) kp;have I2:Inv X pins σ (upd H h'.objs.size (.tup ys)) {s with heap:=h'.push {cls:=.type "tuple",data:=.seq its.toArray}}:=
  I1.laid (t':=s.toks) (λb o e=>cu _ e) (aT _) (show aZ X.prog X.w _ _ _ (.tup ys)from⟨hz,its,r',kR.new _ _⟩)
 exact⟨.ref h'.objs.size,_,I2,rfl,q _ (I1.hok.fresh (aT _))⟩;obtain⟨its,r',pl,hz⟩:=I.tuple hq;exact call_tuple_same pl ⟨.ref p,H,I,rfl,q⟩
noncomputable def Ny(K:aK)(T:String)(x:V)(H:Hp):Prop:=match x with
 |.str _=>T = "str"
 |.int _=>T = "int"
 |.ref p=>(T = "list"/\∃xs,cC K H p xs)\/(T = "tuple"/\∃xs,bX K H p xs)\/
  (T = "dict"/\((∃kvs,H p=aD (.dK kvs))\/∃kvs,H p=aD (.dT kvs)))\/(T = "set"/\∃S n,H p=aD (.set S n))
 |_=>False
theorem UG{pins:List (ah×Obj)}{σ:St}{H:Hp}{s:af}{T:String}{x:V}{v:aa}(I:Inv X pins σ H s)(r:RelV x v)(ty:Ny X.K T x H) :
 s.TypeIs v T/\∀a,v=.ref a->∃ob,s.heap.get? a=aD ob/\ob.dict=aE:=by
 cases x with
 |str z=>
  obtain⟨t,rfl⟩:=r;cases(show T = "str"from ty);exact⟨typeIs_str s z t,λ_ e=>nomatch e⟩
 |int i=>
  obtain⟨t,rfl⟩:=r;cases(show T = "int"from ty);exact⟨typeIs_int s i t,λ_ e=>nomatch e⟩
 |ref p=>
  cases r;rcases ty with⟨rfl,xs,hq⟩|⟨rfl,xs,hq⟩|⟨rfl,hk⟩|⟨rfl,S,n,hk⟩
  obtain⟨its,_,pl,_⟩:=I.list hq;refine⟨pl.isList.typeIs,λa e=>?_⟩;cases e;obtain⟨o,n,e,c,hd,_⟩:=pl;exact⟨o,e,hd⟩;obtain⟨its,_,⟨o,h1,h2,_,h3⟩,_⟩:=I.nW hq;refine⟨⟨o,h1,h2⟩,λa e=>?_⟩;cases e;exact⟨o,h1,h3⟩;have z:∃o,s.heap.get? p=aD o/\o.ExactDict:=by rcases hk with⟨kvs,hk⟩|⟨kvs,hk⟩;obtain⟨_,_,_,_,o,_,_,e,ex,_⟩:=I.hok p _ hk;exact⟨o,e,ex⟩;obtain⟨_,_,_,_,o,_,_,e,ex,_⟩:=I.hok p _ hk;exact⟨o,e,ex⟩
  obtain⟨o,e,ex⟩:=z;refine⟨⟨o,e,ex.1⟩,λa e2=>?_⟩;cases e2;exact⟨o,e,ex.2.1⟩;obtain⟨o,_,_,_,e,ex,_⟩:=I.hok p _ hk;refine⟨⟨o,e,ex.1⟩,λa e2=>?_⟩;cases e2;exact⟨o,e,ex.2.1⟩
 |_=>exact False.elim ty
noncomputable def UH(K:aK)(T:String)(r:V->List V->Hp->VK->Prop)(to:TE)(t:TA):TE:=λσ H Q=>to σ H λx H1=>Ny K T x H1/\t σ H1 λxs H2=>r x xs H2 Q
variable{o e:ao}{es:List ao}{to:TE}{t:TA}{name:Str}{apos cpos:Pos}{T id:String}{r:V->List V->Hp->VK->Prop}
theorem AD(pa:PlainAttrs T)(slot:Slot T name id)(hty:typeOf (.builtin id)=pure (.type "method_descriptor"))(hm:Nv X id r)(ho:PE X o to)(ha:PA X (e::es) t)
 (hbase:autoParam (attributeBase o name X.env (eval o X.env)=eval o X.env) L2.aR1._auto_1)
 (hfew:autoParam (((backTo cpos (starEach (e::es) X.env)).all (λx=>!x.1)&& (backToKw cpos (keywordEach [] X.env)).all (λx=>x.1.isSome)
   && decide ((e::es).length+ ([]:List Keyword).length+ (if([]:List Keyword).isEmpty then 0 else 1)<30))=true) L2.aR1._auto_1)
 (hline:autoParam ((apos.endLine==cpos.line)=true) L2.aR1._auto_1) (hs:autoParam (starEach (e::es) X.env=(false,eval e X.env)::starEach es X.env) L2.aR1._auto_1) (hplain:autoParam ((backTo cpos (starEach es X.env)).any (·.1)=false) L2.aR1._auto_1) :
 PE X (.Call (.Attribute o name apos) (e::es) [] cpos) (UH X.K T r to t):=by
 intro pins s σ H Q I h;refine wpAny_Call_method_late hbase hfew hline rfl (aW (ho pins s σ H _ I h) λv s1 z9=>z9.el λx H1 I1 r1 bW=>?_);obtain⟨ty,q1⟩:=bW;obtain⟨h1,h2⟩:=UG I1 r1 ty;refine⟨T,id,pa,slot,hty,h1,h2,?_⟩;have hA:=ha cpos pins s1 σ H1 _ I1 q1;rw[hs]at hA ⊢;refine Calls.callWith_builtin (by show(false|| (backTo cpos (starEach es X.env)).any (·.1))=false;rw[hplain]<;>rfl) (Calls.evalArgs_plain ?_);exact aW hA λus s2 z9=>z9.el λvs H2 I2 r2 q2=>hm pins s2 σ H2 x vs v us Q I2 r1 r2 q2
/- xs.append(e),list.index on a AE tuple .. are Nv facts of 06m -/
end
noncomputable def Nz(X:Cx)(id:String)(r:V->List V->Hp->VK->Prop):Prop:=
 ∀(pins:List (ah×Obj))(s:af)(σ:St)(H:Hp)(x:V)(xs:List V)(v:aa)(us:List aa)(Q:VK),Inv X pins σ H s->RelV x v->Vals xs us->r x xs H Q->
  wpAny (model X.prog X.w) X.A (call (.builtin id) (v::us)) (EP X pins σ Q) X.xe s
theorem Vals.one:∀{x:V} {us:List aa},Vals [x] us->∃u,us=[u]/\RelV x u|_,_,.cons r .nil=>⟨_,rfl,r⟩
theorem Vals.rep{xs:List V}{us:List aa}(h:Vals xs us):∀k:Nat,Vals (bD k xs).flatten (bD k us).flatten
 |0=>.nil
 |k+1=>by
  rw[ku,ku,p9,p9];exact Vals.append h (Vals.rep h k)
theorem NB(its:List aa):∀(k:Nat) (acc:List aa),
 List.foldl (λx1 x2=>x1++x2) acc.toArray (bD k its.toArray)=(acc++(bD k its).flatten).toArray
 |0,acc=>by simp
 |k+1,acc=>by
  have e:acc.toArray++its.toArray=(acc++its).toArray:=by simp
  have e2:(acc++its)++(bD k its).flatten=acc++(bD (k+1) its).flatten:=by rw[ku,p9,jK]
  rw[<-e2,<-NB its k (acc++its),<-e,ku,DM]
section
variable{X:Cx}{pins:List (ah×Obj)}{σ:St}{H:Hp}{s:af}{l b:ah}{xs ys zs:List V}
theorem Inv.v9{its its':List aa}{n:Nat}{f:Array aa->Array aa}{t':Nat}(I:Inv X pins σ H s)(hH:H l=aD (.lst xs))
 (e:s.heap.get? l=aD {cls:=.type "list",data:=.seq its.toArray n}) (hf:f its.toArray=its'.toArray) (hv:Vals ys its') (hz:ys.length<=sizeLine) :
 Inv X pins σ (upd H l (.lst ys)) {s with heap:=s.heap.update l (Obj.mapSeq f),toks:=t'}:=by
 have q:=PySem.IsL.update e f;rw[hf]at q;refine I.write (x:=l) (e:=l) (by rw[hH];exact trivial) (.inl rfl) (λb' u hb hu=>(Heap.get?_update_other s.heap (Obj.mapSeq f) (eX hb)).trans hu) ⟨_,q⟩ ?_;exact⟨hz,its',_,hv,q⟩
theorem Inv.G1{its:List aa}{t':Nat}(I:Inv X pins σ H s)(hv:Vals ys its)(hz:ys.length<=sizeLine) :
 Inv X pins σ (upd H s.heap.objs.size (.lst ys)) {s with heap:=s.heap.push {cls:=.type "list",data:=.seq its.toArray},toks:=t'}:=
 I.laid (λ_ _ q=>cu _ q) (aT _) ⟨hz,its,0,hv,iJ _ rfl⟩
theorem Inv.fresh(I:Inv X pins σ H s):H s.heap.objs.size=aE:=I.hok.fresh (aT _)
theorem Inv.dH(I:Inv X pins σ H s)(hH:H l=aD (.lst xs)):xs.length<=sizeLine/\∃(its:List aa) (n:Nat),Vals xs its/\xs.length=its.length/\s.heap.get? l=aD {cls:=.type "list",data:=.seq its.toArray n}:=by obtain⟨z,its,n,r,e⟩:=I.hok l _ hH;exact⟨z,its,n,r,r.length,e⟩
theorem NC{n:Nat}(h:n<=sizeLine):Builtin.List.listTooLong n=false:=by unfold Builtin.List.listTooLong;exact gX (by lia)
end
section
variable{X:Cx}
noncomputable def UI:V->List V->Hp->VK->Prop:=λx vs H Q=>∃l xs y,x=.ref l/\vs=[y]/\H l=aD (.lst xs)/\xs.length<sizeLine/\Q .aQ (upd H l (.lst (xs++[y])))
theorem G3:Nz X "list.append" UI:=by intro pins s σ H x vs v us Q I rx rv h;obtain⟨l,xs,y,rfl,rfl,hH,hz,q⟩:=h;cases rx;obtain⟨u,rfl,ru⟩:=rv.one;obtain⟨z,its,n,r,hl,e⟩:=I.dH hH;refine qI F.slot_list_append ⟨_,e,rfl⟩ F.entry_list_append (F.args_list_append_2 _ _) (PySem.list_append l its.toArray n u (by rw[cG];lia)) ⟨e,?_⟩;refine⟨.aQ,_,I.v9 (its':=its++[u]) hH e (by simp) (r.append (.cons ru .nil)) ?_,rfl,q⟩;rw[eW,yd];lia
noncomputable def UJ:V->List V->Hp->VK->Prop:=λx vs H Q=>∃l b xs zs,x=.ref l/\vs=[.ref b]/\H l=aD (.lst xs)/\H b=aD (.lst zs)/\xs.length+zs.length<=sizeLine/\Q .aQ (upd H l (.lst (xs++zs)))
theorem zuu:Nz X "list.extend" UJ:=by
 intro pins s σ H x vs v us Q I rx rv h;obtain⟨l,b,xs,zs,rfl,rfl,hH,hB,hz,q⟩:=h;cases rx;obtain⟨u,rfl,ru⟩:=rv.one;cases ru;obtain⟨z,its,n,r,hl,e⟩:=I.dH hH;obtain⟨z2,its2,n2,r2,hl2,e2⟩:=I.dH hB;have hsz:its.toArray.size+its2.toArray.size<=sizeLine:=by rw[cG,cG];lia
 have n6:¬(!its.toArray.isEmpty&&Builtin.List.listTooLong (its.toArray.size+its2.toArray.size))=true:=by rw[NC hsz,Bool.and_false];exact zw
 refine qI F.slot_list_extend ⟨_,e,rfl⟩ F.entry_list_extend (F.args_list_extend_2 _ _)
  (AutoSeq1.list_extend_list_list_0 l its.toArray n b its2.toArray n2 n6 (by rw[cG];lia) (by lia)) ⟨e,e2,?_⟩
 refine⟨.aQ,_,I.v9 (its':=its++its2) hH e (by simp) (r.append r2) ?_,rfl,q⟩;rw[eW];lia
noncomputable def AF:R2:=λx y H Q=>∃l b xs zs,x=.ref l/\y=.ref b/\H l=aD (.lst xs)/\H b=aD (.lst zs)/\xs.length+zs.length<=sizeLine/\∀p,H p=aE->Q (.ref p) (upd H p (.lst (xs++zs)))
theorem UK:cQ X (binaryOp .Add) AF:=by
 intro pins s σ H x y v u Q I rx ry h;obtain⟨l,b,xs,zs,rfl,rfl,hH,hB,hz,q⟩:=h;cases rx;cases ry;obtain⟨z,its,n,r,hl,e⟩:=I.dH hH;obtain⟨z2,its2,n2,r2,hl2,e2⟩:=I.dH hB;refine PySem.P.add_list e e2 ?_ (by rw[cG,cG];lia);have ea:its.toArray++its2.toArray=(its++its2).toArray:=by simp
 rw[ea];exact⟨.ref _,_,I.G1 (t':=s.toks) (r.append r2) (by rw[eW];lia),rfl,q _ I.fresh⟩
theorem ND{α:Type}(xs:List α)(k:Nat):(bD k xs).flatten.length=k*xs.length:=by
 induction k with|zero=>simp|succ k ih=>rw[ku,p9,eW,ih,Nat.succ_mul,Nat.add_comm]
end
end L2
namespace NF
open PySem PySem.W PySem.Calls PyProof.Rows
theorem UL{P:Params}{h:aB}:∀(ns:List Int) (vs:List aa),WellAll P h vs (ns.map WData.int)->IntsAre vs ns:=by
 intro ns;induction ns with
 |nil=>
  intro vs w;rw[yi]at w;cases w;exact .nil
 |cons n ns ih=>
  intro vs w;rw[gQ]at w;cases w with
  |cons a b=>
   cases a;exact .cons _ _ (ih _ b)
theorem UM{l:OpenLaw}{n:Nat}(hn:l.most=aD n){P:Params}{h:aB}{args:List WData}{vals:List aa}
 (hpre:l.row.toRowW.claim.pre args) (hwl:WellAll P h vals args) :
 ∃a vs ns,vals=[Value.ref a]/\args=[WData.list (ns.map WData.int)]/\h.get? a=aD {cls:=.type "list",data:=.seq vs.toArray}/\IntsAre vs ns/\ns.length<=n:=by
 have hsh:WShape.hasAll [] args [.list .int]=true:=(pre_splitW hpre).1;have hc:l.pre.holds [] {args:=args}=true:=(pre_splitW hpre).2;obtain⟨d,r,rfl,h1,h2⟩:=hasAllW_cons hsh;obtain rfl:=hasAllW_nil h2;obtain⟨xs,rfl,h3⟩:=hasW_list h1;obtain⟨ns,rfl⟩:=items_int h3;have hlen:ns.length<=n:=by
  unfold OpenLaw.pre at hc;have h4:(WTm.not (.lt (.lit (.int (n:Int))) (.len (.arg 0)))).holds [] {args:=[.list (ns.map .int)]}=true:=by have h4:=(holds_andW hc).1;rw[hn]at h4;exact h4
  have h5:=condW_of h4 (w_not (w_lt w_lit (w_len_list (w_arg rfl))));rw[bz]at h5;refine Nat.le_of_not_lt λq=>?_;have q':(n:Int)< ((ns.length:Nat):Int):=by lia
  first
   |(rw[kq q']at h5;exact absurd h5 (by decide))
   |(simp at h5;lia)
 cases hwl with
 |cons w1 w2=>
  cases w2;cases w1 with|list ho hall=>exact⟨_,_,ns,rfl,rfl,ho,UL ns _ hall,hlen⟩
theorem UN(l:OpenLaw)(args:List WData):l.row.toRowW.claim.post args (.bool true) args=true:=
 postW_of (r:=l.row.toRowW) (X:=(true==true))
  (show WShape.has [] (.bool true) .bool=true by first|rfl|decide|simp[WShape.has,WShape.arms,WShape.armsAll])
  (show(WTm.eq .res (.lit (.bool true))).value [] {args:=args,res:=aD (.bool true),after:=args}=aD (.bool (true==true))from w_eq_bool (w_res rfl) w_lit) rfl
theorem jQ{l:OpenLaw}{n:Nat}{q:ai}{loose:List Str}{XP:(Str->Option aa)->aB->Prop}{YP:aj->aB->Prop}{d:DefRec}
 (hn:l.most=aD n) (hdf:d.params.defaults=[])
 (call:∀(w:aj)(s₀ s₁:af)(mg mb:Str->Option aa)(fa:ah)(o:Obj)(pm cd doc:aa)(a:ah)(vs:List aa)(ns:List Int),
   Ground q loose [] XP w s₀ mg mb s₁.heap->YP w s₁.heap->
   s₁.heap.get? fa=aD o->o.data=.func (docDef d.name d.params d.body d.scope pm cd doc)->s₁.heap.CodeRec cd d.name->mg d.name=aD (.ref fa)->
   s₁.heap.get? a=aD {cls:=.type "list",data:=.seq vs.toArray}->IntsAre vs ns->ns.length<=n->s₁.gens = #[]->
   codeAny (model l.prog w) callerA (.call (.ref fa) ⟨[.ref a],[]⟩) (λr s'=>r=.ok (.ret (.bool true))/\OldK s₁.heap s'.heap/\s'.os=s₁.os/\AllBare s'.gens) s₁) :
 WalkO q loose XP YP l.row.toRowW d [] (λf vs=>PySem.call f vs):=by
 intro w s₀ s₁ mg mb G Y fa o pm cd doc dV kV ho hd hcd hD hmg hg args vals as hpre hlay hrd hwl hlo;obtain rfl:dV=.none:=Dflts.none hD hdf;obtain rfl:kV=.none:=Dflts.noKw hD;obtain⟨a,vs,ns,rfl,rfl,hobj,hints,hlen⟩:=UM hn hpre hwl;refine enter_call (codeAny_mono (call w s₀ s₁ mg mb fa o pm cd doc a vs ns G Y ho (fd_plain hd) hcd hmg hobj hints hlen hg) λr s' hq=>?_);obtain⟨rfl,h2,h3,h4⟩:=hq;exact⟨.inl ⟨.bool true,.bool true,[],rfl,λ_=>rfl,.bool true,UN l _,λ_=>⟨List.Pairwise.nil,λ_ hm=>(nomatch hm)⟩⟩,h2,h3,h4⟩
end NF
namespace L2
open PySem PySem.Spec PyProof.Rows
theorem NG:∀{vs:List aa} {ns:List Int},IntsAre vs ns->Vals (ns.map V.int) vs|_,_,.nil=>.nil|_,_,.cons n t h=>.cons ⟨t,rfl⟩ (NG h)
noncomputable def wc(H:Hp):Prop:=∀b,H b=aE\/∃o xs,H b=aD (.bL o (.lst xs))
theorem UO{P:ai}{w:aj}{K:aK}{mg mb:Str->Option aa}{CX:qf}{k:Nat}{fa a:ah}{fd:av}{x:Str}{sp:Sp}{s₁:af}{vs:List aa}{ns:List Int}
 (KX:K.In s₁.heap) (hns:s₁.heap.Ns mainGlobals mg) (hb:s₁.heap.Ns builtinsNs mb) (UP:∀x:Str,x≠"__name__"->mb x=bootBuiltins x) (hlim:s₁.heap.NoLimit) (hg:s₁.gens = #[])
 (ha:s₁.heap.get? a=aD {cls:=.type "list",data:=.seq vs.toArray}) (hi:IntsAre vs ns) (hl:ns.length<=sizeLine) (hr:cM k callerA)
 (F:∀base:aB,K.In base->base.Ns mainGlobals mg->fE P w K mg base CX k fa fd [x] sp) (hbind:∀(s:af)(u:aa),BindsTo s fd ⟨[u],[]⟩ [(x,u)])
 (qg:∀H:Hp,wc H->cC K H a (ns.map V.int)->sp [.ref a] H (λv _=>v=.bl true) λ_ _ _=>False)
 (G7:∀H e s',CX [] H s₁ (λ_ _ _=>False) e s'->False) :
 codeAny (model P w) callerA (.call (.ref fa) ⟨[.ref a],[]⟩) (λr s'=>r=.ok (.ret (.bool true))/\OldK s₁.heap s'.heap/\s'.os=s₁.os/\AllBare s'.gens) s₁:=by
 have rv:=NG hi;have Hf:=hi.length;have core:∀H:Hp,wc H->cC K H a (ns.map V.int)->fm P w H s₁.heap->(∀b,H b≠aE->b=a)->(H a≠aE->K.lookup a=aE)->
  codeAny (model P w) callerA (.call (.ref fa) ⟨[.ref a],[]⟩) (λr s'=>r=.ok (.ret (.bool true))/\OldK s₁.heap s'.heap/\s'.os=s₁.os/\AllBare s'.gens) s₁:=by
  intro H hO hS hok hA hK;have base_of:∀{b:ah}{o:Obj},s₁.heap.get? b=aD o->H b=aE->(ji s₁.heap H).get? b=aD o:=λe n=>Sa e n;have Ar:∀{b:ah}{o:Obj}{es:Array DictEntry}{ep:Nat},s₁.heap.get? b=aD o->o.data=.dict es ep->H b=aE:=λ{b o es ep} e d=>by
   cases q:H b with
   |none=>rfl
   |some u=>
    have e':b=a:=hA b (by rw[q];simp);subst e';rw[ha]at e;cases e;have d':Data.seq vs.toArray _=Data.dict es ep:=d;cases d'
  have Ei:∀{b:ah}{m:Str->Option aa},s₁.heap.Ns b m->(ji s₁.heap H).Ns b m:=λ{b m}⟨o,es,ep,e,d,r⟩=>⟨o,es,ep,base_of e (Ar e d),d,r⟩
  have NH:K.In (ji s₁.heap H):=λb o e=>base_of (KX b o e) (by
   cases q:H b with
   |none=>rfl
   |some u=>
    have e':b=a:=hA b (by rw[q];simp);subst e';rw[hK (by rw[q];simp)]at e;cases e)
  have hM:Mod K mg (ji s₁.heap H):=⟨NH,Ei hns,⟨mb,Ei hb,UP⟩,let⟨mc,h1,h2⟩:=hlim;⟨mc,Ei h1,h2⟩⟩
  have e0:rA P w K mg (ji s₁.heap H) callerA [] s₁ H:=⟨rfl,hM,λb o e=>Sb e,Nat.le_of_eq (R9 _ _),trivial,λb hb=>absurd (show b∈([]:List ah)from hb) (by simp),hok,.of_eq hg⟩
  refine codeAny_mono ((F _ NH (Ei hns)).run callerA [] s₁ H ⟨[.ref a],[]⟩ [.ref a] [.ref a] _ _ hr e0 (hbind s₁ (.ref a)) (.cons rfl .nil) (qg H hO hS)) λr s' h=>?_;cases r with
  |error e=>exact(G7 H e s' h).elim
  |ok fl=>
   cases fl with
   |next=>exact False.elim h
   |brk=>exact False.elim h
   |cont=>exact False.elim h
   |ret u=>
    obtain⟨v,H',os,bare,un,Hg,r',q⟩:=h;have q':v=.bl true:=q;subst q';obtain rfl:u=Value.bool true:=r';refine⟨rfl,OldK.of_keep λb o e=>?_,os,bare⟩;cases q:H b with
    |none=>exact un.keep b o e q (by intro z;exact absurd (show b∈([]:List ah)from z) (by simp)) (by simp)
    |some u=>
     rcases hO b with z|⟨ob,xs,z⟩;rw[q]at z;cases z;have z2:=un.iw b ob _ z;obtain⟨e1,_⟩:=hok b _ z;obtain⟨e2,_⟩:=Hg b _ z2;rw[e]at e1;cases e1;exact e2
 cases hk:K.lookup a with
 |some o=>
  have e:=KX a o hk;rw[ha]at e;cases e;refine core (λ_=>aE) (λ_=>.inl rfl) (.inr ⟨_,vs.toArray,_,hk,rfl,rfl,rfl,by rw[cG,Hf];exact hl,by simpa using rv⟩) (λb u z=>by have z':(aE:Option HO)=aD u:=z;cases z') (λb z=>absurd rfl z) λz=>absurd rfl z
 |none=>
  refine core (λb=>if b=a then aD (.bL {cls:=.type "list",data:=.seq vs.toArray} (.lst (ns.map V.int)))else aE) (λb=>?_) (.inl (.inr ⟨{cls:=.type "list",data:=.seq vs.toArray},if_pos rfl⟩)) (λb u z=>?_) (λb z=>?_) λ_=>hk;by_cases hb:b=a;exact .inr ⟨_,_,if_pos hb⟩;exact .inl (if_neg hb);by_cases hb:b=a;have z':=(if_pos hb).symm.trans z;cases z';subst hb;exact⟨ha,by rw[bz];exact hl,vs,_,rv,ha⟩;have z':=(if_neg hb).symm.trans z;cases z';by_cases hb:b=a;exact hb;exact absurd (if_neg hb) z
theorem UQ{l:PySem.W.OpenLaw}{n k:Nat}{q:ai}{loose:List Str}{XP:(Str->Option aa)->aB->Prop}{YP:aj->aB->Prop}{d:DefRec}{K:Params->aK}{CX:aj->qf}{sp:aj->Sp}{x:Str}
 (hn:l.most=aD n) (hn2:n<=sizeLine) (hdf:d.params.defaults=[]) (hr:cM k callerA)
 (hY:∀(w:aj)(h:aB),YP w h->(K w.params).In h)
 (F:∀(w:aj)(mg:Str->Option aa)(fa:ah)(h:aB),(K w.params).In h->h.Ns mainGlobals mg->mg d.name=aD (.ref fa)->
   ∃fd:av,(∀(s:af)(u:aa),BindsTo s fd ⟨[u],[]⟩ [(x,u)])/\
    ∀base:aB,(K w.params).In base->base.Ns mainGlobals mg->fE l.prog w (K w.params) mg base (CX w) k fa fd [x] (sp w))
 (qg:∀(w:aj)(H:Hp)(a:ah)(ns:List Int),ns.length<=n->wc H->cC (K w.params) H a (ns.map V.int)->sp w [.ref a] H (λv _=>v=.bl true) λ_ _ _=>False)
 (G7:∀(w:aj)(H:Hp)(s:af)(e:aa)(s':af),CX w [] H s (λ_ _ _=>False) e s'->False) :
 PySem.W.WalkO q loose XP YP l.row.toRowW d [] (λf vs=>PySem.call f vs):=by
 refine NF.jQ hn hdf λw s₀ s₁ mg mb fa o pm cd doc a vs ns G Y ho hd hcd hmg hobj hints hlen hg=>?_;have KX:=hY w _ Y;obtain⟨fd,hb,hF⟩:=F w mg fa _ KX G.T.g hmg;exact UO KX G.T.g G.T.b G.T.builtins G.T.nolimit hg hobj hints (ie hlen hn2) hr hF hb (λH hO hS=>qg w H a ns hlen hO hS) λH e s'=>G7 w H s₁ e s'
noncomputable def UR(s:au):Arguments:=match s with|.FunctionDef _ a _ _ _ _ _ _ _ _=>a|_=>{posonlyargs:=[],args:=[],vararg:=aE,kwonlyargs:=[],kw_defaults:=[],kwarg:=aE,defaults:=[]}
noncomputable def AG(s:au):List au:=match s with|.FunctionDef _ _ b _ _ _ _ _ _ _=>b|_=>[]
noncomputable def jj(s:au):aA:=match s with|.FunctionDef _ _ _ _ _ _ sc _ _ _=>sc|_=>{kind:=.function,names:=[],isGenerator:=false,isCoroutine:=false}
noncomputable abbrev lI:qf:=λ_ _ _ _ _ _=>False
noncomputable abbrev E0:XK:=λ_ _ _=>False
theorem oh{X:Cx}:Eg lI X E0:=λ_ _ _ _ _ _ _ h=>h.elim
theorem NI{n:Nat}(h:n<=1000):n<sizeLine:=Nat.lt_of_le_of_lt h (by decide)
noncomputable def jk(cells:List (Str×ah)):List (Str×NameKind)->List (Str×ah)->List (Str×ah)|[],cs=>cs|(n,k)::r,cs=>jk cells r (if k == .free then(match cells.lookup n with|some c=>(n,c)::cs|none=>cs)else cs)
theorem Ej{scope:aA}{env:Env}(hf:∀y∈scope.names,y.2=.free->∃c,env.cells.lookup y.1=aD c):closureFor scope env=pure (jk env.cells scope.names []):=by
 have go:∀(l:List (Str×NameKind))(cs:List (Str×ah)),(∀y∈l,y.2=.free->∃c,env.cells.lookup y.1=aD c)->
  (forIn l cs λ(x:Str×NameKind)(r:List (Str×ah))=>(match x with
    |(name,kind)=>if(kind==NameKind.free)=true then(do let a <-cellOf env name;pure (ForInStep.yield ((name,a)::r)))else pure (ForInStep.yield r):Sem (ForInStep (List (Str×ah)))))=(pure (jk env.cells l cs):Sem (List (Str×ah))):=by
  intro l;induction l with
  |nil=>intro cs _;rfl
  |cons x r ih=>
   intro cs h;obtain⟨n,k⟩:=x;rw[zB];by_cases hk:(k==NameKind.free)=true;have hk':k=.free:=by simpa using hk
   obtain⟨c,hc⟩:=h (n,k) fk hk';have hc':env.cells.lookup n=aD c:=hc;simp only[hk,bZ,cellOf,hc',jk];exact ih _ λy hy=>h y (dQ _ hy);have hk':(k==NameKind.free)=false:=by simpa using hk
   simp only[hk',dZ,dF,jk];exact ih _ λy hy=>h y (dQ _ hy)
 have e:=go scope.names [] hf;unfold closureFor;refine Eq.trans (jF (λt=>t >>= λcs=>pure cs) e) ?_;rfl
theorem Ek{cells:List (Str×ah)}:∀(l:List (Str×NameKind)) (cs:List (Str×ah)),(∀x c,cs.lookup x=aD c->cells.lookup x=aD c)->∀x c,(jk cells l cs).lookup x=aD c->cells.lookup x=aD c
 |[],cs,h=>h
 |(n,k)::r,cs,h=>Ek r _ λx c e=>by
  by_cases hk:(k==NameKind.free)=true;simp only[hk,bZ]at e;cases hc:cells.lookup n with
  |none=>rw[hc]at e;exact h x c e
  |some d=>
   rw[hc]at e;simp only[gw]at e;by_cases hx:(x==n)=true;simp only[hx]at e;cases e;rw[show x=n by simpa using hx];exact hc;have hx':(x==n)=false:=by simpa using hx
   simp only[hx']at e;exact h x c e
  have hk':(k==NameKind.free)=false:=by simpa using hk
  simp only[hk',dZ,dF]at e;exact h x c e
theorem NJ{cells:List (Str×ah)}{x:Str}{c:ah}(hc:cells.lookup x=aD c):∀(l:List (Str×NameKind)) (cs:List (Str×ah)),cs.lookup x=aD c->(jk cells l cs).lookup x=aD c
 |[],cs,h=>h
 |(n,k)::r,cs,h=>NJ hc r _ (by
  by_cases hk:(k==NameKind.free)=true;simp only[hk,bZ];cases hn:cells.lookup n with
  |none=>exact h
  |some d=>
   simp only[gw];by_cases hx:(x==n)=true;have:x=n:=by simpa using hx
   subst this;rw[hc]at hn;cases hn;simp;have hx':(x==n)=false:=by simpa using hx
   simp only[hx'];exact h
  have hk':(k==NameKind.free)=false:=by simpa using hk
  simp only[hk',dZ,dF];exact h)
theorem Hh{cells:List (Str×ah)}{x:Str}{c:ah}(hc:cells.lookup x=aD c):∀(l:List (Str×NameKind)) (cs:List (Str×ah)),(x,NameKind.free)∈l->(jk cells l cs).lookup x=aD c
 |[],cs,h=>by cases h
 |(n,k)::r,cs,h=>by
  rcases fP.mp h with e|e;cases e;refine NJ hc r _ ?_;rw[hc];simp[gw];exact Hh hc r _ e
theorem Hi{x:Str}:∀(l:List (Str×NameKind)) (a:Nat) (acc:List (Str×ah)),(x,NameKind.cell)∉l->(cellsFrom a l acc).lookup x=acc.lookup x
 |[],_,_,_=>rfl
 |(n,k)::r,a,acc,h=>by
  unfold cellsFrom;have hr:(x,NameKind.cell)∉r:=λz=>h (dQ _ z);split;rename_i hk;have hk:k=.cell:=by simpa using hk
  rw[Hi r _ _ hr,gw];have:(x==n)=false:=by rw[Dq];rintro rfl;exact h (by rw[hk];exact fk)
  rw[this];exact Hi r _ _ hr
theorem El{x:Str}{c:ah}:∀(l:List (Str×NameKind)) (a:Nat) (acc:List (Str×ah)),(cellsFrom a l acc).lookup x=aD c->acc.lookup x=aD c\/a<=c
 |[],_,_,h=>.inl h
 |(n,k)::r,a,acc,h=>by
  unfold cellsFrom at h;split at h;rcases El r _ _ h with h|h
  rw[gw]at h;split at h;cases h;exact .inr (aT _);exact .inl h;exact .inr (Dz h);exact El r _ _ h
theorem Em{x:Str}:∀(l:List (Str×NameKind)) (a:Nat) (acc:List (Str×ah)),(∃c,acc.lookup x=aD c)->∃c,(cellsFrom a l acc).lookup x=aD c
 |[],_,_,h=>h
 |(n,k)::r,a,acc,h=>by
  unfold cellsFrom;split;refine Em r _ _ ?_;rw[gw];split;exact⟨_,rfl⟩;exact h;exact Em r _ _ h
theorem Hj{x:Str}:∀(l:List (Str×NameKind)) (a:Nat) (acc:List (Str×ah)),(x,NameKind.cell)∈l->∃c,(cellsFrom a l acc).lookup x=aD c
 |[],_,_,h=>by cases h
 |(n,k)::r,a,acc,h=>by
  unfold cellsFrom;rcases fP.mp h with e|e
  cases e;rw[if_pos (by rfl)];exact Em r _ _ ⟨a,by simp[gw]⟩;split;exact Hj r _ _ e;exact Hj r _ _ e
theorem Hl{acc:List (Str×ah)}:∀(l:List (Str×NameKind)) (a:Nat) (acc:List (Str×ah)),(∀x y c,acc.lookup x=aD c->acc.lookup y=aD c->x=y)->(∀x c,acc.lookup x=aD c->c<a)->
 ∀x y c,(cellsFrom a l acc).lookup x=aD c->(cellsFrom a l acc).lookup y=aD c->x=y
 |[],_,_,h,_=>h
 |(n,k)::r,a,acc,h,hl=>by
  unfold cellsFrom;split;refine Hl (acc:=acc) r _ _ (λx y c e1 e2=>?_) λx c e=>?_;rw[gw]at e1 e2;cases b1:x==n<;>cases b2:y==n<;>simp only[b1,b2]at e1 e2;exact h x y c e1 e2;cases e2;exact absurd (hl x _ e1) (jG _);cases e1;exact absurd (hl y _ e2) (jG _);rw[beq_iff_eq.mp b1,beq_iff_eq.mp b2];rw[gw]at e;cases b1:x==n<;>simp only[b1]at e;exact tQ (hl x c e);cases e;exact iT _;exact Hl (acc:=acc) r _ _ h hl
theorem Ho{x:Str}{c:ah}:∀(l:List (Str×NameKind)) (h:aB) (acc:List (Str×ah)),(cellsFrom h.objs.size l acc).lookup x=aD c->h.objs.size<=c->(∀y d,acc.lookup y=aD d->h.objs.size<=d->h.IsCell d aE)->(pushCells h l).IsCell c aE
 |[],h,acc,e,hc,ha=>ha x c e hc
 |(n,k)::r,h,acc,e,hc,ha=>by
  unfold cellsFrom at e;unfold pushCells;split at e;rename_i hk;rw[if_pos hk];by_cases z:h.objs.size+1<=c;refine Ho r (h.push {cls:=.type "cell",data:=.cell aE}) ((n,h.objs.size)::acc) (by rw[jI];exact e) (by rw[jI];exact z) λy d e1 e2=>?_;rw[jI]at e2;rw[gw]at e1;cases b1:y==n<;>simp only[b1]at e1;exact(ha y d e1 (Dz e2)).keeps λb o q=>cu _ q;cases e1;exact absurd e2 (Nat.not_succ_le_self _);have hce:c=h.objs.size:=Nat.le_antisymm (Nat.le_of_lt_succ (Nat.lt_of_not_le z)) hc;have:(h.push {cls:=.type "cell",data:=.cell aE}).IsCell c aE:=⟨_,by rw[hce];exact iJ _ rfl,rfl⟩
  exact this.keeps λb o q=>pushCells_keeps _ _ b o q;rename_i hk;rw[if_neg hk];exact Ho r h acc e hc ha
theorem NK{M:Model}{A:ak}{E:aa->af->Prop}{s:af}{scope:aA}{globals:ah}{cl:List (Str×ah)}{qual:Str}{env:Env}{Q:Env->af->Prop}(hcl:∀x c,cl.lookup x=aD c->c<s.heap.objs.size)
 (hQ:∀h',h'.Ns s.heap.objs.size (λ_=>aE)->(∀b o,s.heap.get? b=aD o->h'.get? b=aD o)->(∀x c,(cellsFrom (s.heap.objs.size+1) scope.names cl).lookup x=aD c->s.heap.objs.size<c->h'.IsCell c aE)->
   Q (newEnv scope s.heap.objs.size globals (cellsFrom (s.heap.objs.size+1) scope.names cl) qual aE .none (aD env) builtinsNs) {s with heap:=h'}) :
 wpAny M A (newFunctionEnv scope globals cl [] qual aE .none (aD env)) Q E s:=by
 simp only[newFunctionEnv,Option.isSome_some,bZ];refine aM (wpAny_alloc ?_);refine aM (wpAny_layCells _ (λname kind cells=>by cases hkc:kind==NameKind.cell<;>simp[hkc]) _ _ _ _ ?_);have hz:({s with heap:=s.heap.push {cls:=.type "dict",data:=.dict #[]}}:af).heap.objs.size=s.heap.objs.size+1:=jI ..;rw[hz];refine aM (bA (bA ?_));refine hQ (pushCells (s.heap.push {cls:=.type "dict",data:=.dict #[]}) scope.names) ((Heap.Ns.new s.heap (.type "dict")).keeps (pushCells_keeps _ _)) (λb o e=>pushCells_keeps _ _ b o (cu _ e)) λx c e hc=>?_;refine Ho scope.names (s.heap.push {cls:=.type "dict",data:=.dict #[]}) cl (by rw[jI];exact e) (by rw[jI];exact hc) λy d e1 e2=>?_;rw[jI]at e2;exact absurd (hcl y d e1) (jH.mpr (Dz e2))
theorem NL{cells:List (Str×ah)}{x:Str}:∀(l:List (Str×NameKind)) (cs:List (Str×ah)),(x,NameKind.free)∉l->cs.lookup x=aE->(jk cells l cs).lookup x=aE
 |[],cs,_,h=>h
 |(n,k)::r,cs,hl,h=>by
  have hr:(x,NameKind.free)∉r:=λz=>hl (dQ _ z);refine NL r _ hr ?_;by_cases hk:(k==NameKind.free)=true;simp only[hk,bZ];cases cells.lookup n with
  |none=>exact h
  |some d=>
   simp only[gw];have:(x==n)=false:=by rw[Dq];rintro rfl;exact hl (by rw[show k=NameKind.free by simpa using hk];exact fk)
   simp only[this];exact h
  have hk':(k==NameKind.free)=false:=by simpa using hk
  simp only[hk',dZ,dF];exact h
theorem US{cells:List (Str×ah)}{x:Str}{c:ah}{l:List (Str×NameKind)}(h:(x,NameKind.free)∉l):¬(jk cells l []).lookup x=aD c:=λz=>by
 rw[NL l [] h rfl]at z;cases z
noncomputable abbrev Cx.comp(X:Cx)(N:List Str)(scope:aA)(C:ah)(s₀:af)(H₀:Hp)(ex:List ah):Cx:=
 {X with N:=N,s₀:=s₀,H₀:=H₀,env:=compEnvC scope (cellsFrom (C+1) scope.names (jk X.env.cells scope.names [])) C X.env,outer:=X.stack,stack:=X.stack,ex:=ex,fn:=λx=>scope.names.lookup x==aD .cell,pn:=[],xe:=λ_ _=>False}
structure aX(X:Cx)(ow fr:List Str)(ix:List Nat)(scope:aA):Prop where
 kind:scope.kind=.function
 AH:∀y∈scope.names,y.2=.cell->scope.names.lookup y.1=aD .cell
 names:∀y∈scope.names,y.2=.local->scope.names.lookup y.1=aD .local
 own:∀x∈ow,scope.names.lookup x=aD .local\/scope.names.lookup x=aD .cell
 AI:∀y∈scope.names,y.2=.free->scope.names.lookup y.1=aD .free
 free:∀y∈scope.names,y.2=.free->X.env.kindOf y.1=aD .cell\/X.env.kindOf y.1=aD .free
 at_:∀(k:Nat)(x:Str),fr[k]?=aD x->∃j,ix[k]?=aD j/\X.N[j]?=aD x/\scope.names.lookup x=aD .free
 len:ix.length=fr.length
noncomputable def jl(ow fr:List Str)(ix:List Nat)(σ:St):St:=ow.map (λ_=>aE)++ix.map λj=>(σ[j]?).join
theorem NN{x:Str}{k:NameKind}:∀{l:List (Str×NameKind)},l.lookup x=aD k->(x,k)∈l
 |[],h=>by cases h
 |(n,j)::r,h=>by
  simp only[gw]at h;by_cases hx:(x==n)=true;simp only[hx]at h;cases h;rw[show x=n by simpa using hx];exact fk;have hx':(x==n)=false:=by simpa using hx
  simp only[hx']at h;exact dQ _ (NN h)
theorem Hq{env:Env}:∀{l:List (Str×NameKind)} {x:Str} {k:NameKind},
 (l.map λ(n,k)=>if(k==NameKind.free&&env.scope.kind == .function&&env.kindOf n==aD .cell)then(n,NameKind.cell)else(n,k)).lookup x=aD k->k=.cell\/k=.free->(x,NameKind.free)∈l\/(x,NameKind.cell)∈l
 |[],x,k,h,_=>by cases h
 |(n,j)::r,x,k,h,hh=>by
  have ih:=@Hq env r x k;rw[gQ]at h;by_cases hc':(j==NameKind.free&&env.scope.kind == .function&&env.kindOf n==aD .cell)=true;simp only[hc',bZ,gw]at h;have hj:j=.free:=by simp only[bE,beq_iff_eq]at hc';exact hc'.1.1
  by_cases hx:(x==n)=true;rw[show x=n by simpa using hx,hj];exact .inl fk;have hx':(x==n)=false:=by simpa using hx
  simp only[hx']at h;exact(ih h hh).imp (dQ _) (dQ _);have hcf:(j==NameKind.free&&env.scope.kind == .function&&env.kindOf n==aD .cell)=false:=by simpa using hc'
  simp only[hcf,dZ,dF,gw]at h;by_cases hx:(x==n)=true;simp only[hx]at h;cases h;rcases hh with z|z
  rw[show x=n by simpa using hx,z];exact .inr fk;rw[show x=n by simpa using hx,z];exact .inl fk;have hx':(x==n)=false:=by simpa using hx
  simp only[hx']at h;exact(ih h hh).imp (dQ _) (dQ _)
theorem Eo{env:Env}(hkf:env.scope.kind=.function):∀{l:List (Str×NameKind)} {x:Str},l.lookup x=aD .free->
 (l.map λ(n,k)=>if(k==NameKind.free&&env.scope.kind == .function&&env.kindOf n==aD .cell)then(n,NameKind.cell)else(n,k)).lookup x=aD (if env.kindOf x=aD .cell then .cell else .free)
 |[],x,h=>by cases h
 |(n,j)::r,x,h=>by
  have ih:=@Eo env hkf r x;rw[gQ];simp only[gw]at h;by_cases hx:(x==n)=true;simp only[hx]at h;cases h;have e:x=n:=by simpa using hx
  subst e;by_cases hq:env.kindOf x=aD .cell;simp[hkf,hq,gw];simp[hq,gw];have hx':(x==n)=false:=by simpa using hx
  simp only[hx']at h;by_cases hc':(j==NameKind.free&&env.scope.kind == .function&&env.kindOf n==aD .cell)=true;simp only[hc',bZ,gw,hx'];exact ih h;have hcf:(j==NameKind.free&&env.scope.kind == .function&&env.kindOf n==aD .cell)=false:=by simpa using hc'
  simp only[hcf,dZ,dF,gw,hx'];exact ih h
section
variable{X:Cx}{pins:List (ah×Obj)}{σ:St}{H:Hp}{s:af}{ow fr:List Str}{ix:List Nat}{scope:aA}{fp:List ah}
theorem NO(S:aX X ow fr ix scope)(I:Inv X pins σ H s)(hfp:∀b∈fp,dR X pins H b)(hlt:∀b∈fp,b<s.heap.objs.size){h':aB}{tk:Nat}{m:Str->Option aa}(hn:h'.Ns s.heap.objs.size m)(hk:∀b o,s.heap.get? b=aD o->h'.get? b=aD o)(hnc:∀x c,(cellsFrom (s.heap.objs.size+1) scope.names (jk X.env.cells scope.names [])).lookup x=aD c->s.heap.objs.size<c->h'.IsCell c aE) :
 Inv (X.comp (ow++fr) scope s.heap.objs.size s H fp) [] (jl ow fr ix σ) H {s with heap:=h',toks:=tk}:=by
 have sub:=Ek (cells:=X.env.cells) scope.names [] (λx c e=>by cases e);have UT:∀x c,(jk X.env.cells scope.names []).lookup x=aD c->c<s.heap.objs.size:=λx c e=>by
  obtain⟨v,q⟩:=I.cell x c (sub x c e);exact q.lt
 have two:∀x c,(cellsFrom (s.heap.objs.size+1) scope.names (jk X.env.cells scope.names [])).lookup x=aD c->X.env.cells.lookup x=aD c\/s.heap.objs.size<c:=λx c e=>(El _ _ _ e).imp (sub x c) λz=>z;have pass:∀x,(x,NameKind.free)∈scope.names->scope.names.lookup x=aD .free->(cellsFrom (s.heap.objs.size+1) scope.names (jk X.env.cells scope.names [])).lookup x=(jk X.env.cells scope.names []).lookup x:=λx hx hl=>Hi _ _ _ λz=>by
  have:=S.AH _ z rfl;rw[hl]at this;cases this
 have kf:=I.ok.kind;have NP:∀x c,X.env.cells.lookup x=aD c->c≠s.heap.objs.size:=λx c e z=>by
  obtain⟨v,q⟩:=I.cell x c e;exact absurd q.lt (by rw[z];exact jG _)
 have Hr:∀x,(x,NameKind.free)∈scope.names->∃c,(jk X.env.cells scope.names []).lookup x=aD c/\X.env.cells.lookup x=aD c:=λx hx=>by
  obtain⟨c,hc⟩:=I.ok.has x (S.free _ hx rfl);exact⟨c,Hh hc _ _ hx,hc⟩
 refine⟨⟨I.ok.mod,?_,I.ok.glob,I.ok.blt,aT _,Hl (acc:=[]) _ _ _ (λx y c a b=>I.ok.inj x y c (sub x c a) (sub y c b)) (λx c e=>tQ (UT x c e)),λx hx=>?_,λx c e1 e2=>?_,I.ok.hd,I.ok.frames,.inl rfl,λb hb=>?_,λb o e=>?_,?_,λb o e hb=>?_,λb hb hz=>?_,I.stack,λb hb=>I.lE b hb⟩,
  rfl,I.bare,Un.kept hk,⟨m,hn,λi x v e1 e2 e3=>?_⟩,λx c e=>?_,I.hok.fresh (aT _),λx c e=>(two x c e).elim (I.fq x c) (λz=>I.hok.fresh (tR z)),λp hp=>?_,I.hok.kept hk,?_⟩
 exact S.kind;have hx':(relabel scope X.env).names.lookup x=aD .cell\/(relabel scope X.env).names.lookup x=aD .free:=hx;have hm:(x,NameKind.free)∈scope.names\/(x,NameKind.cell)∈scope.names:=by rcases hx' with z|z;exact Hq (env:=X.env) z (.inl rfl);exact Hq (env:=X.env) z (.inr rfl)
 rcases hm with hm|hm;obtain⟨c,hc,_⟩:=Hr x hm;exact Em _ _ _ ⟨c,hc⟩;exact Hj _ _ _ hm;have e1:scope.names.lookup x=aD .cell:=by have e1:(scope.names.lookup x==aD NameKind.cell)=true:=e1;simpa using e1
 rcases El _ _ _ e2 with z|z;exfalso;have hcl:∃y,X.env.cells.lookup x=aD c:=⟨c,sub x c z⟩
 exact absurd z (by
  intro z;exact US (λq=>by
   have:=S.AI _ q rfl;rw[e1]at this;cases this) z)
 exact Dz z;obtain⟨f0,f1,f2,f3,f4,f5⟩:=hfp b hb;refine⟨λz=>?_,λx c e=>(two x c e).elim (f4 x c) λz q=>by
  have:=hlt b hb;rw[q]at z;exact Nat.lt_asymm this z⟩
 have q:=hlt b hb;rw[z]at q;exact absurd q (jG _);exact⟨(I.bs b o e).1,(I.bs b o e).2⟩;exact ie I.ok.vP I.sz;obtain⟨f0,f1,f2,f3,f4,f5⟩:=hfp b hb;rcases f3 with z|z
 exact I.ok.nV b o e z;exact absurd (dP (cH (I.ok.bs b o e).1) z) (jG _);obtain⟨f0,f1,f2,f3,f4,f5⟩:=hfp b hb;rcases fP.mp (I.kT b hz)with z|z
 exact f1 z;exact f2 z;have hlen:ow.length<=i:=by
  by_cases hi:i<ow.length;unfold jl at e2;rw[tV (by simpa using hi),gh]at e2;cases q:ow[i]? with|none=>rw[q]at e2;cases e2|some y=>rw[q]at e2;cases e2
  lia
 have UU:fr[i-ow.length]?=aD x:=by have e1:(ow++fr)[i]?=aD x:=e1;rw[qL hlen]at e1;exact e1
 have NQ:(ix.map λj=>(σ[j]?).join)[i-ow.length]?=aD (aD v):=by unfold jl at e2;rw[qL (by simpa using hlen)]at e2;simpa using e2
 obtain⟨j,hj,hN,hl⟩:=S.at_ _ _ UU;rw[gh,hj]at NQ;have oj:(σ[j]?).join=aD v:=mG NQ;have hσ:σ[j]?=aD (aD v):=by
  cases q:σ[j]? with
  |none=>rw[q]at oj;cases oj
  |some o=>rw[q]at oj;cases o with
   |none=>cases oj
   |some w=>cases oj;rfl
 obtain⟨m0,hm0,UW⟩:=I.loc;have hmem:=NN hl;have hkf:=S.free _ hmem rfl;have Hs:yw X.env.scope x:=hkf.elim (λz=>.inr (.inl z)) λz=>.inr (.inr z);obtain⟨u,ru,lk⟩:=UW j x v hN hσ Hs;refine⟨u,ru,.inr ?_⟩;have hcell:∃c,X.env.cells.lookup x=aD c/\s.heap.IsCell c (aD u):=by rcases lk with⟨z,_⟩|⟨_,c,e,z⟩;rcases hkf with q|q;rw[show X.env.kindOf x=aD .local from z]at q;cases q;rw[show X.env.kindOf x=aD .local from z]at q;cases q;exact⟨c,e,z⟩
 obtain⟨c,hc,o,ho,hd⟩:=hcell;refine⟨?_,c,(pass x hmem hl).trans (Hh hc _ _ hmem),o,hk _ _ ho,hd⟩;show(relabel scope X.env).names.lookup x=aD .cell\/(relabel scope X.env).names.lookup x=aD .free;have q:=Eo (env:=X.env) kf hl;by_cases z:X.env.kindOf x=aD .cell;rw[if_pos z]at q;exact .inl q;rw[if_neg z]at q;exact .inr q;rcases two x c e with z|z;obtain⟨v,q⟩:=I.cell x c z;obtain⟨o,ho,hd⟩:=q;exact⟨v,o,hk _ _ ho,hd⟩;exact⟨aE,hnc x c e z⟩;cases(show p∈([]:List (ah×Obj))from hp);show(jl ow fr ix σ).length=(ow++fr).length;unfold jl;rw[eW,bz,bz,eW,S.len]
end
theorem Ht{α:Type}{M:Model}{A:ak}{t:Sem α}{Q:α->af->Prop}{E:aa->af->Prop}{s:af}(h:wpAny M A t Q (λ_ _=>False) s):wpAny M A t Q E s:=fZ h (λ_ _ q=>q) λ_ _ z=>z.elim
noncomputable abbrev gH:aa->af->Prop:=λ_ _=>False
noncomputable abbrev yF(ifs:List ao)(env:Env):Sem Bool:=forIn ifs true λc r=>if r=true then do let ok <-isTrue c env (eval c env);pure (ForInStep.yield ok)else pure (ForInStep.yield r)
theorem UX{prog:ai}{w:aj}{A:ak}{R:Result->af->Prop}{s:af}{elt target iter:ao}{ifs:List ao}{scope:aA}{pos:Pos}{it acc:aa}{env:Env}(I:Nat->af->Prop)
 (turn:∀n s,I n s->wpAny (model prog w) A (pyNext it) (λr s₁=>match r with
   |none=>R (.ok .next) s₁
   |some v=>wpAny (model prog w) A (letOwnedTupleGo target it v) (λ_ s₀=>wpAny (model prog w) A (assign target env v) (λ_ s₂=>
    wpAny (model prog w) A (yF ifs env) (λok s₃=>
     if ok=true then wpAny (model prog w) A (eval elt env) (λx s₄=>
      wpAny (model prog w) A (call (.builtin "list.append") [acc,x]) (λ_ s₅=>∃m,m<n/\I m s₅) gH s₄) gH s₃
     else ∃m,m<n/\I m s₃) gH s₂) gH s₀) gH s₁) gH s)
 (n:Nat) (h:I n s) :
 codeAny (model prog w) A (.compLoop (.ListComp elt [⟨target,iter,ifs,0⟩] scope pos) 0 it acc env) R s:=by
 refine codeAny_loop rfl I (λn s hI=>?_) n h;show wpAny _ A ((compTurn (.ListComp elt [⟨target,iter,ifs,0⟩] scope pos) 0 it acc env).onRaise (λx=>do noteFrame x env;theTreesLotGoes x)) _ _ s;refine wpAny_noted (Ht ?_);rw[compTurn_list];refine aM (nD (aM (fZ (turn n s hI) (λr s₁ h₁=>?_) λ_ _ h'=>h')));cases r with
 |none=>exact bA h₁
 |some v=>
  refine aM (fZ h₁ (λ_ s₀ h₀=>?_) λ_ _ h'=>h');refine aM (fZ h₀ (λ_ s₂ h₂=>aM (fZ h₂ (λok s₃ h₃=>?_) λ_ _ h'=>h')) λ_ _ h'=>h');cases ok with
  |true=>
   simp only[bZ]at h₃ ⊢;exact aM (aM (fZ h₃ (λx s₄ h₄=>aM (fZ h₄ (λ_ s₅ h₅=>bA (bA ⟨rfl,h₅⟩)) λ_ _ h'=>h')) λ_ _ h'=>h'))
  |false=>
   simp only[dZ,dF]at h₃ ⊢;exact bA ⟨rfl,h₃⟩
noncomputable def iX(X:Cx)(ifs:List ao)(t:TT):Prop:=
 ∀(pins:List (ah×Obj))(s:af)(σ:St)(H:Hp)(Q:Bool->Hp->Prop),Inv X pins σ H s->t σ H Q->wpAny (model X.prog X.w) X.A (yF ifs X.env) (TP X pins σ Q) X.xe s
noncomputable def Hu:TT:=λ_ H Q=>Q true H
theorem UY{X:Cx}:iX X [] Hu:=λpins s σ H Q I h=>wpAny_tests_nil ⟨H,I,h⟩
theorem UZ{X:Cx}{c:ao}{t:TT}(h:PT X c t):iX X [c] t:=λpins s σ H Q I q=>wpAny_tests_one (h pins s σ H Q I q)
noncomputable def Hv(K:aK)(f:St->St)(wi:TI)(g:TG)(tc:TT)(te:TE):TE:=λσ H Q=>wi σ H λJ H1=>∀D,H1 D=aE->K.lookup D=aE->
 ∃W:Nat->Nat->St->Hp->List V->Prop,(∃m,W 0 m (f σ) (upd H1 D (.lst [])) [])/\∀i m σ' H' ys,W i m σ' H' ys->H' D=aD (.lst ys)/\
  ((J.stop i H'/\Q (.ref D) H')\/(J.go i H'/\∀x H2,J.vS i H' x H2->g x σ' H2 λσ2 H3=>tc σ2 H3 λb H4=>
    if b=true then te σ2 H4 λy H5=>H5 D=aD (.lst ys)/\ys.length<sizeLine/\∃m',m'<m/\W (i+1) m' σ2 (upd H5 D (.lst (ys++[y]))) (ys++[y])
    else ∃m',m'<m/\W (i+1) m' σ2 H4 ys))
section
variable{X:Cx}{ow fr:List Str}{ix:List Nat}{scope:aA}{tg iter elt:ao}{ifs:List ao}{pos:Pos}{wi:TI}{g:TG}{tc:TT}{te:TE}
theorem NR{pins:List (ah×Obj)}{s:af}{σ:St}{Q:VK}{RR:aa->ah->Result->af->Prop}(S:aX X ow fr ix scope)(hc:X.calm=true)
 (hg:∀C s₀ H₀ ex,PG (X.comp (ow++fr) scope C s₀ H₀ ex) tg g) (ht:∀C s₀ H₀ ex,iX (X.comp (ow++fr) scope C s₀ H₀ ex) ifs tc) (he:∀C s₀ H₀ ex,PE (X.comp (ow++fr) scope C s₀ H₀ ex) elt te)
 {itv:aa} {E:aa->af->Prop}
 (h:Ea X pins σ tg (λJ H1=>∀D,H1 D=aE->X.K.lookup D=aE->
   ∃W:Nat->Nat->St->Hp->List V->Prop,(∃m,W 0 m (jl ow fr ix σ) (upd H1 D (.lst [])) [])/\∀i m σ' H' ys,W i m σ' H' ys->H' D=aD (.lst ys)/\
    ((J.stop i H'/\Q (.ref D) H')\/(J.go i H'/\∀x H2,J.vS i H' x H2->g x σ' H2 λσ2 H3=>tc σ2 H3 λb H4=>
      if b=true then te σ2 H4 λy H5=>H5 D=aD (.lst ys)/\ys.length<sizeLine/\∃m',m'<m/\W (i+1) m' σ2 (upd H5 D (.lst (ys++[y]))) (ys++[y])
      else ∃m',m'<m/\W (i+1) m' σ2 H4 ys))) itv s)
 (fin:∀D C H' s' m,dR X pins H' C->s'.heap.Ns C m->(∀h'',Heap.SameBut C s'.heap h''->Inv X pins σ H' {s' with heap:=h''})->Q (.ref D) H'->RR (.ref D) C (.ok .next) s') :
 wpAny (model X.prog X.w) X.A (newList []) (λacc s₃=>wpAny (model X.prog X.w) X.A (newFunctionEnv scope X.env.globals (jk X.env.cells scope.names []) [] X.env.qual aE .none (aD X.env)) (λcenv s₄=>
  codeAny (model X.prog X.w) X.A (.compStart (.ListComp elt [⟨tg,iter,ifs,0⟩] scope pos) 0 itv acc {cenv with scope:=relabel scope X.env}) (RR acc cenv.locals) s₄) E s₃) E s:=by
 obtain⟨it,fp,tn,J,H1,e,I1,T,st1,f1,hq⟩:=h;subst e;have hD:H1 s.heap.objs.size=aE:=I1.hok.fresh (aT _);have Hw:X.K.lookup s.heap.objs.size=aE:=by
  cases e:X.K.lookup s.heap.objs.size with|none=>rfl|some o=>exact absurd (cH (I1.iV _ _ e)) (jG _)
 obtain⟨W,⟨m0,w0⟩,turn⟩:=hq _ hD Hw;have I3:Inv X pins σ (upd H1 s.heap.objs.size (.lst [])) {s with heap:=s.heap.push {cls:=.type "list",dict:=aE,data:=.seq ([]:List aa).toArray}}:=
  I1.laid (t':=s.toks) (o:=.lst []) (λb u q=>cu _ q) (aT _) ⟨gf _,[],0,.nil,iJ _ rfl⟩
 have om:∀b∈fp,b<s.heap.objs.size:=λb hb=>by
  obtain⟨o,ho,_⟩:=T.obj _ _ st1 b hb;exact cH ho
 have f3:∀b∈fp,dR X pins (upd H1 s.heap.objs.size (.lst [])) b:=λb hb=>⟨by rw[bV (fR (om b hb))];exact(f1 b hb).1,(f1 b hb).2⟩
 refine tO (NK (λx c e=>(I3.cell x c (Ek (cells:=X.env.cells) scope.names [] (λx c e=>by cases e) x c e)).elim λv q=>q.lt) (λh₁ hns hk0 hnc=>?_));dsimp only at hns hk0 hnc ⊢;generalize AJ:({s with heap:=s.heap.push {cls:=.type "list",dict:=aE,data:=.seq ([]:List aa).toArray}}:af)=s3 at I3;have we:s3.heap=s.heap.push {cls:=.type "list",dict:=aE,data:=.seq ([]:List aa).toArray}:=by rw[<-AJ]
 rw[<-we]at hns hk0 hnc ⊢;have hk:∀b o,s3.heap.get? b=aD o->h₁.get? b=aD o:=hk0;have wg:∀b∈fp,b<s3.heap.objs.size:=λb hb=>by rw[we,jI];exact tQ (om b hb)
 have J3:=NO S I3 f3 wg (tk:=s.toks) hns hk hnc;have st3:tn 0 h₁:=T.keep _ _ _ st1 λb hb o e=>hk b o (by rw[we];exact cu _ e);have wj:∀b∈fp,(X.comp (ow++fr) scope s3.heap.objs.size s3 (upd H1 s.heap.objs.size (.lst [])) fp).Ok->∀{H':Hp},H' b=aE->dR (X.comp (ow++fr) scope s3.heap.objs.size s3 (upd H1 s.heap.objs.size (.lst [])) fp) [] H' b:=λb hb ok H' hn=>
  ⟨hn,(ok.yy b hb).1,ok.mJ b hb,.inl hb,(ok.yy b hb).2,λp hp=>by cases(show p∈([]:List (ah×Obj))from hp)⟩
 have back:∀{σ':St}{H':Hp}{s':af},Inv (X.comp (ow++fr) scope s3.heap.objs.size s3 (upd H1 s.heap.objs.size (.lst [])) fp) [] σ' H' s'->∀h'',Heap.SameBut s3.heap.objs.size s'.heap h''->Inv X pins σ H' {s' with heap:=h''}:=λ{σ' H' s'} I' h'' hs=>by
  have nJ:∀b o,s3.heap.get? b=aD o->b≠s3.heap.objs.size:=λb o e=>fR (cH e);have un:Un (frs X.stack) fp (upd H1 s.heap.objs.size (.lst [])) H' s3.heap h'':=
   ⟨λb o e n hb hx=>(hs.2 b (nJ b o e)).trans (I'.base.keep b o e n hb hx),λb o e n hb hx=>by
    obtain⟨sl,q⟩:=I'.base.slot b o e n hb hx;exact⟨sl,(hs.2 b (nJ b o e)).trans q⟩,I'.base.free,λb o e hx=>by
    obtain⟨o',q⟩:=I'.base.there b o e hx;exact⟨o',(hs.2 b (nJ b o e)).trans q⟩,I'.base.tups,I'.base.iw,I'.base.iL⟩
  have hok:fm X.prog X.w H' h'':=λb ob e=>by
   refine(I'.hok b ob e).stay (λc w' hcc q=>(hs.2 c ?_).trans q) (λ_ q=>q) λ_ _ q=>q;rintro rfl;have hfree:=I'.free;rcases hcc with rfl|hcc
   rw[show H' s3.heap.objs.size=aE from hfree]at e;cases e;rw[show H' s3.heap.objs.size=aE from hfree]at hcc;cases hcc
  have hos:s'.os=s3.os:=I'.os;exact I3.t7 (s':={s' with heap:=h''}) (ch:=fp) hos un hok I'.bare λb hb=>by
   obtain⟨_,a1,a2,a3,a4,a5⟩:=f1 b hb;exact⟨a3,a1,a4,a5⟩
 have loop:∀s4:af,Inv (X.comp (ow++fr) scope s3.heap.objs.size s3 (upd H1 s.heap.objs.size (.lst [])) fp) [] (jl ow fr ix σ) (upd H1 s.heap.objs.size (.lst [])) s4->tn 0 s4.heap->
  codeAny (model X.prog X.w) X.A (.compLoop (.ListComp elt [⟨tg,iter,ifs,0⟩] scope pos) 0 (.ref it) (.ref s.heap.objs.size) (X.comp (ow++fr) scope s3.heap.objs.size s3 (upd H1 s.heap.objs.size (.lst [])) fp).env)
   (RR (.ref s.heap.objs.size) s3.heap.objs.size) s4:=by
  intro s4 I4 Hx;refine UX (λn s'=>∃i σ' H' ys,Inv (X.comp (ow++fr) scope s3.heap.objs.size s3 (upd H1 s.heap.objs.size (.lst [])) fp) [] σ' H' s'/\tn i s'.heap/\(∀b∈fp,H' b=aE)/\W i n σ' H' ys) ?_ m0 ⟨0,_,_,[],I4,Hx,λb hb=>(f3 b hb).1,w0⟩;rintro n s5 ⟨i,kF,H5,ys,I5,mK,qY,w5⟩;obtain⟨hDl,alt⟩:=turn i n kF H5 ys w5;rcases alt with⟨stop,q⟩|⟨go,step⟩
  .refine aW (T.done (X.comp (ow++fr) scope s3.heap.objs.size s3 (upd H1 s.heap.objs.size (.lst [])) fp) rfl rfl rfl hc i [] s5 kF H5 gH I5 (λb hb=>wj b hb I5.ok (qY b hb)) mK stop) λr s6 bW=>?_
   obtain⟨hr,I6⟩:=bW;subst hr;obtain⟨m6,Ep,_⟩:=I6.loc;exact fin _ _ H5 s6 m6 (I3.kX (aT _) I6.free) Ep (back I6) q
  refine aW (T.item (X.comp (ow++fr) scope s3.heap.objs.size s3 (upd H1 s.heap.objs.size (.lst [])) fp) rfl rfl rfl hc i [] s5 kF H5 gH I5 (λb hb=>wj b hb I5.ok (qY b hb)) mK go) λr s6 bW=>?_;obtain⟨u,hr,h6⟩:=bW;subst hr;refine aW h6 λ_ s7 bW=>?_;obtain⟨x,H7,I7,r7,y7,wk,Hy⟩:=bW;have Hz:=I7.pinned (λb hb=>wj b hb I7.ok (Hy b hb)) (T.obj _ _ wk);have again:∀{jR:St}{H8:Hp}{s8:af}{zs:List V}{m':Nat},Inv (X.comp (ow++fr) scope s3.heap.objs.size s3 (upd H1 s.heap.objs.size (.lst [])) fp) ([]++vU fp s7.heap) jR H8 s8->m'<n->W (i+1) m' jR H8 zs->
   ∃m,m<n/\∃i σ' H' ys,Inv (X.comp (ow++fr) scope s3.heap.objs.size s3 (upd H1 s.heap.objs.size (.lst [])) fp) [] σ' H' s8/\tn i s8.heap/\(∀b∈fp,H' b=aE)/\W i m σ' H' ys:=λ{jR H8 s8 zs m'} I8 hm w8=>by
   refine⟨m',hm,i+1,jR,H8,zs,I8.di,T.keep _ _ _ wk λb hb o e=>(I8.pin (b,o) (ig _ (ig _ (t9 hb e)))).1,λb hb=>?_,w8⟩;obtain⟨o,e,d⟩:=T.obj _ _ wk b hb;exact(I8.pin (b,o) (ig _ (ig _ (t9 hb e)))).2.1
  refine aW (hg _ _ _ _ _ s7 kF H7 x u _ Hz r7 (step x H7 y7)) λ_ s8 bW=>?_;obtain⟨jR,H8,I8,q8⟩:=bW;refine aW (ht _ _ _ _ _ s8 jR H8 _ I8 q8) λok s9 z9=>z9.el λH9 I9 q9=>?_;cases ok with
  |false=>
   simp only[dZ,dF]at q9 ⊢;obtain⟨m',hm,w9⟩:=q9;exact again I9 hm w9
  |true=>
   simp only[bZ]at q9 ⊢;refine aW (he _ _ _ _ _ s9 jR H9 _ I9 q9) λy HA bW=>?_;obtain⟨vy,HB,HC,ry,HE,hz,m',hm,HF⟩:=bW;refine aW (G3 _ HA jR HB (.ref s.heap.objs.size) [vy] (.ref s.heap.objs.size) [y] (λv H'=>H'=upd HB s.heap.objs.size (.lst (ys++[vy]))) HC rfl (.cons ry .nil) ⟨_,ys,vy,rfl,rfl,HE,hz,rfl⟩) λ_ s11 bW=>?_;obtain⟨v11,H11,U0,_,yG⟩:=bW;subst yG;exact again U0 hm HF
 have Er:Inv (X.comp (ow++fr) scope s3.heap.objs.size s3 (upd H1 s.heap.objs.size (.lst [])) fp) [] (jl ow fr ix σ) (upd H1 s.heap.objs.size (.lst [])) {s with heap:=h₁,toks:=s.toks}:=by rw[<-AJ]at J3 ⊢;exact J3
 exact codeAny_compStart_list (loop _ Er st3) (T.self _ 0 _ _ _ st3 (loop _ Er st3))
theorem AK(S:aX X ow fr ix scope)(hc:X.calm)(hi:PI X tg iter wi)
 (hg:∀C s₀ H₀ ex,PG (X.comp (ow++fr) scope C s₀ H₀ ex) tg g) (ht:∀C s₀ H₀ ex,iX (X.comp (ow++fr) scope C s₀ H₀ ex) ifs tc) (he:∀C s₀ H₀ ex,PE (X.comp (ow++fr) scope C s₀ H₀ ex) elt te)
 (hs:∀x,foldedSetIterable iter X.env x=pure x:=by intro _;rfl):PE X (.ListComp elt [⟨tg,iter,ifs,0⟩] scope pos) (Hv X.K (jl ow fr ix) wi g tc te):=by
 intro pins s σ H Q I h;rw[eval_ListComp];refine Ds (use:=aE) rfl hs (Ej λy hy e=>I.ok.has _ (S.free y hy e)) S.kind S.names (aW (hi pins s σ H _ I h) λv s1 h1=>aW h1 λitv s2 h2=>?_);exact NR (RR:=λacc C=>compPost (model X.prog X.w) X.A X.xe aE (EP X pins σ Q) acc C) S hc hg ht he h2 λD C H' s' m _ hn hI q=>⟨m,hn,λh'' kZ=>⟨.ref D,H',hI h'' kZ,rfl,q⟩⟩
theorem U3{i:Nat}{y:Str}{py spos:Pos}(hN:X.N.Nodup)(HG:X.N[i]?=aD y)(hy:Loc X.env.scope y)(S:aX X ow fr ix scope)(hc:X.calm)(hi:PI X tg iter wi)
 (hg:∀C s₀ H₀ ex,PG (X.comp (ow++fr) scope C s₀ H₀ ex) tg g) (ht:∀C s₀ H₀ ex,iX (X.comp (ow++fr) scope C s₀ H₀ ex) ifs tc) (he:∀C s₀ H₀ ex,PE (X.comp (ow++fr) scope C s₀ H₀ ex) elt te)
 (hsw:autoParam (swapsWith (.ListComp elt [⟨tg,iter,ifs,0⟩] scope pos) (aD (.Name y py)) spos.line X.env=pure true) L2.aR1._auto_1)
 (hf:autoParam (X.fn y=true\/X.env.scope.names.lookup y=aD .local) L2.aF1._auto_1)
 (hs:∀x,foldedSetIterable iter X.env x=pure x:=by intro _;rfl):PS X (.Assign [.Name y py] (.ListComp elt [⟨tg,iter,ifs,0⟩] scope pos) spos) (qV (Hv X.K (jl ow fr ix) wi g tc te) (iz i)):=by
 intro pins s σ H D I h;rw[exec_Assign_Name_used _ _ _ _ hsw];refine aM (nD (aM ?_));show wpAny _ X.A (do let _ <-comprehension (.ListComp elt [⟨tg,iter,ifs,0⟩] scope pos) scope X.env _ (newList []) false (eval iter X.env) (aD (assign (.Name y py) X.env))) _ _ s;refine aM (fZ (Ds (use:=aD (assign (.Name y py) X.env)) (Q:=λ_ s'=>SP X pins D .next s') rfl hs (Ej λy hy e=>I.ok.has _ (S.free y hy e)) S.kind S.names
  (aW (hi pins s σ H _ I h) λv s1 h1=>aW h1 λitv s2 h2=>?_)) (λ_ s' hq=>bA (bA hq)) λ_ _ e=>e)
 refine NR (Q:=λx H1=>iz i x σ H1 D.nx) (RR:=λacc C=>compPost (model X.prog X.w) X.A X.xe (aD (assign (.Name y py) X.env)) (λ_ s'=>SP X pins D .next s') acc C) S hc hg ht he h2 λd C H' s' m hC hn hI q=>?_;show wpAny _ X.A (assign (.Name y py) X.env (.ref d)) _ _ _;have I':Inv X pins σ H' s':=by have z:=hI s'.heap (.refl ..);exact z
 refine wpAny_assign_Name (Gu I' hN HG hy (v:=.ref d) rfl (λs'' HH ⟨a,HJ,ha⟩=>?_) hf);obtain⟨c0,c1,c2,c3,c4,c5⟩:=hC;have HK:C≠a:=by rcases ha with rfl|ha;exact c1;exact λz=>c4 _ _ ha z.symm
 refine⟨m,hn.sameBut HJ HK,λh'' kZ=>⟨_,H',HH.turned (t':=s''.toks) (it:=C) (λb o hb e=>(kZ.2 b hb).trans e) c0 c1 c3 c4 c5,q⟩⟩
end
end L2
set_option maxHeartbeats 4000000
namespace L2
open PySem PySem.Spec PyProof.Rows
mutual
inductive Rp(K:aK)(M:ah->Prop)(H:Hp):V->aC->Prop
 |aQ:Rp K M H .aQ .none
 |bl (b:Bool):Rp K M H (.bl b) (.bool b)
 |int (i:Int):Rp K M H (.int i) (.int i)
 |str (x:Str):Rp K M H (.str x) (.str x)
 |tup {a:ah} {xs:List V} {ds:List aC}:bX K H a xs->¬M a->mQ K M H xs ds->Rp K M H (.ref a) (.tuple ds)
 |lst {a:ah} {xs:List V} {ds:List aC}:cC K H a xs->¬M a->mQ K M H xs ds->Rp K M H (.ref a) (.list ds)
inductive mQ(K:aK)(M:ah->Prop)(H:Hp):List V->List aC->Prop
 |nil:mQ K M H [] []
 |cons {x:V} {d:aC} {xs:List V} {ds:List aC}:Rp K M H x d->mQ K M H xs ds->mQ K M H (x::xs) (d::ds)
end
section
variable{X:Cx}{pins:List (ah×Obj)}{σ:St}{H:Hp}{s:af}{M:ah->Prop}
mutual
theorem Rp.reads(I:Inv X pins σ H s):∀{x:V} {d:aC} {u:aa},Rp X.K M H x d->RelV x u->∃as,Reads s.heap u d as
 |_,_,_,.aQ,r=>by cases r;exact⟨_,.none⟩
 |_,_,_,.bl b,r=>by cases r;exact⟨_,.bool b⟩
 |_,_,_,.int i,r=>by obtain⟨t,rfl⟩:=r;exact⟨_,.int i t⟩
 |_,_,_,.str x,r=>by obtain⟨t,rfl⟩:=r;exact⟨_,.str x t⟩
 |_,_,_,.tup h n rr,r=>by
  cases r;obtain⟨its,rv,p,_⟩:=I.tuple h;obtain⟨o,ho,hc,m,hd⟩:=p;obtain⟨as,ra⟩:=mQ.reads I rr rv;exact⟨_,.tuple ho hc hd (by simpa using ra)⟩
 |_,_,_,.lst h n rr,r=>by
  cases r;obtain⟨its,rv,p,_⟩:=I.list h;obtain⟨o,m,ho,hc,_,hd⟩:=p;obtain⟨as,ra⟩:=mQ.reads I rr rv;exact⟨_,.list ho hc hd (by simpa using ra)⟩
theorem mQ.reads(I:Inv X pins σ H s):∀{xs:List V} {ds:List aC} {us:List aa},mQ X.K M H xs ds->Vals xs us->∃as,ReadsAll s.heap us ds as
 |_,_,_,.nil,.nil=>⟨_,.nil⟩
 |_,_,_,.cons r t,.cons q v=>by
  obtain⟨as,h1⟩:=Rp.reads I r q;obtain⟨bs,h2⟩:=mQ.reads I t v;exact⟨_,.cons h1 h2⟩
end
noncomputable def AL(K:aK):R2:=λx y H Q=>∃d e,Rp K (λ_=>False) H x d/\Rp K (λ_=>False) H y e/\SeqAt.shaped d=true/\SeqAt.shaped e=true/\Q (.bl (PyData.eqv d e)) H
noncomputable def AM(K:aK):R2:=λx y H Q=>∃d e,Rp K (λ_=>False) H x d/\Rp K (λ_=>False) H y e/\SeqAt.shaped d=true/\SeqAt.shaped e=true/\Q (.bl (!PyData.eqv d e)) H
theorem U4(hu:X.A.units+64<cLine):cQ X (compareOp .Eq) (AL X.K):=by intro pins s σ H x y v u Q I rx ry h;obtain⟨d,e,r1,r2,s1,s2,q⟩:=h;obtain⟨as,ra⟩:=r1.reads I rx;obtain⟨bs,rb⟩:=r2.reads I ry;exact PyProof.Rows.eq_dataH ra rb s1 s2 hu ⟨.bl _,H,I,rfl,q⟩
theorem U5(hu:X.A.units+64<cLine):cQ X (compareOp .NotEq) (AM X.K):=by intro pins s σ H x y v u Q I rx ry h;obtain⟨d,e,r1,r2,s1,s2,q⟩:=h;obtain⟨as,ra⟩:=r1.reads I rx;obtain⟨bs,rb⟩:=r2.reads I ry;exact PyProof.Rows.ne_dataH ra rb s1 s2 hu ⟨.bl _,H,I,rfl,q⟩
end
section
variable{prog:ai}{w:aj}{A:ak}{E:aa->af->Prop}{s:af}
theorem NS{I t:ah}{k:Nat}{its:Array aa}{y:aa}{Q:aa->af->Prop}(hi:s.heap.IsTupleIter I t k)(ht:s.heap.IsTuple t its)(hy:its[k]?=aD y)
 (q:∀g,g.IsTupleIter I t (k+1)->Heap.SameBut I s.heap g->Q y {s with heap:=g}):wpAny (model prog w) A (Builtin.SmallTypes.nextOf (.ref I)) Q E s:=by
 obtain⟨oi,e1,e2,e3⟩:=id hi;obtain⟨ot,e4,_,kt,e5⟩:=ht;unfold Builtin.SmallTypes.nextOf;refine aM (xZ (name:=Str.ofString "__next__") hi.typeIs DU (vv DU hi.typeIs F.entry_tuple_iterator_next ?_ (F.args_tuple_iterator_next_1 _)));show wpAny _ _ (field (.ref I) 0 >>= _) _ _ s;refine aM (kN e1 e3 (x:=.ref t) rfl ?_);show wpAny _ _ (if(Value.ref t==Value.none)=true then _ else _) _ _ s;rw[if_neg (show ¬((Value.ref t==Value.none)=true)from λz=>nomatch z)];show wpAny _ _ (field (.ref I) 1 >>= _) _ _ s;refine aM (kN e1 e3 (x:=.int k 0) rfl ?_);show wpAny _ _ (seqItems? (.ref t) >>= _) _ _ s;refine aM (tP e4 e5 ?_);simp only[tZ,hy];refine aM (wpAny_setField e1 e3 (by simp) (bA ⟨y,rfl,bA (q _ ?_ (Heap.SameBut.update ..))⟩));refine⟨_,Heap.get?_update_self _ e1 (Obj.isFreed_of_fields (Obj.data_mapFields e3 _)),(Obj.cls_mapFields ..).trans e2,?_⟩;rw[Obj.data_mapFields e3];simp[rawInt]
theorem HL{I t:ah}{k:Nat}{its:Array aa}{Q:aa->af->Prop}(hA:A.handled=aE)(hi:s.heap.IsTupleIter I t k)(ht:s.heap.IsTuple t its)(hy:its[k]?=aE)
 (q:∀g e,Heap.ExtBut I s.heap g->(∃o,g.get? e=aD o/\o.cls=.type "StopIteration")->E (.ref e) {s with heap:=g}):wpAny (model prog w) A (Builtin.SmallTypes.nextOf (.ref I)) Q E s:=by
 obtain⟨oi,e1,e2,e3⟩:=id hi;obtain⟨ot,e4,_,kt,e5⟩:=ht;unfold Builtin.SmallTypes.nextOf;refine aM (xZ (name:=Str.ofString "__next__") hi.typeIs DU (vv DU hi.typeIs F.entry_tuple_iterator_next ?_ (F.args_tuple_iterator_next_1 _)));show wpAny _ _ (field (.ref I) 0 >>= _) _ _ s;refine aM (kN e1 e3 (x:=.ref t) rfl ?_);show wpAny _ _ (if(Value.ref t==Value.none)=true then _ else _) _ _ s;rw[if_neg (show ¬((Value.ref t==Value.none)=true)from λz=>nomatch z)];show wpAny _ _ (field (.ref I) 1 >>= _) _ _ s;refine aM (kN e1 e3 (x:=.int k 0) rfl ?_);show wpAny _ _ (seqItems? (.ref t) >>= _) _ _ s;refine aM (tP e4 e5 ?_);simp only[tZ,hy];refine aM (kO (aM (wpAny_setField e1 e3 (by simp) ?_)));show wpAny _ _ (newExc (.type "StopIteration") [] >>= _) _ _ _;refine aM ?_;simp only[newExc,newTuple];refine aM (tO ?_ (by size_fits));refine aM (m:=firstArgMember _ _) (wpAny_of_eq (a:=Value.none) (by first|rfl|(simp only[firstArgMember];rfl)) ?_);refine tO ?_ (by size_fits);simp only[raiseNew];refine aM (wpAny_handled ?_);first|rw[show A.in1.handled=aE from hA]|rw[hA]
 refine aM (bA (wpAny_throw ?_));exact q _ _ (((Heap.SameBut.update ..).extBut.push _).push _) ⟨_,iJ _ rfl,rfl⟩
end
theorem NT{h h':aB}{a:ah}{its:Array aa}(x:h.IsTuple a its)(e:∀o,h.get? a=aD o->h'.get? a=aD o):h'.IsTuple a its:=let⟨o,ho,r⟩:=x;⟨o,e _ ho,r⟩
theorem U6{prog:ai}{w:aj}{A:ak}(hA:A.handled=aE)(I t:ah)(hne:t≠I)(its:Array aa) :
 Draws prog w A I [I,t] its.size (λi v=>its[i]?=aD v) (λi h=>h.IsTupleIter I t i/\h.IsTuple t its)where
 live:=λ_ _ st=>let⟨o,ho,_⟩:=st.1;⟨o,ho⟩
 frame:=λ_ _ _ st hk=>⟨st.1.at λo e=>hk I (by simp) o e,NT st.2 λo e=>hk t (by simp) o e⟩
 item:=λi s Q E hi st q=>NS st.1 st.2 (y:=its[i]) (by simp[hi]) λg a b=>q _ g s.toks (by simp[hi]) ⟨a,st.2.extBut b.extBut hne⟩ b
 done:=λs Q E st q=>HL hA st.1 st.2 (by simp) q
theorem U7(l:ah)(its:Array aa)(n:Nat)(dc:Option ah)(sl:Array (Option aa)) :
 Meets (Builtin.«enumerate.__new__» ⟨[.type "enumerate",.ref l],[]⟩) (λ_ R s=>s.heap.get? l=aD {cls:=.type "tuple",dict:=dc,data:=.seq its n,slots:=sl}/\
  R (.ok (.ret (.ref (s.heap.push {cls:=.type "tuple_iterator",data:=.fields #[.ref l,.int 0 0]}).objs.size)))
   {s with heap:=(s.heap.push {cls:=.type "tuple_iterator",data:=.fields #[.ref l,.int 0 0]}).push {cls:=.type "enumerate",data:=.fields #[.none,.bool false,.ref s.heap.objs.size,rawInt 0,.none,.none]}}):=
 .of_wp λprog w A R s h=>by
  obtain⟨hp,g,d,tk,os⟩:=s;obtain⟨e,h⟩:=h;have hsub:=sub_enumerate;have hT:Heap.IsTuple (Shared.heap ⟨hp,g,d,tk,os⟩) l its:=⟨_,e,rfl,n,rfl⟩
  wp_walk using nU e;refine wpAny_stack_any λst=>bA ?_;split;rename_i c _ _ _ _ _;cases(c==Value.type "enumerate")<;> (wp_walk using nU e,vt hT;exact⟨_,rfl,h⟩)
  .wp_walk using nU e,vt hT
   exact⟨_,rfl,h⟩
theorem U8{prog:ai}{w:aj}{A:ak}{E:aa->af->Prop}{s:af}{l:ah}{its:Array aa}{Q:aa->af->Prop}(hL:s.heap.IsTuple l its)
 (h:∀g,IsEnum g (s.heap.objs.size+1) s.heap.objs.size 0 .none->g.IsTupleIter s.heap.objs.size l 0->g.objs.size=s.heap.objs.size+2->(∀b o,s.heap.get? b=aD o->g.get? b=aD o)->Q (.ref (s.heap.objs.size+1)) {s with heap:=g}) :
 wpAny (model prog w) A (call (.type "enumerate") [.ref l]) Q E s:=by
 obtain⟨⟨c,dc,dt,sl⟩,e1,e2,n,e3⟩:=hL
 replace e2:c=.type "tuple":=e2
 replace e3:dt=.seq its n:=e3;subst e2 e3;refine callType_new F.called_enumerate (by decide) (F.typeCall_enumerate_1 _) (F.newCall_enumerate_1 _) (λobj=>F.args_object_init_2 obj _) F.entry_enumerate_new (U7 l its n dc sl) ⟨e1,?_⟩;have hz:(s.heap.push {cls:=.type "tuple_iterator",data:=.fields #[.ref l,.int 0 0]}).objs.size=s.heap.objs.size+1:=jI ..;show _/\_;rw[hz];have he:IsEnum ((s.heap.push {cls:=.type "tuple_iterator",data:=.fields #[.ref l,.int 0 0]}).push {cls:=.type "enumerate",data:=.fields #[.none,.bool false,.ref s.heap.objs.size,rawInt 0,.none,.none]}) (s.heap.objs.size+1) s.heap.objs.size 0 .none:=by rw[<-hz];exact iJ _ rfl
 exact⟨⟨_,he,rfl⟩,h _ he ⟨_,cu _ (iJ _ rfl),rfl,rfl⟩ (by rw[jI,hz]) λb o x=>cu _ (cu _ x)⟩
noncomputable def wm(K:aK)(a:ah):It:=
 ⟨λi H=>∃xs x,bX K H a xs/\xs[i]?=aD x,λi H x H'=>∃T v,x=.ref T/\H T=aE/\H'=upd H T (.tup [.int i,v])/\∀xs,bX K H a xs->xs[i]?=aD v,λi H=>∃xs,bX K H a xs/\xs.length<=i⟩
theorem U9{P:ai}{w:aj}{K:aK}{elts:List ao}{kx:Nat}{tp:Pos}(a e it:ah)(hei:e≠it)(U':a≠e)(hai:a≠it) :
 Turn P w K (.Tuple elts kx tp) (wm K a) [e,it] e (λi h=>(∃old,IsEnum h e it i old)/\h.IsTupleIter it a i)where
 mem:=by simp
 obj:=λi h st b hb=>by
  obtain⟨⟨old,he⟩,o,ho,hc,hd⟩:=st;rcases fP.mp hb with rfl|hb;exact⟨_,he,λv z=>by
   have z':Data.fields _=Data.cell v:=z;cases z'⟩
  have e':b=it:=by simpa using hb
  subst e';exact⟨o,ho,λv z=>by rw[hd]at z;cases z⟩
 keep:=λi h h' st k=>by
  obtain⟨⟨old,he⟩,st⟩:=st;exact⟨⟨old,k e (by simp) _ he⟩,st.at λo q=>k it (by simp) o q⟩
 item:=by
  intro X hP hw hK hc i pins s σ H E I hf st hg;subst hP hw hK;obtain⟨xs,x,hq,hx⟩:=hg;obtain⟨⟨old,he⟩,st⟩:=st;obtain⟨its,rv,p,hz⟩:=I.tuple hq;obtain⟨u,hu,ru⟩:=rv.get hx;have hd:X.A.in1.handled=aE:=I.ok.hd hc;have p:s.heap.IsTuple a its.toArray:=p;refine wpAny_pyNext_enum_itemD (U6 hd it a hai its.toArray) he ⟨st,p⟩ (by
   have:i<its.length:=by rw[<-rv.length];exact(jJ.mp hx).1
   simpa using this) hei (by simp[hei,eX U']) λx' h1 tk hx' ho hit hT hsz hk=>?_
  obtain rfl:u=x':=by
   have:its[i]?=aD x':=by simpa using hx'
   rw[hu]at this;cases this;rfl
  refine⟨_,rfl,wpAny_letOwnedTupleGo_enum ho λh2 Va hs2=>?_⟩;have lJ:H s.heap.objs.size=aE:=I.hok.fresh (aT _);have NU:s.heap.objs.size≠e:=pX (cH he);have Vb:s.heap.objs.size≠it:=by obtain⟨o,q,_⟩:=st;exact pX (cH q)
  have hs2:Heap.SameBut e h1 h2:=hs2;have kk:∀b o,b≠e->b≠it->s.heap.get? b=aD o->h2.get? b=aD o:=λb o h1 h2 q=>(hs2.2 b h1).trans (hk b o h1 h2 q);have f0:=λb hb=>(hf b hb).1;have nE:∀b o,H b=aD o->b≠e/\b≠it:=λb o q=>⟨λz=>(by rw[z,f0 e (by simp)]at q;cases q),λz=>(by rw[z,f0 it (by simp)]at q;cases q)⟩
  have hT2:h2.get? s.heap.objs.size=aD {cls:=.type "tuple",data:=.seq #[.int i tk,u]}:=(hs2.2 _ NU).trans hT;have I2:Inv X pins σ (upd H s.heap.objs.size (.tup [.int i,x])) {s with heap:=h2,gens:=s.gens,drawn:=s.drawn,toks:=tk+1}:=by
   refine I.step (ch:=[e,it]) (λb hb=>?_) (λb o _ _ hc e1 _=>kk b o (λz=>hc (by simp[z])) (λz=>hc (by simp[z])) e1) (λb o _ _ hc e1 _=>⟨o.slots,kk b o (λz=>hc (by simp[z])) (λz=>hc (by simp[z])) e1⟩)
    (λb o hc e1 n=>by rw[bV (fR (cH e1))];exact n) (λb o hc e1=>⟨o,kk b o (λz=>hc (by simp[z])) (λz=>hc (by simp[z])) e1⟩)
    (λb ys q=>by rw[bV (gY q lJ)];exact q) (λb o u q=>by rw[bV (gY q lJ)];exact q) (λb ps q=>⟨#[],by rw[bV (gY q lJ),q];simp⟩) (λm hm=>?_) (λb ob q=>?_) I.bare
   obtain⟨_,a1,a2,a3,a4,a5⟩:=hf b hb;exact⟨a3,a1,a4,a5⟩;obtain⟨o,es,ep,ho',r⟩:=hm;exact⟨o,es,ep,kk _ o (eX (hf e (by simp)).2.1) (eX (hf it (by simp)).2.1) ho',r⟩;by_cases hb:b=s.heap.objs.size;subst hb;rw[iu]at q;cases q;exact⟨by show 2<=sizeLine;decide,[.int i tk,u],.cons ⟨_,rfl⟩ (.cons ru .nil),⟨_,hT2,rfl,⟨_,rfl⟩,rfl⟩⟩;rw[bV hb]at q;refine(I.hok b ob q).stay (λc v hc z=>kk c v ?_ ?_ z) (λc z=>by rw[bV (gY z lJ)];exact z) λc ys z=>by rw[bV (gY z lJ)];exact z
   rcases hc with rfl|hc;exact(nE c ob q).1;exact(nE c _ hc).1;rcases hc with rfl|hc;exact(nE c ob q).2;exact(nE c _ hc).2
  refine⟨.ref s.heap.objs.size,_,I2,rfl,⟨_,x,rfl,lJ,rfl,λys hy=>by rw[I.gx hy hq];exact hx⟩,⟨⟨u,by simpa using Va⟩,hit.1.at λo q=>(hs2.2 it (eX hei)).trans q⟩,λb hb=>?_⟩;rw[bV ?_];exact f0 b hb;rcases fP.mp hb with rfl|hb
  exact eX NU;have e':b=it:=by simpa using hb
  subst e';exact eX Vb
 done:=by
  intro X hP hw hK hc i pins s σ H E I hf st hg;subst hP hw hK;obtain⟨xs,hq,hx⟩:=hg;obtain⟨⟨old,he⟩,st⟩:=st;obtain⟨its,rv,p,hz⟩:=I.tuple hq;obtain⟨f0,f1,f2,f3,f4,f5⟩:=hf it (by simp);have hl:=rv.length;have hd:X.A.in1.handled=aE:=I.ok.hd hc;have p:s.heap.IsTuple a its.toArray:=p;refine PySem.wpAny_pyNext_enum_endD (n:=0) (P:=λ_ _=>True) (St:=λ_ h=>h.IsTupleIter it a i/\h.IsTuple a its.toArray) (fp:=[it,a]) ⟨?_,?_,?_,?_⟩ he ⟨st,p⟩ λh' eb=>⟨rfl,I.turned (t':=s.toks) (λb o hb q=>eb b o hb q) f0 f1 f3 f4 f5⟩
  exact λ_ _ st=>let⟨o,ho,_⟩:=st.1;⟨o,ho⟩;exact λ_ _ _ st hk=>⟨st.1.at λo e=>hk it (by simp) o e,NT st.2 λo e=>hk a (by simp) o e⟩
  exact λj s' Q' E' hj=>absurd hj (Nat.not_lt_zero _);exact λs' Q' E' st' q'=>HL hd st'.1 st'.2 (by simp;lia) q'
 self:=λ_ _ _ _ _ st h=>by
  obtain⟨⟨old,he⟩,_⟩:=st;exact wpAny_pyIter_enum he h
section
variable{κ:Type}[DecidableEq κ]
noncomputable def gS(kvs:List (κ×V))(k:κ):Option V:=(kvs.find? λkv=>decide (kv.1=k)).map (·.2)
noncomputable def putK(kvs:List (κ×V))(k:κ)(v:V):List (κ×V):=
 if(kvs.any λkv=>decide (kv.1=k))=true then kvs.map (λkv=>if kv.1=k then(kv.1,v)else kv)else kvs++[(k,v)]
theorem zdt{p:κ×V}{r:List (κ×V)}{k:κ}(e:p.1=k):gS (p::r) k=aD p.2:=by simp[gS,vcs,e]
theorem AN{p:κ×V}{r:List (κ×V)}{k:κ}(e:¬p.1=k):gS (p::r) k=gS r k:=by simp[gS,vcs,e]
theorem NV(k:κ):∀kvs:List (κ×V),(kvs.any λkv=>decide (kv.1=k))=(gS kvs k).isSome
 |[]=>rfl
 |p::r=>by
  rw[zC];by_cases e:p.1=k;simp only[zdt e,kq e,Bool.true_or,Option.isSome_some];rw[AN e,gX e,Bool.false_or];exact NV k r
theorem HM(kvs:List (κ×V))(k:κ)(v:V):(putK kvs k v).length<=kvs.length+1:=by unfold putK;split;rw[bz];lia;rw[eW,fD,DN];lia
theorem ir.mR{o:Option V}{u:Option aa}(r:ir o u):o.isSome=u.isSome:=by
 cases o with
 |none=>cases u with
  |none=>rfl
  |some _=>exact(show False from r).elim
 |some _=>cases u with
  |none=>exact(show False from r).elim
  |some _=>rfl
theorem KV.val{kvs:List (κ×V)}{vs:List (κ×aa)}(r:KV kvs vs)(k:κ):ir (gS kvs k) (valueAt vs k):=by
 unfold KV at r;induction r with
 |nil=>exact True.intro
 | @cons p q ps qs h t ih=>
  obtain⟨h1,h2⟩:=h;by_cases e:p.1=k;have e':q.1=k:=h1.symm.trans e;have b:valueAt (q::qs) k=aD q.2:=by simp[valueAt,vcs,e']
  rw[zdt e,b];exact h2;have e':¬q.1=k:=λz=>e (h1.trans z);have b:valueAt (q::qs) k=valueAt qs k:=by simp[valueAt,vcs,e']
  rw[AN e,b];exact ih
theorem KV.any{kvs:List (κ×V)}{vs:List (κ×aa)}(r:KV kvs vs)(k:κ):(kvs.any λkv=>decide (kv.1=k))=vs.any λkv=>decide (kv.1=k):=by
 unfold KV at r;induction r with|nil=>rfl|cons h t ih=>rw[zC,zC,ih,h.1]
theorem KV.repl{kvs:List (κ×V)}{vs:List (κ×aa)}(r:KV kvs vs)(k:κ){y:V}{u:aa}(ry:RelV y u) :
 KV (kvs.map λkv=>if kv.1=k then(kv.1,y)else kv) (vs.map λkv=>if kv.1=k then(kv.1,u)else kv):=by
 unfold KV at r ⊢;induction r with
 |nil=>exact .nil
 | @cons p q ps qs h t ih=>
  rw[gQ,gQ];refine .cons ?_ ih;obtain⟨h1,h2⟩:=h;by_cases e:p.1=k;rw[if_pos e,if_pos (h1.symm.trans e)];exact⟨h1,ry⟩;rw[if_neg e,if_neg (λz=>e (h1.trans z))];exact⟨h1,h2⟩
theorem KV.put{kvs:List (κ×V)}{vs:List (κ×aa)}(r:KV kvs vs)(k:κ){y:V}{u:aa}(ry:RelV y u):KV (putK kvs k y) (stored vs k u):=by unfold putK stored;rw[r.any k];by_cases e:(vs.any λkv=>decide (kv.1=k))=true;rw[if_pos e,if_pos e];exact r.repl k ry;rw[if_neg e,if_neg e];exact Paired.snoc r ⟨rfl,ry⟩
theorem KV.length{kvs:List (κ×V)}{vs:List (κ×aa)}(r:KV kvs vs):kvs.length=vs.length:=DX r
end
theorem lK{P:ai}{w:aj}{k:Key}{u:aa}(r:RelV (kV k) u):(kC P w).is k u=true:=by
 cases k with|inl i=>obtain⟨t,e⟩:=(show ∃t,u=Value.int i t from r);subst e;exact R5 P w i t|inr x=>obtain⟨t,e⟩:=(show ∃t,u=Value.str x t from r);subst e;exact R6 P w x t
theorem NW{P:ai}{w:aj}:∀{ks:List Key} {us:List aa},Vals (ks.map kV) us->ItemsAre (kC P w) ks us
 |[],_,r=>by rw[yi]at r;cases r;exact .nil
 |k::ks,_,r=>by
  rw[gQ]at r;cases r with|cons h t=>exact .cons (lK h) (NW t)
noncomputable abbrev KT(H:Hp):List (List Key×V)->List (List Key×ah×aa)->Prop:=Paired λp q=>p.1=q.1/\H q.2.1=aD (.tup (p.1.map kV))/\RelV p.2 q.2.2
theorem KT.val{H:Hp}{kvs:List (List Key×V)}{xs:List (List Key×ah×aa)}(r:KT H kvs xs)(k:List Key):ir (gS kvs k) ((atKey xs k).map (·.2)):=by
 induction r with
 |nil=>exact True.intro
 | @cons p q ps qs h t ih=>
  obtain⟨h1,_,h2⟩:=h;by_cases e:p.1=k;have e':q.1=k:=h1.symm.trans e;have b:atKey (q::qs) k=aD q.2:=by simp[atKey,vcs,e']
  rw[zdt e,b];exact h2;have e':¬q.1=k:=λz=>e (h1.trans z);have b:atKey (q::qs) k=atKey qs k:=by simp[atKey,vcs,e']
  rw[AN e,b];exact ih
theorem KT.repl{H:Hp}{kvs:List (List Key×V)}{xs:List (List Key×ah×aa)}(r:KT H kvs xs)(k:List Key){y:V}{u:aa}(ry:RelV y u) :
 KT H (kvs.map λkv=>if kv.1=k then(kv.1,y)else kv) (xs.map (putAt k u)):=by
 induction r with
 |nil=>exact .nil
 | @cons p q ps qs h t ih=>
  rw[gQ,gQ];refine .cons ?_ ih;obtain⟨h1,h2,h3⟩:=h;unfold putAt;by_cases e:p.1=k;rw[if_pos e,if_pos (h1.symm.trans e)];exact⟨h1,h2,ry⟩;rw[if_neg e,if_neg (λz=>e (h1.trans z))];exact⟨h1,h2,h3⟩
theorem KT.put{H:Hp}{kvs:List (List Key×V)}{xs:List (List Key×ah×aa)}(r:KT H kvs xs)(k:List Key){b:ah}{y:V}{u:aa}(hb:H b=aD (.tup (k.map kV)))(ry:RelV y u) :
 KT H (putK kvs k y) (storedH xs k b u):=by
 have e:(kvs.any λkv=>decide (kv.1=k))=(atKey xs k).isSome:=by rw[NV,(r.val k).mR,Option.isSome_map]
 unfold putK storedH;rw[e];by_cases q:(atKey xs k).isSome=true;rw[if_pos q,if_pos q];exact r.repl k ry;rw[if_neg q,if_neg q];exact Paired.snoc r ⟨rfl,hb,ry⟩
theorem KT.keeps{H H':Hp}{kvs:List (List Key×V)}{xs:List (List Key×ah×aa)}(r:KT H kvs xs)(ht:∀b ys,H b=aD (.tup ys)->H' b=aD (.tup ys)):KT H' kvs xs:=
 Paired.vN r λ_ _ z=>⟨z.1,ht _ _ z.2.1,z.2.2⟩
section
variable{P:ai}{w:aj}{H:Hp}{h:aB}{a:ah}
theorem ue{u:HO}(ok:fm P w H h)(e:Rd H a u):aZ P w H h a u:=e.ok ok
theorem lM{kvs:List (Key×V)}(ok:fm P w H h)(e:Rd H a (.dK kvs)):kvs.length<=sizeLine/\(a==sysModules)=false/\∃vs,KV kvs vs/\h.DictOf (kC P w) a vs:=
 show aZ P w H h a (.dK kvs)from ue ok e
theorem uf{kvs:List (Key×V)}(ok:fm P w H h)(e:H a=aD (.dK kvs)):kvs.length<=sizeLine/\(a==sysModules)=false/\∃vs,KV kvs vs/\h.DictOf (kC P w) a vs:=lM ok (.inl e)
theorem HN{ks:List Key}(ok:fm P w H h)(e:H a=aD (.tup (ks.map kV))):(tupleKind (kC P w)).is h ks a:=by
 obtain⟨_,its,r,o,h1,h2,⟨n,h3⟩,_⟩:=(show aZ P w H h a (.tup (ks.map kV))from ok a _ e)
 exact⟨o,its.toArray,n,h1,h2,h3,by simpa using NW r⟩
theorem oq{kvs:List (List Key×V)}(ok:fm P w H h)(e:Rd H a (.dT kvs)):kvs.length<=sizeLine/\(a==sysModules)=false/\
 ∃xs,KT H kvs xs/\h.DictOfH (tupleKind (kC P w)) a xs:=by
 obtain⟨z,y,xs,r,o,es,ep,h1,h2,h3,h4,h5⟩:=(show aZ P w H h a (.dT kvs)from ue ok e)
 refine⟨z,y,xs,r,o,es,ep,h1,h2,h3,h4,λx hx=>?_,h5⟩;have all:∀{l:List (List Key×V)}{m:List (List Key×ah×aa)},KT H l m->∀x∈m,(tupleKind (kC P w)).is h x.1 x.2.1:=by
  intro l m q;induction q with
  |nil=>intro x hx;exact nomatch hx
  | @cons p q ps qs hq t ih=>
   intro x hx;rcases fP.mp hx with e|hx
   subst e;exact HN ok (by rw[<-hq.1];exact hq.2.1);exact ih x hx
 exact all r x hx
theorem AO{kvs:List (List Key×V)}(ok:fm P w H h)(e:H a=aD (.dT kvs)):kvs.length<=sizeLine/\(a==sysModules)=false/\
 ∃xs,KT H kvs xs/\h.DictOfH (tupleKind (kC P w)) a xs:=oq ok (.inl e)
end
noncomputable def rG(H:Hp)(a:ah)(y:V)(r:Option V):Prop:=
 (∃kvs k,Rd H a (.dK kvs)/\y=kV k/\r=gS kvs k)\/∃kvs k b,Rd H a (.dT kvs)/\y=.ref b/\H b=aD (.tup (k.map kV))/\r=gS kvs k
noncomputable def rH(H:Hp)(a:ah)(y v:V)(H':Hp):Prop:=
 (∃kvs k,H a=aD (.dK kvs)/\y=kV k/\kvs.length<sizeLine/\H'=upd H a (.dK (putK kvs k v)))\/
 ∃kvs k b,H a=aD (.dT kvs)/\y=.ref b/\H b=aD (.tup (k.map kV))/\kvs.length<sizeLine/\H'=upd H a (.dT (putK kvs k v))
theorem rH.k{H:Hp}{a:ah}{kvs:List (Key×V)}{k:Key}{v:V}(e:H a=aD (.dK kvs))(hl:kvs.length<sizeLine):rH H a (kV k) v (upd H a (.dK (putK kvs k v))):=.inl ⟨kvs,k,e,rfl,hl,rfl⟩
section
variable{X:Cx}{pins:List (ah×Obj)}{σ:St}{H:Hp}{s:af}{a:ah}{y v:V}{u r:aa}{o:Option V}{A:ak}{E:aa->af->Prop}
theorem Inv.big(I:Inv X pins σ H s):sysModules<s.heap.objs.size:=by have h:mainGlobals<s.heap.objs.size:=(I.mod.glob.keeps I.bk).lt;exact Nat.lt_trans (by decide) h
theorem Vc{Q:aa->af->Prop}(hu:A.units+1<cLine)(I:Inv X pins σ H s)(g:rG H a y (aD v))(ry:RelV y u)(h:∀w' s',Inv X pins σ H s'->RelV v w'->Q w' s') :
 wpAny (model X.prog X.w) A (getItem (.ref a) u) Q E s:=by
 rcases g with⟨kvs,k,e,ey,l⟩|⟨kvs,k,b,e,ey,eb,l⟩;subst ey;obtain⟨z,hd,vs,rel,dd⟩:=lM I.hok e;obtain⟨w',hw,rw'⟩:=ir.some_of (v:=v) (o:=valueAt vs k) (by rw[l];exact rel.val k);exact wpAny_getItem_of (lK ry) dd.mapOf hw (h w' _ (I.tok _) rw');subst ey;cases(show u=Value.ref b from ry);obtain⟨z,hd,xs,rel,dd⟩:=oq I.hok e;obtain⟨w',hw,rw'⟩:=ir.some_of (v:=v) (o:=(atKey xs k).map (·.2)) (by rw[l];exact rel.val k);obtain⟨p,hp,hp2⟩:=Option.map_eq_some_iff.mp hw;refine wpAny_getItem_heap (tupleKind_room_in1 hu) (HN I.hok eb) dd hp ?_;rw[hp2];exact h w' _ (I.tok _) rw'
theorem HP{h':aB}{t':Nat}{ob:HO}(I:Inv X pins σ H s)(mu:zL (H a))(hs:Heap.SameBut a s.heap h')(he:∃q,h'.get? a=aD q)(new:aZ X.prog X.w (upd H a ob) h' a ob) :
 Inv X pins σ (upd H a ob) {s with heap:=h',toks:=t'}:=
 I.write (x:=a) (e:=a) mu (.inl rfl) (λb q hb z=>(hs.2 b hb).trans z) he new
theorem NX{P:ai}{w:aj}{H':Hp}{h':aB}{kvs:List (Key×V)}{vs:List (Key×aa)}(z:kvs.length<=sizeLine)(hd:(a==sysModules)=false)(rel:KV kvs vs)(dd:h'.DictOf (kC P w) a vs) :
 aZ P w H' h' a (.dK kvs):=⟨z,hd,vs,rel,dd⟩
theorem Vd{H':Hp}{Q:Unit->af->Prop}(hu:A.units+1<cLine)(I:Inv X pins σ H s)(g:rH H a y v H')(ry:RelV y u)(rv:RelV v r)(h:∀s',Inv X pins σ H' s'->Q () s') :
 wpAny (model X.prog X.w) A (setItem (.ref a) u r) Q E s:=by
 rcases g with⟨kvs,k,e,ey,l,eH⟩|⟨kvs,k,b,e,ey,eb,l,eH⟩;subst ey eH;obtain⟨z,hd,vs,rel,dd⟩:=uf I.hok e;have hz:vs.length<=sizeLine:=by rw[<-rel.length];exact z
 have hl:(putK kvs k v).length<=sizeLine:=by have:=HM kvs k v;lia
 refine wpAny_setItem_pairs (hsz:=hz) (lK ry) dd λh' wo hs=>h _ ?_;have he:∃q,h'.get? a=aD q:=let⟨q,_,_,hq,_⟩:=wo;⟨q,hq⟩;exact HP I (by rw[e];exact True.intro) hs he (NX hl hd (rel.put k rv) wo);subst ey eH;cases(show u=Value.ref b from ry);obtain⟨z,hd,xs,rel,dd⟩:=AO I.hok e;have hz:xs.length<=sizeLine:=by rw[<-DX rel];exact z
 have hl:(putK kvs k v).length<=sizeLine:=by have:=HM kvs k v;lia
 refine wpAny_setItem_heap (hsz:=hz) (tupleKind_room_in1 hu) (HN I.hok eb) dd λh' wo hs=>h _ ?_;obtain⟨q,es,ep,hq,h2,h3,h4,_,h5⟩:=wo;refine HP I (by rw[e];exact True.intro) hs ⟨q,hq⟩ ⟨hl,hd,_,(rel.put k eb rv).keeps λc ys ec=>?_,q,es,ep,hq,h2,h3,h4,h5⟩;rw[bV (cP ec e (λz=>nomatch z))];exact ec
end
theorem Ve{X:Cx}{pins:List (ah×Obj)}{σ:St}{H:Hp}{s:af}{a:ah}{y:V}{o:Option V}(I:Inv X pins σ H s)(g:rG H a y o):s.TypeIs (.ref a) "dict":=by rcases g with⟨kvs,k,e,_,_⟩|⟨kvs,k,b,e,_,_,_⟩;obtain⟨_,_,vs,_,dd⟩:=lM I.hok e;exact dd.typeIs;obtain⟨_,_,xs,_,dd⟩:=oq I.hok e;exact dd.typeIs
theorem NY{P:ai}{w:aj}{H:Hp}(h:aB)(hb:sysModules<h.objs.size):aZ P w H (h.push {cls:=.type "dict",data:=.dict #[]}) h.objs.size (.dK []):=
 ⟨gf _,Dq.mpr (eX (fR hb)),[],.nil,Heap.DictOf.new h⟩
noncomputable def Vf:TE:=λ_ H Q=>∀p,H p=aE->Q (.ref p) (upd H p (.dK []))
section
variable{X:Cx}{pos:Pos}
theorem Vg:PE X (.Dict [] [] pos) Vf:=λpins s σ H Q I h=>
 wpAny_Dict_empty ⟨.ref s.heap.objs.size,_,I.laid (a:=s.heap.objs.size) (o:=.dK []) (t':=s.toks) (λ_ _ q=>cu _ q) (aT _) (NY s.heap I.big),rfl,h _ (I.hok.fresh (aT _))⟩
end
noncomputable def Es:List (TE×TE)->St->Hp->(List (V×V)->Hp->Prop)->Prop|[],_,H,Q=>Q [] H|(tk,tv)::r,σ,H,Q=>tk σ H λx H1=>tv σ H1 λy H2=>Es r σ H2 λps H3=>Q ((x,y)::ps) H3
noncomputable abbrev VV:List (V×V)->List (aa×aa)->Prop:=Paired λp q=>RelV p.1 q.1/\RelV p.2 q.2
noncomputable def AQ(X:Cx)(pos:Pos)(keys:List (Option ao))(values:List ao)(lN:List (TE×TE)):Prop:=
 ∀(pins:List (ah×Obj))(s:af)(σ:St)(H:Hp)(Q:List (V×V)->Hp->Prop),Inv X pins σ H s->Es lN σ H Q->
  wpAny (model X.prog X.w) X.A (evalPairs (pairTrees keys values X.env pos)) (λvs s'=>∃ps H',Inv X pins σ H' s'/\VV ps vs/\Q ps H') X.xe s
theorem Vh{X:Cx}{pos:Pos}:AQ X pos [] [] []:=λpins s σ H Q I h=>pairTrees_nil_walk ⟨[],H,I,.nil,h⟩
theorem Vi{X:Cx}{pos:Pos}{k v:ao}{ks:List (Option ao)}{vs:List ao}{tk tv:TE}{lN:List (TE×TE)}(hk:PE X k tk)(hv:PE X v tv)(hr:AQ X pos ks vs lN) :
 AQ X pos (aD k::ks) (v::vs) ((tk,tv)::lN):=λpins s σ H Q I h=>
 pairTrees_cons_walk (aW (hk pins s σ H _ I h) λu s1 z9=>z9.el λx H1 I1 rx q1=>aW (hv pins s1 σ H1 _ I1 q1) λw2 s2 z9=>z9.el λy H2 I2 ry q2=>
  aW (hr pins s2 σ H2 _ I2 q2) λws s3 ⟨ps,H3,I3,rel,q3⟩=>⟨(x,y)::ps,H3,I3,.cons ⟨rx,ry⟩ rel,q3⟩)
noncomputable def ug(kvs more:List (Key×V)):List (Key×V):=more.foldl (λacc kv=>putK acc kv.1 kv.2) kvs
theorem KV.merge:∀{more:List (Key×V)} {rs:List (Key×aa)} {kvs:List (Key×V)} {vs:List (Key×aa)},KV more rs->KV kvs vs->KV (ug kvs more) (merged vs rs):=by
 intro more rs kvs vs r;unfold KV at r;induction r generalizing kvs vs with
 |nil=>intro q;exact q
 | @cons p q ps qs h t ih=>
  intro r0;have e:KV (putK kvs p.1 p.2) (stored vs q.1 q.2):=by have:=r0.put p.1 h.2;rw[<-h.1];exact this
  exact ih e
theorem NZ:∀(more kvs:List (Key×V)),(ug kvs more).length<=kvs.length+more.length
 |[],kvs=>by show kvs.length<=kvs.length+0;lia
 |p::r,kvs=>by
  have h1:=NZ r (putK kvs p.1 p.2);have h2:=HM kvs p.1 p.2;show(ug (putK kvs p.1 p.2) r).length<=_;rw[fD];lia
theorem N1{P:ai}{w:aj}:∀{kvs:List (Key×V)} {ws:List (aa×aa)},VV (kvs.map λkv=>(kV kv.1,kv.2)) ws->∃rs,Carries (kC P w) ws rs/\KV kvs rs
 |[],_,r=>by rw[yi]at r;cases r;exact⟨[],True.intro,.nil⟩
 |p::kvs,_,r=>by
  rw[gQ]at r;cases r with
  | @cons a b as bs h t=>
   obtain⟨rs,c,q⟩:=N1 (P:=P) (w:=w) t;obtain⟨b1,b2⟩:=b;exact⟨(p.1,b2)::rs,⟨lK h.1,rfl,c⟩,.cons ⟨rfl,h.2⟩ q⟩
noncomputable def AR(lN:List (TE×TE)):TE:=λσ H Q=>∀p,H p=aE->Es lN σ (upd H p (.dK [])) λps H2=>H2 p=aD (.dK [])/\∃kvs:List (Key×V),ps=kvs.map (λkv=>(kV kv.1,kv.2))/\kvs.length<=15/\Q (.ref p) (upd H2 p (.dK (ug [] kvs)))
theorem Vj{X:Cx}{pos:Pos}{keys:List (Option ao)}{values:List ao}{lN:List (TE×TE)}(h:AQ X pos keys values lN)(hall:keys.all (·.isSome))(hl:keys.length=values.length)(h0:keys≠[])
 (HQ:keys.length<=15):PE X (.Dict keys values pos) (AR lN):=by
 intro pins s σ H Q I q;have hn:=I.hok.fresh (aT s.heap.objs.size);have I1:=I.laid (a:=s.heap.objs.size) (o:=.dK []) (h':=s.heap.push {cls:=.type "dict",data:=.dict #[]}) (t':=s.toks) (λ_ _ q=>cu _ q) (aT _) (NY s.heap I.big);refine wpAny_Dict_walk (knd:=kC X.prog X.w) hall hl h0 HQ (aW (h pins _ σ _ _ I1 (q _ hn)) λws s2 bW=>?_);obtain⟨ps,H2,I2,rel,e,kvs,ep,lk,q2⟩:=bW;subst ep;obtain⟨rs,c,rk⟩:=N1 (P:=X.prog) (w:=X.w) rel;obtain⟨z,hd,N2,r0,dd⟩:=uf I2.hok e;cases r0;refine⟨rs,c,dd,λh' wo hs=>⟨.ref s.heap.objs.size,_,?_,rfl,q2⟩⟩;have hz:(ug [] kvs).length<=sizeLine:=by have h1:=NZ kvs [];rw[DN]at h1;rw[zl];lia
 have he:∃q,h'.get? s.heap.objs.size=aD q:=let⟨q,_,_,hq,_⟩:=wo;⟨q,hq⟩;exact HP I2 (by rw[e];exact True.intro) hs he (NX hz hd (rk.merge .nil) wo)
noncomputable def jS(e tg iter:ao)(ifs:List ao)(it acc:aa)(env:Env)(emit:Sem Unit):Sem Fin:=do
 standAt iter.pos
 match <-pyNext it with
 |none=>pure (.done .next)
 |some v=>
  letOwnedTupleGo tg it v
  assign tg env v
  let ok <-yF ifs env
  if ok then emit
  again (.compLoop e 0 it acc env)
theorem Vk{prog:ai}{w:aj}{A:ak}{R:Result->af->Prop}{s:af}{e target iter:ao}{ifs:List ao}{it acc:aa}{env:Env}{emit:Sem Unit}(he:compTurn e 0 it acc env=jS e target iter ifs it acc env emit)
 (hd:(model prog w).den (.compLoop e 0 it acc env)=(compTurn e 0 it acc env).onRaise (λx=>do noteFrame x env;theTreesLotGoes x)) (hA:A.under (.compLoop e 0 it acc env)=A) (I:Nat->af->Prop)
 (turn:∀n s,I n s->wpAny (model prog w) A (pyNext it) (λr s₁=>match r with
   |none=>R (.ok .next) s₁
   |some v=>wpAny (model prog w) A (letOwnedTupleGo target it v) (λ_ s₀=>wpAny (model prog w) A (assign target env v) (λ_ s₂=>
    wpAny (model prog w) A (yF ifs env) (λok s₃=>
     if ok=true then wpAny (model prog w) A emit (λ_ s₅=>∃m,m<n/\I m s₅) gH s₃
     else ∃m,m<n/\I m s₃) gH s₂) gH s₀) gH s₁) gH s)
 (n:Nat) (h:I n s):codeAny (model prog w) A (.compLoop e 0 it acc env) R s:=by
 refine codeAny_loop rfl I (λn s hI=>?_) n h;rw[hd,hA];refine wpAny_noted (Ht ?_);rw[he];unfold jS;refine aM (nD (aM (fZ (turn n s hI) (λr s₁ h₁=>?_) λ_ _ z=>z)));cases r with
 |none=>exact bA h₁
 |some v=>
  refine aM (fZ h₁ (λ_ s₀ h₀=>?_) λ_ _ z=>z);refine aM (fZ h₀ (λ_ s₂ h₂=>aM (fZ h₂ (λok s₃ h₃=>?_) λ_ _ z=>z)) λ_ _ z=>z);cases ok with
  |true=>
   simp only[bZ]at h₃ ⊢;exact aM (fZ h₃ (λ_ s₅ h₅=>bA ⟨rfl,h₅⟩) λ_ _ z=>z)
  |false=>
   simp only[dZ,dF]at h₃ ⊢;exact bA ⟨rfl,h₃⟩
theorem Vl{prog:ai}{w:aj}{A:ak}{R:Result->af->Prop}{s:af}{e target iter:ao}{ifs:List ao}{rest:List Comprehension}{it acc:aa}{env:Env}(hcl:clausesOf e=⟨target,iter,ifs,0⟩::rest)
 (hd:(model prog w).den (.compStart e 0 it acc env)=(compStart e 0 it acc env).onRaise (λx=>do noteFrame x env;standAt theWindowsPlace)) (hA:A.under (.compStart e 0 it acc env)=A)
 (h0:codeAny (model prog w) A (.compLoop e 0 it acc env) R s)
 (h:wpAny (model prog w) A (pyIter it) (λj s'=>codeAny (model prog w) A (.compLoop e 0 j acc env) R s') (notedBy (model prog w) A env λx s'=>R (.error x) s') s) :
 codeAny (model prog w) A (.compStart e 0 it acc env) R s:=by
 refine codeAny_of_tree ?_;rw[hd,hA];refine wpAny_notedAt ?_;unfold compStart;rw[hcl];show wpAny _ _ (ask >>= _) _ _ s;refine aM (wpAny_askSetting (yc ?_));split;first
  |exact aM (bA (bA (And.intro rfl h0)))
  |exact bA (And.intro rfl h0)
 first
  |exact aM (kO (aM (nD (aM (fZ h (λj s' h'=>bA ⟨rfl,h'⟩) λ_ _ z=>z)))))
  |(refine aM (kO ?_);show wpAny _ _ (standAt iter.pos >>= _) _ _ s;exact aM (nD (aM (fZ h (λj s' h'=>bA ⟨rfl,h'⟩) λ_ _ z=>z))))
noncomputable abbrev TM:=St->Hp->(St->Hp->Prop)->Prop
noncomputable def PM(X:Cx)(emit:Sem Unit)(t:TM):Prop:=∀(pins:List (ah×Obj)) (s:af) (σ:St) (H:Hp) (Q:St->Hp->Prop),Inv X pins σ H s->t σ H Q->wpAny (model X.prog X.w) X.A emit (λ_ s'=>∃σ' H',Inv X pins σ' H' s'/\Q σ' H') X.xe s
structure lO(P:ai)(w:aj)(e tg iter:ao)(ifs:List ao)(emit:aa->Env->Sem Unit)(newAcc:Sem aa)(ob:Obj)(u0:HO):Prop where
 cl:∃rest,clausesOf e=⟨tg,iter,ifs,0⟩::rest
 turn:∀it acc env,compTurn e 0 it acc env=jS e tg iter ifs it acc env (emit acc env)
 dl:∀it acc env,(model P w).den (.compLoop e 0 it acc env)=(compTurn e 0 it acc env).onRaise (λx=>do noteFrame x env;theTreesLotGoes x)
 ds:∀it acc env,(model P w).den (.compStart e 0 it acc env)=(compStart e 0 it acc env).onRaise (λx=>do noteFrame x env;standAt theWindowsPlace)
 al:∀(A:ak) it acc env,A.under (.compLoop e 0 it acc env)=A
 as:∀(A:ak) it acc env,A.under (.compStart e 0 it acc env)=A
 new:∀(A:ak)(s:af)(Q:aa->af->Prop)(E:aa->af->Prop),Q (.ref s.heap.objs.size) {s with heap:=s.heap.push ob}->wpAny (model P w) A newAcc Q E s
 ok:∀(H:Hp)(h:aB),sysModules<h.objs.size->aZ P w H (h.push ob) h.objs.size u0
noncomputable def uh(J:It)(f:St)(g:TG)(tc:TT)(tm:TM)(u0:HO)(D:ah)(H1:Hp)(Q:Hp->Prop):Prop:=
 ∃W:Nat->Nat->St->Hp->Prop,(∃m,W 0 m f (upd H1 D u0))/\∀i m σ' H',W i m σ' H'->
  ((J.stop i H'/\Q H')\/(J.go i H'/\∀x H2,J.vS i H' x H2->g x σ' H2 λσ2 H3=>tc σ2 H3 λb H4=>
    if b=true then tm σ2 H4 λkF H5=>∃m',m'<m/\W (i+1) m' kF H5
    else ∃m',m'<m/\W (i+1) m' σ2 H4))
noncomputable def HR(K:aK)(f:St->St)(wi:TI)(g:TG)(tc:TT)(tm:ah->TM)(u0:HO):TE:=λσ H Q=>wi σ H λJ H1=>∀D,H1 D=aE->K.lookup D=aE->uh J (f σ) g tc (tm D) u0 D H1 λH'=>Q (.ref D) H'
section
variable{X:Cx}{ow fr:List Str}{ix:List Nat}{scope:aA}{e tg iter:ao}{ifs:List ao}{pos:Pos}{wi:TI}{g:TG}{tc:TT}{tm:ah->TM}{emit:aa->Env->Sem Unit}{newAcc:Sem aa}{ob:Obj}{u0:HO}
theorem N3{pins:List (ah×Obj)}{s:af}{σ:St}{Q:VK}{RR:aa->ah->Result->af->Prop}(CK:lO X.prog X.w e tg iter ifs emit newAcc ob u0)(S:aX X ow fr ix scope)(hc:X.calm=true)
 (hg:∀C s₀ H₀ ex,PG (X.comp (ow++fr) scope C s₀ H₀ ex) tg g) (ht:∀C s₀ H₀ ex,iX (X.comp (ow++fr) scope C s₀ H₀ ex) ifs tc) (he:∀C s₀ H₀ ex D,PM (X.comp (ow++fr) scope C s₀ H₀ ex) (emit (.ref D) (X.comp (ow++fr) scope C s₀ H₀ ex).env) (tm D))
 {itv:aa} {E:aa->af->Prop}
 (h:Ea X pins σ tg (λJ H1=>∀D,H1 D=aE->X.K.lookup D=aE->uh J (jl ow fr ix σ) g tc (tm D) u0 D H1 λH'=>Q (.ref D) H') itv s)
 (fin:∀D C H' s' m,dR X pins H' C->s'.heap.Ns C m->(∀h'',Heap.SameBut C s'.heap h''->Inv X pins σ H' {s' with heap:=h''})->Q (.ref D) H'->RR (.ref D) C (.ok .next) s') :
 wpAny (model X.prog X.w) X.A newAcc (λacc s₃=>wpAny (model X.prog X.w) X.A (newFunctionEnv scope X.env.globals (jk X.env.cells scope.names []) [] X.env.qual aE .none (aD X.env)) (λcenv s₄=>
  codeAny (model X.prog X.w) X.A (.compStart e 0 itv acc {cenv with scope:=relabel scope X.env}) (RR acc cenv.locals) s₄) E s₃) E s:=by
 obtain⟨it,fp,tn,J,H1,ei,I1,T,st1,f1,hq⟩:=h;subst ei;have hD:H1 s.heap.objs.size=aE:=I1.hok.fresh (aT _);have Hw:X.K.lookup s.heap.objs.size=aE:=by
  cases q:X.K.lookup s.heap.objs.size with|none=>rfl|some o=>exact absurd (cH (I1.iV _ _ q)) (jG _)
 obtain⟨W,⟨m0,w0⟩,turn⟩:=hq _ hD Hw;have I3:Inv X pins σ (upd H1 s.heap.objs.size u0) {s with heap:=s.heap.push ob}:=I1.laid (t':=s.toks) (o:=u0) (λb u q=>cu _ q) (aT _) (CK.ok _ _ I1.big);have om:∀b∈fp,b<s.heap.objs.size:=λb hb=>by
  obtain⟨o,ho,_⟩:=T.obj _ _ st1 b hb;exact cH ho
 have f3:∀b∈fp,dR X pins (upd H1 s.heap.objs.size u0) b:=λb hb=>⟨by rw[bV (fR (om b hb))];exact(f1 b hb).1,(f1 b hb).2⟩
 refine CK.new _ _ _ _ (NK (λx c e=>(I3.cell x c (Ek (cells:=X.env.cells) scope.names [] (λx c e=>by cases e) x c e)).elim λv q=>q.lt) (λh₁ hns hk0 hnc=>?_));dsimp only at hns hk0 hnc ⊢;generalize AJ:({s with heap:=s.heap.push ob}:af)=s3 at I3;have we:s3.heap=s.heap.push ob:=by rw[<-AJ]
 rw[<-we]at hns hk0 hnc ⊢;have hk:∀b o,s3.heap.get? b=aD o->h₁.get? b=aD o:=hk0;have wg:∀b∈fp,b<s3.heap.objs.size:=λb hb=>by rw[we,jI];exact tQ (om b hb)
 have J3:=NO S I3 f3 wg (tk:=s.toks) hns hk hnc;have st3:tn 0 h₁:=T.keep _ _ _ st1 λb hb o q=>hk b o (by rw[we];exact cu _ q);generalize mS:X.comp (ow++fr) scope s3.heap.objs.size s3 (upd H1 s.heap.objs.size u0) fp=Y at J3;have wj:∀b∈fp,Y.Ok->∀{H':Hp},H' b=aE->dR Y [] H' b:=λb hb ok H' hn=>by
  subst mS;exact⟨hn,(ok.yy b hb).1,ok.mJ b hb,.inl hb,(ok.yy b hb).2,λp hp=>by cases(show p∈([]:List (ah×Obj))from hp)⟩
 have back:∀{σ':St}{H':Hp}{s':af},Inv Y [] σ' H' s'->∀h'',Heap.SameBut s3.heap.objs.size s'.heap h''->Inv X pins σ H' {s' with heap:=h''}:=λ{σ' H' s'} I' h'' hs=>by
  subst mS;have nJ:∀b o,s3.heap.get? b=aD o->b≠s3.heap.objs.size:=λb o q=>fR (cH q);have un:Un (frs X.stack) fp (upd H1 s.heap.objs.size u0) H' s3.heap h'':=
   ⟨λb o q n hb hx=>(hs.2 b (nJ b o q)).trans (I'.base.keep b o q n hb hx),λb o q n hb hx=>by
    obtain⟨sl,z⟩:=I'.base.slot b o q n hb hx;exact⟨sl,(hs.2 b (nJ b o q)).trans z⟩,I'.base.free,λb o q hx=>by
    obtain⟨o',z⟩:=I'.base.there b o q hx;exact⟨o',(hs.2 b (nJ b o q)).trans z⟩,I'.base.tups,I'.base.iw,I'.base.iL⟩
  have hok:fm X.prog X.w H' h'':=λb ob q=>by
   refine(I'.hok b ob q).stay (λc w' hcc z=>(hs.2 c ?_).trans z) (λ_ z=>z) λ_ _ z=>z;rintro rfl;have hfree:=I'.free;rcases hcc with rfl|hcc
   rw[show H' s3.heap.objs.size=aE from hfree]at q;cases q;rw[show H' s3.heap.objs.size=aE from hfree]at hcc;cases hcc
  have hos:s'.os=s3.os:=I'.os;exact I3.t7 (s':={s' with heap:=h''}) (ch:=fp) hos un hok I'.bare λb hb=>by
   obtain⟨_,a1,a2,a3,a4,a5⟩:=f1 b hb;exact⟨a3,a1,a4,a5⟩
 have AS:Y.prog=X.prog:=by subst mS;rfl
 have AU:Y.w=X.w:=by subst mS;rfl
 have N4:Y.K=X.K:=by subst mS;rfl
 have AV:Y.A=X.A:=by subst mS;rfl
 have N5:Y.calm=true:=by rw[<-mS];exact hc
 have HS:Y.xe=gH:=by subst mS;rfl
 have N6:Y.env.locals=s3.heap.objs.size:=by subst mS;rfl
 have hg':PG Y tg g:=by rw[<-mS];exact hg _ _ _ _
 have ht':iX Y ifs tc:=by rw[<-mS];exact ht _ _ _ _
 have he':∀D,PM Y (emit (.ref D) Y.env) (tm D):=λD=>by rw[<-mS];exact he _ _ _ _ D
 have loop:∀s4:af,Inv Y [] (jl ow fr ix σ) (upd H1 s.heap.objs.size u0) s4->tn 0 s4.heap->codeAny (model X.prog X.w) X.A (.compLoop e 0 (.ref it) (.ref s.heap.objs.size) Y.env) (RR (.ref s.heap.objs.size) s3.heap.objs.size) s4:=by
  intro s4 I4 Hx;refine Vk (CK.turn _ _ _) (CK.dl _ _ _) (CK.al _ _ _ _) (λn s'=>∃i σ' H',Inv Y [] σ' H' s'/\tn i s'.heap/\(∀b∈fp,H' b=aE)/\W i n σ' H') ?_ m0 ⟨0,_,_,I4,Hx,λb hb=>(f3 b hb).1,w0⟩;rintro n s5 ⟨i,kF,H5,I5,mK,qY,w5⟩;rcases turn i n kF H5 w5 with⟨stop,q⟩|⟨go,step⟩
  .have td:=T.done Y AS AU N4 N5 i [] s5 kF H5 gH I5 (λb hb=>wj b hb I5.ok (qY b hb)) mK stop
   rw[AV]at td;refine aW td λr s6 bW=>?_;obtain⟨hr,I6⟩:=bW;subst hr;obtain⟨m6,Ep,_⟩:=I6.loc;rw[N6]at Ep;have N7:=I6.free;rw[N6]at N7;exact fin _ _ H5 s6 m6 (I3.kX (aT _) N7) Ep (back I6) q
  have td:=T.item Y AS AU N4 N5 i [] s5 kF H5 gH I5 (λb hb=>wj b hb I5.ok (qY b hb)) mK go;rw[AV]at td;refine aW td λr s6 bW=>?_;obtain⟨u,hr,h6⟩:=bW;subst hr;refine aW h6 λ_ s7 bW=>?_;obtain⟨x,H7,I7,r7,y7,wk,Hy⟩:=bW;have Hz:=I7.pinned (λb hb=>wj b hb I7.ok (Hy b hb)) (T.obj _ _ wk);have again:∀{jR:St}{H8:Hp}{s8:af}{m':Nat},Inv Y ([]++vU fp s7.heap) jR H8 s8->m'<n->W (i+1) m' jR H8->∃m,m<n/\∃i σ' H',Inv Y [] σ' H' s8/\tn i s8.heap/\(∀b∈fp,H' b=aE)/\W i m σ' H':=λ{jR H8 s8 m'} I8 hm w8=>by
   refine⟨m',hm,i+1,jR,H8,I8.di,T.keep _ _ _ wk λb hb o q=>(I8.pin (b,o) (ig _ (ig _ (t9 hb q)))).1,λb hb=>?_,w8⟩;obtain⟨o,q,d⟩:=T.obj _ _ wk b hb;exact(I8.pin (b,o) (ig _ (ig _ (t9 hb q)))).2.1
  have q7:=hg' _ s7 kF H7 x u _ Hz r7 (step x H7 y7);rw[AS,AU,AV,HS]at q7;refine aW q7 λ_ s8 bW=>?_;obtain⟨jR,H8,I8,q8⟩:=bW;have q8:=ht' _ s8 jR H8 _ I8 q8;rw[AS,AU,AV,HS]at q8;refine aW q8 λok s9 z9=>z9.el λH9 I9 q9=>?_;cases ok with
  |false=>
   simp only[dZ,dF]at q9 ⊢;obtain⟨m',hm,w9⟩:=q9;exact again I9 hm w9
  |true=>
   simp only[bZ]at q9 ⊢;have N8:=he' _ _ s9 jR H9 _ I9 q9;rw[AS,AU,AV,HS]at N8;exact aW N8 λ_ HA ⟨Vm,HB,HC,m',hm,HF⟩=>again HC hm HF
 have Er:Inv Y [] (jl ow fr ix σ) (upd H1 s.heap.objs.size u0) {s with heap:=h₁,toks:=s.toks}:=by rw[<-AJ]at J3;exact J3
 have hl:=loop _ Er st3;obtain⟨rest,hcl⟩:=CK.cl;have fin':=Vl hcl (CK.ds _ _ _) (CK.as _ _ _ _) hl (T.self _ 0 _ _ _ st3 hl);rw[<-mS]at fin';exact fin'
theorem AW(CK:lO X.prog X.w e tg iter ifs emit newAcc ob u0)(hev:eval e X.env=comprehension e scope X.env pos newAcc false (eval iter X.env))(S:aX X ow fr ix scope)(hc:X.calm)(hi:PI X tg iter wi)
 (hg:∀C s₀ H₀ ex,PG (X.comp (ow++fr) scope C s₀ H₀ ex) tg g) (ht:∀C s₀ H₀ ex,iX (X.comp (ow++fr) scope C s₀ H₀ ex) ifs tc) (he:∀C s₀ H₀ ex D,PM (X.comp (ow++fr) scope C s₀ H₀ ex) (emit (.ref D) (X.comp (ow++fr) scope C s₀ H₀ ex).env) (tm D))
 (hs:∀x,foldedSetIterable iter X.env x=pure x):PE X e (HR X.K (jl ow fr ix) wi g tc tm u0):=by
 intro pins s σ H Q I h;rw[hev];obtain⟨rest,hcl⟩:=CK.cl;refine Ds (use:=aE) hcl hs (Ej λy hy e=>I.ok.has _ (S.free y hy e)) S.kind S.names (aW (hi pins s σ H _ I h) λv s1 h1=>aW h1 λitv s2 h2=>?_);exact N3 (RR:=λacc C=>compPost (model X.prog X.w) X.A X.xe aE (EP X pins σ Q) acc C) CK S hc hg ht he h2 λD C H' s' m _ hn hI q=>⟨m,hn,λh'' kZ=>⟨.ref D,H',hI h'' kZ,rfl,q⟩⟩
theorem Vn{i:Nat}{y:Str}{py spos:Pos}(CK:lO X.prog X.w e tg iter ifs emit newAcc ob u0)(hev:∀use,evalThenUse e X.env use=(do let _ <-comprehension e scope X.env pos newAcc false (eval iter X.env) (aD use)))(hN:X.N.Nodup)(HG:X.N[i]?=aD y)(hy:Loc X.env.scope y)(S:aX X ow fr ix scope)(hc:X.calm)(hi:PI X tg iter wi)
 (hg:∀C s₀ H₀ ex,PG (X.comp (ow++fr) scope C s₀ H₀ ex) tg g) (ht:∀C s₀ H₀ ex,iX (X.comp (ow++fr) scope C s₀ H₀ ex) ifs tc) (he:∀C s₀ H₀ ex D,PM (X.comp (ow++fr) scope C s₀ H₀ ex) (emit (.ref D) (X.comp (ow++fr) scope C s₀ H₀ ex).env) (tm D))
 (hsw:swapsWith e (aD (.Name y py)) spos.line X.env=pure true) (hf:X.fn y=true\/X.env.scope.names.lookup y=aD .local)
 (hs:∀x,foldedSetIterable iter X.env x=pure x):PS X (.Assign [.Name y py] e spos) (qV (HR X.K (jl ow fr ix) wi g tc tm u0) (iz i)):=by
 intro pins s σ H D I h;rw[exec_Assign_Name_used _ _ _ _ hsw];refine aM (nD (aM ?_));rw[hev];obtain⟨rest,hcl⟩:=CK.cl;refine aM (fZ (Ds (use:=aD (assign (.Name y py) X.env)) (Q:=λ_ s'=>SP X pins D .next s') hcl hs (Ej λy hy e=>I.ok.has _ (S.free y hy e)) S.kind S.names
  (aW (hi pins s σ H _ I h) λv s1 h1=>aW h1 λitv s2 h2=>?_)) (λ_ s' hq=>bA (bA hq)) λ_ _ e=>e)
 refine N3 (Q:=λx H1=>iz i x σ H1 D.nx) (RR:=λacc C=>compPost (model X.prog X.w) X.A X.xe (aD (assign (.Name y py) X.env)) (λ_ s'=>SP X pins D .next s') acc C) CK S hc hg ht he h2 λd C H' s' m hC hn hI q=>?_;show wpAny _ X.A (assign (.Name y py) X.env (.ref d)) _ _ _;have I':Inv X pins σ H' s':=hI s'.heap (.refl ..);refine wpAny_assign_Name (Gu I' hN HG hy (v:=.ref d) rfl (λs'' HH ⟨a,HJ,ha⟩=>?_) hf);obtain⟨c0,c1,c2,c3,c4,c5⟩:=hC;have HK:C≠a:=by rcases ha with rfl|ha;exact c1;exact λz=>c4 _ _ ha z.symm
 exact⟨m,hn.sameBut HJ HK,λh'' kZ=>⟨_,H',HH.turned (t':=s''.toks) (it:=C) (λb o hb q=>(kZ.2 b hb).trans q) c0 c1 c3 c4 c5,q⟩⟩
end
theorem Vo:fillsNumberSlot (.type "tuple") "mul" = pure false:=
 PySem.fillsNumberSlot_seq (id:="tuple.__mul__") (r:=aD (.builtin "tuple.__rmul__")) zG.lookup (by decide +kernel) F.slot_tuple_rmul.lookup (by decide +kernel)
theorem Vp:seqRepeat? (.type "tuple")=pure (aD (.builtin "tuple.__mul__")):=by unfold seqRepeat?;rw[PySem.seqSlot_of (T:="tuple") (name:="__mul__") (id:="tuple.__mul__") zG.lookup (by decide +kernel),PySem.seqSlot_of (T:="tuple") (name:="__rmul__") (id:="tuple.__rmul__") F.slot_tuple_rmul.lookup (by decide +kernel)];rfl
theorem Vq(k:Int)(t:Tok)(l:ah)(its:Array aa)(n:Nat)(dd:Option ah)(sl:Array (Option aa)) :
 Meets (Builtin.«int.__rmul__» ⟨[.int k t,.ref l],[]⟩) (λ_ R s=>s.heap.get? l=aD {cls:=.type "tuple",dict:=dd,data:=.seq its n,slots:=sl}/\R (.ok (.ret Value.notImplemented)) s):=
 .of_wp λprog w A R s h=>by
  obtain⟨hp,g,d,tk,os⟩:=s;obtain⟨e,h⟩:=h
  wp_walk using nU e;exact⟨_,rfl,h⟩
theorem Vr(l:ah)(its:Array aa)(n:Nat)(dd:Option ah)(sl:Array (Option aa))(k:Int)(t:Tok)(h1:¬(decide (k < -(2 ^ 63))||decide (k>=2 ^ 63)))(h2:(its.isEmpty||k==1)) :
 Meets (Builtin.«tuple.__mul__» ⟨[.ref l,.int k t],[]⟩) (λ_ R s=>s.heap.get? l=aD {cls:=.type "tuple",dict:=dd,data:=.seq its n,slots:=sl}/\R (.ok (.ret (.ref l))) s):=
 .of_wp λprog w A R s h=>by
  obtain⟨hp,g,d,tk,os⟩:=s;obtain⟨e,h⟩:=h;have f1:=AutoSeq1.idx_int
  wp_walk using nU e;refine yc ?_;rw[if_neg h1]
  wp_walk using nU e;exact⟨_,rfl,h⟩
theorem Vs(l:ah)(its:Array aa)(n:Nat)(dd:Option ah)(sl:Array (Option aa))(k:Int)(t:Tok)(h1:¬(decide (k < -(2 ^ 63))||decide (k>=2 ^ 63)))(h2:¬(its.isEmpty||k==1))(h3:(decide (k<=0)||its.isEmpty)) :
 Meets (Builtin.«tuple.__mul__» ⟨[.ref l,.int k t],[]⟩) (λ_ R s=>s.heap.get? l=aD {cls:=.type "tuple",dict:=dd,data:=.seq its n,slots:=sl}/\R (.ok (.ret (.ref s.heap.objs.size))) {s with heap:=s.heap.push {cls:=.type "tuple",data:=.seq #[]}}):=
 .of_wp λprog w A R s h=>by
  obtain⟨hp,g,d,tk,os⟩:=s;obtain⟨e,h⟩:=h;have f1:=AutoSeq1.idx_int
  wp_walk using nU e;refine yc ?_;rw[if_neg h1]
  wp_walk using nU e;exact⟨_,rfl,h⟩
theorem Vt(l:ah)(its:Array aa)(n:Nat)(dd:Option ah)(sl:Array (Option aa))(k:Int)(t:Tok)(h1:¬(decide (k < -(2 ^ 63))||decide (k>=2 ^ 63)))(h2:¬(its.isEmpty||k==1))(h3:¬(decide (k<=0)||its.isEmpty)=true)
 (h4:¬(its.size*k> (2 ^ 63-1)/8)) (h5:¬Builtin.Tuple.tupleTooMany (its.size*k)) (h6:((bD k.toNat its).foldl (· ++ ·) #[]).size<=sizeLine) :
 Meets (Builtin.«tuple.__mul__» ⟨[.ref l,.int k t],[]⟩) (λ_ R s=>s.heap.get? l=aD {cls:=.type "tuple",dict:=dd,data:=.seq its n,slots:=sl}/\R (.ok (.ret (.ref s.heap.objs.size))) {s with heap:=s.heap.push {cls:=.type "tuple",data:=.seq ((bD k.toNat its).foldl (· ++ ·) #[])}}):=
 .of_wp λprog w A R s h=>by
  obtain⟨hp,g,d,tk,os⟩:=s;obtain⟨e,h⟩:=h;have f1:=AutoSeq1.idx_int
  wp_walk using nU e;refine yc ?_;rw[if_neg h1]
  wp_walk using nU e;refine yc ?_;rw[if_neg h4]
  wp_walk using nU e;exact⟨_,rfl,h⟩
section
variable{X:Cx}
noncomputable def um(K:aK):R2:=λx y H Q=>∃a k xs,x=.ref a/\y=.int k/\bX K H a xs/\-(2 ^ 62)<=k/\k<2 ^ 62/\xs.length*k.toNat<=sizeLine/\
 ((xs.isEmpty||k==1)=true->Q (.ref a) H)/\((xs.isEmpty||k==1)=false->∀p,H p=aE->Q (.ref p) (upd H p (.tup (bD k.toNat xs).flatten)))
theorem N9{xs:List V}{us:List aa}(r:Vals xs us):us.toArray.isEmpty=xs.isEmpty:=by cases r<;>rfl
theorem Vu:cQ X (binaryOp .Mult) (um X.K):=by
 intro pins s σ H x y v u Q I rx ry h;obtain⟨a,k,xs,rfl,rfl,ha,k1,k2,hz,q1,q2⟩:=h;cases rx;obtain⟨t,rfl⟩:=ry;obtain⟨its,r,p,_⟩:=I.tuple ha;obtain⟨⟨c,dd,dt,sl⟩,e1,e2,n,e3⟩:=p
 replace e2:c=.type "tuple":=e2
 replace e3:dt=.seq its.toArray n:=e3;subst e2 e3;have hl:xs.length=its.length:=r.length;have h1:¬(decide (k < -(2 ^ 63))||decide (k>=2 ^ 63))=true:=by simp only[pY,fj];lia
 refine wpAny_binaryOp_repeat_ref (T:="tuple") (U:="int") (by decide) ⟨_,e1,rfl⟩ (λs'=>typeIs_int s' k t) Vo F.fills_int_mul F.slot_int_rmul Vp F.slot_int_index.lookup
  (qI F.slot_int_rmul (typeIs_int s k t) F.entry_int_rmul (F.args_int_rmul_2 _ _) (Vq k t a its.toArray n dd sl) ⟨e1,rfl,⟨_,e1,rfl⟩,?_⟩)
 by_cases h2:(its.toArray.isEmpty||k==1)=true;refine qI zG ⟨_,e1,rfl⟩ F.entry_tuple_mul (F.args_tuple_mul_2 _ _) (Vr a its.toArray n dd sl k t h1 h2) ⟨e1,?_⟩;exact⟨.ref a,H,I,rfl,q1 (by rw[<-N9 r];exact h2)⟩;have q2:=q2 (by rw[<-N9 r];simpa using h2);by_cases h3:(decide (k<=0)||its.toArray.isEmpty)=true;have hk:k.toNat=0:=by
  have:its.toArray.isEmpty=false:=by
   cases q:its.toArray.isEmpty with|false=>rfl|true=>rw[q]at h2;exact absurd rfl h2
  rw[this,Bool.or_false,fj]at h3;lia
 refine qI zG ⟨_,e1,rfl⟩ F.entry_tuple_mul (F.args_tuple_mul_2 _ _) (Vs a its.toArray n dd sl k t h1 h2 h3) ⟨e1,?_⟩;rw[hk]at q2;exact⟨.ref s.heap.objs.size,_,I.laid (t':=s.toks) (o:=.tup []) (λb ob q=>cu _ q) (aT _) ⟨gf _,[],.nil,kR.new _ _⟩,rfl,q2 _ (I.hok.fresh (aT _))⟩;have hk:0<k:=by simp only[pY,fj,not_or]at h3;lia
 have hkn:((k.toNat:Nat):Int)=k:=Int.toNat_of_nonneg (by lia);have hmul:(its.toArray.size:Int)*k=((xs.length*k.toNat:Nat):Int):=by rw[cG,<-hl,Int.natCast_mul,hkn]
 have hsl:(sizeLine:Nat)=16777216:=rfl;have fl:(bD k.toNat its.toArray).foldl (· ++ ·) #[]=(bD k.toNat its).flatten.toArray:=by
  have:=NB its k.toNat []
  rw[yh]at this;exact this
 refine qI zG ⟨_,e1,rfl⟩ F.entry_tuple_mul (F.args_tuple_mul_2 _ _) (Vt a its.toArray n dd sl k t h1 h2 h3 (by rw[hmul];lia) (by
  unfold Builtin.Tuple.tupleTooMany;rw[hmul,fj];lia) (by rw[fl,cG,ND,Nat.mul_comm,<-hl];exact hz)) ⟨e1,?_⟩
 rw[fl];exact⟨.ref s.heap.objs.size,_,I.laid (t':=s.toks) (o:=.tup (bD k.toNat xs).flatten) (λb ob q=>cu _ q) (aT _) ⟨by rw[ND,Nat.mul_comm];exact hz,_,r.rep k.toNat,kR.new _ _⟩,rfl,q2 _ (I.hok.fresh (aT _))⟩
noncomputable def Oa(K:aK):R2:=λx y H Q=>∃a b ys,x=.ref a/\y=.ref b/\bX K H a []/\bX K H b ys/\Q (.ref b) H
theorem Vv:cQ X (binaryOp .Add) (Oa X.K):=by
 intro pins s σ H x y v u Q I rx ry h;obtain⟨a,b,ys,rfl,rfl,ha,hb,q⟩:=h;cases rx;cases ry;obtain⟨its,r1,p1,_⟩:=I.tuple ha;obtain⟨its2,r2,p2,_⟩:=I.tuple hb;cases r1;obtain⟨⟨c,dd,dt,sl⟩,e1,e2,n,e3⟩:=p1;obtain⟨⟨c2,dd2,Vw,sl2⟩,f1,f2,n2,f3⟩:=p2
 replace e2:c=.type "tuple":=e2
 replace e3:dt=.seq ([]:List aa).toArray n:=e3
 replace f2:c2=.type "tuple":=f2
 replace f3:Vw=.seq its2.toArray n2:=f3;subst e2 e3 f2 f3;exact concat_meets ⟨_,e1,rfl⟩ ⟨_,f1,rfl⟩ zh zk zF zE (zD _ _) (tuple_addW0 a b ([]:List aa).toArray its2.toArray n n2 dd dd2 sl sl2 rfl) ⟨e1,f1,⟨.ref b,H,I,rfl,q⟩⟩
noncomputable def fy(ds:List aC)(d:aC):Bool:=ds.any λe=>PyData.eqv e d
noncomputable def rJ(K:aK)(neg:Bool):R2:=λx y H Q=>∃p xs ds d,y=.ref p/\(cC K H p xs\/bX K H p xs)/\mQ K (λ_=>False) H xs ds/\Rp K (λ_=>False) H x d/\ds.all SeqAt.shaped=true/\SeqAt.shaped d=true/\Q (.bl (if neg then !fy ds d else fy ds d)) H
theorem HU{h:aB}:∀{us:List aa} {ds:List aC} {as:List ah} {i:Nat} {u:aa},ReadsAll h us ds as->us[i]?=aD u->∃d bs,ds[i]?=aD d/\Reads h u d bs
 |_,_,_,i,u,.nil,e=>by simp at e
 |_,_,_,0,u,.cons r _,e=>by simp at e;subst e;exact⟨_,_,rfl,r⟩
 |_,_,_,i+1,u,.cons _ rs,e=>by
  obtain⟨d,bs,h1,h2⟩:=HU rs (by simpa using e);exact⟨d,bs,by simpa using h1,h2⟩
open Classical in
noncomputable def eF(us:List aa)(ds:List aC)(d:aC)(u:aa):Bool:=decide (∃(i:Nat) (e:aC),us[i]?=aD u/\ds[i]?=aD e/\PyData.eqv e d=true)
open Classical in
theorem Et{us:List aa}{ds:List aC}{d:aC}{u:aa}:eF us ds d u=true↔∃(i:Nat) (e:aC),us[i]?=aD u/\ds[i]?=aD e/\PyData.eqv e d=true:=by unfold eF;exact decide_eq_true_iff
theorem Eu{us:List aa}{ds:List aC}{d:aC}(hl:us.length=ds.length):us.any (eF us ds d)=fy ds d:=by
 cases q:fy ds d with
 |true=>
  unfold fy at q;rw[List.any_eq_true]at q;obtain⟨e,h1,h2⟩:=q;obtain⟨i,hi,h3⟩:=List.mem_iff_getElem.mp h1;rw[List.any_eq_true];refine⟨us[i]'(by lia),iK _,?_⟩;rw[Et];exact⟨i,e,by simp,by rw[eT hi,h3],h2⟩
 |false=>
  unfold fy at q;rw[List.any_eq_false]at q ⊢;intro u hu z;rw[Et]at z;obtain⟨i,e,h1,h2,h3⟩:=z;exact q e (jg h2) h3
theorem AX{h:aB}:∀{us:List aa} {ds:List aC} {as:List ah},ReadsAll h us ds as->us.length=ds.length|_,_,_,.nil=>rfl|_,_,_,.cons _ r=>by rw[fD,fD,AX r]
theorem Ew{A:ak}{s:af}{us:List aa}{ds:List aC}{as bs:List ah}{d:aC}{v:aa}(hu:A.units+64<cLine)(ra:ReadsAll s.heap us ds as)(rb:Reads s.heap v d bs)(s1:ds.all SeqAt.shaped)(s2:SeqAt.shaped d) :
 ∀u∈us,SeqAt.EqAt A s u v (eF us ds d u):=by
 intro u hm;have sh:∀(i:Nat)(e:aC),ds[i]?=aD e->SeqAt.shaped e=true:=λi e q=>nH.mp s1 e (jg q);cases q:eF us ds d u with
 |true=>
  rw[Et]at q;obtain⟨i,e,h1,h2,h3⟩:=q;obtain⟨e',cs,h4,h5⟩:=HU ra h1;rw[h2]at h4;cases h4;have:=SeqAt.eqAt_reads e d A s u v cs bs h5 rb (DW (sh i e h2)) (DW s2) (SeqAt.room_of_shaped (sh i e h2) hu);rw[h3]at this;exact this
 |false=>
  obtain⟨i,hi,h1⟩:=List.mem_iff_getElem.mp hm;have h1:us[i]?=aD u:=by rw[eT hi,h1]
  obtain⟨e,cs,h4,h5⟩:=HU ra h1;have h3:PyData.eqv e d=false:=by
   cases z:PyData.eqv e d with
   |false=>rfl
   |true=>
    rw[Et.mpr ⟨i,e,h1,h4,z⟩]at q;cases q
  have:=SeqAt.eqAt_reads e d A s u v cs bs h5 rb (DW (sh i e h4)) (DW s2) (SeqAt.room_of_shaped (sh i e h4) hu);rw[h3]at this;exact this
theorem Vx(hu:X.A.in1.units+64<cLine):cQ X (compareOp .In) (rJ X.K false):=by
 intro pins s σ H x y v u Q I rx ry h;obtain⟨p,xs,ds,d,rfl,hq,r1,r2,s1,s2,q⟩:=h;cases ry;obtain⟨bs,rb⟩:=r2.reads I rx;rcases hq with hq|hq
 obtain⟨its,r,pl,hz⟩:=I.list hq;obtain⟨as,ra⟩:=r1.reads I r;refine SeqAt.in_listAt (eF its ds d) pl.isList (λw hw=>Ew hu ra rb s1 s2 w (by simpa using hw)) ⟨.bl _,H,I,rfl,?_⟩;rw[show its.toArray.any (eF its ds d)=its.any (eF its ds d) by simp,Eu (AX ra)];exact q;obtain⟨its,r,pl,hz⟩:=I.tuple hq;obtain⟨as,ra⟩:=r1.reads I r;refine SeqAt.in_tupleAt (eF its ds d) pl (λw hw=>Ew hu ra rb s1 s2 w (by simpa using hw)) ⟨.bl _,H,I,rfl,?_⟩;rw[show its.toArray.any (eF its ds d)=its.any (eF its ds d) by simp,Eu (AX ra)];exact q
theorem Vy(hu:X.A.in1.units+64<cLine):cQ X (compareOp .NotIn) (rJ X.K true):=by
 intro pins s σ H x y v u Q I rx ry h;obtain⟨p,xs,ds,d,rfl,hq,r1,r2,s1,s2,q⟩:=h;cases ry;obtain⟨bs,rb⟩:=r2.reads I rx;rcases hq with hq|hq
 obtain⟨its,r,pl,hz⟩:=I.list hq;obtain⟨as,ra⟩:=r1.reads I r;refine SeqAt.notIn_listAt (eF its ds d) pl.isList (λw hw=>Ew hu ra rb s1 s2 w (by simpa using hw)) ⟨.bl _,H,I,rfl,?_⟩;rw[show its.toArray.any (eF its ds d)=its.any (eF its ds d) by simp,Eu (AX ra)];exact q;obtain⟨its,r,pl,hz⟩:=I.tuple hq;obtain⟨as,ra⟩:=r1.reads I r;refine SeqAt.notIn_tupleAt (eF its ds d) pl (λw hw=>Ew hu ra rb s1 s2 w (by simpa using hw)) ⟨.bl _,H,I,rfl,?_⟩;rw[show its.toArray.any (eF its ds d)=its.any (eF its ds d) by simp,Eu (AX ra)];exact q
end
end L2
namespace HT
open PySem PySem.Spec PyProof.Rows
section
variable{prog:ai}{w:aj}{A:ak}{E:aa->af->Prop}{s:af}
theorem eZ{t sl:ah}{items:Array aa}{vl vu:aa}{lo hi:Option Int}{Q:aa->af->Prop}(ht:IsTup s.heap t items)(hs:s.heap.IsSliceOf sl vl vu .none)(pl:IsPart vl lo)(pu:IsPart vu hi)
 (hw:bF items.size 0 lo=0/\bF items.size items.size hi=items.size)
 (h:Q (.ref t) s):wpAny (model prog w) A (getItem (.ref t) (.ref sl)) Q E s:=by
 obtain⟨os,hos,hcs,hds⟩:=id hs;have GZ:s.TypeIs (.ref sl) "slice":=⟨os,hos,hcs⟩
 unfold getItem
 try with_reducible refine nO ?_
 first|refine aM (bA ?_)|skip
 refine aM (wpAny_sequenceKey ht.typeIs (by decide) ?_);refine aM (xZ (name:=Str.ofString "__getitem__") ht.typeIs yk
  (vv yk ht.typeIs entry_tuple_getitem ?_ (args_tuple_getitem _ _)))
 show wpAny _ _ (Builtin.Tuple.tupleItemsOf (.ref t) >>= _) _ _ s;refine aM (tupleItemsOf_ ht ?_);refine aM (Du GZ ?_);rw[if_pos (by decide)];refine aM (Nr hs pl pu ?_);have hyes:((((bF items.size 0 lo:Nat):Int)==0&& (1:Int)==1&& (bF items.size items.size hi-bF items.size 0 lo)==items.size)):=by rw[hw.1,hw.2];simp
 show wpAny _ _ (if(((bF items.size 0 lo:Nat):Int)==0&& (1:Int)==1&& (bF items.size items.size hi-bF items.size 0 lo)==items.size)=true then _ else _) _ _ s;rw[if_pos hyes];unfold Builtin.Tuple.tupleIsExact;refine aM (aM (Du ht.typeIs (bA ?_)));rw[if_pos (by decide)];refine aM (kO ?_);exact bA ⟨_,rfl,bA h⟩
end
end HT
namespace L2
open PySem PySem.Spec PyProof.Rows
variable{X:Cx}
noncomputable def AY(K:aK):V->Option Int->Option Int->Hp->VK->Prop:=λx lo hi H Q=>∃a xs,x=.ref a/\bX K H a xs/\
 (HT.bF xs.length 0 lo=0/\HT.bF xs.length xs.length hi=xs.length)/\Q (.ref a) H
theorem Vz:rF X (AY X.K):=by
 intro pins s σ H x v vl vu lo hi sl Q I rx hs pl pu h;obtain⟨a,xs,rfl,hx,hw,q⟩:=h;cases rx;obtain⟨its,r,ht,hz⟩:=I.tuple hx;have hlen:its.toArray.size=xs.length:=by rw[cG];exact r.length.symm
 refine⟨"tuple",_,yk.lookup,ht.typeIs,?_⟩;refine HT.eZ ht hs pl pu (by rw[hlen];exact hw) ?_;exact⟨.ref a,_,I,rfl,q⟩
noncomputable def HV(K:aK):V->Option Int->Option Int->Hp->VK->Prop:=λx lo hi H Q=>(Aw K x lo hi H Q\/AY K x lo hi H Q)\/AB K x lo hi H Q
theorem VA:rF X (HV X.K):=(Ut.or Vz).or UB
noncomputable def ZI(b:Bool)(h:aB)(I l:ah)(k:Nat):Prop:=match b with|true=>h.IsTupleIter I l k|false=>h.IsListIter I l k
noncomputable def ZS(b:Bool)(h:aB)(l:ah)(xs:Array aa):Prop:=match b with|true=>h.IsTuple l xs|false=>h.IsList l xs
noncomputable def AZ(b:Bool):String:=match b with|true=>"tuple_iterator" |false=>"list_iterator"
noncomputable def Ex(b:Bool)(l:ah):Obj:={cls:=.type (AZ b),data:=.fields #[.ref l,.int 0 0]}
theorem ZI.ex{b:Bool}{h h':aB}{I l c:ah}{k:Nat}(x:ZI b h I l k)(s:Heap.ExtBut c h h')(n:I≠c):ZI b h' I l k:=by cases b;exact Heap.IsListIter.extBut x s n;exact Heap.IsTupleIter.extBut x s n
theorem ZS.ex{b:Bool}{h h':aB}{l c:ah}{xs:Array aa}(x:ZS b h l xs)(s:Heap.ExtBut c h h')(n:l≠c):ZS b h' l xs:=by cases b;exact Heap.IsList.extBut x s n;exact Heap.IsTuple.extBut x s n
theorem ZI.mv{b:Bool}{h h':aB}{I l:ah}{k:Nat}(x:ZI b h I l k)(e:∀o,h.get? I=aD o->h'.get? I=aD o):ZI b h' I l k:=by cases b;exact Heap.IsListIter.at x e;exact Heap.IsTupleIter.at x e
theorem ZI.ob{b:Bool}{h:aB}{I l:ah}{k:Nat}(x:ZI b h I l k):∃o,h.get? I=aD o/\∀v,o.data≠.cell v:=by cases b;obtain⟨o,h1,h2,h3⟩:=x;exact⟨o,h1,λv z=>by rw[h3]at z;cases z⟩;obtain⟨o,h1,h2,h3⟩:=x;exact⟨o,h1,λv z=>by rw[h3]at z;cases z⟩
theorem ZS.lt{b:Bool}{h:aB}{l:ah}{xs:Array aa}(x:ZS b h l xs):l<h.objs.size:=by cases b<;> (obtain⟨o,h1,_⟩:=x;exact cH h1)
theorem ZS.push{b:Bool}{h:aB}{l:ah}{xs:Array aa}(x:ZS b h l xs)(o:Obj):ZS b (h.push o) l xs:=by cases b;exact Heap.IsList.push x o;exact Heap.IsTuple.push x o
section
variable{prog:ai}{w:aj}{A:ak}{E:aa->af->Prop}{s:af}
theorem HW{b:Bool}{I l:ah}{k:Nat}{xs:Array aa}{y:aa}{Q:aa->af->Prop}(hi:ZI b s.heap I l k)(hl:ZS b s.heap l xs)(hy:xs[k]?=aD y)
 (q:∀g,ZI b g I l (k+1)->Heap.SameBut I s.heap g->Q y {s with heap:=g}):wpAny (model prog w) A (Builtin.SmallTypes.nextOf (.ref I)) Q E s:=by
 cases b;exact wpAny_nextOf_list_item hi hl hy q;exact NS hi hl hy q
theorem z_end{b:Bool}{I l:ah}{k:Nat}{xs:Array aa}{Q:aa->af->Prop}(hA:A.handled=aE)(hi:ZI b s.heap I l k)(hl:ZS b s.heap l xs)(hy:xs[k]?=aE)
 (q:∀g e,Heap.ExtBut I s.heap g->(∃o,g.get? e=aD o/\o.cls=.type "StopIteration")->E (.ref e) {s with heap:=g}):wpAny (model prog w) A (Builtin.SmallTypes.nextOf (.ref I)) Q E s:=by
 cases b;exact wpAny_nextOf_list_end hA hi hl hy q;exact HL hA hi hl hy q
structure ZA(z TI TO i1 i2 l1 l2:ah):Prop where
 a1:TI≠z/\TO≠z/\i1≠z/\i2≠z
 a2:TI≠TO/\TI≠i1/\TI≠i2/\TO≠i1/\TO≠i2/\i1≠i2
 a3:l1≠z/\l1≠TO/\l1≠i1/\l1≠i2
 a4:l2≠z/\l2≠TO/\l2≠i1/\l2≠i2
theorem VB{n l1 l2:Nat}(h1:l1<n)(h2:l2<n):ZA (n+4) (n+2) (n+3) n (n+1) l1 l2:=by have e:∀{a b:Nat},(a<b\/b<a)->a≠b:=λh=>h.elim fR pX;refine⟨⟨?_,?_,?_,?_⟩,⟨?_,?_,?_,?_,?_,?_⟩,⟨?_,?_,?_,?_⟩,?_,?_,?_,?_⟩<;>exact e (by lia)
theorem VC{b c:Bool}{z TI TO i1 i2 l1 l2:ah}{k:Nat}{xs ys:Array aa}{x y p q:aa}{Q:aa->af->Prop}(D:ZA z TI TO i1 i2 l1 l2)
 (hz:IsZip s.heap z TI TO .none) (hTI:IsPair s.heap TI (.ref i1) (.ref i2)) (hTO:IsPair s.heap TO p q)
 (h1:ZI b s.heap i1 l1 k) (h2:ZI c s.heap i2 l2 k) (hl1:ZS b s.heap l1 xs) (hl2:ZS c s.heap l2 ys) (hx:xs[k]?=aD x) (hy:ys[k]?=aD y)
 (hQ:∀h',IsZip h' z TI TO (rawInt s.heap.objs.size)->IsPair h' TO x y->ZI b h' i1 l1 (k+1)->ZI c h' i2 l2 (k+1)->IsPair h' s.heap.objs.size x y->h'.objs.size=s.heap.objs.size+1->
   (∀c o,c≠z->c≠TO->c≠i1->c≠i2->s.heap.get? c=aD o->h'.get? c=aD o)->Q (.ref s.heap.objs.size) {s with heap:=h'}) :
 wpAny (model prog w) A (Builtin.«zip.__next__» ⟨[.ref z],[]⟩) (λfin s'=>∃v,fin=.done (.ret v)/\Q v s') E s:=by
 obtain⟨⟨d1,d2,d3,d4⟩,⟨d5,d6,d7,d8,d9,A0⟩,⟨Ey,VD,VE,VF⟩,HX,HY,HZ,VG⟩:=D;show wpAny _ _ (field (.ref z) 2 >>= _) _ _ _;refine aM (kN hz rfl (x:=.bool false) rfl ?_);show wpAny _ _ (field (.ref z) 3 >>= _) _ _ _;refine aM (kN hz rfl (x:=.ref TI) rfl (aM (tP hTI rfl ?_)));show wpAny _ _ (Builtin.SmallTypes.ownedTupleIsFree (.ref z) >>= _) _ _ _;refine aM ?_;unfold Builtin.SmallTypes.ownedTupleIsFree;refine aM (kN hz rfl (x:=.none) rfl (bA ?_));simp only[bZ];refine aM (kO (aM (kN hz rfl (x:=.ref TO) rfl (aM (ya hz (by simp) λg1 z1 s1=>?_)))))
 replace z1:IsZip g1 z TI TO .ellipsis:=z1;refine aM ?_;simp only[List.zipIdx_cons,List.zipIdx_nil,zB,vF];refine aM (aM (Dt ?_));show wpAny _ _ (Builtin.SmallTypes.nextOf (.ref i1) >>= _) _ _ _;refine aM (HW (h1.ex s1.extBut d3) (hl1.ex s1.extBut Ey) hx λg2 y1 s2=>bA ?_);have t2:IsPair g2 TO p q:=s2.extBut _ _ d8 (s1.extBut _ _ d2 hTO);refine aM (tP t2 rfl (aM (wpAny_updateSeq_pair t2 λg3 t3 s3=>?_)))
 replace t3:IsPair g3 TO x q:=t3;refine aM (wpAny_letGo (bA (aM (aM (Dt ?_)))));show wpAny _ _ (Builtin.SmallTypes.nextOf (.ref i2) >>= _) _ _ _;refine aM (HW (((h2.ex s1.extBut d4).ex s2.extBut (eX A0)).ex s3.extBut (eX d9)) (((hl2.ex s1.extBut HX).ex s2.extBut HZ).ex s3.extBut HY) hy λg4 y2 s4=>bA ?_);have t4:IsPair g4 TO x q:=s4.extBut _ _ d9 t3;refine aM (tP t4 rfl (aM (wpAny_updateSeq_pair t4 λg5 t5 s5=>?_)))
 replace t5:IsPair g5 TO x y:=t5;refine aM (wpAny_letGo (bA (bA (aM (tP t5 rfl (aM (wpAny_newTuple ?_)))))));have hsz:g5.objs.size=s.heap.objs.size:=by rw[s5.1,s4.1,s3.1,s2.1,s1.1]
 have z5:IsZip g5 z TI TO .ellipsis:=s5.extBut _ _ (eX d2) (s4.extBut _ _ (eX d4) (s3.extBut _ _ (eX d2) (s2.extBut _ _ (eX d3) z1)));have k5:∀c o,c≠z->c≠TO->c≠i1->c≠i2->s.heap.get? c=aD o->g5.get? c=aD o:=λc o c1 c2 c3 c4 e=>s5.extBut _ _ c2 (s4.extBut _ _ c4 (s3.extBut _ _ c2 (s2.extBut _ _ c3 (s1.extBut _ _ c1 e))));have VI:ZI b g5 i1 l1 (k+1):=((y1.ex s3.extBut (eX d8)).ex s4.extBut A0).ex s5.extBut (eX d8);have VJ:ZI c g5 i2 l2 (k+1):=y2.ex s5.extBut (eX d9);have Ez:z<g5.objs.size:=cH z5;show wpAny _ _ (Builtin.SmallTypes.ownedTupleHandOut (.ref z) (.ref g5.objs.size) >>= _) _ _ _;refine aM ?_;unfold Builtin.SmallTypes.ownedTupleHandOut;have z6:IsZip (g5.push {cls:=.type "tuple",data:=.seq #[x,y]}) z TI TO .ellipsis:=cu _ z5;refine aM (ya z6 (by simp) λg7 z7 s7=>?_)
 replace z7:IsZip g7 z TI TO (rawInt g5.objs.size):=z7;refine ya z7 (by simp) λg8 z8 s8=>?_
 replace z8:IsZip g8 z TI TO (rawInt g5.objs.size):=z8;have up:∀c o,c≠z->g5.get? c=aD o->g8.get? c=aD o:=λc o c1 e=>s8.extBut _ _ c1 (s7.extBut _ _ c1 (cu _ e));have p8:IsPair g8 g5.objs.size x y:=s8.extBut _ _ (pX Ez) (s7.extBut _ _ (pX Ez) (iJ _ rfl));have n8:g8.objs.size=g5.objs.size+1:=by rw[s8.1,s7.1,jI]
 rw[hsz]at z8 p8 n8;refine bA ⟨_,rfl,?_⟩;show Q (.ref g5.objs.size) _;rw[hsz];exact hQ g8 z8 (up _ _ d2 t5) (VI.mv λo e=>up _ o d3 e) (VJ.mv λo e=>up _ o d4 e) p8 n8 λc o c1 c2 c3 c4 e=>up c o c1 (k5 c o c1 c2 c3 c4 e)
theorem VL{b c:Bool}{z TI TO i1 i2 l1 l2:ah}{k:Nat}{xs ys:Array aa}{p q:aa}{Q:Fin->af->Prop}(hA:A.handled=aE)(D:ZA z TI TO i1 i2 l1 l2)
 (hz:IsZip s.heap z TI TO .none) (hTI:IsPair s.heap TI (.ref i1) (.ref i2)) (hTO:IsPair s.heap TO p q)
 (h1:ZI b s.heap i1 l1 k) (h2:ZI c s.heap i2 l2 k) (hl1:ZS b s.heap l1 xs) (hl2:ZS c s.heap l2 ys) (he:xs[k]?=aE\/ys[k]?=aE)
 (hE:∀h' e,(∀c o,c≠z->c≠TO->c≠i1->c≠i2->s.heap.get? c=aD o->h'.get? c=aD o)->(∃o,h'.get? e=aD o/\o.cls=.type "StopIteration")->E (.ref e) {s with heap:=h'}) :
 wpAny (model prog w) A (Builtin.«zip.__next__» ⟨[.ref z],[]⟩) Q E s:=by
 obtain⟨⟨d1,d2,d3,d4⟩,⟨d5,d6,d7,d8,d9,A0⟩,⟨Ey,VD,VE,VF⟩,HX,HY,HZ,VG⟩:=D;show wpAny _ _ (field (.ref z) 2 >>= _) _ _ _;refine aM (kN hz rfl (x:=.bool false) rfl ?_);show wpAny _ _ (field (.ref z) 3 >>= _) _ _ _;refine aM (kN hz rfl (x:=.ref TI) rfl (aM (tP hTI rfl ?_)));show wpAny _ _ (Builtin.SmallTypes.ownedTupleIsFree (.ref z) >>= _) _ _ _;refine aM ?_;unfold Builtin.SmallTypes.ownedTupleIsFree;refine aM (kN hz rfl (x:=.none) rfl (bA ?_));simp only[bZ];refine aM (kO (aM (kN hz rfl (x:=.ref TO) rfl (aM (ya hz (by simp) λg1 z1 s1=>?_)))))
 replace z1:IsZip g1 z TI TO .ellipsis:=z1;refine aM ?_;simp only[List.zipIdx_cons,List.zipIdx_nil,zB,vF];refine aM (aM (Dt ?_));show wpAny _ _ (Builtin.SmallTypes.nextOf (.ref i1) >>= _) _ _ _;cases hx:xs[k]? with
 |none=>
  refine aM (z_end hA (h1.ex s1.extBut d3) (hl1.ex s1.extBut Ey) hx λg2 e s2 hs=>?_);obtain⟨oe,wu,hce⟩:=hs;have z2:IsZip g2 z TI TO .ellipsis:=s2 _ _ (eX d3) z1;have Ia:e≠z:=λx=>by subst x;rw[z2]at wu;cases wu;simp at hce
  exact ya z2 (by simp) λg3 _ s3=>hE g3 e (λc o c1 _ c3 _ x=>s3.extBut _ _ c1 (s2 _ _ c3 (s1.extBut _ _ c1 x))) ⟨oe,s3.extBut _ _ Ia wu,hce⟩
 |some x=>
  have hy:ys[k]?=aE:=by rcases he with h|h;rw[hx]at h;cases h;exact h
  refine aM (HW (h1.ex s1.extBut d3) (hl1.ex s1.extBut Ey) hx λg2 y1 s2=>bA ?_);have t2:IsPair g2 TO p q:=s2.extBut _ _ d8 (s1.extBut _ _ d2 hTO);refine aM (tP t2 rfl (aM (wpAny_updateSeq_pair t2 λg3 t3 s3=>?_)));refine aM (wpAny_letGo (bA (aM (aM (Dt ?_)))));show wpAny _ _ (Builtin.SmallTypes.nextOf (.ref i2) >>= _) _ _ _;refine aM (z_end hA (((h2.ex s1.extBut d4).ex s2.extBut (eX A0)).ex s3.extBut (eX d9)) (((hl2.ex s1.extBut HX).ex s2.extBut HZ).ex s3.extBut HY) hy λg4 e s4 hs=>?_);obtain⟨oe,wu,hce⟩:=hs;have z4:IsZip g4 z TI TO .ellipsis:=s4 _ _ (eX d4) (s3.extBut _ _ (eX d2) (s2.extBut _ _ (eX d3) z1));have Ia:e≠z:=λx=>by subst x;rw[z4]at wu;cases wu;simp at hce
  exact ya z4 (by simp) λg5 _ s5=>hE g5 e (λc o c1 c2 c3 c4 x=>s5.extBut _ _ c1 (s4 _ _ c4 (s3.extBut _ _ c2 (s2.extBut _ _ c3 (s1.extBut _ _ c1 x))))) ⟨oe,s5.extBut _ _ Ia wu,hce⟩
theorem VM{b c:Bool}{z TI TO i1 i2 l1 l2:ah}{k:Nat}{xs ys:Array aa}{x y p q:aa}{Q:Option aa->af->Prop}(D:ZA z TI TO i1 i2 l1 l2)
 (hz:IsZip s.heap z TI TO .none) (hTI:IsPair s.heap TI (.ref i1) (.ref i2)) (hTO:IsPair s.heap TO p q)
 (h1:ZI b s.heap i1 l1 k) (h2:ZI c s.heap i2 l2 k) (hl1:ZS b s.heap l1 xs) (hl2:ZS c s.heap l2 ys) (hx:xs[k]?=aD x) (hy:ys[k]?=aD y)
 (hQ:∀h',IsZip h' z TI TO (rawInt s.heap.objs.size)->IsPair h' TO x y->ZI b h' i1 l1 (k+1)->ZI c h' i2 l2 (k+1)->IsPair h' s.heap.objs.size x y->h'.objs.size=s.heap.objs.size+1->
   (∀c o,c≠z->c≠TO->c≠i1->c≠i2->s.heap.get? c=aD o->h'.get? c=aD o)->Q (aD (.ref s.heap.objs.size)) {s with heap:=h'}):wpAny (model prog w) A (pyNext (.ref z)) Q E s:=by
 have hT:s.TypeIs (.ref z) "zip":=⟨_,hz,rfl⟩
 unfold pyNext;exact aM (wpAny_attempt (xZ (name:=Str.ofString "__next__") hT DV (vv DV hT F.entry_zip_next (VC D hz hTI hTO h1 h2 hl1 hl2 hx hy λh' a1 a2 a3 a4 a5 a6 a7=>bA (hQ h' a1 a2 a3 a4 a5 a6 a7)) (F.args_zip_next_1 _))))
theorem VN{b c:Bool}{z TI TO i1 i2 l1 l2:ah}{k:Nat}{xs ys:Array aa}{p q:aa}{Q:Option aa->af->Prop}(hA:A.in1.handled=aE)(D:ZA z TI TO i1 i2 l1 l2)
 (hz:IsZip s.heap z TI TO .none) (hTI:IsPair s.heap TI (.ref i1) (.ref i2)) (hTO:IsPair s.heap TO p q)
 (h1:ZI b s.heap i1 l1 k) (h2:ZI c s.heap i2 l2 k) (hl1:ZS b s.heap l1 xs) (hl2:ZS c s.heap l2 ys) (he:xs[k]?=aE\/ys[k]?=aE)
 (hQ:∀h',(∀c o,c≠z->c≠TO->c≠i1->c≠i2->s.heap.get? c=aD o->h'.get? c=aD o)->Q aE {s with heap:=h'}):wpAny (model prog w) A (pyNext (.ref z)) Q E s:=by
 have hT:s.TypeIs (.ref z) "zip":=⟨_,hz,rfl⟩
 unfold pyNext;refine aM (wpAny_attempt (xZ (name:=Str.ofString "__next__") hT DV (vv DV hT F.entry_zip_next (VL hA D hz hTI hTO h1 h2 hl1 hl2 he λh' e hk hs=>?_) (F.args_zip_next_1 _))));obtain⟨o,ho,hc⟩:=hs;exact aM (wpAny_isInstance (T:="StopIteration") (b:=true) ⟨o,ho,hc⟩ isSubtype_stop (bA (hQ _ hk)))
noncomputable def EA(h:aB)(b:Bool)(l1:ah):aB:=h.push (Ex b l1)
noncomputable def A1(h:aB)(b c:Bool)(l1 l2:ah):aB:=(EA h b l1).push (Ex c l2)
noncomputable def A2(h:aB)(b c:Bool)(l1 l2:ah):aB:=(A1 h b c l1 l2).push {cls:=.type "tuple",data:=.seq #[.ref h.objs.size,.ref (EA h b l1).objs.size]}
noncomputable def A3(h:aB)(b c:Bool)(l1 l2:ah):aB:=(A2 h b c l1 l2).push {cls:=.type "tuple",data:=.seq #[.none,.none]}
noncomputable def uo(h:aB)(b c:Bool)(l1 l2:ah):aB:=(A3 h b c l1 l2).push {cls:=.type "zip",data:=.fields #[.none,.bool false,.bool false,.ref (A1 h b c l1 l2).objs.size,.ref (A2 h b c l1 l2).objs.size]}
theorem VP(b c:Bool)(l1 l2:ah)(xs ys:Array aa):Meets (Builtin.«zip.__new__» ⟨[.type "zip",.ref l1,.ref l2],[]⟩) (λ_ R s=>ZS b s.heap l1 xs/\ZS c s.heap l2 ys/\
 R (.ok (.ret (.ref (A3 s.heap b c l1 l2).objs.size))) {s with heap:=uo s.heap b c l1 l2}):=
 .of_wp λprog w A R s h=>by
  obtain⟨hp,g,d,tk,os⟩:=s;obtain⟨m1,m2,h⟩:=h;have hsub:=sub_zip;have e1:ZS b (Shared.heap ⟨hp,g,d,tk,os⟩) l1 xs:=m1;have e2:ZS c (Shared.heap ⟨hp.push (Ex b l1),g,d,tk,os⟩) l2 ys:=m2.push _;cases b<;>cases c;have q1:Heap.IsList (Shared.heap ⟨hp,g,d,tk,os⟩) l1 xs:=e1;have q2:Heap.IsList (Shared.heap ⟨hp.push {cls:=.type "list_iterator",data:=.fields #[.ref l1,.int 0 0]},g,d,tk,os⟩) l2 ys:=e2
  wp_walk using yb q1,yb q2;exact⟨_,rfl,h⟩;have q1:Heap.IsList (Shared.heap ⟨hp,g,d,tk,os⟩) l1 xs:=e1;have q2:Heap.IsTuple (Shared.heap ⟨hp.push {cls:=.type "list_iterator",data:=.fields #[.ref l1,.int 0 0]},g,d,tk,os⟩) l2 ys:=e2
  wp_walk using yb q1,vt q2;exact⟨_,rfl,h⟩;have q1:Heap.IsTuple (Shared.heap ⟨hp,g,d,tk,os⟩) l1 xs:=e1;have q2:Heap.IsList (Shared.heap ⟨hp.push {cls:=.type "tuple_iterator",data:=.fields #[.ref l1,.int 0 0]},g,d,tk,os⟩) l2 ys:=e2
  wp_walk using vt q1,yb q2;exact⟨_,rfl,h⟩;have q1:Heap.IsTuple (Shared.heap ⟨hp,g,d,tk,os⟩) l1 xs:=e1;have q2:Heap.IsTuple (Shared.heap ⟨hp.push {cls:=.type "tuple_iterator",data:=.fields #[.ref l1,.int 0 0]},g,d,tk,os⟩) l2 ys:=e2
  wp_walk using vt q1,vt q2;exact⟨_,rfl,h⟩
theorem Ob{b:Bool}{h:aB}{l:ah}{a:ah}(e:h.get? a=aD (Ex b l)):ZI b h a l 0:=by cases b<;>exact⟨_,e,rfl,rfl⟩
theorem VQ{b c:Bool}{l1 l2:ah}{xs ys:Array aa}{Q:aa->af->Prop}(m1:ZS b s.heap l1 xs)(m2:ZS c s.heap l2 ys)
 (h:∀h',IsZip h' (s.heap.objs.size+4) (s.heap.objs.size+2) (s.heap.objs.size+3) .none->IsPair h' (s.heap.objs.size+2) (.ref s.heap.objs.size) (.ref (s.heap.objs.size+1))->
   IsPair h' (s.heap.objs.size+3) .none .none->ZI b h' s.heap.objs.size l1 0->ZI c h' (s.heap.objs.size+1) l2 0->h'.objs.size=s.heap.objs.size+5->
   (∀c o,s.heap.get? c=aD o->h'.get? c=aD o)->Q (.ref (s.heap.objs.size+4)) {s with heap:=h'}):wpAny (model prog w) A (call (.type "zip") [.ref l1,.ref l2]) Q E s:=by
 refine callType_new F.called_zip (by decide) (F.typeCall_zip_2 _ _) (F.newCall_zip_2 _ _) (λobj=>F.args_object_init_3 obj _ _) F.entry_zip_new (VP b c l1 l2 xs ys) ⟨m1,m2,?_⟩;have n1:(EA s.heap b l1).objs.size=s.heap.objs.size+1:=jI ..;have n2:(A1 s.heap b c l1 l2).objs.size=s.heap.objs.size+2:=by unfold A1;rw[jI,n1]
 have n3:(A2 s.heap b c l1 l2).objs.size=s.heap.objs.size+3:=by unfold A2;rw[jI,n2]
 have n4:(A3 s.heap b c l1 l2).objs.size=s.heap.objs.size+4:=by unfold A3;rw[jI,n3]
 have n5:(uo s.heap b c l1 l2).objs.size=s.heap.objs.size+5:=by unfold uo;rw[jI,n4]
 have g5:(uo s.heap b c l1 l2).get? (A3 s.heap b c l1 l2).objs.size=aD _:=iJ _ rfl;have g4:(uo s.heap b c l1 l2).get? (A2 s.heap b c l1 l2).objs.size=aD _:=cu _ (iJ _ rfl);have g3:(uo s.heap b c l1 l2).get? (A1 s.heap b c l1 l2).objs.size=aD _:=cu _ (cu _ (iJ _ rfl));have g2:(uo s.heap b c l1 l2).get? (EA s.heap b l1).objs.size=aD _:=cu _ (cu _ (cu _ (iJ _ rfl)));have g1:(uo s.heap b c l1 l2).get? s.heap.objs.size=aD _:=cu _ (cu _ (cu _ (cu _ (iJ _ rfl))));show _/\_;rw[n2,n3,n4]at g5;rw[n1,n2]at g3;rw[n3]at g4;rw[n1]at g2;rw[n4];exact⟨⟨_,g5,rfl⟩,h _ g5 g3 g4 (Ob g1) (Ob g2) n5 λc o x=>cu _ (cu _ (cu _ (cu _ (cu _ x))))⟩
end
noncomputable def mT(b:Bool)(K:aK)(H:Hp)(a:ah)(xs:List V):Prop:=match b with|true=>bX K H a xs|false=>cC K H a xs
theorem yH{b:Bool}{X:Cx}{pins:List (ah×Obj)}{σ:St}{H:Hp}{s:af}{a:ah}{xs:List V}(I:Inv X pins σ H s)(h:mT b X.K H a xs):∃its:List aa,Vals xs its/\ZS b s.heap a its.toArray/\xs.length<=sizeLine:=by cases b;obtain⟨its,r,p,z⟩:=I.list h;exact⟨its,r,p.isList,z⟩;exact I.tuple h
theorem Oc{b:Bool}{X:Cx}{pins:List (ah×Obj)}{σ:St}{H:Hp}{s:af}{a:ah}{xs ys:List V}(I:Inv X pins σ H s)(h:mT b X.K H a xs)(h':mT b X.K H a ys):xs=ys:=by cases b;exact I.jN h h';exact I.gx h h'
noncomputable def wz(K:aK)(b c:Bool)(a1 a2:ah):It:=
 ⟨λi H=>∃xs ys x y,mT b K H a1 xs/\mT c K H a2 ys/\xs[i]?=aD x/\ys[i]?=aD y,
  λi H v H'=>∃T x y,v=.ref T/\H T=aE/\H'=upd H T (.tup [x,y])/\(∀xs,mT b K H a1 xs->xs[i]?=aD x)/\∀ys,mT c K H a2 ys->ys[i]?=aD y,
  λi H=>∃xs ys,mT b K H a1 xs/\mT c K H a2 ys/\(xs.length<=i\/ys.length<=i)⟩
theorem Inv.rK{X:Cx}{pins:List (ah×Obj)}{σ:St}{H:Hp}{s:af}{h2:aB}{t':Nat}{fp:List ah}(I:Inv X pins σ H s)(hf:∀b∈fp,dR X pins H b)(kk:∀b o,b∉fp->s.heap.get? b=aD o->h2.get? b=aD o) :
 Inv X pins σ H {s with heap:=h2,toks:=t'}:=by
 have f0:=λb hb=>(hf b hb).1;have nE:∀b o,H b=aD o->b∉fp:=λb o q z=>by rw[f0 b z]at q;cases q
 refine I.step (g':=s.gens) (d':=s.drawn) (ch:=fp) (λb hb=>?_) (λb o _ _ hc e1 _=>kk b o hc e1) (λb o _ _ hc e1 _=>⟨o.slots,kk b o hc e1⟩) (λ_ _ _ _ n=>n) (λb o hc e1=>⟨o,kk b o hc e1⟩)
  (λ_ _ q=>q) (λ_ _ _ q=>q) (λb ps q=>⟨#[],by rw[q];simp⟩) (λm hm=>?_) (λb ob q=>?_) I.bare
 obtain⟨_,a1,a2,a3,a4,a5⟩:=hf b hb;exact⟨a3,a1,a4,a5⟩;obtain⟨o,es,ep,ho',r⟩:=hm;exact⟨o,es,ep,kk _ o (λz=>(hf _ z).2.1 rfl) ho',r⟩;refine(I.hok b ob q).stay (λc v hc z=>kk c v ?_ z) (λ_ z=>z) λ_ _ z=>z;rcases hc with rfl|hc;exact nE c ob q;exact nE c _ hc
theorem Inv.rM{X:Cx}{pins:List (ah×Obj)}{σ:St}{H:Hp}{s:af}{h2:aB}{fp:List ah}{xs:List V}{us:List aa}(I:Inv X pins σ H s)(hf:∀b∈fp,dR X pins H b)(kk:∀b o,b∉fp->s.heap.get? b=aD o->h2.get? b=aD o)
 (hT:h2.get? s.heap.objs.size=aD {cls:=.type "tuple",data:=.seq us.toArray}) (hv:Vals xs us) (hz:xs.length<=sizeLine):Inv X pins σ (upd H s.heap.objs.size (.tup xs)) {s with heap:=h2}:=by
 have lJ:H s.heap.objs.size=aE:=I.hok.fresh (aT _);have f0:=λb hb=>(hf b hb).1;have nE:∀b o,H b=aD o->b∉fp:=λb o q z=>by rw[f0 b z]at q;cases q
 refine I.step (g':=s.gens) (d':=s.drawn) (ch:=fp) (λb hb=>?_) (λb o _ _ hc e1 _=>kk b o hc e1) (λb o _ _ hc e1 _=>⟨o.slots,kk b o hc e1⟩) (λb o hc e1 n=>by rw[bV (fR (cH e1))];exact n) (λb o hc e1=>⟨o,kk b o hc e1⟩)
  (λb ys q=>by rw[bV (gY q lJ)];exact q) (λb o u q=>by rw[bV (gY q lJ)];exact q) (λb ps q=>⟨#[],by rw[bV (gY q lJ),q];simp⟩) (λm hm=>?_) (λb ob q=>?_) I.bare
 obtain⟨_,a1,a2,a3,a4,a5⟩:=hf b hb;exact⟨a3,a1,a4,a5⟩;obtain⟨o,es,ep,ho',r⟩:=hm;exact⟨o,es,ep,kk _ o (λz=>(hf _ z).2.1 rfl) ho',r⟩;by_cases hb:b=s.heap.objs.size;subst hb;rw[iu]at q;cases q;exact⟨hz,us,hv,⟨_,hT,rfl,⟨_,rfl⟩,rfl⟩⟩;rw[bV hb]at q;refine(I.hok b ob q).stay (λc v hc z=>kk c v ?_ z) (λc z=>by rw[bV (gY z lJ)];exact z) λc ys z=>by rw[bV (gY z lJ)];exact z
 rcases hc with rfl|hc;exact nE c ob q;exact nE c _ hc
theorem VR{P:ai}{w:aj}{K:aK}{elts:List ao}{kx:Nat}{tp:Pos}{b c:Bool}(a1 a2 z TI TO i1 i2:ah)(D:ZA z TI TO i1 i2 a1 a2) :
 Turn P w K (.Tuple elts kx tp) (wz K b c a1 a2) [z,TI,TO,i1,i2] z (λi h=>IsZip h z TI TO .none/\IsPair h TI (.ref i1) (.ref i2)/\(∃p q,IsPair h TO p q)/\ZI b h i1 a1 i/\ZI c h i2 a2 i)where
 mem:=by simp
 obj:=λi h st d hd=>by
  obtain⟨hz,hTI,⟨p,q,hTO⟩,h1,h2⟩:=st;simp only[fP,DJ,or_false]at hd;rcases hd with rfl|rfl|rfl|rfl|rfl;exact⟨_,hz,λv z=>by
   have z':Data.fields _=Data.cell v:=z;cases z'⟩
  exact⟨_,hTI,λv z=>by
   have z':Data.seq _ _=Data.cell v:=z;cases z'⟩
  exact⟨_,hTO,λv z=>by
   have z':Data.seq _ _=Data.cell v:=z;cases z'⟩
  exact h1.ob;exact h2.ob
 keep:=λi h h' st k=>by
  obtain⟨hz,hTI,⟨p,q,hTO⟩,h1,h2⟩:=st;exact⟨k z (by simp) _ hz,k TI (by simp) _ hTI,⟨p,q,k TO (by simp) _ hTO⟩,h1.mv λo e=>k i1 (by simp) o e,h2.mv λo e=>k i2 (by simp) o e⟩
 item:=by
  intro X hP hw hK hc i pins s σ H E I hf st hg;subst hP hw hK;obtain⟨xs,ys,x,y,q1,q2,hx,hy⟩:=hg;obtain⟨hz,hTI,⟨p,q,hTO⟩,h1,h2⟩:=st;obtain⟨its,rv,m1,_⟩:=yH I q1;obtain⟨Od,rw',m2,_⟩:=yH I q2;obtain⟨u,hu,ru⟩:=rv.get hx;obtain⟨v,hv,VS⟩:=rw'.get hy;refine VM D hz hTI hTO h1 h2 m1 m2 (x:=u) (y:=v) (by simpa using hu) (by simpa using hv) λg b1 b2 b3 b4 b5 b6 b7=>⟨_,rfl,wpAny_letOwnedTupleGo_zip b1 λg2 c1 c2=>?_⟩
  obtain⟨⟨d1,d2,d3,d4⟩,⟨d5,d6,d7,d8,d9,A0⟩,_,_⟩:=D;have c2:Heap.SameBut z g g2:=c2;have Ez:s.heap.objs.size≠z:=pX (cH hz);have kk:∀d o,d∉[z,TI,TO,i1,i2]->s.heap.get? d=aD o->g2.get? d=aD o:=λd o hd e=>(c2.2 d λx=>hd (by simp[x])).trans (b7 d o (λx=>hd (by simp[x])) (λx=>hd (by simp[x])) (λx=>hd (by simp[x])) (λx=>hd (by simp[x])) e);have hT:g2.get? s.heap.objs.size=aD {cls:=.type "tuple",data:=.seq [u,v].toArray}:=(c2.2 _ Ez).trans b5;have I2:=Inv.rM (xs:=[x,y]) I hf kk hT (.cons ru (.cons VS .nil)) (by show 2<=sizeLine;decide);have lJ:H s.heap.objs.size=aE:=I.hok.fresh (aT _);refine⟨.ref s.heap.objs.size,_,I2,rfl,⟨_,x,y,rfl,lJ,rfl,λzs hzs=>by rw[Oc I hzs q1];exact hx,λzs hzs=>by rw[Oc I hzs q2];exact hy⟩,
   ⟨c1,(c2.2 TI d1).trans (b7 TI _ d1 d5 d6 d7 hTI),⟨u,v,(c2.2 TO d2).trans b2⟩,b3.mv λo e=>(c2.2 i1 d3).trans e,b4.mv λo e=>(c2.2 i2 d4).trans e⟩,λd hd=>?_⟩
  rw[bV ?_];exact(hf d hd).1;intro e;obtain⟨o,ho⟩:∃o,s.heap.get? d=aD o:=by
   simp only[fP,DJ,or_false]at hd;rcases hd with rfl|rfl|rfl|rfl|rfl
   exact⟨_,hz⟩;exact⟨_,hTI⟩;exact⟨_,hTO⟩;exact let⟨o,h,_⟩:=h1.ob;⟨o,h⟩;exact let⟨o,h,_⟩:=h2.ob;⟨o,h⟩
  exact fR (cH ho) e
 done:=by intro X hP hw hK hc i pins s σ H E I hf st hg;subst hP hw hK;obtain⟨xs,ys,q1,q2,hl⟩:=hg;obtain⟨hz,hTI,⟨p,q,hTO⟩,h1,h2⟩:=st;obtain⟨its,rv,m1,_⟩:=yH I q1;obtain⟨Od,rw',m2,_⟩:=yH I q2;have l1:=rv.length;have l2:=rw'.length;exact VN (I.ok.hd hc) D hz hTI hTO h1 h2 m1 m2 (hl.imp (λh=>by simp;lia) λh=>by simp;lia) λg hk=>⟨rfl,Inv.rK (t':=s.toks) I hf λd o hd e=>hk d o (λx=>hd (by simp[x])) (λx=>hd (by simp[x])) (λx=>hd (by simp[x])) (λx=>hd (by simp[x])) e⟩
 self:=λ_ _ _ _ _ st h=>wpAny_pyIter_zip st.1 h
theorem VT{bs:List Bool}{its:List aa}(r:Vals (bs.map .bl) its)(i:Nat){v:aa}(h:its[i]?=aD v):∃b,bs[i]?=aD b/\v=.bool b:=by have hl:=r.length;rw[bz]at hl;obtain⟨hi,_⟩:=jJ.mp h;have hb:bs[i]?=aD bs[i]:=eT (by lia);obtain⟨u,hu,ru⟩:=r.get (i:=i) (x:=.bl bs[i]) (by rw[gh,hb];rfl);rw[h]at hu;cases hu;exact⟨_,hb,ru⟩
theorem VU(bs:List Bool):((List.range bs.length).all λi=>(bs[i]?).getD true)=bs.all id:=by rw[Bool.eq_iff_iff,nH,nH];refine⟨λh b hb=>?_,λh i hi=>?_⟩;obtain⟨i,hi,rfl⟩:=zz hb;have:=h i (tY.mpr hi);rw[eT hi]at this;exact this;have hi':=tY.mp hi;rw[eT hi'];exact h _ (iK hi')
section
variable{X:Cx}
theorem VW(hc:X.calm):bU X (.builtin "all") (λxs H Q=>∃(p:ah) (bs:List Bool),xs=[.ref p]/\cC X.K H p (bs.map .bl)/\Q (.bl (bs.all id)) H):=by
 intro pins s σ H xs us Q I r h;obtain⟨p,bs,rfl,hq,q⟩:=h;obtain⟨u,rfl,ru⟩:=vals1 r;cases ru;obtain⟨its,rv,pl,hz⟩:=I.list hq;have hL:s.heap.IsList p its.toArray:=pl.isList;have hlt:p<s.heap.objs.size:=by obtain⟨_,e,_⟩:=hL;exact cH e
 have hd:X.A.in1.handled=aE:=I.ok.hd hc;have hlen:its.toArray.size=bs.length:=by rw[cG,<-rv.length,bz]
 refine call_all_walk (yb hL ⟨s.heap.objs.size,[s.heap.objs.size,p],[s.heap.objs.size],its.toArray.size,_,_,λi=>(bs[i]?).getD true,rfl,Walks.list (A:=X.A.in1) hd _ p (fR hlt) its.toArray,?_,?_,?_⟩);exact⟨⟨_,iJ _ rfl,rfl,rfl⟩,hL.push _⟩;intro i v s' Q' E' hP hQ;obtain⟨b,e,rfl⟩:=VT rv i (by simpa using hP);simp only[e,zH]at hQ;exact qH hQ;intro h' tk hk;rw[hlen,VU];refine⟨.bl (bs.all id),H,I.kept (t':=tk) λb o e=>hk b o (λhm=>?_) (cu _ e),rfl,q⟩;rw[pZ.mp hm]at e;exact jG _ (cH e)
end
noncomputable def uq(e tg iter:ao)(ifs:List ao)(it acc:aa)(env:Env)(emit:Sem Unit):Sem Fin:=do
 standAt iter.pos
 match <-pyNext it with
 |none=>pure (.done .next)
 |some v=>
  letOwnedTupleGo tg it v
  assign tg env v
  let ok <-yF ifs env
  if ok then emit
  again (.compLoop e 1 it acc env)
noncomputable def lP(elt:ao):aa->Env->Sem Unit:=λacc env=>do let _ <-call (.builtin "list.append") [acc,<-eval elt env]
noncomputable def jT(e bf:ao):aa->Env->Sem Unit:=λacc env=>do
 let x <-eval bf env
 standAt bf.pos
 let x <-foldedSetIterable bf env x
 let _ <-runOwn (.compStart e 1 (<-holding [x] (pyIter x)) acc env) env
section
variable{prog:ai}{w:aj}{A:ak}{R:Result->af->Prop}{s:af}{elt k6 cJ tg iter:ao}{fF ifs:List ao}{scope:aA}{pos:Pos}{it acc:aa}{env:Env}
theorem VX(I:Nat->af->Prop)
 (turn:∀n s,I n s->wpAny (model prog w) A (pyNext it) (λr s₁=>match r with
   |none=>R (.ok .next) s₁
   |some v=>wpAny (model prog w) A (letOwnedTupleGo tg it v) (λ_ s₀=>wpAny (model prog w) A (assign tg env v) (λ_ s₂=>
    wpAny (model prog w) A (yF ifs env) (λok s₃=>
     if ok=true then wpAny (model prog w) A (lP elt acc env) (λ_ s₅=>∃m,m<n/\I m s₅) gH s₃
     else ∃m,m<n/\I m s₃) gH s₂) gH s₀) gH s₁) gH s)
 (n:Nat) (h:I n s):codeAny (model prog w) A (.compLoop (.ListComp elt [⟨k6,cJ,fF,0⟩,⟨tg,iter,ifs,0⟩] scope pos) 1 it acc env) R s:=by
 refine codeAny_loop rfl I (λn s hI=>?_) n h;rw[show(model prog w).den (.compLoop (.ListComp elt [⟨k6,cJ,fF,0⟩,⟨tg,iter,ifs,0⟩] scope pos) 1 it acc env)=(uq (.ListComp elt [⟨k6,cJ,fF,0⟩,⟨tg,iter,ifs,0⟩] scope pos) tg iter ifs it acc env (lP elt acc env)).onRaise (λx=>do noteFrame x env;theTreesLotGoes x)from rfl,
  show A.under (.compLoop (.ListComp elt [⟨k6,cJ,fF,0⟩,⟨tg,iter,ifs,0⟩] scope pos) 1 it acc env)=A from rfl]
 refine wpAny_noted (Ht ?_);unfold uq;refine aM (nD (aM (fZ (turn n s hI) (λr s₁ h₁=>?_) λ_ _ z=>z)));cases r with
 |none=>exact bA h₁
 |some v=>
  refine aM (fZ h₁ (λ_ s₀ h₀=>?_) λ_ _ z=>z);refine aM (fZ h₀ (λ_ s₂ h₂=>aM (fZ h₂ (λok s₃ h₃=>?_) λ_ _ z=>z)) λ_ _ z=>z);cases ok with
  |true=>
   simp only[bZ]at h₃ ⊢;exact aM (fZ h₃ (λ_ s₅ h₅=>bA ⟨rfl,h₅⟩) λ_ _ z=>z)
  |false=>
   simp only[dZ,dF]at h₃ ⊢;exact bA ⟨rfl,h₃⟩
theorem VY(h0:codeAny (model prog w) A (.compLoop (.ListComp elt [⟨k6,cJ,fF,0⟩,⟨tg,iter,ifs,0⟩] scope pos) 1 it acc env) R s)
 (h:wpAny (model prog w) A (pyIter it) (λj s'=>codeAny (model prog w) A (.compLoop (.ListComp elt [⟨k6,cJ,fF,0⟩,⟨tg,iter,ifs,0⟩] scope pos) 1 j acc env) R s') (notedBy (model prog w) A env λx s'=>R (.error x) s') s) :
 codeAny (model prog w) A (.compStart (.ListComp elt [⟨k6,cJ,fF,0⟩,⟨tg,iter,ifs,0⟩] scope pos) 1 it acc env) R s:=by
 refine codeAny_of_tree ?_;rw[show(model prog w).den (.compStart (.ListComp elt [⟨k6,cJ,fF,0⟩,⟨tg,iter,ifs,0⟩] scope pos) 1 it acc env)=(compStart (.ListComp elt [⟨k6,cJ,fF,0⟩,⟨tg,iter,ifs,0⟩] scope pos) 1 it acc env).onRaise (λx=>do noteFrame x env;standAt theWindowsPlace)from rfl,
  show A.under (.compStart (.ListComp elt [⟨k6,cJ,fF,0⟩,⟨tg,iter,ifs,0⟩] scope pos) 1 it acc env)=A from rfl]
 refine wpAny_notedAt ?_;unfold compStart;rw[show(clausesOf (.ListComp elt [⟨k6,cJ,fF,0⟩,⟨tg,iter,ifs,0⟩] scope pos))=[⟨k6,cJ,fF,0⟩,⟨tg,iter,ifs,0⟩]from rfl];show wpAny _ _ (ask >>= _) _ _ s;refine aM (wpAny_askSetting (yc ?_));split;first
  |exact aM (bA (bA (And.intro rfl h0)))
  |exact bA (And.intro rfl h0)
 first
  |exact aM (kO (aM (nD (aM (fZ h (λj s' h'=>bA ⟨rfl,h'⟩) λ_ _ z=>z)))))
  |(refine aM (kO ?_);show wpAny _ _ (standAt iter.pos >>= _) _ _ s;exact aM (nD (aM (fZ h (λj s' h'=>bA ⟨rfl,h'⟩) λ_ _ z=>z))))
end
section
variable{X:Cx}{elt k6 cJ tg iter:ao}{fF ifs:List ao}{scope:aA}{pos:Pos}{wi:TI}{g:TG}{tc:TT}{te:TE}
noncomputable def Ib(te:TE)(D:ah):TM:=λσ H Q=>te σ H λy H1=>∃ys,H1 D=aD (.lst ys)/\ys.length<sizeLine/\Q σ (upd H1 D (.lst (ys++[y])))
theorem VZ(he:PE X elt te)(D:ah):PM X (lP elt (.ref D) X.env) (Ib te D):=by intro pins s σ H Q I h;unfold lP;refine aM (aW (he pins s σ H _ I h) λy s1 z9=>z9.el λvy H1 I1 ry bW=>?_);obtain⟨ys,hD,hz,q⟩:=bW;refine aM (aW (G3 _ s1 σ H1 (.ref D) [vy] (.ref D) [y] (λv H'=>H'=upd H1 D (.lst (ys++[vy]))) I1 rfl (.cons ry .nil) ⟨_,ys,vy,rfl,rfl,hD,hz,rfl⟩) λ_ s2 bW=>?_);obtain⟨v2,H2,I2,_,e2⟩:=bW;subst e2;exact bA ⟨σ,_,I2,q⟩
noncomputable def Oe(wi:TI)(g:TG)(tc:TT)(tm:TM):TM:=λσ H Q=>wi σ H λJ H1=>∃W:Nat->Nat->St->Hp->Prop,(∃m,W 0 m σ H1)/\∀i m σ' H',W i m σ' H'->
 ((J.stop i H'/\Q σ' H')\/(J.go i H'/\∀x H2,J.vS i H' x H2->g x σ' H2 λσ2 H3=>tc σ2 H3 λb H4=>
   if b=true then tm σ2 H4 λkF H5=>∃m',m'<m/\W (i+1) m' kF H5
   else ∃m',m'<m/\W (i+1) m' σ2 H4))
theorem Of(hc:X.calm)(hx:X.xe=gH)(hi:PI X tg iter wi)(hg:PG X tg g)(ht:iX X ifs tc)(he:PE X elt te)(hs:∀x,foldedSetIterable iter X.env x=pure x)(D:ah) :
 PM X (jT (.ListComp elt [⟨k6,cJ,fF,0⟩,⟨tg,iter,ifs,0⟩] scope pos) iter (.ref D) X.env) (Oe wi g tc (Ib te D)):=by
 intro pins s σ H Q I h;unfold jT;have q1:=hi pins s σ H _ I h;rw[hx]at q1 ⊢;refine aM (aW q1 λv s1 h1=>aM (nD ?_));rw[hs];refine aM (bA (aM (nO (aW h1 λitv s2 h2=>?_))));obtain⟨it,fp,tn,J,H2,e,I2,T,st2,f2,W,⟨m0,w0⟩,turn⟩:=h2;subst e;have kY:∀{H':Hp},(∀b∈fp,H' b=aE)->∀b∈fp,dR X pins H' b:=λhn b hb=>⟨hn b hb,(f2 b hb).2⟩
 have loop:codeAny (model X.prog X.w) X.A (.compLoop (.ListComp elt [⟨k6,cJ,fF,0⟩,⟨tg,iter,ifs,0⟩] scope pos) 1 (.ref it) (.ref D) X.env)
  (λr s'=>match r with|.ok f=>wpAny (model X.prog X.w) X.A (pure ()) (λ(_:Unit) s'=>∃σ' H',Inv X pins σ' H' s'/\Q σ' H') gH s'|.error e=>cameBackBy (model X.prog X.w) X.A X.env gH e s') s2:=by
  refine VX (λn s'=>∃i σ' H',Inv X pins σ' H' s'/\tn i s'.heap/\(∀b∈fp,H' b=aE)/\W i n σ' H') ?_ m0 ⟨0,σ,H2,I2,st2,λb hb=>(f2 b hb).1,w0⟩;rintro n s3 ⟨i,σ3,H3,I3,st3,Af,w3⟩;rcases turn i n σ3 H3 w3 with⟨stop,qn⟩|⟨go,step⟩
  .refine aW (T.done X rfl rfl rfl hc i pins s3 σ3 H3 gH I3 (kY Af) st3 stop) λr s4 bW=>?_
   obtain⟨hr,I4⟩:=bW;subst hr;exact bA ⟨σ3,H3,I4,qn⟩
  refine aW (T.item X rfl rfl rfl hc i pins s3 σ3 H3 gH I3 (kY Af) st3 go) λr s4 bW=>?_;obtain⟨u,hr,h4⟩:=bW;subst hr;refine aW h4 λ_ s5 bW=>?_;obtain⟨x,H5,I5,r5,y5,mK,qY⟩:=bW;have GP:=I5.pinned (kY qY) (T.obj _ _ mK);have again:∀{kE:St}{H7:Hp}{s7:af}{m':Nat},Inv X (pins++vU fp s5.heap) kE H7 s7->m'<n->W (i+1) m' kE H7->∃m,m<n/\∃i σ' H',Inv X pins σ' H' s7/\tn i s7.heap/\(∀b∈fp,H' b=aE)/\W i m σ' H':=λ{kE H7 s7 m'} I7 hm w7=>by
   refine⟨m',hm,i+1,kE,H7,I7.di,T.keep _ _ _ mK λb hb o e=>(I7.pin (b,o) (ig _ (ig _ (t9 hb e)))).1,λb hb=>?_,w7⟩;obtain⟨o,e,d⟩:=T.obj _ _ mK b hb;exact(I7.pin (b,o) (ig _ (ig _ (t9 hb e)))).2.1
  have q6:=hg _ s5 σ3 H5 x u _ GP r5 (step x H5 y5);rw[hx]at q6;refine aW q6 λ_ s6 bW=>?_;obtain⟨jA,H6,I6,q6⟩:=bW;have q7:=ht _ s6 jA H6 _ I6 q6;rw[hx]at q7;refine aW q7 λok s7 z9=>z9.el λH7 I7 q7=>?_;cases ok with
  |false=>
   simp only[dZ,dF]at q7 ⊢;obtain⟨m',hm,w7⟩:=q7;exact again I7 hm w7
  |true=>
   simp only[bZ]at q7 ⊢;have q8:=VZ he D _ s7 jA H7 _ I7 q7;rw[hx]at q8;exact aW q8 λ_ s8 ⟨jR,H8,I8,m',hm,w8⟩=>again I8 hm w8
 exact aM (wpAny_runOwn (VY loop (T.self _ 0 _ _ _ st2 loop)))
theorem V0{bf gy:ao}{dg:List ao}(it acc:aa)(env:Env):compTurn (.ListComp elt [⟨tg,iter,ifs,0⟩,⟨gy,bf,dg,0⟩] scope pos) 0 it acc env=jS (.ListComp elt [⟨tg,iter,ifs,0⟩,⟨gy,bf,dg,0⟩] scope pos) tg iter ifs it acc env (jT (.ListComp elt [⟨tg,iter,ifs,0⟩,⟨gy,bf,dg,0⟩] scope pos) bf acc env):=by
 unfold compTurn jS jT;simp only[nF,DE,vB,bne_self_eq_false,dZ,dF,reduceIte];congr 1;funext _;congr 1;funext r;cases r with
 |none=>rfl
 |some v=>
  dsimp only;congr 1;funext _;congr 1;funext _;congr 1;funext ok;cases ok;rfl;simp only[bZ];simp only[LawfulMonad.bind_assoc,qP]
theorem Og{P:ai}{w:aj}{bf gy:ao}{dg:List ao}:lO P w (.ListComp elt [⟨tg,iter,ifs,0⟩,⟨gy,bf,dg,0⟩] scope pos) tg iter ifs (jT (.ListComp elt [⟨tg,iter,ifs,0⟩,⟨gy,bf,dg,0⟩] scope pos) bf) (newList []) {cls:=.type "list",dict:=aE,data:=.seq ([]:List aa).toArray} (.lst [])where
 cl:=⟨_,rfl⟩
 turn:=V0
 dl:=λ_ _ _=>rfl
 ds:=λ_ _ _=>rfl
 al:=λ_ _ _ _=>rfl
 as:=λ_ _ _ _=>rfl
 new:=λA s Q E q=>tO q
 ok:=λH h hb=>⟨gf _,[],0,.nil,iJ _ rfl⟩
end
noncomputable def Ic{α:Type}:List α->List α|[]=>[]|[x]=>[x]|x::_::r=>x::Ic r
theorem Oh:∀{ls:List Int} {us:List aa},Vals (ls.map .int) us->IntsAre us ls|[],_,.nil=>.nil|x::r,_,.cons ⟨t,e⟩ h=>by subst e;exact .cons x t (Oh h)
end L2
namespace KO
open PySem PySem.W PyProof.Rows
variable{r:Nat->Int}
noncomputable def J(r:Nat->Int)(p:Array Nat)(i:Nat):Int:=r ((p[i]?).getD 0)
theorem A4(p:Array Nat)(i:Nat):r (p.getD i 0)=J r p i:=by rw[yo];rfl
theorem ur{p q:Array Nat}{i j:Nat}(h:p[i]?=q[j]?):J r p i=J r q j:=by unfold J;rw[h]
theorem Oi{p:Array Nat}{src d:Nat}(hs:src<p.size)(hd:d<=src)(k:Nat) :
 J r (bubble p src d) k=if k=src-d then J r p src else if src-d<k/\k<=src then J r p (k-1)else J r p k:=by
 have e:=getElem?_bubble hs d hd k;by_cases h1:k=src-d;rw[if_pos h1]at e ⊢;exact ur e;rw[if_neg h1]at e ⊢;by_cases h2:src-d<k/\k<=src;rw[if_pos h2]at e ⊢;exact ur e;rw[if_neg h2]at e ⊢;exact ur e
end KO
namespace KO
open PySem PySem.W PyProof.Rows
variable{r:Nat->Int}
variable{n:Nat}
end KO
namespace TS
open PySem PySem.W PyProof.Rows KO
structure Cp(prog:ai)(w:aj)(A:ak)(s:af)(κ:SortKind)(f:Nat->Keyed)(r:Nat->Int)(N:Nat):Prop where
 lt:∀(i j:Nat)(C:Bool->af->Prop),i<N->j<N->C (decide (r i<r j)) s->wpAny (model prog w) A (keyLt' κ (f i).1 (f j).1) C (λ_ _=>False) s
 inj:∀i j,i<N->j<N->r i=r j->i=j
noncomputable def St(κ:SortKind)(f:Nat->Keyed)(p:Array Nat)(pd:Array (Nat×Nat×Nat))(g:Nat):SortSt:=SortSt.mk' κ (p.map f) pd g aE
structure Pm(N:Nat)(p:Array Nat):Prop where
 z:p.size=N
 b:∀x∈p,x<N
 nd:p.toList.Nodup
theorem Pm.perm{N:Nat}{p q:Array Nat}(h:Pm N p)(e:q.Perm p):Pm N q:=
 ⟨by rw[e.size_eq];exact h.z,λx hx=>h.b x (e.mem_iff.mp hx),(Array.perm_iff_toList_perm.mp e).nodup_iff.mpr h.nd⟩
theorem Pm.lt{N:Nat}{p:Array Nat}(h:Pm N p){i:Nat}(hi:i<N):p.getD i 0<N:=by rw[yo,qe (by rw[h.z];exact hi)];exact h.b _ (Array.getElem_mem _)
theorem Pm.ne{N:Nat}{p:Array Nat}(h:Pm N p){i j:Nat}(hi:i<j)(hj:j<N):p.getD i 0≠p.getD j 0:=by
 have zi:i<p.size:=by rw[h.z];lia
 have zj:j<p.size:=by rw[h.z];exact hj
 rw[yo,yo,qe zi,qe zj];exact vA.mp h.nd i j (by simpa using zi) (by simpa using zj) hi
noncomputable def Ri(r:Nat->Int)(p:Array Nat)(a b:Nat):Prop:=∀i j,a<=i->i<=j->j<b->J r p i<=J r p j
noncomputable def Fa(r:Nat->Int)(p:Array Nat)(a b:Nat):Prop:=∀i j,a<=i->i<j->j<b->J r p j<J r p i
noncomputable def Ou(p q:Array Nat)(a b:Nat):Prop:=∀k,k<a\/b<=k->q[k]?=p[k]?
theorem Ou.refl{p:Array Nat}{a b:Nat}:Ou p p a b:=λ_ _=>rfl
theorem Ou.trans{p q u:Array Nat}{a b:Nat}(x:Ou p q a b)(y:Ou q u a b):Ou p u a b:=λk hk=>(y k hk).trans (x k hk)
theorem Ou.mono{p q:Array Nat}{a b a' b':Nat}(x:Ou p q a b)(h1:a'<=a)(h2:b<=b'):Ou p q a' b':=λk hk=>x k (by lia)
theorem Ri.out{r:Nat->Int}{p q:Array Nat}{a b c d:Nat}(h:Ri r p c d)(o:Ou p q a b)(hd:d<=a\/b<=c):Ri r q c d:=λi j h1 h2 h3=>by
 rw[ur (o i (by lia)),ur (o j (by lia))];exact h i j h1 h2 h3
theorem Ri.one{r:Nat->Int}{p:Array Nat}{a:Nat}:Ri r p a (a+1):=λi j h1 h2 h3=>by
 have:i=j:=by lia
 subst this;exact ym _
theorem Ri.succ{r:Nat->Int}{p:Array Nat}{a b:Nat}(h:Ri r p a b)(hb:a<b)(e:J r p (b-1)<=J r p b):Ri r p a (b+1):=λi j h1 h2 h3=>by
 by_cases x:j<b;exact h i j h1 h2 x;have:j=b:=by lia
 subst this;by_cases y:i=j;subst y;exact ym _;exact kB (h i (j-1) h1 (by lia) (by lia)) e
theorem Fa.succ{r:Nat->Int}{p:Array Nat}{a b:Nat}(h:Fa r p a b)(hb:a<b)(e:J r p b<J r p (b-1)):Fa r p a (b+1):=λi j h1 h2 h3=>by
 by_cases x:j<b;exact h i j h1 h2 x;have:j=b:=by lia
 subst this;by_cases y:i=j-1;subst y;exact e;exact Int.lt_trans e (h i (j-1) h1 (by lia) (by lia))
theorem uu{r:Nat->Int}{p:Array Nat}{i j:Nat}(hj:j<=p.size)(k:Nat):J r (mirror p i j ((j-i)/2)) k=if i<=k/\k<j then J r p (i+j-1-k)else J r p k:=by have e:=getElem?_mirror_all (i:=i) hj k;by_cases h1:i<=k/\k<j;rw[if_pos h1]at e ⊢;exact ur e;rw[if_neg h1]at e ⊢;exact ur e
theorem V1{p:Array Nat}{i j:Nat}(hj:j<=p.size):Ou p (mirror p i j ((j-i)/2)) i j:=λk hk=>by
 rw[getElem?_mirror_all hj,if_neg (by lia)]
theorem Fa.V2{r:Nat->Int}{p:Array Nat}{a b:Nat}(h:Fa r p a b)(hb:b<=p.size):Ri r (mirror p a b ((b-a)/2)) a b:=λi j h1 h2 h3=>by
 rw[uu hb,uu hb,if_pos ⟨h1,by lia⟩,if_pos ⟨by lia,h3⟩];by_cases e:i=j;subst e;exact ym _;exact nT (h _ _ (by lia) (by lia) (by lia))
theorem V3{p:Array Nat}{src d:Nat}(hs:src<p.size)(hd:d<=src):Ou p (bubble p src d) (src-d) (src+1):=λk hk=>by
 rw[getElem?_bubble hs d hd,if_neg (by lia),if_neg (by lia)]
theorem V4{r:Nat->Int}{p:Array Nat}{a k l:Nat}(hk:k<p.size)(h1:a<=l)(hl:l<=k)(hs:Ri r p a k)(lo:∀i,a<=i->i<l->J r p i<=J r p k)(hi:∀i,l<=i->i<k->J r p k<J r p i):Ri r (bubble p k (k-l)) a (k+1):=by
 intro i j ha hij hj;rw[Oi hk (by lia),Oi hk (by lia),show k- (k-l)=l by lia]
 repeat' split
 all_goals first
  |(exfalso;lia)
  |exact ym _
  |exact lo _ (by lia) (by lia)
  |exact nT (hi _ (by lia) (by lia))
  |exact hs _ _ (by lia) (by lia) (by lia)
section
variable{prog:ai}{w:aj}{A:ak}{E:aa->af->Prop}{s:af}{κ:SortKind}{f:Nat->Keyed}{r:Nat->Int}{N:Nat}
theorem jU(c:Cp prog w A s κ f r N){x y:Nat}(hx:x<N)(hy:y<N){st:SortSt}{Q:Option Bool->SortSt->Prop}(hk:kindOf st=κ)(h:Q (aD (decide (r x<r y))) st):wpS (model prog w) A E s (lt' (f x) (f y)) Q st:=by rw[lt'_eq];refine aY (nS ?_);rw[hk];refine aY (vI (wpAny_attempt (fZ (c.lt x y (λb s'=>s'=s/\b=decide (r x<r y)) hx hy ⟨rfl,rfl⟩) (λb s' hb=>?_) λ_ _ e=>e.elim)));obtain⟨rfl,rfl⟩:=hb;exact⟨rfl,bx h⟩
theorem Oj{p:Array Nat}{i:Nat}(hi:i<p.size):(p.map f)[i]?=aD (f (p.getD i 0)):=by rw[Array.getElem?_map,yo,qe hi];rfl
theorem iY(c:Cp prog w A s κ f r N){p:Array Nat}{pd:Array (Nat×Nat×Nat)}{g:Nat}(P:Pm N p){i j:Nat}(hi:i<N)(hj:j<N){Q:Option Bool->SortSt->Prop}(h:Q (aD (decide (J r p i<J r p j))) (St κ f p pd g)):wpS (model prog w) A E s (ltAt' i j) Q (St κ f p pd g):=by rw[ltAt'_eq];refine aY (nS ?_);show wpS _ _ _ _ (do let x <-elem' (p.map f) i;let y <-elem' (p.map f) j;lt' x y) Q _;rw[elem'_eq,elem'_eq,Oj (by rw[P.z];exact hi),Oj (by rw[P.z];exact hj)];refine aY (bx (aY (bx (jU c (P.lt hi) (P.lt hj) rfl ?_))));rw[A4 (r:=r),A4 (r:=r)];exact h
theorem V5{p:Array Nat}{pd:Array (Nat×Nat×Nat)}{g i j:Nat}{Q:Unit->SortSt->Prop}(h:Q () (St κ f (mirror p i j ((j-i)/2)) pd g)):wpS (model prog w) A E s (reverseSlice' i j) Q (St κ f p pd g):=by rw[reverseSlice'_eq];refine yl ?_;have e:mirror (p.map f) i j ((j-i)/2)=(mirror p i j ((j-i)/2)).map f:=kas_swaps_map f (λk=>i+k) (λk=>j-1-k) _ p;show Q _ (SortSt.mk' κ (mirror (p.map f) i j ((j-i)/2)) pd g aE);rw[e];exact h
theorem V6{p:Array Nat}{pd:Array (Nat×Nat×Nat)}{g k l:Nat}{Q:Unit->SortSt->Prop}(h:Q () (St κ f (bubble p k (k-l)) pd g)):wpS (model prog w) A E s (moveDown' k l) Q (St κ f p pd g):=by rw[moveDown'_eq];refine yl ?_;have e:bubble (p.map f) k (k-l)=(bubble p k (k-l)).map f:=kas_swaps_map f (λi=>k-i) (λi=>k-i-1) _ p;show Q _ (SortSt.mk' κ (bubble (p.map f) k (k-l)) pd g aE);rw[e];exact h
theorem Pm.rk(c:Cp prog w A s κ f r N){p:Array Nat}(P:Pm N p){i j:Nat}(hi:i<j)(hj:j<N):J r p i≠J r p j:=λe=>by
 rw[<-A4 (r:=r),<-A4 (r:=r)]at e;exact P.ne hi hj (c.inj _ _ (P.lt (by lia)) (P.lt hj) e)
theorem V7(c:Cp prog w A s κ f r N){p:Array Nat}{pd:Array (Nat×Nat×Nat)}{g lo m:Nat}(P:Pm N p)(h1:1<=m)(hm:lo+m<=N){Q:Option Nat->SortSt->Prop}
 (h:∀n q,1<=n->n<=m->q.Perm p->Ou p q lo (lo+m)->Ri r q lo (lo+n)->Q (aD n) (St κ f q pd g)):wpS (model prog w) A E s (countRun' lo m) Q (St κ f p pd g):=by
 have zp:=P.z;rw[countRun'_eq];refine aY (jM (jL (I:=λx d st'=>st'=St κ f p pd g/\d=(aE,x)/\Ri r p lo (lo+x))
  (Q:=λd st'=>st'=St κ f p pd g/\∃n,d=(aE,n)/\1<=n/\n<=m/\Ri r p lo (lo+n)/\(n<m->J r p (lo+n)<J r p (lo+n-1))) ?step ?fin ⟨rfl,rfl,Ri.one⟩) ?post)
 case fin=>
  rintro d st' ⟨rfl,rfl,hs⟩;rw[show max 1 m=m by lia]at hs ⊢;exact⟨rfl,m,rfl,h1,aT _,hs,λz=>absurd z (jG _)⟩
 case step=>
  rintro x d st' hx Ol ⟨rfl,rfl,hs⟩;dsimp only;refine aY (iY c P (by lia) (by lia) ?_);by_cases q:J r p (lo+x)<J r p (lo+x-1);rw[kq q];exact bx ⟨rfl,x,rfl,hx,by lia,hs,λ_=>q⟩;rw[gX q];exact bx ⟨rfl,rfl,hs.succ (by lia) (qc.mp q)⟩
 case post=>
  rintro d st' ⟨rfl,n,rfl,n1,nm,hs,hor⟩;dsimp only;by_cases e:n=m;rw[if_pos (by simpa using e)];exact bx (h n p n1 nm (yq _) .refl hs)
  .rw[if_neg (by simpa using e)]
   have hd:=hor (by lia);by_cases e2:n>1;rw[if_pos e2];refine aY (iY c P (by lia) (by lia) ?_);have a1:=hs lo (lo+n-1) (aT _) (by lia) (by lia);have a2:=P.rk c (i:=lo) (j:=lo+n-1) (by lia) (by lia);rw[kq (by lia)];exact bx (h n p n1 nm (yq _) .refl hs)
   .rw[if_neg e2]
    obtain rfl:n=1:=by lia
    refine aY (vI (kO ⟨rfl,?_⟩));have f0:Fa r p lo (lo+1):=λi j x y z=>by lia
    refine aY (jM (jL (I:=λx d st'=>st'=St κ f p pd g/\d=(aE,x,0)/\Fa r p lo (lo+x))
     (Q:=λd st'=>st'=St κ f p pd g/\∃n,d=(aE,n,0)/\1<=n/\n<=m/\Fa r p lo (lo+n)) ?A5 ?Ie ⟨rfl,rfl,f0.succ (by lia) hd⟩) ?dpost)
    case Ie=>
     rintro d st' ⟨rfl,rfl,hs⟩;rw[show max (1+1) m=m by lia]at hs ⊢;exact⟨rfl,m,rfl,h1,aT _,hs⟩
    case A5=>
     rintro x d st' hx Ol ⟨rfl,rfl,hs⟩;dsimp only;refine aY (iY c P (by lia) (by lia) ?_);by_cases q:J r p (lo+x)<J r p (lo+x-1);rw[kq q];exact bx ⟨rfl,rfl,hs.succ (by lia) q⟩;rw[gX q];refine aY (iY c P (by lia) (by lia) ?_);have a2:=P.rk c (i:=lo+x-1) (j:=lo+x) (by lia) (by lia);rw[kq (by lia)];exact bx ⟨rfl,x,rfl,by lia,by lia,hs⟩
    case dpost=>
     rintro d st' ⟨rfl,n,rfl,n1,nm,hs⟩;dsimp only;rw[if_neg (jG 0)];refine aY (V5 ?_);have hz:lo+n<=p.size:=by lia
     have P':=P.perm (mirror_perm p lo (lo+n) ((lo+n-lo)/2));have hr:=hs.V2 hz;have ho:Ou p (mirror p lo (lo+n) ((lo+n-lo)/2)) lo (lo+m):=(V1 hz).mono (aT _) (by lia);have hp:=mirror_perm p lo (lo+n) ((lo+n-lo)/2);generalize mirror p lo (lo+n) ((lo+n-lo)/2)=q at P' hr ho hp;refine aY (jM (jL (I:=λx d st'=>st'=St κ f q pd g/\d=(aE,x)/\Ri r q lo (lo+x))
      (Q:=λd st'=>st'=St κ f q pd g/\∃n,d=(aE,n)/\1<=n/\n<=m/\Ri r q lo (lo+n)) ?A6 ?Ig ⟨rfl,rfl,hr⟩) ?A7)
     case Ig=>
      rintro d st' ⟨rfl,rfl,hs⟩;rw[show max n m=m by lia]at hs ⊢;exact⟨rfl,m,rfl,h1,aT _,hs⟩
     case A6=>
      rintro x d st' hx Ol ⟨rfl,rfl,hs⟩;dsimp only;refine aY (iY c P' (by lia) (by lia) ?_);by_cases y:J r q (lo+x)<J r q (lo+x-1);rw[kq y];exact bx ⟨rfl,x,rfl,by lia,by lia,hs⟩;rw[gX y];exact bx ⟨rfl,rfl,hs.succ (by lia) (qc.mp y)⟩
     case A7=>
      rintro d st' ⟨rfl,n',rfl,n1,nm,hs⟩;exact bx (h n' q n1 nm hp ho hs)
theorem V8(c:Cp prog w A s κ f r N){p:Array Nat}{pd:Array (Nat×Nat×Nat)}{g lo n ok:Nat}(P:Pm N p)(h1:1<=ok)(hn:ok<=n)(hm:lo+n<=N)(hs:Ri r p lo (lo+ok)){Q:Bool->SortSt->Prop}
 (h:∀q,q.Perm p->Ou p q lo (lo+n)->Ri r q lo (lo+n)->Q true (St κ f q pd g)):wpS (model prog w) A E s (binarySort' lo n ok) Q (St κ f p pd g):=by
 rw[binarySort'_eq];refine aY (jM (jL (I:=λk d st'=>d=(aE,())/\∃q,st'=St κ f q pd g/\q.Perm p/\Ou p q lo (lo+n)/\Ri r q lo (lo+k))
  (Q:=λd st'=>d=(aE,())/\∃q,st'=St κ f q pd g/\q.Perm p/\Ou p q lo (lo+n)/\Ri r q lo (lo+n)) ?step ?fin ⟨rfl,p,rfl,yq _,.refl,by rw[show max ok 1=ok by lia];exact hs⟩) ?post)
 case post=>
  rintro d st' ⟨rfl,q,rfl,h2,h3,h4⟩;exact bx (h q h2 h3 h4)
 case fin=>
  rintro d st' ⟨hc,q,rfl,h2,h3,h4⟩;rw[show max (max ok 1) n=n by lia]at h4;exact⟨hc,q,rfl,h2,h3,h4⟩
 case step=>
  rintro k d st' hk hkn ⟨rfl,q,rfl,h2,h3,h4⟩;have P':=P.perm h2;have zq:=P'.z;refine aY (jM (jL (I:=λx d st'=>st'=St κ f q pd g/\∃l h,d=(aE,l,h)/\l<=h/\h<=k/\h-l<=k-x/\(∀i,lo<=i->i<lo+l->J r q i<=J r q (lo+k))/\(∀i,lo+h<=i->i<lo+k->J r q (lo+k)<J r q i))
   (Q:=λd st'=>st'=St κ f q pd g/\∃l h,d=(aE,l,h)/\l<=k/\(∀i,lo<=i->i<lo+l->J r q i<=J r q (lo+k))/\(∀i,lo+l<=i->i<lo+k->J r q (lo+k)<J r q i)) ?jV ?oz ⟨rfl,0,k,rfl,gf _,aT _,by lia,λi a b=>by lia,λi a b=>by lia⟩) ?jW)
  case oz=>
   rintro d st' ⟨rfl,l,h,rfl,a,b,e,h5,h6⟩;obtain rfl:l=h:=by lia
   exact⟨rfl,l,l,rfl,b,h5,h6⟩
  case jV=>
   rintro x d st' _ hxk ⟨rfl,l,h,rfl,a,b,e,h5,h6⟩;dsimp only;by_cases ge:l>=h;rw[if_pos ge];obtain rfl:l=h:=by lia
   exact bx ⟨rfl,l,l,rfl,b,h5,h6⟩;rw[if_neg ge];refine aY (iY c P' (by lia) (by lia) ?_);by_cases y:J r q (lo+k)<J r q (lo+ (l+h)/2);simp only[y,Dr,bZ];exact bx ⟨rfl,l,(l+h)/2,rfl,by lia,by lia,by lia,h5,λi z1 z2=>Int.lt_of_lt_of_le y (h4 _ _ (by lia) z1 z2)⟩;simp only[y,decide_false,dZ,dF];exact bx ⟨rfl,(l+h)/2+1,h,rfl,by lia,by lia,by lia,λi z1 z2=>kB (h4 i (lo+ (l+h)/2) z1 (by lia) (by lia)) (qc.mp y),h6⟩
  case jW=>
   rintro d st' ⟨rfl,l,h,rfl,a,h5,h6⟩;show wpS _ _ _ _ (do moveDown' (lo+k) (lo+l);pure (ForInStep.yield (aE,()))) _ _;refine aY (V6 (bx ⟨rfl,_,rfl,(bubble_perm _ _ _).trans h2,h3.trans ((V3 (by lia) (by lia)).mono (by lia) (by lia)),?_⟩));rw[show lo+ (k+1)=lo+k+1 by lia];exact V4 (by lia) (by lia) (by lia) h4 h5 h6
end
end TS
namespace TS
open PySem PySem.W PyProof.Rows KO
noncomputable def jn:Bool->Keyed->Array Keyed->Nat->Nat->Nat->StateT SortSt Sem (Option Nat):=sortPriv% PySem.Builtin.gallop
noncomputable def rN(past:Nat->StateT SortSt Sem (Option Bool))(n u0 v0:Nat):StateT SortSt Sem (Option Nat):=do
 let mut u:=u0
 let mut v:=v0
 for _ in [0:n] do
  if u>=v then break
  let md:=u+ (v-u)/2
  let aD mr <-past md|return aE
  if mr then u:=md+1 else v:=md
 return aD v
noncomputable def wA(past:Nat->StateT SortSt Sem (Option Bool))(n hn:Nat):StateT SortSt Sem (Option Nat):=do
 let mut lst:=0
 let mut off:=1
 let aD yes <-past hn|return aE
 if yes then
  let top:=n-hn
  for _ in [0:n] do
   if off>=top then break
   let aD mr <-past (hn+off)|return aE
   if !mr then break
   lst:=off
   off:=2*off+1
  rN past n (hn+lst+1) (hn+min off top)
 else
  let top:=hn+1
  for _ in [0:n] do
   if off>=top then break
   let aD fd <-past (hn-off)|return aE
   if fd then break
   lst:=off
   off:=2*off+1
  rN past n (hn+1-min off top) (hn-lst)
theorem V9(lf:Bool)(x:Keyed)(a:Array Keyed)(bs n hn:Nat):jn lf x a bs n hn=wA (λi=>do
 let y <-elem' a (bs+i)
 if lf then lt' y x else return (<-lt' x y).map (!·)) n hn:=rfl
section
variable{M:Model}{A:ak}{E:aa->af->Prop}{s:af}
theorem Wa{past:Nat->StateT SortSt Sem (Option Bool)}{B:Nat->Bool}{n hn k:Nat}{st:SortSt}{Q:Option Nat->SortSt->Prop}(hp:∀(i:Nat) (Q:Option Bool->SortSt->Prop),i<n->Q (aD (B i)) st->wpS M A E s (past i) Q st)
 (hk:k<=n) (h1:∀i,i<k->B i) (h2:∀i,k<=i->i<n->B i=false) (hh:hn<n) (h:Q (aD k) st):wpS M A E s (wA past n hn) Q st:=by
 have last:∀u v,u<=k->k<=v->v<=n->wpS M A E s (rN past n u v) Q st:=λu v hu hv hvn=>by
  unfold rN;refine aY (jM (jL (I:=λx d st'=>st'=st/\∃u v,d=(aE,u,v)/\u<=k/\k<=v/\v<=n/\v-u<=n-x)
   (Q:=λd st'=>st'=st/\∃u,d=(aE,u,k)) ?step ?fin ⟨rfl,u,v,rfl,hu,hv,hvn,by lia⟩) ?post)
  case fin=>
   rintro d st' ⟨rfl,u,v,rfl,a,b,e,g⟩;obtain rfl:v=k:=by lia
   exact⟨rfl,u,rfl⟩
  case step=>
   rintro x d st' _ hx ⟨rfl,u,v,rfl,a,b,e,g⟩;dsimp only;by_cases z:u>=v;rw[if_pos z];obtain rfl:v=k:=by lia
   exact bx ⟨rfl,u,rfl⟩;rw[if_neg z];refine aY (hp _ _ (by lia) ?_);by_cases y:u+ (v-u)/2<k;rw[h1 _ y];exact bx ⟨rfl,_,v,rfl,by lia,b,e,by lia⟩;rw[h2 _ (by lia) (by lia)];exact bx ⟨rfl,u,_,rfl,a,by lia,by lia,by lia⟩
  case post=>
   rintro d st' ⟨rfl,u,rfl⟩;exact bx h
 unfold wA;refine aY (hp _ _ hh ?_);by_cases y:hn<k
 .rw[h1 _ y]
  show wpS M A E s (if true=true then _ else _) Q st;rw[if_pos rfl];refine aY (jM (jL (I:=λx d st'=>st'=st/\∃l o,d=(aE,l,o)/\hn+l<k/\x+1<=o)
   (Q:=λd st'=>st'=st/\∃l o,d=(aE,l,o)/\hn+l<k/\(n-hn<=o\/k<=hn+o)) ?step ?fin ⟨rfl,0,1,rfl,y,aT _⟩) ?post)
  case fin=>
   rintro d st' ⟨rfl,l,o,rfl,a,b⟩;exact⟨rfl,l,o,rfl,a,.inl (by lia)⟩
  case step=>
   rintro x d st' _ hx ⟨rfl,l,o,rfl,a,b⟩;dsimp only;by_cases z:o>=n-hn;rw[if_pos z];exact bx ⟨rfl,l,o,rfl,a,.inl z⟩;rw[if_neg z];refine aY (hp _ _ (by lia) ?_);by_cases q:hn+o<k;rw[h1 _ q];exact bx ⟨rfl,o,2*o+1,rfl,q,by lia⟩;rw[h2 _ (by lia) (by lia)];exact bx ⟨rfl,l,o,rfl,a,.inr (by lia)⟩
  case post=>
   rintro d st' ⟨rfl,l,o,rfl,a,b⟩;exact last (hn+l+1) (hn+min o (n-hn)) (by lia) (by lia) (by lia)
 .rw[h2 _ (by lia) hh]
  show wpS M A E s (if false=true then _ else _) Q st;rw[if_neg (by simp)];refine aY (jM (jL (I:=λx d st'=>st'=st/\∃l o,d=(aE,l,o)/\k+l<=hn/\x+1<=o)
   (Q:=λd st'=>st'=st/\∃l o,d=(aE,l,o)/\k+l<=hn/\(hn+1<=o\/hn<k+o)) ?A8 ?dS ⟨rfl,0,1,rfl,by lia,aT _⟩) ?A9)
  case dS=>
   rintro d st' ⟨rfl,l,o,rfl,a,b⟩;exact⟨rfl,l,o,rfl,a,.inl (by lia)⟩
  case A8=>
   rintro x d st' _ hx ⟨rfl,l,o,rfl,a,b⟩;dsimp only;by_cases z:o>=hn+1;rw[if_pos z];exact bx ⟨rfl,l,o,rfl,a,.inl z⟩;rw[if_neg z];refine aY (hp _ _ (by lia) ?_);by_cases q:hn-o<k;rw[h1 _ q];exact bx ⟨rfl,l,o,rfl,a,.inr (by lia)⟩;rw[h2 _ (by lia) (by lia)];exact bx ⟨rfl,o,2*o+1,rfl,by lia,by lia⟩
  case A9=>
   rintro d st' ⟨rfl,l,o,rfl,a,b⟩;exact last (hn+1-min o (hn+1)) (hn-l) (by lia) (by lia) (by lia)
end
end TS
namespace TS
open PySem PySem.W PyProof.Rows KO
noncomputable def ar(f:Nat->Keyed)(l:List Nat):Array Keyed:=(l.map f).toArray
noncomputable def So(r:Nat->Int)(l:List Nat):Prop:=l.Pairwise λa b=>r a<=r b
section
variable{f:Nat->Keyed}{r:Nat->Int}
theorem jX{l:List Nat}:(ar f l).size=l.length:=by simp[ar]
theorem Ba{l:List Nat}{i:Nat}(hi:i<l.length):(ar f l)[i]?=aD (f l[i]):=by simp[ar,hi]
theorem Bb{l:List Nat}{x:Nat}:(ar f l).push (f x)=ar f (l++[x]):=by simp[ar]
theorem oA{l m:List Nat}:ar f l++ar f m=ar f (l++m):=by simp[ar]
theorem qk{l:List Nat}{i j:Nat}:(ar f l).extract i j=ar f ((l.drop i).take (j-i)):=by simp[ar,List.extract_eq_take_drop]
theorem Ih{l:List Nat}:(ar f l).reverse=ar f l.reverse:=by simp[ar]
theorem So.at_{l:List Nat}(h:So r l){i j:Nat}(hij:i<=j)(hj:j<l.length):r (l[i]'(by lia))<=r l[j]:=by by_cases e:i=j;subst e;exact ym _;exact vA.mp h i j (by lia) hj (by lia)
theorem So.drop{l:List Nat}(h:So r l)(k:Nat):So r (l.drop k):=List.Pairwise.sublist (List.drop_sublist _ _) h
theorem So.take{l:List Nat}(h:So r l)(k:Nat):So r (l.take k):=List.Pairwise.sublist (List.take_sublist _ _) h
theorem yI{l:List Nat}{k x:Nat}(h:x∈l.drop k):∃j,∃hj:j<l.length,k<=j/\l[j]=x:=by obtain⟨i,hi,e⟩:=zz h;rw[List.getElem_drop]at e;rw[kQ]at hi;exact⟨k+i,by lia,by lia,e⟩
theorem EB{l:List Nat}{k n x:Nat}(h:x∈(l.drop k).take n):∃j,∃hj:j<l.length,k<=j/\j<k+n/\l[j]=x:=by obtain⟨i,hi,e⟩:=zz h;rw[List.getElem_take,List.getElem_drop]at e;rw[kP,kQ]at hi;exact⟨k+i,by lia,by lia,by lia,e⟩
structure MI(r:Nat->Int)(la lb lo:List Nat)(ia ib:Nat):Prop where
 pm:(lo++(la.drop ia++lb.drop ib)).Perm (la++lb)
 so:So r lo
 le:∀x∈lo,(∀y∈la.drop ia,r x<=r y)/\∀y∈lb.drop ib,r x<=r y
 ln:lo.length=ia+ib
theorem Bc{l:List Nat}{i k:Nat}:l.drop i=(l.drop i).take k++l.drop (i+k):=by rw[<-List.drop_drop,List.take_append_drop]
theorem MI.oB{la lb lo:List Nat}{ia ib k:Nat}(h:MI r la lb lo ia ib)(sb:So r lb)(hk:ib+k<=lb.length)(hl:∀j (hj:j<lb.length),ib<=j->j<ib+k->∀y∈la.drop ia,r lb[j]<=r y):MI r la lb (lo++(lb.drop ib).take k) ia (ib+k):=by
 refine⟨?_,?_,?_,?_⟩;refine List.Perm.trans ?_ h.pm;rw[jK];refine yp lo ?_;have e:la.drop ia++lb.drop ib=la.drop ia++(lb.drop ib).take k++lb.drop (ib+k):=by rw[jK,<-Bc]
 rw[e,<-jK];exact DT DG (qN _);refine nR.mpr ⟨h.so,(sb.drop ib).take k,λx hx y hy=>(h.le x hx).2 y (yf hy)⟩;intro x hx;rcases mF.mp hx with hx|hx
 exact⟨(h.le x hx).1,λy hy=>(h.le x hx).2 y (by rw[Bc (k:=k)];exact ig _ hy)⟩;obtain⟨j,hj,h1,h2,rfl⟩:=EB hx;refine⟨λy hy=>hl j hj h1 h2 y hy,λy hy=>?_⟩;obtain⟨i,hi,h3,rfl⟩:=yI hy;exact sb.at_ (by lia) hi;rw[eW,h.ln,kP,kQ];lia
theorem MI.bN{la lb lo:List Nat}{ia ib k:Nat}(h:MI r la lb lo ia ib)(sa:So r la)(hk:ia+k<=la.length)(hl:∀j (hj:j<la.length),ia<=j->j<ia+k->∀y∈lb.drop ib,r la[j]<=r y):MI r la lb (lo++(la.drop ia).take k) (ia+k) ib:=by
 refine⟨?_,?_,?_,?_⟩;refine List.Perm.trans ?_ h.pm;rw[jK];refine yp lo ?_;rw[<-jK,<-Bc];refine nR.mpr ⟨h.so,(sa.drop ia).take k,λx hx y hy=>(h.le x hx).1 y (yf hy)⟩;intro x hx;rcases mF.mp hx with hx|hx
 exact⟨λy hy=>(h.le x hx).1 y (by rw[Bc (k:=k)];exact ig _ hy),(h.le x hx).2⟩;obtain⟨j,hj,h1,h2,rfl⟩:=EB hx;refine⟨λy hy=>?_,λy hy=>hl j hj h1 h2 y hy⟩;obtain⟨i,hi,h3,rfl⟩:=yI hy;exact sa.at_ (by lia) hi;rw[eW,h.ln,kP,kQ];lia
theorem Ii{l:List Nat}{i:Nat}(hi:i<l.length):(l.drop i).take 1=[l[i]]:=by rw[tW hi];rfl
noncomputable def Mg(f:Nat->Keyed)(r:Nat->Int)(la lb:List Nat)(x:Array Keyed):Prop:=∃l,x=ar f l/\l.Perm (la++lb)/\So r l
theorem MI.done{la lb lo:List Nat}{ia ib:Nat}(h:MI r la lb lo ia ib)(sa:So r la)(hb:ib=lb.length):Mg f r la lb (ar f lo++(ar f la).extract ia (ar f la).size++(ar f lb).extract ib (ar f lb).size):=by subst hb;have e:(la.drop ia).take (la.length-ia)=la.drop ia:=List.take_of_length_le (by rw[kQ];exact aT _);refine⟨lo++la.drop ia,?_,?_,nR.mpr ⟨h.so,sa.drop ia,λx hx y hy=>(h.le x hx).1 y hy⟩⟩;rw[jX,jX,qk,qk,oA,oA,e,DK,List.take_nil,nI];have:=h.pm;rw[DK,nI]at this;exact this
theorem MI.last{la lb lo:List Nat}{ia ib:Nat}(h:MI r la lb lo ia ib)(sb:So r lb)(ha:ia+1=la.length)(hl:∀x∈lb,r x<=r (la[ia]'(by lia))):Mg f r la lb (ar f lo++(ar f lb).extract ib (ar f lb).size++(ar f la).extract ia (ar f la).size):=by
 have e:(la.drop ia).take (la.length-ia)=la.drop ia:=List.take_of_length_le (by rw[kQ];exact aT _);have e2:(lb.drop ib).take (lb.length-ib)=lb.drop ib:=List.take_of_length_le (by rw[kQ];exact aT _);have e3:la.drop ia=[la[ia]'(by lia)]:=by rw[tW (by lia),show ia+1=la.length from ha,DK]
 refine⟨lo++lb.drop ib++la.drop ia,?_,?_,?_⟩;rw[jX,jX,qk,qk,oA,oA,e,e2];refine List.Perm.trans ?_ h.pm;rw[jK];exact yp lo DG;refine nR.mpr ⟨nR.mpr ⟨h.so,sb.drop ib,λx hx y hy=>(h.le x hx).2 y hy⟩,Ij e3,λx hx y hy=>?_⟩;rcases mF.mp hx with hx|hx
 exact(h.le x hx).1 y hy;rw[e3]at hy;rw[pZ.mp hy];exact hl x (DH hx)
where
 Ij {l:List Nat} {x:Nat} (e:l=[x]):l.Pairwise (λa b=>r a<=r b):=by rw[e];exact List.pairwise_singleton ..
end
end TS
namespace TS
open PySem PySem.W PyProof.Rows KO
theorem Om{B:Nat->Bool}:∀n,(∀i j,i<=j->j<n->B j=true->B i=true)->∃k,k<=n/\(∀i,i<k->B i=true)/\∀i,k<=i->i<n->B i=false
 |0,_=>⟨0,aT _,λi h=>by lia,λi _ h=>by lia⟩
 |n+1,m=>by
  cases e:B n with
  |true=>exact⟨n+1,aT _,λi h=>m i n (by lia) (by lia) e,λi _ h=>by lia⟩
  |false=>
   obtain⟨k,a,b,c⟩:=Om (B:=B) n λi j x y z=>m i j x (by lia) z;refine⟨k,by lia,b,λi x y=>?_⟩;by_cases z:i=n;subst z;exact e;exact c i x (by lia)
noncomputable def setG:Nat->StateT SortSt Sem Unit:=sortPriv% PySem.Builtin.setMinGallop
section
variable{prog:ai}{w:aj}{A:ak}{E:aa->af->Prop}{s:af}{κ:SortKind}{f:Nat->Keyed}{r:Nat->Int}{N:Nat}
theorem bO{l:List Nat}{i:Nat}{st:SortSt}{Q:Keyed->SortSt->Prop}(hi:i<l.length)(h:Q (f l[i]) st):wpS (model prog w) A E s (elem' (ar f l) i) Q st:=by rw[elem'_eq,Ba hi];exact bx h
theorem EC{p:Array Nat}{pd:Array (Nat×Nat×Nat)}{g g':Nat}{Q:Unit->SortSt->Prop}(h:Q () (St κ f p pd g')):wpS (model prog w) A E s (setG g') Q (St κ f p pd g):=yl (f:=λs=>SortSt.mk' (kindOf s) (arrOf s) (pendingOf s) g' (failedOf s)) h
noncomputable def Bf(r:Nat->Int)(lf:Bool)(x:Nat)(l:List Nat)(bs i:Nat):Bool:=if lf then decide (r (l.getD (bs+i) 0)<r x)else !decide (r x<r (l.getD (bs+i) 0))
theorem oE{l:List Nat}{i:Nat}(hi:i<l.length):l.getD i 0=l[i]:=by rw[tU,eT hi];rfl
theorem Ik(c:Cp prog w A s κ f r N){l:List Nat}(bl:∀y∈l,y<N){x:Nat}(hx:x<N){lf:Bool}{bs n hn:Nat}(sl:∀i j,i<=j->j<n->r (l.getD (bs+i) 0)<=r (l.getD (bs+j) 0))(hb:bs+n<=l.length)(hh:hn<n){st:SortSt}(hk:kindOf st=κ){Q:Option Nat->SortSt->Prop}
 (h:∀k,k<=n->(∀i,i<k->Bf r lf x l bs i=true)->(∀i,k<=i->i<n->Bf r lf x l bs i=false)->Q (aD k) st):wpS (model prog w) A E s (jn lf (f x) (ar f l) bs n hn) Q st:=by
 obtain⟨k,k1,k2,k3⟩:=Om (B:=Bf r lf x l bs) n λi j a b e=>by
  have:=sl i j a b;unfold Bf at e ⊢;cases lf with
  |true=>
   simp only[bZ,fj]at e ⊢;lia
  |false=>
   simp only[dZ,dF,tT,vq]at e ⊢;lia
 rw[V9];refine Wa (B:=Bf r lf x l bs) (λi Q hi hQ=>?_) k1 k2 k3 hh (h k k1 k2 k3);have hi':bs+i<l.length:=by lia
 refine aY (bO hi' ?_);unfold Bf at hQ;rw[oE hi']at hQ;have hy:l[bs+i]<N:=bl _ (iK _);cases lf with
 |true=>
  simp only[bZ]at hQ ⊢;exact jU c hy hx hk hQ
 |false=>
  simp only[dZ,dF]at hQ ⊢;exact aY (jU c hx hy hk (bx hQ))
theorem ED(c:Cp prog w A s κ f r N){l:List Nat}(bl:∀y∈l,y<N)(sl:So r l){x:Nat}(hx:x<N){lf:Bool}{bs n hn:Nat}(hb:bs+n<=l.length)(hh:hn<n){st:SortSt}(hk:kindOf st=κ){Q:Option Nat->SortSt->Prop}
 (h:∀k,k<=n->(∀i,i<k->Bf r lf x l bs i=true)->(∀i,k<=i->i<n->Bf r lf x l bs i=false)->Q (aD k) st):wpS (model prog w) A E s (jn lf (f x) (ar f l) bs n hn) Q st:=
 Ik c bl hx (λi j a b=>by rw[oE (l:=l) (i:=bs+i) (by lia),oE (l:=l) (i:=bs+j) (by lia)];exact sl.at_ (by lia) (by lia)) hb hh hk h
end
noncomputable abbrev Arr:=Array Keyed
noncomputable abbrev SS:=StateT SortSt Sem
noncomputable abbrev rO:=Option Arr×Arr×Nat×Nat×Nat×Nat×Nat
noncomputable def fG(a b o:Arr)(i j:Nat):Arr:=o++a.extract i a.size++b.extract j b.size
noncomputable def oF(a b o:Arr)(i j:Nat):Arr:=o++b.extract j b.size++a.extract i a.size
noncomputable def EE(a b o:Arr)(i j g ca cb:Nat):SS (ForInStep rO):=do
 let x <-elem' a i
 if(i+1+1==a.size)=true then pure (.done (aD (oF a b (o.push x) (i+1) j),o.push x,i+1,j,g,ca,cb))
 else if(decide (ca<7)&&decide (cb<7))=true then pure (.done (aE,o.push x,i+1,j,g,ca,cb))else pure (.yield (aE,o.push x,i+1,j,g,ca,cb))
noncomputable def EF(a b o:Arr)(i j g ca cb:Nat):SS (ForInStep rO):=do
 let x <-elem' b j
 if(j+1==b.size)=true then pure (.done (aD (fG a b (o.push x) i (j+1)),o.push x,i,j+1,g,ca,cb))
 else do
  let y <-elem' a i
  let z <-jn true y b (j+1) (b.size- (j+1)) 0
  match z with
  |some k=>
   if k>0 then
    if(j+1+k==b.size)=true then pure (.done (aD (fG a b (o.push x++b.extract (j+1) (j+1+k)) i (j+1+k)),o.push x++b.extract (j+1) (j+1+k),i,j+1+k,g,ca,k))
    else EE a b (o.push x++b.extract (j+1) (j+1+k)) i (j+1+k) g ca k
   else EE a b (o.push x) i (j+1) g ca k
  |_=>pure (.done (aD (fG a b (o.push x) i (j+1)),o.push x,i,j+1,g,ca,cb))
noncomputable def EG(a b o:Arr)(i j g ca cb:Nat):SS (ForInStep rO):=do
 setG g
 let y <-elem' b j
 let z <-jn false y a i (a.size-i) 0
 match z with
 |some k=>
  if k>0 then
   if(i+k+1==a.size)=true then pure (.done (aD (oF a b (o++a.extract i (i+k)) (i+k) j),o++a.extract i (i+k),i+k,j,g,k,cb))
   else if(i+k==a.size)=true then pure (.done (aD (fG a b (o++a.extract i (i+k)) (i+k) j),o++a.extract i (i+k),i+k,j,g,k,cb))
   else EF a b (o++a.extract i (i+k)) (i+k) j g k cb
  else EF a b o i j g k cb
 |_=>pure (.done (aD (fG a b o i j),o,i,j,g,ca,cb))
noncomputable def Oo(a b:Arr)(t:rO):SS (ForInStep rO):=if t.2.2.2.2.1>1 then EG a b t.2.1 t.2.2.1 t.2.2.2.1 (t.2.2.2.2.1-1) t.2.2.2.2.2.1 t.2.2.2.2.2.2 else EG a b t.2.1 t.2.2.1 t.2.2.2.1 t.2.2.2.2.1 t.2.2.2.2.2.1 t.2.2.2.2.2.2
noncomputable abbrev Be:=Option Arr×Arr×Nat×Nat×Nat×Nat
noncomputable def Il(a b:Arr)(g:Nat)(t:Be):SS (ForInStep Be):=do
 let x <-elem' b t.2.2.2.1
 let y <-elem' a t.2.2.1
 let z <-lt' x y
 match z with
 |some q=>
  if q=true then do
   let x <-elem' b t.2.2.2.1
   if(t.2.2.2.1+1==b.size)=true then pure (.done (aD (fG a b (t.2.1.push x) t.2.2.1 (t.2.2.2.1+1)),t.2.1.push x,t.2.2.1,t.2.2.2.1+1,0,t.2.2.2.2.2+1))
   else if t.2.2.2.2.2+1>=g then pure (.done (aE,t.2.1.push x,t.2.2.1,t.2.2.2.1+1,0,t.2.2.2.2.2+1))else pure (.yield (aE,t.2.1.push x,t.2.2.1,t.2.2.2.1+1,0,t.2.2.2.2.2+1))
  else do
   let x <-elem' a t.2.2.1
   if(t.2.2.1+1+1==a.size)=true then pure (.done (aD (oF a b (t.2.1.push x) (t.2.2.1+1) t.2.2.2.1),t.2.1.push x,t.2.2.1+1,t.2.2.2.1,t.2.2.2.2.1+1,0))
   else if t.2.2.2.2.1+1>=g then pure (.done (aE,t.2.1.push x,t.2.2.1+1,t.2.2.2.1,t.2.2.2.2.1+1,0))else pure (.yield (aE,t.2.1.push x,t.2.2.1+1,t.2.2.2.1,t.2.2.2.2.1+1,0))
 |_=>pure (.done (aD (fG a b t.2.1 t.2.2.1 t.2.2.2.1),t.2.1,t.2.2.1,t.2.2.2.1,t.2.2.2.2.1,t.2.2.2.2.2))
noncomputable abbrev Im:=Option Arr×Arr×Nat×Nat×Nat
noncomputable def Oq(a b:Arr)(t:Im):SS (ForInStep Im):=do
 let u <-forIn [0:a.size+b.size] ((aE,t.2.1,t.2.2.1,t.2.2.2.1,0,0):Be) λ_ u=>Il a b t.2.2.2.2 u
 match u.1 with
 |some x=>pure (.done (aD x,u.2.1,u.2.2.1,u.2.2.2.1,t.2.2.2.2))
 |none=>do
  rule "list.sort.gallop"
  let v <-forIn [0:a.size+b.size] ((aE,u.2.1,u.2.2.1,u.2.2.2.1,t.2.2.2.2+1,u.2.2.2.2.1,u.2.2.2.2.2):rO) λ_ v=>Oo a b v
  match v.1 with
  |some x=>pure (.done (aD x,v.2.1,v.2.2.1,v.2.2.2.1,v.2.2.2.2.1))
  |none=>do
   setG (v.2.2.2.2.1+1)
   pure (.yield (aE,v.2.1,v.2.2.1,v.2.2.2.1,v.2.2.2.2.1+1))
noncomputable def wB(a b:Arr):SS Arr:=do
 rule "list.sort.merge-lo"
 let x <-elem' b 0
 if(1==b.size)=true then pure (fG a b #[x] 0 1)
 else if(0+1==a.size)=true then pure (oF a b #[x] 0 1)
 else do
  let z <-get
  let t <-forIn [0:a.size+b.size] ((aE,#[x],0,1,gallopOf z):Im) λ_ t=>Oq a b t
  match t.1 with|some x=>pure x|none=>unsupported "internal:list.sort.merge-bound"
end TS
namespace TS
open PySem PySem.W PyProof.Rows KO
section
variable{prog:ai}{w:aj}{A:ak}{E:aa->af->Prop}{s:af}{κ:SortKind}{f:Nat->Keyed}{r:Nat->Int}{N:Nat}
theorem MI.oG{la lb lo:List Nat}{i j:Nat}(h:MI r la lb lo i j)(sa:So r la)(sb:So r lb)(hi:i<la.length)(hj:j<lb.length)(e:r lb[j]<=r la[i]):MI r la lb (lo++[lb[j]]) i (j+1):=by
 have:=h.oB (k:=1) sb (by lia) λq hq h1 h2 y hy=>by
  obtain rfl:q=j:=by lia
  obtain⟨t,ht,h3,rfl⟩:=yI hy;exact kB e (sa.at_ h3 ht)
 rw[Ii hj]at this;exact this
theorem MI.uv{la lb lo:List Nat}{i j:Nat}(h:MI r la lb lo i j)(sa:So r la)(sb:So r lb)(hi:i<la.length)(hj:j<lb.length)(e:r la[i]<=r lb[j]):MI r la lb (lo++[la[i]]) (i+1) j:=by
 have:=h.bN (k:=1) sa (by lia) λq hq h1 h2 y hy=>by
  obtain rfl:q=i:=by lia
  obtain⟨t,ht,h3,rfl⟩:=yI hy;exact kB e (sb.at_ h3 ht)
 rw[Ii hi]at this;exact this
structure Tw(N:Nat)(r:Nat->Int)(la lb:List Nat):Prop where
 ba:∀x∈la,x<N
 bb:∀x∈lb,x<N
 sa:So r la
 sb:So r lb
 na:0<la.length
 nb:0<lb.length
 h0:r lb[0]<=r la[0]
 hl:∀x∈lb,∀i (hi:i<la.length),i+1=la.length->r x<r la[i]
theorem Tw.done(T:Tw N r la lb){lo:List Nat}{i j:Nat}(m:MI r la lb lo i j)(e:(j==lb.length)):Mg f r la lb (fG (ar f la) (ar f lb) (ar f lo) i j):=m.done T.sa (by simpa using e)
theorem Tw.last(T:Tw N r la lb){lo:List Nat}{i j:Nat}(m:MI r la lb lo i j)(e:(i+1==la.length)):Mg f r la lb (oF (ar f la) (ar f lb) (ar f lo) i j):=m.last T.sb (by simpa using e) λx hx=>nT (T.hl x hx i _ (by simpa using e))
noncomputable def oH(f:Nat->Keyed)(r:Nat->Int)(la lb:List Nat)(o:Arr)(i j m:Nat):Prop:=∃lo,o=ar f lo/\MI r la lb lo i j/\i+1<la.length/\j<lb.length/\m<=i+j
variable{la lb:List Nat}{p:Array Nat}{pd:Array (Nat×Nat×Nat)}
theorem Wb(c:Cp prog w A s κ f r N)(T:Tw N r la lb){g mg:Nat}{t:Be}{m:Nat}(I:oH f r la lb t.2.1 t.2.2.1 t.2.2.2.1 m){Q:ForInStep Be->SortSt->Prop}
 (h1:∀x u,Mg f r la lb x->Q (.done (aD x,u)) (St κ f p pd g)) (h2:∀o i j y z,oH f r la lb o i j (m+1)->Q (.done (aE,o,i,j,y,z)) (St κ f p pd g)/\Q (.yield (aE,o,i,j,y,z)) (St κ f p pd g)) :
 wpS (model prog w) A E s (Il (ar f la) (ar f lb) mg t) Q (St κ f p pd g):=by
 obtain⟨t0,o,i,j,ca,cb⟩:=t;obtain⟨lo,rfl,M,hi,hj,hm⟩:=I
 replace hi:i+1<la.length:=hi
 replace hj:j<lb.length:=hj
 replace hm:m<=i+j:=hm
 replace M:MI r la lb lo i j:=M;have hi':i<la.length:=zo hi;unfold Il;dsimp only;refine aY (bO hj (aY (bO hi' (aY (jU c (T.bb _ (iK hj)) (T.ba _ (iK hi')) rfl ?_)))));by_cases q:r lb[j]<r la[i];rw[kq q];show wpS _ _ _ _ (if true=true then _ else _) _ _;rw[if_pos rfl];refine aY (bO hj ?_);rw[Bb,jX];have M':=M.oG T.sa T.sb hi' hj (nT q);by_cases e:(j+1==lb.length)=true;rw[if_pos e];exact bx (h1 _ _ (T.done M' e));rw[if_neg e];have e':j+1≠lb.length:=by simpa using e
 obtain⟨a,b⟩:=h2 _ i (j+1) 0 (cb+1) ⟨_,rfl,M',hi,by lia,by lia⟩;split;exact bx a;exact bx b;rw[gX q];show wpS _ _ _ _ (if false=true then _ else _) _ _;rw[if_neg (by simp)];refine aY (bO hi' ?_);rw[Bb,jX];have M':=M.uv T.sa T.sb hi' hj (qc.mp q);by_cases e:(i+1+1==la.length)=true;rw[if_pos e];exact bx (h1 _ _ (T.last M' e));rw[if_neg e];have e':i+1+1≠la.length:=by simpa using e
 obtain⟨a,b⟩:=h2 _ (i+1) j (ca+1) 0 ⟨_,rfl,M',by lia,hj,by lia⟩;split;exact bx a;exact bx b
theorem Ot(T:Tw N r la lb){g cg ca cb i j:Nat}{lo:List Nat}{m:Nat}(M:MI r la lb lo i j)(hi:i+1<la.length)(hj:j<lb.length)(hm:m<=i+j)(e:r la[i]<=r lb[j]){Q:ForInStep rO->SortSt->Prop}
 (h1:∀x u,Mg f r la lb x->Q (.done (aD x,u)) (St κ f p pd g)) (h2:∀o i j g' y z,oH f r la lb o i j (m+1)->Q (.done (aE,o,i,j,g',y,z)) (St κ f p pd g)/\Q (.yield (aE,o,i,j,g',y,z)) (St κ f p pd g)) :
 wpS (model prog w) A E s (EE (ar f la) (ar f lb) (ar f lo) i j cg ca cb) Q (St κ f p pd g):=by
 have hi':i<la.length:=zo hi;unfold EE;refine aY (bO hi' ?_);rw[Bb,jX];have M':=M.uv T.sa T.sb hi' hj e;by_cases e:(i+1+1==la.length)=true;rw[if_pos e];exact bx (h1 _ _ (T.last M' e));rw[if_neg e];have e':i+1+1≠la.length:=by simpa using e
 obtain⟨a,b⟩:=h2 _ (i+1) j cg ca cb ⟨_,rfl,M',by lia,hj,by lia⟩;split;exact bx a;exact bx b
theorem oJ{x:Nat}{l:List Nat}{bs i:Nat}(hi:bs+i<l.length):Bf r false x l bs i=!decide (r x<r l[bs+i]):=by unfold Bf;rw[oE hi];rfl
theorem rP{x:Nat}{l:List Nat}{bs i:Nat}(hi:bs+i<l.length):Bf r true x l bs i=decide (r l[bs+i]<r x):=by unfold Bf;rw[oE hi];rfl
theorem Ov(c:Cp prog w A s κ f r N)(T:Tw N r la lb){g cg ca cb i j:Nat}{lo:List Nat}{m:Nat}(M:MI r la lb lo i j)(hi:i+1<la.length)(hj:j<lb.length)(hm:m<=i+j)(e:r lb[j]<=r la[i]){Q:ForInStep rO->SortSt->Prop}
 (h1:∀x u,Mg f r la lb x->Q (.done (aD x,u)) (St κ f p pd g)) (h2:∀o i j g' y z,oH f r la lb o i j (m+1)->Q (.done (aE,o,i,j,g',y,z)) (St κ f p pd g)/\Q (.yield (aE,o,i,j,g',y,z)) (St κ f p pd g)) :
 wpS (model prog w) A E s (EF (ar f la) (ar f lb) (ar f lo) i j cg ca cb) Q (St κ f p pd g):=by
 have hi':i<la.length:=zo hi;unfold EF;refine aY (bO hj ?_);rw[Bb,jX];have M':=M.oG T.sa T.sb hi' hj e;by_cases x1:(j+1==lb.length)=true;rw[if_pos x1];exact bx (h1 _ _ (T.done M' x1));rw[if_neg x1];have Bg:j+1≠lb.length:=by simpa using x1
 refine aY (bO hi' (aY (ED c T.bb T.sb (T.ba _ (iK hi')) (by lia) (by lia) rfl λk hk k1 k2=>?_)));dsimp only;have M2:=M'.oB (k:=k) T.sb (by lia) λq hq a b y hy=>by
  have:=k1 (q- (j+1)) (by lia);rw[rP (by lia)]at this;simp only[show j+1+ (q- (j+1))=q by lia,fj]at this;obtain⟨t,ht,h3,rfl⟩:=yI hy;exact kB (nT this) (T.sa.at_ h3 ht)
 have nx:∀(h:j+1+k<lb.length),r la[i]<=r lb[j+1+k]:=λh=>by
  have:=k2 k (aT _) (by lia);rw[rP h]at this;simpa using this
 by_cases x2:k>0;rw[if_pos x2,qk,oA,show j+1+k- (j+1)=k by lia];by_cases x3:(j+1+k==lb.length)=true;rw[if_pos x3];exact bx (h1 _ _ (T.done M2 x3));rw[if_neg x3];have Ow:j+1+k≠lb.length:=by simpa using x3
 exact Ot T M2 hi (by lia) (by lia) (nx (by lia)) h1 h2;rw[if_neg x2];obtain rfl:k=0:=by lia
 exact Ot T M' hi (by lia) (by lia) (nx (by lia)) h1 h2
theorem Wc(c:Cp prog w A s κ f r N)(T:Tw N r la lb){g cg ca cb i j:Nat}{lo:List Nat}{m:Nat}(M:MI r la lb lo i j)(hi:i+1<la.length)(hj:j<lb.length)(hm:m<=i+j){Q:ForInStep rO->SortSt->Prop}
 (h1:∀x u g,Mg f r la lb x->Q (.done (aD x,u)) (St κ f p pd g)) (h2:∀o i j g' y z g,oH f r la lb o i j (m+1)->Q (.done (aE,o,i,j,g',y,z)) (St κ f p pd g)/\Q (.yield (aE,o,i,j,g',y,z)) (St κ f p pd g)) :
 wpS (model prog w) A E s (EG (ar f la) (ar f lb) (ar f lo) i j cg ca cb) Q (St κ f p pd g):=by
 have hi':i<la.length:=zo hi;unfold EG;refine aY (EC (g':=cg) ?_);rw[jX];refine aY (bO hj (aY (ED c T.ba T.sa (T.bb _ (iK hj)) (by lia) (by lia) rfl λk hk k1 k2=>?_)));dsimp only;have Bh:=T.hl _ (iK hj) (la.length-1) (by lia) (by lia);have hk':i+k+1<=la.length:=by by_cases z:i+k+1<=la.length;exact z;have:=k1 (la.length-1-i) (by lia);rw[oJ (by lia)]at this;simp only[show i+ (la.length-1-i)=la.length-1 by lia,tT,vq]at this;exact absurd Bh this
 have M2:=M.bN (k:=k) T.sa (by lia) λq hq a b y hy=>by
  have:=k1 (q-i) (by lia);rw[oJ (by lia)]at this;simp only[show i+ (q-i)=q by lia,tT,vq]at this;obtain⟨t,ht,h3,rfl⟩:=yI hy;exact kB (qc.mp this) (T.sb.at_ h3 ht)
 have nx:r lb[j]<=r (la[i+k]'(by lia)):=by have:=k2 k (aT _) (by lia);rw[oJ (by lia)]at this;simp only[Bool.not_eq_false',fj]at this;exact nT this
 by_cases x2:k>0;rw[if_pos x2,qk,oA,show i+k-i=k by lia];by_cases x3:(i+k+1==la.length)=true;rw[if_pos x3];exact bx (h1 _ _ _ (T.last M2 x3));rw[if_neg x3];have Ow:i+k+1≠la.length:=by simpa using x3
 rw[if_neg (by simp;lia)];exact Ov c T M2 (by lia) hj (by lia) nx (λx u=>h1 x u _) λo i j g' y z=>h2 o i j g' y z _;rw[if_neg x2];obtain rfl:k=0:=by lia
 exact Ov c T M hi hj hm nx (λx u=>h1 x u _) λo i j g' y z=>h2 o i j g' y z _
theorem Bj(c:Cp prog w A s κ f r N)(T:Tw N r la lb){g:Nat}{Q:Arr->SortSt->Prop}(h:∀x g',Mg f r la lb x->Q x (St κ f p pd g')):wpS (model prog w) A E s (wB (ar f la) (ar f lb)) Q (St κ f p pd g):=by
 have na:=T.na;have nb:=T.nb;unfold wB;refine aY (vI (kO ⟨rfl,?_⟩));refine aY (bO nb ?_);have m0:MI r la lb [] 0 0:=⟨qN _,List.Pairwise.nil,(λx hx=>nomatch hx),rfl⟩
 have m1:=m0.oG T.sa T.sb na nb T.h0;rw[yh]at m1;have e1:#[f lb[0]]=ar f [lb[0]]:=rfl;rw[e1,jX,jX];by_cases x1:(1==lb.length)=true;rw[if_pos x1];exact bx (h _ _ (T.done m1 x1));rw[if_neg x1];by_cases x2:(0+1==la.length)=true;rw[if_pos x2];exact bx (h _ _ (T.last m1 x2));rw[if_neg x2];have Bg:1≠lb.length:=by simpa using x1
 have Io:1≠la.length:=by simpa using x2
 refine aY (nS ?_);generalize gallopOf (St κ f p pd g)=mg;refine aY (jM (jL (I:=λx d st'=>∃o i j mg g',d=(aE,o,i,j,mg)/\st'=St κ f p pd g'/\oH f r la lb o i j (1+x))
  (Q:=λd st'=>∃x u g',d=(aD x,u)/\st'=St κ f p pd g'/\Mg f r la lb x) ?step ?fin ⟨_,0,1,mg,g,rfl,rfl,_,rfl,m1,by lia,by lia,by lia⟩) ?post)
 case fin=>
  rintro d st' ⟨o,i,j,mg,g',rfl,rfl,lo,rfl,m,a,b,e⟩;lia
 case post=>
  rintro d st' ⟨x,u,g',rfl,rfl,m⟩;exact bx (h _ _ m)
 case step=>
  rintro x d st' _ hx ⟨o,i,j,mg,g',rfl,rfl,I0⟩;unfold Oq;refine aY (jM (jL (I:=λy d st'=>st'=St κ f p pd g'/\∃o i j ca cb,d=(aE,o,i,j,ca,cb)/\oH f r la lb o i j (1+x+y))
   (Q:=λd st'=>st'=St κ f p pd g'/\((∃x u,d=(aD x,u)/\Mg f r la lb x)\/∃o i j ca cb,d=(aE,o,i,j,ca,cb)/\oH f r la lb o i j (1+x+1))) ?jV ?oz ⟨rfl,o,i,j,0,0,rfl,I0⟩) ?jW)
  case oz=>
   rintro d st' ⟨rfl,o,i,j,ca,cb,rfl,lo,rfl,m,a,b,e⟩;rw[jX,jX]at e;exact⟨rfl,.inr ⟨_,i,j,ca,cb,rfl,lo,rfl,m,a,b,by lia⟩⟩
  case jV=>
   rintro y d st' _ hy ⟨rfl,o,i,j,ca,cb,rfl,I⟩;refine Wb c T I (λx u m=>⟨rfl,.inl ⟨x,u,rfl,m⟩⟩) λo i j y' z I'=>⟨⟨rfl,.inr ⟨o,i,j,y',z,rfl,?_⟩⟩,rfl,o,i,j,y',z,rfl,I'⟩
   obtain⟨lo,e,m,a,b,e'⟩:=I'
   replace e':1+x+y+1<=i+j:=e';exact⟨lo,e,m,a,b,by lia⟩
  case jW=>
   rintro d st' ⟨rfl,⟨z,u,rfl,m⟩|⟨o,i,j,ca,cb,rfl,I⟩⟩;exact bx ⟨z,_,g',rfl,rfl,m⟩
   .refine aY (vI (kO ⟨rfl,?_⟩))
    refine aY (jM (jL (I:=λy d st'=>∃o i j mg ca cb g',st'=St κ f p pd g'/\d=(aE,o,i,j,mg,ca,cb)/\oH f r la lb o i j (1+x+1))
     (Q:=λd st'=>∃g',st'=St κ f p pd g'/\((∃x u,d=(aD x,u)/\Mg f r la lb x)\/∃o i j mg ca cb,d=(aE,o,i,j,mg,ca,cb)/\oH f r la lb o i j (1+x+1))) ?oK ?wC ⟨o,i,j,mg+1,ca,cb,g',rfl,rfl,I⟩) ?oM)
    case wC=>
     rintro d st' ⟨o,i,j,mg,ca,cb,g',rfl,rfl,I⟩;exact⟨g',rfl,.inr ⟨o,i,j,mg,ca,cb,rfl,I⟩⟩
    case oK=>
     rintro y d st' _ hy ⟨o,i,j,mg,ca,cb,g',rfl,rfl,lo,rfl,M,a,b,e⟩;unfold Oo;dsimp only;split<;>exact Wc c T (g:=g') M a b e (λx u g m=>⟨g,rfl,.inl ⟨x,u,rfl,m⟩⟩) λo i j g' y z g I=>by
      obtain⟨lo,e1,m,a,b,e'⟩:=I;have I':oH f r la lb o i j (1+x+1):=⟨lo,e1,m,a,b,by lia⟩
      exact⟨⟨g,rfl,.inr ⟨o,i,j,g',y,z,rfl,I'⟩⟩,o,i,j,g',y,z,g,rfl,rfl,I'⟩
    case oM=>
     rintro d st' ⟨g',rfl,⟨z,u,rfl,m⟩|⟨o,i,j,mg,ca,cb,rfl,I⟩⟩;exact bx ⟨z,_,g',rfl,rfl,m⟩;dsimp only;refine aY (EC (bx ⟨o,i,j,mg+1,_,rfl,rfl,?_⟩));rw[show 1+ (x+1)=1+x+1 by lia];exact I
end
end TS
namespace TS
open PySem PySem.W PyProof.Rows KO
noncomputable abbrev rQ:=Option Arr×Nat×Nat×Arr×Nat×Nat×Nat
noncomputable abbrev Bk:=Option Arr×Nat×Nat×Arr×Nat×Nat
noncomputable abbrev Ip:=Option Arr×Nat×Nat×Arr×Nat
noncomputable def dS(a b o:Arr)(i j:Nat):Arr:=a.extract 0 i++b.extract 0 j++o.reverse
noncomputable def k7(a b o:Arr)(i j:Nat):Arr:=b.extract 0 j++a.extract 0 i++o.reverse
noncomputable def EH(a b o:Arr)(i j g ca cb:Nat):SS (ForInStep rQ):=do
 let x <-elem' a (i-1)
 if(i-1==0)=true then pure (.done (aD (dS a b (o.push x) (i-1) j),i-1,j,o.push x,g,ca,cb))
 else if(decide (ca<7)&&decide (cb<7))=true then pure (.done (aE,i-1,j,o.push x,g,ca,cb))else pure (.yield (aE,i-1,j,o.push x,g,ca,cb))
noncomputable def EI(a b o:Arr)(i j g ca cb:Nat):SS (ForInStep rQ):=do
 let x <-elem' b (j-1)
 if(j-1==1)=true then pure (.done (aD (k7 a b (o.push x) i (j-1)),i,j-1,o.push x,g,ca,cb))
 else do
  let y <-elem' a (i-1)
  let z <-jn true y b 0 (j-1) (j-1-1)
  match z with
  |some k=>
   if j-1-k>0 then
    if(k==1)=true then pure (.done (aD (k7 a b (o.push x++(b.extract k (j-1)).reverse) i k),i,k,o.push x++(b.extract k (j-1)).reverse,g,ca,j-1-k))
    else if(k==0)=true then pure (.done (aD (dS a b (o.push x++(b.extract k (j-1)).reverse) i k),i,k,o.push x++(b.extract k (j-1)).reverse,g,ca,j-1-k))
    else EH a b (o.push x++(b.extract k (j-1)).reverse) i k g ca (j-1-k)
   else EH a b (o.push x) i (j-1) g ca (j-1-k)
  |_=>pure (.done (aD (dS a b (o.push x) i (j-1)),i,j-1,o.push x,g,ca,cb))
noncomputable def EJ(a b o:Arr)(i j g ca cb:Nat):SS (ForInStep rQ):=do
 setG g
 let y <-elem' b (j-1)
 let z <-jn false y a 0 i (i-1)
 match z with
 |some k=>
  if i-k>0 then
   if(k==0)=true then pure (.done (aD (dS a b (o++(a.extract k i).reverse) k j),k,j,o++(a.extract k i).reverse,g,i-k,cb))
   else EI a b (o++(a.extract k i).reverse) k j g (i-k) cb
  else EI a b o i j g (i-k) cb
 |_=>pure (.done (aD (dS a b o i j),i,j,o,g,ca,cb))
noncomputable def Ox(a b:Arr)(t:rQ):SS (ForInStep rQ):=if t.2.2.2.2.1>1 then EJ a b t.2.2.2.1 t.2.1 t.2.2.1 (t.2.2.2.2.1-1) t.2.2.2.2.2.1 t.2.2.2.2.2.2 else EJ a b t.2.2.2.1 t.2.1 t.2.2.1 t.2.2.2.2.1 t.2.2.2.2.2.1 t.2.2.2.2.2.2
noncomputable def Iq(a b:Arr)(g:Nat)(t:Bk):SS (ForInStep Bk):=do
 let x <-elem' b (t.2.2.1-1)
 let y <-elem' a (t.2.1-1)
 let z <-lt' x y
 match z with
 |some q=>
  if q=true then do
   let x <-elem' a (t.2.1-1)
   if(t.2.1-1==0)=true then pure (.done (aD (dS a b (t.2.2.2.1.push x) (t.2.1-1) t.2.2.1),t.2.1-1,t.2.2.1,t.2.2.2.1.push x,t.2.2.2.2.1+1,0))
   else if t.2.2.2.2.1+1>=g then pure (.done (aE,t.2.1-1,t.2.2.1,t.2.2.2.1.push x,t.2.2.2.2.1+1,0))else pure (.yield (aE,t.2.1-1,t.2.2.1,t.2.2.2.1.push x,t.2.2.2.2.1+1,0))
  else do
   let x <-elem' b (t.2.2.1-1)
   if(t.2.2.1-1==1)=true then pure (.done (aD (k7 a b (t.2.2.2.1.push x) t.2.1 (t.2.2.1-1)),t.2.1,t.2.2.1-1,t.2.2.2.1.push x,0,t.2.2.2.2.2+1))
   else if t.2.2.2.2.2+1>=g then pure (.done (aE,t.2.1,t.2.2.1-1,t.2.2.2.1.push x,0,t.2.2.2.2.2+1))else pure (.yield (aE,t.2.1,t.2.2.1-1,t.2.2.2.1.push x,0,t.2.2.2.2.2+1))
 |_=>pure (.done (aD (dS a b t.2.2.2.1 t.2.1 t.2.2.1),t.2.1,t.2.2.1,t.2.2.2.1,t.2.2.2.2.1,t.2.2.2.2.2))
noncomputable def Oz(a b:Arr)(t:Ip):SS (ForInStep Ip):=do
 let u <-forIn [0:a.size+b.size] ((aE,t.2.1,t.2.2.1,t.2.2.2.1,0,0):Bk) λ_ u=>Iq a b t.2.2.2.2 u
 match u.1 with
 |some x=>pure (.done (aD x,u.2.1,u.2.2.1,u.2.2.2.1,t.2.2.2.2))
 |none=>do
  rule "list.sort.gallop"
  let v <-forIn [0:a.size+b.size] ((aE,u.2.1,u.2.2.1,u.2.2.2.1,t.2.2.2.2+1,u.2.2.2.2.1,u.2.2.2.2.2):rQ) λ_ v=>Ox a b v
  match v.1 with
  |some x=>pure (.done (aD x,v.2.1,v.2.2.1,v.2.2.2.1,v.2.2.2.2.1))
  |none=>do
   setG (v.2.2.2.2.1+1)
   pure (.yield (aE,v.2.1,v.2.2.1,v.2.2.2.1,v.2.2.2.2.1+1))
noncomputable def wD(a b:Arr):SS Arr:=do
 rule "list.sort.merge-hi"
 let x <-elem' a (a.size-1)
 if(a.size-1==0)=true then pure (dS a b #[x] (a.size-1) b.size)
 else if(b.size==1)=true then pure (k7 a b #[x] (a.size-1) b.size)
 else do
  let z <-get
  let t <-forIn [0:a.size+b.size] ((aE,a.size-1,b.size,#[x],gallopOf z):Ip) λ_ t=>Oz a b t
  match t.1 with|some x=>pure x|none=>unsupported "internal:list.sort.merge-bound"
section
variable{f:Nat->Keyed}{r:Nat->Int}
structure MH(r:Nat->Int)(la lb lo:List Nat)(i j:Nat):Prop where
 pm:(la.take i++(lb.take j++lo)).Perm (la++lb)
 so:So r lo
 ge:∀x∈lo,(∀y∈la.take i,r y<=r x)/\∀y∈lb.take j,r y<=r x
 ln:i+j+lo.length=la.length+lb.length
theorem yJ{l:List Nat}{k i:Nat}(h:k<=i):l.take i=l.take k++(l.drop k).take (i-k):=by rw[<-List.take_add,show k+ (i-k)=i by lia]
theorem uw{l:List Nat}{k x:Nat}(h:x∈l.take k):∃j,∃hj:j<l.length,j<k/\l[j]=x:=by obtain⟨i,hi,e⟩:=zz h;rw[List.getElem_take]at e;rw[kP]at hi;exact⟨i,by lia,by lia,e⟩
variable{la lb lo:List Nat}{i j k:Nat}
theorem MH.bN(h:MH r la lb lo i j)(sa:So r la)(hk:k<=i)(hi:i<=la.length)(hl:∀q (hq:q<la.length),k<=q->q<i->∀y∈lb.take j,r y<=r la[q]):MH r la lb ((la.drop k).take (i-k)++lo) k j:=by
 refine⟨?_,?_,?_,?_⟩;refine List.Perm.trans ?_ h.pm;rw[yJ hk,jK];refine yp _ ?_;rw[<-jK,<-jK];exact DT DG (qN _);refine nR.mpr ⟨(sa.drop k).take _,h.so,λx hx y hy=>(h.ge y hy).1 x (by rw[yJ hk];exact ig _ hx)⟩;intro x hx;rcases mF.mp hx with hx|hx
 obtain⟨q,hq,h1,h2,rfl⟩:=EB hx;refine⟨λy hy=>?_,hl q hq h1 (by lia)⟩;obtain⟨t,ht,h3,rfl⟩:=uw hy;exact sa.at_ (by lia) hq;exact⟨λy hy=>(h.ge x hx).1 y (by rw[yJ hk];exact zy _ hy),(h.ge x hx).2⟩;have:=h.ln;rw[eW,kP,kQ];lia
theorem MH.oB(h:MH r la lb lo i j)(sb:So r lb)(hk:k<=j)(hj:j<=lb.length)(hl:∀q (hq:q<lb.length),k<=q->q<j->∀y∈la.take i,r y<=r lb[q]):MH r la lb ((lb.drop k).take (j-k)++lo) i k:=by
 refine⟨?_,?_,?_,?_⟩;refine List.Perm.trans ?_ h.pm;refine yp _ ?_;rw[yJ hk,jK];refine nR.mpr ⟨(sb.drop k).take _,h.so,λx hx y hy=>(h.ge y hy).2 x (by rw[yJ hk];exact ig _ hx)⟩;intro x hx;rcases mF.mp hx with hx|hx
 obtain⟨q,hq,h1,h2,rfl⟩:=EB hx;refine⟨hl q hq h1 (by lia),λy hy=>?_⟩;obtain⟨t,ht,h3,rfl⟩:=uw hy;exact sb.at_ (by lia) hq;exact⟨(h.ge x hx).1,λy hy=>(h.ge x hx).2 y (by rw[yJ hk];exact zy _ hy)⟩;have:=h.ln;rw[eW,kP,kQ];lia
theorem Ir{l:List Nat}{i:Nat}(hi:i<l.length):(l.drop i).take (i+1-i)=[l[i]]:=by rw[show i+1-i=1 by lia];exact Ii hi
theorem OA(hh:MH r la lb lo (i+1) (j+1))(sa:So r la)(sb:So r lb)(hi:i<la.length)(hj:j<lb.length)(e:r lb[j]<=r la[i]):MH r la lb (la[i]::lo) i (j+1):=by
 have:=hh.bN (k:=i) sa (by lia) (by lia) λq hq h1 h2 y hy=>by
  obtain rfl:q=i:=by lia
  obtain⟨t,ht,h3,rfl⟩:=uw hy;exact kB (sb.at_ (by lia) hj) e
 rw[Ir hi]at this;exact this
theorem OB(hh:MH r la lb lo (i+1) (j+1))(sa:So r la)(sb:So r lb)(hi:i<la.length)(hj:j<lb.length)(e:r la[i]<=r lb[j]):MH r la lb (lb[j]::lo) (i+1) j:=by
 have:=hh.oB (k:=j) sb (by lia) (by lia) λq hq h1 h2 y hy=>by
  obtain rfl:q=j:=by lia
  obtain⟨t,ht,h3,rfl⟩:=uw hy;exact kB (sa.at_ (by lia) hi) e
 rw[Ir hj]at this;exact this
theorem EK{l:List Nat}{i:Nat}:(ar f l).extract 0 i=ar f (l.take i):=by rw[qk];rfl
theorem MH.done(h:MH r la lb lo i j)(sa:So r la)(sb:So r lb)(e:i=0\/j=0):Mg f r la lb (dS (ar f la) (ar f lb) (ar f lo.reverse) i j):=by
 refine⟨la.take i++lb.take j++lo,?_,by rw[jK];exact h.pm,nR.mpr ⟨?_,h.so,λx hx y hy=>?_⟩⟩;unfold dS;rw[EK,EK,Ih,oA,oA,List.reverse_reverse];refine nR.mpr ⟨sa.take i,sb.take j,λx hx y hy=>?_⟩;rcases e with rfl|rfl
 cases hx;cases hy;rcases mF.mp hx with hx|hx
 exact(h.ge y hy).1 x hx;exact(h.ge y hy).2 x hx
theorem MH.last(h:MH r la lb lo i 1)(sa:So r la)(sb:So r lb)(na:0<la.length)(nb:0<lb.length)(e:r lb[0]<=r la[0]):Mg f r la lb (k7 (ar f la) (ar f lb) (ar f lo.reverse) i 1):=by
 refine⟨lb.take 1++la.take i++lo,?_,?_,nR.mpr ⟨?_,h.so,λx hx y hy=>?_⟩⟩;unfold k7;rw[EK,EK,Ih,oA,oA,List.reverse_reverse];refine List.Perm.trans ?_ h.pm;rw[<-jK];exact DT DG (qN _);refine nR.mpr ⟨sb.take 1,sa.take i,λx hx y hy=>?_⟩;obtain⟨q,hq,h1,rfl⟩:=uw hx;obtain⟨t,ht,h3,rfl⟩:=uw hy;obtain rfl:q=0:=by lia
 exact kB e (sa.at_ (gf _) ht);rcases mF.mp hx with hx|hx
 exact(h.ge y hy).2 x hx;exact(h.ge y hy).1 x hx
theorem EL{l:List Nat}{x:Nat}:(ar f l.reverse).push (f x)=ar f (x::l).reverse:=by rw[Bb,List.reverse_cons]
theorem OC{l m:List Nat}{i j:Nat}:ar f l.reverse++((ar f m).extract i j).reverse=ar f ((m.drop i).take (j-i)++l).reverse:=by rw[qk,Ih,oA,List.reverse_append]
noncomputable def oN(f:Nat->Keyed)(r:Nat->Int)(la lb:List Nat)(o:Arr)(i j m:Nat):Prop:=∃lo,o=ar f lo.reverse/\MH r la lb lo i j/\0<i/\1<j/\i<=la.length/\j<=lb.length/\m+i+j<=la.length+lb.length
end
section
variable{prog:ai}{w:aj}{A:ak}{E:aa->af->Prop}{s:af}{κ:SortKind}{f:Nat->Keyed}{r:Nat->Int}{N:Nat}{la lb:List Nat}{p:Array Nat}{pd:Array (Nat×Nat×Nat)}
theorem Tw.lQ(T:Tw N r la lb){lo:List Nat}{i j:Nat}(m:MH r la lb lo i j)(e:(j==1)):Mg f r la lb (k7 (ar f la) (ar f lb) (ar f lo.reverse) i j):=by
 obtain rfl:j=1:=by simpa using e
 exact m.last T.sa T.sb T.na T.nb T.h0
theorem Tw.lR(T:Tw N r la lb){lo:List Nat}{i j:Nat}(m:MH r la lb lo i j)(e:(i==0)):Mg f r la lb (dS (ar f la) (ar f lb) (ar f lo.reverse) i j):=m.done T.sa T.sb (.inl (by simpa using e))
theorem Wd(c:Cp prog w A s κ f r N)(T:Tw N r la lb){g mg:Nat}{t:Bk}{m:Nat}(I:oN f r la lb t.2.2.2.1 t.2.1 t.2.2.1 m){Q:ForInStep Bk->SortSt->Prop}
 (h1:∀x u,Mg f r la lb x->Q (.done (aD x,u)) (St κ f p pd g)) (h2:∀o i j y z,oN f r la lb o i j (m+1)->Q (.done (aE,i,j,o,y,z)) (St κ f p pd g)/\Q (.yield (aE,i,j,o,y,z)) (St κ f p pd g)) :
 wpS (model prog w) A E s (Iq (ar f la) (ar f lb) mg t) Q (St κ f p pd g):=by
 obtain⟨t0,i,j,o,ca,cb⟩:=t;obtain⟨lo,rfl,M,hi,hj,ha,hb,hm⟩:=I
 replace hi:0<i:=hi
 replace hj:1<j:=hj
 replace ha:i<=la.length:=ha
 replace hb:j<=lb.length:=hb
 replace hm:m+i+j<=la.length+lb.length:=hm
 replace M:MH r la lb lo i j:=M;obtain⟨i,rfl⟩:∃z,i=z+1:=⟨i-1,by lia⟩
 obtain⟨j,rfl⟩:∃z,j=z+1:=⟨j-1,by lia⟩
 have hi':i<la.length:=by lia
 have hj':j<lb.length:=by lia
 unfold Iq;dsimp only;rw[Dy,Dy];refine aY (bO hj' (aY (bO hi' (aY (jU c (T.bb _ (iK hj')) (T.ba _ (iK hi')) rfl ?_)))));by_cases q:r lb[j]<r la[i];rw[kq q];show wpS _ _ _ _ (if true=true then _ else _) _ _;rw[if_pos rfl];refine aY (bO hi' ?_);rw[EL];have M':=OA M T.sa T.sb hi' hj' (nT q);by_cases e:(i==0)=true;rw[if_pos e];exact bx (h1 _ _ (T.lR M' e));rw[if_neg e];have e':i≠0:=by simpa using e
 obtain⟨a,b⟩:=h2 _ i (j+1) (ca+1) 0 ⟨_,rfl,M',by lia,hj,by lia,hb,by lia⟩;split;exact bx a;exact bx b;rw[gX q];show wpS _ _ _ _ (if false=true then _ else _) _ _;rw[if_neg (by simp)];refine aY (bO hj' ?_);rw[EL];have M':=OB M T.sa T.sb hi' hj' (qc.mp q);by_cases e:(j==1)=true;rw[if_pos e];exact bx (h1 _ _ (T.lQ M' e));rw[if_neg e];have e':j≠1:=by simpa using e
 obtain⟨a,b⟩:=h2 _ (i+1) j 0 (cb+1) ⟨_,rfl,M',hi,by lia,ha,by lia,by lia⟩;split;exact bx a;exact bx b
theorem OD(T:Tw N r la lb){g cg ca cb i j:Nat}{lo:List Nat}{m:Nat}(M:MH r la lb lo i j)(hi:0<i)(hj:1<j)(ha:i<=la.length)(hb:j<=lb.length)(hm:m+i+j<=la.length+lb.length)(e:r (lb[j-1]'(by lia))<=r (la[i-1]'(by lia))){Q:ForInStep rQ->SortSt->Prop}
 (h1:∀x u,Mg f r la lb x->Q (.done (aD x,u)) (St κ f p pd g)) (h2:∀o i j g' y z,oN f r la lb o i j (m+1)->Q (.done (aE,i,j,o,g',y,z)) (St κ f p pd g)/\Q (.yield (aE,i,j,o,g',y,z)) (St κ f p pd g)) :
 wpS (model prog w) A E s (EH (ar f la) (ar f lb) (ar f lo.reverse) i j cg ca cb) Q (St κ f p pd g):=by
 obtain⟨i,rfl⟩:∃z,i=z+1:=⟨i-1,by lia⟩
 obtain⟨j,rfl⟩:∃z,j=z+1:=⟨j-1,by lia⟩
 have hi':i<la.length:=by lia
 unfold EH;rw[Dy];refine aY (bO hi' ?_);rw[EL];have M':=OA M T.sa T.sb hi' (by lia) e;by_cases e:(i==0)=true;rw[if_pos e];exact bx (h1 _ _ (T.lR M' e));rw[if_neg e];have e':i≠0:=by simpa using e
 obtain⟨a,b⟩:=h2 _ i (j+1) cg ca cb ⟨_,rfl,M',by lia,hj,by lia,hb,by lia⟩;split;exact bx a;exact bx b
theorem OE(c:Cp prog w A s κ f r N)(T:Tw N r la lb){g cg ca cb i j:Nat}{lo:List Nat}{m:Nat}(M:MH r la lb lo i j)(hi:0<i)(hj:1<j)(ha:i<=la.length)(hb:j<=lb.length)(hm:m+i+j<=la.length+lb.length)(e:r (la[i-1]'(by lia))<=r (lb[j-1]'(by lia))){Q:ForInStep rQ->SortSt->Prop}
 (h1:∀x u,Mg f r la lb x->Q (.done (aD x,u)) (St κ f p pd g)) (h2:∀o i j g' y z,oN f r la lb o i j (m+1)->Q (.done (aE,i,j,o,g',y,z)) (St κ f p pd g)/\Q (.yield (aE,i,j,o,g',y,z)) (St κ f p pd g)) :
 wpS (model prog w) A E s (EI (ar f la) (ar f lb) (ar f lo.reverse) i j cg ca cb) Q (St κ f p pd g):=by
 obtain⟨i,rfl⟩:∃z,i=z+1:=⟨i-1,by lia⟩
 obtain⟨j,rfl⟩:∃z,j=z+1:=⟨j-1,by lia⟩
 have hi':i<la.length:=by lia
 have hj':j<lb.length:=by lia
 unfold EI;simp only[Dy]at e ⊢;refine aY (bO hj' ?_);rw[EL];have M':=OB M T.sa T.sb hi' hj' e;by_cases x1:(j==1)=true;rw[if_pos x1];exact bx (h1 _ _ (T.lQ M' x1));rw[if_neg x1];have Bg:j≠1:=by simpa using x1
 refine aY (bO hi' (aY (ED c T.bb T.sb (T.ba _ (iK hi')) (by lia) (by lia) rfl λk hk k1 k2=>?_)));dsimp only;have M2:=M'.oB (k:=k) T.sb hk (by lia) λq hq a b y hy=>by
  have:=k2 q a b;rw[rP (by lia)]at this;simp only[nF,vq]at this;obtain⟨t,ht,h3,rfl⟩:=uw hy;exact kB (T.sa.at_ (by lia) hi') (qc.mp this)
 have nx:∀(h:0<k),r (lb[k-1]'(by lia))<=r la[i]:=λh=>by
  have:=k1 (k-1) (by lia);rw[rP (by lia)]at this;simp only[nF,fj]at this;exact nT this
 by_cases x2:j-k>0;rw[if_pos x2,OC];by_cases x3:(k==1)=true;rw[if_pos x3];exact bx (h1 _ _ (T.lQ M2 x3));rw[if_neg x3];have Ow:k≠1:=by simpa using x3
 by_cases x4:(k==0)=true;rw[if_pos x4];exact bx (h1 _ _ (M2.done T.sa T.sb (.inr (by simpa using x4))));rw[if_neg x4];have We:k≠0:=by simpa using x4
 exact OD T M2 hi (by lia) ha (by lia) (by lia) (nx (by lia)) h1 h2;rw[if_neg x2];obtain rfl:k=j:=by lia
 exact OD T M' hi (by lia) ha (by lia) (by lia) (nx (by lia)) h1 h2
theorem Wf(c:Cp prog w A s κ f r N)(T:Tw N r la lb){g cg ca cb i j:Nat}{lo:List Nat}{m:Nat}(M:MH r la lb lo i j)(hi:0<i)(hj:1<j)(ha:i<=la.length)(hb:j<=lb.length)(hm:m+i+j<=la.length+lb.length){Q:ForInStep rQ->SortSt->Prop}
 (h1:∀x u g,Mg f r la lb x->Q (.done (aD x,u)) (St κ f p pd g)) (h2:∀o i j g' y z g,oN f r la lb o i j (m+1)->Q (.done (aE,i,j,o,g',y,z)) (St κ f p pd g)/\Q (.yield (aE,i,j,o,g',y,z)) (St κ f p pd g)) :
 wpS (model prog w) A E s (EJ (ar f la) (ar f lb) (ar f lo.reverse) i j cg ca cb) Q (St κ f p pd g):=by
 have hj':j-1<lb.length:=by lia
 unfold EJ;refine aY (EC (g':=cg) ?_);refine aY (bO hj' (aY (ED c T.ba T.sa (T.bb _ (iK hj')) (by lia) (by lia) rfl λk hk k1 k2=>?_)));dsimp only;have M2:=M.bN (k:=k) T.sa hk ha λq hq a b y hy=>by
  have:=k2 q a b;rw[oJ (by lia)]at this;simp only[nF,Bool.not_eq_false',fj]at this;obtain⟨t,ht,h3,rfl⟩:=uw hy;exact kB (T.sb.at_ (by lia) hj') (nT this)
 have nx:∀(h:0<k),r (la[k-1]'(by lia))<=r lb[j-1]:=λh=>by
  have:=k1 (k-1) (by lia);rw[oJ (by lia)]at this;simp only[nF,tT,vq]at this;exact qc.mp this
 by_cases x2:i-k>0;rw[if_pos x2,OC];by_cases x4:(k==0)=true;rw[if_pos x4];exact bx (h1 _ _ _ (T.lR M2 x4));rw[if_neg x4];have We:k≠0:=by simpa using x4
 exact OE c T M2 (by lia) hj (by lia) hb (by lia) (nx (by lia)) (λx u=>h1 x u _) λo i j g' y z=>h2 o i j g' y z _;rw[if_neg x2];obtain rfl:k=i:=by lia
 exact OE c T M hi hj ha hb hm (nx hi) (λx u=>h1 x u _) λo i j g' y z=>h2 o i j g' y z _
theorem Bl(c:Cp prog w A s κ f r N)(T:Tw N r la lb){g:Nat}{Q:Arr->SortSt->Prop}(h:∀x g',Mg f r la lb x->Q x (St κ f p pd g')):wpS (model prog w) A E s (wD (ar f la) (ar f lb)) Q (St κ f p pd g):=by
 have na:=T.na;have nb:=T.nb;have hn:la.length-1<la.length:=by lia
 unfold wD;refine aY (vI (kO ⟨rfl,?_⟩));rw[jX,jX];refine aY (bO hn ?_);have m0:MH r la lb [] (la.length-1+1) lb.length:=⟨by rw[show la.length-1+1=la.length by lia,zA,zA,nI],List.Pairwise.nil,(λx hx=>nomatch hx),by rw[DN];lia⟩
 have m1:=m0.bN (k:=la.length-1) T.sa (by lia) (by lia) λq hq a b y hy=>nT (T.hl y (yf hy) q hq (by lia));rw[Ir hn]at m1;have e1:#[f la[la.length-1]]=ar f ([la[la.length-1]]:List Nat).reverse:=rfl;rw[e1];by_cases x1:(la.length-1==0)=true;rw[if_pos x1];exact bx (h _ _ (T.lR m1 x1));rw[if_neg x1];by_cases x2:(lb.length==1)=true;rw[if_pos x2];exact bx (h _ _ (T.lQ m1 x2));rw[if_neg x2];have Bg:la.length-1≠0:=by simpa using x1
 have Io:lb.length≠1:=by simpa using x2
 refine aY (nS ?_);generalize gallopOf (St κ f p pd g)=mg;refine aY (jM (jL (I:=λx d st'=>∃o i j mg g',d=(aE,i,j,o,mg)/\st'=St κ f p pd g'/\oN f r la lb o i j (1+x))
  (Q:=λd st'=>∃x u g',d=(aD x,u)/\st'=St κ f p pd g'/\Mg f r la lb x) ?step ?fin ⟨_,la.length-1,lb.length,mg,g,rfl,rfl,_,rfl,m1,by lia,by lia,by lia,by lia,by lia⟩) ?post)
 case fin=>
  rintro d st' ⟨o,i,j,mg,g',rfl,rfl,lo,rfl,m,a,b,_,_,e⟩;lia
 case post=>
  rintro d st' ⟨x,u,g',rfl,rfl,m⟩;exact bx (h _ _ m)
 case step=>
  rintro x d st' _ hx ⟨o,i,j,mg,g',rfl,rfl,I0⟩;unfold Oz;refine aY (jM (jL (I:=λy d st'=>st'=St κ f p pd g'/\∃o i j ca cb,d=(aE,i,j,o,ca,cb)/\oN f r la lb o i j (1+x+y))
   (Q:=λd st'=>st'=St κ f p pd g'/\((∃x u,d=(aD x,u)/\Mg f r la lb x)\/∃o i j ca cb,d=(aE,i,j,o,ca,cb)/\oN f r la lb o i j (1+x+1))) ?jV ?oz ⟨rfl,o,i,j,0,0,rfl,I0⟩) ?jW)
  case oz=>
   rintro d st' ⟨rfl,o,i,j,ca,cb,rfl,lo,rfl,m,a,b,c1,c2,e⟩;rw[jX,jX]at e;exact⟨rfl,.inr ⟨_,i,j,ca,cb,rfl,lo,rfl,m,a,b,c1,c2,by lia⟩⟩
  case jV=>
   rintro y d st' _ hy ⟨rfl,o,i,j,ca,cb,rfl,I⟩;refine Wd c T I (λx u m=>⟨rfl,.inl ⟨x,u,rfl,m⟩⟩) λo i j y' z I'=>⟨⟨rfl,.inr ⟨o,i,j,y',z,rfl,?_⟩⟩,rfl,o,i,j,y',z,rfl,I'⟩
   obtain⟨lo,e,m,a,b,c1,c2,e'⟩:=I'
   replace e':1+x+y+1+i+j<=la.length+lb.length:=e';exact⟨lo,e,m,a,b,c1,c2,by lia⟩
  case jW=>
   rintro d st' ⟨rfl,⟨z,u,rfl,m⟩|⟨o,i,j,ca,cb,rfl,I⟩⟩;exact bx ⟨z,_,g',rfl,rfl,m⟩
   .refine aY (vI (kO ⟨rfl,?_⟩))
    refine aY (jM (jL (I:=λy d st'=>∃o i j mg ca cb g',st'=St κ f p pd g'/\d=(aE,i,j,o,mg,ca,cb)/\oN f r la lb o i j (1+x+1))
     (Q:=λd st'=>∃g',st'=St κ f p pd g'/\((∃x u,d=(aD x,u)/\Mg f r la lb x)\/∃o i j mg ca cb,d=(aE,i,j,o,mg,ca,cb)/\oN f r la lb o i j (1+x+1))) ?oK ?wC ⟨o,i,j,mg+1,ca,cb,g',rfl,rfl,I⟩) ?oM)
    case wC=>
     rintro d st' ⟨o,i,j,mg,ca,cb,g',rfl,rfl,I⟩;exact⟨g',rfl,.inr ⟨o,i,j,mg,ca,cb,rfl,I⟩⟩
    case oK=>
     rintro y d st' _ hy ⟨o,i,j,mg,ca,cb,g',rfl,rfl,lo,rfl,M,a,b,c1,c2,e⟩;unfold Ox;dsimp only;split<;>exact Wf c T (g:=g') M a b c1 c2 e (λx u g m=>⟨g,rfl,.inl ⟨x,u,rfl,m⟩⟩) λo i j g' y z g I=>by
      obtain⟨lo,e1,m,a,b,c1,c2,e'⟩:=I;have I':oN f r la lb o i j (1+x+1):=⟨lo,e1,m,a,b,c1,c2,by lia⟩
      exact⟨⟨g,rfl,.inr ⟨o,i,j,g',y,z,rfl,I'⟩⟩,o,i,j,g',y,z,g,rfl,rfl,I'⟩
    case oM=>
     rintro d st' ⟨g',rfl,⟨z,u,rfl,m⟩|⟨o,i,j,mg,ca,cb,rfl,I⟩⟩;exact bx ⟨z,_,g',rfl,rfl,m⟩;dsimp only;refine aY (EC (bx ⟨o,i,j,mg+1,_,rfl,rfl,?_⟩));rw[show 1+ (x+1)=1+x+1 by lia];exact I
end
end TS
namespace TS
open PySem PySem.W PyProof.Rows KO
noncomputable def put(m:Nat){α:Type}(x:List α)(a:Array α):Array α:=x.zipIdx.foldl (λa y=>a.setIfInBounds (m+y.2) y.1) a
noncomputable def lS(m:Nat)(x:Arr):SS Bool:=do
 modify λs=>SortSt.mk' (kindOf s) (put m x.toList (arrOf s)) (pendingOf s) (gallopOf s) (failedOf s)
 let z <-get
 pure (failedOf z).isNone
noncomputable def Bm(i:Nat):SS Bool:=do
 let s <-get
 match((pendingOf s)[i]?,(pendingOf s)[i+1]?)with
 |(aD (sa,na,pw),aD (sb,nb,_))=>do
  set (setPending s (((pendingOf s).setIfInBounds i (sa,na+nb,pw)).eraseIdxIfInBounds (i+1)))
  let y <-elem' (arrOf s) sb
  let z <-jn false y (arrOf s) sa na 0
  match z with
  |some k=>
   if(na-k==0)=true then pure true
   else do
    let y <-elem' (arrOf s) (sa+k+ (na-k)-1)
    let z <-jn true y (arrOf s) sb nb (nb-1)
    match z with
    |some q=>
     if(q==0)=true then pure true
     else if na-k<=q then do
      let x <-wB ((arrOf s).extract (sa+k) sb) ((arrOf s).extract sb (sb+q))
      lS (sa+k) x
     else do
      let x <-wD ((arrOf s).extract (sa+k) sb) ((arrOf s).extract sb (sb+q))
      lS (sa+k) x
    |_=>pure false
  |_=>pure false
 |_=>unsupported "internal:list.sort.pending"
theorem Wg:mergeAt'=Bm:=by kernel_rfl
noncomputable abbrev U1:=Option Unit×Nat
noncomputable abbrev U2:=Option Unit×Unit
noncomputable def EM(lo n:Nat):SS (ForInStep U1):=do
 modify λs=>setPending s ((pendingOf s).push (lo,n,0))
 pure (.yield (aE,lo+n))
noncomputable def EN(pw:Nat):SS (ForInStep U2):=do
 let s <-get
 match if(pendingOf s).size>1 then(pendingOf s)[(pendingOf s).size-2]? else aE with
 |some (_,_,old)=>
  if old<=pw then pure (.done (aE,()))
  else do
   let b <-mergeAt' ((pendingOf s).size-2)
   if(!b)=true then pure (.done (aD (),()))else pure (.yield (aE,()))
 |_=>pure (.done (aE,()))
noncomputable def EO(z lo n:Nat):SS (ForInStep U1):=do
 let s <-get
 match(pendingOf s).back? with
 |some (s1,n1,_)=>do
  let u <-forIn [0:z] ((aE,()):U2) λ_ _=>EN (power' z (2*s1+n1) (2*s1+n1+n1+n) z)
  match u.1 with
  |some r=>pure (.done (aD r,lo))
  |none=>do
   modify λs=>setPending s ((pendingOf s).modify ((pendingOf s).size-1) λx=>match x with|(st,len,_)=>(st,len,power' z (2*s1+n1) (2*s1+n1+n1+n) z))
   EM lo n
 |_=>EM lo n
noncomputable def OF(z m:Nat)(t:U1):SS (ForInStep U1):=if t.2>=z then pure (.done (aE,t.2))else do
 let x <-countRun' t.2 (z-t.2)
 match x with
 |some n=>
  if n<m then do
   rule "list.sort.binary-insertion"
   let b <-binarySort' t.2 (min (z-t.2) m) n
   if(!b)=true then pure (.done (aD (),t.2))else EO z t.2 (min (z-t.2) m)
  else EO z t.2 n
 |_=>pure (.done (aD (),t.2))
noncomputable def Iu(p:Array (Nat×Nat×Nat)):Nat:=if Option.any (λx=>decide (x<p[p.size-2+1]?.elim 0 λx=>x.2.1)) (if p.size-2>0 then Option.map (λx=>x.2.1) p[p.size-2-1]? else aE)=true then p.size-2-1 else p.size-2
noncomputable def OG:SS (ForInStep U2):=do
 let s <-get
 if(pendingOf s).size<=1 then pure (.done (aE,()))
 else do
  let b <-mergeAt' (Iu (pendingOf s))
  if(!b)=true then pure (.done (aD (),()))else pure (.yield (aE,()))
noncomputable def OH:SS Unit:=do
 let s <-get
 let t <-forIn [0:(arrOf s).size] ((aE,0):U1) λ_ t=>OF (arrOf s).size (minRun' (arrOf s).size (arrOf s).size 0) t
 match t.1 with
 |some r=>pure r
 |none=>do
  let u <-forIn [0:(arrOf s).size] ((aE,()):U2) λ_ _=>OG
  match u.1 with|some r=>pure r|none=>pure ()
theorem Wh:sortRuns'=OH:=by kernel_rfl
end TS
namespace TS
open PySem PySem.W PyProof.Rows KO
theorem OI{α β:Type}(f:α->β){m:Nat}:∀(x:List (α×Nat)) (a:Array α),(x.map λy=>(f y.1,y.2)).foldl (λa y=>a.setIfInBounds (m+y.2) y.1) (a.map f)=(x.foldl (λa y=>a.setIfInBounds (m+y.2) y.1) a).map f
 |[],a=>rfl
 |y::x,a=>by
  rw[gQ,DM,DM];have e:(a.map f).setIfInBounds (m+y.2) (f y.1)=(a.setIfInBounds (m+y.2) y.1).map f:=by rw[Array.map_setIfInBounds]
  rw[e];exact OI f x _
theorem Wi{f:Nat->Keyed}{m:Nat}{l:List Nat}{p:Array Nat}:put m (ar f l).toList (p.map f)=(put m l p).map f:=by unfold put ar;rw[<-OI];congr 1;rw[List.zipIdx_map];rfl
theorem OJ{α:Type}{m:Nat}:∀(x:List α) (off:Nat) (a:Array α) (t:Nat),m+off+x.length<=a.size->((x.zipIdx off).foldl (λa y=>a.setIfInBounds (m+y.2) y.1) a)[t]?=if m+off<=t/\t<m+off+x.length then x[t- (m+off)]? else a[t]?
 |[],off,a,t,_=>by
  rw[List.zipIdx_nil,List.foldl_nil,if_neg (λz=>by have:=z.2;simp at this;lia)]
 |y::x,off,a,t,h=>by
  rw[fD]at h ⊢;rw[List.zipIdx_cons,DM,OJ x (off+1) _ t (by rw[Array.size_setIfInBounds];lia)];rw[Array.getElem?_setIfInBounds];by_cases h1:m+off=t;subst h1;rw[if_neg (by lia),if_pos rfl,if_pos (show m+ (y,off).snd<a.size from by show m+off<a.size;lia),if_pos (by lia),Nat.sub_self];rfl;by_cases h2:m+off<=t/\t<m+off+ (x.length+1);rw[if_pos (by lia),if_pos h2,show t- (m+off)=t- (m+ (off+1))+1 by lia,vB];rw[if_neg (by lia),if_neg h2,if_neg h1]
theorem Iv{α:Type}{m:Nat}{x:List α}{a:Array α}{t:Nat}(h:m+x.length<=a.size):(put m x a)[t]?=if m<=t/\t<m+x.length then x[t-m]? else a[t]?:=OJ x 0 a t h
theorem Wj{m:Nat}{x:List Nat}{p:Array Nat}(h:m+x.length<=p.size):(put m x p).toList=p.toList.take m++x++p.toList.drop (m+x.length):=by
 apply List.ext_getElem?;intro t;rw[vJ,Iv h];have hl:(p.toList.take m).length=m:=by rw[kP];simp;lia
 by_cases h1:t<m;rw[if_neg (by lia),jK,tV (by lia),List.getElem?_take_of_lt h1,vJ];by_cases h2:t<m+x.length;rw[if_pos ⟨by lia,h2⟩,tV (by rw[eW];lia),qL (by lia),hl];rw[if_neg (by lia),qL (by rw[eW];lia),eW,hl,List.getElem?_drop,vJ];congr 1;lia
theorem Wk{p:Array Nat}{i:Nat}:p.toList.getD i 0=p.getD i 0:=by rw[tU,vJ,yo]
section
variable{prog:ai}{w:aj}{A:ak}{E:aa->af->Prop}{s:af}{κ:SortKind}{f:Nat->Keyed}{r:Nat->Int}{N:Nat}
theorem Wl{x st:SortSt}{Q:PUnit->SortSt->Prop}(h:Q ⟨⟩ x):wpS (model prog w) A E s (set x:SS PUnit) Q st:=by unfold wpS;rw[StateT.run_set];exact bA ⟨rfl,h⟩
theorem ux{p:Array Nat}{i:Nat}:r (p.toList.getD i 0)=J r p i:=by rw[Wk];exact A4 p i
theorem Wm{p:Array Nat}:p.map f=ar f p.toList:=by unfold ar;apply Array.toList_inj.mp;rw[Array.toList_map]
theorem rR{p:Array Nat}{lf:Bool}{x bs i:Nat}:Bf r lf x p.toList bs i=if lf then decide (J r p (bs+i)<r x)else !decide (r x<J r p (bs+i)):=by unfold Bf;rw[ux (r:=r)]
theorem yK{p:Array Nat}{a n i:Nat}(hi:i<n)(hz:a+n<=p.size):∃h:i< ((p.toList.drop a).take n).length,r (((p.toList.drop a).take n)[i])=J r p (a+i):=by
 have h:i< ((p.toList.drop a).take n).length:=by rw[kP,kQ];simp;lia
 refine⟨h,?_⟩;rw[List.getElem_take,List.getElem_drop,<-ux (r:=r) (p:=p),oE (by simp;lia)]
theorem Bo{p:Array Nat}{a n:Nat}(hz:a+n<=p.size):((p.toList.drop a).take n).length=n:=by rw[kP,kQ];simp;lia
theorem OL{p:Array Nat}{a n:Nat}(h:Ri r p a (a+n))(hz:a+n<=p.size):So r ((p.toList.drop a).take n):=by refine vA.mpr λi j hi hj hij=>?_;rw[Bo hz]at hi hj;obtain⟨_,e1⟩:=yK (r:=r) hi hz;obtain⟨_,e2⟩:=yK (r:=r) hj hz;rw[e1,e2];exact h _ _ (by lia) (by lia) (by lia)
theorem ER{p:Array Nat}{a n x:Nat}(h:x∈(p.toList.drop a).take n)(hz:a+n<=p.size):x∈p/\∃i,i<n/\r x=J r p (a+i):=by refine⟨by simpa using DH (yf h),?_⟩;obtain⟨i,hi,e⟩:=zz h;rw[Bo hz]at hi;obtain⟨_,e1⟩:=yK (r:=r) hi hz;exact⟨i,hi,by rw[<-e,e1]⟩
theorem Wn{p:Array Nat}{sa m0 m1 sc:Nat}{x:List Nat}(P:Pm N p)(h1:sa<=m0)(hm:m0<m1)(h2:m1<=sc)(hc:sc<=N)(hx:x.Perm ((p.toList.drop m0).take (m1-m0)))(sx:So r x)
 (a1:Ri r p sa m0) (a2:Ri r p m1 sc) (b1:∀i,sa<=i->i<m0->∀j,m0<=j->j<m1->J r p i<=J r p j) (b2:∀i,m1<=i->i<sc->∀j,m0<=j->j<m1->J r p j<=J r p i) :
 (put m0 x p).Perm p/\Ou p (put m0 x p) sa sc/\Ri r (put m0 x p) sa sc:=by
 have zp:=P.z;have lx:x.length=m1-m0:=by rw[hx.length_eq,Bo (by lia)]
 have hz:m0+x.length<=p.size:=by lia
 have hJ:∀t,J r (put m0 x p) t=if m0<=t/\t<m1 then r (x.getD (t-m0) 0)else J r p t:=λt=>by
  have e:=Iv (t:=t) hz;rw[lx,show m0+ (m1-m0)=m1 by lia]at e;by_cases q:m0<=t/\t<m1;rw[if_pos q]at e ⊢;unfold J;rw[e,tU];rw[if_neg q]at e ⊢;exact ur e
 have hmem:∀t,t<m1-m0->∃j,m0<=j/\j<m1/\r (x.getD t 0)=J r p j:=λt ht=>by
  rw[oE (by lia)];obtain⟨_,i,hi,e⟩:=ER (r:=r) (hx.mem_iff.mp (iK (show t<x.length by lia))) (by lia);exact⟨m0+i,by lia,by lia,e⟩
 refine⟨?_,λt ht=>?_,λi j hi hij hj=>?_⟩;refine Array.perm_iff_toList_perm.mpr ?_;rw[Wj hz,lx,show m0+ (m1-m0)=m1 by lia];have e:p.toList=p.toList.take m0++(p.toList.drop m0).take (m1-m0)++p.toList.drop m1:=by
  rw[jK];have:p.toList.drop m0=(p.toList.drop m0).take (m1-m0)++p.toList.drop m1:=by have:=Bc (l:=p.toList) (i:=m0) (k:=m1-m0);rw[show m0+ (m1-m0)=m1 by lia]at this;exact this
  rw[<-this,List.take_append_drop]
 refine List.Perm.trans ?_ (List.Perm.of_eq e.symm);exact DT (yp _ hx) (qN _);rw[Iv hz,if_neg (by lia)];rw[hJ,hJ];by_cases qi:m0<=i/\i<m1;rw[if_pos qi];by_cases qj:m0<=j/\j<m1;rw[if_pos qj,oE (by lia),oE (by lia)];exact sx.at_ (by lia) (by lia);rw[if_neg qj];obtain⟨t,t1,t2,e⟩:=hmem (i-m0) (by lia);rw[e];exact b2 j (by lia) (by lia) t t1 t2;rw[if_neg qi];by_cases qj:m0<=j/\j<m1;rw[if_pos qj];obtain⟨t,t1,t2,e⟩:=hmem (j-m0) (by lia);rw[e];exact b1 i hi (by lia) t t1 t2;rw[if_neg qj];by_cases y:i<m0;by_cases z:j<m0;exact a1 i j hi hij z;exact kB (b1 i hi y m0 (aT _) hm) (b2 j (by lia) hj m0 (aT _) hm);exact a2 i j (by lia) hij hj
theorem Ri.join{p:Array Nat}{a b c:Nat}(x:Ri r p a b)(y:Ri r p b c)(h:∀i,a<=i->i<b->b<c->J r p i<=J r p b):Ri r p a c:=λi j h1 h2 h3=>by
 by_cases q:j<b;exact x i j h1 h2 q;by_cases z:i<b;exact kB (h i h1 z (by lia)) (y b j (aT _) (by lia) h3);exact y i j (by lia) h2 h3
theorem OM(c:Cp prog w A s κ f r N){p:Array Nat}{pd:Array (Nat×Nat×Nat)}{g i sa na pw nb Iw:Nat}(P:Pm N p)(e1:pd[i]?=aD (sa,na,pw))(e2:pd[i+1]?=aD (sa+na,nb,Iw))(ha:1<=na)(hb:1<=nb)(hn:sa+na+nb<=N)(s1:Ri r p sa (sa+na))(s2:Ri r p (sa+na) (sa+na+nb)){Q:Bool->SortSt->Prop}
 (h:∀q g',q.Perm p->Ou p q sa (sa+na+nb)->Ri r q sa (sa+na+nb)->Q true (St κ f q ((pd.setIfInBounds i (sa,na+nb,pw)).eraseIdxIfInBounds (i+1)) g')):wpS (model prog w) A E s (mergeAt' i) Q (St κ f p pd g):=by
 have zp:=P.z;rw[Wg];unfold Bm;refine aY (nS ?_);show wpS _ _ _ _ (match(pd[i]?,pd[i+1]?)with|(aD (sa,na,pw),aD (sb,nb,_))=>_|_=>_) _ _;rw[e1,e2];dsimp only;refine aY (Wl ?_);show wpS _ _ _ _ _ Q (St κ f p ((pd.setIfInBounds i (sa,na+nb,pw)).eraseIdxIfInBounds (i+1)) g);generalize (pd.setIfInBounds i (sa,na+nb,pw)).eraseIdxIfInBounds (i+1)=rS at h ⊢;have ea:arrOf (St κ f p pd g)=ar f p.toList:=Wm;rw[ea];have lp:p.toList.length=N:=by simpa using zp
 have bl:∀y∈p.toList,y<N:=λy hy=>P.b y (by simpa using hy);refine aY (bO (show sa+na<p.toList.length by lia) ?_);have eb:r p.toList[sa+na]=J r p (sa+na):=by rw[<-ux (r:=r) (p:=p),oE (by lia)]
 have xb:p.toList[sa+na]<N:=bl _ (iK _);refine aY (Ik c bl xb (λi j a b=>by rw[ux (r:=r),ux (r:=r)];exact s1 _ _ (by lia) (by lia) (by lia)) (by lia) (by lia) rfl λk hk k1 k2=>?_);have ON:∀i,i<k->J r p (sa+i)<=J r p (sa+na):=λi hi=>by
  have:=k1 i hi;rw[rR,eb]at this;simp only[dZ,dF,tT,vq]at this;exact qc.mp this
 have Wo:∀i,k<=i->i<na->J r p (sa+na)<J r p (sa+i):=λi hi hi2=>by
  have:=k2 i hi hi2;rw[rR,eb]at this;simpa using this
 dsimp only;by_cases x1:(na-k==0)=true;rw[if_pos x1];have Bg:na-k=0:=by simpa using x1
 refine bx (h p g (yq _) .refl (s1.join s2 λi h1 h2 _=>?_));have:=ON (i-sa) (by lia);rw[show sa+ (i-sa)=i by lia]at this;exact this;rw[if_neg x1];have Bg:na-k≠0:=by simpa using x1
 rw[show sa+k+ (na-k)-1=sa+na-1 by lia];refine aY (bO (show sa+na-1<p.toList.length by lia) ?_);have ec:r p.toList[sa+na-1]=J r p (sa+na-1):=by rw[<-ux (r:=r) (p:=p),oE (by lia)]
 have xc:p.toList[sa+na-1]<N:=bl _ (iK _);refine aY (Ik c bl xc (λi j a b=>by rw[ux (r:=r),ux (r:=r)];exact s2 _ _ (by lia) (by lia) (by lia)) (by lia) (by lia) rfl λq hq q1 q2=>?_);have Iz:∀i,i<q->J r p (sa+na+i)<J r p (sa+na-1):=λi hi=>by
  have:=q1 i hi;rw[rR,ec]at this;simpa using this
 have yL:∀i,q<=i->i<nb->J r p (sa+na-1)<=J r p (sa+na+i):=λi hi hi2=>by
  have:=q2 i hi hi2;rw[rR,ec]at this;simp only[bZ,vq]at this;exact qc.mp this
 dsimp only;by_cases x2:(q==0)=true;rw[if_pos x2];have Io:q=0:=by simpa using x2
 refine bx (h p g (yq _) .refl (s1.join s2 λi h1 h2 _=>?_));exact kB (s1 i (sa+na-1) h1 (by lia) (by lia)) (by simpa using yL 0 (by lia) (by lia));rw[if_neg x2];have Io:q≠0:=by simpa using x2
 rw[qk,qk,show sa+na- (sa+k)=na-k by lia,show sa+na+q- (sa+na)=q by lia];have za:sa+k+ (na-k)<=p.size:=by lia
 have zb:sa+na+q<=p.size:=by lia
 have ra:Ri r p (sa+k) (sa+k+ (na-k)):=λi j h1 h2 h3=>s1 i j (by lia) h2 (by lia);have rb:Ri r p (sa+na) (sa+na+q):=λi j h1 h2 h3=>s2 i j h1 h2 (by lia);have la:=Bo za;have lb:=Bo zb;have T:Tw N r ((p.toList.drop (sa+k)).take (na-k)) ((p.toList.drop (sa+na)).take q):=by refine⟨λx hx=>P.b x (ER (r:=r) hx za).1,λx hx=>P.b x (ER (r:=r) hx zb).1,OL ra za,OL rb zb,by lia,by lia,?_,λx hx i hi hi2=>?_⟩;obtain⟨_,u1⟩:=yK (r:=r) (i:=0) (show 0<na-k by lia) za;obtain⟨_,u2⟩:=yK (r:=r) (i:=0) (show 0<q by lia) zb;rw[u1,u2];exact nT (Wo k (aT _) (by lia));obtain⟨_,j,hj,e⟩:=ER (r:=r) hx zb;rw[la]at hi2;obtain⟨_,u1⟩:=yK (r:=r) (i:=i) (show i<na-k by lia) za;rw[u1,e,show sa+k+i=sa+na-1 by lia];exact Iz j hj
 have fin:∀x g',Mg f r ((p.toList.drop (sa+k)).take (na-k)) ((p.toList.drop (sa+na)).take q) x->wpS (model prog w) A E s (lS (sa+k) x) Q (St κ f p rS g'):=λx g' m=>by
  obtain⟨l,rfl,pl,sl⟩:=m;unfold lS;have hj:(p.toList.drop (sa+k)).take (na-k)++(p.toList.drop (sa+na)).take q=(p.toList.drop (sa+k)).take (sa+na+q- (sa+k)):=by rw[show sa+na+q- (sa+k)=(na-k)+q by lia,List.take_add,List.drop_drop,show sa+k+ (na-k)=sa+na by lia]
  rw[hj]at pl;obtain⟨z1,z2,z3⟩:=Wn (r:=r) (sc:=sa+na+nb) P (show sa<=sa+k by lia) (show sa+k<sa+na+q by lia) (by lia) hn pl sl
   (λi j h1 h2 h3=>s1 i j h1 h2 (by lia)) (λi j h1 h2 h3=>s2 i j (by lia) h2 h3)
   (λi h1 h2 j h3 h4=>by
     by_cases y:j<sa+na;exact s1 i j h1 (by lia) y;have:=ON (i-sa) (by lia);rw[show sa+ (i-sa)=i by lia]at this;exact kB this (s2 (sa+na) j (aT _) (by lia) (by lia)))
   (λi h1 h2 j h3 h4=>by
     by_cases y:j<sa+na;have:=yL (i- (sa+na)) (by lia) (by lia);rw[show sa+na+ (i- (sa+na))=i by lia]at this;exact kB (s1 j (sa+na-1) (by lia) (by lia) (by lia)) this;exact s2 j i (by lia) (by lia) h2)
  refine aY (yl ?_);show wpS _ _ _ _ _ _ (SortSt.mk' κ (put (sa+k) (ar f l).toList (p.map f)) rS g' aE);rw[Wi];refine aY (nS (bx ?_));exact h _ g' z1 z2 z3
 split;exact aY (Bj c T fin);exact aY (Bl c T fin)
end
end TS
namespace TS
open PySem PySem.W PyProof.Rows KO
noncomputable def fH(r:Nat->Int)(p:Array Nat):Nat->List (Nat×Nat)->Nat->Prop|a,[],b=>a=b|a,x::t,b=>x.1=a/\1<=x.2/\Ri r p a (a+x.2)/\fH r p (a+x.2) t b
noncomputable def sh(pd:Array (Nat×Nat×Nat)):List (Nat×Nat):=pd.toList.map λx=>(x.1,x.2.1)
variable{r:Nat->Int}{p q:Array Nat}
theorem fH.le:∀{l:List (Nat×Nat)} {a b:Nat},fH r p a l b->a+l.length<=b
 |[],_,_,h=>by cases h;exact aT _
 |x::t,a,b,h=>by
  have:=fH.le h.2.2.2;have:=h.2.1;rw[fD];lia
theorem fH.app:∀{l m:List (Nat×Nat)} {a b:Nat},fH r p a (l++m) b->∃c,fH r p a l c/\fH r p c m b
 |[],m,a,b,h=>⟨a,rfl,h⟩
 |x::t,m,a,b,h=>by
  obtain⟨c,h1,h2⟩:=fH.app (l:=t) h.2.2.2;exact⟨c,⟨h.1,h.2.1,h.2.2.1,h1⟩,h2⟩
theorem fH.join:∀{l m:List (Nat×Nat)} {a b c:Nat},fH r p a l c->fH r p c m b->fH r p a (l++m) b|[],m,a,b,c,h1,h2=>by cases h1;exact h2|x::t,m,a,b,c,h1,h2=>⟨h1.1,h1.2.1,h1.2.2.1,fH.join h1.2.2.2 h2⟩
theorem fH.out:∀{l:List (Nat×Nat)} {a b x y:Nat},fH r p a l b->Ou p q x y->(b<=x\/y<=a)->fH r q a l b
 |[],a,b,x,y,h,_,_=>h
 |z::t,a,b,x,y,h,o,e=>by
  have:=fH.le h.2.2.2;exact⟨h.1,h.2.1,h.2.2.1.out o (by lia),fH.out h.2.2.2 o (by lia)⟩
theorem Wq{pd:Array (Nat×Nat×Nat)}{a n w:Nat}:sh (pd.push (a,n,w))=sh pd++[(a,n)]:=by unfold sh;rw[Array.toList_push,tX];rfl
theorem wF{pd:Array (Nat×Nat×Nat)}:(sh pd).length=pd.size:=by unfold sh;simp
theorem Wr{pd:Array (Nat×Nat×Nat)}{i w:Nat}:sh (pd.modify i λx=>match x with
 |(st,len,_)=>(st,len,w))=sh pd:=by
 unfold sh;apply List.ext_getElem?;intro k;rw[gh,gh,vJ,vJ,Array.getElem?_modify];split;cases pd[k]?<;>rfl;rfl
theorem OO{pd:Array (Nat×Nat×Nat)}{i:Nat}(hi:i+1<pd.size):∃x y,pd[i]?=aD x/\pd[i+1]?=aD y/\sh pd=(sh pd).take i++(x.1,x.2.1):: (y.1,y.2.1):: (sh pd).drop (i+2)/\
 ∀n w,sh ((pd.setIfInBounds i (x.1,n,w)).eraseIdxIfInBounds (i+1))=(sh pd).take i++(x.1,n):: (sh pd).drop (i+2):=by
 have h0:i<pd.toList.length:=by simp;lia
 have h1:i+1<pd.toList.length:=by simp;lia
 refine⟨pd[i],pd[i+1],qe (by lia),qe hi,?_,λn w=>?_⟩;have e:pd.toList=pd.toList.take i++pd[i]::pd[i+1]::pd.toList.drop (i+2):=by have a:=tW h0;have b:=tW h1;rw[show i+1+1=i+2 by lia]at b;rw[b]at a;have:=(List.take_append_drop i pd.toList).symm;rw[a]at this;simpa using this
 unfold sh;rw[<-List.map_take,<-List.map_drop];have:=jF (List.map λx:Nat×Nat×Nat=>(x.1,x.2.1)) e;rw[tX,gQ,gQ]at this;exact this;have e:((pd.setIfInBounds i (pd[i].1,n,w)).eraseIdxIfInBounds (i+1)).toList=pd.toList.take i++(pd[i].1,n,w)::pd.toList.drop (i+2):=by
  have z:((pd.setIfInBounds i (pd[i].1,n,w)).eraseIdxIfInBounds (i+1)).toList=(pd.toList.set i (pd[i].1,n,w)).eraseIdx (i+1):=by unfold Array.eraseIdxIfInBounds;rw[dif_pos (by rw[Array.size_setIfInBounds];exact hi),Array.toList_eraseIdx,Array.toList_setIfInBounds]
  rw[z,List.eraseIdx_eq_take_drop_succ];have a:(pd.toList.set i (pd[i].1,n,w)).take (i+1)=pd.toList.take i++[(pd[i].1,n,w)]:=by rw[List.take_add_one,List.take_set_of_le (aT _)];congr 1;rw[nQ h0];rfl
  have b:(pd.toList.set i (pd[i].1,n,w)).drop (i+1+1)=pd.toList.drop (i+2):=by rw[List.drop_set_of_lt (by lia)]
  rw[a,b,jK];rfl
 unfold sh;rw[e,tX,gQ,<-List.map_take,<-List.map_drop]
section
variable{prog:ai}{w:aj}{A:ak}{E:aa->af->Prop}{s:af}{κ:SortKind}{f:Nat->Keyed}{r:Nat->Int}{N:Nat}
noncomputable def Bp(κ:SortKind)(f:Nat->Keyed)(r:Nat->Int)(p0:Array Nat)(lo m:Nat)(st:SortSt):Prop:=∃q pd g,st=St κ f q pd g/\q.Perm p0/\fH r q 0 (sh pd) lo/\1<=pd.size/\pd.size<=m
theorem OP(c:Cp prog w A s κ f r N){p0 q:Array Nat}(P:Pm N p0){pd:Array (Nat×Nat×Nat)}{g i lo:Nat}(hp:q.Perm p0)(C:fH r q 0 (sh pd) lo)(hl:lo<=N)(hi:i+1<pd.size){Q:Bool->SortSt->Prop}
 (h:∀st,Bp κ f r p0 lo (pd.size-1) st->Q true st):wpS (model prog w) A E s (mergeAt' i) Q (St κ f q pd g):=by
 obtain⟨⟨sa,na,pw⟩,⟨sb,nb,Iw⟩,e1,e2,e3,e4⟩:=OO hi;dsimp only at e3 e4;rw[e3]at C;obtain⟨a,C1,C2⟩:=C.app;obtain⟨z1,ha,s1,z2,hb,s2,C3⟩:=C2;dsimp only at z1 ha s1 z2 hb s2 C3;subst z1 z2;have l1:=C1.le;have l3:=C3.le;refine OM c (P.perm hp) e1 e2 ha hb (by lia) s1 s2 λq' g' hq o u=>h _ ⟨q',_,g',rfl,hq.trans hp,?_,?_,?_⟩;rw[e4];refine(C1.out o (.inl (aT _))).join ⟨rfl,by lia,by rw[<-DC];exact u,?_⟩;rw[<-DC];exact C3.out o (.inr (aT _));rw[<-wF,e4,eW,fD];lia;rw[<-wF,e4,eW,fD,kQ,kP,wF];lia
theorem zx7(c:Cp prog w A s κ f r N){p0:Array Nat}(P:Pm N p0){pw lo m:Nat}(hl:lo<=N){st:SortSt}(I:Bp κ f r p0 lo m st){Q:ForInStep U2->SortSt->Prop}
 (h:∀st,Bp κ f r p0 lo m st->Q (.done (aE,())) st/\Q (.yield (aE,())) st):wpS (model prog w) A E s (EN pw) Q st:=by
 have I0:=I;obtain⟨q,pd,g,rfl,hp,C,h1,h2⟩:=I;unfold EN;refine aY (nS ?_);show wpS _ _ _ _ (match if pd.size>1 then pd[pd.size-2]? else aE with|some (_,_,old)=>_|_=>_) _ _;by_cases x:pd.size>1;rw[if_pos x,qe (by lia)];obtain⟨a,b,old⟩:=pd[pd.size-2];dsimp only;by_cases y:old<=pw;rw[if_pos y];exact bx (h _ I0).1;rw[if_neg y];refine aY (OP c P hp C hl (show pd.size-2+1<pd.size by lia) λst I=>bx (h st ?_).2);obtain⟨q,rS,g,e,a,b,c1,c2⟩:=I;exact⟨q,rS,g,e,a,b,c1,by lia⟩;rw[if_neg x];exact bx (h _ I0).1
theorem OQ{p0 q:Array Nat}{pd:Array (Nat×Nat×Nat)}{g lo n:Nat}(hp:q.Perm p0)(C:fH r q 0 (sh pd) lo)(h1:1<=n)(u:Ri r q lo (lo+n)){Q:ForInStep U1->SortSt->Prop}(h:∀q pd g,q.Perm p0->fH r q 0 (sh pd) (lo+n)->1<=pd.size->Q (.yield (aE,lo+n)) (St κ f q pd g)) :
 wpS (model prog w) A E s (EM lo n) Q (St κ f q pd g):=by
 unfold EM;refine aY (yl (bx ?_));exact h q (pd.push (lo,n,0)) g hp (by rw[Wq];exact C.join ⟨rfl,h1,u,rfl⟩) (by rw[Array.size_push];lia)
theorem OR(c:Cp prog w A s κ f r N){p0 q:Array Nat}(P:Pm N p0){pd:Array (Nat×Nat×Nat)}{g lo n z:Nat}(hp:q.Perm p0)(C:fH r q 0 (sh pd) lo)(h1:1<=n)(hl:lo+n<=N)(u:Ri r q lo (lo+n)){Q:ForInStep U1->SortSt->Prop}(h:∀q pd g,q.Perm p0->fH r q 0 (sh pd) (lo+n)->1<=pd.size->Q (.yield (aE,lo+n)) (St κ f q pd g)) :
 wpS (model prog w) A E s (EO z lo n) Q (St κ f q pd g):=by
 unfold EO;refine aY (nS ?_);show wpS _ _ _ _ (match pd.back? with|some (s1,n1,_)=>_|_=>_) _ _;cases e:pd.back? with
 |none=>exact OQ hp C h1 u h
 |some x=>
  obtain⟨s1,n1,x3⟩:=x;dsimp only;have hz:1<=pd.size:=by rw[Array.back?_eq_getElem?]at e;have:=(Array.getElem?_eq_some_iff.mp e).1;lia
  generalize power' z (2*s1+n1) (2*s1+n1+n1+n) z=pw;refine aY (jM (jL (I:=λ_ d st'=>d=(aE,())/\∃q pd g,st'=St κ f q pd g/\q.Perm p0/\fH r q 0 (sh pd) lo/\1<=pd.size/\Ri r q lo (lo+n))
   (Q:=λd st'=>d=(aE,())/\∃q pd g,st'=St κ f q pd g/\q.Perm p0/\fH r q 0 (sh pd) lo/\1<=pd.size/\Ri r q lo (lo+n)) ?step (λ_ _ h=>h) ⟨rfl,q,pd,g,rfl,hp,C,hz,u⟩) ?post)
  case step=>
   rintro x d st' _ _ ⟨rfl,q,pd,g,rfl,hp,C,hz,u⟩;unfold EN;refine aY (nS ?_);show wpS _ _ _ _ (match if pd.size>1 then pd[pd.size-2]? else aE with|some (_,_,old)=>_|_=>_) _ _;by_cases x:pd.size>1;rw[if_pos x,qe (by lia)];obtain⟨a,b,old⟩:=pd[pd.size-2];dsimp only;by_cases y:old<=pw;rw[if_pos y];exact bx ⟨rfl,q,pd,g,rfl,hp,C,hz,u⟩;rw[if_neg y];obtain⟨⟨sa,na,pw⟩,⟨sb,nb,Iw⟩,e1,e2,e3,e4⟩:=OO (pd:=pd) (i:=pd.size-2) (by lia);dsimp only at e3 e4;rw[e3]at C;obtain⟨a,C1,C2⟩:=C.app;obtain⟨z1,ha,t1,z2,hb,t2,C3⟩:=C2;dsimp only at z1 ha t1 z2 hb t2 C3;subst z1 z2;have l1:=C1.le;have l3:=C3.le;refine aY (OM c (P.perm hp) e1 e2 ha hb (by lia) t1 t2 λq' g' hq o v=>bx ⟨rfl,q',_,g',rfl,hq.trans hp,?_,?_,u.out o (.inr (by lia))⟩);rw[e4];refine(C1.out o (.inl (aT _))).join ⟨rfl,by lia,by rw[<-DC];exact v,?_⟩;rw[<-DC];exact C3.out o (.inr (aT _));rw[<-wF,e4,eW,fD];lia;rw[if_neg x];exact bx ⟨rfl,q,pd,g,rfl,hp,C,hz,u⟩
  case post=>
   rintro d st' ⟨rfl,q,pd,g,rfl,hp,C,hz,u⟩;dsimp only;refine aY (yl ?_);exact OQ (pd:=pd.modify (pd.size-1) _) hp (by rw[Wr];exact C) h1 u h
theorem Ws{pd:Array (Nat×Nat×Nat)}(h:1<pd.size):Iu pd+1<pd.size:=by
 unfold Iu
 repeat' split
 all_goals lia
theorem Wt(c:Cp prog w A s κ f r N){p:Array Nat}(P:Pm N p)(h2:2<=N){Q:Unit->SortSt->Prop}(h:∀q pd g,q.Perm p->Ri r q 0 N->Q () (St κ f q pd g)):wpS (model prog w) A E s sortRuns' Q (St κ f p #[] 7):=by
 rw[Wh];unfold OH;refine aY (nS ?_);have hz:(arrOf (St κ f p #[] 7)).size=N:=by show(p.map f).size=N;rw[Array.size_map];exact P.z
 rw[hz];generalize minRun' N N 0=mr;refine aY (jM (jL (I:=λx d st'=>∃lo q pd g,d=(aE,lo)/\st'=St κ f q pd g/\q.Perm p/\fH r q 0 (sh pd) lo/\lo<=N/\x<=lo)
  (Q:=λd st'=>∃q pd g,d=(aE,N)/\st'=St κ f q pd g/\q.Perm p/\fH r q 0 (sh pd) N) ?step ?fin ⟨0,p,#[],7,rfl,rfl,yq _,rfl,gf _,aT _⟩) ?post)
 case fin=>
  rintro d st' ⟨lo,q,pd,g,rfl,rfl,hp,C,a,b⟩;obtain rfl:lo=N:=by lia
  exact⟨q,pd,g,rfl,rfl,hp,C⟩
 case step=>
  rintro x d st' _ hx ⟨lo,q,pd,g,rfl,rfl,hp,C,a,b⟩;unfold OF;dsimp only;by_cases y:lo>=N;rw[if_pos y];obtain rfl:lo=N:=by lia
  exact bx ⟨q,pd,g,rfl,rfl,hp,C⟩;rw[if_neg y];refine aY (V7 c (P.perm hp) (by lia) (by lia) λn q' n1 nm hq o u=>?_);dsimp only;have C':=C.out o (.inl (aT _));have en:∀n,1<=n->lo+n<=N->∀q pd g,q.Perm p->fH r q 0 (sh pd) (lo+n)->1<=pd.size->∃lo' q' rS g',((aE,lo+n):U1)=(aE,lo')/\St κ f q pd g=St κ f q' rS g'/\q'.Perm p/\fH r q' 0 (sh rS) lo'/\lo'<=N/\x+1<=lo':=λn n1 nm q pd g hp C _=>⟨_,q,pd,g,rfl,rfl,hp,C,nm,by lia⟩
  by_cases z:n<mr;rw[if_pos z];refine aY (vI (kO ⟨rfl,?_⟩));refine aY (V8 c (P.perm (hq.trans hp)) n1 (by lia) (by lia) u λq2 hq2 o2 u2=>?_);rw[if_neg (by simp)];exact OR c P (hq2.trans (hq.trans hp)) (C'.out o2 (.inl (aT _))) (by lia) (by lia) u2 (en _ (by lia) (by lia));rw[if_neg z];exact OR c P (hq.trans hp) C' n1 (by lia) u (en _ n1 (by lia))
 case post=>
  rintro d st' ⟨q,pd,g,rfl,rfl,hp,C⟩;dsimp only;have l:=C.le;rw[wF,nF]at l;have l1:1<=pd.size:=by
   rw[<-wF];cases e:sh pd with|nil=>rw[e]at C;have:0=N:=C;lia|cons a t=>rw[fD];lia
  refine aY (jM (jL (I:=λx d st'=>d=(aE,())/\Bp κ f r p N (max 1 (N-x)) st')
   (Q:=λd st'=>d=(aE,())/\Bp κ f r p N 1 st') ?Bq ?IA ⟨rfl,q,pd,g,rfl,hp,C,l1,by lia⟩) ?Br)
  case IA=>
   rintro d st' ⟨rfl,I⟩;rw[show max 1 (N-max 0 N)=1 by lia]at I;exact⟨rfl,I⟩
  case Bq=>
   rintro x d st' _ hx ⟨rfl,q,pd,g,rfl,hp,C,l1,l2⟩;unfold OG;refine aY (nS ?_);show wpS _ _ _ _ (if pd.size<=1 then _ else _) _ _;by_cases y:pd.size<=1;rw[if_pos y];exact bx ⟨rfl,q,pd,g,rfl,hp,C,l1,y⟩;rw[if_neg y];refine aY (OP c P hp C (aT _) (Ws (by lia)) λst I=>bx ⟨rfl,?_⟩);obtain⟨q,rS,g,e,a,b,c1,c2⟩:=I;exact⟨q,rS,g,e,a,b,c1,by lia⟩
  case Br=>
   rintro d st' ⟨rfl,q,pd,g,rfl,hp,C,l1,l2⟩;refine bx (h q pd g hp ?_);have e:(sh pd).length=1:=by rw[wF];lia
   obtain⟨x,ex⟩:=List.length_eq_one_iff.mp e;rw[ex]at C;obtain⟨_,_,u,v⟩:=C;have v:0+x.2=N:=v;rw[v]at u;exact u
end
end TS
namespace LX
noncomputable def bR:List Int->List Int->Bool|a::as,b::bs=>if a=b then bR as bs else decide (a<b)|_,_=>false
theorem IB:∀a:List Int,bR a a=false|[]=>rfl|x::r=>by unfold bR;rw[if_pos rfl];exact IB r
theorem ES:∀{a b c:List Int},a.length=b.length->b.length=c.length->bR a b=true->bR b c=true->bR a c=true
 |[],[],_,_,_,h,_=>by simp[bR]at h
 |x::a,y::b,z::c,h1,h2,h3,h4=>by
  unfold bR at h3 h4 ⊢;by_cases e1:x=y;subst e1;rw[if_pos rfl]at h3;by_cases e2:x=z;subst e2;rw[if_pos rfl]at h4 ⊢;exact ES (by simpa using h1) (by simpa using h2) h3 h4;rw[if_neg e2]at h4 ⊢;exact h4;rw[if_neg e1]at h3;have l1:x<y:=by simpa using h3
  by_cases e2:y=z;subst e2;rw[if_neg e1];exact h3;rw[if_neg e2]at h4;have l2:y<z:=by simpa using h4
  rw[if_neg (by lia)];exact kq (by lia)
 |[],y::_,_,h,_,_,_=>by simp at h
 |_::_,[],_,h,_,_,_=>by simp at h
 |_::_,_::_,[],_,h,_,_=>by simp at h
theorem ET:∀{a b:List Int},a.length=b.length->a≠b->bR a b=true\/bR b a=true
 |[],[],_,h=>absurd rfl h
 |x::a,y::b,h1,h2=>by
  unfold bR;by_cases e:x=y;subst e;rw[if_pos rfl,if_pos rfl];exact ET (by simpa using h1) λz=>h2 (by rw[z]);rw[if_neg e,if_neg (λz=>e z.symm)];simp only[fj];lia
 |[],_::_,h,_=>by simp at h
 |_::_,[],h,_=>by simp at h
theorem OS{α:Type}{p q:α->Bool}:∀{l:List α} {x:α},(∀y∈l,p y=true->q y=true)->x∈l->p x=false->q x=true->l.countP p<l.countP q
 |y::l,x,h,hx,hp,hq=>by
  rw[List.countP_cons,List.countP_cons];have m:l.countP p<=l.countP q:=List.countP_mono_left λz hz=>h z (dQ _ hz);have hy:=h y (fk ..);rcases fP.mp hx with e|e
  subst e;rw[hp,hq];simp;lia;have:=OS (λz hz=>h z (dQ _ hz)) e hp hq;cases a:p y with|true=>rw[hy a];simp;lia|false=>simp;lia
noncomputable def rk(ks:List (List Int))(i:Nat):Int:=((ks.countP λk=>bR k (ks.getD i [])):Nat)
section
variable{ks:List (List Int)}{m:Nat}
theorem lT(hm:∀k∈ks,k.length=m){i j:Nat}(hi:i<ks.length)(hj:j<ks.length)(h:bR (ks.getD i []) (ks.getD j [])):rk ks i<rk ks j:=by
 have mi:ks.getD i []∈ks:=by simp[hi]
 have mj:ks.getD j []∈ks:=by simp[hj]
 unfold rk;refine Int.ofNat_lt.mpr (OS (x:=ks.getD i []) (λy hy e=>?_) mi (IB _) h);exact ES (by rw[hm _ hy,hm _ mi]) (by rw[hm _ mi,hm _ mj]) e h
theorem OT(nd:ks.Nodup){i j:Nat}(hi:i<ks.length)(hj:j<ks.length)(h:i≠j):ks.getD i []≠ks.getD j []:=λe=>by
 have e':ks[i]=ks[j]:=by simpa[hi,hj]using e
 rcases Nat.lt_or_gt_of_ne h with x|x;exact vA.mp nd i j hi hj x e';exact vA.mp nd j i hj hi x e'.symm
theorem OU(hm:∀k∈ks,k.length=m)(nd:ks.Nodup){i j:Nat}(hi:i<ks.length)(hj:j<ks.length):decide (rk ks i<rk ks j)=bR (ks.getD i []) (ks.getD j []):=by
 have mi:ks.getD i []∈ks:=by simp[hi]
 have mj:ks.getD j []∈ks:=by simp[hj]
 cases e:bR (ks.getD i []) (ks.getD j [])with
 |true=>exact kq (lT hm hi hj e)
 |false=>
  refine gX λz=>?_;by_cases x:i=j;subst x;lia;rcases ET (by rw[hm _ mi,hm _ mj]) (OT nd hi hj x)with y|y
  rw[e]at y;cases y;have:=lT hm hj hi y;lia
theorem Wu(hm:∀k∈ks,k.length=m)(nd:ks.Nodup){i j:Nat}(hi:i<ks.length)(hj:j<ks.length)(h:rk ks i=rk ks j):i=j:=by
 have mi:ks.getD i []∈ks:=by simp[hi]
 have mj:ks.getD j []∈ks:=by simp[hj]
 by_cases x:i=j;exact x;rcases ET (by rw[hm _ mi,hm _ mj]) (OT nd hi hj x)with y|y
 have:=lT hm hi hj y;lia;have:=lT hm hj hi y;lia
end
end LX
namespace RF
open PySem
inductive W where
 |aQ|bl (b:Bool)|int (i:Int)|str (x:Str)|tup (ws:List W)|fz (ws:List W)|ref (i:Nat)
mutual
noncomputable def W.lt(n:Nat):W->Bool|.tup ws=>W.mU n ws|.fz ws=>W.mU n ws|.ref i=>Nat.blt i n|_=>true
noncomputable def W.mU(n:Nat):List W->Bool|[]=>true|w::ws=>W.lt n w&&W.mU n ws
end
inductive VO where
 |lst (ws:List W)|dk (kvs:List (L2.Key×W))|dm (kvs:List (L2.Key×W))
structure VH where
 n:Nat
 lo:Nat
 os:List VO
noncomputable def VH.get(h:VH)(i:Nat):Option VO:=if Nat.blt i h.n then h.os[h.n-1-i]? else aE
noncomputable def VH.set(h:VH)(i:Nat)(o:VO):VH:=⟨h.n,if Nat.blt i h.lo then i else h.lo,h.os.set (h.n-1-i) o⟩
noncomputable def VH.new(h:VH)(o:VO):VH:=⟨h.n+1,h.lo,o::h.os⟩
inductive Res(α:Type)where
 |ok (a:α) (h:VH)|ex (x:W) (h:VH)|no
noncomputable def Res.bind{α β:Type}(r:Res α)(f:α->VH->Res β):Res β:=match r with|.ok a h=>f a h|.ex x h=>.ex x h|.no=>.no
noncomputable def Res.of{α:Type}(o:Option α)(h:VH):Res α:=match o with|some a=>.ok a h|none=>.no
inductive Op where
 |add|sub|mul|fdiv|mod|shl|pow
 deriving DecidableEq
inductive Cp where
 |eq|ne|lt|le|gt|ge|oO|mV|jB|wG
 deriving DecidableEq
inductive Ty where
 |int|bool|tuple|list|str|dict
 deriving DecidableEq
inductive Bi where
 |len|list|tuple|int|abs|max|min|all|Bs|OV|bL|Bt
 deriving DecidableEq
inductive Mt where
 |append|get
 deriving DecidableEq
inductive Kd where
 |seq|bG|wH|ql|zip|keys
 deriving DecidableEq
inductive Tg where
 |one (i:Nat)|many (is:List Nat)|Wv (i:Nat) (is:List Nat)
 deriving DecidableEq
inductive E where
 |var (i:Nat)|cst (w:W)
 |nil|cons (a r:E)
 |tup (a:E)|lst (a:E)|Bu (a:E)
 |op (o:Op) (a b:E)|neg (a:E)
 |cmp (c:Cp) (a b:E)|wI (c d:Cp) (a b e:E)
 |not (a:E)|and (a b:E)|or (a b:E)|jo (a:E)|ite (c a b:E)
 |idx (a b:E)|slc (a:E) (bl:Bool) (lo:E) (bh:Bool) (hi:E)
 |call (f:Nat) (a:E)|bi (b:Bi) (a:E)|rT (t:Ty) (a:E)|mt (m:Mt) (o a:E)
 |lc (k:Kd) (a:E) (t:Tg) (ow:Nat) (ix:List Nat) (c e:E)
 |oQ (k:Kd) (a:E) (t:Tg) (ow:Nat) (ix:List Nat) (c:E) (k2:Kd) (a2:E) (t2:Tg) (c2 e:E)
inductive S where
 |skip|seq (a b:S)|set (i:Nat) (e:E)|Bv (is:List Nat) (e:E)|aug (i:Nat) (o:Op) (e:E)
 |put (o i v:E)|Bw (o i e:E)|ite (c:E) (a b:S)|ret (e:E)|expr (e:E)|brk|cnt
 |for (k:Kd) (a:E) (t:Tg) (b:S)|EU (c:E) (b:S)|no
noncomputable abbrev En:=List (Option W)
inductive Fl where
 |nx (ρ:En)|rt (w:W)|bk (ρ:En)|ct (ρ:En)
noncomputable def aV{α β:Type}(f:α->Option β):List α->Option (List β)
 |[]=>aD []
 |a::r=>match f a with
  |some b=>(match aV f r with
   |some bs=>aD (b::bs)
   |none=>aE)
  |none=>aE
noncomputable def toD(h:VH):Nat->W->Option aC
 |0,_=>aE
 |n+1,w=>match w with
  |.aQ=>aD .none
  |.bl b=>aD (.bool b)
  |.int i=>aD (.int i)
  |.str x=>aD (.str x)
  |.tup ws=>(aV (toD h n) ws).map .tuple
  |.fz ws=>(aV (toD h n) ws).map .list
  |.ref i=>match h.get i with
   |some (.lst ws)=>(aV (toD h n) ws).map .list
   |_=>aE
noncomputable def bY(h:VH)(x y:W):Option Bool:=
 match toD h 24 x,toD h 24 y with|some d,aD e=>if SeqAt.shaped d&&SeqAt.shaped e then aD (PyData.eqv d e)else aE|_,_=>aE
noncomputable def big:Nat:=16777216
noncomputable def lU(i:Int):Bool:=decide (-(2 ^ 64)<i)&&decide (i<2 ^ 64)
noncomputable def eY:Op->Int->Int->Option Int|.add,i,j=>aD (i+j)|.sub,i,j=>aD (i-j)|.mul,i,j=>if lU i||lU j then aD (i*j)else aE|.fdiv,i,j=>if decide (0<j)&&decide (j<1073741824)then aD (i/j)else aE|.mod,i,j=>if decide (0<j)then aD (i % j)else aE|.shl,i,j=>if decide (0<=j)&&decide (j<=1000000)&&decide (i.natAbs<2 ^ 64)then aD (i*2 ^ j.toNat)else aE|.pow,i,j=>if decide (0<=j)&&decide (j<=1000000)&&decide (i.natAbs<2 ^ 64)then aD (i ^ j.toNat)else aE
noncomputable def IC:Op->List W->List W->Option (List W)|.add,xs,ys=>if Nat.ble (xs.length+ys.length) big then aD (xs++ys)else aE|_,_,_=>aE
noncomputable def ID:Op->List W->List W->Option (List W)|.add,xs,ys=>if Nat.ble (xs.length+ys.length) big then aD (xs++ys)else aE|_,_,_=>aE
noncomputable def fits(i:Int):Bool:=decide (-(2 ^ 62)<=i)&&decide (i<2 ^ 62)
noncomputable def jY(o:Op)(xs:List W)(k:Int):Option (List W):=match o with|.mul=>if fits k&&Nat.ble (xs.length*k.toNat) big then aD (bD k.toNat xs).flatten else aE|_=>aE
noncomputable def gJ(o:Op)(x y:W)(h:VH):Res W:=match x,y with
 |.int i,.int j=>.of ((eY o i j).map .int) h
 |.tup xs,.tup ys=>.of ((IC o xs ys).map .tup) h
 |.tup xs,.int k=>.of ((jY o xs k).map .tup) h
 |.ref i,.ref j=>match h.get i,h.get j with
  |some (.lst xs),aD (.lst ys)=>(match ID o xs ys with
   |some zs=>.ok (.ref h.n) (h.new (.lst zs))
   |none=>.no)
  |_,_=>.no
 |_,_=>.no
noncomputable def yM(o:Op)(x y:W)(h:VH):Res W:=match x,y with
 |.int i,.int j=>(match o with
  |.add=>.ok (.int (i+j)) h
  |.sub=>.ok (.int (i-j)) h
  |.mul=>.of ((eY .mul i j).map .int) h
  |.fdiv=>.of ((eY .fdiv i j).map .int) h
  |_=>.no)
 |.ref i,.ref j=>match o,h.get i,h.get j with
  |.add,aD (.lst xs),aD (.lst ys)=>if Nat.ble (xs.length+ys.length) big then .ok (.ref i) (h.set i (.lst (xs++ys)))else .no
  |_,_,_=>.no
 |.tup (x::xs),.tup ys=>(match o with
  |.add=>if Nat.ble ((x::xs).length+ys.length) big then .ok (.tup (x::xs++ys)) h else .no
  |_=>.no)
 |_,_=>.no
noncomputable def fU:Cp->Int->Int->Option Bool|.lt,i,j=>aD (decide (i<j))|.le,i,j=>aD (decide (i<=j))|.gt,i,j=>aD (decide (j<i))|.ge,i,j=>aD (decide (j<=i))|_,_,_=>aE
noncomputable def cU:W->Bool|.aQ=>true|_=>false
noncomputable def aS(h:VH):W->Option (List W)
 |.tup ws=>aD ws
 |.fz ws=>aD ws
 |.ref i=>match h.get i with
  |some (.lst ws)=>aD ws
  |_=>aE
 |_=>aE
noncomputable def intD:W->Option Int|.int i=>aD i|_=>aE
noncomputable def mW(h:VH)(x y:W):Option Bool:=match aS h y,toD h 24 x with
 |some ws,aD d=>(match aV (toD h 24) ws with
  |some ds=>if ds.all SeqAt.shaped&&SeqAt.shaped d then aD (L2.fy ds d)else aE
  |none=>aE)
 |_,_=>aE
noncomputable def Bx:W->W->Option Bool|.bl c,.bl b=>aD (c==b)|_,_=>aE
noncomputable def aU(c:Cp)(h:VH)(x y:W):Option Bool:=match c with
 |.jB=>mW h x y
 |.wG=>(mW h x y).map (!·)
 |.eq=>bY h x y
 |.ne=>(bY h x y).map (!·)
 |.oO=>if cU y then aD (cU x)else Bx x y
 |.mV=>if cU y then aD (!cU x)else(Bx x y).map (!·)
 |c=>match x,y with
  |.int i,.int j=>fU c i j
  |_,_=>aE
noncomputable def mX(h:VH):W->Option Bool
 |.bl b=>aD b
 |.int i=>aD (i != 0)
 |.aQ=>aD false
 |.tup ws=>aD (!ws.isEmpty)
 |.ref i=>match h.get i with
  |some (.lst ws)=>aD (!ws.isEmpty)
  |_=>aE
 |_=>aE
noncomputable def rV:W->Option L2.Key|.int i=>aD (.inl i)|.str x=>aD (.inr x)|_=>aE
noncomputable def b9(kvs:List (L2.Key×W))(k:L2.Key):Option W:=(kvs.find? λkv=>decide (kv.1=k)).map (·.2)
noncomputable def jZ(kvs:List (L2.Key×W))(k:L2.Key)(w:W):List (L2.Key×W):=
 if(kvs.any λkv=>decide (kv.1=k))=true then kvs.map (λkv=>if kv.1=k then(kv.1,w)else kv)else kvs++[(k,w)]
noncomputable def bM(h:VH)(x y:W):Option W:=match x,y with
 |.tup ws,.int i=>L2.cZ ws i
 |.fz ws,.int i=>L2.cZ ws i
 |.ref a,.int i=>(match h.get a with
  |some (.lst ws)=>L2.cZ ws i
  |some (.dk kvs)=>b9 kvs (.inl i)
  |some (.dm kvs)=>b9 kvs (.inl i)
  |_=>aE)
 |.ref a,.str x=>(match h.get a with
  |some (.dk kvs)=>b9 kvs (.inr x)
  |_=>aE)
 |.str z,.int i=>if Nat.ble z.length PySem.sizeLine then(L2.cZ z.cps.toList i).map λc=>.str ⟨#[c]⟩else aE
 |_,_=>aE
noncomputable def eG(b:Bool)(w:W):Option (Option Int):=match b,w with|false,_=>aD aE|true,.int i=>aD (aD i)|_,_=>aE
noncomputable def iA(ws:List W)(lo hi:Option Int):List W:=(ws.drop (HT.bF ws.length 0 lo)).take (HT.bF ws.length ws.length hi-HT.bF ws.length 0 lo)
noncomputable def j5(x:W)(l u:Option Int)(h:VH):Res W:=match x with
 |.tup ws=>.ok (.tup (iA ws l u)) h
 |.ref i=>(match h.get i with
  |some (.lst ws)=>.ok (.ref h.n) (h.new (.lst (iA ws l u)))
  |_=>.no)
 |_=>.no
@[simp] theorem oR {ws:List W} {l u:Option Int} {h:VH}:j5 (.tup ws) l u h=.ok (.tup (iA ws l u)) h:=rfl
noncomputable def dU:Ty->VH->W->Option Bool
 |t,_,.aQ=>aD false
 |t,_,.bl _=>aD (t == .int||t == .bool)
 |t,_,.int _=>aD (t == .int)
 |t,_,.str _=>aD (t == .str)
 |t,_,.tup _=>aD (t == .tuple)
 |_,_,.fz _=>aE
 |t,h,.ref i=>match h.get i with
  |some (.lst _)=>aD (t == .list)
  |some (.dk _)=>aD (t == .dict)
  |_=>aE
noncomputable def gT(xs:List W)(h:VH):Res W:=match xs with
 |[x]=>.of (match aS h x with
  |some ws=>aD (.int ws.length)
  |none=>aE) h
 |_=>.no
noncomputable def i6(xs:List W)(h:VH):Res W:=match xs with
 |[x]=>(match aS h x with
  |some ws=>.ok (.ref h.n) (h.new (.lst ws))
  |none=>.no)
 |_=>.no
noncomputable def wJ(xs:List W)(h:VH):Res W:=match xs with
 |[x]=>.of (match aS h x with
  |some ws=>aD (.tup ws)
  |none=>aE) h
 |_=>.no
noncomputable def k8(xs:List W)(h:VH):Res W:=match xs with|[.int i]=>.ok (.int i) h|[.bl b]=>.ok (.int (if b then 1 else 0)) h|_=>.no
noncomputable def k9(xs:List W)(h:VH):Res W:=match xs with|[.int i]=>.ok (.int (if i<0 then -i else i)) h|_=>.no
noncomputable def iZ:W->Option Int|.int i=>aD i|_=>aE
noncomputable def dI:Int->List Int->Int|x,[]=>x|x,y::r=>dI (if y>x then y else x) r
noncomputable def rW(xs:List W)(h:VH):Res W:=match xs with
 |[.int i,.int j]=>.ok (.int (if j>i then j else i)) h
 |[.ref i]=>(match h.get i with
  |some (.lst ws)=>(match aV iZ ws with
   |some (x::r)=>.ok (.int (dI x r)) h
   |_=>.no)
  |_=>.no)
 |_=>.no
noncomputable def lg(xs:List W)(h:VH):Res W:=match xs with|[.int i,.int j]=>.ok (.int (if j<i then j else i)) h|_=>.no
noncomputable def qm:W->Option Bool|.bl b=>aD b|_=>aE
noncomputable def mY(xs:List W)(h:VH):Res W:=match xs with
 |[.ref i]=>(match h.get i with
  |some (.lst ws)=>.of ((aV qm ws).map λbs=>.bl (bs.all id)) h
  |_=>.no)
 |_=>.no
noncomputable def By(j:Nat):List W:=(List.range' 0 j).map λ(i:Nat)=>W.int (0+ (i:Int))
noncomputable def j6(xs:List W)(h:VH):Res W:=match xs with|[.int i]=>if decide (0<=i)&&Nat.ble i.toNat big then .ok (.ref h.n) (h.new (.lst (By i.toNat)))else .no|_=>.no
noncomputable def wK(xs:List W)(h:VH):Res W:=match xs with|[]=>.ok (.ref h.n) (h.new (.dm []))|_=>.no
noncomputable def BA(xs:List W)(h:VH):Res W:=match xs with
 |[.ref i]=>(match h.get i with
  |some (.dm kvs)=>.ok (.ref i) (h.set i (.dk kvs))
  |some (.dk _)=>.ok (.ref i) h
  |_=>.no)
 |_=>.no
noncomputable def kW:W->Option (List Int)|.tup ws=>aV iZ ws|_=>aE
noncomputable def mZ(x:List Int):List (List Int)->List (List Int)|[]=>[x]|y::r=>if LX.bR x y then x::y::r else y::mZ x r
noncomputable def j7:List (List Int)->List (List Int)|[]=>[]|x::r=>mZ x (j7 r)
noncomputable def oS:List (List Int)->Bool|k::k2::r=>Nat.ble 1 k.length&& (k::k2::r).all λq=>Nat.beq q.length k.length|_=>true
noncomputable def m5(xs:List W)(h:VH):Res W:=match xs with
 |[.ref i]=>(match h.get i with
  |some (.lst ws)=>(match aV kW ws with
   |some ks=>if decide ks.Nodup&&oS ks then .ok (.ref h.n) (h.new (.lst ((j7 ks).map λk=>.tup (k.map .int))))else .no
   |none=>.no)
  |_=>.no)
 |_=>.no
noncomputable def jC(b:Bi)(xs:List W)(h:VH):Res W:=match b with|.abs=>k9 xs h|.max=>rW xs h|.min=>lg xs h|.all=>mY xs h|.Bs=>j6 xs h|.OV=>wK xs h|.bL=>BA xs h|.Bt=>m5 xs h|.len=>gT xs h|.list=>i6 xs h|.tuple=>wJ xs h|.int=>k8 xs h
noncomputable def EV(kvs more:List (L2.Key×W)):List (L2.Key×W):=more.foldl (λacc kv=>jZ acc kv.1 kv.2) kvs
noncomputable def wL(m:Mt)(o:W)(xs:List W)(h:VH):Res W:=match m,o,xs with
 |.append,.ref i,[x]=>(match h.get i with
  |some (.lst ws)=>if Nat.blt ws.length big then .ok .aQ (h.set i (.lst (ws++[x])))else .no
  |_=>.no)
 |.get,.ref i,[k,d]=>(match h.get i,rV k with
  |some (.dk kvs),aD k=>.ok ((b9 kvs k).getD d) h
  |some (.dm kvs),aD k=>.ok ((b9 kvs k).getD d) h
  |_,_=>.no)
 |_,_,_=>.no
noncomputable def BB(m:Mt)(h:VH)(o:W):Bool:=match m,o with
 |.append,.ref i=>(match h.get i with
  |some (.lst _)=>true
  |_=>false)
 |.get,.ref i=>(match h.get i with
  |some (.dk _)=>true
  |some (.dm _)=>true
  |_=>false)
 |_,_=>false
noncomputable def IE:L2.Key->W|.inl i=>.int i|.inr x=>.str x
noncomputable def bg(k:Kd)(x:W)(i:Nat)(h:VH):Option (Option W):=match k with
 |.seq=>(aS h x).map λws=>ws[i]?
 |.ql=>(match x with
  |.tup ws=>aD ((ws[i]?).map λw=>.tup [.int i,w])
  |_=>aE)
 |.keys=>(match x with
  |.ref a=>(match h.get a with
   |some (.dk kvs)=>(match kvs[i]? with
    |some kv=>aD (aD (IE kv.1))
    |none=>if Nat.beq i kvs.length then aD aE else aE)
   |_=>aE)
  |_=>aE)
 |.zip=>(match x with
  |.tup [u,v]=>(match aS h u,aS h v with
   |some ws,aD zs=>aD (match ws[i]?,zs[i]? with
    |some a,aD b=>aD (.tup [a,b])
    |_,_=>aE)
   |_,_=>aE)
  |_=>aE)
 |.bG=>(match x with
  |.tup [.int j]=>if fits j then aD (if decide ((i:Int)<j)then aD (.int (0+i))else aE)else aE
  |_=>aE)
 |.wH=>(match x with
  |.tup [.int a,.int b]=>if fits a&&fits b then aD (if decide ((i:Int)<b-a)then aD (.int (a+i))else aE)else aE
  |_=>aE)
noncomputable def kG:List Nat->List W->En->Option En|[],[],ρ=>aD ρ|i::is,w::ws,ρ=>kG is ws (ρ.set i (aD w))|_,_,_=>aE
noncomputable def bH(t:Tg)(w:W)(h:VH)(ρ:En):Option En:=match t with
 |.one i=>aD (ρ.set i (aD w))
 |.Wv j is=>(match w with
  |.tup [x,y]=>(match aS h y with
   |some ws=>kG is ws (ρ.set j (aD x))
   |none=>aE)
  |_=>aE)
 |.many is=>match aS h w with
  |some ws=>kG is ws ρ
  |none=>aE
noncomputable def fuel:Nat:=1000000
noncomputable def inner(ow:Nat)(ix:List Nat)(ρ:En):En:=bD ow aE++ix.map λj=>(ρ[j]?).join
noncomputable def gp(nx:Nat->VH->Option (Option W))(tg:W->VH->En->Option En)(c:En->VH->Res W)(e:En->VH->Res W):Nat->Nat->En->VH->List W->Res (List W)
 |0,_,_,_,_=>.no
 |f+1,i,ρ,h,acc=>match nx i h with
  |none=>.no
  |some aE=>.ok acc.reverse h
  |some (aD w)=>match tg w h ρ with
   |none=>.no
   |some ρ=>(c ρ h).bind λb h=>match b with
    |.bl true=>(e ρ h).bind λy h=>gp nx tg c e f (i+1) ρ h (y::acc)
    |.bl false=>gp nx tg c e f (i+1) ρ h acc
    |_=>.no
noncomputable def i7(nx:Nat->VH->Option (Option W))(tg:W->VH->En->Option En)(c:En->VH->Res W)(e:En->VH->Res W):Nat->Nat->En->VH->List W->Res (En×List W)
 |0,_,_,_,_=>.no
 |f+1,i,ρ,h,acc=>match nx i h with
  |none=>.no
  |some aE=>.ok (ρ,acc) h
  |some (aD w)=>match tg w h ρ with
   |none=>.no
   |some ρ=>(c ρ h).bind λb h=>match b with
    |.bl true=>(e ρ h).bind λy h=>i7 nx tg c e f (i+1) ρ h (y::acc)
    |.bl false=>i7 nx tg c e f (i+1) ρ h acc
    |_=>.no
noncomputable def kH(nx:Nat->VH->Option (Option W))(tg:W->VH->En->Option En)(c:En->VH->Res W)(jB:En->VH->List W->Res (En×List W)):Nat->Nat->En->VH->List W->Res (List W)
 |0,_,_,_,_=>.no
 |f+1,i,ρ,h,acc=>match nx i h with
  |none=>.no
  |some aE=>.ok acc.reverse h
  |some (aD w)=>match tg w h ρ with
   |none=>.no
   |some ρ=>(c ρ h).bind λb h=>match b with
    |.bl true=>(jB ρ h acc).bind λp h=>kH nx tg c jB f (i+1) p.1 h p.2
    |.bl false=>kH nx tg c jB f (i+1) ρ h acc
    |_=>.no
noncomputable def dj(nx:Nat->VH->Option (Option W))(tg:W->VH->En->Option En)(b:En->VH->Res Fl):Nat->Nat->En->VH->Res Fl
 |0,_,_,_=>.no
 |f+1,i,ρ,h=>match nx i h with
  |none=>.no
  |some aE=>.ok (.nx ρ) h
  |some (aD w)=>match tg w h ρ with
   |none=>.no
   |some ρ=>(b ρ h).bind λfl h=>match fl with
    |.nx ρ=>dj nx tg b f (i+1) ρ h
    |.ct ρ=>dj nx tg b f (i+1) ρ h
    |.bk ρ=>.ok (.nx ρ) h
    |.rt w=>.ok (.rt w) h
noncomputable def fJ(c:En->VH->Res W)(b:En->VH->Res Fl):Nat->En->VH->Res Fl
 |0,_,_=>.no
 |f+1,ρ,h=>(c ρ h).bind λt h=>match t with
  |.bl false=>.ok (.nx ρ) h
  |.bl true=>(b ρ h).bind λfl h=>match fl with
   |.nx ρ=>fJ c b f ρ h
   |.ct ρ=>fJ c b f ρ h
   |.bk ρ=>.ok (.nx ρ) h
   |.rt w=>.ok (.rt w) h
  |_=>.no
noncomputable def uy:List W->Option (List (L2.Key×W))
 |[]=>aD []
 |k::v::r=>match rV k with
  |some k=>(match uy r with
   |some kvs=>aD ((k,v)::kvs)
   |none=>aE)
  |none=>aE
 |_=>aE
noncomputable def BC(kvs:List (L2.Key×W)):VO:=.dk (EV [] kvs)
noncomputable def rY(ρ:En)(a:Nat)(j:Int)(w:W)(h:VH):Res Fl:=match h.get a with|some (.dm kvs)=>if Nat.blt kvs.length big then .ok (.nx ρ) (h.set a (.dm (jZ kvs (.inl j) w)))else .no|_=>.no
noncomputable def j8(x y:W)(h:VH):Res Int:=match x,y with
 |.ref a,.int j=>(match h.get a with
  |some (.lst ws)=>(match L2.cZ ws j with
   |some (.int p)=>.ok p h
   |_=>.no)
  |_=>.no)
 |_,_=>.no
noncomputable def lu(ρ:En)(x y:W)(p:Int)(z:W)(h:VH):Res Fl:=match x,y,z with
 |.ref a,.int j,.int q=>(match h.get a with
  |some (.lst ws)=>(match L2.gR ws.length j with
   |some k=>.ok (.nx ρ) (h.set a (.lst (ws.set k (.int (p+q)))))
   |none=>.no)
  |_=>.no)
 |_,_,_=>.no
noncomputable abbrev Call:=Nat->List W->VH->Res W
noncomputable def ev(cl:Call):E->En->VH->Res W
 |.var i,ρ,h=>.of (ρ[i]?).join h
 |.cst w,_,h=>.ok w h
 |.nil,_,h=>.ok (.tup []) h
 |.cons a r,ρ,h=>(ev cl a ρ h).bind λx h=>(ev cl r ρ h).bind λy h=>match y with
  |.tup ys=>.ok (.tup (x::ys)) h
  |_=>.no
 |.tup a,ρ,h=>(ev cl a ρ h).bind λy h=>match y with
  |.tup ys=>if Nat.ble ys.length 1000 then .ok (.tup ys) h else .no
  |_=>.no
 |.lst a,ρ,h=>(ev cl a ρ h).bind λy h=>match y with
  |.tup ys=>if Nat.ble ys.length 1000 then .ok (.ref h.n) (h.new (.lst ys))else .no
  |_=>.no
 |.Bu a,ρ,h=>(ev cl a ρ h).bind λy h=>match y with
  |.tup ys=>(match uy ys with
   |some kvs=>if Nat.ble kvs.length 15 then .ok (.ref h.n) (h.new (BC kvs))else .no
   |none=>.no)
  |_=>.no
 |.op o a b,ρ,h=>(ev cl a ρ h).bind λx h=>(ev cl b ρ h).bind λy h=>gJ o x y h
 |.neg a,ρ,h=>(ev cl a ρ h).bind λx h=>match x with
  |.int i=>.ok (.int (-i)) h
  |_=>.no
 |.cmp c a b,ρ,h=>(ev cl a ρ h).bind λx h=>(ev cl b ρ h).bind λy h=>.of ((aU c h x y).map .bl) h
 |.wI c d a b e,ρ,h=>(ev cl a ρ h).bind λx h=>(ev cl b ρ h).bind λy h=>match aU c h x y with
  |some true=>(ev cl e ρ h).bind λz h=>.of ((aU d h y z).map .bl) h
  |some false=>.ok (.bl false) h
  |none=>.no
 |.not a,ρ,h=>(ev cl a ρ h).bind λx h=>match x with
  |.bl b=>.ok (.bl (!b)) h
  |_=>.no
 |.and a b,ρ,h=>(ev cl a ρ h).bind λx h=>match x with
  |.bl true=>ev cl b ρ h
  |.bl false=>.ok (.bl false) h
  |_=>.no
 |.or a b,ρ,h=>(ev cl a ρ h).bind λx h=>match x with
  |.bl true=>.ok (.bl true) h
  |.bl false=>ev cl b ρ h
  |_=>.no
 |.jo a,ρ,h=>(ev cl a ρ h).bind λx h=>.of ((mX h x).map .bl) h
 |.ite c a b,ρ,h=>(ev cl c ρ h).bind λx h=>match x with
  |.bl true=>ev cl a ρ h
  |.bl false=>ev cl b ρ h
  |_=>.no
 |.idx a b,ρ,h=>(ev cl a ρ h).bind λx h=>(ev cl b ρ h).bind λy h=>.of (bM h x y) h
 |.slc a bl lo bh hi,ρ,h=>(ev cl a ρ h).bind λx h=>(ev cl lo ρ h).bind λl h=>(ev cl hi ρ h).bind λu h=>match eG bl l,eG bh u with
  |some l,aD u=>j5 x l u h
  |_,_=>.no
 |.call f a,ρ,h=>(ev cl a ρ h).bind λy h=>match y with
  |.tup ys=>cl f ys h
  |_=>.no
 |.bi b a,ρ,h=>(ev cl a ρ h).bind λy h=>match y with
  |.tup ys=>jC b ys h
  |_=>.no
 |.rT t a,ρ,h=>(ev cl a ρ h).bind λx h=>.of ((dU t h x).map .bl) h
 |.mt m o a,ρ,h=>(ev cl o ρ h).bind λx h=>if BB m h x then(ev cl a ρ h).bind λy h=>match y with
  |.tup ys=>wL m x ys h
  |_=>.no
  else .no
 |.lc k a t ow ix c e,ρ,h=>(ev cl a ρ h).bind λx h=>(gp (bg k x) (bH t) (ev cl c) (ev cl e) fuel 0 (inner ow ix ρ) h []).bind λys h=>if Nat.ble ys.length big then .ok (.ref h.n) (h.new (.lst ys))else .no
 |.oQ k a t ow ix c k2 a2 t2 c2 e,ρ,h=>(ev cl a ρ h).bind λx h=>(kH (bg k x) (bH t) (ev cl c) (λρ h acc=>(ev cl a2 ρ h).bind λy h=>i7 (bg k2 y) (bH t2) (ev cl c2) (ev cl e) fuel 0 ρ h acc) fuel 0 (inner ow ix ρ) h []).bind λys h=>if Nat.ble ys.length big then .ok (.ref h.n) (h.new (.lst ys))else .no
noncomputable def exs(cl:Call):S->En->VH->Res Fl
 |.skip,ρ,h=>.ok (.nx ρ) h
 |.seq a b,ρ,h=>(exs cl a ρ h).bind λfl h=>match fl with
  |.nx ρ=>exs cl b ρ h
  |fl=>.ok fl h
 |.set i e,ρ,h=>(ev cl e ρ h).bind λw h=>.ok (.nx (ρ.set i (aD w))) h
 |.Bv is e,ρ,h=>(ev cl e ρ h).bind λw h=>.of ((bH (.many is) w h ρ).map .nx) h
 |.aug i o e,ρ,h=>match(ρ[i]?).join with
  |some x=>(ev cl e ρ h).bind λy h=>(yM o x y h).bind λz h=>.ok (.nx (ρ.set i (aD z))) h
  |none=>.no
 |.put o i v,ρ,h=>(ev cl v ρ h).bind λw h=>(ev cl o ρ h).bind λx h=>(ev cl i ρ h).bind λy h=>match x,y with
  |.ref a,.int j=>(match h.get a with
   |some (.lst ws)=>(match L2.gR ws.length j with
    |some k=>.ok (.nx ρ) (h.set a (.lst (ws.set k w)))
    |none=>.no)
   |_=>rY ρ a j w h)
  |_,_=>.no
 |.Bw o i e,ρ,h=>(ev cl o ρ h).bind λx h=>(ev cl i ρ h).bind λy h=>(j8 x y h).bind λp h=>(ev cl e ρ h).bind λz h=>lu ρ x y p z h
 |.ite c a b,ρ,h=>(ev cl c ρ h).bind λx h=>match x with
  |.bl true=>exs cl a ρ h
  |.bl false=>exs cl b ρ h
  |_=>.no
 |.ret e,ρ,h=>(ev cl e ρ h).bind λw h=>.ok (.rt w) h
 |.expr e,ρ,h=>(ev cl e ρ h).bind λ_ h=>.ok (.nx ρ) h
 |.brk,ρ,h=>.ok (.bk ρ) h
 |.cnt,ρ,h=>.ok (.ct ρ) h
 |.for k a t b,ρ,h=>(ev cl a ρ h).bind λx h=>dj (bg k x) (bH t) (exs cl b) fuel 0 ρ h
 |.EU c b,ρ,h=>fJ (ev cl c) (exs cl b) fuel ρ h
 |.no,_,_=>.no
structure Fn where
 ps:Nat
 n:Nat
 body:S
noncomputable def leave(h:VH)(w:W)(h':VH):Res W:=
 if Nat.ble h.n h'.lo&&W.lt h.n w then .ok w h else .ok w ⟨h'.n,if Nat.ble h.lo h'.lo then h.lo else h'.lo,h'.os⟩
noncomputable def run(F:Nat->Option Fn):Nat->Call
 |0,_,_,_=>.no
 |k+1,f,ws,h=>match F f with
  |some fn=>if Nat.beq ws.length fn.ps then
   (exs (run F k) fn.body (ws.map aD++bD (fn.n-fn.ps) aE) ⟨h.n,h.n,h.os⟩).bind λfl h'=>match fl with|.nx _=>leave h .aQ h'|.rt w=>leave h w h'|_=>.no
   else .no
  |none=>.no
open L2 PyProof.Rows PySem.Spec
noncomputable def Fz(K:aK)(H:Hp)(a:ah)(xs:List V):Prop:=
 (∃o,H a=aD (.bL o (.lst xs)))\/∃(o:Obj) (its:Array aa) (n:Nat),K.lookup a=aD o/\o.cls=.type "list"/\o.dict=aE/\o.data=.seq its n/\its.size<=sizeLine/\Vals xs its.toList
theorem Fz.sq{K:aK}{H:Hp}{a:ah}{xs:List V}(h:Fz K H a xs):cC K H a xs:=h.elim (λ⟨o,q⟩=>.inl (.inr ⟨o,q⟩)) .inr
mutual
inductive aL(K:aK)(m:Nat->ah)(n:Nat)(H:Hp):V->W->Prop
 |aQ:aL K m n H .aQ .aQ
 |bl (b:Bool):aL K m n H (.bl b) (.bl b)
 |int (i:Int):aL K m n H (.int i) (.int i)
 |str (x:Str):aL K m n H (.str x) (.str x)
 |tup {a:ah} {vs:List V} {ws:List W}:bX K H a vs->aG K m n H vs ws->aL K m n H (.ref a) (.tup ws)
 |fz {a:ah} {vs:List V} {ws:List W}:Fz K H a vs->aG K m n H vs ws->aL K m n H (.ref a) (.fz ws)
 |ref {i:Nat}:i<n->aL K m n H (.ref (m i)) (.ref i)
inductive aG(K:aK)(m:Nat->ah)(n:Nat)(H:Hp):List V->List W->Prop
 |nil:aG K m n H [] []
 |cons {v:V} {w:W} {vs:List V} {ws:List W}:aL K m n H v w->aG K m n H vs ws->aG K m n H (v::vs) (w::ws)
end
inductive aP(K:aK)(m:Nat->ah)(n:Nat)(H:Hp):List (Key×V)->List (Key×W)->Prop
 |nil:aP K m n H [] []
 |cons {k:Key} {v:V} {w:W} {vs:List (Key×V)} {ws:List (Key×W)}:aL K m n H v w->aP K m n H vs ws->aP K m n H ((k,v)::vs) ((k,w)::ws)
noncomputable def gA(K:aK)(m:Nat->ah)(n:Nat)(H:Hp)(a:ah):VO->Prop|.lst ws=>∃vs,H a=aD (.lst vs)/\aG K m n H vs ws|.dk kvs=>∃kv,Rd H a (.dK kv)/\aP K m n H kv kvs|.dm kvs=>∃kv,H a=aD (.dK kv)/\aP K m n H kv kvs
structure Rel(K:aK)(m:Nat->ah)(h:VH)(H:Hp):Prop where
 obj:∀i,i<h.n->∃o,h.get i=aD o/\gA K m h.n H (m i) o
 inj:∀i j,i<h.n->j<h.n->m i=m j->i=j
 len:h.os.length=h.n
structure bQ(m:Nat->ah)(n:Nat)(H:Hp)(m':Nat->ah)(n':Nat)(H':Hp):Prop where
 le:n<=n'
 same:∀i,i<n->m' i=m i
 new:∀i,n<=i->i<n'->H (m' i)=aE
 apart:∀i j,n<=i->i<n'->j<n->m' i≠m' j
 tup:∀b vs,H b=aD (.tup vs)->H' b=aD (.tup vs)
 bL:∀b o u,H b=aD (.bL o u)->H' b=aD (.bL o u)
 keep:∀b o,(∀i,i<n->m i≠b)->H b=aD o->H' b=aD o
section
variable{K:aK}{m m' m1 m2:Nat->ah}{n n' n1 n2:Nat}{h h':VH}{H H' H1 H2:Hp}
theorem bQ.refl:bQ m n H m n H:=⟨aT _,λ_ _=>rfl,λi a b=>absurd b (jH.mpr a),λi j a b=>absurd b (jH.mpr a),λ_ _ q=>q,λ_ _ _ q=>q,λ_ _ _ q=>q⟩
theorem bQ.trans(a:bQ m n H m1 n1 H1)(b:bQ m1 n1 H1 m2 n2 H2):bQ m n H m2 n2 H2 where
 le:=ie a.le b.le
 same:=λi hi=>(b.same i (dP hi a.le)).trans (a.same i hi)
 new:=λi hi hi2=>by
  by_cases hc:i<n1;rw[b.same i hc];exact a.new i hi hc;have hc:=jH.mp hc;cases q:H (m2 i)with
  |none=>rfl
  |some o=>
   have q1:H1 (m2 i)=aE:=b.new i hc hi2;rw[a.keep _ o (λj hj z=>b.apart i j hc hi2 (dP hj a.le) ((b.same j (dP hj a.le)).trans ((a.same j hj).trans z)).symm) q]at q1;cases q1
 apart:=λi j hi hi2 hj=>by
  by_cases hc:i<n1;rw[b.same i hc,b.same j (dP hj a.le)];exact a.apart i j hi hc hj;exact b.apart i j (jH.mp hc) hi2 (dP hj a.le)
 tup:=λc vs q=>b.tup c vs (a.tup c vs q)
 bL:=λc o u q=>b.bL c o u (a.bL c o u q)
 keep:=λc o hc q=>b.keep c o (λi hi=>by
  by_cases hl:i<n;rw[a.same i hl];exact hc i hl;intro z;have:=a.new i (jH.mp hl) hi;rw[z,q]at this;cases this) (a.keep c o hc q)
theorem bQ.Ww{a:ah}{vs:List V}(s:bQ m n H m' n' H')(q:bX K H a vs):bX K H' a vs:=by rcases q with(q|⟨o,q⟩)|q;exact .inl (.inl (s.tup _ _ q));exact .inl (.inr ⟨o,s.bL _ _ _ q⟩);exact .inr q
theorem bQ.fz{a:ah}{vs:List V}(s:bQ m n H m' n' H')(q:Fz K H a vs):Fz K H' a vs:=by rcases q with⟨o,q⟩|q;exact .inl ⟨o,s.bL _ _ _ q⟩;exact .inr q
mutual
theorem aL.stp(s:bQ m n H m' n' H'):∀{v:V} {w:W},aL K m n H v w->aL K m' n' H' v w|_,_,.aQ=>.aQ|_,_,.bl b=>.bl b|_,_,.int b=>.int b|_,_,.str b=>.str b|_,_,.tup q r=>.tup (s.Ww q) (aG.stp s r)|_,_,.fz q r=>.fz (s.fz q) (aG.stp s r)|_,_,.ref (i:=i) q=>by rw[<-s.same i q];exact .ref (dP q s.le)
theorem aG.stp(s:bQ m n H m' n' H'):∀{vs:List V} {ws:List W},aG K m n H vs ws->aG K m' n' H' vs ws|_,_,.nil=>.nil|_,_,.cons q r=>.cons (aL.stp s q) (aG.stp s r)
end
theorem aP.stp(s:bQ m n H m' n' H'):∀{vs:List (Key×V)} {ws:List (Key×W)},aP K m n H vs ws->aP K m' n' H' vs ws|_,_,.nil=>.nil|_,_,.cons q r=>.cons (q.stp s) (aP.stp s r)
theorem aG.length:∀{vs:List V} {ws:List W},aG K m n H vs ws->vs.length=ws.length|_,_,.nil=>rfl|_,_,.cons _ r=>by rw[fD,fD,aG.length r]
theorem aG.get:∀{vs:List V} {ws:List W} {i:Nat} {w:W},aG K m n H vs ws->ws[i]?=aD w->∃v,vs[i]?=aD v/\aL K m n H v w
 |_,_,_,_,.nil,e=>by simp at e
 |_,_,0,_,.cons q _,e=>by simp at e;subst e;exact⟨_,rfl,q⟩
 |_,_,i+1,w,.cons _ r,e=>by
  obtain⟨v,h1,h2⟩:=aG.get (i:=i) (w:=w) r (by simpa using e);exact⟨v,by simpa using h1,h2⟩
theorem aG.append:∀{vs us:List V} {ws zs:List W},aG K m n H vs ws->aG K m n H us zs->aG K m n H (vs++us) (ws++zs)|_,_,_,_,.nil,r=>r|_,_,_,_,.cons q r,t=>.cons q (aG.append r t)
theorem aG.drop:∀(k:Nat) {vs:List V} {ws:List W},aG K m n H vs ws->aG K m n H (vs.drop k) (ws.drop k)|0,_,_,r=>r|_+1,_,_,.nil=>.nil|k+1,_,_,.cons _ r=>aG.drop k r
theorem aG.take:∀(k:Nat) {vs:List V} {ws:List W},aG K m n H vs ws->aG K m n H (vs.take k) (ws.take k)|0,_,_,r=>.nil|_+1,_,_,.nil=>.nil|k+1,_,_,.cons q r=>.cons q (aG.take k r)
theorem aG.set{v:V}{w:W}(q:aL K m n H v w):∀(k:Nat) {vs:List V} {ws:List W},aG K m n H vs ws->aG K m n H (vs.set k v) (ws.set k w)|_,_,_,.nil=>.nil|0,_,_,.cons _ r=>.cons q r|k+1,_,_,.cons p r=>.cons p (aG.set q k r)
theorem gA.stp{a:ah}{o:VO}(s:bQ m n H m' n' H')(e:H' a=H a)(q:gA K m n H a o):gA K m' n' H' a o:=by
 cases o with|lst ws=>obtain⟨vs,h1,h2⟩:=q;exact⟨vs,e.trans h1,h2.stp s⟩|dk ws=>obtain⟨vs,h1,h2⟩:=q;exact⟨vs,h1.imp (λz=>e.trans z) λ⟨o,z⟩=>⟨o,e.trans z⟩,h2.stp s⟩|dm ws=>obtain⟨vs,h1,h2⟩:=q;exact⟨vs,e.trans h1,h2.stp s⟩
theorem gA.some{a:ah}{o:VO}(q:gA K m n H a o):∃u,H a=aD u:=by
 cases o with
 |lst ws=>obtain⟨vs,h1,h2⟩:=q;exact⟨_,h1⟩
 |dk ws=>
  obtain⟨vs,h1,h2⟩:=q;rcases h1 with h1|⟨o,h1⟩<;>exact⟨_,h1⟩
 |dm ws=>obtain⟨vs,h1,h2⟩:=q;exact⟨_,h1⟩
theorem i8{i j:Nat}:Nat.blt i j=true↔i<j:=by unfold Nat.blt;rw[qK];exact Iff.rfl
theorem bT{i:Nat}{o:VO}(q:h.get i=aD o):i<h.n:=by unfold VH.get at q;split at q;rename_i z;exact i8.mp z;cases q
theorem Rel.at_(r:Rel K m h H){i:Nat}{o:VO}(q:h.get i=aD o):gA K m h.n H (m i) o:=by obtain⟨o',h1,h2⟩:=r.obj i (bT q);rw[q]at h1;cases h1;exact h2
theorem Rel.lst(r:Rel K m h H){i:Nat}{ws:List W}(q:h.get i=aD (.lst ws)):∃vs,H (m i)=aD (.lst vs)/\aG K m h.n H vs ws:=r.at_ q
theorem Rel.dk(r:Rel K m h H){i:Nat}{ws:List (Key×W)}(q:h.get i=aD (.dk ws)):∃vs,Rd H (m i) (.dK vs)/\aP K m h.n H vs ws:=r.at_ q
theorem Rel.dm(r:Rel K m h H){i:Nat}{ws:List (Key×W)}(q:h.get i=aD (.dm ws)):∃vs,H (m i)=aD (.dK vs)/\aP K m h.n H vs ws:=r.at_ q
theorem eK{i:Nat}{o:VO}(hi:i<h.n):(h.new o).get i=h.get i:=by
 unfold VH.get VH.new;have h1:Nat.blt i (h.n+1)=true:=i8.mpr (tQ hi);have h2:Nat.blt i h.n=true:=i8.mpr hi;simp only[h1,h2,bZ];have:h.n+1-1-i=(h.n-1-i)+1:=by lia
 rw[this];rfl
theorem eB{o:VO}:(h.new o).get h.n=aD o:=by
 unfold VH.get VH.new;have h1:Nat.blt h.n (h.n+1)=true:=i8.mpr (iT _);simp only[h1,bZ];have:h.n+1-1-h.n=0:=by lia
 rw[this];rfl
theorem Rel.alloc(r:Rel K m h H){p:ah}{o:VO}{u:HO}(hp:H p=aE)(hu:∀t,u≠.tup t)
 (ho:bQ m h.n H (λi=>if i=h.n then p else m i) (h.n+1) (upd H p u)->gA K (λi=>if i=h.n then p else m i) (h.n+1) (upd H p u) p o) :
 bQ m h.n H (λi=>if i=h.n then p else m i) (h.n+1) (upd H p u)/\Rel K (λi=>if i=h.n then p else m i) (h.new o) (upd H p u):=by
 have tr:∀i,i<h.n->m i≠p:=λi hi z=>by
  obtain⟨o',_,h2⟩:=r.obj i hi;obtain⟨u',h3⟩:=h2.some;rw[z,hp]at h3;cases h3
 have st:bQ m h.n H (λi=>if i=h.n then p else m i) (h.n+1) (upd H p u):=by
  refine⟨tS _,λi hi=>by simp only[if_neg (fR hi)],λi hi hi2=>?_,λi j hi hi2 hj=>?_,λb vs q=>?_,λb o u q=>?_,λb o _ q=>?_⟩;have:i=h.n:=by lia
  subst this;simp only[bZ];exact hp;have:i=h.n:=by lia
  subst this;simp only[bZ,if_neg (fR hj)];exact(tr j hj).symm;rw[bV (gY q hp)];exact q;rw[bV (gY q hp)];exact q;rw[bV (gY q hp)];exact q
 refine⟨st,⟨λi hi=>?_,λi j hi hj z=>?_,?_⟩⟩;have hi:i<h.n+1:=hi;by_cases e:i=h.n;subst e;exact⟨o,eB,by simp only[bZ];exact ho st⟩;have hl:i<h.n:=by lia
 obtain⟨o',h1,h2⟩:=r.obj i hl;refine⟨o',(eK hl).trans h1,?_⟩;simp only[if_neg e];exact gA.stp st (bV (tr i hl)) h2;have hi:i<h.n+1:=hi;have hj:j<h.n+1:=hj;by_cases e:i=h.n;by_cases e2:j=h.n;lia;simp only[if_pos e,if_neg e2]at z;exact absurd z.symm (tr j (by lia));by_cases e2:j=h.n;simp only[if_neg e,if_pos e2]at z;exact absurd z (tr i (by lia));simp only[if_neg e,if_neg e2]at z;exact r.inj i j (by lia) (by lia) z;show(o::h.os).length=h.n+1;rw[fD,r.len]
theorem Wx(r:Rel K m h H){i:Nat}{o:VO}(hi:i<h.n):(h.set i o).get i=aD o:=by unfold VH.get VH.set;have h1:Nat.blt i h.n=true:=i8.mpr hi;simp only[h1,bZ];rw[nQ];rw[r.len];lia
theorem gZ{i j:Nat}{o:VO}(hi:i<h.n)(hj:j≠i):(h.set i o).get j=h.get j:=by
 unfold VH.get VH.set;by_cases h1:j<h.n;have h2:Nat.blt j h.n=true:=i8.mpr h1;simp only[h2,bZ];rw[ye];lia;have h2:Nat.blt j h.n=false:=by
  cases q:Nat.blt j h.n with|false=>rfl|true=>exact absurd (i8.mp q) h1
 simp only[h2,dZ,dF]
theorem Rel.write(r:Rel K m h H){i:Nat}{o:VO}{u u0:HO}(hi:i<h.n)(h0:H (m i)=aD u0)(hn:∀t,u0≠.tup t)(hf:∀o t,u0≠.bL o t)
 (ho:bQ m h.n H m h.n (upd H (m i) u)->gA K m h.n (upd H (m i) u) (m i) o) :
 bQ m h.n H m h.n (upd H (m i) u)/\Rel K m (h.set i o) (upd H (m i) u):=by
 have st:bQ m h.n H m h.n (upd H (m i) u):=by refine⟨aT _,λ_ _=>rfl,λj a b=>absurd b (jH.mpr a),λj k a b=>absurd b (jH.mpr a),λb vs q=>?_,λb o t q=>?_,λb o nb q=>?_⟩;rw[bV (cP q h0 (λz=>hn vs z.symm))];exact q;rw[bV (cP q h0 (λz=>hf o t z.symm))];exact q;rw[bV (nb i hi).symm];exact q
 refine⟨st,⟨λj hj=>?_,λa b ha hb=>r.inj a b ha hb,?_⟩⟩;have hj:j<h.n:=hj;by_cases e:j=i;subst e;exact⟨o,Wx r hj,ho st⟩;obtain⟨o',h1,h2⟩:=r.obj j hj;exact⟨o',(gZ hi e).trans h1,gA.stp st (bV λz=>e (r.inj j i hj hi z)) h2⟩;show(h.os.set _ o).length=h.n;rw[vE,r.len]
theorem Rel.more(r:Rel K m h H){p:ah}{u:HO}(hp:H p=aE):bQ m h.n H m h.n (upd H p u)/\Rel K m h (upd H p u):=by
 have st:bQ m h.n H m h.n (upd H p u):=by refine⟨aT _,λ_ _=>rfl,λj a b=>absurd b (jH.mpr a),λj k a b=>absurd b (jH.mpr a),λb vs q=>?_,λb o t q=>?_,λb o nb q=>?_⟩;rw[bV (gY q hp)];exact q;rw[bV (gY q hp)];exact q;rw[bV (gY q hp)];exact q
 refine⟨st,⟨λj hj=>?_,r.inj,r.len⟩⟩;obtain⟨o',h1,h2⟩:=r.obj j hj;obtain⟨u',h3⟩:=h2.some;exact⟨o',h1,gA.stp st (bV (gY h3 hp)) h2⟩
end
theorem OW{α β:Type}{r:Res α}{f:α->VH->Res β}{b:β}{h':VH}(q:r.bind f=.ok b h'):∃a h1,r=.ok a h1/\f a h1=.ok b h':=by
 cases r with|ok a h=>exact⟨a,h,rfl,q⟩|ex x h=>cases q|no=>cases q
theorem bP{α β:Type}{r:Res α}{f:α->VH->Res β}{w:β}{h':VH}{P:Prop}(e:r.bind f=.ok w h')(k:∀x h1,r=.ok x h1->f x h1=.ok w h'->P):P:=by obtain⟨x,h1,a,b⟩:=OW e;exact k x h1 a b
theorem of_ok{α:Type}{o:Option α}{h h':VH}{a:α}(q:Res.of o h=.ok a h'):o=aD a/\h'=h:=by
 cases o with|none=>cases q|some b=>cases q;exact⟨rfl,rfl⟩
structure Fr(K:aK)(m:Nat->ah)(n:Nat)(H:Hp)(σ:L2.St)(ρ:En):Prop where
 len:σ.length=ρ.length
 val:∀(i:Nat)(w:W),ρ[i]?=aD (aD w)->∃v,σ[i]?=aD (aD v)/\aL K m n H v w
noncomputable abbrev FE:=En->VH->Res W
noncomputable abbrev FS:=En->VH->Res Fl
noncomputable def gu(K:aK)(f:FE):TE:=λσ H Q=>∃ρ h m w h',Fr K m h.n H σ ρ/\Rel K m h H/\f ρ h=.ok w h'/\
 ∀v H' m',bQ m h.n H m' h'.n H'->Rel K m' h' H'->aL K m' h'.n H' v w->Q v H'
noncomputable def dz(K:aK)(f:FE):TT:=λσ H Q=>∃ρ h m b h',Fr K m h.n H σ ρ/\Rel K m h H/\f ρ h=.ok (.bl b) h'/\
 ∀H' m',bQ m h.n H m' h'.n H'->Rel K m' h' H'->Q b H'
noncomputable def m9(K:aK)(f:FE):TA:=λσ H Q=>∃ρ h m ws h',Fr K m h.n H σ ρ/\Rel K m h H/\f ρ h=.ok (.tup ws) h'/\
 ∀vs H' m',bQ m h.n H m' h'.n H'->Rel K m' h' H'->aG K m' h'.n H' vs ws->Q vs H'
section
variable{K:aK}{m:Nat->ah}{σ:L2.St}{H:Hp}{P:Prop}{fa:FE}{ρ:En}{h h':VH}
theorem gu.el{Q:VK}(q:gu K fa σ H Q)(k:∀ρ h m w h',Fr K m h.n H σ ρ->Rel K m h H->fa ρ h=.ok w h'->(∀v H' m',bQ m h.n H m' h'.n H'->Rel K m' h' H'->aL K m' h'.n H' v w->Q v H')->P):P:=by obtain⟨ρ,h,m,w,h',f,r,e,k'⟩:=q;exact k ρ h m w h' f r e k'
theorem gu.mk{Q:VK}{w:W}(f:Fr K m h.n H σ ρ)(r:Rel K m h H)(e:fa ρ h=.ok w h')(k:∀v H' m',bQ m h.n H m' h'.n H'->Rel K m' h' H'->aL K m' h'.n H' v w->Q v H'):gu K fa σ H Q:=⟨ρ,h,m,w,h',f,r,e,k⟩
theorem dz.el{Q:Bool->Hp->Prop}(q:dz K fa σ H Q)(k:∀ρ h m b h',Fr K m h.n H σ ρ->Rel K m h H->fa ρ h=.ok (.bl b) h'->(∀H' m',bQ m h.n H m' h'.n H'->Rel K m' h' H'->Q b H')->P):P:=by obtain⟨ρ,h,m,w,h',f,r,e,k'⟩:=q;exact k ρ h m w h' f r e k'
theorem dz.mk{Q:Bool->Hp->Prop}{b:Bool}(f:Fr K m h.n H σ ρ)(r:Rel K m h H)(e:fa ρ h=.ok (.bl b) h')(k:∀H' m',bQ m h.n H m' h'.n H'->Rel K m' h' H'->Q b H'):dz K fa σ H Q:=⟨ρ,h,m,b,h',f,r,e,k⟩
theorem m9.el{Q:List V->Hp->Prop}(q:m9 K fa σ H Q)(k:∀ρ h m ws h',Fr K m h.n H σ ρ->Rel K m h H->fa ρ h=.ok (.tup ws) h'->(∀vs H' m',bQ m h.n H m' h'.n H'->Rel K m' h' H'->aG K m' h'.n H' vs ws->Q vs H')->P):P:=by obtain⟨ρ,h,m,w,h',f,r,e,k'⟩:=q;exact k ρ h m w h' f r e k'
theorem m9.mk{Q:List V->Hp->Prop}{ws:List W}(f:Fr K m h.n H σ ρ)(r:Rel K m h H)(e:fa ρ h=.ok (.tup ws) h')(k:∀vs H' m',bQ m h.n H m' h'.n H'->Rel K m' h' H'->aG K m' h'.n H' vs ws->Q vs H'):m9 K fa σ H Q:=⟨ρ,h,m,ws,h',f,r,e,k⟩
end
noncomputable abbrev SE(X:Cx)(e:ao)(f:FE):Prop:=PE X e (gu X.K f)
noncomputable abbrev ST(X:Cx)(e:ao)(f:FE):Prop:=PT X e (dz X.K f)
noncomputable abbrev SW(X:Cx)(e:ao)(f:FE):Prop:=PW X e (dz X.K f)
noncomputable abbrev SA(X:Cx)(es:List ao)(f:FE):Prop:=PA X es (m9 X.K f)
theorem _root_.L2.PE.imp{X:Cx}{e:ao}{t t':TE}(h:PE X e t)(k:∀σ H Q,t' σ H Q->t σ H Q):PE X e t':=λpins s σ H Q I q=>h pins s σ H Q I (k σ H Q q)
theorem _root_.L2.PT.imp{X:Cx}{e:ao}{t t':TT}(h:PT X e t)(k:∀σ H Q,t' σ H Q->t σ H Q):PT X e t':=λpins s σ H Q I q=>h pins s σ H Q I (k σ H Q q)
theorem _root_.L2.PW.imp{X:Cx}{e:ao}{t t':TT}(h:PW X e t)(k:∀σ H Q,t' σ H Q->t σ H Q):PW X e t':=λwh pins s σ H Q I q=>h wh pins s σ H Q I (k σ H Q q)
theorem _root_.L2.PA.imp{X:Cx}{es:List ao}{t t':TA}(h:PA X es t)(k:∀σ H Q,t' σ H Q->t σ H Q):PA X es t':=λp pins s σ H Q I q=>h p pins s σ H Q I (k σ H Q q)
theorem _root_.L2.PS.imp{X:Cx}{st:au}{t t':TS}(h:PS X st t)(k:∀D σ H,t' D σ H->t D σ H):PS X st t':=λpins s σ H D I q=>h pins s σ H D I (k D σ H q)
theorem _root_.L2.kD.imp{X:Cx}{st:List au}{t t':TS}(h:kD X st t)(k:∀D σ H,t' D σ H->t D σ H):kD X st t':=λpins s σ H D I q=>h pins s σ H D I (k D σ H q)
section
variable{K:aK}{m m':Nat->ah}{n n':Nat}{h h':VH}{H H':Hp}{σ:L2.St}{ρ:En}
theorem Fr.stp(f:Fr K m n H σ ρ)(s:bQ m n H m' n' H'):Fr K m' n' H' σ ρ:=⟨f.len,λi w e=>let⟨v,h1,h2⟩:=f.val i w e;⟨v,h1,h2.stp s⟩⟩
theorem Fr.set(f:Fr K m n H σ ρ){v:V}{w:W}(q:aL K m n H v w)(i:Nat):Fr K m n H (σ.set i (aD v)) (ρ.set i (aD w)):=by refine⟨by rw[vE,vE];exact f.len,λj w' e=>?_⟩;by_cases hj:i=j;subst hj;by_cases hl:i<ρ.length;rw[nQ hl]at e;cases e;exact⟨v,by rw[nQ (by rw[f.len];exact hl)],q⟩;rw[nG (by rw[vE];lia)]at e;cases e;rw[ye hj]at e;obtain⟨v',h1,h2⟩:=f.val j w' e;exact⟨v',by rw[ye hj];exact h1,h2⟩
noncomputable def aN(K:aK)(m:Nat->ah)(n:Nat)(H:Hp)(w:W)(h':VH)(Q:VK):Prop:=∀v H' m',bQ m n H m' h'.n H'->Rel K m' h' H'->aL K m' h'.n H' v w->Q v H'
theorem aN.here{w:W}{Q:VK}(k:aN K m h.n H w h Q)(r:Rel K m h H){v:V}(q:aL K m h.n H v w):Q v H:=k v H m .refl r q
theorem aN.list{ws:List W}{vs:List V}{Q:VK}(k:aN K m h.n H (.ref h.n) (h.new (.lst ws)) Q)(r:Rel K m h H)(q:aG K m h.n H vs ws){p:ah}(hp:H p=aE):Q (.ref p) (upd H p (.lst vs)):=by obtain⟨st,r'⟩:=r.alloc (o:=.lst ws) (u:=.lst vs) hp (λ_ z=>nomatch z) (λst=>⟨vs,iu,q.stp st⟩);refine k _ _ _ st r' ?_;have:aL K (λi=>if i=h.n then p else m i) (h.n+1) (upd H p (.lst vs)) (.ref ((λi=>if i=h.n then p else m i) h.n)) (.ref h.n):=.ref (iT _);simp only[bZ]at this;exact this
theorem aN.tuple{ws:List W}{vs:List V}{Q:VK}(k:aN K m h.n H (.tup ws) h Q)(r:Rel K m h H)(q:aG K m h.n H vs ws){p:ah}(hp:H p=aE):Q (.ref p) (upd H p (.tup vs)):=by obtain⟨st,r'⟩:=r.more (u:=.tup vs) hp;exact k _ _ _ st r' (.tup (bX.of iu) (q.stp st))
theorem OX{fa:FE}{g:W->VH->Res W}{G:V->Hp->VK->Prop}
 (hG:∀(m:Nat->ah)(h:VH)(H:Hp)(v:V)(x w:W)(h':VH)(Q:VK),Rel K m h H->aL K m h.n H v x->g x h=.ok w h'->aN K m h.n H w h' Q->G v H Q) {Q:VK}
 (q:gu K (λρ h=>(fa ρ h).bind λx h=>g x h) σ H Q):gu K fa σ H λv H1=>G v H1 Q:=by
 refine q.el λρ h m w h' f r e k=>?_;refine bP e λx h1 e1 e2=>?_;exact(.mk f r e1 λv H1 m1 s1 r1 q1=>hG m1 h1 H1 v x w h' Q r1 q1 e2 λv' H' m' s' r' q'=>k v' H' m' (s1.trans s') r' q')
theorem EW{fa fb:FE}{g:W->W->VH->Res W}{G:V->V->Hp->VK->Prop}
 (hG:∀(m:Nat->ah)(h:VH)(H:Hp)(v u:V)(x y w:W)(h':VH)(Q:VK),Rel K m h H->aL K m h.n H v x->aL K m h.n H u y->g x y h=.ok w h'->aN K m h.n H w h' Q->G v u H Q) {Q:VK}
 (q:gu K (λρ h=>(fa ρ h).bind λx h=>(fb ρ h).bind λy h=>g x y h) σ H Q):gu K fa σ H λv H1=>gu K fb σ H1 λu H2=>G v u H2 Q:=by
 refine q.el λρ h m w h' f r e k=>?_;refine bP e λx h1 e1 e2=>?_;refine bP e2 λy h2 e3 e4=>?_;refine(.mk f r e1 λv H1 m1 s1 r1 q1=>(.mk (f.stp s1) r1 e3 λu H2 m2 s2 r2 q2=>?_));exact hG m2 h2 H2 v u x y w h' Q r2 (q1.stp s2) q2 e4 λv' H' m' s' r' q'=>k v' H' m' ((s1.trans s2).trans s') r' q'
theorem wM{fa:FE}{g:List W->VH->Res W}{G:List V->Hp->VK->Prop}
 (hG:∀(m:Nat->ah)(h:VH)(H:Hp)(vs:List V)(xs:List W)(w:W)(h':VH)(Q:VK),Rel K m h H->aG K m h.n H vs xs->g xs h=.ok w h'->aN K m h.n H w h' Q->G vs H Q) {Q:VK}
 (q:gu K (λρ h=>(fa ρ h).bind λy h=>match y with|.tup ys=>g ys h|_=>.no) σ H Q):m9 K fa σ H λvs H1=>G vs H1 Q:=by
 refine q.el λρ h m w h' f r e k=>?_;refine bP e λx h1 e1 e2=>?_;cases x with|tup ys=>exact(.mk f r e1 λvs H1 m1 s1 r1 q1=>hG m1 h1 H1 vs ys w h' Q r1 q1 e2 λv' H' m' s' r' q'=>k v' H' m' (s1.trans s') r' q')|_=>cases e2
theorem OY{f:FE}{Q:Bool->Hp->Prop}(q:dz K f σ H Q):gu K f σ H λx H'=>∃k,x=.bl k/\Q k H':=by refine q.el λρ h m b h' f r e k=>?_;exact(.mk f r e λv H' m' s' r' q'=>by cases q';exact⟨b,rfl,k H' m' s' r'⟩)
end
section
variable{X:Cx}{a b c e:ao}{es:List ao}{fa fb fc:FE}{pos:Pos}
theorem Wy{i:Nat}{x:Str}{pos:Pos}(hN:X.N[i]?=aD x)(hv:yw X.env.scope x)(hd:(x==("__debug__" : Str))=false)(hcd:(x==("__classdict__" : Str))=false):SE X (.Name x pos) (λρ h=>.of (ρ[i]?).join h):=
 (Sg hN hv hd hcd).imp λσ H Q z9=>z9.el λρ h m w h' f r e k=>by
   obtain⟨e1,e2⟩:=of_ok e;subst e2;have e3:ρ[i]?=aD (aD w):=by
    cases q:ρ[i]? with|none=>rw[q]at e1;cases e1|some o=>rw[q]at e1;rw[<-e1];rfl
   obtain⟨v,h1,h2⟩:=f.val i w e3;exact⟨v,h1,k v H m .refl r h2⟩
theorem BD{w:W}{v:V}(h:PE X e (tC v))(hv:∀m n H,aL X.K m n H v w):SE X e (λ_ h=>.ok w h):=
 h.imp λσ H Q z9=>z9.el λρ h m w h' f r e k=>by cases e;exact k v H m .refl r (hv m h.n H)
theorem Wz{i j pos}:SE X (.Constant (.int i) j pos) (λ_ h=>.ok (.int i) h):=BD Sh λ_ _ _=>.int i
theorem BE{i j pos}:SE X (.Constant (.bool i) j pos) (λ_ h=>.ok (.bl i) h):=BD zQ λ_ _ _=>.bl i
theorem WA{j pos}:SE X (.Constant .none j pos) (λ_ h=>.ok .aQ h):=BD Si λ_ _ _=>.aQ
theorem WB{i j pos}:SE X (.Constant (.str i) j pos) (λ_ h=>.ok (.str i) h):=BD Sj λ_ _ _=>.str i
theorem BF:SA X [] (λ_ h=>.ok (.tup []) h):=Ef.imp λσ H Q z9=>z9.el λρ h m ws h' f r e k=>by cases e;exact k [] H m .refl r .nil
theorem wN(ha:SE X e fa)(hr:SA X es fb)(hs:starEach (e::es) X.env=(false,eval e X.env)::starEach es X.env) :
 SA X (e::es) (λρ h=>(fa ρ h).bind λx h=>(fb ρ h).bind λy h=>match y with|.tup ys=>.ok (.tup (x::ys)) h|_=>.no):=
 (Aq ha hr hs).imp λσ H Q z9=>z9.el λρ h m ws h' f r e k=>by
   refine bP e λx h1 e1 e2=>?_;refine bP e2 λy h2 e3 e4=>?_;cases y with
   |tup ys=>
    cases e4;exact(.mk f r e1 λv H1 m1 s1 r1 q1=>(.mk (f.stp s1) r1 e3 λvs H2 m2 s2 r2 q2=>k _ H2 m2 (s1.trans s2) r2 (.cons (q1.stp s2) q2)))
   |_=>cases e4
theorem OZ{k:Nat}(h:Nat.ble k 1000):k<=sizeLine:=tR (NI (kr h))
theorem WC{x1:Nat}(ha:SA X es fa):SE X (.Tuple es x1 pos) (λρ h=>(fa ρ h).bind λy h=>match y with|.tup ys=>(if Nat.ble ys.length 1000 then .ok (.tup ys) h else .no)|_=>.no):=
 (Ud ha).imp λσ H Q q=>wM (g:=λys h=>if Nat.ble ys.length 1000 then .ok (.tup ys) h else .no) (G:=λxs H1 Q=>xs.length<=sizeLine/\∀p,H1 p=aE->Q (.ref p) (upd H1 p (.tup xs)))
   (λm h H vs xs w h' Q r q e k=>by
     split at e;rename_i hl;cases e;exact⟨by rw[q.length];exact OZ hl,λp hp=>aN.tuple k r q hp⟩;cases e) q
theorem WD(ha:SA X es fa):SE X (.List es pos) (λρ h=>(fa ρ h).bind λy h=>match y with|.tup ys=>(if Nat.ble ys.length 1000 then .ok (.ref h.n) (h.new (.lst ys))else .no)|_=>.no):=
 (Ue ha).imp λσ H Q q=>wM (g:=λys h=>if Nat.ble ys.length 1000 then .ok (.ref h.n) (h.new (.lst ys))else .no) (G:=λxs H1 Q=>xs.length<=sizeLine/\∀p,H1 p=aE->Q (.ref p) (upd H1 p (.lst xs)))
   (λm h H vs xs w h' Q r q e k=>by
     split at e;rename_i hl;cases e;exact⟨by rw[q.length];exact OZ hl,λp hp=>aN.list k r q hp⟩;cases e) q
noncomputable def BG(K:aK)(r:R2)(g:W->W->VH->Res W):Prop:=∀(m:Nat->ah) (h:VH) (H:Hp) (v u:V) (x y w:W) (h':VH) (Q:VK),Rel K m h H->aL K m h.n H v x->aL K m h.n H u y->g x y h=.ok w h'->aN K m h.n H w h' Q->r v u H Q
theorem BH{O:Operator}{r:R2}{g:W->W->VH->Res W}(ho:cQ X (binaryOp O) r)(hg:BG X.K r g)(ha:SE X a fa)(hb:SE X b fb):SE X (.BinOp a O b pos) (λρ h=>(fa ρ h).bind λx h=>(fb ρ h).bind λy h=>g x y h):=
 (Ag ho ha hb).imp λσ H Q q=>EW (G:=r) hg q
noncomputable def BI:Operator->Option Op|.Add=>aD .add|.Sub=>aD .sub|.Mult=>aD .mul|.FloorDiv=>aD .fdiv|.Mod=>aD .mod|.LShift=>aD .shl|.Pow=>aD .pow|_=>aE
noncomputable def cI:Op->Int->Int->Prop|.mul=>mP|.fdiv=>rq|.mod=>λ_ j=>0<j|.shl=>rz|.pow=>rz|_=>λ_ _=>True
noncomputable def gI:Op->Int->Int->Int|.add=>(· + ·)|.sub=>(· - ·)|.mul=>(· * ·)|.fdiv=>(· / ·)|.mod=>(· % ·)|.shl=>λi j=>i*2 ^ j.toNat|.pow=>λi j=>i ^ j.toNat
noncomputable def rX(K:aK):Op->R2|.add=>λx y H Q=>lH K x y H Q\/Oa K x y H Q\/AF x y H Q|.mul=>λx y H Q=>um K x y H Q|_=>λ_ _ _ _=>False
noncomputable def rB(K:aK)(o:Op):R2:=λx y H Q=>rI (cI o) (λi j=>.int (gI o i j)) x y H Q\/rX K o x y H Q
theorem wO{f:aa->aa->Sem aa}{r r':R2}(h:cQ X f r)(k:∀x y H Q,r' x y H Q->r x y H Q):cQ X f r':=λpins s σ H x y v u Q I rx ry q=>h pins s σ H x y v u Q I rx ry (k _ _ _ _ q)
theorem BJ{O:Operator}{o:Op}(e:BI O=aD o):cQ X (binaryOp O) (rB X.K o):=by
 have tr:∀{g:Int->Int->V}{x y H Q},rI (λ_ _=>True) g x y H Q->mO g x y H Q:=λ⟨i,j,h1,h2,_,h3⟩=>⟨i,j,h1,h2,h3⟩
 cases O<;>cases e;exact wO (Tr.or (Uu.or (Vv.or UK))) λx y H Q q=>q.elim (λz=>.inl (tr z)) .inr;exact wO Tt λx y H Q q=>q.elim (λz=>tr z) λz=>z.elim;exact wO (Tu.or Vu) λx y H Q q=>q;exact wO Tz λx y H Q q=>q.elim id λz=>z.elim;exact wO TF λx y H Q q=>q.elim id λz=>z.elim;exact wO TH λx y H Q q=>q.elim id λz=>z.elim;exact wO Tv λx y H Q q=>q.elim id λz=>z.elim
theorem O0{i:Int}(h:lU i):-(2 ^ 64)<i/\i<2 ^ 64:=by unfold lU at h;rw[bE]at h;exact⟨kM h.1,kM h.2⟩
theorem IF{o:Op}{i j z:Int}(e:eY o i j=aD z):cI o i j/\z=gI o i j:=by cases o<;>simp only[eY]at e;cases e;exact⟨trivial,rfl⟩;cases e;exact⟨trivial,rfl⟩;split at e;rename_i hc;cases e;rw[pY]at hc;exact⟨hc.elim (λq=>.inl (O0 q)) (λq=>.inr (O0 q)),rfl⟩;cases e;split at e;rename_i hc;cases e;rw[bE]at hc;exact⟨⟨kM hc.1,kM hc.2⟩,rfl⟩;cases e;split at e;rename_i hc;cases e;exact⟨(kM hc:0<j),rfl⟩;cases e;split at e;rename_i hc;cases e;rw[bE,bE]at hc;exact⟨⟨kM hc.1.1,kM hc.1.2,kM hc.2⟩,rfl⟩;cases e;split at e;rename_i hc;cases e;rw[bE,bE]at hc;exact⟨⟨kM hc.1.1,kM hc.1.2,kM hc.2⟩,rfl⟩;cases e
theorem wQ{i:Int}(h:fits i):-(2 ^ 62)<=i/\i<2 ^ 62:=by unfold fits at h;rw[bE]at h;exact⟨kM h.1,kM h.2⟩
theorem WE{o:Op}{xs zs:List W}{k:Int}(e:jY o xs k=aD zs):o=.mul/\(-(2 ^ 62)<=k/\k<2 ^ 62)/\xs.length*k.toNat<=sizeLine/\zs=(bD k.toNat xs).flatten:=by unfold jY at e;split at e;split at e;rename_i hc;cases e;rw[bE]at hc;exact⟨rfl,wQ hc.1,kr hc.2,rfl⟩;cases e;cases e
theorem aG.rep{K:aK}{m:Nat->ah}{n:Nat}{H:Hp}{vs:List V}{ws:List W}(q:aG K m n H vs ws):∀k:Nat,aG K m n H (bD k vs).flatten (bD k ws).flatten
 |0=>.nil
 |k+1=>by
  rw[ku,ku,p9,p9];exact q.append (aG.rep q k)
theorem WG{K:aK}{m:Nat->ah}{n:Nat}{H:Hp}{vs:List V}{ws:List W}(q:aG K m n H vs ws):vs.isEmpty=ws.isEmpty:=by cases q<;>rfl
theorem WH{ws:List W}{k:Int}(h:(ws.isEmpty||k==1)):(bD k.toNat ws).flatten=ws:=by
 rw[pY]at h;rcases h with h|h
 have:ws=[]:=by simpa using h
 subst this;induction k.toNat with|zero=>rfl|succ j ih=>rw[ku,p9,ih];rfl
 have:k=1:=by simpa using h
 subst this;show(bD 1 ws).flatten=ws;simp
theorem WI{K:aK}(o:Op):BG K (rB K o) (gJ o):=by
 intro m h H v u x y w h' Q r qv qu e k;unfold gJ at e;split at e;rename_i i j;obtain⟨e,rfl⟩:=of_ok e;cases qv;cases qu;cases q:eY o i j with
 |none=>rw[q]at e;cases e
 |some z=>
  rw[q]at e;cases e;obtain⟨h1,rfl⟩:=IF q;exact .inl ⟨i,j,rfl,rfl,h1,aN.here k r (.int _)⟩
 .rename_i xs ys
  obtain⟨e,rfl⟩:=of_ok e;cases q:IC o xs ys with
  |none=>rw[q]at e;cases e
  |some zs=>
   rw[q]at e;cases e;cases o<;>simp only[IC]at q;split at q;rename_i hc;cases q;cases qv with
   |tup qa ra=>
    cases qu with
    |tup qb rb=>
     rename_i a va b vb;have hl:=kr hc;cases xs with
     |nil=>
      cases ra;exact .inr (.inr (.inl ⟨a,b,vb,rfl,rfl,qa,qb,aN.here k r (.tup qb rb)⟩))
     |cons x0 xs0=>
      refine .inr (.inl ⟨a,b,va,vb,rfl,rfl,qa,qb,λz=>?_,by rw[ra.length,rb.length];exact hl,λz=>?_,λ_ p hp=>aN.tuple k r (ra.append rb) hp⟩);subst z;cases ra;subst z;cases rb;rw[nI]at k;exact aN.here k r (.tup qa ra)
   cases q
   all_goals cases q
 rename_i xs kk;obtain⟨e,rfl⟩:=of_ok e;cases q:jY o xs kk with
 |none=>rw[q]at e;cases e
 |some zs=>
  rw[q]at e;cases e;obtain⟨rfl,⟨k1,k2⟩,hz,rfl⟩:=WE q;cases qu;cases qv with
  |tup qa ra=>
   rename_i a va;refine .inr ⟨a,kk,va,rfl,rfl,qa,k1,k2,by rw[ra.length];exact hz,λz=>?_,λz p hp=>aN.tuple k r (ra.rep _) hp⟩;rw[WG ra]at z;rw[WH z]at k;exact aN.here k r (.tup qa ra)
 .rename_i i j
  split at e
  .rename_i xs ys hx hy
   split at e
   .rename_i zs q
    cases e;cases o<;>simp only[ID]at q;split at q;rename_i hc;cases q;obtain⟨va,pa,ra⟩:=r.lst hx;obtain⟨vb,pb,rb⟩:=r.lst hy;cases qv;cases qu;exact .inr (.inr (.inr ⟨m i,m j,va,vb,rfl,rfl,pa,pb,by rw[ra.length,rb.length];exact kr hc,λp hp=>aN.list k r (ra.append rb) hp⟩));cases q
    all_goals cases q
   cases e
  cases e
 cases e
end
section
variable{K:aK}{m:Nat->ah}{h:VH}{H:Hp}
theorem BK{f:W->Option aC}(ih:∀(w:W) (d:aC) (v:V),f w=aD d->aL K m h.n H v w->Rp K (λ_=>False) H v d):∀{ws:List W} {ds:List aC} {vs:List V},aV f ws=aD ds->aG K m h.n H vs ws->mQ K (λ_=>False) H vs ds
 |[],ds,_,e,.nil=>by cases e;exact .nil
 |w::ws,ds,_,e,.cons q r=>by
  unfold aV at e;split at e;rename_i d hd;split at e;rename_i bs hb;cases e;exact .cons (ih w d _ hd q) (BK ih hb r);cases e;cases e
theorem iB(r:Rel K m h H):∀(n:Nat) (w:W) (d:aC) (v:V),toD h n w=aD d->aL K m h.n H v w->Rp K (λ_=>False) H v d
 |0,_,_,_,e,_=>by cases e
 |n+1,w,d,v,e,q=>by
  cases q with
  |aQ=>cases e;exact .aQ
  |bl b=>cases e;exact .bl b
  |int b=>cases e;exact .int b
  |str b=>cases e;exact .str b
  | @tup a vs ws sq rs=>
   simp only[toD]at e;cases z:aV (toD h n) ws with|none=>rw[z]at e;cases e|some ds=>rw[z]at e;cases e;exact .tup sq (λz=>z) (BK (iB r n) z rs)
  | @fz a vs ws sq rs=>
   simp only[toD]at e;cases z:aV (toD h n) ws with|none=>rw[z]at e;cases e|some ds=>rw[z]at e;cases e;exact .lst sq.sq (λz=>z) (BK (iB r n) z rs)
  | @ref i hi=>
   simp only[toD]at e;cases g:h.get i with
   |none=>rw[g]at e;cases e
   |some o=>
    rw[g]at e;cases o with
    |dk _=>cases e
    |dm _=>cases e
    |lst ws=>
     obtain⟨vs,h1,h2⟩:=r.lst g;simp only at e;cases z:aV (toD h n) ws with|none=>rw[z]at e;cases e|some ds=>rw[z]at e;cases e;exact .lst (cC.of h1) (λz=>z) (BK (iB r n) z h2)
theorem O1(r:Rel K m h H){x y:W}{v u:V}{b:Bool}(e:bY h x y=aD b)(qv:aL K m h.n H v x)(qu:aL K m h.n H u y) :
 ∃d e',Rp K (λ_=>False) H v d/\Rp K (λ_=>False) H u e'/\SeqAt.shaped d=true/\SeqAt.shaped e'=true/\b=PyData.eqv d e':=by
 unfold bY at e;split at e;rename_i d e' h1 h2;split at e;rename_i hc;cases e;rw[bE]at hc;exact⟨d,e',iB r _ _ _ _ h1 qv,iB r _ _ _ _ h2 qu,hc.1,hc.2,rfl⟩;cases e;cases e
end
theorem yN{K:aK}{m:Nat->ah}{h:VH}{H:Hp}{v:V}{w:W}{ws:List W}(r:Rel K m h H)(q:aL K m h.n H v w)(e:aS h w=aD ws):∃p vs,v=.ref p/\(cC K H p vs\/bX K H p vs)/\aG K m h.n H vs ws:=by
 cases q<;>try cases e
 exact⟨_,_,rfl,.inr ‹_›,‹_›⟩;rename_i q _;exact⟨_,_,rfl,.inl q.sq,‹_›⟩;rename_i i hi;simp only[aS]at e;cases g:h.get i with
 |none=>rw[g]at e;cases e
 |some o=>
  rw[g]at e;cases o with
  |dk _=>cases e
  |dm _=>cases e
  |lst ws=>
   cases e;obtain⟨vs,h1,h2⟩:=r.lst g;exact⟨_,vs,rfl,.inl (cC.of h1),h2⟩
theorem O2{K:aK}{m:Nat->ah}{h:VH}{H:Hp}(r:Rel K m h H){x y:W}{v u:V}{b:Bool}(e:mW h x y=aD b)(qv:aL K m h.n H v x)(qu:aL K m h.n H u y) :
 (∃p vs ds d,u=.ref p/\(cC K H p vs\/bX K H p vs)/\mQ K (λ_=>False) H vs ds/\Rp K (λ_=>False) H v d/\ds.all SeqAt.shaped=true/\SeqAt.shaped d=true/\b=fy ds d):=by
 unfold mW at e;split at e;rename_i ws d h1 h2;split at e;rename_i ds h3;split at e;rename_i hc;cases e;rw[bE]at hc;obtain⟨p,vs,rfl,h4,h5⟩:=yN r qu h1;exact⟨p,vs,ds,d,rfl,h4,BK (iB r 24) h3 h5,iB r _ _ _ _ h2 qv,hc.1,hc.2,rfl⟩;cases e;cases e;cases e
noncomputable def gB:CmpOp->Option Cp|.Eq=>aD .eq|.NotEq=>aD .ne|.Lt=>aD .lt|.LtE=>aD .le|.Gt=>aD .gt|.GtE=>aD .ge|.Is=>aD .oO|.IsNot=>aD .mV|.In=>aD .jB|.NotIn=>aD .wG
noncomputable def rC(K:aK):Cp->R2|.eq=>AL K|.ne=>AM K|.lt=>mO λi j=>.bl (decide (i<j))|.le=>mO λi j=>.bl (decide (i<=j))|.gt=>mO λi j=>.bl (decide (j<i))|.ge=>mO λi j=>.bl (decide (j<=i))|.oO=>λx y H Q=>(y=.aQ/\Q (.bl (decide (x=.aQ))) H)\/∃c b,x=.bl c/\y=.bl b/\Q (.bl (c==b)) H|.mV=>λx y H Q=>(y=.aQ/\Q (.bl (!decide (x=.aQ))) H)\/∃c b,x=.bl c/\y=.bl b/\Q (.bl (!(c==b))) H|.jB=>λx y H Q=>rJ K false x y H Q|.wG=>λx y H Q=>rJ K true x y H Q
noncomputable def qo:ao->Bool|.Set ..=>false|_=>true
theorem IG{op:CmpOp}{b:ao}(h:qo b):behindInMarks op b=false:=by cases b<;>first|rfl|cases h
section
variable{X:Cx}{a b c e:ao}{es:List ao}{fa fb fc:FE}{pos:Pos}
theorem WJ:cQ X (compareOp .Is) (λx y H Q=>∃c b,x=.bl c/\y=.bl b/\Q (.bl (c==b)) H):=by intro pins s σ H x y v u Q I rx ry h;obtain⟨c,b,rfl,rfl,q⟩:=h;cases rx;cases ry;exact wpAny_is_plain rfl (Ed I q (by cases c<;>cases b<;>rfl))
theorem WK:cQ X (compareOp .IsNot) (λx y H Q=>∃c b,x=.bl c/\y=.bl b/\Q (.bl (!(c==b))) H):=by intro pins s σ H x y v u Q I rx ry h;obtain⟨c,b,rfl,rfl,q⟩:=h;cases rx;cases ry;exact wpAny_isNot_plain rfl (Ed I q (by cases c<;>cases b<;>rfl))
theorem yO(hu:X.A.units+65<cLine){O:CmpOp}{c:Cp}(e:gB O=aD c):cQ X (compareOp O) (rC X.K c):=by cases O<;>cases e;exact U4 (by lia);exact U5 (by lia);exact Aj;exact Ak;exact Al;exact Am;exact TR.or WJ;exact TU.or WK;exact Vx (by show X.A.units+1+64<cLine;lia);exact Vy (by show X.A.units+1+64<cLine;lia)
theorem EX{K:aK}{m:Nat->ah}{n:Nat}{H:Hp}{v:V}{w:W}(q:aL K m n H v w):cU w=decide (v=.aQ):=by cases q<;>simp[cU]
theorem EY{K:aK}(c:Cp):BG K (rC K c) (λx y h=>.of ((aU c h x y).map .bl) h):=by
 intro m h H v u x y w h' Q r qv qu e k;obtain⟨e,rfl⟩:=of_ok e;cases z:aU c h' x y with
 |none=>rw[z]at e;cases e
 |some b=>
  rw[z]at e;cases e;have fin:Q (.bl b) H:=aN.here k r (.bl b);unfold aU at z;split at z;obtain⟨p,vs,ds,d,h1,h2,h3,h4,h5,h6,rfl⟩:=O2 r z qv qu;exact⟨p,vs,ds,d,h1,h2,h3,h4,h5,h6,fin⟩;cases z2:mW h' x y with
  |none=>rw[z2]at z;cases z
  |some b2=>
   rw[z2]at z;cases z;obtain⟨p,vs,ds,d,h1,h2,h3,h4,h5,h6,rfl⟩:=O2 r z2 qv qu;exact⟨p,vs,ds,d,h1,h2,h3,h4,h5,h6,fin⟩
  obtain⟨d,e',h1,h2,h3,h4,rfl⟩:=O1 r z qv qu;exact⟨d,e',h1,h2,h3,h4,fin⟩;cases z2:bY h' x y with
  |none=>rw[z2]at z;cases z
  |some b2=>
   rw[z2]at z;cases z;obtain⟨d,e',h1,h2,h3,h4,rfl⟩:=O1 r z2 qv qu;exact⟨d,e',h1,h2,h3,h4,fin⟩
  split at z;rename_i hn;cases z;have:=EX qu;rw[hn]at this;refine .inl ⟨kM this.symm,?_⟩;rw[<-EX qv];exact fin;unfold Bx at z;split at z;rename_i c b;cases z;cases qv;cases qu;exact .inr ⟨_,_,rfl,rfl,fin⟩;cases z;split at z;rename_i hn;cases z;have:=EX qu;rw[hn]at this;refine .inl ⟨kM this.symm,?_⟩;rw[<-EX qv];exact fin;cases z2:Bx x y with
  |none=>rw[z2]at z;cases z
  |some b2=>
   rw[z2]at z;cases z;unfold Bx at z2;split at z2;rename_i c b;cases z2;cases qv;cases qu;exact .inr ⟨_,_,rfl,rfl,fin⟩;cases z2
  split at z;rename_i i j;cases qv;cases qu;cases c<;>simp only[fU]at z<;>cases z<;>exact⟨i,j,rfl,rfl,fin⟩;cases z
theorem WL(hu:X.A.units+65<cLine){O:CmpOp}{c:Cp}(e:gB O=aD c)(hs:qo b)(ha:SE X a fa)(hb:SE X b fb) :
 SE X (.Compare a [O] [b] pos) (λρ h=>(fa ρ h).bind λx h=>(fb ρ h).bind λy h=>.of ((aU c h x y).map .bl) h):=
 (TV (yO hu e) ha hb (IG hs)).imp λσ H Q q=>EW (G:=rC X.K c) (EY c) q
theorem WM(hu:X.A.units+65<cLine){O:CmpOp}{c:Cp}(e:gB O=aD c)(hs:qo b)(ha:SE X a fa)(hb:SE X b fb) :
 ST X (.Compare a [O] [b] pos) (λρ h=>(fa ρ h).bind λx h=>(fb ρ h).bind λy h=>.of ((aU c h x y).map .bl) h):=
 (TX (yO hu e) ha hb (IG hs)).imp λσ H Q q=>EW (G:=rC X.K c) (EY c) (OY q)
theorem O4{O O':CmpOp}{a b:ao}(h:qo b):lastMarks [O,O'] [a,b]=false:=IG h
theorem O6{K:aK}{c1 c2:Cp}{σ:L2.St}{H:Hp}{Q:VK}
 (q:gu K (λρ h=>(fa ρ h).bind λx h=>(fb ρ h).bind λy h=>match aU c1 h x y with
   |some true=>(fc ρ h).bind λz h=>.of ((aU c2 h y z).map .bl) h
   |some false=>.ok (.bl false) h
   |none=>.no) σ H Q):GS (rC K c1) (rC K c2) (gu K fa) (gu K fb) (gu K fc) σ H Q:=by
 refine q.el λρ h m w h' f r e k=>?_;refine bP e λx h1 e1 e2=>?_;refine bP e2 λy h2 e3 e4=>?_;refine(.mk f r e1 λv H1 m1 s1 r1 q1=>(.mk (f.stp s1) r1 e3 λu H2 m2 s2 r2 q2=>?_));have f2:=(f.stp s1).stp s2;have k2:aN K m2 h2.n H2 w h' Q:=λv' H' m' s' r' q'=>k v' H' m' ((s1.trans s2).trans s') r' q';cases z:aU c1 h2 x y with
 |none=>rw[z]at e4;cases e4
 |some b=>
  rw[z]at e4;refine EY c1 m2 h2 H2 v u x y (.bl b) h2 _ r2 (q1.stp s2) q2 (by show Res.of ((aU c1 h2 x y).map W.bl) h2=_;rw[z];rfl) λv3 H3 m3 s3 r3 q3=>?_;cases q3;refine⟨b,rfl,?_⟩;cases b with
  |true=>
   refine bP e4 λz' h4 e5 e6=>?_;rw[if_pos rfl];refine⟨ρ,h2,m3,z',h4,f2.stp s3,r3,e5,λv4 H4 m4 s4 r4 q4=>?_⟩;exact EY c2 m4 h4 H4 u v4 y z' w h' Q r4 ((q2.stp s3).stp s4) q4 e6 λv' H' m' s' r' q'=>k2 v' H' m' ((s3.trans s4).trans s') r' q'
  |false=>
   cases e4;simp only[dZ,dF];exact k2 _ H3 m3 s3 r3 (.bl false)
theorem WN(hu:X.A.units+65<cLine){O O':CmpOp}{c1 c2:Cp}(e:gB O=aD c1)(e':gB O'=aD c2)(hs:qo c)(ha:SE X a fa)(hb:SE X b fb)(hc:SE X c fc) :
 SE X (.Compare a [O,O'] [b,c] pos) (λρ h=>(fa ρ h).bind λx h=>(fb ρ h).bind λy h=>match aU c1 h x y with|some true=>(fc ρ h).bind λz h=>.of ((aU c2 h y z).map .bl) h|some false=>.ok (.bl false) h|none=>.no):=(TY (yO hu e) (yO hu e') ha hb hc (O4 hs)).imp λσ H Q q=>O6 q
theorem WO(hu:X.A.units+65<cLine){O O':CmpOp}{c1 c2:Cp}(e:gB O=aD c1)(e':gB O'=aD c2)(hs:qo c)(ha:SE X a fa)(hb:SE X b fb)(hc:SE X c fc) :
 ST X (.Compare a [O,O'] [b,c] pos) (λρ h=>(fa ρ h).bind λx h=>(fb ρ h).bind λy h=>match aU c1 h x y with|some true=>(fc ρ h).bind λz h=>.of ((aU c2 h y z).map .bl) h|some false=>.ok (.bl false) h|none=>.no):=(TZ (yO hu e) (yO hu e') ha hb hc (O4 hs)).imp λσ H Q q=>O6 (OY q)
noncomputable abbrev BL(fa:FE):FE:=λρ h=>(fa ρ h).bind λx h=>match x with|.bl b=>.ok (.bl (!b)) h|_=>.no
noncomputable abbrev BN(fa fb:FE):FE:=λρ h=>(fa ρ h).bind λx h=>match x with|.bl true=>fb ρ h|.bl false=>.ok (.bl false) h|_=>.no
noncomputable abbrev O8(fa fb:FE):FE:=λρ h=>(fa ρ h).bind λx h=>match x with|.bl true=>.ok (.bl true) h|.bl false=>fb ρ h|_=>.no
noncomputable abbrev II(fa fb fc:FE):FE:=λρ h=>(fa ρ h).bind λx h=>match x with|.bl true=>fb ρ h|.bl false=>fc ρ h|_=>.no
variable{rest:List ao}
theorem WQ(ha:ST X a fa):ST X (.UnaryOp .Not a pos) (BL fa):=(Su ha).imp λσ H Q z9=>z9.el λρ h m b h' f r e k=>by
 refine bP e λx h1 e1 e2=>?_;cases x<;>try cases e2
 rename_i b;exact(.mk f r e1 λH' m' s' r'=>k H' m' s' r')
theorem WR(ha:SE X a fa):SE X (.UnaryOp .Not a pos) (BL fa):=(Sx ha).imp λσ H Q z9=>z9.el λρ h m b h' f r e k=>by
 refine bP e λx h1 e1 e2=>?_;cases x<;>try cases e2
 rename_i b;exact(.mk f r e1 λv H' m' s' r' q=>by cases q;exact⟨b,rfl,k _ H' m' s' r' (.bl _)⟩)
theorem O9{op:BoolOp}(ha:ST X a fa):SW X (.BoolOp op [a] pos) fa:=by cases op;exact Sn ha;exact Sq ha
theorem WS(ha:ST X a fa)(hb:SW X (.BoolOp .And (b::rest) pos) fb):SW X (.BoolOp .And (a::b::rest) pos) (BN fa fb):=(Ss ha hb).imp λσ H Q z9=>z9.el λρ h m b h' f r e k=>by
 refine bP e λx h1 e1 e2=>?_;cases x<;>try cases e2
 rename_i c;refine(.mk f r e1 λH1 m1 s1 r1=>?_);cases c with|true=>rw[if_pos rfl];exact(.mk (f.stp s1) r1 e2 λH' m' s' r'=>k H' m' (s1.trans s') r')|false=>cases e2;simp only[dZ,dF];exact k H1 m1 s1 r1
theorem BO(ha:ST X a fa)(hb:SW X (.BoolOp .Or (b::rest) pos) fb):SW X (.BoolOp .Or (a::b::rest) pos) (O8 fa fb):=(pw_or ha hb).imp λσ H Q z9=>z9.el λρ h m b h' f r e k=>by
 refine bP e λx h1 e1 e2=>?_;cases x<;>try cases e2
 rename_i c;refine(.mk f r e1 λH1 m1 s1 r1=>?_);cases c with|true=>cases e2;rw[if_pos rfl];exact k H1 m1 s1 r1|false=>simp only[dZ,dF];exact(.mk (f.stp s1) r1 e2 λH' m' s' r'=>k H' m' (s1.trans s') r')
theorem Pa{op:BoolOp}(ha:SE X a fa):SE X (.BoolOp op [a] pos) fa:=Sv ha
theorem WT(ha:SE X a fa)(hb:SE X (.BoolOp .And (b::rest) pos) fb):SE X (.BoolOp .And (a::b::rest) pos) (BN fa fb):=(Sw ha hb).imp λσ H Q z9=>z9.el λρ h m w h' f r e k=>by
 refine bP e λx h1 e1 e2=>?_;cases x<;>try cases e2
 rename_i c;refine(.mk f r e1 λv H1 m1 s1 r1 q1=>?_);cases q1;refine⟨c,rfl,?_⟩;cases c with|true=>rw[if_pos rfl];exact(.mk (f.stp s1) r1 e2 λv H' m' s' r' q'=>k v H' m' (s1.trans s') r' q')|false=>cases e2;simp only[dZ,dF];exact k _ H1 m1 s1 r1 (.bl false)
theorem BP(ha:SE X a fa)(hb:SE X (.BoolOp .Or (b::rest) pos) fb):SE X (.BoolOp .Or (a::b::rest) pos) (O8 fa fb):=(zT ha hb).imp λσ H Q z9=>z9.el λρ h m w h' f r e k=>by
 refine bP e λx h1 e1 e2=>?_;cases x<;>try cases e2
 rename_i c;refine(.mk f r e1 λv H1 m1 s1 r1 q1=>?_);cases q1;refine⟨c,rfl,?_⟩;cases c with|true=>cases e2;rw[if_pos rfl];exact k _ H1 m1 s1 r1 (.bl true)|false=>simp only[dZ,dF];exact(.mk (f.stp s1) r1 e2 λv H' m' s' r' q'=>k v H' m' (s1.trans s') r' q')
theorem WU(hc:ST X c fc)(ha:SE X a fa)(hb:SE X b fb):SE X (.IfExp c a b pos) (II fc fa fb):=(Sz hc ha hb).imp λσ H Q z9=>z9.el λρ h m w h' f r e k=>by
 refine bP e λx h1 e1 e2=>?_;cases x<;>try cases e2
 rename_i c;refine(.mk f r e1 λH1 m1 s1 r1=>?_);cases c with|true=>rw[if_pos rfl];exact(.mk (f.stp s1) r1 e2 λv H' m' s' r' q'=>k v H' m' (s1.trans s') r' q')|false=>simp only[dZ,dF];exact(.mk (f.stp s1) r1 e2 λv H' m' s' r' q'=>k v H' m' (s1.trans s') r' q')
theorem Pb{K:aK}{m:Nat->ah}{n:Nat}{H:Hp}{vs:List V}{ws:List W}(q:aG K m n H vs ws):vs.isEmpty=ws.isEmpty:=by cases q<;>rfl
theorem WV{K:aK}{m:Nat->ah}{h:VH}{H:Hp}{v:V}{w:W}{b:Bool}(r:Rel K m h H)(q:aL K m h.n H v w)(e:mX h w=aD b):vW K v H b:=by
 cases q with
 |aQ=>cases e;rfl
 |bl x=>cases e;rfl
 |int i=>cases e;rfl
 |str x=>cases e
 |fz _ _=>cases e
 |tup sq rs=>cases e;exact .inr (.inl ⟨_,sq,by rw[Pb rs]⟩)
 | @ref i hi=>
  simp only[mX]at e;cases g:h.get i with
  |none=>rw[g]at e;cases e
  |some o=>
   rw[g]at e;cases o with
   |dk _=>cases e
   |dm _=>cases e
   |lst ws=>
    cases e;obtain⟨vs,h1,h2⟩:=r.lst g;exact .inl ⟨vs,cC.of h1,by rw[Pb h2]⟩
theorem IJ(ha:SE X a fa)(he:∀whole,isTrue a X.env whole=(do let v <-whole;standAt a.pos;holding [v] (truthy v))) :
 ST X a (λρ h=>(fa ρ h).bind λx h=>.of ((mX h x).map .bl) h):=(T5 ha he).imp λσ H Q z9=>z9.el λρ h m b h' f r e k=>by
 refine bP e λx h1 e1 e2=>?_;obtain⟨e2,rfl⟩:=of_ok e2;cases z:mX h' x with
 |none=>rw[z]at e2;cases e2
 |some c=>
  rw[z]at e2;cases e2;exact(.mk f r e1 λv H' m' s' r' q=>⟨b,WV r' q z,k H' m' s' r'⟩)
theorem WW(ha:SE X a fa):SE X (.UnaryOp .USub a pos) (λρ h=>(fa ρ h).bind λx h=>match x with|.int i=>.ok (.int (-i)) h|_=>.no):=
 (Ah TQ ha).imp λσ H Q q=>OX (g:=λx h=>match x with|.int i=>.ok (.int (-i)) h|_=>.no) (G:=rU λi=>.int (-i)) (λm h H v x w h' Q r q e k=>by
   cases q<;>try cases e
   rename_i i;exact⟨i,rfl,aN.here k r (.int _)⟩) q
end
section
variable{K:aK}{m m0:Nat->ah}{n n0:Nat}{h:VH}{H H0:Hp}
theorem Rel.adopt(r:Rel K m h H){p:ah}{o:VO}{u u0:HO}(hp:∀i,i<h.n->m i≠p)(hu:H p=aD u0)(ht:∀t,u0≠.tup t)(hf:∀o t,u0≠.bL o t)(s:bQ m0 n0 H0 m h.n H)(h0:H0 p=aE)
 (ho:bQ m h.n H (λi=>if i=h.n then p else m i) (h.n+1) (upd H p u)\/True->(∀{v:V}{w:W},aL K m h.n H v w->aL K (λi=>if i=h.n then p else m i) (h.n+1) (upd H p u) v w)->gA K (λi=>if i=h.n then p else m i) (h.n+1) (upd H p u) p o) :
 bQ m0 n0 H0 (λi=>if i=h.n then p else m i) (h.n+1) (upd H p u)/\Rel K (λi=>if i=h.n then p else m i) (h.new o) (upd H p u):=by
 have kt:∀b vs,H b=aD (.tup vs)->upd H p u b=aD (.tup vs):=λb vs q=>by rw[bV (cP q hu λz=>ht vs z.symm)];exact q
 have kf:∀b o t,H b=aD (.bL o t)->upd H p u b=aD (.bL o t):=λb o t q=>by rw[bV (cP q hu λz=>hf o t z.symm)];exact q
 have mv:∀{v:V}{w:W},aL K m h.n H v w->aL K (λi=>if i=h.n then p else m i) (h.n+1) (upd H p u) v w:=by
  intro v w q;have st:bQ m h.n (λb=>if b=p then aE else H b) (λi=>if i=h.n then p else m i) (h.n+1) (upd H p u):=by
   refine⟨tS _,λi hi=>by simp only[if_neg (fR hi)],λi hi hi2=>?_,λi j hi hi2 hj=>?_,λb vs q=>?_,λb o t q=>?_,λb o _ q=>?_⟩;have:i=h.n:=by lia
   subst this;simp only[bZ];have:i=h.n:=by lia
   subst this;simp only[bZ,if_neg (fR hj)];exact(hp j hj).symm;split at q;cases q;exact kt b vs q;split at q;cases q;exact kf b o t q;split at q;cases q;rename_i z;rw[bV z];exact q
  refine aL.stp st ?_;have back:∀{a vs},bX K H a vs->bX K (λb=>if b=p then aE else H b) a vs:=by
   intro a vs q;rcases q with(q|⟨o,q⟩)|q
   exact .inl (.inl (by simp only[if_neg (cP q hu λz=>ht vs z.symm)];exact q));exact .inl (.inr ⟨o,by simp only[if_neg (cP q hu λz=>hf o _ z.symm)];exact q⟩);exact .inr q
  have BQ:∀{a vs},Fz K H a vs->Fz K (λb=>if b=p then aE else H b) a vs:=by
   intro a vs q;rcases q with⟨o,q⟩|q
   exact .inl ⟨o,by simp only[if_neg (cP q hu λz=>hf o _ z.symm)];exact q⟩;exact .inr q
  exact(aL.rec (K:=K) (m:=m) (n:=h.n) (H:=H) (motive_1:=λv w _=>aL K m h.n (λb=>if b=p then aE else H b) v w) (motive_2:=λvs ws _=>aG K m h.n (λb=>if b=p then aE else H b) vs ws)
   .aQ .bl .int .str (λsq _ ih=>.tup (back sq) ih) (λsq _ ih=>.fz (BQ sq) ih) (λhi=>.ref hi) .nil (λ_ _ i1 i2=>.cons i1 i2) q)
 refine⟨⟨zu s.le,λi hi=>?_,λi hi hi2=>?_,λi j hi hi2 hj=>?_,λb vs q=>kt b vs (s.tup b vs q),λb o t q=>kf b o t (s.bL b o t q),λb o nb q=>?_⟩,⟨λi hi=>?_,λi j hi hj z=>?_,?_⟩⟩;have:=s.le;simp only[if_neg (show i≠h.n by lia)];exact s.same i hi;by_cases e:i=h.n;subst e;simp only[bZ];exact h0;simp only[if_neg e];exact s.new i hi (by lia);have:=s.le;simp only[if_neg (show j≠h.n by lia)];by_cases e:i=h.n;subst e;simp only[bZ];exact(hp j (by lia)).symm;simp only[if_neg e];exact s.apart i j hi (by lia) hj;rw[bV (gY q h0)];exact s.keep b o nb q;have hi:i<h.n+1:=hi;by_cases e:i=h.n;subst e;exact⟨o,eB,by simp only[bZ];exact ho (.inr trivial) mv⟩;have hl:i<h.n:=by lia
 obtain⟨o',h1,h2⟩:=r.obj i hl;refine⟨o',(eK hl).trans h1,?_⟩;simp only[if_neg e];have eq:upd H p u (m i)=H (m i):=bV (hp i hl);cases o' with
 |lst ws=>
  obtain⟨vs,q1,q2⟩:=h2;exact⟨vs,eq.trans q1,aG.rec (K:=K) (m:=m) (n:=h.n) (H:=H) (motive_1:=λv w _=>aL K m h.n H v w) (motive_2:=λvs ws _=>aG K (λi=>if i=h.n then p else m i) (h.n+1) (upd H p u) vs ws)
   .aQ .bl .int .str (λsq q _=>.tup sq q) (λsq q _=>.fz sq q) (λhi=>.ref hi) .nil (λq _ _ i2=>.cons (mv q) i2) q2⟩
 |dk ws=>
  obtain⟨vs,q1,q2⟩:=h2;have go:∀{vs:List (Key×V)}{ws:List (Key×W)},aP K m h.n H vs ws->aP K (λi=>if i=h.n then p else m i) (h.n+1) (upd H p u) vs ws:=by
   intro vs ws q2;induction q2 with|nil=>exact .nil|cons q _ ih=>exact .cons (mv q) ih
  exact⟨vs,q1.imp (λz=>eq.trans z) λ⟨o,z⟩=>⟨o,eq.trans z⟩,go q2⟩
 |dm ws=>
  obtain⟨vs,q1,q2⟩:=h2;have go:∀{vs:List (Key×V)}{ws:List (Key×W)},aP K m h.n H vs ws->aP K (λi=>if i=h.n then p else m i) (h.n+1) (upd H p u) vs ws:=by
   intro vs ws q2;induction q2 with|nil=>exact .nil|cons q _ ih=>exact .cons (mv q) ih
  exact⟨vs,eq.trans q1,go q2⟩
 have hi:i<h.n+1:=hi;have hj:j<h.n+1:=hj;by_cases e:i=h.n;by_cases e2:j=h.n;lia;simp only[if_pos e,if_neg e2]at z;exact absurd z.symm (hp j (by lia));by_cases e2:j=h.n;simp only[if_neg e,if_pos e2]at z;exact absurd z (hp i (by lia));simp only[if_neg e,if_neg e2]at z;exact r.inj i j (by lia) (by lia) z;show(o::h.os).length=h.n+1;rw[fD,r.len]
theorem aG.map{m':Nat->ah}{n':Nat}{H':Hp}(mv:∀{v:V} {w:W},aL K m n H v w->aL K m' n' H' v w):∀{vs:List V} {ws:List W},aG K m n H vs ws->aG K m' n' H' vs ws|_,_,.nil=>.nil|_,_,.cons q r=>.cons (mv q) (aG.map mv r)
theorem aP.map{m':Nat->ah}{n':Nat}{H':Hp}(mv:∀{v:V} {w:W},aL K m n H v w->aL K m' n' H' v w):∀{vs:List (Key×V)} {ws:List (Key×W)},aP K m n H vs ws->aP K m' n' H' vs ws|_,_,.nil=>.nil|_,_,.cons q r=>.cons (mv q) (aP.map mv r)
theorem aP.look(k:Key):∀{vs:List (Key×V)} {ws:List (Key×W)},aP K m n H vs ws->(gS vs k=aE/\b9 ws k=aE)\/∃v w,gS vs k=aD v/\b9 ws k=aD w/\aL K m n H v w
 |_,_,.nil=>.inl ⟨rfl,rfl⟩
 |_,_,.cons (k:=k') (v:=v) (w:=w) q r=>by
  by_cases e:k'=k;refine .inr ⟨v,w,zdt (p:=(k',v)) e,?_,q⟩;unfold b9;rw[vcs];simp[e];rcases aP.look k r with⟨a,b⟩|⟨v',w',a,b,c⟩
  refine .inl ⟨(AN (p:=(k',v)) e).trans a,?_⟩;unfold b9 at b ⊢;rw[vcs];simp only[gX e];exact b;refine .inr ⟨v',w',(AN (p:=(k',v)) e).trans a,?_,c⟩;unfold b9 at b ⊢;rw[vcs];simp only[gX e];exact b
theorem aP.any(k:Key):∀{vs:List (Key×V)} {ws:List (Key×W)},aP K m n H vs ws->(vs.any λkv=>decide (kv.1=k))=(ws.any λkv=>decide (kv.1=k))|_,_,.nil=>rfl|_,_,.cons q r=>by rw[zC,zC,aP.any k r]
theorem aP.repl{v:V}{w:W}(q:aL K m n H v w)(k:Key):∀{vs:List (Key×V)} {ws:List (Key×W)},aP K m n H vs ws->aP K m n H (vs.map λkv=>if kv.1=k then(kv.1,v)else kv) (ws.map λkv=>if kv.1=k then(kv.1,w)else kv)
 |_,_,.nil=>.nil
 |_,_,.cons (k:=k') p r=>by
  rw[gQ,gQ];by_cases e:k'=k;simp only[if_pos e];exact .cons q (aP.repl q k r);simp only[if_neg e];exact .cons p (aP.repl q k r)
theorem aP.snoc{v:V}{w:W}(q:aL K m n H v w)(k:Key):∀{vs:List (Key×V)} {ws:List (Key×W)},aP K m n H vs ws->aP K m n H (vs++[(k,v)]) (ws++[(k,w)])|_,_,.nil=>.cons q .nil|_,_,.cons p r=>.cons p (aP.snoc q k r)
theorem aP.put{v:V}{w:W}(q:aL K m n H v w)(k:Key){vs:List (Key×V)}{ws:List (Key×W)}(r:aP K m n H vs ws):aP K m n H (putK vs k v) (jZ ws k w):=by unfold putK jZ;rw[r.any k];split;exact r.repl q k;exact r.snoc q k
theorem aP.merge{vs:List (Key×V)}{ws:List (Key×W)}(q:aP K m n H vs ws):∀{va:List (Key×V)} {wa:List (Key×W)},aP K m n H va wa->aP K m n H (ug va vs) (EV wa ws):=by
 induction q with|nil=>exact λa=>a|cons q r ih=>exact λa=>ih (a.put q _)
theorem aP.length:∀{vs:List (Key×V)} {ws:List (Key×W)},aP K m n H vs ws->vs.length=ws.length|_,_,.nil=>rfl|_,_,.cons _ r=>by rw[fD,fD,aP.length r]
theorem WX{v:V}{w:W}{k:Key}(q:aL K m n H v w)(e:rV w=aD k):v=kV k:=by cases q<;>cases e<;>rfl
theorem EZ{vs:List V}{ws:List W}{i:Int}{w:W}(q:aG K m n H vs ws)(e:cZ ws i=aD w):∃v,cZ vs i=aD v/\aL K m n H v w:=by
 unfold cZ at e ⊢;rw[q.length];cases z:gR ws.length i with
 |none=>rw[z]at e;cases e
 |some j=>
  rw[z]at e;exact q.get e
end
noncomputable def wR(K:aK):R2:=λx y H Q=>vZ K x y H Q\/Ay K x y H Q\/(∃a v,x=.ref a/\rG H a y (aD v)/\Q v H)\/Az x y H Q
section
variable{X:Cx}{a b c e o:ao}{es:List ao}{fa fb fc fo:FE}{pos:Pos}
theorem WY(hu:X.A.units+1<cLine):qh X (λx y H Q=>∃a v,x=.ref a/\rG H a y (aD v)/\Q v H):=by intro value slice pins s σ H x y v u Q I rx ry q hs;obtain⟨a,v',rfl,g,q⟩:=q;obtain rfl:v=Value.ref a:=rx;exact tail_any (Ve I g) PySem.F.slot_dict_getitem.lookup (Vc hu I g ry λw' s3 I3 rw'=>⟨v',H,I3,rw',q⟩) hs
theorem BR(hu:X.A.units+2<cLine):qh X (wR X.K):=Uv.or (Uw.or ((WY (by lia)).or Ux))
theorem WZ{K:aK}:BG K (wR K) (λx y h=>.of (bM h x y) h):=by
 intro m h H v u x y w h' Q r qv qu e0 k;obtain⟨e,e1⟩:=of_ok e0;clear e0;subst e1;unfold bM at e;split at e;cases qv with
 |tup sq rs=>
  cases qu;obtain⟨v',h1,h2⟩:=EZ rs e;exact .inr (.inl ⟨_,_,_,v',rfl,rfl,sq,h1,aN.here k r h2⟩)
 cases qv with
 |fz sq rs=>
  cases qu;obtain⟨v',h1,h2⟩:=EZ rs e;exact .inl ⟨_,_,_,v',rfl,rfl,sq.sq,h1,aN.here k r h2⟩
 rename_i i j;cases qv;cases qu;cases g:h'.get i with
 |none=>rw[g]at e;cases e
 |some ob=>
  rw[g]at e;cases ob with
  |lst ws=>
   obtain⟨vs,p1,p2⟩:=r.lst g;obtain⟨v',h1,h2⟩:=EZ p2 e;exact .inl ⟨_,_,_,v',rfl,rfl,cC.of p1,h1,aN.here k r h2⟩
  |dk ws=>
   have e:b9 ws (.inl j)=aD w:=e;obtain⟨vs,p1,p2⟩:=r.dk g;rcases p2.look (.inl j)with⟨_,z⟩|⟨v',w',z1,z2,z3⟩
   rw[z]at e;cases e;rw[z2]at e;cases e;exact .inr (.inr (.inl ⟨_,v',rfl,by rw[<-z1];exact .inl ⟨vs,.inl j,p1,rfl,rfl⟩,aN.here k r z3⟩))
  |dm ws=>
   have e:b9 ws (.inl j)=aD w:=e;obtain⟨vs,p1,p2⟩:=r.dm g;rcases p2.look (.inl j)with⟨_,z⟩|⟨v',w',z1,z2,z3⟩
   rw[z]at e;cases e;rw[z2]at e;cases e;exact .inr (.inr (.inl ⟨_,v',rfl,by rw[<-z1];exact .inl ⟨vs,.inl j,.inl p1,rfl,rfl⟩,aN.here k r z3⟩))
 rename_i i j;cases qv;cases qu;cases g:h'.get i with
 |none=>rw[g]at e;cases e
 |some ob=>
  rw[g]at e;cases ob with
  |lst ws=>cases e
  |dk ws=>
   have e:b9 ws (.inr j)=aD w:=e;obtain⟨vs,p1,p2⟩:=r.dk g;rcases p2.look (.inr j)with⟨_,z⟩|⟨v',w',z1,z2,z3⟩
   rw[z]at e;cases e;rw[z2]at e;cases e;exact .inr (.inr (.inl ⟨_,v',rfl,by rw[<-z1];exact .inl ⟨vs,.inr j,p1,rfl,rfl⟩,aN.here k r z3⟩))
  |dm _=>cases e
 cases qv;cases qu;rename_i z i;split at e;rename_i hz;cases q:L2.cZ z.cps.toList i with
 |none=>rw[q]at e;cases e
 |some c=>
  rw[q]at e;cases e;exact .inr (.inr (.inr ⟨z,i,c,rfl,rfl,qK.mp hz,q,aN.here k r (.str _)⟩))
 cases e;cases e
theorem W0(hu:X.A.units+2<cLine)(ha:SE X a fa)(hb:SE X b fb)(hs:G0 b):SE X (.Subscript a b pos) (λρ h=>(fa ρ h).bind λx h=>(fb ρ h).bind λy h=>.of (bM h x y) h):=
 (Ax (BR hu) ha hb hs).imp λσ H Q q=>EW (G:=wR X.K) WZ q
noncomputable def jq(K:aK)(b:Bool)(f:FE):TO:=λσ H Q=>∃ρ h m w o h',Fr K m h.n H σ ρ/\Rel K m h H/\f ρ h=.ok w h'/\eG b w=aD o/\∀H' m',bQ m h.n H m' h'.n H'->Rel K m' h' H'->Q o H'
theorem jq.el{K:aK}{σ:L2.St}{H:Hp}{P:Prop}{b:Bool}{fa:FE}{Q:Option Int->Hp->Prop}(q:jq K b fa σ H Q)(k:∀ρ h m w o h',Fr K m h.n H σ ρ->Rel K m h H->fa ρ h=.ok w h'->eG b w=aD o->(∀H' m',bQ m h.n H m' h'.n H'->Rel K m' h' H'->Q o H')->P):P:=by obtain⟨ρ,h,m,w,o,h',f,r,e,ep,k'⟩:=q;exact k ρ h m w o h' f r e ep k'
theorem jq.mk{K:aK}{σ:L2.St}{H:Hp}{m:Nat->ah}{ρ:En}{h h':VH}{w:W}{o:Option Int}{b:Bool}{fa:FE}{Q:Option Int->Hp->Prop}(f:Fr K m h.n H σ ρ)(r:Rel K m h H)(e:fa ρ h=.ok w h')(ep:eG b w=aD o)(k:∀H' m',bQ m h.n H m' h'.n H'->Rel K m' h' H'->Q o H'):jq K b fa σ H Q:=⟨ρ,h,m,w,o,h',f,r,e,ep,k⟩
theorem W2{w:W}:PO X aE (jq X.K false (λ_ h=>.ok w h)):=λpins s σ H Q I z9=>z9.el λρ h m w o h' f r e ep k=>by
 cases e;have:o=aE:=by unfold eG at ep;cases ep;rfl
 subst this;exact Up pins s σ H Q I (k H m .refl r)
theorem W3(ha:SE X e fa):PO X (aD e) (jq X.K true fa):=λpins s σ H Q I z9=>z9.el λρ h m w o h' f r e ep k=>by
 refine Uq ha pins s σ H Q I (.mk f r e λv H' m' s' r' q=>?_);cases q<;>cases ep;exact⟨_,rfl,k H' m' s' r'⟩
theorem Pc{K:aK}{m:Nat->ah}{n:Nat}{H:Hp}{vs:List V}{ws:List W}(q:aG K m n H vs ws)(lo hi:Option Int):aG K m n H (jP vs lo hi) (iA ws lo hi):=by unfold jP iA;rw[q.length];exact(q.drop _).take _
theorem W4{ws:List W}{lo hi:Option Int}(h:HT.bF ws.length 0 lo=0/\HT.bF ws.length ws.length hi=ws.length):iA ws lo hi=ws:=by unfold iA;rw[h.1,h.2];simp
theorem W5{lo hi:Option ao}{fl fh:FE}{p2:Pos}{bl bh:Bool}(ha:SE X a fa)(hl:PO X lo (jq X.K bl fl))(hh:PO X hi (jq X.K bh fh)) :
 SE X (.Subscript a (.Slice lo hi aE p2) pos) (λρ h=>(fa ρ h).bind λx h=>(fl ρ h).bind λl h=>(fh ρ h).bind λu h=>match eG bl l,eG bh u with|some l,aD u=>j5 x l u h|_,_=>.no):=
 (Us VA ha hl hh).imp λσ H Q z9=>z9.el λρ h m w h' f r e k=>by
   refine bP e λx h1 e1 e2=>?_;refine bP e2 λl h2 e3 e4=>?_;refine bP e4 λu h3 e5 e6=>?_;split at e6;rename_i l' u' pl pu;refine(.mk f r e1 λv H1 m1 s1 r1 q1=>(.mk (f.stp s1) r1 e3 pl λH2 m2 s2 r2=>(.mk ((f.stp s1).stp s2) r2 e5 pu λH3 m3 s3 r3=>?_)));have q3:=(q1.stp s2).stp s3;have kk:aN X.K m3 h3.n H3 w h' Q:=λv' H' m' s' r' q'=>k v' H' m' (((s1.trans s2).trans s3).trans s') r' q';unfold j5 at e6;split at e6;rename_i ws;cases e6;cases q3 with
   | @tup a vs _ sq rs=>
    by_cases hw:HT.bF vs.length 0 l'=0/\HT.bF vs.length vs.length u'=vs.length;refine .inl (.inr ⟨_,_,rfl,sq,hw,?_⟩);have Pd:=hw;rw[rs.length]at Pd;rw[W4 Pd]at kk;exact aN.here kk r3 (.tup sq rs);exact .inl (.inl ⟨_,_,rfl,sq,hw,λp hp=>aN.tuple kk r3 (Pc rs l' u') hp⟩)
   rename_i i;cases q3;cases g:h3.get i with
   |none=>rw[g]at e6;cases e6
   |some ob=>
    rw[g]at e6;cases ob with
    |lst ws=>
     cases e6;obtain⟨vs,p1,p2⟩:=r3.lst g;exact .inr ⟨_,_,rfl,cC.of p1,λp hp=>aN.list kk r3 (Pc p2 l' u') hp⟩
    |dk ws=>cases e6
    |dm _=>cases e6
   cases e6;cases e6
end
noncomputable def g6:ao->Bool|.Starred ..=>false|_=>true
theorem gC{e:ao}{es:List ao}{env:Env}(h:g6 e):starEach (e::es) env=(false,eval e env)::starEach es env:=by cases e<;>first|rfl|cases h
theorem BS{pos:Pos}{env:Env}:∀{es:List ao},es.all g6=true->(backTo pos (starEach es env)).any (·.1)=false
 |[],_=>rfl
 |e::es,h=>by
  rw[qM,bE]at h;rw[gC h.1];show(false|| (backTo pos (starEach es env)).any (·.1))=false;rw[BS h.2];rfl
noncomputable abbrev rZ:FE:=λ_ h=>.ok (.tup []) h
noncomputable abbrev oU(fa fb:FE):FE:=λρ h=>(fa ρ h).bind λx h=>(fb ρ h).bind λy h=>match y with|.tup ys=>.ok (.tup (x::ys)) h|_=>.no
section
variable{X:Cx}{a b c e o:ao}{es:List ao}{fa fb fc fo:FE}{pos p:Pos}{x:Str}
noncomputable abbrev jr(fa:FE)(g:List W->VH->Res W):FE:=λρ h=>(fa ρ h).bind λy h=>match y with|.tup ys=>g ys h|_=>.no
noncomputable def eN(K:aK)(r:List V->Hp->VK->Prop)(g:List W->VH->Res W):Prop:=∀(m:Nat->ah) (h:VH) (H:Hp) (vs:List V) (xs:List W) (w:W) (h':VH) (Q:VK),Rel K m h H->aG K m h.n H vs xs->g xs h=.ok w h'->aN K m h.n H w h' Q->r vs H Q
theorem yP{id:String}{r:List V->Hp->VK->Prop}{g:List W->VH->Res W}(hc:bU X (.builtin id) r)(hv:eN X.K r g)(hg:Gl X x)(hm:X.mg x=aE)(hb:bootBuiltins x=aD (.builtin id))(ha:SA X (e::es) fa)(hs:(e::es).all g6=true)
 (hn:x≠"__name__") (hdb:(x==("__debug__" : Str))=false):SE X (.Call (.Name x p) (e::es) [] pos) (jr fa g):=by
 rw[qM,bE]at hs;exact(Nn hc hg hm hb ha hn hdb (gC hs.1) (BS hs.2)).imp λσ H Q q=>wM hv q
theorem IK{T:String}{r:List V->Hp->VK->Prop}{g:List W->VH->Res W}(hc:bU X (.type T) r)(hv:eN X.K r g)(hg:Gl X x)(hm:X.mg x=aE)(hb:bootBuiltins x=aD (.type T))(ha:SA X (e::es) fa)(hs:(e::es).all g6=true)
 (hn:x≠"__name__") (hdb:(x==("__debug__" : Str))=false):SE X (.Call (.Name x p) (e::es) [] pos) (jr fa g):=by
 rw[qM,bE]at hs;exact(Ui hc hg hm hb ha hn hdb (gC hs.1) (BS hs.2)).imp λσ H Q q=>wM hv q
theorem dM{K:aK}{m:Nat->ah}{n:Nat}{H:Hp}{vs:List V}{w:W}(q:aG K m n H vs [w]):∃v,vs=[v]/\aL K m n H v w:=by cases q with|cons q r=>cases r;exact⟨_,rfl,q⟩
theorem W6{K:aK}:eN K (λxs H Q=>∃p ys,xs=[.ref p]/\(cC K H p ys\/bX K H p ys)/\Q (.int ys.length) H) gT:=by
 intro m h H vs xs w h' Q r q e k;unfold gT at e;split at e<;>try cases e
 rename_i x;obtain⟨v,rfl,q1⟩:=dM q;obtain⟨e,rfl⟩:=of_ok e;cases z:aS h' x with
 |none=>
  rw[z]at e;cases e
 |some ws=>
  rw[z]at e;cases e;obtain⟨p,us,rfl,h1,h2⟩:=yN r q1 z;exact⟨p,us,rfl,h1,by rw[h2.length];exact aN.here k r (.int _)⟩
theorem W7{K:aK}:eN K (λxs H Q=>∃p ys,xs=[.ref p]/\(cC K H p ys\/bX K H p ys)/\∀l,H l=aE->Q (.ref l) (upd H l (.lst ys))) i6:=by
 intro m h H vs xs w h' Q r q e k;unfold i6 at e;split at e<;>try cases e
 rename_i x;obtain⟨v,rfl,q1⟩:=dM q;cases z:aS h x with
 |none=>rw[z]at e;cases e
 |some ws=>
  rw[z]at e;cases e;obtain⟨p,us,rfl,h1,h2⟩:=yN r q1 z;exact⟨p,us,rfl,h1,λl hl=>aN.list k r h2 hl⟩
theorem W8{K:aK}:eN K (λxs H Q=>∃p ys,xs=[.ref p]/\((cC K H p ys/\∀l,H l=aE->Q (.ref l) (upd H l (.tup ys)))\/(bX K H p ys/\Q (.ref p) H))) wJ:=by
 intro m h H vs xs w h' Q r q e k;unfold wJ at e;split at e<;>try cases e
 rename_i x;obtain⟨v,rfl,q1⟩:=dM q;obtain⟨e,rfl⟩:=of_ok e;cases z:aS h' x with
 |none=>
  rw[z]at e;cases e
 |some ws=>
  rw[z]at e;cases e;obtain⟨p,us,rfl,h1,h2⟩:=yN r q1 z;rcases h1 with h1|h1
  exact⟨p,us,rfl,.inl ⟨h1,λl hl=>aN.tuple k r h2 hl⟩⟩;exact⟨p,us,rfl,.inr ⟨h1,aN.here k r (.tup h1 h2)⟩⟩
theorem W9{K:aK}:eN K (λxs H Q=>(∃i,xs=[.int i]/\Q (.int i) H)\/∃k,xs=[.bl k]/\Q (.int (if k then 1 else 0)) H) k8:=by
 intro m h H vs xs w h' Q r q e k;unfold k8 at e;split at e<;>try cases e
 obtain⟨v,rfl,q1⟩:=dM q;cases q1;exact .inl ⟨_,rfl,aN.here k r (.int _)⟩;obtain⟨v,rfl,q1⟩:=dM q;cases q1;exact .inr ⟨_,rfl,aN.here k r (.int _)⟩
theorem Xa{K:aK}:eN K (λxs H Q=>∃i,xs=[.int i]/\Q (.int (if i<0 then -i else i)) H) k9:=by
 intro m h H vs xs w h' Q r q e k;unfold k9 at e;split at e<;>try cases e
 obtain⟨v,rfl,q1⟩:=dM q;cases q1;exact⟨_,rfl,aN.here k r (.int _)⟩
theorem lV{K:aK}{m:Nat->ah}{n:Nat}{H:Hp}{vs:List V}{w z:W}(q:aG K m n H vs [w,z]):∃v u,vs=[v,u]/\aL K m n H v w/\aL K m n H u z:=by cases q with|cons q r=>obtain⟨u,rfl,h⟩:=dM r;exact⟨_,_,rfl,q,h⟩
theorem Pe{K:aK}{m:Nat->ah}{n:Nat}{H:Hp}:∀{vs:List V} {ws:List W} {is:List Int},aG K m n H vs ws->aV iZ ws=aD is->vs=is.map .int
 |_,_,_,.nil,e=>by cases e;rfl
 |_,_,_,.cons (w:=w) (ws:=ws) q r,e=>by
  unfold aV at e;cases z:iZ w with
  |none=>rw[z]at e;cases e
  |some b=>
   rw[z]at e;cases z2:aV iZ ws with
   |none=>rw[z2]at e;cases e
   |some cs=>
    rw[z2]at e;cases e;unfold iZ at z;split at z<;>cases z;cases q;rw[Pe r z2];rfl
theorem Pf:∀(r:List Int) (x:Int),x<=dI x r/\∀y∈r,y<=dI x r
 |[],x=>⟨ym _,λ_ h=>nomatch h⟩
 |y::r,x=>by
  have h:=Pf r (if y>x then y else x);by_cases q:y>x;rw[if_pos q]at h;have e:dI x (y::r)=dI y r:=by show dI (if y>x then y else x) r=_;rw[if_pos q]
  rw[e];refine⟨by have:=h.1;lia,λz hz=>?_⟩;rcases fP.mp hz with rfl|hz
  exact h.1;exact h.2 z hz;rw[if_neg q]at h;have e:dI x (y::r)=dI x r:=by show dI (if y>x then y else x) r=_;rw[if_neg q]
  rw[e];refine⟨h.1,λz hz=>?_⟩;rcases fP.mp hz with rfl|hz
  have:=h.1;lia;exact h.2 z hz
theorem Pg:∀(r:List Int) (x:Int),dI x r∈x::r
 |[],x=>fk
 |y::r,x=>by
  have h:=Pg r (if y>x then y else x);by_cases q:y>x;rw[if_pos q]at h;have e:dI x (y::r)=dI y r:=by show dI (if y>x then y else x) r=_;rw[if_pos q]
  rw[e];exact dQ _ h;rw[if_neg q]at h;have e:dI x (y::r)=dI x r:=by show dI (if y>x then y else x) r=_;rw[if_neg q]
  rw[e];rcases fP.mp h with h|h
  rw[h];exact fk;exact dQ _ (dQ _ h)
theorem Xb{K:aK}:eN K (λxs H Q=>(∃i j,xs=[.int i,.int j]/\Q (.int (if j>i then j else i)) H)\/∃(p:ah) (ns:List Int),xs=[.ref p]/\cC K H p (ns.map .int)/\0<ns.length/\∀M,M∈ns->(∀a∈ns,a<=M)->Q (.int M) H) rW:=by
 intro m h H vs xs w h' Q r q e k;unfold rW at e;split at e<;>try cases e
 obtain⟨v,u,rfl,q1,q2⟩:=lV q;cases q1;cases q2;exact .inl ⟨_,_,rfl,aN.here k r (.int _)⟩;rename_i i;split at e<;>try cases e
 rename_i ws g;split at e<;>try cases e
 rename_i x rs z;obtain⟨v,rfl,q1⟩:=dM q;cases q1;obtain⟨us,p1,p2⟩:=r.lst g;refine .inr ⟨_,x::rs,rfl,?_,Nat.succ_pos _,λM h1 h2=>?_⟩;rw[<-Pe p2 z];exact .inl (.inl p1);have l1:=Pf rs x;have hM:M=dI x rs:=by
  have a1:M<=dI x rs:=by rcases fP.mp h1 with rfl|h1;exact l1.1;exact l1.2 M h1
  have a2:=h2 _ (Pg rs x);lia
 rw[hM];exact aN.here k r (.int _)
theorem Xc{K:aK}:eN K (λxs H Q=>∃i j,xs=[.int i,.int j]/\Q (.int (if j<i then j else i)) H) lg:=by
 intro m h H vs xs w h' Q r q e k;unfold lg at e;split at e<;>try cases e
 obtain⟨v,u,rfl,q1,q2⟩:=lV q;cases q1;cases q2;exact⟨_,_,rfl,aN.here k r (.int _)⟩
theorem Ph{K:aK}{m:Nat->ah}{n:Nat}{H:Hp}:∀{vs:List V} {ws:List W} {bs:List Bool},aG K m n H vs ws->aV qm ws=aD bs->vs=bs.map .bl
 |_,_,bs,.nil,e=>by cases e;rfl
 |_,_,bs,.cons (w:=w) (ws:=ws) q r,e=>by
  unfold aV at e;cases z:qm w with
  |none=>rw[z]at e;cases e
  |some b=>
   rw[z]at e;cases z2:aV qm ws with
   |none=>rw[z2]at e;cases e
   |some cs=>
    rw[z2]at e;cases e;unfold qm at z;split at z<;>cases z;cases q;rw[Ph r z2];rfl
theorem Xd{K:aK}:eN K (λxs H Q=>∃(p:ah) (bs:List Bool),xs=[.ref p]/\cC K H p (bs.map .bl)/\Q (.bl (bs.all id)) H) mY:=by
 intro m h H vs xs w h' Q r q e k;unfold mY at e;split at e<;>try cases e
 rename_i i;split at e<;>try cases e
 rename_i ws g;obtain⟨v,rfl,q1⟩:=dM q;obtain⟨e,rfl⟩:=of_ok e;cases z:aV qm ws with
 |none=>rw[z]at e;cases e
 |some bs=>
  rw[z]at e;cases e;cases q1;obtain⟨us,p1,p2⟩:=r.lst g;refine⟨_,bs,rfl,?_,aN.here k r (.bl _)⟩;rw[<-Ph p2 z];exact .inl (.inl p1)
noncomputable def se:Ty->String|.int=>"int" |.bool=>"bool" |.tuple=>"tuple" |.list=>"list" |.str=>"str" |.dict=>"dict"
noncomputable def BU(K:aK)(n:String):List V->Hp->VK->Prop:=λxs H Q=>∃x b,xs=[x,.ty n]/\((∃t,fS K H x t/\PySem.W.kitOne K t (.type n)=aD b)\/(∃a vs,x=.ref a/\bX K H a vs/\PySem.W.kitOne K (.type "tuple") (.type n)=aD b)\/∃a kvs,x=.ref a/\Rd H a (.dK kvs)/\PySem.W.kitOne K (.type "dict") (.type n)=aD b)/\Q (.bl b) H
theorem Xe(n:String):bU X (.builtin "isinstance") (BU X.K n):=by
 intro pins s σ H xs us Q I r h;obtain⟨x,b,rfl,hi,q⟩:=h;obtain⟨u,u2,rfl,rx,rc⟩:=vals2 r;obtain rfl:u2=Value.type n:=rc;rcases hi with⟨t,ty,e⟩|⟨a,vs,rfl,sq,e⟩|⟨a,kvs,rfl,rd,e⟩
 exact Uc I rx ty e λtk=>⟨.bl b,H,I.tok _,rfl,q⟩
 obtain rfl:u=Value.ref a:=rx;obtain⟨its,_,p,_⟩:=I.tuple sq;obtain⟨o,h1,h2,_⟩:=p;exact mH PySem.W.kitx_tuple I.iV ⟨o,h1,h2⟩ e (λz=>nomatch z) λtk=>⟨.bl b,H,I.tok _,rfl,q⟩
 obtain rfl:u=Value.ref a:=rx;obtain⟨_,_,_,_,o,_,_,h1,h2,_⟩:=lM I.hok rd;exact mH PySem.W.kitx_dict I.iV ⟨o,h1,h2.1⟩ e (λz=>nomatch z) λtk=>⟨.bl b,H,I.tok _,rfl,q⟩
theorem Xf{K:aK}(t:Ty){m:Nat->ah}{h:VH}{H:Hp}{v:V}{x:W}{b:Bool}(r:Rel K m h H)(q:aL K m h.n H v x)(e:dU t h x=aD b) :
 (∃t',fS K H v t'/\PySem.W.kitOne K t' (.type (se t))=aD b)\/(∃a vs,v=.ref a/\bX K H a vs/\PySem.W.kitOne K (.type "tuple") (.type (se t))=aD b)\/∃a kvs,v=.ref a/\Rd H a (.dK kvs)/\PySem.W.kitOne K (.type "dict") (.type (se t))=aD b:=by
 cases q with
 |aQ=>cases e;refine .inl ⟨_,.aQ,?_⟩;cases t<;>rfl
 |bl x=>cases e;refine .inl ⟨_,.bl x,?_⟩;cases t<;>rfl
 |int x=>cases e;refine .inl ⟨_,.int x,?_⟩;cases t<;>rfl
 |str x=>cases e;refine .inl ⟨_,.str x,?_⟩;cases t<;>rfl
 |tup sq rs=>cases e;refine .inr (.inl ⟨_,_,rfl,sq,?_⟩);cases t<;>rfl
 |fz _ _=>cases e
 | @ref i hi=>
  simp only[dU]at e;cases g:h.get i with
  |none=>rw[g]at e;cases e
  |some o=>
   rw[g]at e;cases o with
   |lst ws=>
    cases e;obtain⟨vs,h1,h2⟩:=r.lst g;refine .inl ⟨_,.lst h1,?_⟩;cases t<;>rfl
   |dk ws=>
    cases e;obtain⟨vs,h1,h2⟩:=r.dk g;refine .inr (.inr ⟨_,_,rfl,h1,?_⟩);cases t<;>rfl
   |dm _=>cases e
theorem Xg(t:Ty){T:Str}{p2:Pos}(ha:SE X e fa)(hs:g6 e)(hg:Gl X "isinstance")(hm:X.mg "isinstance" = aE)(Xh:Gl X T)(Xi:X.mg T=aE)(Xj:bootBuiltins T=aD (.type (se t)))(hn:T≠"__name__")(hd:(T==("__debug__" : Str))=false) :
 SE X (.Call (.Name "isinstance" p) [e,.Name T p2] [] pos) (λρ h=>(fa ρ h).bind λx h=>.of ((dU t h x).map .bl) h):=by
 have hT:PE X (.Name T p2) (tC (.ty (se t))):=Sl Xh Xi Xj rfl hn hd;refine(Nn (Xe (se t)) hg hm PyProof.Rows.boot_isinstance (Aq ha (Aq hT Ef) (gC hs)) (by decide) (by decide) (gC hs) rfl).imp λσ H Q q=>?_;refine OX (g:=λx h=>.of ((dU t h x).map .bl) h) (G:=λv H1 Q=>BU X.K (se t) [v,.ty (se t)] H1 Q) (λm h H v x w h' Q r q e k=>?_) q;obtain⟨e,rfl⟩:=of_ok e;cases z:dU t h' x with
 |none=>rw[z]at e;cases e
 |some b=>
  rw[z]at e;cases e;exact⟨v,b,rfl,Xf t r q z,aN.here k r (.bl b)⟩
noncomputable def IL:ao->Bool|.Name .. |.Subscript ..=>true|_=>false
theorem Xk{o:ao}{m:Str}{env:Env}(h:IL o):attributeBase o m env (eval o env)=eval o env:=by cases o<;>first|rfl|cases h
noncomputable abbrev Xl(m:Mt)(fo fa:FE):FE:=λρ h=>(fo ρ h).bind λx h=>if BB m h x then(fa ρ h).bind λy h=>match y with|.tup ys=>wL m x ys h|_=>.no else .no
theorem Xm{apos:Pos}(ho:SE X o fo)(he:SE X e fa)(hb:IL o)(hs:g6 e)(hl:(apos.endLine==pos.line)) :
 SE X (.Call (.Attribute o "append" apos) [e] [] pos) (Xl .append fo (oU fa rZ)):=by
 refine(AD (X:=X) PySem.F.plainAttrs_list PySem.F.slot_list_append PySem.F.type_list_append G3 ho (Aq he Ef (gC hs)) (Xk hb) ?_ hl (gC hs) rfl).imp λσ H Q z9=>z9.el λρ h m w h' f r e k=>?_;rw[gC hs];rfl;refine bP e λx h1 e1 e2=>?_;split at e2;rename_i hk;refine bP e2 λy h2 e3 e4=>?_;refine bP e3 λz h3 e5 e6=>?_;cases e6;refine(.mk f r e1 λv H1 m1 s1 r1 q1=>?_);cases x<;>try cases hk
 rename_i i;simp only[BB]at hk;cases g:h1.get i with
 |none=>rw[g]at hk;cases hk
 |some ob=>
  rw[g]at hk;cases ob with
  |dk _=>cases hk
  |dm _=>cases hk
  |lst ws0=>
   cases q1;obtain⟨N2,p1,_⟩:=r1.lst g;refine⟨.inl ⟨rfl,N2,cC.of p1⟩,ρ,h1,m1,z,h2,f.stp s1,r1,e5,λv2 H2 m2 s2 r2 q2=>?_⟩;simp only[wL]at e4;cases g2:h2.get i with
   |none=>rw[g2]at e4;cases e4
   |some ob=>
    rw[g2]at e4;cases ob with
    |dk _=>cases e4
    |dm _=>cases e4
    |lst ws=>
     simp only at e4;split at e4;rename_i hz;cases e4;obtain⟨vs,p2,p3⟩:=r2.lst g2;have hmi:m1 i=m2 i:=(s2.same i (bT g)).symm;refine⟨m1 i,vs,v2,rfl,rfl,by rw[hmi];exact p2,by rw[p3.length];exact i8.mp hz,?_⟩;obtain⟨st,r'⟩:=r2.write (i:=i) (o:=.lst (ws++[z])) (u:=.lst (vs++[v2])) (bT g2) p2 (λ_ z=>nomatch z) (λ_ _ z=>nomatch z) λst=>⟨vs++[v2],iu,(p3.stp st).append (.cons (q2.stp st) .nil)⟩
     rw[hmi];exact k .aQ _ m2 ((s1.trans s2).trans st) r' .aQ;cases e4
 cases e2
end
section
variable{K:aK}{m m' m1:Nat->ah}{n n' n1:Nat}{h h':VH}{H H' H1:Hp}
mutual
theorem aL.mono(hn:n<=n')(hm:∀i,i<n->m' i=m i)(kt:∀b vs,H b=aD (.tup vs)->H' b=aD (.tup vs))(kf:∀b o u,H b=aD (.bL o u)->H' b=aD (.bL o u)):∀{v:V} {w:W},aL K m n H v w->aL K m' n' H' v w
 |_,_,.aQ=>.aQ
 |_,_,.bl b=>.bl b
 |_,_,.int b=>.int b
 |_,_,.str b=>.str b
 |_,_,.tup q r=>.tup (by
  rcases q with(q|⟨o,q⟩)|q;exact .inl (.inl (kt _ _ q));exact .inl (.inr ⟨o,kf _ _ _ q⟩);exact .inr q) (aG.mono hn hm kt kf r)
 |_,_,.fz q r=>.fz (by
  rcases q with⟨o,q⟩|q;exact .inl ⟨o,kf _ _ _ q⟩;exact .inr q) (aG.mono hn hm kt kf r)
 |_,_,.ref (i:=i) q=>by rw[<-hm i q];exact .ref (dP q hn)
theorem aG.mono(hn:n<=n')(hm:∀i,i<n->m' i=m i)(kt:∀b vs,H b=aD (.tup vs)->H' b=aD (.tup vs))(kf:∀b o u,H b=aD (.bL o u)->H' b=aD (.bL o u)):∀{vs:List V} {ws:List W},aG K m n H vs ws->aG K m' n' H' vs ws|_,_,.nil=>.nil|_,_,.cons q r=>.cons (aL.mono hn hm kt kf q) (aG.mono hn hm kt kf r)
end
theorem Rel.side(r:Rel K m h H){D:ah}{u u0:HO}(hu:H D=aD u0)(ht:∀t,u0≠.tup t)(hf:∀o t,u0≠.bL o t)(ho:∀i,i<h.n->m i≠D)(s:bQ m1 n1 H1 m h.n H)(h0:H1 D=aE) :
 bQ m1 n1 H1 m h.n (upd H D u)/\Rel K m h (upd H D u)/\∀{v:V}{w:W},aL K m h.n H v w->aL K m h.n (upd H D u) v w:=by
 have kt:∀b vs,H b=aD (.tup vs)->upd H D u b=aD (.tup vs):=λb vs q=>by rw[bV (cP q hu λz=>ht vs z.symm)];exact q
 have kf:∀b o t,H b=aD (.bL o t)->upd H D u b=aD (.bL o t):=λb o t q=>by rw[bV (cP q hu λz=>hf o t z.symm)];exact q
 have mv:∀{v:V}{w:W},aL K m h.n H v w->aL K m h.n (upd H D u) v w:=λq=>q.mono (aT _) (λ_ _=>rfl) kt kf;refine⟨⟨s.le,s.same,s.new,s.apart,λb vs q=>kt b vs (s.tup b vs q),λb o t q=>kf b o t (s.bL b o t q),λb o nb q=>by rw[bV (gY q h0)];exact s.keep b o nb q⟩,⟨λi hi=>?_,r.inj,r.len⟩,mv⟩;obtain⟨o,h1,h2⟩:=r.obj i hi;have eq:upd H D u (m i)=H (m i):=bV (ho i hi);refine⟨o,h1,?_⟩;cases o with|lst ws=>obtain⟨vs,q1,q2⟩:=h2;exact⟨vs,eq.trans q1,q2.map mv⟩|dk ws=>obtain⟨vs,q1,q2⟩:=h2;exact⟨vs,q1.imp (λz=>eq.trans z) λ⟨o,z⟩=>⟨o,eq.trans z⟩,q2.map mv⟩|dm ws=>obtain⟨vs,q1,q2⟩:=h2;exact⟨vs,eq.trans q1,q2.map mv⟩
theorem Rel.out(r:Rel K m h H){p:ah}(hp:H p=aE):∀i,i<h.n->m i≠p:=λi hi z=>by
 obtain⟨o',_,h2⟩:=r.obj i hi;obtain⟨u',h3⟩:=h2.some;rw[z,hp]at h3;cases h3
theorem bQ.out(s:bQ m n H m' n' H'){p:ah}{u:HO}(hp:∀i,i<n->m i≠p)(hu:H p=aD u):∀i,i<n'->m' i≠p:=λi hi z=>by
 by_cases hl:i<n;exact hp i hl ((s.same i hl).symm.trans z);have:=s.new i (jH.mp hl) hi;rw[z,hu]at this;cases this
end
inductive iC(K:aK)(m:Nat->ah)(n:Nat)(H:Hp):List (V×V)->List W->Prop
 |nil:iC K m n H [] []
 |cons {k v:V} {a b:W} {ps:List (V×V)} {ws:List W}:aL K m n H k a->aL K m n H v b->iC K m n H ps ws->iC K m n H ((k,v)::ps) (a::b::ws)
noncomputable def oV(K:aK)(f:FE)(σ:L2.St)(H:Hp)(Q:List (V×V)->Hp->Prop):Prop:=∃ρ h m ws h',Fr K m h.n H σ ρ/\Rel K m h H/\f ρ h=.ok (.tup ws) h'/\
 ∀ps H' m',bQ m h.n H m' h'.n H'->Rel K m' h' H'->iC K m' h'.n H' ps ws->Q ps H'
theorem oV.el{K:aK}{σ:L2.St}{H:Hp}{P:Prop}{fa:FE}{Q:List (V×V)->Hp->Prop}(q:oV K fa σ H Q)(k:∀ρ h m ws h',Fr K m h.n H σ ρ->Rel K m h H->fa ρ h=.ok (.tup ws) h'->(∀ps H' m',bQ m h.n H m' h'.n H'->Rel K m' h' H'->iC K m' h'.n H' ps ws->Q ps H')->P):P:=by obtain⟨ρ,h,m,w,h',f,r,e,k'⟩:=q;exact k ρ h m w h' f r e k'
theorem oV.mk{K:aK}{σ:L2.St}{H:Hp}{m:Nat->ah}{ρ:En}{h h':VH}{ws:List W}{fa:FE}{Q:List (V×V)->Hp->Prop}(f:Fr K m h.n H σ ρ)(r:Rel K m h H)(e:fa ρ h=.ok (.tup ws) h')(k:∀ps H' m',bQ m h.n H m' h'.n H'->Rel K m' h' H'->iC K m' h'.n H' ps ws->Q ps H'):oV K fa σ H Q:=⟨ρ,h,m,ws,h',f,r,e,k⟩
noncomputable def BV(X:Cx)(pos:Pos)(keys:List (Option ao))(values:List ao)(f:FE):Prop:=∃lN,AQ X pos keys values lN/\∀σ H Q,oV X.K f σ H Q->Es lN σ H Q
section
variable{X:Cx}{a b c e o:ao}{es:List ao}{fa fb fc fo fr:FE}{pos p:Pos}{x:Str}
theorem Xn:BV X pos [] [] rZ:=⟨[],Vh,λσ H Q z9=>z9.el λρ h m ws h' f r e k=>by cases e;exact k [] H m .refl r .nil⟩
theorem Xo{ks:List (Option ao)}{vs:List ao}(ha:SE X a fa)(hb:SE X b fb)(hr:BV X pos ks vs fr):BV X pos (aD a::ks) (b::vs) (oU fa (oU fb fr)):=by
 obtain⟨lN,h1,h2⟩:=hr;refine⟨_,Vi ha hb h1,λσ H Q z9=>z9.el λρ h m ws h' f r e k=>?_⟩;refine bP e λx h3 e1 e2=>?_;refine bP e2 λy h4 e3 e4=>?_;refine bP e3 λx2 h5 e5 e6=>?_;refine bP e6 λy2 h6 e7 e8=>?_;cases y2<;>try cases e8
 cases e4;rename_i ys;exact(.mk f r e1 λv H1 m1 s1 r1 q1=>(.mk (f.stp s1) r1 e5 λv2 H2 m2 s2 r2 q2=>h2 σ H2 _ (.mk ((f.stp s1).stp s2) r2 e7 λps H3 m3 s3 r3 q3=>
  k _ H3 m3 ((s1.trans s2).trans s3) r3 (.cons ((q1.stp s2).stp s3) (q2.stp s3) q3))))
theorem Pj{K:aK}{m:Nat->ah}{n:Nat}{H:Hp}:∀{ps:List (V×V)} {ws:List W} {kws:List (Key×W)},iC K m n H ps ws->uy ws=aD kws->∃kvs:List (Key×V),ps=kvs.map (λkv=>(kV kv.1,kv.2))/\aP K m n H kvs kws
 |_,_,_,.nil,e=>by cases e;exact⟨[],rfl,.nil⟩
 |_,_,_,.cons (a:=a) (v:=v) q1 q2 r,e=>by
  simp only[uy]at e;split at e;rename_i k hk;split at e;rename_i kvs hp;cases e;obtain⟨kv,rfl,r'⟩:=Pj r hp;refine⟨(k,v)::kv,?_,.cons q2 r'⟩;rw[gQ,WX q1 hk];cases e;cases e
noncomputable abbrev IM(f:FE):FE:=λρ h=>(f ρ h).bind λy h=>match y with
 |.tup ys=>(match uy ys with
  |some kvs=>if Nat.ble kvs.length 15 then .ok (.ref h.n) (h.new (BC kvs))else .no
  |none=>.no)
 |_=>.no
theorem Xp(hu:X.A.units+2<cLine){keys:List (Option ao)}{values:List ao}(hp:BV X pos keys values fa)(hall:keys.all (·.isSome))(hl:keys.length=values.length)(h0:keys≠[])(HQ:keys.length<=15):SE X (.Dict keys values pos) (IM fa):=by
 obtain⟨lN,h1,h2⟩:=hp;refine(Vj h1 hall hl h0 HQ).imp λσ H Q z9 p hp=>z9.el λρ h m w h' f r e k=>?_;refine bP e λy h3 e1 e2=>?_;cases y<;>try cases e2
 rename_i ys;obtain⟨kI,r0⟩:=r.more (u:=.dK []) hp;refine h2 σ _ _ (.mk (f.stp kI) r0 e1 λps H2 m2 s2 r2 q2=>?_);have hout:=s2.out (r.out hp) iu;have hD:H2 p=aD (.dK []):=s2.keep p _ (r.out hp) iu;refine⟨hD,?_⟩;have e2:(match uy ys with|some kvs=>if Nat.ble kvs.length 15 then Res.ok (W.ref h3.n) (h3.new (BC kvs))else .no|none=>.no)=.ok w h':=e2
 cases hk:uy ys with
 |none=>
  rw[hk]at e2;cases e2
 |some kws=>
  rw[hk]at e2;have e2:(if Nat.ble kws.length 15 then Res.ok (W.ref h3.n) (h3.new (BC kws))else .no)=.ok w h':=e2;by_cases hz:Nat.ble kws.length 15=true;rw[if_pos hz]at e2;cases e2;obtain⟨kvs,e3,q3⟩:=Pj q2 hk;refine⟨kvs,e3,by rw[q3.length];exact kr hz,?_⟩;obtain⟨st,r'⟩:=r2.adopt (o:=BC kws) (u:=.dK (ug [] kvs)) hout hD (λ_ z=>nomatch z) (λ_ _ z=>nomatch z) (kI.trans s2) hp λ_ mv=>⟨_,.inl iu,(q3.merge .nil).map mv⟩
  refine k _ _ _ st r' ?_;have:aL X.K (λi=>if i=h3.n then p else m2 i) (h3.n+1) (upd H2 p (.dK (ug [] kvs))) (.ref ((λi=>if i=h3.n then p else m2 i) h3.n)) (.ref h3.n):=.ref (iT _);simp only[bZ]at this;exact this;rw[if_neg hz]at e2;cases e2
noncomputable def oW(K:aK)(np:Nat)(g:List W->VH->Res W):Sp:=λvs H Q _=>vs.length=np/\∃h m ws w h',Rel K m h H/\aG K m h.n H vs ws/\g ws h=.ok w h'/\aN K m h.n H w h' Q
theorem Xq{k:Nat}{f:ah}{fd:av}{ps:List Str}{g:List W->VH->Res W}(F:fE X.prog X.w X.K X.mg X.base lI k f fd ps (oW X.K ps.length g))(hr:cM k X.A)(hg:Gl X x)(hm:X.mg x=aD (.ref f))(hk:PySem.W.keepIn X.K (.ref f)=true)
 (hb:Binds X.K fd ps []) (ha:SA X (e::es) fa) (hs:(e::es).all g6) (hdb:(x==("__debug__" : Str))=false) (hn:∀ws h w h',g ws h=.ok w h'->ws.length=ps.length):SE X (.Call (.Name x p) (e::es) [] pos) (jr fa g):=by
 rw[qM,bE]at hs;refine(Nf F hr hg hm hk hb .nil oh ha hdb (gC hs.1) (BS hs.2)).imp λσ H Q q=>wM (G:=λvs H1 Q=>oW X.K ps.length g (vs++[]) H1 Q E0) (λm h H vs xs w h' Q r q e k=>?_) q;rw[nI];exact⟨by rw[q.length];exact hn _ _ _ _ e,h,m,xs,w,h',r,q,e,k⟩
theorem Xr{k:Nat}{f:ah}{fd:av}{ps:List Str}{g:List W->VH->Res W}(F:fE X.prog X.w X.K X.mg X.base lI k f fd ps (oW X.K ps.length g))(hr:cM k X.A)(hg:Gl X x)(hm:X.mg x=aD (.ref f))(hk:PySem.W.keepIn X.K (.ref f)=true)
 (hb:Binds X.K fd ps []) (hdb:(x==("__debug__" : Str))=false) (hn:∀ws h w h',g ws h=.ok w h'->ws.length=ps.length):SE X (.Call (.Name x p) [] [] pos) (jr rZ g):=by
 refine(Ug F hr hg hm hk hb .nil oh hdb).imp λσ H Q z9=>z9.el λρ h m w h' f r e k=>?_;exact⟨hn _ _ _ _ e,h,m,[],w,h',r,.nil,e,k⟩
theorem Xs{k:Nat}{f:ah}{fd:av}{ps:List Str}{g:List W->VH->Res W}(F:fE X.prog X.w X.K X.mg X.base lI k f fd ps (oW X.K ps.length g))(hr:cM k X.A)(hg:Gl X x)(hm:X.mg x=aD (.ref f))(hk:PySem.W.keepIn X.K (.ref f)=true)
 (hb:Binds X.K fd ps [.none]) (ha:SA X (e::es) fa) (hs:(e::es).all g6) (hdb:(x==("__debug__" : Str))=false) (hn:∀ws h w h',g ws h=.ok w h'->ws.length=ps.length):SE X (.Call (.Name x p) (e::es) [] pos) (jr fa λws h=>g (ws++[.aQ]) h):=by
 rw[qM,bE]at hs;refine(Nf F hr hg hm hk hb (nZ:=[V.aQ]) (.cons rfl .nil) oh ha hdb (gC hs.1) (BS hs.2)).imp λσ H Q q=>wM (G:=λvs H1 Q=>oW X.K ps.length g (vs++[V.aQ]) H1 Q E0) (λm h H vs xs w h' Q r q e k=>?_) q;have q':aG X.K m h.n H (vs++[V.aQ]) (xs++[W.aQ]):=q.append (.cons .aQ .nil);exact⟨by rw[q'.length];exact hn _ _ _ _ e,h,m,xs++[W.aQ],w,h',r,q',e,k⟩
noncomputable def jt(K:aK)(nx:Nat->VH->Option (Option W))(J:It)(P:(Nat->ah)->Nat->Hp->Prop):Prop:=
 (∀m n H m' n' H',n<=n'->(∀i,i<n->m' i=m i)->(∀b vs,H b=aD (.tup vs)->H' b=aD (.tup vs))->(∀b o u,H b=aD (.bL o u)->H' b=aD (.bL o u))->P m n H->P m' n' H')/\
 ∀m h H,Rel K m h H->P m h.n H->∀i,(∀w,nx i h=aD (aD w)->J.go i H/\∀y H3,J.vS i H y H3->bQ m h.n H m h.n H3/\Rel K m h H3/\aL K m h.n H3 y w)/\(nx i h=aD aE->J.stop i H)
noncomputable def cy(K:aK)(kd:Kd)(f:FE):TI:=λσ H R=>∃ρ h m x h',Fr K m h.n H σ ρ/\Rel K m h H/\f ρ h=.ok x h'/\(∃o,bg kd x 0 h'=aD o)/\
 ∀J P H' m',bQ m h.n H m' h'.n H'->Rel K m' h' H'->jt K (bg kd x) J P->P m' h'.n H'->R J H'
theorem cy.el{K:aK}{σ:L2.St}{H:Hp}{P:Prop}{kd:Kd}{fa:FE}{R}(q:cy K kd fa σ H R)(k:∀ρ h m x h',Fr K m h.n H σ ρ->Rel K m h H->fa ρ h=.ok x h'->∀o,bg kd x 0 h'=aD o->(∀J P H' m',bQ m h.n H m' h'.n H'->Rel K m' h' H'->jt K (bg kd x) J P->P m' h'.n H'->R J H')->P):P:=by obtain⟨ρ,h,m,w,h',f,r,e,⟨o,eo⟩,k'⟩:=q;exact k ρ h m w h' f r e o eo k'
theorem cy.mk{K:aK}{σ:L2.St}{H:Hp}{m:Nat->ah}{ρ:En}{h h':VH}{x:W}{kd:Kd}{fa:FE}{R}(f:Fr K m h.n H σ ρ)(r:Rel K m h H)(e:fa ρ h=.ok x h')(eo:∃o,bg kd x 0 h'=aD o)(k:∀J P H' m',bQ m h.n H m' h'.n H'->Rel K m' h' H'->jt K (bg kd x) J P->P m' h'.n H'->R J H'):cy K kd fa σ H R:=⟨ρ,h,m,x,h',f,r,e,eo,k⟩
theorem IP{K:aK}{H H':Hp}{a:ah}{vs:List V}(kt:∀b vs,H b=aD (.tup vs)->H' b=aD (.tup vs))(kf:∀b o u,H b=aD (.bL o u)->H' b=aD (.bL o u))(q:bX K H a vs):bX K H' a vs:=by rcases q with(q|⟨o,q⟩)|q;exact .inl (.inl (kt _ _ q));exact .inl (.inr ⟨o,kf _ _ _ q⟩);exact .inr q
theorem Pk{K:aK}{H H':Hp}{a:ah}{vs:List V}(kf:∀b o u,H b=aD (.bL o u)->H' b=aD (.bL o u))(q:Fz K H a vs):Fz K H' a vs:=by rcases q with⟨o,q⟩|q;exact .inl ⟨o,kf _ _ _ q⟩;exact .inr q
theorem yQ{ws:List W}{h:VH}{x:W}{i:Nat}{o:Option W}(e:aS h x=aD ws)(q:bg .seq x i h=aD o):ws[i]?=o:=by simp only[bg,e]at q;cases q;rfl
theorem Xu{K:aK}{a:ah}{vs:List V}{ws:List W}:jt K (bg .seq (.tup ws)) (GN K a) (λm n H=>bX K H a vs/\aG K m n H vs ws):=by refine⟨λm n H m' n' H' hn hm kt kf ⟨q1,q2⟩=>⟨IP kt kf q1,q2.mono hn hm kt kf⟩,λm h H r ⟨q1,q2⟩ i=>⟨λw e=>?_,λe=>?_⟩⟩;have e:=yQ (ws:=ws) rfl e;obtain⟨v,h1,h2⟩:=q2.get e;refine⟨⟨vs,v,q1,h1⟩,λy H3 ⟨e3,y3⟩=>?_⟩;subst e3;have:=y3 vs q1;rw[h1]at this;cases this;exact⟨.refl,r,h2⟩;have e:=yQ (ws:=ws) rfl e;exact⟨vs,q1,by rw[q2.length];exact nP.mp e⟩
theorem BW{K:aK}{a:ah}{vs:List V}{ws:List W}:jt K (bg .seq (.fz ws)) (Eb K a) (λm n H=>Fz K H a vs/\aG K m n H vs ws):=by refine⟨λm n H m' n' H' hn hm kt kf ⟨q1,q2⟩=>⟨Pk kf q1,q2.mono hn hm kt kf⟩,λm h H r ⟨q1,q2⟩ i=>⟨λw e=>?_,λe=>?_⟩⟩;have e:=yQ (ws:=ws) rfl e;obtain⟨v,h1,h2⟩:=q2.get e;refine⟨⟨vs,v,q1.sq,h1⟩,λy H3 ⟨e3,y3⟩=>?_⟩;subst e3;have:=y3 vs q1.sq;rw[h1]at this;cases this;exact⟨.refl,r,h2⟩;have e:=yQ (ws:=ws) rfl e;exact⟨vs,q1.sq,by rw[q2.length];exact nP.mp e⟩
theorem Xv{K:aK}{a:ah}{l:Nat}:jt K (bg .seq (.ref l)) (Eb K a) (λm n H=>l<n/\a=m l):=by
 refine⟨λm n H m' n' H' hn hm kt kf ⟨q1,q2⟩=>⟨dP q1 hn,by rw[hm l q1];exact q2⟩,λm h H r ⟨q1,q2⟩ i=>?_⟩;subst q2;cases g:h.get l with
 |none=>exact⟨λw e=>by simp[bg,aS,g]at e,λe=>by simp[bg,aS,g]at e⟩
 |some o=>
  cases o with
  |dk _=>exact⟨λw e=>by simp[bg,aS,g]at e,λe=>by simp[bg,aS,g]at e⟩
  |dm _=>exact⟨λw e=>by simp[bg,aS,g]at e,λe=>by simp[bg,aS,g]at e⟩
  |lst ws=>
   have hs:aS h (.ref l)=aD ws:=by simp[aS,g]
   obtain⟨vs,p1,p2⟩:=r.lst g;refine⟨λw e=>?_,λe=>?_⟩;have e:=yQ hs e;obtain⟨v,h1,h2⟩:=p2.get e;refine⟨⟨vs,v,cC.of p1,h1⟩,λy H3 ⟨e3,y3⟩=>?_⟩;subst e3;have:=y3 vs (cC.of p1);rw[h1]at this;cases this;exact⟨.refl,r,h2⟩;have e:=yQ hs e;exact⟨vs,cC.of p1,by rw[p2.length];exact nP.mp e⟩
theorem Pn{K:aK}{kd:Kd}{x:W}{lo:Int}{k:Nat}(hx:∀i h,bg kd x i h=aD (if i<k then aD (.int (lo+i))else aE)):jt K (bg kd x) (Aa lo k) (λ_ _ _=>True):=by refine⟨λ_ _ _ _ _ _ _ _ _ _ _=>trivial,λm h H r _ i=>⟨λw e=>?_,λe=>?_⟩⟩;rw[hx]at e;split at e;rename_i hi;cases e;refine⟨hi,λy H3 ⟨e3,y3⟩=>?_⟩;subst e3 y3;exact⟨.refl,r,.int _⟩;cases e;rw[hx]at e;split at e;cases e;rename_i hi;exact jH.mp hi
theorem Po{tg:ao}(ha:SE X e fa):PI X tg e (cy X.K .seq fa):=λpins s σ H R I z9=>z9.el λρ h m x h' f r ee o en k=>by
 have hs:∃ws,aS h' x=aD ws:=by
  cases z:aS h' x with|none=>simp[bg,z]at en|some ws=>exact⟨ws,rfl⟩
 obtain⟨ws,hs⟩:=hs;cases x<;>try cases hs
 exact Ti ha pins s σ H R I (.mk f r ee λv H' m' s' r' q=>by
  cases q with|tup sq rs=>exact⟨_,rfl,⟨_,sq⟩,k _ _ H' m' s' r' Xu ⟨sq,rs⟩⟩)
 exact Na ha pins s σ H R I (.mk f r ee λv H' m' s' r' q=>by
  cases q with|fz sq rs=>exact⟨_,rfl,⟨_,sq.sq⟩,k _ _ H' m' s' r' BW ⟨sq,rs⟩⟩)
 rename_i l;exact Na ha pins s σ H R I (.mk f r ee λv H' m' s' r' q=>by
  obtain⟨p,vs,e1,e2,e3⟩:=yN r' q hs;cases q with
  |ref hi=>
   cases g:h'.get l with
   |none=>simp[aS,g]at hs
   |some ob=>
    cases ob with
    |dk _=>simp[aS,g]at hs
    |dm _=>simp[aS,g]at hs
    |lst E1=>
     obtain⟨vs',p1,_⟩:=r'.lst g;exact⟨_,rfl,⟨_,cC.of p1⟩,k _ _ H' m' s' r' Xv ⟨hi,rfl⟩⟩)
theorem Xw{tg:ao}(ha:SA X [e] fa)(hs:g6 e)(hg:Gl X "range")(hm:X.mg "range" = aE):PI X tg (.Call (.Name "range" p) [e] [] pos) (cy X.K .bG fa):=λpins s σ H R I z9=>z9.el λρ h m x h' f r ee o en k=>by
 simp only[bg]at en;split at en;rename_i j;split at en;rename_i hf;refine Tj hg hm ha (gC hs) pins s σ H R I (.mk f r ee λvs H' m' s' r' q=>?_);obtain⟨v,rfl,q1⟩:=dM q;cases q1;refine⟨_,rfl,(wQ hf).1,(wQ hf).2,k _ _ H' m' s' r' (Pn λi h=>?_) trivial⟩;simp only[bg,hf,bZ];split<;>split<;>first|rfl|(exfalso;simp at *;lia)
 cases en;cases en
theorem Xx{tg:ao}(ha:SA X [a,b] fa)(hs:g6 a)(hs2:g6 b)(hg:Gl X "range")(hm:X.mg "range" = aE):PI X tg (.Call (.Name "range" p) [a,b] [] pos) (cy X.K .wH fa):=λpins s σ H R I z9=>z9.el λρ h m x h' f r ee o en k=>by
 simp only[bg]at en;split at en;rename_i i j;split at en;rename_i hf;refine Tn hg hm ha (by rw[gC hs,gC hs2];rfl) (gC hs2) pins s σ H R I (.mk f r ee λvs H' m' s' r' q=>?_);obtain⟨v,u,rfl,q1,q2⟩:=lV q;cases q1;cases q2;have hf2:=hf;rw[bE]at hf2;refine⟨_,_,rfl,⟨(wQ hf2.1).1,(wQ hf2.1).2,(wQ hf2.2).1,(wQ hf2.2).2⟩,k _ _ H' m' s' r' (Pn λi h=>?_) trivial⟩;simp only[bg,hf,bZ];split<;>split<;>first|rfl|(exfalso;simp at *;lia)
 cases en;cases en
theorem Xy{elts:List ao}{kx:Nat}{tp:Pos}{l:ao}{ta:TA}(hg:Gl X "enumerate")(hm:X.mg "enumerate" = aE)(hv:bootBuiltins "enumerate" = aD (.type "enumerate"))(ha:PA X [l] ta)(hs:starEach [l] X.env=[(false,eval l X.env)]) :
 PI X (.Tuple elts kx tp) (.Call (.Name "enumerate" p) [l] [] pos) (λσ H R=>ta σ H λvs H1=>∃a,vs=[.ref a]/\(∃xs,bX X.K H1 a xs)/\R (wm X.K a) H1):=by
 intro pins s σ H R I h;refine Call_ (qR I hg hm hv (vH (aW (ha pos pins s σ H _ I h) λus s1 ⟨vs,H1,I1,r1,q1⟩=>?_) hs rfl));obtain⟨a,e,⟨xs,hq⟩,q⟩:=q1;subst e;obtain⟨u,rfl,ru⟩:=vals1 r1;cases ru;obtain⟨its,rv,pl,hz⟩:=I1.tuple hq;have pl:s1.heap.IsTuple a its.toArray:=pl;have hlt:a<s1.heap.objs.size:=by obtain⟨o,q,_⟩:=pl;exact cH q
 refine U8 pl λh' he hit hsz kk=>wpAny_pyIter_enum he ?_;have hf:∀b,s1.heap.objs.size<=b->dR X pins H1 b:=λb hb=>I1.kX hb (I1.hok.fresh hb);refine⟨s1.heap.objs.size+1,[s1.heap.objs.size+1,s1.heap.objs.size],_,_,H1,rfl,I1.kept (t':=s1.toks) kk,U9 a _ _ (pX (iT _)) (fR (tQ hlt)) (fR hlt),⟨⟨_,he⟩,hit⟩,λb hb=>hf b ?_,q⟩;rcases fP.mp hb with rfl|hb
 exact tS _;have e':b=s1.heap.objs.size:=by simpa using hb
 rw[e'];exact aT _
theorem Pp{ws:List W}{h:VH}{i:Nat}{o:Option W}(q:bg .ql (.tup ws) i h=aD o):o=(ws[i]?).map λw=>.tup [.int i,w]:=by cases q;rfl
theorem Xz{K:aK}{a:ah}{vs:List V}{ws:List W}:jt K (bg .ql (.tup ws)) (wm K a) (λm n H=>bX K H a vs/\aG K m n H vs ws):=by
 refine⟨λm n H m' n' H' hn hm kt kf ⟨q1,q2⟩=>⟨IP kt kf q1,q2.mono hn hm kt kf⟩,λm h H r ⟨q1,q2⟩ i=>⟨λw e=>?_,λe=>?_⟩⟩;have e:=Pp (ws:=ws) e;cases z:ws[i]? with
 |none=>rw[z]at e;cases e
 |some w0=>
  rw[z]at e;cases e;obtain⟨v,h1,h2⟩:=q2.get z;refine⟨⟨vs,v,q1,h1⟩,λy H3 ⟨T,v3,e1,e2,e3,y3⟩=>?_⟩;subst e1 e3;have:=y3 vs q1;rw[h1]at this;cases this;obtain⟨st,r'⟩:=r.more (u:=.tup [.int i,v]) e2;exact⟨st,r',.tup (bX.of iu) (.cons (.int _) (.cons (h2.stp st) .nil))⟩
 have e:=Pp (ws:=ws) e;cases z:ws[i]? with|some w0=>rw[z]at e;cases e|none=>exact⟨vs,q1,by rw[q2.length];exact nP.mp z⟩
theorem XA:bootBuiltins "enumerate" = aD (.type "enumerate"):=by decide +kernel
theorem Ij(ha:SE X e fa)(hs:g6 e):PA X [e] (λσ H Q=>gu X.K fa σ H λv H1=>Q [v] H1):=λp pins s σ H Q I q=>by
 refine Aq ha Ef (gC hs) p pins s σ H Q I ?_;refine q.el λρ h m w h' f r ee k=>?_;exact(.mk f r ee λv H' m' s' r' q'=>k v H' m' s' r' q')
theorem XC{elts:List ao}{kx:Nat}{tp:Pos}(ha:SE X e fa)(hs0:g6 e)(hg:Gl X "enumerate")(hm:X.mg "enumerate" = aE):PI X (.Tuple elts kx tp) (.Call (.Name "enumerate" p) [e] [] pos) (cy X.K .ql fa):=λpins s σ H R I z9=>z9.el λρ h m x h' f r ee o en k=>by
 cases x with
 |tup ws=>exact Xy hg hm XA (Ij ha hs0) (gC hs0) pins s σ H R I ⟨ρ,h,m,_,h',f,r,ee,λv H' m' s' r' q=>by
  cases q with|tup sq rs=>exact⟨_,rfl,⟨_,sq⟩,k _ _ H' m' s' r' Xz ⟨sq,rs⟩⟩⟩
 |_=>cases en
theorem XD{elts:List ao}{kx:Nat}{tp:Pos}{l l2:ao}{ta:TA}(hg:Gl X "zip")(hm:X.mg "zip" = aE)(ha:PA X [l,l2] ta)(hs:starEach [l,l2] X.env=[(false,eval l X.env),(false,eval l2 X.env)])(hs2:starEach [l2] X.env=[(false,eval l2 X.env)]) :
 PI X (.Tuple elts kx tp) (.Call (.Name "zip" p) [l,l2] [] pos) (λσ H R=>ta σ H λvs H1=>∃b c a1 a2,vs=[.ref a1,.ref a2]/\(∃xs,mT b X.K H1 a1 xs)/\(∃ys,mT c X.K H1 a2 ys)/\R (wz X.K b c a1 a2) H1):=by
 intro pins s σ H R I h;refine Call_ (qR I hg hm PyProof.Rows.boot_zip (vH (aW (ha pos pins s σ H _ I h) λus s1 ⟨vs,H1,I1,r1,q1⟩=>?_) (by rw[hs,hs2]) (by rw[hs2];rfl)));obtain⟨b,c,a1,a2,e,⟨xs,hq⟩,⟨ys,hr⟩,q⟩:=q1;subst e;cases r1 with
 |cons r rr=>
  cases rr with
  |cons r' rr=>
   cases rr;cases r;cases r';obtain⟨its,_,pl,_⟩:=yH I1 hq;obtain⟨Od,_,Pq,_⟩:=yH I1 hr;refine VQ pl Pq λh' e1 e2 e3 e4 e5 hsz kk=>wpAny_pyIter_zip e1 ?_;have hf:∀b,s1.heap.objs.size<=b->dR X pins H1 b:=λb hb=>I1.kX hb (I1.hok.fresh hb);refine⟨s1.heap.objs.size+4,_,_,_,H1,rfl,I1.kept (t':=s1.toks) kk,VR a1 a2 _ _ _ _ _ (VB pl.lt Pq.lt),⟨e1,e2,⟨_,_,e3⟩,e4,e5⟩,λb hb=>hf b ?_,q⟩;simp only[fP,DJ,or_false]at hb;rcases hb with rfl|rfl|rfl|rfl|rfl
   exact DA _ _;exact DA _ _;exact DA _ _;exact aT _;exact DA _ _
noncomputable def Src(K:aK)(b:Bool)(a:ah)(u:W)(P:(Nat->ah)->Nat->Hp->Prop):Prop:=
 (∀m n H m' n' H',n<=n'->(∀i,i<n->m' i=m i)->(∀b vs,H b=aD (.tup vs)->H' b=aD (.tup vs))->(∀b o u,H b=aD (.bL o u)->H' b=aD (.bL o u))->P m n H->P m' n' H')/\
 ∀m h H ws,Rel K m h H->P m h.n H->aS h u=aD ws->∃vs,mT b K H a vs/\aG K m h.n H vs ws
theorem Pu{K:aK}{m:Nat->ah}{h:VH}{H:Hp}{v:V}{u:W}{ws:List W}(r:Rel K m h H)(q:aL K m h.n H v u)(e:aS h u=aD ws):∃b a P,v=.ref a/\Src K b a u P/\P m h.n H/\∃xs,mT b K H a xs:=by
 cases q with
 |aQ=>cases e
 |bl b=>cases e
 |int b=>cases e
 |str b=>cases e
 |tup sq rs=>exact⟨true,_,λm n H=>bX K H _ _/\aG K m n H _ _,rfl,⟨λm n H m' n' H' hn hm kt kf ⟨q1,q2⟩=>⟨IP kt kf q1,q2.mono hn hm kt kf⟩,λm h H ws _ ⟨q1,q2⟩ z=>by cases z;exact⟨_,q1,q2⟩⟩,⟨sq,rs⟩,_,sq⟩
 |fz sq rs=>exact⟨false,_,λm n H=>Fz K H _ _/\aG K m n H _ _,rfl,⟨λm n H m' n' H' hn hm kt kf ⟨q1,q2⟩=>⟨Pk kf q1,q2.mono hn hm kt kf⟩,λm h H ws _ ⟨q1,q2⟩ z=>by cases z;exact⟨_,q1.sq,q2⟩⟩,⟨sq,rs⟩,_,sq.sq⟩
 |ref hi=>
  rename_i l;have key:∀m (h:VH) H ws,Rel K m h H->aS h (.ref l)=aD ws->∃vs,H (m l)=aD (.lst vs)/\aG K m h.n H vs ws:=λm h H ws r z=>by
   cases g:h.get l with
   |none=>simp[aS,g]at z
   |some o=>
    cases o with
    |dk _=>simp[aS,g]at z
    |dm _=>simp[aS,g]at z
    |lst E1=>
     have:E1=ws:=by simpa[aS,g]using z
     subst this;exact r.lst g
  obtain⟨vs,p1,_⟩:=key m h H ws r e;refine⟨false,_,λm' n _=>l<n/\m l=m' l,rfl,⟨λm1 n H m' n' H' hn hm kt kf ⟨q1,q2⟩=>⟨dP q1 hn,by rw[hm l q1];exact q2⟩,λm1 h H ws r' ⟨q1,q2⟩ z=>?_⟩,⟨hi,rfl⟩,vs,cC.of p1⟩;obtain⟨vs,g1,g2⟩:=key m1 h H ws r' z;rw[q2];exact⟨vs,cC.of g1,g2⟩
theorem IQ{u v:W}{h:VH}{i:Nat}{o:Option W}(q:bg .zip (.tup [u,v]) i h=aD o):∃ws zs,aS h u=aD ws/\aS h v=aD zs/\o=(match ws[i]?,zs[i]? with|some a,aD b=>aD (.tup [a,b])|_,_=>aE):=by simp only[bg]at q;split at q;rename_i ws zs h1 h2;cases q;exact⟨ws,zs,h1,h2,rfl⟩;cases q
theorem XE{K:aK}{b c:Bool}{a1 a2:ah}{u v:W}{P1 P2:(Nat->ah)->Nat->Hp->Prop}(s1:Src K b a1 u P1)(s2:Src K c a2 v P2):jt K (bg .zip (.tup [u,v])) (wz K b c a1 a2) (λm n H=>P1 m n H/\P2 m n H):=by
 refine⟨λm n H m' n' H' hn hm kt kf ⟨q1,q2⟩=>⟨s1.1 m n H m' n' H' hn hm kt kf q1,s2.1 m n H m' n' H' hn hm kt kf q2⟩,λm h H r ⟨q1,q2⟩ i=>⟨λw e=>?_,λe=>?_⟩⟩;obtain⟨ws,zs,e1,e2,e3⟩:=IQ e;obtain⟨xs,g1,g2⟩:=s1.2 m h H ws r q1 e1;obtain⟨ys,g3,g4⟩:=s2.2 m h H zs r q2 e2;cases z1:ws[i]? with
 |none=>rw[z1]at e3;cases e3
 |some w1=>
  cases z2:zs[i]? with
  |none=>rw[z1,z2]at e3;cases e3
  |some w2=>
   rw[z1,z2]at e3;cases e3;obtain⟨v1,k1,k2⟩:=g2.get z1;obtain⟨v2,k3,k4⟩:=g4.get z2;refine⟨⟨xs,ys,v1,v2,g1,g3,k1,k3⟩,λy H3 ⟨T,x3,y3,f1,f2,f3,f4,f5⟩=>?_⟩;subst f1 f3;have t1:=f4 xs g1;have t2:=f5 ys g3;rw[k1]at t1;cases t1;rw[k3]at t2;cases t2;obtain⟨st,r'⟩:=r.more (u:=.tup [v1,v2]) f2;exact⟨st,r',.tup (bX.of iu) (.cons (k2.stp st) (.cons (k4.stp st) .nil))⟩
 obtain⟨ws,zs,e1,e2,e3⟩:=IQ e;obtain⟨xs,g1,g2⟩:=s1.2 m h H ws r q1 e1;obtain⟨ys,g3,g4⟩:=s2.2 m h H zs r q2 e2;refine⟨xs,ys,g1,g3,?_⟩;cases z1:ws[i]? with
 |none=>exact .inl (by rw[g2.length];exact nP.mp z1)
 |some w1=>
  cases z2:zs[i]? with|none=>exact .inr (by rw[g4.length];exact nP.mp z2)|some w2=>rw[z1,z2]at e3;cases e3
theorem XF{elts:List ao}{kx:Nat}{tp:Pos}(ha:SA X [a,b] fa)(hs:g6 a)(hs2:g6 b)(hg:Gl X "zip")(hm:X.mg "zip" = aE):PI X (.Tuple elts kx tp) (.Call (.Name "zip" p) [a,b] [] pos) (cy X.K .zip fa):=λpins s σ H R I z9=>z9.el λρ h m x h' f r ee o en k=>by
 have hx:∃u v,x=.tup [u,v]:=by simp only[bg]at en;split at en;exact⟨_,_,rfl⟩;cases en
 obtain⟨u,v,rfl⟩:=hx;obtain⟨ws,zs,e1,e2,_⟩:=IQ en;refine XD hg hm ha (by rw[gC hs,gC hs2];rfl) (gC hs2) pins s σ H R I (.mk f r ee λvs H' m' s' r' q=>?_);obtain⟨v1,v2,rfl,q1,q2⟩:=lV q;obtain⟨b1,a1,P1,rfl,o1,p1,x1⟩:=Pu r' q1 e1;obtain⟨b2,a2,P2,rfl,o2,p2,x2⟩:=Pu r' q2 e2;exact⟨b1,b2,a1,a2,rfl,x1,x2,k _ _ H' m' s' r' (XE o1 o2) ⟨p1,p2⟩⟩
end
section
variable{X:Cx}{a b c e o:ao}{es:List ao}{fa fb fc fo fr:FE}{pos p:Pos}{x:Str}
noncomputable def dh(K:aK)(t:Tg):TG:=λv σ H Q=>∃ρ h m w ρ',Fr K m h.n H σ ρ/\Rel K m h H/\aL K m h.n H v w/\bH t w h ρ=aD ρ'/\∀σ',Fr K m h.n H σ' ρ'->Q σ' H
theorem dh.el{K:aK}{v:V}{σ:L2.St}{H:Hp}{P:Prop}{tg:Tg}{Q}(q:dh K tg v σ H Q)(k:∀ρ h m w ρ',Fr K m h.n H σ ρ->Rel K m h H->aL K m h.n H v w->bH tg w h ρ=aD ρ'->(∀σ',Fr K m h.n H σ' ρ'->Q σ' H)->P):P:=by obtain⟨ρ,h,m,w,h',f,r,e,eo,k'⟩:=q;exact k ρ h m w h' f r e eo k'
theorem dh.mk{K:aK}{v:V}{σ:L2.St}{H:Hp}{m:Nat->ah}{ρ ρ':En}{h:VH}{w:W}{tg:Tg}{Q}(f:Fr K m h.n H σ ρ)(r:Rel K m h H)(e:aL K m h.n H v w)(eo:bH tg w h ρ=aD ρ')(k:∀σ',Fr K m h.n H σ' ρ'->Q σ' H):dh K tg v σ H Q:=⟨ρ,h,m,w,ρ',f,r,e,eo,k⟩
theorem XG{i:Nat}(hN:X.N.Nodup)(hi:X.N[i]?=aD x)(hx:Loc X.env.scope x)(hf:X.fn x=true\/X.env.scope.names.lookup x=aD .local):PG X (.Name x pos) (dh X.K (.one i)):=λpins s σ H v u Q I ru z9=>z9.el λρ h m w ρ' f r q e k=>by
 cases e;exact M7 hN hi hx hf pins s σ H v u Q I ru (k _ (f.set q i))
noncomputable def oX(X:Cx)(e:ao)(i:Nat):Prop:=∃x p,e=.Name x p/\X.N[i]?=aD x/\Loc X.env.scope x/\(X.fn x=true\/X.env.scope.names.lookup x=aD .local)
noncomputable def BX(K:aK)(is:List Nat):qS:=λvs σ H Q=>∃ρ m n ws ρ',Fr K m n H σ ρ/\aG K m n H vs ws/\kG is ws ρ=aD ρ'/\∀σ',Fr K m n H σ' ρ'->Q σ' H
theorem Pw(hN:X.N.Nodup):∀{es:List ao} {is:List Nat},Paired (oX X) es is->yD X es (BX X.K is)/\(assignEach es X.env).length=es.length/\(assignEach es X.env).findIdx? (·.1)=aE
 |_,_,.nil=>by
  refine⟨λpins s σ H vs us Q I ru ⟨ρ,m,n,ws,ρ',f,q,e,k⟩=>?_,rfl,rfl⟩;cases ws with|nil=>cases e;cases q;exact SV pins s σ H [] us Q I ru ⟨rfl,k _ f⟩|cons _ _=>cases e
 |e::es,i::is,.cons ⟨x,p,he,hi,hx,hf⟩ t=>by
  subst he;obtain⟨h1,h2,h3⟩:=Pw hN t;refine⟨λpins s σ H vs us Q I ru ⟨ρ,m,n,ws,ρ',f,q,e,k⟩=>?_,?_,?_⟩;cases q with
  |nil=>cases e
  |cons q qs=>
   exact SX (M7 hN hi hx hf) h1 rfl pins s σ H _ us Q I ru ⟨_,_,rfl,ρ.set i (aD _),m,n,_,ρ',f.set q i,qs,e,k⟩
  show(assignEach es X.env).length+1=es.length+1;rw[h2];show List.findIdx? _ ((false,_)::assignEach es X.env)=aE;rw[List.findIdx?_cons,h3];rfl
theorem Px:∀{is:List Nat} {ws:List W} {ρ ρ':En},kG is ws ρ=aD ρ'->ws.length=is.length
 |[],[],_,_,_=>rfl
 |[],_::_,_,_,e=>by cases e
 |_::_,[],_,_,e=>by cases e
 |_::_,_::_,_,_,e=>by
  rw[fD,fD,Px (by simpa only[kG]using e)]
theorem XH{t:qS}{n k:Nat}(hc:X.calm)(h:yD X es t)(hn:(assignEach es X.env).length=n)(hst:(assignEach es X.env).findIdx? (·.1)=aE) :
 PG X (.Tuple es k pos) (λv σ H Q=>∃a xs,v=.ref a/\cC X.K H a xs/\xs.length=n/\t xs σ H Q):=by
 intro pins s σ H v u Q I r hw;obtain⟨a,xs,rfl,hq,hl,hw⟩:=hw;cases r;obtain⟨its,rv,ht,hz⟩:=I.list hq;rw[assign_Tuple];refine aM (nD ?_);unfold unpack;have hsz:(assignEach es X.env).length=its.toArray.size:=by rw[hn,<-hl,rv.length,cG]
 rw[hst,hsz];refine aM (nO (PySem.W.kun_itemsOf (I.ok.hd hc) ht.isList λh' hx=>?_));have I1:Inv X pins σ H {s with heap:=h'}:=I.kept (t':=s.toks) λb o e=>hx b o (fR (cH e)) e;exact h pins _ σ H xs _ Q I1 (by simpa using rv) hw
theorem Py{is:List Nat}{k:Nat}(hc:X.calm)(hN:X.N.Nodup)(hs:Paired (oX X) es is):PG X (.Tuple es k pos) (dh X.K (.many is)):=λpins s σ H v u Q I ru z9=>z9.el λρ h m w ρ' f r q e k=>by
 obtain⟨h1,h2,h3⟩:=Pw hN hs;simp only[bH]at e;cases z:aS h w with
 |none=>rw[z]at e;cases e
 |some ws=>
  rw[z]at e;have e:kG is ws ρ=aD ρ':=e;obtain⟨p,vs,rfl,hq,qs⟩:=yN r q z;have hl:vs.length=es.length:=by rw[qs.length,Px e,hs.length]
  rcases hq with hq|hq;exact XH hc h1 h2 h3 pins s σ H _ u Q I ru ⟨p,vs,rfl,hq,hl,ρ,m,h.n,ws,ρ',f,qs,e,k⟩;exact SY hc h1 h2 h3 pins s σ H _ u Q I ru ⟨p,vs,rfl,hq,hl,ρ,m,h.n,ws,ρ',f,qs,e,k⟩
theorem Pz{K:aK}{m:Nat->ah}{n:Nat}{H:Hp}{σ:L2.St}{ρ:En}{ow fr:List Str}{ix:List Nat}(f:Fr K m n H σ ρ):Fr K m n H (jl ow fr ix σ) (inner ow.length ix ρ):=by
 unfold jl inner;refine⟨by simp,λi w e=>?_⟩;by_cases hi:i<ow.length;rw[tV (by simpa using hi)]at e;rw[List.getElem?_replicate]at e;split at e<;>cases e;rw[qL (by simpa using jH.mp hi)]at e;rw[qL (by simpa using jH.mp hi)];simp only[List.length_replicate,bz]at e ⊢;rw[gh]at e ⊢;cases z:ix[i-ow.length]? with
 |none=>rw[z]at e;cases e
 |some j=>
  rw[z]at e;simp only[vL,Option.some.injEq]at e ⊢;have e3:ρ[j]?=aD (aD w):=by
   cases q:ρ[j]? with|none=>rw[q]at e;cases e|some o=>rw[q]at e;rw[<-e];rfl
  obtain⟨v,h1,h2⟩:=f.val j w e3;exact⟨v,by rw[h1];rfl,h2⟩
theorem IS{nx:Nat->VH->Option (Option W)}{tg:W->VH->En->Option En}{c e:FE}:∀{f i:Nat} {ρ:En} {h:VH} {acc ys:List W} {h':VH},gp nx tg c e f i ρ h acc=.ok ys h'->acc.length<=ys.length
 |0,_,_,_,_,_,_,q=>by cases q
 |f+1,i,ρ,h,acc,ys,h',q=>by
  simp only[gp]at q;split at q;cases q;cases q;simp;split at q;cases q;refine bP q λb h1 e1 e2=>?_;split at e2;refine bP e2 λy h2 e3 e4=>?_;have:=IS e4;rw[fD]at this;lia;exact IS e2;cases e2
theorem XI{nx:Nat->VH->Option (Option W)}{tg:W->VH->En->Option En}{c e:FE}{f i:Nat}{ρ:En}{h:VH}{acc ys:List W}{h':VH}(q:gp nx tg c e (f+1) i ρ h acc=.ok ys h'):∃o,nx i h=aD o:=by simp only[gp]at q;split at q;cases q;exact⟨_,by assumption⟩;exact⟨_,by assumption⟩
theorem PB{H:Hp}{a:ah}{o:HO}(h:H a=aD o):upd H a o=H:=by funext b;unfold upd;split;rename_i e;rw[e,h];rfl
noncomputable abbrev IT(kd:Kd)(fa:FE)(t:Tg)(ow:Nat)(ix:List Nat)(fc fe:FE):FE:=λρ h=>(fa ρ h).bind λx h=>(gp (bg kd x) (bH t) fc fe fuel 0 (inner ow ix ρ) h []).bind λys h=>if Nat.ble ys.length big then .ok (.ref h.n) (h.new (.lst ys))else .no
theorem uz{K:aK}{kd:Kd}{t:Tg}{ow fr:List Str}{ix:List Nat}{fe:FE}{σ:L2.St}{H:Hp}{Q:VK}(q:gu K (IT kd fa t ow.length ix fc fe) σ H Q):Hv K (jl ow fr ix) (cy K kd fa) (dh K t) (dz K fc) (gu K fe) σ H Q:=by
 refine q.el λρ h m w h' f r e k=>?_;refine bP e λx h1 e1 e2=>?_;refine bP e2 λys h2 e3 e4=>?_;split at e4
 case isFalse=>cases e4
 rename_i hz;cases e4;have hz:=kr hz;refine(.mk f r e1 ?_ λJ P H1 m1 s1 r1 J1 p1 D hD hK=>?_);exact XI (f:=999999) e3;obtain⟨kI,r0⟩:=r1.more (u:=.lst []) hD;have p0:=J1.1 m1 h1.n H1 m1 h1.n (upd H1 D (.lst [])) (aT _) (λ_ _=>rfl) (λb vs q=>kI.tup b vs q) (λb o u q=>kI.bL b o u q) p1;refine⟨λi fl σ' H' vs=>∃ρ' h3 m3 acc,gp (bg kd x) (bH t) fc fe fl i ρ' h3 acc=.ok ys h2/\Fr K m3 h3.n H' σ' ρ'/\Rel K m3 h3 H'/\H' D=aD (.lst vs)/\aG K m3 h3.n H' vs acc.reverse/\(∀i,i<h3.n->m3 i≠D)/\bQ m1 h1.n H1 m3 h3.n H'/\P m3 h3.n H',
  ⟨fuel,inner ow.length ix ρ,h1,m1,[],e3,Pz ((f.stp s1).stp kI),r0,iu,.nil,r1.out hD,kI,p0⟩,?_⟩
 rintro i fl σ' H' vs ⟨ρ',h3,m3,acc,e5,f3,r3,d3,q3,o3,s3,p3⟩;refine⟨d3,?_⟩;cases fl with
 |zero=>cases e5
 |succ fl=>
  simp only[gp]at e5;obtain⟨j1,j2⟩:=J1.2 m3 h3 H' r3 p3 i;split at e5;cases e5;rename_i hn;cases e5;refine .inl ⟨j2 hn,?_⟩;obtain⟨st,r'⟩:=r3.adopt (o:=.lst acc.reverse) (u:=.lst vs) o3 d3 (λ_ z=>nomatch z) (λ_ _ z=>nomatch z) (s1.trans s3) (by
   cases z:H D with
   |none=>rfl
   |some o=>
    have:=s1.keep D o (λi hi z2=>(r1.out hD) i (dP hi s1.le) ((s1.same i hi).trans z2)) z;rw[hD]at this;cases this) λ_ mv=>⟨_,iu,q3.map mv⟩
  rw[PB d3]at st r';refine k _ _ _ st r' ?_;have:aL K (λi=>if i=h2.n then D else m3 i) (h2.n+1) H' (.ref ((λi=>if i=h2.n then D else m3 i) h2.n)) (.ref h2.n):=.ref (iT _);simp only[bZ]at this;exact this;rename_i w hn;obtain⟨j3,j4⟩:=j1 w hn;refine .inr ⟨j3,λy H4 hy=>?_⟩;obtain⟨s4,r4,q4⟩:=j4 y H4 hy;split at e5;cases e5;rename_i oY ht;refine⟨ρ',h3,m3,w,oY,f3.stp s4,r4,q4,ht,λkF f5=>?_⟩;refine bP e5 λbv h6 e6 e7=>?_;have d4:H4 D=aD (.lst vs):=s4.keep D _ o3 d3;have BY:=s3.trans s4;have p4:=J1.1 m3 h3.n H' m3 h3.n H4 (aT _) (λ_ _=>rfl) (λb vs q=>s4.tup b vs q) (λb o u q=>s4.bL b o u q) p3;cases bv<;>try cases e7
  rename_i bb;refine⟨oY,h3,m3,bb,h6,f5,r4,e6,λH6 m6 s6 r6=>?_⟩;have o6:=s6.out o3 d4;have d6:H6 D=aD (.lst vs):=s6.keep D _ o3 d4;have p6:=J1.1 m3 h3.n H4 m6 h6.n H6 s6.le s6.same (λb vs q=>s6.tup b vs q) (λb o u q=>s6.bL b o u q) p4;cases bb with
  |false=>
   simp only[dZ,dF];exact⟨fl,iT _,oY,h6,m6,acc,e7,f5.stp s6,r6,d6,(q3.stp s4).stp s6,o6,BY.trans s6,p6⟩
  |true=>
   simp only[bZ];refine bP e7 λy7 h7 e8 e9=>?_;refine⟨oY,h6,m6,y7,h7,f5.stp s6,r6,e8,λv7 H7 m7 s7 r7 q7=>?_⟩;have o7:=s7.out o6 d6;have d7:H7 D=aD (.lst vs):=s7.keep D _ o6 d6;have p7:=J1.1 m6 h6.n H6 m7 h7.n H7 s7.le s7.same (λb vs q=>s7.tup b vs q) (λb o u q=>s7.bL b o u q) p6;have PC:=((q3.stp s4).stp s6).stp s7;have hlen:=IS e9;rw[fD]at hlen;refine⟨d7,?_,fl,iT _,oY,h7,m7,y7::acc,e9,?_⟩;rw[PC.length,List.length_reverse];have:big=sizeLine:=rfl;lia;obtain⟨IU,r8,mv⟩:=r7.side (u:=.lst (vs++[v7])) d7 (λ_ z=>nomatch z) (λ_ _ z=>nomatch z) o7 ((BY.trans s6).trans s7) hD;have kt:∀b us,H7 b=aD (.tup us)->upd H7 D (.lst (vs++[v7])) b=aD (.tup us):=λb us q=>by rw[bV (cP q d7 λz=>nomatch z)];exact q
   have kf:∀b o u,H7 b=aD (.bL o u)->upd H7 D (.lst (vs++[v7])) b=aD (.bL o u):=λb o u q=>by rw[bV (cP q d7 λz=>nomatch z)];exact q
   refine⟨⟨(f5.stp s6).len,λi w e=>let⟨v,h1,h2⟩:=((f5.stp s6).stp s7).val i w e;⟨v,h1,mv h2⟩⟩,r8,iu,?_,o7,IU,J1.1 m7 h7.n H7 m7 h7.n _ (aT _) (λ_ _=>rfl) kt kf p7⟩;rw[List.reverse_cons];exact(PC.map mv).append (.cons (mv q7) .nil)
theorem E4{nx:Nat->VH->Option (Option W)}{tg:W->VH->En->Option En}{c e:FE}:∀{f i:Nat} {ρ:En} {h:VH} {acc:List W} {p:En×List W} {h':VH},i7 nx tg c e f i ρ h acc=.ok p h'->acc.length<=p.2.length
 |0,_,_,_,_,_,_,q=>by cases q
 |f+1,i,ρ,h,acc,ys,h',q=>by
  simp only[i7]at q;split at q;cases q;cases q;exact aT _;split at q;cases q;refine bP q λb h1 e1 e2=>?_;split at e2;refine bP e2 λy h2 e3 e4=>?_;have:=E4 e4;rw[fD]at this;lia;exact E4 e2;cases e2
theorem IV{nx:Nat->VH->Option (Option W)}{tg:W->VH->En->Option En}{c:FE}{jB:En->VH->List W->Res (En×List W)}(hi:∀{ρ h acc p h'},jB ρ h acc=.ok p h'->acc.length<=p.2.length):∀{f i:Nat} {ρ:En} {h:VH} {acc ys:List W} {h':VH},kH nx tg c jB f i ρ h acc=.ok ys h'->acc.length<=ys.length
 |0,_,_,_,_,_,_,q=>by cases q
 |f+1,i,ρ,h,acc,ys,h',q=>by
  simp only[kH]at q;split at q;cases q;cases q;simp;split at q;cases q;refine bP q λb h1 e1 e2=>?_;split at e2;refine bP e2 λy h2 e3 e4=>?_;exact ie (hi e3) (IV hi e4);exact IV hi e2;cases e2
theorem XJ{nx:Nat->VH->Option (Option W)}{tg:W->VH->En->Option En}{c:FE}{jB:En->VH->List W->Res (En×List W)}{f i:Nat}{ρ:En}{h:VH}{acc ys:List W}{h':VH}(q:kH nx tg c jB (f+1) i ρ h acc=.ok ys h'):∃o,nx i h=aD o:=by simp only[kH]at q;split at q;cases q;exact⟨_,by assumption⟩;exact⟨_,by assumption⟩
theorem XM{nx:Nat->VH->Option (Option W)}{tg:W->VH->En->Option En}{c e:FE}{f i:Nat}{ρ:En}{h:VH}{acc:List W}{p:En×List W}{h':VH}(q:i7 nx tg c e (f+1) i ρ h acc=.ok p h'):∃o,nx i h=aD o:=by simp only[i7]at q;split at q;cases q;exact⟨_,by assumption⟩;exact⟨_,by assumption⟩
noncomputable abbrev wU(kd:Kd)(fa:FE)(t:Tg)(ow:Nat)(ix:List Nat)(fc:FE)(iD:Kd)(nK:FE)(t2:Tg)(nc fe:FE):FE:=λρ h=>(fa ρ h).bind λx h=>(kH (bg kd x) (bH t) fc (λρ h acc=>(nK ρ h).bind λy h=>i7 (bg iD y) (bH t2) nc fe fuel 0 ρ h acc) fuel 0 (inner ow ix ρ) h []).bind λys h=>if Nat.ble ys.length big then .ok (.ref h.n) (h.new (.lst ys))else .no
theorem PD{K:aK}{kd iD:Kd}{t t2:Tg}{ow fr:List Str}{ix:List Nat}{nK nc fe:FE}{σ:L2.St}{H:Hp}{Q:VK}(q:gu K (wU kd fa t ow.length ix fc iD nK t2 nc fe) σ H Q) :
 HR K (jl ow fr ix) (cy K kd fa) (dh K t) (dz K fc) (λD=>Oe (cy K iD nK) (dh K t2) (dz K nc) (Ib (gu K fe) D)) (.lst []) σ H Q:=by
 refine q.el λρ h m w h' f r e k=>?_;refine bP e λx h1 e1 e2=>?_;refine bP e2 λys h2 e3 e4=>?_;split at e4
 case isFalse=>cases e4
 rename_i hz;cases e4;have hz:=kr hz;have il:∀{ρ h acc p h'},(nK ρ h).bind (λy h=>i7 (bg iD y) (bH t2) nc fe fuel 0 ρ h acc)=.ok p h'->acc.length<=p.2.length:=λq=>by
  refine bP q λy h1 e1 e2=>?_;exact E4 e2
 refine(.mk f r e1 ?_ λJ P H1 m1 s1 r1 J1 p1 D hD hK=>?_);exact XJ (f:=999999) e3;obtain⟨kI,r0⟩:=r1.more (u:=.lst []) hD;have p0:=J1.1 m1 h1.n H1 m1 h1.n (upd H1 D (.lst [])) (aT _) (λ_ _=>rfl) (λb vs q=>kI.tup b vs q) (λb o u q=>kI.bL b o u q) p1;refine⟨λi fl σ' H'=>∃ρ' h3 m3 acc vs,kH (bg kd x) (bH t) fc (λρ h acc=>(nK ρ h).bind λy h=>i7 (bg iD y) (bH t2) nc fe fuel 0 ρ h acc) fl i ρ' h3 acc=.ok ys h2/\Fr K m3 h3.n H' σ' ρ'/\Rel K m3 h3 H'/\H' D=aD (.lst vs)/\aG K m3 h3.n H' vs acc.reverse/\(∀i,i<h3.n->m3 i≠D)/\bQ m1 h1.n H1 m3 h3.n H'/\P m3 h3.n H',
  ⟨fuel,inner ow.length ix ρ,h1,m1,[],[],e3,Pz ((f.stp s1).stp kI),r0,iu,.nil,r1.out hD,kI,p0⟩,?_⟩
 rintro i fl σ' H' ⟨ρ',h3,m3,acc,vs,e5,f3,r3,d3,q3,o3,s3,p3⟩;cases fl with
 |zero=>cases e5
 |succ fl=>
  simp only[kH]at e5;obtain⟨j1,j2⟩:=J1.2 m3 h3 H' r3 p3 i;split at e5;cases e5;rename_i hn;cases e5;refine .inl ⟨j2 hn,?_⟩;obtain⟨st,r'⟩:=r3.adopt (o:=.lst acc.reverse) (u:=.lst vs) o3 d3 (λ_ z=>nomatch z) (λ_ _ z=>nomatch z) (s1.trans s3) (by
   cases z:H D with
   |none=>rfl
   |some o=>
    have:=s1.keep D o (λi hi z2=>(r1.out hD) i (dP hi s1.le) ((s1.same i hi).trans z2)) z;rw[hD]at this;cases this) λ_ mv=>⟨_,iu,q3.map mv⟩
  rw[PB d3]at st r';refine k _ _ _ st r' ?_;have:aL K (λi=>if i=h2.n then D else m3 i) (h2.n+1) H' (.ref ((λi=>if i=h2.n then D else m3 i) h2.n)) (.ref h2.n):=.ref (iT _);simp only[bZ]at this;exact this;rename_i w hn;obtain⟨j3,j4⟩:=j1 w hn;refine .inr ⟨j3,λy H4 hy=>?_⟩;obtain⟨s4,r4,q4⟩:=j4 y H4 hy;split at e5;cases e5;rename_i oY ht;refine⟨ρ',h3,m3,w,oY,f3.stp s4,r4,q4,ht,λkF f5=>?_⟩;refine bP e5 λbv h6 e6 e7=>?_;have d4:H4 D=aD (.lst vs):=s4.keep D _ o3 d3;have BY:=s3.trans s4;have p4:=J1.1 m3 h3.n H' m3 h3.n H4 (aT _) (λ_ _=>rfl) (λb vs q=>s4.tup b vs q) (λb o u q=>s4.bL b o u q) p3;cases bv<;>try cases e7
  rename_i bb;refine⟨oY,h3,m3,bb,h6,f5,r4,e6,λH6 m6 s6 r6=>?_⟩;have o6:=s6.out o3 d4;have d6:H6 D=aD (.lst vs):=s6.keep D _ o3 d4;have p6:=J1.1 m3 h3.n H4 m6 h6.n H6 s6.le s6.same (λb vs q=>s6.tup b vs q) (λb o u q=>s6.bL b o u q) p4;cases bb with
  |false=>
   simp only[dZ,dF];exact⟨fl,iT _,oY,h6,m6,acc,vs,e7,f5.stp s6,r6,d6,(q3.stp s4).stp s6,o6,BY.trans s6,p6⟩
  |true=>
   simp only[bZ];obtain⟨⟨PF,sf⟩,h9,e8,e9⟩:=OW e7;refine bP e8 λy7 h7 IW yG=>?_;have BZ:=IV il e9;refine⟨oY,h6,m6,y7,h7,f5.stp s6,r6,IW,XM (f:=999999) yG,λJ2 P2 H8 m8 s8 r8 B3 p8=>?_⟩;have o8:=s8.out o6 d6;have d8:H8 D=aD (.lst vs):=s8.keep D _ o6 d6;have XN:=J1.1 m6 h6.n H6 m8 h7.n H8 s8.le s8.same (λb vs q=>s8.tup b vs q) (λb o u q=>s8.bL b o u q) p6;refine⟨λj gl σ' H'=>∃E5 ha ma ng va,i7 (bg iD y7) (bH t2) nc fe gl j E5 ha ng=.ok (PF,sf) h9/\Fr K ma ha.n H' σ' E5/\Rel K ma ha H'/\H' D=aD (.lst va)/\aG K ma ha.n H' va ng.reverse/\(∀i,i<ha.n->ma i≠D)/\bQ m1 h1.n H1 ma ha.n H'/\P ma ha.n H'/\P2 ma ha.n H',
    ⟨fuel,oY,h7,m8,acc,vs,yG,(f5.stp s6).stp s8,r8,d8,((q3.stp s4).stp s6).stp s8,o8,(BY.trans s6).trans s8,XN,p8⟩,?_⟩
   rintro j gl σa Ha ⟨E5,ha,ma,ng,va,ea,PJ,ra,da,qa,oa,sa,pa,pb⟩;cases gl with
   |zero=>cases ea
   |succ gl=>
    simp only[i7]at ea;obtain⟨b1,b2⟩:=B3.2 ma ha Ha ra pb j;split at ea;cases ea;rename_i hn2;cases ea;exact .inl ⟨b2 hn2,fl,iT _,PF,h9,ma,sf,va,e9,PJ,ra,da,qa,oa,sa,pa⟩;rename_i w2 hn2;obtain⟨b3,b4⟩:=b1 w2 hn2;refine .inr ⟨b3,λy2 Hb XO=>?_⟩;obtain⟨sb,rb,qb⟩:=b4 y2 Hb XO;split at ea;cases ea;rename_i B4 B5;refine⟨E5,ha,ma,w2,B4,PJ.stp sb,rb,qb,B5,λσb fb=>?_⟩;refine bP ea λXQ hc2 ec ed=>?_;have db:Hb D=aD (.lst va):=sb.keep D _ oa da;have XR:=J1.1 ma ha.n Ha ma ha.n Hb (aT _) (λ_ _=>rfl) (λb vs q=>sb.tup b vs q) (λb o u q=>sb.bL b o u q) pa;have XS:=B3.1 ma ha.n Ha ma ha.n Hb (aT _) (λ_ _=>rfl) (λb vs q=>sb.tup b vs q) (λb o u q=>sb.bL b o u q) pb;cases XQ<;>try cases ed
    rename_i PK;refine⟨B4,ha,ma,PK,hc2,fb,rb,ec,λHc mc sc rc=>?_⟩;have oc:=sc.out oa db;have dc:Hc D=aD (.lst va):=sc.keep D _ oa db;have PL:=J1.1 ma ha.n Hb mc hc2.n Hc sc.le sc.same (λb vs q=>sc.tup b vs q) (λb o u q=>sc.bL b o u q) XR;have PN:=B3.1 ma ha.n Hb mc hc2.n Hc sc.le sc.same (λb vs q=>sc.tup b vs q) (λb o u q=>sc.bL b o u q) XS;cases PK with
    |false=>
     simp only[dZ,dF];exact⟨gl,iT _,B4,hc2,mc,ng,va,ed,fb.stp sc,rc,dc,(qa.stp sb).stp sc,oc,(sa.trans sb).trans sc,PL,PN⟩
    |true=>
     simp only[bZ];refine bP ed λyv hd2 ef eg=>?_;refine⟨B4,hc2,mc,yv,hd2,fb.stp sc,rc,ef,λvd Hd md sd rd qd=>?_⟩;have od:=sd.out oc dc;have dd:Hd D=aD (.lst va):=sd.keep D _ oc dc;have pad:=J1.1 mc hc2.n Hc md hd2.n Hd sd.le sd.same (λb vs q=>sd.tup b vs q) (λb o u q=>sd.bL b o u q) PL;have XT:=B3.1 mc hc2.n Hc md hd2.n Hd sd.le sd.same (λb vs q=>sd.tup b vs q) (λb o u q=>sd.bL b o u q) PN;have PR:=((qa.stp sb).stp sc).stp sd;have hlen:=E4 eg;rw[fD]at hlen;refine⟨va,dd,?_,gl,iT _,B4,hd2,md,yv::ng,va++[vd],eg,?_⟩;rw[PR.length,List.length_reverse];have:big=sizeLine:=rfl;have hl2:sf.length<=ys.length:=BZ;have hl3:ng.length+1<=sf.length:=hlen;lia;obtain⟨IU,r9,mv⟩:=rd.side (u:=.lst (va++[vd])) dd (λ_ z=>nomatch z) (λ_ _ z=>nomatch z) od (((sa.trans sb).trans sc).trans sd) hD;have kt:∀b us,Hd b=aD (.tup us)->upd Hd D (.lst (va++[vd])) b=aD (.tup us):=λb us q=>by rw[bV (cP q dd λz=>nomatch z)];exact q
     have kf:∀b o u,Hd b=aD (.bL o u)->upd Hd D (.lst (va++[vd])) b=aD (.bL o u):=λb o u q=>by rw[bV (cP q dd λz=>nomatch z)];exact q
     refine⟨⟨(fb.stp sc).len,λi w e=>let⟨v,h1,h2⟩:=((fb.stp sc).stp sd).val i w e;⟨v,h1,mv h2⟩⟩,r9,iu,?_,od,IU,J1.1 md hd2.n Hd md hd2.n _ (aT _) (λ_ _=>rfl) kt kf pad,B3.1 md hd2.n Hd md hd2.n _ (aT _) (λ_ _=>rfl) kt kf XT⟩;rw[List.reverse_cons];exact(PR.map mv).append (.cons (mv qd) .nil)
end
noncomputable def fK(h h':VH):Prop:=h.n<=h'.n/\h'.lo<=h.lo/\∀i,i<h.n->i<h'.lo->h'.get i=h.get i
theorem fK.refl{h:VH}:fK h h:=⟨aT _,aT _,λ_ _ _=>rfl⟩
theorem fK.trans{h h1 h2:VH}(a:fK h h1)(b:fK h1 h2):fK h h2:=⟨ie a.1 b.1,ie b.2.1 a.2.1,λi hi hl=>(b.2.2 i (dP hi a.1) hl).trans (a.2.2 i hi (dP hl b.2.1))⟩
theorem fK.new{h:VH}{o:VO}:fK h (h.new o):=⟨tS _,aT _,λi hi _=>eK hi⟩
theorem fK.set{h:VH}{i:Nat}{o:VO}(hi:i<h.n):fK h (h.set i o):=by refine⟨aT _,?_,λj hj hl=>gZ hi ?_⟩;show(if Nat.blt i h.lo then i else h.lo)<=h.lo;split;rename_i q;exact tR (i8.mp q);exact aT _;have hl:j< (if Nat.blt i h.lo then i else h.lo):=hl;split at hl;lia;rename_i q;intro z;rw[z]at hl;exact q (i8.mpr hl)
noncomputable def Gr{α:Type}(r:Res α)(h:VH):Prop:=∀a h',r=.ok a h'->fK h h'
section
variable{α β:Type}{h:VH}
theorem Gr.ok{a:α}:Gr (Res.ok a h) h:=λ_ _ e=>by cases e;exact .refl
theorem Gr.no:Gr (Res.no:Res α) h:=λ_ _ e=>by cases e
theorem Gr.of{o:Option α}:Gr (Res.of o h) h:=λ_ _ e=>by cases o with|none=>cases e|some a=>cases e;exact .refl
theorem Gr.new{a:α}{o:VO}:Gr (Res.ok a (h.new o)) h:=λ_ _ e=>by cases e;exact .new
theorem Gr.set{a:α}{o o':VO}{i:Nat}(g:h.get i=aD o'):Gr (Res.ok a (h.set i o)) h:=λ_ _ e=>by cases e;exact .set (bT g)
theorem Gr.bind{r:Res α}{f:α->VH->Res β}(a:Gr r h)(b:∀x h1,Gr (f x h1) h1):Gr (r.bind f) h:=λy h' e=>by
 cases r with|ok x h1=>exact(a x h1 rfl).trans (b x h1 y h' e)|ex _ _=>cases e|no=>cases e
end
theorem B6{o:Op}{x y:W}{h:VH}:Gr (gJ o x y h) h:=by unfold gJ;split;exact .of;exact .of;exact .of;split;split;exact .new;exact .no;exact .no;exact .no
theorem B7{o:Op}{x y:W}{h:VH}:Gr (yM o x y h) h:=by unfold yM;split;split;exact .ok;exact .ok;exact .of;exact .of;exact .no;split;split;rename_i g _ _;exact .set g;exact .no;exact .no;split;split;exact .ok;exact .no;exact .no;exact .no
theorem XU{x:W}{l u:Option Int}{h:VH}:Gr (j5 x l u h) h:=by unfold j5;split;exact .ok;split;exact .new;exact .no;exact .no
theorem B8{b:Bi}{xs:List W}{h:VH}:Gr (jC b xs h) h:=by
 cases b<;>simp only[jC];unfold gT;split<;>first|exact .of|exact .no
 unfold i6;split;split;exact .new;exact .no;exact .no;unfold wJ;split<;>first|exact .of|exact .no
 unfold k8;split<;>first|exact .ok|exact .no
 unfold k9;split<;>first|exact .ok|exact .no
 unfold rW;split;exact .ok;split;split;exact .ok;exact .no;exact .no;exact .no;unfold lg;split<;>first|exact .ok|exact .no
 unfold mY;split;split;exact .of;exact .no;exact .no;unfold j6;split;split;exact .new;exact .no;exact .no;unfold wK;split;exact .new;exact .no;unfold BA;split;split;rename_i g;exact .set g;exact .ok;exact .no;exact .no;unfold m5;split;split;split;split;exact .new;exact .no;exact .no;exact .no;exact .no
theorem XW{x y:W}{h:VH}:Gr (j8 x y h) h:=by unfold j8;split;split;split;exact .ok;exact .no;exact .no;exact .no
theorem XX{ρ:En}{x y z:W}{p:Int}{h:VH}:Gr (lu ρ x y p z h) h:=by unfold lu;split;split;rename_i g;split;exact .set g;exact .no;exact .no;exact .no
theorem B9{m:Mt}{o:W}{xs:List W}{h:VH}:Gr (wL m o xs h) h:=by unfold wL;split;split;split;rename_i g _;exact .set g;exact .no;exact .no;split;exact .ok;exact .ok;exact .no;exact .no
theorem IX{nx:Nat->VH->Option (Option W)}{tg:W->VH->En->Option En}{c e:En->VH->Res W}(hc:∀ρ h,Gr (c ρ h) h)(he:∀ρ h,Gr (e ρ h) h):∀(f i:Nat) (ρ:En) (h:VH) (acc:List W),Gr (i7 nx tg c e f i ρ h acc) h
 |0,_,_,_,_=>.no
 |f+1,i,ρ,h,acc=>by
  simp only[i7];split;exact .no;exact .ok;split;exact .no;refine .bind (hc _ _) λb h1=>?_;split;exact .bind (he _ _) λy h2=>IX hc he f _ _ _ _;exact IX hc he f _ _ _ _;exact .no
theorem IY{nx:Nat->VH->Option (Option W)}{tg:W->VH->En->Option En}{c:En->VH->Res W}{e:En->VH->List W->Res (En×List W)}(hc:∀ρ h,Gr (c ρ h) h)(he:∀ρ h acc,Gr (e ρ h acc) h):∀(f i:Nat) (ρ:En) (h:VH) (acc:List W),Gr (kH nx tg c e f i ρ h acc) h
 |0,_,_,_,_=>.no
 |f+1,i,ρ,h,acc=>by
  simp only[kH];split;exact .no;exact .ok;split;exact .no;refine .bind (hc _ _) λb h1=>?_;split;exact .bind (he _ _ _) λy h2=>IY hc he f _ _ _ _;exact IY hc he f _ _ _ _;exact .no
theorem oZ{nx:Nat->VH->Option (Option W)}{tg:W->VH->En->Option En}{c e:En->VH->Res W}(hc:∀ρ h,Gr (c ρ h) h)(he:∀ρ h,Gr (e ρ h) h):∀(f i:Nat) (ρ:En) (h:VH) (acc:List W),Gr (gp nx tg c e f i ρ h acc) h
 |0,_,_,_,_=>.no
 |f+1,i,ρ,h,acc=>by
  simp only[gp];split;exact .no;exact .ok;split;exact .no;refine .bind (hc _ _) λb h1=>?_;split;exact .bind (he _ _) λy h2=>oZ hc he f _ _ _ _;exact oZ hc he f _ _ _ _;exact .no
theorem IZ{nx:Nat->VH->Option (Option W)}{tg:W->VH->En->Option En}{b:En->VH->Res Fl}(hb:∀ρ h,Gr (b ρ h) h):∀(f i:Nat) (ρ:En) (h:VH),Gr (dj nx tg b f i ρ h) h
 |0,_,_,_=>.no
 |f+1,i,ρ,h=>by
  simp only[dj];split;exact .no;exact .ok;split;exact .no;refine .bind (hb _ _) λfl h1=>?_;split;exact IZ hb f _ _ _;exact IZ hb f _ _ _;exact .ok;exact .ok
theorem Ja{c:En->VH->Res W}{b:En->VH->Res Fl}(hc:∀ρ h,Gr (c ρ h) h)(hb:∀ρ h,Gr (b ρ h) h):∀(f:Nat) (ρ:En) (h:VH),Gr (fJ c b f ρ h) h
 |0,_,_=>.no
 |f+1,ρ,h=>by
  simp only[fJ];refine .bind (hc _ _) λt h1=>?_;split;exact .ok;refine .bind (hb _ _) λfl h2=>?_;split;exact Ja hc hb f _ _;exact Ja hc hb f _ _;exact .ok;exact .ok;exact .no
section
variable{cl:Call}
theorem Ca(hcl:∀f ws h,Gr (cl f ws h) h):∀(e:E) (ρ:En) (h:VH),Gr (ev cl e ρ h) h:=by
 intro e;induction e with
 |var i=>intro ρ h;exact .of
 |cst w=>intro ρ h;exact .ok
 |nil=>intro ρ h;exact .ok
 |cons a r i1 i2=>intro ρ h;simp only[ev];refine .bind (i1 _ _) λx h1=>.bind (i2 _ _) λy h2=>?_;split<;>first|exact .ok|exact .no
 |tup a i1=>intro ρ h;simp only[ev];refine .bind (i1 _ _) λx h1=>?_;split<;>first|(split<;>first|exact .ok|exact .no)|exact .no
 |lst a i1=>intro ρ h;simp only[ev];refine .bind (i1 _ _) λx h1=>?_;split<;>first|(split<;>first|exact .new|exact .no)|exact .no
 |Bu a i1=>
  intro ρ h;simp only[ev];refine .bind (i1 _ _) λx h1=>?_;split;split;split;exact .new;exact .no;exact .no;exact .no
 |op o a b i1 i2=>intro ρ h;simp only[ev];exact .bind (i1 _ _) λx h1=>.bind (i2 _ _) λy h2=>B6
 |neg a i1=>intro ρ h;simp only[ev];refine .bind (i1 _ _) λx h1=>?_;split<;>first|exact .ok|exact .no
 |cmp c a b i1 i2=>intro ρ h;simp only[ev];exact .bind (i1 _ _) λx h1=>.bind (i2 _ _) λy h2=>.of
 |wI c d a b e i1 i2 i3=>
  intro ρ h;simp only[ev];refine .bind (i1 _ _) λx h1=>.bind (i2 _ _) λy h2=>?_;split;exact .bind (i3 _ _) λz h3=>.of;exact .ok;exact .no
 |not a i1=>intro ρ h;simp only[ev];refine .bind (i1 _ _) λx h1=>?_;split<;>first|exact .ok|exact .no
 |and a b i1 i2=>intro ρ h;simp only[ev];refine .bind (i1 _ _) λx h1=>?_;split<;>first|exact i2 _ _|exact .ok|exact .no
 |or a b i1 i2=>intro ρ h;simp only[ev];refine .bind (i1 _ _) λx h1=>?_;split<;>first|exact i2 _ _|exact .ok|exact .no
 |jo a i1=>intro ρ h;simp only[ev];exact .bind (i1 _ _) λx h1=>.of
 |ite c a b i1 i2 i3=>
  intro ρ h;simp only[ev];refine .bind (i1 _ _) λx h1=>?_;split;exact i2 _ _;exact i3 _ _;exact .no
 |idx a b i1 i2=>intro ρ h;simp only[ev];exact .bind (i1 _ _) λx h1=>.bind (i2 _ _) λy h2=>.of
 |slc a bl lo bh hi i1 i2 i3=>
  intro ρ h;simp only[ev];refine .bind (i1 _ _) λx h1=>.bind (i2 _ _) λy h2=>.bind (i3 _ _) λz h3=>?_;split;exact XU;exact .no
 |call f a i1=>intro ρ h;simp only[ev];refine .bind (i1 _ _) λx h1=>?_;split<;>first|exact hcl _ _ _|exact .no
 |bi b a i1=>intro ρ h;simp only[ev];refine .bind (i1 _ _) λx h1=>?_;split<;>first|exact B8|exact .no
 |rT t a i1=>intro ρ h;simp only[ev];exact .bind (i1 _ _) λx h1=>.of
 |mt m o a i1 i2=>
  intro ρ h;simp only[ev];refine .bind (i1 _ _) λx h1=>?_;split;refine .bind (i2 _ _) λy h2=>?_;split<;>first|exact B9|exact .no
  exact .no
 |lc k a t ow ix c e i1 i2 i3=>
  intro ρ h;simp only[ev];refine .bind (i1 _ _) λx h1=>.bind (oZ i2 i3 _ _ _ _ _) λys h2=>?_;split;exact .new;exact .no
 |oQ k a t ow ix c k2 a2 t2 c2 e i1 i2 i3 i4 i5=>
  intro ρ h;simp only[ev];refine .bind (i1 _ _) λx h1=>.bind (IY i2 (λρ h acc=>.bind (i3 _ _) λy h2=>IX i4 i5 _ _ _ _ _) _ _ _ _ _) λys h2=>?_;split;exact .new;exact .no
theorem E6(hcl:∀f ws h,Gr (cl f ws h) h):∀(s:S) (ρ:En) (h:VH),Gr (exs cl s ρ h) h:=by
 have ge:=Ca hcl;intro s;induction s with
 |skip=>intro ρ h;exact .ok
 |seq a b i1 i2=>intro ρ h;simp only[exs];refine .bind (i1 _ _) λfl h1=>?_;split<;>first|exact i2 _ _|exact .ok
 |set i e=>intro ρ h;simp only[exs];exact .bind (ge _ _ _) λw h1=>.ok
 |Bv is e=>intro ρ h;simp only[exs];exact .bind (ge _ _ _) λw h1=>.of
 |aug i o e=>
  intro ρ h;simp only[exs];split;exact .bind (ge _ _ _) λy h1=>.bind B7 λz h2=>.ok;exact .no
 |put o i v=>
  intro ρ h;simp only[exs];refine .bind (ge _ _ _) λw h1=>.bind (ge _ _ _) λx h2=>.bind (ge _ _ _) λy h3=>?_;split;split;split;rename_i g _ _ _;exact .set g;exact .no;unfold rY;split;split;rename_i g _;exact .set g;exact .no;exact .no;exact .no
 |Bw o i e=>
  intro ρ h;simp only[exs];exact .bind (ge _ _ _) λx h1=>.bind (ge _ _ _) λy h2=>.bind XW λp h3=>.bind (ge _ _ _) λz h4=>XX
 |ite c a b i1 i2=>
  intro ρ h;simp only[exs];refine .bind (ge _ _ _) λx h1=>?_;split;exact i1 _ _;exact i2 _ _;exact .no
 |ret e=>intro ρ h;simp only[exs];exact .bind (ge _ _ _) λw h1=>.ok
 |expr e=>intro ρ h;simp only[exs];exact .bind (ge _ _ _) λw h1=>.ok
 |brk=>intro ρ h;exact .ok
 |cnt=>intro ρ h;exact .ok
 | «for» k a t b i1=>intro ρ h;simp only[exs];exact .bind (ge _ _ _) λx h1=>IZ i1 _ _ _ _
 |EU c b i1=>intro ρ h;simp only[exs];exact Ja (ge c) i1 _ _ _
 |no=>intro ρ h;exact .no
end
theorem E7(F:Nat->Option Fn):∀(k f:Nat) (ws:List W) (h:VH),Gr (run F k f ws h) h
 |0,_,_,_=>.no
 |k+1,f,ws,h=>by
  intro a h' e;simp only[run]at e;split at e;rename_i fn hf;split at e;rename_i hl;generalize hr:exs (run F k) fn.body (ws.map aD++bD (fn.n-fn.ps) aE) ⟨h.n,h.n,h.os⟩=r at e;have g:=E6 (E7 F k) fn.body (ws.map aD++bD (fn.n-fn.ps) aE) ⟨h.n,h.n,h.os⟩;rw[hr]at g;have lv:∀w h1,fK ⟨h.n,h.n,h.os⟩ h1->leave h w h1=.ok a h'->fK h h':=by
   intro w h1 g1 e1;unfold leave at e1;split at e1;cases e1;exact .refl;cases e1;refine⟨g1.1,?_,λi hi hlo=>?_⟩;show(if Nat.ble h.lo h1.lo then h.lo else h1.lo)<=h.lo;split;exact aT _;rename_i q;exact Nat.le_of_not_le λz=>q (qK.mpr z);have hlo:i< (if Nat.ble h.lo h1.lo then h.lo else h1.lo):=hlo;have hh:i<h1.lo:=by split at hlo;rename_i q;exact dP hlo (kr q);exact hlo
   exact g1.2.2 i hi hh
  cases r with
  |no=>cases e
  |ex _ _=>cases e
  |ok fl h1=>
   have g1:=g fl h1 rfl;simp only[Res.bind]at e;split at e;exact lv _ _ g1 e;exact lv _ _ g1 e;cases e
  cases e;cases e
end RF
namespace HT
open PySem PySem.Spec PyProof.Rows
theorem o4{prog:ai}{w:aj}{A:ak}{E:aa->af->Prop}{s:af}{t b:ah}{vs ws:List aa}{Q:aa->af->Prop}(ht:IsTup s.heap t vs.toArray)(hb:IsTup s.heap b ws.toArray)(hv:vs≠[])
 (h1:ws=[]->Q (.ref t) s) (h2:ws≠[]->Q (.ref s.heap.objs.size) {s with heap:=s.heap.push {cls:=.type "tuple",data:=.seq (vs++ws).toArray}})
 (hsz:vs.length+ws.length<=sizeLine):wpAny (model prog w) A (inplaceOp .Add (.ref t) (.ref b)) Q E s:=by
 obtain⟨⟨cls,dd,data,sl⟩,ho,hc,n,hd⟩:=id ht;obtain⟨⟨GY,dd2,data2,sl2⟩,ho2,hc2,n2,hd2⟩:=id hb;simp only at hc hd hc2 hd2;subst hc hd hc2 hd2;have e:vs.toArray++ws.toArray=(vs++ws).toArray:=by simp
 have hno:typeLookup (.type "tuple") (dunderI "add")=pure aE:=by rfl
 by_cases hw:ws=[]
 exact wpAny_inplaceOp_concat ⟨_,ho,rfl⟩ ⟨_,ho2,rfl⟩ hno zh zk (qI zF ⟨_,ho,rfl⟩ zE (zD _ _)
  (tuple_addW1 t b vs.toArray ws.toArray n n2 dd dd2 sl sl2 (by simpa using hv) (by simp[hw])) ⟨ho,ho2,h1 hw⟩)
 refine wpAny_inplaceOp_concat ⟨_,ho,rfl⟩ ⟨_,ho2,rfl⟩ hno zh zk (qI zF ⟨_,ho,rfl⟩ zE (zD _ _)
  (tuple_addW2 t b vs.toArray ws.toArray n n2 dd dd2 sl sl2 (by simpa using hv) (by simpa using hw) (by rw[cG,cG];exact hsz)) ⟨ho,ho2,?_⟩)
 rw[e];exact h2 hw
end HT
namespace L2
open PySem PySem.Spec PyProof.Rows
variable{X:Cx}
theorem XY:vR X .Add (lH X.K):=by intro pins s σ H x y v u Q I rx ry h;obtain⟨a,b,xs,ys,rfl,rfl,ha,hb,hx,hz,q1,q2⟩:=h;cases rx;cases ry;obtain⟨its,r1,p1,_⟩:=I.tuple ha;obtain⟨its2,r2,p2,_⟩:=I.tuple hb;refine HT.o4 p1 p2 (λz=>hx (r1.eU.mp z)) (λz=>⟨.ref a,H,I,rfl,q1 (r2.eU.mp z)⟩) (λz=>?_) (by rw[<-r1.length,<-r2.length];exact hz);refine⟨.ref s.heap.objs.size,_,I.laid (t':=s.toks) (o:=.tup (xs++ys)) (λb ob q=>cu _ q) (aT _) ?_,rfl,q2 (λw=>z (r2.eU.mpr w)) _ (I.hok.fresh (aT _))⟩;exact⟨by rw[eW];exact hz,_,r1.append r2,kR.new _ _⟩
end L2
namespace RF
open PySem PySem.Spec PyProof.Rows L2
noncomputable def wV(K:aK)(m:Nat->ah)(n:Nat)(H:Hp)(D:Ends):Fl->Prop|.nx ρ=>∀σ,Fr K m n H σ ρ->D.nx σ H|.bk ρ=>∀σ,Fr K m n H σ ρ->D.bk σ H|.ct ρ=>∀σ,Fr K m n H σ ρ->D.ct σ H|.rt w=>∀v,aL K m n H v w->D.rt v H
noncomputable def ju(K:aK)(f:FS):TS:=λD σ H=>∃ρ h m fl h',Fr K m h.n H σ ρ/\Rel K m h H/\f ρ h=.ok fl h'/\∀H' m',bQ m h.n H m' h'.n H'->Rel K m' h' H'->wV K m' h'.n H' D fl
theorem ju.el{K:aK}{D:Ends}{σ:L2.St}{H:Hp}{P:Prop}{fa:FS}(q:ju K fa D σ H)(k:∀ρ h m fl h',Fr K m h.n H σ ρ->Rel K m h H->fa ρ h=.ok fl h'->(∀H' m',bQ m h.n H m' h'.n H'->Rel K m' h' H'->wV K m' h'.n H' D fl)->P):P:=by obtain⟨ρ,h,m,w,h',f,r,e,k'⟩:=q;exact k ρ h m w h' f r e k'
theorem ju.mk{K:aK}{D:Ends}{σ:L2.St}{H:Hp}{m:Nat->ah}{ρ:En}{h h':VH}{fl:Fl}{fa:FS}(f:Fr K m h.n H σ ρ)(r:Rel K m h H)(e:fa ρ h=.ok fl h')(k:∀H' m',bQ m h.n H m' h'.n H'->Rel K m' h' H'->wV K m' h'.n H' D fl):ju K fa D σ H:=⟨ρ,h,m,fl,h',f,r,e,k⟩
noncomputable abbrev SS(X:Cx)(st:au)(f:FS):Prop:=PS X st (ju X.K f)
noncomputable abbrev sj(X:Cx)(st:List au)(f:FS):Prop:=kD X st (ju X.K f)
section
variable{X:Cx}{a b c e o:ao}{es:List ao}{fa fb fc fo fr:FE}{pos p:Pos}{x:Str}{st:au}{sts:List au}{ga gb:FS}
noncomputable abbrev uA:FS:=λρ h=>.ok (.nx ρ) h
noncomputable abbrev Jb(ga gb:FS):FS:=λρ h=>(ga ρ h).bind λfl h=>match fl with|.nx ρ=>gb ρ h|fl=>.ok fl h
theorem XZ:sj X [] uA:=SD.imp λD σ H z9=>z9.el λρ h m fl h' f r e k=>by cases e;exact k H m .refl r σ f
theorem X0:SS X (.Pass pos) uA:=SI.imp λD σ H z9=>z9.el λρ h m fl h' f r e k=>by cases e;exact k H m .refl r σ f
theorem X3:SS X (.Break pos) (λρ h=>.ok (.bk ρ) h):=SJ.imp λD σ H z9=>z9.el λρ h m fl h' f r e k=>by cases e;exact k H m .refl r σ f
theorem X4:SS X (.Continue pos) (λρ h=>.ok (.ct ρ) h):=SK.imp λD σ H z9=>z9.el λρ h m fl h' f r e k=>by cases e;exact k H m .refl r σ f
theorem X5(h1:SS X st ga)(h2:sj X sts gb):sj X (st::sts) (Jb ga gb):=(SG h1 h2).imp λD σ H z9=>z9.el λρ h m fl h' f r e k=>by
 refine bP e λX6 h1 e1 e2=>?_;refine(.mk f r e1 λH1 m1 s1 r1=>?_);cases X6 with|nx bB=>exact λσ1 f1=>⟨bB,h1,m1,fl,h',f1,r1,e2,λH' m' s' r'=>k H' m' (s1.trans s') r'⟩|bk bB=>cases e2;exact k H1 m1 s1 r1|ct bB=>cases e2;exact k H1 m1 s1 r1|rt w=>cases e2;exact k H1 m1 s1 r1
theorem Cb:SS X st (λ_ _=>.no):=SR.imp λD σ H z9=>z9.el λρ h m fl h' f r e k=>by cases e
noncomputable def E8:ao->Bool|.ListComp .. |.SetComp .. |.DictComp ..=>false|_=>true
theorem PU{e:ao}{t:Option ao}{l:Nat}{env:Env}(h:E8 e):swapsWith e t l env=pure false:=by cases e<;>first|rfl|cases h
theorem X7(he:SE X e fa)(hs:E8 e):SS X (.Expr e pos) (λρ h=>(fa ρ h).bind λ_ h=>.ok (.nx ρ) h):=(SM he (PU hs)).imp λD σ H z9=>z9.el λρ h m fl h' f r e k=>by
 refine bP e λw h1 e1 e2=>?_;cases e2;exact(.mk f r e1 λv H1 m1 s1 r1 q1=>k H1 m1 s1 r1 σ (f.stp s1))
theorem X8(he:SE X e fa):SS X (.Return (aD e) pos) (λρ h=>(fa ρ h).bind λw h=>.ok (.rt w) h):=(SN he).imp λD σ H z9=>z9.el λρ h m fl h' f r e k=>by
 refine bP e λw h1 e1 e2=>?_;cases e2;exact(.mk f r e1 λv H1 m1 s1 r1 q1=>k H1 m1 s1 r1 v q1)
theorem Yb:SS X (.Return aE pos) (λρ h=>(Res.ok W.aQ h).bind λw h=>.ok (.rt w) h):=SO.imp λD σ H z9=>z9.el λρ h m fl h' f r e k=>by
 cases e;exact k H m .refl r .aQ .aQ
noncomputable abbrev sr(i:Nat)(fa:FE):FS:=λρ h=>(fa ρ h).bind λw h=>.ok (.nx (ρ.set i (aD w))) h
theorem Jc{K:aK}{i:Nat}{D:Ends}{σ:L2.St}{H:Hp}(q:ju K (sr i fa) D σ H):gu K fa σ H λv H1=>iz i v σ H1 D.nx:=by refine q.el λρ h m fl h' f r e k=>?_;refine bP e λw h1 e1 e2=>?_;cases e2;exact(.mk f r e1 λv H1 m1 s1 r1 q1=>k H1 m1 s1 r1 _ ((f.stp s1).set q1 i))
theorem PV{i:Nat}{pos':Pos}(hN:X.N.Nodup)(hi:X.N[i]?=aD x)(hx:Loc X.env.scope x)(hf:X.fn x=true\/X.env.scope.names.lookup x=aD .local)(he:SE X e fa)
 (hs:swapsWith e (aD (.Name x pos')) pos.line X.env=pure false):SS X (.Assign [.Name x pos'] e pos) (sr i fa):=(S4 hN hi hx he hs hf).imp λD σ H q=>Jc q
theorem Yc{i:Nat}{pos' lp:Pos}{ow fr:List Str}{ix:List Nat}{scope:aA}{tg iter elt:ao}{ifs:List ao}{kd:Kd}{t:Tg}{fe:FE}(hN:X.N.Nodup)(hi:X.N[i]?=aD x)(hx:Loc X.env.scope x)(hf:X.fn x=true\/X.env.scope.names.lookup x=aD .local)
 (S:aX X ow fr ix scope) (hc:X.calm) (hI:PI X tg iter (cy X.K kd fa)) (hg:∀C s₀ H₀ ex,PG (X.comp (ow++fr) scope C s₀ H₀ ex) tg (dh X.K t)) (ht:∀C s₀ H₀ ex,iX (X.comp (ow++fr) scope C s₀ H₀ ex) ifs (dz X.K fc))
 (he:∀C s₀ H₀ ex,PE (X.comp (ow++fr) scope C s₀ H₀ ex) elt (gu X.K fe)) (hsw:swapsWith (.ListComp elt [⟨tg,iter,ifs,0⟩] scope lp) (aD (.Name x pos')) pos.line X.env=pure true) (hs:∀x,foldedSetIterable iter X.env x=pure x) :
 SS X (.Assign [.Name x pos'] (.ListComp elt [⟨tg,iter,ifs,0⟩] scope lp) pos) (sr i (IT kd fa t ow.length ix fc fe)):=
 (U3 hN hi hx S hc hI hg ht he hsw hf hs).imp λD σ H q=>uz (Jc q)
theorem Cc{lp:Pos}{ow fr:List Str}{ix:List Nat}{scope:aA}{tg iter elt:ao}{ifs:List ao}{kd:Kd}{t:Tg}{fe:FE}
 (S:aX X ow fr ix scope) (hc:X.calm) (hI:PI X tg iter (cy X.K kd fa)) (hg:∀C s₀ H₀ ex,PG (X.comp (ow++fr) scope C s₀ H₀ ex) tg (dh X.K t)) (ht:∀C s₀ H₀ ex,iX (X.comp (ow++fr) scope C s₀ H₀ ex) ifs (dz X.K fc))
 (he:∀C s₀ H₀ ex,PE (X.comp (ow++fr) scope C s₀ H₀ ex) elt (gu X.K fe)) (hs:∀x,foldedSetIterable iter X.env x=pure x) :
 SE X (.ListComp elt [⟨tg,iter,ifs,0⟩] scope lp) (IT kd fa t ow.length ix fc fe):=(AK S hc hI hg ht he hs).imp λσ H Q q=>uz q
theorem Yd{lp:Pos}{ow fr:List Str}{ix:List Nat}{scope:aA}{tg iter elt gy bf:ao}{ifs dg:List ao}{kd iD:Kd}{t t2:Tg}{fe nK nc:FE}
 (S:aX X ow fr ix scope) (hc:X.calm) (hI:PI X tg iter (cy X.K kd fa)) (hg:∀C s₀ H₀ ex,PG (X.comp (ow++fr) scope C s₀ H₀ ex) tg (dh X.K t)) (ht:∀C s₀ H₀ ex,iX (X.comp (ow++fr) scope C s₀ H₀ ex) ifs (dz X.K fc))
 (wW:∀C s₀ H₀ ex,PI (X.comp (ow++fr) scope C s₀ H₀ ex) gy bf (cy X.K iD nK)) (lA:∀C s₀ H₀ ex,PG (X.comp (ow++fr) scope C s₀ H₀ ex) gy (dh X.K t2)) (B5:∀C s₀ H₀ ex,iX (X.comp (ow++fr) scope C s₀ H₀ ex) dg (dz X.K nc))
 (he:∀C s₀ H₀ ex,PE (X.comp (ow++fr) scope C s₀ H₀ ex) elt (gu X.K fe)) (hs:∀x,foldedSetIterable iter X.env x=pure x) (hs2:∀C s₀ H₀ ex x,foldedSetIterable bf (X.comp (ow++fr) scope C s₀ H₀ ex).env x=pure x) :
 SE X (.ListComp elt [⟨tg,iter,ifs,0⟩,⟨gy,bf,dg,0⟩] scope lp) (wU kd fa t ow.length ix fc iD nK t2 nc fe):=
 (AW Og rfl S hc hI hg ht (λC s₀ H₀ ex D=>Of (X:=X.comp (ow++fr) scope C s₀ H₀ ex) hc rfl (wW C s₀ H₀ ex) (lA C s₀ H₀ ex) (B5 C s₀ H₀ ex) (he C s₀ H₀ ex) (hs2 C s₀ H₀ ex) D) hs).imp λσ H Q q=>PD q
theorem Ye{i:Nat}{pos' lp:Pos}{ow fr:List Str}{ix:List Nat}{scope:aA}{tg iter elt gy bf:ao}{ifs dg:List ao}{kd iD:Kd}{t t2:Tg}{fe nK nc:FE}(hN:X.N.Nodup)(hi:X.N[i]?=aD x)(hx:Loc X.env.scope x)(hf:X.fn x=true\/X.env.scope.names.lookup x=aD .local)
 (S:aX X ow fr ix scope) (hc:X.calm) (hI:PI X tg iter (cy X.K kd fa)) (hg:∀C s₀ H₀ ex,PG (X.comp (ow++fr) scope C s₀ H₀ ex) tg (dh X.K t)) (ht:∀C s₀ H₀ ex,iX (X.comp (ow++fr) scope C s₀ H₀ ex) ifs (dz X.K fc))
 (wW:∀C s₀ H₀ ex,PI (X.comp (ow++fr) scope C s₀ H₀ ex) gy bf (cy X.K iD nK)) (lA:∀C s₀ H₀ ex,PG (X.comp (ow++fr) scope C s₀ H₀ ex) gy (dh X.K t2)) (B5:∀C s₀ H₀ ex,iX (X.comp (ow++fr) scope C s₀ H₀ ex) dg (dz X.K nc))
 (he:∀C s₀ H₀ ex,PE (X.comp (ow++fr) scope C s₀ H₀ ex) elt (gu X.K fe)) (hsw:swapsWith (.ListComp elt [⟨tg,iter,ifs,0⟩,⟨gy,bf,dg,0⟩] scope lp) (aD (.Name x pos')) pos.line X.env=pure true) (hs:∀x,foldedSetIterable iter X.env x=pure x) (hs2:∀C s₀ H₀ ex x,foldedSetIterable bf (X.comp (ow++fr) scope C s₀ H₀ ex).env x=pure x) :
 SS X (.Assign [.Name x pos'] (.ListComp elt [⟨tg,iter,ifs,0⟩,⟨gy,bf,dg,0⟩] scope lp) pos) (sr i (wU kd fa t ow.length ix fc iD nK t2 nc fe)):=
 (Vn Og (λ_=>rfl) hN hi hx S hc hI hg ht (λC s₀ H₀ ex D=>Of (X:=X.comp (ow++fr) scope C s₀ H₀ ex) hc rfl (wW C s₀ H₀ ex) (lA C s₀ H₀ ex) (B5 C s₀ H₀ ex) (he C s₀ H₀ ex) (hs2 C s₀ H₀ ex) D) hsw hf hs).imp λD σ H q=>PD (Jc q)
noncomputable def o5:ao->Bool|.Tuple ..=>false|_=>true
theorem Yg{es:List ao}{k:Nat}{e:ao}{l:Nat}{p:Pos}{env:Env}:swapsWithSole [.Tuple es k p] e l env=pure false:=by cases e<;>rfl
theorem Yh{es:List ao}{k:Nat}{p:Pos}{e:ao}{env:Env}(h:o5 e):swappedStores [.Tuple es k p] e env=pure aE:=by cases e<;>first|rfl|cases h
theorem Yi{is:List Nat}{k:Nat}(hc:X.calm)(hN:X.N.Nodup)(hs:Paired (oX X) es is)(he:SE X e fa)(ht:o5 e) :
 SS X (.Assign [.Tuple es k p] e pos) (λρ h=>(fa ρ h).bind λw h=>.of ((bH (.many is) w h ρ).map .nx) h):=(M8 he (Py hc hN hs) Yg (Yh ht) rfl).imp λD σ H z9=>z9.el λρ h m fl h' f r e k=>by
 refine bP e λw h1 e1 e2=>?_;obtain⟨e2,e3⟩:=of_ok e2;subst e3;cases z:bH (.many is) w h' ρ with
 |none=>rw[z]at e2;cases e2
 |some ρ'=>
  rw[z]at e2;cases e2;exact(.mk f r e1 λv H1 m1 s1 r1 q1=>(.mk (f.stp s1) r1 q1 z λσ' f'=>k H1 m1 s1 r1 σ' f'))
noncomputable def uB:ao->Bool|.Slice ..=>false|_=>true
theorem Yj{o i:ao}{p:Pos}{env:Env}(h:uB i)(v:aa):assign (.Subscript o i p) env v=(do
 let ov <-holding [v] (eval o env);let iv <-holding [v,ov] (eval i env)
 standAt p
 holding [v,ov,iv] (setItem ov iv v)
 release [v,ov,iv] []):=by
 cases i<;>first|rfl|cases h
noncomputable abbrev Jd(fo fi fv:FE):FS:=λρ h=>(fv ρ h).bind λw h=>(fo ρ h).bind λx h=>(fi ρ h).bind λy h=>match x,y with
 |.ref a,.int j=>(match h.get a with
  |some (.lst ws)=>(match L2.gR ws.length j with
   |some k=>.ok (.nx ρ) (h.set a (.lst (ws.set k w)))
   |none=>.no)
  |_=>rY ρ a j w h)
 |_,_=>.no
theorem Yk{o i e:ao}{l:Nat}{p:Pos}{env:Env}:swapsWithSole [.Subscript o i p] e l env=pure false:=by cases e<;>rfl
theorem Yl{o i e:ao}{p:Pos}{env:Env}:swappedStores [.Subscript o i p] e env=pure aE:=by cases e<;>rfl
theorem Ym{X:Cx}{t t':V->V->V->Hp->(Hp->Prop)->Prop}(h:kU X t)(h':kU X t'):kU X (λo i v H Q=>t o i v H Q\/t' o i v H Q):=by
 intro pins s σ H o i v ov iv u Q I ro ri rv q;rcases q with q|q
 exact h pins s σ H o i v ov iv u Q I ro ri rv q;exact h' pins s σ H o i v ov iv u Q I ro ri rv q
noncomputable def Cd:V->V->V->Hp->(Hp->Prop)->Prop:=λo i v H Q=>∃a kvs j,o=.ref a/\i=.int j/\H a=aD (.dK kvs)/\kvs.length<sizeLine/\Q (upd H a (.dK (putK kvs (.inl j) v)))
theorem Yn(hu:X.A.units+2<cLine):kU X Cd:=by intro pins s σ H o i v ov iv u Q I ro ri rv h;obtain⟨a,kvs,j,rfl,rfl,e,hl,q⟩:=h;cases ro;exact Vd (zo hu) I (rH.k (k:=.inl j) e hl) ri rv λs' I'=>⟨_,I',q⟩
theorem Yo(hu:X.A.units+2<cLine)(ho:SE X o fo)(hi:SE X a fa)(hv:SE X e fb)(hs:uB a):SS X (.Assign [.Subscript o a p] e pos) (Jd fo fa fb):=
 (M8 hv (S0 ho hi (Ym Nx (Yn hu)) (Yj hs)) Yk Yl rfl).imp λD σ H z9=>z9.el λρ h m fl h' f r e k=>by
   refine bP e λw h1 e1 e2=>?_;refine bP e2 λx h2 e3 e4=>?_;refine bP e4 λy h3 e5 e6=>?_;refine(.mk f r e1 λv H1 m1 s1 r1 q1=>(.mk (f.stp s1) r1 e3 λvo H2 m2 s2 r2 q2=>(.mk ((f.stp s1).stp s2) r2 e5 λvi H3 m3 s3 r3 q3=>?_)));split at e6;rename_i l j;split at e6;rename_i ws g;split at e6;rename_i kk hk;cases e6;cases q3;have yL:=q2.stp s3;cases yL;obtain⟨vs,p1,p2⟩:=r3.lst g;refine .inl ⟨m3 l,vs,j,kk,rfl,rfl,p1,by rw[p2.length];exact hk,?_⟩;have qv:=((q1.stp s2).stp s3)
   obtain⟨st,r'⟩:=r3.write (i:=l) (o:=.lst (ws.set kk w)) (u:=.lst (vs.set kk v)) (bT g) p1 (λ_ z=>nomatch z) (λ_ _ z=>nomatch z) λst=>⟨_,iu,aG.set (qv.stp st) kk (p2.stp st)⟩
   exact k _ m3 (((s1.trans s2).trans s3).trans st) r' σ ((((f.stp s1).stp s2).stp s3).stp st);cases e6;unfold rY at e6;split at e6;rename_i kvs g;split at e6;rename_i hb;cases e6;cases q3;have yL:=q2.stp s3;cases yL;obtain⟨vs,p1,p2⟩:=r3.dm g;have hlt:vs.length<sizeLine:=by rw[p2.length,zl];exact i8.mp hb
   refine .inr ⟨m3 l,vs,j,rfl,rfl,p1,hlt,?_⟩;have qv:=((q1.stp s2).stp s3)
   obtain⟨st,r'⟩:=r3.write (i:=l) (o:=.dm (jZ kvs (.inl j) w)) (u:=.dK (putK vs (.inl j) v)) (bT g) p1 (λ_ z=>nomatch z) (λ_ _ z=>nomatch z) λst=>⟨_,iu,aP.put (qv.stp st) _ (p2.stp st)⟩
   exact k _ m3 (((s1.trans s2).trans s3).trans st) r' σ ((((f.stp s1).stp s2).stp s3).stp st);cases e6;cases e6;cases e6
theorem Yp{M:Model}{A:ak}{E:aa->af->Prop}{s:af}{a b:aa}{T id:String}{Q:aa->af->Prop}(ha:s.TypeIs a T)(hb:s.TypeIs b T)
 (hI:typeLookup (.type T) (dunderI "add")=pure (aD (.builtin id))) (hq:isSeqSlot (aD (.builtin id))) (hfill:fillsNumberSlot (.type T) "add" = pure false) (hc:wpAny M A (call (.builtin id) [a,b]) Q E s):wpAny M A (inplaceOp .Add a b) Q E s:=by
 unfold inplaceOp;refine nO ?_;have h1:fillsInplaceSlot (.type T) "add" (Operator.Add == .Add)=pure false:=by unfold fillsInplaceSlot;show(typeLookup (.type T) (dunderI "add") >>= λfi=>pure (fi.isSome && !isSeqSlot fi))=_;rw[hI,qP,hq];rfl
 have h2:seqSlot? (.type T) (dunderI "add")=pure (aD (.builtin id)):=by unfold seqSlot?;rw[hI,qP,hq];rfl
 refine aM (Du ha (aM (wpAny_of_eq h1 ?_)));show wpAny M A (if false=true then _ else _) Q E s;rw[if_neg zw];refine aM (binaryOp1_none (nm:="add") ha hb hfill ?_);refine aM (wpAny_of_eq h2 ?_);exact aM (kO hc)
noncomputable def uC:R2:=λx y H Q=>∃l b xs zs,x=.ref l/\y=.ref b/\H l=aD (.lst xs)/\H b=aD (.lst zs)/\xs.length+zs.length<=sizeLine/\Q (.ref l) (upd H l (.lst (xs++zs)))
theorem Yq:vR X .Add uC:=by
 intro pins s σ H x y v u Q I rx ry h;obtain⟨l,b,xs,zs,rfl,rfl,hH,hB,hz,q⟩:=h;cases rx;cases ry;obtain⟨z,its,n,r,hl,e⟩:=I.dH hH;obtain⟨z2,its2,n2,r2,hl2,e2⟩:=I.dH hB;have hsz:its.toArray.size+its2.toArray.size<=sizeLine:=by rw[cG,cG];lia
 have n6:¬(!its.toArray.isEmpty&&Builtin.List.listTooLong (its.toArray.size+its2.toArray.size))=true:=by rw[NC hsz,Bool.and_false];exact zw
 refine Yp (T:="list") (id:="list.__iadd__") ⟨_,e,rfl⟩ ⟨_,e2,rfl⟩ PySem.F.slot_list_iadd.lookup (by decide +kernel) noFill_list_add ?_;refine qI PySem.F.slot_list_iadd ⟨_,e,rfl⟩ PySem.F.entry_list_iadd (PySem.F.args_list_iadd_2 _ _)
  (AutoSeq1.list___iadd___list_list_0 l its.toArray n b its2.toArray n2 n6 (by rw[cG];lia) (by lia)) ⟨e,e2,?_⟩
 refine⟨.ref l,_,I.v9 (its':=its++its2) hH e (by simp) (r.append r2) ?_,rfl,q⟩;rw[eW];lia
noncomputable def su:Operator->Option Op|.Add=>aD .add|.Sub=>aD .sub|.Mult=>aD .mul|.FloorDiv=>aD .fdiv|_=>aE
noncomputable def PX(K:aK):Op->R2|.mul=>rI mP λi j=>.int (i*j)|.fdiv=>rI rq λi j=>.int (i/j)|.add=>λx y H Q=>D9 (λi j=>i+j) x y H Q\/uC x y H Q\/lH K x y H Q|.sub=>D9 λi j=>i-j|_=>λ_ _ _ _=>False
theorem Ce{O:Operator}{o:Op}(e:su O=aD o):vR X O (PX X.K o):=by
 cases O<;>cases e;intro pins s σ H x y v u Q I rx ry q;rcases q with q|q|q
 exact M9 pins s σ H x y v u Q I rx ry q;exact Yq pins s σ H x y v u Q I rx ry q;exact XY pins s σ H x y v u Q I rx ry q;exact S9;exact TJ;exact TL
theorem Yr{K:aK}{O:Operator}{o:Op}(e:su O=aD o):BG K (PX K o) (yM o):=by
 intro m h H v u x y w h' Q r qv qu e2 k;unfold yM at e2;split at e2;rename_i i j;cases qv;cases qu;split at e2;cases e2;exact .inl ⟨i,j,rfl,rfl,aN.here k r (.int _)⟩;cases e2;exact⟨i,j,rfl,rfl,aN.here k r (.int _)⟩;obtain⟨e2,rfl⟩:=of_ok e2;cases z:eY .mul i j with
 |none=>rw[z]at e2;cases e2
 |some t=>
  rw[z]at e2;cases e2;obtain⟨c1,rfl⟩:=IF z;exact⟨i,j,rfl,rfl,c1,aN.here k r (.int _)⟩
 obtain⟨e2,rfl⟩:=of_ok e2;cases z:eY .fdiv i j with
 |none=>rw[z]at e2;cases e2
 |some t=>
  rw[z]at e2;cases e2;obtain⟨c1,rfl⟩:=IF z;exact⟨i,j,rfl,rfl,c1,aN.here k r (.int _)⟩
 cases e2;rename_i i j;split at e2;rename_i xs ys g1 g2;split at e2;rename_i hz;cases e2;cases qv;cases qu;obtain⟨vs,p1,p2⟩:=r.lst g1;obtain⟨us,p3,p4⟩:=r.lst g2;refine .inr (.inl ⟨m i,m j,vs,us,rfl,rfl,p1,p3,by rw[p2.length,p4.length];exact kr hz,?_⟩);obtain⟨st,r'⟩:=r.write (i:=i) (o:=.lst (xs++ys)) (u:=.lst (vs++us)) (bT g1) p1 (λ_ z=>nomatch z) (λ_ _ z=>nomatch z) λst=>⟨_,iu,(p2.stp st).append (p4.stp st)⟩
 exact k _ _ m st r' (.ref (show i<h.n from bT g1));cases e2;cases e2;rename_i x xs ys;split at e2;split at e2;rename_i hz;cases e2;cases qv with
 |tup qa ra=>
  cases qu with
  |tup qb rb=>
   rename_i a va b vb;refine .inr (.inr ⟨a,b,va,vb,rfl,rfl,qa,qb,λz=>?_,by rw[ra.length,rb.length];exact kr hz,λz=>?_,λ_ p hp=>aN.tuple k r (ra.append rb) hp⟩);subst z;cases ra;subst z;cases rb;rw[nI]at k;exact aN.here k r (.tup qa ra)
 cases e2;cases e2;cases e2
noncomputable abbrev wX(i:Nat)(o:Op)(fa:FE):FS:=λρ h=>match(ρ[i]?).join with|some x=>(fa ρ h).bind λy h=>(yM o x y h).bind λz h=>.ok (.nx (ρ.set i (aD z))) h|none=>.no
theorem Ys{i:Nat}{pos':Pos}{O:Operator}{o:Op}(eo:su O=aD o)(hN:X.N.Nodup)(hi:X.N[i]?=aD x)(hx:Loc X.env.scope x)(hf:X.fn x=true\/X.env.scope.names.lookup x=aD .local)(he:SE X e fa) :
 SS X (.AugAssign (.Name x pos') O e pos) (wX i o fa):=(S6 hN hi hx he (Ce eo) hf).imp λD σ H z9=>z9.el λρ h m fl h' f r e k=>by
 have e:wX i o fa ρ h=.ok fl h':=e;simp only[wX]at e;cases z:(ρ[i]?).join with
 |none=>rw[z]at e;cases e
 |some x=>
  rw[z]at e;simp only at e;refine bP e λy h1 e1 e2=>?_;refine bP e2 λw h2 e3 e4=>?_;cases e4;have e5:ρ[i]?=aD (aD x):=by
   cases q:ρ[i]? with|none=>rw[q]at z;cases z|some o=>rw[q]at z;rw[<-z];rfl
  obtain⟨v,p1,p2⟩:=f.val i x e5;refine⟨v,p1,ρ,h,m,y,h1,f,r,e1,λu H1 m1 s1 r1 q1=>Yr eo m1 h1 H1 v u x y w h' _ r1 (p2.stp s1) q1 e3 λv' H' m' s' r' q'=>?_⟩;exact k H' m' (s1.trans s') r' _ (((f.stp s1).stp s').set q' i)
theorem Yt:z0 X (vZ X.K):=by
 intro pins s σ H x y v u Q I rx ry h;obtain⟨p,xs,i,z,rfl,rfl,hq,he,q⟩:=h;cases rx;obtain⟨t,rfl⟩:=ry;obtain⟨its,r,pl,hz⟩:=I.list hq;obtain⟨j,h1,h2,h3,h4,h5⟩:=Eh he;obtain⟨w,ew,rw'⟩:=r.get h2;have hl:=r.length;have hn:=uc;have fin:EP X pins σ Q w s:=⟨z,H,I,rw',q⟩
 by_cases h0:0<=i;have hj:i.toNat=j:=by rw[Dw h0 h5]at h1;exact mG h1
 exact wpAny_getItem_list pl.isList h0 (by lia) (by rw[hj];simpa using ew) fin;have hj:(i+ (its.toArray.size:Int)).toNat=j:=by rw[Dv (by lia) h4]at h1;rw[cG,<-hl];exact mG h1
 exact wpAny_getItem_list_neg pl.isList (by lia) (by rw[cG]<;>lia) (by lia) (by rw[hj];simpa using ew) fin
theorem Yu{i:ao}(h:uB i)(ov iv new:aa):augStore i ov iv new=(do holding [new,ov,iv] (setItem ov iv new);release [new,ov,iv] [];pure .next):=by cases i<;>first|rfl|cases h
theorem Yv{x y:W}{p:Int}{h h':VH}(e:j8 x y h=.ok p h'):∃a j ws,x=.ref a/\y=.int j/\h.get a=aD (.lst ws)/\cZ ws j=aD (.int p)/\h'=h:=by unfold j8 at e;split at e;split at e;split at e;rename_i g _ _ hp;cases e;exact⟨_,_,_,rfl,rfl,g,hp,rfl⟩;cases e;cases e;cases e
theorem Yw{ρ:En}{x y z:W}{p:Int}{h h':VH}{fl:Fl}(e:lu ρ x y p z h=.ok fl h'):∃a j q ws k,x=.ref a/\y=.int j/\z=.int q/\h.get a=aD (.lst ws)/\gR ws.length j=aD k/\fl=.nx ρ/\h'=h.set a (.lst (ws.set k (.int (p+q)))):=by unfold lu at e;split at e;split at e;split at e;rename_i g _ _ hk;cases e;exact⟨_,_,_,_,_,rfl,rfl,rfl,g,hk,rfl,rfl⟩;cases e;cases e;cases e
noncomputable abbrev Je(fo fi fe:FE):FS:=λρ h=>(fo ρ h).bind λx h=>(fi ρ h).bind λy h=>(j8 x y h).bind λp h=>(fe ρ h).bind λz h=>lu ρ x y p z h
theorem Yx(ho:SE X o fo)(hi:SE X a fa)(hv:SE X e fb)(hs:uB a):SS X (.AugAssign (.Subscript o a p) .Add e pos) (Je fo fa fb):=
 (S8 ho hi Yt hv M9 Nx (Yu hs)).imp λD σ H z9=>z9.el λρ h m fl h' f r e k=>by
   refine bP e λx h1 e1 e2=>?_;refine bP e2 λy h2 e3 e4=>?_;refine bP e4 λp0 h3 e5 e6=>?_;refine bP e6 λz h4 e7 e8=>?_;obtain⟨a,j,ws,rfl,rfl,g,hp,rfl⟩:=Yv e5;obtain⟨a',j',q,E1,kk,ea,ej,rfl,g',hk,rfl,rfl⟩:=Yw e8;cases ea;cases ej;refine(.mk f r e1 λvo H1 m1 s1 r1 q1=>(.mk (f.stp s1) r1 e3 λvi H2 m2 s2 r2 q2=>?_));cases q2;have Iz:=q1.stp s2;cases Iz;obtain⟨vs,b1,b2⟩:=r2.lst g;obtain⟨v',a1,a2⟩:=EZ b2 hp;cases a2;refine⟨m2 a,vs,j,.int p0,rfl,rfl,cC.of b1,a1,?_⟩;refine(.mk ((f.stp s1).stp s2) r2 e7 λv H3 m3 s3 r3 q3=>?_);cases q3;refine⟨p0,q,rfl,rfl,?_⟩;obtain⟨vs',c1,c2⟩:=r3.lst g';have em:m3 a=m2 a:=s3.same a (bT g);refine⟨m2 a,vs',j,kk,rfl,rfl,by rw[<-em];exact c1,by rw[c2.length];exact hk,?_⟩;rw[<-em];obtain⟨st,r'⟩:=r3.write (i:=a) (o:=.lst (E1.set kk (.int (p0+q)))) (u:=.lst (vs'.set kk (.int (p0+q)))) (bT g') c1 (λ_ z=>nomatch z) (λ_ _ z=>nomatch z) λst=>⟨_,iu,aG.set (.int _) kk (c2.stp st)⟩
   exact k _ m3 (((s1.trans s2).trans s3).trans st) r' σ ((((f.stp s1).stp s2).stp s3).stp st)
noncomputable abbrev Yy(fc:FE)(ga gb:FS):FS:=λρ h=>(fc ρ h).bind λx h=>match x with|.bl true=>ga ρ h|.bl false=>gb ρ h|_=>.no
variable{sa sb:List au}
theorem Yz(hc:ST X c fc)(ha:sj X sa ga)(hb:sj X sb gb):SS X (.If c sa sb pos) (Yy fc ga gb):=(zX hc ha hb).imp λD σ H z9=>z9.el λρ h m fl h' f r e k=>by
 refine bP e λx h1 e1 e2=>?_;cases x<;>try cases e2
 rename_i c;refine(.mk f r e1 λH1 m1 s1 r1=>?_);cases c with|true=>rw[if_pos rfl];exact(.mk (f.stp s1) r1 e2 λH' m' s' r'=>k H' m' (s1.trans s') r')|false=>simp only[dZ,dF];exact(.mk (f.stp s1) r1 e2 λH' m' s' r'=>k H' m' (s1.trans s') r')
theorem YA{nx:Nat->VH->Option (Option W)}{tg:W->VH->En->Option En}{g:FS}{f i:Nat}{ρ:En}{h:VH}{fl:Fl}{h':VH}(q:dj nx tg g (f+1) i ρ h=.ok fl h'):∃o,nx i h=aD o:=by simp only[dj]at q;split at q;cases q;exact⟨_,by assumption⟩;exact⟨_,by assumption⟩
noncomputable abbrev Cf(kd:Kd)(fa:FE)(t:Tg)(g:FS):FS:=λρ h=>(fa ρ h).bind λx h=>dj (bg kd x) (bH t) g fuel 0 ρ h
theorem YB{K:aK}{kd:Kd}{t:Tg}{D:Ends}{σ:L2.St}{H:Hp}(q:ju K (Cf kd fa t ga) D σ H):Ae (cy K kd fa) (dh K t) (ju K ga) D σ H:=by
 refine q.el λρ h m fl h' f r e k=>?_;refine bP e λx h1 e1 e2=>?_;refine(.mk f r e1 (YA (f:=999999) e2) λJ P H1 m1 s1 r1 J1 p1=>?_);refine⟨λi fu σ' H'=>∃ρ' h3 m3,dj (bg kd x) (bH t) ga fu i ρ' h3=.ok fl h'/\Fr K m3 h3.n H' σ' ρ'/\Rel K m3 h3 H'/\bQ m1 h1.n H1 m3 h3.n H'/\P m3 h3.n H',⟨fuel,ρ,h1,m1,e2,f.stp s1,r1,.refl,p1⟩,?_⟩;rintro i fu σ' H' ⟨ρ',h3,m3,e3,f3,r3,s3,p3⟩;cases fu with
 |zero=>cases e3
 |succ fu=>
  simp only[dj]at e3;obtain⟨j1,j2⟩:=J1.2 m3 h3 H' r3 p3 i;split at e3;cases e3;rename_i hn;cases e3;exact .inl ⟨j2 hn,k H' m3 (s1.trans s3) r3 σ' f3⟩;rename_i w hn;obtain⟨j3,j4⟩:=j1 w hn;split at e3;cases e3;rename_i PY ht;refine bP e3 λCg h5 e5 e6=>?_;refine .inr ⟨j3,λjA H6=>∃jv m6,dj (bg kd x) (bH t) ga fu (i+1) jv h5=.ok fl h'/\Fr K m6 h5.n H6 jA jv/\Rel K m6 h5 H6/\bQ m1 h1.n H1 m6 h5.n H6/\P m6 h5.n H6,λjA H6 ⟨jv,m6,a1,a2,a3,a4,a5⟩=>⟨fu,iT _,jv,h5,m6,a1,a2,a3,a4,a5⟩,λy H4 hy=>?_⟩;obtain⟨s4,r4,q4⟩:=j4 y H4 hy;refine⟨ρ',h3,m3,w,PY,f3.stp s4,r4,q4,ht,λkF f5=>⟨PY,h3,m3,Cg,h5,f5,r4,e5,λH6 m6 s6 r6=>?_⟩⟩;have p4:=J1.1 m3 h3.n H' m3 h3.n H4 (aT _) (λ_ _=>rfl) (λb vs q=>s4.tup b vs q) (λb o u q=>s4.bL b o u q) p3;have p6:=J1.1 m3 h3.n H4 m6 h5.n H6 s6.le s6.same (λb vs q=>s6.tup b vs q) (λb o u q=>s6.bL b o u q) p4;have sA:=(s3.trans s4).trans s6;cases Cg with|nx jv=>exact λjA f6=>⟨jv,m6,e6,f6,r6,sA,p6⟩|ct jv=>exact λjA f6=>⟨jv,m6,e6,f6,r6,sA,p6⟩|bk jv=>cases e6;exact λjA f6=>k H6 m6 (s1.trans sA) r6 jA f6|rt w6=>cases e6;exact λv6 q6=>k H6 m6 (s1.trans sA) r6 v6 q6
theorem YC{kd:Kd}{t:Tg}{tg iter:ao}(hp:PassesOwn (model X.prog X.w) X.A X.env X.xe)(hc:X.calm)(hI:PI X tg iter (cy X.K kd fa))(hg:PG X tg (dh X.K t))(hb:sj X sa ga)(hs:∀x,foldedSetIterable iter X.env x=pure x) :
 SS X (.For tg iter sa [] pos) (Cf kd fa t ga):=(Tp hp hc hI hg hb hs).imp λD σ H q=>YB q
theorem YD(hp:PassesOwn (model X.prog X.w) X.A X.env X.xe)(hc:ST X c fc)(hb:sj X sa ga):SS X (.While c sa [] pos) (λρ h=>fJ fc ga fuel ρ h):=(Td hp hc hb).imp λD σ H z9=>z9.el λρ h m fl h' f r e k=>by
 refine⟨λfu σ' H'=>∃ρ' h3 m3,fJ fc ga fu ρ' h3=.ok fl h'/\Fr X.K m3 h3.n H' σ' ρ'/\Rel X.K m3 h3 H'/\bQ m h.n H m3 h3.n H',⟨fuel,ρ,h,m,e,f,r,.refl⟩,?_⟩;rintro fu σ' H' ⟨ρ',h3,m3,e3,f3,r3,s3⟩;cases fu with
 |zero=>cases e3
 |succ fu=>
  simp only[fJ]at e3;refine bP e3 λx h4 e4 e5=>?_;cases x<;>try cases e5
  rename_i b;refine⟨ρ',h3,m3,b,h4,f3,r3,e4,λH4 m4 s4 r4=>?_⟩;cases b with
  |false=>cases e5;simp only[dZ,dF];exact k H4 m4 (s3.trans s4) r4 σ' (f3.stp s4)
  |true=>
   simp only[bZ];refine bP e5 λCg h5 e6 e7=>?_;refine⟨λjA H6=>∃jv m6,fJ fc ga fu jv h5=.ok fl h'/\Fr X.K m6 h5.n H6 jA jv/\Rel X.K m6 h5 H6/\bQ m h.n H m6 h5.n H6,λjA H6 ⟨jv,m6,a1,a2,a3,a4⟩=>⟨fu,iT _,jv,h5,m6,a1,a2,a3,a4⟩,?_⟩;refine⟨ρ',h4,m4,Cg,h5,f3.stp s4,r4,e6,λH6 m6 s6 r6=>?_⟩;have sA:=(s3.trans s4).trans s6;cases Cg with|nx jv=>exact λjA f6=>⟨jv,m6,e7,f6,r6,sA⟩|ct jv=>exact λjA f6=>⟨jv,m6,e7,f6,r6,sA⟩|bk jv=>cases e7;exact λjA f6=>k H6 m6 sA r6 jA f6|rt w6=>cases e7;exact λv6 q6=>k H6 m6 sA r6 v6 q6
end
theorem Ci{n:Str}:∀{ps:List Str} {us:List aa},us.length=ps.length->n∈ps->((ps.zip us).lookup n).isSome=true
 |[],_,_,h=>by cases h
 |p::ps,[],hl,_=>by cases hl
 |p::ps,u::us,hl,h=>by
  rw[p5,gw];by_cases e:(n==p)=true;rw[e];rfl;have e':(n==p)=false:=by simpa using e
  rw[e'];refine Ci (by simpa using hl) ?_;rcases fP.mp h with z|z
  rw[z]at e';simp at e';exact z
theorem YE{n:Str}{u:aa}{p:Str}{ps:List Str}{us:List aa}(h:n≠p):((p,u)::ps.zip us).lookup n=(ps.zip us).lookup n:=by
 rw[gw];have e':(n==p)=false:=by simpa using h
 rw[e']
theorem PZ{α β:Type}{f g:α->Option β}:∀{l:List α},(∀a∈l,f a=g a)->l.filterMap f=l.filterMap g
 |[],_=>rfl
 |a::r,h=>by
  rw[yg,yg,h a fk,PZ λb hb=>h b (dQ _ hb)]
theorem E9:∀{ps:List Str} {us:List aa},us.length=ps.length->ps.Nodup->ps.filterMap (λn=>((ps.zip us).lookup n).map (n,·))=ps.zip us
 |[],_,_,_=>rfl
 |p::ps,[],hl,_=>by cases hl
 |p::ps,u::us,hl,hn=>by
  obtain⟨h1,h2⟩:=vD.mp hn;rw[p5,yg];have e:((p,u)::ps.zip us).lookup p=aD u:=by rw[gw];simp
  rw[e];simp only[vL];congr 1;have ih:=E9 (ps:=ps) (us:=us) (by simpa using hl) h2;refine Eq.trans ?_ ih;exact PZ λn hn'=>by
   have hne:n≠p:=λz=>h1 (by rw[<-z];exact hn');rw[YE hne]
theorem P4{x qual:Str}{args:List Arg}{body:List au}{sc:aA}{kV doc pm:aa}{an:Option ah}{cdv ct:aa}{us:List aa}{df:List ao}(hl:us.length=(args.map (·.arg)).length)(hn:(args.map (·.arg)).Nodup) :
 bindArgs (PySem.W.fnOf x qual ⟨[],args,aE,[],[],aE,df⟩ body sc .none kV doc pm an cdv ct) ⟨us,[]⟩=pure ((args.map (·.arg)).zip us):=by
 have hs:seqItems? Value.none=pure aE:=rfl;have hm:((args.map (·.arg)).filter λn=>(((args.map (·.arg)).zip us).lookup n).isNone)=[]:=by
  rw[List.filter_eq_nil_iff];intro n hn';have:=Ci hl hn';cases q:((args.map (·.arg)).zip us).lookup n with|none=>rw[q]at this;cases this|some v=>simp
 unfold bindArgs;simp only[PySem.W.fnOf,yi,yh,nI,hs,qP];have hg:¬(us.length> (args.map (·.arg)).length):=by lia
 have h0:(#[]:Array aa).toList=[]:=rfl;simp only[Option.getD_none,h0,vF,qP,List.drop_nil,DN,Nat.sub_zero,zA,hm,List.isEmpty_nil,Bool.not_true,DK,List.zip_nil_right,List.zip_nil_left,gX hg,zx,dZ,dF,E9 hl hn]
theorem P5{z:Str}:∀{qs:List Str} {us:List aa},us.length=qs.length->(qs++[z]).zip us=qs.zip us
 |[],[],_=>rfl
 |[],_::_,h=>by cases h
 |_::_,[],h=>by cases h
 |q::qs,u::us,h=>by
  rw[DL,p5,p5,P5 (by simpa using h)]
theorem Jf{z:Str}{v:aa}:∀{qs:List Str} {us:List aa},us.length=qs.length->(qs++[z]).zip (us++[v])=qs.zip us++[(z,v)]
 |[],[],_=>rfl
 |[],_::_,h=>by cases h
 |_::_,[],h=>by cases h
 |q::qs,u::us,h=>by
  rw[DL,DL,p5,p5,Jf (by simpa using h),DL]
theorem P6{z:Str}:∀{qs:List Str} {us:List aa},z∉qs->(qs.zip us).lookup z=aE
 |[],_,_=>rfl
 |_::_,[],_=>rfl
 |q::qs,u::us,h=>by
  rw[p5,gw];have e':(z==q)=false:=by simpa using(λe=>h (by rw[e];exact fk))
  rw[e'];exact P6 λe=>h (dQ _ e)
section
variable{x qual:Str}{args:List Arg}{df:List ao}{body:List au}{sc:aA}{kV doc pm:aa}{an:Option ah}{cdv ct:aa}{t:ah}{o:Obj}{n:Nat}{s:af}{us:List aa}{qs:List Str}{z:Str}
theorem P7(qs:List Str)(z:Str):List.drop ([Value.none].length- (qs++[z]).length) [Value.none]=[Value.none]:=by rw[eW,yd,yd,show 1- (qs.length+1)=0 by lia];rfl
theorem uD(qs:List Str)(z:Str):(qs++[z]).length - [Value.none].length=qs.length:=by simp
theorem YF(ha:args.map (·.arg)=qs++[z])(hn:(qs++[z]).Nodup)(ho:s.heap.get? t=aD o)(hd:o.data=.seq #[.none] n)(hl:us.length=(qs++[z]).length) :
 BindsTo s (PySem.W.fnOf x qual ⟨[],args,aE,[],[],aE,df⟩ body sc (.ref t) kV doc pm an cdv ct) ⟨us,[]⟩ ((qs++[z]).zip us):=by
 apply BindsTo.of_defaults (items:=#[.none]) (n:=n) rfl ho hd;unfold bindArgs;simp only[PySem.W.fnOf,yi,yh,nI,vF,qP,ha];rfl;have hm:(qs.filter λn=>(((qs++[z]).zip us).lookup n).isNone)=[]:=by
  rw[List.filter_eq_nil_iff];intro n hn';have:=Ci (n:=n) hl (zy _ hn');cases q:((qs++[z]).zip us).lookup n with|none=>rw[q]at this;cases this|some v=>simp
 have hz:(((qs++[z]).zip us).lookup z).isNone=false:=by
  have:=Ci (n:=z) hl (ig _ (pZ.mpr rfl));cases q:((qs++[z]).zip us).lookup z with|none=>rw[q]at this;cases this|some v=>rfl
 have hg:¬(us.length> (qs++[z]).length):=by lia
 simp only[zH,P7,uD,List.take_left',List.take_left,List.drop_left,List.drop_left',hm,gX hg,zx,dZ,dF,List.isEmpty_nil,Bool.not_true,p5,List.zip_nil_right,zB,vF,hz,qP,E9 hl hn]
theorem YG(ha:args.map (·.arg)=qs++[z])(hn:(qs++[z]).Nodup)(ho:s.heap.get? t=aD o)(hd:o.data=.seq #[.none] n)(hl:us.length=qs.length) :
 BindsTo s (PySem.W.fnOf x qual ⟨[],args,aE,[],[],aE,df⟩ body sc (.ref t) kV doc pm an cdv ct) ⟨us,[]⟩ ((qs++[z]).zip (us++[.none])):=by
 apply BindsTo.of_defaults (items:=#[.none]) (n:=n) rfl ho hd;unfold bindArgs;simp only[PySem.W.fnOf,yi,yh,nI,vF,qP,ha];rfl;have hm:(qs.filter λn=>((qs.zip us).lookup n).isNone)=[]:=by
  rw[List.filter_eq_nil_iff];intro n hn';have:=Ci (n:=n) hl hn';cases q:(qs.zip us).lookup n with|none=>rw[q]at this;cases this|some v=>simp
 have YH:z∉qs:=λh=>(List.nodup_append.mp hn).2.2 z h z (pZ.mpr rfl) rfl;have hz:((qs.zip us).lookup z).isNone=true:=by rw[P6 YH];rfl
 have hg:¬(us.length> (qs++[z]).length):=by rw[eW];lia
 have hl2:(us++[Value.none]).length=(qs++[z]).length:=by rw[eW,eW,hl];rfl
 have ha2:=E9 hl2 hn;rw[Jf hl]at ha2;simp only[zH,P7,uD,P5 hl,Jf hl,List.take_left',List.take_left,List.drop_left,List.drop_left',hm,gX hg,zx,dZ,dF,List.isEmpty_nil,Bool.not_true,p5,List.zip_nil_right,zB,vF,hz,bZ,qP,ha2]
end
structure o9(K:aK)(x qual:Str)(st:au)(f:ah)(fd:av):Prop where
 ex:∃(oc:aa) (od:Option ah) (dV kV doc pm:aa) (an:Option ah) (cdv ct:aa) (osl:Array (Option aa)),fd=PySem.W.fnOf x qual (UR st) (AG st) (jj st) dV kV doc pm an cdv ct/\K.lookup f=aD ⟨oc,od,.func fd,osl⟩/\PySem.W.codeIn K cdv qual=true
 kp:PySem.W.keepIn K (.ref f)=true
theorem o9.ok{P:ai}{w:aj}{K:aK}{mg:Str->Option aa}{base:aB}{x qual:Str}{st:au}{f:ah}{fd:av}{N ps:List Str}{k:Nat}{sp:Sp}(F:o9 K x qual st f fd)(S:cR N ps (jj st))(len:∀vs H Q E,sp vs H Q E->vs.length=ps.length)
 (hbody:∀(cdv:aa)(A:ak)(outer:List Env)(s:af)(H:Hp)(vs:List V)(Q:VK)(E:XK),cM k (A.deeper (envOfC qual (jj st) s.heap.objs.size f cdv))->sp vs H Q E->∃t,kD (jO lI P w K mg base N qual (jj st) f cdv A outer s H E).yC (AG st) t/\t {nx:=λ_ H'=>Q .aQ H',rt:=Q} (start N vs) H):fE P w K mg base lI (k+1) f fd ps sp:=
 let⟨_,_,_,_,_,_,_,cdv,_,_,e,lk,hcd⟩:=F.ex
 by subst e;exact Au lk hcd S len λA outer s H vs Q E hr qg=>let⟨t,h,q⟩:=hbody cdv A outer s H vs Q E hr qg;⟨t,h.yC,q⟩
section
variable{K:aK}{m m':Nat->ah}{n n':Nat}{h h':VH}{H H':Hp}
mutual
theorem aL.fL:∀{v:V} {w:W},aL K m n H v w->W.lt n w=true|_,_,.aQ=>rfl|_,_,.bl _=>rfl|_,_,.int _=>rfl|_,_,.str _=>rfl|_,_,.tup _ r=>aG.fL r|_,_,.fz _ r=>aG.fL r|_,_,.ref q=>i8.mpr q
theorem aG.fL:∀{vs:List V} {ws:List W},aG K m n H vs ws->W.mU n ws=true
 |_,_,.nil=>rfl
 |_,_,.cons q r=>by
  show(W.lt n _&&W.mU n _)=true;rw[aL.fL q,aG.fL r];rfl
end
mutual
theorem aL.cut:∀{v:V} {w:W},aL K m n' H v w->W.lt n w=true->aL K m n H v w|_,_,.aQ,_=>.aQ|_,_,.bl b,_=>.bl b|_,_,.int b,_=>.int b|_,_,.str b,_=>.str b|_,_,.tup q r,e=>.tup q (aG.cut r e)|_,_,.fz q r,e=>.fz q (aG.cut r e)|_,_,.ref q,e=>.ref (i8.mp e)
theorem aG.cut:∀{vs:List V} {ws:List W},aG K m n' H vs ws->W.mU n ws=true->aG K m n H vs ws
 |_,_,.nil,_=>.nil
 |_,_,.cons q r,e=>by
  have e:(W.lt n _&&W.mU n _)=true:=e;rw[bE]at e;exact .cons (aL.cut q e.1) (aG.cut r e.2)
end
theorem aP.cut{m':Nat->ah}{n1:Nat}{H':Hp}:∀{vs us:List (Key×V)} {ws:List (Key×W)},aP K m n' H vs ws->aP K m' n H' us ws->aP K m n H vs ws|_,_,_,.nil,_=>.nil|_,_,_,.cons q r,.cons q2 r2=>.cons (q.cut q2.fL) (aP.cut (n1:=n1) r r2)
theorem P8{lo:Nat}(r:Rel K m h H):Rel K m ⟨h.n,lo,h.os⟩ H:=⟨r.obj,r.inj,r.len⟩
theorem P9{w w2:W}{h1 h2:VH}{v:V}{Q:VK}(r:Rel K m h H)(s:bQ m h.n H m' h1.n H')(r1:Rel K m' h1 H')(q:aL K m' h1.n H' v w)(g:fK ⟨h.n,h.n,h.os⟩ h1)(e:leave h w h1=.ok w2 h2)(k:aN K m h.n H w2 h2 Q):Q v H':=by
 unfold leave at e;split at e;rename_i hc;cases e;rw[bE]at hc;have hlo:=kr hc.1;refine k v H' m' ⟨aT _,s.same,λi a b=>absurd b (jH.mpr a),λi j a b=>absurd b (jH.mpr a),s.tup,s.bL,s.keep⟩ ⟨λi hi=>?_,λi j hi hj=>r1.inj i j (dP hi s.le) (dP hj s.le),r.len⟩ (q.cut hc.2);have hg:h1.get i=h.get i:=g.2.2 i hi (dP hi hlo);obtain⟨o,p1,p2⟩:=r1.obj i (dP hi s.le);rw[hg]at p1;refine⟨o,p1,?_⟩;have p3:=r.at_ p1;cases o with
 |lst ws=>
  obtain⟨vs,a1,a2⟩:=p2;obtain⟨us,b1,b2⟩:=p3;exact⟨vs,a1,a2.cut b2.fL⟩
 |dk ws=>
  obtain⟨vs,a1,a2⟩:=p2;obtain⟨us,b1,b2⟩:=p3;exact⟨vs,a1,aP.cut (n1:=0) a2 b2⟩
 |dm ws=>
  obtain⟨vs,a1,a2⟩:=p2;obtain⟨us,b1,b2⟩:=p3;exact⟨vs,a1,aP.cut (n1:=0) a2 b2⟩
 cases e;exact k v H' m' s (P8 r1) q
theorem YI{N:List Str}{vs:List V}{ws:List W}(q:aG K m n H vs ws):Fr K m n H (L2.start N vs) (ws.map aD++bD (N.length-ws.length) aE):=by
 unfold L2.start;refine⟨by simp[q.length],λi w e=>?_⟩;by_cases hi:i<ws.length;rw[tV (by simpa using hi)]at e;rw[tV (by simpa[q.length]using hi)];rw[gh]at e ⊢;cases z:ws[i]? with
 |none=>rw[z]at e;cases e
 |some w'=>
  rw[z]at e;cases e;obtain⟨v,h1,h2⟩:=q.get z;exact⟨v,by rw[h1];rfl,h2⟩
 rw[qL (by simpa using jH.mp hi)]at e;rw[List.getElem?_replicate]at e;split at e<;>cases e
end
theorem Jg{F:Nat->Option Fn}{k idx:Nat}{ws:List W}{h h':VH}{w:W}{fn:Fn}(hF:F idx=aD fn)(e:run F k idx ws h=.ok w h'):ws.length=fn.ps:=by
 cases k with
 |zero=>cases e
 |succ k=>
  simp only[run,hF]at e;split at e;rename_i hl;exact zm hl;cases e
theorem Qa{P:ai}{w:aj}{K:aK}{mg:Str->Option aa}{base:aB}{F:Nat->Option Fn}{k idx:Nat}{fn:Fn}{x qual:Str}{st:au}{f:ah}{fd:av}{N ps:List Str}(hF:F idx=aD fn)(Fu:o9 K x qual st f fd)(S:cR N ps (jj st))
 (hn:fn.n=N.length) (hp:fn.ps=ps.length)
 (hbody:∀(cdv:aa)(A:ak)(outer:List Env)(s:af)(H:Hp)(E:XK),cM k (A.deeper (envOfC qual (jj st) s.heap.objs.size f cdv))->sj (jO lI P w K mg base N qual (jj st) f cdv A outer s H E).yC (AG st) (exs (run F k) fn.body)) :
 fE P w K mg base lI (k+1) f fd ps (oW K ps.length (run F (k+1) idx)):=by
 refine Fu.ok S (λvs H Q E h=>h.1) λcdv A outer s H vs Q E hr qg=>?_;refine⟨_,hbody cdv A outer s H E hr,?_⟩;obtain⟨hl,h,m,ws,w2,h2,r,q,e,k2⟩:=qg;have hws:=Jg hF e;simp only[run,hF]at e;split at e;refine bP e λfl h1 e1 e2=>?_;have g:=E6 (E7 F k) _ _ _ _ _ e1;have hN:fn.n-fn.ps=N.length-ws.length:=by rw[hn,hws]
 rw[hN]at e1;refine⟨_,⟨h.n,h.n,h.os⟩,m,fl,h1,YI q,P8 r,e1,λH' m' s' r'=>?_⟩;cases fl with|nx ρ=>exact λσ' f'=>P9 r s' r' .aQ g e2 k2|rt w3=>exact λv q3=>P9 r s' r' q3 g e2 k2|bk _=>cases e2|ct _=>cases e2
 cases e
theorem Qc{P:ai}{w:aj}{K:aK}{mg:Str->Option aa}{base:aB}{F:Nat->Option Fn}{idx:Nat}{f:ah}{fd:av}{ps:List Str}:fE P w K mg base lI 0 f fd ps (oW K ps.length (run F 0 idx)):=
 ⟨λvs H Q E h=>h.1,λA outer s H args us vs Q E hr he hb hv hs=>by obtain⟨_,h,m,ws,w2,h2,r,q,e,k2⟩:=hs;cases e⟩
noncomputable def fV(K:aK)(x:Str):Option ah:=(match PySem.W.nsIn K mainGlobals x with|some (aD (.ref f))=>aD f|_=>aE)
theorem Qd{K:aK}{x:Str}{f:ah}(h:fV K x=aD f):PySem.W.nsIn K mainGlobals x=aD (aD (.ref f)):=by unfold fV at h;split at h;rename_i g e;cases h;exact e;cases h
end RF
namespace L2
open PySem PySem.Spec PyProof.Rows
theorem Qe{a:Int}:∀(acc:List aa) (k:Nat),(∀(j:Nat) v,acc[j]?=aD v->∃t,v=.int (a+ ((k+j:Nat):Int)) t)->Vals ((List.range' k acc.length).map λ(i:Nat)=>V.int (a+ (i:Int))) acc
 |[],k,_=>.nil
 |u::r,k,h=>by
  rw[fD,List.range'_succ,gQ];refine .cons ?_ (Qe r (k+1) λj v e=>?_);obtain⟨t,e⟩:=h 0 u rfl;exact⟨t,e⟩;obtain⟨t,e2⟩:=h (j+1) v (by rw[vB];exact e);exact⟨t,by rw[e2,show k+1+j=k+ (j+1) by lia]⟩
section
variable{X:Cx}
theorem YJ{a:ao}{ta:TA}{p p2 pos pos2:Pos}(hc:X.calm)(hg:Gl X "list")(hm:X.mg "list" = aE)(lA:Gl X "range")(hm2:X.mg "range" = aE)(ha:PA X [a] ta)(hs:autoParam (starEach [a] X.env=[(false,eval a X.env)]) L2.aR1._auto_1) :
 PE X (.Call (.Name "list" p) [.Call (.Name "range" p2) [a] [] pos2] [] pos) (λσ H Q=>ta σ H λvs H1=>∃j:Nat,vs=[.int j]/\j<=sizeLine/\∀l,H1 l=aE->Q (.ref l) (upd H1 l (.lst ((List.range' 0 j).map λ(i:Nat)=>V.int (0+ (i:Int)))))):=by
 intro pins s σ H Q I h;refine Call_ (qR I hg hm PyProof.Rows.boot_list (vH (Calls.spliced_cons ?_) rfl rfl));refine Call_ (qR I lA hm2 boot_range (vH (aW (ha pos2 pins s σ H _ I h) λus s1 z9=>z9.el λvs H1 I1 r1 q1=>?_) hs rfl));obtain⟨j,e,hj,q⟩:=q1;subst e;cases r1 with
 |cons r rr=>
  cases rr;obtain⟨t,rfl⟩:=r;refine call_range_1 (Calls.spliced_nil ?_);have hz:=uc;have h24:sizeLine<=2 ^ 24:=by decide
  refine call_list_range (n:=j) (I.ok.hd hc) (IsRange.new ..) (small_one (by lia) (by lia) (by lia) (by lia)) (by rw[rangeSize_one];split<;>lia) (by lia) λh' tk acc c hk hD hI=>?_;have I2:Inv X pins σ H1 {s1 with heap:=s1.heap.push {cls:=.type "range",data:=.fields #[.int 0 s1.toks,.int (j:Int) t,.int 1 (s1.toks+1)]},toks:=s1.toks+1+1}:=I1.kept λb o e=>cu _ e;have v:=Qe (a:=0) acc.toList 0 λi v e=>by
   obtain⟨t,e2⟩:=hI.2 i v (by rw[<-e,vJ]);exact⟨t,by rw[e2];congr 1⟩
  have hlen:acc.toList.length=j:=by rw[vK];exact hI.1
  rw[hlen]at v;refine⟨.ref _,_,I2.laid (t':=tk) hk (aT _) (show aZ X.prog X.w _ h' _ (.lst ((List.range' 0 j).map λ(i:Nat)=>V.int (0+ (i:Int))))from⟨by rw[bz,List.length_range'];exact hj,acc.toList,c,v,?_⟩),rfl,q _ (I2.hok.fresh (aT _))⟩;exact hD
end
end L2
namespace RF
open PySem PySem.Spec PyProof.Rows L2
section
variable{X:Cx}{e:ao}{fa:FE}{p p2 pos pos2:Pos}
theorem Qf{K:aK}{m:Nat->ah}{n:Nat}{H:Hp}:∀is:List Nat,aG K m n H (is.map λ(i:Nat)=>V.int (0+ (i:Int))) (is.map λ(i:Nat)=>W.int (0+ (i:Int)))|[]=>.nil|_::r=>.cons (.int _) (Qf r)
theorem YK(hc:X.calm)(hg:Gl X "list")(hm:X.mg "list" = aE)(lA:Gl X "range")(hm2:X.mg "range" = aE)(ha:SA X [e] fa)(hs:g6 e) :
 SE X (.Call (.Name "list" p) [.Call (.Name "range" p2) [e] [] pos2] [] pos) (jr fa j6):=by
 refine(YJ hc hg hm lA hm2 ha (gC hs)).imp λσ H Q q=>wM (g:=j6) (G:=λvs H1 Q=>∃j:Nat,vs=[.int j]/\j<=sizeLine/\∀l,H1 l=aE->Q (.ref l) (upd H1 l (.lst ((List.range' 0 j).map λ(i:Nat)=>V.int (0+ (i:Int)))))) (λm h H vs xs w h' Q r q e k=>?_) q;unfold j6 at e;split at e;rename_i i;split at e;rename_i hz;cases e;rw[bE,fj]at hz;obtain⟨v,rfl,q1⟩:=dM q;cases q1;refine⟨i.toNat,by rw[Int.toNat_of_nonneg hz.1],kr hz.2,λl hl=>?_⟩;exact aN.list k r (Qf _) hl;cases e;cases e
end
end RF
namespace L2
open PySem PySem.Spec PyProof.Rows PySem.W TS KO LX
section
variable{prog:ai}{w:aj}{A:ak}{E:aa->af->Prop}{s:af}{l:ah}{vs:List aa}
noncomputable def TupAt(h:aB)(t:ah×List Int):Prop:=∃o n its,h.get? t.1=aD o/\o.cls=.type "tuple"/\o.data=.seq (List.toArray its) n/\Vals (t.2.map V.int) its
theorem TupAt.ne{h:aB}{t:ah×List Int}{a:ah}{xs:Array aa}{n:Nat}(p:TupAt h t)(g:h.get? a=aD (seqObj "list" xs n)):t.1≠a:=λe=>by
 obtain⟨o,_,_,e1,e2,_⟩:=p;rw[e,g]at e1;cases e1;exact absurd (Value.type.inj e2) (by decide)
theorem Qg{Q:Bool->af->Prop}:∀{ks ls:List Int} {xs ys:List aa} {i:Nat},Vals (ks.map V.int) xs->Vals (ls.map V.int) ys->ks.length=ls.length->Q (bR ks ls) s->KatLex prog w A true false Q (xs.zip ys) i s
 |[],[],_,_,_,.nil,.nil,_,h=>kat_nil h
 |k::ks,l::ls,_,_,i,.cons ⟨t,e⟩ r,.cons ⟨t',e'⟩ r',hl,h=>by
  subst e e';rw[p5];refine kat_cons (wpAny_eqBool_int ?_);unfold bR at h;by_cases z:k=l;rw[show(k==l)=true by simpa using z];rw[if_pos z]at h;exact kat_yes (Qg r r' (by simpa using hl) h);rw[show(k==l)=false by simpa using z];rw[if_neg z]at h;refine kat_no ?_;cases i with
  |zero=>exact oneLt_int h
  |succ i=>
   rw[show(true&&i+1==0)=false by simp];exact kat_one _ _ (lt_int h)
theorem Qh{h:aB}{m:Nat}:∀{ts:List (ah×List Int)},(∀t∈ts,TupAt h t)->(∀t∈ts,t.2.length=m+1)->∃fs,KatTups h (ts.map λt=>Value.ref t.1) fs/\fs.length=ts.length/\∀v∈fs,∃i t,v=.int i t
 |[],_,_=>⟨[],trivial,rfl,λv h=>nomatch h⟩
 |t::ts,g,hm=>by
  obtain⟨fs,a,b,c⟩:=Qh (λx hx=>g x (dQ _ hx)) λx hx=>hm x (dQ _ hx);obtain⟨o,n,its,e1,e2,e3,e4⟩:=g t (fk ..);have hl:=hm t (fk ..);match h1:t.2,hl,e4 with
  |k::ks,hl,e4=>
   cases e4 with
   |cons x r=>
    obtain⟨tk,rfl⟩:=x;refine⟨.int k tk::fs,KatTups.cons e1 e2 e3 rfl a,by rw[fD,fD,b],λv hv=>?_⟩;rcases fP.mp hv with hv|hv;exact⟨_,_,hv⟩;exact c v hv
noncomputable abbrev dA:ah×List Int:=(0,[])
theorem back{α:Type}(d:α)(ts:List α):(List.range ts.length).map (λi=>ts.getD i d)=ts:=by refine List.ext_getElem (by simp) λi h1 h2=>?_;simp[h2]
theorem YL{a:ah}{n m:Nat}{ts:List (ah×List Int)}{P:PySem.Fin->af->Prop}(ho:s.heap.get? a=aD (seqObj "list" (ts.map λt=>Value.ref t.1).toArray n))(hz:ts.length<=sizeLine)(h2:¬ts.length<2)
 (hm:∀t∈ts,t.2.length=m+1) (nd:(ts.map (·.2)).Nodup) (ta:∀t∈ts,TupAt s.heap t)
 (h:∀us:List (ah×List Int),us.Perm ts->us.Pairwise (λx y=>bR x.2 y.2=true)->P (.done (.ret .none)) {s with heap:=sortedHeap s.heap a (ts.map λt=>Value.ref t.1) (us.map λt=>Value.ref t.1).toArray}) :
 wpAny (model prog w) A (Builtin.«list.sort» ⟨[.ref a],[]⟩) P E s:=by
 rw[list_sort_plain];have ha:a<s.heap.objs.size:=cH ho;have hl:(ts.map λt=>Value.ref t.1).length<=sizeLine:=by rw[bz];exact hz
 refine aM (listItems_at ho rfl ?_);refine aM (DO ho rfl ?_ (by rw[cG];exact hl) (gf _));obtain⟨e1,Cj⟩:∃e1,(s.heap.update a (Obj.mapSeq λ_=>#[])).get? a=aD (seqObj "list" #[] e1):=⟨_,get?_update_seq ho (λ_=>#[])⟩
 refine aM (DP Cj rfl ?_);refine aM (wpAny_newTuple ?_ (by show(ts.map λt=>Value.ref t.1).length<=_;exact hl));refine aM (wpAny_newList ?_ (gf _));refine nO ?_;have ho6:(((s.heap.update a (Obj.mapSeq λ_=>#[])).push (seqObj "tuple" (ts.map λt=>Value.ref t.1).toArray 0)).push (seqObj "list" #[] 0)).get? a=aD (seqObj "list" #[] e1):=cu _ (cu _ Cj);have Jh:∀t∈ts,TupAt (((s.heap.update a (Obj.mapSeq λ_=>#[])).push (seqObj "tuple" (ts.map λt=>Value.ref t.1).toArray 0)).push (seqObj "list" #[] 0)) t:=λt ht=>by
  have ne:=(ta t ht).ne ho;obtain⟨o,n,its,g,r⟩:=ta t ht;exact⟨o,n,its,cu _ (cu _ (by rw[Heap.get?_update_ne _ _ _ _ ne];exact g)),r⟩
 show wpAny (model prog w) A _ P E {s with heap:=((s.heap.update a (Obj.mapSeq λ_=>#[])).push (seqObj "tuple" (ts.map λt=>Value.ref t.1).toArray 0)).push (seqObj "list" #[] 0)};dsimp only;have hs:¬(ts.map λt=>Value.ref t.1).toArray.size<2:=by rw[cG,bz];exact h2
 rw[if_neg hs,if_neg hs];obtain⟨fs,f1,f2,f3⟩:=Qh (m:=m) Jh hm;refine aM (kat_kind (T:=.type "int") f1 (by lia) (λv hv=>?_) rfl ?_);obtain⟨i,t,rfl⟩:=f3 v hv;exact Looks.of_pure rfl;have hk:∀k∈ts.map (·.2),k.length=m+1:=λk hk=>by
  obtain⟨t,ht,rfl⟩:=jz.mp hk;exact hm t ht
 have gk:∀i,i<ts.length->(ts.map (·.2)).getD i []=(ts.getD i dA).2:=λi hi=>by simp[hi]
 have gv:∀i,i<ts.length->(ts.map λt=>Value.ref t.1).getD i Value.none=.ref (ts.getD i dA).1:=λi hi=>by simp[hi]
 have gm:∀i,i<ts.length->ts.getD i dA∈ts:=λi hi=>by simp[hi]
 have c:Cp prog w A {s with heap:=((s.heap.update a (Obj.mapSeq λ_=>#[])).push (seqObj "tuple" (ts.map λt=>Value.ref t.1).toArray 0)).push (seqObj "list" #[] 0)} (tuples' true)
  (λi=>((ts.map λt=>Value.ref t.1).getD i Value.none,(ts.map λt=>Value.ref t.1).getD i Value.none)) (rk (ts.map (·.2))) ts.length:=by
  refine⟨λi j C hi hj hC=>?_,λi j hi hj e=>Wu hk nd (by rw[bz];exact hi) (by rw[bz];exact hj) e⟩;obtain⟨o,n,its,g1,_,g2,g3⟩:=Jh _ (gm i hi);obtain⟨o',n',its',YM,_,YN,Qi⟩:=Jh _ (gm j hj);have sz:its.length=its'.length:=by have:=g3.length;have:=Qi.length;rw[bz]at *;rw[hm _ (gm i hi)]at *;rw[hm _ (gm j hj)]at *;lia
  dsimp only;rw[gv i hi,gv j hj];refine kat_lt g1 g2 YM YN ?_;rw[show decide (its.toArray.size<its'.toArray.size)=false from gX (by rw[cG,cG];lia)];refine Qg g3 Qi (by rw[hm _ (gm i hi),hm _ (gm j hj)]) ?_;rw[OU hk nd (by rw[bz];exact hi) (by rw[bz];exact hj),gk i hi,gk j hj]at hC;exact hC
 have P0:Pm ts.length (List.range ts.length).toArray:=⟨by simp,λx hx=>by simpa using hx,by simpa using List.nodup_range⟩
 have ez:(ts.map λt=>Value.ref t.1).toArray.zip (ts.map λt=>Value.ref t.1).toArray=(List.range ts.length).toArray.map λi=>((ts.map λt=>Value.ref t.1).getD i Value.none,(ts.map λt=>Value.ref t.1).getD i Value.none):=by apply Array.ext;simp;intro i h1 h2;simp at h1 h2;simp[h1]
 rw[ez];refine aM (fZ (Wt (E:=λ_ _=>False) c P0 (by lia) (Q:=λ_ st=>∃q pd g,st=TS.St (tuples' true) (λi=>((ts.map λt=>Value.ref t.1).getD i Value.none,(ts.map λt=>Value.ref t.1).getD i Value.none)) q pd g/\q.Perm (List.range ts.length).toArray/\Ri (rk (ts.map (·.2))) q 0 ts.length) λq pd g e u=>⟨q,pd,g,rfl,e,u⟩) ?_ λ_ _ e=>e.elim);rintro⟨⟨⟩,st⟩ s' ⟨rfl,q,pd,g,rfl,hq,u⟩;dsimp only;have pl:q.toList.Perm (List.range ts.length):=by simpa using Array.perm_iff_toList_perm.mp hq
 have hb:∀i∈q.toList,i<ts.length:=λi hi=>tY.mp (pl.mem_iff.mp hi);have zq:q.size=ts.length:=by rw[hq.size_eq];simp
 have pu:(q.toList.map λi=>ts.getD i dA).Perm ts:=by have:=pl.map λi=>ts.getD i dA;rw[back]at this;exact this
 have ou:(arrOf (TS.St (tuples' true) (λi=>((ts.map λt=>Value.ref t.1).getD i Value.none,(ts.map λt=>Value.ref t.1).getD i Value.none)) q pd g)).map (·.2)=((q.toList.map λi=>ts.getD i dA).map λt=>Value.ref t.1).toArray:=by show(q.map _).map _=_;rw[Array.map_map];apply Array.ext';rw[Array.toList_map,yj];refine List.map_congr_left λi hi=>?_;show(ts.map λt=>Value.ref t.1).getD i Value.none=_;rw[gv i (hb i hi)];rfl
 refine aM (DP ho6 rfl ?_);rw[ou];refine aM (DO ho6 rfl ?_ (gf _) (by rw[cG,bz,pu.length_eq];first|exact hz|exact zu hz));show wpAny _ _ _ _ _ _;rw[show failedOf (TS.St (tuples' true) (λi=>((ts.map λt=>Value.ref t.1).getD i Value.none,(ts.map λt=>Value.ref t.1).getD i Value.none)) q pd g)=aE from rfl];simp only[bne_self_eq_false,dZ,dF];refine bA (h _ pu ?_);rw[List.pairwise_map,vA];intro i j hi hj hij;have hi':i<q.size:=by simpa using hi
 have hj':j<q.size:=by simpa using hj
 have b1:=hb q[i] (by simp);have b2:=hb q[j] (by simp);have x:=u i j (gf _) (tR hij) (by lia);unfold J at x;rw[qe hi',qe hj',zH,zH]at x;have ne:rk (ts.map (·.2)) q[i]≠rk (ts.map (·.2)) q[j]:=λe=>by
  have e:=c.inj _ _ b1 b2 e;exact vA.mp (P0.perm hq).nd i j hi hj hij (by simpa using e)
 have y:=OU hk nd (i:=q[i]) (j:=q[j]) (by rw[bz];exact b1) (by rw[bz];exact b2);rw[kq (by lia),gk _ b1,gk _ b2]at y;simpa using y.symm
end
end L2
namespace L2
open PySem PySem.Spec PyProof.Rows PySem.W LX
section
variable{prog:ai}{w:aj}{A:ak}{E:aa->af->Prop}{s:af}{l:ah}{vs:List aa}
noncomputable def h1(h:aB)(vs:List aa):aB:=((h.push (seqObj "list" #[] 0)).update h.objs.size (Obj.mapSeq (· ++ vs.toArray))).push (seqObj "list" vs.toArray 0)
theorem Ji{h:aB}:((h.push (seqObj "list" #[] 0)).update h.objs.size (Obj.mapSeq (· ++ vs.toArray))).objs.size=h.objs.size+1:=by rw[Heap.size_update,size_push']
theorem pe{h:aB}:(h1 h vs).get? (h.objs.size+1)=aD (seqObj "list" vs.toArray 0):=by unfold h1;rw[<-Ji (vs:=vs)];exact iJ _ rfl
theorem YO{h:aB}{b:ah}{o:Obj}(q:h.get? b=aD o):(h1 h vs).get? b=aD o:=by have hlt:b<h.objs.size:=cH q;unfold h1;rw[Heap.get?_push_ne _ _ _ (by rw[Ji];exact fR (tQ hlt)),Heap.get?_update_ne _ _ _ _ (fR hlt),Heap.get?_push_ne _ _ _ (fR hlt)];exact q
theorem Qj{h:aB}{out:Array aa}:sortedHeap (h1 h vs) (h.objs.size+1) vs out=sortedAll h vs out:=by unfold sortedAll h1;rfl
theorem YQ{Q:aa->af->Prop}(hl:s.heap.IsList l vs.toArray)(hz:vs.length<=sizeLine)
 (h:∀P:PySem.Fin->af->Prop,(∀s',Q (.ref (s.heap.objs.size+1)) s'->P (.done (.ret .none)) s')->wpAny (model prog w) A.in1.in1 (Builtin.«list.sort» ⟨[.ref (s.heap.objs.size+1)],[]⟩) P E {s with heap:=h1 s.heap vs}) :
 wpAny (model prog w) A (call (.builtin "sorted") [.ref l]) Q E s:=by
 refine Calls.call_function_entry kind_sorted plain_sorted entry_sorted (args_sorted1 _) ?_;unfold Builtin.«sorted»;refine aM (m:=checkCount "sorted" 1 1 _) (bA ?_);refine aM (collect_list hl ?_ hz);refine aM (wpAny_newList ?_ hz);show wpAny _ _ _ _ _ {s with heap:=h1 s.heap vs};rw[Ji];refine aM (nO (vv slot_list_sort ⟨_,pe,rfl⟩ entry_list_sort (h _ λs' q=>?_) (args_list_sort _)));exact⟨_,rfl,bA ⟨_,rfl,q⟩⟩
theorem YR{a:ah}{n:Nat}{P:PySem.Fin->af->Prop}(ho:s.heap.get? a=aD (seqObj "list" vs.toArray n))(h2:vs.length<2)(h:P (.done (.ret .none)) {s with heap:=sortedHeap s.heap a vs vs.toArray}) :
 wpAny (model prog w) A (Builtin.«list.sort» ⟨[.ref a],[]⟩) P E s:=by
 rw[list_sort_plain];have ha:a<s.heap.objs.size:=cH ho;have hl:(vs.length:Nat)<=sizeLine:=by rw[zl];lia
 refine aM (listItems_at ho rfl ?_);refine aM (DO ho rfl ?_ (by rw[cG];exact hl) (gf _));obtain⟨e1,Cj⟩:∃e1,(s.heap.update a (Obj.mapSeq λ_=>#[])).get? a=aD (seqObj "list" #[] e1):=⟨_,get?_update_seq ho (λ_=>#[])⟩
 refine aM (DP Cj rfl ?_);refine aM (wpAny_newTuple ?_ (by show vs.length<=_;exact hl));refine aM (wpAny_newList ?_ (gf _));refine nO ?_;have ho6:(((s.heap.update a (Obj.mapSeq λ_=>#[])).push (seqObj "tuple" vs.toArray 0)).push (seqObj "list" #[] 0)).get? a=aD (seqObj "list" #[] e1):=cu _ (cu _ Cj);show wpAny (model prog w) A _ P E {s with heap:=((s.heap.update a (Obj.mapSeq λ_=>#[])).push (seqObj "tuple" vs.toArray 0)).push (seqObj "list" #[] 0)};dsimp only;have hs:vs.toArray.size<2:=by rw[cG];exact h2
 have hm:(arrOf (SortSt.mk' general' (vs.toArray.zip vs.toArray) #[] 7 aE)).map (·.2)=vs.toArray:=by show(vs.toArray.zip vs.toArray).map (·.2)=vs.toArray;simp only[List.zip_toArray,List.map_toArray];exact jF _ (List.map_snd_zip (aT _))
 rw[if_pos hs,if_pos hs];refine aM (bA ?_);rw[StateT.run_pure];refine aM (bA ?_);dsimp only;refine aM (DP ho6 rfl ?_);rw[hm];refine aM (DO ho6 rfl ?_ (gf _) (by rw[cG];first|exact hl|exact zu hl));simp only[bne_self_eq_false,dZ,dF];exact bA h
end
section
variable{X:Cx}
theorem YS{ts:List (ah×List Int)}{vs:List aa}(r:Vals (ts.map λt=>V.ref t.1) vs):vs=ts.map λt=>Value.ref t.1:=by
 induction ts generalizing vs with
 |nil=>cases r;rfl
 |cons t ts ih=>
  cases r with
  |cons a b=>
   cases a;rw[ih b];rfl
theorem YT{ts:List (ah×List Int)}:Vals (ts.map λt=>V.ref t.1) (ts.map λt=>Value.ref t.1):=by
 induction ts with|nil=>exact .nil|cons t ts ih=>exact .cons rfl ih
theorem YU{pins:List (ah×Obj)}{σ:St}{H:Hp}{s:af}{t:ah×List Int}(I:Inv X pins σ H s)(h:bX X.K H t.1 (t.2.map V.int)):TupAt s.heap t:=by obtain⟨its,rv,pt,_⟩:=I.tuple h;obtain⟨o,a,b,n,d⟩:=pt;exact⟨o,n,its,a,b,d,rv⟩
theorem YV{α:Type}{R:α->α->Prop}:∀{ts:List α},ts.length<2->ts.Pairwise R|[],_=>.nil|[_],_=>List.pairwise_singleton ..|_::_::_,h=>absurd h (by simp)
theorem YW:bU X (.builtin "sorted") (λxs H Q=>∃(p:ah) (m:Nat) (ts:List (ah×List Int)),xs=[.ref p]/\cC X.K H p (ts.map λt=>V.ref t.1)/\(∀t∈ts,bX X.K H t.1 (t.2.map V.int))/\(2<=ts.length->∀t∈ts,t.2.length=m+1)/\(ts.map (·.2)).Nodup/\
 ∀(l:ah)(us:List (ah×List Int)),H l=aE->us.Perm ts->us.Pairwise (λa b=>bR a.2 b.2=true)->Q (.ref l) (upd H l (.lst (us.map λt=>V.ref t.1)))):=by
 intro pins s σ H xs us Q I r h;obtain⟨p,m,ts,rfl,hq,hT,hm,nd,q⟩:=h;obtain⟨u,rfl,ru⟩:=vals1 r;cases ru;obtain⟨its,rv,pl,hz⟩:=I.list hq;have hL:s.heap.IsList p its.toArray:=pl.isList;have e:=YS rv;subst e;rw[bz]at hz;have fin:∀us:List (ah×List Int),us.Perm ts->us.Pairwise (λa b=>bR a.2 b.2=true)->∃v H',Inv X pins σ H' {s with heap:=sortedAll s.heap (ts.map λt=>Value.ref t.1) (us.map λt=>Value.ref t.1).toArray}/\RelV v (.ref (s.heap.objs.size+1))/\Q v H':=λus pu pw=>by
  obtain⟨e,he⟩:=sortedAll_at s.heap (ts.map λt=>Value.ref t.1) (us.map λt=>Value.ref t.1).toArray;exact⟨.ref _,_,I.laid (t':=s.toks) (λb o z=>sortedAll_old z) (tS _) (show aZ X.prog X.w _ _ _ (.lst (us.map λt=>V.ref t.1))from⟨by rw[bz,pu.length_eq];exact hz,_,e,YT,he⟩),rfl,q _ us (I.hok.fresh (tS _)) pu pw⟩
 refine YQ hL (by rw[bz];exact hz) λP hP=>?_;by_cases h2:ts.length<2;refine YR pe (by rw[bz];exact h2) (hP _ ?_)
 dsimp only;rw[Qj];exact fin ts (qN _) (YV h2);refine YL pe hz h2 (hm (by lia)) nd (λt ht=>?_) λus pu pw=>hP _ ?_;obtain⟨o,n,its,g,r⟩:=YU I (hT t ht);exact⟨o,n,its,YO g,r⟩;dsimp only;rw[Qj];exact fin us pu pw
end
end L2
namespace RF
open PySem PySem.Spec PyProof.Rows L2 LX
theorem Jj(x:List Int):∀l:List (List Int),(mZ x l).Perm (x::l)
 |[]=>qN _
 |y::r=>by
  unfold mZ;split;exact qN _;exact((Jj x r).cons y).trans (List.Perm.swap ..)
theorem yR:∀l:List (List Int),(j7 l).Perm l|[]=>qN _|x::r=>(Jj x _).trans ((yR r).cons x)
theorem Qk{m:Nat}(x:List Int)(hx:x.length=m):∀{l:List (List Int)},(∀k∈l,k.length=m)->x∉l->l.Pairwise (λa b=>bR a b=true)->(mZ x l).Pairwise λa b=>bR a b=true
 |[],_,_,_=>List.pairwise_singleton ..
 |y::r,hl,hn,h=>by
  obtain⟨h1,h2⟩:=List.pairwise_cons.mp h;have ly:=hl y (fk ..);have lr:∀k∈r,k.length=m:=λk hk=>hl k (dQ _ hk);unfold mZ;split;rename_i z;refine List.pairwise_cons.mpr ⟨λa ha=>?_,h⟩;rcases fP.mp ha with e|ha;rw[e];exact z;exact ES (by rw[hx,ly]) (by rw[ly,lr a ha]) z (h1 a ha);rename_i z;have ne:x≠y:=λe=>hn (by rw[e];exact fk ..);have z':bR y x=true:=(ET (by rw[hx,ly]) ne).resolve_left z;refine List.pairwise_cons.mpr ⟨λa ha=>?_,Qk x hx lr (λq=>hn (dQ _ q)) h2⟩;rcases fP.mp ((Jj x r).mem_iff.mp ha)with e|ha;rw[e];exact z';exact h1 a ha
theorem Ql{m:Nat}:∀l:List (List Int),(∀k∈l,k.length=m)->l.Nodup->(j7 l).Pairwise λa b=>bR a b=true
 |[],_,_=>.nil
 |x::r,hl,nd=>by
  have nd:=vD.mp nd;have p:=yR r;exact Qk x (hl x (fk ..)) (λk hk=>hl k (dQ _ (p.mem_iff.mp hk))) (λq=>nd.1 (p.mem_iff.mp q)) (Ql r (λk hk=>hl k (dQ _ hk)) nd.2)
theorem YX{a b:List Int}(e:a.length=b.length)(h1:bR a b)(h2:bR b a):False:=by have:=ES e e.symm h1 h2;rw[IB]at this;cases this
theorem YY{l m:List (List Int)}(e:∀a∈l,∀b∈l,a.length=b.length)(u:(j7 l).Pairwise λa b=>bR a b)(p:m.Perm l)(h:m.Pairwise λa b=>bR a b):m=j7 l:=
 List.Perm.eq_of_pairwise (λa b ha hb x y=>(YX (e a (p.mem_iff.mp ha) b ((yR l).mem_iff.mp hb)) x y).elim) h u (p.trans (yR l).symm)
section
variable{K:aK}{m:Nat->ah}{n:Nat}{H:Hp}
theorem Qm:∀{vs:List V} {ws:List W} {is:List Int},aG K m n H vs ws->aV iZ ws=aD is->vs=is.map .int
 |_,_,_,.nil,e=>by cases e;rfl
 |_,_,_,.cons (w:=w) (ws:=ws) q r,e=>by
  unfold aV at e;cases z:iZ w with
  |none=>rw[z]at e;cases e
  |some b=>
   rw[z]at e;cases z2:aV iZ ws with
   |none=>rw[z2]at e;cases e
   |some cs=>
    rw[z2]at e;cases e;unfold iZ at z;split at z<;>cases z;cases q;rw[Qm r z2];rfl
theorem Qn:∀is:List Int,aG K m n H (is.map .int) (is.map .int)|[]=>.nil|i::r=>.cons (.int i) (Qn r)
theorem uE:∀{vs:List V} {ws:List W} {ks:List (List Int)},aG K m n H vs ws->aV kW ws=aD ks->∃ts:List (ah×List Int),vs=ts.map (λt=>V.ref t.1)/\ts.map (·.2)=ks/\∀t∈ts,bX K H t.1 (t.2.map .int)
 |_,_,_,.nil,e=>by cases e;exact⟨[],rfl,rfl,λt h=>nomatch h⟩
 |_,_,_,.cons (w:=w) (ws:=ws) q r,e=>by
  unfold aV at e;cases z:kW w with
  |none=>rw[z]at e;cases e
  |some b=>
   rw[z]at e;cases z2:aV kW ws with
   |none=>rw[z2]at e;cases e
   |some cs=>
    rw[z2]at e;cases e;unfold kW at z;split at z<;>try cases z
    obtain⟨ts,e1,e2,e3⟩:=uE r z2;cases q with
    |tup s1 s2=>
     have:=Qm s2 z;subst this;refine⟨(_,b)::ts,by rw[e1];rfl,jF (b :: ·) e2,λt ht=>?_⟩;rcases fP.mp ht with e|ht
     rw[e];exact s1;exact e3 t ht
theorem Qo:∀ts:List (ah×List Int),(∀t∈ts,bX K H t.1 (t.2.map .int))->aG K m n H (ts.map λt=>V.ref t.1) ((ts.map (·.2)).map λk=>.tup (k.map .int))|[],_=>.nil|t::r,h=>.cons (.tup (h t (fk ..)) (Qn _)) (Qo r λx hx=>h x (dQ _ hx))
end
noncomputable def Jk(K:aK):List V->Hp->VK->Prop:=λxs H Q=>∃(p:ah) (m:Nat) (ts:List (ah×List Int)),xs=[.ref p]/\cC K H p (ts.map λt=>V.ref t.1)/\(∀t∈ts,bX K H t.1 (t.2.map V.int))/\(2<=ts.length->∀t∈ts,t.2.length=m+1)/\(ts.map (·.2)).Nodup/\
 ∀(l:ah)(us:List (ah×List Int)),H l=aE->us.Perm ts->us.Pairwise (λa b=>bR a.2 b.2=true)->Q (.ref l) (upd H l (.lst (us.map λt=>V.ref t.1)))
theorem YZ:∀{ks:List (List Int)},oS ks=true->∃m,(2<=ks.length->∀k∈ks,k.length=m+1)/\∃m',∀k∈ks,k.length=m'
 |[],_=>⟨0,λh=>absurd h (by simp),0,λk h=>nomatch h⟩
 |[k],_=>⟨0,λh=>absurd h (by simp),k.length,λq hq=>by rw[pZ.mp hq]⟩
 |k::k2::r,h=>by
  unfold oS at h;rw[bE]at h;have h1:=kr h.1;have h2:∀q∈k::k2::r,q.length=k.length:=λq hq=>zm (nH.mp h.2 q hq);exact⟨k.length-1,λ_ q hq=>by rw[h2 q hq];lia,k.length,h2⟩
theorem Y0{K:aK}:eN K (Jk K) m5:=by
 intro m h H vs xs w h' Q r q e k;unfold m5 at e;split at e<;>try cases e
 rename_i i;split at e<;>try cases e
 rename_i ws g;obtain⟨v,rfl,q1⟩:=dM q;cases z:aV kW ws with
 |none=>rw[z]at e;cases e
 |some ks=>
  rw[z]at e;dsimp only at e;split at e<;>cases e;rename_i z2;rw[bE,fj]at z2;obtain⟨nd,hl⟩:=z2;cases q1;obtain⟨us,p1,p2⟩:=r.lst g;obtain⟨ts,e1,e2,e3⟩:=uE p2 z;subst e1 e2;obtain⟨m1,l1,m2,l2⟩:=YZ hl;refine⟨_,m1,ts,rfl,.inl (.inl p1),e3,λh2 t ht=>l1 (by rw[bz];exact h2) _ (List.mem_map_of_mem ht),nd,λl us hl hp hu=>?_⟩;have hm:us.map (·.2)=j7 (ts.map (·.2)):=YY (λa ha b hb=>by rw[l2 a ha,l2 b hb]) (Ql _ l2 nd) (hp.map _) (List.pairwise_map.mpr hu);rw[<-hm]at k;exact aN.list k r (Qo us λt ht=>e3 t (hp.mem_iff.mp ht)) hl
end RF
namespace L2
open PySem PySem.Spec PyProof.Rows
section
variable{X:Cx}
theorem Y3(hc:X.calm):bU X (.builtin "max") (λxs H Q=>∃(p:ah) (ns:List Int),xs=[.ref p]/\cC X.K H p (ns.map .int)/\0<ns.length/\∀M,M∈ns->(∀a∈ns,a<=M)->Q (.int M) H):=by
 intro pins s σ H xs us Q I r h;obtain⟨p,ns,rfl,hq,hne,q⟩:=h;obtain⟨u,rfl,ru⟩:=vals1 r;cases ru;obtain⟨its,rv,pl,hz⟩:=I.list hq;have hL:s.heap.IsList p its.toArray:=pl.isList;have hi:=Oh rv;obtain⟨ys,hx⟩:=hi.allInts.items;have hl':s.heap.IsList p (intItems ys):=hx▸hL;have hns:ns=ys.toList.map (·.1):=by rw[<-nums_intItems,<-hx];exact(show numsOf its.toArray.toList=ns from hi.numsOf).symm
 have hsz:0<ys.size:=by rw[hns,bz,vK]at hne;exact hne
 refine max_intList (I.ok.hd hc) hl' hsz λv h' tk hv hk=>?_;obtain⟨t,rfl⟩:=intItems_at hv;obtain⟨h1,h2⟩:=argBest_gt (numAt ys) (ys.size-1);refine⟨.int _,H,I.kept (t':=tk) hk,⟨_,rfl⟩,q _ ?_ λa ha=>?_⟩;rw[hns,numAt_eq];exact getD_mem (by rw[bz,vK];lia);rw[hns]at ha;obtain⟨j,hj,rfl⟩:=mem_getD ha;rw[bz,vK]at hj;rw[<-numAt_eq];exact h2 j (by lia)
end
end L2
namespace RF
open PySem PySem.Spec PyProof.Rows L2
section
variable{K:aK}{m:Nat->ah}{h:VH}{H:Hp}
theorem aN.Ck{Q:VK}(k:aN K m h.n H (.ref h.n) (h.new (.dm [])) Q)(r:Rel K m h H){p:ah}(hp:H p=aE):Q (.ref p) (upd H p (.dK [])):=by obtain⟨st,r'⟩:=r.alloc (o:=.dm []) (u:=.dK []) hp (λ_ z=>nomatch z) (λst=>⟨[],iu,.nil⟩);refine k _ _ _ st r' ?_;have:aL K (λi=>if i=h.n then p else m i) (h.n+1) (upd H p (.dK [])) (.ref ((λi=>if i=h.n then p else m i) h.n)) (.ref h.n):=.ref (iT _);simp only[bZ]at this;exact this
end
section
variable{X:Cx}{e o a k:ao}{lo:Option ao}{fa fo:FE}{pos p2:Pos}
theorem Y4:SE X (.Dict [] [] pos) (jr rZ wK):=Vg.imp λσ H Q z9 p hp=>z9.el λρ h m w h' f r e k=>by
 cases e;exact aN.Ck k r hp
end
set_option genInjectivity false in
structure CC where
 N:List Str
 names:List (Str×NameKind)
 uF:Bool
noncomputable def sC:List Str->Str->Nat->Option Nat|[],_,_=>aE|y::r,x,i=>if y==x then aD i else sC r x (i+1)
theorem Qp:∀{N:List Str} {x:Str} {k i:Nat},sC N x k=aD i->∃j,i=k+j/\N[j]?=aD x
 |[],_,_,_,e=>by cases e
 |y::r,x,k,i,e=>by
  unfold sC at e;split at e;rename_i h;cases e;exact⟨0,rfl,by simpa using h⟩;obtain⟨j,h1,h2⟩:=Qp e;exact⟨j+1,by lia,by simpa using h2⟩
theorem Jl{N:List Str}{x:Str}{i:Nat}(e:sC N x 0=aD i):N[i]?=aD x:=by obtain⟨j,h1,h2⟩:=Qp e;rw[show i=j by lia];exact h2
noncomputable def sD:Option NameKind->Bool|some .local|some .cell|some .free=>true|_=>false
noncomputable def sE(all:Bool):Option NameKind->Bool|some .local=>true|some .cell=>all|_=>false
noncomputable def okN(x:Str):Bool:=!(x==("__debug__" : Str)) && !(x==("__classdict__" : Str)) && !(x==("__name__" : Str)) && !(x==("" : Str))
theorem Y5{x:Str}(h:okN x):x≠"":=by unfold okN at h;simp only[bE,tT]at h;exact λz=>by rw[z]at h;simp at h
theorem yS{x:Str}(h:okN x):(x==("__debug__" : Str))=false/\(x==("__classdict__" : Str))=false/\x≠"__name__":=by unfold okN at h;simp only[bE,tT]at h;exact⟨h.1.1.1,h.1.1.2,λz=>by rw[z]at h;simp at h⟩
noncomputable def pq(K:aK):Nat->aa->Option W
 |0,_=>aE
 |n+1,v=>match v with
  |.none=>aD .aQ
  |.bool b=>aD (.bl b)
  |.int i _=>aD (.int i)
  |.str x _=>aD (.str x)
  |.ref a=>(match K.lookup a with
   |some o=>(match o.cls,o.dict,o.data with
    |.type t,aE,.seq its _=>if t == "tuple" && Nat.ble its.size 1000 then(aV (pq K n) its.toList).map .tup else aE
    |_,_,_=>aE)
   |none=>aE)
  |_=>aE
theorem Qq{K:aK}{f:aa->Option W}(ih:∀v w,f v=aD w->∃x,RelV x v/\∀m n H,aL K m n H x w):∀{us:List aa} {ws:List W},aV f us=aD ws->∃xs,Vals xs us/\∀m n H,aG K m n H xs ws
 |[],_,e=>by cases e;exact⟨[],.nil,λ_ _ _=>.nil⟩
 |u::us,ws,e=>by
  unfold aV at e;split at e;rename_i b hb;split at e;rename_i bs Cm;cases e;obtain⟨x,h1,h2⟩:=ih u b hb;obtain⟨xs,h3,h4⟩:=Qq ih Cm;exact⟨x::xs,.cons h1 h3,λm n H=>.cons (h2 m n H) (h4 m n H)⟩;cases e;cases e
theorem Qs{K:aK}:∀(n:Nat) (v:aa) (w:W),pq K n v=aD w->∃x,RelV x v/\∀m n H,aL K m n H x w
 |0,_,_,e=>by cases e
 |n+1,v,w,e=>by
  unfold pq at e;split at e;cases e;exact⟨.aQ,rfl,λ_ _ _=>.aQ⟩;cases e;exact⟨.bl _,rfl,λ_ _ _=>.bl _⟩;cases e;exact⟨.int _,⟨_,rfl⟩,λ_ _ _=>.int _⟩;cases e;exact⟨.str _,⟨_,rfl⟩,λ_ _ _=>.str _⟩;rename_i a;split at e;rename_i o ho;split at e;rename_i t its nn hc Y6 hd;split at e;rename_i hz;rw[bE]at hz;have ht:t = "tuple":=by simpa using hz.1
  subst ht;cases z:aV (pq K n) its.toList with
  |none=>rw[z]at e;cases e
  |some ws=>
   rw[z]at e;cases e;obtain⟨xs,h3,h4⟩:=Qq (Qs n) z;exact⟨.ref a,rfl,λm n H=>.tup (.inr ⟨o,its,nn,ho,hc,Y6,hd,tR (NI (kr hz.2)),h3⟩) (h4 m n H)⟩
  cases e;cases e;cases e;cases e
noncomputable def cL(f:ao->Option E):List ao->Option E
 |[]=>aD .nil
 |e::es=>match f e,cL f es with
  |some a,aD r=>aD (.cons a r)
  |_,_=>aE
noncomputable def fnAt(K:aK)(x:Str):Option (ah×Obj×av):=match fV K x with
 |some f=>(match K.lookup f with
  |some o=>(match o.data with
   |.func fd=>aD (f,o,fd)
   |_=>aE)
  |none=>aE)
 |none=>aE
noncomputable def wY:Arguments->Option (List Arg)|⟨[],args,aE,[],[],aE,_⟩=>aD args|_=>aE
noncomputable def isNone:aa->Bool|.none=>true|_=>false
noncomputable def Fb:Data->Bool
 |.seq xs _=>(match xs.toList with
  |[v]=>isNone v
  |_=>false)
 |_=>false
noncomputable def fW(K:aK):aa->Bool
 |.ref t=>(match K.lookup t with
  |some o=>Fb o.data
  |none=>false)
 |_=>false
noncomputable def Jm(K:aK)(x:Str)(n:Nat):Bool:=match fnAt K x with|some (_,_,fd)=>fW K fd.defaults&&Nat.beq (n+1) fd.params.args.length|none=>false
noncomputable def gD(K:aK)(x:Str):Bool:=match fnAt K x with|some (_,_,fd)=>fW K fd.defaults|none=>false
theorem Y7{K:aK}{x:Str}{n:Nat}(h:Jm K x n):gD K x=true:=by unfold Jm at h;unfold gD;split at h;rw[bE]at h;exact h.1;cases h
noncomputable def nh:E->E|.nil=>.cons (.cst .aQ) .nil|.cons a r=>.cons a (nh r)|e=>e
noncomputable def lW:E->Bool|.nil=>true|.cons _ r=>lW r|_=>false
theorem Y8{cl:Call}:∀{a:E},lW a=true->∀(ρ:En) (h:VH),ev cl (nh a) ρ h=(ev cl a ρ h).bind λy h=>match y with|.tup ys=>.ok (.tup (ys++[.aQ])) h|_=>.no:=by
 intro a;induction a with
 |nil=>intro _ ρ h;rfl
 |cons x r _ ih=>
  intro ha ρ h;have ih:=ih ha;simp only[nh,ev];cases ev cl x ρ h with
  |no=>rfl
  |ex _ _=>rfl
  |ok w h1=>
   show Res.bind (ev cl (nh r) ρ h1) _=Res.bind (Res.bind (ev cl r ρ h1) _) _;rw[ih];cases ev cl r ρ h1 with|no=>rfl|ex _ _=>rfl|ok y h2=>cases y<;>rfl
 |_=>intro ha;cases ha
theorem Qt{f:ao->Option E}:∀{es:List ao} {a:E},cL f es=aD a->lW a=true
 |[],_,h=>by cases h;rfl
 |e::es,a,h=>by
  unfold cL at h;split at h;rename_i x r h1 h2;cases h;show lW r=true;exact Qt h2;cases h
noncomputable def Fc(f:ao->Option E):List (Option ao)->List ao->Option E
 |[],[]=>aD .nil
 |some k::ks,v::vs=>match f k,f v,Fc f ks vs with
  |some a,aD b,aD r=>aD (.cons a (.cons b r))
  |_,_,_=>aE
 |_,_=>aE
noncomputable def cB(and:Bool)(f:ao->Option E):List ao->Option E
 |[]=>aE
 |[a]=>f a
 |a::b::r=>match f a,cB and f (b::r)with
  |some x,aD y=>aD (if and then .and x y else .or x y)
  |_,_=>aE
noncomputable def cO(f:ao->Option E):Option ao->Option (Bool×E)|none=>aD (false,.cst .aQ)|some e=>(f e).map λc=>(true,c)
noncomputable def zev(K:aK)(C:CC)(x:Str):Bool:=C.names.lookup x==aD .globalImplicit&& (match PySem.W.nsIn K mainGlobals x with|some aE=>true|_=>false)
noncomputable def wZ(x:Str):Option Ty:=
 if x==("int" : Str)then aD .int else if x==("bool" : Str)then aD .bool else if x==("tuple" : Str)then aD .tuple else if x==("list" : Str)then aD .list else if x==("str" : Str)then aD .str else if x==("dict" : Str)then aD .dict else aE
noncomputable def xg(f:Str)(args:List ao):Option ao:=if f==("list" : Str)then(match args with|[.Call (.Name g _) [a] [] _]=>if g==("range" : Str)then aD a else aE|_=>aE)else aE
noncomputable def xh(x:Str):Option Bi:=
 if x==("len" : Str)then aD .len else if x==("list" : Str)then aD .list else if x==("tuple" : Str)then aD .tuple else if x==("int" : Str)then aD .int else if x==("abs" : Str)then aD .abs else if x==("max" : Str)then aD .max else if x==("min" : Str)then aD .min else if x==("all" : Str)then aD .all else if x==("sorted" : Str)then aD .Bt else aE
noncomputable def Qu:ao->Bool|.Tuple ..=>true|_=>false
noncomputable def yT:Kd->ao->Bool|.ql,t=>Qu t|.zip,t=>Qu t|_,_=>true
noncomputable def iE(C:CC):ao->Option Nat|.Name x _=>if okN x&&sE C.uF (C.names.lookup x)then sC C.N x 0 else aE|_=>aE
noncomputable def yU(C:CC):ao->Option Tg|.Name x p=>(iE C (.Name x p)).map .one|.Tuple es _ _=>(aV (iE C) es).map .many|_=>aE
noncomputable def ownOf(sc:aA):List Str:=(sc.names.filter λy=>(y.2 == .local||y.2 == .cell) && !(y.1==(".0" : Str))).map (·.1)
noncomputable def gE(sc:aA):List Str:=(sc.names.filter λy=>y.2 == .free).map (·.1)
noncomputable def sF(C:CC)(sc:aA)(ix:List Nat):Bool:=
 decide (sc.kind=.function)&&sc.names.all (λy=>decide (y.2=.cell->sc.names.lookup y.1=aD .cell))&&sc.names.all (λy=>decide (y.2=.free->sc.names.lookup y.1=aD .free))&&sc.names.all (λy=>decide (y.2=.local->sc.names.lookup y.1=aD .local)) &&
 (ownOf sc).all (λx=>decide (sc.names.lookup x=aD .local\/sc.names.lookup x=aD .cell))&&sc.names.all (λy=>decide (y.2=.free->C.names.lookup y.1=aD .cell\/C.names.lookup y.1=aD .free))&&decide (ix.length=(gE sc).length) &&
 ((List.range (gE sc).length).all λk=>match(gE sc)[k]?,ix[k]? with|some x,aD j=>decide (C.N[j]?=aD x)&&decide (sc.names.lookup x=aD .free)|_,_=>false)&&decide (ownOf sc++gE sc).Nodup
noncomputable def kJ(sc:aA):CC:=⟨ownOf sc++gE sc,sc.names,true⟩
mutual
noncomputable def cE(K:aK)(T:List Str):Nat->CC->ao->Option E
 |0,_,_=>aE
 |n+1,C,e=>match e with
  |.Name x _=>if okN x then(if sD (C.names.lookup x)then(sC C.N x 0).map .var
   else if C.names.lookup x==aD .globalImplicit then(match PySem.W.nsIn K mainGlobals x with|some (aD v)=>(pq K 8 v).map .cst|_=>aE)else aE)else aE
  |.Constant c _ _=>(match c with
   |.int i=>aD (.cst (.int i))
   |.bool b=>aD (.cst (.bl b))
   |.none=>aD (.cst .aQ)
   |.str x=>aD (.cst (.str x))
   |_=>aE)
  |.Tuple es _ _=>(cL (cE K T n C) es).map .tup
  |.List es _=>(cL (cE K T n C) es).map .lst
  |.Dict ks vs _=>(match ks with
   |[]=>(match vs with
    |[]=>aD (.bi .OV .nil)
    |_::_=>aE)
   |k::ks=>if Nat.ble (k::ks).length 15&&Nat.beq (k::ks).length vs.length&& (k::ks).all (·.isSome)then(Fc (cE K T n C) (k::ks) vs).map .Bu else aE)
  |.BinOp a O b _=>(match BI O,cE K T n C a,cE K T n C b with
   |some o,aD x,aD y=>aD (.op o x y)
   |_,_,_=>aE)
  |.UnaryOp o a _=>(match o with
   |.Not=>(cE K T n C a).map .not
   |.USub=>(cE K T n C a).map .neg
   |_=>aE)
  |.BoolOp o es _=>(match o with
   |.And=>cB true (cE K T n C) es
   |.Or=>cB false (cE K T n C) es)
  |.Compare a Os bs _=>(match Os,bs with
   |[O],[b]=>if qo b then(match gB O,cE K T n C a,cE K T n C b with
   |some c,aD x,aD y=>aD (.cmp c x y)
   |_,_,_=>aE)else aE
   |[O,O'],[b,c]=>if qo c then(match gB O,gB O',cE K T n C a,cE K T n C b,cE K T n C c with
   |some o,aD o',aD x,aD y,aD z=>aD (.wI o o' x y z)
   |_,_,_,_,_=>aE)else aE
   |_,_=>aE)
  |.IfExp c a b _=>(match cT K T n C c,cE K T n C a,cE K T n C b with
   |some z,aD x,aD y=>aD (.ite z x y)
   |_,_,_=>aE)
  |.Subscript a b _=>(match b with
   |.Slice lo hi st _=>(match st with
    |none=>(match cE K T n C a,cO (cE K T n C) lo,cO (cE K T n C) hi with
   |some x,aD (bl,l),aD (bh,u)=>aD (.slc x bl l bh u)
   |_,_,_=>aE)
    |some _=>aE)
   |b=>if uB b then(match cE K T n C a,cE K T n C b with
   |some x,aD y=>aD (.idx x y)
   |_,_=>aE)else aE)
  |.Call fn args kw pos=>(match kw with
   |[]=>(match fn with
    |.Name f _=>if okN f&&C.names.lookup f==aD .globalImplicit then(match PySem.W.nsIn K mainGlobals f with
     |some aE=>if f==("isinstance" : Str)then(match args with
      |[a,.Name t _]=>(match wZ t,cE K T n C a with
       |some ty,aD x=>if okN t&&zev K C t then aD (.rT ty x)else aE
       |_,_=>aE)
      |_=>aE)
      else(match xg f args with
       |some a=>if okN "range" && zev K C "range"then(cE K T n C a).map λx=>.bi .Bs (.cons x .nil)else aE
       |none=>match xh f,args with
       |some b,_::_=>(cL (cE K T n C) args).map (.bi b)
       |_,_=>aE)
     |some (aD _)=>(match sC T f 0 with
      |some i=>if Jm K f args.length && !args.isEmpty then(cL (cE K T n C) args).map (λa=>.call i (nh a))else(cL (cE K T n C) args).map (.call i)
      |none=>aE)
     |none=>aE)else aE
    |.Attribute o Y9 ap=>if IL o&& (ap.endLine==pos.line)then(match cE K T n C o,args with
     |some x,[a]=>if Y9==("append" : Str)then(cE K T n C a).map λy=>.mt .append x (.cons y .nil)else aE
     |_,_=>aE)else aE
    |_=>aE)
   |_=>aE)
  |.ListComp elt gs sc _=>(match gs with
   |[g]=>(match g with
    |⟨tg,iter,ifs,0⟩=>(match aV (λx=>sC C.N x 0) (gE sc)with
     |some ix=>if sF C sc ix then(match cW K T n C iter,yU (kJ sc) tg,(match ifs with|[]=>aD (.cst (.bl true))|[c]=>cT K T n (kJ sc) c|_=>aE),cE K T n (kJ sc) elt with
      |some (kd,a),aD t,aD c,aD e=>if yT kd tg then aD (.lc kd a t (ownOf sc).length ix c e)else aE
      |_,_,_,_=>aE)else aE
     |none=>aE)
    |_=>aE)
   |[g,g2]=>(match g with
    |⟨tg,iter,ifs,0⟩=>(match g2 with
     |⟨gy,bf,dg,0⟩=>(match aV (λx=>sC C.N x 0) (gE sc)with
      |some ix=>if sF C sc ix then(match cW K T n C iter,yU (kJ sc) tg,(match ifs with|[]=>aD (E.cst (.bl true))|[c]=>cT K T n (kJ sc) c|_=>aE),cE K T n (kJ sc) elt with
       |some (kd,a),aD t,aD c,aD e=>if yT kd tg then(match cW K T n (kJ sc) bf,yU (kJ sc) gy,(match dg with|[]=>aD (E.cst (.bl true))|[c]=>cT K T n (kJ sc) c|_=>aE)with
        |some (iD,a2),aD t2,aD c2=>if yT iD gy then aD (.oQ kd a t (ownOf sc).length ix c iD a2 t2 c2 e)else aE
        |_,_,_=>aE)else aE
       |_,_,_,_=>aE)else aE
      |none=>aE)
     |_=>aE)
    |_=>aE)
   |_=>aE)
  |_=>aE
noncomputable def cT(K:aK)(T:List Str):Nat->CC->ao->Option E
 |0,_,_=>aE
 |n+1,C,e=>match e with
  |.Compare a Os bs _=>(match Os,bs with
   |[O],[b]=>if qo b then(match gB O,cE K T n C a,cE K T n C b with
   |some c,aD x,aD y=>aD (.cmp c x y)
   |_,_,_=>aE)else aE
   |[O,O'],[b,c]=>if qo c then(match gB O,gB O',cE K T n C a,cE K T n C b,cE K T n C c with
   |some o,aD o',aD x,aD y,aD z=>aD (.wI o o' x y z)
   |_,_,_,_,_=>aE)else aE
   |_,_=>aE)
  |.UnaryOp o a _=>(match o with
   |.Not=>(cT K T n C a).map .not
   |_=>aE)
  |.BoolOp o es _=>(match o with
   |.And=>cB true (cT K T n C) es
   |.Or=>cB false (cT K T n C) es)
  |.Name x p=>(cE K T n C (.Name x p)).map .jo
  |.Call f as ks p=>(cE K T n C (.Call f as ks p)).map .jo
  |.Subscript a b p=>(cE K T n C (.Subscript a b p)).map .jo
  |_=>aE
noncomputable def cW(K:aK)(T:List Str):Nat->CC->ao->Option (Kd×E)
 |0,_,_=>aE
 |n+1,C,e=>match e with
  |.Call (.Name f p) args [] pos=>if f==("range" : Str)then(if zev K C f then(match args with
   |[a]=>(cE K T n C a).map λx=>(.bG,.cons x .nil)
   |[a,b]=>(match cE K T n C a,cE K T n C b with
    |some x,aD y=>aD (.wH,.cons x (.cons y .nil))
    |_,_=>aE)
   |_=>aE)else aE)
   else if f==("enumerate" : Str)then(if zev K C f then(match args with|[a]=>(cE K T n C a).map λx=>(.ql,x)|_=>aE)else aE)
   else if f==("zip" : Str)then(if zev K C f then(match args with
    |[a,b]=>(match cE K T n C a,cE K T n C b with
     |some x,aD y=>aD (.zip,.cons x (.cons y .nil))
     |_,_=>aE)
    |_=>aE)else aE)
   else(cE K T n C (.Call (.Name f p) args [] pos)).map λx=>(.seq,x)
  |.Set ..=>aE
  |e=>(cE K T n C e).map λx=>(.seq,x)
end
noncomputable def pA(f:au->Option S):List au->Option S
 |[]=>aD .skip
 |s::r=>match f s,pA f r with
  |some a,aD b=>aD (.seq a b)
  |_,_=>aE
noncomputable def cS(K:aK)(T:List Str)(d:Nat):Nat->CC->au->Option S
 |0,_,_=>aE
 |n+1,C,s=>match s with
  |.Pass _=>aD .skip
  |.Break _=>aD .brk
  |.Continue _=>aD .cnt
  |.Raise ..=>aD .no
  |.Return r _=>(match r with
   |none=>aD (.ret (.cst .aQ))
   |some e=>(cE K T d C e).map .ret)
  |.Expr e _=>if E8 e then(cE K T d C e).map .expr else aE
  |.Assign l e _=>(match l with
   |[t]=>(match t with
    |.Name x p=>(match iE C (.Name x p),cE K T d C e with
    |some i,aD c=>aD (.set i c)
    |_,_=>aE)
    |.Tuple ts _ _=>if o5 e then(match aV (iE C) ts,cE K T d C e with
    |some is,aD c=>aD (.Bv is c)
    |_,_=>aE)else aE
    |.Subscript o i _=>if uB i then(match cE K T d C o,cE K T d C i,cE K T d C e with
    |some x,aD y,aD z=>aD (.put x y z)
    |_,_,_=>aE)else aE
    |_=>aE)
   |_=>aE)
  |.AugAssign t O e _=>(match t with
   |.Name x p=>(match iE C (.Name x p),su O,cE K T d C e with
    |some i,aD o,aD c=>aD (.aug i o c)
    |_,_,_=>aE)
   |.Subscript o i _=>if uB i then(match O with
    |.Add=>(match cE K T d C o,cE K T d C i,cE K T d C e with
     |some x,aD y,aD z=>aD (.Bw x y z)
     |_,_,_=>aE)
    |_=>aE)else aE
   |_=>aE)
  |.If c a b _=>(match cT K T d C c,pA (cS K T d n C) a,pA (cS K T d n C) b with
   |some z,aD x,aD y=>aD (.ite z x y)
   |_,_,_=>aE)
  |.For tg it b el _=>(match el with
   |[]=>(match cW K T d C it,yU C tg,pA (cS K T d n C) b with
    |some (kd,a),aD t,aD x=>if yT kd tg then aD (.for kd a t x)else aE
    |_,_,_=>aE)
   |_=>aE)
  |.While c b el _=>(match el with
   |[]=>(match cT K T d C c,pA (cS K T d n C) b with
    |some z,aD x=>aD (.EU z x)
    |_,_=>aE)
   |_=>aE)
  |_=>aE
structure iF(X:Cx)(C:CC)(T:List Str)(F:Nat->Option Fn)(k:Nat):Prop where
 hN:X.N=C.N
 nd:C.N.Nodup
 vis:∀x,sD (C.names.lookup x)=true->yw X.env.scope x
 loc:∀x,sE C.uF (C.names.lookup x)=true->Loc X.env.scope x/\(X.fn x=true\/X.env.scope.names.lookup x=aD .local)
 gl:∀x,C.names.lookup x=aD .globalImplicit->Gl X x
 cf:∀x,(C.names.lookup x=aD .cell\/C.names.lookup x=aD .free)->X.env.kindOf x=aD .cell\/X.env.kindOf x=aD .free
 calm:X.calm=true
 room:cM k X.A
 xe:X.xe=λ_ _=>False
 Qv:X.env.scope.kind=.function
 Cn:∀x v,PySem.W.nsIn X.K mainGlobals x=aD (aD v)->X.mg x=aD v
 Jo:∀x,PySem.W.nsIn X.K mainGlobals x=aD aE->X.mg x=aE
 fns:∀(i:Nat)(x:Str),T[i]?=aD x->x≠""->∃f fd ps fn,fV X.K x=aD f/\fE X.prog X.w X.K X.mg X.base lI k f fd ps (oW X.K ps.length (run F k i))/\PySem.W.keepIn X.K (.ref f)=true/\Binds X.K fd ps []/\F i=aD fn/\fn.ps=ps.length/\(gD X.K x=true->Binds X.K fd ps [.none])
section
variable{X:Cx}{C:CC}{T:List Str}{F:Nat->Option Fn}{k:Nat}
theorem iF.Fd(O:iF X C T F k):X.A.units+65<cLine:=by have:=O.room.un;lia
theorem iF.u2(O:iF X C T F k):X.A.units+2<cLine:=Nat.lt_of_le_of_lt (Nat.add_le_add_left (by decide:2<=64) _) O.room.units
theorem Co(O:iF X C T F k){x:Str}(h:zev X.K C x):Gl X x/\X.mg x=aE:=by unfold zev at h;rw[bE]at h;refine⟨O.gl x (by simpa using h.1),O.Jo x ?_⟩;have h2:=h.2;split at h2;assumption;cases h2
theorem lX(O:iF X C T F k){e:ao}{i:Nat}(h:iE C e=aD i):oX X e i:=by unfold iE at h;split at h;split at h;rename_i hc;rw[bE]at hc;obtain⟨h1,h2⟩:=O.loc _ hc.2;exact⟨_,_,rfl,by rw[O.hN];exact Jl h,h1,h2⟩;cases h;cases h
theorem Jp(O:iF X C T F k):∀{es:List ao} {is:List Nat},aV (iE C) es=aD is->Paired (oX X) es is
 |[],_,h=>by cases h;exact .nil
 |e::es,is,h=>by
  unfold aV at h;split at h;rename_i b hb;split at h;rename_i bs Cm;cases h;exact .cons (lX O hb) (Jp O Cm);cases h;cases h
theorem lY(O:iF X C T F k){e:ao}{t:Tg}(h:yU C e=aD t):PG X e (dh X.K t):=by
 unfold yU at h;split at h;rename_i x p;cases z:iE C (.Name x p)with
 |none=>rw[z]at h;cases h
 |some i=>
  rw[z]at h;cases h;obtain⟨x',p',e,h1,h2,h3⟩:=lX O z;cases e;exact XG (O.hN▸O.nd) h1 h2 h3
 rename_i es kx p;cases z:aV (iE C) es with|none=>rw[z]at h;cases h|some is=>rw[z]at h;cases h;exact Py O.calm (O.hN▸O.nd) (Jp O z)
 cases h
theorem i9{f:ao->Option E}{cl:Call}(ih:∀e c,f e=aD c->SE X e (ev cl c)/\g6 e):∀{es:List ao} {c:E},cL f es=aD c->SA X es (ev cl c)/\es.all g6=true
 |[],_,h=>by cases h;exact⟨BF,rfl⟩
 |e::es,c,h=>by
  unfold cL at h;split at h;rename_i a r ha hr;cases h;obtain⟨h1,h2⟩:=ih e a ha;obtain⟨h3,h4⟩:=i9 ih hr;exact⟨wN h1 h3 (gC h2),by rw[qM,h2,h4];rfl⟩;cases h
theorem Qw{f:ao->Option E}{cl:Call}{pos:Pos}(ih:∀e c,f e=aD c->SE X e (ev cl c)/\g6 e):∀{ks:List (Option ao)} {vs:List ao} {c:E},Fc f ks vs=aD c->BV X pos ks vs (ev cl c)
 |[],[],_,h=>by cases h;exact Xn
 |[],_::_,_,h=>by cases h
 |none::_,_,_,h=>by cases h
 |some _::_,[],_,h=>by cases h
 |some a::ks,v::vs,c,h=>by
  unfold Fc at h;split at h;rename_i x y r hx hy hr;cases h;exact Xo (ih _ _ hx).1 (ih _ _ hy).1 (Qw ih hr);cases h
theorem lZ{f:ao->Option E}{cl:Call}{pos:Pos}(ih:∀e c,f e=aD c->SE X e (ev cl c)/\g6 e):∀{es:List ao} {c:E},(cB true f es=aD c->SE X (.BoolOp .And es pos) (ev cl c))/\(cB false f es=aD c->SE X (.BoolOp .Or es pos) (ev cl c))
 |[],_=>⟨(λh=>nomatch h),(λh=>nomatch h)⟩
 |[a],c=>⟨λh=>Pa (ih a c h).1,λh=>Pa (ih a c h).1⟩
 |a::b::r,c=>by
  refine⟨λh=>?_,λh=>?_⟩;unfold cB at h;split at h;rename_i x y hx hy;cases h;exact WT (ih a x hx).1 ((lZ ih).1 hy);cases h;unfold cB at h;split at h;rename_i x y hx hy;cases h;exact BP (ih a x hx).1 ((lZ ih).2 hy);cases h
theorem Fe{f:ao->Option E}{cl:Call}{pos:Pos}(ih:∀e c,f e=aD c->ST X e (ev cl c)):∀{es:List ao} {c:E},(cB true f es=aD c->SW X (.BoolOp .And es pos) (ev cl c))/\(cB false f es=aD c->SW X (.BoolOp .Or es pos) (ev cl c))
 |[],_=>⟨(λh=>nomatch h),(λh=>nomatch h)⟩
 |[a],c=>⟨λh=>O9 (ih a c h),λh=>O9 (ih a c h)⟩
 |a::b::r,c=>by
  refine⟨λh=>?_,λh=>?_⟩;unfold cB at h;split at h;rename_i x y hx hy;cases h;exact WS (ih a x hx) ((Fe ih).1 hy);cases h;unfold cB at h;split at h;rename_i x y hx hy;cases h;exact BO (ih a x hx) ((Fe ih).2 hy);cases h
theorem uG{f:ao->Option E}{cl:Call}(ih:∀e c,f e=aD c->SE X e (ev cl c)/\g6 e){o:Option ao}{b:Bool}{c:E}(h:cO f o=aD (b,c)):PO X o (jq X.K b (ev cl c)):=by
 unfold cO at h;split at h;cases h;exact W2;rename_i e;cases z:f e with|none=>rw[z]at h;cases h|some c'=>rw[z]at h;cases h;exact W3 (ih _ _ z).1
theorem Za{x:Str}{t:Ty}(h:wZ x=aD t):bootBuiltins x=aD (.type (se t)):=by unfold wZ at h;split at h;rename_i e;cases h;rw[show x = "int" by simpa using e];exact PyProof.Rows.boot_int;split at h;rename_i e;cases h;rw[show x = "bool" by simpa using e];decide +kernel;split at h;rename_i e;cases h;rw[show x = "tuple" by simpa using e];exact PyProof.Rows.boot_tuple;split at h;rename_i e;cases h;rw[show x = "list" by simpa using e];exact PyProof.Rows.boot_list;split at h;rename_i e;cases h;rw[show x = "str" by simpa using e];decide +kernel;split at h;rename_i e;cases h;rw[show x = "dict" by simpa using e];decide +kernel;cases h
theorem Cq{x:Str}{b:Bi}{e:ao}{es:List ao}{fa:FE}{p pos:Pos}(h:xh x=aD b)(hg:Gl X x)(hm:X.mg x=aE)(hn:okN x)(hc:X.calm)(ha:SA X (e::es) fa)(hs:(e::es).all g6):SE X (.Call (.Name x p) (e::es) [] pos) (jr fa (jC b)):=by
 obtain⟨n1,_,n2⟩:=yS hn;unfold xh at h;split at h;rename_i z;cases h;have z:x = "len":=by simpa using z
 subst z;exact yP UC W6 hg hm PySem.boot_len ha hs n2 n1;split at h;rename_i z;cases h;have z:x = "list":=by simpa using z
 subst z;exact IK UD W7 hg hm PyProof.Rows.boot_list ha hs n2 n1;split at h;rename_i z;cases h;have z:x = "tuple":=by simpa using z
 subst z;exact IK UE W8 hg hm PyProof.Rows.boot_tuple ha hs n2 n1;split at h;rename_i z;cases h;have z:x = "int":=by simpa using z
 subst z;exact IK T9 W9 hg hm PyProof.Rows.boot_int ha hs n2 n1;split at h;rename_i z;cases h;have z:x = "abs":=by simpa using z
 subst z;exact yP T6 Xa hg hm (by decide +kernel) ha hs n2 n1;split at h;rename_i z;cases h;have z:x = "max":=by simpa using z
 subst z;exact yP ((T7 hc).or (Y3 hc)) Xb hg hm (by decide +kernel) ha hs n2 n1;split at h;rename_i z;cases h;have z:x = "min":=by simpa using z
 subst z;exact yP (T8 hc) Xc hg hm (by decide +kernel) ha hs n2 n1;split at h;rename_i z;cases h;have z:x = "all":=by simpa using z
 subst z;exact yP (VW hc) Xd hg hm (by decide +kernel) ha hs n2 n1;split at h;rename_i z;cases h;have z:x = "sorted":=by simpa using z
 subst z;exact yP YW Y0 hg hm (by decide +kernel) ha hs n2 n1;cases h
theorem Zb{b:ao}(h:uB b):G0 b:=λo i=>by cases b<;>first|rfl|cases h
end
section
variable{X:Cx}{C:CC}{T:List Str}{F:Nat->Option Fn}{k:Nat}
theorem uH{env:Env}{kd:NameKind}(hk:kd≠.free):∀{l:List (Str×NameKind)} {x:Str},l.lookup x=aD kd->
 (l.map λ(n,k)=>if(k==NameKind.free&&env.scope.kind == .function&&env.kindOf n==aD .cell)then(n,NameKind.cell)else(n,k)).lookup x=aD kd
 |[],_,h=>by cases h
 |(n,j)::r,x,h=>by
  rw[gQ];simp only[gw]at h;by_cases hx:(x==n)=true;simp only[hx]at h;cases h;have:(kd==NameKind.free)=false:=by simpa using hk
  simp only[this,zx,dZ,dF,gw,hx];have hx':(x==n)=false:=by simpa using hx
  simp only[hx']at h;have ih:=uH (env:=env) hk (l:=r) (x:=x) h;by_cases hc':(j==NameKind.free&&env.scope.kind == .function&&env.kindOf n==aD .cell)=true;simp only[hc',bZ,gw,hx'];exact ih;have hcf:(j==NameKind.free&&env.scope.kind == .function&&env.kindOf n==aD .cell)=false:=by simpa using hc'
  simp only[hcf,dZ,dF,gw,hx'];exact ih
theorem Jq(O:iF X C T F k){sc:aA}{ix:List Nat}(h:sF C sc ix):aX X (ownOf sc) (gE sc) ix sc/\(ownOf sc++gE sc).Nodup:=by
 unfold sF at h;simp only[bE,fj,nH]at h;obtain⟨⟨⟨⟨⟨⟨⟨⟨h1,h2⟩,h2'⟩,h3⟩,h4⟩,h5⟩,h6⟩,h7⟩,h8⟩:=h;refine⟨⟨h1,h2,h3,h4,h2',λy hy e=>O.cf _ (h5 y hy e),λq x e=>?_,h6⟩,h8⟩;have hk:q< (gE sc).length:=(jJ.mp e).1;have:=h7 q (tY.mpr hk);rw[e]at this;cases z:ix[q]? with
 |none=>rw[z]at this;cases this
 |some j=>
  rw[z]at this;simp only[bE,fj]at this;exact⟨j,rfl,by rw[O.hN];exact this.1,this.2⟩
theorem yV(O:iF X C T F k){sc:aA}{ix:List Nat}(h:sF C sc ix)(D:ah)(s₀:af)(H₀:Hp)(ex:List ah):iF (X.comp (ownOf sc++gE sc) sc D s₀ H₀ ex) (kJ sc) T F k:=by
 obtain⟨S,nd⟩:=Jq O h;refine⟨rfl,nd,λx hx=>?_,λx hx=>?_,λx hx=>?_,λx hx=>?_,O.calm,O.room,rfl,S.kind,O.Cn,O.Jo,O.fns⟩;have hx:sD (sc.names.lookup x)=true:=hx;cases z:sc.names.lookup x with
 |none=>rw[z]at hx;cases hx
 |some kd=>
  cases kd with
  | «local»=>exact .inl (uH (by decide) z)
  |cell=>exact .inr (.inl (uH (by decide) z))
  |free=>
   have:=Eo (env:=X.env) O.Qv z;by_cases hc:X.env.kindOf x=aD .cell;rw[if_pos hc]at this;exact .inr (.inl this);rw[if_neg hc]at this;exact .inr (.inr this)
  |globalExplicit=>rw[z]at hx;cases hx
  |globalImplicit=>rw[z]at hx;cases hx
 have hx:sE true (sc.names.lookup x)=true:=hx;cases z:sc.names.lookup x with
 |none=>rw[z]at hx;cases hx
 |some kd=>
  cases kd with| «local»=>exact⟨.inl (uH (by decide) z),.inr (uH (by decide) z)⟩|cell=>exact⟨.inr (uH (by decide) z),.inl (by show(sc.names.lookup x==aD NameKind.cell)=true;rw[z];rfl)⟩|free=>rw[z]at hx;cases hx|globalExplicit=>rw[z]at hx;cases hx|globalImplicit=>rw[z]at hx;cases hx
 exact uH (by decide) hx;have hx:sc.names.lookup x=aD .cell\/sc.names.lookup x=aD .free:=hx;rcases hx with z|z
 exact .inl (uH (by decide) z);have:=Eo (env:=X.env) O.Qv z;by_cases hc:X.env.kindOf x=aD .cell;rw[if_pos hc]at this;exact .inl this;rw[if_neg hc]at this;exact .inr this
end
theorem map_some{α β:Type}{o:Option α}{f:α->β}{b:β}(h:o.map f=aD b):∃a,o=aD a/\b=f a:=by
 cases o with|none=>cases h|some a=>cases h;exact⟨a,rfl,rfl⟩
structure ni(X:Cx)(C:CC)(T:List Str)(F:Nat->Option Fn)(k n:Nat):Prop where
 e:∀e c,cE X.K T n C e=aD c->SE X e (ev (run F k) c)/\g6 e=true
 t:∀e c,cT X.K T n C e=aD c->ST X e (ev (run F k) c)
 w:∀e kd c tg,cW X.K T n C e=aD (kd,c)->yT kd tg=true->PI X tg e (cy X.K kd (ev (run F k) c))/\∀x,foldedSetIterable e X.env x=pure x
section
variable{X:Cx}{C:CC}{T:List Str}{F:Nat->Option Fn}{k n:Nat}
theorem Cr(O:iF X C T F k)(ih:ni X C T F k n)(e:ao)(c:E)(h:cT X.K T (n+1) C e=aD c):ST X e (ev (run F k) c):=by unfold cT at h;split at h;split at h;split at h;rename_i hs;split at h;rename_i h1 h2 h3;cases h;exact WM O.Fd h1 hs (ih.e _ _ h2).1 (ih.e _ _ h3).1;cases h;cases h;split at h;rename_i hs;split at h;rename_i h1 h2 h3 h4 h5;cases h;exact WO O.Fd h1 h2 hs (ih.e _ _ h3).1 (ih.e _ _ h4).1 (ih.e _ _ h5).1;cases h;cases h;cases h;split at h;obtain⟨a,h1,rfl⟩:=map_some h;exact WQ (ih.t _ _ h1);cases h;split at h;exact((Fe ih.t).1 h).pt;exact((Fe ih.t).2 h).pt;obtain⟨a,h1,rfl⟩:=map_some h;exact IJ (ih.e _ _ h1).1 λ_=>rfl;obtain⟨a,h1,rfl⟩:=map_some h;exact IJ (ih.e _ _ h1).1 λ_=>rfl;obtain⟨a,h1,rfl⟩:=map_some h;exact IJ (ih.e _ _ h1).1 λ_=>rfl;cases h
theorem Cs{e:ao}(h:∀a b c,e≠.Set a b c){env:Env}:∀x,foldedSetIterable e env x=pure x:=by intro x;cases e<;>first|rfl|exact absurd rfl (h _ _ _)
theorem Ct(O:iF X C T F k)(ih:ni X C T F k n)(e:ao)(kd:Kd)(c:E)(tg:ao)(h:cW X.K T (n+1) C e=aD (kd,c))(hw:yT kd tg):PI X tg e (cy X.K kd (ev (run F k) c))/\∀x,foldedSetIterable e X.env x=pure x:=by
 unfold cW at h;split at h;rename_i f p args pos;refine⟨?_,λx=>rfl⟩;split at h;rename_i hf;have hf:f = "range":=by simpa using hf
 subst hf;split at h;rename_i ha;obtain⟨g1,g2⟩:=Co O ha;split at h;rename_i a;obtain⟨x,h1,h2⟩:=map_some h;cases h2;obtain⟨h3,h4⟩:=ih.e _ _ h1;exact Xw (wN h3 BF (gC h4)) h4 g1 g2;rename_i a b;split at h;rename_i x y h1 h2;cases h;obtain⟨h3,h4⟩:=ih.e _ _ h1;obtain⟨h5,h6⟩:=ih.e _ _ h2;exact Xx (wN h3 (wN h5 BF (gC h6)) (gC h4)) h4 h6 g1 g2;cases h;cases h;cases h;split at h;rename_i hf;have hf:f = "enumerate":=by simpa using hf
 subst hf;split at h;rename_i ha;obtain⟨g1,g2⟩:=Co O ha;split at h;rename_i a;obtain⟨x,h1,h2⟩:=map_some h;cases h2;obtain⟨h3,h4⟩:=ih.e _ _ h1;cases tg<;>first|exact XC h3 h4 g1 g2|cases hw
 cases h;cases h;split at h;rename_i hf;have hf:f = "zip":=by simpa using hf
 subst hf;split at h;rename_i ha;obtain⟨g1,g2⟩:=Co O ha;split at h;rename_i a b;split at h;rename_i x y h1 h2;cases h;obtain⟨h3,h4⟩:=ih.e _ _ h1;obtain⟨h5,h6⟩:=ih.e _ _ h2;cases tg<;>first|exact XF (wN h3 (wN h5 BF (gC h6)) (gC h4)) h4 h6 g1 g2|cases hw
 cases h;cases h;cases h;obtain⟨x,h1,h2⟩:=map_some h;cases h2;exact Po (ih.e _ _ h1).1;cases h;rename_i hns;obtain⟨x,h1,h2⟩:=map_some h;cases h2;exact⟨Po (ih.e _ _ h1).1,Cs (by first|exact hns|(intro a b c z;exact hns a b c z))⟩
end
section
variable{X:Cx}{C:CC}{T:List Str}{F:Nat->Option Fn}{k n:Nat}
theorem Zc(O:iF X C T F k){x:Str}{p:Pos}{c:E}(h:cE X.K T (n+1) C (.Name x p)=aD c):SE X (.Name x p) (ev (run F k) c):=by simp only[cE]at h;split at h;rename_i hn;obtain⟨n1,n2,n3⟩:=yS hn;split at h;rename_i hv;obtain⟨i,h1,rfl⟩:=map_some h;exact Wy (by rw[O.hN];exact Jl h1) (O.vis x hv) n1 n2;split at h;rename_i hg;split at h;rename_i v hv;obtain⟨w,h1,rfl⟩:=map_some h;obtain⟨y,h2,h3⟩:=Qs 8 v w h1;exact BD (Sk (O.gl x (by simpa using hg)) (O.Cn x v hv) h2 n1) h3;cases h;cases h;cases h
theorem Zd{f:Str}{args:List ao}{a:ao}(h:xg f args=aD a):∃p pos,f = "list"/\args=[.Call (.Name "range" p) [a] [] pos]:=by unfold xg at h;split at h;rename_i hf;split at h;split at h;rename_i hg;cases h;simp only[beq_iff_eq]at hg;subst hg;exact⟨_,_,by simpa using hf,rfl⟩;cases h;cases h;cases h
theorem Ze(O:iF X C T F k)(ih:ni X C T F k n){f:Str}{p pos:Pos}{args:List ao}{c:E}(h:cE X.K T (n+1) C (.Call (.Name f p) args [] pos)=aD c):SE X (.Call (.Name f p) args [] pos) (ev (run F k) c):=by
 simp only[cE]at h;split at h;rename_i hn;rw[bE]at hn;have hg:=O.gl f (by simpa using hn.2);split at h;rename_i hm;have hm:=O.Jo f hm;split at h;rename_i hf;have hf:f = "isinstance":=by simpa using hf
 subst hf;split at h;rename_i a t pt;split at h;rename_i ty x h1 h2;split at h;rename_i hc;cases h;rw[bE]at hc;obtain⟨g1,g2⟩:=Co O hc.2;obtain⟨h3,h4⟩:=ih.e _ _ h2;obtain⟨n1,n2,n3⟩:=yS hc.1;exact Xg ty h3 h4 hg hm g1 g2 (Za h1) n3 n1;cases h;cases h;cases h;split at h;rename_i a hl;split at h;rename_i hc;rw[bE]at hc;obtain⟨x,h1,rfl⟩:=map_some h;obtain⟨h2,h3⟩:=ih.e _ _ h1;obtain⟨g1,g2⟩:=Co O hc.2;obtain⟨p2,pos2,rfl,rfl⟩:=Zd hl;exact YK O.calm hg hm g1 g2 (wN h2 BF (gC h3)) h3;cases h;split at h;rename_i b e es hb _;obtain⟨a,h1,rfl⟩:=map_some h;obtain⟨h2,h3⟩:=i9 ih.e h1;exact Cq hb hg hm hn.1 O.calm h2 h3;cases h;rename_i v hv;split at h;rename_i i hi;obtain⟨fa,fd,ps,fn,q1,q2,q3,q4,q5,q6,q7⟩:=O.fns i f (Jl hi) (Y5 hn.1);have q1:=Qd q1;split at h;rename_i Jr;rw[bE]at Jr;obtain⟨a,h1,rfl⟩:=map_some h;obtain⟨h2,h3⟩:=i9 ih.e h1;have hl:∀ws h w h',run F k i ws h=.ok w h'->ws.length=ps.length:=λws h w h' e=>by rw[Jg q5 e,q6]
 have hev:ev (run F k) (.call i (nh a))=jr (ev (run F k) a) (λws h=>run F k i (ws++[.aQ]) h):=by
  funext ρ h;simp only[ev,Y8 (Qt h1)];show Res.bind (Res.bind (ev (run F k) a ρ h) _) _=Res.bind (ev (run F k) a ρ h) _;cases ev (run F k) a ρ h with|no=>rfl|ex _ _=>rfl|ok y h2=>cases y<;>rfl
 rw[hev];cases args with|nil=>cases Jr.2|cons e es=>exact Xs q2 O.room hg (O.Cn f _ q1) q3 (q7 (Y7 Jr.1)) h2 h3 (yS hn.1).1 hl
 obtain⟨a,h1,rfl⟩:=map_some h;obtain⟨h2,h3⟩:=i9 ih.e h1;have hl:∀ws h w h',run F k i ws h=.ok w h'->ws.length=ps.length:=λws h w h' e=>by rw[Jg q5 e,q6]
 cases args with
 |nil=>
  simp only[cL]at h1;cases h1;exact Xr q2 O.room hg (O.Cn f _ q1) q3 q4 (yS hn.1).1 hl
 |cons e es=>exact Xq q2 O.room hg (O.Cn f _ q1) q3 q4 h2 h3 (yS hn.1).1 hl
 cases h;cases h;cases h
theorem Zf(O:iF X C T F k)(ih:ni X C T F k n){o:ao}{m:Str}{ap pos:Pos}{args:List ao}{c:E}(h:cE X.K T (n+1) C (.Call (.Attribute o m ap) args [] pos)=aD c):SE X (.Call (.Attribute o m ap) args [] pos) (ev (run F k) c):=by
 simp only[cE]at h;split at h;rename_i hn;rw[bE]at hn;split at h;rename_i x a hx;split at h;rename_i hm;have hm:m = "append":=by simpa using hm
 subst hm;obtain⟨y,h1,rfl⟩:=map_some h;obtain⟨h2,h3⟩:=ih.e _ _ h1;exact Xm (ih.e _ _ hx).1 h2 hn.1 h3 hn.2;cases h;cases h;cases h
theorem Js{ow fr:List Str}{sc:aA}{ifs:List ao}{c:E}(O:∀D s₀ H₀ ex,ni (X.comp (ow++fr) sc D s₀ H₀ ex) (kJ sc) T F k n)
 (h:(match ifs with|[]=>aD (E.cst (.bl true))|[c]=>cT X.K T n (kJ sc) c|_=>aE)=aD c) (D:ah) (s₀:af) (H₀:Hp) (ex:List ah):iX (X.comp (ow++fr) sc D s₀ H₀ ex) ifs (dz X.K (ev (run F k) c)):=by
 split at h;cases h;exact λpins s σ H Q I z9=>z9.el λρ h m b h' f r e q=>by
  cases e;exact UY pins s σ H Q I (q H m .refl r)
 exact UZ ((O D s₀ H₀ ex).t _ _ h);cases h
theorem Qx(O:iF X C T F k)(ih:ni X C T F k n)(nj:∀{sc:aA} {ix:List Nat},sF C sc ix=true->∀D s₀ H₀ ex,ni (X.comp (ownOf sc++gE sc) sc D s₀ H₀ ex) (kJ sc) T F k n)
 {elt tg iter:ao} {ifs:List ao} {sc:aA} {pos:Pos} {c:E} (h:cE X.K T (n+1) C (.ListComp elt [⟨tg,iter,ifs,0⟩] sc pos)=aD c) :
 ∃kd a t ix cc ce,c=.lc kd a t (ownOf sc).length ix cc ce/\aX X (ownOf sc) (gE sc) ix sc/\PI X tg iter (cy X.K kd (ev (run F k) a))/\(∀D s₀ H₀ ex,PG (X.comp (ownOf sc++gE sc) sc D s₀ H₀ ex) tg (dh X.K t))/\
  (∀D s₀ H₀ ex,iX (X.comp (ownOf sc++gE sc) sc D s₀ H₀ ex) ifs (dz X.K (ev (run F k) cc)))/\(∀D s₀ H₀ ex,PE (X.comp (ownOf sc++gE sc) sc D s₀ H₀ ex) elt (gu X.K (ev (run F k) ce)))/\∀x,foldedSetIterable iter X.env x=pure x:=by
 simp only[cE]at h;split at h
 .rename_i ix hix
  split at h
  .rename_i hc
   split at h
   .rename_i kd a t cc ce h1 h2 h3 h4
    split at h
    case isFalse=>cases h
    rename_i hw;cases h;obtain⟨w1,w2⟩:=ih.w _ _ _ tg h1 hw;exact⟨kd,a,t,ix,cc,ce,rfl,(Jq O hc).1,w1,λD s₀ H₀ ex=>lY (yV O hc D s₀ H₀ ex) h2,Js (nj hc) h3,λD s₀ H₀ ex=>((nj hc D s₀ H₀ ex).e _ _ h4).1,w2⟩
   cases h
  cases h
 cases h
theorem Qy(O:iF X C T F k)(ih:ni X C T F k n)(nj:∀{sc:aA} {ix:List Nat},sF C sc ix=true->∀D s₀ H₀ ex,ni (X.comp (ownOf sc++gE sc) sc D s₀ H₀ ex) (kJ sc) T F k n)
 {elt tg iter gy bf:ao} {ifs dg:List ao} {sc:aA} {pos:Pos} {c:E} (h:cE X.K T (n+1) C (.ListComp elt [⟨tg,iter,ifs,0⟩,⟨gy,bf,dg,0⟩] sc pos)=aD c) :
 ∃kd a t ix cc iD a2 t2 yW ce,c=.oQ kd a t (ownOf sc).length ix cc iD a2 t2 yW ce/\aX X (ownOf sc) (gE sc) ix sc/\PI X tg iter (cy X.K kd (ev (run F k) a))/\(∀D s₀ H₀ ex,PG (X.comp (ownOf sc++gE sc) sc D s₀ H₀ ex) tg (dh X.K t))/\
  (∀D s₀ H₀ ex,iX (X.comp (ownOf sc++gE sc) sc D s₀ H₀ ex) ifs (dz X.K (ev (run F k) cc)))/\
  (∀D s₀ H₀ ex,PI (X.comp (ownOf sc++gE sc) sc D s₀ H₀ ex) gy bf (cy X.K iD (ev (run F k) a2)))/\(∀D s₀ H₀ ex,PG (X.comp (ownOf sc++gE sc) sc D s₀ H₀ ex) gy (dh X.K t2))/\
  (∀D s₀ H₀ ex,iX (X.comp (ownOf sc++gE sc) sc D s₀ H₀ ex) dg (dz X.K (ev (run F k) yW)))/\(∀D s₀ H₀ ex,PE (X.comp (ownOf sc++gE sc) sc D s₀ H₀ ex) elt (gu X.K (ev (run F k) ce)))/\
  (∀x,foldedSetIterable iter X.env x=pure x)/\∀D s₀ H₀ ex x,foldedSetIterable bf (X.comp (ownOf sc++gE sc) sc D s₀ H₀ ex).env x=pure x:=by
 simp only[cE]at h;split at h
 .rename_i ix hix
  split at h
  .rename_i hc
   split at h
   .rename_i kd a t cc ce h1 h2 h3 h4
    split at h
    case isFalse=>cases h
    rename_i hw;split at h
    .rename_i iD a2 t2 yW h5 h6 h7
     split at h
     case isFalse=>cases h
     rename_i Qz;cases h;obtain⟨w1,w2⟩:=ih.w _ _ _ tg h1 hw;exact⟨kd,a,t,ix,cc,iD,a2,t2,yW,ce,rfl,(Jq O hc).1,w1,λD s₀ H₀ ex=>lY (yV O hc D s₀ H₀ ex) h2,Js (nj hc) h3,λD s₀ H₀ ex=>((nj hc D s₀ H₀ ex).w _ _ _ gy h5 Qz).1,λD s₀ H₀ ex=>lY (yV O hc D s₀ H₀ ex) h6,Js (nj hc) h7,
      λD s₀ H₀ ex=>((nj hc D s₀ H₀ ex).e _ _ h4).1,w2,λD s₀ H₀ ex=>((nj hc D s₀ H₀ ex).w _ _ _ gy h5 Qz).2⟩
    cases h
   cases h
  cases h
 cases h
theorem Cu(O:iF X C T F k)(ih:ni X C T F k n)(nj:∀{sc:aA} {ix:List Nat},sF C sc ix=true->∀D s₀ H₀ ex,ni (X.comp (ownOf sc++gE sc) sc D s₀ H₀ ex) (kJ sc) T F k n)
 (e:ao) (c:E) (h:cE X.K T (n+1) C e=aD c):SE X e (ev (run F k) c)/\g6 e=true:=by
 have h0:=h;unfold cE at h;split at h;exact⟨Zc O h0,rfl⟩;refine⟨?_,rfl⟩;split at h;cases h;exact Wz;cases h;exact BE;cases h;exact WA;cases h;exact WB;cases h;obtain⟨a,h1,rfl⟩:=map_some h;exact⟨WC (i9 ih.e h1).1,rfl⟩;obtain⟨a,h1,rfl⟩:=map_some h;exact⟨WD (i9 ih.e h1).1,rfl⟩;refine⟨?_,rfl⟩;split at h;split at h;cases h;exact Y4;cases h;split at h;rename_i hc;simp only[bE]at hc;obtain⟨a,h1,rfl⟩:=map_some h;exact Xp O.u2 (Qw ih.e h1) hc.2 (zm hc.1.2) (by simp) (kr hc.1.1);cases h;refine⟨?_,rfl⟩;split at h;rename_i h1 h2 h3;cases h;exact BH (BJ h1) (WI _) (ih.e _ _ h2).1 (ih.e _ _ h3).1;cases h;split at h;obtain⟨a,h1,rfl⟩:=map_some h;exact⟨WR (ih.e _ _ h1).1,rfl⟩;obtain⟨a,h1,rfl⟩:=map_some h;exact⟨WW (ih.e _ _ h1).1,rfl⟩;cases h;split at h;exact⟨(lZ ih.e).1 h,rfl⟩;exact⟨(lZ ih.e).2 h,rfl⟩;split at h;refine⟨?_,rfl⟩;split at h;rename_i hs;split at h;rename_i h1 h2 h3;cases h;exact WL O.Fd h1 hs (ih.e _ _ h2).1 (ih.e _ _ h3).1;cases h;cases h;refine⟨?_,rfl⟩;split at h;rename_i hs;split at h;rename_i h1 h2 h3 h4 h5;cases h;exact WN O.Fd h1 h2 hs (ih.e _ _ h3).1 (ih.e _ _ h4).1 (ih.e _ _ h5).1;cases h;cases h;cases h;refine⟨?_,rfl⟩;split at h;rename_i h1 h2 h3;cases h;exact WU (ih.t _ _ h1) (ih.e _ _ h2).1 (ih.e _ _ h3).1;cases h;split at h;split at h;refine⟨?_,rfl⟩;split at h;rename_i h1 h2 h3;cases h;exact W5 (ih.e _ _ h1).1 (uG ih.e h2) (uG ih.e h3);cases h;cases h;refine⟨?_,rfl⟩;split at h;rename_i hs;split at h;rename_i h1 h2;cases h;exact W0 O.u2 (ih.e _ _ h1).1 (ih.e _ _ h2).1 (Zb hs);cases h;cases h;split at h;split at h;exact⟨Ze O ih h0,rfl⟩;exact⟨Zf O ih h0,rfl⟩;cases h;cases h;split at h;split at h;refine⟨?_,rfl⟩;obtain⟨kd,a,t,ix,cc,ce,rfl,S,w1,w2,w3,w4,w5⟩:=Qx O ih nj h0;exact Cc S O.calm w1 w2 w3 w4 w5;cases h;split at h;split at h;refine⟨?_,rfl⟩;obtain⟨kd,a,t,ix,cc,iD,a2,t2,yW,ce,rfl,S,w1,w2,w3,v1,v2,v3,w4,w5,v5⟩:=Qy O ih nj h0;exact Yd S O.calm w1 w2 w3 v1 v2 v3 w4 w5 v5;cases h;cases h;cases h;cases h
end
theorem uI{T:List Str}{F:Nat->Option Fn}{k:Nat}:∀(n:Nat) {X:Cx} {C:CC},iF X C T F k->ni X C T F k n
 |0,_,_,_=>⟨(λe c h=>nomatch h),(λe c h=>nomatch h),(λe kd c tg h _=>nomatch h)⟩
 |n+1,X,C,O=>by
  have ih:=uI n O;have nj:∀{sc:aA}{ix:List Nat},sF C sc ix=true->∀D s₀ H₀ ex,ni (X.comp (ownOf sc++gE sc) sc D s₀ H₀ ex) (kJ sc) T F k n:=λhc D s₀ H₀ ex=>uI n (yV O hc D s₀ H₀ ex);exact⟨Cu O ih nj,Cr O ih,Ct O ih⟩
section
variable{X:Cx}{C:CC}{T:List Str}{F:Nat->Option Fn}{k d:Nat}
theorem xj{f:au->Option S}{cl:Call}(ih:∀st c,f st=aD c->SS X st (exs cl c)):∀{sts:List au} {c:S},pA f sts=aD c->sj X sts (exs cl c)
 |[],_,h=>by cases h;exact XZ
 |s::r,c,h=>by
  unfold pA at h;split at h;rename_i a b ha hb;cases h;exact X5 (ih s a ha) (xj ih hb);cases h
theorem Zg{K:aK}{T:List Str}{n:Nat}{C:CC}{elt:ao}{gs:List Comprehension}{sc:aA}{lp:Pos}{c:E}(h:cE K T (n+1) C (.ListComp elt gs sc lp)=aD c):(∃tg iter ifs,gs=[⟨tg,iter,ifs,0⟩])\/∃tg iter ifs gy bf dg,gs=[⟨tg,iter,ifs,0⟩,⟨gy,bf,dg,0⟩]:=by simp only[cE]at h;split at h;rename_i g;split at h;exact .inl ⟨_,_,_,rfl⟩;cases h;rename_i g g2;split at h;split at h;exact .inr ⟨_,_,_,_,_,_,rfl⟩;cases h;cases h;cases h
theorem Zh(O:iF X C T F k){x:Str}{p pos:Pos}{e:ao}{i:Nat}{c:E}(hi:iE C (.Name x p)=aD i)(h:cE X.K T d C e=aD c):SS X (.Assign [.Name x p] e pos) (exs (run F k) (.set i c)):=by
 obtain⟨x',p',ex,h1,h2,h3⟩:=lX O hi;cases ex;have nd:X.N.Nodup:=O.hN▸O.nd;have Sd:=uI (T:=T) (F:=F) (k:=k) d O;by_cases hc:E8 e=true;exact PV nd h1 h2 h3 (Sd.e _ _ h).1 (PU hc);cases d with
 |zero=>cases h
 |succ n=>
  cases e with
  |ListComp elt gs sc lp=>
   have sw:∃b:Bool,swapsWith (.ListComp elt gs sc lp) (aD (.Name x p)) pos.line X.env=pure b:=⟨_,rfl⟩
   obtain⟨b,hb⟩:=sw;cases b with
   |false=>exact PV nd h1 h2 h3 (Sd.e _ _ h).1 hb
   |true=>
    rcases Zg h with⟨tg,iter,ifs,rfl⟩|⟨tg,iter,ifs,gy,bf,dg,rfl⟩;obtain⟨kd,a,t,ix,cc,ce,rfl,S,w1,w2,w3,w4,w5⟩:=Qx O (uI n O) (λhc D s₀ H₀ ex=>uI n (yV O hc D s₀ H₀ ex)) h;exact Yc nd h1 h2 h3 S O.calm w1 w2 w3 w4 hb w5;obtain⟨kd,a,t,ix,cc,iD,a2,t2,yW,ce,rfl,S,w1,w2,w3,v1,v2,v3,w4,w5,v5⟩:=Qy O (uI n O) (λhc D s₀ H₀ ex=>uI n (yV O hc D s₀ H₀ ex)) h;exact Ye nd h1 h2 h3 S O.calm w1 w2 w3 v1 v2 v3 w4 hb w5 v5
  |SetComp _ _ _ _=>unfold cE at h;cases h
  |DictComp _ _ _ _ _=>unfold cE at h;cases h
  |_=>exact absurd rfl hc
theorem pB(O:iF X C T F k):∀(n:Nat) (st:au) (c:S),cS X.K T d n C st=aD c->SS X st (exs (run F k) c)
 |0,_,_,h=>by cases h
 |n+1,st,c,h=>by
  have nd:X.N.Nodup:=O.hN▸O.nd;have Sd:=uI (T:=T) (F:=F) (k:=k) d O;have ih:=pB O n;have hp:PassesOwn (model X.prog X.w) X.A X.env X.xe:=by rw[O.xe];exact PassesOwn.never
  unfold cS at h;split at h;cases h;exact X0;cases h;exact X3;cases h;exact X4;cases h;exact Cb;split at h;cases h;exact Yb;obtain⟨a,h1,rfl⟩:=map_some h;exact X8 (Sd.e _ _ h1).1;split at h;rename_i hc;obtain⟨a,h1,rfl⟩:=map_some h;exact X7 (Sd.e _ _ h1).1 hc;cases h;split at h;split at h;split at h;rename_i i a h1 h2;cases h;exact Zh O h1 h2;cases h;split at h;rename_i ht;split at h;rename_i h1 h2;cases h;exact Yi O.calm nd (Jp O h1) (Sd.e _ _ h2).1 ht;cases h;cases h;split at h;rename_i hs;split at h;rename_i h1 h2 h3;cases h;exact Yo O.u2 (Sd.e _ _ h1).1 (Sd.e _ _ h2).1 (Sd.e _ _ h3).1 hs;cases h;cases h;cases h;cases h;split at h;split at h;rename_i h1 h2 h3;cases h;obtain⟨x',p',ex,a1,a2,a3⟩:=lX O h1;cases ex;exact Ys h2 nd a1 a2 a3 (Sd.e _ _ h3).1;cases h;split at h;rename_i hs;split at h;split at h;rename_i h1 h2 h3;cases h;exact Yx (Sd.e _ _ h1).1 (Sd.e _ _ h2).1 (Sd.e _ _ h3).1 hs;cases h;cases h;cases h;cases h;split at h;rename_i h1 h2 h3;cases h;exact Yz (Sd.t _ _ h1) (xj ih h2) (xj ih h3);cases h
  .rename_i tg it b el pos
   split at h
   .split at h
    .rename_i h1 h2 h3
     split at h
     case isFalse=>cases h
     rename_i hw;cases h;obtain⟨w1,w2⟩:=Sd.w _ _ _ tg h1 hw;exact YC hp O.calm w1 (lY O h2) (xj ih h3) w2
    cases h
   cases h
  split at h;split at h;rename_i h1 h2;cases h;exact YD hp (Sd.t _ _ h1) (xj ih h2);cases h;cases h;cases h
end
noncomputable def Jt:FuncBody->Option (List au)|.stmts b=>aD b|_=>aE
theorem Zi{d:Data}(h:Fb d):∃n,d=.seq #[.none] n:=by
 cases d with
 |seq xs n=>
  obtain⟨l⟩:=xs;unfold Fb at h;simp only[]at h;split at h;rename_i v;cases v<;>first|exact⟨n,rfl⟩|cases h
  cases h
 |_=>cases h
theorem Zj{K:aK}{v:aa}(h:fW K v):∃t o n,v=.ref t/\K.lookup t=aD o/\o.data=.seq #[.none] n:=by
 cases v with
 |ref t=>
  have h:(match K.lookup t with|some o=>Fb o.data|none=>false)=true:=h;cases e:K.lookup t with
  |none=>rw[e]at h;cases h
  |some o=>
   rw[e]at h;obtain⟨n,q⟩:=Zi h;exact⟨t,o,n,rfl,e,q⟩
 |_=>cases h
noncomputable def xm(ps:List Str)(sc:aA):List Str:=ps++(sc.names.filter λy=>(y.2 == .local||y.2 == .cell) && !(ps.contains y.1)).map (·.1)
noncomputable def Ff(N ps:List Str)(sc:aA):Bool:=
 decide (sc.kind=.function) && !sc.isCoroutine && !sc.isGenerator&&decide N.Nodup&&decide (N.take ps.length=ps)&&ps.all (λx=>decide (sc.names.lookup x=aD .local\/sc.names.lookup x=aD .cell))&&sc.names.all (λy=>decide (y.2≠.free))&&decide ps.Nodup
theorem Zk{N ps:List Str}{sc:aA}(h:Ff N ps sc):cR N ps sc/\ps.Nodup:=by unfold Ff at h;simp only[bE,fj,nH,tT]at h;obtain⟨⟨⟨⟨⟨⟨⟨h1,h2⟩,h3⟩,h4⟩,h5⟩,h6⟩,h7⟩,h8⟩:=h;exact⟨⟨h1,h2,h3,h4,h5,h6,h7⟩,h8⟩
noncomputable def iO(x:Str):Str:=x
noncomputable def cF(K:aK)(T:List Str)(d n:Nat)(x:Str):Option Fn:=match fnAt K x with
 |some (f,o,fd)=>(match wY fd.params,Jt fd.body with
  |some args,aD body=>if fd.name==iO x&&fd.qualname==x&&Nat.beq fd.globals mainGlobals&&fd.closure.isEmpty&& (isNone fd.defaults||fW K fd.defaults && !args.isEmpty)&&Nat.beq fd.builtins builtinsNs&&PySem.W.codeIn K fd.code x&&PySem.W.keepIn K (.ref f) &&
   Ff (xm (args.map (·.arg)) fd.scope) (args.map (·.arg)) fd.scope then
   (pA (cS K T d n ⟨xm (args.map (·.arg)) fd.scope,fd.scope.names,true⟩) body).map λb=>⟨(args.map (·.arg)).length,(xm (args.map (·.arg)) fd.scope).length,b⟩
   else aE
  |_,_=>aE)
 |none=>aE
theorem Zl{fd:av}{x:Str}{args:List Arg}{body:List au}(c1:(fd.name==iO x))(c2:(fd.qualname==x))(c3:Nat.beq fd.globals mainGlobals)(c4:fd.closure.isEmpty)(c6:Nat.beq fd.builtins builtinsNs)(ha:wY fd.params=aD args)(hb:Jt fd.body=aD body) :
 ∃dx,fd=PySem.W.fnOf (iO x) x ⟨[],args,aE,[],[],aE,dx⟩ body fd.scope fd.defaults fd.kwdefaults fd.doc fd.pyModule fd.annotations fd.code fd.closureTuple:=by
 obtain⟨nm,qn,pr,bd,sc,gl,cl,df,kd,dc,pm,an,cdv,ct,bu⟩:=fd;have e1:nm=iO x:=by simpa using c1
 have e2:qn=x:=by simpa using c2
 have e3:gl=mainGlobals:=zm c3;have e4:cl=[]:=by simpa using c4
 have e6:bu=builtinsNs:=zm c6;have e7:bd=.stmts body:=by
  cases bd with|stmts b'=>cases hb;rfl|expr _=>cases hb
 obtain⟨dx,e8⟩:∃dx,pr=⟨[],args,aE,[],[],aE,dx⟩:=by unfold wY at ha;split at ha;cases ha;rename_i z;exact⟨_,z⟩;cases ha
 exact⟨dx,by rw[e1,e2,e3,e4,e6,e7,e8]⟩
theorem Zm{K:aK}{x:Str}{fd:av}{args:List Arg}{body:List au}{dx:List ao}{sc:aA}{df kd dc pm:aa}{an:Option ah}{cdv ct:aa}{b:Bool}(e:fd=PySem.W.fnOf (iO x) x ⟨[],args,aE,[],[],aE,dx⟩ body sc df kd dc pm an cdv ct)(nd:(args.map (·.arg)).Nodup)
 (hb:b=fW K df) (c5:(isNone df||fW K df && !args.isEmpty)):Binds K fd (args.map (·.arg)) []/\(b=true->Binds K fd (args.map (·.arg)) [.none])/\(b=false->∀us:List aa,us.length=(args.map (·.arg)).length->bindArgs fd ⟨us,[]⟩=pure ((args.map (·.arg)).zip us)):=by
 subst e hb;rw[pY,bE]at c5;rcases c5 with c5|⟨c5,c0⟩
 have e5:df=.none:=by cases df<;>first|rfl|cases c5
 subst e5;exact⟨.all λus hl=>P4 hl nd,(λz=>nomatch z),λ_ us hl=>P4 hl nd⟩;obtain⟨t,o,n,rfl,hk,hd⟩:=Zj c5;rw[c5];obtain⟨qs,z,Cv⟩:∃qs z,args.map (·.arg)=qs++[z]:=by rcases List.eq_nil_or_concat (args.map (·.arg))with q|⟨l,b,q⟩;rw[List.map_eq_nil_iff.mp q]at c0;cases c0;exact⟨l,b,by rw[q,List.concat_eq_append]⟩
 have Ju:=nd;rw[Cv]at Ju;refine⟨λs us hK hl=>?_,λ_ s us hK hl=>?_,λz=>nomatch z⟩;rw[nI]at hl ⊢;rw[Cv]at hl ⊢;exact YF Cv Ju (hK _ _ hk) hd hl;rw[Cv]at hl ⊢;exact YG Cv Ju (hK _ _ hk) hd (by rw[eW,eW]at hl;simpa using hl)
theorem Zn{K:aK}{x:Str}{f:ah}{o:Obj}{fd:av}(h:fnAt K x=aD (f,o,fd)):fV K x=aD f/\∃oc od sl,K.lookup f=aD ⟨oc,od,.func fd,sl⟩:=by unfold fnAt at h;split at h;rename_i f' hn;split at h;rename_i o' ho;split at h;rename_i fd' hd;cases h;refine⟨hn,o.cls,o.dict,o.slots,?_⟩;rw[<-hd];exact ho;cases h;cases h;cases h
theorem Zo{K:aK}{T:List Str}{d n:Nat}{x:Str}{fn:Fn}:∀(f:ah) (o:Obj) (fd:av) (args:List Arg) (body:List au) (b:S),fnAt K x=aD (f,o,fd)->wY fd.params=aD args->Jt fd.body=aD body->(fd.name==iO x&&fd.qualname==x&&Nat.beq fd.globals mainGlobals&&fd.closure.isEmpty&& (isNone fd.defaults||fW K fd.defaults && !args.isEmpty)&&Nat.beq fd.builtins builtinsNs&&PySem.W.codeIn K fd.code x&&PySem.W.keepIn K (.ref f) &&
 Ff (xm (args.map (·.arg)) fd.scope) (args.map (·.arg)) fd.scope)=true->pA (cS K T d n ⟨xm (args.map (·.arg)) fd.scope,fd.scope.names,true⟩) body=aD b->fn=⟨(args.map (·.arg)).length,(xm (args.map (·.arg)) fd.scope).length,b⟩->∃f fd st ps N,fV K x=aD f/\o9 K (iO x) x st f fd/\cR N ps (jj st)/\fn.n=N.length/\fn.ps=ps.length/\(Binds K fd ps []/\(gD K x=true->Binds K fd ps [.none])/\(gD K x=false->∀us:List aa,us.length=ps.length->bindArgs fd ⟨us,[]⟩=pure (ps.zip us)))/\
 pA (cS K T d n ⟨N,(jj st).names,true⟩) (AG st)=aD fn.body/\∃o' fd' args,fnAt K x=aD (f,o',fd')/\wY fd'.params=aD args/\ps=args.map (·.arg):=by
 intro f o fd args body b hf ha hb hc h1 e;rw[bE,bE,bE,bE,bE,bE,bE,bE]at hc;obtain⟨⟨⟨⟨⟨⟨⟨⟨c1,c2⟩,c3⟩,c4⟩,c5⟩,c6⟩,c7⟩,c8⟩,c9⟩:=hc;obtain⟨S,nd⟩:=Zk c9;obtain⟨hn,oc,od,sl,lk⟩:=Zn hf;obtain⟨dx,ef⟩:=Zl c1 c2 c3 c4 c6 ha hb;have hh:gD K x=fW K fd.defaults:=by unfold gD;rw[hf]
 exact⟨f,fd,.FunctionDef (iO x) ⟨[],args,aE,[],[],aE,dx⟩ body [] aE [] fd.scope aE (iO x) ⟨0,0,0,0⟩,args.map (·.arg),xm (args.map (·.arg)) fd.scope,hn,⟨⟨oc,od,_,_,_,_,_,fd.code,_,sl,ef,lk,c7⟩,c8⟩,S,by rw[e],by rw[e],Zm ef nd hh c5,by rw[e];exact h1,o,fd,args,hf,ha,rfl⟩
theorem pC{K:aK}{T:List Str}{d n:Nat}{x:Str}{fn:Fn}(h:cF K T d n x=aD fn):∃f fd st ps N,fV K x=aD f/\o9 K (iO x) x st f fd/\cR N ps (jj st)/\fn.n=N.length/\fn.ps=ps.length/\(Binds K fd ps []/\(gD K x=true->Binds K fd ps [.none])/\(gD K x=false->∀us:List aa,us.length=ps.length->bindArgs fd ⟨us,[]⟩=pure (ps.zip us)))/\
 pA (cS K T d n ⟨N,(jj st).names,true⟩) (AG st)=aD fn.body/\∃o' fd' args,fnAt K x=aD (f,o',fd')/\wY fd'.params=aD args/\ps=args.map (·.arg):=by
 unfold cF at h;split at h;rename_i f o fd hf;split at h;rename_i args body ha hb;split at h;rename_i hc;obtain⟨b,h1,e⟩:=map_some h;exact Zo f o fd args body b hf ha hb hc h1 e;cases h;cases h;cases h
theorem Fg{α β:Type}{f:α->Option β}:∀{l:List α} {r:List β},aV f l=aD r->∀(i:Nat) (a:α),l[i]?=aD a->∃b,r[i]?=aD b/\f a=aD b
 |[],_,_,i,a,e=>by simp at e
 |x::l,r,h,i,a,e=>by
  unfold aV at h;split at h;rename_i b hb;split at h;rename_i bs Cm;cases h;cases i with
  |zero=>simp at e;subst e;exact⟨b,rfl,hb⟩
  |succ i=>
   obtain⟨c,h1,h2⟩:=Fg Cm i a (by simpa using e);exact⟨c,by simpa using h1,h2⟩
  cases h;cases h
noncomputable def Jv(K:aK)(T:List Str)(d n:Nat)(x:Str):Option Fn:=if x==("" : Str)then aD ⟨0,0,.no⟩else cF K T d n x
theorem Jw{K:aK}{T:List Str}{d n:Nat}{x:Str}{fn:Fn}(h:Jv K T d n x=aD fn)(hx:x≠""):cF K T d n x=aD fn:=by unfold Jv at h;rw[if_neg (by simpa using hx)]at h;exact h
noncomputable def ja(K:aK)(T:List Str)(d n:Nat):Option (List Fn):=aV (Jv K T d n) T
theorem QA{P:ai}{w:aj}{K:aK}{mg:Str->Option aa}{base:aB}{T:List Str}{Fs:List Fn}{k:Nat}(KX:K.In base)(G:base.Ns mainGlobals mg){x:Str}{st:au}{f:ah}{N ps:List Str}(S:cR N ps (jj st))
 (H0:∀(i:Nat)(x:Str),T[i]?=aD x->x≠""->∃f fd ps fn,fV K x=aD f/\fE P w K mg base lI k f fd ps (oW K ps.length (run (λi=>Fs[i]?) k i))/\PySem.W.keepIn K (.ref f)=true/\Binds K fd ps []/\Fs[i]?=aD fn/\fn.ps=ps.length/\(gD K x=true->Binds K fd ps [.none]))
 (cdv:aa) (A:ak) (outer:List Env) (s:af) (H:Hp) (E:XK) (hr:cM k (A.deeper (envOfC x (jj st) s.heap.objs.size f cdv))):iF (jO lI P w K mg base N x (jj st) f cdv A outer s H E).yC ⟨N,(jj st).names,true⟩ T (λi=>Fs[i]?) k:=by
 refine⟨rfl,S.nd,λy hy=>?_,λy hy=>?_,λy hy=>hy,λy hy=>hy,rfl,hr,rfl,S.kind,λy v hv=>PySem.W.mg_of KX G hv,λy hv=>PySem.W.mg_none_of KX G hv,H0⟩;have hy:sD ((jj st).names.lookup y)=true:=hy;cases z:(jj st).names.lookup y with
 |none=>rw[z]at hy;cases hy
 |some kd=>cases kd<;>first|exact .inl z|exact .inr (.inl z)|exact .inr (.inr z)|(rw[z]at hy;cases hy)
 have hy:sE true ((jj st).names.lookup y)=true:=hy;cases z:(jj st).names.lookup y with
 |none=>rw[z]at hy;cases hy
 |some kd=>cases kd<;>first|exact⟨.inl z,.inl rfl⟩|exact⟨.inr z,.inl rfl⟩|(rw[z]at hy;cases hy)
theorem Zp{P:ai}{w:aj}{K:aK}{mg:Str->Option aa}{base:aB}{T:List Str}{d n:Nat}{Fs:List Fn}(hP:ja K T d n=aD Fs)(KX:K.In base)(G:base.Ns mainGlobals mg)(k:Nat):∀(j:Nat),j<=k->∀(i:Nat) (x:Str),T[i]?=aD x->x≠""->
 ∃f fd ps fn,fV K x=aD f/\fE P w K mg base lI j f fd ps (oW K ps.length (run (λi=>Fs[i]?) j i))/\PySem.W.keepIn K (.ref f)=true/\Binds K fd ps []/\Fs[i]?=aD fn/\fn.ps=ps.length/\(gD K x=true->Binds K fd ps [.none]):=by
 induction k with
 |zero=>
  intro j hj i x e hx;have:j=0:=Nat.le_zero.mp hj;subst this;obtain⟨fn,h1,h2⟩:=Fg hP i x e;obtain⟨f,fd,st,ps,N,a1,a2,a3,a4,a5,a6,a7,_⟩:=pC (Jw h2 hx);exact⟨f,fd,ps,fn,a1,Qc,a2.kp,a6.1,h1,a5,a6.2.1⟩
 |succ k ih=>
  intro j hj i x e hx;by_cases hjk:j<=k;exact ih j hjk i x e hx;have:j=k+1:=by lia
  subst this;obtain⟨fn,h1,h2⟩:=Fg hP i x e;obtain⟨f,fd,st,ps,N,a1,a2,a3,a4,a5,a6,a7,_⟩:=pC (Jw h2 hx);exact⟨f,fd,ps,fn,a1,Qa (F:=λi=>Fs[i]?) h1 a2 a3 a4 a5 λcdv A outer s H E hr=>xj (pB (QA KX G a3 (λj y hj hy=>ih k (aT _) j y hj hy) cdv A outer s H E hr) n) a7,a2.kp,a6.1,h1,a5,a6.2.1⟩
noncomputable def Cw:Res W->Bool|.ok (.bl true) _=>true|_=>false
noncomputable def says(K:aK)(T:List Str)(d n k i:Nat)(ns:List Int):Bool:=match ja K T d n with|some Fs=>Cw (run (λi=>Fs[i]?) k i [.fz (ns.map .int)] ⟨0,0,[]⟩)|none=>false
theorem Zq{r:Res W}(h:Cw r):∃h',r=.ok (.bl true) h':=by
 cases r with
 |no=>cases h
 |ex _ _=>cases h
 |ok w h'=>cases w<;>first|(rename_i b;cases b<;>first|exact⟨h',rfl⟩|cases h)|cases h
theorem QB{K:aK}{m:Nat->ah}{n:Nat}{H:Hp}:∀(ns:List Int),aG K m n H (ns.map V.int) (ns.map W.int)|[]=>.nil|i::r=>.cons (.int i) (QB r)
theorem QC{K:aK}{T:List Str}{d n k i:Nat}{ns:List Int}(h:says K T d n k i ns):∃Fs h',ja K T d n=aD Fs/\run (λi=>Fs[i]?) k i [.fz (ns.map .int)] ⟨0,0,[]⟩=.ok (.bl true) h':=by unfold says at h;split at h;rename_i Fs hF;obtain⟨h',e⟩:=Zq h;exact⟨Fs,h',hF,e⟩;cases h
theorem Zr{K:aK}{T:List Str}{d n k i:Nat}{ns:List Int}{Fs:List Fn}(hP:ja K T d n=aD Fs)(h:Cw (run (λi=>Fs[i]?) k i [.fz (ns.map .int)] ⟨0,0,[]⟩)):says K T d n k i ns=true:=by unfold says;rw[hP];exact h
noncomputable def pD(K:aK)(x:Str):Bool:=match fnAt K x with
 |some (_,_,fd)=>(match wY fd.params with
  |some [a]=>a.arg==("_law_script" : Str) && !(fW K fd.defaults)
  |_=>false)
 |none=>false
theorem Zs{l:PySem.W.OpenLaw}{q:ai}{loose:List Str}{XP:(Str->Option aa)->aB->Prop}{YP:aj->aB->Prop}{dr:DefRec}{K:Params->aK}(T:List Str)(d n k i:Nat)(hn:l.most=aD 63)(hdf:dr.params.defaults=[])(hr:cM k callerA)
 (hY:∀(w:aj)(h:aB),YP w h->(K w.params).In h) (hT:T[i]?=aD dr.name) (hne:dr.name≠"") (hS:∀(w:aj)(ns:List Int),ns.length<=63->says (K w.params) T d n k i ns) (hL:∀w:aj,pD (K w.params) dr.name) :
 PySem.W.WalkO q loose XP YP l.row.toRowW dr [] (λf vs=>PySem.call f vs):=by
 have any:∀w:aj,∃Fs,ja (K w.params) T d n=aD Fs:=λw=>let⟨Fs,_,h,_⟩:=QC (hS w [] (gf _));⟨Fs,h⟩;refine L2.UQ (n:=63) (k:=k) (x:="_law_script") (CX:=λ_=>lI) (sp:=λw=>oW (K w.params) 1 (run (λj=>(Classical.choose (any w))[j]?) k i)) hn (by decide) hdf hr hY ?_ ?_ λ_ _ _ _ _ z=>z;intro w mg fa h KX G hmg;have hP:=Classical.choose_spec (any w);obtain⟨fn',h1,h2⟩:=Fg hP i _ hT;obtain⟨f',fd',st,ps',N,a1,a2,a3,a4,a5,a6,a7,o',Zt,args,a8,a9,Jx⟩:=pC (Jw h2 hne);have hps:ps'=[("_law_script" : Str)]:=by
  have hl:=hL w;unfold pD at hl;rw[a8]at hl;simp only[a9]at hl;cases args with
  |nil=>cases hl
  |cons z zs=>
   cases zs with
   |nil=>
    rw[bE]at hl;have hl:z.arg = "_law_script":=by simpa using hl.1
    rw[Jx,gQ,hl];rfl
   |cons _ _=>cases hl
 have hnd:gD (K w.params) dr.name=false:=by have hl:=hL w;unfold pD at hl;rw[a8]at hl;unfold gD;rw[a8];simp only[a9]at hl;split at hl;rw[bE]at hl;simpa using hl.2;cases hl
 have e:=PySem.W.mg_of KX G (Qd a1);rw[hmg]at e;cases e;subst hps;refine⟨fd',λs u=>.of_eq (a6.2.2 hnd [u] rfl),λbase KB GB=>?_⟩;cases k with|zero=>exact Qc|succ k=>exact Qa (F:=λj=>(Classical.choose (any w))[j]?) h1 a2 a3 a4 a5 λcdv A outer s H E hr=>xj (pB (QA KB GB a3 (λj y hj hy=>Zp hP KB GB k k (aT _) j y hj hy) cdv A outer s H E hr) n) a7
 intro w H a ns hl hO hQ;obtain⟨Fs,h',e1,e2⟩:=QC (hS w ns hl);have hP:=Classical.choose_spec (any w);rw[hP]at e1;cases e1;refine⟨rfl,⟨0,0,[]⟩,λ_=>0,_,_,h',⟨λi hi=>absurd hi (Nat.not_lt_zero _),λi j hi=>absurd hi (Nat.not_lt_zero _),rfl⟩,.cons (.fz ?_ (QB ns)) .nil,e2,λv H' m' _ _ q=>by cases q;rfl⟩;rcases hQ with(q|⟨o,q⟩)|q
 rcases hO a with z|⟨o,xs,z⟩;rw[z]at q;cases q;rw[z]at q;cases q;exact .inl ⟨o,q⟩;exact .inr q
section
open E renaming var->v,cons->c,cst->k,nil->n,call->f,idx->x,cmp->p,bi->b,op->o,not->z,and->a,or->r,jo->t,rT->i,slc->l,lst->m,lc->u,neg->y,mt->w
open S renaming seq->q,skip->s,ret->e,set->d,Bv->g,expr->h,put->j
noncomputable def Fi:Fn:=⟨1,1,(q (e (a (i .int (v 0)) (z (i .bool (v 0))))) s)⟩
noncomputable def Jy:Fn:=⟨3,3,(q (e (a (f 0 (c (v 0) n)) (.wI .le .le (v 1) (v 0) (v 2)))) s)⟩
noncomputable def Fj:Fn:=⟨2,2,(q (.ite (p .eq (b .len (c (v 0) n)) (k (.int 0))) (q (e (o .add (o .mul (k (.int 7)) (v 1)) (k (.int 3)))) s) s) (q (e (b .abs (c (x (v 0) (o .mod (v 1) (b .len (c (v 0) n)))) n))) s))⟩
noncomputable def uJ:E:=(p .ge (b .abs (c (v 0) n)) (o .pow (k (.int 10)) (k (.int 18))))
noncomputable def uK:E:=(b .abs (c (v 0) n))
noncomputable def Cy:Fn:=⟨1,1,(q (e (m (c (v 0) (c (u .seq (v 0) (.one 0) 1 [] uJ uK) (c (k (.int 0)) (c (k (.int 0)) n)))))) s)⟩
noncomputable def Jz:Fn:=⟨3,4,(q (d 3 (o .mod (o .pow (o .add (o .mul (o .add (o .mod (f 2 (c (v 0) (c (v 1) n))) (k (.int 1000003))) (k (.int 5))) (o .add (v 1) (k (.int 2)))) (o .mul (k (.int 7919)) (v 1))) (k (.int 5))) (k (.int 2147483647)))) (q (e (o .mod (o .fdiv (v 3) (k (.int 13))) (v 2))) s))⟩
noncomputable def Cz:E:=(p .lt (x (v 0) (k (.int 2))) (b .len (c (x (v 0) (k (.int 1))) n)))
noncomputable def xo:S:=(q (d 2 (x (x (v 0) (k (.int 1))) (x (v 0) (k (.int 2))))) (q (.ite (p .gt (v 2) (k (.int 0))) (q (j (x (v 0) (k (.int 1))) (x (v 0) (k (.int 2))) (o .fdiv (v 2) (v 1))) (q (e (o .mod (v 2) (v 1))) s)) s) (q (j (v 0) (k (.int 2)) (o .add (x (v 0) (k (.int 2))) (k (.int 1)))) s)))
noncomputable def sG:Fn:=⟨2,3,(q (.EU Cz xo) (q (j (v 0) (k (.int 3)) (o .add (x (v 0) (k (.int 3))) (k (.int 1)))) (q (e (f 4 (c (x (v 0) (k (.int 0))) (c (x (v 0) (k (.int 3))) (c (v 1) n))))) s)))⟩
noncomputable def CA:Fn:=⟨3,3,(q (e (a (i .tuple (v 0)) (.wI .le .le (v 1) (b .len (c (v 0) n)) (v 2)))) s)⟩
noncomputable def Fo:S:=(q (.ite (z (t (f 1 (c (v 5) (c (v 3) (c (v 4) n)))))) (q (e (k (.bl false))) s) s) s)
noncomputable def CB:Fn:=⟨5,6,(q (.ite (z (t (f 6 (c (v 0) (c (v 1) (c (v 2) n)))))) (q (e (k (.bl false))) s) s) (q (.«for» .seq (v 0) (.one 5) Fo) (q (e (k (.bl true))) s)))⟩
noncomputable def Fp:S:=(q (.ite (z (t (f 11 (c (v 3) (c (v 2) n))))) (q (e (k (.bl false))) s) s) s)
noncomputable def JA:Fn:=⟨3,4,(q (.ite (z (t (f 6 (c (v 0) (c (v 1) (c (v 1) n)))))) (q (e (k (.bl false))) s) s) (q (.«for» .seq (v 0) (.one 3) Fp) (q (e (k (.bl true))) s)))⟩
noncomputable def Fq:S:=(q (.ite (z (t (f 6 (c (v 2) (c (v 1) (c (v 1) n)))))) (q (e (k (.bl false))) s) s) s)
noncomputable def JB:Fn:=⟨2,3,(q (.ite (z (t (f 6 (c (v 0) (c (k (.int 0)) (c (k (.int 60)) n)))))) (q (e (k (.bl false))) s) s) (q (.«for» .seq (v 0) (.one 2) Fq) (q (e (k (.bl true))) s)))⟩
noncomputable def xq:Fn:=⟨1,6,(q (.ite (z (t (f 6 (c (v 0) (c (k (.int 5)) (c (k (.int 5)) n)))))) (q (e (k (.bl false))) s) s) (q (g [1,2,3,4,5] (v 0)) (q (.ite (r (z (t (f 1 (c (v 1) (c (k (.int 1)) (c (k (.int 40)) n)))))) (z (t (f 1 (c (v 2) (c (k (.int 0)) (c (k (.int 8)) n))))))) (q (e (k (.bl false))) s) s) (q (.ite (z (t (f 7 (c (v 4) (c (k (.int 1)) (c (k (.int 4)) (c (k (.int 0)) (c (o .sub (v 1) (k (.int 1))) n)))))))) (q (e (k (.bl false))) s) s) (q (e (a (f 9 (c (v 3) (c (v 1) n))) (f 8 (c (v 5) (c (v 1) (c (b .len (c (v 4) n)) n)))))) s)))))⟩
noncomputable def sH:Fn:=⟨2,4,(q (.ite (z (t (f 6 (c (v 0) (c (k (.int 2)) (c (k (.int 2)) n)))))) (q (e (k (.bl false))) s) s) (q (g [2,3] (v 0)) (q (e (a (f 1 (c (v 2) (c (k (.int 0)) (c (k (.int 99)) n)))) (f 12 (c (v 3) (c (v 1) n))))) s)))⟩
noncomputable def xr:Fn:=⟨2,2,(q (e (r (p .oO (v 0) (k .aQ)) (f 1 (c (v 0) (c (k (.int 0)) (c (o .sub (v 1) (k (.int 1))) n)))))) s)⟩
noncomputable def sI:Fn:=⟨2,4,(q (.ite (z (t (f 6 (c (v 0) (c (k (.int 2)) (c (k (.int 2)) n)))))) (q (e (k (.bl false))) s) s) (q (g [2,3] (v 0)) (q (e (a (f 1 (c (v 2) (c (k (.int 0)) (c (o .sub (v 1) (k (.int 1))) n)))) (f 1 (c (v 3) (c (k (.int 0)) (c (k (.int 1)) n)))))) s)))⟩
noncomputable def Ft:S:=(q (.ite (z (t (f 15 (c (v 7) (c (v 6) (c (v 1) (c (v 2) n))))))) (q .no s) s) s)
noncomputable def Fv:S:=(q (.«for» .ql (v 5) (.many [6,7]) Ft) s)
noncomputable def xu:Fn:=⟨1,8,(q (.ite (z (t (f 10 (c (v 0) n)))) (q .no s) s) (q (g [1,2,3] (l (v 0) false (k .aQ) true (k (.int 3)))) (q (.«for» .ql (v 3) (.many [4,5]) Fv) s)))⟩
noncomputable def xw:Fn:=⟨4,4,(q (.ite (r (p .eq (v 0) (k (.str (bw "x")))) (t (f 13 (c (v 0) (c (v 3) n))))) (q (e (.wI .lt .lt (k (.int 0)) (v 1) (o .sub (v 2) (k (.int 1))))) s) s) (q (.ite (p .eq (v 0) (k (.str (bw "<")))) (q (e (p .gt (v 1) (k (.int 0)))) s) s) (q (.ite (p .eq (v 0) (k (.str (bw ">")))) (q (e (p .lt (v 1) (o .sub (v 2) (k (.int 1))))) s) s) (q (e (r (p .eq (v 0) (k (.str (bw ".")))) (p .eq (v 0) (k (.str (bw "s")))))) s))))⟩
noncomputable def xx:Fn:=⟨2,4,(q (d 2 (x (m (c (f 5 (c (v 0) (c (k (.int 3)) n))) (c (f 5 (c (v 0) (c (k (.int 100)) n))) n))) (b .int (c (p .eq (f 5 (c (v 0) (c (k (.int 4)) n))) (k (.int 0))) n)))) (q (d 3 (f 5 (c (v 0) (c (v 1) n)))) (q (.ite (p .eq (f 5 (c (v 0) (c (k (.int 8)) n))) (k (.int 0))) (q (e (.tup (c (v 2) (c (k .aQ) n)))) s) s) (q (e (.tup (c (v 2) (c (v 3) n)))) s))))⟩
noncomputable def sJ:Fn:=⟨2,2,(q (e (f 7 (c (v 0) (c (v 1) (c (v 1) (c (k (.int 0)) (c (k (.int 1)) n))))))) s)⟩
noncomputable def Fw:E:=(f 5 (c (v 1) (c (k (.int 2)) n)))
noncomputable def pF:Fn:=⟨2,2,(q (e (b .tuple (c (u .bG (c (v 1) n) (.one 0) 1 [0] (k (.bl true)) Fw) n))) s)⟩
noncomputable def pG:Fn:=⟨2,2,(q (h (f 14 (c (v 0) n))) (q (e (f 17 (c (v 1) (c (x (v 0) (k (.int 1))) n)))) s))⟩
noncomputable def sL:Fn:=⟨2,2,(q (.ite (z (t (f 22 (c (v 0) (c (v 1) n))))) (q .no s) s) s)⟩
noncomputable def sM:Fn:=⟨3,3,(q (e (f 7 (c (v 0) (c (k (.int 0)) (c (v 2) (c (k (.int 0)) (c (o .sub (v 1) (k (.int 1))) n))))))) s)⟩
noncomputable def j9:Fn:=⟨4,6,(q (d 4 (f 5 (c (v 0) (c (k (.int 10)) n)))) (q (d 5 (x (m (c (k (.str (bw "."))) (c (k (.str (bw "<"))) (c (k (.str (bw ">"))) (c (k (.str (bw "x"))) (c (k (.str (bw "."))) (c (k (.str (bw "."))) n))))))) (b .min (c (v 4) (c (k (.int 5)) n))))) (q (.ite (a (p .gt (v 4) (k (.int 4))) (p .gt (v 3) (k (.int 0)))) (q (d 5 (.tup (c (f 5 (c (v 0) (c (v 3) n))) (c (f 5 (c (v 0) (c (k (.int 2)) n))) n)))) s) s) (q (.ite (a (p .eq (v 4) (k (.int 4))) (p .eq (f 5 (c (v 0) (c (k (.int 4)) n))) (k (.int 0)))) (q (e (k (.str (bw "s")))) s) s) (q (.ite (r (a (p .eq (v 1) (k (.int 0))) (p .wG (v 5) (.tup (c (k (.str (bw "."))) (c (k (.str (bw ">"))) n))))) (a (p .eq (v 1) (o .sub (v 2) (k (.int 1)))) (p .wG (v 5) (.tup (c (k (.str (bw "."))) (c (k (.str (bw "<"))) n)))))) (q (e (x (m (c (k (.str (bw ">"))) (c (k (.str (bw "<"))) (c (k (.str (bw "."))) n)))) (b .min (c (o .add (b .int (c (p .gt (v 1) (k (.int 0))) n)) (o .mul (k (.int 2)) (b .int (c (p .eq (v 2) (k (.int 1))) n)))) (c (k (.int 2)) n))))) s) s) (q (.ite (a (p .eq (v 2) (k (.int 1))) (p .ne (v 5) (k (.str (bw "."))))) (q (e (k (.str (bw ".")))) s) s) (q (e (v 5)) s)))))))⟩
noncomputable def Fx:E:=(f 103 (c (v 1) (c (v 0) (c (v 3) (c (v 2) n)))))
noncomputable def l9:Fn:=⟨3,3,(q (e (b .tuple (c (u .bG (c (v 1) n) (.one 0) 1 [0,2,1] (k (.bl true)) Fx) n))) s)⟩
noncomputable def QD:E:=(f 151 (c (v 0) (c (v 1) n)))
noncomputable def jb:Fn:=⟨2,2,(q (.ite (r (z (t (i .tuple (v 0)))) (p .ne (b .len (c (v 0) n)) (b .len (c (v 1) n)))) (q (e (k (.bl false))) s) s) (q (e (b .all (c (u .zip (c (v 0) (c (v 1) n)) (.many [0,1]) 2 [] (k (.bl true)) QD) n))) s))⟩
noncomputable def iG:Fn:=⟨2,2,(q (e (a (i .int (v 0)) (a (z (i .bool (v 0))) (p .eq (v 0) (v 1))))) s)⟩
noncomputable def dN:Fn:=⟨4,7,(q (.ite (t (i .tuple (v 0))) (q (g [4,5] (v 0)) (q (d 6 (x (v 2) (v 4))) (q (.ite (p .ne (v 4) (v 3)) (q (j (v 2) (v 4) (o .sub (k (.int 1)) (v 6))) s) s) (q (e (.ite (p .eq (v 6) (v 5)) (k (.int (-1))) (k (.int 1)))) s)))) s) (q (.ite (p .eq (v 0) (k (.str (bw "s")))) (q (e (k .aQ)) s) s) (q (.ite (p .eq (v 0) (k (.str (bw "x")))) (q (e (v 1)) s) s) (q (.ite (p .eq (v 0) (k (.str (bw ".")))) (q (e (k (.int 0))) s) s) (q (e (.ite (p .eq (v 0) (k (.str (bw "<")))) (k (.int (-1))) (k (.int 1)))) s)))))⟩
noncomputable abbrev CD:E:=.Bu (c (k (.str (bw "."))) (c (k (.int 0)) (c (k (.str (bw "<"))) (c (y (k (.int 1))) (c (k (.str (bw ">"))) (c (k (.int 1)) n))))))
noncomputable def fX:Fn:=⟨3,4,(q (.ite (r (p .eq (v 0) (k (.str (bw ".")))) (r (p .eq (v 0) (k (.str (bw "<")))) (p .eq (v 0) (k (.str (bw ">")))))) (q (e (x (.Bu (c (k (.str (bw "."))) (c (k (.int 0)) (c (k (.str (bw "<"))) (c (y (k (.int 1))) (c (k (.str (bw ">"))) (c (k (.int 1)) n))))))) (v 0))) s) s) (q (.ite (p .eq (v 0) (k (.str (bw "x")))) (q (e (v 2)) s) s) (q (d 3 (o .sub (k (.int 1)) (o .mul (k (.int 2)) (b .int (c (p .eq (x (v 1) (x (v 0) (k (.int 0)))) (x (v 0) (k (.int 1)))) n))))) (q (j (v 1) (x (v 0) (k (.int 0))) (o .sub (k (.int 1)) (x (v 1) (x (v 0) (k (.int 0)))))) (q (e (v 3)) s)))))⟩
noncomputable def mh:E:=r (p .eq (v 0) (k (.str (bw ".")))) (r (p .eq (v 0) (k (.str (bw "<")))) (p .eq (v 0) (k (.str (bw ">")))))
noncomputable def CF:S:=(q (.ite (p .mV (x (v 9) (v 11)) (k .aQ)) (q (j (v 9) (v 11) (f 173 (c (x (x (v 4) (v 12)) (x (v 8) (v 11))) (c (x (v 9) (v 11)) (c (v 7) (c (k .aQ) n)))))) s) s) (q (.ite (p .mV (x (v 9) (v 11)) (k .aQ)) (q (.Bw (v 8) (v 11) (x (v 9) (v 11))) s) s) s))
noncomputable def JC:E:=(x (v 1) (v 0))
noncomputable def JD:E:=(k (.int 0))
noncomputable def Fy:E:=(.ite (p .oO (v 1) (k .aQ)) (k (.tup [.aQ,.aQ])) (x (v 2) (v 0)))
noncomputable def JE:E:=(x (v 0) (k (.int 0)))
noncomputable def mq:Fn:=⟨4,14,(q (h (f 24 (c (v 0) (c (v 1) n)))) (q (g [4,5,6] (l (v 0) true (k (.int 2)) false (k .aQ))) (q (.ite (z (t (f 28 (c (v 2) (c (b .len (c (v 5) n)) (c (k (.int 200)) n)))))) (q .no s) s) (q (.ite (z (t (f 1 (c (v 3) (c (k (.int 1)) (c (k (.int 100)) n)))))) (q .no s) s) (q (d 7 (b .list (c (v 1) n))) (q (d 8 (u .seq (v 2) (.one 0) 1 [5] (k (.bl true)) JC)) (q (d 9 (u .seq (v 2) (.one 0) 1 [] (k (.bl true)) JD)) (q (.«for» .seq (f 107 (c (b .len (c (v 2) n)) (c (b .len (c (v 4) n)) (c (v 3) n)))) (.many [10,11,12]) CF) (q (d 13 (u .zip (c (v 8) (c (v 9) n)) (.many [0,1]) 2 [6] (k (.bl true)) Fy)) (q (e (.tup (c (b .tuple (c (u .seq (v 13) (.one 0) 1 [] (k (.bl true)) JE) n)) (c (b .tuple (c (v 7) n)) n)))) s))))))))))⟩
noncomputable def xy:E:=(c (v 3) n)
noncomputable def yX:E:=(.tup (c (o .add (o .mul (v 0) (v 2)) (v 1)) (c (v 0) (c (v 1) n))))
noncomputable def mw:Fn:=⟨3,3,(q (e (b .Bt (c (.oQ .bG (c (v 0) n) (.one 0) 2 [2,1] (k (.bl true)) .bG xy (.one 1) (k (.bl true)) yX) n))) s)⟩
noncomputable def FA:E:=(m (c (x (x (v 1) (k (.int 3))) (v 0)) (c (k (.int 0)) (c (k (.bl false)) n))))
noncomputable def QE:E:=(.tup (c (o .add (o .mul (v 2) (v 1)) (v 0)) (c (v 2) (c (v 0) n))))
noncomputable def JF:S:=(q (d 6 (o .add (v 6) (u .bG (c (b .len (c (v 4) n)) n) (.one 0) 1 [3,7] (k (.bl true)) QE))) s)
noncomputable def xA:S:=(q (d 10 (x (v 5) (v 7))) (q (d 11 (x (x (v 4) (v 8)) (x (v 10) (k (.int 0))))) (q (.ite (p .eq (v 11) (k (.str (bw "s")))) (q (j (v 10) (k (.int 2)) (k (.bl true))) s) s) (q (.ite (z (t (x (v 10) (k (.int 2))))) (q (j (v 10) (k (.int 1)) (f 158 (c (v 11) (c (v 1) (c (x (v 10) (k (.int 1))) n))))) (q (j (v 10) (k (.int 0)) (o .add (x (v 10) (k (.int 0))) (x (v 10) (k (.int 1))))) s)) s) s))))
noncomputable def FD:E:=(.ite (t (x (v 0) (k (.int 2)))) (k .aQ) (x (x (x (v 1) (k (.int 4))) (x (v 0) (k (.int 0)))) (k (.int 0))))
noncomputable def pH:Fn:=⟨4,13,(q (d 4 (x (v 0) (k (.int 2)))) (q (d 1 (b .list (c (v 1) n))) (q (d 5 (u .seq (v 2) (.one 0) 1 [0] (k (.bl true)) FA)) (q (d 6 (m n)) (q (.«for» .bG (c (b .len (c (v 2) n)) n) (.one 7) JF) (q (.«for» .seq (b .Bt (c (v 6) n)) (.many [9,7,8]) xA) (q (d 12 (u .seq (v 5) (.one 0) 1 [0] (k (.bl true)) FD)) (q (e (m (c (v 12) (c (b .tuple (c (v 1) n)) n)))) s))))))))⟩
noncomputable def QF:E:=(f 153 (c (v 0) (c (v 1) n)))
noncomputable def kc:Fn:=⟨2,2,(q (.ite (r (z (t (i .tuple (v 0)))) (r (p .ne (b .len (c (v 0) n)) (k (.int 2))) (z (t (i .tuple (x (v 0) (k (.int 0)))))))) (q (e (k (.bl false))) s) s) (q (.ite (r (p .ne (b .len (c (x (v 0) (k (.int 0))) n)) (b .len (c (x (v 1) (k (.int 0))) n))) (z (t (f 140 (c (x (v 0) (k (.int 1))) (c (x (v 1) (k (.int 1))) n)))))) (q (e (k (.bl false))) s) s) (q (e (b .all (c (u .zip (c (x (v 0) (k (.int 0))) (c (x (v 1) (k (.int 0))) n)) (.many [0,1]) 2 [] (k (.bl true)) QF) n))) s)))⟩
noncomputable def je:Fn:=⟨2,2,(q (.ite (p .oO (v 1) (k .aQ)) (q (e (p .oO (v 0) (k .aQ))) s) s) (q (e (f 151 (c (v 0) (c (v 1) n)))) s))⟩
noncomputable def QG:E:=(f 5 (c (v 2) (c (b .len (c (x (v 1) (k (.int 3))) n)) n)))
noncomputable def FF:Fn:=⟨2,4,(q (d 2 (b .tuple (c (u .bG (c (o .add (k (.int 1)) (f 5 (c (v 0) (c (k (.int 20)) n)))) n) (.one 0) 1 [1,0] (k (.bl true)) QG) n))) (q (d 3 (x (m (c (k (.int 200)) (c (f 5 (c (v 0) (c (k (.int 201)) n))) n))) (f 5 (c (v 0) (c (k (.int 2)) n))))) (q (e (l (o .mul (v 2) (k (.int 200))) false (k .aQ) true (v 3))) s)))⟩
noncomputable def QH:E:=(f 104 (c (v 1) (c (k (.int 40)) (c (k (.int 8)) n))))
noncomputable def QI:E:=(f 5 (c (v 1) (c (k (.int 40)) n)))
noncomputable def QJ:E:=(f 23 (c (v 1) (c (b .len (c (v 2) n)) n)))
noncomputable def FG:Fn:=⟨1,3,(q (d 1 (b .tuple (c (u .bG (c (x (m (c (k (.int 60)) (c (o .add (k (.int 1)) (f 5 (c (v 0) (c (k (.int 60)) n)))) n))) (f 5 (c (v 0) (c (k (.int 2)) n)))) n) (.one 0) 1 [0] (k (.bl true)) QH) n))) (q (d 2 (b .tuple (c (u .bG (c (o .add (k (.int 1)) (f 5 (c (v 0) (c (k (.int 4)) n)))) n) (.one 0) 1 [0] (k (.bl true)) QI) n))) (q (e (.tup (c (k (.int 40)) (c (k (.int 8)) (c (v 1) (c (v 2) (c (b .tuple (c (u .bG (c (k (.int 40)) n) (.one 0) 1 [0,2] (k (.bl true)) QJ) n)) n))))))) s)))⟩
noncomputable def QK:E:=(.tup (c (x (k (.str (bw ".s"))) (b .int (c (p .eq (f 5 (c (v 1) (c (k (.int 9)) n))) (k (.int 0))) n))) n))
noncomputable def FH:Fn:=⟨1,2,(q (d 1 (b .tuple (c (u .bG (c (f 5 (c (v 0) (c (k (.int 9)) n))) n) (.one 0) 1 [0] (k (.bl true)) QK) n))) (q (e (.tup (c (k (.int 1)) (c (f 5 (c (v 0) (c (k (.int 9)) n))) (c (v 1) (c (o .mul (.tup (c (k (.int 0)) n)) (o .add (k (.int 1)) (f 5 (c (v 0) (c (k (.int 4)) n))))) (c (.tup (c (f 23 (c (v 0) (c (k (.int 1)) n))) n)) n))))))) s))⟩
noncomputable def FI:S:=(q (d 7 (f 20 (c (v 1) (c (x (v 5) (k (.int 1))) n)))) (q (d 8 (f 700 (c (v 1) (c (v 5) n)))) (q (h (w .append (v 3) (c (m (c (v 5) (c (v 7) (c (v 8) (c (v 6) n))))) n))) (q (h (w .append (v 3) (c (m (c (v 5) (c (v 7) (c (.tup n) (c (v 6) n))))) n))) s))))
noncomputable def CG:S:=(q (.ite (z (t (f 156 (c (f 270 (c (v 5) (c (v 7) (c (v 8) (c (v 6) n))))) (c (f 142 (c (v 5) (c (v 7) (c (v 8) (c (v 6) n))))) n))))) (q (e (k (.bl false))) s) s) s)
noncomputable def FJ:Fn:=⟨1,9,(q (d 1 (f 3 (c (v 0) n))) (q (d 2 (m (c (f 701 (c (v 1) n)) (c (f 702 (c (v 1) n)) n)))) (q (d 3 (m n)) (q (d 4 (m (c (o .add (k (.int 1)) (f 5 (c (v 1) (c (k (.int 60)) n)))) (c (k (.int 1)) (c (x (m (c (k (.int 1)) (c (k (.int 100)) n))) (f 5 (c (v 1) (c (k (.int 2)) n)))) n))))) (q (.«for» .zip (c (m (c (x (v 2) (k (.int 0))) (c (x (v 2) (k (.int 1))) (c (x (v 2) (k (.int 0))) n)))) (c (v 4) n)) (.many [5,6]) FI) (q (.«for» .seq (o .add (v 3) (l (v 3) false (k .aQ) true (k (.int 1)))) (.many [5,7,8,6]) CG) (q (e (k (.bl true))) s)))))))⟩
noncomputable def fM:Fn:=⟨0,0,.no⟩
end
noncomputable def fin(h:VH)(r:Res Fl):Res W:=r.bind λfl h'=>match fl with|.nx _=>leave h .aQ h'|.rt w=>leave h w h'|_=>.no
theorem dW{F:Nat->Option Fn}{k f:Nat}{fn:Fn}{ws:List W}{h:VH}(hF:F f=aD fn)(hl:ws.length=fn.ps) :
 run F (k+1) f ws h=fin h (exs (run F k) fn.body (ws.map aD++bD (fn.n-fn.ps) aE) ⟨h.n,h.n,h.os⟩):=by
 simp only[run,hF];rw[if_pos (by rw[hl];exact Nat.beq_refl _)];rfl
theorem QL{h:VH}{w:W}{h':VH}(h1:h.n<=h'.lo)(h2:W.lt h.n w):leave h w h'=.ok w h:=by unfold leave;rw[if_pos (by rw[bE];exact⟨qK.mpr h1,h2⟩)]
theorem dO{h h':VH}{w:W}(h1:h.n<=h'.lo)(h2:W.lt h.n w):fin h (.ok (.rt w) h')=.ok w h:=QL h1 h2
theorem QM{h h':VH}{ρ:En}(h1:h.n<=h'.lo):fin h (.ok (.nx ρ) h')=.ok .aQ h:=QL h1 (by simp only[W.lt])
@[simp] theorem aF {α β:Type} {a:α} {h:VH} {f:α->VH->Res β}:(Res.ok a h).bind f=f a h:=rfl
@[simp] theorem JG {α β:Type} {f:α->VH->Res β}:(Res.no:Res α).bind f=.no:=rfl
@[simp] theorem fN {α:Type} {a:α} {h:VH}:Res.of (aD a) h=.ok a h:=rfl
@[simp] theorem JH {α:Type} {h:VH}:Res.of (aE:Option α) h=.no:=rfl
@[simp] theorem JI {n:Nat}:W.lt n .aQ=true:=by simp only[W.lt]
@[simp] theorem QN {n:Nat} {b:Bool}:W.lt n (.bl b)=true:=by simp only[W.lt]
@[simp] theorem lt_int {n:Nat} {b:Int}:W.lt n (.int b)=true:=by simp only[W.lt]
@[simp] theorem lt_str {n:Nat} {b:Str}:W.lt n (.str b)=true:=by simp only[W.lt]
@[simp] theorem xB {n:Nat} {b:List W}:W.lt n (.tup b)=W.mU n b:=by simp only[W.lt]
@[simp] theorem FL {n:Nat}:W.mU n []=true:=by simp only[W.mU]
@[simp] theorem pI {n:Nat} {b:W} {r:List W}:W.mU n (b::r)=(W.lt n b&&W.mU n r):=by simp only[W.mU]
@[simp] theorem xC:((Ty.int==Ty.int):Bool)=true:=rfl
@[simp] theorem uL:((Ty.int==Ty.bool):Bool)=false:=rfl
@[simp] theorem sN:((Ty.int==Ty.tuple):Bool)=false:=rfl
@[simp] theorem uM:((Ty.int==Ty.list):Bool)=false:=rfl
@[simp] theorem xD:((Ty.int==Ty.str):Bool)=false:=rfl
@[simp] theorem uN:((Ty.int==Ty.dict):Bool)=false:=rfl
@[simp] theorem uO:((Ty.bool==Ty.int):Bool)=false:=rfl
@[simp] theorem sO:((Ty.bool==Ty.bool):Bool)=true:=rfl
@[simp] theorem qp:((Ty.bool==Ty.tuple):Bool)=false:=rfl
@[simp] theorem sP:((Ty.bool==Ty.list):Bool)=false:=rfl
@[simp] theorem uP:((Ty.bool==Ty.str):Bool)=false:=rfl
@[simp] theorem sQ:((Ty.bool==Ty.dict):Bool)=false:=rfl
@[simp] theorem sR:((Ty.tuple==Ty.int):Bool)=false:=rfl
@[simp] theorem qq:((Ty.tuple==Ty.bool):Bool)=false:=rfl
@[simp] theorem eS:((Ty.tuple==Ty.tuple):Bool)=true:=rfl
@[simp] theorem qt:((Ty.tuple==Ty.list):Bool)=false:=rfl
@[simp] theorem sU:((Ty.tuple==Ty.str):Bool)=false:=rfl
@[simp] theorem qw:((Ty.tuple==Ty.dict):Bool)=false:=rfl
@[simp] theorem uQ:((Ty.list==Ty.int):Bool)=false:=rfl
@[simp] theorem sV:((Ty.list==Ty.bool):Bool)=false:=rfl
@[simp] theorem qx:((Ty.list==Ty.tuple):Bool)=false:=rfl
@[simp] theorem sW:((Ty.list==Ty.list):Bool)=true:=rfl
@[simp] theorem uR:((Ty.list==Ty.str):Bool)=false:=rfl
@[simp] theorem sY:((Ty.list==Ty.dict):Bool)=false:=rfl
@[simp] theorem xE:((Ty.str==Ty.int):Bool)=false:=rfl
@[simp] theorem uS:((Ty.str==Ty.bool):Bool)=false:=rfl
@[simp] theorem sZ:((Ty.str==Ty.tuple):Bool)=false:=rfl
@[simp] theorem uT:((Ty.str==Ty.list):Bool)=false:=rfl
@[simp] theorem xF:((Ty.str==Ty.str):Bool)=true:=rfl
@[simp] theorem uU:((Ty.str==Ty.dict):Bool)=false:=rfl
@[simp] theorem uV:((Ty.dict==Ty.int):Bool)=false:=rfl
@[simp] theorem tu:((Ty.dict==Ty.bool):Bool)=false:=rfl
@[simp] theorem qy:((Ty.dict==Ty.tuple):Bool)=false:=rfl
@[simp] theorem tw:((Ty.dict==Ty.list):Bool)=false:=rfl
@[simp] theorem uW:((Ty.dict==Ty.str):Bool)=false:=rfl
@[simp] theorem tB:((Ty.dict==Ty.dict):Bool)=true:=rfl
@[simp] theorem FN {t:Ty} {h:VH}:dU t h .aQ=aD false:=rfl
@[simp] theorem JJ {t:Ty} {h:VH} {b:Bool}:dU t h (.bl b)=aD (t == .int||t == .bool):=rfl
@[simp] theorem FO {t:Ty} {h:VH} {i:Int}:dU t h (.int i)=aD (t == .int):=rfl
@[simp] theorem FP {t:Ty} {h:VH} {x:Str}:dU t h (.str x)=aD (t == .str):=rfl
@[simp] theorem mz {t:Ty} {h:VH} {x:List W}:dU t h (.tup x)=aD (t == .tuple):=rfl
@[simp] theorem bJ {h:VH} {l i:Nat}:VH.get ⟨h.n,l,h.os⟩ i=h.get i:=by unfold VH.get;rfl
@[simp] theorem pJ {h:VH} {b:Bool}:mX h (.bl b)=aD b:=rfl
noncomputable def forL(tg:W->VH->En->Option En)(b:FS):List W->En->VH->Res Fl
 |[],ρ,h=>.ok (.nx ρ) h
 |w::r,ρ,h=>match tg w h ρ with
  |none=>.no
  |some ρ=>(b ρ h).bind λfl h=>match fl with
   |.nx ρ=>forL tg b r ρ h
   |.ct ρ=>forL tg b r ρ h
   |.bk ρ=>.ok (.nx ρ) h
   |.rt w=>.ok (.rt w) h
noncomputable def mC(tg:W->VH->En->Option En)(c e:FE):List W->En->VH->Res (List W)
 |[],_,h=>.ok [] h
 |w::r,ρ,h=>match tg w h ρ with
  |none=>.no
  |some ρ=>(c ρ h).bind λb h=>match b with
   |.bl true=>(e ρ h).bind λy h=>(mC tg c e r ρ h).bind λys h=>.ok (y::ys) h
   |.bl false=>mC tg c e r ρ h
   |_=>.no
theorem bind_assoc{α β γ:Type}{r:Res α}{f:α->VH->Res β}{g:β->VH->Res γ}:(r.bind f).bind g=r.bind λa h=>(f a h).bind g:=by cases r<;>rfl
theorem FQ{nx:Nat->VH->Option (Option W)}{tg:W->VH->En->Option En}{b:FS}{ws:List W}(hx:∀i h,nx i h=aD ws[i]?):∀(fu i:Nat) (ρ:En) (h:VH),i<=ws.length->ws.length<fu+i->dj nx tg b fu i ρ h=forL tg b (ws.drop i) ρ h
 |0,i,ρ,h,hi,hl=>by lia
 |fu+1,i,ρ,h,hi,hl=>by
  simp only[dj,hx];cases q:ws[i]? with
  |none=>
   rw[DF (nP.mp q)];rfl
  |some w=>
   obtain⟨hi,e⟩:=jJ.mp q;rw[tW hi,e];simp only[forL];cases tg w h ρ with
   |none=>rfl
   |some ρ'=>
    simp only;congr 1;funext fl h1;cases fl<;>simp only[FQ hx fu (i+1) _ _ hi (by lia)]
theorem FT{nx:Nat->VH->Option (Option W)}{tg:W->VH->En->Option En}{c e:FE}{ws:List W}(hx:∀i h,nx i h=aD ws[i]?):∀(fu i:Nat) (ρ:En) (h:VH) (acc:List W),i<=ws.length->ws.length<fu+i->
 gp nx tg c e fu i ρ h acc=(mC tg c e (ws.drop i) ρ h).bind λys h=>.ok (acc.reverse++ys) h
 |0,i,ρ,h,acc,hi,hl=>by lia
 |fu+1,i,ρ,h,acc,hi,hl=>by
  simp only[gp,hx];cases q:ws[i]? with
  |none=>
   rw[DF (nP.mp q)];simp[mC]
  |some w=>
   obtain⟨hi,ee⟩:=jJ.mp q;rw[tW hi,ee];simp only[mC];cases tg w h ρ with
   |none=>rfl
   |some ρ'=>
    simp only[bind_assoc];congr 1;funext bv h1;cases bv<;>try rfl
    rename_i bb;cases bb with
    |true=>
     simp only[bind_assoc];congr 1;funext y h2;rw[FT hx fu (i+1) _ _ _ hi (by lia)];congr 1;funext ys h3;simp
    |false=>simp only[FT hx fu (i+1) _ _ _ hi (by lia)]
theorem FU{ws:List W}{tg:W->VH->En->Option En}{b:FS}{ρ:En}{h:VH}(hl:ws.length<1000000):dj (bg .seq (.tup ws)) tg b fuel 0 ρ h=forL tg b ws ρ h:=by have:=FQ (nx:=bg .seq (.tup ws)) (tg:=tg) (b:=b) (ws:=ws) (λi h=>rfl) fuel 0 ρ h (gf _) (by simpa[fuel]using hl);simpa using this
noncomputable def cK:Nat->List W->List W|_,[]=>[]|i,w::r=>.tup [.int i,w]::cK (i+1) r
theorem QO:∀(ws:List W) (i j:Nat),(cK j ws)[i]?=(ws[i]?).map λw=>.tup [.int ((j+i:Nat):Int),w]
 |[],i,j=>by simp[cK]
 |w::r,0,j=>by simp[cK]
 |w::r,i+1,j=>by
  simp only[cK,vB];rw[QO r i (j+1)];congr 1;funext w;rw[show j+1+i=j+ (i+1) by lia]
theorem QS:∀(ws:List W) (j:Nat),(cK j ws).length=ws.length|[],_=>rfl|_::r,j=>by simp[cK,QS r]
theorem QT{ws:List W}{tg:W->VH->En->Option En}{b:FS}{ρ:En}{h:VH}(hl:ws.length<1000000):dj (bg .ql (.tup ws)) tg b fuel 0 ρ h=forL tg b (cK 0 ws) ρ h:=by have:=FQ (nx:=bg .ql (.tup ws)) (tg:=tg) (b:=b) (ws:=cK 0 ws) (λi h=>by rw[QO];simp[bg,aS]) fuel 0 ρ h (gf _) (by simpa[fuel,QS]using hl);simpa using this
noncomputable def kK(a:Int):Nat->List W|0=>[]|n+1=>.int a::kK (a+1) n
theorem JK:∀(n i:Nat) (a:Int),(kK a n)[i]?=if i<n then aD (.int (a+i))else aE
 |0,i,a=>by simp[kK]
 |n+1,0,a=>by simp[kK]
 |n+1,i+1,a=>by
  simp only[kK,vB];rw[JK n i (a+1)];by_cases q:i<n;rw[if_pos q,if_pos (by lia)];congr 2
  push_cast;lia;rw[if_neg q,if_neg (by lia)]
theorem JL:∀(n:Nat) (a:Int),(kK a n).length=n|0,_=>rfl|n+1,a=>by simp[kK,JL n]
theorem zx6{n:Nat}{tg:W->VH->En->Option En}{b:FS}{ρ:En}{h:VH}(hl:n<1000000):dj (bg .bG (.tup [.int n])) tg b fuel 0 ρ h=forL tg b (kK 0 n) ρ h:=by
 have hf:fits (n:Int)=true:=by simp[fits];lia
 have:=FQ (nx:=bg .bG (.tup [.int n])) (tg:=tg) (b:=b) (ws:=kK 0 n) (λi h=>by rw[JK];simp[bg,hf]) fuel 0 ρ h (gf _) (by simpa[fuel,JL]using hl);simpa using this
theorem Zu{n:Nat}{tg:W->VH->En->Option En}{c e:FE}{ρ:En}{h:VH}(hl:n<1000000):gp (bg .bG (.tup [.int n])) tg c e fuel 0 ρ h []=mC tg c e (kK 0 n) ρ h:=by
 have hf:fits (n:Int)=true:=by simp[fits];lia
 have:=FT (nx:=bg .bG (.tup [.int n])) (tg:=tg) (c:=c) (e:=e) (ws:=kK 0 n) (λi h=>by rw[JK];simp[bg,hf]) fuel 0 ρ h [] (gf _) (by simpa[fuel,JL]using hl);rw[this];simp only[List.drop_zero,List.reverse_nil,yh];cases mC tg c e (kK 0 n) ρ h<;>rfl
noncomputable def isInt:W->Bool|.int _=>true|_=>false
noncomputable def Kn(h:VH)(w:W):Prop:=dU .int h w≠aE
theorem fB{h:VH}{l:Nat}{w:W}:Kn ⟨h.n,l,h.os⟩ w↔Kn h w:=by unfold Kn;cases w<;>simp[dU]
structure CoreA(F:Nat->Option Fn):Prop where
 f0:F 0=aD Fi
 f1:F 1=aD Jy
 f6:F 6=aD CA
 f7:F 7=aD CB
section
variable{F:Nat->Option Fn}(C:CoreA F)
include C
theorem Zv{k:Nat}{h:VH}{w:W}(hw:Kn h w):run F (k+1) 0 [w] h=.ok (.bl (isInt w)) h:=by
 rw[dW C.f0 rfl];cases w<;>try(simp[Fi,exs,ev,isInt,dO];done)
 exact absurd rfl hw;rename_i i;unfold Kn at hw;simp only[dU]at hw;cases g:h.get i with
 |none=>rw[g]at hw;exact absurd rfl hw
 |some o=>cases o<;>first|(simp[Fi,exs,ev,isInt,dO,dU,g];done)|(simp[g]at hw)
noncomputable def within(w:W)(lo hi:Int):Bool:=match w with|.int i=>decide (lo<=i)&&decide (i<=hi)|_=>false
theorem uX{k:Nat}{h:VH}{w:W}{lo hi:Int}(hw:Kn h w):run F (k+2) 1 [w,.int lo,.int hi] h=.ok (.bl (within w lo hi)) h:=by rw[dW C.f1 rfl];have e:=Zv C (k:=k) (h:=⟨h.n,h.n,h.os⟩) (w:=w) (fB.mpr hw);cases w<;>simp[Jy,exs,ev,e,isInt,within,dO,aU,fU];rename_i i;by_cases h1:lo<=i<;>simp[h1,dO]
noncomputable def gK(w:W)(lo hi:Int):Bool:=match w with|.tup ws=>decide (lo<=ws.length)&&decide ((ws.length:Int)<=hi)|_=>false
theorem xG{k:Nat}{h:VH}{w:W}{lo hi:Int}(hw:Kn h w):run F (k+1) 6 [w,.int lo,.int hi] h=.ok (.bl (gK w lo hi)) h:=by
 rw[dW C.f6 rfl];cases w<;>try(simp[CA,exs,ev,gK,dO];done)
 rename_i ws;simp[CA,exs,ev,gK,dO,aU,fU,jC,gT,aS];by_cases h1:lo<=ws.length<;>simp[h1,dO];exact absurd rfl hw;rename_i i;unfold Kn at hw;simp only[dU]at hw;cases g:h.get i with
 |none=>rw[g]at hw;exact absurd rfl hw
 |some o=>cases o<;>first|(simp[CA,exs,ev,gK,dO,dU,g];done)|(simp[g]at hw)
theorem uY{k:Nat}{h:VH}{t a b:W}{lo hi:Int}:∀(ws:List W) (x:Option W),(∀w∈ws,Kn h w)->∃y,forL (bH (.one 5)) (exs (run F (k+2)) Fo) ws [aD t,aD a,aD b,aD (.int lo),aD (.int hi),x] h =
 if ws.all (within · lo hi)then .ok (.nx [aD t,aD a,aD b,aD (.int lo),aD (.int hi),y]) h else .ok (.rt (.bl false)) h
 |[],x,_=>⟨x,by simp[forL]⟩
 |w::r,x,hk=>by
  obtain⟨y,e⟩:=uY (t:=t) (a:=a) (b:=b) (k:=k) (lo:=lo) (hi:=hi) r (aD w) λz hz=>hk z (dQ _ hz);refine⟨y,?_⟩;have e1:=uX C (k:=k) (lo:=lo) (hi:=hi) (hk w fk);have eb:exs (run F (k+2)) Fo [aD t,aD a,aD b,aD (.int lo),aD (.int hi),aD w] h=if within w lo hi then .ok (.nx [aD t,aD a,aD b,aD (.int lo),aD (.int hi),aD w]) h else .ok (.rt (.bl false)) h:=by cases q:within w lo hi<;>simp[Fo,exs,ev,e1,q]
  simp only[forL,bH,List.set,eb];cases q:within w lo hi<;>simp[q,e]
noncomputable def pK(w:W)(a b lo hi:Int):Bool:=match w with|.tup ws=>gK w a b&&ws.all (within · lo hi)|_=>false
theorem JM{k:Nat}{h:VH}{w:W}{a b lo hi:Int}(hw:Kn h w)(hp:∀ws,w=.tup ws->ws.length<1000000/\∀x∈ws,Kn h x):run F (k+3) 7 [w,.int a,.int b,.int lo,.int hi] h=.ok (.bl (pK w a b lo hi)) h:=by
 rw[dW C.f7 rfl];have e1:=xG C (k:=k+1) (h:=⟨h.n,h.n,h.os⟩) (w:=w) (lo:=a) (hi:=b) (fB.mpr hw);cases q:gK w a b with
 |false=>
  have:pK w a b lo hi=false:=by cases w<;>simp[pK,q]
  simp[CB,exs,ev,e1,q,this,dO]
 |true=>
  cases w<;>try(simp[gK]at q;done)
  rename_i ws;obtain⟨hl,hk⟩:=hp ws rfl;obtain⟨y,e2⟩:=uY C (k:=k) (h:=⟨h.n,h.n,h.os⟩) (t:=.tup ws) (a:=.int a) (b:=.int b) (lo:=lo) (hi:=hi) ws aE λx hx=>fB.mpr (hk x hx);have e3:pK (.tup ws) a b lo hi=ws.all (within · lo hi):=by simp[pK,q]
  rw[e3];cases q2:ws.all (within · lo hi)with|true=>simp[CB,exs,ev,e1,q,FU hl,e2,q2,dO]|false=>simp[CB,exs,ev,e1,q,FU hl,e2,q2,dO]
end
noncomputable def kL:Nat->W->Bool
 |0,_=>false
 |n+1,w=>match w with
  |.aQ=>true
  |.bl _=>true
  |.int _=>true
  |.str x=>PyData.strOk x
  |.tup ws=>ws.all (kL n)
  |_=>false
theorem QU{f:W->Option aC}{p:W->Bool}{n:Nat}(h:∀w,p w=true->∃d,f w=aD d/\d.canLay0=true/\d.depth<=n):∀ws:List W,ws.all p=true->∃ds,aV f ws=aD ds/\PyData.canLayAll0 ds=true/\PyData.depthAll ds<=n
 |[],_=>⟨[],rfl,rfl,gf _⟩
 |w::r,e=>by
  rw[qM,bE]at e;obtain⟨d,h1,h2,h3⟩:=h w e.1;obtain⟨ds,h4,h5,h6⟩:=QU h r e.2;refine⟨d::ds,by simp[aV,h1,h4],?_,?_⟩;show(d.canLay0&&PyData.canLayAll0 ds)=true;rw[h2,h5];rfl;show max d.depth (PyData.depthAll ds)<=n;lia
theorem JN(h:VH):∀(n:Nat) (w:W),kL n w=true->∃d,toD h n w=aD d/\d.canLay0=true/\d.depth<=n
 |0,_,e=>by cases e
 |n+1,w,e=>by
  cases w<;>simp only[kL]at e<;>try(cases e;done)
  exact⟨.none,rfl,rfl,gf _⟩;exact⟨.bool _,rfl,rfl,gf _⟩;exact⟨.int _,rfl,rfl,gf _⟩;exact⟨.str _,rfl,e,gf _⟩;obtain⟨ds,h1,h2,h3⟩:=QU (JN h n) _ e;exact⟨.tuple ds,by simp[toD,h1],h2,by show PyData.depthAll ds+1<=n+1;lia⟩
mutual
theorem QV:∀d:aC,d.canLay0=true->PyData.eqv d d=true
 |.none,_=>rfl
 |.bool b,_=>by simp[PyData.eqv]
 |.int i,_=>by simp[PyData.eqv]
 |.str x,_=>by simp[PyData.eqv]
 |.list xs,h=>by
  simp only[PyData.eqv];exact JO xs h
 |.tuple xs,h=>by
  simp only[PyData.eqv];exact JO xs h
 |.dict _,h=>by cases h
theorem JO:∀ds:List aC,PyData.canLayAll0 ds=true->PyData.eqvAll ds ds=true
 |[],_=>rfl
 |d::ds,h=>by
  have h:(d.canLay0&&PyData.canLayAll0 ds)=true:=h;rw[bE]at h;simp only[PyData.eqvAll,QV d h.1,JO ds h.2,Bool.and_self]
end
theorem zx5{h:VH}{w:W}(p:kL 24 w):bY h w w=aD true:=by
 obtain⟨d,h1,h2,h3⟩:=JN h 24 w p;have hs:SeqAt.shaped d=true:=by unfold SeqAt.shaped;rw[h2,Bool.true_and,fj];lia
 unfold bY;rw[h1];simp[hs,QV d h2]
noncomputable def jD(w:W)(x:Str):Bool:=match w with|.str y=>y==x|_=>false
theorem nM{h:VH}{w:W}{x:Str}(p:kL 24 w)(hx:PyData.strOk x):bY h w (.str x)=aD (jD w x):=by
 obtain⟨d,h1,h2,h3⟩:=JN h 24 w p;have hs:SeqAt.shaped d=true:=by unfold SeqAt.shaped;rw[h2,Bool.true_and,fj];lia
 have hs2:SeqAt.shaped (.str x)=true:=by unfold SeqAt.shaped;show(PyData.strOk x&&_)=true;rw[hx];rfl
 unfold bY;rw[h1];have h4:toD h 24 (.str x)=aD (.str x):=rfl;rw[h4];simp only[hs,hs2,Bool.and_self,bZ];cases w<;>simp only[toD]at h1<;>try(cases h1;done)
 cases h1;simp[jD,PyData.eqv];cases h1;simp[jD,PyData.eqv];cases h1;simp[jD,PyData.eqv];cases h1;simp[jD,PyData.eqv];obtain⟨ds,h5,h6⟩:=Option.map_eq_some_iff.mp h1;subst h6;simp[jD,PyData.eqv];simp[kL]at p;simp[kL]at p
theorem Zw{n:Nat}{ws:List W}:kL (n+1) (.tup ws)=ws.all (kL n):=rfl
theorem JP{h:VH}{n:Nat}{w:W}(p:kL n w):Kn h w:=by
 unfold Kn;cases n with|zero=>cases p|succ n=>cases w<;>simp[kL,dU]at p ⊢
structure mD(F:Nat->Option Fn):Prop extends CoreA F where
 f8:F 8=aD JA
 f9:F 9=aD JB
 Zx:F 10=aD xq
 Zy:F 11=aD sH
 Zz:F 12=aD xr
 ZC:F 13=aD sI
 ZD:F 14=aD xu
 ZE:F 15=aD xw
theorem ZF:cU .aQ=true:=rfl
noncomputable def uZ(w:W)(n:Int):Bool:=cU w||within w 0 (n-1)
noncomputable def door(w:W)(n:Int):Bool:=match w with|.tup [a,b]=>within a 0 99&&uZ b n|_=>false
noncomputable def nk(w:W)(g:Int):Bool:=match w with|.tup [a,b]=>within a 0 (g-1)&&within b 0 1|_=>false
noncomputable def ff(w:W)(c wd g:Int):Bool:=
 if jD w "x" || nk w g then decide (0<c)&&decide (c<wd-1)else if jD w "<"then decide (0<c)else if jD w ">"then decide (c<wd-1)else jD w "." || jD w "s"
section
variable{F:Nat->Option Fn}(C:mD F)
include C
theorem ZG{k:Nat}{h:VH}{w:W}{n:Int}(hw:Kn h w):run F (k+3) 12 [w,.int n] h=.ok (.bl (uZ w n)) h:=by rw[dW C.Zz rfl];have e:=uX C.toCoreA (k:=k) (h:=⟨h.n,h.n,h.os⟩) (w:=w) (lo:=0) (hi:=n-1) (fB.mpr hw);cases q:cU w<;>simp[xr,exs,ev,e,aU,ZF,q,uZ,dO,gJ,eY]
theorem ZH{k:Nat}{h:VH}{w:W}{n:Int}(hw:Kn h w)(hp:∀a b,w=.tup [a,b]->Kn h a/\Kn h b):run F (k+4) 11 [w,.int n] h=.ok (.bl (door w n)) h:=by
 rw[dW C.Zy rfl];have e1:=xG C.toCoreA (k:=k+2) (h:=⟨h.n,h.n,h.os⟩) (w:=w) (lo:=2) (hi:=2) (fB.mpr hw);cases q:gK w 2 2 with
 |false=>
  have:door w n=false:=by cases w<;>simp[door];rename_i ws;rcases ws with _|⟨a,_|⟨b,_|_⟩⟩<;>simp[gK]at q ⊢
  simp[sH,exs,ev,e1,q,this,dO]
 |true=>
  cases w<;>try(simp[gK]at q;done)
  rename_i ws;have hl:ws.length=2:=by simp[gK]at q;lia
  rcases ws with _|⟨a,_|⟨b,_|_⟩⟩<;>simp at hl;obtain⟨ka,kb⟩:=hp a b rfl;have e2:=uX C.toCoreA (k:=k+1) (h:=⟨h.n,h.n,h.os⟩) (w:=a) (lo:=0) (hi:=99) (fB.mpr ka);have e3:=ZG C (k:=k) (h:=⟨h.n,h.n,h.os⟩) (w:=b) (n:=n) (fB.mpr kb);cases q2:within a 0 99<;>simp[sH,exs,ev,e1,q,e2,e3,q2,door,dO,bH,aS,kG]
theorem ZJ{k:Nat}{h:VH}{w:W}{n:Int}(hw:Kn h w)(hp:∀a b,w=.tup [a,b]->Kn h a/\Kn h b):run F (k+3) 13 [w,.int n] h=.ok (.bl (nk w n)) h:=by
 rw[dW C.ZC rfl];have e1:=xG C.toCoreA (k:=k+1) (h:=⟨h.n,h.n,h.os⟩) (w:=w) (lo:=2) (hi:=2) (fB.mpr hw);cases q:gK w 2 2 with
 |false=>
  have:nk w n=false:=by cases w<;>simp[nk];rename_i ws;rcases ws with _|⟨a,_|⟨b,_|_⟩⟩<;>simp[gK]at q ⊢
  simp[sI,exs,ev,e1,q,this,dO]
 |true=>
  cases w<;>try(simp[gK]at q;done)
  rename_i ws;have hl:ws.length=2:=by simp[gK]at q;lia
  rcases ws with _|⟨a,_|⟨b,_|_⟩⟩<;>simp at hl;obtain⟨ka,kb⟩:=hp a b rfl;have e2:=uX C.toCoreA (k:=k) (h:=⟨h.n,h.n,h.os⟩) (w:=a) (lo:=0) (hi:=n-1) (fB.mpr ka);have e3:=uX C.toCoreA (k:=k) (h:=⟨h.n,h.n,h.os⟩) (w:=b) (lo:=0) (hi:=1) (fB.mpr kb);cases q2:within a 0 (n-1)<;>simp[sI,exs,ev,e1,q,e2,e3,q2,nk,dO,bH,aS,kG,gJ,eY]
omit C in
theorem JQ:PyData.strOk (Str.ofString "x")=true:=by decide +kernel
omit C in
theorem JR:PyData.strOk (Str.ofString "<")=true:=by decide +kernel
omit C in
theorem JS:PyData.strOk (Str.ofString ">")=true:=by decide +kernel
omit C in
theorem JT:PyData.strOk (Str.ofString ".")=true:=by decide +kernel
omit C in
theorem JU:PyData.strOk (Str.ofString "s")=true:=by decide +kernel
theorem ZK{k:Nat}{h:VH}{w:W}{c wd g:Int}(p:kL 24 w):run F (k+4) 15 [w,.int c,.int wd,.int g] h=.ok (.bl (ff w c wd g)) h:=by
 rw[dW C.ZE rfl];have hp:∀a b,w=.tup [a,b]->Kn ⟨h.n,h.n,h.os⟩ a/\Kn ⟨h.n,h.n,h.os⟩ b:=λa b e=>by
  subst e;have p:kL (23+1) (.tup [a,b])=true:=p;rw[Zw,qM,qM,bE,bE]at p;exact⟨JP p.1,JP p.2.1⟩
 have e1:=ZJ C (k:=k) (h:=⟨h.n,h.n,h.os⟩) (w:=w) (n:=g) (JP p) hp;have sx:=nM (h:=⟨h.n,h.n,h.os⟩) (x:=Str.ofString "x") p JQ;have sl:=nM (h:=⟨h.n,h.n,h.os⟩) (x:=Str.ofString "<") p JR;have sg:=nM (h:=⟨h.n,h.n,h.os⟩) (x:=Str.ofString ">") p JS;have sd:=nM (h:=⟨h.n,h.n,h.os⟩) (x:=Str.ofString ".") p JT;have ss:=nM (h:=⟨h.n,h.n,h.os⟩) (x:=Str.ofString "s") p JU;unfold ff;cases q1:jD w (Str.ofString "x")<;>cases q2:nk w g<;>cases q3:jD w (Str.ofString "<")<;>cases q4:jD w (Str.ofString ">")<;>cases q5:jD w (Str.ofString ".")<;>by_cases h1:0<c<;>
  simp[xw,exs,ev,aU,fU,sx,sl,sg,sd,ss,e1,gJ,eY,q1,q2,q3,q4,q5,h1,dO]
theorem QW{k:Nat}{h:VH}{t a:W}{n:Int}:∀(ws:List W) (x:Option W),(∀w∈ws,Kn h w/\∀a b,w=.tup [a,b]->Kn h a/\Kn h b)->∃y,forL (bH (.one 3)) (exs (run F (k+4)) Fp) ws [aD t,aD a,aD (.int n),x] h =
 if ws.all (door · n)then .ok (.nx [aD t,aD a,aD (.int n),y]) h else .ok (.rt (.bl false)) h
 |[],x,_=>⟨x,by simp[forL]⟩
 |w::r,x,hk=>by
  obtain⟨y,e⟩:=QW (t:=t) (a:=a) (k:=k) (n:=n) r (aD w) λz hz=>hk z (dQ _ hz);refine⟨y,?_⟩;obtain⟨k1,k2⟩:=hk w fk;have e1:=ZH C (k:=k) (n:=n) k1 k2;have eb:exs (run F (k+4)) Fp [aD t,aD a,aD (.int n),aD w] h=if door w n then .ok (.nx [aD t,aD a,aD (.int n),aD w]) h else .ok (.rt (.bl false)) h:=by cases q:door w n<;>simp[Fp,exs,ev,e1,q]
  simp only[forL,bH,List.set,eb];cases q:door w n<;>simp[q,e]
theorem ZL{k:Nat}{h:VH}{ws:List W}{wd n:Int}(hl:ws.length=wd)(hz:ws.length<1000000)(hd:∀w∈ws,door w n):run F (k+5) 8 [.tup ws,.int wd,.int n] h=.ok (.bl true) h:=by
 rw[dW C.f8 rfl];have e1:=xG C.toCoreA (k:=k+3) (h:=⟨h.n,h.n,h.os⟩) (w:=.tup ws) (lo:=wd) (hi:=wd) (by unfold Kn;simp);have q:gK (.tup ws) wd wd=true:=by simp[gK,hl]
 have kn:∀w∈ws,Kn ⟨h.n,h.n,h.os⟩ w/\∀a b,w=.tup [a,b]->Kn ⟨h.n,h.n,h.os⟩ a/\Kn ⟨h.n,h.n,h.os⟩ b:=λw hw=>by
  have:=hd w hw;cases w<;>simp only[door]at this<;>try(cases this;done)
  rename_i us;refine⟨by unfold Kn;simp,λa b e=>?_⟩;cases e;simp only[bE]at this;obtain⟨h1,h2⟩:=this;refine⟨?_,?_⟩;cases a<;>simp[within]at h1;unfold Kn;simp;unfold uZ at h2;cases b<;>simp[within,cU]at h2;unfold Kn;simp;unfold Kn;simp
 obtain⟨y,e2⟩:=QW C (k:=k) (h:=⟨h.n,h.n,h.os⟩) (t:=.tup ws) (a:=.int wd) (n:=n) ws aE kn;have ha:ws.all (door · n)=true:=nH.mpr hd;simp[JA,exs,ev,e1,q,FU hz,e2,ha,dO]
theorem QX{k:Nat}{h:VH}{t:W}{wd:Int}:∀(ws:List W) (x:Option W),(∀w∈ws,∃us,w=.tup us/\us.length=wd)->∃y,forL (bH (.one 2)) (exs (run F (k+1)) Fq) ws [aD t,aD (.int wd),x] h=.ok (.nx [aD t,aD (.int wd),y]) h
 |[],x,_=>⟨x,by simp[forL]⟩
 |w::r,x,hk=>by
  obtain⟨y,e⟩:=QX (h:=h) (t:=t) (k:=k) (wd:=wd) r (aD w) λz hz=>hk z (dQ _ hz);refine⟨y,?_⟩;obtain⟨us,rfl,hl⟩:=hk w fk;have e1:=xG C.toCoreA (k:=k) (h:=h) (w:=.tup us) (lo:=wd) (hi:=wd) (by unfold Kn;simp);have q:gK (.tup us) wd wd=true:=by simp[gK,hl]
  have eb:exs (run F (k+1)) Fq [aD t,aD (.int wd),aD (.tup us)] h=.ok (.nx [aD t,aD (.int wd),aD (.tup us)]) h:=by simp[Fq,exs,ev,e1,q]
  simp only[forL,bH,List.set,eb,aF,e]
theorem ZM{k:Nat}{h:VH}{ws:List W}{wd:Int}(hl:ws.length<=60)(hd:∀w∈ws,∃us,w=.tup us/\us.length=wd):run F (k+2) 9 [.tup ws,.int wd] h=.ok (.bl true) h:=by
 rw[dW C.f9 rfl];have e1:=xG C.toCoreA (k:=k) (h:=⟨h.n,h.n,h.os⟩) (w:=.tup ws) (lo:=0) (hi:=60) (by unfold Kn;simp);have q:gK (.tup ws) 0 60=true:=by simp[gK];lia
 obtain⟨y,e2⟩:=QX C (k:=k) (h:=⟨h.n,h.n,h.os⟩) (t:=.tup ws) (wd:=wd) ws aE hd;simp[JB,exs,ev,e1,q,FU (show ws.length<1000000 by lia),e2,dO]
end
structure Bd where
 wd:Int
 gr:Int
 rows:List (List W)
 fd:List W
 dr:List W
noncomputable def Bd.w(B:Bd):W:=.tup [.int B.wd,.int B.gr,.tup (B.rows.map .tup),.tup B.fd,.tup B.dr]
noncomputable def cV(wd g:Int):Int->List W->Prop|_,[]=>True|c,w::r=>ff w c wd g=true/\cV wd g (c+1) r
structure Bd.Ok(B:Bd):Prop where
 w1:1<=B.wd
 w2:B.wd<=40
 g1:0<=B.gr
 g2:B.gr<=8
 r1:B.rows.length<=60
 r2:∀r∈B.rows,(r.length:Int)=B.wd/\cV B.wd B.gr 0 r
 f1:1<=B.fd.length
 f2:B.fd.length<=4
 f3:∀f∈B.fd,within f 0 (B.wd-1)=true
 d1:(B.dr.length:Int)=B.wd
 d2:∀d∈B.dr,door d B.fd.length=true
structure Bd.QY(B:Bd):Prop where
 w1:1<=B.wd
 w2:B.wd<=40
 g1:0<=B.gr
 g2:B.gr<=8
 r1:B.rows.length<=60
 r2:∀r∈B.rows,(r.length:Int)=B.wd
 f1:1<=B.fd.length
 f2:B.fd.length<=4
 f3:∀f∈B.fd,within f 0 (B.wd-1)=true
 d1:(B.dr.length:Int)=B.wd
 d2:∀d∈B.dr,door d B.fd.length=true
theorem Bd.Ok.ZN{B:Bd}(b:B.Ok):B.QY:=⟨b.w1,b.w2,b.g1,b.g2,b.r1,λr hr=>(b.r2 r hr).1,b.f1,b.f2,b.f3,b.d1,b.d2⟩
theorem ZO{w:W}{g:Int}(h:nk w g)(n:Nat):kL (n+2) w=true:=by
 cases w<;>simp only[nk]at h<;>try(cases h;done)
 rename_i us;rcases us with _|⟨a,_|⟨b,_|_⟩⟩<;>simp at h
 obtain⟨h1,h2⟩:=h;cases a<;>simp[within]at h1;cases b<;>simp[within]at h2;rfl
theorem yY{w:W}{x:Str}(h:jD w x):w=.str x:=by cases w<;>simp[jD]at h;rw[h]
theorem ZP{w:W}{c wd g:Int}(h:ff w c wd g)(n:Nat):kL (n+2) w=true:=by
 have st:∀x:Str,PyData.strOk x=true->jD w x=true->kL (n+2) w=true:=λx hx e=>by rw[yY e];exact hx
 unfold ff at h;split at h;rename_i q;rw[pY]at q;rcases q with q|q
 exact st _ (by decide +kernel) q;exact ZO q n;split at h;rename_i q;exact st _ (by decide +kernel) q;split at h;rename_i q;exact st _ (by decide +kernel) q;rw[pY]at h;rcases h with q|q
 exact st _ (by decide +kernel) q;exact st _ (by decide +kernel) q
section
variable{F:Nat->Option Fn}(C:mD F)
include C
theorem ZQ{k:Nat}{h:VH}{B:Bd}(b:B.QY):run F (k+6) 10 [B.w] h=.ok (.bl true) h:=by
 rw[dW C.Zx rfl];have e1:=xG C.toCoreA (k:=k+4) (h:=⟨h.n,h.n,h.os⟩) (w:=B.w) (lo:=5) (hi:=5) (by unfold Kn Bd.w;simp);have q1:gK B.w 5 5=true:=by simp[gK,Bd.w]
 have e2:=uX C.toCoreA (k:=k+3) (h:=⟨h.n,h.n,h.os⟩) (w:=.int B.wd) (lo:=1) (hi:=40) (by unfold Kn;simp);have q2:within (.int B.wd) 1 40=true:=by simp[within,b.w1,b.w2]
 have e3:=uX C.toCoreA (k:=k+3) (h:=⟨h.n,h.n,h.os⟩) (w:=.int B.gr) (lo:=0) (hi:=8) (by unfold Kn;simp);have q3:within (.int B.gr) 0 8=true:=by simp[within,b.g1,b.g2]
 have kf:∀x∈B.fd,Kn ⟨h.n,h.n,h.os⟩ x:=λx hx=>by
  have:=b.f3 x hx;cases x<;>simp[within]at this;unfold Kn;simp
 have hf:=b.f2;have e4:=JM C.toCoreA (k:=k+2) (h:=⟨h.n,h.n,h.os⟩) (w:=.tup B.fd) (a:=1) (b:=4) (lo:=0) (hi:=B.wd-1) (by unfold Kn;simp) (λws e=>by cases e;exact⟨by lia,kf⟩);have q4:pK (.tup B.fd) 1 4 0 (B.wd-1)=true:=by have h1:=b.f1;simp only[pK,gK,bE,fj];exact⟨⟨by lia,by lia⟩,nH.mpr b.f3⟩
 have e5:=ZM C (k:=k+3) (h:=⟨h.n,h.n,h.os⟩) (ws:=B.rows.map .tup) (wd:=B.wd) (by rw[bz];exact b.r1) (λw hw=>by
  obtain⟨r,hr,e⟩:=jz.mp hw;exact⟨r,e.symm,b.r2 r hr⟩)
 have hd:=b.d1;have ZR:=b.w2;have e6:=ZL C (k:=k) (h:=⟨h.n,h.n,h.os⟩) (ws:=B.dr) (wd:=B.wd) (n:=B.fd.length) hd (by lia) b.d2;unfold Bd.w at e1 q1 ⊢;simp[xq,exs,ev,e1,q1,e2,q2,e3,q3,e4,q4,e5,e6,dO,bH,aS,kG,gJ,eY,jC,gT]
theorem ZT{k:Nat}{h:VH}{B:Bd}(b:B.Ok):run F (k+6) 10 [B.w] h=.ok (.bl true) h:=ZQ C b.ZN
theorem QZ{k:Nat}{h:VH}{t rs pl:W}{wd g r0:Int}:∀(ws:List W) (c:Int) (j:Nat) (x y:Option W),c=j->cV wd g c ws->∃x' y',forL (bH (.many [6,7])) (exs (run F (k+4)) Ft) (cK j ws) [aD t,aD (.int wd),aD (.int g),aD rs,aD (.int r0),aD pl,x,y] h =
 .ok (.nx [aD t,aD (.int wd),aD (.int g),aD rs,aD (.int r0),aD pl,x',y']) h
 |[],c,j,x,y,_,_=>⟨x,y,by simp[forL,cK]⟩
 |w::r,c,j,x,y,hc,ho=>by
  obtain⟨h1,h2⟩:=ho;obtain⟨x',y',e⟩:=QZ (h:=h) (t:=t) (rs:=rs) (pl:=pl) (k:=k) (wd:=wd) (g:=g) (r0:=r0) r (c+1) (j+1) (aD (.int j)) (aD w) (by rw[hc];push_cast;rfl) h2;refine⟨x',y',?_⟩;have e1:=ZK C (k:=k) (h:=h) (c:=j) (wd:=wd) (g:=g) (ZP h1 22);rw[<-hc,h1]at e1;have eb:exs (run F (k+4)) Ft [aD t,aD (.int wd),aD (.int g),aD rs,aD (.int r0),aD pl,aD (.int j),aD w] h=.ok (.nx [aD t,aD (.int wd),aD (.int g),aD rs,aD (.int r0),aD pl,aD (.int j),aD w]) h:=by rw[hc]at e1;simp[Ft,exs,ev,e1]
  simp only[forL,cK,bH,aS,kG,List.set,eb,aF,e]
theorem Q0{k:Nat}{h:VH}{t rs:W}{wd g:Int}:∀(ws:List (List W)) (j:Nat) (x y z u:Option W),(∀r∈ws,(r.length:Int)<1000000/\cV wd g 0 r)->∃x' y' z' u',forL (bH (.many [4,5])) (exs (run F (k+4)) Fv) (cK j (ws.map .tup)) [aD t,aD (.int wd),aD (.int g),aD rs,x,y,z,u] h =
 .ok (.nx [aD t,aD (.int wd),aD (.int g),aD rs,x',y',z',u']) h
 |[],j,x,y,z,u,_=>⟨x,y,z,u,by simp[forL,cK]⟩
 |w::r,j,x,y,z,u,ho=>by
  obtain⟨h1,h2⟩:=ho w fk;obtain⟨z1,u1,e1⟩:=QZ C (k:=k) (h:=h) (t:=t) (rs:=rs) (pl:=.tup w) (wd:=wd) (g:=g) (r0:=j) w 0 0 z u rfl h2;obtain⟨x',y',z',u',e⟩:=Q0 (h:=h) (t:=t) (rs:=rs) (k:=k) (wd:=wd) (g:=g) r (j+1) (aD (.int j)) (aD (.tup w)) z1 u1 λq hq=>ho q (dQ _ hq);refine⟨x',y',z',u',?_⟩;have eb:exs (run F (k+4)) Fv [aD t,aD (.int wd),aD (.int g),aD rs,aD (.int j),aD (.tup w),z,u] h=.ok (.nx [aD t,aD (.int wd),aD (.int g),aD rs,aD (.int j),aD (.tup w),z1,u1]) h:=by simp[Fv,exs,ev,QT (show w.length<1000000 by lia),e1]
  simp only[forL,gQ,cK,bH,aS,kG,List.set,eb,aF,e]
theorem ZU{k:Nat}{h:VH}{B:Bd}(b:B.Ok):run F (k+7) 14 [B.w] h=.ok .aQ h:=by
 rw[dW C.ZD rfl];have e1:=ZT C (k:=k) (h:=⟨h.n,h.n,h.os⟩) b;have ZR:=b.w2;have h60:=b.r1;obtain⟨x',y',z',u',e2⟩:=Q0 C (k:=k+2) (h:=⟨h.n,h.n,h.os⟩) (t:=B.w) (rs:=.tup (B.rows.map .tup)) (wd:=B.wd) (g:=B.gr) B.rows 0 aE aE aE aE λr hr=>⟨by have:=(b.r2 r hr).1;lia,(b.r2 r hr).2⟩
 unfold Bd.w at e1 e2 ⊢;simp[xu,exs,ev,e1,QM,bH,aS,kG,eG,iA,HT.bF,QT (show(B.rows.map W.tup).length<1000000 by rw[bz];lia),e2]
end
structure CoreD(F:Nat->Option Fn):Prop where
 f2:F 2=aD Fj
 f3:F 3=aD Cy
 f4:F 4=aD Jz
 f5:F 5=aD sG
theorem gU{h:VH}{i j:Int}:bY h (.int i) (.int j)=aD (decide (i=j)):=by unfold bY;simp only[toD];show aD (i==j)=_;by_cases q:i=j<;>simp[q]
theorem CH{i:Int}(h1:-(2 ^ 63)<=i)(h2:i<2 ^ 63):lU i=true:=by unfold lU;simp only[bE,fj];lia
theorem nN{h:VH}{i:Nat}{o o0:VO}(g:h.get i=aD o0):(h.set i o).get i=aD o:=by have hi:=bT g;unfold VH.get at g;rw[if_pos (i8.mpr hi)]at g;have hl:=(jJ.mp g).1;unfold VH.get VH.set;simp only[if_pos (i8.mpr hi)];rw[nQ hl]
theorem yZ{h:VH}{i j:Nat}{o o0:VO}(g:h.get i=aD o0)(hj:j≠i):(h.set i o).get j=h.get j:=gZ (bT g) hj
structure Dk(h:VH)(d c:Nat)(b:Nat):Prop where
 ne:d≠c
 st:∃(ns cells:List Int) (p q:Int),h.get d=aD (.lst [.fz (ns.map .int),.ref c,.int p,.int q])/\h.get c=aD (.lst (cells.map .int))/\(∀x∈cells,(0:Int)<=x)/\0<=p/\0<=q/\q<=b/\cells.length<=63
theorem Dk.mono{h:VH}{d c b b':Nat}(D:Dk h d c b)(hb:b<=b'):Dk h d c b':=by obtain⟨ne,ns,cells,p,q,a1,a2,a3,a4,a5,a6,a7⟩:=D;exact⟨ne,ns,cells,p,q,a1,a2,a3,a4,a5,by lia,a7⟩
structure bS(h h':VH)(d c:Nat):Prop where
 le:h.n<=h'.n
 get:∀i o,i≠d->i≠c->h.get i=aD o->h'.get i=aD o
theorem bS.refl{h:VH}{d c:Nat}:bS h h d c:=⟨aT _,λ_ _ _ _ e=>e⟩
theorem bS.trans{h h1 h2:VH}{d c:Nat}(a:bS h h1 d c)(b:bS h1 h2 d c):bS h h2 d c:=⟨ie a.le b.le,λi o h1 h2 e=>b.get i o h1 h2 (a.get i o h1 h2 e)⟩
theorem JV(i:Int):(if i<0 then -i else i)=(i.natAbs:Int):=by split<;>lia
section
variable{F:Nat->Option Fn}(C:CoreD F)
include C
theorem cell{k:Nat}{h:VH}{ns:List Int}{j:Int}(hj:0<=j):∃r,run F (k+1) 2 [.fz (ns.map .int),.int j] h=.ok (.int r) h/\0<=r:=by
 rw[dW C.f2 rfl];cases ns with
 |nil=>
  refine⟨7*j+3,?_,by lia⟩;simp[Fj,exs,ev,jC,gT,aS,aU,gU,gJ,eY,CH,dO]
 |cons n0 tD=>
  have hl:(0:Int)< ((n0::tD).length:Int):=by simp only[fD];lia
  have hm1:=DR j (show((n0::tD).length:Int)≠0 by lia);have hm2:=DQ j hl;obtain⟨m,hm⟩:=jh hm1;have hml:m< (n0::tD).length:=by lia
  have ha:cZ (List.map W.int (n0::tD)) (j % ((n0::tD).length:Int))=aD (.int ((n0::tD)[m])):=by rw[hm];exact iN (by rw[gh,eT hml];rfl)
  have hb:¬(((tD.length:Int)+1)=0):=by lia
  have hp:(0:Int)< (tD.length:Int)+1:=by lia
  refine⟨(((n0::tD)[m]).natAbs:Int),?_,by lia⟩;simp only[fD,Int.natCast_add,Int.cast_ofNat_Int,gQ]at ha;simp[Fj,exs,ev,jC,gT,aS,aU,gU,gJ,eY,dO,bM,k9,hb,hp,ha,JV]
theorem mixed{k:Nat}{h:VH}{ns:List Int}{j m:Int}(hj:0<=j)(hj2:j<=1000000000)(hm:0<m):∃r,run F (k+2) 4 [.fz (ns.map .int),.int j,.int m] h=.ok (.int r) h/\0<=r/\r<m:=by
 rw[dW C.f4 rfl];obtain⟨c,e1,hc⟩:=cell C (k:=k) (h:=⟨h.n,h.n,h.os⟩) (ns:=ns) hj;have h1:=DR c (show(1000003:Int)≠0 by decide);have h2:=DQ c (show(0:Int)<1000003 by decide);generalize hx:c % 1000003=x at h1 h2;have s1:lU (x+5)=true:=CH (by lia) (by lia);have s2:lU 7919=true:=CH (by decide) (by decide);have hb:(x+5)* (j+2)<=1000008*1000000002:=Int.mul_le_mul (by lia) (by lia) (by lia) (by lia);have hb0:0<=(x+5)* (j+2):=Int.mul_nonneg (by lia) (by lia);generalize hy:(x+5)* (j+2)=y at hb hb0;have hn:(y+7919*j).natAbs<2 ^ 64:=by lia
 refine⟨(y+7919*j) ^ 5 % 2147483647/13 % m,?_,DR _ (by lia),DQ _ hm⟩;have hn':(y+7919*j).natAbs<18446744073709551616:=by lia
 simp[Jz,exs,ev,e1,gJ,eY,hx,s1,s2,hy,hn',hm,dO]
theorem Q2{k:Nat}{d c:Nat}{m q:Int}{ns:List Int}(hdc:d≠c)(hm:0<m)(hm2:m<1073741824):∀(n f:Nat) (g:VH) (x:Option W) (cells:List Int) (p:Int),n<f->(cells.length:Int)-p<=n->0<=p->(∀y∈cells,(0:Int)<=y)->
 g.get d=aD (.lst [.fz (ns.map .int),.ref c,.int p,.int q])->g.get c=aD (.lst (cells.map .int))->
 ∃(g':VH) (cells':List Int) (p':Int),0<=p'/\(∀y∈cells',(0:Int)<=y)/\cells'.length=cells.length/\g'.get d=aD (.lst [.fz (ns.map .int),.ref c,.int p',.int q])/\g'.get c=aD (.lst (cells'.map .int))/\g'.n=g.n/\(∀i,i≠d->i≠c->g'.get i=g.get i)/\
  ((∃r,fJ (ev (run F (k+2)) Cz) (exs (run F (k+2)) xo) f [aD (.ref d),aD (.int m),x] g=.ok (.rt (.int r)) g'/\0<=r/\r<m)\/∃y,fJ (ev (run F (k+2)) Cz) (exs (run F (k+2)) xo) f [aD (.ref d),aD (.int m),x] g=.ok (.nx [aD (.ref d),aD (.int m),y]) g')
 |n,0,g,x,cells,p,hf,_,_,_,_,_=>by lia
 |n,f+1,g,x,cells,p,hf,hn,hp,hnn,gd,gc=>by
  have ec:ev (run F (k+2)) Cz [aD (.ref d),aD (.int m),x] g=.ok (.bl (decide (p<cells.length))) g:=by simp[Cz,ev,bM,gd,cZ,gR,jC,gT,aS,gc,aU,fU]
  by_cases hlt:p<cells.length;obtain⟨pn,rfl⟩:=jh hp;have hpl:pn<cells.length:=by lia
  have hat:cZ (cells.map W.int) (pn:Int)=aD (.int cells[pn]):=iN (by rw[gh,eT hpl];rfl)
  by_cases hpos:0<cells[pn];refine⟨g.set c (.lst ((cells.set pn (cells[pn]/m)).map .int)),cells.set pn (cells[pn]/m),pn,hp,?_,by simp,?_,nN gc,rfl,λi _ hi=>yZ gc hi,.inl ⟨cells[pn] % m,?_,DR _ (by lia),DQ _ hm⟩⟩;intro y hy;rcases List.mem_or_eq_of_mem_set hy with hy|rfl
  exact hnn y hy;exact Int.ediv_nonneg (by lia) (by lia);rw[yZ gc hdc];exact gd;have hix:gR (cells.map W.int).length (pn:Int)=aD pn:=by unfold gR;rw[if_pos (by lia),if_pos (by rw[bz];lia)];simp
  have eb:exs (run F (k+2)) xo [aD (.ref d),aD (.int m),x] g=.ok (.rt (.int (cells[pn] % m))) (g.set c (.lst ((cells.set pn (cells[pn]/m)).map .int))):=by have h2:cZ [W.fz (ns.map .int),.ref c,.int pn,.int q] 2=aD (.int pn):=rfl;have h1:cZ [W.fz (ns.map .int),.ref c,.int pn,.int q] 1=aD (.ref c):=rfl;simp[xo,exs,ev,bM,gd,h1,h2,gc,hat,aU,fU,hpos,gJ,eY,hm,hm2]at hix ⊢;simp[hix,hm,vG]
  simp[fJ,ec,hlt,eb];have gs:(g.set d (.lst [.fz (ns.map .int),.ref c,.int ((pn:Int)+1),.int q])).get c=aD (.lst (cells.map .int)):=by rw[yZ gd (eX hdc)];exact gc
  cases n with
  |zero=>lia
  |succ n=>
   obtain⟨g',cells',p',a1,a2,a3,a4,a5,a6,a7,a8⟩:=Q2 (k:=k) hdc hm hm2 n f (g.set d (.lst [.fz (ns.map .int),.ref c,.int ((pn:Int)+1),.int q])) (aD (.int cells[pn])) cells (pn+1) (by lia) (by lia) (by lia) hnn (nN gd) gs;have eb:exs (run F (k+2)) xo [aD (.ref d),aD (.int m),x] g=.ok (.nx [aD (.ref d),aD (.int m),aD (.int cells[pn])]) (g.set d (.lst [.fz (ns.map .int),.ref c,.int ((pn:Int)+1),.int q])):=by have h2:cZ [W.fz (ns.map .int),.ref c,.int pn,.int q] 2=aD (.int pn):=rfl;have h1:cZ [W.fz (ns.map .int),.ref c,.int pn,.int q] 1=aD (.ref c):=rfl;have h3:gR 4 2=aD 2:=rfl;simp[xo,exs,ev,bM,gd,h1,h2,h3,gc,hat,aU,fU,hpos,gJ,eY]
   refine⟨g',cells',p',a1,a2,a3,a4,a5,a6,λi h1 h2=>by rw[a7 i h1 h2,yZ gd h1],?_⟩;rcases a8 with⟨r,e,h3⟩|⟨y,e⟩
   exact .inl ⟨r,by simp[fJ,ec,hlt,eb,e],h3⟩;exact .inr ⟨y,by simp[fJ,ec,hlt,eb,e]⟩
  exact⟨g,cells,p,hp,hnn,rfl,gd,gc,rfl,λ_ _ _=>rfl,.inr ⟨x,by simp[fJ,ec,hlt]⟩⟩
omit C in
theorem Q3{h h':VH}{w:W}(g:fK ⟨h.n,h.n,h.os⟩ h'):∃h2,leave h w h'=.ok w h2/\h.n<=h2.n/\∀i,i<h.n->h2.get i=h'.get i:=by
 unfold leave;split;rename_i q;rw[bE]at q;have hlo:=kr q.1;exact⟨h,rfl,aT _,λi hi=>by
  rw[g.2.2 i hi (dP hi hlo)];exact bJ.symm⟩
 exact⟨_,rfl,g.1,λi hi=>bJ⟩
theorem take{k:Nat}{h:VH}{d c b:Nat}{m:Int}(D:Dk h d c b)(hb:b<1000000000)(hm:0<m)(hm2:m<1073741824):∃r h',run F (k+3) 5 [.ref d,.int m] h=.ok (.int r) h'/\0<=r/\r<m/\Dk h' d c (b+1)/\bS h h' d c:=by
 rw[dW C.f5 rfl];obtain⟨hne,ns,cells,p,q,gd,gc,hnn,hp,hq,hqb,hl⟩:=D;have ZV:VH.get ⟨h.n,h.n,h.os⟩ d=aD (.lst [.fz (ns.map .int),.ref c,.int p,.int q]):=by rw[bJ];exact gd
 have ZW:VH.get ⟨h.n,h.n,h.os⟩ c=aD (.lst (cells.map .int)):=by rw[bJ];exact gc
 obtain⟨g',cells',p',a1,a2,a3,a4,a5,a6,a7,a8⟩:=Q2 C (k:=k) hne hm hm2 63 fuel ⟨h.n,h.n,h.os⟩ aE cells p (by decide) (by lia) hp hnn ZV ZW;have key:∀(g2:VH)(r:Int)(iH:List Int)(p2 q2:Int),exs (run F (k+2)) sG.body [aD (.ref d),aD (.int m),aE] ⟨h.n,h.n,h.os⟩=.ok (.rt (.int r)) g2->0<=r->r<m->0<=p2->0<=q2->q2<=b+1->iH.length<=63->(∀y∈iH,(0:Int)<=y)->
  g2.get d=aD (.lst [.fz (ns.map .int),.ref c,.int p2,.int q2])->g2.get c=aD (.lst (iH.map .int))->(∀i,i<h.n->i≠d->i≠c->g2.get i=h.get i)->
  ∃r h',fin h (exs (run F (k+2)) sG.body ([W.ref d,W.int m].map aD++bD (sG.n-sG.ps) aE) ⟨h.n,h.n,h.os⟩)=.ok (.int r) h'/\0<=r/\r<m/\Dk h' d c (b+1)/\bS h h' d c:=by
  intro g2 r iH p2 q2 e r1 r2 b1 b2 b3 b4 b5 b6 b7 b8;obtain⟨h2,e2,hn2,lA⟩:=Q3 (w:=.int r) (E6 (E7 F (k+2)) _ _ _ _ _ e);refine⟨r,h2,?_,r1,r2,⟨hne,ns,iH,p2,q2,?_,?_,b5,b1,b2,by lia,b4⟩,⟨hn2,λi o h1 h3 e3=>?_⟩⟩;show fin h (exs (run F (k+2)) sG.body [aD (.ref d),aD (.int m),aE] ⟨h.n,h.n,h.os⟩)=_;rw[e];exact e2;rw[lA d (bT gd)];exact b6;rw[lA c (bT gc)];exact b7;rw[lA i (bT e3),b8 i (bT e3) h1 h3];exact e3
 rcases a8 with⟨r,e,r1,r2⟩|⟨y,e⟩;refine key g' r cells' p' q ?_ r1 r2 a1 hq (by lia) (by lia) a2 a4 a5 λi hi h1 h2=>by rw[a7 i h1 h2,bJ]
 simp[sG,exs,e];obtain⟨r,e2,r1,r2⟩:=mixed C (k:=k) (h:=g'.set d (.lst [.fz (ns.map .int),.ref c,.int p',.int (q+1)])) (ns:=ns) (j:=q+1) (m:=m) (by lia) (by lia) hm;refine key (g'.set d (.lst [.fz (ns.map .int),.ref c,.int p',.int (q+1)])) r cells' p' (q+1) ?_ r1 r2 a1 (by lia) (by lia) (by lia) a2 (nN a4) (by rw[yZ a4 (eX hne)];exact a5) λi hi h1 h2=>by rw[yZ a4 h1,a7 i h1 h2,bJ]
 have h3:cZ [W.fz (ns.map .int),.ref c,.int p',.int q] 3=aD (.int q):=rfl;have h30:cZ [W.fz (ns.map .int),.ref c,.int p',.int (q+1)] 3=aD (.int (q+1)):=rfl;have ZX:cZ [W.fz (ns.map .int),.ref c,.int p',.int (q+1)] 0=aD (.fz (ns.map .int)):=rfl;have ZY:gR 4 3=aD 3:=rfl;have hs:=nN (o:=.lst [.fz (ns.map .int),.ref c,.int p',.int (q+1)]) a4;simp[sG,exs,e,ev,bM,a4,h3,gJ,eY,ZY,hs,h30,ZX,e2]
end
theorem bI{cl:Call}{a b:S}{ρ ρ':En}{h h':VH}(e:exs cl a ρ h=.ok (.nx ρ') h'):exs cl (.seq a b) ρ h=exs cl b ρ' h':=by simp only[exs,e,aF]
theorem jw{cl:Call}{a b:S}{ρ:En}{w:W}{h h':VH}(e:exs cl a ρ h=.ok (.rt w) h'):exs cl (.seq a b) ρ h=.ok (.rt w) h':=by simp only[exs,e,aF]
@[simp] theorem CI {cl:Call} {ρ:En} {h:VH}:exs cl .skip ρ h=.ok (.nx ρ) h:=rfl
theorem Dk.new{h:VH}{d c b:Nat}{o:VO}(D:Dk h d c b):Dk (h.new o) d c b:=by obtain⟨ne,ns,cells,p,q,a1,a2,a3⟩:=D;exact⟨ne,ns,cells,p,q,by rw[eK (bT a1)];exact a1,by rw[eK (bT a2)];exact a2,a3⟩
theorem bS.new{h h':VH}{d c:Nat}{o:VO}(K:bS h h' d c):bS h (h'.new o) d c:=⟨zu K.le,λi o' h1 h2 e=>by
 have:=K.get i o' h1 h2 e;rw[eK (bT this)];exact this⟩
theorem Dk.lo{h:VH}{d c b l:Nat}(D:Dk h d c b):Dk ⟨h.n,l,h.os⟩ d c b:=by obtain⟨ne,ns,cells,p,q,a1,a2,a3⟩:=D;exact⟨ne,ns,cells,p,q,by rw[bJ];exact a1,by rw[bJ];exact a2,a3⟩
theorem u5{cl:Call}{h h':VH}{d c b:Nat}{w:W}{fl:Fl}{body:S}{ρ:En}{F:Nat->Option Fn}{k:Nat}(e:exs (run F k) body ρ ⟨h.n,h.n,h.os⟩=.ok (.rt w) h')(D0:Dk h d c 0\/∃b,Dk h d c b)(D:Dk h' d c b)(K:bS ⟨h.n,h.n,h.os⟩ h' d c) :
 ∃h2,fin h (exs (run F k) body ρ ⟨h.n,h.n,h.os⟩)=.ok w h2/\Dk h2 d c b/\bS h h2 d c:=by
 obtain⟨h2,e2,hn2,lA⟩:=Q3 (w:=w) (E6 (E7 F k) _ _ _ _ _ e);have hd:d<h.n/\c<h.n:=by rcases D0 with⟨_,ns,cells,p,q,a1,a2,_⟩|⟨b,_,ns,cells,p,q,a1,a2,_⟩<;>exact⟨bT a1,bT a2⟩
 refine⟨h2,by rw[e];exact e2,?_,⟨hn2,λi o h1 h3 e3=>?_⟩⟩;obtain⟨ne,ns,cells,p,q,a1,a2,a3⟩:=D;exact⟨ne,ns,cells,p,q,by rw[lA d hd.1];exact a1,by rw[lA c hd.2];exact a2,a3⟩;rw[lA i (bT e3)];exact K.get i o h1 h3 (by rw[bJ];exact e3)
noncomputable abbrev aJ:Str:=Str.ofString "."
noncomputable abbrev ck:Str:=Str.ofString "<"
noncomputable abbrev cz:Str:=Str.ofString ">"
noncomputable abbrev sX:Str:=Str.ofString "x"
noncomputable abbrev sS:Str:=Str.ofString "s"
theorem JW{c wd g:Int}:ff (.str aJ) c wd g=true:=rfl
theorem CJ{c wd g:Int}:ff (.str sS) c wd g=true:=rfl
theorem Q4{c wd g:Int}(h:0<c):ff (.str ck) c wd g=true:=by have:ff (.str ck) c wd g=decide (0<c):=rfl;rw[this];simpa using h
theorem Q5{c wd g:Int}(h:c<wd-1):ff (.str cz) c wd g=true:=by have:ff (.str cz) c wd g=decide (c<wd-1):=rfl;rw[this];simpa using h
theorem CL{c wd g:Int}(h:0<c)(h2:c<wd-1):ff (.str sX) c wd g=true:=by have:ff (.str sX) c wd g=(decide (0<c)&&decide (c<wd-1)):=rfl;rw[this];simp[h,h2]
theorem ZZ{c wd g a b:Int}(a0:0<=a)(a1:a<g)(b0:0<=b)(b1:b<2)(h:0<c)(h2:c<wd-1):ff (.tup [.int a,.int b]) c wd g=true:=by
 have h3:nk (.tup [.int a,.int b]) g=true:=by simp only[nk,within,bE,fj];lia
 unfold ff;rw[h3,Bool.or_true,if_pos rfl];simp[h,h2]
inductive Raw(g:Int):W->Prop
 |dot:Raw g (.str aJ)
 |lt:Raw g (.str ck)
 |gt:Raw g (.str cz)
 |x:Raw g (.str sX)
 |rk {a b:Int}:0<=a->a<g->0<=b->b<2->Raw g (.tup [.int a,.int b])
theorem mE{h:VH}{x y z:Str}(hx:PyData.strOk x)(hy:PyData.strOk y)(hz:PyData.strOk z):mW h (.str x) (.tup [.str y,.str z])=aD (y==x||z==x):=by
 have sx:SeqAt.shaped (.str x)=true:=by unfold SeqAt.shaped;show(PyData.strOk x&&_)=true;rw[hx];rfl
 have sy:SeqAt.shaped (.str y)=true:=by unfold SeqAt.shaped;show(PyData.strOk y&&_)=true;rw[hy];rfl
 have sz:SeqAt.shaped (.str z)=true:=by unfold SeqAt.shaped;show(PyData.strOk z&&_)=true;rw[hz];rfl
 simp[mW,aS,toD,aV,sx,sy,sz,fy,PyData.eqv]
theorem FW{h:VH}{a b:Int}{y z:Str}(hy:PyData.strOk y)(hz:PyData.strOk z):mW h (.tup [.int a,.int b]) (.tup [.str y,.str z])=aD false:=by
 have sy:SeqAt.shaped (.str y)=true:=by unfold SeqAt.shaped;show(PyData.strOk y&&_)=true;rw[hy];rfl
 have sz:SeqAt.shaped (.str z)=true:=by unfold SeqAt.shaped;show(PyData.strOk z&&_)=true;rw[hz];rfl
 have st:SeqAt.shaped (.tuple [.int a,.int b])=true:=rfl;simp[mW,aS,toD,aV,sy,sz,st,fy,PyData.eqv]
noncomputable def kg:E:=(.or (.and (.cmp .eq (.var 1) (.cst (.int (0)))) (.cmp .wG (.var 5) (.tup (.cons (.cst (.str aJ)) (.cons (.cst (.str cz)) .nil))))) (.and (.cmp .eq (.var 1) (.op .sub (.var 2) (.cst (.int (1))))) (.cmp .wG (.var 5) (.tup (.cons (.cst (.str aJ)) (.cons (.cst (.str ck)) .nil))))))
noncomputable def tE:E:=(.idx (.lst (.cons (.cst (.str cz)) (.cons (.cst (.str ck)) (.cons (.cst (.str aJ)) .nil)))) (.bi .min (.cons (.op .add (.bi .int (.cons (.cmp .gt (.var 1) (.cst (.int (0)))) .nil)) (.op .mul (.cst (.int (2))) (.bi .int (.cons (.cmp .eq (.var 2) (.cst (.int (1)))) .nil)))) (.cons (.cst (.int (2))) .nil))))
noncomputable def tF(P:Int->W->Prop):Int->List W->Prop|_,[]=>True|a,w::r=>P a w/\tF P (a+1) r
theorem xH{P:W->Prop}:∀{ws:List W} {a:Int},tF (λ_ w=>P w) a ws->∀w∈ws,P w
 |[],_,_,w,h=>by cases h
 |x::r,a,⟨h1,h2⟩,w,h=>by
  rcases fP.mp h with rfl|h;exact h1;exact xH h2 w h
theorem u6{cl:Call}{P:Int->W->Prop}{e:E}{tl:En}{d c m lim:Nat}(hs:∀(i:Int) (h:VH) (b:Nat),0<=i->i<lim->Dk h d c b->b+m<1000000000->∃w h',ev cl e (aD (.int i)::tl) h=.ok w h'/\P i w/\Dk h' d c (b+m)/\bS h h' d c) :
 ∀(n:Nat)(a:Int)(x:Option W)(h:VH)(b:Nat),0<=a->a+n<=lim->Dk h d c b->b+m*n<1000000000->
  ∃ws h',mC (bH (.one 0)) (λ_ h=>.ok (.bl true) h) (ev cl e) (kK a n) (x::tl) h=.ok ws h'/\tF P a ws/\ws.length=n/\Dk h' d c (b+m*n)/\bS h h' d c
 |0,a,x,h,b,_,_,D,_=>⟨[],h,rfl,trivial,rfl,by simpa using D,.refl⟩
 |n+1,a,x,h,b,ha,hl,D,hb=>by
  have e1:m* (n+1)=m*n+m:=Nat.mul_succ m n;obtain⟨w,h1,e2,p1,D1,K1⟩:=hs a h b ha (by lia) D (by lia);obtain⟨ws,h2,e3,p2,l2,D2,K2⟩:=u6 hs n (a+1) (aD (.int a)) h1 (b+m) (by lia) (by lia) D1 (by lia);refine⟨w::ws,h2,?_,⟨p1,p2⟩,by rw[fD,l2],D2.mono (by lia),K1.trans K2⟩;simp only[kK,mC,bH,List.set,ev,aF,e2,e3]
theorem Q6{cl:Call}:ev cl (.cst (.bl true))=λ_ h=>.ok (.bl true) h:=rfl
theorem u7{n:Nat}(h:n<=1000000):Nat.ble n big=true:=qK.mpr (ie h (by decide))
theorem Z0{cl:Call}{a:E}{ρ:En}{h h1 h2:VH}{n ow:Nat}{ix:List Nat}{e:E}{ys:List W}(ea:ev cl a ρ h=.ok (.tup [.int n]) h1)(hn:n<1000000)(el:mC (bH (.one 0)) (λ_ h=>.ok (.bl true) h) (ev cl e) (kK 0 n) (inner ow ix ρ) h1=.ok ys h2)(hy:ys.length<=1000000) :
 ev cl (.lc .bG a (.one 0) ow ix (.cst (.bl true)) e) ρ h=.ok (.ref h2.n) (h2.new (.lst ys)):=by
 have l:=Zu (n:=n) (tg:=bH (.one 0)) (c:=λ_ h=>.ok (.bl true) h) (e:=ev cl e) (ρ:=inner ow ix ρ) (h:=h1) hn;rw[el]at l;have q:ev cl (.lc .bG a (.one 0) ow ix (.cst (.bl true)) e) ρ h=(ev cl a ρ h).bind λx h=>(gp (bg .bG x) (bH (.one 0)) (ev cl (.cst (.bl true))) (ev cl e) fuel 0 (inner ow ix ρ) h []).bind λys h=>if Nat.ble ys.length big then .ok (.ref h.n) (h.new (.lst ys))else .no:=by rw[ev]
 rw[q,ea,aF];show(gp (bg .bG (.tup [.int n])) (bH (.one 0)) (λ_ h=>.ok (.bl true) h) (ev cl e) fuel 0 (inner ow ix ρ) h1 []).bind _=_;rw[l,aF,if_pos (u7 hy)]
theorem Z1{cl:Call}{x:E}{ρ:En}{h h1:VH}{i:Nat}{ys:List W}(e:ev cl x ρ h=.ok (.ref i) h1)(g:h1.get i=aD (.lst ys)):ev cl (.bi .tuple (.cons x .nil)) ρ h=.ok (.tup ys) h1:=by simp only[ev,e,aF,jC,wJ,aS,g,vL,fN]
theorem xJ{cl:Call}{a:E}{ρ:En}{h h1 h2:VH}{n ow:Nat}{ix:List Nat}{e:E}{ys:List W}(ea:ev cl a ρ h=.ok (.tup [.int n]) h1)(hn:n<1000000)(el:mC (bH (.one 0)) (λ_ h=>.ok (.bl true) h) (ev cl e) (kK 0 n) (inner ow ix ρ) h1=.ok ys h2)(hy:ys.length<=1000000) :
 ev cl (.bi .tuple (.cons (.lc .bG a (.one 0) ow ix (.cst (.bl true)) e) .nil)) ρ h=.ok (.tup ys) (h2.new (.lst ys)):=Z1 (Z0 ea hn el hy) eB
theorem Q7{wd g:Int}:∀{ws:List W} {c:Int},tF (λi w=>ff w i wd g=true) c ws->cV wd g c ws|[],_,_=>trivial|_::_,_,⟨h1,h2⟩=>⟨h1,Q7 h2⟩
theorem Z2{n:Nat}(h:n<=1000000):Nat.blt n big=true:=i8.mpr (Nat.lt_of_le_of_lt h (by decide))
theorem Z3{w:W}{g:Int}(h:nk w g):∃a b:Int,w=.tup [.int a,.int b]/\0<=a/\a<g/\0<=b/\b<2:=by
 cases w<;>simp only[nk]at h<;>try(cases h;done)
 rename_i us;rcases us with _|⟨a,_|⟨b,_|_⟩⟩<;>simp at h
 obtain⟨h1,h2⟩:=h;cases a<;>simp[within]at h1;cases b<;>simp[within]at h2;exact⟨_,_,rfl,by lia,by lia,by lia,by lia⟩
theorem Q8{w:W}{n:Int}(h:door w n):∃(a:Int) (b:W),w=.tup [.int a,b]/\0<=a/\a<=99/\(b=.aQ\/∃i:Int,b=.int i/\0<=i/\i<n):=by
 cases w<;>simp only[door]at h<;>try(cases h;done)
 rename_i us;rcases us with _|⟨a,_|⟨b,_|_⟩⟩<;>simp at h
 obtain⟨h1,h2⟩:=h;cases a<;>simp[within]at h1;unfold uZ at h2;cases b<;>simp[within,cU]at h2;exact⟨_,_,rfl,h1.1,h1.2,.inl rfl⟩;exact⟨_,_,rfl,h1.1,h1.2,.inr ⟨_,rfl,by lia,by lia⟩⟩
noncomputable def bC(w:W)(hd:Int)(ls:List Int):Option (Int×List Int×List Int):=match w with|.tup [.int g,.int s]=>aD (if ls.getD g.toNat 0=s then -1 else 1,[g],ls.set g.toNat (1-ls.getD g.toNat 0))|.str x=>if x==sS then aE else if x==sX then aD (hd,[],ls)else if x==aJ then aD (0,[],ls)else aD (if x==ck then -1 else 1,[],ls)|_=>aE
noncomputable def cj(r:List W)(c:Int):W:=(r[c.toNat]?).getD .aQ
noncomputable def gF(ls:List Int):Prop:=∀x∈ls,x=0\/x=1
theorem FY{w:W}{c wd g:Int}(h:ff w c wd g):(w=.str sX/\0<c/\c<wd-1)\/(w=.str ck/\0<c)\/(w=.str cz/\c<wd-1)\/w=.str aJ\/w=.str sS\/∃a b:Nat,w=.tup [.int a,.int b]/\(a:Int)<g/\b<2/\0<c/\c<wd-1:=by
 unfold ff at h;split at h;rename_i q;rw[bE,fj,fj]at h;rw[pY]at q;rcases q with q|q
 exact .inl ⟨yY q,h⟩;obtain⟨a,b,rfl,h1,h2,h3,h4⟩:=Z3 q;obtain⟨a,rfl⟩:=jh h1;obtain⟨b,rfl⟩:=jh h3;exact .inr (.inr (.inr (.inr (.inr ⟨a,b,rfl,h2,by lia,h⟩))));split at h;rename_i q;exact .inr (.inl ⟨yY q,by simpa using h⟩);split at h;rename_i q;exact .inr (.inr (.inl ⟨yY q,by simpa using h⟩));rw[pY]at h;rcases h with q|q
 exact .inr (.inr (.inr (.inl (yY q))));exact .inr (.inr (.inr (.inr (.inl (yY q)))))
theorem JX{hd:Int}{ls:List Int}:bC (.str sX) hd ls=aD (hd,[],ls):=rfl
theorem JY{hd:Int}{ls:List Int}:bC (.str ck) hd ls=aD (-1,[],ls):=rfl
theorem JZ{hd:Int}{ls:List Int}:bC (.str cz) hd ls=aD (1,[],ls):=rfl
theorem J0{hd:Int}{ls:List Int}:bC (.str aJ) hd ls=aD (0,[],ls):=rfl
theorem J4{hd:Int}{ls:List Int}:bC (.str sS) hd ls=aE:=rfl
theorem J5{hd:Int}{ls:List Int}{a b:Nat}:bC (.tup [.int a,.int b]) hd ls=aD (if ls.getD a 0=b then -1 else 1,[(a:Int)],ls.set a (1-ls.getD a 0)):=rfl
theorem Z4{ls:List Int}(h:gF ls)(a:Nat):ls.getD a 0=0\/ls.getD a 0=1:=by
 rw[tU];cases q:ls[a]? with|none=>exact .inl rfl|some x=>exact h x (jg q)
theorem Z5{w:W}{c wd g hd:Int}{ls:List Int}(h:ff w c wd g)(c0:0<=c)(c1:c<wd)(h1:-1<=hd)(h2:hd<=1)(b:gF ls){d:Int}{t l:List Int}(e:bC w hd ls=aD (d,t,l)):-1<=d/\d<=1/\0<=c+d/\c+d<wd/\l.length=ls.length/\gF l/\t.length<=1:=by rcases FY h with⟨rfl,h3,h4⟩|⟨rfl,h3⟩|⟨rfl,h3⟩|rfl|rfl|⟨p,q,rfl,h3,h4,h5,h6⟩;rw[JX]at e;cases e;exact⟨h1,h2,by lia,by lia,rfl,b,by simp⟩;rw[JY]at e;cases e;exact⟨by lia,by lia,by lia,by lia,rfl,b,by simp⟩;rw[JZ]at e;cases e;exact⟨by lia,by lia,by lia,by lia,rfl,b,by simp⟩;rw[J0]at e;cases e;exact⟨by lia,by lia,by lia,by lia,rfl,b,by simp⟩;rw[J4]at e;cases e;rw[J5]at e;cases e;refine⟨by split<;>lia,by split<;>lia,by split<;>lia,by split<;>lia,by simp,λx hx=>?_,by simp⟩;rcases List.mem_or_eq_of_mem_set hx with hx|rfl;exact b x hx;rcases Z4 b p with q|q<;>rw[q]<;>lia
noncomputable def Q9(wd g:Int)(rs:List (List W)):Prop:=∀r∈rs,(r.length:Int)=wd/\cV wd g 0 r
theorem Ra{wd g:Int}:∀{ws:List W} {c:Int} (i:Nat) {w:W},cV wd g c ws->ws[i]?=aD w->ff w (c+i) wd g=true
 |[],_,_,_,_,e=>by simp at e
 |x::r,c,0,w,⟨h1,h2⟩,e=>by
  simp at e;subst e;simpa using h1
 |x::r,c,i+1,w,⟨h1,h2⟩,e=>by
  have:=Ra i h2 (by simpa using e);rw[show c+ ((i+1:Nat):Int)=c+1+i by push_cast;lia];exact this
theorem FZ{wd g c:Int}{r:List W}(h:(r.length:Int)=wd/\cV wd g 0 r)(c0:0<=c)(c1:c<wd):r[c.toNat]?=aD (cj r c)/\ff (cj r c) c wd g=true:=by
 obtain⟨n,rfl⟩:=jh c0;have hn:n<r.length:=by lia
 have e:r[n]?=aD r[n]:=eT hn;have e2:cj r n=r[n]:=by unfold cj;rw[tZ,e];rfl
 rw[e2,tZ];refine⟨e,?_⟩;have:=Ra n h.2 e;simpa using this
theorem fQ{h:VH}{x y:Str}(hx:PyData.strOk x)(hy:PyData.strOk y):bY h (.str x) (.str y)=aD (x==y):=by rw[nM (x:=y) (by exact hx) hy];rfl
@[simp] theorem J6 {h:VH}:bY h (.str sX) (.str (bw "x"))=aD true:=(fQ (by decide +kernel) (by decide +kernel)).trans (by decide +kernel)
@[simp] theorem tG {h:VH}:bY h (.str sX) (.str (bw "<"))=aD false:=(fQ (by decide +kernel) (by decide +kernel)).trans (by decide +kernel)
@[simp] theorem tH {h:VH}:bY h (.str sX) (.str (bw ">"))=aD false:=(fQ (by decide +kernel) (by decide +kernel)).trans (by decide +kernel)
@[simp] theorem pL {h:VH}:bY h (.str sX) (.str (bw "."))=aD false:=(fQ (by decide +kernel) (by decide +kernel)).trans (by decide +kernel)
@[simp] theorem J7 {h:VH}:bY h (.str sX) (.str (bw "s"))=aD false:=(fQ (by decide +kernel) (by decide +kernel)).trans (by decide +kernel)
@[simp] theorem F0 {h:VH}:bY h (.str ck) (.str (bw "x"))=aD false:=(fQ (by decide +kernel) (by decide +kernel)).trans (by decide +kernel)
@[simp] theorem pM {h:VH}:bY h (.str ck) (.str (bw "<"))=aD true:=(fQ (by decide +kernel) (by decide +kernel)).trans (by decide +kernel)
@[simp] theorem pN {h:VH}:bY h (.str ck) (.str (bw ">"))=aD false:=(fQ (by decide +kernel) (by decide +kernel)).trans (by decide +kernel)
@[simp] theorem nq {h:VH}:bY h (.str ck) (.str (bw "."))=aD false:=(fQ (by decide +kernel) (by decide +kernel)).trans (by decide +kernel)
@[simp] theorem F1 {h:VH}:bY h (.str ck) (.str (bw "s"))=aD false:=(fQ (by decide +kernel) (by decide +kernel)).trans (by decide +kernel)
@[simp] theorem F2 {h:VH}:bY h (.str cz) (.str (bw "x"))=aD false:=(fQ (by decide +kernel) (by decide +kernel)).trans (by decide +kernel)
@[simp] theorem pO {h:VH}:bY h (.str cz) (.str (bw "<"))=aD false:=(fQ (by decide +kernel) (by decide +kernel)).trans (by decide +kernel)
@[simp] theorem pP {h:VH}:bY h (.str cz) (.str (bw ">"))=aD true:=(fQ (by decide +kernel) (by decide +kernel)).trans (by decide +kernel)
@[simp] theorem nt {h:VH}:bY h (.str cz) (.str (bw "."))=aD false:=(fQ (by decide +kernel) (by decide +kernel)).trans (by decide +kernel)
@[simp] theorem F3 {h:VH}:bY h (.str cz) (.str (bw "s"))=aD false:=(fQ (by decide +kernel) (by decide +kernel)).trans (by decide +kernel)
@[simp] theorem CM {h:VH}:bY h (.str aJ) (.str (bw "x"))=aD false:=(fQ (by decide +kernel) (by decide +kernel)).trans (by decide +kernel)
@[simp] theorem nu {h:VH}:bY h (.str aJ) (.str (bw "<"))=aD false:=(fQ (by decide +kernel) (by decide +kernel)).trans (by decide +kernel)
@[simp] theorem nv {h:VH}:bY h (.str aJ) (.str (bw ">"))=aD false:=(fQ (by decide +kernel) (by decide +kernel)).trans (by decide +kernel)
@[simp] theorem lB {h:VH}:bY h (.str aJ) (.str (bw "."))=aD true:=(fQ (by decide +kernel) (by decide +kernel)).trans (by decide +kernel)
@[simp] theorem CN {h:VH}:bY h (.str aJ) (.str (bw "s"))=aD false:=(fQ (by decide +kernel) (by decide +kernel)).trans (by decide +kernel)
@[simp] theorem J8 {h:VH}:bY h (.str sS) (.str (bw "x"))=aD false:=(fQ (by decide +kernel) (by decide +kernel)).trans (by decide +kernel)
@[simp] theorem F4 {h:VH}:bY h (.str sS) (.str (bw "<"))=aD false:=(fQ (by decide +kernel) (by decide +kernel)).trans (by decide +kernel)
@[simp] theorem F5 {h:VH}:bY h (.str sS) (.str (bw ">"))=aD false:=(fQ (by decide +kernel) (by decide +kernel)).trans (by decide +kernel)
@[simp] theorem CO {h:VH}:bY h (.str sS) (.str (bw "."))=aD false:=(fQ (by decide +kernel) (by decide +kernel)).trans (by decide +kernel)
@[simp] theorem J9 {h:VH}:bY h (.str sS) (.str (bw "s"))=aD true:=(fQ (by decide +kernel) (by decide +kernel)).trans (by decide +kernel)
theorem Rb{ls:List Int}{a:Nat}(h:a<ls.length):cZ (ls.map W.int) (a:Int)=aD (.int (ls.getD a 0)):=
 iN (by rw[gh,eT h,tU,eT h];rfl)
theorem F6{n a:Nat}(h:a<n):gR n (a:Int)=aD a:=by unfold gR;rw[if_pos (by lia),if_pos (by lia)];simp
theorem Rc{wd g c:Int}{r:List W}(ok:(r.length:Int)=wd/\cV wd g 0 r)(c0:0<=c)(c1:c<wd):cZ r c=aD (cj r c):=by have:=(FZ ok c0 c1).1;obtain⟨n,rfl⟩:=jh c0;rw[tZ]at this;exact iN this
noncomputable def iW(ls:List Int):W:=.tup (ls.map .int)
theorem Bd.Ok.xK{B:Bd}(b:B.Ok){f:Nat}(hf:f<B.fd.length):∃c:Int,B.fd[f]?=aD (.int c)/\0<=c/\c<B.wd:=by
 have h:=b.f3 _ (iK hf);have e:B.fd[f]?=aD B.fd[f]:=eT hf;generalize B.fd[f]=w at h e;cases w<;>simp only[within]at h<;>try(cases h;done)
 rename_i c;rw[bE,fj,fj]at h;exact⟨c,e,h.1,by lia⟩
noncomputable def Bd.col(B:Bd)(f:Nat):Int:=match B.fd[f]? with|some (.int c)=>c|_=>0
theorem Bd.Ok.col{B:Bd}(b:B.Ok){f:Nat}(hf:f<B.fd.length):B.fd[f]?=aD (.int (B.col f))/\0<=B.col f/\B.col f<B.wd:=by
 obtain⟨c,e,h⟩:=b.xK hf;have:B.col f=c:=by unfold Bd.col;rw[e]
 rw[this];exact⟨e,h⟩
noncomputable def Bd.door(B:Bd)(c:Int):W:=(B.dr[c.toNat]?).getD .aQ
theorem Bd.Ok.door{B:Bd}(b:B.Ok){c:Int}(c0:0<=c)(c1:c<B.wd):cZ B.dr c=aD (B.door c)/\RF.door (B.door c) B.fd.length=true:=by
 obtain⟨n,rfl⟩:=jh c0;have hd:=b.d1;have hn:n<B.dr.length:=by lia
 have e:B.dr[n]?=aD B.dr[n]:=eT hn;have e2:B.door n=B.dr[n]:=by unfold Bd.door;rw[tZ,e];rfl
 rw[e2];exact⟨iN e,b.d2 _ (iK hn)⟩
theorem Z6{ls:List Int}{g:Int}(hl:(ls.length:Int)=g)(b:gF ls):pK (iW ls) g g 0 1=true:=by unfold iW pK gK;simp only[bz,bE,fj,nH];refine⟨⟨by lia,by lia⟩,λw hw=>?_⟩;obtain⟨x,hx,rfl⟩:=jz.mp hw;rcases b x hx with rfl|rfl<;>rfl
noncomputable def aO(r:List Nat):List W:=r.map λ(f:Nat)=>W.int (f:Int)
noncomputable def kh:List (Key×W):=[(.inr aJ,.int 0),(.inr ck,.int (-1)),(.inr cz,.int 1)]
theorem Z7:EV [] [(.inr aJ,.int 0),(.inr ck,.int (-1)),(.inr cz,.int 1)]=kh:=by rfl
theorem zs2:b9 kh (.inr aJ)=aD (.int 0):=by rfl
theorem Z8:b9 kh (.inr ck)=aD (.int (-1)):=by rfl
theorem Z9:b9 kh (.inr cz)=aD (.int 1):=by rfl
theorem zxk{cl:Call}{ρ:En}{h:VH}:ev cl CD ρ h=.ok (.ref h.n) (h.new (.dk kh)):=by simp only[CD,ev,aF,uy,rV];rw[if_pos (by decide)];show Res.ok _ (h.new (.dk (EV [] _)))=_;rw[Z7]
theorem zs3{h:VH}{o:VO}:(h.new o).get h.n=aD o:=by unfold VH.get VH.new;rw[if_pos (i8.mpr (by show h.n<h.n+1;lia))];show(o::h.os)[h.n+1-1-h.n]?=_;rw[show h.n+1-1-h.n=0 by lia];rfl
theorem CP{h:VH}{p q:Int}{x:Str}(hx:PyData.strOk x):bY h (.tup [.int p,.int q]) (.str x)=aD false:=by rw[nM (x:=x) rfl hx];rfl
section
variable{F:Nat->Option Fn}(C:CoreD F)
include C
theorem Rf{k:Nat}:∀(ns:List Int) (x:Option W) (h:VH),∃cells:List Int,mC (bH (.one 0)) (ev (run F k) uJ) (ev (run F k) uK) (ns.map .int) [x] h=.ok (cells.map .int) h/\(∀y∈cells,(0:Int)<=y)/\cells.length<=ns.length
 |[],x,h=>⟨[],rfl,(λy hy=>by cases hy),aT _⟩
 |n::ns,x,h=>by
  obtain⟨cells,e,h1,h2⟩:=Rf (k:=k) ns (aD (.int n)) h;have HA:((10:Int).natAbs<2 ^ 64):=by decide
  have ec:ev (run F k) uJ [aD (.int n)] h=.ok (.bl (decide (1000000000000000000<=(n.natAbs:Int)))) h:=by simp[uJ,ev,jC,k9,gJ,eY,aU,fU,JV]
  have ee:ev (run F k) uK [aD (.int n)] h=.ok (.int (n.natAbs:Int)) h:=by simp[uK,ev,jC,k9,JV]
  by_cases q:1000000000000000000<=(n.natAbs:Int)
  refine⟨(n.natAbs:Int)::cells,?_,λy hy=>?_,by rw[fD,fD];lia⟩;simp only[mC,gQ,bH,List.set,ec,aF,q,Dr,ee,e];rcases fP.mp hy with rfl|hy
  lia;exact h1 y hy;refine⟨cells,?_,h1,by rw[fD];lia⟩;simp only[mC,gQ,bH,List.set,ec,aF,q,decide_false,e]
theorem J'{k:Nat}{h:VH}{ns:List Int}(hl:ns.length<=63):∃h',run F (k+1) 3 [.fz (ns.map .int)] h=.ok (.ref (h.n+1)) h'/\Dk h' (h.n+1) h.n 0:=by
 rw[dW C.f3 rfl];obtain⟨cells,e,h1,h2⟩:=Rf C (k:=k) ns aE ⟨h.n,h.n,h.os⟩;have l:=FT (nx:=bg .seq (.fz (ns.map .int))) (tg:=bH (.one 0)) (c:=ev (run F k) uJ) (e:=ev (run F k) uK) (ws:=ns.map .int) (λi h=>rfl) fuel 0 [aE] ⟨h.n,h.n,h.os⟩ [] (gf _) (by rw[bz];unfold fuel;lia);rw[List.drop_zero,e]at l;have l:gp (bg .seq (.fz (ns.map .int))) (bH (.one 0)) (ev (run F k) uJ) (ev (run F k) uK) fuel 0 [aE] ⟨h.n,h.n,h.os⟩ []=.ok (cells.map .int) ⟨h.n,h.n,h.os⟩:=l;have q:ev (run F k) (.lc .seq (.var 0) (.one 0) 1 [] uJ uK) [aD (.fz (ns.map .int))] ⟨h.n,h.n,h.os⟩=.ok (.ref h.n) (VH.new ⟨h.n,h.n,h.os⟩ (.lst (cells.map .int))):=by rw[ev];have:ev (run F k) (.var 0) [aD (.fz (ns.map .int))] ⟨h.n,h.n,h.os⟩=.ok (.fz (ns.map .int)) ⟨h.n,h.n,h.os⟩:=rfl;rw[this,aF];show(gp (bg .seq (.fz (ns.map .int))) (bH (.one 0)) (ev (run F k) uJ) (ev (run F k) uK) fuel 0 [aE] ⟨h.n,h.n,h.os⟩ []).bind _=_;rw[l,aF,if_pos (u7 (by rw[bz];lia))]
 let jf:VH:=VH.new ⟨h.n,h.n,h.os⟩ (.lst (cells.map .int));let o:VO:=.lst [.fz (ns.map .int),.ref h.n,.int 0,.int 0];have eb:exs (run F k) Cy.body [aD (.fz (ns.map .int))] ⟨h.n,h.n,h.os⟩=.ok (.rt (.ref (h.n+1))) (jf.new o):=by simp only[Cy,exs,ev,aF,fN,DE,Option.join_some]at q ⊢;rw[q];rfl
 refine⟨⟨h.n+2,if Nat.ble h.lo h.n then h.lo else h.n,(jf.new o).os⟩,?_,?_⟩;show fin h (exs (run F k) Cy.body [aD (.fz (ns.map .int))] ⟨h.n,h.n,h.os⟩)=_;rw[eb];show leave h (.ref (h.n+1)) (jf.new o)=_;unfold leave;rw[if_neg (by
  rw[bE];intro z;have:=z.2;simp only[W.lt]at this;have:=i8.mp this;lia)]
 rfl;refine⟨by lia,ns,cells,0,0,?_,?_,h1,by lia,by lia,by lia,by lia⟩;show VH.get ⟨(jf.new o).n,_,(jf.new o).os⟩ (h.n+1)=_;rw[bJ];exact eB (h:=jf);show VH.get ⟨(jf.new o).n,_,(jf.new o).os⟩ h.n=_;rw[bJ,eK (h:=jf) (by show h.n<h.n+1;lia)];exact eB (h:=⟨h.n,h.n,h.os⟩)
end
theorem lC{cl:Call}{o:Op}{a b:E}{ρ:En}{h h1 h2:VH}{x y:W}{r:Res W}(ea:ev cl a ρ h=.ok x h1)(eb:ev cl b ρ h1=.ok y h2)(e:gJ o x y h2=r):ev cl (.op o a b) ρ h=r:=by rw[ev,ea,aF,eb,aF,e]
theorem fO{cl:Call}{a:E}{ρ:En}{h h1:VH}{x:W}(ea:ev cl a ρ h=.ok x h1):exs cl (.ret a) ρ h=.ok (.rt x) h1:=by rw[exs,ea,aF]
theorem cD{cl:Call}{i:Nat}{a:E}{ρ:En}{h h1:VH}{x:W}(ea:ev cl a ρ h=.ok x h1):exs cl (.set i a) ρ h=.ok (.nx (ρ.set i (aD x))) h1:=by rw[exs,ea,aF]
theorem aH{cl:Call}{i:Nat}{ρ:En}{h:VH}{x:W}(e:ρ[i]?=aD (aD x)):ev cl (.var i) ρ h=.ok x h:=by rw[ev,e];rfl
theorem bK{cl:Call}{a b:E}{ρ:En}{h h1 h2:VH}{x y z:W}(ea:ev cl a ρ h=.ok x h1)(eb:ev cl b ρ h1=.ok y h2)(e:bM h2 x y=aD z):ev cl (.idx a b) ρ h=.ok z h2:=by rw[ev,ea,aF,eb,aF,e];rfl
theorem iP{cl:Call}{a:E}{ρ:En}{h h1:VH}{x:W}{ws:List W}(ea:ev cl a ρ h=.ok x h1)(e:aS h1 x=aD ws):ev cl (.bi .len (.cons a .nil)) ρ h=.ok (.int ws.length) h1:=by rw[ev,ev,ea,aF,ev,aF];show gT [x] h1=_;simp only[gT,e,fN]
theorem F7{cl:Call}{ρ:En}{h h1 h':VH}{n:Nat}{a:E}{x w:W}(ea:ev cl a ρ h=.ok x h1)(e:cl n [x] h1=.ok w h'):ev cl (.call n (.cons a .nil)) ρ h=.ok w h':=by rw[ev,ev,ea,aF,ev];exact e
theorem gV{cl:Call}{ρ:En}{h h1 h2 h':VH}{n:Nat}{a b:E}{x y w:W}(ea:ev cl a ρ h=.ok x h1)(eb:ev cl b ρ h1=.ok y h2)(e:cl n [x,y] h2=.ok w h'):ev cl (.call n (.cons a (.cons b .nil))) ρ h=.ok w h':=by rw[ev,ev,ea,aF,ev,eb,aF,ev];exact e
theorem zxl{cl:Call}{ρ:En}{h h1 h2 h3 h':VH}{n:Nat}{a b c:E}{x y z w:W}(ea:ev cl a ρ h=.ok x h1)(eb:ev cl b ρ h1=.ok y h2)(ec:ev cl c ρ h2=.ok z h3)(e:cl n [x,y,z] h3=.ok w h'):ev cl (.call n (.cons a (.cons b (.cons c .nil)))) ρ h=.ok w h':=by rw[ev,ev,ea,aF,ev,eb,aF,ev,ec,aF,ev];exact e
theorem xM{cl:Call}{a lo hi:E}{bl bh:Bool}{ρ:En}{h h1 h2 h3 h4:VH}{x l u w:W}{l' u':Option Int}(ea:ev cl a ρ h=.ok x h1)(el:ev cl lo ρ h1=.ok l h2)(eu:ev cl hi ρ h2=.ok u h3)(pl:eG bl l=aD l')(pu:eG bh u=aD u')(e:j5 x l' u' h3=.ok w h4):ev cl (.slc a bl lo bh hi) ρ h=.ok w h4:=by rw[ev,ea,aF,el,aF,eu,aF,pl,pu];exact e
theorem Rg{P:Int->Prop}:∀{ws:List W},(∀w∈ws,∃x:Int,w=.int x/\P x)->∃xs:List Int,ws=xs.map .int/\∀x∈xs,P x
 |[],_=>⟨[],rfl,by simp⟩
 |w::r,h=>by
  obtain⟨x,rfl,hx⟩:=h w fk;obtain⟨xs,rfl,hs⟩:=Rg λw hw=>h w (dQ _ hw);refine⟨x::xs,rfl,λy hy=>?_⟩;rcases fP.mp hy with rfl|hy;exact hx;exact hs y hy
section
variable{F:Nat->Option Fn}(C:CoreD F)
include C
theorem zid{k:Nat}{h:VH}{d c b g:Nat}(Kc:F 20=aD pF)(D:Dk h d c b)(hb:b+10<1000000000)(hg:g<=8) :
 ∃ls h',run F (k+4) 20 [.ref d,.int g] h=.ok (iW ls) h'/\ls.length=g/\gF ls/\Dk h' d c (b+10)/\bS h h' d c:=by
 rw[dW Kc rfl];have D0:Dk ⟨h.n,h.n,h.os⟩ d c b:=D.lo;obtain⟨ws,h2,e2,p2,l2,D2,K2⟩:=u6 (cl:=run F (k+3)) (P:=λ_ w=>∃x:Int,w=.int x/\(x=0\/x=1)) (e:=Fw) (tl:=[aD (.ref d)]) (m:=1) (lim:=g) (λi h b h0 hl D hb=>by
  obtain⟨r,h',e,r0,r1,D',K'⟩:=take C (k:=k) (m:=2) D (by lia) (by decide) (by decide);exact⟨.int r,h',by simp[Fw,ev,e],⟨r,rfl,by lia⟩,D',K'⟩) g 0 aE ⟨h.n,h.n,h.os⟩ b (by lia) (by lia) D0 (by lia)
 obtain⟨ls,rfl,CQ⟩:=Rg (xH p2);have e3:=xJ (cl:=run F (k+3)) (a:=.cons (.var 1) .nil) (ρ:=[aD (.ref d),aD (.int g)]) (h:=⟨h.n,h.n,h.os⟩) (ow:=1) (ix:=[0]) (e:=Fw) (by simp[ev]) (by lia) e2 (by rw[l2];lia);obtain⟨h5,e5,D5,K5⟩:=u5 (cl:=run F (k+3)) (fl:=.nx []) (w:=iW ls) (body:=pF.body) (ρ:=[aD (.ref d),aD (.int g)]) (F:=F) (k:=k+3) (h:=h) (h':=h2.new (.lst (ls.map .int))) (by simp only[pF,exs,e3,aF];rfl) (.inr ⟨b,D⟩) (D2.new.mono (show _<=b+10 by lia)) K2.new;exact⟨ls,h5,e5,by rw[bz]at l2;exact l2,CQ,D5,K5⟩
end
theorem Rh{nx:Nat->VH->Option (Option W)}{e:FE}{h:VH}{ws:List W}{x:W}{tl:En}{f:W->W}(hx:∀i,nx i h=aD ws[i]?)(he:∀w∈ws,e (aD x::aD w::tl) h=.ok (f w) h) :
 ∀(fu i:Nat)(b:Option W)(acc:List W),i<=ws.length->ws.length<fu+i->∃b',i7 nx (bH (.one 1)) (λ_ h=>.ok (.bl true) h) e fu i (aD x::b::tl) h acc=.ok (aD x::b'::tl,((ws.drop i).map f).reverse++acc) h
 |0,i,b,acc,hi,hl=>by lia
 |fu+1,i,b,acc,hi,hl=>by
  cases q:ws[i]? with
  |none=>
   rw[DF (nP.mp q)];exact⟨b,by simp only[i7,hx,q];rfl⟩
  |some w=>
   obtain⟨hi,ee⟩:=jJ.mp q;obtain⟨b',ih⟩:=Rh hx he fu (i+1) (aD w) (f w::acc) hi (by lia);refine⟨b',?_⟩;simp only[i7,hx,q,bH,List.set_cons_succ,DI,aF,he w (jg q),ih];rw[tW hi,ee];simp
theorem Rj{nx:Nat->VH->Option (Option W)}{jB:En->VH->List W->Res (En×List W)}{h:VH}{ws:List W}{tl:En}{g:W->List W}(hx:∀i,nx i h=aD ws[i]?)
 (hi:∀x∈ws,∀(b:Option W)(acc:List W),∃b',jB (aD x::b::tl) h acc=.ok (aD x::b'::tl,(g x).reverse++acc) h) :
 ∀(fu i:Nat)(a b:Option W)(acc:List W),i<=ws.length->ws.length<fu+i->kH nx (bH (.one 0)) (λ_ h=>.ok (.bl true) h) jB fu i (a::b::tl) h acc=.ok (acc.reverse++(ws.drop i).flatMap g) h
 |0,i,a,b,acc,hi,hl=>by lia
 |fu+1,i,a,b,acc,hi',hl=>by
  cases q:ws[i]? with
  |none=>
   rw[DF (nP.mp q)];simp only[kH,hx,q];simp
  |some w=>
   obtain⟨hil,ee⟩:=jJ.mp q;obtain⟨b',e1⟩:=hi w (jg q) b acc;simp only[kH,hx,q,bH,DI,aF,e1];rw[Rj hx hi fu (i+1) (aD w) b' ((g w).reverse++acc) hil (by lia),tW hil,ee];simp
theorem y9{nx:Nat->VH->Option (Option W)}{tg:W->VH->En->Option En}{b:FS}{n:Nat}{I:Nat->En->VH->Prop}
 (go:∀i ρ h,i<n->I i ρ h->∃w bB qz h2,nx i h=aD (aD w)/\tg w h ρ=aD bB/\b bB h=.ok (.nx qz) h2/\I (i+1) qz h2)
 (stop:∀ρ h,I n ρ h->nx n h=aD aE) :
 ∀(m i fu:Nat)(ρ:En)(h:VH),i+m=n->m<fu->I i ρ h->∃ρ' h',dj nx tg b fu i ρ h=.ok (.nx ρ') h'/\I n ρ' h'
 |_,_,0,_,_,_,hf,_=>by lia
 |0,i,fu+1,ρ,h,hi,_,hI=>by
  obtain rfl:i=n:=by lia
  refine⟨ρ,h,?_,hI⟩;simp only[dj,stop ρ h hI]
 |m+1,i,fu+1,ρ,h,hi,hf,hI=>by
  obtain⟨w,bB,qz,h2,e1,e2,e3,wW⟩:=go i ρ h (by lia) hI;obtain⟨ρ',h',e4,Ke⟩:=y9 go stop m (i+1) fu qz h2 (by lia) (by lia) wW;refine⟨ρ',h',?_,Ke⟩;simp only[dj,e1,e2,e3,aF,e4]
theorem Rk{nx:Nat->VH->Option (Option W)}{tg:W->VH->En->Option En}{e:FE}{n:Nat}{I:Nat->En->VH->List W->Prop}
 (go:∀i ρ h acc,i<n->I i ρ h acc->∃w bB y h2,nx i h=aD (aD w)/\tg w h ρ=aD bB/\e bB h=.ok y h2/\I (i+1) bB h2 (acc++[y]))
 (stop:∀ρ h acc,I n ρ h acc->nx n h=aD aE) :
 ∀(m i fu:Nat)(ρ:En)(h:VH)(acc:List W),i+m=n->m<fu->I i ρ h acc->∃ys ρ' h',gp nx tg (λ_ h=>.ok (.bl true) h) e fu i ρ h acc.reverse=.ok ys h'/\I n ρ' h' ys
 |_,_,0,_,_,_,_,hf,_=>by lia
 |0,i,fu+1,ρ,h,acc,hi,_,hI=>by
  obtain rfl:i=n:=by lia
  refine⟨acc,ρ,h,?_,hI⟩;simp only[gp,stop ρ h acc hI,List.reverse_reverse]
 |m+1,i,fu+1,ρ,h,acc,hi,hf,hI=>by
  obtain⟨w,bB,y,h2,e1,e2,e3,wW⟩:=go i ρ h acc (by lia) hI;obtain⟨ys,ρ',h',e4,Ke⟩:=Rk go stop m (i+1) fu bB h2 (acc++[y]) (by lia) (by lia) wW;refine⟨ys,ρ',h',?_,Ke⟩;rw[List.reverse_append]at e4;simp only[gp,e1,e2,aF,e3];exact e4
theorem Rl{nx:Nat->VH->Option (Option W)}{tg:W->VH->En->Option En}{e:FE}{n:Nat}{I:Nat->En->VH->List W->Prop}
 (go:∀i ρ h acc,i<n->I i ρ h acc->∃w bB y h2,nx i h=aD (aD w)/\tg w h ρ=aD bB/\e bB h=.ok y h2/\I (i+1) bB h2 (acc++[y]))
 (stop:∀ρ h acc,I n ρ h acc->nx n h=aD aE) {ρ:En} {h:VH} (hn:n<1000000) (hI:I 0 ρ h []):∃ys ρ' h',gp nx tg (λ_ h=>.ok (.bl true) h) e fuel 0 ρ h []=.ok ys h'/\I n ρ' h' ys:=
 Rk go stop n 0 fuel ρ h [] (nF _) hn hI
theorem CS{n i:Nat}{h:VH}(hn:n<1000000):bg .bG (.tup [.int n]) i h=aD (if i<n then aD (.int (i:Int))else aE):=by
 have hf:fits (n:Int)=true:=by unfold fits;simp;lia
 show(if fits (n:Int)then aD (if decide ((i:Int)<n)then aD (W.int (0+i))else aE)else aE)=_;rw[if_pos hf,Int.zero_add];by_cases q:i<n;rw[if_pos q,kq (by lia)];rfl;rw[if_neg q,gX (by lia)];rfl
theorem zs4{h h':VH}{w:W}(hw:W.lt h.n w=false):∃h2,fin h (.ok (.rt w) h')=.ok w h2/\h2.n=h'.n/\(∀i,h2.get i=h'.get i)/\h2.lo=min h.lo h'.lo:=by refine⟨⟨h'.n,if Nat.ble h.lo h'.lo then h.lo else h'.lo,h'.os⟩,?_,rfl,λi=>rfl,?_⟩;show leave h w h'=_;unfold leave;rw[hw,Bool.and_false];rfl;show(if Nat.ble h.lo h'.lo then h.lo else h'.lo)=_;by_cases q:h.lo<=h'.lo;rw[if_pos (qK.mpr q)];lia;rw[if_neg (λz=>q (qK.mp z))];lia
theorem Rm{i n:Nat}(h:n<=i):W.lt n (.ref i)=false:=by show Nat.blt i n=false;rw[<-Bool.not_eq_true,i8];lia
section
variable{cl:Call}{ρ:En}{h h1 h2 h3 h':VH}{a b r:E}
theorem aI{x:W}{xs:List W}(ea:ev cl a ρ h=.ok x h1)(er:ev cl r ρ h1=.ok (.tup xs) h2):ev cl (.cons a r) ρ h=.ok (.tup (x::xs)) h2:=by rw[ev,ea,aF,er];rfl
theorem br:ev cl .nil ρ h=.ok (.tup []) h:=by rw[ev]
theorem aR{w:W}:ev cl (.cst w) ρ h=.ok w h:=by rw[ev]
theorem dH{ys:List W}(ea:ev cl a ρ h=.ok (.tup ys) h1)(hl:Nat.ble ys.length 1000):ev cl (.lst a) ρ h=.ok (.ref h1.n) (h1.new (.lst ys)):=by rw[ev,ea,aF];show(if Nat.ble ys.length 1000=true then _ else _)=_;rw[if_pos hl]
theorem ki{ys:List W}(ea:ev cl a ρ h=.ok (.tup ys) h1)(hl:Nat.ble ys.length 1000):ev cl (.tup a) ρ h=.ok (.tup ys) h1:=by rw[ev,ea,aF];show(if Nat.ble ys.length 1000=true then _ else _)=_;rw[if_pos hl]
theorem u9{x:W}{ws:List W}(ea:ev cl a ρ h=.ok x h1)(e:aS h1 x=aD ws):ev cl (.bi .list (.cons a .nil)) ρ h=.ok (.ref h1.n) (h1.new (.lst ws)):=by rw[ev,aI ea br,aF];show i6 [x] h1=_;simp only[i6,e]
theorem gM{ys:List W}{n:Nat}{w:W}(ea:ev cl a ρ h=.ok (.tup ys) h1)(e:cl n ys h1=.ok w h'):ev cl (.call n a) ρ h=.ok w h':=by rw[ev,ea,aF];exact e
theorem Kf{x:W}{ws:List W}(ea:ev cl a ρ h=.ok x h1)(e:aS h1 x=aD ws):ev cl (.bi .tuple (.cons a .nil)) ρ h=.ok (.tup ws) h1:=by rw[ev,aI ea br,aF];show wJ [x] h1=_;simp only[wJ,e,fN]
theorem Rn{k:Kd}{t:Tg}{ow:Nat}{ix:List Nat}{x:W}{ys:List W}(ea:ev cl a ρ h=.ok x h1)(el:gp (bg k x) (bH t) (λ_ h=>.ok (.bl true) h) (ev cl b) fuel 0 (inner ow ix ρ) h1 []=.ok ys h2)(hy:ys.length<=1000000) :
 ev cl (.lc k a t ow ix (.cst (.bl true)) b) ρ h=.ok (.ref h2.n) (h2.new (.lst ys)):=by
 rw[ev,ea,aF,Q6,el,aF,if_pos (u7 hy)]
theorem kj{k:Kd}{t:Tg}{x:W}{s:S}(ea:ev cl a ρ h=.ok x h1):exs cl (.«for» k a t s) ρ h=dj (bg k x) (bH t) (exs cl s) fuel 0 ρ h1:=by rw[exs,ea,aF]
end
noncomputable def Pv(w:W):Prop:=∀n,W.lt n w=true
theorem Pv.tup{ws:List W}(h:∀w∈ws,Pv w):Pv (.tup ws):=λn=>by
 rw[xB];induction ws with
 |nil=>rfl
 |cons a r ih=>
  rw[pI,h a (fk ..),ih λw hw=>h w (dQ _ hw)];rfl
theorem Pv.int{i:Int}:Pv (.int i):=λ_=>lt_int
structure Gm(h h':VH):Prop where
 le:h.n<=h'.n
 lo:min h.lo h.n<=h'.lo
 get:∀j,j<h.n->h'.get j=h.get j
theorem Gm.refl{h:VH}:Gm h h:=⟨aT _,Nat.min_le_left _ _,λ_ _=>rfl⟩
theorem Gm.trans{a b c:VH}(x:Gm a b)(y:Gm b c):Gm a c:=⟨ie x.le y.le,by
 have:=x.lo;have:=y.lo;have:=x.le;lia,λj hj=>by rw[y.get j (dP hj x.le),x.get j hj]⟩
theorem Gm.new{h h':VH}{o:VO}(x:Gm h h'):Gm h (h'.new o):=⟨zu x.le,x.lo,λj hj=>by rw[eK (dP hj x.le),x.get j hj]⟩
theorem Gm.set{h h':VH}{o:VO}{a:Nat}(x:Gm h h')(ha:h.n<=a)(hb:a<h'.n):Gm h (h'.set a o):=⟨x.le,by
 have:=x.lo;show _<=if Nat.blt a h'.lo then a else h'.lo
 split<;>lia,λj hj=>by rw[gZ hb (by lia),x.get j hj]⟩
theorem Ro{h h':VH}{w:W}(hw:W.lt h.n w=false)(x:Gm ⟨h.n,h.n,h.os⟩ h'):∃h2,fin h (.ok (.rt w) h')=.ok w h2/\Gm h h2/\∀i,h2.get i=h'.get i:=by obtain⟨h2,e,n2,G,l2⟩:=zs4 (h':=h') hw;refine⟨h2,e,⟨by rw[n2];exact x.le,?_,λj hj=>by rw[G,x.get j hj];rfl⟩,G⟩;have:=x.lo;have e2:(⟨h.n,h.n,h.os⟩:VH).lo=h.n:=rfl;have e3:(⟨h.n,h.n,h.os⟩:VH).n=h.n:=rfl;rw[l2];rw[e2,e3]at this;lia
theorem zxm{h h':VH}{w:W}(p:Pv w)(x:Gm ⟨h.n,h.n,h.os⟩ h'):fin h (.ok (.rt w) h')=.ok w h:=dO (by
 have:=x.lo;have e2:(⟨h.n,h.n,h.os⟩:VH).lo=h.n:=rfl;have e3:(⟨h.n,h.n,h.os⟩:VH).n=h.n:=rfl;rw[e2,e3]at this;lia) (p _)
theorem qA{a i:Nat}{h:VH}{ws:List W}(g:h.get a=aD (.lst ws)):bg .seq (.ref a) i h=aD ws[i]?:=by simp only[bg,aS,g,vL]
theorem zc{a:Nat}{h:VH}{ws:List W}(g:h.get a=aD (.lst ws)):aS h (.ref a)=aD ws:=by simp only[aS,g]
end RF
namespace RF
open PySem L2 LX
theorem CT{xs ys:List W}{h:VH}{i j:Nat}(gi:h.get i=aD (.lst xs))(gj:h.get j=aD (.lst ys))(hl:xs.length+ys.length<=1000000):gJ .add (.ref i) (.ref j) h=.ok (.ref h.n) (h.new (.lst (xs++ys))):=by simp only[gJ,gi,gj,ID];rw[if_pos (u7 hl)]
theorem Rq:∀ks:List (List Int),aV kW (ks.map iW)=aD ks
 |[]=>rfl
 |k::r=>by
  have hz:∀l:List Int,aV iZ (l.map W.int)=aD l:=by
   intro l;induction l with|nil=>rfl|cons a l ih=>simp only[gQ,aV,iZ,ih]
  have e:kW (iW k)=aD k:=hz k;simp only[gQ,aV,e,Rq r]
end RF
namespace RF
open PySem L2
theorem vc{cl:Call}{c:E}{a b:S}{ρ:En}{h h1:VH}(e:ev cl c ρ h=.ok (.bl true) h1):exs cl (.ite c a b) ρ h=exs cl a ρ h1:=by rw[exs,e,aF]
theorem lD{cl:Call}{c:E}{a b:S}{ρ:En}{h h1:VH}(e:ev cl c ρ h=.ok (.bl false) h1):exs cl (.ite c a b) ρ h=exs cl b ρ h1:=by rw[exs,e,aF]
structure jx(F:Nat->Option Fn):Prop extends CoreD F where
 f23:F 23=aD xx
 Kg:F 103=aD j9
 Kh:F 104=aD l9
noncomputable def tK:S:=(.ite (.and (.cmp .eq (.var 2) (.cst (.int (1)))) (.cmp .ne (.var 5) (.cst (.str aJ)))) (.seq (.ret (.cst (.str aJ))) .skip) .skip)
noncomputable def tL:S:=(.seq (.ite kg (.seq (.ret tE) .skip) .skip) (.seq tK (.seq (.ret (.var 5)) .skip)))
section
variable{F:Nat->Option Fn}(C:jx F)
include C
theorem zoy{k:Nat}{h:VH}{d c b:Nat}{co wd g:Int}(D:Dk h d c b)(hb:b+5<1000000000)(h0:0<=co)(h1:co<wd)(g0:0<=g)(g1:g<=8) :
 ∃w h',run F (k+4) 103 [.ref d,.int co,.int wd,.int g] h=.ok w h'/\ff w co wd g=true/\Dk h' d c (b+5)/\bS h h' d c:=by
 rw[dW C.Kg rfl];have D0:Dk ⟨h.n,h.n,h.os⟩ d c b:=D.lo;have tail:∀(w5:W)(dJ:Int)(h3:VH),Raw g w5->∃w h4,exs (run F (k+3)) tL
  [aD (.ref d),aD (.int co),aD (.int wd),aD (.int g),aD (.int dJ),aD w5] h3=.ok (.rt w) h4/\ff w co wd g=true/\(h4=h3\/∃o,h4=h3.new o):=by
  intro w5 dJ h3 R;have two:lU 2=true:=CH (by lia) (by lia);have i0:cZ [W.str cz,.str ck,.str aJ] 0=aD (.str cz):=rfl;have i1:cZ [W.str cz,.str ck,.str aJ] 1=aD (.str ck):=rfl;have i2:cZ [W.str cz,.str ck,.str aJ] 2=aD (.str aJ):=rfl;have fG:∀(b1 b2:Bool),mW h3 w5 (.tup [.str aJ,.str cz])=aD b1->mW h3 w5 (.tup [.str aJ,.str ck])=aD b2->(co≠0\/b1=true)->(co≠wd-1\/b2=true)->ff w5 co wd g=true->∃w h4,exs (run F (k+3)) tL
   [aD (.ref d),aD (.int co),aD (.int wd),aD (.int g),aD (.int dJ),aD w5] h3=.ok (.rt w) h4/\ff w co wd g=true/\(h4=h3\/∃o,h4=h3.new o):=by
   intro b1 b2 n1 n2 o1 o2 hm;have cond:ev (run F (k+3)) kg [aD (.ref d),aD (.int co),aD (.int wd),aD (.int g),aD (.int dJ),aD w5] h3=.ok (.bl false) h3:=by by_cases c0:co=0<;>by_cases c1:co=wd-1<;>simp[c0,c1]at o1 o2<;>simp_all [kg,ev,aU,gU,gJ,eY]
   obtain⟨bq,hq⟩:∃bq,bY h3 w5 (.str aJ)=aD bq:=by
    cases R with|dot=>exact⟨_,nM (by decide +kernel) (by decide +kernel)⟩|lt=>exact⟨_,nM (by decide +kernel) (by decide +kernel)⟩|gt=>exact⟨_,nM (by decide +kernel) (by decide +kernel)⟩|x=>exact⟨_,nM (by decide +kernel) (by decide +kernel)⟩|rk a0 a1 b0 b1=>exact⟨_,nM rfl (by decide +kernel)⟩
   by_cases w1:wd=1;cases bq with|true=>exact⟨w5,h3,by simp only[tL,exs,cond,aF,tK];simp[ev,aU,gU,w1,hq],hm,.inl rfl⟩|false=>exact⟨.str aJ,h3,by simp only[tL,exs,cond,aF,tK];simp[ev,aU,gU,w1,hq],JW,.inl rfl⟩
   exact⟨w5,h3,by simp only[tL,exs,cond,aF,tK];simp[ev,aU,gU,w1],hm,.inl rfl⟩
  have dS:∀(b1 b2:Bool),mW h3 w5 (.tup [.str aJ,.str cz])=aD b1->mW h3 w5 (.tup [.str aJ,.str ck])=aD b2->((co=0/\b1=false)\/(co=wd-1/\b2=false))->∃w h4,exs (run F (k+3)) tL
   [aD (.ref d),aD (.int co),aD (.int wd),aD (.int g),aD (.int dJ),aD w5] h3=.ok (.rt w) h4/\ff w co wd g=true/\(h4=h3\/∃o,h4=h3.new o):=by
   intro b1 b2 n1 n2 o;have cond:ev (run F (k+3)) kg [aD (.ref d),aD (.int co),aD (.int wd),aD (.int g),aD (.int dJ),aD w5] h3=.ok (.bl true) h3:=by by_cases c0:co=0<;>by_cases c1:co=wd-1<;>cases b1<;>cases b2<;>simp_all [kg,ev,aU,gU,gJ,eY]
   have r1:∀(x:Str)(j:Int),(if(2:Int)< (if 0<co then 1 else 0)+2* (if wd=1 then 1 else 0)then 2 else(if 0<co then 1 else 0)+2* (if wd=1 then 1 else 0))=j->cZ [W.str cz,.str ck,.str aJ] j=aD (.str x)->ev (run F (k+3)) tE [aD (.ref d),aD (.int co),aD (.int wd),aD (.int g),aD (.int dJ),aD w5] h3=.ok (.str x) (h3.new (.lst [W.str cz,.str ck,.str aJ])):=by intro x j hj ha;have hg:=eB (h:=h3) (o:=.lst [W.str cz,.str ck,.str aJ]);by_cases c0:0<co<;>by_cases c1:wd=1<;>simp[c0,c1]at hj<;>subst hj<;>simp[tE,ev,aU,fU,gU,gJ,eY,two,jC,k8,lg,bM,hg,ha,c0,c1]
   have fin:∀x:Str,ev (run F (k+3)) tE [aD (.ref d),aD (.int co),aD (.int wd),aD (.int g),aD (.int dJ),aD w5] h3=.ok (.str x) (h3.new (.lst [W.str cz,.str ck,.str aJ]))->ff (.str x) co wd g=true->
    ∃w h4,exs (run F (k+3)) tL [aD (.ref d),aD (.int co),aD (.int wd),aD (.int g),aD (.int dJ),aD w5] h3=.ok (.rt w) h4/\ff w co wd g=true/\(h4=h3\/∃o,h4=h3.new o):=
    λx e hm=>⟨.str x,h3.new (.lst [W.str cz,.str ck,.str aJ]),by simp only[tL,exs,cond,aF,e],hm,.inr ⟨_,rfl⟩⟩
   by_cases w1:wd=1;exact fin aJ (r1 aJ 2 (by rw[if_neg (by lia:¬0<co)];simp[w1]) i2) JW;by_cases c0:co=0;exact fin cz (r1 cz 0 (by rw[if_neg (by lia:¬0<co)];simp[w1]) i0) (Q5 (by lia));exact fin ck (r1 ck 1 (by rw[if_pos (by lia:0<co)];simp[w1]) i1) (Q4 (by lia))
  have d1:(aJ==ck)=false:=by decide +kernel
  have d2:(cz==ck)=false:=by decide +kernel
  have d3:(aJ==cz)=false:=by decide +kernel
  have d4:(ck==cz)=false:=by decide +kernel
  have d5:(aJ==sX)=false:=by decide +kernel
  have d6:(cz==sX)=false:=by decide +kernel
  have d7:(ck==sX)=false:=by decide +kernel
  have k1:PyData.strOk aJ=true:=by decide +kernel
  have k2:PyData.strOk ck=true:=by decide +kernel
  have k3:PyData.strOk cz=true:=by decide +kernel
  have k4:PyData.strOk sX=true:=by decide +kernel
  cases R with
  |dot=>exact fG true true (by rw[mE k1 k1 k3];simp) (by rw[mE k1 k1 k2];simp) (.inr rfl) (.inr rfl) JW
  |lt=>
   by_cases c0:co=0;exact dS false true (by rw[mE k2 k1 k3,d1,d2];rfl) (by rw[mE k2 k1 k2];simp) (.inl ⟨c0,rfl⟩);exact fG false true (by rw[mE k2 k1 k3,d1,d2];rfl) (by rw[mE k2 k1 k2];simp) (.inl c0) (.inr rfl) (Q4 (by lia))
  |gt=>
   by_cases c0:co=wd-1;exact dS true false (by rw[mE k3 k1 k3];simp) (by rw[mE k3 k1 k2,d3,d4];rfl) (.inr ⟨c0,rfl⟩);exact fG true false (by rw[mE k3 k1 k3];simp) (by rw[mE k3 k1 k2,d3,d4];rfl) (.inr rfl) (.inl c0) (Q5 (by lia))
  |x=>
   by_cases c0:co=0\/co=wd-1;exact dS false false (by rw[mE k4 k1 k3,d5,d6];rfl) (by rw[mE k4 k1 k2,d5,d7];rfl) (c0.elim (λz=>.inl ⟨z,rfl⟩) λz=>.inr ⟨z,rfl⟩);exact fG false false (by rw[mE k4 k1 k3,d5,d6];rfl) (by rw[mE k4 k1 k2,d5,d7];rfl) (.inl (by lia)) (.inl (by lia)) (CL (by lia) (by lia))
  |rk a0 a1 b0 b1=>
   by_cases c0:co=0\/co=wd-1;exact dS false false (FW k1 k3) (FW k1 k2) (c0.elim (λz=>.inl ⟨z,rfl⟩) λz=>.inr ⟨z,rfl⟩);exact fG false false (FW k1 k3) (FW k1 k2) (.inl (by lia)) (.inl (by lia)) (ZZ a0 a1 b0 b1 (by lia) (by lia))
 obtain⟨dJ,jf,e1,l0,l1,D1,K1⟩:=take C.toCoreD (k:=k) (m:=10) D0 (by lia) (by lia) (by lia);have done:∀(w5:W)(h3:VH),Raw g w5->Dk h3 d c (b+5)->bS ⟨h.n,h.n,h.os⟩ h3 d c->exs (run F (k+3)) j9.body [aD (.ref d),aD (.int co),aD (.int wd),aD (.int g),aE,aE] ⟨h.n,h.n,h.os⟩=exs (run F (k+3)) tL [aD (.ref d),aD (.int co),aD (.int wd),aD (.int g),aD (.int dJ),aD w5] h3->
  ∃w h',fin h (exs (run F (k+3)) j9.body [aD (.ref d),aD (.int co),aD (.int wd),aD (.int g),aE,aE] ⟨h.n,h.n,h.os⟩)=.ok w h'/\ff w co wd g=true/\Dk h' d c (b+5)/\bS h h' d c:=by
  intro w5 h3 R D3 K3 e;obtain⟨w,h4,e4,hm,hh⟩:=tail w5 dJ h3 R;have D4:Dk h4 d c (b+5)/\bS ⟨h.n,h.n,h.os⟩ h4 d c:=by rcases hh with rfl|⟨o,rfl⟩;exact⟨D3,K3⟩;exact⟨D3.new,K3.new⟩
  obtain⟨h5,e5,D5,K5⟩:=u5 (cl:=run F (k+3)) (fl:=.nx []) (e.trans e4) (.inr ⟨b,D⟩) D4.1 D4.2;exact⟨w,h5,e5,hm,D5,K5⟩
 have Rr:=eB (h:=jf) (o:=.lst [W.str aJ,.str ck,.str cz,.str sX,.str aJ,.str aJ]);have two:∀(x:Str)(j:Int),(if(5:Int)<dJ then 5 else dJ)=j->cZ [W.str aJ,.str ck,.str cz,.str sX,.str aJ,.str aJ] j=aD (.str x)->∀rest:S,exs (run F (k+3)) (.seq (.set 4 (.call 5 (.cons (.var 0) (.cons (.cst (.int (10))) .nil)))) (.seq (.set 5 (.idx (.lst (.cons (.cst (.str aJ)) (.cons (.cst (.str ck)) (.cons (.cst (.str cz)) (.cons (.cst (.str sX)) (.cons (.cst (.str aJ)) (.cons (.cst (.str aJ)) .nil))))))) (.bi .min (.cons (.var 4) (.cons (.cst (.int (5))) .nil))))) rest)) [aD (.ref d),aD (.int co),aD (.int wd),aD (.int g),aE,aE] ⟨h.n,h.n,h.os⟩ =
  exs (run F (k+3)) rest [aD (.ref d),aD (.int co),aD (.int wd),aD (.int g),aD (.int dJ),aD (.str x)] (jf.new (.lst [W.str aJ,.str ck,.str cz,.str sX,.str aJ,.str aJ])):=by
  intro x j hj ha rest;refine(bI (ρ':=[aD (.ref d),aD (.int co),aD (.int wd),aD (.int g),aD (.int dJ),aE]) (h':=jf) (by simp[exs,ev,e1])).trans ?_;refine bI ?_;by_cases q:(5:Int)<dJ;rw[if_pos q]at hj;subst hj;simp[exs,ev,jC,lg,q,bM,Rr,ha];rw[if_neg q]at hj;subst hj;simp[exs,ev,jC,lg,q,bM,Rr,ha]
 have low:∀(x:Str),dJ<=3->cZ [W.str aJ,.str ck,.str cz,.str sX,.str aJ,.str aJ] dJ=aD (.str x)->Raw g (.str x)->_:=λx hl ha R=>done (.str x) (jf.new (.lst [W.str aJ,.str ck,.str cz,.str sX,.str aJ,.str aJ])) R (D1.new.mono (by lia)) K1.new (by
  refine(two x dJ (if_neg (by lia)) ha _).trans ?_;have n1:¬(4<dJ):=by lia
  have n2:¬(dJ=4):=by lia
  refine(bI (ρ':=[aD (.ref d),aD (.int co),aD (.int wd),aD (.int g),aD (.int dJ),aD (.str x)]) (h':=jf.new (.lst [W.str aJ,.str ck,.str cz,.str sX,.str aJ,.str aJ])) (by simp[exs,ev,aU,fU,n1])).trans ?_;refine(bI (ρ':=[aD (.ref d),aD (.int co),aD (.int wd),aD (.int g),aD (.int dJ),aD (.str x)]) (h':=jf.new (.lst [W.str aJ,.str ck,.str cz,.str sX,.str aJ,.str aJ])) (by simp[exs,ev,aU,gU,n2])).trans ?_;rfl)
 by_cases l4:dJ<=3;have:dJ=0\/dJ=1\/dJ=2\/dJ=3:=by lia
 rcases this with z|z|z|z;exact low aJ l4 (by rw[z];rfl) .dot;exact low ck l4 (by rw[z];rfl) .lt;exact low cz l4 (by rw[z];rfl) .gt;exact low sX l4 (by rw[z];rfl) .x;by_cases l5:dJ=4
 ·-- a blind place,or nothing
  obtain⟨r4,h4,e4,_,_,D4,K4⟩:=take C.toCoreD (k:=k) (m:=4) (D1.new (o:=.lst [W.str aJ,.str ck,.str cz,.str sX,.str aJ,.str aJ])) (by lia) (by lia) (by lia);have n1:¬(4<dJ):=by lia
  have s3:∀rest:S,exs (run F (k+3)) (.seq (.ite (.and (.cmp .gt (.var 4) (.cst (.int (4)))) (.cmp .gt (.var 3) (.cst (.int (0))))) (.seq (.set 5 (.tup (.cons (.call 5 (.cons (.var 0) (.cons (.var 3) .nil))) (.cons (.call 5 (.cons (.var 0) (.cons (.cst (.int (2))) .nil))) .nil)))) .skip) .skip) rest) [aD (.ref d),aD (.int co),aD (.int wd),aD (.int g),aD (.int dJ),aD (.str aJ)] (jf.new (.lst [W.str aJ,.str ck,.str cz,.str sX,.str aJ,.str aJ]))=exs (run F (k+3)) rest [aD (.ref d),aD (.int co),aD (.int wd),aD (.int g),aD (.int dJ),aD (.str aJ)] (jf.new (.lst [W.str aJ,.str ck,.str cz,.str sX,.str aJ,.str aJ])):=λrest=>bI (by simp[exs,ev,aU,fU,n1]);by_cases r0:r4=0;obtain⟨h5,e5,D5,K5⟩:=u5 (cl:=run F (k+3)) (fl:=.nx []) (w:=.str sS) (body:=j9.body) (ρ:=[aD (.ref d),aD (.int co),aD (.int wd),aD (.int g),aE,aE]) (F:=F) (k:=k+3) (h:=h) (h':=h4) (b:=b+5) ((two aJ 4 (by rw[l5];rfl) rfl _).trans ((s3 _).trans (jw (by simp[exs,ev,aU,gU,l5,e4,r0])))) (.inr ⟨b,D⟩) (D4.mono (by lia)) (K1.new.trans K4);exact⟨_,h5,e5,CJ,D5,K5⟩;exact done (.str aJ) h4 .dot (D4.mono (by lia)) (K1.new.trans K4) ((two aJ 4 (by rw[l5];rfl) rfl _).trans ((s3 _).trans (bI (by simp[exs,ev,aU,gU,l5,e4,r0]))))
 ·-- a nk,if there are groups
  have n1:4<dJ:=by lia
  have n2:¬(dJ=4):=by lia
  have ha:∃j:Int,(if(5:Int)<dJ then 5 else dJ)=j/\cZ [W.str aJ,.str ck,.str cz,.str sX,.str aJ,.str aJ] j=aD (.str aJ):=⟨5,by split<;>lia,rfl⟩
  obtain⟨j,hj,ha⟩:=ha;by_cases hg:0<g;obtain⟨ra,h4,e4,a0,a1,D4,K4⟩:=take C.toCoreD (k:=k) (m:=g) (D1.new (o:=.lst [W.str aJ,.str ck,.str cz,.str sX,.str aJ,.str aJ])) (by lia) hg (by lia);obtain⟨rb,h5,e5,b0,b1,D5,K5⟩:=take C.toCoreD (k:=k) (m:=2) D4 (by lia) (by lia) (by lia);exact done (.tup [.int ra,.int rb]) h5 (.rk a0 a1 b0 b1) (D5.mono (by lia)) ((K1.new.trans K4).trans K5) ((two aJ j hj ha _).trans ((bI (ρ':=[aD (.ref d),aD (.int co),aD (.int wd),aD (.int g),aD (.int dJ),aD (.tup [.int ra,.int rb])]) (h':=h5) (by simp[exs,ev,aU,fU,n1,hg,e4,e5])).trans (bI (by simp[exs,ev,aU,gU,n2]))));exact done (.str aJ) (jf.new (.lst [W.str aJ,.str ck,.str cz,.str sX,.str aJ,.str aJ])) .dot (D1.new.mono (by lia)) K1.new ((two aJ j hj ha _).trans ((bI (ρ':=[aD (.ref d),aD (.int co),aD (.int wd),aD (.int g),aD (.int dJ),aD (.str aJ)]) (h':=jf.new (.lst [W.str aJ,.str ck,.str cz,.str sX,.str aJ,.str aJ])) (by simp[exs,ev,aU,fU,n1,hg])).trans (bI (by simp[exs,ev,aU,gU,n2]))))
theorem zxn{k:Nat}{h:VH}{d c b:Nat}{wd:Nat}{g:Int}(D:Dk h d c b)(hb:b+200<1000000000)(h1:wd<=40)(g0:0<=g)(g1:g<=8) :
 ∃ws h',run F (k+5) 104 [.ref d,.int wd,.int g] h=.ok (.tup ws) h'/\ws.length=wd/\cV wd g 0 ws/\Dk h' d c (b+200)/\bS h h' d c:=by
 rw[dW C.Kh rfl];have D0:Dk ⟨h.n,h.n,h.os⟩ d c b:=D.lo;obtain⟨ws,h2,e2,p2,l2,D2,K2⟩:=u6 (cl:=run F (k+4)) (P:=λi w=>ff w i wd g) (e:=Fx) (tl:=[aD (.ref d),aD (.int g),aD (.int wd)]) (m:=5) (lim:=wd) (λi h b h0 hl D hb=>by
  obtain⟨w,h',e,a1,a2,a3⟩:=zoy C (k:=k) (co:=i) (wd:=wd) (g:=g) D hb h0 hl g0 g1;exact⟨w,h',by simp[Fx,ev,e],a1,a2,a3⟩) wd 0 aE ⟨h.n,h.n,h.os⟩ b (by lia) (by lia) D0 (by lia)
 have e3:=xJ (cl:=run F (k+4)) (a:=.cons (.var 1) .nil) (ρ:=[aD (.ref d),aD (.int wd),aD (.int g)]) (h:=⟨h.n,h.n,h.os⟩) (ow:=1) (ix:=[0,2,1]) (e:=Fx) (by simp[ev]) (by lia) e2 (by lia);obtain⟨h5,e5,D5,K5⟩:=u5 (cl:=run F (k+4)) (fl:=.nx []) (w:=.tup ws) (body:=l9.body) (ρ:=[aD (.ref d),aD (.int wd),aD (.int g)]) (F:=F) (k:=k+4) (h:=h) (h':=h2.new (.lst ws)) (by simp only[l9,exs,e3,aF]) (.inr ⟨b,D⟩) (D2.new.mono (show _<=b+200 by lia)) K2.new;exact⟨ws,h5,e5,l2,Q7 p2,D5,K5⟩
theorem Rt{k:Nat}{h:VH}{d c b:Nat}{nf:Int}(D:Dk h d c b)(hb:b+5<1000000000)(n0:1<=nf)(n1:nf<=4) :
 ∃w h',run F (k+4) 23 [.ref d,.int nf] h=.ok w h'/\door w nf=true/\Dk h' d c (b+5)/\bS h h' d c:=by
 rw[dW C.f23 rfl];have D0:Dk ⟨h.n,h.n,h.os⟩ d c b:=D.lo;obtain⟨r1,h1,e1,a1,b1,D1,K1⟩:=take C.toCoreD (k:=k) (m:=3) D0 (by lia) (by lia) (by lia);obtain⟨r2,h2,e2,a2,b2,D2,K2⟩:=take C.toCoreD (k:=k) (m:=100) D1 (by lia) (by lia) (by lia);have hg:=eB (h:=h2) (o:=.lst [.int r1,.int r2]);obtain⟨r3,h3,e3,a3,b3,D3,K3⟩:=take C.toCoreD (k:=k) (m:=4) (D2.new (o:=.lst [.int r1,.int r2])) (by lia) (by lia) (by lia);obtain⟨r4,h4,e4,a4,b4,D4,K4⟩:=take C.toCoreD (k:=k) (m:=nf) D3 (by lia) (by lia) (by lia);obtain⟨r5,h5,e5,a5,b5,D5,K5⟩:=take C.toCoreD (k:=k) (m:=8) D4 (by lia) (by lia) (by lia);obtain⟨_,ns,cells,p,q,gd,gc,_⟩:=D2;have Ru:h3.get h2.n=aD (.lst [.int r1,.int r2]):=K3.get _ _ (pX (bT gd)) (pX (bT gc)) hg;have KK:bS ⟨h.n,h.n,h.os⟩ h5 d c:=((((K1.trans K2).new (o:=.lst [.int r1,.int r2])).trans K3).trans K4).trans K5;have nm:∃x:Int,0<=x/\x<=99/\exs (run F (k+3)) (.set 2 (.idx (.lst (.cons (.call 5 (.cons (.var 0) (.cons (.cst (.int (3))) .nil))) (.cons (.call 5 (.cons (.var 0) (.cons (.cst (.int (100))) .nil))) .nil))) (.bi .int (.cons (.cmp .eq (.call 5 (.cons (.var 0) (.cons (.cst (.int (4))) .nil))) (.cst (.int (0)))) .nil)))) [aD (.ref d),aD (.int nf),aE,aE] ⟨h.n,h.n,h.os⟩=.ok (.nx [aD (.ref d),aD (.int nf),aD (.int x),aE]) h3:=by have i0:cZ [W.int r1,.int r2] 0=aD (.int r1):=rfl;have i1:cZ [W.int r1,.int r2] 1=aD (.int r2):=rfl;by_cases z:r3=0;exact⟨r2,a2,by lia,by simp[exs,ev,e1,e2,e3,aU,gU,z,jC,k8,bM,Ru,i1]⟩;exact⟨r1,a1,by lia,by simp[exs,ev,e1,e2,e3,aU,gU,z,jC,k8,bM,Ru,i0]⟩
 obtain⟨x,x0,x1,ex⟩:=nm;have e6:exs (run F (k+3)) (.set 3 (.call 5 (.cons (.var 0) (.cons (.var 1) .nil)))) [aD (.ref d),aD (.int nf),aD (.int x),aE] h3=.ok (.nx [aD (.ref d),aD (.int nf),aD (.int x),aD (.int r4)]) h4:=by simp[exs,ev,e4]
 have hd:∀w:W,w=.tup [.int x,.aQ]\/w=.tup [.int x,.int r4]->door w nf=true:=by
  intro w hw;rcases hw with rfl|rfl
  simp[door,within,uZ,cU,x0,x1];simp only[door,within,uZ,cU,bE,fj,Bool.false_or];lia
 have body:∃w,exs (run F (k+3)) xx.body [aD (.ref d),aD (.int nf),aE,aE] ⟨h.n,h.n,h.os⟩=.ok (.rt w) h5/\door w nf=true:=by by_cases z:r5=0;exact⟨.tup [.int x,.aQ],(bI ex).trans ((bI e6).trans (by simp[exs,ev,e5,aU,gU,z])),hd _ (.inl rfl)⟩;exact⟨.tup [.int x,.int r4],(bI ex).trans ((bI e6).trans (by simp[exs,ev,e5,aU,gU,z])),hd _ (.inr rfl)⟩
 obtain⟨w,eb,hw⟩:=body;obtain⟨h6,e7,D6,K6⟩:=u5 (cl:=run F (k+3)) (fl:=.nx []) eb (.inr ⟨b,D⟩) (D5.mono (show _<=b+5 by lia)) KK;exact⟨w,h6,e7,hw,D6,K6⟩
end
theorem zxo{F:Nat->Option Fn}(B':mD F)(Kl:F 17=aD sJ)(Km:F 22=aD pG)(Ko:F 24=aD sL){k:Nat}{h:VH}{B:Bd}{ls:List Int}(b:B.Ok)(hl:(ls.length:Int)=B.gr)(bi:gF ls):run F (k+9) 24 [B.w,iW ls] h=.ok .aQ h:=by
 have hg:=b.g2;have w0:∀h:VH,run F (k+7) 17 [iW ls,.int B.gr] h=.ok (.bl true) h:=by
  intro h;rw[dW Kl rfl];have e:=JM B'.toCoreA (k:=k+3) (h:=⟨h.n,h.n,h.os⟩) (w:=iW ls) (a:=B.gr) (b:=B.gr) (lo:=0) (hi:=1) (by unfold Kn iW;simp) (λws e=>by
   cases e;refine⟨by rw[bz];lia,λx hx=>?_⟩;obtain⟨y,_,rfl⟩:=jz.mp hx;unfold Kn;simp)
  rw[Z6 hl bi]at e;simp[sJ,exs,ev,e,dO]
 have w1:∀h:VH,run F (k+8) 22 [B.w,iW ls] h=.ok (.bl true) h:=by
  intro h;have e14:=ZU B' (k:=k) (h:=⟨h.n,h.n,h.os⟩) b;have eb:exs (run F (k+7)) pG.body [aD B.w,aD (iW ls)] ⟨h.n,h.n,h.os⟩=.ok (.rt (.bl true)) ⟨h.n,h.n,h.os⟩:=by refine(bI (ρ':=[aD B.w,aD (iW ls)]) (h':=⟨h.n,h.n,h.os⟩) ?_).trans (jw (fO (gV (x:=iW ls) (y:=.int B.gr) (aH rfl) (bK (x:=B.w) (y:=.int 1) (aH rfl) rfl rfl) (w0 _))));rw[exs,F7 (x:=B.w) (aH rfl) e14,aF]
  rw[dW Km rfl];show fin h (exs (run F (k+7)) pG.body [aD B.w,aD (iW ls)] ⟨h.n,h.n,h.os⟩)=_;rw[eb];exact dO (aT _) rfl
 rw[dW Ko rfl];simp[sL,exs,ev,w1,QM]
end RF
namespace RF
open PySem L2 LX
noncomputable def iQ(nb nr:Nat)(bt:Int):List (List Int):=(List.range nb).flatMap λ(b:Nat)=>(List.range nr).map λ(d:Nat)=>[(b:Int)*bt+ (d:Int),(b:Int),(d:Int)]
theorem Rv{nb nr:Nat}{bt:Int}{k:List Int}(h:k∈iQ nb nr bt):∃b d:Nat,b<nb/\d<nr/\k=[(b:Int)*bt+ (d:Int),(b:Int),(d:Int)]:=by unfold iQ at h;obtain⟨b,hb,h⟩:=List.mem_flatMap.mp h;obtain⟨d,hd,rfl⟩:=jz.mp h;exact⟨b,d,tY.mp hb,tY.mp hd,rfl⟩
theorem zxp{nb nr:Nat}{bt:Int}:(iQ nb nr bt).Nodup:=by
 unfold iQ;rw[List.Nodup,List.pairwise_flatMap];refine⟨λl _=>?_,List.nodup_range.imp λ{a b} hab=>?_⟩;rw[List.pairwise_map];exact List.nodup_range.imp λ{a b} hab z=>hab (by injection z with _ z;injection z with _ z;injection z with z _;exact Int.ofNat.inj z);intro x hx y hy z;subst z;obtain⟨_,_,rfl⟩:=jz.mp hx;obtain⟨_,_,e⟩:=jz.mp hy;injection e with _ e
 injection e with e _
 exact hab (Int.ofNat.inj e).symm
theorem Kp{nb nr:Nat}{bt:Int}:(iQ nb nr bt).length=nb*nr:=by unfold iQ;rw[List.length_flatMap];simp only[bz,vC];rw[List.map_const',List.sum_replicate_nat,vC]
theorem zoz{nb nr:Nat}{bt:Int}:oS (iQ nb nr bt)=true:=by
 have hl:∀k∈iQ nb nr bt,k.length=3:=λk hk=>by obtain⟨b,d,_,_,rfl⟩:=Rv hk;rfl
 generalize iQ nb nr bt=l at hl;match l,hl with
 |[],_=>rfl
 |[a],_=>rfl
 |k::k2::r,hl=>
  unfold oS;have hk:=hl k (fk ..);rw[bE];refine⟨qK.mpr (by rw[hk];decide),nH.mpr λq hq=>?_⟩;rw[hl q hq,hk];exact Nat.beq_refl _
theorem zo0{nb nr:Nat}{bt:Int}:iQ (nb+1) nr bt=iQ nb nr bt++(List.range nr).map λ(d:Nat)=>[(nb:Int)*bt+ (d:Int),(nb:Int),(d:Int)]:=by unfold iQ;rw[List.range_succ,List.flatMap_append];simp
noncomputable def fC(nb nr:Nat)(bt:Int):List (List Int):=j7 (iQ nb nr bt)
theorem Kq{nb nr:Nat}{bt:Int}{k:List Int}(h:k∈fC nb nr bt):∃b d:Nat,b<nb/\d<nr/\k=[(b:Int)*bt+ (d:Int),(b:Int),(d:Int)]:=Rv ((yR _).mem_iff.mp h)
theorem Rw{nb nr:Nat}{bt:Int}:(fC nb nr bt).length=nb*nr:=by unfold fC;rw[(yR _).length_eq,Kp]
theorem CU{cl:Call}{a:E}{ρ:En}{h h1:VH}{i nb nr:Nat}{bt:Int}(ea:ev cl a ρ h=.ok (.ref i) h1)(g:h1.get i=aD (.lst ((iQ nb nr bt).map iW))):ev cl (.bi .Bt (.cons a .nil)) ρ h=.ok (.ref h1.n) (h1.new (.lst ((fC nb nr bt).map iW))):=by rw[ev,aI ea br,aF];show m5 [.ref i] h1=_;simp only[m5,g,Rq];rw[zoz,kq zxp];rfl
structure eV where
 c:Int
 d:Int
 s:Bool
noncomputable def dB(x:eV):W:=if x.s then .aQ else .int x.d
noncomputable def dD(rs:List (List W))(d:Nat)(x:eV)(ls:List Int):eV×List Int:=
 if x.s then(x,ls)else match bC (cj (rs.getD d []) x.c) x.d ls with|none=>(⟨x.c,x.d,true⟩,ls)|some (e,_,l)=>(⟨x.c+e,e,false⟩,l)
noncomputable def ny(rs:List (List W))(s:List eV×List Int)(k:List Int):List eV×List Int:=
 match s.1[(k.getD 1 0).toNat]? with|none=>s|some x=>(s.1.set (k.getD 1 0).toNat (dD rs (k.getD 2 0).toNat x s.2).1,(dD rs (k.getD 2 0).toNat x s.2).2)
structure iI(wd:Int)(x:eV):Prop where
 c0:0<=x.c
 c1:x.c<wd
 d0:-1<=x.d
 d1:x.d<=1
structure dX(wd:Int)(nb g:Nat)(s:List eV×List Int):Prop where
 len:s.1.length=nb
 tM:∀x∈s.1,iI wd x
 ll:s.2.length=g
 bi:gF s.2
theorem zs5{wd:Int}{g d:Nat}{rs:List (List W)}{x:eV}{ls:List Int}(ok:Q9 wd (g:Int) rs)(hd:d<rs.length)(hx:iI wd x)(hl:ls.length=g)(bi:gF ls):iI wd (dD rs d x ls).1/\(dD rs d x ls).2.length=g/\gF (dD rs d x ls).2:=by
 unfold dD;by_cases hs:x.s=true;rw[if_pos hs];exact⟨hx,hl,bi⟩;rw[if_neg hs];have hr:rs.getD d []=rs[d]:=by rw[tU,eT hd];rfl
 obtain⟨_,hw⟩:=FZ (ok _ (iK hd)) hx.c0 hx.c1;rw[hr];cases e:bC (cj rs[d] x.c) x.d ls with
 |none=>exact⟨⟨hx.c0,hx.c1,hx.d0,hx.d1⟩,hl,bi⟩
 |some q=>
  obtain⟨d',t,l⟩:=q;obtain⟨a1,a2,a3,a4,a5,a6,_⟩:=Z5 hw hx.c0 hx.c1 hx.d0 hx.d1 bi e;exact⟨⟨a3,a4,a1,a2⟩,a5.trans hl,a6⟩
theorem Kr{rs:List (List W)}{s:List eV×List Int}{b d:Nat}{t:Int}{x:eV}(h:s.1[b]?=aD x):ny rs s [t,(b:Int),(d:Int)]=(s.1.set b (dD rs d x s.2).1,(dD rs d x s.2).2):=by show(match s.1[b]? with|none=>s|some x=>(s.1.set b (dD rs d x s.2).1,(dD rs d x s.2).2))=_;rw[h]
theorem Ks{wd:Int}{nb g:Nat}{rs:List (List W)}{s:List eV×List Int}{b d:Nat}{t:Int}(ok:Q9 wd (g:Int) rs)(hb:b<nb)(hd:d<rs.length)(S:dX wd nb g s):dX wd nb g (ny rs s [t,(b:Int),(d:Int)]):=by
 have hx:=eT (l:=s.1) (i:=b) (by rw[S.len];exact hb);rw[Kr hx];obtain⟨q1,q2,q3⟩:=zs5 (d:=d) ok hd (S.tM _ (jg hx)) S.ll S.bi;refine⟨by rw[vE];exact S.len,λy hy=>?_,q2,q3⟩;rcases List.mem_or_eq_of_mem_set hy with h|h
 exact S.tM y h;rw[h];exact q1
noncomputable def bN(rs:List (List W))(s:List eV×List Int)(ks:List (List Int)):List eV×List Int:=ks.foldl (ny rs) s
theorem F8{rs:List (List W)}{s:List eV×List Int}{ks:List (List Int)}{i:Nat}{k:List Int}(h:ks[i]?=aD k):bN rs s (ks.take (i+1))=ny rs (bN rs s (ks.take i)) k:=by unfold bN;rw[List.take_add_one,h,List.foldl_append];rfl
end RF
namespace RF
open PySem L2
theorem Ku{cl:Call}{a:E}{ρ:En}{h h1:VH}{j:Nat}{n:Nat}(ea:ev cl a ρ h=.ok (.ref j) h1)(g:h1.get j=aD (.lst (bD n (.bl true)))):ev cl (.bi .all (.cons a .nil)) ρ h=.ok (.bl true) h1:=by
 have hm:aV qm (bD n (W.bl true))=aD (bD n true):=by
  induction n with
  |zero=>rfl
  |succ n ih=>
   clear g;simp only[ku,aV,qm];rw[show aV qm (bD n (W.bl true))=aD (bD n true)from by
    clear ih;induction n with|zero=>rfl|succ n ih=>simp only[ku,aV,qm,ih]]
 have ha:(bD n true).all id=true:=by rw[nH];intro x hx;exact(List.mem_replicate.mp hx).2
 rw[ev,ev,ea,aF,ev,aF,aF];show mY [.ref j] h1=_;simp only[mY,g,hm,vL,ha,fN]
structure W1(a:Nat)(h h':VH):Prop where
 le:h.n<=h'.n
 lo:min h.lo a<=h'.lo
 get:∀j,j<h.n->j≠a->h'.get j=h.get j
theorem W1.refl{a:Nat}{h:VH}:W1 a h h:=⟨aT _,Nat.min_le_left _ _,λ_ _ _=>rfl⟩
theorem Gm.w1{a:Nat}{k0 h h':VH}(G:Gm k0 h)(w:W1 a h h')(ha:k0.n<=a):Gm k0 h':=⟨ie G.le w.le,by
 have:=G.lo;have:=w.lo;lia,λj hj=>by rw[w.get j (dP hj G.le) (by lia),G.get j hj]⟩
theorem CV{h h':VH}{w:W}(hl:h'.lo<h.n):fin h (.ok (.rt w) h')=.ok w ⟨h'.n,if Nat.ble h.lo h'.lo then h.lo else h'.lo,h'.os⟩:=by
 show leave h w h'=_;unfold leave;have e:Nat.ble h.n h'.lo=false:=by rw[<-Bool.not_eq_true];intro z;have:=qK.mp z;lia
 rw[e];rfl
theorem Rx{h:VH}{a:Nat}{o o':VO}{w:W}(g:h.get a=aD o'):∃h2,fin h (.ok (.rt w) (VH.set ⟨h.n,h.n,h.os⟩ a o))=.ok w h2/\h2.get a=aD o/\W1 a h h2:=by
 have ha:=bT g;have hl:(VH.set ⟨h.n,h.n,h.os⟩ a o).lo=a:=by show(if Nat.blt a h.n then a else h.n)=a;rw[if_pos (i8.mpr ha)]
 have g0:VH.get ⟨h.n,h.n,h.os⟩ a=aD o':=bJ.trans g;refine⟨_,CV (by rw[hl];exact ha),?_,?_,?_,λj hj hn=>?_⟩;rw[bJ (h:=VH.set ⟨h.n,h.n,h.os⟩ a o)];exact nN g0;exact aT h.n;rw[hl];show min h.lo a<=if Nat.ble h.lo a then h.lo else a
 split<;>lia;rw[bJ (h:=VH.set ⟨h.n,h.n,h.os⟩ a o),gZ (show a< (⟨h.n,h.n,h.os⟩:VH).n from ha) hn];exact bJ
section
variable{F:Nat->Option Fn}
theorem Ry{h:VH}{i:Int}:bY h (.int i) .aQ=aD false:=rfl
theorem zs6(nA:F 173=aD dN){k a:Nat}{h:VH}{ls:List Int}{w:W}{c wd hd:Int}(hm:ff w c wd (ls.length:Int))(g:h.get a=aD (.lst (ls.map .int))) :
 match bC w hd ls with
 |none=>run F (k+1) 173 [w,.int hd,.ref a,.aQ] h=.ok .aQ h
 |some (d,_,l)=>∃h2,run F (k+1) 173 [w,.int hd,.ref a,.aQ] h=.ok (.int d) h2/\h2.get a=aD (.lst (l.map .int))/\W1 a h h2:=by
 rw[dW nA rfl];rcases FY hm with⟨rfl,h3,h4⟩|⟨rfl,h3⟩|⟨rfl,h3⟩|rfl|rfl|⟨p,q,rfl,h3,h4,h5,h6⟩
 rw[JX];exact⟨h,by simp[dN,exs,ev,aU,dO],g,.refl⟩;rw[JY];exact⟨h,by simp[dN,exs,ev,aU,dO],g,.refl⟩;rw[JZ];exact⟨h,by simp[dN,exs,ev,aU,dO],g,.refl⟩;rw[J0];exact⟨h,by simp[dN,exs,ev,aU,dO],g,.refl⟩;rw[J4];simp[dN,exs,ev,aU,dO];rw[J5];have hp:p<ls.length:=by lia
 have e1:=Rb hp;have g1:VH.get ⟨h.n,h.n,h.os⟩ a=aD (.lst (ls.map .int)):=bJ.trans g;have e2:gR (ls.map W.int).length (p:Int)=aD p:=F6 (by rw[bz];exact hp);have e3:exs (run F k) dN.body [aD (.tup [.int p,.int q]),aD (.int hd),aD (.ref a),aD .aQ,aE,aE,aE] ⟨h.n,h.n,h.os⟩=.ok (.rt (.int (if ls.getD p 0=q then -1 else 1))) (VH.set ⟨h.n,h.n,h.os⟩ a (.lst ((ls.set p (1-ls.getD p 0)).map .int))):=by
  rw[vG];generalize ls.getD p 0=y at e1 ⊢;by_cases z:y=(q:Int)
  simp only[dN,exs,ev,bH,aS,kG,Option.join_some,vB,DE,fN,aF,mz,vL,pJ,eS,List.set_cons_succ,DI,bM,g1,e1,gJ,eY,e2,aU,gU,Ry,Bool.not_false,z,Dr,bZ];simp only[dN,exs,ev,bH,aS,kG,Option.join_some,vB,DE,fN,aF,mz,vL,pJ,eS,List.set_cons_succ,DI,bM,g1,e1,gJ,eY,e2,aU,gU,Ry,Bool.not_false,z,decide_false,dF]
 obtain⟨h2,e4,g2,w2⟩:=Rx (w:=.int (if ls.getD p 0=(q:Int)then -1 else 1)) (o:=.lst ((ls.set p (1-ls.getD p 0)).map .int)) g;refine⟨h2,?_,g2,w2⟩;rw[<-e4];exact jF (fin h) e3
theorem ko{cl:Call}{c:Cp}{ρ:En}{h:VH}{w:W}{x:Str}{r:Bool}(xN:ρ[0]?=aD (aD w))(e:aU c h w (.str x)=aD r):ev cl (.cmp c (.var 0) (.cst (.str x))) ρ h=.ok (.bl r) h:=by rw[ev,aH xN,aF,aR,aF,e];rfl
theorem CW{cl:Call}{h:VH}{ρ:En}{w:W}{r1 r2 r3:Bool}(xN:ρ[0]?=aD (aD w))(e1:bY h w (.str (bw "."))=aD r1)(e2:bY h w (.str (bw "<"))=aD r2)(e3:bY h w (.str (bw ">"))=aD r3):ev cl mh ρ h=.ok (.bl (r1|| (r2||r3))) h:=by
 unfold mh;have c1:=ko (cl:=cl) (c:=.eq) (h:=h) xN (r:=r1) (x:=bw ".") (by simp only[aU,e1]);have c2:=ko (cl:=cl) (c:=.eq) (h:=h) xN (r:=r2) (x:=bw "<") (by simp only[aU,e2]);have c3:=ko (cl:=cl) (c:=.eq) (h:=h) xN (r:=r3) (x:=bw ">") (by simp only[aU,e3]);rw[ev,c1,aF];cases r1 with
 |true=>rfl
 |false=>
  show ev cl (.or _ _) ρ h=_;rw[ev,c2,aF];cases r2 with|true=>rfl|false=>exact c3
theorem zxq(nB:F 158=aD fX){k a:Nat}{h:VH}{ls:List Int}{w:W}{c wd hd d:Int}{t l:List Int}(hm:ff w c wd (ls.length:Int))(g:h.get a=aD (.lst (ls.map .int)))(e:bC w hd ls=aD (d,t,l)) :
 ∃h2,run F (k+1) 158 [w,.ref a,.int hd] h=.ok (.int d) h2/\h2.get a=aD (.lst (l.map .int))/\W1 a h h2:=by
 rw[dW nB rfl];let k0:VH:=⟨h.n,h.n,h.os⟩
 have dir:∀(x:Str)(i:Int),ev (run F k) mh [aD (.str x),aD (.ref a),aD (.int hd),aE] k0=.ok (.bl true) k0->b9 kh (.inr x)=aD (.int i)->fin h (exs (run F k) fX.body [aD (.str x),aD (.ref a),aD (.int hd),aE] k0)=.ok (.int i) h:=λx i ec el=>by
  have e2:exs (run F k) fX.body [aD (.str x),aD (.ref a),aD (.int hd),aE] k0=.ok (.rt (.int i)) (k0.new (.dk kh)):=by refine jw ((vc ec).trans ?_);refine jw (fO (bK (x:=.ref h.n) (y:=.str x) (zxk (h:=k0)) (aH rfl) ?_));show bM (k0.new (.dk kh)) (.ref k0.n) (.str x)=_;unfold bM;simp only[zs3,el]
  rw[e2];exact dO (aT _) rfl
 rcases FY hm with⟨rfl,h3,h4⟩|⟨rfl,h3⟩|⟨rfl,h3⟩|rfl|rfl|⟨p,q,rfl,h3,h4,h5,h6⟩;rw[JX]at e;cases e;refine⟨h,?_,g,.refl⟩;have ec:=CW (cl:=run F k) (h:=k0) (ρ:=[aD (.str sX),aD (.ref a),aD (.int hd),aE]) (w:=.str sX) (r1:=false) (r2:=false) (r3:=false) rfl pL tG tH;have e2:exs (run F k) fX.body [aD (.str sX),aD (.ref a),aD (.int hd),aE] k0=.ok (.rt (.int hd)) k0:=by refine(bI (ρ':=[aD (.str sX),aD (.ref a),aD (.int hd),aE]) (h':=k0) ((lD ec).trans (by rw[exs]))).trans ?_;refine jw ?_;rw[vc (ko (w:=.str sX) (r:=true) rfl (by simp[aU]))];exact jw (fO (aH rfl))
 show fin h (exs (run F k) fX.body [aD (.str sX),aD (.ref a),aD (.int hd),aE] k0)=_;rw[e2];exact dO (aT _) rfl;rw[JY]at e;cases e;exact⟨h,dir ck (-1) (CW (w:=.str ck) (r1:=false) (r2:=true) (r3:=false) rfl nq pM pN) Z8,g,.refl⟩;rw[JZ]at e;cases e;exact⟨h,dir cz 1 (CW (w:=.str cz) (r1:=false) (r2:=false) (r3:=true) rfl nt pO pP) Z9,g,.refl⟩;rw[J0]at e;cases e;exact⟨h,dir aJ 0 (CW (w:=.str aJ) (r1:=true) (r2:=false) (r3:=false) rfl lB nu nv) zs2,g,.refl⟩;rw[J4]at e;cases e;rw[J5]at e;cases e;have hp:p<ls.length:=by lia
 have g1:k0.get a=aD (.lst (ls.map .int)):=bJ.trans g;have n1:bY k0 (.tup [.int (p:Int),.int (q:Int)]) (.str (bw "."))=aD false:=CP (by decide +kernel);have n2:bY k0 (.tup [.int (p:Int),.int (q:Int)]) (.str (bw "<"))=aD false:=CP (by decide +kernel);have n3:bY k0 (.tup [.int (p:Int),.int (q:Int)]) (.str (bw ">"))=aD false:=CP (by decide +kernel);have n4:bY k0 (.tup [.int (p:Int),.int (q:Int)]) (.str (bw "x"))=aD false:=CP (by decide +kernel);let ρ (x:Option W):En:=[aD (.tup [.int (p:Int),.int (q:Int)]),aD (.ref a),aD (.int hd),x]
 have i0:∀x,ev (run F k) (.idx (.var 0) (.cst (.int (0)))) (ρ x) k0=.ok (.int p) k0:=λx=>bK (x:=.tup [.int p,.int q]) (y:=.int 0) (aH rfl) aR rfl;have i1:∀x,ev (run F k) (.idx (.var 1) (.idx (.var 0) (.cst (.int (0))))) (ρ x) k0=.ok (.int (ls.getD p 0)) k0:=λx=>
  bK (x:=.ref a) (y:=.int (p:Int)) (aH rfl) (i0 x) (by simp only[bM,g1];exact Rb hp)
 have ec:ev (run F k) mh (ρ aE) k0=.ok (.bl false) k0:=CW (w:=.tup [.int p,.int q]) (r1:=false) (r2:=false) (r3:=false) rfl n1 n2 n3;have e5:ev (run F k) (.op .sub (.cst (.int (1))) (.op .mul (.cst (.int (2))) (.bi .int (.cons (.cmp .eq (.idx (.var 1) (.idx (.var 0) (.cst (.int (0))))) (.idx (.var 0) (.cst (.int (1))))) .nil)))) (ρ aE) k0=.ok (.int (if ls.getD p 0=q then -1 else 1)) k0:=by
  have e8:ev (run F k) (.cmp .eq (.idx (.var 1) (.idx (.var 0) (.cst (.int (0))))) (.idx (.var 0) (.cst (.int (1))))) (ρ aE) k0=.ok (.bl (decide (ls.getD p 0=q))) k0:=by rw[ev,i1,aF,bK (x:=.tup [.int p,.int q]) (y:=.int 1) (z:=.int q) (aH rfl) aR rfl,aF];simp only[aU,gU];rfl
  have ex:ev (run F k) (.bi .int (.cons (.cmp .eq (.idx (.var 1) (.idx (.var 0) (.cst (.int (0))))) (.idx (.var 0) (.cst (.int (1))))) .nil)) (ρ aE) k0=.ok (.int (if ls.getD p 0=q then 1 else 0)) k0:=by
   rw[ev,aI e8 br,aF];show Res.ok (W.int (if decide (ls.getD p 0=(q:Int))=true then 1 else 0)) k0=_;by_cases z:ls.getD p 0=(q:Int)
   rw[if_pos z,if_pos (kq z)];rw[if_neg z,if_neg (by rw[gX z];simp)]
  refine lC (h1:=k0) (h2:=k0) (x:=.int 1) (y:=.int (2* (if ls.getD p 0=(q:Int)then 1 else 0))) aR (lC (h1:=k0) (h2:=k0) (x:=.int 2) (y:=.int (if ls.getD p 0=(q:Int)then 1 else 0)) aR ex ?_) ?_;show(Res.of ((if lU 2||lU (if ls.getD p 0=(q:Int)then(1:Int)else 0)then aD (2* (if ls.getD p 0=(q:Int)then(1:Int)else 0))else aE).map W.int) k0)=_;rw[show lU 2=true from by decide,Bool.true_or];rfl;show Res.ok (W.int (1-2* (if ls.getD p 0=(q:Int)then(1:Int)else 0))) k0=_;split<;>rfl
 obtain⟨h2,e4,g2,w2⟩:=Rx (w:=.int (if ls.getD p 0=(q:Int)then -1 else 1)) (o:=.lst ((ls.set p (1-ls.getD p 0)).map .int)) g;refine⟨h2,?_,g2,w2⟩;rw[<-e4];refine jF (fin h) ?_;show exs (run F k) fX.body (ρ aE) k0=_;refine(bI (ρ':=ρ aE) (h':=k0) ((lD ec).trans (by rw[exs]))).trans ?_;refine(bI (ρ':=ρ aE) (h':=k0) ((lD (ko (w:=.tup [.int p,.int q]) (r:=false) rfl (by simp only[aU,n4]))).trans (by rw[exs]))).trans ?_;refine(bI (cD e5)).trans ?_;show exs (run F k) _ (ρ (aD (.int (if ls.getD p 0=q then -1 else 1)))) k0=_;have ev1:ev (run F k) (.op .sub (.cst (.int (1))) (.idx (.var 1) (.idx (.var 0) (.cst (.int (0)))))) (ρ (aD (.int (if ls.getD p 0=q then -1 else 1)))) k0=.ok (.int (1-ls.getD p 0)) k0:=lC (x:=.int 1) (y:=.int (ls.getD p 0)) aR (i1 _) rfl;refine(bI (ρ':=ρ (aD (.int (if ls.getD p 0=q then -1 else 1)))) (h':=k0.set a (.lst ((ls.set p (1-ls.getD p 0)).map .int))) ?_).trans (jw (fO (aH rfl)));rw[exs,ev1,aF,aH (x:=.ref a) rfl,aF,i0,aF];have hx:gR (ls.map W.int).length (p:Int)=aD p:=F6 (by rw[bz];exact hp);simp only[g1,hx,vG]
end
theorem pQ{cl:Call}{o i v:E}{ρ:En}{h h1 h2 h3:VH}{w:W}{a k:Nat}{j:Int}{ws:List W}(e1:ev cl v ρ h=.ok w h1)(e2:ev cl o ρ h1=.ok (.ref a) h2)(e3:ev cl i ρ h2=.ok (.int j) h3)(g:h3.get a=aD (.lst ws))(hk:gR ws.length j=aD k):exs cl (.put o i v) ρ h=.ok (.nx ρ) (h3.set a (.lst (ws.set k w))):=by rw[exs,e1,aF,e2,aF,e3,aF];simp only[g,hk]
theorem Kv{cl:Call}{o i e:E}{ρ:En}{h h1 h2 h3:VH}{a k:Nat}{j p q:Int}{ws:List W}(e1:ev cl o ρ h=.ok (.ref a) h1)(e2:ev cl i ρ h1=.ok (.int j) h2)(g:h2.get a=aD (.lst ws))(hp:cZ ws j=aD (.int p))(e3:ev cl e ρ h2=.ok (.int q) h3)(g3:h3.get a=aD (.lst ws))(hk:gR ws.length j=aD k):exs cl (.Bw o i e) ρ h=.ok (.nx ρ) (h3.set a (.lst (ws.set k (.int (p+q))))):=by
 rw[exs,e1,aF,e2,aF];have e4:j8 (.ref a) (.int j) h2=.ok p h2:=by simp only[j8,g,hp]
 rw[e4,aF,e3,aF];simp only[lu,g3,hk]
theorem Kw{α:Type}{l:List α}{i:Nat}{x:α}(h:l[i]?=aD x):l.set i x=l:=by obtain⟨hi,rfl⟩:=jJ.mp h;exact List.set_getElem_self hi
structure ve(k0 h:VH)(m c d j:Nat)(ks:List W)(s:List eV×List Int):Prop where
 gm:h.get m=aD (.lst (s.2.map .int))
 gc:h.get c=aD (.lst (s.1.map λx=>.int x.c))
 gd:h.get d=aD (.lst (s.1.map dB))
 m0:k0.n<=m
 c0:k0.n<=c
 d0:k0.n<=d
 mc:m≠c
 md:m≠d
 cd:c≠d
 gj:h.get j=aD (.lst ks)
 jm:j≠m
 jc:j≠c
 jd:j≠d
 G:Gm k0 h
noncomputable abbrev gG(B:Bd)(l r t:W)(m c d:Nat)(cX dG ic zd:Option W):En:=[aD B.w,aD l,aD r,aD t,aD (.tup (B.rows.map .tup)),aD (.tup B.fd),aD (.tup B.dr),aD (.ref m),aD (.ref c),aD (.ref d),cX,dG,ic,zd]
section
variable{F:Nat->Option Fn}(nA:F 173=aD dN)
include nA
theorem zs7{k m c d j b p g:Nat}{ks:List W}{B:Bd}{k0 h:VH}{s:List eV×List Int}{l r t:W}{cX zd:Option W}(B':B.Ok)(hg:B.gr=g)(hb:b<s.1.length)(hp:p<B.rows.length)(O:dX B.wd s.1.length g s)(S:ve k0 h m c d j ks s)(tm:Int) :
 ∃h2,exs (run F (k+1)) CF (gG B l r t m c d cX (aD (.int (b:Int))) (aD (.int (p:Int))) zd) h=.ok (.nx (gG B l r t m c d cX (aD (.int (b:Int))) (aD (.int (p:Int))) zd)) h2/\ve k0 h2 m c d j ks (ny B.rows s [tm,(b:Int),(p:Int)]):=by
 let ρ:En:=gG B l r t m c d cX (aD (.int (b:Int))) (aD (.int (p:Int))) zd;have hx:=eT hb;rw[Kr hx];have ox:=O.tM _ (jg hx);generalize s.1[b]=x at hx ox;have hr:B.rows.getD p []=B.rows[p]:=by rw[tU,eT hp];rfl
 have CY:=B'.r2 _ (iK hp);have xO:=Rc CY ox.c0 ox.c1;obtain⟨_,hm⟩:=FZ CY ox.c0 ox.c1;have Ky:(s.2.length:Int)=B.gr:=by rw[O.ll,hg]
 rw[<-Ky]at hm;have Kz:∀{h':VH}{ws:List W}{w:W},h'.get d=aD (.lst ws)->ws[b]?=aD w->ev (run F (k+1)) (.idx (.var 9) (.var 11)) ρ h'=.ok w h':=λg1 g2=>
  bK (x:=.ref d) (y:=.int (b:Int)) (aH rfl) (aH rfl) (by simp only[bM,g1];exact iN g2)
 have KA:∀{h':VH}{ws:List W}{w:W},h'.get d=aD (.lst ws)->ws[b]?=aD w->ev (run F (k+1)) (.cmp .mV (.idx (.var 9) (.var 11)) (.cst .aQ)) ρ h'=.ok (.bl (!cU w)) h':=λg1 g2=>by
  rw[ev,Kz g1 g2,aF,aR,aF];rfl
 have hxd:(s.1.map dB)[b]?=aD (dB x):=by rw[gh,hx];rfl
 have hxc:(s.1.map λx=>W.int x.c)[b]?=aD (.int x.c):=by rw[gh,hx];rfl
 have c1:=KA S.gd hxd;unfold CF;by_cases hs:x.s=true;have e1:dB x=.aQ:=by unfold dB;rw[if_pos hs]
 have e2:dD B.rows p x s.2=(x,s.2):=by unfold dD;rw[if_pos hs]
 rw[e1]at c1;rw[e2];refine⟨h,?_,by show ve k0 h m c d j ks (s.1.set b x,s.2);rw[Kw hx];exact S⟩;refine(bI (ρ':=ρ) (h':=h) ((lD c1).trans (by rw[exs]))).trans ?_;exact(bI (ρ':=ρ) (h':=h) ((lD c1).trans (by rw[exs]))).trans (by rw[exs]);have e1:dB x=.int x.d:=by unfold dB;rw[if_neg hs]
 have e2:dD B.rows p x s.2=match bC (cj B.rows[p] x.c) x.d s.2 with|none=>(⟨x.c,x.d,true⟩,s.2)|some (e,_,l)=>(⟨x.c+e,e,false⟩,l):=by unfold dD;rw[if_neg hs,hr];try rfl
 rw[e1]at c1 hxd;have hh:=zs6 nA (k:=k) (hd:=x.d) hm S.gm;have ea:ev (run F (k+1)) (.cons (.idx (.idx (.var 4) (.var 12)) (.idx (.var 8) (.var 11))) (.cons (.idx (.var 9) (.var 11)) (.cons (.var 7) (.cons (.cst .aQ) .nil)))) ρ h=.ok (.tup [cj B.rows[p] x.c,.int x.d,.ref m,.aQ]) h:=
  aI (bK (x:=.tup B.rows[p]) (y:=.int x.c) (bK (x:=.tup (B.rows.map .tup)) (y:=.int (p:Int)) (aH rfl) (aH rfl) (iN (by rw[gh,eT hp];rfl))) (bK (x:=.ref c) (y:=.int (b:Int)) (aH rfl) (aH rfl) (by simp only[bM,S.gc];exact iN hxc)) xO)
   (aI (Kz S.gd hxd) (aI (aH rfl) (aI aR br)))
 have hkd:gR (s.1.map dB).length (b:Int)=aD b:=F6 (by rw[bz];exact hb);have hkc:gR (s.1.map λx=>W.int x.c).length (b:Int)=aD b:=F6 (by rw[bz];exact hb);have ld:=bT S.gd;cases e:bC (cj B.rows[p] x.c) x.d s.2 with
 |none=>
  rw[e]at hh e2;rw[e2];have e3:=pQ (gM ea hh) (aH (cl:=run F (k+1)) (i:=9) (ρ:=ρ) (h:=h) rfl) (aH (i:=11) (ρ:=ρ) (h:=h) rfl) S.gd hkd;let h2:=h.set d (.lst ((s.1.map dB).set b .aQ));have g2:h2.get d=aD (.lst ((s.1.map dB).set b .aQ)):=nN S.gd;have c2:=KA g2 (w:=.aQ) (by rw[nQ (by rw[bz];exact hb)]);refine⟨h2,?_,?_⟩;refine(bI (ρ':=ρ) (h':=h2) ((vc c1).trans ((bI e3).trans (by rw[exs])))).trans ?_;exact(bI (ρ':=ρ) (h':=h2) ((lD c2).trans (by rw[exs]))).trans (by rw[exs]);refine⟨?_,?_,?_,S.m0,S.c0,S.d0,S.mc,S.md,S.cd,(gZ ld S.jd).trans S.gj,S.jm,S.jc,S.jd,S.G.set S.d0 ld⟩;rw[gZ ld S.md];exact S.gm;rw[gZ ld S.cd,S.gc,vG,Kw hxc];rw[g2,vG];rfl
 |some q=>
  obtain⟨e',t',l'⟩:=q;rw[e]at hh e2;rw[e2];obtain⟨h1,e4,g1,w1⟩:=hh;have KC:h1.get d=aD (.lst (s.1.map dB)):=by rw[w1.get _ ld S.md.symm];exact S.gd
  have gc1:h1.get c=aD (.lst (s.1.map λx=>.int x.c)):=by rw[w1.get _ (bT S.gc) S.mc.symm];exact S.gc
  have e3:=pQ (gM ea e4) (aH (cl:=run F (k+1)) (i:=9) (ρ:=ρ) (h:=h1) rfl) (aH (i:=11) (ρ:=ρ) (h:=h1) rfl) KC hkd;let h2:=h1.set d (.lst ((s.1.map dB).set b (.int e')));have F9:=bT KC;have g2:h2.get d=aD (.lst ((s.1.map dB).set b (.int e'))):=nN KC;have Ga:h2.get c=aD (.lst (s.1.map λx=>.int x.c)):=by rw[gZ F9 S.cd];exact gc1
  have hb2:((s.1.map dB).set b (.int e'))[b]?=aD (.int e'):=nQ (by rw[bz];exact hb);have c2:=KA g2 hb2;have e5:=Kv (aH (cl:=run F (k+1)) (i:=8) (ρ:=ρ) (h:=h2) rfl) (aH (i:=11) (ρ:=ρ) (h:=h2) rfl) Ga (iN hxc) (Kz g2 hb2) Ga hkc;let h3:=h2.set c (.lst ((s.1.map λx=>W.int x.c).set b (.int (x.c+e'))));have oQ:=bT Ga;refine⟨h3,?_,?_⟩;refine(bI (ρ':=ρ) (h':=h2) ((vc c1).trans ((bI e3).trans (by rw[exs])))).trans ?_;exact(bI (ρ':=ρ) (h':=h3) ((vc c2).trans ((bI e5).trans (by rw[exs])))).trans (by rw[exs]);refine⟨?_,?_,?_,S.m0,S.c0,S.d0,S.mc,S.md,S.cd,(gZ oQ S.jc).trans ((gZ F9 S.jd).trans ((w1.get _ (bT S.gj) S.jm).trans S.gj)),S.jm,S.jc,S.jd,((S.G.w1 w1 S.m0).set S.d0 F9).set S.c0 oQ⟩;rw[gZ oQ S.mc,gZ F9 S.md];exact g1;rw[nN Ga,vG];rw[gZ oQ S.cd.symm,g2,vG];rfl
end
theorem KD{h:VH}{w:W}{c wd g hd:Int}{ls:List Int}(hm:ff w c wd g):bY h w (.str (bw "s"))=aD (bC w hd ls).isNone:=by rcases FY hm with⟨rfl,h3,h4⟩|⟨rfl,h3⟩|⟨rfl,h3⟩|rfl|rfl|⟨p,q,rfl,h3,h4,h5,h6⟩;show bY h _ _=aD false;exact(fQ (by decide +kernel) (by decide +kernel)).trans (by decide +kernel);show bY h _ _=aD false;exact(fQ (by decide +kernel) (by decide +kernel)).trans (by decide +kernel);show bY h _ _=aD false;exact(fQ (by decide +kernel) (by decide +kernel)).trans (by decide +kernel);show bY h _ _=aD false;exact(fQ (by decide +kernel) (by decide +kernel)).trans (by decide +kernel);show bY h _ _=aD true;exact(fQ (by decide +kernel) (by decide +kernel)).trans (by decide +kernel);show bY h _ _=aD false;exact CP (by decide +kernel)
noncomputable def gO(x:eV):List W:=[.int x.c,.int x.d,.bl x.s]
structure SL(k0 h:VH)(m L j:Nat)(ks:List W)(rs:List Nat)(s:List eV×List Int):Prop where
 gm:h.get m=aD (.lst (s.2.map .int))
 gL:h.get L=aD (.lst (rs.map .ref))
 len:rs.length=s.1.length
 at_:∀(i r:Nat)(x:eV),rs[i]?=aD r->s.1[i]?=aD x->h.get r=aD (.lst (gO x))
 nd:rs.Nodup
 m0:k0.n<=m
 L0:k0.n<=L
 r0:∀r∈rs,k0.n<=r
 rm:∀r∈rs,r≠m
 rL:∀r∈rs,r≠L
 mL:m≠L
 gj:h.get j=aD (.lst ks)
 jm:j≠m
 rj:∀r∈rs,r≠j
 G:Gm k0 h
theorem SL.put{k0 h h1:VH}{m L j b r:Nat}{ks:List W}{rs:List Nat}{s:List eV×List Int}{x:eV}{ls:List Int}(S:SL k0 h m L j ks rs s)(hr:rs[b]?=aD r)(w1:W1 m h h1)(g1:h1.get m=aD (.lst (ls.map .int))):SL k0 (h1.set r (.lst (gO x))) m L j ks rs (s.1.set b x,ls):=by
 obtain⟨hb,er⟩:=jJ.mp hr;have hm:=jg hr;have hb2:b<s.1.length:=by rw[<-S.len];exact hb
 have gr:=S.at_ b r _ hr (eT hb2);have Rz:h1.get r=aD (.lst (gO s.1[b])):=by rw[w1.get _ (bT gr) (S.rm r hm)];exact gr
 have lr:=bT Rz;refine⟨?_,?_,by rw[vE];exact S.len,λi r' y e1 e2=>?_,S.nd,S.m0,S.L0,S.r0,S.rm,S.rL,S.mL,(gZ lr (S.rj r hm).symm).trans ((w1.get _ (bT S.gj) S.jm).trans S.gj),S.jm,S.rj,(S.G.w1 w1 S.m0).set (S.r0 r hm) lr⟩;rw[gZ lr (S.rm r hm).symm];exact g1;rw[gZ lr (S.rL r hm).symm,w1.get _ (bT S.gL) S.mL.symm];exact S.gL;by_cases z:i=b;subst z;rw[hr]at e1;cases e1;rw[show(s.1.set i x)[i]?=aD x from nQ hb2]at e2;cases e2;exact nN Rz;rw[show(s.1.set b x)[i]?=s.1[i]? from ye (eX z)]at e2;have hi:=jJ.mp e1;obtain⟨hi,ei⟩:=hi;have hne:r'≠r:=λq=>z ((List.getElem_inj S.nd (h₀:=hi) (h₁:=hb)).mp (ei.trans (q.trans er.symm)));have g':=S.at_ i r' y e1 e2;rw[gZ lr hne,w1.get _ (bT g') (S.rm r' (jg e1))];exact g'
noncomputable abbrev cN(B:Bd)(r t:W)(m L:Nat)(x6 x7 x8 x9 cX dG ic:Option W):En:=[aD B.w,aD (.ref m),aD r,aD t,aD (.tup (B.rows.map .tup)),aD (.ref L),x6,x7,x8,x9,cX,dG,ic]
section
variable{F:Nat->Option Fn}(nB:F 158=aD fX)
include nB
theorem zs8{k m L j b p g:Nat}{ks:List W}{B:Bd}{k0 h:VH}{s:List eV×List Int}{rs:List Nat}{r t:W}{x6 x9 cX dG ic:Option W}(B':B.Ok)(hg:B.gr=g)(hb:b<s.1.length)(hp:p<B.rows.length)(O:dX B.wd s.1.length g s)(S:SL k0 h m L j ks rs s)(tm:Int) :
 ∃h2 ze vf,exs (run F (k+1)) xA (cN B r t m L x6 (aD (.int (b:Int))) (aD (.int (p:Int))) x9 cX dG ic) h=.ok (.nx (cN B r t m L x6 (aD (.int (b:Int))) (aD (.int (p:Int))) x9 ze vf ic)) h2/\SL k0 h2 m L j ks rs (ny B.rows s [tm,(b:Int),(p:Int)]):=by
 have hx:=eT hb;rw[Kr hx];have ox:=O.tM _ (jg hx);generalize s.1[b]=x at hx ox;have hb2:b<rs.length:=by rw[S.len];exact hb
 have hrb:=eT hb2;have hmr:=jg hrb;generalize rs[b]=q at hrb hmr;have hr:B.rows.getD p []=B.rows[p]:=by rw[tU,eT hp];rfl
 have CY:=B'.r2 _ (iK hp);have xO:=Rc CY ox.c0 ox.c1;obtain⟨_,hm⟩:=FZ CY ox.c0 ox.c1;have Ky:(s.2.length:Int)=B.gr:=by rw[O.ll,hg]
 rw[<-Ky]at hm;have gq:=S.at_ b q x hrb hx;let ρ:Option W->Option W->En:=λze vf=>cN B r t m L x6 (aD (.int (b:Int))) (aD (.int (p:Int))) x9 ze vf ic;let w:W:=cj B.rows[p] x.c;let bB:En:=ρ (aD (.ref q)) (aD w);have iq:∀{h':VH}{ws:List W}{i:Nat}{v:W}{vf:Option W},h'.get q=aD (.lst ws)->ws[i]?=aD v->ev (run F (k+1)) (.idx (.var 10) (.cst (.int (i:Int)))) (ρ (aD (.ref q)) vf) h'=.ok v h':=λg1 g2=>
  bK (x:=.ref q) (aH rfl) aR (by simp only[bM,g1];exact iN g2)
 have e1:ev (run F (k+1)) (.idx (.var 5) (.var 7)) (ρ cX dG) h=.ok (.ref q) h:=
  bK (x:=.ref L) (y:=.int (b:Int)) (aH rfl) (aH rfl) (by simp only[bM,S.gL];exact iN (by rw[gh,hrb];rfl))
 have e2:ev (run F (k+1)) (.idx (.idx (.var 4) (.var 8)) (.idx (.var 10) (.cst (.int (0))))) (ρ (aD (.ref q)) dG) h=.ok w h:=
  bK (x:=.tup B.rows[p]) (y:=.int x.c) (bK (x:=.tup (B.rows.map .tup)) (y:=.int (p:Int)) (aH rfl) (aH rfl) (iN (by rw[gh,eT hp];rfl))) (iq (i:=0) gq rfl) xO
 have ec:ev (run F (k+1)) (.cmp .eq (.var 11) (.cst (.str (bw "s")))) bB h=.ok (.bl (bC w x.d s.2).isNone) h:=by rw[ev,aH (x:=w) rfl,aF,aR,aF];show Res.of (Option.map W.bl (bY h w (.str (bw "s")))) h=_;rw[show bY h w (.str (bw "s"))=aD (bC w x.d s.2).isNone from KD (h:=h) (hd:=x.d) (ls:=s.2) hm];rfl
 have lq:=bT gq;have ea:exs (run F (k+1)) xA (ρ cX dG) h=exs (run F (k+1)) (.seq (.ite (.cmp .eq (.var 11) (.cst (.str (bw "s")))) (.seq (.put (.var 10) (.cst (.int (2))) (.cst (.bl true))) .skip) .skip) (.seq (.ite (.not (.jo (.idx (.var 10) (.cst (.int (2)))))) (.seq (.put (.var 10) (.cst (.int (1))) (.call 158 (.cons (.var 11) (.cons (.var 1) (.cons (.idx (.var 10) (.cst (.int (1)))) .nil))))) (.seq (.put (.var 10) (.cst (.int (0))) (.op .add (.idx (.var 10) (.cst (.int (0)))) (.idx (.var 10) (.cst (.int (1)))))) .skip)) .skip) .skip)) bB h:=by unfold xA;refine(bI (cD e1)).trans ?_;exact bI (cD e2)
 have cd:∀{h':VH}{y:eV},h'.get q=aD (.lst (gO y))->ev (run F (k+1)) (.not (.jo (.idx (.var 10) (.cst (.int (2)))))) bB h'=.ok (.bl (!y.s)) h':=λ{h' y} g1=>by
  have q2:ev (run F (k+1)) (.idx (.var 10) (.cst (.int (2)))) bB h'=.ok (.bl y.s) h':=iq (i:=2) g1 rfl;rw[ev,ev,q2,aF];rfl
 have es:∃h1 y,exs (run F (k+1)) (.ite (.cmp .eq (.var 11) (.cst (.str (bw "s")))) (.seq (.put (.var 10) (.cst (.int (2))) (.cst (.bl true))) .skip) .skip) bB h=.ok (.nx bB) h1/\SL k0 h1 m L j ks rs (s.1.set b y,s.2)/\y=(if(bC w x.d s.2).isNone then⟨x.c,x.d,true⟩else x):=by
  cases z:(bC w x.d s.2).isNone with
  |true=>
   rw[z]at ec;have e3:=pQ (cl:=run F (k+1)) (o:=.var 10) (i:=.cst (.int 2)) (v:=.cst (.bl true)) (ρ:=bB) (w:=.bl true) (a:=q) (k:=2) (j:=2) aR (aH rfl) aR gq rfl;exact⟨_,⟨x.c,x.d,true⟩,(vc ec).trans ((bI e3).trans (by rw[exs];rfl)),S.put hrb .refl S.gm,rfl⟩
  |false=>
   rw[z]at ec;exact⟨h,x,(lD ec).trans (by rw[exs]),by rw[Kw hx];exact S,rfl⟩
 obtain⟨h1,y,e3,S1,ey⟩:=es;have hy1:(s.1.set b y)[b]?=aD y:=nQ hb;have Gb:=S1.at_ b q y hrb hy1;have c1:=cd Gb;have CZ:∀{h2:VH}{s2:List eV×List Int},exs (run F (k+1)) (.ite (.not (.jo (.idx (.var 10) (.cst (.int (2)))))) (.seq (.put (.var 10) (.cst (.int (1))) (.call 158 (.cons (.var 11) (.cons (.var 1) (.cons (.idx (.var 10) (.cst (.int (1)))) .nil))))) (.seq (.put (.var 10) (.cst (.int (0))) (.op .add (.idx (.var 10) (.cst (.int (0)))) (.idx (.var 10) (.cst (.int (1)))))) .skip)) .skip) bB h1=.ok (.nx bB) h2->SL k0 h2 m L j ks rs s2->s2=(s.1.set b (dD B.rows p x s.2).1,(dD B.rows p x s.2).2)->
  ∃h2 ze vf,exs (run F (k+1)) xA (cN B r t m L x6 (aD (.int (b:Int))) (aD (.int (p:Int))) x9 cX dG ic) h=.ok (.nx (cN B r t m L x6 (aD (.int (b:Int))) (aD (.int (p:Int))) x9 ze vf ic)) h2/\SL k0 h2 m L j ks rs (s.1.set b (dD B.rows p x s.2).1,(dD B.rows p x s.2).2):=by
  intro h2 s2 e4 S2 es;refine⟨h2,aD (.ref q),aD w,ea.trans ?_,es▸S2⟩;refine(bI e3).trans ?_;exact(bI e4).trans (by rw[exs])
 by_cases hs:y.s=true;rw[hs]at c1;refine CZ ((lD c1).trans (by rw[exs])) S1 ?_;unfold dD;by_cases hxs:x.s=true;rw[if_pos hxs];have:y=x:=by rw[ey];split;cases x;simp only at hxs;rw[hxs];rfl
 rw[this];rw[if_neg hxs,hr];cases z:bC (cj B.rows[p] x.c) x.d s.2 with
 |none=>
  have:y=⟨x.c,x.d,true⟩:=by rw[ey];show(if(bC (cj B.rows[p] x.c) x.d s.2).isNone then _ else _)=_;rw[z];rfl
  rw[this]
 |some u=>
  have:y=x:=by rw[ey];show(if(bC (cj B.rows[p] x.c) x.d s.2).isNone then _ else _)=_;rw[z];rfl
  rw[this]at hs;exact absurd hs hxs
 have hys:y.s=false:=by simpa using hs
 rw[hys]at c1;cases z:bC (cj B.rows[p] x.c) x.d s.2 with
 |none=>
  have:y=⟨x.c,x.d,true⟩:=by rw[ey];show(if(bC (cj B.rows[p] x.c) x.d s.2).isNone then _ else _)=_;rw[z];rfl
  rw[this]at hs;exact absurd rfl hs
 |some u=>
  obtain⟨e',t',l'⟩:=u;have yx:y=x:=by rw[ey];show(if(bC (cj B.rows[p] x.c) x.d s.2).isNone then _ else _)=_;rw[z];rfl
  subst yx;obtain⟨h2,e4,g2,w2⟩:=zxq nB (k:=k) (h:=h1) (a:=m) hm S1.gm z;have eA:ev (run F (k+1)) (.cons (.var 11) (.cons (.var 1) (.cons (.idx (.var 10) (.cst (.int (1)))) .nil))) bB h1=.ok (.tup [w,.ref m,.int y.d]) h1:=
   aI (aH rfl) (aI (aH rfl) (aI (iq (i:=1) Gb rfl) br))
  have xP:h2.get q=aD (.lst (gO y)):=by rw[w2.get _ (bT Gb) (S1.rm q hmr)];exact Gb
  have e5:=pQ (gM eA e4) (aH (cl:=run F (k+1)) (i:=10) (ρ:=bB) (h:=h2) rfl) (aR (w:=.int 1)) (k:=1) xP rfl;let h3:=h2.set q (.lst [.int y.c,.int e',.bl y.s]);have KG:h3.get q=aD (.lst [.int y.c,.int e',.bl y.s]):=nN xP;have eO:ev (run F (k+1)) (.op .add (.idx (.var 10) (.cst (.int (0)))) (.idx (.var 10) (.cst (.int (1))))) bB h3=.ok (.int (y.c+e')) h3:=
   lC (x:=.int y.c) (y:=.int e') (iq (i:=0) KG rfl) (iq (i:=1) KG rfl) rfl
  have e6:=pQ eO (aH (cl:=run F (k+1)) (i:=10) (ρ:=bB) (h:=h3) rfl) (aR (w:=.int 0)) (k:=0) KG rfl;have S3:=(S1.put (x:=⟨y.c,e',y.s⟩) hrb w2 g2).put (x:=⟨y.c+e',e',y.s⟩) hrb .refl (by
   have:=(S1.put (x:=⟨y.c,e',y.s⟩) hrb w2 g2).gm;exact this)
  refine CZ (h2:=h3.set q (.lst [.int (y.c+e'),.int e',.bl y.s])) ((vc c1).trans ((bI e5).trans ((bI e6).trans (by rw[exs];rfl)))) S3 ?_;unfold dD;rw[if_neg hs,hr,z,List.set_set,List.set_set,hys]
end
theorem vg{cl:Call}{nx:Nat->VH->Option (Option W)}{tg:W->VH->En->Option En}{e:E}{h:VH}{ws:List W}(hx:∀i,nx i h=aD ws[i]?)(P:En->Prop)(he:∀w∈ws,∀ρ,P ρ->∃bB,tg w h ρ=aD bB/\ev cl e bB h=.ok (.bl true) h/\P bB) :
 ∀(fu i:Nat)(ρ:En)(acc:List W),i<=ws.length->ws.length<fu+i->P ρ->gp nx tg (λ_ h=>.ok (.bl true) h) (ev cl e) fu i ρ h acc=.ok (acc.reverse++bD (ws.length-i) (.bl true)) h
 |0,i,ρ,acc,hi,hl,hP=>by lia
 |fu+1,i,ρ,acc,hi,hl,hP=>by
  cases q:ws[i]? with
  |none=>
   have:=nP.mp q;rw[gp,hx,q,show ws.length-i=0 by lia];simp
  |some w=>
   obtain⟨hi',_⟩:=jJ.mp q;obtain⟨bB,e1,e2,P1⟩:=he w (jg q) ρ hP;have ih:=vg hx P he fu (i+1) bB (.bl true::acc) hi' (by lia) P1;rw[gp,hx,q];simp only[e1,aF,e2];rw[ih,show ws.length-i=(ws.length- (i+1))+1 by lia,ku];simp
theorem C0{cl:Call}{kd:Kd}{a e:E}{t:Tg}{ow:Nat}{ρ:En}{h h1:VH}{x:W}{ws:List W}(ea:ev cl a ρ h=.ok x h1)(hx:∀i,bg kd x i h1=aD ws[i]?)(hw:ws.length<=100000)(P:En->Prop)(hP:P (bD ow aE))(he:∀w∈ws,∀ρ,P ρ->∃bB,bH t w h1 ρ=aD bB/\ev cl e bB h1=.ok (.bl true) h1/\P bB) :
 ev cl (.bi .all (.cons (.lc kd a t ow [] (.cst (.bl true)) e) .nil)) ρ h=.ok (.bl true) (h1.new (.lst (bD ws.length (.bl true)))):=by
 have e1:=vg (cl:=cl) (tg:=bH t) (e:=e) hx P he fuel 0 (bD ow aE) [] (gf _) (by have hf:fuel=1000000:=rfl;lia) hP;refine Ku (j:=h1.n) (n:=ws.length) ?_ eB;rw[ev,ea,aF];show(gp (bg kd x) (bH t) (λ_ h=>.ok (.bl true) h) (ev cl e) fuel 0 (bD ow aE++[]) h1 []).bind _=_;rw[nI,e1,aF,if_pos (u7 (by simp;lia))];rfl
theorem zs9{u v:W}{ws:List W}{h:VH}(hu:aS h u=aD ws)(hv:aS h v=aD ws)(i:Nat):bg .zip (.tup [u,v]) i h=aD (ws.map λa=>.tup [a,a])[i]?:=by simp only[bg,hu,hv,gh];cases ws[i]?<;>rfl
theorem vh{cl:Call}{a b e:E}{ρ:En}{u v:W}{ws:List W}{h h1 h2:VH}(ea:ev cl a ρ h=.ok u h1)(eb:ev cl b ρ h1=.ok v h2)(hu:aS h2 u=aD ws)(hv:aS h2 v=aD ws)(hw:ws.length<=100000)(he:∀w∈ws,ev cl e [aD w,aD w] h2=.ok (.bl true) h2) :
 ev cl (.bi .all (.cons (.lc .zip (.cons a (.cons b .nil)) (.many [0,1]) 2 [] (.cst (.bl true)) e) .nil)) ρ h=.ok (.bl true) (h2.new (.lst (bD (ws.map λa=>W.tup [a,a]).length (.bl true)))):=
 C0 (aI ea (aI eb br)) (zs9 hu hv) (by rw[bz];exact hw) (λρ=>∃x y,ρ=[x,y]) ⟨_,_,rfl⟩ λw hw ρ bW=>by
  obtain⟨x,y,xN⟩:=bW;obtain⟨z,hz,rfl⟩:=jz.mp hw;subst xN;exact⟨_,rfl,he z hz,_,_,rfl⟩
noncomputable def cY(n:Nat):List W:=(List.range n).map λ(i:Nat)=>W.int (i:Int)
theorem RA{n:Nat}:(cY n).length=n:=by unfold cY;rw[bz,vC]
theorem RB{n:Nat}{h:VH}(hn:n<1000000)(i:Nat):bg .bG (.tup [.int (n:Int)]) i h=aD (cY n)[i]?:=by rw[CS hn];unfold cY;rw[gh];by_cases q:i<n;rw[if_pos q,List.getElem?_range q];rfl;rw[if_neg q,nG (by rw[vC];lia)];rfl
noncomputable def KH(bt b:Int):W->W|.int d=>iW [b*bt+d,b,d]|_=>.aQ
noncomputable def KI(nr:Nat)(bt:Int):W->List W|.int b=>(cY nr).map (KH bt b)|_=>[]
theorem zta{nb nr:Nat}{bt:Int}:(cY nb).flatMap (KI nr bt)=(iQ nb nr bt).map iW:=by unfold iQ;rw[cY,List.flatMap_map,List.map_flatMap];refine jF (λf=>(List.range nb).flatMap f) (funext λb=>?_);show(cY nr).map (KH bt (b:Int))=_;rw[cY,yj,yj];rfl
theorem KJ{b bt:Int}{h:VH}(h1:-(2 ^ 63)<=b)(h2:b<2 ^ 63):gJ .mul (.int b) (.int bt) h=.ok (.int (b*bt)) h:=by show(Res.of ((if lU b||lU bt then aD (b*bt)else aE).map W.int) h)=_;rw[CH h1 h2,Bool.true_or];rfl
theorem RC{cl:Call}{ρ:En}{h:VH}{ib Gd C4:Nat}{b bt d:Int}(h1:-(2 ^ 63)<=b)(h2:b<2 ^ 63)(eb:ρ[ib]?=aD (aD (.int b)))(et:ρ[Gd]?=aD (aD (.int bt)))(ed:ρ[C4]?=aD (aD (.int d))) :
 ev cl (.tup (.cons (.op .add (.op .mul (.var ib) (.var Gd)) (.var C4)) (.cons (.var ib) (.cons (.var C4) .nil)))) ρ h=.ok (iW [b*bt+d,b,d]) h:=
 ki (ys:=[.int (b*bt+d),.int b,.int d]) (aI (lC (x:=.int (b*bt)) (y:=.int d) (lC (x:=.int b) (y:=.int bt) (aH eb) (aH et) (KJ h1 h2)) (aH ed) rfl) (aI (aH eb) (aI (aH ed) br))) rfl
theorem ztb{F:Nat->Option Fn}(xQ:F 107=aD mw){k nb nr:Nat}{bt:Int}{h:VH}(hb:nb<=200)(hr:nr<=60) :
 ∃j h',run F (k+1) 107 [.int (nb:Int),.int (nr:Int),.int bt] h=.ok (.ref j) h'/\h'.get j=aD (.lst ((fC nb nr bt).map iW))/\Gm h h'/\h.n<=j:=by
 let k0:VH:=⟨h.n,h.n,h.os⟩
 let cl:=run F k;let tl:En:=[aD (.int bt),aD (.int (nr:Int))]
 have fu:fuel=1000000:=rfl;have jB:∀x∈cY nb,∀(b:Option W)(acc:List W),∃b',(λρ h acc=>(ev cl xy ρ h).bind λy h=>i7 (bg .bG y) (bH (.one 1)) (λ_ h=>.ok (.bl true) h) (ev cl yX) fuel 0 ρ h acc) (aD x::b::tl) k0 acc=.ok (aD x::b'::tl,(KI nr bt x).reverse++acc) k0:=by
  intro x hx b acc;unfold cY at hx;obtain⟨n,hn,rfl⟩:=jz.mp hx;have hn2:=tY.mp hn;obtain⟨b',e1⟩:=Rh (nx:=bg .bG (.tup [.int (nr:Int)])) (e:=ev cl yX) (h:=k0) (ws:=cY nr) (x:=.int (n:Int)) (tl:=tl) (f:=KH bt (n:Int)) (RB (by lia)) (λw hw=>by
   unfold cY at hw;obtain⟨d,_,rfl⟩:=jz.mp hw;exact RC (ib:=0) (Gd:=2) (C4:=1) (by lia) (by lia) rfl rfl rfl) fuel 0 b acc (gf _) (by rw[RA,fu];lia)
  refine⟨b',?_⟩;show(ev cl xy _ k0).bind _=_;rw[show ev cl xy (aD (.int (n:Int))::b::tl) k0=.ok (.tup [.int (nr:Int)]) k0 from aI (aH rfl) br,aF];exact e1
 have e2:=Rj (jB:=λρ h acc=>(ev cl xy ρ h).bind λy h=>i7 (bg .bG y) (bH (.one 1)) (λ_ h=>.ok (.bl true) h) (ev cl yX) fuel 0 ρ h acc) (nx:=bg .bG (.tup [.int (nb:Int)])) (h:=k0) (ws:=cY nb) (tl:=tl) (g:=KI nr bt) (RB (by lia)) jB fuel 0 aE aE [] (gf _) (by rw[RA,fu];lia);rw[List.drop_zero,zta]at e2;let ρ:En:=[aD (.int (nb:Int)),aD (.int (nr:Int)),aD (.int bt)]
 have hz:((iQ nb nr bt).map iW).length<=1000000:=by rw[bz,Kp];exact ie (DB hb hr) (by decide)
 have e3:ev cl (.oQ .bG (.cons (.var 0) .nil) (.one 0) 2 [2,1] (.cst (.bl true)) .bG xy (.one 1) (.cst (.bl true)) yX) ρ k0=.ok (.ref k0.n) (k0.new (.lst ((iQ nb nr bt).map iW))):=by rw[ev,show ev cl (.cons (.var 0) .nil) ρ k0=.ok (.tup [.int (nb:Int)]) k0 from aI (aH rfl) br,aF,Q6];show((kH (bg .bG (.tup [.int (nb:Int)])) (bH (.one 0)) (λ_ h=>.ok (.bl true) h) (λρ h acc=>(ev cl xy ρ h).bind λy h=>i7 (bg .bG y) (bH (.one 1)) (λ_ h=>.ok (.bl true) h) (ev cl yX) fuel 0 ρ h acc) fuel 0 (aE::aE::tl) k0 []).bind _)=_;rw[e2,aF];exact if_pos (u7 hz)
 let k1:=k0.new (.lst ((iQ nb nr bt).map iW));have e4:=CU e3 eB;have eb:exs cl mw.body ρ k0=.ok (.rt (.ref k1.n)) (k1.new (.lst ((fC nb nr bt).map iW))):=jw (fO e4);obtain⟨h2,e5,G2,g2⟩:=Ro (h:=h) (h':=k1.new (.lst ((fC nb nr bt).map iW))) (w:=.ref k1.n) (Rm (tS _)) (Gm.new (Gm.new Gm.refl));refine⟨k1.n,h2,?_,by rw[g2];exact eB,G2,tS _⟩;rw[dW xQ rfl,<-e5];exact jF (fin h) eb
noncomputable def gP(B:Bd)(x:eV):W:=if x.s then .aQ else(match B.door x.c with|.tup [n,_]=>n|_=>.aQ)
theorem KL{B:Bd}{x:eV}(b:B.Ok)(hx:iI B.wd x):x.s=false->∃(a:Int) (y:W),B.door x.c=.tup [.int a,y]/\gP B x=.int a:=by intro z;obtain⟨a,y,e,_⟩:=Q8 (b.door hx.c0 hx.c1).2;refine⟨a,y,e,?_⟩;unfold gP;rw[z,e];rfl
theorem RD{B:Bd}{x:eV}(b:B.Ok)(hx:iI B.wd x):gP B x=.aQ\/∃a:Int,gP B x=.int a:=by
 cases z:x.s with|true=>exact .inl (by unfold gP;rw[z];rfl)|false=>obtain⟨a,_,_,e⟩:=KL b hx z;exact .inr ⟨a,e⟩
noncomputable def fY(B:Bd)(r:List Nat)(ls:List Int):List eV×List Int:=(r.map λf=>⟨B.col f,0,false⟩,ls)
theorem pR{B:Bd}{r:List Nat}{ls:List Int}{g:Nat}(b:B.Ok)(hf:∀f∈r,f<B.fd.length)(hl:ls.length=g)(bi:gF ls):dX B.wd r.length g (fY B r ls):=
 ⟨by unfold fY;rw[bz],λx hx=>by
  unfold fY at hx;obtain⟨f,hm,rfl⟩:=jz.mp hx;obtain⟨_,h1,h2⟩:=b.col (hf f hm);exact⟨h1,h2,by show(-1:Int)<=0;decide,by show(0:Int)<=1;decide⟩,hl,bi⟩
theorem zo1{F:Nat->Option Fn}(A:CoreA F)(KN:F 28=aD sM){k:Nat}{h:VH}{r:List Nat}{n:Int}(hr:r.length<=200)(hf:∀f∈r,(f:Int)<n):run F (k+4) 28 [.tup (aO r),.int n,.int 200] h=.ok (.bl true) h:=by
 rw[dW KN rfl];have e:=JM A (k:=k) (h:=⟨h.n,h.n,h.os⟩) (w:=.tup (aO r)) (a:=0) (b:=200) (lo:=0) (hi:=n-1) (by unfold Kn;simp) (λws e=>by
  cases e;unfold aO;refine⟨by rw[bz];lia,λx hx=>?_⟩;obtain⟨y,_,rfl⟩:=jz.mp hx;unfold Kn;simp)
 have e2:pK (.tup (aO r)) 0 200 0 (n-1)=true:=by unfold aO pK gK;simp only[bz,bE,fj,nH];refine⟨⟨by lia,by lia⟩,λw hw=>?_⟩;obtain⟨x,hx,rfl⟩:=jz.mp hw;have:=hf x hx;simp only[within,bE,fj];lia
 rw[e2]at e;simp[sM,exs,ev,gJ,eY,e,dO]
structure xR(F:Nat->Option Fn):Prop where
 b:mD F
 Kl:F 17=aD sJ
 Km:F 22=aD pG
 Ko:F 24=aD sL
 KN:F 28=aD sM
 xQ:F 107=aD mw
 nA:F 173=aD dN
 KP:F 270=aD mq
section
variable{F:Nat->Option Fn}
theorem zf{cl:Call}{a e:E}{ρ:En}{h h1:VH}{x:W}{ow:Nat}{ix:List Nat}{t:Tg}{kd:Kd}{n:Nat}{f:Nat->W}(ea:ev cl a ρ h=.ok x h1)(hn:n<=100000)(P:En->Prop)(hP:P (inner ow ix ρ))
 (go:∀i,i<n->∀ρ,P ρ->∃w bB,bg kd x i h1=aD (aD w)/\bH t w h1 ρ=aD bB/\ev cl e bB h1=.ok (f i) h1/\P bB) (stop:bg kd x n h1=aD aE) :
 ev cl (.lc kd a t ow ix (.cst (.bl true)) e) ρ h=.ok (.ref h1.n) (h1.new (.lst ((List.range n).map f))):=by
 obtain⟨ys,ρ',h',e1,hI⟩:=Rl (nx:=bg kd x) (tg:=bH t) (e:=ev cl e) (n:=n) (I:=λi ρ h acc=>P ρ/\h=h1/\acc=(List.range i).map f)
  (λi ρ h acc hi hI=>by
    obtain⟨hP,rfl,rfl⟩:=hI;obtain⟨w,bB,e1,e2,e3,hP1⟩:=go i hi ρ hP;exact⟨w,bB,f i,h,e1,e2,e3,hP1,rfl,by rw[List.range_succ,tX];rfl⟩)
  (λρ h acc hI=>by obtain⟨_,rfl,_⟩:=hI;exact stop)
  (ρ:=inner ow ix ρ) (h:=h1) (by lia) ⟨hP,rfl,rfl⟩
 obtain⟨_,rfl,rfl⟩:=hI;exact Rn ea e1 (by rw[bz,vC];lia)
theorem C5{α:Type}{f:Nat->W}{g:α->W}{l:List α}(h:∀i x,l[i]?=aD x->f i=g x):(List.range l.length).map f=l.map g:=by refine List.ext_getElem (by rw[bz,bz,vC]) λi h1 h2=>?_;rw[List.getElem_map,List.getElem_map,List.getElem_range];exact h i _ (eT _)
theorem ztc(C:xR F){k m c d j g:Nat}{B:Bd}{k0 h:VH}{s:List eV×List Int}{l r t:W}{a:E}{bt:Int}{h1:VH}(b:B.Ok)(hg:B.gr=g)(hn:s.1.length<=200)(O:dX B.wd s.1.length g s)
 (ea:ev (run F (k+1)) a (gG B l r t m c d aE aE aE aE) h1=.ok (.ref j) h) (S:ve k0 h m c d j ((fC s.1.length B.rows.length bt).map iW) s) :
 ∃h2 cX dG ic,exs (run F (k+1)) (.«for» .seq a (.many [10,11,12]) CF) (gG B l r t m c d aE aE aE aE) h1=.ok (.nx (gG B l r t m c d cX dG ic aE)) h2/\
  ve k0 h2 m c d j ((fC s.1.length B.rows.length bt).map iW) (bN B.rows s (fC s.1.length B.rows.length bt))/\dX B.wd s.1.length g (bN B.rows s (fC s.1.length B.rows.length bt)):=by
 have b1:=b.r1;have fu:fuel=1000000:=rfl;let T:=fC s.1.length B.rows.length bt;have hT:T.length<=12000:=by show(fC _ _ _).length<=_;rw[Rw];exact ie (DB hn b1) (by decide)
 obtain⟨ρ',h',e1,hI⟩:=y9 (nx:=bg .seq (.ref j)) (tg:=bH (.many [10,11,12])) (b:=exs (run F (k+1)) CF) (n:=T.length)
  (I:=λi ρ h2=>(∃cX dG ic,ρ=gG B l r t m c d cX dG ic aE)/\ve k0 h2 m c d j (T.map iW) (bN B.rows s (T.take i))/\dX B.wd s.1.length g (bN B.rows s (T.take i)))
  (λi ρ h2 hi hI=>by
    obtain⟨⟨cX,dG,ic,rfl⟩,S,O⟩:=hI;have hx:=eT hi;obtain⟨p,q,hp,hq,ek⟩:=Kq (jg hx);rw[ek]at hx;have O':dX B.wd (bN B.rows s (T.take i)).1.length g (bN B.rows s (T.take i)):=by rw[O.len];exact O
    obtain⟨h3,e3,S3⟩:=zs7 C.nA (k:=k) (b:=p) (p:=q) (l:=l) (r:=r) (t:=t) (cX:=aD (.int ((p:Int)*bt+ (q:Int)))) (zd:=aE) b hg (by rw[O.len];exact hp) hq O' S ((p:Int)*bt+ (q:Int));have O3:=Ks (t:=(p:Int)*bt+ (q:Int)) (rs:=B.rows) (by rw[<-hg];exact b.r2) hp hq O;refine⟨iW [(p:Int)*bt+ (q:Int),(p:Int),(q:Int)],gG B l r t m c d (aD (.int ((p:Int)*bt+ (q:Int)))) (aD (.int (p:Int))) (aD (.int (q:Int))) aE,_,h3,?_,rfl,e3,⟨_,_,_,rfl⟩,?_,?_⟩;rw[qA S.gj,gh,hx];rfl;rw[F8 hx];exact S3;rw[F8 hx];exact O3)
  (λρ h2 hI=>by
    obtain⟨_,S,_⟩:=hI;rw[qA S.gj,nG (by rw[bz];exact aT _)])
  T.length 0 fuel (gG B l r t m c d aE aE aE aE) h (nF _) (by lia) ⟨⟨aE,aE,aE,rfl⟩,S,O⟩
 obtain⟨⟨cX,dG,ic,rfl⟩,S',O'⟩:=hI;rw[zA]at S' O';exact⟨h',cX,dG,ic,(kj ea).trans e1,S',O'⟩
theorem zip2{h:VH}{c d i:Nat}{xs ys:List W}{x y:W}(gc:h.get c=aD (.lst xs))(gd:h.get d=aD (.lst ys))(hx:xs[i]?=aD x)(hy:ys[i]?=aD y):bg .zip (.tup [.ref c,.ref d]) i h=aD (aD (.tup [x,y])):=by simp only[bg,aS,gc,gd,hx,hy]
theorem vj{h:VH}{c d i:Nat}{xs ys:List W}(gc:h.get c=aD (.lst xs))(gd:h.get d=aD (.lst ys))(hx:xs[i]?=aE):bg .zip (.tup [.ref c,.ref d]) i h=aD aE:=by simp only[bg,aS,gc,gd,hx]
noncomputable def nC(B:Bd)(x:eV):W:=if x.s then .tup [.aQ,.aQ]else B.door x.c
theorem zxr{B:Bd}{x:eV}(b:B.Ok)(hx:iI B.wd x):∃y,nC B x=.tup [gP B x,y]:=by
 cases z:x.s with
 |true=>exact⟨.aQ,by unfold nC gP;rw[z];rfl⟩
 |false=>
  obtain⟨a,y,e,en⟩:=KL b hx z;exact⟨y,by rw[en];unfold nC;rw[z,e];rfl⟩
theorem ztd{k m c d j g:Nat}{B:Bd}{k0 h:VH}{s:List eV×List Int}{l r t:W}{ks:List W}{cX dG ic:Option W}(b:B.Ok)(hn:s.1.length<=200)(O:dX B.wd s.1.length g s)(S:ve k0 h m c d j ks s) :
 ∃h2,exs (run F (k+1)) (.seq (.set 13 (.lc .zip (.cons (.var 8) (.cons (.var 9) .nil)) (.many [0,1]) 2 [6] (.cst (.bl true)) Fy)) (.seq (.ret (.tup (.cons (.bi .tuple (.cons (.lc .seq (.var 13) (.one 0) 1 [] (.cst (.bl true)) JE) .nil)) (.cons (.bi .tuple (.cons (.var 7) .nil)) .nil)))) .skip)) (gG B l r t m c d cX dG ic aE) h=.ok (.rt (.tup [.tup (s.1.map (gP B)),iW s.2])) h2/\Gm h h2:=by
 let f3:Nat->W:=λi=>match s.1[i]? with|some x=>nC B x|none=>.aQ
 have e3:=zf (cl:=run F (k+1)) (a:=.cons (.var 8) (.cons (.var 9) .nil)) (e:=Fy) (ρ:=gG B l r t m c d cX dG ic aE) (h:=h) (h1:=h) (x:=.tup [.ref c,.ref d]) (ow:=2) (ix:=[6]) (t:=.many [0,1]) (kd:=.zip) (n:=s.1.length) (f:=f3) (aI (aH rfl) (aI (aH rfl) br)) (by lia) (λρ=>∃x y,ρ=[x,y,aD (.tup B.dr)]) ⟨_,_,rfl⟩
  (λi hi ρ hP=>by
    obtain⟨x,y,rfl⟩:=hP;have hx:=eT hi;have ox:=O.tM _ (jg hx);have ef:f3 i=nC B s.1[i]:=by show(match s.1[i]? with|some x=>nC B x|none=>.aQ)=_;rw[hx]
    generalize s.1[i]=q at hx ox ef;refine⟨.tup [.int q.c,dB q],[aD (.int q.c),aD (dB q),aD (.tup B.dr)],zip2 (x:=.int q.c) (y:=dB q) S.gc S.gd (by rw[gh,hx];rfl) (by rw[gh,hx];rfl),rfl,?_,_,_,rfl⟩;rw[ef];unfold Fy nC;have ec:ev (run F (k+1)) (.cmp .oO (.var 1) (.cst .aQ)) [aD (.int q.c),aD (dB q),aD (.tup B.dr)] h=.ok (.bl q.s) h:=by rw[ev,aH (x:=dB q) rfl,aF,aR,aF];unfold dB;cases q.s<;>rfl
    rw[ev,ec,aF];cases z:q.s with|true=>exact aR|false=>exact bK (x:=.tup B.dr) (y:=.int q.c) (aH rfl) (aH rfl) (b.door ox.c0 ox.c1).1)
  (vj S.gc S.gd (nG (by rw[bz];exact aT _)))
 rw[C5 (g:=nC B) (λi x hx=>by show(match s.1[i]? with|some x=>nC B x|none=>.aQ)=_;rw[hx])]at e3;let h1:=h.new (.lst (s.1.map (nC B)));let bB:En:=gG B l r t m c d cX dG ic (aD (.ref h.n));have g1:h1.get h.n=aD (.lst (s.1.map (nC B))):=eB;let f4:Nat->W:=λi=>match s.1[i]? with|some x=>gP B x|none=>.aQ
 have e4:=zf (cl:=run F (k+1)) (a:=.var 13) (e:=JE) (ρ:=bB) (h:=h1) (h1:=h1) (x:=.ref h.n) (ow:=1) (ix:=[]) (t:=.one 0) (kd:=.seq) (n:=s.1.length) (f:=f4) (aH rfl) (by lia) (λρ=>∃x,ρ=[x]) ⟨_,rfl⟩
  (λi hi ρ hP=>by
    obtain⟨x,rfl⟩:=hP;have hx:=eT hi;have ox:=O.tM _ (jg hx);have ef:f4 i=gP B s.1[i]:=by show(match s.1[i]? with|some x=>gP B x|none=>.aQ)=_;rw[hx]
    generalize s.1[i]=q at hx ox ef;obtain⟨y,ey⟩:=zxr b ox;refine⟨nC B q,[aD (nC B q)],by rw[qA g1,gh,hx];rfl,rfl,?_,_,rfl⟩;rw[ef,ey];exact bK (x:=.tup [gP B q,y]) (y:=.int 0) (aH rfl) aR rfl)
  (by rw[qA g1,nG (by rw[bz];exact aT _)])
 rw[C5 (g:=gP B) (λi x hx=>by show(match s.1[i]? with|some x=>gP B x|none=>.aQ)=_;rw[hx])]at e4;let h2:=h1.new (.lst (s.1.map (gP B)));have e5:=Kf e4 (zc eB);have gm:h2.get m=aD (.lst (s.2.map .int)):=by have lm:=bT S.gm;rw[eK (tQ lm),eK lm];exact S.gm
 have e6:ev (run F (k+1)) (.bi .tuple (.cons (.var 7) .nil)) bB h2=.ok (iW s.2) h2:=Kf (x:=.ref m) (aH rfl) (zc gm);refine⟨h2,?_,Gm.new (Gm.new Gm.refl)⟩;exact(bI (cD e3)).trans (jw (fO (ki (aI e5 (aI e6 br)) rfl)))
end
section
variable{F:Nat->Option Fn}(C:xR F)
theorem C6{r:List Nat}{B:Bd}(hf:∀f∈r,f<B.fd.length){i:Nat}(hi:i<r.length):r[i]<B.fd.length:=hf _ (iK hi)
theorem zxs{cl:Call}{B:Bd}{r:List Nat}{ρ:En}{h:VH}{a:E}{ix:List Nat}(b:B.Ok)(hr:r.length<=200)(hf:∀f∈r,f<B.fd.length)(ea:ev cl a ρ h=.ok (.tup (aO r)) h)(hix:inner 1 ix ρ=[aE,aD (.tup B.fd)]) :
 ev cl (.lc .seq a (.one 0) 1 ix (.cst (.bl true)) JC) ρ h=.ok (.ref h.n) (h.new (.lst (r.map λf=>W.int (B.col f)))):=by
 let f:Nat->W:=λi=>match r[i]? with|some x=>W.int (B.col x)|none=>W.aQ
 have e:=zf (cl:=cl) (a:=a) (e:=JC) (ρ:=ρ) (h:=h) (h1:=h) (x:=.tup (aO r)) (ow:=1) (ix:=ix) (t:=.one 0) (kd:=.seq) (n:=r.length) (f:=f) ea (by lia) (λρ=>∃x,ρ=[x,aD (.tup B.fd)]) ⟨aE,hix⟩
  (λi hi ρ hP=>by
    obtain⟨x,rfl⟩:=hP;have hx:=eT hi;refine⟨.int (r[i]:Nat),[aD (.int (r[i]:Nat)),aD (.tup B.fd)],?_,rfl,?_,_,rfl⟩;show aD (aO r)[i]?=_;unfold aO;rw[gh,hx];rfl;show _=Res.ok (match r[i]? with|some x=>W.int (B.col x)|none=>W.aQ) h;rw[hx];exact bK (x:=.tup B.fd) (y:=.int (r[i]:Nat)) (aH rfl) (aH rfl) (iN (b.col (C6 hf hi)).1))
  (by show aD (aO r)[r.length]?=_;unfold aO;rw[nG (by rw[bz];exact aT _)])
 rw[C5 (g:=λx=>W.int (B.col x)) (λi x hx=>by show(match r[i]? with|some x=>W.int (B.col x)|none=>W.aQ)=_;rw[hx])]at e;exact e
theorem zte{cl:Call}{r:List Nat}{ρ:En}{h:VH}{a:E}(hr:r.length<=200)(ea:ev cl a ρ h=.ok (.tup (aO r)) h) :
 ev cl (.lc .seq a (.one 0) 1 [] (.cst (.bl true)) JD) ρ h=.ok (.ref h.n) (h.new (.lst (r.map λ_=>W.int 0))):=by
 have e:=zf (cl:=cl) (a:=a) (e:=JD) (ρ:=ρ) (h:=h) (h1:=h) (x:=.tup (aO r)) (ow:=1) (ix:=[]) (t:=.one 0) (kd:=.seq) (n:=r.length) (f:=λ_=>.int 0) ea (by lia) (λρ=>∃x,ρ=[x]) ⟨aE,rfl⟩
  (λi hi ρ hP=>by
    obtain⟨x,rfl⟩:=hP;have hx:=eT hi;refine⟨.int (r[i]:Nat),[aD (.int (r[i]:Nat))],?_,rfl,aR,_,rfl⟩;show aD (aO r)[i]?=_;unfold aO;rw[gh,hx];rfl)
  (by show aD (aO r)[r.length]?=_;unfold aO;rw[nG (by rw[bz];exact aT _)])
 rw[C5 (g:=λ_=>W.int 0) (λi x hx=>rfl)]at e;exact e
theorem pS{cl:Call}{e:E}{ρ:En}{h h1:VH}{t:Bool}(ee:ev cl e ρ h=.ok (.bl t) h1):ev cl (.not (.jo e)) ρ h=.ok (.bl (!t)) h1:=by rw[ev,ev,ee,aF];rfl
include C
theorem ztf{k g:Nat}{B:Bd}{h:VH}{r:List Nat}{ls:List Int}{bt:Int}(b:B.Ok)(hg:B.gr=g)(hr:r.length<=200)(hf:∀f∈r,f<B.fd.length)(hl:ls.length=g)(bi:gF ls)(b0:1<=bt)(b1:bt<=100) :
 run F (k+10) 270 [B.w,iW ls,.tup (aO r),.int bt] h=.ok (.tup [.tup ((bN B.rows (fY B r ls) (fC r.length B.rows.length bt)).1.map (gP B)),iW (bN B.rows (fY B r ls) (fC r.length B.rows.length bt)).2]) h:=by
 let k0:VH:=⟨h.n,h.n,h.os⟩
 let cl:=run F (k+9);have O:=pR b hf hl bi;have hlen:r.length=(fY B r ls).1.length:=O.len.symm;have hn:(fY B r ls).1.length<=200:=by rw[<-hlen];exact hr
 rw[hlen]at O ⊢;let row:W:=.tup (aO r);let iR:En:=[aD B.w,aD (iW ls),aD row,aD (.int bt),aE,aE,aE,aE,aE,aE,aE,aE,aE,aE]
 let bB (x7 x8 x9:Option W):En:=[aD B.w,aD (iW ls),aD row,aD (.int bt),aD (.tup (B.rows.map .tup)),aD (.tup B.fd),aD (.tup B.dr),x7,x8,x9,aE,aE,aE,aE]
 have e1:exs cl (.expr (.call 24 (.cons (.var 0) (.cons (.var 1) .nil)))) iR k0=.ok (.nx iR) k0:=by rw[exs,gV (x:=B.w) (y:=iW ls) (aH rfl) (aH rfl) (zxo C.b C.Kl C.Km C.Ko (k:=k) b (by rw[hl,hg]) bi),aF]
 have e2:exs cl (.Bv [4,5,6] (.slc (.var 0) true (.cst (.int (2))) false (.cst .aQ))) iR k0=.ok (.nx (bB aE aE aE)) k0:=by rw[exs,xM (x:=B.w) (l:=.int 2) (u:=.aQ) (w:=.tup [.tup (B.rows.map .tup),.tup B.fd,.tup B.dr]) (aH rfl) aR aR rfl rfl rfl,aF];rfl
 have xS:(aO r).length=r.length:=by unfold aO;rw[bz]
 have c3:=pS (gM (ys:=[row,.int (B.fd.length:Int),.int 200]) (aI (aH (cl:=cl) (i:=2) (ρ:=bB aE aE aE) (h:=k0) rfl) (aI (iP (a:=.var 5) (ws:=B.fd) (aH rfl) rfl) (aI aR br))) (zo1 C.b.toCoreA C.KN (k:=k+5) (h:=k0) hr (λf hm=>by have:=hf f hm;lia)));have c4:=pS (gM (ys:=[.int bt,.int 1,.int 100]) (aI (aH (cl:=cl) (i:=3) (ρ:=bB aE aE aE) (h:=k0) rfl) (aI aR (aI aR br))) (uX C.b.toCoreA (k:=k+7) (h:=k0) (w:=.int bt) (lo:=1) (hi:=100) (by unfold Kn;simp)));rw[show within (.int bt) 1 100=true by simp only[within,bE,fj];exact⟨b0,b1⟩]at c4;let h1:=k0.new (.lst (ls.map .int));have e5:ev cl (.bi .list (.cons (.var 1) .nil)) (bB aE aE aE) k0=.ok (.ref k0.n) h1:=u9 (x:=iW ls) (aH rfl) rfl;let h2:=h1.new (.lst (r.map λf=>.int (B.col f)));have e6:=zxs (cl:=cl) (a:=.var 2) (ix:=[5]) (ρ:=bB (aD (.ref k0.n)) aE aE) (h:=h1) b hr hf (aH rfl) rfl;let h3:=h2.new (.lst (r.map λ_=>W.int 0));have e7:=zte (cl:=cl) (a:=.var 2) (ρ:=bB (aD (.ref k0.n)) (aD (.ref h1.n)) aE) (h:=h2) hr (aH rfl);let qz:En:=gG B (iW ls) row (.int bt) k0.n h1.n h2.n aE aE aE aE;obtain⟨j,h4,e8,g4,G4,l4⟩:=ztb C.xQ (k:=k+8) (nb:=(fY B r ls).1.length) (nr:=B.rows.length) (bt:=bt) (h:=h3) hn b.r1;have eL2:ev cl (.bi .len (.cons (.var 2) .nil)) qz h3=.ok (.int ((fY B r ls).1.length:Int)) h3:=by have:=iP (cl:=cl) (a:=.var 2) (ρ:=qz) (h:=h3) (h1:=h3) (x:=row) (ws:=aO r) (aH rfl) rfl;rw[xS,hlen]at this;exact this
 have eL4:ev cl (.bi .len (.cons (.var 4) .nil)) qz h3=.ok (.int (B.rows.length:Int)) h3:=by have:=iP (cl:=cl) (a:=.var 4) (ρ:=qz) (h:=h3) (h1:=h3) (x:=.tup (B.rows.map .tup)) (ws:=B.rows.map .tup) (aH rfl) rfl;rw[bz]at this;exact this
 have ea:=gM (ys:=[.int ((fY B r ls).1.length:Int),.int (B.rows.length:Int),.int bt]) (aI eL2 (aI eL4 (aI (aH (cl:=cl) (i:=3) (ρ:=qz) (h:=h3) rfl) br))) e8;have n1:h1.n=h.n+1:=rfl;have n2:h2.n=h.n+2:=rfl;have n3:h3.n=h.n+3:=rfl;have n0:k0.n=h.n:=rfl;have gm:h3.get k0.n=aD (.lst (ls.map .int)):=by rw[eK (by lia),eK (by lia)];exact eB
 have gc:h3.get h1.n=aD (.lst (r.map λf=>.int (B.col f))):=by rw[eK (by lia)];exact eB
 have gd:h3.get h2.n=aD (.lst (r.map λ_=>W.int 0)):=eB;have S:ve k0 h4 k0.n h1.n h2.n j ((fC (fY B r ls).1.length B.rows.length bt).map iW) (fY B r ls):=by refine⟨?_,?_,?_,aT _,by lia,by lia,by lia,by lia,by lia,g4,by lia,by lia,by lia,(Gm.new (Gm.new (Gm.new Gm.refl))).trans G4⟩;rw[G4.get _ (by lia)];exact gm;rw[G4.get _ (by lia),gc];unfold fY;rw[yj];rfl;rw[G4.get _ (by lia),gd];unfold fY;rw[yj];rfl
 obtain⟨h5,cX,dG,ic,e9,S5,O5⟩:=ztc C (k:=k+8) (l:=iW ls) (r:=row) (t:=.int bt) b hg hn O ea S;obtain⟨h6,IW,G6⟩:=ztd (F:=F) (k:=k+8) (l:=iW ls) (r:=row) (t:=.int bt) (cX:=cX) (dG:=dG) (ic:=ic) b (by rw[O5.len];exact hn) (by rw[O5.len];exact O5) S5;rw[dW C.KP rfl];have eb:exs cl mq.body iR k0=.ok (.rt (.tup [.tup ((bN B.rows (fY B r ls) (fC (fY B r ls).1.length B.rows.length bt)).1.map (gP B)),iW (bN B.rows (fY B r ls) (fC (fY B r ls).1.length B.rows.length bt)).2])) h6:=by refine(bI e1).trans ?_;refine(bI e2).trans ?_;refine(bI (ρ':=bB aE aE aE) (h':=k0) ((lD c3).trans (by rw[exs]))).trans ?_;refine(bI (ρ':=bB aE aE aE) (h':=k0) ((lD c4).trans (by rw[exs]))).trans ?_;refine(bI (cD e5)).trans ?_;refine(bI (cD e6)).trans ?_;refine(bI (cD e7)).trans ?_;refine(bI e9).trans ?_;exact IW
 show fin h (exs cl mq.body iR k0)=_;rw[eb];refine zxm (Pv.tup λw hw=>?_) (S5.G.trans G6);rcases fP.mp hw with rfl|hw
 refine Pv.tup λw hw=>?_;obtain⟨x,hx,rfl⟩:=jz.mp hw;rcases RD b (O5.tM x hx)with e|⟨a,e⟩
 rw[e];exact λn=>rfl;rw[e];exact Pv.int;rw[pZ.mp hw];refine Pv.tup λw hw=>?_;obtain⟨x,hx,rfl⟩:=jz.mp hw;exact Pv.int
end
structure xT(F:Nat->Option Fn):Prop where
 nB:F 158=aD fX
 KQ:F 142=aD pH
section
variable{F:Nat->Option Fn}
theorem zo2{cl:Call}{B:Bd}{r:List Nat}{ρ:En}{h:VH}{a:E}(b:B.Ok)(hr:r.length<=200)(hf:∀f∈r,f<B.fd.length)(ea:ev cl a ρ h=.ok (.tup (aO r)) h)(hix:inner 1 [0] ρ=[aE,aD B.w]) :
 ∃(rs:List Nat) (h':VH),ev cl (.lc .seq a (.one 0) 1 [0] (.cst (.bl true)) FA) ρ h=.ok (.ref h'.n) (h'.new (.lst (rs.map .ref)))/\rs.length=r.length/\
  (∀(i q f:Nat),rs[i]?=aD q->r[i]?=aD f->h'.get q=aD (.lst (gO ⟨B.col f,0,false⟩)))/\rs.Nodup/\(∀q∈rs,h.n<=q/\q<h'.n)/\Gm h h':=by
 obtain⟨ys,ρ',h',e1,hI⟩:=Rl (nx:=bg .seq (.tup (aO r))) (tg:=bH (.one 0)) (e:=ev cl FA) (n:=r.length)
  (I:=λi ρ h2 acc=>(∃x,ρ=[x,aD B.w])/\∃rs:List Nat,acc=rs.map W.ref/\rs.length=i/\
    (∀(p q f:Nat),rs[p]?=aD q->r[p]?=aD f->h2.get q=aD (.lst (gO ⟨B.col f,0,false⟩)))/\rs.Nodup/\(∀q∈rs,h.n<=q/\q<h2.n)/\Gm h h2)
  (λi ρ h2 acc hi hI=>by
    obtain⟨⟨x,rfl⟩,rs,rfl,hl,at_,nd,lq,G⟩:=hI;have hx:=eT hi;have RE:=C6 hf hi;generalize r[i]=f at hx RE;let w:W:=.int (f:Int);let bB:En:=[aD w,aD B.w]
    have e2:ev cl FA bB h2=.ok (.ref h2.n) (h2.new (.lst (gO ⟨B.col f,0,false⟩))):=by refine dH (ys:=[.int (B.col f),.int 0,.bl false]) (aI (bK (x:=.tup B.fd) (y:=w) (bK (x:=B.w) (y:=.int 3) (aH rfl) aR rfl) (aH rfl) (iN (b.col RE).1)) (aI aR (aI aR br))) rfl
    refine⟨w,bB,.ref h2.n,_,?_,rfl,e2,⟨_,rfl⟩,rs++[h2.n],?_,?_,?_,?_,?_,G.new⟩;show aD (aO r)[i]?=_;unfold aO;rw[gh,hx];rfl;rw[tX];rfl;rw[eW,hl];rfl;intro p q f' h1 h3;by_cases z:p<rs.length;rw[tV z]at h1;have:=at_ p q f' h1 h3;rw[eK (bT this)];exact this;have hp:p=rs.length:=by have:=(jJ.mp h1).1;rw[eW,yd]at this;lia
    subst hp;rw[qL (aT _),Nat.sub_self]at h1;cases h1;rw[hl,hx]at h3;cases h3;exact eB;rw[List.nodup_append];refine⟨nd,vD.mpr ⟨DJ,List.nodup_nil⟩,λa ha c hc=>?_⟩;rw[pZ.mp hc];have:=(lq a ha).2;lia;intro q hq;show h.n<=q/\q<h2.n+1;have hg:=G.le;rcases mF.mp hq with hq|hq
    have:=lq q hq;lia;rw[pZ.mp hq];lia)
  (λρ h2 acc hI=>by show aD (aO r)[r.length]?=_;unfold aO;rw[nG (by rw[bz];exact aT _)])
  (ρ:=inner 1 [0] ρ) (h:=h) (by lia) ⟨⟨aE,hix⟩,[],rfl,rfl,(λp q f h1 _=>by cases h1),List.nodup_nil,(λq hq=>by cases hq),Gm.refl⟩
 obtain⟨_,rs,rfl,hl,at_,nd,lq,G⟩:=hI;exact⟨rs,h',Rn ea e1 (by rw[bz,hl];lia),hl,at_,nd,lq,G⟩
theorem zo3{cl:Call}{B:Bd}{r:List Nat}{h:VH}{m L q0:Nat}{bt:Int}(b:B.Ok)(hr:r.length<=200)(g0:h.get q0=aD (.lst [])) :
 ∃(q:Nat) (x7:Option W) (h':VH),exs cl (.«for» .bG (.cons (.bi .len (.cons (.var 2) .nil)) .nil) (.one 7) JF) (cN B (.tup (aO r)) (.int bt) m L (aD (.ref q0)) aE aE aE aE aE aE) h=.ok (.nx (cN B (.tup (aO r)) (.int bt) m L (aD (.ref q)) x7 aE aE aE aE aE)) h'/\
  h'.get q=aD (.lst ((iQ r.length B.rows.length bt).map iW))/\Gm h h':=by
 have b1:=b.r1;have xS:(aO r).length=r.length:=by unfold aO;rw[bz]
 obtain⟨ρ',h',e1,hI⟩:=y9 (nx:=bg .bG (.tup [.int (r.length:Int)])) (tg:=bH (.one 7)) (b:=exs cl JF) (n:=r.length)
  (I:=λi ρ h2=>∃q x7,ρ=cN B (.tup (aO r)) (.int bt) m L (aD (.ref q)) x7 aE aE aE aE aE/\h2.get q=aD (.lst ((iQ i B.rows.length bt).map iW))/\Gm h h2)
  (λi ρ h2 hi hI=>by
    obtain⟨q,x7,rfl,g,G⟩:=hI;let bB:En:=cN B (.tup (aO r)) (.int bt) m L (aD (.ref q)) (aD (.int (i:Int))) aE aE aE aE aE;have eL:ev cl (.cons (.bi .len (.cons (.var 4) .nil)) .nil) bB h2=.ok (.tup [.int (B.rows.length:Int)]) h2:=by have:=iP (cl:=cl) (a:=.var 4) (ρ:=bB) (h:=h2) (h1:=h2) (x:=.tup (B.rows.map .tup)) (ws:=B.rows.map .tup) (aH rfl) rfl;rw[bz]at this;exact aI this br
    have e2:=zf (cl:=cl) (a:=.cons (.bi .len (.cons (.var 4) .nil)) .nil) (e:=QE) (ρ:=bB) (h:=h2) (h1:=h2) (x:=.tup [.int (B.rows.length:Int)]) (ow:=1) (ix:=[3,7]) (t:=.one 0) (kd:=.bG) (n:=B.rows.length) (f:=λd=>iW [(i:Int)*bt+ (d:Int),(i:Int),(d:Int)]) eL (by lia) (λρ=>∃x,ρ=[x,aD (.int bt),aD (.int (i:Int))]) ⟨aE,rfl⟩
     (λd hd ρ hP=>by
       obtain⟨x,rfl⟩:=hP;exact⟨.int (d:Int),[aD (.int (d:Int)),aD (.int bt),aD (.int (i:Int))],by rw[CS (by lia),if_pos hd],rfl,RC (ib:=2) (Gd:=1) (C4:=0) (by lia) (by lia) rfl rfl rfl,_,rfl⟩)
     (by rw[CS (by lia),if_neg (jG _)])
    have hz:∀n,n<=r.length->n*B.rows.length<=12000:=λn hn=>ie (DB (ie hn hr) b1) (by decide);have e3:=lC (cl:=cl) (o:=.add) (a:=.var 6) (ρ:=bB) (x:=.ref q) (aH rfl) e2 (CT (h:=h2.new _) ((eK (bT g)).trans g) eB (by
     rw[bz,Kp,bz,vC];have:=hz i (by lia);lia))
    refine⟨.int (i:Int),bB,cN B (.tup (aO r)) (.int bt) m L (aD (.ref (h2.n+1))) (aD (.int (i:Int))) aE aE aE aE aE,_,by rw[CS (by lia),if_pos hi],rfl,(bI (cD e3)).trans (by rw[exs];rfl),_,_,rfl,?_,G.new.new⟩;rw[zo0,tX,yj];exact eB)
  (λρ h2 hI=>by rw[CS (by lia),if_neg (jG _)])
  r.length 0 fuel (cN B (.tup (aO r)) (.int bt) m L (aD (.ref q0)) aE aE aE aE aE aE) h (nF _) (show _<1000000 by lia) ⟨q0,aE,rfl,g0,Gm.refl⟩
 obtain⟨q,x7,rfl,g,G⟩:=hI;refine⟨q,x7,h',(kj (x:=.tup [.int (r.length:Int)]) ?_).trans e1,g,G⟩;have:=iP (cl:=cl) (a:=.var 2) (ρ:=cN B (.tup (aO r)) (.int bt) m L (aD (.ref q0)) aE aE aE aE aE aE) (h:=h) (h1:=h) (x:=.tup (aO r)) (ws:=aO r) (aH rfl) rfl;rw[xS]at this;exact aI this br
theorem ztg(C:xT F){k m L j g:Nat}{B:Bd}{k0 h h1:VH}{s:List eV×List Int}{rs:List Nat}{r t:W}{a:E}{bt:Int}{x6 x7:Option W}(b:B.Ok)(hg:B.gr=g)(hn:s.1.length<=200)(O:dX B.wd s.1.length g s)
 (ea:ev (run F (k+1)) a (cN B r t m L x6 x7 aE aE aE aE aE) h1=.ok (.ref j) h) (S:SL k0 h m L j ((fC s.1.length B.rows.length bt).map iW) rs s) :
 ∃h2 y7 x8 x9 cX dG,exs (run F (k+1)) (.«for» .seq a (.many [9,7,8]) xA) (cN B r t m L x6 x7 aE aE aE aE aE) h1=.ok (.nx (cN B r t m L x6 y7 x8 x9 cX dG aE)) h2/\
  SL k0 h2 m L j ((fC s.1.length B.rows.length bt).map iW) rs (bN B.rows s (fC s.1.length B.rows.length bt))/\dX B.wd s.1.length g (bN B.rows s (fC s.1.length B.rows.length bt)):=by
 have b1:=b.r1;have fu:fuel=1000000:=rfl;let T:=fC s.1.length B.rows.length bt;have hT:T.length<=12000:=by show(fC _ _ _).length<=_;rw[Rw];exact ie (DB hn b1) (by decide)
 obtain⟨ρ',h',e1,hI⟩:=y9 (nx:=bg .seq (.ref j)) (tg:=bH (.many [9,7,8])) (b:=exs (run F (k+1)) xA) (n:=T.length)
  (I:=λi ρ h2=>(∃y7 x8 x9 cX dG,ρ=cN B r t m L x6 y7 x8 x9 cX dG aE)/\SL k0 h2 m L j (T.map iW) rs (bN B.rows s (T.take i))/\dX B.wd s.1.length g (bN B.rows s (T.take i)))
  (λi ρ h2 hi hI=>by
    obtain⟨⟨y7,x8,x9,cX,dG,rfl⟩,S,O⟩:=hI;have hx:=eT hi;obtain⟨p,q,hp,hq,ek⟩:=Kq (jg hx);rw[ek]at hx;have O':dX B.wd (bN B.rows s (T.take i)).1.length g (bN B.rows s (T.take i)):=by rw[O.len];exact O
    obtain⟨h3,ze,vf,e3,S3⟩:=zs8 C.nB (k:=k) (b:=p) (p:=q) (r:=r) (t:=t) (x6:=x6) (x9:=aD (.int ((p:Int)*bt+ (q:Int)))) (cX:=cX) (dG:=dG) (ic:=aE) b hg (by rw[O.len];exact hp) hq O' S ((p:Int)*bt+ (q:Int));have O3:=Ks (t:=(p:Int)*bt+ (q:Int)) (rs:=B.rows) (by rw[<-hg];exact b.r2) hp hq O;refine⟨iW [(p:Int)*bt+ (q:Int),(p:Int),(q:Int)],cN B r t m L x6 (aD (.int (p:Int))) (aD (.int (q:Int))) (aD (.int ((p:Int)*bt+ (q:Int)))) cX dG aE,_,h3,?_,rfl,e3,⟨_,_,_,_,_,rfl⟩,?_,?_⟩;rw[qA S.gj,gh,hx];rfl;rw[F8 hx];exact S3;rw[F8 hx];exact O3)
  (λρ h2 hI=>by
    obtain⟨_,S,_⟩:=hI;rw[qA S.gj,nG (by rw[bz];exact aT _)])
  T.length 0 fuel (cN B r t m L x6 x7 aE aE aE aE aE) h (nF _) (by lia) ⟨⟨_,_,_,_,_,rfl⟩,S,O⟩
 obtain⟨⟨y7,x8,x9,cX,dG,rfl⟩,S',O'⟩:=hI;rw[zA]at S' O';exact⟨h',y7,x8,x9,cX,dG,(kj ea).trans e1,S',O'⟩
theorem zth{cl:Call}{m L j g:Nat}{B:Bd}{k0 h:VH}{s:List eV×List Int}{rs:List Nat}{r t:W}{ks:List W}{x6 x7 x8 x9 cX dG:Option W}(b:B.Ok)(hn:s.1.length<=200)(O:dX B.wd s.1.length g s)(S:SL k0 h m L j ks rs s) :
 ∃h2,exs cl (.seq (.set 12 (.lc .seq (.var 5) (.one 0) 1 [0] (.cst (.bl true)) FD)) (.seq (.ret (.lst (.cons (.var 12) (.cons (.bi .tuple (.cons (.var 1) .nil)) .nil)))) .skip)) (cN B r t m L x6 x7 x8 x9 cX dG aE) h=.ok (.rt (.ref (h.n+1))) h2/\h2.get (h.n+1)=aD (.lst [.ref h.n,iW s.2])/\h2.get h.n=aD (.lst (s.1.map (gP B)))/\Gm h h2:=by
 let f4:Nat->W:=λi=>match s.1[i]? with|some x=>gP B x|none=>.aQ
 have e4:=zf (cl:=cl) (a:=.var 5) (e:=FD) (ρ:=cN B r t m L x6 x7 x8 x9 cX dG aE) (h:=h) (h1:=h) (x:=.ref L) (ow:=1) (ix:=[0]) (t:=.one 0) (kd:=.seq) (n:=s.1.length) (f:=f4) (aH rfl) (by lia) (λρ=>∃x,ρ=[x,aD B.w]) ⟨_,rfl⟩
  (λi hi ρ hP=>by
    obtain⟨x,rfl⟩:=hP;have hx:=eT hi;have ox:=O.tM _ (jg hx);have hri:i<rs.length:=by rw[S.len];exact hi
    have hr:=eT hri;have gq:=S.at_ i _ _ hr hx;have ef:f4 i=gP B s.1[i]:=by show(match s.1[i]? with|some x=>gP B x|none=>.aQ)=_;rw[hx]
    generalize s.1[i]=q at hx ox ef gq;generalize rs[i]=a at hr gq;let bB:En:=[aD (.ref a),aD B.w]
    refine⟨.ref a,bB,by rw[qA S.gL,gh,hr];rfl,rfl,?_,_,rfl⟩;rw[ef];have ec:ev cl (.jo (.idx (.var 0) (.cst (.int (2))))) bB h=.ok (.bl q.s) h:=by rw[ev,bK (x:=.ref a) (y:=.int 2) (z:=.bl q.s) (aH rfl) aR (by simp only[bM,gq];rfl),aF];rfl
    unfold FD;rw[ev,ec,aF];cases z:q.s with
    |true=>unfold gP;rw[z];exact aR
    |false=>
     obtain⟨c,y,e,en⟩:=KL b ox z;rw[en];exact bK (x:=.tup [.int c,y]) (y:=.int 0) (bK (x:=.tup B.dr) (y:=.int q.c) (bK (x:=B.w) (y:=.int 4) (aH rfl) aR rfl) (bK (x:=.ref a) (y:=.int 0) (aH rfl) aR (by simp only[bM,gq];rfl)) (by rw[<-e];exact(b.door ox.c0 ox.c1).1)) aR rfl)
  (by rw[qA S.gL,nG (by rw[bz,S.len];exact aT _)])
 rw[C5 (g:=gP B) (λi x hx=>by show(match s.1[i]? with|some x=>gP B x|none=>.aQ)=_;rw[hx])]at e4;let h1:=h.new (.lst (s.1.map (gP B)));have gm:h1.get m=aD (.lst (s.2.map .int)):=by rw[eK (bT S.gm)];exact S.gm
 have e6:ev cl (.bi .tuple (.cons (.var 1) .nil)) (cN B r t m L x6 x7 x8 x9 cX dG (aD (.ref h.n))) h1=.ok (iW s.2) h1:=Kf (x:=.ref m) (aH rfl) (zc gm);let h2:=h1.new (.lst [.ref h.n,iW s.2]);refine⟨h2,(bI (cD e4)).trans (jw (fO (dH (ys:=[.ref h.n,iW s.2]) (aI (aH rfl) (aI e6 br)) rfl))),eB,?_,Gm.new (Gm.new Gm.refl)⟩;rw[eK (iT _)];exact eB
theorem zti(C:xT F){k g:Nat}{B:Bd}{h:VH}{r:List Nat}{ls:List Int}{bt:Int}(b:B.Ok)(hg:B.gr=g)(hr:r.length<=200)(hf:∀f∈r,f<B.fd.length)(hl:ls.length=g)(bi:gF ls) :
 ∃j nL h',run F (k+2) 142 [B.w,iW ls,.tup (aO r),.int bt] h=.ok (.ref j) h'/\h'.get j=aD (.lst [.ref nL,iW (bN B.rows (fY B r ls) (fC r.length B.rows.length bt)).2])/\h'.get nL=aD (.lst ((bN B.rows (fY B r ls) (fC r.length B.rows.length bt)).1.map (gP B)))/\Gm h h'/\h.n<=j/\h.n<=nL/\
  (bN B.rows (fY B r ls) (fC r.length B.rows.length bt)).1.length=r.length/\∀x∈(bN B.rows (fY B r ls) (fC r.length B.rows.length bt)).1,iI B.wd x:=by
 let k0:VH:=⟨h.n,h.n,h.os⟩
 let cl:=run F (k+1);have O:=pR b hf hl bi;have hlen:r.length=(fY B r ls).1.length:=O.len.symm;have hn:(fY B r ls).1.length<=200:=by rw[<-hlen];exact hr
 let row:W:=.tup (aO r);let iR (m:W) (x4 x5 x6:Option W):En:=[aD B.w,aD m,aD row,aD (.int bt),x4,x5,x6,aE,aE,aE,aE,aE,aE]
 let rows:W:=.tup (B.rows.map .tup);have e1:ev cl (.idx (.var 0) (.cst (.int (2)))) (iR (iW ls) aE aE aE) k0=.ok rows k0:=bK (x:=B.w) (y:=.int 2) (aH rfl) aR rfl;let h1:=k0.new (.lst (ls.map .int));have e2:ev cl (.bi .list (.cons (.var 1) .nil)) (iR (iW ls) (aD rows) aE aE) k0=.ok (.ref k0.n) h1:=u9 (x:=iW ls) (aH rfl) rfl;obtain⟨rs,h2,e3,len,at_,nd,lq,G2⟩:=zo2 (cl:=cl) (a:=.var 2) (ρ:=iR (.ref k0.n) (aD rows) aE aE) (h:=h1) b hr hf (aH rfl) rfl;let h3:=h2.new (.lst (rs.map .ref));let h4:=h3.new (.lst []);have e4:ev cl (.lst .nil) (iR (.ref k0.n) (aD rows) (aD (.ref h2.n)) aE) h3=.ok (.ref h3.n) h4:=dH br rfl;obtain⟨q,x7,h5,e5,g5,G5⟩:=zo3 (cl:=cl) (h:=h4) (m:=k0.n) (L:=h2.n) (bt:=bt) b hr (show h4.get h3.n=aD (.lst [])from eB);rw[hlen]at g5 O ⊢;have e6:=CU (cl:=cl) (a:=.var 6) (ρ:=cN B row (.int bt) k0.n h2.n (aD (.ref q)) x7 aE aE aE aE aE) (h:=h5) (aH rfl) g5;let h6:=h5.new (.lst ((fC (fY B r ls).1.length B.rows.length bt).map iW));have n0:k0.n=h.n:=rfl;have n1:h1.n=h.n+1:=rfl;have n3:h3.n=h2.n+1:=rfl;have n4:h4.n=h2.n+2:=rfl;have l2:=G2.le;have l5:=G5.le;have up:∀{i:Nat}{o:VO},h2.get i=aD o->h6.get i=aD o:=λ{i o} e=>by
  have:=bT e;rw[eK (by lia),G5.get _ (by lia),eK (by lia),eK (by lia)];exact e
 have g1:h2.get k0.n=aD (.lst (ls.map .int)):=by rw[G2.get _ (by lia)];exact eB
 have S:SL k0 h6 k0.n h2.n h5.n ((fC (fY B r ls).1.length B.rows.length bt).map iW) rs (fY B r ls):=by
  refine⟨up g1,?_,by rw[<-hlen];exact len,λi a x e1 e2=>?_,nd,aT _,by lia,λa ha=>?_,λa ha=>?_,λa ha=>?_,by lia,eB,by lia,λa ha=>?_,(((Gm.new Gm.refl).trans G2).new.new.trans G5).new⟩;rw[eK (by lia),G5.get _ (by lia),eK (by lia)];exact eB;unfold fY at e2;rw[gh]at e2;cases z:r[i]? with
  |none=>rw[z]at e2;cases e2
  |some f=>
   rw[z]at e2;cases e2;exact up (at_ i a f e1 z)
  have:=lq a ha;lia;have:=lq a ha;lia;have:=lq a ha;lia;have:=lq a ha;lia
 obtain⟨h7,y7,x8,x9,cX,dG,e7,S7,O7⟩:=ztg C (k:=k) b hg hn O e6 S;obtain⟨h8,e8,g8,gn8,G8⟩:=zth (cl:=cl) (r:=row) (t:=.int bt) (x6:=aD (.ref q)) (x7:=y7) (x8:=x8) (x9:=x9) (cX:=cX) (dG:=dG) b (by rw[O7.len];exact hn) (by rw[O7.len];exact O7) S7;have l7:=S7.G.le;have eb:exs cl pH.body (iR (iW ls) aE aE aE) k0=.ok (.rt (.ref (h7.n+1))) h8:=by refine(bI (cD e1)).trans ?_;refine(bI (cD e2)).trans ?_;refine(bI (cD e3)).trans ?_;refine(bI (cD e4)).trans ?_;refine(bI e5).trans ?_;refine(bI e7).trans ?_;exact e8
 obtain⟨h9,e9,G9,g9⟩:=Ro (h:=h) (h':=h8) (w:=.ref (h7.n+1)) (Rm (by lia)) (S7.G.trans G8);refine⟨h7.n+1,h7.n,h9,?_,by rw[g9];exact g8,by rw[g9];exact gn8,G9,by lia,by lia,by rw[O7.len],O7.tM⟩;rw[dW C.KQ rfl,<-e9];exact jF (fin h) eb
end
section
variable{F:Nat->Option Fn}
theorem RG(iS:F 151=aD iG){k:Nat}{h:VH}{i:Int}:run F (k+1) 151 [.int i,.int i] h=.ok (.bl true) h:=by rw[dW iS rfl];simp[iG,exs,ev,aU,gU,dO]
theorem zxt(pT:F 140=aD jb)(iS:F 151=aD iG){k:Nat}{h:VH}{a:List Int}(ha:a.length<=1000):run F (k+2) 140 [iW a,iW a] h=.ok (.bl true) h:=by
 let k0:VH:=⟨h.n,h.n,h.os⟩
 have e3:=vh (cl:=run F (k+1)) (a:=.var 0) (b:=.var 1) (e:=QD) (ρ:=[aD (iW a),aD (iW a)]) (u:=iW a) (v:=iW a) (ws:=a.map .int) (h:=k0) (h1:=k0) (h2:=k0) (aH rfl) (aH rfl) rfl rfl (by rw[bz];lia) (λw hw=>by
  obtain⟨x,_,rfl⟩:=jz.mp hw;exact gV (aH rfl) (aH rfl) (RG iS))
 rw[dW pT rfl];have e4:ev (run F (k+1)) (.or (.not (.jo (.rT .tuple (.var 0)))) (.cmp .ne (.bi .len (.cons (.var 0) .nil)) (.bi .len (.cons (.var 1) .nil)))) [aD (iW a),aD (iW a)] k0=.ok (.bl false) k0:=by unfold iW;simp[ev,jC,gT,aS,aU,gU]
 have eb:exs (run F (k+1)) jb.body [aD (iW a),aD (iW a)] k0=.ok (.rt (.bl true)) _:=
  (bI (ρ':=[aD (iW a),aD (iW a)]) (h':=k0) ((lD e4).trans (by rw[exs]))).trans (jw (fO e3))
 show fin h (exs (run F (k+1)) jb.body [aD (iW a),aD (iW a)] k0)=_;rw[eb];exact dO (aT _) (by simp)
theorem ztj(iS:F 151=aD iG)(pU:F 153=aD je){k:Nat}{h:VH}{w:W}(hw:w=.aQ\/∃i:Int,w=.int i):run F (k+2) 153 [w,w] h=.ok (.bl true) h:=by
 let k0:VH:=⟨h.n,h.n,h.os⟩
 rw[dW pU rfl];have eb:exs (run F (k+1)) je.body [aD w,aD w] k0=.ok (.rt (.bl true)) k0:=by rcases hw with rfl|⟨i,rfl⟩;have c1:ev (run F (k+1)) (.cmp .oO (.var 1) (.cst .aQ)) [aD .aQ,aD .aQ] k0=.ok (.bl true) k0:=rfl;exact jw ((vc c1).trans (jw (fO (show ev (run F (k+1)) (.cmp .oO (.var 0) (.cst .aQ)) [aD .aQ,aD .aQ] k0=.ok (.bl true) k0 from rfl))));have c1:ev (run F (k+1)) (.cmp .oO (.var 1) (.cst .aQ)) [aD (.int i),aD (.int i)] k0=.ok (.bl false) k0:=rfl;exact(bI (ρ':=[aD (.int i),aD (.int i)]) (h':=k0) ((lD c1).trans (by rw[exs]))).trans (jw (fO (gV (aH rfl) (aH rfl) (RG iS))))
 show fin h (exs (run F (k+1)) je.body [aD w,aD w] k0)=_;rw[eb];exact dO (aT _) rfl
theorem ztk(pT:F 140=aD jb)(iS:F 151=aD iG)(pU:F 153=aD je)(xU:F 156=aD kc){k j nL:Nat}{h:VH}{ns:List W}{ls:List Int}(gj:h.get j=aD (.lst [.ref nL,iW ls]))(gn:h.get nL=aD (.lst ns))(hn:∀w∈ns,w=.aQ\/∃i:Int,w=.int i)(l1:ns.length<=1000)(l2:ls.length<=1000) :
 run F (k+3) 156 [.tup [.tup ns,iW ls],.ref j] h=.ok (.bl true) h:=by
 let k0:VH:=⟨h.n,h.n,h.os⟩
 let a:W:=.tup [.tup ns,iW ls];let ρ:En:=[aD a,aD (.ref j)]
 let cl:=run F (k+2);have RH:k0.get j=aD (.lst [.ref nL,iW ls]):=gj;have RI:k0.get nL=aD (.lst ns):=gn;have i0:ev cl (.idx (.var 0) (.cst (.int (0)))) ρ k0=.ok (.tup ns) k0:=bK (x:=a) (y:=.int 0) (aH rfl) aR rfl;have i1:ev cl (.idx (.var 0) (.cst (.int (1)))) ρ k0=.ok (iW ls) k0:=bK (x:=a) (y:=.int 1) (aH rfl) aR rfl;have j0:ev cl (.idx (.var 1) (.cst (.int (0)))) ρ k0=.ok (.ref nL) k0:=bK (x:=.ref j) (y:=.int 0) (aH rfl) aR (by simp only[bM,RH];rfl);have j1:ev cl (.idx (.var 1) (.cst (.int (1)))) ρ k0=.ok (iW ls) k0:=bK (x:=.ref j) (y:=.int 1) (aH rfl) aR (by simp only[bM,RH];rfl);have c1:ev cl (.not (.jo (.rT .tuple (.var 0)))) ρ k0=.ok (.bl false) k0:=rfl;have c2:ev cl (.cmp .ne (.bi .len (.cons (.var 0) .nil)) (.cst (.int (2)))) ρ k0=.ok (.bl false) k0:=by rw[ev,iP (x:=a) (ws:=[.tup ns,iW ls]) (aH rfl) rfl,aF,aR,aF];simp only[aU,gU];rfl
 have c3:ev cl (.not (.jo (.rT .tuple (.idx (.var 0) (.cst (.int (0))))))) ρ k0=.ok (.bl false) k0:=pS (t:=true) (by rw[ev,i0,aF];rfl);have cA:ev cl (.or (.not (.jo (.rT .tuple (.var 0)))) (.or (.cmp .ne (.bi .len (.cons (.var 0) .nil)) (.cst (.int (2)))) (.not (.jo (.rT .tuple (.idx (.var 0) (.cst (.int (0))))))))) ρ k0=.ok (.bl false) k0:=by rw[ev,c1,aF];show ev cl (.or _ _) ρ k0=_;rw[ev,c2,aF];exact c3
 have c4:ev cl (.cmp .ne (.bi .len (.cons (.idx (.var 0) (.cst (.int (0)))) .nil)) (.bi .len (.cons (.idx (.var 1) (.cst (.int (0)))) .nil))) ρ k0=.ok (.bl false) k0:=by rw[ev,iP i0 rfl,aF,iP j0 (zc RI),aF];simp only[aU,gU,Dr];rfl
 have c5:ev cl (.not (.jo (.call 140 (.cons (.idx (.var 0) (.cst (.int (1)))) (.cons (.idx (.var 1) (.cst (.int (1)))) .nil))))) ρ k0=.ok (.bl false) k0:=pS (t:=true) (gV i1 j1 (zxt pT iS l2));have cB:ev cl (.or (.cmp .ne (.bi .len (.cons (.idx (.var 0) (.cst (.int (0)))) .nil)) (.bi .len (.cons (.idx (.var 1) (.cst (.int (0)))) .nil))) (.not (.jo (.call 140 (.cons (.idx (.var 0) (.cst (.int (1)))) (.cons (.idx (.var 1) (.cst (.int (1)))) .nil)))))) ρ k0=.ok (.bl false) k0:=by rw[ev,c4,aF];exact c5
 have e3:=vh (e:=QF) i0 j0 (show aS k0 (.tup ns)=aD ns from rfl) (zc RI) (by lia) (λw hw=>gV (aH rfl) (aH rfl) (ztj iS pU (hn w hw)));rw[dW xU rfl];have eb:exs cl kc.body ρ k0=.ok (.rt (.bl true)) _:=
  (bI (ρ':=ρ) (h':=k0) ((lD cA).trans (by rw[exs]))).trans ((bI (ρ':=ρ) (h':=k0) ((lD cB).trans (by rw[exs]))).trans (jw (fO e3)))
 show fin h (exs cl kc.body ρ k0)=_;rw[eb];exact dO (aT _) (by simp)
end
section
variable{B:Bd}{d c:Nat}{h h':VH}{a:Nat}{rs:List Nat}{ps:List Pr}
theorem Dk.lt{b:Nat}(D:Dk h d c b):d<h.n/\c<h.n:=by obtain⟨_,ns,cells,p,q,a1,a2,_⟩:=D;exact⟨bT a1,bT a2⟩
end
theorem ztl{w:W}{m n:Int}(hmn:m<=n)(h:door w m):door w n=true:=by obtain⟨a,y,rfl,a0,a1,q⟩:=Q8 h;unfold door;rw[bE];refine⟨by simp only[within,bE,fj];exact⟨a0,a1⟩,?_⟩;rcases q with rfl|⟨i,rfl,i0,i1⟩;rfl;unfold uZ;rw[pY];exact .inr (by simp only[within,bE,fj];lia)
theorem zxu{i:Nat}(hi:i<2){h:VH}:∃w,bM h (.str (bw ".s")) (.int (i:Int))=aD w/\(w=.str aJ\/w=.str sS):=by
 match i,hi with|0,_=>exact⟨.str aJ,by rfl,.inl rfl⟩|1,_=>exact⟨.str sS,by rfl,.inr rfl⟩
section
variable{F:Nat->Option Fn}(C:jx F)
include C
theorem zxv(xV:F 701=aD FG){k:Nat}{h:VH}{d c b:Nat}(D:Dk h d c b)(hb:b+14000<1000000000) :
 ∃B h',run F (k+6) 701 [.ref d] h=.ok (Bd.w B) h'/\B.Ok/\Dk h' d c (b+14000)/\bS h h' d c:=by
 rw[dW xV rfl];let cl:=run F (k+5);let k0:VH:=⟨h.n,h.n,h.os⟩
 have D0:Dk k0 d c b:=D.lo;obtain⟨t1,g1,u1,ta,tb,Da,Ka⟩:=take C.toCoreD (k:=k+2) (m:=60) D0 (by lia) (by lia) (by lia);let g2:=g1.new (.lst [.int 60,.int (1+t1)]);obtain⟨i2,g3,u3,ia,ib,Db,Kb⟩:=take C.toCoreD (k:=k+2) (m:=2) (Da.new (o:=.lst [.int 60,.int (1+t1)])) (by lia) (by lia) (by lia);obtain⟨n,n1,en⟩:∃n:Nat,n<=60/\cZ [W.int 60,.int (1+t1)] i2=aD (.int (n:Int)):=by
  obtain⟨i,rfl⟩:=jh ia;obtain⟨t,rfl⟩:=jh ta;have hi:i<2:=by lia
  match i,hi with|0,_=>exact⟨60,aT _,iN rfl⟩|1,_=>exact⟨1+t,by lia,(iN rfl).trans (by show aD (W.int (1+ (t:Int)))=aD (W.int ((1+t:Nat):Int));rw[show(1+ (t:Int))=((1+t:Nat):Int) by lia])⟩
 obtain⟨gd,gc⟩:=Da.lt;have gg:g3.get g1.n=aD (.lst [.int 60,.int (1+t1)]):=Kb.get _ _ (by lia) (by lia) eB;let iR:En:=[aD (.ref d),aE,aE]
 have eR:ev cl (.cons (.idx (.lst (.cons (.cst (.int (60))) (.cons (.op .add (.cst (.int (1))) (.call 5 (.cons (.var 0) (.cons (.cst (.int (60))) .nil)))) .nil))) (.call 5 (.cons (.var 0) (.cons (.cst (.int (2))) .nil)))) .nil) iR k0=.ok (.tup [.int (n:Int)]) g3:=
  aI (bK (x:=.ref g1.n) (y:=.int i2) (h1:=g2) (dH (ys:=[.int 60,.int (1+t1)]) (aI aR (aI (lC (x:=.int 1) (y:=.int t1) aR (gV (x:=.ref d) (y:=.int 60) (aH rfl) aR u1) rfl) br)) rfl) (gV (x:=.ref d) (y:=.int 2) (aH rfl) aR u3) (by simp only[bM,gg];exact en)) br
 obtain⟨ws,h1,e1,p1,l1,D1,K1⟩:=u6 (cl:=cl) (P:=λ_ w=>∃r,w=.tup r/\(r.length:Int)=40/\cV 40 8 0 r) (e:=QH) (tl:=[aD (.ref d)]) (m:=200) (lim:=n) (λi h b _ _ D hb=>by
  obtain⟨ws,h',e,a1,a2,a3,a4⟩:=zxn C (k:=k) (wd:=40) (g:=8) D hb (by lia) (by lia) (by lia);exact⟨.tup ws,h',zxl (x:=.ref d) (y:=.int 40) (z:=.int 8) (aH rfl) aR aR e,⟨ws,rfl,by lia,a2⟩,a3,a4⟩) n 0 aE g3 _ (by lia) (by lia) Db (by lia)
 replace p1:=xH p1;have hr:∃rs:List (List W),ws=rs.map .tup/\∀r∈rs,(r.length:Int)=40/\cV 40 8 0 r:=by
  clear e1 l1;induction ws with
  |nil=>exact⟨[],rfl,λr hr=>by cases hr⟩
  |cons w ws ih=>
   obtain⟨rs,e1,e2⟩:=ih λw hw=>p1 w (dQ _ hw);obtain⟨r,e3,e4⟩:=p1 w fk;refine⟨r::rs,by rw[e3,e1];rfl,λq hq=>?_⟩;rcases fP.mp hq with rfl|hq;exact e4;exact e2 q hq
 obtain⟨rs,rfl,hrs⟩:=hr;rw[bz]at l1;have D1':=D1.new (o:=.lst (rs.map .tup));obtain⟨t2,h2,e2,a2,b2,D2,K2⟩:=take C.toCoreD (k:=k+2) (m:=4) D1' (by lia) (by lia) (by lia);obtain⟨nf,hnf⟩:=jh (show 0<=1+t2 by lia);obtain⟨fs,h3,e3,p3,l3,D3,K3⟩:=u6 (cl:=cl) (P:=λ_ w=>within w 0 ((40:Int)-1)) (e:=QI) (tl:=[aD (.ref d)]) (m:=1) (lim:=nf) (λi h b _ _ D hb=>by
  obtain⟨r,h',e,a1,a2,a3,a4⟩:=take C.toCoreD (k:=k+2) (m:=40) D (by lia) (by lia) (by lia);exact⟨.int r,h',gV (x:=.ref d) (y:=.int 40) (aH rfl) aR e,by simp only[within,bE,fj];lia,a3,a4⟩) nf 0 aE h2 _ (by lia) (by lia) D2 (by lia)
 have D3':=D3.new (o:=.lst fs);have n0:1<=fs.length:=by lia
 have n4:fs.length<=4:=by lia
 obtain⟨ds,h4,e4,p4,l4,D4,K4⟩:=u6 (cl:=cl) (P:=λ_ w=>door w fs.length) (e:=QJ) (tl:=[aD (.ref d),aD (.tup fs)]) (m:=5) (lim:=40) (λi h b _ _ D hb=>by
  obtain⟨w,h',e,a1,a2,a3⟩:=Rt C (k:=k+1) (nf:=fs.length) D hb (by lia) (by lia);exact⟨w,h',gV (x:=.ref d) (y:=.int fs.length) (aH rfl) (iP (ws:=fs) (x:=.tup fs) (aH rfl) rfl) e,a1,a2,a3⟩) 40 0 aE (h3.new (.lst fs)) _ (by lia) (by lia) D3' (by lia)
 have s1:=xJ (cl:=cl) (ρ:=iR) (h:=k0) (h1:=g3) (n:=n) (ow:=1) (ix:=[0]) eR (by lia) e1 (by rw[bz];lia);have s2:=xJ (cl:=cl) (a:=.cons (.op .add (.cst (.int (1))) (.call 5 (.cons (.var 0) (.cons (.cst (.int (4))) .nil)))) .nil) (ρ:=[aD (.ref d),aD (.tup (rs.map .tup)),aE]) (h:=h1.new (.lst (rs.map .tup))) (h1:=h2) (n:=nf) (ow:=1) (ix:=[0])
  (aI (lC (x:=.int 1) (y:=.int t2) aR (gV (x:=.ref d) (y:=.int 4) (aH rfl) aR e2) (by show Res.ok (W.int (1+t2)) h2=_;rw[hnf])) br) (by lia) e3 (by lia)
 have s3:=xJ (cl:=cl) (a:=.cons (.cst (.int (40))) .nil) (ρ:=[aD (.ref d),aD (.tup (rs.map .tup)),aD (.tup fs)]) (h:=h3.new (.lst fs)) (h1:=h3.new (.lst fs)) (n:=40) (ow:=1) (ix:=[0,2]) (aI aR br) (by lia) e4 (by lia);have body:exs cl FG.body iR k0=.ok (.rt (Bd.w ⟨40,8,rs,fs,ds⟩)) (h4.new (.lst ds)):=by refine(bI (cD s1)).trans ?_;refine(bI (cD s2)).trans ?_;exact jw (fO (ki (aI aR (aI aR (aI (aH (x:=.tup (rs.map .tup)) rfl) (aI (aH (x:=.tup fs) rfl) (aI s3 br))))) rfl))
 have KK:bS k0 (h4.new (.lst ds)) d c:=(((((Ka.new.trans Kb).trans K1).new.trans K2).trans K3).new.trans K4).new;obtain⟨h8,e8,D8,K8⟩:=u5 (cl:=cl) (fl:=.nx []) body (.inr ⟨b,D⟩) (D4.new.mono (show _<=b+14000 by lia)) KK;refine⟨⟨40,8,rs,fs,ds⟩,h8,e8,⟨by show(1:Int)<=40;lia,by show(40:Int)<=40;lia,by show(0:Int)<=8;lia,by show(8:Int)<=8;lia,by show rs.length<=60;lia,hrs,n0,n4,xH p3,by show(ds.length:Int)=40;lia,xH p4⟩,D8,K8⟩
end
theorem ztm{l:List Nat}{n:Nat}:∃r:List Nat,iA (aO l) aE (aD (n:Int))=aO r/\r.length<=n/\∀f∈r,f∈l:=by refine⟨(l.drop (HT.bF (aO l).length 0 aE)).take (HT.bF (aO l).length (aO l).length (aD (n:Int))-HT.bF (aO l).length 0 aE),?_,?_,λf hf=>DH (yf hf)⟩;unfold iA aO;rw[List.map_take,List.map_drop];rw[kP,HT.rE];lia
theorem ztn{l:List Nat}{n:Nat}:∃r:List Nat,(bD n (aO l)).flatten=aO r/\r.length=n*l.length/\∀f∈r,f∈l:=by
 induction n with
 |zero=>exact⟨[],rfl,by simp,λf hf=>by cases hf⟩
 |succ n ih=>
  obtain⟨r,e,hl,hm⟩:=ih;refine⟨l++r,?_,?_,λf hf=>?_⟩;rw[ku,p9,e];unfold aO;rw[tX];rw[eW,hl,Nat.succ_mul,Nat.add_comm];rcases mF.mp hf with q|q;exact q;exact hm f q
section
variable{F:Nat->Option Fn}(C:jx F)
include C
theorem znd(xW:F 702=aD FH){k:Nat}{h:VH}{d c b:Nat}(D:Dk h d c b)(hb:b+14000<1000000000) :
 ∃B h',run F (k+6) 702 [.ref d] h=.ok (Bd.w B) h'/\B.Ok/\Dk h' d c (b+14000)/\bS h h' d c:=by
 rw[dW xW rfl];let cl:=run F (k+5);let k0:VH:=⟨h.n,h.n,h.os⟩
 have D0:Dk k0 d c b:=D.lo;obtain⟨n,h1,e1,n0,n1,D1,K1⟩:=take C.toCoreD (k:=k+2) (m:=9) D0 (by lia) (by lia) (by lia);obtain⟨n,rfl⟩:=jh n0;let iR:En:=[aD (.ref d),aE]
 obtain⟨ws,h2,e2,p2,l2,D2,K2⟩:=u6 (cl:=cl) (P:=λ_ w=>∃r,w=.tup r/\(r.length:Int)=1/\∀g,cV 1 g 0 r) (e:=QK) (tl:=[aD (.ref d)]) (m:=1) (lim:=n) (λi h b _ _ D hb=>by
  obtain⟨x,h',e,x0,x1,a3,a4⟩:=take C.toCoreD (k:=k+2) (m:=9) D (by lia) (by lia) (by lia);let ρ:En:=[aD (.int i),aD (.ref d)]
  let z:Nat:=if x=0 then 1 else 0
  have hz:z<2:=by show(if x=0 then 1 else 0)<2;split<;>decide
  obtain⟨w,ew,hw⟩:=zxu hz (h:=h');have ec:ev cl (.cmp .eq (.call 5 (.cons (.var 1) (.cons (.cst (.int (9))) .nil))) (.cst (.int (0)))) ρ h=.ok (.bl (decide (x=0))) h':=by rw[ev,gV (x:=.ref d) (y:=.int 9) (aH rfl) aR e,aF,aR,aF];simp only[aU,gU];rfl
  have ei:ev cl (.bi .int (.cons (.cmp .eq (.call 5 (.cons (.var 1) (.cons (.cst (.int (9))) .nil))) (.cst (.int (0)))) .nil)) ρ h=.ok (.int (z:Int)) h':=by rw[ev,aI ec br,aF];show Res.ok (W.int (if decide (x=0)=true then 1 else 0)) h'=_;by_cases q:x=0;rw[if_pos (kq q)];show _=Res.ok (W.int ((if x=0 then 1 else 0:Nat):Int)) h';rw[if_pos q];rfl;rw[if_neg (by rw[gX q];simp)];show _=Res.ok (W.int ((if x=0 then 1 else 0:Nat):Int)) h';rw[if_neg q];rfl
  refine⟨.tup [w],h',ki (ys:=[w]) (aI (bK (x:=.str (bw ".s")) (y:=.int (z:Int)) aR ei ew) br) rfl,⟨[w],rfl,rfl,λg=>?_⟩,a3,a4⟩;rcases hw with rfl|rfl
  exact⟨by rfl,trivial⟩;exact⟨by rfl,trivial⟩) n 0 aE h1 _ (by lia) (by lia) D1 (by lia)
 replace p2:=xH p2;have hr:∃rs:List (List W),ws=rs.map .tup/\∀r∈rs,(r.length:Int)=1/\∀g,cV 1 g 0 r:=by
  clear e2 l2;induction ws with
  |nil=>exact⟨[],rfl,λr hr=>by cases hr⟩
  |cons w ws ih=>
   obtain⟨rs,e1,e2⟩:=ih λw hw=>p2 w (dQ _ hw);obtain⟨r,e3,e4⟩:=p2 w fk;refine⟨r::rs,by rw[e3,e1];rfl,λq hq=>?_⟩;rcases fP.mp hq with rfl|hq;exact e4;exact e2 q hq
 obtain⟨rs,rfl,hrs⟩:=hr;rw[bz]at l2;have D2':=D2.new (o:=.lst (rs.map .tup));obtain⟨g,h3,e3,g0,g1,D3,K3⟩:=take C.toCoreD (k:=k+2) (m:=9) D2' (by lia) (by lia) (by lia);obtain⟨t,h4,e4,t0,t1,D4,K4⟩:=take C.toCoreD (k:=k+2) (m:=4) D3 (by lia) (by lia) (by lia);obtain⟨nf,hnf⟩:=jh (show 0<=1+t by lia);obtain⟨w,h5,e5,dw,D5,K5⟩:=Rt C (k:=k+1) (nf:=1) D4 (by lia) (by lia) (by lia);have s1:=xJ (cl:=cl) (a:=.cons (.call 5 (.cons (.var 0) (.cons (.cst (.int (9))) .nil))) .nil) (ρ:=iR) (h:=k0) (h1:=h1) (n:=n) (ow:=1) (ix:=[0]) (aI (gV (x:=.ref d) (y:=.int 9) (aH rfl) aR e1) br) (by lia) e2 (by rw[bz];lia);let fs:List W:=(bD nf [W.int 0]).flatten;have hfs:fs=bD nf (W.int 0):=by
  show(bD nf [W.int 0]).flatten=_;induction nf with
  |zero=>rfl
  |succ m ih=>rw[ku,p9,ku];exact jF _ (by
   clear ih hnf;induction m with|zero=>rfl|succ m ih=>rw[ku,p9,ku];exact jF _ ih)
 have hfl:fs.length=nf:=by rw[hfs,List.length_replicate]
 let bB:En:=[aD (.ref d),aD (.tup (rs.map .tup))]
 have s2:ev cl (.op .mul (.tup (.cons (.cst (.int (0))) .nil)) (.op .add (.cst (.int (1))) (.call 5 (.cons (.var 0) (.cons (.cst (.int (4))) .nil))))) bB h3=.ok (.tup fs) h4:=by
  refine lC (x:=.tup [.int 0]) (y:=.int (1+t)) (ki (aI aR br) rfl) (lC (x:=.int 1) (y:=.int t) aR (gV (x:=.ref d) (y:=.int 4) (aH rfl) aR e4) rfl) ?_;show Res.of ((jY .mul [.int 0] (1+t)).map W.tup) h4=_;rw[hnf];have hf:fits (nf:Int)=true:=by unfold fits;simp;lia
  have hb:Nat.ble ([W.int 0].length* (nf:Int).toNat) big=true:=u7 (by rw[tZ,yd];lia);unfold jY;rw[if_pos (show(fits (nf:Int)&&Nat.ble ([W.int 0].length* (nf:Int).toNat) big)=true by rw[hf,hb];rfl)];rfl
 have body:exs cl FH.body iR k0=.ok (.rt (Bd.w ⟨1,g,rs,fs,[w]⟩)) h5:=by refine(bI (cD s1)).trans ?_;exact jw (fO (ki (aI aR (aI (gV (x:=.ref d) (y:=.int 9) (aH rfl) aR e3) (aI (aH (x:=.tup (rs.map .tup)) rfl) (aI s2 (aI (ki (ys:=[w]) (aI (gV (x:=.ref d) (y:=.int 1) (aH rfl) aR e5) br) rfl) br))))) rfl))
 have KK:bS k0 h5 d c:=((((K1.trans K2).new).trans K3).trans K4).trans K5;obtain⟨h8,e8,D8,K8⟩:=u5 (cl:=cl) (fl:=.nx []) body (.inr ⟨b,D⟩) (D5.mono (show _<=b+14000 by lia)) KK;refine⟨⟨1,g,rs,fs,[w]⟩,h8,e8,⟨by show(1:Int)<=1;lia,by show(1:Int)<=40;lia,g0,by show g<=8;lia,by show rs.length<=60;lia,λr hr=>⟨(hrs r hr).1,(hrs r hr).2 g⟩,by show 1<=fs.length;lia,by show fs.length<=4;lia,λf hf=>?_,rfl,λq hq=>?_⟩,D8,K8⟩;have hf:f∈fs:=hf;rw[hfs]at hf;rw[(List.mem_replicate.mp hf).2];rfl;have hq:q∈[w]:=hq;rw[pZ.mp hq];exact ztl (by show(1:Int)<=(fs.length:Int);lia) dw
theorem zo4(xX:F 700=aD FF){k:Nat}{h:VH}{d c b:Nat}{B:Bd}(b':B.Ok)(D:Dk h d c b)(hb:b+100<1000000000) :
 ∃(r:List Nat) (h':VH),run F (k+6) 700 [.ref d,B.w] h=.ok (.tup (aO r)) h'/\r.length<=200/\(∀f∈r,f<B.fd.length)/\Dk h' d c (b+100)/\bS h h' d c:=by
 have f1:=b'.f1;have f2:=b'.f2;rw[dW xX rfl];let cl:=run F (k+5);let k0:VH:=⟨h.n,h.n,h.os⟩
 have D0:Dk k0 d c b:=D.lo;obtain⟨t,h1,e1,t0,t1,D1,K1⟩:=take C.toCoreD (k:=k+2) (m:=20) D0 (by lia) (by lia) (by lia);obtain⟨n,hn⟩:=jh (show 0<=1+t by lia);let iR:En:=[aD (.ref d),aD B.w,aE,aE]
 obtain⟨ws,h2,e2,p2,l2,D2,K2⟩:=u6 (cl:=cl) (P:=λ_ w=>∃f:Nat,w=.int (f:Int)/\f<B.fd.length) (e:=QG) (tl:=[aD B.w,aD (.ref d)]) (m:=1) (lim:=n) (λi h b _ _ D hb=>by
  obtain⟨x,h',e,x0,x1,a3,a4⟩:=take C.toCoreD (k:=k+2) (m:=(B.fd.length:Int)) D (by lia) (by lia) (by lia);obtain⟨f,rfl⟩:=jh x0;exact⟨.int (f:Int),h',gV (x:=.ref d) (y:=.int (B.fd.length:Int)) (aH rfl) (iP (x:=.tup B.fd) (ws:=B.fd) (bK (x:=B.w) (y:=.int 3) (aH rfl) aR rfl) rfl) e,⟨f,rfl,by lia⟩,a3,a4⟩) n 0 aE h1 _ (by lia) (by lia) D1 (by lia)
 replace p2:=xH p2;have hr:∃l:List Nat,ws=aO l/\∀f∈l,f<B.fd.length:=by
  clear e2 l2;induction ws with
  |nil=>exact⟨[],rfl,λr hr=>by cases hr⟩
  |cons w ws ih=>
   obtain⟨rs,e1,e2⟩:=ih λw hw=>p2 w (dQ _ hw);obtain⟨f,e3,e4⟩:=p2 w fk;refine⟨f::rs,by rw[e3,e1];rfl,λq hq=>?_⟩;rcases fP.mp hq with rfl|hq;exact e4;exact e2 q hq
 obtain⟨l,rfl,hl⟩:=hr;have ll:l.length=n:=by unfold aO at l2;rw[bz]at l2;exact l2
 let h3:=h2.new (.lst (aO l));have D3:Dk h3 d c _:=D2.new;have s1:=xJ (cl:=cl) (a:=.cons (.op .add (.cst (.int (1))) (.call 5 (.cons (.var 0) (.cons (.cst (.int (20))) .nil)))) .nil) (ρ:=iR) (h:=k0) (h1:=h1) (n:=n) (ow:=1) (ix:=[1,0]) (aI (lC (x:=.int 1) (y:=.int t) aR (gV (x:=.ref d) (y:=.int 20) (aH rfl) aR e1) (by show Res.ok (W.int (1+t)) h1=_;rw[hn])) br) (by lia) e2 (by unfold aO;rw[bz];lia);obtain⟨u,h4,e4,u0,u1,D4,K4⟩:=take C.toCoreD (k:=k+2) (m:=201) D3 (by lia) (by lia) (by lia);let h5:=h4.new (.lst [.int 200,.int u]);obtain⟨v,h6,e6,v0,v1,D6,K6⟩:=take C.toCoreD (k:=k+2) (m:=2) (D4.new (o:=.lst [.int 200,.int u])) (by lia) (by lia) (by lia);obtain⟨q,q1,eq⟩:∃q:Nat,q<=200/\cZ [W.int 200,.int u] v=aD (.int (q:Int)):=by
  obtain⟨i,rfl⟩:=jh v0;obtain⟨t,rfl⟩:=jh u0;have hi:i<2:=by lia
  match i,hi with|0,_=>exact⟨200,aT _,iN rfl⟩|1,_=>exact⟨t,by lia,iN rfl⟩
 obtain⟨gd,gc⟩:=D4.lt;have gg:h6.get h4.n=aD (.lst [.int 200,.int u]):=K6.get _ _ (by lia) (by lia) eB;let bB:En:=[aD (.ref d),aD B.w,aD (.tup (aO l)),aE]
 have s2:ev cl (.idx (.lst (.cons (.cst (.int (200))) (.cons (.call 5 (.cons (.var 0) (.cons (.cst (.int (201))) .nil))) .nil))) (.call 5 (.cons (.var 0) (.cons (.cst (.int (2))) .nil)))) bB h3=.ok (.int (q:Int)) h6:=
  bK (x:=.ref h4.n) (y:=.int v) (h1:=h5) (dH (ys:=[.int 200,.int u]) (aI aR (aI (gV (x:=.ref d) (y:=.int 201) (aH rfl) aR e4) br)) rfl) (gV (x:=.ref d) (y:=.int 2) (aH rfl) aR e6) (by simp only[bM,gg];exact eq)
 obtain⟨RJ,er,ll2,hm2⟩:=ztn (l:=l) (n:=200);obtain⟨r,ec,hr,hm⟩:=ztm (l:=RJ) (n:=q);have s3:ev cl (.slc (.op .mul (.var 2) (.cst (.int (200)))) false (.cst .aQ) true (.var 3)) [aD (.ref d),aD B.w,aD (.tup (aO l)),aD (.int (q:Int))] h6=.ok (.tup (aO r)) h6:=by
  refine xM (h1:=h6) (h2:=h6) (h3:=h6) (x:=.tup (aO RJ)) (l:=.aQ) (u:=.int (q:Int)) (lC (x:=.tup (aO l)) (y:=.int 200) (aH rfl) aR ?_) aR (aH rfl) rfl rfl ?_;show Res.of ((jY .mul (aO l) 200).map W.tup) h6=_;have hf:fits (200:Int)=true:=by decide
  have lr:(aO l).length<=20:=by unfold aO;rw[bz];lia
  have hb:Nat.ble ((aO l).length* (200:Int).toNat) big=true:=u7 (by rw[show(200:Int).toNat=200 from rfl];lia);unfold jY;simp only[hf,hb,Bool.and_self,bZ];rw[show(200:Int).toNat=200 from rfl,er];rfl;rw[oR,ec]
 have body:exs cl FF.body iR k0=.ok (.rt (.tup (aO r))) h6:=by refine(bI (cD s1)).trans ?_;refine(bI (cD s2)).trans ?_;exact jw (fO s3)
 have KK:bS k0 h6 d c:=((((K1.trans K2).new).trans K4).new).trans K6;obtain⟨h8,e8,D8,K8⟩:=u5 (cl:=cl) (fl:=.nx []) body (.inr ⟨b,D⟩) (D6.mono (show _<=b+100 by lia)) KK;exact⟨r,h8,e8,by lia,λf hf=>hl f (hm2 f (hm f hf)),D8,K8⟩
end
structure KR(F:Nat->Option Fn):Prop where
 p:jx F
 a:xR F
 m:xT F
 Kc:F 20=aD pF
 pT:F 140=aD jb
 iS:F 151=aD iG
 pU:F 153=aD je
 xU:F 156=aD kc
 xX:F 700=aD FF
 xV:F 701=aD FG
 xW:F 702=aD FH
 KS:F 703=aD FJ
structure As(h:VH)(a e:Nat)(B:Bd)(ls:List Int)(r:List Nat)(bt:Int):Prop where
 ge:h.get e=aD (.lst [B.w,iW ls,.tup (aO r),.int bt])
 ok:B.Ok
 hl:(ls.length:Int)=B.gr
 bi:gF ls
 hr:r.length<=200
 hf:∀f∈r,f<B.fd.length
 b0:1<=bt
 b1:bt<=100
 ae:a<e
noncomputable def vm(a:Nat)(h:VH)(e:Nat):Prop:=∃B ls r bt,As h a e B ls r bt
theorem vm.up{a e:Nat}{h h':VH}(up:∀i o,a<i->h.get i=aD o->h'.get i=aD o)(E:vm a h e):vm a h' e:=by obtain⟨B,ls,r,bt,E⟩:=E;exact⟨B,ls,r,bt,up _ _ E.ae E.ge,E.ok,E.hl,E.bi,E.hr,E.hf,E.b0,E.b1,E.ae⟩
structure jy(a:Nat)(h h':VH):Prop where
 le:h.n<=h'.n
 get:∀i o,a<=i->h.get i=aD o->h'.get i=aD o
theorem jy.trans{a:Nat}{x y z:VH}(p:jy a x y)(q:jy a y z):jy a x z:=⟨ie p.le q.le,λi o hi e=>q.get i o hi (p.get i o hi e)⟩
theorem jy.k{h h':VH}{a:Nat}(ha:2<=a)(K:bS h h' 1 0):jy a h h':=⟨K.le,λi o hi e=>K.get i o (by lia) (by lia) e⟩
theorem Dk.pV{h:VH}{d c b l:Nat}{o o0:VO}(D:Dk h d c b)(g:h.get l=aD o0)(hd:l≠d)(hc:l≠c):Dk (h.set l o) d c b:=by obtain⟨ne,ns,cells,p,q,a1,a2,a3⟩:=D;exact⟨ne,ns,cells,p,q,(gZ (bT g) (eX hd)).trans a1,(gZ (bT g) (eX hc)).trans a2,a3⟩
noncomputable abbrev jE(sc bs:W)(a:Nat)(bb x5 x6 x7 x8:Option W):En:=[aD sc,aD (.ref 1),aD bs,aD (.ref a),bb,x5,x6,x7,x8]
theorem vn{cl:Call}{ρ:En}{h:VH}{a:Nat}{es:List Nat}{x:E}{ys:List W}(C7:ρ[3]?=aD (aD (.ref a)))(ga:h.get a=aD (.lst (es.map .ref)))(he:es.length<=100)(ex:ev cl x ρ h=.ok (.tup ys) h)(hy:Nat.ble ys.length 1000) :
 exs cl (.expr (.mt .append (.var 3) (.cons (.lst x) .nil))) ρ h=.ok (.nx ρ) ((h.new (.lst ys)).set a (.lst ((es++[h.n]).map .ref))):=by
 have la:=bT ga;have KU:(h.new (.lst ys)).get a=aD (.lst (es.map .ref)):=(eK la).trans ga;have hk:BB .append h (.ref a)=true:=by simp only[BB,ga]
 have eA:ev cl (.mt .append (.var 3) (.cons (.lst x) .nil)) ρ h=.ok .aQ ((h.new (.lst ys)).set a (.lst ((es++[h.n]).map .ref))):=by rw[ev,aH C7,aF,if_pos hk,aI (dH ex hy) br,aF];show wL .append (.ref a) [.ref h.n] (h.new (.lst ys))=_;simp only[wL,KU];rw[if_pos (Z2 (by rw[bz];lia)),tX];rfl
 rw[exs,eA,aF]
section
variable{F:Nat->Option Fn}(C:KR F)
include C
theorem C8{k b:Nat}{B:Bd}{bt:Int}{a:Nat}{h:VH}{sc bs:W}{es:List Nat}{bb x7 x8:Option W}(b':B.Ok)(ha:2<=a)(D:Dk h 1 0 b)(hb:b<90000)(ga:h.get a=aD (.lst (es.map .ref)))(he:es.length<=50)(E:∀e∈es,vm a h e)(b0:1<=bt)(b1:bt<=100) :
 ∃y7 y8 e1 e2 h',exs (run F (k+6)) FI (jE sc bs a bb (aD B.w) (aD (.int bt)) x7 x8) h=.ok (.nx (jE sc bs a bb (aD B.w) (aD (.int bt)) y7 y8)) h'/\h'.get a=aD (.lst ((es++[e1,e2]).map .ref))/\(∀q∈es++[e1,e2],vm a h' q)/\Dk h' 1 0 (b+120)/\(∀i o,a<i->h.get i=aD o->h'.get i=aD o):=by
 have ra:=bT ga;let cl:=run F (k+6);obtain⟨g,hg⟩:=jh b'.g1;have g8:g<=8:=by have:=b'.g2;lia
 obtain⟨ls,h1,e1,l1,bi,D1,K1⟩:=zid C.p.toCoreD (k:=k+2) (g:=g) C.Kc D (by lia) g8;obtain⟨r,h2,e2,hr,hf,D2,K2⟩:=zo4 C.p C.xX (k:=k) b' D1 (by lia);have U2:jy a h h2:=(jy.k ha K1).trans (jy.k ha K2);have KW:=U2.get _ _ (aT _) ga;let ρ:En:=jE sc bs a bb (aD B.w) (aD (.int bt)) (aD (iW ls)) (aD (.tup (aO r)));have a1:=vn (cl:=cl) (ρ:=ρ) (x:=.cons (.var 5) (.cons (.var 7) (.cons (.var 8) (.cons (.var 6) .nil)))) (ys:=[B.w,iW ls,.tup (aO r),.int bt]) rfl KW (by lia) (aI (aH rfl) (aI (aH rfl) (aI (aH rfl) (aI (aH rfl) br)))) rfl;let h3:=h2.new (.lst [B.w,iW ls,.tup (aO r),.int bt]);have Ge:h3.get a=_:=(eK (bT KW)).trans KW;let h4:=h3.set a (.lst ((es++[h2.n]).map .ref));have KY:h4.get a=aD (.lst ((es++[h2.n]).map .ref)):=nN Ge;have n4:h4.n=h2.n+1:=rfl;have a2:=vn (cl:=cl) (ρ:=ρ) (x:=.cons (.var 5) (.cons (.var 7) (.cons (.tup .nil) (.cons (.var 6) .nil)))) (ys:=[B.w,iW ls,.tup (aO []),.int bt]) (h:=h4) rfl KY (by rw[eW,yd];lia) (aI (aH rfl) (aI (aH rfl) (aI (ki br rfl) (aI (aH rfl) br)))) rfl;let h5:=h4.new (.lst [B.w,iW ls,.tup (aO []),.int bt]);have Gf:h5.get a=_:=(eK (bT KY)).trans KY;let h6:=h5.set a (.lst ((es++[h2.n]++[h4.n]).map .ref));have l2:=U2.le;have RK:∀i o,a<i->h2.get i=aD o->h4.get i=aD o:=λi o hi e=>by
  rw[gZ (bT Ge) (by lia),eK (bT e)];exact e
 have KZ:∀i o,a<i->h4.get i=aD o->h6.get i=aD o:=λi o hi e=>by
  rw[gZ (bT Gf) (by lia),eK (bT e)];exact e
 have RL:(ls.length:Int)=B.gr:=by rw[l1,hg]
 refine⟨aD (iW ls),aD (.tup (aO r)),h2.n,h4.n,h6,?_,?_,λq hq=>?_,?_,λi o hi e=>KZ _ _ hi (RK _ _ hi (U2.get _ _ (by lia) e))⟩;refine(bI (cD (gV (x:=.ref 1) (y:=.int (g:Int)) (aH rfl) (bK (x:=B.w) (y:=.int 1) (aH rfl) aR (by rw[<-hg];rfl)) e1))).trans ?_;refine(bI (cD (gV (x:=.ref 1) (y:=B.w) (aH rfl) (aH rfl) e2))).trans ?_;refine(bI a1).trans ?_;exact(bI a2).trans (by rw[exs]);have:h6.get a=aD (.lst ((es++[h2.n]++[h4.n]).map .ref)):=nN Gf;rw[jK]at this;exact this;rcases mF.mp hq with hq|hq
 exact(((E q hq).up λi o hi e=>U2.get i o (by lia) e).up RK).up KZ;rcases fP.mp hq with rfl|hq
 have gq:h4.get h2.n=aD (.lst [B.w,iW ls,.tup (aO r),.int bt]):=by rw[gZ (bT Ge) (by lia)];exact eB
 exact⟨B,ls,r,bt,KZ _ _ (by lia) gq,b',RL,bi,hr,hf,b0,b1,by lia⟩;rw[pZ.mp hq];have gq:h6.get h4.n=aD (.lst [B.w,iW ls,.tup (aO []),.int bt]):=by rw[gZ (bT Gf) (by lia)];exact eB
 exact⟨B,ls,[],bt,gq,b',RL,bi,by simp,(λf hf=>by cases hf),b0,b1,by lia⟩;have D4:Dk h4 1 0 (b+10+100):=Dk.pV (D2.new (o:=.lst [B.w,iW ls,.tup (aO r),.int bt])) Ge (by lia) (by lia);exact(Dk.pV (D4.new (o:=.lst [B.w,iW ls,.tup (aO []),.int bt])) Gf (by lia) (by lia)).mono (by lia)
theorem C9{k:Nat}{a e:Nat}{h:VH}{sc bs:W}{bb:Option W}{B:Bd}{ls:List Int}{r:List Nat}{bt:Int}(E:As h a e B ls r bt) :
 ∃h',exs (run F (k+11)) CG (jE sc bs a bb (aD B.w) (aD (.int bt)) (aD (iW ls)) (aD (.tup (aO r)))) h=.ok (.nx (jE sc bs a bb (aD B.w) (aD (.int bt)) (aD (iW ls)) (aD (.tup (aO r))))) h'/\Gm h h':=by
 let ρ:En:=jE sc bs a bb (aD B.w) (aD (.int bt)) (aD (iW ls)) (aD (.tup (aO r)));have b':=E.ok;obtain⟨g,hg⟩:=jh b'.g1;have hl:ls.length=g:=by have:=E.hl;lia
 have e1:=ztf C.a (k:=k+1) (h:=h) b' hg E.hr E.hf hl E.bi E.b0 E.b1;obtain⟨j,nL,h5,e5,g5,gn5,G5,l5,ln5,nl5,nm5⟩:=zti C.m (k:=k+9) (h:=h) (r:=r) (ls:=ls) (bt:=bt) b' hg E.hr E.hf hl E.bi;have O:dX B.wd r.length g (bN B.rows (fY B r ls) (fC r.length B.rows.length bt)):=by
  have key:∀(T:List (List Int)),(∀x∈T,x∈fC r.length B.rows.length bt)->∀s,dX B.wd r.length g s->dX B.wd r.length g (bN B.rows s T):=by
   intro T;induction T with
   |nil=>intro _ s O;exact O
   |cons x T ih=>
    intro hT s O;obtain⟨p,q,hp,hq,rfl⟩:=Kq (hT x (fk ..));exact ih (λy hy=>hT y (dQ _ hy)) _ (Ks (rs:=B.rows) (by rw[<-hg];exact b'.r2) hp hq O)
  exact key _ (λx hx=>hx) _ (pR b' E.hf hl E.bi)
 have g2:=b'.g2;have e2:=ztk C.pT C.iS C.pU C.xU (k:=k+8) (h:=h5) g5 gn5 (λw hw=>by
  obtain⟨x,hx,rfl⟩:=jz.mp hw;exact RD b' (nm5 x hx)) (by rw[bz,nl5];have:=E.hr;lia) (by rw[O.ll];lia)
 have eA:ev (run F (k+11)) (.cons (.var 5) (.cons (.var 7) (.cons (.var 8) (.cons (.var 6) .nil)))) ρ h=.ok (.tup [B.w,iW ls,.tup (aO r),.int bt]) h:=aI (aH rfl) (aI (aH rfl) (aI (aH rfl) (aI (aH rfl) br)));have e3:=gM eA e1;have e6:=gM eA e5;have e4:ev (run F (k+11)) (.not (.jo (.call 156 (.cons (.call 270 (.cons (.var 5) (.cons (.var 7) (.cons (.var 8) (.cons (.var 6) .nil))))) (.cons (.call 142 (.cons (.var 5) (.cons (.var 7) (.cons (.var 8) (.cons (.var 6) .nil))))) .nil))))) ρ h=.ok (.bl false) h5:=
  pS (t:=true) (gV e3 e6 e2)
 refine⟨h5,?_,G5⟩;unfold CG;exact(bI (ρ':=ρ) (h':=h5) ((lD e4).trans (by rw[exs]))).trans (by rw[exs])
theorem zxw{k:Nat}{a:Nat}{h:VH}{sc bs:W}{es:List Nat}{bb x5 x6 x7 x8:Option W}(hn:es.length<=50)(ga:h.get a=aD (.lst (es.map .ref)))(E:∀e∈es,vm a h e) :
 ∃h',exs (run F (k+11)) (.seq (.«for» .seq (.op .add (.var 3) (.slc (.var 3) false (.cst .aQ) true (.cst (.int (1))))) (.many [5,7,8,6]) CG) (.seq (.ret (.cst (.bl true))) .skip)) (jE sc bs a bb x5 x6 x7 x8) h=.ok (.rt (.bl true)) h':=by
 let cl:=run F (k+11);let ws:List W:=es.map .ref;have hw:ws.length<=50:=by show(es.map _).length<=50;rw[bz];exact hn
 let s:=iA ws aE (aD 1);have hs:∀w∈s,w∈ws:=λw hw=>DH (yf hw);have sl:s.length<=50:=by
  have:s.length<=ws.length:=by show((ws.drop _).take _).length<=_;rw[kP,kQ];lia
  lia
 let h1:=h.new (.lst s);let h2:=h1.new (.lst (ws++s));have e0:ev cl (.slc (.var 3) false (.cst .aQ) true (.cst (.int (1)))) (jE sc bs a bb x5 x6 x7 x8) h=.ok (.ref h.n) h1:=
  xM (x:=.ref a) (l:=.aQ) (u:=.int 1) (aH rfl) aR aR rfl rfl (by simp only[j5,ga];rfl)
 have KU:h1.get a=aD (.lst ws):=(eK (bT ga)).trans ga;have e1:ev cl (.op .add (.var 3) (.slc (.var 3) false (.cst .aQ) true (.cst (.int (1))))) (jE sc bs a bb x5 x6 x7 x8) h=.ok (.ref h1.n) h2:=
  lC (x:=.ref a) (y:=.ref h.n) (aH rfl) e0 (CT KU eB (by lia))
 have g2:h2.get h1.n=aD (.lst (ws++s)):=eB;obtain⟨ρ',h',e2,hI⟩:=y9 (nx:=bg .seq (.ref h1.n)) (tg:=bH (.many [5,7,8,6])) (b:=exs cl CG) (n:=(ws++s).length)
  (I:=λi ρ h3=>(∃x5 x6 x7 x8,ρ=jE sc bs a bb x5 x6 x7 x8)/\Gm h2 h3)
  (λi ρ h3 hi hI=>by
    obtain⟨⟨x5,x6,x7,x8,rfl⟩,G⟩:=hI;have hx:=eT hi;have hm:=jg hx;generalize (ws++s)[i]=w at hx hm;have hm2:w∈ws:=by rcases mF.mp hm with q|q;exact q;exact hs w q
    obtain⟨e,he,rfl⟩:=jz.mp hm2;obtain⟨B,ls,r,bt,Ee⟩:=E e he;have le:=bT Ee.ge;have E2:As h3 a e B ls r bt:=⟨by rw[G.get _ (show e<h.n+1+1 by lia),eK (show e<h.n+1 by lia),eK le];exact Ee.ge,Ee.ok,Ee.hl,Ee.bi,Ee.hr,Ee.hf,Ee.b0,Ee.b1,Ee.ae⟩
    obtain⟨h4,e3,G4⟩:=C9 C (k:=k) (sc:=sc) (bs:=bs) (bb:=bb) E2;have g3:h3.get h1.n=aD (.lst (ws++s)):=by rw[G.get _ (iT _)];exact g2
    refine⟨.ref e,_,_,h4,by rw[qA g3,hx],?_,e3,⟨_,_,_,_,rfl⟩,G.trans G4⟩;simp only[bH,zc E2.ge,kG];rfl)
  (λρ h3 hI=>by
    obtain⟨_,G⟩:=hI;have g3:h3.get h1.n=aD (.lst (ws++s)):=by rw[G.get _ (iT _)];exact g2
    rw[qA g3,nG (aT _)])
  (ws++s).length 0 fuel (jE sc bs a bb x5 x6 x7 x8) h2 (nF _) (show _<1000000 by rw[eW];lia) ⟨⟨_,_,_,_,rfl⟩,Gm.refl⟩
 exact⟨h',(bI ((kj e1).trans e2)).trans (jw (fO aR))⟩
end
section
variable{F:Nat->Option Fn}(C:KR F)
include C
theorem zxx{k:Nat}{a z q:Nat}{h h0:VH}{sc bs:W}{zs Gg:List W}{ea:E}(ha:2<=a)(D:Dk h 1 0 40000)(ga:h.get a=aD (.lst []))(az:a<z)(aq:a<q)(gz:h.get z=aD (.lst zs))(gq:h.get q=aD (.lst Gg))(lz:zs.length=3)
 (hz:∀i,i<3->∃(B:Bd) (bt:Int),zs[i]?=aD B.w/\Gg[i]?=aD (.int bt)/\B.Ok/\1<=bt/\bt<=100)
 (e0:ev (run F (k+6)) ea (jE sc bs a (aD (.ref q)) aE aE aE aE) h0=.ok (.tup [.ref z,.ref q]) h) :
 ∃(es:List Nat) (x5 x6 x7 x8:Option W) (h':VH),exs (run F (k+6)) (.«for» .zip ea (.many [5,6]) FI) (jE sc bs a (aD (.ref q)) aE aE aE aE) h0=.ok (.nx (jE sc bs a (aD (.ref q)) x5 x6 x7 x8)) h'/\es.length<=50/\h'.get a=aD (.lst (es.map .ref))/\∀e∈es,vm a h' e:=by
 obtain⟨ρ',h',e1,hI⟩:=y9 (nx:=bg .zip (.tup [.ref z,.ref q])) (tg:=bH (.many [5,6])) (b:=exs (run F (k+6)) FI) (n:=3)
  (I:=λi ρ h2=>∃(es:List Nat) (x5 x6 x7 x8:Option W),ρ=jE sc bs a (aD (.ref q)) x5 x6 x7 x8/\es.length=2*i/\h2.get a=aD (.lst (es.map .ref))/\(∀e∈es,vm a h2 e)/\Dk h2 1 0 (40000+120*i)/\h2.get z=aD (.lst zs)/\h2.get q=aD (.lst Gg))
  (λi ρ h2 hi hI=>by
    obtain⟨es,x5,x6,x7,x8,rfl,hn,g2,E,D2,Gh,xP⟩:=hI;obtain⟨B,bt,h1,h3,b',b0,b1⟩:=hz i hi;obtain⟨y7,y8,e1,e2,h4,e3,g3,E3,D3,up⟩:=C8 C (k:=k) (B:=B) (bt:=bt) (sc:=sc) (bs:=bs) (bb:=aD (.ref q)) (x7:=x7) (x8:=x8) b' ha D2 (by lia) g2 (by lia) E b0 b1;exact⟨.tup [B.w,.int bt],jE sc bs a (aD (.ref q)) (aD B.w) (aD (.int bt)) x7 x8,_,h4,zip2 Gh xP h1 h3,rfl,e3,es++[e1,e2],_,_,_,_,rfl,by rw[eW,hn];simp;lia,g3,E3,D3.mono (by lia),up _ _ az Gh,up _ _ aq xP⟩)
  (λρ h2 hI=>by
    obtain⟨es,x5,x6,x7,x8,rfl,hn,g2,E,D2,Gh,xP⟩:=hI;exact vj Gh xP (nG (by lia)))
  3 0 fuel (jE sc bs a (aD (.ref q)) aE aE aE aE) h (nF _) (show _<1000000 by lia) ⟨[],aE,aE,aE,aE,rfl,rfl,ga,(λe he=>by cases he),D,gz,gq⟩
 obtain⟨es,x5,x6,x7,x8,rfl,hn,g2,E,_⟩:=hI;exact⟨es,x5,x6,x7,x8,h',(kj e0).trans e1,by lia,g2,E⟩
theorem Dc{ns:List Int}(hl:ns.length<=63):Cw (run F 30 703 [.fz (ns.map .int)] ⟨0,0,[]⟩)=true:=by
 rw[show(30:Nat)=29+1 from rfl,dW C.KS rfl];let cl:=run F 29;obtain⟨h1,e1,D1⟩:=J' C.p.toCoreD (k:=28) (h:=⟨0,0,[]⟩) hl;generalize hsc:W.fz (ns.map .int)=sc at *;clear hl hsc;have D1:Dk h1 1 0 0:=D1;have e1:run F (28+1) 3 [sc] ⟨0,0,[]⟩=.ok (.ref 1) h1:=e1;obtain⟨B0,h2,e2,b0,D2,K2⟩:=zxv C.p C.xV (k:=23) D1 (by lia);obtain⟨B1,h3,e3,b1,D3,K3⟩:=znd C.p C.xW (k:=23) D2 (by lia);let h4:=h3.new (.lst [B0.w,B1.w]);let h5:=h4.new (.lst []);obtain⟨d3,c3⟩:=D3.lt;have n4:h4.n=h3.n+1:=rfl;have n5:h5.n=h3.n+2:=rfl;have D5:Dk h5 1 0 _:=(D3.new (o:=.lst [B0.w,B1.w])).new (o:=.lst []);obtain⟨t,h6,e6,t0,t1,D6,K6⟩:=take C.p.toCoreD (k:=26) (m:=60) D5 (by lia) (by lia) (by lia);let h7:=h6.new (.lst [.int 1,.int 100]);obtain⟨v,h8,e8,v0,v1,D8,K8⟩:=take C.p.toCoreD (k:=26) (m:=2) (D6.new (o:=.lst [.int 1,.int 100])) (by lia) (by lia) (by lia);have l6:=K6.le;obtain⟨y,y0,y1,ey⟩:∃y:Int,1<=y/\y<=100/\cZ [W.int 1,.int 100] v=aD (.int y):=by
  obtain⟨i,rfl⟩:=jh v0;have hi:i<2:=by lia
  match i,hi with|0,_=>exact⟨1,by decide,by decide,iN rfl⟩|1,_=>exact⟨100,by decide,by decide,iN rfl⟩
 have gg:h8.get h6.n=aD (.lst [.int 1,.int 100]):=K8.get _ _ (by lia) (by lia) eB;have l8:h6.n+1<=h8.n:=K8.le;let h9:=h8.new (.lst [.int (1+t),.int 1,.int y]);let RM:=h9.new (.lst [B0.w,B1.w,B0.w]);let C7 (x4:Option W):En:=jE sc (.ref h3.n) h4.n x4 aE aE aE aE;have s4:ev cl (.lst (.cons (.op .add (.cst (.int (1))) (.call 5 (.cons (.var 1) (.cons (.cst (.int (60))) .nil)))) (.cons (.cst (.int (1))) (.cons (.idx (.lst (.cons (.cst (.int (1))) (.cons (.cst (.int (100))) .nil))) (.call 5 (.cons (.var 1) (.cons (.cst (.int (2))) .nil)))) .nil)))) (C7 aE) h5=.ok (.ref h8.n) h9:=
  dH (ys:=[.int (1+t),.int 1,.int y]) (aI (lC (x:=.int 1) (y:=.int t) aR (gV (x:=.ref 1) (y:=.int 60) (aH rfl) aR e6) rfl) (aI aR (aI (bK (x:=.ref h6.n) (y:=.int v) (h1:=h7) (dH (ys:=[.int 1,.int 100]) (aI aR (aI aR br)) rfl) (gV (x:=.ref 1) (y:=.int 2) (aH rfl) aR e8) (by simp only[bM,gg];exact ey)) br))) rfl
 have RN:∀i o,i≠1->i≠0->h5.get i=aD o->h9.get i=aD o:=λi o n1 n0 e=>by
  have q6:=K6.get _ _ n1 n0 e;have q8:=K8.get _ _ n1 n0 ((eK (bT q6)).trans q6);exact(eK (bT q8)).trans q8
 have gb:h9.get h3.n=aD (.lst [B0.w,B1.w]):=RN _ _ (by lia) (by lia) ((eK (iT _)).trans eB);have ga:h9.get h4.n=aD (.lst []):=RN _ _ (by lia) (by lia) eB;have ix:∀(i:Nat)(w:W),[B0.w,B1.w][i]?=aD w->ev cl (.idx (.var 2) (.cst (.int (i:Int)))) (C7 (aD (.ref h8.n))) h9=.ok w h9:=λi w e=>
  bK (x:=.ref h3.n) (aH rfl) aR (by simp only[bM,gb];exact iN e)
 have s5:ev cl (.cons (.lst (.cons (.idx (.var 2) (.cst (.int (0)))) (.cons (.idx (.var 2) (.cst (.int (1)))) (.cons (.idx (.var 2) (.cst (.int (0)))) .nil)))) (.cons (.var 4) .nil)) (C7 (aD (.ref h8.n))) h9=.ok (.tup [.ref h9.n,.ref h8.n]) RM:=
  aI (dH (ys:=[B0.w,B1.w,B0.w]) (aI (ix 0 _ rfl) (aI (ix 1 _ rfl) (aI (ix 0 _ rfl) br))) rfl) (aI (aH rfl) br)
 have n9:h9.n=h8.n+1:=rfl;obtain⟨es,x5,x6,x7,x8,h11,yG,hn,g11,E11⟩:=zxx C (k:=23) (sc:=sc) (bs:=.ref h3.n) (a:=h4.n) (z:=h9.n) (q:=h8.n) (h:=RM) (h0:=h9) (zs:=[B0.w,B1.w,B0.w]) (Gg:=[.int (1+t),.int 1,.int y]) (by lia) ((D8.new.new).mono (by lia)) ((eK (by lia)).trans ga) (by lia) (by lia) eB ((eK (by lia)).trans eB) rfl
  (λi hi=>by
    match i,hi with|0,_=>exact⟨B0,1+t,rfl,rfl,b0,by lia,by lia⟩|1,_=>exact⟨B1,1,rfl,rfl,b1,by decide,by decide⟩|2,_=>exact⟨B0,y,rfl,rfl,b0,y0,y1⟩) s5
 obtain⟨h12,e12⟩:=zxw C (k:=18) (sc:=sc) (bs:=.ref h3.n) (bb:=aD (.ref h8.n)) (x5:=x5) (x6:=x6) (x7:=x7) (x8:=x8) hn g11 E11;have eb:exs cl FJ.body [aD sc,aE,aE,aE,aE,aE,aE,aE,aE] ⟨0,0,[]⟩=.ok (.rt (.bl true)) h12:=by refine(bI (cD (h1:=h1) (x:=.ref 1) (F7 (aH rfl) e1))).trans ?_;refine(bI (cD (h1:=h4) (x:=.ref h3.n) (dH (ys:=[B0.w,B1.w]) (aI (F7 (x:=.ref 1) (aH rfl) e2) (aI (F7 (x:=.ref 1) (aH rfl) e3) br)) rfl))).trans ?_;refine(bI (cD (h1:=h5) (x:=.ref h4.n) (dH br rfl))).trans ?_;refine(bI (cD s4)).trans ?_;refine(bI yG).trans ?_;exact e12
 show Cw (fin ⟨0,0,[]⟩ (exs cl FJ.body [aD sc,aE,aE,aE,aE,aE,aE,aE,aE] ⟨0,0,[]⟩))=true;rw[eb];have:∃h2,fin ⟨0,0,[]⟩ (.ok (.rt (.bl true)) h12)=.ok (.bl true) h2:=by show ∃h2,leave ⟨0,0,[]⟩ (.bl true) h12=.ok (.bl true) h2;unfold leave;split<;>exact⟨_,rfl⟩
 obtain⟨h13,e13⟩:=this;rw[e13];rfl
end
end RF
namespace HD
open PySem PySem.W PySem.Calls PyProof.Rows
noncomputable section
noncomputable def p:ai:=PySem.Challenge.pw_ballrockers_k73_at_once_far
noncomputable abbrev S(x:String):Str:=Str.ofString x
noncomputable abbrev U(x:String)(t:Tok):aa:=Value.str (S x) t
noncomputable abbrev R(a:ah):aa:=Value.ref a
noncomputable abbrev I(i:Int)(t:Tok):aa:=Value.int i t
noncomputable abbrev E(P:Params)(x:String)(t:Tok)(v:aa):DictEntry:=DictEntry.mk (PyData.keyHash P (S x)) (Value.str (S x) t) v
noncomputable abbrev N(o:Obj)(l r:BT):BT:=BT.node o l r
noncomputable abbrev Z:BT:=BT.nil
noncomputable abbrev L(o:Obj):BT:=BT.node o Z Z
noncomputable abbrev Y(c:String)(d:Data):Obj:=Obj.mk (Value.type c) aE d #[]
noncomputable abbrev X(d:Data):Obj:=Obj.mk Value.none aE d #[]
noncomputable def xY(l:List au)(i:Nat):au:=l.getD i (Stmt.Pass ⟨0,0,0,0⟩)
noncomputable def RO:au->List au|.FunctionDef _ _ b _ _ _ _ _ _ _=>b|.ClassDef _ _ _ b _ _ _ _ _ _ _=>b|_=>[]
noncomputable def RP:au->Arguments|.FunctionDef _ a _ _ _ _ _ _ _ _=>a|_=>⟨[],[],aE,[],[],aE,[]⟩
noncomputable def RQ:au->aA|.FunctionDef _ _ _ _ _ _ s _ _ _=>s|_=>p.main.scope
noncomputable def fb(i:Nat):List au:=RO (xY p.main.body i)
noncomputable def fa(i:Nat):Arguments:=RP (xY p.main.body i)
noncomputable def fs(i:Nat):aA:=RQ (xY p.main.body i)
noncomputable def cb(i j:Nat):List au:=RO (xY (fb i) j)
noncomputable def ca(i j:Nat):Arguments:=RP (xY (fb i) j)
noncomputable def cs(i j:Nat):aA:=RQ (xY (fb i) j)
noncomputable abbrev O:aa:=Value.none
noncomputable abbrev J(i:Int):aa:=Value.int i 0
noncomputable abbrev V(t:Tok):aa:=Value.str (S "/claim/cut.py") t
noncomputable abbrev A(l:Array aa):Data:=Data.fields l
noncomputable abbrev B(f:av):Data:=Data.func f
noncomputable abbrev G(x:String)(i:Nat)(g:ah)(c:List (Str×ah))(d k o m:aa)(n:Option ah)(cd ct:aa)(b:ah):av:=FuncData.mk (S x) (S x) (fa i) (FuncBody.stmts (fb i)) (fs i) g c d k o m n cd ct b
section
variable(P:Params)
noncomputable def N0:Nat:=5244
noncomputable def lo:List Str:=[S "heading_behind"]
noncomputable def keep:List Nat:=[1,2,3,4,5,6,8,9,10,11,13,14,15,16,17,18,19,20,21,22,23,24,25,26,27,28,29,31,32,33,34,37,38,39,40,42,43,44,45,46,47,48,49,50,51,52,53,54,55,56,57,58,59]
noncomputable def life:Life:=(Life.mk [] [] [] 0 [] [] false #[] [] 0 false false false 0 [2000,10,10] false 0 true [] [] 0 false)
noncomputable def m0:Nat:=11
noncomputable def ann:Option aa:=(aD (R 6))
noncomputable def env:Env:={scope:=p.main.scope,locals:=mainNs,globals:=mainNs,cells:=[],code:=(R 13),frame:=aD 14}
noncomputable def bd:List au:=behindTheImports p
noncomputable def cd:Code:=Code.body bd env
noncomputable def fr:List Frame:=[topFrame (Pos.mk 0 0 0 0)]
noncomputable abbrev qC(n:String)(t:Nat)(l k:Int)(r m:Nat):Obj:=Y "code" (A #[U n t,U n (t+1),V (t+2),J l,J k,J 0,J 0,J 3,R r,Value.bool true,J 181,R (r+1),O,R (r+2),R (r+3),R (r+4),J (Int.ofNat m),J l,V (m+1)])
noncomputable abbrev qD(n:String)(t:Nat)(l k:Int)(r m:Nat):Obj:=Y "code" (A #[U n t,U n (t+1),V (t+2),J l,J k,J 0,J 0,J 3,R r,Value.bool true,J 181,R (r+1),O,O,O,R (r+2),J (Int.ofNat m),J l,V (m+1)])
noncomputable def qU:Nat->List String->List aa|_,[]=>[]|t,x::r=>U x t::qU (t+1) r
noncomputable abbrev qT(t:Nat)(l:List String):Obj:=Y "tuple" (Data.seq (qU t l).toArray 0)
noncomputable abbrev qF(n:String)(i:Nat)(u:aa)(r:ah):Obj:=Y "function" (B (G n i 3 [] O O O u aE (R r) O 0))
noncomputable abbrev qG(n:String)(i:Nat):Obj:=X (B (G n i 0 [] O O O O aE O O 0))
noncomputable def qJ:List (Int×Nat)->List aa|[]=>[]|(a,b)::r=>J a::J 0::R b::qJ r
noncomputable def qO:List Obj->List Obj|x::_::r=>x::qO r|x=>x
noncomputable def qE:List Obj->List Obj|_::y::r=>y::qE r|_=>[]
noncomputable def qB:Nat->List Obj->BT|f+1,x::r=>N x (qB f (qO r)) (qB f (qE r))|_,_=>Z
 def a0:=(Y "tuple" (Data.seq #[] 0))
 def a1:=(X (A #[]))
 def a2:=(Y "code" (A #[(U "<module>" 182),(U "<module>" 183),(V 184),(J 1),(J 0),(J 0),(J 0),(J 0),(R 11),(Value.bool false),(J 181),(R 12),O,O,O,O,(J 185),(J 1),(V 186)]))
 def a3:=(Obj.mk (Value.type "frame") aE Data.plain #[(aD (R 13)),(aD (R 3)),(aD (R 3)),aE,(aD (U "__main__" 164)),aE,(aD (R 0))])
 def ha:aB:=Heap.mk (Array.mk [(boot_o_0 P),(boot_o_1 P),(boot_o_2 P),(boot_o_3 P),(boot_o_4 P),(boot_o_5 P),(boot_o_6 P),(boot_o_7 P),(boot_o_8 P),(boot_o_9 P),(boot_o_10 P),a0,a1,a2,a3]) (Life.mk [] [] [] 0 [] [] false #[] [] 0 false false false 0 [2000,10,10] false 0 true [] [] 0 false)
noncomputable def sa(w:aj)(os:ay):af:=⟨ha w.params,(Array.mk []),(Drawn.mk 0 0 0 0),187,os⟩
theorem vp{w:aj}{n:Nat}{s s':SharedT}{l:List au}{pos pos':Pos}(h:PySem.W.Fast.tw10110043849684766642 PySem.W.Fast.tw14364793385576792824 p w m0 ann 1 n s (piecesOf l env cd pos fr)=aD (.next,s',cd,pos')) :
 segRun treeTable p w m0 ann 1 n s.abs (piecesOf l env cd pos fr)=aD (.next,s'.abs,cd,pos'):=
 segRun_of (by rw[PySem.W.Fast.te10110043849684766642,DS];exact h)
theorem Dd{w:aj}{n:Nat}{s s':af}{pos:Pos}(h:PySem.W.Fast.tw15667345088766844465 PySem.W.Fast.tw14364793385576792824 p w m0 ann n s (topStub p)=aD (s',⟨PySem.W.Fast.tw11892475500146522536 PySem.W.Fast.tw14364793385576792824 cd,cd,pos,fr⟩)) :
 topGo treeTable p w m0 ann n s (topStub p)=aD (s',⟨denote treeTable cd,cd,pos,fr⟩):=by
 rw[PySem.W.Fast.te15667345088766844465,DS,PySem.W.Fast.te11892475500146522536];exact h
theorem zto{w:aj}{n:Nat}{s s':af}{pos pos':Pos}(h:PySem.W.Fast.tw14374325043358763698 PySem.W.Fast.tw14364793385576792824 p w m0 ann 1 n s (blockOf bd env cd pos fr)=aD (.next,s',cd,pos')) :
 segRun treeTable p w m0 ann 1 n s (blockOf bd env cd pos fr)=aD (.next,s',cd,pos'):=by
 rw[PySem.W.Fast.te14374325043358763698,DS];exact h
theorem De{w:aj}{n:Nat}{s s':af}{pos:Pos}(h:PySem.W.Fast.tw14082659384304107361 PySem.W.Fast.tw14364793385576792824 p w m0 ann n s ⟨doneF .next,cd,pos,fr⟩=aD s') :
 topRun treeTable p w m0 ann n s ⟨doneF .next,cd,pos,fr⟩=aD s':=by
 rw[PySem.W.Fast.te14082659384304107361,DS];exact h
set_option maxHeartbeats 0 in
theorem pre(w:aj)(os:ay):topGo treeTable p w m0 ann 12 ⟨boot_heap w.params,Array.mk [],boot_drawn,boot_toks,os⟩ (topStub p)=aD (sa w os,⟨denote treeTable cd,cd,(Pos.mk 0 0 0 0),fr⟩):=Dd (by kernel_rfl)
 def RS:List Obj:=[(boot_o_0 P),(boot_o_1 P),(boot_o_2 P),(boot_o_3 P),(boot_o_4 P),(boot_o_5 P),(boot_o_6 P),(boot_o_7 P),(boot_o_8 P),(boot_o_9 P),(boot_o_10 P),a0,a1,a2,a3]
 def tb:=qB 20 (RS P)
noncomputable def sb(w:aj)(os:ay):SharedT:=⟨tb w.params,15,life,(Array.mk []),(Drawn.mk 0 0 0 0),187,os⟩
set_option maxHeartbeats 0 in
theorem block(w:aj)(os:ay):segRun treeTable p w m0 ann 1 1 (sa w os) (blockOf bd env cd (Pos.mk 0 0 0 0) fr)=aD (.next,(sb w os).abs,cd,(Pos.mk 0 0 0 0)):=zto (by kernel_rfl)
 def RT:=[(E P "__doc__" 166 O),(E P "__package__" 167 O),(E P "__loader__" 168 (Value.builtin "__main__.__loader__#opaque")),(E P "__spec__" 169 O),(E P "__annotations__" 170 (R 6)),(E P "__builtins__" 171 (R 4)),(E P "__file__" 173 (V 172)),(E P "__cached__" 174 O),(E P "BoardError" 206 (R 24)),(E P "NoBoard" 222 (R 37)),(E P "Fault" 249 (R 56)),(E P "NoLeans" 265 (R 68)),(E P "NoRow" 281 (R 80)),(E P "NoNumber" 297 (R 92)),(E P "is_whole" 306 (R 101)),(E P "is_whole_within" 315 (R 108)),(E P "is_tuple_within" 324 (R 115)),(E P "are_wholes_within" 336 (R 122)),(E P "MOST_COLUMNS" 340 (I 40 339)),(E P "MOST_ROWS" 342 (I 60 341)),(E P "MOST_GROUPS" 344 (I 8 343)),(E P "MOST_FEEDERS" 346 (I 4 345)),(E P "MOST_NAME" 348 (I 99 347))]
 def a4:=Y "dict" (Data.dict ((E P "__name__" 165 (U "ballrockers.boards" 337))::RT P).toArray 24)
 def RU:List (Int×Nat):=[(2,20),(4,33),(6,45),(11,64),(13,76),(15,88),(18,100),(20,107),(22,114),(24,121)]
 def a5:=X (A (qJ RU).toArray)
 def a6:=(Y "tuple" (Data.seq #[(Value.type "ValueError")] 0))
 def a7:=(Y "builtin_function_or_method" (A #[(Value.builtin "type.__prepare__"),(Value.type "type")]))
 def a8:=(Y "dict" (Data.dict #[(E P "__module__" 196 (U "ballrockers.errors" 187)),(E P "__qualname__" 198 (U "BoardError" 197)),(E P "__firstlineno__" 200 (I 2 199)),(E P "__static_attributes__" 201 (R 22))] 4))
 def a9:=(Y "code" (A #[(U "BoardError" 191),(U "BoardError" 192),(V 193),(J 2),(J 0),(J 0),(J 0),(J 0),(R 18),(Value.bool false),(J 181),(R 19),O,O,O,O,(J 194),(J 2),(V 195)]))
 def Jx:=(Obj.mk (Value.type "frame") aE Data.plain #[(aD (R 20)),(aD (R 3)),(aD (R 17)),aE,(aD (U "ballrockers.errors" 187)),aE,(aD (R 0))])
 def a11:=(Y "dict" (Data.dict #[(E P "__module__" 196 (U "ballrockers.errors" 187)),(E P "__firstlineno__" 200 (I 2 199)),(E P "__static_attributes__" 201 (R 22)),(E P "__weakref__" 203 (R 25)),(E P "__doc__" 204 O)] 3))
 def a12:=(Obj.mk (Value.type "type") aE (Data.cls (ClassData.mk (S "BoardError") [(Value.type "ValueError")] [(R 24),(Value.type "ValueError"),(Value.type "Exception"),(Value.type "BaseException"),(Value.type "object")] 23 (S "BoardError") true [] [(R 37),(R 56),(R 68),(R 80),(R 92)] false aE false)) #[(aD (R 15)),aE,(aD (U "BoardError" 189)),(aD (U "BoardError" 197)),(aD (Value.builtin "ValueError.__new__")),(aD (Value.bool true))])
 def a13:=(Y "getset_descriptor" (A #[(U "__weakref__" 202),(R 24),(Value.builtin "ExceptionGroup.__weakref__"),O]))
 def a14:=(Y "super" (A #[(R 24),(R 24),(R 24)]))
 def a15:=(Y "builtin_function_or_method" (A #[(Value.builtin "object.__init_subclass__"),(R 24)]))
 def Df:=(Y "tuple" (Data.seq #[(R 24)] 0))
 def a17:=(Y "dict" (Data.dict #[(E P "__module__" 214 (U "ballrockers.errors" 187)),(E P "__qualname__" 216 (U "NoBoard" 215)),(E P "__firstlineno__" 218 (I 4 217)),(E P "__static_attributes__" 219 (R 35))] 4))
 def a18:=(Y "code" (A #[(U "NoBoard" 209),(U "NoBoard" 210),(V 211),(J 4),(J 0),(J 0),(J 0),(J 0),(R 31),(Value.bool false),(J 181),(R 32),O,O,O,O,(J 212),(J 4),(V 213)]))
 def a19:=(Obj.mk (Value.type "frame") aE Data.plain #[(aD (R 33)),(aD (R 3)),(aD (R 30)),aE,(aD (U "ballrockers.errors" 187)),aE,(aD (R 0))])
 def a20:=(Y "dict" (Data.dict #[(E P "__module__" 214 (U "ballrockers.errors" 187)),(E P "__firstlineno__" 218 (I 4 217)),(E P "__static_attributes__" 219 (R 35)),(E P "__doc__" 220 O)] 2))
 def a21:=(Obj.mk (Value.type "type") aE (Data.cls (ClassData.mk (S "NoBoard") [(R 24)] [(R 37),(R 24),(Value.type "ValueError"),(Value.type "Exception"),(Value.type "BaseException"),(Value.type "object")] 36 (S "NoBoard") true [] [] false aE false)) #[(aD (R 28)),aE,(aD (U "NoBoard" 207)),(aD (U "NoBoard" 215)),(aD (Value.builtin "ValueError.__new__")),(aD (Value.bool true))])
 def a22:=(Y "super" (A #[(R 37),(R 37),(R 37)]))
 def a23:=(Y "builtin_function_or_method" (A #[(Value.builtin "object.__init_subclass__"),(R 37)]))
 def a24:=(Y "dict" (Data.dict #[(E P "__module__" 230 (U "ballrockers.errors" 187)),(E P "__qualname__" 232 (U "Fault" 231)),(E P "__firstlineno__" 234 (I 6 233)),(E P "__init__" 243 (R 53)),(E P "__static_attributes__" 246 (R 54))] 5))
 def a25:=(X (A #[(J 8),(J 4),(R 52)]))
 def a26:=(Y "code" (A #[(U "Fault" 225),(U "Fault" 226),(V 227),(J 6),(J 0),(J 0),(J 0),(J 0),(R 43),(Value.bool false),(J 181),(R 44),O,O,O,O,(J 228),(J 6),(V 229)]))
 def a27:=(Obj.mk (Value.type "frame") aE Data.plain #[(aD (R 45)),(aD (R 3)),(aD (R 42)),aE,(aD (U "ballrockers.errors" 187)),aE,(aD (R 0))])
 def a28:=qT 238 ["self","row","column"]
 def a29:=(X (B (FuncData.mk (S "__init__") (S "Fault.__init__") (ca 3 0) (FuncBody.stmts (cb 3 0)) (cs 3 0) 0 [] O O O O aE O O 0)))
 def a30:=(Y "code" (A #[(U "__init__" 235),(U "Fault.__init__" 236),(V 237),(J 8),(J 3),(J 0),(J 0),(J 3),(R 47),(Value.bool true),(J 181),(R 48),O,(R 49),(R 50),(R 51),(J 241),(J 8),(V 242)]))
 def a31:=(Y "function" (B (FuncData.mk (S "__init__") (S "Fault.__init__") (ca 3 0) (FuncBody.stmts (cb 3 0)) (cs 3 0) 3 [] O O O (U "ballrockers.errors" 187) aE (R 52) O 0)))
 def a32:=qT 244 ["column","row"]
 def a33:=(Y "dict" (Data.dict #[(E P "__module__" 230 (U "ballrockers.errors" 187)),(E P "__firstlineno__" 234 (I 6 233)),(E P "__init__" 243 (R 53)),(E P "__static_attributes__" 246 (R 54)),(E P "__doc__" 247 O)] 2))
 def a34:=(Obj.mk (Value.type "type") aE (Data.cls (ClassData.mk (S "Fault") [(R 24)] [(R 56),(R 24),(Value.type "ValueError"),(Value.type "Exception"),(Value.type "BaseException"),(Value.type "object")] 55 (S "Fault") true [] [] false aE false)) #[(aD (R 40)),aE,(aD (U "Fault" 223)),(aD (U "Fault" 231)),(aD (Value.builtin "ValueError.__new__")),(aD (Value.bool true))])
 def a35:=(Y "super" (A #[(R 56),(R 56),(R 56)]))
 def a36:=(Y "builtin_function_or_method" (A #[(Value.builtin "object.__init_subclass__"),(R 56)]))
 def a37:=(Y "dict" (Data.dict #[(E P "__module__" 257 (U "ballrockers.errors" 187)),(E P "__qualname__" 259 (U "NoLeans" 258)),(E P "__firstlineno__" 261 (I 11 260)),(E P "__static_attributes__" 262 (R 66))] 4))
 def a38:=(Y "code" (A #[(U "NoLeans" 252),(U "NoLeans" 253),(V 254),(J 11),(J 0),(J 0),(J 0),(J 0),(R 62),(Value.bool false),(J 181),(R 63),O,O,O,O,(J 255),(J 11),(V 256)]))
 def a39:=(Obj.mk (Value.type "frame") aE Data.plain #[(aD (R 64)),(aD (R 3)),(aD (R 61)),aE,(aD (U "ballrockers.errors" 187)),aE,(aD (R 0))])
 def a40:=(Y "dict" (Data.dict #[(E P "__module__" 257 (U "ballrockers.errors" 187)),(E P "__firstlineno__" 261 (I 11 260)),(E P "__static_attributes__" 262 (R 66)),(E P "__doc__" 263 O)] 2))
 def a41:=(Obj.mk (Value.type "type") aE (Data.cls (ClassData.mk (S "NoLeans") [(R 24)] [(R 68),(R 24),(Value.type "ValueError"),(Value.type "Exception"),(Value.type "BaseException"),(Value.type "object")] 67 (S "NoLeans") true [] [] false aE false)) #[(aD (R 59)),aE,(aD (U "NoLeans" 250)),(aD (U "NoLeans" 258)),(aD (Value.builtin "ValueError.__new__")),(aD (Value.bool true))])
 def a42:=(Y "super" (A #[(R 68),(R 68),(R 68)]))
 def a43:=(Y "builtin_function_or_method" (A #[(Value.builtin "object.__init_subclass__"),(R 68)]))
 def a44:=(Y "dict" (Data.dict #[(E P "__module__" 273 (U "ballrockers.errors" 187)),(E P "__qualname__" 275 (U "NoRow" 274)),(E P "__firstlineno__" 277 (I 13 276)),(E P "__static_attributes__" 278 (R 78))] 4))
 def a45:=(Y "code" (A #[(U "NoRow" 268),(U "NoRow" 269),(V 270),(J 13),(J 0),(J 0),(J 0),(J 0),(R 74),(Value.bool false),(J 181),(R 75),O,O,O,O,(J 271),(J 13),(V 272)]))
 def a46:=(Obj.mk (Value.type "frame") aE Data.plain #[(aD (R 76)),(aD (R 3)),(aD (R 73)),aE,(aD (U "ballrockers.errors" 187)),aE,(aD (R 0))])
 def a47:=(Y "dict" (Data.dict #[(E P "__module__" 273 (U "ballrockers.errors" 187)),(E P "__firstlineno__" 277 (I 13 276)),(E P "__static_attributes__" 278 (R 78)),(E P "__doc__" 279 O)] 2))
 def a48:=(Obj.mk (Value.type "type") aE (Data.cls (ClassData.mk (S "NoRow") [(R 24)] [(R 80),(R 24),(Value.type "ValueError"),(Value.type "Exception"),(Value.type "BaseException"),(Value.type "object")] 79 (S "NoRow") true [] [] false aE false)) #[(aD (R 71)),aE,(aD (U "NoRow" 266)),(aD (U "NoRow" 274)),(aD (Value.builtin "ValueError.__new__")),(aD (Value.bool true))])
 def a49:=(Y "super" (A #[(R 80),(R 80),(R 80)]))
 def a50:=(Y "builtin_function_or_method" (A #[(Value.builtin "object.__init_subclass__"),(R 80)]))
 def a51:=(Y "dict" (Data.dict #[(E P "__module__" 289 (U "ballrockers.errors" 187)),(E P "__qualname__" 291 (U "NoNumber" 290)),(E P "__firstlineno__" 293 (I 15 292)),(E P "__static_attributes__" 294 (R 90))] 4))
 def a52:=(Y "code" (A #[(U "NoNumber" 284),(U "NoNumber" 285),(V 286),(J 15),(J 0),(J 0),(J 0),(J 0),(R 86),(Value.bool false),(J 181),(R 87),O,O,O,O,(J 287),(J 15),(V 288)]))
 def a53:=(Obj.mk (Value.type "frame") aE Data.plain #[(aD (R 88)),(aD (R 3)),(aD (R 85)),aE,(aD (U "ballrockers.errors" 187)),aE,(aD (R 0))])
 def a54:=(Y "dict" (Data.dict #[(E P "__module__" 289 (U "ballrockers.errors" 187)),(E P "__firstlineno__" 293 (I 15 292)),(E P "__static_attributes__" 294 (R 90)),(E P "__doc__" 295 O)] 2))
 def a55:=(Obj.mk (Value.type "type") aE (Data.cls (ClassData.mk (S "NoNumber") [(R 24)] [(R 92),(R 24),(Value.type "ValueError"),(Value.type "Exception"),(Value.type "BaseException"),(Value.type "object")] 91 (S "NoNumber") true [] [] false aE false)) #[(aD (R 83)),aE,(aD (U "NoNumber" 282)),(aD (U "NoNumber" 290)),(aD (Value.builtin "ValueError.__new__")),(aD (Value.bool true))])
 def a56:=(Y "super" (A #[(R 92),(R 92),(R 92)]))
 def a57:=(Y "builtin_function_or_method" (A #[(Value.builtin "object.__init_subclass__"),(R 92)]))
 def a58:=qT 303 ["thing"]
 def a59:=qG "is_whole" 8
 def a60:=qC "is_whole" 300 18 1 95 304
 def tN:=U "ballrockers.whole" 298
 def a61:=qF "is_whole" 8 tN 100
 def a62:=qT 310 ["thing","low","high"]
 def a63:=qG "is_whole_within" 9
 def a64:=qC "is_whole_within" 307 20 3 102 313
 def a65:=qF "is_whole_within" 9 tN 107
 def a66:=qT 319 ["thing","fewest","most"]
 def a67:=qG "is_tuple_within" 10
 def a68:=qC "is_tuple_within" 316 22 3 109 322
 def a69:=qF "is_tuple_within" 10 tN 114
 def a70:=qT 328 ["thing","fewest","most","low","high","number"]
 def a71:=qG "are_wholes_within" 11
 def a72:=qC "are_wholes_within" 325 24 5 116 334
 def a73:=qF "are_wholes_within" 11 tN 121
 def RV:List Obj:=((RS P).set 3 (a4 P)).set 12 a5++[a6,a7,(a8 P),a0,a1,a9,Jx,a0,(a11 P),a12,a13,a14,a15,Df,a7,(a17 P),a0,a1,a18,a19,a0,(a20 P),a21,a22,a23,Df,a7,(a24 P),a0,a25,a26,a27,a0,a1,a28,a0,a29,a30,a31,a32,(a33 P),a34,a35,a36,Df,a7,(a37 P),a0,a1,a38,a39,a0,(a40 P),a41,a42,a43,Df,a7,(a44 P),a0,a1,a45,a46,a0,(a47 P),a48,a49,a50,Df,a7,(a51 P),a0,a1,a52,a53,a0,(a54 P),a55,a56,a57,a0,a1,a58,a0,a59,a60,a61,a0,a1,a62,a0,a63,a64,a65,a0,a1,a66,a0,a67,a68,a69,a0,a1,a70,a0,a71,a72,a73]
 def t0:=qB 20 (RV P)
noncomputable def s0(w:aj)(os:ay):SharedT:=⟨t0 w.params,123,life,(Array.mk []),(Drawn.mk 0 0 0 0),349,os⟩
noncomputable def kI:List au:=(bd.drop 0).take 18
set_option maxHeartbeats 0 in
theorem K0(w:aj)(os:ay):segRun treeTable p w m0 ann 1 1483 (sb w os).abs (piecesOf kI env cd (Pos.mk 0 0 0 0) fr)=aD (.next,(s0 w os).abs,cd,(Pos.mk 36 0 36 9)):=vp (by kernel_rfl)
 def K7:=(RT P++[(E P "look_at_board" 362 (R 129)),(E P "is_leans" 370 (R 136)),(E P "look_at_leans" 378 (R 143)),(E P "is_row" 387 (R 150)),(E P "is_board_but_for_places" 399 (R 157)),(E P "are_rows" 408 (R 164)),(E P "are_doors" 418 (R 171)),(E P "is_door" 428 (R 178)),(E P "is_feeder_or_none" 436 (R 185)),(E P "may_stand" 446 (R 192)),(E P "is_rocker" 456 (R 199)),(E P "are_leans" 464 (R 206)),(E P "LEFT" 469 (I (-1) 468)),(E P "STRAIGHT" 471 (I 0 470)),(E P "RIGHT" 473 (I 1 472)),(E P "NO_DOOR" 474 (R 207)),(E P "heading_behind" 487 (R 215)),(E P "MOST_BALLS_AT_ONCE" 491 (I 200 490)),(E P "MOST_BEAT" 493 (I 100 492)),(E P "at_once" 499 (R 220)),(E P "passings" 505 (R 225)),(E P "_law_cell" 515 (R 232)),(E P "_law_mixed" 525 (R 239)),(E P "_law_deck" 531 (R 244)),(E P "_law_take" 540 (R 251)),(E P "_law_piece" 552 (R 258)),(E P "_law_row" 558 (R 263)),(E P "_law_door" 568 (R 270)),(E P "_law_leans" 574 (R 275)),(E P "_law_is" 582 (R 282)),(E P "_law_are" 588 (R 287)),(E P "_law_met" 598 (R 294)),(E P "_law_at_once" 604 (R 299)),(E P "_law_is_name" 612 (R 306)),(E P "_law_is_told" 618 (R 311)),(E P "_law_far" 624 (R 316)),(E P "_law_narrow" 630 (R 321)),(E P "_law_balls" 636 (R 326)),(E P "law" 651 (R 333))])
 def a74:=Y "dict" (Data.dict ((E P "__name__" 165 (U "law_ballrockers_k73_at_once_far" 506))::K7 P).toArray 63)
 def K9:List (Int×Nat):=RU++[(37,128),(45,135),(48,142),(51,149),(53,156),(62,163),(69,170),(76,177),(81,184),(83,191),(91,198),(96,205),(103,214),(120,219),(137,224),(140,231),(144,238),(147,243),(149,250),(158,257),(170,262),(172,269),(178,274),(180,281),(182,286),(186,293),(194,298),(211,305),(215,310),(221,315),(225,320),(228,325),(232,332)]
 def a75:=X (A (qJ K9).toArray)
 def a76:=qT 352 ["board","width","groups","rows","row","places","column","piece"]
 def a77:=qG "look_at_board" 18
 def a78:=qC "look_at_board" 349 37 1 123 360
 def gW:=U "ballrockers.boards" 337
 def a79:=qF "look_at_board" 18 gW 128
 def a80:=qT 366 ["board","thing"]
 def a81:=qG "is_leans" 19
 def a82:=qC "is_leans" 363 45 2 130 368
 def a83:=qF "is_leans" 19 gW 135
 def a84:=qT 374 ["board","thing"]
 def a85:=qG "look_at_leans" 20
 def a86:=qC "look_at_leans" 371 48 2 137 376
 def a87:=qF "look_at_leans" 20 gW 142
 def a88:=qT 382 ["thing","feeders","most"]
 def a89:=qG "is_row" 21
 def a90:=qC "is_row" 379 51 3 144 385
 def a91:=qF "is_row" 21 gW 149
 def a92:=qT 391 ["board","width","groups","rows","feeders","doors"]
 def a93:=qG "is_board_but_for_places" 22
 def a94:=qC "is_board_but_for_places" 388 53 1 151 397
 def a95:=qF "is_board_but_for_places" 22 gW 156
 def a96:=qT 403 ["thing","width","places"]
 def a97:=qG "are_rows" 23
 def a98:=qC "are_rows" 400 62 2 158 406
 def a99:=qF "are_rows" 23 gW 163
 def La:=qT 412 ["thing","width","feeders","door"]
 def Lb:=qG "are_doors" 24
 def Lc:=qC "are_doors" 409 69 3 165 416
 def Ld:=qF "are_doors" 24 gW 170
 def Le:=qT 422 ["thing","feeders","name","call"]
 def Lf:=qG "is_door" 25
 def Lg:=qC "is_door" 419 76 2 172 426
 def Lh:=qF "is_door" 25 gW 177
 def Li:=qT 432 ["thing","feeders"]
 def Lj:=qG "is_feeder_or_none" 26
 def Lk:=qC "is_feeder_or_none" 429 81 2 179 434
 def Ll:=qF "is_feeder_or_none" 26 gW 184
 def Lm:=qT 440 ["piece","column","width","groups"]
 def Ln:=qG "may_stand" 27
 def Lo:=qC "may_stand" 437 83 4 186 444
 def Lp:=qF "may_stand" 27 gW 191
 def Lq:=qT 450 ["thing","groups","group","side"]
 def Lr:=qG "is_rocker" 28
 def Ls:=qC "is_rocker" 447 91 2 193 454
 def Lu:=qF "is_rocker" 28 gW 198
 def Lv:=qT 460 ["thing","groups"]
 def Lw:=qG "are_leans" 29
 def Lx:=qC "are_leans" 457 96 2 200 462
 def Ly:=qF "are_leans" 29 gW 205
 def Lz:=(Y "tuple" (Data.seq #[O,O] 0))
 def LA:=(Y "tuple" (Data.seq #[O] 0))
 def LB:=qT 478 ["piece","heading","leaning","fault","group","side","lean"]
 def LC:=qG "heading_behind" 35
 def LD:=qC "heading_behind" 475 103 4 209 485
 def LF:=(Y "function" (B (G "heading_behind" 35 3 [] (R 208) O O (U "ballrockers.ways" 465) aE (R 214) O 0)))
 def LG:=qG "at_once" 39
 def LH:=qD "at_once" 494 120 4 216 497
 def LI:=qF "at_once" 39 (U "ballrockers.beats" 488) 219
 def LJ:=qG "passings" 40
 def LK:=qD "passings" 500 137 3 221 503
 def LL:=qF "passings" 40 (U "ballrockers.beats" 488) 224
 def LM:=qT 511 ["_law_script","_law_k"]
 def LN:=qG "_law_cell" 42
 def LO:=qC "_law_cell" 508 140 2 226 513
 def dY:=U "law_ballrockers_k73_at_once_far" 506
 def LP:=qF "_law_cell" 42 dY 231
 def LQ:=qT 519 ["_law_script","_law_k","_law_many","_law_number"]
 def LR:=qG "_law_mixed" 43
 def LS:=qC "_law_mixed" 516 144 3 233 523
 def LU:=qF "_law_mixed" 43 dY 238
 def LV:=qG "_law_deck" 44
 def LW:=qD "_law_deck" 526 147 1 240 529
 def LY:=qF "_law_deck" 44 dY 243
 def LZ:=qT 535 ["_law_deck_here","_law_many","_law_cell_here"]
 def L1:=qG "_law_take" 45
 def L3:=qC "_law_take" 532 149 2 245 538
 def L4:=qF "_law_take" 45 dY 250
 def L5:=qT 544 ["_law_deck_here","_law_column","_law_width","_law_groups","_law_kind","_law_piece_here"]
 def L6:=qG "_law_piece" 46
 def L7:=qC "_law_piece" 541 158 4 252 550
 def L8:=qF "_law_piece" 46 dY 257
 def Ma:=qG "_law_row" 47
 def Mb:=qD "_law_row" 553 170 3 259 556
 def Mc:=qF "_law_row" 47 dY 262
 def Me:=qT 562 ["_law_deck_here","_law_feeders","_law_name","_law_call"]
 def Mf:=qG "_law_door" 48
 def Mh:=qC "_law_door" 559 172 2 264 566
 def Mi:=qF "_law_door" 48 dY 269
 def Mj:=qG "_law_leans" 49
 def Mk:=qD "_law_leans" 569 178 2 271 572
 def Ml:=qF "_law_leans" 49 dY 274
 def Mm:=qT 578 ["_law_found","_law_due"]
 def Mn:=qG "_law_is" 50
 def Mp:=qC "_law_is" 575 180 2 276 580
 def Mq:=qF "_law_is" 50 dY 281
 def Mr:=qG "_law_are" 51
 def Ms:=qD "_law_are" 583 182 2 283 586
 def Mu:=qF "_law_are" 51 dY 286
 def Mv:=qT 592 ["_law_piece_here","_law_leans_here","_law_came","_law_side"]
 def Mw:=qG "_law_met" 52
 def Mx:=qC "_law_met" 589 186 3 288 596
 def My:=qF "_law_met" 52 dY 293
 def Mz:=qG "_law_at_once" 53
 def MA:=qD "_law_at_once" 599 194 4 295 602
 def MB:=qF "_law_at_once" 53 dY 298
 def MC:=qT 608 ["_law_found","_law_due"]
 def MD:=qG "_law_is_name" 54
 def ME:=qC "_law_is_name" 605 211 2 300 610
 def MF:=qF "_law_is_name" 54 dY 305
 def MG:=qG "_law_is_told" 55
 def MJ:=qD "_law_is_told" 613 215 2 307 616
 def MK:=qF "_law_is_told" 55 dY 310
 def ML:=qG "_law_far" 56
 def MM:=qD "_law_far" 619 221 1 312 622
 def MN:=qF "_law_far" 56 dY 315
 def MO:=qG "_law_narrow" 57
 def MP:=qD "_law_narrow" 625 225 1 317 628
 def MQ:=qF "_law_narrow" 57 dY 320
 def MR:=qG "_law_balls" 58
 def MS:=qD "_law_balls" 631 228 2 322 634
 def MT:=qF "_law_balls" 58 dY 325
 def MU:=qT 640 ["_law_script","_law_deck_here","_law_boards","_law_asked","_law_beats","_law_board","_law_beat","_law_leans_here","_law_row_here"]
 def MV:=qG "law" 59
 def MW:=qC "law" 637 232 1 327 649
 def MX:=qF "law" 59 dY 332
 def MY:List Obj:=((RV P).set 3 (a74 P)).set 12 a75++[a0,a1,a76,a0,a77,a78,a79,a0,a1,a80,a0,a81,a82,a83,a0,a1,a84,a0,a85,a86,a87,a0,a1,a88,a0,a89,a90,a91,a0,a1,a92,a0,a93,a94,a95,a0,a1,a96,a0,a97,a98,a99,a0,a1,La,a0,Lb,Lc,Ld,a0,a1,Le,a0,Lf,Lg,Lh,a0,a1,Li,a0,Lj,Lk,Ll,a0,a1,Lm,a0,Ln,Lo,Lp,a0,a1,Lq,a0,Lr,Ls,Lu,a0,a1,Lv,a0,Lw,Lx,Ly,Lz,LA,a0,a1,LB,a0,LC,LD,LF,a0,a1,LG,LH,LI,a0,a1,LJ,LK,LL,a0,a1,LM,a0,LN,LO,LP,a0,a1,LQ,a0,LR,LS,LU,a0,a1,LV,LW,LY,a0,a1,LZ,a0,L1,L3,L4,a0,a1,L5,a0,L6,L7,L8,a0,a1,Ma,Mb,Mc,a0,a1,Me,a0,Mf,Mh,Mi,a0,a1,Mj,Mk,Ml,a0,a1,Mm,a0,Mn,Mp,Mq,a0,a1,Mr,Ms,Mu,a0,a1,Mv,a0,Mw,Mx,My,a0,a1,Mz,MA,MB,a0,a1,MC,a0,MD,ME,MF,a0,a1,MG,MJ,MK,a0,a1,ML,MM,MN,a0,a1,MO,MP,MQ,a0,a1,MR,MS,MT,a0,a1,MU,a0,MV,MW,MX]
 def t1:=qB 20 (MY P)
noncomputable def s1(w:aj)(os:ay):SharedT:=⟨t1 w.params,334,life,(Array.mk []),(Drawn.mk 0 0 0 0),652,os⟩
noncomputable def st1:List au:=(bd.drop 18).take 42
set_option maxHeartbeats 0 in
theorem MZ(w:aj)(os:ay):segRun treeTable p w m0 ann 1 1078 (s0 w os).abs (piecesOf st1 env cd (Pos.mk 36 0 36 9) fr)=aD (.next,(s1 w os).abs,cd,(Pos.mk 232 0 245 15)):=vp (by kernel_rfl)
 def hz:aB:=Heap.mk (Array.mk (MY P)) (Life.mk [] [] [] 0 [] [] false #[] [] 0 false false false 0 [2000,10,10] false 0 true [] [] 0 false)
noncomputable def sz(w:aj)(os:ay):af:=⟨hz w.params,(Array.mk []),(Drawn.mk 0 0 0 0),652,os⟩
set_option maxHeartbeats 0 in
theorem fin(w:aj)(os:ay):topRun treeTable p w m0 ann 2 (s1 w os).abs ⟨doneF .next,cd,(Pos.mk 232 0 245 15),fr⟩=aD (sz w os):=De (by kernel_rfl)
 def as:List ah:=[2,3,15,22,23,24,25,28,35,36,37,40,47,49,50,52,53,54,55,56,59,66,67,68,71,78,79,80,83,90,91,92,95,97,98,100,101,102,104,105,107,108,109,111,112,114,115,116,118,119,121,122,123,125,126,128,129,130,132,133,135,136,137,139,140,142,143,144,146,147,149,150,151,153,154,156,157,158,160,161,163,164,165,167,168,170,171,172,174,175,177,178,179,181,182,184,185,186,188,189,191,192,193,195,196,198,199,200,202,203,205,206,207,208,209,211,212,214,215,216,219,220,221,224,225,226,228,229,231,232,233,235,236,238,239,240,243,244,245,247,248,250,251,252,254,255,257,258,259,262,263,264,266,267,269,270,271,274,275,276,278,279,281,282,283,286,287,288,290,291,293,294,295,298,299,300,302,303,305,306,307,310,311,312,315,316,317,320,321,322,325,326,327,329,330,332,333]
 def K:Frag:=as.map λi=>(i,(MY P).getD i a0)
noncomputable def M0:Nat:=(12+ (1+ (1483+ (1078+2))))
theorem Dg:bd=kI++(st1++([])):=by kernel_rfl
theorem rest(w:aj)(os:ay):topRun treeTable p w m0 ann (1483+ (1078+ (2))) (sb w os).abs (restOf bd env cd (Pos.mk 0 0 0 0) fr)=aD (sz w os):=by rw[show restOf bd env cd (Pos.mk 0 0 0 0) fr=restOf (kI++(st1++([]))) env cd (Pos.mk 0 0 0 0) fr from jF (λb=>restOf b env cd (Pos.mk 0 0 0 0) fr) Dg];exact(piece_app (K0 w os) (piece_app (MZ w os) (piece_nil (fin w os))))
theorem run(w:aj)(os:ay):topRun treeTable p w m0 ann M0 ⟨boot_heap w.params,Array.mk [],boot_drawn,boot_toks,os⟩ (topStub p)=aD (sz w os):=
 go_top (pre w os) (piece_block (block w os) (rest w os))
noncomputable def pW:Nat:=59
noncomputable def zxy:Pos:=(Pos.mk 232 0 245 15)
noncomputable def q:ai:={p with main:={p.main with body:=keep.map (xY p.main.body)}}
theorem Dh:∀P,as=(K P).map (·.1):=λ_=>by kernel_rfl
noncomputable def H:Hook:=kHook K as Dh
noncomputable def Xt(s:af):Bool:=xlAt q [] s&&recOk [] s
theorem zxz(w:aj)(os:ay):(staticsOk (importedModules p.main.body) (boot_heap w.params) (hz w.params)&&namesBound p (hz w.params)&&gensDone (sz w os)&&laidKept (boot_heap w.params) (hz w.params))=true:=by rw[PySem.W.Fast.te5923862056798008813];kernel_rfl
theorem zx0(w:aj)(os:ay):seen ((recsOf q).map (·.name)) (ownsOf q) [] {sz w os with gens:=#[]}=expectedOf q:=by rw[PySem.W.Fast.te5160383126252970620,PySem.W.R.mapR_eq,PySem.W.Fast.te3399658132070893891,PySem.W.Fast.te5991557255702980513];kernel_rfl
theorem Di(w:aj)(os:ay):(sz w os).heap.bltView=bltViewBooted:=by kernel_rfl
theorem zx1(w:aj)(os:ay):((sz w os).heap.keysOk (looseW q lo) ((recsOf q).map (·.name)) ((litsOf q).map (·.1)) ((clssOf q (looseW q lo)).map (·.name))&& (sz w os).heap.accountedOkI (importedModules p.main.body)&& (sz w os).heap.isNs mainGlobals&& (sz w os).heap.isNs builtinsNs&&tablesOk q (sz w os).heap&&Xt (sz w os)&& (if true=true then(sz w os).gens.size==0 else !leftWithCleanup (sz w os).gens))=true:=by rw[PySem.W.Fast.te10880121769531294198,PySem.W.Fast.te821141287760084731,PySem.W.R.mapR_eq,PySem.W.Fast.te3399658132070893891,PySem.W.Fast.te7409074990110511671,PySem.W.Fast.te13664370479719496447,PySem.W.Fast.te14722251495701143533,PySem.W.Fast.te10994771534591457954,PySem.W.Fast.te5923862056798008813];kernel_rfl
theorem zx2(w:aj)(os:ay):tabsOk q (sz w os)=true:=by rw[PySem.W.Fast.te479339242167458305];kernel_rfl
theorem Dj(w:aj)(os:ay):pinSeenD q (drecsOf q) (sz w os)=pinGoodD (drecsOf q):=by rw[PySem.W.Fast.te16090120013241838585,PySem.W.Fast.te3247288618530077131];kernel_rfl
theorem Dl(w:aj)(os:ay):plainSeenE q (looseW q lo) (sz w os)=plainGoodE q (looseW q lo):=by rw[PySem.W.Fast.te2386780881361962483,PySem.W.Fast.te821141287760084731];kernel_rfl
theorem Dm(w:aj)(os:ay):plainSeenD q lo (sz w os)=plainGoodD q lo:=by rw[PySem.W.Fast.te11698064438423848299];kernel_rfl
theorem zx3(w:aj)(os:ay):wideSeen q (sz w os)=wideGood q:=by rw[PySem.W.Fast.te7317090234206586261];kernel_rfl
theorem Dn(w:aj)(os:ay):clsSeenW q lo (sz w os)=clsGoodW q lo:=by rw[PySem.W.Fast.te7369524293546568484];kernel_rfl
theorem zx4(w:aj)(os:ay):as.map (sz w os).heap.get?=(K w.params).map λp=>aD p.2:=by kernel_rfl
theorem left:LeftO p q lo Xt (Hook.obs H) (Hook.val H) N0 true:=
 LeftO.of_pieces (H₀:=boot_heap) (H₁:=hz) (boot_open (by kernel_rfl) (by kernel_rfl) (λs=>by kernel_rfl)) (λw=>by kernel_rfl) run (by kernel_rfl)
  (λw=>funext λos=>looks_pair (zxz w os) (looks_pair
    (looks_pair (zx0 w os) (looks_pair (Di w os) (looks_pair (zx1 w os) (looks_pair (zx2 w os) (looks_pair (Dj w os) (looks_pair (Dl w os) (looks_pair (Dm w os) (looks_pair (zx3 w os) (Dn w os)))))))))
    (zx4 w os)))
noncomputable def df:DefRec:=⟨S "law",fa pW,fb pW,fs pW,zxy⟩
theorem Dp:defOf q (S "law")=aD (df,[]):=by kernel_rfl
theorem holds(l:OpenLaw)(hp:l.prog=p)(hn:l.name=S "law")(ok:l.wellSaid)(hch:(chainsOk q&&opensWell p&& (frees l.row.toRowW&&l.row.within.isEmpty)))(hb:l.row.toRowW.prog.bare)(hw:l.row.toRowW.promised)
 (hwr:(!l.row.writes||l.row.records.isEmpty)) (hk:p.theDef (S "law")=aD (df.params,df.body,df.scope)) (hkw:kwWritten? df.params.kwonlyargs df.params.kw_defaults=aD [])
 (call:WalkO q lo (XL q []) (Hook.says H) l.row.toRowW df [] λf vs=>PySem.call f vs):l.Holds:=
 holds_law ok λsaid=>PySem.W.holds_open (q:=q) (loose:=lo) (Xt:=Xt) (XP:=XL q []) (Yf:=Hook.obs H) (Ya:=Hook.val H) (YP:=Hook.says H) (N:=N0) (r:=l.row) (by have h:l.row.toRowW.prog=p:=hp;show LeftO l.row.toRowW.prog q lo Xt (Hook.obs H) (Hook.val H) N0 true;rw[h];exact left) (Hook.of H) (Hook.keeps H) (λs e=>xl_of s (Bool.and_eq_true_iff.mp e).1) XL.keeps
  (by show defOf q l.name=_;rw[hn];exact Dp) (by show l.prog.theDef l.name=_;rw[hp,hn];exact hk) hkw (λs e=>recFacts_of (Bool.and_eq_true_iff.mp e).2) hwr said (by have h:l.row.toRowW.prog=p:=hp;rw[h];exact hch) hb hw call
end
end
end HD
namespace RF
noncomputable def RW:List PySem.Str:=(["is_whole","is_whole_within","_law_cell","_law_deck","_law_mixed","_law_take","is_tuple_within","are_wholes_within","are_doors","are_rows","is_board_but_for_places","is_door","is_feeder_or_none","is_rocker","look_at_board","may_stand"]++bD 1 "" ++ ["are_leans"]++bD 2 "" ++ ["_law_leans"]++bD 1 "" ++ ["is_leans","_law_door","look_at_leans"]++bD 3 "" ++ ["is_row"]++bD 74 "" ++ ["_law_piece","_law_row"]++bD 2 "" ++ ["passings"]++bD 32 "" ++ ["_law_are"]++bD 1 "" ++ ["_law_at_once"]++bD 8 "" ++ ["_law_is"]++bD 1 "" ++ ["_law_is_name"]++bD 2 "" ++ ["_law_is_told"]++bD 1 "" ++ ["_law_met"]++bD 14 "" ++ ["heading_behind"]++bD 96 "" ++ ["at_once"]++bD 429 "" ++ ["_law_balls","_law_far","_law_narrow","law"]).map bw
noncomputable def RX:List Fn:=[Fi,Jy,Fj,Cy,Jz,sG,CA,CB,JA,JB,xq,sH,xr,sI,xu,xw]++bD 1 fM++[sJ]++bD 2 fM++[pF]++bD 1 fM++[pG,xx,sL]++bD 3 fM++[sM]++bD 74 fM++[j9,l9]++bD 2 fM++[mw]++bD 32 fM++[jb]++bD 1 fM++[pH]++bD 8 fM++[iG]++bD 1 fM++[je]++bD 2 fM++[kc]++bD 1 fM++[fX]++bD 14 fM++[dN]++bD 96 fM++[mq]++bD 429 fM++[FF,FG,FH,FJ]
theorem c73:KR λi=>RX[i]?:=by repeat' (first|rfl|constructor)
end RF
set_option maxHeartbeats 0 in
theorem RF.M1(P:PySem.Params):RF.ja (HD.K P) RF.RW 60 60=aD RF.RX:=by kernel_rfl
open PySem PySem.W PyProof.Rows
set_option maxRecDepth 100000 in
set_option maxHeartbeats 0 in
theorem PySem.Challenge.cw_ballrockers_k73_at_once_far_holds : PySem.Challenge.rw_ballrockers_k73_at_once_far.Holds := by
 refine HD.holds _ rfl rfl RF.pa73 (by kernel_rfl) ⟨rfl,rfl,rfl,rfl,rfl,by decide +kernel⟩ ?hw rfl (by kernel_rfl) (by kernel_rfl) ?call
 (case hw=>w_witness2)
 refine RF.Zs RF.RW 60 60 30 703 rfl (by kernel_rfl) ⟨rfl,by decide,by decide⟩ (λw h Y=>PySem.W.kIn_of Y) (by kernel_rfl) (by decide +kernel) ?b ?c
 (case c=>intro w;kernel_rfl)
 (case b=>
   intro w ns hl
   exact RF.Zr (RF.M1 _) (RF.Dc RF.c73 hl))
