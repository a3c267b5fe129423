import PyProof.Rows.All
import Wide.All
import OpenK.AllK
import Wide.FinOn
import Lean
import PyProof.EqAt
import PyProof.EqKinds
import PyProof.TupleCall
import KE.KUnpack
import KE.KSortTup
import PySem.Challenge.RW_ballrockers_k71_at_once
set_option Elab.async false
set_option linter.all false
set_option genSizeOf false
set_option bootstrap.genMatcherCode false
set_option compiler.extract_closed false
set_option maxRecDepth 100000
set_option maxHeartbeats 0 in
theorem RF.pa71:PySem.Challenge.rw_ballrockers_k71_at_once.wellSaid=true:=by kernel_rfl
def fL:=@decide_eq_true_eq
def iE:=@decide_eq_false
def kD:=@of_decide_eq_true
def b9:=@if_true
def dB:=@if_false
def kE:=@decide_eq_true
def u5:=@decide_eq_false_iff_not
def kF:=@congrArg
def C6:=@beq_eq_false_iff_ne
def C7:=@decide_true
open PySem renaming wpAny_bind->aL,wpAny_pure->bz,wpAny_mono->gf,wpAny_truthy_bool->qo,wpAny_standAt->nq,wpAny_field->kG,wpAny_callSpecial?_slot->xH,wpAny_newObj_type->tK,wpAny_holding->nF,wpAny_pyIter_tuple->u6,wpAny_rule->kH,wpAny_call_entry->u7,wpAny_setField_rec->xJ,wpAny_seqItems->tL,wpAny_passesOwn->u9,wpAny_pyIter_list->xK,wpAny_comprehension_free->C8,mem_of_lookup->yO,noFill_tuple_add->yP,call_meets->qp,wpAny_Call_Name_kw->C9,seq_tuple_add->yQ,sizeLine_eq->yR,wpAny_onRaise->Dc,wpAny_typeOf->Dd,seqIndex_neg->De,wpAny_ite->xM,seqIndex_of->Df
open Nat renaming le_refl->aQ,lt_of_lt_of_le->dN,le_of_ble_eq_true->j8,ne_of_lt->fP,zero_le->gh,lt_succ_self->jA,le_trans->gZ,lt_irrefl->i8,lt_succ_of_lt->qq,not_lt->jB,ne_of_gt->nt,zero_add->nu,eq_of_beq_eq_true->yS,le_of_lt->tM,lt_of_succ_lt->yT,le_succ_of_le->yU,le_succ->tN,add_sub_cancel->vec,le_of_succ_le->Dg,ble_eq->tO,le_add_right->Dh,mul_le_mul->Di,add_assoc->Dj
open PySem.Heap renaming get?_push_of_some->ck,lt_size->cD,get?_push_size->iF,size_push->jC
open PySem renaming Value->aa,Shared->af,Addr->ah,Program->ai,World->ak,Around->ao,Expr->aq,Stmt->au,FuncData->av,OsState->ay,Scope->az,Heap->aA,PyData->aB
open Option renaming some->aC,none->aD
open PySem.W renaming Frag->aI
open PySem.Str renaming ofString->br
open List renaming replicate->bE
open Bool renaming and_eq_true->bG,false_eq_true->dS,not_eq_true'->tP,or_eq_true->qt,false_ne_true->yV,false_and->yW
open List renaming length_map->bA,getElem?_eq_getElem->eN,size_toArray->cC,mem_cons_of_mem->dU,length_append->eZ,mem_cons_self->fM,mem_append_right->g6,length_cons->fB,getElem?_map->gp,getElem?_eq_some_iff->jD,lookup_cons->gx,mem_of_getElem?->i9,getElem_mem->iG,mem_cons->gy,map_cons->gQ,getElem?_eq_none_iff->nG,append_assoc->j9,getElem?_set_self->nH,getElem?_append_right->qw,getElem?_eq_none->nI,length_drop->kI,pairwise_append->nJ,getD_eq_getElem?_getD->tQ,length_take->k7,getElem?_append_left->tR,replicate_succ->nK,drop_eq_getElem_cons->tS,mem_map->jv,mem_append->lZ,all_eq_true->nv,pairwise_iff_getElem->vc,mem_singleton->pS,zip_cons_cons->pT,append_nil->ny,getElem?_cons_succ->ve,find?_cons->qx,getElem?_set_ne->xN,flatten_cons->vf,length_range->vg,filterMap_cons->xO,map_append->tT,all_cons->qy,mem_range->tU,mem_append_left->yX,mem_of_mem_take->yY,nodup_cons->vh,length_set->vj,getElem_of_mem->yZ,getElem?_cons_zero->Dl,forIn_nil->vm,drop_eq_nil_of_le->Dm,length_singleton->Dn,nil_append->xP,perm_append_comm->Dp,take_length->y9,map_set->vn,forIn_cons->zc,set_cons_zero->Dq,map_nil->xQ,map_map->xR,not_mem_nil->Dr,drop_length->Ds,cons_append->Dt,any_cons->zd,foldl_cons->Du,length_nil->Dv
open PyProof.Rows renaming wpS_bind->aX,wpS_pure->bw,callWith_type1->vp,slot_tuple_getitem->xS,wpS_forRange->jE,wpS_mono->jF,wpS_get->nM,wpS_modify->xT,listUpdate_at->Dw,wpS_lift->vq,seqEpoch_at->Dy
open Int renaming eq_ofNat_of_zero_le->k8,le_trans->kc,le_of_lt->nN,toNat_natCast->xU,not_lt->pU,emod_lt_of_pos->Dz,le_refl->xV,emod_nonneg->DA
open PySem.AutoSeq1 renaming wpAny_loadPart'->nO
open Array renaming getElem?_eq_getElem->pV,getD_eq_getD_getElem?->xW,getElem?_toList->vt,length_toList->vv
open Option.some renaming inj->l8
open PySem.W renaming kia_one->l9
open Ne renaming symm->eT
open PySem.W.Fast renaming te14364793385576792824->DB
open List.Perm renaming append_left->vcs,refl->qz,append->DC
open PySem.F renaming args_tuple_add_2->ze,entry_tuple_add->zf,slot_tuple_add->zg,slot_tuple_iterator_next->DE,slot_tuple_mul->zh,slot_zip_next->DF
open Option renaming map_some->vz,getD_some->zk
open PySem.SeqAt renaming canLay_of_shaped->DG
open Array.Perm renaming refl->xX
open LawfulMonad renaming pure_bind->qA
open PySem.Paired renaming length->DH
namespace L2
theorem aR1(h:True:=by rfl):True:=h
theorem aD1(h:True:=by decide):True:=h
theorem aF1(h:True:=by first|exact .inl rfl|exact .inr rfl|assumption):True:=h
end L2
namespace L2
open PySem PySem.Spec PyProof.Rows
noncomputable abbrev Key:=Sum Int Str
noncomputable def iN:Key->aa->Bool|.inl k,v=>Value.isInt k v|.inr x,v=>Value.isStrOf x v
noncomputable def F1(w:ak):Key->Int|.inl k=>hashInt k|.inr x=>hashStr w x
theorem qH:∀{k:Key} {v:aa},iN k v=true->(∃i t,k=Sum.inl i/\v=Value.int i t)\/(∃x t,k=Sum.inr x/\v=Value.str x t)
 |.inl i,v,h=>by
  obtain⟨t,e⟩:=Value.isInt_shape (k:=i) (v:=v) h;exact .inl ⟨i,t,rfl,e⟩
 |.inr x,v,h=>by
  obtain⟨t,e⟩:=Value.isStrOf_shape (x:=x) (v:=v) h;exact .inr ⟨x,t,rfl,e⟩
theorem Ru(i:Int)(t:Tok):iN (.inl i) (.int i t)=true:=by simp[iN,Value.isInt]
theorem Rv(x:Str)(t:Tok):iN (.inr x) (.str x t)=true:=by simp[iN,Value.isStrOf]
theorem Rw(a b:Int):decide ((Sum.inl a:Key)=Sum.inl b)=(a==b):=by by_cases e:a=b;subst e;simp;have h:¬(Sum.inl a:Key)=Sum.inl b:=λq=>e (Sum.inl.inj q);rw[iE h];exact(C6.mpr e).symm
theorem Rx(a b:Str):decide ((Sum.inr a:Key)=Sum.inr b)=decide (a=b):=by by_cases e:a=b;subst e;simp;have h:¬(Sum.inr a:Key)=Sum.inr b:=λq=>e (Sum.inr.inj q);rw[iE h,iE e]
theorem Ry(a:Int)(b:Str):decide ((Sum.inl a:Key)=Sum.inr b)=false:=iE (λq=>nomatch q)
theorem Rz(a:Str)(b:Int):decide ((Sum.inr a:Key)=Sum.inl b)=false:=iE (λq=>nomatch q)
noncomputable def kg(prog:ai)(w:ak):PySem.KeyKind prog w Key where
 is:=iN
 hash:=F1 w
 inj:=λv a b ha hb=>by
  rcases qH ha with⟨i,t,rfl,rfl⟩|⟨x,t,rfl,rfl⟩
  .rcases qH hb with⟨j,u,rfl,e⟩|⟨y,u,rfl,e⟩
   .injection e with e1 _;rw[e1]
   .exact nomatch e
  .rcases qH hb with⟨j,u,rfl,e⟩|⟨y,u,rfl,e⟩
   .exact nomatch e
   .injection e with e1 _;rw[e1]
 byValue:=λk v h=>by
  rcases qH h with⟨i,t,rfl,rfl⟩|⟨x,t,rfl,rfl⟩<;>rfl
 pyHash:=λhv h=>by
  rcases qH hv with⟨i,t,rfl,rfl⟩|⟨x,t,rfl,rfl⟩
  .exact wpAny_pyHash_int h
  .exact wpAny_pyHash_str h
 eqBool:=λhu hv h=>by
  rcases qH hu with⟨i,t,rfl,rfl⟩|⟨x,t,rfl,rfl⟩
  .rcases qH hv with⟨j,u,rfl,rfl⟩|⟨y,u,rfl,rfl⟩
   .rw[Rw]at h;exact wpAny_eqBool_int h
   .rw[Ry]at h;exact SeqAt.EqAt.int_str i t y u _ _ _ _ h
  .rcases qH hv with⟨j,u,rfl,rfl⟩|⟨y,u,rfl,rfl⟩
   .rw[Rz]at h;exact SeqAt.EqAt.str_int x t j u _ _ _ _ h
   .rw[Rx]at h;exact wpAny_eqBool_str h
 «strs»:=λk x t v h=>by
  rcases qH h with⟨i,u,rfl,e⟩|⟨y,u,rfl,e⟩
  .exact nomatch e
  .injection e with e1 _
   subst e1
   cases v<;>rfl
theorem RA(prog:ai)(w:ak)(i:Int)(t:Tok):(kg prog w).is (.inl i) (.int i t)=true:=Ru i t
theorem RB(prog:ai)(w:ak)(x:Str)(t:Tok):(kg prog w).is (.inr x) (.str x t)=true:=Rv x t
inductive V where
 |aO|bl (b:Bool)|int (i:Int)|str (x:Str)|zl (b:Array UInt8)|xY (b:UInt64)|ref (a:ah)|ty (n:String)
 deriving DecidableEq
noncomputable def RelV:V->aa->Prop|.aO,u=>u=Value.none|.bl b,u=>u=Value.bool b|.int i,u=>∃t,u=Value.int i t|.str x,u=>∃t,u=Value.str x t|.zl b,u=>∃t,u=Value.bytes b t|.xY b,u=>∃t,u=Value.float b t|.ref a,u=>u=Value.ref a|.ty n,u=>u=Value.type n
noncomputable abbrev Vals:List V->List aa->Prop:=Paired RelV
theorem Vals.length{xs:List V}{us:List aa}(r:Vals xs us):xs.length=us.length:=DH r
theorem Vals.get:∀{xs:List V} {us:List aa} {i:Nat} {x:V},Vals xs us->xs[i]?=aC x->∃u,us[i]?=aC u/\RelV x u
 |_,_,_,_,.nil,e=>by simp at e
 |_,_,0,_,.cons r _,e=>by simp at e;subst e;exact⟨_,rfl,r⟩
 |_,_,i+1,x,.cons _ t,e=>by
  obtain⟨u,h1,h2⟩:=Vals.get (i:=i) (x:=x) t (by simpa using e);exact⟨u,by simpa using h1,h2⟩
theorem Vals.set{x:V}{u:aa}(r:RelV x u):∀{xs:List V} {us:List aa} (i:Nat),Vals xs us->Vals (xs.set i x) (us.set i u)|_,_,_,.nil=>.nil|_,_,0,.cons _ t=>.cons r t|_,_,i+1,.cons q t=>.cons q (Vals.set r i t)
theorem Vals.append:∀{xs ys:List V} {us ws:List aa},Vals xs us->Vals ys ws->Vals (xs++ys) (us++ws)|_,_,_,_,.nil,s=>s|_,_,_,_,.cons r t,s=>.cons r (Vals.append t s)
theorem Vals.take:∀{xs:List V} {us:List aa} (n:Nat),Vals xs us->Vals (xs.take n) (us.take n)|_,_,0,_=>.nil|_,_,_+1,.nil=>.nil|_,_,n+1,.cons r t=>.cons r (Vals.take n t)
theorem Vals.drop:∀{xs:List V} {us:List aa} (n:Nat),Vals xs us->Vals (xs.drop n) (us.drop n)|_,_,0,r=>r|_,_,_+1,.nil=>.nil|_,_,n+1,.cons _ t=>Vals.drop n t
noncomputable def ic:Option V->Option aa->Prop|some v,aC u=>RelV v u|none,aD=>True|_,_=>False
noncomputable def KV{κ:Type}:List (κ×V)->List (κ×aa)->Prop:=Paired λ(p:κ×V) (q:κ×aa)=>p.1=q.1/\RelV p.2 q.2
noncomputable def kV:Key->V|.inl i=>.int i|.inr x=>.str x
inductive HO where
 /-- a list -/
 |lst (xs:List V)
 /-- a tuple (never changes) -/
 |tup (xs:List V)
 /-- a dict zm keys are ints and texts;one zm keys are tuples of ints and texts (xZ empty one is both) -/
 |dK (kvs:List (Key×V))|dT (kvs:List (List Key×V))
 /-- a set of ints: its members,its size -/
 |set (S:Int->Bool) (n:Nat)
 /-- an instance of xZ class at C,its dict at dx,its attributes -/
 |ins (C dx:ah) (fs:List (Str×V))
 /-- xZ dict of xZ instance at x -/
 |own (x:ah)
 /-- xZ dict of an exception -/
 |xd (fs:List (Str×V))
 /-- a bound method,f of x -/
 |met (f x:ah)
 /-- a range object lo,lo+1,.. below hi -/
 |F2 (lo hi:Int)
 /-- a thing RC is known to xZ object (xZ script;a dict while a loop walks it): read,never written while it is so -/
 |bI (o:Obj) (u:HO)
 /-- a code zo table -/
 |vA (ps:Array aa)
 /-- any other thing,by what is true of its one object (a def of MC own: RD a S n:=HO.ext λh=>..) -/
 |ext (φ:aA->Prop)
noncomputable abbrev Hp:=ah->Option HO
noncomputable def upd(H:Hp)(a:ah)(o:HO):Hp:=λb=>if b=a then aC o else H b
theorem ie{H:Hp}{a:ah}{o:HO}:upd H a o a=aC o:=by unfold upd;rw[if_pos rfl]
theorem bU{H:Hp}{a b:ah}{o:HO}(h:b≠a):upd H a o b=H b:=by unfold upd;rw[if_neg h]
theorem cM{H:Hp}{a b:ah}{o u:HO}(h:H a=aC o)(h':H b=aC u)(d:o≠u):a≠b:=by intro e;subst e;rw[h]at h';exact d (l8 h')
theorem gV{H:Hp}{a b:ah}{o:HO}(h:H a=aC o)(h':H b=aD):a≠b:=by intro e;subst e;rw[h]at h';cases h'
noncomputable def kJ(h:aA)(a:ah)(items:Array aa):Prop:=∃o,h.get? a=aC o/\o.cls=.type "tuple"/\(∃n,o.data=.seq items n)/\o.dict=aD
theorem kJ.tup{h:aA}{a:ah}{items:Array aa}(x:kJ h a items):IsTup h a items:=let⟨o,e,c,d,_⟩:=x;⟨o,e,c,d⟩
theorem kJ.lt{h:aA}{a:ah}{items:Array aa}(x:kJ h a items):a<h.objs.size:=x.tup.lt
theorem kJ.new(h:aA)(items:Array aa):kJ (h.push {cls:=.type "tuple",data:=.seq items}) h.objs.size items:=⟨_,iF _ rfl,rfl,⟨_,rfl⟩,rfl⟩
section
variable(P:ai)(w:ak)
noncomputable def aY(H:Hp)(h:aA)(a:ah):HO->Prop
 |.lst xs=>xs.length<=sizeLine/\∃(its:List aa) (n:Nat),Vals xs its/\h.get? a=aC {cls:=.type "list",data:=.seq its.toArray n}
 |.tup xs=>xs.length<=sizeLine/\∃its:List aa,Vals xs its/\kJ h a its.toArray
 |.dK kvs=>kvs.length<=sizeLine/\(a==sysModules)=false/\∃vs,KV kvs vs/\h.DictOf (kg P w) a vs
 |.dT kvs=>kvs.length<=sizeLine/\(a==sysModules)=false/\∃xs:List (List Key×ah×aa),
  Paired (λ(p:List Key×V)(q:List Key×ah×aa)=>p.1=q.1/\H q.2.1=aC (.tup (p.1.map kV))/\RelV p.2 q.2.2) kvs xs/\
  ∃o es ep,h.get? a=aC o/\o.ExactDict/\o.data=.dict es ep/\es.toList=xs.map (entryOfKey (tupleKind (kg P w)))/\(xs.map (·.1)).Nodup
 |.set S n=>h.SetOf (intKind P w) a S n
 |.ins C dx fs=>H dx=aC (.own a)/\fs.length<=1000/\dx≠a/\h.get? a=aC (PySem.W.instObj C dx)/\
  ∃mA,h.Ns1 dx mA/\(∀f,ic (fs.lookup f) (mA f))/\PySem.Within mA (fs.map (·.1))
 |.own _=>∃o,h.get? a=aC o
 |.xd fs=>∃mA,h.Ns1 a mA/\∀f,ic (fs.lookup f) (mA f)
 |.F2 lo hi=>∃t u v,h.get? a=aC {cls:=.type "range",data:=.fields #[.int lo t,.int hi u,.int 1 v]}
 |.bI o u=>h.get? a=aC o/\aY H h a u
 |.vA ps=>h.get? a=aC {cls:=.none,data:=.fields ps}
 |.met f x=>h.get? a=aC (PySem.W.methodObj (.ref f) (.ref x))
 |.ext φ=>φ h/\(∃o,h.get? a=aC o)/\∀h1 h2:aA,φ h1->(∀o,h1.get? a=aC o->h2.get? a=aC o)->φ h2
noncomputable def ff(H:Hp)(h:aA):Prop:=∀a o,H a=aC o->aY P w H h a o
end
section
variable{P:ai}{w:ak}{H H':Hp}{h h':aA}{a:ah}{o:HO}
theorem aY.lt(x:aY P w H h a o):a<h.objs.size:=by
 cases o with|lst xs=>obtain⟨_,_,_,_,e⟩:=x;exact cD e|tup xs=>obtain⟨_,_,_,p⟩:=x;exact p.lt|dK kvs=>obtain⟨_,_,_,_,o,_,_,e,_⟩:=x;exact cD e|dT kvs=>obtain⟨_,_,_,_,o,_,_,e,_⟩:=x;exact cD e|set S n=>obtain⟨o,_,_,_,e,_⟩:=x;exact cD e|ins C dx fs=>obtain⟨_,_,_,e,_⟩:=x;exact cD e|own y=>obtain⟨_,e⟩:=x;exact cD e|xd fs=>obtain⟨_,⟨_,_,_,e,_⟩,_⟩:=x;exact cD e|F2 lo hi=>obtain⟨_,_,_,e⟩:=x;exact cD e|bI ob u=>obtain⟨e,_⟩:=x;exact cD e|vA ps=>exact cD (show h.get? a=aC _ from x)|met f y=>exact cD (show h.get? a=aC _ from x)|ext φ=>obtain⟨_,⟨_,e⟩,_⟩:=x;exact cD e
theorem Paired.vB{α β:Type}{F G:α->β->Prop}:∀{l₁:List α} {l₂:List β},Paired F l₁ l₂->(∀a b,F a b->G a b)->Paired G l₁ l₂|_,_,.nil,_=>.nil|_,_,.cons r t,f=>.cons (f _ _ r) (Paired.vB t f)
theorem aY.stay(x:aY P w H h a o)(k:∀b u,(b=a\/H b=aC (.own a))->h.get? b=aC u->h'.get? b=aC u)
 (ho:∀b,H b=aC (.own a)->H' b=aC (.own a)) (ht:∀b xs,H b=aC (.tup xs)->H' b=aC (.tup xs)):aY P w H' h' a o:=by
 induction o with
 |lst xs=>obtain⟨z,its,n,r,e⟩:=x;exact⟨z,its,n,r,k _ _ (.inl rfl) e⟩
 |tup xs=>obtain⟨z,its,r,ob,e,c⟩:=x;exact⟨z,its,r,ob,k _ _ (.inl rfl) e,c⟩
 |dK kvs=>obtain⟨z,y,vs,r,ob,es,ep,e,c⟩:=x;exact⟨z,y,vs,r,ob,es,ep,k _ _ (.inl rfl) e,c⟩
 |dT kvs=>
  obtain⟨z,y,xs,r,ob,es,ep,e,c⟩:=x;exact⟨z,y,xs,Paired.vB r λp q z=>⟨z.1,ht _ _ z.2.1,z.2.2⟩,ob,es,ep,k _ _ (.inl rfl) e,c⟩
 |set S n=>obtain⟨ob,es,ep,t,e,c⟩:=x;exact⟨ob,es,ep,t,k _ _ (.inl rfl) e,c⟩
 |ins C dx fs=>
  obtain⟨d,z,ne,e,mA,⟨od,es,ep,e2,c⟩,r⟩:=x;exact⟨ho _ d,z,ne,k _ _ (.inl rfl) e,mA,⟨od,es,ep,k _ _ (.inr d) e2,c⟩,r⟩
 |own y=>obtain⟨ob,e⟩:=x;exact⟨ob,k _ _ (.inl rfl) e⟩
 |xd fs=>obtain⟨mA,⟨od,es,ep,e,c⟩,r⟩:=x;exact⟨mA,⟨od,es,ep,k _ _ (.inl rfl) e,c⟩,r⟩
 |F2 lo hi=>obtain⟨t,u,v,e⟩:=x;exact⟨t,u,v,k _ _ (.inl rfl) e⟩
 |bI ob u ih=>obtain⟨e,q⟩:=x;exact⟨k _ _ (.inl rfl) e,ih q⟩
 |vA ps=>
  have e:h.get? a=aC {cls:=.none,data:=.fields ps}:=x;show h'.get? a=aC {cls:=.none,data:=.fields ps};exact k a _ (.inl rfl) e
 |met f y=>
  have e:h.get? a=aC (PySem.W.methodObj (.ref f) (.ref y)):=x;show h'.get? a=aC (PySem.W.methodObj (.ref f) (.ref y));exact k a _ (.inl rfl) e
 |ext φ=>obtain⟨p,⟨o,e⟩,st⟩:=x;exact⟨st _ _ p λo q=>k _ _ (.inl rfl) q,⟨o,k _ _ (.inl rfl) e⟩,st⟩
theorem ff.lt(x:ff P w H h)(e:H a=aC o):a<h.objs.size:=(x a o e).lt
theorem ff.fresh(x:ff P w H h)(e:h.objs.size<=a):H a=aD:=by
 cases q:H a with|none=>rfl|some u=>exact absurd (dN (x.lt q) e) (i8 _)
theorem ff.kept(x:ff P w H h)(k:∀b u,h.get? b=aC u->h'.get? b=aC u):ff P w H h':=λa o e=>
 (x a o e).stay (λb u _ q=>k b u q) (λ_ q=>q) λ_ _ q=>q
theorem ff.laid(x:ff P w H h)(k:∀b u,h.get? b=aC u->h'.get? b=aC u)(hp:h.objs.size<=a)(new:aY P w (upd H a o) h' a o):ff P w (upd H a o) h':=λb u e=>by
 have hn:=x.fresh hp;by_cases hb:b=a;subst hb;rw[ie]at e;cases e;exact new;rw[bU hb]at e;exact(x b u e).stay (λc v _ q=>k c v q) (λc q=>by rw[bU (gV q hn)];exact q) λc xs q=>by rw[bU (gV q hn)];exact q
end
noncomputable def Rd(H:Hp)(a:ah)(u:HO):Prop:=H a=aC u\/∃o,H a=aC (.bI o u)
theorem Rd.ok{P:ai}{w:ak}{H:Hp}{h:aA}{a:ah}{u:HO}(r:Rd H a u)(x:ff P w H h):aY P w H h a u:=by rcases r with r|⟨o,r⟩;exact x a u r;obtain⟨_,q⟩:=x a _ r;exact q
noncomputable def zu:Option HO->Prop|some (.lst _)=>True|some (.dK _)=>True|some (.dT _)=>True|some (.set _ _)=>True|some (.ins _ _ _)=>True|some (.ext _)=>True|_=>False
section
variable{P:ai}{w:ak}{H:Hp}{h h':aA}{x e:ah}{o':HO}
theorem ff.write(ok:ff P w H h)(mu:zu (H x))(he:e=x\/H e=aC (.own x))(k:∀b u,b≠e->h.get? b=aC u->h'.get? b=aC u)(ya:∃u,h'.get? e=aC u)
 (new:aY P w (upd H x o') h' x o'):ff P w (upd H x o') h':=λb u q=>by
 have zw:∀c y,H c=aC (.own y)->c≠x:=λc y r z=>by subst z;rw[r]at mu;exact mu
 have F3:∀c xs,H c=aC (.tup xs)->c≠x:=λc xs r z=>by subst z;rw[r]at mu;exact mu
 by_cases hb:b=x;subst hb;rw[ie]at q;cases q;exact new;rw[bU hb]at q;by_cases vC:b=e;have q':H b=aC (.own x):=by rcases he with z|z;exact absurd (vC.trans z) hb;rw[vC];exact z
 rw[q]at q';cases q';obtain⟨v,hv⟩:=ya;exact⟨v,by rw[vC];exact hv⟩;refine(ok b u q).stay (λc v hc r=>k c v ?_ r) (λc r=>by rw[bU (zw c b r)];exact r) λc xs r=>by rw[bU (F3 c xs r)];exact r
 rcases hc with rfl|hc;exact vC;rintro rfl;rcases he with z|z;exact zw c b hc z;rw[hc]at z;cases z;exact hb rfl
end
structure Un(fs ex:List ah)(H H':Hp)(h h':aA):Prop where
 keep:∀b o,h.get? b=aC o->H b=aD->b∉fs->b∉ex->h'.get? b=aC o
 slot:∀b o,h.get? b=aC o->H b=aD->b∈fs->b∉ex->∃sl,h'.get? b=aC {o with slots:=sl}
 free:∀b o,h.get? b=aC o->H b=aD->b∉ex->H' b=aD
 there:∀b o,h.get? b=aC o->b∉ex->∃o',h'.get? b=aC o'
 tups:∀b xs,H b=aC (.tup xs)->H' b=aC (.tup xs)
 ig:∀b o u,H b=aC (.bI o u)->H' b=aC (.bI o u)
 iH:∀b ps,H b=aC (.vA ps)->∃more,H' b=aC (.vA (ps++more))
section
variable{fs fs' ex ex':List ah}{H H1 H2:Hp}{h h1 h2 h':aA}{a x e:ah}{o:HO}
theorem Un.any(u:Un fs ex H H1 h h1){b:ah}{ob:Obj}(q:h.get? b=aC ob)(n:H b=aD)(hx:b∉ex):∃sl,h1.get? b=aC {ob with slots:=sl}:=by by_cases hb:b∈fs;exact u.slot b ob q n hb hx;exact⟨ob.slots,u.keep b ob q n hb hx⟩
theorem Un.kept(k:∀b u,h.get? b=aC u->h'.get? b=aC u):Un fs ex H H h h':=
 ⟨λb ob q _ _ _=>k b ob q,λb ob q _ _ _=>⟨ob.slots,k b ob q⟩,λ_ _ _ n _=>n,λb ob q _=>⟨ob,k b ob q⟩,λ_ _ q=>q,λ_ _ _ q=>q,λ_ ps q=>⟨#[],by rw[q];simp⟩⟩
theorem Un.refl:Un fs ex H H h h:=Un.kept λ_ _ q=>q
theorem Un.laid(k:∀b u,h.get? b=aC u->h'.get? b=aC u)(hp:h.objs.size<=a)(hn:H a=aD):Un fs ex H (upd H a o) h h' where
 keep:=λb u q _ _ _=>k b u q
 slot:=λb u q _ _ _=>⟨u.slots,k b u q⟩
 free:=λb u q n _=>by rw[bU (fP (dN (cD q) hp))];exact n
 there:=λb u q _=>⟨u,k b u q⟩
 tups:=λb xs q=>by rw[bU (gV q hn)];exact q
 ig:=λb u xs q=>by rw[bU (gV q hn)];exact q
 iH:=λb ps q=>⟨#[],by rw[bU (gV q hn),q];simp⟩
theorem Un.write(mu:zu (H x))(he:e=x\/H e=aC (.own x))(k:∀b u,b≠e->h.get? b=aC u->h'.get? b=aC u)(ya:∃u,h'.get? e=aC u):Un fs ex H (upd H x o) h h':=by
 have hx:∀b,H b=aD->b≠x:=λb n z=>by subst z;rw[n]at mu;exact mu
 have hb:∀b,H b=aD->b≠e:=λb n z=>by
  subst z;rcases he with r|r
  exact hx b n r;rw[n]at r;cases r
 have hm:∀b u,H b=aC u->¬zu (aC u)->b≠x:=λb u q nm z=>by subst z;rw[q]at mu;exact nm mu
 refine⟨λb u q n _ _=>k b u (hb b n) q,λb u q n _ _=>⟨u.slots,k b u (hb b n) q⟩,λb u q n _=>by rw[bU (hx b n)];exact n,λb u q _=>?_,
  λb xs q=>by rw[bU (hm b _ q λz=>z)];exact q,λb u xs q=>by rw[bU (hm b _ q λz=>z)];exact q,λb ps q=>⟨#[],by rw[bU (hm b _ q λz=>z),q];simp⟩⟩
 by_cases vC:b=e;subst vC;exact ya;exact⟨u,k b u vC q⟩
end
noncomputable def DI(h:aA)(H:Hp):List ah:=(List.range h.objs.size).filter λa=>(H a).isSome
noncomputable def ja(h:aA)(H:Hp):aA:=PySem.W.hideAll h (DI h H)
theorem RE(h:aA)(H:Hp):(ja h H).objs.size=h.objs.size:=PySem.W.hideAll_size _ _
theorem RG{h:aA}{H:Hp}{b:ah}{o:Obj}(e:h.get? b=aC o)(n:H b=aD):(ja h H).get? b=aC o:=
 PySem.W.hideAll_get _ e λhm=>by
  have q:(H b).isSome=true:=(List.mem_filter.mp hm).2;rw[n]at q;simp at q
theorem RH{h:aA}{H:Hp}{b:ah}{o:Obj}(e:(ja h H).get? b=aC o):h.get? b=aC o/\H b=aD:=by
 have e':h.get? b=aC o:=PySem.W.of_hideAll (DI h H) e;refine⟨e',?_⟩;cases q:H b with
 |none=>rfl
 |some x=>
  have hm:b∈DI h H:=List.mem_filter.mpr ⟨tU.mpr (cD e'),by simp[q]⟩;have z:(ja h H).get? b=aD:=PySem.W.hideAll_none (DI h H) hm;rw[z]at e;cases e
structure Mod(K:aI)(mg:Str->Option aa)(base:aA):Prop where
 F4:K.In base
 glob:base.Ns mainGlobals mg
 blt:∃mb,base.Ns builtinsNs mb/\∀x:Str,x≠"__name__"->mb x=bootBuiltins x
 nolimit:base.NoLimit
set_option genInjectivity false in
structure Cx where
 prog:ai
 w:ak
 K:aI
 mg:Str->Option aa
 base:aA
 A:ao
 N:List Str
 s₀:af
 H₀:Hp
 env:Env
 outer:List Env
 stack:List Env
 ex:List ah
 fn:Str->Bool
 calm:Bool
 pn:List (ah×Obj)
 xe:aa->af->Prop
noncomputable def frs(l:List Env):List ah:=l.filterMap (·.frame)
noncomputable abbrev Cx.fs(X:Cx):List ah:=frs X.outer
noncomputable def yb(sc:az)(x:Str):Prop:=sc.names.lookup x=aC .local\/sc.names.lookup x=aC .cell\/sc.names.lookup x=aC .free
noncomputable def Loc(sc:az)(x:Str):Prop:=sc.names.lookup x=aC .local\/sc.names.lookup x=aC .cell
noncomputable def Look(env:Env)(h:aA)(m:Str->Option aa)(x:Str)(u:aa):Prop:=
 (env.kindOf x=aC .local/\m x=aC u)\/((env.kindOf x=aC .cell\/env.kindOf x=aC .free)/\∃c,env.cells.lookup x=aC c/\h.IsCell c (aC u))
structure Cx.Ok(X:Cx):Prop where
 mod:Mod X.K X.mg X.base
 kind:X.env.scope.kind=.function
 glob:X.env.globals=mainGlobals
 blt:X.env.builtins=builtinsNs
 above:X.s₀.heap.objs.size<=X.env.locals
 inj:∀x y c,X.env.cells.lookup x=aC c->X.env.cells.lookup y=aC c->x=y
 has:∀x,(X.env.kindOf x=aC .cell\/X.env.kindOf x=aC .free)->∃c,X.env.cells.lookup x=aC c
 zx:∀x c,X.fn x=true->X.env.cells.lookup x=aC c->X.s₀.heap.objs.size<=c
 hd:X.calm=true->X.A.handled=aD
 frames:X.A.frames=aC X.stack
 stk:X.stack=X.outer\/(X.stack=X.env::X.outer/\X.env.frame=aC X.env.locals)
 yc:∀b∈X.ex,b≠X.env.locals/\∀x c,X.env.cells.lookup x=aC c->c≠b
 bs:∀b o,X.base.get? b=aC o->X.s₀.heap.get? b=aC o/\X.H₀ b=aD
 vD:X.base.objs.size<=X.s₀.heap.objs.size
 nP:∀b o,X.base.get? b=aC o->b∉X.ex
 mh:∀b∈X.ex,b∉X.fs
 ir:X.s₀.heap.FunFrames X.base X.outer
 yd:∀b∈X.fs,X.H₀ b=aD
structure Inv(X:Cx)(pins:List (ah×Obj))(σ:List (Option V))(H:Hp)(s:af):Prop where
 ok:X.Ok
 os:s.os=X.s₀.os
 bare:AllBare s.gens
 base:Un X.fs X.ex X.H₀ H X.s₀.heap s.heap
 loc:∃m,s.heap.Ns X.env.locals m/\∀(i:Nat)(x:Str)(v:V),X.N[i]?=aC x->σ[i]?=aC (aC v)->yb X.env.scope x->∃u,RelV v u/\Look X.env s.heap m x u
 cell:∀x c,X.env.cells.lookup x=aC c->∃v,s.heap.IsCell c v
 free:H X.env.locals=aD
 fj:∀x c,X.env.cells.lookup x=aC c->H c=aD
 pin:∀p∈X.pn++pins,s.heap.get? p.1=aC p.2/\H p.1=aD/\p.1≠X.env.locals/\p.1∉X.fs/\∀v,p.2.data≠.cell v
 hok:ff X.prog X.w H s.heap
 len:σ.length=X.N.length
section
variable{X:Cx}{pins:List (ah×Obj)}{σ:List (Option V)}{H H':Hp}{s:af}{h':aA}
theorem Cx.Ok.F5(ok:X.Ok){b:ah}{o:Obj}(e:X.base.get? b=aC o):b∉X.fs:=λhb=>by
 have:=(ok.ir.mem hb).1;rw[e]at this;cases this
theorem Inv.bs(I:Inv X pins σ H s):∀b o,X.base.get? b=aC o->s.heap.get? b=aC o/\H b=aD:=λb o e=>
 ⟨I.base.keep b o (I.ok.bs b o e).1 (I.ok.bs b o e).2 (I.ok.F5 e) (I.ok.nP b o e),I.base.free b o (I.ok.bs b o e).1 (I.ok.bs b o e).2 (I.ok.nP b o e)⟩
theorem Inv.bk(I:Inv X pins σ H s):∀b o,X.base.get? b=aC o->s.heap.get? b=aC o:=λb o e=>(I.bs b o e).1
theorem Inv.mod(I:Inv X pins σ H s):Mod X.K X.mg X.base:=I.ok.mod
theorem Inv.iO(I:Inv X pins σ H s):X.K.In s.heap:=I.ok.mod.F4.keeps I.bk
theorem Inv.lt(I:Inv X pins σ H s):X.env.locals<s.heap.objs.size:=let⟨_,hn,_⟩:=I.loc;hn.lt
theorem Inv.sz(I:Inv X pins σ H s):X.s₀.heap.objs.size<=s.heap.objs.size:=gZ I.ok.above (tM I.lt)
theorem Inv.F6(I:Inv X pins σ H s){a:ah}(h:s.heap.objs.size<=a):a∉X.fs:=λhb=>by
 obtain⟨_,o,ho,_⟩:=I.ok.ir.mem hb;exact absurd (dN (cD ho) (gZ I.sz h)) (i8 _)
theorem Inv.vE(I:Inv X pins σ H s):∀x c,X.env.cells.lookup x=aC c->c≠X.env.locals:=λx c e z=>by
 obtain⟨v,o,ho,hd⟩:=I.cell x c e;obtain⟨m,⟨o',es,ep,ho',hd',_⟩,_⟩:=I.loc;rw[z,ho']at ho;cases ho;rw[hd']at hd;cases hd
theorem Inv.ir(I:Inv X pins σ H s):s.heap.FunFrames X.base X.outer:=by
 have all:∀(l:List Env),(∀b∈frs l,b∈X.fs)->X.s₀.heap.FunFrames X.base l->s.heap.FunFrames X.base l:=by
  intro l;induction l with
  |nil=>intro _ _;trivial
  |cons env r ih=>
   intro hs hl;obtain⟨hk,⟨L,o,hf,hn,ho,hd⟩,hr⟩:=hl;have hL:L∈X.fs:=hs L (by unfold frs;rw[xO,hf];exact fM);obtain⟨sl,e⟩:=I.base.slot L o ho (I.ok.yd L hL) hL λz=>I.ok.mh L z hL;exact⟨hk,⟨L,_,hf,hn,e,hd⟩,ih (λb hb=>hs b (by unfold frs;rw[xO,hf];exact dU _ hb)) hr⟩
 exact all X.outer (λ_ hb=>hb) I.ok.ir
theorem Inv.stack(I:Inv X pins σ H s):s.heap.FunFrames X.base X.stack:=by rcases I.ok.stk with e|⟨e,hf⟩;rw[e];exact I.ir;rw[e];obtain⟨m,hn,_⟩:=I.loc;refine .cons (by rw[I.ok.kind];decide) hf hn ?_ I.ir;exact Heap.get?_none_of_le (gZ I.ok.vD I.ok.above)
theorem Inv.kK(I:Inv X pins σ H s):∀b∈frs X.stack,b∈X.env.locals::X.fs:=λb hb=>by
 rcases I.ok.stk with e|⟨e,hf⟩;rw[e]at hb;exact dU _ hb;rw[e]at hb;unfold frs at hb;rw[xO,hf]at hb;exact hb
theorem Inv.k9(I:Inv X pins σ H s):∀b∈frs X.stack,H b=aD:=λb hb=>by
 rcases gy.mp (I.kK b hb)with e|hb;rw[e];exact I.free;obtain⟨_,o,ho,_⟩:=I.ok.ir.mem hb;exact I.base.free b o ho (I.ok.yd b hb) λz=>I.ok.mh b z hb
theorem Inv.step{g':Array GenState}{t':Nat}{d':Drawn}{ch:List ah}(I:Inv X pins σ H s)
 (hch:∀b∈ch,(b∈X.ex\/X.s₀.heap.objs.size<=b)/\b≠X.env.locals/\(∀x c,X.env.cells.lookup x=aC c->c≠b)/\∀p∈X.pn++pins,p.1≠b)
 (keep:∀b o,b≠X.env.locals->b∉X.fs->b∉ch->s.heap.get? b=aC o->H b=aD->h'.get? b=aC o)
 (slot:∀b o,b≠X.env.locals->b∈X.fs->b∉ch->s.heap.get? b=aC o->H b=aD->∃sl,h'.get? b=aC {o with slots:=sl}) (free:∀b o,b∉ch->s.heap.get? b=aC o->H b=aD->H' b=aD)
 (there:∀b o,b∉ch->s.heap.get? b=aC o->∃o',h'.get? b=aC o')
 (tups:∀b xs,H b=aC (.tup xs)->H' b=aC (.tup xs)) (ig:∀b o u,H b=aC (.bI o u)->H' b=aC (.bI o u)) (iH:∀b ps,H b=aC (.vA ps)->∃more,H' b=aC (.vA (ps++more)))
 (ns:∀m,s.heap.Ns X.env.locals m->h'.Ns X.env.locals m) (hok:ff X.prog X.w H' h') (hg:AllBare g') :
 Inv X pins σ H' {s with heap:=h',gens:=g',drawn:=d',toks:=t'}:=by
 have MD:∀b o,X.s₀.heap.get? b=aC o->b≠X.env.locals:=λb o e=>fP (dN (cD e) I.ok.above);have nA:∀b o,X.s₀.heap.get? b=aC o->b∉X.ex->b∉ch:=λb o e hx hb=>by
  rcases(hch b hb).1 with z|z;exact hx z;exact absurd (dN (cD e) z) (i8 _)
 have cellK:∀x c,X.env.cells.lookup x=aC c->∀v,s.heap.IsCell c v->h'.IsCell c v:=λx c e v bV=>by
  obtain⟨o,ho,hd⟩:=bV;have zy:c∉ch:=λz=>(hch c z).2.2.1 x c e rfl;by_cases hc:c∈X.fs;obtain⟨sl,q⟩:=slot c o (I.vE x c e) hc zy ho (I.fj x c e);exact⟨_,q,hd⟩;exact⟨o,keep c o (I.vE x c e) hc zy ho (I.fj x c e),hd⟩
 refine⟨I.ok,I.os,hg,⟨λb o e n hb hx=>?_,λb o e n hb hx=>?_,λb o e n hx=>?_,λb o e hx=>?_,λb xs e=>tups b xs (I.base.tups b xs e),λb o xs e=>ig b o xs (I.base.ig b o xs e),λb ps e=>?_⟩,?_,λx c e=>?_,?_,λx c e=>?_,λp hp=>?_,hok,I.len⟩;exact keep b o (MD b o e) hb (nA b o e hx) (I.base.keep b o e n hb hx) (I.base.free b o e n hx);obtain⟨sl,e1⟩:=I.base.slot b o e n hb hx;obtain⟨RI,e2⟩:=slot b _ (MD b o e) hb (nA b o e hx) e1 (I.base.free b o e n hx);exact⟨RI,e2⟩;obtain⟨o',e1⟩:=I.base.there b o e hx;exact free b o' (nA b o e hx) e1 (I.base.free b o e n hx);obtain⟨o',e1⟩:=I.base.there b o e hx;exact there b o' (nA b o e hx) e1;obtain⟨m1,e1⟩:=I.base.iH b ps e;obtain⟨m2,e2⟩:=iH b _ e1;exact⟨m1++m2,by rw[e2,Array.append_assoc]⟩;obtain⟨m,hn,hl⟩:=I.loc;refine⟨m,ns m hn,λi x v e1 e2 e3=>?_⟩;obtain⟨u,r,l⟩:=hl i x v e1 e2 e3;refine⟨u,r,?_⟩;rcases l with l|⟨k,c,e,z⟩
 exact .inl l;exact .inr ⟨k,c,e,cellK x c e _ z⟩;obtain⟨v,z⟩:=I.cell x c e;exact⟨v,cellK x c e v z⟩;obtain⟨m,⟨o,_,_,ho,_⟩,_⟩:=I.loc;exact free _ o (λz=>(hch _ z).2.1 rfl) ho I.free;obtain⟨v,o,ho,hd⟩:=I.cell x c e;exact free c o (λz=>(hch c z).2.2.1 x c e rfl) ho (I.fj x c e);obtain⟨e,n,ne,nf,d⟩:=I.pin p hp;have zy:p.1∉ch:=λz=>(hch p.1 z).2.2.2 p hp rfl;exact⟨keep p.1 p.2 ne nf zy e n,free p.1 p.2 zy e n,ne,nf,d⟩
theorem Inv.un{t':Nat}(I:Inv X pins σ H s)(u:Un X.fs [] H H' s.heap h')(hok:ff X.prog X.w H' h'):Inv X pins σ H' {s with heap:=h',toks:=t'}:=by
 obtain⟨m,⟨o,es,ep,ho,r⟩,_⟩:=id I.loc;obtain⟨sl,hL⟩:=u.any ho I.free (by simp);exact I.step (g':=s.gens) (d':=s.drawn) (ch:=[]) (λ_ z=>nomatch z) (λb o _ hb _ e n=>u.keep b o e n hb (by simp)) (λb o _ hb _ e n=>u.slot b o e n hb (by simp)) (λb o _ e n=>u.free b o e n (by simp)) (λb o _ e=>u.there b o e (by simp)) u.tups u.ig u.iH (λm' hm=>by
  obtain⟨o',es',F7,ho',r'⟩:=hm;rw[ho]at ho';cases ho';exact⟨_,es',F7,hL,r'⟩) hok I.bare
theorem Inv.call{g':Array GenState}{t':Nat}{d':Drawn}{ch:List ah}(I:Inv X pins σ H s)(u:Un (frs X.stack) ch H H' s.heap h')(hok:ff X.prog X.w H' h')(hg:AllBare g')
 (hch:∀b∈ch,(b∈X.ex\/X.s₀.heap.objs.size<=b)/\b≠X.env.locals/\(∀x c,X.env.cells.lookup x=aC c->c≠b)/\∀p∈X.pn++pins,p.1≠b) :
 Inv X pins σ H' {s with heap:=h',gens:=g',drawn:=d',toks:=t'}:=by
 obtain⟨m,⟨o,es,ep,ho,r⟩,_⟩:=id I.loc;obtain⟨sl,hL⟩:=u.any ho I.free λz=>(hch _ z).2.1 rfl;exact I.step (ch:=ch) hch (λb o hL hb hc e n=>u.keep b o e n (λz=>(gy.mp (I.kK b z)).elim hL hb) hc) (λb o _ _ hc e n=>u.any e n hc) (λb o hc e n=>u.free b o e n hc) (λb o hc e=>u.there b o e hc) u.tups u.ig u.iH (λm' hm=>by
  obtain⟨o',es',F7,ho',r'⟩:=hm;rw[ho]at ho';cases ho';exact⟨_,es',F7,hL,r'⟩) hok hg
theorem Inv.turned{t':Nat}{it:ah}(I:Inv X pins σ H s)(k:∀b o,b≠it->s.heap.get? b=aC o->h'.get? b=aC o)(hn:H it=aD)(hL:it≠X.env.locals)
 (h1:it∈X.ex\/X.s₀.heap.objs.size<=it) (h2:∀x c,X.env.cells.lookup x=aC c->c≠it) (h3:∀p∈X.pn++pins,p.1≠it):Inv X pins σ H {s with heap:=h',toks:=t'}:=by
 have ME:∀b u,H b=aC u->b≠it:=λb u e z=>by rw[z,hn]at e;cases e
 refine I.step (g':=s.gens) (d':=s.drawn) (ch:=[it]) (λb hb=>?_) (λb o _ _ hc e _=>k b o (λz=>hc (by simp[z])) e) (λb o _ _ hc e _=>⟨o.slots,k b o (λz=>hc (by simp[z])) e⟩) (λ_ _ _ _ n=>n)
  (λb o hc e=>⟨o,k b o (λz=>hc (by simp[z])) e⟩) (λ_ _ e=>e) (λ_ _ _ e=>e) (λb ps e=>⟨#[],by rw[e];simp⟩) (λm hm=>?_) (λb u e=>?_) I.bare
 have e:b=it:=by simpa using hb
 subst e;exact⟨h1,hL,h2,h3⟩;obtain⟨o,es,ep,ho,r⟩:=hm;exact⟨o,es,ep,k _ o (eT hL) ho,r⟩;refine(I.hok b u e).stay (λc v hc q=>k c v ?_ q) (λ_ q=>q) λ_ _ q=>q;rcases hc with z|z
 rw[z];exact ME b u e;exact ME c _ z
theorem Inv.tok(I:Inv X pins σ H s)(t:Nat):Inv X pins σ H {s with toks:=t}:=I.un (h':=s.heap) (t':=t) Un.refl I.hok
theorem Inv.kept{t':Nat}(I:Inv X pins σ H s)(k:∀b u,s.heap.get? b=aC u->h'.get? b=aC u):Inv X pins σ H {s with heap:=h',toks:=t'}:=I.un (Un.kept k) (I.hok.kept k)
theorem Inv.laid{a:ah}{o:HO}{t':Nat}(I:Inv X pins σ H s)(k:∀b u,s.heap.get? b=aC u->h'.get? b=aC u)(hp:s.heap.objs.size<=a)(new:aY X.prog X.w (upd H a o) h' a o) :
 Inv X pins σ (upd H a o) {s with heap:=h',toks:=t'}:=I.un (Un.laid k hp (I.hok.fresh hp)) (I.hok.laid k hp new)
theorem Inv.write{x e:ah}{o:HO}{t':Nat}(I:Inv X pins σ H s)(mu:zu (H x))(he:e=x\/H e=aC (.own x))(k:∀b u,b≠e->s.heap.get? b=aC u->h'.get? b=aC u)(ya:∃u,h'.get? e=aC u)
 (new:aY X.prog X.w (upd H x o) h' x o):Inv X pins σ (upd H x o) {s with heap:=h',toks:=t'}:=I.un (Un.write mu he k ya) (I.hok.write mu he k ya new)
theorem Inv.lg{tV:List (ah×Obj)}(I:Inv X pins σ H s)(h:∀p∈tV,s.heap.get? p.1=aC p.2/\H p.1=aD/\p.1≠X.env.locals/\p.1∉X.fs/\∀v,p.2.data≠.cell v):Inv X tV σ H s:=
 ⟨I.ok,I.os,I.bare,I.base,I.loc,I.cell,I.free,I.fj,λp hp=>(lZ.mp hp).elim (λz=>I.pin p (yX _ z)) (h p),I.hok,I.len⟩
theorem MF{N:List Str}(hN:N.Nodup){i j:Nat}{x:Str}(a:N[i]?=aC x)(b:N[j]?=aC x):i=j:=by obtain⟨h1,e1⟩:=jD.mp a;obtain⟨h2,e2⟩:=jD.mp b;exact(List.getElem_inj hN).mp (e1.trans e2.symm)
theorem F8{M:Model}{A:ao}{E:aa->af->Prop}{i:Nat}{x:Str}{v:V}{u:aa}{Q:Unit->af->Prop}(I:Inv X pins σ H s)(hN:X.N.Nodup)(hi:X.N[i]?=aC x)(hx:Loc X.env.scope x)(r:RelV v u)
 (h:∀s',Inv X pins (σ.set i (aC v)) H s'->(∃a,Heap.SameBut a s.heap s'.heap/\(a=X.env.locals\/X.env.cells.lookup x=aC a))->Q () s') (hf:autoParam (X.fn x=true\/X.env.scope.names.lookup x=aC .local) L2.aF1._auto_1):wpAny M A (storeName X.env x u) Q E s:=by
 obtain⟨m,hn,hl⟩:=id I.loc;have hcls:(X.env.scope.kind == .class|| (X.env.scope.kind == .module&&X.env.locals != X.env.globals))=false:=by rw[I.ok.kind];rfl
 have zz:i<σ.length:=by rw[I.len];exact(jD.mp hi).1
 have vE:=I.vE;have tracked:∀{a:ah}{h':aA},(∃o,s.heap.get? a=aC o/\H a=aD)->Heap.SameBut a s.heap h'->ff X.prog X.w H h':=λ{a h'} ha hs b ob e=>by
  obtain⟨_,_,hfree⟩:=ha;refine(I.hok b ob e).stay (λc w' hc q=>(hs.2 c ?_).trans q) (λ_ q=>q) λ_ _ q=>q;rintro rfl;rcases hc with rfl|hc;rw[hfree]at e;cases e;rw[hfree]at hc;cases hc
 rcases hx with hk|hk;refine wpAny_storeName_local hk hn (λh' hn' hs=>?_) hcls;obtain⟨oL,_,_,RJ,_⟩:=id hn;refine h _ ⟨I.ok,I.os,I.bare,⟨λb o e n hb hx=>?_,λb o e n hb hx=>?_,I.base.free,λb o e hx=>?_,I.base.tups,I.base.ig,I.base.iH⟩,⟨_,hn',λj y v' e1 e2 e3=>?_⟩,λy c e=>?_,I.free,I.fj,λp hp=>?_,tracked ⟨oL,RJ,I.free⟩ hs,by simpa using I.len⟩ ⟨_,hs,.inl rfl⟩;exact(hs.2 b (fP (dN (cD e) I.ok.above))).trans (I.base.keep b o e n hb hx);obtain⟨sl,e1⟩:=I.base.slot b o e n hb hx;exact⟨sl,(hs.2 b (fP (dN (cD e) I.ok.above))).trans e1⟩;obtain⟨o',e1⟩:=I.base.there b o e hx;exact⟨o',(hs.2 b (fP (dN (cD e) I.ok.above))).trans e1⟩;by_cases hj:j=i;subst hj;rw[hi]at e1;cases e1;rw[nH zz]at e2;cases e2;exact⟨u,r,.inl ⟨hk,by simp⟩⟩;rw[xN (eT hj)]at e2;obtain⟨u',r',q⟩:=hl j y v' e1 e2 e3;refine⟨u',r',?_⟩;rcases q with⟨k,e⟩|⟨k,c,e,z⟩;refine .inl ⟨k,?_⟩;have:y≠x:=λe=>hj (MF hN e1 (e▸hi));simp[this,e];exact .inr ⟨k,c,e,z.sameBut hs (vE y c e)⟩;obtain⟨w',z⟩:=I.cell y c e;exact⟨w',z.sameBut hs (vE y c e)⟩;obtain⟨e,n,ne,nf,d⟩:=I.pin p hp;exact⟨(hs.2 p.1 ne).trans e,n,ne,nf,d⟩;have hfn:X.fn x=true:=by rcases hf with z|z;exact z;rw[z]at hk;cases hk
 obtain⟨c,hc⟩:=I.ok.has x (.inl hk);obtain⟨w',z⟩:=I.cell x c hc;refine wpAny_storeName_cell I.ok.kind hk hc z (λh' hc' hs=>?_);obtain⟨oc,hoc,F9⟩:=id z;refine h {s with heap:=h'} ⟨I.ok,I.os,I.bare,⟨λb o e n hb hx=>?_,λb o e n hb hx=>?_,I.base.free,λb o e hx=>?_,I.base.tups,I.base.ig,I.base.iH⟩,⟨m,hn.sameBut hs (eT (vE x c hc)),λj y v' e1 e2 e3=>?_⟩,λy c' e=>?_,I.free,I.fj,λp hp=>?_,tracked ⟨oc,hoc,I.fj x c hc⟩ hs,by simpa using I.len⟩ ⟨c,hs,.inr hc⟩;exact(hs.2 b (fP (dN (cD e) (I.ok.zx x c hfn hc)))).trans (I.base.keep b o e n hb hx);obtain⟨sl,e1⟩:=I.base.slot b o e n hb hx;exact⟨sl,(hs.2 b (fP (dN (cD e) (I.ok.zx x c hfn hc)))).trans e1⟩;obtain⟨o',e1⟩:=I.base.there b o e hx;exact⟨o',(hs.2 b (fP (dN (cD e) (I.ok.zx x c hfn hc)))).trans e1⟩;by_cases hj:j=i;subst hj;rw[hi]at e1;cases e1;rw[nH zz]at e2;cases e2;exact⟨u,r,.inr ⟨.inl hk,c,hc,hc'⟩⟩;rw[xN (eT hj)]at e2;obtain⟨u',r',q⟩:=hl j y v' e1 e2 e3;refine⟨u',r',?_⟩;rcases q with q|⟨k,c',e,z'⟩;exact .inl q;refine .inr ⟨k,c',e,z'.sameBut hs ?_⟩;rintro rfl;exact hj (MF hN e1 (I.ok.inj _ _ _ e hc▸hi));by_cases hcc:c'=c;subst hcc;exact⟨_,hc'⟩;obtain⟨w2,z2⟩:=I.cell y c' e;exact⟨w2,z2.sameBut hs hcc⟩;obtain⟨e,n,ne,nf,d⟩:=I.pin p hp;refine⟨(hs.2 p.1 ?_).trans e,n,ne,nf,d⟩;intro q;rw[q,hoc]at e;have q':oc=p.2:=l8 e;exact d w' (by rw[<-q'];exact F9)
theorem Ga{M:Model}{A:ao}{E:aa->af->Prop}{i:Nat}{x:Str}{v:V}{u:aa}{Q:Unit->af->Prop}(I:Inv X pins σ H s)(hN:X.N.Nodup)(hi:X.N[i]?=aC x)(hx:Loc X.env.scope x)(r:RelV v u)
 (h:∀s',Inv X pins (σ.set i (aC v)) H s'->Q () s') (hf:autoParam (X.fn x=true\/X.env.scope.names.lookup x=aC .local) L2.aF1._auto_1):wpAny M A (storeName X.env x u) Q E s:=
 F8 I hN hi hx r (λs' I' _=>h s' I') hf
theorem Inv.tW{s':af}{ch:List ah}(I:Inv X pins σ H s)(ho:s'.os=s.os)(u:Un (frs X.stack) ch H H' s.heap s'.heap)(hok:ff X.prog X.w H' s'.heap)(hg:AllBare s'.gens)
 (hch:∀b∈ch,(b∈X.ex\/X.s₀.heap.objs.size<=b)/\b≠X.env.locals/\(∀x c,X.env.cells.lookup x=aC c->c≠b)/\∀p∈X.pn++pins,p.1≠b):Inv X pins σ H' s':=by
 obtain⟨h',g',d',t',o'⟩:=s';have e:o'=s.os:=ho;subst e;exact I.call (g':=g') (t':=t') (d':=d') u hok hg hch
end
noncomputable abbrev XK:=aa->Option ah->Hp->Prop
noncomputable abbrev St:=List (Option V)
noncomputable abbrev VK:=V->Hp->Prop
noncomputable abbrev TE:=St->Hp->VK->Prop
noncomputable abbrev TT:=St->Hp->(Bool->Hp->Prop)->Prop
noncomputable abbrev TA:=St->Hp->(List V->Hp->Prop)->Prop
set_option genInjectivity false in
structure Ends where
 nx:St->Hp->Prop
 rt:VK
 bk:St->Hp->Prop:=λ_ _=>False
 ct:St->Hp->Prop:=λ_ _=>False
noncomputable abbrev TS:=Ends->St->Hp->Prop
noncomputable def EP(X:Cx)(pins:List (ah×Obj))(σ:St)(Q:VK)(u:aa)(s':af):Prop:=∃v H',Inv X pins σ H' s'/\RelV v u/\Q v H'
noncomputable def TP(X:Cx)(pins:List (ah×Obj))(σ:St)(Q:Bool->Hp->Prop)(b:Bool)(s':af):Prop:=∃H',Inv X pins σ H' s'/\Q b H'
noncomputable def AP(X:Cx)(pins:List (ah×Obj))(σ:St)(Q:List V->Hp->Prop)(us:List aa)(s':af):Prop:=∃vs H',Inv X pins σ H' s'/\Vals vs us/\Q vs H'
theorem EP.el{X:Cx}{pins:List (ah×Obj)}{σ:St}{Q:VK}{u:aa}{s':af}{P:Prop}(q:EP X pins σ Q u s')(k:∀v H',Inv X pins σ H' s'->RelV v u->Q v H'->P):P:=by obtain⟨v,H',a,b,c⟩:=q;exact k v H' a b c
theorem TP.el{X:Cx}{pins:List (ah×Obj)}{σ:St}{Q:Bool->Hp->Prop}{b:Bool}{s':af}{P:Prop}(q:TP X pins σ Q b s')(k:∀H',Inv X pins σ H' s'->Q b H'->P):P:=by obtain⟨H',a,c⟩:=q;exact k H' a c
theorem AP.el{X:Cx}{pins:List (ah×Obj)}{σ:St}{Q:List V->Hp->Prop}{us:List aa}{s':af}{P:Prop}(q:AP X pins σ Q us s')(k:∀vs H',Inv X pins σ H' s'->Vals vs us->Q vs H'->P):P:=by obtain⟨v,H',a,b,c⟩:=q;exact k v H' a b c
noncomputable def SP(X:Cx)(pins:List (ah×Obj))(D:Ends)(f:Flow)(s':af):Prop:=
 match f with|.next=>∃σ' H',Inv X pins σ' H' s'/\D.nx σ' H'|.brk=>∃σ' H',Inv X pins σ' H' s'/\D.bk σ' H'|.cont=>∃σ' H',Inv X pins σ' H' s'/\D.ct σ' H'|.ret u=>∃v σ' H',Inv X pins σ' H' s'/\RelV v u/\D.rt v H'
noncomputable def PE(X:Cx)(e:aq)(t:TE):Prop:=
 ∀(pins:List (ah×Obj))(s:af)(σ:St)(H:Hp)(Q:VK),Inv X pins σ H s->t σ H Q->wpAny (model X.prog X.w) X.A (eval e X.env) (EP X pins σ Q) X.xe s
noncomputable def PT(X:Cx)(e:aq)(t:TT):Prop:=
 ∀(pins:List (ah×Obj))(s:af)(σ:St)(H:Hp)(Q:Bool->Hp->Prop),Inv X pins σ H s->t σ H Q->wpAny (model X.prog X.w) X.A (isTrue e X.env (eval e X.env)) (TP X pins σ Q) X.xe s
noncomputable def PW(X:Cx)(e:aq)(t:TT):Prop:=
 ∀(whole:Sem aa)(pins:List (ah×Obj))(s:af)(σ:St)(H:Hp)(Q:Bool->Hp->Prop),Inv X pins σ H s->t σ H Q->wpAny (model X.prog X.w) X.A (isTrue e X.env whole) (TP X pins σ Q) X.xe s
theorem PW.pt{X:Cx}{e:aq}{t:TT}(h:PW X e t):PT X e t:=h _
noncomputable def PA(X:Cx)(es:List aq)(t:TA):Prop:=
 ∀(pos:Pos)(pins:List (ah×Obj))(s:af)(σ:St)(H:Hp)(Q:List V->Hp->Prop),Inv X pins σ H s->t σ H Q->wpAny (model X.prog X.w) X.A (spliced (backTo pos (starEach es X.env))) (AP X pins σ Q) X.xe s
noncomputable def PS(X:Cx)(st:au)(t:TS):Prop:=
 ∀(pins:List (ah×Obj))(s:af)(σ:St)(H:Hp)(D:Ends),Inv X pins σ H s->t D σ H->wpAny (model X.prog X.w) X.A (exec st X.env) (SP X pins D) X.xe s
noncomputable def kh(X:Cx)(st:List au)(t:TS):Prop:=
 ∀(pins:List (ah×Obj))(s:af)(σ:St)(H:Hp)(D:Ends),Inv X pins σ H s->t D σ H->wpAny (model X.prog X.w) X.A (execs st X.env) (SP X pins D) X.xe s
theorem aU{α:Type}{t:Sem α}{Q Q':α->af->Prop}{M:Model}{A:ao}{E:aa->af->Prop}{s:af}(h:wpAny M A t Q E s)(hQ:∀a s,Q a s->Q' a s):wpAny M A t Q' E s:=gf h hQ λ_ _ x=>x
section
variable{X:Cx}
noncomputable def Gb(i:Nat):TE:=λσ H Q=>∃v,σ[i]?=aC (aC v)/\Q v H
noncomputable def tC(v:V):TE:=λ_ H Q=>Q v H
theorem RK{i:Nat}{x:Str}{pos:Pos}(hN:X.N[i]?=aC x)(hv:yb X.env.scope x)(hd:autoParam ((x==("__debug__" : Str))=false) L2.aD1._auto_1)(hcd:autoParam ((x==("__classdict__" : Str))=false) L2.aD1._auto_1):PE X (.Name x pos) (Gb i):=by
 intro pins s σ H Q I h;obtain⟨v,e,h⟩:=h;obtain⟨m,hn,hl⟩:=I.loc;obtain⟨u,r,l⟩:=hl i x v hN e hv;have fin:EP X pins σ Q u s:=⟨v,H,I,r,h⟩
 rcases l with⟨hk,hm⟩|⟨hk,c,hc,hcell⟩;exact wpAny_Name (wpAny_loadName_local I.ok.kind hk hn hm fin) hd;rcases hk with hk|hk;exact wpAny_Name (wpAny_loadName_cell I.ok.kind hk hc hcell fin) hd;exact wpAny_Name (wpAny_loadName_free I.ok.kind hk hc hcell fin hcd) hd
theorem RL{i j pos}:PE X (.Constant (.int i) j pos) (tC (.int i)):=λ_ _ _ H _ I h=>wpAny_Constant_int ⟨.int i,H,I.tok _,⟨_,rfl⟩,h⟩
theorem zA{b j pos}:PE X (.Constant (.bool b) j pos) (tC (.bl b)):=λ_ _ _ H _ I h=>Constant_bool ⟨.bl b,H,I,rfl,h⟩
theorem RM{j pos}:PE X (.Constant .none j pos) (tC .aO):=λ_ _ _ H _ I h=>Constant_none ⟨.aO,H,I,rfl,h⟩
theorem RN{x j pos}:PE X (.Constant (.str x) j pos) (tC (.str x)):=λ_ _ _ H _ I h=>Calls.Constant_str ⟨.str x,H,I.tok _,⟨_,rfl⟩,h⟩
noncomputable def Gl(X:Cx)(x:Str):Prop:=X.env.kindOf x=aC .globalImplicit
theorem Gd{E:aa->af->Prop}{pins:List (ah×Obj)}{s:af}{σ:St}{H:Hp}{x:Str}{u:aa}{pos:Pos}{Q:aa->af->Prop}(I:Inv X pins σ H s)(hg:Gl X x)(hm:X.mg x=aC u)(h:Q u s)
 (hd:autoParam ((x==("__debug__" : Str))=false) L2.aD1._auto_1):wpAny (model X.prog X.w) X.A (eval (.Name x pos) X.env) Q E s:=
 Calls.Name_function_global I.ok.kind hg (Calls.loadGlobal_global (by rw[I.ok.glob];exact I.mod.glob.keeps I.bk) hm h) hd
theorem qI{E:aa->af->Prop}{pins:List (ah×Obj)}{s:af}{σ:St}{H:Hp}{x:Str}{u:aa}{pos:Pos}{Q:aa->af->Prop}(I:Inv X pins σ H s)(hg:Gl X x)(hm:X.mg x=aD)(hv:bootBuiltins x=aC u)(h:Q u s)
 (hn:autoParam (x≠"__name__") L2.aD1._auto_1) (hd:autoParam ((x==("__debug__" : Str))=false) L2.aD1._auto_1):wpAny (model X.prog X.w) X.A (eval (.Name x pos) X.env) Q E s:=by
 obtain⟨mb,h1,h2⟩:=I.mod.blt;exact Calls.Name_function_global I.ok.kind hg (Calls.loadGlobal_builtin (by rw[I.ok.glob];exact I.mod.glob.keeps I.bk) hm (by rw[I.ok.blt];exact h1.keeps I.bk) ((h2 x hn).trans hv) h) hd
theorem RO{x:Str}{v:V}{u:aa}{pos:Pos}(hg:Gl X x)(hm:X.mg x=aC u)(r:RelV v u)(hd:autoParam ((x==("__debug__" : Str))=false) L2.aD1._auto_1):PE X (.Name x pos) (tC v):=
 λ_ _ _ H _ I h=>Gd I hg hm ⟨v,H,I,r,h⟩ hd
theorem RP{x:Str}{v:V}{u:aa}{pos:Pos}(hg:Gl X x)(hm:X.mg x=aD)(hv:bootBuiltins x=aC u)(r:RelV v u)(hn:autoParam (x≠"__name__") L2.aD1._auto_1)(hd:autoParam ((x==("__debug__" : Str))=false) L2.aD1._auto_1):PE X (.Name x pos) (tC v):=
 λ_ _ _ H _ I h=>qI I hg hm hv ⟨v,H,I,r,h⟩ hn hd
variable{a b:aq}{ta tb:TE}{pos:Pos}
variable{tA DJ:TT}{rest:List aq}
noncomputable def Ge(t u:TT):TT:=λσ H Q=>t σ H λc H1=>if c=true then u σ H1 Q else Q false H1
noncomputable def RQ(t u:TT):TT:=λσ H Q=>t σ H λc H1=>if c=true then Q true H1 else u σ H1 Q
noncomputable def Gf(t:TT):TT:=λσ H Q=>t σ H λc H1=>Q (!c) H1
theorem RS(ha:PT X a tA):PW X (.BoolOp .And [a] pos) tA:=by
 intro wh pins s σ H Q I h;refine isTrue_and (aU (ha pins s σ H Q I h) λc s1 e=>?_);cases c with|true=>exact isTrue_and_nil e|false=>exact e
theorem RT(ha:PT X a tA):PW X (.BoolOp .Or [a] pos) tA:=by
 intro wh pins s σ H Q I h;refine isTrue_or (aU (ha pins s σ H Q I h) λc s1 e=>?_);cases c with|false=>exact isTrue_or_nil e|true=>exact e
theorem RU(ha:PT X a tA)(hb:PW X (.BoolOp .And (b::rest) pos) DJ):PW X (.BoolOp .And (a::b::rest) pos) (Ge tA DJ):=by
 intro wh pins s σ H Q I h;refine isTrue_and (aU (ha pins s σ H _ I h) λc s1 z9=>z9.el λH1 I1 q1=>?_);cases c with|true=>exact hb wh pins s1 σ H1 Q I1 q1|false=>exact⟨H1,I1,q1⟩
theorem pw_or(ha:PT X a tA)(hb:PW X (.BoolOp .Or (b::rest) pos) DJ):PW X (.BoolOp .Or (a::b::rest) pos) (RQ tA DJ):=by
 intro wh pins s σ H Q I h;refine isTrue_or (aU (ha pins s σ H _ I h) λc s1 z9=>z9.el λH1 I1 q1=>?_);cases c with|true=>exact⟨H1,I1,q1⟩|false=>exact hb wh pins s1 σ H1 Q I1 q1
theorem RV(ha:PT X a tA):PT X (.UnaryOp .Not a pos) (Gf tA):=by intro pins s σ H Q I h;exact isTrue_not (ha pins s σ H (λc H1=>Q (!c) H1) I h)
noncomputable def zB(ta tb:TE):TE:=λσ H Q=>ta σ H λx H1=>∃c,x=.bl c/\if c=true then tb σ H1 Q else Q (.bl false) H1
noncomputable def Gg(ta tb:TE):TE:=λσ H Q=>ta σ H λx H1=>∃c,x=.bl c/\if c=true then Q (.bl true) H1 else tb σ H1 Q
noncomputable def zC(ta:TE):TE:=λσ H Q=>ta σ H λx H1=>∃c,x=.bl c/\Q (.bl (!c)) H1
theorem RW{op}{t:TE}(h:PE X a t):PE X (.BoolOp op [a] pos) t:=λpins s σ H Q I hw=>BoolOp_one (h pins s σ H Q I hw)
theorem RX(ha:PE X a ta)(hb:PE X (.BoolOp .And (b::rest) pos) tb):PE X (.BoolOp .And (a::b::rest) pos) (zB ta tb):=by
 intro pins s σ H Q I h;refine BoolOp_and (aU (ha pins s σ H _ I h) λv s1 z9=>z9.el λx H1 I1 r1 q1=>?_);obtain⟨c,rfl,q1⟩:=q1;cases r1;refine qo ?_;cases c with|true=>exact hb pins s1 σ H1 Q I1 q1|false=>exact⟨.bl false,H1,I1,rfl,q1⟩
theorem zD(ha:PE X a ta)(hb:PE X (.BoolOp .Or (b::rest) pos) tb):PE X (.BoolOp .Or (a::b::rest) pos) (Gg ta tb):=by
 intro pins s σ H Q I h;refine BoolOp_or (aU (ha pins s σ H _ I h) λv s1 z9=>z9.el λx H1 I1 r1 q1=>?_);obtain⟨c,rfl,q1⟩:=q1;cases r1;refine qo ?_;cases c with|false=>exact hb pins s1 σ H1 Q I1 q1|true=>exact⟨.bl true,H1,I1,rfl,q1⟩
theorem RY(ha:PE X a ta):PE X (.UnaryOp .Not a pos) (zC ta):=by intro pins s σ H Q I h;refine UnaryOp_ (aU (ha pins s σ H _ I h) λv s1 z9=>z9.el λx H1 I1 r1 q1=>?_);obtain⟨c,rfl,q1⟩:=q1;cases r1;exact not_of (qo ⟨.bl (!c),H1,I1,rfl,q1⟩)
noncomputable def RZ(t:TT)(ta tb:TE):TE:=λσ H Q=>t σ H λc H1=>if c=true then ta σ H1 Q else tb σ H1 Q
theorem R0{c:aq}(hc:PT X c tA)(ha:PE X a ta)(hb:PE X b tb):PE X (.IfExp c a b pos) (RZ tA ta tb):=by
 intro pins s σ H Q I h;refine wpAny_IfExp (aU (hc pins s σ H _ I h) λd s1 z9=>z9.el λH1 I1 q1=>?_);cases d with|true=>exact ha pins s1 σ H1 Q I1 q1|false=>exact hb pins s1 σ H1 Q I1 q1
end
noncomputable def cz(K:aI)(H:Hp)(a:ah)(xs:List V):Prop:=
 Rd H a (.lst xs)\/
  ∃(o:Obj) (its:Array aa) (n:Nat),K.lookup a=aC o/\o.cls=.type "list"/\o.dict=aD/\o.data=.seq its n/\its.size<=sizeLine/\Vals xs its.toList
noncomputable def bW(K:aI)(H:Hp)(a:ah)(xs:List V):Prop:=
 Rd H a (.tup xs)\/
  ∃(o:Obj) (its:Array aa) (n:Nat),K.lookup a=aC o/\o.cls=.type "tuple"/\o.dict=aD/\o.data=.seq its n/\its.size<=sizeLine/\Vals xs its.toList
noncomputable def Gh:aa->Option V|.none=>aC .aO|.bool b=>aC (.bl b)|.int i _=>aC (.int i)|.str x _=>aC (.str x)|.bytes b _=>aC (.zl b)|.float b _=>aC (.xY b)|.ref a=>aC (.ref a)|.type n=>aC (.ty n)|_=>aD
theorem RelV.abs{x:V}{u:aa}(r:RelV x u):Gh u=aC x:=by
 cases x with|aO=>cases r;rfl|bl _=>cases r;rfl|int _=>obtain⟨t,rfl⟩:=r;rfl|str _=>obtain⟨t,rfl⟩:=r;rfl|zl _=>obtain⟨t,rfl⟩:=r;rfl|xY _=>obtain⟨t,rfl⟩:=r;rfl|ref _=>cases r;rfl|ty _=>cases r;rfl
theorem RelV.inj{x y:V}{u:aa}(r:RelV x u)(q:RelV y u):x=y:=l8 (r.abs.symm.trans q.abs)
theorem Vals.inj:∀{xs ys:List V} {us:List aa},Vals xs us->Vals ys us->xs=ys|_,_,_,.nil,.nil=>rfl|_,_,_,.cons r t,.cons r' t'=>by rw[r.inj r',Vals.inj t t']
section
variable{X:Cx}{pins:List (ah×Obj)}{σ:St}{H:Hp}{s:af}{a:ah}{xs ys:List V}
theorem cz.of{K:aI}(h:H a=aC (.lst xs)):cz K H a xs:=.inl (.inl h)
theorem bW.of{K:aI}(h:H a=aC (.tup xs)):bW K H a xs:=.inl (.inl h)
theorem Inv.list(I:Inv X pins σ H s)(h:cz X.K H a xs):∃its:List aa,Vals xs its/\PlainL s.heap a its.toArray/\xs.length<=sizeLine:=by rcases h with h|⟨o,its,n,hk,hc,hd,hs,hz,r⟩;obtain⟨z,its,n,r,e⟩:=h.ok I.hok;exact⟨its,r,⟨_,n,e,rfl,rfl,rfl⟩,z⟩;refine⟨its.toList,r,⟨o,n,I.iO a o hk,hc,hd,by simpa using hs⟩,?_⟩;have e:=r.length;simp only[vv]at e;lia
theorem Inv.nQ(I:Inv X pins σ H s)(h:bW X.K H a xs):∃its:List aa,Vals xs its/\kJ s.heap a its.toArray/\xs.length<=sizeLine:=by rcases h with h|⟨o,its,n,hk,hc,hd,hs,hz,r⟩;obtain⟨z,its,r,p⟩:=h.ok I.hok;exact⟨its,r,p,z⟩;refine⟨its.toList,r,⟨o,I.iO a o hk,hc,⟨n,by simpa using hs⟩,hd⟩,?_⟩;have e:=r.length;simp only[vv]at e;lia
theorem Inv.tuple(I:Inv X pins σ H s)(h:bW X.K H a xs):∃its:List aa,Vals xs its/\IsTup s.heap a its.toArray/\xs.length<=sizeLine:=by obtain⟨its,r,p,z⟩:=I.nQ h;exact⟨its,r,p.tup,z⟩
theorem Inv.jG(I:Inv X pins σ H s)(h:cz X.K H a xs)(h':cz X.K H a ys):xs=ys:=by
 obtain⟨its,r,⟨o,n,e,_,_,d⟩,_⟩:=I.list h;obtain⟨its',r',⟨o',n',e',_,_,d'⟩,_⟩:=I.list h';rw[e]at e';cases e';rw[d]at d';injection d' with d1 _;have:its=its':=by simpa using kF Array.toList d1
 subst this;exact r.inj r'
theorem Inv.gz(I:Inv X pins σ H s)(h:bW X.K H a xs)(h':bW X.K H a ys):xs=ys:=by
 obtain⟨its,r,⟨o,e,_,n,d⟩,_⟩:=I.tuple h;obtain⟨its',r',⟨o',e',_,n',d'⟩,_⟩:=I.tuple h';rw[e]at e';cases e';rw[d]at d';injection d' with d1 _;have:its=its':=by simpa using kF Array.toList d1
 subst this;exact r.inj r'
end
noncomputable abbrev Cx.iI(X:Cx)(E:aa->af->Prop):Cx:={X with xe:=E}
noncomputable abbrev Cx.ye(X:Cx):Cx:=X.iI λ_ _=>False
theorem Cx.Ok.iI{X:Cx}(ok:X.Ok)(E:aa->af->Prop):(X.iI E).Ok:=
 ⟨ok.mod,ok.kind,ok.glob,ok.blt,ok.above,ok.inj,ok.has,ok.zx,ok.hd,ok.frames,ok.stk,ok.yc,ok.bs,ok.vD,ok.nP,ok.mh,ok.ir,ok.yd⟩
theorem Cx.Ok.dW{X:Cx}{E:aa->af->Prop}(ok:(X.iI E).Ok):X.Ok:=
 ⟨ok.mod,ok.kind,ok.glob,ok.blt,ok.above,ok.inj,ok.has,ok.zx,ok.hd,ok.frames,ok.stk,ok.yc,ok.bs,ok.vD,ok.nP,ok.mh,ok.ir,ok.yd⟩
section
variable{X:Cx}{pins:List (ah×Obj)}{σ:St}{H:Hp}{s:af}{E:aa->af->Prop}
theorem Inv.iI(I:Inv X pins σ H s)(E:aa->af->Prop):Inv (X.iI E) pins σ H s:=⟨I.ok.iI E,I.os,I.bare,I.base,I.loc,I.cell,I.free,I.fj,I.pin,I.hok,I.len⟩
theorem Inv.dW(I:Inv (X.iI E) pins σ H s):Inv X pins σ H s:=⟨I.ok.dW,I.os,I.bare,I.base,I.loc,I.cell,I.free,I.fj,I.pin,I.hok,I.len⟩
theorem SP.dW{D:Ends}{f:Flow}{s':af}(h:SP (X.iI E) pins D f s'):SP X pins D f s':=by
 cases f with|next=>obtain⟨σ',H',I,q⟩:=h;exact⟨σ',H',I.dW,q⟩|brk=>obtain⟨σ',H',I,q⟩:=h;exact⟨σ',H',I.dW,q⟩|cont=>obtain⟨σ',H',I,q⟩:=h;exact⟨σ',H',I.dW,q⟩|ret u=>obtain⟨v,σ',H',I,r,q⟩:=h;exact⟨v,σ',H',I.dW,r,q⟩
theorem kh.ye{st:List au}{t:TS}(h:kh X.ye st t):kh X st t:=λpins s σ H D I hw=>
 gf (h pins s σ H D (I.iI _) hw) (λ_ _ q=>q.dW) λ_ _ z=>False.elim z
end
section
variable{X:Cx}{st:au}{rest:List au}{t u:TS}{e:aq}{te:TE}{pos:Pos}
noncomputable def tX:TS:=λD σ H=>D.nx σ H
noncomputable def Gi(t u:TS):TS:=λD σ H=>t {D with nx:=u D} σ H
theorem R1:kh X [] tX:=λ_ _ σ H _ I h=>wpAny_execs_nil ⟨σ,H,I,h⟩
theorem R3(h1:PS X st t)(h2:kh X rest u):kh X (st::rest) (Gi t u):=by
 intro pins s σ H D I h;refine wpAny_execs_cons (aU (h1 pins s σ H {D with nx:=u D} I h) λf s1 q=>?_);cases f with
 |next=>
  obtain⟨σ',H',I',q⟩:=q;exact h2 pins s1 σ' H' D I' q
 |ret v=>exact q
 |brk=>exact q
 |cont=>exact q
noncomputable def R4:TS:=λD σ H=>D.bk σ H
noncomputable def zE:TS:=λD σ H=>D.ct σ H
theorem R5:PS X (.Pass pos) tX:=λ_ _ σ H _ I h=>wpAny_Pass ⟨σ,H,I,h⟩
theorem R6:PS X (.Break pos) R4:=λ_ _ σ H _ I h=>wpAny_Break ⟨σ,H,I,h⟩
theorem R7:PS X (.Continue pos) zE:=λ_ _ σ H _ I h=>wpAny_Continue ⟨σ,H,I,h⟩
theorem Inv.quiet{pins:List (ah×Obj)}{σ:St}{H:Hp}{s:af}(I:Inv X pins σ H s):interactive X.env=false:=by simp[interactive,I.ok.kind]
noncomputable def zF(te:TE):TS:=λD σ H=>te σ H λ_ H1=>D.nx σ H1
theorem R8(he:PE X e te)(hs:autoParam (swapsWith e aD pos.line X.env=pure false) L2.aR1._auto_1):PS X (.Expr e pos) (zF te):=by intro pins s σ H D I h;exact wpAny_Expr_any (aU (he pins s σ H _ I h) λv s1 z9=>z9.el λx H1 I1 r1 q1=>⟨σ,H1,I1,q1⟩) I.quiet hs
noncomputable def Gj(te:TE):TS:=λD σ H=>te σ H D.rt
theorem R9(he:PE X e te):PS X (.Return (aC e) pos) (Gj te):=by intro pins s σ H D I h;exact wpAny_Return_some (aU (he pins s σ H _ I h) λv s1 z9=>z9.el λx H1 I1 r1 q1=>⟨x,σ,H1,I1,r1,q1⟩)
noncomputable def zG:TS:=λD _ H=>D.rt .aO H
theorem Sa:PS X (.Return aD pos) zG:=λ_ _ σ H _ I h=>wpAny_Return_none ⟨.aO,σ,H,I,rfl,h⟩
noncomputable def Gk(c:TT)(t u:TS):TS:=λD σ H=>c σ H λb H1=>if b=true then t D σ H1 else u D σ H1
theorem zH{c:aq}{a b:List au}{tc:TT}(hc:PT X c tc)(ha:kh X a t)(hb:kh X b u):PS X (.If c a b pos) (Gk tc t u):=by
 intro pins s σ H D I h;refine wpAny_If (aU (hc pins s σ H _ I h) λd s1 z9=>z9.el λH1 I1 q1=>?_);cases d with|true=>exact ha pins s1 σ H1 D I1 q1|false=>exact hb pins s1 σ H1 D I1 q1
noncomputable def Sb:TS:=λ_ _ _=>False
theorem Se:PS X st Sb:=λ_ _ _ _ _ _ h=>h.elim
end
noncomputable abbrev TG:=V->St->Hp->(St->Hp->Prop)->Prop
noncomputable abbrev qK:=List V->St->Hp->(St->Hp->Prop)->Prop
noncomputable def PG(X:Cx)(target:aq)(t:TG):Prop:=
 ∀(pins:List (ah×Obj))(s:af)(σ:St)(H:Hp)(v:V)(u:aa)(Q:St->Hp->Prop),Inv X pins σ H s->RelV v u->t v σ H Q->
  wpAny (model X.prog X.w) X.A (assign target X.env u) (λ_ s'=>∃σ' H',Inv X pins σ' H' s'/\Q σ' H') X.xe s
noncomputable def yf(X:Cx)(ts:List aq)(t:qK):Prop:=
 ∀(pins:List (ah×Obj))(s:af)(σ:St)(H:Hp)(vs:List V)(us:List aa)(Q:St->Hp->Prop),Inv X pins σ H s->Vals vs us->t vs σ H Q->
  wpAny (model X.prog X.w) X.A (assignInOrder ((assignEach ts X.env).map (·.2)) us) (λ_ s'=>∃σ' H',Inv X pins σ' H' s'/\Q σ' H') X.xe s
noncomputable abbrev nR:=V->V->V->Hp->(Hp->Prop)->Prop
noncomputable def kL(X:Cx)(t:nR):Prop:=
 ∀(pins:List (ah×Obj))(s:af)(σ:St)(H:Hp)(o i v:V)(ov iv u:aa)(Q:Hp->Prop),Inv X pins σ H s->RelV o ov->RelV i iv->RelV v u->t o i v H Q->
  wpAny (model X.prog X.w) X.A (setItem ov iv u) (λ_ s'=>∃H',Inv X pins σ H' s'/\Q H') X.xe s
noncomputable abbrev yg:=V->V->Hp->VK->Prop
noncomputable def vF(X:Cx)(op:Operator)(t:yg):Prop:=
 ∀(pins:List (ah×Obj))(s:af)(σ:St)(H:Hp)(x y:V)(v u:aa)(Q:VK),Inv X pins σ H s->RelV x v->RelV y u->t x y H Q->
  wpAny (model X.prog X.w) X.A (inplaceOp op v u) (EP X pins σ Q) X.xe s
section
variable{X:Cx}{pos:Pos}
noncomputable def iu(i:Nat):TG:=λv σ H Q=>Q (σ.set i (aC v)) H
theorem MG{i:Nat}{x:Str}(hN:X.N.Nodup)(hi:X.N[i]?=aC x)(hx:Loc X.env.scope x)(hf:autoParam (X.fn x=true\/X.env.scope.names.lookup x=aC .local) L2.aF1._auto_1):PG X (.Name x pos) (iu i):=by intro pins s σ H v u Q I r h;exact wpAny_assign_Name (Ga I hN hi hx r (λs' I'=>⟨_,H,I',h⟩) hf)
noncomputable def Gn:qK:=λvs σ H Q=>vs=[]/\Q σ H
noncomputable def zI(t:TG)(u:qK):qK:=λvs σ H Q=>∃v r,vs=v::r/\t v σ H λσ' H'=>u r σ' H' Q
theorem Sf:yf X [] Gn:=by intro pins s σ H vs us Q I r h;obtain⟨e,h⟩:=h;subst e;cases r;exact assignInOrder_nil ⟨σ,H,I,h⟩
theorem Sg{e:aq}{es:List aq}{t:TG}{u:qK}(h1:PG X e t)(h2:yf X es u)
 (hs:autoParam ((assignEach (e::es) X.env).map (·.2)=assign e X.env:: (assignEach es X.env).map (·.2)) L2.aR1._auto_1):yf X (e::es) (zI t u):=by
 intro pins s σ H vs us Q I r h;obtain⟨v,vr,e1,h⟩:=h;subst e1;cases r with
 |cons r rr=>
  rw[hs];refine assignInOrder_cons (aU (h1 pins s σ H _ _ _ I r h) λ_ s1 bV=>?_);obtain⟨σ1,H1,I1,q1⟩:=bV;exact h2 pins s1 σ1 H1 _ _ Q I1 rr q1
noncomputable def Gp(K:aI)(n:Nat)(t:qK):TG:=λv σ H Q=>∃a xs,v=.ref a/\bW K H a xs/\xs.length=n/\t xs σ H Q
theorem Sh{es:List aq}{k:Nat}{t:qK}{n:Nat}(hc:X.calm)(h:yf X es t)
 (hn:autoParam ((assignEach es X.env).length=n) L2.aR1._auto_1) (hst:autoParam ((assignEach es X.env).findIdx? (·.1)=aD) L2.aR1._auto_1):PG X (.Tuple es k pos) (Gp X.K n t):=by
 intro pins s σ H v u Q I r hw;obtain⟨a,xs,e1,hq,hl,hw⟩:=hw;subst e1;cases r;obtain⟨its,rv,ht,hz⟩:=I.tuple hq;refine assign_Tuple_tuple (I.ok.hd hc) ht (by simp[hn,<-hl,rv.length]) hst λh' hx=>?_;have I1:Inv X pins σ H {s with heap:=h'}:=I.kept (t':=s.toks) λb o e=>hx b o (fP (cD e)) e;exact h pins _ σ H xs _ Q I1 (by simpa using rv) hw
noncomputable def Gq(to ti:TE)(t:nR):TG:=λv σ H Q=>to σ H λo H1=>ti σ H1 λi H2=>t o i v H2 λH3=>Q σ H3
theorem Si{o i:aq}{to ti:TE}{t:nR}(ho:PE X o to)(hi:PE X i ti)(hs:kL X t)
 (ha:∀v,assign (.Subscript o i pos) X.env v=(do
   let ov <-holding [v] (eval o X.env);let iv <-holding [v,ov] (eval i X.env)
   standAt pos
   holding [v,ov,iv] (setItem ov iv v)
   release [v,ov,iv] []):=by intro _;rfl):PG X (.Subscript o i pos) (Gq to ti t):=by
 intro pins s σ H v u Q I r h;rw[ha];refine aL (nF (aU (ho pins s σ H _ I h) λov s1 z9=>z9.el λx H1 I1 r1 q1=>?_));refine aL (nF (aU (hi pins s1 σ H1 _ I1 q1) λiv s2 z9=>z9.el λy H2 I2 r2 q2=>?_));refine aL (nq (aL (nF (aU (hs pins s2 σ H2 x y v ov iv u _ I2 r1 r2 r q2) λ_ s3 bV=>?_))));obtain⟨H3,I3,q3⟩:=bV;exact wpAny_release ⟨σ,H3,I3,q3⟩
noncomputable def qL(te:TE)(g:TG):TS:=λD σ H=>te σ H λx H1=>g x σ H1 D.nx
theorem MJ{tg e:aq}{te:TE}{g:TG}(he:PE X e te)(hg:PG X tg g)(hs:autoParam (swapsWithSole [tg] e pos.line X.env=pure false) L2.aR1._auto_1)(hw:autoParam (swappedStores [tg] e X.env=pure aD) L2.aR1._auto_1)
 (h1:autoParam ((assignEach [tg] X.env).map (·.2)=[assign tg X.env]) L2.aR1._auto_1):PS X (.Assign [tg] e pos) (qL te g):=by
 intro pins s σ H D I h;refine wpAny_Assign_stores (aU (he pins s σ H _ I h) λv s1 z9=>z9.el λx H1 I1 r1 q1=>?_) hs hw;rw[h1];exact aU (hg pins s1 σ H1 x v _ I1 r1 q1) λ_ s2 q=>q
theorem Sj{i:Nat}{x:Str}{e:aq}{te:TE}{pos':Pos}(hN:X.N.Nodup)(hi:X.N[i]?=aC x)(hx:Loc X.env.scope x)(he:PE X e te)(hs:autoParam (swapsWith e (aC (.Name x pos')) pos.line X.env=pure false) L2.aR1._auto_1)(hf:autoParam (X.fn x=true\/X.env.scope.names.lookup x=aC .local) L2.aF1._auto_1) :
 PS X (.Assign [.Name x pos'] e pos) (qL te (iu i)):=by
 intro pins s σ H D I h;refine wpAny_Assign_Name (aU (he pins s σ H _ I h) λv s1 z9=>z9.el λy H1 I1 r1 q1=>?_) hs;exact Ga I1 hN hi hx r1 (λs2 I2=>⟨_,H1,I2,q1⟩) hf
noncomputable def Gs(i:Nat)(te:TE)(ti:yg):TS:=λD σ H=>∃x,σ[i]?=aC (aC x)/\te σ H λy H1=>ti x y H1 λz H2=>D.nx (σ.set i (aC z)) H2
theorem Sk{i:Nat}{x:Str}{e:aq}{te:TE}{op:Operator}{ti:yg}{pos':Pos}(hN:X.N.Nodup)(hi:X.N[i]?=aC x)(hx:Loc X.env.scope x)(he:PE X e te)(ho:vF X op ti)(hf:autoParam (X.fn x=true\/X.env.scope.names.lookup x=aC .local) L2.aF1._auto_1) :
 PS X (.AugAssign (.Name x pos') op e pos) (Gs i te ti):=by
 intro pins s σ H D I h;obtain⟨v,e1,h⟩:=h;obtain⟨m,hn,hl⟩:=I.loc;have vis:yb X.env.scope x:=by rcases hx with k|k;exact .inl k;exact .inr (.inl k)
 obtain⟨u,r,l⟩:=hl i x v hi e1 vis;refine wpAny_AugAssign_Name ?_;have go:wpAny (model X.prog X.w) X.A (eval e X.env) (λw s₂=>wpAny (model X.prog X.w) X.A (inplaceOp op u w) (λr s₃=>wpAny (model X.prog X.w) X.A (storeName X.env x r) (λ_=>SP X pins D .next) X.xe s₃) X.xe s₂) X.xe s:=by refine aU (he pins s σ H _ I h) λw s1 z9=>z9.el λy H1 I1 r1 q1=>?_;refine aU (ho pins s1 σ H1 v y u w _ I1 r r1 q1) λz s2 z9=>z9.el λzv H2 I2 r2 q2=>?_;exact Ga I2 hN hi hx r2 (λs3 I3=>⟨_,H2,I3,q2⟩) hf
 rcases l with⟨hk,hm⟩|⟨hk,c,hc,hcell⟩;exact wpAny_loadName_local I.ok.kind hk hn hm go;rcases hk with hk|hk;exact wpAny_loadName_cell I.ok.kind hk hc hcell go;rcases hx with k|k;have:X.env.scope.names.lookup x=aC .free:=hk;rw[k]at this;cases this;have:X.env.scope.names.lookup x=aC .free:=hk;rw[k]at this;cases this
noncomputable def zJ(to ti te:TE)(qM:V->V->Hp->VK->Prop)(DK:yg)(qN:nR):TS:=λD σ H=>to σ H λo H1=>ti σ H1 λi H2=>qM o i H2 λx H3=>te σ H3 λy H4=>DK x y H4 λz H5=>qN o i z H5 λH6=>D.nx σ H6
noncomputable def zK(X:Cx)(t:V->V->Hp->VK->Prop):Prop:=
 ∀(pins:List (ah×Obj))(s:af)(σ:St)(H:Hp)(o i:V)(ov iv:aa)(Q:VK),Inv X pins σ H s->RelV o ov->RelV i iv->t o i H Q->
  wpAny (model X.prog X.w) X.A (getItem ov iv) (EP X pins σ Q) X.xe s
theorem Sl{o i e:aq}{to ti te:TE}{qM:V->V->Hp->VK->Prop}{DK:yg}{qN:nR}{op:Operator}{tpos:Pos}(ho:PE X o to)(hi:PE X i ti)(hg:zK X qM)(he:PE X e te)(hp:vF X op DK)(hs:kL X qN)
 (ha:∀ov iv new,augStore i ov iv new=(do holding [new,ov,iv] (setItem ov iv new);release [new,ov,iv] [];pure .next):=by intros;rfl):PS X (.AugAssign (.Subscript o i tpos) op e pos) (zJ to ti te qM DK qN):=by
 intro pins s σ H D I h;refine wpAny_AugAssign_SubscriptAny (aU (ho pins s σ H _ I h) λov s1 z9=>z9.el λx1 H1 I1 r1 q1=>?_) ha;refine aU (hi pins s1 σ H1 _ I1 q1) λiv s2 z9=>z9.el λx2 H2 I2 r2 q2=>?_;refine aU (hg pins s2 σ H2 x1 x2 ov iv _ I2 r1 r2 q2) λold s3 z9=>z9.el λx3 H3 I3 r3 q3=>?_;refine aU (he pins s3 σ H3 _ I3 q3) λv s4 z9=>z9.el λx4 H4 I4 r4 q4=>?_;refine aU (hp pins s4 σ H4 x3 x4 old v _ I4 r3 r4 q4) λnew s5 z9=>z9.el λx5 H5 I5 r5 q5=>?_;exact aU (hs pins s5 σ H5 x1 x2 x5 ov iv new _ I5 r1 r2 r5 q5) λ_ s6 ⟨H6,I6,q6⟩=>⟨σ,H6,I6,q6⟩
noncomputable def DL(f:Int->Int->Int):yg:=λx y H Q=>∃i j,x=.int i/\y=.int j/\Q (.int (f i j)) H
theorem MK:vF X .Add (DL λi j=>i+j):=by intro pins s σ H x y v u Q I r1 r2 h;obtain⟨i,j,e1,e2,q⟩:=h;subst e1;subst e2;obtain⟨t,rfl⟩:=r1;obtain⟨t',rfl⟩:=r2;exact iadd_int ⟨.int _,H,I.tok _,⟨_,rfl⟩,q⟩
theorem Sm:vF X .Sub (DL λi j=>i-j):=by intro pins s σ H x y v u Q I r1 r2 h;obtain⟨i,j,e1,e2,q⟩:=h;subst e1;subst e2;obtain⟨t,rfl⟩:=r1;obtain⟨t',rfl⟩:=r2;exact isub_int ⟨.int _,H,I.tok _,⟨_,rfl⟩,q⟩
end
section
variable{X:Cx}{pos:Pos}
noncomputable def Sn(c:TT)(tb:TS):TS:=λD σ H=>∃W:Nat->St->Hp->Prop,(∃m,W m σ H)/\∀m σ H,W m σ H->
 c σ H λb H1=>if b=true then ∃N:St->Hp->Prop,(∀σ' H',N σ' H'->∃m',m'<m/\W m' σ' H')/\tb {D with nx:=N,ct:=N,bk:=D.nx} σ H1 else D.nx σ H1
theorem Sq{c:aq}{body:List au}{tc:TT}{tb:TS}(hp:PassesOwn (model X.prog X.w) X.A X.env X.xe)(hc:PT X c tc)(hb:kh X body tb):PS X (.While c body [] pos) (Sn tc tb):=by
 intro pins s σ H D I h;obtain⟨W,⟨m0,w0⟩,turn⟩:=h;refine wpAny_While (codeAny_whileLoop (λn s'=>∃σ' H',Inv X pins σ' H' s'/\W n σ' H') ?_ m0 ⟨σ,H,I,w0⟩);rintro n s1 ⟨σ1,H1,I1,w1⟩;refine u9 hp (aU (hc pins s1 σ1 H1 _ I1 (turn n σ1 H1 w1)) λb s2 z9=>z9.el λH2 I2 q2=>?_);cases b with
 |true=>
  obtain⟨N,hN,q2⟩:=q2;rw[if_pos rfl];refine u9 hp (aU (hb pins s2 σ1 H2 _ I2 q2) λf s3 q3=>?_);cases f with
  |next=>
   obtain⟨σ3,H3,I3,n3⟩:=q3;obtain⟨m',hm,w3⟩:=hN σ3 H3 n3;exact⟨m',hm,σ3,H3,I3,w3⟩
  |cont=>
   obtain⟨σ3,H3,I3,n3⟩:=q3;obtain⟨m',hm,w3⟩:=hN σ3 H3 n3;exact⟨m',hm,σ3,H3,I3,w3⟩
  |brk=>exact q3
  |ret v=>exact q3
 |false=>
  rw[if_neg yV];exact wpAny_execs_nil ⟨σ1,H2,I2,q2⟩
end
set_option genInjectivity false in
structure It where
 go:Nat->Hp->Prop
 vG:Nat->Hp->V->Hp->Prop
 stop:Nat->Hp->Prop
noncomputable def dO(X:Cx)(pins:List (ah×Obj))(H:Hp)(b:ah):Prop:=
 H b=aD/\b≠X.env.locals/\b∉X.fs/\(b∈X.ex\/X.s₀.heap.objs.size<=b)/\(∀x c,X.env.cells.lookup x=aC c->c≠b)/\∀p∈X.pn++pins,p.1≠b
theorem Inv.kM{X:Cx}{pins:List (ah×Obj)}{σ:St}{H H':Hp}{s:af}{b:ah}(I:Inv X pins σ H s)(hb:s.heap.objs.size<=b)(hn:H' b=aD):dO X pins H' b:=by refine⟨hn,nt (dN I.lt hb),I.F6 hb,.inr (gZ I.sz hb),λx c e z=>?_,λp hp z=>?_⟩;obtain⟨v,q⟩:=I.cell x c e;exact absurd (dN q.lt (by rw[z];exact hb)) (i8 _);exact absurd (dN (cD (I.pin p hp).1) (by rw[z];exact hb)) (i8 _)
structure Turn(P:ai)(w:ak)(K:aI)(tg:aq)(J:It)(fp:List ah)(it:ah)(tn:Nat->aA->Prop):Prop where
 mem:it∈fp
 obj:∀i h,tn i h->∀b∈fp,∃o,h.get? b=aC o/\∀v,o.data≠.cell v
 keep:∀i h h',tn i h->(∀b∈fp,∀o,h.get? b=aC o->h'.get? b=aC o)->tn i h'
 item:∀(X:Cx),X.prog=P->X.w=w->X.K=K->X.calm=true->∀(i:Nat)(pins:List (ah×Obj))(s:af)(σ:St)(H:Hp)(E:aa->af->Prop),Inv X pins σ H s->(∀b∈fp,dO X pins H b)->tn i s.heap->J.go i H->
  wpAny (model P w) X.A (pyNext (.ref it)) (λr s1=>∃u,r=aC u/\
   wpAny (model P w) X.A (letOwnedTupleGo tg (.ref it) u) (λ_ s2=>∃x H',Inv X pins σ H' s2/\RelV x u/\J.vG i H x H'/\tn (i+1) s2.heap/\∀b∈fp,H' b=aD) E s1) E s
 done:∀(X:Cx),X.prog=P->X.w=w->X.K=K->X.calm=true->∀(i:Nat)(pins:List (ah×Obj))(s:af)(σ:St)(H:Hp)(E:aa->af->Prop),Inv X pins σ H s->(∀b∈fp,dO X pins H b)->tn i s.heap->J.stop i H->
  wpAny (model P w) X.A (pyNext (.ref it)) (λr s1=>r=aD/\Inv X pins σ H s1) E s
 self:∀(A:ao)(i:Nat)(s:af)(Q:aa->af->Prop)(E:aa->af->Prop),tn i s.heap->Q (.ref it) s->wpAny (model P w) A (pyIter (.ref it)) Q E s
noncomputable abbrev TI:=St->Hp->(It->Hp->Prop)->Prop
noncomputable def DM(X:Cx)(pins:List (ah×Obj))(σ:St)(tg:aq)(R:It->Hp->Prop)(itv:aa)(s2:af):Prop:=
 ∃(it:ah) (fp:List ah) (tn:Nat->aA->Prop) (J:It) (H':Hp),itv=.ref it/\Inv X pins σ H' s2/\Turn X.prog X.w X.K tg J fp it tn/\tn 0 s2.heap/\(∀b∈fp,dO X pins H' b)/\R J H'
noncomputable def PI(X:Cx)(tg iter:aq)(wi:TI):Prop:=
 ∀(pins:List (ah×Obj))(s:af)(σ:St)(H:Hp)(R:It->Hp->Prop),Inv X pins σ H s->wi σ H R->
  wpAny (model X.prog X.w) X.A (eval iter X.env) (λv s1=>wpAny (model X.prog X.w) X.A (pyIter v) (DM X pins σ tg R) X.xe s1) X.xe s
theorem nS{M:Model}{A:ao}{E:aa->af->Prop}{s:af}{tg:aq}{it:ah}{u:aa}{o:Obj}{n:String}{vs:Array aa}{Q:Unit->af->Prop}(ho:s.heap.get? it=aC o)(hc:o.cls=.type n)(hd:o.data=.fields vs)
 (hn:["enumerate","zip","dict_itemiterator","dict_reverseitemiterator","odict_iterator","itertools.zip_longest","itertools.pairwise"].contains n=false) (hQ:Q () s):wpAny M A (letOwnedTupleGo tg (.ref it) u) Q E s:=by
 unfold letOwnedTupleGo;cases tg<;>first
  |exact bz hQ
  |(cases u<;>first
     |exact bz hQ
     |(refine aL (wpAny_load ho ?_)
       rw[hc,hd];show wpAny M A (if(["enumerate","zip","dict_itemiterator","dict_reverseitemiterator","odict_iterator","itertools.zip_longest","itertools.pairwise"].contains n&&vs[0]? == aC (rawInt _))=true then _ else _) Q E s;rw[if_neg (by intro h;rw[hn,yW]at h;cases h)];exact bz hQ))
noncomputable def DN(K:aI)(a:ah):It:=
 ⟨λi H=>∃xs x,cz K H a xs/\xs[i]?=aC x,λi H x H'=>H'=H/\∀xs,cz K H a xs->xs[i]?=aC x,λi H=>∃xs,cz K H a xs/\xs.length<=i⟩
noncomputable def Gu(K:aI)(a:ah):It:=
 ⟨λi H=>∃xs x,bW K H a xs/\xs[i]?=aC x,λi H x H'=>H'=H/\∀xs,bW K H a xs->xs[i]?=aC x,λi H=>∃xs,bW K H a xs/\xs.length<=i⟩
noncomputable def zL(lo:Int)(n:Nat):It:=⟨λi _=>i<n,λi H x H'=>H'=H/\x=.int (lo+i),λi _=>n<=i⟩
theorem Ss{P:ai}{w:ak}{K:aI}{tg:aq}(a it:ah):Turn P w K tg (DN K a) [it] it (λi h=>h.IsListIter it a i)where
 mem:=by simp
 obj:=λi h st b hb=>by
  have e:b=it:=by simpa using hb
  subst e;obtain⟨o,e,c,d⟩:=st;exact⟨o,e,λv z=>by rw[d]at z;cases z⟩
 keep:=λi h h' st k=>st.at λo e=>k it (by simp) o e
 item:=by intro X hP hw hK hc i pins s σ H E I hf st hg;subst hP hw hK;obtain⟨xs,x,hq,hx⟩:=hg;obtain⟨its,rv,p,hz⟩:=I.list hq;obtain⟨u,hu,ru⟩:=rv.get hx;obtain⟨f0,f1,f2,f3,f4,f5⟩:=hf it (by simp);refine wpAny_pyNext_list_item st p.isList (x:=u) (by simpa using hu) λh' st' sb=>?_;have I1:Inv X pins σ H {s with heap:=h'}:=I.turned (t':=s.toks) (λb o hb e=>(sb.2 b hb).trans e) f0 f1 f3 f4 f5;obtain⟨o,e,c,d⟩:=id st';exact⟨u,rfl,nS (s:={s with heap:=h'}) e c d (by decide) ⟨x,H,I1,ru,⟨rfl,λys hy=>by rw[I.jG hy hq];exact hx⟩,st',λb hb=>(hf b hb).1⟩⟩
 done:=by intro X hP hw hK hc i pins s σ H E I hf st hg;subst hP hw hK;obtain⟨xs,hq,hx⟩:=hg;obtain⟨its,rv,p,hz⟩:=I.list hq;obtain⟨f0,f1,f2,f3,f4,f5⟩:=hf it (by simp);have hl:=rv.length;exact wpAny_pyNext_list_end (I.ok.hd hc) st p.isList (by simp;lia) λh' eb=>⟨rfl,I.turned (t':=s.toks) (λb o hb e=>eb b o hb e) f0 f1 f3 f4 f5⟩
 self:=λ_ _ _ _ _ st h=>wpAny_pyIter_listiter st h
theorem Su{P:ai}{w:ak}{K:aI}{tg:aq}(a it:ah):Turn P w K tg (Gu K a) [it] it (λi h=>h.IsTupleIter it a i)where
 mem:=by simp
 obj:=λi h st b hb=>by
  have e:b=it:=by simpa using hb
  subst e;obtain⟨o,e,c,d⟩:=st;exact⟨o,e,λv z=>by rw[d]at z;cases z⟩
 keep:=λi h h' st k=>st.at λo e=>k it (by simp) o e
 item:=by intro X hP hw hK hc i pins s σ H E I hf st hg;subst hP hw hK;obtain⟨xs,x,hq,hx⟩:=hg;obtain⟨its,rv,p,hz⟩:=I.tuple hq;obtain⟨u,hu,ru⟩:=rv.get hx;obtain⟨f0,f1,f2,f3,f4,f5⟩:=hf it (by simp);refine wpAny_pyNext_tuple_item st (show s.heap.IsTuple a its.toArray from p) (x:=u) (by simpa using hu) λh' st' sb=>?_;have I1:Inv X pins σ H {s with heap:=h'}:=I.turned (t':=s.toks) (λb o hb e=>(sb.2 b hb).trans e) f0 f1 f3 f4 f5;obtain⟨o,e,c,d⟩:=id st';exact⟨u,rfl,nS (s:={s with heap:=h'}) e c d (by decide) ⟨x,H,I1,ru,⟨rfl,λys hy=>by rw[I.gz hy hq];exact hx⟩,st',λb hb=>(hf b hb).1⟩⟩
 done:=by intro X hP hw hK hc i pins s σ H E I hf st hg;subst hP hw hK;obtain⟨xs,hq,hx⟩:=hg;obtain⟨its,rv,p,hz⟩:=I.tuple hq;obtain⟨f0,f1,f2,f3,f4,f5⟩:=hf it (by simp);have hl:=rv.length;exact wpAny_pyNext_tuple_end (I.ok.hd hc) st (show s.heap.IsTuple a its.toArray from p) (by simp;lia) λh' eb=>⟨rfl,I.turned (t':=s.toks) (λb o hb e=>eb b o hb e) f0 f1 f3 f4 f5⟩
 self:=λ_ _ _ _ _ st h=>wpAny_pyIter_tupleiter st h
theorem Sv{P:ai}{w:ak}{K:aI}{tg:aq}(it:ah)(lo:Int)(n:Nat):Turn P w K tg (zL lo n) [it] it (λi h=>IsRangeIter h it (lo+ (i:Nat)*1) ((n:Int)- (i:Nat)) 1)where
 mem:=by simp
 obj:=λi h st b hb=>by
  have e:b=it:=by simpa using hb
  subst e;exact⟨_,st,λv z=>by
   have z':Data.fields _=Data.cell v:=z;cases z'⟩
 keep:=λi h h' st k=>k it (by simp) _ st
 item:=by intro X hP hw hK hc i pins s σ H E I hf st hg;subst hP hw hK;obtain⟨f0,f1,f2,f3,f4,f5⟩:=hf it (by simp);have W:=Walks.range (prog:=X.prog) (w:=X.w) (I.ok.hd hc) it lo 1 n;refine W.item i s _ _ hg st λv h' tk hv st' kk=>?_;obtain⟨t,rfl⟩:=hv;have I1:Inv X pins σ H {s with heap:=h',toks:=tk}:=I.turned (λb o hb e=>kk b o (by simpa using hb) e) f0 f1 f3 f4 f5;refine⟨_,rfl,nS (s:={s with heap:=h',toks:=tk}) (n:="range_iterator") st' rfl rfl (by decide) ⟨.int (lo+i),H,I1,⟨t,?_⟩,⟨rfl,rfl⟩,st',λb hb=>(hf b hb).1⟩⟩;rw[Int.mul_one]
 done:=by intro X hP hw hK hc i pins s σ H E I hf st hg;subst hP hw hK;obtain⟨f0,f1,f2,f3,f4,f5⟩:=hf it (by simp);exact wpAny_pyNext_range_end (I.ok.hd hc) st (by have:n<=i:=hg;lia) λh' eb=>⟨rfl,I.turned (t':=s.toks) (λb o hb e=>eb b o hb e) f0 f1 f3 f4 f5⟩
 self:=λ_ _ _ _ _ st h=>wpAny_pyIter_rangeiter st h
section
variable{X:Cx}{tg:aq}
noncomputable def zM(K:aI)(tl:TE):TI:=λσ H R=>tl σ H λx H1=>∃a,x=.ref a/\(∃xs,cz K H1 a xs)/\R (DN K a) H1
noncomputable def Gv(K:aI)(tl:TE):TI:=λσ H R=>tl σ H λx H1=>∃a,x=.ref a/\(∃xs,bW K H1 a xs)/\R (Gu K a) H1
theorem ML{l:aq}{tl:TE}(hl:PE X l tl):PI X tg l (zM X.K tl):=by
 intro pins s σ H R I h;refine aU (hl pins s σ H _ I h) λv s1 z9=>z9.el λx H1 I1 r1 q1=>?_;obtain⟨a,e,⟨xs,hq⟩,q⟩:=q1;subst e;cases r1;obtain⟨its,rv,p,hz⟩:=I1.list hq;refine xK p.isList ?_;refine⟨s1.heap.objs.size,[s1.heap.objs.size],_,_,H1,rfl,I1.kept (t':=s1.toks) λb o e=>ck _ e,Ss a _,⟨_,iF _ rfl,rfl,rfl⟩,λb hb=>?_,q⟩;have e:b=s1.heap.objs.size:=by simpa using hb
 subst e;exact I1.kM (aQ _) (I1.hok.fresh (aQ _))
theorem Sw{l:aq}{tl:TE}(hl:PE X l tl):PI X tg l (Gv X.K tl):=by
 intro pins s σ H R I h;refine aU (hl pins s σ H _ I h) λv s1 z9=>z9.el λx H1 I1 r1 q1=>?_;obtain⟨a,e,⟨xs,hq⟩,q⟩:=q1;subst e;cases r1;obtain⟨its,rv,p,hz⟩:=I1.tuple hq;refine u6 (show s1.heap.IsTuple a its.toArray from p) ?_;refine⟨s1.heap.objs.size,[s1.heap.objs.size],_,_,H1,rfl,I1.kept (t':=s1.toks) λb o e=>ck _ e,Su a _,⟨_,iF _ rfl,rfl,rfl⟩,λb hb=>?_,q⟩;have e:b=s1.heap.objs.size:=by simpa using hb
 subst e;exact I1.kM (aQ _) (I1.hok.fresh (aQ _))
theorem MM{pins:List (ah×Obj)}{σ:St}{H:Hp}{s:af}{R:It->Hp->Prop}{E:aa->af->Prop}{lo hi:Int}{t u v:Tok}{tk:Nat}(I:Inv X pins σ H s)(h1:-(2 ^ 62)<=lo)(h2:lo<2 ^ 62)(h3:-(2 ^ 62)<=hi)(h4:hi<2 ^ 62)
 (q:R (zL lo (hi-lo).toNat) H):wpAny (model X.prog X.w) X.A (pyIter (.ref s.heap.objs.size)) (DM X pins σ tg R) E {s with heap:=s.heap.push {cls:=.type "range",data:=.fields #[.int lo t,.int hi u,.int 1 v]},toks:=tk}:=by
 refine wpAny_pyIter_range (IsRange.new ..) (small_one h1 h2 h3 h4) ?_;have I1:Inv X pins σ H {s with heap:=s.heap.push {cls:=.type "range",data:=.fields #[.int lo t,.int hi u,.int 1 v]},toks:=tk}:=I.kept λb o e=>ck _ e;refine⟨(s.heap.push {cls:=.type "range",data:=.fields #[.int lo t,.int hi u,.int 1 v]}).objs.size,[(s.heap.push {cls:=.type "range",data:=.fields #[.int lo t,.int hi u,.int 1 v]}).objs.size],_,_,H,rfl,
  I1.kept (t':=tk) λb o e=>ck _ e,Sv _ lo (hi-lo).toNat,?_,λb hb=>?_,q⟩
 have e1:lo+ ((0:Nat):Int)*1=lo:=by simp
 have e2:(((hi-lo).toNat:Nat):Int)- ((0:Nat):Int)=Builtin.Range.rangeSize lo hi 1:=by rw[rangeSize_one];split<;>lia
 show IsRangeIter _ _ (lo+ ((0:Nat):Int)*1) ((((hi-lo).toNat:Nat):Int)- ((0:Nat):Int)) 1;rw[e1,e2];exact iF _ rfl;have e:b=(s.heap.push {cls:=.type "range",data:=.fields #[.int lo t,.int hi u,.int 1 v]}).objs.size:=by simpa using hb
 subst e;exact I1.kM (aQ _) (I1.hok.fresh (aQ _))
noncomputable def zN(ta:TA):TI:=λσ H R=>ta σ H λvs H1=>∃j:Int,vs=[.int j]/\-(2 ^ 62)<=j/\j<2 ^ 62/\R (zL 0 j.toNat) H1
noncomputable def zO(ta:TA):TI:=λσ H R=>ta σ H λvs H1=>∃i j:Int,vs=[.int i,.int j]/\(-(2 ^ 62)<=i/\i<2 ^ 62/\-(2 ^ 62)<=j/\j<2 ^ 62)/\R (zL i (j-i).toNat) H1
theorem Sx{a:aq}{ta:TA}{p pos:Pos}(hg:Gl X "range")(hm:X.mg "range" = aD)(ha:PA X [a] ta)(hs:autoParam (starEach [a] X.env=[(false,eval a X.env)]) L2.aR1._auto_1):PI X tg (.Call (.Name "range" p) [a] [] pos) (zN ta):=by
 intro pins s σ H R I h;refine Call_ (qI I hg hm boot_range (vp (aU (ha pos pins s σ H _ I h) λus s1 z9=>z9.el λvs H1 I1 r1 q1=>?_) hs rfl));obtain⟨j,e,q1,q2,q⟩:=q1;subst e;cases r1 with
 |cons r rr=>
  cases rr;obtain⟨t,rfl⟩:=r;exact call_range_1 (MM I1 (by lia) (by lia) q1 q2 (by simpa using q))
theorem Sy{a b:aq}{ta:TA}{p pos:Pos}(hg:Gl X "range")(hm:X.mg "range" = aD)(ha:PA X [a,b] ta)(hs:autoParam (starEach [a,b] X.env=[(false,eval a X.env),(false,eval b X.env)]) L2.aR1._auto_1)(hs2:autoParam (starEach [b] X.env=[(false,eval b X.env)]) L2.aR1._auto_1) :
 PI X tg (.Call (.Name "range" p) [a,b] [] pos) (zO ta):=by
 intro pins s σ H R I h;refine Call_ (qI I hg hm boot_range (vp (aU (ha pos pins s σ H _ I h) λus s1 z9=>z9.el λvs H1 I1 r1 q1=>?_) (by rw[hs,hs2]) (by rw[hs2];rfl)));obtain⟨i,j,e,⟨q1,q2,q3,q4⟩,q⟩:=q1;subst e;cases r1 with
 |cons r rr=>
  cases rr with
  |cons r' rr=>
   cases rr;obtain⟨t,rfl⟩:=r;obtain⟨t',rfl⟩:=r';exact call_range_2 (MM I1 q1 q2 q3 q4 q)
noncomputable def zP(wi:TI)(g:TG)(tb:TS):TS:=λD σ H=>wi σ H λJ H1=>∃W:Nat->Nat->St->Hp->Prop,(∃m,W 0 m σ H1)/\∀i m σ H,W i m σ H->
 (J.stop i H/\D.nx σ H)\/(J.go i H/\∃N:St->Hp->Prop,(∀σ' H',N σ' H'->∃m',m'<m/\W (i+1) m' σ' H')/\∀x H',J.vG i H x H'->g x σ H' λσ2 H2=>tb {D with nx:=N,ct:=N,bk:=D.nx} σ2 H2)
noncomputable def vH(fp:List ah)(h:aA):List (ah×Obj):=fp.filterMap λb=>(h.get? b).map λo=>(b,o)
theorem tY{fp:List ah}{h:aA}{b:ah}{o:Obj}(hb:b∈fp)(e:h.get? b=aC o):(b,o)∈vH fp h:=List.mem_filterMap.mpr ⟨b,hb,by rw[e];rfl⟩
theorem Sz{fp:List ah}{h:aA}{p:ah×Obj}(hp:p∈vH fp h):p.1∈fp/\h.get? p.1=aC p.2:=by
 obtain⟨b,hb,e⟩:=List.mem_filterMap.mp hp;cases q:h.get? b with
 |none=>rw[q]at e;cases e
 |some o=>
  rw[q]at e;have e':(b,o)=p:=l8 e;subst e';exact⟨hb,q⟩
theorem Inv.pinned{pins:List (ah×Obj)}{σ:St}{H:Hp}{s:af}{fp:List ah}(I:Inv X pins σ H s)(hf:∀b∈fp,dO X pins H b)(ho:∀b∈fp,∃o,s.heap.get? b=aC o/\∀v,o.data≠.cell v):Inv X (pins++vH fp s.heap) σ H s:=
 I.lg λp hp=>(lZ.mp hp).elim (λz=>I.pin p (g6 _ z)) λz=>by
  obtain⟨hb,e⟩:=Sz z;obtain⟨f0,f1,f2,_⟩:=hf p.1 hb;obtain⟨o,e',d⟩:=ho p.1 hb;rw[e]at e';cases e';exact⟨e,f0,f1,f2,d⟩
theorem Inv.cY{pins pl:List (ah×Obj)}{σ:St}{H:Hp}{s:af}(I:Inv X (pins++pl) σ H s):Inv X pins σ H s:=I.lg λp hp=>I.pin p (g6 _ (yX _ hp))
theorem SD{iter:aq}{body:List au}{wi:TI}{g:TG}{tb:TS}{pos:Pos}(hp:PassesOwn (model X.prog X.w) X.A X.env X.xe)(hc:X.calm)(hi:PI X tg iter wi)(hg:PG X tg g)(hb:kh X body tb)
 (hs:∀x,foldedSetIterable iter X.env x=pure x:=by intro _;rfl):PS X (.For tg iter body [] pos) (zP wi g tb):=by
 intro pins s σ H D I h;refine wpAny_For (aU (hi pins s σ H _ I h) λv s1 h1=>aU h1 λitv s2 h2=>?_) hs;obtain⟨it,fp,tn,J,H2,e,I2,T,st2,f2,W,⟨m0,w0⟩,turn⟩:=h2;subst e;have kN:∀{H':Hp},(∀b∈fp,H' b=aD)->∀b∈fp,dO X pins H' b:=λhn b hb=>⟨hn b hb,(f2 b hb).2⟩
 refine codeAny_forLoop_any (λn s'=>∃i σ' H',Inv X pins σ' H' s'/\tn i s'.heap/\(∀b∈fp,H' b=aD)/\W i n σ' H') ?_ m0 ⟨0,σ,H2,I2,st2,λb hb=>(f2 b hb).1,w0⟩;rintro n s3 ⟨i,σ3,H3,I3,st3,zQ,w3⟩;rcases turn i n σ3 H3 w3 with⟨stop,qn⟩|⟨go,N,hN,step⟩
 .refine u9 hp (aU (T.done X rfl rfl rfl hc i pins s3 σ3 H3 X.xe I3 (kN zQ) st3 stop) λr s4 bV=>?_)
  obtain⟨hr,I4⟩:=bV;subst hr;exact wpAny_execs_nil ⟨σ3,H3,I4,qn⟩
 .refine u9 hp (aU (T.item X rfl rfl rfl hc i pins s3 σ3 H3 X.xe I3 (kN zQ) st3 go) λr s4 bV=>?_)
  obtain⟨u,hr,h4⟩:=bV;subst hr;refine u9 hp (aU h4 λ_ s5 bV=>?_);obtain⟨x,H5,I5,r5,y5,mq,qP⟩:=bV;have Gw:=I5.pinned (kN qP) (T.obj _ _ mq);refine u9 hp (aU (hg _ s5 σ3 H5 x u _ Gw r5 (step x H5 y5)) λ_ s6 bV=>?_);obtain⟨jw,H6,I6,q6⟩:=bV;refine u9 hp (aU (hb _ s6 jw H6 _ I6 q6) λf s7 q7=>?_);have again:∀{ki:St}{H7:Hp},Inv X (pins++vH fp s5.heap) ki H7 s7->N ki H7->∃m,m<n/\∃i σ' H',Inv X pins σ' H' s7/\tn i s7.heap/\(∀b∈fp,H' b=aD)/\W i m σ' H':=λ{ki H7} I7 n7=>by
   obtain⟨m',hm,w7⟩:=hN ki H7 n7;refine⟨m',hm,i+1,ki,H7,I7.cY,T.keep _ _ _ mq λb hb o e=>(I7.pin (b,o) (g6 _ (g6 _ (tY hb e)))).1,λb hb=>?_,w7⟩;obtain⟨o,e,d⟩:=T.obj _ _ mq b hb;exact(I7.pin (b,o) (g6 _ (g6 _ (tY hb e)))).2.1
  cases f with|next=>obtain⟨ki,H7,I7,n7⟩:=q7;exact again I7 n7|cont=>obtain⟨ki,H7,I7,n7⟩:=q7;exact again I7 n7|brk=>obtain⟨ki,H7,I7,q7⟩:=q7;exact⟨ki,H7,I7.cY,q7⟩|ret v=>obtain⟨x7,ki,H7,I7,r7,q7⟩:=q7;exact⟨x7,ki,H7,I7.cY,r7,q7⟩
end
noncomputable abbrev R2:=V->V->Hp->VK->Prop
noncomputable def cN(X:Cx)(f:aa->aa->Sem aa)(r:R2):Prop:=
 ∀(pins:List (ah×Obj))(s:af)(σ:St)(H:Hp)(x y:V)(v u:aa)(Q:VK),Inv X pins σ H s->RelV x v->RelV y u->r x y H Q->
  wpAny (model X.prog X.w) X.A (f v u) (EP X pins σ Q) X.xe s
noncomputable def Gx(X:Cx)(f:aa->Sem aa)(r:V->Hp->VK->Prop):Prop:=
 ∀(pins:List (ah×Obj))(s:af)(σ:St)(H:Hp)(x:V)(v:aa)(Q:VK),Inv X pins σ H s->RelV x v->r x H Q->
  wpAny (model X.prog X.w) X.A (f v) (EP X pins σ Q) X.xe s
noncomputable def bR(X:Cx)(f:aa)(r:List V->Hp->VK->Prop):Prop:=
 ∀(pins:List (ah×Obj))(s:af)(σ:St)(H:Hp)(xs:List V)(us:List aa)(Q:VK),Inv X pins σ H s->Vals xs us->r xs H Q->
  wpAny (model X.prog X.w) X.A (call f us) (EP X pins σ Q) X.xe s
noncomputable def Gy(X:Cx)(r:V->Hp->(Bool->Hp->Prop)->Prop):Prop:=
 ∀(pins:List (ah×Obj))(s:af)(σ:St)(H:Hp)(x:V)(v:aa)(Q:Bool->Hp->Prop),Inv X pins σ H s->RelV x v->r x H Q->
  wpAny (model X.prog X.w) X.A (truthy v) (TP X pins σ Q) X.xe s
noncomputable def DO(r:R2)(ta tb:TE):TE:=λσ H Q=>ta σ H λx H1=>tb σ H1 λy H2=>r x y H2 Q
noncomputable def SG(r:V->Hp->VK->Prop)(ta:TE):TE:=λσ H Q=>ta σ H λx H1=>r x H1 Q
noncomputable def rI(C:Int->Int->Prop)(g:Int->Int->V):R2:=λx y H Q=>∃i j,x=.int i/\y=.int j/\C i j/\Q (g i j) H
noncomputable def mz(g:Int->Int->V):R2:=λx y H Q=>∃i j,x=.int i/\y=.int j/\Q (g i j) H
noncomputable def rU(g:Int->V):V->Hp->VK->Prop:=λx H Q=>∃i,x=.int i/\Q (g i) H
section
variable{X:Cx}{a b c:aq}{ta tb tc:TE}{pos:Pos}
theorem vI(ha:PE X a ta)(hb:PE X b tb){pins:List (ah×Obj)}{s:af}{σ:St}{H:Hp}{R:V->V->Hp->Prop}(I:Inv X pins σ H s)
 (h:ta σ H λx H1=>tb σ H1 λy H2=>R x y H2) {Q:aa->af->Prop} {f:aa->aa->Sem aa}
 (hf:∀v u s2 x y H2,Inv X pins σ H2 s2->RelV x v->RelV y u->R x y H2->wpAny (model X.prog X.w) X.A (f v u) Q X.xe s2) :
 wpAny (model X.prog X.w) X.A (eval a X.env) (λv s₁=>wpAny (model X.prog X.w) X.A (eval b X.env) (λu s₂=>wpAny (model X.prog X.w) X.A (f v u) Q X.xe s₂) X.xe s₁) X.xe s:=by
 refine aU (ha pins s σ H _ I h) λv s1 z9=>z9.el λx H1 I1 r1 q1=>?_;refine aU (hb pins s1 σ H1 _ I1 q1) λu s2 z9=>z9.el λy H2 I2 r2 q2=>?_;exact hf v u s2 x y H2 I2 r1 r2 q2
theorem zR{op:Operator}{r:R2}(ho:cN X (binaryOp op) r)(ha:PE X a ta)(hb:PE X b tb):PE X (.BinOp a op b pos) (DO r ta tb):=by intro pins s σ H Q I h;exact wpAny_BinOp (vI ha hb I h λv u s2 x y H2 I2 rx ry q=>ho pins s2 σ H2 x y v u Q I2 rx ry q)
theorem zS{op:UnaryOp}{r:V->Hp->VK->Prop}(ho:Gx X (unaryOp op) r)(ha:PE X a ta):PE X (.UnaryOp op a pos) (SG r ta):=by intro pins s σ H Q I h;exact UnaryOp_ (aU (ha pins s σ H _ I h) λv s1 z9=>z9.el λx H1 I1 r1 q1=>ho pins s1 σ H1 x v Q I1 r1 q1)
theorem dP{f:aa->aa->Sem aa}{C:Int->Int->Prop}{g:Int->Int->Int}
 (rule:∀(i j:Int)(t u:Tok)(s:af)(Q:aa->af->Prop)(E:aa->af->Prop),C i j->Q (.int (g i j) s.toks) {s with toks:=s.toks+1}->wpAny (model X.prog X.w) X.A (f (.int i t) (.int j u)) Q E s) :
 cN X f (rI C λi j=>.int (g i j)):=by
 intro pins s σ H x y v u Q I rx ry h;obtain⟨i,j,rfl,rfl,hc,q⟩:=h;obtain⟨t,rfl⟩:=rx;obtain⟨t',rfl⟩:=ry;exact rule i j t t' s _ _ hc ⟨.int (g i j),H,I.tok _,⟨_,rfl⟩,q⟩
theorem zT{f:aa->aa->Sem aa}{g:Int->Int->Int}
 (rule:∀(i j:Int)(t u:Tok)(s:af)(Q:aa->af->Prop)(E:aa->af->Prop),Q (.int (g i j) s.toks) {s with toks:=s.toks+1}->wpAny (model X.prog X.w) X.A (f (.int i t) (.int j u)) Q E s) :
 cN X f (mz λi j=>.int (g i j)):=by
 intro pins s σ H x y v u Q I rx ry h;obtain⟨i,j,rfl,rfl,q⟩:=h;obtain⟨t,rfl⟩:=rx;obtain⟨t',rfl⟩:=ry;exact rule i j t t' s _ _ ⟨.int (g i j),H,I.tok _,⟨_,rfl⟩,q⟩
theorem qQ{f:aa->aa->Sem aa}{g:Int->Int->Bool}
 (rule:∀(i j:Int)(t u:Tok)(s:af)(Q:aa->af->Prop)(E:aa->af->Prop),Q (.bool (g i j)) s->wpAny (model X.prog X.w) X.A (f (.int i t) (.int j u)) Q E s) :
 cN X f (mz λi j=>.bl (g i j)):=by
 intro pins s σ H x y v u Q I rx ry h;obtain⟨i,j,rfl,rfl,q⟩:=h;obtain⟨t,rfl⟩:=rx;obtain⟨t',rfl⟩:=ry;exact rule i j t t' s _ _ ⟨.bl (g i j),H,I,rfl,q⟩
noncomputable def qR(i j:Int):Prop:=0<j/\j<1073741824
noncomputable def qS(i j:Int):Prop:=0<=j/\j<=1000000/\i.natAbs<2 ^ 64
noncomputable def mC(i j:Int):Prop:=(-(2 ^ 64)<i/\i<2 ^ 64)\/(-(2 ^ 64)<j/\j<2 ^ 64)
theorem mC.ok{i j:Int}(h:mC i j):IntMulOk i j:=by rcases h with⟨h1,h2⟩|⟨h1,h2⟩;exact .of_left (intBits_le_64 h1 h2);exact .of_right (intBits_le_64 h1 h2)
theorem SH:cN X (binaryOp .Add) (mz λi j=>.int (i+j)):=zT λ_ _ _ _ _ _ _ q=>add_int q
theorem SI:cN X (binaryOp .Sub) (mz λi j=>.int (i-j)):=zT λ_ _ _ _ _ _ _ q=>sub_int q
theorem SJ:cN X (binaryOp .Mult) (rI mC λi j=>.int (i*j)):=dP λ_ _ _ _ _ _ _ hc q=>mul_int q hc.ok
theorem SK:cN X (binaryOp .FloorDiv) (rI qR λi j=>.int (i/j)):=dP λi j _ _ _ _ _ hc q=>by
 have h1:(0:Int)<j:=hc.1;have h2:j<1073741824:=hc.2;exact floordiv_int (by lia) (by rw[Int.fdiv_eq_ediv_of_nonneg i (by lia)];exact q) (.inl (PyProof.noPylong_small (by lia)))
theorem SM:cN X (binaryOp .Mod) (rI (λ_ j=>0<j) λi j=>.int (i % j)):=dP λi j _ _ _ _ _ hc q=>by
 have h1:(0:Int)<j:=hc;exact mod_int' (by lia) (by rw[Int.fmod_eq_emod_of_nonneg i (by lia)];exact q)
theorem SN:cN X (binaryOp .Pow) (rI qS λi j=>.int (i ^ j.toNat)):=dP λ_ _ _ _ _ _ _ hc q=>pow_int_small hc.1 hc.2.1 hc.2.2 q
theorem SO:cN X (binaryOp .LShift) (rI qS λi j=>.int (i*2 ^ j.toNat)):=dP λ_ _ _ _ _ _ _ hc q=>lshift_int_small hc.1 hc.2.1 hc.2.2 q
theorem SQ:cN X (inplaceOp .Mult) (rI mC λi j=>.int (i*j)):=dP λ_ _ _ _ _ _ _ hc q=>imul_int q hc.ok
theorem SR:cN X (inplaceOp .FloorDiv) (rI qR λi j=>.int (i/j)):=dP λi j _ _ _ _ _ hc q=>by
 have h1:(0:Int)<j:=hc.1;have h2:j<1073741824:=hc.2;exact ifloordiv_int (by lia) (by rw[Int.fdiv_eq_ediv_of_nonneg i (by lia)];exact q) (.inl (PyProof.noPylong_small (by lia)))
theorem SV{f:aa->Sem aa}{g:Int->Int}
 (rule:∀(i:Int)(t:Tok)(s:af)(Q:aa->af->Prop)(E:aa->af->Prop),Q (.int (g i) s.toks) {s with toks:=s.toks+1}->wpAny (model X.prog X.w) X.A (f (.int i t)) Q E s) :
 Gx X f (rU λi=>.int (g i)):=by
 intro pins s σ H x v Q I rx h;obtain⟨i,rfl,q⟩:=h;obtain⟨t,rfl⟩:=rx;exact rule i t s _ _ ⟨.int (g i),H,I.tok _,⟨_,rfl⟩,q⟩
theorem SX:Gx X (unaryOp .USub) (rU λi=>.int (-i)):=SV λ_ _ _ _ _ q=>neg_int q
end
section
variable{X:Cx}{a b c:aq}{ta tb tc:TE}{pos:Pos}
theorem DP{pins:List (ah×Obj)}{σ:St}{H:Hp}{s:af}{Q:VK}{k k':Bool}(I:Inv X pins σ H s)(q:Q (.bl k) H)(e:k=k'):EP X pins σ Q (.bool k') s:=by subst e;exact⟨.bl k,H,I,rfl,q⟩
theorem zU:cN X (compareOp .Lt) (mz λi j=>.bl (decide (i<j))):=qQ λ_ _ _ _ _ _ _ q=>lt_int q
theorem zV:cN X (compareOp .LtE) (mz λi j=>.bl (decide (i<=j))):=qQ λ_ _ _ _ _ _ _ q=>le_int q
theorem zW:cN X (compareOp .Gt) (mz λi j=>.bl (decide (j<i))):=qQ λ_ _ _ _ _ _ _ q=>gt_int q
theorem zX:cN X (compareOp .GtE) (mz λi j=>.bl (decide (j<=i))):=qQ λ_ _ _ _ _ _ _ q=>ge_int q
theorem SY:cN X (compareOp .Is) (λx y H Q=>y=.aO/\Q (.bl (decide (x=.aO))) H):=by
 intro pins s σ H x y v u Q I rx ry h;obtain⟨rfl,q⟩:=h;cases ry;refine is_none_gen (DP I q ?_);cases x<;>first
  |(cases rx;rfl)
  |(obtain⟨t,rfl⟩:=rx;rfl)
theorem S0:cN X (compareOp .IsNot) (λx y H Q=>y=.aO/\Q (.bl (!decide (x=.aO))) H):=by
 intro pins s σ H x y v u Q I rx ry h;obtain⟨rfl,q⟩:=h;cases ry;refine isnot_none_gen (DP I q ?_);cases x<;>first
  |(cases rx;rfl)
  |(obtain⟨t,rfl⟩:=rx;rfl)
theorem cN.or{f:aa->aa->Sem aa}{r r':R2}(h:cN X f r)(h':cN X f r'):cN X f (λx y H Q=>r x y H Q\/r' x y H Q):=by
 intro pins s σ H x y v u Q I rx ry q;rcases q with q|q
 exact h pins s σ H x y v u Q I rx ry q;exact h' pins s σ H x y v u Q I rx ry q
theorem S4{op:CmpOp}{r:R2}(ho:cN X (compareOp op) r)(ha:PE X a ta)(hb:PE X b tb)(hm:behindInMarks op b=false):PE X (.Compare a [op] [b] pos) (DO r ta tb):=by intro pins s σ H Q I h;exact wpAny_Compare1 (vI ha hb I h λv u s2 x y H2 I2 rx ry q=>ho pins s2 σ H2 x y v u Q I2 rx ry q) hm
noncomputable def tZ(t:TE):TT:=λσ H Q=>t σ H λx H'=>∃k,x=.bl k/\Q k H'
theorem S6{op:CmpOp}{r:R2}(ho:cN X (compareOp op) r)(ha:PE X a ta)(hb:PE X b tb)(hm:behindInMarks op b=false):PT X (.Compare a [op] [b] pos) (tZ (DO r ta tb)):=by
 intro pins s σ H Q I h;refine wpAny_isTrue_Compare1 (aU (ha pins s σ H _ I h) λv s1 z9=>z9.el λx H1 I1 r1 q1=>aU (hb pins s1 σ H1 _ I1 q1) λu s2 z9=>z9.el λy H2 I2 r2 q2=>
  aU (ho pins s2 σ H2 x y v u _ I2 r1 r2 q2) λc s3 z9=>z9.el λz H3 I3 r3 ⟨k,e,q3⟩=>?_) hm
 subst e;cases r3;exact qo ⟨H3,I3,q3⟩
noncomputable def Gz(r r':R2)(ta tb tc:TE):TE:=λσ H Q=>ta σ H λx H1=>tb σ H1 λy H2=>r x y H2 λz H3=>∃k,z=.bl k/\
 (if k=true then tc σ H3 λw' H4=>r' y w' H4 Q else Q (.bl false) H3)
theorem S8{op op':CmpOp}{r r':R2}(ho:cN X (compareOp op) r)(ho':cN X (compareOp op') r')(ha:PE X a ta)(hb:PE X b tb)(hc:PE X c tc)
 (hm:lastMarks [op,op'] [b,c]=false:=by with_unfolding_all rfl):PE X (.Compare a [op,op'] [b,c] pos) (Gz r r' ta tb tc):=by
 intro pins s σ H Q I h;refine Compare_chain (aU (ha pins s σ H _ I h) λv s1 z9=>z9.el λx H1 I1 r1 q1=>chain_link (aU (hb pins s1 σ H1 _ I1 q1) λu s2 z9=>z9.el λy H2 I2 r2 q2=>
  aU (ho pins s2 σ H2 x y v u _ I2 r1 r2 q2) λd s3 z9=>z9.el λz H3 I3 r3 ⟨k,e,q3⟩=>?_)) hm
 subst e;cases r3;refine qo ?_;cases k with|false=>exact ite_ff ⟨.bl false,H3,I3,rfl,q3⟩|true=>exact ite_tt (chain_last (aU (hc pins s3 σ H3 _ I3 q3) λw' s4 z9=>z9.el λz' H4 I4 r4 q4=>ho' pins s4 σ H4 y z' u w' Q I4 r2 r4 q4))
theorem S9{op op':CmpOp}{r r':R2}(ho:cN X (compareOp op) r)(ho':cN X (compareOp op') r')(ha:PE X a ta)(hb:PE X b tb)(hc:PE X c tc)
 (hm:lastMarks [op,op'] [b,c]=false:=by with_unfolding_all rfl):PT X (.Compare a [op,op'] [b,c] pos) (tZ (Gz r r' ta tb tc)):=by
 intro pins s σ H Q I h;refine isTrue_chain (aU (ha pins s σ H _ I h) λv s1 z9=>z9.el λx H1 I1 r1 q1=>test_link (aU (hb pins s1 σ H1 _ I1 q1) λu s2 z9=>z9.el λy H2 I2 r2 q2=>
  aU (ho pins s2 σ H2 x y v u _ I2 r1 r2 q2) λd s3 z9=>z9.el λz H3 I3 r3 ⟨k,e,q3⟩=>?_)) hm
 subst e;cases r3;refine qo ?_;cases k with
 |false=>
  obtain⟨k',e',q'⟩:=q3;cases e';exact ite_ff ⟨H3,I3,q'⟩
 |true=>
  refine ite_tt (test_last (aU (hc pins s3 σ H3 _ I3 q3) λw' s4 z9=>z9.el λz' H4 I4 r4 q4=>aU (ho' pins s4 σ H4 y z' u w' _ I4 r2 r4 q4) λd' s5 z9=>z9.el λz2 H5 I5 r5 bV=>?_));obtain⟨k2,e2,q5⟩:=bV;subst e2;cases r5;exact qo ⟨H5,I5,q5⟩
noncomputable def vJ(K:aI)(x:V)(H:Hp)(k:Bool):Prop:=
 match x with|.aO=>k=false|.bl b=>k=b|.int i=>k=(i != 0)|.str y=>y.length<=sizeLine/\k=((y.length:Int) != 0)|.zl y=>y.size<=sizeLine/\k=((y.size:Int) != 0)|.ref p=>(∃xs,cz K H p xs/\k=!xs.isEmpty)\/(∃xs,bW K H p xs/\k=!xs.isEmpty)\/∃kvs,H p=aC (.dK kvs)/\k=!kvs.isEmpty|_=>False
theorem Tc{κ:Type}{kvs:List (κ×V)}{vs:List (κ×aa)}(r:KV kvs vs):(!vs.isEmpty)=!kvs.isEmpty:=by cases r<;>rfl
theorem MN{xs:List V}{its:List aa}(r:Vals xs its):(!its.toArray.isEmpty)=!xs.isEmpty:=by cases r<;>simp
theorem vK:(sizeLine:Nat)<2 ^ 63:=by rw[yR];decide
theorem Td:Gy X (λx H Q=>∃k,vJ X.K x H k/\Q k H):=by
 intro pins s σ H x v Q I rx h;obtain⟨k,e,q⟩:=h;have hl:=vK;have hs:sizeLine=16777216:=yR;cases x with
 |aO=>
  cases rx;have e':k=false:=e;subst e';exact truthy_none ⟨H,I,q⟩
 |bl b=>
  cases rx;have e':k=b:=e;subst e';exact qo ⟨H,I,q⟩
 |int i=>
  obtain⟨t,rfl⟩:=rx;have e':k=(i != 0):=e;subst e';exact PySem.P.truthy_int ⟨H,I,q⟩
 |str y=>
  obtain⟨t,rfl⟩:=rx;obtain⟨hy,e'⟩:y.length<=sizeLine/\k=((y.length:Int) != 0):=e;subst e';exact PySem.P.truthy_str (by lia) ⟨H,I.tok _,q⟩
 |zl y=>
  obtain⟨t,rfl⟩:=rx;obtain⟨hy,e'⟩:y.size<=sizeLine/\k=((y.size:Int) != 0):=e;subst e';exact PySem.W.truthy_bytes (by lia) ⟨H,I.tok _,q⟩
 |ref p=>
  cases rx;have e':(∃xs,cz X.K H p xs/\k=!xs.isEmpty)\/(∃xs,bW X.K H p xs/\k=!xs.isEmpty)\/∃kvs,H p=aC (.dK kvs)/\k=!kvs.isEmpty:=e;rcases e' with⟨xs,hx,e'⟩|⟨xs,hx,e'⟩|⟨kvs,hx,e'⟩
  subst e';obtain⟨its,r,pl,hz⟩:=I.list hx;have hlen:=r.length;exact wpAny_truthy_list pl.isList (by simp only[cC];lia) ⟨H,I.tok _,by rw[MN r];exact q⟩;subst e';obtain⟨its,r,pl,hz⟩:=I.tuple hx;have hlen:=r.length;exact truthy_tuple pl (by simp only[cC];lia) ⟨H,I.tok _,by rw[MN r];exact q⟩;subst e';obtain⟨hz,hS,vs,r,m⟩:kvs.length<=sizeLine/\(p==sysModules)=false/\∃vs,KV kvs vs/\s.heap.DictOf (kg X.prog X.w) p vs:=I.hok p _ hx;have hlen:kvs.length=vs.length:=DH r;exact wpAny_truthy_dict hS m (by lia) ⟨H,I.tok _,by rw[Tc r];exact q⟩
 |_=>exact(show False from e).elim
theorem Te(ha:PE X a ta)(he:∀whole,isTrue a X.env whole=(do let v <-whole;standAt a.pos;holding [v] (truthy v))) :
 PT X a (λσ H Q=>ta σ H λx H'=>∃k,vJ X.K x H' k/\Q k H'):=by
 intro pins s σ H Q I h;exact isTrue_plain (aU (ha pins s σ H _ I h) λv s1 z9=>z9.el λx H1 I1 r1 q1=>Td pins s1 σ H1 x v Q I1 r1 q1) (he _)
theorem vals1{x:V}{us:List aa}(r:Vals [x] us):∃u,us=[u]/\RelV x u:=by
 cases r with|cons r1 r2=>cases r2;exact⟨_,rfl,r1⟩
theorem vals2{x y:V}{us:List aa}(r:Vals [x,y] us):∃u w',us=[u,w']/\RelV x u/\RelV y w':=by
 cases r with
 |cons r1 r2=>
  cases r2 with|cons r3 r4=>cases r4;exact⟨_,_,rfl,r1,r3⟩
theorem Tf:bR X (.builtin "abs") (λxs H Q=>∃i,xs=[.int i]/\Q (.int (if i<0 then -i else i)) H):=by intro pins s σ H xs us Q I r h;obtain⟨i,rfl,q⟩:=h;obtain⟨u,rfl,t,rfl⟩:=vals1 r;exact call_abs_int λu tk=>⟨.int (if i<0 then -i else i),H,I.tok _,⟨_,rfl⟩,q⟩
theorem Th(hc:X.calm):bR X (.builtin "max") (λxs H Q=>∃i j,xs=[.int i,.int j]/\Q (.int (if j>i then j else i)) H):=by
 intro pins s σ H xs us Q I r h;obtain⟨i,j,rfl,q⟩:=h;obtain⟨u,w',rfl,⟨t,rfl⟩,⟨t',rfl⟩⟩:=vals2 r;refine max_two_ints (I.ok.hd hc) λh' tk k=>⟨_,H,I.kept k,?_,q⟩
 by_cases hj:j>i;rw[if_pos hj,if_pos hj];exact⟨_,rfl⟩;rw[if_neg hj,if_neg hj];exact⟨_,rfl⟩
theorem Ti(hc:X.calm):bR X (.builtin "min") (λxs H Q=>∃i j,xs=[.int i,.int j]/\Q (.int (if j<i then j else i)) H):=by
 intro pins s σ H xs us Q I r h;obtain⟨i,j,rfl,q⟩:=h;obtain⟨u,w',rfl,⟨t,rfl⟩,⟨t',rfl⟩⟩:=vals2 r;refine min_two_ints (I.ok.hd hc) λh' tk k=>⟨_,H,I.kept k,?_,q⟩
 by_cases hj:j<i;rw[if_pos hj,if_pos hj];exact⟨_,rfl⟩;rw[if_neg hj,if_neg hj];exact⟨_,rfl⟩
theorem Tj:bR X (.type "int") (λxs H Q=>(∃i,xs=[.int i]/\Q (.int i) H)\/∃k,xs=[.bl k]/\Q (.int (if k then 1 else 0)) H):=by
 intro pins s σ H xs us Q I r h;rcases h with⟨i,rfl,q⟩|⟨k,rfl,q⟩
 obtain⟨u,rfl,t,rfl⟩:=vals1 r;exact call_int_int ⟨.int i,H,I,⟨_,rfl⟩,q⟩;obtain⟨u,rfl,r1⟩:=vals1 r;cases r1;exact call_int_bool ⟨.int (if k then 1 else 0),H,I.tok _,⟨_,rfl⟩,q⟩
end
structure vL(h:aA)(x dx C:ah)(mA:Str->Option aa):Prop where
 obj:h.get? x=aC (PySem.W.instObj C dx)
 ns:h.Ns1 dx mA
 ne:dx≠x
theorem Tn{h:aA}{dx:ah}{mA:Str->Option aa}(n:h.Ns1 dx mA):∃od,h.get? dx=aC od/\∀name,PySem.W.lookIn name od=aC (mA name):=by
 obtain⟨o,es,ep,ho,hd,hk,_,hm⟩:=n;refine⟨o,ho,λname=>?_⟩;have e:=hm name;unfold nsFind findBy at e;rw[<-Array.find?_toList]at e;unfold PySem.W.lookIn;rw[hd];dsimp only;split;rename_i y q;rw[q]at e;exact kF aC e;rename_i q;rw[q]at e;have a:es.toList.any (·.refKey)=false:=by rw[List.any_eq_false];intro y hy;obtain⟨z,t,hkey⟩:=hk y (Array.mem_toList_iff.mp hy);simp[DictEntry.refKey,hkey]
 have a':¬es.toList.any (·.refKey)=true:=by rw[a];exact yV
 rw[if_neg a'];exact kF aC e
theorem vL.look{h:aA}{x dx C:ah}{mA:Str->Option aa}(I:vL h x dx C mA):∃od,PySem.W.InstAt h x (PySem.W.instObj C dx) C (aC od)/\∀name,PySem.W.lookIn name od=aC (mA name):=
 let⟨od,ho,hl⟩:=Tn I.ns
 ⟨od,⟨I.obj,rfl,rfl,ho⟩,hl⟩
theorem ic.some_of{v:V}{o:Option aa}(r:ic (aC v) o):∃u,o=aC u/\RelV v u:=by
 cases o with|none=>exact(show False from r).elim|some u=>exact⟨u,rfl,r⟩
section
variable{P:ai}{w:ak}{H H':Hp}{h h':aA}{a C dx:ah}{fs fs':List (Str×V)}
theorem To(hok:ff P w H h)(e:H a=aC (.ins C dx fs)):∃mA,vL h a dx C mA/\(∀f,ic (fs.lookup f) (mA f))/\PySem.Within mA (fs.map (·.1))/\fs.length<=1000/\H dx=aC (.own a):=by
 obtain⟨d,z,ne,ob,mA,n,r,q⟩:=(show aY P w H h a (.ins C dx fs)from hok a _ e)
 exact⟨mA,⟨ob,n,ne⟩,r,q,z,d⟩
end
structure GA(K:aI)(C:ah):Prop where
 pg:PySem.W.plainGet K C Str.empty=true
 hd:PySem.W.hasDictIn K C=true
 po:PySem.W.plainOver K C=true
 sa:PySem.W.findIn K (.ref C) "__setattr__" = aC (aC (.builtin "object.__setattr__"))
theorem GA.get{K:aI}{C:ah}(c:GA K C)(f:Str):PySem.W.plainGet K C f=true:=c.pg
section
variable{X:Cx}{pins:List (ah×Obj)}{σ:St}{H:Hp}{s:af}{A:ao}{E:aa->af->Prop}{Q:aa->af->Prop}{c:aa}{b:Bool}
inductive fQ(K:aI)(H:Hp):V->aa->Prop where
 |aO:fQ K H .aO (.type "NoneType")
 |bl (x:Bool):fQ K H (.bl x) (.type "bool")
 |int (i:Int):fQ K H (.int i) (.type "int")
 |str (x:Str):fQ K H (.str x) (.type "str")
 |xY (x:UInt64):fQ K H (.xY x) (.type "float")
 |lst {a:ah} {xs:List V} (e:H a=aC (.lst xs)):fQ K H (.ref a) (.type "list")
 |bI {a:ah} {o:Obj} {xs:List V} (e:H a=aC (.bI o (.lst xs))):fQ K H (.ref a) (.type "list")
 |tup {a:ah} {xs:List V} (e:H a=aC (.tup xs)):fQ K H (.ref a) (.type "tuple")
 |dK {a:ah} {kvs:List (Key×V)} (e:H a=aC (.dK kvs)):fQ K H (.ref a) (.type "dict")
 |dT {a:ah} {kvs:List (List Key×V)} (e:H a=aC (.dT kvs)):fQ K H (.ref a) (.type "dict")
 |ins {a C dx:ah} {fs:List (Str×V)} (e:H a=aC (.ins C dx fs)) (cl:GA K C) (ha:PySem.W.findIn K (.ref C) "__class__" = aC (aC (.builtin "object.__class__")))
   (hn:PySem.W.specialIn K (.builtin "object.__class__") "__get__" = aC (aC (.builtin "getset_descriptor.__get__"))) (htk:PySem.W.takesIn K (.builtin "object.__class__")=aC true)
   (hm:PySem.W.mroIn K C (.type "object")=aC true):fQ K H (.ref a) (.ref C)
theorem Tp{x:V}{u t:aa}(I:Inv X pins σ H s)(rx:RelV x u)(ty:fQ X.K H x t)(e:PySem.W.kitOne X.K t c=aC b)(h:∀tk,Q (.bool b) {s with toks:=tk}) :
 wpAny (model X.prog X.w) A (call (.builtin "isinstance") [u,c]) Q E s:=by
 cases ty with
 |aO=>cases(show u=Value.none from rx);exact l9 PySem.W.kitx_none I.iO True.intro e (λz=>nomatch z) h
 |bl y=>cases(show u=Value.bool y from rx);exact l9 PySem.W.kitx_bool I.iO True.intro e (λz=>nomatch z) h
 |int i=>obtain⟨t,q⟩:=(show ∃t,u=Value.int i t from rx);cases q;exact l9 PySem.W.kitx_int I.iO True.intro e (λz=>nomatch z) h
 |str y=>obtain⟨t,q⟩:=(show ∃t,u=Value.str y t from rx);cases q;exact l9 PySem.W.kitx_str I.iO True.intro e (λz=>nomatch z) h
 |xY y=>obtain⟨t,q⟩:=(show ∃t,u=Value.float y t from rx);cases q;exact l9 PySem.W.kitx_float I.iO True.intro e (λz=>nomatch z) h
 | @lst a xs ea=>
  cases(show u=Value.ref a from rx);obtain⟨_,_,n,_,h1⟩:=(show aY X.prog X.w H s.heap a (.lst xs)from I.hok a _ ea)
  exact l9 PySem.W.kitx_list I.iO ⟨_,h1,rfl⟩ e (λz=>nomatch z) h
 | @bI a ob xs ea=>
  cases(show u=Value.ref a from rx);obtain⟨_,_,_,n,_,h1⟩:=(show aY X.prog X.w H s.heap a (.bI ob (.lst xs))from I.hok a _ ea)
  exact l9 PySem.W.kitx_list I.iO ⟨_,h1,rfl⟩ e (λz=>nomatch z) h
 | @tup a xs ea=>
  cases(show u=Value.ref a from rx);obtain⟨_,_,_,p⟩:=(show aY X.prog X.w H s.heap a (.tup xs)from I.hok a _ ea)
  obtain⟨o,h1,h2,_⟩:=p;exact l9 PySem.W.kitx_tuple I.iO ⟨o,h1,h2⟩ e (λz=>nomatch z) h
 | @dK a kvs ea=>
  cases(show u=Value.ref a from rx);obtain⟨_,_,vs,_,p⟩:=(show aY X.prog X.w H s.heap a (.dK kvs)from I.hok a _ ea)
  obtain⟨o,es,ep,h1,h2,_⟩:=p;exact l9 PySem.W.kitx_dict I.iO ⟨o,h1,h2.1⟩ e (λz=>nomatch z) h
 | @dT a kvs ea=>
  cases(show u=Value.ref a from rx);obtain⟨_,_,xs,_,o,es,ep,h1,h2,_⟩:=(show aY X.prog X.w H s.heap a (.dT kvs)from I.hok a _ ea)
  exact l9 PySem.W.kitx_dict I.iO ⟨o,h1,h2.1⟩ e (λz=>nomatch z) h
 | @ins a C dx fs ea cl ha hn htk hm=>
  cases(show u=Value.ref a from rx);obtain⟨mA,O,_⟩:=To I.hok ea;obtain⟨od,J,_⟩:=O.look;exact l9 (PySem.W.kitx_own (cl.get _) cl.hd ha hn htk hm) I.iO J e (λz=>nomatch z) h
end
structure cJ(k:Nat)(A:ao):Prop where
 hd:A.handled=aD
 dp:A.depth+3*k+5<recursionLimit
 un:A.units+16*k+200<cLine
theorem cJ.deeper{k:Nat}{A:ao}(r:cJ (k+1) A)(env:Env):cJ k (A.deeper env):=
 ⟨r.hd,by have:=r.dp;show A.depth+1+3*k+5<_;lia,by have:=r.un;show A.units+3+16*k+200<_;lia⟩
theorem cJ.depth{k:Nat}{A:ao}(r:cJ k A):A.depth<recursionLimit:=by have:=r.dp;lia
theorem cJ.units{k:Nat}{A:ao}(r:cJ k A):A.units+64<cLine:=by have:=r.un;lia
noncomputable def zY:TA:=λ_ H Q=>Q [] H
noncomputable def zZ(ta:TE)(tr:TA):TA:=λσ H Q=>ta σ H λx H1=>tr σ H1 λxs H2=>Q (x::xs) H2
section
variable{X:Cx}{e:aq}{es:List aq}{te:TE}{t:TA}{pos:Pos}
theorem DQ:PA X [] zY:=λ_ _ _ _ H Q I h=>Calls.spliced_nil ⟨[],H,I,.nil,h⟩
theorem z0(ha:PE X e te)(hr:PA X es t)(hs:autoParam (starEach (e::es) X.env=(false,eval e X.env)::starEach es X.env) L2.aR1._auto_1):PA X (e::es) (zZ te t):=by intro pos pins s σ H Q I h;rw[hs];show wpAny _ _ (spliced ((false,eval e X.env)::backTo pos (starEach es X.env))) _ _ s;refine Calls.spliced_cons (aU (ha pins s σ H _ I h) λu s1 z9=>z9.el λx H1 I1 r1 q1=>?_);exact aU (hr pos pins s1 σ H1 _ I1 q1) λus s2 z9=>z9.el λxs H2 I2 r2 q2=>⟨x::xs,H2,I2,.cons r1 r2,q2⟩
noncomputable def GC(t:TA):TE:=λσ H Q=>t σ H λxs H1=>xs.length<=sizeLine/\∀p,H1 p=aD->Q (.ref p) (upd H1 p (.tup xs))
noncomputable def GD(t:TA):TE:=λσ H Q=>t σ H λxs H1=>xs.length<=sizeLine/\∀p,H1 p=aD->Q (.ref p) (upd H1 p (.lst xs))
theorem Tq{x1}(h:PA X es t):PE X (.Tuple es x1 pos) (GC t):=by intro pins s σ H Q I hq;refine wpAny_Tuple_spliced (aU (h pos pins s σ H _ I hq) λus s1 z9=>z9.el λxs H1 I1 r ⟨z,q⟩=>⟨by rw[<-r.length];exact z,?_⟩);have hf:H1 s1.heap.objs.size=aD:=I1.hok.fresh (aQ _);refine⟨.ref s1.heap.objs.size,upd H1 s1.heap.objs.size (.tup xs),I1.laid (t':=s1.toks) (λb u e=>ck _ e) (aQ _) ?_,rfl,q _ hf⟩;exact⟨z,us,r,kJ.new _ _⟩
theorem Tr(h:PA X es t):PE X (.List es pos) (GD t):=by intro pins s σ H Q I hq;refine wpAny_List_spliced (aU (h pos pins s σ H _ I hq) λus s1 z9=>z9.el λxs H1 I1 r ⟨z,q⟩=>⟨by rw[<-r.length];exact z,?_⟩);have hf:H1 s1.heap.objs.size=aD:=I1.hok.fresh (aQ _);refine⟨.ref s1.heap.objs.size,upd H1 s1.heap.objs.size (.lst xs),I1.laid (t':=s1.toks) (λb u e=>ck _ e) (aQ _) ?_,rfl,q _ hf⟩;exact⟨z,us,0,r,iF _ rfl⟩
end
noncomputable abbrev Sp:=List V->Hp->VK->XK->Prop
noncomputable abbrev pW:=List Env->Hp->af->XK->aa->af->Prop
structure qV(P:ai)(w:ak)(K:aI)(mg:Str->Option aa)(base:aA)(A:ao)(outer:List Env)(s:af)(H:Hp):Prop where
 frames:A.frames=aC outer
 mod:Mod K mg base
 bs:∀b o,base.get? b=aC o->s.heap.get? b=aC o/\H b=aD
 vD:base.objs.size<=s.heap.objs.size
 ir:s.heap.FunFrames base outer
 yd:∀b∈frs outer,H b=aD
 hok:ff P w H s.heap
 bare:AllBare s.gens
noncomputable def CE(outer:List Env)(P:ai)(w:ak)(H:Hp)(s:af)(Q:VK)(u:aa)(s':af):Prop:=
 ∃v H',s'.os=s.os/\AllBare s'.gens/\Un (frs outer) [] H H' s.heap s'.heap/\ff P w H' s'.heap/\RelV v u/\Q v H'
noncomputable def CR(CX:pW)(outer:List Env)(P:ai)(w:ak)(H:Hp)(s:af)(Q:VK)(E:XK)(r:Result)(s':af):Prop:=
 match r with|.ok (.ret u)=>CE outer P w H s Q u s'|.ok _=>False|.error e=>CX outer H s E e s'
structure fC(P:ai)(w:ak)(K:aI)(mg:Str->Option aa)(base:aA)(CX:pW)(k:Nat)(f:ah)(fd:av)(ps:List Str)(sp:Sp):Prop where
 len:∀vs H Q E,sp vs H Q E->vs.length=ps.length
 run:∀(A:ao)(outer:List Env)(s:af)(H:Hp)(args:Args)(us:List aa)(vs:List V)(Q:VK)(E:XK),cJ k A->qV P w K mg base A outer s H->BindsTo s fd args (ps.zip us)->Vals vs us->sp vs H Q E->
  codeAny (model P w) A (.call (.ref f) args) (CR CX outer P w H s Q E) s
section
variable{X:Cx}{pins:List (ah×Obj)}{σ:St}{H:Hp}{s s':af}
theorem Inv.GF(I:Inv X pins σ H s):qV X.prog X.w X.K X.mg X.base X.A X.stack s H:=
 ⟨I.ok.frames,I.ok.mod,I.bs,gZ I.ok.vD I.sz,I.stack,I.k9,I.hok,I.bare⟩
theorem Inv.after{Q:VK}{u:aa}(I:Inv X pins σ H s)(h:CE X.stack X.prog X.w H s Q u s'):EP X pins σ Q u s':=by obtain⟨v,H',os,bare,un,hok,r,q⟩:=h;obtain⟨hh,g,d,t,os'⟩:=s';obtain rfl:os'=s.os:=os;exact⟨v,H',I.call (h':=hh) (g':=g) (d':=d) (t':=t) (ch:=[]) un hok bare (λb z=>absurd z (by simp)),r,q⟩
end
noncomputable def t6(sp:Sp)(nT:List V)(E:XK)(t:TA):TE:=λσ H Q=>t σ H λvs H1=>sp (vs++nT) H1 Q E
noncomputable def Binds(K:aI)(fd:av)(ps:List Str)(ds:List aa):Prop:=
 ∀(s:af)(us:List aa),K.In s.heap->(us++ds).length=ps.length->BindsTo s fd ⟨us,[]⟩ (ps.zip (us++ds))
theorem Binds.all{K:aI}{fd:av}{ps:List Str}(h:∀us:List aa,us.length=ps.length->bindArgs fd ⟨us,[]⟩=pure (ps.zip us)):Binds K fd ps []:=λs us _ hl=>by
 rw[ny]at hl ⊢;exact .of_eq (h us hl)
noncomputable def DR(CX:pW)(X:Cx)(E:XK):Prop:=∀(pins:List (ah×Obj)) (σ:St) (H:Hp) (s:af) (e:aa) (s':af),Inv X pins σ H s->CX X.stack H s E e s'->X.xe e s'
section
variable{X:Cx}{CX:pW}{k:Nat}{f C:ah}{fd:av}{ps:List Str}{sp:Sp}{nT:List V}{ds:List aa}{E:XK}{x m:Str}{p pos apos:Pos}{e o:aq}{es:List aq}{ta:TE}{t:TA}
theorem MO{pins:List (ah×Obj)}{σ:St}{H:Hp}{s:af}{Q:VK}{us:List aa}{vs:List V}(F:fC X.prog X.w X.K X.mg X.base CX k f fd ps sp)(hr:cJ k X.A)(hb:Binds X.K fd ps ds)(hd:Vals nT ds)(hx:DR CX X E)
 (I:Inv X pins σ H s) (r:Vals vs us) (h:sp (vs++nT) H Q E):wpAny (model X.prog X.w) X.A (call (.ref f) us) (EP X pins σ Q) X.xe s:=by
 have r2:Vals (vs++nT) (us++ds):=r.append hd;have hl:(us++ds).length=ps.length:=by rw[<-r2.length];exact F.len _ _ _ _ h
 refine wpAny_call (codeAny_mono (F.run X.A X.stack s H ⟨us,[]⟩ (us++ds) (vs++nT) Q E hr I.GF (hb s us I.iO hl) r2 h) λr s' hq=>?_);cases r with
 |error e=>exact hx pins σ H s e s' I hq
 |ok fl=>
  cases fl with|ret u=>exact I.after hq|next=>exact False.elim hq|brk=>exact False.elim hq|cont=>exact False.elim hq
theorem MP(F:fC X.prog X.w X.K X.mg X.base CX k f fd ps sp)(hr:cJ k X.A)(hg:Gl X x)(hm:X.mg x=aC (.ref f))(hk:PySem.W.keepIn X.K (.ref f))(hb:Binds X.K fd ps ds)(hd:Vals nT ds)(hx:DR CX X E)
 (ha:PA X (e::es) t) (hdb:autoParam ((x==("__debug__" : Str))=false) L2.aD1._auto_1) (he:autoParam (starEach (e::es) X.env=(false,eval e X.env)::starEach es X.env) L2.aR1._auto_1) (hpl:autoParam ((backTo pos (starEach es X.env)).any (·.1)=false) L2.aR1._auto_1) :
 PE X (.Call (.Name x p) (e::es) [] pos) (t6 sp nT E t):=by
 intro pins s σ H Q I h;refine C9 (Gd I hg hm ?_ hdb);refine PySem.W.callWith_K (h₀:=X.base) I.ok.mod.F4 hk (aU (ha pos pins s σ H _ I h) λus s1 z9=>z9.el λvs H1 I1 r q=>⟨I1.iO,?_⟩) he hpl;exact MO F hr hb hd hx I1 r q
theorem Tt(F:fC X.prog X.w X.K X.mg X.base CX k f fd ps sp)(hr:cJ k X.A)(hg:Gl X x)(hm:X.mg x=aC (.ref f))(hk:PySem.W.keepIn X.K (.ref f))(hb:Binds X.K fd ps ds)(hd:Vals nT ds)(hx:DR CX X E)
 (hdb:autoParam ((x==("__debug__" : Str))=false) L2.aD1._auto_1):PE X (.Call (.Name x p) [] [] pos) (t6 sp nT E zY):=by
 intro pins s σ H Q I h;refine C9 (Gd I hg hm ?_ hdb);exact PySem.W.callWith_K0 I.iO hk (MO (us:=[]) F hr hb hd hx I .nil h)
end
structure cP(N P:List Str)(sc:az):Prop where
 kind:sc.kind=.function
 co:sc.isCoroutine=false
 gen:sc.isGenerator=false
 nd:N.Nodup
 pre:N.take P.length=P
 par:∀x∈P,sc.names.lookup x=aC .local\/sc.names.lookup x=aC .cell
 vM:∀y∈sc.names,y.2≠.free
theorem MQ{kindOf:Str->Option NameKind}{x:Str}:∀{binds:List (Str×aa)} {m:Str->Option aa},(∀v,(x,v)∉binds)->bindL kindOf binds m x=m x
 |[],_,_=>rfl
 |(n,v)::r,m,h=>by
  unfold bindL;rw[MQ λw hw=>h w (dU _ hw)];split;have:x≠n:=by rintro rfl;exact h v fM
  simp[this];rfl
theorem MR{kindOf:Str->Option NameKind}{x:Str}:∀{binds:List (Str×aa)} {m:Str->Option aa},(∀v,(x,v)∉binds)->bindC kindOf binds m x=m x
 |[],_,_=>rfl
 |(n,v)::r,m,h=>by
  unfold bindC;rw[MR λw hw=>h w (dU _ hw)];split;rfl;have:x≠n:=by rintro rfl;exact h v fM
  simp[this]
theorem MS{kindOf:Str->Option NameKind}{x:Str}{v:aa}:∀{P:List Str} {vs:List aa} {i:Nat} {m:Str->Option aa},P.Nodup->P[i]?=aC x->vs[i]?=aC v->kindOf x=aC .local->
 bindL kindOf (P.zip vs) m x=aC v
 |[],_,_,_,_,h,_,_=>by simp at h
 |_::_,[],_,_,_,_,h,_=>by simp at h
 |p::P,w::vs,0,m,nd,h1,h2,hk=>by
  simp at h1 h2;subst h1;subst h2;show bindL kindOf ((p,w)::P.zip vs) m p=_;unfold bindL;rw[MQ λv hv=>(vh.mp nd).1 (List.of_mem_zip hv).1,if_pos hk];simp
 |p::P,w::vs,i+1,m,nd,h1,h2,hk=>by
  show bindL kindOf ((p,w)::P.zip vs) m x=_;unfold bindL;exact MS (i:=i) (vh.mp nd).2 (by simpa using h1) (by simpa using h2) hk
theorem MT{kindOf:Str->Option NameKind}{x:Str}{v:aa}:∀{P:List Str} {vs:List aa} {i:Nat} {m:Str->Option aa},P.Nodup->P[i]?=aC x->vs[i]?=aC v->kindOf x≠aC .local->
 bindC kindOf (P.zip vs) m x=aC v
 |[],_,_,_,_,h,_,_=>by simp at h
 |_::_,[],_,_,_,_,h,_=>by simp at h
 |p::P,w::vs,0,m,nd,h1,h2,hk=>by
  simp at h1 h2;subst h1;subst h2;show bindC kindOf ((p,w)::P.zip vs) m p=_;unfold bindC;rw[MR λv hv=>(vh.mp nd).1 (List.of_mem_zip hv).1,if_neg hk];simp
 |p::P,w::vs,i+1,m,nd,h1,h2,hk=>by
  show bindC kindOf ((p,w)::P.zip vs) m x=_;unfold bindC;exact MT (i:=i) (vh.mp nd).2 (by simpa using h1) (by simpa using h2) hk
noncomputable def start(N:List Str)(vs:List V):St:=vs.map aC++bE (N.length-vs.length) aD
noncomputable def jH(CX:pW)(P:ai)(w:ak)(K:aI)(mg:Str->Option aa)(base:aA)(N:List Str)(qual:Str)(scope:az)(f:ah)(cd:aa)(A:ao)(outer:List Env)(s:af)(H:Hp)(E:XK):Cx where
 prog:=P
 w:=w
 K:=K
 mg:=mg
 base:=base
 A:=A.deeper (envOfC qual scope s.heap.objs.size f cd)
 N:=N
 s₀:=s
 H₀:=H
 env:=envOfC qual scope s.heap.objs.size f cd
 outer:=outer
 stack:=envOfC qual scope s.heap.objs.size f cd::outer
 ex:=[]
 calm:=true
 fn:=λ_=>true
 pn:=[]
 xe:=λe s'=>wpAny (model P w) (A.deeper (envOfC qual scope s.heap.objs.size f cd)) (leaving (envOfC qual scope s.heap.objs.size f cd) e) (λ_ s''=>CX outer H s E e s'') (λe' s''=>CX outer H s E e' s'') s'
theorem MU{sc:az}{n:Nat}{x:Str}(h:sc.names.lookup x=aC .cell):∃c,(cellsFrom n sc.names []).lookup x=aC c:=by have q:=PySem.W.cellsFrom_some sc.names n [] (.inl h);exact Option.isSome_iff_exists.mp q
theorem Tu{CX:pW}{P:ai}{w:ak}{K:aI}{mg:Str->Option aa}{base:aA}{N ps:List Str}{qual:Str}{scope:az}{f:ah}{cd:aa}{A:ao}{outer:List Env}{s s1:af}{H:Hp}{E:XK}{us:List aa}{vs:List V}
 (S:cP N ps scope) (hd:A.handled=aD) (e0:qV P w K mg base A outer s H) (hl:vs.length=ps.length) (r:Vals vs us)
 (x:InCallC s s.heap.objs.size (bindL (envOfC qual scope s.heap.objs.size f cd).kindOf (ps.zip us) λ_=>aD) (cellsFrom (s.heap.objs.size+1) scope.names []) (bindC (envOfC qual scope s.heap.objs.size f cd).kindOf (ps.zip us) λ_=>aD) s1) :
 Inv (jH CX P w K mg base N qual scope f cd A outer s H E) [] (start N vs) H s1:=by
 have hpl:ps.length<=N.length:=by have:=kF List.length S.pre;rw[k7]at this;lia
 obtain⟨h1,tk,rfl,hk⟩:=x.done;have Aa:∀b:ah,b∉(jH CX P w K mg base N qual scope f cd A outer s H E).ex:=λb z=>absurd (show b∈([]:List ah)from z) (by simp);refine⟨⟨e0.mod,S.kind,rfl,rfl,aQ _,λy z c h1 h2=>?_,λy hy=>?_,λy c _ h=>?_,λ_=>hd,Around.frames_deeper e0.frames,.inr ⟨rfl,rfl⟩,λb z=>absurd z (Aa b),e0.bs,e0.vD,λb _ _=>Aa b,λb z=>absurd z (Aa b),e0.ir,e0.yd⟩,
  rfl,e0.bare,Un.kept hk,⟨_,x.toInCall.ns,λi y v h1 h2 h3=>?_⟩,λy c h=>⟨_,x.cell y c h⟩,e0.hok.fresh (aQ _),λy c h=>?_,λp hp=>absurd (show p∈([]:List (ah×Obj))from hp) (by simp),e0.hok.kept hk,?_⟩
 exact name_of_addr x.apart (yO h1) (yO h2);have hy:scope.names.lookup y=aC .cell\/scope.names.lookup y=aC .free:=hy;rcases hy with hy|hy
 exact MU hy;exact absurd rfl (S.vM _ (yO hy));exact tM (x.above y c (yO h));have hi:i<vs.length:=by unfold start at h2;by_cases hi:i<vs.length;exact hi;rw[qw (by simpa using hi)]at h2;rw[List.getElem?_replicate]at h2;split at h2<;>cases h2
 have ha:vs[i]?=aC v:=by
  unfold start at h2;rw[tR (by simpa using hi),gp]at h2;cases e:vs[i]? with|none=>rw[e]at h2;cases h2|some a=>rw[e]at h2;cases h2;rfl
 obtain⟨u,hu,rv⟩:=r.get ha;have hp:ps[i]?=aC y:=by rw[<-S.pre,List.getElem?_take_of_lt (by lia)];exact h1
 have MV:ps.Nodup:=by rw[<-S.pre];exact S.nd.sublist (List.take_sublist _ _)
 refine⟨u,rv,?_⟩;rcases S.par y (i9 hp)with k|k
 exact .inl ⟨k,MS MV hp hu k⟩;obtain⟨c,e⟩:=MU (n:=s.heap.objs.size+1) k;refine .inr ⟨.inl k,c,e,?_⟩;have q:=x.cell y c e;rw[MT MV hp hu (by show scope.names.lookup y≠_;rw[k];decide)]at q;exact q;exact e0.hok.fresh (tM (x.above y c (yO h)));unfold start;show _=N.length;rw[eZ,bA,List.length_replicate];lia
theorem Ab{CX:pW}{P:ai}{w:ak}{K:aI}{mg:Str->Option aa}{base:aA}{k:Nat}{f:ah}{name qual:Str}{params:Arguments}{body:List au}{scope:az}{dV kV doc pm cdv ct oc:aa}{an od:Option ah}
 {osl:Array (Option aa)} {N ps:List Str} {sp:Sp} (lk:K.lookup f=aC ⟨oc,od,.func (PySem.W.fnOf name qual params body scope dV kV doc pm an cdv ct),osl⟩) (hcd:PySem.W.codeIn K cdv qual) (S:cP N ps scope)
 (len:∀vs H Q E,sp vs H Q E->vs.length=ps.length)
 (hbody:∀(A:ao)(outer:List Env)(s:af)(H:Hp)(vs:List V)(Q:VK)(E:XK),cJ k (A.deeper (envOfC qual scope s.heap.objs.size f cdv))->sp vs H Q E->
   ∃t,kh (jH CX P w K mg base N qual scope f cdv A outer s H E) body t/\t {nx:=λ_ H'=>Q .aO H',rt:=Q} (start N vs) H) :
 fC P w K mg base CX (k+1) f (PySem.W.fnOf name qual params body scope dV kV doc pm an cdv ct) ps sp:=by
 refine⟨len,λA outer s H args us vs Q E hr e0 hb r pX=>?_⟩;have hl:=len _ _ _ _ pX;have KX:K.In s.heap:=e0.mod.F4.keeps λb o e=>(e0.bs b o e).1;have lim:s.heap.NoLimit:=e0.mod.nolimit.keeps λb o e=>(e0.bs b o e).1;have hkind:∀y∈ps.zip us,scope.names.lookup y.1=aC .local\/(scope.names.lookup y.1=aC .cell/\((cellsFrom (s.heap.objs.size+1) scope.names []).lookup y.1).isSome):=λbV hy=>by
  obtain⟨n,v⟩:=bV;rcases S.par n (List.of_mem_zip hy).1 with q|q;exact .inl q;exact .inr ⟨q,PySem.W.cellsFrom_some _ _ _ (.inl q)⟩
 refine codeAny_call_function hr.depth (KX _ _ lk) rfl S.co S.gen rfl (PySem.W.codeRec_of KX hcd) (hb _ _ _ _ ?_);refine wpAny_newFunctionEnv_cells S.kind hkind λenv he s1 x=>?_;subst he;refine⟨lim.keeps x.toInCall.keep,codeAny_func ?_⟩;obtain⟨t,ht,hq⟩:=hbody A outer s H vs Q E (hr.deeper _) pX;have I:Inv (jH CX P w K mg base N qual scope f cdv A outer s H E) [] (start N vs) H s1:=Tu S hr.hd e0 hl r x;refine gf (ht [] s1 (start N vs) H _ I hq) (λfl s' hs=>?_) λe s' hs=>hs;have fin:∀{σ':St}{H':Hp}{v:V}{u:aa},Inv (jH CX P w K mg base N qual scope f cdv A outer s H E) [] σ' H' s'->RelV v u->Q v H'->CE outer P w H s Q u s':=
  λ{σ' H' v u} J rv q=>⟨v,H',J.os,J.bare,J.base,J.hok,rv,q⟩
 cases fl with
 |ret u=>
  obtain⟨v,σ',H',J,rv,q⟩:=hs;exact fin J rv q
 |next=>
  obtain⟨σ',H',J,q⟩:=hs;exact fin (v:=V.aO) (u:=Value.none) J rfl q
 |brk=>
  obtain⟨_,_,_,q⟩:=hs;exact False.elim q
 |cont=>
  obtain⟨_,_,_,q⟩:=hs;exact False.elim q
section
variable{X:Cx}{x:Str}{p pos:Pos}{e:aq}{es:List aq}{t:TA}{id T:String}{r:List V->Hp->VK->Prop}
noncomputable def MW(r:List V->Hp->VK->Prop)(t:TA):TE:=λσ H Q=>t σ H λvs H1=>r vs H1 Q
theorem MX(hc:bR X (.builtin id) r)(hg:Gl X x)(hm:X.mg x=aD)(hv:bootBuiltins x=aC (.builtin id))(ha:PA X (e::es) t)(hn:autoParam (x≠"__name__") L2.aD1._auto_1)(hdb:autoParam ((x==("__debug__" : Str))=false) L2.aD1._auto_1)
 (he:autoParam (starEach (e::es) X.env=(false,eval e X.env)::starEach es X.env) L2.aR1._auto_1) (hpl:autoParam ((backTo pos (starEach es X.env)).any (·.1)=false) L2.aR1._auto_1):PE X (.Call (.Name x p) (e::es) [] pos) (MW r t):=by
 intro pins s σ H Q I h;refine C9 (qI I hg hm hv ?_ hn hdb);exact PyProof.Rows.callWith_builtin1 (aU (ha pos pins s σ H _ I h) λus s1 z9=>z9.el λvs H1 I1 r1 q1=>hc pins s1 σ H1 vs us Q I1 r1 q1) he hpl
theorem Tv(hc:bR X (.type T) r)(hg:Gl X x)(hm:X.mg x=aD)(hv:bootBuiltins x=aC (.type T))(ha:PA X (e::es) t)(hn:autoParam (x≠"__name__") L2.aD1._auto_1)(hdb:autoParam ((x==("__debug__" : Str))=false) L2.aD1._auto_1)
 (he:autoParam (starEach (e::es) X.env=(false,eval e X.env)::starEach es X.env) L2.aR1._auto_1) (hpl:autoParam ((backTo pos (starEach es X.env)).any (·.1)=false) L2.aR1._auto_1):PE X (.Call (.Name x p) (e::es) [] pos) (MW r t):=by
 intro pins s σ H Q I h;refine C9 (qI I hg hm hv ?_ hn hdb);exact vp (aU (ha pos pins s σ H _ I h) λus s1 z9=>z9.el λvs H1 I1 r1 q1=>hc pins s1 σ H1 vs us Q I1 r1 q1) he hpl
end
end L2
namespace HT
open PySem PyProof.Rows
section
variable{prog:ai}{w:ak}{A:ao}{E:aa->af->Prop}{s:af}
theorem qW{t b:ah}{vs ws:List aa}{Q:aa->af->Prop}(ht:IsTup s.heap t vs.toArray)(hb:IsTup s.heap b ws.toArray)(hv:vs≠[])
 (h1:ws=[]->Q (.ref t) s) (h2:ws≠[]->Q (.ref s.heap.objs.size) {s with heap:=s.heap.push {cls:=.type "tuple",data:=.seq (vs++ws).toArray}})
 (hsz:vs.length+ws.length<=sizeLine):wpAny (model prog w) A (binaryOp .Add (.ref t) (.ref b)) Q E s:=by
 obtain⟨⟨cls,dd,data,sl⟩,ho,hc,n,hd⟩:=id ht;obtain⟨⟨GG,dd2,data2,sl2⟩,ho2,hc2,n2,hd2⟩:=id hb;simp only at hc hd hc2 hd2;subst hc hd hc2 hd2;have e:vs.toArray++ws.toArray=(vs++ws).toArray:=by simp
 by_cases hw:ws=[]
 exact concat_meets ⟨_,ho,rfl⟩ ⟨_,ho2,rfl⟩ yP yQ zg zf (ze _ _)
  (tuple_addW1 t b vs.toArray ws.toArray n n2 dd dd2 sl sl2 (by simpa using hv) (by simp[hw])) ⟨ho,ho2,h1 hw⟩
 refine concat_meets ⟨_,ho,rfl⟩ ⟨_,ho2,rfl⟩ yP yQ zg zf (ze _ _)
  (tuple_addW2 t b vs.toArray ws.toArray n n2 dd dd2 sl sl2 (by simpa using hv) (by simpa using hw) (by rw[cC,cC];exact hsz)) ⟨ho,ho2,?_⟩
 rw[e];exact h2 hw
noncomputable def bH(n d:Nat):Option Int->Nat|none=>d|some v=>if v<0 then(v+ (n:Int)).toNat else min v.toNat n
theorem Tz(n d:Nat)(hd:d<=n)(o:Option Int):bH n d o<=n:=by
 cases o with
 |none=>exact hd
 |some v=>
  show(if v<0 then(v+ (n:Int)).toNat else min v.toNat n)<=n;by_cases hv:v<0;rw[if_pos hv];lia;rw[if_neg hv];exact Nat.min_le_right _ _
theorem MY(v:Int)(n d:Nat):(if v<0 then max (v+ (n:Int)) 0 else min v (n:Int))=((bH n d (aC v):Nat):Int):=by
 show(if v<0 then max (v+ (n:Int)) 0 else min v (n:Int))=(((if v<0 then(v+ (n:Int)).toNat else min v.toNat n):Nat):Int)
 by_cases hv:v<0;simp only[if_pos hv];lia;simp only[if_neg hv];lia
theorem TF(lo hi:Option Int)(n:Nat):Builtin.Slice.sliceAdjust lo hi 1 (n:Int)=(((bH n 0 lo:Nat):Int),((bH n n hi:Nat):Int)):=by
 have h1:¬((1:Int)<0):=by lia
 unfold Builtin.Slice.sliceAdjust;simp only[h1,dB];refine Prod.ext ?_ ?_;cases lo with|none=>rfl|some v=>exact MY v n 0
 cases hi with|none=>rfl|some v=>exact MY v n n
theorem TH(i j:Nat):Builtin.Slice.slicePlaces (i:Int) (j:Int) 1=j-i:=by
 unfold Builtin.Slice.slicePlaces;have h1:(1:Int)>0:=by lia
 simp only[h1,b9,Int.ediv_one];split<;>lia
theorem MZ{v:aa}{o:Option Int}{Q:Option Int->af->Prop}(p:IsPart v o)(h:Q o s):wpAny (model prog w) A (Builtin.Slice.slicePartIndex v) Q E s:=by
 cases p with|none=>exact slicePart_none h|int i t=>exact slicePart_int h
theorem M1{sl:ah}{vl vu:aa}{lo hi:Option Int}{n:Nat}{Q:Int×Int×Nat->af->Prop}(hs:s.heap.IsSliceOf sl vl vu .none)(pl:IsPart vl lo)(pu:IsPart vu hi)
 (h:Q (((bH n 0 lo:Nat):Int),1,bH n n hi-bH n 0 lo) s):wpAny (model prog w) A (Builtin.Slice.sliceApplied (.ref sl) (pure (n:Int))) Q E s:=by
 obtain⟨os,hos,hcs,hds⟩:=id hs;unfold Builtin.Slice.sliceApplied Builtin.Slice.sliceFields;refine aL (aL (kG hos hds (x:=vl) rfl (aL (kG hos hds (x:=vu) rfl (aL (kG hos hds (x:=.none) rfl (bz ?_)))))));refine aL (slicePart_none ?_);show wpAny _ _ (if((1:Int)==0)=true then _ else _) _ _ s;rw[if_neg (by decide)];refine aL (MZ pl (aL (MZ pu (aL (bz ?_)))));show wpAny _ _ (match Builtin.Slice.sliceAdjust lo hi 1 (n:Int)with|(lo,hi)=>pure (lo,(1:Int),Builtin.Slice.slicePlaces lo hi 1)) _ _ s;rw[TF lo hi n];show wpAny _ _ (pure (((bH n 0 lo:Nat):Int),(1:Int),Builtin.Slice.slicePlaces ((bH n 0 lo:Nat):Int) ((bH n n hi:Nat):Int) 1)) _ _ s;rw[TH];exact bz h
theorem TJ(xs:Array aa)(i k:Nat):((List.range k).filterMap λ(m:Nat)=>xs[((i:Int)+ (m:Int)*1).toNat]?).toArray=((xs.toList.drop i).take k).toArray:=by
 have e:(λ(m:Nat)=>xs[((i:Int)+ (m:Int)*1).toNat]?)=λm=>xs[i+m]?:=by
  funext m;have:((i:Int)+ (m:Int)*1).toNat=i+m:=by lia
  rw[this]
 rw[e];have:=pick_run xs i k;rw[List.filterMap_map]at this;have e2:((λx=>xs[x]?)∘λx=>i+x)=λm=>xs[i+m]?:=rfl;rw[e2]at this;rw[this]
theorem fR{t sl:ah}{items:Array aa}{vl vu:aa}{lo hi:Option Int}{Q:aa->af->Prop}(ht:IsTup s.heap t items)(hs:s.heap.IsSliceOf sl vl vu .none)(pl:IsPart vl lo)(pu:IsPart vu hi)
 (hw:¬(bH items.size 0 lo=0/\bH items.size items.size hi=items.size))
 (h:Q (.ref s.heap.objs.size) {s with heap:=s.heap.push {cls:=.type "tuple",data:=.seq ((items.toList.drop (bH items.size 0 lo)).take (bH items.size items.size hi-bH items.size 0 lo)).toArray}})
 (hsz:items.size<=sizeLine):wpAny (model prog w) A (getItem (.ref t) (.ref sl)) Q E s:=by
 have lu:sizeOk (.seq ((items.toList.drop (bH items.size 0 lo)).take (bH items.size items.size hi-bH items.size 0 lo)).toArray):=by show((items.toList.drop (bH items.size 0 lo)).take (bH items.size items.size hi-bH items.size 0 lo)).toArray.size<=sizeLine;rw[cC,k7,kI,vv];lia
 have hj:bH items.size items.size hi<=items.size:=Tz _ _ (aQ _) hi;obtain⟨os,hos,hcs,hds⟩:=id hs;have GH:s.TypeIs (.ref sl) "slice":=⟨os,hos,hcs⟩
 unfold getItem
 try with_reducible refine nF ?_
 first|refine aL (bz ?_)|skip
 refine aL (wpAny_sequenceKey ht.typeIs (by decide) ?_);refine aL (xH (name:=Str.ofString "__getitem__") ht.typeIs xS
  (u7 xS ht.typeIs entry_tuple_getitem ?_ (args_tuple_getitem _ _)))
 show wpAny _ _ (Builtin.Tuple.tupleItemsOf (.ref t) >>= _) _ _ s;refine aL (tupleItemsOf_ ht ?_);refine aL (Dd GH ?_);rw[if_pos (by decide)];refine aL (M1 hs pl pu ?_);have hno:¬((((bH items.size 0 lo:Nat):Int)==0&& (1:Int)==1&& (bH items.size items.size hi-bH items.size 0 lo)==items.size)):=by intro q;rw[bG,bG]at q;have q1:((bH items.size 0 lo:Nat):Int)=0:=eq_of_beq q.1.1;have q2:bH items.size items.size hi-bH items.size 0 lo=items.size:=eq_of_beq q.2;exact hw ⟨by lia,by lia⟩
 show wpAny _ _ (if(((bH items.size 0 lo:Nat):Int)==0&& (1:Int)==1&& (bH items.size items.size hi-bH items.size 0 lo)==items.size)=true then _ else _) _ _ s;rw[if_neg hno,TJ];first
  |exact aL (m:=Builtin.Tuple.tupleExact _) (tK (bz ⟨_,rfl,bz h⟩) lu)
  |exact aL (m:=Builtin.Tuple.tupleExact _) (tK (aL (bz (bz ⟨_,rfl,bz h⟩))) lu)
  |exact aL (aL (m:=Builtin.Tuple.tupleExact _) (tK (bz (bz ⟨_,rfl,bz h⟩)) lu))
  |exact aL (aL (m:=Builtin.Tuple.tupleExact _) (tK (bz ⟨_,rfl,bz h⟩) lu))
end
end HT
namespace L2
open PySem PySem.Spec PyProof.Rows
noncomputable abbrev TO:=St->Hp->(Option Int->Hp->Prop)->Prop
noncomputable def PO(X:Cx)(e:Option aq)(t:TO):Prop:=
 ∀(pins:List (ah×Obj))(s:af)(σ:St)(H:Hp)(Q:Option Int->Hp->Prop),Inv X pins σ H s->t σ H Q->
  wpAny (model X.prog X.w) X.A (evalPart e X.env) (λu s'=>∃o H',Inv X pins σ H' s'/\IsPart u o/\Q o H') X.xe s
noncomputable def TL:TO:=λ_ H Q=>Q aD H
noncomputable def Ac(t:TE):TO:=λσ H Q=>t σ H λx H1=>∃i,x=.int i/\Q (aC i) H1
section
variable{X:Cx}{e:aq}{te:TE}{lo hi:Option aq}{tl th:TO}{pos p2:Pos}
theorem TN:PO X aD TL:=by intro pins s σ H Q I h;rw[evalPart_none];exact bz ⟨aD,H,I,.none,h⟩
theorem TQ(h:PE X e te):PO X (aC e) (Ac te):=by intro pins s σ H Q I hw;rw[evalPart_some];refine aU (h pins s σ H _ I hw) λu s1 z9=>z9.el λx H1 I1 r1 q1=>?_;obtain⟨i,rfl,q⟩:=q1;obtain⟨t,rfl⟩:=r1;exact⟨aC i,H1,I1,.int i t,q⟩
noncomputable def qX(X:Cx)(r:V->Option Int->Option Int->Hp->VK->Prop):Prop:=
 ∀(pins:List (ah×Obj))(s:af)(σ:St)(H:Hp)(x:V)(v vl vu:aa)(lo hi:Option Int)(sl:ah)(Q:VK),Inv X pins σ H s->RelV x v->s.heap.IsSliceOf sl vl vu .none->IsPart vl lo->IsPart vu hi->r x lo hi H Q->
  ∃T id,typeLookup (.type T) "__getitem__" = pure (aC (.builtin id))/\s.TypeIs v T/\wpAny (model X.prog X.w) X.A (getItem v (.ref sl)) (EP X pins σ Q) X.xe s
theorem qX.or{r r':V->Option Int->Option Int->Hp->VK->Prop}(h:qX X r)(h':qX X r'):qX X (λx lo hi H Q=>r x lo hi H Q\/r' x lo hi H Q):=by
 intro pins s σ H x v vl vu lo hi sl Q I rx hs pl pu q;rcases q with q|q
 exact h pins s σ H x v vl vu lo hi sl Q I rx hs pl pu q;exact h' pins s σ H x v vl vu lo hi sl Q I rx hs pl pu q
noncomputable def TR(r:V->Option Int->Option Int->Hp->VK->Prop)(te:TE)(tl th:TO):TE:=λσ H Q=>te σ H λx H1=>tl σ H1 λl H2=>th σ H2 λu H3=>r x l u H3 Q
theorem TU{r:V->Option Int->Option Int->Hp->VK->Prop}(hr:qX X r)(he:PE X e te)(hl:PO X lo tl)(hu:PO X hi th):PE X (.Subscript e (.Slice lo hi aD p2) pos) (TR r te tl th):=by intro pins s σ H Q I h;refine Subscript_ (aU (he pins s σ H _ I h) λv s1 z9=>z9.el λx H1 I1 r1 q1=>?_);refine wpAny_Slice (aU (hl pins s1 σ H1 _ I1 q1) λvl s2 ⟨l,H2,I2,pl,q2⟩=>aU (hu pins s2 σ H2 _ I2 q2) λvu s3 bV=>?_);obtain⟨u,H3,I3,pu,q3⟩:=bV;rw[evalPart_none];refine bz ?_;have I4:Inv X pins σ H3 {s3 with heap:=s3.heap.push {cls:=.type "slice",data:=.fields #[vl,vu,.none]}}:=I3.kept (t':=s3.toks) λb ob q=>ck _ q;obtain⟨T,id,hT,ht,hg⟩:=hr pins {s3 with heap:=s3.heap.push {cls:=.type "slice",data:=.fields #[vl,vu,.none]}} σ H3 x v vl vu l u s3.heap.objs.size Q I4 r1 (Heap.IsSliceOf.new ..) pl pu q3;show wpAny (model X.prog X.w) X.A (subscriptTail e (.Slice lo hi aD p2) v (.ref s3.heap.objs.size)) (EP X pins σ Q) X.xe {s3 with heap:=s3.heap.push {cls:=.type "slice",data:=.fields #[vl,vu,.none]}};exact tail_any (ops:=[.ref s3.heap.objs.size,v]) ht hT hg (by with_unfolding_all rfl)
noncomputable def jI(xs:List V)(lo hi:Option Int):List V:=(xs.drop (HT.bH xs.length 0 lo)).take (HT.bH xs.length xs.length hi-HT.bH xs.length 0 lo)
theorem M3(xs:List V)(lo hi:Option Int):(jI xs lo hi).length<=xs.length:=by unfold jI;rw[k7,kI];lia
noncomputable def Ad(K:aI):V->Option Int->Option Int->Hp->VK->Prop:=λx lo hi H Q=>∃a xs,x=.ref a/\bW K H a xs/\
 ¬(HT.bH xs.length 0 lo=0/\HT.bH xs.length xs.length hi=xs.length)/\∀p,H p=aD->Q (.ref p) (upd H p (.tup (jI xs lo hi)))
theorem TV:qX X (Ad X.K):=by
 intro pins s σ H x v vl vu lo hi sl Q I rx hs pl pu h;obtain⟨a,xs,rfl,hx,hw,q⟩:=h;cases rx;obtain⟨its,r,ht,hz⟩:=I.tuple hx;have hlen:its.toArray.size=xs.length:=by rw[cC];exact r.length.symm
 refine⟨"tuple",_,xS.lookup,ht.typeIs,?_⟩;refine HT.fR ht hs pl pu (by rw[hlen];exact hw) ?_ (by rw[hlen];exact hz);rw[hlen];refine⟨.ref s.heap.objs.size,_,I.laid (t':=s.toks) (o:=.tup (jI xs lo hi)) (λb ob q=>ck _ q) (aQ _) ?_,rfl,q _ (I.hok.fresh (aQ _))⟩;exact⟨gZ (M3 xs lo hi) hz,_,(r.drop (HT.bH xs.length 0 lo)).take (HT.bH xs.length xs.length hi-HT.bH xs.length 0 lo),kJ.new _ _⟩
noncomputable def lz(K:aI):R2:=λx y H Q=>∃a b xs ys,x=.ref a/\y=.ref b/\bW K H a xs/\bW K H b ys/\xs≠[]/\xs.length+ys.length<=sizeLine/\
 (ys=[]->Q (.ref a) H)/\(ys≠[]->∀p,H p=aD->Q (.ref p) (upd H p (.tup (xs++ys))))
theorem Vals.eS{xs:List V}{us:List aa}(r:Vals xs us):us=[]↔xs=[]:=by
 cases r with|nil=>simp|cons _ _=>simp
theorem TX:cN X (binaryOp .Add) (lz X.K):=by intro pins s σ H x y v u Q I rx ry h;obtain⟨a,b,xs,ys,rfl,rfl,ha,hb,hx,hz,q1,q2⟩:=h;cases rx;cases ry;obtain⟨its,r1,p1,_⟩:=I.tuple ha;obtain⟨its2,r2,p2,_⟩:=I.tuple hb;refine HT.qW p1 p2 (λz=>hx (r1.eS.mp z)) (λz=>⟨.ref a,H,I,rfl,q1 (r2.eS.mp z)⟩) (λz=>?_) (by rw[<-r1.length,<-r2.length];exact hz);refine⟨.ref s.heap.objs.size,_,I.laid (t':=s.toks) (o:=.tup (xs++ys)) (λb ob q=>ck _ q) (aQ _) ?_,rfl,q2 (λw=>z (r2.eS.mpr w)) _ (I.hok.fresh (aQ _))⟩;exact⟨by rw[eZ];exact hz,_,r1.append r2,kJ.new _ _⟩
end
noncomputable def gR(n:Nat)(i:Int):Option Nat:=if 0<=i then(if i<n then aC i.toNat else aD)else if -(n:Int)<=i then aC (i+n).toNat else aD
noncomputable def dH{α:Type}(xs:List α)(i:Int):Option α:=(gR xs.length i).bind λj=>xs[j]?
theorem M4{n:Nat}{i:Int}{j:Nat}(h:gR n i=aC j):seqIndex? i n=aC j/\j<n/\-(n:Int)<=i/\i<n:=by unfold gR at h;by_cases h0:0<=i;rw[if_pos h0]at h;by_cases h1:i<n;rw[if_pos h1]at h;have e:i.toNat=j:=l8 h;exact⟨by rw[Df h0 h1,e],by lia,by lia,h1⟩;rw[if_neg h1]at h;cases h;rw[if_neg h0]at h;by_cases h1:-(n:Int)<=i;rw[if_pos h1]at h;have e:(i+n).toNat=j:=l8 h;exact⟨by rw[De (by lia) h1,e],by lia,h1,by lia⟩;rw[if_neg h1]at h;cases h
theorem GI{α:Type}{xs:List α}{i:Int}{v:α}(h:dH xs i=aC v):∃j,seqIndex? i xs.length=aC j/\xs[j]?=aC v/\j<xs.length/\-(xs.length:Int)<=i/\i<xs.length:=by
 unfold dH at h;cases e:gR xs.length i with
 |none=>rw[e]at h;cases h
 |some j=>
  rw[e]at h;obtain⟨h1,h2,h3,h4⟩:=M4 e;exact⟨j,h1,h,h2,h3,h4⟩
theorem jx{α:Type}{xs:List α}{j:Nat}{v:α}(h:xs[j]?=aC v):dH xs (j:Int)=aC v:=by
 have hj:j<xs.length:=(jD.mp h).1;have e:gR xs.length (j:Int)=aC j:=by unfold gR;rw[if_pos (by lia),if_pos (by lia)];simp
 unfold dH;rw[e];exact h
noncomputable def GJ(b:aq):Prop:=∀o i,subscripted b false o i=operate [o,i] (getItem o i)
noncomputable def qY(X:Cx)(r:R2):Prop:=
 ∀(value slice:aq)(pins:List (ah×Obj))(s:af)(σ:St)(H:Hp)(x y:V)(v u:aa)(Q:VK),Inv X pins σ H s->RelV x v->RelV y u->r x y H Q->
  subscripted slice false v u=operate [v,u] (getItem v u)->wpAny (model X.prog X.w) X.A (subscriptTail value slice v u) (EP X pins σ Q) X.xe s
noncomputable def M5(X:Cx)(id:String)(r:V->List V->Hp->VK->Prop):Prop:=
 ∀(pins:List (ah×Obj))(s:af)(σ:St)(H:Hp)(x:V)(xs:List V)(v:aa)(us:List aa)(Q:VK),Inv X pins σ H s->RelV x v->Vals xs us->r x xs H Q->
  wpAny (model X.prog X.w) X.A (call (.builtin id) (v::us)) (EP X pins σ Q) X.xe s
section
variable{X:Cx}{a b:aq}{ta tb:TE}{pos:Pos}
theorem qY.or{r r':R2}(h:qY X r)(h':qY X r'):qY X (λx y H Q=>r x y H Q\/r' x y H Q):=by
 intro value slice pins s σ H x y v u Q I rx ry q hs;rcases q with q|q
 exact h value slice pins s σ H x y v u Q I rx ry q hs;exact h' value slice pins s σ H x y v u Q I rx ry q hs
theorem Ae{r:R2}(hr:qY X r)(ha:PE X a ta)(hb:PE X b tb)(hs:GJ b):PE X (.Subscript a b pos) (DO r ta tb):=by intro pins s σ H Q I h;exact Subscript_ (vI ha hb I h λv u s2 x y H2 I2 rx ry q=>hr a b pins s2 σ H2 x y v u Q I2 rx ry q (hs _ _))
noncomputable def vN(K:aI):R2:=λx y H Q=>∃p xs i v,x=.ref p/\y=.int i/\cz K H p xs/\dH xs i=aC v/\Q v H
noncomputable def Af(K:aI):R2:=λx y H Q=>∃p xs i v,x=.ref p/\y=.int i/\bW K H p xs/\dH xs i=aC v/\Q v H
theorem TY:qY X (vN X.K):=by
 intro value slice pins s σ H x y v u Q I rx ry h hs;obtain⟨p,xs,i,z,rfl,rfl,hq,he,q⟩:=h;cases rx;obtain⟨t,rfl⟩:=ry;obtain⟨its,r,pl,hz⟩:=I.list hq;obtain⟨j,h1,h2,h3,h4,h5⟩:=GI he;obtain⟨w,ew,rw'⟩:=r.get h2;have hl:=r.length;have hn:=vK;have fin:EP X pins σ Q w s:=⟨z,H,I,rw',q⟩
 by_cases h0:0<=i;have hj:i.toNat=j:=by rw[Df h0 h5]at h1;exact l8 h1
 exact item_listR pl.isList h0 (by lia) (by rw[hj];simpa using ew) fin hs;have hj:(i+ (its.toArray.size:Int)).toNat=j:=by rw[De (by lia) h4]at h1;rw[cC,<-hl];exact l8 h1
 exact subscriptTail_builtinR (x:=w) pl.isList.typeIs slot_list_getitem.lookup
  (wpAny_getItem_list_neg (Q:=λr s'=>r=w/\EP X pins σ Q r s') pl.isList (by lia) (by rw[cC]<;>lia) (by lia) (by rw[hj];simpa using ew) ⟨rfl,fin⟩) hs
theorem TZ:qY X (Af X.K):=by
 intro value slice pins s σ H x y v u Q I rx ry h hs;obtain⟨p,xs,i,z,rfl,rfl,hq,he,q⟩:=h;cases rx;obtain⟨t,rfl⟩:=ry;obtain⟨its,r,pl,hz⟩:=I.tuple hq;obtain⟨j,h1,h2,h3,h4,h5⟩:=GI he;obtain⟨w,ew,rw'⟩:=r.get h2;have hl:=r.length;have hn:=vK;have fin:EP X pins σ Q w s:=⟨z,H,I,rw',q⟩
 exact subscriptTail_builtinR (x:=w) pl.typeIs slot_tuple_getitem.lookup
  (getItem_tuple (j:=j) (Q:=λr s'=>r=w/\EP X pins σ Q r s') pl (by lia) (by lia) (by rw[cC,<-hl];exact h1) (by simpa using ew) ⟨rfl,fin⟩) hs
theorem T3(its:List aa)(n j:Nat)(u:aa):Obj.mapSeq (·.setIfInBounds j u) {cls:=.type "list",data:=.seq its.toArray n} ={cls:=.type "list",data:=.seq (its.set j u).toArray n}:=by simp[Obj.mapSeq]
theorem Inv.lst{pins:List (ah×Obj)}{σ:St}{H:Hp}{s:af}{p:ah}{xs:List V}(I:Inv X pins σ H s)(h:H p=aC (.lst xs)) :
 ∃(its:List aa) (n:Nat),Vals xs its/\s.heap.get? p=aC {cls:=.type "list",data:=.seq its.toArray n}/\xs.length<=sizeLine:=by
 obtain⟨z,its,n,r,e⟩:=I.hok p _ h;exact⟨its,n,r,e,z⟩
theorem Inv.vO{pins:List (ah×Obj)}{σ:St}{H:Hp}{s:af}{p:ah}{xs ys:List V}{its its':List aa}{n n':Nat}{f:Obj->Obj}(I:Inv X pins σ H s)(h:H p=aC (.lst xs))
 (ho:s.heap.get? p=aC {cls:=.type "list",data:=.seq its.toArray n}) (hf:f {cls:=.type "list",data:=.seq its.toArray n} ={cls:=.type "list",data:=.seq its'.toArray n'}) (r:Vals ys its') (hz:ys.length<=sizeLine) (t:Nat) :
 Inv X pins σ (upd H p (.lst ys)) {s with heap:=s.heap.update p f,toks:=t}:=by
 have e:(s.heap.update p f).get? p=aC {cls:=.type "list",data:=.seq its'.toArray n'}:=by rw[Heap.get?_update_self f ho (by rw[hf]<;>rfl),hf]
 refine I.write (x:=p) (e:=p) (by rw[h];trivial) (.inl rfl) (λb u hb q=>(Heap.get?_update_other _ _ (eT hb)).trans q) ⟨_,e⟩ ?_;exact⟨hz,its',n',r,e⟩
noncomputable def Ag:V->V->V->Hp->(Hp->Prop)->Prop:=λo i v H Q=>∃p xs k j,o=.ref p/\i=.int k/\H p=aC (.lst xs)/\gR xs.length k=aC j/\Q (upd H p (.lst (xs.set j v)))
theorem M6:kL X Ag:=by
 intro pins s σ H o i v ov iv u Q I ro ri rv h;obtain⟨p,xs,k,j,rfl,rfl,hp,hj,q⟩:=h;cases ro;obtain⟨t,rfl⟩:=ri;obtain⟨its,n,r,ho,hz⟩:=I.lst hp;obtain⟨h1,h2,h3,h4⟩:=M4 hj;have hl:=r.length;have hn:=vK;have I':Inv X pins σ (upd H p (.lst (xs.set j v))) {s with heap:=s.heap.update p (Obj.mapSeq (·.setIfInBounds j u))}:=
  I.vO hp ho (T3 its n j u) (r.set rv j) (by rw[vj];exact hz) s.toks
 by_cases h0:0<=k;have hk:k.toNat=j:=by rw[Df h0 h4]at h1;exact l8 h1
 exact PySem.W.ki_setAt ho h0 (by lia) (by rw[cC,<-hl];exact h4) (by rw[hk];exact⟨_,I',q⟩);have hk:(k+ (its.toArray.size:Int)).toNat=j:=by rw[De (by lia) h3]at h1;rw[cC,<-hl];exact l8 h1
 exact PySem.W.ki_setBack ho (by lia) (by rw[cC,<-hl];exact h3) (by lia) (by rw[hk];exact⟨_,I',q⟩)
theorem T4(lo hi:Option Int)(n:Nat):(sliceBounds lo hi aD n).1=((HT.bH n 0 lo:Nat):Int)/\(sliceBounds lo hi aD n).2.1=((HT.bH n n hi:Nat):Int)/\(sliceBounds lo hi aD n).2.2=1:=by
 refine⟨?_,?_,rfl⟩;cases lo with
 |none=>simp[sliceBounds,HT.bH]
 |some i=>
  simp only[sliceBounds,HT.bH,Option.getD_none,show(1:Int)>0 by decide,b9];by_cases h:i<0;simp only[h,b9]<;>lia;simp only[h,dB]<;>lia
 cases hi with
 |none=>simp[sliceBounds,HT.bH]
 |some i=>
  simp only[sliceBounds,HT.bH,Option.getD_none,show(1:Int)>0 by decide,b9];by_cases h:i<0;simp only[h,b9]<;>lia;simp only[h,dB]<;>lia
theorem T5(its:List aa)(lo hi:Option Int):slicePick its.toArray lo hi aD=((its.drop (HT.bH its.length 0 lo)).take (HT.bH its.length its.length hi-HT.bH its.length 0 lo)).toArray:=by obtain⟨h1,h2,h3⟩:=T4 lo hi its.toArray.size;unfold slicePick;rw[h1,h2,h3];simp only[sliceRange_one,pick_run,cC]<;>rfl
noncomputable def Ah(K:aI):V->Option Int->Option Int->Hp->VK->Prop:=λx lo hi H Q=>∃a xs,x=.ref a/\cz K H a xs/\∀p,H p=aD->Q (.ref p) (upd H p (.lst (jI xs lo hi)))
theorem T6:qX X (Ah X.K):=by intro pins s σ H x v vl vu lo hi sl Q I rx hs pl pu h;obtain⟨a,xs,rfl,hx,q⟩:=h;cases rx;obtain⟨its,r,ht,hz⟩:=I.list hx;have hlen:=r.length;refine⟨"list",_,slot_list_getitem.lookup,ht.isList.typeIs,?_⟩;refine wpAny_getItem_list_slice ht.isList hs pl pu .none (by simp) ?_ (by rw[cC]<;>lia);rw[T5,<-hlen];refine⟨.ref s.heap.objs.size,_,I.laid (t':=s.toks) (o:=.lst (jI xs lo hi)) (λb ob q=>ck _ q) (aQ _) ?_,rfl,q _ (I.hok.fresh (aQ _))⟩;exact⟨gZ (M3 xs lo hi) hz,_,0,(r.drop (HT.bH xs.length 0 lo)).take (HT.bH xs.length xs.length hi-HT.bH xs.length 0 lo),iF _ rfl⟩
theorem T7:bR X (.builtin "len") (λxs H Q=>∃p ys,xs=[.ref p]/\(cz X.K H p ys\/bW X.K H p ys)/\Q (.int ys.length) H):=by
 intro pins s σ H xs us Q I r h;obtain⟨p,ys,rfl,hq,q⟩:=h;obtain⟨u,rfl,rx⟩:=vals1 r;cases rx;have hn:=vK;rcases hq with hq|hq
 obtain⟨its,r',pl,hz⟩:=I.list hq;have hlen:=r'.length;exact Calls.call_len_list pl.isList (by simp only[cC]<;>lia) ⟨.int ys.length,H,I.tok _,⟨s.toks+1,by rw[cC,hlen]⟩,q⟩;obtain⟨its,r',pl,hz⟩:=I.tuple hq;have hlen:=r'.length;exact len_tuple pl (by simp only[cC]<;>lia) ⟨.int ys.length,H,I.tok _,⟨s.toks+1,by rw[cC,hlen]⟩,q⟩
theorem bR.or{f:aa}{r r':List V->Hp->VK->Prop}(h:bR X f r)(h':bR X f r'):bR X f (λxs H Q=>r xs H Q\/r' xs H Q):=by
 intro pins s σ H xs us Q I rs q;rcases q with q|q
 exact h pins s σ H xs us Q I rs q;exact h' pins s σ H xs us Q I rs q
theorem T8:bR X (.type "list") (λxs H Q=>∃p ys,xs=[.ref p]/\(cz X.K H p ys\/bW X.K H p ys)/\∀l,H l=aD->Q (.ref l) (upd H l (.lst ys))):=by
 intro pins s σ H xs us Q I r h;obtain⟨p,ys,rfl,hq,q⟩:=h;obtain⟨u,rfl,rx⟩:=vals1 r;cases rx;have fin:∀(its:List aa),Vals ys its->ys.length<=sizeLine->∀(h':aA)(c':Nat),(∀b o',s.heap.get? b=aC o'->h'.get? b=aC o')->
  h'.get? s.heap.objs.size=aC {cls:=.type "list",dict:=aD,data:=.seq its.toArray c',slots:=#[]}->EP X pins σ Q (.ref s.heap.objs.size) {s with heap:=h'}:=λits r' hz h' c' kp e=>
  ⟨.ref s.heap.objs.size,_,I.laid (t':=s.toks) kp (aQ _) (show aY X.prog X.w _ h' _ (.lst ys)from⟨hz,its,c',r',e⟩),rfl,q _ (I.hok.fresh (aQ _))⟩
 rcases hq with hq|hq;obtain⟨its,r',pl,hz⟩:=I.list hq;have hlen:=r'.length;obtain⟨o,ho,hc,n,hd⟩:=pl.isList;exact call_list_seq p (.inl rfl) ho hc hd (λh' c' kp e=>fin its r' hz h' c' kp e) (by simp only[cC]<;>lia);obtain⟨its,r',pl,hz⟩:=I.tuple hq;have hlen:=r'.length;obtain⟨o,ho,hc,n,hd⟩:=pl;exact call_list_seq p (.inr rfl) ho hc hd (λh' c' kp e=>fin its r' hz h' c' kp e) (by simp only[cC]<;>lia)
theorem T9:bR X (.type "tuple") (λxs H Q=>∃p ys,xs=[.ref p]/\((cz X.K H p ys/\∀l,H l=aD->Q (.ref l) (upd H l (.tup ys)))\/(bW X.K H p ys/\Q (.ref p) H))):=by
 intro pins s σ H xs us Q I r h;obtain⟨p,ys,rfl,h⟩:=h;obtain⟨u,rfl,rx⟩:=vals1 r;cases rx;rcases h with⟨hq,q⟩|⟨hq,q⟩
 obtain⟨its,r',pl,hz⟩:=I.list hq;have hlen:=r'.length;refine call_tuple_list pl.isList (λh' kp=>?_) (by simp only[cC]<;>lia);have I1:Inv X pins σ H {s with heap:=h'}:=I.kept (t':=s.toks) kp;have I2:Inv X pins σ (upd H h'.objs.size (.tup ys)) {s with heap:=h'.push {cls:=.type "tuple",data:=.seq its.toArray}}:=
  I1.laid (t':=s.toks) (λb o e=>ck _ e) (aQ _) (show aY X.prog X.w _ _ _ (.tup ys)from⟨hz,its,r',kJ.new _ _⟩)
 exact⟨.ref h'.objs.size,_,I2,rfl,q _ (I1.hok.fresh (aQ _))⟩;obtain⟨its,r',pl,hz⟩:=I.tuple hq;exact call_tuple_same pl ⟨.ref p,H,I,rfl,q⟩
noncomputable def M7(K:aI)(T:String)(x:V)(H:Hp):Prop:=match x with
 |.str _=>T = "str"
 |.int _=>T = "int"
 |.ref p=>(T = "list"/\∃xs,cz K H p xs)\/(T = "tuple"/\∃xs,bW K H p xs)\/
  (T = "dict"/\((∃kvs,H p=aC (.dK kvs))\/∃kvs,H p=aC (.dT kvs)))\/(T = "set"/\∃S n,H p=aC (.set S n))
 |_=>False
theorem Ua{pins:List (ah×Obj)}{σ:St}{H:Hp}{s:af}{T:String}{x:V}{v:aa}(I:Inv X pins σ H s)(r:RelV x v)(ty:M7 X.K T x H) :
 s.TypeIs v T/\∀a,v=.ref a->∃ob,s.heap.get? a=aC ob/\ob.dict=aD:=by
 cases x with
 |str z=>
  obtain⟨t,rfl⟩:=r;cases(show T = "str"from ty);exact⟨typeIs_str s z t,λ_ e=>nomatch e⟩
 |int i=>
  obtain⟨t,rfl⟩:=r;cases(show T = "int"from ty);exact⟨typeIs_int s i t,λ_ e=>nomatch e⟩
 |ref p=>
  cases r;rcases ty with⟨rfl,xs,hq⟩|⟨rfl,xs,hq⟩|⟨rfl,hk⟩|⟨rfl,S,n,hk⟩
  obtain⟨its,_,pl,_⟩:=I.list hq;refine⟨pl.isList.typeIs,λa e=>?_⟩;cases e;obtain⟨o,n,e,c,hd,_⟩:=pl;exact⟨o,e,hd⟩;obtain⟨its,_,⟨o,h1,h2,_,h3⟩,_⟩:=I.nQ hq;refine⟨⟨o,h1,h2⟩,λa e=>?_⟩;cases e;exact⟨o,h1,h3⟩;have z:∃o,s.heap.get? p=aC o/\o.ExactDict:=by rcases hk with⟨kvs,hk⟩|⟨kvs,hk⟩;obtain⟨_,_,_,_,o,_,_,e,ex,_⟩:=I.hok p _ hk;exact⟨o,e,ex⟩;obtain⟨_,_,_,_,o,_,_,e,ex,_⟩:=I.hok p _ hk;exact⟨o,e,ex⟩
  obtain⟨o,e,ex⟩:=z;refine⟨⟨o,e,ex.1⟩,λa e2=>?_⟩;cases e2;exact⟨o,e,ex.2.1⟩;obtain⟨o,_,_,_,e,ex,_⟩:=I.hok p _ hk;refine⟨⟨o,e,ex.1⟩,λa e2=>?_⟩;cases e2;exact⟨o,e,ex.2.1⟩
 |_=>exact False.elim ty
noncomputable def Ub(K:aI)(T:String)(r:V->List V->Hp->VK->Prop)(to:TE)(t:TA):TE:=λσ H Q=>to σ H λx H1=>M7 K T x H1/\t σ H1 λxs H2=>r x xs H2 Q
variable{o e:aq}{es:List aq}{to:TE}{t:TA}{name:Str}{apos cpos:Pos}{T id:String}{r:V->List V->Hp->VK->Prop}
theorem Ai(pa:PlainAttrs T)(slot:Slot T name id)(hty:typeOf (.builtin id)=pure (.type "method_descriptor"))(hm:M5 X id r)(ho:PE X o to)(ha:PA X (e::es) t)
 (hbase:autoParam (attributeBase o name X.env (eval o X.env)=eval o X.env) L2.aR1._auto_1)
 (hfew:autoParam (((backTo cpos (starEach (e::es) X.env)).all (λx=>!x.1)&& (backToKw cpos (keywordEach [] X.env)).all (λx=>x.1.isSome)
   && decide ((e::es).length+ ([]:List Keyword).length+ (if([]:List Keyword).isEmpty then 0 else 1)<30))=true) L2.aR1._auto_1)
 (hline:autoParam ((apos.endLine==cpos.line)=true) L2.aR1._auto_1) (hs:autoParam (starEach (e::es) X.env=(false,eval e X.env)::starEach es X.env) L2.aR1._auto_1) (hplain:autoParam ((backTo cpos (starEach es X.env)).any (·.1)=false) L2.aR1._auto_1) :
 PE X (.Call (.Attribute o name apos) (e::es) [] cpos) (Ub X.K T r to t):=by
 intro pins s σ H Q I h;refine wpAny_Call_method_late hbase hfew hline rfl (aU (ho pins s σ H _ I h) λv s1 z9=>z9.el λx H1 I1 r1 bV=>?_);obtain⟨ty,q1⟩:=bV;obtain⟨h1,h2⟩:=Ua I1 r1 ty;refine⟨T,id,pa,slot,hty,h1,h2,?_⟩;have hA:=ha cpos pins s1 σ H1 _ I1 q1;rw[hs]at hA ⊢;refine Calls.callWith_builtin (by show(false|| (backTo cpos (starEach es X.env)).any (·.1))=false;rw[hplain]<;>rfl) (Calls.evalArgs_plain ?_);exact aU hA λus s2 z9=>z9.el λvs H2 I2 r2 q2=>hm pins s2 σ H2 x vs v us Q I2 r1 r2 q2
/- xs.append(e),list.index on a Aj tuple .. are M5 facts of 06m -/
end
noncomputable def M8(X:Cx)(id:String)(r:V->List V->Hp->VK->Prop):Prop:=
 ∀(pins:List (ah×Obj))(s:af)(σ:St)(H:Hp)(x:V)(xs:List V)(v:aa)(us:List aa)(Q:VK),Inv X pins σ H s->RelV x v->Vals xs us->r x xs H Q->
  wpAny (model X.prog X.w) X.A (call (.builtin id) (v::us)) (EP X pins σ Q) X.xe s
theorem Vals.one:∀{x:V} {us:List aa},Vals [x] us->∃u,us=[u]/\RelV x u|_,_,.cons r .nil=>⟨_,rfl,r⟩
theorem Vals.rep{xs:List V}{us:List aa}(h:Vals xs us):∀k:Nat,Vals (bE k xs).flatten (bE k us).flatten
 |0=>.nil
 |k+1=>by
  rw[nK,nK,vf,vf];exact Vals.append h (Vals.rep h k)
theorem M9(its:List aa):∀(k:Nat) (acc:List aa),
 List.foldl (λx1 x2=>x1++x2) acc.toArray (bE k its.toArray)=(acc++(bE k its).flatten).toArray
 |0,acc=>by simp
 |k+1,acc=>by
  have e:acc.toArray++its.toArray=(acc++its).toArray:=by simp
  have e2:(acc++its)++(bE k its).flatten=acc++(bE (k+1) its).flatten:=by rw[nK,vf,j9]
  rw[<-e2,<-M9 its k (acc++its),<-e,nK,Du]
section
variable{X:Cx}{pins:List (ah×Obj)}{σ:St}{H:Hp}{s:af}{l b:ah}{xs ys zs:List V}
theorem Inv.vP{its its':List aa}{n:Nat}{f:Array aa->Array aa}{t':Nat}(I:Inv X pins σ H s)(hH:H l=aC (.lst xs))
 (e:s.heap.get? l=aC {cls:=.type "list",data:=.seq its.toArray n}) (hf:f its.toArray=its'.toArray) (hv:Vals ys its') (hz:ys.length<=sizeLine) :
 Inv X pins σ (upd H l (.lst ys)) {s with heap:=s.heap.update l (Obj.mapSeq f),toks:=t'}:=by
 have q:=PySem.IsL.update e f;rw[hf]at q;refine I.write (x:=l) (e:=l) (by rw[hH];exact trivial) (.inl rfl) (λb' u hb hu=>(Heap.get?_update_other s.heap (Obj.mapSeq f) (eT hb)).trans hu) ⟨_,q⟩ ?_;exact⟨hz,its',_,hv,q⟩
theorem Inv.GK{its:List aa}{t':Nat}(I:Inv X pins σ H s)(hv:Vals ys its)(hz:ys.length<=sizeLine) :
 Inv X pins σ (upd H s.heap.objs.size (.lst ys)) {s with heap:=s.heap.push {cls:=.type "list",data:=.seq its.toArray},toks:=t'}:=
 I.laid (λ_ _ q=>ck _ q) (aQ _) ⟨hz,its,0,hv,iF _ rfl⟩
theorem Inv.fresh(I:Inv X pins σ H s):H s.heap.objs.size=aD:=I.hok.fresh (aQ _)
theorem Inv.fS(I:Inv X pins σ H s)(hH:H l=aC (.lst xs)):xs.length<=sizeLine/\∃(its:List aa) (n:Nat),Vals xs its/\xs.length=its.length/\s.heap.get? l=aC {cls:=.type "list",data:=.seq its.toArray n}:=by obtain⟨z,its,n,r,e⟩:=I.hok l _ hH;exact⟨z,its,n,r,r.length,e⟩
theorem Na{n:Nat}(h:n<=sizeLine):Builtin.List.listTooLong n=false:=by unfold Builtin.List.listTooLong;exact iE (by lia)
end
section
variable{X:Cx}
noncomputable def Uc:V->List V->Hp->VK->Prop:=λx vs H Q=>∃l xs y,x=.ref l/\vs=[y]/\H l=aC (.lst xs)/\xs.length<sizeLine/\Q .aO (upd H l (.lst (xs++[y])))
theorem GL:M8 X "list.append" Uc:=by intro pins s σ H x vs v us Q I rx rv h;obtain⟨l,xs,y,rfl,rfl,hH,hz,q⟩:=h;cases rx;obtain⟨u,rfl,ru⟩:=rv.one;obtain⟨z,its,n,r,hl,e⟩:=I.fS hH;refine qp F.slot_list_append ⟨_,e,rfl⟩ F.entry_list_append (F.args_list_append_2 _ _) (PySem.list_append l its.toArray n u (by rw[cC];lia)) ⟨e,?_⟩;refine⟨.aO,_,I.vP (its':=its++[u]) hH e (by simp) (r.append (.cons ru .nil)) ?_,rfl,q⟩;rw[eZ,Dn];lia
noncomputable def Ud:V->List V->Hp->VK->Prop:=λx vs H Q=>∃l b xs zs,x=.ref l/\vs=[.ref b]/\H l=aC (.lst xs)/\H b=aC (.lst zs)/\xs.length+zs.length<=sizeLine/\Q .aO (upd H l (.lst (xs++zs)))
theorem zup:M8 X "list.extend" Ud:=by
 intro pins s σ H x vs v us Q I rx rv h;obtain⟨l,b,xs,zs,rfl,rfl,hH,hB,hz,q⟩:=h;cases rx;obtain⟨u,rfl,ru⟩:=rv.one;cases ru;obtain⟨z,its,n,r,hl,e⟩:=I.fS hH;obtain⟨z2,its2,n2,r2,hl2,e2⟩:=I.fS hB;have hsz:its.toArray.size+its2.toArray.size<=sizeLine:=by rw[cC,cC];lia
 have nU:¬(!its.toArray.isEmpty&&Builtin.List.listTooLong (its.toArray.size+its2.toArray.size))=true:=by rw[Na hsz,Bool.and_false];exact yV
 refine qp F.slot_list_extend ⟨_,e,rfl⟩ F.entry_list_extend (F.args_list_extend_2 _ _)
  (AutoSeq1.list_extend_list_list_0 l its.toArray n b its2.toArray n2 nU (by rw[cC];lia) (by lia)) ⟨e,e2,?_⟩
 refine⟨.aO,_,I.vP (its':=its++its2) hH e (by simp) (r.append r2) ?_,rfl,q⟩;rw[eZ];lia
noncomputable def Ak:R2:=λx y H Q=>∃l b xs zs,x=.ref l/\y=.ref b/\H l=aC (.lst xs)/\H b=aC (.lst zs)/\xs.length+zs.length<=sizeLine/\∀p,H p=aD->Q (.ref p) (upd H p (.lst (xs++zs)))
theorem Ue:cN X (binaryOp .Add) Ak:=by
 intro pins s σ H x y v u Q I rx ry h;obtain⟨l,b,xs,zs,rfl,rfl,hH,hB,hz,q⟩:=h;cases rx;cases ry;obtain⟨z,its,n,r,hl,e⟩:=I.fS hH;obtain⟨z2,its2,n2,r2,hl2,e2⟩:=I.fS hB;refine PySem.P.add_list e e2 ?_ (by rw[cC,cC];lia);have ea:its.toArray++its2.toArray=(its++its2).toArray:=by simp
 rw[ea];exact⟨.ref _,_,I.GK (t':=s.toks) (r.append r2) (by rw[eZ];lia),rfl,q _ I.fresh⟩
theorem Nb{α:Type}(xs:List α)(k:Nat):(bE k xs).flatten.length=k*xs.length:=by
 induction k with|zero=>simp|succ k ih=>rw[nK,vf,eZ,ih,Nat.succ_mul,Nat.add_comm]
end
end L2
namespace Nc
open PySem PySem.W PySem.Calls PyProof.Rows
theorem Ug{P:Params}{h:aA}:∀(ns:List Int) (vs:List aa),WellAll P h vs (ns.map WData.int)->IntsAre vs ns:=by
 intro ns;induction ns with
 |nil=>
  intro vs w;rw[xQ]at w;cases w;exact .nil
 |cons n ns ih=>
  intro vs w;rw[gQ]at w;cases w with
  |cons a b=>
   cases a;exact .cons _ _ (ih _ b)
theorem Uh{l:OpenLaw}{n:Nat}(hn:l.most=aC n){P:Params}{h:aA}{args:List WData}{vals:List aa}
 (hpre:l.row.toRowW.claim.pre args) (hwl:WellAll P h vals args) :
 ∃a vs ns,vals=[Value.ref a]/\args=[WData.list (ns.map WData.int)]/\h.get? a=aC {cls:=.type "list",data:=.seq vs.toArray}/\IntsAre vs ns/\ns.length<=n:=by
 have hsh:WShape.hasAll [] args [.list .int]=true:=(pre_splitW hpre).1;have hc:l.pre.holds [] {args:=args}=true:=(pre_splitW hpre).2;obtain⟨d,r,rfl,h1,h2⟩:=hasAllW_cons hsh;obtain rfl:=hasAllW_nil h2;obtain⟨xs,rfl,h3⟩:=hasW_list h1;obtain⟨ns,rfl⟩:=items_int h3;have hlen:ns.length<=n:=by
  unfold OpenLaw.pre at hc;have h4:(WTm.not (.lt (.lit (.int (n:Int))) (.len (.arg 0)))).holds [] {args:=[.list (ns.map .int)]}=true:=by have h4:=(holds_andW hc).1;rw[hn]at h4;exact h4
  have h5:=condW_of h4 (w_not (w_lt w_lit (w_len_list (w_arg rfl))));rw[bA]at h5;refine Nat.le_of_not_lt λq=>?_;have q':(n:Int)< ((ns.length:Nat):Int):=by lia
  first
   |(rw[kE q']at h5;exact absurd h5 (by decide))
   |(simp at h5;lia)
 cases hwl with
 |cons w1 w2=>
  cases w2;cases w1 with|list ho hall=>exact⟨_,_,ns,rfl,rfl,ho,Ug ns _ hall,hlen⟩
theorem Ui(l:OpenLaw)(args:List WData):l.row.toRowW.claim.post args (.bool true) args=true:=
 postW_of (r:=l.row.toRowW) (X:=(true==true))
  (show WShape.has [] (.bool true) .bool=true by first|rfl|decide|simp[WShape.has,WShape.arms,WShape.armsAll])
  (show(WTm.eq .res (.lit (.bool true))).value [] {args:=args,res:=aC (.bool true),after:=args}=aC (.bool (true==true))from w_eq_bool (w_res rfl) w_lit) rfl
theorem jJ{l:OpenLaw}{n:Nat}{q:ai}{loose:List Str}{XP:(Str->Option aa)->aA->Prop}{YP:ak->aA->Prop}{d:DefRec}
 (hn:l.most=aC n) (hdf:d.params.defaults=[])
 (call:∀(w:ak)(s₀ s₁:af)(mg mb:Str->Option aa)(fa:ah)(o:Obj)(pm cd doc:aa)(a:ah)(vs:List aa)(ns:List Int),
   Ground q loose [] XP w s₀ mg mb s₁.heap->YP w s₁.heap->
   s₁.heap.get? fa=aC o->o.data=.func (docDef d.name d.params d.body d.scope pm cd doc)->s₁.heap.CodeRec cd d.name->mg d.name=aC (.ref fa)->
   s₁.heap.get? a=aC {cls:=.type "list",data:=.seq vs.toArray}->IntsAre vs ns->ns.length<=n->s₁.gens = #[]->
   codeAny (model l.prog w) callerA (.call (.ref fa) ⟨[.ref a],[]⟩) (λr s'=>r=.ok (.ret (.bool true))/\OldK s₁.heap s'.heap/\s'.os=s₁.os/\AllBare s'.gens) s₁) :
 WalkO q loose XP YP l.row.toRowW d [] (λf vs=>PySem.call f vs):=by
 intro w s₀ s₁ mg mb G Y fa o pm cd doc dV kV ho hd hcd hD hmg hg args vals as hpre hlay hrd hwl hlo;obtain rfl:dV=.none:=Dflts.none hD hdf;obtain rfl:kV=.none:=Dflts.noKw hD;obtain⟨a,vs,ns,rfl,rfl,hobj,hints,hlen⟩:=Uh hn hpre hwl;refine enter_call (codeAny_mono (call w s₀ s₁ mg mb fa o pm cd doc a vs ns G Y ho (fd_plain hd) hcd hmg hobj hints hlen hg) λr s' hq=>?_);obtain⟨rfl,h2,h3,h4⟩:=hq;exact⟨.inl ⟨.bool true,.bool true,[],rfl,λ_=>rfl,.bool true,Ui l _,λ_=>⟨List.Pairwise.nil,λ_ hm=>(nomatch hm)⟩⟩,h2,h3,h4⟩
end Nc
namespace L2
open PySem PySem.Spec PyProof.Rows
theorem Nd:∀{vs:List aa} {ns:List Int},IntsAre vs ns->Vals (ns.map V.int) vs|_,_,.nil=>.nil|_,_,.cons n t h=>.cons ⟨t,rfl⟩ (Nd h)
noncomputable def vQ(H:Hp):Prop:=∀b,H b=aD\/∃o xs,H b=aC (.bI o (.lst xs))
theorem Uj{P:ai}{w:ak}{K:aI}{mg mb:Str->Option aa}{CX:pW}{k:Nat}{fa a:ah}{fd:av}{x:Str}{sp:Sp}{s₁:af}{vs:List aa}{ns:List Int}
 (KX:K.In s₁.heap) (hns:s₁.heap.Ns mainGlobals mg) (hb:s₁.heap.Ns builtinsNs mb) (Uk:∀x:Str,x≠"__name__"->mb x=bootBuiltins x) (hlim:s₁.heap.NoLimit) (hg:s₁.gens = #[])
 (ha:s₁.heap.get? a=aC {cls:=.type "list",data:=.seq vs.toArray}) (hi:IntsAre vs ns) (hl:ns.length<=sizeLine) (hr:cJ k callerA)
 (F:∀base:aA,K.In base->base.Ns mainGlobals mg->fC P w K mg base CX k fa fd [x] sp) (hbind:∀(s:af)(u:aa),BindsTo s fd ⟨[u],[]⟩ [(x,u)])
 (pX:∀H:Hp,vQ H->cz K H a (ns.map V.int)->sp [.ref a] H (λv _=>v=.bl true) λ_ _ _=>False)
 (GN:∀H e s',CX [] H s₁ (λ_ _ _=>False) e s'->False) :
 codeAny (model P w) callerA (.call (.ref fa) ⟨[.ref a],[]⟩) (λr s'=>r=.ok (.ret (.bool true))/\OldK s₁.heap s'.heap/\s'.os=s₁.os/\AllBare s'.gens) s₁:=by
 have rv:=Nd hi;have GO:=hi.length;have core:∀H:Hp,vQ H->cz K H a (ns.map V.int)->ff P w H s₁.heap->(∀b,H b≠aD->b=a)->(H a≠aD->K.lookup a=aD)->
  codeAny (model P w) callerA (.call (.ref fa) ⟨[.ref a],[]⟩) (λr s'=>r=.ok (.ret (.bool true))/\OldK s₁.heap s'.heap/\s'.os=s₁.os/\AllBare s'.gens) s₁:=by
  intro H hO hS hok hA hK;have base_of:∀{b:ah}{o:Obj},s₁.heap.get? b=aC o->H b=aD->(ja s₁.heap H).get? b=aC o:=λe n=>RG e n;have Aa:∀{b:ah}{o:Obj}{es:Array DictEntry}{ep:Nat},s₁.heap.get? b=aC o->o.data=.dict es ep->H b=aD:=λ{b o es ep} e d=>by
   cases q:H b with
   |none=>rfl
   |some u=>
    have e':b=a:=hA b (by rw[q];simp);subst e';rw[ha]at e;cases e;have d':Data.seq vs.toArray _=Data.dict es ep:=d;cases d'
  have DS:∀{b:ah}{m:Str->Option aa},s₁.heap.Ns b m->(ja s₁.heap H).Ns b m:=λ{b m}⟨o,es,ep,e,d,r⟩=>⟨o,es,ep,base_of e (Aa e d),d,r⟩
  have Nf:K.In (ja s₁.heap H):=λb o e=>base_of (KX b o e) (by
   cases q:H b with
   |none=>rfl
   |some u=>
    have e':b=a:=hA b (by rw[q];simp);subst e';rw[hK (by rw[q];simp)]at e;cases e)
  have hM:Mod K mg (ja s₁.heap H):=⟨Nf,DS hns,⟨mb,DS hb,Uk⟩,let⟨mc,h1,h2⟩:=hlim;⟨mc,DS h1,h2⟩⟩
  have e0:qV P w K mg (ja s₁.heap H) callerA [] s₁ H:=⟨rfl,hM,λb o e=>RH e,Nat.le_of_eq (RE _ _),trivial,λb hb=>absurd (show b∈([]:List ah)from hb) (by simp),hok,.of_eq hg⟩
  refine codeAny_mono ((F _ Nf (DS hns)).run callerA [] s₁ H ⟨[.ref a],[]⟩ [.ref a] [.ref a] _ _ hr e0 (hbind s₁ (.ref a)) (.cons rfl .nil) (pX H hO hS)) λr s' h=>?_;cases r with
  |error e=>exact(GN H e s' h).elim
  |ok fl=>
   cases fl with
   |next=>exact False.elim h
   |brk=>exact False.elim h
   |cont=>exact False.elim h
   |ret u=>
    obtain⟨v,H',os,bare,un,GP,r',q⟩:=h;have q':v=.bl true:=q;subst q';obtain rfl:u=Value.bool true:=r';refine⟨rfl,OldK.of_keep λb o e=>?_,os,bare⟩;cases q:H b with
    |none=>exact un.keep b o e q (by intro z;exact absurd (show b∈([]:List ah)from z) (by simp)) (by simp)
    |some u=>
     rcases hO b with z|⟨ob,xs,z⟩;rw[q]at z;cases z;have z2:=un.ig b ob _ z;obtain⟨e1,_⟩:=hok b _ z;obtain⟨e2,_⟩:=GP b _ z2;rw[e]at e1;cases e1;exact e2
 cases hk:K.lookup a with
 |some o=>
  have e:=KX a o hk;rw[ha]at e;cases e;refine core (λ_=>aD) (λ_=>.inl rfl) (.inr ⟨_,vs.toArray,_,hk,rfl,rfl,rfl,by rw[cC,GO];exact hl,by simpa using rv⟩) (λb u z=>by have z':(aD:Option HO)=aC u:=z;cases z') (λb z=>absurd rfl z) λz=>absurd rfl z
 |none=>
  refine core (λb=>if b=a then aC (.bI {cls:=.type "list",data:=.seq vs.toArray} (.lst (ns.map V.int)))else aD) (λb=>?_) (.inl (.inr ⟨{cls:=.type "list",data:=.seq vs.toArray},if_pos rfl⟩)) (λb u z=>?_) (λb z=>?_) λ_=>hk;by_cases hb:b=a;exact .inr ⟨_,_,if_pos hb⟩;exact .inl (if_neg hb);by_cases hb:b=a;have z':=(if_pos hb).symm.trans z;cases z';subst hb;exact⟨ha,by rw[bA];exact hl,vs,_,rv,ha⟩;have z':=(if_neg hb).symm.trans z;cases z';by_cases hb:b=a;exact hb;exact absurd (if_neg hb) z
theorem Ul{l:PySem.W.OpenLaw}{n k:Nat}{q:ai}{loose:List Str}{XP:(Str->Option aa)->aA->Prop}{YP:ak->aA->Prop}{d:DefRec}{K:Params->aI}{CX:ak->pW}{sp:ak->Sp}{x:Str}
 (hn:l.most=aC n) (hn2:n<=sizeLine) (hdf:d.params.defaults=[]) (hr:cJ k callerA)
 (hY:∀(w:ak)(h:aA),YP w h->(K w.params).In h)
 (F:∀(w:ak)(mg:Str->Option aa)(fa:ah)(h:aA),(K w.params).In h->h.Ns mainGlobals mg->mg d.name=aC (.ref fa)->
   ∃fd:av,(∀(s:af)(u:aa),BindsTo s fd ⟨[u],[]⟩ [(x,u)])/\
    ∀base:aA,(K w.params).In base->base.Ns mainGlobals mg->fC l.prog w (K w.params) mg base (CX w) k fa fd [x] (sp w))
 (pX:∀(w:ak)(H:Hp)(a:ah)(ns:List Int),ns.length<=n->vQ H->cz (K w.params) H a (ns.map V.int)->sp w [.ref a] H (λv _=>v=.bl true) λ_ _ _=>False)
 (GN:∀(w:ak)(H:Hp)(s:af)(e:aa)(s':af),CX w [] H s (λ_ _ _=>False) e s'->False) :
 PySem.W.WalkO q loose XP YP l.row.toRowW d [] (λf vs=>PySem.call f vs):=by
 refine Nc.jJ hn hdf λw s₀ s₁ mg mb fa o pm cd doc a vs ns G Y ho hd hcd hmg hobj hints hlen hg=>?_;have KX:=hY w _ Y;obtain⟨fd,hb,hF⟩:=F w mg fa _ KX G.T.g hmg;exact Uj KX G.T.g G.T.b G.T.builtins G.T.nolimit hg hobj hints (gZ hlen hn2) hr hF hb (λH hO hS=>pX w H a ns hlen hO hS) λH e s'=>GN w H s₁ e s'
noncomputable def Um(s:au):Arguments:=match s with|.FunctionDef _ a _ _ _ _ _ _ _ _=>a|_=>{posonlyargs:=[],args:=[],vararg:=aD,kwonlyargs:=[],kw_defaults:=[],kwarg:=aD,defaults:=[]}
noncomputable def Al(s:au):List au:=match s with|.FunctionDef _ _ b _ _ _ _ _ _ _=>b|_=>[]
noncomputable def jb(s:au):az:=match s with|.FunctionDef _ _ _ _ _ _ sc _ _ _=>sc|_=>{kind:=.function,names:=[],isGenerator:=false,isCoroutine:=false}
noncomputable abbrev lA:pW:=λ_ _ _ _ _ _=>False
noncomputable abbrev E0:XK:=λ_ _ _=>False
theorem nV{X:Cx}:DR lA X E0:=λ_ _ _ _ _ _ _ h=>h.elim
theorem Ng{n:Nat}(h:n<=1000):n<sizeLine:=Nat.lt_of_le_of_lt h (by decide)
noncomputable def je(cells:List (Str×ah)):List (Str×NameKind)->List (Str×ah)->List (Str×ah)|[],cs=>cs|(n,k)::r,cs=>je cells r (if k == .free then(match cells.lookup n with|some c=>(n,c)::cs|none=>cs)else cs)
theorem DT{scope:az}{env:Env}(hf:∀y∈scope.names,y.2=.free->∃c,env.cells.lookup y.1=aC c):closureFor scope env=pure (je env.cells scope.names []):=by
 have go:∀(l:List (Str×NameKind))(cs:List (Str×ah)),(∀y∈l,y.2=.free->∃c,env.cells.lookup y.1=aC c)->
  (forIn l cs λ(x:Str×NameKind)(r:List (Str×ah))=>(match x with
    |(name,kind)=>if(kind==NameKind.free)=true then(do let a <-cellOf env name;pure (ForInStep.yield ((name,a)::r)))else pure (ForInStep.yield r):Sem (ForInStep (List (Str×ah)))))=(pure (je env.cells l cs):Sem (List (Str×ah))):=by
  intro l;induction l with
  |nil=>intro cs _;rfl
  |cons x r ih=>
   intro cs h;obtain⟨n,k⟩:=x;rw[zc];by_cases hk:(k==NameKind.free)=true;have hk':k=.free:=by simpa using hk
   obtain⟨c,hc⟩:=h (n,k) fM hk';have hc':env.cells.lookup n=aC c:=hc;simp only[hk,b9,cellOf,hc',je];exact ih _ λy hy=>h y (dU _ hy);have hk':(k==NameKind.free)=false:=by simpa using hk
   simp only[hk',dS,dB,je];exact ih _ λy hy=>h y (dU _ hy)
 have e:=go scope.names [] hf;unfold closureFor;refine Eq.trans (kF (λt=>t >>= λcs=>pure cs) e) ?_;rfl
theorem DU{cells:List (Str×ah)}:∀(l:List (Str×NameKind)) (cs:List (Str×ah)),(∀x c,cs.lookup x=aC c->cells.lookup x=aC c)->∀x c,(je cells l cs).lookup x=aC c->cells.lookup x=aC c
 |[],cs,h=>h
 |(n,k)::r,cs,h=>DU r _ λx c e=>by
  by_cases hk:(k==NameKind.free)=true;simp only[hk,b9]at e;cases hc:cells.lookup n with
  |none=>rw[hc]at e;exact h x c e
  |some d=>
   rw[hc]at e;simp only[gx]at e;by_cases hx:(x==n)=true;simp only[hx]at e;cases e;rw[show x=n by simpa using hx];exact hc;have hx':(x==n)=false:=by simpa using hx
   simp only[hx']at e;exact h x c e
  have hk':(k==NameKind.free)=false:=by simpa using hk
  simp only[hk',dS,dB]at e;exact h x c e
theorem Nh{cells:List (Str×ah)}{x:Str}{c:ah}(hc:cells.lookup x=aC c):∀(l:List (Str×NameKind)) (cs:List (Str×ah)),cs.lookup x=aC c->(je cells l cs).lookup x=aC c
 |[],cs,h=>h
 |(n,k)::r,cs,h=>Nh hc r _ (by
  by_cases hk:(k==NameKind.free)=true;simp only[hk,b9];cases hn:cells.lookup n with
  |none=>exact h
  |some d=>
   simp only[gx];by_cases hx:(x==n)=true;have:x=n:=by simpa using hx
   subst this;rw[hc]at hn;cases hn;simp;have hx':(x==n)=false:=by simpa using hx
   simp only[hx'];exact h
  have hk':(k==NameKind.free)=false:=by simpa using hk
  simp only[hk',dS,dB];exact h)
theorem GQ{cells:List (Str×ah)}{x:Str}{c:ah}(hc:cells.lookup x=aC c):∀(l:List (Str×NameKind)) (cs:List (Str×ah)),(x,NameKind.free)∈l->(je cells l cs).lookup x=aC c
 |[],cs,h=>by cases h
 |(n,k)::r,cs,h=>by
  rcases gy.mp h with e|e;cases e;refine Nh hc r _ ?_;rw[hc];simp[gx];exact GQ hc r _ e
theorem GR{x:Str}:∀(l:List (Str×NameKind)) (a:Nat) (acc:List (Str×ah)),(x,NameKind.cell)∉l->(cellsFrom a l acc).lookup x=acc.lookup x
 |[],_,_,_=>rfl
 |(n,k)::r,a,acc,h=>by
  unfold cellsFrom;have hr:(x,NameKind.cell)∉r:=λz=>h (dU _ z);split;rename_i hk;have hk:k=.cell:=by simpa using hk
  rw[GR r _ _ hr,gx];have:(x==n)=false:=by rw[C6];rintro rfl;exact h (by rw[hk];exact fM)
  rw[this];exact GR r _ _ hr
theorem DV{x:Str}{c:ah}:∀(l:List (Str×NameKind)) (a:Nat) (acc:List (Str×ah)),(cellsFrom a l acc).lookup x=aC c->acc.lookup x=aC c\/a<=c
 |[],_,_,h=>.inl h
 |(n,k)::r,a,acc,h=>by
  unfold cellsFrom at h;split at h;rcases DV r _ _ h with h|h
  rw[gx]at h;split at h;cases h;exact .inr (aQ _);exact .inl h;exact .inr (Dg h);exact DV r _ _ h
theorem DW{x:Str}:∀(l:List (Str×NameKind)) (a:Nat) (acc:List (Str×ah)),(∃c,acc.lookup x=aC c)->∃c,(cellsFrom a l acc).lookup x=aC c
 |[],_,_,h=>h
 |(n,k)::r,a,acc,h=>by
  unfold cellsFrom;split;refine DW r _ _ ?_;rw[gx];split;exact⟨_,rfl⟩;exact h;exact DW r _ _ h
theorem GS{x:Str}:∀(l:List (Str×NameKind)) (a:Nat) (acc:List (Str×ah)),(x,NameKind.cell)∈l->∃c,(cellsFrom a l acc).lookup x=aC c
 |[],_,_,h=>by cases h
 |(n,k)::r,a,acc,h=>by
  unfold cellsFrom;rcases gy.mp h with e|e
  cases e;rw[if_pos (by rfl)];exact DW r _ _ ⟨a,by simp[gx]⟩;split;exact GS r _ _ e;exact GS r _ _ e
theorem GU{acc:List (Str×ah)}:∀(l:List (Str×NameKind)) (a:Nat) (acc:List (Str×ah)),(∀x y c,acc.lookup x=aC c->acc.lookup y=aC c->x=y)->(∀x c,acc.lookup x=aC c->c<a)->
 ∀x y c,(cellsFrom a l acc).lookup x=aC c->(cellsFrom a l acc).lookup y=aC c->x=y
 |[],_,_,h,_=>h
 |(n,k)::r,a,acc,h,hl=>by
  unfold cellsFrom;split;refine GU (acc:=acc) r _ _ (λx y c e1 e2=>?_) λx c e=>?_;rw[gx]at e1 e2;cases b1:x==n<;>cases b2:y==n<;>simp only[b1,b2]at e1 e2;exact h x y c e1 e2;cases e2;exact absurd (hl x _ e1) (i8 _);cases e1;exact absurd (hl y _ e2) (i8 _);rw[beq_iff_eq.mp b1,beq_iff_eq.mp b2];rw[gx]at e;cases b1:x==n<;>simp only[b1]at e;exact qq (hl x c e);cases e;exact jA _;exact GU (acc:=acc) r _ _ h hl
theorem GV{x:Str}{c:ah}:∀(l:List (Str×NameKind)) (h:aA) (acc:List (Str×ah)),(cellsFrom h.objs.size l acc).lookup x=aC c->h.objs.size<=c->(∀y d,acc.lookup y=aC d->h.objs.size<=d->h.IsCell d aD)->(pushCells h l).IsCell c aD
 |[],h,acc,e,hc,ha=>ha x c e hc
 |(n,k)::r,h,acc,e,hc,ha=>by
  unfold cellsFrom at e;unfold pushCells;split at e;rename_i hk;rw[if_pos hk];by_cases z:h.objs.size+1<=c;refine GV r (h.push {cls:=.type "cell",data:=.cell aD}) ((n,h.objs.size)::acc) (by rw[jC];exact e) (by rw[jC];exact z) λy d e1 e2=>?_;rw[jC]at e2;rw[gx]at e1;cases b1:y==n<;>simp only[b1]at e1;exact(ha y d e1 (Dg e2)).keeps λb o q=>ck _ q;cases e1;exact absurd e2 (Nat.not_succ_le_self _);have hce:c=h.objs.size:=Nat.le_antisymm (Nat.le_of_lt_succ (Nat.lt_of_not_le z)) hc;have:(h.push {cls:=.type "cell",data:=.cell aD}).IsCell c aD:=⟨_,by rw[hce];exact iF _ rfl,rfl⟩
  exact this.keeps λb o q=>pushCells_keeps _ _ b o q;rename_i hk;rw[if_neg hk];exact GV r h acc e hc ha
theorem Ni{M:Model}{A:ao}{E:aa->af->Prop}{s:af}{scope:az}{globals:ah}{cl:List (Str×ah)}{qual:Str}{env:Env}{Q:Env->af->Prop}(hcl:∀x c,cl.lookup x=aC c->c<s.heap.objs.size)
 (hQ:∀h',h'.Ns s.heap.objs.size (λ_=>aD)->(∀b o,s.heap.get? b=aC o->h'.get? b=aC o)->(∀x c,(cellsFrom (s.heap.objs.size+1) scope.names cl).lookup x=aC c->s.heap.objs.size<c->h'.IsCell c aD)->
   Q (newEnv scope s.heap.objs.size globals (cellsFrom (s.heap.objs.size+1) scope.names cl) qual aD .none (aC env) builtinsNs) {s with heap:=h'}) :
 wpAny M A (newFunctionEnv scope globals cl [] qual aD .none (aC env)) Q E s:=by
 simp only[newFunctionEnv,Option.isSome_some,b9];refine aL (wpAny_alloc ?_);refine aL (wpAny_layCells _ (λname kind cells=>by cases hkc:kind==NameKind.cell<;>simp[hkc]) _ _ _ _ ?_);have hz:({s with heap:=s.heap.push {cls:=.type "dict",data:=.dict #[]}}:af).heap.objs.size=s.heap.objs.size+1:=jC ..;rw[hz];refine aL (bz (bz ?_));refine hQ (pushCells (s.heap.push {cls:=.type "dict",data:=.dict #[]}) scope.names) ((Heap.Ns.new s.heap (.type "dict")).keeps (pushCells_keeps _ _)) (λb o e=>pushCells_keeps _ _ b o (ck _ e)) λx c e hc=>?_;refine GV scope.names (s.heap.push {cls:=.type "dict",data:=.dict #[]}) cl (by rw[jC];exact e) (by rw[jC];exact hc) λy d e1 e2=>?_;rw[jC]at e2;exact absurd (hcl y d e1) (jB.mpr (Dg e2))
theorem Nj{cells:List (Str×ah)}{x:Str}:∀(l:List (Str×NameKind)) (cs:List (Str×ah)),(x,NameKind.free)∉l->cs.lookup x=aD->(je cells l cs).lookup x=aD
 |[],cs,_,h=>h
 |(n,k)::r,cs,hl,h=>by
  have hr:(x,NameKind.free)∉r:=λz=>hl (dU _ z);refine Nj r _ hr ?_;by_cases hk:(k==NameKind.free)=true;simp only[hk,b9];cases cells.lookup n with
  |none=>exact h
  |some d=>
   simp only[gx];have:(x==n)=false:=by rw[C6];rintro rfl;exact hl (by rw[show k=NameKind.free by simpa using hk];exact fM)
   simp only[this];exact h
  have hk':(k==NameKind.free)=false:=by simpa using hk
  simp only[hk',dS,dB];exact h
theorem Uo{cells:List (Str×ah)}{x:Str}{c:ah}{l:List (Str×NameKind)}(h:(x,NameKind.free)∉l):¬(je cells l []).lookup x=aC c:=λz=>by
 rw[Nj l [] h rfl]at z;cases z
noncomputable abbrev Cx.comp(X:Cx)(N:List Str)(scope:az)(C:ah)(s₀:af)(H₀:Hp)(ex:List ah):Cx:=
 {X with N:=N,s₀:=s₀,H₀:=H₀,env:=compEnvC scope (cellsFrom (C+1) scope.names (je X.env.cells scope.names [])) C X.env,outer:=X.stack,stack:=X.stack,ex:=ex,fn:=λx=>scope.names.lookup x==aC .cell,pn:=[],xe:=λ_ _=>False}
structure aW(X:Cx)(ow fr:List Str)(ix:List Nat)(scope:az):Prop where
 kind:scope.kind=.function
 Am:∀y∈scope.names,y.2=.cell->scope.names.lookup y.1=aC .cell
 names:∀y∈scope.names,y.2=.local->scope.names.lookup y.1=aC .local
 own:∀x∈ow,scope.names.lookup x=aC .local\/scope.names.lookup x=aC .cell
 An:∀y∈scope.names,y.2=.free->scope.names.lookup y.1=aC .free
 free:∀y∈scope.names,y.2=.free->X.env.kindOf y.1=aC .cell\/X.env.kindOf y.1=aC .free
 at_:∀(k:Nat)(x:Str),fr[k]?=aC x->∃j,ix[k]?=aC j/\X.N[j]?=aC x/\scope.names.lookup x=aC .free
 len:ix.length=fr.length
noncomputable def jf(ow fr:List Str)(ix:List Nat)(σ:St):St:=ow.map (λ_=>aD)++ix.map λj=>(σ[j]?).join
theorem Nk{x:Str}{k:NameKind}:∀{l:List (Str×NameKind)},l.lookup x=aC k->(x,k)∈l
 |[],h=>by cases h
 |(n,j)::r,h=>by
  simp only[gx]at h;by_cases hx:(x==n)=true;simp only[hx]at h;cases h;rw[show x=n by simpa using hx];exact fM;have hx':(x==n)=false:=by simpa using hx
  simp only[hx']at h;exact dU _ (Nk h)
theorem GW{env:Env}:∀{l:List (Str×NameKind)} {x:Str} {k:NameKind},
 (l.map λ(n,k)=>if(k==NameKind.free&&env.scope.kind == .function&&env.kindOf n==aC .cell)then(n,NameKind.cell)else(n,k)).lookup x=aC k->k=.cell\/k=.free->(x,NameKind.free)∈l\/(x,NameKind.cell)∈l
 |[],x,k,h,_=>by cases h
 |(n,j)::r,x,k,h,hh=>by
  have ih:=@GW env r x k;rw[gQ]at h;by_cases hc':(j==NameKind.free&&env.scope.kind == .function&&env.kindOf n==aC .cell)=true;simp only[hc',b9,gx]at h;have hj:j=.free:=by simp only[bG,beq_iff_eq]at hc';exact hc'.1.1
  by_cases hx:(x==n)=true;rw[show x=n by simpa using hx,hj];exact .inl fM;have hx':(x==n)=false:=by simpa using hx
  simp only[hx']at h;exact(ih h hh).imp (dU _) (dU _);have hcf:(j==NameKind.free&&env.scope.kind == .function&&env.kindOf n==aC .cell)=false:=by simpa using hc'
  simp only[hcf,dS,dB,gx]at h;by_cases hx:(x==n)=true;simp only[hx]at h;cases h;rcases hh with z|z
  rw[show x=n by simpa using hx,z];exact .inr fM;rw[show x=n by simpa using hx,z];exact .inl fM;have hx':(x==n)=false:=by simpa using hx
  simp only[hx']at h;exact(ih h hh).imp (dU _) (dU _)
theorem DX{env:Env}(hkf:env.scope.kind=.function):∀{l:List (Str×NameKind)} {x:Str},l.lookup x=aC .free->
 (l.map λ(n,k)=>if(k==NameKind.free&&env.scope.kind == .function&&env.kindOf n==aC .cell)then(n,NameKind.cell)else(n,k)).lookup x=aC (if env.kindOf x=aC .cell then .cell else .free)
 |[],x,h=>by cases h
 |(n,j)::r,x,h=>by
  have ih:=@DX env hkf r x;rw[gQ];simp only[gx]at h;by_cases hx:(x==n)=true;simp only[hx]at h;cases h;have e:x=n:=by simpa using hx
  subst e;by_cases hq:env.kindOf x=aC .cell;simp[hkf,hq,gx];simp[hq,gx];have hx':(x==n)=false:=by simpa using hx
  simp only[hx']at h;by_cases hc':(j==NameKind.free&&env.scope.kind == .function&&env.kindOf n==aC .cell)=true;simp only[hc',b9,gx,hx'];exact ih h;have hcf:(j==NameKind.free&&env.scope.kind == .function&&env.kindOf n==aC .cell)=false:=by simpa using hc'
  simp only[hcf,dS,dB,gx,hx'];exact ih h
section
variable{X:Cx}{pins:List (ah×Obj)}{σ:St}{H:Hp}{s:af}{ow fr:List Str}{ix:List Nat}{scope:az}{fp:List ah}
theorem Nl(S:aW X ow fr ix scope)(I:Inv X pins σ H s)(hfp:∀b∈fp,dO X pins H b)(hlt:∀b∈fp,b<s.heap.objs.size){h':aA}{tk:Nat}{m:Str->Option aa}(hn:h'.Ns s.heap.objs.size m)(hk:∀b o,s.heap.get? b=aC o->h'.get? b=aC o)(hnc:∀x c,(cellsFrom (s.heap.objs.size+1) scope.names (je X.env.cells scope.names [])).lookup x=aC c->s.heap.objs.size<c->h'.IsCell c aD) :
 Inv (X.comp (ow++fr) scope s.heap.objs.size s H fp) [] (jf ow fr ix σ) H {s with heap:=h',toks:=tk}:=by
 have sub:=DU (cells:=X.env.cells) scope.names [] (λx c e=>by cases e);have Up:∀x c,(je X.env.cells scope.names []).lookup x=aC c->c<s.heap.objs.size:=λx c e=>by
  obtain⟨v,q⟩:=I.cell x c (sub x c e);exact q.lt
 have two:∀x c,(cellsFrom (s.heap.objs.size+1) scope.names (je X.env.cells scope.names [])).lookup x=aC c->X.env.cells.lookup x=aC c\/s.heap.objs.size<c:=λx c e=>(DV _ _ _ e).imp (sub x c) λz=>z;have pass:∀x,(x,NameKind.free)∈scope.names->scope.names.lookup x=aC .free->(cellsFrom (s.heap.objs.size+1) scope.names (je X.env.cells scope.names [])).lookup x=(je X.env.cells scope.names []).lookup x:=λx hx hl=>GR _ _ _ λz=>by
  have:=S.Am _ z rfl;rw[hl]at this;cases this
 have kf:=I.ok.kind;have Nm:∀x c,X.env.cells.lookup x=aC c->c≠s.heap.objs.size:=λx c e z=>by
  obtain⟨v,q⟩:=I.cell x c e;exact absurd q.lt (by rw[z];exact i8 _)
 have GX:∀x,(x,NameKind.free)∈scope.names->∃c,(je X.env.cells scope.names []).lookup x=aC c/\X.env.cells.lookup x=aC c:=λx hx=>by
  obtain⟨c,hc⟩:=I.ok.has x (S.free _ hx rfl);exact⟨c,GQ hc _ _ hx,hc⟩
 refine⟨⟨I.ok.mod,?_,I.ok.glob,I.ok.blt,aQ _,GU (acc:=[]) _ _ _ (λx y c a b=>I.ok.inj x y c (sub x c a) (sub y c b)) (λx c e=>qq (Up x c e)),λx hx=>?_,λx c e1 e2=>?_,I.ok.hd,I.ok.frames,.inl rfl,λb hb=>?_,λb o e=>?_,?_,λb o e hb=>?_,λb hb hz=>?_,I.stack,λb hb=>I.k9 b hb⟩,
  rfl,I.bare,Un.kept hk,⟨m,hn,λi x v e1 e2 e3=>?_⟩,λx c e=>?_,I.hok.fresh (aQ _),λx c e=>(two x c e).elim (I.fj x c) (λz=>I.hok.fresh (tM z)),λp hp=>?_,I.hok.kept hk,?_⟩
 exact S.kind;have hx':(relabel scope X.env).names.lookup x=aC .cell\/(relabel scope X.env).names.lookup x=aC .free:=hx;have hm:(x,NameKind.free)∈scope.names\/(x,NameKind.cell)∈scope.names:=by rcases hx' with z|z;exact GW (env:=X.env) z (.inl rfl);exact GW (env:=X.env) z (.inr rfl)
 rcases hm with hm|hm;obtain⟨c,hc,_⟩:=GX x hm;exact DW _ _ _ ⟨c,hc⟩;exact GS _ _ _ hm;have e1:scope.names.lookup x=aC .cell:=by have e1:(scope.names.lookup x==aC NameKind.cell)=true:=e1;simpa using e1
 rcases DV _ _ _ e2 with z|z;exfalso;have hcl:∃y,X.env.cells.lookup x=aC c:=⟨c,sub x c z⟩
 exact absurd z (by
  intro z;exact Uo (λq=>by
   have:=S.An _ q rfl;rw[e1]at this;cases this) z)
 exact Dg z;obtain⟨f0,f1,f2,f3,f4,f5⟩:=hfp b hb;refine⟨λz=>?_,λx c e=>(two x c e).elim (f4 x c) λz q=>by
  have:=hlt b hb;rw[q]at z;exact Nat.lt_asymm this z⟩
 have q:=hlt b hb;rw[z]at q;exact absurd q (i8 _);exact⟨(I.bs b o e).1,(I.bs b o e).2⟩;exact gZ I.ok.vD I.sz;obtain⟨f0,f1,f2,f3,f4,f5⟩:=hfp b hb;rcases f3 with z|z
 exact I.ok.nP b o e z;exact absurd (dN (cD (I.ok.bs b o e).1) z) (i8 _);obtain⟨f0,f1,f2,f3,f4,f5⟩:=hfp b hb;rcases gy.mp (I.kK b hz)with z|z
 exact f1 z;exact f2 z;have hlen:ow.length<=i:=by
  by_cases hi:i<ow.length;unfold jf at e2;rw[tR (by simpa using hi),gp]at e2;cases q:ow[i]? with|none=>rw[q]at e2;cases e2|some y=>rw[q]at e2;cases e2
  lia
 have Uq:fr[i-ow.length]?=aC x:=by have e1:(ow++fr)[i]?=aC x:=e1;rw[qw hlen]at e1;exact e1
 have Nn:(ix.map λj=>(σ[j]?).join)[i-ow.length]?=aC (aC v):=by unfold jf at e2;rw[qw (by simpa using hlen)]at e2;simpa using e2
 obtain⟨j,hj,hN,hl⟩:=S.at_ _ _ Uq;rw[gp,hj]at Nn;have nW:(σ[j]?).join=aC v:=l8 Nn;have hσ:σ[j]?=aC (aC v):=by
  cases q:σ[j]? with
  |none=>rw[q]at nW;cases nW
  |some o=>rw[q]at nW;cases o with
   |none=>cases nW
   |some w=>cases nW;rfl
 obtain⟨m0,hm0,Ur⟩:=I.loc;have hmem:=Nk hl;have hkf:=S.free _ hmem rfl;have GY:yb X.env.scope x:=hkf.elim (λz=>.inr (.inl z)) λz=>.inr (.inr z);obtain⟨u,ru,lk⟩:=Ur j x v hN hσ GY;refine⟨u,ru,.inr ?_⟩;have hcell:∃c,X.env.cells.lookup x=aC c/\s.heap.IsCell c (aC u):=by rcases lk with⟨z,_⟩|⟨_,c,e,z⟩;rcases hkf with q|q;rw[show X.env.kindOf x=aC .local from z]at q;cases q;rw[show X.env.kindOf x=aC .local from z]at q;cases q;exact⟨c,e,z⟩
 obtain⟨c,hc,o,ho,hd⟩:=hcell;refine⟨?_,c,(pass x hmem hl).trans (GQ hc _ _ hmem),o,hk _ _ ho,hd⟩;show(relabel scope X.env).names.lookup x=aC .cell\/(relabel scope X.env).names.lookup x=aC .free;have q:=DX (env:=X.env) kf hl;by_cases z:X.env.kindOf x=aC .cell;rw[if_pos z]at q;exact .inl q;rw[if_neg z]at q;exact .inr q;rcases two x c e with z|z;obtain⟨v,q⟩:=I.cell x c z;obtain⟨o,ho,hd⟩:=q;exact⟨v,o,hk _ _ ho,hd⟩;exact⟨aD,hnc x c e z⟩;cases(show p∈([]:List (ah×Obj))from hp);show(jf ow fr ix σ).length=(ow++fr).length;unfold jf;rw[eZ,bA,bA,eZ,S.len]
end
theorem GZ{α:Type}{M:Model}{A:ao}{t:Sem α}{Q:α->af->Prop}{E:aa->af->Prop}{s:af}(h:wpAny M A t Q (λ_ _=>False) s):wpAny M A t Q E s:=gf h (λ_ _ q=>q) λ_ _ z=>z.elim
noncomputable abbrev gK:aa->af->Prop:=λ_ _=>False
noncomputable abbrev yh(ifs:List aq)(env:Env):Sem Bool:=forIn ifs true λc r=>if r=true then do let ok <-isTrue c env (eval c env);pure (ForInStep.yield ok)else pure (ForInStep.yield r)
theorem Us{prog:ai}{w:ak}{A:ao}{R:Result->af->Prop}{s:af}{elt target iter:aq}{ifs:List aq}{scope:az}{pos:Pos}{it acc:aa}{env:Env}(I:Nat->af->Prop)
 (turn:∀n s,I n s->wpAny (model prog w) A (pyNext it) (λr s₁=>match r with
   |none=>R (.ok .next) s₁
   |some v=>wpAny (model prog w) A (letOwnedTupleGo target it v) (λ_ s₀=>wpAny (model prog w) A (assign target env v) (λ_ s₂=>
    wpAny (model prog w) A (yh ifs env) (λok s₃=>
     if ok=true then wpAny (model prog w) A (eval elt env) (λx s₄=>
      wpAny (model prog w) A (call (.builtin "list.append") [acc,x]) (λ_ s₅=>∃m,m<n/\I m s₅) gK s₄) gK s₃
     else ∃m,m<n/\I m s₃) gK s₂) gK s₀) gK s₁) gK s)
 (n:Nat) (h:I n s) :
 codeAny (model prog w) A (.compLoop (.ListComp elt [⟨target,iter,ifs,0⟩] scope pos) 0 it acc env) R s:=by
 refine codeAny_loop rfl I (λn s hI=>?_) n h;show wpAny _ A ((compTurn (.ListComp elt [⟨target,iter,ifs,0⟩] scope pos) 0 it acc env).onRaise (λx=>do noteFrame x env;theTreesLotGoes x)) _ _ s;refine wpAny_noted (GZ ?_);rw[compTurn_list];refine aL (nq (aL (gf (turn n s hI) (λr s₁ h₁=>?_) λ_ _ h'=>h')));cases r with
 |none=>exact bz h₁
 |some v=>
  refine aL (gf h₁ (λ_ s₀ h₀=>?_) λ_ _ h'=>h');refine aL (gf h₀ (λ_ s₂ h₂=>aL (gf h₂ (λok s₃ h₃=>?_) λ_ _ h'=>h')) λ_ _ h'=>h');cases ok with
  |true=>
   simp only[b9]at h₃ ⊢;exact aL (aL (gf h₃ (λx s₄ h₄=>aL (gf h₄ (λ_ s₅ h₅=>bz (bz ⟨rfl,h₅⟩)) λ_ _ h'=>h')) λ_ _ h'=>h'))
  |false=>
   simp only[dS,dB]at h₃ ⊢;exact bz ⟨rfl,h₃⟩
noncomputable def iP(X:Cx)(ifs:List aq)(t:TT):Prop:=
 ∀(pins:List (ah×Obj))(s:af)(σ:St)(H:Hp)(Q:Bool->Hp->Prop),Inv X pins σ H s->t σ H Q->wpAny (model X.prog X.w) X.A (yh ifs X.env) (TP X pins σ Q) X.xe s
noncomputable def G0:TT:=λ_ H Q=>Q true H
theorem Ut{X:Cx}:iP X [] G0:=λpins s σ H Q I h=>wpAny_tests_nil ⟨H,I,h⟩
theorem Uu{X:Cx}{c:aq}{t:TT}(h:PT X c t):iP X [c] t:=λpins s σ H Q I q=>wpAny_tests_one (h pins s σ H Q I q)
noncomputable def G1(K:aI)(f:St->St)(wi:TI)(g:TG)(tc:TT)(te:TE):TE:=λσ H Q=>wi σ H λJ H1=>∀D,H1 D=aD->K.lookup D=aD->
 ∃W:Nat->Nat->St->Hp->List V->Prop,(∃m,W 0 m (f σ) (upd H1 D (.lst [])) [])/\∀i m σ' H' ys,W i m σ' H' ys->H' D=aC (.lst ys)/\
  ((J.stop i H'/\Q (.ref D) H')\/(J.go i H'/\∀x H2,J.vG i H' x H2->g x σ' H2 λσ2 H3=>tc σ2 H3 λb H4=>
    if b=true then te σ2 H4 λy H5=>H5 D=aC (.lst ys)/\ys.length<sizeLine/\∃m',m'<m/\W (i+1) m' σ2 (upd H5 D (.lst (ys++[y]))) (ys++[y])
    else ∃m',m'<m/\W (i+1) m' σ2 H4 ys))
section
variable{X:Cx}{ow fr:List Str}{ix:List Nat}{scope:az}{tg iter elt:aq}{ifs:List aq}{pos:Pos}{wi:TI}{g:TG}{tc:TT}{te:TE}
theorem Np{pins:List (ah×Obj)}{s:af}{σ:St}{Q:VK}{RR:aa->ah->Result->af->Prop}(S:aW X ow fr ix scope)(hc:X.calm=true)
 (hg:∀C s₀ H₀ ex,PG (X.comp (ow++fr) scope C s₀ H₀ ex) tg g) (ht:∀C s₀ H₀ ex,iP (X.comp (ow++fr) scope C s₀ H₀ ex) ifs tc) (he:∀C s₀ H₀ ex,PE (X.comp (ow++fr) scope C s₀ H₀ ex) elt te)
 {itv:aa} {E:aa->af->Prop}
 (h:DM X pins σ tg (λJ H1=>∀D,H1 D=aD->X.K.lookup D=aD->
   ∃W:Nat->Nat->St->Hp->List V->Prop,(∃m,W 0 m (jf ow fr ix σ) (upd H1 D (.lst [])) [])/\∀i m σ' H' ys,W i m σ' H' ys->H' D=aC (.lst ys)/\
    ((J.stop i H'/\Q (.ref D) H')\/(J.go i H'/\∀x H2,J.vG i H' x H2->g x σ' H2 λσ2 H3=>tc σ2 H3 λb H4=>
      if b=true then te σ2 H4 λy H5=>H5 D=aC (.lst ys)/\ys.length<sizeLine/\∃m',m'<m/\W (i+1) m' σ2 (upd H5 D (.lst (ys++[y]))) (ys++[y])
      else ∃m',m'<m/\W (i+1) m' σ2 H4 ys))) itv s)
 (fin:∀D C H' s' m,dO X pins H' C->s'.heap.Ns C m->(∀h'',Heap.SameBut C s'.heap h''->Inv X pins σ H' {s' with heap:=h''})->Q (.ref D) H'->RR (.ref D) C (.ok .next) s') :
 wpAny (model X.prog X.w) X.A (newList []) (λacc s₃=>wpAny (model X.prog X.w) X.A (newFunctionEnv scope X.env.globals (je X.env.cells scope.names []) [] X.env.qual aD .none (aC X.env)) (λcenv s₄=>
  codeAny (model X.prog X.w) X.A (.compStart (.ListComp elt [⟨tg,iter,ifs,0⟩] scope pos) 0 itv acc {cenv with scope:=relabel scope X.env}) (RR acc cenv.locals) s₄) E s₃) E s:=by
 obtain⟨it,fp,tn,J,H1,e,I1,T,st1,f1,hq⟩:=h;subst e;have hD:H1 s.heap.objs.size=aD:=I1.hok.fresh (aQ _);have G3:X.K.lookup s.heap.objs.size=aD:=by
  cases e:X.K.lookup s.heap.objs.size with|none=>rfl|some o=>exact absurd (cD (I1.iO _ _ e)) (i8 _)
 obtain⟨W,⟨m0,w0⟩,turn⟩:=hq _ hD G3;have I3:Inv X pins σ (upd H1 s.heap.objs.size (.lst [])) {s with heap:=s.heap.push {cls:=.type "list",dict:=aD,data:=.seq ([]:List aa).toArray}}:=
  I1.laid (t':=s.toks) (o:=.lst []) (λb u q=>ck _ q) (aQ _) ⟨gh _,[],0,.nil,iF _ rfl⟩
 have nX:∀b∈fp,b<s.heap.objs.size:=λb hb=>by
  obtain⟨o,ho,_⟩:=T.obj _ _ st1 b hb;exact cD ho
 have f3:∀b∈fp,dO X pins (upd H1 s.heap.objs.size (.lst [])) b:=λb hb=>⟨by rw[bU (fP (nX b hb))];exact(f1 b hb).1,(f1 b hb).2⟩
 refine tK (Ni (λx c e=>(I3.cell x c (DU (cells:=X.env.cells) scope.names [] (λx c e=>by cases e) x c e)).elim λv q=>q.lt) (λh₁ hns hk0 hnc=>?_));dsimp only at hns hk0 hnc ⊢;generalize Ao:({s with heap:=s.heap.push {cls:=.type "list",dict:=aD,data:=.seq ([]:List aa).toArray}}:af)=s3 at I3;have vR:s3.heap=s.heap.push {cls:=.type "list",dict:=aD,data:=.seq ([]:List aa).toArray}:=by rw[<-Ao]
 rw[<-vR]at hns hk0 hnc ⊢;have hk:∀b o,s3.heap.get? b=aC o->h₁.get? b=aC o:=hk0;have vS:∀b∈fp,b<s3.heap.objs.size:=λb hb=>by rw[vR,jC];exact qq (nX b hb)
 have J3:=Nl S I3 f3 vS (tk:=s.toks) hns hk hnc;have st3:tn 0 h₁:=T.keep _ _ _ st1 λb hb o e=>hk b o (by rw[vR];exact ck _ e);have vU:∀b∈fp,(X.comp (ow++fr) scope s3.heap.objs.size s3 (upd H1 s.heap.objs.size (.lst [])) fp).Ok->∀{H':Hp},H' b=aD->dO (X.comp (ow++fr) scope s3.heap.objs.size s3 (upd H1 s.heap.objs.size (.lst [])) fp) [] H' b:=λb hb ok H' hn=>
  ⟨hn,(ok.yc b hb).1,ok.mh b hb,.inl hb,(ok.yc b hb).2,λp hp=>by cases(show p∈([]:List (ah×Obj))from hp)⟩
 have back:∀{σ':St}{H':Hp}{s':af},Inv (X.comp (ow++fr) scope s3.heap.objs.size s3 (upd H1 s.heap.objs.size (.lst [])) fp) [] σ' H' s'->∀h'',Heap.SameBut s3.heap.objs.size s'.heap h''->Inv X pins σ H' {s' with heap:=h''}:=λ{σ' H' s'} I' h'' hs=>by
  have nA:∀b o,s3.heap.get? b=aC o->b≠s3.heap.objs.size:=λb o e=>fP (cD e);have un:Un (frs X.stack) fp (upd H1 s.heap.objs.size (.lst [])) H' s3.heap h'':=
   ⟨λb o e n hb hx=>(hs.2 b (nA b o e)).trans (I'.base.keep b o e n hb hx),λb o e n hb hx=>by
    obtain⟨sl,q⟩:=I'.base.slot b o e n hb hx;exact⟨sl,(hs.2 b (nA b o e)).trans q⟩,I'.base.free,λb o e hx=>by
    obtain⟨o',q⟩:=I'.base.there b o e hx;exact⟨o',(hs.2 b (nA b o e)).trans q⟩,I'.base.tups,I'.base.ig,I'.base.iH⟩
  have hok:ff X.prog X.w H' h'':=λb ob e=>by
   refine(I'.hok b ob e).stay (λc w' hcc q=>(hs.2 c ?_).trans q) (λ_ q=>q) λ_ _ q=>q;rintro rfl;have hfree:=I'.free;rcases hcc with rfl|hcc
   rw[show H' s3.heap.objs.size=aD from hfree]at e;cases e;rw[show H' s3.heap.objs.size=aD from hfree]at hcc;cases hcc
  have hos:s'.os=s3.os:=I'.os;exact I3.tW (s':={s' with heap:=h''}) (ch:=fp) hos un hok I'.bare λb hb=>by
   obtain⟨_,a1,a2,a3,a4,a5⟩:=f1 b hb;exact⟨a3,a1,a4,a5⟩
 have loop:∀s4:af,Inv (X.comp (ow++fr) scope s3.heap.objs.size s3 (upd H1 s.heap.objs.size (.lst [])) fp) [] (jf ow fr ix σ) (upd H1 s.heap.objs.size (.lst [])) s4->tn 0 s4.heap->
  codeAny (model X.prog X.w) X.A (.compLoop (.ListComp elt [⟨tg,iter,ifs,0⟩] scope pos) 0 (.ref it) (.ref s.heap.objs.size) (X.comp (ow++fr) scope s3.heap.objs.size s3 (upd H1 s.heap.objs.size (.lst [])) fp).env)
   (RR (.ref s.heap.objs.size) s3.heap.objs.size) s4:=by
  intro s4 I4 G7;refine Us (λn s'=>∃i σ' H' ys,Inv (X.comp (ow++fr) scope s3.heap.objs.size s3 (upd H1 s.heap.objs.size (.lst [])) fp) [] σ' H' s'/\tn i s'.heap/\(∀b∈fp,H' b=aD)/\W i n σ' H' ys) ?_ m0 ⟨0,_,_,[],I4,G7,λb hb=>(f3 b hb).1,w0⟩;rintro n s5 ⟨i,kj,H5,ys,I5,mq,qP,w5⟩;obtain⟨hDl,alt⟩:=turn i n kj H5 ys w5;rcases alt with⟨stop,q⟩|⟨go,step⟩
  .refine aU (T.done (X.comp (ow++fr) scope s3.heap.objs.size s3 (upd H1 s.heap.objs.size (.lst [])) fp) rfl rfl rfl hc i [] s5 kj H5 gK I5 (λb hb=>vU b hb I5.ok (qP b hb)) mq stop) λr s6 bV=>?_
   obtain⟨hr,I6⟩:=bV;subst hr;obtain⟨m6,DY,_⟩:=I6.loc;exact fin _ _ H5 s6 m6 (I3.kM (aQ _) I6.free) DY (back I6) q
  refine aU (T.item (X.comp (ow++fr) scope s3.heap.objs.size s3 (upd H1 s.heap.objs.size (.lst [])) fp) rfl rfl rfl hc i [] s5 kj H5 gK I5 (λb hb=>vU b hb I5.ok (qP b hb)) mq go) λr s6 bV=>?_;obtain⟨u,hr,h6⟩:=bV;subst hr;refine aU h6 λ_ s7 bV=>?_;obtain⟨x,H7,I7,r7,y7,vV,Hf⟩:=bV;have Hg:=I7.pinned (λb hb=>vU b hb I7.ok (Hf b hb)) (T.obj _ _ vV);have again:∀{jK:St}{H8:Hp}{s8:af}{zs:List V}{m':Nat},Inv (X.comp (ow++fr) scope s3.heap.objs.size s3 (upd H1 s.heap.objs.size (.lst [])) fp) ([]++vH fp s7.heap) jK H8 s8->m'<n->W (i+1) m' jK H8 zs->
   ∃m,m<n/\∃i σ' H' ys,Inv (X.comp (ow++fr) scope s3.heap.objs.size s3 (upd H1 s.heap.objs.size (.lst [])) fp) [] σ' H' s8/\tn i s8.heap/\(∀b∈fp,H' b=aD)/\W i m σ' H' ys:=λ{jK H8 s8 zs m'} I8 hm w8=>by
   refine⟨m',hm,i+1,jK,H8,zs,I8.cY,T.keep _ _ _ vV λb hb o e=>(I8.pin (b,o) (g6 _ (g6 _ (tY hb e)))).1,λb hb=>?_,w8⟩;obtain⟨o,e,d⟩:=T.obj _ _ vV b hb;exact(I8.pin (b,o) (g6 _ (g6 _ (tY hb e)))).2.1
  refine aU (hg _ _ _ _ _ s7 kj H7 x u _ Hg r7 (step x H7 y7)) λ_ s8 bV=>?_;obtain⟨jK,H8,I8,q8⟩:=bV;refine aU (ht _ _ _ _ _ s8 jK H8 _ I8 q8) λok s9 z9=>z9.el λH9 I9 q9=>?_;cases ok with
  |false=>
   simp only[dS,dB]at q9 ⊢;obtain⟨m',hm,w9⟩:=q9;exact again I9 hm w9
  |true=>
   simp only[b9]at q9 ⊢;refine aU (he _ _ _ _ _ s9 jK H9 _ I9 q9) λy Hh bV=>?_;obtain⟨vy,Hi,Hj,ry,Hl,hz,m',hm,Ho⟩:=bV;refine aU (GL _ Hh jK Hi (.ref s.heap.objs.size) [vy] (.ref s.heap.objs.size) [y] (λv H'=>H'=upd Hi s.heap.objs.size (.lst (ys++[vy]))) Hj rfl (.cons ry .nil) ⟨_,ys,vy,rfl,rfl,Hl,hz,rfl⟩) λ_ s11 bV=>?_;obtain⟨v11,H11,Uv,_,DZ⟩:=bV;subst DZ;exact again Uv hm Ho
 have D9:Inv (X.comp (ow++fr) scope s3.heap.objs.size s3 (upd H1 s.heap.objs.size (.lst [])) fp) [] (jf ow fr ix σ) (upd H1 s.heap.objs.size (.lst [])) {s with heap:=h₁,toks:=s.toks}:=by rw[<-Ao]at J3 ⊢;exact J3
 exact codeAny_compStart_list (loop _ D9 st3) (T.self _ 0 _ _ _ st3 (loop _ D9 st3))
theorem Aq(S:aW X ow fr ix scope)(hc:X.calm)(hi:PI X tg iter wi)
 (hg:∀C s₀ H₀ ex,PG (X.comp (ow++fr) scope C s₀ H₀ ex) tg g) (ht:∀C s₀ H₀ ex,iP (X.comp (ow++fr) scope C s₀ H₀ ex) ifs tc) (he:∀C s₀ H₀ ex,PE (X.comp (ow++fr) scope C s₀ H₀ ex) elt te)
 (hs:∀x,foldedSetIterable iter X.env x=pure x:=by intro _;rfl):PE X (.ListComp elt [⟨tg,iter,ifs,0⟩] scope pos) (G1 X.K (jf ow fr ix) wi g tc te):=by
 intro pins s σ H Q I h;rw[eval_ListComp];refine C8 (use:=aD) rfl hs (DT λy hy e=>I.ok.has _ (S.free y hy e)) S.kind S.names (aU (hi pins s σ H _ I h) λv s1 h1=>aU h1 λitv s2 h2=>?_);exact Np (RR:=λacc C=>compPost (model X.prog X.w) X.A X.xe aD (EP X pins σ Q) acc C) S hc hg ht he h2 λD C H' s' m _ hn hI q=>⟨m,hn,λh'' kO=>⟨.ref D,H',hI h'' kO,rfl,q⟩⟩
theorem Uw{i:Nat}{y:Str}{py spos:Pos}(hN:X.N.Nodup)(Hq:X.N[i]?=aC y)(hy:Loc X.env.scope y)(S:aW X ow fr ix scope)(hc:X.calm)(hi:PI X tg iter wi)
 (hg:∀C s₀ H₀ ex,PG (X.comp (ow++fr) scope C s₀ H₀ ex) tg g) (ht:∀C s₀ H₀ ex,iP (X.comp (ow++fr) scope C s₀ H₀ ex) ifs tc) (he:∀C s₀ H₀ ex,PE (X.comp (ow++fr) scope C s₀ H₀ ex) elt te)
 (hsw:autoParam (swapsWith (.ListComp elt [⟨tg,iter,ifs,0⟩] scope pos) (aC (.Name y py)) spos.line X.env=pure true) L2.aR1._auto_1)
 (hf:autoParam (X.fn y=true\/X.env.scope.names.lookup y=aC .local) L2.aF1._auto_1)
 (hs:∀x,foldedSetIterable iter X.env x=pure x:=by intro _;rfl):PS X (.Assign [.Name y py] (.ListComp elt [⟨tg,iter,ifs,0⟩] scope pos) spos) (qL (G1 X.K (jf ow fr ix) wi g tc te) (iu i)):=by
 intro pins s σ H D I h;rw[exec_Assign_Name_used _ _ _ _ hsw];refine aL (nq (aL ?_));show wpAny _ X.A (do let _ <-comprehension (.ListComp elt [⟨tg,iter,ifs,0⟩] scope pos) scope X.env _ (newList []) false (eval iter X.env) (aC (assign (.Name y py) X.env))) _ _ s;refine aL (gf (C8 (use:=aC (assign (.Name y py) X.env)) (Q:=λ_ s'=>SP X pins D .next s') rfl hs (DT λy hy e=>I.ok.has _ (S.free y hy e)) S.kind S.names
  (aU (hi pins s σ H _ I h) λv s1 h1=>aU h1 λitv s2 h2=>?_)) (λ_ s' hq=>bz (bz hq)) λ_ _ e=>e)
 refine Np (Q:=λx H1=>iu i x σ H1 D.nx) (RR:=λacc C=>compPost (model X.prog X.w) X.A X.xe (aC (assign (.Name y py) X.env)) (λ_ s'=>SP X pins D .next s') acc C) S hc hg ht he h2 λd C H' s' m hC hn hI q=>?_;show wpAny _ X.A (assign (.Name y py) X.env (.ref d)) _ _ _;have I':Inv X pins σ H' s':=by have z:=hI s'.heap (.refl ..);exact z
 refine wpAny_assign_Name (F8 I' hN Hq hy (v:=.ref d) rfl (λs'' Hr ⟨a,Hs,ha⟩=>?_) hf);obtain⟨c0,c1,c2,c3,c4,c5⟩:=hC;have Ht:C≠a:=by rcases ha with rfl|ha;exact c1;exact λz=>c4 _ _ ha z.symm
 refine⟨m,hn.sameBut Hs Ht,λh'' kO=>⟨_,H',Hr.turned (t':=s''.toks) (it:=C) (λb o hb e=>(kO.2 b hb).trans e) c0 c1 c3 c4 c5,q⟩⟩
end
end L2
set_option maxHeartbeats 4000000
namespace L2
open PySem PySem.Spec PyProof.Rows
mutual
inductive Rp(K:aI)(M:ah->Prop)(H:Hp):V->aB->Prop
 |aO:Rp K M H .aO .none
 |bl (b:Bool):Rp K M H (.bl b) (.bool b)
 |int (i:Int):Rp K M H (.int i) (.int i)
 |str (x:Str):Rp K M H (.str x) (.str x)
 |tup {a:ah} {xs:List V} {ds:List aB}:bW K H a xs->¬M a->mD K M H xs ds->Rp K M H (.ref a) (.tuple ds)
 |lst {a:ah} {xs:List V} {ds:List aB}:cz K H a xs->¬M a->mD K M H xs ds->Rp K M H (.ref a) (.list ds)
inductive mD(K:aI)(M:ah->Prop)(H:Hp):List V->List aB->Prop
 |nil:mD K M H [] []
 |cons {x:V} {d:aB} {xs:List V} {ds:List aB}:Rp K M H x d->mD K M H xs ds->mD K M H (x::xs) (d::ds)
end
section
variable{X:Cx}{pins:List (ah×Obj)}{σ:St}{H:Hp}{s:af}{M:ah->Prop}
mutual
theorem Rp.reads(I:Inv X pins σ H s):∀{x:V} {d:aB} {u:aa},Rp X.K M H x d->RelV x u->∃as,Reads s.heap u d as
 |_,_,_,.aO,r=>by cases r;exact⟨_,.none⟩
 |_,_,_,.bl b,r=>by cases r;exact⟨_,.bool b⟩
 |_,_,_,.int i,r=>by obtain⟨t,rfl⟩:=r;exact⟨_,.int i t⟩
 |_,_,_,.str x,r=>by obtain⟨t,rfl⟩:=r;exact⟨_,.str x t⟩
 |_,_,_,.tup h n rr,r=>by
  cases r;obtain⟨its,rv,p,_⟩:=I.tuple h;obtain⟨o,ho,hc,m,hd⟩:=p;obtain⟨as,ra⟩:=mD.reads I rr rv;exact⟨_,.tuple ho hc hd (by simpa using ra)⟩
 |_,_,_,.lst h n rr,r=>by
  cases r;obtain⟨its,rv,p,_⟩:=I.list h;obtain⟨o,m,ho,hc,_,hd⟩:=p;obtain⟨as,ra⟩:=mD.reads I rr rv;exact⟨_,.list ho hc hd (by simpa using ra)⟩
theorem mD.reads(I:Inv X pins σ H s):∀{xs:List V} {ds:List aB} {us:List aa},mD X.K M H xs ds->Vals xs us->∃as,ReadsAll s.heap us ds as
 |_,_,_,.nil,.nil=>⟨_,.nil⟩
 |_,_,_,.cons r t,.cons q v=>by
  obtain⟨as,h1⟩:=Rp.reads I r q;obtain⟨bs,h2⟩:=mD.reads I t v;exact⟨_,.cons h1 h2⟩
end
noncomputable def Ar(K:aI):R2:=λx y H Q=>∃d e,Rp K (λ_=>False) H x d/\Rp K (λ_=>False) H y e/\SeqAt.shaped d=true/\SeqAt.shaped e=true/\Q (.bl (PyData.eqv d e)) H
noncomputable def As(K:aI):R2:=λx y H Q=>∃d e,Rp K (λ_=>False) H x d/\Rp K (λ_=>False) H y e/\SeqAt.shaped d=true/\SeqAt.shaped e=true/\Q (.bl (!PyData.eqv d e)) H
theorem Ux(hu:X.A.units+64<cLine):cN X (compareOp .Eq) (Ar X.K):=by intro pins s σ H x y v u Q I rx ry h;obtain⟨d,e,r1,r2,s1,s2,q⟩:=h;obtain⟨as,ra⟩:=r1.reads I rx;obtain⟨bs,rb⟩:=r2.reads I ry;exact PyProof.Rows.eq_dataH ra rb s1 s2 hu ⟨.bl _,H,I,rfl,q⟩
theorem Uy(hu:X.A.units+64<cLine):cN X (compareOp .NotEq) (As X.K):=by intro pins s σ H x y v u Q I rx ry h;obtain⟨d,e,r1,r2,s1,s2,q⟩:=h;obtain⟨as,ra⟩:=r1.reads I rx;obtain⟨bs,rb⟩:=r2.reads I ry;exact PyProof.Rows.ne_dataH ra rb s1 s2 hu ⟨.bl _,H,I,rfl,q⟩
end
section
variable{prog:ai}{w:ak}{A:ao}{E:aa->af->Prop}{s:af}
theorem Nq{I t:ah}{k:Nat}{its:Array aa}{y:aa}{Q:aa->af->Prop}(hi:s.heap.IsTupleIter I t k)(ht:s.heap.IsTuple t its)(hy:its[k]?=aC y)
 (q:∀g,g.IsTupleIter I t (k+1)->Heap.SameBut I s.heap g->Q y {s with heap:=g}):wpAny (model prog w) A (Builtin.SmallTypes.nextOf (.ref I)) Q E s:=by
 obtain⟨oi,e1,e2,e3⟩:=id hi;obtain⟨ot,e4,_,kt,e5⟩:=ht;unfold Builtin.SmallTypes.nextOf;refine aL (xH (name:=Str.ofString "__next__") hi.typeIs DE (u7 DE hi.typeIs F.entry_tuple_iterator_next ?_ (F.args_tuple_iterator_next_1 _)));show wpAny _ _ (field (.ref I) 0 >>= _) _ _ s;refine aL (kG e1 e3 (x:=.ref t) rfl ?_);show wpAny _ _ (if(Value.ref t==Value.none)=true then _ else _) _ _ s;rw[if_neg (show ¬((Value.ref t==Value.none)=true)from λz=>nomatch z)];show wpAny _ _ (field (.ref I) 1 >>= _) _ _ s;refine aL (kG e1 e3 (x:=.int k 0) rfl ?_);show wpAny _ _ (seqItems? (.ref t) >>= _) _ _ s;refine aL (tL e4 e5 ?_);simp only[xU,hy];refine aL (wpAny_setField e1 e3 (by simp) (bz ⟨y,rfl,bz (q _ ?_ (Heap.SameBut.update ..))⟩));refine⟨_,Heap.get?_update_self _ e1 (Obj.isFreed_of_fields (Obj.data_mapFields e3 _)),(Obj.cls_mapFields ..).trans e2,?_⟩;rw[Obj.data_mapFields e3];simp[rawInt]
theorem Hu{I t:ah}{k:Nat}{its:Array aa}{Q:aa->af->Prop}(hA:A.handled=aD)(hi:s.heap.IsTupleIter I t k)(ht:s.heap.IsTuple t its)(hy:its[k]?=aD)
 (q:∀g e,Heap.ExtBut I s.heap g->(∃o,g.get? e=aC o/\o.cls=.type "StopIteration")->E (.ref e) {s with heap:=g}):wpAny (model prog w) A (Builtin.SmallTypes.nextOf (.ref I)) Q E s:=by
 obtain⟨oi,e1,e2,e3⟩:=id hi;obtain⟨ot,e4,_,kt,e5⟩:=ht;unfold Builtin.SmallTypes.nextOf;refine aL (xH (name:=Str.ofString "__next__") hi.typeIs DE (u7 DE hi.typeIs F.entry_tuple_iterator_next ?_ (F.args_tuple_iterator_next_1 _)));show wpAny _ _ (field (.ref I) 0 >>= _) _ _ s;refine aL (kG e1 e3 (x:=.ref t) rfl ?_);show wpAny _ _ (if(Value.ref t==Value.none)=true then _ else _) _ _ s;rw[if_neg (show ¬((Value.ref t==Value.none)=true)from λz=>nomatch z)];show wpAny _ _ (field (.ref I) 1 >>= _) _ _ s;refine aL (kG e1 e3 (x:=.int k 0) rfl ?_);show wpAny _ _ (seqItems? (.ref t) >>= _) _ _ s;refine aL (tL e4 e5 ?_);simp only[xU,hy];refine aL (kH (aL (wpAny_setField e1 e3 (by simp) ?_)));show wpAny _ _ (newExc (.type "StopIteration") [] >>= _) _ _ _;refine aL ?_;simp only[newExc,newTuple];refine aL (tK ?_ (by size_fits));refine aL (m:=firstArgMember _ _) (wpAny_of_eq (a:=Value.none) (by first|rfl|(simp only[firstArgMember];rfl)) ?_);refine tK ?_ (by size_fits);simp only[raiseNew];refine aL (wpAny_handled ?_);first|rw[show A.in1.handled=aD from hA]|rw[hA]
 refine aL (bz (wpAny_throw ?_));exact q _ _ (((Heap.SameBut.update ..).extBut.push _).push _) ⟨_,iF _ rfl,rfl⟩
end
theorem Nr{h h':aA}{a:ah}{its:Array aa}(x:h.IsTuple a its)(e:∀o,h.get? a=aC o->h'.get? a=aC o):h'.IsTuple a its:=let⟨o,ho,r⟩:=x;⟨o,e _ ho,r⟩
theorem Uz{prog:ai}{w:ak}{A:ao}(hA:A.handled=aD)(I t:ah)(hne:t≠I)(its:Array aa) :
 Draws prog w A I [I,t] its.size (λi v=>its[i]?=aC v) (λi h=>h.IsTupleIter I t i/\h.IsTuple t its)where
 live:=λ_ _ st=>let⟨o,ho,_⟩:=st.1;⟨o,ho⟩
 frame:=λ_ _ _ st hk=>⟨st.1.at λo e=>hk I (by simp) o e,Nr st.2 λo e=>hk t (by simp) o e⟩
 item:=λi s Q E hi st q=>Nq st.1 st.2 (y:=its[i]) (by simp[hi]) λg a b=>q _ g s.toks (by simp[hi]) ⟨a,st.2.extBut b.extBut hne⟩ b
 done:=λs Q E st q=>Hu hA st.1 st.2 (by simp) q
theorem UA(l:ah)(its:Array aa)(n:Nat)(dc:Option ah)(sl:Array (Option aa)) :
 Meets (Builtin.«enumerate.__new__» ⟨[.type "enumerate",.ref l],[]⟩) (λ_ R s=>s.heap.get? l=aC {cls:=.type "tuple",dict:=dc,data:=.seq its n,slots:=sl}/\
  R (.ok (.ret (.ref (s.heap.push {cls:=.type "tuple_iterator",data:=.fields #[.ref l,.int 0 0]}).objs.size)))
   {s with heap:=(s.heap.push {cls:=.type "tuple_iterator",data:=.fields #[.ref l,.int 0 0]}).push {cls:=.type "enumerate",data:=.fields #[.none,.bool false,.ref s.heap.objs.size,rawInt 0,.none,.none]}}):=
 .of_wp λprog w A R s h=>by
  obtain⟨hp,g,d,tk,os⟩:=s;obtain⟨e,h⟩:=h;have hsub:=sub_enumerate;have hT:Heap.IsTuple (Shared.heap ⟨hp,g,d,tk,os⟩) l its:=⟨_,e,rfl,n,rfl⟩
  wp_walk using nO e;refine wpAny_stack_any λst=>bz ?_;split;rename_i c _ _ _ _ _;cases(c==Value.type "enumerate")<;> (wp_walk using nO e,u6 hT;exact⟨_,rfl,h⟩)
  .wp_walk using nO e,u6 hT
   exact⟨_,rfl,h⟩
theorem UB{prog:ai}{w:ak}{A:ao}{E:aa->af->Prop}{s:af}{l:ah}{its:Array aa}{Q:aa->af->Prop}(hL:s.heap.IsTuple l its)
 (h:∀g,IsEnum g (s.heap.objs.size+1) s.heap.objs.size 0 .none->g.IsTupleIter s.heap.objs.size l 0->g.objs.size=s.heap.objs.size+2->(∀b o,s.heap.get? b=aC o->g.get? b=aC o)->Q (.ref (s.heap.objs.size+1)) {s with heap:=g}) :
 wpAny (model prog w) A (call (.type "enumerate") [.ref l]) Q E s:=by
 obtain⟨⟨c,dc,dt,sl⟩,e1,e2,n,e3⟩:=hL
 replace e2:c=.type "tuple":=e2
 replace e3:dt=.seq its n:=e3;subst e2 e3;refine callType_new F.called_enumerate (by decide) (F.typeCall_enumerate_1 _) (F.newCall_enumerate_1 _) (λobj=>F.args_object_init_2 obj _) F.entry_enumerate_new (UA l its n dc sl) ⟨e1,?_⟩;have hz:(s.heap.push {cls:=.type "tuple_iterator",data:=.fields #[.ref l,.int 0 0]}).objs.size=s.heap.objs.size+1:=jC ..;show _/\_;rw[hz];have he:IsEnum ((s.heap.push {cls:=.type "tuple_iterator",data:=.fields #[.ref l,.int 0 0]}).push {cls:=.type "enumerate",data:=.fields #[.none,.bool false,.ref s.heap.objs.size,rawInt 0,.none,.none]}) (s.heap.objs.size+1) s.heap.objs.size 0 .none:=by rw[<-hz];exact iF _ rfl
 exact⟨⟨_,he,rfl⟩,h _ he ⟨_,ck _ (iF _ rfl),rfl,rfl⟩ (by rw[jC,hz]) λb o x=>ck _ (ck _ x)⟩
noncomputable def vW(K:aI)(a:ah):It:=
 ⟨λi H=>∃xs x,bW K H a xs/\xs[i]?=aC x,λi H x H'=>∃T v,x=.ref T/\H T=aD/\H'=upd H T (.tup [.int i,v])/\∀xs,bW K H a xs->xs[i]?=aC v,λi H=>∃xs,bW K H a xs/\xs.length<=i⟩
theorem UC{P:ai}{w:ak}{K:aI}{elts:List aq}{kx:Nat}{tp:Pos}(a e it:ah)(hei:e≠it)(UD:a≠e)(hai:a≠it) :
 Turn P w K (.Tuple elts kx tp) (vW K a) [e,it] e (λi h=>(∃old,IsEnum h e it i old)/\h.IsTupleIter it a i)where
 mem:=by simp
 obj:=λi h st b hb=>by
  obtain⟨⟨old,he⟩,o,ho,hc,hd⟩:=st;rcases gy.mp hb with rfl|hb;exact⟨_,he,λv z=>by
   have z':Data.fields _=Data.cell v:=z;cases z'⟩
  have e':b=it:=by simpa using hb
  subst e';exact⟨o,ho,λv z=>by rw[hd]at z;cases z⟩
 keep:=λi h h' st k=>by
  obtain⟨⟨old,he⟩,st⟩:=st;exact⟨⟨old,k e (by simp) _ he⟩,st.at λo q=>k it (by simp) o q⟩
 item:=by
  intro X hP hw hK hc i pins s σ H E I hf st hg;subst hP hw hK;obtain⟨xs,x,hq,hx⟩:=hg;obtain⟨⟨old,he⟩,st⟩:=st;obtain⟨its,rv,p,hz⟩:=I.tuple hq;obtain⟨u,hu,ru⟩:=rv.get hx;have hd:X.A.in1.handled=aD:=I.ok.hd hc;have p:s.heap.IsTuple a its.toArray:=p;refine wpAny_pyNext_enum_itemD (Uz hd it a hai its.toArray) he ⟨st,p⟩ (by
   have:i<its.length:=by rw[<-rv.length];exact(jD.mp hx).1
   simpa using this) hei (by simp[hei,eT UD]) λx' h1 tk hx' ho hit hT hsz hk=>?_
  obtain rfl:u=x':=by
   have:its[i]?=aC x':=by simpa using hx'
   rw[hu]at this;cases this;rfl
  refine⟨_,rfl,wpAny_letOwnedTupleGo_enum ho λh2 UE hs2=>?_⟩;have lB:H s.heap.objs.size=aD:=I.hok.fresh (aQ _);have Nt:s.heap.objs.size≠e:=nt (cD he);have UG:s.heap.objs.size≠it:=by obtain⟨o,q,_⟩:=st;exact nt (cD q)
  have hs2:Heap.SameBut e h1 h2:=hs2;have kk:∀b o,b≠e->b≠it->s.heap.get? b=aC o->h2.get? b=aC o:=λb o h1 h2 q=>(hs2.2 b h1).trans (hk b o h1 h2 q);have f0:=λb hb=>(hf b hb).1;have nE:∀b o,H b=aC o->b≠e/\b≠it:=λb o q=>⟨λz=>(by rw[z,f0 e (by simp)]at q;cases q),λz=>(by rw[z,f0 it (by simp)]at q;cases q)⟩
  have hT2:h2.get? s.heap.objs.size=aC {cls:=.type "tuple",data:=.seq #[.int i tk,u]}:=(hs2.2 _ Nt).trans hT;have I2:Inv X pins σ (upd H s.heap.objs.size (.tup [.int i,x])) {s with heap:=h2,gens:=s.gens,drawn:=s.drawn,toks:=tk+1}:=by
   refine I.step (ch:=[e,it]) (λb hb=>?_) (λb o _ _ hc e1 _=>kk b o (λz=>hc (by simp[z])) (λz=>hc (by simp[z])) e1) (λb o _ _ hc e1 _=>⟨o.slots,kk b o (λz=>hc (by simp[z])) (λz=>hc (by simp[z])) e1⟩)
    (λb o hc e1 n=>by rw[bU (fP (cD e1))];exact n) (λb o hc e1=>⟨o,kk b o (λz=>hc (by simp[z])) (λz=>hc (by simp[z])) e1⟩)
    (λb ys q=>by rw[bU (gV q lB)];exact q) (λb o u q=>by rw[bU (gV q lB)];exact q) (λb ps q=>⟨#[],by rw[bU (gV q lB),q];simp⟩) (λm hm=>?_) (λb ob q=>?_) I.bare
   obtain⟨_,a1,a2,a3,a4,a5⟩:=hf b hb;exact⟨a3,a1,a4,a5⟩;obtain⟨o,es,ep,ho',r⟩:=hm;exact⟨o,es,ep,kk _ o (eT (hf e (by simp)).2.1) (eT (hf it (by simp)).2.1) ho',r⟩;by_cases hb:b=s.heap.objs.size;subst hb;rw[ie]at q;cases q;exact⟨by show 2<=sizeLine;decide,[.int i tk,u],.cons ⟨_,rfl⟩ (.cons ru .nil),⟨_,hT2,rfl,⟨_,rfl⟩,rfl⟩⟩;rw[bU hb]at q;refine(I.hok b ob q).stay (λc v hc z=>kk c v ?_ ?_ z) (λc z=>by rw[bU (gV z lB)];exact z) λc ys z=>by rw[bU (gV z lB)];exact z
   rcases hc with rfl|hc;exact(nE c ob q).1;exact(nE c _ hc).1;rcases hc with rfl|hc;exact(nE c ob q).2;exact(nE c _ hc).2
  refine⟨.ref s.heap.objs.size,_,I2,rfl,⟨_,x,rfl,lB,rfl,λys hy=>by rw[I.gz hy hq];exact hx⟩,⟨⟨u,by simpa using UE⟩,hit.1.at λo q=>(hs2.2 it (eT hei)).trans q⟩,λb hb=>?_⟩;rw[bU ?_];exact f0 b hb;rcases gy.mp hb with rfl|hb
  exact eT Nt;have e':b=it:=by simpa using hb
  subst e';exact eT UG
 done:=by
  intro X hP hw hK hc i pins s σ H E I hf st hg;subst hP hw hK;obtain⟨xs,hq,hx⟩:=hg;obtain⟨⟨old,he⟩,st⟩:=st;obtain⟨its,rv,p,hz⟩:=I.tuple hq;obtain⟨f0,f1,f2,f3,f4,f5⟩:=hf it (by simp);have hl:=rv.length;have hd:X.A.in1.handled=aD:=I.ok.hd hc;have p:s.heap.IsTuple a its.toArray:=p;refine PySem.wpAny_pyNext_enum_endD (n:=0) (P:=λ_ _=>True) (St:=λ_ h=>h.IsTupleIter it a i/\h.IsTuple a its.toArray) (fp:=[it,a]) ⟨?_,?_,?_,?_⟩ he ⟨st,p⟩ λh' eb=>⟨rfl,I.turned (t':=s.toks) (λb o hb q=>eb b o hb q) f0 f1 f3 f4 f5⟩
  exact λ_ _ st=>let⟨o,ho,_⟩:=st.1;⟨o,ho⟩;exact λ_ _ _ st hk=>⟨st.1.at λo e=>hk it (by simp) o e,Nr st.2 λo e=>hk a (by simp) o e⟩
  exact λj s' Q' E' hj=>absurd hj (Nat.not_lt_zero _);exact λs' Q' E' st' q'=>Hu hd st'.1 st'.2 (by simp;lia) q'
 self:=λ_ _ _ _ _ st h=>by
  obtain⟨⟨old,he⟩,_⟩:=st;exact wpAny_pyIter_enum he h
section
variable{κ:Type}[DecidableEq κ]
noncomputable def gS(kvs:List (κ×V))(k:κ):Option V:=(kvs.find? λkv=>decide (kv.1=k)).map (·.2)
noncomputable def putK(kvs:List (κ×V))(k:κ)(v:V):List (κ×V):=
 if(kvs.any λkv=>decide (kv.1=k))=true then kvs.map (λkv=>if kv.1=k then(kv.1,v)else kv)else kvs++[(k,v)]
theorem Ea{p:κ×V}{r:List (κ×V)}{k:κ}(e:p.1=k):gS (p::r) k=aC p.2:=by simp[gS,qx,e]
theorem Au{p:κ×V}{r:List (κ×V)}{k:κ}(e:¬p.1=k):gS (p::r) k=gS r k:=by simp[gS,qx,e]
theorem Nu(k:κ):∀kvs:List (κ×V),(kvs.any λkv=>decide (kv.1=k))=(gS kvs k).isSome
 |[]=>rfl
 |p::r=>by
  rw[zd];by_cases e:p.1=k;simp only[Ea e,kE e,Bool.true_or,Option.isSome_some];rw[Au e,iE e,Bool.false_or];exact Nu k r
theorem Hv(kvs:List (κ×V))(k:κ)(v:V):(putK kvs k v).length<=kvs.length+1:=by unfold putK;split;rw[bA];lia;rw[eZ,fB,Dv];lia
theorem ic.mE{o:Option V}{u:Option aa}(r:ic o u):o.isSome=u.isSome:=by
 cases o with
 |none=>cases u with
  |none=>rfl
  |some _=>exact(show False from r).elim
 |some _=>cases u with
  |none=>exact(show False from r).elim
  |some _=>rfl
theorem KV.val{kvs:List (κ×V)}{vs:List (κ×aa)}(r:KV kvs vs)(k:κ):ic (gS kvs k) (valueAt vs k):=by
 unfold KV at r;induction r with
 |nil=>exact True.intro
 | @cons p q ps qs h t ih=>
  obtain⟨h1,h2⟩:=h;by_cases e:p.1=k;have e':q.1=k:=h1.symm.trans e;have b:valueAt (q::qs) k=aC q.2:=by simp[valueAt,qx,e']
  rw[Ea e,b];exact h2;have e':¬q.1=k:=λz=>e (h1.trans z);have b:valueAt (q::qs) k=valueAt qs k:=by simp[valueAt,qx,e']
  rw[Au e,b];exact ih
theorem KV.any{kvs:List (κ×V)}{vs:List (κ×aa)}(r:KV kvs vs)(k:κ):(kvs.any λkv=>decide (kv.1=k))=vs.any λkv=>decide (kv.1=k):=by
 unfold KV at r;induction r with|nil=>rfl|cons h t ih=>rw[zd,zd,ih,h.1]
theorem KV.repl{kvs:List (κ×V)}{vs:List (κ×aa)}(r:KV kvs vs)(k:κ){y:V}{u:aa}(ry:RelV y u) :
 KV (kvs.map λkv=>if kv.1=k then(kv.1,y)else kv) (vs.map λkv=>if kv.1=k then(kv.1,u)else kv):=by
 unfold KV at r ⊢;induction r with
 |nil=>exact .nil
 | @cons p q ps qs h t ih=>
  rw[gQ,gQ];refine .cons ?_ ih;obtain⟨h1,h2⟩:=h;by_cases e:p.1=k;rw[if_pos e,if_pos (h1.symm.trans e)];exact⟨h1,ry⟩;rw[if_neg e,if_neg (λz=>e (h1.trans z))];exact⟨h1,h2⟩
theorem KV.put{kvs:List (κ×V)}{vs:List (κ×aa)}(r:KV kvs vs)(k:κ){y:V}{u:aa}(ry:RelV y u):KV (putK kvs k y) (stored vs k u):=by unfold putK stored;rw[r.any k];by_cases e:(vs.any λkv=>decide (kv.1=k))=true;rw[if_pos e,if_pos e];exact r.repl k ry;rw[if_neg e,if_neg e];exact Paired.snoc r ⟨rfl,ry⟩
theorem KV.length{kvs:List (κ×V)}{vs:List (κ×aa)}(r:KV kvs vs):kvs.length=vs.length:=DH r
end
theorem lC{P:ai}{w:ak}{k:Key}{u:aa}(r:RelV (kV k) u):(kg P w).is k u=true:=by
 cases k with|inl i=>obtain⟨t,e⟩:=(show ∃t,u=Value.int i t from r);subst e;exact RA P w i t|inr x=>obtain⟨t,e⟩:=(show ∃t,u=Value.str x t from r);subst e;exact RB P w x t
theorem Nv{P:ai}{w:ak}:∀{ks:List Key} {us:List aa},Vals (ks.map kV) us->ItemsAre (kg P w) ks us
 |[],_,r=>by rw[xQ]at r;cases r;exact .nil
 |k::ks,_,r=>by
  rw[gQ]at r;cases r with|cons h t=>exact .cons (lC h) (Nv t)
noncomputable abbrev KT(H:Hp):List (List Key×V)->List (List Key×ah×aa)->Prop:=Paired λp q=>p.1=q.1/\H q.2.1=aC (.tup (p.1.map kV))/\RelV p.2 q.2.2
theorem KT.val{H:Hp}{kvs:List (List Key×V)}{xs:List (List Key×ah×aa)}(r:KT H kvs xs)(k:List Key):ic (gS kvs k) ((atKey xs k).map (·.2)):=by
 induction r with
 |nil=>exact True.intro
 | @cons p q ps qs h t ih=>
  obtain⟨h1,_,h2⟩:=h;by_cases e:p.1=k;have e':q.1=k:=h1.symm.trans e;have b:atKey (q::qs) k=aC q.2:=by simp[atKey,qx,e']
  rw[Ea e,b];exact h2;have e':¬q.1=k:=λz=>e (h1.trans z);have b:atKey (q::qs) k=atKey qs k:=by simp[atKey,qx,e']
  rw[Au e,b];exact ih
theorem KT.repl{H:Hp}{kvs:List (List Key×V)}{xs:List (List Key×ah×aa)}(r:KT H kvs xs)(k:List Key){y:V}{u:aa}(ry:RelV y u) :
 KT H (kvs.map λkv=>if kv.1=k then(kv.1,y)else kv) (xs.map (putAt k u)):=by
 induction r with
 |nil=>exact .nil
 | @cons p q ps qs h t ih=>
  rw[gQ,gQ];refine .cons ?_ ih;obtain⟨h1,h2,h3⟩:=h;unfold putAt;by_cases e:p.1=k;rw[if_pos e,if_pos (h1.symm.trans e)];exact⟨h1,h2,ry⟩;rw[if_neg e,if_neg (λz=>e (h1.trans z))];exact⟨h1,h2,h3⟩
theorem KT.put{H:Hp}{kvs:List (List Key×V)}{xs:List (List Key×ah×aa)}(r:KT H kvs xs)(k:List Key){b:ah}{y:V}{u:aa}(hb:H b=aC (.tup (k.map kV)))(ry:RelV y u) :
 KT H (putK kvs k y) (storedH xs k b u):=by
 have e:(kvs.any λkv=>decide (kv.1=k))=(atKey xs k).isSome:=by rw[Nu,(r.val k).mE,Option.isSome_map]
 unfold putK storedH;rw[e];by_cases q:(atKey xs k).isSome=true;rw[if_pos q,if_pos q];exact r.repl k ry;rw[if_neg q,if_neg q];exact Paired.snoc r ⟨rfl,hb,ry⟩
theorem KT.keeps{H H':Hp}{kvs:List (List Key×V)}{xs:List (List Key×ah×aa)}(r:KT H kvs xs)(ht:∀b ys,H b=aC (.tup ys)->H' b=aC (.tup ys)):KT H' kvs xs:=
 Paired.vB r λ_ _ z=>⟨z.1,ht _ _ z.2.1,z.2.2⟩
section
variable{P:ai}{w:ak}{H:Hp}{h:aA}{a:ah}
theorem t7{u:HO}(ok:ff P w H h)(e:Rd H a u):aY P w H h a u:=e.ok ok
theorem lD{kvs:List (Key×V)}(ok:ff P w H h)(e:Rd H a (.dK kvs)):kvs.length<=sizeLine/\(a==sysModules)=false/\∃vs,KV kvs vs/\h.DictOf (kg P w) a vs:=
 show aY P w H h a (.dK kvs)from t7 ok e
theorem t8{kvs:List (Key×V)}(ok:ff P w H h)(e:H a=aC (.dK kvs)):kvs.length<=sizeLine/\(a==sysModules)=false/\∃vs,KV kvs vs/\h.DictOf (kg P w) a vs:=lD ok (.inl e)
theorem Hw{ks:List Key}(ok:ff P w H h)(e:H a=aC (.tup (ks.map kV))):(tupleKind (kg P w)).is h ks a:=by
 obtain⟨_,its,r,o,h1,h2,⟨n,h3⟩,_⟩:=(show aY P w H h a (.tup (ks.map kV))from ok a _ e)
 exact⟨o,its.toArray,n,h1,h2,h3,by simpa using Nv r⟩
theorem nY{kvs:List (List Key×V)}(ok:ff P w H h)(e:Rd H a (.dT kvs)):kvs.length<=sizeLine/\(a==sysModules)=false/\
 ∃xs,KT H kvs xs/\h.DictOfH (tupleKind (kg P w)) a xs:=by
 obtain⟨z,y,xs,r,o,es,ep,h1,h2,h3,h4,h5⟩:=(show aY P w H h a (.dT kvs)from t7 ok e)
 refine⟨z,y,xs,r,o,es,ep,h1,h2,h3,h4,λx hx=>?_,h5⟩;have all:∀{l:List (List Key×V)}{m:List (List Key×ah×aa)},KT H l m->∀x∈m,(tupleKind (kg P w)).is h x.1 x.2.1:=by
  intro l m q;induction q with
  |nil=>intro x hx;exact nomatch hx
  | @cons p q ps qs hq t ih=>
   intro x hx;rcases gy.mp hx with e|hx
   subst e;exact Hw ok (by rw[<-hq.1];exact hq.2.1);exact ih x hx
 exact all r x hx
theorem Av{kvs:List (List Key×V)}(ok:ff P w H h)(e:H a=aC (.dT kvs)):kvs.length<=sizeLine/\(a==sysModules)=false/\
 ∃xs,KT H kvs xs/\h.DictOfH (tupleKind (kg P w)) a xs:=nY ok (.inl e)
end
noncomputable def qZ(H:Hp)(a:ah)(y:V)(r:Option V):Prop:=
 (∃kvs k,Rd H a (.dK kvs)/\y=kV k/\r=gS kvs k)\/∃kvs k b,Rd H a (.dT kvs)/\y=.ref b/\H b=aC (.tup (k.map kV))/\r=gS kvs k
noncomputable def rq(H:Hp)(a:ah)(y v:V)(H':Hp):Prop:=
 (∃kvs k,H a=aC (.dK kvs)/\y=kV k/\kvs.length<sizeLine/\H'=upd H a (.dK (putK kvs k v)))\/
 ∃kvs k b,H a=aC (.dT kvs)/\y=.ref b/\H b=aC (.tup (k.map kV))/\kvs.length<sizeLine/\H'=upd H a (.dT (putK kvs k v))
theorem rq.k{H:Hp}{a:ah}{kvs:List (Key×V)}{k:Key}{v:V}(e:H a=aC (.dK kvs))(hl:kvs.length<sizeLine):rq H a (kV k) v (upd H a (.dK (putK kvs k v))):=.inl ⟨kvs,k,e,rfl,hl,rfl⟩
section
variable{X:Cx}{pins:List (ah×Obj)}{σ:St}{H:Hp}{s:af}{a:ah}{y v:V}{u r:aa}{o:Option V}{A:ao}{E:aa->af->Prop}
theorem Inv.big(I:Inv X pins σ H s):sysModules<s.heap.objs.size:=by have h:mainGlobals<s.heap.objs.size:=(I.mod.glob.keeps I.bk).lt;exact Nat.lt_trans (by decide) h
theorem UH{Q:aa->af->Prop}(hu:A.units+1<cLine)(I:Inv X pins σ H s)(g:qZ H a y (aC v))(ry:RelV y u)(h:∀w' s',Inv X pins σ H s'->RelV v w'->Q w' s') :
 wpAny (model X.prog X.w) A (getItem (.ref a) u) Q E s:=by
 rcases g with⟨kvs,k,e,ey,l⟩|⟨kvs,k,b,e,ey,eb,l⟩;subst ey;obtain⟨z,hd,vs,rel,dd⟩:=lD I.hok e;obtain⟨w',hw,rw'⟩:=ic.some_of (v:=v) (o:=valueAt vs k) (by rw[l];exact rel.val k);exact wpAny_getItem_of (lC ry) dd.mapOf hw (h w' _ (I.tok _) rw');subst ey;cases(show u=Value.ref b from ry);obtain⟨z,hd,xs,rel,dd⟩:=nY I.hok e;obtain⟨w',hw,rw'⟩:=ic.some_of (v:=v) (o:=(atKey xs k).map (·.2)) (by rw[l];exact rel.val k);obtain⟨p,hp,hp2⟩:=Option.map_eq_some_iff.mp hw;refine wpAny_getItem_heap (tupleKind_room_in1 hu) (Hw I.hok eb) dd hp ?_;rw[hp2];exact h w' _ (I.tok _) rw'
theorem Hx{h':aA}{t':Nat}{ob:HO}(I:Inv X pins σ H s)(mu:zu (H a))(hs:Heap.SameBut a s.heap h')(he:∃q,h'.get? a=aC q)(new:aY X.prog X.w (upd H a ob) h' a ob) :
 Inv X pins σ (upd H a ob) {s with heap:=h',toks:=t'}:=
 I.write (x:=a) (e:=a) mu (.inl rfl) (λb q hb z=>(hs.2 b hb).trans z) he new
theorem Nx{P:ai}{w:ak}{H':Hp}{h':aA}{kvs:List (Key×V)}{vs:List (Key×aa)}(z:kvs.length<=sizeLine)(hd:(a==sysModules)=false)(rel:KV kvs vs)(dd:h'.DictOf (kg P w) a vs) :
 aY P w H' h' a (.dK kvs):=⟨z,hd,vs,rel,dd⟩
theorem UI{H':Hp}{Q:Unit->af->Prop}(hu:A.units+1<cLine)(I:Inv X pins σ H s)(g:rq H a y v H')(ry:RelV y u)(rv:RelV v r)(h:∀s',Inv X pins σ H' s'->Q () s') :
 wpAny (model X.prog X.w) A (setItem (.ref a) u r) Q E s:=by
 rcases g with⟨kvs,k,e,ey,l,eH⟩|⟨kvs,k,b,e,ey,eb,l,eH⟩;subst ey eH;obtain⟨z,hd,vs,rel,dd⟩:=t8 I.hok e;have hz:vs.length<=sizeLine:=by rw[<-rel.length];exact z
 have hl:(putK kvs k v).length<=sizeLine:=by have:=Hv kvs k v;lia
 refine wpAny_setItem_pairs (hsz:=hz) (lC ry) dd λh' vX hs=>h _ ?_;have he:∃q,h'.get? a=aC q:=let⟨q,_,_,hq,_⟩:=vX;⟨q,hq⟩;exact Hx I (by rw[e];exact True.intro) hs he (Nx hl hd (rel.put k rv) vX);subst ey eH;cases(show u=Value.ref b from ry);obtain⟨z,hd,xs,rel,dd⟩:=Av I.hok e;have hz:xs.length<=sizeLine:=by rw[<-DH rel];exact z
 have hl:(putK kvs k v).length<=sizeLine:=by have:=Hv kvs k v;lia
 refine wpAny_setItem_heap (hsz:=hz) (tupleKind_room_in1 hu) (Hw I.hok eb) dd λh' vX hs=>h _ ?_;obtain⟨q,es,ep,hq,h2,h3,h4,_,h5⟩:=vX;refine Hx I (by rw[e];exact True.intro) hs ⟨q,hq⟩ ⟨hl,hd,_,(rel.put k eb rv).keeps λc ys ec=>?_,q,es,ep,hq,h2,h3,h4,h5⟩;rw[bU (cM ec e (λz=>nomatch z))];exact ec
end
theorem UJ{X:Cx}{pins:List (ah×Obj)}{σ:St}{H:Hp}{s:af}{a:ah}{y:V}{o:Option V}(I:Inv X pins σ H s)(g:qZ H a y o):s.TypeIs (.ref a) "dict":=by rcases g with⟨kvs,k,e,_,_⟩|⟨kvs,k,b,e,_,_,_⟩;obtain⟨_,_,vs,_,dd⟩:=lD I.hok e;exact dd.typeIs;obtain⟨_,_,xs,_,dd⟩:=nY I.hok e;exact dd.typeIs
theorem Ny{P:ai}{w:ak}{H:Hp}(h:aA)(hb:sysModules<h.objs.size):aY P w H (h.push {cls:=.type "dict",data:=.dict #[]}) h.objs.size (.dK []):=
 ⟨gh _,C6.mpr (eT (fP hb)),[],.nil,Heap.DictOf.new h⟩
noncomputable def UK:TE:=λ_ H Q=>∀p,H p=aD->Q (.ref p) (upd H p (.dK []))
section
variable{X:Cx}{pos:Pos}
theorem UL:PE X (.Dict [] [] pos) UK:=λpins s σ H Q I h=>
 wpAny_Dict_empty ⟨.ref s.heap.objs.size,_,I.laid (a:=s.heap.objs.size) (o:=.dK []) (t':=s.toks) (λ_ _ q=>ck _ q) (aQ _) (Ny s.heap I.big),rfl,h _ (I.hok.fresh (aQ _))⟩
end
noncomputable def Eb:List (TE×TE)->St->Hp->(List (V×V)->Hp->Prop)->Prop|[],_,H,Q=>Q [] H|(tk,tv)::r,σ,H,Q=>tk σ H λx H1=>tv σ H1 λy H2=>Eb r σ H2 λps H3=>Q ((x,y)::ps) H3
noncomputable abbrev VV:List (V×V)->List (aa×aa)->Prop:=Paired λp q=>RelV p.1 q.1/\RelV p.2 q.2
noncomputable def Aw(X:Cx)(pos:Pos)(keys:List (Option aq))(values:List aq)(lE:List (TE×TE)):Prop:=
 ∀(pins:List (ah×Obj))(s:af)(σ:St)(H:Hp)(Q:List (V×V)->Hp->Prop),Inv X pins σ H s->Eb lE σ H Q->
  wpAny (model X.prog X.w) X.A (evalPairs (pairTrees keys values X.env pos)) (λvs s'=>∃ps H',Inv X pins σ H' s'/\VV ps vs/\Q ps H') X.xe s
theorem UM{X:Cx}{pos:Pos}:Aw X pos [] [] []:=λpins s σ H Q I h=>pairTrees_nil_walk ⟨[],H,I,.nil,h⟩
theorem UN{X:Cx}{pos:Pos}{k v:aq}{ks:List (Option aq)}{vs:List aq}{tk tv:TE}{lE:List (TE×TE)}(hk:PE X k tk)(hv:PE X v tv)(hr:Aw X pos ks vs lE) :
 Aw X pos (aC k::ks) (v::vs) ((tk,tv)::lE):=λpins s σ H Q I h=>
 pairTrees_cons_walk (aU (hk pins s σ H _ I h) λu s1 z9=>z9.el λx H1 I1 rx q1=>aU (hv pins s1 σ H1 _ I1 q1) λw2 s2 z9=>z9.el λy H2 I2 ry q2=>
  aU (hr pins s2 σ H2 _ I2 q2) λws s3 ⟨ps,H3,I3,rel,q3⟩=>⟨(x,y)::ps,H3,I3,.cons ⟨rx,ry⟩ rel,q3⟩)
noncomputable def t9(kvs more:List (Key×V)):List (Key×V):=more.foldl (λacc kv=>putK acc kv.1 kv.2) kvs
theorem KV.merge:∀{more:List (Key×V)} {rs:List (Key×aa)} {kvs:List (Key×V)} {vs:List (Key×aa)},KV more rs->KV kvs vs->KV (t9 kvs more) (merged vs rs):=by
 intro more rs kvs vs r;unfold KV at r;induction r generalizing kvs vs with
 |nil=>intro q;exact q
 | @cons p q ps qs h t ih=>
  intro r0;have e:KV (putK kvs p.1 p.2) (stored vs q.1 q.2):=by have:=r0.put p.1 h.2;rw[<-h.1];exact this
  exact ih e
theorem Nz:∀(more kvs:List (Key×V)),(t9 kvs more).length<=kvs.length+more.length
 |[],kvs=>by show kvs.length<=kvs.length+0;lia
 |p::r,kvs=>by
  have h1:=Nz r (putK kvs p.1 p.2);have h2:=Hv kvs p.1 p.2;show(t9 (putK kvs p.1 p.2) r).length<=_;rw[fB];lia
theorem NB{P:ai}{w:ak}:∀{kvs:List (Key×V)} {ws:List (aa×aa)},VV (kvs.map λkv=>(kV kv.1,kv.2)) ws->∃rs,Carries (kg P w) ws rs/\KV kvs rs
 |[],_,r=>by rw[xQ]at r;cases r;exact⟨[],True.intro,.nil⟩
 |p::kvs,_,r=>by
  rw[gQ]at r;cases r with
  | @cons a b as bs h t=>
   obtain⟨rs,c,q⟩:=NB (P:=P) (w:=w) t;obtain⟨b1,b2⟩:=b;exact⟨(p.1,b2)::rs,⟨lC h.1,rfl,c⟩,.cons ⟨rfl,h.2⟩ q⟩
noncomputable def Ax(lE:List (TE×TE)):TE:=λσ H Q=>∀p,H p=aD->Eb lE σ (upd H p (.dK [])) λps H2=>H2 p=aC (.dK [])/\∃kvs:List (Key×V),ps=kvs.map (λkv=>(kV kv.1,kv.2))/\kvs.length<=15/\Q (.ref p) (upd H2 p (.dK (t9 [] kvs)))
theorem UO{X:Cx}{pos:Pos}{keys:List (Option aq)}{values:List aq}{lE:List (TE×TE)}(h:Aw X pos keys values lE)(hall:keys.all (·.isSome))(hl:keys.length=values.length)(h0:keys≠[])
 (Hy:keys.length<=15):PE X (.Dict keys values pos) (Ax lE):=by
 intro pins s σ H Q I q;have hn:=I.hok.fresh (aQ s.heap.objs.size);have I1:=I.laid (a:=s.heap.objs.size) (o:=.dK []) (h':=s.heap.push {cls:=.type "dict",data:=.dict #[]}) (t':=s.toks) (λ_ _ q=>ck _ q) (aQ _) (Ny s.heap I.big);refine wpAny_Dict_walk (knd:=kg X.prog X.w) hall hl h0 Hy (aU (h pins _ σ _ _ I1 (q _ hn)) λws s2 bV=>?_);obtain⟨ps,H2,I2,rel,e,kvs,ep,lk,q2⟩:=bV;subst ep;obtain⟨rs,c,rk⟩:=NB (P:=X.prog) (w:=X.w) rel;obtain⟨z,hd,NC,r0,dd⟩:=t8 I2.hok e;cases r0;refine⟨rs,c,dd,λh' vX hs=>⟨.ref s.heap.objs.size,_,?_,rfl,q2⟩⟩;have hz:(t9 [] kvs).length<=sizeLine:=by have h1:=Nz kvs [];rw[Dv]at h1;rw[yR];lia
 have he:∃q,h'.get? s.heap.objs.size=aC q:=let⟨q,_,_,hq,_⟩:=vX;⟨q,hq⟩;exact Hx I2 (by rw[e];exact True.intro) hs he (Nx hz hd (rk.merge .nil) vX)
noncomputable def jL(e tg iter:aq)(ifs:List aq)(it acc:aa)(env:Env)(emit:Sem Unit):Sem Fin:=do
 standAt iter.pos
 match <-pyNext it with
 |none=>pure (.done .next)
 |some v=>
  letOwnedTupleGo tg it v
  assign tg env v
  let ok <-yh ifs env
  if ok then emit
  again (.compLoop e 0 it acc env)
theorem UP{prog:ai}{w:ak}{A:ao}{R:Result->af->Prop}{s:af}{e target iter:aq}{ifs:List aq}{it acc:aa}{env:Env}{emit:Sem Unit}(he:compTurn e 0 it acc env=jL e target iter ifs it acc env emit)
 (hd:(model prog w).den (.compLoop e 0 it acc env)=(compTurn e 0 it acc env).onRaise (λx=>do noteFrame x env;theTreesLotGoes x)) (hA:A.under (.compLoop e 0 it acc env)=A) (I:Nat->af->Prop)
 (turn:∀n s,I n s->wpAny (model prog w) A (pyNext it) (λr s₁=>match r with
   |none=>R (.ok .next) s₁
   |some v=>wpAny (model prog w) A (letOwnedTupleGo target it v) (λ_ s₀=>wpAny (model prog w) A (assign target env v) (λ_ s₂=>
    wpAny (model prog w) A (yh ifs env) (λok s₃=>
     if ok=true then wpAny (model prog w) A emit (λ_ s₅=>∃m,m<n/\I m s₅) gK s₃
     else ∃m,m<n/\I m s₃) gK s₂) gK s₀) gK s₁) gK s)
 (n:Nat) (h:I n s):codeAny (model prog w) A (.compLoop e 0 it acc env) R s:=by
 refine codeAny_loop rfl I (λn s hI=>?_) n h;rw[hd,hA];refine wpAny_noted (GZ ?_);rw[he];unfold jL;refine aL (nq (aL (gf (turn n s hI) (λr s₁ h₁=>?_) λ_ _ z=>z)));cases r with
 |none=>exact bz h₁
 |some v=>
  refine aL (gf h₁ (λ_ s₀ h₀=>?_) λ_ _ z=>z);refine aL (gf h₀ (λ_ s₂ h₂=>aL (gf h₂ (λok s₃ h₃=>?_) λ_ _ z=>z)) λ_ _ z=>z);cases ok with
  |true=>
   simp only[b9]at h₃ ⊢;exact aL (gf h₃ (λ_ s₅ h₅=>bz ⟨rfl,h₅⟩) λ_ _ z=>z)
  |false=>
   simp only[dS,dB]at h₃ ⊢;exact bz ⟨rfl,h₃⟩
theorem UQ{prog:ai}{w:ak}{A:ao}{R:Result->af->Prop}{s:af}{e target iter:aq}{ifs:List aq}{rest:List Comprehension}{it acc:aa}{env:Env}(hcl:clausesOf e=⟨target,iter,ifs,0⟩::rest)
 (hd:(model prog w).den (.compStart e 0 it acc env)=(compStart e 0 it acc env).onRaise (λx=>do noteFrame x env;standAt theWindowsPlace)) (hA:A.under (.compStart e 0 it acc env)=A)
 (h0:codeAny (model prog w) A (.compLoop e 0 it acc env) R s)
 (h:wpAny (model prog w) A (pyIter it) (λj s'=>codeAny (model prog w) A (.compLoop e 0 j acc env) R s') (notedBy (model prog w) A env λx s'=>R (.error x) s') s) :
 codeAny (model prog w) A (.compStart e 0 it acc env) R s:=by
 refine codeAny_of_tree ?_;rw[hd,hA];refine wpAny_notedAt ?_;unfold compStart;rw[hcl];show wpAny _ _ (ask >>= _) _ _ s;refine aL (wpAny_askSetting (xM ?_));split;first
  |exact aL (bz (bz (And.intro rfl h0)))
  |exact bz (And.intro rfl h0)
 first
  |exact aL (kH (aL (nq (aL (gf h (λj s' h'=>bz ⟨rfl,h'⟩) λ_ _ z=>z)))))
  |(refine aL (kH ?_);show wpAny _ _ (standAt iter.pos >>= _) _ _ s;exact aL (nq (aL (gf h (λj s' h'=>bz ⟨rfl,h'⟩) λ_ _ z=>z))))
noncomputable abbrev TM:=St->Hp->(St->Hp->Prop)->Prop
noncomputable def PM(X:Cx)(emit:Sem Unit)(t:TM):Prop:=∀(pins:List (ah×Obj)) (s:af) (σ:St) (H:Hp) (Q:St->Hp->Prop),Inv X pins σ H s->t σ H Q->wpAny (model X.prog X.w) X.A emit (λ_ s'=>∃σ' H',Inv X pins σ' H' s'/\Q σ' H') X.xe s
structure lF(P:ai)(w:ak)(e tg iter:aq)(ifs:List aq)(emit:aa->Env->Sem Unit)(newAcc:Sem aa)(ob:Obj)(u0:HO):Prop where
 cl:∃rest,clausesOf e=⟨tg,iter,ifs,0⟩::rest
 turn:∀it acc env,compTurn e 0 it acc env=jL e tg iter ifs it acc env (emit acc env)
 dl:∀it acc env,(model P w).den (.compLoop e 0 it acc env)=(compTurn e 0 it acc env).onRaise (λx=>do noteFrame x env;theTreesLotGoes x)
 ds:∀it acc env,(model P w).den (.compStart e 0 it acc env)=(compStart e 0 it acc env).onRaise (λx=>do noteFrame x env;standAt theWindowsPlace)
 al:∀(A:ao) it acc env,A.under (.compLoop e 0 it acc env)=A
 as:∀(A:ao) it acc env,A.under (.compStart e 0 it acc env)=A
 new:∀(A:ao)(s:af)(Q:aa->af->Prop)(E:aa->af->Prop),Q (.ref s.heap.objs.size) {s with heap:=s.heap.push ob}->wpAny (model P w) A newAcc Q E s
 ok:∀(H:Hp)(h:aA),sysModules<h.objs.size->aY P w H (h.push ob) h.objs.size u0
noncomputable def ua(J:It)(f:St)(g:TG)(tc:TT)(tm:TM)(u0:HO)(D:ah)(H1:Hp)(Q:Hp->Prop):Prop:=
 ∃W:Nat->Nat->St->Hp->Prop,(∃m,W 0 m f (upd H1 D u0))/\∀i m σ' H',W i m σ' H'->
  ((J.stop i H'/\Q H')\/(J.go i H'/\∀x H2,J.vG i H' x H2->g x σ' H2 λσ2 H3=>tc σ2 H3 λb H4=>
    if b=true then tm σ2 H4 λkj H5=>∃m',m'<m/\W (i+1) m' kj H5
    else ∃m',m'<m/\W (i+1) m' σ2 H4))
noncomputable def Hz(K:aI)(f:St->St)(wi:TI)(g:TG)(tc:TT)(tm:ah->TM)(u0:HO):TE:=λσ H Q=>wi σ H λJ H1=>∀D,H1 D=aD->K.lookup D=aD->ua J (f σ) g tc (tm D) u0 D H1 λH'=>Q (.ref D) H'
section
variable{X:Cx}{ow fr:List Str}{ix:List Nat}{scope:az}{e tg iter:aq}{ifs:List aq}{pos:Pos}{wi:TI}{g:TG}{tc:TT}{tm:ah->TM}{emit:aa->Env->Sem Unit}{newAcc:Sem aa}{ob:Obj}{u0:HO}
theorem ND{pins:List (ah×Obj)}{s:af}{σ:St}{Q:VK}{RR:aa->ah->Result->af->Prop}(CK:lF X.prog X.w e tg iter ifs emit newAcc ob u0)(S:aW X ow fr ix scope)(hc:X.calm=true)
 (hg:∀C s₀ H₀ ex,PG (X.comp (ow++fr) scope C s₀ H₀ ex) tg g) (ht:∀C s₀ H₀ ex,iP (X.comp (ow++fr) scope C s₀ H₀ ex) ifs tc) (he:∀C s₀ H₀ ex D,PM (X.comp (ow++fr) scope C s₀ H₀ ex) (emit (.ref D) (X.comp (ow++fr) scope C s₀ H₀ ex).env) (tm D))
 {itv:aa} {E:aa->af->Prop}
 (h:DM X pins σ tg (λJ H1=>∀D,H1 D=aD->X.K.lookup D=aD->ua J (jf ow fr ix σ) g tc (tm D) u0 D H1 λH'=>Q (.ref D) H') itv s)
 (fin:∀D C H' s' m,dO X pins H' C->s'.heap.Ns C m->(∀h'',Heap.SameBut C s'.heap h''->Inv X pins σ H' {s' with heap:=h''})->Q (.ref D) H'->RR (.ref D) C (.ok .next) s') :
 wpAny (model X.prog X.w) X.A newAcc (λacc s₃=>wpAny (model X.prog X.w) X.A (newFunctionEnv scope X.env.globals (je X.env.cells scope.names []) [] X.env.qual aD .none (aC X.env)) (λcenv s₄=>
  codeAny (model X.prog X.w) X.A (.compStart e 0 itv acc {cenv with scope:=relabel scope X.env}) (RR acc cenv.locals) s₄) E s₃) E s:=by
 obtain⟨it,fp,tn,J,H1,ei,I1,T,st1,f1,hq⟩:=h;subst ei;have hD:H1 s.heap.objs.size=aD:=I1.hok.fresh (aQ _);have G3:X.K.lookup s.heap.objs.size=aD:=by
  cases q:X.K.lookup s.heap.objs.size with|none=>rfl|some o=>exact absurd (cD (I1.iO _ _ q)) (i8 _)
 obtain⟨W,⟨m0,w0⟩,turn⟩:=hq _ hD G3;have I3:Inv X pins σ (upd H1 s.heap.objs.size u0) {s with heap:=s.heap.push ob}:=I1.laid (t':=s.toks) (o:=u0) (λb u q=>ck _ q) (aQ _) (CK.ok _ _ I1.big);have nX:∀b∈fp,b<s.heap.objs.size:=λb hb=>by
  obtain⟨o,ho,_⟩:=T.obj _ _ st1 b hb;exact cD ho
 have f3:∀b∈fp,dO X pins (upd H1 s.heap.objs.size u0) b:=λb hb=>⟨by rw[bU (fP (nX b hb))];exact(f1 b hb).1,(f1 b hb).2⟩
 refine CK.new _ _ _ _ (Ni (λx c e=>(I3.cell x c (DU (cells:=X.env.cells) scope.names [] (λx c e=>by cases e) x c e)).elim λv q=>q.lt) (λh₁ hns hk0 hnc=>?_));dsimp only at hns hk0 hnc ⊢;generalize Ao:({s with heap:=s.heap.push ob}:af)=s3 at I3;have vR:s3.heap=s.heap.push ob:=by rw[<-Ao]
 rw[<-vR]at hns hk0 hnc ⊢;have hk:∀b o,s3.heap.get? b=aC o->h₁.get? b=aC o:=hk0;have vS:∀b∈fp,b<s3.heap.objs.size:=λb hb=>by rw[vR,jC];exact qq (nX b hb)
 have J3:=Nl S I3 f3 vS (tk:=s.toks) hns hk hnc;have st3:tn 0 h₁:=T.keep _ _ _ st1 λb hb o q=>hk b o (by rw[vR];exact ck _ q);generalize mF:X.comp (ow++fr) scope s3.heap.objs.size s3 (upd H1 s.heap.objs.size u0) fp=Y at J3;have vU:∀b∈fp,Y.Ok->∀{H':Hp},H' b=aD->dO Y [] H' b:=λb hb ok H' hn=>by
  subst mF;exact⟨hn,(ok.yc b hb).1,ok.mh b hb,.inl hb,(ok.yc b hb).2,λp hp=>by cases(show p∈([]:List (ah×Obj))from hp)⟩
 have back:∀{σ':St}{H':Hp}{s':af},Inv Y [] σ' H' s'->∀h'',Heap.SameBut s3.heap.objs.size s'.heap h''->Inv X pins σ H' {s' with heap:=h''}:=λ{σ' H' s'} I' h'' hs=>by
  subst mF;have nA:∀b o,s3.heap.get? b=aC o->b≠s3.heap.objs.size:=λb o q=>fP (cD q);have un:Un (frs X.stack) fp (upd H1 s.heap.objs.size u0) H' s3.heap h'':=
   ⟨λb o q n hb hx=>(hs.2 b (nA b o q)).trans (I'.base.keep b o q n hb hx),λb o q n hb hx=>by
    obtain⟨sl,z⟩:=I'.base.slot b o q n hb hx;exact⟨sl,(hs.2 b (nA b o q)).trans z⟩,I'.base.free,λb o q hx=>by
    obtain⟨o',z⟩:=I'.base.there b o q hx;exact⟨o',(hs.2 b (nA b o q)).trans z⟩,I'.base.tups,I'.base.ig,I'.base.iH⟩
  have hok:ff X.prog X.w H' h'':=λb ob q=>by
   refine(I'.hok b ob q).stay (λc w' hcc z=>(hs.2 c ?_).trans z) (λ_ z=>z) λ_ _ z=>z;rintro rfl;have hfree:=I'.free;rcases hcc with rfl|hcc
   rw[show H' s3.heap.objs.size=aD from hfree]at q;cases q;rw[show H' s3.heap.objs.size=aD from hfree]at hcc;cases hcc
  have hos:s'.os=s3.os:=I'.os;exact I3.tW (s':={s' with heap:=h''}) (ch:=fp) hos un hok I'.bare λb hb=>by
   obtain⟨_,a1,a2,a3,a4,a5⟩:=f1 b hb;exact⟨a3,a1,a4,a5⟩
 have Ay:Y.prog=X.prog:=by subst mF;rfl
 have Az:Y.w=X.w:=by subst mF;rfl
 have NF:Y.K=X.K:=by subst mF;rfl
 have AA:Y.A=X.A:=by subst mF;rfl
 have NG:Y.calm=true:=by rw[<-mF];exact hc
 have HA:Y.xe=gK:=by subst mF;rfl
 have NH:Y.env.locals=s3.heap.objs.size:=by subst mF;rfl
 have hg':PG Y tg g:=by rw[<-mF];exact hg _ _ _ _
 have ht':iP Y ifs tc:=by rw[<-mF];exact ht _ _ _ _
 have he':∀D,PM Y (emit (.ref D) Y.env) (tm D):=λD=>by rw[<-mF];exact he _ _ _ _ D
 have loop:∀s4:af,Inv Y [] (jf ow fr ix σ) (upd H1 s.heap.objs.size u0) s4->tn 0 s4.heap->codeAny (model X.prog X.w) X.A (.compLoop e 0 (.ref it) (.ref s.heap.objs.size) Y.env) (RR (.ref s.heap.objs.size) s3.heap.objs.size) s4:=by
  intro s4 I4 G7;refine UP (CK.turn _ _ _) (CK.dl _ _ _) (CK.al _ _ _ _) (λn s'=>∃i σ' H',Inv Y [] σ' H' s'/\tn i s'.heap/\(∀b∈fp,H' b=aD)/\W i n σ' H') ?_ m0 ⟨0,_,_,I4,G7,λb hb=>(f3 b hb).1,w0⟩;rintro n s5 ⟨i,kj,H5,I5,mq,qP,w5⟩;rcases turn i n kj H5 w5 with⟨stop,q⟩|⟨go,step⟩
  .have td:=T.done Y Ay Az NF NG i [] s5 kj H5 gK I5 (λb hb=>vU b hb I5.ok (qP b hb)) mq stop
   rw[AA]at td;refine aU td λr s6 bV=>?_;obtain⟨hr,I6⟩:=bV;subst hr;obtain⟨m6,DY,_⟩:=I6.loc;rw[NH]at DY;have NI:=I6.free;rw[NH]at NI;exact fin _ _ H5 s6 m6 (I3.kM (aQ _) NI) DY (back I6) q
  have td:=T.item Y Ay Az NF NG i [] s5 kj H5 gK I5 (λb hb=>vU b hb I5.ok (qP b hb)) mq go;rw[AA]at td;refine aU td λr s6 bV=>?_;obtain⟨u,hr,h6⟩:=bV;subst hr;refine aU h6 λ_ s7 bV=>?_;obtain⟨x,H7,I7,r7,y7,vV,Hf⟩:=bV;have Hg:=I7.pinned (λb hb=>vU b hb I7.ok (Hf b hb)) (T.obj _ _ vV);have again:∀{jK:St}{H8:Hp}{s8:af}{m':Nat},Inv Y ([]++vH fp s7.heap) jK H8 s8->m'<n->W (i+1) m' jK H8->∃m,m<n/\∃i σ' H',Inv Y [] σ' H' s8/\tn i s8.heap/\(∀b∈fp,H' b=aD)/\W i m σ' H':=λ{jK H8 s8 m'} I8 hm w8=>by
   refine⟨m',hm,i+1,jK,H8,I8.cY,T.keep _ _ _ vV λb hb o q=>(I8.pin (b,o) (g6 _ (g6 _ (tY hb q)))).1,λb hb=>?_,w8⟩;obtain⟨o,q,d⟩:=T.obj _ _ vV b hb;exact(I8.pin (b,o) (g6 _ (g6 _ (tY hb q)))).2.1
  have q7:=hg' _ s7 kj H7 x u _ Hg r7 (step x H7 y7);rw[Ay,Az,AA,HA]at q7;refine aU q7 λ_ s8 bV=>?_;obtain⟨jK,H8,I8,q8⟩:=bV;have q8:=ht' _ s8 jK H8 _ I8 q8;rw[Ay,Az,AA,HA]at q8;refine aU q8 λok s9 z9=>z9.el λH9 I9 q9=>?_;cases ok with
  |false=>
   simp only[dS,dB]at q9 ⊢;obtain⟨m',hm,w9⟩:=q9;exact again I9 hm w9
  |true=>
   simp only[b9]at q9 ⊢;have NJ:=he' _ _ s9 jK H9 _ I9 q9;rw[Ay,Az,AA,HA]at NJ;exact aU NJ λ_ Hh ⟨UR,Hi,Hj,m',hm,Ho⟩=>again Hj hm Ho
 have D9:Inv Y [] (jf ow fr ix σ) (upd H1 s.heap.objs.size u0) {s with heap:=h₁,toks:=s.toks}:=by rw[<-Ao]at J3;exact J3
 have hl:=loop _ D9 st3;obtain⟨rest,hcl⟩:=CK.cl;have fin':=UQ hcl (CK.ds _ _ _) (CK.as _ _ _ _) hl (T.self _ 0 _ _ _ st3 hl);rw[<-mF]at fin';exact fin'
theorem AB(CK:lF X.prog X.w e tg iter ifs emit newAcc ob u0)(hev:eval e X.env=comprehension e scope X.env pos newAcc false (eval iter X.env))(S:aW X ow fr ix scope)(hc:X.calm)(hi:PI X tg iter wi)
 (hg:∀C s₀ H₀ ex,PG (X.comp (ow++fr) scope C s₀ H₀ ex) tg g) (ht:∀C s₀ H₀ ex,iP (X.comp (ow++fr) scope C s₀ H₀ ex) ifs tc) (he:∀C s₀ H₀ ex D,PM (X.comp (ow++fr) scope C s₀ H₀ ex) (emit (.ref D) (X.comp (ow++fr) scope C s₀ H₀ ex).env) (tm D))
 (hs:∀x,foldedSetIterable iter X.env x=pure x):PE X e (Hz X.K (jf ow fr ix) wi g tc tm u0):=by
 intro pins s σ H Q I h;rw[hev];obtain⟨rest,hcl⟩:=CK.cl;refine C8 (use:=aD) hcl hs (DT λy hy e=>I.ok.has _ (S.free y hy e)) S.kind S.names (aU (hi pins s σ H _ I h) λv s1 h1=>aU h1 λitv s2 h2=>?_);exact ND (RR:=λacc C=>compPost (model X.prog X.w) X.A X.xe aD (EP X pins σ Q) acc C) CK S hc hg ht he h2 λD C H' s' m _ hn hI q=>⟨m,hn,λh'' kO=>⟨.ref D,H',hI h'' kO,rfl,q⟩⟩
theorem US{i:Nat}{y:Str}{py spos:Pos}(CK:lF X.prog X.w e tg iter ifs emit newAcc ob u0)(hev:∀use,evalThenUse e X.env use=(do let _ <-comprehension e scope X.env pos newAcc false (eval iter X.env) (aC use)))(hN:X.N.Nodup)(Hq:X.N[i]?=aC y)(hy:Loc X.env.scope y)(S:aW X ow fr ix scope)(hc:X.calm)(hi:PI X tg iter wi)
 (hg:∀C s₀ H₀ ex,PG (X.comp (ow++fr) scope C s₀ H₀ ex) tg g) (ht:∀C s₀ H₀ ex,iP (X.comp (ow++fr) scope C s₀ H₀ ex) ifs tc) (he:∀C s₀ H₀ ex D,PM (X.comp (ow++fr) scope C s₀ H₀ ex) (emit (.ref D) (X.comp (ow++fr) scope C s₀ H₀ ex).env) (tm D))
 (hsw:swapsWith e (aC (.Name y py)) spos.line X.env=pure true) (hf:X.fn y=true\/X.env.scope.names.lookup y=aC .local)
 (hs:∀x,foldedSetIterable iter X.env x=pure x):PS X (.Assign [.Name y py] e spos) (qL (Hz X.K (jf ow fr ix) wi g tc tm u0) (iu i)):=by
 intro pins s σ H D I h;rw[exec_Assign_Name_used _ _ _ _ hsw];refine aL (nq (aL ?_));rw[hev];obtain⟨rest,hcl⟩:=CK.cl;refine aL (gf (C8 (use:=aC (assign (.Name y py) X.env)) (Q:=λ_ s'=>SP X pins D .next s') hcl hs (DT λy hy e=>I.ok.has _ (S.free y hy e)) S.kind S.names
  (aU (hi pins s σ H _ I h) λv s1 h1=>aU h1 λitv s2 h2=>?_)) (λ_ s' hq=>bz (bz hq)) λ_ _ e=>e)
 refine ND (Q:=λx H1=>iu i x σ H1 D.nx) (RR:=λacc C=>compPost (model X.prog X.w) X.A X.xe (aC (assign (.Name y py) X.env)) (λ_ s'=>SP X pins D .next s') acc C) CK S hc hg ht he h2 λd C H' s' m hC hn hI q=>?_;show wpAny _ X.A (assign (.Name y py) X.env (.ref d)) _ _ _;have I':Inv X pins σ H' s':=hI s'.heap (.refl ..);refine wpAny_assign_Name (F8 I' hN Hq hy (v:=.ref d) rfl (λs'' Hr ⟨a,Hs,ha⟩=>?_) hf);obtain⟨c0,c1,c2,c3,c4,c5⟩:=hC;have Ht:C≠a:=by rcases ha with rfl|ha;exact c1;exact λz=>c4 _ _ ha z.symm
 exact⟨m,hn.sameBut Hs Ht,λh'' kO=>⟨_,H',Hr.turned (t':=s''.toks) (it:=C) (λb o hb q=>(kO.2 b hb).trans q) c0 c1 c3 c4 c5,q⟩⟩
end
theorem UT:fillsNumberSlot (.type "tuple") "mul" = pure false:=
 PySem.fillsNumberSlot_seq (id:="tuple.__mul__") (r:=aC (.builtin "tuple.__rmul__")) zh.lookup (by decide +kernel) F.slot_tuple_rmul.lookup (by decide +kernel)
theorem UU:seqRepeat? (.type "tuple")=pure (aC (.builtin "tuple.__mul__")):=by unfold seqRepeat?;rw[PySem.seqSlot_of (T:="tuple") (name:="__mul__") (id:="tuple.__mul__") zh.lookup (by decide +kernel),PySem.seqSlot_of (T:="tuple") (name:="__rmul__") (id:="tuple.__rmul__") F.slot_tuple_rmul.lookup (by decide +kernel)];rfl
theorem UW(k:Int)(t:Tok)(l:ah)(its:Array aa)(n:Nat)(dd:Option ah)(sl:Array (Option aa)) :
 Meets (Builtin.«int.__rmul__» ⟨[.int k t,.ref l],[]⟩) (λ_ R s=>s.heap.get? l=aC {cls:=.type "tuple",dict:=dd,data:=.seq its n,slots:=sl}/\R (.ok (.ret Value.notImplemented)) s):=
 .of_wp λprog w A R s h=>by
  obtain⟨hp,g,d,tk,os⟩:=s;obtain⟨e,h⟩:=h
  wp_walk using nO e;exact⟨_,rfl,h⟩
theorem UX(l:ah)(its:Array aa)(n:Nat)(dd:Option ah)(sl:Array (Option aa))(k:Int)(t:Tok)(h1:¬(decide (k < -(2 ^ 63))||decide (k>=2 ^ 63)))(h2:(its.isEmpty||k==1)) :
 Meets (Builtin.«tuple.__mul__» ⟨[.ref l,.int k t],[]⟩) (λ_ R s=>s.heap.get? l=aC {cls:=.type "tuple",dict:=dd,data:=.seq its n,slots:=sl}/\R (.ok (.ret (.ref l))) s):=
 .of_wp λprog w A R s h=>by
  obtain⟨hp,g,d,tk,os⟩:=s;obtain⟨e,h⟩:=h;have f1:=AutoSeq1.idx_int
  wp_walk using nO e;refine xM ?_;rw[if_neg h1]
  wp_walk using nO e;exact⟨_,rfl,h⟩
theorem UY(l:ah)(its:Array aa)(n:Nat)(dd:Option ah)(sl:Array (Option aa))(k:Int)(t:Tok)(h1:¬(decide (k < -(2 ^ 63))||decide (k>=2 ^ 63)))(h2:¬(its.isEmpty||k==1))(h3:(decide (k<=0)||its.isEmpty)) :
 Meets (Builtin.«tuple.__mul__» ⟨[.ref l,.int k t],[]⟩) (λ_ R s=>s.heap.get? l=aC {cls:=.type "tuple",dict:=dd,data:=.seq its n,slots:=sl}/\R (.ok (.ret (.ref s.heap.objs.size))) {s with heap:=s.heap.push {cls:=.type "tuple",data:=.seq #[]}}):=
 .of_wp λprog w A R s h=>by
  obtain⟨hp,g,d,tk,os⟩:=s;obtain⟨e,h⟩:=h;have f1:=AutoSeq1.idx_int
  wp_walk using nO e;refine xM ?_;rw[if_neg h1]
  wp_walk using nO e;exact⟨_,rfl,h⟩
theorem UZ(l:ah)(its:Array aa)(n:Nat)(dd:Option ah)(sl:Array (Option aa))(k:Int)(t:Tok)(h1:¬(decide (k < -(2 ^ 63))||decide (k>=2 ^ 63)))(h2:¬(its.isEmpty||k==1))(h3:¬(decide (k<=0)||its.isEmpty)=true)
 (h4:¬(its.size*k> (2 ^ 63-1)/8)) (h5:¬Builtin.Tuple.tupleTooMany (its.size*k)) (h6:((bE k.toNat its).foldl (· ++ ·) #[]).size<=sizeLine) :
 Meets (Builtin.«tuple.__mul__» ⟨[.ref l,.int k t],[]⟩) (λ_ R s=>s.heap.get? l=aC {cls:=.type "tuple",dict:=dd,data:=.seq its n,slots:=sl}/\R (.ok (.ret (.ref s.heap.objs.size))) {s with heap:=s.heap.push {cls:=.type "tuple",data:=.seq ((bE k.toNat its).foldl (· ++ ·) #[])}}):=
 .of_wp λprog w A R s h=>by
  obtain⟨hp,g,d,tk,os⟩:=s;obtain⟨e,h⟩:=h;have f1:=AutoSeq1.idx_int
  wp_walk using nO e;refine xM ?_;rw[if_neg h1]
  wp_walk using nO e;refine xM ?_;rw[if_neg h4]
  wp_walk using nO e;exact⟨_,rfl,h⟩
section
variable{X:Cx}
noncomputable def uc(K:aI):R2:=λx y H Q=>∃a k xs,x=.ref a/\y=.int k/\bW K H a xs/\-(2 ^ 62)<=k/\k<2 ^ 62/\xs.length*k.toNat<=sizeLine/\
 ((xs.isEmpty||k==1)=true->Q (.ref a) H)/\((xs.isEmpty||k==1)=false->∀p,H p=aD->Q (.ref p) (upd H p (.tup (bE k.toNat xs).flatten)))
theorem NK{xs:List V}{us:List aa}(r:Vals xs us):us.toArray.isEmpty=xs.isEmpty:=by cases r<;>rfl
theorem U0:cN X (binaryOp .Mult) (uc X.K):=by
 intro pins s σ H x y v u Q I rx ry h;obtain⟨a,k,xs,rfl,rfl,ha,k1,k2,hz,q1,q2⟩:=h;cases rx;obtain⟨t,rfl⟩:=ry;obtain⟨its,r,p,_⟩:=I.tuple ha;obtain⟨⟨c,dd,dt,sl⟩,e1,e2,n,e3⟩:=p
 replace e2:c=.type "tuple":=e2
 replace e3:dt=.seq its.toArray n:=e3;subst e2 e3;have hl:xs.length=its.length:=r.length;have h1:¬(decide (k < -(2 ^ 63))||decide (k>=2 ^ 63))=true:=by simp only[qt,fL];lia
 refine wpAny_binaryOp_repeat_ref (T:="tuple") (U:="int") (by decide) ⟨_,e1,rfl⟩ (λs'=>typeIs_int s' k t) UT F.fills_int_mul F.slot_int_rmul UU F.slot_int_index.lookup
  (qp F.slot_int_rmul (typeIs_int s k t) F.entry_int_rmul (F.args_int_rmul_2 _ _) (UW k t a its.toArray n dd sl) ⟨e1,rfl,⟨_,e1,rfl⟩,?_⟩)
 by_cases h2:(its.toArray.isEmpty||k==1)=true;refine qp zh ⟨_,e1,rfl⟩ F.entry_tuple_mul (F.args_tuple_mul_2 _ _) (UX a its.toArray n dd sl k t h1 h2) ⟨e1,?_⟩;exact⟨.ref a,H,I,rfl,q1 (by rw[<-NK r];exact h2)⟩;have q2:=q2 (by rw[<-NK r];simpa using h2);by_cases h3:(decide (k<=0)||its.toArray.isEmpty)=true;have hk:k.toNat=0:=by
  have:its.toArray.isEmpty=false:=by
   cases q:its.toArray.isEmpty with|false=>rfl|true=>rw[q]at h2;exact absurd rfl h2
  rw[this,Bool.or_false,fL]at h3;lia
 refine qp zh ⟨_,e1,rfl⟩ F.entry_tuple_mul (F.args_tuple_mul_2 _ _) (UY a its.toArray n dd sl k t h1 h2 h3) ⟨e1,?_⟩;rw[hk]at q2;exact⟨.ref s.heap.objs.size,_,I.laid (t':=s.toks) (o:=.tup []) (λb ob q=>ck _ q) (aQ _) ⟨gh _,[],.nil,kJ.new _ _⟩,rfl,q2 _ (I.hok.fresh (aQ _))⟩;have hk:0<k:=by simp only[qt,fL,not_or]at h3;lia
 have hkn:((k.toNat:Nat):Int)=k:=Int.toNat_of_nonneg (by lia);have hmul:(its.toArray.size:Int)*k=((xs.length*k.toNat:Nat):Int):=by rw[cC,<-hl,Int.natCast_mul,hkn]
 have hsl:(sizeLine:Nat)=16777216:=rfl;have fl:(bE k.toNat its.toArray).foldl (· ++ ·) #[]=(bE k.toNat its).flatten.toArray:=by
  have:=M9 its k.toNat []
  rw[xP]at this;exact this
 refine qp zh ⟨_,e1,rfl⟩ F.entry_tuple_mul (F.args_tuple_mul_2 _ _) (UZ a its.toArray n dd sl k t h1 h2 h3 (by rw[hmul];lia) (by
  unfold Builtin.Tuple.tupleTooMany;rw[hmul,fL];lia) (by rw[fl,cC,Nb,Nat.mul_comm,<-hl];exact hz)) ⟨e1,?_⟩
 rw[fl];exact⟨.ref s.heap.objs.size,_,I.laid (t':=s.toks) (o:=.tup (bE k.toNat xs).flatten) (λb ob q=>ck _ q) (aQ _) ⟨by rw[Nb,Nat.mul_comm];exact hz,_,r.rep k.toNat,kJ.new _ _⟩,rfl,q2 _ (I.hok.fresh (aQ _))⟩
noncomputable def NL(K:aI):R2:=λx y H Q=>∃a b ys,x=.ref a/\y=.ref b/\bW K H a []/\bW K H b ys/\Q (.ref b) H
theorem U3:cN X (binaryOp .Add) (NL X.K):=by
 intro pins s σ H x y v u Q I rx ry h;obtain⟨a,b,ys,rfl,rfl,ha,hb,q⟩:=h;cases rx;cases ry;obtain⟨its,r1,p1,_⟩:=I.tuple ha;obtain⟨its2,r2,p2,_⟩:=I.tuple hb;cases r1;obtain⟨⟨c,dd,dt,sl⟩,e1,e2,n,e3⟩:=p1;obtain⟨⟨c2,dd2,U4,sl2⟩,f1,f2,n2,f3⟩:=p2
 replace e2:c=.type "tuple":=e2
 replace e3:dt=.seq ([]:List aa).toArray n:=e3
 replace f2:c2=.type "tuple":=f2
 replace f3:U4=.seq its2.toArray n2:=f3;subst e2 e3 f2 f3;exact concat_meets ⟨_,e1,rfl⟩ ⟨_,f1,rfl⟩ yP yQ zg zf (ze _ _) (tuple_addW0 a b ([]:List aa).toArray its2.toArray n n2 dd dd2 sl sl2 rfl) ⟨e1,f1,⟨.ref b,H,I,rfl,q⟩⟩
noncomputable def fk(ds:List aB)(d:aB):Bool:=ds.any λe=>PyData.eqv e d
noncomputable def rz(K:aI)(neg:Bool):R2:=λx y H Q=>∃p xs ds d,y=.ref p/\(cz K H p xs\/bW K H p xs)/\mD K (λ_=>False) H xs ds/\Rp K (λ_=>False) H x d/\ds.all SeqAt.shaped=true/\SeqAt.shaped d=true/\Q (.bl (if neg then !fk ds d else fk ds d)) H
theorem HB{h:aA}:∀{us:List aa} {ds:List aB} {as:List ah} {i:Nat} {u:aa},ReadsAll h us ds as->us[i]?=aC u->∃d bs,ds[i]?=aC d/\Reads h u d bs
 |_,_,_,i,u,.nil,e=>by simp at e
 |_,_,_,0,u,.cons r _,e=>by simp at e;subst e;exact⟨_,_,rfl,r⟩
 |_,_,_,i+1,u,.cons _ rs,e=>by
  obtain⟨d,bs,h1,h2⟩:=HB rs (by simpa using e);exact⟨d,bs,by simpa using h1,h2⟩
open Classical in
noncomputable def dX(us:List aa)(ds:List aB)(d:aB)(u:aa):Bool:=decide (∃(i:Nat) (e:aB),us[i]?=aC u/\ds[i]?=aC e/\PyData.eqv e d=true)
open Classical in
theorem Ec{us:List aa}{ds:List aB}{d:aB}{u:aa}:dX us ds d u=true↔∃(i:Nat) (e:aB),us[i]?=aC u/\ds[i]?=aC e/\PyData.eqv e d=true:=by unfold dX;exact decide_eq_true_iff
theorem Ed{us:List aa}{ds:List aB}{d:aB}(hl:us.length=ds.length):us.any (dX us ds d)=fk ds d:=by
 cases q:fk ds d with
 |true=>
  unfold fk at q;rw[List.any_eq_true]at q;obtain⟨e,h1,h2⟩:=q;obtain⟨i,hi,h3⟩:=List.mem_iff_getElem.mp h1;rw[List.any_eq_true];refine⟨us[i]'(by lia),iG _,?_⟩;rw[Ec];exact⟨i,e,by simp,by rw[eN hi,h3],h2⟩
 |false=>
  unfold fk at q;rw[List.any_eq_false]at q ⊢;intro u hu z;rw[Ec]at z;obtain⟨i,e,h1,h2,h3⟩:=z;exact q e (i9 h2) h3
theorem AD{h:aA}:∀{us:List aa} {ds:List aB} {as:List ah},ReadsAll h us ds as->us.length=ds.length|_,_,_,.nil=>rfl|_,_,_,.cons _ r=>by rw[fB,fB,AD r]
theorem Ef{A:ao}{s:af}{us:List aa}{ds:List aB}{as bs:List ah}{d:aB}{v:aa}(hu:A.units+64<cLine)(ra:ReadsAll s.heap us ds as)(rb:Reads s.heap v d bs)(s1:ds.all SeqAt.shaped)(s2:SeqAt.shaped d) :
 ∀u∈us,SeqAt.EqAt A s u v (dX us ds d u):=by
 intro u hm;have sh:∀(i:Nat)(e:aB),ds[i]?=aC e->SeqAt.shaped e=true:=λi e q=>nv.mp s1 e (i9 q);cases q:dX us ds d u with
 |true=>
  rw[Ec]at q;obtain⟨i,e,h1,h2,h3⟩:=q;obtain⟨e',cs,h4,h5⟩:=HB ra h1;rw[h2]at h4;cases h4;have:=SeqAt.eqAt_reads e d A s u v cs bs h5 rb (DG (sh i e h2)) (DG s2) (SeqAt.room_of_shaped (sh i e h2) hu);rw[h3]at this;exact this
 |false=>
  obtain⟨i,hi,h1⟩:=List.mem_iff_getElem.mp hm;have h1:us[i]?=aC u:=by rw[eN hi,h1]
  obtain⟨e,cs,h4,h5⟩:=HB ra h1;have h3:PyData.eqv e d=false:=by
   cases z:PyData.eqv e d with
   |false=>rfl
   |true=>
    rw[Ec.mpr ⟨i,e,h1,h4,z⟩]at q;cases q
  have:=SeqAt.eqAt_reads e d A s u v cs bs h5 rb (DG (sh i e h4)) (DG s2) (SeqAt.room_of_shaped (sh i e h4) hu);rw[h3]at this;exact this
theorem U5(hu:X.A.in1.units+64<cLine):cN X (compareOp .In) (rz X.K false):=by
 intro pins s σ H x y v u Q I rx ry h;obtain⟨p,xs,ds,d,rfl,hq,r1,r2,s1,s2,q⟩:=h;cases ry;obtain⟨bs,rb⟩:=r2.reads I rx;rcases hq with hq|hq
 obtain⟨its,r,pl,hz⟩:=I.list hq;obtain⟨as,ra⟩:=r1.reads I r;refine SeqAt.in_listAt (dX its ds d) pl.isList (λw hw=>Ef hu ra rb s1 s2 w (by simpa using hw)) ⟨.bl _,H,I,rfl,?_⟩;rw[show its.toArray.any (dX its ds d)=its.any (dX its ds d) by simp,Ed (AD ra)];exact q;obtain⟨its,r,pl,hz⟩:=I.tuple hq;obtain⟨as,ra⟩:=r1.reads I r;refine SeqAt.in_tupleAt (dX its ds d) pl (λw hw=>Ef hu ra rb s1 s2 w (by simpa using hw)) ⟨.bl _,H,I,rfl,?_⟩;rw[show its.toArray.any (dX its ds d)=its.any (dX its ds d) by simp,Ed (AD ra)];exact q
theorem U7(hu:X.A.in1.units+64<cLine):cN X (compareOp .NotIn) (rz X.K true):=by
 intro pins s σ H x y v u Q I rx ry h;obtain⟨p,xs,ds,d,rfl,hq,r1,r2,s1,s2,q⟩:=h;cases ry;obtain⟨bs,rb⟩:=r2.reads I rx;rcases hq with hq|hq
 obtain⟨its,r,pl,hz⟩:=I.list hq;obtain⟨as,ra⟩:=r1.reads I r;refine SeqAt.notIn_listAt (dX its ds d) pl.isList (λw hw=>Ef hu ra rb s1 s2 w (by simpa using hw)) ⟨.bl _,H,I,rfl,?_⟩;rw[show its.toArray.any (dX its ds d)=its.any (dX its ds d) by simp,Ed (AD ra)];exact q;obtain⟨its,r,pl,hz⟩:=I.tuple hq;obtain⟨as,ra⟩:=r1.reads I r;refine SeqAt.notIn_tupleAt (dX its ds d) pl (λw hw=>Ef hu ra rb s1 s2 w (by simpa using hw)) ⟨.bl _,H,I,rfl,?_⟩;rw[show its.toArray.any (dX its ds d)=its.any (dX its ds d) by simp,Ed (AD ra)];exact q
end
end L2
namespace HT
open PySem PySem.Spec PyProof.Rows
section
variable{prog:ai}{w:ak}{A:ao}{E:aa->af->Prop}{s:af}
theorem eU{t sl:ah}{items:Array aa}{vl vu:aa}{lo hi:Option Int}{Q:aa->af->Prop}(ht:IsTup s.heap t items)(hs:s.heap.IsSliceOf sl vl vu .none)(pl:IsPart vl lo)(pu:IsPart vu hi)
 (hw:bH items.size 0 lo=0/\bH items.size items.size hi=items.size)
 (h:Q (.ref t) s):wpAny (model prog w) A (getItem (.ref t) (.ref sl)) Q E s:=by
 obtain⟨os,hos,hcs,hds⟩:=id hs;have GH:s.TypeIs (.ref sl) "slice":=⟨os,hos,hcs⟩
 unfold getItem
 try with_reducible refine nF ?_
 first|refine aL (bz ?_)|skip
 refine aL (wpAny_sequenceKey ht.typeIs (by decide) ?_);refine aL (xH (name:=Str.ofString "__getitem__") ht.typeIs xS
  (u7 xS ht.typeIs entry_tuple_getitem ?_ (args_tuple_getitem _ _)))
 show wpAny _ _ (Builtin.Tuple.tupleItemsOf (.ref t) >>= _) _ _ s;refine aL (tupleItemsOf_ ht ?_);refine aL (Dd GH ?_);rw[if_pos (by decide)];refine aL (M1 hs pl pu ?_);have hyes:((((bH items.size 0 lo:Nat):Int)==0&& (1:Int)==1&& (bH items.size items.size hi-bH items.size 0 lo)==items.size)):=by rw[hw.1,hw.2];simp
 show wpAny _ _ (if(((bH items.size 0 lo:Nat):Int)==0&& (1:Int)==1&& (bH items.size items.size hi-bH items.size 0 lo)==items.size)=true then _ else _) _ _ s;rw[if_pos hyes];unfold Builtin.Tuple.tupleIsExact;refine aL (aL (Dd ht.typeIs (bz ?_)));rw[if_pos (by decide)];refine aL (kH ?_);exact bz ⟨_,rfl,bz h⟩
end
end HT
namespace L2
open PySem PySem.Spec PyProof.Rows
variable{X:Cx}
noncomputable def AE(K:aI):V->Option Int->Option Int->Hp->VK->Prop:=λx lo hi H Q=>∃a xs,x=.ref a/\bW K H a xs/\
 (HT.bH xs.length 0 lo=0/\HT.bH xs.length xs.length hi=xs.length)/\Q (.ref a) H
theorem U8:qX X (AE X.K):=by
 intro pins s σ H x v vl vu lo hi sl Q I rx hs pl pu h;obtain⟨a,xs,rfl,hx,hw,q⟩:=h;cases rx;obtain⟨its,r,ht,hz⟩:=I.tuple hx;have hlen:its.toArray.size=xs.length:=by rw[cC];exact r.length.symm
 refine⟨"tuple",_,xS.lookup,ht.typeIs,?_⟩;refine HT.eU ht hs pl pu (by rw[hlen];exact hw) ?_;exact⟨.ref a,_,I,rfl,q⟩
noncomputable def HC(K:aI):V->Option Int->Option Int->Hp->VK->Prop:=λx lo hi H Q=>(Ad K x lo hi H Q\/AE K x lo hi H Q)\/Ah K x lo hi H Q
theorem U9:qX X (HC X.K):=(TV.or U8).or T6
noncomputable def ZI(b:Bool)(h:aA)(I l:ah)(k:Nat):Prop:=match b with|true=>h.IsTupleIter I l k|false=>h.IsListIter I l k
noncomputable def ZS(b:Bool)(h:aA)(l:ah)(xs:Array aa):Prop:=match b with|true=>h.IsTuple l xs|false=>h.IsList l xs
noncomputable def AF(b:Bool):String:=match b with|true=>"tuple_iterator" |false=>"list_iterator"
noncomputable def Eg(b:Bool)(l:ah):Obj:={cls:=.type (AF b),data:=.fields #[.ref l,.int 0 0]}
theorem ZI.ex{b:Bool}{h h':aA}{I l c:ah}{k:Nat}(x:ZI b h I l k)(s:Heap.ExtBut c h h')(n:I≠c):ZI b h' I l k:=by cases b;exact Heap.IsListIter.extBut x s n;exact Heap.IsTupleIter.extBut x s n
theorem ZS.ex{b:Bool}{h h':aA}{l c:ah}{xs:Array aa}(x:ZS b h l xs)(s:Heap.ExtBut c h h')(n:l≠c):ZS b h' l xs:=by cases b;exact Heap.IsList.extBut x s n;exact Heap.IsTuple.extBut x s n
theorem ZI.mv{b:Bool}{h h':aA}{I l:ah}{k:Nat}(x:ZI b h I l k)(e:∀o,h.get? I=aC o->h'.get? I=aC o):ZI b h' I l k:=by cases b;exact Heap.IsListIter.at x e;exact Heap.IsTupleIter.at x e
theorem ZI.ob{b:Bool}{h:aA}{I l:ah}{k:Nat}(x:ZI b h I l k):∃o,h.get? I=aC o/\∀v,o.data≠.cell v:=by cases b;obtain⟨o,h1,h2,h3⟩:=x;exact⟨o,h1,λv z=>by rw[h3]at z;cases z⟩;obtain⟨o,h1,h2,h3⟩:=x;exact⟨o,h1,λv z=>by rw[h3]at z;cases z⟩
theorem ZS.lt{b:Bool}{h:aA}{l:ah}{xs:Array aa}(x:ZS b h l xs):l<h.objs.size:=by cases b<;> (obtain⟨o,h1,_⟩:=x;exact cD h1)
theorem ZS.push{b:Bool}{h:aA}{l:ah}{xs:Array aa}(x:ZS b h l xs)(o:Obj):ZS b (h.push o) l xs:=by cases b;exact Heap.IsList.push x o;exact Heap.IsTuple.push x o
section
variable{prog:ai}{w:ak}{A:ao}{E:aa->af->Prop}{s:af}
theorem HE{b:Bool}{I l:ah}{k:Nat}{xs:Array aa}{y:aa}{Q:aa->af->Prop}(hi:ZI b s.heap I l k)(hl:ZS b s.heap l xs)(hy:xs[k]?=aC y)
 (q:∀g,ZI b g I l (k+1)->Heap.SameBut I s.heap g->Q y {s with heap:=g}):wpAny (model prog w) A (Builtin.SmallTypes.nextOf (.ref I)) Q E s:=by
 cases b;exact wpAny_nextOf_list_item hi hl hy q;exact Nq hi hl hy q
theorem z_end{b:Bool}{I l:ah}{k:Nat}{xs:Array aa}{Q:aa->af->Prop}(hA:A.handled=aD)(hi:ZI b s.heap I l k)(hl:ZS b s.heap l xs)(hy:xs[k]?=aD)
 (q:∀g e,Heap.ExtBut I s.heap g->(∃o,g.get? e=aC o/\o.cls=.type "StopIteration")->E (.ref e) {s with heap:=g}):wpAny (model prog w) A (Builtin.SmallTypes.nextOf (.ref I)) Q E s:=by
 cases b;exact wpAny_nextOf_list_end hA hi hl hy q;exact Hu hA hi hl hy q
structure ZA(z TI TO i1 i2 l1 l2:ah):Prop where
 a1:TI≠z/\TO≠z/\i1≠z/\i2≠z
 a2:TI≠TO/\TI≠i1/\TI≠i2/\TO≠i1/\TO≠i2/\i1≠i2
 a3:l1≠z/\l1≠TO/\l1≠i1/\l1≠i2
 a4:l2≠z/\l2≠TO/\l2≠i1/\l2≠i2
theorem U'{n l1 l2:Nat}(h1:l1<n)(h2:l2<n):ZA (n+4) (n+2) (n+3) n (n+1) l1 l2:=by have e:∀{a b:Nat},(a<b\/b<a)->a≠b:=λh=>h.elim fP nt;refine⟨⟨?_,?_,?_,?_⟩,⟨?_,?_,?_,?_,?_,?_⟩,⟨?_,?_,?_,?_⟩,?_,?_,?_,?_⟩<;>exact e (by lia)
theorem Va{b c:Bool}{z TI TO i1 i2 l1 l2:ah}{k:Nat}{xs ys:Array aa}{x y p q:aa}{Q:aa->af->Prop}(D:ZA z TI TO i1 i2 l1 l2)
 (hz:IsZip s.heap z TI TO .none) (hTI:IsPair s.heap TI (.ref i1) (.ref i2)) (hTO:IsPair s.heap TO p q)
 (h1:ZI b s.heap i1 l1 k) (h2:ZI c s.heap i2 l2 k) (hl1:ZS b s.heap l1 xs) (hl2:ZS c s.heap l2 ys) (hx:xs[k]?=aC x) (hy:ys[k]?=aC y)
 (hQ:∀h',IsZip h' z TI TO (rawInt s.heap.objs.size)->IsPair h' TO x y->ZI b h' i1 l1 (k+1)->ZI c h' i2 l2 (k+1)->IsPair h' s.heap.objs.size x y->h'.objs.size=s.heap.objs.size+1->
   (∀c o,c≠z->c≠TO->c≠i1->c≠i2->s.heap.get? c=aC o->h'.get? c=aC o)->Q (.ref s.heap.objs.size) {s with heap:=h'}) :
 wpAny (model prog w) A (Builtin.«zip.__next__» ⟨[.ref z],[]⟩) (λfin s'=>∃v,fin=.done (.ret v)/\Q v s') E s:=by
 obtain⟨⟨d1,d2,d3,d4⟩,⟨d5,d6,d7,d8,d9,AG⟩,⟨Eh,Vb,Vc,Vd⟩,HF,HG,HH,Ve⟩:=D;show wpAny _ _ (field (.ref z) 2 >>= _) _ _ _;refine aL (kG hz rfl (x:=.bool false) rfl ?_);show wpAny _ _ (field (.ref z) 3 >>= _) _ _ _;refine aL (kG hz rfl (x:=.ref TI) rfl (aL (tL hTI rfl ?_)));show wpAny _ _ (Builtin.SmallTypes.ownedTupleIsFree (.ref z) >>= _) _ _ _;refine aL ?_;unfold Builtin.SmallTypes.ownedTupleIsFree;refine aL (kG hz rfl (x:=.none) rfl (bz ?_));simp only[b9];refine aL (kH (aL (kG hz rfl (x:=.ref TO) rfl (aL (xJ hz (by simp) λg1 z1 s1=>?_)))))
 replace z1:IsZip g1 z TI TO .ellipsis:=z1;refine aL ?_;simp only[List.zipIdx_cons,List.zipIdx_nil,zc,vm];refine aL (aL (Dc ?_));show wpAny _ _ (Builtin.SmallTypes.nextOf (.ref i1) >>= _) _ _ _;refine aL (HE (h1.ex s1.extBut d3) (hl1.ex s1.extBut Eh) hx λg2 y1 s2=>bz ?_);have t2:IsPair g2 TO p q:=s2.extBut _ _ d8 (s1.extBut _ _ d2 hTO);refine aL (tL t2 rfl (aL (wpAny_updateSeq_pair t2 λg3 t3 s3=>?_)))
 replace t3:IsPair g3 TO x q:=t3;refine aL (wpAny_letGo (bz (aL (aL (Dc ?_)))));show wpAny _ _ (Builtin.SmallTypes.nextOf (.ref i2) >>= _) _ _ _;refine aL (HE (((h2.ex s1.extBut d4).ex s2.extBut (eT AG)).ex s3.extBut (eT d9)) (((hl2.ex s1.extBut HF).ex s2.extBut HH).ex s3.extBut HG) hy λg4 y2 s4=>bz ?_);have t4:IsPair g4 TO x q:=s4.extBut _ _ d9 t3;refine aL (tL t4 rfl (aL (wpAny_updateSeq_pair t4 λg5 t5 s5=>?_)))
 replace t5:IsPair g5 TO x y:=t5;refine aL (wpAny_letGo (bz (bz (aL (tL t5 rfl (aL (wpAny_newTuple ?_)))))));have hsz:g5.objs.size=s.heap.objs.size:=by rw[s5.1,s4.1,s3.1,s2.1,s1.1]
 have z5:IsZip g5 z TI TO .ellipsis:=s5.extBut _ _ (eT d2) (s4.extBut _ _ (eT d4) (s3.extBut _ _ (eT d2) (s2.extBut _ _ (eT d3) z1)));have k5:∀c o,c≠z->c≠TO->c≠i1->c≠i2->s.heap.get? c=aC o->g5.get? c=aC o:=λc o c1 c2 c3 c4 e=>s5.extBut _ _ c2 (s4.extBut _ _ c4 (s3.extBut _ _ c2 (s2.extBut _ _ c3 (s1.extBut _ _ c1 e))));have Vf:ZI b g5 i1 l1 (k+1):=((y1.ex s3.extBut (eT d8)).ex s4.extBut AG).ex s5.extBut (eT d8);have Vg:ZI c g5 i2 l2 (k+1):=y2.ex s5.extBut (eT d9);have Ei:z<g5.objs.size:=cD z5;show wpAny _ _ (Builtin.SmallTypes.ownedTupleHandOut (.ref z) (.ref g5.objs.size) >>= _) _ _ _;refine aL ?_;unfold Builtin.SmallTypes.ownedTupleHandOut;have z6:IsZip (g5.push {cls:=.type "tuple",data:=.seq #[x,y]}) z TI TO .ellipsis:=ck _ z5;refine aL (xJ z6 (by simp) λg7 z7 s7=>?_)
 replace z7:IsZip g7 z TI TO (rawInt g5.objs.size):=z7;refine xJ z7 (by simp) λg8 z8 s8=>?_
 replace z8:IsZip g8 z TI TO (rawInt g5.objs.size):=z8;have up:∀c o,c≠z->g5.get? c=aC o->g8.get? c=aC o:=λc o c1 e=>s8.extBut _ _ c1 (s7.extBut _ _ c1 (ck _ e));have p8:IsPair g8 g5.objs.size x y:=s8.extBut _ _ (nt Ei) (s7.extBut _ _ (nt Ei) (iF _ rfl));have n8:g8.objs.size=g5.objs.size+1:=by rw[s8.1,s7.1,jC]
 rw[hsz]at z8 p8 n8;refine bz ⟨_,rfl,?_⟩;show Q (.ref g5.objs.size) _;rw[hsz];exact hQ g8 z8 (up _ _ d2 t5) (Vf.mv λo e=>up _ o d3 e) (Vg.mv λo e=>up _ o d4 e) p8 n8 λc o c1 c2 c3 c4 e=>up c o c1 (k5 c o c1 c2 c3 c4 e)
theorem Vh{b c:Bool}{z TI TO i1 i2 l1 l2:ah}{k:Nat}{xs ys:Array aa}{p q:aa}{Q:Fin->af->Prop}(hA:A.handled=aD)(D:ZA z TI TO i1 i2 l1 l2)
 (hz:IsZip s.heap z TI TO .none) (hTI:IsPair s.heap TI (.ref i1) (.ref i2)) (hTO:IsPair s.heap TO p q)
 (h1:ZI b s.heap i1 l1 k) (h2:ZI c s.heap i2 l2 k) (hl1:ZS b s.heap l1 xs) (hl2:ZS c s.heap l2 ys) (he:xs[k]?=aD\/ys[k]?=aD)
 (hE:∀h' e,(∀c o,c≠z->c≠TO->c≠i1->c≠i2->s.heap.get? c=aC o->h'.get? c=aC o)->(∃o,h'.get? e=aC o/\o.cls=.type "StopIteration")->E (.ref e) {s with heap:=h'}) :
 wpAny (model prog w) A (Builtin.«zip.__next__» ⟨[.ref z],[]⟩) Q E s:=by
 obtain⟨⟨d1,d2,d3,d4⟩,⟨d5,d6,d7,d8,d9,AG⟩,⟨Eh,Vb,Vc,Vd⟩,HF,HG,HH,Ve⟩:=D;show wpAny _ _ (field (.ref z) 2 >>= _) _ _ _;refine aL (kG hz rfl (x:=.bool false) rfl ?_);show wpAny _ _ (field (.ref z) 3 >>= _) _ _ _;refine aL (kG hz rfl (x:=.ref TI) rfl (aL (tL hTI rfl ?_)));show wpAny _ _ (Builtin.SmallTypes.ownedTupleIsFree (.ref z) >>= _) _ _ _;refine aL ?_;unfold Builtin.SmallTypes.ownedTupleIsFree;refine aL (kG hz rfl (x:=.none) rfl (bz ?_));simp only[b9];refine aL (kH (aL (kG hz rfl (x:=.ref TO) rfl (aL (xJ hz (by simp) λg1 z1 s1=>?_)))))
 replace z1:IsZip g1 z TI TO .ellipsis:=z1;refine aL ?_;simp only[List.zipIdx_cons,List.zipIdx_nil,zc,vm];refine aL (aL (Dc ?_));show wpAny _ _ (Builtin.SmallTypes.nextOf (.ref i1) >>= _) _ _ _;cases hx:xs[k]? with
 |none=>
  refine aL (z_end hA (h1.ex s1.extBut d3) (hl1.ex s1.extBut Eh) hx λg2 e s2 hs=>?_);obtain⟨oe,vY,hce⟩:=hs;have z2:IsZip g2 z TI TO .ellipsis:=s2 _ _ (eT d3) z1;have HJ:e≠z:=λx=>by subst x;rw[z2]at vY;cases vY;simp at hce
  exact xJ z2 (by simp) λg3 _ s3=>hE g3 e (λc o c1 _ c3 _ x=>s3.extBut _ _ c1 (s2 _ _ c3 (s1.extBut _ _ c1 x))) ⟨oe,s3.extBut _ _ HJ vY,hce⟩
 |some x=>
  have hy:ys[k]?=aD:=by rcases he with h|h;rw[hx]at h;cases h;exact h
  refine aL (HE (h1.ex s1.extBut d3) (hl1.ex s1.extBut Eh) hx λg2 y1 s2=>bz ?_);have t2:IsPair g2 TO p q:=s2.extBut _ _ d8 (s1.extBut _ _ d2 hTO);refine aL (tL t2 rfl (aL (wpAny_updateSeq_pair t2 λg3 t3 s3=>?_)));refine aL (wpAny_letGo (bz (aL (aL (Dc ?_)))));show wpAny _ _ (Builtin.SmallTypes.nextOf (.ref i2) >>= _) _ _ _;refine aL (z_end hA (((h2.ex s1.extBut d4).ex s2.extBut (eT AG)).ex s3.extBut (eT d9)) (((hl2.ex s1.extBut HF).ex s2.extBut HH).ex s3.extBut HG) hy λg4 e s4 hs=>?_);obtain⟨oe,vY,hce⟩:=hs;have z4:IsZip g4 z TI TO .ellipsis:=s4 _ _ (eT d4) (s3.extBut _ _ (eT d2) (s2.extBut _ _ (eT d3) z1));have HJ:e≠z:=λx=>by subst x;rw[z4]at vY;cases vY;simp at hce
  exact xJ z4 (by simp) λg5 _ s5=>hE g5 e (λc o c1 c2 c3 c4 x=>s5.extBut _ _ c1 (s4 _ _ c4 (s3.extBut _ _ c2 (s2.extBut _ _ c3 (s1.extBut _ _ c1 x))))) ⟨oe,s5.extBut _ _ HJ vY,hce⟩
theorem Vi{b c:Bool}{z TI TO i1 i2 l1 l2:ah}{k:Nat}{xs ys:Array aa}{x y p q:aa}{Q:Option aa->af->Prop}(D:ZA z TI TO i1 i2 l1 l2)
 (hz:IsZip s.heap z TI TO .none) (hTI:IsPair s.heap TI (.ref i1) (.ref i2)) (hTO:IsPair s.heap TO p q)
 (h1:ZI b s.heap i1 l1 k) (h2:ZI c s.heap i2 l2 k) (hl1:ZS b s.heap l1 xs) (hl2:ZS c s.heap l2 ys) (hx:xs[k]?=aC x) (hy:ys[k]?=aC y)
 (hQ:∀h',IsZip h' z TI TO (rawInt s.heap.objs.size)->IsPair h' TO x y->ZI b h' i1 l1 (k+1)->ZI c h' i2 l2 (k+1)->IsPair h' s.heap.objs.size x y->h'.objs.size=s.heap.objs.size+1->
   (∀c o,c≠z->c≠TO->c≠i1->c≠i2->s.heap.get? c=aC o->h'.get? c=aC o)->Q (aC (.ref s.heap.objs.size)) {s with heap:=h'}):wpAny (model prog w) A (pyNext (.ref z)) Q E s:=by
 have hT:s.TypeIs (.ref z) "zip":=⟨_,hz,rfl⟩
 unfold pyNext;exact aL (wpAny_attempt (xH (name:=Str.ofString "__next__") hT DF (u7 DF hT F.entry_zip_next (Va D hz hTI hTO h1 h2 hl1 hl2 hx hy λh' a1 a2 a3 a4 a5 a6 a7=>bz (hQ h' a1 a2 a3 a4 a5 a6 a7)) (F.args_zip_next_1 _))))
theorem Vj{b c:Bool}{z TI TO i1 i2 l1 l2:ah}{k:Nat}{xs ys:Array aa}{p q:aa}{Q:Option aa->af->Prop}(hA:A.in1.handled=aD)(D:ZA z TI TO i1 i2 l1 l2)
 (hz:IsZip s.heap z TI TO .none) (hTI:IsPair s.heap TI (.ref i1) (.ref i2)) (hTO:IsPair s.heap TO p q)
 (h1:ZI b s.heap i1 l1 k) (h2:ZI c s.heap i2 l2 k) (hl1:ZS b s.heap l1 xs) (hl2:ZS c s.heap l2 ys) (he:xs[k]?=aD\/ys[k]?=aD)
 (hQ:∀h',(∀c o,c≠z->c≠TO->c≠i1->c≠i2->s.heap.get? c=aC o->h'.get? c=aC o)->Q aD {s with heap:=h'}):wpAny (model prog w) A (pyNext (.ref z)) Q E s:=by
 have hT:s.TypeIs (.ref z) "zip":=⟨_,hz,rfl⟩
 unfold pyNext;refine aL (wpAny_attempt (xH (name:=Str.ofString "__next__") hT DF (u7 DF hT F.entry_zip_next (Vh hA D hz hTI hTO h1 h2 hl1 hl2 he λh' e hk hs=>?_) (F.args_zip_next_1 _))));obtain⟨o,ho,hc⟩:=hs;exact aL (wpAny_isInstance (T:="StopIteration") (b:=true) ⟨o,ho,hc⟩ isSubtype_stop (bz (hQ _ hk)))
noncomputable def Ej(h:aA)(b:Bool)(l1:ah):aA:=h.push (Eg b l1)
noncomputable def AH(h:aA)(b c:Bool)(l1 l2:ah):aA:=(Ej h b l1).push (Eg c l2)
noncomputable def AI(h:aA)(b c:Bool)(l1 l2:ah):aA:=(AH h b c l1 l2).push {cls:=.type "tuple",data:=.seq #[.ref h.objs.size,.ref (Ej h b l1).objs.size]}
noncomputable def AJ(h:aA)(b c:Bool)(l1 l2:ah):aA:=(AI h b c l1 l2).push {cls:=.type "tuple",data:=.seq #[.none,.none]}
noncomputable def ud(h:aA)(b c:Bool)(l1 l2:ah):aA:=(AJ h b c l1 l2).push {cls:=.type "zip",data:=.fields #[.none,.bool false,.bool false,.ref (AH h b c l1 l2).objs.size,.ref (AI h b c l1 l2).objs.size]}
theorem Vk(b c:Bool)(l1 l2:ah)(xs ys:Array aa):Meets (Builtin.«zip.__new__» ⟨[.type "zip",.ref l1,.ref l2],[]⟩) (λ_ R s=>ZS b s.heap l1 xs/\ZS c s.heap l2 ys/\
 R (.ok (.ret (.ref (AJ s.heap b c l1 l2).objs.size))) {s with heap:=ud s.heap b c l1 l2}):=
 .of_wp λprog w A R s h=>by
  obtain⟨hp,g,d,tk,os⟩:=s;obtain⟨m1,m2,h⟩:=h;have hsub:=sub_zip;have e1:ZS b (Shared.heap ⟨hp,g,d,tk,os⟩) l1 xs:=m1;have e2:ZS c (Shared.heap ⟨hp.push (Eg b l1),g,d,tk,os⟩) l2 ys:=m2.push _;cases b<;>cases c;have q1:Heap.IsList (Shared.heap ⟨hp,g,d,tk,os⟩) l1 xs:=e1;have q2:Heap.IsList (Shared.heap ⟨hp.push {cls:=.type "list_iterator",data:=.fields #[.ref l1,.int 0 0]},g,d,tk,os⟩) l2 ys:=e2
  wp_walk using xK q1,xK q2;exact⟨_,rfl,h⟩;have q1:Heap.IsList (Shared.heap ⟨hp,g,d,tk,os⟩) l1 xs:=e1;have q2:Heap.IsTuple (Shared.heap ⟨hp.push {cls:=.type "list_iterator",data:=.fields #[.ref l1,.int 0 0]},g,d,tk,os⟩) l2 ys:=e2
  wp_walk using xK q1,u6 q2;exact⟨_,rfl,h⟩;have q1:Heap.IsTuple (Shared.heap ⟨hp,g,d,tk,os⟩) l1 xs:=e1;have q2:Heap.IsList (Shared.heap ⟨hp.push {cls:=.type "tuple_iterator",data:=.fields #[.ref l1,.int 0 0]},g,d,tk,os⟩) l2 ys:=e2
  wp_walk using u6 q1,xK q2;exact⟨_,rfl,h⟩;have q1:Heap.IsTuple (Shared.heap ⟨hp,g,d,tk,os⟩) l1 xs:=e1;have q2:Heap.IsTuple (Shared.heap ⟨hp.push {cls:=.type "tuple_iterator",data:=.fields #[.ref l1,.int 0 0]},g,d,tk,os⟩) l2 ys:=e2
  wp_walk using u6 q1,u6 q2;exact⟨_,rfl,h⟩
theorem NN{b:Bool}{h:aA}{l:ah}{a:ah}(e:h.get? a=aC (Eg b l)):ZI b h a l 0:=by cases b<;>exact⟨_,e,rfl,rfl⟩
theorem Vl{b c:Bool}{l1 l2:ah}{xs ys:Array aa}{Q:aa->af->Prop}(m1:ZS b s.heap l1 xs)(m2:ZS c s.heap l2 ys)
 (h:∀h',IsZip h' (s.heap.objs.size+4) (s.heap.objs.size+2) (s.heap.objs.size+3) .none->IsPair h' (s.heap.objs.size+2) (.ref s.heap.objs.size) (.ref (s.heap.objs.size+1))->
   IsPair h' (s.heap.objs.size+3) .none .none->ZI b h' s.heap.objs.size l1 0->ZI c h' (s.heap.objs.size+1) l2 0->h'.objs.size=s.heap.objs.size+5->
   (∀c o,s.heap.get? c=aC o->h'.get? c=aC o)->Q (.ref (s.heap.objs.size+4)) {s with heap:=h'}):wpAny (model prog w) A (call (.type "zip") [.ref l1,.ref l2]) Q E s:=by
 refine callType_new F.called_zip (by decide) (F.typeCall_zip_2 _ _) (F.newCall_zip_2 _ _) (λobj=>F.args_object_init_3 obj _ _) F.entry_zip_new (Vk b c l1 l2 xs ys) ⟨m1,m2,?_⟩;have n1:(Ej s.heap b l1).objs.size=s.heap.objs.size+1:=jC ..;have n2:(AH s.heap b c l1 l2).objs.size=s.heap.objs.size+2:=by unfold AH;rw[jC,n1]
 have n3:(AI s.heap b c l1 l2).objs.size=s.heap.objs.size+3:=by unfold AI;rw[jC,n2]
 have n4:(AJ s.heap b c l1 l2).objs.size=s.heap.objs.size+4:=by unfold AJ;rw[jC,n3]
 have n5:(ud s.heap b c l1 l2).objs.size=s.heap.objs.size+5:=by unfold ud;rw[jC,n4]
 have g5:(ud s.heap b c l1 l2).get? (AJ s.heap b c l1 l2).objs.size=aC _:=iF _ rfl;have g4:(ud s.heap b c l1 l2).get? (AI s.heap b c l1 l2).objs.size=aC _:=ck _ (iF _ rfl);have g3:(ud s.heap b c l1 l2).get? (AH s.heap b c l1 l2).objs.size=aC _:=ck _ (ck _ (iF _ rfl));have g2:(ud s.heap b c l1 l2).get? (Ej s.heap b l1).objs.size=aC _:=ck _ (ck _ (ck _ (iF _ rfl)));have g1:(ud s.heap b c l1 l2).get? s.heap.objs.size=aC _:=ck _ (ck _ (ck _ (ck _ (iF _ rfl))));show _/\_;rw[n2,n3,n4]at g5;rw[n1,n2]at g3;rw[n3]at g4;rw[n1]at g2;rw[n4];exact⟨⟨_,g5,rfl⟩,h _ g5 g3 g4 (NN g1) (NN g2) n5 λc o x=>ck _ (ck _ (ck _ (ck _ (ck _ x))))⟩
end
noncomputable def mG(b:Bool)(K:aI)(H:Hp)(a:ah)(xs:List V):Prop:=match b with|true=>bW K H a xs|false=>cz K H a xs
theorem yi{b:Bool}{X:Cx}{pins:List (ah×Obj)}{σ:St}{H:Hp}{s:af}{a:ah}{xs:List V}(I:Inv X pins σ H s)(h:mG b X.K H a xs):∃its:List aa,Vals xs its/\ZS b s.heap a its.toArray/\xs.length<=sizeLine:=by cases b;obtain⟨its,r,p,z⟩:=I.list h;exact⟨its,r,p.isList,z⟩;exact I.tuple h
theorem NO{b:Bool}{X:Cx}{pins:List (ah×Obj)}{σ:St}{H:Hp}{s:af}{a:ah}{xs ys:List V}(I:Inv X pins σ H s)(h:mG b X.K H a xs)(h':mG b X.K H a ys):xs=ys:=by cases b;exact I.jG h h';exact I.gz h h'
noncomputable def vZ(K:aI)(b c:Bool)(a1 a2:ah):It:=
 ⟨λi H=>∃xs ys x y,mG b K H a1 xs/\mG c K H a2 ys/\xs[i]?=aC x/\ys[i]?=aC y,
  λi H v H'=>∃T x y,v=.ref T/\H T=aD/\H'=upd H T (.tup [x,y])/\(∀xs,mG b K H a1 xs->xs[i]?=aC x)/\∀ys,mG c K H a2 ys->ys[i]?=aC y,
  λi H=>∃xs ys,mG b K H a1 xs/\mG c K H a2 ys/\(xs.length<=i\/ys.length<=i)⟩
theorem Inv.rA{X:Cx}{pins:List (ah×Obj)}{σ:St}{H:Hp}{s:af}{h2:aA}{t':Nat}{fp:List ah}(I:Inv X pins σ H s)(hf:∀b∈fp,dO X pins H b)(kk:∀b o,b∉fp->s.heap.get? b=aC o->h2.get? b=aC o) :
 Inv X pins σ H {s with heap:=h2,toks:=t'}:=by
 have f0:=λb hb=>(hf b hb).1;have nE:∀b o,H b=aC o->b∉fp:=λb o q z=>by rw[f0 b z]at q;cases q
 refine I.step (g':=s.gens) (d':=s.drawn) (ch:=fp) (λb hb=>?_) (λb o _ _ hc e1 _=>kk b o hc e1) (λb o _ _ hc e1 _=>⟨o.slots,kk b o hc e1⟩) (λ_ _ _ _ n=>n) (λb o hc e1=>⟨o,kk b o hc e1⟩)
  (λ_ _ q=>q) (λ_ _ _ q=>q) (λb ps q=>⟨#[],by rw[q];simp⟩) (λm hm=>?_) (λb ob q=>?_) I.bare
 obtain⟨_,a1,a2,a3,a4,a5⟩:=hf b hb;exact⟨a3,a1,a4,a5⟩;obtain⟨o,es,ep,ho',r⟩:=hm;exact⟨o,es,ep,kk _ o (λz=>(hf _ z).2.1 rfl) ho',r⟩;refine(I.hok b ob q).stay (λc v hc z=>kk c v ?_ z) (λ_ z=>z) λ_ _ z=>z;rcases hc with rfl|hc;exact nE c ob q;exact nE c _ hc
theorem Inv.rD{X:Cx}{pins:List (ah×Obj)}{σ:St}{H:Hp}{s:af}{h2:aA}{fp:List ah}{xs:List V}{us:List aa}(I:Inv X pins σ H s)(hf:∀b∈fp,dO X pins H b)(kk:∀b o,b∉fp->s.heap.get? b=aC o->h2.get? b=aC o)
 (hT:h2.get? s.heap.objs.size=aC {cls:=.type "tuple",data:=.seq us.toArray}) (hv:Vals xs us) (hz:xs.length<=sizeLine):Inv X pins σ (upd H s.heap.objs.size (.tup xs)) {s with heap:=h2}:=by
 have lB:H s.heap.objs.size=aD:=I.hok.fresh (aQ _);have f0:=λb hb=>(hf b hb).1;have nE:∀b o,H b=aC o->b∉fp:=λb o q z=>by rw[f0 b z]at q;cases q
 refine I.step (g':=s.gens) (d':=s.drawn) (ch:=fp) (λb hb=>?_) (λb o _ _ hc e1 _=>kk b o hc e1) (λb o _ _ hc e1 _=>⟨o.slots,kk b o hc e1⟩) (λb o hc e1 n=>by rw[bU (fP (cD e1))];exact n) (λb o hc e1=>⟨o,kk b o hc e1⟩)
  (λb ys q=>by rw[bU (gV q lB)];exact q) (λb o u q=>by rw[bU (gV q lB)];exact q) (λb ps q=>⟨#[],by rw[bU (gV q lB),q];simp⟩) (λm hm=>?_) (λb ob q=>?_) I.bare
 obtain⟨_,a1,a2,a3,a4,a5⟩:=hf b hb;exact⟨a3,a1,a4,a5⟩;obtain⟨o,es,ep,ho',r⟩:=hm;exact⟨o,es,ep,kk _ o (λz=>(hf _ z).2.1 rfl) ho',r⟩;by_cases hb:b=s.heap.objs.size;subst hb;rw[ie]at q;cases q;exact⟨hz,us,hv,⟨_,hT,rfl,⟨_,rfl⟩,rfl⟩⟩;rw[bU hb]at q;refine(I.hok b ob q).stay (λc v hc z=>kk c v ?_ z) (λc z=>by rw[bU (gV z lB)];exact z) λc ys z=>by rw[bU (gV z lB)];exact z
 rcases hc with rfl|hc;exact nE c ob q;exact nE c _ hc
theorem Vm{P:ai}{w:ak}{K:aI}{elts:List aq}{kx:Nat}{tp:Pos}{b c:Bool}(a1 a2 z TI TO i1 i2:ah)(D:ZA z TI TO i1 i2 a1 a2) :
 Turn P w K (.Tuple elts kx tp) (vZ K b c a1 a2) [z,TI,TO,i1,i2] z (λi h=>IsZip h z TI TO .none/\IsPair h TI (.ref i1) (.ref i2)/\(∃p q,IsPair h TO p q)/\ZI b h i1 a1 i/\ZI c h i2 a2 i)where
 mem:=by simp
 obj:=λi h st d hd=>by
  obtain⟨hz,hTI,⟨p,q,hTO⟩,h1,h2⟩:=st;simp only[gy,Dr,or_false]at hd;rcases hd with rfl|rfl|rfl|rfl|rfl;exact⟨_,hz,λv z=>by
   have z':Data.fields _=Data.cell v:=z;cases z'⟩
  exact⟨_,hTI,λv z=>by
   have z':Data.seq _ _=Data.cell v:=z;cases z'⟩
  exact⟨_,hTO,λv z=>by
   have z':Data.seq _ _=Data.cell v:=z;cases z'⟩
  exact h1.ob;exact h2.ob
 keep:=λi h h' st k=>by
  obtain⟨hz,hTI,⟨p,q,hTO⟩,h1,h2⟩:=st;exact⟨k z (by simp) _ hz,k TI (by simp) _ hTI,⟨p,q,k TO (by simp) _ hTO⟩,h1.mv λo e=>k i1 (by simp) o e,h2.mv λo e=>k i2 (by simp) o e⟩
 item:=by
  intro X hP hw hK hc i pins s σ H E I hf st hg;subst hP hw hK;obtain⟨xs,ys,x,y,q1,q2,hx,hy⟩:=hg;obtain⟨hz,hTI,⟨p,q,hTO⟩,h1,h2⟩:=st;obtain⟨its,rv,m1,_⟩:=yi I q1;obtain⟨NP,rw',m2,_⟩:=yi I q2;obtain⟨u,hu,ru⟩:=rv.get hx;obtain⟨v,hv,Vn⟩:=rw'.get hy;refine Vi D hz hTI hTO h1 h2 m1 m2 (x:=u) (y:=v) (by simpa using hu) (by simpa using hv) λg b1 b2 b3 b4 b5 b6 b7=>⟨_,rfl,wpAny_letOwnedTupleGo_zip b1 λg2 c1 c2=>?_⟩
  obtain⟨⟨d1,d2,d3,d4⟩,⟨d5,d6,d7,d8,d9,AG⟩,_,_⟩:=D;have c2:Heap.SameBut z g g2:=c2;have Ei:s.heap.objs.size≠z:=nt (cD hz);have kk:∀d o,d∉[z,TI,TO,i1,i2]->s.heap.get? d=aC o->g2.get? d=aC o:=λd o hd e=>(c2.2 d λx=>hd (by simp[x])).trans (b7 d o (λx=>hd (by simp[x])) (λx=>hd (by simp[x])) (λx=>hd (by simp[x])) (λx=>hd (by simp[x])) e);have hT:g2.get? s.heap.objs.size=aC {cls:=.type "tuple",data:=.seq [u,v].toArray}:=(c2.2 _ Ei).trans b5;have I2:=Inv.rD (xs:=[x,y]) I hf kk hT (.cons ru (.cons Vn .nil)) (by show 2<=sizeLine;decide);have lB:H s.heap.objs.size=aD:=I.hok.fresh (aQ _);refine⟨.ref s.heap.objs.size,_,I2,rfl,⟨_,x,y,rfl,lB,rfl,λzs hzs=>by rw[NO I hzs q1];exact hx,λzs hzs=>by rw[NO I hzs q2];exact hy⟩,
   ⟨c1,(c2.2 TI d1).trans (b7 TI _ d1 d5 d6 d7 hTI),⟨u,v,(c2.2 TO d2).trans b2⟩,b3.mv λo e=>(c2.2 i1 d3).trans e,b4.mv λo e=>(c2.2 i2 d4).trans e⟩,λd hd=>?_⟩
  rw[bU ?_];exact(hf d hd).1;intro e;obtain⟨o,ho⟩:∃o,s.heap.get? d=aC o:=by
   simp only[gy,Dr,or_false]at hd;rcases hd with rfl|rfl|rfl|rfl|rfl
   exact⟨_,hz⟩;exact⟨_,hTI⟩;exact⟨_,hTO⟩;exact let⟨o,h,_⟩:=h1.ob;⟨o,h⟩;exact let⟨o,h,_⟩:=h2.ob;⟨o,h⟩
  exact fP (cD ho) e
 done:=by intro X hP hw hK hc i pins s σ H E I hf st hg;subst hP hw hK;obtain⟨xs,ys,q1,q2,hl⟩:=hg;obtain⟨hz,hTI,⟨p,q,hTO⟩,h1,h2⟩:=st;obtain⟨its,rv,m1,_⟩:=yi I q1;obtain⟨NP,rw',m2,_⟩:=yi I q2;have l1:=rv.length;have l2:=rw'.length;exact Vj (I.ok.hd hc) D hz hTI hTO h1 h2 m1 m2 (hl.imp (λh=>by simp;lia) λh=>by simp;lia) λg hk=>⟨rfl,Inv.rA (t':=s.toks) I hf λd o hd e=>hk d o (λx=>hd (by simp[x])) (λx=>hd (by simp[x])) (λx=>hd (by simp[x])) (λx=>hd (by simp[x])) e⟩
 self:=λ_ _ _ _ _ st h=>wpAny_pyIter_zip st.1 h
theorem Vo{bs:List Bool}{its:List aa}(r:Vals (bs.map .bl) its)(i:Nat){v:aa}(h:its[i]?=aC v):∃b,bs[i]?=aC b/\v=.bool b:=by have hl:=r.length;rw[bA]at hl;obtain⟨hi,_⟩:=jD.mp h;have hb:bs[i]?=aC bs[i]:=eN (by lia);obtain⟨u,hu,ru⟩:=r.get (i:=i) (x:=.bl bs[i]) (by rw[gp,hb];rfl);rw[h]at hu;cases hu;exact⟨_,hb,ru⟩
theorem Vp(bs:List Bool):((List.range bs.length).all λi=>(bs[i]?).getD true)=bs.all id:=by rw[Bool.eq_iff_iff,nv,nv];refine⟨λh b hb=>?_,λh i hi=>?_⟩;obtain⟨i,hi,rfl⟩:=yZ hb;have:=h i (tU.mpr hi);rw[eN hi]at this;exact this;have hi':=tU.mp hi;rw[eN hi'];exact h _ (iG hi')
section
variable{X:Cx}
theorem Vq(hc:X.calm):bR X (.builtin "all") (λxs H Q=>∃(p:ah) (bs:List Bool),xs=[.ref p]/\cz X.K H p (bs.map .bl)/\Q (.bl (bs.all id)) H):=by
 intro pins s σ H xs us Q I r h;obtain⟨p,bs,rfl,hq,q⟩:=h;obtain⟨u,rfl,ru⟩:=vals1 r;cases ru;obtain⟨its,rv,pl,hz⟩:=I.list hq;have hL:s.heap.IsList p its.toArray:=pl.isList;have hlt:p<s.heap.objs.size:=by obtain⟨_,e,_⟩:=hL;exact cD e
 have hd:X.A.in1.handled=aD:=I.ok.hd hc;have hlen:its.toArray.size=bs.length:=by rw[cC,<-rv.length,bA]
 refine call_all_walk (xK hL ⟨s.heap.objs.size,[s.heap.objs.size,p],[s.heap.objs.size],its.toArray.size,_,_,λi=>(bs[i]?).getD true,rfl,Walks.list (A:=X.A.in1) hd _ p (fP hlt) its.toArray,?_,?_,?_⟩);exact⟨⟨_,iF _ rfl,rfl,rfl⟩,hL.push _⟩;intro i v s' Q' E' hP hQ;obtain⟨b,e,rfl⟩:=Vo rv i (by simpa using hP);simp only[e,zk]at hQ;exact qo hQ;intro h' tk hk;rw[hlen,Vp];refine⟨.bl (bs.all id),H,I.kept (t':=tk) λb o e=>hk b o (λhm=>?_) (ck _ e),rfl,q⟩;rw[pS.mp hm]at e;exact i8 _ (cD e)
end
noncomputable def ue(e tg iter:aq)(ifs:List aq)(it acc:aa)(env:Env)(emit:Sem Unit):Sem Fin:=do
 standAt iter.pos
 match <-pyNext it with
 |none=>pure (.done .next)
 |some v=>
  letOwnedTupleGo tg it v
  assign tg env v
  let ok <-yh ifs env
  if ok then emit
  again (.compLoop e 1 it acc env)
noncomputable def lG(elt:aq):aa->Env->Sem Unit:=λacc env=>do let _ <-call (.builtin "list.append") [acc,<-eval elt env]
noncomputable def jM(e aZ:aq):aa->Env->Sem Unit:=λacc env=>do
 let x <-eval aZ env
 standAt aZ.pos
 let x <-foldedSetIterable aZ env x
 let _ <-runOwn (.compStart e 1 (<-holding [x] (pyIter x)) acc env) env
section
variable{prog:ai}{w:ak}{A:ao}{R:Result->af->Prop}{s:af}{elt kP cG tg iter:aq}{fD ifs:List aq}{scope:az}{pos:Pos}{it acc:aa}{env:Env}
theorem Vr(I:Nat->af->Prop)
 (turn:∀n s,I n s->wpAny (model prog w) A (pyNext it) (λr s₁=>match r with
   |none=>R (.ok .next) s₁
   |some v=>wpAny (model prog w) A (letOwnedTupleGo tg it v) (λ_ s₀=>wpAny (model prog w) A (assign tg env v) (λ_ s₂=>
    wpAny (model prog w) A (yh ifs env) (λok s₃=>
     if ok=true then wpAny (model prog w) A (lG elt acc env) (λ_ s₅=>∃m,m<n/\I m s₅) gK s₃
     else ∃m,m<n/\I m s₃) gK s₂) gK s₀) gK s₁) gK s)
 (n:Nat) (h:I n s):codeAny (model prog w) A (.compLoop (.ListComp elt [⟨kP,cG,fD,0⟩,⟨tg,iter,ifs,0⟩] scope pos) 1 it acc env) R s:=by
 refine codeAny_loop rfl I (λn s hI=>?_) n h;rw[show(model prog w).den (.compLoop (.ListComp elt [⟨kP,cG,fD,0⟩,⟨tg,iter,ifs,0⟩] scope pos) 1 it acc env)=(ue (.ListComp elt [⟨kP,cG,fD,0⟩,⟨tg,iter,ifs,0⟩] scope pos) tg iter ifs it acc env (lG elt acc env)).onRaise (λx=>do noteFrame x env;theTreesLotGoes x)from rfl,
  show A.under (.compLoop (.ListComp elt [⟨kP,cG,fD,0⟩,⟨tg,iter,ifs,0⟩] scope pos) 1 it acc env)=A from rfl]
 refine wpAny_noted (GZ ?_);unfold ue;refine aL (nq (aL (gf (turn n s hI) (λr s₁ h₁=>?_) λ_ _ z=>z)));cases r with
 |none=>exact bz h₁
 |some v=>
  refine aL (gf h₁ (λ_ s₀ h₀=>?_) λ_ _ z=>z);refine aL (gf h₀ (λ_ s₂ h₂=>aL (gf h₂ (λok s₃ h₃=>?_) λ_ _ z=>z)) λ_ _ z=>z);cases ok with
  |true=>
   simp only[b9]at h₃ ⊢;exact aL (gf h₃ (λ_ s₅ h₅=>bz ⟨rfl,h₅⟩) λ_ _ z=>z)
  |false=>
   simp only[dS,dB]at h₃ ⊢;exact bz ⟨rfl,h₃⟩
theorem Vs(h0:codeAny (model prog w) A (.compLoop (.ListComp elt [⟨kP,cG,fD,0⟩,⟨tg,iter,ifs,0⟩] scope pos) 1 it acc env) R s)
 (h:wpAny (model prog w) A (pyIter it) (λj s'=>codeAny (model prog w) A (.compLoop (.ListComp elt [⟨kP,cG,fD,0⟩,⟨tg,iter,ifs,0⟩] scope pos) 1 j acc env) R s') (notedBy (model prog w) A env λx s'=>R (.error x) s') s) :
 codeAny (model prog w) A (.compStart (.ListComp elt [⟨kP,cG,fD,0⟩,⟨tg,iter,ifs,0⟩] scope pos) 1 it acc env) R s:=by
 refine codeAny_of_tree ?_;rw[show(model prog w).den (.compStart (.ListComp elt [⟨kP,cG,fD,0⟩,⟨tg,iter,ifs,0⟩] scope pos) 1 it acc env)=(compStart (.ListComp elt [⟨kP,cG,fD,0⟩,⟨tg,iter,ifs,0⟩] scope pos) 1 it acc env).onRaise (λx=>do noteFrame x env;standAt theWindowsPlace)from rfl,
  show A.under (.compStart (.ListComp elt [⟨kP,cG,fD,0⟩,⟨tg,iter,ifs,0⟩] scope pos) 1 it acc env)=A from rfl]
 refine wpAny_notedAt ?_;unfold compStart;rw[show(clausesOf (.ListComp elt [⟨kP,cG,fD,0⟩,⟨tg,iter,ifs,0⟩] scope pos))=[⟨kP,cG,fD,0⟩,⟨tg,iter,ifs,0⟩]from rfl];show wpAny _ _ (ask >>= _) _ _ s;refine aL (wpAny_askSetting (xM ?_));split;first
  |exact aL (bz (bz (And.intro rfl h0)))
  |exact bz (And.intro rfl h0)
 first
  |exact aL (kH (aL (nq (aL (gf h (λj s' h'=>bz ⟨rfl,h'⟩) λ_ _ z=>z)))))
  |(refine aL (kH ?_);show wpAny _ _ (standAt iter.pos >>= _) _ _ s;exact aL (nq (aL (gf h (λj s' h'=>bz ⟨rfl,h'⟩) λ_ _ z=>z))))
end
section
variable{X:Cx}{elt kP cG tg iter:aq}{fD ifs:List aq}{scope:az}{pos:Pos}{wi:TI}{g:TG}{tc:TT}{te:TE}
noncomputable def HK(te:TE)(D:ah):TM:=λσ H Q=>te σ H λy H1=>∃ys,H1 D=aC (.lst ys)/\ys.length<sizeLine/\Q σ (upd H1 D (.lst (ys++[y])))
theorem Vt(he:PE X elt te)(D:ah):PM X (lG elt (.ref D) X.env) (HK te D):=by intro pins s σ H Q I h;unfold lG;refine aL (aU (he pins s σ H _ I h) λy s1 z9=>z9.el λvy H1 I1 ry bV=>?_);obtain⟨ys,hD,hz,q⟩:=bV;refine aL (aU (GL _ s1 σ H1 (.ref D) [vy] (.ref D) [y] (λv H'=>H'=upd H1 D (.lst (ys++[vy]))) I1 rfl (.cons ry .nil) ⟨_,ys,vy,rfl,rfl,hD,hz,rfl⟩) λ_ s2 bV=>?_);obtain⟨v2,H2,I2,_,e2⟩:=bV;subst e2;exact bz ⟨σ,_,I2,q⟩
noncomputable def NQ(wi:TI)(g:TG)(tc:TT)(tm:TM):TM:=λσ H Q=>wi σ H λJ H1=>∃W:Nat->Nat->St->Hp->Prop,(∃m,W 0 m σ H1)/\∀i m σ' H',W i m σ' H'->
 ((J.stop i H'/\Q σ' H')\/(J.go i H'/\∀x H2,J.vG i H' x H2->g x σ' H2 λσ2 H3=>tc σ2 H3 λb H4=>
   if b=true then tm σ2 H4 λkj H5=>∃m',m'<m/\W (i+1) m' kj H5
   else ∃m',m'<m/\W (i+1) m' σ2 H4))
theorem NR(hc:X.calm)(hx:X.xe=gK)(hi:PI X tg iter wi)(hg:PG X tg g)(ht:iP X ifs tc)(he:PE X elt te)(hs:∀x,foldedSetIterable iter X.env x=pure x)(D:ah) :
 PM X (jM (.ListComp elt [⟨kP,cG,fD,0⟩,⟨tg,iter,ifs,0⟩] scope pos) iter (.ref D) X.env) (NQ wi g tc (HK te D)):=by
 intro pins s σ H Q I h;unfold jM;have q1:=hi pins s σ H _ I h;rw[hx]at q1 ⊢;refine aL (aU q1 λv s1 h1=>aL (nq ?_));rw[hs];refine aL (bz (aL (nF (aU h1 λitv s2 h2=>?_))));obtain⟨it,fp,tn,J,H2,e,I2,T,st2,f2,W,⟨m0,w0⟩,turn⟩:=h2;subst e;have kN:∀{H':Hp},(∀b∈fp,H' b=aD)->∀b∈fp,dO X pins H' b:=λhn b hb=>⟨hn b hb,(f2 b hb).2⟩
 have loop:codeAny (model X.prog X.w) X.A (.compLoop (.ListComp elt [⟨kP,cG,fD,0⟩,⟨tg,iter,ifs,0⟩] scope pos) 1 (.ref it) (.ref D) X.env)
  (λr s'=>match r with|.ok f=>wpAny (model X.prog X.w) X.A (pure ()) (λ(_:Unit) s'=>∃σ' H',Inv X pins σ' H' s'/\Q σ' H') gK s'|.error e=>cameBackBy (model X.prog X.w) X.A X.env gK e s') s2:=by
  refine Vr (λn s'=>∃i σ' H',Inv X pins σ' H' s'/\tn i s'.heap/\(∀b∈fp,H' b=aD)/\W i n σ' H') ?_ m0 ⟨0,σ,H2,I2,st2,λb hb=>(f2 b hb).1,w0⟩;rintro n s3 ⟨i,σ3,H3,I3,st3,zQ,w3⟩;rcases turn i n σ3 H3 w3 with⟨stop,qn⟩|⟨go,step⟩
  .refine aU (T.done X rfl rfl rfl hc i pins s3 σ3 H3 gK I3 (kN zQ) st3 stop) λr s4 bV=>?_
   obtain⟨hr,I4⟩:=bV;subst hr;exact bz ⟨σ3,H3,I4,qn⟩
  refine aU (T.item X rfl rfl rfl hc i pins s3 σ3 H3 gK I3 (kN zQ) st3 go) λr s4 bV=>?_;obtain⟨u,hr,h4⟩:=bV;subst hr;refine aU h4 λ_ s5 bV=>?_;obtain⟨x,H5,I5,r5,y5,mq,qP⟩:=bV;have Gw:=I5.pinned (kN qP) (T.obj _ _ mq);have again:∀{ki:St}{H7:Hp}{s7:af}{m':Nat},Inv X (pins++vH fp s5.heap) ki H7 s7->m'<n->W (i+1) m' ki H7->∃m,m<n/\∃i σ' H',Inv X pins σ' H' s7/\tn i s7.heap/\(∀b∈fp,H' b=aD)/\W i m σ' H':=λ{ki H7 s7 m'} I7 hm w7=>by
   refine⟨m',hm,i+1,ki,H7,I7.cY,T.keep _ _ _ mq λb hb o e=>(I7.pin (b,o) (g6 _ (g6 _ (tY hb e)))).1,λb hb=>?_,w7⟩;obtain⟨o,e,d⟩:=T.obj _ _ mq b hb;exact(I7.pin (b,o) (g6 _ (g6 _ (tY hb e)))).2.1
  have q6:=hg _ s5 σ3 H5 x u _ Gw r5 (step x H5 y5);rw[hx]at q6;refine aU q6 λ_ s6 bV=>?_;obtain⟨jw,H6,I6,q6⟩:=bV;have q7:=ht _ s6 jw H6 _ I6 q6;rw[hx]at q7;refine aU q7 λok s7 z9=>z9.el λH7 I7 q7=>?_;cases ok with
  |false=>
   simp only[dS,dB]at q7 ⊢;obtain⟨m',hm,w7⟩:=q7;exact again I7 hm w7
  |true=>
   simp only[b9]at q7 ⊢;have q8:=Vt he D _ s7 jw H7 _ I7 q7;rw[hx]at q8;exact aU q8 λ_ s8 ⟨jK,H8,I8,m',hm,w8⟩=>again I8 hm w8
 exact aL (wpAny_runOwn (Vs loop (T.self _ 0 _ _ _ st2 loop)))
theorem Vu{aZ gA:aq}{cV:List aq}(it acc:aa)(env:Env):compTurn (.ListComp elt [⟨tg,iter,ifs,0⟩,⟨gA,aZ,cV,0⟩] scope pos) 0 it acc env=jL (.ListComp elt [⟨tg,iter,ifs,0⟩,⟨gA,aZ,cV,0⟩] scope pos) tg iter ifs it acc env (jM (.ListComp elt [⟨tg,iter,ifs,0⟩,⟨gA,aZ,cV,0⟩] scope pos) aZ acc env):=by
 unfold compTurn jL jM;simp only[nu,Dl,ve,bne_self_eq_false,dS,dB,reduceIte];congr 1;funext _;congr 1;funext r;cases r with
 |none=>rfl
 |some v=>
  dsimp only;congr 1;funext _;congr 1;funext _;congr 1;funext ok;cases ok;rfl;simp only[b9];simp only[LawfulMonad.bind_assoc,qA]
theorem NS{P:ai}{w:ak}{aZ gA:aq}{cV:List aq}:lF P w (.ListComp elt [⟨tg,iter,ifs,0⟩,⟨gA,aZ,cV,0⟩] scope pos) tg iter ifs (jM (.ListComp elt [⟨tg,iter,ifs,0⟩,⟨gA,aZ,cV,0⟩] scope pos) aZ) (newList []) {cls:=.type "list",dict:=aD,data:=.seq ([]:List aa).toArray} (.lst [])where
 cl:=⟨_,rfl⟩
 turn:=Vu
 dl:=λ_ _ _=>rfl
 ds:=λ_ _ _=>rfl
 al:=λ_ _ _ _=>rfl
 as:=λ_ _ _ _=>rfl
 new:=λA s Q E q=>tK q
 ok:=λH h hb=>⟨gh _,[],0,.nil,iF _ rfl⟩
end
noncomputable def HL{α:Type}:List α->List α|[]=>[]|[x]=>[x]|x::_::r=>x::HL r
theorem NT:∀{ls:List Int} {us:List aa},Vals (ls.map .int) us->IntsAre us ls|[],_,.nil=>.nil|x::r,_,.cons ⟨t,e⟩ h=>by subst e;exact .cons x t (NT h)
end L2
namespace KO
open PySem PySem.W PyProof.Rows
variable{r:Nat->Int}
noncomputable def J(r:Nat->Int)(p:Array Nat)(i:Nat):Int:=r ((p[i]?).getD 0)
theorem AK(p:Array Nat)(i:Nat):r (p.getD i 0)=J r p i:=by rw[xW];rfl
theorem uf{p q:Array Nat}{i j:Nat}(h:p[i]?=q[j]?):J r p i=J r q j:=by unfold J;rw[h]
theorem NU{p:Array Nat}{src d:Nat}(hs:src<p.size)(hd:d<=src)(k:Nat) :
 J r (bubble p src d) k=if k=src-d then J r p src else if src-d<k/\k<=src then J r p (k-1)else J r p k:=by
 have e:=getElem?_bubble hs d hd k;by_cases h1:k=src-d;rw[if_pos h1]at e ⊢;exact uf e;rw[if_neg h1]at e ⊢;by_cases h2:src-d<k/\k<=src;rw[if_pos h2]at e ⊢;exact uf e;rw[if_neg h2]at e ⊢;exact uf e
end KO
namespace KO
open PySem PySem.W PyProof.Rows
variable{r:Nat->Int}
variable{n:Nat}
end KO
namespace TS
open PySem PySem.W PyProof.Rows KO
structure Cp(prog:ai)(w:ak)(A:ao)(s:af)(κ:SortKind)(f:Nat->Keyed)(r:Nat->Int)(N:Nat):Prop where
 lt:∀(i j:Nat)(C:Bool->af->Prop),i<N->j<N->C (decide (r i<r j)) s->wpAny (model prog w) A (keyLt' κ (f i).1 (f j).1) C (λ_ _=>False) s
 inj:∀i j,i<N->j<N->r i=r j->i=j
noncomputable def St(κ:SortKind)(f:Nat->Keyed)(p:Array Nat)(pd:Array (Nat×Nat×Nat))(g:Nat):SortSt:=SortSt.mk' κ (p.map f) pd g aD
structure Pm(N:Nat)(p:Array Nat):Prop where
 z:p.size=N
 b:∀x∈p,x<N
 nd:p.toList.Nodup
theorem Pm.perm{N:Nat}{p q:Array Nat}(h:Pm N p)(e:q.Perm p):Pm N q:=
 ⟨by rw[e.size_eq];exact h.z,λx hx=>h.b x (e.mem_iff.mp hx),(Array.perm_iff_toList_perm.mp e).nodup_iff.mpr h.nd⟩
theorem Pm.lt{N:Nat}{p:Array Nat}(h:Pm N p){i:Nat}(hi:i<N):p.getD i 0<N:=by rw[xW,pV (by rw[h.z];exact hi)];exact h.b _ (Array.getElem_mem _)
theorem Pm.ne{N:Nat}{p:Array Nat}(h:Pm N p){i j:Nat}(hi:i<j)(hj:j<N):p.getD i 0≠p.getD j 0:=by
 have zi:i<p.size:=by rw[h.z];lia
 have zj:j<p.size:=by rw[h.z];exact hj
 rw[xW,xW,pV zi,pV zj];exact vc.mp h.nd i j (by simpa using zi) (by simpa using zj) hi
noncomputable def Ri(r:Nat->Int)(p:Array Nat)(a b:Nat):Prop:=∀i j,a<=i->i<=j->j<b->J r p i<=J r p j
noncomputable def Fa(r:Nat->Int)(p:Array Nat)(a b:Nat):Prop:=∀i j,a<=i->i<j->j<b->J r p j<J r p i
noncomputable def Ou(p q:Array Nat)(a b:Nat):Prop:=∀k,k<a\/b<=k->q[k]?=p[k]?
theorem Ou.refl{p:Array Nat}{a b:Nat}:Ou p p a b:=λ_ _=>rfl
theorem Ou.trans{p q u:Array Nat}{a b:Nat}(x:Ou p q a b)(y:Ou q u a b):Ou p u a b:=λk hk=>(y k hk).trans (x k hk)
theorem Ou.mono{p q:Array Nat}{a b a' b':Nat}(x:Ou p q a b)(h1:a'<=a)(h2:b<=b'):Ou p q a' b':=λk hk=>x k (by lia)
theorem Ri.out{r:Nat->Int}{p q:Array Nat}{a b c d:Nat}(h:Ri r p c d)(o:Ou p q a b)(hd:d<=a\/b<=c):Ri r q c d:=λi j h1 h2 h3=>by
 rw[uf (o i (by lia)),uf (o j (by lia))];exact h i j h1 h2 h3
theorem Ri.one{r:Nat->Int}{p:Array Nat}{a:Nat}:Ri r p a (a+1):=λi j h1 h2 h3=>by
 have:i=j:=by lia
 subst this;exact xV _
theorem Ri.succ{r:Nat->Int}{p:Array Nat}{a b:Nat}(h:Ri r p a b)(hb:a<b)(e:J r p (b-1)<=J r p b):Ri r p a (b+1):=λi j h1 h2 h3=>by
 by_cases x:j<b;exact h i j h1 h2 x;have:j=b:=by lia
 subst this;by_cases y:i=j;subst y;exact xV _;exact kc (h i (j-1) h1 (by lia) (by lia)) e
theorem Fa.succ{r:Nat->Int}{p:Array Nat}{a b:Nat}(h:Fa r p a b)(hb:a<b)(e:J r p b<J r p (b-1)):Fa r p a (b+1):=λi j h1 h2 h3=>by
 by_cases x:j<b;exact h i j h1 h2 x;have:j=b:=by lia
 subst this;by_cases y:i=j-1;subst y;exact e;exact Int.lt_trans e (h i (j-1) h1 (by lia) (by lia))
theorem ug{r:Nat->Int}{p:Array Nat}{i j:Nat}(hj:j<=p.size)(k:Nat):J r (mirror p i j ((j-i)/2)) k=if i<=k/\k<j then J r p (i+j-1-k)else J r p k:=by have e:=getElem?_mirror_all (i:=i) hj k;by_cases h1:i<=k/\k<j;rw[if_pos h1]at e ⊢;exact uf e;rw[if_neg h1]at e ⊢;exact uf e
theorem Vv{p:Array Nat}{i j:Nat}(hj:j<=p.size):Ou p (mirror p i j ((j-i)/2)) i j:=λk hk=>by
 rw[getElem?_mirror_all hj,if_neg (by lia)]
theorem Fa.Vw{r:Nat->Int}{p:Array Nat}{a b:Nat}(h:Fa r p a b)(hb:b<=p.size):Ri r (mirror p a b ((b-a)/2)) a b:=λi j h1 h2 h3=>by
 rw[ug hb,ug hb,if_pos ⟨h1,by lia⟩,if_pos ⟨by lia,h3⟩];by_cases e:i=j;subst e;exact xV _;exact nN (h _ _ (by lia) (by lia) (by lia))
theorem Vx{p:Array Nat}{src d:Nat}(hs:src<p.size)(hd:d<=src):Ou p (bubble p src d) (src-d) (src+1):=λk hk=>by
 rw[getElem?_bubble hs d hd,if_neg (by lia),if_neg (by lia)]
theorem Vy{r:Nat->Int}{p:Array Nat}{a k l:Nat}(hk:k<p.size)(h1:a<=l)(hl:l<=k)(hs:Ri r p a k)(lo:∀i,a<=i->i<l->J r p i<=J r p k)(hi:∀i,l<=i->i<k->J r p k<J r p i):Ri r (bubble p k (k-l)) a (k+1):=by
 intro i j ha hij hj;rw[NU hk (by lia),NU hk (by lia),show k- (k-l)=l by lia]
 repeat' split
 all_goals first
  |(exfalso;lia)
  |exact xV _
  |exact lo _ (by lia) (by lia)
  |exact nN (hi _ (by lia) (by lia))
  |exact hs _ _ (by lia) (by lia) (by lia)
section
variable{prog:ai}{w:ak}{A:ao}{E:aa->af->Prop}{s:af}{κ:SortKind}{f:Nat->Keyed}{r:Nat->Int}{N:Nat}
theorem jN(c:Cp prog w A s κ f r N){x y:Nat}(hx:x<N)(hy:y<N){st:SortSt}{Q:Option Bool->SortSt->Prop}(hk:kindOf st=κ)(h:Q (aC (decide (r x<r y))) st):wpS (model prog w) A E s (lt' (f x) (f y)) Q st:=by rw[lt'_eq];refine aX (nM ?_);rw[hk];refine aX (vq (wpAny_attempt (gf (c.lt x y (λb s'=>s'=s/\b=decide (r x<r y)) hx hy ⟨rfl,rfl⟩) (λb s' hb=>?_) λ_ _ e=>e.elim)));obtain⟨rfl,rfl⟩:=hb;exact⟨rfl,bw h⟩
theorem NV{p:Array Nat}{i:Nat}(hi:i<p.size):(p.map f)[i]?=aC (f (p.getD i 0)):=by rw[Array.getElem?_map,xW,pV hi];rfl
theorem iQ(c:Cp prog w A s κ f r N){p:Array Nat}{pd:Array (Nat×Nat×Nat)}{g:Nat}(P:Pm N p){i j:Nat}(hi:i<N)(hj:j<N){Q:Option Bool->SortSt->Prop}(h:Q (aC (decide (J r p i<J r p j))) (St κ f p pd g)):wpS (model prog w) A E s (ltAt' i j) Q (St κ f p pd g):=by rw[ltAt'_eq];refine aX (nM ?_);show wpS _ _ _ _ (do let x <-elem' (p.map f) i;let y <-elem' (p.map f) j;lt' x y) Q _;rw[elem'_eq,elem'_eq,NV (by rw[P.z];exact hi),NV (by rw[P.z];exact hj)];refine aX (bw (aX (bw (jN c (P.lt hi) (P.lt hj) rfl ?_))));rw[AK (r:=r),AK (r:=r)];exact h
theorem Vz{p:Array Nat}{pd:Array (Nat×Nat×Nat)}{g i j:Nat}{Q:Unit->SortSt->Prop}(h:Q () (St κ f (mirror p i j ((j-i)/2)) pd g)):wpS (model prog w) A E s (reverseSlice' i j) Q (St κ f p pd g):=by rw[reverseSlice'_eq];refine xT ?_;have e:mirror (p.map f) i j ((j-i)/2)=(mirror p i j ((j-i)/2)).map f:=kas_swaps_map f (λk=>i+k) (λk=>j-1-k) _ p;show Q _ (SortSt.mk' κ (mirror (p.map f) i j ((j-i)/2)) pd g aD);rw[e];exact h
theorem VA{p:Array Nat}{pd:Array (Nat×Nat×Nat)}{g k l:Nat}{Q:Unit->SortSt->Prop}(h:Q () (St κ f (bubble p k (k-l)) pd g)):wpS (model prog w) A E s (moveDown' k l) Q (St κ f p pd g):=by rw[moveDown'_eq];refine xT ?_;have e:bubble (p.map f) k (k-l)=(bubble p k (k-l)).map f:=kas_swaps_map f (λi=>k-i) (λi=>k-i-1) _ p;show Q _ (SortSt.mk' κ (bubble (p.map f) k (k-l)) pd g aD);rw[e];exact h
theorem Pm.rk(c:Cp prog w A s κ f r N){p:Array Nat}(P:Pm N p){i j:Nat}(hi:i<j)(hj:j<N):J r p i≠J r p j:=λe=>by
 rw[<-AK (r:=r),<-AK (r:=r)]at e;exact P.ne hi hj (c.inj _ _ (P.lt (by lia)) (P.lt hj) e)
theorem VB(c:Cp prog w A s κ f r N){p:Array Nat}{pd:Array (Nat×Nat×Nat)}{g lo m:Nat}(P:Pm N p)(h1:1<=m)(hm:lo+m<=N){Q:Option Nat->SortSt->Prop}
 (h:∀n q,1<=n->n<=m->q.Perm p->Ou p q lo (lo+m)->Ri r q lo (lo+n)->Q (aC n) (St κ f q pd g)):wpS (model prog w) A E s (countRun' lo m) Q (St κ f p pd g):=by
 have zp:=P.z;rw[countRun'_eq];refine aX (jF (jE (I:=λx d st'=>st'=St κ f p pd g/\d=(aD,x)/\Ri r p lo (lo+x))
  (Q:=λd st'=>st'=St κ f p pd g/\∃n,d=(aD,n)/\1<=n/\n<=m/\Ri r p lo (lo+n)/\(n<m->J r p (lo+n)<J r p (lo+n-1))) ?step ?fin ⟨rfl,rfl,Ri.one⟩) ?post)
 case fin=>
  rintro d st' ⟨rfl,rfl,hs⟩;rw[show max 1 m=m by lia]at hs ⊢;exact⟨rfl,m,rfl,h1,aQ _,hs,λz=>absurd z (i8 _)⟩
 case step=>
  rintro x d st' hx NW ⟨rfl,rfl,hs⟩;dsimp only;refine aX (iQ c P (by lia) (by lia) ?_);by_cases q:J r p (lo+x)<J r p (lo+x-1);rw[kE q];exact bw ⟨rfl,x,rfl,hx,by lia,hs,λ_=>q⟩;rw[iE q];exact bw ⟨rfl,rfl,hs.succ (by lia) (pU.mp q)⟩
 case post=>
  rintro d st' ⟨rfl,n,rfl,n1,nm,hs,hor⟩;dsimp only;by_cases e:n=m;rw[if_pos (by simpa using e)];exact bw (h n p n1 nm (xX _) .refl hs)
  .rw[if_neg (by simpa using e)]
   have hd:=hor (by lia);by_cases e2:n>1;rw[if_pos e2];refine aX (iQ c P (by lia) (by lia) ?_);have a1:=hs lo (lo+n-1) (aQ _) (by lia) (by lia);have a2:=P.rk c (i:=lo) (j:=lo+n-1) (by lia) (by lia);rw[kE (by lia)];exact bw (h n p n1 nm (xX _) .refl hs)
   .rw[if_neg e2]
    obtain rfl:n=1:=by lia
    refine aX (vq (kH ⟨rfl,?_⟩));have f0:Fa r p lo (lo+1):=λi j x y z=>by lia
    refine aX (jF (jE (I:=λx d st'=>st'=St κ f p pd g/\d=(aD,x,0)/\Fa r p lo (lo+x))
     (Q:=λd st'=>st'=St κ f p pd g/\∃n,d=(aD,n,0)/\1<=n/\n<=m/\Fa r p lo (lo+n)) ?AL ?HM ⟨rfl,rfl,f0.succ (by lia) hd⟩) ?dpost)
    case HM=>
     rintro d st' ⟨rfl,rfl,hs⟩;rw[show max (1+1) m=m by lia]at hs ⊢;exact⟨rfl,m,rfl,h1,aQ _,hs⟩
    case AL=>
     rintro x d st' hx NW ⟨rfl,rfl,hs⟩;dsimp only;refine aX (iQ c P (by lia) (by lia) ?_);by_cases q:J r p (lo+x)<J r p (lo+x-1);rw[kE q];exact bw ⟨rfl,rfl,hs.succ (by lia) q⟩;rw[iE q];refine aX (iQ c P (by lia) (by lia) ?_);have a2:=P.rk c (i:=lo+x-1) (j:=lo+x) (by lia) (by lia);rw[kE (by lia)];exact bw ⟨rfl,x,rfl,by lia,by lia,hs⟩
    case dpost=>
     rintro d st' ⟨rfl,n,rfl,n1,nm,hs⟩;dsimp only;rw[if_neg (i8 0)];refine aX (Vz ?_);have hz:lo+n<=p.size:=by lia
     have P':=P.perm (mirror_perm p lo (lo+n) ((lo+n-lo)/2));have hr:=hs.Vw hz;have ho:Ou p (mirror p lo (lo+n) ((lo+n-lo)/2)) lo (lo+m):=(Vv hz).mono (aQ _) (by lia);have hp:=mirror_perm p lo (lo+n) ((lo+n-lo)/2);generalize mirror p lo (lo+n) ((lo+n-lo)/2)=q at P' hr ho hp;refine aX (jF (jE (I:=λx d st'=>st'=St κ f q pd g/\d=(aD,x)/\Ri r q lo (lo+x))
      (Q:=λd st'=>st'=St κ f q pd g/\∃n,d=(aD,n)/\1<=n/\n<=m/\Ri r q lo (lo+n)) ?AM ?HN ⟨rfl,rfl,hr⟩) ?AN)
     case HN=>
      rintro d st' ⟨rfl,rfl,hs⟩;rw[show max n m=m by lia]at hs ⊢;exact⟨rfl,m,rfl,h1,aQ _,hs⟩
     case AM=>
      rintro x d st' hx NW ⟨rfl,rfl,hs⟩;dsimp only;refine aX (iQ c P' (by lia) (by lia) ?_);by_cases y:J r q (lo+x)<J r q (lo+x-1);rw[kE y];exact bw ⟨rfl,x,rfl,by lia,by lia,hs⟩;rw[iE y];exact bw ⟨rfl,rfl,hs.succ (by lia) (pU.mp y)⟩
     case AN=>
      rintro d st' ⟨rfl,n',rfl,n1,nm,hs⟩;exact bw (h n' q n1 nm hp ho hs)
theorem VC(c:Cp prog w A s κ f r N){p:Array Nat}{pd:Array (Nat×Nat×Nat)}{g lo n ok:Nat}(P:Pm N p)(h1:1<=ok)(hn:ok<=n)(hm:lo+n<=N)(hs:Ri r p lo (lo+ok)){Q:Bool->SortSt->Prop}
 (h:∀q,q.Perm p->Ou p q lo (lo+n)->Ri r q lo (lo+n)->Q true (St κ f q pd g)):wpS (model prog w) A E s (binarySort' lo n ok) Q (St κ f p pd g):=by
 rw[binarySort'_eq];refine aX (jF (jE (I:=λk d st'=>d=(aD,())/\∃q,st'=St κ f q pd g/\q.Perm p/\Ou p q lo (lo+n)/\Ri r q lo (lo+k))
  (Q:=λd st'=>d=(aD,())/\∃q,st'=St κ f q pd g/\q.Perm p/\Ou p q lo (lo+n)/\Ri r q lo (lo+n)) ?step ?fin ⟨rfl,p,rfl,xX _,.refl,by rw[show max ok 1=ok by lia];exact hs⟩) ?post)
 case post=>
  rintro d st' ⟨rfl,q,rfl,h2,h3,h4⟩;exact bw (h q h2 h3 h4)
 case fin=>
  rintro d st' ⟨hc,q,rfl,h2,h3,h4⟩;rw[show max (max ok 1) n=n by lia]at h4;exact⟨hc,q,rfl,h2,h3,h4⟩
 case step=>
  rintro k d st' hk hkn ⟨rfl,q,rfl,h2,h3,h4⟩;have P':=P.perm h2;have zq:=P'.z;refine aX (jF (jE (I:=λx d st'=>st'=St κ f q pd g/\∃l h,d=(aD,l,h)/\l<=h/\h<=k/\h-l<=k-x/\(∀i,lo<=i->i<lo+l->J r q i<=J r q (lo+k))/\(∀i,lo+h<=i->i<lo+k->J r q (lo+k)<J r q i))
   (Q:=λd st'=>st'=St κ f q pd g/\∃l h,d=(aD,l,h)/\l<=k/\(∀i,lo<=i->i<lo+l->J r q i<=J r q (lo+k))/\(∀i,lo+l<=i->i<lo+k->J r q (lo+k)<J r q i)) ?jO ?nZ ⟨rfl,0,k,rfl,gh _,aQ _,by lia,λi a b=>by lia,λi a b=>by lia⟩) ?jP)
  case nZ=>
   rintro d st' ⟨rfl,l,h,rfl,a,b,e,h5,h6⟩;obtain rfl:l=h:=by lia
   exact⟨rfl,l,l,rfl,b,h5,h6⟩
  case jO=>
   rintro x d st' _ hxk ⟨rfl,l,h,rfl,a,b,e,h5,h6⟩;dsimp only;by_cases ge:l>=h;rw[if_pos ge];obtain rfl:l=h:=by lia
   exact bw ⟨rfl,l,l,rfl,b,h5,h6⟩;rw[if_neg ge];refine aX (iQ c P' (by lia) (by lia) ?_);by_cases y:J r q (lo+k)<J r q (lo+ (l+h)/2);simp only[y,C7,b9];exact bw ⟨rfl,l,(l+h)/2,rfl,by lia,by lia,by lia,h5,λi z1 z2=>Int.lt_of_lt_of_le y (h4 _ _ (by lia) z1 z2)⟩;simp only[y,decide_false,dS,dB];exact bw ⟨rfl,(l+h)/2+1,h,rfl,by lia,by lia,by lia,λi z1 z2=>kc (h4 i (lo+ (l+h)/2) z1 (by lia) (by lia)) (pU.mp y),h6⟩
  case jP=>
   rintro d st' ⟨rfl,l,h,rfl,a,h5,h6⟩;show wpS _ _ _ _ (do moveDown' (lo+k) (lo+l);pure (ForInStep.yield (aD,()))) _ _;refine aX (VA (bw ⟨rfl,_,rfl,(bubble_perm _ _ _).trans h2,h3.trans ((Vx (by lia) (by lia)).mono (by lia) (by lia)),?_⟩));rw[show lo+ (k+1)=lo+k+1 by lia];exact Vy (by lia) (by lia) (by lia) h4 h5 h6
end
end TS
namespace TS
open PySem PySem.W PyProof.Rows KO
noncomputable def jg:Bool->Keyed->Array Keyed->Nat->Nat->Nat->StateT SortSt Sem (Option Nat):=sortPriv% PySem.Builtin.gallop
noncomputable def rE(past:Nat->StateT SortSt Sem (Option Bool))(n u0 v0:Nat):StateT SortSt Sem (Option Nat):=do
 let mut u:=u0
 let mut v:=v0
 for _ in [0:n] do
  if u>=v then break
  let md:=u+ (v-u)/2
  let aC mr <-past md|return aD
  if mr then u:=md+1 else v:=md
 return aC v
noncomputable def v8(past:Nat->StateT SortSt Sem (Option Bool))(n hn:Nat):StateT SortSt Sem (Option Nat):=do
 let mut lst:=0
 let mut off:=1
 let aC yes <-past hn|return aD
 if yes then
  let top:=n-hn
  for _ in [0:n] do
   if off>=top then break
   let aC mr <-past (hn+off)|return aD
   if !mr then break
   lst:=off
   off:=2*off+1
  rE past n (hn+lst+1) (hn+min off top)
 else
  let top:=hn+1
  for _ in [0:n] do
   if off>=top then break
   let aC fd <-past (hn-off)|return aD
   if fd then break
   lst:=off
   off:=2*off+1
  rE past n (hn+1-min off top) (hn-lst)
theorem VD(lf:Bool)(x:Keyed)(a:Array Keyed)(bs n hn:Nat):jg lf x a bs n hn=v8 (λi=>do
 let y <-elem' a (bs+i)
 if lf then lt' y x else return (<-lt' x y).map (!·)) n hn:=rfl
section
variable{M:Model}{A:ao}{E:aa->af->Prop}{s:af}
theorem VE{past:Nat->StateT SortSt Sem (Option Bool)}{B:Nat->Bool}{n hn k:Nat}{st:SortSt}{Q:Option Nat->SortSt->Prop}(hp:∀(i:Nat) (Q:Option Bool->SortSt->Prop),i<n->Q (aC (B i)) st->wpS M A E s (past i) Q st)
 (hk:k<=n) (h1:∀i,i<k->B i) (h2:∀i,k<=i->i<n->B i=false) (hh:hn<n) (h:Q (aC k) st):wpS M A E s (v8 past n hn) Q st:=by
 have last:∀u v,u<=k->k<=v->v<=n->wpS M A E s (rE past n u v) Q st:=λu v hu hv hvn=>by
  unfold rE;refine aX (jF (jE (I:=λx d st'=>st'=st/\∃u v,d=(aD,u,v)/\u<=k/\k<=v/\v<=n/\v-u<=n-x)
   (Q:=λd st'=>st'=st/\∃u,d=(aD,u,k)) ?step ?fin ⟨rfl,u,v,rfl,hu,hv,hvn,by lia⟩) ?post)
  case fin=>
   rintro d st' ⟨rfl,u,v,rfl,a,b,e,g⟩;obtain rfl:v=k:=by lia
   exact⟨rfl,u,rfl⟩
  case step=>
   rintro x d st' _ hx ⟨rfl,u,v,rfl,a,b,e,g⟩;dsimp only;by_cases z:u>=v;rw[if_pos z];obtain rfl:v=k:=by lia
   exact bw ⟨rfl,u,rfl⟩;rw[if_neg z];refine aX (hp _ _ (by lia) ?_);by_cases y:u+ (v-u)/2<k;rw[h1 _ y];exact bw ⟨rfl,_,v,rfl,by lia,b,e,by lia⟩;rw[h2 _ (by lia) (by lia)];exact bw ⟨rfl,u,_,rfl,a,by lia,by lia,by lia⟩
  case post=>
   rintro d st' ⟨rfl,u,rfl⟩;exact bw h
 unfold v8;refine aX (hp _ _ hh ?_);by_cases y:hn<k
 .rw[h1 _ y]
  show wpS M A E s (if true=true then _ else _) Q st;rw[if_pos rfl];refine aX (jF (jE (I:=λx d st'=>st'=st/\∃l o,d=(aD,l,o)/\hn+l<k/\x+1<=o)
   (Q:=λd st'=>st'=st/\∃l o,d=(aD,l,o)/\hn+l<k/\(n-hn<=o\/k<=hn+o)) ?step ?fin ⟨rfl,0,1,rfl,y,aQ _⟩) ?post)
  case fin=>
   rintro d st' ⟨rfl,l,o,rfl,a,b⟩;exact⟨rfl,l,o,rfl,a,.inl (by lia)⟩
  case step=>
   rintro x d st' _ hx ⟨rfl,l,o,rfl,a,b⟩;dsimp only;by_cases z:o>=n-hn;rw[if_pos z];exact bw ⟨rfl,l,o,rfl,a,.inl z⟩;rw[if_neg z];refine aX (hp _ _ (by lia) ?_);by_cases q:hn+o<k;rw[h1 _ q];exact bw ⟨rfl,o,2*o+1,rfl,q,by lia⟩;rw[h2 _ (by lia) (by lia)];exact bw ⟨rfl,l,o,rfl,a,.inr (by lia)⟩
  case post=>
   rintro d st' ⟨rfl,l,o,rfl,a,b⟩;exact last (hn+l+1) (hn+min o (n-hn)) (by lia) (by lia) (by lia)
 .rw[h2 _ (by lia) hh]
  show wpS M A E s (if false=true then _ else _) Q st;rw[if_neg (by simp)];refine aX (jF (jE (I:=λx d st'=>st'=st/\∃l o,d=(aD,l,o)/\k+l<=hn/\x+1<=o)
   (Q:=λd st'=>st'=st/\∃l o,d=(aD,l,o)/\k+l<=hn/\(hn+1<=o\/hn<k+o)) ?AO ?dQ ⟨rfl,0,1,rfl,by lia,aQ _⟩) ?AQ)
  case dQ=>
   rintro d st' ⟨rfl,l,o,rfl,a,b⟩;exact⟨rfl,l,o,rfl,a,.inl (by lia)⟩
  case AO=>
   rintro x d st' _ hx ⟨rfl,l,o,rfl,a,b⟩;dsimp only;by_cases z:o>=hn+1;rw[if_pos z];exact bw ⟨rfl,l,o,rfl,a,.inl z⟩;rw[if_neg z];refine aX (hp _ _ (by lia) ?_);by_cases q:hn-o<k;rw[h1 _ q];exact bw ⟨rfl,l,o,rfl,a,.inr (by lia)⟩;rw[h2 _ (by lia) (by lia)];exact bw ⟨rfl,o,2*o+1,rfl,by lia,by lia⟩
  case AQ=>
   rintro d st' ⟨rfl,l,o,rfl,a,b⟩;exact last (hn+1-min o (hn+1)) (hn-l) (by lia) (by lia) (by lia)
end
end TS
namespace TS
open PySem PySem.W PyProof.Rows KO
noncomputable def ar(f:Nat->Keyed)(l:List Nat):Array Keyed:=(l.map f).toArray
noncomputable def So(r:Nat->Int)(l:List Nat):Prop:=l.Pairwise λa b=>r a<=r b
section
variable{f:Nat->Keyed}{r:Nat->Int}
theorem jQ{l:List Nat}:(ar f l).size=l.length:=by simp[ar]
theorem AR{l:List Nat}{i:Nat}(hi:i<l.length):(ar f l)[i]?=aC (f l[i]):=by simp[ar,hi]
theorem AS{l:List Nat}{x:Nat}:(ar f l).push (f x)=ar f (l++[x]):=by simp[ar]
theorem n6{l m:List Nat}:ar f l++ar f m=ar f (l++m):=by simp[ar]
theorem pY{l:List Nat}{i j:Nat}:(ar f l).extract i j=ar f ((l.drop i).take (j-i)):=by simp[ar,List.extract_eq_take_drop]
theorem HP{l:List Nat}:(ar f l).reverse=ar f l.reverse:=by simp[ar]
theorem So.at_{l:List Nat}(h:So r l){i j:Nat}(hij:i<=j)(hj:j<l.length):r (l[i]'(by lia))<=r l[j]:=by by_cases e:i=j;subst e;exact xV _;exact vc.mp h i j (by lia) hj (by lia)
theorem So.drop{l:List Nat}(h:So r l)(k:Nat):So r (l.drop k):=List.Pairwise.sublist (List.drop_sublist _ _) h
theorem So.take{l:List Nat}(h:So r l)(k:Nat):So r (l.take k):=List.Pairwise.sublist (List.take_sublist _ _) h
theorem yj{l:List Nat}{k x:Nat}(h:x∈l.drop k):∃j,∃hj:j<l.length,k<=j/\l[j]=x:=by obtain⟨i,hi,e⟩:=yZ h;rw[List.getElem_drop]at e;rw[kI]at hi;exact⟨k+i,by lia,by lia,e⟩
theorem Ek{l:List Nat}{k n x:Nat}(h:x∈(l.drop k).take n):∃j,∃hj:j<l.length,k<=j/\j<k+n/\l[j]=x:=by obtain⟨i,hi,e⟩:=yZ h;rw[List.getElem_take,List.getElem_drop]at e;rw[k7,kI]at hi;exact⟨k+i,by lia,by lia,by lia,e⟩
structure MI(r:Nat->Int)(la lb lo:List Nat)(ia ib:Nat):Prop where
 pm:(lo++(la.drop ia++lb.drop ib)).Perm (la++lb)
 so:So r lo
 le:∀x∈lo,(∀y∈la.drop ia,r x<=r y)/\∀y∈lb.drop ib,r x<=r y
 ln:lo.length=ia+ib
theorem AU{l:List Nat}{i k:Nat}:l.drop i=(l.drop i).take k++l.drop (i+k):=by rw[<-List.drop_drop,List.take_append_drop]
theorem MI.n9{la lb lo:List Nat}{ia ib k:Nat}(h:MI r la lb lo ia ib)(sb:So r lb)(hk:ib+k<=lb.length)(hl:∀j (hj:j<lb.length),ib<=j->j<ib+k->∀y∈la.drop ia,r lb[j]<=r y):MI r la lb (lo++(lb.drop ib).take k) ia (ib+k):=by
 refine⟨?_,?_,?_,?_⟩;refine List.Perm.trans ?_ h.pm;rw[j9];refine vcs lo ?_;have e:la.drop ia++lb.drop ib=la.drop ia++(lb.drop ib).take k++lb.drop (ib+k):=by rw[j9,<-AU]
 rw[e,<-j9];exact DC Dp (qz _);refine nJ.mpr ⟨h.so,(sb.drop ib).take k,λx hx y hy=>(h.le x hx).2 y (yY hy)⟩;intro x hx;rcases lZ.mp hx with hx|hx
 exact⟨(h.le x hx).1,λy hy=>(h.le x hx).2 y (by rw[AU (k:=k)];exact g6 _ hy)⟩;obtain⟨j,hj,h1,h2,rfl⟩:=Ek hx;refine⟨λy hy=>hl j hj h1 h2 y hy,λy hy=>?_⟩;obtain⟨i,hi,h3,rfl⟩:=yj hy;exact sb.at_ (by lia) hi;rw[eZ,h.ln,k7,kI];lia
theorem MI.bJ{la lb lo:List Nat}{ia ib k:Nat}(h:MI r la lb lo ia ib)(sa:So r la)(hk:ia+k<=la.length)(hl:∀j (hj:j<la.length),ia<=j->j<ia+k->∀y∈lb.drop ib,r la[j]<=r y):MI r la lb (lo++(la.drop ia).take k) (ia+k) ib:=by
 refine⟨?_,?_,?_,?_⟩;refine List.Perm.trans ?_ h.pm;rw[j9];refine vcs lo ?_;rw[<-j9,<-AU];refine nJ.mpr ⟨h.so,(sa.drop ia).take k,λx hx y hy=>(h.le x hx).1 y (yY hy)⟩;intro x hx;rcases lZ.mp hx with hx|hx
 exact⟨λy hy=>(h.le x hx).1 y (by rw[AU (k:=k)];exact g6 _ hy),(h.le x hx).2⟩;obtain⟨j,hj,h1,h2,rfl⟩:=Ek hx;refine⟨λy hy=>?_,λy hy=>hl j hj h1 h2 y hy⟩;obtain⟨i,hi,h3,rfl⟩:=yj hy;exact sa.at_ (by lia) hi;rw[eZ,h.ln,k7,kI];lia
theorem HQ{l:List Nat}{i:Nat}(hi:i<l.length):(l.drop i).take 1=[l[i]]:=by rw[tS hi];rfl
noncomputable def Mg(f:Nat->Keyed)(r:Nat->Int)(la lb:List Nat)(x:Array Keyed):Prop:=∃l,x=ar f l/\l.Perm (la++lb)/\So r l
theorem MI.done{la lb lo:List Nat}{ia ib:Nat}(h:MI r la lb lo ia ib)(sa:So r la)(hb:ib=lb.length):Mg f r la lb (ar f lo++(ar f la).extract ia (ar f la).size++(ar f lb).extract ib (ar f lb).size):=by subst hb;have e:(la.drop ia).take (la.length-ia)=la.drop ia:=List.take_of_length_le (by rw[kI];exact aQ _);refine⟨lo++la.drop ia,?_,?_,nJ.mpr ⟨h.so,sa.drop ia,λx hx y hy=>(h.le x hx).1 y hy⟩⟩;rw[jQ,jQ,pY,pY,n6,n6,e,Ds,List.take_nil,ny];have:=h.pm;rw[Ds,ny]at this;exact this
theorem MI.last{la lb lo:List Nat}{ia ib:Nat}(h:MI r la lb lo ia ib)(sb:So r lb)(ha:ia+1=la.length)(hl:∀x∈lb,r x<=r (la[ia]'(by lia))):Mg f r la lb (ar f lo++(ar f lb).extract ib (ar f lb).size++(ar f la).extract ia (ar f la).size):=by
 have e:(la.drop ia).take (la.length-ia)=la.drop ia:=List.take_of_length_le (by rw[kI];exact aQ _);have e2:(lb.drop ib).take (lb.length-ib)=lb.drop ib:=List.take_of_length_le (by rw[kI];exact aQ _);have e3:la.drop ia=[la[ia]'(by lia)]:=by rw[tS (by lia),show ia+1=la.length from ha,Ds]
 refine⟨lo++lb.drop ib++la.drop ia,?_,?_,?_⟩;rw[jQ,jQ,pY,pY,n6,n6,e,e2];refine List.Perm.trans ?_ h.pm;rw[j9];exact vcs lo Dp;refine nJ.mpr ⟨nJ.mpr ⟨h.so,sb.drop ib,λx hx y hy=>(h.le x hx).2 y hy⟩,HR e3,λx hx y hy=>?_⟩;rcases lZ.mp hx with hx|hx
 exact(h.le x hx).1 y hy;rw[e3]at hy;rw[pS.mp hy];exact hl x (List.mem_of_mem_drop hx)
where
 HR {l:List Nat} {x:Nat} (e:l=[x]):l.Pairwise (λa b=>r a<=r b):=by rw[e];exact List.pairwise_singleton ..
end
end TS
namespace TS
open PySem PySem.W PyProof.Rows KO
theorem NX{B:Nat->Bool}:∀n,(∀i j,i<=j->j<n->B j=true->B i=true)->∃k,k<=n/\(∀i,i<k->B i=true)/\∀i,k<=i->i<n->B i=false
 |0,_=>⟨0,aQ _,λi h=>by lia,λi _ h=>by lia⟩
 |n+1,m=>by
  cases e:B n with
  |true=>exact⟨n+1,aQ _,λi h=>m i n (by lia) (by lia) e,λi _ h=>by lia⟩
  |false=>
   obtain⟨k,a,b,c⟩:=NX (B:=B) n λi j x y z=>m i j x (by lia) z;refine⟨k,by lia,b,λi x y=>?_⟩;by_cases z:i=n;subst z;exact e;exact c i x (by lia)
noncomputable def setG:Nat->StateT SortSt Sem Unit:=sortPriv% PySem.Builtin.setMinGallop
section
variable{prog:ai}{w:ak}{A:ao}{E:aa->af->Prop}{s:af}{κ:SortKind}{f:Nat->Keyed}{r:Nat->Int}{N:Nat}
theorem bK{l:List Nat}{i:Nat}{st:SortSt}{Q:Keyed->SortSt->Prop}(hi:i<l.length)(h:Q (f l[i]) st):wpS (model prog w) A E s (elem' (ar f l) i) Q st:=by rw[elem'_eq,AR hi];exact bw h
theorem El{p:Array Nat}{pd:Array (Nat×Nat×Nat)}{g g':Nat}{Q:Unit->SortSt->Prop}(h:Q () (St κ f p pd g')):wpS (model prog w) A E s (setG g') Q (St κ f p pd g):=xT (f:=λs=>SortSt.mk' (kindOf s) (arrOf s) (pendingOf s) g' (failedOf s)) h
noncomputable def Bf(r:Nat->Int)(lf:Bool)(x:Nat)(l:List Nat)(bs i:Nat):Bool:=if lf then decide (r (l.getD (bs+i) 0)<r x)else !decide (r x<r (l.getD (bs+i) 0))
theorem oh{l:List Nat}{i:Nat}(hi:i<l.length):l.getD i 0=l[i]:=by rw[tQ,eN hi];rfl
theorem HS(c:Cp prog w A s κ f r N){l:List Nat}(bl:∀y∈l,y<N){x:Nat}(hx:x<N){lf:Bool}{bs n hn:Nat}(sl:∀i j,i<=j->j<n->r (l.getD (bs+i) 0)<=r (l.getD (bs+j) 0))(hb:bs+n<=l.length)(hh:hn<n){st:SortSt}(hk:kindOf st=κ){Q:Option Nat->SortSt->Prop}
 (h:∀k,k<=n->(∀i,i<k->Bf r lf x l bs i=true)->(∀i,k<=i->i<n->Bf r lf x l bs i=false)->Q (aC k) st):wpS (model prog w) A E s (jg lf (f x) (ar f l) bs n hn) Q st:=by
 obtain⟨k,k1,k2,k3⟩:=NX (B:=Bf r lf x l bs) n λi j a b e=>by
  have:=sl i j a b;unfold Bf at e ⊢;cases lf with
  |true=>
   simp only[b9,fL]at e ⊢;lia
  |false=>
   simp only[dS,dB,tP,u5]at e ⊢;lia
 rw[VD];refine VE (B:=Bf r lf x l bs) (λi Q hi hQ=>?_) k1 k2 k3 hh (h k k1 k2 k3);have hi':bs+i<l.length:=by lia
 refine aX (bK hi' ?_);unfold Bf at hQ;rw[oh hi']at hQ;have hy:l[bs+i]<N:=bl _ (iG _);cases lf with
 |true=>
  simp only[b9]at hQ ⊢;exact jN c hy hx hk hQ
 |false=>
  simp only[dS,dB]at hQ ⊢;exact aX (jN c hx hy hk (bw hQ))
theorem Em(c:Cp prog w A s κ f r N){l:List Nat}(bl:∀y∈l,y<N)(sl:So r l){x:Nat}(hx:x<N){lf:Bool}{bs n hn:Nat}(hb:bs+n<=l.length)(hh:hn<n){st:SortSt}(hk:kindOf st=κ){Q:Option Nat->SortSt->Prop}
 (h:∀k,k<=n->(∀i,i<k->Bf r lf x l bs i=true)->(∀i,k<=i->i<n->Bf r lf x l bs i=false)->Q (aC k) st):wpS (model prog w) A E s (jg lf (f x) (ar f l) bs n hn) Q st:=
 HS c bl hx (λi j a b=>by rw[oh (l:=l) (i:=bs+i) (by lia),oh (l:=l) (i:=bs+j) (by lia)];exact sl.at_ (by lia) (by lia)) hb hh hk h
end
noncomputable abbrev Arr:=Array Keyed
noncomputable abbrev SS:=StateT SortSt Sem
noncomputable abbrev rF:=Option Arr×Arr×Nat×Nat×Nat×Nat×Nat
noncomputable def fE(a b o:Arr)(i j:Nat):Arr:=o++a.extract i a.size++b.extract j b.size
noncomputable def oj(a b o:Arr)(i j:Nat):Arr:=o++b.extract j b.size++a.extract i a.size
noncomputable def Eo(a b o:Arr)(i j g ca cb:Nat):SS (ForInStep rF):=do
 let x <-elem' a i
 if(i+1+1==a.size)=true then pure (.done (aC (oj a b (o.push x) (i+1) j),o.push x,i+1,j,g,ca,cb))
 else if(decide (ca<7)&&decide (cb<7))=true then pure (.done (aD,o.push x,i+1,j,g,ca,cb))else pure (.yield (aD,o.push x,i+1,j,g,ca,cb))
noncomputable def Ep(a b o:Arr)(i j g ca cb:Nat):SS (ForInStep rF):=do
 let x <-elem' b j
 if(j+1==b.size)=true then pure (.done (aC (fE a b (o.push x) i (j+1)),o.push x,i,j+1,g,ca,cb))
 else do
  let y <-elem' a i
  let z <-jg true y b (j+1) (b.size- (j+1)) 0
  match z with
  |some k=>
   if k>0 then
    if(j+1+k==b.size)=true then pure (.done (aC (fE a b (o.push x++b.extract (j+1) (j+1+k)) i (j+1+k)),o.push x++b.extract (j+1) (j+1+k),i,j+1+k,g,ca,k))
    else Eo a b (o.push x++b.extract (j+1) (j+1+k)) i (j+1+k) g ca k
   else Eo a b (o.push x) i (j+1) g ca k
  |_=>pure (.done (aC (fE a b (o.push x) i (j+1)),o.push x,i,j+1,g,ca,cb))
noncomputable def Er(a b o:Arr)(i j g ca cb:Nat):SS (ForInStep rF):=do
 setG g
 let y <-elem' b j
 let z <-jg false y a i (a.size-i) 0
 match z with
 |some k=>
  if k>0 then
   if(i+k+1==a.size)=true then pure (.done (aC (oj a b (o++a.extract i (i+k)) (i+k) j),o++a.extract i (i+k),i+k,j,g,k,cb))
   else if(i+k==a.size)=true then pure (.done (aC (fE a b (o++a.extract i (i+k)) (i+k) j),o++a.extract i (i+k),i+k,j,g,k,cb))
   else Ep a b (o++a.extract i (i+k)) (i+k) j g k cb
  else Ep a b o i j g k cb
 |_=>pure (.done (aC (fE a b o i j),o,i,j,g,ca,cb))
noncomputable def NY(a b:Arr)(t:rF):SS (ForInStep rF):=if t.2.2.2.2.1>1 then Er a b t.2.1 t.2.2.1 t.2.2.2.1 (t.2.2.2.2.1-1) t.2.2.2.2.2.1 t.2.2.2.2.2.2 else Er a b t.2.1 t.2.2.1 t.2.2.2.1 t.2.2.2.2.1 t.2.2.2.2.2.1 t.2.2.2.2.2.2
noncomputable abbrev AV:=Option Arr×Arr×Nat×Nat×Nat×Nat
noncomputable def HU(a b:Arr)(g:Nat)(t:AV):SS (ForInStep AV):=do
 let x <-elem' b t.2.2.2.1
 let y <-elem' a t.2.2.1
 let z <-lt' x y
 match z with
 |some q=>
  if q=true then do
   let x <-elem' b t.2.2.2.1
   if(t.2.2.2.1+1==b.size)=true then pure (.done (aC (fE a b (t.2.1.push x) t.2.2.1 (t.2.2.2.1+1)),t.2.1.push x,t.2.2.1,t.2.2.2.1+1,0,t.2.2.2.2.2+1))
   else if t.2.2.2.2.2+1>=g then pure (.done (aD,t.2.1.push x,t.2.2.1,t.2.2.2.1+1,0,t.2.2.2.2.2+1))else pure (.yield (aD,t.2.1.push x,t.2.2.1,t.2.2.2.1+1,0,t.2.2.2.2.2+1))
  else do
   let x <-elem' a t.2.2.1
   if(t.2.2.1+1+1==a.size)=true then pure (.done (aC (oj a b (t.2.1.push x) (t.2.2.1+1) t.2.2.2.1),t.2.1.push x,t.2.2.1+1,t.2.2.2.1,t.2.2.2.2.1+1,0))
   else if t.2.2.2.2.1+1>=g then pure (.done (aD,t.2.1.push x,t.2.2.1+1,t.2.2.2.1,t.2.2.2.2.1+1,0))else pure (.yield (aD,t.2.1.push x,t.2.2.1+1,t.2.2.2.1,t.2.2.2.2.1+1,0))
 |_=>pure (.done (aC (fE a b t.2.1 t.2.2.1 t.2.2.2.1),t.2.1,t.2.2.1,t.2.2.2.1,t.2.2.2.2.1,t.2.2.2.2.2))
noncomputable abbrev HV:=Option Arr×Arr×Nat×Nat×Nat
noncomputable def NZ(a b:Arr)(t:HV):SS (ForInStep HV):=do
 let u <-forIn [0:a.size+b.size] ((aD,t.2.1,t.2.2.1,t.2.2.2.1,0,0):AV) λ_ u=>HU a b t.2.2.2.2 u
 match u.1 with
 |some x=>pure (.done (aC x,u.2.1,u.2.2.1,u.2.2.2.1,t.2.2.2.2))
 |none=>do
  rule "list.sort.gallop"
  let v <-forIn [0:a.size+b.size] ((aD,u.2.1,u.2.2.1,u.2.2.2.1,t.2.2.2.2+1,u.2.2.2.2.1,u.2.2.2.2.2):rF) λ_ v=>NY a b v
  match v.1 with
  |some x=>pure (.done (aC x,v.2.1,v.2.2.1,v.2.2.2.1,v.2.2.2.2.1))
  |none=>do
   setG (v.2.2.2.2.1+1)
   pure (.yield (aD,v.2.1,v.2.2.1,v.2.2.2.1,v.2.2.2.2.1+1))
noncomputable def v9(a b:Arr):SS Arr:=do
 rule "list.sort.merge-lo"
 let x <-elem' b 0
 if(1==b.size)=true then pure (fE a b #[x] 0 1)
 else if(0+1==a.size)=true then pure (oj a b #[x] 0 1)
 else do
  let z <-get
  let t <-forIn [0:a.size+b.size] ((aD,#[x],0,1,gallopOf z):HV) λ_ t=>NZ a b t
  match t.1 with|some x=>pure x|none=>unsupported "internal:list.sort.merge-bound"
end TS
namespace TS
open PySem PySem.W PyProof.Rows KO
section
variable{prog:ai}{w:ak}{A:ao}{E:aa->af->Prop}{s:af}{κ:SortKind}{f:Nat->Keyed}{r:Nat->Int}{N:Nat}
theorem MI.om{la lb lo:List Nat}{i j:Nat}(h:MI r la lb lo i j)(sa:So r la)(sb:So r lb)(hi:i<la.length)(hj:j<lb.length)(e:r lb[j]<=r la[i]):MI r la lb (lo++[lb[j]]) i (j+1):=by
 have:=h.n9 (k:=1) sb (by lia) λq hq h1 h2 y hy=>by
  obtain rfl:q=j:=by lia
  obtain⟨t,ht,h3,rfl⟩:=yj hy;exact kc e (sa.at_ h3 ht)
 rw[HQ hj]at this;exact this
theorem MI.uh{la lb lo:List Nat}{i j:Nat}(h:MI r la lb lo i j)(sa:So r la)(sb:So r lb)(hi:i<la.length)(hj:j<lb.length)(e:r la[i]<=r lb[j]):MI r la lb (lo++[la[i]]) (i+1) j:=by
 have:=h.bJ (k:=1) sa (by lia) λq hq h1 h2 y hy=>by
  obtain rfl:q=i:=by lia
  obtain⟨t,ht,h3,rfl⟩:=yj hy;exact kc e (sb.at_ h3 ht)
 rw[HQ hi]at this;exact this
structure Tw(N:Nat)(r:Nat->Int)(la lb:List Nat):Prop where
 ba:∀x∈la,x<N
 bb:∀x∈lb,x<N
 sa:So r la
 sb:So r lb
 na:0<la.length
 nb:0<lb.length
 h0:r lb[0]<=r la[0]
 hl:∀x∈lb,∀i (hi:i<la.length),i+1=la.length->r x<r la[i]
theorem Tw.done(T:Tw N r la lb){lo:List Nat}{i j:Nat}(m:MI r la lb lo i j)(e:(j==lb.length)):Mg f r la lb (fE (ar f la) (ar f lb) (ar f lo) i j):=m.done T.sa (by simpa using e)
theorem Tw.last(T:Tw N r la lb){lo:List Nat}{i j:Nat}(m:MI r la lb lo i j)(e:(i+1==la.length)):Mg f r la lb (oj (ar f la) (ar f lb) (ar f lo) i j):=m.last T.sb (by simpa using e) λx hx=>nN (T.hl x hx i _ (by simpa using e))
noncomputable def oq(f:Nat->Keyed)(r:Nat->Int)(la lb:List Nat)(o:Arr)(i j m:Nat):Prop:=∃lo,o=ar f lo/\MI r la lb lo i j/\i+1<la.length/\j<lb.length/\m<=i+j
variable{la lb:List Nat}{p:Array Nat}{pd:Array (Nat×Nat×Nat)}
theorem VF(c:Cp prog w A s κ f r N)(T:Tw N r la lb){g mg:Nat}{t:AV}{m:Nat}(I:oq f r la lb t.2.1 t.2.2.1 t.2.2.2.1 m){Q:ForInStep AV->SortSt->Prop}
 (h1:∀x u,Mg f r la lb x->Q (.done (aC x,u)) (St κ f p pd g)) (h2:∀o i j y z,oq f r la lb o i j (m+1)->Q (.done (aD,o,i,j,y,z)) (St κ f p pd g)/\Q (.yield (aD,o,i,j,y,z)) (St κ f p pd g)) :
 wpS (model prog w) A E s (HU (ar f la) (ar f lb) mg t) Q (St κ f p pd g):=by
 obtain⟨t0,o,i,j,ca,cb⟩:=t;obtain⟨lo,rfl,M,hi,hj,hm⟩:=I
 replace hi:i+1<la.length:=hi
 replace hj:j<lb.length:=hj
 replace hm:m<=i+j:=hm
 replace M:MI r la lb lo i j:=M;have hi':i<la.length:=yT hi;unfold HU;dsimp only;refine aX (bK hj (aX (bK hi' (aX (jN c (T.bb _ (iG hj)) (T.ba _ (iG hi')) rfl ?_)))));by_cases q:r lb[j]<r la[i];rw[kE q];show wpS _ _ _ _ (if true=true then _ else _) _ _;rw[if_pos rfl];refine aX (bK hj ?_);rw[AS,jQ];have M':=M.om T.sa T.sb hi' hj (nN q);by_cases e:(j+1==lb.length)=true;rw[if_pos e];exact bw (h1 _ _ (T.done M' e));rw[if_neg e];have e':j+1≠lb.length:=by simpa using e
 obtain⟨a,b⟩:=h2 _ i (j+1) 0 (cb+1) ⟨_,rfl,M',hi,by lia,by lia⟩;split;exact bw a;exact bw b;rw[iE q];show wpS _ _ _ _ (if false=true then _ else _) _ _;rw[if_neg (by simp)];refine aX (bK hi' ?_);rw[AS,jQ];have M':=M.uh T.sa T.sb hi' hj (pU.mp q);by_cases e:(i+1+1==la.length)=true;rw[if_pos e];exact bw (h1 _ _ (T.last M' e));rw[if_neg e];have e':i+1+1≠la.length:=by simpa using e
 obtain⟨a,b⟩:=h2 _ (i+1) j (ca+1) 0 ⟨_,rfl,M',by lia,hj,by lia⟩;split;exact bw a;exact bw b
theorem N1(T:Tw N r la lb){g cg ca cb i j:Nat}{lo:List Nat}{m:Nat}(M:MI r la lb lo i j)(hi:i+1<la.length)(hj:j<lb.length)(hm:m<=i+j)(e:r la[i]<=r lb[j]){Q:ForInStep rF->SortSt->Prop}
 (h1:∀x u,Mg f r la lb x->Q (.done (aC x,u)) (St κ f p pd g)) (h2:∀o i j g' y z,oq f r la lb o i j (m+1)->Q (.done (aD,o,i,j,g',y,z)) (St κ f p pd g)/\Q (.yield (aD,o,i,j,g',y,z)) (St κ f p pd g)) :
 wpS (model prog w) A E s (Eo (ar f la) (ar f lb) (ar f lo) i j cg ca cb) Q (St κ f p pd g):=by
 have hi':i<la.length:=yT hi;unfold Eo;refine aX (bK hi' ?_);rw[AS,jQ];have M':=M.uh T.sa T.sb hi' hj e;by_cases e:(i+1+1==la.length)=true;rw[if_pos e];exact bw (h1 _ _ (T.last M' e));rw[if_neg e];have e':i+1+1≠la.length:=by simpa using e
 obtain⟨a,b⟩:=h2 _ (i+1) j cg ca cb ⟨_,rfl,M',by lia,hj,by lia⟩;split;exact bw a;exact bw b
theorem oz{x:Nat}{l:List Nat}{bs i:Nat}(hi:bs+i<l.length):Bf r false x l bs i=!decide (r x<r l[bs+i]):=by unfold Bf;rw[oh hi];rfl
theorem rG{x:Nat}{l:List Nat}{bs i:Nat}(hi:bs+i<l.length):Bf r true x l bs i=decide (r l[bs+i]<r x):=by unfold Bf;rw[oh hi];rfl
theorem N2(c:Cp prog w A s κ f r N)(T:Tw N r la lb){g cg ca cb i j:Nat}{lo:List Nat}{m:Nat}(M:MI r la lb lo i j)(hi:i+1<la.length)(hj:j<lb.length)(hm:m<=i+j)(e:r lb[j]<=r la[i]){Q:ForInStep rF->SortSt->Prop}
 (h1:∀x u,Mg f r la lb x->Q (.done (aC x,u)) (St κ f p pd g)) (h2:∀o i j g' y z,oq f r la lb o i j (m+1)->Q (.done (aD,o,i,j,g',y,z)) (St κ f p pd g)/\Q (.yield (aD,o,i,j,g',y,z)) (St κ f p pd g)) :
 wpS (model prog w) A E s (Ep (ar f la) (ar f lb) (ar f lo) i j cg ca cb) Q (St κ f p pd g):=by
 have hi':i<la.length:=yT hi;unfold Ep;refine aX (bK hj ?_);rw[AS,jQ];have M':=M.om T.sa T.sb hi' hj e;by_cases x1:(j+1==lb.length)=true;rw[if_pos x1];exact bw (h1 _ _ (T.done M' x1));rw[if_neg x1];have AW:j+1≠lb.length:=by simpa using x1
 refine aX (bK hi' (aX (Em c T.bb T.sb (T.ba _ (iG hi')) (by lia) (by lia) rfl λk hk k1 k2=>?_)));dsimp only;have M2:=M'.n9 (k:=k) T.sb (by lia) λq hq a b y hy=>by
  have:=k1 (q- (j+1)) (by lia);rw[rG (by lia)]at this;simp only[show j+1+ (q- (j+1))=q by lia,fL]at this;obtain⟨t,ht,h3,rfl⟩:=yj hy;exact kc (nN this) (T.sa.at_ h3 ht)
 have nx:∀(h:j+1+k<lb.length),r la[i]<=r lb[j+1+k]:=λh=>by
  have:=k2 k (aQ _) (by lia);rw[rG h]at this;simpa using this
 by_cases x2:k>0;rw[if_pos x2,pY,n6,show j+1+k- (j+1)=k by lia];by_cases x3:(j+1+k==lb.length)=true;rw[if_pos x3];exact bw (h1 _ _ (T.done M2 x3));rw[if_neg x3];have N3:j+1+k≠lb.length:=by simpa using x3
 exact N1 T M2 hi (by lia) (by lia) (nx (by lia)) h1 h2;rw[if_neg x2];obtain rfl:k=0:=by lia
 exact N1 T M' hi (by lia) (by lia) (nx (by lia)) h1 h2
theorem VG(c:Cp prog w A s κ f r N)(T:Tw N r la lb){g cg ca cb i j:Nat}{lo:List Nat}{m:Nat}(M:MI r la lb lo i j)(hi:i+1<la.length)(hj:j<lb.length)(hm:m<=i+j){Q:ForInStep rF->SortSt->Prop}
 (h1:∀x u g,Mg f r la lb x->Q (.done (aC x,u)) (St κ f p pd g)) (h2:∀o i j g' y z g,oq f r la lb o i j (m+1)->Q (.done (aD,o,i,j,g',y,z)) (St κ f p pd g)/\Q (.yield (aD,o,i,j,g',y,z)) (St κ f p pd g)) :
 wpS (model prog w) A E s (Er (ar f la) (ar f lb) (ar f lo) i j cg ca cb) Q (St κ f p pd g):=by
 have hi':i<la.length:=yT hi;unfold Er;refine aX (El (g':=cg) ?_);rw[jQ];refine aX (bK hj (aX (Em c T.ba T.sa (T.bb _ (iG hj)) (by lia) (by lia) rfl λk hk k1 k2=>?_)));dsimp only;have AX:=T.hl _ (iG hj) (la.length-1) (by lia) (by lia);have hk':i+k+1<=la.length:=by by_cases z:i+k+1<=la.length;exact z;have:=k1 (la.length-1-i) (by lia);rw[oz (by lia)]at this;simp only[show i+ (la.length-1-i)=la.length-1 by lia,tP,u5]at this;exact absurd AX this
 have M2:=M.bJ (k:=k) T.sa (by lia) λq hq a b y hy=>by
  have:=k1 (q-i) (by lia);rw[oz (by lia)]at this;simp only[show i+ (q-i)=q by lia,tP,u5]at this;obtain⟨t,ht,h3,rfl⟩:=yj hy;exact kc (pU.mp this) (T.sb.at_ h3 ht)
 have nx:r lb[j]<=r (la[i+k]'(by lia)):=by have:=k2 k (aQ _) (by lia);rw[oz (by lia)]at this;simp only[Bool.not_eq_false',fL]at this;exact nN this
 by_cases x2:k>0;rw[if_pos x2,pY,n6,show i+k-i=k by lia];by_cases x3:(i+k+1==la.length)=true;rw[if_pos x3];exact bw (h1 _ _ _ (T.last M2 x3));rw[if_neg x3];have N3:i+k+1≠la.length:=by simpa using x3
 rw[if_neg (by simp;lia)];exact N2 c T M2 (by lia) hj (by lia) nx (λx u=>h1 x u _) λo i j g' y z=>h2 o i j g' y z _;rw[if_neg x2];obtain rfl:k=0:=by lia
 exact N2 c T M hi hj hm nx (λx u=>h1 x u _) λo i j g' y z=>h2 o i j g' y z _
theorem AY(c:Cp prog w A s κ f r N)(T:Tw N r la lb){g:Nat}{Q:Arr->SortSt->Prop}(h:∀x g',Mg f r la lb x->Q x (St κ f p pd g')):wpS (model prog w) A E s (v9 (ar f la) (ar f lb)) Q (St κ f p pd g):=by
 have na:=T.na;have nb:=T.nb;unfold v9;refine aX (vq (kH ⟨rfl,?_⟩));refine aX (bK nb ?_);have m0:MI r la lb [] 0 0:=⟨qz _,List.Pairwise.nil,(λx hx=>nomatch hx),rfl⟩
 have m1:=m0.om T.sa T.sb na nb T.h0;rw[xP]at m1;have e1:#[f lb[0]]=ar f [lb[0]]:=rfl;rw[e1,jQ,jQ];by_cases x1:(1==lb.length)=true;rw[if_pos x1];exact bw (h _ _ (T.done m1 x1));rw[if_neg x1];by_cases x2:(0+1==la.length)=true;rw[if_pos x2];exact bw (h _ _ (T.last m1 x2));rw[if_neg x2];have AW:1≠lb.length:=by simpa using x1
 have HW:1≠la.length:=by simpa using x2
 refine aX (nM ?_);generalize gallopOf (St κ f p pd g)=mg;refine aX (jF (jE (I:=λx d st'=>∃o i j mg g',d=(aD,o,i,j,mg)/\st'=St κ f p pd g'/\oq f r la lb o i j (1+x))
  (Q:=λd st'=>∃x u g',d=(aC x,u)/\st'=St κ f p pd g'/\Mg f r la lb x) ?step ?fin ⟨_,0,1,mg,g,rfl,rfl,_,rfl,m1,by lia,by lia,by lia⟩) ?post)
 case fin=>
  rintro d st' ⟨o,i,j,mg,g',rfl,rfl,lo,rfl,m,a,b,e⟩;lia
 case post=>
  rintro d st' ⟨x,u,g',rfl,rfl,m⟩;exact bw (h _ _ m)
 case step=>
  rintro x d st' _ hx ⟨o,i,j,mg,g',rfl,rfl,I0⟩;unfold NZ;refine aX (jF (jE (I:=λy d st'=>st'=St κ f p pd g'/\∃o i j ca cb,d=(aD,o,i,j,ca,cb)/\oq f r la lb o i j (1+x+y))
   (Q:=λd st'=>st'=St κ f p pd g'/\((∃x u,d=(aC x,u)/\Mg f r la lb x)\/∃o i j ca cb,d=(aD,o,i,j,ca,cb)/\oq f r la lb o i j (1+x+1))) ?jO ?nZ ⟨rfl,o,i,j,0,0,rfl,I0⟩) ?jP)
  case nZ=>
   rintro d st' ⟨rfl,o,i,j,ca,cb,rfl,lo,rfl,m,a,b,e⟩;rw[jQ,jQ]at e;exact⟨rfl,.inr ⟨_,i,j,ca,cb,rfl,lo,rfl,m,a,b,by lia⟩⟩
  case jO=>
   rintro y d st' _ hy ⟨rfl,o,i,j,ca,cb,rfl,I⟩;refine VF c T I (λx u m=>⟨rfl,.inl ⟨x,u,rfl,m⟩⟩) λo i j y' z I'=>⟨⟨rfl,.inr ⟨o,i,j,y',z,rfl,?_⟩⟩,rfl,o,i,j,y',z,rfl,I'⟩
   obtain⟨lo,e,m,a,b,e'⟩:=I'
   replace e':1+x+y+1<=i+j:=e';exact⟨lo,e,m,a,b,by lia⟩
  case jP=>
   rintro d st' ⟨rfl,⟨z,u,rfl,m⟩|⟨o,i,j,ca,cb,rfl,I⟩⟩;exact bw ⟨z,_,g',rfl,rfl,m⟩
   .refine aX (vq (kH ⟨rfl,?_⟩))
    refine aX (jF (jE (I:=λy d st'=>∃o i j mg ca cb g',st'=St κ f p pd g'/\d=(aD,o,i,j,mg,ca,cb)/\oq f r la lb o i j (1+x+1))
     (Q:=λd st'=>∃g',st'=St κ f p pd g'/\((∃x u,d=(aC x,u)/\Mg f r la lb x)\/∃o i j mg ca cb,d=(aD,o,i,j,mg,ca,cb)/\oq f r la lb o i j (1+x+1))) ?oA ?wc ⟨o,i,j,mg+1,ca,cb,g',rfl,rfl,I⟩) ?oB)
    case wc=>
     rintro d st' ⟨o,i,j,mg,ca,cb,g',rfl,rfl,I⟩;exact⟨g',rfl,.inr ⟨o,i,j,mg,ca,cb,rfl,I⟩⟩
    case oA=>
     rintro y d st' _ hy ⟨o,i,j,mg,ca,cb,g',rfl,rfl,lo,rfl,M,a,b,e⟩;unfold NY;dsimp only;split<;>exact VG c T (g:=g') M a b e (λx u g m=>⟨g,rfl,.inl ⟨x,u,rfl,m⟩⟩) λo i j g' y z g I=>by
      obtain⟨lo,e1,m,a,b,e'⟩:=I;have I':oq f r la lb o i j (1+x+1):=⟨lo,e1,m,a,b,by lia⟩
      exact⟨⟨g,rfl,.inr ⟨o,i,j,g',y,z,rfl,I'⟩⟩,o,i,j,g',y,z,g,rfl,rfl,I'⟩
    case oB=>
     rintro d st' ⟨g',rfl,⟨z,u,rfl,m⟩|⟨o,i,j,mg,ca,cb,rfl,I⟩⟩;exact bw ⟨z,_,g',rfl,rfl,m⟩;dsimp only;refine aX (El (bw ⟨o,i,j,mg+1,_,rfl,rfl,?_⟩));rw[show 1+ (x+1)=1+x+1 by lia];exact I
end
end TS
namespace TS
open PySem PySem.W PyProof.Rows KO
noncomputable abbrev rH:=Option Arr×Nat×Nat×Arr×Nat×Nat×Nat
noncomputable abbrev AZ:=Option Arr×Nat×Nat×Arr×Nat×Nat
noncomputable abbrev HX:=Option Arr×Nat×Nat×Arr×Nat
noncomputable def dQ(a b o:Arr)(i j:Nat):Arr:=a.extract 0 i++b.extract 0 j++o.reverse
noncomputable def kQ(a b o:Arr)(i j:Nat):Arr:=b.extract 0 j++a.extract 0 i++o.reverse
noncomputable def Es(a b o:Arr)(i j g ca cb:Nat):SS (ForInStep rH):=do
 let x <-elem' a (i-1)
 if(i-1==0)=true then pure (.done (aC (dQ a b (o.push x) (i-1) j),i-1,j,o.push x,g,ca,cb))
 else if(decide (ca<7)&&decide (cb<7))=true then pure (.done (aD,i-1,j,o.push x,g,ca,cb))else pure (.yield (aD,i-1,j,o.push x,g,ca,cb))
noncomputable def Et(a b o:Arr)(i j g ca cb:Nat):SS (ForInStep rH):=do
 let x <-elem' b (j-1)
 if(j-1==1)=true then pure (.done (aC (kQ a b (o.push x) i (j-1)),i,j-1,o.push x,g,ca,cb))
 else do
  let y <-elem' a (i-1)
  let z <-jg true y b 0 (j-1) (j-1-1)
  match z with
  |some k=>
   if j-1-k>0 then
    if(k==1)=true then pure (.done (aC (kQ a b (o.push x++(b.extract k (j-1)).reverse) i k),i,k,o.push x++(b.extract k (j-1)).reverse,g,ca,j-1-k))
    else if(k==0)=true then pure (.done (aC (dQ a b (o.push x++(b.extract k (j-1)).reverse) i k),i,k,o.push x++(b.extract k (j-1)).reverse,g,ca,j-1-k))
    else Es a b (o.push x++(b.extract k (j-1)).reverse) i k g ca (j-1-k)
   else Es a b (o.push x) i (j-1) g ca (j-1-k)
  |_=>pure (.done (aC (dQ a b (o.push x) i (j-1)),i,j-1,o.push x,g,ca,cb))
noncomputable def Eu(a b o:Arr)(i j g ca cb:Nat):SS (ForInStep rH):=do
 setG g
 let y <-elem' b (j-1)
 let z <-jg false y a 0 i (i-1)
 match z with
 |some k=>
  if i-k>0 then
   if(k==0)=true then pure (.done (aC (dQ a b (o++(a.extract k i).reverse) k j),k,j,o++(a.extract k i).reverse,g,i-k,cb))
   else Et a b (o++(a.extract k i).reverse) k j g (i-k) cb
  else Et a b o i j g (i-k) cb
 |_=>pure (.done (aC (dQ a b o i j),i,j,o,g,ca,cb))
noncomputable def N4(a b:Arr)(t:rH):SS (ForInStep rH):=if t.2.2.2.2.1>1 then Eu a b t.2.2.2.1 t.2.1 t.2.2.1 (t.2.2.2.2.1-1) t.2.2.2.2.2.1 t.2.2.2.2.2.2 else Eu a b t.2.2.2.1 t.2.1 t.2.2.1 t.2.2.2.2.1 t.2.2.2.2.2.1 t.2.2.2.2.2.2
noncomputable def HY(a b:Arr)(g:Nat)(t:AZ):SS (ForInStep AZ):=do
 let x <-elem' b (t.2.2.1-1)
 let y <-elem' a (t.2.1-1)
 let z <-lt' x y
 match z with
 |some q=>
  if q=true then do
   let x <-elem' a (t.2.1-1)
   if(t.2.1-1==0)=true then pure (.done (aC (dQ a b (t.2.2.2.1.push x) (t.2.1-1) t.2.2.1),t.2.1-1,t.2.2.1,t.2.2.2.1.push x,t.2.2.2.2.1+1,0))
   else if t.2.2.2.2.1+1>=g then pure (.done (aD,t.2.1-1,t.2.2.1,t.2.2.2.1.push x,t.2.2.2.2.1+1,0))else pure (.yield (aD,t.2.1-1,t.2.2.1,t.2.2.2.1.push x,t.2.2.2.2.1+1,0))
  else do
   let x <-elem' b (t.2.2.1-1)
   if(t.2.2.1-1==1)=true then pure (.done (aC (kQ a b (t.2.2.2.1.push x) t.2.1 (t.2.2.1-1)),t.2.1,t.2.2.1-1,t.2.2.2.1.push x,0,t.2.2.2.2.2+1))
   else if t.2.2.2.2.2+1>=g then pure (.done (aD,t.2.1,t.2.2.1-1,t.2.2.2.1.push x,0,t.2.2.2.2.2+1))else pure (.yield (aD,t.2.1,t.2.2.1-1,t.2.2.2.1.push x,0,t.2.2.2.2.2+1))
 |_=>pure (.done (aC (dQ a b t.2.2.2.1 t.2.1 t.2.2.1),t.2.1,t.2.2.1,t.2.2.2.1,t.2.2.2.2.1,t.2.2.2.2.2))
noncomputable def N5(a b:Arr)(t:HX):SS (ForInStep HX):=do
 let u <-forIn [0:a.size+b.size] ((aD,t.2.1,t.2.2.1,t.2.2.2.1,0,0):AZ) λ_ u=>HY a b t.2.2.2.2 u
 match u.1 with
 |some x=>pure (.done (aC x,u.2.1,u.2.2.1,u.2.2.2.1,t.2.2.2.2))
 |none=>do
  rule "list.sort.gallop"
  let v <-forIn [0:a.size+b.size] ((aD,u.2.1,u.2.2.1,u.2.2.2.1,t.2.2.2.2+1,u.2.2.2.2.1,u.2.2.2.2.2):rH) λ_ v=>N4 a b v
  match v.1 with
  |some x=>pure (.done (aC x,v.2.1,v.2.2.1,v.2.2.2.1,v.2.2.2.2.1))
  |none=>do
   setG (v.2.2.2.2.1+1)
   pure (.yield (aD,v.2.1,v.2.2.1,v.2.2.2.1,v.2.2.2.2.1+1))
noncomputable def we(a b:Arr):SS Arr:=do
 rule "list.sort.merge-hi"
 let x <-elem' a (a.size-1)
 if(a.size-1==0)=true then pure (dQ a b #[x] (a.size-1) b.size)
 else if(b.size==1)=true then pure (kQ a b #[x] (a.size-1) b.size)
 else do
  let z <-get
  let t <-forIn [0:a.size+b.size] ((aD,a.size-1,b.size,#[x],gallopOf z):HX) λ_ t=>N5 a b t
  match t.1 with|some x=>pure x|none=>unsupported "internal:list.sort.merge-bound"
section
variable{f:Nat->Keyed}{r:Nat->Int}
structure MH(r:Nat->Int)(la lb lo:List Nat)(i j:Nat):Prop where
 pm:(la.take i++(lb.take j++lo)).Perm (la++lb)
 so:So r lo
 ge:∀x∈lo,(∀y∈la.take i,r y<=r x)/\∀y∈lb.take j,r y<=r x
 ln:i+j+lo.length=la.length+lb.length
theorem yk{l:List Nat}{k i:Nat}(h:k<=i):l.take i=l.take k++(l.drop k).take (i-k):=by rw[<-List.take_add,show k+ (i-k)=i by lia]
theorem um{l:List Nat}{k x:Nat}(h:x∈l.take k):∃j,∃hj:j<l.length,j<k/\l[j]=x:=by obtain⟨i,hi,e⟩:=yZ h;rw[List.getElem_take]at e;rw[k7]at hi;exact⟨i,by lia,by lia,e⟩
variable{la lb lo:List Nat}{i j k:Nat}
theorem MH.bJ(h:MH r la lb lo i j)(sa:So r la)(hk:k<=i)(hi:i<=la.length)(hl:∀q (hq:q<la.length),k<=q->q<i->∀y∈lb.take j,r y<=r la[q]):MH r la lb ((la.drop k).take (i-k)++lo) k j:=by
 refine⟨?_,?_,?_,?_⟩;refine List.Perm.trans ?_ h.pm;rw[yk hk,j9];refine vcs _ ?_;rw[<-j9,<-j9];exact DC Dp (qz _);refine nJ.mpr ⟨(sa.drop k).take _,h.so,λx hx y hy=>(h.ge y hy).1 x (by rw[yk hk];exact g6 _ hx)⟩;intro x hx;rcases lZ.mp hx with hx|hx
 obtain⟨q,hq,h1,h2,rfl⟩:=Ek hx;refine⟨λy hy=>?_,hl q hq h1 (by lia)⟩;obtain⟨t,ht,h3,rfl⟩:=um hy;exact sa.at_ (by lia) hq;exact⟨λy hy=>(h.ge x hx).1 y (by rw[yk hk];exact yX _ hy),(h.ge x hx).2⟩;have:=h.ln;rw[eZ,k7,kI];lia
theorem MH.n9(h:MH r la lb lo i j)(sb:So r lb)(hk:k<=j)(hj:j<=lb.length)(hl:∀q (hq:q<lb.length),k<=q->q<j->∀y∈la.take i,r y<=r lb[q]):MH r la lb ((lb.drop k).take (j-k)++lo) i k:=by
 refine⟨?_,?_,?_,?_⟩;refine List.Perm.trans ?_ h.pm;refine vcs _ ?_;rw[yk hk,j9];refine nJ.mpr ⟨(sb.drop k).take _,h.so,λx hx y hy=>(h.ge y hy).2 x (by rw[yk hk];exact g6 _ hx)⟩;intro x hx;rcases lZ.mp hx with hx|hx
 obtain⟨q,hq,h1,h2,rfl⟩:=Ek hx;refine⟨hl q hq h1 (by lia),λy hy=>?_⟩;obtain⟨t,ht,h3,rfl⟩:=um hy;exact sb.at_ (by lia) hq;exact⟨(h.ge x hx).1,λy hy=>(h.ge x hx).2 y (by rw[yk hk];exact yX _ hy)⟩;have:=h.ln;rw[eZ,k7,kI];lia
theorem HZ{l:List Nat}{i:Nat}(hi:i<l.length):(l.drop i).take (i+1-i)=[l[i]]:=by rw[show i+1-i=1 by lia];exact HQ hi
theorem N6(hh:MH r la lb lo (i+1) (j+1))(sa:So r la)(sb:So r lb)(hi:i<la.length)(hj:j<lb.length)(e:r lb[j]<=r la[i]):MH r la lb (la[i]::lo) i (j+1):=by
 have:=hh.bJ (k:=i) sa (by lia) (by lia) λq hq h1 h2 y hy=>by
  obtain rfl:q=i:=by lia
  obtain⟨t,ht,h3,rfl⟩:=um hy;exact kc (sb.at_ (by lia) hj) e
 rw[HZ hi]at this;exact this
theorem N7(hh:MH r la lb lo (i+1) (j+1))(sa:So r la)(sb:So r lb)(hi:i<la.length)(hj:j<lb.length)(e:r la[i]<=r lb[j]):MH r la lb (lb[j]::lo) (i+1) j:=by
 have:=hh.n9 (k:=j) sb (by lia) (by lia) λq hq h1 h2 y hy=>by
  obtain rfl:q=j:=by lia
  obtain⟨t,ht,h3,rfl⟩:=um hy;exact kc (sa.at_ (by lia) hi) e
 rw[HZ hj]at this;exact this
theorem Ew{l:List Nat}{i:Nat}:(ar f l).extract 0 i=ar f (l.take i):=by rw[pY];rfl
theorem MH.done(h:MH r la lb lo i j)(sa:So r la)(sb:So r lb)(e:i=0\/j=0):Mg f r la lb (dQ (ar f la) (ar f lb) (ar f lo.reverse) i j):=by
 refine⟨la.take i++lb.take j++lo,?_,by rw[j9];exact h.pm,nJ.mpr ⟨?_,h.so,λx hx y hy=>?_⟩⟩;unfold dQ;rw[Ew,Ew,HP,n6,n6,List.reverse_reverse];refine nJ.mpr ⟨sa.take i,sb.take j,λx hx y hy=>?_⟩;rcases e with rfl|rfl
 cases hx;cases hy;rcases lZ.mp hx with hx|hx
 exact(h.ge y hy).1 x hx;exact(h.ge y hy).2 x hx
theorem MH.last(h:MH r la lb lo i 1)(sa:So r la)(sb:So r lb)(na:0<la.length)(nb:0<lb.length)(e:r lb[0]<=r la[0]):Mg f r la lb (kQ (ar f la) (ar f lb) (ar f lo.reverse) i 1):=by
 refine⟨lb.take 1++la.take i++lo,?_,?_,nJ.mpr ⟨?_,h.so,λx hx y hy=>?_⟩⟩;unfold kQ;rw[Ew,Ew,HP,n6,n6,List.reverse_reverse];refine List.Perm.trans ?_ h.pm;rw[<-j9];exact DC Dp (qz _);refine nJ.mpr ⟨sb.take 1,sa.take i,λx hx y hy=>?_⟩;obtain⟨q,hq,h1,rfl⟩:=um hx;obtain⟨t,ht,h3,rfl⟩:=um hy;obtain rfl:q=0:=by lia
 exact kc e (sa.at_ (gh _) ht);rcases lZ.mp hx with hx|hx
 exact(h.ge y hy).2 x hx;exact(h.ge y hy).1 x hx
theorem Ex{l:List Nat}{x:Nat}:(ar f l.reverse).push (f x)=ar f (x::l).reverse:=by rw[AS,List.reverse_cons]
theorem N8{l m:List Nat}{i j:Nat}:ar f l.reverse++((ar f m).extract i j).reverse=ar f ((m.drop i).take (j-i)++l).reverse:=by rw[pY,HP,n6,List.reverse_append]
noncomputable def oE(f:Nat->Keyed)(r:Nat->Int)(la lb:List Nat)(o:Arr)(i j m:Nat):Prop:=∃lo,o=ar f lo.reverse/\MH r la lb lo i j/\0<i/\1<j/\i<=la.length/\j<=lb.length/\m+i+j<=la.length+lb.length
end
section
variable{prog:ai}{w:ak}{A:ao}{E:aa->af->Prop}{s:af}{κ:SortKind}{f:Nat->Keyed}{r:Nat->Int}{N:Nat}{la lb:List Nat}{p:Array Nat}{pd:Array (Nat×Nat×Nat)}
theorem Tw.lH(T:Tw N r la lb){lo:List Nat}{i j:Nat}(m:MH r la lb lo i j)(e:(j==1)):Mg f r la lb (kQ (ar f la) (ar f lb) (ar f lo.reverse) i j):=by
 obtain rfl:j=1:=by simpa using e
 exact m.last T.sa T.sb T.na T.nb T.h0
theorem Tw.lI(T:Tw N r la lb){lo:List Nat}{i j:Nat}(m:MH r la lb lo i j)(e:(i==0)):Mg f r la lb (dQ (ar f la) (ar f lb) (ar f lo.reverse) i j):=m.done T.sa T.sb (.inl (by simpa using e))
theorem VI(c:Cp prog w A s κ f r N)(T:Tw N r la lb){g mg:Nat}{t:AZ}{m:Nat}(I:oE f r la lb t.2.2.2.1 t.2.1 t.2.2.1 m){Q:ForInStep AZ->SortSt->Prop}
 (h1:∀x u,Mg f r la lb x->Q (.done (aC x,u)) (St κ f p pd g)) (h2:∀o i j y z,oE f r la lb o i j (m+1)->Q (.done (aD,i,j,o,y,z)) (St κ f p pd g)/\Q (.yield (aD,i,j,o,y,z)) (St κ f p pd g)) :
 wpS (model prog w) A E s (HY (ar f la) (ar f lb) mg t) Q (St κ f p pd g):=by
 obtain⟨t0,i,j,o,ca,cb⟩:=t;obtain⟨lo,rfl,M,hi,hj,ha,hb,hm⟩:=I
 replace hi:0<i:=hi
 replace hj:1<j:=hj
 replace ha:i<=la.length:=ha
 replace hb:j<=lb.length:=hb
 replace hm:m+i+j<=la.length+lb.length:=hm
 replace M:MH r la lb lo i j:=M;obtain⟨i,rfl⟩:∃z,i=z+1:=⟨i-1,by lia⟩
 obtain⟨j,rfl⟩:∃z,j=z+1:=⟨j-1,by lia⟩
 have hi':i<la.length:=by lia
 have hj':j<lb.length:=by lia
 unfold HY;dsimp only;rw[vec,vec];refine aX (bK hj' (aX (bK hi' (aX (jN c (T.bb _ (iG hj')) (T.ba _ (iG hi')) rfl ?_)))));by_cases q:r lb[j]<r la[i];rw[kE q];show wpS _ _ _ _ (if true=true then _ else _) _ _;rw[if_pos rfl];refine aX (bK hi' ?_);rw[Ex];have M':=N6 M T.sa T.sb hi' hj' (nN q);by_cases e:(i==0)=true;rw[if_pos e];exact bw (h1 _ _ (T.lI M' e));rw[if_neg e];have e':i≠0:=by simpa using e
 obtain⟨a,b⟩:=h2 _ i (j+1) (ca+1) 0 ⟨_,rfl,M',by lia,hj,by lia,hb,by lia⟩;split;exact bw a;exact bw b;rw[iE q];show wpS _ _ _ _ (if false=true then _ else _) _ _;rw[if_neg (by simp)];refine aX (bK hj' ?_);rw[Ex];have M':=N7 M T.sa T.sb hi' hj' (pU.mp q);by_cases e:(j==1)=true;rw[if_pos e];exact bw (h1 _ _ (T.lH M' e));rw[if_neg e];have e':j≠1:=by simpa using e
 obtain⟨a,b⟩:=h2 _ (i+1) j 0 (cb+1) ⟨_,rfl,M',hi,by lia,ha,by lia,by lia⟩;split;exact bw a;exact bw b
theorem N9(T:Tw N r la lb){g cg ca cb i j:Nat}{lo:List Nat}{m:Nat}(M:MH r la lb lo i j)(hi:0<i)(hj:1<j)(ha:i<=la.length)(hb:j<=lb.length)(hm:m+i+j<=la.length+lb.length)(e:r (lb[j-1]'(by lia))<=r (la[i-1]'(by lia))){Q:ForInStep rH->SortSt->Prop}
 (h1:∀x u,Mg f r la lb x->Q (.done (aC x,u)) (St κ f p pd g)) (h2:∀o i j g' y z,oE f r la lb o i j (m+1)->Q (.done (aD,i,j,o,g',y,z)) (St κ f p pd g)/\Q (.yield (aD,i,j,o,g',y,z)) (St κ f p pd g)) :
 wpS (model prog w) A E s (Es (ar f la) (ar f lb) (ar f lo.reverse) i j cg ca cb) Q (St κ f p pd g):=by
 obtain⟨i,rfl⟩:∃z,i=z+1:=⟨i-1,by lia⟩
 obtain⟨j,rfl⟩:∃z,j=z+1:=⟨j-1,by lia⟩
 have hi':i<la.length:=by lia
 unfold Es;rw[vec];refine aX (bK hi' ?_);rw[Ex];have M':=N6 M T.sa T.sb hi' (by lia) e;by_cases e:(i==0)=true;rw[if_pos e];exact bw (h1 _ _ (T.lI M' e));rw[if_neg e];have e':i≠0:=by simpa using e
 obtain⟨a,b⟩:=h2 _ i (j+1) cg ca cb ⟨_,rfl,M',by lia,hj,by lia,hb,by lia⟩;split;exact bw a;exact bw b
theorem Oa(c:Cp prog w A s κ f r N)(T:Tw N r la lb){g cg ca cb i j:Nat}{lo:List Nat}{m:Nat}(M:MH r la lb lo i j)(hi:0<i)(hj:1<j)(ha:i<=la.length)(hb:j<=lb.length)(hm:m+i+j<=la.length+lb.length)(e:r (la[i-1]'(by lia))<=r (lb[j-1]'(by lia))){Q:ForInStep rH->SortSt->Prop}
 (h1:∀x u,Mg f r la lb x->Q (.done (aC x,u)) (St κ f p pd g)) (h2:∀o i j g' y z,oE f r la lb o i j (m+1)->Q (.done (aD,i,j,o,g',y,z)) (St κ f p pd g)/\Q (.yield (aD,i,j,o,g',y,z)) (St κ f p pd g)) :
 wpS (model prog w) A E s (Et (ar f la) (ar f lb) (ar f lo.reverse) i j cg ca cb) Q (St κ f p pd g):=by
 obtain⟨i,rfl⟩:∃z,i=z+1:=⟨i-1,by lia⟩
 obtain⟨j,rfl⟩:∃z,j=z+1:=⟨j-1,by lia⟩
 have hi':i<la.length:=by lia
 have hj':j<lb.length:=by lia
 unfold Et;simp only[vec]at e ⊢;refine aX (bK hj' ?_);rw[Ex];have M':=N7 M T.sa T.sb hi' hj' e;by_cases x1:(j==1)=true;rw[if_pos x1];exact bw (h1 _ _ (T.lH M' x1));rw[if_neg x1];have AW:j≠1:=by simpa using x1
 refine aX (bK hi' (aX (Em c T.bb T.sb (T.ba _ (iG hi')) (by lia) (by lia) rfl λk hk k1 k2=>?_)));dsimp only;have M2:=M'.n9 (k:=k) T.sb hk (by lia) λq hq a b y hy=>by
  have:=k2 q a b;rw[rG (by lia)]at this;simp only[nu,u5]at this;obtain⟨t,ht,h3,rfl⟩:=um hy;exact kc (T.sa.at_ (by lia) hi') (pU.mp this)
 have nx:∀(h:0<k),r (lb[k-1]'(by lia))<=r la[i]:=λh=>by
  have:=k1 (k-1) (by lia);rw[rG (by lia)]at this;simp only[nu,fL]at this;exact nN this
 by_cases x2:j-k>0;rw[if_pos x2,N8];by_cases x3:(k==1)=true;rw[if_pos x3];exact bw (h1 _ _ (T.lH M2 x3));rw[if_neg x3];have N3:k≠1:=by simpa using x3
 by_cases x4:(k==0)=true;rw[if_pos x4];exact bw (h1 _ _ (M2.done T.sa T.sb (.inr (by simpa using x4))));rw[if_neg x4];have VJ:k≠0:=by simpa using x4
 exact N9 T M2 hi (by lia) ha (by lia) (by lia) (nx (by lia)) h1 h2;rw[if_neg x2];obtain rfl:k=j:=by lia
 exact N9 T M' hi (by lia) ha (by lia) (by lia) (nx (by lia)) h1 h2
theorem VL(c:Cp prog w A s κ f r N)(T:Tw N r la lb){g cg ca cb i j:Nat}{lo:List Nat}{m:Nat}(M:MH r la lb lo i j)(hi:0<i)(hj:1<j)(ha:i<=la.length)(hb:j<=lb.length)(hm:m+i+j<=la.length+lb.length){Q:ForInStep rH->SortSt->Prop}
 (h1:∀x u g,Mg f r la lb x->Q (.done (aC x,u)) (St κ f p pd g)) (h2:∀o i j g' y z g,oE f r la lb o i j (m+1)->Q (.done (aD,i,j,o,g',y,z)) (St κ f p pd g)/\Q (.yield (aD,i,j,o,g',y,z)) (St κ f p pd g)) :
 wpS (model prog w) A E s (Eu (ar f la) (ar f lb) (ar f lo.reverse) i j cg ca cb) Q (St κ f p pd g):=by
 have hj':j-1<lb.length:=by lia
 unfold Eu;refine aX (El (g':=cg) ?_);refine aX (bK hj' (aX (Em c T.ba T.sa (T.bb _ (iG hj')) (by lia) (by lia) rfl λk hk k1 k2=>?_)));dsimp only;have M2:=M.bJ (k:=k) T.sa hk ha λq hq a b y hy=>by
  have:=k2 q a b;rw[oz (by lia)]at this;simp only[nu,Bool.not_eq_false',fL]at this;obtain⟨t,ht,h3,rfl⟩:=um hy;exact kc (T.sb.at_ (by lia) hj') (nN this)
 have nx:∀(h:0<k),r (la[k-1]'(by lia))<=r lb[j-1]:=λh=>by
  have:=k1 (k-1) (by lia);rw[oz (by lia)]at this;simp only[nu,tP,u5]at this;exact pU.mp this
 by_cases x2:i-k>0;rw[if_pos x2,N8];by_cases x4:(k==0)=true;rw[if_pos x4];exact bw (h1 _ _ _ (T.lI M2 x4));rw[if_neg x4];have VJ:k≠0:=by simpa using x4
 exact Oa c T M2 (by lia) hj (by lia) hb (by lia) (nx (by lia)) (λx u=>h1 x u _) λo i j g' y z=>h2 o i j g' y z _;rw[if_neg x2];obtain rfl:k=i:=by lia
 exact Oa c T M hi hj ha hb hm (nx hi) (λx u=>h1 x u _) λo i j g' y z=>h2 o i j g' y z _
theorem A0(c:Cp prog w A s κ f r N)(T:Tw N r la lb){g:Nat}{Q:Arr->SortSt->Prop}(h:∀x g',Mg f r la lb x->Q x (St κ f p pd g')):wpS (model prog w) A E s (we (ar f la) (ar f lb)) Q (St κ f p pd g):=by
 have na:=T.na;have nb:=T.nb;have hn:la.length-1<la.length:=by lia
 unfold we;refine aX (vq (kH ⟨rfl,?_⟩));rw[jQ,jQ];refine aX (bK hn ?_);have m0:MH r la lb [] (la.length-1+1) lb.length:=⟨by rw[show la.length-1+1=la.length by lia,y9,y9,ny],List.Pairwise.nil,(λx hx=>nomatch hx),by rw[Dv];lia⟩
 have m1:=m0.bJ (k:=la.length-1) T.sa (by lia) (by lia) λq hq a b y hy=>nN (T.hl y (yY hy) q hq (by lia));rw[HZ hn]at m1;have e1:#[f la[la.length-1]]=ar f ([la[la.length-1]]:List Nat).reverse:=rfl;rw[e1];by_cases x1:(la.length-1==0)=true;rw[if_pos x1];exact bw (h _ _ (T.lI m1 x1));rw[if_neg x1];by_cases x2:(lb.length==1)=true;rw[if_pos x2];exact bw (h _ _ (T.lH m1 x2));rw[if_neg x2];have AW:la.length-1≠0:=by simpa using x1
 have HW:lb.length≠1:=by simpa using x2
 refine aX (nM ?_);generalize gallopOf (St κ f p pd g)=mg;refine aX (jF (jE (I:=λx d st'=>∃o i j mg g',d=(aD,i,j,o,mg)/\st'=St κ f p pd g'/\oE f r la lb o i j (1+x))
  (Q:=λd st'=>∃x u g',d=(aC x,u)/\st'=St κ f p pd g'/\Mg f r la lb x) ?step ?fin ⟨_,la.length-1,lb.length,mg,g,rfl,rfl,_,rfl,m1,by lia,by lia,by lia,by lia,by lia⟩) ?post)
 case fin=>
  rintro d st' ⟨o,i,j,mg,g',rfl,rfl,lo,rfl,m,a,b,_,_,e⟩;lia
 case post=>
  rintro d st' ⟨x,u,g',rfl,rfl,m⟩;exact bw (h _ _ m)
 case step=>
  rintro x d st' _ hx ⟨o,i,j,mg,g',rfl,rfl,I0⟩;unfold N5;refine aX (jF (jE (I:=λy d st'=>st'=St κ f p pd g'/\∃o i j ca cb,d=(aD,i,j,o,ca,cb)/\oE f r la lb o i j (1+x+y))
   (Q:=λd st'=>st'=St κ f p pd g'/\((∃x u,d=(aC x,u)/\Mg f r la lb x)\/∃o i j ca cb,d=(aD,i,j,o,ca,cb)/\oE f r la lb o i j (1+x+1))) ?jO ?nZ ⟨rfl,o,i,j,0,0,rfl,I0⟩) ?jP)
  case nZ=>
   rintro d st' ⟨rfl,o,i,j,ca,cb,rfl,lo,rfl,m,a,b,c1,c2,e⟩;rw[jQ,jQ]at e;exact⟨rfl,.inr ⟨_,i,j,ca,cb,rfl,lo,rfl,m,a,b,c1,c2,by lia⟩⟩
  case jO=>
   rintro y d st' _ hy ⟨rfl,o,i,j,ca,cb,rfl,I⟩;refine VI c T I (λx u m=>⟨rfl,.inl ⟨x,u,rfl,m⟩⟩) λo i j y' z I'=>⟨⟨rfl,.inr ⟨o,i,j,y',z,rfl,?_⟩⟩,rfl,o,i,j,y',z,rfl,I'⟩
   obtain⟨lo,e,m,a,b,c1,c2,e'⟩:=I'
   replace e':1+x+y+1+i+j<=la.length+lb.length:=e';exact⟨lo,e,m,a,b,c1,c2,by lia⟩
  case jP=>
   rintro d st' ⟨rfl,⟨z,u,rfl,m⟩|⟨o,i,j,ca,cb,rfl,I⟩⟩;exact bw ⟨z,_,g',rfl,rfl,m⟩
   .refine aX (vq (kH ⟨rfl,?_⟩))
    refine aX (jF (jE (I:=λy d st'=>∃o i j mg ca cb g',st'=St κ f p pd g'/\d=(aD,i,j,o,mg,ca,cb)/\oE f r la lb o i j (1+x+1))
     (Q:=λd st'=>∃g',st'=St κ f p pd g'/\((∃x u,d=(aC x,u)/\Mg f r la lb x)\/∃o i j mg ca cb,d=(aD,i,j,o,mg,ca,cb)/\oE f r la lb o i j (1+x+1))) ?oA ?wc ⟨o,i,j,mg+1,ca,cb,g',rfl,rfl,I⟩) ?oB)
    case wc=>
     rintro d st' ⟨o,i,j,mg,ca,cb,g',rfl,rfl,I⟩;exact⟨g',rfl,.inr ⟨o,i,j,mg,ca,cb,rfl,I⟩⟩
    case oA=>
     rintro y d st' _ hy ⟨o,i,j,mg,ca,cb,g',rfl,rfl,lo,rfl,M,a,b,c1,c2,e⟩;unfold N4;dsimp only;split<;>exact VL c T (g:=g') M a b c1 c2 e (λx u g m=>⟨g,rfl,.inl ⟨x,u,rfl,m⟩⟩) λo i j g' y z g I=>by
      obtain⟨lo,e1,m,a,b,c1,c2,e'⟩:=I;have I':oE f r la lb o i j (1+x+1):=⟨lo,e1,m,a,b,c1,c2,by lia⟩
      exact⟨⟨g,rfl,.inr ⟨o,i,j,g',y,z,rfl,I'⟩⟩,o,i,j,g',y,z,g,rfl,rfl,I'⟩
    case oB=>
     rintro d st' ⟨g',rfl,⟨z,u,rfl,m⟩|⟨o,i,j,mg,ca,cb,rfl,I⟩⟩;exact bw ⟨z,_,g',rfl,rfl,m⟩;dsimp only;refine aX (El (bw ⟨o,i,j,mg+1,_,rfl,rfl,?_⟩));rw[show 1+ (x+1)=1+x+1 by lia];exact I
end
end TS
namespace TS
open PySem PySem.W PyProof.Rows KO
noncomputable def put(m:Nat){α:Type}(x:List α)(a:Array α):Array α:=x.zipIdx.foldl (λa y=>a.setIfInBounds (m+y.2) y.1) a
noncomputable def lJ(m:Nat)(x:Arr):SS Bool:=do
 modify λs=>SortSt.mk' (kindOf s) (put m x.toList (arrOf s)) (pendingOf s) (gallopOf s) (failedOf s)
 let z <-get
 pure (failedOf z).isNone
noncomputable def A1(i:Nat):SS Bool:=do
 let s <-get
 match((pendingOf s)[i]?,(pendingOf s)[i+1]?)with
 |(aC (sa,na,pw),aC (sb,nb,_))=>do
  set (setPending s (((pendingOf s).setIfInBounds i (sa,na+nb,pw)).eraseIdxIfInBounds (i+1)))
  let y <-elem' (arrOf s) sb
  let z <-jg false y (arrOf s) sa na 0
  match z with
  |some k=>
   if(na-k==0)=true then pure true
   else do
    let y <-elem' (arrOf s) (sa+k+ (na-k)-1)
    let z <-jg true y (arrOf s) sb nb (nb-1)
    match z with
    |some q=>
     if(q==0)=true then pure true
     else if na-k<=q then do
      let x <-v9 ((arrOf s).extract (sa+k) sb) ((arrOf s).extract sb (sb+q))
      lJ (sa+k) x
     else do
      let x <-we ((arrOf s).extract (sa+k) sb) ((arrOf s).extract sb (sb+q))
      lJ (sa+k) x
    |_=>pure false
  |_=>pure false
 |_=>unsupported "internal:list.sort.pending"
theorem VM:mergeAt'=A1:=by kernel_rfl
noncomputable abbrev U1:=Option Unit×Nat
noncomputable abbrev U2:=Option Unit×Unit
noncomputable def Ey(lo n:Nat):SS (ForInStep U1):=do
 modify λs=>setPending s ((pendingOf s).push (lo,n,0))
 pure (.yield (aD,lo+n))
noncomputable def Ez(pw:Nat):SS (ForInStep U2):=do
 let s <-get
 match if(pendingOf s).size>1 then(pendingOf s)[(pendingOf s).size-2]? else aD with
 |some (_,_,old)=>
  if old<=pw then pure (.done (aD,()))
  else do
   let b <-mergeAt' ((pendingOf s).size-2)
   if(!b)=true then pure (.done (aC (),()))else pure (.yield (aD,()))
 |_=>pure (.done (aD,()))
noncomputable def EA(z lo n:Nat):SS (ForInStep U1):=do
 let s <-get
 match(pendingOf s).back? with
 |some (s1,n1,_)=>do
  let u <-forIn [0:z] ((aD,()):U2) λ_ _=>Ez (power' z (2*s1+n1) (2*s1+n1+n1+n) z)
  match u.1 with
  |some r=>pure (.done (aC r,lo))
  |none=>do
   modify λs=>setPending s ((pendingOf s).modify ((pendingOf s).size-1) λx=>match x with|(st,len,_)=>(st,len,power' z (2*s1+n1) (2*s1+n1+n1+n) z))
   Ey lo n
 |_=>Ey lo n
noncomputable def Ob(z m:Nat)(t:U1):SS (ForInStep U1):=if t.2>=z then pure (.done (aD,t.2))else do
 let x <-countRun' t.2 (z-t.2)
 match x with
 |some n=>
  if n<m then do
   rule "list.sort.binary-insertion"
   let b <-binarySort' t.2 (min (z-t.2) m) n
   if(!b)=true then pure (.done (aC (),t.2))else EA z t.2 (min (z-t.2) m)
  else EA z t.2 n
 |_=>pure (.done (aC (),t.2))
noncomputable def Ia(p:Array (Nat×Nat×Nat)):Nat:=if Option.any (λx=>decide (x<p[p.size-2+1]?.elim 0 λx=>x.2.1)) (if p.size-2>0 then Option.map (λx=>x.2.1) p[p.size-2-1]? else aD)=true then p.size-2-1 else p.size-2
noncomputable def Oc:SS (ForInStep U2):=do
 let s <-get
 if(pendingOf s).size<=1 then pure (.done (aD,()))
 else do
  let b <-mergeAt' (Ia (pendingOf s))
  if(!b)=true then pure (.done (aC (),()))else pure (.yield (aD,()))
noncomputable def Od:SS Unit:=do
 let s <-get
 let t <-forIn [0:(arrOf s).size] ((aD,0):U1) λ_ t=>Ob (arrOf s).size (minRun' (arrOf s).size (arrOf s).size 0) t
 match t.1 with
 |some r=>pure r
 |none=>do
  let u <-forIn [0:(arrOf s).size] ((aD,()):U2) λ_ _=>Oc
  match u.1 with|some r=>pure r|none=>pure ()
theorem VN:sortRuns'=Od:=by kernel_rfl
end TS
namespace TS
open PySem PySem.W PyProof.Rows KO
theorem Oe{α β:Type}(f:α->β){m:Nat}:∀(x:List (α×Nat)) (a:Array α),(x.map λy=>(f y.1,y.2)).foldl (λa y=>a.setIfInBounds (m+y.2) y.1) (a.map f)=(x.foldl (λa y=>a.setIfInBounds (m+y.2) y.1) a).map f
 |[],a=>rfl
 |y::x,a=>by
  rw[gQ,Du,Du];have e:(a.map f).setIfInBounds (m+y.2) (f y.1)=(a.setIfInBounds (m+y.2) y.1).map f:=by rw[Array.map_setIfInBounds]
  rw[e];exact Oe f x _
theorem VP{f:Nat->Keyed}{m:Nat}{l:List Nat}{p:Array Nat}:put m (ar f l).toList (p.map f)=(put m l p).map f:=by unfold put ar;rw[<-Oe];congr 1;rw[List.zipIdx_map];rfl
theorem Of{α:Type}{m:Nat}:∀(x:List α) (off:Nat) (a:Array α) (t:Nat),m+off+x.length<=a.size->((x.zipIdx off).foldl (λa y=>a.setIfInBounds (m+y.2) y.1) a)[t]?=if m+off<=t/\t<m+off+x.length then x[t- (m+off)]? else a[t]?
 |[],off,a,t,_=>by
  rw[List.zipIdx_nil,List.foldl_nil,if_neg (λz=>by have:=z.2;simp at this;lia)]
 |y::x,off,a,t,h=>by
  rw[fB]at h ⊢;rw[List.zipIdx_cons,Du,Of x (off+1) _ t (by rw[Array.size_setIfInBounds];lia)];rw[Array.getElem?_setIfInBounds];by_cases h1:m+off=t;subst h1;rw[if_neg (by lia),if_pos rfl,if_pos (show m+ (y,off).snd<a.size from by show m+off<a.size;lia),if_pos (by lia),Nat.sub_self];rfl;by_cases h2:m+off<=t/\t<m+off+ (x.length+1);rw[if_pos (by lia),if_pos h2,show t- (m+off)=t- (m+ (off+1))+1 by lia,ve];rw[if_neg (by lia),if_neg h2,if_neg h1]
theorem Ib{α:Type}{m:Nat}{x:List α}{a:Array α}{t:Nat}(h:m+x.length<=a.size):(put m x a)[t]?=if m<=t/\t<m+x.length then x[t-m]? else a[t]?:=Of x 0 a t h
theorem VQ{m:Nat}{x:List Nat}{p:Array Nat}(h:m+x.length<=p.size):(put m x p).toList=p.toList.take m++x++p.toList.drop (m+x.length):=by
 apply List.ext_getElem?;intro t;rw[vt,Ib h];have hl:(p.toList.take m).length=m:=by rw[k7];simp;lia
 by_cases h1:t<m;rw[if_neg (by lia),j9,tR (by lia),List.getElem?_take_of_lt h1,vt];by_cases h2:t<m+x.length;rw[if_pos ⟨by lia,h2⟩,tR (by rw[eZ];lia),qw (by lia),hl];rw[if_neg (by lia),qw (by rw[eZ];lia),eZ,hl,List.getElem?_drop,vt];congr 1;lia
theorem VR{p:Array Nat}{i:Nat}:p.toList.getD i 0=p.getD i 0:=by rw[tQ,vt,xW]
section
variable{prog:ai}{w:ak}{A:ao}{E:aa->af->Prop}{s:af}{κ:SortKind}{f:Nat->Keyed}{r:Nat->Int}{N:Nat}
theorem VS{x st:SortSt}{Q:PUnit->SortSt->Prop}(h:Q ⟨⟩ x):wpS (model prog w) A E s (set x:SS PUnit) Q st:=by unfold wpS;rw[StateT.run_set];exact bz ⟨rfl,h⟩
theorem uo{p:Array Nat}{i:Nat}:r (p.toList.getD i 0)=J r p i:=by rw[VR];exact AK p i
theorem VT{p:Array Nat}:p.map f=ar f p.toList:=by unfold ar;apply Array.toList_inj.mp;rw[Array.toList_map]
theorem rJ{p:Array Nat}{lf:Bool}{x bs i:Nat}:Bf r lf x p.toList bs i=if lf then decide (J r p (bs+i)<r x)else !decide (r x<J r p (bs+i)):=by unfold Bf;rw[uo (r:=r)]
theorem yl{p:Array Nat}{a n i:Nat}(hi:i<n)(hz:a+n<=p.size):∃h:i< ((p.toList.drop a).take n).length,r (((p.toList.drop a).take n)[i])=J r p (a+i):=by
 have h:i< ((p.toList.drop a).take n).length:=by rw[k7,kI];simp;lia
 refine⟨h,?_⟩;rw[List.getElem_take,List.getElem_drop,<-uo (r:=r) (p:=p),oh (by simp;lia)]
theorem A2{p:Array Nat}{a n:Nat}(hz:a+n<=p.size):((p.toList.drop a).take n).length=n:=by rw[k7,kI];simp;lia
theorem Og{p:Array Nat}{a n:Nat}(h:Ri r p a (a+n))(hz:a+n<=p.size):So r ((p.toList.drop a).take n):=by refine vc.mpr λi j hi hj hij=>?_;rw[A2 hz]at hi hj;obtain⟨_,e1⟩:=yl (r:=r) hi hz;obtain⟨_,e2⟩:=yl (r:=r) hj hz;rw[e1,e2];exact h _ _ (by lia) (by lia) (by lia)
theorem EB{p:Array Nat}{a n x:Nat}(h:x∈(p.toList.drop a).take n)(hz:a+n<=p.size):x∈p/\∃i,i<n/\r x=J r p (a+i):=by refine⟨by simpa using List.mem_of_mem_drop (yY h),?_⟩;obtain⟨i,hi,e⟩:=yZ h;rw[A2 hz]at hi;obtain⟨_,e1⟩:=yl (r:=r) hi hz;exact⟨i,hi,by rw[<-e,e1]⟩
theorem VU{p:Array Nat}{sa m0 m1 sc:Nat}{x:List Nat}(P:Pm N p)(h1:sa<=m0)(hm:m0<m1)(h2:m1<=sc)(hc:sc<=N)(hx:x.Perm ((p.toList.drop m0).take (m1-m0)))(sx:So r x)
 (a1:Ri r p sa m0) (a2:Ri r p m1 sc) (b1:∀i,sa<=i->i<m0->∀j,m0<=j->j<m1->J r p i<=J r p j) (b2:∀i,m1<=i->i<sc->∀j,m0<=j->j<m1->J r p j<=J r p i) :
 (put m0 x p).Perm p/\Ou p (put m0 x p) sa sc/\Ri r (put m0 x p) sa sc:=by
 have zp:=P.z;have lx:x.length=m1-m0:=by rw[hx.length_eq,A2 (by lia)]
 have hz:m0+x.length<=p.size:=by lia
 have hJ:∀t,J r (put m0 x p) t=if m0<=t/\t<m1 then r (x.getD (t-m0) 0)else J r p t:=λt=>by
  have e:=Ib (t:=t) hz;rw[lx,show m0+ (m1-m0)=m1 by lia]at e;by_cases q:m0<=t/\t<m1;rw[if_pos q]at e ⊢;unfold J;rw[e,tQ];rw[if_neg q]at e ⊢;exact uf e
 have hmem:∀t,t<m1-m0->∃j,m0<=j/\j<m1/\r (x.getD t 0)=J r p j:=λt ht=>by
  rw[oh (by lia)];obtain⟨_,i,hi,e⟩:=EB (r:=r) (hx.mem_iff.mp (iG (show t<x.length by lia))) (by lia);exact⟨m0+i,by lia,by lia,e⟩
 refine⟨?_,λt ht=>?_,λi j hi hij hj=>?_⟩;refine Array.perm_iff_toList_perm.mpr ?_;rw[VQ hz,lx,show m0+ (m1-m0)=m1 by lia];have e:p.toList=p.toList.take m0++(p.toList.drop m0).take (m1-m0)++p.toList.drop m1:=by
  rw[j9];have:p.toList.drop m0=(p.toList.drop m0).take (m1-m0)++p.toList.drop m1:=by have:=AU (l:=p.toList) (i:=m0) (k:=m1-m0);rw[show m0+ (m1-m0)=m1 by lia]at this;exact this
  rw[<-this,List.take_append_drop]
 refine List.Perm.trans ?_ (List.Perm.of_eq e.symm);exact DC (vcs _ hx) (qz _);rw[Ib hz,if_neg (by lia)];rw[hJ,hJ];by_cases qi:m0<=i/\i<m1;rw[if_pos qi];by_cases qj:m0<=j/\j<m1;rw[if_pos qj,oh (by lia),oh (by lia)];exact sx.at_ (by lia) (by lia);rw[if_neg qj];obtain⟨t,t1,t2,e⟩:=hmem (i-m0) (by lia);rw[e];exact b2 j (by lia) (by lia) t t1 t2;rw[if_neg qi];by_cases qj:m0<=j/\j<m1;rw[if_pos qj];obtain⟨t,t1,t2,e⟩:=hmem (j-m0) (by lia);rw[e];exact b1 i hi (by lia) t t1 t2;rw[if_neg qj];by_cases y:i<m0;by_cases z:j<m0;exact a1 i j hi hij z;exact kc (b1 i hi y m0 (aQ _) hm) (b2 j (by lia) hj m0 (aQ _) hm);exact a2 i j (by lia) hij hj
theorem Ri.join{p:Array Nat}{a b c:Nat}(x:Ri r p a b)(y:Ri r p b c)(h:∀i,a<=i->i<b->b<c->J r p i<=J r p b):Ri r p a c:=λi j h1 h2 h3=>by
 by_cases q:j<b;exact x i j h1 h2 q;by_cases z:i<b;exact kc (h i h1 z (by lia)) (y b j (aQ _) (by lia) h3);exact y i j (by lia) h2 h3
theorem Oh(c:Cp prog w A s κ f r N){p:Array Nat}{pd:Array (Nat×Nat×Nat)}{g i sa na pw nb Ic:Nat}(P:Pm N p)(e1:pd[i]?=aC (sa,na,pw))(e2:pd[i+1]?=aC (sa+na,nb,Ic))(ha:1<=na)(hb:1<=nb)(hn:sa+na+nb<=N)(s1:Ri r p sa (sa+na))(s2:Ri r p (sa+na) (sa+na+nb)){Q:Bool->SortSt->Prop}
 (h:∀q g',q.Perm p->Ou p q sa (sa+na+nb)->Ri r q sa (sa+na+nb)->Q true (St κ f q ((pd.setIfInBounds i (sa,na+nb,pw)).eraseIdxIfInBounds (i+1)) g')):wpS (model prog w) A E s (mergeAt' i) Q (St κ f p pd g):=by
 have zp:=P.z;rw[VM];unfold A1;refine aX (nM ?_);show wpS _ _ _ _ (match(pd[i]?,pd[i+1]?)with|(aC (sa,na,pw),aC (sb,nb,_))=>_|_=>_) _ _;rw[e1,e2];dsimp only;refine aX (VS ?_);show wpS _ _ _ _ _ Q (St κ f p ((pd.setIfInBounds i (sa,na+nb,pw)).eraseIdxIfInBounds (i+1)) g);generalize (pd.setIfInBounds i (sa,na+nb,pw)).eraseIdxIfInBounds (i+1)=rK at h ⊢;have ea:arrOf (St κ f p pd g)=ar f p.toList:=VT;rw[ea];have lp:p.toList.length=N:=by simpa using zp
 have bl:∀y∈p.toList,y<N:=λy hy=>P.b y (by simpa using hy);refine aX (bK (show sa+na<p.toList.length by lia) ?_);have eb:r p.toList[sa+na]=J r p (sa+na):=by rw[<-uo (r:=r) (p:=p),oh (by lia)]
 have xb:p.toList[sa+na]<N:=bl _ (iG _);refine aX (HS c bl xb (λi j a b=>by rw[uo (r:=r),uo (r:=r)];exact s1 _ _ (by lia) (by lia) (by lia)) (by lia) (by lia) rfl λk hk k1 k2=>?_);have Oi:∀i,i<k->J r p (sa+i)<=J r p (sa+na):=λi hi=>by
  have:=k1 i hi;rw[rJ,eb]at this;simp only[dS,dB,tP,u5]at this;exact pU.mp this
 have VW:∀i,k<=i->i<na->J r p (sa+na)<J r p (sa+i):=λi hi hi2=>by
  have:=k2 i hi hi2;rw[rJ,eb]at this;simpa using this
 dsimp only;by_cases x1:(na-k==0)=true;rw[if_pos x1];have AW:na-k=0:=by simpa using x1
 refine bw (h p g (xX _) .refl (s1.join s2 λi h1 h2 _=>?_));have:=Oi (i-sa) (by lia);rw[show sa+ (i-sa)=i by lia]at this;exact this;rw[if_neg x1];have AW:na-k≠0:=by simpa using x1
 rw[show sa+k+ (na-k)-1=sa+na-1 by lia];refine aX (bK (show sa+na-1<p.toList.length by lia) ?_);have ec:r p.toList[sa+na-1]=J r p (sa+na-1):=by rw[<-uo (r:=r) (p:=p),oh (by lia)]
 have xc:p.toList[sa+na-1]<N:=bl _ (iG _);refine aX (HS c bl xc (λi j a b=>by rw[uo (r:=r),uo (r:=r)];exact s2 _ _ (by lia) (by lia) (by lia)) (by lia) (by lia) rfl λq hq q1 q2=>?_);have Ie:∀i,i<q->J r p (sa+na+i)<J r p (sa+na-1):=λi hi=>by
  have:=q1 i hi;rw[rJ,ec]at this;simpa using this
 have ym:∀i,q<=i->i<nb->J r p (sa+na-1)<=J r p (sa+na+i):=λi hi hi2=>by
  have:=q2 i hi hi2;rw[rJ,ec]at this;simp only[b9,u5]at this;exact pU.mp this
 dsimp only;by_cases x2:(q==0)=true;rw[if_pos x2];have HW:q=0:=by simpa using x2
 refine bw (h p g (xX _) .refl (s1.join s2 λi h1 h2 _=>?_));exact kc (s1 i (sa+na-1) h1 (by lia) (by lia)) (by simpa using ym 0 (by lia) (by lia));rw[if_neg x2];have HW:q≠0:=by simpa using x2
 rw[pY,pY,show sa+na- (sa+k)=na-k by lia,show sa+na+q- (sa+na)=q by lia];have za:sa+k+ (na-k)<=p.size:=by lia
 have zb:sa+na+q<=p.size:=by lia
 have ra:Ri r p (sa+k) (sa+k+ (na-k)):=λi j h1 h2 h3=>s1 i j (by lia) h2 (by lia);have rb:Ri r p (sa+na) (sa+na+q):=λi j h1 h2 h3=>s2 i j h1 h2 (by lia);have la:=A2 za;have lb:=A2 zb;have T:Tw N r ((p.toList.drop (sa+k)).take (na-k)) ((p.toList.drop (sa+na)).take q):=by refine⟨λx hx=>P.b x (EB (r:=r) hx za).1,λx hx=>P.b x (EB (r:=r) hx zb).1,Og ra za,Og rb zb,by lia,by lia,?_,λx hx i hi hi2=>?_⟩;obtain⟨_,u1⟩:=yl (r:=r) (i:=0) (show 0<na-k by lia) za;obtain⟨_,u2⟩:=yl (r:=r) (i:=0) (show 0<q by lia) zb;rw[u1,u2];exact nN (VW k (aQ _) (by lia));obtain⟨_,j,hj,e⟩:=EB (r:=r) hx zb;rw[la]at hi2;obtain⟨_,u1⟩:=yl (r:=r) (i:=i) (show i<na-k by lia) za;rw[u1,e,show sa+k+i=sa+na-1 by lia];exact Ie j hj
 have fin:∀x g',Mg f r ((p.toList.drop (sa+k)).take (na-k)) ((p.toList.drop (sa+na)).take q) x->wpS (model prog w) A E s (lJ (sa+k) x) Q (St κ f p rK g'):=λx g' m=>by
  obtain⟨l,rfl,pl,sl⟩:=m;unfold lJ;have hj:(p.toList.drop (sa+k)).take (na-k)++(p.toList.drop (sa+na)).take q=(p.toList.drop (sa+k)).take (sa+na+q- (sa+k)):=by rw[show sa+na+q- (sa+k)=(na-k)+q by lia,List.take_add,List.drop_drop,show sa+k+ (na-k)=sa+na by lia]
  rw[hj]at pl;obtain⟨z1,z2,z3⟩:=VU (r:=r) (sc:=sa+na+nb) P (show sa<=sa+k by lia) (show sa+k<sa+na+q by lia) (by lia) hn pl sl
   (λi j h1 h2 h3=>s1 i j h1 h2 (by lia)) (λi j h1 h2 h3=>s2 i j (by lia) h2 h3)
   (λi h1 h2 j h3 h4=>by
     by_cases y:j<sa+na;exact s1 i j h1 (by lia) y;have:=Oi (i-sa) (by lia);rw[show sa+ (i-sa)=i by lia]at this;exact kc this (s2 (sa+na) j (aQ _) (by lia) (by lia)))
   (λi h1 h2 j h3 h4=>by
     by_cases y:j<sa+na;have:=ym (i- (sa+na)) (by lia) (by lia);rw[show sa+na+ (i- (sa+na))=i by lia]at this;exact kc (s1 j (sa+na-1) (by lia) (by lia) (by lia)) this;exact s2 j i (by lia) (by lia) h2)
  refine aX (xT ?_);show wpS _ _ _ _ _ _ (SortSt.mk' κ (put (sa+k) (ar f l).toList (p.map f)) rK g' aD);rw[VP];refine aX (nM (bw ?_));exact h _ g' z1 z2 z3
 split;exact aX (AY c T fin);exact aX (A0 c T fin)
end
end TS
namespace TS
open PySem PySem.W PyProof.Rows KO
noncomputable def fF(r:Nat->Int)(p:Array Nat):Nat->List (Nat×Nat)->Nat->Prop|a,[],b=>a=b|a,x::t,b=>x.1=a/\1<=x.2/\Ri r p a (a+x.2)/\fF r p (a+x.2) t b
noncomputable def sh(pd:Array (Nat×Nat×Nat)):List (Nat×Nat):=pd.toList.map λx=>(x.1,x.2.1)
variable{r:Nat->Int}{p q:Array Nat}
theorem fF.le:∀{l:List (Nat×Nat)} {a b:Nat},fF r p a l b->a+l.length<=b
 |[],_,_,h=>by cases h;exact aQ _
 |x::t,a,b,h=>by
  have:=fF.le h.2.2.2;have:=h.2.1;rw[fB];lia
theorem fF.app:∀{l m:List (Nat×Nat)} {a b:Nat},fF r p a (l++m) b->∃c,fF r p a l c/\fF r p c m b
 |[],m,a,b,h=>⟨a,rfl,h⟩
 |x::t,m,a,b,h=>by
  obtain⟨c,h1,h2⟩:=fF.app (l:=t) h.2.2.2;exact⟨c,⟨h.1,h.2.1,h.2.2.1,h1⟩,h2⟩
theorem fF.join:∀{l m:List (Nat×Nat)} {a b c:Nat},fF r p a l c->fF r p c m b->fF r p a (l++m) b|[],m,a,b,c,h1,h2=>by cases h1;exact h2|x::t,m,a,b,c,h1,h2=>⟨h1.1,h1.2.1,h1.2.2.1,fF.join h1.2.2.2 h2⟩
theorem fF.out:∀{l:List (Nat×Nat)} {a b x y:Nat},fF r p a l b->Ou p q x y->(b<=x\/y<=a)->fF r q a l b
 |[],a,b,x,y,h,_,_=>h
 |z::t,a,b,x,y,h,o,e=>by
  have:=fF.le h.2.2.2;exact⟨h.1,h.2.1,h.2.2.1.out o (by lia),fF.out h.2.2.2 o (by lia)⟩
theorem VX{pd:Array (Nat×Nat×Nat)}{a n w:Nat}:sh (pd.push (a,n,w))=sh pd++[(a,n)]:=by unfold sh;rw[Array.toList_push,tT];rfl
theorem wg{pd:Array (Nat×Nat×Nat)}:(sh pd).length=pd.size:=by unfold sh;simp
theorem VY{pd:Array (Nat×Nat×Nat)}{i w:Nat}:sh (pd.modify i λx=>match x with
 |(st,len,_)=>(st,len,w))=sh pd:=by
 unfold sh;apply List.ext_getElem?;intro k;rw[gp,gp,vt,vt,Array.getElem?_modify];split;cases pd[k]?<;>rfl;rfl
theorem Oj{pd:Array (Nat×Nat×Nat)}{i:Nat}(hi:i+1<pd.size):∃x y,pd[i]?=aC x/\pd[i+1]?=aC y/\sh pd=(sh pd).take i++(x.1,x.2.1):: (y.1,y.2.1):: (sh pd).drop (i+2)/\
 ∀n w,sh ((pd.setIfInBounds i (x.1,n,w)).eraseIdxIfInBounds (i+1))=(sh pd).take i++(x.1,n):: (sh pd).drop (i+2):=by
 have h0:i<pd.toList.length:=by simp;lia
 have h1:i+1<pd.toList.length:=by simp;lia
 refine⟨pd[i],pd[i+1],pV (by lia),pV hi,?_,λn w=>?_⟩;have e:pd.toList=pd.toList.take i++pd[i]::pd[i+1]::pd.toList.drop (i+2):=by have a:=tS h0;have b:=tS h1;rw[show i+1+1=i+2 by lia]at b;rw[b]at a;have:=(List.take_append_drop i pd.toList).symm;rw[a]at this;simpa using this
 unfold sh;rw[<-List.map_take,<-List.map_drop];have:=kF (List.map λx:Nat×Nat×Nat=>(x.1,x.2.1)) e;rw[tT,gQ,gQ]at this;exact this;have e:((pd.setIfInBounds i (pd[i].1,n,w)).eraseIdxIfInBounds (i+1)).toList=pd.toList.take i++(pd[i].1,n,w)::pd.toList.drop (i+2):=by
  have z:((pd.setIfInBounds i (pd[i].1,n,w)).eraseIdxIfInBounds (i+1)).toList=(pd.toList.set i (pd[i].1,n,w)).eraseIdx (i+1):=by unfold Array.eraseIdxIfInBounds;rw[dif_pos (by rw[Array.size_setIfInBounds];exact hi),Array.toList_eraseIdx,Array.toList_setIfInBounds]
  rw[z,List.eraseIdx_eq_take_drop_succ];have a:(pd.toList.set i (pd[i].1,n,w)).take (i+1)=pd.toList.take i++[(pd[i].1,n,w)]:=by rw[List.take_add_one,List.take_set_of_le (aQ _)];congr 1;rw[nH h0];rfl
  have b:(pd.toList.set i (pd[i].1,n,w)).drop (i+1+1)=pd.toList.drop (i+2):=by rw[List.drop_set_of_lt (by lia)]
  rw[a,b,j9];rfl
 unfold sh;rw[e,tT,gQ,<-List.map_take,<-List.map_drop]
section
variable{prog:ai}{w:ak}{A:ao}{E:aa->af->Prop}{s:af}{κ:SortKind}{f:Nat->Keyed}{r:Nat->Int}{N:Nat}
noncomputable def A3(κ:SortKind)(f:Nat->Keyed)(r:Nat->Int)(p0:Array Nat)(lo m:Nat)(st:SortSt):Prop:=∃q pd g,st=St κ f q pd g/\q.Perm p0/\fF r q 0 (sh pd) lo/\1<=pd.size/\pd.size<=m
theorem Ol(c:Cp prog w A s κ f r N){p0 q:Array Nat}(P:Pm N p0){pd:Array (Nat×Nat×Nat)}{g i lo:Nat}(hp:q.Perm p0)(C:fF r q 0 (sh pd) lo)(hl:lo<=N)(hi:i+1<pd.size){Q:Bool->SortSt->Prop}
 (h:∀st,A3 κ f r p0 lo (pd.size-1) st->Q true st):wpS (model prog w) A E s (mergeAt' i) Q (St κ f q pd g):=by
 obtain⟨⟨sa,na,pw⟩,⟨sb,nb,Ic⟩,e1,e2,e3,e4⟩:=Oj hi;dsimp only at e3 e4;rw[e3]at C;obtain⟨a,C1,C2⟩:=C.app;obtain⟨z1,ha,s1,z2,hb,s2,C3⟩:=C2;dsimp only at z1 ha s1 z2 hb s2 C3;subst z1 z2;have l1:=C1.le;have l3:=C3.le;refine Oh c (P.perm hp) e1 e2 ha hb (by lia) s1 s2 λq' g' hq o u=>h _ ⟨q',_,g',rfl,hq.trans hp,?_,?_,?_⟩;rw[e4];refine(C1.out o (.inl (aQ _))).join ⟨rfl,by lia,by rw[<-Dj];exact u,?_⟩;rw[<-Dj];exact C3.out o (.inr (aQ _));rw[<-wg,e4,eZ,fB];lia;rw[<-wg,e4,eZ,fB,kI,k7,wg];lia
theorem zxz(c:Cp prog w A s κ f r N){p0:Array Nat}(P:Pm N p0){pw lo m:Nat}(hl:lo<=N){st:SortSt}(I:A3 κ f r p0 lo m st){Q:ForInStep U2->SortSt->Prop}
 (h:∀st,A3 κ f r p0 lo m st->Q (.done (aD,())) st/\Q (.yield (aD,())) st):wpS (model prog w) A E s (Ez pw) Q st:=by
 have I0:=I;obtain⟨q,pd,g,rfl,hp,C,h1,h2⟩:=I;unfold Ez;refine aX (nM ?_);show wpS _ _ _ _ (match if pd.size>1 then pd[pd.size-2]? else aD with|some (_,_,old)=>_|_=>_) _ _;by_cases x:pd.size>1;rw[if_pos x,pV (by lia)];obtain⟨a,b,old⟩:=pd[pd.size-2];dsimp only;by_cases y:old<=pw;rw[if_pos y];exact bw (h _ I0).1;rw[if_neg y];refine aX (Ol c P hp C hl (show pd.size-2+1<pd.size by lia) λst I=>bw (h st ?_).2);obtain⟨q,rK,g,e,a,b,c1,c2⟩:=I;exact⟨q,rK,g,e,a,b,c1,by lia⟩;rw[if_neg x];exact bw (h _ I0).1
theorem Om{p0 q:Array Nat}{pd:Array (Nat×Nat×Nat)}{g lo n:Nat}(hp:q.Perm p0)(C:fF r q 0 (sh pd) lo)(h1:1<=n)(u:Ri r q lo (lo+n)){Q:ForInStep U1->SortSt->Prop}(h:∀q pd g,q.Perm p0->fF r q 0 (sh pd) (lo+n)->1<=pd.size->Q (.yield (aD,lo+n)) (St κ f q pd g)) :
 wpS (model prog w) A E s (Ey lo n) Q (St κ f q pd g):=by
 unfold Ey;refine aX (xT (bw ?_));exact h q (pd.push (lo,n,0)) g hp (by rw[VX];exact C.join ⟨rfl,h1,u,rfl⟩) (by rw[Array.size_push];lia)
theorem Oo(c:Cp prog w A s κ f r N){p0 q:Array Nat}(P:Pm N p0){pd:Array (Nat×Nat×Nat)}{g lo n z:Nat}(hp:q.Perm p0)(C:fF r q 0 (sh pd) lo)(h1:1<=n)(hl:lo+n<=N)(u:Ri r q lo (lo+n)){Q:ForInStep U1->SortSt->Prop}(h:∀q pd g,q.Perm p0->fF r q 0 (sh pd) (lo+n)->1<=pd.size->Q (.yield (aD,lo+n)) (St κ f q pd g)) :
 wpS (model prog w) A E s (EA z lo n) Q (St κ f q pd g):=by
 unfold EA;refine aX (nM ?_);show wpS _ _ _ _ (match pd.back? with|some (s1,n1,_)=>_|_=>_) _ _;cases e:pd.back? with
 |none=>exact Om hp C h1 u h
 |some x=>
  obtain⟨s1,n1,x3⟩:=x;dsimp only;have hz:1<=pd.size:=by rw[Array.back?_eq_getElem?]at e;have:=(Array.getElem?_eq_some_iff.mp e).1;lia
  generalize power' z (2*s1+n1) (2*s1+n1+n1+n) z=pw;refine aX (jF (jE (I:=λ_ d st'=>d=(aD,())/\∃q pd g,st'=St κ f q pd g/\q.Perm p0/\fF r q 0 (sh pd) lo/\1<=pd.size/\Ri r q lo (lo+n))
   (Q:=λd st'=>d=(aD,())/\∃q pd g,st'=St κ f q pd g/\q.Perm p0/\fF r q 0 (sh pd) lo/\1<=pd.size/\Ri r q lo (lo+n)) ?step (λ_ _ h=>h) ⟨rfl,q,pd,g,rfl,hp,C,hz,u⟩) ?post)
  case step=>
   rintro x d st' _ _ ⟨rfl,q,pd,g,rfl,hp,C,hz,u⟩;unfold Ez;refine aX (nM ?_);show wpS _ _ _ _ (match if pd.size>1 then pd[pd.size-2]? else aD with|some (_,_,old)=>_|_=>_) _ _;by_cases x:pd.size>1;rw[if_pos x,pV (by lia)];obtain⟨a,b,old⟩:=pd[pd.size-2];dsimp only;by_cases y:old<=pw;rw[if_pos y];exact bw ⟨rfl,q,pd,g,rfl,hp,C,hz,u⟩;rw[if_neg y];obtain⟨⟨sa,na,pw⟩,⟨sb,nb,Ic⟩,e1,e2,e3,e4⟩:=Oj (pd:=pd) (i:=pd.size-2) (by lia);dsimp only at e3 e4;rw[e3]at C;obtain⟨a,C1,C2⟩:=C.app;obtain⟨z1,ha,t1,z2,hb,t2,C3⟩:=C2;dsimp only at z1 ha t1 z2 hb t2 C3;subst z1 z2;have l1:=C1.le;have l3:=C3.le;refine aX (Oh c (P.perm hp) e1 e2 ha hb (by lia) t1 t2 λq' g' hq o v=>bw ⟨rfl,q',_,g',rfl,hq.trans hp,?_,?_,u.out o (.inr (by lia))⟩);rw[e4];refine(C1.out o (.inl (aQ _))).join ⟨rfl,by lia,by rw[<-Dj];exact v,?_⟩;rw[<-Dj];exact C3.out o (.inr (aQ _));rw[<-wg,e4,eZ,fB];lia;rw[if_neg x];exact bw ⟨rfl,q,pd,g,rfl,hp,C,hz,u⟩
  case post=>
   rintro d st' ⟨rfl,q,pd,g,rfl,hp,C,hz,u⟩;dsimp only;refine aX (xT ?_);exact Om (pd:=pd.modify (pd.size-1) _) hp (by rw[VY];exact C) h1 u h
theorem VZ{pd:Array (Nat×Nat×Nat)}(h:1<pd.size):Ia pd+1<pd.size:=by
 unfold Ia
 repeat' split
 all_goals lia
theorem V0(c:Cp prog w A s κ f r N){p:Array Nat}(P:Pm N p)(h2:2<=N){Q:Unit->SortSt->Prop}(h:∀q pd g,q.Perm p->Ri r q 0 N->Q () (St κ f q pd g)):wpS (model prog w) A E s sortRuns' Q (St κ f p #[] 7):=by
 rw[VN];unfold Od;refine aX (nM ?_);have hz:(arrOf (St κ f p #[] 7)).size=N:=by show(p.map f).size=N;rw[Array.size_map];exact P.z
 rw[hz];generalize minRun' N N 0=mr;refine aX (jF (jE (I:=λx d st'=>∃lo q pd g,d=(aD,lo)/\st'=St κ f q pd g/\q.Perm p/\fF r q 0 (sh pd) lo/\lo<=N/\x<=lo)
  (Q:=λd st'=>∃q pd g,d=(aD,N)/\st'=St κ f q pd g/\q.Perm p/\fF r q 0 (sh pd) N) ?step ?fin ⟨0,p,#[],7,rfl,rfl,xX _,rfl,gh _,aQ _⟩) ?post)
 case fin=>
  rintro d st' ⟨lo,q,pd,g,rfl,rfl,hp,C,a,b⟩;obtain rfl:lo=N:=by lia
  exact⟨q,pd,g,rfl,rfl,hp,C⟩
 case step=>
  rintro x d st' _ hx ⟨lo,q,pd,g,rfl,rfl,hp,C,a,b⟩;unfold Ob;dsimp only;by_cases y:lo>=N;rw[if_pos y];obtain rfl:lo=N:=by lia
  exact bw ⟨q,pd,g,rfl,rfl,hp,C⟩;rw[if_neg y];refine aX (VB c (P.perm hp) (by lia) (by lia) λn q' n1 nm hq o u=>?_);dsimp only;have C':=C.out o (.inl (aQ _));have en:∀n,1<=n->lo+n<=N->∀q pd g,q.Perm p->fF r q 0 (sh pd) (lo+n)->1<=pd.size->∃lo' q' rK g',((aD,lo+n):U1)=(aD,lo')/\St κ f q pd g=St κ f q' rK g'/\q'.Perm p/\fF r q' 0 (sh rK) lo'/\lo'<=N/\x+1<=lo':=λn n1 nm q pd g hp C _=>⟨_,q,pd,g,rfl,rfl,hp,C,nm,by lia⟩
  by_cases z:n<mr;rw[if_pos z];refine aX (vq (kH ⟨rfl,?_⟩));refine aX (VC c (P.perm (hq.trans hp)) n1 (by lia) (by lia) u λq2 hq2 o2 u2=>?_);rw[if_neg (by simp)];exact Oo c P (hq2.trans (hq.trans hp)) (C'.out o2 (.inl (aQ _))) (by lia) (by lia) u2 (en _ (by lia) (by lia));rw[if_neg z];exact Oo c P (hq.trans hp) C' n1 (by lia) u (en _ n1 (by lia))
 case post=>
  rintro d st' ⟨q,pd,g,rfl,rfl,hp,C⟩;dsimp only;have l:=C.le;rw[wg,nu]at l;have l1:1<=pd.size:=by
   rw[<-wg];cases e:sh pd with|nil=>rw[e]at C;have:0=N:=C;lia|cons a t=>rw[fB];lia
  refine aX (jF (jE (I:=λx d st'=>d=(aD,())/\A3 κ f r p N (max 1 (N-x)) st')
   (Q:=λd st'=>d=(aD,())/\A3 κ f r p N 1 st') ?A4 ?Ig ⟨rfl,q,pd,g,rfl,hp,C,l1,by lia⟩) ?A5)
  case Ig=>
   rintro d st' ⟨rfl,I⟩;rw[show max 1 (N-max 0 N)=1 by lia]at I;exact⟨rfl,I⟩
  case A4=>
   rintro x d st' _ hx ⟨rfl,q,pd,g,rfl,hp,C,l1,l2⟩;unfold Oc;refine aX (nM ?_);show wpS _ _ _ _ (if pd.size<=1 then _ else _) _ _;by_cases y:pd.size<=1;rw[if_pos y];exact bw ⟨rfl,q,pd,g,rfl,hp,C,l1,y⟩;rw[if_neg y];refine aX (Ol c P hp C (aQ _) (VZ (by lia)) λst I=>bw ⟨rfl,?_⟩);obtain⟨q,rK,g,e,a,b,c1,c2⟩:=I;exact⟨q,rK,g,e,a,b,c1,by lia⟩
  case A5=>
   rintro d st' ⟨rfl,q,pd,g,rfl,hp,C,l1,l2⟩;refine bw (h q pd g hp ?_);have e:(sh pd).length=1:=by rw[wg];lia
   obtain⟨x,ex⟩:=List.length_eq_one_iff.mp e;rw[ex]at C;obtain⟨_,_,u,v⟩:=C;have v:0+x.2=N:=v;rw[v]at u;exact u
end
end TS
namespace LX
noncomputable def bP:List Int->List Int->Bool|a::as,b::bs=>if a=b then bP as bs else decide (a<b)|_,_=>false
theorem Ih:∀a:List Int,bP a a=false|[]=>rfl|x::r=>by unfold bP;rw[if_pos rfl];exact Ih r
theorem EC:∀{a b c:List Int},a.length=b.length->b.length=c.length->bP a b=true->bP b c=true->bP a c=true
 |[],[],_,_,_,h,_=>by simp[bP]at h
 |x::a,y::b,z::c,h1,h2,h3,h4=>by
  unfold bP at h3 h4 ⊢;by_cases e1:x=y;subst e1;rw[if_pos rfl]at h3;by_cases e2:x=z;subst e2;rw[if_pos rfl]at h4 ⊢;exact EC (by simpa using h1) (by simpa using h2) h3 h4;rw[if_neg e2]at h4 ⊢;exact h4;rw[if_neg e1]at h3;have l1:x<y:=by simpa using h3
  by_cases e2:y=z;subst e2;rw[if_neg e1];exact h3;rw[if_neg e2]at h4;have l2:y<z:=by simpa using h4
  rw[if_neg (by lia)];exact kE (by lia)
 |[],y::_,_,h,_,_,_=>by simp at h
 |_::_,[],_,h,_,_,_=>by simp at h
 |_::_,_::_,[],_,h,_,_=>by simp at h
theorem ED:∀{a b:List Int},a.length=b.length->a≠b->bP a b=true\/bP b a=true
 |[],[],_,h=>absurd rfl h
 |x::a,y::b,h1,h2=>by
  unfold bP;by_cases e:x=y;subst e;rw[if_pos rfl,if_pos rfl];exact ED (by simpa using h1) λz=>h2 (by rw[z]);rw[if_neg e,if_neg (λz=>e z.symm)];simp only[fL];lia
 |[],_::_,h,_=>by simp at h
 |_::_,[],h,_=>by simp at h
theorem Oq{α:Type}{p q:α->Bool}:∀{l:List α} {x:α},(∀y∈l,p y=true->q y=true)->x∈l->p x=false->q x=true->l.countP p<l.countP q
 |y::l,x,h,hx,hp,hq=>by
  rw[List.countP_cons,List.countP_cons];have m:l.countP p<=l.countP q:=List.countP_mono_left λz hz=>h z (dU _ hz);have hy:=h y (fM ..);rcases gy.mp hx with e|e
  subst e;rw[hp,hq];simp;lia;have:=Oq (λz hz=>h z (dU _ hz)) e hp hq;cases a:p y with|true=>rw[hy a];simp;lia|false=>simp;lia
noncomputable def rk(ks:List (List Int))(i:Nat):Int:=((ks.countP λk=>bP k (ks.getD i [])):Nat)
section
variable{ks:List (List Int)}{m:Nat}
theorem lK(hm:∀k∈ks,k.length=m){i j:Nat}(hi:i<ks.length)(hj:j<ks.length)(h:bP (ks.getD i []) (ks.getD j [])):rk ks i<rk ks j:=by
 have mi:ks.getD i []∈ks:=by simp[hi]
 have mj:ks.getD j []∈ks:=by simp[hj]
 unfold rk;refine Int.ofNat_lt.mpr (Oq (x:=ks.getD i []) (λy hy e=>?_) mi (Ih _) h);exact EC (by rw[hm _ hy,hm _ mi]) (by rw[hm _ mi,hm _ mj]) e h
theorem Ot(nd:ks.Nodup){i j:Nat}(hi:i<ks.length)(hj:j<ks.length)(h:i≠j):ks.getD i []≠ks.getD j []:=λe=>by
 have e':ks[i]=ks[j]:=by simpa[hi,hj]using e
 rcases Nat.lt_or_gt_of_ne h with x|x;exact vc.mp nd i j hi hj x e';exact vc.mp nd j i hj hi x e'.symm
theorem Ov(hm:∀k∈ks,k.length=m)(nd:ks.Nodup){i j:Nat}(hi:i<ks.length)(hj:j<ks.length):decide (rk ks i<rk ks j)=bP (ks.getD i []) (ks.getD j []):=by
 have mi:ks.getD i []∈ks:=by simp[hi]
 have mj:ks.getD j []∈ks:=by simp[hj]
 cases e:bP (ks.getD i []) (ks.getD j [])with
 |true=>exact kE (lK hm hi hj e)
 |false=>
  refine iE λz=>?_;by_cases x:i=j;subst x;lia;rcases ED (by rw[hm _ mi,hm _ mj]) (Ot nd hi hj x)with y|y
  rw[e]at y;cases y;have:=lK hm hj hi y;lia
theorem V1(hm:∀k∈ks,k.length=m)(nd:ks.Nodup){i j:Nat}(hi:i<ks.length)(hj:j<ks.length)(h:rk ks i=rk ks j):i=j:=by
 have mi:ks.getD i []∈ks:=by simp[hi]
 have mj:ks.getD j []∈ks:=by simp[hj]
 by_cases x:i=j;exact x;rcases ED (by rw[hm _ mi,hm _ mj]) (Ot nd hi hj x)with y|y
 have:=lK hm hi hj y;lia;have:=lK hm hj hi y;lia
end
end LX
namespace RF
open PySem
inductive W where
 |aO|bl (b:Bool)|int (i:Int)|str (x:Str)|tup (ws:List W)|fz (ws:List W)|ref (i:Nat)
mutual
noncomputable def W.lt(n:Nat):W->Bool|.tup ws=>W.mH n ws|.fz ws=>W.mH n ws|.ref i=>Nat.blt i n|_=>true
noncomputable def W.mH(n:Nat):List W->Bool|[]=>true|w::ws=>W.lt n w&&W.mH n ws
end
inductive VO where
 |lst (ws:List W)|dk (kvs:List (L2.Key×W))|dm (kvs:List (L2.Key×W))
structure VH where
 n:Nat
 lo:Nat
 os:List VO
noncomputable def VH.get(h:VH)(i:Nat):Option VO:=if Nat.blt i h.n then h.os[h.n-1-i]? else aD
noncomputable def VH.set(h:VH)(i:Nat)(o:VO):VH:=⟨h.n,if Nat.blt i h.lo then i else h.lo,h.os.set (h.n-1-i) o⟩
noncomputable def VH.new(h:VH)(o:VO):VH:=⟨h.n+1,h.lo,o::h.os⟩
inductive Res(α:Type)where
 |ok (a:α) (h:VH)|ex (x:W) (h:VH)|no
noncomputable def Res.bind{α β:Type}(r:Res α)(f:α->VH->Res β):Res β:=match r with|.ok a h=>f a h|.ex x h=>.ex x h|.no=>.no
noncomputable def Res.of{α:Type}(o:Option α)(h:VH):Res α:=match o with|some a=>.ok a h|none=>.no
inductive Op where
 |add|sub|mul|fdiv|mod|shl|pow
 deriving DecidableEq
inductive Cp where
 |eq|ne|lt|le|gt|ge|oF|mJ|jy|wj
 deriving DecidableEq
inductive Ty where
 |int|bool|tuple|list|str|dict
 deriving DecidableEq
inductive Bi where
 |len|list|tuple|int|abs|max|min|all|A6|Ow|bI|A7
 deriving DecidableEq
inductive Mt where
 |append|get
 deriving DecidableEq
inductive Kd where
 |seq|bg|wk|pZ|zip|keys
 deriving DecidableEq
inductive Tg where
 |one (i:Nat)|many (is:List Nat)|V2 (i:Nat) (is:List Nat)
 deriving DecidableEq
inductive E where
 |var (i:Nat)|cst (w:W)
 |nil|cons (a r:E)
 |tup (a:E)|lst (a:E)|A8 (a:E)
 |op (o:Op) (a b:E)|neg (a:E)
 |cmp (c:Cp) (a b:E)|wm (c d:Cp) (a b e:E)
 |not (a:E)|and (a b:E)|or (a b:E)|jh (a:E)|ite (c a b:E)
 |idx (a b:E)|slc (a:E) (bl:Bool) (lo:E) (bh:Bool) (hi:E)
 |call (f:Nat) (a:E)|bi (b:Bi) (a:E)|rM (t:Ty) (a:E)|mt (m:Mt) (o a:E)
 |lc (k:Kd) (a:E) (t:Tg) (ow:Nat) (ix:List Nat) (c e:E)
 |oG (k:Kd) (a:E) (t:Tg) (ow:Nat) (ix:List Nat) (c:E) (k2:Kd) (a2:E) (t2:Tg) (c2 e:E)
inductive S where
 |skip|seq (a b:S)|set (i:Nat) (e:E)|A9 (is:List Nat) (e:E)|aug (i:Nat) (o:Op) (e:E)
 |put (o i v:E)|Ba (o i e:E)|ite (c:E) (a b:S)|ret (e:E)|expr (e:E)|brk|cnt
 |for (k:Kd) (a:E) (t:Tg) (b:S)|EE (c:E) (b:S)|no
noncomputable abbrev En:=List (Option W)
inductive Fl where
 |nx (ρ:En)|rt (w:W)|bk (ρ:En)|ct (ρ:En)
noncomputable def aT{α β:Type}(f:α->Option β):List α->Option (List β)
 |[]=>aC []
 |a::r=>match f a with
  |some b=>(match aT f r with
   |some bs=>aC (b::bs)
   |none=>aD)
  |none=>aD
noncomputable def toD(h:VH):Nat->W->Option aB
 |0,_=>aD
 |n+1,w=>match w with
  |.aO=>aC .none
  |.bl b=>aC (.bool b)
  |.int i=>aC (.int i)
  |.str x=>aC (.str x)
  |.tup ws=>(aT (toD h n) ws).map .tuple
  |.fz ws=>(aT (toD h n) ws).map .list
  |.ref i=>match h.get i with
   |some (.lst ws)=>(aT (toD h n) ws).map .list
   |_=>aD
noncomputable def bX(h:VH)(x y:W):Option Bool:=
 match toD h 24 x,toD h 24 y with|some d,aC e=>if SeqAt.shaped d&&SeqAt.shaped e then aC (PyData.eqv d e)else aD|_,_=>aD
noncomputable def big:Nat:=16777216
noncomputable def lM(i:Int):Bool:=decide (-(2 ^ 64)<i)&&decide (i<2 ^ 64)
noncomputable def dP:Op->Int->Int->Option Int|.add,i,j=>aC (i+j)|.sub,i,j=>aC (i-j)|.mul,i,j=>if lM i||lM j then aC (i*j)else aD|.fdiv,i,j=>if decide (0<j)&&decide (j<1073741824)then aC (i/j)else aD|.mod,i,j=>if decide (0<j)then aC (i % j)else aD|.shl,i,j=>if decide (0<=j)&&decide (j<=1000000)&&decide (i.natAbs<2 ^ 64)then aC (i*2 ^ j.toNat)else aD|.pow,i,j=>if decide (0<=j)&&decide (j<=1000000)&&decide (i.natAbs<2 ^ 64)then aC (i ^ j.toNat)else aD
noncomputable def Ii:Op->List W->List W->Option (List W)|.add,xs,ys=>if Nat.ble (xs.length+ys.length) big then aC (xs++ys)else aD|_,_,_=>aD
noncomputable def Ij:Op->List W->List W->Option (List W)|.add,xs,ys=>if Nat.ble (xs.length+ys.length) big then aC (xs++ys)else aD|_,_,_=>aD
noncomputable def fits(i:Int):Bool:=decide (-(2 ^ 62)<=i)&&decide (i<2 ^ 62)
noncomputable def rN(o:Op)(xs:List W)(k:Int):Option (List W):=match o with|.mul=>if fits k&&Nat.ble (xs.length*k.toNat) big then aC (bE k.toNat xs).flatten else aD|_=>aD
noncomputable def fN(o:Op)(x y:W)(h:VH):Res W:=match x,y with
 |.int i,.int j=>.of ((dP o i j).map .int) h
 |.tup xs,.tup ys=>.of ((Ii o xs ys).map .tup) h
 |.tup xs,.int k=>.of ((rN o xs k).map .tup) h
 |.ref i,.ref j=>match h.get i,h.get j with
  |some (.lst xs),aC (.lst ys)=>(match Ij o xs ys with
   |some zs=>.ok (.ref h.n) (h.new (.lst zs))
   |none=>.no)
  |_,_=>.no
 |_,_=>.no
noncomputable def yo(o:Op)(x y:W)(h:VH):Res W:=match x,y with
 |.int i,.int j=>(match o with
  |.add=>.ok (.int (i+j)) h
  |.sub=>.ok (.int (i-j)) h
  |.mul=>.of ((dP .mul i j).map .int) h
  |.fdiv=>.of ((dP .fdiv i j).map .int) h
  |_=>.no)
 |.ref i,.ref j=>match o,h.get i,h.get j with
  |.add,aC (.lst xs),aC (.lst ys)=>if Nat.ble (xs.length+ys.length) big then .ok (.ref i) (h.set i (.lst (xs++ys)))else .no
  |_,_,_=>.no
 |.tup (x::xs),.tup ys=>(match o with
  |.add=>if Nat.ble ((x::xs).length+ys.length) big then .ok (.tup (x::xs++ys)) h else .no
  |_=>.no)
 |_,_=>.no
noncomputable def fT:Cp->Int->Int->Option Bool|.lt,i,j=>aC (decide (i<j))|.le,i,j=>aC (decide (i<=j))|.gt,i,j=>aC (decide (j<i))|.ge,i,j=>aC (decide (j<=i))|_,_,_=>aD
noncomputable def cQ:W->Bool|.aO=>true|_=>false
noncomputable def aP(h:VH):W->Option (List W)
 |.tup ws=>aC ws
 |.fz ws=>aC ws
 |.ref i=>match h.get i with
  |some (.lst ws)=>aC ws
  |_=>aD
 |_=>aD
noncomputable def intD:W->Option Int|.int i=>aC i|_=>aD
noncomputable def mK(h:VH)(x y:W):Option Bool:=match aP h y,toD h 24 x with
 |some ws,aC d=>(match aT (toD h 24) ws with
  |some ds=>if ds.all SeqAt.shaped&&SeqAt.shaped d then aC (L2.fk ds d)else aD
  |none=>aD)
 |_,_=>aD
noncomputable def Bb:W->W->Option Bool|.bl c,.bl b=>aC (c==b)|_,_=>aD
noncomputable def aR(c:Cp)(h:VH)(x y:W):Option Bool:=match c with
 |.jy=>mK h x y
 |.wj=>(mK h x y).map (!·)
 |.eq=>bX h x y
 |.ne=>(bX h x y).map (!·)
 |.oF=>if cQ y then aC (cQ x)else Bb x y
 |.mJ=>if cQ y then aC (!cQ x)else(Bb x y).map (!·)
 |c=>match x,y with
  |.int i,.int j=>fT c i j
  |_,_=>aD
noncomputable def mO(h:VH):W->Option Bool
 |.bl b=>aC b
 |.int i=>aC (i != 0)
 |.aO=>aC false
 |.tup ws=>aC (!ws.isEmpty)
 |.ref i=>match h.get i with
  |some (.lst ws)=>aC (!ws.isEmpty)
  |_=>aD
 |_=>aD
noncomputable def rO:W->Option L2.Key|.int i=>aC (.inl i)|.str x=>aC (.inr x)|_=>aD
noncomputable def bY(kvs:List (L2.Key×W))(k:L2.Key):Option W:=(kvs.find? λkv=>decide (kv.1=k)).map (·.2)
noncomputable def jR(kvs:List (L2.Key×W))(k:L2.Key)(w:W):List (L2.Key×W):=
 if(kvs.any λkv=>decide (kv.1=k))=true then kvs.map (λkv=>if kv.1=k then(kv.1,w)else kv)else kvs++[(k,w)]
noncomputable def bS(h:VH)(x y:W):Option W:=match x,y with
 |.tup ws,.int i=>L2.dH ws i
 |.fz ws,.int i=>L2.dH ws i
 |.ref a,.int i=>(match h.get a with
  |some (.lst ws)=>L2.dH ws i
  |some (.dk kvs)=>bY kvs (.inl i)
  |some (.dm kvs)=>bY kvs (.inl i)
  |_=>aD)
 |.ref a,.str x=>(match h.get a with
  |some (.dk kvs)=>bY kvs (.inr x)
  |_=>aD)
 |_,_=>aD
noncomputable def dY(b:Bool)(w:W):Option (Option Int):=match b,w with|false,_=>aC aD|true,.int i=>aC (aC i)|_,_=>aD
noncomputable def ji(ws:List W)(lo hi:Option Int):List W:=(ws.drop (HT.bH ws.length 0 lo)).take (HT.bH ws.length ws.length hi-HT.bH ws.length 0 lo)
noncomputable def jS(x:W)(l u:Option Int)(h:VH):Res W:=match x with
 |.tup ws=>.ok (.tup (ji ws l u)) h
 |.ref i=>(match h.get i with
  |some (.lst ws)=>.ok (.ref h.n) (h.new (.lst (ji ws l u)))
  |_=>.no)
 |_=>.no
@[simp] theorem Bc {ws:List W} {l u:Option Int} {h:VH}:jS (.tup ws) l u h=.ok (.tup (ji ws l u)) h:=rfl
noncomputable def dR:Ty->VH->W->Option Bool
 |t,_,.aO=>aC false
 |t,_,.bl _=>aC (t == .int||t == .bool)
 |t,_,.int _=>aC (t == .int)
 |t,_,.str _=>aC (t == .str)
 |t,_,.tup _=>aC (t == .tuple)
 |_,_,.fz _=>aD
 |t,h,.ref i=>match h.get i with
  |some (.lst _)=>aC (t == .list)
  |some (.dk _)=>aC (t == .dict)
  |_=>aD
noncomputable def gB(xs:List W)(h:VH):Res W:=match xs with
 |[x]=>.of (match aP h x with
  |some ws=>aC (.int ws.length)
  |none=>aD) h
 |_=>.no
noncomputable def iR(xs:List W)(h:VH):Res W:=match xs with
 |[x]=>(match aP h x with
  |some ws=>.ok (.ref h.n) (h.new (.lst ws))
  |none=>.no)
 |_=>.no
noncomputable def uq(xs:List W)(h:VH):Res W:=match xs with
 |[x]=>.of (match aP h x with
  |some ws=>aC (.tup ws)
  |none=>aD) h
 |_=>.no
noncomputable def kR(xs:List W)(h:VH):Res W:=match xs with|[.int i]=>.ok (.int i) h|[.bl b]=>.ok (.int (if b then 1 else 0)) h|_=>.no
noncomputable def kT(xs:List W)(h:VH):Res W:=match xs with|[.int i]=>.ok (.int (if i<0 then -i else i)) h|_=>.no
noncomputable def iZ:W->Option Int|.int i=>aC i|_=>aD
noncomputable def dF:Int->List Int->Int|x,[]=>x|x,y::r=>dF (if y>x then y else x) r
noncomputable def rP(xs:List W)(h:VH):Res W:=match xs with
 |[.int i,.int j]=>.ok (.int (if j>i then j else i)) h
 |[.ref i]=>(match h.get i with
  |some (.lst ws)=>(match aT iZ ws with
   |some (x::r)=>.ok (.int (dF x r)) h
   |_=>.no)
  |_=>.no)
 |_=>.no
noncomputable def kU(xs:List W)(h:VH):Res W:=match xs with|[.int i,.int j]=>.ok (.int (if j<i then j else i)) h|_=>.no
noncomputable def p5:W->Option Bool|.bl b=>aC b|_=>aD
noncomputable def mP(xs:List W)(h:VH):Res W:=match xs with
 |[.ref i]=>(match h.get i with
  |some (.lst ws)=>.of ((aT p5 ws).map λbs=>.bl (bs.all id)) h
  |_=>.no)
 |_=>.no
noncomputable def Be(j:Nat):List W:=(List.range' 0 j).map λ(i:Nat)=>W.int (0+ (i:Int))
noncomputable def jT(xs:List W)(h:VH):Res W:=match xs with|[.int i]=>if decide (0<=i)&&Nat.ble i.toNat big then .ok (.ref h.n) (h.new (.lst (Be i.toNat)))else .no|_=>.no
noncomputable def wo(xs:List W)(h:VH):Res W:=match xs with|[]=>.ok (.ref h.n) (h.new (.dm []))|_=>.no
noncomputable def Bg(xs:List W)(h:VH):Res W:=match xs with
 |[.ref i]=>(match h.get i with
  |some (.dm kvs)=>.ok (.ref i) (h.set i (.dk kvs))
  |some (.dk _)=>.ok (.ref i) h
  |_=>.no)
 |_=>.no
noncomputable def kW:W->Option (List Int)|.tup ws=>aT iZ ws|_=>aD
noncomputable def mQ(x:List Int):List (List Int)->List (List Int)|[]=>[x]|y::r=>if LX.bP x y then x::y::r else y::mQ x r
noncomputable def jU:List (List Int)->List (List Int)|[]=>[]|x::r=>mQ x (jU r)
noncomputable def oH:List (List Int)->Bool|k::k2::r=>Nat.ble 1 k.length&& (k::k2::r).all λq=>Nat.beq q.length k.length|_=>true
noncomputable def mR(xs:List W)(h:VH):Res W:=match xs with
 |[.ref i]=>(match h.get i with
  |some (.lst ws)=>(match aT kW ws with
   |some ks=>if decide ks.Nodup&&oH ks then .ok (.ref h.n) (h.new (.lst ((jU ks).map λk=>.tup (k.map .int))))else .no
   |none=>.no)
  |_=>.no)
 |_=>.no
noncomputable def iS(b:Bi)(xs:List W)(h:VH):Res W:=match b with|.abs=>kT xs h|.max=>rP xs h|.min=>kU xs h|.all=>mP xs h|.A6=>jT xs h|.Ow=>wo xs h|.bI=>Bg xs h|.A7=>mR xs h|.len=>gB xs h|.list=>iR xs h|.tuple=>uq xs h|.int=>kR xs h
noncomputable def EF(kvs more:List (L2.Key×W)):List (L2.Key×W):=more.foldl (λacc kv=>jR acc kv.1 kv.2) kvs
noncomputable def wu(m:Mt)(o:W)(xs:List W)(h:VH):Res W:=match m,o,xs with
 |.append,.ref i,[x]=>(match h.get i with
  |some (.lst ws)=>if Nat.blt ws.length big then .ok .aO (h.set i (.lst (ws++[x])))else .no
  |_=>.no)
 |.get,.ref i,[k,d]=>(match h.get i,rO k with
  |some (.dk kvs),aC k=>.ok ((bY kvs k).getD d) h
  |some (.dm kvs),aC k=>.ok ((bY kvs k).getD d) h
  |_,_=>.no)
 |_,_,_=>.no
noncomputable def Bh(m:Mt)(h:VH)(o:W):Bool:=match m,o with
 |.append,.ref i=>(match h.get i with
  |some (.lst _)=>true
  |_=>false)
 |.get,.ref i=>(match h.get i with
  |some (.dk _)=>true
  |some (.dm _)=>true
  |_=>false)
 |_,_=>false
noncomputable def Ik:L2.Key->W|.inl i=>.int i|.inr x=>.str x
noncomputable def bf(k:Kd)(x:W)(i:Nat)(h:VH):Option (Option W):=match k with
 |.seq=>(aP h x).map λws=>ws[i]?
 |.pZ=>(match x with
  |.tup ws=>aC ((ws[i]?).map λw=>.tup [.int i,w])
  |_=>aD)
 |.keys=>(match x with
  |.ref a=>(match h.get a with
   |some (.dk kvs)=>(match kvs[i]? with
    |some kv=>aC (aC (Ik kv.1))
    |none=>if Nat.beq i kvs.length then aC aD else aD)
   |_=>aD)
  |_=>aD)
 |.zip=>(match x with
  |.tup [u,v]=>(match aP h u,aP h v with
   |some ws,aC zs=>aC (match ws[i]?,zs[i]? with
    |some a,aC b=>aC (.tup [a,b])
    |_,_=>aD)
   |_,_=>aD)
  |_=>aD)
 |.bg=>(match x with
  |.tup [.int j]=>if fits j then aC (if decide ((i:Int)<j)then aC (.int (0+i))else aD)else aD
  |_=>aD)
 |.wk=>(match x with
  |.tup [.int a,.int b]=>if fits a&&fits b then aC (if decide ((i:Int)<b-a)then aC (.int (a+i))else aD)else aD
  |_=>aD)
noncomputable def ko:List Nat->List W->En->Option En|[],[],ρ=>aC ρ|i::is,w::ws,ρ=>ko is ws (ρ.set i (aC w))|_,_,_=>aD
noncomputable def bx(t:Tg)(w:W)(h:VH)(ρ:En):Option En:=match t with
 |.one i=>aC (ρ.set i (aC w))
 |.V2 j is=>(match w with
  |.tup [x,y]=>(match aP h y with
   |some ws=>ko is ws (ρ.set j (aC x))
   |none=>aD)
  |_=>aD)
 |.many is=>match aP h w with
  |some ws=>ko is ws ρ
  |none=>aD
noncomputable def fuel:Nat:=1000000
noncomputable def inner(ow:Nat)(ix:List Nat)(ρ:En):En:=bE ow aD++ix.map λj=>(ρ[j]?).join
noncomputable def gu(nx:Nat->VH->Option (Option W))(tg:W->VH->En->Option En)(c:En->VH->Res W)(e:En->VH->Res W):Nat->Nat->En->VH->List W->Res (List W)
 |0,_,_,_,_=>.no
 |f+1,i,ρ,h,acc=>match nx i h with
  |none=>.no
  |some aD=>.ok acc.reverse h
  |some (aC w)=>match tg w h ρ with
   |none=>.no
   |some ρ=>(c ρ h).bind λb h=>match b with
    |.bl true=>(e ρ h).bind λy h=>gu nx tg c e f (i+1) ρ h (y::acc)
    |.bl false=>gu nx tg c e f (i+1) ρ h acc
    |_=>.no
noncomputable def iT(nx:Nat->VH->Option (Option W))(tg:W->VH->En->Option En)(c:En->VH->Res W)(e:En->VH->Res W):Nat->Nat->En->VH->List W->Res (En×List W)
 |0,_,_,_,_=>.no
 |f+1,i,ρ,h,acc=>match nx i h with
  |none=>.no
  |some aD=>.ok (ρ,acc) h
  |some (aC w)=>match tg w h ρ with
   |none=>.no
   |some ρ=>(c ρ h).bind λb h=>match b with
    |.bl true=>(e ρ h).bind λy h=>iT nx tg c e f (i+1) ρ h (y::acc)
    |.bl false=>iT nx tg c e f (i+1) ρ h acc
    |_=>.no
noncomputable def kq(nx:Nat->VH->Option (Option W))(tg:W->VH->En->Option En)(c:En->VH->Res W)(jy:En->VH->List W->Res (En×List W)):Nat->Nat->En->VH->List W->Res (List W)
 |0,_,_,_,_=>.no
 |f+1,i,ρ,h,acc=>match nx i h with
  |none=>.no
  |some aD=>.ok acc.reverse h
  |some (aC w)=>match tg w h ρ with
   |none=>.no
   |some ρ=>(c ρ h).bind λb h=>match b with
    |.bl true=>(jy ρ h acc).bind λp h=>kq nx tg c jy f (i+1) p.1 h p.2
    |.bl false=>kq nx tg c jy f (i+1) ρ h acc
    |_=>.no
noncomputable def cZ(nx:Nat->VH->Option (Option W))(tg:W->VH->En->Option En)(b:En->VH->Res Fl):Nat->Nat->En->VH->Res Fl
 |0,_,_,_=>.no
 |f+1,i,ρ,h=>match nx i h with
  |none=>.no
  |some aD=>.ok (.nx ρ) h
  |some (aC w)=>match tg w h ρ with
   |none=>.no
   |some ρ=>(b ρ h).bind λfl h=>match fl with
    |.nx ρ=>cZ nx tg b f (i+1) ρ h
    |.ct ρ=>cZ nx tg b f (i+1) ρ h
    |.bk ρ=>.ok (.nx ρ) h
    |.rt w=>.ok (.rt w) h
noncomputable def fG(c:En->VH->Res W)(b:En->VH->Res Fl):Nat->En->VH->Res Fl
 |0,_,_=>.no
 |f+1,ρ,h=>(c ρ h).bind λt h=>match t with
  |.bl false=>.ok (.nx ρ) h
  |.bl true=>(b ρ h).bind λfl h=>match fl with
   |.nx ρ=>fG c b f ρ h
   |.ct ρ=>fG c b f ρ h
   |.bk ρ=>.ok (.nx ρ) h
   |.rt w=>.ok (.rt w) h
  |_=>.no
noncomputable def ur:List W->Option (List (L2.Key×W))
 |[]=>aC []
 |k::v::r=>match rO k with
  |some k=>(match ur r with
   |some kvs=>aC ((k,v)::kvs)
   |none=>aD)
  |none=>aD
 |_=>aD
noncomputable def Bj(kvs:List (L2.Key×W)):VO:=.dk (EF [] kvs)
noncomputable def rQ(ρ:En)(a:Nat)(j:Int)(w:W)(h:VH):Res Fl:=match h.get a with|some (.dm kvs)=>if Nat.blt kvs.length big then .ok (.nx ρ) (h.set a (.dm (jR kvs (.inl j) w)))else .no|_=>.no
noncomputable def jV(x y:W)(h:VH):Res Int:=match x,y with
 |.ref a,.int j=>(match h.get a with
  |some (.lst ws)=>(match L2.dH ws j with
   |some (.int p)=>.ok p h
   |_=>.no)
  |_=>.no)
 |_,_=>.no
noncomputable def kX(ρ:En)(x y:W)(p:Int)(z:W)(h:VH):Res Fl:=match x,y,z with
 |.ref a,.int j,.int q=>(match h.get a with
  |some (.lst ws)=>(match L2.gR ws.length j with
   |some k=>.ok (.nx ρ) (h.set a (.lst (ws.set k (.int (p+q)))))
   |none=>.no)
  |_=>.no)
 |_,_,_=>.no
noncomputable abbrev Call:=Nat->List W->VH->Res W
noncomputable def ev(cl:Call):E->En->VH->Res W
 |.var i,ρ,h=>.of (ρ[i]?).join h
 |.cst w,_,h=>.ok w h
 |.nil,_,h=>.ok (.tup []) h
 |.cons a r,ρ,h=>(ev cl a ρ h).bind λx h=>(ev cl r ρ h).bind λy h=>match y with
  |.tup ys=>.ok (.tup (x::ys)) h
  |_=>.no
 |.tup a,ρ,h=>(ev cl a ρ h).bind λy h=>match y with
  |.tup ys=>if Nat.ble ys.length 1000 then .ok (.tup ys) h else .no
  |_=>.no
 |.lst a,ρ,h=>(ev cl a ρ h).bind λy h=>match y with
  |.tup ys=>if Nat.ble ys.length 1000 then .ok (.ref h.n) (h.new (.lst ys))else .no
  |_=>.no
 |.A8 a,ρ,h=>(ev cl a ρ h).bind λy h=>match y with
  |.tup ys=>(match ur ys with
   |some kvs=>if Nat.ble kvs.length 15 then .ok (.ref h.n) (h.new (Bj kvs))else .no
   |none=>.no)
  |_=>.no
 |.op o a b,ρ,h=>(ev cl a ρ h).bind λx h=>(ev cl b ρ h).bind λy h=>fN o x y h
 |.neg a,ρ,h=>(ev cl a ρ h).bind λx h=>match x with
  |.int i=>.ok (.int (-i)) h
  |_=>.no
 |.cmp c a b,ρ,h=>(ev cl a ρ h).bind λx h=>(ev cl b ρ h).bind λy h=>.of ((aR c h x y).map .bl) h
 |.wm c d a b e,ρ,h=>(ev cl a ρ h).bind λx h=>(ev cl b ρ h).bind λy h=>match aR c h x y with
  |some true=>(ev cl e ρ h).bind λz h=>.of ((aR d h y z).map .bl) h
  |some false=>.ok (.bl false) h
  |none=>.no
 |.not a,ρ,h=>(ev cl a ρ h).bind λx h=>match x with
  |.bl b=>.ok (.bl (!b)) h
  |_=>.no
 |.and a b,ρ,h=>(ev cl a ρ h).bind λx h=>match x with
  |.bl true=>ev cl b ρ h
  |.bl false=>.ok (.bl false) h
  |_=>.no
 |.or a b,ρ,h=>(ev cl a ρ h).bind λx h=>match x with
  |.bl true=>.ok (.bl true) h
  |.bl false=>ev cl b ρ h
  |_=>.no
 |.jh a,ρ,h=>(ev cl a ρ h).bind λx h=>.of ((mO h x).map .bl) h
 |.ite c a b,ρ,h=>(ev cl c ρ h).bind λx h=>match x with
  |.bl true=>ev cl a ρ h
  |.bl false=>ev cl b ρ h
  |_=>.no
 |.idx a b,ρ,h=>(ev cl a ρ h).bind λx h=>(ev cl b ρ h).bind λy h=>.of (bS h x y) h
 |.slc a bl lo bh hi,ρ,h=>(ev cl a ρ h).bind λx h=>(ev cl lo ρ h).bind λl h=>(ev cl hi ρ h).bind λu h=>match dY bl l,dY bh u with
  |some l,aC u=>jS x l u h
  |_,_=>.no
 |.call f a,ρ,h=>(ev cl a ρ h).bind λy h=>match y with
  |.tup ys=>cl f ys h
  |_=>.no
 |.bi b a,ρ,h=>(ev cl a ρ h).bind λy h=>match y with
  |.tup ys=>iS b ys h
  |_=>.no
 |.rM t a,ρ,h=>(ev cl a ρ h).bind λx h=>.of ((dR t h x).map .bl) h
 |.mt m o a,ρ,h=>(ev cl o ρ h).bind λx h=>if Bh m h x then(ev cl a ρ h).bind λy h=>match y with
  |.tup ys=>wu m x ys h
  |_=>.no
  else .no
 |.lc k a t ow ix c e,ρ,h=>(ev cl a ρ h).bind λx h=>(gu (bf k x) (bx t) (ev cl c) (ev cl e) fuel 0 (inner ow ix ρ) h []).bind λys h=>if Nat.ble ys.length big then .ok (.ref h.n) (h.new (.lst ys))else .no
 |.oG k a t ow ix c k2 a2 t2 c2 e,ρ,h=>(ev cl a ρ h).bind λx h=>(kq (bf k x) (bx t) (ev cl c) (λρ h acc=>(ev cl a2 ρ h).bind λy h=>iT (bf k2 y) (bx t2) (ev cl c2) (ev cl e) fuel 0 ρ h acc) fuel 0 (inner ow ix ρ) h []).bind λys h=>if Nat.ble ys.length big then .ok (.ref h.n) (h.new (.lst ys))else .no
noncomputable def exs(cl:Call):S->En->VH->Res Fl
 |.skip,ρ,h=>.ok (.nx ρ) h
 |.seq a b,ρ,h=>(exs cl a ρ h).bind λfl h=>match fl with
  |.nx ρ=>exs cl b ρ h
  |fl=>.ok fl h
 |.set i e,ρ,h=>(ev cl e ρ h).bind λw h=>.ok (.nx (ρ.set i (aC w))) h
 |.A9 is e,ρ,h=>(ev cl e ρ h).bind λw h=>.of ((bx (.many is) w h ρ).map .nx) h
 |.aug i o e,ρ,h=>match(ρ[i]?).join with
  |some x=>(ev cl e ρ h).bind λy h=>(yo o x y h).bind λz h=>.ok (.nx (ρ.set i (aC z))) h
  |none=>.no
 |.put o i v,ρ,h=>(ev cl v ρ h).bind λw h=>(ev cl o ρ h).bind λx h=>(ev cl i ρ h).bind λy h=>match x,y with
  |.ref a,.int j=>(match h.get a with
   |some (.lst ws)=>(match L2.gR ws.length j with
    |some k=>.ok (.nx ρ) (h.set a (.lst (ws.set k w)))
    |none=>.no)
   |_=>rQ ρ a j w h)
  |_,_=>.no
 |.Ba o i e,ρ,h=>(ev cl o ρ h).bind λx h=>(ev cl i ρ h).bind λy h=>(jV x y h).bind λp h=>(ev cl e ρ h).bind λz h=>kX ρ x y p z h
 |.ite c a b,ρ,h=>(ev cl c ρ h).bind λx h=>match x with
  |.bl true=>exs cl a ρ h
  |.bl false=>exs cl b ρ h
  |_=>.no
 |.ret e,ρ,h=>(ev cl e ρ h).bind λw h=>.ok (.rt w) h
 |.expr e,ρ,h=>(ev cl e ρ h).bind λ_ h=>.ok (.nx ρ) h
 |.brk,ρ,h=>.ok (.bk ρ) h
 |.cnt,ρ,h=>.ok (.ct ρ) h
 |.for k a t b,ρ,h=>(ev cl a ρ h).bind λx h=>cZ (bf k x) (bx t) (exs cl b) fuel 0 ρ h
 |.EE c b,ρ,h=>fG (ev cl c) (exs cl b) fuel ρ h
 |.no,_,_=>.no
structure Fn where
 ps:Nat
 n:Nat
 body:S
noncomputable def leave(h:VH)(w:W)(h':VH):Res W:=
 if Nat.ble h.n h'.lo&&W.lt h.n w then .ok w h else .ok w ⟨h'.n,if Nat.ble h.lo h'.lo then h.lo else h'.lo,h'.os⟩
noncomputable def run(F:Nat->Option Fn):Nat->Call
 |0,_,_,_=>.no
 |k+1,f,ws,h=>match F f with
  |some fn=>if Nat.beq ws.length fn.ps then
   (exs (run F k) fn.body (ws.map aC++bE (fn.n-fn.ps) aD) ⟨h.n,h.n,h.os⟩).bind λfl h'=>match fl with|.nx _=>leave h .aO h'|.rt w=>leave h w h'|_=>.no
   else .no
  |none=>.no
open L2 PyProof.Rows PySem.Spec
noncomputable def Fz(K:aI)(H:Hp)(a:ah)(xs:List V):Prop:=
 (∃o,H a=aC (.bI o (.lst xs)))\/∃(o:Obj) (its:Array aa) (n:Nat),K.lookup a=aC o/\o.cls=.type "list"/\o.dict=aD/\o.data=.seq its n/\its.size<=sizeLine/\Vals xs its.toList
theorem Fz.sq{K:aI}{H:Hp}{a:ah}{xs:List V}(h:Fz K H a xs):cz K H a xs:=h.elim (λ⟨o,q⟩=>.inl (.inr ⟨o,q⟩)) .inr
mutual
inductive aK(K:aI)(m:Nat->ah)(n:Nat)(H:Hp):V->W->Prop
 |aO:aK K m n H .aO .aO
 |bl (b:Bool):aK K m n H (.bl b) (.bl b)
 |int (i:Int):aK K m n H (.int i) (.int i)
 |str (x:Str):aK K m n H (.str x) (.str x)
 |tup {a:ah} {vs:List V} {ws:List W}:bW K H a vs->aF K m n H vs ws->aK K m n H (.ref a) (.tup ws)
 |fz {a:ah} {vs:List V} {ws:List W}:Fz K H a vs->aF K m n H vs ws->aK K m n H (.ref a) (.fz ws)
 |ref {i:Nat}:i<n->aK K m n H (.ref (m i)) (.ref i)
inductive aF(K:aI)(m:Nat->ah)(n:Nat)(H:Hp):List V->List W->Prop
 |nil:aF K m n H [] []
 |cons {v:V} {w:W} {vs:List V} {ws:List W}:aK K m n H v w->aF K m n H vs ws->aF K m n H (v::vs) (w::ws)
end
inductive aN(K:aI)(m:Nat->ah)(n:Nat)(H:Hp):List (Key×V)->List (Key×W)->Prop
 |nil:aN K m n H [] []
 |cons {k:Key} {v:V} {w:W} {vs:List (Key×V)} {ws:List (Key×W)}:aK K m n H v w->aN K m n H vs ws->aN K m n H ((k,v)::vs) ((k,w)::ws)
noncomputable def gC(K:aI)(m:Nat->ah)(n:Nat)(H:Hp)(a:ah):VO->Prop|.lst ws=>∃vs,H a=aC (.lst vs)/\aF K m n H vs ws|.dk kvs=>∃kv,Rd H a (.dK kv)/\aN K m n H kv kvs|.dm kvs=>∃kv,H a=aC (.dK kv)/\aN K m n H kv kvs
structure Rel(K:aI)(m:Nat->ah)(h:VH)(H:Hp):Prop where
 obj:∀i,i<h.n->∃o,h.get i=aC o/\gC K m h.n H (m i) o
 inj:∀i j,i<h.n->j<h.n->m i=m j->i=j
 len:h.os.length=h.n
structure bO(m:Nat->ah)(n:Nat)(H:Hp)(m':Nat->ah)(n':Nat)(H':Hp):Prop where
 le:n<=n'
 same:∀i,i<n->m' i=m i
 new:∀i,n<=i->i<n'->H (m' i)=aD
 apart:∀i j,n<=i->i<n'->j<n->m' i≠m' j
 tup:∀b vs,H b=aC (.tup vs)->H' b=aC (.tup vs)
 bI:∀b o u,H b=aC (.bI o u)->H' b=aC (.bI o u)
 keep:∀b o,(∀i,i<n->m i≠b)->H b=aC o->H' b=aC o
section
variable{K:aI}{m m' m1 m2:Nat->ah}{n n' n1 n2:Nat}{h h':VH}{H H' H1 H2:Hp}
theorem bO.refl:bO m n H m n H:=⟨aQ _,λ_ _=>rfl,λi a b=>absurd b (jB.mpr a),λi j a b=>absurd b (jB.mpr a),λ_ _ q=>q,λ_ _ _ q=>q,λ_ _ _ q=>q⟩
theorem bO.trans(a:bO m n H m1 n1 H1)(b:bO m1 n1 H1 m2 n2 H2):bO m n H m2 n2 H2 where
 le:=gZ a.le b.le
 same:=λi hi=>(b.same i (dN hi a.le)).trans (a.same i hi)
 new:=λi hi hi2=>by
  by_cases hc:i<n1;rw[b.same i hc];exact a.new i hi hc;have hc:=jB.mp hc;cases q:H (m2 i)with
  |none=>rfl
  |some o=>
   have q1:H1 (m2 i)=aD:=b.new i hc hi2;rw[a.keep _ o (λj hj z=>b.apart i j hc hi2 (dN hj a.le) ((b.same j (dN hj a.le)).trans ((a.same j hj).trans z)).symm) q]at q1;cases q1
 apart:=λi j hi hi2 hj=>by
  by_cases hc:i<n1;rw[b.same i hc,b.same j (dN hj a.le)];exact a.apart i j hi hc hj;exact b.apart i j (jB.mp hc) hi2 (dN hj a.le)
 tup:=λc vs q=>b.tup c vs (a.tup c vs q)
 bI:=λc o u q=>b.bI c o u (a.bI c o u q)
 keep:=λc o hc q=>b.keep c o (λi hi=>by
  by_cases hl:i<n;rw[a.same i hl];exact hc i hl;intro z;have:=a.new i (jB.mp hl) hi;rw[z,q]at this;cases this) (a.keep c o hc q)
theorem bO.V3{a:ah}{vs:List V}(s:bO m n H m' n' H')(q:bW K H a vs):bW K H' a vs:=by rcases q with(q|⟨o,q⟩)|q;exact .inl (.inl (s.tup _ _ q));exact .inl (.inr ⟨o,s.bI _ _ _ q⟩);exact .inr q
theorem bO.fz{a:ah}{vs:List V}(s:bO m n H m' n' H')(q:Fz K H a vs):Fz K H' a vs:=by rcases q with⟨o,q⟩|q;exact .inl ⟨o,s.bI _ _ _ q⟩;exact .inr q
mutual
theorem aK.stp(s:bO m n H m' n' H'):∀{v:V} {w:W},aK K m n H v w->aK K m' n' H' v w|_,_,.aO=>.aO|_,_,.bl b=>.bl b|_,_,.int b=>.int b|_,_,.str b=>.str b|_,_,.tup q r=>.tup (s.V3 q) (aF.stp s r)|_,_,.fz q r=>.fz (s.fz q) (aF.stp s r)|_,_,.ref (i:=i) q=>by rw[<-s.same i q];exact .ref (dN q s.le)
theorem aF.stp(s:bO m n H m' n' H'):∀{vs:List V} {ws:List W},aF K m n H vs ws->aF K m' n' H' vs ws|_,_,.nil=>.nil|_,_,.cons q r=>.cons (aK.stp s q) (aF.stp s r)
end
theorem aN.stp(s:bO m n H m' n' H'):∀{vs:List (Key×V)} {ws:List (Key×W)},aN K m n H vs ws->aN K m' n' H' vs ws|_,_,.nil=>.nil|_,_,.cons q r=>.cons (q.stp s) (aN.stp s r)
theorem aF.length:∀{vs:List V} {ws:List W},aF K m n H vs ws->vs.length=ws.length|_,_,.nil=>rfl|_,_,.cons _ r=>by rw[fB,fB,aF.length r]
theorem aF.get:∀{vs:List V} {ws:List W} {i:Nat} {w:W},aF K m n H vs ws->ws[i]?=aC w->∃v,vs[i]?=aC v/\aK K m n H v w
 |_,_,_,_,.nil,e=>by simp at e
 |_,_,0,_,.cons q _,e=>by simp at e;subst e;exact⟨_,rfl,q⟩
 |_,_,i+1,w,.cons _ r,e=>by
  obtain⟨v,h1,h2⟩:=aF.get (i:=i) (w:=w) r (by simpa using e);exact⟨v,by simpa using h1,h2⟩
theorem aF.append:∀{vs us:List V} {ws zs:List W},aF K m n H vs ws->aF K m n H us zs->aF K m n H (vs++us) (ws++zs)|_,_,_,_,.nil,r=>r|_,_,_,_,.cons q r,t=>.cons q (aF.append r t)
theorem aF.drop:∀(k:Nat) {vs:List V} {ws:List W},aF K m n H vs ws->aF K m n H (vs.drop k) (ws.drop k)|0,_,_,r=>r|_+1,_,_,.nil=>.nil|k+1,_,_,.cons _ r=>aF.drop k r
theorem aF.take:∀(k:Nat) {vs:List V} {ws:List W},aF K m n H vs ws->aF K m n H (vs.take k) (ws.take k)|0,_,_,r=>.nil|_+1,_,_,.nil=>.nil|k+1,_,_,.cons q r=>.cons q (aF.take k r)
theorem aF.set{v:V}{w:W}(q:aK K m n H v w):∀(k:Nat) {vs:List V} {ws:List W},aF K m n H vs ws->aF K m n H (vs.set k v) (ws.set k w)|_,_,_,.nil=>.nil|0,_,_,.cons _ r=>.cons q r|k+1,_,_,.cons p r=>.cons p (aF.set q k r)
theorem gC.stp{a:ah}{o:VO}(s:bO m n H m' n' H')(e:H' a=H a)(q:gC K m n H a o):gC K m' n' H' a o:=by
 cases o with|lst ws=>obtain⟨vs,h1,h2⟩:=q;exact⟨vs,e.trans h1,h2.stp s⟩|dk ws=>obtain⟨vs,h1,h2⟩:=q;exact⟨vs,h1.imp (λz=>e.trans z) λ⟨o,z⟩=>⟨o,e.trans z⟩,h2.stp s⟩|dm ws=>obtain⟨vs,h1,h2⟩:=q;exact⟨vs,e.trans h1,h2.stp s⟩
theorem gC.some{a:ah}{o:VO}(q:gC K m n H a o):∃u,H a=aC u:=by
 cases o with
 |lst ws=>obtain⟨vs,h1,h2⟩:=q;exact⟨_,h1⟩
 |dk ws=>
  obtain⟨vs,h1,h2⟩:=q;rcases h1 with h1|⟨o,h1⟩<;>exact⟨_,h1⟩
 |dm ws=>obtain⟨vs,h1,h2⟩:=q;exact⟨_,h1⟩
theorem iU{i j:Nat}:Nat.blt i j=true↔i<j:=by unfold Nat.blt;rw[tO];exact Iff.rfl
theorem bQ{i:Nat}{o:VO}(q:h.get i=aC o):i<h.n:=by unfold VH.get at q;split at q;rename_i z;exact iU.mp z;cases q
theorem Rel.at_(r:Rel K m h H){i:Nat}{o:VO}(q:h.get i=aC o):gC K m h.n H (m i) o:=by obtain⟨o',h1,h2⟩:=r.obj i (bQ q);rw[q]at h1;cases h1;exact h2
theorem Rel.lst(r:Rel K m h H){i:Nat}{ws:List W}(q:h.get i=aC (.lst ws)):∃vs,H (m i)=aC (.lst vs)/\aF K m h.n H vs ws:=r.at_ q
theorem Rel.dk(r:Rel K m h H){i:Nat}{ws:List (Key×W)}(q:h.get i=aC (.dk ws)):∃vs,Rd H (m i) (.dK vs)/\aN K m h.n H vs ws:=r.at_ q
theorem Rel.dm(r:Rel K m h H){i:Nat}{ws:List (Key×W)}(q:h.get i=aC (.dm ws)):∃vs,H (m i)=aC (.dK vs)/\aN K m h.n H vs ws:=r.at_ q
theorem fU{i:Nat}{o:VO}(hi:i<h.n):(h.new o).get i=h.get i:=by
 unfold VH.get VH.new;have h1:Nat.blt i (h.n+1)=true:=iU.mpr (qq hi);have h2:Nat.blt i h.n=true:=iU.mpr hi;simp only[h1,h2,b9];have:h.n+1-1-i=(h.n-1-i)+1:=by lia
 rw[this];rfl
theorem fm{o:VO}:(h.new o).get h.n=aC o:=by
 unfold VH.get VH.new;have h1:Nat.blt h.n (h.n+1)=true:=iU.mpr (jA _);simp only[h1,b9];have:h.n+1-1-h.n=0:=by lia
 rw[this];rfl
theorem Rel.alloc(r:Rel K m h H){p:ah}{o:VO}{u:HO}(hp:H p=aD)(hu:∀t,u≠.tup t)
 (ho:bO m h.n H (λi=>if i=h.n then p else m i) (h.n+1) (upd H p u)->gC K (λi=>if i=h.n then p else m i) (h.n+1) (upd H p u) p o) :
 bO m h.n H (λi=>if i=h.n then p else m i) (h.n+1) (upd H p u)/\Rel K (λi=>if i=h.n then p else m i) (h.new o) (upd H p u):=by
 have tr:∀i,i<h.n->m i≠p:=λi hi z=>by
  obtain⟨o',_,h2⟩:=r.obj i hi;obtain⟨u',h3⟩:=h2.some;rw[z,hp]at h3;cases h3
 have st:bO m h.n H (λi=>if i=h.n then p else m i) (h.n+1) (upd H p u):=by
  refine⟨tN _,λi hi=>by simp only[if_neg (fP hi)],λi hi hi2=>?_,λi j hi hi2 hj=>?_,λb vs q=>?_,λb o u q=>?_,λb o _ q=>?_⟩;have:i=h.n:=by lia
  subst this;simp only[b9];exact hp;have:i=h.n:=by lia
  subst this;simp only[b9,if_neg (fP hj)];exact(tr j hj).symm;rw[bU (gV q hp)];exact q;rw[bU (gV q hp)];exact q;rw[bU (gV q hp)];exact q
 refine⟨st,⟨λi hi=>?_,λi j hi hj z=>?_,?_⟩⟩;have hi:i<h.n+1:=hi;by_cases e:i=h.n;subst e;exact⟨o,fm,by simp only[b9];exact ho st⟩;have hl:i<h.n:=by lia
 obtain⟨o',h1,h2⟩:=r.obj i hl;refine⟨o',(fU hl).trans h1,?_⟩;simp only[if_neg e];exact gC.stp st (bU (tr i hl)) h2;have hi:i<h.n+1:=hi;have hj:j<h.n+1:=hj;by_cases e:i=h.n;by_cases e2:j=h.n;lia;simp only[if_pos e,if_neg e2]at z;exact absurd z.symm (tr j (by lia));by_cases e2:j=h.n;simp only[if_neg e,if_pos e2]at z;exact absurd z (tr i (by lia));simp only[if_neg e,if_neg e2]at z;exact r.inj i j (by lia) (by lia) z;show(o::h.os).length=h.n+1;rw[fB,r.len]
theorem V4(r:Rel K m h H){i:Nat}{o:VO}(hi:i<h.n):(h.set i o).get i=aC o:=by unfold VH.get VH.set;have h1:Nat.blt i h.n=true:=iU.mpr hi;simp only[h1,b9];rw[nH];rw[r.len];lia
theorem iJ{i j:Nat}{o:VO}(hi:i<h.n)(hj:j≠i):(h.set i o).get j=h.get j:=by
 unfold VH.get VH.set;by_cases h1:j<h.n;have h2:Nat.blt j h.n=true:=iU.mpr h1;simp only[h2,b9];rw[xN];lia;have h2:Nat.blt j h.n=false:=by
  cases q:Nat.blt j h.n with|false=>rfl|true=>exact absurd (iU.mp q) h1
 simp only[h2,dS,dB]
theorem Rel.write(r:Rel K m h H){i:Nat}{o:VO}{u u0:HO}(hi:i<h.n)(h0:H (m i)=aC u0)(hn:∀t,u0≠.tup t)(hf:∀o t,u0≠.bI o t)
 (ho:bO m h.n H m h.n (upd H (m i) u)->gC K m h.n (upd H (m i) u) (m i) o) :
 bO m h.n H m h.n (upd H (m i) u)/\Rel K m (h.set i o) (upd H (m i) u):=by
 have st:bO m h.n H m h.n (upd H (m i) u):=by refine⟨aQ _,λ_ _=>rfl,λj a b=>absurd b (jB.mpr a),λj k a b=>absurd b (jB.mpr a),λb vs q=>?_,λb o t q=>?_,λb o nb q=>?_⟩;rw[bU (cM q h0 (λz=>hn vs z.symm))];exact q;rw[bU (cM q h0 (λz=>hf o t z.symm))];exact q;rw[bU (nb i hi).symm];exact q
 refine⟨st,⟨λj hj=>?_,λa b ha hb=>r.inj a b ha hb,?_⟩⟩;have hj:j<h.n:=hj;by_cases e:j=i;subst e;exact⟨o,V4 r hj,ho st⟩;obtain⟨o',h1,h2⟩:=r.obj j hj;exact⟨o',(iJ hi e).trans h1,gC.stp st (bU λz=>e (r.inj j i hj hi z)) h2⟩;show(h.os.set _ o).length=h.n;rw[vj,r.len]
theorem Rel.more(r:Rel K m h H){p:ah}{u:HO}(hp:H p=aD):bO m h.n H m h.n (upd H p u)/\Rel K m h (upd H p u):=by
 have st:bO m h.n H m h.n (upd H p u):=by refine⟨aQ _,λ_ _=>rfl,λj a b=>absurd b (jB.mpr a),λj k a b=>absurd b (jB.mpr a),λb vs q=>?_,λb o t q=>?_,λb o nb q=>?_⟩;rw[bU (gV q hp)];exact q;rw[bU (gV q hp)];exact q;rw[bU (gV q hp)];exact q
 refine⟨st,⟨λj hj=>?_,r.inj,r.len⟩⟩;obtain⟨o',h1,h2⟩:=r.obj j hj;obtain⟨u',h3⟩:=h2.some;exact⟨o',h1,gC.stp st (bU (gV h3 hp)) h2⟩
end
theorem Ox{α β:Type}{r:Res α}{f:α->VH->Res β}{b:β}{h':VH}(q:r.bind f=.ok b h'):∃a h1,r=.ok a h1/\f a h1=.ok b h':=by
 cases r with|ok a h=>exact⟨a,h,rfl,q⟩|ex x h=>cases q|no=>cases q
theorem bL{α β:Type}{r:Res α}{f:α->VH->Res β}{w:β}{h':VH}{P:Prop}(e:r.bind f=.ok w h')(k:∀x h1,r=.ok x h1->f x h1=.ok w h'->P):P:=by obtain⟨x,h1,a,b⟩:=Ox e;exact k x h1 a b
theorem of_ok{α:Type}{o:Option α}{h h':VH}{a:α}(q:Res.of o h=.ok a h'):o=aC a/\h'=h:=by
 cases o with|none=>cases q|some b=>cases q;exact⟨rfl,rfl⟩
structure Fr(K:aI)(m:Nat->ah)(n:Nat)(H:Hp)(σ:L2.St)(ρ:En):Prop where
 len:σ.length=ρ.length
 val:∀(i:Nat)(w:W),ρ[i]?=aC (aC w)->∃v,σ[i]?=aC (aC v)/\aK K m n H v w
noncomputable abbrev FE:=En->VH->Res W
noncomputable abbrev FS:=En->VH->Res Fl
noncomputable def gw(K:aI)(f:FE):TE:=λσ H Q=>∃ρ h m w h',Fr K m h.n H σ ρ/\Rel K m h H/\f ρ h=.ok w h'/\
 ∀v H' m',bO m h.n H m' h'.n H'->Rel K m' h' H'->aK K m' h'.n H' v w->Q v H'
noncomputable def dg(K:aI)(f:FE):TT:=λσ H Q=>∃ρ h m b h',Fr K m h.n H σ ρ/\Rel K m h H/\f ρ h=.ok (.bl b) h'/\
 ∀H' m',bO m h.n H m' h'.n H'->Rel K m' h' H'->Q b H'
noncomputable def mS(K:aI)(f:FE):TA:=λσ H Q=>∃ρ h m ws h',Fr K m h.n H σ ρ/\Rel K m h H/\f ρ h=.ok (.tup ws) h'/\
 ∀vs H' m',bO m h.n H m' h'.n H'->Rel K m' h' H'->aF K m' h'.n H' vs ws->Q vs H'
section
variable{K:aI}{m:Nat->ah}{σ:L2.St}{H:Hp}{P:Prop}{fa:FE}{ρ:En}{h h':VH}
theorem gw.el{Q:VK}(q:gw K fa σ H Q)(k:∀ρ h m w h',Fr K m h.n H σ ρ->Rel K m h H->fa ρ h=.ok w h'->(∀v H' m',bO m h.n H m' h'.n H'->Rel K m' h' H'->aK K m' h'.n H' v w->Q v H')->P):P:=by obtain⟨ρ,h,m,w,h',f,r,e,k'⟩:=q;exact k ρ h m w h' f r e k'
theorem gw.mk{Q:VK}{w:W}(f:Fr K m h.n H σ ρ)(r:Rel K m h H)(e:fa ρ h=.ok w h')(k:∀v H' m',bO m h.n H m' h'.n H'->Rel K m' h' H'->aK K m' h'.n H' v w->Q v H'):gw K fa σ H Q:=⟨ρ,h,m,w,h',f,r,e,k⟩
theorem dg.el{Q:Bool->Hp->Prop}(q:dg K fa σ H Q)(k:∀ρ h m b h',Fr K m h.n H σ ρ->Rel K m h H->fa ρ h=.ok (.bl b) h'->(∀H' m',bO m h.n H m' h'.n H'->Rel K m' h' H'->Q b H')->P):P:=by obtain⟨ρ,h,m,w,h',f,r,e,k'⟩:=q;exact k ρ h m w h' f r e k'
theorem dg.mk{Q:Bool->Hp->Prop}{b:Bool}(f:Fr K m h.n H σ ρ)(r:Rel K m h H)(e:fa ρ h=.ok (.bl b) h')(k:∀H' m',bO m h.n H m' h'.n H'->Rel K m' h' H'->Q b H'):dg K fa σ H Q:=⟨ρ,h,m,b,h',f,r,e,k⟩
theorem mS.el{Q:List V->Hp->Prop}(q:mS K fa σ H Q)(k:∀ρ h m ws h',Fr K m h.n H σ ρ->Rel K m h H->fa ρ h=.ok (.tup ws) h'->(∀vs H' m',bO m h.n H m' h'.n H'->Rel K m' h' H'->aF K m' h'.n H' vs ws->Q vs H')->P):P:=by obtain⟨ρ,h,m,w,h',f,r,e,k'⟩:=q;exact k ρ h m w h' f r e k'
theorem mS.mk{Q:List V->Hp->Prop}{ws:List W}(f:Fr K m h.n H σ ρ)(r:Rel K m h H)(e:fa ρ h=.ok (.tup ws) h')(k:∀vs H' m',bO m h.n H m' h'.n H'->Rel K m' h' H'->aF K m' h'.n H' vs ws->Q vs H'):mS K fa σ H Q:=⟨ρ,h,m,ws,h',f,r,e,k⟩
end
noncomputable abbrev SE(X:Cx)(e:aq)(f:FE):Prop:=PE X e (gw X.K f)
noncomputable abbrev ST(X:Cx)(e:aq)(f:FE):Prop:=PT X e (dg X.K f)
noncomputable abbrev SW(X:Cx)(e:aq)(f:FE):Prop:=PW X e (dg X.K f)
noncomputable abbrev SA(X:Cx)(es:List aq)(f:FE):Prop:=PA X es (mS X.K f)
theorem _root_.L2.PE.imp{X:Cx}{e:aq}{t t':TE}(h:PE X e t)(k:∀σ H Q,t' σ H Q->t σ H Q):PE X e t':=λpins s σ H Q I q=>h pins s σ H Q I (k σ H Q q)
theorem _root_.L2.PT.imp{X:Cx}{e:aq}{t t':TT}(h:PT X e t)(k:∀σ H Q,t' σ H Q->t σ H Q):PT X e t':=λpins s σ H Q I q=>h pins s σ H Q I (k σ H Q q)
theorem _root_.L2.PW.imp{X:Cx}{e:aq}{t t':TT}(h:PW X e t)(k:∀σ H Q,t' σ H Q->t σ H Q):PW X e t':=λwh pins s σ H Q I q=>h wh pins s σ H Q I (k σ H Q q)
theorem _root_.L2.PA.imp{X:Cx}{es:List aq}{t t':TA}(h:PA X es t)(k:∀σ H Q,t' σ H Q->t σ H Q):PA X es t':=λp pins s σ H Q I q=>h p pins s σ H Q I (k σ H Q q)
theorem _root_.L2.PS.imp{X:Cx}{st:au}{t t':TS}(h:PS X st t)(k:∀D σ H,t' D σ H->t D σ H):PS X st t':=λpins s σ H D I q=>h pins s σ H D I (k D σ H q)
theorem _root_.L2.kh.imp{X:Cx}{st:List au}{t t':TS}(h:kh X st t)(k:∀D σ H,t' D σ H->t D σ H):kh X st t':=λpins s σ H D I q=>h pins s σ H D I (k D σ H q)
section
variable{K:aI}{m m':Nat->ah}{n n':Nat}{h h':VH}{H H':Hp}{σ:L2.St}{ρ:En}
theorem Fr.stp(f:Fr K m n H σ ρ)(s:bO m n H m' n' H'):Fr K m' n' H' σ ρ:=⟨f.len,λi w e=>let⟨v,h1,h2⟩:=f.val i w e;⟨v,h1,h2.stp s⟩⟩
theorem Fr.set(f:Fr K m n H σ ρ){v:V}{w:W}(q:aK K m n H v w)(i:Nat):Fr K m n H (σ.set i (aC v)) (ρ.set i (aC w)):=by refine⟨by rw[vj,vj];exact f.len,λj w' e=>?_⟩;by_cases hj:i=j;subst hj;by_cases hl:i<ρ.length;rw[nH hl]at e;cases e;exact⟨v,by rw[nH (by rw[f.len];exact hl)],q⟩;rw[nI (by rw[vj];lia)]at e;cases e;rw[xN hj]at e;obtain⟨v',h1,h2⟩:=f.val j w' e;exact⟨v',by rw[xN hj];exact h1,h2⟩
noncomputable def aM(K:aI)(m:Nat->ah)(n:Nat)(H:Hp)(w:W)(h':VH)(Q:VK):Prop:=∀v H' m',bO m n H m' h'.n H'->Rel K m' h' H'->aK K m' h'.n H' v w->Q v H'
theorem aM.here{w:W}{Q:VK}(k:aM K m h.n H w h Q)(r:Rel K m h H){v:V}(q:aK K m h.n H v w):Q v H:=k v H m .refl r q
theorem aM.list{ws:List W}{vs:List V}{Q:VK}(k:aM K m h.n H (.ref h.n) (h.new (.lst ws)) Q)(r:Rel K m h H)(q:aF K m h.n H vs ws){p:ah}(hp:H p=aD):Q (.ref p) (upd H p (.lst vs)):=by obtain⟨st,r'⟩:=r.alloc (o:=.lst ws) (u:=.lst vs) hp (λ_ z=>nomatch z) (λst=>⟨vs,ie,q.stp st⟩);refine k _ _ _ st r' ?_;have:aK K (λi=>if i=h.n then p else m i) (h.n+1) (upd H p (.lst vs)) (.ref ((λi=>if i=h.n then p else m i) h.n)) (.ref h.n):=.ref (jA _);simp only[b9]at this;exact this
theorem aM.tuple{ws:List W}{vs:List V}{Q:VK}(k:aM K m h.n H (.tup ws) h Q)(r:Rel K m h H)(q:aF K m h.n H vs ws){p:ah}(hp:H p=aD):Q (.ref p) (upd H p (.tup vs)):=by obtain⟨st,r'⟩:=r.more (u:=.tup vs) hp;exact k _ _ _ st r' (.tup (bW.of ie) (q.stp st))
theorem Oz{fa:FE}{g:W->VH->Res W}{G:V->Hp->VK->Prop}
 (hG:∀(m:Nat->ah)(h:VH)(H:Hp)(v:V)(x w:W)(h':VH)(Q:VK),Rel K m h H->aK K m h.n H v x->g x h=.ok w h'->aM K m h.n H w h' Q->G v H Q) {Q:VK}
 (q:gw K (λρ h=>(fa ρ h).bind λx h=>g x h) σ H Q):gw K fa σ H λv H1=>G v H1 Q:=by
 refine q.el λρ h m w h' f r e k=>?_;refine bL e λx h1 e1 e2=>?_;exact(.mk f r e1 λv H1 m1 s1 r1 q1=>hG m1 h1 H1 v x w h' Q r1 q1 e2 λv' H' m' s' r' q'=>k v' H' m' (s1.trans s') r' q')
theorem EG{fa fb:FE}{g:W->W->VH->Res W}{G:V->V->Hp->VK->Prop}
 (hG:∀(m:Nat->ah)(h:VH)(H:Hp)(v u:V)(x y w:W)(h':VH)(Q:VK),Rel K m h H->aK K m h.n H v x->aK K m h.n H u y->g x y h=.ok w h'->aM K m h.n H w h' Q->G v u H Q) {Q:VK}
 (q:gw K (λρ h=>(fa ρ h).bind λx h=>(fb ρ h).bind λy h=>g x y h) σ H Q):gw K fa σ H λv H1=>gw K fb σ H1 λu H2=>G v u H2 Q:=by
 refine q.el λρ h m w h' f r e k=>?_;refine bL e λx h1 e1 e2=>?_;refine bL e2 λy h2 e3 e4=>?_;refine(.mk f r e1 λv H1 m1 s1 r1 q1=>(.mk (f.stp s1) r1 e3 λu H2 m2 s2 r2 q2=>?_));exact hG m2 h2 H2 v u x y w h' Q r2 (q1.stp s2) q2 e4 λv' H' m' s' r' q'=>k v' H' m' ((s1.trans s2).trans s') r' q'
theorem wz{fa:FE}{g:List W->VH->Res W}{G:List V->Hp->VK->Prop}
 (hG:∀(m:Nat->ah)(h:VH)(H:Hp)(vs:List V)(xs:List W)(w:W)(h':VH)(Q:VK),Rel K m h H->aF K m h.n H vs xs->g xs h=.ok w h'->aM K m h.n H w h' Q->G vs H Q) {Q:VK}
 (q:gw K (λρ h=>(fa ρ h).bind λy h=>match y with|.tup ys=>g ys h|_=>.no) σ H Q):mS K fa σ H λvs H1=>G vs H1 Q:=by
 refine q.el λρ h m w h' f r e k=>?_;refine bL e λx h1 e1 e2=>?_;cases x with|tup ys=>exact(.mk f r e1 λvs H1 m1 s1 r1 q1=>hG m1 h1 H1 vs ys w h' Q r1 q1 e2 λv' H' m' s' r' q'=>k v' H' m' (s1.trans s') r' q')|_=>cases e2
theorem OA{f:FE}{Q:Bool->Hp->Prop}(q:dg K f σ H Q):gw K f σ H λx H'=>∃k,x=.bl k/\Q k H':=by refine q.el λρ h m b h' f r e k=>?_;exact(.mk f r e λv H' m' s' r' q'=>by cases q';exact⟨b,rfl,k H' m' s' r'⟩)
end
section
variable{X:Cx}{a b c e:aq}{es:List aq}{fa fb fc:FE}{pos:Pos}
theorem V5{i:Nat}{x:Str}{pos:Pos}(hN:X.N[i]?=aC x)(hv:yb X.env.scope x)(hd:(x==("__debug__" : Str))=false)(hcd:(x==("__classdict__" : Str))=false):SE X (.Name x pos) (λρ h=>.of (ρ[i]?).join h):=
 (RK hN hv hd hcd).imp λσ H Q z9=>z9.el λρ h m w h' f r e k=>by
   obtain⟨e1,e2⟩:=of_ok e;subst e2;have e3:ρ[i]?=aC (aC w):=by
    cases q:ρ[i]? with|none=>rw[q]at e1;cases e1|some o=>rw[q]at e1;rw[<-e1];rfl
   obtain⟨v,h1,h2⟩:=f.val i w e3;exact⟨v,h1,k v H m .refl r h2⟩
theorem Bk{w:W}{v:V}(h:PE X e (tC v))(hv:∀m n H,aK X.K m n H v w):SE X e (λ_ h=>.ok w h):=
 h.imp λσ H Q z9=>z9.el λρ h m w h' f r e k=>by cases e;exact k v H m .refl r (hv m h.n H)
theorem V6{i j pos}:SE X (.Constant (.int i) j pos) (λ_ h=>.ok (.int i) h):=Bk RL λ_ _ _=>.int i
theorem Bl{i j pos}:SE X (.Constant (.bool i) j pos) (λ_ h=>.ok (.bl i) h):=Bk zA λ_ _ _=>.bl i
theorem V7{j pos}:SE X (.Constant .none j pos) (λ_ h=>.ok .aO h):=Bk RM λ_ _ _=>.aO
theorem V8{i j pos}:SE X (.Constant (.str i) j pos) (λ_ h=>.ok (.str i) h):=Bk RN λ_ _ _=>.str i
theorem Bm:SA X [] (λ_ h=>.ok (.tup []) h):=DQ.imp λσ H Q z9=>z9.el λρ h m ws h' f r e k=>by cases e;exact k [] H m .refl r .nil
theorem wA(ha:SE X e fa)(hr:SA X es fb)(hs:starEach (e::es) X.env=(false,eval e X.env)::starEach es X.env) :
 SA X (e::es) (λρ h=>(fa ρ h).bind λx h=>(fb ρ h).bind λy h=>match y with|.tup ys=>.ok (.tup (x::ys)) h|_=>.no):=
 (z0 ha hr hs).imp λσ H Q z9=>z9.el λρ h m ws h' f r e k=>by
   refine bL e λx h1 e1 e2=>?_;refine bL e2 λy h2 e3 e4=>?_;cases y with
   |tup ys=>
    cases e4;exact(.mk f r e1 λv H1 m1 s1 r1 q1=>(.mk (f.stp s1) r1 e3 λvs H2 m2 s2 r2 q2=>k _ H2 m2 (s1.trans s2) r2 (.cons (q1.stp s2) q2)))
   |_=>cases e4
theorem OB{k:Nat}(h:Nat.ble k 1000):k<=sizeLine:=tM (Ng (j8 h))
theorem V9{x1:Nat}(ha:SA X es fa):SE X (.Tuple es x1 pos) (λρ h=>(fa ρ h).bind λy h=>match y with|.tup ys=>(if Nat.ble ys.length 1000 then .ok (.tup ys) h else .no)|_=>.no):=
 (Tq ha).imp λσ H Q q=>wz (g:=λys h=>if Nat.ble ys.length 1000 then .ok (.tup ys) h else .no) (G:=λxs H1 Q=>xs.length<=sizeLine/\∀p,H1 p=aD->Q (.ref p) (upd H1 p (.tup xs)))
   (λm h H vs xs w h' Q r q e k=>by
     split at e;rename_i hl;cases e;exact⟨by rw[q.length];exact OB hl,λp hp=>aM.tuple k r q hp⟩;cases e) q
theorem Wa(ha:SA X es fa):SE X (.List es pos) (λρ h=>(fa ρ h).bind λy h=>match y with|.tup ys=>(if Nat.ble ys.length 1000 then .ok (.ref h.n) (h.new (.lst ys))else .no)|_=>.no):=
 (Tr ha).imp λσ H Q q=>wz (g:=λys h=>if Nat.ble ys.length 1000 then .ok (.ref h.n) (h.new (.lst ys))else .no) (G:=λxs H1 Q=>xs.length<=sizeLine/\∀p,H1 p=aD->Q (.ref p) (upd H1 p (.lst xs)))
   (λm h H vs xs w h' Q r q e k=>by
     split at e;rename_i hl;cases e;exact⟨by rw[q.length];exact OB hl,λp hp=>aM.list k r q hp⟩;cases e) q
noncomputable def Bo(K:aI)(r:R2)(g:W->W->VH->Res W):Prop:=∀(m:Nat->ah) (h:VH) (H:Hp) (v u:V) (x y w:W) (h':VH) (Q:VK),Rel K m h H->aK K m h.n H v x->aK K m h.n H u y->g x y h=.ok w h'->aM K m h.n H w h' Q->r v u H Q
theorem Bp{O:Operator}{r:R2}{g:W->W->VH->Res W}(ho:cN X (binaryOp O) r)(hg:Bo X.K r g)(ha:SE X a fa)(hb:SE X b fb):SE X (.BinOp a O b pos) (λρ h=>(fa ρ h).bind λx h=>(fb ρ h).bind λy h=>g x y h):=
 (zR ho ha hb).imp λσ H Q q=>EG (G:=r) hg q
noncomputable def Bq:Operator->Option Op|.Add=>aC .add|.Sub=>aC .sub|.Mult=>aC .mul|.FloorDiv=>aC .fdiv|.Mod=>aC .mod|.LShift=>aC .shl|.Pow=>aC .pow|_=>aD
noncomputable def cI:Op->Int->Int->Prop|.mul=>mC|.fdiv=>qR|.mod=>λ_ j=>0<j|.shl=>qS|.pow=>qS|_=>λ_ _=>True
noncomputable def gI:Op->Int->Int->Int|.add=>(· + ·)|.sub=>(· - ·)|.mul=>(· * ·)|.fdiv=>(· / ·)|.mod=>(· % ·)|.shl=>λi j=>i*2 ^ j.toNat|.pow=>λi j=>i ^ j.toNat
noncomputable def rX(K:aI):Op->R2|.add=>λx y H Q=>lz K x y H Q\/NL K x y H Q\/Ak x y H Q|.mul=>λx y H Q=>uc K x y H Q|_=>λ_ _ _ _=>False
noncomputable def rB(K:aI)(o:Op):R2:=λx y H Q=>rI (cI o) (λi j=>.int (gI o i j)) x y H Q\/rX K o x y H Q
theorem wB{f:aa->aa->Sem aa}{r r':R2}(h:cN X f r)(k:∀x y H Q,r' x y H Q->r x y H Q):cN X f r':=λpins s σ H x y v u Q I rx ry q=>h pins s σ H x y v u Q I rx ry (k _ _ _ _ q)
theorem Br{O:Operator}{o:Op}(e:Bq O=aC o):cN X (binaryOp O) (rB X.K o):=by
 have tr:∀{g:Int->Int->V}{x y H Q},rI (λ_ _=>True) g x y H Q->mz g x y H Q:=λ⟨i,j,h1,h2,_,h3⟩=>⟨i,j,h1,h2,h3⟩
 cases O<;>cases e;exact wB (SH.or (TX.or (U3.or Ue))) λx y H Q q=>q.elim (λz=>.inl (tr z)) .inr;exact wB SI λx y H Q q=>q.elim (λz=>tr z) λz=>z.elim;exact wB (SJ.or U0) λx y H Q q=>q;exact wB SM λx y H Q q=>q.elim id λz=>z.elim;exact wB SN λx y H Q q=>q.elim id λz=>z.elim;exact wB SO λx y H Q q=>q.elim id λz=>z.elim;exact wB SK λx y H Q q=>q.elim id λz=>z.elim
theorem OC{i:Int}(h:lM i):-(2 ^ 64)<i/\i<2 ^ 64:=by unfold lM at h;rw[bG]at h;exact⟨kD h.1,kD h.2⟩
theorem Il{o:Op}{i j z:Int}(e:dP o i j=aC z):cI o i j/\z=gI o i j:=by cases o<;>simp only[dP]at e;cases e;exact⟨trivial,rfl⟩;cases e;exact⟨trivial,rfl⟩;split at e;rename_i hc;cases e;rw[qt]at hc;exact⟨hc.elim (λq=>.inl (OC q)) (λq=>.inr (OC q)),rfl⟩;cases e;split at e;rename_i hc;cases e;rw[bG]at hc;exact⟨⟨kD hc.1,kD hc.2⟩,rfl⟩;cases e;split at e;rename_i hc;cases e;exact⟨(kD hc:0<j),rfl⟩;cases e;split at e;rename_i hc;cases e;rw[bG,bG]at hc;exact⟨⟨kD hc.1.1,kD hc.1.2,kD hc.2⟩,rfl⟩;cases e;split at e;rename_i hc;cases e;rw[bG,bG]at hc;exact⟨⟨kD hc.1.1,kD hc.1.2,kD hc.2⟩,rfl⟩;cases e
theorem wC{i:Int}(h:fits i):-(2 ^ 62)<=i/\i<2 ^ 62:=by unfold fits at h;rw[bG]at h;exact⟨kD h.1,kD h.2⟩
theorem Wb{o:Op}{xs zs:List W}{k:Int}(e:rN o xs k=aC zs):o=.mul/\(-(2 ^ 62)<=k/\k<2 ^ 62)/\xs.length*k.toNat<=sizeLine/\zs=(bE k.toNat xs).flatten:=by unfold rN at e;split at e;split at e;rename_i hc;cases e;rw[bG]at hc;exact⟨rfl,wC hc.1,j8 hc.2,rfl⟩;cases e;cases e
theorem aF.rep{K:aI}{m:Nat->ah}{n:Nat}{H:Hp}{vs:List V}{ws:List W}(q:aF K m n H vs ws):∀k:Nat,aF K m n H (bE k vs).flatten (bE k ws).flatten
 |0=>.nil
 |k+1=>by
  rw[nK,nK,vf,vf];exact q.append (aF.rep q k)
theorem Wc{K:aI}{m:Nat->ah}{n:Nat}{H:Hp}{vs:List V}{ws:List W}(q:aF K m n H vs ws):vs.isEmpty=ws.isEmpty:=by cases q<;>rfl
theorem Wd{ws:List W}{k:Int}(h:(ws.isEmpty||k==1)):(bE k.toNat ws).flatten=ws:=by
 rw[qt]at h;rcases h with h|h
 have:ws=[]:=by simpa using h
 subst this;induction k.toNat with|zero=>rfl|succ j ih=>rw[nK,vf,ih];rfl
 have:k=1:=by simpa using h
 subst this;show(bE 1 ws).flatten=ws;simp
theorem We{K:aI}(o:Op):Bo K (rB K o) (fN o):=by
 intro m h H v u x y w h' Q r qv qu e k;unfold fN at e;split at e;rename_i i j;obtain⟨e,rfl⟩:=of_ok e;cases qv;cases qu;cases q:dP o i j with
 |none=>rw[q]at e;cases e
 |some z=>
  rw[q]at e;cases e;obtain⟨h1,rfl⟩:=Il q;exact .inl ⟨i,j,rfl,rfl,h1,aM.here k r (.int _)⟩
 .rename_i xs ys
  obtain⟨e,rfl⟩:=of_ok e;cases q:Ii o xs ys with
  |none=>rw[q]at e;cases e
  |some zs=>
   rw[q]at e;cases e;cases o<;>simp only[Ii]at q;split at q;rename_i hc;cases q;cases qv with
   |tup qa ra=>
    cases qu with
    |tup qb rb=>
     rename_i a va b vb;have hl:=j8 hc;cases xs with
     |nil=>
      cases ra;exact .inr (.inr (.inl ⟨a,b,vb,rfl,rfl,qa,qb,aM.here k r (.tup qb rb)⟩))
     |cons x0 xs0=>
      refine .inr (.inl ⟨a,b,va,vb,rfl,rfl,qa,qb,λz=>?_,by rw[ra.length,rb.length];exact hl,λz=>?_,λ_ p hp=>aM.tuple k r (ra.append rb) hp⟩);subst z;cases ra;subst z;cases rb;rw[ny]at k;exact aM.here k r (.tup qa ra)
   cases q
   all_goals cases q
 rename_i xs kk;obtain⟨e,rfl⟩:=of_ok e;cases q:rN o xs kk with
 |none=>rw[q]at e;cases e
 |some zs=>
  rw[q]at e;cases e;obtain⟨rfl,⟨k1,k2⟩,hz,rfl⟩:=Wb q;cases qu;cases qv with
  |tup qa ra=>
   rename_i a va;refine .inr ⟨a,kk,va,rfl,rfl,qa,k1,k2,by rw[ra.length];exact hz,λz=>?_,λz p hp=>aM.tuple k r (ra.rep _) hp⟩;rw[Wc ra]at z;rw[Wd z]at k;exact aM.here k r (.tup qa ra)
 .rename_i i j
  split at e
  .rename_i xs ys hx hy
   split at e
   .rename_i zs q
    cases e;cases o<;>simp only[Ij]at q;split at q;rename_i hc;cases q;obtain⟨va,pa,ra⟩:=r.lst hx;obtain⟨vb,pb,rb⟩:=r.lst hy;cases qv;cases qu;exact .inr (.inr (.inr ⟨m i,m j,va,vb,rfl,rfl,pa,pb,by rw[ra.length,rb.length];exact j8 hc,λp hp=>aM.list k r (ra.append rb) hp⟩));cases q
    all_goals cases q
   cases e
  cases e
 cases e
end
section
variable{K:aI}{m:Nat->ah}{h:VH}{H:Hp}
theorem Bs{f:W->Option aB}(ih:∀(w:W) (d:aB) (v:V),f w=aC d->aK K m h.n H v w->Rp K (λ_=>False) H v d):∀{ws:List W} {ds:List aB} {vs:List V},aT f ws=aC ds->aF K m h.n H vs ws->mD K (λ_=>False) H vs ds
 |[],ds,_,e,.nil=>by cases e;exact .nil
 |w::ws,ds,_,e,.cons q r=>by
  unfold aT at e;split at e;rename_i d hd;split at e;rename_i bs hb;cases e;exact .cons (ih w d _ hd q) (Bs ih hb r);cases e;cases e
theorem iw(r:Rel K m h H):∀(n:Nat) (w:W) (d:aB) (v:V),toD h n w=aC d->aK K m h.n H v w->Rp K (λ_=>False) H v d
 |0,_,_,_,e,_=>by cases e
 |n+1,w,d,v,e,q=>by
  cases q with
  |aO=>cases e;exact .aO
  |bl b=>cases e;exact .bl b
  |int b=>cases e;exact .int b
  |str b=>cases e;exact .str b
  | @tup a vs ws sq rs=>
   simp only[toD]at e;cases z:aT (toD h n) ws with|none=>rw[z]at e;cases e|some ds=>rw[z]at e;cases e;exact .tup sq (λz=>z) (Bs (iw r n) z rs)
  | @fz a vs ws sq rs=>
   simp only[toD]at e;cases z:aT (toD h n) ws with|none=>rw[z]at e;cases e|some ds=>rw[z]at e;cases e;exact .lst sq.sq (λz=>z) (Bs (iw r n) z rs)
  | @ref i hi=>
   simp only[toD]at e;cases g:h.get i with
   |none=>rw[g]at e;cases e
   |some o=>
    rw[g]at e;cases o with
    |dk _=>cases e
    |dm _=>cases e
    |lst ws=>
     obtain⟨vs,h1,h2⟩:=r.lst g;simp only at e;cases z:aT (toD h n) ws with|none=>rw[z]at e;cases e|some ds=>rw[z]at e;cases e;exact .lst (cz.of h1) (λz=>z) (Bs (iw r n) z h2)
theorem OD(r:Rel K m h H){x y:W}{v u:V}{b:Bool}(e:bX h x y=aC b)(qv:aK K m h.n H v x)(qu:aK K m h.n H u y) :
 ∃d e',Rp K (λ_=>False) H v d/\Rp K (λ_=>False) H u e'/\SeqAt.shaped d=true/\SeqAt.shaped e'=true/\b=PyData.eqv d e':=by
 unfold bX at e;split at e;rename_i d e' h1 h2;split at e;rename_i hc;cases e;rw[bG]at hc;exact⟨d,e',iw r _ _ _ _ h1 qv,iw r _ _ _ _ h2 qu,hc.1,hc.2,rfl⟩;cases e;cases e
end
theorem yp{K:aI}{m:Nat->ah}{h:VH}{H:Hp}{v:V}{w:W}{ws:List W}(r:Rel K m h H)(q:aK K m h.n H v w)(e:aP h w=aC ws):∃p vs,v=.ref p/\(cz K H p vs\/bW K H p vs)/\aF K m h.n H vs ws:=by
 cases q<;>try cases e
 exact⟨_,_,rfl,.inr ‹_›,‹_›⟩;rename_i q _;exact⟨_,_,rfl,.inl q.sq,‹_›⟩;rename_i i hi;simp only[aP]at e;cases g:h.get i with
 |none=>rw[g]at e;cases e
 |some o=>
  rw[g]at e;cases o with
  |dk _=>cases e
  |dm _=>cases e
  |lst ws=>
   cases e;obtain⟨vs,h1,h2⟩:=r.lst g;exact⟨_,vs,rfl,.inl (cz.of h1),h2⟩
theorem OE{K:aI}{m:Nat->ah}{h:VH}{H:Hp}(r:Rel K m h H){x y:W}{v u:V}{b:Bool}(e:mK h x y=aC b)(qv:aK K m h.n H v x)(qu:aK K m h.n H u y) :
 (∃p vs ds d,u=.ref p/\(cz K H p vs\/bW K H p vs)/\mD K (λ_=>False) H vs ds/\Rp K (λ_=>False) H v d/\ds.all SeqAt.shaped=true/\SeqAt.shaped d=true/\b=fk ds d):=by
 unfold mK at e;split at e;rename_i ws d h1 h2;split at e;rename_i ds h3;split at e;rename_i hc;cases e;rw[bG]at hc;obtain⟨p,vs,rfl,h4,h5⟩:=yp r qu h1;exact⟨p,vs,ds,d,rfl,h4,Bs (iw r 24) h3 h5,iw r _ _ _ _ h2 qv,hc.1,hc.2,rfl⟩;cases e;cases e;cases e
noncomputable def gD:CmpOp->Option Cp|.Eq=>aC .eq|.NotEq=>aC .ne|.Lt=>aC .lt|.LtE=>aC .le|.Gt=>aC .gt|.GtE=>aC .ge|.Is=>aC .oF|.IsNot=>aC .mJ|.In=>aC .jy|.NotIn=>aC .wj
noncomputable def rC(K:aI):Cp->R2|.eq=>Ar K|.ne=>As K|.lt=>mz λi j=>.bl (decide (i<j))|.le=>mz λi j=>.bl (decide (i<=j))|.gt=>mz λi j=>.bl (decide (j<i))|.ge=>mz λi j=>.bl (decide (j<=i))|.oF=>λx y H Q=>(y=.aO/\Q (.bl (decide (x=.aO))) H)\/∃c b,x=.bl c/\y=.bl b/\Q (.bl (c==b)) H|.mJ=>λx y H Q=>(y=.aO/\Q (.bl (!decide (x=.aO))) H)\/∃c b,x=.bl c/\y=.bl b/\Q (.bl (!(c==b))) H|.jy=>λx y H Q=>rz K false x y H Q|.wj=>λx y H Q=>rz K true x y H Q
noncomputable def p9:aq->Bool|.Set ..=>false|_=>true
theorem Im{op:CmpOp}{b:aq}(h:p9 b):behindInMarks op b=false:=by cases b<;>first|rfl|cases h
section
variable{X:Cx}{a b c e:aq}{es:List aq}{fa fb fc:FE}{pos:Pos}
theorem Wf:cN X (compareOp .Is) (λx y H Q=>∃c b,x=.bl c/\y=.bl b/\Q (.bl (c==b)) H):=by intro pins s σ H x y v u Q I rx ry h;obtain⟨c,b,rfl,rfl,q⟩:=h;cases rx;cases ry;exact wpAny_is_plain rfl (DP I q (by cases c<;>cases b<;>rfl))
theorem Wg:cN X (compareOp .IsNot) (λx y H Q=>∃c b,x=.bl c/\y=.bl b/\Q (.bl (!(c==b))) H):=by intro pins s σ H x y v u Q I rx ry h;obtain⟨c,b,rfl,rfl,q⟩:=h;cases rx;cases ry;exact wpAny_isNot_plain rfl (DP I q (by cases c<;>cases b<;>rfl))
theorem yq(hu:X.A.units+65<cLine){O:CmpOp}{c:Cp}(e:gD O=aC c):cN X (compareOp O) (rC X.K c):=by cases O<;>cases e;exact Ux (by lia);exact Uy (by lia);exact zU;exact zV;exact zW;exact zX;exact SY.or Wf;exact S0.or Wg;exact U5 (by show X.A.units+1+64<cLine;lia);exact U7 (by show X.A.units+1+64<cLine;lia)
theorem EH{K:aI}{m:Nat->ah}{n:Nat}{H:Hp}{v:V}{w:W}(q:aK K m n H v w):cQ w=decide (v=.aO):=by cases q<;>simp[cQ]
theorem EI{K:aI}(c:Cp):Bo K (rC K c) (λx y h=>.of ((aR c h x y).map .bl) h):=by
 intro m h H v u x y w h' Q r qv qu e k;obtain⟨e,rfl⟩:=of_ok e;cases z:aR c h' x y with
 |none=>rw[z]at e;cases e
 |some b=>
  rw[z]at e;cases e;have fin:Q (.bl b) H:=aM.here k r (.bl b);unfold aR at z;split at z;obtain⟨p,vs,ds,d,h1,h2,h3,h4,h5,h6,rfl⟩:=OE r z qv qu;exact⟨p,vs,ds,d,h1,h2,h3,h4,h5,h6,fin⟩;cases z2:mK h' x y with
  |none=>rw[z2]at z;cases z
  |some b2=>
   rw[z2]at z;cases z;obtain⟨p,vs,ds,d,h1,h2,h3,h4,h5,h6,rfl⟩:=OE r z2 qv qu;exact⟨p,vs,ds,d,h1,h2,h3,h4,h5,h6,fin⟩
  obtain⟨d,e',h1,h2,h3,h4,rfl⟩:=OD r z qv qu;exact⟨d,e',h1,h2,h3,h4,fin⟩;cases z2:bX h' x y with
  |none=>rw[z2]at z;cases z
  |some b2=>
   rw[z2]at z;cases z;obtain⟨d,e',h1,h2,h3,h4,rfl⟩:=OD r z2 qv qu;exact⟨d,e',h1,h2,h3,h4,fin⟩
  split at z;rename_i hn;cases z;have:=EH qu;rw[hn]at this;refine .inl ⟨kD this.symm,?_⟩;rw[<-EH qv];exact fin;unfold Bb at z;split at z;rename_i c b;cases z;cases qv;cases qu;exact .inr ⟨_,_,rfl,rfl,fin⟩;cases z;split at z;rename_i hn;cases z;have:=EH qu;rw[hn]at this;refine .inl ⟨kD this.symm,?_⟩;rw[<-EH qv];exact fin;cases z2:Bb x y with
  |none=>rw[z2]at z;cases z
  |some b2=>
   rw[z2]at z;cases z;unfold Bb at z2;split at z2;rename_i c b;cases z2;cases qv;cases qu;exact .inr ⟨_,_,rfl,rfl,fin⟩;cases z2
  split at z;rename_i i j;cases qv;cases qu;cases c<;>simp only[fT]at z<;>cases z<;>exact⟨i,j,rfl,rfl,fin⟩;cases z
theorem Wh(hu:X.A.units+65<cLine){O:CmpOp}{c:Cp}(e:gD O=aC c)(hs:p9 b)(ha:SE X a fa)(hb:SE X b fb) :
 SE X (.Compare a [O] [b] pos) (λρ h=>(fa ρ h).bind λx h=>(fb ρ h).bind λy h=>.of ((aR c h x y).map .bl) h):=
 (S4 (yq hu e) ha hb (Im hs)).imp λσ H Q q=>EG (G:=rC X.K c) (EI c) q
theorem Wi(hu:X.A.units+65<cLine){O:CmpOp}{c:Cp}(e:gD O=aC c)(hs:p9 b)(ha:SE X a fa)(hb:SE X b fb) :
 ST X (.Compare a [O] [b] pos) (λρ h=>(fa ρ h).bind λx h=>(fb ρ h).bind λy h=>.of ((aR c h x y).map .bl) h):=
 (S6 (yq hu e) ha hb (Im hs)).imp λσ H Q q=>EG (G:=rC X.K c) (EI c) (OA q)
theorem OF{O O':CmpOp}{a b:aq}(h:p9 b):lastMarks [O,O'] [a,b]=false:=Im h
theorem OG{K:aI}{c1 c2:Cp}{σ:L2.St}{H:Hp}{Q:VK}
 (q:gw K (λρ h=>(fa ρ h).bind λx h=>(fb ρ h).bind λy h=>match aR c1 h x y with
   |some true=>(fc ρ h).bind λz h=>.of ((aR c2 h y z).map .bl) h
   |some false=>.ok (.bl false) h
   |none=>.no) σ H Q):Gz (rC K c1) (rC K c2) (gw K fa) (gw K fb) (gw K fc) σ H Q:=by
 refine q.el λρ h m w h' f r e k=>?_;refine bL e λx h1 e1 e2=>?_;refine bL e2 λy h2 e3 e4=>?_;refine(.mk f r e1 λv H1 m1 s1 r1 q1=>(.mk (f.stp s1) r1 e3 λu H2 m2 s2 r2 q2=>?_));have f2:=(f.stp s1).stp s2;have k2:aM K m2 h2.n H2 w h' Q:=λv' H' m' s' r' q'=>k v' H' m' ((s1.trans s2).trans s') r' q';cases z:aR c1 h2 x y with
 |none=>rw[z]at e4;cases e4
 |some b=>
  rw[z]at e4;refine EI c1 m2 h2 H2 v u x y (.bl b) h2 _ r2 (q1.stp s2) q2 (by show Res.of ((aR c1 h2 x y).map W.bl) h2=_;rw[z];rfl) λv3 H3 m3 s3 r3 q3=>?_;cases q3;refine⟨b,rfl,?_⟩;cases b with
  |true=>
   refine bL e4 λz' h4 e5 e6=>?_;rw[if_pos rfl];refine⟨ρ,h2,m3,z',h4,f2.stp s3,r3,e5,λv4 H4 m4 s4 r4 q4=>?_⟩;exact EI c2 m4 h4 H4 u v4 y z' w h' Q r4 ((q2.stp s3).stp s4) q4 e6 λv' H' m' s' r' q'=>k2 v' H' m' ((s3.trans s4).trans s') r' q'
  |false=>
   cases e4;simp only[dS,dB];exact k2 _ H3 m3 s3 r3 (.bl false)
theorem Wj(hu:X.A.units+65<cLine){O O':CmpOp}{c1 c2:Cp}(e:gD O=aC c1)(e':gD O'=aC c2)(hs:p9 c)(ha:SE X a fa)(hb:SE X b fb)(hc:SE X c fc) :
 SE X (.Compare a [O,O'] [b,c] pos) (λρ h=>(fa ρ h).bind λx h=>(fb ρ h).bind λy h=>match aR c1 h x y with|some true=>(fc ρ h).bind λz h=>.of ((aR c2 h y z).map .bl) h|some false=>.ok (.bl false) h|none=>.no):=(S8 (yq hu e) (yq hu e') ha hb hc (OF hs)).imp λσ H Q q=>OG q
theorem Wk(hu:X.A.units+65<cLine){O O':CmpOp}{c1 c2:Cp}(e:gD O=aC c1)(e':gD O'=aC c2)(hs:p9 c)(ha:SE X a fa)(hb:SE X b fb)(hc:SE X c fc) :
 ST X (.Compare a [O,O'] [b,c] pos) (λρ h=>(fa ρ h).bind λx h=>(fb ρ h).bind λy h=>match aR c1 h x y with|some true=>(fc ρ h).bind λz h=>.of ((aR c2 h y z).map .bl) h|some false=>.ok (.bl false) h|none=>.no):=(S9 (yq hu e) (yq hu e') ha hb hc (OF hs)).imp λσ H Q q=>OG (OA q)
noncomputable abbrev Bt(fa:FE):FE:=λρ h=>(fa ρ h).bind λx h=>match x with|.bl b=>.ok (.bl (!b)) h|_=>.no
noncomputable abbrev Bu(fa fb:FE):FE:=λρ h=>(fa ρ h).bind λx h=>match x with|.bl true=>fb ρ h|.bl false=>.ok (.bl false) h|_=>.no
noncomputable abbrev OH(fa fb:FE):FE:=λρ h=>(fa ρ h).bind λx h=>match x with|.bl true=>.ok (.bl true) h|.bl false=>fb ρ h|_=>.no
noncomputable abbrev Io(fa fb fc:FE):FE:=λρ h=>(fa ρ h).bind λx h=>match x with|.bl true=>fb ρ h|.bl false=>fc ρ h|_=>.no
variable{rest:List aq}
theorem Wl(ha:ST X a fa):ST X (.UnaryOp .Not a pos) (Bt fa):=(RV ha).imp λσ H Q z9=>z9.el λρ h m b h' f r e k=>by
 refine bL e λx h1 e1 e2=>?_;cases x<;>try cases e2
 rename_i b;exact(.mk f r e1 λH' m' s' r'=>k H' m' s' r')
theorem Wm(ha:SE X a fa):SE X (.UnaryOp .Not a pos) (Bt fa):=(RY ha).imp λσ H Q z9=>z9.el λρ h m b h' f r e k=>by
 refine bL e λx h1 e1 e2=>?_;cases x<;>try cases e2
 rename_i b;exact(.mk f r e1 λv H' m' s' r' q=>by cases q;exact⟨b,rfl,k _ H' m' s' r' (.bl _)⟩)
theorem OI{op:BoolOp}(ha:ST X a fa):SW X (.BoolOp op [a] pos) fa:=by cases op;exact RS ha;exact RT ha
theorem Wn(ha:ST X a fa)(hb:SW X (.BoolOp .And (b::rest) pos) fb):SW X (.BoolOp .And (a::b::rest) pos) (Bu fa fb):=(RU ha hb).imp λσ H Q z9=>z9.el λρ h m b h' f r e k=>by
 refine bL e λx h1 e1 e2=>?_;cases x<;>try cases e2
 rename_i c;refine(.mk f r e1 λH1 m1 s1 r1=>?_);cases c with|true=>rw[if_pos rfl];exact(.mk (f.stp s1) r1 e2 λH' m' s' r'=>k H' m' (s1.trans s') r')|false=>cases e2;simp only[dS,dB];exact k H1 m1 s1 r1
theorem Bv(ha:ST X a fa)(hb:SW X (.BoolOp .Or (b::rest) pos) fb):SW X (.BoolOp .Or (a::b::rest) pos) (OH fa fb):=(pw_or ha hb).imp λσ H Q z9=>z9.el λρ h m b h' f r e k=>by
 refine bL e λx h1 e1 e2=>?_;cases x<;>try cases e2
 rename_i c;refine(.mk f r e1 λH1 m1 s1 r1=>?_);cases c with|true=>cases e2;rw[if_pos rfl];exact k H1 m1 s1 r1|false=>simp only[dS,dB];exact(.mk (f.stp s1) r1 e2 λH' m' s' r'=>k H' m' (s1.trans s') r')
theorem OJ{op:BoolOp}(ha:SE X a fa):SE X (.BoolOp op [a] pos) fa:=RW ha
theorem Wo(ha:SE X a fa)(hb:SE X (.BoolOp .And (b::rest) pos) fb):SE X (.BoolOp .And (a::b::rest) pos) (Bu fa fb):=(RX ha hb).imp λσ H Q z9=>z9.el λρ h m w h' f r e k=>by
 refine bL e λx h1 e1 e2=>?_;cases x<;>try cases e2
 rename_i c;refine(.mk f r e1 λv H1 m1 s1 r1 q1=>?_);cases q1;refine⟨c,rfl,?_⟩;cases c with|true=>rw[if_pos rfl];exact(.mk (f.stp s1) r1 e2 λv H' m' s' r' q'=>k v H' m' (s1.trans s') r' q')|false=>cases e2;simp only[dS,dB];exact k _ H1 m1 s1 r1 (.bl false)
theorem Bw(ha:SE X a fa)(hb:SE X (.BoolOp .Or (b::rest) pos) fb):SE X (.BoolOp .Or (a::b::rest) pos) (OH fa fb):=(zD ha hb).imp λσ H Q z9=>z9.el λρ h m w h' f r e k=>by
 refine bL e λx h1 e1 e2=>?_;cases x<;>try cases e2
 rename_i c;refine(.mk f r e1 λv H1 m1 s1 r1 q1=>?_);cases q1;refine⟨c,rfl,?_⟩;cases c with|true=>cases e2;rw[if_pos rfl];exact k _ H1 m1 s1 r1 (.bl true)|false=>simp only[dS,dB];exact(.mk (f.stp s1) r1 e2 λv H' m' s' r' q'=>k v H' m' (s1.trans s') r' q')
theorem Wq(hc:ST X c fc)(ha:SE X a fa)(hb:SE X b fb):SE X (.IfExp c a b pos) (Io fc fa fb):=(R0 hc ha hb).imp λσ H Q z9=>z9.el λρ h m w h' f r e k=>by
 refine bL e λx h1 e1 e2=>?_;cases x<;>try cases e2
 rename_i c;refine(.mk f r e1 λH1 m1 s1 r1=>?_);cases c with|true=>rw[if_pos rfl];exact(.mk (f.stp s1) r1 e2 λv H' m' s' r' q'=>k v H' m' (s1.trans s') r' q')|false=>simp only[dS,dB];exact(.mk (f.stp s1) r1 e2 λv H' m' s' r' q'=>k v H' m' (s1.trans s') r' q')
theorem OL{K:aI}{m:Nat->ah}{n:Nat}{H:Hp}{vs:List V}{ws:List W}(q:aF K m n H vs ws):vs.isEmpty=ws.isEmpty:=by cases q<;>rfl
theorem Wr{K:aI}{m:Nat->ah}{h:VH}{H:Hp}{v:V}{w:W}{b:Bool}(r:Rel K m h H)(q:aK K m h.n H v w)(e:mO h w=aC b):vJ K v H b:=by
 cases q with
 |aO=>cases e;rfl
 |bl x=>cases e;rfl
 |int i=>cases e;rfl
 |str x=>cases e
 |fz _ _=>cases e
 |tup sq rs=>cases e;exact .inr (.inl ⟨_,sq,by rw[OL rs]⟩)
 | @ref i hi=>
  simp only[mO]at e;cases g:h.get i with
  |none=>rw[g]at e;cases e
  |some o=>
   rw[g]at e;cases o with
   |dk _=>cases e
   |dm _=>cases e
   |lst ws=>
    cases e;obtain⟨vs,h1,h2⟩:=r.lst g;exact .inl ⟨vs,cz.of h1,by rw[OL h2]⟩
theorem Ip(ha:SE X a fa)(he:∀whole,isTrue a X.env whole=(do let v <-whole;standAt a.pos;holding [v] (truthy v))) :
 ST X a (λρ h=>(fa ρ h).bind λx h=>.of ((mO h x).map .bl) h):=(Te ha he).imp λσ H Q z9=>z9.el λρ h m b h' f r e k=>by
 refine bL e λx h1 e1 e2=>?_;obtain⟨e2,rfl⟩:=of_ok e2;cases z:mO h' x with
 |none=>rw[z]at e2;cases e2
 |some c=>
  rw[z]at e2;cases e2;exact(.mk f r e1 λv H' m' s' r' q=>⟨b,Wr r' q z,k H' m' s' r'⟩)
theorem Ws(ha:SE X a fa):SE X (.UnaryOp .USub a pos) (λρ h=>(fa ρ h).bind λx h=>match x with|.int i=>.ok (.int (-i)) h|_=>.no):=
 (zS SX ha).imp λσ H Q q=>Oz (g:=λx h=>match x with|.int i=>.ok (.int (-i)) h|_=>.no) (G:=rU λi=>.int (-i)) (λm h H v x w h' Q r q e k=>by
   cases q<;>try cases e
   rename_i i;exact⟨i,rfl,aM.here k r (.int _)⟩) q
end
section
variable{K:aI}{m m0:Nat->ah}{n n0:Nat}{h:VH}{H H0:Hp}
theorem Rel.adopt(r:Rel K m h H){p:ah}{o:VO}{u u0:HO}(hp:∀i,i<h.n->m i≠p)(hu:H p=aC u0)(ht:∀t,u0≠.tup t)(hf:∀o t,u0≠.bI o t)(s:bO m0 n0 H0 m h.n H)(h0:H0 p=aD)
 (ho:bO m h.n H (λi=>if i=h.n then p else m i) (h.n+1) (upd H p u)\/True->(∀{v:V}{w:W},aK K m h.n H v w->aK K (λi=>if i=h.n then p else m i) (h.n+1) (upd H p u) v w)->gC K (λi=>if i=h.n then p else m i) (h.n+1) (upd H p u) p o) :
 bO m0 n0 H0 (λi=>if i=h.n then p else m i) (h.n+1) (upd H p u)/\Rel K (λi=>if i=h.n then p else m i) (h.new o) (upd H p u):=by
 have kt:∀b vs,H b=aC (.tup vs)->upd H p u b=aC (.tup vs):=λb vs q=>by rw[bU (cM q hu λz=>ht vs z.symm)];exact q
 have kf:∀b o t,H b=aC (.bI o t)->upd H p u b=aC (.bI o t):=λb o t q=>by rw[bU (cM q hu λz=>hf o t z.symm)];exact q
 have mv:∀{v:V}{w:W},aK K m h.n H v w->aK K (λi=>if i=h.n then p else m i) (h.n+1) (upd H p u) v w:=by
  intro v w q;have st:bO m h.n (λb=>if b=p then aD else H b) (λi=>if i=h.n then p else m i) (h.n+1) (upd H p u):=by
   refine⟨tN _,λi hi=>by simp only[if_neg (fP hi)],λi hi hi2=>?_,λi j hi hi2 hj=>?_,λb vs q=>?_,λb o t q=>?_,λb o _ q=>?_⟩;have:i=h.n:=by lia
   subst this;simp only[b9];have:i=h.n:=by lia
   subst this;simp only[b9,if_neg (fP hj)];exact(hp j hj).symm;split at q;cases q;exact kt b vs q;split at q;cases q;exact kf b o t q;split at q;cases q;rename_i z;rw[bU z];exact q
  refine aK.stp st ?_;have back:∀{a vs},bW K H a vs->bW K (λb=>if b=p then aD else H b) a vs:=by
   intro a vs q;rcases q with(q|⟨o,q⟩)|q
   exact .inl (.inl (by simp only[if_neg (cM q hu λz=>ht vs z.symm)];exact q));exact .inl (.inr ⟨o,by simp only[if_neg (cM q hu λz=>hf o _ z.symm)];exact q⟩);exact .inr q
  have Bx:∀{a vs},Fz K H a vs->Fz K (λb=>if b=p then aD else H b) a vs:=by
   intro a vs q;rcases q with⟨o,q⟩|q
   exact .inl ⟨o,by simp only[if_neg (cM q hu λz=>hf o _ z.symm)];exact q⟩;exact .inr q
  exact(aK.rec (K:=K) (m:=m) (n:=h.n) (H:=H) (motive_1:=λv w _=>aK K m h.n (λb=>if b=p then aD else H b) v w) (motive_2:=λvs ws _=>aF K m h.n (λb=>if b=p then aD else H b) vs ws)
   .aO .bl .int .str (λsq _ ih=>.tup (back sq) ih) (λsq _ ih=>.fz (Bx sq) ih) (λhi=>.ref hi) .nil (λ_ _ i1 i2=>.cons i1 i2) q)
 refine⟨⟨yU s.le,λi hi=>?_,λi hi hi2=>?_,λi j hi hi2 hj=>?_,λb vs q=>kt b vs (s.tup b vs q),λb o t q=>kf b o t (s.bI b o t q),λb o nb q=>?_⟩,⟨λi hi=>?_,λi j hi hj z=>?_,?_⟩⟩;have:=s.le;simp only[if_neg (show i≠h.n by lia)];exact s.same i hi;by_cases e:i=h.n;subst e;simp only[b9];exact h0;simp only[if_neg e];exact s.new i hi (by lia);have:=s.le;simp only[if_neg (show j≠h.n by lia)];by_cases e:i=h.n;subst e;simp only[b9];exact(hp j (by lia)).symm;simp only[if_neg e];exact s.apart i j hi (by lia) hj;rw[bU (gV q h0)];exact s.keep b o nb q;have hi:i<h.n+1:=hi;by_cases e:i=h.n;subst e;exact⟨o,fm,by simp only[b9];exact ho (.inr trivial) mv⟩;have hl:i<h.n:=by lia
 obtain⟨o',h1,h2⟩:=r.obj i hl;refine⟨o',(fU hl).trans h1,?_⟩;simp only[if_neg e];have eq:upd H p u (m i)=H (m i):=bU (hp i hl);cases o' with
 |lst ws=>
  obtain⟨vs,q1,q2⟩:=h2;exact⟨vs,eq.trans q1,aF.rec (K:=K) (m:=m) (n:=h.n) (H:=H) (motive_1:=λv w _=>aK K m h.n H v w) (motive_2:=λvs ws _=>aF K (λi=>if i=h.n then p else m i) (h.n+1) (upd H p u) vs ws)
   .aO .bl .int .str (λsq q _=>.tup sq q) (λsq q _=>.fz sq q) (λhi=>.ref hi) .nil (λq _ _ i2=>.cons (mv q) i2) q2⟩
 |dk ws=>
  obtain⟨vs,q1,q2⟩:=h2;have go:∀{vs:List (Key×V)}{ws:List (Key×W)},aN K m h.n H vs ws->aN K (λi=>if i=h.n then p else m i) (h.n+1) (upd H p u) vs ws:=by
   intro vs ws q2;induction q2 with|nil=>exact .nil|cons q _ ih=>exact .cons (mv q) ih
  exact⟨vs,q1.imp (λz=>eq.trans z) λ⟨o,z⟩=>⟨o,eq.trans z⟩,go q2⟩
 |dm ws=>
  obtain⟨vs,q1,q2⟩:=h2;have go:∀{vs:List (Key×V)}{ws:List (Key×W)},aN K m h.n H vs ws->aN K (λi=>if i=h.n then p else m i) (h.n+1) (upd H p u) vs ws:=by
   intro vs ws q2;induction q2 with|nil=>exact .nil|cons q _ ih=>exact .cons (mv q) ih
  exact⟨vs,eq.trans q1,go q2⟩
 have hi:i<h.n+1:=hi;have hj:j<h.n+1:=hj;by_cases e:i=h.n;by_cases e2:j=h.n;lia;simp only[if_pos e,if_neg e2]at z;exact absurd z.symm (hp j (by lia));by_cases e2:j=h.n;simp only[if_neg e,if_pos e2]at z;exact absurd z (hp i (by lia));simp only[if_neg e,if_neg e2]at z;exact r.inj i j (by lia) (by lia) z;show(o::h.os).length=h.n+1;rw[fB,r.len]
theorem aF.map{m':Nat->ah}{n':Nat}{H':Hp}(mv:∀{v:V} {w:W},aK K m n H v w->aK K m' n' H' v w):∀{vs:List V} {ws:List W},aF K m n H vs ws->aF K m' n' H' vs ws|_,_,.nil=>.nil|_,_,.cons q r=>.cons (mv q) (aF.map mv r)
theorem aN.map{m':Nat->ah}{n':Nat}{H':Hp}(mv:∀{v:V} {w:W},aK K m n H v w->aK K m' n' H' v w):∀{vs:List (Key×V)} {ws:List (Key×W)},aN K m n H vs ws->aN K m' n' H' vs ws|_,_,.nil=>.nil|_,_,.cons q r=>.cons (mv q) (aN.map mv r)
theorem aN.look(k:Key):∀{vs:List (Key×V)} {ws:List (Key×W)},aN K m n H vs ws->(gS vs k=aD/\bY ws k=aD)\/∃v w,gS vs k=aC v/\bY ws k=aC w/\aK K m n H v w
 |_,_,.nil=>.inl ⟨rfl,rfl⟩
 |_,_,.cons (k:=k') (v:=v) (w:=w) q r=>by
  by_cases e:k'=k;refine .inr ⟨v,w,Ea (p:=(k',v)) e,?_,q⟩;unfold bY;rw[qx];simp[e];rcases aN.look k r with⟨a,b⟩|⟨v',w',a,b,c⟩
  refine .inl ⟨(Au (p:=(k',v)) e).trans a,?_⟩;unfold bY at b ⊢;rw[qx];simp only[iE e];exact b;refine .inr ⟨v',w',(Au (p:=(k',v)) e).trans a,?_,c⟩;unfold bY at b ⊢;rw[qx];simp only[iE e];exact b
theorem aN.any(k:Key):∀{vs:List (Key×V)} {ws:List (Key×W)},aN K m n H vs ws->(vs.any λkv=>decide (kv.1=k))=(ws.any λkv=>decide (kv.1=k))|_,_,.nil=>rfl|_,_,.cons q r=>by rw[zd,zd,aN.any k r]
theorem aN.repl{v:V}{w:W}(q:aK K m n H v w)(k:Key):∀{vs:List (Key×V)} {ws:List (Key×W)},aN K m n H vs ws->aN K m n H (vs.map λkv=>if kv.1=k then(kv.1,v)else kv) (ws.map λkv=>if kv.1=k then(kv.1,w)else kv)
 |_,_,.nil=>.nil
 |_,_,.cons (k:=k') p r=>by
  rw[gQ,gQ];by_cases e:k'=k;simp only[if_pos e];exact .cons q (aN.repl q k r);simp only[if_neg e];exact .cons p (aN.repl q k r)
theorem aN.snoc{v:V}{w:W}(q:aK K m n H v w)(k:Key):∀{vs:List (Key×V)} {ws:List (Key×W)},aN K m n H vs ws->aN K m n H (vs++[(k,v)]) (ws++[(k,w)])|_,_,.nil=>.cons q .nil|_,_,.cons p r=>.cons p (aN.snoc q k r)
theorem aN.put{v:V}{w:W}(q:aK K m n H v w)(k:Key){vs:List (Key×V)}{ws:List (Key×W)}(r:aN K m n H vs ws):aN K m n H (putK vs k v) (jR ws k w):=by unfold putK jR;rw[r.any k];split;exact r.repl q k;exact r.snoc q k
theorem aN.merge{vs:List (Key×V)}{ws:List (Key×W)}(q:aN K m n H vs ws):∀{va:List (Key×V)} {wa:List (Key×W)},aN K m n H va wa->aN K m n H (t9 va vs) (EF wa ws):=by
 induction q with|nil=>exact λa=>a|cons q r ih=>exact λa=>ih (a.put q _)
theorem aN.length:∀{vs:List (Key×V)} {ws:List (Key×W)},aN K m n H vs ws->vs.length=ws.length|_,_,.nil=>rfl|_,_,.cons _ r=>by rw[fB,fB,aN.length r]
theorem Wt{v:V}{w:W}{k:Key}(q:aK K m n H v w)(e:rO w=aC k):v=kV k:=by cases q<;>cases e<;>rfl
theorem EJ{vs:List V}{ws:List W}{i:Int}{w:W}(q:aF K m n H vs ws)(e:dH ws i=aC w):∃v,dH vs i=aC v/\aK K m n H v w:=by
 unfold dH at e ⊢;rw[q.length];cases z:gR ws.length i with
 |none=>rw[z]at e;cases e
 |some j=>
  rw[z]at e;exact q.get e
end
noncomputable def wD(K:aI):R2:=λx y H Q=>vN K x y H Q\/Af K x y H Q\/(∃a v,x=.ref a/\qZ H a y (aC v)/\Q v H)
section
variable{X:Cx}{a b c e o:aq}{es:List aq}{fa fb fc fo:FE}{pos:Pos}
theorem Wu(hu:X.A.units+1<cLine):qY X (λx y H Q=>∃a v,x=.ref a/\qZ H a y (aC v)/\Q v H):=by intro value slice pins s σ H x y v u Q I rx ry q hs;obtain⟨a,v',rfl,g,q⟩:=q;obtain rfl:v=Value.ref a:=rx;exact tail_any (UJ I g) PySem.F.slot_dict_getitem.lookup (UH hu I g ry λw' s3 I3 rw'=>⟨v',H,I3,rw',q⟩) hs
theorem By(hu:X.A.units+2<cLine):qY X (wD X.K):=TY.or (TZ.or (Wu (by lia)))
theorem Wv{K:aI}:Bo K (wD K) (λx y h=>.of (bS h x y) h):=by
 intro m h H v u x y w h' Q r qv qu e0 k;obtain⟨e,e1⟩:=of_ok e0;clear e0;subst e1;unfold bS at e;split at e;cases qv with
 |tup sq rs=>
  cases qu;obtain⟨v',h1,h2⟩:=EJ rs e;exact .inr (.inl ⟨_,_,_,v',rfl,rfl,sq,h1,aM.here k r h2⟩)
 cases qv with
 |fz sq rs=>
  cases qu;obtain⟨v',h1,h2⟩:=EJ rs e;exact .inl ⟨_,_,_,v',rfl,rfl,sq.sq,h1,aM.here k r h2⟩
 rename_i i j;cases qv;cases qu;cases g:h'.get i with
 |none=>rw[g]at e;cases e
 |some ob=>
  rw[g]at e;cases ob with
  |lst ws=>
   obtain⟨vs,p1,p2⟩:=r.lst g;obtain⟨v',h1,h2⟩:=EJ p2 e;exact .inl ⟨_,_,_,v',rfl,rfl,cz.of p1,h1,aM.here k r h2⟩
  |dk ws=>
   have e:bY ws (.inl j)=aC w:=e;obtain⟨vs,p1,p2⟩:=r.dk g;rcases p2.look (.inl j)with⟨_,z⟩|⟨v',w',z1,z2,z3⟩
   rw[z]at e;cases e;rw[z2]at e;cases e;exact .inr (.inr ⟨_,v',rfl,by rw[<-z1];exact .inl ⟨vs,.inl j,p1,rfl,rfl⟩,aM.here k r z3⟩)
  |dm ws=>
   have e:bY ws (.inl j)=aC w:=e;obtain⟨vs,p1,p2⟩:=r.dm g;rcases p2.look (.inl j)with⟨_,z⟩|⟨v',w',z1,z2,z3⟩
   rw[z]at e;cases e;rw[z2]at e;cases e;exact .inr (.inr ⟨_,v',rfl,by rw[<-z1];exact .inl ⟨vs,.inl j,.inl p1,rfl,rfl⟩,aM.here k r z3⟩)
 rename_i i j;cases qv;cases qu;cases g:h'.get i with
 |none=>rw[g]at e;cases e
 |some ob=>
  rw[g]at e;cases ob with
  |lst ws=>cases e
  |dk ws=>
   have e:bY ws (.inr j)=aC w:=e;obtain⟨vs,p1,p2⟩:=r.dk g;rcases p2.look (.inr j)with⟨_,z⟩|⟨v',w',z1,z2,z3⟩
   rw[z]at e;cases e;rw[z2]at e;cases e;exact .inr (.inr ⟨_,v',rfl,by rw[<-z1];exact .inl ⟨vs,.inr j,p1,rfl,rfl⟩,aM.here k r z3⟩)
  |dm _=>cases e
 cases e
theorem Ww(hu:X.A.units+2<cLine)(ha:SE X a fa)(hb:SE X b fb)(hs:GJ b):SE X (.Subscript a b pos) (λρ h=>(fa ρ h).bind λx h=>(fb ρ h).bind λy h=>.of (bS h x y) h):=
 (Ae (By hu) ha hb hs).imp λσ H Q q=>EG (G:=wD X.K) Wv q
noncomputable def jj(K:aI)(b:Bool)(f:FE):TO:=λσ H Q=>∃ρ h m w o h',Fr K m h.n H σ ρ/\Rel K m h H/\f ρ h=.ok w h'/\dY b w=aC o/\∀H' m',bO m h.n H m' h'.n H'->Rel K m' h' H'->Q o H'
theorem jj.el{K:aI}{σ:L2.St}{H:Hp}{P:Prop}{b:Bool}{fa:FE}{Q:Option Int->Hp->Prop}(q:jj K b fa σ H Q)(k:∀ρ h m w o h',Fr K m h.n H σ ρ->Rel K m h H->fa ρ h=.ok w h'->dY b w=aC o->(∀H' m',bO m h.n H m' h'.n H'->Rel K m' h' H'->Q o H')->P):P:=by obtain⟨ρ,h,m,w,o,h',f,r,e,ep,k'⟩:=q;exact k ρ h m w o h' f r e ep k'
theorem jj.mk{K:aI}{σ:L2.St}{H:Hp}{m:Nat->ah}{ρ:En}{h h':VH}{w:W}{o:Option Int}{b:Bool}{fa:FE}{Q:Option Int->Hp->Prop}(f:Fr K m h.n H σ ρ)(r:Rel K m h H)(e:fa ρ h=.ok w h')(ep:dY b w=aC o)(k:∀H' m',bO m h.n H m' h'.n H'->Rel K m' h' H'->Q o H'):jj K b fa σ H Q:=⟨ρ,h,m,w,o,h',f,r,e,ep,k⟩
theorem Wx{w:W}:PO X aD (jj X.K false (λ_ h=>.ok w h)):=λpins s σ H Q I z9=>z9.el λρ h m w o h' f r e ep k=>by
 cases e;have:o=aD:=by unfold dY at ep;cases ep;rfl
 subst this;exact TN pins s σ H Q I (k H m .refl r)
theorem Wy(ha:SE X e fa):PO X (aC e) (jj X.K true fa):=λpins s σ H Q I z9=>z9.el λρ h m w o h' f r e ep k=>by
 refine TQ ha pins s σ H Q I (.mk f r e λv H' m' s' r' q=>?_);cases q<;>cases ep;exact⟨_,rfl,k H' m' s' r'⟩
theorem OM{K:aI}{m:Nat->ah}{n:Nat}{H:Hp}{vs:List V}{ws:List W}(q:aF K m n H vs ws)(lo hi:Option Int):aF K m n H (jI vs lo hi) (ji ws lo hi):=by unfold jI ji;rw[q.length];exact(q.drop _).take _
theorem Wz{ws:List W}{lo hi:Option Int}(h:HT.bH ws.length 0 lo=0/\HT.bH ws.length ws.length hi=ws.length):ji ws lo hi=ws:=by unfold ji;rw[h.1,h.2];simp
theorem WA{lo hi:Option aq}{fl fh:FE}{p2:Pos}{bl bh:Bool}(ha:SE X a fa)(hl:PO X lo (jj X.K bl fl))(hh:PO X hi (jj X.K bh fh)) :
 SE X (.Subscript a (.Slice lo hi aD p2) pos) (λρ h=>(fa ρ h).bind λx h=>(fl ρ h).bind λl h=>(fh ρ h).bind λu h=>match dY bl l,dY bh u with|some l,aC u=>jS x l u h|_,_=>.no):=
 (TU U9 ha hl hh).imp λσ H Q z9=>z9.el λρ h m w h' f r e k=>by
   refine bL e λx h1 e1 e2=>?_;refine bL e2 λl h2 e3 e4=>?_;refine bL e4 λu h3 e5 e6=>?_;split at e6;rename_i l' u' pl pu;refine(.mk f r e1 λv H1 m1 s1 r1 q1=>(.mk (f.stp s1) r1 e3 pl λH2 m2 s2 r2=>(.mk ((f.stp s1).stp s2) r2 e5 pu λH3 m3 s3 r3=>?_)));have q3:=(q1.stp s2).stp s3;have kk:aM X.K m3 h3.n H3 w h' Q:=λv' H' m' s' r' q'=>k v' H' m' (((s1.trans s2).trans s3).trans s') r' q';unfold jS at e6;split at e6;rename_i ws;cases e6;cases q3 with
   | @tup a vs _ sq rs=>
    by_cases hw:HT.bH vs.length 0 l'=0/\HT.bH vs.length vs.length u'=vs.length;refine .inl (.inr ⟨_,_,rfl,sq,hw,?_⟩);have ON:=hw;rw[rs.length]at ON;rw[Wz ON]at kk;exact aM.here kk r3 (.tup sq rs);exact .inl (.inl ⟨_,_,rfl,sq,hw,λp hp=>aM.tuple kk r3 (OM rs l' u') hp⟩)
   rename_i i;cases q3;cases g:h3.get i with
   |none=>rw[g]at e6;cases e6
   |some ob=>
    rw[g]at e6;cases ob with
    |lst ws=>
     cases e6;obtain⟨vs,p1,p2⟩:=r3.lst g;exact .inr ⟨_,_,rfl,cz.of p1,λp hp=>aM.list kk r3 (OM p2 l' u') hp⟩
    |dk ws=>cases e6
    |dm _=>cases e6
   cases e6;cases e6
end
noncomputable def gW:aq->Bool|.Starred ..=>false|_=>true
theorem gE{e:aq}{es:List aq}{env:Env}(h:gW e):starEach (e::es) env=(false,eval e env)::starEach es env:=by cases e<;>first|rfl|cases h
theorem BA{pos:Pos}{env:Env}:∀{es:List aq},es.all gW=true->(backTo pos (starEach es env)).any (·.1)=false
 |[],_=>rfl
 |e::es,h=>by
  rw[qy,bG]at h;rw[gE h.1];show(false|| (backTo pos (starEach es env)).any (·.1))=false;rw[BA h.2];rfl
noncomputable abbrev rR:FE:=λ_ h=>.ok (.tup []) h
noncomputable abbrev oJ(fa fb:FE):FE:=λρ h=>(fa ρ h).bind λx h=>(fb ρ h).bind λy h=>match y with|.tup ys=>.ok (.tup (x::ys)) h|_=>.no
section
variable{X:Cx}{a b c e o:aq}{es:List aq}{fa fb fc fo:FE}{pos p:Pos}{x:Str}
noncomputable abbrev jk(fa:FE)(g:List W->VH->Res W):FE:=λρ h=>(fa ρ h).bind λy h=>match y with|.tup ys=>g ys h|_=>.no
noncomputable def dZ(K:aI)(r:List V->Hp->VK->Prop)(g:List W->VH->Res W):Prop:=∀(m:Nat->ah) (h:VH) (H:Hp) (vs:List V) (xs:List W) (w:W) (h':VH) (Q:VK),Rel K m h H->aF K m h.n H vs xs->g xs h=.ok w h'->aM K m h.n H w h' Q->r vs H Q
theorem yr{id:String}{r:List V->Hp->VK->Prop}{g:List W->VH->Res W}(hc:bR X (.builtin id) r)(hv:dZ X.K r g)(hg:Gl X x)(hm:X.mg x=aD)(hb:bootBuiltins x=aC (.builtin id))(ha:SA X (e::es) fa)(hs:(e::es).all gW=true)
 (hn:x≠"__name__") (hdb:(x==("__debug__" : Str))=false):SE X (.Call (.Name x p) (e::es) [] pos) (jk fa g):=by
 rw[qy,bG]at hs;exact(MX hc hg hm hb ha hn hdb (gE hs.1) (BA hs.2)).imp λσ H Q q=>wz hv q
theorem Iq{T:String}{r:List V->Hp->VK->Prop}{g:List W->VH->Res W}(hc:bR X (.type T) r)(hv:dZ X.K r g)(hg:Gl X x)(hm:X.mg x=aD)(hb:bootBuiltins x=aC (.type T))(ha:SA X (e::es) fa)(hs:(e::es).all gW=true)
 (hn:x≠"__name__") (hdb:(x==("__debug__" : Str))=false):SE X (.Call (.Name x p) (e::es) [] pos) (jk fa g):=by
 rw[qy,bG]at hs;exact(Tv hc hg hm hb ha hn hdb (gE hs.1) (BA hs.2)).imp λσ H Q q=>wz hv q
theorem dI{K:aI}{m:Nat->ah}{n:Nat}{H:Hp}{vs:List V}{w:W}(q:aF K m n H vs [w]):∃v,vs=[v]/\aK K m n H v w:=by cases q with|cons q r=>cases r;exact⟨_,rfl,q⟩
theorem WB{K:aI}:dZ K (λxs H Q=>∃p ys,xs=[.ref p]/\(cz K H p ys\/bW K H p ys)/\Q (.int ys.length) H) gB:=by
 intro m h H vs xs w h' Q r q e k;unfold gB at e;split at e<;>try cases e
 rename_i x;obtain⟨v,rfl,q1⟩:=dI q;obtain⟨e,rfl⟩:=of_ok e;cases z:aP h' x with
 |none=>
  rw[z]at e;cases e
 |some ws=>
  rw[z]at e;cases e;obtain⟨p,us,rfl,h1,h2⟩:=yp r q1 z;exact⟨p,us,rfl,h1,by rw[h2.length];exact aM.here k r (.int _)⟩
theorem WC{K:aI}:dZ K (λxs H Q=>∃p ys,xs=[.ref p]/\(cz K H p ys\/bW K H p ys)/\∀l,H l=aD->Q (.ref l) (upd H l (.lst ys))) iR:=by
 intro m h H vs xs w h' Q r q e k;unfold iR at e;split at e<;>try cases e
 rename_i x;obtain⟨v,rfl,q1⟩:=dI q;cases z:aP h x with
 |none=>rw[z]at e;cases e
 |some ws=>
  rw[z]at e;cases e;obtain⟨p,us,rfl,h1,h2⟩:=yp r q1 z;exact⟨p,us,rfl,h1,λl hl=>aM.list k r h2 hl⟩
theorem WD{K:aI}:dZ K (λxs H Q=>∃p ys,xs=[.ref p]/\((cz K H p ys/\∀l,H l=aD->Q (.ref l) (upd H l (.tup ys)))\/(bW K H p ys/\Q (.ref p) H))) uq:=by
 intro m h H vs xs w h' Q r q e k;unfold uq at e;split at e<;>try cases e
 rename_i x;obtain⟨v,rfl,q1⟩:=dI q;obtain⟨e,rfl⟩:=of_ok e;cases z:aP h' x with
 |none=>
  rw[z]at e;cases e
 |some ws=>
  rw[z]at e;cases e;obtain⟨p,us,rfl,h1,h2⟩:=yp r q1 z;rcases h1 with h1|h1
  exact⟨p,us,rfl,.inl ⟨h1,λl hl=>aM.tuple k r h2 hl⟩⟩;exact⟨p,us,rfl,.inr ⟨h1,aM.here k r (.tup h1 h2)⟩⟩
theorem WE{K:aI}:dZ K (λxs H Q=>(∃i,xs=[.int i]/\Q (.int i) H)\/∃k,xs=[.bl k]/\Q (.int (if k then 1 else 0)) H) kR:=by
 intro m h H vs xs w h' Q r q e k;unfold kR at e;split at e<;>try cases e
 obtain⟨v,rfl,q1⟩:=dI q;cases q1;exact .inl ⟨_,rfl,aM.here k r (.int _)⟩;obtain⟨v,rfl,q1⟩:=dI q;cases q1;exact .inr ⟨_,rfl,aM.here k r (.int _)⟩
theorem WG{K:aI}:dZ K (λxs H Q=>∃i,xs=[.int i]/\Q (.int (if i<0 then -i else i)) H) kT:=by
 intro m h H vs xs w h' Q r q e k;unfold kT at e;split at e<;>try cases e
 obtain⟨v,rfl,q1⟩:=dI q;cases q1;exact⟨_,rfl,aM.here k r (.int _)⟩
theorem lN{K:aI}{m:Nat->ah}{n:Nat}{H:Hp}{vs:List V}{w z:W}(q:aF K m n H vs [w,z]):∃v u,vs=[v,u]/\aK K m n H v w/\aK K m n H u z:=by cases q with|cons q r=>obtain⟨u,rfl,h⟩:=dI r;exact⟨_,_,rfl,q,h⟩
theorem OO{K:aI}{m:Nat->ah}{n:Nat}{H:Hp}:∀{vs:List V} {ws:List W} {is:List Int},aF K m n H vs ws->aT iZ ws=aC is->vs=is.map .int
 |_,_,_,.nil,e=>by cases e;rfl
 |_,_,_,.cons (w:=w) (ws:=ws) q r,e=>by
  unfold aT at e;cases z:iZ w with
  |none=>rw[z]at e;cases e
  |some b=>
   rw[z]at e;cases z2:aT iZ ws with
   |none=>rw[z2]at e;cases e
   |some cs=>
    rw[z2]at e;cases e;unfold iZ at z;split at z<;>cases z;cases q;rw[OO r z2];rfl
theorem OP:∀(r:List Int) (x:Int),x<=dF x r/\∀y∈r,y<=dF x r
 |[],x=>⟨xV _,λ_ h=>nomatch h⟩
 |y::r,x=>by
  have h:=OP r (if y>x then y else x);by_cases q:y>x;rw[if_pos q]at h;have e:dF x (y::r)=dF y r:=by show dF (if y>x then y else x) r=_;rw[if_pos q]
  rw[e];refine⟨by have:=h.1;lia,λz hz=>?_⟩;rcases gy.mp hz with rfl|hz
  exact h.1;exact h.2 z hz;rw[if_neg q]at h;have e:dF x (y::r)=dF x r:=by show dF (if y>x then y else x) r=_;rw[if_neg q]
  rw[e];refine⟨h.1,λz hz=>?_⟩;rcases gy.mp hz with rfl|hz
  have:=h.1;lia;exact h.2 z hz
theorem OQ:∀(r:List Int) (x:Int),dF x r∈x::r
 |[],x=>fM
 |y::r,x=>by
  have h:=OQ r (if y>x then y else x);by_cases q:y>x;rw[if_pos q]at h;have e:dF x (y::r)=dF y r:=by show dF (if y>x then y else x) r=_;rw[if_pos q]
  rw[e];exact dU _ h;rw[if_neg q]at h;have e:dF x (y::r)=dF x r:=by show dF (if y>x then y else x) r=_;rw[if_neg q]
  rw[e];rcases gy.mp h with h|h
  rw[h];exact fM;exact dU _ (dU _ h)
theorem WH{K:aI}:dZ K (λxs H Q=>(∃i j,xs=[.int i,.int j]/\Q (.int (if j>i then j else i)) H)\/∃(p:ah) (ns:List Int),xs=[.ref p]/\cz K H p (ns.map .int)/\0<ns.length/\∀M,M∈ns->(∀a∈ns,a<=M)->Q (.int M) H) rP:=by
 intro m h H vs xs w h' Q r q e k;unfold rP at e;split at e<;>try cases e
 obtain⟨v,u,rfl,q1,q2⟩:=lN q;cases q1;cases q2;exact .inl ⟨_,_,rfl,aM.here k r (.int _)⟩;rename_i i;split at e<;>try cases e
 rename_i ws g;split at e<;>try cases e
 rename_i x rs z;obtain⟨v,rfl,q1⟩:=dI q;cases q1;obtain⟨us,p1,p2⟩:=r.lst g;refine .inr ⟨_,x::rs,rfl,?_,Nat.succ_pos _,λM h1 h2=>?_⟩;rw[<-OO p2 z];exact .inl (.inl p1);have l1:=OP rs x;have hM:M=dF x rs:=by
  have a1:M<=dF x rs:=by rcases gy.mp h1 with rfl|h1;exact l1.1;exact l1.2 M h1
  have a2:=h2 _ (OQ rs x);lia
 rw[hM];exact aM.here k r (.int _)
theorem WI{K:aI}:dZ K (λxs H Q=>∃i j,xs=[.int i,.int j]/\Q (.int (if j<i then j else i)) H) kU:=by
 intro m h H vs xs w h' Q r q e k;unfold kU at e;split at e<;>try cases e
 obtain⟨v,u,rfl,q1,q2⟩:=lN q;cases q1;cases q2;exact⟨_,_,rfl,aM.here k r (.int _)⟩
theorem OR{K:aI}{m:Nat->ah}{n:Nat}{H:Hp}:∀{vs:List V} {ws:List W} {bs:List Bool},aF K m n H vs ws->aT p5 ws=aC bs->vs=bs.map .bl
 |_,_,bs,.nil,e=>by cases e;rfl
 |_,_,bs,.cons (w:=w) (ws:=ws) q r,e=>by
  unfold aT at e;cases z:p5 w with
  |none=>rw[z]at e;cases e
  |some b=>
   rw[z]at e;cases z2:aT p5 ws with
   |none=>rw[z2]at e;cases e
   |some cs=>
    rw[z2]at e;cases e;unfold p5 at z;split at z<;>cases z;cases q;rw[OR r z2];rfl
theorem WJ{K:aI}:dZ K (λxs H Q=>∃(p:ah) (bs:List Bool),xs=[.ref p]/\cz K H p (bs.map .bl)/\Q (.bl (bs.all id)) H) mP:=by
 intro m h H vs xs w h' Q r q e k;unfold mP at e;split at e<;>try cases e
 rename_i i;split at e<;>try cases e
 rename_i ws g;obtain⟨v,rfl,q1⟩:=dI q;obtain⟨e,rfl⟩:=of_ok e;cases z:aT p5 ws with
 |none=>rw[z]at e;cases e
 |some bs=>
  rw[z]at e;cases e;cases q1;obtain⟨us,p1,p2⟩:=r.lst g;refine⟨_,bs,rfl,?_,aM.here k r (.bl _)⟩;rw[<-OR p2 z];exact .inl (.inl p1)
noncomputable def rS:Ty->String|.int=>"int" |.bool=>"bool" |.tuple=>"tuple" |.list=>"list" |.str=>"str" |.dict=>"dict"
noncomputable def BB(K:aI)(n:String):List V->Hp->VK->Prop:=λxs H Q=>∃x b,xs=[x,.ty n]/\((∃t,fQ K H x t/\PySem.W.kitOne K t (.type n)=aC b)\/(∃a vs,x=.ref a/\bW K H a vs/\PySem.W.kitOne K (.type "tuple") (.type n)=aC b)\/∃a kvs,x=.ref a/\Rd H a (.dK kvs)/\PySem.W.kitOne K (.type "dict") (.type n)=aC b)/\Q (.bl b) H
theorem WK(n:String):bR X (.builtin "isinstance") (BB X.K n):=by
 intro pins s σ H xs us Q I r h;obtain⟨x,b,rfl,hi,q⟩:=h;obtain⟨u,u2,rfl,rx,rc⟩:=vals2 r;obtain rfl:u2=Value.type n:=rc;rcases hi with⟨t,ty,e⟩|⟨a,vs,rfl,sq,e⟩|⟨a,kvs,rfl,rd,e⟩
 exact Tp I rx ty e λtk=>⟨.bl b,H,I.tok _,rfl,q⟩
 obtain rfl:u=Value.ref a:=rx;obtain⟨its,_,p,_⟩:=I.tuple sq;obtain⟨o,h1,h2,_⟩:=p;exact l9 PySem.W.kitx_tuple I.iO ⟨o,h1,h2⟩ e (λz=>nomatch z) λtk=>⟨.bl b,H,I.tok _,rfl,q⟩
 obtain rfl:u=Value.ref a:=rx;obtain⟨_,_,_,_,o,_,_,h1,h2,_⟩:=lD I.hok rd;exact l9 PySem.W.kitx_dict I.iO ⟨o,h1,h2.1⟩ e (λz=>nomatch z) λtk=>⟨.bl b,H,I.tok _,rfl,q⟩
theorem WL{K:aI}(t:Ty){m:Nat->ah}{h:VH}{H:Hp}{v:V}{x:W}{b:Bool}(r:Rel K m h H)(q:aK K m h.n H v x)(e:dR t h x=aC b) :
 (∃t',fQ K H v t'/\PySem.W.kitOne K t' (.type (rS t))=aC b)\/(∃a vs,v=.ref a/\bW K H a vs/\PySem.W.kitOne K (.type "tuple") (.type (rS t))=aC b)\/∃a kvs,v=.ref a/\Rd H a (.dK kvs)/\PySem.W.kitOne K (.type "dict") (.type (rS t))=aC b:=by
 cases q with
 |aO=>cases e;refine .inl ⟨_,.aO,?_⟩;cases t<;>rfl
 |bl x=>cases e;refine .inl ⟨_,.bl x,?_⟩;cases t<;>rfl
 |int x=>cases e;refine .inl ⟨_,.int x,?_⟩;cases t<;>rfl
 |str x=>cases e;refine .inl ⟨_,.str x,?_⟩;cases t<;>rfl
 |tup sq rs=>cases e;refine .inr (.inl ⟨_,_,rfl,sq,?_⟩);cases t<;>rfl
 |fz _ _=>cases e
 | @ref i hi=>
  simp only[dR]at e;cases g:h.get i with
  |none=>rw[g]at e;cases e
  |some o=>
   rw[g]at e;cases o with
   |lst ws=>
    cases e;obtain⟨vs,h1,h2⟩:=r.lst g;refine .inl ⟨_,.lst h1,?_⟩;cases t<;>rfl
   |dk ws=>
    cases e;obtain⟨vs,h1,h2⟩:=r.dk g;refine .inr (.inr ⟨_,_,rfl,h1,?_⟩);cases t<;>rfl
   |dm _=>cases e
theorem WM(t:Ty){T:Str}{p2:Pos}(ha:SE X e fa)(hs:gW e)(hg:Gl X "isinstance")(hm:X.mg "isinstance" = aD)(WN:Gl X T)(WO:X.mg T=aD)(WQ:bootBuiltins T=aC (.type (rS t)))(hn:T≠"__name__")(hd:(T==("__debug__" : Str))=false) :
 SE X (.Call (.Name "isinstance" p) [e,.Name T p2] [] pos) (λρ h=>(fa ρ h).bind λx h=>.of ((dR t h x).map .bl) h):=by
 have hT:PE X (.Name T p2) (tC (.ty (rS t))):=RP WN WO WQ rfl hn hd;refine(MX (WK (rS t)) hg hm PyProof.Rows.boot_isinstance (z0 ha (z0 hT DQ) (gE hs)) (by decide) (by decide) (gE hs) rfl).imp λσ H Q q=>?_;refine Oz (g:=λx h=>.of ((dR t h x).map .bl) h) (G:=λv H1 Q=>BB X.K (rS t) [v,.ty (rS t)] H1 Q) (λm h H v x w h' Q r q e k=>?_) q;obtain⟨e,rfl⟩:=of_ok e;cases z:dR t h' x with
 |none=>rw[z]at e;cases e
 |some b=>
  rw[z]at e;cases e;exact⟨v,b,rfl,WL t r q z,aM.here k r (.bl b)⟩
noncomputable def Ir:aq->Bool|.Name .. |.Subscript ..=>true|_=>false
theorem WR{o:aq}{m:Str}{env:Env}(h:Ir o):attributeBase o m env (eval o env)=eval o env:=by cases o<;>first|rfl|cases h
noncomputable abbrev WS(m:Mt)(fo fa:FE):FE:=λρ h=>(fo ρ h).bind λx h=>if Bh m h x then(fa ρ h).bind λy h=>match y with|.tup ys=>wu m x ys h|_=>.no else .no
theorem WT{apos:Pos}(ho:SE X o fo)(he:SE X e fa)(hb:Ir o)(hs:gW e)(hl:(apos.endLine==pos.line)) :
 SE X (.Call (.Attribute o "append" apos) [e] [] pos) (WS .append fo (oJ fa rR)):=by
 refine(Ai (X:=X) PySem.F.plainAttrs_list PySem.F.slot_list_append PySem.F.type_list_append GL ho (z0 he DQ (gE hs)) (WR hb) ?_ hl (gE hs) rfl).imp λσ H Q z9=>z9.el λρ h m w h' f r e k=>?_;rw[gE hs];rfl;refine bL e λx h1 e1 e2=>?_;split at e2;rename_i hk;refine bL e2 λy h2 e3 e4=>?_;refine bL e3 λz h3 e5 e6=>?_;cases e6;refine(.mk f r e1 λv H1 m1 s1 r1 q1=>?_);cases x<;>try cases hk
 rename_i i;simp only[Bh]at hk;cases g:h1.get i with
 |none=>rw[g]at hk;cases hk
 |some ob=>
  rw[g]at hk;cases ob with
  |dk _=>cases hk
  |dm _=>cases hk
  |lst ws0=>
   cases q1;obtain⟨NC,p1,_⟩:=r1.lst g;refine⟨.inl ⟨rfl,NC,cz.of p1⟩,ρ,h1,m1,z,h2,f.stp s1,r1,e5,λv2 H2 m2 s2 r2 q2=>?_⟩;simp only[wu]at e4;cases g2:h2.get i with
   |none=>rw[g2]at e4;cases e4
   |some ob=>
    rw[g2]at e4;cases ob with
    |dk _=>cases e4
    |dm _=>cases e4
    |lst ws=>
     simp only at e4;split at e4;rename_i hz;cases e4;obtain⟨vs,p2,p3⟩:=r2.lst g2;have hmi:m1 i=m2 i:=(s2.same i (bQ g)).symm;refine⟨m1 i,vs,v2,rfl,rfl,by rw[hmi];exact p2,by rw[p3.length];exact iU.mp hz,?_⟩;obtain⟨st,r'⟩:=r2.write (i:=i) (o:=.lst (ws++[z])) (u:=.lst (vs++[v2])) (bQ g2) p2 (λ_ z=>nomatch z) (λ_ _ z=>nomatch z) λst=>⟨vs++[v2],ie,(p3.stp st).append (.cons (q2.stp st) .nil)⟩
     rw[hmi];exact k .aO _ m2 ((s1.trans s2).trans st) r' .aO;cases e4
 cases e2
end
section
variable{K:aI}{m m' m1:Nat->ah}{n n' n1:Nat}{h h':VH}{H H' H1:Hp}
mutual
theorem aK.mono(hn:n<=n')(hm:∀i,i<n->m' i=m i)(kt:∀b vs,H b=aC (.tup vs)->H' b=aC (.tup vs))(kf:∀b o u,H b=aC (.bI o u)->H' b=aC (.bI o u)):∀{v:V} {w:W},aK K m n H v w->aK K m' n' H' v w
 |_,_,.aO=>.aO
 |_,_,.bl b=>.bl b
 |_,_,.int b=>.int b
 |_,_,.str b=>.str b
 |_,_,.tup q r=>.tup (by
  rcases q with(q|⟨o,q⟩)|q;exact .inl (.inl (kt _ _ q));exact .inl (.inr ⟨o,kf _ _ _ q⟩);exact .inr q) (aF.mono hn hm kt kf r)
 |_,_,.fz q r=>.fz (by
  rcases q with⟨o,q⟩|q;exact .inl ⟨o,kf _ _ _ q⟩;exact .inr q) (aF.mono hn hm kt kf r)
 |_,_,.ref (i:=i) q=>by rw[<-hm i q];exact .ref (dN q hn)
theorem aF.mono(hn:n<=n')(hm:∀i,i<n->m' i=m i)(kt:∀b vs,H b=aC (.tup vs)->H' b=aC (.tup vs))(kf:∀b o u,H b=aC (.bI o u)->H' b=aC (.bI o u)):∀{vs:List V} {ws:List W},aF K m n H vs ws->aF K m' n' H' vs ws|_,_,.nil=>.nil|_,_,.cons q r=>.cons (aK.mono hn hm kt kf q) (aF.mono hn hm kt kf r)
end
theorem Rel.side(r:Rel K m h H){D:ah}{u u0:HO}(hu:H D=aC u0)(ht:∀t,u0≠.tup t)(hf:∀o t,u0≠.bI o t)(ho:∀i,i<h.n->m i≠D)(s:bO m1 n1 H1 m h.n H)(h0:H1 D=aD) :
 bO m1 n1 H1 m h.n (upd H D u)/\Rel K m h (upd H D u)/\∀{v:V}{w:W},aK K m h.n H v w->aK K m h.n (upd H D u) v w:=by
 have kt:∀b vs,H b=aC (.tup vs)->upd H D u b=aC (.tup vs):=λb vs q=>by rw[bU (cM q hu λz=>ht vs z.symm)];exact q
 have kf:∀b o t,H b=aC (.bI o t)->upd H D u b=aC (.bI o t):=λb o t q=>by rw[bU (cM q hu λz=>hf o t z.symm)];exact q
 have mv:∀{v:V}{w:W},aK K m h.n H v w->aK K m h.n (upd H D u) v w:=λq=>q.mono (aQ _) (λ_ _=>rfl) kt kf;refine⟨⟨s.le,s.same,s.new,s.apart,λb vs q=>kt b vs (s.tup b vs q),λb o t q=>kf b o t (s.bI b o t q),λb o nb q=>by rw[bU (gV q h0)];exact s.keep b o nb q⟩,⟨λi hi=>?_,r.inj,r.len⟩,mv⟩;obtain⟨o,h1,h2⟩:=r.obj i hi;have eq:upd H D u (m i)=H (m i):=bU (ho i hi);refine⟨o,h1,?_⟩;cases o with|lst ws=>obtain⟨vs,q1,q2⟩:=h2;exact⟨vs,eq.trans q1,q2.map mv⟩|dk ws=>obtain⟨vs,q1,q2⟩:=h2;exact⟨vs,q1.imp (λz=>eq.trans z) λ⟨o,z⟩=>⟨o,eq.trans z⟩,q2.map mv⟩|dm ws=>obtain⟨vs,q1,q2⟩:=h2;exact⟨vs,eq.trans q1,q2.map mv⟩
theorem Rel.out(r:Rel K m h H){p:ah}(hp:H p=aD):∀i,i<h.n->m i≠p:=λi hi z=>by
 obtain⟨o',_,h2⟩:=r.obj i hi;obtain⟨u',h3⟩:=h2.some;rw[z,hp]at h3;cases h3
theorem bO.out(s:bO m n H m' n' H'){p:ah}{u:HO}(hp:∀i,i<n->m i≠p)(hu:H p=aC u):∀i,i<n'->m' i≠p:=λi hi z=>by
 by_cases hl:i<n;exact hp i hl ((s.same i hl).symm.trans z);have:=s.new i (jB.mp hl) hi;rw[z,hu]at this;cases this
end
inductive iy(K:aI)(m:Nat->ah)(n:Nat)(H:Hp):List (V×V)->List W->Prop
 |nil:iy K m n H [] []
 |cons {k v:V} {a b:W} {ps:List (V×V)} {ws:List W}:aK K m n H k a->aK K m n H v b->iy K m n H ps ws->iy K m n H ((k,v)::ps) (a::b::ws)
noncomputable def oK(K:aI)(f:FE)(σ:L2.St)(H:Hp)(Q:List (V×V)->Hp->Prop):Prop:=∃ρ h m ws h',Fr K m h.n H σ ρ/\Rel K m h H/\f ρ h=.ok (.tup ws) h'/\
 ∀ps H' m',bO m h.n H m' h'.n H'->Rel K m' h' H'->iy K m' h'.n H' ps ws->Q ps H'
theorem oK.el{K:aI}{σ:L2.St}{H:Hp}{P:Prop}{fa:FE}{Q:List (V×V)->Hp->Prop}(q:oK K fa σ H Q)(k:∀ρ h m ws h',Fr K m h.n H σ ρ->Rel K m h H->fa ρ h=.ok (.tup ws) h'->(∀ps H' m',bO m h.n H m' h'.n H'->Rel K m' h' H'->iy K m' h'.n H' ps ws->Q ps H')->P):P:=by obtain⟨ρ,h,m,w,h',f,r,e,k'⟩:=q;exact k ρ h m w h' f r e k'
theorem oK.mk{K:aI}{σ:L2.St}{H:Hp}{m:Nat->ah}{ρ:En}{h h':VH}{ws:List W}{fa:FE}{Q:List (V×V)->Hp->Prop}(f:Fr K m h.n H σ ρ)(r:Rel K m h H)(e:fa ρ h=.ok (.tup ws) h')(k:∀ps H' m',bO m h.n H m' h'.n H'->Rel K m' h' H'->iy K m' h'.n H' ps ws->Q ps H'):oK K fa σ H Q:=⟨ρ,h,m,ws,h',f,r,e,k⟩
noncomputable def BC(X:Cx)(pos:Pos)(keys:List (Option aq))(values:List aq)(f:FE):Prop:=∃lE,Aw X pos keys values lE/\∀σ H Q,oK X.K f σ H Q->Eb lE σ H Q
section
variable{X:Cx}{a b c e o:aq}{es:List aq}{fa fb fc fo fr:FE}{pos p:Pos}{x:Str}
theorem WU:BC X pos [] [] rR:=⟨[],UM,λσ H Q z9=>z9.el λρ h m ws h' f r e k=>by cases e;exact k [] H m .refl r .nil⟩
theorem WV{ks:List (Option aq)}{vs:List aq}(ha:SE X a fa)(hb:SE X b fb)(hr:BC X pos ks vs fr):BC X pos (aC a::ks) (b::vs) (oJ fa (oJ fb fr)):=by
 obtain⟨lE,h1,h2⟩:=hr;refine⟨_,UN ha hb h1,λσ H Q z9=>z9.el λρ h m ws h' f r e k=>?_⟩;refine bL e λx h3 e1 e2=>?_;refine bL e2 λy h4 e3 e4=>?_;refine bL e3 λx2 h5 e5 e6=>?_;refine bL e6 λy2 h6 e7 e8=>?_;cases y2<;>try cases e8
 cases e4;rename_i ys;exact(.mk f r e1 λv H1 m1 s1 r1 q1=>(.mk (f.stp s1) r1 e5 λv2 H2 m2 s2 r2 q2=>h2 σ H2 _ (.mk ((f.stp s1).stp s2) r2 e7 λps H3 m3 s3 r3 q3=>
  k _ H3 m3 ((s1.trans s2).trans s3) r3 (.cons ((q1.stp s2).stp s3) (q2.stp s3) q3))))
theorem OS{K:aI}{m:Nat->ah}{n:Nat}{H:Hp}:∀{ps:List (V×V)} {ws:List W} {kws:List (Key×W)},iy K m n H ps ws->ur ws=aC kws->∃kvs:List (Key×V),ps=kvs.map (λkv=>(kV kv.1,kv.2))/\aN K m n H kvs kws
 |_,_,_,.nil,e=>by cases e;exact⟨[],rfl,.nil⟩
 |_,_,_,.cons (a:=a) (v:=v) q1 q2 r,e=>by
  simp only[ur]at e;split at e;rename_i k hk;split at e;rename_i kvs hp;cases e;obtain⟨kv,rfl,r'⟩:=OS r hp;refine⟨(k,v)::kv,?_,.cons q2 r'⟩;rw[gQ,Wt q1 hk];cases e;cases e
noncomputable abbrev Iu(f:FE):FE:=λρ h=>(f ρ h).bind λy h=>match y with
 |.tup ys=>(match ur ys with
  |some kvs=>if Nat.ble kvs.length 15 then .ok (.ref h.n) (h.new (Bj kvs))else .no
  |none=>.no)
 |_=>.no
theorem WW(hu:X.A.units+2<cLine){keys:List (Option aq)}{values:List aq}(hp:BC X pos keys values fa)(hall:keys.all (·.isSome))(hl:keys.length=values.length)(h0:keys≠[])(Hy:keys.length<=15):SE X (.Dict keys values pos) (Iu fa):=by
 obtain⟨lE,h1,h2⟩:=hp;refine(UO h1 hall hl h0 Hy).imp λσ H Q z9 p hp=>z9.el λρ h m w h' f r e k=>?_;refine bL e λy h3 e1 e2=>?_;cases y<;>try cases e2
 rename_i ys;obtain⟨kr,r0⟩:=r.more (u:=.dK []) hp;refine h2 σ _ _ (.mk (f.stp kr) r0 e1 λps H2 m2 s2 r2 q2=>?_);have hout:=s2.out (r.out hp) ie;have hD:H2 p=aC (.dK []):=s2.keep p _ (r.out hp) ie;refine⟨hD,?_⟩;have e2:(match ur ys with|some kvs=>if Nat.ble kvs.length 15 then Res.ok (W.ref h3.n) (h3.new (Bj kvs))else .no|none=>.no)=.ok w h':=e2
 cases hk:ur ys with
 |none=>
  rw[hk]at e2;cases e2
 |some kws=>
  rw[hk]at e2;have e2:(if Nat.ble kws.length 15 then Res.ok (W.ref h3.n) (h3.new (Bj kws))else .no)=.ok w h':=e2;by_cases hz:Nat.ble kws.length 15=true;rw[if_pos hz]at e2;cases e2;obtain⟨kvs,e3,q3⟩:=OS q2 hk;refine⟨kvs,e3,by rw[q3.length];exact j8 hz,?_⟩;obtain⟨st,r'⟩:=r2.adopt (o:=Bj kws) (u:=.dK (t9 [] kvs)) hout hD (λ_ z=>nomatch z) (λ_ _ z=>nomatch z) (kr.trans s2) hp λ_ mv=>⟨_,.inl ie,(q3.merge .nil).map mv⟩
  refine k _ _ _ st r' ?_;have:aK X.K (λi=>if i=h3.n then p else m2 i) (h3.n+1) (upd H2 p (.dK (t9 [] kvs))) (.ref ((λi=>if i=h3.n then p else m2 i) h3.n)) (.ref h3.n):=.ref (jA _);simp only[b9]at this;exact this;rw[if_neg hz]at e2;cases e2
noncomputable def oM(K:aI)(np:Nat)(g:List W->VH->Res W):Sp:=λvs H Q _=>vs.length=np/\∃h m ws w h',Rel K m h H/\aF K m h.n H vs ws/\g ws h=.ok w h'/\aM K m h.n H w h' Q
theorem WX{k:Nat}{f:ah}{fd:av}{ps:List Str}{g:List W->VH->Res W}(F:fC X.prog X.w X.K X.mg X.base lA k f fd ps (oM X.K ps.length g))(hr:cJ k X.A)(hg:Gl X x)(hm:X.mg x=aC (.ref f))(hk:PySem.W.keepIn X.K (.ref f)=true)
 (hb:Binds X.K fd ps []) (ha:SA X (e::es) fa) (hs:(e::es).all gW) (hdb:(x==("__debug__" : Str))=false) (hn:∀ws h w h',g ws h=.ok w h'->ws.length=ps.length):SE X (.Call (.Name x p) (e::es) [] pos) (jk fa g):=by
 rw[qy,bG]at hs;refine(MP F hr hg hm hk hb .nil nV ha hdb (gE hs.1) (BA hs.2)).imp λσ H Q q=>wz (G:=λvs H1 Q=>oM X.K ps.length g (vs++[]) H1 Q E0) (λm h H vs xs w h' Q r q e k=>?_) q;rw[ny];exact⟨by rw[q.length];exact hn _ _ _ _ e,h,m,xs,w,h',r,q,e,k⟩
theorem WY{k:Nat}{f:ah}{fd:av}{ps:List Str}{g:List W->VH->Res W}(F:fC X.prog X.w X.K X.mg X.base lA k f fd ps (oM X.K ps.length g))(hr:cJ k X.A)(hg:Gl X x)(hm:X.mg x=aC (.ref f))(hk:PySem.W.keepIn X.K (.ref f)=true)
 (hb:Binds X.K fd ps []) (hdb:(x==("__debug__" : Str))=false) (hn:∀ws h w h',g ws h=.ok w h'->ws.length=ps.length):SE X (.Call (.Name x p) [] [] pos) (jk rR g):=by
 refine(Tt F hr hg hm hk hb .nil nV hdb).imp λσ H Q z9=>z9.el λρ h m w h' f r e k=>?_;exact⟨hn _ _ _ _ e,h,m,[],w,h',r,.nil,e,k⟩
theorem WZ{k:Nat}{f:ah}{fd:av}{ps:List Str}{g:List W->VH->Res W}(F:fC X.prog X.w X.K X.mg X.base lA k f fd ps (oM X.K ps.length g))(hr:cJ k X.A)(hg:Gl X x)(hm:X.mg x=aC (.ref f))(hk:PySem.W.keepIn X.K (.ref f)=true)
 (hb:Binds X.K fd ps [.none]) (ha:SA X (e::es) fa) (hs:(e::es).all gW) (hdb:(x==("__debug__" : Str))=false) (hn:∀ws h w h',g ws h=.ok w h'->ws.length=ps.length):SE X (.Call (.Name x p) (e::es) [] pos) (jk fa λws h=>g (ws++[.aO]) h):=by
 rw[qy,bG]at hs;refine(MP F hr hg hm hk hb (nT:=[V.aO]) (.cons rfl .nil) nV ha hdb (gE hs.1) (BA hs.2)).imp λσ H Q q=>wz (G:=λvs H1 Q=>oM X.K ps.length g (vs++[V.aO]) H1 Q E0) (λm h H vs xs w h' Q r q e k=>?_) q;have q':aF X.K m h.n H (vs++[V.aO]) (xs++[W.aO]):=q.append (.cons .aO .nil);exact⟨by rw[q'.length];exact hn _ _ _ _ e,h,m,xs++[W.aO],w,h',r,q',e,k⟩
noncomputable def jl(K:aI)(nx:Nat->VH->Option (Option W))(J:It)(P:(Nat->ah)->Nat->Hp->Prop):Prop:=
 (∀m n H m' n' H',n<=n'->(∀i,i<n->m' i=m i)->(∀b vs,H b=aC (.tup vs)->H' b=aC (.tup vs))->(∀b o u,H b=aC (.bI o u)->H' b=aC (.bI o u))->P m n H->P m' n' H')/\
 ∀m h H,Rel K m h H->P m h.n H->∀i,(∀w,nx i h=aC (aC w)->J.go i H/\∀y H3,J.vG i H y H3->bO m h.n H m h.n H3/\Rel K m h H3/\aK K m h.n H3 y w)/\(nx i h=aC aD->J.stop i H)
noncomputable def cu(K:aI)(kd:Kd)(f:FE):TI:=λσ H R=>∃ρ h m x h',Fr K m h.n H σ ρ/\Rel K m h H/\f ρ h=.ok x h'/\(∃o,bf kd x 0 h'=aC o)/\
 ∀J P H' m',bO m h.n H m' h'.n H'->Rel K m' h' H'->jl K (bf kd x) J P->P m' h'.n H'->R J H'
theorem cu.el{K:aI}{σ:L2.St}{H:Hp}{P:Prop}{kd:Kd}{fa:FE}{R}(q:cu K kd fa σ H R)(k:∀ρ h m x h',Fr K m h.n H σ ρ->Rel K m h H->fa ρ h=.ok x h'->∀o,bf kd x 0 h'=aC o->(∀J P H' m',bO m h.n H m' h'.n H'->Rel K m' h' H'->jl K (bf kd x) J P->P m' h'.n H'->R J H')->P):P:=by obtain⟨ρ,h,m,w,h',f,r,e,⟨o,eo⟩,k'⟩:=q;exact k ρ h m w h' f r e o eo k'
theorem cu.mk{K:aI}{σ:L2.St}{H:Hp}{m:Nat->ah}{ρ:En}{h h':VH}{x:W}{kd:Kd}{fa:FE}{R}(f:Fr K m h.n H σ ρ)(r:Rel K m h H)(e:fa ρ h=.ok x h')(eo:∃o,bf kd x 0 h'=aC o)(k:∀J P H' m',bO m h.n H m' h'.n H'->Rel K m' h' H'->jl K (bf kd x) J P->P m' h'.n H'->R J H'):cu K kd fa σ H R:=⟨ρ,h,m,x,h',f,r,e,eo,k⟩
theorem Iv{K:aI}{H H':Hp}{a:ah}{vs:List V}(kt:∀b vs,H b=aC (.tup vs)->H' b=aC (.tup vs))(kf:∀b o u,H b=aC (.bI o u)->H' b=aC (.bI o u))(q:bW K H a vs):bW K H' a vs:=by rcases q with(q|⟨o,q⟩)|q;exact .inl (.inl (kt _ _ q));exact .inl (.inr ⟨o,kf _ _ _ q⟩);exact .inr q
theorem OT{K:aI}{H H':Hp}{a:ah}{vs:List V}(kf:∀b o u,H b=aC (.bI o u)->H' b=aC (.bI o u))(q:Fz K H a vs):Fz K H' a vs:=by rcases q with⟨o,q⟩|q;exact .inl ⟨o,kf _ _ _ q⟩;exact .inr q
theorem yt{ws:List W}{h:VH}{x:W}{i:Nat}{o:Option W}(e:aP h x=aC ws)(q:bf .seq x i h=aC o):ws[i]?=o:=by simp only[bf,e]at q;cases q;rfl
theorem W0{K:aI}{a:ah}{vs:List V}{ws:List W}:jl K (bf .seq (.tup ws)) (Gu K a) (λm n H=>bW K H a vs/\aF K m n H vs ws):=by refine⟨λm n H m' n' H' hn hm kt kf ⟨q1,q2⟩=>⟨Iv kt kf q1,q2.mono hn hm kt kf⟩,λm h H r ⟨q1,q2⟩ i=>⟨λw e=>?_,λe=>?_⟩⟩;have e:=yt (ws:=ws) rfl e;obtain⟨v,h1,h2⟩:=q2.get e;refine⟨⟨vs,v,q1,h1⟩,λy H3 ⟨e3,y3⟩=>?_⟩;subst e3;have:=y3 vs q1;rw[h1]at this;cases this;exact⟨.refl,r,h2⟩;have e:=yt (ws:=ws) rfl e;exact⟨vs,q1,by rw[q2.length];exact nG.mp e⟩
theorem BD{K:aI}{a:ah}{vs:List V}{ws:List W}:jl K (bf .seq (.fz ws)) (DN K a) (λm n H=>Fz K H a vs/\aF K m n H vs ws):=by refine⟨λm n H m' n' H' hn hm kt kf ⟨q1,q2⟩=>⟨OT kf q1,q2.mono hn hm kt kf⟩,λm h H r ⟨q1,q2⟩ i=>⟨λw e=>?_,λe=>?_⟩⟩;have e:=yt (ws:=ws) rfl e;obtain⟨v,h1,h2⟩:=q2.get e;refine⟨⟨vs,v,q1.sq,h1⟩,λy H3 ⟨e3,y3⟩=>?_⟩;subst e3;have:=y3 vs q1.sq;rw[h1]at this;cases this;exact⟨.refl,r,h2⟩;have e:=yt (ws:=ws) rfl e;exact⟨vs,q1.sq,by rw[q2.length];exact nG.mp e⟩
theorem W2{K:aI}{a:ah}{l:Nat}:jl K (bf .seq (.ref l)) (DN K a) (λm n H=>l<n/\a=m l):=by
 refine⟨λm n H m' n' H' hn hm kt kf ⟨q1,q2⟩=>⟨dN q1 hn,by rw[hm l q1];exact q2⟩,λm h H r ⟨q1,q2⟩ i=>?_⟩;subst q2;cases g:h.get l with
 |none=>exact⟨λw e=>by simp[bf,aP,g]at e,λe=>by simp[bf,aP,g]at e⟩
 |some o=>
  cases o with
  |dk _=>exact⟨λw e=>by simp[bf,aP,g]at e,λe=>by simp[bf,aP,g]at e⟩
  |dm _=>exact⟨λw e=>by simp[bf,aP,g]at e,λe=>by simp[bf,aP,g]at e⟩
  |lst ws=>
   have hs:aP h (.ref l)=aC ws:=by simp[aP,g]
   obtain⟨vs,p1,p2⟩:=r.lst g;refine⟨λw e=>?_,λe=>?_⟩;have e:=yt hs e;obtain⟨v,h1,h2⟩:=p2.get e;refine⟨⟨vs,v,cz.of p1,h1⟩,λy H3 ⟨e3,y3⟩=>?_⟩;subst e3;have:=y3 vs (cz.of p1);rw[h1]at this;cases this;exact⟨.refl,r,h2⟩;have e:=yt hs e;exact⟨vs,cz.of p1,by rw[p2.length];exact nG.mp e⟩
theorem OU{K:aI}{kd:Kd}{x:W}{lo:Int}{k:Nat}(hx:∀i h,bf kd x i h=aC (if i<k then aC (.int (lo+i))else aD)):jl K (bf kd x) (zL lo k) (λ_ _ _=>True):=by refine⟨λ_ _ _ _ _ _ _ _ _ _ _=>trivial,λm h H r _ i=>⟨λw e=>?_,λe=>?_⟩⟩;rw[hx]at e;split at e;rename_i hi;cases e;refine⟨hi,λy H3 ⟨e3,y3⟩=>?_⟩;subst e3 y3;exact⟨.refl,r,.int _⟩;cases e;rw[hx]at e;split at e;cases e;rename_i hi;exact jB.mp hi
theorem OV{tg:aq}(ha:SE X e fa):PI X tg e (cu X.K .seq fa):=λpins s σ H R I z9=>z9.el λρ h m x h' f r ee o en k=>by
 have hs:∃ws,aP h' x=aC ws:=by
  cases z:aP h' x with|none=>simp[bf,z]at en|some ws=>exact⟨ws,rfl⟩
 obtain⟨ws,hs⟩:=hs;cases x<;>try cases hs
 exact Sw ha pins s σ H R I (.mk f r ee λv H' m' s' r' q=>by
  cases q with|tup sq rs=>exact⟨_,rfl,⟨_,sq⟩,k _ _ H' m' s' r' W0 ⟨sq,rs⟩⟩)
 exact ML ha pins s σ H R I (.mk f r ee λv H' m' s' r' q=>by
  cases q with|fz sq rs=>exact⟨_,rfl,⟨_,sq.sq⟩,k _ _ H' m' s' r' BD ⟨sq,rs⟩⟩)
 rename_i l;exact ML ha pins s σ H R I (.mk f r ee λv H' m' s' r' q=>by
  obtain⟨p,vs,e1,e2,e3⟩:=yp r' q hs;cases q with
  |ref hi=>
   cases g:h'.get l with
   |none=>simp[aP,g]at hs
   |some ob=>
    cases ob with
    |dk _=>simp[aP,g]at hs
    |dm _=>simp[aP,g]at hs
    |lst EK=>
     obtain⟨vs',p1,_⟩:=r'.lst g;exact⟨_,rfl,⟨_,cz.of p1⟩,k _ _ H' m' s' r' W2 ⟨hi,rfl⟩⟩)
theorem W3{tg:aq}(ha:SA X [e] fa)(hs:gW e)(hg:Gl X "range")(hm:X.mg "range" = aD):PI X tg (.Call (.Name "range" p) [e] [] pos) (cu X.K .bg fa):=λpins s σ H R I z9=>z9.el λρ h m x h' f r ee o en k=>by
 simp only[bf]at en;split at en;rename_i j;split at en;rename_i hf;refine Sx hg hm ha (gE hs) pins s σ H R I (.mk f r ee λvs H' m' s' r' q=>?_);obtain⟨v,rfl,q1⟩:=dI q;cases q1;refine⟨_,rfl,(wC hf).1,(wC hf).2,k _ _ H' m' s' r' (OU λi h=>?_) trivial⟩;simp only[bf,hf,b9];split<;>split<;>first|rfl|(exfalso;simp at *;lia)
 cases en;cases en
theorem W4{tg:aq}(ha:SA X [a,b] fa)(hs:gW a)(hs2:gW b)(hg:Gl X "range")(hm:X.mg "range" = aD):PI X tg (.Call (.Name "range" p) [a,b] [] pos) (cu X.K .wk fa):=λpins s σ H R I z9=>z9.el λρ h m x h' f r ee o en k=>by
 simp only[bf]at en;split at en;rename_i i j;split at en;rename_i hf;refine Sy hg hm ha (by rw[gE hs,gE hs2];rfl) (gE hs2) pins s σ H R I (.mk f r ee λvs H' m' s' r' q=>?_);obtain⟨v,u,rfl,q1,q2⟩:=lN q;cases q1;cases q2;have hf2:=hf;rw[bG]at hf2;refine⟨_,_,rfl,⟨(wC hf2.1).1,(wC hf2.1).2,(wC hf2.2).1,(wC hf2.2).2⟩,k _ _ H' m' s' r' (OU λi h=>?_) trivial⟩;simp only[bf,hf,b9];split<;>split<;>first|rfl|(exfalso;simp at *;lia)
 cases en;cases en
theorem W5{elts:List aq}{kx:Nat}{tp:Pos}{l:aq}{ta:TA}(hg:Gl X "enumerate")(hm:X.mg "enumerate" = aD)(hv:bootBuiltins "enumerate" = aC (.type "enumerate"))(ha:PA X [l] ta)(hs:starEach [l] X.env=[(false,eval l X.env)]) :
 PI X (.Tuple elts kx tp) (.Call (.Name "enumerate" p) [l] [] pos) (λσ H R=>ta σ H λvs H1=>∃a,vs=[.ref a]/\(∃xs,bW X.K H1 a xs)/\R (vW X.K a) H1):=by
 intro pins s σ H R I h;refine Call_ (qI I hg hm hv (vp (aU (ha pos pins s σ H _ I h) λus s1 ⟨vs,H1,I1,r1,q1⟩=>?_) hs rfl));obtain⟨a,e,⟨xs,hq⟩,q⟩:=q1;subst e;obtain⟨u,rfl,ru⟩:=vals1 r1;cases ru;obtain⟨its,rv,pl,hz⟩:=I1.tuple hq;have pl:s1.heap.IsTuple a its.toArray:=pl;have hlt:a<s1.heap.objs.size:=by obtain⟨o,q,_⟩:=pl;exact cD q
 refine UB pl λh' he hit hsz kk=>wpAny_pyIter_enum he ?_;have hf:∀b,s1.heap.objs.size<=b->dO X pins H1 b:=λb hb=>I1.kM hb (I1.hok.fresh hb);refine⟨s1.heap.objs.size+1,[s1.heap.objs.size+1,s1.heap.objs.size],_,_,H1,rfl,I1.kept (t':=s1.toks) kk,UC a _ _ (nt (jA _)) (fP (qq hlt)) (fP hlt),⟨⟨_,he⟩,hit⟩,λb hb=>hf b ?_,q⟩;rcases gy.mp hb with rfl|hb
 exact tN _;have e':b=s1.heap.objs.size:=by simpa using hb
 rw[e'];exact aQ _
theorem OW{ws:List W}{h:VH}{i:Nat}{o:Option W}(q:bf .pZ (.tup ws) i h=aC o):o=(ws[i]?).map λw=>.tup [.int i,w]:=by cases q;rfl
theorem W6{K:aI}{a:ah}{vs:List V}{ws:List W}:jl K (bf .pZ (.tup ws)) (vW K a) (λm n H=>bW K H a vs/\aF K m n H vs ws):=by
 refine⟨λm n H m' n' H' hn hm kt kf ⟨q1,q2⟩=>⟨Iv kt kf q1,q2.mono hn hm kt kf⟩,λm h H r ⟨q1,q2⟩ i=>⟨λw e=>?_,λe=>?_⟩⟩;have e:=OW (ws:=ws) e;cases z:ws[i]? with
 |none=>rw[z]at e;cases e
 |some w0=>
  rw[z]at e;cases e;obtain⟨v,h1,h2⟩:=q2.get z;refine⟨⟨vs,v,q1,h1⟩,λy H3 ⟨T,v3,e1,e2,e3,y3⟩=>?_⟩;subst e1 e3;have:=y3 vs q1;rw[h1]at this;cases this;obtain⟨st,r'⟩:=r.more (u:=.tup [.int i,v]) e2;exact⟨st,r',.tup (bW.of ie) (.cons (.int _) (.cons (h2.stp st) .nil))⟩
 have e:=OW (ws:=ws) e;cases z:ws[i]? with|some w0=>rw[z]at e;cases e|none=>exact⟨vs,q1,by rw[q2.length];exact nG.mp z⟩
theorem W7:bootBuiltins "enumerate" = aC (.type "enumerate"):=by decide +kernel
theorem HR(ha:SE X e fa)(hs:gW e):PA X [e] (λσ H Q=>gw X.K fa σ H λv H1=>Q [v] H1):=λp pins s σ H Q I q=>by
 refine z0 ha DQ (gE hs) p pins s σ H Q I ?_;refine q.el λρ h m w h' f r ee k=>?_;exact(.mk f r ee λv H' m' s' r' q'=>k v H' m' s' r' q')
theorem W8{elts:List aq}{kx:Nat}{tp:Pos}(ha:SE X e fa)(hs0:gW e)(hg:Gl X "enumerate")(hm:X.mg "enumerate" = aD):PI X (.Tuple elts kx tp) (.Call (.Name "enumerate" p) [e] [] pos) (cu X.K .pZ fa):=λpins s σ H R I z9=>z9.el λρ h m x h' f r ee o en k=>by
 cases x with
 |tup ws=>exact W5 hg hm W7 (HR ha hs0) (gE hs0) pins s σ H R I ⟨ρ,h,m,_,h',f,r,ee,λv H' m' s' r' q=>by
  cases q with|tup sq rs=>exact⟨_,rfl,⟨_,sq⟩,k _ _ H' m' s' r' W6 ⟨sq,rs⟩⟩⟩
 |_=>cases en
theorem W9{elts:List aq}{kx:Nat}{tp:Pos}{l l2:aq}{ta:TA}(hg:Gl X "zip")(hm:X.mg "zip" = aD)(ha:PA X [l,l2] ta)(hs:starEach [l,l2] X.env=[(false,eval l X.env),(false,eval l2 X.env)])(hs2:starEach [l2] X.env=[(false,eval l2 X.env)]) :
 PI X (.Tuple elts kx tp) (.Call (.Name "zip" p) [l,l2] [] pos) (λσ H R=>ta σ H λvs H1=>∃b c a1 a2,vs=[.ref a1,.ref a2]/\(∃xs,mG b X.K H1 a1 xs)/\(∃ys,mG c X.K H1 a2 ys)/\R (vZ X.K b c a1 a2) H1):=by
 intro pins s σ H R I h;refine Call_ (qI I hg hm PyProof.Rows.boot_zip (vp (aU (ha pos pins s σ H _ I h) λus s1 ⟨vs,H1,I1,r1,q1⟩=>?_) (by rw[hs,hs2]) (by rw[hs2];rfl)));obtain⟨b,c,a1,a2,e,⟨xs,hq⟩,⟨ys,hr⟩,q⟩:=q1;subst e;cases r1 with
 |cons r rr=>
  cases rr with
  |cons r' rr=>
   cases rr;cases r;cases r';obtain⟨its,_,pl,_⟩:=yi I1 hq;obtain⟨NP,_,OX,_⟩:=yi I1 hr;refine Vl pl OX λh' e1 e2 e3 e4 e5 hsz kk=>wpAny_pyIter_zip e1 ?_;have hf:∀b,s1.heap.objs.size<=b->dO X pins H1 b:=λb hb=>I1.kM hb (I1.hok.fresh hb);refine⟨s1.heap.objs.size+4,_,_,_,H1,rfl,I1.kept (t':=s1.toks) kk,Vm a1 a2 _ _ _ _ _ (U' pl.lt OX.lt),⟨e1,e2,⟨_,_,e3⟩,e4,e5⟩,λb hb=>hf b ?_,q⟩;simp only[gy,Dr,or_false]at hb;rcases hb with rfl|rfl|rfl|rfl|rfl
   exact Dh _ _;exact Dh _ _;exact Dh _ _;exact aQ _;exact Dh _ _
noncomputable def Src(K:aI)(b:Bool)(a:ah)(u:W)(P:(Nat->ah)->Nat->Hp->Prop):Prop:=
 (∀m n H m' n' H',n<=n'->(∀i,i<n->m' i=m i)->(∀b vs,H b=aC (.tup vs)->H' b=aC (.tup vs))->(∀b o u,H b=aC (.bI o u)->H' b=aC (.bI o u))->P m n H->P m' n' H')/\
 ∀m h H ws,Rel K m h H->P m h.n H->aP h u=aC ws->∃vs,mG b K H a vs/\aF K m h.n H vs ws
theorem OY{K:aI}{m:Nat->ah}{h:VH}{H:Hp}{v:V}{u:W}{ws:List W}(r:Rel K m h H)(q:aK K m h.n H v u)(e:aP h u=aC ws):∃b a P,v=.ref a/\Src K b a u P/\P m h.n H/\∃xs,mG b K H a xs:=by
 cases q with
 |aO=>cases e
 |bl b=>cases e
 |int b=>cases e
 |str b=>cases e
 |tup sq rs=>exact⟨true,_,λm n H=>bW K H _ _/\aF K m n H _ _,rfl,⟨λm n H m' n' H' hn hm kt kf ⟨q1,q2⟩=>⟨Iv kt kf q1,q2.mono hn hm kt kf⟩,λm h H ws _ ⟨q1,q2⟩ z=>by cases z;exact⟨_,q1,q2⟩⟩,⟨sq,rs⟩,_,sq⟩
 |fz sq rs=>exact⟨false,_,λm n H=>Fz K H _ _/\aF K m n H _ _,rfl,⟨λm n H m' n' H' hn hm kt kf ⟨q1,q2⟩=>⟨OT kf q1,q2.mono hn hm kt kf⟩,λm h H ws _ ⟨q1,q2⟩ z=>by cases z;exact⟨_,q1.sq,q2⟩⟩,⟨sq,rs⟩,_,sq.sq⟩
 |ref hi=>
  rename_i l;have key:∀m (h:VH) H ws,Rel K m h H->aP h (.ref l)=aC ws->∃vs,H (m l)=aC (.lst vs)/\aF K m h.n H vs ws:=λm h H ws r z=>by
   cases g:h.get l with
   |none=>simp[aP,g]at z
   |some o=>
    cases o with
    |dk _=>simp[aP,g]at z
    |dm _=>simp[aP,g]at z
    |lst EK=>
     have:EK=ws:=by simpa[aP,g]using z
     subst this;exact r.lst g
  obtain⟨vs,p1,_⟩:=key m h H ws r e;refine⟨false,_,λm' n _=>l<n/\m l=m' l,rfl,⟨λm1 n H m' n' H' hn hm kt kf ⟨q1,q2⟩=>⟨dN q1 hn,by rw[hm l q1];exact q2⟩,λm1 h H ws r' ⟨q1,q2⟩ z=>?_⟩,⟨hi,rfl⟩,vs,cz.of p1⟩;obtain⟨vs,g1,g2⟩:=key m1 h H ws r' z;rw[q2];exact⟨vs,cz.of g1,g2⟩
theorem Iw{u v:W}{h:VH}{i:Nat}{o:Option W}(q:bf .zip (.tup [u,v]) i h=aC o):∃ws zs,aP h u=aC ws/\aP h v=aC zs/\o=(match ws[i]?,zs[i]? with|some a,aC b=>aC (.tup [a,b])|_,_=>aD):=by simp only[bf]at q;split at q;rename_i ws zs h1 h2;cases q;exact⟨ws,zs,h1,h2,rfl⟩;cases q
theorem Xa{K:aI}{b c:Bool}{a1 a2:ah}{u v:W}{P1 P2:(Nat->ah)->Nat->Hp->Prop}(s1:Src K b a1 u P1)(s2:Src K c a2 v P2):jl K (bf .zip (.tup [u,v])) (vZ K b c a1 a2) (λm n H=>P1 m n H/\P2 m n H):=by
 refine⟨λm n H m' n' H' hn hm kt kf ⟨q1,q2⟩=>⟨s1.1 m n H m' n' H' hn hm kt kf q1,s2.1 m n H m' n' H' hn hm kt kf q2⟩,λm h H r ⟨q1,q2⟩ i=>⟨λw e=>?_,λe=>?_⟩⟩;obtain⟨ws,zs,e1,e2,e3⟩:=Iw e;obtain⟨xs,g1,g2⟩:=s1.2 m h H ws r q1 e1;obtain⟨ys,g3,g4⟩:=s2.2 m h H zs r q2 e2;cases z1:ws[i]? with
 |none=>rw[z1]at e3;cases e3
 |some w1=>
  cases z2:zs[i]? with
  |none=>rw[z1,z2]at e3;cases e3
  |some w2=>
   rw[z1,z2]at e3;cases e3;obtain⟨v1,k1,k2⟩:=g2.get z1;obtain⟨v2,k3,k4⟩:=g4.get z2;refine⟨⟨xs,ys,v1,v2,g1,g3,k1,k3⟩,λy H3 ⟨T,x3,y3,f1,f2,f3,f4,f5⟩=>?_⟩;subst f1 f3;have t1:=f4 xs g1;have t2:=f5 ys g3;rw[k1]at t1;cases t1;rw[k3]at t2;cases t2;obtain⟨st,r'⟩:=r.more (u:=.tup [v1,v2]) f2;exact⟨st,r',.tup (bW.of ie) (.cons (k2.stp st) (.cons (k4.stp st) .nil))⟩
 obtain⟨ws,zs,e1,e2,e3⟩:=Iw e;obtain⟨xs,g1,g2⟩:=s1.2 m h H ws r q1 e1;obtain⟨ys,g3,g4⟩:=s2.2 m h H zs r q2 e2;refine⟨xs,ys,g1,g3,?_⟩;cases z1:ws[i]? with
 |none=>exact .inl (by rw[g2.length];exact nG.mp z1)
 |some w1=>
  cases z2:zs[i]? with|none=>exact .inr (by rw[g4.length];exact nG.mp z2)|some w2=>rw[z1,z2]at e3;cases e3
theorem Xb{elts:List aq}{kx:Nat}{tp:Pos}(ha:SA X [a,b] fa)(hs:gW a)(hs2:gW b)(hg:Gl X "zip")(hm:X.mg "zip" = aD):PI X (.Tuple elts kx tp) (.Call (.Name "zip" p) [a,b] [] pos) (cu X.K .zip fa):=λpins s σ H R I z9=>z9.el λρ h m x h' f r ee o en k=>by
 have hx:∃u v,x=.tup [u,v]:=by simp only[bf]at en;split at en;exact⟨_,_,rfl⟩;cases en
 obtain⟨u,v,rfl⟩:=hx;obtain⟨ws,zs,e1,e2,_⟩:=Iw en;refine W9 hg hm ha (by rw[gE hs,gE hs2];rfl) (gE hs2) pins s σ H R I (.mk f r ee λvs H' m' s' r' q=>?_);obtain⟨v1,v2,rfl,q1,q2⟩:=lN q;obtain⟨b1,a1,P1,rfl,o1,p1,x1⟩:=OY r' q1 e1;obtain⟨b2,a2,P2,rfl,o2,p2,x2⟩:=OY r' q2 e2;exact⟨b1,b2,a1,a2,rfl,x1,x2,k _ _ H' m' s' r' (Xa o1 o2) ⟨p1,p2⟩⟩
end
section
variable{X:Cx}{a b c e o:aq}{es:List aq}{fa fb fc fo fr:FE}{pos p:Pos}{x:Str}
noncomputable def cX(K:aI)(t:Tg):TG:=λv σ H Q=>∃ρ h m w ρ',Fr K m h.n H σ ρ/\Rel K m h H/\aK K m h.n H v w/\bx t w h ρ=aC ρ'/\∀σ',Fr K m h.n H σ' ρ'->Q σ' H
theorem cX.el{K:aI}{v:V}{σ:L2.St}{H:Hp}{P:Prop}{tg:Tg}{Q}(q:cX K tg v σ H Q)(k:∀ρ h m w ρ',Fr K m h.n H σ ρ->Rel K m h H->aK K m h.n H v w->bx tg w h ρ=aC ρ'->(∀σ',Fr K m h.n H σ' ρ'->Q σ' H)->P):P:=by obtain⟨ρ,h,m,w,h',f,r,e,eo,k'⟩:=q;exact k ρ h m w h' f r e eo k'
theorem cX.mk{K:aI}{v:V}{σ:L2.St}{H:Hp}{m:Nat->ah}{ρ ρ':En}{h:VH}{w:W}{tg:Tg}{Q}(f:Fr K m h.n H σ ρ)(r:Rel K m h H)(e:aK K m h.n H v w)(eo:bx tg w h ρ=aC ρ')(k:∀σ',Fr K m h.n H σ' ρ'->Q σ' H):cX K tg v σ H Q:=⟨ρ,h,m,w,ρ',f,r,e,eo,k⟩
theorem Xc{i:Nat}(hN:X.N.Nodup)(hi:X.N[i]?=aC x)(hx:Loc X.env.scope x)(hf:X.fn x=true\/X.env.scope.names.lookup x=aC .local):PG X (.Name x pos) (cX X.K (.one i)):=λpins s σ H v u Q I ru z9=>z9.el λρ h m w ρ' f r q e k=>by
 cases e;exact MG hN hi hx hf pins s σ H v u Q I ru (k _ (f.set q i))
noncomputable def oN(X:Cx)(e:aq)(i:Nat):Prop:=∃x p,e=.Name x p/\X.N[i]?=aC x/\Loc X.env.scope x/\(X.fn x=true\/X.env.scope.names.lookup x=aC .local)
noncomputable def BE(K:aI)(is:List Nat):qK:=λvs σ H Q=>∃ρ m n ws ρ',Fr K m n H σ ρ/\aF K m n H vs ws/\ko is ws ρ=aC ρ'/\∀σ',Fr K m n H σ' ρ'->Q σ' H
theorem OZ(hN:X.N.Nodup):∀{es:List aq} {is:List Nat},Paired (oN X) es is->yf X es (BE X.K is)/\(assignEach es X.env).length=es.length/\(assignEach es X.env).findIdx? (·.1)=aD
 |_,_,.nil=>by
  refine⟨λpins s σ H vs us Q I ru ⟨ρ,m,n,ws,ρ',f,q,e,k⟩=>?_,rfl,rfl⟩;cases ws with|nil=>cases e;cases q;exact Sf pins s σ H [] us Q I ru ⟨rfl,k _ f⟩|cons _ _=>cases e
 |e::es,i::is,.cons ⟨x,p,he,hi,hx,hf⟩ t=>by
  subst he;obtain⟨h1,h2,h3⟩:=OZ hN t;refine⟨λpins s σ H vs us Q I ru ⟨ρ,m,n,ws,ρ',f,q,e,k⟩=>?_,?_,?_⟩;cases q with
  |nil=>cases e
  |cons q qs=>
   exact Sg (MG hN hi hx hf) h1 rfl pins s σ H _ us Q I ru ⟨_,_,rfl,ρ.set i (aC _),m,n,_,ρ',f.set q i,qs,e,k⟩
  show(assignEach es X.env).length+1=es.length+1;rw[h2];show List.findIdx? _ ((false,_)::assignEach es X.env)=aD;rw[List.findIdx?_cons,h3];rfl
theorem O0:∀{is:List Nat} {ws:List W} {ρ ρ':En},ko is ws ρ=aC ρ'->ws.length=is.length
 |[],[],_,_,_=>rfl
 |[],_::_,_,_,e=>by cases e
 |_::_,[],_,_,e=>by cases e
 |_::_,_::_,_,_,e=>by
  rw[fB,fB,O0 (by simpa only[ko]using e)]
theorem Xd{t:qK}{n k:Nat}(hc:X.calm)(h:yf X es t)(hn:(assignEach es X.env).length=n)(hst:(assignEach es X.env).findIdx? (·.1)=aD) :
 PG X (.Tuple es k pos) (λv σ H Q=>∃a xs,v=.ref a/\cz X.K H a xs/\xs.length=n/\t xs σ H Q):=by
 intro pins s σ H v u Q I r hw;obtain⟨a,xs,rfl,hq,hl,hw⟩:=hw;cases r;obtain⟨its,rv,ht,hz⟩:=I.list hq;rw[assign_Tuple];refine aL (nq ?_);unfold unpack;have hsz:(assignEach es X.env).length=its.toArray.size:=by rw[hn,<-hl,rv.length,cC]
 rw[hst,hsz];refine aL (nF (PySem.W.kun_itemsOf (I.ok.hd hc) ht.isList λh' hx=>?_));have I1:Inv X pins σ H {s with heap:=h'}:=I.kept (t':=s.toks) λb o e=>hx b o (fP (cD e)) e;exact h pins _ σ H xs _ Q I1 (by simpa using rv) hw
theorem O1{is:List Nat}{k:Nat}(hc:X.calm)(hN:X.N.Nodup)(hs:Paired (oN X) es is):PG X (.Tuple es k pos) (cX X.K (.many is)):=λpins s σ H v u Q I ru z9=>z9.el λρ h m w ρ' f r q e k=>by
 obtain⟨h1,h2,h3⟩:=OZ hN hs;simp only[bx]at e;cases z:aP h w with
 |none=>rw[z]at e;cases e
 |some ws=>
  rw[z]at e;have e:ko is ws ρ=aC ρ':=e;obtain⟨p,vs,rfl,hq,qs⟩:=yp r q z;have hl:vs.length=es.length:=by rw[qs.length,O0 e,hs.length]
  rcases hq with hq|hq;exact Xd hc h1 h2 h3 pins s σ H _ u Q I ru ⟨p,vs,rfl,hq,hl,ρ,m,h.n,ws,ρ',f,qs,e,k⟩;exact Sh hc h1 h2 h3 pins s σ H _ u Q I ru ⟨p,vs,rfl,hq,hl,ρ,m,h.n,ws,ρ',f,qs,e,k⟩
theorem O2{K:aI}{m:Nat->ah}{n:Nat}{H:Hp}{σ:L2.St}{ρ:En}{ow fr:List Str}{ix:List Nat}(f:Fr K m n H σ ρ):Fr K m n H (jf ow fr ix σ) (inner ow.length ix ρ):=by
 unfold jf inner;refine⟨by simp,λi w e=>?_⟩;by_cases hi:i<ow.length;rw[tR (by simpa using hi)]at e;rw[List.getElem?_replicate]at e;split at e<;>cases e;rw[qw (by simpa using jB.mp hi)]at e;rw[qw (by simpa using jB.mp hi)];simp only[List.length_replicate,bA]at e ⊢;rw[gp]at e ⊢;cases z:ix[i-ow.length]? with
 |none=>rw[z]at e;cases e
 |some j=>
  rw[z]at e;simp only[vz,Option.some.injEq]at e ⊢;have e3:ρ[j]?=aC (aC w):=by
   cases q:ρ[j]? with|none=>rw[q]at e;cases e|some o=>rw[q]at e;rw[<-e];rfl
  obtain⟨v,h1,h2⟩:=f.val j w e3;exact⟨v,by rw[h1];rfl,h2⟩
theorem Iz{nx:Nat->VH->Option (Option W)}{tg:W->VH->En->Option En}{c e:FE}:∀{f i:Nat} {ρ:En} {h:VH} {acc ys:List W} {h':VH},gu nx tg c e f i ρ h acc=.ok ys h'->acc.length<=ys.length
 |0,_,_,_,_,_,_,q=>by cases q
 |f+1,i,ρ,h,acc,ys,h',q=>by
  simp only[gu]at q;split at q;cases q;cases q;simp;split at q;cases q;refine bL q λb h1 e1 e2=>?_;split at e2;refine bL e2 λy h2 e3 e4=>?_;have:=Iz e4;rw[fB]at this;lia;exact Iz e2;cases e2
theorem Xe{nx:Nat->VH->Option (Option W)}{tg:W->VH->En->Option En}{c e:FE}{f i:Nat}{ρ:En}{h:VH}{acc ys:List W}{h':VH}(q:gu nx tg c e (f+1) i ρ h acc=.ok ys h'):∃o,nx i h=aC o:=by simp only[gu]at q;split at q;cases q;exact⟨_,by assumption⟩;exact⟨_,by assumption⟩
theorem O4{H:Hp}{a:ah}{o:HO}(h:H a=aC o):upd H a o=H:=by funext b;unfold upd;split;rename_i e;rw[e,h];rfl
noncomputable abbrev IA(kd:Kd)(fa:FE)(t:Tg)(ow:Nat)(ix:List Nat)(fc fe:FE):FE:=λρ h=>(fa ρ h).bind λx h=>(gu (bf kd x) (bx t) fc fe fuel 0 (inner ow ix ρ) h []).bind λys h=>if Nat.ble ys.length big then .ok (.ref h.n) (h.new (.lst ys))else .no
theorem uu{K:aI}{kd:Kd}{t:Tg}{ow fr:List Str}{ix:List Nat}{fe:FE}{σ:L2.St}{H:Hp}{Q:VK}(q:gw K (IA kd fa t ow.length ix fc fe) σ H Q):G1 K (jf ow fr ix) (cu K kd fa) (cX K t) (dg K fc) (gw K fe) σ H Q:=by
 refine q.el λρ h m w h' f r e k=>?_;refine bL e λx h1 e1 e2=>?_;refine bL e2 λys h2 e3 e4=>?_;split at e4
 case isFalse=>cases e4
 rename_i hz;cases e4;have hz:=j8 hz;refine(.mk f r e1 ?_ λJ P H1 m1 s1 r1 J1 p1 D hD hK=>?_);exact Xe (f:=999999) e3;obtain⟨kr,r0⟩:=r1.more (u:=.lst []) hD;have p0:=J1.1 m1 h1.n H1 m1 h1.n (upd H1 D (.lst [])) (aQ _) (λ_ _=>rfl) (λb vs q=>kr.tup b vs q) (λb o u q=>kr.bI b o u q) p1;refine⟨λi fl σ' H' vs=>∃ρ' h3 m3 acc,gu (bf kd x) (bx t) fc fe fl i ρ' h3 acc=.ok ys h2/\Fr K m3 h3.n H' σ' ρ'/\Rel K m3 h3 H'/\H' D=aC (.lst vs)/\aF K m3 h3.n H' vs acc.reverse/\(∀i,i<h3.n->m3 i≠D)/\bO m1 h1.n H1 m3 h3.n H'/\P m3 h3.n H',
  ⟨fuel,inner ow.length ix ρ,h1,m1,[],e3,O2 ((f.stp s1).stp kr),r0,ie,.nil,r1.out hD,kr,p0⟩,?_⟩
 rintro i fl σ' H' vs ⟨ρ',h3,m3,acc,e5,f3,r3,d3,q3,o3,s3,p3⟩;refine⟨d3,?_⟩;cases fl with
 |zero=>cases e5
 |succ fl=>
  simp only[gu]at e5;obtain⟨j1,j2⟩:=J1.2 m3 h3 H' r3 p3 i;split at e5;cases e5;rename_i hn;cases e5;refine .inl ⟨j2 hn,?_⟩;obtain⟨st,r'⟩:=r3.adopt (o:=.lst acc.reverse) (u:=.lst vs) o3 d3 (λ_ z=>nomatch z) (λ_ _ z=>nomatch z) (s1.trans s3) (by
   cases z:H D with
   |none=>rfl
   |some o=>
    have:=s1.keep D o (λi hi z2=>(r1.out hD) i (dN hi s1.le) ((s1.same i hi).trans z2)) z;rw[hD]at this;cases this) λ_ mv=>⟨_,ie,q3.map mv⟩
  rw[O4 d3]at st r';refine k _ _ _ st r' ?_;have:aK K (λi=>if i=h2.n then D else m3 i) (h2.n+1) H' (.ref ((λi=>if i=h2.n then D else m3 i) h2.n)) (.ref h2.n):=.ref (jA _);simp only[b9]at this;exact this;rename_i w hn;obtain⟨j3,j4⟩:=j1 w hn;refine .inr ⟨j3,λy H4 hy=>?_⟩;obtain⟨s4,r4,q4⟩:=j4 y H4 hy;split at e5;cases e5;rename_i oO ht;refine⟨ρ',h3,m3,w,oO,f3.stp s4,r4,q4,ht,λkj f5=>?_⟩;refine bL e5 λbv h6 e6 e7=>?_;have d4:H4 D=aC (.lst vs):=s4.keep D _ o3 d3;have BF:=s3.trans s4;have p4:=J1.1 m3 h3.n H' m3 h3.n H4 (aQ _) (λ_ _=>rfl) (λb vs q=>s4.tup b vs q) (λb o u q=>s4.bI b o u q) p3;cases bv<;>try cases e7
  rename_i bb;refine⟨oO,h3,m3,bb,h6,f5,r4,e6,λH6 m6 s6 r6=>?_⟩;have o6:=s6.out o3 d4;have d6:H6 D=aC (.lst vs):=s6.keep D _ o3 d4;have p6:=J1.1 m3 h3.n H4 m6 h6.n H6 s6.le s6.same (λb vs q=>s6.tup b vs q) (λb o u q=>s6.bI b o u q) p4;cases bb with
  |false=>
   simp only[dS,dB];exact⟨fl,jA _,oO,h6,m6,acc,e7,f5.stp s6,r6,d6,(q3.stp s4).stp s6,o6,BF.trans s6,p6⟩
  |true=>
   simp only[b9];refine bL e7 λy7 h7 e8 e9=>?_;refine⟨oO,h6,m6,y7,h7,f5.stp s6,r6,e8,λv7 H7 m7 s7 r7 q7=>?_⟩;have o7:=s7.out o6 d6;have d7:H7 D=aC (.lst vs):=s7.keep D _ o6 d6;have p7:=J1.1 m6 h6.n H6 m7 h7.n H7 s7.le s7.same (λb vs q=>s7.tup b vs q) (λb o u q=>s7.bI b o u q) p6;have O6:=((q3.stp s4).stp s6).stp s7;have hlen:=Iz e9;rw[fB]at hlen;refine⟨d7,?_,fl,jA _,oO,h7,m7,y7::acc,e9,?_⟩;rw[O6.length,List.length_reverse];have:big=sizeLine:=rfl;lia;obtain⟨IB,r8,mv⟩:=r7.side (u:=.lst (vs++[v7])) d7 (λ_ z=>nomatch z) (λ_ _ z=>nomatch z) o7 ((BF.trans s6).trans s7) hD;have kt:∀b us,H7 b=aC (.tup us)->upd H7 D (.lst (vs++[v7])) b=aC (.tup us):=λb us q=>by rw[bU (cM q d7 λz=>nomatch z)];exact q
   have kf:∀b o u,H7 b=aC (.bI o u)->upd H7 D (.lst (vs++[v7])) b=aC (.bI o u):=λb o u q=>by rw[bU (cM q d7 λz=>nomatch z)];exact q
   refine⟨⟨(f5.stp s6).len,λi w e=>let⟨v,h1,h2⟩:=((f5.stp s6).stp s7).val i w e;⟨v,h1,mv h2⟩⟩,r8,ie,?_,o7,IB,J1.1 m7 h7.n H7 m7 h7.n _ (aQ _) (λ_ _=>rfl) kt kf p7⟩;rw[List.reverse_cons];exact(O6.map mv).append (.cons (mv q7) .nil)
theorem EL{nx:Nat->VH->Option (Option W)}{tg:W->VH->En->Option En}{c e:FE}:∀{f i:Nat} {ρ:En} {h:VH} {acc:List W} {p:En×List W} {h':VH},iT nx tg c e f i ρ h acc=.ok p h'->acc.length<=p.2.length
 |0,_,_,_,_,_,_,q=>by cases q
 |f+1,i,ρ,h,acc,ys,h',q=>by
  simp only[iT]at q;split at q;cases q;cases q;exact aQ _;split at q;cases q;refine bL q λb h1 e1 e2=>?_;split at e2;refine bL e2 λy h2 e3 e4=>?_;have:=EL e4;rw[fB]at this;lia;exact EL e2;cases e2
theorem IC{nx:Nat->VH->Option (Option W)}{tg:W->VH->En->Option En}{c:FE}{jy:En->VH->List W->Res (En×List W)}(hi:∀{ρ h acc p h'},jy ρ h acc=.ok p h'->acc.length<=p.2.length):∀{f i:Nat} {ρ:En} {h:VH} {acc ys:List W} {h':VH},kq nx tg c jy f i ρ h acc=.ok ys h'->acc.length<=ys.length
 |0,_,_,_,_,_,_,q=>by cases q
 |f+1,i,ρ,h,acc,ys,h',q=>by
  simp only[kq]at q;split at q;cases q;cases q;simp;split at q;cases q;refine bL q λb h1 e1 e2=>?_;split at e2;refine bL e2 λy h2 e3 e4=>?_;exact gZ (hi e3) (IC hi e4);exact IC hi e2;cases e2
theorem Xf{nx:Nat->VH->Option (Option W)}{tg:W->VH->En->Option En}{c:FE}{jy:En->VH->List W->Res (En×List W)}{f i:Nat}{ρ:En}{h:VH}{acc ys:List W}{h':VH}(q:kq nx tg c jy (f+1) i ρ h acc=.ok ys h'):∃o,nx i h=aC o:=by simp only[kq]at q;split at q;cases q;exact⟨_,by assumption⟩;exact⟨_,by assumption⟩
theorem Xg{nx:Nat->VH->Option (Option W)}{tg:W->VH->En->Option En}{c e:FE}{f i:Nat}{ρ:En}{h:VH}{acc:List W}{p:En×List W}{h':VH}(q:iT nx tg c e (f+1) i ρ h acc=.ok p h'):∃o,nx i h=aC o:=by simp only[iT]at q;split at q;cases q;exact⟨_,by assumption⟩;exact⟨_,by assumption⟩
noncomputable abbrev wF(kd:Kd)(fa:FE)(t:Tg)(ow:Nat)(ix:List Nat)(fc:FE)(iz:Kd)(nB:FE)(t2:Tg)(mT fe:FE):FE:=λρ h=>(fa ρ h).bind λx h=>(kq (bf kd x) (bx t) fc (λρ h acc=>(nB ρ h).bind λy h=>iT (bf iz y) (bx t2) mT fe fuel 0 ρ h acc) fuel 0 (inner ow ix ρ) h []).bind λys h=>if Nat.ble ys.length big then .ok (.ref h.n) (h.new (.lst ys))else .no
theorem O8{K:aI}{kd iz:Kd}{t t2:Tg}{ow fr:List Str}{ix:List Nat}{nB mT fe:FE}{σ:L2.St}{H:Hp}{Q:VK}(q:gw K (wF kd fa t ow.length ix fc iz nB t2 mT fe) σ H Q) :
 Hz K (jf ow fr ix) (cu K kd fa) (cX K t) (dg K fc) (λD=>NQ (cu K iz nB) (cX K t2) (dg K mT) (HK (gw K fe) D)) (.lst []) σ H Q:=by
 refine q.el λρ h m w h' f r e k=>?_;refine bL e λx h1 e1 e2=>?_;refine bL e2 λys h2 e3 e4=>?_;split at e4
 case isFalse=>cases e4
 rename_i hz;cases e4;have hz:=j8 hz;have il:∀{ρ h acc p h'},(nB ρ h).bind (λy h=>iT (bf iz y) (bx t2) mT fe fuel 0 ρ h acc)=.ok p h'->acc.length<=p.2.length:=λq=>by
  refine bL q λy h1 e1 e2=>?_;exact EL e2
 refine(.mk f r e1 ?_ λJ P H1 m1 s1 r1 J1 p1 D hD hK=>?_);exact Xf (f:=999999) e3;obtain⟨kr,r0⟩:=r1.more (u:=.lst []) hD;have p0:=J1.1 m1 h1.n H1 m1 h1.n (upd H1 D (.lst [])) (aQ _) (λ_ _=>rfl) (λb vs q=>kr.tup b vs q) (λb o u q=>kr.bI b o u q) p1;refine⟨λi fl σ' H'=>∃ρ' h3 m3 acc vs,kq (bf kd x) (bx t) fc (λρ h acc=>(nB ρ h).bind λy h=>iT (bf iz y) (bx t2) mT fe fuel 0 ρ h acc) fl i ρ' h3 acc=.ok ys h2/\Fr K m3 h3.n H' σ' ρ'/\Rel K m3 h3 H'/\H' D=aC (.lst vs)/\aF K m3 h3.n H' vs acc.reverse/\(∀i,i<h3.n->m3 i≠D)/\bO m1 h1.n H1 m3 h3.n H'/\P m3 h3.n H',
  ⟨fuel,inner ow.length ix ρ,h1,m1,[],[],e3,O2 ((f.stp s1).stp kr),r0,ie,.nil,r1.out hD,kr,p0⟩,?_⟩
 rintro i fl σ' H' ⟨ρ',h3,m3,acc,vs,e5,f3,r3,d3,q3,o3,s3,p3⟩;cases fl with
 |zero=>cases e5
 |succ fl=>
  simp only[kq]at e5;obtain⟨j1,j2⟩:=J1.2 m3 h3 H' r3 p3 i;split at e5;cases e5;rename_i hn;cases e5;refine .inl ⟨j2 hn,?_⟩;obtain⟨st,r'⟩:=r3.adopt (o:=.lst acc.reverse) (u:=.lst vs) o3 d3 (λ_ z=>nomatch z) (λ_ _ z=>nomatch z) (s1.trans s3) (by
   cases z:H D with
   |none=>rfl
   |some o=>
    have:=s1.keep D o (λi hi z2=>(r1.out hD) i (dN hi s1.le) ((s1.same i hi).trans z2)) z;rw[hD]at this;cases this) λ_ mv=>⟨_,ie,q3.map mv⟩
  rw[O4 d3]at st r';refine k _ _ _ st r' ?_;have:aK K (λi=>if i=h2.n then D else m3 i) (h2.n+1) H' (.ref ((λi=>if i=h2.n then D else m3 i) h2.n)) (.ref h2.n):=.ref (jA _);simp only[b9]at this;exact this;rename_i w hn;obtain⟨j3,j4⟩:=j1 w hn;refine .inr ⟨j3,λy H4 hy=>?_⟩;obtain⟨s4,r4,q4⟩:=j4 y H4 hy;split at e5;cases e5;rename_i oO ht;refine⟨ρ',h3,m3,w,oO,f3.stp s4,r4,q4,ht,λkj f5=>?_⟩;refine bL e5 λbv h6 e6 e7=>?_;have d4:H4 D=aC (.lst vs):=s4.keep D _ o3 d3;have BF:=s3.trans s4;have p4:=J1.1 m3 h3.n H' m3 h3.n H4 (aQ _) (λ_ _=>rfl) (λb vs q=>s4.tup b vs q) (λb o u q=>s4.bI b o u q) p3;cases bv<;>try cases e7
  rename_i bb;refine⟨oO,h3,m3,bb,h6,f5,r4,e6,λH6 m6 s6 r6=>?_⟩;have o6:=s6.out o3 d4;have d6:H6 D=aC (.lst vs):=s6.keep D _ o3 d4;have p6:=J1.1 m3 h3.n H4 m6 h6.n H6 s6.le s6.same (λb vs q=>s6.tup b vs q) (λb o u q=>s6.bI b o u q) p4;cases bb with
  |false=>
   simp only[dS,dB];exact⟨fl,jA _,oO,h6,m6,acc,vs,e7,f5.stp s6,r6,d6,(q3.stp s4).stp s6,o6,BF.trans s6,p6⟩
  |true=>
   simp only[b9];obtain⟨⟨O9,rT⟩,h9,e8,e9⟩:=Ox e7;refine bL e8 λy7 h7 ID DZ=>?_;have BG:=IC il e9;refine⟨oO,h6,m6,y7,h7,f5.stp s6,r6,ID,Xg (f:=999999) DZ,λJ2 P2 H8 m8 s8 r8 BH p8=>?_⟩;have o8:=s8.out o6 d6;have d8:H8 D=aC (.lst vs):=s8.keep D _ o6 d6;have Xh:=J1.1 m6 h6.n H6 m8 h7.n H8 s8.le s8.same (λb vs q=>s8.tup b vs q) (λb o u q=>s8.bI b o u q) p6;refine⟨λj gl σ' H'=>∃EM ha ma mU va,iT (bf iz y7) (bx t2) mT fe gl j EM ha mU=.ok (O9,rT) h9/\Fr K ma ha.n H' σ' EM/\Rel K ma ha H'/\H' D=aC (.lst va)/\aF K ma ha.n H' va mU.reverse/\(∀i,i<ha.n->ma i≠D)/\bO m1 h1.n H1 ma ha.n H'/\P ma ha.n H'/\P2 ma ha.n H',
    ⟨fuel,oO,h7,m8,acc,vs,DZ,(f5.stp s6).stp s8,r8,d8,((q3.stp s4).stp s6).stp s8,o8,(BF.trans s6).trans s8,Xh,p8⟩,?_⟩
   rintro j gl σa Ha ⟨EM,ha,ma,mU,va,ea,Pa,ra,da,qa,oa,sa,pa,pb⟩;cases gl with
   |zero=>cases ea
   |succ gl=>
    simp only[iT]at ea;obtain⟨b1,b2⟩:=BH.2 ma ha Ha ra pb j;split at ea;cases ea;rename_i hn2;cases ea;exact .inl ⟨b2 hn2,fl,jA _,O9,h9,ma,rT,va,e9,Pa,ra,da,qa,oa,sa,pa⟩;rename_i w2 hn2;obtain⟨b3,b4⟩:=b1 w2 hn2;refine .inr ⟨b3,λy2 Hb Xi=>?_⟩;obtain⟨sb,rb,qb⟩:=b4 y2 Hb Xi;split at ea;cases ea;rename_i BI BJ;refine⟨EM,ha,ma,w2,BI,Pa.stp sb,rb,qb,BJ,λσb fb=>?_⟩;refine bL ea λXj hc2 ec ed=>?_;have db:Hb D=aC (.lst va):=sb.keep D _ oa da;have Xk:=J1.1 ma ha.n Ha ma ha.n Hb (aQ _) (λ_ _=>rfl) (λb vs q=>sb.tup b vs q) (λb o u q=>sb.bI b o u q) pa;have Xl:=BH.1 ma ha.n Ha ma ha.n Hb (aQ _) (λ_ _=>rfl) (λb vs q=>sb.tup b vs q) (λb o u q=>sb.bI b o u q) pb;cases Xj<;>try cases ed
    rename_i Pb;refine⟨BI,ha,ma,Pb,hc2,fb,rb,ec,λHc mc sc rc=>?_⟩;have oc:=sc.out oa db;have dc:Hc D=aC (.lst va):=sc.keep D _ oa db;have Pc:=J1.1 ma ha.n Hb mc hc2.n Hc sc.le sc.same (λb vs q=>sc.tup b vs q) (λb o u q=>sc.bI b o u q) Xk;have Pd:=BH.1 ma ha.n Hb mc hc2.n Hc sc.le sc.same (λb vs q=>sc.tup b vs q) (λb o u q=>sc.bI b o u q) Xl;cases Pb with
    |false=>
     simp only[dS,dB];exact⟨gl,jA _,BI,hc2,mc,mU,va,ed,fb.stp sc,rc,dc,(qa.stp sb).stp sc,oc,(sa.trans sb).trans sc,Pc,Pd⟩
    |true=>
     simp only[b9];refine bL ed λyv hd2 ef eg=>?_;refine⟨BI,hc2,mc,yv,hd2,fb.stp sc,rc,ef,λvd Hd md sd rd qd=>?_⟩;have od:=sd.out oc dc;have dd:Hd D=aC (.lst va):=sd.keep D _ oc dc;have pad:=J1.1 mc hc2.n Hc md hd2.n Hd sd.le sd.same (λb vs q=>sd.tup b vs q) (λb o u q=>sd.bI b o u q) Pc;have Xm:=BH.1 mc hc2.n Hc md hd2.n Hd sd.le sd.same (λb vs q=>sd.tup b vs q) (λb o u q=>sd.bI b o u q) Pd;have Pe:=((qa.stp sb).stp sc).stp sd;have hlen:=EL eg;rw[fB]at hlen;refine⟨va,dd,?_,gl,jA _,BI,hd2,md,yv::mU,va++[vd],eg,?_⟩;rw[Pe.length,List.length_reverse];have:big=sizeLine:=rfl;have hl2:rT.length<=ys.length:=BG;have hl3:mU.length+1<=rT.length:=hlen;lia;obtain⟨IB,r9,mv⟩:=rd.side (u:=.lst (va++[vd])) dd (λ_ z=>nomatch z) (λ_ _ z=>nomatch z) od (((sa.trans sb).trans sc).trans sd) hD;have kt:∀b us,Hd b=aC (.tup us)->upd Hd D (.lst (va++[vd])) b=aC (.tup us):=λb us q=>by rw[bU (cM q dd λz=>nomatch z)];exact q
     have kf:∀b o u,Hd b=aC (.bI o u)->upd Hd D (.lst (va++[vd])) b=aC (.bI o u):=λb o u q=>by rw[bU (cM q dd λz=>nomatch z)];exact q
     refine⟨⟨(fb.stp sc).len,λi w e=>let⟨v,h1,h2⟩:=((fb.stp sc).stp sd).val i w e;⟨v,h1,mv h2⟩⟩,r9,ie,?_,od,IB,J1.1 md hd2.n Hd md hd2.n _ (aQ _) (λ_ _=>rfl) kt kf pad,BH.1 md hd2.n Hd md hd2.n _ (aQ _) (λ_ _=>rfl) kt kf Xm⟩;rw[List.reverse_cons];exact(Pe.map mv).append (.cons (mv qd) .nil)
end
noncomputable def fH(h h':VH):Prop:=h.n<=h'.n/\h'.lo<=h.lo/\∀i,i<h.n->i<h'.lo->h'.get i=h.get i
theorem fH.refl{h:VH}:fH h h:=⟨aQ _,aQ _,λ_ _ _=>rfl⟩
theorem fH.trans{h h1 h2:VH}(a:fH h h1)(b:fH h1 h2):fH h h2:=⟨gZ a.1 b.1,gZ b.2.1 a.2.1,λi hi hl=>(b.2.2 i (dN hi a.1) hl).trans (a.2.2 i hi (dN hl b.2.1))⟩
theorem fH.new{h:VH}{o:VO}:fH h (h.new o):=⟨tN _,aQ _,λi hi _=>fU hi⟩
theorem fH.set{h:VH}{i:Nat}{o:VO}(hi:i<h.n):fH h (h.set i o):=by refine⟨aQ _,?_,λj hj hl=>iJ hi ?_⟩;show(if Nat.blt i h.lo then i else h.lo)<=h.lo;split;rename_i q;exact tM (iU.mp q);exact aQ _;have hl:j< (if Nat.blt i h.lo then i else h.lo):=hl;split at hl;lia;rename_i q;intro z;rw[z]at hl;exact q (iU.mpr hl)
noncomputable def Gr{α:Type}(r:Res α)(h:VH):Prop:=∀a h',r=.ok a h'->fH h h'
section
variable{α β:Type}{h:VH}
theorem Gr.ok{a:α}:Gr (Res.ok a h) h:=λ_ _ e=>by cases e;exact .refl
theorem Gr.no:Gr (Res.no:Res α) h:=λ_ _ e=>by cases e
theorem Gr.of{o:Option α}:Gr (Res.of o h) h:=λ_ _ e=>by cases o with|none=>cases e|some a=>cases e;exact .refl
theorem Gr.new{a:α}{o:VO}:Gr (Res.ok a (h.new o)) h:=λ_ _ e=>by cases e;exact .new
theorem Gr.set{a:α}{o o':VO}{i:Nat}(g:h.get i=aC o'):Gr (Res.ok a (h.set i o)) h:=λ_ _ e=>by cases e;exact .set (bQ g)
theorem Gr.bind{r:Res α}{f:α->VH->Res β}(a:Gr r h)(b:∀x h1,Gr (f x h1) h1):Gr (r.bind f) h:=λy h' e=>by
 cases r with|ok x h1=>exact(a x h1 rfl).trans (b x h1 y h' e)|ex _ _=>cases e|no=>cases e
end
theorem BK{o:Op}{x y:W}{h:VH}:Gr (fN o x y h) h:=by unfold fN;split;exact .of;exact .of;exact .of;split;split;exact .new;exact .no;exact .no;exact .no
theorem BL{o:Op}{x y:W}{h:VH}:Gr (yo o x y h) h:=by unfold yo;split;split;exact .ok;exact .ok;exact .of;exact .of;exact .no;split;split;rename_i g _ _;exact .set g;exact .no;exact .no;split;split;exact .ok;exact .no;exact .no;exact .no
theorem Xn{x:W}{l u:Option Int}{h:VH}:Gr (jS x l u h) h:=by unfold jS;split;exact .ok;split;exact .new;exact .no;exact .no
theorem BN{b:Bi}{xs:List W}{h:VH}:Gr (iS b xs h) h:=by
 cases b<;>simp only[iS];unfold gB;split<;>first|exact .of|exact .no
 unfold iR;split;split;exact .new;exact .no;exact .no;unfold uq;split<;>first|exact .of|exact .no
 unfold kR;split<;>first|exact .ok|exact .no
 unfold kT;split<;>first|exact .ok|exact .no
 unfold rP;split;exact .ok;split;split;exact .ok;exact .no;exact .no;exact .no;unfold kU;split<;>first|exact .ok|exact .no
 unfold mP;split;split;exact .of;exact .no;exact .no;unfold jT;split;split;exact .new;exact .no;exact .no;unfold wo;split;exact .new;exact .no;unfold Bg;split;split;rename_i g;exact .set g;exact .ok;exact .no;exact .no;unfold mR;split;split;split;split;exact .new;exact .no;exact .no;exact .no;exact .no
theorem Xo{x y:W}{h:VH}:Gr (jV x y h) h:=by unfold jV;split;split;split;exact .ok;exact .no;exact .no;exact .no
theorem Xp{ρ:En}{x y z:W}{p:Int}{h:VH}:Gr (kX ρ x y p z h) h:=by unfold kX;split;split;rename_i g;split;exact .set g;exact .no;exact .no;exact .no
theorem BO{m:Mt}{o:W}{xs:List W}{h:VH}:Gr (wu m o xs h) h:=by unfold wu;split;split;split;rename_i g _;exact .set g;exact .no;exact .no;split;exact .ok;exact .ok;exact .no;exact .no
theorem IE{nx:Nat->VH->Option (Option W)}{tg:W->VH->En->Option En}{c e:En->VH->Res W}(hc:∀ρ h,Gr (c ρ h) h)(he:∀ρ h,Gr (e ρ h) h):∀(f i:Nat) (ρ:En) (h:VH) (acc:List W),Gr (iT nx tg c e f i ρ h acc) h
 |0,_,_,_,_=>.no
 |f+1,i,ρ,h,acc=>by
  simp only[iT];split;exact .no;exact .ok;split;exact .no;refine .bind (hc _ _) λb h1=>?_;split;exact .bind (he _ _) λy h2=>IE hc he f _ _ _ _;exact IE hc he f _ _ _ _;exact .no
theorem IF{nx:Nat->VH->Option (Option W)}{tg:W->VH->En->Option En}{c:En->VH->Res W}{e:En->VH->List W->Res (En×List W)}(hc:∀ρ h,Gr (c ρ h) h)(he:∀ρ h acc,Gr (e ρ h acc) h):∀(f i:Nat) (ρ:En) (h:VH) (acc:List W),Gr (kq nx tg c e f i ρ h acc) h
 |0,_,_,_,_=>.no
 |f+1,i,ρ,h,acc=>by
  simp only[kq];split;exact .no;exact .ok;split;exact .no;refine .bind (hc _ _) λb h1=>?_;split;exact .bind (he _ _ _) λy h2=>IF hc he f _ _ _ _;exact IF hc he f _ _ _ _;exact .no
theorem oQ{nx:Nat->VH->Option (Option W)}{tg:W->VH->En->Option En}{c e:En->VH->Res W}(hc:∀ρ h,Gr (c ρ h) h)(he:∀ρ h,Gr (e ρ h) h):∀(f i:Nat) (ρ:En) (h:VH) (acc:List W),Gr (gu nx tg c e f i ρ h acc) h
 |0,_,_,_,_=>.no
 |f+1,i,ρ,h,acc=>by
  simp only[gu];split;exact .no;exact .ok;split;exact .no;refine .bind (hc _ _) λb h1=>?_;split;exact .bind (he _ _) λy h2=>oQ hc he f _ _ _ _;exact oQ hc he f _ _ _ _;exact .no
theorem IG{nx:Nat->VH->Option (Option W)}{tg:W->VH->En->Option En}{b:En->VH->Res Fl}(hb:∀ρ h,Gr (b ρ h) h):∀(f i:Nat) (ρ:En) (h:VH),Gr (cZ nx tg b f i ρ h) h
 |0,_,_,_=>.no
 |f+1,i,ρ,h=>by
  simp only[cZ];split;exact .no;exact .ok;split;exact .no;refine .bind (hb _ _) λfl h1=>?_;split;exact IG hb f _ _ _;exact IG hb f _ _ _;exact .ok;exact .ok
theorem II{c:En->VH->Res W}{b:En->VH->Res Fl}(hc:∀ρ h,Gr (c ρ h) h)(hb:∀ρ h,Gr (b ρ h) h):∀(f:Nat) (ρ:En) (h:VH),Gr (fG c b f ρ h) h
 |0,_,_=>.no
 |f+1,ρ,h=>by
  simp only[fG];refine .bind (hc _ _) λt h1=>?_;split;exact .ok;refine .bind (hb _ _) λfl h2=>?_;split;exact II hc hb f _ _;exact II hc hb f _ _;exact .ok;exact .ok;exact .no
section
variable{cl:Call}
theorem BP(hcl:∀f ws h,Gr (cl f ws h) h):∀(e:E) (ρ:En) (h:VH),Gr (ev cl e ρ h) h:=by
 intro e;induction e with
 |var i=>intro ρ h;exact .of
 |cst w=>intro ρ h;exact .ok
 |nil=>intro ρ h;exact .ok
 |cons a r i1 i2=>intro ρ h;simp only[ev];refine .bind (i1 _ _) λx h1=>.bind (i2 _ _) λy h2=>?_;split<;>first|exact .ok|exact .no
 |tup a i1=>intro ρ h;simp only[ev];refine .bind (i1 _ _) λx h1=>?_;split<;>first|(split<;>first|exact .ok|exact .no)|exact .no
 |lst a i1=>intro ρ h;simp only[ev];refine .bind (i1 _ _) λx h1=>?_;split<;>first|(split<;>first|exact .new|exact .no)|exact .no
 |A8 a i1=>
  intro ρ h;simp only[ev];refine .bind (i1 _ _) λx h1=>?_;split;split;split;exact .new;exact .no;exact .no;exact .no
 |op o a b i1 i2=>intro ρ h;simp only[ev];exact .bind (i1 _ _) λx h1=>.bind (i2 _ _) λy h2=>BK
 |neg a i1=>intro ρ h;simp only[ev];refine .bind (i1 _ _) λx h1=>?_;split<;>first|exact .ok|exact .no
 |cmp c a b i1 i2=>intro ρ h;simp only[ev];exact .bind (i1 _ _) λx h1=>.bind (i2 _ _) λy h2=>.of
 |wm c d a b e i1 i2 i3=>
  intro ρ h;simp only[ev];refine .bind (i1 _ _) λx h1=>.bind (i2 _ _) λy h2=>?_;split;exact .bind (i3 _ _) λz h3=>.of;exact .ok;exact .no
 |not a i1=>intro ρ h;simp only[ev];refine .bind (i1 _ _) λx h1=>?_;split<;>first|exact .ok|exact .no
 |and a b i1 i2=>intro ρ h;simp only[ev];refine .bind (i1 _ _) λx h1=>?_;split<;>first|exact i2 _ _|exact .ok|exact .no
 |or a b i1 i2=>intro ρ h;simp only[ev];refine .bind (i1 _ _) λx h1=>?_;split<;>first|exact i2 _ _|exact .ok|exact .no
 |jh a i1=>intro ρ h;simp only[ev];exact .bind (i1 _ _) λx h1=>.of
 |ite c a b i1 i2 i3=>
  intro ρ h;simp only[ev];refine .bind (i1 _ _) λx h1=>?_;split;exact i2 _ _;exact i3 _ _;exact .no
 |idx a b i1 i2=>intro ρ h;simp only[ev];exact .bind (i1 _ _) λx h1=>.bind (i2 _ _) λy h2=>.of
 |slc a bl lo bh hi i1 i2 i3=>
  intro ρ h;simp only[ev];refine .bind (i1 _ _) λx h1=>.bind (i2 _ _) λy h2=>.bind (i3 _ _) λz h3=>?_;split;exact Xn;exact .no
 |call f a i1=>intro ρ h;simp only[ev];refine .bind (i1 _ _) λx h1=>?_;split<;>first|exact hcl _ _ _|exact .no
 |bi b a i1=>intro ρ h;simp only[ev];refine .bind (i1 _ _) λx h1=>?_;split<;>first|exact BN|exact .no
 |rM t a i1=>intro ρ h;simp only[ev];exact .bind (i1 _ _) λx h1=>.of
 |mt m o a i1 i2=>
  intro ρ h;simp only[ev];refine .bind (i1 _ _) λx h1=>?_;split;refine .bind (i2 _ _) λy h2=>?_;split<;>first|exact BO|exact .no
  exact .no
 |lc k a t ow ix c e i1 i2 i3=>
  intro ρ h;simp only[ev];refine .bind (i1 _ _) λx h1=>.bind (oQ i2 i3 _ _ _ _ _) λys h2=>?_;split;exact .new;exact .no
 |oG k a t ow ix c k2 a2 t2 c2 e i1 i2 i3 i4 i5=>
  intro ρ h;simp only[ev];refine .bind (i1 _ _) λx h1=>.bind (IF i2 (λρ h acc=>.bind (i3 _ _) λy h2=>IE i4 i5 _ _ _ _ _) _ _ _ _ _) λys h2=>?_;split;exact .new;exact .no
theorem EN(hcl:∀f ws h,Gr (cl f ws h) h):∀(s:S) (ρ:En) (h:VH),Gr (exs cl s ρ h) h:=by
 have ge:=BP hcl;intro s;induction s with
 |skip=>intro ρ h;exact .ok
 |seq a b i1 i2=>intro ρ h;simp only[exs];refine .bind (i1 _ _) λfl h1=>?_;split<;>first|exact i2 _ _|exact .ok
 |set i e=>intro ρ h;simp only[exs];exact .bind (ge _ _ _) λw h1=>.ok
 |A9 is e=>intro ρ h;simp only[exs];exact .bind (ge _ _ _) λw h1=>.of
 |aug i o e=>
  intro ρ h;simp only[exs];split;exact .bind (ge _ _ _) λy h1=>.bind BL λz h2=>.ok;exact .no
 |put o i v=>
  intro ρ h;simp only[exs];refine .bind (ge _ _ _) λw h1=>.bind (ge _ _ _) λx h2=>.bind (ge _ _ _) λy h3=>?_;split;split;split;rename_i g _ _ _;exact .set g;exact .no;unfold rQ;split;split;rename_i g _;exact .set g;exact .no;exact .no;exact .no
 |Ba o i e=>
  intro ρ h;simp only[exs];exact .bind (ge _ _ _) λx h1=>.bind (ge _ _ _) λy h2=>.bind Xo λp h3=>.bind (ge _ _ _) λz h4=>Xp
 |ite c a b i1 i2=>
  intro ρ h;simp only[exs];refine .bind (ge _ _ _) λx h1=>?_;split;exact i1 _ _;exact i2 _ _;exact .no
 |ret e=>intro ρ h;simp only[exs];exact .bind (ge _ _ _) λw h1=>.ok
 |expr e=>intro ρ h;simp only[exs];exact .bind (ge _ _ _) λw h1=>.ok
 |brk=>intro ρ h;exact .ok
 |cnt=>intro ρ h;exact .ok
 | «for» k a t b i1=>intro ρ h;simp only[exs];exact .bind (ge _ _ _) λx h1=>IG i1 _ _ _ _
 |EE c b i1=>intro ρ h;simp only[exs];exact II (ge c) i1 _ _ _
 |no=>intro ρ h;exact .no
end
theorem EO(F:Nat->Option Fn):∀(k f:Nat) (ws:List W) (h:VH),Gr (run F k f ws h) h
 |0,_,_,_=>.no
 |k+1,f,ws,h=>by
  intro a h' e;simp only[run]at e;split at e;rename_i fn hf;split at e;rename_i hl;generalize hr:exs (run F k) fn.body (ws.map aC++bE (fn.n-fn.ps) aD) ⟨h.n,h.n,h.os⟩=r at e;have g:=EN (EO F k) fn.body (ws.map aC++bE (fn.n-fn.ps) aD) ⟨h.n,h.n,h.os⟩;rw[hr]at g;have lv:∀w h1,fH ⟨h.n,h.n,h.os⟩ h1->leave h w h1=.ok a h'->fH h h':=by
   intro w h1 g1 e1;unfold leave at e1;split at e1;cases e1;exact .refl;cases e1;refine⟨g1.1,?_,λi hi hlo=>?_⟩;show(if Nat.ble h.lo h1.lo then h.lo else h1.lo)<=h.lo;split;exact aQ _;rename_i q;exact Nat.le_of_not_le λz=>q (tO.mpr z);have hlo:i< (if Nat.ble h.lo h1.lo then h.lo else h1.lo):=hlo;have hh:i<h1.lo:=by split at hlo;rename_i q;exact dN hlo (j8 q);exact hlo
   exact g1.2.2 i hi hh
  cases r with
  |no=>cases e
  |ex _ _=>cases e
  |ok fl h1=>
   have g1:=g fl h1 rfl;simp only[Res.bind]at e;split at e;exact lv _ _ g1 e;exact lv _ _ g1 e;cases e
  cases e;cases e
end RF
namespace HT
open PySem PySem.Spec PyProof.Rows
theorem oR{prog:ai}{w:ak}{A:ao}{E:aa->af->Prop}{s:af}{t b:ah}{vs ws:List aa}{Q:aa->af->Prop}(ht:IsTup s.heap t vs.toArray)(hb:IsTup s.heap b ws.toArray)(hv:vs≠[])
 (h1:ws=[]->Q (.ref t) s) (h2:ws≠[]->Q (.ref s.heap.objs.size) {s with heap:=s.heap.push {cls:=.type "tuple",data:=.seq (vs++ws).toArray}})
 (hsz:vs.length+ws.length<=sizeLine):wpAny (model prog w) A (inplaceOp .Add (.ref t) (.ref b)) Q E s:=by
 obtain⟨⟨cls,dd,data,sl⟩,ho,hc,n,hd⟩:=id ht;obtain⟨⟨GG,dd2,data2,sl2⟩,ho2,hc2,n2,hd2⟩:=id hb;simp only at hc hd hc2 hd2;subst hc hd hc2 hd2;have e:vs.toArray++ws.toArray=(vs++ws).toArray:=by simp
 have hno:typeLookup (.type "tuple") (dunderI "add")=pure aD:=by rfl
 by_cases hw:ws=[]
 exact wpAny_inplaceOp_concat ⟨_,ho,rfl⟩ ⟨_,ho2,rfl⟩ hno yP yQ (qp zg ⟨_,ho,rfl⟩ zf (ze _ _)
  (tuple_addW1 t b vs.toArray ws.toArray n n2 dd dd2 sl sl2 (by simpa using hv) (by simp[hw])) ⟨ho,ho2,h1 hw⟩)
 refine wpAny_inplaceOp_concat ⟨_,ho,rfl⟩ ⟨_,ho2,rfl⟩ hno yP yQ (qp zg ⟨_,ho,rfl⟩ zf (ze _ _)
  (tuple_addW2 t b vs.toArray ws.toArray n n2 dd dd2 sl sl2 (by simpa using hv) (by simpa using hw) (by rw[cC,cC];exact hsz)) ⟨ho,ho2,?_⟩)
 rw[e];exact h2 hw
end HT
namespace L2
open PySem PySem.Spec PyProof.Rows
variable{X:Cx}
theorem Xq:vF X .Add (lz X.K):=by intro pins s σ H x y v u Q I rx ry h;obtain⟨a,b,xs,ys,rfl,rfl,ha,hb,hx,hz,q1,q2⟩:=h;cases rx;cases ry;obtain⟨its,r1,p1,_⟩:=I.tuple ha;obtain⟨its2,r2,p2,_⟩:=I.tuple hb;refine HT.oR p1 p2 (λz=>hx (r1.eS.mp z)) (λz=>⟨.ref a,H,I,rfl,q1 (r2.eS.mp z)⟩) (λz=>?_) (by rw[<-r1.length,<-r2.length];exact hz);refine⟨.ref s.heap.objs.size,_,I.laid (t':=s.toks) (o:=.tup (xs++ys)) (λb ob q=>ck _ q) (aQ _) ?_,rfl,q2 (λw=>z (r2.eS.mpr w)) _ (I.hok.fresh (aQ _))⟩;exact⟨by rw[eZ];exact hz,_,r1.append r2,kJ.new _ _⟩
end L2
namespace RF
open PySem PySem.Spec PyProof.Rows L2
noncomputable def wG(K:aI)(m:Nat->ah)(n:Nat)(H:Hp)(D:Ends):Fl->Prop|.nx ρ=>∀σ,Fr K m n H σ ρ->D.nx σ H|.bk ρ=>∀σ,Fr K m n H σ ρ->D.bk σ H|.ct ρ=>∀σ,Fr K m n H σ ρ->D.ct σ H|.rt w=>∀v,aK K m n H v w->D.rt v H
noncomputable def jn(K:aI)(f:FS):TS:=λD σ H=>∃ρ h m fl h',Fr K m h.n H σ ρ/\Rel K m h H/\f ρ h=.ok fl h'/\∀H' m',bO m h.n H m' h'.n H'->Rel K m' h' H'->wG K m' h'.n H' D fl
theorem jn.el{K:aI}{D:Ends}{σ:L2.St}{H:Hp}{P:Prop}{fa:FS}(q:jn K fa D σ H)(k:∀ρ h m fl h',Fr K m h.n H σ ρ->Rel K m h H->fa ρ h=.ok fl h'->(∀H' m',bO m h.n H m' h'.n H'->Rel K m' h' H'->wG K m' h'.n H' D fl)->P):P:=by obtain⟨ρ,h,m,w,h',f,r,e,k'⟩:=q;exact k ρ h m w h' f r e k'
theorem jn.mk{K:aI}{D:Ends}{σ:L2.St}{H:Hp}{m:Nat->ah}{ρ:En}{h h':VH}{fl:Fl}{fa:FS}(f:Fr K m h.n H σ ρ)(r:Rel K m h H)(e:fa ρ h=.ok fl h')(k:∀H' m',bO m h.n H m' h'.n H'->Rel K m' h' H'->wG K m' h'.n H' D fl):jn K fa D σ H:=⟨ρ,h,m,fl,h',f,r,e,k⟩
noncomputable abbrev SS(X:Cx)(st:au)(f:FS):Prop:=PS X st (jn X.K f)
noncomputable abbrev rV(X:Cx)(st:List au)(f:FS):Prop:=kh X st (jn X.K f)
section
variable{X:Cx}{a b c e o:aq}{es:List aq}{fa fb fc fo fr:FE}{pos p:Pos}{x:Str}{st:au}{sts:List au}{ga gb:FS}
noncomputable abbrev uv:FS:=λρ h=>.ok (.nx ρ) h
noncomputable abbrev IJ(ga gb:FS):FS:=λρ h=>(ga ρ h).bind λfl h=>match fl with|.nx ρ=>gb ρ h|fl=>.ok fl h
theorem Xr:rV X [] uv:=R1.imp λD σ H z9=>z9.el λρ h m fl h' f r e k=>by cases e;exact k H m .refl r σ f
theorem Xs:SS X (.Pass pos) uv:=R5.imp λD σ H z9=>z9.el λρ h m fl h' f r e k=>by cases e;exact k H m .refl r σ f
theorem Xu:SS X (.Break pos) (λρ h=>.ok (.bk ρ) h):=R6.imp λD σ H z9=>z9.el λρ h m fl h' f r e k=>by cases e;exact k H m .refl r σ f
theorem Xv:SS X (.Continue pos) (λρ h=>.ok (.ct ρ) h):=R7.imp λD σ H z9=>z9.el λρ h m fl h' f r e k=>by cases e;exact k H m .refl r σ f
theorem Xw(h1:SS X st ga)(h2:rV X sts gb):rV X (st::sts) (IJ ga gb):=(R3 h1 h2).imp λD σ H z9=>z9.el λρ h m fl h' f r e k=>by
 refine bL e λXx h1 e1 e2=>?_;refine(.mk f r e1 λH1 m1 s1 r1=>?_);cases Xx with|nx bC=>exact λσ1 f1=>⟨bC,h1,m1,fl,h',f1,r1,e2,λH' m' s' r'=>k H' m' (s1.trans s') r'⟩|bk bC=>cases e2;exact k H1 m1 s1 r1|ct bC=>cases e2;exact k H1 m1 s1 r1|rt w=>cases e2;exact k H1 m1 s1 r1
theorem BQ:SS X st (λ_ _=>.no):=Se.imp λD σ H z9=>z9.el λρ h m fl h' f r e k=>by cases e
noncomputable def ER:aq->Bool|.ListComp .. |.SetComp .. |.DictComp ..=>false|_=>true
theorem Pf{e:aq}{t:Option aq}{l:Nat}{env:Env}(h:ER e):swapsWith e t l env=pure false:=by cases e<;>first|rfl|cases h
theorem Xy(he:SE X e fa)(hs:ER e):SS X (.Expr e pos) (λρ h=>(fa ρ h).bind λ_ h=>.ok (.nx ρ) h):=(R8 he (Pf hs)).imp λD σ H z9=>z9.el λρ h m fl h' f r e k=>by
 refine bL e λw h1 e1 e2=>?_;cases e2;exact(.mk f r e1 λv H1 m1 s1 r1 q1=>k H1 m1 s1 r1 σ (f.stp s1))
theorem Xz(he:SE X e fa):SS X (.Return (aC e) pos) (λρ h=>(fa ρ h).bind λw h=>.ok (.rt w) h):=(R9 he).imp λD σ H z9=>z9.el λρ h m fl h' f r e k=>by
 refine bL e λw h1 e1 e2=>?_;cases e2;exact(.mk f r e1 λv H1 m1 s1 r1 q1=>k H1 m1 s1 r1 v q1)
theorem XA:SS X (.Return aD pos) (λρ h=>(Res.ok W.aO h).bind λw h=>.ok (.rt w) h):=Sa.imp λD σ H z9=>z9.el λρ h m fl h' f r e k=>by
 cases e;exact k H m .refl r .aO .aO
noncomputable abbrev rW(i:Nat)(fa:FE):FS:=λρ h=>(fa ρ h).bind λw h=>.ok (.nx (ρ.set i (aC w))) h
theorem IK{K:aI}{i:Nat}{D:Ends}{σ:L2.St}{H:Hp}(q:jn K (rW i fa) D σ H):gw K fa σ H λv H1=>iu i v σ H1 D.nx:=by refine q.el λρ h m fl h' f r e k=>?_;refine bL e λw h1 e1 e2=>?_;cases e2;exact(.mk f r e1 λv H1 m1 s1 r1 q1=>k H1 m1 s1 r1 _ ((f.stp s1).set q1 i))
theorem Pg{i:Nat}{pos':Pos}(hN:X.N.Nodup)(hi:X.N[i]?=aC x)(hx:Loc X.env.scope x)(hf:X.fn x=true\/X.env.scope.names.lookup x=aC .local)(he:SE X e fa)
 (hs:swapsWith e (aC (.Name x pos')) pos.line X.env=pure false):SS X (.Assign [.Name x pos'] e pos) (rW i fa):=(Sj hN hi hx he hs hf).imp λD σ H q=>IK q
theorem XC{i:Nat}{pos' lp:Pos}{ow fr:List Str}{ix:List Nat}{scope:az}{tg iter elt:aq}{ifs:List aq}{kd:Kd}{t:Tg}{fe:FE}(hN:X.N.Nodup)(hi:X.N[i]?=aC x)(hx:Loc X.env.scope x)(hf:X.fn x=true\/X.env.scope.names.lookup x=aC .local)
 (S:aW X ow fr ix scope) (hc:X.calm) (hI:PI X tg iter (cu X.K kd fa)) (hg:∀C s₀ H₀ ex,PG (X.comp (ow++fr) scope C s₀ H₀ ex) tg (cX X.K t)) (ht:∀C s₀ H₀ ex,iP (X.comp (ow++fr) scope C s₀ H₀ ex) ifs (dg X.K fc))
 (he:∀C s₀ H₀ ex,PE (X.comp (ow++fr) scope C s₀ H₀ ex) elt (gw X.K fe)) (hsw:swapsWith (.ListComp elt [⟨tg,iter,ifs,0⟩] scope lp) (aC (.Name x pos')) pos.line X.env=pure true) (hs:∀x,foldedSetIterable iter X.env x=pure x) :
 SS X (.Assign [.Name x pos'] (.ListComp elt [⟨tg,iter,ifs,0⟩] scope lp) pos) (rW i (IA kd fa t ow.length ix fc fe)):=
 (Uw hN hi hx S hc hI hg ht he hsw hf hs).imp λD σ H q=>uu (IK q)
theorem BR{lp:Pos}{ow fr:List Str}{ix:List Nat}{scope:az}{tg iter elt:aq}{ifs:List aq}{kd:Kd}{t:Tg}{fe:FE}
 (S:aW X ow fr ix scope) (hc:X.calm) (hI:PI X tg iter (cu X.K kd fa)) (hg:∀C s₀ H₀ ex,PG (X.comp (ow++fr) scope C s₀ H₀ ex) tg (cX X.K t)) (ht:∀C s₀ H₀ ex,iP (X.comp (ow++fr) scope C s₀ H₀ ex) ifs (dg X.K fc))
 (he:∀C s₀ H₀ ex,PE (X.comp (ow++fr) scope C s₀ H₀ ex) elt (gw X.K fe)) (hs:∀x,foldedSetIterable iter X.env x=pure x) :
 SE X (.ListComp elt [⟨tg,iter,ifs,0⟩] scope lp) (IA kd fa t ow.length ix fc fe):=(Aq S hc hI hg ht he hs).imp λσ H Q q=>uu q
theorem XD{lp:Pos}{ow fr:List Str}{ix:List Nat}{scope:az}{tg iter elt gA aZ:aq}{ifs cV:List aq}{kd iz:Kd}{t t2:Tg}{fe nB mT:FE}
 (S:aW X ow fr ix scope) (hc:X.calm) (hI:PI X tg iter (cu X.K kd fa)) (hg:∀C s₀ H₀ ex,PG (X.comp (ow++fr) scope C s₀ H₀ ex) tg (cX X.K t)) (ht:∀C s₀ H₀ ex,iP (X.comp (ow++fr) scope C s₀ H₀ ex) ifs (dg X.K fc))
 (wH:∀C s₀ H₀ ex,PI (X.comp (ow++fr) scope C s₀ H₀ ex) gA aZ (cu X.K iz nB)) (kY:∀C s₀ H₀ ex,PG (X.comp (ow++fr) scope C s₀ H₀ ex) gA (cX X.K t2)) (BJ:∀C s₀ H₀ ex,iP (X.comp (ow++fr) scope C s₀ H₀ ex) cV (dg X.K mT))
 (he:∀C s₀ H₀ ex,PE (X.comp (ow++fr) scope C s₀ H₀ ex) elt (gw X.K fe)) (hs:∀x,foldedSetIterable iter X.env x=pure x) (hs2:∀C s₀ H₀ ex x,foldedSetIterable aZ (X.comp (ow++fr) scope C s₀ H₀ ex).env x=pure x) :
 SE X (.ListComp elt [⟨tg,iter,ifs,0⟩,⟨gA,aZ,cV,0⟩] scope lp) (wF kd fa t ow.length ix fc iz nB t2 mT fe):=
 (AB NS rfl S hc hI hg ht (λC s₀ H₀ ex D=>NR (X:=X.comp (ow++fr) scope C s₀ H₀ ex) hc rfl (wH C s₀ H₀ ex) (kY C s₀ H₀ ex) (BJ C s₀ H₀ ex) (he C s₀ H₀ ex) (hs2 C s₀ H₀ ex) D) hs).imp λσ H Q q=>O8 q
theorem XE{i:Nat}{pos' lp:Pos}{ow fr:List Str}{ix:List Nat}{scope:az}{tg iter elt gA aZ:aq}{ifs cV:List aq}{kd iz:Kd}{t t2:Tg}{fe nB mT:FE}(hN:X.N.Nodup)(hi:X.N[i]?=aC x)(hx:Loc X.env.scope x)(hf:X.fn x=true\/X.env.scope.names.lookup x=aC .local)
 (S:aW X ow fr ix scope) (hc:X.calm) (hI:PI X tg iter (cu X.K kd fa)) (hg:∀C s₀ H₀ ex,PG (X.comp (ow++fr) scope C s₀ H₀ ex) tg (cX X.K t)) (ht:∀C s₀ H₀ ex,iP (X.comp (ow++fr) scope C s₀ H₀ ex) ifs (dg X.K fc))
 (wH:∀C s₀ H₀ ex,PI (X.comp (ow++fr) scope C s₀ H₀ ex) gA aZ (cu X.K iz nB)) (kY:∀C s₀ H₀ ex,PG (X.comp (ow++fr) scope C s₀ H₀ ex) gA (cX X.K t2)) (BJ:∀C s₀ H₀ ex,iP (X.comp (ow++fr) scope C s₀ H₀ ex) cV (dg X.K mT))
 (he:∀C s₀ H₀ ex,PE (X.comp (ow++fr) scope C s₀ H₀ ex) elt (gw X.K fe)) (hsw:swapsWith (.ListComp elt [⟨tg,iter,ifs,0⟩,⟨gA,aZ,cV,0⟩] scope lp) (aC (.Name x pos')) pos.line X.env=pure true) (hs:∀x,foldedSetIterable iter X.env x=pure x) (hs2:∀C s₀ H₀ ex x,foldedSetIterable aZ (X.comp (ow++fr) scope C s₀ H₀ ex).env x=pure x) :
 SS X (.Assign [.Name x pos'] (.ListComp elt [⟨tg,iter,ifs,0⟩,⟨gA,aZ,cV,0⟩] scope lp) pos) (rW i (wF kd fa t ow.length ix fc iz nB t2 mT fe)):=
 (US NS (λ_=>rfl) hN hi hx S hc hI hg ht (λC s₀ H₀ ex D=>NR (X:=X.comp (ow++fr) scope C s₀ H₀ ex) hc rfl (wH C s₀ H₀ ex) (kY C s₀ H₀ ex) (BJ C s₀ H₀ ex) (he C s₀ H₀ ex) (hs2 C s₀ H₀ ex) D) hsw hf hs).imp λD σ H q=>O8 (IK q)
noncomputable def oS:aq->Bool|.Tuple ..=>false|_=>true
theorem XF{es:List aq}{k:Nat}{e:aq}{l:Nat}{p:Pos}{env:Env}:swapsWithSole [.Tuple es k p] e l env=pure false:=by cases e<;>rfl
theorem XG{es:List aq}{k:Nat}{p:Pos}{e:aq}{env:Env}(h:oS e):swappedStores [.Tuple es k p] e env=pure aD:=by cases e<;>first|rfl|cases h
theorem XH{is:List Nat}{k:Nat}(hc:X.calm)(hN:X.N.Nodup)(hs:Paired (oN X) es is)(he:SE X e fa)(ht:oS e) :
 SS X (.Assign [.Tuple es k p] e pos) (λρ h=>(fa ρ h).bind λw h=>.of ((bx (.many is) w h ρ).map .nx) h):=(MJ he (O1 hc hN hs) XF (XG ht) rfl).imp λD σ H z9=>z9.el λρ h m fl h' f r e k=>by
 refine bL e λw h1 e1 e2=>?_;obtain⟨e2,e3⟩:=of_ok e2;subst e3;cases z:bx (.many is) w h' ρ with
 |none=>rw[z]at e2;cases e2
 |some ρ'=>
  rw[z]at e2;cases e2;exact(.mk f r e1 λv H1 m1 s1 r1 q1=>(.mk (f.stp s1) r1 q1 z λσ' f'=>k H1 m1 s1 r1 σ' f'))
noncomputable def uw:aq->Bool|.Slice ..=>false|_=>true
theorem XI{o i:aq}{p:Pos}{env:Env}(h:uw i)(v:aa):assign (.Subscript o i p) env v=(do
 let ov <-holding [v] (eval o env);let iv <-holding [v,ov] (eval i env)
 standAt p
 holding [v,ov,iv] (setItem ov iv v)
 release [v,ov,iv] []):=by
 cases i<;>first|rfl|cases h
noncomputable abbrev IL(fo fi fv:FE):FS:=λρ h=>(fv ρ h).bind λw h=>(fo ρ h).bind λx h=>(fi ρ h).bind λy h=>match x,y with
 |.ref a,.int j=>(match h.get a with
  |some (.lst ws)=>(match L2.gR ws.length j with
   |some k=>.ok (.nx ρ) (h.set a (.lst (ws.set k w)))
   |none=>.no)
  |_=>rQ ρ a j w h)
 |_,_=>.no
theorem XJ{o i e:aq}{l:Nat}{p:Pos}{env:Env}:swapsWithSole [.Subscript o i p] e l env=pure false:=by cases e<;>rfl
theorem XM{o i e:aq}{p:Pos}{env:Env}:swappedStores [.Subscript o i p] e env=pure aD:=by cases e<;>rfl
theorem XN{X:Cx}{t t':V->V->V->Hp->(Hp->Prop)->Prop}(h:kL X t)(h':kL X t'):kL X (λo i v H Q=>t o i v H Q\/t' o i v H Q):=by
 intro pins s σ H o i v ov iv u Q I ro ri rv q;rcases q with q|q
 exact h pins s σ H o i v ov iv u Q I ro ri rv q;exact h' pins s σ H o i v ov iv u Q I ro ri rv q
noncomputable def BS:V->V->V->Hp->(Hp->Prop)->Prop:=λo i v H Q=>∃a kvs j,o=.ref a/\i=.int j/\H a=aC (.dK kvs)/\kvs.length<sizeLine/\Q (upd H a (.dK (putK kvs (.inl j) v)))
theorem XO(hu:X.A.units+2<cLine):kL X BS:=by intro pins s σ H o i v ov iv u Q I ro ri rv h;obtain⟨a,kvs,j,rfl,rfl,e,hl,q⟩:=h;cases ro;exact UI (yT hu) I (rq.k (k:=.inl j) e hl) ri rv λs' I'=>⟨_,I',q⟩
theorem XQ(hu:X.A.units+2<cLine)(ho:SE X o fo)(hi:SE X a fa)(hv:SE X e fb)(hs:uw a):SS X (.Assign [.Subscript o a p] e pos) (IL fo fa fb):=
 (MJ hv (Si ho hi (XN M6 (XO hu)) (XI hs)) XJ XM rfl).imp λD σ H z9=>z9.el λρ h m fl h' f r e k=>by
   refine bL e λw h1 e1 e2=>?_;refine bL e2 λx h2 e3 e4=>?_;refine bL e4 λy h3 e5 e6=>?_;refine(.mk f r e1 λv H1 m1 s1 r1 q1=>(.mk (f.stp s1) r1 e3 λvo H2 m2 s2 r2 q2=>(.mk ((f.stp s1).stp s2) r2 e5 λvi H3 m3 s3 r3 q3=>?_)));split at e6;rename_i l j;split at e6;rename_i ws g;split at e6;rename_i kk hk;cases e6;cases q3;have ym:=q2.stp s3;cases ym;obtain⟨vs,p1,p2⟩:=r3.lst g;refine .inl ⟨m3 l,vs,j,kk,rfl,rfl,p1,by rw[p2.length];exact hk,?_⟩;have qv:=((q1.stp s2).stp s3)
   obtain⟨st,r'⟩:=r3.write (i:=l) (o:=.lst (ws.set kk w)) (u:=.lst (vs.set kk v)) (bQ g) p1 (λ_ z=>nomatch z) (λ_ _ z=>nomatch z) λst=>⟨_,ie,aF.set (qv.stp st) kk (p2.stp st)⟩
   exact k _ m3 (((s1.trans s2).trans s3).trans st) r' σ ((((f.stp s1).stp s2).stp s3).stp st);cases e6;unfold rQ at e6;split at e6;rename_i kvs g;split at e6;rename_i hb;cases e6;cases q3;have ym:=q2.stp s3;cases ym;obtain⟨vs,p1,p2⟩:=r3.dm g;have hlt:vs.length<sizeLine:=by rw[p2.length,yR];exact iU.mp hb
   refine .inr ⟨m3 l,vs,j,rfl,rfl,p1,hlt,?_⟩;have qv:=((q1.stp s2).stp s3)
   obtain⟨st,r'⟩:=r3.write (i:=l) (o:=.dm (jR kvs (.inl j) w)) (u:=.dK (putK vs (.inl j) v)) (bQ g) p1 (λ_ z=>nomatch z) (λ_ _ z=>nomatch z) λst=>⟨_,ie,aN.put (qv.stp st) _ (p2.stp st)⟩
   exact k _ m3 (((s1.trans s2).trans s3).trans st) r' σ ((((f.stp s1).stp s2).stp s3).stp st);cases e6;cases e6;cases e6
theorem XR{M:Model}{A:ao}{E:aa->af->Prop}{s:af}{a b:aa}{T id:String}{Q:aa->af->Prop}(ha:s.TypeIs a T)(hb:s.TypeIs b T)
 (hI:typeLookup (.type T) (dunderI "add")=pure (aC (.builtin id))) (hq:isSeqSlot (aC (.builtin id))) (hfill:fillsNumberSlot (.type T) "add" = pure false) (hc:wpAny M A (call (.builtin id) [a,b]) Q E s):wpAny M A (inplaceOp .Add a b) Q E s:=by
 unfold inplaceOp;refine nF ?_;have h1:fillsInplaceSlot (.type T) "add" (Operator.Add == .Add)=pure false:=by unfold fillsInplaceSlot;show(typeLookup (.type T) (dunderI "add") >>= λfi=>pure (fi.isSome && !isSeqSlot fi))=_;rw[hI,qA,hq];rfl
 have h2:seqSlot? (.type T) (dunderI "add")=pure (aC (.builtin id)):=by unfold seqSlot?;rw[hI,qA,hq];rfl
 refine aL (Dd ha (aL (wpAny_of_eq h1 ?_)));show wpAny M A (if false=true then _ else _) Q E s;rw[if_neg yV];refine aL (binaryOp1_none (nm:="add") ha hb hfill ?_);refine aL (wpAny_of_eq h2 ?_);exact aL (kH hc)
noncomputable def ux:R2:=λx y H Q=>∃l b xs zs,x=.ref l/\y=.ref b/\H l=aC (.lst xs)/\H b=aC (.lst zs)/\xs.length+zs.length<=sizeLine/\Q (.ref l) (upd H l (.lst (xs++zs)))
theorem XS:vF X .Add ux:=by
 intro pins s σ H x y v u Q I rx ry h;obtain⟨l,b,xs,zs,rfl,rfl,hH,hB,hz,q⟩:=h;cases rx;cases ry;obtain⟨z,its,n,r,hl,e⟩:=I.fS hH;obtain⟨z2,its2,n2,r2,hl2,e2⟩:=I.fS hB;have hsz:its.toArray.size+its2.toArray.size<=sizeLine:=by rw[cC,cC];lia
 have nU:¬(!its.toArray.isEmpty&&Builtin.List.listTooLong (its.toArray.size+its2.toArray.size))=true:=by rw[Na hsz,Bool.and_false];exact yV
 refine XR (T:="list") (id:="list.__iadd__") ⟨_,e,rfl⟩ ⟨_,e2,rfl⟩ PySem.F.slot_list_iadd.lookup (by decide +kernel) noFill_list_add ?_;refine qp PySem.F.slot_list_iadd ⟨_,e,rfl⟩ PySem.F.entry_list_iadd (PySem.F.args_list_iadd_2 _ _)
  (AutoSeq1.list___iadd___list_list_0 l its.toArray n b its2.toArray n2 nU (by rw[cC];lia) (by lia)) ⟨e,e2,?_⟩
 refine⟨.ref l,_,I.vP (its':=its++its2) hH e (by simp) (r.append r2) ?_,rfl,q⟩;rw[eZ];lia
noncomputable def rY:Operator->Option Op|.Add=>aC .add|.Sub=>aC .sub|.Mult=>aC .mul|.FloorDiv=>aC .fdiv|_=>aD
noncomputable def Ph(K:aI):Op->R2|.mul=>rI mC λi j=>.int (i*j)|.fdiv=>rI qR λi j=>.int (i/j)|.add=>λx y H Q=>DL (λi j=>i+j) x y H Q\/ux x y H Q\/lz K x y H Q|.sub=>DL λi j=>i-j|_=>λ_ _ _ _=>False
theorem BU{O:Operator}{o:Op}(e:rY O=aC o):vF X O (Ph X.K o):=by
 cases O<;>cases e;intro pins s σ H x y v u Q I rx ry q;rcases q with q|q|q
 exact MK pins s σ H x y v u Q I rx ry q;exact XS pins s σ H x y v u Q I rx ry q;exact Xq pins s σ H x y v u Q I rx ry q;exact Sm;exact SQ;exact SR
theorem XT{K:aI}{O:Operator}{o:Op}(e:rY O=aC o):Bo K (Ph K o) (yo o):=by
 intro m h H v u x y w h' Q r qv qu e2 k;unfold yo at e2;split at e2;rename_i i j;cases qv;cases qu;split at e2;cases e2;exact .inl ⟨i,j,rfl,rfl,aM.here k r (.int _)⟩;cases e2;exact⟨i,j,rfl,rfl,aM.here k r (.int _)⟩;obtain⟨e2,rfl⟩:=of_ok e2;cases z:dP .mul i j with
 |none=>rw[z]at e2;cases e2
 |some t=>
  rw[z]at e2;cases e2;obtain⟨c1,rfl⟩:=Il z;exact⟨i,j,rfl,rfl,c1,aM.here k r (.int _)⟩
 obtain⟨e2,rfl⟩:=of_ok e2;cases z:dP .fdiv i j with
 |none=>rw[z]at e2;cases e2
 |some t=>
  rw[z]at e2;cases e2;obtain⟨c1,rfl⟩:=Il z;exact⟨i,j,rfl,rfl,c1,aM.here k r (.int _)⟩
 cases e2;rename_i i j;split at e2;rename_i xs ys g1 g2;split at e2;rename_i hz;cases e2;cases qv;cases qu;obtain⟨vs,p1,p2⟩:=r.lst g1;obtain⟨us,p3,p4⟩:=r.lst g2;refine .inr (.inl ⟨m i,m j,vs,us,rfl,rfl,p1,p3,by rw[p2.length,p4.length];exact j8 hz,?_⟩);obtain⟨st,r'⟩:=r.write (i:=i) (o:=.lst (xs++ys)) (u:=.lst (vs++us)) (bQ g1) p1 (λ_ z=>nomatch z) (λ_ _ z=>nomatch z) λst=>⟨_,ie,(p2.stp st).append (p4.stp st)⟩
 exact k _ _ m st r' (.ref (show i<h.n from bQ g1));cases e2;cases e2;rename_i x xs ys;split at e2;split at e2;rename_i hz;cases e2;cases qv with
 |tup qa ra=>
  cases qu with
  |tup qb rb=>
   rename_i a va b vb;refine .inr (.inr ⟨a,b,va,vb,rfl,rfl,qa,qb,λz=>?_,by rw[ra.length,rb.length];exact j8 hz,λz=>?_,λ_ p hp=>aM.tuple k r (ra.append rb) hp⟩);subst z;cases ra;subst z;cases rb;rw[ny]at k;exact aM.here k r (.tup qa ra)
 cases e2;cases e2;cases e2
noncomputable abbrev wI(i:Nat)(o:Op)(fa:FE):FS:=λρ h=>match(ρ[i]?).join with|some x=>(fa ρ h).bind λy h=>(yo o x y h).bind λz h=>.ok (.nx (ρ.set i (aC z))) h|none=>.no
theorem XU{i:Nat}{pos':Pos}{O:Operator}{o:Op}(eo:rY O=aC o)(hN:X.N.Nodup)(hi:X.N[i]?=aC x)(hx:Loc X.env.scope x)(hf:X.fn x=true\/X.env.scope.names.lookup x=aC .local)(he:SE X e fa) :
 SS X (.AugAssign (.Name x pos') O e pos) (wI i o fa):=(Sk hN hi hx he (BU eo) hf).imp λD σ H z9=>z9.el λρ h m fl h' f r e k=>by
 have e:wI i o fa ρ h=.ok fl h':=e;simp only[wI]at e;cases z:(ρ[i]?).join with
 |none=>rw[z]at e;cases e
 |some x=>
  rw[z]at e;simp only at e;refine bL e λy h1 e1 e2=>?_;refine bL e2 λw h2 e3 e4=>?_;cases e4;have e5:ρ[i]?=aC (aC x):=by
   cases q:ρ[i]? with|none=>rw[q]at z;cases z|some o=>rw[q]at z;rw[<-z];rfl
  obtain⟨v,p1,p2⟩:=f.val i x e5;refine⟨v,p1,ρ,h,m,y,h1,f,r,e1,λu H1 m1 s1 r1 q1=>XT eo m1 h1 H1 v u x y w h' _ r1 (p2.stp s1) q1 e3 λv' H' m' s' r' q'=>?_⟩;exact k H' m' (s1.trans s') r' _ (((f.stp s1).stp s').set q' i)
theorem XW:zK X (vN X.K):=by
 intro pins s σ H x y v u Q I rx ry h;obtain⟨p,xs,i,z,rfl,rfl,hq,he,q⟩:=h;cases rx;obtain⟨t,rfl⟩:=ry;obtain⟨its,r,pl,hz⟩:=I.list hq;obtain⟨j,h1,h2,h3,h4,h5⟩:=GI he;obtain⟨w,ew,rw'⟩:=r.get h2;have hl:=r.length;have hn:=vK;have fin:EP X pins σ Q w s:=⟨z,H,I,rw',q⟩
 by_cases h0:0<=i;have hj:i.toNat=j:=by rw[Df h0 h5]at h1;exact l8 h1
 exact wpAny_getItem_list pl.isList h0 (by lia) (by rw[hj];simpa using ew) fin;have hj:(i+ (its.toArray.size:Int)).toNat=j:=by rw[De (by lia) h4]at h1;rw[cC,<-hl];exact l8 h1
 exact wpAny_getItem_list_neg pl.isList (by lia) (by rw[cC]<;>lia) (by lia) (by rw[hj];simpa using ew) fin
theorem XX{i:aq}(h:uw i)(ov iv new:aa):augStore i ov iv new=(do holding [new,ov,iv] (setItem ov iv new);release [new,ov,iv] [];pure .next):=by cases i<;>first|rfl|cases h
theorem XY{x y:W}{p:Int}{h h':VH}(e:jV x y h=.ok p h'):∃a j ws,x=.ref a/\y=.int j/\h.get a=aC (.lst ws)/\dH ws j=aC (.int p)/\h'=h:=by unfold jV at e;split at e;split at e;split at e;rename_i g _ _ hp;cases e;exact⟨_,_,_,rfl,rfl,g,hp,rfl⟩;cases e;cases e;cases e
theorem XZ{ρ:En}{x y z:W}{p:Int}{h h':VH}{fl:Fl}(e:kX ρ x y p z h=.ok fl h'):∃a j q ws k,x=.ref a/\y=.int j/\z=.int q/\h.get a=aC (.lst ws)/\gR ws.length j=aC k/\fl=.nx ρ/\h'=h.set a (.lst (ws.set k (.int (p+q)))):=by unfold kX at e;split at e;split at e;split at e;rename_i g _ _ hk;cases e;exact⟨_,_,_,_,_,rfl,rfl,rfl,g,hk,rfl,rfl⟩;cases e;cases e;cases e
noncomputable abbrev IM(fo fi fe:FE):FS:=λρ h=>(fo ρ h).bind λx h=>(fi ρ h).bind λy h=>(jV x y h).bind λp h=>(fe ρ h).bind λz h=>kX ρ x y p z h
theorem X0(ho:SE X o fo)(hi:SE X a fa)(hv:SE X e fb)(hs:uw a):SS X (.AugAssign (.Subscript o a p) .Add e pos) (IM fo fa fb):=
 (Sl ho hi XW hv MK M6 (XX hs)).imp λD σ H z9=>z9.el λρ h m fl h' f r e k=>by
   refine bL e λx h1 e1 e2=>?_;refine bL e2 λy h2 e3 e4=>?_;refine bL e4 λp0 h3 e5 e6=>?_;refine bL e6 λz h4 e7 e8=>?_;obtain⟨a,j,ws,rfl,rfl,g,hp,rfl⟩:=XY e5;obtain⟨a',j',q,EK,kk,ea,ej,rfl,g',hk,rfl,rfl⟩:=XZ e8;cases ea;cases ej;refine(.mk f r e1 λvo H1 m1 s1 r1 q1=>(.mk (f.stp s1) r1 e3 λvi H2 m2 s2 r2 q2=>?_));cases q2;have Ie:=q1.stp s2;cases Ie;obtain⟨vs,b1,b2⟩:=r2.lst g;obtain⟨v',a1,a2⟩:=EJ b2 hp;cases a2;refine⟨m2 a,vs,j,.int p0,rfl,rfl,cz.of b1,a1,?_⟩;refine(.mk ((f.stp s1).stp s2) r2 e7 λv H3 m3 s3 r3 q3=>?_);cases q3;refine⟨p0,q,rfl,rfl,?_⟩;obtain⟨vs',c1,c2⟩:=r3.lst g';have em:m3 a=m2 a:=s3.same a (bQ g);refine⟨m2 a,vs',j,kk,rfl,rfl,by rw[<-em];exact c1,by rw[c2.length];exact hk,?_⟩;rw[<-em];obtain⟨st,r'⟩:=r3.write (i:=a) (o:=.lst (EK.set kk (.int (p0+q)))) (u:=.lst (vs'.set kk (.int (p0+q)))) (bQ g') c1 (λ_ z=>nomatch z) (λ_ _ z=>nomatch z) λst=>⟨_,ie,aF.set (.int _) kk (c2.stp st)⟩
   exact k _ m3 (((s1.trans s2).trans s3).trans st) r' σ ((((f.stp s1).stp s2).stp s3).stp st)
noncomputable abbrev X3(fc:FE)(ga gb:FS):FS:=λρ h=>(fc ρ h).bind λx h=>match x with|.bl true=>ga ρ h|.bl false=>gb ρ h|_=>.no
variable{sa sb:List au}
theorem X4(hc:ST X c fc)(ha:rV X sa ga)(hb:rV X sb gb):SS X (.If c sa sb pos) (X3 fc ga gb):=(zH hc ha hb).imp λD σ H z9=>z9.el λρ h m fl h' f r e k=>by
 refine bL e λx h1 e1 e2=>?_;cases x<;>try cases e2
 rename_i c;refine(.mk f r e1 λH1 m1 s1 r1=>?_);cases c with|true=>rw[if_pos rfl];exact(.mk (f.stp s1) r1 e2 λH' m' s' r'=>k H' m' (s1.trans s') r')|false=>simp only[dS,dB];exact(.mk (f.stp s1) r1 e2 λH' m' s' r'=>k H' m' (s1.trans s') r')
theorem X5{nx:Nat->VH->Option (Option W)}{tg:W->VH->En->Option En}{g:FS}{f i:Nat}{ρ:En}{h:VH}{fl:Fl}{h':VH}(q:cZ nx tg g (f+1) i ρ h=.ok fl h'):∃o,nx i h=aC o:=by simp only[cZ]at q;split at q;cases q;exact⟨_,by assumption⟩;exact⟨_,by assumption⟩
noncomputable abbrev BV(kd:Kd)(fa:FE)(t:Tg)(g:FS):FS:=λρ h=>(fa ρ h).bind λx h=>cZ (bf kd x) (bx t) g fuel 0 ρ h
theorem X6{K:aI}{kd:Kd}{t:Tg}{D:Ends}{σ:L2.St}{H:Hp}(q:jn K (BV kd fa t ga) D σ H):zP (cu K kd fa) (cX K t) (jn K ga) D σ H:=by
 refine q.el λρ h m fl h' f r e k=>?_;refine bL e λx h1 e1 e2=>?_;refine(.mk f r e1 (X5 (f:=999999) e2) λJ P H1 m1 s1 r1 J1 p1=>?_);refine⟨λi fu σ' H'=>∃ρ' h3 m3,cZ (bf kd x) (bx t) ga fu i ρ' h3=.ok fl h'/\Fr K m3 h3.n H' σ' ρ'/\Rel K m3 h3 H'/\bO m1 h1.n H1 m3 h3.n H'/\P m3 h3.n H',⟨fuel,ρ,h1,m1,e2,f.stp s1,r1,.refl,p1⟩,?_⟩;rintro i fu σ' H' ⟨ρ',h3,m3,e3,f3,r3,s3,p3⟩;cases fu with
 |zero=>cases e3
 |succ fu=>
  simp only[cZ]at e3;obtain⟨j1,j2⟩:=J1.2 m3 h3 H' r3 p3 i;split at e3;cases e3;rename_i hn;cases e3;exact .inl ⟨j2 hn,k H' m3 (s1.trans s3) r3 σ' f3⟩;rename_i w hn;obtain⟨j3,j4⟩:=j1 w hn;split at e3;cases e3;rename_i Pj ht;refine bL e3 λBW h5 e5 e6=>?_;refine .inr ⟨j3,λjw H6=>∃jo m6,cZ (bf kd x) (bx t) ga fu (i+1) jo h5=.ok fl h'/\Fr K m6 h5.n H6 jw jo/\Rel K m6 h5 H6/\bO m1 h1.n H1 m6 h5.n H6/\P m6 h5.n H6,λjw H6 ⟨jo,m6,a1,a2,a3,a4,a5⟩=>⟨fu,jA _,jo,h5,m6,a1,a2,a3,a4,a5⟩,λy H4 hy=>?_⟩;obtain⟨s4,r4,q4⟩:=j4 y H4 hy;refine⟨ρ',h3,m3,w,Pj,f3.stp s4,r4,q4,ht,λkj f5=>⟨Pj,h3,m3,BW,h5,f5,r4,e5,λH6 m6 s6 r6=>?_⟩⟩;have p4:=J1.1 m3 h3.n H' m3 h3.n H4 (aQ _) (λ_ _=>rfl) (λb vs q=>s4.tup b vs q) (λb o u q=>s4.bI b o u q) p3;have p6:=J1.1 m3 h3.n H4 m6 h5.n H6 s6.le s6.same (λb vs q=>s6.tup b vs q) (λb o u q=>s6.bI b o u q) p4;have rZ:=(s3.trans s4).trans s6;cases BW with|nx jo=>exact λjw f6=>⟨jo,m6,e6,f6,r6,rZ,p6⟩|ct jo=>exact λjw f6=>⟨jo,m6,e6,f6,r6,rZ,p6⟩|bk jo=>cases e6;exact λjw f6=>k H6 m6 (s1.trans rZ) r6 jw f6|rt w6=>cases e6;exact λv6 q6=>k H6 m6 (s1.trans rZ) r6 v6 q6
theorem X7{kd:Kd}{t:Tg}{tg iter:aq}(hp:PassesOwn (model X.prog X.w) X.A X.env X.xe)(hc:X.calm)(hI:PI X tg iter (cu X.K kd fa))(hg:PG X tg (cX X.K t))(hb:rV X sa ga)(hs:∀x,foldedSetIterable iter X.env x=pure x) :
 SS X (.For tg iter sa [] pos) (BV kd fa t ga):=(SD hp hc hI hg hb hs).imp λD σ H q=>X6 q
theorem X8(hp:PassesOwn (model X.prog X.w) X.A X.env X.xe)(hc:ST X c fc)(hb:rV X sa ga):SS X (.While c sa [] pos) (λρ h=>fG fc ga fuel ρ h):=(Sq hp hc hb).imp λD σ H z9=>z9.el λρ h m fl h' f r e k=>by
 refine⟨λfu σ' H'=>∃ρ' h3 m3,fG fc ga fu ρ' h3=.ok fl h'/\Fr X.K m3 h3.n H' σ' ρ'/\Rel X.K m3 h3 H'/\bO m h.n H m3 h3.n H',⟨fuel,ρ,h,m,e,f,r,.refl⟩,?_⟩;rintro fu σ' H' ⟨ρ',h3,m3,e3,f3,r3,s3⟩;cases fu with
 |zero=>cases e3
 |succ fu=>
  simp only[fG]at e3;refine bL e3 λx h4 e4 e5=>?_;cases x<;>try cases e5
  rename_i b;refine⟨ρ',h3,m3,b,h4,f3,r3,e4,λH4 m4 s4 r4=>?_⟩;cases b with
  |false=>cases e5;simp only[dS,dB];exact k H4 m4 (s3.trans s4) r4 σ' (f3.stp s4)
  |true=>
   simp only[b9];refine bL e5 λBW h5 e6 e7=>?_;refine⟨λjw H6=>∃jo m6,fG fc ga fu jo h5=.ok fl h'/\Fr X.K m6 h5.n H6 jw jo/\Rel X.K m6 h5 H6/\bO m h.n H m6 h5.n H6,λjw H6 ⟨jo,m6,a1,a2,a3,a4⟩=>⟨fu,jA _,jo,h5,m6,a1,a2,a3,a4⟩,?_⟩;refine⟨ρ',h4,m4,BW,h5,f3.stp s4,r4,e6,λH6 m6 s6 r6=>?_⟩;have rZ:=(s3.trans s4).trans s6;cases BW with|nx jo=>exact λjw f6=>⟨jo,m6,e7,f6,r6,rZ⟩|ct jo=>exact λjw f6=>⟨jo,m6,e7,f6,r6,rZ⟩|bk jo=>cases e7;exact λjw f6=>k H6 m6 rZ r6 jw f6|rt w6=>cases e7;exact λv6 q6=>k H6 m6 rZ r6 v6 q6
end
theorem BX{n:Str}:∀{ps:List Str} {us:List aa},us.length=ps.length->n∈ps->((ps.zip us).lookup n).isSome=true
 |[],_,_,h=>by cases h
 |p::ps,[],hl,_=>by cases hl
 |p::ps,u::us,hl,h=>by
  rw[pT,gx];by_cases e:(n==p)=true;rw[e];rfl;have e':(n==p)=false:=by simpa using e
  rw[e'];refine BX (by simpa using hl) ?_;rcases gy.mp h with z|z
  rw[z]at e';simp at e';exact z
theorem Yb{n:Str}{u:aa}{p:Str}{ps:List Str}{us:List aa}(h:n≠p):((p,u)::ps.zip us).lookup n=(ps.zip us).lookup n:=by
 rw[gx];have e':(n==p)=false:=by simpa using h
 rw[e']
theorem Pk{α β:Type}{f g:α->Option β}:∀{l:List α},(∀a∈l,f a=g a)->l.filterMap f=l.filterMap g
 |[],_=>rfl
 |a::r,h=>by
  rw[xO,xO,h a fM,Pk λb hb=>h b (dU _ hb)]
theorem ES:∀{ps:List Str} {us:List aa},us.length=ps.length->ps.Nodup->ps.filterMap (λn=>((ps.zip us).lookup n).map (n,·))=ps.zip us
 |[],_,_,_=>rfl
 |p::ps,[],hl,_=>by cases hl
 |p::ps,u::us,hl,hn=>by
  obtain⟨h1,h2⟩:=vh.mp hn;rw[pT,xO];have e:((p,u)::ps.zip us).lookup p=aC u:=by rw[gx];simp
  rw[e];simp only[vz];congr 1;have ih:=ES (ps:=ps) (us:=us) (by simpa using hl) h2;refine Eq.trans ?_ ih;exact Pk λn hn'=>by
   have hne:n≠p:=λz=>h1 (by rw[<-z];exact hn');rw[Yb hne]
theorem Pn{x qual:Str}{args:List Arg}{body:List au}{sc:az}{kV doc pm:aa}{an:Option ah}{cdv ct:aa}{us:List aa}{df:List aq}(hl:us.length=(args.map (·.arg)).length)(hn:(args.map (·.arg)).Nodup) :
 bindArgs (PySem.W.fnOf x qual ⟨[],args,aD,[],[],aD,df⟩ body sc .none kV doc pm an cdv ct) ⟨us,[]⟩=pure ((args.map (·.arg)).zip us):=by
 have hs:seqItems? Value.none=pure aD:=rfl;have hm:((args.map (·.arg)).filter λn=>(((args.map (·.arg)).zip us).lookup n).isNone)=[]:=by
  rw[List.filter_eq_nil_iff];intro n hn';have:=BX hl hn';cases q:((args.map (·.arg)).zip us).lookup n with|none=>rw[q]at this;cases this|some v=>simp
 unfold bindArgs;simp only[PySem.W.fnOf,xQ,xP,ny,hs,qA];have hg:¬(us.length> (args.map (·.arg)).length):=by lia
 have h0:(#[]:Array aa).toList=[]:=rfl;simp only[Option.getD_none,h0,vm,qA,List.drop_nil,Dv,Nat.sub_zero,y9,hm,List.isEmpty_nil,Bool.not_true,Ds,List.zip_nil_right,List.zip_nil_left,iE hg,yW,dS,dB,ES hl hn]
theorem Po{z:Str}:∀{qs:List Str} {us:List aa},us.length=qs.length->(qs++[z]).zip us=qs.zip us
 |[],[],_=>rfl
 |[],_::_,h=>by cases h
 |_::_,[],h=>by cases h
 |q::qs,u::us,h=>by
  rw[Dt,pT,pT,Po (by simpa using h)]
theorem IP{z:Str}{v:aa}:∀{qs:List Str} {us:List aa},us.length=qs.length->(qs++[z]).zip (us++[v])=qs.zip us++[(z,v)]
 |[],[],_=>rfl
 |[],_::_,h=>by cases h
 |_::_,[],h=>by cases h
 |q::qs,u::us,h=>by
  rw[Dt,Dt,pT,pT,IP (by simpa using h),Dt]
theorem Pp{z:Str}:∀{qs:List Str} {us:List aa},z∉qs->(qs.zip us).lookup z=aD
 |[],_,_=>rfl
 |_::_,[],_=>rfl
 |q::qs,u::us,h=>by
  rw[pT,gx];have e':(z==q)=false:=by simpa using(λe=>h (by rw[e];exact fM))
  rw[e'];exact Pp λe=>h (dU _ e)
section
variable{x qual:Str}{args:List Arg}{df:List aq}{body:List au}{sc:az}{kV doc pm:aa}{an:Option ah}{cdv ct:aa}{t:ah}{o:Obj}{n:Nat}{s:af}{us:List aa}{qs:List Str}{z:Str}
theorem Pq(qs:List Str)(z:Str):List.drop ([Value.none].length- (qs++[z]).length) [Value.none]=[Value.none]:=by rw[eZ,Dn,Dn,show 1- (qs.length+1)=0 by lia];rfl
theorem uy(qs:List Str)(z:Str):(qs++[z]).length - [Value.none].length=qs.length:=by simp
theorem Yc(ha:args.map (·.arg)=qs++[z])(hn:(qs++[z]).Nodup)(ho:s.heap.get? t=aC o)(hd:o.data=.seq #[.none] n)(hl:us.length=(qs++[z]).length) :
 BindsTo s (PySem.W.fnOf x qual ⟨[],args,aD,[],[],aD,df⟩ body sc (.ref t) kV doc pm an cdv ct) ⟨us,[]⟩ ((qs++[z]).zip us):=by
 apply BindsTo.of_defaults (items:=#[.none]) (n:=n) rfl ho hd;unfold bindArgs;simp only[PySem.W.fnOf,xQ,xP,ny,vm,qA,ha];rfl;have hm:(qs.filter λn=>(((qs++[z]).zip us).lookup n).isNone)=[]:=by
  rw[List.filter_eq_nil_iff];intro n hn';have:=BX (n:=n) hl (yX _ hn');cases q:((qs++[z]).zip us).lookup n with|none=>rw[q]at this;cases this|some v=>simp
 have hz:(((qs++[z]).zip us).lookup z).isNone=false:=by
  have:=BX (n:=z) hl (g6 _ (pS.mpr rfl));cases q:((qs++[z]).zip us).lookup z with|none=>rw[q]at this;cases this|some v=>rfl
 have hg:¬(us.length> (qs++[z]).length):=by lia
 simp only[zk,Pq,uy,List.take_left',List.take_left,List.drop_left,List.drop_left',hm,iE hg,yW,dS,dB,List.isEmpty_nil,Bool.not_true,pT,List.zip_nil_right,zc,vm,hz,qA,ES hl hn]
theorem Yd(ha:args.map (·.arg)=qs++[z])(hn:(qs++[z]).Nodup)(ho:s.heap.get? t=aC o)(hd:o.data=.seq #[.none] n)(hl:us.length=qs.length) :
 BindsTo s (PySem.W.fnOf x qual ⟨[],args,aD,[],[],aD,df⟩ body sc (.ref t) kV doc pm an cdv ct) ⟨us,[]⟩ ((qs++[z]).zip (us++[.none])):=by
 apply BindsTo.of_defaults (items:=#[.none]) (n:=n) rfl ho hd;unfold bindArgs;simp only[PySem.W.fnOf,xQ,xP,ny,vm,qA,ha];rfl;have hm:(qs.filter λn=>((qs.zip us).lookup n).isNone)=[]:=by
  rw[List.filter_eq_nil_iff];intro n hn';have:=BX (n:=n) hl hn';cases q:(qs.zip us).lookup n with|none=>rw[q]at this;cases this|some v=>simp
 have Ye:z∉qs:=λh=>(List.nodup_append.mp hn).2.2 z h z (pS.mpr rfl) rfl;have hz:((qs.zip us).lookup z).isNone=true:=by rw[Pp Ye];rfl
 have hg:¬(us.length> (qs++[z]).length):=by rw[eZ];lia
 have hl2:(us++[Value.none]).length=(qs++[z]).length:=by rw[eZ,eZ,hl];rfl
 have ha2:=ES hl2 hn;rw[IP hl]at ha2;simp only[zk,Pq,uy,Po hl,IP hl,List.take_left',List.take_left,List.drop_left,List.drop_left',hm,iE hg,yW,dS,dB,List.isEmpty_nil,Bool.not_true,pT,List.zip_nil_right,zc,vm,hz,b9,qA,ha2]
end
structure oU(K:aI)(x qual:Str)(st:au)(f:ah)(fd:av):Prop where
 ex:∃(oc:aa) (od:Option ah) (dV kV doc pm:aa) (an:Option ah) (cdv ct:aa) (osl:Array (Option aa)),fd=PySem.W.fnOf x qual (Um st) (Al st) (jb st) dV kV doc pm an cdv ct/\K.lookup f=aC ⟨oc,od,.func fd,osl⟩/\PySem.W.codeIn K cdv qual=true
 kp:PySem.W.keepIn K (.ref f)=true
theorem oU.ok{P:ai}{w:ak}{K:aI}{mg:Str->Option aa}{base:aA}{x qual:Str}{st:au}{f:ah}{fd:av}{N ps:List Str}{k:Nat}{sp:Sp}(F:oU K x qual st f fd)(S:cP N ps (jb st))(len:∀vs H Q E,sp vs H Q E->vs.length=ps.length)
 (hbody:∀(cdv:aa)(A:ao)(outer:List Env)(s:af)(H:Hp)(vs:List V)(Q:VK)(E:XK),cJ k (A.deeper (envOfC qual (jb st) s.heap.objs.size f cdv))->sp vs H Q E->∃t,kh (jH lA P w K mg base N qual (jb st) f cdv A outer s H E).ye (Al st) t/\t {nx:=λ_ H'=>Q .aO H',rt:=Q} (start N vs) H):fC P w K mg base lA (k+1) f fd ps sp:=
 let⟨_,_,_,_,_,_,_,cdv,_,_,e,lk,hcd⟩:=F.ex
 by subst e;exact Ab lk hcd S len λA outer s H vs Q E hr pX=>let⟨t,h,q⟩:=hbody cdv A outer s H vs Q E hr pX;⟨t,h.ye,q⟩
section
variable{K:aI}{m m':Nat->ah}{n n':Nat}{h h':VH}{H H':Hp}
mutual
theorem aK.fJ:∀{v:V} {w:W},aK K m n H v w->W.lt n w=true|_,_,.aO=>rfl|_,_,.bl _=>rfl|_,_,.int _=>rfl|_,_,.str _=>rfl|_,_,.tup _ r=>aF.fJ r|_,_,.fz _ r=>aF.fJ r|_,_,.ref q=>iU.mpr q
theorem aF.fJ:∀{vs:List V} {ws:List W},aF K m n H vs ws->W.mH n ws=true
 |_,_,.nil=>rfl
 |_,_,.cons q r=>by
  show(W.lt n _&&W.mH n _)=true;rw[aK.fJ q,aF.fJ r];rfl
end
mutual
theorem aK.cut:∀{v:V} {w:W},aK K m n' H v w->W.lt n w=true->aK K m n H v w|_,_,.aO,_=>.aO|_,_,.bl b,_=>.bl b|_,_,.int b,_=>.int b|_,_,.str b,_=>.str b|_,_,.tup q r,e=>.tup q (aF.cut r e)|_,_,.fz q r,e=>.fz q (aF.cut r e)|_,_,.ref q,e=>.ref (iU.mp e)
theorem aF.cut:∀{vs:List V} {ws:List W},aF K m n' H vs ws->W.mH n ws=true->aF K m n H vs ws
 |_,_,.nil,_=>.nil
 |_,_,.cons q r,e=>by
  have e:(W.lt n _&&W.mH n _)=true:=e;rw[bG]at e;exact .cons (aK.cut q e.1) (aF.cut r e.2)
end
theorem aN.cut{m':Nat->ah}{n1:Nat}{H':Hp}:∀{vs us:List (Key×V)} {ws:List (Key×W)},aN K m n' H vs ws->aN K m' n H' us ws->aN K m n H vs ws|_,_,_,.nil,_=>.nil|_,_,_,.cons q r,.cons q2 r2=>.cons (q.cut q2.fJ) (aN.cut (n1:=n1) r r2)
theorem Pu{lo:Nat}(r:Rel K m h H):Rel K m ⟨h.n,lo,h.os⟩ H:=⟨r.obj,r.inj,r.len⟩
theorem Pw{w w2:W}{h1 h2:VH}{v:V}{Q:VK}(r:Rel K m h H)(s:bO m h.n H m' h1.n H')(r1:Rel K m' h1 H')(q:aK K m' h1.n H' v w)(g:fH ⟨h.n,h.n,h.os⟩ h1)(e:leave h w h1=.ok w2 h2)(k:aM K m h.n H w2 h2 Q):Q v H':=by
 unfold leave at e;split at e;rename_i hc;cases e;rw[bG]at hc;have hlo:=j8 hc.1;refine k v H' m' ⟨aQ _,s.same,λi a b=>absurd b (jB.mpr a),λi j a b=>absurd b (jB.mpr a),s.tup,s.bI,s.keep⟩ ⟨λi hi=>?_,λi j hi hj=>r1.inj i j (dN hi s.le) (dN hj s.le),r.len⟩ (q.cut hc.2);have hg:h1.get i=h.get i:=g.2.2 i hi (dN hi hlo);obtain⟨o,p1,p2⟩:=r1.obj i (dN hi s.le);rw[hg]at p1;refine⟨o,p1,?_⟩;have p3:=r.at_ p1;cases o with
 |lst ws=>
  obtain⟨vs,a1,a2⟩:=p2;obtain⟨us,b1,b2⟩:=p3;exact⟨vs,a1,a2.cut b2.fJ⟩
 |dk ws=>
  obtain⟨vs,a1,a2⟩:=p2;obtain⟨us,b1,b2⟩:=p3;exact⟨vs,a1,aN.cut (n1:=0) a2 b2⟩
 |dm ws=>
  obtain⟨vs,a1,a2⟩:=p2;obtain⟨us,b1,b2⟩:=p3;exact⟨vs,a1,aN.cut (n1:=0) a2 b2⟩
 cases e;exact k v H' m' s (Pu r1) q
theorem Yg{N:List Str}{vs:List V}{ws:List W}(q:aF K m n H vs ws):Fr K m n H (L2.start N vs) (ws.map aC++bE (N.length-ws.length) aD):=by
 unfold L2.start;refine⟨by simp[q.length],λi w e=>?_⟩;by_cases hi:i<ws.length;rw[tR (by simpa using hi)]at e;rw[tR (by simpa[q.length]using hi)];rw[gp]at e ⊢;cases z:ws[i]? with
 |none=>rw[z]at e;cases e
 |some w'=>
  rw[z]at e;cases e;obtain⟨v,h1,h2⟩:=q.get z;exact⟨v,by rw[h1];rfl,h2⟩
 rw[qw (by simpa using jB.mp hi)]at e;rw[List.getElem?_replicate]at e;split at e<;>cases e
end
theorem IQ{F:Nat->Option Fn}{k idx:Nat}{ws:List W}{h h':VH}{w:W}{fn:Fn}(hF:F idx=aC fn)(e:run F k idx ws h=.ok w h'):ws.length=fn.ps:=by
 cases k with
 |zero=>cases e
 |succ k=>
  simp only[run,hF]at e;split at e;rename_i hl;exact yS hl;cases e
theorem Px{P:ai}{w:ak}{K:aI}{mg:Str->Option aa}{base:aA}{F:Nat->Option Fn}{k idx:Nat}{fn:Fn}{x qual:Str}{st:au}{f:ah}{fd:av}{N ps:List Str}(hF:F idx=aC fn)(Fu:oU K x qual st f fd)(S:cP N ps (jb st))
 (hn:fn.n=N.length) (hp:fn.ps=ps.length)
 (hbody:∀(cdv:aa)(A:ao)(outer:List Env)(s:af)(H:Hp)(E:XK),cJ k (A.deeper (envOfC qual (jb st) s.heap.objs.size f cdv))->rV (jH lA P w K mg base N qual (jb st) f cdv A outer s H E).ye (Al st) (exs (run F k) fn.body)) :
 fC P w K mg base lA (k+1) f fd ps (oM K ps.length (run F (k+1) idx)):=by
 refine Fu.ok S (λvs H Q E h=>h.1) λcdv A outer s H vs Q E hr pX=>?_;refine⟨_,hbody cdv A outer s H E hr,?_⟩;obtain⟨hl,h,m,ws,w2,h2,r,q,e,k2⟩:=pX;have hws:=IQ hF e;simp only[run,hF]at e;split at e;refine bL e λfl h1 e1 e2=>?_;have g:=EN (EO F k) _ _ _ _ _ e1;have hN:fn.n-fn.ps=N.length-ws.length:=by rw[hn,hws]
 rw[hN]at e1;refine⟨_,⟨h.n,h.n,h.os⟩,m,fl,h1,Yg q,Pu r,e1,λH' m' s' r'=>?_⟩;cases fl with|nx ρ=>exact λσ' f'=>Pw r s' r' .aO g e2 k2|rt w3=>exact λv q3=>Pw r s' r' q3 g e2 k2|bk _=>cases e2|ct _=>cases e2
 cases e
theorem Py{P:ai}{w:ak}{K:aI}{mg:Str->Option aa}{base:aA}{F:Nat->Option Fn}{idx:Nat}{f:ah}{fd:av}{ps:List Str}:fC P w K mg base lA 0 f fd ps (oM K ps.length (run F 0 idx)):=
 ⟨λvs H Q E h=>h.1,λA outer s H args us vs Q E hr he hb hv hs=>by obtain⟨_,h,m,ws,w2,h2,r,q,e,k2⟩:=hs;cases e⟩
noncomputable def fV(K:aI)(x:Str):Option ah:=(match PySem.W.nsIn K mainGlobals x with|some (aC (.ref f))=>aC f|_=>aD)
theorem Pz{K:aI}{x:Str}{f:ah}(h:fV K x=aC f):PySem.W.nsIn K mainGlobals x=aC (aC (.ref f)):=by unfold fV at h;split at h;rename_i g e;cases h;exact e;cases h
end RF
namespace L2
open PySem PySem.Spec PyProof.Rows
theorem PB{a:Int}:∀(acc:List aa) (k:Nat),(∀(j:Nat) v,acc[j]?=aC v->∃t,v=.int (a+ ((k+j:Nat):Int)) t)->Vals ((List.range' k acc.length).map λ(i:Nat)=>V.int (a+ (i:Int))) acc
 |[],k,_=>.nil
 |u::r,k,h=>by
  rw[fB,List.range'_succ,gQ];refine .cons ?_ (PB r (k+1) λj v e=>?_);obtain⟨t,e⟩:=h 0 u rfl;exact⟨t,e⟩;obtain⟨t,e2⟩:=h (j+1) v (by rw[ve];exact e);exact⟨t,by rw[e2,show k+1+j=k+ (j+1) by lia]⟩
section
variable{X:Cx}
theorem Yh{a:aq}{ta:TA}{p p2 pos pos2:Pos}(hc:X.calm)(hg:Gl X "list")(hm:X.mg "list" = aD)(kY:Gl X "range")(hm2:X.mg "range" = aD)(ha:PA X [a] ta)(hs:autoParam (starEach [a] X.env=[(false,eval a X.env)]) L2.aR1._auto_1) :
 PE X (.Call (.Name "list" p) [.Call (.Name "range" p2) [a] [] pos2] [] pos) (λσ H Q=>ta σ H λvs H1=>∃j:Nat,vs=[.int j]/\j<=sizeLine/\∀l,H1 l=aD->Q (.ref l) (upd H1 l (.lst ((List.range' 0 j).map λ(i:Nat)=>V.int (0+ (i:Int)))))):=by
 intro pins s σ H Q I h;refine Call_ (qI I hg hm PyProof.Rows.boot_list (vp (Calls.spliced_cons ?_) rfl rfl));refine Call_ (qI I kY hm2 boot_range (vp (aU (ha pos2 pins s σ H _ I h) λus s1 z9=>z9.el λvs H1 I1 r1 q1=>?_) hs rfl));obtain⟨j,e,hj,q⟩:=q1;subst e;cases r1 with
 |cons r rr=>
  cases rr;obtain⟨t,rfl⟩:=r;refine call_range_1 (Calls.spliced_nil ?_);have hz:=vK;have h24:sizeLine<=2 ^ 24:=by decide
  refine call_list_range (n:=j) (I.ok.hd hc) (IsRange.new ..) (small_one (by lia) (by lia) (by lia) (by lia)) (by rw[rangeSize_one];split<;>lia) (by lia) λh' tk acc c hk hD hI=>?_;have I2:Inv X pins σ H1 {s1 with heap:=s1.heap.push {cls:=.type "range",data:=.fields #[.int 0 s1.toks,.int (j:Int) t,.int 1 (s1.toks+1)]},toks:=s1.toks+1+1}:=I1.kept λb o e=>ck _ e;have v:=PB (a:=0) acc.toList 0 λi v e=>by
   obtain⟨t,e2⟩:=hI.2 i v (by rw[<-e,vt]);exact⟨t,by rw[e2];congr 1⟩
  have hlen:acc.toList.length=j:=by rw[vv];exact hI.1
  rw[hlen]at v;refine⟨.ref _,_,I2.laid (t':=tk) hk (aQ _) (show aY X.prog X.w _ h' _ (.lst ((List.range' 0 j).map λ(i:Nat)=>V.int (0+ (i:Int))))from⟨by rw[bA,List.length_range'];exact hj,acc.toList,c,v,?_⟩),rfl,q _ (I2.hok.fresh (aQ _))⟩;exact hD
end
end L2
namespace RF
open PySem PySem.Spec PyProof.Rows L2
section
variable{X:Cx}{e:aq}{fa:FE}{p p2 pos pos2:Pos}
theorem PC{K:aI}{m:Nat->ah}{n:Nat}{H:Hp}:∀is:List Nat,aF K m n H (is.map λ(i:Nat)=>V.int (0+ (i:Int))) (is.map λ(i:Nat)=>W.int (0+ (i:Int)))|[]=>.nil|_::r=>.cons (.int _) (PC r)
theorem Yi(hc:X.calm)(hg:Gl X "list")(hm:X.mg "list" = aD)(kY:Gl X "range")(hm2:X.mg "range" = aD)(ha:SA X [e] fa)(hs:gW e) :
 SE X (.Call (.Name "list" p) [.Call (.Name "range" p2) [e] [] pos2] [] pos) (jk fa jT):=by
 refine(Yh hc hg hm kY hm2 ha (gE hs)).imp λσ H Q q=>wz (g:=jT) (G:=λvs H1 Q=>∃j:Nat,vs=[.int j]/\j<=sizeLine/\∀l,H1 l=aD->Q (.ref l) (upd H1 l (.lst ((List.range' 0 j).map λ(i:Nat)=>V.int (0+ (i:Int)))))) (λm h H vs xs w h' Q r q e k=>?_) q;unfold jT at e;split at e;rename_i i;split at e;rename_i hz;cases e;rw[bG,fL]at hz;obtain⟨v,rfl,q1⟩:=dI q;cases q1;refine⟨i.toNat,by rw[Int.toNat_of_nonneg hz.1],j8 hz.2,λl hl=>?_⟩;exact aM.list k r (PC _) hl;cases e;cases e
end
end RF
namespace L2
open PySem PySem.Spec PyProof.Rows PySem.W TS KO LX
section
variable{prog:ai}{w:ak}{A:ao}{E:aa->af->Prop}{s:af}{l:ah}{vs:List aa}
noncomputable def TupAt(h:aA)(t:ah×List Int):Prop:=∃o n its,h.get? t.1=aC o/\o.cls=.type "tuple"/\o.data=.seq (List.toArray its) n/\Vals (t.2.map V.int) its
theorem TupAt.ne{h:aA}{t:ah×List Int}{a:ah}{xs:Array aa}{n:Nat}(p:TupAt h t)(g:h.get? a=aC (seqObj "list" xs n)):t.1≠a:=λe=>by
 obtain⟨o,_,_,e1,e2,_⟩:=p;rw[e,g]at e1;cases e1;exact absurd (Value.type.inj e2) (by decide)
theorem PD{Q:Bool->af->Prop}:∀{ks ls:List Int} {xs ys:List aa} {i:Nat},Vals (ks.map V.int) xs->Vals (ls.map V.int) ys->ks.length=ls.length->Q (bP ks ls) s->KatLex prog w A true false Q (xs.zip ys) i s
 |[],[],_,_,_,.nil,.nil,_,h=>kat_nil h
 |k::ks,l::ls,_,_,i,.cons ⟨t,e⟩ r,.cons ⟨t',e'⟩ r',hl,h=>by
  subst e e';rw[pT];refine kat_cons (wpAny_eqBool_int ?_);unfold bP at h;by_cases z:k=l;rw[show(k==l)=true by simpa using z];rw[if_pos z]at h;exact kat_yes (PD r r' (by simpa using hl) h);rw[show(k==l)=false by simpa using z];rw[if_neg z]at h;refine kat_no ?_;cases i with
  |zero=>exact oneLt_int h
  |succ i=>
   rw[show(true&&i+1==0)=false by simp];exact kat_one _ _ (lt_int h)
theorem PF{h:aA}{m:Nat}:∀{ts:List (ah×List Int)},(∀t∈ts,TupAt h t)->(∀t∈ts,t.2.length=m+1)->∃fs,KatTups h (ts.map λt=>Value.ref t.1) fs/\fs.length=ts.length/\∀v∈fs,∃i t,v=.int i t
 |[],_,_=>⟨[],trivial,rfl,λv h=>nomatch h⟩
 |t::ts,g,hm=>by
  obtain⟨fs,a,b,c⟩:=PF (λx hx=>g x (dU _ hx)) λx hx=>hm x (dU _ hx);obtain⟨o,n,its,e1,e2,e3,e4⟩:=g t (fM ..);have hl:=hm t (fM ..);match h1:t.2,hl,e4 with
  |k::ks,hl,e4=>
   cases e4 with
   |cons x r=>
    obtain⟨tk,rfl⟩:=x;refine⟨.int k tk::fs,KatTups.cons e1 e2 e3 rfl a,by rw[fB,fB,b],λv hv=>?_⟩;rcases gy.mp hv with hv|hv;exact⟨_,_,hv⟩;exact c v hv
noncomputable abbrev dA:ah×List Int:=(0,[])
theorem back{α:Type}(d:α)(ts:List α):(List.range ts.length).map (λi=>ts.getD i d)=ts:=by refine List.ext_getElem (by simp) λi h1 h2=>?_;simp[h2]
theorem Yj{a:ah}{n m:Nat}{ts:List (ah×List Int)}{P:PySem.Fin->af->Prop}(ho:s.heap.get? a=aC (seqObj "list" (ts.map λt=>Value.ref t.1).toArray n))(hz:ts.length<=sizeLine)(h2:¬ts.length<2)
 (hm:∀t∈ts,t.2.length=m+1) (nd:(ts.map (·.2)).Nodup) (ta:∀t∈ts,TupAt s.heap t)
 (h:∀us:List (ah×List Int),us.Perm ts->us.Pairwise (λx y=>bP x.2 y.2=true)->P (.done (.ret .none)) {s with heap:=sortedHeap s.heap a (ts.map λt=>Value.ref t.1) (us.map λt=>Value.ref t.1).toArray}) :
 wpAny (model prog w) A (Builtin.«list.sort» ⟨[.ref a],[]⟩) P E s:=by
 rw[list_sort_plain];have ha:a<s.heap.objs.size:=cD ho;have hl:(ts.map λt=>Value.ref t.1).length<=sizeLine:=by rw[bA];exact hz
 refine aL (listItems_at ho rfl ?_);refine aL (Dw ho rfl ?_ (by rw[cC];exact hl) (gh _));obtain⟨e1,BY⟩:∃e1,(s.heap.update a (Obj.mapSeq λ_=>#[])).get? a=aC (seqObj "list" #[] e1):=⟨_,get?_update_seq ho (λ_=>#[])⟩
 refine aL (Dy BY rfl ?_);refine aL (wpAny_newTuple ?_ (by show(ts.map λt=>Value.ref t.1).length<=_;exact hl));refine aL (wpAny_newList ?_ (gh _));refine nF ?_;have ho6:(((s.heap.update a (Obj.mapSeq λ_=>#[])).push (seqObj "tuple" (ts.map λt=>Value.ref t.1).toArray 0)).push (seqObj "list" #[] 0)).get? a=aC (seqObj "list" #[] e1):=ck _ (ck _ BY);have IS:∀t∈ts,TupAt (((s.heap.update a (Obj.mapSeq λ_=>#[])).push (seqObj "tuple" (ts.map λt=>Value.ref t.1).toArray 0)).push (seqObj "list" #[] 0)) t:=λt ht=>by
  have ne:=(ta t ht).ne ho;obtain⟨o,n,its,g,r⟩:=ta t ht;exact⟨o,n,its,ck _ (ck _ (by rw[Heap.get?_update_ne _ _ _ _ ne];exact g)),r⟩
 show wpAny (model prog w) A _ P E {s with heap:=((s.heap.update a (Obj.mapSeq λ_=>#[])).push (seqObj "tuple" (ts.map λt=>Value.ref t.1).toArray 0)).push (seqObj "list" #[] 0)};dsimp only;have hs:¬(ts.map λt=>Value.ref t.1).toArray.size<2:=by rw[cC,bA];exact h2
 rw[if_neg hs,if_neg hs];obtain⟨fs,f1,f2,f3⟩:=PF (m:=m) IS hm;refine aL (kat_kind (T:=.type "int") f1 (by lia) (λv hv=>?_) rfl ?_);obtain⟨i,t,rfl⟩:=f3 v hv;exact Looks.of_pure rfl;have hk:∀k∈ts.map (·.2),k.length=m+1:=λk hk=>by
  obtain⟨t,ht,rfl⟩:=jv.mp hk;exact hm t ht
 have gk:∀i,i<ts.length->(ts.map (·.2)).getD i []=(ts.getD i dA).2:=λi hi=>by simp[hi]
 have gv:∀i,i<ts.length->(ts.map λt=>Value.ref t.1).getD i Value.none=.ref (ts.getD i dA).1:=λi hi=>by simp[hi]
 have gm:∀i,i<ts.length->ts.getD i dA∈ts:=λi hi=>by simp[hi]
 have c:Cp prog w A {s with heap:=((s.heap.update a (Obj.mapSeq λ_=>#[])).push (seqObj "tuple" (ts.map λt=>Value.ref t.1).toArray 0)).push (seqObj "list" #[] 0)} (tuples' true)
  (λi=>((ts.map λt=>Value.ref t.1).getD i Value.none,(ts.map λt=>Value.ref t.1).getD i Value.none)) (rk (ts.map (·.2))) ts.length:=by
  refine⟨λi j C hi hj hC=>?_,λi j hi hj e=>V1 hk nd (by rw[bA];exact hi) (by rw[bA];exact hj) e⟩;obtain⟨o,n,its,g1,_,g2,g3⟩:=IS _ (gm i hi);obtain⟨o',n',its',Yk,_,Yl,PJ⟩:=IS _ (gm j hj);have sz:its.length=its'.length:=by have:=g3.length;have:=PJ.length;rw[bA]at *;rw[hm _ (gm i hi)]at *;rw[hm _ (gm j hj)]at *;lia
  dsimp only;rw[gv i hi,gv j hj];refine kat_lt g1 g2 Yk Yl ?_;rw[show decide (its.toArray.size<its'.toArray.size)=false from iE (by rw[cC,cC];lia)];refine PD g3 PJ (by rw[hm _ (gm i hi),hm _ (gm j hj)]) ?_;rw[Ov hk nd (by rw[bA];exact hi) (by rw[bA];exact hj),gk i hi,gk j hj]at hC;exact hC
 have P0:Pm ts.length (List.range ts.length).toArray:=⟨by simp,λx hx=>by simpa using hx,by simpa using List.nodup_range⟩
 have ez:(ts.map λt=>Value.ref t.1).toArray.zip (ts.map λt=>Value.ref t.1).toArray=(List.range ts.length).toArray.map λi=>((ts.map λt=>Value.ref t.1).getD i Value.none,(ts.map λt=>Value.ref t.1).getD i Value.none):=by apply Array.ext;simp;intro i h1 h2;simp at h1 h2;simp[h1]
 rw[ez];refine aL (gf (V0 (E:=λ_ _=>False) c P0 (by lia) (Q:=λ_ st=>∃q pd g,st=TS.St (tuples' true) (λi=>((ts.map λt=>Value.ref t.1).getD i Value.none,(ts.map λt=>Value.ref t.1).getD i Value.none)) q pd g/\q.Perm (List.range ts.length).toArray/\Ri (rk (ts.map (·.2))) q 0 ts.length) λq pd g e u=>⟨q,pd,g,rfl,e,u⟩) ?_ λ_ _ e=>e.elim);rintro⟨⟨⟩,st⟩ s' ⟨rfl,q,pd,g,rfl,hq,u⟩;dsimp only;have pl:q.toList.Perm (List.range ts.length):=by simpa using Array.perm_iff_toList_perm.mp hq
 have hb:∀i∈q.toList,i<ts.length:=λi hi=>tU.mp (pl.mem_iff.mp hi);have zq:q.size=ts.length:=by rw[hq.size_eq];simp
 have pu:(q.toList.map λi=>ts.getD i dA).Perm ts:=by have:=pl.map λi=>ts.getD i dA;rw[back]at this;exact this
 have ou:(arrOf (TS.St (tuples' true) (λi=>((ts.map λt=>Value.ref t.1).getD i Value.none,(ts.map λt=>Value.ref t.1).getD i Value.none)) q pd g)).map (·.2)=((q.toList.map λi=>ts.getD i dA).map λt=>Value.ref t.1).toArray:=by show(q.map _).map _=_;rw[Array.map_map];apply Array.ext';rw[Array.toList_map,xR];refine List.map_congr_left λi hi=>?_;show(ts.map λt=>Value.ref t.1).getD i Value.none=_;rw[gv i (hb i hi)];rfl
 refine aL (Dy ho6 rfl ?_);rw[ou];refine aL (Dw ho6 rfl ?_ (gh _) (by rw[cC,bA,pu.length_eq];first|exact hz|exact yU hz));show wpAny _ _ _ _ _ _;rw[show failedOf (TS.St (tuples' true) (λi=>((ts.map λt=>Value.ref t.1).getD i Value.none,(ts.map λt=>Value.ref t.1).getD i Value.none)) q pd g)=aD from rfl];simp only[bne_self_eq_false,dS,dB];refine bz (h _ pu ?_);rw[List.pairwise_map,vc];intro i j hi hj hij;have hi':i<q.size:=by simpa using hi
 have hj':j<q.size:=by simpa using hj
 have b1:=hb q[i] (by simp);have b2:=hb q[j] (by simp);have x:=u i j (gh _) (tM hij) (by lia);unfold J at x;rw[pV hi',pV hj',zk,zk]at x;have ne:rk (ts.map (·.2)) q[i]≠rk (ts.map (·.2)) q[j]:=λe=>by
  have e:=c.inj _ _ b1 b2 e;exact vc.mp (P0.perm hq).nd i j hi hj hij (by simpa using e)
 have y:=Ov hk nd (i:=q[i]) (j:=q[j]) (by rw[bA];exact b1) (by rw[bA];exact b2);rw[kE (by lia),gk _ b1,gk _ b2]at y;simpa using y.symm
end
end L2
namespace L2
open PySem PySem.Spec PyProof.Rows PySem.W LX
section
variable{prog:ai}{w:ak}{A:ao}{E:aa->af->Prop}{s:af}{l:ah}{vs:List aa}
noncomputable def h1(h:aA)(vs:List aa):aA:=((h.push (seqObj "list" #[] 0)).update h.objs.size (Obj.mapSeq (· ++ vs.toArray))).push (seqObj "list" vs.toArray 0)
theorem IT{h:aA}:((h.push (seqObj "list" #[] 0)).update h.objs.size (Obj.mapSeq (· ++ vs.toArray))).objs.size=h.objs.size+1:=by rw[Heap.size_update,size_push']
theorem oV{h:aA}:(h1 h vs).get? (h.objs.size+1)=aC (seqObj "list" vs.toArray 0):=by unfold h1;rw[<-IT (vs:=vs)];exact iF _ rfl
theorem Ym{h:aA}{b:ah}{o:Obj}(q:h.get? b=aC o):(h1 h vs).get? b=aC o:=by have hlt:b<h.objs.size:=cD q;unfold h1;rw[Heap.get?_push_ne _ _ _ (by rw[IT];exact fP (qq hlt)),Heap.get?_update_ne _ _ _ _ (fP hlt),Heap.get?_push_ne _ _ _ (fP hlt)];exact q
theorem PK{h:aA}{out:Array aa}:sortedHeap (h1 h vs) (h.objs.size+1) vs out=sortedAll h vs out:=by unfold sortedAll h1;rfl
theorem Yn{Q:aa->af->Prop}(hl:s.heap.IsList l vs.toArray)(hz:vs.length<=sizeLine)
 (h:∀P:PySem.Fin->af->Prop,(∀s',Q (.ref (s.heap.objs.size+1)) s'->P (.done (.ret .none)) s')->wpAny (model prog w) A.in1.in1 (Builtin.«list.sort» ⟨[.ref (s.heap.objs.size+1)],[]⟩) P E {s with heap:=h1 s.heap vs}) :
 wpAny (model prog w) A (call (.builtin "sorted") [.ref l]) Q E s:=by
 refine Calls.call_function_entry kind_sorted plain_sorted entry_sorted (args_sorted1 _) ?_;unfold Builtin.«sorted»;refine aL (m:=checkCount "sorted" 1 1 _) (bz ?_);refine aL (collect_list hl ?_ hz);refine aL (wpAny_newList ?_ hz);show wpAny _ _ _ _ _ {s with heap:=h1 s.heap vs};rw[IT];refine aL (nF (u7 slot_list_sort ⟨_,oV,rfl⟩ entry_list_sort (h _ λs' q=>?_) (args_list_sort _)));exact⟨_,rfl,bz ⟨_,rfl,q⟩⟩
theorem Yo{a:ah}{n:Nat}{P:PySem.Fin->af->Prop}(ho:s.heap.get? a=aC (seqObj "list" vs.toArray n))(h2:vs.length<2)(h:P (.done (.ret .none)) {s with heap:=sortedHeap s.heap a vs vs.toArray}) :
 wpAny (model prog w) A (Builtin.«list.sort» ⟨[.ref a],[]⟩) P E s:=by
 rw[list_sort_plain];have ha:a<s.heap.objs.size:=cD ho;have hl:(vs.length:Nat)<=sizeLine:=by rw[yR];lia
 refine aL (listItems_at ho rfl ?_);refine aL (Dw ho rfl ?_ (by rw[cC];exact hl) (gh _));obtain⟨e1,BY⟩:∃e1,(s.heap.update a (Obj.mapSeq λ_=>#[])).get? a=aC (seqObj "list" #[] e1):=⟨_,get?_update_seq ho (λ_=>#[])⟩
 refine aL (Dy BY rfl ?_);refine aL (wpAny_newTuple ?_ (by show vs.length<=_;exact hl));refine aL (wpAny_newList ?_ (gh _));refine nF ?_;have ho6:(((s.heap.update a (Obj.mapSeq λ_=>#[])).push (seqObj "tuple" vs.toArray 0)).push (seqObj "list" #[] 0)).get? a=aC (seqObj "list" #[] e1):=ck _ (ck _ BY);show wpAny (model prog w) A _ P E {s with heap:=((s.heap.update a (Obj.mapSeq λ_=>#[])).push (seqObj "tuple" vs.toArray 0)).push (seqObj "list" #[] 0)};dsimp only;have hs:vs.toArray.size<2:=by rw[cC];exact h2
 have hm:(arrOf (SortSt.mk' general' (vs.toArray.zip vs.toArray) #[] 7 aD)).map (·.2)=vs.toArray:=by show(vs.toArray.zip vs.toArray).map (·.2)=vs.toArray;simp only[List.zip_toArray,List.map_toArray];exact kF _ (List.map_snd_zip (aQ _))
 rw[if_pos hs,if_pos hs];refine aL (bz ?_);rw[StateT.run_pure];refine aL (bz ?_);dsimp only;refine aL (Dy ho6 rfl ?_);rw[hm];refine aL (Dw ho6 rfl ?_ (gh _) (by rw[cC];first|exact hl|exact yU hl));simp only[bne_self_eq_false,dS,dB];exact bz h
end
section
variable{X:Cx}
theorem Yp{ts:List (ah×List Int)}{vs:List aa}(r:Vals (ts.map λt=>V.ref t.1) vs):vs=ts.map λt=>Value.ref t.1:=by
 induction ts generalizing vs with
 |nil=>cases r;rfl
 |cons t ts ih=>
  cases r with
  |cons a b=>
   cases a;rw[ih b];rfl
theorem Yq{ts:List (ah×List Int)}:Vals (ts.map λt=>V.ref t.1) (ts.map λt=>Value.ref t.1):=by
 induction ts with|nil=>exact .nil|cons t ts ih=>exact .cons rfl ih
theorem Yr{pins:List (ah×Obj)}{σ:St}{H:Hp}{s:af}{t:ah×List Int}(I:Inv X pins σ H s)(h:bW X.K H t.1 (t.2.map V.int)):TupAt s.heap t:=by obtain⟨its,rv,pt,_⟩:=I.tuple h;obtain⟨o,a,b,n,d⟩:=pt;exact⟨o,n,its,a,b,d,rv⟩
theorem Ys{α:Type}{R:α->α->Prop}:∀{ts:List α},ts.length<2->ts.Pairwise R|[],_=>.nil|[_],_=>List.pairwise_singleton ..|_::_::_,h=>absurd h (by simp)
theorem Yt:bR X (.builtin "sorted") (λxs H Q=>∃(p:ah) (m:Nat) (ts:List (ah×List Int)),xs=[.ref p]/\cz X.K H p (ts.map λt=>V.ref t.1)/\(∀t∈ts,bW X.K H t.1 (t.2.map V.int))/\(2<=ts.length->∀t∈ts,t.2.length=m+1)/\(ts.map (·.2)).Nodup/\
 ∀(l:ah)(us:List (ah×List Int)),H l=aD->us.Perm ts->us.Pairwise (λa b=>bP a.2 b.2=true)->Q (.ref l) (upd H l (.lst (us.map λt=>V.ref t.1)))):=by
 intro pins s σ H xs us Q I r h;obtain⟨p,m,ts,rfl,hq,hT,hm,nd,q⟩:=h;obtain⟨u,rfl,ru⟩:=vals1 r;cases ru;obtain⟨its,rv,pl,hz⟩:=I.list hq;have hL:s.heap.IsList p its.toArray:=pl.isList;have e:=Yp rv;subst e;rw[bA]at hz;have fin:∀us:List (ah×List Int),us.Perm ts->us.Pairwise (λa b=>bP a.2 b.2=true)->∃v H',Inv X pins σ H' {s with heap:=sortedAll s.heap (ts.map λt=>Value.ref t.1) (us.map λt=>Value.ref t.1).toArray}/\RelV v (.ref (s.heap.objs.size+1))/\Q v H':=λus pu pw=>by
  obtain⟨e,he⟩:=sortedAll_at s.heap (ts.map λt=>Value.ref t.1) (us.map λt=>Value.ref t.1).toArray;exact⟨.ref _,_,I.laid (t':=s.toks) (λb o z=>sortedAll_old z) (tN _) (show aY X.prog X.w _ _ _ (.lst (us.map λt=>V.ref t.1))from⟨by rw[bA,pu.length_eq];exact hz,_,e,Yq,he⟩),rfl,q _ us (I.hok.fresh (tN _)) pu pw⟩
 refine Yn hL (by rw[bA];exact hz) λP hP=>?_;by_cases h2:ts.length<2;refine Yo oV (by rw[bA];exact h2) (hP _ ?_)
 dsimp only;rw[PK];exact fin ts (qz _) (Ys h2);refine Yj oV hz h2 (hm (by lia)) nd (λt ht=>?_) λus pu pw=>hP _ ?_;obtain⟨o,n,its,g,r⟩:=Yr I (hT t ht);exact⟨o,n,its,Ym g,r⟩;dsimp only;rw[PK];exact fin us pu pw
end
end L2
namespace RF
open PySem PySem.Spec PyProof.Rows L2 LX
theorem IU(x:List Int):∀l:List (List Int),(mQ x l).Perm (x::l)
 |[]=>qz _
 |y::r=>by
  unfold mQ;split;exact qz _;exact((IU x r).cons y).trans (List.Perm.swap ..)
theorem yu:∀l:List (List Int),(jU l).Perm l|[]=>qz _|x::r=>(IU x _).trans ((yu r).cons x)
theorem PL{m:Nat}(x:List Int)(hx:x.length=m):∀{l:List (List Int)},(∀k∈l,k.length=m)->x∉l->l.Pairwise (λa b=>bP a b=true)->(mQ x l).Pairwise λa b=>bP a b=true
 |[],_,_,_=>List.pairwise_singleton ..
 |y::r,hl,hn,h=>by
  obtain⟨h1,h2⟩:=List.pairwise_cons.mp h;have ly:=hl y (fM ..);have lr:∀k∈r,k.length=m:=λk hk=>hl k (dU _ hk);unfold mQ;split;rename_i z;refine List.pairwise_cons.mpr ⟨λa ha=>?_,h⟩;rcases gy.mp ha with e|ha;rw[e];exact z;exact EC (by rw[hx,ly]) (by rw[ly,lr a ha]) z (h1 a ha);rename_i z;have ne:x≠y:=λe=>hn (by rw[e];exact fM ..);have z':bP y x=true:=(ED (by rw[hx,ly]) ne).resolve_left z;refine List.pairwise_cons.mpr ⟨λa ha=>?_,PL x hx lr (λq=>hn (dU _ q)) h2⟩;rcases gy.mp ((IU x r).mem_iff.mp ha)with e|ha;rw[e];exact z';exact h1 a ha
theorem PN{m:Nat}:∀l:List (List Int),(∀k∈l,k.length=m)->l.Nodup->(jU l).Pairwise λa b=>bP a b=true
 |[],_,_=>.nil
 |x::r,hl,nd=>by
  have nd:=vh.mp nd;have p:=yu r;exact PL x (hl x (fM ..)) (λk hk=>hl k (dU _ (p.mem_iff.mp hk))) (λq=>nd.1 (p.mem_iff.mp q)) (PN r (λk hk=>hl k (dU _ hk)) nd.2)
theorem Yu{a b:List Int}(e:a.length=b.length)(h1:bP a b)(h2:bP b a):False:=by have:=EC e e.symm h1 h2;rw[Ih]at this;cases this
theorem Yv{l m:List (List Int)}(e:∀a∈l,∀b∈l,a.length=b.length)(u:(jU l).Pairwise λa b=>bP a b)(p:m.Perm l)(h:m.Pairwise λa b=>bP a b):m=jU l:=
 List.Perm.eq_of_pairwise (λa b ha hb x y=>(Yu (e a (p.mem_iff.mp ha) b ((yu l).mem_iff.mp hb)) x y).elim) h u (p.trans (yu l).symm)
section
variable{K:aI}{m:Nat->ah}{n:Nat}{H:Hp}
theorem PR:∀{vs:List V} {ws:List W} {is:List Int},aF K m n H vs ws->aT iZ ws=aC is->vs=is.map .int
 |_,_,_,.nil,e=>by cases e;rfl
 |_,_,_,.cons (w:=w) (ws:=ws) q r,e=>by
  unfold aT at e;cases z:iZ w with
  |none=>rw[z]at e;cases e
  |some b=>
   rw[z]at e;cases z2:aT iZ ws with
   |none=>rw[z2]at e;cases e
   |some cs=>
    rw[z2]at e;cases e;unfold iZ at z;split at z<;>cases z;cases q;rw[PR r z2];rfl
theorem PU:∀is:List Int,aF K m n H (is.map .int) (is.map .int)|[]=>.nil|i::r=>.cons (.int i) (PU r)
theorem uz:∀{vs:List V} {ws:List W} {ks:List (List Int)},aF K m n H vs ws->aT kW ws=aC ks->∃ts:List (ah×List Int),vs=ts.map (λt=>V.ref t.1)/\ts.map (·.2)=ks/\∀t∈ts,bW K H t.1 (t.2.map .int)
 |_,_,_,.nil,e=>by cases e;exact⟨[],rfl,rfl,λt h=>nomatch h⟩
 |_,_,_,.cons (w:=w) (ws:=ws) q r,e=>by
  unfold aT at e;cases z:kW w with
  |none=>rw[z]at e;cases e
  |some b=>
   rw[z]at e;cases z2:aT kW ws with
   |none=>rw[z2]at e;cases e
   |some cs=>
    rw[z2]at e;cases e;unfold kW at z;split at z<;>try cases z
    obtain⟨ts,e1,e2,e3⟩:=uz r z2;cases q with
    |tup s1 s2=>
     have:=PR s2 z;subst this;refine⟨(_,b)::ts,by rw[e1];rfl,kF (b :: ·) e2,λt ht=>?_⟩;rcases gy.mp ht with e|ht
     rw[e];exact s1;exact e3 t ht
theorem PV:∀ts:List (ah×List Int),(∀t∈ts,bW K H t.1 (t.2.map .int))->aF K m n H (ts.map λt=>V.ref t.1) ((ts.map (·.2)).map λk=>.tup (k.map .int))|[],_=>.nil|t::r,h=>.cons (.tup (h t (fM ..)) (PU _)) (PV r λx hx=>h x (dU _ hx))
end
noncomputable def IV(K:aI):List V->Hp->VK->Prop:=λxs H Q=>∃(p:ah) (m:Nat) (ts:List (ah×List Int)),xs=[.ref p]/\cz K H p (ts.map λt=>V.ref t.1)/\(∀t∈ts,bW K H t.1 (t.2.map V.int))/\(2<=ts.length->∀t∈ts,t.2.length=m+1)/\(ts.map (·.2)).Nodup/\
 ∀(l:ah)(us:List (ah×List Int)),H l=aD->us.Perm ts->us.Pairwise (λa b=>bP a.2 b.2=true)->Q (.ref l) (upd H l (.lst (us.map λt=>V.ref t.1)))
theorem Yw:∀{ks:List (List Int)},oH ks=true->∃m,(2<=ks.length->∀k∈ks,k.length=m+1)/\∃m',∀k∈ks,k.length=m'
 |[],_=>⟨0,λh=>absurd h (by simp),0,λk h=>nomatch h⟩
 |[k],_=>⟨0,λh=>absurd h (by simp),k.length,λq hq=>by rw[pS.mp hq]⟩
 |k::k2::r,h=>by
  unfold oH at h;rw[bG]at h;have h1:=j8 h.1;have h2:∀q∈k::k2::r,q.length=k.length:=λq hq=>yS (nv.mp h.2 q hq);exact⟨k.length-1,λ_ q hq=>by rw[h2 q hq];lia,k.length,h2⟩
theorem Yx{K:aI}:dZ K (IV K) mR:=by
 intro m h H vs xs w h' Q r q e k;unfold mR at e;split at e<;>try cases e
 rename_i i;split at e<;>try cases e
 rename_i ws g;obtain⟨v,rfl,q1⟩:=dI q;cases z:aT kW ws with
 |none=>rw[z]at e;cases e
 |some ks=>
  rw[z]at e;dsimp only at e;split at e<;>cases e;rename_i z2;rw[bG,fL]at z2;obtain⟨nd,hl⟩:=z2;cases q1;obtain⟨us,p1,p2⟩:=r.lst g;obtain⟨ts,e1,e2,e3⟩:=uz p2 z;subst e1 e2;obtain⟨m1,l1,m2,l2⟩:=Yw hl;refine⟨_,m1,ts,rfl,.inl (.inl p1),e3,λh2 t ht=>l1 (by rw[bA];exact h2) _ (List.mem_map_of_mem ht),nd,λl us hl hp hu=>?_⟩;have hm:us.map (·.2)=jU (ts.map (·.2)):=Yv (λa ha b hb=>by rw[l2 a ha,l2 b hb]) (PN _ l2 nd) (hp.map _) (List.pairwise_map.mpr hu);rw[<-hm]at k;exact aM.list k r (PV us λt ht=>e3 t (hp.mem_iff.mp ht)) hl
end RF
namespace L2
open PySem PySem.Spec PyProof.Rows
section
variable{X:Cx}
theorem Yy(hc:X.calm):bR X (.builtin "max") (λxs H Q=>∃(p:ah) (ns:List Int),xs=[.ref p]/\cz X.K H p (ns.map .int)/\0<ns.length/\∀M,M∈ns->(∀a∈ns,a<=M)->Q (.int M) H):=by
 intro pins s σ H xs us Q I r h;obtain⟨p,ns,rfl,hq,hne,q⟩:=h;obtain⟨u,rfl,ru⟩:=vals1 r;cases ru;obtain⟨its,rv,pl,hz⟩:=I.list hq;have hL:s.heap.IsList p its.toArray:=pl.isList;have hi:=NT rv;obtain⟨ys,hx⟩:=hi.allInts.items;have hl':s.heap.IsList p (intItems ys):=hx▸hL;have hns:ns=ys.toList.map (·.1):=by rw[<-nums_intItems,<-hx];exact(show numsOf its.toArray.toList=ns from hi.numsOf).symm
 have hsz:0<ys.size:=by rw[hns,bA,vv]at hne;exact hne
 refine max_intList (I.ok.hd hc) hl' hsz λv h' tk hv hk=>?_;obtain⟨t,rfl⟩:=intItems_at hv;obtain⟨h1,h2⟩:=argBest_gt (numAt ys) (ys.size-1);refine⟨.int _,H,I.kept (t':=tk) hk,⟨_,rfl⟩,q _ ?_ λa ha=>?_⟩;rw[hns,numAt_eq];exact getD_mem (by rw[bA,vv];lia);rw[hns]at ha;obtain⟨j,hj,rfl⟩:=mem_getD ha;rw[bA,vv]at hj;rw[<-numAt_eq];exact h2 j (by lia)
end
end L2
namespace RF
open PySem PySem.Spec PyProof.Rows L2
section
variable{K:aI}{m:Nat->ah}{h:VH}{H:Hp}
theorem aM.BZ{Q:VK}(k:aM K m h.n H (.ref h.n) (h.new (.dm [])) Q)(r:Rel K m h H){p:ah}(hp:H p=aD):Q (.ref p) (upd H p (.dK [])):=by obtain⟨st,r'⟩:=r.alloc (o:=.dm []) (u:=.dK []) hp (λ_ z=>nomatch z) (λst=>⟨[],ie,.nil⟩);refine k _ _ _ st r' ?_;have:aK K (λi=>if i=h.n then p else m i) (h.n+1) (upd H p (.dK [])) (.ref ((λi=>if i=h.n then p else m i) h.n)) (.ref h.n):=.ref (jA _);simp only[b9]at this;exact this
end
section
variable{X:Cx}{e o a k:aq}{lo:Option aq}{fa fo:FE}{pos p2:Pos}
theorem Yz:SE X (.Dict [] [] pos) (jk rR wo):=UL.imp λσ H Q z9 p hp=>z9.el λρ h m w h' f r e k=>by
 cases e;exact aM.BZ k r hp
end
set_option genInjectivity false in
structure CC where
 N:List Str
 names:List (Str×NameKind)
 uA:Bool
noncomputable def se:List Str->Str->Nat->Option Nat|[],_,_=>aD|y::r,x,i=>if y==x then aC i else se r x (i+1)
theorem PX:∀{N:List Str} {x:Str} {k i:Nat},se N x k=aC i->∃j,i=k+j/\N[j]?=aC x
 |[],_,_,_,e=>by cases e
 |y::r,x,k,i,e=>by
  unfold se at e;split at e;rename_i h;cases e;exact⟨0,rfl,by simpa using h⟩;obtain⟨j,h1,h2⟩:=PX e;exact⟨j+1,by lia,by simpa using h2⟩
theorem IW{N:List Str}{x:Str}{i:Nat}(e:se N x 0=aC i):N[i]?=aC x:=by obtain⟨j,h1,h2⟩:=PX e;rw[show i=j by lia];exact h2
noncomputable def sf:Option NameKind->Bool|some .local|some .cell|some .free=>true|_=>false
noncomputable def sj(all:Bool):Option NameKind->Bool|some .local=>true|some .cell=>all|_=>false
noncomputable def okN(x:Str):Bool:=!(x==("__debug__" : Str)) && !(x==("__classdict__" : Str)) && !(x==("__name__" : Str)) && !(x==("" : Str))
theorem YA{x:Str}(h:okN x):x≠"":=by unfold okN at h;simp only[bG,tP]at h;exact λz=>by rw[z]at h;simp at h
theorem yw{x:Str}(h:okN x):(x==("__debug__" : Str))=false/\(x==("__classdict__" : Str))=false/\x≠"__name__":=by unfold okN at h;simp only[bG,tP]at h;exact⟨h.1.1.1,h.1.1.2,λz=>by rw[z]at h;simp at h⟩
noncomputable def oW(K:aI):Nat->aa->Option W
 |0,_=>aD
 |n+1,v=>match v with
  |.none=>aC .aO
  |.bool b=>aC (.bl b)
  |.int i _=>aC (.int i)
  |.str x _=>aC (.str x)
  |.ref a=>(match K.lookup a with
   |some o=>(match o.cls,o.dict,o.data with
    |.type t,aD,.seq its _=>if t == "tuple" && Nat.ble its.size 1000 then(aT (oW K n) its.toList).map .tup else aD
    |_,_,_=>aD)
   |none=>aD)
  |_=>aD
theorem PY{K:aI}{f:aa->Option W}(ih:∀v w,f v=aC w->∃x,RelV x v/\∀m n H,aK K m n H x w):∀{us:List aa} {ws:List W},aT f us=aC ws->∃xs,Vals xs us/\∀m n H,aF K m n H xs ws
 |[],_,e=>by cases e;exact⟨[],.nil,λ_ _ _=>.nil⟩
 |u::us,ws,e=>by
  unfold aT at e;split at e;rename_i b hb;split at e;rename_i bs B0;cases e;obtain⟨x,h1,h2⟩:=ih u b hb;obtain⟨xs,h3,h4⟩:=PY ih B0;exact⟨x::xs,.cons h1 h3,λm n H=>.cons (h2 m n H) (h4 m n H)⟩;cases e;cases e
theorem PZ{K:aI}:∀(n:Nat) (v:aa) (w:W),oW K n v=aC w->∃x,RelV x v/\∀m n H,aK K m n H x w
 |0,_,_,e=>by cases e
 |n+1,v,w,e=>by
  unfold oW at e;split at e;cases e;exact⟨.aO,rfl,λ_ _ _=>.aO⟩;cases e;exact⟨.bl _,rfl,λ_ _ _=>.bl _⟩;cases e;exact⟨.int _,⟨_,rfl⟩,λ_ _ _=>.int _⟩;cases e;exact⟨.str _,⟨_,rfl⟩,λ_ _ _=>.str _⟩;rename_i a;split at e;rename_i o ho;split at e;rename_i t its nn hc YB hd;split at e;rename_i hz;rw[bG]at hz;have ht:t = "tuple":=by simpa using hz.1
  subst ht;cases z:aT (oW K n) its.toList with
  |none=>rw[z]at e;cases e
  |some ws=>
   rw[z]at e;cases e;obtain⟨xs,h3,h4⟩:=PY (PZ n) z;exact⟨.ref a,rfl,λm n H=>.tup (.inr ⟨o,its,nn,ho,hc,YB,hd,tM (Ng (j8 hz.2)),h3⟩) (h4 m n H)⟩
  cases e;cases e;cases e;cases e
noncomputable def cL(f:aq->Option E):List aq->Option E
 |[]=>aC .nil
 |e::es=>match f e,cL f es with
  |some a,aC r=>aC (.cons a r)
  |_,_=>aD
noncomputable def fnAt(K:aI)(x:Str):Option (ah×Obj×av):=match fV K x with
 |some f=>(match K.lookup f with
  |some o=>(match o.data with
   |.func fd=>aC (f,o,fd)
   |_=>aD)
  |none=>aD)
 |none=>aD
noncomputable def wJ:Arguments->Option (List Arg)|⟨[],args,aD,[],[],aD,_⟩=>aC args|_=>aD
noncomputable def isNone:aa->Bool|.none=>true|_=>false
noncomputable def ET:Data->Bool
 |.seq xs _=>(match xs.toList with
  |[v]=>isNone v
  |_=>false)
 |_=>false
noncomputable def fW(K:aI):aa->Bool
 |.ref t=>(match K.lookup t with
  |some o=>ET o.data
  |none=>false)
 |_=>false
noncomputable def IX(K:aI)(x:Str)(n:Nat):Bool:=match fnAt K x with|some (_,_,fd)=>fW K fd.defaults&&Nat.beq (n+1) fd.params.args.length|none=>false
noncomputable def gF(K:aI)(x:Str):Bool:=match fnAt K x with|some (_,_,fd)=>fW K fd.defaults|none=>false
theorem YC{K:aI}{x:Str}{n:Nat}(h:IX K x n):gF K x=true:=by unfold IX at h;unfold gF;split at h;rw[bG]at h;exact h.1;cases h
noncomputable def mV:E->E|.nil=>.cons (.cst .aO) .nil|.cons a r=>.cons a (mV r)|e=>e
noncomputable def lO:E->Bool|.nil=>true|.cons _ r=>lO r|_=>false
theorem YD{cl:Call}:∀{a:E},lO a=true->∀(ρ:En) (h:VH),ev cl (mV a) ρ h=(ev cl a ρ h).bind λy h=>match y with|.tup ys=>.ok (.tup (ys++[.aO])) h|_=>.no:=by
 intro a;induction a with
 |nil=>intro _ ρ h;rfl
 |cons x r _ ih=>
  intro ha ρ h;have ih:=ih ha;simp only[mV,ev];cases ev cl x ρ h with
  |no=>rfl
  |ex _ _=>rfl
  |ok w h1=>
   show Res.bind (ev cl (mV r) ρ h1) _=Res.bind (Res.bind (ev cl r ρ h1) _) _;rw[ih];cases ev cl r ρ h1 with|no=>rfl|ex _ _=>rfl|ok y h2=>cases y<;>rfl
 |_=>intro ha;cases ha
theorem P4{f:aq->Option E}:∀{es:List aq} {a:E},cL f es=aC a->lO a=true
 |[],_,h=>by cases h;rfl
 |e::es,a,h=>by
  unfold cL at h;split at h;rename_i x r h1 h2;cases h;show lO r=true;exact P4 h2;cases h
noncomputable def EU(f:aq->Option E):List (Option aq)->List aq->Option E
 |[],[]=>aC .nil
 |some k::ks,v::vs=>match f k,f v,EU f ks vs with
  |some a,aC b,aC r=>aC (.cons a (.cons b r))
  |_,_,_=>aD
 |_,_=>aD
noncomputable def cB(and:Bool)(f:aq->Option E):List aq->Option E
 |[]=>aD
 |[a]=>f a
 |a::b::r=>match f a,cB and f (b::r)with
  |some x,aC y=>aC (if and then .and x y else .or x y)
  |_,_=>aD
noncomputable def cO(f:aq->Option E):Option aq->Option (Bool×E)|none=>aC (false,.cst .aO)|some e=>(f e).map λc=>(true,c)
noncomputable def wK(K:aI)(C:CC)(x:Str):Bool:=C.names.lookup x==aC .globalImplicit&& (match PySem.W.nsIn K mainGlobals x with|some aD=>true|_=>false)
noncomputable def wL(x:Str):Option Ty:=
 if x==("int" : Str)then aC .int else if x==("bool" : Str)then aC .bool else if x==("tuple" : Str)then aC .tuple else if x==("list" : Str)then aC .list else if x==("str" : Str)then aC .str else if x==("dict" : Str)then aC .dict else aD
noncomputable def wM(f:Str)(args:List aq):Option aq:=if f==("list" : Str)then(match args with|[.Call (.Name g _) [a] [] _]=>if g==("range" : Str)then aC a else aD|_=>aD)else aD
noncomputable def wN(x:Str):Option Bi:=
 if x==("len" : Str)then aC .len else if x==("list" : Str)then aC .list else if x==("tuple" : Str)then aC .tuple else if x==("int" : Str)then aC .int else if x==("abs" : Str)then aC .abs else if x==("max" : Str)then aC .max else if x==("min" : Str)then aC .min else if x==("all" : Str)then aC .all else if x==("sorted" : Str)then aC .A7 else aD
noncomputable def P5:aq->Bool|.Tuple ..=>true|_=>false
noncomputable def yy:Kd->aq->Bool|.pZ,t=>P5 t|.zip,t=>P5 t|_,_=>true
noncomputable def iA(C:CC):aq->Option Nat|.Name x _=>if okN x&&sj C.uA (C.names.lookup x)then se C.N x 0 else aD|_=>aD
noncomputable def yz(C:CC):aq->Option Tg|.Name x p=>(iA C (.Name x p)).map .one|.Tuple es _ _=>(aT (iA C) es).map .many|_=>aD
noncomputable def ownOf(sc:az):List Str:=(sc.names.filter λy=>(y.2 == .local||y.2 == .cell) && !(y.1==(".0" : Str))).map (·.1)
noncomputable def gG(sc:az):List Str:=(sc.names.filter λy=>y.2 == .free).map (·.1)
noncomputable def sr(C:CC)(sc:az)(ix:List Nat):Bool:=
 decide (sc.kind=.function)&&sc.names.all (λy=>decide (y.2=.cell->sc.names.lookup y.1=aC .cell))&&sc.names.all (λy=>decide (y.2=.free->sc.names.lookup y.1=aC .free))&&sc.names.all (λy=>decide (y.2=.local->sc.names.lookup y.1=aC .local)) &&
 (ownOf sc).all (λx=>decide (sc.names.lookup x=aC .local\/sc.names.lookup x=aC .cell))&&sc.names.all (λy=>decide (y.2=.free->C.names.lookup y.1=aC .cell\/C.names.lookup y.1=aC .free))&&decide (ix.length=(gG sc).length) &&
 ((List.range (gG sc).length).all λk=>match(gG sc)[k]?,ix[k]? with|some x,aC j=>decide (C.N[j]?=aC x)&&decide (sc.names.lookup x=aC .free)|_,_=>false)&&decide (ownOf sc++gG sc).Nodup
noncomputable def ku(sc:az):CC:=⟨ownOf sc++gG sc,sc.names,true⟩
mutual
noncomputable def cE(K:aI)(T:List Str):Nat->CC->aq->Option E
 |0,_,_=>aD
 |n+1,C,e=>match e with
  |.Name x _=>if okN x then(if sf (C.names.lookup x)then(se C.N x 0).map .var
   else if C.names.lookup x==aC .globalImplicit then(match PySem.W.nsIn K mainGlobals x with|some (aC v)=>(oW K 8 v).map .cst|_=>aD)else aD)else aD
  |.Constant c _ _=>(match c with
   |.int i=>aC (.cst (.int i))
   |.bool b=>aC (.cst (.bl b))
   |.none=>aC (.cst .aO)
   |.str x=>aC (.cst (.str x))
   |_=>aD)
  |.Tuple es _ _=>(cL (cE K T n C) es).map .tup
  |.List es _=>(cL (cE K T n C) es).map .lst
  |.Dict ks vs _=>(match ks with
   |[]=>(match vs with
    |[]=>aC (.bi .Ow .nil)
    |_::_=>aD)
   |k::ks=>if Nat.ble (k::ks).length 15&&Nat.beq (k::ks).length vs.length&& (k::ks).all (·.isSome)then(EU (cE K T n C) (k::ks) vs).map .A8 else aD)
  |.BinOp a O b _=>(match Bq O,cE K T n C a,cE K T n C b with
   |some o,aC x,aC y=>aC (.op o x y)
   |_,_,_=>aD)
  |.UnaryOp o a _=>(match o with
   |.Not=>(cE K T n C a).map .not
   |.USub=>(cE K T n C a).map .neg
   |_=>aD)
  |.BoolOp o es _=>(match o with
   |.And=>cB true (cE K T n C) es
   |.Or=>cB false (cE K T n C) es)
  |.Compare a Os bs _=>(match Os,bs with
   |[O],[b]=>if p9 b then(match gD O,cE K T n C a,cE K T n C b with
   |some c,aC x,aC y=>aC (.cmp c x y)
   |_,_,_=>aD)else aD
   |[O,O'],[b,c]=>if p9 c then(match gD O,gD O',cE K T n C a,cE K T n C b,cE K T n C c with
   |some o,aC o',aC x,aC y,aC z=>aC (.wm o o' x y z)
   |_,_,_,_,_=>aD)else aD
   |_,_=>aD)
  |.IfExp c a b _=>(match cT K T n C c,cE K T n C a,cE K T n C b with
   |some z,aC x,aC y=>aC (.ite z x y)
   |_,_,_=>aD)
  |.Subscript a b _=>(match b with
   |.Slice lo hi st _=>(match st with
    |none=>(match cE K T n C a,cO (cE K T n C) lo,cO (cE K T n C) hi with
   |some x,aC (bl,l),aC (bh,u)=>aC (.slc x bl l bh u)
   |_,_,_=>aD)
    |some _=>aD)
   |b=>if uw b then(match cE K T n C a,cE K T n C b with
   |some x,aC y=>aC (.idx x y)
   |_,_=>aD)else aD)
  |.Call fn args kw pos=>(match kw with
   |[]=>(match fn with
    |.Name f _=>if okN f&&C.names.lookup f==aC .globalImplicit then(match PySem.W.nsIn K mainGlobals f with
     |some aD=>if f==("isinstance" : Str)then(match args with
      |[a,.Name t _]=>(match wL t,cE K T n C a with
       |some ty,aC x=>if okN t&&wK K C t then aC (.rM ty x)else aD
       |_,_=>aD)
      |_=>aD)
      else(match wM f args with
       |some a=>if okN "range" && wK K C "range"then(cE K T n C a).map λx=>.bi .A6 (.cons x .nil)else aD
       |none=>match wN f,args with
       |some b,_::_=>(cL (cE K T n C) args).map (.bi b)
       |_,_=>aD)
     |some (aC _)=>(match se T f 0 with
      |some i=>if IX K f args.length && !args.isEmpty then(cL (cE K T n C) args).map (λa=>.call i (mV a))else(cL (cE K T n C) args).map (.call i)
      |none=>aD)
     |none=>aD)else aD
    |.Attribute o YE ap=>if Ir o&& (ap.endLine==pos.line)then(match cE K T n C o,args with
     |some x,[a]=>if YE==("append" : Str)then(cE K T n C a).map λy=>.mt .append x (.cons y .nil)else aD
     |_,_=>aD)else aD
    |_=>aD)
   |_=>aD)
  |.ListComp elt gs sc _=>(match gs with
   |[g]=>(match g with
    |⟨tg,iter,ifs,0⟩=>(match aT (λx=>se C.N x 0) (gG sc)with
     |some ix=>if sr C sc ix then(match cW K T n C iter,yz (ku sc) tg,(match ifs with|[]=>aC (.cst (.bl true))|[c]=>cT K T n (ku sc) c|_=>aD),cE K T n (ku sc) elt with
      |some (kd,a),aC t,aC c,aC e=>if yy kd tg then aC (.lc kd a t (ownOf sc).length ix c e)else aD
      |_,_,_,_=>aD)else aD
     |none=>aD)
    |_=>aD)
   |[g,g2]=>(match g with
    |⟨tg,iter,ifs,0⟩=>(match g2 with
     |⟨gA,aZ,cV,0⟩=>(match aT (λx=>se C.N x 0) (gG sc)with
      |some ix=>if sr C sc ix then(match cW K T n C iter,yz (ku sc) tg,(match ifs with|[]=>aC (E.cst (.bl true))|[c]=>cT K T n (ku sc) c|_=>aD),cE K T n (ku sc) elt with
       |some (kd,a),aC t,aC c,aC e=>if yy kd tg then(match cW K T n (ku sc) aZ,yz (ku sc) gA,(match cV with|[]=>aC (E.cst (.bl true))|[c]=>cT K T n (ku sc) c|_=>aD)with
        |some (iz,a2),aC t2,aC c2=>if yy iz gA then aC (.oG kd a t (ownOf sc).length ix c iz a2 t2 c2 e)else aD
        |_,_,_=>aD)else aD
       |_,_,_,_=>aD)else aD
      |none=>aD)
     |_=>aD)
    |_=>aD)
   |_=>aD)
  |_=>aD
noncomputable def cT(K:aI)(T:List Str):Nat->CC->aq->Option E
 |0,_,_=>aD
 |n+1,C,e=>match e with
  |.Compare a Os bs _=>(match Os,bs with
   |[O],[b]=>if p9 b then(match gD O,cE K T n C a,cE K T n C b with
   |some c,aC x,aC y=>aC (.cmp c x y)
   |_,_,_=>aD)else aD
   |[O,O'],[b,c]=>if p9 c then(match gD O,gD O',cE K T n C a,cE K T n C b,cE K T n C c with
   |some o,aC o',aC x,aC y,aC z=>aC (.wm o o' x y z)
   |_,_,_,_,_=>aD)else aD
   |_,_=>aD)
  |.UnaryOp o a _=>(match o with
   |.Not=>(cT K T n C a).map .not
   |_=>aD)
  |.BoolOp o es _=>(match o with
   |.And=>cB true (cT K T n C) es
   |.Or=>cB false (cT K T n C) es)
  |.Name x p=>(cE K T n C (.Name x p)).map .jh
  |.Call f as ks p=>(cE K T n C (.Call f as ks p)).map .jh
  |.Subscript a b p=>(cE K T n C (.Subscript a b p)).map .jh
  |_=>aD
noncomputable def cW(K:aI)(T:List Str):Nat->CC->aq->Option (Kd×E)
 |0,_,_=>aD
 |n+1,C,e=>match e with
  |.Call (.Name f p) args [] pos=>if f==("range" : Str)then(if wK K C f then(match args with
   |[a]=>(cE K T n C a).map λx=>(.bg,.cons x .nil)
   |[a,b]=>(match cE K T n C a,cE K T n C b with
    |some x,aC y=>aC (.wk,.cons x (.cons y .nil))
    |_,_=>aD)
   |_=>aD)else aD)
   else if f==("enumerate" : Str)then(if wK K C f then(match args with|[a]=>(cE K T n C a).map λx=>(.pZ,x)|_=>aD)else aD)
   else if f==("zip" : Str)then(if wK K C f then(match args with
    |[a,b]=>(match cE K T n C a,cE K T n C b with
     |some x,aC y=>aC (.zip,.cons x (.cons y .nil))
     |_,_=>aD)
    |_=>aD)else aD)
   else(cE K T n C (.Call (.Name f p) args [] pos)).map λx=>(.seq,x)
  |.Set ..=>aD
  |e=>(cE K T n C e).map λx=>(.seq,x)
end
noncomputable def oX(f:au->Option S):List au->Option S
 |[]=>aC .skip
 |s::r=>match f s,oX f r with
  |some a,aC b=>aC (.seq a b)
  |_,_=>aD
noncomputable def cS(K:aI)(T:List Str)(d:Nat):Nat->CC->au->Option S
 |0,_,_=>aD
 |n+1,C,s=>match s with
  |.Pass _=>aC .skip
  |.Break _=>aC .brk
  |.Continue _=>aC .cnt
  |.Raise ..=>aC .no
  |.Return r _=>(match r with
   |none=>aC (.ret (.cst .aO))
   |some e=>(cE K T d C e).map .ret)
  |.Expr e _=>if ER e then(cE K T d C e).map .expr else aD
  |.Assign l e _=>(match l with
   |[t]=>(match t with
    |.Name x p=>(match iA C (.Name x p),cE K T d C e with
    |some i,aC c=>aC (.set i c)
    |_,_=>aD)
    |.Tuple ts _ _=>if oS e then(match aT (iA C) ts,cE K T d C e with
    |some is,aC c=>aC (.A9 is c)
    |_,_=>aD)else aD
    |.Subscript o i _=>if uw i then(match cE K T d C o,cE K T d C i,cE K T d C e with
    |some x,aC y,aC z=>aC (.put x y z)
    |_,_,_=>aD)else aD
    |_=>aD)
   |_=>aD)
  |.AugAssign t O e _=>(match t with
   |.Name x p=>(match iA C (.Name x p),rY O,cE K T d C e with
    |some i,aC o,aC c=>aC (.aug i o c)
    |_,_,_=>aD)
   |.Subscript o i _=>if uw i then(match O with
    |.Add=>(match cE K T d C o,cE K T d C i,cE K T d C e with
     |some x,aC y,aC z=>aC (.Ba x y z)
     |_,_,_=>aD)
    |_=>aD)else aD
   |_=>aD)
  |.If c a b _=>(match cT K T d C c,oX (cS K T d n C) a,oX (cS K T d n C) b with
   |some z,aC x,aC y=>aC (.ite z x y)
   |_,_,_=>aD)
  |.For tg it b el _=>(match el with
   |[]=>(match cW K T d C it,yz C tg,oX (cS K T d n C) b with
    |some (kd,a),aC t,aC x=>if yy kd tg then aC (.for kd a t x)else aD
    |_,_,_=>aD)
   |_=>aD)
  |.While c b el _=>(match el with
   |[]=>(match cT K T d C c,oX (cS K T d n C) b with
    |some z,aC x=>aC (.EE z x)
    |_,_=>aD)
   |_=>aD)
  |_=>aD
structure iB(X:Cx)(C:CC)(T:List Str)(F:Nat->Option Fn)(k:Nat):Prop where
 hN:X.N=C.N
 nd:C.N.Nodup
 vis:∀x,sf (C.names.lookup x)=true->yb X.env.scope x
 loc:∀x,sj C.uA (C.names.lookup x)=true->Loc X.env.scope x/\(X.fn x=true\/X.env.scope.names.lookup x=aC .local)
 gl:∀x,C.names.lookup x=aC .globalImplicit->Gl X x
 cf:∀x,(C.names.lookup x=aC .cell\/C.names.lookup x=aC .free)->X.env.kindOf x=aC .cell\/X.env.kindOf x=aC .free
 calm:X.calm=true
 room:cJ k X.A
 xe:X.xe=λ_ _=>False
 P6:X.env.scope.kind=.function
 B3:∀x v,PySem.W.nsIn X.K mainGlobals x=aC (aC v)->X.mg x=aC v
 IY:∀x,PySem.W.nsIn X.K mainGlobals x=aC aD->X.mg x=aD
 fns:∀(i:Nat)(x:Str),T[i]?=aC x->x≠""->∃f fd ps fn,fV X.K x=aC f/\fC X.prog X.w X.K X.mg X.base lA k f fd ps (oM X.K ps.length (run F k i))/\PySem.W.keepIn X.K (.ref f)=true/\Binds X.K fd ps []/\F i=aC fn/\fn.ps=ps.length/\(gF X.K x=true->Binds X.K fd ps [.none])
section
variable{X:Cx}{C:CC}{T:List Str}{F:Nat->Option Fn}{k:Nat}
theorem iB.EV(O:iB X C T F k):X.A.units+65<cLine:=by have:=O.room.un;lia
theorem iB.u2(O:iB X C T F k):X.A.units+2<cLine:=Nat.lt_of_le_of_lt (Nat.add_le_add_left (by decide:2<=64) _) O.room.units
theorem B4(O:iB X C T F k){x:Str}(h:wK X.K C x):Gl X x/\X.mg x=aD:=by unfold wK at h;rw[bG]at h;refine⟨O.gl x (by simpa using h.1),O.IY x ?_⟩;have h2:=h.2;split at h2;assumption;cases h2
theorem lP(O:iB X C T F k){e:aq}{i:Nat}(h:iA C e=aC i):oN X e i:=by unfold iA at h;split at h;split at h;rename_i hc;rw[bG]at hc;obtain⟨h1,h2⟩:=O.loc _ hc.2;exact⟨_,_,rfl,by rw[O.hN];exact IW h,h1,h2⟩;cases h;cases h
theorem IZ(O:iB X C T F k):∀{es:List aq} {is:List Nat},aT (iA C) es=aC is->Paired (oN X) es is
 |[],_,h=>by cases h;exact .nil
 |e::es,is,h=>by
  unfold aT at h;split at h;rename_i b hb;split at h;rename_i bs B0;cases h;exact .cons (lP O hb) (IZ O B0);cases h;cases h
theorem lQ(O:iB X C T F k){e:aq}{t:Tg}(h:yz C e=aC t):PG X e (cX X.K t):=by
 unfold yz at h;split at h;rename_i x p;cases z:iA C (.Name x p)with
 |none=>rw[z]at h;cases h
 |some i=>
  rw[z]at h;cases h;obtain⟨x',p',e,h1,h2,h3⟩:=lP O z;cases e;exact Xc (O.hN▸O.nd) h1 h2 h3
 rename_i es kx p;cases z:aT (iA C) es with|none=>rw[z]at h;cases h|some is=>rw[z]at h;cases h;exact O1 O.calm (O.hN▸O.nd) (IZ O z)
 cases h
theorem iV{f:aq->Option E}{cl:Call}(ih:∀e c,f e=aC c->SE X e (ev cl c)/\gW e):∀{es:List aq} {c:E},cL f es=aC c->SA X es (ev cl c)/\es.all gW=true
 |[],_,h=>by cases h;exact⟨Bm,rfl⟩
 |e::es,c,h=>by
  unfold cL at h;split at h;rename_i a r ha hr;cases h;obtain⟨h1,h2⟩:=ih e a ha;obtain⟨h3,h4⟩:=iV ih hr;exact⟨wA h1 h3 (gE h2),by rw[qy,h2,h4];rfl⟩;cases h
theorem P7{f:aq->Option E}{cl:Call}{pos:Pos}(ih:∀e c,f e=aC c->SE X e (ev cl c)/\gW e):∀{ks:List (Option aq)} {vs:List aq} {c:E},EU f ks vs=aC c->BC X pos ks vs (ev cl c)
 |[],[],_,h=>by cases h;exact WU
 |[],_::_,_,h=>by cases h
 |none::_,_,_,h=>by cases h
 |some _::_,[],_,h=>by cases h
 |some a::ks,v::vs,c,h=>by
  unfold EU at h;split at h;rename_i x y r hx hy hr;cases h;exact WV (ih _ _ hx).1 (ih _ _ hy).1 (P7 ih hr);cases h
theorem lR{f:aq->Option E}{cl:Call}{pos:Pos}(ih:∀e c,f e=aC c->SE X e (ev cl c)/\gW e):∀{es:List aq} {c:E},(cB true f es=aC c->SE X (.BoolOp .And es pos) (ev cl c))/\(cB false f es=aC c->SE X (.BoolOp .Or es pos) (ev cl c))
 |[],_=>⟨(λh=>nomatch h),(λh=>nomatch h)⟩
 |[a],c=>⟨λh=>OJ (ih a c h).1,λh=>OJ (ih a c h).1⟩
 |a::b::r,c=>by
  refine⟨λh=>?_,λh=>?_⟩;unfold cB at h;split at h;rename_i x y hx hy;cases h;exact Wo (ih a x hx).1 ((lR ih).1 hy);cases h;unfold cB at h;split at h;rename_i x y hx hy;cases h;exact Bw (ih a x hx).1 ((lR ih).2 hy);cases h
theorem EW{f:aq->Option E}{cl:Call}{pos:Pos}(ih:∀e c,f e=aC c->ST X e (ev cl c)):∀{es:List aq} {c:E},(cB true f es=aC c->SW X (.BoolOp .And es pos) (ev cl c))/\(cB false f es=aC c->SW X (.BoolOp .Or es pos) (ev cl c))
 |[],_=>⟨(λh=>nomatch h),(λh=>nomatch h)⟩
 |[a],c=>⟨λh=>OI (ih a c h),λh=>OI (ih a c h)⟩
 |a::b::r,c=>by
  refine⟨λh=>?_,λh=>?_⟩;unfold cB at h;split at h;rename_i x y hx hy;cases h;exact Wn (ih a x hx) ((EW ih).1 hy);cases h;unfold cB at h;split at h;rename_i x y hx hy;cases h;exact Bv (ih a x hx) ((EW ih).2 hy);cases h
theorem uB{f:aq->Option E}{cl:Call}(ih:∀e c,f e=aC c->SE X e (ev cl c)/\gW e){o:Option aq}{b:Bool}{c:E}(h:cO f o=aC (b,c)):PO X o (jj X.K b (ev cl c)):=by
 unfold cO at h;split at h;cases h;exact Wx;rename_i e;cases z:f e with|none=>rw[z]at h;cases h|some c'=>rw[z]at h;cases h;exact Wy (ih _ _ z).1
theorem YF{x:Str}{t:Ty}(h:wL x=aC t):bootBuiltins x=aC (.type (rS t)):=by unfold wL at h;split at h;rename_i e;cases h;rw[show x = "int" by simpa using e];exact PyProof.Rows.boot_int;split at h;rename_i e;cases h;rw[show x = "bool" by simpa using e];decide +kernel;split at h;rename_i e;cases h;rw[show x = "tuple" by simpa using e];exact PyProof.Rows.boot_tuple;split at h;rename_i e;cases h;rw[show x = "list" by simpa using e];exact PyProof.Rows.boot_list;split at h;rename_i e;cases h;rw[show x = "str" by simpa using e];decide +kernel;split at h;rename_i e;cases h;rw[show x = "dict" by simpa using e];decide +kernel;cases h
theorem B5{x:Str}{b:Bi}{e:aq}{es:List aq}{fa:FE}{p pos:Pos}(h:wN x=aC b)(hg:Gl X x)(hm:X.mg x=aD)(hn:okN x)(hc:X.calm)(ha:SA X (e::es) fa)(hs:(e::es).all gW):SE X (.Call (.Name x p) (e::es) [] pos) (jk fa (iS b)):=by
 obtain⟨n1,_,n2⟩:=yw hn;unfold wN at h;split at h;rename_i z;cases h;have z:x = "len":=by simpa using z
 subst z;exact yr T7 WB hg hm PySem.boot_len ha hs n2 n1;split at h;rename_i z;cases h;have z:x = "list":=by simpa using z
 subst z;exact Iq T8 WC hg hm PyProof.Rows.boot_list ha hs n2 n1;split at h;rename_i z;cases h;have z:x = "tuple":=by simpa using z
 subst z;exact Iq T9 WD hg hm PyProof.Rows.boot_tuple ha hs n2 n1;split at h;rename_i z;cases h;have z:x = "int":=by simpa using z
 subst z;exact Iq Tj WE hg hm PyProof.Rows.boot_int ha hs n2 n1;split at h;rename_i z;cases h;have z:x = "abs":=by simpa using z
 subst z;exact yr Tf WG hg hm (by decide +kernel) ha hs n2 n1;split at h;rename_i z;cases h;have z:x = "max":=by simpa using z
 subst z;exact yr ((Th hc).or (Yy hc)) WH hg hm (by decide +kernel) ha hs n2 n1;split at h;rename_i z;cases h;have z:x = "min":=by simpa using z
 subst z;exact yr (Ti hc) WI hg hm (by decide +kernel) ha hs n2 n1;split at h;rename_i z;cases h;have z:x = "all":=by simpa using z
 subst z;exact yr (Vq hc) WJ hg hm (by decide +kernel) ha hs n2 n1;split at h;rename_i z;cases h;have z:x = "sorted":=by simpa using z
 subst z;exact yr Yt Yx hg hm (by decide +kernel) ha hs n2 n1;cases h
theorem YG{b:aq}(h:uw b):GJ b:=λo i=>by cases b<;>first|rfl|cases h
end
section
variable{X:Cx}{C:CC}{T:List Str}{F:Nat->Option Fn}{k:Nat}
theorem uC{env:Env}{kd:NameKind}(hk:kd≠.free):∀{l:List (Str×NameKind)} {x:Str},l.lookup x=aC kd->
 (l.map λ(n,k)=>if(k==NameKind.free&&env.scope.kind == .function&&env.kindOf n==aC .cell)then(n,NameKind.cell)else(n,k)).lookup x=aC kd
 |[],_,h=>by cases h
 |(n,j)::r,x,h=>by
  rw[gQ];simp only[gx]at h;by_cases hx:(x==n)=true;simp only[hx]at h;cases h;have:(kd==NameKind.free)=false:=by simpa using hk
  simp only[this,yW,dS,dB,gx,hx];have hx':(x==n)=false:=by simpa using hx
  simp only[hx']at h;have ih:=uC (env:=env) hk (l:=r) (x:=x) h;by_cases hc':(j==NameKind.free&&env.scope.kind == .function&&env.kindOf n==aC .cell)=true;simp only[hc',b9,gx,hx'];exact ih;have hcf:(j==NameKind.free&&env.scope.kind == .function&&env.kindOf n==aC .cell)=false:=by simpa using hc'
  simp only[hcf,dS,dB,gx,hx'];exact ih
theorem Ja(O:iB X C T F k){sc:az}{ix:List Nat}(h:sr C sc ix):aW X (ownOf sc) (gG sc) ix sc/\(ownOf sc++gG sc).Nodup:=by
 unfold sr at h;simp only[bG,fL,nv]at h;obtain⟨⟨⟨⟨⟨⟨⟨⟨h1,h2⟩,h2'⟩,h3⟩,h4⟩,h5⟩,h6⟩,h7⟩,h8⟩:=h;refine⟨⟨h1,h2,h3,h4,h2',λy hy e=>O.cf _ (h5 y hy e),λq x e=>?_,h6⟩,h8⟩;have hk:q< (gG sc).length:=(jD.mp e).1;have:=h7 q (tU.mpr hk);rw[e]at this;cases z:ix[q]? with
 |none=>rw[z]at this;cases this
 |some j=>
  rw[z]at this;simp only[bG,fL]at this;exact⟨j,rfl,by rw[O.hN];exact this.1,this.2⟩
theorem yC(O:iB X C T F k){sc:az}{ix:List Nat}(h:sr C sc ix)(D:ah)(s₀:af)(H₀:Hp)(ex:List ah):iB (X.comp (ownOf sc++gG sc) sc D s₀ H₀ ex) (ku sc) T F k:=by
 obtain⟨S,nd⟩:=Ja O h;refine⟨rfl,nd,λx hx=>?_,λx hx=>?_,λx hx=>?_,λx hx=>?_,O.calm,O.room,rfl,S.kind,O.B3,O.IY,O.fns⟩;have hx:sf (sc.names.lookup x)=true:=hx;cases z:sc.names.lookup x with
 |none=>rw[z]at hx;cases hx
 |some kd=>
  cases kd with
  | «local»=>exact .inl (uC (by decide) z)
  |cell=>exact .inr (.inl (uC (by decide) z))
  |free=>
   have:=DX (env:=X.env) O.P6 z;by_cases hc:X.env.kindOf x=aC .cell;rw[if_pos hc]at this;exact .inr (.inl this);rw[if_neg hc]at this;exact .inr (.inr this)
  |globalExplicit=>rw[z]at hx;cases hx
  |globalImplicit=>rw[z]at hx;cases hx
 have hx:sj true (sc.names.lookup x)=true:=hx;cases z:sc.names.lookup x with
 |none=>rw[z]at hx;cases hx
 |some kd=>
  cases kd with| «local»=>exact⟨.inl (uC (by decide) z),.inr (uC (by decide) z)⟩|cell=>exact⟨.inr (uC (by decide) z),.inl (by show(sc.names.lookup x==aC NameKind.cell)=true;rw[z];rfl)⟩|free=>rw[z]at hx;cases hx|globalExplicit=>rw[z]at hx;cases hx|globalImplicit=>rw[z]at hx;cases hx
 exact uC (by decide) hx;have hx:sc.names.lookup x=aC .cell\/sc.names.lookup x=aC .free:=hx;rcases hx with z|z
 exact .inl (uC (by decide) z);have:=DX (env:=X.env) O.P6 z;by_cases hc:X.env.kindOf x=aC .cell;rw[if_pos hc]at this;exact .inl this;rw[if_neg hc]at this;exact .inr this
end
theorem map_some{α β:Type}{o:Option α}{f:α->β}{b:β}(h:o.map f=aC b):∃a,o=aC a/\b=f a:=by
 cases o with|none=>cases h|some a=>cases h;exact⟨a,rfl,rfl⟩
structure mW(X:Cx)(C:CC)(T:List Str)(F:Nat->Option Fn)(k n:Nat):Prop where
 e:∀e c,cE X.K T n C e=aC c->SE X e (ev (run F k) c)/\gW e=true
 t:∀e c,cT X.K T n C e=aC c->ST X e (ev (run F k) c)
 w:∀e kd c tg,cW X.K T n C e=aC (kd,c)->yy kd tg=true->PI X tg e (cu X.K kd (ev (run F k) c))/\∀x,foldedSetIterable e X.env x=pure x
section
variable{X:Cx}{C:CC}{T:List Str}{F:Nat->Option Fn}{k n:Nat}
theorem B6(O:iB X C T F k)(ih:mW X C T F k n)(e:aq)(c:E)(h:cT X.K T (n+1) C e=aC c):ST X e (ev (run F k) c):=by unfold cT at h;split at h;split at h;split at h;rename_i hs;split at h;rename_i h1 h2 h3;cases h;exact Wi O.EV h1 hs (ih.e _ _ h2).1 (ih.e _ _ h3).1;cases h;cases h;split at h;rename_i hs;split at h;rename_i h1 h2 h3 h4 h5;cases h;exact Wk O.EV h1 h2 hs (ih.e _ _ h3).1 (ih.e _ _ h4).1 (ih.e _ _ h5).1;cases h;cases h;cases h;split at h;obtain⟨a,h1,rfl⟩:=map_some h;exact Wl (ih.t _ _ h1);cases h;split at h;exact((EW ih.t).1 h).pt;exact((EW ih.t).2 h).pt;obtain⟨a,h1,rfl⟩:=map_some h;exact Ip (ih.e _ _ h1).1 λ_=>rfl;obtain⟨a,h1,rfl⟩:=map_some h;exact Ip (ih.e _ _ h1).1 λ_=>rfl;obtain⟨a,h1,rfl⟩:=map_some h;exact Ip (ih.e _ _ h1).1 λ_=>rfl;cases h
theorem B7{e:aq}(h:∀a b c,e≠.Set a b c){env:Env}:∀x,foldedSetIterable e env x=pure x:=by intro x;cases e<;>first|rfl|exact absurd rfl (h _ _ _)
theorem B8(O:iB X C T F k)(ih:mW X C T F k n)(e:aq)(kd:Kd)(c:E)(tg:aq)(h:cW X.K T (n+1) C e=aC (kd,c))(hw:yy kd tg):PI X tg e (cu X.K kd (ev (run F k) c))/\∀x,foldedSetIterable e X.env x=pure x:=by
 unfold cW at h;split at h;rename_i f p args pos;refine⟨?_,λx=>rfl⟩;split at h;rename_i hf;have hf:f = "range":=by simpa using hf
 subst hf;split at h;rename_i ha;obtain⟨g1,g2⟩:=B4 O ha;split at h;rename_i a;obtain⟨x,h1,h2⟩:=map_some h;cases h2;obtain⟨h3,h4⟩:=ih.e _ _ h1;exact W3 (wA h3 Bm (gE h4)) h4 g1 g2;rename_i a b;split at h;rename_i x y h1 h2;cases h;obtain⟨h3,h4⟩:=ih.e _ _ h1;obtain⟨h5,h6⟩:=ih.e _ _ h2;exact W4 (wA h3 (wA h5 Bm (gE h6)) (gE h4)) h4 h6 g1 g2;cases h;cases h;cases h;split at h;rename_i hf;have hf:f = "enumerate":=by simpa using hf
 subst hf;split at h;rename_i ha;obtain⟨g1,g2⟩:=B4 O ha;split at h;rename_i a;obtain⟨x,h1,h2⟩:=map_some h;cases h2;obtain⟨h3,h4⟩:=ih.e _ _ h1;cases tg<;>first|exact W8 h3 h4 g1 g2|cases hw
 cases h;cases h;split at h;rename_i hf;have hf:f = "zip":=by simpa using hf
 subst hf;split at h;rename_i ha;obtain⟨g1,g2⟩:=B4 O ha;split at h;rename_i a b;split at h;rename_i x y h1 h2;cases h;obtain⟨h3,h4⟩:=ih.e _ _ h1;obtain⟨h5,h6⟩:=ih.e _ _ h2;cases tg<;>first|exact Xb (wA h3 (wA h5 Bm (gE h6)) (gE h4)) h4 h6 g1 g2|cases hw
 cases h;cases h;cases h;obtain⟨x,h1,h2⟩:=map_some h;cases h2;exact OV (ih.e _ _ h1).1;cases h;rename_i hns;obtain⟨x,h1,h2⟩:=map_some h;cases h2;exact⟨OV (ih.e _ _ h1).1,B7 (by first|exact hns|(intro a b c z;exact hns a b c z))⟩
end
section
variable{X:Cx}{C:CC}{T:List Str}{F:Nat->Option Fn}{k n:Nat}
theorem YH(O:iB X C T F k){x:Str}{p:Pos}{c:E}(h:cE X.K T (n+1) C (.Name x p)=aC c):SE X (.Name x p) (ev (run F k) c):=by simp only[cE]at h;split at h;rename_i hn;obtain⟨n1,n2,n3⟩:=yw hn;split at h;rename_i hv;obtain⟨i,h1,rfl⟩:=map_some h;exact V5 (by rw[O.hN];exact IW h1) (O.vis x hv) n1 n2;split at h;rename_i hg;split at h;rename_i v hv;obtain⟨w,h1,rfl⟩:=map_some h;obtain⟨y,h2,h3⟩:=PZ 8 v w h1;exact Bk (RO (O.gl x (by simpa using hg)) (O.B3 x v hv) h2 n1) h3;cases h;cases h;cases h
theorem YI{f:Str}{args:List aq}{a:aq}(h:wM f args=aC a):∃p pos,f = "list"/\args=[.Call (.Name "range" p) [a] [] pos]:=by unfold wM at h;split at h;rename_i hf;split at h;split at h;rename_i hg;cases h;simp only[beq_iff_eq]at hg;subst hg;exact⟨_,_,by simpa using hf,rfl⟩;cases h;cases h;cases h
theorem YJ(O:iB X C T F k)(ih:mW X C T F k n){f:Str}{p pos:Pos}{args:List aq}{c:E}(h:cE X.K T (n+1) C (.Call (.Name f p) args [] pos)=aC c):SE X (.Call (.Name f p) args [] pos) (ev (run F k) c):=by
 simp only[cE]at h;split at h;rename_i hn;rw[bG]at hn;have hg:=O.gl f (by simpa using hn.2);split at h;rename_i hm;have hm:=O.IY f hm;split at h;rename_i hf;have hf:f = "isinstance":=by simpa using hf
 subst hf;split at h;rename_i a t pt;split at h;rename_i ty x h1 h2;split at h;rename_i hc;cases h;rw[bG]at hc;obtain⟨g1,g2⟩:=B4 O hc.2;obtain⟨h3,h4⟩:=ih.e _ _ h2;obtain⟨n1,n2,n3⟩:=yw hc.1;exact WM ty h3 h4 hg hm g1 g2 (YF h1) n3 n1;cases h;cases h;cases h;split at h;rename_i a hl;split at h;rename_i hc;rw[bG]at hc;obtain⟨x,h1,rfl⟩:=map_some h;obtain⟨h2,h3⟩:=ih.e _ _ h1;obtain⟨g1,g2⟩:=B4 O hc.2;obtain⟨p2,pos2,rfl,rfl⟩:=YI hl;exact Yi O.calm hg hm g1 g2 (wA h2 Bm (gE h3)) h3;cases h;split at h;rename_i b e es hb _;obtain⟨a,h1,rfl⟩:=map_some h;obtain⟨h2,h3⟩:=iV ih.e h1;exact B5 hb hg hm hn.1 O.calm h2 h3;cases h;rename_i v hv;split at h;rename_i i hi;obtain⟨fa,fd,ps,fn,q1,q2,q3,q4,q5,q6,q7⟩:=O.fns i f (IW hi) (YA hn.1);have q1:=Pz q1;split at h;rename_i Jb;rw[bG]at Jb;obtain⟨a,h1,rfl⟩:=map_some h;obtain⟨h2,h3⟩:=iV ih.e h1;have hl:∀ws h w h',run F k i ws h=.ok w h'->ws.length=ps.length:=λws h w h' e=>by rw[IQ q5 e,q6]
 have hev:ev (run F k) (.call i (mV a))=jk (ev (run F k) a) (λws h=>run F k i (ws++[.aO]) h):=by
  funext ρ h;simp only[ev,YD (P4 h1)];show Res.bind (Res.bind (ev (run F k) a ρ h) _) _=Res.bind (ev (run F k) a ρ h) _;cases ev (run F k) a ρ h with|no=>rfl|ex _ _=>rfl|ok y h2=>cases y<;>rfl
 rw[hev];cases args with|nil=>cases Jb.2|cons e es=>exact WZ q2 O.room hg (O.B3 f _ q1) q3 (q7 (YC Jb.1)) h2 h3 (yw hn.1).1 hl
 obtain⟨a,h1,rfl⟩:=map_some h;obtain⟨h2,h3⟩:=iV ih.e h1;have hl:∀ws h w h',run F k i ws h=.ok w h'->ws.length=ps.length:=λws h w h' e=>by rw[IQ q5 e,q6]
 cases args with
 |nil=>
  simp only[cL]at h1;cases h1;exact WY q2 O.room hg (O.B3 f _ q1) q3 q4 (yw hn.1).1 hl
 |cons e es=>exact WX q2 O.room hg (O.B3 f _ q1) q3 q4 h2 h3 (yw hn.1).1 hl
 cases h;cases h;cases h
theorem YK(O:iB X C T F k)(ih:mW X C T F k n){o:aq}{m:Str}{ap pos:Pos}{args:List aq}{c:E}(h:cE X.K T (n+1) C (.Call (.Attribute o m ap) args [] pos)=aC c):SE X (.Call (.Attribute o m ap) args [] pos) (ev (run F k) c):=by
 simp only[cE]at h;split at h;rename_i hn;rw[bG]at hn;split at h;rename_i x a hx;split at h;rename_i hm;have hm:m = "append":=by simpa using hm
 subst hm;obtain⟨y,h1,rfl⟩:=map_some h;obtain⟨h2,h3⟩:=ih.e _ _ h1;exact WT (ih.e _ _ hx).1 h2 hn.1 h3 hn.2;cases h;cases h;cases h
theorem Jc{ow fr:List Str}{sc:az}{ifs:List aq}{c:E}(O:∀D s₀ H₀ ex,mW (X.comp (ow++fr) sc D s₀ H₀ ex) (ku sc) T F k n)
 (h:(match ifs with|[]=>aC (E.cst (.bl true))|[c]=>cT X.K T n (ku sc) c|_=>aD)=aC c) (D:ah) (s₀:af) (H₀:Hp) (ex:List ah):iP (X.comp (ow++fr) sc D s₀ H₀ ex) ifs (dg X.K (ev (run F k) c)):=by
 split at h;cases h;exact λpins s σ H Q I z9=>z9.el λρ h m b h' f r e q=>by
  cases e;exact Ut pins s σ H Q I (q H m .refl r)
 exact Uu ((O D s₀ H₀ ex).t _ _ h);cases h
theorem P8(O:iB X C T F k)(ih:mW X C T F k n)(mX:∀{sc:az} {ix:List Nat},sr C sc ix=true->∀D s₀ H₀ ex,mW (X.comp (ownOf sc++gG sc) sc D s₀ H₀ ex) (ku sc) T F k n)
 {elt tg iter:aq} {ifs:List aq} {sc:az} {pos:Pos} {c:E} (h:cE X.K T (n+1) C (.ListComp elt [⟨tg,iter,ifs,0⟩] sc pos)=aC c) :
 ∃kd a t ix cc ce,c=.lc kd a t (ownOf sc).length ix cc ce/\aW X (ownOf sc) (gG sc) ix sc/\PI X tg iter (cu X.K kd (ev (run F k) a))/\(∀D s₀ H₀ ex,PG (X.comp (ownOf sc++gG sc) sc D s₀ H₀ ex) tg (cX X.K t))/\
  (∀D s₀ H₀ ex,iP (X.comp (ownOf sc++gG sc) sc D s₀ H₀ ex) ifs (dg X.K (ev (run F k) cc)))/\(∀D s₀ H₀ ex,PE (X.comp (ownOf sc++gG sc) sc D s₀ H₀ ex) elt (gw X.K (ev (run F k) ce)))/\∀x,foldedSetIterable iter X.env x=pure x:=by
 simp only[cE]at h;split at h
 .rename_i ix hix
  split at h
  .rename_i hc
   split at h
   .rename_i kd a t cc ce h1 h2 h3 h4
    split at h
    case isFalse=>cases h
    rename_i hw;cases h;obtain⟨w1,w2⟩:=ih.w _ _ _ tg h1 hw;exact⟨kd,a,t,ix,cc,ce,rfl,(Ja O hc).1,w1,λD s₀ H₀ ex=>lQ (yC O hc D s₀ H₀ ex) h2,Jc (mX hc) h3,λD s₀ H₀ ex=>((mX hc D s₀ H₀ ex).e _ _ h4).1,w2⟩
   cases h
  cases h
 cases h
theorem P9(O:iB X C T F k)(ih:mW X C T F k n)(mX:∀{sc:az} {ix:List Nat},sr C sc ix=true->∀D s₀ H₀ ex,mW (X.comp (ownOf sc++gG sc) sc D s₀ H₀ ex) (ku sc) T F k n)
 {elt tg iter gA aZ:aq} {ifs cV:List aq} {sc:az} {pos:Pos} {c:E} (h:cE X.K T (n+1) C (.ListComp elt [⟨tg,iter,ifs,0⟩,⟨gA,aZ,cV,0⟩] sc pos)=aC c) :
 ∃kd a t ix cc iz a2 t2 yD ce,c=.oG kd a t (ownOf sc).length ix cc iz a2 t2 yD ce/\aW X (ownOf sc) (gG sc) ix sc/\PI X tg iter (cu X.K kd (ev (run F k) a))/\(∀D s₀ H₀ ex,PG (X.comp (ownOf sc++gG sc) sc D s₀ H₀ ex) tg (cX X.K t))/\
  (∀D s₀ H₀ ex,iP (X.comp (ownOf sc++gG sc) sc D s₀ H₀ ex) ifs (dg X.K (ev (run F k) cc)))/\
  (∀D s₀ H₀ ex,PI (X.comp (ownOf sc++gG sc) sc D s₀ H₀ ex) gA aZ (cu X.K iz (ev (run F k) a2)))/\(∀D s₀ H₀ ex,PG (X.comp (ownOf sc++gG sc) sc D s₀ H₀ ex) gA (cX X.K t2))/\
  (∀D s₀ H₀ ex,iP (X.comp (ownOf sc++gG sc) sc D s₀ H₀ ex) cV (dg X.K (ev (run F k) yD)))/\(∀D s₀ H₀ ex,PE (X.comp (ownOf sc++gG sc) sc D s₀ H₀ ex) elt (gw X.K (ev (run F k) ce)))/\
  (∀x,foldedSetIterable iter X.env x=pure x)/\∀D s₀ H₀ ex x,foldedSetIterable aZ (X.comp (ownOf sc++gG sc) sc D s₀ H₀ ex).env x=pure x:=by
 simp only[cE]at h;split at h
 .rename_i ix hix
  split at h
  .rename_i hc
   split at h
   .rename_i kd a t cc ce h1 h2 h3 h4
    split at h
    case isFalse=>cases h
    rename_i hw;split at h
    .rename_i iz a2 t2 yD h5 h6 h7
     split at h
     case isFalse=>cases h
     rename_i Qa;cases h;obtain⟨w1,w2⟩:=ih.w _ _ _ tg h1 hw;exact⟨kd,a,t,ix,cc,iz,a2,t2,yD,ce,rfl,(Ja O hc).1,w1,λD s₀ H₀ ex=>lQ (yC O hc D s₀ H₀ ex) h2,Jc (mX hc) h3,λD s₀ H₀ ex=>((mX hc D s₀ H₀ ex).w _ _ _ gA h5 Qa).1,λD s₀ H₀ ex=>lQ (yC O hc D s₀ H₀ ex) h6,Jc (mX hc) h7,
      λD s₀ H₀ ex=>((mX hc D s₀ H₀ ex).e _ _ h4).1,w2,λD s₀ H₀ ex=>((mX hc D s₀ H₀ ex).w _ _ _ gA h5 Qa).2⟩
    cases h
   cases h
  cases h
 cases h
theorem B9(O:iB X C T F k)(ih:mW X C T F k n)(mX:∀{sc:az} {ix:List Nat},sr C sc ix=true->∀D s₀ H₀ ex,mW (X.comp (ownOf sc++gG sc) sc D s₀ H₀ ex) (ku sc) T F k n)
 (e:aq) (c:E) (h:cE X.K T (n+1) C e=aC c):SE X e (ev (run F k) c)/\gW e=true:=by
 have h0:=h;unfold cE at h;split at h;exact⟨YH O h0,rfl⟩;refine⟨?_,rfl⟩;split at h;cases h;exact V6;cases h;exact Bl;cases h;exact V7;cases h;exact V8;cases h;obtain⟨a,h1,rfl⟩:=map_some h;exact⟨V9 (iV ih.e h1).1,rfl⟩;obtain⟨a,h1,rfl⟩:=map_some h;exact⟨Wa (iV ih.e h1).1,rfl⟩;refine⟨?_,rfl⟩;split at h;split at h;cases h;exact Yz;cases h;split at h;rename_i hc;simp only[bG]at hc;obtain⟨a,h1,rfl⟩:=map_some h;exact WW O.u2 (P7 ih.e h1) hc.2 (yS hc.1.2) (by simp) (j8 hc.1.1);cases h;refine⟨?_,rfl⟩;split at h;rename_i h1 h2 h3;cases h;exact Bp (Br h1) (We _) (ih.e _ _ h2).1 (ih.e _ _ h3).1;cases h;split at h;obtain⟨a,h1,rfl⟩:=map_some h;exact⟨Wm (ih.e _ _ h1).1,rfl⟩;obtain⟨a,h1,rfl⟩:=map_some h;exact⟨Ws (ih.e _ _ h1).1,rfl⟩;cases h;split at h;exact⟨(lR ih.e).1 h,rfl⟩;exact⟨(lR ih.e).2 h,rfl⟩;split at h;refine⟨?_,rfl⟩;split at h;rename_i hs;split at h;rename_i h1 h2 h3;cases h;exact Wh O.EV h1 hs (ih.e _ _ h2).1 (ih.e _ _ h3).1;cases h;cases h;refine⟨?_,rfl⟩;split at h;rename_i hs;split at h;rename_i h1 h2 h3 h4 h5;cases h;exact Wj O.EV h1 h2 hs (ih.e _ _ h3).1 (ih.e _ _ h4).1 (ih.e _ _ h5).1;cases h;cases h;cases h;refine⟨?_,rfl⟩;split at h;rename_i h1 h2 h3;cases h;exact Wq (ih.t _ _ h1) (ih.e _ _ h2).1 (ih.e _ _ h3).1;cases h;split at h;split at h;refine⟨?_,rfl⟩;split at h;rename_i h1 h2 h3;cases h;exact WA (ih.e _ _ h1).1 (uB ih.e h2) (uB ih.e h3);cases h;cases h;refine⟨?_,rfl⟩;split at h;rename_i hs;split at h;rename_i h1 h2;cases h;exact Ww O.u2 (ih.e _ _ h1).1 (ih.e _ _ h2).1 (YG hs);cases h;cases h;split at h;split at h;exact⟨YJ O ih h0,rfl⟩;exact⟨YK O ih h0,rfl⟩;cases h;cases h;split at h;split at h;refine⟨?_,rfl⟩;obtain⟨kd,a,t,ix,cc,ce,rfl,S,w1,w2,w3,w4,w5⟩:=P8 O ih mX h0;exact BR S O.calm w1 w2 w3 w4 w5;cases h;split at h;split at h;refine⟨?_,rfl⟩;obtain⟨kd,a,t,ix,cc,iz,a2,t2,yD,ce,rfl,S,w1,w2,w3,v1,v2,v3,w4,w5,v5⟩:=P9 O ih mX h0;exact XD S O.calm w1 w2 w3 v1 v2 v3 w4 w5 v5;cases h;cases h;cases h;cases h
end
theorem uD{T:List Str}{F:Nat->Option Fn}{k:Nat}:∀(n:Nat) {X:Cx} {C:CC},iB X C T F k->mW X C T F k n
 |0,_,_,_=>⟨(λe c h=>nomatch h),(λe c h=>nomatch h),(λe kd c tg h _=>nomatch h)⟩
 |n+1,X,C,O=>by
  have ih:=uD n O;have mX:∀{sc:az}{ix:List Nat},sr C sc ix=true->∀D s₀ H₀ ex,mW (X.comp (ownOf sc++gG sc) sc D s₀ H₀ ex) (ku sc) T F k n:=λhc D s₀ H₀ ex=>uD n (yC O hc D s₀ H₀ ex);exact⟨B9 O ih mX,B6 O ih,B8 O ih⟩
section
variable{X:Cx}{C:CC}{T:List Str}{F:Nat->Option Fn}{k d:Nat}
theorem wO{f:au->Option S}{cl:Call}(ih:∀st c,f st=aC c->SS X st (exs cl c)):∀{sts:List au} {c:S},oX f sts=aC c->rV X sts (exs cl c)
 |[],_,h=>by cases h;exact Xr
 |s::r,c,h=>by
  unfold oX at h;split at h;rename_i a b ha hb;cases h;exact Xw (ih s a ha) (wO ih hb);cases h
theorem YL{K:aI}{T:List Str}{n:Nat}{C:CC}{elt:aq}{gs:List Comprehension}{sc:az}{lp:Pos}{c:E}(h:cE K T (n+1) C (.ListComp elt gs sc lp)=aC c):(∃tg iter ifs,gs=[⟨tg,iter,ifs,0⟩])\/∃tg iter ifs gA aZ cV,gs=[⟨tg,iter,ifs,0⟩,⟨gA,aZ,cV,0⟩]:=by simp only[cE]at h;split at h;rename_i g;split at h;exact .inl ⟨_,_,_,rfl⟩;cases h;rename_i g g2;split at h;split at h;exact .inr ⟨_,_,_,_,_,_,rfl⟩;cases h;cases h;cases h
theorem YM(O:iB X C T F k){x:Str}{p pos:Pos}{e:aq}{i:Nat}{c:E}(hi:iA C (.Name x p)=aC i)(h:cE X.K T d C e=aC c):SS X (.Assign [.Name x p] e pos) (exs (run F k) (.set i c)):=by
 obtain⟨x',p',ex,h1,h2,h3⟩:=lP O hi;cases ex;have nd:X.N.Nodup:=O.hN▸O.nd;have Sd:=uD (T:=T) (F:=F) (k:=k) d O;by_cases hc:ER e=true;exact Pg nd h1 h2 h3 (Sd.e _ _ h).1 (Pf hc);cases d with
 |zero=>cases h
 |succ n=>
  cases e with
  |ListComp elt gs sc lp=>
   have sw:∃b:Bool,swapsWith (.ListComp elt gs sc lp) (aC (.Name x p)) pos.line X.env=pure b:=⟨_,rfl⟩
   obtain⟨b,hb⟩:=sw;cases b with
   |false=>exact Pg nd h1 h2 h3 (Sd.e _ _ h).1 hb
   |true=>
    rcases YL h with⟨tg,iter,ifs,rfl⟩|⟨tg,iter,ifs,gA,aZ,cV,rfl⟩;obtain⟨kd,a,t,ix,cc,ce,rfl,S,w1,w2,w3,w4,w5⟩:=P8 O (uD n O) (λhc D s₀ H₀ ex=>uD n (yC O hc D s₀ H₀ ex)) h;exact XC nd h1 h2 h3 S O.calm w1 w2 w3 w4 hb w5;obtain⟨kd,a,t,ix,cc,iz,a2,t2,yD,ce,rfl,S,w1,w2,w3,v1,v2,v3,w4,w5,v5⟩:=P9 O (uD n O) (λhc D s₀ H₀ ex=>uD n (yC O hc D s₀ H₀ ex)) h;exact XE nd h1 h2 h3 S O.calm w1 w2 w3 v1 v2 v3 w4 hb w5 v5
  |SetComp _ _ _ _=>unfold cE at h;cases h
  |DictComp _ _ _ _ _=>unfold cE at h;cases h
  |_=>exact absurd rfl hc
theorem oY(O:iB X C T F k):∀(n:Nat) (st:au) (c:S),cS X.K T d n C st=aC c->SS X st (exs (run F k) c)
 |0,_,_,h=>by cases h
 |n+1,st,c,h=>by
  have nd:X.N.Nodup:=O.hN▸O.nd;have Sd:=uD (T:=T) (F:=F) (k:=k) d O;have ih:=oY O n;have hp:PassesOwn (model X.prog X.w) X.A X.env X.xe:=by rw[O.xe];exact PassesOwn.never
  unfold cS at h;split at h;cases h;exact Xs;cases h;exact Xu;cases h;exact Xv;cases h;exact BQ;split at h;cases h;exact XA;obtain⟨a,h1,rfl⟩:=map_some h;exact Xz (Sd.e _ _ h1).1;split at h;rename_i hc;obtain⟨a,h1,rfl⟩:=map_some h;exact Xy (Sd.e _ _ h1).1 hc;cases h;split at h;split at h;split at h;rename_i i a h1 h2;cases h;exact YM O h1 h2;cases h;split at h;rename_i ht;split at h;rename_i h1 h2;cases h;exact XH O.calm nd (IZ O h1) (Sd.e _ _ h2).1 ht;cases h;cases h;split at h;rename_i hs;split at h;rename_i h1 h2 h3;cases h;exact XQ O.u2 (Sd.e _ _ h1).1 (Sd.e _ _ h2).1 (Sd.e _ _ h3).1 hs;cases h;cases h;cases h;cases h;split at h;split at h;rename_i h1 h2 h3;cases h;obtain⟨x',p',ex,a1,a2,a3⟩:=lP O h1;cases ex;exact XU h2 nd a1 a2 a3 (Sd.e _ _ h3).1;cases h;split at h;rename_i hs;split at h;split at h;rename_i h1 h2 h3;cases h;exact X0 (Sd.e _ _ h1).1 (Sd.e _ _ h2).1 (Sd.e _ _ h3).1 hs;cases h;cases h;cases h;cases h;split at h;rename_i h1 h2 h3;cases h;exact X4 (Sd.t _ _ h1) (wO ih h2) (wO ih h3);cases h
  .rename_i tg it b el pos
   split at h
   .split at h
    .rename_i h1 h2 h3
     split at h
     case isFalse=>cases h
     rename_i hw;cases h;obtain⟨w1,w2⟩:=Sd.w _ _ _ tg h1 hw;exact X7 hp O.calm w1 (lQ O h2) (wO ih h3) w2
    cases h
   cases h
  split at h;split at h;rename_i h1 h2;cases h;exact X8 hp (Sd.t _ _ h1) (wO ih h2);cases h;cases h;cases h
end
noncomputable def Jd:FuncBody->Option (List au)|.stmts b=>aC b|_=>aD
theorem YN{d:Data}(h:ET d):∃n,d=.seq #[.none] n:=by
 cases d with
 |seq xs n=>
  obtain⟨l⟩:=xs;unfold ET at h;simp only[]at h;split at h;rename_i v;cases v<;>first|exact⟨n,rfl⟩|cases h
  cases h
 |_=>cases h
theorem YO{K:aI}{v:aa}(h:fW K v):∃t o n,v=.ref t/\K.lookup t=aC o/\o.data=.seq #[.none] n:=by
 cases v with
 |ref t=>
  have h:(match K.lookup t with|some o=>ET o.data|none=>false)=true:=h;cases e:K.lookup t with
  |none=>rw[e]at h;cases h
  |some o=>
   rw[e]at h;obtain⟨n,q⟩:=YN h;exact⟨t,o,n,rfl,e,q⟩
 |_=>cases h
noncomputable def wQ(ps:List Str)(sc:az):List Str:=ps++(sc.names.filter λy=>(y.2 == .local||y.2 == .cell) && !(ps.contains y.1)).map (·.1)
noncomputable def EX(N ps:List Str)(sc:az):Bool:=
 decide (sc.kind=.function) && !sc.isCoroutine && !sc.isGenerator&&decide N.Nodup&&decide (N.take ps.length=ps)&&ps.all (λx=>decide (sc.names.lookup x=aC .local\/sc.names.lookup x=aC .cell))&&sc.names.all (λy=>decide (y.2≠.free))&&decide ps.Nodup
theorem YQ{N ps:List Str}{sc:az}(h:EX N ps sc):cP N ps sc/\ps.Nodup:=by unfold EX at h;simp only[bG,fL,nv,tP]at h;obtain⟨⟨⟨⟨⟨⟨⟨h1,h2⟩,h3⟩,h4⟩,h5⟩,h6⟩,h7⟩,h8⟩:=h;exact⟨⟨h1,h2,h3,h4,h5,h6,h7⟩,h8⟩
noncomputable def iK(x:Str):Str:=x
noncomputable def cF(K:aI)(T:List Str)(d n:Nat)(x:Str):Option Fn:=match fnAt K x with
 |some (f,o,fd)=>(match wJ fd.params,Jd fd.body with
  |some args,aC body=>if fd.name==iK x&&fd.qualname==x&&Nat.beq fd.globals mainGlobals&&fd.closure.isEmpty&& (isNone fd.defaults||fW K fd.defaults && !args.isEmpty)&&Nat.beq fd.builtins builtinsNs&&PySem.W.codeIn K fd.code x&&PySem.W.keepIn K (.ref f) &&
   EX (wQ (args.map (·.arg)) fd.scope) (args.map (·.arg)) fd.scope then
   (oX (cS K T d n ⟨wQ (args.map (·.arg)) fd.scope,fd.scope.names,true⟩) body).map λb=>⟨(args.map (·.arg)).length,(wQ (args.map (·.arg)) fd.scope).length,b⟩
   else aD
  |_,_=>aD)
 |none=>aD
theorem YR{fd:av}{x:Str}{args:List Arg}{body:List au}(c1:(fd.name==iK x))(c2:(fd.qualname==x))(c3:Nat.beq fd.globals mainGlobals)(c4:fd.closure.isEmpty)(c6:Nat.beq fd.builtins builtinsNs)(ha:wJ fd.params=aC args)(hb:Jd fd.body=aC body) :
 ∃dx,fd=PySem.W.fnOf (iK x) x ⟨[],args,aD,[],[],aD,dx⟩ body fd.scope fd.defaults fd.kwdefaults fd.doc fd.pyModule fd.annotations fd.code fd.closureTuple:=by
 obtain⟨nm,qn,pr,bd,sc,gl,cl,df,kd,dc,pm,an,cdv,ct,bu⟩:=fd;have e1:nm=iK x:=by simpa using c1
 have e2:qn=x:=by simpa using c2
 have e3:gl=mainGlobals:=yS c3;have e4:cl=[]:=by simpa using c4
 have e6:bu=builtinsNs:=yS c6;have e7:bd=.stmts body:=by
  cases bd with|stmts b'=>cases hb;rfl|expr _=>cases hb
 obtain⟨dx,e8⟩:∃dx,pr=⟨[],args,aD,[],[],aD,dx⟩:=by unfold wJ at ha;split at ha;cases ha;rename_i z;exact⟨_,z⟩;cases ha
 exact⟨dx,by rw[e1,e2,e3,e4,e6,e7,e8]⟩
theorem YS{K:aI}{x:Str}{fd:av}{args:List Arg}{body:List au}{dx:List aq}{sc:az}{df kd dc pm:aa}{an:Option ah}{cdv ct:aa}{b:Bool}(e:fd=PySem.W.fnOf (iK x) x ⟨[],args,aD,[],[],aD,dx⟩ body sc df kd dc pm an cdv ct)(nd:(args.map (·.arg)).Nodup)
 (hb:b=fW K df) (c5:(isNone df||fW K df && !args.isEmpty)):Binds K fd (args.map (·.arg)) []/\(b=true->Binds K fd (args.map (·.arg)) [.none])/\(b=false->∀us:List aa,us.length=(args.map (·.arg)).length->bindArgs fd ⟨us,[]⟩=pure ((args.map (·.arg)).zip us)):=by
 subst e hb;rw[qt,bG]at c5;rcases c5 with c5|⟨c5,c0⟩
 have e5:df=.none:=by cases df<;>first|rfl|cases c5
 subst e5;exact⟨.all λus hl=>Pn hl nd,(λz=>nomatch z),λ_ us hl=>Pn hl nd⟩;obtain⟨t,o,n,rfl,hk,hd⟩:=YO c5;rw[c5];obtain⟨qs,z,Ca⟩:∃qs z,args.map (·.arg)=qs++[z]:=by rcases List.eq_nil_or_concat (args.map (·.arg))with q|⟨l,b,q⟩;rw[List.map_eq_nil_iff.mp q]at c0;cases c0;exact⟨l,b,by rw[q,List.concat_eq_append]⟩
 have Je:=nd;rw[Ca]at Je;refine⟨λs us hK hl=>?_,λ_ s us hK hl=>?_,λz=>nomatch z⟩;rw[ny]at hl ⊢;rw[Ca]at hl ⊢;exact Yc Ca Je (hK _ _ hk) hd hl;rw[Ca]at hl ⊢;exact Yd Ca Je (hK _ _ hk) hd (by rw[eZ,eZ]at hl;simpa using hl)
theorem YT{K:aI}{x:Str}{f:ah}{o:Obj}{fd:av}(h:fnAt K x=aC (f,o,fd)):fV K x=aC f/\∃oc od sl,K.lookup f=aC ⟨oc,od,.func fd,sl⟩:=by unfold fnAt at h;split at h;rename_i f' hn;split at h;rename_i o' ho;split at h;rename_i fd' hd;cases h;refine⟨hn,o.cls,o.dict,o.slots,?_⟩;rw[<-hd];exact ho;cases h;cases h;cases h
theorem YU{K:aI}{T:List Str}{d n:Nat}{x:Str}{fn:Fn}:∀(f:ah) (o:Obj) (fd:av) (args:List Arg) (body:List au) (b:S),fnAt K x=aC (f,o,fd)->wJ fd.params=aC args->Jd fd.body=aC body->(fd.name==iK x&&fd.qualname==x&&Nat.beq fd.globals mainGlobals&&fd.closure.isEmpty&& (isNone fd.defaults||fW K fd.defaults && !args.isEmpty)&&Nat.beq fd.builtins builtinsNs&&PySem.W.codeIn K fd.code x&&PySem.W.keepIn K (.ref f) &&
 EX (wQ (args.map (·.arg)) fd.scope) (args.map (·.arg)) fd.scope)=true->oX (cS K T d n ⟨wQ (args.map (·.arg)) fd.scope,fd.scope.names,true⟩) body=aC b->fn=⟨(args.map (·.arg)).length,(wQ (args.map (·.arg)) fd.scope).length,b⟩->∃f fd st ps N,fV K x=aC f/\oU K (iK x) x st f fd/\cP N ps (jb st)/\fn.n=N.length/\fn.ps=ps.length/\(Binds K fd ps []/\(gF K x=true->Binds K fd ps [.none])/\(gF K x=false->∀us:List aa,us.length=ps.length->bindArgs fd ⟨us,[]⟩=pure (ps.zip us)))/\
 oX (cS K T d n ⟨N,(jb st).names,true⟩) (Al st)=aC fn.body/\∃o' fd' args,fnAt K x=aC (f,o',fd')/\wJ fd'.params=aC args/\ps=args.map (·.arg):=by
 intro f o fd args body b hf ha hb hc h1 e;rw[bG,bG,bG,bG,bG,bG,bG,bG]at hc;obtain⟨⟨⟨⟨⟨⟨⟨⟨c1,c2⟩,c3⟩,c4⟩,c5⟩,c6⟩,c7⟩,c8⟩,c9⟩:=hc;obtain⟨S,nd⟩:=YQ c9;obtain⟨hn,oc,od,sl,lk⟩:=YT hf;obtain⟨dx,ef⟩:=YR c1 c2 c3 c4 c6 ha hb;have hh:gF K x=fW K fd.defaults:=by unfold gF;rw[hf]
 exact⟨f,fd,.FunctionDef (iK x) ⟨[],args,aD,[],[],aD,dx⟩ body [] aD [] fd.scope aD (iK x) ⟨0,0,0,0⟩,args.map (·.arg),wQ (args.map (·.arg)) fd.scope,hn,⟨⟨oc,od,_,_,_,_,_,fd.code,_,sl,ef,lk,c7⟩,c8⟩,S,by rw[e],by rw[e],YS ef nd hh c5,by rw[e];exact h1,o,fd,args,hf,ha,rfl⟩
theorem oZ{K:aI}{T:List Str}{d n:Nat}{x:Str}{fn:Fn}(h:cF K T d n x=aC fn):∃f fd st ps N,fV K x=aC f/\oU K (iK x) x st f fd/\cP N ps (jb st)/\fn.n=N.length/\fn.ps=ps.length/\(Binds K fd ps []/\(gF K x=true->Binds K fd ps [.none])/\(gF K x=false->∀us:List aa,us.length=ps.length->bindArgs fd ⟨us,[]⟩=pure (ps.zip us)))/\
 oX (cS K T d n ⟨N,(jb st).names,true⟩) (Al st)=aC fn.body/\∃o' fd' args,fnAt K x=aC (f,o',fd')/\wJ fd'.params=aC args/\ps=args.map (·.arg):=by
 unfold cF at h;split at h;rename_i f o fd hf;split at h;rename_i args body ha hb;split at h;rename_i hc;obtain⟨b,h1,e⟩:=map_some h;exact YU f o fd args body b hf ha hb hc h1 e;cases h;cases h;cases h
theorem EY{α β:Type}{f:α->Option β}:∀{l:List α} {r:List β},aT f l=aC r->∀(i:Nat) (a:α),l[i]?=aC a->∃b,r[i]?=aC b/\f a=aC b
 |[],_,_,i,a,e=>by simp at e
 |x::l,r,h,i,a,e=>by
  unfold aT at h;split at h;rename_i b hb;split at h;rename_i bs B0;cases h;cases i with
  |zero=>simp at e;subst e;exact⟨b,rfl,hb⟩
  |succ i=>
   obtain⟨c,h1,h2⟩:=EY B0 i a (by simpa using e);exact⟨c,by simpa using h1,h2⟩
  cases h;cases h
noncomputable def Jf(K:aI)(T:List Str)(d n:Nat)(x:Str):Option Fn:=if x==("" : Str)then aC ⟨0,0,.no⟩else cF K T d n x
theorem Jg{K:aI}{T:List Str}{d n:Nat}{x:Str}{fn:Fn}(h:Jf K T d n x=aC fn)(hx:x≠""):cF K T d n x=aC fn:=by unfold Jf at h;rw[if_neg (by simpa using hx)]at h;exact h
noncomputable def iX(K:aI)(T:List Str)(d n:Nat):Option (List Fn):=aT (Jf K T d n) T
theorem Qc{P:ai}{w:ak}{K:aI}{mg:Str->Option aa}{base:aA}{T:List Str}{Fs:List Fn}{k:Nat}(KX:K.In base)(G:base.Ns mainGlobals mg){x:Str}{st:au}{f:ah}{N ps:List Str}(S:cP N ps (jb st))
 (H0:∀(i:Nat)(x:Str),T[i]?=aC x->x≠""->∃f fd ps fn,fV K x=aC f/\fC P w K mg base lA k f fd ps (oM K ps.length (run (λi=>Fs[i]?) k i))/\PySem.W.keepIn K (.ref f)=true/\Binds K fd ps []/\Fs[i]?=aC fn/\fn.ps=ps.length/\(gF K x=true->Binds K fd ps [.none]))
 (cdv:aa) (A:ao) (outer:List Env) (s:af) (H:Hp) (E:XK) (hr:cJ k (A.deeper (envOfC x (jb st) s.heap.objs.size f cdv))):iB (jH lA P w K mg base N x (jb st) f cdv A outer s H E).ye ⟨N,(jb st).names,true⟩ T (λi=>Fs[i]?) k:=by
 refine⟨rfl,S.nd,λy hy=>?_,λy hy=>?_,λy hy=>hy,λy hy=>hy,rfl,hr,rfl,S.kind,λy v hv=>PySem.W.mg_of KX G hv,λy hv=>PySem.W.mg_none_of KX G hv,H0⟩;have hy:sf ((jb st).names.lookup y)=true:=hy;cases z:(jb st).names.lookup y with
 |none=>rw[z]at hy;cases hy
 |some kd=>cases kd<;>first|exact .inl z|exact .inr (.inl z)|exact .inr (.inr z)|(rw[z]at hy;cases hy)
 have hy:sj true ((jb st).names.lookup y)=true:=hy;cases z:(jb st).names.lookup y with
 |none=>rw[z]at hy;cases hy
 |some kd=>cases kd<;>first|exact⟨.inl z,.inl rfl⟩|exact⟨.inr z,.inl rfl⟩|(rw[z]at hy;cases hy)
theorem YV{P:ai}{w:ak}{K:aI}{mg:Str->Option aa}{base:aA}{T:List Str}{d n:Nat}{Fs:List Fn}(hP:iX K T d n=aC Fs)(KX:K.In base)(G:base.Ns mainGlobals mg)(k:Nat):∀(j:Nat),j<=k->∀(i:Nat) (x:Str),T[i]?=aC x->x≠""->
 ∃f fd ps fn,fV K x=aC f/\fC P w K mg base lA j f fd ps (oM K ps.length (run (λi=>Fs[i]?) j i))/\PySem.W.keepIn K (.ref f)=true/\Binds K fd ps []/\Fs[i]?=aC fn/\fn.ps=ps.length/\(gF K x=true->Binds K fd ps [.none]):=by
 induction k with
 |zero=>
  intro j hj i x e hx;have:j=0:=Nat.le_zero.mp hj;subst this;obtain⟨fn,h1,h2⟩:=EY hP i x e;obtain⟨f,fd,st,ps,N,a1,a2,a3,a4,a5,a6,a7,_⟩:=oZ (Jg h2 hx);exact⟨f,fd,ps,fn,a1,Py,a2.kp,a6.1,h1,a5,a6.2.1⟩
 |succ k ih=>
  intro j hj i x e hx;by_cases hjk:j<=k;exact ih j hjk i x e hx;have:j=k+1:=by lia
  subst this;obtain⟨fn,h1,h2⟩:=EY hP i x e;obtain⟨f,fd,st,ps,N,a1,a2,a3,a4,a5,a6,a7,_⟩:=oZ (Jg h2 hx);exact⟨f,fd,ps,fn,a1,Px (F:=λi=>Fs[i]?) h1 a2 a3 a4 a5 λcdv A outer s H E hr=>wO (oY (Qc KX G a3 (λj y hj hy=>ih k (aQ _) j y hj hy) cdv A outer s H E hr) n) a7,a2.kp,a6.1,h1,a5,a6.2.1⟩
noncomputable def Cb:Res W->Bool|.ok (.bl true) _=>true|_=>false
noncomputable def says(K:aI)(T:List Str)(d n k i:Nat)(ns:List Int):Bool:=match iX K T d n with|some Fs=>Cb (run (λi=>Fs[i]?) k i [.fz (ns.map .int)] ⟨0,0,[]⟩)|none=>false
theorem YW{r:Res W}(h:Cb r):∃h',r=.ok (.bl true) h':=by
 cases r with
 |no=>cases h
 |ex _ _=>cases h
 |ok w h'=>cases w<;>first|(rename_i b;cases b<;>first|exact⟨h',rfl⟩|cases h)|cases h
theorem Qd{K:aI}{m:Nat->ah}{n:Nat}{H:Hp}:∀(ns:List Int),aF K m n H (ns.map V.int) (ns.map W.int)|[]=>.nil|i::r=>.cons (.int i) (Qd r)
theorem Qe{K:aI}{T:List Str}{d n k i:Nat}{ns:List Int}(h:says K T d n k i ns):∃Fs h',iX K T d n=aC Fs/\run (λi=>Fs[i]?) k i [.fz (ns.map .int)] ⟨0,0,[]⟩=.ok (.bl true) h':=by unfold says at h;split at h;rename_i Fs hF;obtain⟨h',e⟩:=YW h;exact⟨Fs,h',hF,e⟩;cases h
theorem YX{K:aI}{T:List Str}{d n k i:Nat}{ns:List Int}{Fs:List Fn}(hP:iX K T d n=aC Fs)(h:Cb (run (λi=>Fs[i]?) k i [.fz (ns.map .int)] ⟨0,0,[]⟩)):says K T d n k i ns=true:=by unfold says;rw[hP];exact h
noncomputable def o4(K:aI)(x:Str):Bool:=match fnAt K x with
 |some (_,_,fd)=>(match wJ fd.params with
  |some [a]=>a.arg==("_law_script" : Str) && !(fW K fd.defaults)
  |_=>false)
 |none=>false
theorem YY{l:PySem.W.OpenLaw}{q:ai}{loose:List Str}{XP:(Str->Option aa)->aA->Prop}{YP:ak->aA->Prop}{dr:DefRec}{K:Params->aI}(T:List Str)(d n k i:Nat)(hn:l.most=aC 63)(hdf:dr.params.defaults=[])(hr:cJ k callerA)
 (hY:∀(w:ak)(h:aA),YP w h->(K w.params).In h) (hT:T[i]?=aC dr.name) (hne:dr.name≠"") (hS:∀(w:ak)(ns:List Int),ns.length<=63->says (K w.params) T d n k i ns) (hL:∀w:ak,o4 (K w.params) dr.name) :
 PySem.W.WalkO q loose XP YP l.row.toRowW dr [] (λf vs=>PySem.call f vs):=by
 have any:∀w:ak,∃Fs,iX (K w.params) T d n=aC Fs:=λw=>let⟨Fs,_,h,_⟩:=Qe (hS w [] (gh _));⟨Fs,h⟩;refine L2.Ul (n:=63) (k:=k) (x:="_law_script") (CX:=λ_=>lA) (sp:=λw=>oM (K w.params) 1 (run (λj=>(Classical.choose (any w))[j]?) k i)) hn (by decide) hdf hr hY ?_ ?_ λ_ _ _ _ _ z=>z;intro w mg fa h KX G hmg;have hP:=Classical.choose_spec (any w);obtain⟨fn',h1,h2⟩:=EY hP i _ hT;obtain⟨f',fd',st,ps',N,a1,a2,a3,a4,a5,a6,a7,o',YZ,args,a8,a9,Jh⟩:=oZ (Jg h2 hne);have hps:ps'=[("_law_script" : Str)]:=by
  have hl:=hL w;unfold o4 at hl;rw[a8]at hl;simp only[a9]at hl;cases args with
  |nil=>cases hl
  |cons z zs=>
   cases zs with
   |nil=>
    rw[bG]at hl;have hl:z.arg = "_law_script":=by simpa using hl.1
    rw[Jh,gQ,hl];rfl
   |cons _ _=>cases hl
 have hnd:gF (K w.params) dr.name=false:=by have hl:=hL w;unfold o4 at hl;rw[a8]at hl;unfold gF;rw[a8];simp only[a9]at hl;split at hl;rw[bG]at hl;simpa using hl.2;cases hl
 have e:=PySem.W.mg_of KX G (Pz a1);rw[hmg]at e;cases e;subst hps;refine⟨fd',λs u=>.of_eq (a6.2.2 hnd [u] rfl),λbase KB GB=>?_⟩;cases k with|zero=>exact Py|succ k=>exact Px (F:=λj=>(Classical.choose (any w))[j]?) h1 a2 a3 a4 a5 λcdv A outer s H E hr=>wO (oY (Qc KB GB a3 (λj y hj hy=>YV hP KB GB k k (aQ _) j y hj hy) cdv A outer s H E hr) n) a7
 intro w H a ns hl hO hQ;obtain⟨Fs,h',e1,e2⟩:=Qe (hS w ns hl);have hP:=Classical.choose_spec (any w);rw[hP]at e1;cases e1;refine⟨rfl,⟨0,0,[]⟩,λ_=>0,_,_,h',⟨λi hi=>absurd hi (Nat.not_lt_zero _),λi j hi=>absurd hi (Nat.not_lt_zero _),rfl⟩,.cons (.fz ?_ (Qd ns)) .nil,e2,λv H' m' _ _ q=>by cases q;rfl⟩;rcases hQ with(q|⟨o,q⟩)|q
 rcases hO a with z|⟨o,xs,z⟩;rw[z]at q;cases q;rw[z]at q;cases q;exact .inl ⟨o,q⟩;exact .inr q
section
open E renaming var->v,cons->c,cst->k,nil->n,call->f,idx->x,cmp->p,bi->b,op->o,not->z,and->a,or->r,jh->t,rM->i,slc->l,lst->m,lc->u,neg->y,mt->w
open S renaming seq->q,skip->s,ret->e,set->d,A9->g,expr->h,put->j
noncomputable def EZ:Fn:=⟨1,1,(q (e (a (i .int (v 0)) (z (i .bool (v 0))))) s)⟩
noncomputable def Ji:Fn:=⟨3,3,(q (e (a (f 0 (c (v 0) n)) (.wm .le .le (v 1) (v 0) (v 2)))) s)⟩
noncomputable def E1:Fn:=⟨2,2,(q (.ite (p .eq (b .len (c (v 0) n)) (k (.int 0))) (q (e (o .add (o .mul (k (.int 7)) (v 1)) (k (.int 3)))) s) s) (q (e (b .abs (c (x (v 0) (o .mod (v 1) (b .len (c (v 0) n)))) n))) s))⟩
noncomputable def zdt:E:=(p .ge (b .abs (c (v 0) n)) (o .pow (k (.int 10)) (k (.int 18))))
noncomputable def uE:E:=(b .abs (c (v 0) n))
noncomputable def Cc:Fn:=⟨1,1,(q (e (m (c (v 0) (c (u .seq (v 0) (.one 0) 1 [] zdt uE) (c (k (.int 0)) (c (k (.int 0)) n)))))) s)⟩
noncomputable def Jj:Fn:=⟨3,4,(q (d 3 (o .mod (o .pow (o .add (o .mul (o .add (o .mod (f 2 (c (v 0) (c (v 1) n))) (k (.int 1000003))) (k (.int 5))) (o .add (v 1) (k (.int 2)))) (o .mul (k (.int 7919)) (v 1))) (k (.int 5))) (k (.int 2147483647)))) (q (e (o .mod (o .fdiv (v 3) (k (.int 13))) (v 2))) s))⟩
noncomputable def Cd:E:=(p .lt (x (v 0) (k (.int 2))) (b .len (c (x (v 0) (k (.int 1))) n)))
noncomputable def zev:S:=(q (d 2 (x (x (v 0) (k (.int 1))) (x (v 0) (k (.int 2))))) (q (.ite (p .gt (v 2) (k (.int 0))) (q (j (x (v 0) (k (.int 1))) (x (v 0) (k (.int 2))) (o .fdiv (v 2) (v 1))) (q (e (o .mod (v 2) (v 1))) s)) s) (q (j (v 0) (k (.int 2)) (o .add (x (v 0) (k (.int 2))) (k (.int 1)))) s)))
noncomputable def su:Fn:=⟨2,3,(q (.EE Cd zev) (q (j (v 0) (k (.int 3)) (o .add (x (v 0) (k (.int 3))) (k (.int 1)))) (q (e (f 4 (c (x (v 0) (k (.int 0))) (c (x (v 0) (k (.int 3))) (c (v 1) n))))) s)))⟩
noncomputable def Ce:Fn:=⟨3,3,(q (e (a (i .tuple (v 0)) (.wm .le .le (v 1) (b .len (c (v 0) n)) (v 2)))) s)⟩
noncomputable def E4:S:=(q (.ite (z (t (f 1 (c (v 5) (c (v 3) (c (v 4) n)))))) (q (e (k (.bl false))) s) s) s)
noncomputable def Cf:Fn:=⟨5,6,(q (.ite (z (t (f 6 (c (v 0) (c (v 1) (c (v 2) n)))))) (q (e (k (.bl false))) s) s) (q (.«for» .seq (v 0) (.one 5) E4) (q (e (k (.bl true))) s)))⟩
noncomputable def E5:S:=(q (.ite (z (t (f 11 (c (v 3) (c (v 2) n))))) (q (e (k (.bl false))) s) s) s)
noncomputable def Jk:Fn:=⟨3,4,(q (.ite (z (t (f 6 (c (v 0) (c (v 1) (c (v 1) n)))))) (q (e (k (.bl false))) s) s) (q (.«for» .seq (v 0) (.one 3) E5) (q (e (k (.bl true))) s)))⟩
noncomputable def E6:S:=(q (.ite (z (t (f 6 (c (v 2) (c (v 1) (c (v 1) n)))))) (q (e (k (.bl false))) s) s) s)
noncomputable def Jl:Fn:=⟨2,3,(q (.ite (z (t (f 6 (c (v 0) (c (k (.int 0)) (c (k (.int 60)) n)))))) (q (e (k (.bl false))) s) s) (q (.«for» .seq (v 0) (.one 2) E6) (q (e (k (.bl true))) s)))⟩
noncomputable def wR:Fn:=⟨1,6,(q (.ite (z (t (f 6 (c (v 0) (c (k (.int 5)) (c (k (.int 5)) n)))))) (q (e (k (.bl false))) s) s) (q (g [1,2,3,4,5] (v 0)) (q (.ite (r (z (t (f 1 (c (v 1) (c (k (.int 1)) (c (k (.int 40)) n)))))) (z (t (f 1 (c (v 2) (c (k (.int 0)) (c (k (.int 8)) n))))))) (q (e (k (.bl false))) s) s) (q (.ite (z (t (f 7 (c (v 4) (c (k (.int 1)) (c (k (.int 4)) (c (k (.int 0)) (c (o .sub (v 1) (k (.int 1))) n)))))))) (q (e (k (.bl false))) s) s) (q (e (a (f 9 (c (v 3) (c (v 1) n))) (f 8 (c (v 5) (c (v 1) (c (b .len (c (v 4) n)) n)))))) s)))))⟩
noncomputable def sA:Fn:=⟨2,4,(q (.ite (z (t (f 6 (c (v 0) (c (k (.int 2)) (c (k (.int 2)) n)))))) (q (e (k (.bl false))) s) s) (q (g [2,3] (v 0)) (q (e (a (f 1 (c (v 2) (c (k (.int 0)) (c (k (.int 99)) n)))) (f 12 (c (v 3) (c (v 1) n))))) s)))⟩
noncomputable def wU:Fn:=⟨2,2,(q (e (r (p .oF (v 0) (k .aO)) (f 1 (c (v 0) (c (k (.int 0)) (c (o .sub (v 1) (k (.int 1))) n)))))) s)⟩
noncomputable def sC:Fn:=⟨2,4,(q (.ite (z (t (f 6 (c (v 0) (c (k (.int 2)) (c (k (.int 2)) n)))))) (q (e (k (.bl false))) s) s) (q (g [2,3] (v 0)) (q (e (a (f 1 (c (v 2) (c (k (.int 0)) (c (o .sub (v 1) (k (.int 1))) n)))) (f 1 (c (v 3) (c (k (.int 0)) (c (k (.int 1)) n)))))) s)))⟩
noncomputable def E7:S:=(q (.ite (z (t (f 15 (c (v 7) (c (v 6) (c (v 1) (c (v 2) n))))))) (q .no s) s) s)
noncomputable def E8:S:=(q (.«for» .pZ (v 5) (.many [6,7]) E7) s)
noncomputable def wV:Fn:=⟨1,8,(q (.ite (z (t (f 10 (c (v 0) n)))) (q .no s) s) (q (g [1,2,3] (l (v 0) false (k .aO) true (k (.int 3)))) (q (.«for» .pZ (v 3) (.many [4,5]) E8) s)))⟩
noncomputable def wW:Fn:=⟨4,4,(q (.ite (r (p .eq (v 0) (k (.str (br "x")))) (t (f 13 (c (v 0) (c (v 3) n))))) (q (e (.wm .lt .lt (k (.int 0)) (v 1) (o .sub (v 2) (k (.int 1))))) s) s) (q (.ite (p .eq (v 0) (k (.str (br "<")))) (q (e (p .gt (v 1) (k (.int 0)))) s) s) (q (.ite (p .eq (v 0) (k (.str (br ">")))) (q (e (p .lt (v 1) (o .sub (v 2) (k (.int 1))))) s) s) (q (e (r (p .eq (v 0) (k (.str (br ".")))) (p .eq (v 0) (k (.str (br "s")))))) s))))⟩
noncomputable def wX:Fn:=⟨2,4,(q (d 2 (x (m (c (f 5 (c (v 0) (c (k (.int 3)) n))) (c (f 5 (c (v 0) (c (k (.int 100)) n))) n))) (b .int (c (p .eq (f 5 (c (v 0) (c (k (.int 4)) n))) (k (.int 0))) n)))) (q (d 3 (f 5 (c (v 0) (c (v 1) n)))) (q (.ite (p .eq (f 5 (c (v 0) (c (k (.int 8)) n))) (k (.int 0))) (q (e (.tup (c (v 2) (c (k .aO) n)))) s) s) (q (e (.tup (c (v 2) (c (v 3) n)))) s))))⟩
noncomputable def sD:Fn:=⟨2,2,(q (e (f 7 (c (v 0) (c (v 1) (c (v 1) (c (k (.int 0)) (c (k (.int 1)) n))))))) s)⟩
noncomputable def Fb:E:=(f 5 (c (v 1) (c (k (.int 2)) n)))
noncomputable def o5:Fn:=⟨2,2,(q (e (b .tuple (c (u .bg (c (v 1) n) (.one 0) 1 [0] (k (.bl true)) Fb) n))) s)⟩
noncomputable def o9:Fn:=⟨2,2,(q (h (f 14 (c (v 0) n))) (q (e (f 17 (c (v 1) (c (x (v 0) (k (.int 1))) n)))) s))⟩
noncomputable def sE:Fn:=⟨2,2,(q (.ite (z (t (f 22 (c (v 0) (c (v 1) n))))) (q .no s) s) s)⟩
noncomputable def sF:Fn:=⟨3,3,(q (e (f 7 (c (v 0) (c (k (.int 0)) (c (v 2) (c (k (.int 0)) (c (o .sub (v 1) (k (.int 1))) n))))))) s)⟩
noncomputable def jW:Fn:=⟨4,6,(q (d 4 (f 5 (c (v 0) (c (k (.int 10)) n)))) (q (d 5 (x (m (c (k (.str (br "."))) (c (k (.str (br "<"))) (c (k (.str (br ">"))) (c (k (.str (br "x"))) (c (k (.str (br "."))) (c (k (.str (br "."))) n))))))) (b .min (c (v 4) (c (k (.int 5)) n))))) (q (.ite (a (p .gt (v 4) (k (.int 4))) (p .gt (v 3) (k (.int 0)))) (q (d 5 (.tup (c (f 5 (c (v 0) (c (v 3) n))) (c (f 5 (c (v 0) (c (k (.int 2)) n))) n)))) s) s) (q (.ite (a (p .eq (v 4) (k (.int 4))) (p .eq (f 5 (c (v 0) (c (k (.int 4)) n))) (k (.int 0)))) (q (e (k (.str (br "s")))) s) s) (q (.ite (r (a (p .eq (v 1) (k (.int 0))) (p .wj (v 5) (.tup (c (k (.str (br "."))) (c (k (.str (br ">"))) n))))) (a (p .eq (v 1) (o .sub (v 2) (k (.int 1)))) (p .wj (v 5) (.tup (c (k (.str (br "."))) (c (k (.str (br "<"))) n)))))) (q (e (x (m (c (k (.str (br ">"))) (c (k (.str (br "<"))) (c (k (.str (br "."))) n)))) (b .min (c (o .add (b .int (c (p .gt (v 1) (k (.int 0))) n)) (o .mul (k (.int 2)) (b .int (c (p .eq (v 2) (k (.int 1))) n)))) (c (k (.int 2)) n))))) s) s) (q (.ite (a (p .eq (v 2) (k (.int 1))) (p .ne (v 5) (k (.str (br "."))))) (q (e (k (.str (br ".")))) s) s) (q (e (v 5)) s)))))))⟩
noncomputable def Fc:E:=(f 103 (c (v 1) (c (v 0) (c (v 3) (c (v 2) n)))))
noncomputable def lS:Fn:=⟨3,3,(q (e (b .tuple (c (u .bg (c (v 1) n) (.one 0) 1 [0,2,1] (k (.bl true)) Fc) n))) s)⟩
noncomputable def Qf:E:=(f 104 (c (v 1) (c (v 3) (c (v 2) n))))
noncomputable def Qg:E:=(f 5 (c (v 1) (c (v 2) n)))
noncomputable def Qh:E:=(f 23 (c (v 1) (c (b .len (c (v 2) n)) n)))
noncomputable def pe:Fn:=⟨4,9,(q (d 4 (o .add (k (.int 1)) (f 5 (c (v 0) (c (v 1) n))))) (q (d 5 (f 5 (c (v 0) (c (o .add (v 3) (k (.int 1))) n)))) (q (d 6 (u .bg (c (f 5 (c (v 0) (c (o .add (v 2) (k (.int 1))) n))) n) (.one 0) 1 [0,5,4] (k (.bl true)) Qf)) (q (d 7 (b .tuple (c (u .bg (c (o .add (k (.int 1)) (f 5 (c (v 0) (c (k (.int 4)) n)))) n) (.one 0) 1 [0,4] (k (.bl true)) Qg) n))) (q (d 8 (b .tuple (c (u .bg (c (v 4) n) (.one 0) 1 [0,7] (k (.bl true)) Qh) n))) (q (e (.tup (c (v 4) (c (v 5) (c (b .tuple (c (v 6) n)) (c (v 7) (c (v 8) n))))))) s))))))⟩
noncomputable def Qi:E:=(f 151 (c (v 0) (c (v 1) n)))
noncomputable def iY:Fn:=⟨2,2,(q (.ite (r (z (t (i .tuple (v 0)))) (p .ne (b .len (c (v 0) n)) (b .len (c (v 1) n)))) (q (e (k (.bl false))) s) s) (q (e (b .all (c (u .zip (c (v 0) (c (v 1) n)) (.many [0,1]) 2 [] (k (.bl true)) Qi) n))) s))⟩
noncomputable def iC:Fn:=⟨2,2,(q (e (a (i .int (v 0)) (a (z (i .bool (v 0))) (p .eq (v 0) (v 1))))) s)⟩
noncomputable def dJ:Fn:=⟨4,7,(q (.ite (t (i .tuple (v 0))) (q (g [4,5] (v 0)) (q (d 6 (x (v 2) (v 4))) (q (.ite (p .ne (v 4) (v 3)) (q (j (v 2) (v 4) (o .sub (k (.int 1)) (v 6))) s) s) (q (e (.ite (p .eq (v 6) (v 5)) (k (.int (-1))) (k (.int 1)))) s)))) s) (q (.ite (p .eq (v 0) (k (.str (br "s")))) (q (e (k .aO)) s) s) (q (.ite (p .eq (v 0) (k (.str (br "x")))) (q (e (v 1)) s) s) (q (.ite (p .eq (v 0) (k (.str (br ".")))) (q (e (k (.int 0))) s) s) (q (e (.ite (p .eq (v 0) (k (.str (br "<")))) (k (.int (-1))) (k (.int 1)))) s)))))⟩
noncomputable abbrev Cg:E:=.A8 (c (k (.str (br "."))) (c (k (.int 0)) (c (k (.str (br "<"))) (c (y (k (.int 1))) (c (k (.str (br ">"))) (c (k (.int 1)) n))))))
noncomputable def fX:Fn:=⟨3,4,(q (.ite (r (p .eq (v 0) (k (.str (br ".")))) (r (p .eq (v 0) (k (.str (br "<")))) (p .eq (v 0) (k (.str (br ">")))))) (q (e (x (.A8 (c (k (.str (br "."))) (c (k (.int 0)) (c (k (.str (br "<"))) (c (y (k (.int 1))) (c (k (.str (br ">"))) (c (k (.int 1)) n))))))) (v 0))) s) s) (q (.ite (p .eq (v 0) (k (.str (br "x")))) (q (e (v 2)) s) s) (q (d 3 (o .sub (k (.int 1)) (o .mul (k (.int 2)) (b .int (c (p .eq (x (v 1) (x (v 0) (k (.int 0)))) (x (v 0) (k (.int 1)))) n))))) (q (j (v 1) (x (v 0) (k (.int 0))) (o .sub (k (.int 1)) (x (v 1) (x (v 0) (k (.int 0)))))) (q (e (v 3)) s)))))⟩
noncomputable def lT:E:=r (p .eq (v 0) (k (.str (br ".")))) (r (p .eq (v 0) (k (.str (br "<")))) (p .eq (v 0) (k (.str (br ">")))))
noncomputable def Ci:S:=(q (.ite (p .mJ (x (v 9) (v 11)) (k .aO)) (q (j (v 9) (v 11) (f 173 (c (x (x (v 4) (v 12)) (x (v 8) (v 11))) (c (x (v 9) (v 11)) (c (v 7) (c (k .aO) n)))))) s) s) (q (.ite (p .mJ (x (v 9) (v 11)) (k .aO)) (q (.Ba (v 8) (v 11) (x (v 9) (v 11))) s) s) s))
noncomputable def Jm:E:=(x (v 1) (v 0))
noncomputable def Jo:E:=(k (.int 0))
noncomputable def Fd:E:=(.ite (p .oF (v 1) (k .aO)) (k (.tup [.aO,.aO])) (x (v 2) (v 0)))
noncomputable def Jp:E:=(x (v 0) (k (.int 0)))
noncomputable def lU:Fn:=⟨4,14,(q (h (f 24 (c (v 0) (c (v 1) n)))) (q (g [4,5,6] (l (v 0) true (k (.int 2)) false (k .aO))) (q (.ite (z (t (f 28 (c (v 2) (c (b .len (c (v 5) n)) (c (k (.int 200)) n)))))) (q .no s) s) (q (.ite (z (t (f 1 (c (v 3) (c (k (.int 1)) (c (k (.int 100)) n)))))) (q .no s) s) (q (d 7 (b .list (c (v 1) n))) (q (d 8 (u .seq (v 2) (.one 0) 1 [5] (k (.bl true)) Jm)) (q (d 9 (u .seq (v 2) (.one 0) 1 [] (k (.bl true)) Jo)) (q (.«for» .seq (f 107 (c (b .len (c (v 2) n)) (c (b .len (c (v 4) n)) (c (v 3) n)))) (.many [10,11,12]) Ci) (q (d 13 (u .zip (c (v 8) (c (v 9) n)) (.many [0,1]) 2 [6] (k (.bl true)) Fd)) (q (e (.tup (c (b .tuple (c (u .seq (v 13) (.one 0) 1 [] (k (.bl true)) Jp) n)) (c (b .tuple (c (v 7) n)) n)))) s))))))))))⟩
noncomputable def wY:E:=(c (v 3) n)
noncomputable def yE:E:=(.tup (c (o .add (o .mul (v 0) (v 2)) (v 1)) (c (v 0) (c (v 1) n))))
noncomputable def lV:Fn:=⟨3,3,(q (e (b .A7 (c (.oG .bg (c (v 0) n) (.one 0) 2 [2,1] (k (.bl true)) .bg wY (.one 1) (k (.bl true)) yE) n))) s)⟩
noncomputable def Fe:E:=(m (c (x (x (v 1) (k (.int 3))) (v 0)) (c (k (.int 0)) (c (k (.bl false)) n))))
noncomputable def Qj:E:=(.tup (c (o .add (o .mul (v 2) (v 1)) (v 0)) (c (v 2) (c (v 0) n))))
noncomputable def Jq:S:=(q (d 6 (o .add (v 6) (u .bg (c (b .len (c (v 4) n)) n) (.one 0) 1 [3,7] (k (.bl true)) Qj))) s)
noncomputable def wZ:S:=(q (d 10 (x (v 5) (v 7))) (q (d 11 (x (x (v 4) (v 8)) (x (v 10) (k (.int 0))))) (q (.ite (p .eq (v 11) (k (.str (br "s")))) (q (j (v 10) (k (.int 2)) (k (.bl true))) s) s) (q (.ite (z (t (x (v 10) (k (.int 2))))) (q (j (v 10) (k (.int 1)) (f 158 (c (v 11) (c (v 1) (c (x (v 10) (k (.int 1))) n))))) (q (j (v 10) (k (.int 0)) (o .add (x (v 10) (k (.int 0))) (x (v 10) (k (.int 1))))) s)) s) s))))
noncomputable def Ff:E:=(.ite (t (x (v 0) (k (.int 2)))) (k .aO) (x (x (x (v 1) (k (.int 4))) (x (v 0) (k (.int 0)))) (k (.int 0))))
noncomputable def pq:Fn:=⟨4,13,(q (d 4 (x (v 0) (k (.int 2)))) (q (d 1 (b .list (c (v 1) n))) (q (d 5 (u .seq (v 2) (.one 0) 1 [0] (k (.bl true)) Fe)) (q (d 6 (m n)) (q (.«for» .bg (c (b .len (c (v 2) n)) n) (.one 7) Jq) (q (.«for» .seq (b .A7 (c (v 6) n)) (.many [9,7,8]) wZ) (q (d 12 (u .seq (v 5) (.one 0) 1 [0] (k (.bl true)) Ff)) (q (e (m (c (v 12) (c (b .tuple (c (v 1) n)) n)))) s))))))))⟩
noncomputable def Qk:E:=(f 153 (c (v 0) (c (v 1) n)))
noncomputable def jX:Fn:=⟨2,2,(q (.ite (r (z (t (i .tuple (v 0)))) (r (p .ne (b .len (c (v 0) n)) (k (.int 2))) (z (t (i .tuple (x (v 0) (k (.int 0)))))))) (q (e (k (.bl false))) s) s) (q (.ite (r (p .ne (b .len (c (x (v 0) (k (.int 0))) n)) (b .len (c (x (v 1) (k (.int 0))) n))) (z (t (f 140 (c (x (v 0) (k (.int 1))) (c (x (v 1) (k (.int 1))) n)))))) (q (e (k (.bl false))) s) s) (q (e (b .all (c (u .zip (c (x (v 0) (k (.int 0))) (c (x (v 1) (k (.int 0))) n)) (.many [0,1]) 2 [] (k (.bl true)) Qk) n))) s)))⟩
noncomputable def i6:Fn:=⟨2,2,(q (.ite (p .oF (v 1) (k .aO)) (q (e (p .oF (v 0) (k .aO))) s) s) (q (e (f 151 (c (v 0) (c (v 1) n)))) s))⟩
noncomputable def Fg:E:=(f 5 (c (v 2) (c (b .len (c (x (v 1) (k (.int 3))) n)) n)))
noncomputable def Fi:S:=(q (d 6 (f 5 (c (v 1) (c (k (.int 4)) n)))) (q (d 7 (o .add (k (.int 1)) (f 5 (c (v 1) (c (x (m (c (k (.int 100)) (c (k (.int 9)) (c (k (.int 9)) (c (k (.int 3)) n))))) (v 6)) n))))) (q (d 8 (b .tuple (c (u .bg (c (f 5 (c (v 1) (c (k (.int 16)) n))) n) (.one 0) 1 [2,1] (k (.bl true)) Fg) n))) (q (h (w .append (v 4) (c (m (c (v 8) (c (v 7) (c (f 142 (c (v 2) (c (v 3) (c (v 8) (c (v 7) n))))) n)))) n))) s))))
noncomputable def Cj:S:=(q (.ite (z (t (f 156 (c (f 270 (c (v 2) (c (v 3) (c (v 8) (c (v 7) n))))) (c (v 9) n))))) (q (e (k (.bl false))) s) s) s)
noncomputable def Fj:Fn:=⟨1,10,(q (d 1 (f 3 (c (v 0) n))) (q (d 2 (f 129 (c (v 1) (c (k (.int 9)) (c (k (.int 8)) (c (k (.int 4)) n)))))) (q (d 3 (f 20 (c (v 1) (c (x (v 2) (k (.int 1))) n)))) (q (d 4 (m n)) (q (.«for» .bg (c (k (.int 3)) n) (.one 5) Fi) (q (.«for» .seq (o .add (v 4) (l (v 4) false (k .aO) true (k (.int 1)))) (.many [8,7,9]) Cj) (q (e (k (.bl true))) s)))))))⟩
noncomputable def eV:Fn:=⟨0,0,.no⟩
end
noncomputable def fin(h:VH)(r:Res Fl):Res W:=r.bind λfl h'=>match fl with|.nx _=>leave h .aO h'|.rt w=>leave h w h'|_=>.no
theorem eE{F:Nat->Option Fn}{k f:Nat}{fn:Fn}{ws:List W}{h:VH}(hF:F f=aC fn)(hl:ws.length=fn.ps) :
 run F (k+1) f ws h=fin h (exs (run F k) fn.body (ws.map aC++bE (fn.n-fn.ps) aD) ⟨h.n,h.n,h.os⟩):=by
 simp only[run,hF];rw[if_pos (by rw[hl];exact Nat.beq_refl _)];rfl
theorem Ql{h:VH}{w:W}{h':VH}(h1:h.n<=h'.lo)(h2:W.lt h.n w):leave h w h'=.ok w h:=by unfold leave;rw[if_pos (by rw[bG];exact⟨tO.mpr h1,h2⟩)]
theorem dM{h h':VH}{w:W}(h1:h.n<=h'.lo)(h2:W.lt h.n w):fin h (.ok (.rt w) h')=.ok w h:=Ql h1 h2
theorem Qm{h h':VH}{ρ:En}(h1:h.n<=h'.lo):fin h (.ok (.nx ρ) h')=.ok .aO h:=Ql h1 (by simp only[W.lt])
@[simp] theorem aE {α β:Type} {a:α} {h:VH} {f:α->VH->Res β}:(Res.ok a h).bind f=f a h:=rfl
@[simp] theorem Jr {α β:Type} {f:α->VH->Res β}:(Res.no:Res α).bind f=.no:=rfl
@[simp] theorem fK {α:Type} {a:α} {h:VH}:Res.of (aC a) h=.ok a h:=rfl
@[simp] theorem Js {α:Type} {h:VH}:Res.of (aD:Option α) h=.no:=rfl
@[simp] theorem Jt {n:Nat}:W.lt n .aO=true:=by simp only[W.lt]
@[simp] theorem Qn {n:Nat} {b:Bool}:W.lt n (.bl b)=true:=by simp only[W.lt]
@[simp] theorem lt_int {n:Nat} {b:Int}:W.lt n (.int b)=true:=by simp only[W.lt]
@[simp] theorem lt_str {n:Nat} {b:Str}:W.lt n (.str b)=true:=by simp only[W.lt]
@[simp] theorem xg {n:Nat} {b:List W}:W.lt n (.tup b)=W.mH n b:=by simp only[W.lt]
@[simp] theorem Fo {n:Nat}:W.mH n []=true:=by simp only[W.mH]
@[simp] theorem pA {n:Nat} {b:W} {r:List W}:W.mH n (b::r)=(W.lt n b&&W.mH n r):=by simp only[W.mH]
@[simp] theorem xh:((Ty.int==Ty.int):Bool)=true:=rfl
@[simp] theorem uF:((Ty.int==Ty.bool):Bool)=false:=rfl
@[simp] theorem sG:((Ty.int==Ty.tuple):Bool)=false:=rfl
@[simp] theorem uG:((Ty.int==Ty.list):Bool)=false:=rfl
@[simp] theorem xj:((Ty.int==Ty.str):Bool)=false:=rfl
@[simp] theorem uH:((Ty.int==Ty.dict):Bool)=false:=rfl
@[simp] theorem uI:((Ty.bool==Ty.int):Bool)=false:=rfl
@[simp] theorem sH:((Ty.bool==Ty.bool):Bool)=true:=rfl
@[simp] theorem qc:((Ty.bool==Ty.tuple):Bool)=false:=rfl
@[simp] theorem sI:((Ty.bool==Ty.list):Bool)=false:=rfl
@[simp] theorem uJ:((Ty.bool==Ty.str):Bool)=false:=rfl
@[simp] theorem sJ:((Ty.bool==Ty.dict):Bool)=false:=rfl
@[simp] theorem sL:((Ty.tuple==Ty.int):Bool)=false:=rfl
@[simp] theorem qe:((Ty.tuple==Ty.bool):Bool)=false:=rfl
@[simp] theorem eF:((Ty.tuple==Ty.tuple):Bool)=true:=rfl
@[simp] theorem qf:((Ty.tuple==Ty.list):Bool)=false:=rfl
@[simp] theorem sM:((Ty.tuple==Ty.str):Bool)=false:=rfl
@[simp] theorem qg:((Ty.tuple==Ty.dict):Bool)=false:=rfl
@[simp] theorem uK:((Ty.list==Ty.int):Bool)=false:=rfl
@[simp] theorem sN:((Ty.list==Ty.bool):Bool)=false:=rfl
@[simp] theorem qh:((Ty.list==Ty.tuple):Bool)=false:=rfl
@[simp] theorem sO:((Ty.list==Ty.list):Bool)=true:=rfl
@[simp] theorem uL:((Ty.list==Ty.str):Bool)=false:=rfl
@[simp] theorem sP:((Ty.list==Ty.dict):Bool)=false:=rfl
@[simp] theorem xm:((Ty.str==Ty.int):Bool)=false:=rfl
@[simp] theorem uM:((Ty.str==Ty.bool):Bool)=false:=rfl
@[simp] theorem sQ:((Ty.str==Ty.tuple):Bool)=false:=rfl
@[simp] theorem uN:((Ty.str==Ty.list):Bool)=false:=rfl
@[simp] theorem xo:((Ty.str==Ty.str):Bool)=true:=rfl
@[simp] theorem uO:((Ty.str==Ty.dict):Bool)=false:=rfl
@[simp] theorem uP:((Ty.dict==Ty.int):Bool)=false:=rfl
@[simp] theorem sR:((Ty.dict==Ty.bool):Bool)=false:=rfl
@[simp] theorem qk:((Ty.dict==Ty.tuple):Bool)=false:=rfl
@[simp] theorem sU:((Ty.dict==Ty.list):Bool)=false:=rfl
@[simp] theorem uQ:((Ty.dict==Ty.str):Bool)=false:=rfl
@[simp] theorem sV:((Ty.dict==Ty.dict):Bool)=true:=rfl
@[simp] theorem Fp {t:Ty} {h:VH}:dR t h .aO=aC false:=rfl
@[simp] theorem Ju {t:Ty} {h:VH} {b:Bool}:dR t h (.bl b)=aC (t == .int||t == .bool):=rfl
@[simp] theorem Fq {t:Ty} {h:VH} {i:Int}:dR t h (.int i)=aC (t == .int):=rfl
@[simp] theorem Ft {t:Ty} {h:VH} {x:Str}:dR t h (.str x)=aC (t == .str):=rfl
@[simp] theorem lW {t:Ty} {h:VH} {x:List W}:dR t h (.tup x)=aC (t == .tuple):=rfl
@[simp] theorem bF {h:VH} {l i:Nat}:VH.get ⟨h.n,l,h.os⟩ i=h.get i:=by unfold VH.get;rfl
@[simp] theorem pB {h:VH} {b:Bool}:mO h (.bl b)=aC b:=rfl
noncomputable def forL(tg:W->VH->En->Option En)(b:FS):List W->En->VH->Res Fl
 |[],ρ,h=>.ok (.nx ρ) h
 |w::r,ρ,h=>match tg w h ρ with
  |none=>.no
  |some ρ=>(b ρ h).bind λfl h=>match fl with
   |.nx ρ=>forL tg b r ρ h
   |.ct ρ=>forL tg b r ρ h
   |.bk ρ=>.ok (.nx ρ) h
   |.rt w=>.ok (.rt w) h
noncomputable def jY(tg:W->VH->En->Option En)(c e:FE):List W->En->VH->Res (List W)
 |[],_,h=>.ok [] h
 |w::r,ρ,h=>match tg w h ρ with
  |none=>.no
  |some ρ=>(c ρ h).bind λb h=>match b with
   |.bl true=>(e ρ h).bind λy h=>(jY tg c e r ρ h).bind λys h=>.ok (y::ys) h
   |.bl false=>jY tg c e r ρ h
   |_=>.no
theorem bind_assoc{α β γ:Type}{r:Res α}{f:α->VH->Res β}{g:β->VH->Res γ}:(r.bind f).bind g=r.bind λa h=>(f a h).bind g:=by cases r<;>rfl
theorem Fv{nx:Nat->VH->Option (Option W)}{tg:W->VH->En->Option En}{b:FS}{ws:List W}(hx:∀i h,nx i h=aC ws[i]?):∀(fu i:Nat) (ρ:En) (h:VH),i<=ws.length->ws.length<fu+i->cZ nx tg b fu i ρ h=forL tg b (ws.drop i) ρ h
 |0,i,ρ,h,hi,hl=>by lia
 |fu+1,i,ρ,h,hi,hl=>by
  simp only[cZ,hx];cases q:ws[i]? with
  |none=>
   rw[Dm (nG.mp q)];rfl
  |some w=>
   obtain⟨hi,e⟩:=jD.mp q;rw[tS hi,e];simp only[forL];cases tg w h ρ with
   |none=>rfl
   |some ρ'=>
    simp only;congr 1;funext fl h1;cases fl<;>simp only[Fv hx fu (i+1) _ _ hi (by lia)]
theorem Fw{nx:Nat->VH->Option (Option W)}{tg:W->VH->En->Option En}{c e:FE}{ws:List W}(hx:∀i h,nx i h=aC ws[i]?):∀(fu i:Nat) (ρ:En) (h:VH) (acc:List W),i<=ws.length->ws.length<fu+i->
 gu nx tg c e fu i ρ h acc=(jY tg c e (ws.drop i) ρ h).bind λys h=>.ok (acc.reverse++ys) h
 |0,i,ρ,h,acc,hi,hl=>by lia
 |fu+1,i,ρ,h,acc,hi,hl=>by
  simp only[gu,hx];cases q:ws[i]? with
  |none=>
   rw[Dm (nG.mp q)];simp[jY]
  |some w=>
   obtain⟨hi,ee⟩:=jD.mp q;rw[tS hi,ee];simp only[jY];cases tg w h ρ with
   |none=>rfl
   |some ρ'=>
    simp only[bind_assoc];congr 1;funext bv h1;cases bv<;>try rfl
    rename_i bb;cases bb with
    |true=>
     simp only[bind_assoc];congr 1;funext y h2;rw[Fw hx fu (i+1) _ _ _ hi (by lia)];congr 1;funext ys h3;simp
    |false=>simp only[Fw hx fu (i+1) _ _ _ hi (by lia)]
theorem Fx{ws:List W}{tg:W->VH->En->Option En}{b:FS}{ρ:En}{h:VH}(hl:ws.length<1000000):cZ (bf .seq (.tup ws)) tg b fuel 0 ρ h=forL tg b ws ρ h:=by have:=Fv (nx:=bf .seq (.tup ws)) (tg:=tg) (b:=b) (ws:=ws) (λi h=>rfl) fuel 0 ρ h (gh _) (by simpa[fuel]using hl);simpa using this
noncomputable def cH:Nat->List W->List W|_,[]=>[]|i,w::r=>.tup [.int i,w]::cH (i+1) r
theorem Qo:∀(ws:List W) (i j:Nat),(cH j ws)[i]?=(ws[i]?).map λw=>.tup [.int ((j+i:Nat):Int),w]
 |[],i,j=>by simp[cH]
 |w::r,0,j=>by simp[cH]
 |w::r,i+1,j=>by
  simp only[cH,ve];rw[Qo r i (j+1)];congr 1;funext w;rw[show j+1+i=j+ (i+1) by lia]
theorem Qp:∀(ws:List W) (j:Nat),(cH j ws).length=ws.length|[],_=>rfl|_::r,j=>by simp[cH,Qp r]
theorem Qq{ws:List W}{tg:W->VH->En->Option En}{b:FS}{ρ:En}{h:VH}(hl:ws.length<1000000):cZ (bf .pZ (.tup ws)) tg b fuel 0 ρ h=forL tg b (cH 0 ws) ρ h:=by have:=Fv (nx:=bf .pZ (.tup ws)) (tg:=tg) (b:=b) (ws:=cH 0 ws) (λi h=>by rw[Qo];simp[bf,aP]) fuel 0 ρ h (gh _) (by simpa[fuel,Qp]using hl);simpa using this
noncomputable def jq(a:Int):Nat->List W|0=>[]|n+1=>.int a::jq (a+1) n
theorem Jv:∀(n i:Nat) (a:Int),(jq a n)[i]?=if i<n then aC (.int (a+i))else aD
 |0,i,a=>by simp[jq]
 |n+1,0,a=>by simp[jq]
 |n+1,i+1,a=>by
  simp only[jq,ve];rw[Jv n i (a+1)];by_cases q:i<n;rw[if_pos q,if_pos (by lia)];congr 2
  push_cast;lia;rw[if_neg q,if_neg (by lia)]
theorem Jw:∀(n:Nat) (a:Int),(jq a n).length=n|0,_=>rfl|n+1,a=>by simp[jq,Jw n]
theorem zxy{n:Nat}{tg:W->VH->En->Option En}{b:FS}{ρ:En}{h:VH}(hl:n<1000000):cZ (bf .bg (.tup [.int n])) tg b fuel 0 ρ h=forL tg b (jq 0 n) ρ h:=by
 have hf:fits (n:Int)=true:=by simp[fits];lia
 have:=Fv (nx:=bf .bg (.tup [.int n])) (tg:=tg) (b:=b) (ws:=jq 0 n) (λi h=>by rw[Jv];simp[bf,hf]) fuel 0 ρ h (gh _) (by simpa[fuel,Jw]using hl);simpa using this
theorem Y0{n:Nat}{tg:W->VH->En->Option En}{c e:FE}{ρ:En}{h:VH}(hl:n<1000000):gu (bf .bg (.tup [.int n])) tg c e fuel 0 ρ h []=jY tg c e (jq 0 n) ρ h:=by
 have hf:fits (n:Int)=true:=by simp[fits];lia
 have:=Fw (nx:=bf .bg (.tup [.int n])) (tg:=tg) (c:=c) (e:=e) (ws:=jq 0 n) (λi h=>by rw[Jv];simp[bf,hf]) fuel 0 ρ h [] (gh _) (by simpa[fuel,Jw]using hl);rw[this];simp only[List.drop_zero,List.reverse_nil,xP];cases jY tg c e (jq 0 n) ρ h<;>rfl
noncomputable def isInt:W->Bool|.int _=>true|_=>false
noncomputable def Kn(h:VH)(w:W):Prop:=dR .int h w≠aD
theorem fq{h:VH}{l:Nat}{w:W}:Kn ⟨h.n,l,h.os⟩ w↔Kn h w:=by unfold Kn;cases w<;>simp[dR]
structure CoreA(F:Nat->Option Fn):Prop where
 f0:F 0=aC EZ
 f1:F 1=aC Ji
 f6:F 6=aC Ce
 f7:F 7=aC Cf
section
variable{F:Nat->Option Fn}(C:CoreA F)
include C
theorem Y3{k:Nat}{h:VH}{w:W}(hw:Kn h w):run F (k+1) 0 [w] h=.ok (.bl (isInt w)) h:=by
 rw[eE C.f0 rfl];cases w<;>try(simp[EZ,exs,ev,isInt,dM];done)
 exact absurd rfl hw;rename_i i;unfold Kn at hw;simp only[dR]at hw;cases g:h.get i with
 |none=>rw[g]at hw;exact absurd rfl hw
 |some o=>cases o<;>first|(simp[EZ,exs,ev,isInt,dM,dR,g];done)|(simp[g]at hw)
noncomputable def within(w:W)(lo hi:Int):Bool:=match w with|.int i=>decide (lo<=i)&&decide (i<=hi)|_=>false
theorem uR{k:Nat}{h:VH}{w:W}{lo hi:Int}(hw:Kn h w):run F (k+2) 1 [w,.int lo,.int hi] h=.ok (.bl (within w lo hi)) h:=by rw[eE C.f1 rfl];have e:=Y3 C (k:=k) (h:=⟨h.n,h.n,h.os⟩) (w:=w) (fq.mpr hw);cases w<;>simp[Ji,exs,ev,e,isInt,within,dM,aR,fT];rename_i i;by_cases h1:lo<=i<;>simp[h1,dM]
noncomputable def gM(w:W)(lo hi:Int):Bool:=match w with|.tup ws=>decide (lo<=ws.length)&&decide ((ws.length:Int)<=hi)|_=>false
theorem xq{k:Nat}{h:VH}{w:W}{lo hi:Int}(hw:Kn h w):run F (k+1) 6 [w,.int lo,.int hi] h=.ok (.bl (gM w lo hi)) h:=by
 rw[eE C.f6 rfl];cases w<;>try(simp[Ce,exs,ev,gM,dM];done)
 rename_i ws;simp[Ce,exs,ev,gM,dM,aR,fT,iS,gB,aP];by_cases h1:lo<=ws.length<;>simp[h1,dM];exact absurd rfl hw;rename_i i;unfold Kn at hw;simp only[dR]at hw;cases g:h.get i with
 |none=>rw[g]at hw;exact absurd rfl hw
 |some o=>cases o<;>first|(simp[Ce,exs,ev,gM,dM,dR,g];done)|(simp[g]at hw)
theorem uS{k:Nat}{h:VH}{t a b:W}{lo hi:Int}:∀(ws:List W) (x:Option W),(∀w∈ws,Kn h w)->∃y,forL (bx (.one 5)) (exs (run F (k+2)) E4) ws [aC t,aC a,aC b,aC (.int lo),aC (.int hi),x] h =
 if ws.all (within · lo hi)then .ok (.nx [aC t,aC a,aC b,aC (.int lo),aC (.int hi),y]) h else .ok (.rt (.bl false)) h
 |[],x,_=>⟨x,by simp[forL]⟩
 |w::r,x,hk=>by
  obtain⟨y,e⟩:=uS (t:=t) (a:=a) (b:=b) (k:=k) (lo:=lo) (hi:=hi) r (aC w) λz hz=>hk z (dU _ hz);refine⟨y,?_⟩;have e1:=uR C (k:=k) (lo:=lo) (hi:=hi) (hk w fM);have eb:exs (run F (k+2)) E4 [aC t,aC a,aC b,aC (.int lo),aC (.int hi),aC w] h=if within w lo hi then .ok (.nx [aC t,aC a,aC b,aC (.int lo),aC (.int hi),aC w]) h else .ok (.rt (.bl false)) h:=by cases q:within w lo hi<;>simp[E4,exs,ev,e1,q]
  simp only[forL,bx,List.set,eb];cases q:within w lo hi<;>simp[q,e]
noncomputable def pC(w:W)(a b lo hi:Int):Bool:=match w with|.tup ws=>gM w a b&&ws.all (within · lo hi)|_=>false
theorem Jx{k:Nat}{h:VH}{w:W}{a b lo hi:Int}(hw:Kn h w)(hp:∀ws,w=.tup ws->ws.length<1000000/\∀x∈ws,Kn h x):run F (k+3) 7 [w,.int a,.int b,.int lo,.int hi] h=.ok (.bl (pC w a b lo hi)) h:=by
 rw[eE C.f7 rfl];have e1:=xq C (k:=k+1) (h:=⟨h.n,h.n,h.os⟩) (w:=w) (lo:=a) (hi:=b) (fq.mpr hw);cases q:gM w a b with
 |false=>
  have:pC w a b lo hi=false:=by cases w<;>simp[pC,q]
  simp[Cf,exs,ev,e1,q,this,dM]
 |true=>
  cases w<;>try(simp[gM]at q;done)
  rename_i ws;obtain⟨hl,hk⟩:=hp ws rfl;obtain⟨y,e2⟩:=uS C (k:=k) (h:=⟨h.n,h.n,h.os⟩) (t:=.tup ws) (a:=.int a) (b:=.int b) (lo:=lo) (hi:=hi) ws aD λx hx=>fq.mpr (hk x hx);have e3:pC (.tup ws) a b lo hi=ws.all (within · lo hi):=by simp[pC,q]
  rw[e3];cases q2:ws.all (within · lo hi)with|true=>simp[Cf,exs,ev,e1,q,Fx hl,e2,q2,dM]|false=>simp[Cf,exs,ev,e1,q,Fx hl,e2,q2,dM]
end
noncomputable def kB:Nat->W->Bool
 |0,_=>false
 |n+1,w=>match w with
  |.aO=>true
  |.bl _=>true
  |.int _=>true
  |.str x=>PyData.strOk x
  |.tup ws=>ws.all (kB n)
  |_=>false
theorem Qs{f:W->Option aB}{p:W->Bool}{n:Nat}(h:∀w,p w=true->∃d,f w=aC d/\d.canLay0=true/\d.depth<=n):∀ws:List W,ws.all p=true->∃ds,aT f ws=aC ds/\PyData.canLayAll0 ds=true/\PyData.depthAll ds<=n
 |[],_=>⟨[],rfl,rfl,gh _⟩
 |w::r,e=>by
  rw[qy,bG]at e;obtain⟨d,h1,h2,h3⟩:=h w e.1;obtain⟨ds,h4,h5,h6⟩:=Qs h r e.2;refine⟨d::ds,by simp[aT,h1,h4],?_,?_⟩;show(d.canLay0&&PyData.canLayAll0 ds)=true;rw[h2,h5];rfl;show max d.depth (PyData.depthAll ds)<=n;lia
theorem Jy(h:VH):∀(n:Nat) (w:W),kB n w=true->∃d,toD h n w=aC d/\d.canLay0=true/\d.depth<=n
 |0,_,e=>by cases e
 |n+1,w,e=>by
  cases w<;>simp only[kB]at e<;>try(cases e;done)
  exact⟨.none,rfl,rfl,gh _⟩;exact⟨.bool _,rfl,rfl,gh _⟩;exact⟨.int _,rfl,rfl,gh _⟩;exact⟨.str _,rfl,e,gh _⟩;obtain⟨ds,h1,h2,h3⟩:=Qs (Jy h n) _ e;exact⟨.tuple ds,by simp[toD,h1],h2,by show PyData.depthAll ds+1<=n+1;lia⟩
mutual
theorem Qt:∀d:aB,d.canLay0=true->PyData.eqv d d=true
 |.none,_=>rfl
 |.bool b,_=>by simp[PyData.eqv]
 |.int i,_=>by simp[PyData.eqv]
 |.str x,_=>by simp[PyData.eqv]
 |.list xs,h=>by
  simp only[PyData.eqv];exact Jz xs h
 |.tuple xs,h=>by
  simp only[PyData.eqv];exact Jz xs h
 |.dict _,h=>by cases h
theorem Jz:∀ds:List aB,PyData.canLayAll0 ds=true->PyData.eqvAll ds ds=true
 |[],_=>rfl
 |d::ds,h=>by
  have h:(d.canLay0&&PyData.canLayAll0 ds)=true:=h;rw[bG]at h;simp only[PyData.eqvAll,Qt d h.1,Jz ds h.2,Bool.and_self]
end
theorem zxx{h:VH}{w:W}(p:kB 24 w):bX h w w=aC true:=by
 obtain⟨d,h1,h2,h3⟩:=Jy h 24 w p;have hs:SeqAt.shaped d=true:=by unfold SeqAt.shaped;rw[h2,Bool.true_and,fL];lia
 unfold bX;rw[h1];simp[hs,Qt d h2]
noncomputable def jz(w:W)(x:Str):Bool:=match w with|.str y=>y==x|_=>false
theorem nC{h:VH}{w:W}{x:Str}(p:kB 24 w)(hx:PyData.strOk x):bX h w (.str x)=aC (jz w x):=by
 obtain⟨d,h1,h2,h3⟩:=Jy h 24 w p;have hs:SeqAt.shaped d=true:=by unfold SeqAt.shaped;rw[h2,Bool.true_and,fL];lia
 have hs2:SeqAt.shaped (.str x)=true:=by unfold SeqAt.shaped;show(PyData.strOk x&&_)=true;rw[hx];rfl
 unfold bX;rw[h1];have h4:toD h 24 (.str x)=aC (.str x):=rfl;rw[h4];simp only[hs,hs2,Bool.and_self,b9];cases w<;>simp only[toD]at h1<;>try(cases h1;done)
 cases h1;simp[jz,PyData.eqv];cases h1;simp[jz,PyData.eqv];cases h1;simp[jz,PyData.eqv];cases h1;simp[jz,PyData.eqv];obtain⟨ds,h5,h6⟩:=Option.map_eq_some_iff.mp h1;subst h6;simp[jz,PyData.eqv];simp[kB]at p;simp[kB]at p
theorem Y4{n:Nat}{ws:List W}:kB (n+1) (.tup ws)=ws.all (kB n):=rfl
theorem JA{h:VH}{n:Nat}{w:W}(p:kB n w):Kn h w:=by
 unfold Kn;cases n with|zero=>cases p|succ n=>cases w<;>simp[kB,dR]at p ⊢
structure lX(F:Nat->Option Fn):Prop extends CoreA F where
 f8:F 8=aC Jk
 f9:F 9=aC Jl
 Y5:F 10=aC wR
 Y6:F 11=aC sA
 Y7:F 12=aC wU
 Y8:F 13=aC sC
 Y9:F 14=aC wV
 Za:F 15=aC wW
theorem Zb:cQ .aO=true:=rfl
noncomputable def xr(w:W)(n:Int):Bool:=cQ w||within w 0 (n-1)
noncomputable def door(w:W)(n:Int):Bool:=match w with|.tup [a,b]=>within a 0 99&&xr b n|_=>false
noncomputable def mY(w:W)(g:Int):Bool:=match w with|.tup [a,b]=>within a 0 (g-1)&&within b 0 1|_=>false
noncomputable def eW(w:W)(c wd g:Int):Bool:=
 if jz w "x" || mY w g then decide (0<c)&&decide (c<wd-1)else if jz w "<"then decide (0<c)else if jz w ">"then decide (c<wd-1)else jz w "." || jz w "s"
section
variable{F:Nat->Option Fn}(C:lX F)
include C
theorem Zc{k:Nat}{h:VH}{w:W}{n:Int}(hw:Kn h w):run F (k+3) 12 [w,.int n] h=.ok (.bl (xr w n)) h:=by rw[eE C.Y7 rfl];have e:=uR C.toCoreA (k:=k) (h:=⟨h.n,h.n,h.os⟩) (w:=w) (lo:=0) (hi:=n-1) (fq.mpr hw);cases q:cQ w<;>simp[wU,exs,ev,e,aR,Zb,q,xr,dM,fN,dP]
theorem Zd{k:Nat}{h:VH}{w:W}{n:Int}(hw:Kn h w)(hp:∀a b,w=.tup [a,b]->Kn h a/\Kn h b):run F (k+4) 11 [w,.int n] h=.ok (.bl (door w n)) h:=by
 rw[eE C.Y6 rfl];have e1:=xq C.toCoreA (k:=k+2) (h:=⟨h.n,h.n,h.os⟩) (w:=w) (lo:=2) (hi:=2) (fq.mpr hw);cases q:gM w 2 2 with
 |false=>
  have:door w n=false:=by cases w<;>simp[door];rename_i ws;rcases ws with _|⟨a,_|⟨b,_|_⟩⟩<;>simp[gM]at q ⊢
  simp[sA,exs,ev,e1,q,this,dM]
 |true=>
  cases w<;>try(simp[gM]at q;done)
  rename_i ws;have hl:ws.length=2:=by simp[gM]at q;lia
  rcases ws with _|⟨a,_|⟨b,_|_⟩⟩<;>simp at hl;obtain⟨ka,kb⟩:=hp a b rfl;have e2:=uR C.toCoreA (k:=k+1) (h:=⟨h.n,h.n,h.os⟩) (w:=a) (lo:=0) (hi:=99) (fq.mpr ka);have e3:=Zc C (k:=k) (h:=⟨h.n,h.n,h.os⟩) (w:=b) (n:=n) (fq.mpr kb);cases q2:within a 0 99<;>simp[sA,exs,ev,e1,q,e2,e3,q2,door,dM,bx,aP,ko]
theorem Ze{k:Nat}{h:VH}{w:W}{n:Int}(hw:Kn h w)(hp:∀a b,w=.tup [a,b]->Kn h a/\Kn h b):run F (k+3) 13 [w,.int n] h=.ok (.bl (mY w n)) h:=by
 rw[eE C.Y8 rfl];have e1:=xq C.toCoreA (k:=k+1) (h:=⟨h.n,h.n,h.os⟩) (w:=w) (lo:=2) (hi:=2) (fq.mpr hw);cases q:gM w 2 2 with
 |false=>
  have:mY w n=false:=by cases w<;>simp[mY];rename_i ws;rcases ws with _|⟨a,_|⟨b,_|_⟩⟩<;>simp[gM]at q ⊢
  simp[sC,exs,ev,e1,q,this,dM]
 |true=>
  cases w<;>try(simp[gM]at q;done)
  rename_i ws;have hl:ws.length=2:=by simp[gM]at q;lia
  rcases ws with _|⟨a,_|⟨b,_|_⟩⟩<;>simp at hl;obtain⟨ka,kb⟩:=hp a b rfl;have e2:=uR C.toCoreA (k:=k) (h:=⟨h.n,h.n,h.os⟩) (w:=a) (lo:=0) (hi:=n-1) (fq.mpr ka);have e3:=uR C.toCoreA (k:=k) (h:=⟨h.n,h.n,h.os⟩) (w:=b) (lo:=0) (hi:=1) (fq.mpr kb);cases q2:within a 0 (n-1)<;>simp[sC,exs,ev,e1,q,e2,e3,q2,mY,dM,bx,aP,ko,fN,dP]
omit C in
theorem JB:PyData.strOk (Str.ofString "x")=true:=by decide +kernel
omit C in
theorem JC:PyData.strOk (Str.ofString "<")=true:=by decide +kernel
omit C in
theorem JD:PyData.strOk (Str.ofString ">")=true:=by decide +kernel
omit C in
theorem JE:PyData.strOk (Str.ofString ".")=true:=by decide +kernel
omit C in
theorem JF:PyData.strOk (Str.ofString "s")=true:=by decide +kernel
theorem Zf{k:Nat}{h:VH}{w:W}{c wd g:Int}(p:kB 24 w):run F (k+4) 15 [w,.int c,.int wd,.int g] h=.ok (.bl (eW w c wd g)) h:=by
 rw[eE C.Za rfl];have hp:∀a b,w=.tup [a,b]->Kn ⟨h.n,h.n,h.os⟩ a/\Kn ⟨h.n,h.n,h.os⟩ b:=λa b e=>by
  subst e;have p:kB (23+1) (.tup [a,b])=true:=p;rw[Y4,qy,qy,bG,bG]at p;exact⟨JA p.1,JA p.2.1⟩
 have e1:=Ze C (k:=k) (h:=⟨h.n,h.n,h.os⟩) (w:=w) (n:=g) (JA p) hp;have sx:=nC (h:=⟨h.n,h.n,h.os⟩) (x:=Str.ofString "x") p JB;have sl:=nC (h:=⟨h.n,h.n,h.os⟩) (x:=Str.ofString "<") p JC;have sg:=nC (h:=⟨h.n,h.n,h.os⟩) (x:=Str.ofString ">") p JD;have sd:=nC (h:=⟨h.n,h.n,h.os⟩) (x:=Str.ofString ".") p JE;have ss:=nC (h:=⟨h.n,h.n,h.os⟩) (x:=Str.ofString "s") p JF;unfold eW;cases q1:jz w (Str.ofString "x")<;>cases q2:mY w g<;>cases q3:jz w (Str.ofString "<")<;>cases q4:jz w (Str.ofString ">")<;>cases q5:jz w (Str.ofString ".")<;>by_cases h1:0<c<;>
  simp[wW,exs,ev,aR,fT,sx,sl,sg,sd,ss,e1,fN,dP,q1,q2,q3,q4,q5,h1,dM]
theorem Qu{k:Nat}{h:VH}{t a:W}{n:Int}:∀(ws:List W) (x:Option W),(∀w∈ws,Kn h w/\∀a b,w=.tup [a,b]->Kn h a/\Kn h b)->∃y,forL (bx (.one 3)) (exs (run F (k+4)) E5) ws [aC t,aC a,aC (.int n),x] h =
 if ws.all (door · n)then .ok (.nx [aC t,aC a,aC (.int n),y]) h else .ok (.rt (.bl false)) h
 |[],x,_=>⟨x,by simp[forL]⟩
 |w::r,x,hk=>by
  obtain⟨y,e⟩:=Qu (t:=t) (a:=a) (k:=k) (n:=n) r (aC w) λz hz=>hk z (dU _ hz);refine⟨y,?_⟩;obtain⟨k1,k2⟩:=hk w fM;have e1:=Zd C (k:=k) (n:=n) k1 k2;have eb:exs (run F (k+4)) E5 [aC t,aC a,aC (.int n),aC w] h=if door w n then .ok (.nx [aC t,aC a,aC (.int n),aC w]) h else .ok (.rt (.bl false)) h:=by cases q:door w n<;>simp[E5,exs,ev,e1,q]
  simp only[forL,bx,List.set,eb];cases q:door w n<;>simp[q,e]
theorem Zg{k:Nat}{h:VH}{ws:List W}{wd n:Int}(hl:ws.length=wd)(hz:ws.length<1000000)(hd:∀w∈ws,door w n):run F (k+5) 8 [.tup ws,.int wd,.int n] h=.ok (.bl true) h:=by
 rw[eE C.f8 rfl];have e1:=xq C.toCoreA (k:=k+3) (h:=⟨h.n,h.n,h.os⟩) (w:=.tup ws) (lo:=wd) (hi:=wd) (by unfold Kn;simp);have q:gM (.tup ws) wd wd=true:=by simp[gM,hl]
 have kn:∀w∈ws,Kn ⟨h.n,h.n,h.os⟩ w/\∀a b,w=.tup [a,b]->Kn ⟨h.n,h.n,h.os⟩ a/\Kn ⟨h.n,h.n,h.os⟩ b:=λw hw=>by
  have:=hd w hw;cases w<;>simp only[door]at this<;>try(cases this;done)
  rename_i us;refine⟨by unfold Kn;simp,λa b e=>?_⟩;cases e;simp only[bG]at this;obtain⟨h1,h2⟩:=this;refine⟨?_,?_⟩;cases a<;>simp[within]at h1;unfold Kn;simp;unfold xr at h2;cases b<;>simp[within,cQ]at h2;unfold Kn;simp;unfold Kn;simp
 obtain⟨y,e2⟩:=Qu C (k:=k) (h:=⟨h.n,h.n,h.os⟩) (t:=.tup ws) (a:=.int wd) (n:=n) ws aD kn;have ha:ws.all (door · n)=true:=nv.mpr hd;simp[Jk,exs,ev,e1,q,Fx hz,e2,ha,dM]
theorem Qv{k:Nat}{h:VH}{t:W}{wd:Int}:∀(ws:List W) (x:Option W),(∀w∈ws,∃us,w=.tup us/\us.length=wd)->∃y,forL (bx (.one 2)) (exs (run F (k+1)) E6) ws [aC t,aC (.int wd),x] h=.ok (.nx [aC t,aC (.int wd),y]) h
 |[],x,_=>⟨x,by simp[forL]⟩
 |w::r,x,hk=>by
  obtain⟨y,e⟩:=Qv (h:=h) (t:=t) (k:=k) (wd:=wd) r (aC w) λz hz=>hk z (dU _ hz);refine⟨y,?_⟩;obtain⟨us,rfl,hl⟩:=hk w fM;have e1:=xq C.toCoreA (k:=k) (h:=h) (w:=.tup us) (lo:=wd) (hi:=wd) (by unfold Kn;simp);have q:gM (.tup us) wd wd=true:=by simp[gM,hl]
  have eb:exs (run F (k+1)) E6 [aC t,aC (.int wd),aC (.tup us)] h=.ok (.nx [aC t,aC (.int wd),aC (.tup us)]) h:=by simp[E6,exs,ev,e1,q]
  simp only[forL,bx,List.set,eb,aE,e]
theorem Zh{k:Nat}{h:VH}{ws:List W}{wd:Int}(hl:ws.length<=60)(hd:∀w∈ws,∃us,w=.tup us/\us.length=wd):run F (k+2) 9 [.tup ws,.int wd] h=.ok (.bl true) h:=by
 rw[eE C.f9 rfl];have e1:=xq C.toCoreA (k:=k) (h:=⟨h.n,h.n,h.os⟩) (w:=.tup ws) (lo:=0) (hi:=60) (by unfold Kn;simp);have q:gM (.tup ws) 0 60=true:=by simp[gM];lia
 obtain⟨y,e2⟩:=Qv C (k:=k) (h:=⟨h.n,h.n,h.os⟩) (t:=.tup ws) (wd:=wd) ws aD hd;simp[Jl,exs,ev,e1,q,Fx (show ws.length<1000000 by lia),e2,dM]
end
structure Bd where
 wd:Int
 gr:Int
 rows:List (List W)
 fd:List W
 dr:List W
noncomputable def Bd.w(B:Bd):W:=.tup [.int B.wd,.int B.gr,.tup (B.rows.map .tup),.tup B.fd,.tup B.dr]
noncomputable def dh(wd g:Int):Int->List W->Prop|_,[]=>True|c,w::r=>eW w c wd g=true/\dh wd g (c+1) r
structure Bd.Ok(B:Bd):Prop where
 w1:1<=B.wd
 w2:B.wd<=40
 g1:0<=B.gr
 g2:B.gr<=8
 r1:B.rows.length<=60
 r2:∀r∈B.rows,(r.length:Int)=B.wd/\dh B.wd B.gr 0 r
 f1:1<=B.fd.length
 f2:B.fd.length<=4
 f3:∀f∈B.fd,within f 0 (B.wd-1)=true
 d1:(B.dr.length:Int)=B.wd
 d2:∀d∈B.dr,door d B.fd.length=true
structure Bd.Qw(B:Bd):Prop where
 w1:1<=B.wd
 w2:B.wd<=40
 g1:0<=B.gr
 g2:B.gr<=8
 r1:B.rows.length<=60
 r2:∀r∈B.rows,(r.length:Int)=B.wd
 f1:1<=B.fd.length
 f2:B.fd.length<=4
 f3:∀f∈B.fd,within f 0 (B.wd-1)=true
 d1:(B.dr.length:Int)=B.wd
 d2:∀d∈B.dr,door d B.fd.length=true
theorem Bd.Ok.Zi{B:Bd}(b:B.Ok):B.Qw:=⟨b.w1,b.w2,b.g1,b.g2,b.r1,λr hr=>(b.r2 r hr).1,b.f1,b.f2,b.f3,b.d1,b.d2⟩
theorem Zj{w:W}{g:Int}(h:mY w g)(n:Nat):kB (n+2) w=true:=by
 cases w<;>simp only[mY]at h<;>try(cases h;done)
 rename_i us;rcases us with _|⟨a,_|⟨b,_|_⟩⟩<;>simp at h
 obtain⟨h1,h2⟩:=h;cases a<;>simp[within]at h1;cases b<;>simp[within]at h2;rfl
theorem yF{w:W}{x:Str}(h:jz w x):w=.str x:=by cases w<;>simp[jz]at h;rw[h]
theorem Zk{w:W}{c wd g:Int}(h:eW w c wd g)(n:Nat):kB (n+2) w=true:=by
 have st:∀x:Str,PyData.strOk x=true->jz w x=true->kB (n+2) w=true:=λx hx e=>by rw[yF e];exact hx
 unfold eW at h;split at h;rename_i q;rw[qt]at q;rcases q with q|q
 exact st _ (by decide +kernel) q;exact Zj q n;split at h;rename_i q;exact st _ (by decide +kernel) q;split at h;rename_i q;exact st _ (by decide +kernel) q;rw[qt]at h;rcases h with q|q
 exact st _ (by decide +kernel) q;exact st _ (by decide +kernel) q
section
variable{F:Nat->Option Fn}(C:lX F)
include C
theorem Zl{k:Nat}{h:VH}{B:Bd}(b:B.Qw):run F (k+6) 10 [B.w] h=.ok (.bl true) h:=by
 rw[eE C.Y5 rfl];have e1:=xq C.toCoreA (k:=k+4) (h:=⟨h.n,h.n,h.os⟩) (w:=B.w) (lo:=5) (hi:=5) (by unfold Kn Bd.w;simp);have q1:gM B.w 5 5=true:=by simp[gM,Bd.w]
 have e2:=uR C.toCoreA (k:=k+3) (h:=⟨h.n,h.n,h.os⟩) (w:=.int B.wd) (lo:=1) (hi:=40) (by unfold Kn;simp);have q2:within (.int B.wd) 1 40=true:=by simp[within,b.w1,b.w2]
 have e3:=uR C.toCoreA (k:=k+3) (h:=⟨h.n,h.n,h.os⟩) (w:=.int B.gr) (lo:=0) (hi:=8) (by unfold Kn;simp);have q3:within (.int B.gr) 0 8=true:=by simp[within,b.g1,b.g2]
 have kf:∀x∈B.fd,Kn ⟨h.n,h.n,h.os⟩ x:=λx hx=>by
  have:=b.f3 x hx;cases x<;>simp[within]at this;unfold Kn;simp
 have hf:=b.f2;have e4:=Jx C.toCoreA (k:=k+2) (h:=⟨h.n,h.n,h.os⟩) (w:=.tup B.fd) (a:=1) (b:=4) (lo:=0) (hi:=B.wd-1) (by unfold Kn;simp) (λws e=>by cases e;exact⟨by lia,kf⟩);have q4:pC (.tup B.fd) 1 4 0 (B.wd-1)=true:=by have h1:=b.f1;simp only[pC,gM,bG,fL];exact⟨⟨by lia,by lia⟩,nv.mpr b.f3⟩
 have e5:=Zh C (k:=k+3) (h:=⟨h.n,h.n,h.os⟩) (ws:=B.rows.map .tup) (wd:=B.wd) (by rw[bA];exact b.r1) (λw hw=>by
  obtain⟨r,hr,e⟩:=jv.mp hw;exact⟨r,e.symm,b.r2 r hr⟩)
 have hd:=b.d1;have Zm:=b.w2;have e6:=Zg C (k:=k) (h:=⟨h.n,h.n,h.os⟩) (ws:=B.dr) (wd:=B.wd) (n:=B.fd.length) hd (by lia) b.d2;unfold Bd.w at e1 q1 ⊢;simp[wR,exs,ev,e1,q1,e2,q2,e3,q3,e4,q4,e5,e6,dM,bx,aP,ko,fN,dP,iS,gB]
theorem Zn{k:Nat}{h:VH}{B:Bd}(b:B.Ok):run F (k+6) 10 [B.w] h=.ok (.bl true) h:=Zl C b.Zi
theorem Qx{k:Nat}{h:VH}{t rs pl:W}{wd g r0:Int}:∀(ws:List W) (c:Int) (j:Nat) (x y:Option W),c=j->dh wd g c ws->∃x' y',forL (bx (.many [6,7])) (exs (run F (k+4)) E7) (cH j ws) [aC t,aC (.int wd),aC (.int g),aC rs,aC (.int r0),aC pl,x,y] h =
 .ok (.nx [aC t,aC (.int wd),aC (.int g),aC rs,aC (.int r0),aC pl,x',y']) h
 |[],c,j,x,y,_,_=>⟨x,y,by simp[forL,cH]⟩
 |w::r,c,j,x,y,hc,ho=>by
  obtain⟨h1,h2⟩:=ho;obtain⟨x',y',e⟩:=Qx (h:=h) (t:=t) (rs:=rs) (pl:=pl) (k:=k) (wd:=wd) (g:=g) (r0:=r0) r (c+1) (j+1) (aC (.int j)) (aC w) (by rw[hc];push_cast;rfl) h2;refine⟨x',y',?_⟩;have e1:=Zf C (k:=k) (h:=h) (c:=j) (wd:=wd) (g:=g) (Zk h1 22);rw[<-hc,h1]at e1;have eb:exs (run F (k+4)) E7 [aC t,aC (.int wd),aC (.int g),aC rs,aC (.int r0),aC pl,aC (.int j),aC w] h=.ok (.nx [aC t,aC (.int wd),aC (.int g),aC rs,aC (.int r0),aC pl,aC (.int j),aC w]) h:=by rw[hc]at e1;simp[E7,exs,ev,e1]
  simp only[forL,cH,bx,aP,ko,List.set,eb,aE,e]
theorem Qy{k:Nat}{h:VH}{t rs:W}{wd g:Int}:∀(ws:List (List W)) (j:Nat) (x y z u:Option W),(∀r∈ws,(r.length:Int)<1000000/\dh wd g 0 r)->∃x' y' z' u',forL (bx (.many [4,5])) (exs (run F (k+4)) E8) (cH j (ws.map .tup)) [aC t,aC (.int wd),aC (.int g),aC rs,x,y,z,u] h =
 .ok (.nx [aC t,aC (.int wd),aC (.int g),aC rs,x',y',z',u']) h
 |[],j,x,y,z,u,_=>⟨x,y,z,u,by simp[forL,cH]⟩
 |w::r,j,x,y,z,u,ho=>by
  obtain⟨h1,h2⟩:=ho w fM;obtain⟨z1,u1,e1⟩:=Qx C (k:=k) (h:=h) (t:=t) (rs:=rs) (pl:=.tup w) (wd:=wd) (g:=g) (r0:=j) w 0 0 z u rfl h2;obtain⟨x',y',z',u',e⟩:=Qy (h:=h) (t:=t) (rs:=rs) (k:=k) (wd:=wd) (g:=g) r (j+1) (aC (.int j)) (aC (.tup w)) z1 u1 λq hq=>ho q (dU _ hq);refine⟨x',y',z',u',?_⟩;have eb:exs (run F (k+4)) E8 [aC t,aC (.int wd),aC (.int g),aC rs,aC (.int j),aC (.tup w),z,u] h=.ok (.nx [aC t,aC (.int wd),aC (.int g),aC rs,aC (.int j),aC (.tup w),z1,u1]) h:=by simp[E8,exs,ev,Qq (show w.length<1000000 by lia),e1]
  simp only[forL,gQ,cH,bx,aP,ko,List.set,eb,aE,e]
theorem Zo{k:Nat}{h:VH}{B:Bd}(b:B.Ok):run F (k+7) 14 [B.w] h=.ok .aO h:=by
 rw[eE C.Y9 rfl];have e1:=Zn C (k:=k) (h:=⟨h.n,h.n,h.os⟩) b;have Zm:=b.w2;have h60:=b.r1;obtain⟨x',y',z',u',e2⟩:=Qy C (k:=k+2) (h:=⟨h.n,h.n,h.os⟩) (t:=B.w) (rs:=.tup (B.rows.map .tup)) (wd:=B.wd) (g:=B.gr) B.rows 0 aD aD aD aD λr hr=>⟨by have:=(b.r2 r hr).1;lia,(b.r2 r hr).2⟩
 unfold Bd.w at e1 e2 ⊢;simp[wV,exs,ev,e1,Qm,bx,aP,ko,dY,ji,HT.bH,Qq (show(B.rows.map W.tup).length<1000000 by rw[bA];lia),e2]
end
structure CoreD(F:Nat->Option Fn):Prop where
 f2:F 2=aC E1
 f3:F 3=aC Cc
 f4:F 4=aC Jj
 f5:F 5=aC su
theorem gX{h:VH}{i j:Int}:bX h (.int i) (.int j)=aC (decide (i=j)):=by unfold bX;simp only[toD];show aC (i==j)=_;by_cases q:i=j<;>simp[q]
theorem Ck{i:Int}(h1:-(2 ^ 63)<=i)(h2:i<2 ^ 63):lM i=true:=by unfold lM;simp only[bG,fL];lia
theorem pD{h:VH}{i:Nat}{o o0:VO}(g:h.get i=aC o0):(h.set i o).get i=aC o:=by have hi:=bQ g;unfold VH.get at g;rw[if_pos (iU.mpr hi)]at g;have hl:=(jD.mp g).1;unfold VH.get VH.set;simp only[if_pos (iU.mpr hi)];rw[nH hl]
theorem yG{h:VH}{i j:Nat}{o o0:VO}(g:h.get i=aC o0)(hj:j≠i):(h.set i o).get j=h.get j:=iJ (bQ g) hj
structure Dk(h:VH)(d c:Nat)(b:Nat):Prop where
 ne:d≠c
 st:∃(ns cells:List Int) (p q:Int),h.get d=aC (.lst [.fz (ns.map .int),.ref c,.int p,.int q])/\h.get c=aC (.lst (cells.map .int))/\(∀x∈cells,(0:Int)<=x)/\0<=p/\0<=q/\q<=b/\cells.length<=63
theorem Dk.mono{h:VH}{d c b b':Nat}(D:Dk h d c b)(hb:b<=b'):Dk h d c b':=by obtain⟨ne,ns,cells,p,q,a1,a2,a3,a4,a5,a6,a7⟩:=D;exact⟨ne,ns,cells,p,q,a1,a2,a3,a4,a5,by lia,a7⟩
structure bM(h h':VH)(d c:Nat):Prop where
 le:h.n<=h'.n
 get:∀i o,i≠d->i≠c->h.get i=aC o->h'.get i=aC o
theorem bM.refl{h:VH}{d c:Nat}:bM h h d c:=⟨aQ _,λ_ _ _ _ e=>e⟩
theorem bM.trans{h h1 h2:VH}{d c:Nat}(a:bM h h1 d c)(b:bM h1 h2 d c):bM h h2 d c:=⟨gZ a.le b.le,λi o h1 h2 e=>b.get i o h1 h2 (a.get i o h1 h2 e)⟩
theorem JG(i:Int):(if i<0 then -i else i)=(i.natAbs:Int):=by split<;>lia
section
variable{F:Nat->Option Fn}(C:CoreD F)
include C
theorem cell{k:Nat}{h:VH}{ns:List Int}{j:Int}(hj:0<=j):∃r,run F (k+1) 2 [.fz (ns.map .int),.int j] h=.ok (.int r) h/\0<=r:=by
 rw[eE C.f2 rfl];cases ns with
 |nil=>
  refine⟨7*j+3,?_,by lia⟩;simp[E1,exs,ev,iS,gB,aP,aR,gX,fN,dP,Ck,dM]
 |cons n0 sW=>
  have hl:(0:Int)< ((n0::sW).length:Int):=by simp only[fB];lia
  have hm1:=DA j (show((n0::sW).length:Int)≠0 by lia);have hm2:=Dz j hl;obtain⟨m,hm⟩:=k8 hm1;have hml:m< (n0::sW).length:=by lia
  have ha:dH (List.map W.int (n0::sW)) (j % ((n0::sW).length:Int))=aC (.int ((n0::sW)[m])):=by rw[hm];exact jx (by rw[gp,eN hml];rfl)
  have hb:¬(((sW.length:Int)+1)=0):=by lia
  have hp:(0:Int)< (sW.length:Int)+1:=by lia
  refine⟨(((n0::sW)[m]).natAbs:Int),?_,by lia⟩;simp only[fB,Int.natCast_add,Int.cast_ofNat_Int,gQ]at ha;simp[E1,exs,ev,iS,gB,aP,aR,gX,fN,dP,dM,bS,kT,hb,hp,ha,JG]
theorem mixed{k:Nat}{h:VH}{ns:List Int}{j m:Int}(hj:0<=j)(hj2:j<=1000000000)(hm:0<m):∃r,run F (k+2) 4 [.fz (ns.map .int),.int j,.int m] h=.ok (.int r) h/\0<=r/\r<m:=by
 rw[eE C.f4 rfl];obtain⟨c,e1,hc⟩:=cell C (k:=k) (h:=⟨h.n,h.n,h.os⟩) (ns:=ns) hj;have h1:=DA c (show(1000003:Int)≠0 by decide);have h2:=Dz c (show(0:Int)<1000003 by decide);generalize hx:c % 1000003=x at h1 h2;have s1:lM (x+5)=true:=Ck (by lia) (by lia);have s2:lM 7919=true:=Ck (by decide) (by decide);have hb:(x+5)* (j+2)<=1000008*1000000002:=Int.mul_le_mul (by lia) (by lia) (by lia) (by lia);have hb0:0<=(x+5)* (j+2):=Int.mul_nonneg (by lia) (by lia);generalize hy:(x+5)* (j+2)=y at hb hb0;have hn:(y+7919*j).natAbs<2 ^ 64:=by lia
 refine⟨(y+7919*j) ^ 5 % 2147483647/13 % m,?_,DA _ (by lia),Dz _ hm⟩;have hn':(y+7919*j).natAbs<18446744073709551616:=by lia
 simp[Jj,exs,ev,e1,fN,dP,hx,s1,s2,hy,hn',hm,dM]
theorem Qz{k:Nat}{d c:Nat}{m q:Int}{ns:List Int}(hdc:d≠c)(hm:0<m)(hm2:m<1073741824):∀(n f:Nat) (g:VH) (x:Option W) (cells:List Int) (p:Int),n<f->(cells.length:Int)-p<=n->0<=p->(∀y∈cells,(0:Int)<=y)->
 g.get d=aC (.lst [.fz (ns.map .int),.ref c,.int p,.int q])->g.get c=aC (.lst (cells.map .int))->
 ∃(g':VH) (cells':List Int) (p':Int),0<=p'/\(∀y∈cells',(0:Int)<=y)/\cells'.length=cells.length/\g'.get d=aC (.lst [.fz (ns.map .int),.ref c,.int p',.int q])/\g'.get c=aC (.lst (cells'.map .int))/\g'.n=g.n/\(∀i,i≠d->i≠c->g'.get i=g.get i)/\
  ((∃r,fG (ev (run F (k+2)) Cd) (exs (run F (k+2)) zev) f [aC (.ref d),aC (.int m),x] g=.ok (.rt (.int r)) g'/\0<=r/\r<m)\/∃y,fG (ev (run F (k+2)) Cd) (exs (run F (k+2)) zev) f [aC (.ref d),aC (.int m),x] g=.ok (.nx [aC (.ref d),aC (.int m),y]) g')
 |n,0,g,x,cells,p,hf,_,_,_,_,_=>by lia
 |n,f+1,g,x,cells,p,hf,hn,hp,hnn,gd,gc=>by
  have ec:ev (run F (k+2)) Cd [aC (.ref d),aC (.int m),x] g=.ok (.bl (decide (p<cells.length))) g:=by simp[Cd,ev,bS,gd,dH,gR,iS,gB,aP,gc,aR,fT]
  by_cases hlt:p<cells.length;obtain⟨pn,rfl⟩:=k8 hp;have hpl:pn<cells.length:=by lia
  have hat:dH (cells.map W.int) (pn:Int)=aC (.int cells[pn]):=jx (by rw[gp,eN hpl];rfl);by_cases hpos:0<cells[pn];refine⟨g.set c (.lst ((cells.set pn (cells[pn]/m)).map .int)),cells.set pn (cells[pn]/m),pn,hp,?_,by simp,?_,pD gc,rfl,λi _ hi=>yG gc hi,.inl ⟨cells[pn] % m,?_,DA _ (by lia),Dz _ hm⟩⟩;intro y hy;rcases List.mem_or_eq_of_mem_set hy with hy|rfl
  exact hnn y hy;exact Int.ediv_nonneg (by lia) (by lia);rw[yG gc hdc];exact gd;have hix:gR (cells.map W.int).length (pn:Int)=aC pn:=by unfold gR;rw[if_pos (by lia),if_pos (by rw[bA];lia)];simp
  have eb:exs (run F (k+2)) zev [aC (.ref d),aC (.int m),x] g=.ok (.rt (.int (cells[pn] % m))) (g.set c (.lst ((cells.set pn (cells[pn]/m)).map .int))):=by have h2:dH [W.fz (ns.map .int),.ref c,.int pn,.int q] 2=aC (.int pn):=rfl;have h1:dH [W.fz (ns.map .int),.ref c,.int pn,.int q] 1=aC (.ref c):=rfl;simp[zev,exs,ev,bS,gd,h1,h2,gc,hat,aR,fT,hpos,fN,dP,hm,hm2]at hix ⊢;simp[hix,hm,vn]
  simp[fG,ec,hlt,eb];have gs:(g.set d (.lst [.fz (ns.map .int),.ref c,.int ((pn:Int)+1),.int q])).get c=aC (.lst (cells.map .int)):=by rw[yG gd (eT hdc)];exact gc
  cases n with
  |zero=>lia
  |succ n=>
   obtain⟨g',cells',p',a1,a2,a3,a4,a5,a6,a7,a8⟩:=Qz (k:=k) hdc hm hm2 n f (g.set d (.lst [.fz (ns.map .int),.ref c,.int ((pn:Int)+1),.int q])) (aC (.int cells[pn])) cells (pn+1) (by lia) (by lia) (by lia) hnn (pD gd) gs;have eb:exs (run F (k+2)) zev [aC (.ref d),aC (.int m),x] g=.ok (.nx [aC (.ref d),aC (.int m),aC (.int cells[pn])]) (g.set d (.lst [.fz (ns.map .int),.ref c,.int ((pn:Int)+1),.int q])):=by have h2:dH [W.fz (ns.map .int),.ref c,.int pn,.int q] 2=aC (.int pn):=rfl;have h1:dH [W.fz (ns.map .int),.ref c,.int pn,.int q] 1=aC (.ref c):=rfl;have h3:gR 4 2=aC 2:=rfl;simp[zev,exs,ev,bS,gd,h1,h2,h3,gc,hat,aR,fT,hpos,fN,dP]
   refine⟨g',cells',p',a1,a2,a3,a4,a5,a6,λi h1 h2=>by rw[a7 i h1 h2,yG gd h1],?_⟩;rcases a8 with⟨r,e,h3⟩|⟨y,e⟩
   exact .inl ⟨r,by simp[fG,ec,hlt,eb,e],h3⟩;exact .inr ⟨y,by simp[fG,ec,hlt,eb,e]⟩
  exact⟨g,cells,p,hp,hnn,rfl,gd,gc,rfl,λ_ _ _=>rfl,.inr ⟨x,by simp[fG,ec,hlt]⟩⟩
omit C in
theorem QA{h h':VH}{w:W}(g:fH ⟨h.n,h.n,h.os⟩ h'):∃h2,leave h w h'=.ok w h2/\h.n<=h2.n/\∀i,i<h.n->h2.get i=h'.get i:=by
 unfold leave;split;rename_i q;rw[bG]at q;have hlo:=j8 q.1;exact⟨h,rfl,aQ _,λi hi=>by
  rw[g.2.2 i hi (dN hi hlo)];exact bF.symm⟩
 exact⟨_,rfl,g.1,λi hi=>bF⟩
theorem take{k:Nat}{h:VH}{d c b:Nat}{m:Int}(D:Dk h d c b)(hb:b<1000000000)(hm:0<m)(hm2:m<1073741824):∃r h',run F (k+3) 5 [.ref d,.int m] h=.ok (.int r) h'/\0<=r/\r<m/\Dk h' d c (b+1)/\bM h h' d c:=by
 rw[eE C.f5 rfl];obtain⟨hne,ns,cells,p,q,gd,gc,hnn,hp,hq,hqb,hl⟩:=D;have Zp:VH.get ⟨h.n,h.n,h.os⟩ d=aC (.lst [.fz (ns.map .int),.ref c,.int p,.int q]):=by rw[bF];exact gd
 have Zq:VH.get ⟨h.n,h.n,h.os⟩ c=aC (.lst (cells.map .int)):=by rw[bF];exact gc
 obtain⟨g',cells',p',a1,a2,a3,a4,a5,a6,a7,a8⟩:=Qz C (k:=k) hne hm hm2 63 fuel ⟨h.n,h.n,h.os⟩ aD cells p (by decide) (by lia) hp hnn Zp Zq;have key:∀(g2:VH)(r:Int)(iD:List Int)(p2 q2:Int),exs (run F (k+2)) su.body [aC (.ref d),aC (.int m),aD] ⟨h.n,h.n,h.os⟩=.ok (.rt (.int r)) g2->0<=r->r<m->0<=p2->0<=q2->q2<=b+1->iD.length<=63->(∀y∈iD,(0:Int)<=y)->
  g2.get d=aC (.lst [.fz (ns.map .int),.ref c,.int p2,.int q2])->g2.get c=aC (.lst (iD.map .int))->(∀i,i<h.n->i≠d->i≠c->g2.get i=h.get i)->
  ∃r h',fin h (exs (run F (k+2)) su.body ([W.ref d,W.int m].map aC++bE (su.n-su.ps) aD) ⟨h.n,h.n,h.os⟩)=.ok (.int r) h'/\0<=r/\r<m/\Dk h' d c (b+1)/\bM h h' d c:=by
  intro g2 r iD p2 q2 e r1 r2 b1 b2 b3 b4 b5 b6 b7 b8;obtain⟨h2,e2,hn2,kY⟩:=QA (w:=.int r) (EN (EO F (k+2)) _ _ _ _ _ e);refine⟨r,h2,?_,r1,r2,⟨hne,ns,iD,p2,q2,?_,?_,b5,b1,b2,by lia,b4⟩,⟨hn2,λi o h1 h3 e3=>?_⟩⟩;show fin h (exs (run F (k+2)) su.body [aC (.ref d),aC (.int m),aD] ⟨h.n,h.n,h.os⟩)=_;rw[e];exact e2;rw[kY d (bQ gd)];exact b6;rw[kY c (bQ gc)];exact b7;rw[kY i (bQ e3),b8 i (bQ e3) h1 h3];exact e3
 rcases a8 with⟨r,e,r1,r2⟩|⟨y,e⟩;refine key g' r cells' p' q ?_ r1 r2 a1 hq (by lia) (by lia) a2 a4 a5 λi hi h1 h2=>by rw[a7 i h1 h2,bF]
 simp[su,exs,e];obtain⟨r,e2,r1,r2⟩:=mixed C (k:=k) (h:=g'.set d (.lst [.fz (ns.map .int),.ref c,.int p',.int (q+1)])) (ns:=ns) (j:=q+1) (m:=m) (by lia) (by lia) hm;refine key (g'.set d (.lst [.fz (ns.map .int),.ref c,.int p',.int (q+1)])) r cells' p' (q+1) ?_ r1 r2 a1 (by lia) (by lia) (by lia) a2 (pD a4) (by rw[yG a4 (eT hne)];exact a5) λi hi h1 h2=>by rw[yG a4 h1,a7 i h1 h2,bF]
 have h3:dH [W.fz (ns.map .int),.ref c,.int p',.int q] 3=aC (.int q):=rfl;have h30:dH [W.fz (ns.map .int),.ref c,.int p',.int (q+1)] 3=aC (.int (q+1)):=rfl;have Zr:dH [W.fz (ns.map .int),.ref c,.int p',.int (q+1)] 0=aC (.fz (ns.map .int)):=rfl;have Zs:gR 4 3=aC 3:=rfl;have hs:=pD (o:=.lst [.fz (ns.map .int),.ref c,.int p',.int (q+1)]) a4;simp[su,exs,e,ev,bS,a4,h3,fN,dP,Zs,hs,h30,Zr,e2]
end
theorem bD{cl:Call}{a b:S}{ρ ρ':En}{h h':VH}(e:exs cl a ρ h=.ok (.nx ρ') h'):exs cl (.seq a b) ρ h=exs cl b ρ' h':=by simp only[exs,e,aE]
theorem kC{cl:Call}{a b:S}{ρ:En}{w:W}{h h':VH}(e:exs cl a ρ h=.ok (.rt w) h'):exs cl (.seq a b) ρ h=.ok (.rt w) h':=by simp only[exs,e,aE]
@[simp] theorem Cm {cl:Call} {ρ:En} {h:VH}:exs cl .skip ρ h=.ok (.nx ρ) h:=rfl
theorem Dk.new{h:VH}{d c b:Nat}{o:VO}(D:Dk h d c b):Dk (h.new o) d c b:=by obtain⟨ne,ns,cells,p,q,a1,a2,a3⟩:=D;exact⟨ne,ns,cells,p,q,by rw[fU (bQ a1)];exact a1,by rw[fU (bQ a2)];exact a2,a3⟩
theorem bM.new{h h':VH}{d c:Nat}{o:VO}(K:bM h h' d c):bM h (h'.new o) d c:=⟨yU K.le,λi o' h1 h2 e=>by
 have:=K.get i o' h1 h2 e;rw[fU (bQ this)];exact this⟩
theorem Dk.lo{h:VH}{d c b l:Nat}(D:Dk h d c b):Dk ⟨h.n,l,h.os⟩ d c b:=by obtain⟨ne,ns,cells,p,q,a1,a2,a3⟩:=D;exact⟨ne,ns,cells,p,q,by rw[bF];exact a1,by rw[bF];exact a2,a3⟩
theorem yH{cl:Call}{h h':VH}{d c b:Nat}{w:W}{fl:Fl}{body:S}{ρ:En}{F:Nat->Option Fn}{k:Nat}(e:exs (run F k) body ρ ⟨h.n,h.n,h.os⟩=.ok (.rt w) h')(D0:Dk h d c 0\/∃b,Dk h d c b)(D:Dk h' d c b)(K:bM ⟨h.n,h.n,h.os⟩ h' d c) :
 ∃h2,fin h (exs (run F k) body ρ ⟨h.n,h.n,h.os⟩)=.ok w h2/\Dk h2 d c b/\bM h h2 d c:=by
 obtain⟨h2,e2,hn2,kY⟩:=QA (w:=w) (EN (EO F k) _ _ _ _ _ e);have hd:d<h.n/\c<h.n:=by rcases D0 with⟨_,ns,cells,p,q,a1,a2,_⟩|⟨b,_,ns,cells,p,q,a1,a2,_⟩<;>exact⟨bQ a1,bQ a2⟩
 refine⟨h2,by rw[e];exact e2,?_,⟨hn2,λi o h1 h3 e3=>?_⟩⟩;obtain⟨ne,ns,cells,p,q,a1,a2,a3⟩:=D;exact⟨ne,ns,cells,p,q,by rw[kY d hd.1];exact a1,by rw[kY c hd.2];exact a2,a3⟩;rw[kY i (bQ e3)];exact K.get i o h1 h3 (by rw[bF];exact e3)
noncomputable abbrev aH:Str:=Str.ofString "."
noncomputable abbrev cj:Str:=Str.ofString "<"
noncomputable abbrev cy:Str:=Str.ofString ">"
noncomputable abbrev sX:Str:=Str.ofString "x"
noncomputable abbrev sS:Str:=Str.ofString "s"
theorem JH{c wd g:Int}:eW (.str aH) c wd g=true:=rfl
theorem Cn{c wd g:Int}:eW (.str sS) c wd g=true:=rfl
theorem QB{c wd g:Int}(h:0<c):eW (.str cj) c wd g=true:=by have:eW (.str cj) c wd g=decide (0<c):=rfl;rw[this];simpa using h
theorem QC{c wd g:Int}(h:c<wd-1):eW (.str cy) c wd g=true:=by have:eW (.str cy) c wd g=decide (c<wd-1):=rfl;rw[this];simpa using h
theorem Co{c wd g:Int}(h:0<c)(h2:c<wd-1):eW (.str sX) c wd g=true:=by have:eW (.str sX) c wd g=(decide (0<c)&&decide (c<wd-1)):=rfl;rw[this];simp[h,h2]
theorem Zt{c wd g a b:Int}(a0:0<=a)(a1:a<g)(b0:0<=b)(b1:b<2)(h:0<c)(h2:c<wd-1):eW (.tup [.int a,.int b]) c wd g=true:=by
 have h3:mY (.tup [.int a,.int b]) g=true:=by simp only[mY,within,bG,fL];lia
 unfold eW;rw[h3,Bool.or_true,if_pos rfl];simp[h,h2]
inductive Raw(g:Int):W->Prop
 |dot:Raw g (.str aH)
 |lt:Raw g (.str cj)
 |gt:Raw g (.str cy)
 |x:Raw g (.str sX)
 |rk {a b:Int}:0<=a->a<g->0<=b->b<2->Raw g (.tup [.int a,.int b])
theorem lY{h:VH}{x y z:Str}(hx:PyData.strOk x)(hy:PyData.strOk y)(hz:PyData.strOk z):mK h (.str x) (.tup [.str y,.str z])=aC (y==x||z==x):=by
 have sx:SeqAt.shaped (.str x)=true:=by unfold SeqAt.shaped;show(PyData.strOk x&&_)=true;rw[hx];rfl
 have sy:SeqAt.shaped (.str y)=true:=by unfold SeqAt.shaped;show(PyData.strOk y&&_)=true;rw[hy];rfl
 have sz:SeqAt.shaped (.str z)=true:=by unfold SeqAt.shaped;show(PyData.strOk z&&_)=true;rw[hz];rfl
 simp[mK,aP,toD,aT,sx,sy,sz,fk,PyData.eqv]
theorem Fy{h:VH}{a b:Int}{y z:Str}(hy:PyData.strOk y)(hz:PyData.strOk z):mK h (.tup [.int a,.int b]) (.tup [.str y,.str z])=aC false:=by
 have sy:SeqAt.shaped (.str y)=true:=by unfold SeqAt.shaped;show(PyData.strOk y&&_)=true;rw[hy];rfl
 have sz:SeqAt.shaped (.str z)=true:=by unfold SeqAt.shaped;show(PyData.strOk z&&_)=true;rw[hz];rfl
 have st:SeqAt.shaped (.tuple [.int a,.int b])=true:=rfl;simp[mK,aP,toD,aT,sy,sz,st,fk,PyData.eqv]
noncomputable def jZ:E:=(.or (.and (.cmp .eq (.var 1) (.cst (.int (0)))) (.cmp .wj (.var 5) (.tup (.cons (.cst (.str aH)) (.cons (.cst (.str cy)) .nil))))) (.and (.cmp .eq (.var 1) (.op .sub (.var 2) (.cst (.int (1))))) (.cmp .wj (.var 5) (.tup (.cons (.cst (.str aH)) (.cons (.cst (.str cj)) .nil))))))
noncomputable def sY:E:=(.idx (.lst (.cons (.cst (.str cy)) (.cons (.cst (.str cj)) (.cons (.cst (.str aH)) .nil)))) (.bi .min (.cons (.op .add (.bi .int (.cons (.cmp .gt (.var 1) (.cst (.int (0)))) .nil)) (.op .mul (.cst (.int (2))) (.bi .int (.cons (.cmp .eq (.var 2) (.cst (.int (1)))) .nil)))) (.cons (.cst (.int (2))) .nil))))
noncomputable def sZ(P:Int->W->Prop):Int->List W->Prop|_,[]=>True|a,w::r=>P a w/\sZ P (a+1) r
theorem Cq{P:W->Prop}:∀{ws:List W} {a:Int},sZ (λ_ w=>P w) a ws->∀w∈ws,P w
 |[],_,_,w,h=>by cases h
 |x::r,a,⟨h1,h2⟩,w,h=>by
  rcases gy.mp h with rfl|h;exact h1;exact Cq h2 w h
theorem yI{cl:Call}{P:Int->W->Prop}{e:E}{tl:En}{d c m lim:Nat}(hs:∀(i:Int) (h:VH) (b:Nat),0<=i->i<lim->Dk h d c b->b+m<1000000000->∃w h',ev cl e (aC (.int i)::tl) h=.ok w h'/\P i w/\Dk h' d c (b+m)/\bM h h' d c) :
 ∀(n:Nat)(a:Int)(x:Option W)(h:VH)(b:Nat),0<=a->a+n<=lim->Dk h d c b->b+m*n<1000000000->
  ∃ws h',jY (bx (.one 0)) (λ_ h=>.ok (.bl true) h) (ev cl e) (jq a n) (x::tl) h=.ok ws h'/\sZ P a ws/\ws.length=n/\Dk h' d c (b+m*n)/\bM h h' d c
 |0,a,x,h,b,_,_,D,_=>⟨[],h,rfl,trivial,rfl,by simpa using D,.refl⟩
 |n+1,a,x,h,b,ha,hl,D,hb=>by
  have e1:m* (n+1)=m*n+m:=Nat.mul_succ m n;obtain⟨w,h1,e2,p1,D1,K1⟩:=hs a h b ha (by lia) D (by lia);obtain⟨ws,h2,e3,p2,l2,D2,K2⟩:=yI hs n (a+1) (aC (.int a)) h1 (b+m) (by lia) (by lia) D1 (by lia);refine⟨w::ws,h2,?_,⟨p1,p2⟩,by rw[fB,l2],D2.mono (by lia),K1.trans K2⟩;simp only[jq,jY,bx,List.set,ev,aE,e2,e3]
theorem QD{cl:Call}:ev cl (.cst (.bl true))=λ_ h=>.ok (.bl true) h:=rfl
theorem yJ{n:Nat}(h:n<=1000000):Nat.ble n big=true:=tO.mpr (gZ h (by decide))
theorem QE{cl:Call}{a:E}{ρ:En}{h h1 h2:VH}{n ow:Nat}{ix:List Nat}{e:E}{ys:List W}(ea:ev cl a ρ h=.ok (.tup [.int n]) h1)(hn:n<1000000)(el:jY (bx (.one 0)) (λ_ h=>.ok (.bl true) h) (ev cl e) (jq 0 n) (inner ow ix ρ) h1=.ok ys h2)(hy:ys.length<=1000000) :
 ev cl (.lc .bg a (.one 0) ow ix (.cst (.bl true)) e) ρ h=.ok (.ref h2.n) (h2.new (.lst ys)):=by
 have l:=Y0 (n:=n) (tg:=bx (.one 0)) (c:=λ_ h=>.ok (.bl true) h) (e:=ev cl e) (ρ:=inner ow ix ρ) (h:=h1) hn;rw[el]at l;have q:ev cl (.lc .bg a (.one 0) ow ix (.cst (.bl true)) e) ρ h=(ev cl a ρ h).bind λx h=>(gu (bf .bg x) (bx (.one 0)) (ev cl (.cst (.bl true))) (ev cl e) fuel 0 (inner ow ix ρ) h []).bind λys h=>if Nat.ble ys.length big then .ok (.ref h.n) (h.new (.lst ys))else .no:=by rw[ev]
 rw[q,ea,aE];show(gu (bf .bg (.tup [.int n])) (bx (.one 0)) (λ_ h=>.ok (.bl true) h) (ev cl e) fuel 0 (inner ow ix ρ) h1 []).bind _=_;rw[l,aE,if_pos (yJ hy)]
theorem Zu{cl:Call}{x:E}{ρ:En}{h h1:VH}{i:Nat}{ys:List W}(e:ev cl x ρ h=.ok (.ref i) h1)(g:h1.get i=aC (.lst ys)):ev cl (.bi .tuple (.cons x .nil)) ρ h=.ok (.tup ys) h1:=by simp only[ev,e,aE,iS,uq,aP,g,vz,fK]
theorem FA{cl:Call}{a:E}{ρ:En}{h h1 h2:VH}{n ow:Nat}{ix:List Nat}{e:E}{ys:List W}(ea:ev cl a ρ h=.ok (.tup [.int n]) h1)(hn:n<1000000)(el:jY (bx (.one 0)) (λ_ h=>.ok (.bl true) h) (ev cl e) (jq 0 n) (inner ow ix ρ) h1=.ok ys h2)(hy:ys.length<=1000000) :
 ev cl (.bi .tuple (.cons (.lc .bg a (.one 0) ow ix (.cst (.bl true)) e) .nil)) ρ h=.ok (.tup ys) (h2.new (.lst ys)):=Zu (QE ea hn el hy) fm
theorem QF{wd g:Int}:∀{ws:List W} {c:Int},sZ (λi w=>eW w i wd g=true) c ws->dh wd g c ws|[],_,_=>trivial|_::_,_,⟨h1,h2⟩=>⟨h1,QF h2⟩
theorem Zv{n:Nat}(h:n<=1000000):Nat.blt n big=true:=iU.mpr (Nat.lt_of_le_of_lt h (by decide))
theorem Zw{w:W}{g:Int}(h:mY w g):∃a b:Int,w=.tup [.int a,.int b]/\0<=a/\a<g/\0<=b/\b<2:=by
 cases w<;>simp only[mY]at h<;>try(cases h;done)
 rename_i us;rcases us with _|⟨a,_|⟨b,_|_⟩⟩<;>simp at h
 obtain⟨h1,h2⟩:=h;cases a<;>simp[within]at h1;cases b<;>simp[within]at h2;exact⟨_,_,rfl,by lia,by lia,by lia,by lia⟩
theorem Zx{w:W}{n:Int}(h:door w n):∃(a:Int) (b:W),w=.tup [.int a,b]/\0<=a/\a<=99/\(b=.aO\/∃i:Int,b=.int i/\0<=i/\i<n):=by
 cases w<;>simp only[door]at h<;>try(cases h;done)
 rename_i us;rcases us with _|⟨a,_|⟨b,_|_⟩⟩<;>simp at h
 obtain⟨h1,h2⟩:=h;cases a<;>simp[within]at h1;unfold xr at h2;cases b<;>simp[within,cQ]at h2;exact⟨_,_,rfl,h1.1,h1.2,.inl rfl⟩;exact⟨_,_,rfl,h1.1,h1.2,.inr ⟨_,rfl,by lia,by lia⟩⟩
noncomputable def bB(w:W)(hd:Int)(ls:List Int):Option (Int×List Int×List Int):=match w with|.tup [.int g,.int s]=>aC (if ls.getD g.toNat 0=s then -1 else 1,[g],ls.set g.toNat (1-ls.getD g.toNat 0))|.str x=>if x==sS then aD else if x==sX then aC (hd,[],ls)else if x==aH then aC (0,[],ls)else aC (if x==cj then -1 else 1,[],ls)|_=>aD
noncomputable def bZ(r:List W)(c:Int):W:=(r[c.toNat]?).getD .aO
noncomputable def eX(ls:List Int):Prop:=∀x∈ls,x=0\/x=1
theorem FD{w:W}{c wd g:Int}(h:eW w c wd g):(w=.str sX/\0<c/\c<wd-1)\/(w=.str cj/\0<c)\/(w=.str cy/\c<wd-1)\/w=.str aH\/w=.str sS\/∃a b:Nat,w=.tup [.int a,.int b]/\(a:Int)<g/\b<2/\0<c/\c<wd-1:=by
 unfold eW at h;split at h;rename_i q;rw[bG,fL,fL]at h;rw[qt]at q;rcases q with q|q
 exact .inl ⟨yF q,h⟩;obtain⟨a,b,rfl,h1,h2,h3,h4⟩:=Zw q;obtain⟨a,rfl⟩:=k8 h1;obtain⟨b,rfl⟩:=k8 h3;exact .inr (.inr (.inr (.inr (.inr ⟨a,b,rfl,h2,by lia,h⟩))));split at h;rename_i q;exact .inr (.inl ⟨yF q,by simpa using h⟩);split at h;rename_i q;exact .inr (.inr (.inl ⟨yF q,by simpa using h⟩));rw[qt]at h;rcases h with q|q
 exact .inr (.inr (.inr (.inl (yF q))));exact .inr (.inr (.inr (.inr (.inl (yF q)))))
theorem JI{hd:Int}{ls:List Int}:bB (.str sX) hd ls=aC (hd,[],ls):=rfl
theorem JJ{hd:Int}{ls:List Int}:bB (.str cj) hd ls=aC (-1,[],ls):=rfl
theorem JK{hd:Int}{ls:List Int}:bB (.str cy) hd ls=aC (1,[],ls):=rfl
theorem JL{hd:Int}{ls:List Int}:bB (.str aH) hd ls=aC (0,[],ls):=rfl
theorem JM{hd:Int}{ls:List Int}:bB (.str sS) hd ls=aD:=rfl
theorem JN{hd:Int}{ls:List Int}{a b:Nat}:bB (.tup [.int a,.int b]) hd ls=aC (if ls.getD a 0=b then -1 else 1,[(a:Int)],ls.set a (1-ls.getD a 0)):=rfl
theorem Zy{ls:List Int}(h:eX ls)(a:Nat):ls.getD a 0=0\/ls.getD a 0=1:=by
 rw[tQ];cases q:ls[a]? with|none=>exact .inl rfl|some x=>exact h x (i9 q)
theorem Zz{w:W}{c wd g hd:Int}{ls:List Int}(h:eW w c wd g)(c0:0<=c)(c1:c<wd)(h1:-1<=hd)(h2:hd<=1)(b:eX ls){d:Int}{t l:List Int}(e:bB w hd ls=aC (d,t,l)):-1<=d/\d<=1/\0<=c+d/\c+d<wd/\l.length=ls.length/\eX l/\t.length<=1:=by rcases FD h with⟨rfl,h3,h4⟩|⟨rfl,h3⟩|⟨rfl,h3⟩|rfl|rfl|⟨p,q,rfl,h3,h4,h5,h6⟩;rw[JI]at e;cases e;exact⟨h1,h2,by lia,by lia,rfl,b,by simp⟩;rw[JJ]at e;cases e;exact⟨by lia,by lia,by lia,by lia,rfl,b,by simp⟩;rw[JK]at e;cases e;exact⟨by lia,by lia,by lia,by lia,rfl,b,by simp⟩;rw[JL]at e;cases e;exact⟨by lia,by lia,by lia,by lia,rfl,b,by simp⟩;rw[JM]at e;cases e;rw[JN]at e;cases e;refine⟨by split<;>lia,by split<;>lia,by split<;>lia,by split<;>lia,by simp,λx hx=>?_,by simp⟩;rcases List.mem_or_eq_of_mem_set hx with hx|rfl;exact b x hx;rcases Zy b p with q|q<;>rw[q]<;>lia
noncomputable def QG(wd g:Int)(rs:List (List W)):Prop:=∀r∈rs,(r.length:Int)=wd/\dh wd g 0 r
theorem QH{wd g:Int}:∀{ws:List W} {c:Int} (i:Nat) {w:W},dh wd g c ws->ws[i]?=aC w->eW w (c+i) wd g=true
 |[],_,_,_,_,e=>by simp at e
 |x::r,c,0,w,⟨h1,h2⟩,e=>by
  simp at e;subst e;simpa using h1
 |x::r,c,i+1,w,⟨h1,h2⟩,e=>by
  have:=QH i h2 (by simpa using e);rw[show c+ ((i+1:Nat):Int)=c+1+i by push_cast;lia];exact this
theorem FF{wd g c:Int}{r:List W}(h:(r.length:Int)=wd/\dh wd g 0 r)(c0:0<=c)(c1:c<wd):r[c.toNat]?=aC (bZ r c)/\eW (bZ r c) c wd g=true:=by
 obtain⟨n,rfl⟩:=k8 c0;have hn:n<r.length:=by lia
 have e:r[n]?=aC r[n]:=eN hn;have e2:bZ r n=r[n]:=by unfold bZ;rw[xU,e];rfl
 rw[e2,xU];refine⟨e,?_⟩;have:=QH n h.2 e;simpa using this
theorem fO{h:VH}{x y:Str}(hx:PyData.strOk x)(hy:PyData.strOk y):bX h (.str x) (.str y)=aC (x==y):=by rw[nC (x:=y) (by exact hx) hy];rfl
@[simp] theorem JO {h:VH}:bX h (.str sX) (.str (br "x"))=aC true:=(fO (by decide +kernel) (by decide +kernel)).trans (by decide +kernel)
@[simp] theorem tu {h:VH}:bX h (.str sX) (.str (br "<"))=aC false:=(fO (by decide +kernel) (by decide +kernel)).trans (by decide +kernel)
@[simp] theorem tw {h:VH}:bX h (.str sX) (.str (br ">"))=aC false:=(fO (by decide +kernel) (by decide +kernel)).trans (by decide +kernel)
@[simp] theorem pF {h:VH}:bX h (.str sX) (.str (br "."))=aC false:=(fO (by decide +kernel) (by decide +kernel)).trans (by decide +kernel)
@[simp] theorem JP {h:VH}:bX h (.str sX) (.str (br "s"))=aC false:=(fO (by decide +kernel) (by decide +kernel)).trans (by decide +kernel)
@[simp] theorem FG {h:VH}:bX h (.str cj) (.str (br "x"))=aC false:=(fO (by decide +kernel) (by decide +kernel)).trans (by decide +kernel)
@[simp] theorem pG {h:VH}:bX h (.str cj) (.str (br "<"))=aC true:=(fO (by decide +kernel) (by decide +kernel)).trans (by decide +kernel)
@[simp] theorem pH {h:VH}:bX h (.str cj) (.str (br ">"))=aC false:=(fO (by decide +kernel) (by decide +kernel)).trans (by decide +kernel)
@[simp] theorem mZ {h:VH}:bX h (.str cj) (.str (br "."))=aC false:=(fO (by decide +kernel) (by decide +kernel)).trans (by decide +kernel)
@[simp] theorem FH {h:VH}:bX h (.str cj) (.str (br "s"))=aC false:=(fO (by decide +kernel) (by decide +kernel)).trans (by decide +kernel)
@[simp] theorem FI {h:VH}:bX h (.str cy) (.str (br "x"))=aC false:=(fO (by decide +kernel) (by decide +kernel)).trans (by decide +kernel)
@[simp] theorem pI {h:VH}:bX h (.str cy) (.str (br "<"))=aC false:=(fO (by decide +kernel) (by decide +kernel)).trans (by decide +kernel)
@[simp] theorem pJ {h:VH}:bX h (.str cy) (.str (br ">"))=aC true:=(fO (by decide +kernel) (by decide +kernel)).trans (by decide +kernel)
@[simp] theorem m5 {h:VH}:bX h (.str cy) (.str (br "."))=aC false:=(fO (by decide +kernel) (by decide +kernel)).trans (by decide +kernel)
@[simp] theorem FJ {h:VH}:bX h (.str cy) (.str (br "s"))=aC false:=(fO (by decide +kernel) (by decide +kernel)).trans (by decide +kernel)
@[simp] theorem Cr {h:VH}:bX h (.str aH) (.str (br "x"))=aC false:=(fO (by decide +kernel) (by decide +kernel)).trans (by decide +kernel)
@[simp] theorem m9 {h:VH}:bX h (.str aH) (.str (br "<"))=aC false:=(fO (by decide +kernel) (by decide +kernel)).trans (by decide +kernel)
@[simp] theorem nc {h:VH}:bX h (.str aH) (.str (br ">"))=aC false:=(fO (by decide +kernel) (by decide +kernel)).trans (by decide +kernel)
@[simp] theorem kZ {h:VH}:bX h (.str aH) (.str (br "."))=aC true:=(fO (by decide +kernel) (by decide +kernel)).trans (by decide +kernel)
@[simp] theorem Cs {h:VH}:bX h (.str aH) (.str (br "s"))=aC false:=(fO (by decide +kernel) (by decide +kernel)).trans (by decide +kernel)
@[simp] theorem JQ {h:VH}:bX h (.str sS) (.str (br "x"))=aC false:=(fO (by decide +kernel) (by decide +kernel)).trans (by decide +kernel)
@[simp] theorem FL {h:VH}:bX h (.str sS) (.str (br "<"))=aC false:=(fO (by decide +kernel) (by decide +kernel)).trans (by decide +kernel)
@[simp] theorem FN {h:VH}:bX h (.str sS) (.str (br ">"))=aC false:=(fO (by decide +kernel) (by decide +kernel)).trans (by decide +kernel)
@[simp] theorem Ct {h:VH}:bX h (.str sS) (.str (br "."))=aC false:=(fO (by decide +kernel) (by decide +kernel)).trans (by decide +kernel)
@[simp] theorem JR {h:VH}:bX h (.str sS) (.str (br "s"))=aC true:=(fO (by decide +kernel) (by decide +kernel)).trans (by decide +kernel)
theorem QI{ls:List Int}{a:Nat}(h:a<ls.length):dH (ls.map W.int) (a:Int)=aC (.int (ls.getD a 0)):=
 jx (by rw[gp,eN h,tQ,eN h];rfl)
theorem FO{n a:Nat}(h:a<n):gR n (a:Int)=aC a:=by unfold gR;rw[if_pos (by lia),if_pos (by lia)];simp
theorem QJ{wd g c:Int}{r:List W}(ok:(r.length:Int)=wd/\dh wd g 0 r)(c0:0<=c)(c1:c<wd):dH r c=aC (bZ r c):=by have:=(FF ok c0 c1).1;obtain⟨n,rfl⟩:=k8 c0;rw[xU]at this;exact jx this
noncomputable def iW(ls:List Int):W:=.tup (ls.map .int)
theorem Bd.Ok.xu{B:Bd}(b:B.Ok){f:Nat}(hf:f<B.fd.length):∃c:Int,B.fd[f]?=aC (.int c)/\0<=c/\c<B.wd:=by
 have h:=b.f3 _ (iG hf);have e:B.fd[f]?=aC B.fd[f]:=eN hf;generalize B.fd[f]=w at h e;cases w<;>simp only[within]at h<;>try(cases h;done)
 rename_i c;rw[bG,fL,fL]at h;exact⟨c,e,h.1,by lia⟩
noncomputable def Bd.col(B:Bd)(f:Nat):Int:=match B.fd[f]? with|some (.int c)=>c|_=>0
theorem Bd.Ok.col{B:Bd}(b:B.Ok){f:Nat}(hf:f<B.fd.length):B.fd[f]?=aC (.int (B.col f))/\0<=B.col f/\B.col f<B.wd:=by
 obtain⟨c,e,h⟩:=b.xu hf;have:B.col f=c:=by unfold Bd.col;rw[e]
 rw[this];exact⟨e,h⟩
noncomputable def Bd.door(B:Bd)(c:Int):W:=(B.dr[c.toNat]?).getD .aO
theorem Bd.Ok.door{B:Bd}(b:B.Ok){c:Int}(c0:0<=c)(c1:c<B.wd):dH B.dr c=aC (B.door c)/\RF.door (B.door c) B.fd.length=true:=by
 obtain⟨n,rfl⟩:=k8 c0;have hd:=b.d1;have hn:n<B.dr.length:=by lia
 have e:B.dr[n]?=aC B.dr[n]:=eN hn;have e2:B.door n=B.dr[n]:=by unfold Bd.door;rw[xU,e];rfl
 rw[e2];exact⟨jx e,b.d2 _ (iG hn)⟩
theorem ZC{ls:List Int}{g:Int}(hl:(ls.length:Int)=g)(b:eX ls):pC (iW ls) g g 0 1=true:=by unfold iW pC gM;simp only[bA,bG,fL,nv];refine⟨⟨by lia,by lia⟩,λw hw=>?_⟩;obtain⟨x,hx,rfl⟩:=jv.mp hw;rcases b x hx with rfl|rfl<;>rfl
noncomputable def aS(r:List Nat):List W:=r.map λ(f:Nat)=>W.int (f:Int)
noncomputable def j5:List (Key×W):=[(.inr aH,.int 0),(.inr cj,.int (-1)),(.inr cy,.int 1)]
theorem ZD:EF [] [(.inr aH,.int 0),(.inr cj,.int (-1)),(.inr cy,.int 1)]=j5:=by rfl
theorem ZE:bY j5 (.inr aH)=aC (.int 0):=by rfl
theorem ZF:bY j5 (.inr cj)=aC (.int (-1)):=by rfl
theorem ZG:bY j5 (.inr cy)=aC (.int 1):=by rfl
theorem ZH{cl:Call}{ρ:En}{h:VH}:ev cl Cg ρ h=.ok (.ref h.n) (h.new (.dk j5)):=by simp only[Cg,ev,aE,ur,rO];rw[if_pos (by decide)];show Res.ok _ (h.new (.dk (EF [] _)))=_;rw[ZD]
theorem zs2{h:VH}{o:VO}:(h.new o).get h.n=aC o:=by unfold VH.get VH.new;rw[if_pos (iU.mpr (by show h.n<h.n+1;lia))];show(o::h.os)[h.n+1-1-h.n]?=_;rw[show h.n+1-1-h.n=0 by lia];rfl
theorem Cu{h:VH}{p q:Int}{x:Str}(hx:PyData.strOk x):bX h (.tup [.int p,.int q]) (.str x)=aC false:=by rw[nC (x:=x) rfl hx];rfl
section
variable{F:Nat->Option Fn}(C:CoreD F)
include C
theorem QK{k:Nat}:∀(ns:List Int) (x:Option W) (h:VH),∃cells:List Int,jY (bx (.one 0)) (ev (run F k) zdt) (ev (run F k) uE) (ns.map .int) [x] h=.ok (cells.map .int) h/\(∀y∈cells,(0:Int)<=y)/\cells.length<=ns.length
 |[],x,h=>⟨[],rfl,(λy hy=>by cases hy),aQ _⟩
 |n::ns,x,h=>by
  obtain⟨cells,e,h1,h2⟩:=QK (k:=k) ns (aC (.int n)) h;have Hh:((10:Int).natAbs<2 ^ 64):=by decide
  have ec:ev (run F k) zdt [aC (.int n)] h=.ok (.bl (decide (1000000000000000000<=(n.natAbs:Int)))) h:=by simp[zdt,ev,iS,kT,fN,dP,aR,fT,JG]
  have ee:ev (run F k) uE [aC (.int n)] h=.ok (.int (n.natAbs:Int)) h:=by simp[uE,ev,iS,kT,JG]
  by_cases q:1000000000000000000<=(n.natAbs:Int)
  refine⟨(n.natAbs:Int)::cells,?_,λy hy=>?_,by rw[fB,fB];lia⟩;simp only[jY,gQ,bx,List.set,ec,aE,q,C7,ee,e];rcases gy.mp hy with rfl|hy
  lia;exact h1 y hy;refine⟨cells,?_,h1,by rw[fB];lia⟩;simp only[jY,gQ,bx,List.set,ec,aE,q,decide_false,e]
theorem JS{k:Nat}{h:VH}{ns:List Int}(hl:ns.length<=63):∃h',run F (k+1) 3 [.fz (ns.map .int)] h=.ok (.ref (h.n+1)) h'/\Dk h' (h.n+1) h.n 0:=by
 rw[eE C.f3 rfl];obtain⟨cells,e,h1,h2⟩:=QK C (k:=k) ns aD ⟨h.n,h.n,h.os⟩;have l:=Fw (nx:=bf .seq (.fz (ns.map .int))) (tg:=bx (.one 0)) (c:=ev (run F k) zdt) (e:=ev (run F k) uE) (ws:=ns.map .int) (λi h=>rfl) fuel 0 [aD] ⟨h.n,h.n,h.os⟩ [] (gh _) (by rw[bA];unfold fuel;lia);rw[List.drop_zero,e]at l;have l:gu (bf .seq (.fz (ns.map .int))) (bx (.one 0)) (ev (run F k) zdt) (ev (run F k) uE) fuel 0 [aD] ⟨h.n,h.n,h.os⟩ []=.ok (cells.map .int) ⟨h.n,h.n,h.os⟩:=l;have q:ev (run F k) (.lc .seq (.var 0) (.one 0) 1 [] zdt uE) [aC (.fz (ns.map .int))] ⟨h.n,h.n,h.os⟩=.ok (.ref h.n) (VH.new ⟨h.n,h.n,h.os⟩ (.lst (cells.map .int))):=by rw[ev];have:ev (run F k) (.var 0) [aC (.fz (ns.map .int))] ⟨h.n,h.n,h.os⟩=.ok (.fz (ns.map .int)) ⟨h.n,h.n,h.os⟩:=rfl;rw[this,aE];show(gu (bf .seq (.fz (ns.map .int))) (bx (.one 0)) (ev (run F k) zdt) (ev (run F k) uE) fuel 0 [aD] ⟨h.n,h.n,h.os⟩ []).bind _=_;rw[l,aE,if_pos (yJ (by rw[bA];lia))]
 let i7:VH:=VH.new ⟨h.n,h.n,h.os⟩ (.lst (cells.map .int));let o:VO:=.lst [.fz (ns.map .int),.ref h.n,.int 0,.int 0];have eb:exs (run F k) Cc.body [aC (.fz (ns.map .int))] ⟨h.n,h.n,h.os⟩=.ok (.rt (.ref (h.n+1))) (i7.new o):=by simp only[Cc,exs,ev,aE,fK,Dl,Option.join_some]at q ⊢;rw[q];rfl
 refine⟨⟨h.n+2,if Nat.ble h.lo h.n then h.lo else h.n,(i7.new o).os⟩,?_,?_⟩;show fin h (exs (run F k) Cc.body [aC (.fz (ns.map .int))] ⟨h.n,h.n,h.os⟩)=_;rw[eb];show leave h (.ref (h.n+1)) (i7.new o)=_;unfold leave;rw[if_neg (by
  rw[bG];intro z;have:=z.2;simp only[W.lt]at this;have:=iU.mp this;lia)]
 rfl;refine⟨by lia,ns,cells,0,0,?_,?_,h1,by lia,by lia,by lia,by lia⟩;show VH.get ⟨(i7.new o).n,_,(i7.new o).os⟩ (h.n+1)=_;rw[bF];exact fm (h:=i7);show VH.get ⟨(i7.new o).n,_,(i7.new o).os⟩ h.n=_;rw[bF,fU (h:=i7) (by show h.n<h.n+1;lia)];exact fm (h:=⟨h.n,h.n,h.os⟩)
end
theorem tB{cl:Call}{o:Op}{a b:E}{ρ:En}{h h1 h2:VH}{x y:W}{r:Res W}(ea:ev cl a ρ h=.ok x h1)(eb:ev cl b ρ h1=.ok y h2)(e:fN o x y h2=r):ev cl (.op o a b) ρ h=r:=by rw[ev,ea,aE,eb,aE,e]
theorem gT{cl:Call}{a:E}{ρ:En}{h h1:VH}{x:W}(ea:ev cl a ρ h=.ok x h1):exs cl (.ret a) ρ h=.ok (.rt x) h1:=by rw[exs,ea,aE]
theorem di{cl:Call}{i:Nat}{a:E}{ρ:En}{h h1:VH}{x:W}(ea:ev cl a ρ h=.ok x h1):exs cl (.set i a) ρ h=.ok (.nx (ρ.set i (aC x))) h1:=by rw[exs,ea,aE]
theorem aG{cl:Call}{i:Nat}{ρ:En}{h:VH}{x:W}(e:ρ[i]?=aC (aC x)):ev cl (.var i) ρ h=.ok x h:=by rw[ev,e];rfl
theorem bN{cl:Call}{a b:E}{ρ:En}{h h1 h2:VH}{x y z:W}(ea:ev cl a ρ h=.ok x h1)(eb:ev cl b ρ h1=.ok y h2)(e:bS h2 x y=aC z):ev cl (.idx a b) ρ h=.ok z h2:=by rw[ev,ea,aE,eb,aE,e];rfl
theorem jr{cl:Call}{a:E}{ρ:En}{h h1:VH}{x:W}{ws:List W}(ea:ev cl a ρ h=.ok x h1)(e:aP h1 x=aC ws):ev cl (.bi .len (.cons a .nil)) ρ h=.ok (.int ws.length) h1:=by rw[ev,ev,ea,aE,ev,aE];show gB [x] h1=_;simp only[gB,e,fK]
theorem QL{cl:Call}{ρ:En}{h h1 h':VH}{n:Nat}{a:E}{x w:W}(ea:ev cl a ρ h=.ok x h1)(e:cl n [x] h1=.ok w h'):ev cl (.call n (.cons a .nil)) ρ h=.ok w h':=by rw[ev,ev,ea,aE,ev];exact e
theorem nD{cl:Call}{ρ:En}{h h1 h2 h':VH}{n:Nat}{a b:E}{x y w:W}(ea:ev cl a ρ h=.ok x h1)(eb:ev cl b ρ h1=.ok y h2)(e:cl n [x,y] h2=.ok w h'):ev cl (.call n (.cons a (.cons b .nil))) ρ h=.ok w h':=by rw[ev,ev,ea,aE,ev,eb,aE,ev];exact e
theorem Cv{cl:Call}{a lo hi:E}{bl bh:Bool}{ρ:En}{h h1 h2 h3 h4:VH}{x l u w:W}{l' u':Option Int}(ea:ev cl a ρ h=.ok x h1)(el:ev cl lo ρ h1=.ok l h2)(eu:ev cl hi ρ h2=.ok u h3)(pl:dY bl l=aC l')(pu:dY bh u=aC u')(e:jS x l' u' h3=.ok w h4):ev cl (.slc a bl lo bh hi) ρ h=.ok w h4:=by rw[ev,ea,aE,el,aE,eu,aE,pl,pu];exact e
theorem QM{P:Int->Prop}:∀{ws:List W},(∀w∈ws,∃x:Int,w=.int x/\P x)->∃xs:List Int,ws=xs.map .int/\∀x∈xs,P x
 |[],_=>⟨[],rfl,by simp⟩
 |w::r,h=>by
  obtain⟨x,rfl,hx⟩:=h w fM;obtain⟨xs,rfl,hs⟩:=QM λw hw=>h w (dU _ hw);refine⟨x::xs,rfl,λy hy=>?_⟩;rcases gy.mp hy with rfl|hy;exact hx;exact hs y hy
section
variable{F:Nat->Option Fn}(C:CoreD F)
include C
theorem ZJ{k:Nat}{h:VH}{d c b g:Nat}(JT:F 20=aC o5)(D:Dk h d c b)(hb:b+10<1000000000)(hg:g<=8) :
 ∃ls h',run F (k+4) 20 [.ref d,.int g] h=.ok (iW ls) h'/\ls.length=g/\eX ls/\Dk h' d c (b+10)/\bM h h' d c:=by
 rw[eE JT rfl];have D0:Dk ⟨h.n,h.n,h.os⟩ d c b:=D.lo;obtain⟨ws,h2,e2,p2,l2,D2,K2⟩:=yI (cl:=run F (k+3)) (P:=λ_ w=>∃x:Int,w=.int x/\(x=0\/x=1)) (e:=Fb) (tl:=[aC (.ref d)]) (m:=1) (lim:=g) (λi h b h0 hl D hb=>by
  obtain⟨r,h',e,r0,r1,D',K'⟩:=take C (k:=k) (m:=2) D (by lia) (by decide) (by decide);exact⟨.int r,h',by simp[Fb,ev,e],⟨r,rfl,by lia⟩,D',K'⟩) g 0 aD ⟨h.n,h.n,h.os⟩ b (by lia) (by lia) D0 (by lia)
 obtain⟨ls,rfl,Cw⟩:=QM (Cq p2);have e3:=FA (cl:=run F (k+3)) (a:=.cons (.var 1) .nil) (ρ:=[aC (.ref d),aC (.int g)]) (h:=⟨h.n,h.n,h.os⟩) (ow:=1) (ix:=[0]) (e:=Fb) (by simp[ev]) (by lia) e2 (by rw[l2];lia);obtain⟨h5,e5,D5,K5⟩:=yH (cl:=run F (k+3)) (fl:=.nx []) (w:=iW ls) (body:=o5.body) (ρ:=[aC (.ref d),aC (.int g)]) (F:=F) (k:=k+3) (h:=h) (h':=h2.new (.lst (ls.map .int))) (by simp only[o5,exs,e3,aE];rfl) (.inr ⟨b,D⟩) (D2.new.mono (show _<=b+10 by lia)) K2.new;exact⟨ls,h5,e5,by rw[bA]at l2;exact l2,Cw,D5,K5⟩
end
theorem QN{nx:Nat->VH->Option (Option W)}{e:FE}{h:VH}{ws:List W}{x:W}{tl:En}{f:W->W}(hx:∀i,nx i h=aC ws[i]?)(he:∀w∈ws,e (aC x::aC w::tl) h=.ok (f w) h) :
 ∀(fu i:Nat)(b:Option W)(acc:List W),i<=ws.length->ws.length<fu+i->∃b',iT nx (bx (.one 1)) (λ_ h=>.ok (.bl true) h) e fu i (aC x::b::tl) h acc=.ok (aC x::b'::tl,((ws.drop i).map f).reverse++acc) h
 |0,i,b,acc,hi,hl=>by lia
 |fu+1,i,b,acc,hi,hl=>by
  cases q:ws[i]? with
  |none=>
   rw[Dm (nG.mp q)];exact⟨b,by simp only[iT,hx,q];rfl⟩
  |some w=>
   obtain⟨hi,ee⟩:=jD.mp q;obtain⟨b',ih⟩:=QN hx he fu (i+1) (aC w) (f w::acc) hi (by lia);refine⟨b',?_⟩;simp only[iT,hx,q,bx,List.set_cons_succ,Dq,aE,he w (i9 q),ih];rw[tS hi,ee];simp
theorem QO{nx:Nat->VH->Option (Option W)}{jy:En->VH->List W->Res (En×List W)}{h:VH}{ws:List W}{tl:En}{g:W->List W}(hx:∀i,nx i h=aC ws[i]?)
 (hi:∀x∈ws,∀(b:Option W)(acc:List W),∃b',jy (aC x::b::tl) h acc=.ok (aC x::b'::tl,(g x).reverse++acc) h) :
 ∀(fu i:Nat)(a b:Option W)(acc:List W),i<=ws.length->ws.length<fu+i->kq nx (bx (.one 0)) (λ_ h=>.ok (.bl true) h) jy fu i (a::b::tl) h acc=.ok (acc.reverse++(ws.drop i).flatMap g) h
 |0,i,a,b,acc,hi,hl=>by lia
 |fu+1,i,a,b,acc,hi',hl=>by
  cases q:ws[i]? with
  |none=>
   rw[Dm (nG.mp q)];simp only[kq,hx,q];simp
  |some w=>
   obtain⟨hil,ee⟩:=jD.mp q;obtain⟨b',e1⟩:=hi w (i9 q) b acc;simp only[kq,hx,q,bx,Dq,aE,e1];rw[QO hx hi fu (i+1) (aC w) b' ((g w).reverse++acc) hil (by lia),tS hil,ee];simp
theorem yK{nx:Nat->VH->Option (Option W)}{tg:W->VH->En->Option En}{b:FS}{n:Nat}{I:Nat->En->VH->Prop}
 (go:∀i ρ h,i<n->I i ρ h->∃w bC ql h2,nx i h=aC (aC w)/\tg w h ρ=aC bC/\b bC h=.ok (.nx ql) h2/\I (i+1) ql h2)
 (stop:∀ρ h,I n ρ h->nx n h=aC aD) :
 ∀(m i fu:Nat)(ρ:En)(h:VH),i+m=n->m<fu->I i ρ h->∃ρ' h',cZ nx tg b fu i ρ h=.ok (.nx ρ') h'/\I n ρ' h'
 |_,_,0,_,_,_,hf,_=>by lia
 |0,i,fu+1,ρ,h,hi,_,hI=>by
  obtain rfl:i=n:=by lia
  refine⟨ρ,h,?_,hI⟩;simp only[cZ,stop ρ h hI]
 |m+1,i,fu+1,ρ,h,hi,hf,hI=>by
  obtain⟨w,bC,ql,h2,e1,e2,e3,wH⟩:=go i ρ h (by lia) hI;obtain⟨ρ',h',e4,JU⟩:=yK go stop m (i+1) fu ql h2 (by lia) (by lia) wH;refine⟨ρ',h',?_,JU⟩;simp only[cZ,e1,e2,e3,aE,e4]
theorem QS{nx:Nat->VH->Option (Option W)}{tg:W->VH->En->Option En}{e:FE}{n:Nat}{I:Nat->En->VH->List W->Prop}
 (go:∀i ρ h acc,i<n->I i ρ h acc->∃w bC y h2,nx i h=aC (aC w)/\tg w h ρ=aC bC/\e bC h=.ok y h2/\I (i+1) bC h2 (acc++[y]))
 (stop:∀ρ h acc,I n ρ h acc->nx n h=aC aD) :
 ∀(m i fu:Nat)(ρ:En)(h:VH)(acc:List W),i+m=n->m<fu->I i ρ h acc->∃ys ρ' h',gu nx tg (λ_ h=>.ok (.bl true) h) e fu i ρ h acc.reverse=.ok ys h'/\I n ρ' h' ys
 |_,_,0,_,_,_,_,hf,_=>by lia
 |0,i,fu+1,ρ,h,acc,hi,_,hI=>by
  obtain rfl:i=n:=by lia
  refine⟨acc,ρ,h,?_,hI⟩;simp only[gu,stop ρ h acc hI,List.reverse_reverse]
 |m+1,i,fu+1,ρ,h,acc,hi,hf,hI=>by
  obtain⟨w,bC,y,h2,e1,e2,e3,wH⟩:=go i ρ h acc (by lia) hI;obtain⟨ys,ρ',h',e4,JU⟩:=QS go stop m (i+1) fu bC h2 (acc++[y]) (by lia) (by lia) wH;refine⟨ys,ρ',h',?_,JU⟩;rw[List.reverse_append]at e4;simp only[gu,e1,e2,aE,e3];exact e4
theorem JV{nx:Nat->VH->Option (Option W)}{tg:W->VH->En->Option En}{e:FE}{n:Nat}{I:Nat->En->VH->List W->Prop}
 (go:∀i ρ h acc,i<n->I i ρ h acc->∃w bC y h2,nx i h=aC (aC w)/\tg w h ρ=aC bC/\e bC h=.ok y h2/\I (i+1) bC h2 (acc++[y]))
 (stop:∀ρ h acc,I n ρ h acc->nx n h=aC aD) {ρ:En} {h:VH} (hn:n<1000000) (hI:I 0 ρ h []):∃ys ρ' h',gu nx tg (λ_ h=>.ok (.bl true) h) e fuel 0 ρ h []=.ok ys h'/\I n ρ' h' ys:=
 QS go stop n 0 fuel ρ h [] (nu _) hn hI
theorem tD{n i:Nat}{h:VH}(hn:n<1000000):bf .bg (.tup [.int n]) i h=aC (if i<n then aC (.int (i:Int))else aD):=by
 have hf:fits (n:Int)=true:=by unfold fits;simp;lia
 show(if fits (n:Int)then aC (if decide ((i:Int)<n)then aC (W.int (0+i))else aD)else aD)=_;rw[if_pos hf,Int.zero_add];by_cases q:i<n;rw[if_pos q,kE (by lia)];rfl;rw[if_neg q,iE (by lia)];rfl
theorem ZK{h h':VH}{w:W}(hw:W.lt h.n w=false):∃h2,fin h (.ok (.rt w) h')=.ok w h2/\h2.n=h'.n/\(∀i,h2.get i=h'.get i)/\h2.lo=min h.lo h'.lo:=by refine⟨⟨h'.n,if Nat.ble h.lo h'.lo then h.lo else h'.lo,h'.os⟩,?_,rfl,λi=>rfl,?_⟩;show leave h w h'=_;unfold leave;rw[hw,Bool.and_false];rfl;show(if Nat.ble h.lo h'.lo then h.lo else h'.lo)=_;by_cases q:h.lo<=h'.lo;rw[if_pos (tO.mpr q)];lia;rw[if_neg (λz=>q (tO.mp z))];lia
theorem QT{i n:Nat}(h:n<=i):W.lt n (.ref i)=false:=by show Nat.blt i n=false;rw[<-Bool.not_eq_true,iU];lia
section
variable{cl:Call}{ρ:En}{h h1 h2 h3 h':VH}{a b r:E}
theorem aJ{x:W}{xs:List W}(ea:ev cl a ρ h=.ok x h1)(er:ev cl r ρ h1=.ok (.tup xs) h2):ev cl (.cons a r) ρ h=.ok (.tup (x::xs)) h2:=by rw[ev,ea,aE,er];rfl
theorem bT:ev cl .nil ρ h=.ok (.tup []) h:=by rw[ev]
theorem aV{w:W}:ev cl (.cst w) ρ h=.ok w h:=by rw[ev]
theorem fS{ys:List W}(ea:ev cl a ρ h=.ok (.tup ys) h1)(hl:Nat.ble ys.length 1000):ev cl (.lst a) ρ h=.ok (.ref h1.n) (h1.new (.lst ys)):=by rw[ev,ea,aE];show(if Nat.ble ys.length 1000=true then _ else _)=_;rw[if_pos hl]
theorem Cy{ys:List W}(ea:ev cl a ρ h=.ok (.tup ys) h1)(hl:Nat.ble ys.length 1000):ev cl (.tup a) ρ h=.ok (.tup ys) h1:=by rw[ev,ea,aE];show(if Nat.ble ys.length 1000=true then _ else _)=_;rw[if_pos hl]
theorem uT{x:W}{ws:List W}(ea:ev cl a ρ h=.ok x h1)(e:aP h1 x=aC ws):ev cl (.bi .list (.cons a .nil)) ρ h=.ok (.ref h1.n) (h1.new (.lst ws)):=by rw[ev,aJ ea bT,aE];show iR [x] h1=_;simp only[iR,e]
theorem fY{ys:List W}{n:Nat}{w:W}(ea:ev cl a ρ h=.ok (.tup ys) h1)(e:cl n ys h1=.ok w h'):ev cl (.call n a) ρ h=.ok w h':=by rw[ev,ea,aE];exact e
theorem FP{x:W}{ws:List W}(ea:ev cl a ρ h=.ok x h1)(e:aP h1 x=aC ws):ev cl (.bi .tuple (.cons a .nil)) ρ h=.ok (.tup ws) h1:=by rw[ev,aJ ea bT,aE];show uq [x] h1=_;simp only[uq,e,fK]
theorem JW{k:Kd}{t:Tg}{ow:Nat}{ix:List Nat}{x:W}{ys:List W}(ea:ev cl a ρ h=.ok x h1)(el:gu (bf k x) (bx t) (λ_ h=>.ok (.bl true) h) (ev cl b) fuel 0 (inner ow ix ρ) h1 []=.ok ys h2)(hy:ys.length<=1000000) :
 ev cl (.lc k a t ow ix (.cst (.bl true)) b) ρ h=.ok (.ref h2.n) (h2.new (.lst ys)):=by
 rw[ev,ea,aE,QD,el,aE,if_pos (yJ hy)]
theorem j6{k:Kd}{t:Tg}{x:W}{s:S}(ea:ev cl a ρ h=.ok x h1):exs cl (.«for» k a t s) ρ h=cZ (bf k x) (bx t) (exs cl s) fuel 0 ρ h1:=by rw[exs,ea,aE]
end
noncomputable def Pv(w:W):Prop:=∀n,W.lt n w=true
theorem Pv.tup{ws:List W}(h:∀w∈ws,Pv w):Pv (.tup ws):=λn=>by
 rw[xg];induction ws with
 |nil=>rfl
 |cons a r ih=>
  rw[pA,h a (fM ..),ih λw hw=>h w (dU _ hw)];rfl
theorem Pv.int{i:Int}:Pv (.int i):=λ_=>lt_int
structure Gm(h h':VH):Prop where
 le:h.n<=h'.n
 lo:min h.lo h.n<=h'.lo
 get:∀j,j<h.n->h'.get j=h.get j
theorem Gm.refl{h:VH}:Gm h h:=⟨aQ _,Nat.min_le_left _ _,λ_ _=>rfl⟩
theorem Gm.trans{a b c:VH}(x:Gm a b)(y:Gm b c):Gm a c:=⟨gZ x.le y.le,by
 have:=x.lo;have:=y.lo;have:=x.le;lia,λj hj=>by rw[y.get j (dN hj x.le),x.get j hj]⟩
theorem Gm.new{h h':VH}{o:VO}(x:Gm h h'):Gm h (h'.new o):=⟨yU x.le,x.lo,λj hj=>by rw[fU (dN hj x.le),x.get j hj]⟩
theorem Gm.set{h h':VH}{o:VO}{a:Nat}(x:Gm h h')(ha:h.n<=a)(hb:a<h'.n):Gm h (h'.set a o):=⟨x.le,by
 have:=x.lo;show _<=if Nat.blt a h'.lo then a else h'.lo
 split<;>lia,λj hj=>by rw[iJ hb (by lia),x.get j hj]⟩
theorem QU{h h':VH}{w:W}(hw:W.lt h.n w=false)(x:Gm ⟨h.n,h.n,h.os⟩ h'):∃h2,fin h (.ok (.rt w) h')=.ok w h2/\Gm h h2/\∀i,h2.get i=h'.get i:=by obtain⟨h2,e,n2,G,l2⟩:=ZK (h':=h') hw;refine⟨h2,e,⟨by rw[n2];exact x.le,?_,λj hj=>by rw[G,x.get j hj];rfl⟩,G⟩;have:=x.lo;have e2:(⟨h.n,h.n,h.os⟩:VH).lo=h.n:=rfl;have e3:(⟨h.n,h.n,h.os⟩:VH).n=h.n:=rfl;rw[l2];rw[e2,e3]at this;lia
theorem ZL{h h':VH}{w:W}(p:Pv w)(x:Gm ⟨h.n,h.n,h.os⟩ h'):fin h (.ok (.rt w) h')=.ok w h:=dM (by
 have:=x.lo;have e2:(⟨h.n,h.n,h.os⟩:VH).lo=h.n:=rfl;have e3:(⟨h.n,h.n,h.os⟩:VH).n=h.n:=rfl;rw[e2,e3]at this;lia) (p _)
theorem qm{a i:Nat}{h:VH}{ws:List W}(g:h.get a=aC (.lst ws)):bf .seq (.ref a) i h=aC ws[i]?:=by simp only[bf,aP,g,vz]
theorem xw{a:Nat}{h:VH}{ws:List W}(g:h.get a=aC (.lst ws)):aP h (.ref a)=aC ws:=by simp only[aP,g]
end RF
namespace RF
open PySem L2 LX
theorem Cz{xs ys:List W}{h:VH}{i j:Nat}(gi:h.get i=aC (.lst xs))(gj:h.get j=aC (.lst ys))(hl:xs.length+ys.length<=1000000):fN .add (.ref i) (.ref j) h=.ok (.ref h.n) (h.new (.lst (xs++ys))):=by simp only[fN,gi,gj,Ij];rw[if_pos (yJ hl)]
theorem QV:∀ks:List (List Int),aT kW (ks.map iW)=aC ks
 |[]=>rfl
 |k::r=>by
  have hz:∀l:List Int,aT iZ (l.map W.int)=aC l:=by
   intro l;induction l with|nil=>rfl|cons a l ih=>simp only[gQ,aT,iZ,ih]
  have e:kW (iW k)=aC k:=hz k;simp only[gQ,aT,e,QV r]
end RF
namespace RF
open PySem L2
theorem uU{cl:Call}{c:E}{a b:S}{ρ:En}{h h1:VH}(e:ev cl c ρ h=.ok (.bl true) h1):exs cl (.ite c a b) ρ h=exs cl a ρ h1:=by rw[exs,e,aE]
theorem k6{cl:Call}{c:E}{a b:S}{ρ:En}{h h1:VH}(e:ev cl c ρ h=.ok (.bl false) h1):exs cl (.ite c a b) ρ h=exs cl b ρ h1:=by rw[exs,e,aE]
structure pK(F:Nat->Option Fn):Prop extends CoreD F where
 ZM:F 23=aC wX
 JX:F 103=aC jW
 JY:F 104=aC lS
 JZ:F 129=aC pe
noncomputable def tE:S:=(.ite (.and (.cmp .eq (.var 2) (.cst (.int (1)))) (.cmp .ne (.var 5) (.cst (.str aH)))) (.seq (.ret (.cst (.str aH))) .skip) .skip)
noncomputable def tF:S:=(.seq (.ite jZ (.seq (.ret sY) .skip) .skip) (.seq tE (.seq (.ret (.var 5)) .skip)))
section
variable{F:Nat->Option Fn}(C:pK F)
include C
theorem ZN{k:Nat}{h:VH}{d c b:Nat}{co wd g:Int}(D:Dk h d c b)(hb:b+5<1000000000)(h0:0<=co)(h1:co<wd)(g0:0<=g)(g1:g<=8) :
 ∃w h',run F (k+4) 103 [.ref d,.int co,.int wd,.int g] h=.ok w h'/\eW w co wd g=true/\Dk h' d c (b+5)/\bM h h' d c:=by
 rw[eE C.JX rfl];have D0:Dk ⟨h.n,h.n,h.os⟩ d c b:=D.lo;have tail:∀(w5:W)(dG:Int)(h3:VH),Raw g w5->∃w h4,exs (run F (k+3)) tF
  [aC (.ref d),aC (.int co),aC (.int wd),aC (.int g),aC (.int dG),aC w5] h3=.ok (.rt w) h4/\eW w co wd g=true/\(h4=h3\/∃o,h4=h3.new o):=by
  intro w5 dG h3 R;have two:lM 2=true:=Ck (by lia) (by lia);have i0:dH [W.str cy,.str cj,.str aH] 0=aC (.str cy):=rfl;have i1:dH [W.str cy,.str cj,.str aH] 1=aC (.str cj):=rfl;have i2:dH [W.str cy,.str cj,.str aH] 2=aC (.str aH):=rfl;have fE:∀(b1 b2:Bool),mK h3 w5 (.tup [.str aH,.str cy])=aC b1->mK h3 w5 (.tup [.str aH,.str cj])=aC b2->(co≠0\/b1=true)->(co≠wd-1\/b2=true)->eW w5 co wd g=true->∃w h4,exs (run F (k+3)) tF
   [aC (.ref d),aC (.int co),aC (.int wd),aC (.int g),aC (.int dG),aC w5] h3=.ok (.rt w) h4/\eW w co wd g=true/\(h4=h3\/∃o,h4=h3.new o):=by
   intro b1 b2 n1 n2 o1 o2 hm;have cond:ev (run F (k+3)) jZ [aC (.ref d),aC (.int co),aC (.int wd),aC (.int g),aC (.int dG),aC w5] h3=.ok (.bl false) h3:=by by_cases c0:co=0<;>by_cases c1:co=wd-1<;>simp[c0,c1]at o1 o2<;>simp_all [jZ,ev,aR,gX,fN,dP]
   obtain⟨bq,hq⟩:∃bq,bX h3 w5 (.str aH)=aC bq:=by
    cases R with|dot=>exact⟨_,nC (by decide +kernel) (by decide +kernel)⟩|lt=>exact⟨_,nC (by decide +kernel) (by decide +kernel)⟩|gt=>exact⟨_,nC (by decide +kernel) (by decide +kernel)⟩|x=>exact⟨_,nC (by decide +kernel) (by decide +kernel)⟩|rk a0 a1 b0 b1=>exact⟨_,nC rfl (by decide +kernel)⟩
   by_cases w1:wd=1;cases bq with|true=>exact⟨w5,h3,by simp only[tF,exs,cond,aE,tE];simp[ev,aR,gX,w1,hq],hm,.inl rfl⟩|false=>exact⟨.str aH,h3,by simp only[tF,exs,cond,aE,tE];simp[ev,aR,gX,w1,hq],JH,.inl rfl⟩
   exact⟨w5,h3,by simp only[tF,exs,cond,aE,tE];simp[ev,aR,gX,w1],hm,.inl rfl⟩
  have dQ:∀(b1 b2:Bool),mK h3 w5 (.tup [.str aH,.str cy])=aC b1->mK h3 w5 (.tup [.str aH,.str cj])=aC b2->((co=0/\b1=false)\/(co=wd-1/\b2=false))->∃w h4,exs (run F (k+3)) tF
   [aC (.ref d),aC (.int co),aC (.int wd),aC (.int g),aC (.int dG),aC w5] h3=.ok (.rt w) h4/\eW w co wd g=true/\(h4=h3\/∃o,h4=h3.new o):=by
   intro b1 b2 n1 n2 o;have cond:ev (run F (k+3)) jZ [aC (.ref d),aC (.int co),aC (.int wd),aC (.int g),aC (.int dG),aC w5] h3=.ok (.bl true) h3:=by by_cases c0:co=0<;>by_cases c1:co=wd-1<;>cases b1<;>cases b2<;>simp_all [jZ,ev,aR,gX,fN,dP]
   have r1:∀(x:Str)(j:Int),(if(2:Int)< (if 0<co then 1 else 0)+2* (if wd=1 then 1 else 0)then 2 else(if 0<co then 1 else 0)+2* (if wd=1 then 1 else 0))=j->dH [W.str cy,.str cj,.str aH] j=aC (.str x)->ev (run F (k+3)) sY [aC (.ref d),aC (.int co),aC (.int wd),aC (.int g),aC (.int dG),aC w5] h3=.ok (.str x) (h3.new (.lst [W.str cy,.str cj,.str aH])):=by intro x j hj ha;have hg:=fm (h:=h3) (o:=.lst [W.str cy,.str cj,.str aH]);by_cases c0:0<co<;>by_cases c1:wd=1<;>simp[c0,c1]at hj<;>subst hj<;>simp[sY,ev,aR,fT,gX,fN,dP,two,iS,kR,kU,bS,hg,ha,c0,c1]
   have fin:∀x:Str,ev (run F (k+3)) sY [aC (.ref d),aC (.int co),aC (.int wd),aC (.int g),aC (.int dG),aC w5] h3=.ok (.str x) (h3.new (.lst [W.str cy,.str cj,.str aH]))->eW (.str x) co wd g=true->
    ∃w h4,exs (run F (k+3)) tF [aC (.ref d),aC (.int co),aC (.int wd),aC (.int g),aC (.int dG),aC w5] h3=.ok (.rt w) h4/\eW w co wd g=true/\(h4=h3\/∃o,h4=h3.new o):=
    λx e hm=>⟨.str x,h3.new (.lst [W.str cy,.str cj,.str aH]),by simp only[tF,exs,cond,aE,e],hm,.inr ⟨_,rfl⟩⟩
   by_cases w1:wd=1;exact fin aH (r1 aH 2 (by rw[if_neg (by lia:¬0<co)];simp[w1]) i2) JH;by_cases c0:co=0;exact fin cy (r1 cy 0 (by rw[if_neg (by lia:¬0<co)];simp[w1]) i0) (QC (by lia));exact fin cj (r1 cj 1 (by rw[if_pos (by lia:0<co)];simp[w1]) i1) (QB (by lia))
  have d1:(aH==cj)=false:=by decide +kernel
  have d2:(cy==cj)=false:=by decide +kernel
  have d3:(aH==cy)=false:=by decide +kernel
  have d4:(cj==cy)=false:=by decide +kernel
  have d5:(aH==sX)=false:=by decide +kernel
  have d6:(cy==sX)=false:=by decide +kernel
  have d7:(cj==sX)=false:=by decide +kernel
  have k1:PyData.strOk aH=true:=by decide +kernel
  have k2:PyData.strOk cj=true:=by decide +kernel
  have k3:PyData.strOk cy=true:=by decide +kernel
  have k4:PyData.strOk sX=true:=by decide +kernel
  cases R with
  |dot=>exact fE true true (by rw[lY k1 k1 k3];simp) (by rw[lY k1 k1 k2];simp) (.inr rfl) (.inr rfl) JH
  |lt=>
   by_cases c0:co=0;exact dQ false true (by rw[lY k2 k1 k3,d1,d2];rfl) (by rw[lY k2 k1 k2];simp) (.inl ⟨c0,rfl⟩);exact fE false true (by rw[lY k2 k1 k3,d1,d2];rfl) (by rw[lY k2 k1 k2];simp) (.inl c0) (.inr rfl) (QB (by lia))
  |gt=>
   by_cases c0:co=wd-1;exact dQ true false (by rw[lY k3 k1 k3];simp) (by rw[lY k3 k1 k2,d3,d4];rfl) (.inr ⟨c0,rfl⟩);exact fE true false (by rw[lY k3 k1 k3];simp) (by rw[lY k3 k1 k2,d3,d4];rfl) (.inr rfl) (.inl c0) (QC (by lia))
  |x=>
   by_cases c0:co=0\/co=wd-1;exact dQ false false (by rw[lY k4 k1 k3,d5,d6];rfl) (by rw[lY k4 k1 k2,d5,d7];rfl) (c0.elim (λz=>.inl ⟨z,rfl⟩) λz=>.inr ⟨z,rfl⟩);exact fE false false (by rw[lY k4 k1 k3,d5,d6];rfl) (by rw[lY k4 k1 k2,d5,d7];rfl) (.inl (by lia)) (.inl (by lia)) (Co (by lia) (by lia))
  |rk a0 a1 b0 b1=>
   by_cases c0:co=0\/co=wd-1;exact dQ false false (Fy k1 k3) (Fy k1 k2) (c0.elim (λz=>.inl ⟨z,rfl⟩) λz=>.inr ⟨z,rfl⟩);exact fE false false (Fy k1 k3) (Fy k1 k2) (.inl (by lia)) (.inl (by lia)) (Zt a0 a1 b0 b1 (by lia) (by lia))
 obtain⟨dG,i7,e1,l0,l1,D1,K1⟩:=take C.toCoreD (k:=k) (m:=10) D0 (by lia) (by lia) (by lia);have done:∀(w5:W)(h3:VH),Raw g w5->Dk h3 d c (b+5)->bM ⟨h.n,h.n,h.os⟩ h3 d c->exs (run F (k+3)) jW.body [aC (.ref d),aC (.int co),aC (.int wd),aC (.int g),aD,aD] ⟨h.n,h.n,h.os⟩=exs (run F (k+3)) tF [aC (.ref d),aC (.int co),aC (.int wd),aC (.int g),aC (.int dG),aC w5] h3->
  ∃w h',fin h (exs (run F (k+3)) jW.body [aC (.ref d),aC (.int co),aC (.int wd),aC (.int g),aD,aD] ⟨h.n,h.n,h.os⟩)=.ok w h'/\eW w co wd g=true/\Dk h' d c (b+5)/\bM h h' d c:=by
  intro w5 h3 R D3 K3 e;obtain⟨w,h4,e4,hm,hh⟩:=tail w5 dG h3 R;have D4:Dk h4 d c (b+5)/\bM ⟨h.n,h.n,h.os⟩ h4 d c:=by rcases hh with rfl|⟨o,rfl⟩;exact⟨D3,K3⟩;exact⟨D3.new,K3.new⟩
  obtain⟨h5,e5,D5,K5⟩:=yH (cl:=run F (k+3)) (fl:=.nx []) (e.trans e4) (.inr ⟨b,D⟩) D4.1 D4.2;exact⟨w,h5,e5,hm,D5,K5⟩
 have QW:=fm (h:=i7) (o:=.lst [W.str aH,.str cj,.str cy,.str sX,.str aH,.str aH]);have two:∀(x:Str)(j:Int),(if(5:Int)<dG then 5 else dG)=j->dH [W.str aH,.str cj,.str cy,.str sX,.str aH,.str aH] j=aC (.str x)->∀rest:S,exs (run F (k+3)) (.seq (.set 4 (.call 5 (.cons (.var 0) (.cons (.cst (.int (10))) .nil)))) (.seq (.set 5 (.idx (.lst (.cons (.cst (.str aH)) (.cons (.cst (.str cj)) (.cons (.cst (.str cy)) (.cons (.cst (.str sX)) (.cons (.cst (.str aH)) (.cons (.cst (.str aH)) .nil))))))) (.bi .min (.cons (.var 4) (.cons (.cst (.int (5))) .nil))))) rest)) [aC (.ref d),aC (.int co),aC (.int wd),aC (.int g),aD,aD] ⟨h.n,h.n,h.os⟩ =
  exs (run F (k+3)) rest [aC (.ref d),aC (.int co),aC (.int wd),aC (.int g),aC (.int dG),aC (.str x)] (i7.new (.lst [W.str aH,.str cj,.str cy,.str sX,.str aH,.str aH])):=by
  intro x j hj ha rest;refine(bD (ρ':=[aC (.ref d),aC (.int co),aC (.int wd),aC (.int g),aC (.int dG),aD]) (h':=i7) (by simp[exs,ev,e1])).trans ?_;refine bD ?_;by_cases q:(5:Int)<dG;rw[if_pos q]at hj;subst hj;simp[exs,ev,iS,kU,q,bS,QW,ha];rw[if_neg q]at hj;subst hj;simp[exs,ev,iS,kU,q,bS,QW,ha]
 have low:∀(x:Str),dG<=3->dH [W.str aH,.str cj,.str cy,.str sX,.str aH,.str aH] dG=aC (.str x)->Raw g (.str x)->_:=λx hl ha R=>done (.str x) (i7.new (.lst [W.str aH,.str cj,.str cy,.str sX,.str aH,.str aH])) R (D1.new.mono (by lia)) K1.new (by
  refine(two x dG (if_neg (by lia)) ha _).trans ?_;have n1:¬(4<dG):=by lia
  have n2:¬(dG=4):=by lia
  refine(bD (ρ':=[aC (.ref d),aC (.int co),aC (.int wd),aC (.int g),aC (.int dG),aC (.str x)]) (h':=i7.new (.lst [W.str aH,.str cj,.str cy,.str sX,.str aH,.str aH])) (by simp[exs,ev,aR,fT,n1])).trans ?_;refine(bD (ρ':=[aC (.ref d),aC (.int co),aC (.int wd),aC (.int g),aC (.int dG),aC (.str x)]) (h':=i7.new (.lst [W.str aH,.str cj,.str cy,.str sX,.str aH,.str aH])) (by simp[exs,ev,aR,gX,n2])).trans ?_;rfl)
 by_cases l4:dG<=3;have:dG=0\/dG=1\/dG=2\/dG=3:=by lia
 rcases this with z|z|z|z;exact low aH l4 (by rw[z];rfl) .dot;exact low cj l4 (by rw[z];rfl) .lt;exact low cy l4 (by rw[z];rfl) .gt;exact low sX l4 (by rw[z];rfl) .x;by_cases l5:dG=4
 ·-- a blind place,or nothing
  obtain⟨r4,h4,e4,_,_,D4,K4⟩:=take C.toCoreD (k:=k) (m:=4) (D1.new (o:=.lst [W.str aH,.str cj,.str cy,.str sX,.str aH,.str aH])) (by lia) (by lia) (by lia);have n1:¬(4<dG):=by lia
  have s3:∀rest:S,exs (run F (k+3)) (.seq (.ite (.and (.cmp .gt (.var 4) (.cst (.int (4)))) (.cmp .gt (.var 3) (.cst (.int (0))))) (.seq (.set 5 (.tup (.cons (.call 5 (.cons (.var 0) (.cons (.var 3) .nil))) (.cons (.call 5 (.cons (.var 0) (.cons (.cst (.int (2))) .nil))) .nil)))) .skip) .skip) rest) [aC (.ref d),aC (.int co),aC (.int wd),aC (.int g),aC (.int dG),aC (.str aH)] (i7.new (.lst [W.str aH,.str cj,.str cy,.str sX,.str aH,.str aH]))=exs (run F (k+3)) rest [aC (.ref d),aC (.int co),aC (.int wd),aC (.int g),aC (.int dG),aC (.str aH)] (i7.new (.lst [W.str aH,.str cj,.str cy,.str sX,.str aH,.str aH])):=λrest=>bD (by simp[exs,ev,aR,fT,n1]);by_cases r0:r4=0;obtain⟨h5,e5,D5,K5⟩:=yH (cl:=run F (k+3)) (fl:=.nx []) (w:=.str sS) (body:=jW.body) (ρ:=[aC (.ref d),aC (.int co),aC (.int wd),aC (.int g),aD,aD]) (F:=F) (k:=k+3) (h:=h) (h':=h4) (b:=b+5) ((two aH 4 (by rw[l5];rfl) rfl _).trans ((s3 _).trans (kC (by simp[exs,ev,aR,gX,l5,e4,r0])))) (.inr ⟨b,D⟩) (D4.mono (by lia)) (K1.new.trans K4);exact⟨_,h5,e5,Cn,D5,K5⟩;exact done (.str aH) h4 .dot (D4.mono (by lia)) (K1.new.trans K4) ((two aH 4 (by rw[l5];rfl) rfl _).trans ((s3 _).trans (bD (by simp[exs,ev,aR,gX,l5,e4,r0]))))
 ·-- a mY,if there are groups
  have n1:4<dG:=by lia
  have n2:¬(dG=4):=by lia
  have ha:∃j:Int,(if(5:Int)<dG then 5 else dG)=j/\dH [W.str aH,.str cj,.str cy,.str sX,.str aH,.str aH] j=aC (.str aH):=⟨5,by split<;>lia,rfl⟩
  obtain⟨j,hj,ha⟩:=ha;by_cases hg:0<g;obtain⟨ra,h4,e4,a0,a1,D4,K4⟩:=take C.toCoreD (k:=k) (m:=g) (D1.new (o:=.lst [W.str aH,.str cj,.str cy,.str sX,.str aH,.str aH])) (by lia) hg (by lia);obtain⟨rb,h5,e5,b0,b1,D5,K5⟩:=take C.toCoreD (k:=k) (m:=2) D4 (by lia) (by lia) (by lia);exact done (.tup [.int ra,.int rb]) h5 (.rk a0 a1 b0 b1) (D5.mono (by lia)) ((K1.new.trans K4).trans K5) ((two aH j hj ha _).trans ((bD (ρ':=[aC (.ref d),aC (.int co),aC (.int wd),aC (.int g),aC (.int dG),aC (.tup [.int ra,.int rb])]) (h':=h5) (by simp[exs,ev,aR,fT,n1,hg,e4,e5])).trans (bD (by simp[exs,ev,aR,gX,n2]))));exact done (.str aH) (i7.new (.lst [W.str aH,.str cj,.str cy,.str sX,.str aH,.str aH])) .dot (D1.new.mono (by lia)) K1.new ((two aH j hj ha _).trans ((bD (ρ':=[aC (.ref d),aC (.int co),aC (.int wd),aC (.int g),aC (.int dG),aC (.str aH)]) (h':=i7.new (.lst [W.str aH,.str cj,.str cy,.str sX,.str aH,.str aH])) (by simp[exs,ev,aR,fT,n1,hg])).trans (bD (by simp[exs,ev,aR,gX,n2]))))
theorem ZO{k:Nat}{h:VH}{d c b:Nat}{wd:Nat}{g:Int}(D:Dk h d c b)(hb:b+200<1000000000)(h1:wd<=40)(g0:0<=g)(g1:g<=8) :
 ∃ws h',run F (k+5) 104 [.ref d,.int wd,.int g] h=.ok (.tup ws) h'/\ws.length=wd/\dh wd g 0 ws/\Dk h' d c (b+200)/\bM h h' d c:=by
 rw[eE C.JY rfl];have D0:Dk ⟨h.n,h.n,h.os⟩ d c b:=D.lo;obtain⟨ws,h2,e2,p2,l2,D2,K2⟩:=yI (cl:=run F (k+4)) (P:=λi w=>eW w i wd g) (e:=Fc) (tl:=[aC (.ref d),aC (.int g),aC (.int wd)]) (m:=5) (lim:=wd) (λi h b h0 hl D hb=>by
  obtain⟨w,h',e,a1,a2,a3⟩:=ZN C (k:=k) (co:=i) (wd:=wd) (g:=g) D hb h0 hl g0 g1;exact⟨w,h',by simp[Fc,ev,e],a1,a2,a3⟩) wd 0 aD ⟨h.n,h.n,h.os⟩ b (by lia) (by lia) D0 (by lia)
 have e3:=FA (cl:=run F (k+4)) (a:=.cons (.var 1) .nil) (ρ:=[aC (.ref d),aC (.int wd),aC (.int g)]) (h:=⟨h.n,h.n,h.os⟩) (ow:=1) (ix:=[0,2,1]) (e:=Fc) (by simp[ev]) (by lia) e2 (by lia);obtain⟨h5,e5,D5,K5⟩:=yH (cl:=run F (k+4)) (fl:=.nx []) (w:=.tup ws) (body:=lS.body) (ρ:=[aC (.ref d),aC (.int wd),aC (.int g)]) (F:=F) (k:=k+4) (h:=h) (h':=h2.new (.lst ws)) (by simp only[lS,exs,e3,aE]) (.inr ⟨b,D⟩) (D2.new.mono (show _<=b+200 by lia)) K2.new;exact⟨ws,h5,e5,l2,QF p2,D5,K5⟩
theorem ZP{k:Nat}{h:VH}{d c b:Nat}{nf:Int}(D:Dk h d c b)(hb:b+5<1000000000)(n0:1<=nf)(n1:nf<=4) :
 ∃w h',run F (k+4) 23 [.ref d,.int nf] h=.ok w h'/\door w nf=true/\Dk h' d c (b+5)/\bM h h' d c:=by
 rw[eE C.ZM rfl];have D0:Dk ⟨h.n,h.n,h.os⟩ d c b:=D.lo;obtain⟨r1,h1,e1,a1,b1,D1,K1⟩:=take C.toCoreD (k:=k) (m:=3) D0 (by lia) (by lia) (by lia);obtain⟨r2,h2,e2,a2,b2,D2,K2⟩:=take C.toCoreD (k:=k) (m:=100) D1 (by lia) (by lia) (by lia);have hg:=fm (h:=h2) (o:=.lst [.int r1,.int r2]);obtain⟨r3,h3,e3,a3,b3,D3,K3⟩:=take C.toCoreD (k:=k) (m:=4) (D2.new (o:=.lst [.int r1,.int r2])) (by lia) (by lia) (by lia);obtain⟨r4,h4,e4,a4,b4,D4,K4⟩:=take C.toCoreD (k:=k) (m:=nf) D3 (by lia) (by lia) (by lia);obtain⟨r5,h5,e5,a5,b5,D5,K5⟩:=take C.toCoreD (k:=k) (m:=8) D4 (by lia) (by lia) (by lia);obtain⟨_,ns,cells,p,q,gd,gc,_⟩:=D2;have QX:h3.get h2.n=aC (.lst [.int r1,.int r2]):=K3.get _ _ (nt (bQ gd)) (nt (bQ gc)) hg;have KK:bM ⟨h.n,h.n,h.os⟩ h5 d c:=((((K1.trans K2).new (o:=.lst [.int r1,.int r2])).trans K3).trans K4).trans K5;have nm:∃x:Int,0<=x/\x<=99/\exs (run F (k+3)) (.set 2 (.idx (.lst (.cons (.call 5 (.cons (.var 0) (.cons (.cst (.int (3))) .nil))) (.cons (.call 5 (.cons (.var 0) (.cons (.cst (.int (100))) .nil))) .nil))) (.bi .int (.cons (.cmp .eq (.call 5 (.cons (.var 0) (.cons (.cst (.int (4))) .nil))) (.cst (.int (0)))) .nil)))) [aC (.ref d),aC (.int nf),aD,aD] ⟨h.n,h.n,h.os⟩=.ok (.nx [aC (.ref d),aC (.int nf),aC (.int x),aD]) h3:=by have i0:dH [W.int r1,.int r2] 0=aC (.int r1):=rfl;have i1:dH [W.int r1,.int r2] 1=aC (.int r2):=rfl;by_cases z:r3=0;exact⟨r2,a2,by lia,by simp[exs,ev,e1,e2,e3,aR,gX,z,iS,kR,bS,QX,i1]⟩;exact⟨r1,a1,by lia,by simp[exs,ev,e1,e2,e3,aR,gX,z,iS,kR,bS,QX,i0]⟩
 obtain⟨x,x0,x1,ex⟩:=nm;have e6:exs (run F (k+3)) (.set 3 (.call 5 (.cons (.var 0) (.cons (.var 1) .nil)))) [aC (.ref d),aC (.int nf),aC (.int x),aD] h3=.ok (.nx [aC (.ref d),aC (.int nf),aC (.int x),aC (.int r4)]) h4:=by simp[exs,ev,e4]
 have hd:∀w:W,w=.tup [.int x,.aO]\/w=.tup [.int x,.int r4]->door w nf=true:=by
  intro w hw;rcases hw with rfl|rfl
  simp[door,within,xr,cQ,x0,x1];simp only[door,within,xr,cQ,bG,fL,Bool.false_or];lia
 have body:∃w,exs (run F (k+3)) wX.body [aC (.ref d),aC (.int nf),aD,aD] ⟨h.n,h.n,h.os⟩=.ok (.rt w) h5/\door w nf=true:=by by_cases z:r5=0;exact⟨.tup [.int x,.aO],(bD ex).trans ((bD e6).trans (by simp[exs,ev,e5,aR,gX,z])),hd _ (.inl rfl)⟩;exact⟨.tup [.int x,.int r4],(bD ex).trans ((bD e6).trans (by simp[exs,ev,e5,aR,gX,z])),hd _ (.inr rfl)⟩
 obtain⟨w,eb,hw⟩:=body;obtain⟨h6,e7,D6,K6⟩:=yH (cl:=run F (k+3)) (fl:=.nx []) eb (.inr ⟨b,D⟩) (D5.mono (show _<=b+5 by lia)) KK;exact⟨w,h6,e7,hw,D6,K6⟩
theorem ZQ{k:Nat}{d c wd n b:Nat}{g:Int}{h:VH}{x:Option W}(D:Dk h d c b)(hb:b+200*n<1000000000)(h1:wd<=40)(g0:0<=g)(g1:g<=8) :
 ∃(rs:List (List W)) (h':VH),jY (bx (.one 0)) (λ_ h=>.ok (.bl true) h) (ev (run F (k+5)) (.call 104 (.cons (.var 1) (.cons (.var 3) (.cons (.var 2) .nil))))) (jq 0 n) [x,aC (.ref d),aC (.int g),aC (.int wd)] h=.ok (rs.map .tup) h'/\rs.length=n/\(∀r∈rs,(r.length:Int)=wd/\dh wd g 0 r)/\Dk h' d c (b+200*n)/\bM h h' d c:=by
 obtain⟨ws,h',e,p,l,D',K'⟩:=yI (cl:=run F (k+5)) (P:=λ_ w=>∃r,w=.tup r/\(r.length:Int)=wd/\dh wd g 0 r) (e:=.call 104 (.cons (.var 1) (.cons (.var 3) (.cons (.var 2) .nil)))) (tl:=[aC (.ref d),aC (.int g),aC (.int wd)]) (m:=200) (lim:=n) (λi h b _ _ D hb=>by
  obtain⟨ws,h',e,a1,a2,a3,a4⟩:=ZO C (k:=k) (wd:=wd) (g:=g) D hb h1 g0 g1;exact⟨.tup ws,h',by simp[ev,e],⟨ws,rfl,by lia,a2⟩,a3,a4⟩) n 0 x h b (by lia) (by lia) D hb
 replace p:=Cq p;have hr:∃rs:List (List W),ws=rs.map .tup/\∀r∈rs,(r.length:Int)=wd/\dh wd g 0 r:=by
  clear e l;induction ws with
  |nil=>exact⟨[],rfl,λr hr=>by cases hr⟩
  |cons w ws ih=>
   obtain⟨rs,e1,e2⟩:=ih λw hw=>p w (dU _ hw);obtain⟨r,e3,e4⟩:=p w fM;refine⟨r::rs,by rw[e3,e1];rfl,λq hq=>?_⟩;rcases gy.mp hq with rfl|hq;exact e4;exact e2 q hq
 obtain⟨rs,rfl,hrs⟩:=hr;exact⟨rs,h',e,by rw[<-l,bA],hrs,D',K'⟩
theorem ZR{k:Nat}{d c wd n b:Nat}{h:VH}{x:Option W}(D:Dk h d c b)(hb:b+1*n<1000000000)(h0:1<=wd)(h1:wd<=40) :
 ∃(fs:List W) (h':VH),jY (bx (.one 0)) (λ_ h=>.ok (.bl true) h) (ev (run F (k+3)) (.call 5 (.cons (.var 1) (.cons (.var 2) .nil)))) (jq 0 n) [x,aC (.ref d),aC (.int wd)] h=.ok fs h'/\fs.length=n/\(∀f∈fs,within f 0 ((wd:Int)-1)=true)/\Dk h' d c (b+1*n)/\bM h h' d c:=by
 obtain⟨ws,h',e,p,l,D',K'⟩:=yI (cl:=run F (k+3)) (P:=λ_ w=>within w 0 ((wd:Int)-1)) (e:=.call 5 (.cons (.var 1) (.cons (.var 2) .nil))) (tl:=[aC (.ref d),aC (.int wd)]) (m:=1) (lim:=n) (λi h b _ _ D hb=>by
  obtain⟨r,h',e,a1,a2,a3,a4⟩:=take C.toCoreD (k:=k) (m:=wd) D (by lia) (by lia) (by lia);exact⟨.int r,h',by simp[ev,e],by simp only[within,bG,fL];lia,a3,a4⟩) n 0 x h b (by lia) (by lia) D hb
 exact⟨ws,h',e,l,Cq p,D',K'⟩
theorem ZT{k:Nat}{d c n b:Nat}{h:VH}{x:Option W}{fs:List W}(D:Dk h d c b)(hb:b+5*n<1000000000)(h0:1<=fs.length)(h1:fs.length<=4) :
 ∃(ds:List W) (h':VH),jY (bx (.one 0)) (λ_ h=>.ok (.bl true) h) (ev (run F (k+4)) (.call 23 (.cons (.var 1) (.cons (.bi .len (.cons (.var 2) .nil)) .nil)))) (jq 0 n) [x,aC (.ref d),aC (.tup fs)] h=.ok ds h'/\ds.length=n/\(∀w∈ds,door w fs.length=true)/\Dk h' d c (b+5*n)/\bM h h' d c:=by
 obtain⟨ws,h',e,p,l,D',K'⟩:=yI (cl:=run F (k+4)) (P:=λ_ w=>door w fs.length) (e:=.call 23 (.cons (.var 1) (.cons (.bi .len (.cons (.var 2) .nil)) .nil))) (tl:=[aC (.ref d),aC (.tup fs)]) (m:=5) (lim:=n) (λi h b _ _ D hb=>by
  obtain⟨w,h',e,a1,a2,a3⟩:=ZP C (k:=k) (nf:=fs.length) D hb (by lia) (by lia);exact⟨w,h',by simp[ev,e,iS,gB,aP],a1,a2,a3⟩) n 0 x h b (by lia) (by lia) D hb
 exact⟨ws,h',e,l,Cq p,D',K'⟩
theorem ZU{k:Nat}{h:VH}{d c b:Nat}{mw mr mg:Int}(D:Dk h d c b)(hb:b+13000<1000000000)(w0:1<=mw)(w1:mw<=40)(r0:0<=mr)(r1:mr<=60)(g0:0<=mg)(g1:mg<=8) :
 ∃B h',run F (k+6) 129 [.ref d,.int mw,.int mr,.int mg] h=.ok (Bd.w B) h'/\B.Ok/\B.wd<=mw/\B.gr<=mg/\(B.rows.length:Int)<=mr/\Dk h' d c (b+13000)/\bM h h' d c:=by
 rw[eE C.JZ rfl];have D0:Dk ⟨h.n,h.n,h.os⟩ d c b:=D.lo;obtain⟨t1,h1,e1,a1,b1,D1,K1⟩:=take C.toCoreD (k:=k+2) (m:=mw) D0 (by lia) (by lia) (by lia);obtain⟨wd,ZV⟩:=k8 (show 0<=1+t1 by lia);obtain⟨gr,h2,e2,a2,b2,D2,K2⟩:=take C.toCoreD (k:=k+2) (m:=mg+1) D1 (by lia) (by lia) (by lia);obtain⟨t3,h3,e3,a3,b3,D3,K3⟩:=take C.toCoreD (k:=k+2) (m:=mr+1) D2 (by lia) (by lia) (by lia);obtain⟨nr,hnr⟩:=k8 a3;obtain⟨rs,h4,e4,l4,p4,D4,K4⟩:=ZQ C (k:=k) (n:=nr) (wd:=wd) (g:=gr) (x:=aD) D3 (by lia) (by lia) a2 (by lia);have ZW:=D4.new (o:=.lst (rs.map .tup));obtain⟨t5,h5,e5,a5,b5,D5,K5⟩:=take C.toCoreD (k:=k+2) (m:=4) ZW (by lia) (by lia) (by lia);obtain⟨nf,hnf⟩:=k8 (show 0<=1+t5 by lia);obtain⟨fs,h6,e6,l6,p6,D6,K6⟩:=ZR C (k:=k+2) (n:=nf) (wd:=wd) (x:=aD) D5 (by lia) (by lia) (by lia);have ZX:=D6.new (o:=.lst fs);obtain⟨ds,h7,e7,l7,p7,D7,K7⟩:=ZT C (k:=k+1) (n:=wd) (fs:=fs) (x:=aD) ZX (by lia) (by lia) (by lia);obtain⟨hne,ns,cells,p,q,gd,gc,_⟩:=D4;have gl:(h7.new (.lst ds)).get h4.n=aC (.lst (rs.map .tup)):=by
  have n1:h4.n≠d:=nt (bQ gd);have n2:h4.n≠c:=nt (bQ gc);have q1:=K5.get h4.n _ n1 n2 fm;have q2:=K6.get h4.n _ n1 n2 q1;have q3:(h6.new (.lst fs)).get h4.n=aC (.lst (rs.map .tup)):=by rw[fU (bQ q2)];exact q2
  have q4:=K7.get h4.n _ n1 n2 q3;rw[fU (bQ q4)];exact q4
 have s1:exs (run F (k+5)) (.set 4 (.op .add (.cst (.int (1))) (.call 5 (.cons (.var 0) (.cons (.var 1) .nil))))) [aC (.ref d),aC (.int mw),aC (.int mr),aC (.int mg),aD,aD,aD,aD,aD] ⟨h.n,h.n,h.os⟩=.ok (.nx [aC (.ref d),aC (.int mw),aC (.int mr),aC (.int mg),aC (.int wd),aD,aD,aD,aD]) h1:=by simp[exs,ev,e1,fN,dP,ZV]
 have s2:exs (run F (k+5)) (.set 5 (.call 5 (.cons (.var 0) (.cons (.op .add (.var 3) (.cst (.int (1)))) .nil)))) [aC (.ref d),aC (.int mw),aC (.int mr),aC (.int mg),aC (.int wd),aD,aD,aD,aD] h1=.ok (.nx [aC (.ref d),aC (.int mw),aC (.int mr),aC (.int mg),aC (.int wd),aC (.int gr),aD,aD,aD]) h2:=by simp[exs,ev,e2,fN,dP]
 have s3:=QE (cl:=run F (k+5)) (a:=.cons (.call 5 (.cons (.var 0) (.cons (.op .add (.var 2) (.cst (.int (1)))) .nil))) .nil) (ρ:=[aC (.ref d),aC (.int mw),aC (.int mr),aC (.int mg),aC (.int wd),aC (.int gr),aD,aD,aD]) (h:=h2) (h1:=h3) (n:=nr) (ow:=1) (ix:=[0,5,4]) (by simp[ev,fN,dP,e3,hnr]) (by lia) e4 (by rw[bA];lia);have s4:=FA (cl:=run F (k+5)) (a:=.cons (.op .add (.cst (.int (1))) (.call 5 (.cons (.var 0) (.cons (.cst (.int (4))) .nil)))) .nil) (ρ:=[aC (.ref d),aC (.int mw),aC (.int mr),aC (.int mg),aC (.int wd),aC (.int gr),aC (.ref h4.n),aD,aD]) (h:=h4.new (.lst (rs.map .tup))) (h1:=h5) (n:=nf) (ow:=1) (ix:=[0,4]) (by simp[ev,fN,dP,e5,hnf]) (by lia) e6 (by lia);have s5:=FA (cl:=run F (k+5)) (a:=.cons (.var 4) .nil) (ρ:=[aC (.ref d),aC (.int mw),aC (.int mr),aC (.int mg),aC (.int wd),aC (.int gr),aC (.ref h4.n),aC (.tup fs),aD]) (h:=h6.new (.lst fs)) (h1:=h6.new (.lst fs)) (n:=wd) (ow:=1) (ix:=[0,7]) (by simp[ev]) (by lia) e7 (by lia);have body:exs (run F (k+5)) pe.body [aC (.ref d),aC (.int mw),aC (.int mr),aC (.int mg),aD,aD,aD,aD,aD] ⟨h.n,h.n,h.os⟩=.ok (.rt (Bd.w ⟨wd,gr,rs,fs,ds⟩)) (h7.new (.lst ds)):=by refine(bD s1).trans ((bD s2).trans ?_);refine(bD (ρ':=[aC (.ref d),aC (.int mw),aC (.int mr),aC (.int mg),aC (.int wd),aC (.int gr),aC (.ref h4.n),aD,aD]) (h':=h4.new (.lst (rs.map .tup))) (by unfold Qf;simp only[exs,s3,aE];rfl)).trans ?_;refine(bD (ρ':=[aC (.ref d),aC (.int mw),aC (.int mr),aC (.int mg),aC (.int wd),aC (.int gr),aC (.ref h4.n),aC (.tup fs),aD]) (h':=h6.new (.lst fs)) (by unfold Qg;simp only[exs,s4,aE];rfl)).trans ?_;refine(bD (ρ':=[aC (.ref d),aC (.int mw),aC (.int mr),aC (.int mg),aC (.int wd),aC (.int gr),aC (.ref h4.n),aC (.tup fs),aC (.tup ds)]) (h':=h7.new (.lst ds)) (by unfold Qh;simp only[exs,s5,aE];rfl)).trans ?_;simp[exs,ev,iS,uq,aP,gl,Bd.w]
 have KK:bM ⟨h.n,h.n,h.os⟩ (h7.new (.lst ds)) d c:=((((((K1.trans K2).trans K3).trans K4).new.trans K5).trans K6).new.trans K7).new;obtain⟨h8,e8,D8,K8⟩:=yH (cl:=run F (k+5)) (fl:=.nx []) body (.inr ⟨b,D⟩) (D7.new.mono (show _<=b+13000 by lia)) KK;refine⟨⟨wd,gr,rs,fs,ds⟩,h8,e8,⟨by show(1:Int)<=wd;lia,by show(wd:Int)<=40;lia,a2,by show gr<=8;lia,by show rs.length<=60;lia,p4,by show 1<=fs.length;lia,by show fs.length<=4;lia,p6,by show(ds.length:Int)=wd;lia,p7⟩,by show(wd:Int)<=mw;lia,by show gr<=mg;lia,by show(rs.length:Int)<=mr;lia,D8,K8⟩
end
theorem ZY{F:Nat->Option Fn}(B':lX F)(J0:F 17=aC sD)(J4:F 22=aC o9)(J5:F 24=aC sE){k:Nat}{h:VH}{B:Bd}{ls:List Int}(b:B.Ok)(hl:(ls.length:Int)=B.gr)(bi:eX ls):run F (k+9) 24 [B.w,iW ls] h=.ok .aO h:=by
 have hg:=b.g2;have w0:∀h:VH,run F (k+7) 17 [iW ls,.int B.gr] h=.ok (.bl true) h:=by
  intro h;rw[eE J0 rfl];have e:=Jx B'.toCoreA (k:=k+3) (h:=⟨h.n,h.n,h.os⟩) (w:=iW ls) (a:=B.gr) (b:=B.gr) (lo:=0) (hi:=1) (by unfold Kn iW;simp) (λws e=>by
   cases e;refine⟨by rw[bA];lia,λx hx=>?_⟩;obtain⟨y,_,rfl⟩:=jv.mp hx;unfold Kn;simp)
  rw[ZC hl bi]at e;simp[sD,exs,ev,e,dM]
 have w1:∀h:VH,run F (k+8) 22 [B.w,iW ls] h=.ok (.bl true) h:=by
  intro h;have ZZ:=Zo B' (k:=k) (h:=⟨h.n,h.n,h.os⟩) b;have eb:exs (run F (k+7)) o9.body [aC B.w,aC (iW ls)] ⟨h.n,h.n,h.os⟩=.ok (.rt (.bl true)) ⟨h.n,h.n,h.os⟩:=by refine(bD (ρ':=[aC B.w,aC (iW ls)]) (h':=⟨h.n,h.n,h.os⟩) ?_).trans (kC (gT (nD (x:=iW ls) (y:=.int B.gr) (aG rfl) (bN (x:=B.w) (y:=.int 1) (aG rfl) rfl rfl) (w0 _))));rw[exs,QL (x:=B.w) (aG rfl) ZZ,aE]
  rw[eE J4 rfl];show fin h (exs (run F (k+7)) o9.body [aC B.w,aC (iW ls)] ⟨h.n,h.n,h.os⟩)=_;rw[eb];exact dM (aQ _) rfl
 rw[eE J5 rfl];simp[sE,exs,ev,w1,Qm]
end RF
namespace RF
open PySem L2 LX
noncomputable def iL(nb nr:Nat)(bt:Int):List (List Int):=(List.range nb).flatMap λ(b:Nat)=>(List.range nr).map λ(d:Nat)=>[(b:Int)*bt+ (d:Int),(b:Int),(d:Int)]
theorem QY{nb nr:Nat}{bt:Int}{k:List Int}(h:k∈iL nb nr bt):∃b d:Nat,b<nb/\d<nr/\k=[(b:Int)*bt+ (d:Int),(b:Int),(d:Int)]:=by unfold iL at h;obtain⟨b,hb,h⟩:=List.mem_flatMap.mp h;obtain⟨d,hd,rfl⟩:=jv.mp h;exact⟨b,d,tU.mp hb,tU.mp hd,rfl⟩
theorem Z0{nb nr:Nat}{bt:Int}:(iL nb nr bt).Nodup:=by
 unfold iL;rw[List.Nodup,List.pairwise_flatMap];refine⟨λl _=>?_,List.nodup_range.imp λ{a b} hab=>?_⟩;rw[List.pairwise_map];exact List.nodup_range.imp λ{a b} hab z=>hab (by injection z with _ z;injection z with _ z;injection z with z _;exact Int.ofNat.inj z);intro x hx y hy z;subst z;obtain⟨_,_,rfl⟩:=jv.mp hx;obtain⟨_,_,e⟩:=jv.mp hy;injection e with _ e
 injection e with e _
 exact hab (Int.ofNat.inj e).symm
theorem J6{nb nr:Nat}{bt:Int}:(iL nb nr bt).length=nb*nr:=by unfold iL;rw[List.length_flatMap];simp only[bA,vg];rw[List.map_const',List.sum_replicate_nat,vg]
theorem Z1{nb nr:Nat}{bt:Int}:oH (iL nb nr bt)=true:=by
 have hl:∀k∈iL nb nr bt,k.length=3:=λk hk=>by obtain⟨b,d,_,_,rfl⟩:=QY hk;rfl
 generalize iL nb nr bt=l at hl;match l,hl with
 |[],_=>rfl
 |[a],_=>rfl
 |k::k2::r,hl=>
  unfold oH;have hk:=hl k (fM ..);rw[bG];refine⟨tO.mpr (by rw[hk];decide),nv.mpr λq hq=>?_⟩;rw[hl q hq,hk];exact Nat.beq_refl _
theorem Z2{nb nr:Nat}{bt:Int}:iL (nb+1) nr bt=iL nb nr bt++(List.range nr).map λ(d:Nat)=>[(nb:Int)*bt+ (d:Int),(nb:Int),(d:Int)]:=by unfold iL;rw[List.range_succ,List.flatMap_append];simp
noncomputable def fy(nb nr:Nat)(bt:Int):List (List Int):=jU (iL nb nr bt)
theorem J7{nb nr:Nat}{bt:Int}{k:List Int}(h:k∈fy nb nr bt):∃b d:Nat,b<nb/\d<nr/\k=[(b:Int)*bt+ (d:Int),(b:Int),(d:Int)]:=QY ((yu _).mem_iff.mp h)
theorem QZ{nb nr:Nat}{bt:Int}:(fy nb nr bt).length=nb*nr:=by unfold fy;rw[(yu _).length_eq,J6]
theorem CA{cl:Call}{a:E}{ρ:En}{h h1:VH}{i nb nr:Nat}{bt:Int}(ea:ev cl a ρ h=.ok (.ref i) h1)(g:h1.get i=aC (.lst ((iL nb nr bt).map iW))):ev cl (.bi .A7 (.cons a .nil)) ρ h=.ok (.ref h1.n) (h1.new (.lst ((fy nb nr bt).map iW))):=by rw[ev,aJ ea bT,aE];show mR [.ref i] h1=_;simp only[mR,g,QV];rw[Z1,kE Z0];rfl
structure eG where
 c:Int
 d:Int
 s:Bool
noncomputable def dj(x:eG):W:=if x.s then .aO else .int x.d
noncomputable def dw(rs:List (List W))(d:Nat)(x:eG)(ls:List Int):eG×List Int:=
 if x.s then(x,ls)else match bB (bZ (rs.getD d []) x.c) x.d ls with|none=>(⟨x.c,x.d,true⟩,ls)|some (e,_,l)=>(⟨x.c+e,e,false⟩,l)
noncomputable def ng(rs:List (List W))(s:List eG×List Int)(k:List Int):List eG×List Int:=
 match s.1[(k.getD 1 0).toNat]? with|none=>s|some x=>(s.1.set (k.getD 1 0).toNat (dw rs (k.getD 2 0).toNat x s.2).1,(dw rs (k.getD 2 0).toNat x s.2).2)
structure gO(wd:Int)(x:eG):Prop where
 c0:0<=x.c
 c1:x.c<wd
 d0:-1<=x.d
 d1:x.d<=1
structure eK(wd:Int)(nb g:Nat)(s:List eG×List Int):Prop where
 len:s.1.length=nb
 tG:∀x∈s.1,gO wd x
 ll:s.2.length=g
 bi:eX s.2
theorem Z3{wd:Int}{g d:Nat}{rs:List (List W)}{x:eG}{ls:List Int}(ok:QG wd (g:Int) rs)(hd:d<rs.length)(hx:gO wd x)(hl:ls.length=g)(bi:eX ls):gO wd (dw rs d x ls).1/\(dw rs d x ls).2.length=g/\eX (dw rs d x ls).2:=by
 unfold dw;by_cases hs:x.s=true;rw[if_pos hs];exact⟨hx,hl,bi⟩;rw[if_neg hs];have hr:rs.getD d []=rs[d]:=by rw[tQ,eN hd];rfl
 obtain⟨_,hw⟩:=FF (ok _ (iG hd)) hx.c0 hx.c1;rw[hr];cases e:bB (bZ rs[d] x.c) x.d ls with
 |none=>exact⟨⟨hx.c0,hx.c1,hx.d0,hx.d1⟩,hl,bi⟩
 |some q=>
  obtain⟨d',t,l⟩:=q;obtain⟨a1,a2,a3,a4,a5,a6,_⟩:=Zz hw hx.c0 hx.c1 hx.d0 hx.d1 bi e;exact⟨⟨a3,a4,a1,a2⟩,a5.trans hl,a6⟩
theorem J8{rs:List (List W)}{s:List eG×List Int}{b d:Nat}{t:Int}{x:eG}(h:s.1[b]?=aC x):ng rs s [t,(b:Int),(d:Int)]=(s.1.set b (dw rs d x s.2).1,(dw rs d x s.2).2):=by show(match s.1[b]? with|none=>s|some x=>(s.1.set b (dw rs d x s.2).1,(dw rs d x s.2).2))=_;rw[h]
theorem J9{wd:Int}{nb g:Nat}{rs:List (List W)}{s:List eG×List Int}{b d:Nat}{t:Int}(ok:QG wd (g:Int) rs)(hb:b<nb)(hd:d<rs.length)(S:eK wd nb g s):eK wd nb g (ng rs s [t,(b:Int),(d:Int)]):=by
 have hx:=eN (l:=s.1) (i:=b) (by rw[S.len];exact hb);rw[J8 hx];obtain⟨q1,q2,q3⟩:=Z3 (d:=d) ok hd (S.tG _ (i9 hx)) S.ll S.bi;refine⟨by rw[vj];exact S.len,λy hy=>?_,q2,q3⟩;rcases List.mem_or_eq_of_mem_set hy with h|h
 exact S.tG y h;rw[h];exact q1
noncomputable def bJ(rs:List (List W))(s:List eG×List Int)(ks:List (List Int)):List eG×List Int:=ks.foldl (ng rs) s
theorem FQ{rs:List (List W)}{s:List eG×List Int}{ks:List (List Int)}{i:Nat}{k:List Int}(h:ks[i]?=aC k):bJ rs s (ks.take (i+1))=ng rs (bJ rs s (ks.take i)) k:=by unfold bJ;rw[List.take_add_one,h,List.foldl_append];rfl
end RF
namespace RF
open PySem L2
theorem J'{cl:Call}{a:E}{ρ:En}{h h1:VH}{j:Nat}{n:Nat}(ea:ev cl a ρ h=.ok (.ref j) h1)(g:h1.get j=aC (.lst (bE n (.bl true)))):ev cl (.bi .all (.cons a .nil)) ρ h=.ok (.bl true) h1:=by
 have hm:aT p5 (bE n (W.bl true))=aC (bE n true):=by
  induction n with
  |zero=>rfl
  |succ n ih=>
   clear g;simp only[nK,aT,p5];rw[show aT p5 (bE n (W.bl true))=aC (bE n true)from by
    clear ih;induction n with|zero=>rfl|succ n ih=>simp only[nK,aT,p5,ih]]
 have ha:(bE n true).all id=true:=by rw[nv];intro x hx;exact(List.mem_replicate.mp hx).2
 rw[ev,ev,ea,aE,ev,aE,aE];show mP [.ref j] h1=_;simp only[mP,g,hm,vz,ha,fK]
structure W1(a:Nat)(h h':VH):Prop where
 le:h.n<=h'.n
 lo:min h.lo a<=h'.lo
 get:∀j,j<h.n->j≠a->h'.get j=h.get j
theorem W1.refl{a:Nat}{h:VH}:W1 a h h:=⟨aQ _,Nat.min_le_left _ _,λ_ _ _=>rfl⟩
theorem Gm.w1{a:Nat}{k0 h h':VH}(G:Gm k0 h)(w:W1 a h h')(ha:k0.n<=a):Gm k0 h':=⟨gZ G.le w.le,by
 have:=G.lo;have:=w.lo;lia,λj hj=>by rw[w.get j (dN hj G.le) (by lia),G.get j hj]⟩
theorem CB{h h':VH}{w:W}(hl:h'.lo<h.n):fin h (.ok (.rt w) h')=.ok w ⟨h'.n,if Nat.ble h.lo h'.lo then h.lo else h'.lo,h'.os⟩:=by
 show leave h w h'=_;unfold leave;have e:Nat.ble h.n h'.lo=false:=by rw[<-Bool.not_eq_true];intro z;have:=tO.mp z;lia
 rw[e];rfl
theorem Q0{h:VH}{a:Nat}{o o':VO}{w:W}(g:h.get a=aC o'):∃h2,fin h (.ok (.rt w) (VH.set ⟨h.n,h.n,h.os⟩ a o))=.ok w h2/\h2.get a=aC o/\W1 a h h2:=by
 have ha:=bQ g;have hl:(VH.set ⟨h.n,h.n,h.os⟩ a o).lo=a:=by show(if Nat.blt a h.n then a else h.n)=a;rw[if_pos (iU.mpr ha)]
 have g0:VH.get ⟨h.n,h.n,h.os⟩ a=aC o':=bF.trans g;refine⟨_,CB (by rw[hl];exact ha),?_,?_,?_,λj hj hn=>?_⟩;rw[bF (h:=VH.set ⟨h.n,h.n,h.os⟩ a o)];exact pD g0;exact aQ h.n;rw[hl];show min h.lo a<=if Nat.ble h.lo a then h.lo else a
 split<;>lia;rw[bF (h:=VH.set ⟨h.n,h.n,h.os⟩ a o),iJ (show a< (⟨h.n,h.n,h.os⟩:VH).n from ha) hn];exact bF
section
variable{F:Nat->Option Fn}
theorem Q2{h:VH}{i:Int}:bX h (.int i) .aO=aC false:=rfl
theorem Z4(nh:F 173=aC dJ){k a:Nat}{h:VH}{ls:List Int}{w:W}{c wd hd:Int}(hm:eW w c wd (ls.length:Int))(g:h.get a=aC (.lst (ls.map .int))) :
 match bB w hd ls with
 |none=>run F (k+1) 173 [w,.int hd,.ref a,.aO] h=.ok .aO h
 |some (d,_,l)=>∃h2,run F (k+1) 173 [w,.int hd,.ref a,.aO] h=.ok (.int d) h2/\h2.get a=aC (.lst (l.map .int))/\W1 a h h2:=by
 rw[eE nh rfl];rcases FD hm with⟨rfl,h3,h4⟩|⟨rfl,h3⟩|⟨rfl,h3⟩|rfl|rfl|⟨p,q,rfl,h3,h4,h5,h6⟩
 rw[JI];exact⟨h,by simp[dJ,exs,ev,aR,dM],g,.refl⟩;rw[JJ];exact⟨h,by simp[dJ,exs,ev,aR,dM],g,.refl⟩;rw[JK];exact⟨h,by simp[dJ,exs,ev,aR,dM],g,.refl⟩;rw[JL];exact⟨h,by simp[dJ,exs,ev,aR,dM],g,.refl⟩;rw[JM];simp[dJ,exs,ev,aR,dM];rw[JN];have hp:p<ls.length:=by lia
 have e1:=QI hp;have g1:VH.get ⟨h.n,h.n,h.os⟩ a=aC (.lst (ls.map .int)):=bF.trans g;have e2:gR (ls.map W.int).length (p:Int)=aC p:=FO (by rw[bA];exact hp);have e3:exs (run F k) dJ.body [aC (.tup [.int p,.int q]),aC (.int hd),aC (.ref a),aC .aO,aD,aD,aD] ⟨h.n,h.n,h.os⟩=.ok (.rt (.int (if ls.getD p 0=q then -1 else 1))) (VH.set ⟨h.n,h.n,h.os⟩ a (.lst ((ls.set p (1-ls.getD p 0)).map .int))):=by
  rw[vn];generalize ls.getD p 0=y at e1 ⊢;by_cases z:y=(q:Int)
  simp only[dJ,exs,ev,bx,aP,ko,Option.join_some,ve,Dl,fK,aE,lW,vz,pB,eF,List.set_cons_succ,Dq,bS,g1,e1,fN,dP,e2,aR,gX,Q2,Bool.not_false,z,C7,b9];simp only[dJ,exs,ev,bx,aP,ko,Option.join_some,ve,Dl,fK,aE,lW,vz,pB,eF,List.set_cons_succ,Dq,bS,g1,e1,fN,dP,e2,aR,gX,Q2,Bool.not_false,z,decide_false,dB]
 obtain⟨h2,e4,g2,w2⟩:=Q0 (w:=.int (if ls.getD p 0=(q:Int)then -1 else 1)) (o:=.lst ((ls.set p (1-ls.getD p 0)).map .int)) g;refine⟨h2,?_,g2,w2⟩;rw[<-e4];exact kF (fin h) e3
theorem j7{cl:Call}{c:Cp}{ρ:En}{h:VH}{w:W}{x:Str}{r:Bool}(xx:ρ[0]?=aC (aC w))(e:aR c h w (.str x)=aC r):ev cl (.cmp c (.var 0) (.cst (.str x))) ρ h=.ok (.bl r) h:=by rw[ev,aG xx,aE,aV,aE,e];rfl
theorem CD{cl:Call}{h:VH}{ρ:En}{w:W}{r1 r2 r3:Bool}(xx:ρ[0]?=aC (aC w))(e1:bX h w (.str (br "."))=aC r1)(e2:bX h w (.str (br "<"))=aC r2)(e3:bX h w (.str (br ">"))=aC r3):ev cl lT ρ h=.ok (.bl (r1|| (r2||r3))) h:=by
 unfold lT;have c1:=j7 (cl:=cl) (c:=.eq) (h:=h) xx (r:=r1) (x:=br ".") (by simp only[aR,e1]);have c2:=j7 (cl:=cl) (c:=.eq) (h:=h) xx (r:=r2) (x:=br "<") (by simp only[aR,e2]);have c3:=j7 (cl:=cl) (c:=.eq) (h:=h) xx (r:=r3) (x:=br ">") (by simp only[aR,e3]);rw[ev,c1,aE];cases r1 with
 |true=>rfl
 |false=>
  show ev cl (.or _ _) ρ h=_;rw[ev,c2,aE];cases r2 with|true=>rfl|false=>exact c3
theorem Z5(ni:F 158=aC fX){k a:Nat}{h:VH}{ls:List Int}{w:W}{c wd hd d:Int}{t l:List Int}(hm:eW w c wd (ls.length:Int))(g:h.get a=aC (.lst (ls.map .int)))(e:bB w hd ls=aC (d,t,l)) :
 ∃h2,run F (k+1) 158 [w,.ref a,.int hd] h=.ok (.int d) h2/\h2.get a=aC (.lst (l.map .int))/\W1 a h h2:=by
 rw[eE ni rfl];let k0:VH:=⟨h.n,h.n,h.os⟩
 have dir:∀(x:Str)(i:Int),ev (run F k) lT [aC (.str x),aC (.ref a),aC (.int hd),aD] k0=.ok (.bl true) k0->bY j5 (.inr x)=aC (.int i)->fin h (exs (run F k) fX.body [aC (.str x),aC (.ref a),aC (.int hd),aD] k0)=.ok (.int i) h:=λx i ec el=>by
  have e2:exs (run F k) fX.body [aC (.str x),aC (.ref a),aC (.int hd),aD] k0=.ok (.rt (.int i)) (k0.new (.dk j5)):=by refine kC ((uU ec).trans ?_);refine kC (gT (bN (x:=.ref h.n) (y:=.str x) (ZH (h:=k0)) (aG rfl) ?_));show bS (k0.new (.dk j5)) (.ref k0.n) (.str x)=_;unfold bS;simp only[zs2,el]
  rw[e2];exact dM (aQ _) rfl
 rcases FD hm with⟨rfl,h3,h4⟩|⟨rfl,h3⟩|⟨rfl,h3⟩|rfl|rfl|⟨p,q,rfl,h3,h4,h5,h6⟩;rw[JI]at e;cases e;refine⟨h,?_,g,.refl⟩;have ec:=CD (cl:=run F k) (h:=k0) (ρ:=[aC (.str sX),aC (.ref a),aC (.int hd),aD]) (w:=.str sX) (r1:=false) (r2:=false) (r3:=false) rfl pF tu tw;have e2:exs (run F k) fX.body [aC (.str sX),aC (.ref a),aC (.int hd),aD] k0=.ok (.rt (.int hd)) k0:=by refine(bD (ρ':=[aC (.str sX),aC (.ref a),aC (.int hd),aD]) (h':=k0) ((k6 ec).trans (by rw[exs]))).trans ?_;refine kC ?_;rw[uU (j7 (w:=.str sX) (r:=true) rfl (by simp[aR]))];exact kC (gT (aG rfl))
 show fin h (exs (run F k) fX.body [aC (.str sX),aC (.ref a),aC (.int hd),aD] k0)=_;rw[e2];exact dM (aQ _) rfl;rw[JJ]at e;cases e;exact⟨h,dir cj (-1) (CD (w:=.str cj) (r1:=false) (r2:=true) (r3:=false) rfl mZ pG pH) ZF,g,.refl⟩;rw[JK]at e;cases e;exact⟨h,dir cy 1 (CD (w:=.str cy) (r1:=false) (r2:=false) (r3:=true) rfl m5 pI pJ) ZG,g,.refl⟩;rw[JL]at e;cases e;exact⟨h,dir aH 0 (CD (w:=.str aH) (r1:=true) (r2:=false) (r3:=false) rfl kZ m9 nc) ZE,g,.refl⟩;rw[JM]at e;cases e;rw[JN]at e;cases e;have hp:p<ls.length:=by lia
 have g1:k0.get a=aC (.lst (ls.map .int)):=bF.trans g;have n1:bX k0 (.tup [.int (p:Int),.int (q:Int)]) (.str (br "."))=aC false:=Cu (by decide +kernel);have n2:bX k0 (.tup [.int (p:Int),.int (q:Int)]) (.str (br "<"))=aC false:=Cu (by decide +kernel);have n3:bX k0 (.tup [.int (p:Int),.int (q:Int)]) (.str (br ">"))=aC false:=Cu (by decide +kernel);have n4:bX k0 (.tup [.int (p:Int),.int (q:Int)]) (.str (br "x"))=aC false:=Cu (by decide +kernel);let ρ (x:Option W):En:=[aC (.tup [.int (p:Int),.int (q:Int)]),aC (.ref a),aC (.int hd),x]
 have i0:∀x,ev (run F k) (.idx (.var 0) (.cst (.int (0)))) (ρ x) k0=.ok (.int p) k0:=λx=>bN (x:=.tup [.int p,.int q]) (y:=.int 0) (aG rfl) aV rfl;have i1:∀x,ev (run F k) (.idx (.var 1) (.idx (.var 0) (.cst (.int (0))))) (ρ x) k0=.ok (.int (ls.getD p 0)) k0:=λx=>
  bN (x:=.ref a) (y:=.int (p:Int)) (aG rfl) (i0 x) (by simp only[bS,g1];exact QI hp)
 have ec:ev (run F k) lT (ρ aD) k0=.ok (.bl false) k0:=CD (w:=.tup [.int p,.int q]) (r1:=false) (r2:=false) (r3:=false) rfl n1 n2 n3;have e5:ev (run F k) (.op .sub (.cst (.int (1))) (.op .mul (.cst (.int (2))) (.bi .int (.cons (.cmp .eq (.idx (.var 1) (.idx (.var 0) (.cst (.int (0))))) (.idx (.var 0) (.cst (.int (1))))) .nil)))) (ρ aD) k0=.ok (.int (if ls.getD p 0=q then -1 else 1)) k0:=by
  have e8:ev (run F k) (.cmp .eq (.idx (.var 1) (.idx (.var 0) (.cst (.int (0))))) (.idx (.var 0) (.cst (.int (1))))) (ρ aD) k0=.ok (.bl (decide (ls.getD p 0=q))) k0:=by rw[ev,i1,aE,bN (x:=.tup [.int p,.int q]) (y:=.int 1) (z:=.int q) (aG rfl) aV rfl,aE];simp only[aR,gX];rfl
  have ex:ev (run F k) (.bi .int (.cons (.cmp .eq (.idx (.var 1) (.idx (.var 0) (.cst (.int (0))))) (.idx (.var 0) (.cst (.int (1))))) .nil)) (ρ aD) k0=.ok (.int (if ls.getD p 0=q then 1 else 0)) k0:=by
   rw[ev,aJ e8 bT,aE];show Res.ok (W.int (if decide (ls.getD p 0=(q:Int))=true then 1 else 0)) k0=_;by_cases z:ls.getD p 0=(q:Int)
   rw[if_pos z,if_pos (kE z)];rw[if_neg z,if_neg (by rw[iE z];simp)]
  refine tB (h1:=k0) (h2:=k0) (x:=.int 1) (y:=.int (2* (if ls.getD p 0=(q:Int)then 1 else 0))) aV (tB (h1:=k0) (h2:=k0) (x:=.int 2) (y:=.int (if ls.getD p 0=(q:Int)then 1 else 0)) aV ex ?_) ?_;show(Res.of ((if lM 2||lM (if ls.getD p 0=(q:Int)then(1:Int)else 0)then aC (2* (if ls.getD p 0=(q:Int)then(1:Int)else 0))else aD).map W.int) k0)=_;rw[show lM 2=true from by decide,Bool.true_or];rfl;show Res.ok (W.int (1-2* (if ls.getD p 0=(q:Int)then(1:Int)else 0))) k0=_;split<;>rfl
 obtain⟨h2,e4,g2,w2⟩:=Q0 (w:=.int (if ls.getD p 0=(q:Int)then -1 else 1)) (o:=.lst ((ls.set p (1-ls.getD p 0)).map .int)) g;refine⟨h2,?_,g2,w2⟩;rw[<-e4];refine kF (fin h) ?_;show exs (run F k) fX.body (ρ aD) k0=_;refine(bD (ρ':=ρ aD) (h':=k0) ((k6 ec).trans (by rw[exs]))).trans ?_;refine(bD (ρ':=ρ aD) (h':=k0) ((k6 (j7 (w:=.tup [.int p,.int q]) (r:=false) rfl (by simp only[aR,n4]))).trans (by rw[exs]))).trans ?_;refine(bD (di e5)).trans ?_;show exs (run F k) _ (ρ (aC (.int (if ls.getD p 0=q then -1 else 1)))) k0=_;have Z6:ev (run F k) (.op .sub (.cst (.int (1))) (.idx (.var 1) (.idx (.var 0) (.cst (.int (0)))))) (ρ (aC (.int (if ls.getD p 0=q then -1 else 1)))) k0=.ok (.int (1-ls.getD p 0)) k0:=tB (x:=.int 1) (y:=.int (ls.getD p 0)) aV (i1 _) rfl;refine(bD (ρ':=ρ (aC (.int (if ls.getD p 0=q then -1 else 1)))) (h':=k0.set a (.lst ((ls.set p (1-ls.getD p 0)).map .int))) ?_).trans (kC (gT (aG rfl)));rw[exs,Z6,aE,aG (x:=.ref a) rfl,aE,i0,aE];have hx:gR (ls.map W.int).length (p:Int)=aC p:=FO (by rw[bA];exact hp);simp only[g1,hx,vn]
end
theorem pL{cl:Call}{o i v:E}{ρ:En}{h h1 h2 h3:VH}{w:W}{a k:Nat}{j:Int}{ws:List W}(e1:ev cl v ρ h=.ok w h1)(e2:ev cl o ρ h1=.ok (.ref a) h2)(e3:ev cl i ρ h2=.ok (.int j) h3)(g:h3.get a=aC (.lst ws))(hk:gR ws.length j=aC k):exs cl (.put o i v) ρ h=.ok (.nx ρ) (h3.set a (.lst (ws.set k w))):=by rw[exs,e1,aE,e2,aE,e3,aE];simp only[g,hk]
theorem Ka{cl:Call}{o i e:E}{ρ:En}{h h1 h2 h3:VH}{a k:Nat}{j p q:Int}{ws:List W}(e1:ev cl o ρ h=.ok (.ref a) h1)(e2:ev cl i ρ h1=.ok (.int j) h2)(g:h2.get a=aC (.lst ws))(hp:dH ws j=aC (.int p))(e3:ev cl e ρ h2=.ok (.int q) h3)(g3:h3.get a=aC (.lst ws))(hk:gR ws.length j=aC k):exs cl (.Ba o i e) ρ h=.ok (.nx ρ) (h3.set a (.lst (ws.set k (.int (p+q))))):=by
 rw[exs,e1,aE,e2,aE];have e4:jV (.ref a) (.int j) h2=.ok p h2:=by simp only[jV,g,hp]
 rw[e4,aE,e3,aE];simp only[kX,g3,hk]
theorem Kc{α:Type}{l:List α}{i:Nat}{x:α}(h:l[i]?=aC x):l.set i x=l:=by obtain⟨hi,rfl⟩:=jD.mp h;exact List.set_getElem_self hi
structure uV(k0 h:VH)(m c d j:Nat)(ks:List W)(s:List eG×List Int):Prop where
 gm:h.get m=aC (.lst (s.2.map .int))
 gc:h.get c=aC (.lst (s.1.map λx=>.int x.c))
 gd:h.get d=aC (.lst (s.1.map dj))
 m0:k0.n<=m
 c0:k0.n<=c
 d0:k0.n<=d
 mc:m≠c
 md:m≠d
 cd:c≠d
 gj:h.get j=aC (.lst ks)
 jm:j≠m
 jc:j≠c
 jd:j≠d
 G:Gm k0 h
noncomputable abbrev gH(B:Bd)(l r t:W)(m c d:Nat)(cR dD gY yL:Option W):En:=[aC B.w,aC l,aC r,aC t,aC (.tup (B.rows.map .tup)),aC (.tup B.fd),aC (.tup B.dr),aC (.ref m),aC (.ref c),aC (.ref d),cR,dD,gY,yL]
section
variable{F:Nat->Option Fn}(nh:F 173=aC dJ)
include nh
theorem Z7{k m c d j b p g:Nat}{ks:List W}{B:Bd}{k0 h:VH}{s:List eG×List Int}{l r t:W}{cR yL:Option W}(B':B.Ok)(hg:B.gr=g)(hb:b<s.1.length)(hp:p<B.rows.length)(O:eK B.wd s.1.length g s)(S:uV k0 h m c d j ks s)(tm:Int) :
 ∃h2,exs (run F (k+1)) Ci (gH B l r t m c d cR (aC (.int (b:Int))) (aC (.int (p:Int))) yL) h=.ok (.nx (gH B l r t m c d cR (aC (.int (b:Int))) (aC (.int (p:Int))) yL)) h2/\uV k0 h2 m c d j ks (ng B.rows s [tm,(b:Int),(p:Int)]):=by
 let ρ:En:=gH B l r t m c d cR (aC (.int (b:Int))) (aC (.int (p:Int))) yL;have hx:=eN hb;rw[J8 hx];have ox:=O.tG _ (i9 hx);generalize s.1[b]=x at hx ox;have hr:B.rows.getD p []=B.rows[p]:=by rw[tQ,eN hp];rfl
 have CF:=B'.r2 _ (iG hp);have xy:=QJ CF ox.c0 ox.c1;obtain⟨_,hm⟩:=FF CF ox.c0 ox.c1;have Ke:(s.2.length:Int)=B.gr:=by rw[O.ll,hg]
 rw[<-Ke]at hm;have Kf:∀{h':VH}{ws:List W}{w:W},h'.get d=aC (.lst ws)->ws[b]?=aC w->ev (run F (k+1)) (.idx (.var 9) (.var 11)) ρ h'=.ok w h':=λg1 g2=>
  bN (x:=.ref d) (y:=.int (b:Int)) (aG rfl) (aG rfl) (by simp only[bS,g1];exact jx g2)
 have Kg:∀{h':VH}{ws:List W}{w:W},h'.get d=aC (.lst ws)->ws[b]?=aC w->ev (run F (k+1)) (.cmp .mJ (.idx (.var 9) (.var 11)) (.cst .aO)) ρ h'=.ok (.bl (!cQ w)) h':=λg1 g2=>by
  rw[ev,Kf g1 g2,aE,aV,aE];rfl
 have hxd:(s.1.map dj)[b]?=aC (dj x):=by rw[gp,hx];rfl
 have hxc:(s.1.map λx=>W.int x.c)[b]?=aC (.int x.c):=by rw[gp,hx];rfl
 have c1:=Kg S.gd hxd;unfold Ci;by_cases hs:x.s=true;have e1:dj x=.aO:=by unfold dj;rw[if_pos hs]
 have e2:dw B.rows p x s.2=(x,s.2):=by unfold dw;rw[if_pos hs]
 rw[e1]at c1;rw[e2];refine⟨h,?_,by show uV k0 h m c d j ks (s.1.set b x,s.2);rw[Kc hx];exact S⟩;refine(bD (ρ':=ρ) (h':=h) ((k6 c1).trans (by rw[exs]))).trans ?_;exact(bD (ρ':=ρ) (h':=h) ((k6 c1).trans (by rw[exs]))).trans (by rw[exs]);have e1:dj x=.int x.d:=by unfold dj;rw[if_neg hs]
 have e2:dw B.rows p x s.2=match bB (bZ B.rows[p] x.c) x.d s.2 with|none=>(⟨x.c,x.d,true⟩,s.2)|some (e,_,l)=>(⟨x.c+e,e,false⟩,l):=by unfold dw;rw[if_neg hs,hr];try rfl
 rw[e1]at c1 hxd;have hh:=Z4 nh (k:=k) (hd:=x.d) hm S.gm;have ea:ev (run F (k+1)) (.cons (.idx (.idx (.var 4) (.var 12)) (.idx (.var 8) (.var 11))) (.cons (.idx (.var 9) (.var 11)) (.cons (.var 7) (.cons (.cst .aO) .nil)))) ρ h=.ok (.tup [bZ B.rows[p] x.c,.int x.d,.ref m,.aO]) h:=
  aJ (bN (x:=.tup B.rows[p]) (y:=.int x.c) (bN (x:=.tup (B.rows.map .tup)) (y:=.int (p:Int)) (aG rfl) (aG rfl) (jx (by rw[gp,eN hp];rfl))) (bN (x:=.ref c) (y:=.int (b:Int)) (aG rfl) (aG rfl) (by simp only[bS,S.gc];exact jx hxc)) xy)
   (aJ (Kf S.gd hxd) (aJ (aG rfl) (aJ aV bT)))
 have hkd:gR (s.1.map dj).length (b:Int)=aC b:=FO (by rw[bA];exact hb);have hkc:gR (s.1.map λx=>W.int x.c).length (b:Int)=aC b:=FO (by rw[bA];exact hb);have ld:=bQ S.gd;cases e:bB (bZ B.rows[p] x.c) x.d s.2 with
 |none=>
  rw[e]at hh e2;rw[e2];have e3:=pL (fY ea hh) (aG (cl:=run F (k+1)) (i:=9) (ρ:=ρ) (h:=h) rfl) (aG (i:=11) (ρ:=ρ) (h:=h) rfl) S.gd hkd;let h2:=h.set d (.lst ((s.1.map dj).set b .aO));have g2:h2.get d=aC (.lst ((s.1.map dj).set b .aO)):=pD S.gd;have c2:=Kg g2 (w:=.aO) (by rw[nH (by rw[bA];exact hb)]);refine⟨h2,?_,?_⟩;refine(bD (ρ':=ρ) (h':=h2) ((uU c1).trans ((bD e3).trans (by rw[exs])))).trans ?_;exact(bD (ρ':=ρ) (h':=h2) ((k6 c2).trans (by rw[exs]))).trans (by rw[exs]);refine⟨?_,?_,?_,S.m0,S.c0,S.d0,S.mc,S.md,S.cd,(iJ ld S.jd).trans S.gj,S.jm,S.jc,S.jd,S.G.set S.d0 ld⟩;rw[iJ ld S.md];exact S.gm;rw[iJ ld S.cd,S.gc,vn,Kc hxc];rw[g2,vn];rfl
 |some q=>
  obtain⟨e',t',l'⟩:=q;rw[e]at hh e2;rw[e2];obtain⟨h1,e4,g1,w1⟩:=hh;have Kh:h1.get d=aC (.lst (s.1.map dj)):=by rw[w1.get _ ld S.md.symm];exact S.gd
  have Z8:h1.get c=aC (.lst (s.1.map λx=>.int x.c)):=by rw[w1.get _ (bQ S.gc) S.mc.symm];exact S.gc
  have e3:=pL (fY ea e4) (aG (cl:=run F (k+1)) (i:=9) (ρ:=ρ) (h:=h1) rfl) (aG (i:=11) (ρ:=ρ) (h:=h1) rfl) Kh hkd;let h2:=h1.set d (.lst ((s.1.map dj).set b (.int e')));have FT:=bQ Kh;have g2:h2.get d=aC (.lst ((s.1.map dj).set b (.int e'))):=pD Kh;have FU:h2.get c=aC (.lst (s.1.map λx=>.int x.c)):=by rw[iJ FT S.cd];exact Z8
  have hb2:((s.1.map dj).set b (.int e'))[b]?=aC (.int e'):=nH (by rw[bA];exact hb);have c2:=Kg g2 hb2;have e5:=Ka (aG (cl:=run F (k+1)) (i:=8) (ρ:=ρ) (h:=h2) rfl) (aG (i:=11) (ρ:=ρ) (h:=h2) rfl) FU (jx hxc) (Kf g2 hb2) FU hkc;let h3:=h2.set c (.lst ((s.1.map λx=>W.int x.c).set b (.int (x.c+e'))));have oG:=bQ FU;refine⟨h3,?_,?_⟩;refine(bD (ρ':=ρ) (h':=h2) ((uU c1).trans ((bD e3).trans (by rw[exs])))).trans ?_;exact(bD (ρ':=ρ) (h':=h3) ((uU c2).trans ((bD e5).trans (by rw[exs])))).trans (by rw[exs]);refine⟨?_,?_,?_,S.m0,S.c0,S.d0,S.mc,S.md,S.cd,(iJ oG S.jc).trans ((iJ FT S.jd).trans ((w1.get _ (bQ S.gj) S.jm).trans S.gj)),S.jm,S.jc,S.jd,((S.G.w1 w1 S.m0).set S.d0 FT).set S.c0 oG⟩;rw[iJ oG S.mc,iJ FT S.md];exact g1;rw[pD FU,vn];rw[iJ oG S.cd.symm,g2,vn];rfl
end
theorem Kl{h:VH}{w:W}{c wd g hd:Int}{ls:List Int}(hm:eW w c wd g):bX h w (.str (br "s"))=aC (bB w hd ls).isNone:=by rcases FD hm with⟨rfl,h3,h4⟩|⟨rfl,h3⟩|⟨rfl,h3⟩|rfl|rfl|⟨p,q,rfl,h3,h4,h5,h6⟩;show bX h _ _=aC false;exact(fO (by decide +kernel) (by decide +kernel)).trans (by decide +kernel);show bX h _ _=aC false;exact(fO (by decide +kernel) (by decide +kernel)).trans (by decide +kernel);show bX h _ _=aC false;exact(fO (by decide +kernel) (by decide +kernel)).trans (by decide +kernel);show bX h _ _=aC false;exact(fO (by decide +kernel) (by decide +kernel)).trans (by decide +kernel);show bX h _ _=aC true;exact(fO (by decide +kernel) (by decide +kernel)).trans (by decide +kernel);show bX h _ _=aC false;exact Cu (by decide +kernel)
noncomputable def gP(x:eG):List W:=[.int x.c,.int x.d,.bl x.s]
structure SL(k0 h:VH)(m L j:Nat)(ks:List W)(rs:List Nat)(s:List eG×List Int):Prop where
 gm:h.get m=aC (.lst (s.2.map .int))
 gL:h.get L=aC (.lst (rs.map .ref))
 len:rs.length=s.1.length
 at_:∀(i r:Nat)(x:eG),rs[i]?=aC r->s.1[i]?=aC x->h.get r=aC (.lst (gP x))
 nd:rs.Nodup
 m0:k0.n<=m
 L0:k0.n<=L
 r0:∀r∈rs,k0.n<=r
 rm:∀r∈rs,r≠m
 rL:∀r∈rs,r≠L
 mL:m≠L
 gj:h.get j=aC (.lst ks)
 jm:j≠m
 rj:∀r∈rs,r≠j
 G:Gm k0 h
theorem SL.put{k0 h h1:VH}{m L j b r:Nat}{ks:List W}{rs:List Nat}{s:List eG×List Int}{x:eG}{ls:List Int}(S:SL k0 h m L j ks rs s)(hr:rs[b]?=aC r)(w1:W1 m h h1)(g1:h1.get m=aC (.lst (ls.map .int))):SL k0 (h1.set r (.lst (gP x))) m L j ks rs (s.1.set b x,ls):=by
 obtain⟨hb,er⟩:=jD.mp hr;have hm:=i9 hr;have hb2:b<s.1.length:=by rw[<-S.len];exact hb
 have gr:=S.at_ b r _ hr (eN hb2);have Q3:h1.get r=aC (.lst (gP s.1[b])):=by rw[w1.get _ (bQ gr) (S.rm r hm)];exact gr
 have lr:=bQ Q3;refine⟨?_,?_,by rw[vj];exact S.len,λi r' y e1 e2=>?_,S.nd,S.m0,S.L0,S.r0,S.rm,S.rL,S.mL,(iJ lr (S.rj r hm).symm).trans ((w1.get _ (bQ S.gj) S.jm).trans S.gj),S.jm,S.rj,(S.G.w1 w1 S.m0).set (S.r0 r hm) lr⟩;rw[iJ lr (S.rm r hm).symm];exact g1;rw[iJ lr (S.rL r hm).symm,w1.get _ (bQ S.gL) S.mL.symm];exact S.gL;by_cases z:i=b;subst z;rw[hr]at e1;cases e1;rw[show(s.1.set i x)[i]?=aC x from nH hb2]at e2;cases e2;exact pD Q3;rw[show(s.1.set b x)[i]?=s.1[i]? from xN (eT z)]at e2;have hi:=jD.mp e1;obtain⟨hi,ei⟩:=hi;have hne:r'≠r:=λq=>z ((List.getElem_inj S.nd (h₀:=hi) (h₁:=hb)).mp (ei.trans (q.trans er.symm)));have g':=S.at_ i r' y e1 e2;rw[iJ lr hne,w1.get _ (bQ g') (S.rm r' (i9 e1))];exact g'
noncomputable abbrev cK(B:Bd)(r t:W)(m L:Nat)(x6 x7 x8 x9 cR dD gY:Option W):En:=[aC B.w,aC (.ref m),aC r,aC t,aC (.tup (B.rows.map .tup)),aC (.ref L),x6,x7,x8,x9,cR,dD,gY]
section
variable{F:Nat->Option Fn}(ni:F 158=aC fX)
include ni
theorem Z9{k m L j b p g:Nat}{ks:List W}{B:Bd}{k0 h:VH}{s:List eG×List Int}{rs:List Nat}{r t:W}{x6 x9 cR dD gY:Option W}(B':B.Ok)(hg:B.gr=g)(hb:b<s.1.length)(hp:p<B.rows.length)(O:eK B.wd s.1.length g s)(S:SL k0 h m L j ks rs s)(tm:Int) :
 ∃h2 yM uW,exs (run F (k+1)) wZ (cK B r t m L x6 (aC (.int (b:Int))) (aC (.int (p:Int))) x9 cR dD gY) h=.ok (.nx (cK B r t m L x6 (aC (.int (b:Int))) (aC (.int (p:Int))) x9 yM uW gY)) h2/\SL k0 h2 m L j ks rs (ng B.rows s [tm,(b:Int),(p:Int)]):=by
 have hx:=eN hb;rw[J8 hx];have ox:=O.tG _ (i9 hx);generalize s.1[b]=x at hx ox;have hb2:b<rs.length:=by rw[S.len];exact hb
 have hrb:=eN hb2;have hmr:=i9 hrb;generalize rs[b]=q at hrb hmr;have hr:B.rows.getD p []=B.rows[p]:=by rw[tQ,eN hp];rfl
 have CF:=B'.r2 _ (iG hp);have xy:=QJ CF ox.c0 ox.c1;obtain⟨_,hm⟩:=FF CF ox.c0 ox.c1;have Ke:(s.2.length:Int)=B.gr:=by rw[O.ll,hg]
 rw[<-Ke]at hm;have gq:=S.at_ b q x hrb hx;let ρ:Option W->Option W->En:=λyM uW=>cK B r t m L x6 (aC (.int (b:Int))) (aC (.int (p:Int))) x9 yM uW gY;let w:W:=bZ B.rows[p] x.c;let bC:En:=ρ (aC (.ref q)) (aC w);have iq:∀{h':VH}{ws:List W}{i:Nat}{v:W}{uW:Option W},h'.get q=aC (.lst ws)->ws[i]?=aC v->ev (run F (k+1)) (.idx (.var 10) (.cst (.int (i:Int)))) (ρ (aC (.ref q)) uW) h'=.ok v h':=λg1 g2=>
  bN (x:=.ref q) (aG rfl) aV (by simp only[bS,g1];exact jx g2)
 have e1:ev (run F (k+1)) (.idx (.var 5) (.var 7)) (ρ cR dD) h=.ok (.ref q) h:=
  bN (x:=.ref L) (y:=.int (b:Int)) (aG rfl) (aG rfl) (by simp only[bS,S.gL];exact jx (by rw[gp,hrb];rfl))
 have e2:ev (run F (k+1)) (.idx (.idx (.var 4) (.var 8)) (.idx (.var 10) (.cst (.int (0))))) (ρ (aC (.ref q)) dD) h=.ok w h:=
  bN (x:=.tup B.rows[p]) (y:=.int x.c) (bN (x:=.tup (B.rows.map .tup)) (y:=.int (p:Int)) (aG rfl) (aG rfl) (jx (by rw[gp,eN hp];rfl))) (iq (i:=0) gq rfl) xy
 have ec:ev (run F (k+1)) (.cmp .eq (.var 11) (.cst (.str (br "s")))) bC h=.ok (.bl (bB w x.d s.2).isNone) h:=by rw[ev,aG (x:=w) rfl,aE,aV,aE];show Res.of (Option.map W.bl (bX h w (.str (br "s")))) h=_;rw[show bX h w (.str (br "s"))=aC (bB w x.d s.2).isNone from Kl (h:=h) (hd:=x.d) (ls:=s.2) hm];rfl
 have lq:=bQ gq;have ea:exs (run F (k+1)) wZ (ρ cR dD) h=exs (run F (k+1)) (.seq (.ite (.cmp .eq (.var 11) (.cst (.str (br "s")))) (.seq (.put (.var 10) (.cst (.int (2))) (.cst (.bl true))) .skip) .skip) (.seq (.ite (.not (.jh (.idx (.var 10) (.cst (.int (2)))))) (.seq (.put (.var 10) (.cst (.int (1))) (.call 158 (.cons (.var 11) (.cons (.var 1) (.cons (.idx (.var 10) (.cst (.int (1)))) .nil))))) (.seq (.put (.var 10) (.cst (.int (0))) (.op .add (.idx (.var 10) (.cst (.int (0)))) (.idx (.var 10) (.cst (.int (1)))))) .skip)) .skip) .skip)) bC h:=by unfold wZ;refine(bD (di e1)).trans ?_;exact bD (di e2)
 have cd:∀{h':VH}{y:eG},h'.get q=aC (.lst (gP y))->ev (run F (k+1)) (.not (.jh (.idx (.var 10) (.cst (.int (2)))))) bC h'=.ok (.bl (!y.s)) h':=λ{h' y} g1=>by
  have q2:ev (run F (k+1)) (.idx (.var 10) (.cst (.int (2)))) bC h'=.ok (.bl y.s) h':=iq (i:=2) g1 rfl;rw[ev,ev,q2,aE];rfl
 have es:∃h1 y,exs (run F (k+1)) (.ite (.cmp .eq (.var 11) (.cst (.str (br "s")))) (.seq (.put (.var 10) (.cst (.int (2))) (.cst (.bl true))) .skip) .skip) bC h=.ok (.nx bC) h1/\SL k0 h1 m L j ks rs (s.1.set b y,s.2)/\y=(if(bB w x.d s.2).isNone then⟨x.c,x.d,true⟩else x):=by
  cases z:(bB w x.d s.2).isNone with
  |true=>
   rw[z]at ec;have e3:=pL (cl:=run F (k+1)) (o:=.var 10) (i:=.cst (.int 2)) (v:=.cst (.bl true)) (ρ:=bC) (w:=.bl true) (a:=q) (k:=2) (j:=2) aV (aG rfl) aV gq rfl;exact⟨_,⟨x.c,x.d,true⟩,(uU ec).trans ((bD e3).trans (by rw[exs];rfl)),S.put hrb .refl S.gm,rfl⟩
  |false=>
   rw[z]at ec;exact⟨h,x,(k6 ec).trans (by rw[exs]),by rw[Kc hx];exact S,rfl⟩
 obtain⟨h1,y,e3,S1,ey⟩:=es;have hy1:(s.1.set b y)[b]?=aC y:=nH hb;have FW:=S1.at_ b q y hrb hy1;have c1:=cd FW;have CG:∀{h2:VH}{s2:List eG×List Int},exs (run F (k+1)) (.ite (.not (.jh (.idx (.var 10) (.cst (.int (2)))))) (.seq (.put (.var 10) (.cst (.int (1))) (.call 158 (.cons (.var 11) (.cons (.var 1) (.cons (.idx (.var 10) (.cst (.int (1)))) .nil))))) (.seq (.put (.var 10) (.cst (.int (0))) (.op .add (.idx (.var 10) (.cst (.int (0)))) (.idx (.var 10) (.cst (.int (1)))))) .skip)) .skip) bC h1=.ok (.nx bC) h2->SL k0 h2 m L j ks rs s2->s2=(s.1.set b (dw B.rows p x s.2).1,(dw B.rows p x s.2).2)->
  ∃h2 yM uW,exs (run F (k+1)) wZ (cK B r t m L x6 (aC (.int (b:Int))) (aC (.int (p:Int))) x9 cR dD gY) h=.ok (.nx (cK B r t m L x6 (aC (.int (b:Int))) (aC (.int (p:Int))) x9 yM uW gY)) h2/\SL k0 h2 m L j ks rs (s.1.set b (dw B.rows p x s.2).1,(dw B.rows p x s.2).2):=by
  intro h2 s2 e4 S2 es;refine⟨h2,aC (.ref q),aC w,ea.trans ?_,es▸S2⟩;refine(bD e3).trans ?_;exact(bD e4).trans (by rw[exs])
 by_cases hs:y.s=true;rw[hs]at c1;refine CG ((k6 c1).trans (by rw[exs])) S1 ?_;unfold dw;by_cases hxs:x.s=true;rw[if_pos hxs];have:y=x:=by rw[ey];split;cases x;simp only at hxs;rw[hxs];rfl
 rw[this];rw[if_neg hxs,hr];cases z:bB (bZ B.rows[p] x.c) x.d s.2 with
 |none=>
  have:y=⟨x.c,x.d,true⟩:=by rw[ey];show(if(bB (bZ B.rows[p] x.c) x.d s.2).isNone then _ else _)=_;rw[z];rfl
  rw[this]
 |some u=>
  have:y=x:=by rw[ey];show(if(bB (bZ B.rows[p] x.c) x.d s.2).isNone then _ else _)=_;rw[z];rfl
  rw[this]at hs;exact absurd hs hxs
 have hys:y.s=false:=by simpa using hs
 rw[hys]at c1;cases z:bB (bZ B.rows[p] x.c) x.d s.2 with
 |none=>
  have:y=⟨x.c,x.d,true⟩:=by rw[ey];show(if(bB (bZ B.rows[p] x.c) x.d s.2).isNone then _ else _)=_;rw[z];rfl
  rw[this]at hs;exact absurd rfl hs
 |some u=>
  obtain⟨e',t',l'⟩:=u;have yx:y=x:=by rw[ey];show(if(bB (bZ B.rows[p] x.c) x.d s.2).isNone then _ else _)=_;rw[z];rfl
  subst yx;obtain⟨h2,e4,g2,w2⟩:=Z5 ni (k:=k) (h:=h1) (a:=m) hm S1.gm z;have eA:ev (run F (k+1)) (.cons (.var 11) (.cons (.var 1) (.cons (.idx (.var 10) (.cst (.int (1)))) .nil))) bC h1=.ok (.tup [w,.ref m,.int y.d]) h1:=
   aJ (aG rfl) (aJ (aG rfl) (aJ (iq (i:=1) FW rfl) bT))
  have Q4:h2.get q=aC (.lst (gP y)):=by rw[w2.get _ (bQ FW) (S1.rm q hmr)];exact FW
  have e5:=pL (fY eA e4) (aG (cl:=run F (k+1)) (i:=10) (ρ:=bC) (h:=h2) rfl) (aV (w:=.int 1)) (k:=1) Q4 rfl;let h3:=h2.set q (.lst [.int y.c,.int e',.bl y.s]);have Km:h3.get q=aC (.lst [.int y.c,.int e',.bl y.s]):=pD Q4;have eO:ev (run F (k+1)) (.op .add (.idx (.var 10) (.cst (.int (0)))) (.idx (.var 10) (.cst (.int (1))))) bC h3=.ok (.int (y.c+e')) h3:=
   tB (x:=.int y.c) (y:=.int e') (iq (i:=0) Km rfl) (iq (i:=1) Km rfl) rfl
  have e6:=pL eO (aG (cl:=run F (k+1)) (i:=10) (ρ:=bC) (h:=h3) rfl) (aV (w:=.int 0)) (k:=0) Km rfl;have S3:=(S1.put (x:=⟨y.c,e',y.s⟩) hrb w2 g2).put (x:=⟨y.c+e',e',y.s⟩) hrb .refl (by
   have:=(S1.put (x:=⟨y.c,e',y.s⟩) hrb w2 g2).gm;exact this)
  refine CG (h2:=h3.set q (.lst [.int (y.c+e'),.int e',.bl y.s])) ((uU c1).trans ((bD e5).trans ((bD e6).trans (by rw[exs];rfl)))) S3 ?_;unfold dw;rw[if_neg hs,hr,z,List.set_set,List.set_set,hys]
end
theorem uX{cl:Call}{nx:Nat->VH->Option (Option W)}{tg:W->VH->En->Option En}{e:E}{h:VH}{ws:List W}(hx:∀i,nx i h=aC ws[i]?)(P:En->Prop)(he:∀w∈ws,∀ρ,P ρ->∃bC,tg w h ρ=aC bC/\ev cl e bC h=.ok (.bl true) h/\P bC) :
 ∀(fu i:Nat)(ρ:En)(acc:List W),i<=ws.length->ws.length<fu+i->P ρ->gu nx tg (λ_ h=>.ok (.bl true) h) (ev cl e) fu i ρ h acc=.ok (acc.reverse++bE (ws.length-i) (.bl true)) h
 |0,i,ρ,acc,hi,hl,hP=>by lia
 |fu+1,i,ρ,acc,hi,hl,hP=>by
  cases q:ws[i]? with
  |none=>
   have:=nG.mp q;rw[gu,hx,q,show ws.length-i=0 by lia];simp
  |some w=>
   obtain⟨hi',_⟩:=jD.mp q;obtain⟨bC,e1,e2,P1⟩:=he w (i9 q) ρ hP;have ih:=uX hx P he fu (i+1) bC (.bl true::acc) hi' (by lia) P1;rw[gu,hx,q];simp only[e1,aE,e2];rw[ih,show ws.length-i=(ws.length- (i+1))+1 by lia,nK];simp
theorem CH{cl:Call}{kd:Kd}{a e:E}{t:Tg}{ow:Nat}{ρ:En}{h h1:VH}{x:W}{ws:List W}(ea:ev cl a ρ h=.ok x h1)(hx:∀i,bf kd x i h1=aC ws[i]?)(hw:ws.length<=100000)(P:En->Prop)(hP:P (bE ow aD))(he:∀w∈ws,∀ρ,P ρ->∃bC,bx t w h1 ρ=aC bC/\ev cl e bC h1=.ok (.bl true) h1/\P bC) :
 ev cl (.bi .all (.cons (.lc kd a t ow [] (.cst (.bl true)) e) .nil)) ρ h=.ok (.bl true) (h1.new (.lst (bE ws.length (.bl true)))):=by
 have e1:=uX (cl:=cl) (tg:=bx t) (e:=e) hx P he fuel 0 (bE ow aD) [] (gh _) (by have hf:fuel=1000000:=rfl;lia) hP;refine J' (j:=h1.n) (n:=ws.length) ?_ fm;rw[ev,ea,aE];show(gu (bf kd x) (bx t) (λ_ h=>.ok (.bl true) h) (ev cl e) fuel 0 (bE ow aD++[]) h1 []).bind _=_;rw[ny,e1,aE,if_pos (yJ (by simp;lia))];rfl
theorem zs8{u v:W}{ws:List W}{h:VH}(hu:aP h u=aC ws)(hv:aP h v=aC ws)(i:Nat):bf .zip (.tup [u,v]) i h=aC (ws.map λa=>.tup [a,a])[i]?:=by simp only[bf,hu,hv,gp];cases ws[i]?<;>rfl
theorem uY{cl:Call}{a b e:E}{ρ:En}{u v:W}{ws:List W}{h h1 h2:VH}(ea:ev cl a ρ h=.ok u h1)(eb:ev cl b ρ h1=.ok v h2)(hu:aP h2 u=aC ws)(hv:aP h2 v=aC ws)(hw:ws.length<=100000)(he:∀w∈ws,ev cl e [aC w,aC w] h2=.ok (.bl true) h2) :
 ev cl (.bi .all (.cons (.lc .zip (.cons a (.cons b .nil)) (.many [0,1]) 2 [] (.cst (.bl true)) e) .nil)) ρ h=.ok (.bl true) (h2.new (.lst (bE (ws.map λa=>W.tup [a,a]).length (.bl true)))):=
 CH (aJ ea (aJ eb bT)) (zs8 hu hv) (by rw[bA];exact hw) (λρ=>∃x y,ρ=[x,y]) ⟨_,_,rfl⟩ λw hw ρ bV=>by
  obtain⟨x,y,xx⟩:=bV;obtain⟨z,hz,rfl⟩:=jv.mp hw;subst xx;exact⟨_,rfl,he z hz,_,_,rfl⟩
noncomputable def cU(n:Nat):List W:=(List.range n).map λ(i:Nat)=>W.int (i:Int)
theorem Q5{n:Nat}:(cU n).length=n:=by unfold cU;rw[bA,vg]
theorem Q6{n:Nat}{h:VH}(hn:n<1000000)(i:Nat):bf .bg (.tup [.int (n:Int)]) i h=aC (cU n)[i]?:=by rw[tD hn];unfold cU;rw[gp];by_cases q:i<n;rw[if_pos q,List.getElem?_range q];rfl;rw[if_neg q,nI (by rw[vg];lia)];rfl
noncomputable def Ko(bt b:Int):W->W|.int d=>iW [b*bt+d,b,d]|_=>.aO
noncomputable def Kp(nr:Nat)(bt:Int):W->List W|.int b=>(cU nr).map (Ko bt b)|_=>[]
theorem zs9{nb nr:Nat}{bt:Int}:(cU nb).flatMap (Kp nr bt)=(iL nb nr bt).map iW:=by unfold iL;rw[cU,List.flatMap_map,List.map_flatMap];refine kF (λf=>(List.range nb).flatMap f) (funext λb=>?_);show(cU nr).map (Ko bt (b:Int))=_;rw[cU,xR,xR];rfl
theorem Kq{b bt:Int}{h:VH}(h1:-(2 ^ 63)<=b)(h2:b<2 ^ 63):fN .mul (.int b) (.int bt) h=.ok (.int (b*bt)) h:=by show(Res.of ((if lM b||lM bt then aC (b*bt)else aD).map W.int) h)=_;rw[Ck h1 h2,Bool.true_or];rfl
theorem Q7{cl:Call}{ρ:En}{h:VH}{ib FY CI:Nat}{b bt d:Int}(h1:-(2 ^ 63)<=b)(h2:b<2 ^ 63)(eb:ρ[ib]?=aC (aC (.int b)))(et:ρ[FY]?=aC (aC (.int bt)))(ed:ρ[CI]?=aC (aC (.int d))) :
 ev cl (.tup (.cons (.op .add (.op .mul (.var ib) (.var FY)) (.var CI)) (.cons (.var ib) (.cons (.var CI) .nil)))) ρ h=.ok (iW [b*bt+d,b,d]) h:=
 Cy (ys:=[.int (b*bt+d),.int b,.int d]) (aJ (tB (x:=.int (b*bt)) (y:=.int d) (tB (x:=.int b) (y:=.int bt) (aG eb) (aG et) (Kq h1 h2)) (aG ed) rfl) (aJ (aG eb) (aJ (aG ed) bT))) rfl
theorem zta{F:Nat->Option Fn}(xA:F 107=aC lV){k nb nr:Nat}{bt:Int}{h:VH}(hb:nb<=200)(hr:nr<=60) :
 ∃j h',run F (k+1) 107 [.int (nb:Int),.int (nr:Int),.int bt] h=.ok (.ref j) h'/\h'.get j=aC (.lst ((fy nb nr bt).map iW))/\Gm h h'/\h.n<=j:=by
 let k0:VH:=⟨h.n,h.n,h.os⟩
 let cl:=run F k;let tl:En:=[aC (.int bt),aC (.int (nr:Int))]
 have fu:fuel=1000000:=rfl;have jy:∀x∈cU nb,∀(b:Option W)(acc:List W),∃b',(λρ h acc=>(ev cl wY ρ h).bind λy h=>iT (bf .bg y) (bx (.one 1)) (λ_ h=>.ok (.bl true) h) (ev cl yE) fuel 0 ρ h acc) (aC x::b::tl) k0 acc=.ok (aC x::b'::tl,(Kp nr bt x).reverse++acc) k0:=by
  intro x hx b acc;unfold cU at hx;obtain⟨n,hn,rfl⟩:=jv.mp hx;have hn2:=tU.mp hn;obtain⟨b',e1⟩:=QN (nx:=bf .bg (.tup [.int (nr:Int)])) (e:=ev cl yE) (h:=k0) (ws:=cU nr) (x:=.int (n:Int)) (tl:=tl) (f:=Ko bt (n:Int)) (Q6 (by lia)) (λw hw=>by
   unfold cU at hw;obtain⟨d,_,rfl⟩:=jv.mp hw;exact Q7 (ib:=0) (FY:=2) (CI:=1) (by lia) (by lia) rfl rfl rfl) fuel 0 b acc (gh _) (by rw[Q5,fu];lia)
  refine⟨b',?_⟩;show(ev cl wY _ k0).bind _=_;rw[show ev cl wY (aC (.int (n:Int))::b::tl) k0=.ok (.tup [.int (nr:Int)]) k0 from aJ (aG rfl) bT,aE];exact e1
 have e2:=QO (jy:=λρ h acc=>(ev cl wY ρ h).bind λy h=>iT (bf .bg y) (bx (.one 1)) (λ_ h=>.ok (.bl true) h) (ev cl yE) fuel 0 ρ h acc) (nx:=bf .bg (.tup [.int (nb:Int)])) (h:=k0) (ws:=cU nb) (tl:=tl) (g:=Kp nr bt) (Q6 (by lia)) jy fuel 0 aD aD [] (gh _) (by rw[Q5,fu];lia);rw[List.drop_zero,zs9]at e2;let ρ:En:=[aC (.int (nb:Int)),aC (.int (nr:Int)),aC (.int bt)]
 have hz:((iL nb nr bt).map iW).length<=1000000:=by rw[bA,J6];exact gZ (Di hb hr) (by decide)
 have e3:ev cl (.oG .bg (.cons (.var 0) .nil) (.one 0) 2 [2,1] (.cst (.bl true)) .bg wY (.one 1) (.cst (.bl true)) yE) ρ k0=.ok (.ref k0.n) (k0.new (.lst ((iL nb nr bt).map iW))):=by rw[ev,show ev cl (.cons (.var 0) .nil) ρ k0=.ok (.tup [.int (nb:Int)]) k0 from aJ (aG rfl) bT,aE,QD];show((kq (bf .bg (.tup [.int (nb:Int)])) (bx (.one 0)) (λ_ h=>.ok (.bl true) h) (λρ h acc=>(ev cl wY ρ h).bind λy h=>iT (bf .bg y) (bx (.one 1)) (λ_ h=>.ok (.bl true) h) (ev cl yE) fuel 0 ρ h acc) fuel 0 (aD::aD::tl) k0 []).bind _)=_;rw[e2,aE];exact if_pos (yJ hz)
 let k1:=k0.new (.lst ((iL nb nr bt).map iW));have e4:=CA e3 fm;have eb:exs cl lV.body ρ k0=.ok (.rt (.ref k1.n)) (k1.new (.lst ((fy nb nr bt).map iW))):=kC (gT e4);obtain⟨h2,e5,G2,g2⟩:=QU (h:=h) (h':=k1.new (.lst ((fy nb nr bt).map iW))) (w:=.ref k1.n) (QT (tN _)) (Gm.new (Gm.new Gm.refl));refine⟨k1.n,h2,?_,by rw[g2];exact fm,G2,tN _⟩;rw[eE xA rfl,<-e5];exact kF (fin h) eb
noncomputable def gJ(B:Bd)(x:eG):W:=if x.s then .aO else(match B.door x.c with|.tup [n,_]=>n|_=>.aO)
theorem Kr{B:Bd}{x:eG}(b:B.Ok)(hx:gO B.wd x):x.s=false->∃(a:Int) (y:W),B.door x.c=.tup [.int a,y]/\gJ B x=.int a:=by intro z;obtain⟨a,y,e,_⟩:=Zx (b.door hx.c0 hx.c1).2;refine⟨a,y,e,?_⟩;unfold gJ;rw[z,e];rfl
theorem Q8{B:Bd}{x:eG}(b:B.Ok)(hx:gO B.wd x):gJ B x=.aO\/∃a:Int,gJ B x=.int a:=by
 cases z:x.s with|true=>exact .inl (by unfold gJ;rw[z];rfl)|false=>obtain⟨a,_,_,e⟩:=Kr b hx z;exact .inr ⟨a,e⟩
noncomputable def fZ(B:Bd)(r:List Nat)(ls:List Int):List eG×List Int:=(r.map λf=>⟨B.col f,0,false⟩,ls)
theorem pM{B:Bd}{r:List Nat}{ls:List Int}{g:Nat}(b:B.Ok)(hf:∀f∈r,f<B.fd.length)(hl:ls.length=g)(bi:eX ls):eK B.wd r.length g (fZ B r ls):=
 ⟨by unfold fZ;rw[bA],λx hx=>by
  unfold fZ at hx;obtain⟨f,hm,rfl⟩:=jv.mp hx;obtain⟨_,h1,h2⟩:=b.col (hf f hm);exact⟨h1,h2,by show(-1:Int)<=0;decide,by show(0:Int)<=1;decide⟩,hl,bi⟩
theorem zoz{F:Nat->Option Fn}(A:CoreA F)(Ks:F 28=aC sF){k:Nat}{h:VH}{r:List Nat}{n:Int}(hr:r.length<=200)(hf:∀f∈r,(f:Int)<n):run F (k+4) 28 [.tup (aS r),.int n,.int 200] h=.ok (.bl true) h:=by
 rw[eE Ks rfl];have e:=Jx A (k:=k) (h:=⟨h.n,h.n,h.os⟩) (w:=.tup (aS r)) (a:=0) (b:=200) (lo:=0) (hi:=n-1) (by unfold Kn;simp) (λws e=>by
  cases e;unfold aS;refine⟨by rw[bA];lia,λx hx=>?_⟩;obtain⟨y,_,rfl⟩:=jv.mp hx;unfold Kn;simp)
 have e2:pC (.tup (aS r)) 0 200 0 (n-1)=true:=by unfold aS pC gM;simp only[bA,bG,fL,nv];refine⟨⟨by lia,by lia⟩,λw hw=>?_⟩;obtain⟨x,hx,rfl⟩:=jv.mp hw;have:=hf x hx;simp only[within,bG,fL];lia
 rw[e2]at e;simp[sF,exs,ev,fN,dP,e,dM]
structure xB(F:Nat->Option Fn):Prop where
 b:lX F
 J0:F 17=aC sD
 J4:F 22=aC o9
 J5:F 24=aC sE
 Ks:F 28=aC sF
 xA:F 107=aC lV
 nh:F 173=aC dJ
 Ku:F 270=aC lU
section
variable{F:Nat->Option Fn}
theorem yN{cl:Call}{a e:E}{ρ:En}{h h1:VH}{x:W}{ow:Nat}{ix:List Nat}{t:Tg}{kd:Kd}{n:Nat}{f:Nat->W}(ea:ev cl a ρ h=.ok x h1)(hn:n<=100000)(P:En->Prop)(hP:P (inner ow ix ρ))
 (go:∀i,i<n->∀ρ,P ρ->∃w bC,bf kd x i h1=aC (aC w)/\bx t w h1 ρ=aC bC/\ev cl e bC h1=.ok (f i) h1/\P bC) (stop:bf kd x n h1=aC aD) :
 ev cl (.lc kd a t ow ix (.cst (.bl true)) e) ρ h=.ok (.ref h1.n) (h1.new (.lst ((List.range n).map f))):=by
 obtain⟨ys,ρ',h',e1,hI⟩:=JV (nx:=bf kd x) (tg:=bx t) (e:=ev cl e) (n:=n) (I:=λi ρ h acc=>P ρ/\h=h1/\acc=(List.range i).map f)
  (λi ρ h acc hi hI=>by
    obtain⟨hP,rfl,rfl⟩:=hI;obtain⟨w,bC,e1,e2,e3,hP1⟩:=go i hi ρ hP;exact⟨w,bC,f i,h,e1,e2,e3,hP1,rfl,by rw[List.range_succ,tT];rfl⟩)
  (λρ h acc hI=>by obtain⟨_,rfl,_⟩:=hI;exact stop)
  (ρ:=inner ow ix ρ) (h:=h1) (by lia) ⟨hP,rfl,rfl⟩
 obtain⟨_,rfl,rfl⟩:=hI;exact JW ea e1 (by rw[bA,vg];lia)
theorem CJ{α:Type}{f:Nat->W}{g:α->W}{l:List α}(h:∀i x,l[i]?=aC x->f i=g x):(List.range l.length).map f=l.map g:=by refine List.ext_getElem (by rw[bA,bA,vg]) λi h1 h2=>?_;rw[List.getElem_map,List.getElem_map,List.getElem_range];exact h i _ (eN _)
theorem ztb(C:xB F){k m c d j g:Nat}{B:Bd}{k0 h:VH}{s:List eG×List Int}{l r t:W}{a:E}{bt:Int}{h1:VH}(b:B.Ok)(hg:B.gr=g)(hn:s.1.length<=200)(O:eK B.wd s.1.length g s)
 (ea:ev (run F (k+1)) a (gH B l r t m c d aD aD aD aD) h1=.ok (.ref j) h) (S:uV k0 h m c d j ((fy s.1.length B.rows.length bt).map iW) s) :
 ∃h2 cR dD gY,exs (run F (k+1)) (.«for» .seq a (.many [10,11,12]) Ci) (gH B l r t m c d aD aD aD aD) h1=.ok (.nx (gH B l r t m c d cR dD gY aD)) h2/\
  uV k0 h2 m c d j ((fy s.1.length B.rows.length bt).map iW) (bJ B.rows s (fy s.1.length B.rows.length bt))/\eK B.wd s.1.length g (bJ B.rows s (fy s.1.length B.rows.length bt)):=by
 have b1:=b.r1;have fu:fuel=1000000:=rfl;let T:=fy s.1.length B.rows.length bt;have hT:T.length<=12000:=by show(fy _ _ _).length<=_;rw[QZ];exact gZ (Di hn b1) (by decide)
 obtain⟨ρ',h',e1,hI⟩:=yK (nx:=bf .seq (.ref j)) (tg:=bx (.many [10,11,12])) (b:=exs (run F (k+1)) Ci) (n:=T.length)
  (I:=λi ρ h2=>(∃cR dD gY,ρ=gH B l r t m c d cR dD gY aD)/\uV k0 h2 m c d j (T.map iW) (bJ B.rows s (T.take i))/\eK B.wd s.1.length g (bJ B.rows s (T.take i)))
  (λi ρ h2 hi hI=>by
    obtain⟨⟨cR,dD,gY,rfl⟩,S,O⟩:=hI;have hx:=eN hi;obtain⟨p,q,hp,hq,ek⟩:=J7 (i9 hx);rw[ek]at hx;have O':eK B.wd (bJ B.rows s (T.take i)).1.length g (bJ B.rows s (T.take i)):=by rw[O.len];exact O
    obtain⟨h3,e3,S3⟩:=Z7 C.nh (k:=k) (b:=p) (p:=q) (l:=l) (r:=r) (t:=t) (cR:=aC (.int ((p:Int)*bt+ (q:Int)))) (yL:=aD) b hg (by rw[O.len];exact hp) hq O' S ((p:Int)*bt+ (q:Int));have O3:=J9 (t:=(p:Int)*bt+ (q:Int)) (rs:=B.rows) (by rw[<-hg];exact b.r2) hp hq O;refine⟨iW [(p:Int)*bt+ (q:Int),(p:Int),(q:Int)],gH B l r t m c d (aC (.int ((p:Int)*bt+ (q:Int)))) (aC (.int (p:Int))) (aC (.int (q:Int))) aD,_,h3,?_,rfl,e3,⟨_,_,_,rfl⟩,?_,?_⟩;rw[qm S.gj,gp,hx];rfl;rw[FQ hx];exact S3;rw[FQ hx];exact O3)
  (λρ h2 hI=>by
    obtain⟨_,S,_⟩:=hI;rw[qm S.gj,nI (by rw[bA];exact aQ _)])
  T.length 0 fuel (gH B l r t m c d aD aD aD aD) h (nu _) (by lia) ⟨⟨aD,aD,aD,rfl⟩,S,O⟩
 obtain⟨⟨cR,dD,gY,rfl⟩,S',O'⟩:=hI;rw[y9]at S' O';exact⟨h',cR,dD,gY,(j6 ea).trans e1,S',O'⟩
theorem zip2{h:VH}{c d i:Nat}{xs ys:List W}{x y:W}(gc:h.get c=aC (.lst xs))(gd:h.get d=aC (.lst ys))(hx:xs[i]?=aC x)(hy:ys[i]?=aC y):bf .zip (.tup [.ref c,.ref d]) i h=aC (aC (.tup [x,y])):=by simp only[bf,aP,gc,gd,hx,hy]
theorem CL{h:VH}{c d i:Nat}{xs ys:List W}(gc:h.get c=aC (.lst xs))(gd:h.get d=aC (.lst ys))(hx:xs[i]?=aD):bf .zip (.tup [.ref c,.ref d]) i h=aC aD:=by simp only[bf,aP,gc,gd,hx]
noncomputable def nj(B:Bd)(x:eG):W:=if x.s then .tup [.aO,.aO]else B.door x.c
theorem zxk{B:Bd}{x:eG}(b:B.Ok)(hx:gO B.wd x):∃y,nj B x=.tup [gJ B x,y]:=by
 cases z:x.s with
 |true=>exact⟨.aO,by unfold nj gJ;rw[z];rfl⟩
 |false=>
  obtain⟨a,y,e,en⟩:=Kr b hx z;exact⟨y,by rw[en];unfold nj;rw[z,e];rfl⟩
theorem ztc{k m c d j g:Nat}{B:Bd}{k0 h:VH}{s:List eG×List Int}{l r t:W}{ks:List W}{cR dD gY:Option W}(b:B.Ok)(hn:s.1.length<=200)(O:eK B.wd s.1.length g s)(S:uV k0 h m c d j ks s) :
 ∃h2,exs (run F (k+1)) (.seq (.set 13 (.lc .zip (.cons (.var 8) (.cons (.var 9) .nil)) (.many [0,1]) 2 [6] (.cst (.bl true)) Fd)) (.seq (.ret (.tup (.cons (.bi .tuple (.cons (.lc .seq (.var 13) (.one 0) 1 [] (.cst (.bl true)) Jp) .nil)) (.cons (.bi .tuple (.cons (.var 7) .nil)) .nil)))) .skip)) (gH B l r t m c d cR dD gY aD) h=.ok (.rt (.tup [.tup (s.1.map (gJ B)),iW s.2])) h2/\Gm h h2:=by
 let f3:Nat->W:=λi=>match s.1[i]? with|some x=>nj B x|none=>.aO
 have e3:=yN (cl:=run F (k+1)) (a:=.cons (.var 8) (.cons (.var 9) .nil)) (e:=Fd) (ρ:=gH B l r t m c d cR dD gY aD) (h:=h) (h1:=h) (x:=.tup [.ref c,.ref d]) (ow:=2) (ix:=[6]) (t:=.many [0,1]) (kd:=.zip) (n:=s.1.length) (f:=f3) (aJ (aG rfl) (aJ (aG rfl) bT)) (by lia) (λρ=>∃x y,ρ=[x,y,aC (.tup B.dr)]) ⟨_,_,rfl⟩
  (λi hi ρ hP=>by
    obtain⟨x,y,rfl⟩:=hP;have hx:=eN hi;have ox:=O.tG _ (i9 hx);have ef:f3 i=nj B s.1[i]:=by show(match s.1[i]? with|some x=>nj B x|none=>.aO)=_;rw[hx]
    generalize s.1[i]=q at hx ox ef;refine⟨.tup [.int q.c,dj q],[aC (.int q.c),aC (dj q),aC (.tup B.dr)],zip2 (x:=.int q.c) (y:=dj q) S.gc S.gd (by rw[gp,hx];rfl) (by rw[gp,hx];rfl),rfl,?_,_,_,rfl⟩;rw[ef];unfold Fd nj;have ec:ev (run F (k+1)) (.cmp .oF (.var 1) (.cst .aO)) [aC (.int q.c),aC (dj q),aC (.tup B.dr)] h=.ok (.bl q.s) h:=by rw[ev,aG (x:=dj q) rfl,aE,aV,aE];unfold dj;cases q.s<;>rfl
    rw[ev,ec,aE];cases z:q.s with|true=>exact aV|false=>exact bN (x:=.tup B.dr) (y:=.int q.c) (aG rfl) (aG rfl) (b.door ox.c0 ox.c1).1)
  (CL S.gc S.gd (nI (by rw[bA];exact aQ _)))
 rw[CJ (g:=nj B) (λi x hx=>by show(match s.1[i]? with|some x=>nj B x|none=>.aO)=_;rw[hx])]at e3;let h1:=h.new (.lst (s.1.map (nj B)));let bC:En:=gH B l r t m c d cR dD gY (aC (.ref h.n));have g1:h1.get h.n=aC (.lst (s.1.map (nj B))):=fm;let f4:Nat->W:=λi=>match s.1[i]? with|some x=>gJ B x|none=>.aO
 have e4:=yN (cl:=run F (k+1)) (a:=.var 13) (e:=Jp) (ρ:=bC) (h:=h1) (h1:=h1) (x:=.ref h.n) (ow:=1) (ix:=[]) (t:=.one 0) (kd:=.seq) (n:=s.1.length) (f:=f4) (aG rfl) (by lia) (λρ=>∃x,ρ=[x]) ⟨_,rfl⟩
  (λi hi ρ hP=>by
    obtain⟨x,rfl⟩:=hP;have hx:=eN hi;have ox:=O.tG _ (i9 hx);have ef:f4 i=gJ B s.1[i]:=by show(match s.1[i]? with|some x=>gJ B x|none=>.aO)=_;rw[hx]
    generalize s.1[i]=q at hx ox ef;obtain⟨y,ey⟩:=zxk b ox;refine⟨nj B q,[aC (nj B q)],by rw[qm g1,gp,hx];rfl,rfl,?_,_,rfl⟩;rw[ef,ey];exact bN (x:=.tup [gJ B q,y]) (y:=.int 0) (aG rfl) aV rfl)
  (by rw[qm g1,nI (by rw[bA];exact aQ _)])
 rw[CJ (g:=gJ B) (λi x hx=>by show(match s.1[i]? with|some x=>gJ B x|none=>.aO)=_;rw[hx])]at e4;let h2:=h1.new (.lst (s.1.map (gJ B)));have e5:=FP e4 (xw fm);have gm:h2.get m=aC (.lst (s.2.map .int)):=by have lm:=bQ S.gm;rw[fU (qq lm),fU lm];exact S.gm
 have e6:ev (run F (k+1)) (.bi .tuple (.cons (.var 7) .nil)) bC h2=.ok (iW s.2) h2:=FP (x:=.ref m) (aG rfl) (xw gm);refine⟨h2,?_,Gm.new (Gm.new Gm.refl)⟩;exact(bD (di e3)).trans (kC (gT (Cy (aJ e5 (aJ e6 bT)) rfl)))
end
section
variable{F:Nat->Option Fn}(C:xB F)
theorem CM{r:List Nat}{B:Bd}(hf:∀f∈r,f<B.fd.length){i:Nat}(hi:i<r.length):r[i]<B.fd.length:=hf _ (iG hi)
theorem zxl{cl:Call}{B:Bd}{r:List Nat}{ρ:En}{h:VH}{a:E}{ix:List Nat}(b:B.Ok)(hr:r.length<=200)(hf:∀f∈r,f<B.fd.length)(ea:ev cl a ρ h=.ok (.tup (aS r)) h)(hix:inner 1 ix ρ=[aD,aC (.tup B.fd)]) :
 ev cl (.lc .seq a (.one 0) 1 ix (.cst (.bl true)) Jm) ρ h=.ok (.ref h.n) (h.new (.lst (r.map λf=>W.int (B.col f)))):=by
 let f:Nat->W:=λi=>match r[i]? with|some x=>W.int (B.col x)|none=>W.aO
 have e:=yN (cl:=cl) (a:=a) (e:=Jm) (ρ:=ρ) (h:=h) (h1:=h) (x:=.tup (aS r)) (ow:=1) (ix:=ix) (t:=.one 0) (kd:=.seq) (n:=r.length) (f:=f) ea (by lia) (λρ=>∃x,ρ=[x,aC (.tup B.fd)]) ⟨aD,hix⟩
  (λi hi ρ hP=>by
    obtain⟨x,rfl⟩:=hP;have hx:=eN hi;refine⟨.int (r[i]:Nat),[aC (.int (r[i]:Nat)),aC (.tup B.fd)],?_,rfl,?_,_,rfl⟩;show aC (aS r)[i]?=_;unfold aS;rw[gp,hx];rfl;show _=Res.ok (match r[i]? with|some x=>W.int (B.col x)|none=>W.aO) h;rw[hx];exact bN (x:=.tup B.fd) (y:=.int (r[i]:Nat)) (aG rfl) (aG rfl) (jx (b.col (CM hf hi)).1))
  (by show aC (aS r)[r.length]?=_;unfold aS;rw[nI (by rw[bA];exact aQ _)])
 rw[CJ (g:=λx=>W.int (B.col x)) (λi x hx=>by show(match r[i]? with|some x=>W.int (B.col x)|none=>W.aO)=_;rw[hx])]at e;exact e
theorem ztd{cl:Call}{r:List Nat}{ρ:En}{h:VH}{a:E}(hr:r.length<=200)(ea:ev cl a ρ h=.ok (.tup (aS r)) h) :
 ev cl (.lc .seq a (.one 0) 1 [] (.cst (.bl true)) Jo) ρ h=.ok (.ref h.n) (h.new (.lst (r.map λ_=>W.int 0))):=by
 have e:=yN (cl:=cl) (a:=a) (e:=Jo) (ρ:=ρ) (h:=h) (h1:=h) (x:=.tup (aS r)) (ow:=1) (ix:=[]) (t:=.one 0) (kd:=.seq) (n:=r.length) (f:=λ_=>.int 0) ea (by lia) (λρ=>∃x,ρ=[x]) ⟨aD,rfl⟩
  (λi hi ρ hP=>by
    obtain⟨x,rfl⟩:=hP;have hx:=eN hi;refine⟨.int (r[i]:Nat),[aC (.int (r[i]:Nat))],?_,rfl,aV,_,rfl⟩;show aC (aS r)[i]?=_;unfold aS;rw[gp,hx];rfl)
  (by show aC (aS r)[r.length]?=_;unfold aS;rw[nI (by rw[bA];exact aQ _)])
 rw[CJ (g:=λ_=>W.int 0) (λi x hx=>rfl)]at e;exact e
theorem pN{cl:Call}{e:E}{ρ:En}{h h1:VH}{t:Bool}(ee:ev cl e ρ h=.ok (.bl t) h1):ev cl (.not (.jh e)) ρ h=.ok (.bl (!t)) h1:=by rw[ev,ev,ee,aE];rfl
include C
theorem zte{k g:Nat}{B:Bd}{h:VH}{r:List Nat}{ls:List Int}{bt:Int}(b:B.Ok)(hg:B.gr=g)(hr:r.length<=200)(hf:∀f∈r,f<B.fd.length)(hl:ls.length=g)(bi:eX ls)(b0:1<=bt)(b1:bt<=100) :
 run F (k+10) 270 [B.w,iW ls,.tup (aS r),.int bt] h=.ok (.tup [.tup ((bJ B.rows (fZ B r ls) (fy r.length B.rows.length bt)).1.map (gJ B)),iW (bJ B.rows (fZ B r ls) (fy r.length B.rows.length bt)).2]) h:=by
 let k0:VH:=⟨h.n,h.n,h.os⟩
 let cl:=run F (k+9);have O:=pM b hf hl bi;have hlen:r.length=(fZ B r ls).1.length:=O.len.symm;have hn:(fZ B r ls).1.length<=200:=by rw[<-hlen];exact hr
 rw[hlen]at O ⊢;let row:W:=.tup (aS r);let pO:En:=[aC B.w,aC (iW ls),aC row,aC (.int bt),aD,aD,aD,aD,aD,aD,aD,aD,aD,aD]
 let bC (x7 x8 x9:Option W):En:=[aC B.w,aC (iW ls),aC row,aC (.int bt),aC (.tup (B.rows.map .tup)),aC (.tup B.fd),aC (.tup B.dr),x7,x8,x9,aD,aD,aD,aD]
 have e1:exs cl (.expr (.call 24 (.cons (.var 0) (.cons (.var 1) .nil)))) pO k0=.ok (.nx pO) k0:=by rw[exs,nD (x:=B.w) (y:=iW ls) (aG rfl) (aG rfl) (ZY C.b C.J0 C.J4 C.J5 (k:=k) b (by rw[hl,hg]) bi),aE]
 have e2:exs cl (.A9 [4,5,6] (.slc (.var 0) true (.cst (.int (2))) false (.cst .aO))) pO k0=.ok (.nx (bC aD aD aD)) k0:=by rw[exs,Cv (x:=B.w) (l:=.int 2) (u:=.aO) (w:=.tup [.tup (B.rows.map .tup),.tup B.fd,.tup B.dr]) (aG rfl) aV aV rfl rfl rfl,aE];rfl
 have xC:(aS r).length=r.length:=by unfold aS;rw[bA]
 have c3:=pN (fY (ys:=[row,.int (B.fd.length:Int),.int 200]) (aJ (aG (cl:=cl) (i:=2) (ρ:=bC aD aD aD) (h:=k0) rfl) (aJ (jr (a:=.var 5) (ws:=B.fd) (aG rfl) rfl) (aJ aV bT))) (zoz C.b.toCoreA C.Ks (k:=k+5) (h:=k0) hr (λf hm=>by have:=hf f hm;lia)));have c4:=pN (fY (ys:=[.int bt,.int 1,.int 100]) (aJ (aG (cl:=cl) (i:=3) (ρ:=bC aD aD aD) (h:=k0) rfl) (aJ aV (aJ aV bT))) (uR C.b.toCoreA (k:=k+7) (h:=k0) (w:=.int bt) (lo:=1) (hi:=100) (by unfold Kn;simp)));rw[show within (.int bt) 1 100=true by simp only[within,bG,fL];exact⟨b0,b1⟩]at c4;let h1:=k0.new (.lst (ls.map .int));have e5:ev cl (.bi .list (.cons (.var 1) .nil)) (bC aD aD aD) k0=.ok (.ref k0.n) h1:=uT (x:=iW ls) (aG rfl) rfl;let h2:=h1.new (.lst (r.map λf=>.int (B.col f)));have e6:=zxl (cl:=cl) (a:=.var 2) (ix:=[5]) (ρ:=bC (aC (.ref k0.n)) aD aD) (h:=h1) b hr hf (aG rfl) rfl;let h3:=h2.new (.lst (r.map λ_=>W.int 0));have e7:=ztd (cl:=cl) (a:=.var 2) (ρ:=bC (aC (.ref k0.n)) (aC (.ref h1.n)) aD) (h:=h2) hr (aG rfl);let ql:En:=gH B (iW ls) row (.int bt) k0.n h1.n h2.n aD aD aD aD;obtain⟨j,h4,e8,g4,G4,l4⟩:=zta C.xA (k:=k+8) (nb:=(fZ B r ls).1.length) (nr:=B.rows.length) (bt:=bt) (h:=h3) hn b.r1;have eL2:ev cl (.bi .len (.cons (.var 2) .nil)) ql h3=.ok (.int ((fZ B r ls).1.length:Int)) h3:=by have:=jr (cl:=cl) (a:=.var 2) (ρ:=ql) (h:=h3) (h1:=h3) (x:=row) (ws:=aS r) (aG rfl) rfl;rw[xC,hlen]at this;exact this
 have eL4:ev cl (.bi .len (.cons (.var 4) .nil)) ql h3=.ok (.int (B.rows.length:Int)) h3:=by have:=jr (cl:=cl) (a:=.var 4) (ρ:=ql) (h:=h3) (h1:=h3) (x:=.tup (B.rows.map .tup)) (ws:=B.rows.map .tup) (aG rfl) rfl;rw[bA]at this;exact this
 have ea:=fY (ys:=[.int ((fZ B r ls).1.length:Int),.int (B.rows.length:Int),.int bt]) (aJ eL2 (aJ eL4 (aJ (aG (cl:=cl) (i:=3) (ρ:=ql) (h:=h3) rfl) bT))) e8;have n1:h1.n=h.n+1:=rfl;have n2:h2.n=h.n+2:=rfl;have n3:h3.n=h.n+3:=rfl;have n0:k0.n=h.n:=rfl;have gm:h3.get k0.n=aC (.lst (ls.map .int)):=by rw[fU (by lia),fU (by lia)];exact fm
 have gc:h3.get h1.n=aC (.lst (r.map λf=>.int (B.col f))):=by rw[fU (by lia)];exact fm
 have gd:h3.get h2.n=aC (.lst (r.map λ_=>W.int 0)):=fm;have S:uV k0 h4 k0.n h1.n h2.n j ((fy (fZ B r ls).1.length B.rows.length bt).map iW) (fZ B r ls):=by refine⟨?_,?_,?_,aQ _,by lia,by lia,by lia,by lia,by lia,g4,by lia,by lia,by lia,(Gm.new (Gm.new (Gm.new Gm.refl))).trans G4⟩;rw[G4.get _ (by lia)];exact gm;rw[G4.get _ (by lia),gc];unfold fZ;rw[xR];rfl;rw[G4.get _ (by lia),gd];unfold fZ;rw[xR];rfl
 obtain⟨h5,cR,dD,gY,e9,S5,O5⟩:=ztb C (k:=k+8) (l:=iW ls) (r:=row) (t:=.int bt) b hg hn O ea S;obtain⟨h6,ID,G6⟩:=ztc (F:=F) (k:=k+8) (l:=iW ls) (r:=row) (t:=.int bt) (cR:=cR) (dD:=dD) (gY:=gY) b (by rw[O5.len];exact hn) (by rw[O5.len];exact O5) S5;rw[eE C.Ku rfl];have eb:exs cl lU.body pO k0=.ok (.rt (.tup [.tup ((bJ B.rows (fZ B r ls) (fy (fZ B r ls).1.length B.rows.length bt)).1.map (gJ B)),iW (bJ B.rows (fZ B r ls) (fy (fZ B r ls).1.length B.rows.length bt)).2])) h6:=by refine(bD e1).trans ?_;refine(bD e2).trans ?_;refine(bD (ρ':=bC aD aD aD) (h':=k0) ((k6 c3).trans (by rw[exs]))).trans ?_;refine(bD (ρ':=bC aD aD aD) (h':=k0) ((k6 c4).trans (by rw[exs]))).trans ?_;refine(bD (di e5)).trans ?_;refine(bD (di e6)).trans ?_;refine(bD (di e7)).trans ?_;refine(bD e9).trans ?_;exact ID
 show fin h (exs cl lU.body pO k0)=_;rw[eb];refine ZL (Pv.tup λw hw=>?_) (S5.G.trans G6);rcases gy.mp hw with rfl|hw
 refine Pv.tup λw hw=>?_;obtain⟨x,hx,rfl⟩:=jv.mp hw;rcases Q8 b (O5.tG x hx)with e|⟨a,e⟩
 rw[e];exact λn=>rfl;rw[e];exact Pv.int;rw[pS.mp hw];refine Pv.tup λw hw=>?_;obtain⟨x,hx,rfl⟩:=jv.mp hw;exact Pv.int
end
structure xD(F:Nat->Option Fn):Prop where
 ni:F 158=aC fX
 Kv:F 142=aC pq
section
variable{F:Nat->Option Fn}
theorem zo0{cl:Call}{B:Bd}{r:List Nat}{ρ:En}{h:VH}{a:E}(b:B.Ok)(hr:r.length<=200)(hf:∀f∈r,f<B.fd.length)(ea:ev cl a ρ h=.ok (.tup (aS r)) h)(hix:inner 1 [0] ρ=[aD,aC B.w]) :
 ∃(rs:List Nat) (h':VH),ev cl (.lc .seq a (.one 0) 1 [0] (.cst (.bl true)) Fe) ρ h=.ok (.ref h'.n) (h'.new (.lst (rs.map .ref)))/\rs.length=r.length/\
  (∀(i q f:Nat),rs[i]?=aC q->r[i]?=aC f->h'.get q=aC (.lst (gP ⟨B.col f,0,false⟩)))/\rs.Nodup/\(∀q∈rs,h.n<=q/\q<h'.n)/\Gm h h':=by
 obtain⟨ys,ρ',h',e1,hI⟩:=JV (nx:=bf .seq (.tup (aS r))) (tg:=bx (.one 0)) (e:=ev cl Fe) (n:=r.length)
  (I:=λi ρ h2 acc=>(∃x,ρ=[x,aC B.w])/\∃rs:List Nat,acc=rs.map W.ref/\rs.length=i/\
    (∀(p q f:Nat),rs[p]?=aC q->r[p]?=aC f->h2.get q=aC (.lst (gP ⟨B.col f,0,false⟩)))/\rs.Nodup/\(∀q∈rs,h.n<=q/\q<h2.n)/\Gm h h2)
  (λi ρ h2 acc hi hI=>by
    obtain⟨⟨x,rfl⟩,rs,rfl,hl,at_,nd,lq,G⟩:=hI;have hx:=eN hi;have Q9:=CM hf hi;generalize r[i]=f at hx Q9;let w:W:=.int (f:Int);let bC:En:=[aC w,aC B.w]
    have e2:ev cl Fe bC h2=.ok (.ref h2.n) (h2.new (.lst (gP ⟨B.col f,0,false⟩))):=by refine fS (ys:=[.int (B.col f),.int 0,.bl false]) (aJ (bN (x:=.tup B.fd) (y:=w) (bN (x:=B.w) (y:=.int 3) (aG rfl) aV rfl) (aG rfl) (jx (b.col Q9).1)) (aJ aV (aJ aV bT))) rfl
    refine⟨w,bC,.ref h2.n,_,?_,rfl,e2,⟨_,rfl⟩,rs++[h2.n],?_,?_,?_,?_,?_,G.new⟩;show aC (aS r)[i]?=_;unfold aS;rw[gp,hx];rfl;rw[tT];rfl;rw[eZ,hl];rfl;intro p q f' h1 h3;by_cases z:p<rs.length;rw[tR z]at h1;have:=at_ p q f' h1 h3;rw[fU (bQ this)];exact this;have hp:p=rs.length:=by have:=(jD.mp h1).1;rw[eZ,Dn]at this;lia
    subst hp;rw[qw (aQ _),Nat.sub_self]at h1;cases h1;rw[hl,hx]at h3;cases h3;exact fm;rw[List.nodup_append];refine⟨nd,vh.mpr ⟨Dr,List.nodup_nil⟩,λa ha c hc=>?_⟩;rw[pS.mp hc];have:=(lq a ha).2;lia;intro q hq;show h.n<=q/\q<h2.n+1;have hg:=G.le;rcases lZ.mp hq with hq|hq
    have:=lq q hq;lia;rw[pS.mp hq];lia)
  (λρ h2 acc hI=>by show aC (aS r)[r.length]?=_;unfold aS;rw[nI (by rw[bA];exact aQ _)])
  (ρ:=inner 1 [0] ρ) (h:=h) (by lia) ⟨⟨aD,hix⟩,[],rfl,rfl,(λp q f h1 _=>by cases h1),List.nodup_nil,(λq hq=>by cases hq),Gm.refl⟩
 obtain⟨_,rs,rfl,hl,at_,nd,lq,G⟩:=hI;exact⟨rs,h',JW ea e1 (by rw[bA,hl];lia),hl,at_,nd,lq,G⟩
theorem zo1{cl:Call}{B:Bd}{r:List Nat}{h:VH}{m L q0:Nat}{bt:Int}(b:B.Ok)(hr:r.length<=200)(g0:h.get q0=aC (.lst [])) :
 ∃(q:Nat) (x7:Option W) (h':VH),exs cl (.«for» .bg (.cons (.bi .len (.cons (.var 2) .nil)) .nil) (.one 7) Jq) (cK B (.tup (aS r)) (.int bt) m L (aC (.ref q0)) aD aD aD aD aD aD) h=.ok (.nx (cK B (.tup (aS r)) (.int bt) m L (aC (.ref q)) x7 aD aD aD aD aD)) h'/\
  h'.get q=aC (.lst ((iL r.length B.rows.length bt).map iW))/\Gm h h':=by
 have b1:=b.r1;have xC:(aS r).length=r.length:=by unfold aS;rw[bA]
 obtain⟨ρ',h',e1,hI⟩:=yK (nx:=bf .bg (.tup [.int (r.length:Int)])) (tg:=bx (.one 7)) (b:=exs cl Jq) (n:=r.length)
  (I:=λi ρ h2=>∃q x7,ρ=cK B (.tup (aS r)) (.int bt) m L (aC (.ref q)) x7 aD aD aD aD aD/\h2.get q=aC (.lst ((iL i B.rows.length bt).map iW))/\Gm h h2)
  (λi ρ h2 hi hI=>by
    obtain⟨q,x7,rfl,g,G⟩:=hI;let bC:En:=cK B (.tup (aS r)) (.int bt) m L (aC (.ref q)) (aC (.int (i:Int))) aD aD aD aD aD;have eL:ev cl (.cons (.bi .len (.cons (.var 4) .nil)) .nil) bC h2=.ok (.tup [.int (B.rows.length:Int)]) h2:=by have:=jr (cl:=cl) (a:=.var 4) (ρ:=bC) (h:=h2) (h1:=h2) (x:=.tup (B.rows.map .tup)) (ws:=B.rows.map .tup) (aG rfl) rfl;rw[bA]at this;exact aJ this bT
    have e2:=yN (cl:=cl) (a:=.cons (.bi .len (.cons (.var 4) .nil)) .nil) (e:=Qj) (ρ:=bC) (h:=h2) (h1:=h2) (x:=.tup [.int (B.rows.length:Int)]) (ow:=1) (ix:=[3,7]) (t:=.one 0) (kd:=.bg) (n:=B.rows.length) (f:=λd=>iW [(i:Int)*bt+ (d:Int),(i:Int),(d:Int)]) eL (by lia) (λρ=>∃x,ρ=[x,aC (.int bt),aC (.int (i:Int))]) ⟨aD,rfl⟩
     (λd hd ρ hP=>by
       obtain⟨x,rfl⟩:=hP;exact⟨.int (d:Int),[aC (.int (d:Int)),aC (.int bt),aC (.int (i:Int))],by rw[tD (by lia),if_pos hd],rfl,Q7 (ib:=2) (FY:=1) (CI:=0) (by lia) (by lia) rfl rfl rfl,_,rfl⟩)
     (by rw[tD (by lia),if_neg (i8 _)])
    have hz:∀n,n<=r.length->n*B.rows.length<=12000:=λn hn=>gZ (Di (gZ hn hr) b1) (by decide);have e3:=tB (cl:=cl) (o:=.add) (a:=.var 6) (ρ:=bC) (x:=.ref q) (aG rfl) e2 (Cz (h:=h2.new _) ((fU (bQ g)).trans g) fm (by
     rw[bA,J6,bA,vg];have:=hz i (by lia);lia))
    refine⟨.int (i:Int),bC,cK B (.tup (aS r)) (.int bt) m L (aC (.ref (h2.n+1))) (aC (.int (i:Int))) aD aD aD aD aD,_,by rw[tD (by lia),if_pos hi],rfl,(bD (di e3)).trans (by rw[exs];rfl),_,_,rfl,?_,G.new.new⟩;rw[Z2,tT,xR];exact fm)
  (λρ h2 hI=>by rw[tD (by lia),if_neg (i8 _)])
  r.length 0 fuel (cK B (.tup (aS r)) (.int bt) m L (aC (.ref q0)) aD aD aD aD aD aD) h (nu _) (show _<1000000 by lia) ⟨q0,aD,rfl,g0,Gm.refl⟩
 obtain⟨q,x7,rfl,g,G⟩:=hI;refine⟨q,x7,h',(j6 (x:=.tup [.int (r.length:Int)]) ?_).trans e1,g,G⟩;have:=jr (cl:=cl) (a:=.var 2) (ρ:=cK B (.tup (aS r)) (.int bt) m L (aC (.ref q0)) aD aD aD aD aD aD) (h:=h) (h1:=h) (x:=.tup (aS r)) (ws:=aS r) (aG rfl) rfl;rw[xC]at this;exact aJ this bT
theorem ztf(C:xD F){k m L j g:Nat}{B:Bd}{k0 h h1:VH}{s:List eG×List Int}{rs:List Nat}{r t:W}{a:E}{bt:Int}{x6 x7:Option W}(b:B.Ok)(hg:B.gr=g)(hn:s.1.length<=200)(O:eK B.wd s.1.length g s)
 (ea:ev (run F (k+1)) a (cK B r t m L x6 x7 aD aD aD aD aD) h1=.ok (.ref j) h) (S:SL k0 h m L j ((fy s.1.length B.rows.length bt).map iW) rs s) :
 ∃h2 y7 x8 x9 cR dD,exs (run F (k+1)) (.«for» .seq a (.many [9,7,8]) wZ) (cK B r t m L x6 x7 aD aD aD aD aD) h1=.ok (.nx (cK B r t m L x6 y7 x8 x9 cR dD aD)) h2/\
  SL k0 h2 m L j ((fy s.1.length B.rows.length bt).map iW) rs (bJ B.rows s (fy s.1.length B.rows.length bt))/\eK B.wd s.1.length g (bJ B.rows s (fy s.1.length B.rows.length bt)):=by
 have b1:=b.r1;have fu:fuel=1000000:=rfl;let T:=fy s.1.length B.rows.length bt;have hT:T.length<=12000:=by show(fy _ _ _).length<=_;rw[QZ];exact gZ (Di hn b1) (by decide)
 obtain⟨ρ',h',e1,hI⟩:=yK (nx:=bf .seq (.ref j)) (tg:=bx (.many [9,7,8])) (b:=exs (run F (k+1)) wZ) (n:=T.length)
  (I:=λi ρ h2=>(∃y7 x8 x9 cR dD,ρ=cK B r t m L x6 y7 x8 x9 cR dD aD)/\SL k0 h2 m L j (T.map iW) rs (bJ B.rows s (T.take i))/\eK B.wd s.1.length g (bJ B.rows s (T.take i)))
  (λi ρ h2 hi hI=>by
    obtain⟨⟨y7,x8,x9,cR,dD,rfl⟩,S,O⟩:=hI;have hx:=eN hi;obtain⟨p,q,hp,hq,ek⟩:=J7 (i9 hx);rw[ek]at hx;have O':eK B.wd (bJ B.rows s (T.take i)).1.length g (bJ B.rows s (T.take i)):=by rw[O.len];exact O
    obtain⟨h3,yM,uW,e3,S3⟩:=Z9 C.ni (k:=k) (b:=p) (p:=q) (r:=r) (t:=t) (x6:=x6) (x9:=aC (.int ((p:Int)*bt+ (q:Int)))) (cR:=cR) (dD:=dD) (gY:=aD) b hg (by rw[O.len];exact hp) hq O' S ((p:Int)*bt+ (q:Int));have O3:=J9 (t:=(p:Int)*bt+ (q:Int)) (rs:=B.rows) (by rw[<-hg];exact b.r2) hp hq O;refine⟨iW [(p:Int)*bt+ (q:Int),(p:Int),(q:Int)],cK B r t m L x6 (aC (.int (p:Int))) (aC (.int (q:Int))) (aC (.int ((p:Int)*bt+ (q:Int)))) cR dD aD,_,h3,?_,rfl,e3,⟨_,_,_,_,_,rfl⟩,?_,?_⟩;rw[qm S.gj,gp,hx];rfl;rw[FQ hx];exact S3;rw[FQ hx];exact O3)
  (λρ h2 hI=>by
    obtain⟨_,S,_⟩:=hI;rw[qm S.gj,nI (by rw[bA];exact aQ _)])
  T.length 0 fuel (cK B r t m L x6 x7 aD aD aD aD aD) h (nu _) (by lia) ⟨⟨_,_,_,_,_,rfl⟩,S,O⟩
 obtain⟨⟨y7,x8,x9,cR,dD,rfl⟩,S',O'⟩:=hI;rw[y9]at S' O';exact⟨h',y7,x8,x9,cR,dD,(j6 ea).trans e1,S',O'⟩
theorem ztg{cl:Call}{m L j g:Nat}{B:Bd}{k0 h:VH}{s:List eG×List Int}{rs:List Nat}{r t:W}{ks:List W}{x6 x7 x8 x9 cR dD:Option W}(b:B.Ok)(hn:s.1.length<=200)(O:eK B.wd s.1.length g s)(S:SL k0 h m L j ks rs s) :
 ∃h2,exs cl (.seq (.set 12 (.lc .seq (.var 5) (.one 0) 1 [0] (.cst (.bl true)) Ff)) (.seq (.ret (.lst (.cons (.var 12) (.cons (.bi .tuple (.cons (.var 1) .nil)) .nil)))) .skip)) (cK B r t m L x6 x7 x8 x9 cR dD aD) h=.ok (.rt (.ref (h.n+1))) h2/\h2.get (h.n+1)=aC (.lst [.ref h.n,iW s.2])/\h2.get h.n=aC (.lst (s.1.map (gJ B)))/\Gm h h2:=by
 let f4:Nat->W:=λi=>match s.1[i]? with|some x=>gJ B x|none=>.aO
 have e4:=yN (cl:=cl) (a:=.var 5) (e:=Ff) (ρ:=cK B r t m L x6 x7 x8 x9 cR dD aD) (h:=h) (h1:=h) (x:=.ref L) (ow:=1) (ix:=[0]) (t:=.one 0) (kd:=.seq) (n:=s.1.length) (f:=f4) (aG rfl) (by lia) (λρ=>∃x,ρ=[x,aC B.w]) ⟨_,rfl⟩
  (λi hi ρ hP=>by
    obtain⟨x,rfl⟩:=hP;have hx:=eN hi;have ox:=O.tG _ (i9 hx);have hri:i<rs.length:=by rw[S.len];exact hi
    have hr:=eN hri;have gq:=S.at_ i _ _ hr hx;have ef:f4 i=gJ B s.1[i]:=by show(match s.1[i]? with|some x=>gJ B x|none=>.aO)=_;rw[hx]
    generalize s.1[i]=q at hx ox ef gq;generalize rs[i]=a at hr gq;let bC:En:=[aC (.ref a),aC B.w]
    refine⟨.ref a,bC,by rw[qm S.gL,gp,hr];rfl,rfl,?_,_,rfl⟩;rw[ef];have ec:ev cl (.jh (.idx (.var 0) (.cst (.int (2))))) bC h=.ok (.bl q.s) h:=by rw[ev,bN (x:=.ref a) (y:=.int 2) (z:=.bl q.s) (aG rfl) aV (by simp only[bS,gq];rfl),aE];rfl
    unfold Ff;rw[ev,ec,aE];cases z:q.s with
    |true=>unfold gJ;rw[z];exact aV
    |false=>
     obtain⟨c,y,e,en⟩:=Kr b ox z;rw[en];exact bN (x:=.tup [.int c,y]) (y:=.int 0) (bN (x:=.tup B.dr) (y:=.int q.c) (bN (x:=B.w) (y:=.int 4) (aG rfl) aV rfl) (bN (x:=.ref a) (y:=.int 0) (aG rfl) aV (by simp only[bS,gq];rfl)) (by rw[<-e];exact(b.door ox.c0 ox.c1).1)) aV rfl)
  (by rw[qm S.gL,nI (by rw[bA,S.len];exact aQ _)])
 rw[CJ (g:=gJ B) (λi x hx=>by show(match s.1[i]? with|some x=>gJ B x|none=>.aO)=_;rw[hx])]at e4;let h1:=h.new (.lst (s.1.map (gJ B)));have gm:h1.get m=aC (.lst (s.2.map .int)):=by rw[fU (bQ S.gm)];exact S.gm
 have e6:ev cl (.bi .tuple (.cons (.var 1) .nil)) (cK B r t m L x6 x7 x8 x9 cR dD (aC (.ref h.n))) h1=.ok (iW s.2) h1:=FP (x:=.ref m) (aG rfl) (xw gm);let h2:=h1.new (.lst [.ref h.n,iW s.2]);refine⟨h2,(bD (di e4)).trans (kC (gT (fS (ys:=[.ref h.n,iW s.2]) (aJ (aG rfl) (aJ e6 bT)) rfl))),fm,?_,Gm.new (Gm.new Gm.refl)⟩;rw[fU (jA _)];exact fm
theorem zth(C:xD F){k g:Nat}{B:Bd}{h:VH}{r:List Nat}{ls:List Int}{bt:Int}(b:B.Ok)(hg:B.gr=g)(hr:r.length<=200)(hf:∀f∈r,f<B.fd.length)(hl:ls.length=g)(bi:eX ls) :
 ∃j nL h',run F (k+2) 142 [B.w,iW ls,.tup (aS r),.int bt] h=.ok (.ref j) h'/\h'.get j=aC (.lst [.ref nL,iW (bJ B.rows (fZ B r ls) (fy r.length B.rows.length bt)).2])/\h'.get nL=aC (.lst ((bJ B.rows (fZ B r ls) (fy r.length B.rows.length bt)).1.map (gJ B)))/\Gm h h'/\h.n<=j/\h.n<=nL/\
  (bJ B.rows (fZ B r ls) (fy r.length B.rows.length bt)).1.length=r.length/\∀x∈(bJ B.rows (fZ B r ls) (fy r.length B.rows.length bt)).1,gO B.wd x:=by
 let k0:VH:=⟨h.n,h.n,h.os⟩
 let cl:=run F (k+1);have O:=pM b hf hl bi;have hlen:r.length=(fZ B r ls).1.length:=O.len.symm;have hn:(fZ B r ls).1.length<=200:=by rw[<-hlen];exact hr
 let row:W:=.tup (aS r);let pO (m:W) (x4 x5 x6:Option W):En:=[aC B.w,aC m,aC row,aC (.int bt),x4,x5,x6,aD,aD,aD,aD,aD,aD]
 let rows:W:=.tup (B.rows.map .tup);have e1:ev cl (.idx (.var 0) (.cst (.int (2)))) (pO (iW ls) aD aD aD) k0=.ok rows k0:=bN (x:=B.w) (y:=.int 2) (aG rfl) aV rfl;let h1:=k0.new (.lst (ls.map .int));have e2:ev cl (.bi .list (.cons (.var 1) .nil)) (pO (iW ls) (aC rows) aD aD) k0=.ok (.ref k0.n) h1:=uT (x:=iW ls) (aG rfl) rfl;obtain⟨rs,h2,e3,len,at_,nd,lq,G2⟩:=zo0 (cl:=cl) (a:=.var 2) (ρ:=pO (.ref k0.n) (aC rows) aD aD) (h:=h1) b hr hf (aG rfl) rfl;let h3:=h2.new (.lst (rs.map .ref));let h4:=h3.new (.lst []);have e4:ev cl (.lst .nil) (pO (.ref k0.n) (aC rows) (aC (.ref h2.n)) aD) h3=.ok (.ref h3.n) h4:=fS bT rfl;obtain⟨q,x7,h5,e5,g5,G5⟩:=zo1 (cl:=cl) (h:=h4) (m:=k0.n) (L:=h2.n) (bt:=bt) b hr (show h4.get h3.n=aC (.lst [])from fm);rw[hlen]at g5 O ⊢;have e6:=CA (cl:=cl) (a:=.var 6) (ρ:=cK B row (.int bt) k0.n h2.n (aC (.ref q)) x7 aD aD aD aD aD) (h:=h5) (aG rfl) g5;let h6:=h5.new (.lst ((fy (fZ B r ls).1.length B.rows.length bt).map iW));have n0:k0.n=h.n:=rfl;have n1:h1.n=h.n+1:=rfl;have n3:h3.n=h2.n+1:=rfl;have n4:h4.n=h2.n+2:=rfl;have l2:=G2.le;have l5:=G5.le;have up:∀{i:Nat}{o:VO},h2.get i=aC o->h6.get i=aC o:=λ{i o} e=>by
  have:=bQ e;rw[fU (by lia),G5.get _ (by lia),fU (by lia),fU (by lia)];exact e
 have g1:h2.get k0.n=aC (.lst (ls.map .int)):=by rw[G2.get _ (by lia)];exact fm
 have S:SL k0 h6 k0.n h2.n h5.n ((fy (fZ B r ls).1.length B.rows.length bt).map iW) rs (fZ B r ls):=by
  refine⟨up g1,?_,by rw[<-hlen];exact len,λi a x e1 e2=>?_,nd,aQ _,by lia,λa ha=>?_,λa ha=>?_,λa ha=>?_,by lia,fm,by lia,λa ha=>?_,(((Gm.new Gm.refl).trans G2).new.new.trans G5).new⟩;rw[fU (by lia),G5.get _ (by lia),fU (by lia)];exact fm;unfold fZ at e2;rw[gp]at e2;cases z:r[i]? with
  |none=>rw[z]at e2;cases e2
  |some f=>
   rw[z]at e2;cases e2;exact up (at_ i a f e1 z)
  have:=lq a ha;lia;have:=lq a ha;lia;have:=lq a ha;lia;have:=lq a ha;lia
 obtain⟨h7,y7,x8,x9,cR,dD,e7,S7,O7⟩:=ztf C (k:=k) b hg hn O e6 S;obtain⟨h8,e8,g8,gn8,G8⟩:=ztg (cl:=cl) (r:=row) (t:=.int bt) (x6:=aC (.ref q)) (x7:=y7) (x8:=x8) (x9:=x9) (cR:=cR) (dD:=dD) b (by rw[O7.len];exact hn) (by rw[O7.len];exact O7) S7;have l7:=S7.G.le;have eb:exs cl pq.body (pO (iW ls) aD aD aD) k0=.ok (.rt (.ref (h7.n+1))) h8:=by refine(bD (di e1)).trans ?_;refine(bD (di e2)).trans ?_;refine(bD (di e3)).trans ?_;refine(bD (di e4)).trans ?_;refine(bD e5).trans ?_;refine(bD e7).trans ?_;exact e8
 obtain⟨h9,e9,G9,g9⟩:=QU (h:=h) (h':=h8) (w:=.ref (h7.n+1)) (QT (by lia)) (S7.G.trans G8);refine⟨h7.n+1,h7.n,h9,?_,by rw[g9];exact g8,by rw[g9];exact gn8,G9,by lia,by lia,by rw[O7.len],O7.tG⟩;rw[eE C.Kv rfl,<-e9];exact kF (fin h) eb
end
section
variable{F:Nat->Option Fn}
theorem Ra(iM:F 151=aC iC){k:Nat}{h:VH}{i:Int}:run F (k+1) 151 [.int i,.int i] h=.ok (.bl true) h:=by rw[eE iM rfl];simp[iC,exs,ev,aR,gX,dM]
theorem zxm(pP:F 140=aC iY)(iM:F 151=aC iC){k:Nat}{h:VH}{a:List Int}(ha:a.length<=1000):run F (k+2) 140 [iW a,iW a] h=.ok (.bl true) h:=by
 let k0:VH:=⟨h.n,h.n,h.os⟩
 have e3:=uY (cl:=run F (k+1)) (a:=.var 0) (b:=.var 1) (e:=Qi) (ρ:=[aC (iW a),aC (iW a)]) (u:=iW a) (v:=iW a) (ws:=a.map .int) (h:=k0) (h1:=k0) (h2:=k0) (aG rfl) (aG rfl) rfl rfl (by rw[bA];lia) (λw hw=>by
  obtain⟨x,_,rfl⟩:=jv.mp hw;exact nD (aG rfl) (aG rfl) (Ra iM))
 rw[eE pP rfl];have e4:ev (run F (k+1)) (.or (.not (.jh (.rM .tuple (.var 0)))) (.cmp .ne (.bi .len (.cons (.var 0) .nil)) (.bi .len (.cons (.var 1) .nil)))) [aC (iW a),aC (iW a)] k0=.ok (.bl false) k0:=by unfold iW;simp[ev,iS,gB,aP,aR,gX]
 have eb:exs (run F (k+1)) iY.body [aC (iW a),aC (iW a)] k0=.ok (.rt (.bl true)) _:=
  (bD (ρ':=[aC (iW a),aC (iW a)]) (h':=k0) ((k6 e4).trans (by rw[exs]))).trans (kC (gT e3))
 show fin h (exs (run F (k+1)) iY.body [aC (iW a),aC (iW a)] k0)=_;rw[eb];exact dM (aQ _) (by simp)
theorem zti(iM:F 151=aC iC)(pQ:F 153=aC i6){k:Nat}{h:VH}{w:W}(hw:w=.aO\/∃i:Int,w=.int i):run F (k+2) 153 [w,w] h=.ok (.bl true) h:=by
 let k0:VH:=⟨h.n,h.n,h.os⟩
 rw[eE pQ rfl];have eb:exs (run F (k+1)) i6.body [aC w,aC w] k0=.ok (.rt (.bl true)) k0:=by rcases hw with rfl|⟨i,rfl⟩;have c1:ev (run F (k+1)) (.cmp .oF (.var 1) (.cst .aO)) [aC .aO,aC .aO] k0=.ok (.bl true) k0:=rfl;exact kC ((uU c1).trans (kC (gT (show ev (run F (k+1)) (.cmp .oF (.var 0) (.cst .aO)) [aC .aO,aC .aO] k0=.ok (.bl true) k0 from rfl))));have c1:ev (run F (k+1)) (.cmp .oF (.var 1) (.cst .aO)) [aC (.int i),aC (.int i)] k0=.ok (.bl false) k0:=rfl;exact(bD (ρ':=[aC (.int i),aC (.int i)]) (h':=k0) ((k6 c1).trans (by rw[exs]))).trans (kC (gT (nD (aG rfl) (aG rfl) (Ra iM))))
 show fin h (exs (run F (k+1)) i6.body [aC w,aC w] k0)=_;rw[eb];exact dM (aQ _) rfl
theorem ztj(pP:F 140=aC iY)(iM:F 151=aC iC)(pQ:F 153=aC i6)(xE:F 156=aC jX){k j nL:Nat}{h:VH}{ns:List W}{ls:List Int}(gj:h.get j=aC (.lst [.ref nL,iW ls]))(gn:h.get nL=aC (.lst ns))(hn:∀w∈ns,w=.aO\/∃i:Int,w=.int i)(l1:ns.length<=1000)(l2:ls.length<=1000) :
 run F (k+3) 156 [.tup [.tup ns,iW ls],.ref j] h=.ok (.bl true) h:=by
 let k0:VH:=⟨h.n,h.n,h.os⟩
 let a:W:=.tup [.tup ns,iW ls];let ρ:En:=[aC a,aC (.ref j)]
 let cl:=run F (k+2);have Rb:k0.get j=aC (.lst [.ref nL,iW ls]):=gj;have Rc:k0.get nL=aC (.lst ns):=gn;have i0:ev cl (.idx (.var 0) (.cst (.int (0)))) ρ k0=.ok (.tup ns) k0:=bN (x:=a) (y:=.int 0) (aG rfl) aV rfl;have i1:ev cl (.idx (.var 0) (.cst (.int (1)))) ρ k0=.ok (iW ls) k0:=bN (x:=a) (y:=.int 1) (aG rfl) aV rfl;have j0:ev cl (.idx (.var 1) (.cst (.int (0)))) ρ k0=.ok (.ref nL) k0:=bN (x:=.ref j) (y:=.int 0) (aG rfl) aV (by simp only[bS,Rb];rfl);have j1:ev cl (.idx (.var 1) (.cst (.int (1)))) ρ k0=.ok (iW ls) k0:=bN (x:=.ref j) (y:=.int 1) (aG rfl) aV (by simp only[bS,Rb];rfl);have c1:ev cl (.not (.jh (.rM .tuple (.var 0)))) ρ k0=.ok (.bl false) k0:=rfl;have c2:ev cl (.cmp .ne (.bi .len (.cons (.var 0) .nil)) (.cst (.int (2)))) ρ k0=.ok (.bl false) k0:=by rw[ev,jr (x:=a) (ws:=[.tup ns,iW ls]) (aG rfl) rfl,aE,aV,aE];simp only[aR,gX];rfl
 have c3:ev cl (.not (.jh (.rM .tuple (.idx (.var 0) (.cst (.int (0))))))) ρ k0=.ok (.bl false) k0:=pN (t:=true) (by rw[ev,i0,aE];rfl);have cA:ev cl (.or (.not (.jh (.rM .tuple (.var 0)))) (.or (.cmp .ne (.bi .len (.cons (.var 0) .nil)) (.cst (.int (2)))) (.not (.jh (.rM .tuple (.idx (.var 0) (.cst (.int (0))))))))) ρ k0=.ok (.bl false) k0:=by rw[ev,c1,aE];show ev cl (.or _ _) ρ k0=_;rw[ev,c2,aE];exact c3
 have c4:ev cl (.cmp .ne (.bi .len (.cons (.idx (.var 0) (.cst (.int (0)))) .nil)) (.bi .len (.cons (.idx (.var 1) (.cst (.int (0)))) .nil))) ρ k0=.ok (.bl false) k0:=by rw[ev,jr i0 rfl,aE,jr j0 (xw Rc),aE];simp only[aR,gX,C7];rfl
 have c5:ev cl (.not (.jh (.call 140 (.cons (.idx (.var 0) (.cst (.int (1)))) (.cons (.idx (.var 1) (.cst (.int (1)))) .nil))))) ρ k0=.ok (.bl false) k0:=pN (t:=true) (nD i1 j1 (zxm pP iM l2));have cB:ev cl (.or (.cmp .ne (.bi .len (.cons (.idx (.var 0) (.cst (.int (0)))) .nil)) (.bi .len (.cons (.idx (.var 1) (.cst (.int (0)))) .nil))) (.not (.jh (.call 140 (.cons (.idx (.var 0) (.cst (.int (1)))) (.cons (.idx (.var 1) (.cst (.int (1)))) .nil)))))) ρ k0=.ok (.bl false) k0:=by rw[ev,c4,aE];exact c5
 have e3:=uY (e:=Qk) i0 j0 (show aP k0 (.tup ns)=aC ns from rfl) (xw Rc) (by lia) (λw hw=>nD (aG rfl) (aG rfl) (zti iM pQ (hn w hw)));rw[eE xE rfl];have eb:exs cl jX.body ρ k0=.ok (.rt (.bl true)) _:=
  (bD (ρ':=ρ) (h':=k0) ((k6 cA).trans (by rw[exs]))).trans ((bD (ρ':=ρ) (h':=k0) ((k6 cB).trans (by rw[exs]))).trans (kC (gT e3)))
 show fin h (exs cl jX.body ρ k0)=_;rw[eb];exact dM (aQ _) (by simp)
end
section
variable{B:Bd}{d c:Nat}{h h':VH}{a:Nat}{rs:List Nat}{ps:List Pr}
theorem Dk.gm{b:Nat}(D:Dk h d c b)(G:Gm h h'):Dk h' d c b:=by obtain⟨ne,ns,cells,p,q,a1,a2,a3⟩:=D;exact⟨ne,ns,cells,p,q,by rw[G.get _ (bQ a1)];exact a1,by rw[G.get _ (bQ a2)];exact a2,a3⟩
theorem Dk.lt{b:Nat}(D:Dk h d c b):d<h.n/\c<h.n:=by obtain⟨_,ns,cells,p,q,a1,a2,_⟩:=D;exact⟨bQ a1,bQ a2⟩
end
structure Kw(F:Nat->Option Fn):Prop where
 p:pK F
 a:xB F
 m:xD F
 JT:F 20=aC o5
 pP:F 140=aC iY
 iM:F 151=aC iC
 pQ:F 153=aC i6
 xE:F 156=aC jX
 Ky:F 700=aC Fj
noncomputable def nk(B:Bd)(ls:List Int)(r:List Nat)(bt:Int):List eG×List Int:=bJ B.rows (fZ B r ls) (fy r.length B.rows.length bt)
structure Ent(B:Bd)(ls:List Int)(a:Nat)(h:VH)(e:Nat)(r:List Nat)(bt:Int)(j nL:Nat):Prop where
 ge:h.get e=aC (.lst [.tup (aS r),.int bt,.ref j])
 gj:h.get j=aC (.lst [.ref nL,iW (nk B ls r bt).2])
 gn:h.get nL=aC (.lst ((nk B ls r bt).1.map (gJ B)))
 hr:r.length<=200
 hf:∀f∈r,f<B.fd.length
 b0:1<=bt
 b1:bt<=100
 nm:∀x∈(nk B ls r bt).1,gO B.wd x
 nl:(nk B ls r bt).1.length=r.length
 ll:(nk B ls r bt).2.length<=8
 ae:a<e
 aj:a<j
 an:a<nL
noncomputable def jt(B:Bd)(ls:List Int)(a:Nat)(h:VH)(e:Nat):Prop:=∃r bt j nL,Ent B ls a h e r bt j nL
theorem jt.up{B:Bd}{ls:List Int}{a e:Nat}{h h':VH}(up:∀i o,a<i->h.get i=aC o->h'.get i=aC o)(E:jt B ls a h e):jt B ls a h' e:=by obtain⟨r,bt,j,nL,E⟩:=E;exact⟨r,bt,j,nL,up _ _ E.ae E.ge,up _ _ E.aj E.gj,up _ _ E.an E.gn,E.hr,E.hf,E.b0,E.b1,E.nm,E.nl,E.ll,E.ae,E.aj,E.an⟩
structure dz(a:Nat)(h h':VH):Prop where
 le:h.n<=h'.n
 get:∀i o,a<=i->h.get i=aC o->h'.get i=aC o
theorem dz.trans{a:Nat}{x y z:VH}(p:dz a x y)(q:dz a y z):dz a x z:=⟨gZ p.le q.le,λi o hi e=>q.get i o hi (p.get i o hi e)⟩
theorem dz.k{h h':VH}{a:Nat}(ha:2<=a)(K:bM h h' 1 0):dz a h h':=⟨K.le,λi o hi e=>K.get i o (by lia) (by lia) e⟩
theorem dz.g{h h':VH}{a:Nat}(G:Gm h h'):dz a h h':=⟨G.le,λi o hi e=>by rw[G.get _ (bQ e)];exact e⟩
theorem Dk.xF{h:VH}{d c b l:Nat}{o o0:VO}(D:Dk h d c b)(g:h.get l=aC o0)(hd:l≠d)(hc:l≠c):Dk (h.set l o) d c b:=by obtain⟨ne,ns,cells,p,q,a1,a2,a3⟩:=D;exact⟨ne,ns,cells,p,q,(iJ (bQ g) (eT hd)).trans a1,(iJ (bQ g) (eT hc)).trans a2,a3⟩
noncomputable abbrev ju(sc:W)(B:Bd)(ls:List Int)(a:Nat)(x5 x6 x7 x8 x9:Option W):En:=[aC sc,aC (.ref 1),aC B.w,aC (iW ls),aC (.ref a),x5,x6,x7,x8,x9]
section
variable{F:Nat->Option Fn}(C:Kw F)
include C
theorem zxn{k b:Nat}{B:Bd}{ls:List Int}{a:Nat}{h:VH}{sc:W}{x5 x6 x7 x8:Option W}(b':B.Ok)(D:Dk h 1 0 b)(hb:b<100000) :
 ∃(r:List Nat) (h':VH),ev (run F (k+3)) (.bi .tuple (.cons (.lc .bg (.cons (.call 5 (.cons (.var 1) (.cons (.cst (.int (16))) .nil))) .nil) (.one 0) 1 [2,1] (.cst (.bl true)) Fg) .nil)) (ju sc B ls a x5 x6 x7 x8 aD) h=.ok (.tup (aS r)) h'/\
  r.length<=15/\(∀f∈r,f<B.fd.length)/\Dk h' 1 0 (b+20)/\bM h h' 1 0:=by
 have f1:=b'.f1;have f2:=b'.f2;obtain⟨t,h1,e1,t0,t1,D1,K1⟩:=take C.p.toCoreD (k:=k) (m:=16) D (by lia) (by lia) (by lia);obtain⟨n,rfl⟩:=k8 t0;have hn:n<=15:=by lia
 obtain⟨ys,ρ',h',e2,hI⟩:=JV (nx:=bf .bg (.tup [.int (n:Int)])) (tg:=bx (.one 0)) (e:=ev (run F (k+3)) Fg) (n:=n)
  (I:=λi ρ h2 acc=>(∃x,ρ=[x,aC B.w,aC (.ref 1)])/\∃r:List Nat,acc=aS r/\r.length=i/\(∀f∈r,f<B.fd.length)/\Dk h2 1 0 (b+1+i)/\bM h1 h2 1 0)
  (λi ρ h2 acc hi hI=>by
    obtain⟨⟨x,rfl⟩,r,rfl,hl,hf,D2,K2⟩:=hI;obtain⟨f,h3,e3,f0,f3,D3,K3⟩:=take C.p.toCoreD (k:=k) (m:=(B.fd.length:Int)) D2 (by lia) (by lia) (by lia);obtain⟨f,rfl⟩:=k8 f0;refine⟨.int (i:Int),[aC (.int (i:Int)),aC B.w,aC (.ref 1)],.int (f:Int),h3,by rw[tD (by lia),if_pos hi],rfl,?_,⟨_,rfl⟩,r++[f],?_,?_,?_,D3,K2.trans K3⟩;exact nD (x:=.ref 1) (y:=.int (B.fd.length:Int)) (aG rfl) (jr (x:=.tup B.fd) (ws:=B.fd) (bN (x:=B.w) (y:=.int 3) (aG rfl) aV rfl) rfl) e3;unfold aS;rw[tT];rfl;rw[eZ,hl];rfl;intro q hq;rcases lZ.mp hq with hq|hq;exact hf q hq;rw[pS.mp hq];lia)
  (λρ h2 acc hI=>by rw[tD (by lia),if_neg (i8 _)])
  (ρ:=[aD,aC B.w,aC (.ref 1)]) (h:=h1) (by lia) ⟨⟨aD,rfl⟩,[],rfl,rfl,(λf hf=>by cases hf),D1,.refl⟩
 obtain⟨_,r,rfl,hl,hf,D2,K2⟩:=hI;have e3:=JW (a:=.cons (.call 5 (.cons (.var 1) (.cons (.cst (.int (16))) .nil))) .nil) (cl:=run F (k+3)) (k:=.bg) (t:=.one 0) (ow:=1) (ix:=[2,1]) (ρ:=ju sc B ls a x5 x6 x7 x8 aD) (b:=Fg) (x:=.tup [.int (n:Int)]) (aJ (nD (x:=.ref 1) (y:=.int 16) (aG rfl) aV e1) bT) e2 (by unfold aS;rw[bA,hl];lia);exact⟨r,h'.new (.lst (aS r)),FP e3 (xw fm),by lia,hf,D2.new.mono (by lia),K1.trans K2.new⟩
theorem CN{k b:Nat}{B:Bd}{g:Nat}{ls:List Int}{a:Nat}{h:VH}{sc:W}{es:List Nat}{x5 x6 x7 x8:Option W}(b':B.Ok)(hg:B.gr=g)(hl:ls.length=g)(bi:eX ls)(ha:2<=a)(D:Dk h 1 0 b)(hb:b<90000)(ga:h.get a=aC (.lst (es.map .ref)))(he:es.length<=100)(E:∀e∈es,jt B ls a h e) :
 ∃y6 y7 y8 e h',exs (run F (k+3)) Fi (ju sc B ls a x5 x6 x7 x8 aD) h=.ok (.nx (ju sc B ls a x5 y6 y7 y8 aD)) h'/\h'.get a=aC (.lst ((es++[e]).map .ref))/\(∀q∈es++[e],jt B ls a h' q)/\Dk h' 1 0 (b+30):=by
 have ra:=bQ ga;let cl:=run F (k+3);obtain⟨t,h1,e1,t0,t1,D1,K1⟩:=take C.p.toCoreD (k:=k) (m:=4) D (by lia) (by lia) (by lia);let h2:=h1.new (.lst [.int 100,.int 9,.int 9,.int 3]);have D2:Dk h2 1 0 (b+1):=D1.new;obtain⟨m,m0,m1,em⟩:∃m:Int,1<=m/\m<=100/\dH [W.int 100,.int 9,.int 9,.int 3] t=aC (.int m):=by
  obtain⟨n,rfl⟩:=k8 t0;have hn:n<4:=by lia
  match n,hn with|0,_=>exact⟨100,by decide,by decide,jx rfl⟩|1,_=>exact⟨9,by decide,by decide,jx rfl⟩|2,_=>exact⟨9,by decide,by decide,jx rfl⟩|3,_=>exact⟨3,by decide,by decide,jx rfl⟩
 obtain⟨u,h3,e3,u0,u1,D3,K3⟩:=take C.p.toCoreD (k:=k) (m:=m) D2 (by lia) (by lia) (by lia);let bC:En:=ju sc B ls a x5 (aC (.int t)) x7 x8 aD;have eB:ev cl (.op .add (.cst (.int (1))) (.call 5 (.cons (.var 1) (.cons (.idx (.lst (.cons (.cst (.int (100))) (.cons (.cst (.int (9))) (.cons (.cst (.int (9))) (.cons (.cst (.int (3))) .nil))))) (.var 6)) .nil)))) bC h1=.ok (.int (1+u)) h3:=by refine tB (x:=.int 1) (y:=.int u) (h1:=h1) aV (nD (x:=.ref 1) (y:=.int m) (h2:=h2) (aG rfl) (bN (x:=.ref h1.n) (y:=.int t) (h1:=h2) (fS (aJ aV (aJ aV (aJ aV (aJ aV bT)))) rfl) (aG rfl) ?_) e3) rfl;have gg:h2.get h1.n=aC (.lst [.int 100,.int 9,.int 9,.int 3]):=fm;simp only[bS,gg];exact em
 obtain⟨r,h4,e4,hr,hf,D4,K4⟩:=zxn C (k:=k) (sc:=sc) (ls:=ls) (a:=a) (x5:=x5) (x6:=aC (.int t)) (x7:=aC (.int (1+u))) (x8:=x8) b' D3 (by lia);obtain⟨j,nL,h5,e5,g5,Rf,G5,l5,ln5,nl5,nm5⟩:=zth C.m (k:=k+1) (h:=h4) (r:=r) (ls:=ls) (bt:=1+u) b' hg (by lia) hf hl bi;let FZ:En:=ju sc B ls a x5 (aC (.int t)) (aC (.int (1+u))) (aC (.tup (aS r))) aD;let h6:=h5.new (.lst [.tup (aS r),.int (1+u),.ref j]);have U:dz a h h5:=(((dz.k ha K1).trans (dz.g (Gm.new Gm.refl))).trans (dz.k ha K3)).trans ((dz.k ha K4).trans (dz.g G5));have U6:dz a h h6:=U.trans (dz.g (Gm.new Gm.refl));have Rg:h4.get a=aC (.lst (es.map .ref)):=(((dz.k ha K1).trans (dz.g (Gm.new (o:=.lst [.int 100,.int 9,.int 9,.int 3]) Gm.refl))).trans ((dz.k ha K3).trans (dz.k ha K4))).get _ _ (aQ _) ga;have la4:=bQ Rg;have F0:h6.get a=aC (.lst (es.map .ref)):=U6.get _ _ (aQ _) ga;let h7:=h6.set a (.lst ((es++[h5.n]).map .ref));have l45:=G5.le;have eA:ev cl (.mt .append (.var 4) (.cons (.lst (.cons (.var 8) (.cons (.var 7) (.cons (.call 142 (.cons (.var 2) (.cons (.var 3) (.cons (.var 8) (.cons (.var 7) .nil))))) .nil)))) .nil)) FZ h4=.ok .aO h7:=by
  have hk:Bh .append h4 (.ref a)=true:=by simp only[Bh,Rg]
  have e6:ev cl (.lst (.cons (.var 8) (.cons (.var 7) (.cons (.call 142 (.cons (.var 2) (.cons (.var 3) (.cons (.var 8) (.cons (.var 7) .nil))))) .nil)))) FZ h4=.ok (.ref h5.n) h6:=
   fS (ys:=[.tup (aS r),.int (1+u),.ref j]) (aJ (aG rfl) (aJ (aG rfl) (aJ (fY (ys:=[B.w,iW ls,.tup (aS r),.int (1+u)]) (aJ (aG rfl) (aJ (aG rfl) (aJ (aG rfl) (aJ (aG rfl) bT)))) e5) bT))) rfl
  rw[ev,aG (x:=.ref a) rfl,aE,if_pos hk,aJ e6 bT,aE];show wu .append (.ref a) [.ref h5.n] h6=_;simp only[wu,F0];rw[if_pos (Zv (by rw[bA];lia))];show _=Res.ok W.aO (h6.set a (.lst ((es++[h5.n]).map .ref)));rw[tT];rfl
 have Rh:∀i o,a<i->h6.get i=aC o->h7.get i=aC o:=λi o hi e=>by rw[iJ (bQ F0) (by lia)];exact e
 refine⟨aC (.int t),aC (.int (1+u)),aC (.tup (aS r)),h5.n,h7,?_,pD F0,λq hq=>?_,?_⟩;refine(bD (di (nD (x:=.ref 1) (y:=.int 4) (aG rfl) aV e1))).trans ?_;refine(bD (di eB)).trans ?_;refine(bD (di e4)).trans ?_;refine(bD (ρ':=FZ) (h':=h7) ?_).trans (by rw[exs]);show exs cl (.expr _) FZ h4=_;rw[exs,eA,aE];rcases lZ.mp hq with hq|hq
 exact((E q hq).up λi o hi e=>U6.get i o (by lia) e).up Rh;rw[pS.mp hq];have gj6:h6.get j=_:=(fU (bQ g5)).trans g5;have gn6:h6.get nL=_:=(fU (bQ Rf)).trans Rf;refine jt.up Rh ⟨r,1+u,j,nL,fm,gj6,gn6,by lia,hf,by lia,by lia,nm5,nl5,?_,by lia,by lia,by lia⟩;have O:=pM b' hf hl bi;have g2:=b'.g2;have:(nk B ls r (1+u)).2.length=g:=by
  have key:∀(T:List (List Int)),(∀x∈T,x∈fy r.length B.rows.length (1+u))->∀s,eK B.wd r.length g s->eK B.wd r.length g (bJ B.rows s T):=by
   intro T;induction T with
   |nil=>intro _ s O;exact O
   |cons x T ih=>
    intro hT s O;obtain⟨p,q,hp,hq,rfl⟩:=J7 (hT x (fM ..));exact ih (λy hy=>hT y (dU _ hy)) _ (J9 (rs:=B.rows) (by rw[<-hg];exact b'.r2) hp hq O)
  exact(key _ (λx hx=>hx) _ O).ll
 lia;exact Dk.xF (((D4.gm G5).new (o:=.lst [.tup (aS r),.int (1+u),.ref j])).mono (by lia)) F0 (by lia) (by lia)
end
section
variable{F:Nat->Option Fn}(C:Kw F)
include C
theorem zxo{k:Nat}{B:Bd}{g:Nat}{ls:List Int}{a:Nat}{h:VH}{sc:W}(b':B.Ok)(hg:B.gr=g)(hl:ls.length=g)(bi:eX ls)(ha:2<=a)(D:Dk h 1 0 20000)(ga:h.get a=aC (.lst [])) :
 ∃(es:List Nat) (x5 x6 x7 x8:Option W) (h':VH),exs (run F (k+3)) (.«for» .bg (.cons (.cst (.int (3))) .nil) (.one 5) Fi) (ju sc B ls a aD aD aD aD aD) h=.ok (.nx (ju sc B ls a x5 x6 x7 x8 aD)) h'/\es.length=3/\h'.get a=aC (.lst (es.map .ref))/\∀e∈es,jt B ls a h' e:=by
 obtain⟨ρ',h',e1,hI⟩:=yK (nx:=bf .bg (.tup [.int ((3:Nat):Int)])) (tg:=bx (.one 5)) (b:=exs (run F (k+3)) Fi) (n:=3)
  (I:=λi ρ h2=>∃(es:List Nat) (x5 x6 x7 x8:Option W),ρ=ju sc B ls a x5 x6 x7 x8 aD/\es.length=i/\h2.get a=aC (.lst (es.map .ref))/\(∀e∈es,jt B ls a h2 e)/\Dk h2 1 0 (20000+30*i))
  (λi ρ h2 hi hI=>by
    obtain⟨es,x5,x6,x7,x8,rfl,hn,g2,E,D2⟩:=hI;obtain⟨y6,y7,y8,e,h3,e3,g3,E3,D3⟩:=CN C (k:=k) (sc:=sc) (x5:=aC (.int (i:Int))) (x6:=x6) (x7:=x7) (x8:=x8) b' hg hl bi ha D2 (by lia) g2 (by lia) E;exact⟨.int (i:Int),ju sc B ls a (aC (.int (i:Int))) x6 x7 x8 aD,_,h3,by rw[tD (by lia),if_pos hi],rfl,e3,es++[e],_,_,_,_,rfl,by rw[eZ,hn];rfl,g3,E3,D3.mono (by lia)⟩)
  (λρ h2 hI=>by rw[tD (by lia),if_neg (i8 _)])
  3 0 fuel (ju sc B ls a aD aD aD aD aD) h (nu _) (show _<1000000 by lia) ⟨[],aD,aD,aD,aD,rfl,rfl,ga,(λe he=>by cases he),D⟩
 obtain⟨es,x5,x6,x7,x8,rfl,hn,g2,E,_⟩:=hI;exact⟨es,x5,x6,x7,x8,h',(j6 (x:=.tup [.int ((3:Nat):Int)]) (aJ aV bT)).trans e1,hn,g2,E⟩
theorem CO{k:Nat}{B:Bd}{g:Nat}{ls:List Int}{a e:Nat}{h:VH}{sc:W}{x5 x6:Option W}{r:List Nat}{bt:Int}{j nL:Nat}(b':B.Ok)(hg:B.gr=g)(hl:ls.length=g)(bi:eX ls)(E:Ent B ls a h e r bt j nL) :
 exs (run F (k+11)) Cj (ju sc B ls a x5 x6 (aC (.int bt)) (aC (.tup (aS r))) (aC (.ref j))) h=.ok (.nx (ju sc B ls a x5 x6 (aC (.int bt)) (aC (.tup (aS r))) (aC (.ref j)))) h:=by
 let ρ:En:=ju sc B ls a x5 x6 (aC (.int bt)) (aC (.tup (aS r))) (aC (.ref j));have e1:=zte C.a (k:=k+1) (h:=h) b' hg E.hr E.hf hl bi E.b0 E.b1;have e2:=ztj C.pP C.iM C.pQ C.xE (k:=k+8) (h:=h) E.gj E.gn (λw hw=>by
  obtain⟨x,hx,rfl⟩:=jv.mp hw;exact Q8 b' (E.nm x hx)) (by rw[bA,E.nl];have:=E.hr;lia) (by have:=E.ll;lia)
 have e3:ev (run F (k+11)) (.call 270 (.cons (.var 2) (.cons (.var 3) (.cons (.var 8) (.cons (.var 7) .nil))))) ρ h=_:=fY (ys:=[B.w,iW ls,.tup (aS r),.int bt]) (aJ (aG rfl) (aJ (aG rfl) (aJ (aG rfl) (aJ (aG rfl) bT)))) e1;have e4:ev (run F (k+11)) (.not (.jh (.call 156 (.cons (.call 270 (.cons (.var 2) (.cons (.var 3) (.cons (.var 8) (.cons (.var 7) .nil))))) (.cons (.var 9) .nil))))) ρ h=.ok (.bl false) h:=
  pN (t:=true) (nD e3 (aG rfl) e2)
 unfold Cj;exact(bD (ρ':=ρ) (h':=h) ((k6 e4).trans (by rw[exs]))).trans (by rw[exs])
theorem zxp{k:Nat}{B:Bd}{g:Nat}{ls:List Int}{a:Nat}{h:VH}{sc:W}{es:List Nat}{x5 x6 x7 x8:Option W}(b':B.Ok)(hg:B.gr=g)(hl:ls.length=g)(bi:eX ls)(hn:es.length=3)(ga:h.get a=aC (.lst (es.map .ref)))(E:∀e∈es,jt B ls a h e) :
 ∃h',exs (run F (k+11)) (.seq (.«for» .seq (.op .add (.var 4) (.slc (.var 4) false (.cst .aO) true (.cst (.int (1))))) (.many [8,7,9]) Cj) (.seq (.ret (.cst (.bl true))) .skip)) (ju sc B ls a x5 x6 x7 x8 aD) h=.ok (.rt (.bl true)) h':=by
 let cl:=run F (k+11);let ws:List W:=es.map .ref;have hw:ws.length=3:=by show(es.map _).length=3;rw[bA,hn]
 let s:=ji ws aD (aC 1);have hs:∀w∈s,w∈ws:=λw hw=>List.mem_of_mem_drop (yY hw);have sl:s.length<=3:=by
  have:s.length<=ws.length:=by show((ws.drop _).take _).length<=_;rw[k7,kI];lia
  lia
 let h1:=h.new (.lst s);let h2:=h1.new (.lst (ws++s));have e0:ev cl (.slc (.var 4) false (.cst .aO) true (.cst (.int (1)))) (ju sc B ls a x5 x6 x7 x8 aD) h=.ok (.ref h.n) h1:=
  Cv (x:=.ref a) (l:=.aO) (u:=.int 1) (aG rfl) aV aV rfl rfl (by simp only[jS,ga];rfl)
 have ga1:h1.get a=aC (.lst ws):=(fU (bQ ga)).trans ga;have e1:ev cl (.op .add (.var 4) (.slc (.var 4) false (.cst .aO) true (.cst (.int (1))))) (ju sc B ls a x5 x6 x7 x8 aD) h=.ok (.ref h1.n) h2:=
  tB (x:=.ref a) (y:=.ref h.n) (aG rfl) e0 (Cz ga1 fm (by lia))
 have g2:h2.get h1.n=aC (.lst (ws++s)):=fm;have Kz:∀{i:Nat}{o:VO},h.get i=aC o->h2.get i=aC o:=λ{i o} e=>by
  have:=bQ e;exact(fU (qq this)).trans ((fU this).trans e)
 obtain⟨ρ',h',e2,hI⟩:=yK (nx:=bf .seq (.ref h1.n)) (tg:=bx (.many [8,7,9])) (b:=exs cl Cj) (n:=(ws++s).length)
  (I:=λi ρ h3=>(∃x7 x8 x9,ρ=ju sc B ls a x5 x6 x7 x8 x9)/\h3=h2)
  (λi ρ h3 hi hI=>by
    obtain⟨⟨x7,x8,x9,rfl⟩,rfl⟩:=hI;have hx:=eN hi;have hm:=i9 hx;generalize (ws++s)[i]=w at hx hm;have hm2:w∈ws:=by rcases lZ.mp hm with q|q;exact q;exact hs w q
    obtain⟨e,he,rfl⟩:=jv.mp hm2;obtain⟨r,bt,j,nL,Ee⟩:=E e he;have E2:Ent B ls a h2 e r bt j nL:=⟨Kz Ee.ge,Kz Ee.gj,Kz Ee.gn,Ee.hr,Ee.hf,Ee.b0,Ee.b1,Ee.nm,Ee.nl,Ee.ll,Ee.ae,Ee.aj,Ee.an⟩
    have e3:=CO C (k:=k) (sc:=sc) (x5:=x5) (x6:=x6) b' hg hl bi E2;refine⟨.ref e,_,_,h2,by rw[qm g2,hx],?_,e3,⟨_,_,_,rfl⟩,rfl⟩;simp only[bx,xw E2.ge,ko];rfl)
  (λρ h3 hI=>by
    obtain⟨_,rfl⟩:=hI;rw[qm g2,nI (aQ _)])
  (ws++s).length 0 fuel (ju sc B ls a x5 x6 x7 x8 aD) h2 (nu _) (show _<1000000 by rw[eZ];lia) ⟨⟨_,_,_,rfl⟩,rfl⟩
 obtain⟨⟨x7',x8',x9',rfl⟩,rfl⟩:=hI;exact⟨h2,(bD ((j6 e1).trans e2)).trans (kC (gT aV))⟩
theorem CP{ns:List Int}(hl:ns.length<=63):Cb (run F 30 700 [.fz (ns.map .int)] ⟨0,0,[]⟩)=true:=by
 rw[show(30:Nat)=29+1 from rfl,eE C.Ky rfl];obtain⟨h1,e1,D1⟩:=JS C.p.toCoreD (k:=28) (h:=⟨0,0,[]⟩) hl;generalize hsc:W.fz (ns.map .int)=sc at *;clear hl hsc;have D1:Dk h1 1 0 0:=D1;have e1:run F (28+1) 3 [sc] ⟨0,0,[]⟩=.ok (.ref 1) h1:=e1;obtain⟨B,h3,e3,b,_,_,_,D3,K3⟩:=ZU C.p (k:=23) (mw:=9) (mr:=8) (mg:=4) D1 (by lia) (by lia) (by lia) (by lia) (by lia) (by lia) (by lia);obtain⟨g,hg⟩:=k8 b.g1;have g8:g<=8:=by have:=b.g2;lia
 obtain⟨ls,h6,e6,l6,b6,D6,K6⟩:=ZJ C.p.toCoreD (k:=25) (g:=g) C.JT D3 (by lia) g8;let h7:=h6.new (.lst []);obtain⟨d6,c6⟩:=D6.lt;obtain⟨es,x5,x6,x7,x8,h8,e8,hn,g9,E9⟩:=zxo C (k:=26) (sc:=sc) (a:=h6.n) (h:=h7) b hg l6 b6 (by lia) (D6.new.mono (by lia)) fm;obtain⟨h9,e9⟩:=zxp C (k:=18) (sc:=sc) (x5:=x5) (x6:=x6) (x7:=x7) (x8:=x8) b hg l6 b6 hn g9 E9;have eb:exs (run F 29) Fj.body [aC sc,aD,aD,aD,aD,aD,aD,aD,aD,aD] ⟨0,0,[]⟩=.ok (.rt (.bl true)) h9:=by
  refine(bD (di (h1:=h1) (x:=.ref 1) (QL (aG rfl) e1))).trans ?_;have e3':ev (run F 29) (.call 129 (.cons (.var 1) (.cons (.cst (.int (9))) (.cons (.cst (.int (8))) (.cons (.cst (.int (4))) .nil))))) [aC sc,aC (.ref 1),aD,aD,aD,aD,aD,aD,aD,aD] h1=.ok B.w h3:=
   fY (ys:=[.ref 1,.int 9,.int 8,.int 4]) (h1:=h1) (aJ (aG rfl) (aJ aV (aJ aV (aJ aV bT)))) e3
  refine(bD (di (h1:=h3) (x:=B.w) e3')).trans ?_;refine(bD (di (h1:=h6) (x:=iW ls) (nD (x:=.ref 1) (y:=.int (g:Int)) (aG rfl) (bN (x:=B.w) (aG rfl) aV (by rw[<-hg];rfl)) e6))).trans ?_;refine(bD (di (h1:=h7) (x:=.ref h6.n) (fS bT rfl))).trans ?_;refine(bD e8).trans ?_;exact e9
 show Cb (fin ⟨0,0,[]⟩ (exs (run F 29) Fj.body [aC sc,aD,aD,aD,aD,aD,aD,aD,aD,aD] ⟨0,0,[]⟩))=true;rw[eb];have:∃h2,fin ⟨0,0,[]⟩ (.ok (.rt (.bl true)) h9)=.ok (.bl true) h2:=by show ∃h2,leave ⟨0,0,[]⟩ (.bl true) h9=.ok (.bl true) h2;unfold leave;split<;>exact⟨_,rfl⟩
 obtain⟨h12,e12⟩:=this;rw[e12];rfl
end
end RF
namespace HD
open PySem PySem.W PySem.Calls PyProof.Rows
noncomputable section
noncomputable def p:ai:=PySem.Challenge.pw_ballrockers_k71_at_once
noncomputable abbrev S(x:String):Str:=Str.ofString x
noncomputable abbrev U(x:String)(t:Tok):aa:=Value.str (S x) t
noncomputable abbrev R(a:ah):aa:=Value.ref a
noncomputable abbrev I(i:Int)(t:Tok):aa:=Value.int i t
noncomputable abbrev E(P:Params)(x:String)(t:Tok)(v:aa):DictEntry:=DictEntry.mk (PyData.keyHash P (S x)) (Value.str (S x) t) v
noncomputable abbrev N(o:Obj)(l r:BT):BT:=BT.node o l r
noncomputable abbrev Z:BT:=BT.nil
noncomputable abbrev L(o:Obj):BT:=BT.node o Z Z
noncomputable abbrev Y(c:String)(d:Data):Obj:=Obj.mk (Value.type c) aD d #[]
noncomputable abbrev X(d:Data):Obj:=Obj.mk Value.none aD d #[]
noncomputable def xG(l:List au)(i:Nat):au:=l.getD i (Stmt.Pass ⟨0,0,0,0⟩)
noncomputable def Rj:au->List au|.FunctionDef _ _ b _ _ _ _ _ _ _=>b|.ClassDef _ _ _ b _ _ _ _ _ _ _=>b|_=>[]
noncomputable def Rk:au->Arguments|.FunctionDef _ a _ _ _ _ _ _ _ _=>a|_=>⟨[],[],aD,[],[],aD,[]⟩
noncomputable def Rl:au->az|.FunctionDef _ _ _ _ _ _ s _ _ _=>s|_=>p.main.scope
noncomputable def fb(i:Nat):List au:=Rj (xG p.main.body i)
noncomputable def fa(i:Nat):Arguments:=Rk (xG p.main.body i)
noncomputable def fs(i:Nat):az:=Rl (xG p.main.body i)
noncomputable def cb(i j:Nat):List au:=Rj (xG (fb i) j)
noncomputable def ca(i j:Nat):Arguments:=Rk (xG (fb i) j)
noncomputable def cs(i j:Nat):az:=Rl (xG (fb i) j)
noncomputable abbrev O:aa:=Value.none
noncomputable abbrev J(i:Int):aa:=Value.int i 0
noncomputable abbrev V(t:Tok):aa:=Value.str (S "/claim/cut.py") t
noncomputable abbrev A(l:Array aa):Data:=Data.fields l
noncomputable abbrev B(f:av):Data:=Data.func f
noncomputable abbrev G(x:String)(i:Nat)(g:ah)(c:List (Str×ah))(d k o m:aa)(n:Option ah)(cd ct:aa)(b:ah):av:=FuncData.mk (S x) (S x) (fa i) (FuncBody.stmts (fb i)) (fs i) g c d k o m n cd ct b
section
variable(P:Params)
noncomputable def N0:Nat:=5118
noncomputable def lo:List Str:=[S "heading_behind"]
noncomputable def keep:List Nat:=[1,2,3,4,5,6,8,9,10,11,13,14,15,16,17,18,19,20,21,22,23,24,25,26,27,28,29,31,32,33,34,37,38,39,40,42,43,44,45,46,47,48,49,50,51,52,53,54,55,56,57]
noncomputable def life:Life:=(Life.mk [] [] [] 0 [] [] false #[] [] 0 false false false 0 [2000,10,10] false 0 true [] [] 0 false)
noncomputable def m0:Nat:=11
noncomputable def ann:Option aa:=(aC (R 6))
noncomputable def env:Env:={scope:=p.main.scope,locals:=mainNs,globals:=mainNs,cells:=[],code:=(R 13),frame:=aC 14}
noncomputable def bd:List au:=behindTheImports p
noncomputable def cd:Code:=Code.body bd env
noncomputable def fr:List Frame:=[topFrame (Pos.mk 0 0 0 0)]
noncomputable abbrev qC(n:String)(t:Nat)(l k:Int)(r m:Nat):Obj:=Y "code" (A #[U n t,U n (t+1),V (t+2),J l,J k,J 0,J 0,J 3,R r,Value.bool true,J 181,R (r+1),O,R (r+2),R (r+3),R (r+4),J (Int.ofNat m),J l,V (m+1)])
noncomputable abbrev qD(n:String)(t:Nat)(l k:Int)(r m:Nat):Obj:=Y "code" (A #[U n t,U n (t+1),V (t+2),J l,J k,J 0,J 0,J 3,R r,Value.bool true,J 181,R (r+1),O,O,O,R (r+2),J (Int.ofNat m),J l,V (m+1)])
noncomputable def qU:Nat->List String->List aa|_,[]=>[]|t,x::r=>U x t::qU (t+1) r
noncomputable abbrev qT(t:Nat)(l:List String):Obj:=Y "tuple" (Data.seq (qU t l).toArray 0)
noncomputable abbrev qF(n:String)(i:Nat)(u:aa)(r:ah):Obj:=Y "function" (B (G n i 3 [] O O O u aD (R r) O 0))
noncomputable abbrev qG(n:String)(i:Nat):Obj:=X (B (G n i 0 [] O O O O aD O O 0))
noncomputable def qJ:List (Int×Nat)->List aa|[]=>[]|(a,b)::r=>J a::J 0::R b::qJ r
noncomputable def qO:List Obj->List Obj|x::_::r=>x::qO r|x=>x
noncomputable def qE:List Obj->List Obj|_::y::r=>y::qE r|_=>[]
noncomputable def qB:Nat->List Obj->BT|f+1,x::r=>N x (qB f (qO r)) (qB f (qE r))|_,_=>Z
 def a0:=(Y "tuple" (Data.seq #[] 0))
 def a1:=(X (A #[]))
 def a2:=(Y "code" (A #[(U "<module>" 182),(U "<module>" 183),(V 184),(J 1),(J 0),(J 0),(J 0),(J 0),(R 11),(Value.bool false),(J 181),(R 12),O,O,O,O,(J 185),(J 1),(V 186)]))
 def a3:=(Obj.mk (Value.type "frame") aD Data.plain #[(aC (R 13)),(aC (R 3)),(aC (R 3)),aD,(aC (U "__main__" 164)),aD,(aC (R 0))])
 def ha:aA:=Heap.mk (Array.mk [(boot_o_0 P),(boot_o_1 P),(boot_o_2 P),(boot_o_3 P),(boot_o_4 P),(boot_o_5 P),(boot_o_6 P),(boot_o_7 P),(boot_o_8 P),(boot_o_9 P),(boot_o_10 P),a0,a1,a2,a3]) (Life.mk [] [] [] 0 [] [] false #[] [] 0 false false false 0 [2000,10,10] false 0 true [] [] 0 false)
noncomputable def sa(w:ak)(os:ay):af:=⟨ha w.params,(Array.mk []),(Drawn.mk 0 0 0 0),187,os⟩
theorem uZ{w:ak}{n:Nat}{s s':SharedT}{l:List au}{pos pos':Pos}(h:PySem.W.Fast.tw10110043849684766642 PySem.W.Fast.tw14364793385576792824 p w m0 ann 1 n s (piecesOf l env cd pos fr)=aC (.next,s',cd,pos')) :
 segRun treeTable p w m0 ann 1 n s.abs (piecesOf l env cd pos fr)=aC (.next,s'.abs,cd,pos'):=
 segRun_of (by rw[PySem.W.Fast.te10110043849684766642,DB];exact h)
theorem CQ{w:ak}{n:Nat}{s s':af}{pos:Pos}(h:PySem.W.Fast.tw15667345088766844465 PySem.W.Fast.tw14364793385576792824 p w m0 ann n s (topStub p)=aC (s',⟨PySem.W.Fast.tw11892475500146522536 PySem.W.Fast.tw14364793385576792824 cd,cd,pos,fr⟩)) :
 topGo treeTable p w m0 ann n s (topStub p)=aC (s',⟨denote treeTable cd,cd,pos,fr⟩):=by
 rw[PySem.W.Fast.te15667345088766844465,DB,PySem.W.Fast.te11892475500146522536];exact h
theorem ztk{w:ak}{n:Nat}{s s':af}{pos pos':Pos}(h:PySem.W.Fast.tw14374325043358763698 PySem.W.Fast.tw14364793385576792824 p w m0 ann 1 n s (blockOf bd env cd pos fr)=aC (.next,s',cd,pos')) :
 segRun treeTable p w m0 ann 1 n s (blockOf bd env cd pos fr)=aC (.next,s',cd,pos'):=by
 rw[PySem.W.Fast.te14374325043358763698,DB];exact h
theorem CS{w:ak}{n:Nat}{s s':af}{pos:Pos}(h:PySem.W.Fast.tw14082659384304107361 PySem.W.Fast.tw14364793385576792824 p w m0 ann n s ⟨doneF .next,cd,pos,fr⟩=aC s') :
 topRun treeTable p w m0 ann n s ⟨doneF .next,cd,pos,fr⟩=aC s':=by
 rw[PySem.W.Fast.te14082659384304107361,DB];exact h
set_option maxHeartbeats 0 in
theorem pre(w:ak)(os:ay):topGo treeTable p w m0 ann 12 ⟨boot_heap w.params,Array.mk [],boot_drawn,boot_toks,os⟩ (topStub p)=aC (sa w os,⟨denote treeTable cd,cd,(Pos.mk 0 0 0 0),fr⟩):=CQ (by kernel_rfl)
 def Rm:List Obj:=[(boot_o_0 P),(boot_o_1 P),(boot_o_2 P),(boot_o_3 P),(boot_o_4 P),(boot_o_5 P),(boot_o_6 P),(boot_o_7 P),(boot_o_8 P),(boot_o_9 P),(boot_o_10 P),a0,a1,a2,a3]
 def tb:=qB 20 (Rm P)
noncomputable def sb(w:ak)(os:ay):SharedT:=⟨tb w.params,15,life,(Array.mk []),(Drawn.mk 0 0 0 0),187,os⟩
set_option maxHeartbeats 0 in
theorem block(w:ak)(os:ay):segRun treeTable p w m0 ann 1 1 (sa w os) (blockOf bd env cd (Pos.mk 0 0 0 0) fr)=aC (.next,(sb w os).abs,cd,(Pos.mk 0 0 0 0)):=ztk (by kernel_rfl)
 def Rn:=[(E P "__doc__" 166 O),(E P "__package__" 167 O),(E P "__loader__" 168 (Value.builtin "__main__.__loader__#opaque")),(E P "__spec__" 169 O),(E P "__annotations__" 170 (R 6)),(E P "__builtins__" 171 (R 4)),(E P "__file__" 173 (V 172)),(E P "__cached__" 174 O),(E P "BoardError" 206 (R 24)),(E P "NoBoard" 222 (R 37)),(E P "Fault" 249 (R 56)),(E P "NoLeans" 265 (R 68)),(E P "NoRow" 281 (R 80)),(E P "NoNumber" 297 (R 92)),(E P "is_whole" 306 (R 101)),(E P "is_whole_within" 315 (R 108)),(E P "is_tuple_within" 324 (R 115)),(E P "are_wholes_within" 336 (R 122)),(E P "MOST_COLUMNS" 340 (I 40 339)),(E P "MOST_ROWS" 342 (I 60 341)),(E P "MOST_GROUPS" 344 (I 8 343)),(E P "MOST_FEEDERS" 346 (I 4 345)),(E P "MOST_NAME" 348 (I 99 347))]
 def a4:=Y "dict" (Data.dict ((E P "__name__" 165 (U "ballrockers.boards" 337))::Rn P).toArray 24)
 def Ro:List (Int×Nat):=[(2,20),(4,33),(6,45),(11,64),(13,76),(15,88),(18,100),(20,107),(22,114),(24,121)]
 def a5:=X (A (qJ Ro).toArray)
 def a6:=(Y "tuple" (Data.seq #[(Value.type "ValueError")] 0))
 def a7:=(Y "builtin_function_or_method" (A #[(Value.builtin "type.__prepare__"),(Value.type "type")]))
 def a8:=(Y "dict" (Data.dict #[(E P "__module__" 196 (U "ballrockers.errors" 187)),(E P "__qualname__" 198 (U "BoardError" 197)),(E P "__firstlineno__" 200 (I 2 199)),(E P "__static_attributes__" 201 (R 22))] 4))
 def a9:=(Y "code" (A #[(U "BoardError" 191),(U "BoardError" 192),(V 193),(J 2),(J 0),(J 0),(J 0),(J 0),(R 18),(Value.bool false),(J 181),(R 19),O,O,O,O,(J 194),(J 2),(V 195)]))
 def Jh:=(Obj.mk (Value.type "frame") aD Data.plain #[(aC (R 20)),(aC (R 3)),(aC (R 17)),aD,(aC (U "ballrockers.errors" 187)),aD,(aC (R 0))])
 def a11:=(Y "dict" (Data.dict #[(E P "__module__" 196 (U "ballrockers.errors" 187)),(E P "__firstlineno__" 200 (I 2 199)),(E P "__static_attributes__" 201 (R 22)),(E P "__weakref__" 203 (R 25)),(E P "__doc__" 204 O)] 3))
 def a12:=(Obj.mk (Value.type "type") aD (Data.cls (ClassData.mk (S "BoardError") [(Value.type "ValueError")] [(R 24),(Value.type "ValueError"),(Value.type "Exception"),(Value.type "BaseException"),(Value.type "object")] 23 (S "BoardError") true [] [(R 37),(R 56),(R 68),(R 80),(R 92)] false aD false)) #[(aC (R 15)),aD,(aC (U "BoardError" 189)),(aC (U "BoardError" 197)),(aC (Value.builtin "ValueError.__new__")),(aC (Value.bool true))])
 def a13:=(Y "getset_descriptor" (A #[(U "__weakref__" 202),(R 24),(Value.builtin "ExceptionGroup.__weakref__"),O]))
 def a14:=(Y "super" (A #[(R 24),(R 24),(R 24)]))
 def a15:=(Y "builtin_function_or_method" (A #[(Value.builtin "object.__init_subclass__"),(R 24)]))
 def CT:=(Y "tuple" (Data.seq #[(R 24)] 0))
 def a17:=(Y "dict" (Data.dict #[(E P "__module__" 214 (U "ballrockers.errors" 187)),(E P "__qualname__" 216 (U "NoBoard" 215)),(E P "__firstlineno__" 218 (I 4 217)),(E P "__static_attributes__" 219 (R 35))] 4))
 def a18:=(Y "code" (A #[(U "NoBoard" 209),(U "NoBoard" 210),(V 211),(J 4),(J 0),(J 0),(J 0),(J 0),(R 31),(Value.bool false),(J 181),(R 32),O,O,O,O,(J 212),(J 4),(V 213)]))
 def a19:=(Obj.mk (Value.type "frame") aD Data.plain #[(aC (R 33)),(aC (R 3)),(aC (R 30)),aD,(aC (U "ballrockers.errors" 187)),aD,(aC (R 0))])
 def a20:=(Y "dict" (Data.dict #[(E P "__module__" 214 (U "ballrockers.errors" 187)),(E P "__firstlineno__" 218 (I 4 217)),(E P "__static_attributes__" 219 (R 35)),(E P "__doc__" 220 O)] 2))
 def a21:=(Obj.mk (Value.type "type") aD (Data.cls (ClassData.mk (S "NoBoard") [(R 24)] [(R 37),(R 24),(Value.type "ValueError"),(Value.type "Exception"),(Value.type "BaseException"),(Value.type "object")] 36 (S "NoBoard") true [] [] false aD false)) #[(aC (R 28)),aD,(aC (U "NoBoard" 207)),(aC (U "NoBoard" 215)),(aC (Value.builtin "ValueError.__new__")),(aC (Value.bool true))])
 def a22:=(Y "super" (A #[(R 37),(R 37),(R 37)]))
 def a23:=(Y "builtin_function_or_method" (A #[(Value.builtin "object.__init_subclass__"),(R 37)]))
 def a24:=(Y "dict" (Data.dict #[(E P "__module__" 230 (U "ballrockers.errors" 187)),(E P "__qualname__" 232 (U "Fault" 231)),(E P "__firstlineno__" 234 (I 6 233)),(E P "__init__" 243 (R 53)),(E P "__static_attributes__" 246 (R 54))] 5))
 def a25:=(X (A #[(J 8),(J 4),(R 52)]))
 def a26:=(Y "code" (A #[(U "Fault" 225),(U "Fault" 226),(V 227),(J 6),(J 0),(J 0),(J 0),(J 0),(R 43),(Value.bool false),(J 181),(R 44),O,O,O,O,(J 228),(J 6),(V 229)]))
 def a27:=(Obj.mk (Value.type "frame") aD Data.plain #[(aC (R 45)),(aC (R 3)),(aC (R 42)),aD,(aC (U "ballrockers.errors" 187)),aD,(aC (R 0))])
 def a28:=qT 238 ["self","row","column"]
 def a29:=(X (B (FuncData.mk (S "__init__") (S "Fault.__init__") (ca 3 0) (FuncBody.stmts (cb 3 0)) (cs 3 0) 0 [] O O O O aD O O 0)))
 def a30:=(Y "code" (A #[(U "__init__" 235),(U "Fault.__init__" 236),(V 237),(J 8),(J 3),(J 0),(J 0),(J 3),(R 47),(Value.bool true),(J 181),(R 48),O,(R 49),(R 50),(R 51),(J 241),(J 8),(V 242)]))
 def a31:=(Y "function" (B (FuncData.mk (S "__init__") (S "Fault.__init__") (ca 3 0) (FuncBody.stmts (cb 3 0)) (cs 3 0) 3 [] O O O (U "ballrockers.errors" 187) aD (R 52) O 0)))
 def a32:=qT 244 ["column","row"]
 def a33:=(Y "dict" (Data.dict #[(E P "__module__" 230 (U "ballrockers.errors" 187)),(E P "__firstlineno__" 234 (I 6 233)),(E P "__init__" 243 (R 53)),(E P "__static_attributes__" 246 (R 54)),(E P "__doc__" 247 O)] 2))
 def a34:=(Obj.mk (Value.type "type") aD (Data.cls (ClassData.mk (S "Fault") [(R 24)] [(R 56),(R 24),(Value.type "ValueError"),(Value.type "Exception"),(Value.type "BaseException"),(Value.type "object")] 55 (S "Fault") true [] [] false aD false)) #[(aC (R 40)),aD,(aC (U "Fault" 223)),(aC (U "Fault" 231)),(aC (Value.builtin "ValueError.__new__")),(aC (Value.bool true))])
 def a35:=(Y "super" (A #[(R 56),(R 56),(R 56)]))
 def a36:=(Y "builtin_function_or_method" (A #[(Value.builtin "object.__init_subclass__"),(R 56)]))
 def a37:=(Y "dict" (Data.dict #[(E P "__module__" 257 (U "ballrockers.errors" 187)),(E P "__qualname__" 259 (U "NoLeans" 258)),(E P "__firstlineno__" 261 (I 11 260)),(E P "__static_attributes__" 262 (R 66))] 4))
 def a38:=(Y "code" (A #[(U "NoLeans" 252),(U "NoLeans" 253),(V 254),(J 11),(J 0),(J 0),(J 0),(J 0),(R 62),(Value.bool false),(J 181),(R 63),O,O,O,O,(J 255),(J 11),(V 256)]))
 def a39:=(Obj.mk (Value.type "frame") aD Data.plain #[(aC (R 64)),(aC (R 3)),(aC (R 61)),aD,(aC (U "ballrockers.errors" 187)),aD,(aC (R 0))])
 def a40:=(Y "dict" (Data.dict #[(E P "__module__" 257 (U "ballrockers.errors" 187)),(E P "__firstlineno__" 261 (I 11 260)),(E P "__static_attributes__" 262 (R 66)),(E P "__doc__" 263 O)] 2))
 def a41:=(Obj.mk (Value.type "type") aD (Data.cls (ClassData.mk (S "NoLeans") [(R 24)] [(R 68),(R 24),(Value.type "ValueError"),(Value.type "Exception"),(Value.type "BaseException"),(Value.type "object")] 67 (S "NoLeans") true [] [] false aD false)) #[(aC (R 59)),aD,(aC (U "NoLeans" 250)),(aC (U "NoLeans" 258)),(aC (Value.builtin "ValueError.__new__")),(aC (Value.bool true))])
 def a42:=(Y "super" (A #[(R 68),(R 68),(R 68)]))
 def a43:=(Y "builtin_function_or_method" (A #[(Value.builtin "object.__init_subclass__"),(R 68)]))
 def a44:=(Y "dict" (Data.dict #[(E P "__module__" 273 (U "ballrockers.errors" 187)),(E P "__qualname__" 275 (U "NoRow" 274)),(E P "__firstlineno__" 277 (I 13 276)),(E P "__static_attributes__" 278 (R 78))] 4))
 def a45:=(Y "code" (A #[(U "NoRow" 268),(U "NoRow" 269),(V 270),(J 13),(J 0),(J 0),(J 0),(J 0),(R 74),(Value.bool false),(J 181),(R 75),O,O,O,O,(J 271),(J 13),(V 272)]))
 def a46:=(Obj.mk (Value.type "frame") aD Data.plain #[(aC (R 76)),(aC (R 3)),(aC (R 73)),aD,(aC (U "ballrockers.errors" 187)),aD,(aC (R 0))])
 def a47:=(Y "dict" (Data.dict #[(E P "__module__" 273 (U "ballrockers.errors" 187)),(E P "__firstlineno__" 277 (I 13 276)),(E P "__static_attributes__" 278 (R 78)),(E P "__doc__" 279 O)] 2))
 def a48:=(Obj.mk (Value.type "type") aD (Data.cls (ClassData.mk (S "NoRow") [(R 24)] [(R 80),(R 24),(Value.type "ValueError"),(Value.type "Exception"),(Value.type "BaseException"),(Value.type "object")] 79 (S "NoRow") true [] [] false aD false)) #[(aC (R 71)),aD,(aC (U "NoRow" 266)),(aC (U "NoRow" 274)),(aC (Value.builtin "ValueError.__new__")),(aC (Value.bool true))])
 def a49:=(Y "super" (A #[(R 80),(R 80),(R 80)]))
 def a50:=(Y "builtin_function_or_method" (A #[(Value.builtin "object.__init_subclass__"),(R 80)]))
 def a51:=(Y "dict" (Data.dict #[(E P "__module__" 289 (U "ballrockers.errors" 187)),(E P "__qualname__" 291 (U "NoNumber" 290)),(E P "__firstlineno__" 293 (I 15 292)),(E P "__static_attributes__" 294 (R 90))] 4))
 def a52:=(Y "code" (A #[(U "NoNumber" 284),(U "NoNumber" 285),(V 286),(J 15),(J 0),(J 0),(J 0),(J 0),(R 86),(Value.bool false),(J 181),(R 87),O,O,O,O,(J 287),(J 15),(V 288)]))
 def a53:=(Obj.mk (Value.type "frame") aD Data.plain #[(aC (R 88)),(aC (R 3)),(aC (R 85)),aD,(aC (U "ballrockers.errors" 187)),aD,(aC (R 0))])
 def a54:=(Y "dict" (Data.dict #[(E P "__module__" 289 (U "ballrockers.errors" 187)),(E P "__firstlineno__" 293 (I 15 292)),(E P "__static_attributes__" 294 (R 90)),(E P "__doc__" 295 O)] 2))
 def a55:=(Obj.mk (Value.type "type") aD (Data.cls (ClassData.mk (S "NoNumber") [(R 24)] [(R 92),(R 24),(Value.type "ValueError"),(Value.type "Exception"),(Value.type "BaseException"),(Value.type "object")] 91 (S "NoNumber") true [] [] false aD false)) #[(aC (R 83)),aD,(aC (U "NoNumber" 282)),(aC (U "NoNumber" 290)),(aC (Value.builtin "ValueError.__new__")),(aC (Value.bool true))])
 def a56:=(Y "super" (A #[(R 92),(R 92),(R 92)]))
 def a57:=(Y "builtin_function_or_method" (A #[(Value.builtin "object.__init_subclass__"),(R 92)]))
 def a58:=qT 303 ["thing"]
 def a59:=qG "is_whole" 8
 def a60:=qC "is_whole" 300 18 1 95 304
 def tH:=U "ballrockers.whole" 298
 def a61:=qF "is_whole" 8 tH 100
 def a62:=qT 310 ["thing","low","high"]
 def a63:=qG "is_whole_within" 9
 def a64:=qC "is_whole_within" 307 20 3 102 313
 def a65:=qF "is_whole_within" 9 tH 107
 def a66:=qT 319 ["thing","fewest","most"]
 def a67:=qG "is_tuple_within" 10
 def a68:=qC "is_tuple_within" 316 22 3 109 322
 def a69:=qF "is_tuple_within" 10 tH 114
 def a70:=qT 328 ["thing","fewest","most","low","high","number"]
 def a71:=qG "are_wholes_within" 11
 def a72:=qC "are_wholes_within" 325 24 5 116 334
 def a73:=qF "are_wholes_within" 11 tH 121
 def Rq:List Obj:=((Rm P).set 3 (a4 P)).set 12 a5++[a6,a7,(a8 P),a0,a1,a9,Jh,a0,(a11 P),a12,a13,a14,a15,CT,a7,(a17 P),a0,a1,a18,a19,a0,(a20 P),a21,a22,a23,CT,a7,(a24 P),a0,a25,a26,a27,a0,a1,a28,a0,a29,a30,a31,a32,(a33 P),a34,a35,a36,CT,a7,(a37 P),a0,a1,a38,a39,a0,(a40 P),a41,a42,a43,CT,a7,(a44 P),a0,a1,a45,a46,a0,(a47 P),a48,a49,a50,CT,a7,(a51 P),a0,a1,a52,a53,a0,(a54 P),a55,a56,a57,a0,a1,a58,a0,a59,a60,a61,a0,a1,a62,a0,a63,a64,a65,a0,a1,a66,a0,a67,a68,a69,a0,a1,a70,a0,a71,a72,a73]
 def t0:=qB 20 (Rq P)
noncomputable def s0(w:ak)(os:ay):SharedT:=⟨t0 w.params,123,life,(Array.mk []),(Drawn.mk 0 0 0 0),349,os⟩
noncomputable def kr:List au:=(bd.drop 0).take 18
set_option maxHeartbeats 0 in
theorem KA(w:ak)(os:ay):segRun treeTable p w m0 ann 1 1483 (sb w os).abs (piecesOf kr env cd (Pos.mk 0 0 0 0) fr)=aC (.next,(s0 w os).abs,cd,(Pos.mk 36 0 36 9)):=uZ (by kernel_rfl)
 def KC:=(Rn P++[(E P "look_at_board" 362 (R 129)),(E P "is_leans" 370 (R 136)),(E P "look_at_leans" 378 (R 143)),(E P "is_row" 387 (R 150)),(E P "is_board_but_for_places" 399 (R 157)),(E P "are_rows" 408 (R 164)),(E P "are_doors" 418 (R 171)),(E P "is_door" 428 (R 178)),(E P "is_feeder_or_none" 436 (R 185)),(E P "may_stand" 446 (R 192)),(E P "is_rocker" 456 (R 199)),(E P "are_leans" 464 (R 206)),(E P "LEFT" 469 (I (-1) 468)),(E P "STRAIGHT" 471 (I 0 470)),(E P "RIGHT" 473 (I 1 472)),(E P "NO_DOOR" 474 (R 207)),(E P "heading_behind" 487 (R 215)),(E P "MOST_BALLS_AT_ONCE" 491 (I 200 490)),(E P "MOST_BEAT" 493 (I 100 492)),(E P "at_once" 499 (R 220)),(E P "passings" 505 (R 225)),(E P "_law_cell" 515 (R 232)),(E P "_law_mixed" 525 (R 239)),(E P "_law_deck" 531 (R 244)),(E P "_law_take" 540 (R 251)),(E P "_law_piece" 552 (R 258)),(E P "_law_row" 558 (R 263)),(E P "_law_door" 568 (R 270)),(E P "_law_board" 574 (R 275)),(E P "_law_leans" 580 (R 280)),(E P "_law_is" 588 (R 287)),(E P "_law_are" 594 (R 292)),(E P "_law_met" 604 (R 299)),(E P "_law_at_once" 610 (R 304)),(E P "_law_is_name" 618 (R 311)),(E P "_law_is_told" 624 (R 316)),(E P "law" 630 (R 321))])
 def a74:=Y "dict" (Data.dict ((E P "__name__" 165 (U "law_ballrockers_k71_at_once" 506))::KC P).toArray 61)
 def KD:List (Int×Nat):=Ro++[(37,128),(45,135),(48,142),(51,149),(53,156),(62,163),(69,170),(76,177),(81,184),(83,191),(91,198),(96,205),(103,214),(120,219),(137,224),(140,231),(144,238),(147,243),(149,250),(158,257),(170,262),(172,269),(178,274),(185,279),(187,286),(189,291),(193,298),(201,303),(218,310),(222,315),(228,320)]
 def a75:=X (A (qJ KD).toArray)
 def a76:=qT 352 ["board","width","groups","rows","row","places","column","piece"]
 def a77:=qG "look_at_board" 18
 def a78:=qC "look_at_board" 349 37 1 123 360
 def gU:=U "ballrockers.boards" 337
 def a79:=qF "look_at_board" 18 gU 128
 def a80:=qT 366 ["board","thing"]
 def a81:=qG "is_leans" 19
 def a82:=qC "is_leans" 363 45 2 130 368
 def a83:=qF "is_leans" 19 gU 135
 def a84:=qT 374 ["board","thing"]
 def a85:=qG "look_at_leans" 20
 def a86:=qC "look_at_leans" 371 48 2 137 376
 def a87:=qF "look_at_leans" 20 gU 142
 def a88:=qT 382 ["thing","feeders","most"]
 def a89:=qG "is_row" 21
 def a90:=qC "is_row" 379 51 3 144 385
 def a91:=qF "is_row" 21 gU 149
 def a92:=qT 391 ["board","width","groups","rows","feeders","doors"]
 def a93:=qG "is_board_but_for_places" 22
 def a94:=qC "is_board_but_for_places" 388 53 1 151 397
 def a95:=qF "is_board_but_for_places" 22 gU 156
 def a96:=qT 403 ["thing","width","places"]
 def a97:=qG "are_rows" 23
 def a98:=qC "are_rows" 400 62 2 158 406
 def a99:=qF "are_rows" 23 gU 163
 def KG:=qT 412 ["thing","width","feeders","door"]
 def KH:=qG "are_doors" 24
 def KI:=qC "are_doors" 409 69 3 165 416
 def KJ:=qF "are_doors" 24 gU 170
 def KL:=qT 422 ["thing","feeders","name","call"]
 def KN:=qG "is_door" 25
 def KP:=qC "is_door" 419 76 2 172 426
 def KQ:=qF "is_door" 25 gU 177
 def KR:=qT 432 ["thing","feeders"]
 def KS:=qG "is_feeder_or_none" 26
 def KU:=qC "is_feeder_or_none" 429 81 2 179 434
 def KW:=qF "is_feeder_or_none" 26 gU 184
 def KY:=qT 440 ["piece","column","width","groups"]
 def KZ:=qG "may_stand" 27
 def K0:=qC "may_stand" 437 83 4 186 444
 def K9:=qF "may_stand" 27 gU 191
 def La:=qT 450 ["thing","groups","group","side"]
 def Lb:=qG "is_rocker" 28
 def Lc:=qC "is_rocker" 447 91 2 193 454
 def Ld:=qF "is_rocker" 28 gU 198
 def Le:=qT 460 ["thing","groups"]
 def Lf:=qG "are_leans" 29
 def Lg:=qC "are_leans" 457 96 2 200 462
 def Lh:=qF "are_leans" 29 gU 205
 def Li:=(Y "tuple" (Data.seq #[O,O] 0))
 def Lj:=(Y "tuple" (Data.seq #[O] 0))
 def Lk:=qT 478 ["piece","heading","leaning","fault","group","side","lean"]
 def Ll:=qG "heading_behind" 35
 def Lm:=qC "heading_behind" 475 103 4 209 485
 def Ln:=(Y "function" (B (G "heading_behind" 35 3 [] (R 208) O O (U "ballrockers.ways" 465) aD (R 214) O 0)))
 def Lo:=qG "at_once" 39
 def Lp:=qD "at_once" 494 120 4 216 497
 def Lq:=qF "at_once" 39 (U "ballrockers.beats" 488) 219
 def Lr:=qG "passings" 40
 def Ls:=qD "passings" 500 137 3 221 503
 def Lu:=qF "passings" 40 (U "ballrockers.beats" 488) 224
 def Lv:=qT 511 ["_law_script","_law_k"]
 def Lw:=qG "_law_cell" 42
 def Lx:=qC "_law_cell" 508 140 2 226 513
 def eY:=U "law_ballrockers_k71_at_once" 506
 def Ly:=qF "_law_cell" 42 eY 231
 def Lz:=qT 519 ["_law_script","_law_k","_law_many","_law_number"]
 def LA:=qG "_law_mixed" 43
 def LB:=qC "_law_mixed" 516 144 3 233 523
 def LC:=qF "_law_mixed" 43 eY 238
 def LD:=qG "_law_deck" 44
 def LF:=qD "_law_deck" 526 147 1 240 529
 def LG:=qF "_law_deck" 44 eY 243
 def LH:=qT 535 ["_law_deck_here","_law_many","_law_cell_here"]
 def LI:=qG "_law_take" 45
 def LJ:=qC "_law_take" 532 149 2 245 538
 def LK:=qF "_law_take" 45 eY 250
 def LL:=qT 544 ["_law_deck_here","_law_column","_law_width","_law_groups","_law_kind","_law_piece_here"]
 def LM:=qG "_law_piece" 46
 def LN:=qC "_law_piece" 541 158 4 252 550
 def LO:=qF "_law_piece" 46 eY 257
 def LP:=qG "_law_row" 47
 def LQ:=qD "_law_row" 553 170 3 259 556
 def LR:=qF "_law_row" 47 eY 262
 def LS:=qT 562 ["_law_deck_here","_law_feeders","_law_name","_law_call"]
 def LU:=qG "_law_door" 48
 def LV:=qC "_law_door" 559 172 2 264 566
 def LW:=qF "_law_door" 48 eY 269
 def LY:=qG "_law_board" 49
 def LZ:=qD "_law_board" 569 178 4 271 572
 def L1:=qF "_law_board" 49 eY 274
 def L3:=qG "_law_leans" 50
 def L4:=qD "_law_leans" 575 185 2 276 578
 def L5:=qF "_law_leans" 50 eY 279
 def L6:=qT 584 ["_law_found","_law_due"]
 def L7:=qG "_law_is" 51
 def L8:=qC "_law_is" 581 187 2 281 586
 def Ma:=qF "_law_is" 51 eY 286
 def Mb:=qG "_law_are" 52
 def Mc:=qD "_law_are" 589 189 2 288 592
 def Me:=qF "_law_are" 52 eY 291
 def Mf:=qT 598 ["_law_piece_here","_law_leans_here","_law_came","_law_side"]
 def Mh:=qG "_law_met" 53
 def Mi:=qC "_law_met" 595 193 3 293 602
 def Mj:=qF "_law_met" 53 eY 298
 def Mk:=qG "_law_at_once" 54
 def Ml:=qD "_law_at_once" 605 201 4 300 608
 def Mm:=qF "_law_at_once" 54 eY 303
 def Mn:=qT 614 ["_law_found","_law_due"]
 def Mp:=qG "_law_is_name" 55
 def Mq:=qC "_law_is_name" 611 218 2 305 616
 def Mr:=qF "_law_is_name" 55 eY 310
 def Ms:=qG "_law_is_told" 56
 def Mu:=qD "_law_is_told" 619 222 2 312 622
 def Mv:=qF "_law_is_told" 56 eY 315
 def Mw:=qG "law" 57
 def Mx:=qD "law" 625 228 1 317 628
 def My:=qF "law" 57 eY 320
 def Mz:List Obj:=((Rq P).set 3 (a74 P)).set 12 a75++[a0,a1,a76,a0,a77,a78,a79,a0,a1,a80,a0,a81,a82,a83,a0,a1,a84,a0,a85,a86,a87,a0,a1,a88,a0,a89,a90,a91,a0,a1,a92,a0,a93,a94,a95,a0,a1,a96,a0,a97,a98,a99,a0,a1,KG,a0,KH,KI,KJ,a0,a1,KL,a0,KN,KP,KQ,a0,a1,KR,a0,KS,KU,KW,a0,a1,KY,a0,KZ,K0,K9,a0,a1,La,a0,Lb,Lc,Ld,a0,a1,Le,a0,Lf,Lg,Lh,Li,Lj,a0,a1,Lk,a0,Ll,Lm,Ln,a0,a1,Lo,Lp,Lq,a0,a1,Lr,Ls,Lu,a0,a1,Lv,a0,Lw,Lx,Ly,a0,a1,Lz,a0,LA,LB,LC,a0,a1,LD,LF,LG,a0,a1,LH,a0,LI,LJ,LK,a0,a1,LL,a0,LM,LN,LO,a0,a1,LP,LQ,LR,a0,a1,LS,a0,LU,LV,LW,a0,a1,LY,LZ,L1,a0,a1,L3,L4,L5,a0,a1,L6,a0,L7,L8,Ma,a0,a1,Mb,Mc,Me,a0,a1,Mf,a0,Mh,Mi,Mj,a0,a1,Mk,Ml,Mm,a0,a1,Mn,a0,Mp,Mq,Mr,a0,a1,Ms,Mu,Mv,a0,a1,Mw,Mx,My]
 def t1:=qB 20 (Mz P)
noncomputable def s1(w:ak)(os:ay):SharedT:=⟨t1 w.params,322,life,(Array.mk []),(Drawn.mk 0 0 0 0),631,os⟩
noncomputable def st1:List au:=(bd.drop 18).take 40
set_option maxHeartbeats 0 in
theorem MA(w:ak)(os:ay):segRun treeTable p w m0 ann 1 1015 (s0 w os).abs (piecesOf st1 env cd (Pos.mk 36 0 36 9) fr)=aC (.next,(s1 w os).abs,cd,(Pos.mk 228 0 241 15)):=uZ (by kernel_rfl)
 def hz:aA:=Heap.mk (Array.mk (Mz P)) (Life.mk [] [] [] 0 [] [] false #[] [] 0 false false false 0 [2000,10,10] false 0 true [] [] 0 false)
noncomputable def sz(w:ak)(os:ay):af:=⟨hz w.params,(Array.mk []),(Drawn.mk 0 0 0 0),631,os⟩
set_option maxHeartbeats 0 in
theorem fin(w:ak)(os:ay):topRun treeTable p w m0 ann 2 (s1 w os).abs ⟨doneF .next,cd,(Pos.mk 228 0 241 15),fr⟩=aC (sz w os):=CS (by kernel_rfl)
 def as:List ah:=[2,3,15,22,23,24,25,28,35,36,37,40,47,49,50,52,53,54,55,56,59,66,67,68,71,78,79,80,83,90,91,92,95,97,98,100,101,102,104,105,107,108,109,111,112,114,115,116,118,119,121,122,123,125,126,128,129,130,132,133,135,136,137,139,140,142,143,144,146,147,149,150,151,153,154,156,157,158,160,161,163,164,165,167,168,170,171,172,174,175,177,178,179,181,182,184,185,186,188,189,191,192,193,195,196,198,199,200,202,203,205,206,207,208,209,211,212,214,215,216,219,220,221,224,225,226,228,229,231,232,233,235,236,238,239,240,243,244,245,247,248,250,251,252,254,255,257,258,259,262,263,264,266,267,269,270,271,274,275,276,279,280,281,283,284,286,287,288,291,292,293,295,296,298,299,300,303,304,305,307,308,310,311,312,315,316,317,320,321]
 def K:Frag:=as.map λi=>(i,(Mz P).getD i a0)
noncomputable def M0:Nat:=(12+ (1+ (1483+ (1015+2))))
theorem CU:bd=kr++(st1++([])):=by kernel_rfl
theorem rest(w:ak)(os:ay):topRun treeTable p w m0 ann (1483+ (1015+ (2))) (sb w os).abs (restOf bd env cd (Pos.mk 0 0 0 0) fr)=aC (sz w os):=by rw[show restOf bd env cd (Pos.mk 0 0 0 0) fr=restOf (kr++(st1++([]))) env cd (Pos.mk 0 0 0 0) fr from kF (λb=>restOf b env cd (Pos.mk 0 0 0 0) fr) CU];exact(piece_app (KA w os) (piece_app (MA w os) (piece_nil (fin w os))))
theorem run(w:ak)(os:ay):topRun treeTable p w m0 ann M0 ⟨boot_heap w.params,Array.mk [],boot_drawn,boot_toks,os⟩ (topStub p)=aC (sz w os):=
 go_top (pre w os) (piece_block (block w os) (rest w os))
noncomputable def pR:Nat:=57
noncomputable def zxq:Pos:=(Pos.mk 228 0 241 15)
noncomputable def q:ai:={p with main:={p.main with body:=keep.map (xG p.main.body)}}
theorem CV:∀P,as=(K P).map (·.1):=λ_=>by kernel_rfl
noncomputable def H:Hook:=kHook K as CV
noncomputable def Xt(s:af):Bool:=xlAt q [] s&&recOk [] s
theorem zxr(w:ak)(os:ay):(staticsOk (importedModules p.main.body) (boot_heap w.params) (hz w.params)&&namesBound p (hz w.params)&&gensDone (sz w os)&&laidKept (boot_heap w.params) (hz w.params))=true:=by rw[PySem.W.Fast.te5923862056798008813];kernel_rfl
theorem zxs(w:ak)(os:ay):seen ((recsOf q).map (·.name)) (ownsOf q) [] {sz w os with gens:=#[]}=expectedOf q:=by rw[PySem.W.Fast.te5160383126252970620,PySem.W.R.mapR_eq,PySem.W.Fast.te3399658132070893891,PySem.W.Fast.te5991557255702980513];kernel_rfl
theorem CW(w:ak)(os:ay):(sz w os).heap.bltView=bltViewBooted:=by kernel_rfl
theorem zxt(w:ak)(os:ay):((sz w os).heap.keysOk (looseW q lo) ((recsOf q).map (·.name)) ((litsOf q).map (·.1)) ((clssOf q (looseW q lo)).map (·.name))&& (sz w os).heap.accountedOkI (importedModules p.main.body)&& (sz w os).heap.isNs mainGlobals&& (sz w os).heap.isNs builtinsNs&&tablesOk q (sz w os).heap&&Xt (sz w os)&& (if true=true then(sz w os).gens.size==0 else !leftWithCleanup (sz w os).gens))=true:=by rw[PySem.W.Fast.te10880121769531294198,PySem.W.Fast.te821141287760084731,PySem.W.R.mapR_eq,PySem.W.Fast.te3399658132070893891,PySem.W.Fast.te7409074990110511671,PySem.W.Fast.te13664370479719496447,PySem.W.Fast.te14722251495701143533,PySem.W.Fast.te10994771534591457954,PySem.W.Fast.te5923862056798008813];kernel_rfl
theorem zxu(w:ak)(os:ay):tabsOk q (sz w os)=true:=by rw[PySem.W.Fast.te479339242167458305];kernel_rfl
theorem CY(w:ak)(os:ay):pinSeenD q (drecsOf q) (sz w os)=pinGoodD (drecsOf q):=by rw[PySem.W.Fast.te16090120013241838585,PySem.W.Fast.te3247288618530077131];kernel_rfl
theorem CZ(w:ak)(os:ay):plainSeenE q (looseW q lo) (sz w os)=plainGoodE q (looseW q lo):=by rw[PySem.W.Fast.te2386780881361962483,PySem.W.Fast.te821141287760084731];kernel_rfl
theorem C0(w:ak)(os:ay):plainSeenD q lo (sz w os)=plainGoodD q lo:=by rw[PySem.W.Fast.te11698064438423848299];kernel_rfl
theorem zxv(w:ak)(os:ay):wideSeen q (sz w os)=wideGood q:=by rw[PySem.W.Fast.te7317090234206586261];kernel_rfl
theorem C4(w:ak)(os:ay):clsSeenW q lo (sz w os)=clsGoodW q lo:=by rw[PySem.W.Fast.te7369524293546568484];kernel_rfl
theorem zxw(w:ak)(os:ay):as.map (sz w os).heap.get?=(K w.params).map λp=>aC p.2:=by kernel_rfl
theorem left:LeftO p q lo Xt (Hook.obs H) (Hook.val H) N0 true:=
 LeftO.of_pieces (H₀:=boot_heap) (H₁:=hz) (boot_open (by kernel_rfl) (by kernel_rfl) (λs=>by kernel_rfl)) (λw=>by kernel_rfl) run (by kernel_rfl)
  (λw=>funext λos=>looks_pair (zxr w os) (looks_pair
    (looks_pair (zxs w os) (looks_pair (CW w os) (looks_pair (zxt w os) (looks_pair (zxu w os) (looks_pair (CY w os) (looks_pair (CZ w os) (looks_pair (C0 w os) (looks_pair (zxv w os) (C4 w os)))))))))
    (zxw w os)))
noncomputable def df:DefRec:=⟨S "law",fa pR,fb pR,fs pR,zxq⟩
theorem C5:defOf q (S "law")=aC (df,[]):=by kernel_rfl
theorem holds(l:OpenLaw)(hp:l.prog=p)(hn:l.name=S "law")(ok:l.wellSaid)(hch:(chainsOk q&&opensWell p&& (frees l.row.toRowW&&l.row.within.isEmpty)))(hb:l.row.toRowW.prog.bare)(hw:l.row.toRowW.promised)
 (hwr:(!l.row.writes||l.row.records.isEmpty)) (hk:p.theDef (S "law")=aC (df.params,df.body,df.scope)) (hkw:kwWritten? df.params.kwonlyargs df.params.kw_defaults=aC [])
 (call:WalkO q lo (XL q []) (Hook.says H) l.row.toRowW df [] λf vs=>PySem.call f vs):l.Holds:=
 holds_law ok λsaid=>PySem.W.holds_open (q:=q) (loose:=lo) (Xt:=Xt) (XP:=XL q []) (Yf:=Hook.obs H) (Ya:=Hook.val H) (YP:=Hook.says H) (N:=N0) (r:=l.row) (by have h:l.row.toRowW.prog=p:=hp;show LeftO l.row.toRowW.prog q lo Xt (Hook.obs H) (Hook.val H) N0 true;rw[h];exact left) (Hook.of H) (Hook.keeps H) (λs e=>xl_of s (Bool.and_eq_true_iff.mp e).1) XL.keeps
  (by show defOf q l.name=_;rw[hn];exact C5) (by show l.prog.theDef l.name=_;rw[hp,hn];exact hk) hkw (λs e=>recFacts_of (Bool.and_eq_true_iff.mp e).2) hwr said (by have h:l.row.toRowW.prog=p:=hp;rw[h];exact hch) hb hw call
end
end
end HD
namespace RF
noncomputable def Rr:List PySem.Str:=(["is_whole","is_whole_within","_law_cell","_law_deck","_law_mixed","_law_take","is_tuple_within","are_wholes_within","are_doors","are_rows","is_board_but_for_places","is_door","is_feeder_or_none","is_rocker","look_at_board","may_stand"]++bE 1 "" ++ ["are_leans"]++bE 2 "" ++ ["_law_leans"]++bE 1 "" ++ ["is_leans","_law_door","look_at_leans"]++bE 3 "" ++ ["is_row"]++bE 74 "" ++ ["_law_piece","_law_row"]++bE 2 "" ++ ["passings"]++bE 21 "" ++ ["_law_board"]++bE 10 "" ++ ["_law_are"]++bE 1 "" ++ ["_law_at_once"]++bE 8 "" ++ ["_law_is"]++bE 1 "" ++ ["_law_is_name"]++bE 2 "" ++ ["_law_is_told"]++bE 1 "" ++ ["_law_met"]++bE 14 "" ++ ["heading_behind"]++bE 96 "" ++ ["at_once"]++bE 429 "" ++ ["law"]).map br
noncomputable def Rt:List Fn:=[EZ,Ji,E1,Cc,Jj,su,Ce,Cf,Jk,Jl,wR,sA,wU,sC,wV,wW]++bE 1 eV++[sD]++bE 2 eV++[o5]++bE 1 eV++[o9,wX,sE]++bE 3 eV++[sF]++bE 74 eV++[jW,lS]++bE 2 eV++[lV]++bE 21 eV++[pe]++bE 10 eV++[iY]++bE 1 eV++[pq]++bE 8 eV++[iC]++bE 1 eV++[i6]++bE 2 eV++[jX]++bE 1 eV++[fX]++bE 14 eV++[dJ]++bE 96 eV++[lU]++bE 429 eV++[Fj]
theorem c71:Kw λi=>Rt[i]?:=by repeat' (first|rfl|constructor)
end RF
set_option maxHeartbeats 0 in
theorem RF.MB(P:PySem.Params):RF.iX (HD.K P) RF.Rr 60 60=aC RF.Rt:=by kernel_rfl
open PySem PySem.W PyProof.Rows
set_option maxRecDepth 100000 in
set_option maxHeartbeats 0 in
theorem PySem.Challenge.cw_ballrockers_k71_at_once_holds : PySem.Challenge.rw_ballrockers_k71_at_once.Holds := by
 refine HD.holds _ rfl rfl RF.pa71 (by kernel_rfl) ⟨rfl,rfl,rfl,rfl,rfl,by decide +kernel⟩ ?hw rfl (by kernel_rfl) (by kernel_rfl) ?call
 (case hw=>w_witness2)
 refine RF.YY RF.Rr 60 60 30 700 rfl (by kernel_rfl) ⟨rfl,by decide,by decide⟩ (λw h Y=>PySem.W.kIn_of Y) (by kernel_rfl) (by decide +kernel) ?b ?c
 (case c=>intro w;kernel_rfl)
 (case b=>
   intro w ns hl
   exact RF.YX (RF.MB _) (RF.CP RF.c71 hl))
