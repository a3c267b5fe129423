import PyProof.Rows.All
import Wide.All
import OpenK.AllK
import Wide.FinOn
import Lean
import PyProof.EqAt
import PyProof.EqKinds
import PyProof.TupleCall
import KE.KUnpack
import PySem.Challenge.RW_ballrockers_k55_no_words
set_option Elab.async false
set_option linter.all false
set_option genSizeOf false
set_option bootstrap.genMatcherCode false
set_option compiler.extract_closed false
set_option maxRecDepth 100000
set_option maxHeartbeats 0 in
theorem RF.pa55:PySem.Challenge.rw_ballrockers_k55_no_words.wellSaid=true:=by kernel_rfl
def gW:=@decide_eq_true_eq
def iT:=@decide_eq_true
def jt:=@decide_eq_false
def lN:=@of_decide_eq_true
def dg:=@if_true
def fM:=@if_false
def lC:=@beq_iff_eq
def jQ:=@congrArg
def E4:=@beq_eq_false_iff_ne
def uJ:=@or_false
open PySem renaming Value->af,Shared->ah,Addr->ai,Program->aj,World->ak,Around->ao,Expr->aq,Stmt->au,FuncData->av,OsState->ay,Scope->az,Heap->aA,PyData->aB
open Option renaming some->aC,none->aD
open PySem.W renaming Frag->aI
open PySem.Str renaming ofString->cg
open List renaming replicate->bN
open Bool renaming and_eq_true->bw,false_eq_true->gY,false_ne_true->lD,or_eq_true->pL,not_eq_true'->uK,eq_iff_iff->zg,false_and->Ay,and_false->E5,or_true->E6
open PySem renaming wpAny_bind->aK,wpAny_pure->bR,wpAny_mono->iC,wpAny_standAt->kB,wpAny_field->jR,wpAny_holding->lO,wpAny_truthy_bool->rK,wpAny_newObj_type->rL,wpAny_callSpecial?_slot->zh,wpAny_pyIter_tuple->wJ,wpAny_Call_Name_kw->wK,wpAny_setField_rec->zj,wpAny_seqItems->uL,wpAny_passesOwn->wL,wpAny_pyIter_list->zk,mem_of_lookup->Az,wpAny_call_entry->zl,wpAny_execs_nil->zm,call_meets->rM,wpAny_loadPart_at->AA,noFill_tuple_add->AB,wpAny_isSubtype_exc->E7,wpAny_rule->sN,wpAny_setField->AD,seq_tuple_add->AE,wpAny_call->wM,wpAny_of_eq->zo,codeAny_mono->AG,sizeLine_eq->AH,wpAny_attempt->E8,wpAny_onRaise->E9,wpAny_typeOf->Fb,wpAny_ite->zp
open List renaming length_map->bG,getElem?_eq_getElem->cM,length_cons->dj,getElem?_eq_some_iff->gZ,getElem?_map->dY,size_toArray->eG,mem_cons_of_mem->fS,length_append->fC,mem_cons_self->gj,getElem?_eq_none->jm,lookup_cons->gQ,mem_cons->eO,map_append->gu,map_cons->fD,all_eq_true->iU,mem_singleton->jE,getD_eq_getElem?_getD->nQ,getElem?_append_right->oX,mem_append_right->lP,mem_of_getElem?->mP,mem_map->iK,getElem?_eq_none_iff->rN,getElem_mem->lQ,getElem?_set_self->rO,getElem?_cons_succ->sO,getElem?_append_left->uM,foldl_cons->mQ,mem_append->nR,append_nil->nS,take_add_one->pN,replicate_succ->sP,length_singleton->uN,take_length->pO,mem_range->oY,find?_cons->pP,length_take->rP,filterMap_cons->uO,length_replicate->wN,getElem?_cons_zero->zq,zip_cons_cons->uP,set_cons_zero->uQ,getElem?_set_ne->wO,cons_append->sQ,flatten_cons->uR,all_cons->pQ,set_cons_succ->wQ,not_mem_nil->uS,length_range->wR,getElem?_range->zu,length_drop->wU,length_range'->zw,drop_eq_getElem_cons->Fc,mem_or_eq_of_mem_set->Fd,nodup_cons->wV,length_set->wW,eq_of_mem_replicate->Fe,getElem?_replicate->Ff,drop_eq_nil_of_le->Fg,append_assoc->AI,any_cons->vec,mem_range'_1->Fi,foldl_append->Fj,isEmpty_iff->Fo,of_mem_zip->Fp,forIn_cons->Fq,range_succ->Ft,map_nil->AJ
open PySem.Heap renaming get?_push_of_some->cH,lt_size->cN,get?_push_size->i8,size_push->kg,get?_update_other->wX,get?_update_self->Fv
open Nat renaming le_refl->aZ,lt_of_lt_of_le->dF,le_trans->eS,ne_of_lt->fN,lt_irrefl->g9,le_of_ble_eq_true->lR,lt_succ_self->jF,not_lt->jn,zero_add->kC,eq_of_beq_eq_true->wY,zero_le->lS,ne_of_gt->oZ,le_succ->o8,le_of_succ_le->zx,lt_succ_of_lt->zy,le_of_lt->sR,ble_eq->pR,lt_of_le_of_lt->AK,not_lt_zero->AL,sub_add_cancel->Fw,le_succ_of_le->Fx,le_of_eq->zz,le_add_right->Fy
open PySem.AutoSeq1 renaming wpAny_loadPart'->pS
open Int renaming eq_ofNat_of_zero_le->rQ,toNat_natCast->vcs,emod_lt_of_pos->AM,natCast_nonneg->FA,emod_nonneg->AN,mul_comm->FD
open Option renaming map_some->lU,join_some->wZ,bind_some->zA
open PySem.W renaming kia_one->mR,mg_of->AO
open PyProof.Rows renaming slot_tuple_getitem->zB,callWith_type1->AQ
open Ne renaming symm->eT
open Array renaming getElem?_eq_some_iff->zC,length_toList->zD
open Option.some renaming inj->pU
open PySem.W.Fast renaming te14364793385576792824->FF
open PySem.F renaming args_tuple_add_2->AS,entry_tuple_add->AU,slot_tuple_add->AV,slot_tuple_iterator_next->FG,slot_tuple_mul->AW,slot_zip_next->FH
open PySem.SeqAt renaming canLay_of_shaped->FI
open PySem.Paired renaming length->zE
open LawfulMonad renaming pure_bind->xg
open Sum.inl renaming inj->FJ
namespace L2
theorem aR1(h:True:=by rfl):True:=h
theorem aD1(h:True:=by decide):True:=h
theorem aF1(h:True:=by first|exact .inl rfl|exact .inr rfl|assumption):True:=h
end L2
namespace L2
open PySem PySem.Spec PyProof.Rows
noncomputable abbrev Key:=Sum Int Str
noncomputable def jG:Key->af->Bool|.inl k,v=>Value.isInt k v|.inr x,v=>Value.isStrOf x v
noncomputable def Ib(w:ak):Key->Int|.inl k=>hashInt k|.inr x=>hashStr w x
theorem rR:∀{k:Key} {v:af},jG k v=true->(∃i t,k=Sum.inl i/\v=Value.int i t)\/(∃x t,k=Sum.inr x/\v=Value.str x t)
 |.inl i,v,h=>by
  obtain⟨t,e⟩:=Value.isInt_shape (k:=i) (v:=v) h;exact .inl ⟨i,t,rfl,e⟩
 |.inr x,v,h=>by
  obtain⟨t,e⟩:=Value.isStrOf_shape (x:=x) (v:=v) h;exact .inr ⟨x,t,rfl,e⟩
theorem VG(i:Int)(t:Tok):jG (.inl i) (.int i t)=true:=by simp[jG,Value.isInt]
theorem VI(x:Str)(t:Tok):jG (.inr x) (.str x t)=true:=by simp[jG,Value.isStrOf]
theorem VJ(a b:Int):decide ((Sum.inl a:Key)=Sum.inl b)=(a==b):=by by_cases e:a=b;subst e;simp;have h:¬(Sum.inl a:Key)=Sum.inl b:=λq=>e (FJ q);rw[jt h];exact(E4.mpr e).symm
theorem VL(a b:Str):decide ((Sum.inr a:Key)=Sum.inr b)=decide (a=b):=by by_cases e:a=b;subst e;simp;have h:¬(Sum.inr a:Key)=Sum.inr b:=λq=>e (Sum.inr.inj q);rw[jt h,jt e]
theorem VM(a:Int)(b:Str):decide ((Sum.inl a:Key)=Sum.inr b)=false:=jt (λq=>nomatch q)
theorem VN(a:Str)(b:Int):decide ((Sum.inr a:Key)=Sum.inl b)=false:=jt (λq=>nomatch q)
noncomputable def i9(prog:aj)(w:ak):PySem.KeyKind prog w Key where
 is:=jG
 hash:=Ib w
 inj:=λv a b ha hb=>by
  rcases rR ha with⟨i,t,rfl,rfl⟩|⟨x,t,rfl,rfl⟩
  .rcases rR hb with⟨j,u,rfl,e⟩|⟨y,u,rfl,e⟩
   .injection e with e1 _;rw[e1]
   .exact nomatch e
  .rcases rR hb with⟨j,u,rfl,e⟩|⟨y,u,rfl,e⟩
   .exact nomatch e
   .injection e with e1 _;rw[e1]
 byValue:=λk v h=>by
  rcases rR h with⟨i,t,rfl,rfl⟩|⟨x,t,rfl,rfl⟩<;>rfl
 pyHash:=λhv h=>by
  rcases rR hv with⟨i,t,rfl,rfl⟩|⟨x,t,rfl,rfl⟩
  .exact wpAny_pyHash_int h
  .exact wpAny_pyHash_str h
 eqBool:=λhu hv h=>by
  rcases rR hu with⟨i,t,rfl,rfl⟩|⟨x,t,rfl,rfl⟩
  .rcases rR hv with⟨j,u,rfl,rfl⟩|⟨y,u,rfl,rfl⟩
   .rw[VJ]at h;exact wpAny_eqBool_int h
   .rw[VM]at h;exact SeqAt.EqAt.int_str i t y u _ _ _ _ h
  .rcases rR hv with⟨j,u,rfl,rfl⟩|⟨y,u,rfl,rfl⟩
   .rw[VN]at h;exact SeqAt.EqAt.str_int x t j u _ _ _ _ h
   .rw[VL]at h;exact wpAny_eqBool_str h
 «strs»:=λk x t v h=>by
  rcases rR h with⟨i,u,rfl,e⟩|⟨y,u,rfl,e⟩
  .exact nomatch e
  .injection e with e1 _
   subst e1
   cases v<;>rfl
theorem VP(prog:aj)(w:ak)(i:Int)(t:Tok):(i9 prog w).is (.inl i) (.int i t)=true:=VG i t
theorem VQ(prog:aj)(w:ak)(x:Str)(t:Tok):(i9 prog w).is (.inr x) (.str x t)=true:=VI x t
inductive V where
 |aL|bl (b:Bool)|int (i:Int)|str (x:Str)|pV (b:Array UInt8)|zF (b:UInt64)|ref (a:ai)|ty (n:String)
 deriving DecidableEq
noncomputable def RelV:V->af->Prop|.aL,u=>u=Value.none|.bl b,u=>u=Value.bool b|.int i,u=>∃t,u=Value.int i t|.str x,u=>∃t,u=Value.str x t|.pV b,u=>∃t,u=Value.bytes b t|.zF b,u=>∃t,u=Value.float b t|.ref a,u=>u=Value.ref a|.ty n,u=>u=Value.type n
noncomputable abbrev Vals:List V->List af->Prop:=Paired RelV
theorem Vals.length{xs:List V}{us:List af}(r:Vals xs us):xs.length=us.length:=zE r
theorem Vals.get:∀{xs:List V} {us:List af} {i:Nat} {x:V},Vals xs us->xs[i]?=aC x->∃u,us[i]?=aC u/\RelV x u
 |_,_,_,_,.nil,e=>by simp at e
 |_,_,0,_,.cons r _,e=>by simp at e;subst e;exact⟨_,rfl,r⟩
 |_,_,i+1,x,.cons _ t,e=>by
  obtain⟨u,h1,h2⟩:=Vals.get (i:=i) (x:=x) t (by simpa using e);exact⟨u,by simpa using h1,h2⟩
theorem Vals.set{x:V}{u:af}(r:RelV x u):∀{xs:List V} {us:List af} (i:Nat),Vals xs us->Vals (xs.set i x) (us.set i u)|_,_,_,.nil=>.nil|_,_,0,.cons _ t=>.cons r t|_,_,i+1,.cons q t=>.cons q (Vals.set r i t)
theorem Vals.append:∀{xs ys:List V} {us ws:List af},Vals xs us->Vals ys ws->Vals (xs++ys) (us++ws)|_,_,_,_,.nil,s=>s|_,_,_,_,.cons r t,s=>.cons r (Vals.append t s)
theorem Vals.take:∀{xs:List V} {us:List af} (n:Nat),Vals xs us->Vals (xs.take n) (us.take n)|_,_,0,_=>.nil|_,_,_+1,.nil=>.nil|_,_,n+1,.cons r t=>.cons r (Vals.take n t)
theorem Vals.drop:∀{xs:List V} {us:List af} (n:Nat),Vals xs us->Vals (xs.drop n) (us.drop n)|_,_,0,r=>r|_,_,_+1,.nil=>.nil|_,_,n+1,.cons _ t=>Vals.drop n t
noncomputable def fT:Option V->Option af->Prop|some v,aC u=>RelV v u|none,aD=>True|_,_=>False
noncomputable def KV{κ:Type}:List (κ×V)->List (κ×af)->Prop:=Paired λ(p:κ×V) (q:κ×af)=>p.1=q.1/\RelV p.2 q.2
noncomputable def kV:Key->V|.inl i=>.int i|.inr x=>.str x
inductive HO where
 /-- a list -/
 |lst (xs:List V)
 /-- a tuple (never changes) -/
 |tup (xs:List V)
 /-- a dict AX keys are ints and texts;one AX keys are tuples of ints and texts (zG empty one is both) -/
 |dK (kvs:List (Key×V))|dT (kvs:List (List Key×V))
 /-- a set of ints: its members,its size -/
 |set (S:Int->Bool) (n:Nat)
 /-- an instance of zG class at C,its dict at dx,its attributes -/
 |ins (C dx:ai) (fs:List (Str×V))
 /-- zG dict of zG instance at x -/
 |own (x:ai)
 /-- zG dict of an exception -/
 |xd (fs:List (Str×V))
 /-- a bound method,f of x -/
 |met (f x:ai)
 /-- a range object lo,lo+1,.. below hi -/
 |Ic (lo hi:Int)
 /-- a thing VR is known to zG object (zG script;a dict while a loop walks it): read,never written while it is so -/
 |bS (o:Obj) (u:HO)
 /-- a code AY table -/
 |xh (ps:Array af)
 /-- any other thing,by what is true of its one object (a def of P9 own: VS a S n:=HO.ext λh=>..) -/
 |ext (φ:aA->Prop)
noncomputable abbrev Hp:=ai->Option HO
noncomputable def upd(H:Hp)(a:ai)(o:HO):Hp:=λb=>if b=a then aC o else H b
theorem gn{H:Hp}{a:ai}{o:HO}:upd H a o a=aC o:=by unfold upd;rw[if_pos rfl]
theorem bX{H:Hp}{a b:ai}{o:HO}(h:b≠a):upd H a o b=H b:=by unfold upd;rw[if_neg h]
theorem dH{H:Hp}{a b:ai}{o u:HO}(h:H a=aC o)(h':H b=aC u)(d:o≠u):a≠b:=by intro e;subst e;rw[h]at h';exact d (pU h')
theorem iV{H:Hp}{a b:ai}{o:HO}(h:H a=aC o)(h':H b=aD):a≠b:=by intro e;subst e;rw[h]at h';cases h'
noncomputable def lV(h:aA)(a:ai)(items:Array af):Prop:=∃o,h.get? a=aC o/\o.cls=.type "tuple"/\(∃n,o.data=.seq items n)/\o.dict=aD
theorem lV.tup{h:aA}{a:ai}{items:Array af}(x:lV h a items):IsTup h a items:=let⟨o,e,c,d,_⟩:=x;⟨o,e,c,d⟩
theorem lV.lt{h:aA}{a:ai}{items:Array af}(x:lV h a items):a<h.objs.size:=x.tup.lt
theorem lV.new(h:aA)(items:Array af):lV (h.push {cls:=.type "tuple",data:=.seq items}) h.objs.size items:=⟨_,i8 _ rfl,rfl,⟨_,rfl⟩,rfl⟩
section
variable(P:aj)(w:ak)
noncomputable def br(H:Hp)(h:aA)(a:ai):HO->Prop
 |.lst xs=>xs.length<=sizeLine/\∃(its:List af) (n:Nat),Vals xs its/\h.get? a=aC {cls:=.type "list",data:=.seq its.toArray n}
 |.tup xs=>xs.length<=sizeLine/\∃its:List af,Vals xs its/\lV h a its.toArray
 |.dK kvs=>kvs.length<=sizeLine/\(a==sysModules)=false/\∃vs,KV kvs vs/\h.DictOf (i9 P w) a vs
 |.dT kvs=>kvs.length<=sizeLine/\(a==sysModules)=false/\∃xs:List (List Key×ai×af),
  Paired (λ(p:List Key×V)(q:List Key×ai×af)=>p.1=q.1/\H q.2.1=aC (.tup (p.1.map kV))/\RelV p.2 q.2.2) kvs xs/\
  ∃o es ep,h.get? a=aC o/\o.ExactDict/\o.data=.dict es ep/\es.toList=xs.map (entryOfKey (tupleKind (i9 P w)))/\(xs.map (·.1)).Nodup
 |.set S n=>h.SetOf (intKind P w) a S n
 |.ins C dx fs=>H dx=aC (.own a)/\fs.length<=1000/\dx≠a/\h.get? a=aC (PySem.W.instObj C dx)/\
  ∃mA,h.Ns1 dx mA/\(∀f,fT (fs.lookup f) (mA f))/\PySem.Within mA (fs.map (·.1))
 |.own _=>∃o,h.get? a=aC o
 |.xd fs=>∃mA,h.Ns1 a mA/\∀f,fT (fs.lookup f) (mA f)
 |.Ic lo hi=>∃t u v,h.get? a=aC {cls:=.type "range",data:=.fields #[.int lo t,.int hi u,.int 1 v]}
 |.bS o u=>h.get? a=aC o/\br H h a u
 |.xh ps=>h.get? a=aC {cls:=.none,data:=.fields ps}
 |.met f x=>h.get? a=aC (PySem.W.methodObj (.ref f) (.ref x))
 |.ext φ=>φ h/\(∃o,h.get? a=aC o)/\∀h1 h2:aA,φ h1->(∀o,h1.get? a=aC o->h2.get? a=aC o)->φ h2
noncomputable def eE(H:Hp)(h:aA):Prop:=∀a o,H a=aC o->br P w H h a o
end
section
variable{P:aj}{w:ak}{H H':Hp}{h h':aA}{a:ai}{o:HO}
theorem br.lt(x:br P w H h a o):a<h.objs.size:=by
 cases o with|lst xs=>obtain⟨_,_,_,_,e⟩:=x;exact cN e|tup xs=>obtain⟨_,_,_,p⟩:=x;exact p.lt|dK kvs=>obtain⟨_,_,_,_,o,_,_,e,_⟩:=x;exact cN e|dT kvs=>obtain⟨_,_,_,_,o,_,_,e,_⟩:=x;exact cN e|set S n=>obtain⟨o,_,_,_,e,_⟩:=x;exact cN e|ins C dx fs=>obtain⟨_,_,_,e,_⟩:=x;exact cN e|own y=>obtain⟨_,e⟩:=x;exact cN e|xd fs=>obtain⟨_,⟨_,_,_,e,_⟩,_⟩:=x;exact cN e|Ic lo hi=>obtain⟨_,_,_,e⟩:=x;exact cN e|bS ob u=>obtain⟨e,_⟩:=x;exact cN e|xh ps=>exact cN (show h.get? a=aC _ from x)|met f y=>exact cN (show h.get? a=aC _ from x)|ext φ=>obtain⟨_,⟨_,e⟩,_⟩:=x;exact cN e
theorem Paired.xj{α β:Type}{F G:α->β->Prop}:∀{l₁:List α} {l₂:List β},Paired F l₁ l₂->(∀a b,F a b->G a b)->Paired G l₁ l₂|_,_,.nil,_=>.nil|_,_,.cons r t,f=>.cons (f _ _ r) (Paired.xj t f)
theorem br.stay(x:br P w H h a o)(k:∀b u,(b=a\/H b=aC (.own a))->h.get? b=aC u->h'.get? b=aC u)
 (ho:∀b,H b=aC (.own a)->H' b=aC (.own a)) (ht:∀b xs,H b=aC (.tup xs)->H' b=aC (.tup xs)):br P w H' h' a o:=by
 induction o with
 |lst xs=>obtain⟨z,its,n,r,e⟩:=x;exact⟨z,its,n,r,k _ _ (.inl rfl) e⟩
 |tup xs=>obtain⟨z,its,r,ob,e,c⟩:=x;exact⟨z,its,r,ob,k _ _ (.inl rfl) e,c⟩
 |dK kvs=>obtain⟨z,y,vs,r,ob,es,ep,e,c⟩:=x;exact⟨z,y,vs,r,ob,es,ep,k _ _ (.inl rfl) e,c⟩
 |dT kvs=>
  obtain⟨z,y,xs,r,ob,es,ep,e,c⟩:=x;exact⟨z,y,xs,Paired.xj r λp q z=>⟨z.1,ht _ _ z.2.1,z.2.2⟩,ob,es,ep,k _ _ (.inl rfl) e,c⟩
 |set S n=>obtain⟨ob,es,ep,t,e,c⟩:=x;exact⟨ob,es,ep,t,k _ _ (.inl rfl) e,c⟩
 |ins C dx fs=>
  obtain⟨d,z,ne,e,mA,⟨od,es,ep,e2,c⟩,r⟩:=x;exact⟨ho _ d,z,ne,k _ _ (.inl rfl) e,mA,⟨od,es,ep,k _ _ (.inr d) e2,c⟩,r⟩
 |own y=>obtain⟨ob,e⟩:=x;exact⟨ob,k _ _ (.inl rfl) e⟩
 |xd fs=>obtain⟨mA,⟨od,es,ep,e,c⟩,r⟩:=x;exact⟨mA,⟨od,es,ep,k _ _ (.inl rfl) e,c⟩,r⟩
 |Ic lo hi=>obtain⟨t,u,v,e⟩:=x;exact⟨t,u,v,k _ _ (.inl rfl) e⟩
 |bS ob u ih=>obtain⟨e,q⟩:=x;exact⟨k _ _ (.inl rfl) e,ih q⟩
 |xh ps=>
  have e:h.get? a=aC {cls:=.none,data:=.fields ps}:=x;show h'.get? a=aC {cls:=.none,data:=.fields ps};exact k a _ (.inl rfl) e
 |met f y=>
  have e:h.get? a=aC (PySem.W.methodObj (.ref f) (.ref y)):=x;show h'.get? a=aC (PySem.W.methodObj (.ref f) (.ref y));exact k a _ (.inl rfl) e
 |ext φ=>obtain⟨p,⟨o,e⟩,st⟩:=x;exact⟨st _ _ p λo q=>k _ _ (.inl rfl) q,⟨o,k _ _ (.inl rfl) e⟩,st⟩
theorem eE.lt(x:eE P w H h)(e:H a=aC o):a<h.objs.size:=(x a o e).lt
theorem eE.fresh(x:eE P w H h)(e:h.objs.size<=a):H a=aD:=by
 cases q:H a with|none=>rfl|some u=>exact absurd (dF (x.lt q) e) (g9 _)
theorem eE.kept(x:eE P w H h)(k:∀b u,h.get? b=aC u->h'.get? b=aC u):eE P w H h':=λa o e=>
 (x a o e).stay (λb u _ q=>k b u q) (λ_ q=>q) λ_ _ q=>q
theorem eE.laid(x:eE P w H h)(k:∀b u,h.get? b=aC u->h'.get? b=aC u)(hp:h.objs.size<=a)(new:br P w (upd H a o) h' a o):eE P w (upd H a o) h':=λb u e=>by
 have hn:=x.fresh hp;by_cases hb:b=a;subst hb;rw[gn]at e;cases e;exact new;rw[bX hb]at e;exact(x b u e).stay (λc v _ q=>k c v q) (λc q=>by rw[bX (iV q hn)];exact q) λc xs q=>by rw[bX (iV q hn)];exact q
end
noncomputable def Rd(H:Hp)(a:ai)(u:HO):Prop:=H a=aC u\/∃o,H a=aC (.bS o u)
theorem Rd.of{H:Hp}{a:ai}{u:HO}(h:H a=aC u):Rd H a u:=.inl h
theorem Rd.ok{P:aj}{w:ak}{H:Hp}{h:aA}{a:ai}{u:HO}(r:Rd H a u)(x:eE P w H h):br P w H h a u:=by rcases r with r|⟨o,r⟩;exact x a u r;obtain⟨_,q⟩:=x a _ r;exact q
noncomputable def AZ:Option HO->Prop|some (.lst _)=>True|some (.dK _)=>True|some (.dT _)=>True|some (.set _ _)=>True|some (.ins _ _ _)=>True|some (.ext _)=>True|_=>False
section
variable{P:aj}{w:ak}{H:Hp}{h h':aA}{x e:ai}{o':HO}
theorem eE.write(ok:eE P w H h)(mu:AZ (H x))(he:e=x\/H e=aC (.own x))(k:∀b u,b≠e->h.get? b=aC u->h'.get? b=aC u)(zH:∃u,h'.get? e=aC u)
 (new:br P w (upd H x o') h' x o'):eE P w (upd H x o') h':=λb u q=>by
 have A0:∀c y,H c=aC (.own y)->c≠x:=λc y r z=>by subst z;rw[r]at mu;exact mu
 have Ie:∀c xs,H c=aC (.tup xs)->c≠x:=λc xs r z=>by subst z;rw[r]at mu;exact mu
 by_cases hb:b=x;subst hb;rw[gn]at q;cases q;exact new;rw[bX hb]at q;by_cases xm:b=e;have q':H b=aC (.own x):=by rcases he with z|z;exact absurd (xm.trans z) hb;rw[xm];exact z
 rw[q]at q';cases q';obtain⟨v,hv⟩:=zH;exact⟨v,by rw[xm];exact hv⟩;refine(ok b u q).stay (λc v hc r=>k c v ?_ r) (λc r=>by rw[bX (A0 c b r)];exact r) λc xs r=>by rw[bX (Ie c xs r)];exact r
 rcases hc with rfl|hc;exact xm;rintro rfl;rcases he with z|z;exact A0 c b hc z;rw[hc]at z;cases z;exact hb rfl
end
structure Un(fs ex:List ai)(H H':Hp)(h h':aA):Prop where
 keep:∀b o,h.get? b=aC o->H b=aD->b∉fs->b∉ex->h'.get? b=aC o
 slot:∀b o,h.get? b=aC o->H b=aD->b∈fs->b∉ex->∃sl,h'.get? b=aC {o with slots:=sl}
 free:∀b o,h.get? b=aC o->H b=aD->b∉ex->H' b=aD
 there:∀b o,h.get? b=aC o->b∉ex->∃o',h'.get? b=aC o'
 tups:∀b xs,H b=aC (.tup xs)->H' b=aC (.tup xs)
 iL:∀b o u,H b=aC (.bS o u)->H' b=aC (.bS o u)
 ja:∀b ps,H b=aC (.xh ps)->∃more,H' b=aC (.xh (ps++more))
section
variable{fs fs' ex ex':List ai}{H H1 H2:Hp}{h h1 h2 h':aA}{a x e:ai}{o:HO}
theorem Un.any(u:Un fs ex H H1 h h1){b:ai}{ob:Obj}(q:h.get? b=aC ob)(n:H b=aD)(hx:b∉ex):∃sl,h1.get? b=aC {ob with slots:=sl}:=by by_cases hb:b∈fs;exact u.slot b ob q n hb hx;exact⟨ob.slots,u.keep b ob q n hb hx⟩
theorem Un.kept(k:∀b u,h.get? b=aC u->h'.get? b=aC u):Un fs ex H H h h':=
 ⟨λb ob q _ _ _=>k b ob q,λb ob q _ _ _=>⟨ob.slots,k b ob q⟩,λ_ _ _ n _=>n,λb ob q _=>⟨ob,k b ob q⟩,λ_ _ q=>q,λ_ _ _ q=>q,λ_ ps q=>⟨#[],by rw[q];simp⟩⟩
theorem Un.refl:Un fs ex H H h h:=Un.kept λ_ _ q=>q
theorem Un.laid(k:∀b u,h.get? b=aC u->h'.get? b=aC u)(hp:h.objs.size<=a)(hn:H a=aD):Un fs ex H (upd H a o) h h' where
 keep:=λb u q _ _ _=>k b u q
 slot:=λb u q _ _ _=>⟨u.slots,k b u q⟩
 free:=λb u q n _=>by rw[bX (fN (dF (cN q) hp))];exact n
 there:=λb u q _=>⟨u,k b u q⟩
 tups:=λb xs q=>by rw[bX (iV q hn)];exact q
 iL:=λb u xs q=>by rw[bX (iV q hn)];exact q
 ja:=λb ps q=>⟨#[],by rw[bX (iV q hn),q];simp⟩
theorem Un.write(mu:AZ (H x))(he:e=x\/H e=aC (.own x))(k:∀b u,b≠e->h.get? b=aC u->h'.get? b=aC u)(zH:∃u,h'.get? e=aC u):Un fs ex H (upd H x o) h h':=by
 have hx:∀b,H b=aD->b≠x:=λb n z=>by subst z;rw[n]at mu;exact mu
 have hb:∀b,H b=aD->b≠e:=λb n z=>by
  subst z;rcases he with r|r
  exact hx b n r;rw[n]at r;cases r
 have hm:∀b u,H b=aC u->¬AZ (aC u)->b≠x:=λb u q nm z=>by subst z;rw[q]at mu;exact nm mu
 refine⟨λb u q n _ _=>k b u (hb b n) q,λb u q n _ _=>⟨u.slots,k b u (hb b n) q⟩,λb u q n _=>by rw[bX (hx b n)];exact n,λb u q _=>?_,
  λb xs q=>by rw[bX (hm b _ q λz=>z)];exact q,λb u xs q=>by rw[bX (hm b _ q λz=>z)];exact q,λb ps q=>⟨#[],by rw[bX (hm b _ q λz=>z),q];simp⟩⟩
 by_cases xm:b=e;subst xm;exact zH;exact⟨u,k b u xm q⟩
end
noncomputable def FL(h:aA)(H:Hp):List ai:=(List.range h.objs.size).filter λa=>(H a).isSome
noncomputable def jS(h:aA)(H:Hp):aA:=PySem.W.hideAll h (FL h H)
theorem VT(h:aA)(H:Hp):(jS h H).objs.size=h.objs.size:=PySem.W.hideAll_size _ _
theorem VU{h:aA}{H:Hp}{b:ai}{o:Obj}(e:h.get? b=aC o)(n:H b=aD):(jS h H).get? b=aC o:=
 PySem.W.hideAll_get _ e λhm=>by
  have q:(H b).isSome=true:=(List.mem_filter.mp hm).2;rw[n]at q;simp at q
theorem VW{h:aA}{H:Hp}{b:ai}{o:Obj}(e:(jS h H).get? b=aC o):h.get? b=aC o/\H b=aD:=by
 have e':h.get? b=aC o:=PySem.W.of_hideAll (FL h H) e;refine⟨e',?_⟩;cases q:H b with
 |none=>rfl
 |some x=>
  have hm:b∈FL h H:=List.mem_filter.mpr ⟨oY.mpr (cN e'),by simp[q]⟩;have z:(jS h H).get? b=aD:=PySem.W.hideAll_none (FL h H) hm;rw[z]at e;cases e
structure Mod(K:aI)(mg:Str->Option af)(base:aA):Prop where
 zI:K.In base
 glob:base.Ns mainGlobals mg
 blt:∃mb,base.Ns builtinsNs mb/\∀x:Str,x≠"__name__"->mb x=bootBuiltins x
 nolimit:base.NoLimit
set_option genInjectivity false in
structure Cx where
 prog:aj
 w:ak
 K:aI
 mg:Str->Option af
 base:aA
 A:ao
 N:List Str
 s₀:ah
 H₀:Hp
 env:Env
 outer:List Env
 stack:List Env
 ex:List ai
 fn:Str->Bool
 calm:Bool
 pn:List (ai×Obj)
 xe:af->ah->Prop
noncomputable def frs(l:List Env):List ai:=l.filterMap (·.frame)
noncomputable abbrev Cx.fs(X:Cx):List ai:=frs X.outer
noncomputable def pW(sc:az)(x:Str):Prop:=sc.names.lookup x=aC .local\/sc.names.lookup x=aC .cell\/sc.names.lookup x=aC .free
noncomputable def Loc(sc:az)(x:Str):Prop:=sc.names.lookup x=aC .local\/sc.names.lookup x=aC .cell
noncomputable def Look(env:Env)(h:aA)(m:Str->Option af)(x:Str)(u:af):Prop:=
 (env.kindOf x=aC .local/\m x=aC u)\/((env.kindOf x=aC .cell\/env.kindOf x=aC .free)/\∃c,env.cells.lookup x=aC c/\h.IsCell c (aC u))
structure Cx.Ok(X:Cx):Prop where
 mod:Mod X.K X.mg X.base
 kind:X.env.scope.kind=.function
 glob:X.env.globals=mainGlobals
 blt:X.env.builtins=builtinsNs
 above:X.s₀.heap.objs.size<=X.env.locals
 inj:∀x y c,X.env.cells.lookup x=aC c->X.env.cells.lookup y=aC c->x=y
 has:∀x,(X.env.kindOf x=aC .cell\/X.env.kindOf x=aC .free)->∃c,X.env.cells.lookup x=aC c
 xq:∀x c,X.fn x=true->X.env.cells.lookup x=aC c->X.s₀.heap.objs.size<=c
 hd:X.calm=true->X.A.handled=aD
 frames:X.A.frames=aC X.stack
 stk:X.stack=X.outer\/(X.stack=X.env::X.outer/\X.env.frame=aC X.env.locals)
 zJ:∀b∈X.ex,b≠X.env.locals/\∀x c,X.env.cells.lookup x=aC c->c≠b
 bs:∀b o,X.base.get? b=aC o->X.s₀.heap.get? b=aC o/\X.H₀ b=aD
 rS:X.base.objs.size<=X.s₀.heap.objs.size
 lW:∀b o,X.base.get? b=aC o->b∉X.ex
 lX:∀b∈X.ex,b∉X.fs
 gv:X.s₀.heap.FunFrames X.base X.outer
 sU:∀b∈X.fs,X.H₀ b=aD
structure Inv(X:Cx)(pins:List (ai×Obj))(σ:List (Option V))(H:Hp)(s:ah):Prop where
 ok:X.Ok
 os:s.os=X.s₀.os
 bare:AllBare s.gens
 base:Un X.fs X.ex X.H₀ H X.s₀.heap s.heap
 loc:∃m,s.heap.Ns X.env.locals m/\∀(i:Nat)(x:Str)(v:V),X.N[i]?=aC x->σ[i]?=aC (aC v)->pW X.env.scope x->∃u,RelV v u/\Look X.env s.heap m x u
 cell:∀x c,X.env.cells.lookup x=aC c->∃v,s.heap.IsCell c v
 free:H X.env.locals=aD
 dI:∀x c,X.env.cells.lookup x=aC c->H c=aD
 pin:∀p∈X.pn++pins,s.heap.get? p.1=aC p.2/\H p.1=aD/\p.1≠X.env.locals/\p.1∉X.fs/\∀v,p.2.data≠.cell v
 hok:eE X.prog X.w H s.heap
 len:σ.length=X.N.length
section
variable{X:Cx}{pins:List (ai×Obj)}{σ:List (Option V)}{H H':Hp}{s:ah}{h':aA}
theorem Cx.Ok.kD(ok:X.Ok){b:ai}{o:Obj}(e:X.base.get? b=aC o):b∉X.fs:=λhb=>by
 have:=(ok.gv.mem hb).1;rw[e]at this;cases this
theorem Inv.bs(I:Inv X pins σ H s):∀b o,X.base.get? b=aC o->s.heap.get? b=aC o/\H b=aD:=λb o e=>
 ⟨I.base.keep b o (I.ok.bs b o e).1 (I.ok.bs b o e).2 (I.ok.kD e) (I.ok.lW b o e),I.base.free b o (I.ok.bs b o e).1 (I.ok.bs b o e).2 (I.ok.lW b o e)⟩
theorem Inv.bk(I:Inv X pins σ H s):∀b o,X.base.get? b=aC o->s.heap.get? b=aC o:=λb o e=>(I.bs b o e).1
theorem Inv.mod(I:Inv X pins σ H s):Mod X.K X.mg X.base:=I.ok.mod
theorem Inv.gT(I:Inv X pins σ H s):X.K.In s.heap:=I.ok.mod.zI.keeps I.bk
theorem Inv.lt(I:Inv X pins σ H s):X.env.locals<s.heap.objs.size:=let⟨_,hn,_⟩:=I.loc;hn.lt
theorem Inv.sz(I:Inv X pins σ H s):X.s₀.heap.objs.size<=s.heap.objs.size:=eS I.ok.above (sR I.lt)
theorem Inv.Ig(I:Inv X pins σ H s){a:ai}(h:s.heap.objs.size<=a):a∉X.fs:=λhb=>by
 obtain⟨_,o,ho,_⟩:=I.ok.gv.mem hb;exact absurd (dF (cN ho) (eS I.sz h)) (g9 _)
theorem Inv.sV(I:Inv X pins σ H s):∀x c,X.env.cells.lookup x=aC c->c≠X.env.locals:=λx c e z=>by
 obtain⟨v,o,ho,hd⟩:=I.cell x c e;obtain⟨m,⟨o',es,ep,ho',hd',_⟩,_⟩:=I.loc;rw[z,ho']at ho;cases ho;rw[hd']at hd;cases hd
theorem Inv.gv(I:Inv X pins σ H s):s.heap.FunFrames X.base X.outer:=by
 have all:∀(l:List Env),(∀b∈frs l,b∈X.fs)->X.s₀.heap.FunFrames X.base l->s.heap.FunFrames X.base l:=by
  intro l;induction l with
  |nil=>intro _ _;trivial
  |cons env r ih=>
   intro hs hl;obtain⟨hk,⟨L,o,hf,hn,ho,hd⟩,hr⟩:=hl;have hL:L∈X.fs:=hs L (by unfold frs;rw[uO,hf];exact gj);obtain⟨sl,e⟩:=I.base.slot L o ho (I.ok.sU L hL) hL λz=>I.ok.lX L z hL;exact⟨hk,⟨L,_,hf,hn,e,hd⟩,ih (λb hb=>hs b (by unfold frs;rw[uO,hf];exact fS _ hb)) hr⟩
 exact all X.outer (λ_ hb=>hb) I.ok.gv
theorem Inv.stack(I:Inv X pins σ H s):s.heap.FunFrames X.base X.stack:=by rcases I.ok.stk with e|⟨e,hf⟩;rw[e];exact I.gv;rw[e];obtain⟨m,hn,_⟩:=I.loc;refine .cons (by rw[I.ok.kind];decide) hf hn ?_ I.gv;exact Heap.get?_none_of_le (eS I.ok.rS I.ok.above)
theorem Inv.jT(I:Inv X pins σ H s):∀b∈frs X.stack,b∈X.env.locals::X.fs:=λb hb=>by
 rcases I.ok.stk with e|⟨e,hf⟩;rw[e]at hb;exact fS _ hb;rw[e]at hb;unfold frs at hb;rw[uO,hf]at hb;exact hb
theorem Inv.iX(I:Inv X pins σ H s):∀b∈frs X.stack,H b=aD:=λb hb=>by
 rcases eO.mp (I.jT b hb)with e|hb;rw[e];exact I.free;obtain⟨_,o,ho,_⟩:=I.ok.gv.mem hb;exact I.base.free b o ho (I.ok.sU b hb) λz=>I.ok.lX b z hb
theorem Inv.step{g':Array GenState}{t':Nat}{d':Drawn}{ch:List ai}(I:Inv X pins σ H s)
 (hch:∀b∈ch,(b∈X.ex\/X.s₀.heap.objs.size<=b)/\b≠X.env.locals/\(∀x c,X.env.cells.lookup x=aC c->c≠b)/\∀p∈X.pn++pins,p.1≠b)
 (keep:∀b o,b≠X.env.locals->b∉X.fs->b∉ch->s.heap.get? b=aC o->H b=aD->h'.get? b=aC o)
 (slot:∀b o,b≠X.env.locals->b∈X.fs->b∉ch->s.heap.get? b=aC o->H b=aD->∃sl,h'.get? b=aC {o with slots:=sl}) (free:∀b o,b∉ch->s.heap.get? b=aC o->H b=aD->H' b=aD)
 (there:∀b o,b∉ch->s.heap.get? b=aC o->∃o',h'.get? b=aC o')
 (tups:∀b xs,H b=aC (.tup xs)->H' b=aC (.tup xs)) (iL:∀b o u,H b=aC (.bS o u)->H' b=aC (.bS o u)) (ja:∀b ps,H b=aC (.xh ps)->∃more,H' b=aC (.xh (ps++more)))
 (ns:∀m,s.heap.Ns X.env.locals m->h'.Ns X.env.locals m) (hok:eE X.prog X.w H' h') (hg:AllBare g') :
 Inv X pins σ H' {s with heap:=h',gens:=g',drawn:=d',toks:=t'}:=by
 have Qa:∀b o,X.s₀.heap.get? b=aC o->b≠X.env.locals:=λb o e=>fN (dF (cN e) I.ok.above);have uT:∀b o,X.s₀.heap.get? b=aC o->b∉X.ex->b∉ch:=λb o e hx hb=>by
  rcases(hch b hb).1 with z|z;exact hx z;exact absurd (dF (cN e) z) (g9 _)
 have cellK:∀x c,X.env.cells.lookup x=aC c->∀v,s.heap.IsCell c v->h'.IsCell c v:=λx c e v cj=>by
  obtain⟨o,ho,hd⟩:=cj;have A5:c∉ch:=λz=>(hch c z).2.2.1 x c e rfl;by_cases hc:c∈X.fs;obtain⟨sl,q⟩:=slot c o (I.sV x c e) hc A5 ho (I.dI x c e);exact⟨_,q,hd⟩;exact⟨o,keep c o (I.sV x c e) hc A5 ho (I.dI x c e),hd⟩
 refine⟨I.ok,I.os,hg,⟨λb o e n hb hx=>?_,λb o e n hb hx=>?_,λb o e n hx=>?_,λb o e hx=>?_,λb xs e=>tups b xs (I.base.tups b xs e),λb o xs e=>iL b o xs (I.base.iL b o xs e),λb ps e=>?_⟩,?_,λx c e=>?_,?_,λx c e=>?_,λp hp=>?_,hok,I.len⟩;exact keep b o (Qa b o e) hb (uT b o e hx) (I.base.keep b o e n hb hx) (I.base.free b o e n hx);obtain⟨sl,e1⟩:=I.base.slot b o e n hb hx;obtain⟨Ih,e2⟩:=slot b _ (Qa b o e) hb (uT b o e hx) e1 (I.base.free b o e n hx);exact⟨Ih,e2⟩;obtain⟨o',e1⟩:=I.base.there b o e hx;exact free b o' (uT b o e hx) e1 (I.base.free b o e n hx);obtain⟨o',e1⟩:=I.base.there b o e hx;exact there b o' (uT b o e hx) e1;obtain⟨m1,e1⟩:=I.base.ja b ps e;obtain⟨m2,e2⟩:=ja b _ e1;exact⟨m1++m2,by rw[e2,Array.append_assoc]⟩;obtain⟨m,hn,hl⟩:=I.loc;refine⟨m,ns m hn,λi x v e1 e2 e3=>?_⟩;obtain⟨u,r,l⟩:=hl i x v e1 e2 e3;refine⟨u,r,?_⟩;rcases l with l|⟨k,c,e,z⟩
 exact .inl l;exact .inr ⟨k,c,e,cellK x c e _ z⟩;obtain⟨v,z⟩:=I.cell x c e;exact⟨v,cellK x c e v z⟩;obtain⟨m,⟨o,_,_,ho,_⟩,_⟩:=I.loc;exact free _ o (λz=>(hch _ z).2.1 rfl) ho I.free;obtain⟨v,o,ho,hd⟩:=I.cell x c e;exact free c o (λz=>(hch c z).2.2.1 x c e rfl) ho (I.dI x c e);obtain⟨e,n,ne,nf,d⟩:=I.pin p hp;have A5:p.1∉ch:=λz=>(hch p.1 z).2.2.2 p hp rfl;exact⟨keep p.1 p.2 ne nf A5 e n,free p.1 p.2 A5 e n,ne,nf,d⟩
theorem Inv.un{t':Nat}(I:Inv X pins σ H s)(u:Un X.fs [] H H' s.heap h')(hok:eE X.prog X.w H' h'):Inv X pins σ H' {s with heap:=h',toks:=t'}:=by
 obtain⟨m,⟨o,es,ep,ho,r⟩,_⟩:=id I.loc;obtain⟨sl,hL⟩:=u.any ho I.free (by simp);exact I.step (g':=s.gens) (d':=s.drawn) (ch:=[]) (λ_ z=>nomatch z) (λb o _ hb _ e n=>u.keep b o e n hb (by simp)) (λb o _ hb _ e n=>u.slot b o e n hb (by simp)) (λb o _ e n=>u.free b o e n (by simp)) (λb o _ e=>u.there b o e (by simp)) u.tups u.iL u.ja (λm' hm=>by
  obtain⟨o',es',A6,ho',r'⟩:=hm;rw[ho]at ho';cases ho';exact⟨_,es',A6,hL,r'⟩) hok I.bare
theorem Inv.call{g':Array GenState}{t':Nat}{d':Drawn}{ch:List ai}(I:Inv X pins σ H s)(u:Un (frs X.stack) ch H H' s.heap h')(hok:eE X.prog X.w H' h')(hg:AllBare g')
 (hch:∀b∈ch,(b∈X.ex\/X.s₀.heap.objs.size<=b)/\b≠X.env.locals/\(∀x c,X.env.cells.lookup x=aC c->c≠b)/\∀p∈X.pn++pins,p.1≠b) :
 Inv X pins σ H' {s with heap:=h',gens:=g',drawn:=d',toks:=t'}:=by
 obtain⟨m,⟨o,es,ep,ho,r⟩,_⟩:=id I.loc;obtain⟨sl,hL⟩:=u.any ho I.free λz=>(hch _ z).2.1 rfl;exact I.step (ch:=ch) hch (λb o hL hb hc e n=>u.keep b o e n (λz=>(eO.mp (I.jT b z)).elim hL hb) hc) (λb o _ _ hc e n=>u.any e n hc) (λb o hc e n=>u.free b o e n hc) (λb o hc e=>u.there b o e hc) u.tups u.iL u.ja (λm' hm=>by
  obtain⟨o',es',A6,ho',r'⟩:=hm;rw[ho]at ho';cases ho';exact⟨_,es',A6,hL,r'⟩) hok hg
theorem Inv.turned{t':Nat}{it:ai}(I:Inv X pins σ H s)(k:∀b o,b≠it->s.heap.get? b=aC o->h'.get? b=aC o)(hn:H it=aD)(hL:it≠X.env.locals)
 (h1:it∈X.ex\/X.s₀.heap.objs.size<=it) (h2:∀x c,X.env.cells.lookup x=aC c->c≠it) (h3:∀p∈X.pn++pins,p.1≠it):Inv X pins σ H {s with heap:=h',toks:=t'}:=by
 have Qc:∀b u,H b=aC u->b≠it:=λb u e z=>by rw[z,hn]at e;cases e
 refine I.step (g':=s.gens) (d':=s.drawn) (ch:=[it]) (λb hb=>?_) (λb o _ _ hc e _=>k b o (λz=>hc (by simp[z])) e) (λb o _ _ hc e _=>⟨o.slots,k b o (λz=>hc (by simp[z])) e⟩) (λ_ _ _ _ n=>n)
  (λb o hc e=>⟨o,k b o (λz=>hc (by simp[z])) e⟩) (λ_ _ e=>e) (λ_ _ _ e=>e) (λb ps e=>⟨#[],by rw[e];simp⟩) (λm hm=>?_) (λb u e=>?_) I.bare
 have e:b=it:=by simpa using hb
 subst e;exact⟨h1,hL,h2,h3⟩;obtain⟨o,es,ep,ho,r⟩:=hm;exact⟨o,es,ep,k _ o (eT hL) ho,r⟩;refine(I.hok b u e).stay (λc v hc q=>k c v ?_ q) (λ_ q=>q) λ_ _ q=>q;rcases hc with z|z
 rw[z];exact Qc b u e;exact Qc c _ z
theorem Inv.tok(I:Inv X pins σ H s)(t:Nat):Inv X pins σ H {s with toks:=t}:=I.un (h':=s.heap) (t':=t) Un.refl I.hok
theorem Inv.kept{t':Nat}(I:Inv X pins σ H s)(k:∀b u,s.heap.get? b=aC u->h'.get? b=aC u):Inv X pins σ H {s with heap:=h',toks:=t'}:=I.un (Un.kept k) (I.hok.kept k)
theorem Inv.laid{a:ai}{o:HO}{t':Nat}(I:Inv X pins σ H s)(k:∀b u,s.heap.get? b=aC u->h'.get? b=aC u)(hp:s.heap.objs.size<=a)(new:br X.prog X.w (upd H a o) h' a o) :
 Inv X pins σ (upd H a o) {s with heap:=h',toks:=t'}:=I.un (Un.laid k hp (I.hok.fresh hp)) (I.hok.laid k hp new)
theorem Inv.write{x e:ai}{o:HO}{t':Nat}(I:Inv X pins σ H s)(mu:AZ (H x))(he:e=x\/H e=aC (.own x))(k:∀b u,b≠e->s.heap.get? b=aC u->h'.get? b=aC u)(zH:∃u,h'.get? e=aC u)
 (new:br X.prog X.w (upd H x o) h' x o):Inv X pins σ (upd H x o) {s with heap:=h',toks:=t'}:=I.un (Un.write mu he k zH) (I.hok.write mu he k zH new)
theorem Inv.mS{uU:List (ai×Obj)}(I:Inv X pins σ H s)(h:∀p∈uU,s.heap.get? p.1=aC p.2/\H p.1=aD/\p.1≠X.env.locals/\p.1∉X.fs/\∀v,p.2.data≠.cell v):Inv X uU σ H s:=
 ⟨I.ok,I.os,I.bare,I.base,I.loc,I.cell,I.free,I.dI,λp hp=>(nR.mp hp).elim (λz=>I.pin p (List.mem_append_left _ z)) (h p),I.hok,I.len⟩
theorem Ii{N:List Str}(hN:N.Nodup){i j:Nat}{x:Str}(a:N[i]?=aC x)(b:N[j]?=aC x):i=j:=by obtain⟨h1,e1⟩:=gZ.mp a;obtain⟨h2,e2⟩:=gZ.mp b;exact(List.getElem_inj hN).mp (e1.trans e2.symm)
theorem Qd{M:Model}{A:ao}{E:af->ah->Prop}{i:Nat}{x:Str}{v:V}{u:af}{Q:Unit->ah->Prop}(I:Inv X pins σ H s)(hN:X.N.Nodup)(hi:X.N[i]?=aC x)(hx:Loc X.env.scope x)(r:RelV v u)
 (h:∀s',Inv X pins (σ.set i (aC v)) H s'->(∃a,Heap.SameBut a s.heap s'.heap/\(a=X.env.locals\/X.env.cells.lookup x=aC a))->Q () s') (hf:autoParam (X.fn x=true\/X.env.scope.names.lookup x=aC .local) L2.aF1._auto_1):wpAny M A (storeName X.env x u) Q E s:=by
 obtain⟨m,hn,hl⟩:=id I.loc;have hcls:(X.env.scope.kind == .class|| (X.env.scope.kind == .module&&X.env.locals != X.env.globals))=false:=by rw[I.ok.kind];rfl
 have sW:i<σ.length:=by rw[I.len];exact(gZ.mp hi).1
 have sV:=I.sV;have tracked:∀{a:ai}{h':aA},(∃o,s.heap.get? a=aC o/\H a=aD)->Heap.SameBut a s.heap h'->eE X.prog X.w H h':=λ{a h'} ha hs b ob e=>by
  obtain⟨_,_,hfree⟩:=ha;refine(I.hok b ob e).stay (λc w' hc q=>(hs.2 c ?_).trans q) (λ_ q=>q) λ_ _ q=>q;rintro rfl;rcases hc with rfl|hc;rw[hfree]at e;cases e;rw[hfree]at hc;cases hc
 rcases hx with hk|hk;refine wpAny_storeName_local hk hn (λh' hn' hs=>?_) hcls;obtain⟨oL,_,_,VX,_⟩:=id hn;refine h _ ⟨I.ok,I.os,I.bare,⟨λb o e n hb hx=>?_,λb o e n hb hx=>?_,I.base.free,λb o e hx=>?_,I.base.tups,I.base.iL,I.base.ja⟩,⟨_,hn',λj y v' e1 e2 e3=>?_⟩,λy c e=>?_,I.free,I.dI,λp hp=>?_,tracked ⟨oL,VX,I.free⟩ hs,by simpa using I.len⟩ ⟨_,hs,.inl rfl⟩;exact(hs.2 b (fN (dF (cN e) I.ok.above))).trans (I.base.keep b o e n hb hx);obtain⟨sl,e1⟩:=I.base.slot b o e n hb hx;exact⟨sl,(hs.2 b (fN (dF (cN e) I.ok.above))).trans e1⟩;obtain⟨o',e1⟩:=I.base.there b o e hx;exact⟨o',(hs.2 b (fN (dF (cN e) I.ok.above))).trans e1⟩;by_cases hj:j=i;subst hj;rw[hi]at e1;cases e1;rw[rO sW]at e2;cases e2;exact⟨u,r,.inl ⟨hk,by simp⟩⟩;rw[wO (eT hj)]at e2;obtain⟨u',r',q⟩:=hl j y v' e1 e2 e3;refine⟨u',r',?_⟩;rcases q with⟨k,e⟩|⟨k,c,e,z⟩;refine .inl ⟨k,?_⟩;have:y≠x:=λe=>hj (Ii hN e1 (e▸hi));simp[this,e];exact .inr ⟨k,c,e,z.sameBut hs (sV y c e)⟩;obtain⟨w',z⟩:=I.cell y c e;exact⟨w',z.sameBut hs (sV y c e)⟩;obtain⟨e,n,ne,nf,d⟩:=I.pin p hp;exact⟨(hs.2 p.1 ne).trans e,n,ne,nf,d⟩;have hfn:X.fn x=true:=by rcases hf with z|z;exact z;rw[z]at hk;cases hk
 obtain⟨c,hc⟩:=I.ok.has x (.inl hk);obtain⟨w',z⟩:=I.cell x c hc;refine wpAny_storeName_cell I.ok.kind hk hc z (λh' hc' hs=>?_);obtain⟨oc,hoc,Ij⟩:=id z;refine h {s with heap:=h'} ⟨I.ok,I.os,I.bare,⟨λb o e n hb hx=>?_,λb o e n hb hx=>?_,I.base.free,λb o e hx=>?_,I.base.tups,I.base.iL,I.base.ja⟩,⟨m,hn.sameBut hs (eT (sV x c hc)),λj y v' e1 e2 e3=>?_⟩,λy c' e=>?_,I.free,I.dI,λp hp=>?_,tracked ⟨oc,hoc,I.dI x c hc⟩ hs,by simpa using I.len⟩ ⟨c,hs,.inr hc⟩;exact(hs.2 b (fN (dF (cN e) (I.ok.xq x c hfn hc)))).trans (I.base.keep b o e n hb hx);obtain⟨sl,e1⟩:=I.base.slot b o e n hb hx;exact⟨sl,(hs.2 b (fN (dF (cN e) (I.ok.xq x c hfn hc)))).trans e1⟩;obtain⟨o',e1⟩:=I.base.there b o e hx;exact⟨o',(hs.2 b (fN (dF (cN e) (I.ok.xq x c hfn hc)))).trans e1⟩;by_cases hj:j=i;subst hj;rw[hi]at e1;cases e1;rw[rO sW]at e2;cases e2;exact⟨u,r,.inr ⟨.inl hk,c,hc,hc'⟩⟩;rw[wO (eT hj)]at e2;obtain⟨u',r',q⟩:=hl j y v' e1 e2 e3;refine⟨u',r',?_⟩;rcases q with q|⟨k,c',e,z'⟩;exact .inl q;refine .inr ⟨k,c',e,z'.sameBut hs ?_⟩;rintro rfl;exact hj (Ii hN e1 (I.ok.inj _ _ _ e hc▸hi));by_cases hcc:c'=c;subst hcc;exact⟨_,hc'⟩;obtain⟨w2,z2⟩:=I.cell y c' e;exact⟨w2,z2.sameBut hs hcc⟩;obtain⟨e,n,ne,nf,d⟩:=I.pin p hp;refine⟨(hs.2 p.1 ?_).trans e,n,ne,nf,d⟩;intro q;rw[q,hoc]at e;have q':oc=p.2:=pU e;exact d w' (by rw[<-q'];exact Ij)
theorem A7{M:Model}{A:ao}{E:af->ah->Prop}{i:Nat}{x:Str}{v:V}{u:af}{Q:Unit->ah->Prop}(I:Inv X pins σ H s)(hN:X.N.Nodup)(hi:X.N[i]?=aC x)(hx:Loc X.env.scope x)(r:RelV v u)
 (h:∀s',Inv X pins (σ.set i (aC v)) H s'->Q () s') (hf:autoParam (X.fn x=true\/X.env.scope.names.lookup x=aC .local) L2.aF1._auto_1):wpAny M A (storeName X.env x u) Q E s:=
 Qd I hN hi hx r (λs' I' _=>h s' I') hf
theorem Inv.A8{s':ah}{ch:List ai}(I:Inv X pins σ H s)(ho:s'.os=s.os)(u:Un (frs X.stack) ch H H' s.heap s'.heap)(hok:eE X.prog X.w H' s'.heap)(hg:AllBare s'.gens)
 (hch:∀b∈ch,(b∈X.ex\/X.s₀.heap.objs.size<=b)/\b≠X.env.locals/\(∀x c,X.env.cells.lookup x=aC c->c≠b)/\∀p∈X.pn++pins,p.1≠b):Inv X pins σ H' s':=by
 obtain⟨h',g',d',t',o'⟩:=s';have e:o'=s.os:=ho;subst e;exact I.call (g':=g') (t':=t') (d':=d') u hok hg hch
end
noncomputable abbrev XK:=af->Option ai->Hp->Prop
noncomputable abbrev St:=List (Option V)
noncomputable abbrev VK:=V->Hp->Prop
noncomputable abbrev TE:=St->Hp->VK->Prop
noncomputable abbrev TT:=St->Hp->(Bool->Hp->Prop)->Prop
noncomputable abbrev TA:=St->Hp->(List V->Hp->Prop)->Prop
set_option genInjectivity false in
structure Ends where
 nx:St->Hp->Prop
 rt:VK
 bk:St->Hp->Prop:=λ_ _=>False
 ct:St->Hp->Prop:=λ_ _=>False
noncomputable abbrev TS:=Ends->St->Hp->Prop
noncomputable def EP(X:Cx)(pins:List (ai×Obj))(σ:St)(Q:VK)(u:af)(s':ah):Prop:=∃v H',Inv X pins σ H' s'/\RelV v u/\Q v H'
noncomputable def TP(X:Cx)(pins:List (ai×Obj))(σ:St)(Q:Bool->Hp->Prop)(b:Bool)(s':ah):Prop:=∃H',Inv X pins σ H' s'/\Q b H'
noncomputable def AP(X:Cx)(pins:List (ai×Obj))(σ:St)(Q:List V->Hp->Prop)(us:List af)(s':ah):Prop:=∃vs H',Inv X pins σ H' s'/\Vals vs us/\Q vs H'
theorem EP.el{X:Cx}{pins:List (ai×Obj)}{σ:St}{Q:VK}{u:af}{s':ah}{P:Prop}(q:EP X pins σ Q u s')(k:∀v H',Inv X pins σ H' s'->RelV v u->Q v H'->P):P:=by obtain⟨v,H',a,b,c⟩:=q;exact k v H' a b c
theorem TP.el{X:Cx}{pins:List (ai×Obj)}{σ:St}{Q:Bool->Hp->Prop}{b:Bool}{s':ah}{P:Prop}(q:TP X pins σ Q b s')(k:∀H',Inv X pins σ H' s'->Q b H'->P):P:=by obtain⟨H',a,c⟩:=q;exact k H' a c
theorem AP.el{X:Cx}{pins:List (ai×Obj)}{σ:St}{Q:List V->Hp->Prop}{us:List af}{s':ah}{P:Prop}(q:AP X pins σ Q us s')(k:∀vs H',Inv X pins σ H' s'->Vals vs us->Q vs H'->P):P:=by obtain⟨v,H',a,b,c⟩:=q;exact k v H' a b c
noncomputable def SP(X:Cx)(pins:List (ai×Obj))(D:Ends)(f:Flow)(s':ah):Prop:=
 match f with|.next=>∃σ' H',Inv X pins σ' H' s'/\D.nx σ' H'|.brk=>∃σ' H',Inv X pins σ' H' s'/\D.bk σ' H'|.cont=>∃σ' H',Inv X pins σ' H' s'/\D.ct σ' H'|.ret u=>∃v σ' H',Inv X pins σ' H' s'/\RelV v u/\D.rt v H'
noncomputable def PE(X:Cx)(e:aq)(t:TE):Prop:=
 ∀(pins:List (ai×Obj))(s:ah)(σ:St)(H:Hp)(Q:VK),Inv X pins σ H s->t σ H Q->wpAny (model X.prog X.w) X.A (eval e X.env) (EP X pins σ Q) X.xe s
noncomputable def PT(X:Cx)(e:aq)(t:TT):Prop:=
 ∀(pins:List (ai×Obj))(s:ah)(σ:St)(H:Hp)(Q:Bool->Hp->Prop),Inv X pins σ H s->t σ H Q->wpAny (model X.prog X.w) X.A (isTrue e X.env (eval e X.env)) (TP X pins σ Q) X.xe s
noncomputable def PW(X:Cx)(e:aq)(t:TT):Prop:=
 ∀(whole:Sem af)(pins:List (ai×Obj))(s:ah)(σ:St)(H:Hp)(Q:Bool->Hp->Prop),Inv X pins σ H s->t σ H Q->wpAny (model X.prog X.w) X.A (isTrue e X.env whole) (TP X pins σ Q) X.xe s
theorem PW.pt{X:Cx}{e:aq}{t:TT}(h:PW X e t):PT X e t:=h _
noncomputable def PA(X:Cx)(es:List aq)(t:TA):Prop:=
 ∀(pos:Pos)(pins:List (ai×Obj))(s:ah)(σ:St)(H:Hp)(Q:List V->Hp->Prop),Inv X pins σ H s->t σ H Q->wpAny (model X.prog X.w) X.A (spliced (backTo pos (starEach es X.env))) (AP X pins σ Q) X.xe s
noncomputable def PS(X:Cx)(st:au)(t:TS):Prop:=
 ∀(pins:List (ai×Obj))(s:ah)(σ:St)(H:Hp)(D:Ends),Inv X pins σ H s->t D σ H->wpAny (model X.prog X.w) X.A (exec st X.env) (SP X pins D) X.xe s
noncomputable def gU(X:Cx)(st:List au)(t:TS):Prop:=
 ∀(pins:List (ai×Obj))(s:ah)(σ:St)(H:Hp)(D:Ends),Inv X pins σ H s->t D σ H->wpAny (model X.prog X.w) X.A (execs st X.env) (SP X pins D) X.xe s
theorem bg{α:Type}{t:Sem α}{Q Q':α->ah->Prop}{M:Model}{A:ao}{E:af->ah->Prop}{s:ah}(h:wpAny M A t Q E s)(hQ:∀a s,Q a s->Q' a s):wpAny M A t Q' E s:=iC h hQ λ_ _ x=>x
section
variable{X:Cx}
noncomputable def Ik(i:Nat):TE:=λσ H Q=>∃v,σ[i]?=aC (aC v)/\Q v H
noncomputable def tC(v:V):TE:=λ_ H Q=>Q v H
theorem Il{i:Nat}{x:Str}{pos:Pos}(hN:X.N[i]?=aC x)(hv:pW X.env.scope x)(hd:autoParam ((x==("__debug__" : Str))=false) L2.aD1._auto_1)(hcd:autoParam ((x==("__classdict__" : Str))=false) L2.aD1._auto_1):PE X (.Name x pos) (Ik i):=by
 intro pins s σ H Q I h;obtain⟨v,e,h⟩:=h;obtain⟨m,hn,hl⟩:=I.loc;obtain⟨u,r,l⟩:=hl i x v hN e hv;have fin:EP X pins σ Q u s:=⟨v,H,I,r,h⟩
 rcases l with⟨hk,hm⟩|⟨hk,c,hc,hcell⟩;exact wpAny_Name (wpAny_loadName_local I.ok.kind hk hn hm fin) hd;rcases hk with hk|hk;exact wpAny_Name (wpAny_loadName_cell I.ok.kind hk hc hcell fin) hd;exact wpAny_Name (wpAny_loadName_free I.ok.kind hk hc hcell fin hcd) hd
theorem Qe{i j pos}:PE X (.Constant (.int i) j pos) (tC (.int i)):=λ_ _ _ H _ I h=>wpAny_Constant_int ⟨.int i,H,I.tok _,⟨_,rfl⟩,h⟩
theorem uV{b j pos}:PE X (.Constant (.bool b) j pos) (tC (.bl b)):=λ_ _ _ H _ I h=>Constant_bool ⟨.bl b,H,I,rfl,h⟩
theorem VY{j pos}:PE X (.Constant .none j pos) (tC .aL):=λ_ _ _ H _ I h=>Constant_none ⟨.aL,H,I,rfl,h⟩
theorem Qf{x j pos}:PE X (.Constant (.str x) j pos) (tC (.str x)):=λ_ _ _ H _ I h=>Calls.Constant_str ⟨.str x,H,I.tok _,⟨_,rfl⟩,h⟩
noncomputable def Gl(X:Cx)(x:Str):Prop:=X.env.kindOf x=aC .globalImplicit
theorem xr{E:af->ah->Prop}{pins:List (ai×Obj)}{s:ah}{σ:St}{H:Hp}{x:Str}{u:af}{pos:Pos}{Q:af->ah->Prop}(I:Inv X pins σ H s)(hg:Gl X x)(hm:X.mg x=aC u)(h:Q u s)
 (hd:autoParam ((x==("__debug__" : Str))=false) L2.aD1._auto_1):wpAny (model X.prog X.w) X.A (eval (.Name x pos) X.env) Q E s:=
 Calls.Name_function_global I.ok.kind hg (Calls.loadGlobal_global (by rw[I.ok.glob];exact I.mod.glob.keeps I.bk) hm h) hd
theorem xu{E:af->ah->Prop}{pins:List (ai×Obj)}{s:ah}{σ:St}{H:Hp}{x:Str}{u:af}{pos:Pos}{Q:af->ah->Prop}(I:Inv X pins σ H s)(hg:Gl X x)(hm:X.mg x=aD)(hv:bootBuiltins x=aC u)(h:Q u s)
 (hn:autoParam (x≠"__name__") L2.aD1._auto_1) (hd:autoParam ((x==("__debug__" : Str))=false) L2.aD1._auto_1):wpAny (model X.prog X.w) X.A (eval (.Name x pos) X.env) Q E s:=by
 obtain⟨mb,h1,h2⟩:=I.mod.blt;exact Calls.Name_function_global I.ok.kind hg (Calls.loadGlobal_builtin (by rw[I.ok.glob];exact I.mod.glob.keeps I.bk) hm (by rw[I.ok.blt];exact h1.keeps I.bk) ((h2 x hn).trans hv) h) hd
theorem Qg{x:Str}{v:V}{u:af}{pos:Pos}(hg:Gl X x)(hm:X.mg x=aC u)(r:RelV v u)(hd:autoParam ((x==("__debug__" : Str))=false) L2.aD1._auto_1):PE X (.Name x pos) (tC v):=
 λ_ _ _ H _ I h=>xr I hg hm ⟨v,H,I,r,h⟩ hd
theorem Qh{x:Str}{v:V}{u:af}{pos:Pos}(hg:Gl X x)(hm:X.mg x=aD)(hv:bootBuiltins x=aC u)(r:RelV v u)(hn:autoParam (x≠"__name__") L2.aD1._auto_1)(hd:autoParam ((x==("__debug__" : Str))=false) L2.aD1._auto_1):PE X (.Name x pos) (tC v):=
 λ_ _ _ H _ I h=>xu I hg hm hv ⟨v,H,I,r,h⟩ hn hd
variable{a b:aq}{ta tb:TE}{pos:Pos}
noncomputable def tB(t:TE):TT:=λσ H Q=>t σ H λx H1=>∃c,x=.bl c/\Q c H1
theorem VZ{e:aq}{t:TE}(h:PE X e t)(he:∀whole,isTrue e X.env whole=(do let v <-whole;standAt e.pos;holding [v] (truthy v)):=by intro _;rfl):PT X e (tB t):=by intro pins s σ H Q I hw;refine isTrue_plain (bg (h pins s σ H _ I hw) λv s1 z9=>z9.el λx H1 I1 r1 q1=>?_) (he _);obtain⟨d,rfl,q⟩:=q1;cases r1;exact rK ⟨H1,I1,q⟩
variable{tA FN:TT}{rest:List aq}
noncomputable def Im(t u:TT):TT:=λσ H Q=>t σ H λc H1=>if c=true then u σ H1 Q else Q false H1
noncomputable def V0(t u:TT):TT:=λσ H Q=>t σ H λc H1=>if c=true then Q true H1 else u σ H1 Q
noncomputable def Io(t:TT):TT:=λσ H Q=>t σ H λc H1=>Q (!c) H1
theorem V1(ha:PT X a tA):PW X (.BoolOp .And [a] pos) tA:=by
 intro wh pins s σ H Q I h;refine isTrue_and (bg (ha pins s σ H Q I h) λc s1 e=>?_);cases c with|true=>exact isTrue_and_nil e|false=>exact e
theorem Qi(ha:PT X a tA):PW X (.BoolOp .Or [a] pos) tA:=by
 intro wh pins s σ H Q I h;refine isTrue_or (bg (ha pins s σ H Q I h) λc s1 e=>?_);cases c with|false=>exact isTrue_or_nil e|true=>exact e
theorem V2(ha:PT X a tA)(hb:PW X (.BoolOp .And (b::rest) pos) FN):PW X (.BoolOp .And (a::b::rest) pos) (Im tA FN):=by
 intro wh pins s σ H Q I h;refine isTrue_and (bg (ha pins s σ H _ I h) λc s1 z9=>z9.el λH1 I1 q1=>?_);cases c with|true=>exact hb wh pins s1 σ H1 Q I1 q1|false=>exact⟨H1,I1,q1⟩
theorem pw_or(ha:PT X a tA)(hb:PW X (.BoolOp .Or (b::rest) pos) FN):PW X (.BoolOp .Or (a::b::rest) pos) (V0 tA FN):=by
 intro wh pins s σ H Q I h;refine isTrue_or (bg (ha pins s σ H _ I h) λc s1 z9=>z9.el λH1 I1 q1=>?_);cases c with|true=>exact⟨H1,I1,q1⟩|false=>exact hb wh pins s1 σ H1 Q I1 q1
theorem Qj(ha:PT X a tA):PT X (.UnaryOp .Not a pos) (Io tA):=by intro pins s σ H Q I h;exact isTrue_not (ha pins s σ H (λc H1=>Q (!c) H1) I h)
noncomputable def A9(ta tb:TE):TE:=λσ H Q=>ta σ H λx H1=>∃c,x=.bl c/\if c=true then tb σ H1 Q else Q (.bl false) H1
noncomputable def Ip(ta tb:TE):TE:=λσ H Q=>ta σ H λx H1=>∃c,x=.bl c/\if c=true then Q (.bl true) H1 else tb σ H1 Q
noncomputable def Ba(ta:TE):TE:=λσ H Q=>ta σ H λx H1=>∃c,x=.bl c/\Q (.bl (!c)) H1
theorem V3{op}{t:TE}(h:PE X a t):PE X (.BoolOp op [a] pos) t:=λpins s σ H Q I hw=>BoolOp_one (h pins s σ H Q I hw)
theorem V4(ha:PE X a ta)(hb:PE X (.BoolOp .And (b::rest) pos) tb):PE X (.BoolOp .And (a::b::rest) pos) (A9 ta tb):=by
 intro pins s σ H Q I h;refine BoolOp_and (bg (ha pins s σ H _ I h) λv s1 z9=>z9.el λx H1 I1 r1 q1=>?_);obtain⟨c,rfl,q1⟩:=q1;cases r1;refine rK ?_;cases c with|true=>exact hb pins s1 σ H1 Q I1 q1|false=>exact⟨.bl false,H1,I1,rfl,q1⟩
theorem Bb(ha:PE X a ta)(hb:PE X (.BoolOp .Or (b::rest) pos) tb):PE X (.BoolOp .Or (a::b::rest) pos) (Ip ta tb):=by
 intro pins s σ H Q I h;refine BoolOp_or (bg (ha pins s σ H _ I h) λv s1 z9=>z9.el λx H1 I1 r1 q1=>?_);obtain⟨c,rfl,q1⟩:=q1;cases r1;refine rK ?_;cases c with|false=>exact hb pins s1 σ H1 Q I1 q1|true=>exact⟨.bl true,H1,I1,rfl,q1⟩
theorem V5(ha:PE X a ta):PE X (.UnaryOp .Not a pos) (Ba ta):=by intro pins s σ H Q I h;refine UnaryOp_ (bg (ha pins s σ H _ I h) λv s1 z9=>z9.el λx H1 I1 r1 q1=>?_);obtain⟨c,rfl,q1⟩:=q1;cases r1;exact not_of (rK ⟨.bl (!c),H1,I1,rfl,q1⟩)
noncomputable def V6(t:TT)(ta tb:TE):TE:=λσ H Q=>t σ H λc H1=>if c=true then ta σ H1 Q else tb σ H1 Q
theorem V7{c:aq}(hc:PT X c tA)(ha:PE X a ta)(hb:PE X b tb):PE X (.IfExp c a b pos) (V6 tA ta tb):=by
 intro pins s σ H Q I h;refine wpAny_IfExp (bg (hc pins s σ H _ I h) λd s1 z9=>z9.el λH1 I1 q1=>?_);cases d with|true=>exact ha pins s1 σ H1 Q I1 q1|false=>exact hb pins s1 σ H1 Q I1 q1
end
noncomputable def cJ(K:aI)(H:Hp)(a:ai)(xs:List V):Prop:=
 Rd H a (.lst xs)\/
  ∃(o:Obj) (its:Array af) (n:Nat),K.lookup a=aC o/\o.cls=.type "list"/\o.dict=aD/\o.data=.seq its n/\its.size<=sizeLine/\Vals xs its.toList
noncomputable def dh(K:aI)(H:Hp)(a:ai)(xs:List V):Prop:=
 Rd H a (.tup xs)\/
  ∃(o:Obj) (its:Array af) (n:Nat),K.lookup a=aC o/\o.cls=.type "tuple"/\o.dict=aD/\o.data=.seq its n/\its.size<=sizeLine/\Vals xs its.toList
noncomputable def Iq:af->Option V|.none=>aC .aL|.bool b=>aC (.bl b)|.int i _=>aC (.int i)|.str x _=>aC (.str x)|.bytes b _=>aC (.pV b)|.float b _=>aC (.zF b)|.ref a=>aC (.ref a)|.type n=>aC (.ty n)|_=>aD
theorem RelV.abs{x:V}{u:af}(r:RelV x u):Iq u=aC x:=by
 cases x with|aL=>cases r;rfl|bl _=>cases r;rfl|int _=>obtain⟨t,rfl⟩:=r;rfl|str _=>obtain⟨t,rfl⟩:=r;rfl|pV _=>obtain⟨t,rfl⟩:=r;rfl|zF _=>obtain⟨t,rfl⟩:=r;rfl|ref _=>cases r;rfl|ty _=>cases r;rfl
theorem RelV.inj{x y:V}{u:af}(r:RelV x u)(q:RelV y u):x=y:=pU (r.abs.symm.trans q.abs)
theorem Vals.inj:∀{xs ys:List V} {us:List af},Vals xs us->Vals ys us->xs=ys|_,_,_,.nil,.nil=>rfl|_,_,_,.cons r t,.cons r' t'=>by rw[r.inj r',Vals.inj t t']
section
variable{X:Cx}{pins:List (ai×Obj)}{σ:St}{H:Hp}{s:ah}{a:ai}{xs ys:List V}
theorem cJ.of{K:aI}(h:H a=aC (.lst xs)):cJ K H a xs:=.inl (.inl h)
theorem dh.of{K:aI}(h:H a=aC (.tup xs)):dh K H a xs:=.inl (.inl h)
theorem Inv.list(I:Inv X pins σ H s)(h:cJ X.K H a xs):∃its:List af,Vals xs its/\PlainL s.heap a its.toArray/\xs.length<=sizeLine:=by rcases h with h|⟨o,its,n,hk,hc,hd,hs,hz,r⟩;obtain⟨z,its,n,r,e⟩:=h.ok I.hok;exact⟨its,r,⟨_,n,e,rfl,rfl,rfl⟩,z⟩;refine⟨its.toList,r,⟨o,n,I.gT a o hk,hc,hd,by simpa using hs⟩,?_⟩;have e:=r.length;simp only[zD]at e;lia
theorem Inv.pX(I:Inv X pins σ H s)(h:dh X.K H a xs):∃its:List af,Vals xs its/\lV s.heap a its.toArray/\xs.length<=sizeLine:=by rcases h with h|⟨o,its,n,hk,hc,hd,hs,hz,r⟩;obtain⟨z,its,r,p⟩:=h.ok I.hok;exact⟨its,r,p,z⟩;refine⟨its.toList,r,⟨o,I.gT a o hk,hc,⟨n,by simpa using hs⟩,hd⟩,?_⟩;have e:=r.length;simp only[zD]at e;lia
theorem Inv.tuple(I:Inv X pins σ H s)(h:dh X.K H a xs):∃its:List af,Vals xs its/\IsTup s.heap a its.toArray/\xs.length<=sizeLine:=by obtain⟨its,r,p,z⟩:=I.pX h;exact⟨its,r,p.tup,z⟩
theorem Inv.kE(I:Inv X pins σ H s)(h:cJ X.K H a xs)(h':cJ X.K H a ys):xs=ys:=by
 obtain⟨its,r,⟨o,n,e,_,_,d⟩,_⟩:=I.list h;obtain⟨its',r',⟨o',n',e',_,_,d'⟩,_⟩:=I.list h';rw[e]at e';cases e';rw[d]at d';injection d' with d1 _;have:its=its':=by simpa using jQ Array.toList d1
 subst this;exact r.inj r'
theorem Inv.ia(I:Inv X pins σ H s)(h:dh X.K H a xs)(h':dh X.K H a ys):xs=ys:=by
 obtain⟨its,r,⟨o,e,_,n,d⟩,_⟩:=I.tuple h;obtain⟨its',r',⟨o',e',_,n',d'⟩,_⟩:=I.tuple h';rw[e]at e';cases e';rw[d]at d';injection d' with d1 _;have:its=its':=by simpa using jQ Array.toList d1
 subst this;exact r.inj r'
end
noncomputable abbrev Cx.eU(X:Cx)(E:af->ah->Prop):Cx:={X with xe:=E}
noncomputable abbrev Cx.jb(X:Cx):Cx:=X.eU λ_ _=>False
theorem Cx.Ok.eU{X:Cx}(ok:X.Ok)(E:af->ah->Prop):(X.eU E).Ok:=
 ⟨ok.mod,ok.kind,ok.glob,ok.blt,ok.above,ok.inj,ok.has,ok.xq,ok.hd,ok.frames,ok.stk,ok.zJ,ok.bs,ok.rS,ok.lW,ok.lX,ok.gv,ok.sU⟩
theorem Cx.Ok.ck{X:Cx}{E:af->ah->Prop}(ok:(X.eU E).Ok):X.Ok:=
 ⟨ok.mod,ok.kind,ok.glob,ok.blt,ok.above,ok.inj,ok.has,ok.xq,ok.hd,ok.frames,ok.stk,ok.zJ,ok.bs,ok.rS,ok.lW,ok.lX,ok.gv,ok.sU⟩
section
variable{X:Cx}{pins:List (ai×Obj)}{σ:St}{H:Hp}{s:ah}{E:af->ah->Prop}
theorem Inv.eU(I:Inv X pins σ H s)(E:af->ah->Prop):Inv (X.eU E) pins σ H s:=⟨I.ok.eU E,I.os,I.bare,I.base,I.loc,I.cell,I.free,I.dI,I.pin,I.hok,I.len⟩
theorem Inv.ck(I:Inv (X.eU E) pins σ H s):Inv X pins σ H s:=⟨I.ok.ck,I.os,I.bare,I.base,I.loc,I.cell,I.free,I.dI,I.pin,I.hok,I.len⟩
theorem SP.ck{D:Ends}{f:Flow}{s':ah}(h:SP (X.eU E) pins D f s'):SP X pins D f s':=by
 cases f with|next=>obtain⟨σ',H',I,q⟩:=h;exact⟨σ',H',I.ck,q⟩|brk=>obtain⟨σ',H',I,q⟩:=h;exact⟨σ',H',I.ck,q⟩|cont=>obtain⟨σ',H',I,q⟩:=h;exact⟨σ',H',I.ck,q⟩|ret u=>obtain⟨v,σ',H',I,r,q⟩:=h;exact⟨v,σ',H',I.ck,r,q⟩
theorem PE.jb{e:aq}{t:TE}(h:PE X.jb e t):PE X e t:=λpins s σ H Q I hw=>
 iC (h pins s σ H Q (I.eU _) hw) (λ_ _ ⟨v,H',I',r,q⟩=>⟨v,H',I'.ck,r,q⟩) λ_ _ z=>False.elim z
theorem PT.jb{e:aq}{t:TT}(h:PT X.jb e t):PT X e t:=λpins s σ H Q I hw=>
 iC (h pins s σ H Q (I.eU _) hw) (λ_ _ ⟨H',I',q⟩=>⟨H',I'.ck,q⟩) λ_ _ z=>False.elim z
theorem gU.jb{st:List au}{t:TS}(h:gU X.jb st t):gU X st t:=λpins s σ H D I hw=>
 iC (h pins s σ H D (I.eU _) hw) (λ_ _ q=>q.ck) λ_ _ z=>False.elim z
end
section
variable{X:Cx}{st:au}{rest:List au}{t u:TS}{e:aq}{te:TE}{pos:Pos}
noncomputable def uW:TS:=λD σ H=>D.nx σ H
noncomputable def Ir(t u:TS):TS:=λD σ H=>t {D with nx:=u D} σ H
theorem Qk:gU X [] uW:=λ_ _ σ H _ I h=>zm ⟨σ,H,I,h⟩
theorem Iu(h1:PS X st t)(h2:gU X rest u):gU X (st::rest) (Ir t u):=by
 intro pins s σ H D I h;refine wpAny_execs_cons (bg (h1 pins s σ H {D with nx:=u D} I h) λf s1 q=>?_);cases f with
 |next=>
  obtain⟨σ',H',I',q⟩:=q;exact h2 pins s1 σ' H' D I' q
 |ret v=>exact q
 |brk=>exact q
 |cont=>exact q
theorem Ql(h1:PS X st t):gU X [st] t:=by
 intro pins s σ H D I h;refine wpAny_execs_cons (bg (h1 pins s σ H D I h) λf s1 q=>?_);cases f with|next=>exact zm q|ret v=>exact q|brk=>exact q|cont=>exact q
noncomputable def V8:TS:=λD σ H=>D.bk σ H
noncomputable def Bc:TS:=λD σ H=>D.ct σ H
theorem V9:PS X (.Pass pos) uW:=λ_ _ σ H _ I h=>wpAny_Pass ⟨σ,H,I,h⟩
theorem Wa:PS X (.Break pos) V8:=λ_ _ σ H _ I h=>wpAny_Break ⟨σ,H,I,h⟩
theorem Wb:PS X (.Continue pos) Bc:=λ_ _ σ H _ I h=>wpAny_Continue ⟨σ,H,I,h⟩
theorem Inv.quiet{pins:List (ai×Obj)}{σ:St}{H:Hp}{s:ah}(I:Inv X pins σ H s):interactive X.env=false:=by simp[interactive,I.ok.kind]
noncomputable def Be(te:TE):TS:=λD σ H=>te σ H λ_ H1=>D.nx σ H1
theorem Wc(he:PE X e te)(hs:autoParam (swapsWith e aD pos.line X.env=pure false) L2.aR1._auto_1):PS X (.Expr e pos) (Be te):=by intro pins s σ H D I h;exact wpAny_Expr_any (bg (he pins s σ H _ I h) λv s1 z9=>z9.el λx H1 I1 r1 q1=>⟨σ,H1,I1,q1⟩) I.quiet hs
noncomputable def Iv(te:TE):TS:=λD σ H=>te σ H D.rt
theorem FO(he:PE X e te):PS X (.Return (aC e) pos) (Iv te):=by intro pins s σ H D I h;exact wpAny_Return_some (bg (he pins s σ H _ I h) λv s1 z9=>z9.el λx H1 I1 r1 q1=>⟨x,σ,H1,I1,r1,q1⟩)
noncomputable def Bf:TS:=λD _ H=>D.rt .aL H
theorem We:PS X (.Return aD pos) Bf:=λ_ _ σ H _ I h=>wpAny_Return_none ⟨.aL,σ,H,I,rfl,h⟩
noncomputable def Iw(c:TT)(t u:TS):TS:=λD σ H=>c σ H λb H1=>if b=true then t D σ H1 else u D σ H1
theorem uX{c:aq}{a b:List au}{tc:TT}(hc:PT X c tc)(ha:gU X a t)(hb:gU X b u):PS X (.If c a b pos) (Iw tc t u):=by
 intro pins s σ H D I h;refine wpAny_If (bg (hc pins s σ H _ I h) λd s1 z9=>z9.el λH1 I1 q1=>?_);cases d with|true=>exact ha pins s1 σ H1 D I1 q1|false=>exact hb pins s1 σ H1 D I1 q1
noncomputable def Wf:TS:=λ_ _ _=>False
theorem Wg:PS X st Wf:=λ_ _ _ _ _ _ h=>h.elim
end
noncomputable abbrev TG:=V->St->Hp->(St->Hp->Prop)->Prop
noncomputable abbrev sY:=List V->St->Hp->(St->Hp->Prop)->Prop
noncomputable def PG(X:Cx)(target:aq)(t:TG):Prop:=
 ∀(pins:List (ai×Obj))(s:ah)(σ:St)(H:Hp)(v:V)(u:af)(Q:St->Hp->Prop),Inv X pins σ H s->RelV v u->t v σ H Q->
  wpAny (model X.prog X.w) X.A (assign target X.env u) (λ_ s'=>∃σ' H',Inv X pins σ' H' s'/\Q σ' H') X.xe s
noncomputable def zK(X:Cx)(ts:List aq)(t:sY):Prop:=
 ∀(pins:List (ai×Obj))(s:ah)(σ:St)(H:Hp)(vs:List V)(us:List af)(Q:St->Hp->Prop),Inv X pins σ H s->Vals vs us->t vs σ H Q->
  wpAny (model X.prog X.w) X.A (assignInOrder ((assignEach ts X.env).map (·.2)) us) (λ_ s'=>∃σ' H',Inv X pins σ' H' s'/\Q σ' H') X.xe s
noncomputable abbrev xw:=V->V->V->Hp->(Hp->Prop)->Prop
noncomputable def nU(X:Cx)(t:xw):Prop:=
 ∀(pins:List (ai×Obj))(s:ah)(σ:St)(H:Hp)(o i v:V)(ov iv u:af)(Q:Hp->Prop),Inv X pins σ H s->RelV o ov->RelV i iv->RelV v u->t o i v H Q->
  wpAny (model X.prog X.w) X.A (setItem ov iv u) (λ_ s'=>∃H',Inv X pins σ H' s'/\Q H') X.xe s
noncomputable abbrev FP:=V->V->Hp->VK->Prop
noncomputable def zL(X:Cx)(op:Operator)(t:FP):Prop:=
 ∀(pins:List (ai×Obj))(s:ah)(σ:St)(H:Hp)(x y:V)(v u:af)(Q:VK),Inv X pins σ H s->RelV x v->RelV y u->t x y H Q->
  wpAny (model X.prog X.w) X.A (inplaceOp op v u) (EP X pins σ Q) X.xe s
section
variable{X:Cx}{pos:Pos}
noncomputable def kF(i:Nat):TG:=λv σ H Q=>Q (σ.set i (aC v)) H
theorem Qm{i:Nat}{x:Str}(hN:X.N.Nodup)(hi:X.N[i]?=aC x)(hx:Loc X.env.scope x)(hf:autoParam (X.fn x=true\/X.env.scope.names.lookup x=aC .local) L2.aF1._auto_1):PG X (.Name x pos) (kF i):=by intro pins s σ H v u Q I r h;exact wpAny_assign_Name (A7 I hN hi hx r (λs' I'=>⟨_,H,I',h⟩) hf)
noncomputable def Iz:sY:=λvs σ H Q=>vs=[]/\Q σ H
noncomputable def Bg(t:TG)(u:sY):sY:=λvs σ H Q=>∃v r,vs=v::r/\t v σ H λσ' H'=>u r σ' H' Q
theorem Qn:zK X [] Iz:=by intro pins s σ H vs us Q I r h;obtain⟨e,h⟩:=h;subst e;cases r;exact assignInOrder_nil ⟨σ,H,I,h⟩
theorem IA{e:aq}{es:List aq}{t:TG}{u:sY}(h1:PG X e t)(h2:zK X es u)
 (hs:autoParam ((assignEach (e::es) X.env).map (·.2)=assign e X.env:: (assignEach es X.env).map (·.2)) L2.aR1._auto_1):zK X (e::es) (Bg t u):=by
 intro pins s σ H vs us Q I r h;obtain⟨v,vr,e1,h⟩:=h;subst e1;cases r with
 |cons r rr=>
  rw[hs];refine assignInOrder_cons (bg (h1 pins s σ H _ _ _ I r h) λ_ s1 cj=>?_);obtain⟨σ1,H1,I1,q1⟩:=cj;exact h2 pins s1 σ1 H1 _ _ Q I1 rr q1
noncomputable def IB(K:aI)(n:Nat)(t:sY):TG:=λv σ H Q=>∃a xs,v=.ref a/\dh K H a xs/\xs.length=n/\t xs σ H Q
theorem Qo{es:List aq}{k:Nat}{t:sY}{n:Nat}(hc:X.calm)(h:zK X es t)
 (hn:autoParam ((assignEach es X.env).length=n) L2.aR1._auto_1) (hst:autoParam ((assignEach es X.env).findIdx? (·.1)=aD) L2.aR1._auto_1):PG X (.Tuple es k pos) (IB X.K n t):=by
 intro pins s σ H v u Q I r hw;obtain⟨a,xs,e1,hq,hl,hw⟩:=hw;subst e1;cases r;obtain⟨its,rv,ht,hz⟩:=I.tuple hq;refine assign_Tuple_tuple (I.ok.hd hc) ht (by simp[hn,<-hl,rv.length]) hst λh' hx=>?_;have I1:Inv X pins σ H {s with heap:=h'}:=I.kept (t':=s.toks) λb o e=>hx b o (fN (cN e)) e;exact h pins _ σ H xs _ Q I1 (by simpa using rv) hw
noncomputable def IC(to ti:TE)(t:xw):TG:=λv σ H Q=>to σ H λo H1=>ti σ H1 λi H2=>t o i v H2 λH3=>Q σ H3
theorem Wh{o i:aq}{to ti:TE}{t:xw}(ho:PE X o to)(hi:PE X i ti)(hs:nU X t)
 (ha:∀v,assign (.Subscript o i pos) X.env v=(do
   let ov <-holding [v] (eval o X.env);let iv <-holding [v,ov] (eval i X.env)
   standAt pos
   holding [v,ov,iv] (setItem ov iv v)
   release [v,ov,iv] []):=by intro _;rfl):PG X (.Subscript o i pos) (IC to ti t):=by
 intro pins s σ H v u Q I r h;rw[ha];refine aK (lO (bg (ho pins s σ H _ I h) λov s1 z9=>z9.el λx H1 I1 r1 q1=>?_));refine aK (lO (bg (hi pins s1 σ H1 _ I1 q1) λiv s2 z9=>z9.el λy H2 I2 r2 q2=>?_));refine aK (kB (aK (lO (bg (hs pins s2 σ H2 x y v ov iv u _ I2 r1 r2 r q2) λ_ s3 cj=>?_))));obtain⟨H3,I3,q3⟩:=cj;exact wpAny_release ⟨σ,H3,I3,q3⟩
noncomputable def xx(te:TE)(g:TG):TS:=λD σ H=>te σ H λx H1=>g x σ H1 D.nx
theorem Qp{tg e:aq}{te:TE}{g:TG}(he:PE X e te)(hg:PG X tg g)(hs:autoParam (swapsWithSole [tg] e pos.line X.env=pure false) L2.aR1._auto_1)(hw:autoParam (swappedStores [tg] e X.env=pure aD) L2.aR1._auto_1)
 (h1:autoParam ((assignEach [tg] X.env).map (·.2)=[assign tg X.env]) L2.aR1._auto_1):PS X (.Assign [tg] e pos) (xx te g):=by
 intro pins s σ H D I h;refine wpAny_Assign_stores (bg (he pins s σ H _ I h) λv s1 z9=>z9.el λx H1 I1 r1 q1=>?_) hs hw;rw[h1];exact bg (hg pins s1 σ H1 x v _ I1 r1 q1) λ_ s2 q=>q
theorem Qq{i:Nat}{x:Str}{e:aq}{te:TE}{pos':Pos}(hN:X.N.Nodup)(hi:X.N[i]?=aC x)(hx:Loc X.env.scope x)(he:PE X e te)(hs:autoParam (swapsWith e (aC (.Name x pos')) pos.line X.env=pure false) L2.aR1._auto_1)(hf:autoParam (X.fn x=true\/X.env.scope.names.lookup x=aC .local) L2.aF1._auto_1) :
 PS X (.Assign [.Name x pos'] e pos) (xx te (kF i)):=by
 intro pins s σ H D I h;refine wpAny_Assign_Name (bg (he pins s σ H _ I h) λv s1 z9=>z9.el λy H1 I1 r1 q1=>?_) hs;exact A7 I1 hN hi hx r1 (λs2 I2=>⟨_,H1,I2,q1⟩) hf
noncomputable def ID(i:Nat)(te:TE)(ti:FP):TS:=λD σ H=>∃x,σ[i]?=aC (aC x)/\te σ H λy H1=>ti x y H1 λz H2=>D.nx (σ.set i (aC z)) H2
theorem Wi{i:Nat}{x:Str}{e:aq}{te:TE}{op:Operator}{ti:FP}{pos':Pos}(hN:X.N.Nodup)(hi:X.N[i]?=aC x)(hx:Loc X.env.scope x)(he:PE X e te)(ho:zL X op ti)(hf:autoParam (X.fn x=true\/X.env.scope.names.lookup x=aC .local) L2.aF1._auto_1) :
 PS X (.AugAssign (.Name x pos') op e pos) (ID i te ti):=by
 intro pins s σ H D I h;obtain⟨v,e1,h⟩:=h;obtain⟨m,hn,hl⟩:=I.loc;have vis:pW X.env.scope x:=by rcases hx with k|k;exact .inl k;exact .inr (.inl k)
 obtain⟨u,r,l⟩:=hl i x v hi e1 vis;refine wpAny_AugAssign_Name ?_;have go:wpAny (model X.prog X.w) X.A (eval e X.env) (λw s₂=>wpAny (model X.prog X.w) X.A (inplaceOp op u w) (λr s₃=>wpAny (model X.prog X.w) X.A (storeName X.env x r) (λ_=>SP X pins D .next) X.xe s₃) X.xe s₂) X.xe s:=by refine bg (he pins s σ H _ I h) λw s1 z9=>z9.el λy H1 I1 r1 q1=>?_;refine bg (ho pins s1 σ H1 v y u w _ I1 r r1 q1) λz s2 z9=>z9.el λzv H2 I2 r2 q2=>?_;exact A7 I2 hN hi hx r2 (λs3 I3=>⟨_,H2,I3,q2⟩) hf
 rcases l with⟨hk,hm⟩|⟨hk,c,hc,hcell⟩;exact wpAny_loadName_local I.ok.kind hk hn hm go;rcases hk with hk|hk;exact wpAny_loadName_cell I.ok.kind hk hc hcell go;rcases hx with k|k;have:X.env.scope.names.lookup x=aC .free:=hk;rw[k]at this;cases this;have:X.env.scope.names.lookup x=aC .free:=hk;rw[k]at this;cases this
noncomputable def FQ(f:Int->Int->Int):FP:=λx y H Q=>∃i j,x=.int i/\y=.int j/\Q (.int (f i j)) H
theorem Wj:zL X .Add (FQ λi j=>i+j):=by intro pins s σ H x y v u Q I r1 r2 h;obtain⟨i,j,e1,e2,q⟩:=h;subst e1;subst e2;obtain⟨t,rfl⟩:=r1;obtain⟨t',rfl⟩:=r2;exact iadd_int ⟨.int _,H,I.tok _,⟨_,rfl⟩,q⟩
theorem Wl:zL X .Sub (FQ λi j=>i-j):=by intro pins s σ H x y v u Q I r1 r2 h;obtain⟨i,j,e1,e2,q⟩:=h;subst e1;subst e2;obtain⟨t,rfl⟩:=r1;obtain⟨t',rfl⟩:=r2;exact isub_int ⟨.int _,H,I.tok _,⟨_,rfl⟩,q⟩
end
section
variable{X:Cx}{pos:Pos}
noncomputable def Wm(c:TT)(tb:TS):TS:=λD σ H=>∃W:Nat->St->Hp->Prop,(∃m,W m σ H)/\∀m σ H,W m σ H->
 c σ H λb H1=>if b=true then ∃N:St->Hp->Prop,(∀σ' H',N σ' H'->∃m',m'<m/\W m' σ' H')/\tb {D with nx:=N,ct:=N,bk:=D.nx} σ H1 else D.nx σ H1
theorem Wn{c:aq}{body:List au}{tc:TT}{tb:TS}(hp:PassesOwn (model X.prog X.w) X.A X.env X.xe)(hc:PT X c tc)(hb:gU X body tb):PS X (.While c body [] pos) (Wm tc tb):=by
 intro pins s σ H D I h;obtain⟨W,⟨m0,w0⟩,turn⟩:=h;refine wpAny_While (codeAny_whileLoop (λn s'=>∃σ' H',Inv X pins σ' H' s'/\W n σ' H') ?_ m0 ⟨σ,H,I,w0⟩);rintro n s1 ⟨σ1,H1,I1,w1⟩;refine wL hp (bg (hc pins s1 σ1 H1 _ I1 (turn n σ1 H1 w1)) λb s2 z9=>z9.el λH2 I2 q2=>?_);cases b with
 |true=>
  obtain⟨N,hN,q2⟩:=q2;rw[if_pos rfl];refine wL hp (bg (hb pins s2 σ1 H2 _ I2 q2) λf s3 q3=>?_);cases f with
  |next=>
   obtain⟨σ3,H3,I3,n3⟩:=q3;obtain⟨m',hm,w3⟩:=hN σ3 H3 n3;exact⟨m',hm,σ3,H3,I3,w3⟩
  |cont=>
   obtain⟨σ3,H3,I3,n3⟩:=q3;obtain⟨m',hm,w3⟩:=hN σ3 H3 n3;exact⟨m',hm,σ3,H3,I3,w3⟩
  |brk=>exact q3
  |ret v=>exact q3
 |false=>
  rw[if_neg lD];exact zm ⟨σ1,H2,I2,q2⟩
end
set_option genInjectivity false in
structure It where
 go:Nat->Hp->Prop
 xy:Nat->Hp->V->Hp->Prop
 stop:Nat->Hp->Prop
noncomputable def fU(X:Cx)(pins:List (ai×Obj))(H:Hp)(b:ai):Prop:=
 H b=aD/\b≠X.env.locals/\b∉X.fs/\(b∈X.ex\/X.s₀.heap.objs.size<=b)/\(∀x c,X.env.cells.lookup x=aC c->c≠b)/\∀p∈X.pn++pins,p.1≠b
theorem Inv.lY{X:Cx}{pins:List (ai×Obj)}{σ:St}{H H':Hp}{s:ah}{b:ai}(I:Inv X pins σ H s)(hb:s.heap.objs.size<=b)(hn:H' b=aD):fU X pins H' b:=by refine⟨hn,oZ (dF I.lt hb),I.Ig hb,.inr (eS I.sz hb),λx c e z=>?_,λp hp z=>?_⟩;obtain⟨v,q⟩:=I.cell x c e;exact absurd (dF q.lt (by rw[z];exact hb)) (g9 _);exact absurd (dF (cN (I.pin p hp).1) (by rw[z];exact hb)) (g9 _)
structure Turn(P:aj)(w:ak)(K:aI)(tg:aq)(J:It)(fp:List ai)(it:ai)(tn:Nat->aA->Prop):Prop where
 mem:it∈fp
 obj:∀i h,tn i h->∀b∈fp,∃o,h.get? b=aC o/\∀v,o.data≠.cell v
 keep:∀i h h',tn i h->(∀b∈fp,∀o,h.get? b=aC o->h'.get? b=aC o)->tn i h'
 item:∀(X:Cx),X.prog=P->X.w=w->X.K=K->X.calm=true->∀(i:Nat)(pins:List (ai×Obj))(s:ah)(σ:St)(H:Hp)(E:af->ah->Prop),Inv X pins σ H s->(∀b∈fp,fU X pins H b)->tn i s.heap->J.go i H->
  wpAny (model P w) X.A (pyNext (.ref it)) (λr s1=>∃u,r=aC u/\
   wpAny (model P w) X.A (letOwnedTupleGo tg (.ref it) u) (λ_ s2=>∃x H',Inv X pins σ H' s2/\RelV x u/\J.xy i H x H'/\tn (i+1) s2.heap/\∀b∈fp,H' b=aD) E s1) E s
 done:∀(X:Cx),X.prog=P->X.w=w->X.K=K->X.calm=true->∀(i:Nat)(pins:List (ai×Obj))(s:ah)(σ:St)(H:Hp)(E:af->ah->Prop),Inv X pins σ H s->(∀b∈fp,fU X pins H b)->tn i s.heap->J.stop i H->
  wpAny (model P w) X.A (pyNext (.ref it)) (λr s1=>r=aD/\Inv X pins σ H s1) E s
 self:∀(A:ao)(i:Nat)(s:ah)(Q:af->ah->Prop)(E:af->ah->Prop),tn i s.heap->Q (.ref it) s->wpAny (model P w) A (pyIter (.ref it)) Q E s
noncomputable abbrev TI:=St->Hp->(It->Hp->Prop)->Prop
noncomputable def FT(X:Cx)(pins:List (ai×Obj))(σ:St)(tg:aq)(R:It->Hp->Prop)(itv:af)(s2:ah):Prop:=
 ∃(it:ai) (fp:List ai) (tn:Nat->aA->Prop) (J:It) (H':Hp),itv=.ref it/\Inv X pins σ H' s2/\Turn X.prog X.w X.K tg J fp it tn/\tn 0 s2.heap/\(∀b∈fp,fU X pins H' b)/\R J H'
noncomputable def PI(X:Cx)(tg iter:aq)(wi:TI):Prop:=
 ∀(pins:List (ai×Obj))(s:ah)(σ:St)(H:Hp)(R:It->Hp->Prop),Inv X pins σ H s->wi σ H R->
  wpAny (model X.prog X.w) X.A (eval iter X.env) (λv s1=>wpAny (model X.prog X.w) X.A (pyIter v) (FT X pins σ tg R) X.xe s1) X.xe s
theorem mT{M:Model}{A:ao}{E:af->ah->Prop}{s:ah}{tg:aq}{it:ai}{u:af}{o:Obj}{n:String}{vs:Array af}{Q:Unit->ah->Prop}(ho:s.heap.get? it=aC o)(hc:o.cls=.type n)(hd:o.data=.fields vs)
 (hn:["enumerate","zip","dict_itemiterator","dict_reverseitemiterator","odict_iterator","itertools.zip_longest","itertools.pairwise"].contains n=false) (hQ:Q () s):wpAny M A (letOwnedTupleGo tg (.ref it) u) Q E s:=by
 unfold letOwnedTupleGo;cases tg<;>first
  |exact bR hQ
  |(cases u<;>first
     |exact bR hQ
     |(refine aK (wpAny_load ho ?_)
       rw[hc,hd];show wpAny M A (if(["enumerate","zip","dict_itemiterator","dict_reverseitemiterator","odict_iterator","itertools.zip_longest","itertools.pairwise"].contains n&&vs[0]? == aC (rawInt _))=true then _ else _) Q E s;rw[if_neg (by intro h;rw[hn,Ay]at h;cases h)];exact bR hQ))
noncomputable def FU(K:aI)(a:ai):It:=
 ⟨λi H=>∃xs x,cJ K H a xs/\xs[i]?=aC x,λi H x H'=>H'=H/\∀xs,cJ K H a xs->xs[i]?=aC x,λi H=>∃xs,cJ K H a xs/\xs.length<=i⟩
noncomputable def IE(K:aI)(a:ai):It:=
 ⟨λi H=>∃xs x,dh K H a xs/\xs[i]?=aC x,λi H x H'=>H'=H/\∀xs,dh K H a xs->xs[i]?=aC x,λi H=>∃xs,dh K H a xs/\xs.length<=i⟩
noncomputable def Bh(lo:Int)(n:Nat):It:=⟨λi _=>i<n,λi H x H'=>H'=H/\x=.int (lo+i),λi _=>n<=i⟩
theorem Wo{P:aj}{w:ak}{K:aI}{tg:aq}(a it:ai):Turn P w K tg (FU K a) [it] it (λi h=>h.IsListIter it a i)where
 mem:=by simp
 obj:=λi h st b hb=>by
  have e:b=it:=by simpa using hb
  subst e;obtain⟨o,e,c,d⟩:=st;exact⟨o,e,λv z=>by rw[d]at z;cases z⟩
 keep:=λi h h' st k=>st.at λo e=>k it (by simp) o e
 item:=by intro X hP hw hK hc i pins s σ H E I hf st hg;subst hP hw hK;obtain⟨xs,x,hq,hx⟩:=hg;obtain⟨its,rv,p,hz⟩:=I.list hq;obtain⟨u,hu,ru⟩:=rv.get hx;obtain⟨f0,f1,f2,f3,f4,f5⟩:=hf it (by simp);refine wpAny_pyNext_list_item st p.isList (x:=u) (by simpa using hu) λh' st' sb=>?_;have I1:Inv X pins σ H {s with heap:=h'}:=I.turned (t':=s.toks) (λb o hb e=>(sb.2 b hb).trans e) f0 f1 f3 f4 f5;obtain⟨o,e,c,d⟩:=id st';exact⟨u,rfl,mT (s:={s with heap:=h'}) e c d (by decide) ⟨x,H,I1,ru,⟨rfl,λys hy=>by rw[I.kE hy hq];exact hx⟩,st',λb hb=>(hf b hb).1⟩⟩
 done:=by intro X hP hw hK hc i pins s σ H E I hf st hg;subst hP hw hK;obtain⟨xs,hq,hx⟩:=hg;obtain⟨its,rv,p,hz⟩:=I.list hq;obtain⟨f0,f1,f2,f3,f4,f5⟩:=hf it (by simp);have hl:=rv.length;exact wpAny_pyNext_list_end (I.ok.hd hc) st p.isList (by simp;lia) λh' eb=>⟨rfl,I.turned (t':=s.toks) (λb o hb e=>eb b o hb e) f0 f1 f3 f4 f5⟩
 self:=λ_ _ _ _ _ st h=>wpAny_pyIter_listiter st h
theorem Wq{P:aj}{w:ak}{K:aI}{tg:aq}(a it:ai):Turn P w K tg (IE K a) [it] it (λi h=>h.IsTupleIter it a i)where
 mem:=by simp
 obj:=λi h st b hb=>by
  have e:b=it:=by simpa using hb
  subst e;obtain⟨o,e,c,d⟩:=st;exact⟨o,e,λv z=>by rw[d]at z;cases z⟩
 keep:=λi h h' st k=>st.at λo e=>k it (by simp) o e
 item:=by intro X hP hw hK hc i pins s σ H E I hf st hg;subst hP hw hK;obtain⟨xs,x,hq,hx⟩:=hg;obtain⟨its,rv,p,hz⟩:=I.tuple hq;obtain⟨u,hu,ru⟩:=rv.get hx;obtain⟨f0,f1,f2,f3,f4,f5⟩:=hf it (by simp);refine wpAny_pyNext_tuple_item st (show s.heap.IsTuple a its.toArray from p) (x:=u) (by simpa using hu) λh' st' sb=>?_;have I1:Inv X pins σ H {s with heap:=h'}:=I.turned (t':=s.toks) (λb o hb e=>(sb.2 b hb).trans e) f0 f1 f3 f4 f5;obtain⟨o,e,c,d⟩:=id st';exact⟨u,rfl,mT (s:={s with heap:=h'}) e c d (by decide) ⟨x,H,I1,ru,⟨rfl,λys hy=>by rw[I.ia hy hq];exact hx⟩,st',λb hb=>(hf b hb).1⟩⟩
 done:=by intro X hP hw hK hc i pins s σ H E I hf st hg;subst hP hw hK;obtain⟨xs,hq,hx⟩:=hg;obtain⟨its,rv,p,hz⟩:=I.tuple hq;obtain⟨f0,f1,f2,f3,f4,f5⟩:=hf it (by simp);have hl:=rv.length;exact wpAny_pyNext_tuple_end (I.ok.hd hc) st (show s.heap.IsTuple a its.toArray from p) (by simp;lia) λh' eb=>⟨rfl,I.turned (t':=s.toks) (λb o hb e=>eb b o hb e) f0 f1 f3 f4 f5⟩
 self:=λ_ _ _ _ _ st h=>wpAny_pyIter_tupleiter st h
theorem Wr{P:aj}{w:ak}{K:aI}{tg:aq}(it:ai)(lo:Int)(n:Nat):Turn P w K tg (Bh lo n) [it] it (λi h=>IsRangeIter h it (lo+ (i:Nat)*1) ((n:Int)- (i:Nat)) 1)where
 mem:=by simp
 obj:=λi h st b hb=>by
  have e:b=it:=by simpa using hb
  subst e;exact⟨_,st,λv z=>by
   have z':Data.fields _=Data.cell v:=z;cases z'⟩
 keep:=λi h h' st k=>k it (by simp) _ st
 item:=by intro X hP hw hK hc i pins s σ H E I hf st hg;subst hP hw hK;obtain⟨f0,f1,f2,f3,f4,f5⟩:=hf it (by simp);have W:=Walks.range (prog:=X.prog) (w:=X.w) (I.ok.hd hc) it lo 1 n;refine W.item i s _ _ hg st λv h' tk hv st' kk=>?_;obtain⟨t,rfl⟩:=hv;have I1:Inv X pins σ H {s with heap:=h',toks:=tk}:=I.turned (λb o hb e=>kk b o (by simpa using hb) e) f0 f1 f3 f4 f5;refine⟨_,rfl,mT (s:={s with heap:=h',toks:=tk}) (n:="range_iterator") st' rfl rfl (by decide) ⟨.int (lo+i),H,I1,⟨t,?_⟩,⟨rfl,rfl⟩,st',λb hb=>(hf b hb).1⟩⟩;rw[Int.mul_one]
 done:=by intro X hP hw hK hc i pins s σ H E I hf st hg;subst hP hw hK;obtain⟨f0,f1,f2,f3,f4,f5⟩:=hf it (by simp);exact wpAny_pyNext_range_end (I.ok.hd hc) st (by have:n<=i:=hg;lia) λh' eb=>⟨rfl,I.turned (t':=s.toks) (λb o hb e=>eb b o hb e) f0 f1 f3 f4 f5⟩
 self:=λ_ _ _ _ _ st h=>wpAny_pyIter_rangeiter st h
section
variable{X:Cx}{tg:aq}
noncomputable def Bj(K:aI)(tl:TE):TI:=λσ H R=>tl σ H λx H1=>∃a,x=.ref a/\(∃xs,cJ K H1 a xs)/\R (FU K a) H1
noncomputable def IF(K:aI)(tl:TE):TI:=λσ H R=>tl σ H λx H1=>∃a,x=.ref a/\(∃xs,dh K H1 a xs)/\R (IE K a) H1
theorem Qs{l:aq}{tl:TE}(hl:PE X l tl):PI X tg l (Bj X.K tl):=by
 intro pins s σ H R I h;refine bg (hl pins s σ H _ I h) λv s1 z9=>z9.el λx H1 I1 r1 q1=>?_;obtain⟨a,e,⟨xs,hq⟩,q⟩:=q1;subst e;cases r1;obtain⟨its,rv,p,hz⟩:=I1.list hq;refine zk p.isList ?_;refine⟨s1.heap.objs.size,[s1.heap.objs.size],_,_,H1,rfl,I1.kept (t':=s1.toks) λb o e=>cH _ e,Wo a _,⟨_,i8 _ rfl,rfl,rfl⟩,λb hb=>?_,q⟩;have e:b=s1.heap.objs.size:=by simpa using hb
 subst e;exact I1.lY (aZ _) (I1.hok.fresh (aZ _))
theorem Ws{l:aq}{tl:TE}(hl:PE X l tl):PI X tg l (IF X.K tl):=by
 intro pins s σ H R I h;refine bg (hl pins s σ H _ I h) λv s1 z9=>z9.el λx H1 I1 r1 q1=>?_;obtain⟨a,e,⟨xs,hq⟩,q⟩:=q1;subst e;cases r1;obtain⟨its,rv,p,hz⟩:=I1.tuple hq;refine wJ (show s1.heap.IsTuple a its.toArray from p) ?_;refine⟨s1.heap.objs.size,[s1.heap.objs.size],_,_,H1,rfl,I1.kept (t':=s1.toks) λb o e=>cH _ e,Wq a _,⟨_,i8 _ rfl,rfl,rfl⟩,λb hb=>?_,q⟩;have e:b=s1.heap.objs.size:=by simpa using hb
 subst e;exact I1.lY (aZ _) (I1.hok.fresh (aZ _))
theorem Qt{pins:List (ai×Obj)}{σ:St}{H:Hp}{s:ah}{R:It->Hp->Prop}{E:af->ah->Prop}{lo hi:Int}{t u v:Tok}{tk:Nat}(I:Inv X pins σ H s)(h1:-(2 ^ 62)<=lo)(h2:lo<2 ^ 62)(h3:-(2 ^ 62)<=hi)(h4:hi<2 ^ 62)
 (q:R (Bh lo (hi-lo).toNat) H):wpAny (model X.prog X.w) X.A (pyIter (.ref s.heap.objs.size)) (FT X pins σ tg R) E {s with heap:=s.heap.push {cls:=.type "range",data:=.fields #[.int lo t,.int hi u,.int 1 v]},toks:=tk}:=by
 refine wpAny_pyIter_range (IsRange.new ..) (small_one h1 h2 h3 h4) ?_;have I1:Inv X pins σ H {s with heap:=s.heap.push {cls:=.type "range",data:=.fields #[.int lo t,.int hi u,.int 1 v]},toks:=tk}:=I.kept λb o e=>cH _ e;refine⟨(s.heap.push {cls:=.type "range",data:=.fields #[.int lo t,.int hi u,.int 1 v]}).objs.size,[(s.heap.push {cls:=.type "range",data:=.fields #[.int lo t,.int hi u,.int 1 v]}).objs.size],_,_,H,rfl,
  I1.kept (t':=tk) λb o e=>cH _ e,Wr _ lo (hi-lo).toNat,?_,λb hb=>?_,q⟩
 have e1:lo+ ((0:Nat):Int)*1=lo:=by simp
 have e2:(((hi-lo).toNat:Nat):Int)- ((0:Nat):Int)=Builtin.Range.rangeSize lo hi 1:=by rw[rangeSize_one];split<;>lia
 show IsRangeIter _ _ (lo+ ((0:Nat):Int)*1) ((((hi-lo).toNat:Nat):Int)- ((0:Nat):Int)) 1;rw[e1,e2];exact i8 _ rfl;have e:b=(s.heap.push {cls:=.type "range",data:=.fields #[.int lo t,.int hi u,.int 1 v]}).objs.size:=by simpa using hb
 subst e;exact I1.lY (aZ _) (I1.hok.fresh (aZ _))
noncomputable def Bk(ta:TA):TI:=λσ H R=>ta σ H λvs H1=>∃j:Int,vs=[.int j]/\-(2 ^ 62)<=j/\j<2 ^ 62/\R (Bh 0 j.toNat) H1
noncomputable def Bl(ta:TA):TI:=λσ H R=>ta σ H λvs H1=>∃i j:Int,vs=[.int i,.int j]/\(-(2 ^ 62)<=i/\i<2 ^ 62/\-(2 ^ 62)<=j/\j<2 ^ 62)/\R (Bh i (j-i).toNat) H1
theorem Wt{a:aq}{ta:TA}{p pos:Pos}(hg:Gl X "range")(hm:X.mg "range" = aD)(ha:PA X [a] ta)(hs:autoParam (starEach [a] X.env=[(false,eval a X.env)]) L2.aR1._auto_1):PI X tg (.Call (.Name "range" p) [a] [] pos) (Bk ta):=by
 intro pins s σ H R I h;refine Call_ (xu I hg hm boot_range (AQ (bg (ha pos pins s σ H _ I h) λus s1 z9=>z9.el λvs H1 I1 r1 q1=>?_) hs rfl));obtain⟨j,e,q1,q2,q⟩:=q1;subst e;cases r1 with
 |cons r rr=>
  cases rr;obtain⟨t,rfl⟩:=r;exact call_range_1 (Qt I1 (by lia) (by lia) q1 q2 (by simpa using q))
theorem Wu{a b:aq}{ta:TA}{p pos:Pos}(hg:Gl X "range")(hm:X.mg "range" = aD)(ha:PA X [a,b] ta)(hs:autoParam (starEach [a,b] X.env=[(false,eval a X.env),(false,eval b X.env)]) L2.aR1._auto_1)(hs2:autoParam (starEach [b] X.env=[(false,eval b X.env)]) L2.aR1._auto_1) :
 PI X tg (.Call (.Name "range" p) [a,b] [] pos) (Bl ta):=by
 intro pins s σ H R I h;refine Call_ (xu I hg hm boot_range (AQ (bg (ha pos pins s σ H _ I h) λus s1 z9=>z9.el λvs H1 I1 r1 q1=>?_) (by rw[hs,hs2]) (by rw[hs2];rfl)));obtain⟨i,j,e,⟨q1,q2,q3,q4⟩,q⟩:=q1;subst e;cases r1 with
 |cons r rr=>
  cases rr with
  |cons r' rr=>
   cases rr;obtain⟨t,rfl⟩:=r;obtain⟨t',rfl⟩:=r';exact call_range_2 (Qt I1 q1 q2 q3 q4 q)
noncomputable def Bm(wi:TI)(g:TG)(tb:TS):TS:=λD σ H=>wi σ H λJ H1=>∃W:Nat->Nat->St->Hp->Prop,(∃m,W 0 m σ H1)/\∀i m σ H,W i m σ H->
 (J.stop i H/\D.nx σ H)\/(J.go i H/\∃N:St->Hp->Prop,(∀σ' H',N σ' H'->∃m',m'<m/\W (i+1) m' σ' H')/\∀x H',J.xy i H x H'->g x σ H' λσ2 H2=>tb {D with nx:=N,ct:=N,bk:=D.nx} σ2 H2)
noncomputable def zM(fp:List ai)(h:aA):List (ai×Obj):=fp.filterMap λb=>(h.get? b).map λo=>(b,o)
theorem zN{fp:List ai}{h:aA}{b:ai}{o:Obj}(hb:b∈fp)(e:h.get? b=aC o):(b,o)∈zM fp h:=List.mem_filterMap.mpr ⟨b,hb,by rw[e];rfl⟩
theorem Wv{fp:List ai}{h:aA}{p:ai×Obj}(hp:p∈zM fp h):p.1∈fp/\h.get? p.1=aC p.2:=by
 obtain⟨b,hb,e⟩:=List.mem_filterMap.mp hp;cases q:h.get? b with
 |none=>rw[q]at e;cases e
 |some o=>
  rw[q]at e;have e':(b,o)=p:=pU e;subst e';exact⟨hb,q⟩
theorem Inv.pinned{pins:List (ai×Obj)}{σ:St}{H:Hp}{s:ah}{fp:List ai}(I:Inv X pins σ H s)(hf:∀b∈fp,fU X pins H b)(ho:∀b∈fp,∃o,s.heap.get? b=aC o/\∀v,o.data≠.cell v):Inv X (pins++zM fp s.heap) σ H s:=
 I.mS λp hp=>(nR.mp hp).elim (λz=>I.pin p (lP _ z)) λz=>by
  obtain⟨hb,e⟩:=Wv z;obtain⟨f0,f1,f2,_⟩:=hf p.1 hb;obtain⟨o,e',d⟩:=ho p.1 hb;rw[e]at e';cases e';exact⟨e,f0,f1,f2,d⟩
theorem Inv.eV{pins pl:List (ai×Obj)}{σ:St}{H:Hp}{s:ah}(I:Inv X (pins++pl) σ H s):Inv X pins σ H s:=I.mS λp hp=>I.pin p (lP _ (List.mem_append_left _ hp))
theorem Ww{iter:aq}{body:List au}{wi:TI}{g:TG}{tb:TS}{pos:Pos}(hp:PassesOwn (model X.prog X.w) X.A X.env X.xe)(hc:X.calm)(hi:PI X tg iter wi)(hg:PG X tg g)(hb:gU X body tb)
 (hs:∀x,foldedSetIterable iter X.env x=pure x:=by intro _;rfl):PS X (.For tg iter body [] pos) (Bm wi g tb):=by
 intro pins s σ H D I h;refine wpAny_For (bg (hi pins s σ H _ I h) λv s1 h1=>bg h1 λitv s2 h2=>?_) hs;obtain⟨it,fp,tn,J,H2,e,I2,T,st2,f2,W,⟨m0,w0⟩,turn⟩:=h2;subst e;have lZ:∀{H':Hp},(∀b∈fp,H' b=aD)->∀b∈fp,fU X pins H' b:=λhn b hb=>⟨hn b hb,(f2 b hb).2⟩
 refine codeAny_forLoop_any (λn s'=>∃i σ' H',Inv X pins σ' H' s'/\tn i s'.heap/\(∀b∈fp,H' b=aD)/\W i n σ' H') ?_ m0 ⟨0,σ,H2,I2,st2,λb hb=>(f2 b hb).1,w0⟩;rintro n s3 ⟨i,σ3,H3,I3,st3,nV,w3⟩;rcases turn i n σ3 H3 w3 with⟨stop,qn⟩|⟨go,N,hN,step⟩
 .refine wL hp (bg (T.done X rfl rfl rfl hc i pins s3 σ3 H3 X.xe I3 (lZ nV) st3 stop) λr s4 cj=>?_)
  obtain⟨hr,I4⟩:=cj;subst hr;exact zm ⟨σ3,H3,I4,qn⟩
 .refine wL hp (bg (T.item X rfl rfl rfl hc i pins s3 σ3 H3 X.xe I3 (lZ nV) st3 go) λr s4 cj=>?_)
  obtain⟨u,hr,h4⟩:=cj;subst hr;refine wL hp (bg h4 λ_ s5 cj=>?_);obtain⟨x,H5,I5,r5,y5,rT,zO⟩:=cj;have IG:=I5.pinned (lZ zO) (T.obj _ _ rT);refine wL hp (bg (hg _ s5 σ3 H5 x u _ IG r5 (step x H5 y5)) λ_ s6 cj=>?_);obtain⟨kh,H6,I6,q6⟩:=cj;refine wL hp (bg (hb _ s6 kh H6 _ I6 q6) λf s7 q7=>?_);have again:∀{lE:St}{H7:Hp},Inv X (pins++zM fp s5.heap) lE H7 s7->N lE H7->∃m,m<n/\∃i σ' H',Inv X pins σ' H' s7/\tn i s7.heap/\(∀b∈fp,H' b=aD)/\W i m σ' H':=λ{lE H7} I7 n7=>by
   obtain⟨m',hm,w7⟩:=hN lE H7 n7;refine⟨m',hm,i+1,lE,H7,I7.eV,T.keep _ _ _ rT λb hb o e=>(I7.pin (b,o) (lP _ (lP _ (zN hb e)))).1,λb hb=>?_,w7⟩;obtain⟨o,e,d⟩:=T.obj _ _ rT b hb;exact(I7.pin (b,o) (lP _ (lP _ (zN hb e)))).2.1
  cases f with|next=>obtain⟨lE,H7,I7,n7⟩:=q7;exact again I7 n7|cont=>obtain⟨lE,H7,I7,n7⟩:=q7;exact again I7 n7|brk=>obtain⟨lE,H7,I7,q7⟩:=q7;exact⟨lE,H7,I7.eV,q7⟩|ret v=>obtain⟨x7,lE,H7,I7,r7,q7⟩:=q7;exact⟨x7,lE,H7,I7.eV,r7,q7⟩
end
noncomputable abbrev R2:=V->V->Hp->VK->Prop
noncomputable def dU(X:Cx)(f:af->af->Sem af)(r:R2):Prop:=
 ∀(pins:List (ai×Obj))(s:ah)(σ:St)(H:Hp)(x y:V)(v u:af)(Q:VK),Inv X pins σ H s->RelV x v->RelV y u->r x y H Q->
  wpAny (model X.prog X.w) X.A (f v u) (EP X pins σ Q) X.xe s
noncomputable def II(X:Cx)(f:af->Sem af)(r:V->Hp->VK->Prop):Prop:=
 ∀(pins:List (ai×Obj))(s:ah)(σ:St)(H:Hp)(x:V)(v:af)(Q:VK),Inv X pins σ H s->RelV x v->r x H Q->
  wpAny (model X.prog X.w) X.A (f v) (EP X pins σ Q) X.xe s
noncomputable def cA(X:Cx)(f:af)(r:List V->Hp->VK->Prop):Prop:=
 ∀(pins:List (ai×Obj))(s:ah)(σ:St)(H:Hp)(xs:List V)(us:List af)(Q:VK),Inv X pins σ H s->Vals xs us->r xs H Q->
  wpAny (model X.prog X.w) X.A (call f us) (EP X pins σ Q) X.xe s
noncomputable def IJ(X:Cx)(r:V->Hp->(Bool->Hp->Prop)->Prop):Prop:=
 ∀(pins:List (ai×Obj))(s:ah)(σ:St)(H:Hp)(x:V)(v:af)(Q:Bool->Hp->Prop),Inv X pins σ H s->RelV x v->r x H Q->
  wpAny (model X.prog X.w) X.A (truthy v) (TP X pins σ Q) X.xe s
noncomputable def FW(r:R2)(ta tb:TE):TE:=λσ H Q=>ta σ H λx H1=>tb σ H1 λy H2=>r x y H2 Q
noncomputable def Wx(r:V->Hp->VK->Prop)(ta:TE):TE:=λσ H Q=>ta σ H λx H1=>r x H1 Q
noncomputable def rI(C:Int->Int->Prop)(g:Int->Int->V):R2:=λx y H Q=>∃i j,x=.int i/\y=.int j/\C i j/\Q (g i j) H
noncomputable def nW(g:Int->Int->V):R2:=λx y H Q=>∃i j,x=.int i/\y=.int j/\Q (g i j) H
noncomputable def rU(g:Int->V):V->Hp->VK->Prop:=λx H Q=>∃i,x=.int i/\Q (g i) H
section
variable{X:Cx}{a b c:aq}{ta tb tc:TE}{pos:Pos}
theorem xA(ha:PE X a ta)(hb:PE X b tb){pins:List (ai×Obj)}{s:ah}{σ:St}{H:Hp}{R:V->V->Hp->Prop}(I:Inv X pins σ H s)
 (h:ta σ H λx H1=>tb σ H1 λy H2=>R x y H2) {Q:af->ah->Prop} {f:af->af->Sem af}
 (hf:∀v u s2 x y H2,Inv X pins σ H2 s2->RelV x v->RelV y u->R x y H2->wpAny (model X.prog X.w) X.A (f v u) Q X.xe s2) :
 wpAny (model X.prog X.w) X.A (eval a X.env) (λv s₁=>wpAny (model X.prog X.w) X.A (eval b X.env) (λu s₂=>wpAny (model X.prog X.w) X.A (f v u) Q X.xe s₂) X.xe s₁) X.xe s:=by
 refine bg (ha pins s σ H _ I h) λv s1 z9=>z9.el λx H1 I1 r1 q1=>?_;refine bg (hb pins s1 σ H1 _ I1 q1) λu s2 z9=>z9.el λy H2 I2 r2 q2=>?_;exact hf v u s2 x y H2 I2 r1 r2 q2
theorem pY{op:Operator}{r:R2}(ho:dU X (binaryOp op) r)(ha:PE X a ta)(hb:PE X b tb):PE X (.BinOp a op b pos) (FW r ta tb):=by intro pins s σ H Q I h;exact wpAny_BinOp (xA ha hb I h λv u s2 x y H2 I2 rx ry q=>ho pins s2 σ H2 x y v u Q I2 rx ry q)
theorem Bo{op:UnaryOp}{r:V->Hp->VK->Prop}(ho:II X (unaryOp op) r)(ha:PE X a ta):PE X (.UnaryOp op a pos) (Wx r ta):=by intro pins s σ H Q I h;exact UnaryOp_ (bg (ha pins s σ H _ I h) λv s1 z9=>z9.el λx H1 I1 r1 q1=>ho pins s1 σ H1 x v Q I1 r1 q1)
theorem iY{f:af->af->Sem af}{C:Int->Int->Prop}{g:Int->Int->Int}
 (rule:∀(i j:Int)(t u:Tok)(s:ah)(Q:af->ah->Prop)(E:af->ah->Prop),C i j->Q (.int (g i j) s.toks) {s with toks:=s.toks+1}->wpAny (model X.prog X.w) X.A (f (.int i t) (.int j u)) Q E s) :
 dU X f (rI C λi j=>.int (g i j)):=by
 intro pins s σ H x y v u Q I rx ry h;obtain⟨i,j,rfl,rfl,hc,q⟩:=h;obtain⟨t,rfl⟩:=rx;obtain⟨t',rfl⟩:=ry;exact rule i j t t' s _ _ hc ⟨.int (g i j),H,I.tok _,⟨_,rfl⟩,q⟩
theorem Bp{f:af->af->Sem af}{g:Int->Int->Int}
 (rule:∀(i j:Int)(t u:Tok)(s:ah)(Q:af->ah->Prop)(E:af->ah->Prop),Q (.int (g i j) s.toks) {s with toks:=s.toks+1}->wpAny (model X.prog X.w) X.A (f (.int i t) (.int j u)) Q E s) :
 dU X f (nW λi j=>.int (g i j)):=by
 intro pins s σ H x y v u Q I rx ry h;obtain⟨i,j,rfl,rfl,q⟩:=h;obtain⟨t,rfl⟩:=rx;obtain⟨t',rfl⟩:=ry;exact rule i j t t' s _ _ ⟨.int (g i j),H,I.tok _,⟨_,rfl⟩,q⟩
theorem sZ{f:af->af->Sem af}{g:Int->Int->Bool}
 (rule:∀(i j:Int)(t u:Tok)(s:ah)(Q:af->ah->Prop)(E:af->ah->Prop),Q (.bool (g i j)) s->wpAny (model X.prog X.w) X.A (f (.int i t) (.int j u)) Q E s) :
 dU X f (nW λi j=>.bl (g i j)):=by
 intro pins s σ H x y v u Q I rx ry h;obtain⟨i,j,rfl,rfl,q⟩:=h;obtain⟨t,rfl⟩:=rx;obtain⟨t',rfl⟩:=ry;exact rule i j t t' s _ _ ⟨.bl (g i j),H,I,rfl,q⟩
noncomputable def tu(i j:Int):Prop:=0<j/\j<1073741824
noncomputable def xB(i j:Int):Prop:=0<=j/\j<=1000000/\i.natAbs<2 ^ 64
noncomputable def nX(i j:Int):Prop:=(-(2 ^ 64)<i/\i<2 ^ 64)\/(-(2 ^ 64)<j/\j<2 ^ 64)
theorem nX.ok{i j:Int}(h:nX i j):IntMulOk i j:=by rcases h with⟨h1,h2⟩|⟨h1,h2⟩;exact .of_left (intBits_le_64 h1 h2);exact .of_right (intBits_le_64 h1 h2)
theorem Wy:dU X (binaryOp .Add) (nW λi j=>.int (i+j)):=Bp λ_ _ _ _ _ _ _ q=>add_int q
theorem Wz:dU X (binaryOp .Sub) (nW λi j=>.int (i-j)):=Bp λ_ _ _ _ _ _ _ q=>sub_int q
theorem WA:dU X (binaryOp .Mult) (rI nX λi j=>.int (i*j)):=iY λ_ _ _ _ _ _ _ hc q=>mul_int q hc.ok
theorem WB:dU X (binaryOp .FloorDiv) (rI tu λi j=>.int (i/j)):=iY λi j _ _ _ _ _ hc q=>by
 have h1:(0:Int)<j:=hc.1;have h2:j<1073741824:=hc.2;exact floordiv_int (by lia) (by rw[Int.fdiv_eq_ediv_of_nonneg i (by lia)];exact q) (.inl (PyProof.noPylong_small (by lia)))
theorem WC:dU X (binaryOp .Mod) (rI (λ_ j=>0<j) λi j=>.int (i % j)):=iY λi j _ _ _ _ _ hc q=>by
 have h1:(0:Int)<j:=hc;exact mod_int' (by lia) (by rw[Int.fmod_eq_emod_of_nonneg i (by lia)];exact q)
theorem WD:dU X (binaryOp .Pow) (rI xB λi j=>.int (i ^ j.toNat)):=iY λ_ _ _ _ _ _ _ hc q=>pow_int_small hc.1 hc.2.1 hc.2.2 q
theorem WE:dU X (inplaceOp .Mult) (rI nX λi j=>.int (i*j)):=iY λ_ _ _ _ _ _ _ hc q=>imul_int q hc.ok
theorem WG:dU X (inplaceOp .FloorDiv) (rI tu λi j=>.int (i/j)):=iY λi j _ _ _ _ _ hc q=>by
 have h1:(0:Int)<j:=hc.1;have h2:j<1073741824:=hc.2;exact ifloordiv_int (by lia) (by rw[Int.fdiv_eq_ediv_of_nonneg i (by lia)];exact q) (.inl (PyProof.noPylong_small (by lia)))
theorem WH{f:af->Sem af}{g:Int->Int}
 (rule:∀(i:Int)(t:Tok)(s:ah)(Q:af->ah->Prop)(E:af->ah->Prop),Q (.int (g i) s.toks) {s with toks:=s.toks+1}->wpAny (model X.prog X.w) X.A (f (.int i t)) Q E s) :
 II X f (rU λi=>.int (g i)):=by
 intro pins s σ H x v Q I rx h;obtain⟨i,rfl,q⟩:=h;obtain⟨t,rfl⟩:=rx;exact rule i t s _ _ ⟨.int (g i),H,I.tok _,⟨_,rfl⟩,q⟩
theorem WI:II X (unaryOp .USub) (rU λi=>.int (-i)):=WH λ_ _ _ _ _ q=>neg_int q
end
noncomputable def IK:V->V->Bool|.aL,.aL=>true|.aL,.int _=>true|.int _,.aL=>true|.aL,.bl _=>true|.bl _,.aL=>true|.aL,.str _=>true|.str _,.aL=>true|.int _,.int _=>true|.bl _,.bl _=>true|.str _,.str _=>true|.pV _,.pV _=>true|.int _,.str _=>true|.str _,.int _=>true|.bl _,.str _=>true|.str _,.bl _=>true|_,_=>false
noncomputable def WJ:R2:=λx y H Q=>IK x y=true/\Q (.bl (!decide (x=y))) H
theorem WK{i j:Int}:decide (V.int i=V.int j)=(i==j):=by rw[zg];simp
theorem WL{i j:Bool}:decide (V.bl i=V.bl j)=(i==j):=by rw[zg];simp
theorem WM{i j:Str}:decide (V.str i=V.str j)=(i==j):=by rw[zg];simp
theorem WN{i j:Array UInt8}:decide (V.pV i=V.pV j)=(i.toList==j.toList):=by rw[zg];cases i;cases j;simp
section
variable{X:Cx}{a b c:aq}{ta tb tc:TE}{pos:Pos}
theorem jU{pins:List (ai×Obj)}{σ:St}{H:Hp}{s:ah}{Q:VK}{k k':Bool}(I:Inv X pins σ H s)(q:Q (.bl k) H)(e:k=k'):EP X pins σ Q (.bool k') s:=by subst e;exact⟨.bl k,H,I,rfl,q⟩
theorem Bq:dU X (compareOp .NotEq) WJ:=by
 intro pins s σ H x y v u Q I rx ry h;obtain⟨hs,q⟩:=h;cases x with
 |aL=>
  cases rx;cases y with|aL=>cases ry;exact PySem.EqNone.ne_none_none (jU I q (by simp))|bl j=>cases ry;exact PySem.EqNone.ne_none_bool (jU I q (by simp))|int j=>obtain⟨t',rfl⟩:=ry;exact PySem.EqNone.ne_none_int (jU I q (by simp))|str j=>obtain⟨t',rfl⟩:=ry;exact PySem.EqNone.ne_none_str (jU I q (by simp))|_=>exact absurd (show false=true from hs) lD
 |bl i=>
  cases rx;cases y with|aL=>cases ry;exact PySem.EqNone.ne_bool_none (jU I q (by simp))|bl j=>cases ry;exact ne_bool (jU I q (jQ not WL))|str j=>obtain⟨t',rfl⟩:=ry;exact PySem.EqMixed.ne_bool_str (jU I q (by simp))|_=>exact absurd (show false=true from hs) lD
 |int i=>
  obtain⟨t,rfl⟩:=rx;cases y with|aL=>cases ry;exact PySem.EqNone.ne_int_none (jU I q (by simp))|int j=>obtain⟨t',rfl⟩:=ry;exact ne_int (jU I q (jQ not WK))|str j=>obtain⟨t',rfl⟩:=ry;exact PySem.EqMixed.ne_int_str (jU I q (by simp))|_=>exact absurd (show false=true from hs) lD
 |str i=>
  obtain⟨t,rfl⟩:=rx;cases y with|aL=>cases ry;exact PySem.EqNone.ne_str_none (jU I q (by simp))|bl j=>cases ry;exact PySem.EqMixed.ne_str_bool (jU I q (by simp))|int j=>obtain⟨t',rfl⟩:=ry;exact PySem.EqMixed.ne_str_int (jU I q (by simp))|str j=>obtain⟨t',rfl⟩:=ry;exact ne_str (jU I q (jQ not WM))|_=>exact absurd (show false=true from hs) lD
 |pV i=>
  obtain⟨t,rfl⟩:=rx;cases y with|pV j=>obtain⟨t',rfl⟩:=ry;exact PySem.W.ne_bytes (jU I q (jQ not WN))|_=>exact absurd (show false=true from hs) lD
 |_=>cases y<;>exact absurd (show false=true from hs) lD
theorem Br:dU X (compareOp .Lt) (nW λi j=>.bl (decide (i<j))):=sZ λ_ _ _ _ _ _ _ q=>lt_int q
theorem Bs:dU X (compareOp .LtE) (nW λi j=>.bl (decide (i<=j))):=sZ λ_ _ _ _ _ _ _ q=>le_int q
theorem Bt:dU X (compareOp .Gt) (nW λi j=>.bl (decide (j<i))):=sZ λ_ _ _ _ _ _ _ q=>gt_int q
theorem Bu:dU X (compareOp .GtE) (nW λi j=>.bl (decide (j<=i))):=sZ λ_ _ _ _ _ _ _ q=>ge_int q
theorem WO:dU X (compareOp .Is) (λx y H Q=>y=.aL/\Q (.bl (decide (x=.aL))) H):=by
 intro pins s σ H x y v u Q I rx ry h;obtain⟨rfl,q⟩:=h;cases ry;refine is_none_gen (jU I q ?_);cases x<;>first
  |(cases rx;rfl)
  |(obtain⟨t,rfl⟩:=rx;rfl)
theorem WQ:dU X (compareOp .IsNot) (λx y H Q=>y=.aL/\Q (.bl (!decide (x=.aL))) H):=by
 intro pins s σ H x y v u Q I rx ry h;obtain⟨rfl,q⟩:=h;cases ry;refine isnot_none_gen (jU I q ?_);cases x<;>first
  |(cases rx;rfl)
  |(obtain⟨t,rfl⟩:=rx;rfl)
theorem dU.or{f:af->af->Sem af}{r r':R2}(h:dU X f r)(h':dU X f r'):dU X f (λx y H Q=>r x y H Q\/r' x y H Q):=by
 intro pins s σ H x y v u Q I rx ry q;rcases q with q|q
 exact h pins s σ H x y v u Q I rx ry q;exact h' pins s σ H x y v u Q I rx ry q
theorem WR{op:CmpOp}{r:R2}(ho:dU X (compareOp op) r)(ha:PE X a ta)(hb:PE X b tb)(hm:behindInMarks op b=false):PE X (.Compare a [op] [b] pos) (FW r ta tb):=by intro pins s σ H Q I h;exact wpAny_Compare1 (xA ha hb I h λv u s2 x y H2 I2 rx ry q=>ho pins s2 σ H2 x y v u Q I2 rx ry q) hm
noncomputable def uY(t:TE):TT:=λσ H Q=>t σ H λx H'=>∃k,x=.bl k/\Q k H'
theorem Qu{op:CmpOp}{r:R2}(ho:dU X (compareOp op) r)(ha:PE X a ta)(hb:PE X b tb)(hm:behindInMarks op b=false):PT X (.Compare a [op] [b] pos) (uY (FW r ta tb)):=by
 intro pins s σ H Q I h;refine wpAny_isTrue_Compare1 (bg (ha pins s σ H _ I h) λv s1 z9=>z9.el λx H1 I1 r1 q1=>bg (hb pins s1 σ H1 _ I1 q1) λu s2 z9=>z9.el λy H2 I2 r2 q2=>
  bg (ho pins s2 σ H2 x y v u _ I2 r1 r2 q2) λc s3 z9=>z9.el λz H3 I3 r3 ⟨k,e,q3⟩=>?_) hm
 subst e;cases r3;exact rK ⟨H3,I3,q3⟩
noncomputable def IL(r r':R2)(ta tb tc:TE):TE:=λσ H Q=>ta σ H λx H1=>tb σ H1 λy H2=>r x y H2 λz H3=>∃k,z=.bl k/\
 (if k=true then tc σ H3 λw' H4=>r' y w' H4 Q else Q (.bl false) H3)
theorem WS{op op':CmpOp}{r r':R2}(ho:dU X (compareOp op) r)(ho':dU X (compareOp op') r')(ha:PE X a ta)(hb:PE X b tb)(hc:PE X c tc)
 (hm:lastMarks [op,op'] [b,c]=false:=by with_unfolding_all rfl):PE X (.Compare a [op,op'] [b,c] pos) (IL r r' ta tb tc):=by
 intro pins s σ H Q I h;refine Compare_chain (bg (ha pins s σ H _ I h) λv s1 z9=>z9.el λx H1 I1 r1 q1=>chain_link (bg (hb pins s1 σ H1 _ I1 q1) λu s2 z9=>z9.el λy H2 I2 r2 q2=>
  bg (ho pins s2 σ H2 x y v u _ I2 r1 r2 q2) λd s3 z9=>z9.el λz H3 I3 r3 ⟨k,e,q3⟩=>?_)) hm
 subst e;cases r3;refine rK ?_;cases k with|false=>exact ite_ff ⟨.bl false,H3,I3,rfl,q3⟩|true=>exact ite_tt (chain_last (bg (hc pins s3 σ H3 _ I3 q3) λw' s4 z9=>z9.el λz' H4 I4 r4 q4=>ho' pins s4 σ H4 y z' u w' Q I4 r2 r4 q4))
theorem WT{op op':CmpOp}{r r':R2}(ho:dU X (compareOp op) r)(ho':dU X (compareOp op') r')(ha:PE X a ta)(hb:PE X b tb)(hc:PE X c tc)
 (hm:lastMarks [op,op'] [b,c]=false:=by with_unfolding_all rfl):PT X (.Compare a [op,op'] [b,c] pos) (uY (IL r r' ta tb tc)):=by
 intro pins s σ H Q I h;refine isTrue_chain (bg (ha pins s σ H _ I h) λv s1 z9=>z9.el λx H1 I1 r1 q1=>test_link (bg (hb pins s1 σ H1 _ I1 q1) λu s2 z9=>z9.el λy H2 I2 r2 q2=>
  bg (ho pins s2 σ H2 x y v u _ I2 r1 r2 q2) λd s3 z9=>z9.el λz H3 I3 r3 ⟨k,e,q3⟩=>?_)) hm
 subst e;cases r3;refine rK ?_;cases k with
 |false=>
  obtain⟨k',e',q'⟩:=q3;cases e';exact ite_ff ⟨H3,I3,q'⟩
 |true=>
  refine ite_tt (test_last (bg (hc pins s3 σ H3 _ I3 q3) λw' s4 z9=>z9.el λz' H4 I4 r4 q4=>bg (ho' pins s4 σ H4 y z' u w' _ I4 r2 r4 q4) λd' s5 z9=>z9.el λz2 H5 I5 r5 cj=>?_));obtain⟨k2,e2,q5⟩:=cj;subst e2;cases r5;exact rK ⟨H5,I5,q5⟩
noncomputable def xC(K:aI)(x:V)(H:Hp)(k:Bool):Prop:=
 match x with|.aL=>k=false|.bl b=>k=b|.int i=>k=(i != 0)|.str y=>y.length<=sizeLine/\k=((y.length:Int) != 0)|.pV y=>y.size<=sizeLine/\k=((y.size:Int) != 0)|.ref p=>(∃xs,cJ K H p xs/\k=!xs.isEmpty)\/(∃xs,dh K H p xs/\k=!xs.isEmpty)\/∃kvs,H p=aC (.dK kvs)/\k=!kvs.isEmpty|_=>False
theorem WU{κ:Type}{kvs:List (κ×V)}{vs:List (κ×af)}(r:KV kvs vs):(!vs.isEmpty)=!kvs.isEmpty:=by cases r<;>rfl
theorem Qv{xs:List V}{its:List af}(r:Vals xs its):(!its.toArray.isEmpty)=!xs.isEmpty:=by cases r<;>simp
theorem Bv:(sizeLine:Nat)<2 ^ 63:=by rw[AH];decide
theorem WV:IJ X (λx H Q=>∃k,xC X.K x H k/\Q k H):=by
 intro pins s σ H x v Q I rx h;obtain⟨k,e,q⟩:=h;have hl:=Bv;have hs:sizeLine=16777216:=AH;cases x with
 |aL=>
  cases rx;have e':k=false:=e;subst e';exact truthy_none ⟨H,I,q⟩
 |bl b=>
  cases rx;have e':k=b:=e;subst e';exact rK ⟨H,I,q⟩
 |int i=>
  obtain⟨t,rfl⟩:=rx;have e':k=(i != 0):=e;subst e';exact PySem.P.truthy_int ⟨H,I,q⟩
 |str y=>
  obtain⟨t,rfl⟩:=rx;obtain⟨hy,e'⟩:y.length<=sizeLine/\k=((y.length:Int) != 0):=e;subst e';exact PySem.P.truthy_str (by lia) ⟨H,I.tok _,q⟩
 |pV y=>
  obtain⟨t,rfl⟩:=rx;obtain⟨hy,e'⟩:y.size<=sizeLine/\k=((y.size:Int) != 0):=e;subst e';exact PySem.W.truthy_bytes (by lia) ⟨H,I.tok _,q⟩
 |ref p=>
  cases rx;have e':(∃xs,cJ X.K H p xs/\k=!xs.isEmpty)\/(∃xs,dh X.K H p xs/\k=!xs.isEmpty)\/∃kvs,H p=aC (.dK kvs)/\k=!kvs.isEmpty:=e;rcases e' with⟨xs,hx,e'⟩|⟨xs,hx,e'⟩|⟨kvs,hx,e'⟩
  subst e';obtain⟨its,r,pl,hz⟩:=I.list hx;have hlen:=r.length;exact wpAny_truthy_list pl.isList (by simp only[eG];lia) ⟨H,I.tok _,by rw[Qv r];exact q⟩;subst e';obtain⟨its,r,pl,hz⟩:=I.tuple hx;have hlen:=r.length;exact truthy_tuple pl (by simp only[eG];lia) ⟨H,I.tok _,by rw[Qv r];exact q⟩;subst e';obtain⟨hz,hS,vs,r,m⟩:kvs.length<=sizeLine/\(p==sysModules)=false/\∃vs,KV kvs vs/\s.heap.DictOf (i9 X.prog X.w) p vs:=I.hok p _ hx;have hlen:kvs.length=vs.length:=zE r;exact wpAny_truthy_dict hS m (by lia) ⟨H,I.tok _,by rw[WU r];exact q⟩
 |_=>exact(show False from e).elim
theorem WW(ha:PE X a ta)(he:∀whole,isTrue a X.env whole=(do let v <-whole;standAt a.pos;holding [v] (truthy v))) :
 PT X a (λσ H Q=>ta σ H λx H'=>∃k,xC X.K x H' k/\Q k H'):=by
 intro pins s σ H Q I h;exact isTrue_plain (bg (ha pins s σ H _ I h) λv s1 z9=>z9.el λx H1 I1 r1 q1=>WV pins s1 σ H1 x v Q I1 r1 q1) (he _)
theorem vals1{x:V}{us:List af}(r:Vals [x] us):∃u,us=[u]/\RelV x u:=by
 cases r with|cons r1 r2=>cases r2;exact⟨_,rfl,r1⟩
theorem vals2{x y:V}{us:List af}(r:Vals [x,y] us):∃u w',us=[u,w']/\RelV x u/\RelV y w':=by
 cases r with
 |cons r1 r2=>
  cases r2 with|cons r3 r4=>cases r4;exact⟨_,_,rfl,r1,r3⟩
theorem WX:cA X (.builtin "abs") (λxs H Q=>∃i,xs=[.int i]/\Q (.int (if i<0 then -i else i)) H):=by intro pins s σ H xs us Q I r h;obtain⟨i,rfl,q⟩:=h;obtain⟨u,rfl,t,rfl⟩:=vals1 r;exact call_abs_int λu tk=>⟨.int (if i<0 then -i else i),H,I.tok _,⟨_,rfl⟩,q⟩
theorem WY(hc:X.calm):cA X (.builtin "max") (λxs H Q=>∃i j,xs=[.int i,.int j]/\Q (.int (if j>i then j else i)) H):=by
 intro pins s σ H xs us Q I r h;obtain⟨i,j,rfl,q⟩:=h;obtain⟨u,w',rfl,⟨t,rfl⟩,⟨t',rfl⟩⟩:=vals2 r;refine max_two_ints (I.ok.hd hc) λh' tk k=>⟨_,H,I.kept k,?_,q⟩
 by_cases hj:j>i;rw[if_pos hj,if_pos hj];exact⟨_,rfl⟩;rw[if_neg hj,if_neg hj];exact⟨_,rfl⟩
theorem WZ:cA X (.type "int") (λxs H Q=>(∃i,xs=[.int i]/\Q (.int i) H)\/∃k,xs=[.bl k]/\Q (.int (if k then 1 else 0)) H):=by
 intro pins s σ H xs us Q I r h;rcases h with⟨i,rfl,q⟩|⟨k,rfl,q⟩
 obtain⟨u,rfl,t,rfl⟩:=vals1 r;exact call_int_int ⟨.int i,H,I,⟨_,rfl⟩,q⟩;obtain⟨u,rfl,r1⟩:=vals1 r;cases r1;exact call_int_bool ⟨.int (if k then 1 else 0),H,I.tok _,⟨_,rfl⟩,q⟩
end
structure xD(h:aA)(x dx C:ai)(mA:Str->Option af):Prop where
 obj:h.get? x=aC (PySem.W.instObj C dx)
 ns:h.Ns1 dx mA
 ne:dx≠x
theorem Qw{h:aA}{dx:ai}{mA:Str->Option af}(n:h.Ns1 dx mA):∃od,h.get? dx=aC od/\∀name,PySem.W.lookIn name od=aC (mA name):=by
 obtain⟨o,es,ep,ho,hd,hk,_,hm⟩:=n;refine⟨o,ho,λname=>?_⟩;have e:=hm name;unfold nsFind findBy at e;rw[<-Array.find?_toList]at e;unfold PySem.W.lookIn;rw[hd];dsimp only;split;rename_i y q;rw[q]at e;exact jQ aC e;rename_i q;rw[q]at e;have a:es.toList.any (·.refKey)=false:=by rw[List.any_eq_false];intro y hy;obtain⟨z,t,hkey⟩:=hk y (Array.mem_toList_iff.mp hy);simp[DictEntry.refKey,hkey]
 have a':¬es.toList.any (·.refKey)=true:=by rw[a];exact lD
 rw[if_neg a'];exact jQ aC e
theorem xD.look{h:aA}{x dx C:ai}{mA:Str->Option af}(I:xD h x dx C mA):∃od,PySem.W.InstAt h x (PySem.W.instObj C dx) C (aC od)/\∀name,PySem.W.lookIn name od=aC (mA name):=
 let⟨od,ho,hl⟩:=Qw I.ns
 ⟨od,⟨I.obj,rfl,rfl,ho⟩,hl⟩
theorem fT.some_of{v:V}{o:Option af}(r:fT (aC v) o):∃u,o=aC u/\RelV v u:=by
 cases o with|none=>exact(show False from r).elim|some u=>exact⟨u,rfl,r⟩
section
variable{P:aj}{w:ak}{H H':Hp}{h h':aA}{a C dx:ai}{fs fs':List (Str×V)}
theorem W0(hok:eE P w H h)(e:H a=aC (.ins C dx fs)):∃mA,xD h a dx C mA/\(∀f,fT (fs.lookup f) (mA f))/\PySem.Within mA (fs.map (·.1))/\fs.length<=1000/\H dx=aC (.own a):=by
 obtain⟨d,z,ne,ob,mA,n,r,q⟩:=(show br P w H h a (.ins C dx fs)from hok a _ e)
 exact⟨mA,⟨ob,n,ne⟩,r,q,z,d⟩
end
structure IM(K:aI)(C:ai):Prop where
 pg:PySem.W.plainGet K C Str.empty=true
 hd:PySem.W.hasDictIn K C=true
 po:PySem.W.plainOver K C=true
 sa:PySem.W.findIn K (.ref C) "__setattr__" = aC (aC (.builtin "object.__setattr__"))
theorem IM.get{K:aI}{C:ai}(c:IM K C)(f:Str):PySem.W.plainGet K C f=true:=c.pg
section
variable{X:Cx}{pins:List (ai×Obj)}{σ:St}{H:Hp}{s:ah}{A:ao}{E:af->ah->Prop}{Q:af->ah->Prop}{c:af}{b:Bool}
inductive gw(K:aI)(H:Hp):V->af->Prop where
 |aL:gw K H .aL (.type "NoneType")
 |bl (x:Bool):gw K H (.bl x) (.type "bool")
 |int (i:Int):gw K H (.int i) (.type "int")
 |str (x:Str):gw K H (.str x) (.type "str")
 |zF (x:UInt64):gw K H (.zF x) (.type "float")
 |lst {a:ai} {xs:List V} (e:H a=aC (.lst xs)):gw K H (.ref a) (.type "list")
 |bS {a:ai} {o:Obj} {xs:List V} (e:H a=aC (.bS o (.lst xs))):gw K H (.ref a) (.type "list")
 |tup {a:ai} {xs:List V} (e:H a=aC (.tup xs)):gw K H (.ref a) (.type "tuple")
 |dK {a:ai} {kvs:List (Key×V)} (e:H a=aC (.dK kvs)):gw K H (.ref a) (.type "dict")
 |dT {a:ai} {kvs:List (List Key×V)} (e:H a=aC (.dT kvs)):gw K H (.ref a) (.type "dict")
 |ins {a C dx:ai} {fs:List (Str×V)} (e:H a=aC (.ins C dx fs)) (cl:IM K C) (ha:PySem.W.findIn K (.ref C) "__class__" = aC (aC (.builtin "object.__class__")))
   (hn:PySem.W.specialIn K (.builtin "object.__class__") "__get__" = aC (aC (.builtin "getset_descriptor.__get__"))) (htk:PySem.W.takesIn K (.builtin "object.__class__")=aC true)
   (hm:PySem.W.mroIn K C (.type "object")=aC true):gw K H (.ref a) (.ref C)
theorem W2{x:V}{u t:af}(I:Inv X pins σ H s)(rx:RelV x u)(ty:gw X.K H x t)(e:PySem.W.kitOne X.K t c=aC b)(h:∀tk,Q (.bool b) {s with toks:=tk}) :
 wpAny (model X.prog X.w) A (call (.builtin "isinstance") [u,c]) Q E s:=by
 cases ty with
 |aL=>cases(show u=Value.none from rx);exact mR PySem.W.kitx_none I.gT True.intro e (λz=>nomatch z) h
 |bl y=>cases(show u=Value.bool y from rx);exact mR PySem.W.kitx_bool I.gT True.intro e (λz=>nomatch z) h
 |int i=>obtain⟨t,q⟩:=(show ∃t,u=Value.int i t from rx);cases q;exact mR PySem.W.kitx_int I.gT True.intro e (λz=>nomatch z) h
 |str y=>obtain⟨t,q⟩:=(show ∃t,u=Value.str y t from rx);cases q;exact mR PySem.W.kitx_str I.gT True.intro e (λz=>nomatch z) h
 |zF y=>obtain⟨t,q⟩:=(show ∃t,u=Value.float y t from rx);cases q;exact mR PySem.W.kitx_float I.gT True.intro e (λz=>nomatch z) h
 | @lst a xs ea=>
  cases(show u=Value.ref a from rx);obtain⟨_,_,n,_,h1⟩:=(show br X.prog X.w H s.heap a (.lst xs)from I.hok a _ ea)
  exact mR PySem.W.kitx_list I.gT ⟨_,h1,rfl⟩ e (λz=>nomatch z) h
 | @bS a ob xs ea=>
  cases(show u=Value.ref a from rx);obtain⟨_,_,_,n,_,h1⟩:=(show br X.prog X.w H s.heap a (.bS ob (.lst xs))from I.hok a _ ea)
  exact mR PySem.W.kitx_list I.gT ⟨_,h1,rfl⟩ e (λz=>nomatch z) h
 | @tup a xs ea=>
  cases(show u=Value.ref a from rx);obtain⟨_,_,_,p⟩:=(show br X.prog X.w H s.heap a (.tup xs)from I.hok a _ ea)
  obtain⟨o,h1,h2,_⟩:=p;exact mR PySem.W.kitx_tuple I.gT ⟨o,h1,h2⟩ e (λz=>nomatch z) h
 | @dK a kvs ea=>
  cases(show u=Value.ref a from rx);obtain⟨_,_,vs,_,p⟩:=(show br X.prog X.w H s.heap a (.dK kvs)from I.hok a _ ea)
  obtain⟨o,es,ep,h1,h2,_⟩:=p;exact mR PySem.W.kitx_dict I.gT ⟨o,h1,h2.1⟩ e (λz=>nomatch z) h
 | @dT a kvs ea=>
  cases(show u=Value.ref a from rx);obtain⟨_,_,xs,_,o,es,ep,h1,h2,_⟩:=(show br X.prog X.w H s.heap a (.dT kvs)from I.hok a _ ea)
  exact mR PySem.W.kitx_dict I.gT ⟨o,h1,h2.1⟩ e (λz=>nomatch z) h
 | @ins a C dx fs ea cl ha hn htk hm=>
  cases(show u=Value.ref a from rx);obtain⟨mA,O,_⟩:=W0 I.hok ea;obtain⟨od,J,_⟩:=O.look;exact mR (PySem.W.kitx_own (cl.get _) cl.hd ha hn htk hm) I.gT J e (λz=>nomatch z) h
end
structure cu(k:Nat)(A:ao):Prop where
 hd:A.handled=aD
 dp:A.depth+3*k+5<recursionLimit
 un:A.units+16*k+200<cLine
theorem cu.deeper{k:Nat}{A:ao}(r:cu (k+1) A)(env:Env):cu k (A.deeper env):=
 ⟨r.hd,by have:=r.dp;show A.depth+1+3*k+5<_;lia,by have:=r.un;show A.units+3+16*k+200<_;lia⟩
theorem cu.depth{k:Nat}{A:ao}(r:cu k A):A.depth<recursionLimit:=by have:=r.dp;lia
theorem cu.units{k:Nat}{A:ao}(r:cu k A):A.units+64<cLine:=by have:=r.un;lia
noncomputable def Bw:TA:=λ_ H Q=>Q [] H
noncomputable def Bx(ta:TE)(tr:TA):TA:=λσ H Q=>ta σ H λx H1=>tr σ H1 λxs H2=>Q (x::xs) H2
section
variable{X:Cx}{e:aq}{es:List aq}{te:TE}{t:TA}{pos:Pos}
theorem pZ:PA X [] Bw:=λ_ _ _ _ H Q I h=>Calls.spliced_nil ⟨[],H,I,.nil,h⟩
theorem nY(ha:PE X e te)(hr:PA X es t)(hs:autoParam (starEach (e::es) X.env=(false,eval e X.env)::starEach es X.env) L2.aR1._auto_1):PA X (e::es) (Bx te t):=by intro pos pins s σ H Q I h;rw[hs];show wpAny _ _ (spliced ((false,eval e X.env)::backTo pos (starEach es X.env))) _ _ s;refine Calls.spliced_cons (bg (ha pins s σ H _ I h) λu s1 z9=>z9.el λx H1 I1 r1 q1=>?_);exact bg (hr pos pins s1 σ H1 _ I1 q1) λus s2 z9=>z9.el λxs H2 I2 r2 q2=>⟨x::xs,H2,I2,.cons r1 r2,q2⟩
noncomputable def IP(t:TA):TE:=λσ H Q=>t σ H λxs H1=>xs.length<=sizeLine/\∀p,H1 p=aD->Q (.ref p) (upd H1 p (.tup xs))
noncomputable def IQ(t:TA):TE:=λσ H Q=>t σ H λxs H1=>xs.length<=sizeLine/\∀p,H1 p=aD->Q (.ref p) (upd H1 p (.lst xs))
theorem W3{x1}(h:PA X es t):PE X (.Tuple es x1 pos) (IP t):=by intro pins s σ H Q I hq;refine wpAny_Tuple_spliced (bg (h pos pins s σ H _ I hq) λus s1 z9=>z9.el λxs H1 I1 r ⟨z,q⟩=>⟨by rw[<-r.length];exact z,?_⟩);have hf:H1 s1.heap.objs.size=aD:=I1.hok.fresh (aZ _);refine⟨.ref s1.heap.objs.size,upd H1 s1.heap.objs.size (.tup xs),I1.laid (t':=s1.toks) (λb u e=>cH _ e) (aZ _) ?_,rfl,q _ hf⟩;exact⟨z,us,r,lV.new _ _⟩
theorem IS(h:PA X es t):PE X (.List es pos) (IQ t):=by intro pins s σ H Q I hq;refine wpAny_List_spliced (bg (h pos pins s σ H _ I hq) λus s1 z9=>z9.el λxs H1 I1 r ⟨z,q⟩=>⟨by rw[<-r.length];exact z,?_⟩);have hf:H1 s1.heap.objs.size=aD:=I1.hok.fresh (aZ _);refine⟨.ref s1.heap.objs.size,upd H1 s1.heap.objs.size (.lst xs),I1.laid (t':=s1.toks) (λb u e=>cH _ e) (aZ _) ?_,rfl,q _ hf⟩;exact⟨z,us,0,r,i8 _ rfl⟩
end
noncomputable abbrev Sp:=List V->Hp->VK->XK->Prop
noncomputable abbrev nZ:=List Env->Hp->ah->XK->af->ah->Prop
structure qc(P:aj)(w:ak)(K:aI)(mg:Str->Option af)(base:aA)(A:ao)(outer:List Env)(s:ah)(H:Hp):Prop where
 frames:A.frames=aC outer
 mod:Mod K mg base
 bs:∀b o,base.get? b=aC o->s.heap.get? b=aC o/\H b=aD
 rS:base.objs.size<=s.heap.objs.size
 gv:s.heap.FunFrames base outer
 sU:∀b∈frs outer,H b=aD
 hok:eE P w H s.heap
 bare:AllBare s.gens
noncomputable def CE(outer:List Env)(P:aj)(w:ak)(H:Hp)(s:ah)(Q:VK)(u:af)(s':ah):Prop:=
 ∃v H',s'.os=s.os/\AllBare s'.gens/\Un (frs outer) [] H H' s.heap s'.heap/\eE P w H' s'.heap/\RelV v u/\Q v H'
noncomputable def CR(CX:nZ)(outer:List Env)(P:aj)(w:ak)(H:Hp)(s:ah)(Q:VK)(E:XK)(r:Result)(s':ah):Prop:=
 match r with|.ok (.ret u)=>CE outer P w H s Q u s'|.ok _=>False|.error e=>CX outer H s E e s'
structure dZ(P:aj)(w:ak)(K:aI)(mg:Str->Option af)(base:aA)(CX:nZ)(k:Nat)(f:ai)(fd:av)(ps:List Str)(sp:Sp):Prop where
 len:∀vs H Q E,sp vs H Q E->vs.length=ps.length
 run:∀(A:ao)(outer:List Env)(s:ah)(H:Hp)(args:Args)(us:List af)(vs:List V)(Q:VK)(E:XK),cu k A->qc P w K mg base A outer s H->BindsTo s fd args (ps.zip us)->Vals vs us->sp vs H Q E->
  codeAny (model P w) A (.call (.ref f) args) (CR CX outer P w H s Q E) s
section
variable{X:Cx}{pins:List (ai×Obj)}{σ:St}{H:Hp}{s s':ah}
theorem Inv.xE(I:Inv X pins σ H s):qc X.prog X.w X.K X.mg X.base X.A X.stack s H:=
 ⟨I.ok.frames,I.ok.mod,I.bs,eS I.ok.rS I.sz,I.stack,I.iX,I.hok,I.bare⟩
theorem Inv.after{Q:VK}{u:af}(I:Inv X pins σ H s)(h:CE X.stack X.prog X.w H s Q u s'):EP X pins σ Q u s':=by obtain⟨v,H',os,bare,un,hok,r,q⟩:=h;obtain⟨hh,g,d,t,os'⟩:=s';obtain rfl:os'=s.os:=os;exact⟨v,H',I.call (h':=hh) (g':=g) (d':=d) (t':=t) (ch:=[]) un hok bare (λb z=>absurd z (by simp)),r,q⟩
end
noncomputable def uZ(sp:Sp)(qd:List V)(E:XK)(t:TA):TE:=λσ H Q=>t σ H λvs H1=>sp (vs++qd) H1 Q E
noncomputable def Binds(K:aI)(fd:av)(ps:List Str)(ds:List af):Prop:=
 ∀(s:ah)(us:List af),K.In s.heap->(us++ds).length=ps.length->BindsTo s fd ⟨us,[]⟩ (ps.zip (us++ds))
theorem Binds.all{K:aI}{fd:av}{ps:List Str}(h:∀us:List af,us.length=ps.length->bindArgs fd ⟨us,[]⟩=pure (ps.zip us)):Binds K fd ps []:=λs us _ hl=>by
 rw[nS]at hl ⊢;exact .of_eq (h us hl)
noncomputable def FY(CX:nZ)(X:Cx)(E:XK):Prop:=∀(pins:List (ai×Obj)) (σ:St) (H:Hp) (s:ah) (e:af) (s':ah),Inv X pins σ H s->CX X.stack H s E e s'->X.xe e s'
section
variable{X:Cx}{CX:nZ}{k:Nat}{f C:ai}{fd:av}{ps:List Str}{sp:Sp}{qd:List V}{ds:List af}{E:XK}{x m:Str}{p pos apos:Pos}{e o:aq}{es:List aq}{ta:TE}{t:TA}
theorem Qx{pins:List (ai×Obj)}{σ:St}{H:Hp}{s:ah}{Q:VK}{us:List af}{vs:List V}(F:dZ X.prog X.w X.K X.mg X.base CX k f fd ps sp)(hr:cu k X.A)(hb:Binds X.K fd ps ds)(hd:Vals qd ds)(hx:FY CX X E)
 (I:Inv X pins σ H s) (r:Vals vs us) (h:sp (vs++qd) H Q E):wpAny (model X.prog X.w) X.A (call (.ref f) us) (EP X pins σ Q) X.xe s:=by
 have r2:Vals (vs++qd) (us++ds):=r.append hd;have hl:(us++ds).length=ps.length:=by rw[<-r2.length];exact F.len _ _ _ _ h
 refine wM (AG (F.run X.A X.stack s H ⟨us,[]⟩ (us++ds) (vs++qd) Q E hr I.xE (hb s us I.gT hl) r2 h) λr s' hq=>?_);cases r with
 |error e=>exact hx pins σ H s e s' I hq
 |ok fl=>
  cases fl with|ret u=>exact I.after hq|next=>exact False.elim hq|brk=>exact False.elim hq|cont=>exact False.elim hq
theorem Qy(F:dZ X.prog X.w X.K X.mg X.base CX k f fd ps sp)(hr:cu k X.A)(hg:Gl X x)(hm:X.mg x=aC (.ref f))(hk:PySem.W.keepIn X.K (.ref f))(hb:Binds X.K fd ps ds)(hd:Vals qd ds)(hx:FY CX X E)
 (ha:PA X (e::es) t) (hdb:autoParam ((x==("__debug__" : Str))=false) L2.aD1._auto_1) (he:autoParam (starEach (e::es) X.env=(false,eval e X.env)::starEach es X.env) L2.aR1._auto_1) (hpl:autoParam ((backTo pos (starEach es X.env)).any (·.1)=false) L2.aR1._auto_1) :
 PE X (.Call (.Name x p) (e::es) [] pos) (uZ sp qd E t):=by
 intro pins s σ H Q I h;refine wK (xr I hg hm ?_ hdb);refine PySem.W.callWith_K (h₀:=X.base) I.ok.mod.zI hk (bg (ha pos pins s σ H _ I h) λus s1 z9=>z9.el λvs H1 I1 r q=>⟨I1.gT,?_⟩) he hpl;exact Qx F hr hb hd hx I1 r q
theorem W4(F:dZ X.prog X.w X.K X.mg X.base CX k f fd ps sp)(hr:cu k X.A)(hg:Gl X x)(hm:X.mg x=aC (.ref f))(hk:PySem.W.keepIn X.K (.ref f))(hb:Binds X.K fd ps ds)(hd:Vals qd ds)(hx:FY CX X E)
 (hdb:autoParam ((x==("__debug__" : Str))=false) L2.aD1._auto_1):PE X (.Call (.Name x p) [] [] pos) (uZ sp qd E Bw):=by
 intro pins s σ H Q I h;refine wK (xr I hg hm ?_ hdb);exact PySem.W.callWith_K0 I.gT hk (Qx (us:=[]) F hr hb hd hx I .nil h)
end
structure cy(N P:List Str)(sc:az):Prop where
 kind:sc.kind=.function
 co:sc.isCoroutine=false
 gen:sc.isGenerator=false
 nd:N.Nodup
 pre:N.take P.length=P
 par:∀x∈P,sc.names.lookup x=aC .local\/sc.names.lookup x=aC .cell
 xF:∀y∈sc.names,y.2≠.free
theorem Qz{kindOf:Str->Option NameKind}{x:Str}:∀{binds:List (Str×af)} {m:Str->Option af},(∀v,(x,v)∉binds)->bindL kindOf binds m x=m x
 |[],_,_=>rfl
 |(n,v)::r,m,h=>by
  unfold bindL;rw[Qz λw hw=>h w (fS _ hw)];split;have:x≠n:=by rintro rfl;exact h v gj
  simp[this];rfl
theorem QA{kindOf:Str->Option NameKind}{x:Str}:∀{binds:List (Str×af)} {m:Str->Option af},(∀v,(x,v)∉binds)->bindC kindOf binds m x=m x
 |[],_,_=>rfl
 |(n,v)::r,m,h=>by
  unfold bindC;rw[QA λw hw=>h w (fS _ hw)];split;rfl;have:x≠n:=by rintro rfl;exact h v gj
  simp[this]
theorem QB{kindOf:Str->Option NameKind}{x:Str}{v:af}:∀{P:List Str} {vs:List af} {i:Nat} {m:Str->Option af},P.Nodup->P[i]?=aC x->vs[i]?=aC v->kindOf x=aC .local->
 bindL kindOf (P.zip vs) m x=aC v
 |[],_,_,_,_,h,_,_=>by simp at h
 |_::_,[],_,_,_,_,h,_=>by simp at h
 |p::P,w::vs,0,m,nd,h1,h2,hk=>by
  simp at h1 h2;subst h1;subst h2;show bindL kindOf ((p,w)::P.zip vs) m p=_;unfold bindL;rw[Qz λv hv=>(wV.mp nd).1 (Fp hv).1,if_pos hk];simp
 |p::P,w::vs,i+1,m,nd,h1,h2,hk=>by
  show bindL kindOf ((p,w)::P.zip vs) m x=_;unfold bindL;exact QB (i:=i) (wV.mp nd).2 (by simpa using h1) (by simpa using h2) hk
theorem QC{kindOf:Str->Option NameKind}{x:Str}{v:af}:∀{P:List Str} {vs:List af} {i:Nat} {m:Str->Option af},P.Nodup->P[i]?=aC x->vs[i]?=aC v->kindOf x≠aC .local->
 bindC kindOf (P.zip vs) m x=aC v
 |[],_,_,_,_,h,_,_=>by simp at h
 |_::_,[],_,_,_,_,h,_=>by simp at h
 |p::P,w::vs,0,m,nd,h1,h2,hk=>by
  simp at h1 h2;subst h1;subst h2;show bindC kindOf ((p,w)::P.zip vs) m p=_;unfold bindC;rw[QA λv hv=>(wV.mp nd).1 (Fp hv).1,if_neg hk];simp
 |p::P,w::vs,i+1,m,nd,h1,h2,hk=>by
  show bindC kindOf ((p,w)::P.zip vs) m x=_;unfold bindC;exact QC (i:=i) (wV.mp nd).2 (by simpa using h1) (by simpa using h2) hk
noncomputable def start(N:List Str)(vs:List V):St:=vs.map aC++bN (N.length-vs.length) aD
noncomputable def ic(CX:nZ)(P:aj)(w:ak)(K:aI)(mg:Str->Option af)(base:aA)(N:List Str)(qual:Str)(scope:az)(f:ai)(cd:af)(A:ao)(outer:List Env)(s:ah)(H:Hp)(E:XK):Cx where
 prog:=P
 w:=w
 K:=K
 mg:=mg
 base:=base
 A:=A.deeper (envOfC qual scope s.heap.objs.size f cd)
 N:=N
 s₀:=s
 H₀:=H
 env:=envOfC qual scope s.heap.objs.size f cd
 outer:=outer
 stack:=envOfC qual scope s.heap.objs.size f cd::outer
 ex:=[]
 calm:=true
 fn:=λ_=>true
 pn:=[]
 xe:=λe s'=>wpAny (model P w) (A.deeper (envOfC qual scope s.heap.objs.size f cd)) (leaving (envOfC qual scope s.heap.objs.size f cd) e) (λ_ s''=>CX outer H s E e s'') (λe' s''=>CX outer H s E e' s'') s'
theorem QD{sc:az}{n:Nat}{x:Str}(h:sc.names.lookup x=aC .cell):∃c,(cellsFrom n sc.names []).lookup x=aC c:=by have q:=PySem.W.cellsFrom_some sc.names n [] (.inl h);exact Option.isSome_iff_exists.mp q
theorem QE{CX:nZ}{P:aj}{w:ak}{K:aI}{mg:Str->Option af}{base:aA}{N ps:List Str}{qual:Str}{scope:az}{f:ai}{cd:af}{A:ao}{outer:List Env}{s s1:ah}{H:Hp}{E:XK}{us:List af}{vs:List V}
 (S:cy N ps scope) (hd:A.handled=aD) (e0:qc P w K mg base A outer s H) (hl:vs.length=ps.length) (r:Vals vs us)
 (x:InCallC s s.heap.objs.size (bindL (envOfC qual scope s.heap.objs.size f cd).kindOf (ps.zip us) λ_=>aD) (cellsFrom (s.heap.objs.size+1) scope.names []) (bindC (envOfC qual scope s.heap.objs.size f cd).kindOf (ps.zip us) λ_=>aD) s1) :
 Inv (ic CX P w K mg base N qual scope f cd A outer s H E) [] (start N vs) H s1:=by
 have hpl:ps.length<=N.length:=by have:=jQ List.length S.pre;rw[rP]at this;lia
 obtain⟨h1,tk,rfl,hk⟩:=x.done;have By:∀b:ai,b∉(ic CX P w K mg base N qual scope f cd A outer s H E).ex:=λb z=>absurd (show b∈([]:List ai)from z) (by simp);refine⟨⟨e0.mod,S.kind,rfl,rfl,aZ _,λy z c h1 h2=>?_,λy hy=>?_,λy c _ h=>?_,λ_=>hd,Around.frames_deeper e0.frames,.inr ⟨rfl,rfl⟩,λb z=>absurd z (By b),e0.bs,e0.rS,λb _ _=>By b,λb z=>absurd z (By b),e0.gv,e0.sU⟩,
  rfl,e0.bare,Un.kept hk,⟨_,x.toInCall.ns,λi y v h1 h2 h3=>?_⟩,λy c h=>⟨_,x.cell y c h⟩,e0.hok.fresh (aZ _),λy c h=>?_,λp hp=>absurd (show p∈([]:List (ai×Obj))from hp) (by simp),e0.hok.kept hk,?_⟩
 exact name_of_addr x.apart (Az h1) (Az h2);have hy:scope.names.lookup y=aC .cell\/scope.names.lookup y=aC .free:=hy;rcases hy with hy|hy
 exact QD hy;exact absurd rfl (S.xF _ (Az hy));exact sR (x.above y c (Az h));have hi:i<vs.length:=by unfold start at h2;by_cases hi:i<vs.length;exact hi;rw[oX (by simpa using hi)]at h2;rw[Ff]at h2;split at h2<;>cases h2
 have ha:vs[i]?=aC v:=by
  unfold start at h2;rw[uM (by simpa using hi),dY]at h2;cases e:vs[i]? with|none=>rw[e]at h2;cases h2|some a=>rw[e]at h2;cases h2;rfl
 obtain⟨u,hu,rv⟩:=r.get ha;have hp:ps[i]?=aC y:=by rw[<-S.pre,List.getElem?_take_of_lt (by lia)];exact h1
 have QF:ps.Nodup:=by rw[<-S.pre];exact S.nd.sublist (List.take_sublist _ _)
 refine⟨u,rv,?_⟩;rcases S.par y (mP hp)with k|k
 exact .inl ⟨k,QB QF hp hu k⟩;obtain⟨c,e⟩:=QD (n:=s.heap.objs.size+1) k;refine .inr ⟨.inl k,c,e,?_⟩;have q:=x.cell y c e;rw[QC QF hp hu (by show scope.names.lookup y≠_;rw[k];decide)]at q;exact q;exact e0.hok.fresh (sR (x.above y c (Az h)));unfold start;show _=N.length;rw[fC,bG,wN];lia
theorem u5{CX:nZ}{P:aj}{w:ak}{K:aI}{mg:Str->Option af}{base:aA}{k:Nat}{f:ai}{name qual:Str}{params:Arguments}{body:List au}{scope:az}{dV kV doc pm cdv ct oc:af}{an od:Option ai}
 {osl:Array (Option af)} {N ps:List Str} {sp:Sp} (lk:K.lookup f=aC ⟨oc,od,.func (PySem.W.fnOf name qual params body scope dV kV doc pm an cdv ct),osl⟩) (hcd:PySem.W.codeIn K cdv qual) (S:cy N ps scope)
 (len:∀vs H Q E,sp vs H Q E->vs.length=ps.length)
 (hbody:∀(A:ao)(outer:List Env)(s:ah)(H:Hp)(vs:List V)(Q:VK)(E:XK),cu k (A.deeper (envOfC qual scope s.heap.objs.size f cdv))->sp vs H Q E->
   ∃t,gU (ic CX P w K mg base N qual scope f cdv A outer s H E) body t/\t {nx:=λ_ H'=>Q .aL H',rt:=Q} (start N vs) H) :
 dZ P w K mg base CX (k+1) f (PySem.W.fnOf name qual params body scope dV kV doc pm an cdv ct) ps sp:=by
 refine⟨len,λA outer s H args us vs Q E hr e0 hb r kG=>?_⟩;have hl:=len _ _ _ _ kG;have KX:K.In s.heap:=e0.mod.zI.keeps λb o e=>(e0.bs b o e).1;have lim:s.heap.NoLimit:=e0.mod.nolimit.keeps λb o e=>(e0.bs b o e).1;have hkind:∀y∈ps.zip us,scope.names.lookup y.1=aC .local\/(scope.names.lookup y.1=aC .cell/\((cellsFrom (s.heap.objs.size+1) scope.names []).lookup y.1).isSome):=λcj hy=>by
  obtain⟨n,v⟩:=cj;rcases S.par n (Fp hy).1 with q|q;exact .inl q;exact .inr ⟨q,PySem.W.cellsFrom_some _ _ _ (.inl q)⟩
 refine codeAny_call_function hr.depth (KX _ _ lk) rfl S.co S.gen rfl (PySem.W.codeRec_of KX hcd) (hb _ _ _ _ ?_);refine wpAny_newFunctionEnv_cells S.kind hkind λenv he s1 x=>?_;subst he;refine⟨lim.keeps x.toInCall.keep,codeAny_func ?_⟩;obtain⟨t,ht,hq⟩:=hbody A outer s H vs Q E (hr.deeper _) kG;have I:Inv (ic CX P w K mg base N qual scope f cdv A outer s H E) [] (start N vs) H s1:=QE S hr.hd e0 hl r x;refine iC (ht [] s1 (start N vs) H _ I hq) (λfl s' hs=>?_) λe s' hs=>hs;have fin:∀{σ':St}{H':Hp}{v:V}{u:af},Inv (ic CX P w K mg base N qual scope f cdv A outer s H E) [] σ' H' s'->RelV v u->Q v H'->CE outer P w H s Q u s':=
  λ{σ' H' v u} J rv q=>⟨v,H',J.os,J.bare,J.base,J.hok,rv,q⟩
 cases fl with
 |ret u=>
  obtain⟨v,σ',H',J,rv,q⟩:=hs;exact fin J rv q
 |next=>
  obtain⟨σ',H',J,q⟩:=hs;exact fin (v:=V.aL) (u:=Value.none) J rfl q
 |brk=>
  obtain⟨_,_,_,q⟩:=hs;exact False.elim q
 |cont=>
  obtain⟨_,_,_,q⟩:=hs;exact False.elim q
section
variable{X:Cx}{x:Str}{p pos:Pos}{e:aq}{es:List aq}{t:TA}{id T:String}{r:List V->Hp->VK->Prop}
noncomputable def QG(r:List V->Hp->VK->Prop)(t:TA):TE:=λσ H Q=>t σ H λvs H1=>r vs H1 Q
theorem IT(hc:cA X (.builtin id) r)(hg:Gl X x)(hm:X.mg x=aD)(hv:bootBuiltins x=aC (.builtin id))(ha:PA X (e::es) t)(hn:autoParam (x≠"__name__") L2.aD1._auto_1)(hdb:autoParam ((x==("__debug__" : Str))=false) L2.aD1._auto_1)
 (he:autoParam (starEach (e::es) X.env=(false,eval e X.env)::starEach es X.env) L2.aR1._auto_1) (hpl:autoParam ((backTo pos (starEach es X.env)).any (·.1)=false) L2.aR1._auto_1):PE X (.Call (.Name x p) (e::es) [] pos) (QG r t):=by
 intro pins s σ H Q I h;refine wK (xu I hg hm hv ?_ hn hdb);exact PyProof.Rows.callWith_builtin1 (bg (ha pos pins s σ H _ I h) λus s1 z9=>z9.el λvs H1 I1 r1 q1=>hc pins s1 σ H1 vs us Q I1 r1 q1) he hpl
theorem W5(hc:cA X (.type T) r)(hg:Gl X x)(hm:X.mg x=aD)(hv:bootBuiltins x=aC (.type T))(ha:PA X (e::es) t)(hn:autoParam (x≠"__name__") L2.aD1._auto_1)(hdb:autoParam ((x==("__debug__" : Str))=false) L2.aD1._auto_1)
 (he:autoParam (starEach (e::es) X.env=(false,eval e X.env)::starEach es X.env) L2.aR1._auto_1) (hpl:autoParam ((backTo pos (starEach es X.env)).any (·.1)=false) L2.aR1._auto_1):PE X (.Call (.Name x p) (e::es) [] pos) (QG r t):=by
 intro pins s σ H Q I h;refine wK (xu I hg hm hv ?_ hn hdb);exact AQ (bg (ha pos pins s σ H _ I h) λus s1 z9=>z9.el λvs H1 I1 r1 q1=>hc pins s1 σ H1 vs us Q I1 r1 q1) he hpl
end
end L2
namespace HT
open PySem PyProof.Rows
section
variable{prog:aj}{w:ak}{A:ao}{E:af->ah->Prop}{s:ah}
theorem tw{t b:ai}{vs ws:List af}{Q:af->ah->Prop}(ht:IsTup s.heap t vs.toArray)(hb:IsTup s.heap b ws.toArray)(hv:vs≠[])
 (h1:ws=[]->Q (.ref t) s) (h2:ws≠[]->Q (.ref s.heap.objs.size) {s with heap:=s.heap.push {cls:=.type "tuple",data:=.seq (vs++ws).toArray}})
 (hsz:vs.length+ws.length<=sizeLine):wpAny (model prog w) A (binaryOp .Add (.ref t) (.ref b)) Q E s:=by
 obtain⟨⟨cls,dd,data,sl⟩,ho,hc,n,hd⟩:=id ht;obtain⟨⟨IU,dd2,data2,sl2⟩,ho2,hc2,n2,hd2⟩:=id hb;simp only at hc hd hc2 hd2;subst hc hd hc2 hd2;have e:vs.toArray++ws.toArray=(vs++ws).toArray:=by simp
 by_cases hw:ws=[]
 exact concat_meets ⟨_,ho,rfl⟩ ⟨_,ho2,rfl⟩ AB AE AV AU (AS _ _)
  (tuple_addW1 t b vs.toArray ws.toArray n n2 dd dd2 sl sl2 (by simpa using hv) (by simp[hw])) ⟨ho,ho2,h1 hw⟩
 refine concat_meets ⟨_,ho,rfl⟩ ⟨_,ho2,rfl⟩ AB AE AV AU (AS _ _)
  (tuple_addW2 t b vs.toArray ws.toArray n n2 dd dd2 sl sl2 (by simpa using hv) (by simpa using hw) (by rw[eG,eG];exact hsz)) ⟨ho,ho2,?_⟩
 rw[e];exact h2 hw
noncomputable def bT(n d:Nat):Option Int->Nat|none=>d|some v=>if v<0 then(v+ (n:Int)).toNat else min v.toNat n
theorem qe(n d:Nat):bT n d aD=d:=rfl
theorem tD(n d k:Nat):bT n d (aC (k:Int))=min k n:=by show(if(k:Int)<0 then((k:Int)+ (n:Int)).toNat else min (k:Int).toNat n)=min k n;rw[if_neg (by lia),vcs]
theorem W6(n d:Nat)(hd:d<=n)(o:Option Int):bT n d o<=n:=by
 cases o with
 |none=>exact hd
 |some v=>
  show(if v<0 then(v+ (n:Int)).toNat else min v.toNat n)<=n;by_cases hv:v<0;rw[if_pos hv];lia;rw[if_neg hv];exact Nat.min_le_right _ _
theorem QH(v:Int)(n d:Nat):(if v<0 then max (v+ (n:Int)) 0 else min v (n:Int))=((bT n d (aC v):Nat):Int):=by
 show(if v<0 then max (v+ (n:Int)) 0 else min v (n:Int))=(((if v<0 then(v+ (n:Int)).toNat else min v.toNat n):Nat):Int)
 by_cases hv:v<0;simp only[if_pos hv];lia;simp only[if_neg hv];lia
theorem W7(lo hi:Option Int)(n:Nat):Builtin.Slice.sliceAdjust lo hi 1 (n:Int)=(((bT n 0 lo:Nat):Int),((bT n n hi:Nat):Int)):=by
 have h1:¬((1:Int)<0):=by lia
 unfold Builtin.Slice.sliceAdjust;simp only[h1,fM];refine Prod.ext ?_ ?_;cases lo with|none=>rfl|some v=>exact QH v n 0
 cases hi with|none=>rfl|some v=>exact QH v n n
theorem W8(i j:Nat):Builtin.Slice.slicePlaces (i:Int) (j:Int) 1=j-i:=by
 unfold Builtin.Slice.slicePlaces;have h1:(1:Int)>0:=by lia
 simp only[h1,dg,Int.ediv_one];split<;>lia
theorem QI{v:af}{o:Option Int}{Q:Option Int->ah->Prop}(p:IsPart v o)(h:Q o s):wpAny (model prog w) A (Builtin.Slice.slicePartIndex v) Q E s:=by
 cases p with|none=>exact slicePart_none h|int i t=>exact slicePart_int h
theorem QJ{sl:ai}{vl vu:af}{lo hi:Option Int}{n:Nat}{Q:Int×Int×Nat->ah->Prop}(hs:s.heap.IsSliceOf sl vl vu .none)(pl:IsPart vl lo)(pu:IsPart vu hi)
 (h:Q (((bT n 0 lo:Nat):Int),1,bT n n hi-bT n 0 lo) s):wpAny (model prog w) A (Builtin.Slice.sliceApplied (.ref sl) (pure (n:Int))) Q E s:=by
 obtain⟨os,hos,hcs,hds⟩:=id hs;unfold Builtin.Slice.sliceApplied Builtin.Slice.sliceFields;refine aK (aK (jR hos hds (x:=vl) rfl (aK (jR hos hds (x:=vu) rfl (aK (jR hos hds (x:=.none) rfl (bR ?_)))))));refine aK (slicePart_none ?_);show wpAny _ _ (if((1:Int)==0)=true then _ else _) _ _ s;rw[if_neg (by decide)];refine aK (QI pl (aK (QI pu (aK (bR ?_)))));show wpAny _ _ (match Builtin.Slice.sliceAdjust lo hi 1 (n:Int)with|(lo,hi)=>pure (lo,(1:Int),Builtin.Slice.slicePlaces lo hi 1)) _ _ s;rw[W7 lo hi n];show wpAny _ _ (pure (((bT n 0 lo:Nat):Int),(1:Int),Builtin.Slice.slicePlaces ((bT n 0 lo:Nat):Int) ((bT n n hi:Nat):Int) 1)) _ _ s;rw[W8];exact bR h
theorem W9(xs:Array af)(i k:Nat):((List.range k).filterMap λ(m:Nat)=>xs[((i:Int)+ (m:Int)*1).toNat]?).toArray=((xs.toList.drop i).take k).toArray:=by
 have e:(λ(m:Nat)=>xs[((i:Int)+ (m:Int)*1).toNat]?)=λm=>xs[i+m]?:=by
  funext m;have:((i:Int)+ (m:Int)*1).toNat=i+m:=by lia
  rw[this]
 rw[e];have:=pick_run xs i k;rw[List.filterMap_map]at this;have e2:((λx=>xs[x]?)∘λx=>i+x)=λm=>xs[i+m]?:=rfl;rw[e2]at this;rw[this]
theorem gz{t sl:ai}{items:Array af}{vl vu:af}{lo hi:Option Int}{Q:af->ah->Prop}(ht:IsTup s.heap t items)(hs:s.heap.IsSliceOf sl vl vu .none)(pl:IsPart vl lo)(pu:IsPart vu hi)
 (hw:¬(bT items.size 0 lo=0/\bT items.size items.size hi=items.size))
 (h:Q (.ref s.heap.objs.size) {s with heap:=s.heap.push {cls:=.type "tuple",data:=.seq ((items.toList.drop (bT items.size 0 lo)).take (bT items.size items.size hi-bT items.size 0 lo)).toArray}})
 (hsz:items.size<=sizeLine):wpAny (model prog w) A (getItem (.ref t) (.ref sl)) Q E s:=by
 have mU:sizeOk (.seq ((items.toList.drop (bT items.size 0 lo)).take (bT items.size items.size hi-bT items.size 0 lo)).toArray):=by show((items.toList.drop (bT items.size 0 lo)).take (bT items.size items.size hi-bT items.size 0 lo)).toArray.size<=sizeLine;rw[eG,rP,wU,zD];lia
 have hj:bT items.size items.size hi<=items.size:=W6 _ _ (aZ _) hi;obtain⟨os,hos,hcs,hds⟩:=id hs;have IV:s.TypeIs (.ref sl) "slice":=⟨os,hos,hcs⟩
 unfold getItem
 try with_reducible refine lO ?_
 first|refine aK (bR ?_)|skip
 refine aK (wpAny_sequenceKey ht.typeIs (by decide) ?_);refine aK (zh (name:=Str.ofString "__getitem__") ht.typeIs zB
  (zl zB ht.typeIs entry_tuple_getitem ?_ (args_tuple_getitem _ _)))
 show wpAny _ _ (Builtin.Tuple.tupleItemsOf (.ref t) >>= _) _ _ s;refine aK (tupleItemsOf_ ht ?_);refine aK (Fb IV ?_);rw[if_pos (by decide)];refine aK (QJ hs pl pu ?_);have hno:¬((((bT items.size 0 lo:Nat):Int)==0&& (1:Int)==1&& (bT items.size items.size hi-bT items.size 0 lo)==items.size)):=by intro q;rw[bw,bw]at q;have q1:((bT items.size 0 lo:Nat):Int)=0:=eq_of_beq q.1.1;have q2:bT items.size items.size hi-bT items.size 0 lo=items.size:=eq_of_beq q.2;exact hw ⟨by lia,by lia⟩
 show wpAny _ _ (if(((bT items.size 0 lo:Nat):Int)==0&& (1:Int)==1&& (bT items.size items.size hi-bT items.size 0 lo)==items.size)=true then _ else _) _ _ s;rw[if_neg hno,W9];first
  |exact aK (m:=Builtin.Tuple.tupleExact _) (rL (bR ⟨_,rfl,bR h⟩) mU)
  |exact aK (m:=Builtin.Tuple.tupleExact _) (rL (aK (bR (bR ⟨_,rfl,bR h⟩))) mU)
  |exact aK (aK (m:=Builtin.Tuple.tupleExact _) (rL (bR (bR ⟨_,rfl,bR h⟩)) mU))
  |exact aK (aK (m:=Builtin.Tuple.tupleExact _) (rL (bR ⟨_,rfl,bR h⟩) mU))
end
end HT
namespace L2
open PySem PySem.Spec PyProof.Rows
noncomputable abbrev TO:=St->Hp->(Option Int->Hp->Prop)->Prop
noncomputable def PO(X:Cx)(e:Option aq)(t:TO):Prop:=
 ∀(pins:List (ai×Obj))(s:ah)(σ:St)(H:Hp)(Q:Option Int->Hp->Prop),Inv X pins σ H s->t σ H Q->
  wpAny (model X.prog X.w) X.A (evalPart e X.env) (λu s'=>∃o H',Inv X pins σ H' s'/\IsPart u o/\Q o H') X.xe s
noncomputable def Xa:TO:=λ_ H Q=>Q aD H
noncomputable def BA(t:TE):TO:=λσ H Q=>t σ H λx H1=>∃i,x=.int i/\Q (aC i) H1
section
variable{X:Cx}{e:aq}{te:TE}{lo hi:Option aq}{tl th:TO}{pos p2:Pos}
theorem Xb:PO X aD Xa:=by intro pins s σ H Q I h;rw[evalPart_none];exact bR ⟨aD,H,I,.none,h⟩
theorem Xc(h:PE X e te):PO X (aC e) (BA te):=by intro pins s σ H Q I hw;rw[evalPart_some];refine bg (h pins s σ H _ I hw) λu s1 z9=>z9.el λx H1 I1 r1 q1=>?_;obtain⟨i,rfl,q⟩:=q1;obtain⟨t,rfl⟩:=r1;exact⟨aC i,H1,I1,.int i t,q⟩
noncomputable def tE(X:Cx)(r:V->Option Int->Option Int->Hp->VK->Prop):Prop:=
 ∀(pins:List (ai×Obj))(s:ah)(σ:St)(H:Hp)(x:V)(v vl vu:af)(lo hi:Option Int)(sl:ai)(Q:VK),Inv X pins σ H s->RelV x v->s.heap.IsSliceOf sl vl vu .none->IsPart vl lo->IsPart vu hi->r x lo hi H Q->
  ∃T id,typeLookup (.type T) "__getitem__" = pure (aC (.builtin id))/\s.TypeIs v T/\wpAny (model X.prog X.w) X.A (getItem v (.ref sl)) (EP X pins σ Q) X.xe s
theorem tE.or{r r':V->Option Int->Option Int->Hp->VK->Prop}(h:tE X r)(h':tE X r'):tE X (λx lo hi H Q=>r x lo hi H Q\/r' x lo hi H Q):=by
 intro pins s σ H x v vl vu lo hi sl Q I rx hs pl pu q;rcases q with q|q
 exact h pins s σ H x v vl vu lo hi sl Q I rx hs pl pu q;exact h' pins s σ H x v vl vu lo hi sl Q I rx hs pl pu q
noncomputable def Xd(r:V->Option Int->Option Int->Hp->VK->Prop)(te:TE)(tl th:TO):TE:=λσ H Q=>te σ H λx H1=>tl σ H1 λl H2=>th σ H2 λu H3=>r x l u H3 Q
theorem Xe{r:V->Option Int->Option Int->Hp->VK->Prop}(hr:tE X r)(he:PE X e te)(hl:PO X lo tl)(hu:PO X hi th):PE X (.Subscript e (.Slice lo hi aD p2) pos) (Xd r te tl th):=by intro pins s σ H Q I h;refine Subscript_ (bg (he pins s σ H _ I h) λv s1 z9=>z9.el λx H1 I1 r1 q1=>?_);refine wpAny_Slice (bg (hl pins s1 σ H1 _ I1 q1) λvl s2 ⟨l,H2,I2,pl,q2⟩=>bg (hu pins s2 σ H2 _ I2 q2) λvu s3 cj=>?_);obtain⟨u,H3,I3,pu,q3⟩:=cj;rw[evalPart_none];refine bR ?_;have I4:Inv X pins σ H3 {s3 with heap:=s3.heap.push {cls:=.type "slice",data:=.fields #[vl,vu,.none]}}:=I3.kept (t':=s3.toks) λb ob q=>cH _ q;obtain⟨T,id,hT,ht,hg⟩:=hr pins {s3 with heap:=s3.heap.push {cls:=.type "slice",data:=.fields #[vl,vu,.none]}} σ H3 x v vl vu l u s3.heap.objs.size Q I4 r1 (Heap.IsSliceOf.new ..) pl pu q3;show wpAny (model X.prog X.w) X.A (subscriptTail e (.Slice lo hi aD p2) v (.ref s3.heap.objs.size)) (EP X pins σ Q) X.xe {s3 with heap:=s3.heap.push {cls:=.type "slice",data:=.fields #[vl,vu,.none]}};exact tail_any (ops:=[.ref s3.heap.objs.size,v]) ht hT hg (by with_unfolding_all rfl)
noncomputable def kH(xs:List V)(lo hi:Option Int):List V:=(xs.drop (HT.bT xs.length 0 lo)).take (HT.bT xs.length xs.length hi-HT.bT xs.length 0 lo)
theorem QK(xs:List V)(lo hi:Option Int):(kH xs lo hi).length<=xs.length:=by unfold kH;rw[rP,wU];lia
noncomputable def BB(K:aI):V->Option Int->Option Int->Hp->VK->Prop:=λx lo hi H Q=>∃a xs,x=.ref a/\dh K H a xs/\
 ¬(HT.bT xs.length 0 lo=0/\HT.bT xs.length xs.length hi=xs.length)/\∀p,H p=aD->Q (.ref p) (upd H p (.tup (kH xs lo hi)))
theorem Xf:tE X (BB X.K):=by
 intro pins s σ H x v vl vu lo hi sl Q I rx hs pl pu h;obtain⟨a,xs,rfl,hx,hw,q⟩:=h;cases rx;obtain⟨its,r,ht,hz⟩:=I.tuple hx;have hlen:its.toArray.size=xs.length:=by rw[eG];exact r.length.symm
 refine⟨"tuple",_,zB.lookup,ht.typeIs,?_⟩;refine HT.gz ht hs pl pu (by rw[hlen];exact hw) ?_ (by rw[hlen];exact hz);rw[hlen];refine⟨.ref s.heap.objs.size,_,I.laid (t':=s.toks) (o:=.tup (kH xs lo hi)) (λb ob q=>cH _ q) (aZ _) ?_,rfl,q _ (I.hok.fresh (aZ _))⟩;exact⟨eS (QK xs lo hi) hz,_,(r.drop (HT.bT xs.length 0 lo)).take (HT.bT xs.length xs.length hi-HT.bT xs.length 0 lo),lV.new _ _⟩
noncomputable def mV(K:aI):R2:=λx y H Q=>∃a b xs ys,x=.ref a/\y=.ref b/\dh K H a xs/\dh K H b ys/\xs≠[]/\xs.length+ys.length<=sizeLine/\
 (ys=[]->Q (.ref a) H)/\(ys≠[]->∀p,H p=aD->Q (.ref p) (upd H p (.tup (xs++ys))))
theorem Vals.fE{xs:List V}{us:List af}(r:Vals xs us):us=[]↔xs=[]:=by
 cases r with|nil=>simp|cons _ _=>simp
theorem Xg:dU X (binaryOp .Add) (mV X.K):=by intro pins s σ H x y v u Q I rx ry h;obtain⟨a,b,xs,ys,rfl,rfl,ha,hb,hx,hz,q1,q2⟩:=h;cases rx;cases ry;obtain⟨its,r1,p1,_⟩:=I.tuple ha;obtain⟨its2,r2,p2,_⟩:=I.tuple hb;refine HT.tw p1 p2 (λz=>hx (r1.fE.mp z)) (λz=>⟨.ref a,H,I,rfl,q1 (r2.fE.mp z)⟩) (λz=>?_) (by rw[<-r1.length,<-r2.length];exact hz);refine⟨.ref s.heap.objs.size,_,I.laid (t':=s.toks) (o:=.tup (xs++ys)) (λb ob q=>cH _ q) (aZ _) ?_,rfl,q2 (λw=>z (r2.fE.mpr w)) _ (I.hok.fresh (aZ _))⟩;exact⟨by rw[fC];exact hz,_,r1.append r2,lV.new _ _⟩
end
noncomputable def ju(n:Nat)(i:Int):Option Nat:=if 0<=i then(if i<n then aC i.toNat else aD)else if -(n:Int)<=i then aC (i+n).toNat else aD
noncomputable def eW{α:Type}(xs:List α)(i:Int):Option α:=(ju xs.length i).bind λj=>xs[j]?
theorem QL{n:Nat}{i:Int}{j:Nat}(h:ju n i=aC j):seqIndex? i n=aC j/\j<n/\-(n:Int)<=i/\i<n:=by unfold ju at h;by_cases h0:0<=i;rw[if_pos h0]at h;by_cases h1:i<n;rw[if_pos h1]at h;have e:i.toNat=j:=pU h;exact⟨by rw[seqIndex_of h0 h1,e],by lia,by lia,h1⟩;rw[if_neg h1]at h;cases h;rw[if_neg h0]at h;by_cases h1:-(n:Int)<=i;rw[if_pos h1]at h;have e:(i+n).toNat=j:=pU h;exact⟨by rw[seqIndex_neg (by lia) h1,e],by lia,h1,by lia⟩;rw[if_neg h1]at h;cases h
theorem QM{α:Type}{xs:List α}{i:Int}{v:α}(h:eW xs i=aC v):∃j,seqIndex? i xs.length=aC j/\xs[j]?=aC v/\j<xs.length/\-(xs.length:Int)<=i/\i<xs.length:=by
 unfold eW at h;cases e:ju xs.length i with
 |none=>rw[e]at h;cases h
 |some j=>
  rw[e]at h;obtain⟨h1,h2,h3,h4⟩:=QL e;exact⟨j,h1,h,h2,h3,h4⟩
noncomputable def FZ(b:aq):Prop:=∀o i,subscripted b false o i=operate [o,i] (getItem o i)
noncomputable def tF(X:Cx)(r:R2):Prop:=
 ∀(value slice:aq)(pins:List (ai×Obj))(s:ah)(σ:St)(H:Hp)(x y:V)(v u:af)(Q:VK),Inv X pins σ H s->RelV x v->RelV y u->r x y H Q->
  subscripted slice false v u=operate [v,u] (getItem v u)->wpAny (model X.prog X.w) X.A (subscriptTail value slice v u) (EP X pins σ Q) X.xe s
noncomputable def F0(X:Cx)(id:String)(r:V->List V->Hp->VK->Prop):Prop:=
 ∀(pins:List (ai×Obj))(s:ah)(σ:St)(H:Hp)(x:V)(xs:List V)(v:af)(us:List af)(Q:VK),Inv X pins σ H s->RelV x v->Vals xs us->r x xs H Q->
  wpAny (model X.prog X.w) X.A (call (.builtin id) (v::us)) (EP X pins σ Q) X.xe s
section
variable{X:Cx}{a b:aq}{ta tb:TE}{pos:Pos}
theorem tF.or{r r':R2}(h:tF X r)(h':tF X r'):tF X (λx y H Q=>r x y H Q\/r' x y H Q):=by
 intro value slice pins s σ H x y v u Q I rx ry q hs;rcases q with q|q
 exact h value slice pins s σ H x y v u Q I rx ry q hs;exact h' value slice pins s σ H x y v u Q I rx ry q hs
theorem u6{r:R2}(hr:tF X r)(ha:PE X a ta)(hb:PE X b tb)(hs:FZ b):PE X (.Subscript a b pos) (FW r ta tb):=by intro pins s σ H Q I h;exact Subscript_ (xA ha hb I h λv u s2 x y H2 I2 rx ry q=>hr a b pins s2 σ H2 x y v u Q I2 rx ry q (hs _ _))
noncomputable def BC(K:aI):R2:=λx y H Q=>∃p xs i v,x=.ref p/\y=.int i/\cJ K H p xs/\eW xs i=aC v/\Q v H
noncomputable def BD(K:aI):R2:=λx y H Q=>∃p xs i v,x=.ref p/\y=.int i/\dh K H p xs/\eW xs i=aC v/\Q v H
theorem QN:tF X (BC X.K):=by
 intro value slice pins s σ H x y v u Q I rx ry h hs;obtain⟨p,xs,i,z,rfl,rfl,hq,he,q⟩:=h;cases rx;obtain⟨t,rfl⟩:=ry;obtain⟨its,r,pl,hz⟩:=I.list hq;obtain⟨j,h1,h2,h3,h4,h5⟩:=QM he;obtain⟨w,ew,rw'⟩:=r.get h2;have hl:=r.length;have hn:=Bv;have fin:EP X pins σ Q w s:=⟨z,H,I,rw',q⟩
 by_cases h0:0<=i;have hj:i.toNat=j:=by rw[seqIndex_of h0 h5]at h1;exact pU h1
 exact item_listR pl.isList h0 (by lia) (by rw[hj];simpa using ew) fin hs;have hj:(i+ (its.toArray.size:Int)).toNat=j:=by rw[seqIndex_neg (by lia) h4]at h1;rw[eG,<-hl];exact pU h1
 exact subscriptTail_builtinR (x:=w) pl.isList.typeIs slot_list_getitem.lookup
  (wpAny_getItem_list_neg (Q:=λr s'=>r=w/\EP X pins σ Q r s') pl.isList (by lia) (by rw[eG]<;>lia) (by lia) (by rw[hj];simpa using ew) ⟨rfl,fin⟩) hs
theorem Xh:tF X (BD X.K):=by
 intro value slice pins s σ H x y v u Q I rx ry h hs;obtain⟨p,xs,i,z,rfl,rfl,hq,he,q⟩:=h;cases rx;obtain⟨t,rfl⟩:=ry;obtain⟨its,r,pl,hz⟩:=I.tuple hq;obtain⟨j,h1,h2,h3,h4,h5⟩:=QM he;obtain⟨w,ew,rw'⟩:=r.get h2;have hl:=r.length;have hn:=Bv;have fin:EP X pins σ Q w s:=⟨z,H,I,rw',q⟩
 exact subscriptTail_builtinR (x:=w) pl.typeIs slot_tuple_getitem.lookup
  (getItem_tuple (j:=j) (Q:=λr s'=>r=w/\EP X pins σ Q r s') pl (by lia) (by lia) (by rw[eG,<-hl];exact h1) (by simpa using ew) ⟨rfl,fin⟩) hs
theorem Xi(its:List af)(n j:Nat)(u:af):Obj.mapSeq (·.setIfInBounds j u) {cls:=.type "list",data:=.seq its.toArray n} ={cls:=.type "list",data:=.seq (its.set j u).toArray n}:=by simp[Obj.mapSeq]
theorem Inv.lst{pins:List (ai×Obj)}{σ:St}{H:Hp}{s:ah}{p:ai}{xs:List V}(I:Inv X pins σ H s)(h:H p=aC (.lst xs)) :
 ∃(its:List af) (n:Nat),Vals xs its/\s.heap.get? p=aC {cls:=.type "list",data:=.seq its.toArray n}/\xs.length<=sizeLine:=by
 obtain⟨z,its,n,r,e⟩:=I.hok p _ h;exact⟨its,n,r,e,z⟩
theorem Inv.xG{pins:List (ai×Obj)}{σ:St}{H:Hp}{s:ah}{p:ai}{xs ys:List V}{its its':List af}{n n':Nat}{f:Obj->Obj}(I:Inv X pins σ H s)(h:H p=aC (.lst xs))
 (ho:s.heap.get? p=aC {cls:=.type "list",data:=.seq its.toArray n}) (hf:f {cls:=.type "list",data:=.seq its.toArray n} ={cls:=.type "list",data:=.seq its'.toArray n'}) (r:Vals ys its') (hz:ys.length<=sizeLine) (t:Nat) :
 Inv X pins σ (upd H p (.lst ys)) {s with heap:=s.heap.update p f,toks:=t}:=by
 have e:(s.heap.update p f).get? p=aC {cls:=.type "list",data:=.seq its'.toArray n'}:=by rw[Fv f ho (by rw[hf]<;>rfl),hf]
 refine I.write (x:=p) (e:=p) (by rw[h];trivial) (.inl rfl) (λb u hb q=>(wX _ _ (eT hb)).trans q) ⟨_,e⟩ ?_;exact⟨hz,its',n',r,e⟩
noncomputable def BE:V->V->V->Hp->(Hp->Prop)->Prop:=λo i v H Q=>∃p xs k j,o=.ref p/\i=.int k/\H p=aC (.lst xs)/\ju xs.length k=aC j/\Q (upd H p (.lst (xs.set j v)))
theorem Xj:nU X BE:=by
 intro pins s σ H o i v ov iv u Q I ro ri rv h;obtain⟨p,xs,k,j,rfl,rfl,hp,hj,q⟩:=h;cases ro;obtain⟨t,rfl⟩:=ri;obtain⟨its,n,r,ho,hz⟩:=I.lst hp;obtain⟨h1,h2,h3,h4⟩:=QL hj;have hl:=r.length;have hn:=Bv;have I':Inv X pins σ (upd H p (.lst (xs.set j v))) {s with heap:=s.heap.update p (Obj.mapSeq (·.setIfInBounds j u))}:=
  I.xG hp ho (Xi its n j u) (r.set rv j) (by rw[wW];exact hz) s.toks
 by_cases h0:0<=k;have hk:k.toNat=j:=by rw[seqIndex_of h0 h4]at h1;exact pU h1
 exact PySem.W.ki_setAt ho h0 (by lia) (by rw[eG,<-hl];exact h4) (by rw[hk];exact⟨_,I',q⟩);have hk:(k+ (its.toArray.size:Int)).toNat=j:=by rw[seqIndex_neg (by lia) h3]at h1;rw[eG,<-hl];exact pU h1
 exact PySem.W.ki_setBack ho (by lia) (by rw[eG,<-hl];exact h3) (by lia) (by rw[hk];exact⟨_,I',q⟩)
theorem Xk(lo hi:Option Int)(n:Nat):(sliceBounds lo hi aD n).1=((HT.bT n 0 lo:Nat):Int)/\(sliceBounds lo hi aD n).2.1=((HT.bT n n hi:Nat):Int)/\(sliceBounds lo hi aD n).2.2=1:=by
 refine⟨?_,?_,rfl⟩;cases lo with
 |none=>simp[sliceBounds,HT.bT]
 |some i=>
  simp only[sliceBounds,HT.bT,Option.getD_none,show(1:Int)>0 by decide,dg];by_cases h:i<0;simp only[h,dg]<;>lia;simp only[h,fM]<;>lia
 cases hi with
 |none=>simp[sliceBounds,HT.bT]
 |some i=>
  simp only[sliceBounds,HT.bT,Option.getD_none,show(1:Int)>0 by decide,dg];by_cases h:i<0;simp only[h,dg]<;>lia;simp only[h,fM]<;>lia
theorem Xl(its:List af)(lo hi:Option Int):slicePick its.toArray lo hi aD=((its.drop (HT.bT its.length 0 lo)).take (HT.bT its.length its.length hi-HT.bT its.length 0 lo)).toArray:=by obtain⟨h1,h2,h3⟩:=Xk lo hi its.toArray.size;unfold slicePick;rw[h1,h2,h3];simp only[sliceRange_one,pick_run,eG]<;>rfl
noncomputable def BF(K:aI):V->Option Int->Option Int->Hp->VK->Prop:=λx lo hi H Q=>∃a xs,x=.ref a/\cJ K H a xs/\∀p,H p=aD->Q (.ref p) (upd H p (.lst (kH xs lo hi)))
theorem Xm:tE X (BF X.K):=by intro pins s σ H x v vl vu lo hi sl Q I rx hs pl pu h;obtain⟨a,xs,rfl,hx,q⟩:=h;cases rx;obtain⟨its,r,ht,hz⟩:=I.list hx;have hlen:=r.length;refine⟨"list",_,slot_list_getitem.lookup,ht.isList.typeIs,?_⟩;refine wpAny_getItem_list_slice ht.isList hs pl pu .none (by simp) ?_ (by rw[eG]<;>lia);rw[Xl,<-hlen];refine⟨.ref s.heap.objs.size,_,I.laid (t':=s.toks) (o:=.lst (kH xs lo hi)) (λb ob q=>cH _ q) (aZ _) ?_,rfl,q _ (I.hok.fresh (aZ _))⟩;exact⟨eS (QK xs lo hi) hz,_,0,(r.drop (HT.bT xs.length 0 lo)).take (HT.bT xs.length xs.length hi-HT.bT xs.length 0 lo),i8 _ rfl⟩
theorem Xn:cA X (.builtin "len") (λxs H Q=>∃p ys,xs=[.ref p]/\(cJ X.K H p ys\/dh X.K H p ys)/\Q (.int ys.length) H):=by
 intro pins s σ H xs us Q I r h;obtain⟨p,ys,rfl,hq,q⟩:=h;obtain⟨u,rfl,rx⟩:=vals1 r;cases rx;have hn:=Bv;rcases hq with hq|hq
 obtain⟨its,r',pl,hz⟩:=I.list hq;have hlen:=r'.length;exact Calls.call_len_list pl.isList (by simp only[eG]<;>lia) ⟨.int ys.length,H,I.tok _,⟨s.toks+1,by rw[eG,hlen]⟩,q⟩;obtain⟨its,r',pl,hz⟩:=I.tuple hq;have hlen:=r'.length;exact len_tuple pl (by simp only[eG]<;>lia) ⟨.int ys.length,H,I.tok _,⟨s.toks+1,by rw[eG,hlen]⟩,q⟩
theorem cA.or{f:af}{r r':List V->Hp->VK->Prop}(h:cA X f r)(h':cA X f r'):cA X f (λxs H Q=>r xs H Q\/r' xs H Q):=by
 intro pins s σ H xs us Q I rs q;rcases q with q|q
 exact h pins s σ H xs us Q I rs q;exact h' pins s σ H xs us Q I rs q
theorem Xo:cA X (.type "list") (λxs H Q=>∃p ys,xs=[.ref p]/\(cJ X.K H p ys\/dh X.K H p ys)/\∀l,H l=aD->Q (.ref l) (upd H l (.lst ys))):=by
 intro pins s σ H xs us Q I r h;obtain⟨p,ys,rfl,hq,q⟩:=h;obtain⟨u,rfl,rx⟩:=vals1 r;cases rx;have fin:∀(its:List af),Vals ys its->ys.length<=sizeLine->∀(h':aA)(c':Nat),(∀b o',s.heap.get? b=aC o'->h'.get? b=aC o')->
  h'.get? s.heap.objs.size=aC {cls:=.type "list",dict:=aD,data:=.seq its.toArray c',slots:=#[]}->EP X pins σ Q (.ref s.heap.objs.size) {s with heap:=h'}:=λits r' hz h' c' kp e=>
  ⟨.ref s.heap.objs.size,_,I.laid (t':=s.toks) kp (aZ _) (show br X.prog X.w _ h' _ (.lst ys)from⟨hz,its,c',r',e⟩),rfl,q _ (I.hok.fresh (aZ _))⟩
 rcases hq with hq|hq;obtain⟨its,r',pl,hz⟩:=I.list hq;have hlen:=r'.length;obtain⟨o,ho,hc,n,hd⟩:=pl.isList;exact call_list_seq p (.inl rfl) ho hc hd (λh' c' kp e=>fin its r' hz h' c' kp e) (by simp only[eG]<;>lia);obtain⟨its,r',pl,hz⟩:=I.tuple hq;have hlen:=r'.length;obtain⟨o,ho,hc,n,hd⟩:=pl;exact call_list_seq p (.inr rfl) ho hc hd (λh' c' kp e=>fin its r' hz h' c' kp e) (by simp only[eG]<;>lia)
theorem Xp:cA X (.type "tuple") (λxs H Q=>∃p ys,xs=[.ref p]/\((cJ X.K H p ys/\∀l,H l=aD->Q (.ref l) (upd H l (.tup ys)))\/(dh X.K H p ys/\Q (.ref p) H))):=by
 intro pins s σ H xs us Q I r h;obtain⟨p,ys,rfl,h⟩:=h;obtain⟨u,rfl,rx⟩:=vals1 r;cases rx;rcases h with⟨hq,q⟩|⟨hq,q⟩
 obtain⟨its,r',pl,hz⟩:=I.list hq;have hlen:=r'.length;refine call_tuple_list pl.isList (λh' kp=>?_) (by simp only[eG]<;>lia);have I1:Inv X pins σ H {s with heap:=h'}:=I.kept (t':=s.toks) kp;have I2:Inv X pins σ (upd H h'.objs.size (.tup ys)) {s with heap:=h'.push {cls:=.type "tuple",data:=.seq its.toArray}}:=
  I1.laid (t':=s.toks) (λb o e=>cH _ e) (aZ _) (show br X.prog X.w _ _ _ (.tup ys)from⟨hz,its,r',lV.new _ _⟩)
 exact⟨.ref h'.objs.size,_,I2,rfl,q _ (I1.hok.fresh (aZ _))⟩;obtain⟨its,r',pl,hz⟩:=I.tuple hq;exact call_tuple_same pl ⟨.ref p,H,I,rfl,q⟩
noncomputable def QO(K:aI)(T:String)(x:V)(H:Hp):Prop:=match x with
 |.str _=>T = "str"
 |.int _=>T = "int"
 |.ref p=>(T = "list"/\∃xs,cJ K H p xs)\/(T = "tuple"/\∃xs,dh K H p xs)\/
  (T = "dict"/\((∃kvs,H p=aC (.dK kvs))\/∃kvs,H p=aC (.dT kvs)))\/(T = "set"/\∃S n,H p=aC (.set S n))
 |_=>False
theorem Xq{pins:List (ai×Obj)}{σ:St}{H:Hp}{s:ah}{T:String}{x:V}{v:af}(I:Inv X pins σ H s)(r:RelV x v)(ty:QO X.K T x H) :
 s.TypeIs v T/\∀a,v=.ref a->∃ob,s.heap.get? a=aC ob/\ob.dict=aD:=by
 cases x with
 |str z=>
  obtain⟨t,rfl⟩:=r;cases(show T = "str"from ty);exact⟨typeIs_str s z t,λ_ e=>nomatch e⟩
 |int i=>
  obtain⟨t,rfl⟩:=r;cases(show T = "int"from ty);exact⟨typeIs_int s i t,λ_ e=>nomatch e⟩
 |ref p=>
  cases r;rcases ty with⟨rfl,xs,hq⟩|⟨rfl,xs,hq⟩|⟨rfl,hk⟩|⟨rfl,S,n,hk⟩
  obtain⟨its,_,pl,_⟩:=I.list hq;refine⟨pl.isList.typeIs,λa e=>?_⟩;cases e;obtain⟨o,n,e,c,hd,_⟩:=pl;exact⟨o,e,hd⟩;obtain⟨its,_,⟨o,h1,h2,_,h3⟩,_⟩:=I.pX hq;refine⟨⟨o,h1,h2⟩,λa e=>?_⟩;cases e;exact⟨o,h1,h3⟩;have z:∃o,s.heap.get? p=aC o/\o.ExactDict:=by rcases hk with⟨kvs,hk⟩|⟨kvs,hk⟩;obtain⟨_,_,_,_,o,_,_,e,ex,_⟩:=I.hok p _ hk;exact⟨o,e,ex⟩;obtain⟨_,_,_,_,o,_,_,e,ex,_⟩:=I.hok p _ hk;exact⟨o,e,ex⟩
  obtain⟨o,e,ex⟩:=z;refine⟨⟨o,e,ex.1⟩,λa e2=>?_⟩;cases e2;exact⟨o,e,ex.2.1⟩;obtain⟨o,_,_,_,e,ex,_⟩:=I.hok p _ hk;refine⟨⟨o,e,ex.1⟩,λa e2=>?_⟩;cases e2;exact⟨o,e,ex.2.1⟩
 |_=>exact False.elim ty
noncomputable def Xr(K:aI)(T:String)(r:V->List V->Hp->VK->Prop)(to:TE)(t:TA):TE:=λσ H Q=>to σ H λx H1=>QO K T x H1/\t σ H1 λxs H2=>r x xs H2 Q
variable{o e:aq}{es:List aq}{to:TE}{t:TA}{name:Str}{apos cpos:Pos}{T id:String}{r:V->List V->Hp->VK->Prop}
theorem mX(pa:PlainAttrs T)(slot:Slot T name id)(hty:typeOf (.builtin id)=pure (.type "method_descriptor"))(hm:F0 X id r)(ho:PE X o to)(ha:PA X (e::es) t)
 (hbase:autoParam (attributeBase o name X.env (eval o X.env)=eval o X.env) L2.aR1._auto_1)
 (hfew:autoParam (((backTo cpos (starEach (e::es) X.env)).all (λx=>!x.1)&& (backToKw cpos (keywordEach [] X.env)).all (λx=>x.1.isSome)
   && decide ((e::es).length+ ([]:List Keyword).length+ (if([]:List Keyword).isEmpty then 0 else 1)<30))=true) L2.aR1._auto_1)
 (hline:autoParam ((apos.endLine==cpos.line)=true) L2.aR1._auto_1) (hs:autoParam (starEach (e::es) X.env=(false,eval e X.env)::starEach es X.env) L2.aR1._auto_1) (hplain:autoParam ((backTo cpos (starEach es X.env)).any (·.1)=false) L2.aR1._auto_1) :
 PE X (.Call (.Attribute o name apos) (e::es) [] cpos) (Xr X.K T r to t):=by
 intro pins s σ H Q I h;refine wpAny_Call_method_late hbase hfew hline rfl (bg (ho pins s σ H _ I h) λv s1 z9=>z9.el λx H1 I1 r1 cj=>?_);obtain⟨ty,q1⟩:=cj;obtain⟨h1,h2⟩:=Xq I1 r1 ty;refine⟨T,id,pa,slot,hty,h1,h2,?_⟩;have hA:=ha cpos pins s1 σ H1 _ I1 q1;rw[hs]at hA ⊢;refine Calls.callWith_builtin (by show(false|| (backTo cpos (starEach es X.env)).any (·.1))=false;rw[hplain]<;>rfl) (Calls.evalArgs_plain ?_);exact bg hA λus s2 z9=>z9.el λvs H2 I2 r2 q2=>hm pins s2 σ H2 x vs v us Q I2 r1 r2 q2
/- xs.append(e),list.index on a BG tuple .. are F0 facts of 06m -/
end
noncomputable def QS(X:Cx)(id:String)(r:V->List V->Hp->VK->Prop):Prop:=
 ∀(pins:List (ai×Obj))(s:ah)(σ:St)(H:Hp)(x:V)(xs:List V)(v:af)(us:List af)(Q:VK),Inv X pins σ H s->RelV x v->Vals xs us->r x xs H Q->
  wpAny (model X.prog X.w) X.A (call (.builtin id) (v::us)) (EP X pins σ Q) X.xe s
theorem Vals.one:∀{x:V} {us:List af},Vals [x] us->∃u,us=[u]/\RelV x u|_,_,.cons r .nil=>⟨_,rfl,r⟩
theorem Vals.rep{xs:List V}{us:List af}(h:Vals xs us):∀k:Nat,Vals (bN k xs).flatten (bN k us).flatten
 |0=>.nil
 |k+1=>by
  rw[sP,sP,uR,uR];exact Vals.append h (Vals.rep h k)
theorem QT(its:List af):∀(k:Nat) (acc:List af),
 List.foldl (λx1 x2=>x1++x2) acc.toArray (bN k its.toArray)=(acc++(bN k its).flatten).toArray
 |0,acc=>by simp
 |k+1,acc=>by
  have e:acc.toArray++its.toArray=(acc++its).toArray:=by simp
  have e2:(acc++its)++(bN k its).flatten=acc++(bN (k+1) its).flatten:=by rw[sP,uR,AI]
  rw[<-e2,<-QT its k (acc++its),<-e,sP,mQ]
section
variable{X:Cx}{pins:List (ai×Obj)}{σ:St}{H:Hp}{s:ah}{l b:ai}{xs ys zs:List V}
theorem Inv.BH{its its':List af}{n:Nat}{f:Array af->Array af}{t':Nat}(I:Inv X pins σ H s)(hH:H l=aC (.lst xs))
 (e:s.heap.get? l=aC {cls:=.type "list",data:=.seq its.toArray n}) (hf:f its.toArray=its'.toArray) (hv:Vals ys its') (hz:ys.length<=sizeLine) :
 Inv X pins σ (upd H l (.lst ys)) {s with heap:=s.heap.update l (Obj.mapSeq f),toks:=t'}:=by
 have q:=PySem.IsL.update e f;rw[hf]at q;refine I.write (x:=l) (e:=l) (by rw[hH];exact trivial) (.inl rfl) (λb' u hb hu=>(wX s.heap (Obj.mapSeq f) (eT hb)).trans hu) ⟨_,q⟩ ?_;exact⟨hz,its',_,hv,q⟩
theorem Inv.IW{its:List af}{t':Nat}(I:Inv X pins σ H s)(hv:Vals ys its)(hz:ys.length<=sizeLine) :
 Inv X pins σ (upd H s.heap.objs.size (.lst ys)) {s with heap:=s.heap.push {cls:=.type "list",data:=.seq its.toArray},toks:=t'}:=
 I.laid (λ_ _ q=>cH _ q) (aZ _) ⟨hz,its,0,hv,i8 _ rfl⟩
theorem Inv.fresh(I:Inv X pins σ H s):H s.heap.objs.size=aD:=I.hok.fresh (aZ _)
theorem Inv.ie(I:Inv X pins σ H s)(hH:H l=aC (.lst xs)):xs.length<=sizeLine/\∃(its:List af) (n:Nat),Vals xs its/\xs.length=its.length/\s.heap.get? l=aC {cls:=.type "list",data:=.seq its.toArray n}:=by obtain⟨z,its,n,r,e⟩:=I.hok l _ hH;exact⟨z,its,n,r,r.length,e⟩
theorem Xs{n:Nat}(h:n<=sizeLine):Builtin.List.listTooLong n=false:=by unfold Builtin.List.listTooLong;exact jt (by lia)
end
section
variable{X:Cx}
noncomputable def Xu:V->List V->Hp->VK->Prop:=λx vs H Q=>∃l xs y,x=.ref l/\vs=[y]/\H l=aC (.lst xs)/\xs.length<sizeLine/\Q .aL (upd H l (.lst (xs++[y])))
theorem QU:QS X "list.append" Xu:=by intro pins s σ H x vs v us Q I rx rv h;obtain⟨l,xs,y,rfl,rfl,hH,hz,q⟩:=h;cases rx;obtain⟨u,rfl,ru⟩:=rv.one;obtain⟨z,its,n,r,hl,e⟩:=I.ie hH;refine rM F.slot_list_append ⟨_,e,rfl⟩ F.entry_list_append (F.args_list_append_2 _ _) (PySem.list_append l its.toArray n u (by rw[eG];lia)) ⟨e,?_⟩;refine⟨.aL,_,I.BH (its':=its++[u]) hH e (by simp) (r.append (.cons ru .nil)) ?_,rfl,q⟩;rw[fC,uN];lia
noncomputable def zz8:V->List V->Hp->VK->Prop:=λx vs H Q=>∃l b xs zs,x=.ref l/\vs=[.ref b]/\H l=aC (.lst xs)/\H b=aC (.lst zs)/\xs.length+zs.length<=sizeLine/\Q .aL (upd H l (.lst (xs++zs)))
noncomputable def BI:R2:=λx y H Q=>∃l b xs zs,x=.ref l/\y=.ref b/\H l=aC (.lst xs)/\H b=aC (.lst zs)/\xs.length+zs.length<=sizeLine/\∀p,H p=aD->Q (.ref p) (upd H p (.lst (xs++zs)))
theorem IX:dU X (binaryOp .Add) BI:=by
 intro pins s σ H x y v u Q I rx ry h;obtain⟨l,b,xs,zs,rfl,rfl,hH,hB,hz,q⟩:=h;cases rx;cases ry;obtain⟨z,its,n,r,hl,e⟩:=I.ie hH;obtain⟨z2,its2,n2,r2,hl2,e2⟩:=I.ie hB;refine PySem.P.add_list e e2 ?_ (by rw[eG,eG];lia);have ea:its.toArray++its2.toArray=(its++its2).toArray:=by simp
 rw[ea];exact⟨.ref _,_,I.IW (t':=s.toks) (r.append r2) (by rw[fC];lia),rfl,q _ I.fresh⟩
theorem QV{α:Type}(xs:List α)(k:Nat):(bN k xs).flatten.length=k*xs.length:=by
 induction k with|zero=>simp|succ k ih=>rw[sP,uR,fC,ih,Nat.succ_mul,Nat.add_comm]
end
end L2
namespace QW
open PySem PySem.W PySem.Calls PyProof.Rows
theorem Xv{P:Params}{h:aA}:∀(ns:List Int) (vs:List af),WellAll P h vs (ns.map WData.int)->IntsAre vs ns:=by
 intro ns;induction ns with
 |nil=>
  intro vs w;rw[AJ]at w;cases w;exact .nil
 |cons n ns ih=>
  intro vs w;rw[fD]at w;cases w with
  |cons a b=>
   cases a;exact .cons _ _ (ih _ b)
theorem Xw{l:OpenLaw}{n:Nat}(hn:l.most=aC n){P:Params}{h:aA}{args:List WData}{vals:List af}
 (hpre:l.row.toRowW.claim.pre args) (hwl:WellAll P h vals args) :
 ∃a vs ns,vals=[Value.ref a]/\args=[WData.list (ns.map WData.int)]/\h.get? a=aC {cls:=.type "list",data:=.seq vs.toArray}/\IntsAre vs ns/\ns.length<=n:=by
 have hsh:WShape.hasAll [] args [.list .int]=true:=(pre_splitW hpre).1;have hc:l.pre.holds [] {args:=args}=true:=(pre_splitW hpre).2;obtain⟨d,r,rfl,h1,h2⟩:=hasAllW_cons hsh;obtain rfl:=hasAllW_nil h2;obtain⟨xs,rfl,h3⟩:=hasW_list h1;obtain⟨ns,rfl⟩:=items_int h3;have hlen:ns.length<=n:=by
  unfold OpenLaw.pre at hc;have h4:(WTm.not (.lt (.lit (.int (n:Int))) (.len (.arg 0)))).holds [] {args:=[.list (ns.map .int)]}=true:=by have h4:=(holds_andW hc).1;rw[hn]at h4;exact h4
  have h5:=condW_of h4 (w_not (w_lt w_lit (w_len_list (w_arg rfl))));rw[bG]at h5;refine Nat.le_of_not_lt λq=>?_;have q':(n:Int)< ((ns.length:Nat):Int):=by lia
  first
   |(rw[iT q']at h5;exact absurd h5 (by decide))
   |(simp at h5;lia)
 cases hwl with
 |cons w1 w2=>
  cases w2;cases w1 with|list ho hall=>exact⟨_,_,ns,rfl,rfl,ho,Xv ns _ hall,hlen⟩
theorem Xx(l:OpenLaw)(args:List WData):l.row.toRowW.claim.post args (.bool true) args=true:=
 postW_of (r:=l.row.toRowW) (X:=(true==true))
  (show WShape.has [] (.bool true) .bool=true by first|rfl|decide|simp[WShape.has,WShape.arms,WShape.armsAll])
  (show(WTm.eq .res (.lit (.bool true))).value [] {args:=args,res:=aC (.bool true),after:=args}=aC (.bool (true==true))from w_eq_bool (w_res rfl) w_lit) rfl
theorem kI{l:OpenLaw}{n:Nat}{q:aj}{loose:List Str}{XP:(Str->Option af)->aA->Prop}{YP:ak->aA->Prop}{d:DefRec}
 (hn:l.most=aC n) (hdf:d.params.defaults=[])
 (call:∀(w:ak)(s₀ s₁:ah)(mg mb:Str->Option af)(fa:ai)(o:Obj)(pm cd doc:af)(a:ai)(vs:List af)(ns:List Int),
   Ground q loose [] XP w s₀ mg mb s₁.heap->YP w s₁.heap->
   s₁.heap.get? fa=aC o->o.data=.func (docDef d.name d.params d.body d.scope pm cd doc)->s₁.heap.CodeRec cd d.name->mg d.name=aC (.ref fa)->
   s₁.heap.get? a=aC {cls:=.type "list",data:=.seq vs.toArray}->IntsAre vs ns->ns.length<=n->s₁.gens = #[]->
   codeAny (model l.prog w) callerA (.call (.ref fa) ⟨[.ref a],[]⟩) (λr s'=>r=.ok (.ret (.bool true))/\OldK s₁.heap s'.heap/\s'.os=s₁.os/\AllBare s'.gens) s₁) :
 WalkO q loose XP YP l.row.toRowW d [] (λf vs=>PySem.call f vs):=by
 intro w s₀ s₁ mg mb G Y fa o pm cd doc dV kV ho hd hcd hD hmg hg args vals as hpre hlay hrd hwl hlo;obtain rfl:dV=.none:=Dflts.none hD hdf;obtain rfl:kV=.none:=Dflts.noKw hD;obtain⟨a,vs,ns,rfl,rfl,hobj,hints,hlen⟩:=Xw hn hpre hwl;refine enter_call (AG (call w s₀ s₁ mg mb fa o pm cd doc a vs ns G Y ho (fd_plain hd) hcd hmg hobj hints hlen hg) λr s' hq=>?_);obtain⟨rfl,h2,h3,h4⟩:=hq;exact⟨.inl ⟨.bool true,.bool true,[],rfl,λ_=>rfl,.bool true,Xx l _,λ_=>⟨List.Pairwise.nil,λ_ hm=>(nomatch hm)⟩⟩,h2,h3,h4⟩
end QW
namespace L2
open PySem PySem.Spec PyProof.Rows
theorem QX:∀{vs:List af} {ns:List Int},IntsAre vs ns->Vals (ns.map V.int) vs|_,_,.nil=>.nil|_,_,.cons n t h=>.cons ⟨t,rfl⟩ (QX h)
noncomputable def xH(H:Hp):Prop:=∀b,H b=aD\/∃o xs,H b=aC (.bS o (.lst xs))
theorem Xy{P:aj}{w:ak}{K:aI}{mg mb:Str->Option af}{CX:nZ}{k:Nat}{fa a:ai}{fd:av}{x:Str}{sp:Sp}{s₁:ah}{vs:List af}{ns:List Int}
 (KX:K.In s₁.heap) (hns:s₁.heap.Ns mainGlobals mg) (hb:s₁.heap.Ns builtinsNs mb) (IY:∀x:Str,x≠"__name__"->mb x=bootBuiltins x) (hlim:s₁.heap.NoLimit) (hg:s₁.gens = #[])
 (ha:s₁.heap.get? a=aC {cls:=.type "list",data:=.seq vs.toArray}) (hi:IntsAre vs ns) (hl:ns.length<=sizeLine) (hr:cu k callerA)
 (F:∀base:aA,K.In base->base.Ns mainGlobals mg->dZ P w K mg base CX k fa fd [x] sp) (hbind:∀(s:ah)(u:af),BindsTo s fd ⟨[u],[]⟩ [(x,u)])
 (kG:∀H:Hp,xH H->cJ K H a (ns.map V.int)->sp [.ref a] H (λv _=>v=.bl true) λ_ _ _=>False)
 (IZ:∀H e s',CX [] H s₁ (λ_ _ _=>False) e s'->False) :
 codeAny (model P w) callerA (.call (.ref fa) ⟨[.ref a],[]⟩) (λr s'=>r=.ok (.ret (.bool true))/\OldK s₁.heap s'.heap/\s'.os=s₁.os/\AllBare s'.gens) s₁:=by
 have rv:=QX hi;have I0:=hi.length;have core:∀H:Hp,xH H->cJ K H a (ns.map V.int)->eE P w H s₁.heap->(∀b,H b≠aD->b=a)->(H a≠aD->K.lookup a=aD)->
  codeAny (model P w) callerA (.call (.ref fa) ⟨[.ref a],[]⟩) (λr s'=>r=.ok (.ret (.bool true))/\OldK s₁.heap s'.heap/\s'.os=s₁.os/\AllBare s'.gens) s₁:=by
  intro H hO hS hok hA hK;have base_of:∀{b:ai}{o:Obj},s₁.heap.get? b=aC o->H b=aD->(jS s₁.heap H).get? b=aC o:=λe n=>VU e n;have By:∀{b:ai}{o:Obj}{es:Array DictEntry}{ep:Nat},s₁.heap.get? b=aC o->o.data=.dict es ep->H b=aD:=λ{b o es ep} e d=>by
   cases q:H b with
   |none=>rfl
   |some u=>
    have e':b=a:=hA b (by rw[q];simp);subst e';rw[ha]at e;cases e;have d':Data.seq vs.toArray _=Data.dict es ep:=d;cases d'
  have F1:∀{b:ai}{m:Str->Option af},s₁.heap.Ns b m->(jS s₁.heap H).Ns b m:=λ{b m}⟨o,es,ep,e,d,r⟩=>⟨o,es,ep,base_of e (By e d),d,r⟩
  have QY:K.In (jS s₁.heap H):=λb o e=>base_of (KX b o e) (by
   cases q:H b with
   |none=>rfl
   |some u=>
    have e':b=a:=hA b (by rw[q];simp);subst e';rw[hK (by rw[q];simp)]at e;cases e)
  have hM:Mod K mg (jS s₁.heap H):=⟨QY,F1 hns,⟨mb,F1 hb,IY⟩,let⟨mc,h1,h2⟩:=hlim;⟨mc,F1 h1,h2⟩⟩
  have e0:qc P w K mg (jS s₁.heap H) callerA [] s₁ H:=⟨rfl,hM,λb o e=>VW e,zz (VT _ _),trivial,λb hb=>absurd (show b∈([]:List ai)from hb) (by simp),hok,.of_eq hg⟩
  refine AG ((F _ QY (F1 hns)).run callerA [] s₁ H ⟨[.ref a],[]⟩ [.ref a] [.ref a] _ _ hr e0 (hbind s₁ (.ref a)) (.cons rfl .nil) (kG H hO hS)) λr s' h=>?_;cases r with
  |error e=>exact(IZ H e s' h).elim
  |ok fl=>
   cases fl with
   |next=>exact False.elim h
   |brk=>exact False.elim h
   |cont=>exact False.elim h
   |ret u=>
    obtain⟨v,H',os,bare,un,Ja,r',q⟩:=h;have q':v=.bl true:=q;subst q';obtain rfl:u=Value.bool true:=r';refine⟨rfl,OldK.of_keep λb o e=>?_,os,bare⟩;cases q:H b with
    |none=>exact un.keep b o e q (by intro z;exact absurd (show b∈([]:List ai)from z) (by simp)) (by simp)
    |some u=>
     rcases hO b with z|⟨ob,xs,z⟩;rw[q]at z;cases z;have z2:=un.iL b ob _ z;obtain⟨e1,_⟩:=hok b _ z;obtain⟨e2,_⟩:=Ja b _ z2;rw[e]at e1;cases e1;exact e2
 cases hk:K.lookup a with
 |some o=>
  have e:=KX a o hk;rw[ha]at e;cases e;refine core (λ_=>aD) (λ_=>.inl rfl) (.inr ⟨_,vs.toArray,_,hk,rfl,rfl,rfl,by rw[eG,I0];exact hl,by simpa using rv⟩) (λb u z=>by have z':(aD:Option HO)=aC u:=z;cases z') (λb z=>absurd rfl z) λz=>absurd rfl z
 |none=>
  refine core (λb=>if b=a then aC (.bS {cls:=.type "list",data:=.seq vs.toArray} (.lst (ns.map V.int)))else aD) (λb=>?_) (.inl (.inr ⟨{cls:=.type "list",data:=.seq vs.toArray},if_pos rfl⟩)) (λb u z=>?_) (λb z=>?_) λ_=>hk;by_cases hb:b=a;exact .inr ⟨_,_,if_pos hb⟩;exact .inl (if_neg hb);by_cases hb:b=a;have z':=(if_pos hb).symm.trans z;cases z';subst hb;exact⟨ha,by rw[bG];exact hl,vs,_,rv,ha⟩;have z':=(if_neg hb).symm.trans z;cases z';by_cases hb:b=a;exact hb;exact absurd (if_neg hb) z
theorem Xz{l:PySem.W.OpenLaw}{n k:Nat}{q:aj}{loose:List Str}{XP:(Str->Option af)->aA->Prop}{YP:ak->aA->Prop}{d:DefRec}{K:Params->aI}{CX:ak->nZ}{sp:ak->Sp}{x:Str}
 (hn:l.most=aC n) (hn2:n<=sizeLine) (hdf:d.params.defaults=[]) (hr:cu k callerA)
 (hY:∀(w:ak)(h:aA),YP w h->(K w.params).In h)
 (F:∀(w:ak)(mg:Str->Option af)(fa:ai)(h:aA),(K w.params).In h->h.Ns mainGlobals mg->mg d.name=aC (.ref fa)->
   ∃fd:av,(∀(s:ah)(u:af),BindsTo s fd ⟨[u],[]⟩ [(x,u)])/\
    ∀base:aA,(K w.params).In base->base.Ns mainGlobals mg->dZ l.prog w (K w.params) mg base (CX w) k fa fd [x] (sp w))
 (kG:∀(w:ak)(H:Hp)(a:ai)(ns:List Int),ns.length<=n->xH H->cJ (K w.params) H a (ns.map V.int)->sp w [.ref a] H (λv _=>v=.bl true) λ_ _ _=>False)
 (IZ:∀(w:ak)(H:Hp)(s:ah)(e:af)(s':ah),CX w [] H s (λ_ _ _=>False) e s'->False) :
 PySem.W.WalkO q loose XP YP l.row.toRowW d [] (λf vs=>PySem.call f vs):=by
 refine QW.kI hn hdf λw s₀ s₁ mg mb fa o pm cd doc a vs ns G Y ho hd hcd hmg hobj hints hlen hg=>?_;have KX:=hY w _ Y;obtain⟨fd,hb,hF⟩:=F w mg fa _ KX G.T.g hmg;exact Xy KX G.T.g G.T.b G.T.builtins G.T.nolimit hg hobj hints (eS hlen hn2) hr hF hb (λH hO hS=>kG w H a ns hlen hO hS) λH e s'=>IZ w H s₁ e s'
noncomputable def XA(s:au):Arguments:=match s with|.FunctionDef _ a _ _ _ _ _ _ _ _=>a|_=>{posonlyargs:=[],args:=[],vararg:=aD,kwonlyargs:=[],kw_defaults:=[],kwarg:=aD,defaults:=[]}
noncomputable def zP(s:au):List au:=match s with|.FunctionDef _ _ b _ _ _ _ _ _ _=>b|_=>[]
noncomputable def iM(s:au):az:=match s with|.FunctionDef _ _ _ _ _ _ sc _ _ _=>sc|_=>{kind:=.function,names:=[],isGenerator:=false,isCoroutine:=false}
noncomputable abbrev lF:nZ:=λ_ _ _ _ _ _=>False
noncomputable abbrev E0:XK:=λ_ _ _=>False
theorem qf{X:Cx}:FY lF X E0:=λ_ _ _ _ _ _ _ h=>h.elim
theorem Jb{n:Nat}(h:n<=1000):n<sizeLine:=AK h (by decide)
theorem Jc{A B:Prop}(h:B):if false=true then A else B:=by rw[if_neg lD];exact h
noncomputable def ki(cells:List (Str×ai)):List (Str×NameKind)->List (Str×ai)->List (Str×ai)|[],cs=>cs|(n,k)::r,cs=>ki cells r (if k == .free then(match cells.lookup n with|some c=>(n,c)::cs|none=>cs)else cs)
theorem QZ{scope:az}{env:Env}(hf:∀y∈scope.names,y.2=.free->∃c,env.cells.lookup y.1=aC c):closureFor scope env=pure (ki env.cells scope.names []):=by
 have go:∀(l:List (Str×NameKind))(cs:List (Str×ai)),(∀y∈l,y.2=.free->∃c,env.cells.lookup y.1=aC c)->
  (forIn l cs λ(x:Str×NameKind)(r:List (Str×ai))=>(match x with
    |(name,kind)=>if(kind==NameKind.free)=true then(do let a <-cellOf env name;pure (ForInStep.yield ((name,a)::r)))else pure (ForInStep.yield r):Sem (ForInStep (List (Str×ai)))))=(pure (ki env.cells l cs):Sem (List (Str×ai))):=by
  intro l;induction l with
  |nil=>intro cs _;rfl
  |cons x r ih=>
   intro cs h;obtain⟨n,k⟩:=x;rw[Fq];by_cases hk:(k==NameKind.free)=true;have hk':k=.free:=by simpa using hk
   obtain⟨c,hc⟩:=h (n,k) gj hk';have hc':env.cells.lookup n=aC c:=hc;simp only[hk,dg,cellOf,hc',ki];exact ih _ λy hy=>h y (fS _ hy);have hk':(k==NameKind.free)=false:=by simpa using hk
   simp only[hk',gY,fM,ki];exact ih _ λy hy=>h y (fS _ hy)
 have e:=go scope.names [] hf;unfold closureFor;refine Eq.trans (jQ (λt=>t >>= λcs=>pure cs) e) ?_;rfl
theorem Jd{cells:List (Str×ai)}:∀(l:List (Str×NameKind)) (cs:List (Str×ai)),(∀x c,cs.lookup x=aC c->cells.lookup x=aC c)->∀x c,(ki cells l cs).lookup x=aC c->cells.lookup x=aC c
 |[],cs,h=>h
 |(n,k)::r,cs,h=>Jd r _ λx c e=>by
  by_cases hk:(k==NameKind.free)=true;simp only[hk,dg]at e;cases hc:cells.lookup n with
  |none=>rw[hc]at e;exact h x c e
  |some d=>
   rw[hc]at e;simp only[gQ]at e;by_cases hx:(x==n)=true;simp only[hx]at e;cases e;rw[show x=n by simpa using hx];exact hc;have hx':(x==n)=false:=by simpa using hx
   simp only[hx']at e;exact h x c e
  have hk':(k==NameKind.free)=false:=by simpa using hk
  simp only[hk',gY,fM]at e;exact h x c e
theorem Q0{cells:List (Str×ai)}{x:Str}{c:ai}(hc:cells.lookup x=aC c):∀(l:List (Str×NameKind)) (cs:List (Str×ai)),cs.lookup x=aC c->(ki cells l cs).lookup x=aC c
 |[],cs,h=>h
 |(n,k)::r,cs,h=>Q0 hc r _ (by
  by_cases hk:(k==NameKind.free)=true;simp only[hk,dg];cases hn:cells.lookup n with
  |none=>exact h
  |some d=>
   simp only[gQ];by_cases hx:(x==n)=true;have:x=n:=by simpa using hx
   subst this;rw[hc]at hn;cases hn;simp;have hx':(x==n)=false:=by simpa using hx
   simp only[hx'];exact h
  have hk':(k==NameKind.free)=false:=by simpa using hk
  simp only[hk',gY,fM];exact h)
theorem Je{cells:List (Str×ai)}{x:Str}{c:ai}(hc:cells.lookup x=aC c):∀(l:List (Str×NameKind)) (cs:List (Str×ai)),(x,NameKind.free)∈l->(ki cells l cs).lookup x=aC c
 |[],cs,h=>by cases h
 |(n,k)::r,cs,h=>by
  rcases eO.mp h with e|e;cases e;refine Q0 hc r _ ?_;rw[hc];simp[gQ];exact Je hc r _ e
theorem Jf{x:Str}:∀(l:List (Str×NameKind)) (a:Nat) (acc:List (Str×ai)),(x,NameKind.cell)∉l->(cellsFrom a l acc).lookup x=acc.lookup x
 |[],_,_,_=>rfl
 |(n,k)::r,a,acc,h=>by
  unfold cellsFrom;have hr:(x,NameKind.cell)∉r:=λz=>h (fS _ z);split;rename_i hk;have hk:k=.cell:=by simpa using hk
  rw[Jf r _ _ hr,gQ];have:(x==n)=false:=by rw[E4];rintro rfl;exact h (by rw[hk];exact gj)
  rw[this];exact Jf r _ _ hr
theorem F2{x:Str}{c:ai}:∀(l:List (Str×NameKind)) (a:Nat) (acc:List (Str×ai)),(cellsFrom a l acc).lookup x=aC c->acc.lookup x=aC c\/a<=c
 |[],_,_,h=>.inl h
 |(n,k)::r,a,acc,h=>by
  unfold cellsFrom at h;split at h;rcases F2 r _ _ h with h|h
  rw[gQ]at h;split at h;cases h;exact .inr (aZ _);exact .inl h;exact .inr (zx h);exact F2 r _ _ h
theorem F3{x:Str}:∀(l:List (Str×NameKind)) (a:Nat) (acc:List (Str×ai)),(∃c,acc.lookup x=aC c)->∃c,(cellsFrom a l acc).lookup x=aC c
 |[],_,_,h=>h
 |(n,k)::r,a,acc,h=>by
  unfold cellsFrom;split;refine F3 r _ _ ?_;rw[gQ];split;exact⟨_,rfl⟩;exact h;exact F3 r _ _ h
theorem Jg{x:Str}:∀(l:List (Str×NameKind)) (a:Nat) (acc:List (Str×ai)),(x,NameKind.cell)∈l->∃c,(cellsFrom a l acc).lookup x=aC c
 |[],_,_,h=>by cases h
 |(n,k)::r,a,acc,h=>by
  unfold cellsFrom;rcases eO.mp h with e|e
  cases e;rw[if_pos (by rfl)];exact F3 r _ _ ⟨a,by simp[gQ]⟩;split;exact Jg r _ _ e;exact Jg r _ _ e
theorem Jh{acc:List (Str×ai)}:∀(l:List (Str×NameKind)) (a:Nat) (acc:List (Str×ai)),(∀x y c,acc.lookup x=aC c->acc.lookup y=aC c->x=y)->(∀x c,acc.lookup x=aC c->c<a)->
 ∀x y c,(cellsFrom a l acc).lookup x=aC c->(cellsFrom a l acc).lookup y=aC c->x=y
 |[],_,_,h,_=>h
 |(n,k)::r,a,acc,h,hl=>by
  unfold cellsFrom;split;refine Jh (acc:=acc) r _ _ (λx y c e1 e2=>?_) λx c e=>?_;rw[gQ]at e1 e2;cases b1:x==n<;>cases b2:y==n<;>simp only[b1,b2]at e1 e2;exact h x y c e1 e2;cases e2;exact absurd (hl x _ e1) (g9 _);cases e1;exact absurd (hl y _ e2) (g9 _);rw[lC.mp b1,lC.mp b2];rw[gQ]at e;cases b1:x==n<;>simp only[b1]at e;exact zy (hl x c e);cases e;exact jF _;exact Jh (acc:=acc) r _ _ h hl
theorem Ji{x:Str}{c:ai}:∀(l:List (Str×NameKind)) (h:aA) (acc:List (Str×ai)),(cellsFrom h.objs.size l acc).lookup x=aC c->h.objs.size<=c->(∀y d,acc.lookup y=aC d->h.objs.size<=d->h.IsCell d aD)->(pushCells h l).IsCell c aD
 |[],h,acc,e,hc,ha=>ha x c e hc
 |(n,k)::r,h,acc,e,hc,ha=>by
  unfold cellsFrom at e;unfold pushCells;split at e;rename_i hk;rw[if_pos hk];by_cases z:h.objs.size+1<=c;refine Ji r (h.push {cls:=.type "cell",data:=.cell aD}) ((n,h.objs.size)::acc) (by rw[kg];exact e) (by rw[kg];exact z) λy d e1 e2=>?_;rw[kg]at e2;rw[gQ]at e1;cases b1:y==n<;>simp only[b1]at e1;exact(ha y d e1 (zx e2)).keeps λb o q=>cH _ q;cases e1;exact absurd e2 (Nat.not_succ_le_self _);have hce:c=h.objs.size:=Nat.le_antisymm (Nat.le_of_lt_succ (Nat.lt_of_not_le z)) hc;have:(h.push {cls:=.type "cell",data:=.cell aD}).IsCell c aD:=⟨_,by rw[hce];exact i8 _ rfl,rfl⟩
  exact this.keeps λb o q=>pushCells_keeps _ _ b o q;rename_i hk;rw[if_neg hk];exact Ji r h acc e hc ha
theorem XC{M:Model}{A:ao}{E:af->ah->Prop}{s:ah}{scope:az}{globals:ai}{cl:List (Str×ai)}{qual:Str}{env:Env}{Q:Env->ah->Prop}(hcl:∀x c,cl.lookup x=aC c->c<s.heap.objs.size)
 (hQ:∀h',h'.Ns s.heap.objs.size (λ_=>aD)->(∀b o,s.heap.get? b=aC o->h'.get? b=aC o)->(∀x c,(cellsFrom (s.heap.objs.size+1) scope.names cl).lookup x=aC c->s.heap.objs.size<c->h'.IsCell c aD)->
   Q (newEnv scope s.heap.objs.size globals (cellsFrom (s.heap.objs.size+1) scope.names cl) qual aD .none (aC env) builtinsNs) {s with heap:=h'}) :
 wpAny M A (newFunctionEnv scope globals cl [] qual aD .none (aC env)) Q E s:=by
 simp only[newFunctionEnv,Option.isSome_some,dg];refine aK (wpAny_alloc ?_);refine aK (wpAny_layCells _ (λname kind cells=>by cases hkc:kind==NameKind.cell<;>simp[hkc]) _ _ _ _ ?_);have hz:({s with heap:=s.heap.push {cls:=.type "dict",data:=.dict #[]}}:ah).heap.objs.size=s.heap.objs.size+1:=kg ..;rw[hz];refine aK (bR (bR ?_));refine hQ (pushCells (s.heap.push {cls:=.type "dict",data:=.dict #[]}) scope.names) ((Heap.Ns.new s.heap (.type "dict")).keeps (pushCells_keeps _ _)) (λb o e=>pushCells_keeps _ _ b o (cH _ e)) λx c e hc=>?_;refine Ji scope.names (s.heap.push {cls:=.type "dict",data:=.dict #[]}) cl (by rw[kg];exact e) (by rw[kg];exact hc) λy d e1 e2=>?_;rw[kg]at e2;exact absurd (hcl y d e1) (jn.mpr (zx e2))
theorem Q2{cells:List (Str×ai)}{x:Str}:∀(l:List (Str×NameKind)) (cs:List (Str×ai)),(x,NameKind.free)∉l->cs.lookup x=aD->(ki cells l cs).lookup x=aD
 |[],cs,_,h=>h
 |(n,k)::r,cs,hl,h=>by
  have hr:(x,NameKind.free)∉r:=λz=>hl (fS _ z);refine Q2 r _ hr ?_;by_cases hk:(k==NameKind.free)=true;simp only[hk,dg];cases cells.lookup n with
  |none=>exact h
  |some d=>
   simp only[gQ];have:(x==n)=false:=by rw[E4];rintro rfl;exact hl (by rw[show k=NameKind.free by simpa using hk];exact gj)
   simp only[this];exact h
  have hk':(k==NameKind.free)=false:=by simpa using hk
  simp only[hk',gY,fM];exact h
theorem XD{cells:List (Str×ai)}{x:Str}{c:ai}{l:List (Str×NameKind)}(h:(x,NameKind.free)∉l):¬(ki cells l []).lookup x=aC c:=λz=>by
 rw[Q2 l [] h rfl]at z;cases z
noncomputable abbrev Cx.comp(X:Cx)(N:List Str)(scope:az)(C:ai)(s₀:ah)(H₀:Hp)(ex:List ai):Cx:=
 {X with N:=N,s₀:=s₀,H₀:=H₀,env:=compEnvC scope (cellsFrom (C+1) scope.names (ki X.env.cells scope.names [])) C X.env,outer:=X.stack,stack:=X.stack,ex:=ex,fn:=λx=>scope.names.lookup x==aC .cell,pn:=[],xe:=λ_ _=>False}
structure bq(X:Cx)(ow fr:List Str)(ix:List Nat)(scope:az):Prop where
 kind:scope.kind=.function
 BJ:∀y∈scope.names,y.2=.cell->scope.names.lookup y.1=aC .cell
 names:∀y∈scope.names,y.2=.local->scope.names.lookup y.1=aC .local
 own:∀x∈ow,scope.names.lookup x=aC .local\/scope.names.lookup x=aC .cell
 BK:∀y∈scope.names,y.2=.free->scope.names.lookup y.1=aC .free
 free:∀y∈scope.names,y.2=.free->X.env.kindOf y.1=aC .cell\/X.env.kindOf y.1=aC .free
 at_:∀(k:Nat)(x:Str),fr[k]?=aC x->∃j,ix[k]?=aC j/\X.N[j]?=aC x/\scope.names.lookup x=aC .free
 len:ix.length=fr.length
noncomputable def l5(ow fr:List Str)(ix:List Nat)(σ:St):St:=ow.map (λ_=>aD)++ix.map λj=>(σ[j]?).join
theorem Q3{x:Str}{k:NameKind}:∀{l:List (Str×NameKind)},l.lookup x=aC k->(x,k)∈l
 |[],h=>by cases h
 |(n,j)::r,h=>by
  simp only[gQ]at h;by_cases hx:(x==n)=true;simp only[hx]at h;cases h;rw[show x=n by simpa using hx];exact gj;have hx':(x==n)=false:=by simpa using hx
  simp only[hx']at h;exact fS _ (Q3 h)
theorem Jj{env:Env}:∀{l:List (Str×NameKind)} {x:Str} {k:NameKind},
 (l.map λ(n,k)=>if(k==NameKind.free&&env.scope.kind == .function&&env.kindOf n==aC .cell)then(n,NameKind.cell)else(n,k)).lookup x=aC k->k=.cell\/k=.free->(x,NameKind.free)∈l\/(x,NameKind.cell)∈l
 |[],x,k,h,_=>by cases h
 |(n,j)::r,x,k,h,hh=>by
  have ih:=@Jj env r x k;rw[fD]at h;by_cases hc':(j==NameKind.free&&env.scope.kind == .function&&env.kindOf n==aC .cell)=true;simp only[hc',dg,gQ]at h;have hj:j=.free:=by simp only[bw,lC]at hc';exact hc'.1.1
  by_cases hx:(x==n)=true;rw[show x=n by simpa using hx,hj];exact .inl gj;have hx':(x==n)=false:=by simpa using hx
  simp only[hx']at h;exact(ih h hh).imp (fS _) (fS _);have hcf:(j==NameKind.free&&env.scope.kind == .function&&env.kindOf n==aC .cell)=false:=by simpa using hc'
  simp only[hcf,gY,fM,gQ]at h;by_cases hx:(x==n)=true;simp only[hx]at h;cases h;rcases hh with z|z
  rw[show x=n by simpa using hx,z];exact .inr gj;rw[show x=n by simpa using hx,z];exact .inl gj;have hx':(x==n)=false:=by simpa using hx
  simp only[hx']at h;exact(ih h hh).imp (fS _) (fS _)
theorem F4{env:Env}(hkf:env.scope.kind=.function):∀{l:List (Str×NameKind)} {x:Str},l.lookup x=aC .free->
 (l.map λ(n,k)=>if(k==NameKind.free&&env.scope.kind == .function&&env.kindOf n==aC .cell)then(n,NameKind.cell)else(n,k)).lookup x=aC (if env.kindOf x=aC .cell then .cell else .free)
 |[],x,h=>by cases h
 |(n,j)::r,x,h=>by
  have ih:=@F4 env hkf r x;rw[fD];simp only[gQ]at h;by_cases hx:(x==n)=true;simp only[hx]at h;cases h;have e:x=n:=by simpa using hx
  subst e;by_cases hq:env.kindOf x=aC .cell;simp[hkf,hq,gQ];simp[hq,gQ];have hx':(x==n)=false:=by simpa using hx
  simp only[hx']at h;by_cases hc':(j==NameKind.free&&env.scope.kind == .function&&env.kindOf n==aC .cell)=true;simp only[hc',dg,gQ,hx'];exact ih h;have hcf:(j==NameKind.free&&env.scope.kind == .function&&env.kindOf n==aC .cell)=false:=by simpa using hc'
  simp only[hcf,gY,fM,gQ,hx'];exact ih h
section
variable{X:Cx}{pins:List (ai×Obj)}{σ:St}{H:Hp}{s:ah}{ow fr:List Str}{ix:List Nat}{scope:az}{fp:List ai}
theorem XE(S:bq X ow fr ix scope)(I:Inv X pins σ H s)(hfp:∀b∈fp,fU X pins H b)(hlt:∀b∈fp,b<s.heap.objs.size){h':aA}{tk:Nat}{m:Str->Option af}(hn:h'.Ns s.heap.objs.size m)(hk:∀b o,s.heap.get? b=aC o->h'.get? b=aC o)(hnc:∀x c,(cellsFrom (s.heap.objs.size+1) scope.names (ki X.env.cells scope.names [])).lookup x=aC c->s.heap.objs.size<c->h'.IsCell c aD) :
 Inv (X.comp (ow++fr) scope s.heap.objs.size s H fp) [] (l5 ow fr ix σ) H {s with heap:=h',toks:=tk}:=by
 have sub:=Jd (cells:=X.env.cells) scope.names [] (λx c e=>by cases e);have XF:∀x c,(ki X.env.cells scope.names []).lookup x=aC c->c<s.heap.objs.size:=λx c e=>by
  obtain⟨v,q⟩:=I.cell x c (sub x c e);exact q.lt
 have two:∀x c,(cellsFrom (s.heap.objs.size+1) scope.names (ki X.env.cells scope.names [])).lookup x=aC c->X.env.cells.lookup x=aC c\/s.heap.objs.size<c:=λx c e=>(F2 _ _ _ e).imp (sub x c) λz=>z;have pass:∀x,(x,NameKind.free)∈scope.names->scope.names.lookup x=aC .free->(cellsFrom (s.heap.objs.size+1) scope.names (ki X.env.cells scope.names [])).lookup x=(ki X.env.cells scope.names []).lookup x:=λx hx hl=>Jf _ _ _ λz=>by
  have:=S.BJ _ z rfl;rw[hl]at this;cases this
 have kf:=I.ok.kind;have Q4:∀x c,X.env.cells.lookup x=aC c->c≠s.heap.objs.size:=λx c e z=>by
  obtain⟨v,q⟩:=I.cell x c e;exact absurd q.lt (by rw[z];exact g9 _)
 have Jk:∀x,(x,NameKind.free)∈scope.names->∃c,(ki X.env.cells scope.names []).lookup x=aC c/\X.env.cells.lookup x=aC c:=λx hx=>by
  obtain⟨c,hc⟩:=I.ok.has x (S.free _ hx rfl);exact⟨c,Je hc _ _ hx,hc⟩
 refine⟨⟨I.ok.mod,?_,I.ok.glob,I.ok.blt,aZ _,Jh (acc:=[]) _ _ _ (λx y c a b=>I.ok.inj x y c (sub x c a) (sub y c b)) (λx c e=>zy (XF x c e)),λx hx=>?_,λx c e1 e2=>?_,I.ok.hd,I.ok.frames,.inl rfl,λb hb=>?_,λb o e=>?_,?_,λb o e hb=>?_,λb hb hz=>?_,I.stack,λb hb=>I.iX b hb⟩,
  rfl,I.bare,Un.kept hk,⟨m,hn,λi x v e1 e2 e3=>?_⟩,λx c e=>?_,I.hok.fresh (aZ _),λx c e=>(two x c e).elim (I.dI x c) (λz=>I.hok.fresh (sR z)),λp hp=>?_,I.hok.kept hk,?_⟩
 exact S.kind;have hx':(relabel scope X.env).names.lookup x=aC .cell\/(relabel scope X.env).names.lookup x=aC .free:=hx;have hm:(x,NameKind.free)∈scope.names\/(x,NameKind.cell)∈scope.names:=by rcases hx' with z|z;exact Jj (env:=X.env) z (.inl rfl);exact Jj (env:=X.env) z (.inr rfl)
 rcases hm with hm|hm;obtain⟨c,hc,_⟩:=Jk x hm;exact F3 _ _ _ ⟨c,hc⟩;exact Jg _ _ _ hm;have e1:scope.names.lookup x=aC .cell:=by have e1:(scope.names.lookup x==aC NameKind.cell)=true:=e1;simpa using e1
 rcases F2 _ _ _ e2 with z|z;exfalso;have hcl:∃y,X.env.cells.lookup x=aC c:=⟨c,sub x c z⟩
 exact absurd z (by
  intro z;exact XD (λq=>by
   have:=S.BK _ q rfl;rw[e1]at this;cases this) z)
 exact zx z;obtain⟨f0,f1,f2,f3,f4,f5⟩:=hfp b hb;refine⟨λz=>?_,λx c e=>(two x c e).elim (f4 x c) λz q=>by
  have:=hlt b hb;rw[q]at z;exact Nat.lt_asymm this z⟩
 have q:=hlt b hb;rw[z]at q;exact absurd q (g9 _);exact⟨(I.bs b o e).1,(I.bs b o e).2⟩;exact eS I.ok.rS I.sz;obtain⟨f0,f1,f2,f3,f4,f5⟩:=hfp b hb;rcases f3 with z|z
 exact I.ok.lW b o e z;exact absurd (dF (cN (I.ok.bs b o e).1) z) (g9 _);obtain⟨f0,f1,f2,f3,f4,f5⟩:=hfp b hb;rcases eO.mp (I.jT b hz)with z|z
 exact f1 z;exact f2 z;have hlen:ow.length<=i:=by
  by_cases hi:i<ow.length;unfold l5 at e2;rw[uM (by simpa using hi),dY]at e2;cases q:ow[i]? with|none=>rw[q]at e2;cases e2|some y=>rw[q]at e2;cases e2
  lia
 have XG:fr[i-ow.length]?=aC x:=by have e1:(ow++fr)[i]?=aC x:=e1;rw[oX hlen]at e1;exact e1
 have Q5:(ix.map λj=>(σ[j]?).join)[i-ow.length]?=aC (aC v):=by unfold l5 at e2;rw[oX (by simpa using hlen)]at e2;simpa using e2
 obtain⟨j,hj,hN,hl⟩:=S.at_ _ _ XG;rw[dY,hj]at Q5;have qg:(σ[j]?).join=aC v:=pU Q5;have hσ:σ[j]?=aC (aC v):=by
  cases q:σ[j]? with
  |none=>rw[q]at qg;cases qg
  |some o=>rw[q]at qg;cases o with
   |none=>cases qg
   |some w=>cases qg;rfl
 obtain⟨m0,hm0,XI⟩:=I.loc;have hmem:=Q3 hl;have hkf:=S.free _ hmem rfl;have Jl:pW X.env.scope x:=hkf.elim (λz=>.inr (.inl z)) λz=>.inr (.inr z);obtain⟨u,ru,lk⟩:=XI j x v hN hσ Jl;refine⟨u,ru,.inr ?_⟩;have hcell:∃c,X.env.cells.lookup x=aC c/\s.heap.IsCell c (aC u):=by rcases lk with⟨z,_⟩|⟨_,c,e,z⟩;rcases hkf with q|q;rw[show X.env.kindOf x=aC .local from z]at q;cases q;rw[show X.env.kindOf x=aC .local from z]at q;cases q;exact⟨c,e,z⟩
 obtain⟨c,hc,o,ho,hd⟩:=hcell;refine⟨?_,c,(pass x hmem hl).trans (Je hc _ _ hmem),o,hk _ _ ho,hd⟩;show(relabel scope X.env).names.lookup x=aC .cell\/(relabel scope X.env).names.lookup x=aC .free;have q:=F4 (env:=X.env) kf hl;by_cases z:X.env.kindOf x=aC .cell;rw[if_pos z]at q;exact .inl q;rw[if_neg z]at q;exact .inr q;rcases two x c e with z|z;obtain⟨v,q⟩:=I.cell x c z;obtain⟨o,ho,hd⟩:=q;exact⟨v,o,hk _ _ ho,hd⟩;exact⟨aD,hnc x c e z⟩;cases(show p∈([]:List (ai×Obj))from hp);show(l5 ow fr ix σ).length=(ow++fr).length;unfold l5;rw[fC,bG,bG,fC,S.len]
end
theorem Q6{α:Type}{M:Model}{A:ao}{t:Sem α}{Q:α->ah->Prop}{E:af->ah->Prop}{s:ah}(h:wpAny M A t Q (λ_ _=>False) s):wpAny M A t Q E s:=iC h (λ_ _ q=>q) λ_ _ z=>z.elim
noncomputable abbrev kj:af->ah->Prop:=λ_ _=>False
noncomputable abbrev BL(ifs:List aq)(env:Env):Sem Bool:=forIn ifs true λc r=>if r=true then do let ok <-isTrue c env (eval c env);pure (ForInStep.yield ok)else pure (ForInStep.yield r)
noncomputable def jH(X:Cx)(ifs:List aq)(t:TT):Prop:=
 ∀(pins:List (ai×Obj))(s:ah)(σ:St)(H:Hp)(Q:Bool->Hp->Prop),Inv X pins σ H s->t σ H Q->wpAny (model X.prog X.w) X.A (BL ifs X.env) (TP X pins σ Q) X.xe s
noncomputable def Jm:TT:=λ_ H Q=>Q true H
theorem XJ{X:Cx}:jH X [] Jm:=λpins s σ H Q I h=>wpAny_tests_nil ⟨H,I,h⟩
theorem XM{X:Cx}{c:aq}{t:TT}(h:PT X c t):jH X [c] t:=λpins s σ H Q I q=>wpAny_tests_one (h pins s σ H Q I q)
end L2
set_option maxHeartbeats 4000000
namespace XL
open PySem PySem.W PySem.Spec PyProof.Rows
noncomputable def qh:af->Bool|.ref _=>true|_=>false
theorem XN{v:af}(h:qh v):∃a,v=.ref a:=by unfold qh at h;split at h;exact⟨_,rfl⟩;cases h
noncomputable def xJ:List af->Bool|[]=>false|v::r=>v::r ==[.type "ValueError",.type "Exception",.type "BaseException",.type "object"]||qh v&&xJ r
theorem Q7{v:af}{r:List af}(h:xJ (v::r)):v::r=[.type "ValueError",.type "Exception",.type "BaseException",.type "object"]\/∃a,v=.ref a/\xJ r=true:=by unfold xJ at h;rw[pL,bw,lC]at h;exact h.imp id λz=>let⟨a,e⟩:=XN z.1;⟨a,e,z.2⟩
theorem XO(self:af):∀{l:List af},xJ l=true->refuseLoop self "__setattr__" l=pure ()
 |v::r,e=>by
  rcases Q7 e with z|⟨a,rfl,z⟩;rw[z];exact PySem.F.store_ValueError.passes self;rw[refuseLoop_ref];exact XO self z
theorem Jo{T:String}(hT:([.type "ValueError",.type "Exception",.type "BaseException",.type "object"]:List af).contains (.type T)):∀{l:List af},xJ l=true->l.contains (.type T)=true
 |v::r,e=>by
  rcases Q7 e with z|⟨a,rfl,z⟩;rw[z];exact hT;rw[List.contains_cons,Jo hT (l:=r) z,E6]
structure ExcK(K:Frag)(C:ai):Prop where
 ov:(clsIn K C).any (λcd=>xJ cd.mro)=true
 ga:findIn K (.ref C) "__getattribute__" = aC (aC (.builtin "BaseException.__getattribute__"))
 gt:findIn K (.ref C) "__getattr__" = aC aD
 sa:findIn K (.ref C) "__setattr__" = aC (aC (.builtin "object.__setattr__"))
 hd:hasDictIn K C=true
section
variable{prog:aj}{w:ak}{A:ao}{E:af->ah->Prop}{s:ah}{K:Frag}{x C:ai}{ox:Obj}{od:Option Obj}{name:Str}{expr:Bool}
theorem XQ(k:ExcK K C)(X:K.In s.heap)(I:InstAt s.heap x ox C od){T:String}(hT:([.type "ValueError",.type "Exception",.type "BaseException",.type "object"]:List af).contains (.type T)) :
 Looks (model prog w) s.heap (isInstance (.ref x) (.type T)) true:=by
 obtain⟨cd,hc,ho⟩:=any_some k.ov;have ne:cd.mro.isEmpty=false:=by cases q:cd.mro with|nil=>rw[q]at ho;cases ho|cons _ _=>rfl
 exact I.type.andThen (looks_mroIn X (by unfold mroIn;rw[hc,zA,if_neg (by rw[ne];decide),Jo hT ho]))
end
end XL
namespace XL
open PySem PySem.W PySem.Spec PyProof.Rows
noncomputable abbrev Q8:List af:=[.type "ValueError",.type "Exception",.type "BaseException",.type "object"]
noncomputable abbrev fV(C:ai)(dx:Option ai)(t:ai):Obj:={cls:=.ref C,dict:=dx,data:=.fields #[.ref t,.none,.none,.none,.bool false,.none]}
noncomputable def xK:af->Bool|.builtin n=>n == "ValueError.__new__"|_=>false
theorem XS{v:af}(h:xK v):v=.builtin "ValueError.__new__":=by unfold xK at h;split at h;rw[lC]at h;rw[h];cases h
noncomputable def Q9:List (Option af)->Bool|[_,_,_,_,aC v,_]=>xK v|_=>false
noncomputable def fX(K:Frag)(C:ai):Bool:=match K.lookup C with
 |some o=>(match o.cls with
  |.type t=>t == "type" && (match o.data with
   |.cls cd=>cd.mro.head? == aC (.ref C)&&Q9 o.slots.toList && !cd.hasDel&&tailIn K Q8 cd.mro.tail
   |_=>false)
  |_=>false)
 |none=>false
theorem fF{K:Frag}{C:ai}(X:K.In h)(q:fX K C) :
 ∃nm qn N bs bm hd sn sub ab col dd k0 k1 k2 k3 k5,h.get? C=aC (excClassObj nm qn C N bs bm hd sn sub ab col dd k0 k1 k2 k3 k5 "ValueError.__new__")/\OwnTail h Q8 bm:=by
 unfold fX at q;split at q;rename_i o ho;obtain⟨oc,dd,od,sl⟩:=o;dsimp only at q;split at q;rw[bw,lC]at q;obtain⟨rfl,q⟩:=q;split at q;rename_i cd;simp only[bw,lC,uK]at q;obtain⟨⟨⟨hm,hs⟩,BN⟩,ht⟩:=q;obtain⟨nm,bs,mro,ns,qn,hd,sn,sub,ab,col,del⟩:=cd;dsimp only at hm BN ht;subst BN;cases mro with
 |nil=>cases hm
 |cons v bm=>
  cases hm;unfold Q9 at hs;split at hs;rename_i k0 k1 k2 k3 n k5 hl;have hsl:sl = #[k0,k1,k2,k3,aC (.builtin "ValueError.__new__"),k5]:=by obtain⟨l⟩:=sl;simp only at hl;rw[hl,XS hs]
  subst hsl;exact⟨nm,qn,ns,bs,bm,hd,sn,sub,ab,col,dd,k0,k1,k2,k3,k5,X _ _ ho,tail_of_in X ht⟩;cases hs
 cases q;cases q;cases q
section
variable{prog:aj}{w:ak}{A:ao}{s:ah}{K:Frag}{C f:ai}{rest:List af}{R:Result->ah->Prop}
theorem n6{Q:af->ah->Prop}{E:af->ah->Prop}(X:K.In s.heap)(hc:fX K C)(hi:findIn K (.ref C) "__init__" = aC (aC (.builtin "ValueError.__init__")))(hz:rest.length<=sizeLine)
 (hq:∀h' t,(∀b o,s.heap.get? b=aC o->h'.get? b=aC o)->h'.get? (s.heap.objs.size+1)=aC (fV C aD t)->Q (.ref (s.heap.objs.size+1)) {s with heap:=h'}) :
 wpAny (model prog w) A (call (.ref C) rest) Q E s:=by
 refine wM ?_;obtain⟨h,g,d,t,os⟩:=s;obtain⟨nm,qn,N,bs,bm,Ra,sn,sub,ab,col,dd,k0,k1,k2,k3,k5,hC,T⟩:=fF X hc;have F:=PySem.F.excBase_ValueError;have f1:=tc_lookup;have f2:=tc_bind (.ref C);have hT:(⟨h,g,d,t,os⟩:ah).TypeIs (.ref C) "type":=⟨_,hC,rfl⟩
 refine codeAny_of_tree ?_;show wpAny _ _ (callAny (.ref C) _) _ _ _
 repeat(any_goals (first|assumption|with_reducible refine AA hC ?_|wp_step))
 refine⟨rfl,?_⟩;refine codeAny_call_builtin_at (Code.quiet_builtin _ (by decide +kernel)) entry_typeCall (wpAny_check_type_call_sub hC ?_)
 repeat(first|with_reducible refine AA hC ?_|with_reducible refine wpAny_madeBy_exc hC ?_|wp_step)
 refine codeAny_call_builtin_code (Code.quiet_builtin _ F.quiet) (wpAny_check_new_subT F T hC ?_);refine codeAny_exc_new_subT F T hC ?_ hz;have kk:∀b o,h.get? b=aC o->((h.push {cls:=.type "tuple",data:=.seq rest.toArray}).push (fV C aD h.objs.size)).get? b=aC o:=λb o e=>cH _ (cH _ e);have i1:=(looks_findIn (M:=model prog w) X hi).keeps kk;have Jp:=kk _ _ hC;have hget:((h.push {cls:=.type "tuple",data:=.seq rest.toArray}).push (fV C aD h.objs.size)).get? (h.objs.size+1)=aC (fV C aD h.objs.size):=by heap_get
 have hcC:(Value.ref C::bm).contains (.ref C)=true:=by simp
 show wpAny _ _ _ _ _ _;unfold isInstance
 repeat(first|with_reducible refine AA hget ?_|(with_reducible refine E7 Jp ?_;rw[hcC])|wp_step)
 have t1:Looks (model prog w) ((h.push {cls:=.type "tuple",data:=.seq rest.toArray}).push (fV C aD h.objs.size)) (typeOf (.ref (h.objs.size+1))) (.ref C):=(Looks.ld hget).andThen .now;refine E7 (h:=(h.push {cls:=.type "tuple",data:=.seq rest.toArray}).push (fV C aD h.objs.size)) Jp ?_;rw[hcC];simp only[Bool.not_true,gY,fM];refine aK (lO ?_);unfold callSpecial? specialOf;refine aK (aK (t1.at (i1.at (lO ?_))));refine aK (zo (F.init.bind _) ?_);refine aK (wM (codeAny_call_builtin F.init.plain F.initEntry (wpAny_check_init_subT F (T.keeps kk) Jp hget rfl ?_)))
 wp_walk;refine hq _ (h.objs.size+2) (λb o hb=>?_) ?_;rw[wX _ _ (oZ (zy (cN hb)))];exact cH _ (kk b o hb);rw[Fv _ (cH _ hget) rfl];simp only[kg];rfl
end
end XL
namespace XL
open PySem PySem.W PySem.Spec PyProof.Rows
structure jV(K:Frag)(C:ai):Prop extends ExcK K C where
 ca:findIn K (.ref C) "__class__" = aC (aC (.builtin "object.__class__"))
 hn:specialIn K (.builtin "object.__class__") "__get__" = aC (aC (.builtin "getset_descriptor.__get__"))
 htk:takesIn K (.builtin "object.__class__")=aC true
section
variable{prog:aj}{w:ak}{A:ao}{E:af->ah->Prop}{s:ah}{K:Frag}{x C:ai}{ox:Obj}{od:Option Obj}{name:Str}{expr:Bool}
theorem jV.mro(k:jV K C):mroIn K C (.type "object")=aC true:=by
 obtain⟨cd,hc,ho⟩:=any_some k.ov;have ne:cd.mro.isEmpty=false:=by cases q:cd.mro with|nil=>rw[q]at ho;cases ho|cons _ _=>rfl
 unfold mroIn;rw[hc,zA,if_neg (by rw[ne];decide),Jo (by decide +kernel) ho]
theorem XT{Q:Option af->ah->Prop}(k:jV K C)(X:K.In s.heap)(I:InstAt s.heap x ox C od)(h:Q (aC (.ref C)) {s with toks:=s.toks+1}):wpAny (model prog w) A (getAttr? (.ref x) "__class__") Q E s:=by
 have hf:findObj K C od "__class__" = aC (.bind (.builtin "getset_descriptor.__get__") (.builtin "object.__class__")):=by obtain⟨cd,hc,_⟩:=any_some k.hd;unfold findObj;rw[hc,zA,k.ca,zA];simp only[k.hn,k.htk,zA]
 have S:=XQ (prog:=prog) (w:=w) k.toExcK X I (T:="BaseException") (by decide +kernel);obtain⟨h0,g,d,t,os⟩:=s;have L0:=I.type (M:=model prog w);have L1:=looks_findIn (M:=model prog w) X k.ga;have L2:=looks_findIn (M:=model prog w) X k.gt;have L3:=looks_find (M:=model prog w) X I hf;have XU:(onTheHeap (Value.ref C)&&Value.builtin "BaseException.__getattribute__" == Value.builtin "object.__getattribute__")=false:=by rw[show(Value.builtin "BaseException.__getattribute__" == Value.builtin "object.__getattribute__")=false from by decide +kernel];rfl
 unfold getAttr?;refine aK (wpAny_mkText ?_);unfold getAttrBy?;refine aK (E8 ?_);unfold getAttrBy;refine lO (aK (L0.at (aK (L1.at ?_))));dsimp only;rw[XU];simp only[gY,fM];unfold getAttrByItsOwn hookBefore;refine aK ?_;rw[if_pos (show onTheHeap (Value.ref C)=true from rfl)];refine L2.at ?_;refine aK (E8 (lO ?_));unfold callGetattribute;simp only[Ay,gY,fM];unfold boundAndCalled;rw[PySem.F.excAttr_ValueError.ga.bind (.ref x)];refine aK (bR ?_);show wpAny (model prog w) A (call (.builtin "BaseException.__getattribute__") [.ref x,.str "__class__" t]) _ _ _;have hk:builtinKind "BaseException.__getattribute__" = aC .slot:=by decide +kernel
 have kG:splitId "BaseException.__getattribute__" = aC ("BaseException","__getattribute__"):=by decide +kernel
 refine wM (codeAny_call_builtin PySem.F.excAttr_ValueError.ga.plain PySem.F.entry_bexc_ga ?_);refine @check_slot (model prog w) _ _ ⟨h0,g,d,t+1,os⟩ "BaseException.__getattribute__" "BaseException" "__getattribute__" (.ref x) [.str "__class__" t] [] _ hk kG S (PySem.F.args_bexc_ga _ _) ?_;unfold Builtin.«object.__getattribute__»;refine aK (zo (a:=(Value.ref x,[Value.str "__class__" t])) rfl ?_);dsimp only;refine aK (zo (a:=("__class__" : Str)) rfl ?_);refine aK (L0.at (aK (L3.at ?_)));dsimp only;show wpAny _ _ (holding [.builtin "object.__class__"] (call (.builtin "getset_descriptor.__get__") [.builtin "object.__class__",.ref x,.ref C]) >>= ret) _ _ _;refine aK (lO (wM (class_get (s:=⟨h0,g,d,t+1,os⟩) (ox:=ox) (od:=od) X I k.mro ?_)));dsimp only;refine bR ?_;dsimp only;exact handed_on rfl (bR h)
theorem qi(k:jV K C):KitX K (.ref x) (.ref C) (λh=>InstAt h x ox C od)where
 ty:=λ_ _ _ I=>I.type
 it:=λ_ _ X _=>by
  obtain⟨cdD,xM,_⟩:=any_some k.hd;unfold clsIn at xM;split at xM;rename_i c' d' XW Ih ho;intro A' Q' E' s' kk q;unfold isType loadHead;exact aK (wpAny_loadPart (kk _ _ (X _ _ ho)) (bR q));cases xM
 ne:=λh tp dd its n sl X htp=>by
  obtain⟨cdD,xM,_⟩:=any_some k.hd;refine Bool.eq_false_iff.mpr λq=>?_;have e:C=tp:=Value.ref.inj (lC.mp q);subst e;unfold clsIn at xM;split at xM;rename_i c' d' XW Ih ho;have z:=(X _ _ ho).symm.trans htp;cases z;cases xM
 ca:=λX I q=>XT k X I q
end
end XL
namespace L2
open PySem PySem.Spec PyProof.Rows
noncomputable def Rb(fs:List (Str×V))(dx:ai):HO:=.ext λh=>∃mA,h.Ns1 dx mA/\(∀f,fT (fs.lookup f) (mA f))/\PySem.Within mA (fs.map (·.1))/\fs.length<=1000
section
variable{P:aj}{w:ak}{H:Hp}{h:aA}{a C dx:ai}{o:Option ai}{t:ai}{fs:List (Str×V)}
theorem XX(ok:eE P w H h)(e:H dx=aC (Rb fs dx)):∃mA,h.Ns1 dx mA/\(∀f,fT (fs.lookup f) (mA f))/\PySem.Within mA (fs.map (·.1))/\fs.length<=1000:=(ok dx _ e).1
end
section
variable{X:Cx}{CX:nZ}{k:Nat}{f C:ai}{fd:av}{ps:List Str}{sp:Sp}{E:XK}{x:Str}{p pos:Pos}{e:aq}{es:List aq}{t:TA}
structure Jq(K:aI)(C:ai):Prop where
 cls:XL.fX K C=true
 init:PySem.W.findIn K (.ref C) "__init__" = aC (aC (.builtin "ValueError.__init__"))
 kp:PySem.W.keepIn K (.ref C)=true
end
section
variable{X:Cx}{o e value:aq}{f:Str}{pos pos':Pos}{ta tv:TE}
noncomputable def qj:V->Option af|.ty n=>aC (.type n)|.ref a=>aC (.ref a)|_=>aD
end
mutual
inductive Rp(K:aI)(M:ai->Prop)(H:Hp):V->aB->Prop
 |aL:Rp K M H .aL .none
 |bl (b:Bool):Rp K M H (.bl b) (.bool b)
 |int (i:Int):Rp K M H (.int i) (.int i)
 |str (x:Str):Rp K M H (.str x) (.str x)
 |tup {a:ai} {xs:List V} {ds:List aB}:dh K H a xs->¬M a->o9 K M H xs ds->Rp K M H (.ref a) (.tuple ds)
 |lst {a:ai} {xs:List V} {ds:List aB}:cJ K H a xs->¬M a->o9 K M H xs ds->Rp K M H (.ref a) (.list ds)
inductive o9(K:aI)(M:ai->Prop)(H:Hp):List V->List aB->Prop
 |nil:o9 K M H [] []
 |cons {x:V} {d:aB} {xs:List V} {ds:List aB}:Rp K M H x d->o9 K M H xs ds->o9 K M H (x::xs) (d::ds)
end
section
variable{X:Cx}{pins:List (ai×Obj)}{σ:St}{H:Hp}{s:ah}{M:ai->Prop}
theorem Rp.reads(I:Inv X pins σ H s){x:V}{d:aB}{u:af}(q:Rp X.K M H x d):RelV x u->∃as,Reads s.heap u d as:=
 Rp.rec (motive_1:=λx d _=>∀u,RelV x u->∃as,Reads s.heap u d as) (motive_2:=λxs ds _=>∀us,Vals xs us->∃as,ReadsAll s.heap us ds as) (λ_ r=>by cases r;exact⟨_,.none⟩) (λb _ r=>by cases r;exact⟨_,.bool b⟩) (λi _ r=>by obtain⟨t,rfl⟩:=r;exact⟨_,.int i t⟩) (λx _ r=>by obtain⟨t,rfl⟩:=r;exact⟨_,.str x t⟩)
  (λh _ _ ih _ r=>by
    cases r;obtain⟨its,rv,p,_⟩:=I.tuple h;obtain⟨o,ho,hc,m,hd⟩:=p;obtain⟨as,ra⟩:=ih _ rv;exact⟨_,.tuple ho hc hd (by simpa using ra)⟩)
  (λh _ _ ih _ r=>by
    cases r;obtain⟨its,rv,p,_⟩:=I.list h;obtain⟨o,m,ho,hc,_,hd⟩:=p;obtain⟨as,ra⟩:=ih _ rv;exact⟨_,.list ho hc hd (by simpa using ra)⟩)
  (λ_ v=>by cases v;exact⟨_,.nil⟩) (λ_ _ a b _ v=>by
    cases v with
    |cons q v=>
     obtain⟨as,h1⟩:=a _ q;obtain⟨bs,h2⟩:=b _ v;exact⟨_,.cons h1 h2⟩) q u
theorem o9.reads(I:Inv X pins σ H s){xs:List V}{ds:List aB}{us:List af}(q:o9 X.K M H xs ds):Vals xs us->∃as,ReadsAll s.heap us ds as:=
 o9.rec (motive_1:=λ_ _ _=>True) (motive_2:=λxs ds _=>∀us,Vals xs us->∃as,ReadsAll s.heap us ds as) trivial (λ_=>trivial) (λ_=>trivial) (λ_=>trivial) (λ_ _ _ _=>trivial) (λ_ _ _ _=>trivial) (λ_ v=>by cases v;exact⟨_,.nil⟩) (λa _ _ b _ v=>by
  cases v with
  |cons q v=>
   obtain⟨as,h1⟩:=a.reads I q;obtain⟨bs,h2⟩:=b _ v;exact⟨_,.cons h1 h2⟩) q us
noncomputable def BO(K:aI):R2:=λx y H Q=>∃d e,Rp K (λ_=>False) H x d/\Rp K (λ_=>False) H y e/\SeqAt.shaped d=true/\SeqAt.shaped e=true/\Q (.bl (PyData.eqv d e)) H
noncomputable def BP(K:aI):R2:=λx y H Q=>∃d e,Rp K (λ_=>False) H x d/\Rp K (λ_=>False) H y e/\SeqAt.shaped d=true/\SeqAt.shaped e=true/\Q (.bl (!PyData.eqv d e)) H
theorem XY(hu:X.A.units+64<cLine):dU X (compareOp .Eq) (BO X.K):=by intro pins s σ H x y v u Q I rx ry h;obtain⟨d,e,r1,r2,s1,s2,q⟩:=h;obtain⟨as,ra⟩:=r1.reads I rx;obtain⟨bs,rb⟩:=r2.reads I ry;exact PyProof.Rows.eq_dataH ra rb s1 s2 hu ⟨.bl _,H,I,rfl,q⟩
theorem XZ(hu:X.A.units+64<cLine):dU X (compareOp .NotEq) (BP X.K):=by intro pins s σ H x y v u Q I rx ry h;obtain⟨d,e,r1,r2,s1,s2,q⟩:=h;obtain⟨as,ra⟩:=r1.reads I rx;obtain⟨bs,rb⟩:=r2.reads I ry;exact PyProof.Rows.ne_dataH ra rb s1 s2 hu ⟨.bl _,H,I,rfl,q⟩
end
section
variable{prog:aj}{w:ak}{A:ao}{E:af->ah->Prop}{s:ah}
theorem Rc{I t:ai}{k:Nat}{its:Array af}{y:af}{Q:af->ah->Prop}(hi:s.heap.IsTupleIter I t k)(ht:s.heap.IsTuple t its)(hy:its[k]?=aC y)
 (q:∀g,g.IsTupleIter I t (k+1)->Heap.SameBut I s.heap g->Q y {s with heap:=g}):wpAny (model prog w) A (Builtin.SmallTypes.nextOf (.ref I)) Q E s:=by
 obtain⟨oi,e1,e2,e3⟩:=id hi;obtain⟨ot,e4,_,kt,e5⟩:=ht;unfold Builtin.SmallTypes.nextOf;refine aK (zh (name:=Str.ofString "__next__") hi.typeIs FG (zl FG hi.typeIs F.entry_tuple_iterator_next ?_ (F.args_tuple_iterator_next_1 _)));show wpAny _ _ (field (.ref I) 0 >>= _) _ _ s;refine aK (jR e1 e3 (x:=.ref t) rfl ?_);show wpAny _ _ (if(Value.ref t==Value.none)=true then _ else _) _ _ s;rw[if_neg (show ¬((Value.ref t==Value.none)=true)from λz=>nomatch z)];show wpAny _ _ (field (.ref I) 1 >>= _) _ _ s;refine aK (jR e1 e3 (x:=.int k 0) rfl ?_);show wpAny _ _ (seqItems? (.ref t) >>= _) _ _ s;refine aK (uL e4 e5 ?_);simp only[vcs,hy];refine aK (AD e1 e3 (by simp) (bR ⟨y,rfl,bR (q _ ?_ (Heap.SameBut.update ..))⟩));refine⟨_,Fv _ e1 (Obj.isFreed_of_fields (Obj.data_mapFields e3 _)),(Obj.cls_mapFields ..).trans e2,?_⟩;rw[Obj.data_mapFields e3];simp[rawInt]
theorem Jr{I t:ai}{k:Nat}{its:Array af}{Q:af->ah->Prop}(hA:A.handled=aD)(hi:s.heap.IsTupleIter I t k)(ht:s.heap.IsTuple t its)(hy:its[k]?=aD)
 (q:∀g e,Heap.ExtBut I s.heap g->(∃o,g.get? e=aC o/\o.cls=.type "StopIteration")->E (.ref e) {s with heap:=g}):wpAny (model prog w) A (Builtin.SmallTypes.nextOf (.ref I)) Q E s:=by
 obtain⟨oi,e1,e2,e3⟩:=id hi;obtain⟨ot,e4,_,kt,e5⟩:=ht;unfold Builtin.SmallTypes.nextOf;refine aK (zh (name:=Str.ofString "__next__") hi.typeIs FG (zl FG hi.typeIs F.entry_tuple_iterator_next ?_ (F.args_tuple_iterator_next_1 _)));show wpAny _ _ (field (.ref I) 0 >>= _) _ _ s;refine aK (jR e1 e3 (x:=.ref t) rfl ?_);show wpAny _ _ (if(Value.ref t==Value.none)=true then _ else _) _ _ s;rw[if_neg (show ¬((Value.ref t==Value.none)=true)from λz=>nomatch z)];show wpAny _ _ (field (.ref I) 1 >>= _) _ _ s;refine aK (jR e1 e3 (x:=.int k 0) rfl ?_);show wpAny _ _ (seqItems? (.ref t) >>= _) _ _ s;refine aK (uL e4 e5 ?_);simp only[vcs,hy];refine aK (sN (aK (AD e1 e3 (by simp) ?_)));show wpAny _ _ (newExc (.type "StopIteration") [] >>= _) _ _ _;refine aK ?_;simp only[newExc,newTuple];refine aK (rL ?_ (by size_fits));refine aK (m:=firstArgMember _ _) (zo (a:=Value.none) (by first|rfl|(simp only[firstArgMember];rfl)) ?_);refine rL ?_ (by size_fits);simp only[raiseNew];refine aK (wpAny_handled ?_);first|rw[show A.in1.handled=aD from hA]|rw[hA]
 refine aK (bR (wpAny_throw ?_));exact q _ _ (((Heap.SameBut.update ..).extBut.push _).push _) ⟨_,i8 _ rfl,rfl⟩
end
theorem Rf{h h':aA}{a:ai}{its:Array af}(x:h.IsTuple a its)(e:∀o,h.get? a=aC o->h'.get? a=aC o):h'.IsTuple a its:=let⟨o,ho,r⟩:=x;⟨o,e _ ho,r⟩
theorem X0{prog:aj}{w:ak}{A:ao}(hA:A.handled=aD)(I t:ai)(hne:t≠I)(its:Array af) :
 Draws prog w A I [I,t] its.size (λi v=>its[i]?=aC v) (λi h=>h.IsTupleIter I t i/\h.IsTuple t its)where
 live:=λ_ _ st=>let⟨o,ho,_⟩:=st.1;⟨o,ho⟩
 frame:=λ_ _ _ st hk=>⟨st.1.at λo e=>hk I (by simp) o e,Rf st.2 λo e=>hk t (by simp) o e⟩
 item:=λi s Q E hi st q=>Rc st.1 st.2 (y:=its[i]) (by simp[hi]) λg a b=>q _ g s.toks (by simp[hi]) ⟨a,st.2.extBut b.extBut hne⟩ b
 done:=λs Q E st q=>Jr hA st.1 st.2 (by simp) q
theorem X3(l:ai)(its:Array af)(n:Nat)(dc:Option ai)(sl:Array (Option af)) :
 Meets (Builtin.«enumerate.__new__» ⟨[.type "enumerate",.ref l],[]⟩) (λ_ R s=>s.heap.get? l=aC {cls:=.type "tuple",dict:=dc,data:=.seq its n,slots:=sl}/\
  R (.ok (.ret (.ref (s.heap.push {cls:=.type "tuple_iterator",data:=.fields #[.ref l,.int 0 0]}).objs.size)))
   {s with heap:=(s.heap.push {cls:=.type "tuple_iterator",data:=.fields #[.ref l,.int 0 0]}).push {cls:=.type "enumerate",data:=.fields #[.none,.bool false,.ref s.heap.objs.size,rawInt 0,.none,.none]}}):=
 .of_wp λprog w A R s h=>by
  obtain⟨hp,g,d,tk,os⟩:=s;obtain⟨e,h⟩:=h;have hsub:=sub_enumerate;have hT:Heap.IsTuple (Shared.heap ⟨hp,g,d,tk,os⟩) l its:=⟨_,e,rfl,n,rfl⟩
  wp_walk using pS e;refine wpAny_stack_any λst=>bR ?_;split;rename_i c _ _ _ _ _;cases(c==Value.type "enumerate")<;> (wp_walk using pS e,wJ hT;exact⟨_,rfl,h⟩)
  .wp_walk using pS e,wJ hT
   exact⟨_,rfl,h⟩
theorem X4{prog:aj}{w:ak}{A:ao}{E:af->ah->Prop}{s:ah}{l:ai}{its:Array af}{Q:af->ah->Prop}(hL:s.heap.IsTuple l its)
 (h:∀g,IsEnum g (s.heap.objs.size+1) s.heap.objs.size 0 .none->g.IsTupleIter s.heap.objs.size l 0->g.objs.size=s.heap.objs.size+2->(∀b o,s.heap.get? b=aC o->g.get? b=aC o)->Q (.ref (s.heap.objs.size+1)) {s with heap:=g}) :
 wpAny (model prog w) A (call (.type "enumerate") [.ref l]) Q E s:=by
 obtain⟨⟨c,dc,dt,sl⟩,e1,e2,n,e3⟩:=hL
 replace e2:c=.type "tuple":=e2
 replace e3:dt=.seq its n:=e3;subst e2 e3;refine callType_new F.called_enumerate (by decide) (F.typeCall_enumerate_1 _) (F.newCall_enumerate_1 _) (λobj=>F.args_object_init_2 obj _) F.entry_enumerate_new (X3 l its n dc sl) ⟨e1,?_⟩;have hz:(s.heap.push {cls:=.type "tuple_iterator",data:=.fields #[.ref l,.int 0 0]}).objs.size=s.heap.objs.size+1:=kg ..;show _/\_;rw[hz];have he:IsEnum ((s.heap.push {cls:=.type "tuple_iterator",data:=.fields #[.ref l,.int 0 0]}).push {cls:=.type "enumerate",data:=.fields #[.none,.bool false,.ref s.heap.objs.size,rawInt 0,.none,.none]}) (s.heap.objs.size+1) s.heap.objs.size 0 .none:=by rw[<-hz];exact i8 _ rfl
 exact⟨⟨_,he,rfl⟩,h _ he ⟨_,cH _ (i8 _ rfl),rfl,rfl⟩ (by rw[kg,hz]) λb o x=>cH _ (cH _ x)⟩
noncomputable def xN(K:aI)(a:ai):It:=
 ⟨λi H=>∃xs x,dh K H a xs/\xs[i]?=aC x,λi H x H'=>∃T v,x=.ref T/\H T=aD/\H'=upd H T (.tup [.int i,v])/\∀xs,dh K H a xs->xs[i]?=aC v,λi H=>∃xs,dh K H a xs/\xs.length<=i⟩
theorem X5{P:aj}{w:ak}{K:aI}{elts:List aq}{kx:Nat}{tp:Pos}(a e it:ai)(hei:e≠it)(X6:a≠e)(hai:a≠it) :
 Turn P w K (.Tuple elts kx tp) (xN K a) [e,it] e (λi h=>(∃old,IsEnum h e it i old)/\h.IsTupleIter it a i)where
 mem:=by simp
 obj:=λi h st b hb=>by
  obtain⟨⟨old,he⟩,o,ho,hc,hd⟩:=st;rcases eO.mp hb with rfl|hb;exact⟨_,he,λv z=>by
   have z':Data.fields _=Data.cell v:=z;cases z'⟩
  have e':b=it:=by simpa using hb
  subst e';exact⟨o,ho,λv z=>by rw[hd]at z;cases z⟩
 keep:=λi h h' st k=>by
  obtain⟨⟨old,he⟩,st⟩:=st;exact⟨⟨old,k e (by simp) _ he⟩,st.at λo q=>k it (by simp) o q⟩
 item:=by
  intro X hP hw hK hc i pins s σ H E I hf st hg;subst hP hw hK;obtain⟨xs,x,hq,hx⟩:=hg;obtain⟨⟨old,he⟩,st⟩:=st;obtain⟨its,rv,p,hz⟩:=I.tuple hq;obtain⟨u,hu,ru⟩:=rv.get hx;have hd:X.A.in1.handled=aD:=I.ok.hd hc;have p:s.heap.IsTuple a its.toArray:=p;refine wpAny_pyNext_enum_itemD (X0 hd it a hai its.toArray) he ⟨st,p⟩ (by
   have:i<its.length:=by rw[<-rv.length];exact(gZ.mp hx).1
   simpa using this) hei (by simp[hei,eT X6]) λx' h1 tk hx' ho hit hT hsz hk=>?_
  obtain rfl:u=x':=by
   have:its[i]?=aC x':=by simpa using hx'
   rw[hu]at this;cases this;rfl
  refine⟨_,rfl,wpAny_letOwnedTupleGo_enum ho λh2 Js hs2=>?_⟩;have mY:H s.heap.objs.size=aD:=I.hok.fresh (aZ _);have Rg:s.heap.objs.size≠e:=oZ (cN he);have X7:s.heap.objs.size≠it:=by obtain⟨o,q,_⟩:=st;exact oZ (cN q)
  have hs2:Heap.SameBut e h1 h2:=hs2;have kk:∀b o,b≠e->b≠it->s.heap.get? b=aC o->h2.get? b=aC o:=λb o h1 h2 q=>(hs2.2 b h1).trans (hk b o h1 h2 q);have f0:=λb hb=>(hf b hb).1;have nE:∀b o,H b=aC o->b≠e/\b≠it:=λb o q=>⟨λz=>(by rw[z,f0 e (by simp)]at q;cases q),λz=>(by rw[z,f0 it (by simp)]at q;cases q)⟩
  have hT2:h2.get? s.heap.objs.size=aC {cls:=.type "tuple",data:=.seq #[.int i tk,u]}:=(hs2.2 _ Rg).trans hT;have I2:Inv X pins σ (upd H s.heap.objs.size (.tup [.int i,x])) {s with heap:=h2,gens:=s.gens,drawn:=s.drawn,toks:=tk+1}:=by
   refine I.step (ch:=[e,it]) (λb hb=>?_) (λb o _ _ hc e1 _=>kk b o (λz=>hc (by simp[z])) (λz=>hc (by simp[z])) e1) (λb o _ _ hc e1 _=>⟨o.slots,kk b o (λz=>hc (by simp[z])) (λz=>hc (by simp[z])) e1⟩)
    (λb o hc e1 n=>by rw[bX (fN (cN e1))];exact n) (λb o hc e1=>⟨o,kk b o (λz=>hc (by simp[z])) (λz=>hc (by simp[z])) e1⟩)
    (λb ys q=>by rw[bX (iV q mY)];exact q) (λb o u q=>by rw[bX (iV q mY)];exact q) (λb ps q=>⟨#[],by rw[bX (iV q mY),q];simp⟩) (λm hm=>?_) (λb ob q=>?_) I.bare
   obtain⟨_,a1,a2,a3,a4,a5⟩:=hf b hb;exact⟨a3,a1,a4,a5⟩;obtain⟨o,es,ep,ho',r⟩:=hm;exact⟨o,es,ep,kk _ o (eT (hf e (by simp)).2.1) (eT (hf it (by simp)).2.1) ho',r⟩;by_cases hb:b=s.heap.objs.size;subst hb;rw[gn]at q;cases q;exact⟨by show 2<=sizeLine;decide,[.int i tk,u],.cons ⟨_,rfl⟩ (.cons ru .nil),⟨_,hT2,rfl,⟨_,rfl⟩,rfl⟩⟩;rw[bX hb]at q;refine(I.hok b ob q).stay (λc v hc z=>kk c v ?_ ?_ z) (λc z=>by rw[bX (iV z mY)];exact z) λc ys z=>by rw[bX (iV z mY)];exact z
   rcases hc with rfl|hc;exact(nE c ob q).1;exact(nE c _ hc).1;rcases hc with rfl|hc;exact(nE c ob q).2;exact(nE c _ hc).2
  refine⟨.ref s.heap.objs.size,_,I2,rfl,⟨_,x,rfl,mY,rfl,λys hy=>by rw[I.ia hy hq];exact hx⟩,⟨⟨u,by simpa using Js⟩,hit.1.at λo q=>(hs2.2 it (eT hei)).trans q⟩,λb hb=>?_⟩;rw[bX ?_];exact f0 b hb;rcases eO.mp hb with rfl|hb
  exact eT Rg;have e':b=it:=by simpa using hb
  subst e';exact eT X7
 done:=by
  intro X hP hw hK hc i pins s σ H E I hf st hg;subst hP hw hK;obtain⟨xs,hq,hx⟩:=hg;obtain⟨⟨old,he⟩,st⟩:=st;obtain⟨its,rv,p,hz⟩:=I.tuple hq;obtain⟨f0,f1,f2,f3,f4,f5⟩:=hf it (by simp);have hl:=rv.length;have hd:X.A.in1.handled=aD:=I.ok.hd hc;have p:s.heap.IsTuple a its.toArray:=p;refine PySem.wpAny_pyNext_enum_endD (n:=0) (P:=λ_ _=>True) (St:=λ_ h=>h.IsTupleIter it a i/\h.IsTuple a its.toArray) (fp:=[it,a]) ⟨?_,?_,?_,?_⟩ he ⟨st,p⟩ λh' eb=>⟨rfl,I.turned (t':=s.toks) (λb o hb q=>eb b o hb q) f0 f1 f3 f4 f5⟩
  exact λ_ _ st=>let⟨o,ho,_⟩:=st.1;⟨o,ho⟩;exact λ_ _ _ st hk=>⟨st.1.at λo e=>hk it (by simp) o e,Rf st.2 λo e=>hk a (by simp) o e⟩
  exact λj s' Q' E' hj=>absurd hj (AL _);exact λs' Q' E' st' q'=>Jr hd st'.1 st'.2 (by simp;lia) q'
 self:=λ_ _ _ _ _ st h=>by
  obtain⟨⟨old,he⟩,_⟩:=st;exact wpAny_pyIter_enum he h
section
variable{κ:Type}[DecidableEq κ]
noncomputable def fH(kvs:List (κ×V))(k:κ):Option V:=(kvs.find? λkv=>decide (kv.1=k)).map (·.2)
noncomputable def putK(kvs:List (κ×V))(k:κ)(v:V):List (κ×V):=
 if(kvs.any λkv=>decide (kv.1=k))=true then kvs.map (λkv=>if kv.1=k then(kv.1,v)else kv)else kvs++[(k,v)]
theorem F5{p:κ×V}{r:List (κ×V)}{k:κ}(e:p.1=k):fH (p::r) k=aC p.2:=by simp[fH,pP,e]
theorem BQ{p:κ×V}{r:List (κ×V)}{k:κ}(e:¬p.1=k):fH (p::r) k=fH r k:=by simp[fH,pP,e]
theorem Rh(k:κ):∀kvs:List (κ×V),(kvs.any λkv=>decide (kv.1=k))=(fH kvs k).isSome
 |[]=>rfl
 |p::r=>by
  rw[vec];by_cases e:p.1=k;simp only[F5 e,iT e,Bool.true_or,Option.isSome_some];rw[BQ e,jt e,Bool.false_or];exact Rh k r
theorem F6(kvs:List (κ×V))(k:κ)(v:V):(putK kvs k v).length<=kvs.length+1:=by unfold putK;split;rw[bG];lia;rw[fC,dj,List.length_nil];lia
theorem fT.n9{o:Option V}{u:Option af}(r:fT o u):o.isSome=u.isSome:=by
 cases o with
 |none=>cases u with
  |none=>rfl
  |some _=>exact(show False from r).elim
 |some _=>cases u with
  |none=>exact(show False from r).elim
  |some _=>rfl
theorem fT.getD{o:Option V}{u:Option af}{d:V}{d':af}(r:fT o u)(rd:RelV d d'):RelV (o.getD d) (u.getD d'):=by
 cases o with
 |none=>cases u with
  |none=>exact rd
  |some _=>exact(show False from r).elim
 |some _=>cases u with
  |none=>exact(show False from r).elim
  |some _=>exact r
theorem KV.val{kvs:List (κ×V)}{vs:List (κ×af)}(r:KV kvs vs)(k:κ):fT (fH kvs k) (valueAt vs k):=by
 unfold KV at r;induction r with
 |nil=>exact True.intro
 | @cons p q ps qs h t ih=>
  obtain⟨h1,h2⟩:=h;by_cases e:p.1=k;have e':q.1=k:=h1.symm.trans e;have b:valueAt (q::qs) k=aC q.2:=by simp[valueAt,pP,e']
  rw[F5 e,b];exact h2;have e':¬q.1=k:=λz=>e (h1.trans z);have b:valueAt (q::qs) k=valueAt qs k:=by simp[valueAt,pP,e']
  rw[BQ e,b];exact ih
theorem KV.any{kvs:List (κ×V)}{vs:List (κ×af)}(r:KV kvs vs)(k:κ):(kvs.any λkv=>decide (kv.1=k))=vs.any λkv=>decide (kv.1=k):=by
 unfold KV at r;induction r with|nil=>rfl|cons h t ih=>rw[vec,vec,ih,h.1]
theorem KV.repl{kvs:List (κ×V)}{vs:List (κ×af)}(r:KV kvs vs)(k:κ){y:V}{u:af}(ry:RelV y u) :
 KV (kvs.map λkv=>if kv.1=k then(kv.1,y)else kv) (vs.map λkv=>if kv.1=k then(kv.1,u)else kv):=by
 unfold KV at r ⊢;induction r with
 |nil=>exact .nil
 | @cons p q ps qs h t ih=>
  rw[fD,fD];refine .cons ?_ ih;obtain⟨h1,h2⟩:=h;by_cases e:p.1=k;rw[if_pos e,if_pos (h1.symm.trans e)];exact⟨h1,ry⟩;rw[if_neg e,if_neg (λz=>e (h1.trans z))];exact⟨h1,h2⟩
theorem KV.put{kvs:List (κ×V)}{vs:List (κ×af)}(r:KV kvs vs)(k:κ){y:V}{u:af}(ry:RelV y u):KV (putK kvs k y) (stored vs k u):=by unfold putK stored;rw[r.any k];by_cases e:(vs.any λkv=>decide (kv.1=k))=true;rw[if_pos e,if_pos e];exact r.repl k ry;rw[if_neg e,if_neg e];exact Paired.snoc r ⟨rfl,ry⟩
theorem KV.keys{kvs:List (κ×V)}{vs:List (κ×af)}(r:KV kvs vs):kvs.map (·.1)=vs.map (·.1):=by
 unfold KV at r;induction r with|nil=>rfl|cons h t ih=>rw[fD,fD,ih,h.1]
theorem KV.length{kvs:List (κ×V)}{vs:List (κ×af)}(r:KV kvs vs):kvs.length=vs.length:=zE r
end
theorem jI{P:aj}{w:ak}{k:Key}{u:af}(r:RelV (kV k) u):(i9 P w).is k u=true:=by
 cases k with|inl i=>obtain⟨t,e⟩:=(show ∃t,u=Value.int i t from r);subst e;exact VP P w i t|inr x=>obtain⟨t,e⟩:=(show ∃t,u=Value.str x t from r);subst e;exact VQ P w x t
theorem Ri{P:aj}{w:ak}:∀{ks:List Key} {us:List af},Vals (ks.map kV) us->ItemsAre (i9 P w) ks us
 |[],_,r=>by rw[AJ]at r;cases r;exact .nil
 |k::ks,_,r=>by
  rw[fD]at r;cases r with|cons h t=>exact .cons (jI h) (Ri t)
noncomputable abbrev KT(H:Hp):List (List Key×V)->List (List Key×ai×af)->Prop:=Paired λp q=>p.1=q.1/\H q.2.1=aC (.tup (p.1.map kV))/\RelV p.2 q.2.2
theorem KT.val{H:Hp}{kvs:List (List Key×V)}{xs:List (List Key×ai×af)}(r:KT H kvs xs)(k:List Key):fT (fH kvs k) ((atKey xs k).map (·.2)):=by
 induction r with
 |nil=>exact True.intro
 | @cons p q ps qs h t ih=>
  obtain⟨h1,_,h2⟩:=h;by_cases e:p.1=k;have e':q.1=k:=h1.symm.trans e;have b:atKey (q::qs) k=aC q.2:=by simp[atKey,pP,e']
  rw[F5 e,b];exact h2;have e':¬q.1=k:=λz=>e (h1.trans z);have b:atKey (q::qs) k=atKey qs k:=by simp[atKey,pP,e']
  rw[BQ e,b];exact ih
theorem KT.repl{H:Hp}{kvs:List (List Key×V)}{xs:List (List Key×ai×af)}(r:KT H kvs xs)(k:List Key){y:V}{u:af}(ry:RelV y u) :
 KT H (kvs.map λkv=>if kv.1=k then(kv.1,y)else kv) (xs.map (putAt k u)):=by
 induction r with
 |nil=>exact .nil
 | @cons p q ps qs h t ih=>
  rw[fD,fD];refine .cons ?_ ih;obtain⟨h1,h2,h3⟩:=h;unfold putAt;by_cases e:p.1=k;rw[if_pos e,if_pos (h1.symm.trans e)];exact⟨h1,h2,ry⟩;rw[if_neg e,if_neg (λz=>e (h1.trans z))];exact⟨h1,h2,h3⟩
theorem KT.put{H:Hp}{kvs:List (List Key×V)}{xs:List (List Key×ai×af)}(r:KT H kvs xs)(k:List Key){b:ai}{y:V}{u:af}(hb:H b=aC (.tup (k.map kV)))(ry:RelV y u) :
 KT H (putK kvs k y) (storedH xs k b u):=by
 have e:(kvs.any λkv=>decide (kv.1=k))=(atKey xs k).isSome:=by rw[Rh,(r.val k).n9,Option.isSome_map]
 unfold putK storedH;rw[e];by_cases q:(atKey xs k).isSome=true;rw[if_pos q,if_pos q];exact r.repl k ry;rw[if_neg q,if_neg q];exact Paired.snoc r ⟨rfl,hb,ry⟩
theorem KT.keeps{H H':Hp}{kvs:List (List Key×V)}{xs:List (List Key×ai×af)}(r:KT H kvs xs)(ht:∀b ys,H b=aC (.tup ys)->H' b=aC (.tup ys)):KT H' kvs xs:=
 Paired.xj r λ_ _ z=>⟨z.1,ht _ _ z.2.1,z.2.2⟩
section
variable{P:aj}{w:ak}{H:Hp}{h:aA}{a:ai}
theorem u7{u:HO}(ok:eE P w H h)(e:Rd H a u):br P w H h a u:=e.ok ok
theorem jJ{kvs:List (Key×V)}(ok:eE P w H h)(e:Rd H a (.dK kvs)):kvs.length<=sizeLine/\(a==sysModules)=false/\∃vs,KV kvs vs/\h.DictOf (i9 P w) a vs:=
 show br P w H h a (.dK kvs)from u7 ok e
theorem kJ{kvs:List (Key×V)}(ok:eE P w H h)(e:H a=aC (.dK kvs)):kvs.length<=sizeLine/\(a==sysModules)=false/\∃vs,KV kvs vs/\h.DictOf (i9 P w) a vs:=jJ ok (.inl e)
theorem F7{ks:List Key}(ok:eE P w H h)(e:H a=aC (.tup (ks.map kV))):(tupleKind (i9 P w)).is h ks a:=by
 obtain⟨_,its,r,o,h1,h2,⟨n,h3⟩,_⟩:=(show br P w H h a (.tup (ks.map kV))from ok a _ e)
 exact⟨o,its.toArray,n,h1,h2,h3,by simpa using Ri r⟩
theorem kK{kvs:List (List Key×V)}(ok:eE P w H h)(e:Rd H a (.dT kvs)):kvs.length<=sizeLine/\(a==sysModules)=false/\
 ∃xs,KT H kvs xs/\h.DictOfH (tupleKind (i9 P w)) a xs:=by
 obtain⟨z,y,xs,r,o,es,ep,h1,h2,h3,h4,h5⟩:=(show br P w H h a (.dT kvs)from u7 ok e)
 refine⟨z,y,xs,r,o,es,ep,h1,h2,h3,h4,λx hx=>?_,h5⟩;have all:∀{l:List (List Key×V)}{m:List (List Key×ai×af)},KT H l m->∀x∈m,(tupleKind (i9 P w)).is h x.1 x.2.1:=by
  intro l m q;induction q with
  |nil=>intro x hx;exact nomatch hx
  | @cons p q ps qs hq t ih=>
   intro x hx;rcases eO.mp hx with e|hx
   subst e;exact F7 ok (by rw[<-hq.1];exact hq.2.1);exact ih x hx
 exact all r x hx
theorem BR{kvs:List (List Key×V)}(ok:eE P w H h)(e:H a=aC (.dT kvs)):kvs.length<=sizeLine/\(a==sysModules)=false/\
 ∃xs,KT H kvs xs/\h.DictOfH (tupleKind (i9 P w)) a xs:=kK ok (.inl e)
end
noncomputable def oh(H:Hp)(a:ai)(y:V)(r:Option V):Prop:=
 (∃kvs k,Rd H a (.dK kvs)/\y=kV k/\r=fH kvs k)\/∃kvs k b,Rd H a (.dT kvs)/\y=.ref b/\H b=aC (.tup (k.map kV))/\r=fH kvs k
noncomputable def tG(H:Hp)(a:ai)(y v:V)(H':Hp):Prop:=
 (∃kvs k,H a=aC (.dK kvs)/\y=kV k/\kvs.length<sizeLine/\H'=upd H a (.dK (putK kvs k v)))\/
 ∃kvs k b,H a=aC (.dT kvs)/\y=.ref b/\H b=aC (.tup (k.map kV))/\kvs.length<sizeLine/\H'=upd H a (.dT (putK kvs k v))
theorem tG.k{H:Hp}{a:ai}{kvs:List (Key×V)}{k:Key}{v:V}(e:H a=aC (.dK kvs))(hl:kvs.length<sizeLine):tG H a (kV k) v (upd H a (.dK (putK kvs k v))):=.inl ⟨kvs,k,e,rfl,hl,rfl⟩
section
variable{X:Cx}{pins:List (ai×Obj)}{σ:St}{H:Hp}{s:ah}{a:ai}{y v:V}{u r:af}{o:Option V}{A:ao}{E:af->ah->Prop}
theorem Inv.big(I:Inv X pins σ H s):sysModules<s.heap.objs.size:=by have h:mainGlobals<s.heap.objs.size:=(I.mod.glob.keeps I.bk).lt;exact Nat.lt_trans (by decide) h
theorem X8{Q:af->ah->Prop}(hu:A.units+1<cLine)(I:Inv X pins σ H s)(g:oh H a y (aC v))(ry:RelV y u)(h:∀w' s',Inv X pins σ H s'->RelV v w'->Q w' s') :
 wpAny (model X.prog X.w) A (getItem (.ref a) u) Q E s:=by
 rcases g with⟨kvs,k,e,ey,l⟩|⟨kvs,k,b,e,ey,eb,l⟩;subst ey;obtain⟨z,hd,vs,rel,dd⟩:=jJ I.hok e;obtain⟨w',hw,rw'⟩:=fT.some_of (v:=v) (o:=valueAt vs k) (by rw[l];exact rel.val k);exact wpAny_getItem_of (jI ry) dd.mapOf hw (h w' _ (I.tok _) rw');subst ey;cases(show u=Value.ref b from ry);obtain⟨z,hd,xs,rel,dd⟩:=kK I.hok e;obtain⟨w',hw,rw'⟩:=fT.some_of (v:=v) (o:=(atKey xs k).map (·.2)) (by rw[l];exact rel.val k);obtain⟨p,hp,hp2⟩:=Option.map_eq_some_iff.mp hw;refine wpAny_getItem_heap (tupleKind_room_in1 hu) (F7 I.hok eb) dd hp ?_;rw[hp2];exact h w' _ (I.tok _) rw'
theorem BS{h':aA}{t':Nat}{ob:HO}(I:Inv X pins σ H s)(mu:AZ (H a))(hs:Heap.SameBut a s.heap h')(he:∃q,h'.get? a=aC q)(new:br X.prog X.w (upd H a ob) h' a ob) :
 Inv X pins σ (upd H a ob) {s with heap:=h',toks:=t'}:=
 I.write (x:=a) (e:=a) mu (.inl rfl) (λb q hb z=>(hs.2 b hb).trans z) he new
theorem F8{P:aj}{w:ak}{H':Hp}{h':aA}{kvs:List (Key×V)}{vs:List (Key×af)}(z:kvs.length<=sizeLine)(hd:(a==sysModules)=false)(rel:KV kvs vs)(dd:h'.DictOf (i9 P w) a vs) :
 br P w H' h' a (.dK kvs):=⟨z,hd,vs,rel,dd⟩
theorem Yb{H':Hp}{Q:Unit->ah->Prop}(hu:A.units+1<cLine)(I:Inv X pins σ H s)(g:tG H a y v H')(ry:RelV y u)(rv:RelV v r)(h:∀s',Inv X pins σ H' s'->Q () s') :
 wpAny (model X.prog X.w) A (setItem (.ref a) u r) Q E s:=by
 rcases g with⟨kvs,k,e,ey,l,eH⟩|⟨kvs,k,b,e,ey,eb,l,eH⟩;subst ey eH;obtain⟨z,hd,vs,rel,dd⟩:=kJ I.hok e;have hz:vs.length<=sizeLine:=by rw[<-rel.length];exact z
 have hl:(putK kvs k v).length<=sizeLine:=by have:=F6 kvs k v;lia
 refine wpAny_setItem_pairs (hsz:=hz) (jI ry) dd λh' mZ hs=>h _ ?_;have he:∃q,h'.get? a=aC q:=let⟨q,_,_,hq,_⟩:=mZ;⟨q,hq⟩;exact BS I (by rw[e];exact True.intro) hs he (F8 hl hd (rel.put k rv) mZ);subst ey eH;cases(show u=Value.ref b from ry);obtain⟨z,hd,xs,rel,dd⟩:=BR I.hok e;have hz:xs.length<=sizeLine:=by rw[<-zE rel];exact z
 have hl:(putK kvs k v).length<=sizeLine:=by have:=F6 kvs k v;lia
 refine wpAny_setItem_heap (hsz:=hz) (tupleKind_room_in1 hu) (F7 I.hok eb) dd λh' mZ hs=>h _ ?_;obtain⟨q,es,ep,hq,h2,h3,h4,_,h5⟩:=mZ;refine BS I (by rw[e];exact True.intro) hs ⟨q,hq⟩ ⟨hl,hd,_,(rel.put k eb rv).keeps λc ys ec=>?_,q,es,ep,hq,h2,h3,h4,h5⟩;rw[bX (dH ec e (λz=>nomatch z))];exact ec
end
theorem Yc{X:Cx}{pins:List (ai×Obj)}{σ:St}{H:Hp}{s:ah}{a:ai}{y:V}{o:Option V}(I:Inv X pins σ H s)(g:oh H a y o):s.TypeIs (.ref a) "dict":=by rcases g with⟨kvs,k,e,_,_⟩|⟨kvs,k,b,e,_,_,_⟩;obtain⟨_,_,vs,_,dd⟩:=jJ I.hok e;exact dd.typeIs;obtain⟨_,_,xs,_,dd⟩:=kK I.hok e;exact dd.typeIs
theorem Jt{P:aj}{w:ak}{H:Hp}(h:aA)(hb:sysModules<h.objs.size):br P w H (h.push {cls:=.type "dict",data:=.dict #[]}) h.objs.size (.dK []):=
 ⟨lS _,E4.mpr (eT (fN hb)),[],.nil,Heap.DictOf.new h⟩
noncomputable def Yd:TE:=λ_ H Q=>∀p,H p=aD->Q (.ref p) (upd H p (.dK []))
section
variable{X:Cx}{pos:Pos}
theorem Ye:PE X (.Dict [] [] pos) Yd:=λpins s σ H Q I h=>
 wpAny_Dict_empty ⟨.ref s.heap.objs.size,_,I.laid (a:=s.heap.objs.size) (o:=.dK []) (t':=s.toks) (λ_ _ q=>cH _ q) (aZ _) (Jt s.heap I.big),rfl,h _ (I.hok.fresh (aZ _))⟩
end
noncomputable def F9:List (TE×TE)->St->Hp->(List (V×V)->Hp->Prop)->Prop|[],_,H,Q=>Q [] H|(tk,tv)::r,σ,H,Q=>tk σ H λx H1=>tv σ H1 λy H2=>F9 r σ H2 λps H3=>Q ((x,y)::ps) H3
noncomputable abbrev VV:List (V×V)->List (af×af)->Prop:=Paired λp q=>RelV p.1 q.1/\RelV p.2 q.2
noncomputable def BU(X:Cx)(pos:Pos)(keys:List (Option aq))(values:List aq)(m5:List (TE×TE)):Prop:=
 ∀(pins:List (ai×Obj))(s:ah)(σ:St)(H:Hp)(Q:List (V×V)->Hp->Prop),Inv X pins σ H s->F9 m5 σ H Q->
  wpAny (model X.prog X.w) X.A (evalPairs (pairTrees keys values X.env pos)) (λvs s'=>∃ps H',Inv X pins σ H' s'/\VV ps vs/\Q ps H') X.xe s
theorem Yg{X:Cx}{pos:Pos}:BU X pos [] [] []:=λpins s σ H Q I h=>pairTrees_nil_walk ⟨[],H,I,.nil,h⟩
theorem Yh{X:Cx}{pos:Pos}{k v:aq}{ks:List (Option aq)}{vs:List aq}{tk tv:TE}{m5:List (TE×TE)}(hk:PE X k tk)(hv:PE X v tv)(hr:BU X pos ks vs m5) :
 BU X pos (aC k::ks) (v::vs) ((tk,tv)::m5):=λpins s σ H Q I h=>
 pairTrees_cons_walk (bg (hk pins s σ H _ I h) λu s1 z9=>z9.el λx H1 I1 rx q1=>bg (hv pins s1 σ H1 _ I1 q1) λw2 s2 z9=>z9.el λy H2 I2 ry q2=>
  bg (hr pins s2 σ H2 _ I2 q2) λws s3 ⟨ps,H3,I3,rel,q3⟩=>⟨(x,y)::ps,H3,I3,.cons ⟨rx,ry⟩ rel,q3⟩)
noncomputable def rV(kvs more:List (Key×V)):List (Key×V):=more.foldl (λacc kv=>putK acc kv.1 kv.2) kvs
theorem KV.merge:∀{more:List (Key×V)} {rs:List (Key×af)} {kvs:List (Key×V)} {vs:List (Key×af)},KV more rs->KV kvs vs->KV (rV kvs more) (merged vs rs):=by
 intro more rs kvs vs r;unfold KV at r;induction r generalizing kvs vs with
 |nil=>intro q;exact q
 | @cons p q ps qs h t ih=>
  intro r0;have e:KV (putK kvs p.1 p.2) (stored vs q.1 q.2):=by have:=r0.put p.1 h.2;rw[<-h.1];exact this
  exact ih e
theorem Ju:∀(more kvs:List (Key×V)),(rV kvs more).length<=kvs.length+more.length
 |[],kvs=>by show kvs.length<=kvs.length+0;lia
 |p::r,kvs=>by
  have h1:=Ju r (putK kvs p.1 p.2);have h2:=F6 kvs p.1 p.2;show(rV (putK kvs p.1 p.2) r).length<=_;rw[dj];lia
theorem Rj{P:aj}{w:ak}:∀{kvs:List (Key×V)} {ws:List (af×af)},VV (kvs.map λkv=>(kV kv.1,kv.2)) ws->∃rs,Carries (i9 P w) ws rs/\KV kvs rs
 |[],_,r=>by rw[AJ]at r;cases r;exact⟨[],True.intro,.nil⟩
 |p::kvs,_,r=>by
  rw[fD]at r;cases r with
  | @cons a b as bs h t=>
   obtain⟨rs,c,q⟩:=Rj (P:=P) (w:=w) t;obtain⟨b1,b2⟩:=b;exact⟨(p.1,b2)::rs,⟨jI h.1,rfl,c⟩,.cons ⟨rfl,h.2⟩ q⟩
noncomputable def BV(m5:List (TE×TE)):TE:=λσ H Q=>∀p,H p=aD->F9 m5 σ (upd H p (.dK [])) λps H2=>H2 p=aC (.dK [])/\∃kvs:List (Key×V),ps=kvs.map (λkv=>(kV kv.1,kv.2))/\kvs.length<=15/\Q (.ref p) (upd H2 p (.dK (rV [] kvs)))
theorem Yi{X:Cx}{pos:Pos}{keys:List (Option aq)}{values:List aq}{m5:List (TE×TE)}(h:BU X pos keys values m5)(hall:keys.all (·.isSome))(hl:keys.length=values.length)(h0:keys≠[])
 (Jv:keys.length<=15):PE X (.Dict keys values pos) (BV m5):=by
 intro pins s σ H Q I q;have hn:=I.hok.fresh (aZ s.heap.objs.size);have I1:=I.laid (a:=s.heap.objs.size) (o:=.dK []) (h':=s.heap.push {cls:=.type "dict",data:=.dict #[]}) (t':=s.toks) (λ_ _ q=>cH _ q) (aZ _) (Jt s.heap I.big);refine wpAny_Dict_walk (knd:=i9 X.prog X.w) hall hl h0 Jv (bg (h pins _ σ _ _ I1 (q _ hn)) λws s2 cj=>?_);obtain⟨ps,H2,I2,rel,e,kvs,ep,lk,q2⟩:=cj;subst ep;obtain⟨rs,c,rk⟩:=Rj (P:=X.prog) (w:=X.w) rel;obtain⟨z,hd,tH,r0,dd⟩:=kJ I2.hok e;cases r0;refine⟨rs,c,dd,λh' mZ hs=>⟨.ref s.heap.objs.size,_,?_,rfl,q2⟩⟩;have hz:(rV [] kvs).length<=sizeLine:=by have h1:=Ju kvs [];rw[List.length_nil]at h1;rw[AH];lia
 have he:∃q,h'.get? s.heap.objs.size=aC q:=let⟨q,_,_,hq,_⟩:=mZ;⟨q,hq⟩;exact BS I2 (by rw[e];exact True.intro) hs he (F8 hz hd (rk.merge .nil) mZ)
structure M2(X:Cx)(o:aq)(m:Str)(apos:Pos)(e f:aq)(cpos:Pos):Prop where
 base:attributeBase o m X.env (eval o X.env)=eval o X.env
 few:((backTo cpos (starEach [e,f] X.env)).all (λx=>!x.1)&& (backToKw cpos (keywordEach [] X.env)).all (λx=>x.1.isSome)
  && decide (([e,f]:List aq).length+ ([]:List Keyword).length+ (if([]:List Keyword).isEmpty then 0 else 1)<30))=true
 line:(apos.endLine==cpos.line)=true
 trees:backTo cpos (starEach [e,f] X.env)=[(false,eval e X.env),(false,eval f X.env)]
noncomputable def Rk(H:Hp)(a:ai):Prop:=(∃kvs,Rd H a (.dK kvs))\/∃kvs,Rd H a (.dT kvs)
theorem Yj{X:Cx}{pins:List (ai×Obj)}{σ:St}{H:Hp}{s:ah}{a:ai}(I:Inv X pins σ H s)(d:Rk H a) :
 s.TypeIs (.ref a) "dict"/\(∀b,Value.ref a=.ref b->∃ob,s.heap.get? b=aC ob/\ob.dict=aD)/\(a==sysModules)=false:=by
 rcases d with⟨kvs,e⟩|⟨kvs,e⟩;obtain⟨_,hd,vs,_,dd⟩:=jJ I.hok e;refine⟨dd.typeIs,λb q=>?_,hd⟩;cases q;obtain⟨ob,_,_,h1,h2,_⟩:=dd;exact⟨ob,h1,h2.2.1⟩;obtain⟨_,hd,xs,_,dd⟩:=kK I.hok e;refine⟨dd.typeIs,λb q=>?_,hd⟩;cases q;obtain⟨ob,_,_,h1,h2,_⟩:=dd;exact⟨ob,h1,h2.2.1⟩
section
variable{X:Cx}{pins:List (ai×Obj)}{σ:St}{H:Hp}{s:ah}{a:ai}{y d:V}{u r:af}{o:Option V}{A:ao}{E:af->ah->Prop}
theorem Yk{Q:af->ah->Prop}(hu:A.units+1<cLine)(I:Inv X pins σ H s)(g:oh H a y o)(ry:RelV y u)(rd:RelV d r)(h:∀w' s',Inv X pins σ H s'->RelV (o.getD d) w'->Q w' s') :
 wpAny (model X.prog X.w) A (call (.builtin "dict.get") [.ref a,u,r]) Q E s:=by
 rcases g with⟨kvs,k,e,ey,l⟩|⟨kvs,k,b,e,ey,eb,l⟩;subst ey;obtain⟨z,hd,vs,rel,dd⟩:=jJ I.hok e;refine call_meetsIn PySem.F.slot_dict_get dd.typeIs PySem.F.entry_dict_get (PySem.F.args_dict_get_3 _ _ _) (meets_dict_get_default (i9 X.prog X.w) a (jI ry) hd r) ⟨_,dd.mapOf,h _ _ (I.tok _) ?_⟩;rw[l];exact(rel.val k).getD rd;subst ey;cases(show u=Value.ref b from ry);obtain⟨z,hd,xs,rel,dd⟩:=kK I.hok e;refine call_meetsIn PySem.F.slot_dict_get dd.typeIs PySem.F.entry_dict_get (PySem.F.args_dict_get_3 _ _ _) (meetsH_dict_get_default (tupleKind (i9 X.prog X.w)) a b hd r) ⟨tupleKind_room_in1 hu,k,xs,F7 I.hok eb,dd,h _ _ (I.tok _) ?_⟩;rw[l];exact(rel.val k).getD rd
end
noncomputable def Yl(td ty tx:TE):TE:=λσ H Q=>td σ H λx H1=>∃a,x=.ref a/\Rk H1 a/\ty σ H1 λy H2=>tx σ H2 λz H3=>∃o,oh H3 a y o/\Q (o.getD z) H3
section
variable{X:Cx}{o e f:aq}{apos cpos:Pos}{td ty tx:TE}
theorem Ym(hu:X.A.units+1<cLine)(ho:PE X o td)(he:PE X e ty)(hf:PE X f tx)(m:M2 X o "get" apos e f cpos):PE X (.Call (.Attribute o "get" apos) [e,f] [] cpos) (Yl td ty tx):=by
 intro pins s σ H Q I h;refine wpAny_Call_method m.base m.few m.line PySem.F.plainAttrs_dict PySem.F.slot_dict_get PySem.F.type_dict_get (bg (ho pins s σ H _ I h) λu s1 z9=>z9.el λx H1 I1 rx cj=>?_);obtain⟨a,ex,d,q1⟩:=cj;subst ex;obtain rfl:u=Value.ref a:=rx;obtain⟨t1,t2,_⟩:=Yj I1 d;refine⟨t1,t2,?_⟩;rw[m.trees];refine Calls.callWith_builtin rfl (Calls.evalArgs_plain (Calls.spliced_cons (bg (he pins s1 σ H1 _ I1 q1) λiv s2 z9=>z9.el λy H2 I2 ry q2=>
  Calls.spliced_cons (bg (hf pins s2 σ H2 _ I2 q2) λfv s3 z9=>z9.el λz H3 I3 rz ⟨ov,g,q3⟩=>Calls.spliced_nil ?_))))
 exact Yk hu I3 g ry rz λw' s4 I4 rw'=>⟨_,H3,I4,rw',q3⟩
end
noncomputable def jK(e tg iter:aq)(ifs:List aq)(it acc:af)(env:Env)(emit:Sem Unit):Sem Fin:=do
 standAt iter.pos
 match <-pyNext it with
 |none=>pure (.done .next)
 |some v=>
  letOwnedTupleGo tg it v
  assign tg env v
  let ok <-BL ifs env
  if ok then emit
  again (.compLoop e 0 it acc env)
theorem Yn{prog:aj}{w:ak}{A:ao}{R:Result->ah->Prop}{s:ah}{e target iter:aq}{ifs:List aq}{it acc:af}{env:Env}{emit:Sem Unit}(he:compTurn e 0 it acc env=jK e target iter ifs it acc env emit)
 (hd:(model prog w).den (.compLoop e 0 it acc env)=(compTurn e 0 it acc env).onRaise (λx=>do noteFrame x env;theTreesLotGoes x)) (hA:A.under (.compLoop e 0 it acc env)=A) (I:Nat->ah->Prop)
 (turn:∀n s,I n s->wpAny (model prog w) A (pyNext it) (λr s₁=>match r with
   |none=>R (.ok .next) s₁
   |some v=>wpAny (model prog w) A (letOwnedTupleGo target it v) (λ_ s₀=>wpAny (model prog w) A (assign target env v) (λ_ s₂=>
    wpAny (model prog w) A (BL ifs env) (λok s₃=>
     if ok=true then wpAny (model prog w) A emit (λ_ s₅=>∃m,m<n/\I m s₅) kj s₃
     else ∃m,m<n/\I m s₃) kj s₂) kj s₀) kj s₁) kj s)
 (n:Nat) (h:I n s):codeAny (model prog w) A (.compLoop e 0 it acc env) R s:=by
 refine codeAny_loop rfl I (λn s hI=>?_) n h;rw[hd,hA];refine wpAny_noted (Q6 ?_);rw[he];unfold jK;refine aK (kB (aK (iC (turn n s hI) (λr s₁ h₁=>?_) λ_ _ z=>z)));cases r with
 |none=>exact bR h₁
 |some v=>
  refine aK (iC h₁ (λ_ s₀ h₀=>?_) λ_ _ z=>z);refine aK (iC h₀ (λ_ s₂ h₂=>aK (iC h₂ (λok s₃ h₃=>?_) λ_ _ z=>z)) λ_ _ z=>z);cases ok with
  |true=>
   simp only[dg]at h₃ ⊢;exact aK (iC h₃ (λ_ s₅ h₅=>bR ⟨rfl,h₅⟩) λ_ _ z=>z)
  |false=>
   simp only[gY,fM]at h₃ ⊢;exact bR ⟨rfl,h₃⟩
theorem Yo{prog:aj}{w:ak}{A:ao}{R:Result->ah->Prop}{s:ah}{e target iter:aq}{ifs:List aq}{rest:List Comprehension}{it acc:af}{env:Env}(hcl:clausesOf e=⟨target,iter,ifs,0⟩::rest)
 (hd:(model prog w).den (.compStart e 0 it acc env)=(compStart e 0 it acc env).onRaise (λx=>do noteFrame x env;standAt theWindowsPlace)) (hA:A.under (.compStart e 0 it acc env)=A)
 (h0:codeAny (model prog w) A (.compLoop e 0 it acc env) R s)
 (h:wpAny (model prog w) A (pyIter it) (λj s'=>codeAny (model prog w) A (.compLoop e 0 j acc env) R s') (notedBy (model prog w) A env λx s'=>R (.error x) s') s) :
 codeAny (model prog w) A (.compStart e 0 it acc env) R s:=by
 refine codeAny_of_tree ?_;rw[hd,hA];refine wpAny_notedAt ?_;unfold compStart;rw[hcl];show wpAny _ _ (ask >>= _) _ _ s;refine aK (wpAny_askSetting (zp ?_));split;first
  |exact aK (bR (bR (And.intro rfl h0)))
  |exact bR (And.intro rfl h0)
 first
  |exact aK (sN (aK (kB (aK (iC h (λj s' h'=>bR ⟨rfl,h'⟩) λ_ _ z=>z)))))
  |(refine aK (sN ?_);show wpAny _ _ (standAt iter.pos >>= _) _ _ s;exact aK (kB (aK (iC h (λj s' h'=>bR ⟨rfl,h'⟩) λ_ _ z=>z))))
noncomputable abbrev TM:=St->Hp->(St->Hp->Prop)->Prop
noncomputable def PM(X:Cx)(emit:Sem Unit)(t:TM):Prop:=∀(pins:List (ai×Obj)) (s:ah) (σ:St) (H:Hp) (Q:St->Hp->Prop),Inv X pins σ H s->t σ H Q->wpAny (model X.prog X.w) X.A emit (λ_ s'=>∃σ' H',Inv X pins σ' H' s'/\Q σ' H') X.xe s
structure jL(P:aj)(w:ak)(e tg iter:aq)(ifs:List aq)(emit:af->Env->Sem Unit)(newAcc:Sem af)(ob:Obj)(u0:HO):Prop where
 cl:∃rest,clausesOf e=⟨tg,iter,ifs,0⟩::rest
 turn:∀it acc env,compTurn e 0 it acc env=jK e tg iter ifs it acc env (emit acc env)
 dl:∀it acc env,(model P w).den (.compLoop e 0 it acc env)=(compTurn e 0 it acc env).onRaise (λx=>do noteFrame x env;theTreesLotGoes x)
 ds:∀it acc env,(model P w).den (.compStart e 0 it acc env)=(compStart e 0 it acc env).onRaise (λx=>do noteFrame x env;standAt theWindowsPlace)
 al:∀(A:ao) it acc env,A.under (.compLoop e 0 it acc env)=A
 as:∀(A:ao) it acc env,A.under (.compStart e 0 it acc env)=A
 new:∀(A:ao)(s:ah)(Q:af->ah->Prop)(E:af->ah->Prop),Q (.ref s.heap.objs.size) {s with heap:=s.heap.push ob}->wpAny (model P w) A newAcc Q E s
 ok:∀(H:Hp)(h:aA),sysModules<h.objs.size->br P w H (h.push ob) h.objs.size u0
noncomputable def u9(J:It)(f:St)(g:TG)(tc:TT)(tm:TM)(u0:HO)(D:ai)(H1:Hp)(Q:Hp->Prop):Prop:=
 ∃W:Nat->Nat->St->Hp->Prop,(∃m,W 0 m f (upd H1 D u0))/\∀i m σ' H',W i m σ' H'->
  ((J.stop i H'/\Q H')\/(J.go i H'/\∀x H2,J.xy i H' x H2->g x σ' H2 λσ2 H3=>tc σ2 H3 λb H4=>
    if b=true then tm σ2 H4 λqk H5=>∃m',m'<m/\W (i+1) m' qk H5
    else ∃m',m'<m/\W (i+1) m' σ2 H4))
noncomputable def BW(K:aI)(f:St->St)(wi:TI)(g:TG)(tc:TT)(tm:ai->TM)(u0:HO):TE:=λσ H Q=>wi σ H λJ H1=>∀D,H1 D=aD->K.lookup D=aD->u9 J (f σ) g tc (tm D) u0 D H1 λH'=>Q (.ref D) H'
section
variable{X:Cx}{ow fr:List Str}{ix:List Nat}{scope:az}{e tg iter:aq}{ifs:List aq}{pos:Pos}{wi:TI}{g:TG}{tc:TT}{tm:ai->TM}{emit:af->Env->Sem Unit}{newAcc:Sem af}{ob:Obj}{u0:HO}
theorem zev{pins:List (ai×Obj)}{s:ah}{σ:St}{Q:VK}{RR:af->ai->Result->ah->Prop}(CK:jL X.prog X.w e tg iter ifs emit newAcc ob u0)(S:bq X ow fr ix scope)(hc:X.calm=true)
 (hg:∀C s₀ H₀ ex,PG (X.comp (ow++fr) scope C s₀ H₀ ex) tg g) (ht:∀C s₀ H₀ ex,jH (X.comp (ow++fr) scope C s₀ H₀ ex) ifs tc) (he:∀C s₀ H₀ ex D,PM (X.comp (ow++fr) scope C s₀ H₀ ex) (emit (.ref D) (X.comp (ow++fr) scope C s₀ H₀ ex).env) (tm D))
 {itv:af} {E:af->ah->Prop}
 (h:FT X pins σ tg (λJ H1=>∀D,H1 D=aD->X.K.lookup D=aD->u9 J (l5 ow fr ix σ) g tc (tm D) u0 D H1 λH'=>Q (.ref D) H') itv s)
 (fin:∀D C H' s' m,fU X pins H' C->s'.heap.Ns C m->(∀h'',Heap.SameBut C s'.heap h''->Inv X pins σ H' {s' with heap:=h''})->Q (.ref D) H'->RR (.ref D) C (.ok .next) s') :
 wpAny (model X.prog X.w) X.A newAcc (λacc s₃=>wpAny (model X.prog X.w) X.A (newFunctionEnv scope X.env.globals (ki X.env.cells scope.names []) [] X.env.qual aD .none (aC X.env)) (λcenv s₄=>
  codeAny (model X.prog X.w) X.A (.compStart e 0 itv acc {cenv with scope:=relabel scope X.env}) (RR acc cenv.locals) s₄) E s₃) E s:=by
 obtain⟨it,fp,tn,J,H1,ei,I1,T,st1,f1,hq⟩:=h;subst ei;have hD:H1 s.heap.objs.size=aD:=I1.hok.fresh (aZ _);have Yp:X.K.lookup s.heap.objs.size=aD:=by
  cases q:X.K.lookup s.heap.objs.size with|none=>rfl|some o=>exact absurd (cN (I1.gT _ _ q)) (g9 _)
 obtain⟨W,⟨m0,w0⟩,turn⟩:=hq _ hD Yp;have I3:Inv X pins σ (upd H1 s.heap.objs.size u0) {s with heap:=s.heap.push ob}:=I1.laid (t':=s.toks) (o:=u0) (λb u q=>cH _ q) (aZ _) (CK.ok _ _ I1.big);have BX:∀b∈fp,b<s.heap.objs.size:=λb hb=>by
  obtain⟨o,ho,_⟩:=T.obj _ _ st1 b hb;exact cN ho
 have f3:∀b∈fp,fU X pins (upd H1 s.heap.objs.size u0) b:=λb hb=>⟨by rw[bX (fN (BX b hb))];exact(f1 b hb).1,(f1 b hb).2⟩
 refine CK.new _ _ _ _ (XC (λx c e=>(I3.cell x c (Jd (cells:=X.env.cells) scope.names [] (λx c e=>by cases e) x c e)).elim λv q=>q.lt) (λh₁ hns hk0 hnc=>?_));dsimp only at hns hk0 hnc ⊢;generalize Rl:({s with heap:=s.heap.push ob}:ah)=s3 at I3;have tK:s3.heap=s.heap.push ob:=by rw[<-Rl]
 rw[<-tK]at hns hk0 hnc ⊢;have hk:∀b o,s3.heap.get? b=aC o->h₁.get? b=aC o:=hk0;have Jw:∀b∈fp,b<s3.heap.objs.size:=λb hb=>by rw[tK,kg];exact zy (BX b hb)
 have J3:=XE S I3 f3 Jw (tk:=s.toks) hns hk hnc;have st3:tn 0 h₁:=T.keep _ _ _ st1 λb hb o q=>hk b o (by rw[tK];exact cH _ q);generalize oj:X.comp (ow++fr) scope s3.heap.objs.size s3 (upd H1 s.heap.objs.size u0) fp=Y at J3;have Jx:∀b∈fp,Y.Ok->∀{H':Hp},H' b=aD->fU Y [] H' b:=λb hb ok H' hn=>by
  subst oj;exact⟨hn,(ok.zJ b hb).1,ok.lX b hb,.inl hb,(ok.zJ b hb).2,λp hp=>by cases(show p∈([]:List (ai×Obj))from hp)⟩
 have back:∀{σ':St}{H':Hp}{s':ah},Inv Y [] σ' H' s'->∀h'',Heap.SameBut s3.heap.objs.size s'.heap h''->Inv X pins σ H' {s' with heap:=h''}:=λ{σ' H' s'} I' h'' hs=>by
  subst oj;have uT:∀b o,s3.heap.get? b=aC o->b≠s3.heap.objs.size:=λb o q=>fN (cN q);have un:Un (frs X.stack) fp (upd H1 s.heap.objs.size u0) H' s3.heap h'':=
   ⟨λb o q n hb hx=>(hs.2 b (uT b o q)).trans (I'.base.keep b o q n hb hx),λb o q n hb hx=>by
    obtain⟨sl,z⟩:=I'.base.slot b o q n hb hx;exact⟨sl,(hs.2 b (uT b o q)).trans z⟩,I'.base.free,λb o q hx=>by
    obtain⟨o',z⟩:=I'.base.there b o q hx;exact⟨o',(hs.2 b (uT b o q)).trans z⟩,I'.base.tups,I'.base.iL,I'.base.ja⟩
  have hok:eE X.prog X.w H' h'':=λb ob q=>by
   refine(I'.hok b ob q).stay (λc w' hcc z=>(hs.2 c ?_).trans z) (λ_ z=>z) λ_ _ z=>z;rintro rfl;have hfree:=I'.free;rcases hcc with rfl|hcc
   rw[show H' s3.heap.objs.size=aD from hfree]at q;cases q;rw[show H' s3.heap.objs.size=aD from hfree]at hcc;cases hcc
  have hos:s'.os=s3.os:=I'.os;exact I3.A8 (s':={s' with heap:=h''}) (ch:=fp) hos un hok I'.bare λb hb=>by
   obtain⟨_,a1,a2,a3,a4,a5⟩:=f1 b hb;exact⟨a3,a1,a4,a5⟩
 have BY:Y.prog=X.prog:=by subst oj;rfl
 have BZ:Y.w=X.w:=by subst oj;rfl
 have Rm:Y.K=X.K:=by subst oj;rfl
 have B0:Y.A=X.A:=by subst oj;rfl
 have Rn:Y.calm=true:=by rw[<-oj];exact hc
 have Jy:Y.xe=kj:=by subst oj;rfl
 have Ro:Y.env.locals=s3.heap.objs.size:=by subst oj;rfl
 have hg':PG Y tg g:=by rw[<-oj];exact hg _ _ _ _
 have ht':jH Y ifs tc:=by rw[<-oj];exact ht _ _ _ _
 have he':∀D,PM Y (emit (.ref D) Y.env) (tm D):=λD=>by rw[<-oj];exact he _ _ _ _ D
 have loop:∀s4:ah,Inv Y [] (l5 ow fr ix σ) (upd H1 s.heap.objs.size u0) s4->tn 0 s4.heap->codeAny (model X.prog X.w) X.A (.compLoop e 0 (.ref it) (.ref s.heap.objs.size) Y.env) (RR (.ref s.heap.objs.size) s3.heap.objs.size) s4:=by
  intro s4 I4 Yq;refine Yn (CK.turn _ _ _) (CK.dl _ _ _) (CK.al _ _ _ _) (λn s'=>∃i σ' H',Inv Y [] σ' H' s'/\tn i s'.heap/\(∀b∈fp,H' b=aD)/\W i n σ' H') ?_ m0 ⟨0,_,_,I4,Yq,λb hb=>(f3 b hb).1,w0⟩;rintro n s5 ⟨i,qk,H5,I5,rT,zO,w5⟩;rcases turn i n qk H5 w5 with⟨stop,q⟩|⟨go,step⟩
  .have td:=T.done Y BY BZ Rm Rn i [] s5 qk H5 kj I5 (λb hb=>Jx b hb I5.ok (zO b hb)) rT stop
   rw[B0]at td;refine bg td λr s6 cj=>?_;obtain⟨hr,I6⟩:=cj;subst hr;obtain⟨m6,Rq,_⟩:=I6.loc;rw[Ro]at Rq;have Rt:=I6.free;rw[Ro]at Rt;exact fin _ _ H5 s6 m6 (I3.lY (aZ _) Rt) Rq (back I6) q
  have td:=T.item Y BY BZ Rm Rn i [] s5 qk H5 kj I5 (λb hb=>Jx b hb I5.ok (zO b hb)) rT go;rw[B0]at td;refine bg td λr s6 cj=>?_;obtain⟨u,hr,h6⟩:=cj;subst hr;refine bg h6 λ_ s7 cj=>?_;obtain⟨x,H7,I7,r7,y7,Jz,Yr⟩:=cj;have Ys:=I7.pinned (λb hb=>Jx b hb I7.ok (Yr b hb)) (T.obj _ _ Jz);have again:∀{vc:St}{H8:Hp}{s8:ah}{m':Nat},Inv Y ([]++zM fp s7.heap) vc H8 s8->m'<n->W (i+1) m' vc H8->∃m,m<n/\∃i σ' H',Inv Y [] σ' H' s8/\tn i s8.heap/\(∀b∈fp,H' b=aD)/\W i m σ' H':=λ{vc H8 s8 m'} I8 hm w8=>by
   refine⟨m',hm,i+1,vc,H8,I8.eV,T.keep _ _ _ Jz λb hb o q=>(I8.pin (b,o) (lP _ (lP _ (zN hb q)))).1,λb hb=>?_,w8⟩;obtain⟨o,q,d⟩:=T.obj _ _ Jz b hb;exact(I8.pin (b,o) (lP _ (lP _ (zN hb q)))).2.1
  have q7:=hg' _ s7 qk H7 x u _ Ys r7 (step x H7 y7);rw[BY,BZ,B0,Jy]at q7;refine bg q7 λ_ s8 cj=>?_;obtain⟨vc,H8,I8,q8⟩:=cj;have q8:=ht' _ s8 vc H8 _ I8 q8;rw[BY,BZ,B0,Jy]at q8;refine bg q8 λok s9 z9=>z9.el λH9 I9 q9=>?_;cases ok with
  |false=>
   simp only[gY,fM]at q9 ⊢;obtain⟨m',hm,w9⟩:=q9;exact again I9 hm w9
  |true=>
   simp only[dg]at q9 ⊢;have Ru:=he' _ _ s9 vc H9 _ I9 q9;rw[BY,BZ,B0,Jy]at Ru;exact bg Ru λ_ Yt ⟨Yu,H10,Yv,m',hm,Yw⟩=>again Yv hm Yw
 have Yx:Inv Y [] (l5 ow fr ix σ) (upd H1 s.heap.objs.size u0) {s with heap:=h₁,toks:=s.toks}:=by rw[<-Rl]at J3;exact J3
 have hl:=loop _ Yx st3;obtain⟨rest,hcl⟩:=CK.cl;have fin':=Yo hcl (CK.ds _ _ _) (CK.as _ _ _ _) hl (T.self _ 0 _ _ _ st3 hl);rw[<-oj]at fin';exact fin'
theorem ql(CK:jL X.prog X.w e tg iter ifs emit newAcc ob u0)(hev:eval e X.env=comprehension e scope X.env pos newAcc false (eval iter X.env))(S:bq X ow fr ix scope)(hc:X.calm)(hi:PI X tg iter wi)
 (hg:∀C s₀ H₀ ex,PG (X.comp (ow++fr) scope C s₀ H₀ ex) tg g) (ht:∀C s₀ H₀ ex,jH (X.comp (ow++fr) scope C s₀ H₀ ex) ifs tc) (he:∀C s₀ H₀ ex D,PM (X.comp (ow++fr) scope C s₀ H₀ ex) (emit (.ref D) (X.comp (ow++fr) scope C s₀ H₀ ex).env) (tm D))
 (hs:∀x,foldedSetIterable iter X.env x=pure x):PE X e (BW X.K (l5 ow fr ix) wi g tc tm u0):=by
 intro pins s σ H Q I h;rw[hev];obtain⟨rest,hcl⟩:=CK.cl;refine wpAny_comprehension_free (use:=aD) hcl hs (QZ λy hy e=>I.ok.has _ (S.free y hy e)) S.kind S.names (bg (hi pins s σ H _ I h) λv s1 h1=>bg h1 λitv s2 h2=>?_);exact zev (RR:=λacc C=>compPost (model X.prog X.w) X.A X.xe aD (EP X pins σ Q) acc C) CK S hc hg ht he h2 λD C H' s' m _ hn hI q=>⟨m,hn,λh'' xO=>⟨.ref D,H',hI h'' xO,rfl,q⟩⟩
theorem JA{i:Nat}{y:Str}{py spos:Pos}(CK:jL X.prog X.w e tg iter ifs emit newAcc ob u0)(hev:∀use,evalThenUse e X.env use=(do let _ <-comprehension e scope X.env pos newAcc false (eval iter X.env) (aC use)))(hN:X.N.Nodup)(Yy:X.N[i]?=aC y)(hy:Loc X.env.scope y)(S:bq X ow fr ix scope)(hc:X.calm)(hi:PI X tg iter wi)
 (hg:∀C s₀ H₀ ex,PG (X.comp (ow++fr) scope C s₀ H₀ ex) tg g) (ht:∀C s₀ H₀ ex,jH (X.comp (ow++fr) scope C s₀ H₀ ex) ifs tc) (he:∀C s₀ H₀ ex D,PM (X.comp (ow++fr) scope C s₀ H₀ ex) (emit (.ref D) (X.comp (ow++fr) scope C s₀ H₀ ex).env) (tm D))
 (hsw:swapsWith e (aC (.Name y py)) spos.line X.env=pure true) (hf:X.fn y=true\/X.env.scope.names.lookup y=aC .local)
 (hs:∀x,foldedSetIterable iter X.env x=pure x):PS X (.Assign [.Name y py] e spos) (xx (BW X.K (l5 ow fr ix) wi g tc tm u0) (kF i)):=by
 intro pins s σ H D I h;rw[exec_Assign_Name_used _ _ _ _ hsw];refine aK (kB (aK ?_));rw[hev];obtain⟨rest,hcl⟩:=CK.cl;refine aK (iC (wpAny_comprehension_free (use:=aC (assign (.Name y py) X.env)) (Q:=λ_ s'=>SP X pins D .next s') hcl hs (QZ λy hy e=>I.ok.has _ (S.free y hy e)) S.kind S.names
  (bg (hi pins s σ H _ I h) λv s1 h1=>bg h1 λitv s2 h2=>?_)) (λ_ s' hq=>bR (bR hq)) λ_ _ e=>e)
 refine zev (Q:=λx H1=>kF i x σ H1 D.nx) (RR:=λacc C=>compPost (model X.prog X.w) X.A X.xe (aC (assign (.Name y py) X.env)) (λ_ s'=>SP X pins D .next s') acc C) CK S hc hg ht he h2 λd C H' s' m hC hn hI q=>?_;show wpAny _ X.A (assign (.Name y py) X.env (.ref d)) _ _ _;have I':Inv X pins σ H' s':=hI s'.heap (.refl ..);refine wpAny_assign_Name (Qd I' hN Yy hy (v:=.ref d) rfl (λs'' Yz ⟨a,YA,ha⟩=>?_) hf);obtain⟨c0,c1,c2,c3,c4,c5⟩:=hC;have YB:C≠a:=by rcases ha with rfl|ha;exact c1;exact λz=>c4 _ _ ha z.symm
 exact⟨m,hn.sameBut YA YB,λh'' xO=>⟨_,H',Yz.turned (t':=s''.toks) (it:=C) (λb o hb q=>(xO.2 b hb).trans q) c0 c1 c3 c4 c5,q⟩⟩
end
theorem YC:fillsNumberSlot (.type "tuple") "mul" = pure false:=
 PySem.fillsNumberSlot_seq (id:="tuple.__mul__") (r:=aC (.builtin "tuple.__rmul__")) AW.lookup (by decide +kernel) F.slot_tuple_rmul.lookup (by decide +kernel)
theorem YD:seqRepeat? (.type "tuple")=pure (aC (.builtin "tuple.__mul__")):=by unfold seqRepeat?;rw[PySem.seqSlot_of (T:="tuple") (name:="__mul__") (id:="tuple.__mul__") AW.lookup (by decide +kernel),PySem.seqSlot_of (T:="tuple") (name:="__rmul__") (id:="tuple.__rmul__") F.slot_tuple_rmul.lookup (by decide +kernel)];rfl
theorem YE(k:Int)(t:Tok)(l:ai)(its:Array af)(n:Nat)(dd:Option ai)(sl:Array (Option af)) :
 Meets (Builtin.«int.__rmul__» ⟨[.int k t,.ref l],[]⟩) (λ_ R s=>s.heap.get? l=aC {cls:=.type "tuple",dict:=dd,data:=.seq its n,slots:=sl}/\R (.ok (.ret Value.notImplemented)) s):=
 .of_wp λprog w A R s h=>by
  obtain⟨hp,g,d,tk,os⟩:=s;obtain⟨e,h⟩:=h
  wp_walk using pS e;exact⟨_,rfl,h⟩
theorem YF(l:ai)(its:Array af)(n:Nat)(dd:Option ai)(sl:Array (Option af))(k:Int)(t:Tok)(h1:¬(decide (k < -(2 ^ 63))||decide (k>=2 ^ 63)))(h2:(its.isEmpty||k==1)) :
 Meets (Builtin.«tuple.__mul__» ⟨[.ref l,.int k t],[]⟩) (λ_ R s=>s.heap.get? l=aC {cls:=.type "tuple",dict:=dd,data:=.seq its n,slots:=sl}/\R (.ok (.ret (.ref l))) s):=
 .of_wp λprog w A R s h=>by
  obtain⟨hp,g,d,tk,os⟩:=s;obtain⟨e,h⟩:=h;have f1:=AutoSeq1.idx_int
  wp_walk using pS e;refine zp ?_;rw[if_neg h1]
  wp_walk using pS e;exact⟨_,rfl,h⟩
theorem YG(l:ai)(its:Array af)(n:Nat)(dd:Option ai)(sl:Array (Option af))(k:Int)(t:Tok)(h1:¬(decide (k < -(2 ^ 63))||decide (k>=2 ^ 63)))(h2:¬(its.isEmpty||k==1))(h3:(decide (k<=0)||its.isEmpty)) :
 Meets (Builtin.«tuple.__mul__» ⟨[.ref l,.int k t],[]⟩) (λ_ R s=>s.heap.get? l=aC {cls:=.type "tuple",dict:=dd,data:=.seq its n,slots:=sl}/\R (.ok (.ret (.ref s.heap.objs.size))) {s with heap:=s.heap.push {cls:=.type "tuple",data:=.seq #[]}}):=
 .of_wp λprog w A R s h=>by
  obtain⟨hp,g,d,tk,os⟩:=s;obtain⟨e,h⟩:=h;have f1:=AutoSeq1.idx_int
  wp_walk using pS e;refine zp ?_;rw[if_neg h1]
  wp_walk using pS e;exact⟨_,rfl,h⟩
theorem YH(l:ai)(its:Array af)(n:Nat)(dd:Option ai)(sl:Array (Option af))(k:Int)(t:Tok)(h1:¬(decide (k < -(2 ^ 63))||decide (k>=2 ^ 63)))(h2:¬(its.isEmpty||k==1))(h3:¬(decide (k<=0)||its.isEmpty)=true)
 (h4:¬(its.size*k> (2 ^ 63-1)/8)) (h5:¬Builtin.Tuple.tupleTooMany (its.size*k)) (h6:((bN k.toNat its).foldl (· ++ ·) #[]).size<=sizeLine) :
 Meets (Builtin.«tuple.__mul__» ⟨[.ref l,.int k t],[]⟩) (λ_ R s=>s.heap.get? l=aC {cls:=.type "tuple",dict:=dd,data:=.seq its n,slots:=sl}/\R (.ok (.ret (.ref s.heap.objs.size))) {s with heap:=s.heap.push {cls:=.type "tuple",data:=.seq ((bN k.toNat its).foldl (· ++ ·) #[])}}):=
 .of_wp λprog w A R s h=>by
  obtain⟨hp,g,d,tk,os⟩:=s;obtain⟨e,h⟩:=h;have f1:=AutoSeq1.idx_int
  wp_walk using pS e;refine zp ?_;rw[if_neg h1]
  wp_walk using pS e;refine zp ?_;rw[if_neg h4]
  wp_walk using pS e;exact⟨_,rfl,h⟩
section
variable{X:Cx}
noncomputable def vd(K:aI):R2:=λx y H Q=>∃a k xs,x=.ref a/\y=.int k/\dh K H a xs/\-(2 ^ 62)<=k/\k<2 ^ 62/\xs.length*k.toNat<=sizeLine/\
 ((xs.isEmpty||k==1)=true->Q (.ref a) H)/\((xs.isEmpty||k==1)=false->∀p,H p=aD->Q (.ref p) (upd H p (.tup (bN k.toNat xs).flatten)))
theorem Rv{xs:List V}{us:List af}(r:Vals xs us):us.toArray.isEmpty=xs.isEmpty:=by cases r<;>rfl
theorem YI:dU X (binaryOp .Mult) (vd X.K):=by
 intro pins s σ H x y v u Q I rx ry h;obtain⟨a,k,xs,rfl,rfl,ha,k1,k2,hz,q1,q2⟩:=h;cases rx;obtain⟨t,rfl⟩:=ry;obtain⟨its,r,p,_⟩:=I.tuple ha;obtain⟨⟨c,dd,dt,sl⟩,e1,e2,n,e3⟩:=p
 replace e2:c=.type "tuple":=e2
 replace e3:dt=.seq its.toArray n:=e3;subst e2 e3;have hl:xs.length=its.length:=r.length;have h1:¬(decide (k < -(2 ^ 63))||decide (k>=2 ^ 63))=true:=by simp only[pL,gW];lia
 refine wpAny_binaryOp_repeat_ref (T:="tuple") (U:="int") (by decide) ⟨_,e1,rfl⟩ (λs'=>typeIs_int s' k t) YC F.fills_int_mul F.slot_int_rmul YD F.slot_int_index.lookup
  (rM F.slot_int_rmul (typeIs_int s k t) F.entry_int_rmul (F.args_int_rmul_2 _ _) (YE k t a its.toArray n dd sl) ⟨e1,rfl,⟨_,e1,rfl⟩,?_⟩)
 by_cases h2:(its.toArray.isEmpty||k==1)=true;refine rM AW ⟨_,e1,rfl⟩ F.entry_tuple_mul (F.args_tuple_mul_2 _ _) (YF a its.toArray n dd sl k t h1 h2) ⟨e1,?_⟩;exact⟨.ref a,H,I,rfl,q1 (by rw[<-Rv r];exact h2)⟩;have q2:=q2 (by rw[<-Rv r];simpa using h2);by_cases h3:(decide (k<=0)||its.toArray.isEmpty)=true;have hk:k.toNat=0:=by
  have:its.toArray.isEmpty=false:=by
   cases q:its.toArray.isEmpty with|false=>rfl|true=>rw[q]at h2;exact absurd rfl h2
  rw[this,Bool.or_false,gW]at h3;lia
 refine rM AW ⟨_,e1,rfl⟩ F.entry_tuple_mul (F.args_tuple_mul_2 _ _) (YG a its.toArray n dd sl k t h1 h2 h3) ⟨e1,?_⟩;rw[hk]at q2;exact⟨.ref s.heap.objs.size,_,I.laid (t':=s.toks) (o:=.tup []) (λb ob q=>cH _ q) (aZ _) ⟨lS _,[],.nil,lV.new _ _⟩,rfl,q2 _ (I.hok.fresh (aZ _))⟩;have hk:0<k:=by simp only[pL,gW,not_or]at h3;lia
 have hkn:((k.toNat:Nat):Int)=k:=Int.toNat_of_nonneg (by lia);have hmul:(its.toArray.size:Int)*k=((xs.length*k.toNat:Nat):Int):=by rw[eG,<-hl,Int.natCast_mul,hkn]
 have hsl:(sizeLine:Nat)=16777216:=rfl;have fl:(bN k.toNat its.toArray).foldl (· ++ ·) #[]=(bN k.toNat its).flatten.toArray:=by
  have:=QT its k.toNat []
  rw[List.nil_append]at this;exact this
 refine rM AW ⟨_,e1,rfl⟩ F.entry_tuple_mul (F.args_tuple_mul_2 _ _) (YH a its.toArray n dd sl k t h1 h2 h3 (by rw[hmul];lia) (by
  unfold Builtin.Tuple.tupleTooMany;rw[hmul,gW];lia) (by rw[fl,eG,QV,Nat.mul_comm,<-hl];exact hz)) ⟨e1,?_⟩
 rw[fl];exact⟨.ref s.heap.objs.size,_,I.laid (t':=s.toks) (o:=.tup (bN k.toNat xs).flatten) (λb ob q=>cH _ q) (aZ _) ⟨by rw[QV,Nat.mul_comm];exact hz,_,r.rep k.toNat,lV.new _ _⟩,rfl,q2 _ (I.hok.fresh (aZ _))⟩
noncomputable def Rw(K:aI):R2:=λx y H Q=>∃a b ys,x=.ref a/\y=.ref b/\dh K H a []/\dh K H b ys/\Q (.ref b) H
theorem YJ:dU X (binaryOp .Add) (Rw X.K):=by
 intro pins s σ H x y v u Q I rx ry h;obtain⟨a,b,ys,rfl,rfl,ha,hb,q⟩:=h;cases rx;cases ry;obtain⟨its,r1,p1,_⟩:=I.tuple ha;obtain⟨its2,r2,p2,_⟩:=I.tuple hb;cases r1;obtain⟨⟨c,dd,dt,sl⟩,e1,e2,n,e3⟩:=p1;obtain⟨⟨c2,dd2,YK,sl2⟩,f1,f2,n2,f3⟩:=p2
 replace e2:c=.type "tuple":=e2
 replace e3:dt=.seq ([]:List af).toArray n:=e3
 replace f2:c2=.type "tuple":=f2
 replace f3:YK=.seq its2.toArray n2:=f3;subst e2 e3 f2 f3;exact concat_meets ⟨_,e1,rfl⟩ ⟨_,f1,rfl⟩ AB AE AV AU (AS _ _) (tuple_addW0 a b ([]:List af).toArray its2.toArray n n2 dd dd2 sl sl2 rfl) ⟨e1,f1,⟨.ref b,H,I,rfl,q⟩⟩
noncomputable def Ry(ds:List aB)(d:aB):Bool:=ds.any λe=>PyData.eqv e d
theorem B3{h:aA}:∀{us:List af} {ds:List aB} {as:List ai} {i:Nat} {u:af},ReadsAll h us ds as->us[i]?=aC u->∃d bs,ds[i]?=aC d/\Reads h u d bs
 |_,_,_,i,u,.nil,e=>by simp at e
 |_,_,_,0,u,.cons r _,e=>by simp at e;subst e;exact⟨_,_,rfl,r⟩
 |_,_,_,i+1,u,.cons _ rs,e=>by
  obtain⟨d,bs,h1,h2⟩:=B3 rs (by simpa using e);exact⟨d,bs,by simpa using h1,h2⟩
open Classical in
noncomputable def kL(us:List af)(ds:List aB)(d:aB)(u:af):Bool:=decide (∃(i:Nat) (e:aB),us[i]?=aC u/\ds[i]?=aC e/\PyData.eqv e d=true)
open Classical in
theorem Ga{us:List af}{ds:List aB}{d:aB}{u:af}:kL us ds d u=true↔∃(i:Nat) (e:aB),us[i]?=aC u/\ds[i]?=aC e/\PyData.eqv e d=true:=by unfold kL;exact decide_eq_true_iff
theorem JB{h:aA}:∀{us:List af} {ds:List aB} {as:List ai},ReadsAll h us ds as->us.length=ds.length|_,_,_,.nil=>rfl|_,_,_,.cons _ r=>by rw[dj,dj,JB r]
theorem Rz{A:ao}{s:ah}{us:List af}{ds:List aB}{as bs:List ai}{d:aB}{v:af}(hu:A.units+64<cLine)(ra:ReadsAll s.heap us ds as)(rb:Reads s.heap v d bs)(s1:ds.all SeqAt.shaped)(s2:SeqAt.shaped d) :
 ∀u∈us,SeqAt.EqAt A s u v (kL us ds d u):=by
 intro u hm;have sh:∀(i:Nat)(e:aB),ds[i]?=aC e->SeqAt.shaped e=true:=λi e q=>iU.mp s1 e (mP q);cases q:kL us ds d u with
 |true=>
  rw[Ga]at q;obtain⟨i,e,h1,h2,h3⟩:=q;obtain⟨e',cs,h4,h5⟩:=B3 ra h1;rw[h2]at h4;cases h4;have:=SeqAt.eqAt_reads e d A s u v cs bs h5 rb (FI (sh i e h2)) (FI s2) (SeqAt.room_of_shaped (sh i e h2) hu);rw[h3]at this;exact this
 |false=>
  obtain⟨i,hi,h1⟩:=List.mem_iff_getElem.mp hm;have h1:us[i]?=aC u:=by rw[cM hi,h1]
  obtain⟨e,cs,h4,h5⟩:=B3 ra h1;have h3:PyData.eqv e d=false:=by
   cases z:PyData.eqv e d with
   |false=>rfl
   |true=>
    rw[Ga.mpr ⟨i,e,h1,h4,z⟩]at q;cases q
  have:=SeqAt.eqAt_reads e d A s u v cs bs h5 rb (FI (sh i e h4)) (FI s2) (SeqAt.room_of_shaped (sh i e h4) hu);rw[h3]at this;exact this
end
end L2
namespace HT
open PySem PySem.Spec PyProof.Rows
section
variable{prog:aj}{w:ak}{A:ao}{E:af->ah->Prop}{s:ah}
theorem fJ{t sl:ai}{items:Array af}{vl vu:af}{lo hi:Option Int}{Q:af->ah->Prop}(ht:IsTup s.heap t items)(hs:s.heap.IsSliceOf sl vl vu .none)(pl:IsPart vl lo)(pu:IsPart vu hi)
 (hw:bT items.size 0 lo=0/\bT items.size items.size hi=items.size)
 (h:Q (.ref t) s):wpAny (model prog w) A (getItem (.ref t) (.ref sl)) Q E s:=by
 obtain⟨os,hos,hcs,hds⟩:=id hs;have IV:s.TypeIs (.ref sl) "slice":=⟨os,hos,hcs⟩
 unfold getItem
 try with_reducible refine lO ?_
 first|refine aK (bR ?_)|skip
 refine aK (wpAny_sequenceKey ht.typeIs (by decide) ?_);refine aK (zh (name:=Str.ofString "__getitem__") ht.typeIs zB
  (zl zB ht.typeIs entry_tuple_getitem ?_ (args_tuple_getitem _ _)))
 show wpAny _ _ (Builtin.Tuple.tupleItemsOf (.ref t) >>= _) _ _ s;refine aK (tupleItemsOf_ ht ?_);refine aK (Fb IV ?_);rw[if_pos (by decide)];refine aK (QJ hs pl pu ?_);have hyes:((((bT items.size 0 lo:Nat):Int)==0&& (1:Int)==1&& (bT items.size items.size hi-bT items.size 0 lo)==items.size)):=by rw[hw.1,hw.2];simp
 show wpAny _ _ (if(((bT items.size 0 lo:Nat):Int)==0&& (1:Int)==1&& (bT items.size items.size hi-bT items.size 0 lo)==items.size)=true then _ else _) _ _ s;rw[if_pos hyes];unfold Builtin.Tuple.tupleIsExact;refine aK (aK (Fb ht.typeIs (bR ?_)));rw[if_pos (by decide)];refine aK (sN ?_);exact bR ⟨_,rfl,bR h⟩
end
end HT
namespace L2
open PySem PySem.Spec PyProof.Rows
variable{X:Cx}
noncomputable def B4(K:aI):V->Option Int->Option Int->Hp->VK->Prop:=λx lo hi H Q=>∃a xs,x=.ref a/\dh K H a xs/\
 (HT.bT xs.length 0 lo=0/\HT.bT xs.length xs.length hi=xs.length)/\Q (.ref a) H
theorem YL:tE X (B4 X.K):=by
 intro pins s σ H x v vl vu lo hi sl Q I rx hs pl pu h;obtain⟨a,xs,rfl,hx,hw,q⟩:=h;cases rx;obtain⟨its,r,ht,hz⟩:=I.tuple hx;have hlen:its.toArray.size=xs.length:=by rw[eG];exact r.length.symm
 refine⟨"tuple",_,zB.lookup,ht.typeIs,?_⟩;refine HT.fJ ht hs pl pu (by rw[hlen];exact hw) ?_;exact⟨.ref a,_,I,rfl,q⟩
noncomputable def JC(K:aI):V->Option Int->Option Int->Hp->VK->Prop:=λx lo hi H Q=>(BB K x lo hi H Q\/B4 K x lo hi H Q)\/BF K x lo hi H Q
theorem YM:tE X (JC X.K):=(Xf.or YL).or Xm
noncomputable def ZI(b:Bool)(h:aA)(I l:ai)(k:Nat):Prop:=match b with|true=>h.IsTupleIter I l k|false=>h.IsListIter I l k
noncomputable def ZS(b:Bool)(h:aA)(l:ai)(xs:Array af):Prop:=match b with|true=>h.IsTuple l xs|false=>h.IsList l xs
noncomputable def B5(b:Bool):String:=match b with|true=>"tuple_iterator" |false=>"list_iterator"
noncomputable def Gb(b:Bool)(l:ai):Obj:={cls:=.type (B5 b),data:=.fields #[.ref l,.int 0 0]}
theorem ZI.ex{b:Bool}{h h':aA}{I l c:ai}{k:Nat}(x:ZI b h I l k)(s:Heap.ExtBut c h h')(n:I≠c):ZI b h' I l k:=by cases b;exact Heap.IsListIter.extBut x s n;exact Heap.IsTupleIter.extBut x s n
theorem ZS.ex{b:Bool}{h h':aA}{l c:ai}{xs:Array af}(x:ZS b h l xs)(s:Heap.ExtBut c h h')(n:l≠c):ZS b h' l xs:=by cases b;exact Heap.IsList.extBut x s n;exact Heap.IsTuple.extBut x s n
theorem ZI.mv{b:Bool}{h h':aA}{I l:ai}{k:Nat}(x:ZI b h I l k)(e:∀o,h.get? I=aC o->h'.get? I=aC o):ZI b h' I l k:=by cases b;exact Heap.IsListIter.at x e;exact Heap.IsTupleIter.at x e
theorem ZI.ob{b:Bool}{h:aA}{I l:ai}{k:Nat}(x:ZI b h I l k):∃o,h.get? I=aC o/\∀v,o.data≠.cell v:=by cases b;obtain⟨o,h1,h2,h3⟩:=x;exact⟨o,h1,λv z=>by rw[h3]at z;cases z⟩;obtain⟨o,h1,h2,h3⟩:=x;exact⟨o,h1,λv z=>by rw[h3]at z;cases z⟩
theorem ZS.lt{b:Bool}{h:aA}{l:ai}{xs:Array af}(x:ZS b h l xs):l<h.objs.size:=by cases b<;> (obtain⟨o,h1,_⟩:=x;exact cN h1)
theorem ZS.push{b:Bool}{h:aA}{l:ai}{xs:Array af}(x:ZS b h l xs)(o:Obj):ZS b (h.push o) l xs:=by cases b;exact Heap.IsList.push x o;exact Heap.IsTuple.push x o
section
variable{prog:aj}{w:ak}{A:ao}{E:af->ah->Prop}{s:ah}
theorem JD{b:Bool}{I l:ai}{k:Nat}{xs:Array af}{y:af}{Q:af->ah->Prop}(hi:ZI b s.heap I l k)(hl:ZS b s.heap l xs)(hy:xs[k]?=aC y)
 (q:∀g,ZI b g I l (k+1)->Heap.SameBut I s.heap g->Q y {s with heap:=g}):wpAny (model prog w) A (Builtin.SmallTypes.nextOf (.ref I)) Q E s:=by
 cases b;exact wpAny_nextOf_list_item hi hl hy q;exact Rc hi hl hy q
theorem z_end{b:Bool}{I l:ai}{k:Nat}{xs:Array af}{Q:af->ah->Prop}(hA:A.handled=aD)(hi:ZI b s.heap I l k)(hl:ZS b s.heap l xs)(hy:xs[k]?=aD)
 (q:∀g e,Heap.ExtBut I s.heap g->(∃o,g.get? e=aC o/\o.cls=.type "StopIteration")->E (.ref e) {s with heap:=g}):wpAny (model prog w) A (Builtin.SmallTypes.nextOf (.ref I)) Q E s:=by
 cases b;exact wpAny_nextOf_list_end hA hi hl hy q;exact Jr hA hi hl hy q
structure ZA(z TI TO i1 i2 l1 l2:ai):Prop where
 a1:TI≠z/\TO≠z/\i1≠z/\i2≠z
 a2:TI≠TO/\TI≠i1/\TI≠i2/\TO≠i1/\TO≠i2/\i1≠i2
 a3:l1≠z/\l1≠TO/\l1≠i1/\l1≠i2
 a4:l2≠z/\l2≠TO/\l2≠i1/\l2≠i2
theorem YN{n l1 l2:Nat}(h1:l1<n)(h2:l2<n):ZA (n+4) (n+2) (n+3) n (n+1) l1 l2:=by have e:∀{a b:Nat},(a<b\/b<a)->a≠b:=λh=>h.elim fN oZ;refine⟨⟨?_,?_,?_,?_⟩,⟨?_,?_,?_,?_,?_,?_⟩,⟨?_,?_,?_,?_⟩,?_,?_,?_,?_⟩<;>exact e (by lia)
theorem YO{b c:Bool}{z TI TO i1 i2 l1 l2:ai}{k:Nat}{xs ys:Array af}{x y p q:af}{Q:af->ah->Prop}(D:ZA z TI TO i1 i2 l1 l2)
 (hz:IsZip s.heap z TI TO .none) (hTI:IsPair s.heap TI (.ref i1) (.ref i2)) (hTO:IsPair s.heap TO p q)
 (h1:ZI b s.heap i1 l1 k) (h2:ZI c s.heap i2 l2 k) (hl1:ZS b s.heap l1 xs) (hl2:ZS c s.heap l2 ys) (hx:xs[k]?=aC x) (hy:ys[k]?=aC y)
 (hQ:∀h',IsZip h' z TI TO (rawInt s.heap.objs.size)->IsPair h' TO x y->ZI b h' i1 l1 (k+1)->ZI c h' i2 l2 (k+1)->IsPair h' s.heap.objs.size x y->h'.objs.size=s.heap.objs.size+1->
   (∀c o,c≠z->c≠TO->c≠i1->c≠i2->s.heap.get? c=aC o->h'.get? c=aC o)->Q (.ref s.heap.objs.size) {s with heap:=h'}) :
 wpAny (model prog w) A (Builtin.«zip.__next__» ⟨[.ref z],[]⟩) (λfin s'=>∃v,fin=.done (.ret v)/\Q v s') E s:=by
 obtain⟨⟨d1,d2,d3,d4⟩,⟨d5,d6,d7,d8,d9,B6⟩,⟨Ge,YQ,YR,YS⟩,JE,JF,JG,YT⟩:=D;show wpAny _ _ (field (.ref z) 2 >>= _) _ _ _;refine aK (jR hz rfl (x:=.bool false) rfl ?_);show wpAny _ _ (field (.ref z) 3 >>= _) _ _ _;refine aK (jR hz rfl (x:=.ref TI) rfl (aK (uL hTI rfl ?_)));show wpAny _ _ (Builtin.SmallTypes.ownedTupleIsFree (.ref z) >>= _) _ _ _;refine aK ?_;unfold Builtin.SmallTypes.ownedTupleIsFree;refine aK (jR hz rfl (x:=.none) rfl (bR ?_));simp only[dg];refine aK (sN (aK (jR hz rfl (x:=.ref TO) rfl (aK (zj hz (by simp) λg1 z1 s1=>?_)))))
 replace z1:IsZip g1 z TI TO .ellipsis:=z1;refine aK ?_;simp only[List.zipIdx_cons,List.zipIdx_nil,Fq,List.forIn_nil];refine aK (aK (E9 ?_));show wpAny _ _ (Builtin.SmallTypes.nextOf (.ref i1) >>= _) _ _ _;refine aK (JD (h1.ex s1.extBut d3) (hl1.ex s1.extBut Ge) hx λg2 y1 s2=>bR ?_);have t2:IsPair g2 TO p q:=s2.extBut _ _ d8 (s1.extBut _ _ d2 hTO);refine aK (uL t2 rfl (aK (wpAny_updateSeq_pair t2 λg3 t3 s3=>?_)))
 replace t3:IsPair g3 TO x q:=t3;refine aK (wpAny_letGo (bR (aK (aK (E9 ?_)))));show wpAny _ _ (Builtin.SmallTypes.nextOf (.ref i2) >>= _) _ _ _;refine aK (JD (((h2.ex s1.extBut d4).ex s2.extBut (eT B6)).ex s3.extBut (eT d9)) (((hl2.ex s1.extBut JE).ex s2.extBut JG).ex s3.extBut JF) hy λg4 y2 s4=>bR ?_);have t4:IsPair g4 TO x q:=s4.extBut _ _ d9 t3;refine aK (uL t4 rfl (aK (wpAny_updateSeq_pair t4 λg5 t5 s5=>?_)))
 replace t5:IsPair g5 TO x y:=t5;refine aK (wpAny_letGo (bR (bR (aK (uL t5 rfl (aK (wpAny_newTuple ?_)))))));have hsz:g5.objs.size=s.heap.objs.size:=by rw[s5.1,s4.1,s3.1,s2.1,s1.1]
 have z5:IsZip g5 z TI TO .ellipsis:=s5.extBut _ _ (eT d2) (s4.extBut _ _ (eT d4) (s3.extBut _ _ (eT d2) (s2.extBut _ _ (eT d3) z1)));have k5:∀c o,c≠z->c≠TO->c≠i1->c≠i2->s.heap.get? c=aC o->g5.get? c=aC o:=λc o c1 c2 c3 c4 e=>s5.extBut _ _ c2 (s4.extBut _ _ c4 (s3.extBut _ _ c2 (s2.extBut _ _ c3 (s1.extBut _ _ c1 e))));have YU:ZI b g5 i1 l1 (k+1):=((y1.ex s3.extBut (eT d8)).ex s4.extBut B6).ex s5.extBut (eT d8);have YV:ZI c g5 i2 l2 (k+1):=y2.ex s5.extBut (eT d9);have Gf:z<g5.objs.size:=cN z5;show wpAny _ _ (Builtin.SmallTypes.ownedTupleHandOut (.ref z) (.ref g5.objs.size) >>= _) _ _ _;refine aK ?_;unfold Builtin.SmallTypes.ownedTupleHandOut;have z6:IsZip (g5.push {cls:=.type "tuple",data:=.seq #[x,y]}) z TI TO .ellipsis:=cH _ z5;refine aK (zj z6 (by simp) λg7 z7 s7=>?_)
 replace z7:IsZip g7 z TI TO (rawInt g5.objs.size):=z7;refine zj z7 (by simp) λg8 z8 s8=>?_
 replace z8:IsZip g8 z TI TO (rawInt g5.objs.size):=z8;have up:∀c o,c≠z->g5.get? c=aC o->g8.get? c=aC o:=λc o c1 e=>s8.extBut _ _ c1 (s7.extBut _ _ c1 (cH _ e));have p8:IsPair g8 g5.objs.size x y:=s8.extBut _ _ (oZ Gf) (s7.extBut _ _ (oZ Gf) (i8 _ rfl));have n8:g8.objs.size=g5.objs.size+1:=by rw[s8.1,s7.1,kg]
 rw[hsz]at z8 p8 n8;refine bR ⟨_,rfl,?_⟩;show Q (.ref g5.objs.size) _;rw[hsz];exact hQ g8 z8 (up _ _ d2 t5) (YU.mv λo e=>up _ o d3 e) (YV.mv λo e=>up _ o d4 e) p8 n8 λc o c1 c2 c3 c4 e=>up c o c1 (k5 c o c1 c2 c3 c4 e)
theorem YW{b c:Bool}{z TI TO i1 i2 l1 l2:ai}{k:Nat}{xs ys:Array af}{p q:af}{Q:Fin->ah->Prop}(hA:A.handled=aD)(D:ZA z TI TO i1 i2 l1 l2)
 (hz:IsZip s.heap z TI TO .none) (hTI:IsPair s.heap TI (.ref i1) (.ref i2)) (hTO:IsPair s.heap TO p q)
 (h1:ZI b s.heap i1 l1 k) (h2:ZI c s.heap i2 l2 k) (hl1:ZS b s.heap l1 xs) (hl2:ZS c s.heap l2 ys) (he:xs[k]?=aD\/ys[k]?=aD)
 (hE:∀h' e,(∀c o,c≠z->c≠TO->c≠i1->c≠i2->s.heap.get? c=aC o->h'.get? c=aC o)->(∃o,h'.get? e=aC o/\o.cls=.type "StopIteration")->E (.ref e) {s with heap:=h'}) :
 wpAny (model prog w) A (Builtin.«zip.__next__» ⟨[.ref z],[]⟩) Q E s:=by
 obtain⟨⟨d1,d2,d3,d4⟩,⟨d5,d6,d7,d8,d9,B6⟩,⟨Ge,YQ,YR,YS⟩,JE,JF,JG,YT⟩:=D;show wpAny _ _ (field (.ref z) 2 >>= _) _ _ _;refine aK (jR hz rfl (x:=.bool false) rfl ?_);show wpAny _ _ (field (.ref z) 3 >>= _) _ _ _;refine aK (jR hz rfl (x:=.ref TI) rfl (aK (uL hTI rfl ?_)));show wpAny _ _ (Builtin.SmallTypes.ownedTupleIsFree (.ref z) >>= _) _ _ _;refine aK ?_;unfold Builtin.SmallTypes.ownedTupleIsFree;refine aK (jR hz rfl (x:=.none) rfl (bR ?_));simp only[dg];refine aK (sN (aK (jR hz rfl (x:=.ref TO) rfl (aK (zj hz (by simp) λg1 z1 s1=>?_)))))
 replace z1:IsZip g1 z TI TO .ellipsis:=z1;refine aK ?_;simp only[List.zipIdx_cons,List.zipIdx_nil,Fq,List.forIn_nil];refine aK (aK (E9 ?_));show wpAny _ _ (Builtin.SmallTypes.nextOf (.ref i1) >>= _) _ _ _;cases hx:xs[k]? with
 |none=>
  refine aK (z_end hA (h1.ex s1.extBut d3) (hl1.ex s1.extBut Ge) hx λg2 e s2 hs=>?_);obtain⟨oe,xP,hce⟩:=hs;have z2:IsZip g2 z TI TO .ellipsis:=s2 _ _ (eT d3) z1;have JH:e≠z:=λx=>by subst x;rw[z2]at xP;cases xP;simp at hce
  exact zj z2 (by simp) λg3 _ s3=>hE g3 e (λc o c1 _ c3 _ x=>s3.extBut _ _ c1 (s2 _ _ c3 (s1.extBut _ _ c1 x))) ⟨oe,s3.extBut _ _ JH xP,hce⟩
 |some x=>
  have hy:ys[k]?=aD:=by rcases he with h|h;rw[hx]at h;cases h;exact h
  refine aK (JD (h1.ex s1.extBut d3) (hl1.ex s1.extBut Ge) hx λg2 y1 s2=>bR ?_);have t2:IsPair g2 TO p q:=s2.extBut _ _ d8 (s1.extBut _ _ d2 hTO);refine aK (uL t2 rfl (aK (wpAny_updateSeq_pair t2 λg3 t3 s3=>?_)));refine aK (wpAny_letGo (bR (aK (aK (E9 ?_)))));show wpAny _ _ (Builtin.SmallTypes.nextOf (.ref i2) >>= _) _ _ _;refine aK (z_end hA (((h2.ex s1.extBut d4).ex s2.extBut (eT B6)).ex s3.extBut (eT d9)) (((hl2.ex s1.extBut JE).ex s2.extBut JG).ex s3.extBut JF) hy λg4 e s4 hs=>?_);obtain⟨oe,xP,hce⟩:=hs;have z4:IsZip g4 z TI TO .ellipsis:=s4 _ _ (eT d4) (s3.extBut _ _ (eT d2) (s2.extBut _ _ (eT d3) z1));have JH:e≠z:=λx=>by subst x;rw[z4]at xP;cases xP;simp at hce
  exact zj z4 (by simp) λg5 _ s5=>hE g5 e (λc o c1 c2 c3 c4 x=>s5.extBut _ _ c1 (s4 _ _ c4 (s3.extBut _ _ c2 (s2.extBut _ _ c3 (s1.extBut _ _ c1 x))))) ⟨oe,s5.extBut _ _ JH xP,hce⟩
theorem YX{b c:Bool}{z TI TO i1 i2 l1 l2:ai}{k:Nat}{xs ys:Array af}{x y p q:af}{Q:Option af->ah->Prop}(D:ZA z TI TO i1 i2 l1 l2)
 (hz:IsZip s.heap z TI TO .none) (hTI:IsPair s.heap TI (.ref i1) (.ref i2)) (hTO:IsPair s.heap TO p q)
 (h1:ZI b s.heap i1 l1 k) (h2:ZI c s.heap i2 l2 k) (hl1:ZS b s.heap l1 xs) (hl2:ZS c s.heap l2 ys) (hx:xs[k]?=aC x) (hy:ys[k]?=aC y)
 (hQ:∀h',IsZip h' z TI TO (rawInt s.heap.objs.size)->IsPair h' TO x y->ZI b h' i1 l1 (k+1)->ZI c h' i2 l2 (k+1)->IsPair h' s.heap.objs.size x y->h'.objs.size=s.heap.objs.size+1->
   (∀c o,c≠z->c≠TO->c≠i1->c≠i2->s.heap.get? c=aC o->h'.get? c=aC o)->Q (aC (.ref s.heap.objs.size)) {s with heap:=h'}):wpAny (model prog w) A (pyNext (.ref z)) Q E s:=by
 have hT:s.TypeIs (.ref z) "zip":=⟨_,hz,rfl⟩
 unfold pyNext;exact aK (E8 (zh (name:=Str.ofString "__next__") hT FH (zl FH hT F.entry_zip_next (YO D hz hTI hTO h1 h2 hl1 hl2 hx hy λh' a1 a2 a3 a4 a5 a6 a7=>bR (hQ h' a1 a2 a3 a4 a5 a6 a7)) (F.args_zip_next_1 _))))
theorem YY{b c:Bool}{z TI TO i1 i2 l1 l2:ai}{k:Nat}{xs ys:Array af}{p q:af}{Q:Option af->ah->Prop}(hA:A.in1.handled=aD)(D:ZA z TI TO i1 i2 l1 l2)
 (hz:IsZip s.heap z TI TO .none) (hTI:IsPair s.heap TI (.ref i1) (.ref i2)) (hTO:IsPair s.heap TO p q)
 (h1:ZI b s.heap i1 l1 k) (h2:ZI c s.heap i2 l2 k) (hl1:ZS b s.heap l1 xs) (hl2:ZS c s.heap l2 ys) (he:xs[k]?=aD\/ys[k]?=aD)
 (hQ:∀h',(∀c o,c≠z->c≠TO->c≠i1->c≠i2->s.heap.get? c=aC o->h'.get? c=aC o)->Q aD {s with heap:=h'}):wpAny (model prog w) A (pyNext (.ref z)) Q E s:=by
 have hT:s.TypeIs (.ref z) "zip":=⟨_,hz,rfl⟩
 unfold pyNext;refine aK (E8 (zh (name:=Str.ofString "__next__") hT FH (zl FH hT F.entry_zip_next (YW hA D hz hTI hTO h1 h2 hl1 hl2 he λh' e hk hs=>?_) (F.args_zip_next_1 _))));obtain⟨o,ho,hc⟩:=hs;exact aK (wpAny_isInstance (T:="StopIteration") (b:=true) ⟨o,ho,hc⟩ isSubtype_stop (bR (hQ _ hk)))
noncomputable def Gg(h:aA)(b:Bool)(l1:ai):aA:=h.push (Gb b l1)
noncomputable def B7(h:aA)(b c:Bool)(l1 l2:ai):aA:=(Gg h b l1).push (Gb c l2)
noncomputable def B8(h:aA)(b c:Bool)(l1 l2:ai):aA:=(B7 h b c l1 l2).push {cls:=.type "tuple",data:=.seq #[.ref h.objs.size,.ref (Gg h b l1).objs.size]}
noncomputable def B9(h:aA)(b c:Bool)(l1 l2:ai):aA:=(B8 h b c l1 l2).push {cls:=.type "tuple",data:=.seq #[.none,.none]}
noncomputable def ve(h:aA)(b c:Bool)(l1 l2:ai):aA:=(B9 h b c l1 l2).push {cls:=.type "zip",data:=.fields #[.none,.bool false,.bool false,.ref (B7 h b c l1 l2).objs.size,.ref (B8 h b c l1 l2).objs.size]}
theorem YZ(b c:Bool)(l1 l2:ai)(xs ys:Array af):Meets (Builtin.«zip.__new__» ⟨[.type "zip",.ref l1,.ref l2],[]⟩) (λ_ R s=>ZS b s.heap l1 xs/\ZS c s.heap l2 ys/\
 R (.ok (.ret (.ref (B9 s.heap b c l1 l2).objs.size))) {s with heap:=ve s.heap b c l1 l2}):=
 .of_wp λprog w A R s h=>by
  obtain⟨hp,g,d,tk,os⟩:=s;obtain⟨m1,m2,h⟩:=h;have hsub:=sub_zip;have e1:ZS b (Shared.heap ⟨hp,g,d,tk,os⟩) l1 xs:=m1;have e2:ZS c (Shared.heap ⟨hp.push (Gb b l1),g,d,tk,os⟩) l2 ys:=m2.push _;cases b<;>cases c;have q1:Heap.IsList (Shared.heap ⟨hp,g,d,tk,os⟩) l1 xs:=e1;have q2:Heap.IsList (Shared.heap ⟨hp.push {cls:=.type "list_iterator",data:=.fields #[.ref l1,.int 0 0]},g,d,tk,os⟩) l2 ys:=e2
  wp_walk using zk q1,zk q2;exact⟨_,rfl,h⟩;have q1:Heap.IsList (Shared.heap ⟨hp,g,d,tk,os⟩) l1 xs:=e1;have q2:Heap.IsTuple (Shared.heap ⟨hp.push {cls:=.type "list_iterator",data:=.fields #[.ref l1,.int 0 0]},g,d,tk,os⟩) l2 ys:=e2
  wp_walk using zk q1,wJ q2;exact⟨_,rfl,h⟩;have q1:Heap.IsTuple (Shared.heap ⟨hp,g,d,tk,os⟩) l1 xs:=e1;have q2:Heap.IsList (Shared.heap ⟨hp.push {cls:=.type "tuple_iterator",data:=.fields #[.ref l1,.int 0 0]},g,d,tk,os⟩) l2 ys:=e2
  wp_walk using wJ q1,zk q2;exact⟨_,rfl,h⟩;have q1:Heap.IsTuple (Shared.heap ⟨hp,g,d,tk,os⟩) l1 xs:=e1;have q2:Heap.IsTuple (Shared.heap ⟨hp.push {cls:=.type "tuple_iterator",data:=.fields #[.ref l1,.int 0 0]},g,d,tk,os⟩) l2 ys:=e2
  wp_walk using wJ q1,wJ q2;exact⟨_,rfl,h⟩
theorem RA{b:Bool}{h:aA}{l:ai}{a:ai}(e:h.get? a=aC (Gb b l)):ZI b h a l 0:=by cases b<;>exact⟨_,e,rfl,rfl⟩
theorem Y0{b c:Bool}{l1 l2:ai}{xs ys:Array af}{Q:af->ah->Prop}(m1:ZS b s.heap l1 xs)(m2:ZS c s.heap l2 ys)
 (h:∀h',IsZip h' (s.heap.objs.size+4) (s.heap.objs.size+2) (s.heap.objs.size+3) .none->IsPair h' (s.heap.objs.size+2) (.ref s.heap.objs.size) (.ref (s.heap.objs.size+1))->
   IsPair h' (s.heap.objs.size+3) .none .none->ZI b h' s.heap.objs.size l1 0->ZI c h' (s.heap.objs.size+1) l2 0->h'.objs.size=s.heap.objs.size+5->
   (∀c o,s.heap.get? c=aC o->h'.get? c=aC o)->Q (.ref (s.heap.objs.size+4)) {s with heap:=h'}):wpAny (model prog w) A (call (.type "zip") [.ref l1,.ref l2]) Q E s:=by
 refine callType_new F.called_zip (by decide) (F.typeCall_zip_2 _ _) (F.newCall_zip_2 _ _) (λobj=>F.args_object_init_3 obj _ _) F.entry_zip_new (YZ b c l1 l2 xs ys) ⟨m1,m2,?_⟩;have n1:(Gg s.heap b l1).objs.size=s.heap.objs.size+1:=kg ..;have n2:(B7 s.heap b c l1 l2).objs.size=s.heap.objs.size+2:=by unfold B7;rw[kg,n1]
 have n3:(B8 s.heap b c l1 l2).objs.size=s.heap.objs.size+3:=by unfold B8;rw[kg,n2]
 have n4:(B9 s.heap b c l1 l2).objs.size=s.heap.objs.size+4:=by unfold B9;rw[kg,n3]
 have n5:(ve s.heap b c l1 l2).objs.size=s.heap.objs.size+5:=by unfold ve;rw[kg,n4]
 have g5:(ve s.heap b c l1 l2).get? (B9 s.heap b c l1 l2).objs.size=aC _:=i8 _ rfl;have g4:(ve s.heap b c l1 l2).get? (B8 s.heap b c l1 l2).objs.size=aC _:=cH _ (i8 _ rfl);have g3:(ve s.heap b c l1 l2).get? (B7 s.heap b c l1 l2).objs.size=aC _:=cH _ (cH _ (i8 _ rfl));have g2:(ve s.heap b c l1 l2).get? (Gg s.heap b l1).objs.size=aC _:=cH _ (cH _ (cH _ (i8 _ rfl)));have g1:(ve s.heap b c l1 l2).get? s.heap.objs.size=aC _:=cH _ (cH _ (cH _ (cH _ (i8 _ rfl))));show _/\_;rw[n2,n3,n4]at g5;rw[n1,n2]at g3;rw[n3]at g4;rw[n1]at g2;rw[n4];exact⟨⟨_,g5,rfl⟩,h _ g5 g3 g4 (RA g1) (RA g2) n5 λc o x=>cH _ (cH _ (cH _ (cH _ (cH _ x))))⟩
end
noncomputable def om(b:Bool)(K:aI)(H:Hp)(a:ai)(xs:List V):Prop:=match b with|true=>dh K H a xs|false=>cJ K H a xs
theorem zQ{b:Bool}{X:Cx}{pins:List (ai×Obj)}{σ:St}{H:Hp}{s:ah}{a:ai}{xs:List V}(I:Inv X pins σ H s)(h:om b X.K H a xs):∃its:List af,Vals xs its/\ZS b s.heap a its.toArray/\xs.length<=sizeLine:=by cases b;obtain⟨its,r,p,z⟩:=I.list h;exact⟨its,r,p.isList,z⟩;exact I.tuple h
theorem RB{b:Bool}{X:Cx}{pins:List (ai×Obj)}{σ:St}{H:Hp}{s:ah}{a:ai}{xs ys:List V}(I:Inv X pins σ H s)(h:om b X.K H a xs)(h':om b X.K H a ys):xs=ys:=by cases b;exact I.kE h h';exact I.ia h h'
noncomputable def xQ(K:aI)(b c:Bool)(a1 a2:ai):It:=
 ⟨λi H=>∃xs ys x y,om b K H a1 xs/\om c K H a2 ys/\xs[i]?=aC x/\ys[i]?=aC y,
  λi H v H'=>∃T x y,v=.ref T/\H T=aD/\H'=upd H T (.tup [x,y])/\(∀xs,om b K H a1 xs->xs[i]?=aC x)/\∀ys,om c K H a2 ys->ys[i]?=aC y,
  λi H=>∃xs ys,om b K H a1 xs/\om c K H a2 ys/\(xs.length<=i\/ys.length<=i)⟩
theorem Inv.tL{X:Cx}{pins:List (ai×Obj)}{σ:St}{H:Hp}{s:ah}{h2:aA}{t':Nat}{fp:List ai}(I:Inv X pins σ H s)(hf:∀b∈fp,fU X pins H b)(kk:∀b o,b∉fp->s.heap.get? b=aC o->h2.get? b=aC o) :
 Inv X pins σ H {s with heap:=h2,toks:=t'}:=by
 have f0:=λb hb=>(hf b hb).1;have nE:∀b o,H b=aC o->b∉fp:=λb o q z=>by rw[f0 b z]at q;cases q
 refine I.step (g':=s.gens) (d':=s.drawn) (ch:=fp) (λb hb=>?_) (λb o _ _ hc e1 _=>kk b o hc e1) (λb o _ _ hc e1 _=>⟨o.slots,kk b o hc e1⟩) (λ_ _ _ _ n=>n) (λb o hc e1=>⟨o,kk b o hc e1⟩)
  (λ_ _ q=>q) (λ_ _ _ q=>q) (λb ps q=>⟨#[],by rw[q];simp⟩) (λm hm=>?_) (λb ob q=>?_) I.bare
 obtain⟨_,a1,a2,a3,a4,a5⟩:=hf b hb;exact⟨a3,a1,a4,a5⟩;obtain⟨o,es,ep,ho',r⟩:=hm;exact⟨o,es,ep,kk _ o (λz=>(hf _ z).2.1 rfl) ho',r⟩;refine(I.hok b ob q).stay (λc v hc z=>kk c v ?_ z) (λ_ z=>z) λ_ _ z=>z;rcases hc with rfl|hc;exact nE c ob q;exact nE c _ hc
theorem Inv.tN{X:Cx}{pins:List (ai×Obj)}{σ:St}{H:Hp}{s:ah}{h2:aA}{fp:List ai}{xs:List V}{us:List af}(I:Inv X pins σ H s)(hf:∀b∈fp,fU X pins H b)(kk:∀b o,b∉fp->s.heap.get? b=aC o->h2.get? b=aC o)
 (hT:h2.get? s.heap.objs.size=aC {cls:=.type "tuple",data:=.seq us.toArray}) (hv:Vals xs us) (hz:xs.length<=sizeLine):Inv X pins σ (upd H s.heap.objs.size (.tup xs)) {s with heap:=h2}:=by
 have mY:H s.heap.objs.size=aD:=I.hok.fresh (aZ _);have f0:=λb hb=>(hf b hb).1;have nE:∀b o,H b=aC o->b∉fp:=λb o q z=>by rw[f0 b z]at q;cases q
 refine I.step (g':=s.gens) (d':=s.drawn) (ch:=fp) (λb hb=>?_) (λb o _ _ hc e1 _=>kk b o hc e1) (λb o _ _ hc e1 _=>⟨o.slots,kk b o hc e1⟩) (λb o hc e1 n=>by rw[bX (fN (cN e1))];exact n) (λb o hc e1=>⟨o,kk b o hc e1⟩)
  (λb ys q=>by rw[bX (iV q mY)];exact q) (λb o u q=>by rw[bX (iV q mY)];exact q) (λb ps q=>⟨#[],by rw[bX (iV q mY),q];simp⟩) (λm hm=>?_) (λb ob q=>?_) I.bare
 obtain⟨_,a1,a2,a3,a4,a5⟩:=hf b hb;exact⟨a3,a1,a4,a5⟩;obtain⟨o,es,ep,ho',r⟩:=hm;exact⟨o,es,ep,kk _ o (λz=>(hf _ z).2.1 rfl) ho',r⟩;by_cases hb:b=s.heap.objs.size;subst hb;rw[gn]at q;cases q;exact⟨hz,us,hv,⟨_,hT,rfl,⟨_,rfl⟩,rfl⟩⟩;rw[bX hb]at q;refine(I.hok b ob q).stay (λc v hc z=>kk c v ?_ z) (λc z=>by rw[bX (iV z mY)];exact z) λc ys z=>by rw[bX (iV z mY)];exact z
 rcases hc with rfl|hc;exact nE c ob q;exact nE c _ hc
theorem Y3{P:aj}{w:ak}{K:aI}{elts:List aq}{kx:Nat}{tp:Pos}{b c:Bool}(a1 a2 z TI TO i1 i2:ai)(D:ZA z TI TO i1 i2 a1 a2) :
 Turn P w K (.Tuple elts kx tp) (xQ K b c a1 a2) [z,TI,TO,i1,i2] z (λi h=>IsZip h z TI TO .none/\IsPair h TI (.ref i1) (.ref i2)/\(∃p q,IsPair h TO p q)/\ZI b h i1 a1 i/\ZI c h i2 a2 i)where
 mem:=by simp
 obj:=λi h st d hd=>by
  obtain⟨hz,hTI,⟨p,q,hTO⟩,h1,h2⟩:=st;simp only[eO,uS,uJ]at hd;rcases hd with rfl|rfl|rfl|rfl|rfl;exact⟨_,hz,λv z=>by
   have z':Data.fields _=Data.cell v:=z;cases z'⟩
  exact⟨_,hTI,λv z=>by
   have z':Data.seq _ _=Data.cell v:=z;cases z'⟩
  exact⟨_,hTO,λv z=>by
   have z':Data.seq _ _=Data.cell v:=z;cases z'⟩
  exact h1.ob;exact h2.ob
 keep:=λi h h' st k=>by
  obtain⟨hz,hTI,⟨p,q,hTO⟩,h1,h2⟩:=st;exact⟨k z (by simp) _ hz,k TI (by simp) _ hTI,⟨p,q,k TO (by simp) _ hTO⟩,h1.mv λo e=>k i1 (by simp) o e,h2.mv λo e=>k i2 (by simp) o e⟩
 item:=by
  intro X hP hw hK hc i pins s σ H E I hf st hg;subst hP hw hK;obtain⟨xs,ys,x,y,q1,q2,hx,hy⟩:=hg;obtain⟨hz,hTI,⟨p,q,hTO⟩,h1,h2⟩:=st;obtain⟨its,rv,m1,_⟩:=zQ I q1;obtain⟨RC,rw',m2,_⟩:=zQ I q2;obtain⟨u,hu,ru⟩:=rv.get hx;obtain⟨v,hv,Y4⟩:=rw'.get hy;refine YX D hz hTI hTO h1 h2 m1 m2 (x:=u) (y:=v) (by simpa using hu) (by simpa using hv) λg b1 b2 b3 b4 b5 b6 b7=>⟨_,rfl,wpAny_letOwnedTupleGo_zip b1 λg2 c1 c2=>?_⟩
  obtain⟨⟨d1,d2,d3,d4⟩,⟨d5,d6,d7,d8,d9,B6⟩,_,_⟩:=D;have c2:Heap.SameBut z g g2:=c2;have Gf:s.heap.objs.size≠z:=oZ (cN hz);have kk:∀d o,d∉[z,TI,TO,i1,i2]->s.heap.get? d=aC o->g2.get? d=aC o:=λd o hd e=>(c2.2 d λx=>hd (by simp[x])).trans (b7 d o (λx=>hd (by simp[x])) (λx=>hd (by simp[x])) (λx=>hd (by simp[x])) (λx=>hd (by simp[x])) e);have hT:g2.get? s.heap.objs.size=aC {cls:=.type "tuple",data:=.seq [u,v].toArray}:=(c2.2 _ Gf).trans b5;have I2:=Inv.tN (xs:=[x,y]) I hf kk hT (.cons ru (.cons Y4 .nil)) (by show 2<=sizeLine;decide);have mY:H s.heap.objs.size=aD:=I.hok.fresh (aZ _);refine⟨.ref s.heap.objs.size,_,I2,rfl,⟨_,x,y,rfl,mY,rfl,λzs hzs=>by rw[RB I hzs q1];exact hx,λzs hzs=>by rw[RB I hzs q2];exact hy⟩,
   ⟨c1,(c2.2 TI d1).trans (b7 TI _ d1 d5 d6 d7 hTI),⟨u,v,(c2.2 TO d2).trans b2⟩,b3.mv λo e=>(c2.2 i1 d3).trans e,b4.mv λo e=>(c2.2 i2 d4).trans e⟩,λd hd=>?_⟩
  rw[bX ?_];exact(hf d hd).1;intro e;obtain⟨o,ho⟩:∃o,s.heap.get? d=aC o:=by
   simp only[eO,uS,uJ]at hd;rcases hd with rfl|rfl|rfl|rfl|rfl
   exact⟨_,hz⟩;exact⟨_,hTI⟩;exact⟨_,hTO⟩;exact let⟨o,h,_⟩:=h1.ob;⟨o,h⟩;exact let⟨o,h,_⟩:=h2.ob;⟨o,h⟩
  exact fN (cN ho) e
 done:=by intro X hP hw hK hc i pins s σ H E I hf st hg;subst hP hw hK;obtain⟨xs,ys,q1,q2,hl⟩:=hg;obtain⟨hz,hTI,⟨p,q,hTO⟩,h1,h2⟩:=st;obtain⟨its,rv,m1,_⟩:=zQ I q1;obtain⟨RC,rw',m2,_⟩:=zQ I q2;have l1:=rv.length;have l2:=rw'.length;exact YY (I.ok.hd hc) D hz hTI hTO h1 h2 m1 m2 (hl.imp (λh=>by simp;lia) λh=>by simp;lia) λg hk=>⟨rfl,Inv.tL (t':=s.toks) I hf λd o hd e=>hk d o (λx=>hd (by simp[x])) (λx=>hd (by simp[x])) (λx=>hd (by simp[x])) (λx=>hd (by simp[x])) e⟩
 self:=λ_ _ _ _ _ st h=>wpAny_pyIter_zip st.1 h
theorem Y5{bs:List Bool}{its:List af}(r:Vals (bs.map .bl) its)(i:Nat){v:af}(h:its[i]?=aC v):∃b,bs[i]?=aC b/\v=.bool b:=by have hl:=r.length;rw[bG]at hl;obtain⟨hi,_⟩:=gZ.mp h;have hb:bs[i]?=aC bs[i]:=cM (by lia);obtain⟨u,hu,ru⟩:=r.get (i:=i) (x:=.bl bs[i]) (by rw[dY,hb];rfl);rw[h]at hu;cases hu;exact⟨_,hb,ru⟩
theorem Y6(bs:List Bool):((List.range bs.length).all λi=>(bs[i]?).getD true)=bs.all id:=by rw[zg,iU,iU];refine⟨λh b hb=>?_,λh i hi=>?_⟩;obtain⟨i,hi,rfl⟩:=List.getElem_of_mem hb;have:=h i (oY.mpr hi);rw[cM hi]at this;exact this;have hi':=oY.mp hi;rw[cM hi'];exact h _ (lQ hi')
section
variable{X:Cx}
theorem Y7(hc:X.calm):cA X (.builtin "all") (λxs H Q=>∃(p:ai) (bs:List Bool),xs=[.ref p]/\cJ X.K H p (bs.map .bl)/\Q (.bl (bs.all id)) H):=by
 intro pins s σ H xs us Q I r h;obtain⟨p,bs,rfl,hq,q⟩:=h;obtain⟨u,rfl,ru⟩:=vals1 r;cases ru;obtain⟨its,rv,pl,hz⟩:=I.list hq;have hL:s.heap.IsList p its.toArray:=pl.isList;have hlt:p<s.heap.objs.size:=by obtain⟨_,e,_⟩:=hL;exact cN e
 have hd:X.A.in1.handled=aD:=I.ok.hd hc;have hlen:its.toArray.size=bs.length:=by rw[eG,<-rv.length,bG]
 refine call_all_walk (zk hL ⟨s.heap.objs.size,[s.heap.objs.size,p],[s.heap.objs.size],its.toArray.size,_,_,λi=>(bs[i]?).getD true,rfl,Walks.list (A:=X.A.in1) hd _ p (fN hlt) its.toArray,?_,?_,?_⟩);exact⟨⟨_,i8 _ rfl,rfl,rfl⟩,hL.push _⟩;intro i v s' Q' E' hP hQ;obtain⟨b,e,rfl⟩:=Y5 rv i (by simpa using hP);simp only[e,Option.getD_some]at hQ;exact rK hQ;intro h' tk hk;rw[hlen,Y6];refine⟨.bl (bs.all id),H,I.kept (t':=tk) λb o e=>hk b o (λhm=>?_) (cH _ e),rfl,q⟩;rw[jE.mp hm]at e;exact g9 _ (cN e)
end
section
variable{X:Cx}
theorem Inv.freeze{pins:List (ai×Obj)}{σ:St}{H:Hp}{s:ah}{a:ai}{kvs:List (Key×V)}(I:Inv X pins σ H s)(e:H a=aC (.dK kvs)):∃ob,Inv X pins σ (upd H a (.bS ob (.dK kvs))) s:=by
 obtain⟨z,y,vs,r,ob,es,ep,e1,c⟩:=(show br X.prog X.w H s.heap a (.dK kvs)from I.hok a _ e)
 refine⟨ob,?_⟩;exact I.write (x:=a) (e:=a) (o:=.bS ob (.dK kvs)) (h':=s.heap) (t':=s.toks) (by rw[e];trivial) (.inl rfl) (λ_ _ _ q=>q) ⟨ob,e1⟩ ⟨e1,z,y,vs,r,ob,es,ep,e1,c⟩
theorem Ca{P:aj}{w:ak}{k:Key}{u:af}(h:(i9 P w).is k u):RelV (kV k) u:=by rcases rR h with⟨i,t,rfl,rfl⟩|⟨x,t,rfl,rfl⟩;exact⟨t,rfl⟩;exact⟨t,rfl⟩
noncomputable def Cb(a:ai)(ob:Obj)(kvs:List (Key×V)):It where
 go:=λi H=>H a=aC (.bS ob (.dK kvs))/\i<kvs.length
 xy:=λi H x H'=>H'=H/\∃k v,kvs[i]?=aC (k,v)/\x=kV k
 stop:=λi H=>H a=aC (.bS ob (.dK kvs))/\i=kvs.length
theorem Y8{P:aj}{w:ak}{K:aI}{tg:aq}{a it:ai}{ob:Obj}{kvs:List (Key×V)}{es:Array DictEntry}{ep:Nat}(hd:ob.data=.dict es ep)(hne:a≠it):Turn P w K tg (Cb a ob kvs) [it] it (λi h=>h.IsKeyIter it a i kvs.length ep)where
 mem:=by simp
 obj:=λi h st b hb=>by
  have e:b=it:=by simpa using hb
  subst e;obtain⟨o,e,c,d⟩:=st;exact⟨o,e,λv z=>by rw[d]at z;cases z⟩
 keep:=λi h h' st k=>by
  obtain⟨o,e,c,d⟩:=st;exact⟨o,k it (by simp) o e,c,d⟩
 item:=by
  intro X hP hw hK hc i pins s σ H E I hf st hg;subst hP hw hK;obtain⟨e0,hi⟩:=hg;obtain⟨e1,z,y,vs,r,o',es',A6,e2,c1,c2,c3,c4,c5⟩:=(show br X.prog X.w H s.heap a (.bS ob (.dK kvs))from I.hok a _ e0)
  rw[e1]at e2;cases e2;rw[hd]at c2;cases c2;obtain⟨f0,f1,f2,f3,f4,f5⟩:=hf it (by simp);have hl:=r.length;have W:=Walks.dictKeys (knd:=i9 X.prog X.w) (I.ok.hd hc) it a hne vs ep;refine W.item i s _ _ (by lia) ⟨by rw[<-hl];exact st,ob,es,e1,c1,hd,c3,c4,c5⟩ λv h' tk hv st' kk=>?_;obtain⟨k,x,hk,his⟩:=hv;have I1:Inv X pins σ H {s with heap:=h',toks:=tk}:=I.turned (λb o hb e=>kk b o (by simpa using hb) e) f0 f1 f3 f4 f5;have st2:h'.IsKeyIter it a (i+1) kvs.length ep:=by rw[hl];exact st'.1
  obtain⟨o,e,c,d⟩:=id st2;have hk2:∃v0,kvs[i]?=aC (k,v0):=by
   have q:=r.keys;have q2:(kvs.map (·.1))[i]?=(vs.map (·.1))[i]?:=by rw[q]
   rw[dY,dY,hk]at q2;cases q3:kvs[i]? with|none=>rw[q3]at q2;cases q2|some p=>rw[q3]at q2;obtain⟨p1,p2⟩:=p;cases q2;exact⟨p2,rfl⟩
  obtain⟨v0,Y9⟩:=hk2;exact⟨v,rfl,mT (s:={s with heap:=h',toks:=tk}) e c d (by decide) ⟨kV k,H,I1,Ca his,⟨rfl,k,v0,Y9,rfl⟩,st2,λb hb=>(hf b hb).1⟩⟩
 done:=by
  intro X hP hw hK hc i pins s σ H E I hf st hg;subst hP hw hK;obtain⟨e0,hi⟩:=hg;obtain⟨e1,z,y,vs,r,o',es',A6,e2,c1,c2,c3,c4,c5⟩:=(show br X.prog X.w H s.heap a (.bS ob (.dK kvs))from I.hok a _ e0)
  rw[e1]at e2;cases e2;rw[hd]at c2;cases c2;obtain⟨f0,f1,f2,f3,f4,f5⟩:=hf it (by simp);have hl:=r.length;have W:=Walks.dictKeys (knd:=i9 X.prog X.w) (I.ok.hd hc) it a hne vs ep;refine W.done s _ _ ⟨by rw[<-hl];rw[hi]at st;exact st,ob,es,e1,c1,hd,c3,c4,c5⟩ λh' tk kk=>?_;exact⟨rfl,I.turned (λb o hb e=>kk b o (by simpa using hb) e) f0 f1 f3 f4 f5⟩
 self:=λ_ _ _ _ _ st h=>wpAny_pyIter_keyiter st h
end
section
variable{X:Cx}
noncomputable def qm(k v:aq):af->Env->Sem Unit:=λacc env=>do
 let kv <-eval k env
 let vv <-holding [kv] (eval v env)
 match acc with
 |.ref d=>do
  standAt {line:=k.pos.line,col:=k.pos.col,endLine:=v.pos.endLine,endCol:=v.pos.endCol}
  holding [kv,vv] (dictSet d kv vv)
 |_=>unsupported "internal:dictcomp"
theorem RE{P:aj}{w:ak}{k v tg iter:aq}{ifs:List aq}{scope:az}{pos:Pos}:jL P w (.DictComp k v [⟨tg,iter,ifs,0⟩] scope pos) tg iter ifs (qm k v) newDict {cls:=.type "dict",data:=.dict #[]} (.dK [])where
 cl:=⟨[],rfl⟩
 turn:=λ_ _ _=>rfl
 dl:=λ_ _ _=>rfl
 ds:=λ_ _ _=>rfl
 al:=λ_ _ _ _=>rfl
 as:=λ_ _ _ _=>rfl
 new:=λA s Q E q=>rL q
 ok:=λH h hb=>Jt h hb
noncomputable def RG(tk tv:TE)(D:ai):TM:=λσ H Q=>tk σ H λx H1=>tv σ H1 λy H2=>∃kvs k,H2 D=aC (.dK kvs)/\x=kV k/\kvs.length<sizeLine/\Q σ (upd H2 D (.dK (putK kvs k y)))
theorem RH{k v:aq}{tk tv:TE}(hk:PE X k tk)(hv:PE X v tv)(D:ai):PM X (qm k v (.ref D) X.env) (RG tk tv D):=by
 intro pins s σ H Q I h;unfold qm;refine aK (bg (hk pins s σ H _ I h) λu s1 z9=>z9.el λx H1 I1 r1 q1=>?_);refine aK (lO (bg (hv pins s1 σ H1 _ I1 q1) λu2 s2 z9=>z9.el λy H2 I2 r2 cj=>?_));obtain⟨kvs,kk,e,ex,l,q2⟩:=cj;refine aK (kB (lO ?_));subst ex;obtain⟨z,hd,vs,rel,dd⟩:=kJ I2.hok e;have hz:vs.length<=sizeLine:=by rw[<-rel.length];exact z
 have hl:(putK kvs kk y).length<=sizeLine:=by have:=F6 kvs kk y;lia
 refine wpAny_dictSet_pairs (jI r1) dd (λh' mZ hs=>?_) hz;have he:∃q,h'.get? D=aC q:=let⟨q,_,_,hq,_⟩:=mZ;⟨q,hq⟩;exact⟨σ,_,BS I2 (by rw[e];exact True.intro) hs he (F8 hl hd (rel.put kk r2) mZ),q2⟩
end
noncomputable def vf(e tg iter:aq)(ifs:List aq)(it acc:af)(env:Env)(emit:Sem Unit):Sem Fin:=do
 standAt iter.pos
 match <-pyNext it with
 |none=>pure (.done .next)
 |some v=>
  letOwnedTupleGo tg it v
  assign tg env v
  let ok <-BL ifs env
  if ok then emit
  again (.compLoop e 1 it acc env)
noncomputable def jM(elt:aq):af->Env->Sem Unit:=λacc env=>do let _ <-call (.builtin "list.append") [acc,<-eval elt env]
noncomputable def kM(e bI:aq):af->Env->Sem Unit:=λacc env=>do
 let x <-eval bI env
 standAt bI.pos
 let x <-foldedSetIterable bI env x
 let _ <-runOwn (.compStart e 1 (<-holding [x] (pyIter x)) acc env) env
section
variable{prog:aj}{w:ak}{A:ao}{R:Result->ah->Prop}{s:ah}{elt l6 dw tg iter:aq}{fY ifs:List aq}{scope:az}{pos:Pos}{it acc:af}{env:Env}
theorem Za(I:Nat->ah->Prop)
 (turn:∀n s,I n s->wpAny (model prog w) A (pyNext it) (λr s₁=>match r with
   |none=>R (.ok .next) s₁
   |some v=>wpAny (model prog w) A (letOwnedTupleGo tg it v) (λ_ s₀=>wpAny (model prog w) A (assign tg env v) (λ_ s₂=>
    wpAny (model prog w) A (BL ifs env) (λok s₃=>
     if ok=true then wpAny (model prog w) A (jM elt acc env) (λ_ s₅=>∃m,m<n/\I m s₅) kj s₃
     else ∃m,m<n/\I m s₃) kj s₂) kj s₀) kj s₁) kj s)
 (n:Nat) (h:I n s):codeAny (model prog w) A (.compLoop (.ListComp elt [⟨l6,dw,fY,0⟩,⟨tg,iter,ifs,0⟩] scope pos) 1 it acc env) R s:=by
 refine codeAny_loop rfl I (λn s hI=>?_) n h;rw[show(model prog w).den (.compLoop (.ListComp elt [⟨l6,dw,fY,0⟩,⟨tg,iter,ifs,0⟩] scope pos) 1 it acc env)=(vf (.ListComp elt [⟨l6,dw,fY,0⟩,⟨tg,iter,ifs,0⟩] scope pos) tg iter ifs it acc env (jM elt acc env)).onRaise (λx=>do noteFrame x env;theTreesLotGoes x)from rfl,
  show A.under (.compLoop (.ListComp elt [⟨l6,dw,fY,0⟩,⟨tg,iter,ifs,0⟩] scope pos) 1 it acc env)=A from rfl]
 refine wpAny_noted (Q6 ?_);unfold vf;refine aK (kB (aK (iC (turn n s hI) (λr s₁ h₁=>?_) λ_ _ z=>z)));cases r with
 |none=>exact bR h₁
 |some v=>
  refine aK (iC h₁ (λ_ s₀ h₀=>?_) λ_ _ z=>z);refine aK (iC h₀ (λ_ s₂ h₂=>aK (iC h₂ (λok s₃ h₃=>?_) λ_ _ z=>z)) λ_ _ z=>z);cases ok with
  |true=>
   simp only[dg]at h₃ ⊢;exact aK (iC h₃ (λ_ s₅ h₅=>bR ⟨rfl,h₅⟩) λ_ _ z=>z)
  |false=>
   simp only[gY,fM]at h₃ ⊢;exact bR ⟨rfl,h₃⟩
theorem Zb(h0:codeAny (model prog w) A (.compLoop (.ListComp elt [⟨l6,dw,fY,0⟩,⟨tg,iter,ifs,0⟩] scope pos) 1 it acc env) R s)
 (h:wpAny (model prog w) A (pyIter it) (λj s'=>codeAny (model prog w) A (.compLoop (.ListComp elt [⟨l6,dw,fY,0⟩,⟨tg,iter,ifs,0⟩] scope pos) 1 j acc env) R s') (notedBy (model prog w) A env λx s'=>R (.error x) s') s) :
 codeAny (model prog w) A (.compStart (.ListComp elt [⟨l6,dw,fY,0⟩,⟨tg,iter,ifs,0⟩] scope pos) 1 it acc env) R s:=by
 refine codeAny_of_tree ?_;rw[show(model prog w).den (.compStart (.ListComp elt [⟨l6,dw,fY,0⟩,⟨tg,iter,ifs,0⟩] scope pos) 1 it acc env)=(compStart (.ListComp elt [⟨l6,dw,fY,0⟩,⟨tg,iter,ifs,0⟩] scope pos) 1 it acc env).onRaise (λx=>do noteFrame x env;standAt theWindowsPlace)from rfl,
  show A.under (.compStart (.ListComp elt [⟨l6,dw,fY,0⟩,⟨tg,iter,ifs,0⟩] scope pos) 1 it acc env)=A from rfl]
 refine wpAny_notedAt ?_;unfold compStart;rw[show(clausesOf (.ListComp elt [⟨l6,dw,fY,0⟩,⟨tg,iter,ifs,0⟩] scope pos))=[⟨l6,dw,fY,0⟩,⟨tg,iter,ifs,0⟩]from rfl];show wpAny _ _ (ask >>= _) _ _ s;refine aK (wpAny_askSetting (zp ?_));split;first
  |exact aK (bR (bR (And.intro rfl h0)))
  |exact bR (And.intro rfl h0)
 first
  |exact aK (sN (aK (kB (aK (iC h (λj s' h'=>bR ⟨rfl,h'⟩) λ_ _ z=>z)))))
  |(refine aK (sN ?_);show wpAny _ _ (standAt iter.pos >>= _) _ _ s;exact aK (kB (aK (iC h (λj s' h'=>bR ⟨rfl,h'⟩) λ_ _ z=>z))))
end
section
variable{X:Cx}{elt l6 dw tg iter:aq}{fY ifs:List aq}{scope:az}{pos:Pos}{wi:TI}{g:TG}{tc:TT}{te:TE}
noncomputable def Cc(te:TE)(D:ai):TM:=λσ H Q=>te σ H λy H1=>∃ys,H1 D=aC (.lst ys)/\ys.length<sizeLine/\Q σ (upd H1 D (.lst (ys++[y])))
theorem JJ(he:PE X elt te)(D:ai):PM X (jM elt (.ref D) X.env) (Cc te D):=by intro pins s σ H Q I h;unfold jM;refine aK (bg (he pins s σ H _ I h) λy s1 z9=>z9.el λvy H1 I1 ry cj=>?_);obtain⟨ys,hD,hz,q⟩:=cj;refine aK (bg (QU _ s1 σ H1 (.ref D) [vy] (.ref D) [y] (λv H'=>H'=upd H1 D (.lst (ys++[vy]))) I1 rfl (.cons ry .nil) ⟨_,ys,vy,rfl,rfl,hD,hz,rfl⟩) λ_ s2 cj=>?_);obtain⟨v2,H2,I2,_,e2⟩:=cj;subst e2;exact bR ⟨σ,_,I2,q⟩
noncomputable def RI(wi:TI)(g:TG)(tc:TT)(tm:TM):TM:=λσ H Q=>wi σ H λJ H1=>∃W:Nat->Nat->St->Hp->Prop,(∃m,W 0 m σ H1)/\∀i m σ' H',W i m σ' H'->
 ((J.stop i H'/\Q σ' H')\/(J.go i H'/\∀x H2,J.xy i H' x H2->g x σ' H2 λσ2 H3=>tc σ2 H3 λb H4=>
   if b=true then tm σ2 H4 λqk H5=>∃m',m'<m/\W (i+1) m' qk H5
   else ∃m',m'<m/\W (i+1) m' σ2 H4))
theorem RJ(hc:X.calm)(hx:X.xe=kj)(hi:PI X tg iter wi)(hg:PG X tg g)(ht:jH X ifs tc)(he:PE X elt te)(hs:∀x,foldedSetIterable iter X.env x=pure x)(D:ai) :
 PM X (kM (.ListComp elt [⟨l6,dw,fY,0⟩,⟨tg,iter,ifs,0⟩] scope pos) iter (.ref D) X.env) (RI wi g tc (Cc te D)):=by
 intro pins s σ H Q I h;unfold kM;have q1:=hi pins s σ H _ I h;rw[hx]at q1 ⊢;refine aK (bg q1 λv s1 h1=>aK (kB ?_));rw[hs];refine aK (bR (aK (lO (bg h1 λitv s2 h2=>?_))));obtain⟨it,fp,tn,J,H2,e,I2,T,st2,f2,W,⟨m0,w0⟩,turn⟩:=h2;subst e;have lZ:∀{H':Hp},(∀b∈fp,H' b=aD)->∀b∈fp,fU X pins H' b:=λhn b hb=>⟨hn b hb,(f2 b hb).2⟩
 have loop:codeAny (model X.prog X.w) X.A (.compLoop (.ListComp elt [⟨l6,dw,fY,0⟩,⟨tg,iter,ifs,0⟩] scope pos) 1 (.ref it) (.ref D) X.env)
  (λr s'=>match r with|.ok f=>wpAny (model X.prog X.w) X.A (pure ()) (λ(_:Unit) s'=>∃σ' H',Inv X pins σ' H' s'/\Q σ' H') kj s'|.error e=>cameBackBy (model X.prog X.w) X.A X.env kj e s') s2:=by
  refine Za (λn s'=>∃i σ' H',Inv X pins σ' H' s'/\tn i s'.heap/\(∀b∈fp,H' b=aD)/\W i n σ' H') ?_ m0 ⟨0,σ,H2,I2,st2,λb hb=>(f2 b hb).1,w0⟩;rintro n s3 ⟨i,σ3,H3,I3,st3,nV,w3⟩;rcases turn i n σ3 H3 w3 with⟨stop,qn⟩|⟨go,step⟩
  .refine bg (T.done X rfl rfl rfl hc i pins s3 σ3 H3 kj I3 (lZ nV) st3 stop) λr s4 cj=>?_
   obtain⟨hr,I4⟩:=cj;subst hr;exact bR ⟨σ3,H3,I4,qn⟩
  refine bg (T.item X rfl rfl rfl hc i pins s3 σ3 H3 kj I3 (lZ nV) st3 go) λr s4 cj=>?_;obtain⟨u,hr,h4⟩:=cj;subst hr;refine bg h4 λ_ s5 cj=>?_;obtain⟨x,H5,I5,r5,y5,rT,zO⟩:=cj;have IG:=I5.pinned (lZ zO) (T.obj _ _ rT);have again:∀{lE:St}{H7:Hp}{s7:ah}{m':Nat},Inv X (pins++zM fp s5.heap) lE H7 s7->m'<n->W (i+1) m' lE H7->∃m,m<n/\∃i σ' H',Inv X pins σ' H' s7/\tn i s7.heap/\(∀b∈fp,H' b=aD)/\W i m σ' H':=λ{lE H7 s7 m'} I7 hm w7=>by
   refine⟨m',hm,i+1,lE,H7,I7.eV,T.keep _ _ _ rT λb hb o e=>(I7.pin (b,o) (lP _ (lP _ (zN hb e)))).1,λb hb=>?_,w7⟩;obtain⟨o,e,d⟩:=T.obj _ _ rT b hb;exact(I7.pin (b,o) (lP _ (lP _ (zN hb e)))).2.1
  have q6:=hg _ s5 σ3 H5 x u _ IG r5 (step x H5 y5);rw[hx]at q6;refine bg q6 λ_ s6 cj=>?_;obtain⟨kh,H6,I6,q6⟩:=cj;have q7:=ht _ s6 kh H6 _ I6 q6;rw[hx]at q7;refine bg q7 λok s7 z9=>z9.el λH7 I7 q7=>?_;cases ok with
  |false=>
   simp only[gY,fM]at q7 ⊢;obtain⟨m',hm,w7⟩:=q7;exact again I7 hm w7
  |true=>
   simp only[dg]at q7 ⊢;have q8:=JJ he D _ s7 kh H7 _ I7 q7;rw[hx]at q8;exact bg q8 λ_ s8 ⟨vc,H8,I8,m',hm,w8⟩=>again I8 hm w8
 exact aK (wpAny_runOwn (Zb loop (T.self _ 0 _ _ _ st2 loop)))
theorem Zc{bI ig:aq}{dO:List aq}(it acc:af)(env:Env):compTurn (.ListComp elt [⟨tg,iter,ifs,0⟩,⟨ig,bI,dO,0⟩] scope pos) 0 it acc env=jK (.ListComp elt [⟨tg,iter,ifs,0⟩,⟨ig,bI,dO,0⟩] scope pos) tg iter ifs it acc env (kM (.ListComp elt [⟨tg,iter,ifs,0⟩,⟨ig,bI,dO,0⟩] scope pos) bI acc env):=by
 unfold compTurn jK kM;simp only[kC,zq,sO,bne_self_eq_false,gY,fM,reduceIte];congr 1;funext _;congr 1;funext r;cases r with
 |none=>rfl
 |some v=>
  dsimp only;congr 1;funext _;congr 1;funext _;congr 1;funext ok;cases ok;rfl;simp only[dg];simp only[LawfulMonad.bind_assoc,xg]
theorem RK{P:aj}{w:ak}{bI ig:aq}{dO:List aq}:jL P w (.ListComp elt [⟨tg,iter,ifs,0⟩,⟨ig,bI,dO,0⟩] scope pos) tg iter ifs (kM (.ListComp elt [⟨tg,iter,ifs,0⟩,⟨ig,bI,dO,0⟩] scope pos) bI) (newList []) {cls:=.type "list",dict:=aD,data:=.seq ([]:List af).toArray} (.lst [])where
 cl:=⟨_,rfl⟩
 turn:=Zc
 dl:=λ_ _ _=>rfl
 ds:=λ_ _ _=>rfl
 al:=λ_ _ _ _=>rfl
 as:=λ_ _ _ _=>rfl
 new:=λA s Q E q=>rL q
 ok:=λH h hb=>⟨lS _,[],0,.nil,i8 _ rfl⟩
theorem Zd(it acc:af)(env:Env):compTurn (.ListComp elt [⟨tg,iter,ifs,0⟩] scope pos) 0 it acc env=jK (.ListComp elt [⟨tg,iter,ifs,0⟩] scope pos) tg iter ifs it acc env (jM elt acc env):=by rw[compTurn_list];rfl
theorem RM{P:aj}{w:ak}:jL P w (.ListComp elt [⟨tg,iter,ifs,0⟩] scope pos) tg iter ifs (jM elt) (newList []) {cls:=.type "list",dict:=aD,data:=.seq ([]:List af).toArray} (.lst [])where
 cl:=⟨[],rfl⟩
 turn:=Zd
 dl:=λ_ _ _=>rfl
 ds:=λ_ _ _=>rfl
 al:=λ_ _ _ _=>rfl
 as:=λ_ _ _ _=>rfl
 new:=λA s Q E q=>rL q
 ok:=λH h hb=>⟨lS _,[],0,.nil,i8 _ rfl⟩
end
theorem JK{h:aA}{us:List af}{ds:List aB}{as:List ai}{d e:aB}{u:af}{i:Nat}(ra:ReadsAll h us ds as)(s1:ds.all SeqAt.shaped)(h1:us[i]?=aC u)(h2:ds[i]?=aC e):kL us ds d u=PyData.eqv e d:=by
 cases q:PyData.eqv e d with
 |true=>exact Ga.mpr ⟨i,e,h1,h2,q⟩
 |false=>
  refine Bool.eq_false_iff.mpr λz=>?_;obtain⟨j,e',h3,h4,h5⟩:=Ga.mp z;obtain⟨e1,cs1,g1,g2⟩:=B3 ra h1;obtain⟨e2,cs2,g3,g4⟩:=B3 ra h3;rw[h2]at g1;cases g1;rw[h4]at g3;cases g3;have:e=e':=(Reads.unique g2 _ _ g4).1;subst this;rw[q]at h5;cases h5
theorem RN{α β:Type}{p:α->Bool}{q:β->Bool}:∀{us:List α} {ds:List β},us.length=ds.length->(∀(i:Nat) (u:α) (e:β),us[i]?=aC u->ds[i]?=aC e->p u=q e)->us.countP p=ds.countP q
 |[],[],_,_=>rfl
 |[],_::_,h,_=>by cases h
 |_::_,[],h,_=>by cases h
 |u::us,e::ds,h,k=>by
  rw[List.countP_cons,List.countP_cons,k 0 u e rfl rfl,RN (us:=us) (ds:=ds) (by simpa using h) λi u e h1 h2=>k (i+1) u e (by simpa using h1) (by simpa using h2)]
theorem Ze{h:aA}{us:List af}{ds:List aB}{as:List ai}{d:aB}(ra:ReadsAll h us ds as)(s1:ds.all SeqAt.shaped):us.countP (kL us ds d)=ds.countP λe=>PyData.eqv e d:=
 RN (JB ra) λi u e h1 h2=>JK ra s1 h1 h2
section
variable{X:Cx}
noncomputable def Zf(K:aI)(tup:Bool):V->List V->Hp->VK->Prop:=λx vs H Q=>∃p xs y ds d,x=.ref p/\vs=[y]/\(if tup then dh K H p xs else cJ K H p xs)/\o9 K (λ_=>False) H xs ds/\Rp K (λ_=>False) H y d/\ds.all SeqAt.shaped=true/\SeqAt.shaped d=true/\
 Q (.int (ds.countP λe=>PyData.eqv e d:Nat)) H
theorem Zg(hu:X.A.in1.units+64<cLine):F0 X "list.count" (Zf X.K false):=by
 intro pins s σ H x vs v us Q I rx rv h;obtain⟨p,xs,y,ds,d,rfl,rfl,hq,r1,r2,s1,s2,q⟩:=h;cases rx;obtain⟨u,rfl,ru⟩:=rv.one;obtain⟨bs,rb⟩:=r2.reads I ru;simp only[gY,fM]at hq;obtain⟨its,r,pl,hz⟩:=I.list hq;obtain⟨as,ra⟩:=r1.reads I r;obtain⟨⟨c,dd,dt,sl⟩,n,e1,e2,e4,e3⟩:=pl
 replace e2:c=.type "list":=e2
 replace e3:dt=.seq its.toArray n:=e3;subst e2 e3;refine rM PySem.F.slot_list_count ⟨_,e1,rfl⟩ PySem.F.entry_list_count (PySem.F.args_list_count_2 _ _) (SeqAt.list_countAt p its.toArray n dd sl u (kL its ds d)) ⟨e1,λw hw=>Rz ?_ ra rb s1 s2 w (by simpa using hw),?_⟩;exact hu;refine⟨.int _,H,I.tok _,⟨_,rfl⟩,?_⟩;rw[show its.toArray.toList=its from rfl,Ze ra s1];exact q
end
noncomputable def di{α:Type}:List α->List α|[]=>[]|[x]=>[x]|x::_::r=>x::di r
theorem RO{α:Type}:∀l:List α,(di l).length=(l.length+1)/2
 |[]=>by simp[di]
 |[x]=>by simp[di]
 |x::y::r=>by
  show(di r).length+1=_;rw[RO r,dj,dj];lia
theorem Gh{α:Type}:∀(l:List α) (i:Nat),(di l)[i]?=l[2*i]?
 |[],i=>by simp[di]
 |[x],0=>rfl
 |[x],i+1=>by
  show([x]:List α)[i+1]?=_;rw[jm (by simp),jm (by simp;lia)]
 |x::y::r,0=>rfl
 |x::y::r,i+1=>by
  show(di r)[i]?=_;rw[Gh r i,show 2* (i+1)=2*i+1+1 by lia,sO,sO]
end L2
namespace RF
open PySem
inductive W where
 |aL|bl (b:Bool)|int (i:Int)|str (x:Str)|tup (ws:List W)|fz (ws:List W)|ref (i:Nat)
mutual
noncomputable def W.lt(n:Nat):W->Bool|.tup ws=>W.ir n ws|.fz ws=>W.ir n ws|.ref i=>Nat.blt i n|_=>true
noncomputable def W.ir(n:Nat):List W->Bool|[]=>true|w::ws=>W.lt n w&&W.ir n ws
end
inductive VO where
 |lst (ws:List W)|dk (kvs:List (L2.Key×W))|dm (kvs:List (L2.Key×W))
structure VH where
 n:Nat
 lo:Nat
 os:List VO
noncomputable def VH.get(h:VH)(i:Nat):Option VO:=if Nat.blt i h.n then h.os[h.n-1-i]? else aD
noncomputable def VH.set(h:VH)(i:Nat)(o:VO):VH:=⟨h.n,if Nat.blt i h.lo then i else h.lo,h.os.set (h.n-1-i) o⟩
noncomputable def VH.new(h:VH)(o:VO):VH:=⟨h.n+1,h.lo,o::h.os⟩
inductive Res(α:Type)where
 |ok (a:α) (h:VH)|ex (x:W) (h:VH)|no
noncomputable def Res.bind{α β:Type}(r:Res α)(f:α->VH->Res β):Res β:=match r with|.ok a h=>f a h|.ex x h=>.ex x h|.no=>.no
noncomputable def Res.of{α:Type}(o:Option α)(h:VH):Res α:=match o with|some a=>.ok a h|none=>.no
inductive Op where
 |add|sub|mul|fdiv|mod|shl|pow
 deriving DecidableEq
inductive Cp where
 |eq|ne|lt|le|gt|ge|Gi|xR
 deriving DecidableEq
inductive Ty where
 |int|bool|tuple|list|str|dict
 deriving DecidableEq
inductive Bi where
 |len|list|tuple|int|abs|max|all|JL|Cd|bS|st2
 deriving DecidableEq
inductive Mt where
 |append|get|update
 deriving DecidableEq
inductive Kd where
 |seq|bU|oq|l7|zip|keys
 deriving DecidableEq
inductive Tg where
 |one (i:Nat)|many (is:List Nat)|Ce (i:Nat) (is:List Nat)
 deriving DecidableEq
inductive E where
 |var (i:Nat)|cst (w:W)
 |nil|cons (a r:E)
 |tup (a:E)|lst (a:E)|xS (a:E)
 |op (o:Op) (a b:E)|neg (a:E)
 |cmp (c:Cp) (a b:E)|xT (c d:Cp) (a b e:E)
 |not (a:E)|and (a b:E)|or (a b:E)|ou (a:E)|ite (c a b:E)
 |idx (a b:E)|slc (a:E) (bl:Bool) (lo:E) (bh:Bool) (hi:E)
 |call (f:Nat) (a:E)|bi (b:Bi) (a:E)|rW (t:Ty) (a:E)|mt (m:Mt) (o a:E)
 |lc (k:Kd) (a:E) (t:Tg) (ow:Nat) (ix:List Nat) (c e:E)
 |zR (k:Kd) (a:E) (t:Tg) (ow:Nat) (ix:List Nat) (c:E) (k2:Kd) (a2:E) (t2:Tg) (c2 e:E)
 |dc (k:Kd) (a:E) (t:Tg) (ow:Nat) (ix:List Nat) (c e v:E)
inductive S where
 |skip|seq (a b:S)|set (i:Nat) (e:E)|xU (is:List Nat) (e:E)|aug (i:Nat) (o:Op) (e:E)
 |put (o i v:E)|ite (c:E) (a b:S)|ret (e:E)|expr (e:E)|brk|cnt
 |for (k:Kd) (a:E) (t:Tg) (b:S)|xV (c:E) (b:S)|oz (v f:Nat) (a:E) (tb:List (Nat×W))|no
noncomputable abbrev En:=List (Option W)
inductive Fl where
 |nx (ρ:En)|rt (w:W)|bk (ρ:En)|ct (ρ:En)
noncomputable def bH{α β:Type}(f:α->Option β):List α->Option (List β)
 |[]=>aC []
 |a::r=>match f a with
  |some b=>(match bH f r with
   |some bs=>aC (b::bs)
   |none=>aD)
  |none=>aD
noncomputable def toD(h:VH):Nat->W->Option aB
 |0,_=>aD
 |n+1,w=>match w with
  |.aL=>aC .none
  |.bl b=>aC (.bool b)
  |.int i=>aC (.int i)
  |.str x=>aC (.str x)
  |.tup ws=>(bH (toD h n) ws).map .tuple
  |.fz ws=>(bH (toD h n) ws).map .list
  |.ref i=>match h.get i with
   |some (.lst ws)=>(bH (toD h n) ws).map .list
   |_=>aD
noncomputable def dW(h:VH)(x y:W):Option Bool:=
 match toD h 24 x,toD h 24 y with|some d,aC e=>if SeqAt.shaped d&&SeqAt.shaped e then aC (PyData.eqv d e)else aD|_,_=>aD
noncomputable def big:Nat:=16777216
noncomputable def kN(i:Int):Bool:=decide (-(2 ^ 64)<i)&&decide (i<2 ^ 64)
noncomputable def iY:Op->Int->Int->Option Int|.add,i,j=>aC (i+j)|.sub,i,j=>aC (i-j)|.mul,i,j=>if kN i||kN j then aC (i*j)else aD|.fdiv,i,j=>if decide (0<j)&&decide (j<1073741824)then aC (i/j)else aD|.mod,i,j=>if decide (0<j)then aC (i % j)else aD|.shl,i,j=>if decide (0<=j)&&decide (j<=1000000)&&decide (i.natAbs<2 ^ 64)then aC (i*2 ^ j.toNat)else aD|.pow,i,j=>if decide (0<=j)&&decide (j<=1000000)&&decide (i.natAbs<2 ^ 64)then aC (i ^ j.toNat)else aD
noncomputable def Gj:Op->List W->List W->Option (List W)|.add,xs,ys=>if Nat.ble (xs.length+ys.length) big then aC (xs++ys)else aD|_,_,_=>aD
noncomputable def Cf:Op->List W->List W->Option (List W)|.add,xs,ys=>if Nat.ble (xs.length+ys.length) big then aC (xs++ys)else aD|_,_,_=>aD
noncomputable def fits(i:Int):Bool:=decide (-(2 ^ 62)<=i)&&decide (i<2 ^ 62)
noncomputable def qo(o:Op)(xs:List W)(k:Int):Option (List W):=match o with|.mul=>if fits k&&Nat.ble (xs.length*k.toNat) big then aC (bN k.toNat xs).flatten else aD|_=>aD
noncomputable def iN(o:Op)(x y:W)(h:VH):Res W:=match x,y with
 |.int i,.int j=>.of ((iY o i j).map .int) h
 |.tup xs,.tup ys=>.of ((Gj o xs ys).map .tup) h
 |.tup xs,.int k=>.of ((qo o xs k).map .tup) h
 |.ref i,.ref j=>match h.get i,h.get j with
  |some (.lst xs),aC (.lst ys)=>(match Cf o xs ys with
   |some zs=>.ok (.ref h.n) (h.new (.lst zs))
   |none=>.no)
  |_,_=>.no
 |_,_=>.no
noncomputable def xW(o:Op)(x y:W)(h:VH):Res W:=match x,y with
 |.int i,.int j=>(match o with
  |.add=>.ok (.int (i+j)) h
  |.sub=>.ok (.int (i-j)) h
  |.mul=>.of ((iY .mul i j).map .int) h
  |.fdiv=>.of ((iY .fdiv i j).map .int) h
  |_=>.no)
 |.ref i,.ref j=>match o,h.get i,h.get j with
  |.add,aC (.lst xs),aC (.lst ys)=>if Nat.ble (xs.length+ys.length) big then .ok (.ref i) (h.set i (.lst (xs++ys)))else .no
  |_,_,_=>.no
 |.tup (x::xs),.tup ys=>(match o with
  |.add=>if Nat.ble ((x::xs).length+ys.length) big then .ok (.tup (x::xs++ys)) h else .no
  |_=>.no)
 |_,_=>.no
noncomputable def jW:Cp->Int->Int->Option Bool|.lt,i,j=>aC (decide (i<j))|.le,i,j=>aC (decide (i<=j))|.gt,i,j=>aC (decide (j<i))|.ge,i,j=>aC (decide (j<=i))|_,_,_=>aD
noncomputable def eX:W->Bool|.aL=>true|_=>false
noncomputable def aV(h:VH):W->Option (List W)
 |.tup ws=>aC ws
 |.fz ws=>aC ws
 |.ref i=>match h.get i with
  |some (.lst ws)=>aC ws
  |_=>aD
 |_=>aD
noncomputable def intD:W->Option Int|.int i=>aC i|_=>aD
noncomputable def Cg:W->W->Option Bool|.bl c,.bl b=>aC (c==b)|_,_=>aD
noncomputable def bP(c:Cp)(h:VH)(x y:W):Option Bool:=match c with
 |.eq=>dW h x y
 |.ne=>(dW h x y).map (!·)
 |.Gi=>if eX y then aC (eX x)else Cg x y
 |.xR=>if eX y then aC (!eX x)else(Cg x y).map (!·)
 |c=>match x,y with
  |.int i,.int j=>jW c i j
  |_,_=>aD
noncomputable def oA(h:VH):W->Option Bool
 |.bl b=>aC b
 |.int i=>aC (i != 0)
 |.aL=>aC false
 |.tup ws=>aC (!ws.isEmpty)
 |.ref i=>match h.get i with
  |some (.lst ws)=>aC (!ws.isEmpty)
  |_=>aD
 |_=>aD
noncomputable def l8:W->Option L2.Key|.int i=>aC (.inl i)|.str x=>aC (.inr x)|_=>aD
noncomputable def aS(kvs:List (L2.Key×W))(k:L2.Key):Option W:=(kvs.find? λkv=>decide (kv.1=k)).map (·.2)
noncomputable def bx(kvs:List (L2.Key×W))(k:L2.Key)(w:W):List (L2.Key×W):=
 if(kvs.any λkv=>decide (kv.1=k))=true then kvs.map (λkv=>if kv.1=k then(kv.1,w)else kv)else kvs++[(k,w)]
noncomputable def cD(h:VH)(x y:W):Option W:=match x,y with
 |.tup ws,.int i=>L2.eW ws i
 |.fz ws,.int i=>L2.eW ws i
 |.ref a,.int i=>(match h.get a with
  |some (.lst ws)=>L2.eW ws i
  |some (.dk kvs)=>aS kvs (.inl i)
  |some (.dm kvs)=>aS kvs (.inl i)
  |_=>aD)
 |.ref a,.str x=>(match h.get a with
  |some (.dk kvs)=>aS kvs (.inr x)
  |_=>aD)
 |_,_=>aD
noncomputable def eY(b:Bool)(w:W):Option (Option Int):=match b,w with|false,_=>aC aD|true,.int i=>aC (aC i)|_,_=>aD
noncomputable def dP(ws:List W)(lo hi:Option Int):List W:=(ws.drop (HT.bT ws.length 0 lo)).take (HT.bT ws.length ws.length hi-HT.bT ws.length 0 lo)
noncomputable def kO(x:W)(l u:Option Int)(h:VH):Res W:=match x with
 |.tup ws=>.ok (.tup (dP ws l u)) h
 |.ref i=>(match h.get i with
  |some (.lst ws)=>.ok (.ref h.n) (h.new (.lst (dP ws l u)))
  |_=>.no)
 |_=>.no
@[simp] theorem Ci {ws:List W} {l u:Option Int} {h:VH}:kO (.tup ws) l u h=.ok (.tup (dP ws l u)) h:=rfl
noncomputable def cK:Ty->VH->W->Option Bool
 |t,_,.aL=>aC false
 |t,_,.bl _=>aC (t == .int||t == .bool)
 |t,_,.int _=>aC (t == .int)
 |t,_,.str _=>aC (t == .str)
 |t,_,.tup _=>aC (t == .tuple)
 |_,_,.fz _=>aD
 |t,h,.ref i=>match h.get i with
  |some (.lst _)=>aC (t == .list)
  |some (.dk _)=>aC (t == .dict)
  |some (.dm _)=>aC (t == .dict)
  |_=>aD
noncomputable def jv(xs:List W)(h:VH):Res W:=match xs with
 |[x]=>.of (match aV h x with
  |some ws=>aC (.int ws.length)
  |none=>aD) h
 |_=>.no
noncomputable def kP(xs:List W)(h:VH):Res W:=match xs with
 |[x]=>(match aV h x with
  |some ws=>.ok (.ref h.n) (h.new (.lst ws))
  |none=>.no)
 |_=>.no
noncomputable def xX(xs:List W)(h:VH):Res W:=match xs with
 |[x]=>.of (match aV h x with
  |some ws=>aC (.tup ws)
  |none=>aD) h
 |_=>.no
noncomputable def qp(xs:List W)(h:VH):Res W:=match xs with|[.int i]=>.ok (.int i) h|[.bl b]=>.ok (.int (if b then 1 else 0)) h|_=>.no
noncomputable def l9(xs:List W)(h:VH):Res W:=match xs with|[.int i]=>.ok (.int (if i<0 then -i else i)) h|_=>.no
noncomputable def iZ:W->Option Int|.int i=>aC i|_=>aD
noncomputable def dQ:Int->List Int->Int|x,[]=>x|x,y::r=>dQ (if y>x then y else x) r
noncomputable def oB(xs:List W)(h:VH):Res W:=match xs with
 |[.int i,.int j]=>.ok (.int (if j>i then j else i)) h
 |[.ref i]=>(match h.get i with
  |some (.lst ws)=>(match bH iZ ws with
   |some (x::r)=>.ok (.int (dQ x r)) h
   |_=>.no)
  |_=>.no)
 |_=>.no
noncomputable def rY:W->Option Bool|.bl b=>aC b|_=>aD
noncomputable def kQ(xs:List W)(h:VH):Res W:=match xs with
 |[.ref i]=>(match h.get i with
  |some (.lst ws)=>.of ((bH rY ws).map λbs=>.bl (bs.all id)) h
  |_=>.no)
 |_=>.no
noncomputable def Cj(j:Nat):List W:=(List.range' 0 j).map λ(i:Nat)=>W.int (0+ (i:Int))
noncomputable def vg(xs:List W)(h:VH):Res W:=match xs with|[.int i]=>if decide (0<=i)&&Nat.ble i.toNat big then .ok (.ref h.n) (h.new (.lst (Cj i.toNat)))else .no|_=>.no
noncomputable def xY(xs:List W)(h:VH):Res W:=match xs with|[]=>.ok (.ref h.n) (h.new (.dm []))|_=>.no
noncomputable def oE(xs:List W)(h:VH):Res W:=match xs with
 |[.ref i]=>(match h.get i with
  |some (.dm kvs)=>.ok (.ref i) (h.set i (.dk kvs))
  |_=>.no)
 |_=>.no
noncomputable def tO:W->Option Nat|.aL=>aC 0|.int i=>if i=1 then aC 1 else aD|_=>aD
noncomputable def oF(xs:List W)(h:VH):Res W:=match xs with
 |[.ref i,l,.int k]=>(match h.get i,tO l with
  |some (.lst ws),aC c=>if k=2 then .ok (.ref h.n) (h.new (.lst (L2.di (ws.drop c))))else .no
  |_,_=>.no)
 |_=>.no
noncomputable def pq(b:Bi)(xs:List W)(h:VH):Res W:=match b with|.abs=>l9 xs h|.max=>oB xs h|.all=>kQ xs h|.JL=>vg xs h|.Cd=>xY xs h|.bS=>oE xs h|.st2=>oF xs h|.len=>jv xs h|.list=>kP xs h|.tuple=>xX xs h|.int=>qp xs h
noncomputable def Gk(kvs more:List (L2.Key×W)):List (L2.Key×W):=more.foldl (λacc kv=>bx acc kv.1 kv.2) kvs
noncomputable def qq(a b:Nat)(h:VH):Res W:=match h.get a,h.get b with|some (.dm kvs),aC (.dm more)=>if Nat.beq a b then .no else if Nat.ble (kvs.length+more.length) 1000 then .ok .aL (h.set a (.dm (Gk kvs more)))else .no|_,_=>.no
noncomputable def lG(m:Mt)(o:W)(xs:List W)(h:VH):Res W:=match m,o,xs with
 |.update,.ref i,[.ref j]=>qq i j h
 |.append,.ref i,[x]=>(match h.get i with
  |some (.lst ws)=>if Nat.blt ws.length big then .ok .aL (h.set i (.lst (ws++[x])))else .no
  |_=>.no)
 |.get,.ref i,[k,d]=>(match h.get i,l8 k with
  |some (.dk kvs),aC k=>.ok ((aS kvs k).getD d) h
  |some (.dm kvs),aC k=>.ok ((aS kvs k).getD d) h
  |_,_=>.no)
 |_,_,_=>.no
noncomputable def mh(m:Mt)(h:VH)(o:W):Bool:=match m,o with
 |.update,.ref i=>(match h.get i with
  |some (.dm _)=>true
  |_=>false)
 |.append,.ref i=>(match h.get i with
  |some (.lst _)=>true
  |_=>false)
 |.get,.ref i=>(match h.get i with
  |some (.dk _)=>true
  |some (.dm _)=>true
  |_=>false)
 |_,_=>false
noncomputable def xZ:L2.Key->W|.inl i=>.int i|.inr x=>.str x
noncomputable def aU(k:Kd)(x:W)(i:Nat)(h:VH):Option (Option W):=match k with
 |.seq=>(aV h x).map λws=>ws[i]?
 |.l7=>(match x with
  |.tup ws=>aC ((ws[i]?).map λw=>.tup [.int i,w])
  |_=>aD)
 |.keys=>(match x with
  |.ref a=>(match h.get a with
   |some (.dk kvs)=>(match kvs[i]? with
    |some kv=>aC (aC (xZ kv.1))
    |none=>if Nat.beq i kvs.length then aC aD else aD)
   |_=>aD)
  |_=>aD)
 |.zip=>(match x with
  |.tup [u,v]=>(match aV h u,aV h v with
   |some ws,aC zs=>aC (match ws[i]?,zs[i]? with
    |some a,aC b=>aC (.tup [a,b])
    |_,_=>aD)
   |_,_=>aD)
  |_=>aD)
 |.bU=>(match x with
  |.tup [.int j]=>if fits j then aC (if decide ((i:Int)<j)then aC (.int (0+i))else aD)else aD
  |_=>aD)
 |.oq=>(match x with
  |.tup [.int a,.int b]=>if fits a&&fits b then aC (if decide ((i:Int)<b-a)then aC (.int (a+i))else aD)else aD
  |_=>aD)
noncomputable def tP:List Nat->List W->En->Option En|[],[],ρ=>aC ρ|i::is,w::ws,ρ=>tP is ws (ρ.set i (aC w))|_,_,_=>aD
noncomputable def bK(t:Tg)(w:W)(h:VH)(ρ:En):Option En:=match t with
 |.one i=>aC (ρ.set i (aC w))
 |.Ce j is=>(match w with
  |.tup [x,y]=>(match aV h y with
   |some ws=>tP is ws (ρ.set j (aC x))
   |none=>aD)
  |_=>aD)
 |.many is=>match aV h w with
  |some ws=>tP is ws ρ
  |none=>aD
noncomputable def fuel:Nat:=1000000
noncomputable def inner(ow:Nat)(ix:List Nat)(ρ:En):En:=bN ow aD++ix.map λj=>(ρ[j]?).join
noncomputable def i6(nx:Nat->VH->Option (Option W))(tg:W->VH->En->Option En)(c:En->VH->Res W)(e:En->VH->Res W):Nat->Nat->En->VH->List W->Res (List W)
 |0,_,_,_,_=>.no
 |f+1,i,ρ,h,acc=>match nx i h with
  |none=>.no
  |some aD=>.ok acc.reverse h
  |some (aC w)=>match tg w h ρ with
   |none=>.no
   |some ρ=>(c ρ h).bind λb h=>match b with
    |.bl true=>(e ρ h).bind λy h=>i6 nx tg c e f (i+1) ρ h (y::acc)
    |.bl false=>i6 nx tg c e f (i+1) ρ h acc
    |_=>.no
noncomputable def kR(nx:Nat->VH->Option (Option W))(tg:W->VH->En->Option En)(c:En->VH->Res W)(e:En->VH->Res W):Nat->Nat->En->VH->List W->Res (En×List W)
 |0,_,_,_,_=>.no
 |f+1,i,ρ,h,acc=>match nx i h with
  |none=>.no
  |some aD=>.ok (ρ,acc) h
  |some (aC w)=>match tg w h ρ with
   |none=>.no
   |some ρ=>(c ρ h).bind λb h=>match b with
    |.bl true=>(e ρ h).bind λy h=>kR nx tg c e f (i+1) ρ h (y::acc)
    |.bl false=>kR nx tg c e f (i+1) ρ h acc
    |_=>.no
noncomputable def m9(nx:Nat->VH->Option (Option W))(tg:W->VH->En->Option En)(c:En->VH->Res W)(mj:En->VH->List W->Res (En×List W)):Nat->Nat->En->VH->List W->Res (List W)
 |0,_,_,_,_=>.no
 |f+1,i,ρ,h,acc=>match nx i h with
  |none=>.no
  |some aD=>.ok acc.reverse h
  |some (aC w)=>match tg w h ρ with
   |none=>.no
   |some ρ=>(c ρ h).bind λb h=>match b with
    |.bl true=>(mj ρ h acc).bind λp h=>m9 nx tg c mj f (i+1) p.1 h p.2
    |.bl false=>m9 nx tg c mj f (i+1) ρ h acc
    |_=>.no
noncomputable def kT(nx:Nat->VH->Option (Option W))(tg:W->VH->En->Option En)(c:En->VH->Res W)(e v:En->VH->Res W):Nat->Nat->En->VH->List (L2.Key×W)->Res (List (L2.Key×W))
 |0,_,_,_,_=>.no
 |f+1,i,ρ,h,acc=>match nx i h with
  |none=>.no
  |some aD=>.ok acc h
  |some (aC w)=>match tg w h ρ with
   |none=>.no
   |some ρ=>(c ρ h).bind λb h=>match b with
    |.bl true=>(e ρ h).bind λx h=>(v ρ h).bind λy h=>(match l8 x with
     |some k=>if Nat.blt acc.length big then kT nx tg c e v f (i+1) ρ h (bx acc k y)else .no
     |none=>.no)
    |.bl false=>kT nx tg c e v f (i+1) ρ h acc
    |_=>.no
noncomputable def eg(nx:Nat->VH->Option (Option W))(tg:W->VH->En->Option En)(b:En->VH->Res Fl):Nat->Nat->En->VH->Res Fl
 |0,_,_,_=>.no
 |f+1,i,ρ,h=>match nx i h with
  |none=>.no
  |some aD=>.ok (.nx ρ) h
  |some (aC w)=>match tg w h ρ with
   |none=>.no
   |some ρ=>(b ρ h).bind λfl h=>match fl with
    |.nx ρ=>eg nx tg b f (i+1) ρ h
    |.ct ρ=>eg nx tg b f (i+1) ρ h
    |.bk ρ=>.ok (.nx ρ) h
    |.rt w=>.ok (.rt w) h
noncomputable def dR(c:En->VH->Res W)(b:En->VH->Res Fl):Nat->En->VH->Res Fl
 |0,_,_=>.no
 |f+1,ρ,h=>(c ρ h).bind λt h=>match t with
  |.bl false=>.ok (.nx ρ) h
  |.bl true=>(b ρ h).bind λfl h=>match fl with
   |.nx ρ=>dR c b f ρ h
   |.ct ρ=>dR c b f ρ h
   |.bk ρ=>.ok (.nx ρ) h
   |.rt w=>.ok (.rt w) h
  |_=>.no
noncomputable def ya:List W->Option (List (L2.Key×W))
 |[]=>aC []
 |k::v::r=>match l8 k with
  |some k=>(match ya r with
   |some kvs=>aC ((k,v)::kvs)
   |none=>aD)
  |none=>aD
 |_=>aD
noncomputable def yb(kvs:List (L2.Key×W)):VO:=.dk (Gk [] kvs)
noncomputable def oG(ρ:En)(a:Nat)(j:Int)(w:W)(h:VH):Res Fl:=match h.get a with|some (.dm kvs)=>if Nat.blt kvs.length big then .ok (.nx ρ) (h.set a (.dm (bx kvs (.inl j) w)))else .no|_=>.no
noncomputable abbrev Call:=Nat->List W->VH->Res W
noncomputable def ev(cl:Call):E->En->VH->Res W
 |.var i,ρ,h=>.of (ρ[i]?).join h
 |.cst w,_,h=>.ok w h
 |.nil,_,h=>.ok (.tup []) h
 |.cons a r,ρ,h=>(ev cl a ρ h).bind λx h=>(ev cl r ρ h).bind λy h=>match y with
  |.tup ys=>.ok (.tup (x::ys)) h
  |_=>.no
 |.tup a,ρ,h=>(ev cl a ρ h).bind λy h=>match y with
  |.tup ys=>if Nat.ble ys.length 1000 then .ok (.tup ys) h else .no
  |_=>.no
 |.lst a,ρ,h=>(ev cl a ρ h).bind λy h=>match y with
  |.tup ys=>if Nat.ble ys.length 1000 then .ok (.ref h.n) (h.new (.lst ys))else .no
  |_=>.no
 |.xS a,ρ,h=>(ev cl a ρ h).bind λy h=>match y with
  |.tup ys=>(match ya ys with
   |some kvs=>if Nat.ble kvs.length 15 then .ok (.ref h.n) (h.new (yb kvs))else .no
   |none=>.no)
  |_=>.no
 |.op o a b,ρ,h=>(ev cl a ρ h).bind λx h=>(ev cl b ρ h).bind λy h=>iN o x y h
 |.neg a,ρ,h=>(ev cl a ρ h).bind λx h=>match x with
  |.int i=>.ok (.int (-i)) h
  |_=>.no
 |.cmp c a b,ρ,h=>(ev cl a ρ h).bind λx h=>(ev cl b ρ h).bind λy h=>.of ((bP c h x y).map .bl) h
 |.xT c d a b e,ρ,h=>(ev cl a ρ h).bind λx h=>(ev cl b ρ h).bind λy h=>match bP c h x y with
  |some true=>(ev cl e ρ h).bind λz h=>.of ((bP d h y z).map .bl) h
  |some false=>.ok (.bl false) h
  |none=>.no
 |.not a,ρ,h=>(ev cl a ρ h).bind λx h=>match x with
  |.bl b=>.ok (.bl (!b)) h
  |_=>.no
 |.and a b,ρ,h=>(ev cl a ρ h).bind λx h=>match x with
  |.bl true=>ev cl b ρ h
  |.bl false=>.ok (.bl false) h
  |_=>.no
 |.or a b,ρ,h=>(ev cl a ρ h).bind λx h=>match x with
  |.bl true=>.ok (.bl true) h
  |.bl false=>ev cl b ρ h
  |_=>.no
 |.ou a,ρ,h=>(ev cl a ρ h).bind λx h=>.of ((oA h x).map .bl) h
 |.ite c a b,ρ,h=>(ev cl c ρ h).bind λx h=>match x with
  |.bl true=>ev cl a ρ h
  |.bl false=>ev cl b ρ h
  |_=>.no
 |.idx a b,ρ,h=>(ev cl a ρ h).bind λx h=>(ev cl b ρ h).bind λy h=>.of (cD h x y) h
 |.slc a bl lo bh hi,ρ,h=>(ev cl a ρ h).bind λx h=>(ev cl lo ρ h).bind λl h=>(ev cl hi ρ h).bind λu h=>match eY bl l,eY bh u with
  |some l,aC u=>kO x l u h
  |_,_=>.no
 |.call f a,ρ,h=>(ev cl a ρ h).bind λy h=>match y with
  |.tup ys=>cl f ys h
  |_=>.no
 |.bi b a,ρ,h=>(ev cl a ρ h).bind λy h=>match y with
  |.tup ys=>pq b ys h
  |_=>.no
 |.rW t a,ρ,h=>(ev cl a ρ h).bind λx h=>.of ((cK t h x).map .bl) h
 |.mt m o a,ρ,h=>(ev cl o ρ h).bind λx h=>if mh m h x then(ev cl a ρ h).bind λy h=>match y with
  |.tup ys=>lG m x ys h
  |_=>.no
  else .no
 |.lc k a t ow ix c e,ρ,h=>(ev cl a ρ h).bind λx h=>(i6 (aU k x) (bK t) (ev cl c) (ev cl e) fuel 0 (inner ow ix ρ) h []).bind λys h=>if Nat.ble ys.length big then .ok (.ref h.n) (h.new (.lst ys))else .no
 |.zR k a t ow ix c k2 a2 t2 c2 e,ρ,h=>(ev cl a ρ h).bind λx h=>(m9 (aU k x) (bK t) (ev cl c) (λρ h acc=>(ev cl a2 ρ h).bind λy h=>kR (aU k2 y) (bK t2) (ev cl c2) (ev cl e) fuel 0 ρ h acc) fuel 0 (inner ow ix ρ) h []).bind λys h=>if Nat.ble ys.length big then .ok (.ref h.n) (h.new (.lst ys))else .no
 |.dc k a t ow ix c e v,ρ,h=>(ev cl a ρ h).bind λx h=>(kT (aU k x) (bK t) (ev cl c) (ev cl e) (ev cl v) fuel 0 (inner ow ix ρ) h []).bind λkvs h=>.ok (.ref h.n) (h.new (.dm kvs))
noncomputable def tQ(v:Nat)(tb:List (Nat×W))(ρ:En)(w:W)(h:VH):Res Fl:=match w with
 |.tup [x]=>.ok (.nx (ρ.set v (aC x))) h
 |.int i=>(match tb.lookup i.toNat with
  |some w=>.ok (.rt w) h
  |none=>.no)
 |_=>.no
noncomputable def exs(cl:Call):S->En->VH->Res Fl
 |.skip,ρ,h=>.ok (.nx ρ) h
 |.seq a b,ρ,h=>(exs cl a ρ h).bind λfl h=>match fl with
  |.nx ρ=>exs cl b ρ h
  |fl=>.ok fl h
 |.set i e,ρ,h=>(ev cl e ρ h).bind λw h=>.ok (.nx (ρ.set i (aC w))) h
 |.xU is e,ρ,h=>(ev cl e ρ h).bind λw h=>.of ((bK (.many is) w h ρ).map .nx) h
 |.aug i o e,ρ,h=>match(ρ[i]?).join with
  |some x=>(ev cl e ρ h).bind λy h=>(xW o x y h).bind λz h=>.ok (.nx (ρ.set i (aC z))) h
  |none=>.no
 |.put o i v,ρ,h=>(ev cl v ρ h).bind λw h=>(ev cl o ρ h).bind λx h=>(ev cl i ρ h).bind λy h=>match x,y with
  |.ref a,.int j=>(match h.get a with
   |some (.lst ws)=>(match L2.ju ws.length j with
    |some k=>.ok (.nx ρ) (h.set a (.lst (ws.set k w)))
    |none=>.no)
   |_=>oG ρ a j w h)
  |_,_=>.no
 |.ite c a b,ρ,h=>(ev cl c ρ h).bind λx h=>match x with
  |.bl true=>exs cl a ρ h
  |.bl false=>exs cl b ρ h
  |_=>.no
 |.ret e,ρ,h=>(ev cl e ρ h).bind λw h=>.ok (.rt w) h
 |.expr e,ρ,h=>(ev cl e ρ h).bind λ_ h=>.ok (.nx ρ) h
 |.brk,ρ,h=>.ok (.bk ρ) h
 |.cnt,ρ,h=>.ok (.ct ρ) h
 |.for k a t b,ρ,h=>(ev cl a ρ h).bind λx h=>eg (aU k x) (bK t) (exs cl b) fuel 0 ρ h
 |.xV c b,ρ,h=>dR (ev cl c) (exs cl b) fuel ρ h
 |.oz v f a tb,ρ,h=>(ev cl a ρ h).bind λy h=>match y with
  |.tup ys=>(cl f ys h).bind λw h=>tQ v tb ρ w h
  |_=>.no
 |.no,_,_=>.no
structure Fn where
 ps:Nat
 n:Nat
 body:S
noncomputable def leave(h:VH)(w:W)(h':VH):Res W:=
 if Nat.ble h.n h'.lo&&W.lt h.n w then .ok w h else .ok w ⟨h'.n,if Nat.ble h.lo h'.lo then h.lo else h'.lo,h'.os⟩
noncomputable def run(F:Nat->Option Fn):Nat->Call
 |0,_,_,_=>.no
 |k+1,f,ws,h=>match F f with
  |some fn=>if Nat.beq ws.length fn.ps then
   (exs (run F k) fn.body (ws.map aC++bN (fn.n-fn.ps) aD) ⟨h.n,h.n,h.os⟩).bind λfl h'=>match fl with|.nx _=>leave h .aL h'|.rt w=>leave h w h'|_=>.no
   else .no
  |none=>.no
open L2 PyProof.Rows PySem.Spec
noncomputable def Fz(K:aI)(H:Hp)(a:ai)(xs:List V):Prop:=
 (∃o,H a=aC (.bS o (.lst xs)))\/∃(o:Obj) (its:Array af) (n:Nat),K.lookup a=aC o/\o.cls=.type "list"/\o.dict=aD/\o.data=.seq its n/\its.size<=sizeLine/\Vals xs its.toList
theorem Fz.sq{K:aI}{H:Hp}{a:ai}{xs:List V}(h:Fz K H a xs):cJ K H a xs:=h.elim (λ⟨o,q⟩=>.inl (.inr ⟨o,q⟩)) .inr
mutual
inductive aJ(K:aI)(m:Nat->ai)(n:Nat)(H:Hp):V->W->Prop
 |aL:aJ K m n H .aL .aL
 |bl (b:Bool):aJ K m n H (.bl b) (.bl b)
 |int (i:Int):aJ K m n H (.int i) (.int i)
 |str (x:Str):aJ K m n H (.str x) (.str x)
 |tup {a:ai} {vs:List V} {ws:List W}:dh K H a vs->aG K m n H vs ws->aJ K m n H (.ref a) (.tup ws)
 |fz {a:ai} {vs:List V} {ws:List W}:Fz K H a vs->aG K m n H vs ws->aJ K m n H (.ref a) (.fz ws)
 |ref {i:Nat}:i<n->aJ K m n H (.ref (m i)) (.ref i)
inductive aG(K:aI)(m:Nat->ai)(n:Nat)(H:Hp):List V->List W->Prop
 |nil:aG K m n H [] []
 |cons {v:V} {w:W} {vs:List V} {ws:List W}:aJ K m n H v w->aG K m n H vs ws->aG K m n H (v::vs) (w::ws)
end
inductive aM(K:aI)(m:Nat->ai)(n:Nat)(H:Hp):List (Key×V)->List (Key×W)->Prop
 |nil:aM K m n H [] []
 |cons {k:Key} {v:V} {w:W} {vs:List (Key×V)} {ws:List (Key×W)}:aJ K m n H v w->aM K m n H vs ws->aM K m n H ((k,v)::vs) ((k,w)::ws)
noncomputable def eZ(K:aI)(m:Nat->ai)(n:Nat)(H:Hp)(a:ai):VO->Prop|.lst ws=>∃vs,H a=aC (.lst vs)/\aG K m n H vs ws|.dk kvs=>∃kv,Rd H a (.dK kv)/\aM K m n H kv kvs|.dm kvs=>∃kv,H a=aC (.dK kv)/\aM K m n H kv kvs
structure Rel(K:aI)(m:Nat->ai)(h:VH)(H:Hp):Prop where
 obj:∀i,i<h.n->∃o,h.get i=aC o/\eZ K m h.n H (m i) o
 inj:∀i j,i<h.n->j<h.n->m i=m j->i=j
 len:h.os.length=h.n
structure bO(m:Nat->ai)(n:Nat)(H:Hp)(m':Nat->ai)(n':Nat)(H':Hp):Prop where
 le:n<=n'
 same:∀i,i<n->m' i=m i
 new:∀i,n<=i->i<n'->H (m' i)=aD
 apart:∀i j,n<=i->i<n'->j<n->m' i≠m' j
 tup:∀b vs,H b=aC (.tup vs)->H' b=aC (.tup vs)
 bS:∀b o u,H b=aC (.bS o u)->H' b=aC (.bS o u)
 keep:∀b o,(∀i,i<n->m i≠b)->H b=aC o->H' b=aC o
section
variable{K:aI}{m m' m1 m2:Nat->ai}{n n' n1 n2:Nat}{h h':VH}{H H' H1 H2:Hp}
theorem bO.refl:bO m n H m n H:=⟨aZ _,λ_ _=>rfl,λi a b=>absurd b (jn.mpr a),λi j a b=>absurd b (jn.mpr a),λ_ _ q=>q,λ_ _ _ q=>q,λ_ _ _ q=>q⟩
theorem bO.trans(a:bO m n H m1 n1 H1)(b:bO m1 n1 H1 m2 n2 H2):bO m n H m2 n2 H2 where
 le:=eS a.le b.le
 same:=λi hi=>(b.same i (dF hi a.le)).trans (a.same i hi)
 new:=λi hi hi2=>by
  by_cases hc:i<n1;rw[b.same i hc];exact a.new i hi hc;have hc:=jn.mp hc;cases q:H (m2 i)with
  |none=>rfl
  |some o=>
   have q1:H1 (m2 i)=aD:=b.new i hc hi2;rw[a.keep _ o (λj hj z=>b.apart i j hc hi2 (dF hj a.le) ((b.same j (dF hj a.le)).trans ((a.same j hj).trans z)).symm) q]at q1;cases q1
 apart:=λi j hi hi2 hj=>by
  by_cases hc:i<n1;rw[b.same i hc,b.same j (dF hj a.le)];exact a.apart i j hi hc hj;exact b.apart i j (jn.mp hc) hi2 (dF hj a.le)
 tup:=λc vs q=>b.tup c vs (a.tup c vs q)
 bS:=λc o u q=>b.bS c o u (a.bS c o u q)
 keep:=λc o hc q=>b.keep c o (λi hi=>by
  by_cases hl:i<n;rw[a.same i hl];exact hc i hl;intro z;have:=a.new i (jn.mp hl) hi;rw[z,q]at this;cases this) (a.keep c o hc q)
theorem aJ.mono(hn:n<=n')(hm:∀i,i<n->m' i=m i)(kt:∀b vs,H b=aC (.tup vs)->H' b=aC (.tup vs))(kf:∀b o u,H b=aC (.bS o u)->H' b=aC (.bS o u)){v:V}{w:W}(q:aJ K m n H v w):aJ K m' n' H' v w:=
 aJ.rec (motive_1:=λv w _=>aJ K m' n' H' v w) (motive_2:=λvs ws _=>aG K m' n' H' vs ws) .aL .bl .int .str (λq _ r=>.tup (by
  rcases q with(q|⟨o,q⟩)|q;exact .inl (.inl (kt _ _ q));exact .inl (.inr ⟨o,kf _ _ _ q⟩);exact .inr q) r) (λq _ r=>.fz (by
  rcases q with⟨o,q⟩|q;exact .inl ⟨o,kf _ _ _ q⟩;exact .inr q) r) (λ{i} q=>by rw[<-hm i q];exact .ref (dF q hn)) .nil (λ_ _ a b=>.cons a b) q
theorem aG.mono(hn:n<=n')(hm:∀i,i<n->m' i=m i)(kt:∀b vs,H b=aC (.tup vs)->H' b=aC (.tup vs))(kf:∀b o u,H b=aC (.bS o u)->H' b=aC (.bS o u)){vs:List V}{ws:List W}(q:aG K m n H vs ws):aG K m' n' H' vs ws:=
 aG.rec (motive_1:=λ_ _ _=>True) (motive_2:=λvs ws _=>aG K m' n' H' vs ws) trivial (λ_=>trivial) (λ_=>trivial) (λ_=>trivial) (λ_ _ _=>trivial) (λ_ _ _=>trivial) (λ_=>trivial) .nil (λa _ _ b=>.cons (a.mono hn hm kt kf) b) q
theorem aJ.stp(s:bO m n H m' n' H'){v:V}{w:W}(q:aJ K m n H v w):aJ K m' n' H' v w:=q.mono s.le s.same s.tup s.bS
theorem aG.stp(s:bO m n H m' n' H'){vs:List V}{ws:List W}(q:aG K m n H vs ws):aG K m' n' H' vs ws:=q.mono s.le s.same s.tup s.bS
theorem aM.stp(s:bO m n H m' n' H'):∀{vs:List (Key×V)} {ws:List (Key×W)},aM K m n H vs ws->aM K m' n' H' vs ws|_,_,.nil=>.nil|_,_,.cons q r=>.cons (q.stp s) (aM.stp s r)
theorem aG.length:∀{vs:List V} {ws:List W},aG K m n H vs ws->vs.length=ws.length|_,_,.nil=>rfl|_,_,.cons _ r=>by rw[dj,dj,aG.length r]
theorem aG.get:∀{vs:List V} {ws:List W} {i:Nat} {w:W},aG K m n H vs ws->ws[i]?=aC w->∃v,vs[i]?=aC v/\aJ K m n H v w
 |_,_,_,_,.nil,e=>by simp at e
 |_,_,0,_,.cons q _,e=>by simp at e;subst e;exact⟨_,rfl,q⟩
 |_,_,i+1,w,.cons _ r,e=>by
  obtain⟨v,h1,h2⟩:=aG.get (i:=i) (w:=w) r (by simpa using e);exact⟨v,by simpa using h1,h2⟩
theorem aG.append:∀{vs us:List V} {ws zs:List W},aG K m n H vs ws->aG K m n H us zs->aG K m n H (vs++us) (ws++zs)|_,_,_,_,.nil,r=>r|_,_,_,_,.cons q r,t=>.cons q (aG.append r t)
theorem aG.drop:∀(k:Nat) {vs:List V} {ws:List W},aG K m n H vs ws->aG K m n H (vs.drop k) (ws.drop k)|0,_,_,r=>r|_+1,_,_,.nil=>.nil|k+1,_,_,.cons _ r=>aG.drop k r
theorem aG.take:∀(k:Nat) {vs:List V} {ws:List W},aG K m n H vs ws->aG K m n H (vs.take k) (ws.take k)|0,_,_,r=>.nil|_+1,_,_,.nil=>.nil|k+1,_,_,.cons q r=>.cons q (aG.take k r)
theorem aG.set{v:V}{w:W}(q:aJ K m n H v w):∀(k:Nat) {vs:List V} {ws:List W},aG K m n H vs ws->aG K m n H (vs.set k v) (ws.set k w)|_,_,_,.nil=>.nil|0,_,_,.cons _ r=>.cons q r|k+1,_,_,.cons p r=>.cons p (aG.set q k r)
theorem eZ.stp{a:ai}{o:VO}(s:bO m n H m' n' H')(e:H' a=H a)(q:eZ K m n H a o):eZ K m' n' H' a o:=by
 cases o with|lst ws=>obtain⟨vs,h1,h2⟩:=q;exact⟨vs,e.trans h1,h2.stp s⟩|dk ws=>obtain⟨vs,h1,h2⟩:=q;exact⟨vs,h1.imp (λz=>e.trans z) λ⟨o,z⟩=>⟨o,e.trans z⟩,h2.stp s⟩|dm ws=>obtain⟨vs,h1,h2⟩:=q;exact⟨vs,e.trans h1,h2.stp s⟩
theorem eZ.some{a:ai}{o:VO}(q:eZ K m n H a o):∃u,H a=aC u:=by
 cases o with
 |lst ws=>obtain⟨vs,h1,h2⟩:=q;exact⟨_,h1⟩
 |dk ws=>
  obtain⟨vs,h1,h2⟩:=q;rcases h1 with h1|⟨o,h1⟩<;>exact⟨_,h1⟩
 |dm ws=>obtain⟨vs,h1,h2⟩:=q;exact⟨_,h1⟩
theorem gA{i j:Nat}:Nat.blt i j=true↔i<j:=by unfold Nat.blt;rw[pR];exact Iff.rfl
theorem bV{i:Nat}{o:VO}(q:h.get i=aC o):i<h.n:=by unfold VH.get at q;split at q;rename_i z;exact gA.mp z;cases q
theorem Rel.at_(r:Rel K m h H){i:Nat}{o:VO}(q:h.get i=aC o):eZ K m h.n H (m i) o:=by obtain⟨o',h1,h2⟩:=r.obj i (bV q);rw[q]at h1;cases h1;exact h2
theorem Rel.lst(r:Rel K m h H){i:Nat}{ws:List W}(q:h.get i=aC (.lst ws)):∃vs,H (m i)=aC (.lst vs)/\aG K m h.n H vs ws:=r.at_ q
theorem Rel.dk(r:Rel K m h H){i:Nat}{ws:List (Key×W)}(q:h.get i=aC (.dk ws)):∃vs,Rd H (m i) (.dK vs)/\aM K m h.n H vs ws:=r.at_ q
theorem Rel.dm(r:Rel K m h H){i:Nat}{ws:List (Key×W)}(q:h.get i=aC (.dm ws)):∃vs,H (m i)=aC (.dK vs)/\aM K m h.n H vs ws:=r.at_ q
theorem iD{i:Nat}{o:VO}(hi:i<h.n):(h.new o).get i=h.get i:=by
 unfold VH.get VH.new;have h1:Nat.blt i (h.n+1)=true:=gA.mpr (zy hi);have h2:Nat.blt i h.n=true:=gA.mpr hi;simp only[h1,h2,dg];have:h.n+1-1-i=(h.n-1-i)+1:=by lia
 rw[this];rfl
theorem dG{o:VO}:(h.new o).get h.n=aC o:=by
 unfold VH.get VH.new;have h1:Nat.blt h.n (h.n+1)=true:=gA.mpr (jF _);simp only[h1,dg];have:h.n+1-1-h.n=0:=by lia
 rw[this];rfl
theorem Rel.alloc(r:Rel K m h H){p:ai}{o:VO}{u:HO}(hp:H p=aD)(hu:∀t,u≠.tup t)
 (ho:bO m h.n H (λi=>if i=h.n then p else m i) (h.n+1) (upd H p u)->eZ K (λi=>if i=h.n then p else m i) (h.n+1) (upd H p u) p o) :
 bO m h.n H (λi=>if i=h.n then p else m i) (h.n+1) (upd H p u)/\Rel K (λi=>if i=h.n then p else m i) (h.new o) (upd H p u):=by
 have tr:∀i,i<h.n->m i≠p:=λi hi z=>by
  obtain⟨o',_,h2⟩:=r.obj i hi;obtain⟨u',h3⟩:=h2.some;rw[z,hp]at h3;cases h3
 have st:bO m h.n H (λi=>if i=h.n then p else m i) (h.n+1) (upd H p u):=by
  refine⟨o8 _,λi hi=>by simp only[if_neg (fN hi)],λi hi hi2=>?_,λi j hi hi2 hj=>?_,λb vs q=>?_,λb o u q=>?_,λb o _ q=>?_⟩;have:i=h.n:=by lia
  subst this;simp only[dg];exact hp;have:i=h.n:=by lia
  subst this;simp only[dg,if_neg (fN hj)];exact(tr j hj).symm;rw[bX (iV q hp)];exact q;rw[bX (iV q hp)];exact q;rw[bX (iV q hp)];exact q
 refine⟨st,⟨λi hi=>?_,λi j hi hj z=>?_,?_⟩⟩;have hi:i<h.n+1:=hi;by_cases e:i=h.n;subst e;exact⟨o,dG,by simp only[dg];exact ho st⟩;have hl:i<h.n:=by lia
 obtain⟨o',h1,h2⟩:=r.obj i hl;refine⟨o',(iD hl).trans h1,?_⟩;simp only[if_neg e];exact eZ.stp st (bX (tr i hl)) h2;have hi:i<h.n+1:=hi;have hj:j<h.n+1:=hj;by_cases e:i=h.n;by_cases e2:j=h.n;lia;simp only[if_pos e,if_neg e2]at z;exact absurd z.symm (tr j (by lia));by_cases e2:j=h.n;simp only[if_neg e,if_pos e2]at z;exact absurd z (tr i (by lia));simp only[if_neg e,if_neg e2]at z;exact r.inj i j (by lia) (by lia) z;show(o::h.os).length=h.n+1;rw[dj,r.len]
theorem Zh(r:Rel K m h H){i:Nat}{o:VO}(hi:i<h.n):(h.set i o).get i=aC o:=by unfold VH.get VH.set;have h1:Nat.blt i h.n=true:=gA.mpr hi;simp only[h1,dg];rw[rO];rw[r.len];lia
theorem rZ{i j:Nat}{o:VO}(hi:i<h.n)(hj:j≠i):(h.set i o).get j=h.get j:=by
 unfold VH.get VH.set;by_cases h1:j<h.n;have h2:Nat.blt j h.n=true:=gA.mpr h1;simp only[h2,dg];rw[wO];lia;have h2:Nat.blt j h.n=false:=by
  cases q:Nat.blt j h.n with|false=>rfl|true=>exact absurd (gA.mp q) h1
 simp only[h2,gY,fM]
theorem Rel.write(r:Rel K m h H){i:Nat}{o:VO}{u u0:HO}(hi:i<h.n)(h0:H (m i)=aC u0)(hn:∀t,u0≠.tup t)(hf:∀o t,u0≠.bS o t)
 (ho:bO m h.n H m h.n (upd H (m i) u)->eZ K m h.n (upd H (m i) u) (m i) o) :
 bO m h.n H m h.n (upd H (m i) u)/\Rel K m (h.set i o) (upd H (m i) u):=by
 have st:bO m h.n H m h.n (upd H (m i) u):=by refine⟨aZ _,λ_ _=>rfl,λj a b=>absurd b (jn.mpr a),λj k a b=>absurd b (jn.mpr a),λb vs q=>?_,λb o t q=>?_,λb o nb q=>?_⟩;rw[bX (dH q h0 (λz=>hn vs z.symm))];exact q;rw[bX (dH q h0 (λz=>hf o t z.symm))];exact q;rw[bX (nb i hi).symm];exact q
 refine⟨st,⟨λj hj=>?_,λa b ha hb=>r.inj a b ha hb,?_⟩⟩;have hj:j<h.n:=hj;by_cases e:j=i;subst e;exact⟨o,Zh r hj,ho st⟩;obtain⟨o',h1,h2⟩:=r.obj j hj;exact⟨o',(rZ hi e).trans h1,eZ.stp st (bX λz=>e (r.inj j i hj hi z)) h2⟩;show(h.os.set _ o).length=h.n;rw[wW,r.len]
theorem Rel.more(r:Rel K m h H){p:ai}{u:HO}(hp:H p=aD):bO m h.n H m h.n (upd H p u)/\Rel K m h (upd H p u):=by
 have st:bO m h.n H m h.n (upd H p u):=by refine⟨aZ _,λ_ _=>rfl,λj a b=>absurd b (jn.mpr a),λj k a b=>absurd b (jn.mpr a),λb vs q=>?_,λb o t q=>?_,λb o nb q=>?_⟩;rw[bX (iV q hp)];exact q;rw[bX (iV q hp)];exact q;rw[bX (iV q hp)];exact q
 refine⟨st,⟨λj hj=>?_,r.inj,r.len⟩⟩;obtain⟨o',h1,h2⟩:=r.obj j hj;obtain⟨u',h3⟩:=h2.some;exact⟨o',h1,eZ.stp st (bX (iV h3 hp)) h2⟩
end
theorem Zi{α β:Type}{r:Res α}{f:α->VH->Res β}{b:β}{h':VH}(q:r.bind f=.ok b h'):∃a h1,r=.ok a h1/\f a h1=.ok b h':=by
 cases r with|ok a h=>exact⟨a,h,rfl,q⟩|ex x h=>cases q|no=>cases q
theorem bJ{α β:Type}{r:Res α}{f:α->VH->Res β}{w:β}{h':VH}{P:Prop}(e:r.bind f=.ok w h')(k:∀x h1,r=.ok x h1->f x h1=.ok w h'->P):P:=by obtain⟨x,h1,a,b⟩:=Zi e;exact k x h1 a b
theorem of_ok{α:Type}{o:Option α}{h h':VH}{a:α}(q:Res.of o h=.ok a h'):o=aC a/\h'=h:=by
 cases o with|none=>cases q|some b=>cases q;exact⟨rfl,rfl⟩
structure Fr(K:aI)(m:Nat->ai)(n:Nat)(H:Hp)(σ:L2.St)(ρ:En):Prop where
 len:σ.length=ρ.length
 val:∀(i:Nat)(w:W),ρ[i]?=aC (aC w)->∃v,σ[i]?=aC (aC v)/\aJ K m n H v w
noncomputable abbrev FE:=En->VH->Res W
noncomputable abbrev FS:=En->VH->Res Fl
noncomputable def eK(K:aI)(f:FE):TE:=λσ H Q=>∃ρ h m w h',Fr K m h.n H σ ρ/\Rel K m h H/\f ρ h=.ok w h'/\
 ∀v H' m',bO m h.n H m' h'.n H'->Rel K m' h' H'->aJ K m' h'.n H' v w->Q v H'
noncomputable def cP(K:aI)(f:FE):TT:=λσ H Q=>∃ρ h m b h',Fr K m h.n H σ ρ/\Rel K m h H/\f ρ h=.ok (.bl b) h'/\
 ∀H' m',bO m h.n H m' h'.n H'->Rel K m' h' H'->Q b H'
noncomputable def mq(K:aI)(f:FE):TA:=λσ H Q=>∃ρ h m ws h',Fr K m h.n H σ ρ/\Rel K m h H/\f ρ h=.ok (.tup ws) h'/\
 ∀vs H' m',bO m h.n H m' h'.n H'->Rel K m' h' H'->aG K m' h'.n H' vs ws->Q vs H'
section
variable{K:aI}{m:Nat->ai}{σ:L2.St}{H:Hp}{P:Prop}{fa:FE}{ρ:En}{h h':VH}
theorem eK.el{Q:VK}(q:eK K fa σ H Q)(k:∀ρ h m w h',Fr K m h.n H σ ρ->Rel K m h H->fa ρ h=.ok w h'->(∀v H' m',bO m h.n H m' h'.n H'->Rel K m' h' H'->aJ K m' h'.n H' v w->Q v H')->P):P:=by obtain⟨ρ,h,m,w,h',f,r,e,k'⟩:=q;exact k ρ h m w h' f r e k'
theorem eK.mk{Q:VK}{w:W}(f:Fr K m h.n H σ ρ)(r:Rel K m h H)(e:fa ρ h=.ok w h')(k:∀v H' m',bO m h.n H m' h'.n H'->Rel K m' h' H'->aJ K m' h'.n H' v w->Q v H'):eK K fa σ H Q:=⟨ρ,h,m,w,h',f,r,e,k⟩
theorem cP.el{Q:Bool->Hp->Prop}(q:cP K fa σ H Q)(k:∀ρ h m b h',Fr K m h.n H σ ρ->Rel K m h H->fa ρ h=.ok (.bl b) h'->(∀H' m',bO m h.n H m' h'.n H'->Rel K m' h' H'->Q b H')->P):P:=by obtain⟨ρ,h,m,w,h',f,r,e,k'⟩:=q;exact k ρ h m w h' f r e k'
theorem cP.mk{Q:Bool->Hp->Prop}{b:Bool}(f:Fr K m h.n H σ ρ)(r:Rel K m h H)(e:fa ρ h=.ok (.bl b) h')(k:∀H' m',bO m h.n H m' h'.n H'->Rel K m' h' H'->Q b H'):cP K fa σ H Q:=⟨ρ,h,m,b,h',f,r,e,k⟩
theorem mq.el{Q:List V->Hp->Prop}(q:mq K fa σ H Q)(k:∀ρ h m ws h',Fr K m h.n H σ ρ->Rel K m h H->fa ρ h=.ok (.tup ws) h'->(∀vs H' m',bO m h.n H m' h'.n H'->Rel K m' h' H'->aG K m' h'.n H' vs ws->Q vs H')->P):P:=by obtain⟨ρ,h,m,w,h',f,r,e,k'⟩:=q;exact k ρ h m w h' f r e k'
theorem mq.mk{Q:List V->Hp->Prop}{ws:List W}(f:Fr K m h.n H σ ρ)(r:Rel K m h H)(e:fa ρ h=.ok (.tup ws) h')(k:∀vs H' m',bO m h.n H m' h'.n H'->Rel K m' h' H'->aG K m' h'.n H' vs ws->Q vs H'):mq K fa σ H Q:=⟨ρ,h,m,ws,h',f,r,e,k⟩
end
noncomputable abbrev SE(X:Cx)(e:aq)(f:FE):Prop:=PE X e (eK X.K f)
noncomputable abbrev ST(X:Cx)(e:aq)(f:FE):Prop:=PT X e (cP X.K f)
noncomputable abbrev SW(X:Cx)(e:aq)(f:FE):Prop:=PW X e (cP X.K f)
noncomputable abbrev SA(X:Cx)(es:List aq)(f:FE):Prop:=PA X es (mq X.K f)
theorem _root_.L2.PE.imp{X:Cx}{e:aq}{t t':TE}(h:PE X e t)(k:∀σ H Q,t' σ H Q->t σ H Q):PE X e t':=λpins s σ H Q I q=>h pins s σ H Q I (k σ H Q q)
theorem _root_.L2.PT.imp{X:Cx}{e:aq}{t t':TT}(h:PT X e t)(k:∀σ H Q,t' σ H Q->t σ H Q):PT X e t':=λpins s σ H Q I q=>h pins s σ H Q I (k σ H Q q)
theorem _root_.L2.PW.imp{X:Cx}{e:aq}{t t':TT}(h:PW X e t)(k:∀σ H Q,t' σ H Q->t σ H Q):PW X e t':=λwh pins s σ H Q I q=>h wh pins s σ H Q I (k σ H Q q)
theorem _root_.L2.PA.imp{X:Cx}{es:List aq}{t t':TA}(h:PA X es t)(k:∀σ H Q,t' σ H Q->t σ H Q):PA X es t':=λp pins s σ H Q I q=>h p pins s σ H Q I (k σ H Q q)
theorem _root_.L2.PS.imp{X:Cx}{st:au}{t t':TS}(h:PS X st t)(k:∀D σ H,t' D σ H->t D σ H):PS X st t':=λpins s σ H D I q=>h pins s σ H D I (k D σ H q)
theorem _root_.L2.gU.imp{X:Cx}{st:List au}{t t':TS}(h:gU X st t)(k:∀D σ H,t' D σ H->t D σ H):gU X st t':=λpins s σ H D I q=>h pins s σ H D I (k D σ H q)
section
variable{K:aI}{m m':Nat->ai}{n n':Nat}{h h':VH}{H H':Hp}{σ:L2.St}{ρ:En}
theorem Fr.stp(f:Fr K m n H σ ρ)(s:bO m n H m' n' H'):Fr K m' n' H' σ ρ:=⟨f.len,λi w e=>let⟨v,h1,h2⟩:=f.val i w e;⟨v,h1,h2.stp s⟩⟩
theorem Fr.set(f:Fr K m n H σ ρ){v:V}{w:W}(q:aJ K m n H v w)(i:Nat):Fr K m n H (σ.set i (aC v)) (ρ.set i (aC w)):=by refine⟨by rw[wW,wW];exact f.len,λj w' e=>?_⟩;by_cases hj:i=j;subst hj;by_cases hl:i<ρ.length;rw[rO hl]at e;cases e;exact⟨v,by rw[rO (by rw[f.len];exact hl)],q⟩;rw[jm (by rw[wW];lia)]at e;cases e;rw[wO hj]at e;obtain⟨v',h1,h2⟩:=f.val j w' e;exact⟨v',by rw[wO hj];exact h1,h2⟩
noncomputable def aN(K:aI)(m:Nat->ai)(n:Nat)(H:Hp)(w:W)(h':VH)(Q:VK):Prop:=∀v H' m',bO m n H m' h'.n H'->Rel K m' h' H'->aJ K m' h'.n H' v w->Q v H'
theorem aN.here{w:W}{Q:VK}(k:aN K m h.n H w h Q)(r:Rel K m h H){v:V}(q:aJ K m h.n H v w):Q v H:=k v H m .refl r q
theorem aN.list{ws:List W}{vs:List V}{Q:VK}(k:aN K m h.n H (.ref h.n) (h.new (.lst ws)) Q)(r:Rel K m h H)(q:aG K m h.n H vs ws){p:ai}(hp:H p=aD):Q (.ref p) (upd H p (.lst vs)):=by obtain⟨st,r'⟩:=r.alloc (o:=.lst ws) (u:=.lst vs) hp (λ_ z=>nomatch z) (λst=>⟨vs,gn,q.stp st⟩);refine k _ _ _ st r' ?_;have:aJ K (λi=>if i=h.n then p else m i) (h.n+1) (upd H p (.lst vs)) (.ref ((λi=>if i=h.n then p else m i) h.n)) (.ref h.n):=.ref (jF _);simp only[dg]at this;exact this
theorem aN.tuple{ws:List W}{vs:List V}{Q:VK}(k:aN K m h.n H (.tup ws) h Q)(r:Rel K m h H)(q:aG K m h.n H vs ws){p:ai}(hp:H p=aD):Q (.ref p) (upd H p (.tup vs)):=by obtain⟨st,r'⟩:=r.more (u:=.tup vs) hp;exact k _ _ _ st r' (.tup (dh.of gn) (q.stp st))
theorem RP{fa:FE}{g:W->VH->Res W}{G:V->Hp->VK->Prop}
 (hG:∀(m:Nat->ai)(h:VH)(H:Hp)(v:V)(x w:W)(h':VH)(Q:VK),Rel K m h H->aJ K m h.n H v x->g x h=.ok w h'->aN K m h.n H w h' Q->G v H Q) {Q:VK}
 (q:eK K (λρ h=>(fa ρ h).bind λx h=>g x h) σ H Q):eK K fa σ H λv H1=>G v H1 Q:=by
 refine q.el λρ h m w h' f r e k=>?_;refine bJ e λx h1 e1 e2=>?_;exact(.mk f r e1 λv H1 m1 s1 r1 q1=>hG m1 h1 H1 v x w h' Q r1 q1 e2 λv' H' m' s' r' q'=>k v' H' m' (s1.trans s') r' q')
theorem Gn{fa fb:FE}{g:W->W->VH->Res W}{G:V->V->Hp->VK->Prop}
 (hG:∀(m:Nat->ai)(h:VH)(H:Hp)(v u:V)(x y w:W)(h':VH)(Q:VK),Rel K m h H->aJ K m h.n H v x->aJ K m h.n H u y->g x y h=.ok w h'->aN K m h.n H w h' Q->G v u H Q) {Q:VK}
 (q:eK K (λρ h=>(fa ρ h).bind λx h=>(fb ρ h).bind λy h=>g x y h) σ H Q):eK K fa σ H λv H1=>eK K fb σ H1 λu H2=>G v u H2 Q:=by
 refine q.el λρ h m w h' f r e k=>?_;refine bJ e λx h1 e1 e2=>?_;refine bJ e2 λy h2 e3 e4=>?_;refine(.mk f r e1 λv H1 m1 s1 r1 q1=>(.mk (f.stp s1) r1 e3 λu H2 m2 s2 r2 q2=>?_));exact hG m2 h2 H2 v u x y w h' Q r2 (q1.stp s2) q2 e4 λv' H' m' s' r' q'=>k v' H' m' ((s1.trans s2).trans s') r' q'
theorem zS{fa:FE}{g:List W->VH->Res W}{G:List V->Hp->VK->Prop}
 (hG:∀(m:Nat->ai)(h:VH)(H:Hp)(vs:List V)(xs:List W)(w:W)(h':VH)(Q:VK),Rel K m h H->aG K m h.n H vs xs->g xs h=.ok w h'->aN K m h.n H w h' Q->G vs H Q) {Q:VK}
 (q:eK K (λρ h=>(fa ρ h).bind λy h=>match y with|.tup ys=>g ys h|_=>.no) σ H Q):mq K fa σ H λvs H1=>G vs H1 Q:=by
 refine q.el λρ h m w h' f r e k=>?_;refine bJ e λx h1 e1 e2=>?_;cases x with|tup ys=>exact(.mk f r e1 λvs H1 m1 s1 r1 q1=>hG m1 h1 H1 vs ys w h' Q r1 q1 e2 λv' H' m' s' r' q'=>k v' H' m' (s1.trans s') r' q')|_=>cases e2
theorem RQ{f:FE}{Q:Bool->Hp->Prop}(q:cP K f σ H Q):eK K f σ H λx H'=>∃k,x=.bl k/\Q k H':=by refine q.el λρ h m b h' f r e k=>?_;exact(.mk f r e λv H' m' s' r' q'=>by cases q';exact⟨b,rfl,k H' m' s' r'⟩)
end
section
variable{X:Cx}{a b c e:aq}{es:List aq}{fa fb fc:FE}{pos:Pos}
theorem Zj{i:Nat}{x:Str}{pos:Pos}(hN:X.N[i]?=aC x)(hv:pW X.env.scope x)(hd:(x==("__debug__" : Str))=false)(hcd:(x==("__classdict__" : Str))=false):SE X (.Name x pos) (λρ h=>.of (ρ[i]?).join h):=
 (Il hN hv hd hcd).imp λσ H Q z9=>z9.el λρ h m w h' f r e k=>by
   obtain⟨e1,e2⟩:=of_ok e;subst e2;have e3:ρ[i]?=aC (aC w):=by
    cases q:ρ[i]? with|none=>rw[q]at e1;cases e1|some o=>rw[q]at e1;rw[<-e1];rfl
   obtain⟨v,h1,h2⟩:=f.val i w e3;exact⟨v,h1,k v H m .refl r h2⟩
theorem Ck{w:W}{v:V}(h:PE X e (tC v))(hv:∀m n H,aJ X.K m n H v w):SE X e (λ_ h=>.ok w h):=
 h.imp λσ H Q z9=>z9.el λρ h m w h' f r e k=>by cases e;exact k v H m .refl r (hv m h.n H)
theorem Zk{i j pos}:SE X (.Constant (.int i) j pos) (λ_ h=>.ok (.int i) h):=Ck Qe λ_ _ _=>.int i
theorem Cm{i j pos}:SE X (.Constant (.bool i) j pos) (λ_ h=>.ok (.bl i) h):=Ck uV λ_ _ _=>.bl i
theorem Zl{j pos}:SE X (.Constant .none j pos) (λ_ h=>.ok .aL h):=Ck VY λ_ _ _=>.aL
theorem Zm{i j pos}:SE X (.Constant (.str i) j pos) (λ_ h=>.ok (.str i) h):=Ck Qf λ_ _ _=>.str i
theorem Gp:SA X [] (λ_ h=>.ok (.tup []) h):=pZ.imp λσ H Q z9=>z9.el λρ h m ws h' f r e k=>by cases e;exact k [] H m .refl r .nil
theorem zT(ha:SE X e fa)(hr:SA X es fb)(hs:starEach (e::es) X.env=(false,eval e X.env)::starEach es X.env) :
 SA X (e::es) (λρ h=>(fa ρ h).bind λx h=>(fb ρ h).bind λy h=>match y with|.tup ys=>.ok (.tup (x::ys)) h|_=>.no):=
 (nY ha hr hs).imp λσ H Q z9=>z9.el λρ h m ws h' f r e k=>by
   refine bJ e λx h1 e1 e2=>?_;refine bJ e2 λy h2 e3 e4=>?_;cases y with
   |tup ys=>
    cases e4;exact(.mk f r e1 λv H1 m1 s1 r1 q1=>(.mk (f.stp s1) r1 e3 λvs H2 m2 s2 r2 q2=>k _ H2 m2 (s1.trans s2) r2 (.cons (q1.stp s2) q2)))
   |_=>cases e4
theorem RS{k:Nat}(h:Nat.ble k 1000):k<=sizeLine:=sR (Jb (lR h))
theorem Zn{x1:Nat}(ha:SA X es fa):SE X (.Tuple es x1 pos) (λρ h=>(fa ρ h).bind λy h=>match y with|.tup ys=>(if Nat.ble ys.length 1000 then .ok (.tup ys) h else .no)|_=>.no):=
 (W3 ha).imp λσ H Q q=>zS (g:=λys h=>if Nat.ble ys.length 1000 then .ok (.tup ys) h else .no) (G:=λxs H1 Q=>xs.length<=sizeLine/\∀p,H1 p=aD->Q (.ref p) (upd H1 p (.tup xs)))
   (λm h H vs xs w h' Q r q e k=>by
     split at e;rename_i hl;cases e;exact⟨by rw[q.length];exact RS hl,λp hp=>aN.tuple k r q hp⟩;cases e) q
theorem Zo(ha:SA X es fa):SE X (.List es pos) (λρ h=>(fa ρ h).bind λy h=>match y with|.tup ys=>(if Nat.ble ys.length 1000 then .ok (.ref h.n) (h.new (.lst ys))else .no)|_=>.no):=
 (IS ha).imp λσ H Q q=>zS (g:=λys h=>if Nat.ble ys.length 1000 then .ok (.ref h.n) (h.new (.lst ys))else .no) (G:=λxs H1 Q=>xs.length<=sizeLine/\∀p,H1 p=aD->Q (.ref p) (upd H1 p (.lst xs)))
   (λm h H vs xs w h' Q r q e k=>by
     split at e;rename_i hl;cases e;exact⟨by rw[q.length];exact RS hl,λp hp=>aN.list k r q hp⟩;cases e) q
noncomputable def Cn(K:aI)(r:R2)(g:W->W->VH->Res W):Prop:=∀(m:Nat->ai) (h:VH) (H:Hp) (v u:V) (x y w:W) (h':VH) (Q:VK),Rel K m h H->aJ K m h.n H v x->aJ K m h.n H u y->g x y h=.ok w h'->aN K m h.n H w h' Q->r v u H Q
theorem Co{O:Operator}{r:R2}{g:W->W->VH->Res W}(ho:dU X (binaryOp O) r)(hg:Cn X.K r g)(ha:SE X a fa)(hb:SE X b fb):SE X (.BinOp a O b pos) (λρ h=>(fa ρ h).bind λx h=>(fb ρ h).bind λy h=>g x y h):=
 (pY ho ha hb).imp λσ H Q q=>Gn (G:=r) hg q
noncomputable def Cq:Operator->Option Op|.Add=>aC .add|.Sub=>aC .sub|.Mult=>aC .mul|.FloorDiv=>aC .fdiv|.Mod=>aC .mod|.Pow=>aC .pow|_=>aD
noncomputable def cI:Op->Int->Int->Prop|.mul=>nX|.fdiv=>tu|.mod=>λ_ j=>0<j|.shl=>xB|.pow=>xB|_=>λ_ _=>True
noncomputable def gI:Op->Int->Int->Int|.add=>(· + ·)|.sub=>(· - ·)|.mul=>(· * ·)|.fdiv=>(· / ·)|.mod=>(· % ·)|.shl=>λi j=>i*2 ^ j.toNat|.pow=>λi j=>i ^ j.toNat
noncomputable def rX(K:aI):Op->R2|.add=>λx y H Q=>mV K x y H Q\/Rw K x y H Q\/BI x y H Q|.mul=>λx y H Q=>vd K x y H Q|_=>λ_ _ _ _=>False
noncomputable def rB(K:aI)(o:Op):R2:=λx y H Q=>rI (cI o) (λi j=>.int (gI o i j)) x y H Q\/rX K o x y H Q
theorem zU{f:af->af->Sem af}{r r':R2}(h:dU X f r)(k:∀x y H Q,r' x y H Q->r x y H Q):dU X f r':=λpins s σ H x y v u Q I rx ry q=>h pins s σ H x y v u Q I rx ry (k _ _ _ _ q)
theorem Cr{O:Operator}{o:Op}(e:Cq O=aC o):dU X (binaryOp O) (rB X.K o):=by
 have tr:∀{g:Int->Int->V}{x y H Q},rI (λ_ _=>True) g x y H Q->nW g x y H Q:=λ⟨i,j,h1,h2,_,h3⟩=>⟨i,j,h1,h2,h3⟩
 cases O<;>cases e;exact zU (Wy.or (Xg.or (YJ.or IX))) λx y H Q q=>q.elim (λz=>.inl (tr z)) .inr;exact zU Wz λx y H Q q=>q.elim (λz=>tr z) λz=>z.elim;exact zU (WA.or YI) λx y H Q q=>q;exact zU WC λx y H Q q=>q.elim id λz=>z.elim;exact zU WD λx y H Q q=>q.elim id λz=>z.elim;exact zU WB λx y H Q q=>q.elim id λz=>z.elim
theorem RT{i:Int}(h:kN i):-(2 ^ 64)<i/\i<2 ^ 64:=by unfold kN at h;rw[bw]at h;exact⟨lN h.1,lN h.2⟩
theorem JM{o:Op}{i j z:Int}(e:iY o i j=aC z):cI o i j/\z=gI o i j:=by cases o<;>simp only[iY]at e;cases e;exact⟨trivial,rfl⟩;cases e;exact⟨trivial,rfl⟩;split at e;rename_i hc;cases e;rw[pL]at hc;exact⟨hc.elim (λq=>.inl (RT q)) (λq=>.inr (RT q)),rfl⟩;cases e;split at e;rename_i hc;cases e;rw[bw]at hc;exact⟨⟨lN hc.1,lN hc.2⟩,rfl⟩;cases e;split at e;rename_i hc;cases e;exact⟨(lN hc:0<j),rfl⟩;cases e;split at e;rename_i hc;cases e;rw[bw,bw]at hc;exact⟨⟨lN hc.1.1,lN hc.1.2,lN hc.2⟩,rfl⟩;cases e;split at e;rename_i hc;cases e;rw[bw,bw]at hc;exact⟨⟨lN hc.1.1,lN hc.1.2,lN hc.2⟩,rfl⟩;cases e
theorem yc{i:Int}(h:fits i):-(2 ^ 62)<=i/\i<2 ^ 62:=by unfold fits at h;rw[bw]at h;exact⟨lN h.1,lN h.2⟩
theorem Zp{o:Op}{xs zs:List W}{k:Int}(e:qo o xs k=aC zs):o=.mul/\(-(2 ^ 62)<=k/\k<2 ^ 62)/\xs.length*k.toNat<=sizeLine/\zs=(bN k.toNat xs).flatten:=by unfold qo at e;split at e;split at e;rename_i hc;cases e;rw[bw]at hc;exact⟨rfl,yc hc.1,lR hc.2,rfl⟩;cases e;cases e
theorem aG.rep{K:aI}{m:Nat->ai}{n:Nat}{H:Hp}{vs:List V}{ws:List W}(q:aG K m n H vs ws):∀k:Nat,aG K m n H (bN k vs).flatten (bN k ws).flatten
 |0=>.nil
 |k+1=>by
  rw[sP,sP,uR,uR];exact q.append (aG.rep q k)
theorem Zq{K:aI}{m:Nat->ai}{n:Nat}{H:Hp}{vs:List V}{ws:List W}(q:aG K m n H vs ws):vs.isEmpty=ws.isEmpty:=by cases q<;>rfl
theorem Zr{ws:List W}{k:Int}(h:(ws.isEmpty||k==1)):(bN k.toNat ws).flatten=ws:=by
 rw[pL]at h;rcases h with h|h
 have:ws=[]:=by simpa using h
 subst this;induction k.toNat with|zero=>rfl|succ j ih=>rw[sP,uR,ih];rfl
 have:k=1:=by simpa using h
 subst this;show(bN 1 ws).flatten=ws;simp
theorem Zs{K:aI}(o:Op):Cn K (rB K o) (iN o):=by
 intro m h H v u x y w h' Q r qv qu e k;unfold iN at e;split at e;rename_i i j;obtain⟨e,rfl⟩:=of_ok e;cases qv;cases qu;cases q:iY o i j with
 |none=>rw[q]at e;cases e
 |some z=>
  rw[q]at e;cases e;obtain⟨h1,rfl⟩:=JM q;exact .inl ⟨i,j,rfl,rfl,h1,aN.here k r (.int _)⟩
 .rename_i xs ys
  obtain⟨e,rfl⟩:=of_ok e;cases q:Gj o xs ys with
  |none=>rw[q]at e;cases e
  |some zs=>
   rw[q]at e;cases e;cases o<;>simp only[Gj]at q;split at q;rename_i hc;cases q;cases qv with
   |tup qa ra=>
    cases qu with
    |tup qb rb=>
     rename_i a va b vb;have hl:=lR hc;cases xs with
     |nil=>
      cases ra;exact .inr (.inr (.inl ⟨a,b,vb,rfl,rfl,qa,qb,aN.here k r (.tup qb rb)⟩))
     |cons x0 xs0=>
      refine .inr (.inl ⟨a,b,va,vb,rfl,rfl,qa,qb,λz=>?_,by rw[ra.length,rb.length];exact hl,λz=>?_,λ_ p hp=>aN.tuple k r (ra.append rb) hp⟩);subst z;cases ra;subst z;cases rb;rw[nS]at k;exact aN.here k r (.tup qa ra)
   cases q
   all_goals cases q
 rename_i xs kk;obtain⟨e,rfl⟩:=of_ok e;cases q:qo o xs kk with
 |none=>rw[q]at e;cases e
 |some zs=>
  rw[q]at e;cases e;obtain⟨rfl,⟨k1,k2⟩,hz,rfl⟩:=Zp q;cases qu;cases qv with
  |tup qa ra=>
   rename_i a va;refine .inr ⟨a,kk,va,rfl,rfl,qa,k1,k2,by rw[ra.length];exact hz,λz=>?_,λz p hp=>aN.tuple k r (ra.rep _) hp⟩;rw[Zq ra]at z;rw[Zr z]at k;exact aN.here k r (.tup qa ra)
 .rename_i i j
  split at e
  .rename_i xs ys hx hy
   split at e
   .rename_i zs q
    cases e;cases o<;>simp only[Cf]at q;split at q;rename_i hc;cases q;obtain⟨va,pa,ra⟩:=r.lst hx;obtain⟨vb,pb,rb⟩:=r.lst hy;cases qv;cases qu;exact .inr (.inr (.inr ⟨m i,m j,va,vb,rfl,rfl,pa,pb,by rw[ra.length,rb.length];exact lR hc,λp hp=>aN.list k r (ra.append rb) hp⟩));cases q
    all_goals cases q
   cases e
  cases e
 cases e
end
section
variable{K:aI}{m:Nat->ai}{h:VH}{H:Hp}
theorem Gq{f:W->Option aB}(ih:∀(w:W) (d:aB) (v:V),f w=aC d->aJ K m h.n H v w->Rp K (λ_=>False) H v d):∀{ws:List W} {ds:List aB} {vs:List V},bH f ws=aC ds->aG K m h.n H vs ws->o9 K (λ_=>False) H vs ds
 |[],ds,_,e,q=>by cases q;cases e;exact .nil
 |w::ws,ds,_,e,q=>by
  rcases q with _|⟨q,r⟩;unfold bH at e;split at e;rename_i d hd;split at e;rename_i bs hb;cases e;exact .cons (ih w d _ hd q) (Gq ih hb r);cases e;cases e
theorem kU(r:Rel K m h H):∀(n:Nat) (w:W) (d:aB) (v:V),toD h n w=aC d->aJ K m h.n H v w->Rp K (λ_=>False) H v d
 |0,_,_,_,e,_=>by cases e
 |n+1,w,d,v,e,q=>by
  cases q with
  |aL=>cases e;exact .aL
  |bl b=>cases e;exact .bl b
  |int b=>cases e;exact .int b
  |str b=>cases e;exact .str b
  | @tup a vs ws sq rs=>
   simp only[toD]at e;cases z:bH (toD h n) ws with|none=>rw[z]at e;cases e|some ds=>rw[z]at e;cases e;exact .tup sq (λz=>z) (Gq (kU r n) z rs)
  | @fz a vs ws sq rs=>
   simp only[toD]at e;cases z:bH (toD h n) ws with|none=>rw[z]at e;cases e|some ds=>rw[z]at e;cases e;exact .lst sq.sq (λz=>z) (Gq (kU r n) z rs)
  | @ref i hi=>
   simp only[toD]at e;cases g:h.get i with
   |none=>rw[g]at e;cases e
   |some o=>
    rw[g]at e;cases o with
    |dk _=>cases e
    |dm _=>cases e
    |lst ws=>
     obtain⟨vs,h1,h2⟩:=r.lst g;simp only at e;cases z:bH (toD h n) ws with|none=>rw[z]at e;cases e|some ds=>rw[z]at e;cases e;exact .lst (cJ.of h1) (λz=>z) (Gq (kU r n) z h2)
theorem RU(r:Rel K m h H){x y:W}{v u:V}{b:Bool}(e:dW h x y=aC b)(qv:aJ K m h.n H v x)(qu:aJ K m h.n H u y) :
 ∃d e',Rp K (λ_=>False) H v d/\Rp K (λ_=>False) H u e'/\SeqAt.shaped d=true/\SeqAt.shaped e'=true/\b=PyData.eqv d e':=by
 unfold dW at e;split at e;rename_i d e' h1 h2;split at e;rename_i hc;cases e;rw[bw]at hc;exact⟨d,e',kU r _ _ _ _ h1 qv,kU r _ _ _ _ h2 qu,hc.1,hc.2,rfl⟩;cases e;cases e
end
theorem Cs{K:aI}{m:Nat->ai}{h:VH}{H:Hp}{v:V}{w:W}{ws:List W}(r:Rel K m h H)(q:aJ K m h.n H v w)(e:aV h w=aC ws):∃p vs,v=.ref p/\(cJ K H p vs\/dh K H p vs)/\aG K m h.n H vs ws:=by
 cases q<;>try cases e
 exact⟨_,_,rfl,.inr ‹_›,‹_›⟩;rename_i q _;exact⟨_,_,rfl,.inl q.sq,‹_›⟩;rename_i i hi;simp only[aV]at e;cases g:h.get i with
 |none=>rw[g]at e;cases e
 |some o=>
  rw[g]at e;cases o with
  |dk _=>cases e
  |dm _=>cases e
  |lst ws=>
   cases e;obtain⟨vs,h1,h2⟩:=r.lst g;exact⟨_,vs,rfl,.inl (cJ.of h1),h2⟩
noncomputable def iu:CmpOp->Option Cp|.Eq=>aC .eq|.NotEq=>aC .ne|.Lt=>aC .lt|.LtE=>aC .le|.Gt=>aC .gt|.GtE=>aC .ge|.Is=>aC .Gi|.IsNot=>aC .xR|_=>aD
noncomputable def rC(K:aI):Cp->R2|.eq=>BO K|.ne=>BP K|.lt=>nW λi j=>.bl (decide (i<j))|.le=>nW λi j=>.bl (decide (i<=j))|.gt=>nW λi j=>.bl (decide (j<i))|.ge=>nW λi j=>.bl (decide (j<=i))|.Gi=>λx y H Q=>(y=.aL/\Q (.bl (decide (x=.aL))) H)\/∃c b,x=.bl c/\y=.bl b/\Q (.bl (c==b)) H|.xR=>λx y H Q=>(y=.aL/\Q (.bl (!decide (x=.aL))) H)\/∃c b,x=.bl c/\y=.bl b/\Q (.bl (!(c==b))) H
noncomputable def r9:aq->Bool|.Set ..=>false|_=>true
theorem JN{op:CmpOp}{b:aq}(h:r9 b):behindInMarks op b=false:=by cases b<;>first|rfl|cases h
section
variable{X:Cx}{a b c e:aq}{es:List aq}{fa fb fc:FE}{pos:Pos}
theorem Zt:dU X (compareOp .Is) (λx y H Q=>∃c b,x=.bl c/\y=.bl b/\Q (.bl (c==b)) H):=by intro pins s σ H x y v u Q I rx ry h;obtain⟨c,b,rfl,rfl,q⟩:=h;cases rx;cases ry;exact wpAny_is_plain rfl (jU I q (by cases c<;>cases b<;>rfl))
theorem Zu:dU X (compareOp .IsNot) (λx y H Q=>∃c b,x=.bl c/\y=.bl b/\Q (.bl (!(c==b))) H):=by intro pins s σ H x y v u Q I rx ry h;obtain⟨c,b,rfl,rfl,q⟩:=h;cases rx;cases ry;exact wpAny_isNot_plain rfl (jU I q (by cases c<;>cases b<;>rfl))
theorem zV(hu:X.A.units+65<cLine){O:CmpOp}{c:Cp}(e:iu O=aC c):dU X (compareOp O) (rC X.K c):=by cases O<;>cases e;exact XY (by lia);exact XZ (by lia);exact Br;exact Bs;exact Bt;exact Bu;exact WO.or Zt;exact WQ.or Zu
theorem Gs{K:aI}{m:Nat->ai}{n:Nat}{H:Hp}{v:V}{w:W}(q:aJ K m n H v w):eX w=decide (v=.aL):=by cases q<;>simp[eX]
theorem Gu{K:aI}(c:Cp):Cn K (rC K c) (λx y h=>.of ((bP c h x y).map .bl) h):=by
 intro m h H v u x y w h' Q r qv qu e k;obtain⟨e,rfl⟩:=of_ok e;cases z:bP c h' x y with
 |none=>rw[z]at e;cases e
 |some b=>
  rw[z]at e;cases e;have fin:Q (.bl b) H:=aN.here k r (.bl b);unfold bP at z;split at z;obtain⟨d,e',h1,h2,h3,h4,rfl⟩:=RU r z qv qu;exact⟨d,e',h1,h2,h3,h4,fin⟩;cases z2:dW h' x y with
  |none=>rw[z2]at z;cases z
  |some b2=>
   rw[z2]at z;cases z;obtain⟨d,e',h1,h2,h3,h4,rfl⟩:=RU r z2 qv qu;exact⟨d,e',h1,h2,h3,h4,fin⟩
  split at z;rename_i hn;cases z;have:=Gs qu;rw[hn]at this;refine .inl ⟨lN this.symm,?_⟩;rw[<-Gs qv];exact fin;unfold Cg at z;split at z;rename_i c b;cases z;cases qv;cases qu;exact .inr ⟨_,_,rfl,rfl,fin⟩;cases z;split at z;rename_i hn;cases z;have:=Gs qu;rw[hn]at this;refine .inl ⟨lN this.symm,?_⟩;rw[<-Gs qv];exact fin;cases z2:Cg x y with
  |none=>rw[z2]at z;cases z
  |some b2=>
   rw[z2]at z;cases z;unfold Cg at z2;split at z2;rename_i c b;cases z2;cases qv;cases qu;exact .inr ⟨_,_,rfl,rfl,fin⟩;cases z2
  split at z;rename_i i j;cases qv;cases qu;cases c<;>simp only[jW]at z<;>cases z<;>exact⟨i,j,rfl,rfl,fin⟩;cases z
theorem Zv(hu:X.A.units+65<cLine){O:CmpOp}{c:Cp}(e:iu O=aC c)(hs:r9 b)(ha:SE X a fa)(hb:SE X b fb) :
 SE X (.Compare a [O] [b] pos) (λρ h=>(fa ρ h).bind λx h=>(fb ρ h).bind λy h=>.of ((bP c h x y).map .bl) h):=
 (WR (zV hu e) ha hb (JN hs)).imp λσ H Q q=>Gn (G:=rC X.K c) (Gu c) q
theorem Zw(hu:X.A.units+65<cLine){O:CmpOp}{c:Cp}(e:iu O=aC c)(hs:r9 b)(ha:SE X a fa)(hb:SE X b fb) :
 ST X (.Compare a [O] [b] pos) (λρ h=>(fa ρ h).bind λx h=>(fb ρ h).bind λy h=>.of ((bP c h x y).map .bl) h):=
 (Qu (zV hu e) ha hb (JN hs)).imp λσ H Q q=>Gn (G:=rC X.K c) (Gu c) (RQ q)
theorem RV{O O':CmpOp}{a b:aq}(h:r9 b):lastMarks [O,O'] [a,b]=false:=JN h
theorem RW{K:aI}{c1 c2:Cp}{σ:L2.St}{H:Hp}{Q:VK}
 (q:eK K (λρ h=>(fa ρ h).bind λx h=>(fb ρ h).bind λy h=>match bP c1 h x y with
   |some true=>(fc ρ h).bind λz h=>.of ((bP c2 h y z).map .bl) h
   |some false=>.ok (.bl false) h
   |none=>.no) σ H Q):IL (rC K c1) (rC K c2) (eK K fa) (eK K fb) (eK K fc) σ H Q:=by
 refine q.el λρ h m w h' f r e k=>?_;refine bJ e λx h1 e1 e2=>?_;refine bJ e2 λy h2 e3 e4=>?_;refine(.mk f r e1 λv H1 m1 s1 r1 q1=>(.mk (f.stp s1) r1 e3 λu H2 m2 s2 r2 q2=>?_));have f2:=(f.stp s1).stp s2;have k2:aN K m2 h2.n H2 w h' Q:=λv' H' m' s' r' q'=>k v' H' m' ((s1.trans s2).trans s') r' q';cases z:bP c1 h2 x y with
 |none=>rw[z]at e4;cases e4
 |some b=>
  rw[z]at e4;refine Gu c1 m2 h2 H2 v u x y (.bl b) h2 _ r2 (q1.stp s2) q2 (by show Res.of ((bP c1 h2 x y).map W.bl) h2=_;rw[z];rfl) λv3 H3 m3 s3 r3 q3=>?_;cases q3;refine⟨b,rfl,?_⟩;cases b with
  |true=>
   refine bJ e4 λz' h4 e5 e6=>?_;rw[if_pos rfl];refine⟨ρ,h2,m3,z',h4,f2.stp s3,r3,e5,λv4 H4 m4 s4 r4 q4=>?_⟩;exact Gu c2 m4 h4 H4 u v4 y z' w h' Q r4 ((q2.stp s3).stp s4) q4 e6 λv' H' m' s' r' q'=>k2 v' H' m' ((s3.trans s4).trans s') r' q'
  |false=>
   cases e4;simp only[gY,fM];exact k2 _ H3 m3 s3 r3 (.bl false)
theorem Zx(hu:X.A.units+65<cLine){O O':CmpOp}{c1 c2:Cp}(e:iu O=aC c1)(e':iu O'=aC c2)(hs:r9 c)(ha:SE X a fa)(hb:SE X b fb)(hc:SE X c fc) :
 SE X (.Compare a [O,O'] [b,c] pos) (λρ h=>(fa ρ h).bind λx h=>(fb ρ h).bind λy h=>match bP c1 h x y with|some true=>(fc ρ h).bind λz h=>.of ((bP c2 h y z).map .bl) h|some false=>.ok (.bl false) h|none=>.no):=(WS (zV hu e) (zV hu e') ha hb hc (RV hs)).imp λσ H Q q=>RW q
theorem Zy(hu:X.A.units+65<cLine){O O':CmpOp}{c1 c2:Cp}(e:iu O=aC c1)(e':iu O'=aC c2)(hs:r9 c)(ha:SE X a fa)(hb:SE X b fb)(hc:SE X c fc) :
 ST X (.Compare a [O,O'] [b,c] pos) (λρ h=>(fa ρ h).bind λx h=>(fb ρ h).bind λy h=>match bP c1 h x y with|some true=>(fc ρ h).bind λz h=>.of ((bP c2 h y z).map .bl) h|some false=>.ok (.bl false) h|none=>.no):=(WT (zV hu e) (zV hu e') ha hb hc (RV hs)).imp λσ H Q q=>RW (RQ q)
noncomputable abbrev Ct(fa:FE):FE:=λρ h=>(fa ρ h).bind λx h=>match x with|.bl b=>.ok (.bl (!b)) h|_=>.no
noncomputable abbrev Cu(fa fb:FE):FE:=λρ h=>(fa ρ h).bind λx h=>match x with|.bl true=>fb ρ h|.bl false=>.ok (.bl false) h|_=>.no
noncomputable abbrev RY(fa fb:FE):FE:=λρ h=>(fa ρ h).bind λx h=>match x with|.bl true=>.ok (.bl true) h|.bl false=>fb ρ h|_=>.no
noncomputable abbrev JO(fa fb fc:FE):FE:=λρ h=>(fa ρ h).bind λx h=>match x with|.bl true=>fb ρ h|.bl false=>fc ρ h|_=>.no
variable{rest:List aq}
theorem Zz(ha:ST X a fa):ST X (.UnaryOp .Not a pos) (Ct fa):=(Qj ha).imp λσ H Q z9=>z9.el λρ h m b h' f r e k=>by
 refine bJ e λx h1 e1 e2=>?_;cases x<;>try cases e2
 rename_i b;exact(.mk f r e1 λH' m' s' r'=>k H' m' s' r')
theorem ZC(ha:SE X a fa):SE X (.UnaryOp .Not a pos) (Ct fa):=(V5 ha).imp λσ H Q z9=>z9.el λρ h m b h' f r e k=>by
 refine bJ e λx h1 e1 e2=>?_;cases x<;>try cases e2
 rename_i b;exact(.mk f r e1 λv H' m' s' r' q=>by cases q;exact⟨b,rfl,k _ H' m' s' r' (.bl _)⟩)
theorem RZ{op:BoolOp}(ha:ST X a fa):SW X (.BoolOp op [a] pos) fa:=by cases op;exact V1 ha;exact Qi ha
theorem ZD(ha:ST X a fa)(hb:SW X (.BoolOp .And (b::rest) pos) fb):SW X (.BoolOp .And (a::b::rest) pos) (Cu fa fb):=(V2 ha hb).imp λσ H Q z9=>z9.el λρ h m b h' f r e k=>by
 refine bJ e λx h1 e1 e2=>?_;cases x<;>try cases e2
 rename_i c;refine(.mk f r e1 λH1 m1 s1 r1=>?_);cases c with|true=>rw[if_pos rfl];exact(.mk (f.stp s1) r1 e2 λH' m' s' r'=>k H' m' (s1.trans s') r')|false=>cases e2;simp only[gY,fM];exact k H1 m1 s1 r1
theorem Cv(ha:ST X a fa)(hb:SW X (.BoolOp .Or (b::rest) pos) fb):SW X (.BoolOp .Or (a::b::rest) pos) (RY fa fb):=(pw_or ha hb).imp λσ H Q z9=>z9.el λρ h m b h' f r e k=>by
 refine bJ e λx h1 e1 e2=>?_;cases x<;>try cases e2
 rename_i c;refine(.mk f r e1 λH1 m1 s1 r1=>?_);cases c with|true=>cases e2;rw[if_pos rfl];exact k H1 m1 s1 r1|false=>simp only[gY,fM];exact(.mk (f.stp s1) r1 e2 λH' m' s' r'=>k H' m' (s1.trans s') r')
theorem R0{op:BoolOp}(ha:SE X a fa):SE X (.BoolOp op [a] pos) fa:=V3 ha
theorem ZE(ha:SE X a fa)(hb:SE X (.BoolOp .And (b::rest) pos) fb):SE X (.BoolOp .And (a::b::rest) pos) (Cu fa fb):=(V4 ha hb).imp λσ H Q z9=>z9.el λρ h m w h' f r e k=>by
 refine bJ e λx h1 e1 e2=>?_;cases x<;>try cases e2
 rename_i c;refine(.mk f r e1 λv H1 m1 s1 r1 q1=>?_);cases q1;refine⟨c,rfl,?_⟩;cases c with|true=>rw[if_pos rfl];exact(.mk (f.stp s1) r1 e2 λv H' m' s' r' q'=>k v H' m' (s1.trans s') r' q')|false=>cases e2;simp only[gY,fM];exact k _ H1 m1 s1 r1 (.bl false)
theorem Cw(ha:SE X a fa)(hb:SE X (.BoolOp .Or (b::rest) pos) fb):SE X (.BoolOp .Or (a::b::rest) pos) (RY fa fb):=(Bb ha hb).imp λσ H Q z9=>z9.el λρ h m w h' f r e k=>by
 refine bJ e λx h1 e1 e2=>?_;cases x<;>try cases e2
 rename_i c;refine(.mk f r e1 λv H1 m1 s1 r1 q1=>?_);cases q1;refine⟨c,rfl,?_⟩;cases c with|true=>cases e2;rw[if_pos rfl];exact k _ H1 m1 s1 r1 (.bl true)|false=>simp only[gY,fM];exact(.mk (f.stp s1) r1 e2 λv H' m' s' r' q'=>k v H' m' (s1.trans s') r' q')
theorem ZF(hc:ST X c fc)(ha:SE X a fa)(hb:SE X b fb):SE X (.IfExp c a b pos) (JO fc fa fb):=(V7 hc ha hb).imp λσ H Q z9=>z9.el λρ h m w h' f r e k=>by
 refine bJ e λx h1 e1 e2=>?_;cases x<;>try cases e2
 rename_i c;refine(.mk f r e1 λH1 m1 s1 r1=>?_);cases c with|true=>rw[if_pos rfl];exact(.mk (f.stp s1) r1 e2 λv H' m' s' r' q'=>k v H' m' (s1.trans s') r' q')|false=>simp only[gY,fM];exact(.mk (f.stp s1) r1 e2 λv H' m' s' r' q'=>k v H' m' (s1.trans s') r' q')
theorem R1{K:aI}{m:Nat->ai}{n:Nat}{H:Hp}{vs:List V}{ws:List W}(q:aG K m n H vs ws):vs.isEmpty=ws.isEmpty:=by cases q<;>rfl
theorem ZG{K:aI}{m:Nat->ai}{h:VH}{H:Hp}{v:V}{w:W}{b:Bool}(r:Rel K m h H)(q:aJ K m h.n H v w)(e:oA h w=aC b):xC K v H b:=by
 cases q with
 |aL=>cases e;rfl
 |bl x=>cases e;rfl
 |int i=>cases e;rfl
 |str x=>cases e
 |fz _ _=>cases e
 |tup sq rs=>cases e;exact .inr (.inl ⟨_,sq,by rw[R1 rs]⟩)
 | @ref i hi=>
  simp only[oA]at e;cases g:h.get i with
  |none=>rw[g]at e;cases e
  |some o=>
   rw[g]at e;cases o with
   |dk _=>cases e
   |dm _=>cases e
   |lst ws=>
    cases e;obtain⟨vs,h1,h2⟩:=r.lst g;exact .inl ⟨vs,cJ.of h1,by rw[R1 h2]⟩
theorem JP(ha:SE X a fa)(he:∀whole,isTrue a X.env whole=(do let v <-whole;standAt a.pos;holding [v] (truthy v))) :
 ST X a (λρ h=>(fa ρ h).bind λx h=>.of ((oA h x).map .bl) h):=(WW ha he).imp λσ H Q z9=>z9.el λρ h m b h' f r e k=>by
 refine bJ e λx h1 e1 e2=>?_;obtain⟨e2,rfl⟩:=of_ok e2;cases z:oA h' x with
 |none=>rw[z]at e2;cases e2
 |some c=>
  rw[z]at e2;cases e2;exact(.mk f r e1 λv H' m' s' r' q=>⟨b,ZG r' q z,k H' m' s' r'⟩)
theorem ZH(ha:SE X a fa):SE X (.UnaryOp .USub a pos) (λρ h=>(fa ρ h).bind λx h=>match x with|.int i=>.ok (.int (-i)) h|_=>.no):=
 (Bo WI ha).imp λσ H Q q=>RP (g:=λx h=>match x with|.int i=>.ok (.int (-i)) h|_=>.no) (G:=rU λi=>.int (-i)) (λm h H v x w h' Q r q e k=>by
   cases q<;>try cases e
   rename_i i;exact⟨i,rfl,aN.here k r (.int _)⟩) q
end
section
variable{K:aI}{m m0:Nat->ai}{n n0:Nat}{h:VH}{H H0:Hp}
theorem Rel.adopt(r:Rel K m h H){p:ai}{o:VO}{u u0:HO}(hp:∀i,i<h.n->m i≠p)(hu:H p=aC u0)(ht:∀t,u0≠.tup t)(hf:∀o t,u0≠.bS o t)(s:bO m0 n0 H0 m h.n H)(h0:H0 p=aD)
 (ho:bO m h.n H (λi=>if i=h.n then p else m i) (h.n+1) (upd H p u)\/True->(∀{v:V}{w:W},aJ K m h.n H v w->aJ K (λi=>if i=h.n then p else m i) (h.n+1) (upd H p u) v w)->eZ K (λi=>if i=h.n then p else m i) (h.n+1) (upd H p u) p o) :
 bO m0 n0 H0 (λi=>if i=h.n then p else m i) (h.n+1) (upd H p u)/\Rel K (λi=>if i=h.n then p else m i) (h.new o) (upd H p u):=by
 have kt:∀b vs,H b=aC (.tup vs)->upd H p u b=aC (.tup vs):=λb vs q=>by rw[bX (dH q hu λz=>ht vs z.symm)];exact q
 have kf:∀b o t,H b=aC (.bS o t)->upd H p u b=aC (.bS o t):=λb o t q=>by rw[bX (dH q hu λz=>hf o t z.symm)];exact q
 have mv:∀{v:V}{w:W},aJ K m h.n H v w->aJ K (λi=>if i=h.n then p else m i) (h.n+1) (upd H p u) v w:=by
  intro v w q;have st:bO m h.n (λb=>if b=p then aD else H b) (λi=>if i=h.n then p else m i) (h.n+1) (upd H p u):=by
   refine⟨o8 _,λi hi=>by simp only[if_neg (fN hi)],λi hi hi2=>?_,λi j hi hi2 hj=>?_,λb vs q=>?_,λb o t q=>?_,λb o _ q=>?_⟩;have:i=h.n:=by lia
   subst this;simp only[dg];have:i=h.n:=by lia
   subst this;simp only[dg,if_neg (fN hj)];exact(hp j hj).symm;split at q;cases q;exact kt b vs q;split at q;cases q;exact kf b o t q;split at q;cases q;rename_i z;rw[bX z];exact q
  refine aJ.stp st ?_;have back:∀{a vs},dh K H a vs->dh K (λb=>if b=p then aD else H b) a vs:=by
   intro a vs q;rcases q with(q|⟨o,q⟩)|q
   exact .inl (.inl (by simp only[if_neg (dH q hu λz=>ht vs z.symm)];exact q));exact .inl (.inr ⟨o,by simp only[if_neg (dH q hu λz=>hf o _ z.symm)];exact q⟩);exact .inr q
  have Cy:∀{a vs},Fz K H a vs->Fz K (λb=>if b=p then aD else H b) a vs:=by
   intro a vs q;rcases q with⟨o,q⟩|q
   exact .inl ⟨o,by simp only[if_neg (dH q hu λz=>hf o _ z.symm)];exact q⟩;exact .inr q
  exact(aJ.rec (K:=K) (m:=m) (n:=h.n) (H:=H) (motive_1:=λv w _=>aJ K m h.n (λb=>if b=p then aD else H b) v w) (motive_2:=λvs ws _=>aG K m h.n (λb=>if b=p then aD else H b) vs ws)
   .aL .bl .int .str (λsq _ ih=>.tup (back sq) ih) (λsq _ ih=>.fz (Cy sq) ih) (λhi=>.ref hi) .nil (λ_ _ i1 i2=>.cons i1 i2) q)
 refine⟨⟨Fx s.le,λi hi=>?_,λi hi hi2=>?_,λi j hi hi2 hj=>?_,λb vs q=>kt b vs (s.tup b vs q),λb o t q=>kf b o t (s.bS b o t q),λb o nb q=>?_⟩,⟨λi hi=>?_,λi j hi hj z=>?_,?_⟩⟩;have:=s.le;simp only[if_neg (show i≠h.n by lia)];exact s.same i hi;by_cases e:i=h.n;subst e;simp only[dg];exact h0;simp only[if_neg e];exact s.new i hi (by lia);have:=s.le;simp only[if_neg (show j≠h.n by lia)];by_cases e:i=h.n;subst e;simp only[dg];exact(hp j (by lia)).symm;simp only[if_neg e];exact s.apart i j hi (by lia) hj;rw[bX (iV q h0)];exact s.keep b o nb q;have hi:i<h.n+1:=hi;by_cases e:i=h.n;subst e;exact⟨o,dG,by simp only[dg];exact ho (.inr trivial) mv⟩;have hl:i<h.n:=by lia
 obtain⟨o',h1,h2⟩:=r.obj i hl;refine⟨o',(iD hl).trans h1,?_⟩;simp only[if_neg e];have eq:upd H p u (m i)=H (m i):=bX (hp i hl);cases o' with
 |lst ws=>
  obtain⟨vs,q1,q2⟩:=h2;exact⟨vs,eq.trans q1,aG.rec (K:=K) (m:=m) (n:=h.n) (H:=H) (motive_1:=λv w _=>aJ K m h.n H v w) (motive_2:=λvs ws _=>aG K (λi=>if i=h.n then p else m i) (h.n+1) (upd H p u) vs ws)
   .aL .bl .int .str (λsq q _=>.tup sq q) (λsq q _=>.fz sq q) (λhi=>.ref hi) .nil (λq _ _ i2=>.cons (mv q) i2) q2⟩
 |dk ws=>
  obtain⟨vs,q1,q2⟩:=h2;have go:∀{vs:List (Key×V)}{ws:List (Key×W)},aM K m h.n H vs ws->aM K (λi=>if i=h.n then p else m i) (h.n+1) (upd H p u) vs ws:=by
   intro vs ws q2;induction q2 with|nil=>exact .nil|cons q _ ih=>exact .cons (mv q) ih
  exact⟨vs,q1.imp (λz=>eq.trans z) λ⟨o,z⟩=>⟨o,eq.trans z⟩,go q2⟩
 |dm ws=>
  obtain⟨vs,q1,q2⟩:=h2;have go:∀{vs:List (Key×V)}{ws:List (Key×W)},aM K m h.n H vs ws->aM K (λi=>if i=h.n then p else m i) (h.n+1) (upd H p u) vs ws:=by
   intro vs ws q2;induction q2 with|nil=>exact .nil|cons q _ ih=>exact .cons (mv q) ih
  exact⟨vs,eq.trans q1,go q2⟩
 have hi:i<h.n+1:=hi;have hj:j<h.n+1:=hj;by_cases e:i=h.n;by_cases e2:j=h.n;lia;simp only[if_pos e,if_neg e2]at z;exact absurd z.symm (hp j (by lia));by_cases e2:j=h.n;simp only[if_neg e,if_pos e2]at z;exact absurd z (hp i (by lia));simp only[if_neg e,if_neg e2]at z;exact r.inj i j (by lia) (by lia) z;show(o::h.os).length=h.n+1;rw[dj,r.len]
theorem aG.map{m':Nat->ai}{n':Nat}{H':Hp}(mv:∀{v:V} {w:W},aJ K m n H v w->aJ K m' n' H' v w):∀{vs:List V} {ws:List W},aG K m n H vs ws->aG K m' n' H' vs ws|_,_,.nil=>.nil|_,_,.cons q r=>.cons (mv q) (aG.map mv r)
theorem aM.map{m':Nat->ai}{n':Nat}{H':Hp}(mv:∀{v:V} {w:W},aJ K m n H v w->aJ K m' n' H' v w):∀{vs:List (Key×V)} {ws:List (Key×W)},aM K m n H vs ws->aM K m' n' H' vs ws|_,_,.nil=>.nil|_,_,.cons q r=>.cons (mv q) (aM.map mv r)
theorem aM.look(k:Key):∀{vs:List (Key×V)} {ws:List (Key×W)},aM K m n H vs ws->(fH vs k=aD/\aS ws k=aD)\/∃v w,fH vs k=aC v/\aS ws k=aC w/\aJ K m n H v w
 |_,_,.nil=>.inl ⟨rfl,rfl⟩
 |_,_,.cons (k:=k') (v:=v) (w:=w) q r=>by
  by_cases e:k'=k;refine .inr ⟨v,w,F5 (p:=(k',v)) e,?_,q⟩;unfold aS;rw[pP];simp[e];rcases aM.look k r with⟨a,b⟩|⟨v',w',a,b,c⟩
  refine .inl ⟨(BQ (p:=(k',v)) e).trans a,?_⟩;unfold aS at b ⊢;rw[pP];simp only[jt e];exact b;refine .inr ⟨v',w',(BQ (p:=(k',v)) e).trans a,?_,c⟩;unfold aS at b ⊢;rw[pP];simp only[jt e];exact b
theorem aM.any(k:Key):∀{vs:List (Key×V)} {ws:List (Key×W)},aM K m n H vs ws->(vs.any λkv=>decide (kv.1=k))=(ws.any λkv=>decide (kv.1=k))|_,_,.nil=>rfl|_,_,.cons q r=>by rw[vec,vec,aM.any k r]
theorem aM.repl{v:V}{w:W}(q:aJ K m n H v w)(k:Key):∀{vs:List (Key×V)} {ws:List (Key×W)},aM K m n H vs ws->aM K m n H (vs.map λkv=>if kv.1=k then(kv.1,v)else kv) (ws.map λkv=>if kv.1=k then(kv.1,w)else kv)
 |_,_,.nil=>.nil
 |_,_,.cons (k:=k') p r=>by
  rw[fD,fD];by_cases e:k'=k;simp only[if_pos e];exact .cons q (aM.repl q k r);simp only[if_neg e];exact .cons p (aM.repl q k r)
theorem aM.snoc{v:V}{w:W}(q:aJ K m n H v w)(k:Key):∀{vs:List (Key×V)} {ws:List (Key×W)},aM K m n H vs ws->aM K m n H (vs++[(k,v)]) (ws++[(k,w)])|_,_,.nil=>.cons q .nil|_,_,.cons p r=>.cons p (aM.snoc q k r)
theorem aM.put{v:V}{w:W}(q:aJ K m n H v w)(k:Key){vs:List (Key×V)}{ws:List (Key×W)}(r:aM K m n H vs ws):aM K m n H (putK vs k v) (bx ws k w):=by unfold putK bx;rw[r.any k];split;exact r.repl q k;exact r.snoc q k
theorem aM.merge{vs:List (Key×V)}{ws:List (Key×W)}(q:aM K m n H vs ws):∀{va:List (Key×V)} {wa:List (Key×W)},aM K m n H va wa->aM K m n H (rV va vs) (Gk wa ws):=by
 induction q with|nil=>exact λa=>a|cons q r ih=>exact λa=>ih (a.put q _)
theorem aM.length:∀{vs:List (Key×V)} {ws:List (Key×W)},aM K m n H vs ws->vs.length=ws.length|_,_,.nil=>rfl|_,_,.cons _ r=>by rw[dj,dj,aM.length r]
theorem zW{v:V}{w:W}{k:Key}(q:aJ K m n H v w)(e:l8 w=aC k):v=kV k:=by cases q<;>cases e<;>rfl
theorem JQ{vs:List V}{ws:List W}{i:Int}{w:W}(q:aG K m n H vs ws)(e:eW ws i=aC w):∃v,eW vs i=aC v/\aJ K m n H v w:=by
 unfold eW at e ⊢;rw[q.length];cases z:ju ws.length i with
 |none=>rw[z]at e;cases e
 |some j=>
  rw[z]at e;exact q.get e
end
noncomputable def yd(K:aI):R2:=λx y H Q=>BC K x y H Q\/BD K x y H Q\/(∃a v,x=.ref a/\oh H a y (aC v)/\Q v H)
section
variable{X:Cx}{a b c e o:aq}{es:List aq}{fa fb fc fo:FE}{pos:Pos}
theorem ZJ(hu:X.A.units+1<cLine):tF X (λx y H Q=>∃a v,x=.ref a/\oh H a y (aC v)/\Q v H):=by intro value slice pins s σ H x y v u Q I rx ry q hs;obtain⟨a,v',rfl,g,q⟩:=q;obtain rfl:v=Value.ref a:=rx;exact tail_any (Yc I g) PySem.F.slot_dict_getitem.lookup (X8 hu I g ry λw' s3 I3 rw'=>⟨v',H,I3,rw',q⟩) hs
theorem Cz(hu:X.A.units+2<cLine):tF X (yd X.K):=QN.or (Xh.or (ZJ (by lia)))
theorem ZK{K:aI}:Cn K (yd K) (λx y h=>.of (cD h x y) h):=by
 intro m h H v u x y w h' Q r qv qu e0 k;obtain⟨e,e1⟩:=of_ok e0;clear e0;subst e1;unfold cD at e;split at e;cases qv with
 |tup sq rs=>
  cases qu;obtain⟨v',h1,h2⟩:=JQ rs e;exact .inr (.inl ⟨_,_,_,v',rfl,rfl,sq,h1,aN.here k r h2⟩)
 cases qv with
 |fz sq rs=>
  cases qu;obtain⟨v',h1,h2⟩:=JQ rs e;exact .inl ⟨_,_,_,v',rfl,rfl,sq.sq,h1,aN.here k r h2⟩
 rename_i i j;cases qv;cases qu;cases g:h'.get i with
 |none=>rw[g]at e;cases e
 |some ob=>
  rw[g]at e;cases ob with
  |lst ws=>
   obtain⟨vs,p1,p2⟩:=r.lst g;obtain⟨v',h1,h2⟩:=JQ p2 e;exact .inl ⟨_,_,_,v',rfl,rfl,cJ.of p1,h1,aN.here k r h2⟩
  |dk ws=>
   have e:aS ws (.inl j)=aC w:=e;obtain⟨vs,p1,p2⟩:=r.dk g;rcases p2.look (.inl j)with⟨_,z⟩|⟨v',w',z1,z2,z3⟩
   rw[z]at e;cases e;rw[z2]at e;cases e;exact .inr (.inr ⟨_,v',rfl,by rw[<-z1];exact .inl ⟨vs,.inl j,p1,rfl,rfl⟩,aN.here k r z3⟩)
  |dm ws=>
   have e:aS ws (.inl j)=aC w:=e;obtain⟨vs,p1,p2⟩:=r.dm g;rcases p2.look (.inl j)with⟨_,z⟩|⟨v',w',z1,z2,z3⟩
   rw[z]at e;cases e;rw[z2]at e;cases e;exact .inr (.inr ⟨_,v',rfl,by rw[<-z1];exact .inl ⟨vs,.inl j,.inl p1,rfl,rfl⟩,aN.here k r z3⟩)
 rename_i i j;cases qv;cases qu;cases g:h'.get i with
 |none=>rw[g]at e;cases e
 |some ob=>
  rw[g]at e;cases ob with
  |lst ws=>cases e
  |dk ws=>
   have e:aS ws (.inr j)=aC w:=e;obtain⟨vs,p1,p2⟩:=r.dk g;rcases p2.look (.inr j)with⟨_,z⟩|⟨v',w',z1,z2,z3⟩
   rw[z]at e;cases e;rw[z2]at e;cases e;exact .inr (.inr ⟨_,v',rfl,by rw[<-z1];exact .inl ⟨vs,.inr j,p1,rfl,rfl⟩,aN.here k r z3⟩)
  |dm _=>cases e
 cases e
theorem ZL(hu:X.A.units+2<cLine)(ha:SE X a fa)(hb:SE X b fb)(hs:FZ b):SE X (.Subscript a b pos) (λρ h=>(fa ρ h).bind λx h=>(fb ρ h).bind λy h=>.of (cD h x y) h):=
 (u6 (Cz hu) ha hb hs).imp λσ H Q q=>Gn (G:=yd X.K) ZK q
noncomputable def jw(K:aI)(b:Bool)(f:FE):TO:=λσ H Q=>∃ρ h m w o h',Fr K m h.n H σ ρ/\Rel K m h H/\f ρ h=.ok w h'/\eY b w=aC o/\∀H' m',bO m h.n H m' h'.n H'->Rel K m' h' H'->Q o H'
theorem jw.el{K:aI}{σ:L2.St}{H:Hp}{P:Prop}{b:Bool}{fa:FE}{Q:Option Int->Hp->Prop}(q:jw K b fa σ H Q)(k:∀ρ h m w o h',Fr K m h.n H σ ρ->Rel K m h H->fa ρ h=.ok w h'->eY b w=aC o->(∀H' m',bO m h.n H m' h'.n H'->Rel K m' h' H'->Q o H')->P):P:=by obtain⟨ρ,h,m,w,o,h',f,r,e,ep,k'⟩:=q;exact k ρ h m w o h' f r e ep k'
theorem jw.mk{K:aI}{σ:L2.St}{H:Hp}{m:Nat->ai}{ρ:En}{h h':VH}{w:W}{o:Option Int}{b:Bool}{fa:FE}{Q:Option Int->Hp->Prop}(f:Fr K m h.n H σ ρ)(r:Rel K m h H)(e:fa ρ h=.ok w h')(ep:eY b w=aC o)(k:∀H' m',bO m h.n H m' h'.n H'->Rel K m' h' H'->Q o H'):jw K b fa σ H Q:=⟨ρ,h,m,w,o,h',f,r,e,ep,k⟩
theorem ZM{w:W}:PO X aD (jw X.K false (λ_ h=>.ok w h)):=λpins s σ H Q I z9=>z9.el λρ h m w o h' f r e ep k=>by
 cases e;have:o=aD:=by unfold eY at ep;cases ep;rfl
 subst this;exact Xb pins s σ H Q I (k H m .refl r)
theorem R3(ha:SE X e fa):PO X (aC e) (jw X.K true fa):=λpins s σ H Q I z9=>z9.el λρ h m w o h' f r e ep k=>by
 refine Xc ha pins s σ H Q I (.mk f r e λv H' m' s' r' q=>?_);cases q<;>cases ep;exact⟨_,rfl,k H' m' s' r'⟩
theorem R4{K:aI}{m:Nat->ai}{n:Nat}{H:Hp}{vs:List V}{ws:List W}(q:aG K m n H vs ws)(lo hi:Option Int):aG K m n H (kH vs lo hi) (dP ws lo hi):=by unfold kH dP;rw[q.length];exact(q.drop _).take _
theorem ZN{ws:List W}{lo hi:Option Int}(h:HT.bT ws.length 0 lo=0/\HT.bT ws.length ws.length hi=ws.length):dP ws lo hi=ws:=by unfold dP;rw[h.1,h.2];simp
theorem ZO{lo hi:Option aq}{fl fh:FE}{p2:Pos}{bl bh:Bool}(ha:SE X a fa)(hl:PO X lo (jw X.K bl fl))(hh:PO X hi (jw X.K bh fh)) :
 SE X (.Subscript a (.Slice lo hi aD p2) pos) (λρ h=>(fa ρ h).bind λx h=>(fl ρ h).bind λl h=>(fh ρ h).bind λu h=>match eY bl l,eY bh u with|some l,aC u=>kO x l u h|_,_=>.no):=
 (Xe YM ha hl hh).imp λσ H Q z9=>z9.el λρ h m w h' f r e k=>by
   refine bJ e λx h1 e1 e2=>?_;refine bJ e2 λl h2 e3 e4=>?_;refine bJ e4 λu h3 e5 e6=>?_;split at e6;rename_i l' u' pl pu;refine(.mk f r e1 λv H1 m1 s1 r1 q1=>(.mk (f.stp s1) r1 e3 pl λH2 m2 s2 r2=>(.mk ((f.stp s1).stp s2) r2 e5 pu λH3 m3 s3 r3=>?_)));have q3:=(q1.stp s2).stp s3;have kk:aN X.K m3 h3.n H3 w h' Q:=λv' H' m' s' r' q'=>k v' H' m' (((s1.trans s2).trans s3).trans s') r' q';unfold kO at e6;split at e6;rename_i ws;cases e6;cases q3 with
   | @tup a vs _ sq rs=>
    by_cases hw:HT.bT vs.length 0 l'=0/\HT.bT vs.length vs.length u'=vs.length;refine .inl (.inr ⟨_,_,rfl,sq,hw,?_⟩);have R5:=hw;rw[rs.length]at R5;rw[ZN R5]at kk;exact aN.here kk r3 (.tup sq rs);exact .inl (.inl ⟨_,_,rfl,sq,hw,λp hp=>aN.tuple kk r3 (R4 rs l' u') hp⟩)
   rename_i i;cases q3;cases g:h3.get i with
   |none=>rw[g]at e6;cases e6
   |some ob=>
    rw[g]at e6;cases ob with
    |lst ws=>
     cases e6;obtain⟨vs,p1,p2⟩:=r3.lst g;exact .inr ⟨_,_,rfl,cJ.of p1,λp hp=>aN.list kk r3 (R4 p2 l' u') hp⟩
    |dk ws=>cases e6
    |dm _=>cases e6
   cases e6;cases e6
end
noncomputable def fK:aq->Bool|.Starred ..=>false|_=>true
theorem dX{e:aq}{es:List aq}{env:Env}(h:fK e):starEach (e::es) env=(false,eval e env)::starEach es env:=by cases e<;>first|rfl|cases h
theorem zX{pos:Pos}{env:Env}:∀{es:List aq},es.all fK=true->(backTo pos (starEach es env)).any (·.1)=false
 |[],_=>rfl
 |e::es,h=>by
  rw[pQ,bw]at h;rw[dX h.1];show(false|| (backTo pos (starEach es env)).any (·.1))=false;rw[zX h.2];rfl
noncomputable abbrev mw:FE:=λ_ h=>.ok (.tup []) h
noncomputable abbrev jc(fa fb:FE):FE:=λρ h=>(fa ρ h).bind λx h=>(fb ρ h).bind λy h=>match y with|.tup ys=>.ok (.tup (x::ys)) h|_=>.no
section
variable{X:Cx}{a b c e o:aq}{es:List aq}{fa fb fc fo:FE}{pos p:Pos}{x:Str}
noncomputable abbrev jX(fa:FE)(g:List W->VH->Res W):FE:=λρ h=>(fa ρ h).bind λy h=>match y with|.tup ys=>g ys h|_=>.no
noncomputable def gB(K:aI)(r:List V->Hp->VK->Prop)(g:List W->VH->Res W):Prop:=∀(m:Nat->ai) (h:VH) (H:Hp) (vs:List V) (xs:List W) (w:W) (h':VH) (Q:VK),Rel K m h H->aG K m h.n H vs xs->g xs h=.ok w h'->aN K m h.n H w h' Q->r vs H Q
theorem Gv{id:String}{r:List V->Hp->VK->Prop}{g:List W->VH->Res W}(hc:cA X (.builtin id) r)(hv:gB X.K r g)(hg:Gl X x)(hm:X.mg x=aD)(hb:bootBuiltins x=aC (.builtin id))(ha:SA X (e::es) fa)(hs:(e::es).all fK=true)
 (hn:x≠"__name__") (hdb:(x==("__debug__" : Str))=false):SE X (.Call (.Name x p) (e::es) [] pos) (jX fa g):=by
 rw[pQ,bw]at hs;exact(IT hc hg hm hb ha hn hdb (dX hs.1) (zX hs.2)).imp λσ H Q q=>zS hv q
theorem JR{T:String}{r:List V->Hp->VK->Prop}{g:List W->VH->Res W}(hc:cA X (.type T) r)(hv:gB X.K r g)(hg:Gl X x)(hm:X.mg x=aD)(hb:bootBuiltins x=aC (.type T))(ha:SA X (e::es) fa)(hs:(e::es).all fK=true)
 (hn:x≠"__name__") (hdb:(x==("__debug__" : Str))=false):SE X (.Call (.Name x p) (e::es) [] pos) (jX fa g):=by
 rw[pQ,bw]at hs;exact(W5 hc hg hm hb ha hn hdb (dX hs.1) (zX hs.2)).imp λσ H Q q=>zS hv q
theorem fO{K:aI}{m:Nat->ai}{n:Nat}{H:Hp}{vs:List V}{w:W}(q:aG K m n H vs [w]):∃v,vs=[v]/\aJ K m n H v w:=by cases q with|cons q r=>cases r;exact⟨_,rfl,q⟩
theorem ZP{K:aI}:gB K (λxs H Q=>∃p ys,xs=[.ref p]/\(cJ K H p ys\/dh K H p ys)/\Q (.int ys.length) H) jv:=by
 intro m h H vs xs w h' Q r q e k;unfold jv at e;split at e<;>try cases e
 rename_i x;obtain⟨v,rfl,q1⟩:=fO q;obtain⟨e,rfl⟩:=of_ok e;cases z:aV h' x with
 |none=>
  rw[z]at e;cases e
 |some ws=>
  rw[z]at e;cases e;obtain⟨p,us,rfl,h1,h2⟩:=Cs r q1 z;exact⟨p,us,rfl,h1,by rw[h2.length];exact aN.here k r (.int _)⟩
theorem ZQ{K:aI}:gB K (λxs H Q=>∃p ys,xs=[.ref p]/\(cJ K H p ys\/dh K H p ys)/\∀l,H l=aD->Q (.ref l) (upd H l (.lst ys))) kP:=by
 intro m h H vs xs w h' Q r q e k;unfold kP at e;split at e<;>try cases e
 rename_i x;obtain⟨v,rfl,q1⟩:=fO q;cases z:aV h x with
 |none=>rw[z]at e;cases e
 |some ws=>
  rw[z]at e;cases e;obtain⟨p,us,rfl,h1,h2⟩:=Cs r q1 z;exact⟨p,us,rfl,h1,λl hl=>aN.list k r h2 hl⟩
theorem ZR{K:aI}:gB K (λxs H Q=>∃p ys,xs=[.ref p]/\((cJ K H p ys/\∀l,H l=aD->Q (.ref l) (upd H l (.tup ys)))\/(dh K H p ys/\Q (.ref p) H))) xX:=by
 intro m h H vs xs w h' Q r q e k;unfold xX at e;split at e<;>try cases e
 rename_i x;obtain⟨v,rfl,q1⟩:=fO q;obtain⟨e,rfl⟩:=of_ok e;cases z:aV h' x with
 |none=>
  rw[z]at e;cases e
 |some ws=>
  rw[z]at e;cases e;obtain⟨p,us,rfl,h1,h2⟩:=Cs r q1 z;rcases h1 with h1|h1
  exact⟨p,us,rfl,.inl ⟨h1,λl hl=>aN.tuple k r h2 hl⟩⟩;exact⟨p,us,rfl,.inr ⟨h1,aN.here k r (.tup h1 h2)⟩⟩
theorem ZT{K:aI}:gB K (λxs H Q=>(∃i,xs=[.int i]/\Q (.int i) H)\/∃k,xs=[.bl k]/\Q (.int (if k then 1 else 0)) H) qp:=by
 intro m h H vs xs w h' Q r q e k;unfold qp at e;split at e<;>try cases e
 obtain⟨v,rfl,q1⟩:=fO q;cases q1;exact .inl ⟨_,rfl,aN.here k r (.int _)⟩;obtain⟨v,rfl,q1⟩:=fO q;cases q1;exact .inr ⟨_,rfl,aN.here k r (.int _)⟩
theorem ZU{K:aI}:gB K (λxs H Q=>∃i,xs=[.int i]/\Q (.int (if i<0 then -i else i)) H) l9:=by
 intro m h H vs xs w h' Q r q e k;unfold l9 at e;split at e<;>try cases e
 obtain⟨v,rfl,q1⟩:=fO q;cases q1;exact⟨_,rfl,aN.here k r (.int _)⟩
theorem nc{K:aI}{m:Nat->ai}{n:Nat}{H:Hp}{vs:List V}{w z:W}(q:aG K m n H vs [w,z]):∃v u,vs=[v,u]/\aJ K m n H v w/\aJ K m n H u z:=by cases q with|cons q r=>obtain⟨u,rfl,h⟩:=fO r;exact⟨_,_,rfl,q,h⟩
theorem R6{K:aI}{m:Nat->ai}{n:Nat}{H:Hp}:∀{vs:List V} {ws:List W} {is:List Int},aG K m n H vs ws->bH iZ ws=aC is->vs=is.map .int
 |_,_,_,.nil,e=>by cases e;rfl
 |_,_,_,.cons (w:=w) (ws:=ws) q r,e=>by
  unfold bH at e;cases z:iZ w with
  |none=>rw[z]at e;cases e
  |some b=>
   rw[z]at e;cases z2:bH iZ ws with
   |none=>rw[z2]at e;cases e
   |some cs=>
    rw[z2]at e;cases e;unfold iZ at z;split at z<;>cases z;cases q;rw[R6 r z2];rfl
theorem R7:∀(r:List Int) (x:Int),x<=dQ x r/\∀y∈r,y<=dQ x r
 |[],x=>⟨Int.le_refl _,λ_ h=>nomatch h⟩
 |y::r,x=>by
  have h:=R7 r (if y>x then y else x);by_cases q:y>x;rw[if_pos q]at h;have e:dQ x (y::r)=dQ y r:=by show dQ (if y>x then y else x) r=_;rw[if_pos q]
  rw[e];refine⟨by have:=h.1;lia,λz hz=>?_⟩;rcases eO.mp hz with rfl|hz
  exact h.1;exact h.2 z hz;rw[if_neg q]at h;have e:dQ x (y::r)=dQ x r:=by show dQ (if y>x then y else x) r=_;rw[if_neg q]
  rw[e];refine⟨h.1,λz hz=>?_⟩;rcases eO.mp hz with rfl|hz
  have:=h.1;lia;exact h.2 z hz
theorem R8:∀(r:List Int) (x:Int),dQ x r∈x::r
 |[],x=>gj
 |y::r,x=>by
  have h:=R8 r (if y>x then y else x);by_cases q:y>x;rw[if_pos q]at h;have e:dQ x (y::r)=dQ y r:=by show dQ (if y>x then y else x) r=_;rw[if_pos q]
  rw[e];exact fS _ h;rw[if_neg q]at h;have e:dQ x (y::r)=dQ x r:=by show dQ (if y>x then y else x) r=_;rw[if_neg q]
  rw[e];rcases eO.mp h with h|h
  rw[h];exact gj;exact fS _ (fS _ h)
theorem ZV{K:aI}:gB K (λxs H Q=>(∃i j,xs=[.int i,.int j]/\Q (.int (if j>i then j else i)) H)\/∃(p:ai) (ns:List Int),xs=[.ref p]/\cJ K H p (ns.map .int)/\0<ns.length/\∀M,M∈ns->(∀a∈ns,a<=M)->Q (.int M) H) oB:=by
 intro m h H vs xs w h' Q r q e k;unfold oB at e;split at e<;>try cases e
 obtain⟨v,u,rfl,q1,q2⟩:=nc q;cases q1;cases q2;exact .inl ⟨_,_,rfl,aN.here k r (.int _)⟩;rename_i i;split at e<;>try cases e
 rename_i ws g;split at e<;>try cases e
 rename_i x rs z;obtain⟨v,rfl,q1⟩:=fO q;cases q1;obtain⟨us,p1,p2⟩:=r.lst g;refine .inr ⟨_,x::rs,rfl,?_,Nat.succ_pos _,λM h1 h2=>?_⟩;rw[<-R6 p2 z];exact .inl (.inl p1);have l1:=R7 rs x;have hM:M=dQ x rs:=by
  have a1:M<=dQ x rs:=by rcases eO.mp h1 with rfl|h1;exact l1.1;exact l1.2 M h1
  have a2:=h2 _ (R8 rs x);lia
 rw[hM];exact aN.here k r (.int _)
theorem R9{K:aI}{m:Nat->ai}{n:Nat}{H:Hp}:∀{vs:List V} {ws:List W} {bs:List Bool},aG K m n H vs ws->bH rY ws=aC bs->vs=bs.map .bl
 |_,_,bs,.nil,e=>by cases e;rfl
 |_,_,bs,.cons (w:=w) (ws:=ws) q r,e=>by
  unfold bH at e;cases z:rY w with
  |none=>rw[z]at e;cases e
  |some b=>
   rw[z]at e;cases z2:bH rY ws with
   |none=>rw[z2]at e;cases e
   |some cs=>
    rw[z2]at e;cases e;unfold rY at z;split at z<;>cases z;cases q;rw[R9 r z2];rfl
theorem ZW{K:aI}:gB K (λxs H Q=>∃(p:ai) (bs:List Bool),xs=[.ref p]/\cJ K H p (bs.map .bl)/\Q (.bl (bs.all id)) H) kQ:=by
 intro m h H vs xs w h' Q r q e k;unfold kQ at e;split at e<;>try cases e
 rename_i i;split at e<;>try cases e
 rename_i ws g;obtain⟨v,rfl,q1⟩:=fO q;obtain⟨e,rfl⟩:=of_ok e;cases z:bH rY ws with
 |none=>rw[z]at e;cases e
 |some bs=>
  rw[z]at e;cases e;cases q1;obtain⟨us,p1,p2⟩:=r.lst g;refine⟨_,bs,rfl,?_,aN.here k r (.bl _)⟩;rw[<-R9 p2 z];exact .inl (.inl p1)
noncomputable def tR:Ty->String|.int=>"int" |.bool=>"bool" |.tuple=>"tuple" |.list=>"list" |.str=>"str" |.dict=>"dict"
noncomputable def CA(K:aI)(n:String):List V->Hp->VK->Prop:=λxs H Q=>∃x b,xs=[x,.ty n]/\((∃t,gw K H x t/\PySem.W.kitOne K t (.type n)=aC b)\/(∃a vs,x=.ref a/\dh K H a vs/\PySem.W.kitOne K (.type "tuple") (.type n)=aC b)\/∃a kvs,x=.ref a/\Rd H a (.dK kvs)/\PySem.W.kitOne K (.type "dict") (.type n)=aC b)/\Q (.bl b) H
theorem ZX(n:String):cA X (.builtin "isinstance") (CA X.K n):=by
 intro pins s σ H xs us Q I r h;obtain⟨x,b,rfl,hi,q⟩:=h;obtain⟨u,u2,rfl,rx,rc⟩:=vals2 r;obtain rfl:u2=Value.type n:=rc;rcases hi with⟨t,ty,e⟩|⟨a,vs,rfl,sq,e⟩|⟨a,kvs,rfl,rd,e⟩
 exact W2 I rx ty e λtk=>⟨.bl b,H,I.tok _,rfl,q⟩
 obtain rfl:u=Value.ref a:=rx;obtain⟨its,_,p,_⟩:=I.tuple sq;obtain⟨o,h1,h2,_⟩:=p;exact mR PySem.W.kitx_tuple I.gT ⟨o,h1,h2⟩ e (λz=>nomatch z) λtk=>⟨.bl b,H,I.tok _,rfl,q⟩
 obtain rfl:u=Value.ref a:=rx;obtain⟨_,_,_,_,o,_,_,h1,h2,_⟩:=jJ I.hok rd;exact mR PySem.W.kitx_dict I.gT ⟨o,h1,h2.1⟩ e (λz=>nomatch z) λtk=>⟨.bl b,H,I.tok _,rfl,q⟩
theorem ZY{K:aI}(t:Ty){m:Nat->ai}{h:VH}{H:Hp}{v:V}{x:W}{b:Bool}(r:Rel K m h H)(q:aJ K m h.n H v x)(e:cK t h x=aC b) :
 (∃t',gw K H v t'/\PySem.W.kitOne K t' (.type (tR t))=aC b)\/(∃a vs,v=.ref a/\dh K H a vs/\PySem.W.kitOne K (.type "tuple") (.type (tR t))=aC b)\/∃a kvs,v=.ref a/\Rd H a (.dK kvs)/\PySem.W.kitOne K (.type "dict") (.type (tR t))=aC b:=by
 cases q with
 |aL=>cases e;refine .inl ⟨_,.aL,?_⟩;cases t<;>rfl
 |bl x=>cases e;refine .inl ⟨_,.bl x,?_⟩;cases t<;>rfl
 |int x=>cases e;refine .inl ⟨_,.int x,?_⟩;cases t<;>rfl
 |str x=>cases e;refine .inl ⟨_,.str x,?_⟩;cases t<;>rfl
 |tup sq rs=>cases e;refine .inr (.inl ⟨_,_,rfl,sq,?_⟩);cases t<;>rfl
 |fz _ _=>cases e
 | @ref i hi=>
  simp only[cK]at e;cases g:h.get i with
  |none=>rw[g]at e;cases e
  |some o=>
   rw[g]at e;cases o with
   |lst ws=>
    cases e;obtain⟨vs,h1,h2⟩:=r.lst g;refine .inl ⟨_,.lst h1,?_⟩;cases t<;>rfl
   |dk ws=>
    cases e;obtain⟨vs,h1,h2⟩:=r.dk g;refine .inr (.inr ⟨_,_,rfl,h1,?_⟩);cases t<;>rfl
   |dm ws=>
    cases e;obtain⟨vs,h1,h2⟩:=r.dm g;refine .inr (.inr ⟨_,_,rfl,.of h1,?_⟩);cases t<;>rfl
theorem ZZ(t:Ty){T:Str}{p2:Pos}(ha:SE X e fa)(hs:fK e)(hg:Gl X "isinstance")(hm:X.mg "isinstance" = aD)(Z0:Gl X T)(Z1:X.mg T=aD)(Z2:bootBuiltins T=aC (.type (tR t)))(hn:T≠"__name__")(hd:(T==("__debug__" : Str))=false) :
 SE X (.Call (.Name "isinstance" p) [e,.Name T p2] [] pos) (λρ h=>(fa ρ h).bind λx h=>.of ((cK t h x).map .bl) h):=by
 have hT:PE X (.Name T p2) (tC (.ty (tR t))):=Qh Z0 Z1 Z2 rfl hn hd;refine(IT (ZX (tR t)) hg hm PyProof.Rows.boot_isinstance (nY ha (nY hT pZ) (dX hs)) (by decide) (by decide) (dX hs) rfl).imp λσ H Q q=>?_;refine RP (g:=λx h=>.of ((cK t h x).map .bl) h) (G:=λv H1 Q=>CA X.K (tR t) [v,.ty (tR t)] H1 Q) (λm h H v x w h' Q r q e k=>?_) q;obtain⟨e,rfl⟩:=of_ok e;cases z:cK t h' x with
 |none=>rw[z]at e;cases e
 |some b=>
  rw[z]at e;cases e;exact⟨v,b,rfl,ZY t r q z,aN.here k r (.bl b)⟩
noncomputable def CB:aq->Bool|.Name .. |.Subscript ..=>true|_=>false
theorem JS{o:aq}{m:Str}{env:Env}(h:CB o):attributeBase o m env (eval o env)=eval o env:=by cases o<;>first|rfl|cases h
noncomputable abbrev JT(m:Mt)(fo fa:FE):FE:=λρ h=>(fo ρ h).bind λx h=>if mh m h x then(fa ρ h).bind λy h=>match y with|.tup ys=>lG m x ys h|_=>.no else .no
theorem Z3{apos:Pos}(ho:SE X o fo)(he:SE X e fa)(hb:CB o)(hs:fK e)(hl:(apos.endLine==pos.line)) :
 SE X (.Call (.Attribute o "append" apos) [e] [] pos) (JT .append fo (jc fa mw)):=by
 refine(mX (X:=X) PySem.F.plainAttrs_list PySem.F.slot_list_append PySem.F.type_list_append QU ho (nY he pZ (dX hs)) (JS hb) ?_ hl (dX hs) rfl).imp λσ H Q z9=>z9.el λρ h m w h' f r e k=>?_;rw[dX hs];rfl;refine bJ e λx h1 e1 e2=>?_;split at e2;rename_i hk;refine bJ e2 λy h2 e3 e4=>?_;refine bJ e3 λz h3 e5 e6=>?_;cases e6;refine(.mk f r e1 λv H1 m1 s1 r1 q1=>?_);cases x<;>try cases hk
 rename_i i;simp only[mh]at hk;cases g:h1.get i with
 |none=>rw[g]at hk;cases hk
 |some ob=>
  rw[g]at hk;cases ob with
  |dk _=>cases hk
  |dm _=>cases hk
  |lst oH=>
   cases q1;obtain⟨tH,p1,_⟩:=r1.lst g;refine⟨.inl ⟨rfl,tH,cJ.of p1⟩,ρ,h1,m1,z,h2,f.stp s1,r1,e5,λv2 H2 m2 s2 r2 q2=>?_⟩;simp only[lG]at e4;cases g2:h2.get i with
   |none=>rw[g2]at e4;cases e4
   |some ob=>
    rw[g2]at e4;cases ob with
    |dk _=>cases e4
    |dm _=>cases e4
    |lst ws=>
     simp only at e4;split at e4;rename_i hz;cases e4;obtain⟨vs,p2,p3⟩:=r2.lst g2;have hmi:m1 i=m2 i:=(s2.same i (bV g)).symm;refine⟨m1 i,vs,v2,rfl,rfl,by rw[hmi];exact p2,by rw[p3.length];exact gA.mp hz,?_⟩;obtain⟨st,r'⟩:=r2.write (i:=i) (o:=.lst (ws++[z])) (u:=.lst (vs++[v2])) (bV g2) p2 (λ_ z=>nomatch z) (λ_ _ z=>nomatch z) λst=>⟨vs++[v2],gn,(p3.stp st).append (.cons (q2.stp st) .nil)⟩
     rw[hmi];exact k .aL _ m2 ((s1.trans s2).trans st) r' .aL;cases e4
 cases e2
theorem Z4{apos:Pos}(hu:X.A.units+1<cLine)(ho:SE X o fo)(ha:SE X a fa)(IY:SE X b fb)(hb:CB o)(hs:fK a)(hs2:fK b)(hl:(apos.endLine==pos.line)) :
 SE X (.Call (.Attribute o "get" apos) [a,b] [] pos) (JT .get fo (jc fa (jc fb mw))):=by
 have tr:backTo pos (starEach [a,b] X.env)=[(false,eval a X.env),(false,eval b X.env)]:=by rw[dX hs,dX hs2];rfl
 refine(Ym hu ho ha IY ⟨JS hb,by rw[tr];rfl,hl,tr⟩).imp λσ H Q z9=>z9.el λρ h m w h' f r e k=>?_;refine bJ e λx h1 e1 e2=>?_;split at e2;rename_i hk;refine bJ e2 λy h2 e3 e4=>?_;refine bJ e3 λz h3 e5 e6=>?_;refine bJ e6 λy2 h4 e7 e8=>?_;refine bJ e7 λz2 h5 e9 JU=>?_;cases JU;cases e8;refine(.mk f r e1 λv H1 m1 s1 r1 q1=>?_);cases x<;>try cases hk
 rename_i i;simp only[mh]at hk;cases g:h1.get i with
 |none=>rw[g]at hk;cases hk
 |some ob=>
  rw[g]at hk;cases ob with
  |lst _=>cases hk
  |dk oH=>
   cases q1;obtain⟨tH,p1,_⟩:=r1.dk g;refine⟨m1 i,rfl,.inl ⟨tH,p1⟩,ρ,h1,m1,z,h3,f.stp s1,r1,e5,λv2 H2 m2 s2 r2 q2=>(.mk ((f.stp s1).stp s2) r2 e9 λv3 H3 m3 s3 r3 q3=>?_)⟩;simp only[lG]at e4;split at e4;rename_i kvs kk g2 hkk;cases e4;obtain⟨vs,p2,p3⟩:=r3.dk g2;have hmi:m1 i=m3 i:=((s3.same i (dF (bV g) s2.le)).trans (s2.same i (bV g))).symm;have hv:=zW (q2.stp s3) hkk;subst hv;refine⟨fH vs kk,by rw[hmi];exact .inl ⟨vs,kk,p2,rfl,rfl⟩,?_⟩;have qt:=(s1.trans s2).trans s3;rcases p3.look kk with⟨z1,z2⟩|⟨v',w',z1,z2,z3⟩
   rw[z1];rw[z2]at k;exact k _ H3 m3 qt r3 q3;rw[z1];rw[z2]at k;exact k _ H3 m3 qt r3 z3;rename_i kvs kk g2 hkk;cases e4;obtain⟨vs,p2,p3⟩:=r3.dm g2;have hmi:m1 i=m3 i:=((s3.same i (dF (bV g) s2.le)).trans (s2.same i (bV g))).symm;have hv:=zW (q2.stp s3) hkk;subst hv;refine⟨fH vs kk,by rw[hmi];exact .inl ⟨vs,kk,.inl p2,rfl,rfl⟩,?_⟩;have qt:=(s1.trans s2).trans s3;rcases p3.look kk with⟨z1,z2⟩|⟨v',w',z1,z2,z3⟩
   rw[z1];rw[z2]at k;exact k _ H3 m3 qt r3 q3;rw[z1];rw[z2]at k;exact k _ H3 m3 qt r3 z3;cases e4
  |dm oH=>
   cases q1;obtain⟨tH,p1,_⟩:=r1.dm g;refine⟨m1 i,rfl,.inl ⟨tH,.inl p1⟩,ρ,h1,m1,z,h3,f.stp s1,r1,e5,λv2 H2 m2 s2 r2 q2=>(.mk ((f.stp s1).stp s2) r2 e9 λv3 H3 m3 s3 r3 q3=>?_)⟩;simp only[lG]at e4;split at e4;rename_i kvs kk g2 hkk;cases e4;obtain⟨vs,p2,p3⟩:=r3.dk g2;have hmi:m1 i=m3 i:=((s3.same i (dF (bV g) s2.le)).trans (s2.same i (bV g))).symm;have hv:=zW (q2.stp s3) hkk;subst hv;refine⟨fH vs kk,by rw[hmi];exact .inl ⟨vs,kk,p2,rfl,rfl⟩,?_⟩;have qt:=(s1.trans s2).trans s3;rcases p3.look kk with⟨z1,z2⟩|⟨v',w',z1,z2,z3⟩
   rw[z1];rw[z2]at k;exact k _ H3 m3 qt r3 q3;rw[z1];rw[z2]at k;exact k _ H3 m3 qt r3 z3;rename_i kvs kk g2 hkk;cases e4;obtain⟨vs,p2,p3⟩:=r3.dm g2;have hmi:m1 i=m3 i:=((s3.same i (dF (bV g) s2.le)).trans (s2.same i (bV g))).symm;have hv:=zW (q2.stp s3) hkk;subst hv;refine⟨fH vs kk,by rw[hmi];exact .inl ⟨vs,kk,.inl p2,rfl,rfl⟩,?_⟩;have qt:=(s1.trans s2).trans s3;rcases p3.look kk with⟨z1,z2⟩|⟨v',w',z1,z2,z3⟩
   rw[z1];rw[z2]at k;exact k _ H3 m3 qt r3 q3;rw[z1];rw[z2]at k;exact k _ H3 m3 qt r3 z3;cases e4
 cases e2
end
section
variable{K:aI}{m m' m1:Nat->ai}{n n' n1:Nat}{h h':VH}{H H' H1:Hp}
theorem Rel.side(r:Rel K m h H){D:ai}{u u0:HO}(hu:H D=aC u0)(ht:∀t,u0≠.tup t)(hf:∀o t,u0≠.bS o t)(ho:∀i,i<h.n->m i≠D)(s:bO m1 n1 H1 m h.n H)(h0:H1 D=aD) :
 bO m1 n1 H1 m h.n (upd H D u)/\Rel K m h (upd H D u)/\∀{v:V}{w:W},aJ K m h.n H v w->aJ K m h.n (upd H D u) v w:=by
 have kt:∀b vs,H b=aC (.tup vs)->upd H D u b=aC (.tup vs):=λb vs q=>by rw[bX (dH q hu λz=>ht vs z.symm)];exact q
 have kf:∀b o t,H b=aC (.bS o t)->upd H D u b=aC (.bS o t):=λb o t q=>by rw[bX (dH q hu λz=>hf o t z.symm)];exact q
 have mv:∀{v:V}{w:W},aJ K m h.n H v w->aJ K m h.n (upd H D u) v w:=λq=>q.mono (aZ _) (λ_ _=>rfl) kt kf;refine⟨⟨s.le,s.same,s.new,s.apart,λb vs q=>kt b vs (s.tup b vs q),λb o t q=>kf b o t (s.bS b o t q),λb o nb q=>by rw[bX (iV q h0)];exact s.keep b o nb q⟩,⟨λi hi=>?_,r.inj,r.len⟩,mv⟩;obtain⟨o,h1,h2⟩:=r.obj i hi;have eq:upd H D u (m i)=H (m i):=bX (ho i hi);refine⟨o,h1,?_⟩;cases o with|lst ws=>obtain⟨vs,q1,q2⟩:=h2;exact⟨vs,eq.trans q1,q2.map mv⟩|dk ws=>obtain⟨vs,q1,q2⟩:=h2;exact⟨vs,q1.imp (λz=>eq.trans z) λ⟨o,z⟩=>⟨o,eq.trans z⟩,q2.map mv⟩|dm ws=>obtain⟨vs,q1,q2⟩:=h2;exact⟨vs,eq.trans q1,q2.map mv⟩
theorem Rel.out(r:Rel K m h H){p:ai}(hp:H p=aD):∀i,i<h.n->m i≠p:=λi hi z=>by
 obtain⟨o',_,h2⟩:=r.obj i hi;obtain⟨u',h3⟩:=h2.some;rw[z,hp]at h3;cases h3
theorem bO.out(s:bO m n H m' n' H'){p:ai}{u:HO}(hp:∀i,i<n->m i≠p)(hu:H p=aC u):∀i,i<n'->m' i≠p:=λi hi z=>by
 by_cases hl:i<n;exact hp i hl ((s.same i hl).symm.trans z);have:=s.new i (jn.mp hl) hi;rw[z,hu]at this;cases this
end
inductive jd(K:aI)(m:Nat->ai)(n:Nat)(H:Hp):List (V×V)->List W->Prop
 |nil:jd K m n H [] []
 |cons {k v:V} {a b:W} {ps:List (V×V)} {ws:List W}:aJ K m n H k a->aJ K m n H v b->jd K m n H ps ws->jd K m n H ((k,v)::ps) (a::b::ws)
noncomputable def qw(K:aI)(f:FE)(σ:L2.St)(H:Hp)(Q:List (V×V)->Hp->Prop):Prop:=∃ρ h m ws h',Fr K m h.n H σ ρ/\Rel K m h H/\f ρ h=.ok (.tup ws) h'/\
 ∀ps H' m',bO m h.n H m' h'.n H'->Rel K m' h' H'->jd K m' h'.n H' ps ws->Q ps H'
theorem qw.el{K:aI}{σ:L2.St}{H:Hp}{P:Prop}{fa:FE}{Q:List (V×V)->Hp->Prop}(q:qw K fa σ H Q)(k:∀ρ h m ws h',Fr K m h.n H σ ρ->Rel K m h H->fa ρ h=.ok (.tup ws) h'->(∀ps H' m',bO m h.n H m' h'.n H'->Rel K m' h' H'->jd K m' h'.n H' ps ws->Q ps H')->P):P:=by obtain⟨ρ,h,m,w,h',f,r,e,k'⟩:=q;exact k ρ h m w h' f r e k'
theorem qw.mk{K:aI}{σ:L2.St}{H:Hp}{m:Nat->ai}{ρ:En}{h h':VH}{ws:List W}{fa:FE}{Q:List (V×V)->Hp->Prop}(f:Fr K m h.n H σ ρ)(r:Rel K m h H)(e:fa ρ h=.ok (.tup ws) h')(k:∀ps H' m',bO m h.n H m' h'.n H'->Rel K m' h' H'->jd K m' h'.n H' ps ws->Q ps H'):qw K fa σ H Q:=⟨ρ,h,m,ws,h',f,r,e,k⟩
noncomputable def CD(X:Cx)(pos:Pos)(keys:List (Option aq))(values:List aq)(f:FE):Prop:=∃m5,BU X pos keys values m5/\∀σ H Q,qw X.K f σ H Q->F9 m5 σ H Q
section
variable{X:Cx}{a b c e o:aq}{es:List aq}{fa fb fc fo fr:FE}{pos p:Pos}{x:Str}
theorem Z5:CD X pos [] [] mw:=⟨[],Yg,λσ H Q z9=>z9.el λρ h m ws h' f r e k=>by cases e;exact k [] H m .refl r .nil⟩
theorem Z6{ks:List (Option aq)}{vs:List aq}(ha:SE X a fa)(hb:SE X b fb)(hr:CD X pos ks vs fr):CD X pos (aC a::ks) (b::vs) (jc fa (jc fb fr)):=by
 obtain⟨m5,h1,h2⟩:=hr;refine⟨_,Yh ha hb h1,λσ H Q z9=>z9.el λρ h m ws h' f r e k=>?_⟩;refine bJ e λx h3 e1 e2=>?_;refine bJ e2 λy h4 e3 e4=>?_;refine bJ e3 λx2 h5 e5 e6=>?_;refine bJ e6 λy2 h6 e7 e8=>?_;cases y2<;>try cases e8
 cases e4;rename_i ys;exact(.mk f r e1 λv H1 m1 s1 r1 q1=>(.mk (f.stp s1) r1 e5 λv2 H2 m2 s2 r2 q2=>h2 σ H2 _ (.mk ((f.stp s1).stp s2) r2 e7 λps H3 m3 s3 r3 q3=>
  k _ H3 m3 ((s1.trans s2).trans s3) r3 (.cons ((q1.stp s2).stp s3) (q2.stp s3) q3))))
theorem Sa{K:aI}{m:Nat->ai}{n:Nat}{H:Hp}:∀{ps:List (V×V)} {ws:List W} {kws:List (Key×W)},jd K m n H ps ws->ya ws=aC kws->∃kvs:List (Key×V),ps=kvs.map (λkv=>(kV kv.1,kv.2))/\aM K m n H kvs kws
 |_,_,_,.nil,e=>by cases e;exact⟨[],rfl,.nil⟩
 |_,_,_,.cons (a:=a) (v:=v) q1 q2 r,e=>by
  simp only[ya]at e;split at e;rename_i k hk;split at e;rename_i kvs hp;cases e;obtain⟨kv,rfl,r'⟩:=Sa r hp;refine⟨(k,v)::kv,?_,.cons q2 r'⟩;rw[fD,zW q1 hk];cases e;cases e
noncomputable abbrev JV(f:FE):FE:=λρ h=>(f ρ h).bind λy h=>match y with
 |.tup ys=>(match ya ys with
  |some kvs=>if Nat.ble kvs.length 15 then .ok (.ref h.n) (h.new (yb kvs))else .no
  |none=>.no)
 |_=>.no
theorem Z7(hu:X.A.units+2<cLine){keys:List (Option aq)}{values:List aq}(hp:CD X pos keys values fa)(hall:keys.all (·.isSome))(hl:keys.length=values.length)(h0:keys≠[])(Jv:keys.length<=15):SE X (.Dict keys values pos) (JV fa):=by
 obtain⟨m5,h1,h2⟩:=hp;refine(Yi h1 hall hl h0 Jv).imp λσ H Q z9 p hp=>z9.el λρ h m w h' f r e k=>?_;refine bJ e λy h3 e1 e2=>?_;cases y<;>try cases e2
 rename_i ys;obtain⟨pA,r0⟩:=r.more (u:=.dK []) hp;refine h2 σ _ _ (.mk (f.stp pA) r0 e1 λps H2 m2 s2 r2 q2=>?_);have hout:=s2.out (r.out hp) gn;have hD:H2 p=aC (.dK []):=s2.keep p _ (r.out hp) gn;refine⟨hD,?_⟩;have e2:(match ya ys with|some kvs=>if Nat.ble kvs.length 15 then Res.ok (W.ref h3.n) (h3.new (yb kvs))else .no|none=>.no)=.ok w h':=e2
 cases hk:ya ys with
 |none=>
  rw[hk]at e2;cases e2
 |some kws=>
  rw[hk]at e2;have e2:(if Nat.ble kws.length 15 then Res.ok (W.ref h3.n) (h3.new (yb kws))else .no)=.ok w h':=e2;by_cases hz:Nat.ble kws.length 15=true;rw[if_pos hz]at e2;cases e2;obtain⟨kvs,e3,q3⟩:=Sa q2 hk;refine⟨kvs,e3,by rw[q3.length];exact lR hz,?_⟩;obtain⟨st,r'⟩:=r2.adopt (o:=yb kws) (u:=.dK (rV [] kvs)) hout hD (λ_ z=>nomatch z) (λ_ _ z=>nomatch z) (pA.trans s2) hp λ_ mv=>⟨_,.inl gn,(q3.merge .nil).map mv⟩
  refine k _ _ _ st r' ?_;have:aJ X.K (λi=>if i=h3.n then p else m2 i) (h3.n+1) (upd H2 p (.dK (rV [] kvs))) (.ref ((λi=>if i=h3.n then p else m2 i) h3.n)) (.ref h3.n):=.ref (jF _);simp only[dg]at this;exact this;rw[if_neg hz]at e2;cases e2
noncomputable def sd(K:aI)(np:Nat)(g:List W->VH->Res W):Sp:=λvs H Q _=>vs.length=np/\∃h m ws w h',Rel K m h H/\aG K m h.n H vs ws/\g ws h=.ok w h'/\aN K m h.n H w h' Q
theorem Z8{k:Nat}{f:ai}{fd:av}{ps:List Str}{g:List W->VH->Res W}(F:dZ X.prog X.w X.K X.mg X.base lF k f fd ps (sd X.K ps.length g))(hr:cu k X.A)(hg:Gl X x)(hm:X.mg x=aC (.ref f))(hk:PySem.W.keepIn X.K (.ref f)=true)
 (hb:Binds X.K fd ps []) (ha:SA X (e::es) fa) (hs:(e::es).all fK) (hdb:(x==("__debug__" : Str))=false) (hn:∀ws h w h',g ws h=.ok w h'->ws.length=ps.length):SE X (.Call (.Name x p) (e::es) [] pos) (jX fa g):=by
 rw[pQ,bw]at hs;refine(Qy F hr hg hm hk hb .nil qf ha hdb (dX hs.1) (zX hs.2)).imp λσ H Q q=>zS (G:=λvs H1 Q=>sd X.K ps.length g (vs++[]) H1 Q E0) (λm h H vs xs w h' Q r q e k=>?_) q;rw[nS];exact⟨by rw[q.length];exact hn _ _ _ _ e,h,m,xs,w,h',r,q,e,k⟩
theorem Z9{k:Nat}{f:ai}{fd:av}{ps:List Str}{g:List W->VH->Res W}(F:dZ X.prog X.w X.K X.mg X.base lF k f fd ps (sd X.K ps.length g))(hr:cu k X.A)(hg:Gl X x)(hm:X.mg x=aC (.ref f))(hk:PySem.W.keepIn X.K (.ref f)=true)
 (hb:Binds X.K fd ps []) (hdb:(x==("__debug__" : Str))=false) (hn:∀ws h w h',g ws h=.ok w h'->ws.length=ps.length):SE X (.Call (.Name x p) [] [] pos) (jX mw g):=by
 refine(W4 F hr hg hm hk hb .nil qf hdb).imp λσ H Q z9=>z9.el λρ h m w h' f r e k=>?_;exact⟨hn _ _ _ _ e,h,m,[],w,h',r,.nil,e,k⟩
theorem zq5{k:Nat}{f:ai}{fd:av}{ps:List Str}{g:List W->VH->Res W}(F:dZ X.prog X.w X.K X.mg X.base lF k f fd ps (sd X.K ps.length g))(hr:cu k X.A)(hg:Gl X x)(hm:X.mg x=aC (.ref f))(hk:PySem.W.keepIn X.K (.ref f)=true)
 (hb:Binds X.K fd ps [.none]) (ha:SA X (e::es) fa) (hs:(e::es).all fK) (hdb:(x==("__debug__" : Str))=false) (hn:∀ws h w h',g ws h=.ok w h'->ws.length=ps.length):SE X (.Call (.Name x p) (e::es) [] pos) (jX fa λws h=>g (ws++[.aL]) h):=by
 rw[pQ,bw]at hs;refine(Qy F hr hg hm hk hb (qd:=[V.aL]) (.cons rfl .nil) qf ha hdb (dX hs.1) (zX hs.2)).imp λσ H Q q=>zS (G:=λvs H1 Q=>sd X.K ps.length g (vs++[V.aL]) H1 Q E0) (λm h H vs xs w h' Q r q e k=>?_) q;have q':aG X.K m h.n H (vs++[V.aL]) (xs++[W.aL]):=q.append (.cons .aL .nil);exact⟨by rw[q'.length];exact hn _ _ _ _ e,h,m,xs++[W.aL],w,h',r,q',e,k⟩
noncomputable def je(K:aI)(nx:Nat->VH->Option (Option W))(J:It)(P:(Nat->ai)->Nat->Hp->Prop):Prop:=
 (∀m n H m' n' H',n<=n'->(∀i,i<n->m' i=m i)->(∀b vs,H b=aC (.tup vs)->H' b=aC (.tup vs))->(∀b o u,H b=aC (.bS o u)->H' b=aC (.bS o u))->P m n H->P m' n' H')/\
 ∀m h H,Rel K m h H->P m h.n H->∀i,(∀w,nx i h=aC (aC w)->J.go i H/\∀y H3,J.xy i H y H3->bO m h.n H m h.n H3/\Rel K m h H3/\aJ K m h.n H3 y w)/\(nx i h=aC aD->J.stop i H)
noncomputable def bY(K:aI)(kd:Kd)(f:FE):TI:=λσ H R=>∃ρ h m x h',Fr K m h.n H σ ρ/\Rel K m h H/\f ρ h=.ok x h'/\(∃o,aU kd x 0 h'=aC o)/\
 ∀J P H' m',bO m h.n H m' h'.n H'->Rel K m' h' H'->je K (aU kd x) J P->P m' h'.n H'->R J H'
theorem bY.el{K:aI}{σ:L2.St}{H:Hp}{P:Prop}{kd:Kd}{fa:FE}{R}(q:bY K kd fa σ H R)(k:∀ρ h m x h',Fr K m h.n H σ ρ->Rel K m h H->fa ρ h=.ok x h'->∀o,aU kd x 0 h'=aC o->(∀J P H' m',bO m h.n H m' h'.n H'->Rel K m' h' H'->je K (aU kd x) J P->P m' h'.n H'->R J H')->P):P:=by obtain⟨ρ,h,m,w,h',f,r,e,⟨o,eo⟩,k'⟩:=q;exact k ρ h m w h' f r e o eo k'
theorem bY.mk{K:aI}{σ:L2.St}{H:Hp}{m:Nat->ai}{ρ:En}{h h':VH}{x:W}{kd:Kd}{fa:FE}{R}(f:Fr K m h.n H σ ρ)(r:Rel K m h H)(e:fa ρ h=.ok x h')(eo:∃o,aU kd x 0 h'=aC o)(k:∀J P H' m',bO m h.n H m' h'.n H'->Rel K m' h' H'->je K (aU kd x) J P->P m' h'.n H'->R J H'):bY K kd fa σ H R:=⟨ρ,h,m,x,h',f,r,e,eo,k⟩
theorem JW{K:aI}{H H':Hp}{a:ai}{vs:List V}(kt:∀b vs,H b=aC (.tup vs)->H' b=aC (.tup vs))(kf:∀b o u,H b=aC (.bS o u)->H' b=aC (.bS o u))(q:dh K H a vs):dh K H' a vs:=by rcases q with(q|⟨o,q⟩)|q;exact .inl (.inl (kt _ _ q));exact .inl (.inr ⟨o,kf _ _ _ q⟩);exact .inr q
theorem Sb{K:aI}{H H':Hp}{a:ai}{vs:List V}(kf:∀b o u,H b=aC (.bS o u)->H' b=aC (.bS o u))(q:Fz K H a vs):Fz K H' a vs:=by rcases q with⟨o,q⟩|q;exact .inl ⟨o,kf _ _ _ q⟩;exact .inr q
theorem zY{ws:List W}{h:VH}{x:W}{i:Nat}{o:Option W}(e:aV h x=aC ws)(q:aU .seq x i h=aC o):ws[i]?=o:=by simp only[aU,e]at q;cases q;rfl
theorem zyh{K:aI}{a:ai}{vs:List V}{ws:List W}:je K (aU .seq (.tup ws)) (IE K a) (λm n H=>dh K H a vs/\aG K m n H vs ws):=by refine⟨λm n H m' n' H' hn hm kt kf ⟨q1,q2⟩=>⟨JW kt kf q1,q2.mono hn hm kt kf⟩,λm h H r ⟨q1,q2⟩ i=>⟨λw e=>?_,λe=>?_⟩⟩;have e:=zY (ws:=ws) rfl e;obtain⟨v,h1,h2⟩:=q2.get e;refine⟨⟨vs,v,q1,h1⟩,λy H3 ⟨e3,y3⟩=>?_⟩;subst e3;have:=y3 vs q1;rw[h1]at this;cases this;exact⟨.refl,r,h2⟩;have e:=zY (ws:=ws) rfl e;exact⟨vs,q1,by rw[q2.length];exact rN.mp e⟩
theorem CF{K:aI}{a:ai}{vs:List V}{ws:List W}:je K (aU .seq (.fz ws)) (FU K a) (λm n H=>Fz K H a vs/\aG K m n H vs ws):=by refine⟨λm n H m' n' H' hn hm kt kf ⟨q1,q2⟩=>⟨Sb kf q1,q2.mono hn hm kt kf⟩,λm h H r ⟨q1,q2⟩ i=>⟨λw e=>?_,λe=>?_⟩⟩;have e:=zY (ws:=ws) rfl e;obtain⟨v,h1,h2⟩:=q2.get e;refine⟨⟨vs,v,q1.sq,h1⟩,λy H3 ⟨e3,y3⟩=>?_⟩;subst e3;have:=y3 vs q1.sq;rw[h1]at this;cases this;exact⟨.refl,r,h2⟩;have e:=zY (ws:=ws) rfl e;exact⟨vs,q1.sq,by rw[q2.length];exact rN.mp e⟩
theorem zyi{K:aI}{a:ai}{l:Nat}:je K (aU .seq (.ref l)) (FU K a) (λm n H=>l<n/\a=m l):=by
 refine⟨λm n H m' n' H' hn hm kt kf ⟨q1,q2⟩=>⟨dF q1 hn,by rw[hm l q1];exact q2⟩,λm h H r ⟨q1,q2⟩ i=>?_⟩;subst q2;cases g:h.get l with
 |none=>exact⟨λw e=>by simp[aU,aV,g]at e,λe=>by simp[aU,aV,g]at e⟩
 |some o=>
  cases o with
  |dk _=>exact⟨λw e=>by simp[aU,aV,g]at e,λe=>by simp[aU,aV,g]at e⟩
  |dm _=>exact⟨λw e=>by simp[aU,aV,g]at e,λe=>by simp[aU,aV,g]at e⟩
  |lst ws=>
   have hs:aV h (.ref l)=aC ws:=by simp[aV,g]
   obtain⟨vs,p1,p2⟩:=r.lst g;refine⟨λw e=>?_,λe=>?_⟩;have e:=zY hs e;obtain⟨v,h1,h2⟩:=p2.get e;refine⟨⟨vs,v,cJ.of p1,h1⟩,λy H3 ⟨e3,y3⟩=>?_⟩;subst e3;have:=y3 vs (cJ.of p1);rw[h1]at this;cases this;exact⟨.refl,r,h2⟩;have e:=zY hs e;exact⟨vs,cJ.of p1,by rw[p2.length];exact rN.mp e⟩
theorem Se{K:aI}{kd:Kd}{x:W}{lo:Int}{k:Nat}(hx:∀i h,aU kd x i h=aC (if i<k then aC (.int (lo+i))else aD)):je K (aU kd x) (Bh lo k) (λ_ _ _=>True):=by refine⟨λ_ _ _ _ _ _ _ _ _ _ _=>trivial,λm h H r _ i=>⟨λw e=>?_,λe=>?_⟩⟩;rw[hx]at e;split at e;rename_i hi;cases e;refine⟨hi,λy H3 ⟨e3,y3⟩=>?_⟩;subst e3 y3;exact⟨.refl,r,.int _⟩;cases e;rw[hx]at e;split at e;cases e;rename_i hi;exact jn.mp hi
theorem JX{tg:aq}(ha:SE X e fa):PI X tg e (bY X.K .seq fa):=λpins s σ H R I z9=>z9.el λρ h m x h' f r ee o en k=>by
 have hs:∃ws,aV h' x=aC ws:=by
  cases z:aV h' x with|none=>simp[aU,z]at en|some ws=>exact⟨ws,rfl⟩
 obtain⟨ws,hs⟩:=hs;cases x<;>try cases hs
 exact Ws ha pins s σ H R I (.mk f r ee λv H' m' s' r' q=>by
  cases q with|tup sq rs=>exact⟨_,rfl,⟨_,sq⟩,k _ _ H' m' s' r' zyh ⟨sq,rs⟩⟩)
 exact Qs ha pins s σ H R I (.mk f r ee λv H' m' s' r' q=>by
  cases q with|fz sq rs=>exact⟨_,rfl,⟨_,sq.sq⟩,k _ _ H' m' s' r' CF ⟨sq,rs⟩⟩)
 rename_i l;exact Qs ha pins s σ H R I (.mk f r ee λv H' m' s' r' q=>by
  obtain⟨p,vs,e1,e2,e3⟩:=Cs r' q hs;cases q with
  |ref hi=>
   cases g:h'.get l with
   |none=>simp[aV,g]at hs
   |some ob=>
    cases ob with
    |dk _=>simp[aV,g]at hs
    |dm _=>simp[aV,g]at hs
    |lst Sf=>
     obtain⟨vs',p1,_⟩:=r'.lst g;exact⟨_,rfl,⟨_,cJ.of p1⟩,k _ _ H' m' s' r' zyi ⟨hi,rfl⟩⟩)
theorem zum{tg:aq}(ha:SA X [e] fa)(hs:fK e)(hg:Gl X "range")(hm:X.mg "range" = aD):PI X tg (.Call (.Name "range" p) [e] [] pos) (bY X.K .bU fa):=λpins s σ H R I z9=>z9.el λρ h m x h' f r ee o en k=>by
 simp only[aU]at en;split at en;rename_i j;split at en;rename_i hf;refine Wt hg hm ha (dX hs) pins s σ H R I (.mk f r ee λvs H' m' s' r' q=>?_);obtain⟨v,rfl,q1⟩:=fO q;cases q1;refine⟨_,rfl,(yc hf).1,(yc hf).2,k _ _ H' m' s' r' (Se λi h=>?_) trivial⟩;simp only[aU,hf,dg];split<;>split<;>first|rfl|(exfalso;simp at *;lia)
 cases en;cases en
theorem zun{tg:aq}(ha:SA X [a,b] fa)(hs:fK a)(hs2:fK b)(hg:Gl X "range")(hm:X.mg "range" = aD):PI X tg (.Call (.Name "range" p) [a,b] [] pos) (bY X.K .oq fa):=λpins s σ H R I z9=>z9.el λρ h m x h' f r ee o en k=>by
 simp only[aU]at en;split at en;rename_i i j;split at en;rename_i hf;refine Wu hg hm ha (by rw[dX hs,dX hs2];rfl) (dX hs2) pins s σ H R I (.mk f r ee λvs H' m' s' r' q=>?_);obtain⟨v,u,rfl,q1,q2⟩:=nc q;cases q1;cases q2;have hf2:=hf;rw[bw]at hf2;refine⟨_,_,rfl,⟨(yc hf2.1).1,(yc hf2.1).2,(yc hf2.2).1,(yc hf2.2).2⟩,k _ _ H' m' s' r' (Se λi h=>?_) trivial⟩;simp only[aU,hf,dg];split<;>split<;>first|rfl|(exfalso;simp at *;lia)
 cases en;cases en
noncomputable def zyj(tl:TE):TI:=λσ H R=>tl σ H λx H1=>∃a kvs,x=.ref a/\((∃ob,H1 a=aC (.bS ob (.dK kvs))/\R (Cb a ob kvs) H1)\/(H1 a=aC (.dK kvs)/\∀ob,R (Cb a ob kvs) (upd H1 a (.bS ob (.dK kvs)))))
theorem zq6{tg l:aq}{tl:TE}(hl:PE X l tl):PI X tg l (zyj tl):=by
 intro pins s σ H R I h;refine bg (hl pins s σ H _ I h) λv s1 cj=>?_;obtain⟨x,H1,I1,r1,q1⟩:=cj;obtain⟨a,kvs,e,q⟩:=q1;subst e;cases r1;have key:∀(H2:Hp)(ob:Obj),Inv X pins σ H2 s1->H2 a=aC (.bS ob (.dK kvs))->R (Cb a ob kvs) H2->wpAny (model X.prog X.w) X.A (pyIter (.ref a)) (λitv s2=>FT X pins σ tg R itv s2) X.xe s1:=by
  intro H2 ob I2 e0 q2;obtain⟨e1,z,y,vs,r,o',es,ep,e2,c1,c2,c3,c4,c5⟩:=(show br X.prog X.w H2 s1.heap a (.bS ob (.dK kvs))from I2.hok a _ e0)
  rw[e1]at e2;cases e2;refine wpAny_pyIter_dict (knd:=i9 X.prog X.w) y ⟨ob,es,e1,c1,c2,c3,c4,c5⟩ ?_;have hlen:=r.length;refine⟨s1.heap.objs.size,[s1.heap.objs.size],_,_,H2,rfl,I2.kept (t':=s1.toks) λb o e=>cH _ e,Y8 (kvs:=kvs) c2 (fN (cN e1)),⟨_,i8 _ rfl,rfl,by rw[hlen];rfl⟩,λb hb=>?_,q2⟩;have e:b=s1.heap.objs.size:=by simpa using hb
  subst e;exact I2.lY (aZ _) (I2.hok.fresh (aZ _))
 rcases q with⟨ob,e0,q⟩|⟨e0,q⟩;exact key H1 ob I1 e0 q;obtain⟨ob,I2⟩:=I1.freeze e0;exact key _ ob I2 gn (q ob)
theorem aM.key{K:aI}{m:Nat->ai}{n:Nat}{H:Hp}:∀{vs:List (Key×V)} {ws:List (Key×W)} (i:Nat),aM K m n H vs ws->(vs[i]?).map (·.1)=(ws[i]?).map (·.1)|_,_,_,.nil=>rfl|_,_,0,.cons _ _=>rfl|_,_,i+1,.cons _ r=>by simpa using aM.key i r
theorem zq7{K:aI}{m:Nat->ai}{n:Nat}{H:Hp}(k:Key):aJ K m n H (kV k) (xZ k):=by cases k;exact .int _;exact .str _
theorem Sg{K:aI}{a:ai}{l:Nat}{ob:Obj}{kv:List (Key×V)}:je K (aU .keys (.ref l)) (Cb a ob kv) (λm n H=>l<n/\a=m l/\H a=aC (.bS ob (.dK kv))):=by
 refine⟨λm n H m' n' H' hn hm kt kf ⟨q1,q2,q3⟩=>⟨dF q1 hn,by rw[hm l q1];exact q2,kf _ _ _ q3⟩,λm h H r ⟨q1,q2,q3⟩ i=>?_⟩;subst q2;cases g:h.get l with
 |none=>exact⟨λw e=>by simp[aU,g]at e,λe=>by simp[aU,g]at e⟩
 |some o=>
  cases o with
  |lst _=>exact⟨λw e=>by simp[aU,g]at e,λe=>by simp[aU,g]at e⟩
  |dm _=>exact⟨λw e=>by simp[aU,g]at e,λe=>by simp[aU,g]at e⟩
  |dk ws=>
   obtain⟨vs,p1,p2⟩:=r.dk g;have hv:vs=kv:=by rcases p1 with p1|⟨o,p1⟩;rw[q3]at p1;cases p1;rw[q3]at p1;cases p1;rfl
   subst hv;have hk:=p2.key i;refine⟨λw e=>?_,λe=>?_⟩;simp only[aU,g]at e;cases z:ws[i]? with
   |none=>
    rw[z]at e;simp only at e;split at e<;>cases e
   |some p=>
    rw[z]at e hk;simp only[lU,Option.some.injEq]at e hk;subst e;cases z2:vs[i]? with
    |none=>rw[z2]at hk;cases hk
    |some q=>
     rw[z2]at hk;simp only[lU,Option.some.injEq]at hk;refine⟨⟨q3,(gZ.mp z2).1⟩,λy H3 ⟨e3,k3,v3,e4,e5⟩=>?_⟩;subst e3 e5;rw[z2]at e4;cases e4;rw[<-hk];exact⟨.refl,r,zq7 _⟩
   simp only[aU,g]at e;cases z:ws[i]? with
   |some p=>rw[z]at e;cases e
   |none=>
    rw[z]at e;simp only at e;split at e;rename_i hb;exact⟨q3,by rw[p2.length];exact wY hb⟩;cases e
theorem Rel.frozen{K:aI}{m:Nat->ai}{h:VH}{H:Hp}(r:Rel K m h H){i:Nat}{o:VO}{u u0:HO}(hi:h.get i=aC o)(h0:H (m i)=aC u0)(hn:∀t,u0≠.tup t)(hf:∀o t,u0≠.bS o t)
 (ho:bO m h.n H m h.n (upd H (m i) u)->eZ K m h.n (upd H (m i) u) (m i) o) :
 bO m h.n H m h.n (upd H (m i) u)/\Rel K m h (upd H (m i) u):=by
 have st:bO m h.n H m h.n (upd H (m i) u):=by refine⟨aZ _,λ_ _=>rfl,λj a b=>absurd b (jn.mpr a),λj k a b=>absurd b (jn.mpr a),λb vs q=>?_,λb o t q=>?_,λb o nb q=>?_⟩;rw[bX (dH q h0 (λz=>hn vs z.symm))];exact q;rw[bX (dH q h0 (λz=>hf o t z.symm))];exact q;rw[bX (nb i (bV hi)).symm];exact q
 refine⟨st,⟨λj hj=>?_,r.inj,r.len⟩⟩;by_cases e:j=i;subst e;exact⟨o,hi,ho st⟩;obtain⟨o',h1,h2⟩:=r.obj j hj;exact⟨o',h1,eZ.stp st (bX λz=>e (r.inj j i hj (bV hi) z)) h2⟩
theorem zuo{tg:aq}(ha:SE X e fa):PI X tg e (bY X.K .keys fa):=λpins s σ H R I z9=>z9.el λρ h m x h' f r ee o en k=>by
 have hs:∃l kvs,x=.ref l/\h'.get l=aC (.dk kvs):=by simp only[aU]at en;split at en;rename_i l;split at en;exact⟨_,_,rfl,by assumption⟩;cases en;cases en
 obtain⟨l,kvs,rfl,g⟩:=hs;refine zq6 ha pins s σ H R I (.mk f r ee λv H' m' s' r' q=>?_);cases q with
 |ref hi=>
  obtain⟨vs,p1,p2⟩:=r'.dk g;refine⟨m' l,vs,rfl,?_⟩;rcases p1 with p1|⟨ob,p1⟩;refine .inr ⟨p1,λob=>?_⟩;obtain⟨st,r2⟩:=r'.frozen (u:=.bS ob (.dK vs)) g p1 (λ_ z=>nomatch z) (λ_ _ z=>nomatch z) λst=>⟨vs,.inr ⟨ob,gn⟩,p2.stp st⟩
  exact k _ _ _ m' (s'.trans st) r2 Sg ⟨hi,rfl,gn⟩;exact .inl ⟨ob,p1,k _ _ H' m' s' r' Sg ⟨hi,rfl,p1⟩⟩
theorem zq8{elts:List aq}{kx:Nat}{tp:Pos}{l:aq}{ta:TA}(hg:Gl X "enumerate")(hm:X.mg "enumerate" = aD)(hv:bootBuiltins "enumerate" = aC (.type "enumerate"))(ha:PA X [l] ta)(hs:starEach [l] X.env=[(false,eval l X.env)]) :
 PI X (.Tuple elts kx tp) (.Call (.Name "enumerate" p) [l] [] pos) (λσ H R=>ta σ H λvs H1=>∃a,vs=[.ref a]/\(∃xs,dh X.K H1 a xs)/\R (xN X.K a) H1):=by
 intro pins s σ H R I h;refine Call_ (xu I hg hm hv (AQ (bg (ha pos pins s σ H _ I h) λus s1 ⟨vs,H1,I1,r1,q1⟩=>?_) hs rfl));obtain⟨a,e,⟨xs,hq⟩,q⟩:=q1;subst e;obtain⟨u,rfl,ru⟩:=vals1 r1;cases ru;obtain⟨its,rv,pl,hz⟩:=I1.tuple hq;have pl:s1.heap.IsTuple a its.toArray:=pl;have hlt:a<s1.heap.objs.size:=by obtain⟨o,q,_⟩:=pl;exact cN q
 refine X4 pl λh' he hit hsz kk=>wpAny_pyIter_enum he ?_;have hf:∀b,s1.heap.objs.size<=b->fU X pins H1 b:=λb hb=>I1.lY hb (I1.hok.fresh hb);refine⟨s1.heap.objs.size+1,[s1.heap.objs.size+1,s1.heap.objs.size],_,_,H1,rfl,I1.kept (t':=s1.toks) kk,X5 a _ _ (oZ (jF _)) (fN (zy hlt)) (fN hlt),⟨⟨_,he⟩,hit⟩,λb hb=>hf b ?_,q⟩;rcases eO.mp hb with rfl|hb
 exact o8 _;have e':b=s1.heap.objs.size:=by simpa using hb
 rw[e'];exact aZ _
theorem Sh{ws:List W}{h:VH}{i:Nat}{o:Option W}(q:aU .l7 (.tup ws) i h=aC o):o=(ws[i]?).map λw=>.tup [.int i,w]:=by cases q;rfl
theorem zup{K:aI}{a:ai}{vs:List V}{ws:List W}:je K (aU .l7 (.tup ws)) (xN K a) (λm n H=>dh K H a vs/\aG K m n H vs ws):=by
 refine⟨λm n H m' n' H' hn hm kt kf ⟨q1,q2⟩=>⟨JW kt kf q1,q2.mono hn hm kt kf⟩,λm h H r ⟨q1,q2⟩ i=>⟨λw e=>?_,λe=>?_⟩⟩;have e:=Sh (ws:=ws) e;cases z:ws[i]? with
 |none=>rw[z]at e;cases e
 |some w0=>
  rw[z]at e;cases e;obtain⟨v,h1,h2⟩:=q2.get z;refine⟨⟨vs,v,q1,h1⟩,λy H3 ⟨T,v3,e1,e2,e3,y3⟩=>?_⟩;subst e1 e3;have:=y3 vs q1;rw[h1]at this;cases this;obtain⟨st,r'⟩:=r.more (u:=.tup [.int i,v]) e2;exact⟨st,r',.tup (dh.of gn) (.cons (.int _) (.cons (h2.stp st) .nil))⟩
 have e:=Sh (ws:=ws) e;cases z:ws[i]? with|some w0=>rw[z]at e;cases e|none=>exact⟨vs,q1,by rw[q2.length];exact rN.mp z⟩
theorem zoa:bootBuiltins "enumerate" = aC (.type "enumerate"):=by decide +kernel
theorem zyk(ha:SE X e fa)(hs:fK e):PA X [e] (λσ H Q=>eK X.K fa σ H λv H1=>Q [v] H1):=λp pins s σ H Q I q=>by
 refine nY ha pZ (dX hs) p pins s σ H Q I ?_;refine q.el λρ h m w h' f r ee k=>?_;exact(.mk f r ee λv H' m' s' r' q'=>k v H' m' s' r' q')
theorem zyl{elts:List aq}{kx:Nat}{tp:Pos}(ha:SE X e fa)(hs0:fK e)(hg:Gl X "enumerate")(hm:X.mg "enumerate" = aD):PI X (.Tuple elts kx tp) (.Call (.Name "enumerate" p) [e] [] pos) (bY X.K .l7 fa):=λpins s σ H R I z9=>z9.el λρ h m x h' f r ee o en k=>by
 cases x with
 |tup ws=>exact zq8 hg hm zoa (zyk ha hs0) (dX hs0) pins s σ H R I ⟨ρ,h,m,_,h',f,r,ee,λv H' m' s' r' q=>by
  cases q with|tup sq rs=>exact⟨_,rfl,⟨_,sq⟩,k _ _ H' m' s' r' zup ⟨sq,rs⟩⟩⟩
 |_=>cases en
theorem zym{elts:List aq}{kx:Nat}{tp:Pos}{l l2:aq}{ta:TA}(hg:Gl X "zip")(hm:X.mg "zip" = aD)(ha:PA X [l,l2] ta)(hs:starEach [l,l2] X.env=[(false,eval l X.env),(false,eval l2 X.env)])(hs2:starEach [l2] X.env=[(false,eval l2 X.env)]) :
 PI X (.Tuple elts kx tp) (.Call (.Name "zip" p) [l,l2] [] pos) (λσ H R=>ta σ H λvs H1=>∃b c a1 a2,vs=[.ref a1,.ref a2]/\(∃xs,om b X.K H1 a1 xs)/\(∃ys,om c X.K H1 a2 ys)/\R (xQ X.K b c a1 a2) H1):=by
 intro pins s σ H R I h;refine Call_ (xu I hg hm PyProof.Rows.boot_zip (AQ (bg (ha pos pins s σ H _ I h) λus s1 ⟨vs,H1,I1,r1,q1⟩=>?_) (by rw[hs,hs2]) (by rw[hs2];rfl)));obtain⟨b,c,a1,a2,e,⟨xs,hq⟩,⟨ys,hr⟩,q⟩:=q1;subst e;cases r1 with
 |cons r rr=>
  cases rr with
  |cons r' rr=>
   cases rr;cases r;cases r';obtain⟨its,_,pl,_⟩:=zQ I1 hq;obtain⟨RC,_,Si,_⟩:=zQ I1 hr;refine Y0 pl Si λh' e1 e2 e3 e4 e5 hsz kk=>wpAny_pyIter_zip e1 ?_;have hf:∀b,s1.heap.objs.size<=b->fU X pins H1 b:=λb hb=>I1.lY hb (I1.hok.fresh hb);refine⟨s1.heap.objs.size+4,_,_,_,H1,rfl,I1.kept (t':=s1.toks) kk,Y3 a1 a2 _ _ _ _ _ (YN pl.lt Si.lt),⟨e1,e2,⟨_,_,e3⟩,e4,e5⟩,λb hb=>hf b ?_,q⟩;simp only[eO,uS,uJ]at hb;rcases hb with rfl|rfl|rfl|rfl|rfl
   exact Fy _ _;exact Fy _ _;exact Fy _ _;exact aZ _;exact Fy _ _
noncomputable def Src(K:aI)(b:Bool)(a:ai)(u:W)(P:(Nat->ai)->Nat->Hp->Prop):Prop:=
 (∀m n H m' n' H',n<=n'->(∀i,i<n->m' i=m i)->(∀b vs,H b=aC (.tup vs)->H' b=aC (.tup vs))->(∀b o u,H b=aC (.bS o u)->H' b=aC (.bS o u))->P m n H->P m' n' H')/\
 ∀m h H ws,Rel K m h H->P m h.n H->aV h u=aC ws->∃vs,om b K H a vs/\aG K m h.n H vs ws
theorem Sj{K:aI}{m:Nat->ai}{h:VH}{H:Hp}{v:V}{u:W}{ws:List W}(r:Rel K m h H)(q:aJ K m h.n H v u)(e:aV h u=aC ws):∃b a P,v=.ref a/\Src K b a u P/\P m h.n H/\∃xs,om b K H a xs:=by
 cases q with
 |aL=>cases e
 |bl b=>cases e
 |int b=>cases e
 |str b=>cases e
 |tup sq rs=>exact⟨true,_,λm n H=>dh K H _ _/\aG K m n H _ _,rfl,⟨λm n H m' n' H' hn hm kt kf ⟨q1,q2⟩=>⟨JW kt kf q1,q2.mono hn hm kt kf⟩,λm h H ws _ ⟨q1,q2⟩ z=>by cases z;exact⟨_,q1,q2⟩⟩,⟨sq,rs⟩,_,sq⟩
 |fz sq rs=>exact⟨false,_,λm n H=>Fz K H _ _/\aG K m n H _ _,rfl,⟨λm n H m' n' H' hn hm kt kf ⟨q1,q2⟩=>⟨Sb kf q1,q2.mono hn hm kt kf⟩,λm h H ws _ ⟨q1,q2⟩ z=>by cases z;exact⟨_,q1.sq,q2⟩⟩,⟨sq,rs⟩,_,sq.sq⟩
 |ref hi=>
  rename_i l;have key:∀m (h:VH) H ws,Rel K m h H->aV h (.ref l)=aC ws->∃vs,H (m l)=aC (.lst vs)/\aG K m h.n H vs ws:=λm h H ws r z=>by
   cases g:h.get l with
   |none=>simp[aV,g]at z
   |some o=>
    cases o with
    |dk _=>simp[aV,g]at z
    |dm _=>simp[aV,g]at z
    |lst Sf=>
     have:Sf=ws:=by simpa[aV,g]using z
     subst this;exact r.lst g
  obtain⟨vs,p1,_⟩:=key m h H ws r e;refine⟨false,_,λm' n _=>l<n/\m l=m' l,rfl,⟨λm1 n H m' n' H' hn hm kt kf ⟨q1,q2⟩=>⟨dF q1 hn,by rw[hm l q1];exact q2⟩,λm1 h H ws r' ⟨q1,q2⟩ z=>?_⟩,⟨hi,rfl⟩,vs,cJ.of p1⟩;obtain⟨vs,g1,g2⟩:=key m1 h H ws r' z;rw[q2];exact⟨vs,cJ.of g1,g2⟩
theorem JY{u v:W}{h:VH}{i:Nat}{o:Option W}(q:aU .zip (.tup [u,v]) i h=aC o):∃ws zs,aV h u=aC ws/\aV h v=aC zs/\o=(match ws[i]?,zs[i]? with|some a,aC b=>aC (.tup [a,b])|_,_=>aD):=by simp only[aU]at q;split at q;rename_i ws zs h1 h2;cases q;exact⟨ws,zs,h1,h2,rfl⟩;cases q
theorem zyn{K:aI}{b c:Bool}{a1 a2:ai}{u v:W}{P1 P2:(Nat->ai)->Nat->Hp->Prop}(s1:Src K b a1 u P1)(s2:Src K c a2 v P2):je K (aU .zip (.tup [u,v])) (xQ K b c a1 a2) (λm n H=>P1 m n H/\P2 m n H):=by
 refine⟨λm n H m' n' H' hn hm kt kf ⟨q1,q2⟩=>⟨s1.1 m n H m' n' H' hn hm kt kf q1,s2.1 m n H m' n' H' hn hm kt kf q2⟩,λm h H r ⟨q1,q2⟩ i=>⟨λw e=>?_,λe=>?_⟩⟩;obtain⟨ws,zs,e1,e2,e3⟩:=JY e;obtain⟨xs,g1,g2⟩:=s1.2 m h H ws r q1 e1;obtain⟨ys,g3,g4⟩:=s2.2 m h H zs r q2 e2;cases z1:ws[i]? with
 |none=>rw[z1]at e3;cases e3
 |some w1=>
  cases z2:zs[i]? with
  |none=>rw[z1,z2]at e3;cases e3
  |some w2=>
   rw[z1,z2]at e3;cases e3;obtain⟨v1,k1,k2⟩:=g2.get z1;obtain⟨v2,k3,k4⟩:=g4.get z2;refine⟨⟨xs,ys,v1,v2,g1,g3,k1,k3⟩,λy H3 ⟨T,x3,y3,f1,f2,f3,f4,f5⟩=>?_⟩;subst f1 f3;have t1:=f4 xs g1;have t2:=f5 ys g3;rw[k1]at t1;cases t1;rw[k3]at t2;cases t2;obtain⟨st,r'⟩:=r.more (u:=.tup [v1,v2]) f2;exact⟨st,r',.tup (dh.of gn) (.cons (k2.stp st) (.cons (k4.stp st) .nil))⟩
 obtain⟨ws,zs,e1,e2,e3⟩:=JY e;obtain⟨xs,g1,g2⟩:=s1.2 m h H ws r q1 e1;obtain⟨ys,g3,g4⟩:=s2.2 m h H zs r q2 e2;refine⟨xs,ys,g1,g3,?_⟩;cases z1:ws[i]? with
 |none=>exact .inl (by rw[g2.length];exact rN.mp z1)
 |some w1=>
  cases z2:zs[i]? with|none=>exact .inr (by rw[g4.length];exact rN.mp z2)|some w2=>rw[z1,z2]at e3;cases e3
theorem zyo{elts:List aq}{kx:Nat}{tp:Pos}(ha:SA X [a,b] fa)(hs:fK a)(hs2:fK b)(hg:Gl X "zip")(hm:X.mg "zip" = aD):PI X (.Tuple elts kx tp) (.Call (.Name "zip" p) [a,b] [] pos) (bY X.K .zip fa):=λpins s σ H R I z9=>z9.el λρ h m x h' f r ee o en k=>by
 have hx:∃u v,x=.tup [u,v]:=by simp only[aU]at en;split at en;exact⟨_,_,rfl⟩;cases en
 obtain⟨u,v,rfl⟩:=hx;obtain⟨ws,zs,e1,e2,_⟩:=JY en;refine zym hg hm ha (by rw[dX hs,dX hs2];rfl) (dX hs2) pins s σ H R I (.mk f r ee λvs H' m' s' r' q=>?_);obtain⟨v1,v2,rfl,q1,q2⟩:=nc q;obtain⟨b1,a1,P1,rfl,o1,p1,x1⟩:=Sj r' q1 e1;obtain⟨b2,a2,P2,rfl,o2,p2,x2⟩:=Sj r' q2 e2;exact⟨b1,b2,a1,a2,rfl,x1,x2,k _ _ H' m' s' r' (zyn o1 o2) ⟨p1,p2⟩⟩
end
section
variable{X:Cx}{a b c e o:aq}{es:List aq}{fa fb fc fo fr:FE}{pos p:Pos}{x:Str}
noncomputable def cF(K:aI)(t:Tg):TG:=λv σ H Q=>∃ρ h m w ρ',Fr K m h.n H σ ρ/\Rel K m h H/\aJ K m h.n H v w/\bK t w h ρ=aC ρ'/\∀σ',Fr K m h.n H σ' ρ'->Q σ' H
theorem cF.el{K:aI}{v:V}{σ:L2.St}{H:Hp}{P:Prop}{tg:Tg}{Q}(q:cF K tg v σ H Q)(k:∀ρ h m w ρ',Fr K m h.n H σ ρ->Rel K m h H->aJ K m h.n H v w->bK tg w h ρ=aC ρ'->(∀σ',Fr K m h.n H σ' ρ'->Q σ' H)->P):P:=by obtain⟨ρ,h,m,w,h',f,r,e,eo,k'⟩:=q;exact k ρ h m w h' f r e eo k'
theorem cF.mk{K:aI}{v:V}{σ:L2.St}{H:Hp}{m:Nat->ai}{ρ ρ':En}{h:VH}{w:W}{tg:Tg}{Q}(f:Fr K m h.n H σ ρ)(r:Rel K m h H)(e:aJ K m h.n H v w)(eo:bK tg w h ρ=aC ρ')(k:∀σ',Fr K m h.n H σ' ρ'->Q σ' H):cF K tg v σ H Q:=⟨ρ,h,m,w,ρ',f,r,e,eo,k⟩
theorem Sk{i:Nat}(hN:X.N.Nodup)(hi:X.N[i]?=aC x)(hx:Loc X.env.scope x)(hf:X.fn x=true\/X.env.scope.names.lookup x=aC .local):PG X (.Name x pos) (cF X.K (.one i)):=λpins s σ H v u Q I ru z9=>z9.el λρ h m w ρ' f r q e k=>by
 cases e;exact Qm hN hi hx hf pins s σ H v u Q I ru (k _ (f.set q i))
noncomputable def mz(X:Cx)(e:aq)(i:Nat):Prop:=∃x p,e=.Name x p/\X.N[i]?=aC x/\Loc X.env.scope x/\(X.fn x=true\/X.env.scope.names.lookup x=aC .local)
noncomputable def CG(K:aI)(is:List Nat):sY:=λvs σ H Q=>∃ρ m n ws ρ',Fr K m n H σ ρ/\aG K m n H vs ws/\tP is ws ρ=aC ρ'/\∀σ',Fr K m n H σ' ρ'->Q σ' H
theorem Sl(hN:X.N.Nodup):∀{es:List aq} {is:List Nat},Paired (mz X) es is->zK X es (CG X.K is)/\(assignEach es X.env).length=es.length/\(assignEach es X.env).findIdx? (·.1)=aD
 |_,_,.nil=>by
  refine⟨λpins s σ H vs us Q I ru ⟨ρ,m,n,ws,ρ',f,q,e,k⟩=>?_,rfl,rfl⟩;cases ws with|nil=>cases e;cases q;exact Qn pins s σ H [] us Q I ru ⟨rfl,k _ f⟩|cons _ _=>cases e
 |e::es,i::is,.cons ⟨x,p,he,hi,hx,hf⟩ t=>by
  subst he;obtain⟨h1,h2,h3⟩:=Sl hN t;refine⟨λpins s σ H vs us Q I ru ⟨ρ,m,n,ws,ρ',f,q,e,k⟩=>?_,?_,?_⟩;cases q with
  |nil=>cases e
  |cons q qs=>
   exact IA (Qm hN hi hx hf) h1 rfl pins s σ H _ us Q I ru ⟨_,_,rfl,ρ.set i (aC _),m,n,_,ρ',f.set q i,qs,e,k⟩
  show(assignEach es X.env).length+1=es.length+1;rw[h2];show List.findIdx? _ ((false,_)::assignEach es X.env)=aD;rw[List.findIdx?_cons,h3];rfl
theorem Sm:∀{is:List Nat} {ws:List W} {ρ ρ':En},tP is ws ρ=aC ρ'->ws.length=is.length
 |[],[],_,_,_=>rfl
 |[],_::_,_,_,e=>by cases e
 |_::_,[],_,_,e=>by cases e
 |_::_,_::_,_,_,e=>by
  rw[dj,dj,Sm (by simpa only[tP]using e)]
theorem zyp{t:sY}{n k:Nat}(hc:X.calm)(h:zK X es t)(hn:(assignEach es X.env).length=n)(hst:(assignEach es X.env).findIdx? (·.1)=aD) :
 PG X (.Tuple es k pos) (λv σ H Q=>∃a xs,v=.ref a/\cJ X.K H a xs/\xs.length=n/\t xs σ H Q):=by
 intro pins s σ H v u Q I r hw;obtain⟨a,xs,rfl,hq,hl,hw⟩:=hw;cases r;obtain⟨its,rv,ht,hz⟩:=I.list hq;rw[assign_Tuple];refine aK (kB ?_);unfold unpack;have hsz:(assignEach es X.env).length=its.toArray.size:=by rw[hn,<-hl,rv.length,eG]
 rw[hst,hsz];refine aK (lO (PySem.W.kun_itemsOf (I.ok.hd hc) ht.isList λh' hx=>?_));have I1:Inv X pins σ H {s with heap:=h'}:=I.kept (t':=s.toks) λb o e=>hx b o (fN (cN e)) e;exact h pins _ σ H xs _ Q I1 (by simpa using rv) hw
theorem JZ{is:List Nat}{k:Nat}(hc:X.calm)(hN:X.N.Nodup)(hs:Paired (mz X) es is):PG X (.Tuple es k pos) (cF X.K (.many is)):=λpins s σ H v u Q I ru z9=>z9.el λρ h m w ρ' f r q e k=>by
 obtain⟨h1,h2,h3⟩:=Sl hN hs;simp only[bK]at e;cases z:aV h w with
 |none=>rw[z]at e;cases e
 |some ws=>
  rw[z]at e;have e:tP is ws ρ=aC ρ':=e;obtain⟨p,vs,rfl,hq,qs⟩:=Cs r q z;have hl:vs.length=es.length:=by rw[qs.length,Sm e,hs.length]
  rcases hq with hq|hq;exact zyp hc h1 h2 h3 pins s σ H _ u Q I ru ⟨p,vs,rfl,hq,hl,ρ,m,h.n,ws,ρ',f,qs,e,k⟩;exact Qo hc h1 h2 h3 pins s σ H _ u Q I ru ⟨p,vs,rfl,hq,hl,ρ,m,h.n,ws,ρ',f,qs,e,k⟩
theorem zyq{is:List Nat}{j k k':Nat}{p':Pos}{en:aq}(hc:X.calm)(hN:X.N.Nodup)(hs:Paired (mz X) es is)(hj:mz X en j):PG X (.Tuple [en,.Tuple es k' p'] k pos) (cF X.K (.Ce j is)):=λpins s σ H v u Q I ru z9=>z9.el λρ h m w ρ' f r q e kk=>by
 obtain⟨x,px,rfl,g1,g2,g3⟩:=hj;simp only[bK]at e;split at e;rename_i wa wb;cases z:aV h wb with
 |none=>rw[z]at e;cases e
 |some ws=>
  rw[z]at e;cases q with
  |tup s1 s2=>
   obtain⟨va,vb,rfl,q1,q2⟩:=nc s2;refine Qo hc (IA (Sk hN g1 g2 g3) (IA (JZ hc hN hs) Qn)) rfl rfl pins s σ H _ u Q I ru ⟨_,_,rfl,s1,rfl,va,[vb],rfl,?_⟩;refine .mk f r q1 rfl λσ1 f1=>?_;refine⟨vb,[],rfl,.mk f1 r q2 (show bK (.many is) wb h _=aC ρ' by simp only[bK,z];exact e) λσ2 f2=>?_⟩;exact⟨rfl,kk σ2 f2⟩
 cases e
theorem J0{K:aI}{m:Nat->ai}{n:Nat}{H:Hp}{σ:L2.St}{ρ:En}{ow fr:List Str}{ix:List Nat}(f:Fr K m n H σ ρ):Fr K m n H (l5 ow fr ix σ) (inner ow.length ix ρ):=by
 unfold l5 inner;refine⟨by simp,λi w e=>?_⟩;by_cases hi:i<ow.length;rw[uM (by simpa using hi)]at e;rw[Ff]at e;split at e<;>cases e;rw[oX (by simpa using jn.mp hi)]at e;rw[oX (by simpa using jn.mp hi)];simp only[wN,bG]at e ⊢;rw[dY]at e ⊢;cases z:ix[i-ow.length]? with
 |none=>rw[z]at e;cases e
 |some j=>
  rw[z]at e;simp only[lU,Option.some.injEq]at e ⊢;have e3:ρ[j]?=aC (aC w):=by
   cases q:ρ[j]? with|none=>rw[q]at e;cases e|some o=>rw[q]at e;rw[<-e];rfl
  obtain⟨v,h1,h2⟩:=f.val j w e3;exact⟨v,by rw[h1];rfl,h2⟩
theorem Sn{H:Hp}{a:ai}{o:HO}(h:H a=aC o):upd H a o=H:=by funext b;unfold upd;split;rename_i e;rw[e,h];rfl
structure gC(K:aI)(m1:Nat->ai)(n1:Nat)(H1:Hp)(P:(Nat->ai)->Nat->Hp->Prop)(D:ai)(u:HO)(m:Nat->ai)(h:VH)(H:Hp):Prop where
 rel:Rel K m h H
 at_:H D=aC u
 out:∀i,i<h.n->m i≠D
 stp:bO m1 n1 H1 m h.n H
 inv:P m h.n H
noncomputable abbrev Keeps(P:(Nat->ai)->Nat->Hp->Prop):Prop:=∀m n H m' n' H',n<=n'->(∀i,i<n->m' i=m i)->(∀b vs,H b=aC (.tup vs)->H' b=aC (.tup vs))->(∀b o u,H b=aC (.bS o u)->H' b=aC (.bS o u))->P m n H->P m' n' H'
noncomputable def tS(u:HO):Prop:=(∀t,u≠.tup t)/\∀o t,u≠.bS o t
section
variable{K:aI}{m m0 m1 m':Nat->ai}{n0 n1:Nat}{H H0 H1 H':Hp}{P:(Nat->ai)->Nat->Hp->Prop}{D:ai}{u u':HO}{h h':VH}
theorem Keeps.stp(k:Keeps P)(s:bO m h.n H m' h'.n H')(p:P m h.n H):P m' h'.n H':=k _ _ _ _ _ _ s.le s.same s.tup s.bS p
theorem gC.step(a:gC K m1 n1 H1 P D u m h H)(k:Keeps P)(s:bO m h.n H m' h'.n H')(r:Rel K m' h' H'):gC K m1 n1 H1 P D u m' h' H':=
 have e:=s.keep D u a.out a.at_
 ⟨r,e,s.out a.out a.at_,a.stp.trans s,k.stp s a.inv⟩
theorem gC.put(a:gC K m1 n1 H1 P D u m h H)(k:Keeps P)(hu:tS u)(h0:H1 D=aD)(u':HO):gC K m1 n1 H1 P D u' m h (upd H D u')/\∀{v:V} {w:W},aJ K m h.n H v w->aJ K m h.n (upd H D u') v w:=by obtain⟨st,r,mv⟩:=a.rel.side (u:=u') a.at_ hu.1 hu.2 a.out a.stp h0;exact⟨⟨r,gn,a.out,st,k _ _ _ _ _ _ (aZ _) (λ_ _=>rfl) (λb us q=>by rw[bX (dH q a.at_ λz=>hu.1 _ z.symm)];exact q) (λb o t q=>by rw[bX (dH q a.at_ λz=>hu.2 _ _ z.symm)];exact q) a.inv⟩,mv⟩
theorem gC.start(r:Rel K m h H)(hD:H D=aD)(k:Keeps P)(p:P m h.n H)(u:HO):gC K m h.n H P D u m h (upd H D u)/\bO m h.n H m h.n (upd H D u):=by obtain⟨s,r'⟩:=r.more (u:=u) hD;exact⟨⟨r',gn,r.out hD,s,k.stp s p⟩,s⟩
theorem gC.done{o:VO}{Q:VK}(a:gC K m1 n1 H1 P D u m h H)(hu:tS u)(s1:bO m0 n0 H0 m1 n1 H1)(r1:∀i,i<n1->m1 i≠D)(hD:H1 D=aD)
 (ho:∀m',(∀{v:V}{w:W},aJ K m h.n H v w->aJ K m' (h.n+1) H v w)->eZ K m' (h.n+1) H D o) (k:∀v H' m',bO m0 n0 H0 m' (h.new o).n H'->Rel K m' (h.new o) H'->aJ K m' (h.new o).n H' v (.ref h.n)->Q v H'):Q (.ref D) H:=by
 obtain⟨st,r'⟩:=a.rel.adopt (o:=o) (u:=u) a.out a.at_ hu.1 hu.2 (s1.trans a.stp) (by
  cases z:H0 D with
  |none=>rfl
  |some o=>
   have:=s1.keep D o (λi hi z2=>r1 i (dF hi s1.le) ((s1.same i hi).trans z2)) z;rw[hD]at this;cases this) λ_ mv=>by rw[Sn a.at_]at mv ⊢;exact ho _ mv
 rw[Sn a.at_]at st r';refine k _ _ _ st r' ?_;have:aJ K (λi=>if i=h.n then D else m i) (h.n+1) H (.ref ((λi=>if i=h.n then D else m i) h.n)) (.ref h.n):=.ref (jF _);simp only[dg]at this;exact this
end
noncomputable def Mid{γ:Type}(K:aI)(m1:Nat->ai)(n1:Nat)(H1:Hp)(P:(Nat->ai)->Nat->Hp->Prop)(D:ai)(R:(Nat->ai)->Nat->Hp->HO->γ->Prop)(G:En->VH->γ->Prop)(σ:L2.St)(H:Hp):Prop:=
 ∃ρ h m a u,G ρ h a/\Fr K m h.n H σ ρ/\R m h.n H u a/\gC K m1 n1 H1 P D u m h H
noncomputable def Wk(J:It)(g:TG)(tc:TT)(tm:TM)(Gw:L2.St)(H0:Hp)(Q:L2.St->Hp->Prop):Prop:=
 ∃W:Nat->Nat->L2.St->Hp->Prop,(∃m,W 0 m Gw H0)/\∀i m σ' H',W i m σ' H'->
  ((J.stop i H'/\Q σ' H')\/(J.go i H'/\∀x H2,J.xy i H' x H2->g x σ' H2 λσ2 H3=>tc σ2 H3 λb H4=>
    if b=true then tm σ2 H4 λqk H5=>∃m',m'<m/\W (i+1) m' qk H5
    else ∃m',m'<m/\W (i+1) m' σ2 H4))
noncomputable def Turn{γ:Type}(nx:Nat->VH->Option (Option W))(t:Tg)(fc:FE)(G B:Nat->Nat->En->VH->γ->Prop)(Fin:En->VH->γ->Prop):Prop:=(∀i ρ h a,¬G 0 i ρ h a)/\∀f i ρ h a,G (f+1) i ρ h a->(nx i h=aC aD/\Fin ρ h a)\/
 ∃w ρ' b h',nx i h=aC (aC w)/\bK t w h ρ=aC ρ'/\fc ρ' h=.ok (.bl b) h'/\if b=true then B f (i+1) ρ' h' a else G f (i+1) ρ' h' a
theorem Turn.go{γ:Type}{nx:Nat->VH->Option (Option W)}{t:Tg}{fc:FE}{G B:Nat->Nat->En->VH->γ->Prop}{Fin:En->VH->γ->Prop}(T:Turn nx t fc G B Fin){f i:Nat}{ρ:En}{h:VH}{a:γ}(q:G f i ρ h a):∃o,nx i h=aC o:=by
 cases f with
 |zero=>exact(T.1 _ _ _ _ q).elim
 |succ f=>
  rcases T.2 _ _ _ _ _ q with⟨e,_⟩|⟨w,_,_,_,e,_⟩;exact⟨_,e⟩;exact⟨_,e⟩
theorem Gx{γ:Type}{K:aI}{nx:Nat->VH->Option (Option W)}{t:Tg}{fc:FE}{J:It}{P P1:(Nat->ai)->Nat->Hp->Prop}{m1:Nat->ai}{n1:Nat}{H1 H0:Hp}{D:ai}{R:(Nat->ai)->Nat->Hp->HO->γ->Prop}{tm:TM}{Gw:L2.St}{Q:L2.St->Hp->Prop}{G B:Nat->Nat->En->VH->γ->Prop}{Fin:En->VH->γ->Prop}{f0:Nat}
 (T:Turn nx t fc G B Fin) (JI:je K nx J P1) (kp:Keeps P) (hP:∀m n H,P m n H->P1 m n H) (hR:∀{m n H m' n' H' u a},bO m n H m' n' H'->R m n H u a->R m' n' H' u a) (h0:Mid K m1 n1 H1 P D R (G f0 0) Gw H0)
 (hF:∀σ H,Mid K m1 n1 H1 P D R Fin σ H->Q σ H) (hB:∀f i σ H (Z:L2.St->Hp->Prop),Mid K m1 n1 H1 P D R (B f i) σ H->(∀σ' H',Mid K m1 n1 H1 P D R (G f i) σ' H'->Z σ' H')->tm σ H Z):Wk J (cF K t) (cP K fc) tm Gw H0 Q:=by
 refine⟨λi f=>Mid K m1 n1 H1 P D R (G f i),⟨f0,h0⟩,?_⟩;rintro i f σ H ⟨ρ,h,m,a,u,hg,fr,hr,hh⟩;cases f with
 |zero=>exact(T.1 _ _ _ _ hg).elim
 |succ f=>
  obtain⟨j1,j2⟩:=JI.2 m h H hh.rel (hP _ _ _ hh.inv) i;rcases T.2 _ _ _ _ _ hg with⟨e,q⟩|⟨w,ρ',b,h',e1,e2,e3,q⟩;exact .inl ⟨j2 e,hF _ _ ⟨ρ,h,m,a,u,q,fr,hr,hh⟩⟩;obtain⟨j3,j4⟩:=j1 w e1;refine .inr ⟨j3,λy H2 hy=>?_⟩;obtain⟨s,r,v⟩:=j4 y H2 hy;refine .mk (fr.stp s) r v e2 λσ2 f2=>⟨ρ',h,m,b,h',f2,r,e3,λH3 m3 s3 r3=>?_⟩
  have h3:=(hh.step kp s r).step kp s3 r3;have Gy:=hR s3 (hR s hr);cases b with|true=>exact hB _ _ _ _ _ ⟨ρ',h',m3,a,u,q,f2.stp s3,Gy,h3⟩ λσ' H' z=>⟨f,jF _,z⟩|false=>exact⟨f,jF _,ρ',h',m3,a,u,q,f2.stp s3,Gy,h3⟩
theorem Gz{α γ:Type}{nx:Nat->VH->Option (Option W)}{t:Tg}{fc:FE}{L:Nat->Nat->En->VH->γ->Res α}{b:Nat->Nat->En->VH->γ->Res α}{fin:En->VH->γ->Res α}{a:α}{h2:VH}(h0:∀i ρ h x,L 0 i ρ h x=.no)
 (hs:∀f i ρ h x,L (f+1) i ρ h x=match nx i h with
   |none=>.no
   |some aD=>fin ρ h x
   |some (aC w)=>match bK t w h ρ with
    |none=>.no
    |some ρ=>(fc ρ h).bind λy h=>match y with
     |.bl true=>b f (i+1) ρ h x
     |.bl false=>L f (i+1) ρ h x
     |_=>.no):Turn nx t fc (λf i ρ h x=>L f i ρ h x=.ok a h2) (λf i ρ h x=>b f i ρ h x=.ok a h2) (λρ h x=>fin ρ h x=.ok a h2):=by
 refine⟨λi ρ h x e=>?_,λf i ρ h x e=>?_⟩;have e:L 0 i ρ h x=.ok a h2:=e;rw[h0]at e;cases e;have e:L (f+1) i ρ h x=.ok a h2:=e;rw[hs]at e;split at e;cases e;exact .inl ⟨by assumption,e⟩;rename_i w e1;split at e;cases e;rename_i ρ' e2;refine bJ e λy h' e3 e4=>.inr ?_;split at e4;exact⟨w,ρ',true,h',e1,e2,e3,e4⟩;exact⟨w,ρ',false,h',e1,e2,e3,e4⟩;cases e4
noncomputable def RL(K:aI):(Nat->ai)->Nat->Hp->HO->List W->Prop:=λm n H u a=>∃vs,u=.lst vs/\aG K m n H vs a.reverse
theorem RL.soft{K:aI}{m:Nat->ai}{n:Nat}{H:Hp}{u:HO}{a:List W}(q:RL K m n H u a):tS u:=by obtain⟨vs,rfl,_⟩:=q;exact⟨λ_ z=>(nomatch z),λ_ _ z=>nomatch z⟩
theorem RL.stp{K:aI}{m m':Nat->ai}{n n':Nat}{H H':Hp}{u:HO}{a:List W}(s:bO m n H m' n' H')(q:RL K m n H u a):RL K m' n' H' u a:=let⟨vs,e,r⟩:=q;⟨vs,e,r.stp s⟩
theorem So{K:aI}{m1:Nat->ai}{n1:Nat}{H1:Hp}{P:(Nat->ai)->Nat->Hp->Prop}{D:ai}{fe:FE}{G B:En->VH->List W->Prop}{σ:L2.St}{H:Hp}{Z:L2.St->Hp->Prop}(kp:Keeps P)(hD:H1 D=aD)(hB:∀ρ h a,B ρ h a->∃y h',fe ρ h=.ok y h'/\G ρ h' (y::a)/\a.length<big)
 (h0:Mid K m1 n1 H1 P D (RL K) B σ H) (k:∀σ' H',Mid K m1 n1 H1 P D (RL K) G σ' H'->Z σ' H'):Cc (eK K fe) D σ H Z:=by
 obtain⟨ρ,h,m,a,u,hb,fr,hr,hh⟩:=h0;obtain⟨y,h',e1,e2,e3⟩:=hB _ _ _ hb;refine⟨ρ,h,m,y,h',fr,hh.rel,e1,λv H' m' s r q=>?_⟩;have h3:=hh.step kp s r;have so:=hr.soft;obtain⟨vs,rfl,hv⟩:=hr;refine⟨vs,h3.at_,by rw[hv.length,List.length_reverse];exact e3,?_⟩;obtain⟨h4,mv⟩:=h3.put kp so hD (.lst (vs++[v]));refine k _ _ ⟨ρ,h',m',y::a,_,e2,⟨fr.len,λi w e=>let⟨v,z1,z2⟩:=(fr.stp s).val i w e;⟨v,z1,mv z2⟩⟩,⟨_,rfl,?_⟩,h4⟩;rw[List.reverse_cons];exact((hv.stp s).map mv).append (.cons (mv q) .nil)
theorem Sq{n k l:Nat}(hz:Nat.ble k big)(h1:n+1<=l)(h2:l<=k):n<big:=dF h1 (eS h2 (lR hz))
theorem J4{nx:Nat->VH->Option (Option W)}{tg:W->VH->En->Option En}{c e:FE}:∀{f i:Nat} {ρ:En} {h:VH} {acc ys:List W} {h':VH},i6 nx tg c e f i ρ h acc=.ok ys h'->acc.length<=ys.length
 |0,_,_,_,_,_,_,q=>by cases q
 |f+1,i,ρ,h,acc,ys,h',q=>by
  simp only[i6]at q;split at q;cases q;cases q;simp;split at q;cases q;refine bJ q λb h1 e1 e2=>?_;split at e2;exact bJ e2 λy h2 e3 e4=>zx (J4 e4);exact J4 e2;cases e2
theorem GA{nx:Nat->VH->Option (Option W)}{tg:W->VH->En->Option En}{c e:FE}:∀{f i:Nat} {ρ:En} {h:VH} {acc:List W} {p:En×List W} {h':VH},kR nx tg c e f i ρ h acc=.ok p h'->acc.length<=p.2.length
 |0,_,_,_,_,_,_,q=>by cases q
 |f+1,i,ρ,h,acc,ys,h',q=>by
  simp only[kR]at q;split at q;cases q;cases q;exact aZ _;split at q;cases q;refine bJ q λb h1 e1 e2=>?_;split at e2;exact bJ e2 λy h2 e3 e4=>zx (GA e4);exact GA e2;cases e2
theorem J5{nx:Nat->VH->Option (Option W)}{tg:W->VH->En->Option En}{c:FE}{mj:En->VH->List W->Res (En×List W)}(hi:∀{ρ h acc p h'},mj ρ h acc=.ok p h'->acc.length<=p.2.length):∀{f i:Nat} {ρ:En} {h:VH} {acc ys:List W} {h':VH},m9 nx tg c mj f i ρ h acc=.ok ys h'->acc.length<=ys.length
 |0,_,_,_,_,_,_,q=>by cases q
 |f+1,i,ρ,h,acc,ys,h',q=>by
  simp only[m9]at q;split at q;cases q;cases q;simp;split at q;cases q;refine bJ q λb h1 e1 e2=>?_;split at e2;exact bJ e2 λy h2 e3 e4=>eS (hi e3) (J5 hi e4);exact J5 hi e2;cases e2
noncomputable abbrev J6(kd:Kd)(fa:FE)(t:Tg)(ow:Nat)(ix:List Nat)(fc fe:FE):FE:=λρ h=>(fa ρ h).bind λx h=>(i6 (aU kd x) (bK t) fc fe fuel 0 (inner ow ix ρ) h []).bind λys h=>if Nat.ble ys.length big then .ok (.ref h.n) (h.new (.lst ys))else .no
theorem Ss{K:aI}{m0 m1:Nat->ai}{n0 n1:Nat}{H0 H1:Hp}{P:(Nat->ai)->Nat->Hp->Prop}{D:ai}{ys:List W}{h2:VH}{Q:VK}(s1:bO m0 n0 H0 m1 n1 H1)(r1:∀i,i<n1->m1 i≠D)(hD:H1 D=aD)(k:∀v H' m',bO m0 n0 H0 m' (h2.new (.lst ys)).n H'->Rel K m' (h2.new (.lst ys)) H'->aJ K m' (h2.new (.lst ys)).n H' v (.ref h2.n)->Q v H'){σ:L2.St}{H:Hp}(q:Mid K m1 n1 H1 P D (RL K) (λ(_:En) h a=>Res.ok a.reverse h=.ok ys h2) σ H):Q (.ref D) H:=by obtain⟨ρ,h,m,a,u,e,fr,hr,hh⟩:=q;cases e;have so:=hr.soft;obtain⟨vs,rfl,hv⟩:=hr;exact hh.done (o:=.lst _) so s1 r1 hD (λm' mv=>⟨_,hh.at_,hv.map mv⟩) k
theorem vh{K:aI}{kd:Kd}{t:Tg}{ow fr:List Str}{ix:List Nat}{fe:FE}{σ:L2.St}{H:Hp}{Q:VK}(q:eK K (J6 kd fa t ow.length ix fc fe) σ H Q):BW K (l5 ow fr ix) (bY K kd fa) (cF K t) (cP K fc) (Cc (eK K fe)) (.lst []) σ H Q:=by
 refine q.el λρ h m w h' f r e k=>?_;refine bJ e λx h1 e1 e2=>?_;refine bJ e2 λys h2 e3 e4=>?_;split at e4
 case isFalse=>cases e4
 rename_i hz;cases e4;have T:Turn (aU kd x) t fc _ _ _:=Gz (L:=i6 (aU kd x) (bK t) fc fe) (b:=λf i ρ h a=>(fe ρ h).bind λy h=>i6 (aU kd x) (bK t) fc fe f i ρ h (y::a)) (fin:=λ_ h a=>.ok a.reverse h) (a:=ys) (h2:=h2) (λ_ _ _ _=>rfl) λ_ _ _ _ _=>rfl;refine .mk f r e1 (T.go e3) λJ P H1 m1 s1 r1 J1 p1 D hD hK=>?_;obtain⟨hs,pA⟩:=gC.start r1 hD J1.1 p1 (.lst []);exact Gx (R:=RL K) T J1 J1.1 (λ_ _ _ z=>z) RL.stp ⟨_,_,_,[],_,e3,J0 ((f.stp s1).stp pA),⟨[],rfl,.nil⟩,hs⟩ (λ_ _ z=>Ss s1 (r1.out hD) hD k z) λf i σ H Z z kz=>So J1.1 hD (λρ h a e=>bJ e λy h' e5 e6=>⟨y,h',e5,e6,Sq hz (J4 e6) (aZ _)⟩) z kz
noncomputable abbrev ye(kd:Kd)(fa:FE)(t:Tg)(ow:Nat)(ix:List Nat)(fc:FE)(iE:Kd)(qx:FE)(t2:Tg)(ng fe:FE):FE:=λρ h=>(fa ρ h).bind λx h=>(m9 (aU kd x) (bK t) fc (λρ h acc=>(qx ρ h).bind λy h=>kR (aU iE y) (bK t2) ng fe fuel 0 ρ h acc) fuel 0 (inner ow ix ρ) h []).bind λys h=>if Nat.ble ys.length big then .ok (.ref h.n) (h.new (.lst ys))else .no
theorem Su{K:aI}{kd iE:Kd}{t t2:Tg}{ow fr:List Str}{ix:List Nat}{qx ng fe:FE}{σ:L2.St}{H:Hp}{Q:VK}(q:eK K (ye kd fa t ow.length ix fc iE qx t2 ng fe) σ H Q) :
 BW K (l5 ow fr ix) (bY K kd fa) (cF K t) (cP K fc) (λD=>RI (bY K iE qx) (cF K t2) (cP K ng) (Cc (eK K fe) D)) (.lst []) σ H Q:=by
 refine q.el λρ h m w h' f r e k=>?_;refine bJ e λx h1 e1 e2=>?_;refine bJ e2 λys h2 e3 e4=>?_;split at e4
 case isFalse=>cases e4
 rename_i hz;cases e4;generalize hin:(λρ h acc=>(qx ρ h).bind λy h=>kR (aU iE y) (bK t2) ng fe fuel 0 ρ h acc)=mj at e3;have il:∀{ρ h acc p h'},mj ρ h acc=.ok p h'->acc.length<=p.2.length:=λq=>by
  subst hin;exact bJ q λy h1 e1 e2=>GA e2
 have T:Turn (aU kd x) t fc _ _ _:=Gz (L:=m9 (aU kd x) (bK t) fc mj) (b:=λf i ρ h a=>(mj ρ h a).bind λp h=>m9 (aU kd x) (bK t) fc mj f i p.1 h p.2) (fin:=λ_ h a=>.ok a.reverse h) (a:=ys) (h2:=h2) (λ_ _ _ _=>rfl) λ_ _ _ _ _=>rfl;refine .mk f r e1 (T.go e3) λJ P H1 m1 s1 r1 J1 p1 D hD hK=>?_;obtain⟨hs,pA⟩:=gC.start r1 hD J1.1 p1 (.lst []);refine Gx (R:=RL K) T J1 J1.1 (λ_ _ _ z=>z) RL.stp ⟨_,_,_,[],_,e3,J0 ((f.stp s1).stp pA),⟨[],rfl,.nil⟩,hs⟩ (λ_ _ z=>Ss s1 (r1.out hD) hD k z) λf i σ H Z z kz=>?_;obtain⟨yf,h3,m3,a3,u3,e5,nV,Gy,tK⟩:=z;refine bJ e5 λp h9 e6 e7=>?_;subst hin;refine bJ e6 λy h4 e8 e9=>?_;have T2:Turn (aU iE y) t2 ng _ _ _:=Gz (L:=kR (aU iE y) (bK t2) ng fe) (b:=λf i ρ h a=>(fe ρ h).bind λz h=>kR (aU iE y) (bK t2) ng fe f i ρ h (z::a)) (fin:=λρ h a=>.ok (ρ,a) h) (a:=p) (h2:=h9) (λ_ _ _ _=>rfl) λ_ _ _ _ _=>rfl;refine .mk nV tK.rel e8 (T2.go e9) λJ2 P2 H8 m8 s8 r8 Sv p8=>?_;have h8:=tK.step J1.1 s8 r8;have kp:Keeps λm n H=>P m n H/\P2 m n H:=λm n H m' n' H' a b c d z=>⟨J1.1 m n H m' n' H' a b c d z.1,Sv.1 m n H m' n' H' a b c d z.2⟩
 refine Gx (R:=RL K) T2 Sv kp (λ_ _ _ z=>z.2) RL.stp ⟨_,_,_,_,_,e9,nV.stp s8,Gy.stp s8,⟨h8.rel,h8.at_,h8.out,h8.stp,h8.inv,p8⟩⟩ (λσ H z=>?_) λf i σ H Z z kz=>So kp hD (λρ h a e=>bJ e λy h' e5 e6=>⟨y,h',e5,e6,Sq hz (GA e6) (J5 il e7)⟩) z kz;obtain⟨Sw,ha,ma,aa,ua,ea,fa,ra,CH⟩:=z;cases ea;exact kz _ _ ⟨Sw,_,ma,aa,ua,e7,fa,ra,⟨CH.rel,CH.at_,CH.out,CH.stp,CH.inv.1⟩⟩
noncomputable abbrev J7(kd:Kd)(fa:FE)(t:Tg)(ow:Nat)(ix:List Nat)(fc fe fv:FE):FE:=λρ h=>(fa ρ h).bind λx h=>(kT (aU kd x) (bK t) fc fe fv fuel 0 (inner ow ix ρ) h []).bind λkvs h=>.ok (.ref h.n) (h.new (.dm kvs))
noncomputable def RD(K:aI):(Nat->ai)->Nat->Hp->HO->List (Key×W)->Prop:=λm n H u a=>∃vs,u=.dK vs/\aM K m n H vs a
theorem vj{K:aI}{kd:Kd}{t:Tg}{ow fr:List Str}{ix:List Nat}{fe fv:FE}{σ:L2.St}{H:Hp}{Q:VK}(q:eK K (J7 kd fa t ow.length ix fc fe fv) σ H Q):BW K (l5 ow fr ix) (bY K kd fa) (cF K t) (cP K fc) (RG (eK K fe) (eK K fv)) (.dK []) σ H Q:=by
 refine q.el λρ h m w h' f r e k=>?_;refine bJ e λx h1 e1 e2=>?_;refine bJ e2 λys h2 e3 e4=>?_;cases e4;have T:Turn (aU kd x) t fc _ _ _:=Gz (L:=kT (aU kd x) (bK t) fc fe fv) (b:=λf i ρ h a=>(fe ρ h).bind λu h=>(fv ρ h).bind λy h=>(match l8 u with|some k=>if Nat.blt a.length big then kT (aU kd x) (bK t) fc fe fv f i ρ h (bx a k y)else .no|none=>.no)) (fin:=λ_ h a=>.ok a h) (a:=ys) (h2:=h2) (λ_ _ _ _=>rfl) λ_ _ _ _ _=>rfl
 refine .mk f r e1 (T.go e3) λJ P H1 m1 s1 r1 J1 p1 D hD hK=>?_;have soft:∀{vs:List (Key×V)},tS (.dK vs):=⟨λ_ z=>(nomatch z),λ_ _ z=>nomatch z⟩
 obtain⟨hs,pA⟩:=gC.start r1 hD J1.1 p1 (.dK []);refine Gx (R:=RD K) T J1 J1.1 (λ_ _ _ z=>z) (λs q=>let⟨vs,e,r⟩:=q;⟨vs,e,r.stp s⟩) ⟨_,_,_,[],_,e3,J0 ((f.stp s1).stp pA),⟨[],rfl,.nil⟩,hs⟩ (λσ H z=>?_) λf i σ H Z z kz=>?_;obtain⟨Sw,ha,ma,aa,ua,ea,fa,⟨vs,rfl,hv⟩,hh⟩:=z;cases ea;exact hh.done (o:=.dm _) soft s1 (r1.out hD) hD (λm' mv=>⟨_,hh.at_,hv.map mv⟩) k
 .obtain⟨yf,h3,m3,a3,u3,e5,nV,⟨vs,rfl,hv⟩,tK⟩:=z
  refine bJ e5 λy7 h7 e6 e7=>?_;refine bJ e7 λy8 h8 e8 e9=>?_;refine⟨yf,h3,m3,y7,h7,nV,tK.rel,e6,λv7 H7 m7 s7 r7 q7=>⟨yf,h7,m7,y8,h8,nV.stp s7,r7,e8,λv8 H8 m8 s8 r8 q8=>?_⟩⟩;split at e9
  case h_2=>cases e9
  rename_i kk hk;split at e9
  case isFalse=>cases e9
  rename_i hz;have J8:=s7.trans s8;have h5:=tK.step J1.1 J8 r8;have Sx:=hv.stp J8;obtain⟨h6,mv⟩:=h5.put J1.1 soft hD (.dK (putK vs kk v8));exact⟨vs,kk,h5.at_,zW (q7.stp s8) hk,by rw[Sx.length];exact gA.mp hz,kz _ _ ⟨yf,h8,m8,bx a3 kk y8,_,e9,⟨nV.len,λi w e=>let⟨v,z1,z2⟩:=(nV.stp J8).val i w e;⟨v,z1,mv z2⟩⟩,⟨_,rfl,(Sx.put q8 kk).map mv⟩,h6⟩⟩
end
noncomputable def fL(h h':VH):Prop:=h.n<=h'.n/\h'.lo<=h.lo/\∀i,i<h.n->i<h'.lo->h'.get i=h.get i
theorem fL.refl{h:VH}:fL h h:=⟨aZ _,aZ _,λ_ _ _=>rfl⟩
theorem fL.trans{h h1 h2:VH}(a:fL h h1)(b:fL h1 h2):fL h h2:=⟨eS a.1 b.1,eS b.2.1 a.2.1,λi hi hl=>(b.2.2 i (dF hi a.1) hl).trans (a.2.2 i hi (dF hl b.2.1))⟩
theorem fL.new{h:VH}{o:VO}:fL h (h.new o):=⟨o8 _,aZ _,λi hi _=>iD hi⟩
theorem fL.set{h:VH}{i:Nat}{o:VO}(hi:i<h.n):fL h (h.set i o):=by refine⟨aZ _,?_,λj hj hl=>rZ hi ?_⟩;show(if Nat.blt i h.lo then i else h.lo)<=h.lo;split;rename_i q;exact sR (gA.mp q);exact aZ _;have hl:j< (if Nat.blt i h.lo then i else h.lo):=hl;split at hl;lia;rename_i q;intro z;rw[z]at hl;exact q (gA.mpr hl)
noncomputable def Gr{α:Type}(r:Res α)(h:VH):Prop:=∀a h',r=.ok a h'->fL h h'
section
variable{α β:Type}{h:VH}
theorem Gr.ok{a:α}:Gr (Res.ok a h) h:=λ_ _ e=>by cases e;exact .refl
theorem Gr.no:Gr (Res.no:Res α) h:=λ_ _ e=>by cases e
theorem Gr.of{o:Option α}:Gr (Res.of o h) h:=λ_ _ e=>by cases o with|none=>cases e|some a=>cases e;exact .refl
theorem Gr.new{a:α}{o:VO}:Gr (Res.ok a (h.new o)) h:=λ_ _ e=>by cases e;exact .new
theorem Gr.set{a:α}{o o':VO}{i:Nat}(g:h.get i=aC o'):Gr (Res.ok a (h.set i o)) h:=λ_ _ e=>by cases e;exact .set (bV g)
theorem Gr.bind{r:Res α}{f:α->VH->Res β}(a:Gr r h)(b:∀x h1,Gr (f x h1) h1):Gr (r.bind f) h:=λy h' e=>by
 cases r with|ok x h1=>exact(a x h1 rfl).trans (b x h1 y h' e)|ex _ _=>cases e|no=>cases e
end
theorem CI{o:Op}{x y:W}{h:VH}:Gr (iN o x y h) h:=by unfold iN;split;exact .of;exact .of;exact .of;split;split;exact .new;exact .no;exact .no;exact .no
theorem CJ{o:Op}{x y:W}{h:VH}:Gr (xW o x y h) h:=by unfold xW;split;split;exact .ok;exact .ok;exact .of;exact .of;exact .no;split;split;rename_i g _ _;exact .set g;exact .no;exact .no;split;split;exact .ok;exact .no;exact .no;exact .no
theorem zyr{x:W}{l u:Option Int}{h:VH}:Gr (kO x l u h) h:=by unfold kO;split;exact .ok;split;exact .new;exact .no;exact .no
theorem CL{b:Bi}{xs:List W}{h:VH}:Gr (pq b xs h) h:=by
 cases b<;>simp only[pq];unfold jv;split<;>first|exact .of|exact .no
 unfold kP;split;split;exact .new;exact .no;exact .no;unfold xX;split<;>first|exact .of|exact .no
 unfold qp;split<;>first|exact .ok|exact .no
 unfold l9;split<;>first|exact .ok|exact .no
 unfold oB;split;exact .ok;split;split;exact .ok;exact .no;exact .no;exact .no;unfold kQ;split;split;exact .of;exact .no;exact .no;unfold vg;split;split;exact .new;exact .no;exact .no;unfold xY;split;exact .new;exact .no;unfold oE;split;split;rename_i g;exact .set g;exact .no;exact .no;unfold oF;split;split;split;exact .new;exact .no;exact .no;exact .no
theorem CM{m:Mt}{o:W}{xs:List W}{h:VH}:Gr (lG m o xs h) h:=by unfold lG;split;unfold qq;split;split;exact .no;split;rename_i g _ _ _;exact .set g;exact .no;exact .no;split;split;rename_i g _;exact .set g;exact .no;exact .no;split;exact .ok;exact .ok;exact .no;exact .no
theorem J9{nx:Nat->VH->Option (Option W)}{tg:W->VH->En->Option En}{c e:En->VH->Res W}(hc:∀ρ h,Gr (c ρ h) h)(he:∀ρ h,Gr (e ρ h) h):∀(f i:Nat) (ρ:En) (h:VH) (acc:List W),Gr (kR nx tg c e f i ρ h acc) h
 |0,_,_,_,_=>.no
 |f+1,i,ρ,h,acc=>by
  simp only[kR];split;exact .no;exact .ok;split;exact .no;refine .bind (hc _ _) λb h1=>?_;split;exact .bind (he _ _) λy h2=>J9 hc he f _ _ _ _;exact J9 hc he f _ _ _ _;exact .no
theorem J'{nx:Nat->VH->Option (Option W)}{tg:W->VH->En->Option En}{c:En->VH->Res W}{e:En->VH->List W->Res (En×List W)}(hc:∀ρ h,Gr (c ρ h) h)(he:∀ρ h acc,Gr (e ρ h acc) h):∀(f i:Nat) (ρ:En) (h:VH) (acc:List W),Gr (m9 nx tg c e f i ρ h acc) h
 |0,_,_,_,_=>.no
 |f+1,i,ρ,h,acc=>by
  simp only[m9];split;exact .no;exact .ok;split;exact .no;refine .bind (hc _ _) λb h1=>?_;split;exact .bind (he _ _ _) λy h2=>J' hc he f _ _ _ _;exact J' hc he f _ _ _ _;exact .no
theorem qy{nx:Nat->VH->Option (Option W)}{tg:W->VH->En->Option En}{c e:En->VH->Res W}(hc:∀ρ h,Gr (c ρ h) h)(he:∀ρ h,Gr (e ρ h) h):∀(f i:Nat) (ρ:En) (h:VH) (acc:List W),Gr (i6 nx tg c e f i ρ h acc) h
 |0,_,_,_,_=>.no
 |f+1,i,ρ,h,acc=>by
  simp only[i6];split;exact .no;exact .ok;split;exact .no;refine .bind (hc _ _) λb h1=>?_;split;exact .bind (he _ _) λy h2=>qy hc he f _ _ _ _;exact qy hc he f _ _ _ _;exact .no
theorem qz{nx:Nat->VH->Option (Option W)}{tg:W->VH->En->Option En}{c e v:En->VH->Res W}(hc:∀ρ h,Gr (c ρ h) h)(he:∀ρ h,Gr (e ρ h) h)(hv:∀ρ h,Gr (v ρ h) h):∀(f i:Nat) (ρ:En) (h:VH) (acc:List (L2.Key×W)),Gr (kT nx tg c e v f i ρ h acc) h
 |0,_,_,_,_=>.no
 |f+1,i,ρ,h,acc=>by
  simp only[kT];split;exact .no;exact .ok;split;exact .no;refine .bind (hc _ _) λb h1=>?_;split;refine .bind (he _ _) λy h2=>.bind (hv _ _) λz h3=>?_;split;split;exact qz hc he hv f _ _ _ _;exact .no;exact .no;exact qz hc he hv f _ _ _ _;exact .no
theorem Ka{nx:Nat->VH->Option (Option W)}{tg:W->VH->En->Option En}{b:En->VH->Res Fl}(hb:∀ρ h,Gr (b ρ h) h):∀(f i:Nat) (ρ:En) (h:VH),Gr (eg nx tg b f i ρ h) h
 |0,_,_,_=>.no
 |f+1,i,ρ,h=>by
  simp only[eg];split;exact .no;exact .ok;split;exact .no;refine .bind (hb _ _) λfl h1=>?_;split;exact Ka hb f _ _ _;exact Ka hb f _ _ _;exact .ok;exact .ok
theorem Kc{c:En->VH->Res W}{b:En->VH->Res Fl}(hc:∀ρ h,Gr (c ρ h) h)(hb:∀ρ h,Gr (b ρ h) h):∀(f:Nat) (ρ:En) (h:VH),Gr (dR c b f ρ h) h
 |0,_,_=>.no
 |f+1,ρ,h=>by
  simp only[dR];refine .bind (hc _ _) λt h1=>?_;split;exact .ok;refine .bind (hb _ _) λfl h2=>?_;split;exact Kc hc hb f _ _;exact Kc hc hb f _ _;exact .ok;exact .ok;exact .no
section
variable{cl:Call}
theorem CN(hcl:∀f ws h,Gr (cl f ws h) h):∀(e:E) (ρ:En) (h:VH),Gr (ev cl e ρ h) h:=by
 intro e;induction e with
 |var i=>intro ρ h;exact .of
 |cst w=>intro ρ h;exact .ok
 |nil=>intro ρ h;exact .ok
 |cons a r i1 i2=>intro ρ h;simp only[ev];refine .bind (i1 _ _) λx h1=>.bind (i2 _ _) λy h2=>?_;split<;>first|exact .ok|exact .no
 |tup a i1=>intro ρ h;simp only[ev];refine .bind (i1 _ _) λx h1=>?_;split<;>first|(split<;>first|exact .ok|exact .no)|exact .no
 |lst a i1=>intro ρ h;simp only[ev];refine .bind (i1 _ _) λx h1=>?_;split<;>first|(split<;>first|exact .new|exact .no)|exact .no
 |xS a i1=>
  intro ρ h;simp only[ev];refine .bind (i1 _ _) λx h1=>?_;split;split;split;exact .new;exact .no;exact .no;exact .no
 |op o a b i1 i2=>intro ρ h;simp only[ev];exact .bind (i1 _ _) λx h1=>.bind (i2 _ _) λy h2=>CI
 |neg a i1=>intro ρ h;simp only[ev];refine .bind (i1 _ _) λx h1=>?_;split<;>first|exact .ok|exact .no
 |cmp c a b i1 i2=>intro ρ h;simp only[ev];exact .bind (i1 _ _) λx h1=>.bind (i2 _ _) λy h2=>.of
 |xT c d a b e i1 i2 i3=>
  intro ρ h;simp only[ev];refine .bind (i1 _ _) λx h1=>.bind (i2 _ _) λy h2=>?_;split;exact .bind (i3 _ _) λz h3=>.of;exact .ok;exact .no
 |not a i1=>intro ρ h;simp only[ev];refine .bind (i1 _ _) λx h1=>?_;split<;>first|exact .ok|exact .no
 |and a b i1 i2=>intro ρ h;simp only[ev];refine .bind (i1 _ _) λx h1=>?_;split<;>first|exact i2 _ _|exact .ok|exact .no
 |or a b i1 i2=>intro ρ h;simp only[ev];refine .bind (i1 _ _) λx h1=>?_;split<;>first|exact i2 _ _|exact .ok|exact .no
 |ou a i1=>intro ρ h;simp only[ev];exact .bind (i1 _ _) λx h1=>.of
 |ite c a b i1 i2 i3=>
  intro ρ h;simp only[ev];refine .bind (i1 _ _) λx h1=>?_;split;exact i2 _ _;exact i3 _ _;exact .no
 |idx a b i1 i2=>intro ρ h;simp only[ev];exact .bind (i1 _ _) λx h1=>.bind (i2 _ _) λy h2=>.of
 |slc a bl lo bh hi i1 i2 i3=>
  intro ρ h;simp only[ev];refine .bind (i1 _ _) λx h1=>.bind (i2 _ _) λy h2=>.bind (i3 _ _) λz h3=>?_;split;exact zyr;exact .no
 |call f a i1=>intro ρ h;simp only[ev];refine .bind (i1 _ _) λx h1=>?_;split<;>first|exact hcl _ _ _|exact .no
 |bi b a i1=>intro ρ h;simp only[ev];refine .bind (i1 _ _) λx h1=>?_;split<;>first|exact CL|exact .no
 |rW t a i1=>intro ρ h;simp only[ev];exact .bind (i1 _ _) λx h1=>.of
 |mt m o a i1 i2=>
  intro ρ h;simp only[ev];refine .bind (i1 _ _) λx h1=>?_;split;refine .bind (i2 _ _) λy h2=>?_;split<;>first|exact CM|exact .no
  exact .no
 |lc k a t ow ix c e i1 i2 i3=>
  intro ρ h;simp only[ev];refine .bind (i1 _ _) λx h1=>.bind (qy i2 i3 _ _ _ _ _) λys h2=>?_;split;exact .new;exact .no
 |zR k a t ow ix c k2 a2 t2 c2 e i1 i2 i3 i4 i5=>
  intro ρ h;simp only[ev];refine .bind (i1 _ _) λx h1=>.bind (J' i2 (λρ h acc=>.bind (i3 _ _) λy h2=>J9 i4 i5 _ _ _ _ _) _ _ _ _ _) λys h2=>?_;split;exact .new;exact .no
 |dc k a t ow ix c e v i1 i2 i3 i4=>
  intro ρ h;simp only[ev];exact .bind (i1 _ _) λx h1=>.bind (qz i2 i3 i4 _ _ _ _ _) λys h2=>.new
theorem CO(hcl:∀f ws h,Gr (cl f ws h) h):∀(s:S) (ρ:En) (h:VH),Gr (exs cl s ρ h) h:=by
 have ge:=CN hcl;intro s;induction s with
 |skip=>intro ρ h;exact .ok
 |seq a b i1 i2=>intro ρ h;simp only[exs];refine .bind (i1 _ _) λfl h1=>?_;split<;>first|exact i2 _ _|exact .ok
 |set i e=>intro ρ h;simp only[exs];exact .bind (ge _ _ _) λw h1=>.ok
 |xU is e=>intro ρ h;simp only[exs];exact .bind (ge _ _ _) λw h1=>.of
 |aug i o e=>
  intro ρ h;simp only[exs];split;exact .bind (ge _ _ _) λy h1=>.bind CJ λz h2=>.ok;exact .no
 |put o i v=>
  intro ρ h;simp only[exs];refine .bind (ge _ _ _) λw h1=>.bind (ge _ _ _) λx h2=>.bind (ge _ _ _) λy h3=>?_;split;split;split;rename_i g _ _ _;exact .set g;exact .no;unfold oG;split;split;rename_i g _;exact .set g;exact .no;exact .no;exact .no
 |ite c a b i1 i2=>
  intro ρ h;simp only[exs];refine .bind (ge _ _ _) λx h1=>?_;split;exact i1 _ _;exact i2 _ _;exact .no
 |ret e=>intro ρ h;simp only[exs];exact .bind (ge _ _ _) λw h1=>.ok
 |expr e=>intro ρ h;simp only[exs];exact .bind (ge _ _ _) λw h1=>.ok
 |brk=>intro ρ h;exact .ok
 |cnt=>intro ρ h;exact .ok
 | «for» k a t b i1=>intro ρ h;simp only[exs];exact .bind (ge _ _ _) λx h1=>Ka i1 _ _ _ _
 |xV c b i1=>intro ρ h;simp only[exs];exact Kc (ge c) i1 _ _ _
 |oz v f a tb=>
  intro ρ h;simp only[exs];refine .bind (ge _ _ _) λy h1=>?_;split;refine .bind (hcl _ _ _) λw h2=>?_;unfold tQ;split;exact .ok;split;exact .ok;exact .no;exact .no;exact .no
 |no=>intro ρ h;exact .no
end
theorem CP(F:Nat->Option Fn):∀(k f:Nat) (ws:List W) (h:VH),Gr (run F k f ws h) h
 |0,_,_,_=>.no
 |k+1,f,ws,h=>by
  intro a h' e;simp only[run]at e;split at e;rename_i fn hf;split at e;rename_i hl;generalize hr:exs (run F k) fn.body (ws.map aC++bN (fn.n-fn.ps) aD) ⟨h.n,h.n,h.os⟩=r at e;have g:=CO (CP F k) fn.body (ws.map aC++bN (fn.n-fn.ps) aD) ⟨h.n,h.n,h.os⟩;rw[hr]at g;have lv:∀w h1,fL ⟨h.n,h.n,h.os⟩ h1->leave h w h1=.ok a h'->fL h h':=by
   intro w h1 g1 e1;unfold leave at e1;split at e1;cases e1;exact .refl;cases e1;refine⟨g1.1,?_,λi hi hlo=>?_⟩;show(if Nat.ble h.lo h1.lo then h.lo else h1.lo)<=h.lo;split;exact aZ _;rename_i q;exact Nat.le_of_not_le λz=>q (pR.mpr z);have hlo:i< (if Nat.ble h.lo h1.lo then h.lo else h1.lo):=hlo;have hh:i<h1.lo:=by split at hlo;rename_i q;exact dF hlo (lR q);exact hlo
   exact g1.2.2 i hi hh
  cases r with
  |no=>cases e
  |ex _ _=>cases e
  |ok fl h1=>
   have g1:=g fl h1 rfl;simp only[Res.bind]at e;split at e;exact lv _ _ g1 e;exact lv _ _ g1 e;cases e
  cases e;cases e
end RF
namespace HT
open PySem PySem.Spec PyProof.Rows
theorem qA{prog:aj}{w:ak}{A:ao}{E:af->ah->Prop}{s:ah}{t b:ai}{vs ws:List af}{Q:af->ah->Prop}(ht:IsTup s.heap t vs.toArray)(hb:IsTup s.heap b ws.toArray)(hv:vs≠[])
 (h1:ws=[]->Q (.ref t) s) (h2:ws≠[]->Q (.ref s.heap.objs.size) {s with heap:=s.heap.push {cls:=.type "tuple",data:=.seq (vs++ws).toArray}})
 (hsz:vs.length+ws.length<=sizeLine):wpAny (model prog w) A (inplaceOp .Add (.ref t) (.ref b)) Q E s:=by
 obtain⟨⟨cls,dd,data,sl⟩,ho,hc,n,hd⟩:=id ht;obtain⟨⟨IU,dd2,data2,sl2⟩,ho2,hc2,n2,hd2⟩:=id hb;simp only at hc hd hc2 hd2;subst hc hd hc2 hd2;have e:vs.toArray++ws.toArray=(vs++ws).toArray:=by simp
 have hno:typeLookup (.type "tuple") (dunderI "add")=pure aD:=by rfl
 by_cases hw:ws=[]
 exact wpAny_inplaceOp_concat ⟨_,ho,rfl⟩ ⟨_,ho2,rfl⟩ hno AB AE (rM AV ⟨_,ho,rfl⟩ AU (AS _ _)
  (tuple_addW1 t b vs.toArray ws.toArray n n2 dd dd2 sl sl2 (by simpa using hv) (by simp[hw])) ⟨ho,ho2,h1 hw⟩)
 refine wpAny_inplaceOp_concat ⟨_,ho,rfl⟩ ⟨_,ho2,rfl⟩ hno AB AE (rM AV ⟨_,ho,rfl⟩ AU (AS _ _)
  (tuple_addW2 t b vs.toArray ws.toArray n n2 dd dd2 sl sl2 (by simpa using hv) (by simpa using hw) (by rw[eG,eG];exact hsz)) ⟨ho,ho2,?_⟩)
 rw[e];exact h2 hw
end HT
namespace L2
open PySem PySem.Spec PyProof.Rows
variable{X:Cx}
theorem zuq:zL X .Add (mV X.K):=by intro pins s σ H x y v u Q I rx ry h;obtain⟨a,b,xs,ys,rfl,rfl,ha,hb,hx,hz,q1,q2⟩:=h;cases rx;cases ry;obtain⟨its,r1,p1,_⟩:=I.tuple ha;obtain⟨its2,r2,p2,_⟩:=I.tuple hb;refine HT.qA p1 p2 (λz=>hx (r1.fE.mp z)) (λz=>⟨.ref a,H,I,rfl,q1 (r2.fE.mp z)⟩) (λz=>?_) (by rw[<-r1.length,<-r2.length];exact hz);refine⟨.ref s.heap.objs.size,_,I.laid (t':=s.toks) (o:=.tup (xs++ys)) (λb ob q=>cH _ q) (aZ _) ?_,rfl,q2 (λw=>z (r2.fE.mpr w)) _ (I.hok.fresh (aZ _))⟩;exact⟨by rw[fC];exact hz,_,r1.append r2,lV.new _ _⟩
end L2
namespace RF
open PySem PySem.Spec PyProof.Rows L2
noncomputable abbrev tT:=(Nat->ai)->Nat->Hp->VK->W->Prop
noncomputable abbrev Rr(K:aI):tT:=λm n H Q w=>∀v,aJ K m n H v w->Q v H
noncomputable def yg(K:aI)(R:tT)(m:Nat->ai)(n:Nat)(H:Hp)(D:Ends):Fl->Prop|.nx ρ=>∀σ,Fr K m n H σ ρ->D.nx σ H|.bk ρ=>∀σ,Fr K m n H σ ρ->D.bk σ H|.ct ρ=>∀σ,Fr K m n H σ ρ->D.ct σ H|.rt w=>R m n H D.rt w
noncomputable def jY(K:aI)(R:tT)(f:FS):TS:=λD σ H=>∃ρ h m fl h',Fr K m h.n H σ ρ/\Rel K m h H/\f ρ h=.ok fl h'/\∀H' m',bO m h.n H m' h'.n H'->Rel K m' h' H'->yg K R m' h'.n H' D fl
theorem jY.el{K:aI}{R:tT}{D:Ends}{σ:L2.St}{H:Hp}{P:Prop}{fa:FS}(q:jY K R fa D σ H)(k:∀ρ h m fl h',Fr K m h.n H σ ρ->Rel K m h H->fa ρ h=.ok fl h'->(∀H' m',bO m h.n H m' h'.n H'->Rel K m' h' H'->yg K R m' h'.n H' D fl)->P):P:=by obtain⟨ρ,h,m,w,h',f,r,e,k'⟩:=q;exact k ρ h m w h' f r e k'
theorem jY.mk{K:aI}{R:tT}{D:Ends}{σ:L2.St}{H:Hp}{m:Nat->ai}{ρ:En}{h h':VH}{fl:Fl}{fa:FS}(f:Fr K m h.n H σ ρ)(r:Rel K m h H)(e:fa ρ h=.ok fl h')(k:∀H' m',bO m h.n H m' h'.n H'->Rel K m' h' H'->yg K R m' h'.n H' D fl):jY K R fa D σ H:=⟨ρ,h,m,fl,h',f,r,e,k⟩
noncomputable abbrev SR(X:Cx)(R:tT)(st:au)(f:FS):Prop:=PS X st (jY X.K R f)
noncomputable abbrev vm(X:Cx)(R:tT)(st:List au)(f:FS):Prop:=gU X st (jY X.K R f)
noncomputable abbrev SS(X:Cx)(st:au)(f:FS):Prop:=SR X (Rr X.K) st f
noncomputable abbrev Ke(X:Cx)(st:List au)(f:FS):Prop:=vm X (Rr X.K) st f
section
variable{X:Cx}{a b c e o:aq}{es:List aq}{fa fb fc fo fr:FE}{pos p:Pos}{x:Str}{st:au}{sts:List au}{ga gb:FS}{R:tT}
noncomputable abbrev vn:FS:=λρ h=>.ok (.nx ρ) h
noncomputable abbrev Kf(ga gb:FS):FS:=λρ h=>(ga ρ h).bind λfl h=>match fl with|.nx ρ=>gb ρ h|fl=>.ok fl h
theorem Sy:vm X R [] vn:=Qk.imp λD σ H z9=>z9.el λρ h m fl h' f r e k=>by cases e;exact k H m .refl r σ f
theorem zur:SS X (.Pass pos) vn:=V9.imp λD σ H z9=>z9.el λρ h m fl h' f r e k=>by cases e;exact k H m .refl r σ f
theorem zys:SS X (.Break pos) (λρ h=>.ok (.bk ρ) h):=Wa.imp λD σ H z9=>z9.el λρ h m fl h' f r e k=>by cases e;exact k H m .refl r σ f
theorem zyt:SS X (.Continue pos) (λρ h=>.ok (.ct ρ) h):=Wb.imp λD σ H z9=>z9.el λρ h m fl h' f r e k=>by cases e;exact k H m .refl r σ f
theorem Sz(h1:SR X R st ga)(h2:vm X R sts gb):vm X R (st::sts) (Kf ga gb):=(Iu h1 h2).imp λD σ H z9=>z9.el λρ h m fl h' f r e k=>by
 refine bJ e λoJ h1 e1 e2=>?_;refine(.mk f r e1 λH1 m1 s1 r1=>?_);cases oJ with|nx ez=>exact λσ1 f1=>⟨ez,h1,m1,fl,h',f1,r1,e2,λH' m' s' r'=>k H' m' (s1.trans s') r'⟩|bk ez=>cases e2;exact k H1 m1 s1 r1|ct ez=>cases e2;exact k H1 m1 s1 r1|rt w=>cases e2;exact k H1 m1 s1 r1
theorem CQ:SS X st (λ_ _=>.no):=Wg.imp λD σ H z9=>z9.el λρ h m fl h' f r e k=>by cases e
noncomputable def CS:aq->Bool|.ListComp .. |.SetComp .. |.DictComp ..=>false|_=>true
theorem Kg{e:aq}{t:Option aq}{l:Nat}{env:Env}(h:CS e):swapsWith e t l env=pure false:=by cases e<;>first|rfl|cases h
theorem zus(he:SE X e fa)(hs:CS e):SS X (.Expr e pos) (λρ h=>(fa ρ h).bind λ_ h=>.ok (.nx ρ) h):=(Wc he (Kg hs)).imp λD σ H z9=>z9.el λρ h m fl h' f r e k=>by
 refine bJ e λw h1 e1 e2=>?_;cases e2;exact(.mk f r e1 λv H1 m1 s1 r1 q1=>k H1 m1 s1 r1 σ (f.stp s1))
theorem zyu(he:SE X e fa):SS X (.Return (aC e) pos) (λρ h=>(fa ρ h).bind λw h=>.ok (.rt w) h):=(FO he).imp λD σ H z9=>z9.el λρ h m fl h' f r e k=>by
 refine bJ e λw h1 e1 e2=>?_;cases e2;exact(.mk f r e1 λv H1 m1 s1 r1 q1=>k H1 m1 s1 r1 v q1)
theorem zut:SS X (.Return aD pos) (λρ h=>(Res.ok W.aL h).bind λw h=>.ok (.rt w) h):=We.imp λD σ H z9=>z9.el λρ h m fl h' f r e k=>by
 cases e;exact k H m .refl r .aL .aL
noncomputable abbrev qH(i:Nat)(fa:FE):FS:=λρ h=>(fa ρ h).bind λw h=>.ok (.nx (ρ.set i (aC w))) h
theorem GC{K:aI}{i:Nat}{D:Ends}{σ:L2.St}{H:Hp}(q:jY K R (qH i fa) D σ H):eK K fa σ H λv H1=>kF i v σ H1 D.nx:=by refine q.el λρ h m fl h' f r e k=>?_;refine bJ e λw h1 e1 e2=>?_;cases e2;exact(.mk f r e1 λv H1 m1 s1 r1 q1=>k H1 m1 s1 r1 _ ((f.stp s1).set q1 i))
theorem Kh{i:Nat}{pos':Pos}(hN:X.N.Nodup)(hi:X.N[i]?=aC x)(hx:Loc X.env.scope x)(hf:X.fn x=true\/X.env.scope.names.lookup x=aC .local)(he:SE X e fa)
 (hs:swapsWith e (aC (.Name x pos')) pos.line X.env=pure false):SS X (.Assign [.Name x pos'] e pos) (qH i fa):=(Qq hN hi hx he hs hf).imp λD σ H q=>GC q
theorem zq9{i:Nat}{pos' lp:Pos}{ow fr:List Str}{ix:List Nat}{scope:az}{tg iter elt:aq}{ifs:List aq}{kd:Kd}{t:Tg}{fe:FE}(hN:X.N.Nodup)(hi:X.N[i]?=aC x)(hx:Loc X.env.scope x)(hf:X.fn x=true\/X.env.scope.names.lookup x=aC .local)
 (S:bq X ow fr ix scope) (hc:X.calm) (hI:PI X tg iter (bY X.K kd fa)) (hg:∀C s₀ H₀ ex,PG (X.comp (ow++fr) scope C s₀ H₀ ex) tg (cF X.K t)) (ht:∀C s₀ H₀ ex,jH (X.comp (ow++fr) scope C s₀ H₀ ex) ifs (cP X.K fc))
 (he:∀C s₀ H₀ ex,PE (X.comp (ow++fr) scope C s₀ H₀ ex) elt (eK X.K fe)) (hsw:swapsWith (.ListComp elt [⟨tg,iter,ifs,0⟩] scope lp) (aC (.Name x pos')) pos.line X.env=pure true) (hs:∀x,foldedSetIterable iter X.env x=pure x) :
 SS X (.Assign [.Name x pos'] (.ListComp elt [⟨tg,iter,ifs,0⟩] scope lp) pos) (qH i (J6 kd fa t ow.length ix fc fe)):=
 (JA RM (λ_=>rfl) hN hi hx S hc hI hg ht (λC s₀ H₀ ex D=>JJ (he C s₀ H₀ ex) D) hsw hf hs).imp λD σ H q=>vh (GC q)
theorem CT{lp:Pos}{ow fr:List Str}{ix:List Nat}{scope:az}{tg iter elt:aq}{ifs:List aq}{kd:Kd}{t:Tg}{fe:FE}
 (S:bq X ow fr ix scope) (hc:X.calm) (hI:PI X tg iter (bY X.K kd fa)) (hg:∀C s₀ H₀ ex,PG (X.comp (ow++fr) scope C s₀ H₀ ex) tg (cF X.K t)) (ht:∀C s₀ H₀ ex,jH (X.comp (ow++fr) scope C s₀ H₀ ex) ifs (cP X.K fc))
 (he:∀C s₀ H₀ ex,PE (X.comp (ow++fr) scope C s₀ H₀ ex) elt (eK X.K fe)) (hs:∀x,foldedSetIterable iter X.env x=pure x) :
 SE X (.ListComp elt [⟨tg,iter,ifs,0⟩] scope lp) (J6 kd fa t ow.length ix fc fe):=(ql RM rfl S hc hI hg ht (λC s₀ H₀ ex D=>JJ (he C s₀ H₀ ex) D) hs).imp λσ H Q q=>vh q
theorem zyv{lp:Pos}{ow fr:List Str}{ix:List Nat}{scope:az}{tg iter elt ig bI:aq}{ifs dO:List aq}{kd iE:Kd}{t t2:Tg}{fe qx ng:FE}
 (S:bq X ow fr ix scope) (hc:X.calm) (hI:PI X tg iter (bY X.K kd fa)) (hg:∀C s₀ H₀ ex,PG (X.comp (ow++fr) scope C s₀ H₀ ex) tg (cF X.K t)) (ht:∀C s₀ H₀ ex,jH (X.comp (ow++fr) scope C s₀ H₀ ex) ifs (cP X.K fc))
 (mC:∀C s₀ H₀ ex,PI (X.comp (ow++fr) scope C s₀ H₀ ex) ig bI (bY X.K iE qx)) (qI:∀C s₀ H₀ ex,PG (X.comp (ow++fr) scope C s₀ H₀ ex) ig (cF X.K t2)) (CU:∀C s₀ H₀ ex,jH (X.comp (ow++fr) scope C s₀ H₀ ex) dO (cP X.K ng))
 (he:∀C s₀ H₀ ex,PE (X.comp (ow++fr) scope C s₀ H₀ ex) elt (eK X.K fe)) (hs:∀x,foldedSetIterable iter X.env x=pure x) (hs2:∀C s₀ H₀ ex x,foldedSetIterable bI (X.comp (ow++fr) scope C s₀ H₀ ex).env x=pure x) :
 SE X (.ListComp elt [⟨tg,iter,ifs,0⟩,⟨ig,bI,dO,0⟩] scope lp) (ye kd fa t ow.length ix fc iE qx t2 ng fe):=
 (ql RK rfl S hc hI hg ht (λC s₀ H₀ ex D=>RJ (X:=X.comp (ow++fr) scope C s₀ H₀ ex) hc rfl (mC C s₀ H₀ ex) (qI C s₀ H₀ ex) (CU C s₀ H₀ ex) (he C s₀ H₀ ex) (hs2 C s₀ H₀ ex) D) hs).imp λσ H Q q=>Su q
theorem zoi{i:Nat}{pos' lp:Pos}{ow fr:List Str}{ix:List Nat}{scope:az}{tg iter elt ig bI:aq}{ifs dO:List aq}{kd iE:Kd}{t t2:Tg}{fe qx ng:FE}(hN:X.N.Nodup)(hi:X.N[i]?=aC x)(hx:Loc X.env.scope x)(hf:X.fn x=true\/X.env.scope.names.lookup x=aC .local)
 (S:bq X ow fr ix scope) (hc:X.calm) (hI:PI X tg iter (bY X.K kd fa)) (hg:∀C s₀ H₀ ex,PG (X.comp (ow++fr) scope C s₀ H₀ ex) tg (cF X.K t)) (ht:∀C s₀ H₀ ex,jH (X.comp (ow++fr) scope C s₀ H₀ ex) ifs (cP X.K fc))
 (mC:∀C s₀ H₀ ex,PI (X.comp (ow++fr) scope C s₀ H₀ ex) ig bI (bY X.K iE qx)) (qI:∀C s₀ H₀ ex,PG (X.comp (ow++fr) scope C s₀ H₀ ex) ig (cF X.K t2)) (CU:∀C s₀ H₀ ex,jH (X.comp (ow++fr) scope C s₀ H₀ ex) dO (cP X.K ng))
 (he:∀C s₀ H₀ ex,PE (X.comp (ow++fr) scope C s₀ H₀ ex) elt (eK X.K fe)) (hsw:swapsWith (.ListComp elt [⟨tg,iter,ifs,0⟩,⟨ig,bI,dO,0⟩] scope lp) (aC (.Name x pos')) pos.line X.env=pure true) (hs:∀x,foldedSetIterable iter X.env x=pure x) (hs2:∀C s₀ H₀ ex x,foldedSetIterable bI (X.comp (ow++fr) scope C s₀ H₀ ex).env x=pure x) :
 SS X (.Assign [.Name x pos'] (.ListComp elt [⟨tg,iter,ifs,0⟩,⟨ig,bI,dO,0⟩] scope lp) pos) (qH i (ye kd fa t ow.length ix fc iE qx t2 ng fe)):=
 (JA RK (λ_=>rfl) hN hi hx S hc hI hg ht (λC s₀ H₀ ex D=>RJ (X:=X.comp (ow++fr) scope C s₀ H₀ ex) hc rfl (mC C s₀ H₀ ex) (qI C s₀ H₀ ex) (CU C s₀ H₀ ex) (he C s₀ H₀ ex) (hs2 C s₀ H₀ ex) D) hsw hf hs).imp λD σ H q=>Su (GC q)
theorem CV{lp:Pos}{ow fr:List Str}{ix:List Nat}{scope:az}{tg iter ek oK:aq}{ifs:List aq}{kd:Kd}{t:Tg}{fe fv:FE}
 (S:bq X ow fr ix scope) (hc:X.calm) (hI:PI X tg iter (bY X.K kd fa)) (hg:∀C s₀ H₀ ex,PG (X.comp (ow++fr) scope C s₀ H₀ ex) tg (cF X.K t)) (ht:∀C s₀ H₀ ex,jH (X.comp (ow++fr) scope C s₀ H₀ ex) ifs (cP X.K fc))
 (he:∀C s₀ H₀ ex,PE (X.comp (ow++fr) scope C s₀ H₀ ex) ek (eK X.K fe)) (hv:∀C s₀ H₀ ex,PE (X.comp (ow++fr) scope C s₀ H₀ ex) oK (eK X.K fv)) (hs:∀x,foldedSetIterable iter X.env x=pure x) :
 SE X (.DictComp ek oK [⟨tg,iter,ifs,0⟩] scope lp) (J7 kd fa t ow.length ix fc fe fv):=
 (ql RE rfl S hc hI hg ht (λC s₀ H₀ ex D=>RH (he C s₀ H₀ ex) (hv C s₀ H₀ ex) D) hs).imp λσ H Q q=>vj q
theorem zra{i:Nat}{pos' lp:Pos}{ow fr:List Str}{ix:List Nat}{scope:az}{tg iter ek oK:aq}{ifs:List aq}{kd:Kd}{t:Tg}{fe fv:FE}(hN:X.N.Nodup)(hi:X.N[i]?=aC x)(hx:Loc X.env.scope x)(hf:X.fn x=true\/X.env.scope.names.lookup x=aC .local)
 (S:bq X ow fr ix scope) (hc:X.calm) (hI:PI X tg iter (bY X.K kd fa)) (hg:∀C s₀ H₀ ex,PG (X.comp (ow++fr) scope C s₀ H₀ ex) tg (cF X.K t)) (ht:∀C s₀ H₀ ex,jH (X.comp (ow++fr) scope C s₀ H₀ ex) ifs (cP X.K fc))
 (he:∀C s₀ H₀ ex,PE (X.comp (ow++fr) scope C s₀ H₀ ex) ek (eK X.K fe)) (hv:∀C s₀ H₀ ex,PE (X.comp (ow++fr) scope C s₀ H₀ ex) oK (eK X.K fv)) (hsw:swapsWith (.DictComp ek oK [⟨tg,iter,ifs,0⟩] scope lp) (aC (.Name x pos')) pos.line X.env=pure true) (hs:∀x,foldedSetIterable iter X.env x=pure x) :
 SS X (.Assign [.Name x pos'] (.DictComp ek oK [⟨tg,iter,ifs,0⟩] scope lp) pos) (qH i (J7 kd fa t ow.length ix fc fe fv)):=
 (JA RE (λ_=>rfl) hN hi hx S hc hI hg ht (λC s₀ H₀ ex D=>RH (he C s₀ H₀ ex) (hv C s₀ H₀ ex) D) hsw hf hs).imp λD σ H q=>vj (GC q)
noncomputable def qK:aq->Bool|.Tuple ..=>false|_=>true
theorem zoj{es:List aq}{k:Nat}{e:aq}{l:Nat}{p:Pos}{env:Env}:swapsWithSole [.Tuple es k p] e l env=pure false:=by cases e<;>rfl
theorem zmb{es:List aq}{k:Nat}{p:Pos}{e:aq}{env:Env}(h:qK e):swappedStores [.Tuple es k p] e env=pure aD:=by cases e<;>first|rfl|cases h
theorem zyw{is:List Nat}{k:Nat}(hc:X.calm)(hN:X.N.Nodup)(hs:Paired (mz X) es is)(he:SE X e fa)(ht:qK e) :
 SS X (.Assign [.Tuple es k p] e pos) (λρ h=>(fa ρ h).bind λw h=>.of ((bK (.many is) w h ρ).map .nx) h):=(Qp he (JZ hc hN hs) zoj (zmb ht) rfl).imp λD σ H z9=>z9.el λρ h m fl h' f r e k=>by
 refine bJ e λw h1 e1 e2=>?_;obtain⟨e2,e3⟩:=of_ok e2;subst e3;cases z:bK (.many is) w h' ρ with
 |none=>rw[z]at e2;cases e2
 |some ρ'=>
  rw[z]at e2;cases e2;exact(.mk f r e1 λv H1 m1 s1 r1 q1=>(.mk (f.stp s1) r1 q1 z λσ' f'=>k H1 m1 s1 r1 σ' f'))
noncomputable def zZ:aq->Bool|.Slice ..=>false|_=>true
theorem zmc{o i:aq}{p:Pos}{env:Env}(h:zZ i)(v:af):assign (.Subscript o i p) env v=(do
 let ov <-holding [v] (eval o env);let iv <-holding [v,ov] (eval i env)
 standAt p
 holding [v,ov,iv] (setItem ov iv v)
 release [v,ov,iv] []):=by
 cases i<;>first|rfl|cases h
noncomputable abbrev Kl(fo fi fv:FE):FS:=λρ h=>(fv ρ h).bind λw h=>(fo ρ h).bind λx h=>(fi ρ h).bind λy h=>match x,y with
 |.ref a,.int j=>(match h.get a with
  |some (.lst ws)=>(match L2.ju ws.length j with
   |some k=>.ok (.nx ρ) (h.set a (.lst (ws.set k w)))
   |none=>.no)
  |_=>oG ρ a j w h)
 |_,_=>.no
theorem zok{o i e:aq}{l:Nat}{p:Pos}{env:Env}:swapsWithSole [.Subscript o i p] e l env=pure false:=by cases e<;>rfl
theorem zjg{o i e:aq}{p:Pos}{env:Env}:swappedStores [.Subscript o i p] e env=pure aD:=by cases e<;>rfl
theorem zuu{X:Cx}{t t':V->V->V->Hp->(Hp->Prop)->Prop}(h:nU X t)(h':nU X t'):nU X (λo i v H Q=>t o i v H Q\/t' o i v H Q):=by
 intro pins s σ H o i v ov iv u Q I ro ri rv q;rcases q with q|q
 exact h pins s σ H o i v ov iv u Q I ro ri rv q;exact h' pins s σ H o i v ov iv u Q I ro ri rv q
noncomputable def CW:V->V->V->Hp->(Hp->Prop)->Prop:=λo i v H Q=>∃a kvs j,o=.ref a/\i=.int j/\H a=aC (.dK kvs)/\kvs.length<sizeLine/\Q (upd H a (.dK (putK kvs (.inl j) v)))
theorem zyx(hu:X.A.units+2<cLine):nU X CW:=by intro pins s σ H o i v ov iv u Q I ro ri rv h;obtain⟨a,kvs,j,rfl,rfl,e,hl,q⟩:=h;cases ro;exact Yb (Nat.lt_of_succ_lt hu) I (tG.k (k:=.inl j) e hl) ri rv λs' I'=>⟨_,I',q⟩
theorem zyy(hu:X.A.units+2<cLine)(ho:SE X o fo)(hi:SE X a fa)(hv:SE X e fb)(hs:zZ a):SS X (.Assign [.Subscript o a p] e pos) (Kl fo fa fb):=
 (Qp hv (Wh ho hi (zuu Xj (zyx hu)) (zmc hs)) zok zjg rfl).imp λD σ H z9=>z9.el λρ h m fl h' f r e k=>by
   refine bJ e λw h1 e1 e2=>?_;refine bJ e2 λx h2 e3 e4=>?_;refine bJ e4 λy h3 e5 e6=>?_;refine(.mk f r e1 λv H1 m1 s1 r1 q1=>(.mk (f.stp s1) r1 e3 λvo H2 m2 s2 r2 q2=>(.mk ((f.stp s1).stp s2) r2 e5 λvi H3 m3 s3 r3 q3=>?_)));split at e6;rename_i l j;split at e6;rename_i ws g;split at e6;rename_i kk hk;cases e6;cases q3;have Km:=q2.stp s3;cases Km;obtain⟨vs,p1,p2⟩:=r3.lst g;refine .inl ⟨m3 l,vs,j,kk,rfl,rfl,p1,by rw[p2.length];exact hk,?_⟩;have qv:=((q1.stp s2).stp s3)
   obtain⟨st,r'⟩:=r3.write (i:=l) (o:=.lst (ws.set kk w)) (u:=.lst (vs.set kk v)) (bV g) p1 (λ_ z=>nomatch z) (λ_ _ z=>nomatch z) λst=>⟨_,gn,aG.set (qv.stp st) kk (p2.stp st)⟩
   exact k _ m3 (((s1.trans s2).trans s3).trans st) r' σ ((((f.stp s1).stp s2).stp s3).stp st);cases e6;unfold oG at e6;split at e6;rename_i kvs g;split at e6;rename_i hb;cases e6;cases q3;have Km:=q2.stp s3;cases Km;obtain⟨vs,p1,p2⟩:=r3.dm g;have hlt:vs.length<sizeLine:=by rw[p2.length,AH];exact gA.mp hb
   refine .inr ⟨m3 l,vs,j,rfl,rfl,p1,hlt,?_⟩;have qv:=((q1.stp s2).stp s3)
   obtain⟨st,r'⟩:=r3.write (i:=l) (o:=.dm (bx kvs (.inl j) w)) (u:=.dK (putK vs (.inl j) v)) (bV g) p1 (λ_ z=>nomatch z) (λ_ _ z=>nomatch z) λst=>⟨_,gn,aM.put (qv.stp st) _ (p2.stp st)⟩
   exact k _ m3 (((s1.trans s2).trans s3).trans st) r' σ ((((f.stp s1).stp s2).stp s3).stp st);cases e6;cases e6;cases e6
theorem zjh{M:Model}{A:ao}{E:af->ah->Prop}{s:ah}{a b:af}{T id:String}{Q:af->ah->Prop}(ha:s.TypeIs a T)(hb:s.TypeIs b T)
 (hI:typeLookup (.type T) (dunderI "add")=pure (aC (.builtin id))) (hq:isSeqSlot (aC (.builtin id))) (hfill:fillsNumberSlot (.type T) "add" = pure false) (hc:wpAny M A (call (.builtin id) [a,b]) Q E s):wpAny M A (inplaceOp .Add a b) Q E s:=by
 unfold inplaceOp;refine lO ?_;have h1:fillsInplaceSlot (.type T) "add" (Operator.Add == .Add)=pure false:=by unfold fillsInplaceSlot;show(typeLookup (.type T) (dunderI "add") >>= λfi=>pure (fi.isSome && !isSeqSlot fi))=_;rw[hI,xg,hq];rfl
 have h2:seqSlot? (.type T) (dunderI "add")=pure (aC (.builtin id)):=by unfold seqSlot?;rw[hI,xg,hq];rfl
 refine aK (Fb ha (aK (zo h1 ?_)));show wpAny M A (if false=true then _ else _) Q E s;rw[if_neg lD];refine aK (binaryOp1_none (nm:="add") ha hb hfill ?_);refine aK (zo h2 ?_);exact aK (sN hc)
noncomputable def vp:R2:=λx y H Q=>∃l b xs zs,x=.ref l/\y=.ref b/\H l=aC (.lst xs)/\H b=aC (.lst zs)/\xs.length+zs.length<=sizeLine/\Q (.ref l) (upd H l (.lst (xs++zs)))
theorem zyz:zL X .Add vp:=by
 intro pins s σ H x y v u Q I rx ry h;obtain⟨l,b,xs,zs,rfl,rfl,hH,hB,hz,q⟩:=h;cases rx;cases ry;obtain⟨z,its,n,r,hl,e⟩:=I.ie hH;obtain⟨z2,its2,n2,r2,hl2,e2⟩:=I.ie hB;have hsz:its.toArray.size+its2.toArray.size<=sizeLine:=by rw[eG,eG];lia
 have CY:¬(!its.toArray.isEmpty&&Builtin.List.listTooLong (its.toArray.size+its2.toArray.size))=true:=by rw[Xs hsz,E5];exact lD
 refine zjh (T:="list") (id:="list.__iadd__") ⟨_,e,rfl⟩ ⟨_,e2,rfl⟩ PySem.F.slot_list_iadd.lookup (by decide +kernel) noFill_list_add ?_;refine rM PySem.F.slot_list_iadd ⟨_,e,rfl⟩ PySem.F.entry_list_iadd (PySem.F.args_list_iadd_2 _ _)
  (AutoSeq1.list___iadd___list_list_0 l its.toArray n b its2.toArray n2 CY (by rw[eG];lia) (by lia)) ⟨e,e2,?_⟩
 refine⟨.ref l,_,I.BH (its':=its++its2) hH e (by simp) (r.append r2) ?_,rfl,q⟩;rw[fC];lia
noncomputable def tU:Operator->Option Op|.Add=>aC .add|.Sub=>aC .sub|.Mult=>aC .mul|.FloorDiv=>aC .fdiv|_=>aD
noncomputable def SD(K:aI):Op->R2|.mul=>rI nX λi j=>.int (i*j)|.fdiv=>rI tu λi j=>.int (i/j)|.add=>λx y H Q=>FQ (λi j=>i+j) x y H Q\/vp x y H Q\/mV K x y H Q|.sub=>FQ λi j=>i-j|_=>λ_ _ _ _=>False
theorem CZ{O:Operator}{o:Op}(e:tU O=aC o):zL X O (SD X.K o):=by
 cases O<;>cases e;intro pins s σ H x y v u Q I rx ry q;rcases q with q|q|q
 exact Wj pins s σ H x y v u Q I rx ry q;exact zyz pins s σ H x y v u Q I rx ry q;exact zuq pins s σ H x y v u Q I rx ry q;exact Wl;exact WE;exact WG
theorem zy0{K:aI}{O:Operator}{o:Op}(e:tU O=aC o):Cn K (SD K o) (xW o):=by
 intro m h H v u x y w h' Q r qv qu e2 k;unfold xW at e2;split at e2;rename_i i j;cases qv;cases qu;split at e2;cases e2;exact .inl ⟨i,j,rfl,rfl,aN.here k r (.int _)⟩;cases e2;exact⟨i,j,rfl,rfl,aN.here k r (.int _)⟩;obtain⟨e2,rfl⟩:=of_ok e2;cases z:iY .mul i j with
 |none=>rw[z]at e2;cases e2
 |some t=>
  rw[z]at e2;cases e2;obtain⟨c1,rfl⟩:=JM z;exact⟨i,j,rfl,rfl,c1,aN.here k r (.int _)⟩
 obtain⟨e2,rfl⟩:=of_ok e2;cases z:iY .fdiv i j with
 |none=>rw[z]at e2;cases e2
 |some t=>
  rw[z]at e2;cases e2;obtain⟨c1,rfl⟩:=JM z;exact⟨i,j,rfl,rfl,c1,aN.here k r (.int _)⟩
 cases e2;rename_i i j;split at e2;rename_i xs ys g1 g2;split at e2;rename_i hz;cases e2;cases qv;cases qu;obtain⟨vs,p1,p2⟩:=r.lst g1;obtain⟨us,p3,p4⟩:=r.lst g2;refine .inr (.inl ⟨m i,m j,vs,us,rfl,rfl,p1,p3,by rw[p2.length,p4.length];exact lR hz,?_⟩);obtain⟨st,r'⟩:=r.write (i:=i) (o:=.lst (xs++ys)) (u:=.lst (vs++us)) (bV g1) p1 (λ_ z=>nomatch z) (λ_ _ z=>nomatch z) λst=>⟨_,gn,(p2.stp st).append (p4.stp st)⟩
 exact k _ _ m st r' (.ref (show i<h.n from bV g1));cases e2;cases e2;rename_i x xs ys;split at e2;split at e2;rename_i hz;cases e2;cases qv with
 |tup qa ra=>
  cases qu with
  |tup qb rb=>
   rename_i a va b vb;refine .inr (.inr ⟨a,b,va,vb,rfl,rfl,qa,qb,λz=>?_,by rw[ra.length,rb.length];exact lR hz,λz=>?_,λ_ p hp=>aN.tuple k r (ra.append rb) hp⟩);subst z;cases ra;subst z;cases rb;rw[nS]at k;exact aN.here k r (.tup qa ra)
 cases e2;cases e2;cases e2
noncomputable abbrev yh(i:Nat)(o:Op)(fa:FE):FS:=λρ h=>match(ρ[i]?).join with|some x=>(fa ρ h).bind λy h=>(xW o x y h).bind λz h=>.ok (.nx (ρ.set i (aC z))) h|none=>.no
theorem zy1{i:Nat}{pos':Pos}{O:Operator}{o:Op}(eo:tU O=aC o)(hN:X.N.Nodup)(hi:X.N[i]?=aC x)(hx:Loc X.env.scope x)(hf:X.fn x=true\/X.env.scope.names.lookup x=aC .local)(he:SE X e fa) :
 SS X (.AugAssign (.Name x pos') O e pos) (yh i o fa):=(Wi hN hi hx he (CZ eo) hf).imp λD σ H z9=>z9.el λρ h m fl h' f r e k=>by
 have e:yh i o fa ρ h=.ok fl h':=e;simp only[yh]at e;cases z:(ρ[i]?).join with
 |none=>rw[z]at e;cases e
 |some x=>
  rw[z]at e;simp only at e;refine bJ e λy h1 e1 e2=>?_;refine bJ e2 λw h2 e3 e4=>?_;cases e4;have e5:ρ[i]?=aC (aC x):=by
   cases q:ρ[i]? with|none=>rw[q]at z;cases z|some o=>rw[q]at z;rw[<-z];rfl
  obtain⟨v,p1,p2⟩:=f.val i x e5;refine⟨v,p1,ρ,h,m,y,h1,f,r,e1,λu H1 m1 s1 r1 q1=>zy0 eo m1 h1 H1 v u x y w h' _ r1 (p2.stp s1) q1 e3 λv' H' m' s' r' q'=>?_⟩;exact k H' m' (s1.trans s') r' _ (((f.stp s1).stp s').set q' i)
noncomputable abbrev gIf(fc:FE)(ga gb:FS):FS:=λρ h=>(fc ρ h).bind λx h=>match x with|.bl true=>ga ρ h|.bl false=>gb ρ h|_=>.no
variable{sa sb:List au}
theorem SG(hc:ST X c fc)(ha:vm X R sa ga)(hb:vm X R sb gb):SR X R (.If c sa sb pos) (gIf fc ga gb):=(uX hc ha hb).imp λD σ H z9=>z9.el λρ h m fl h' f r e k=>by
 refine bJ e λx h1 e1 e2=>?_;cases x<;>try cases e2
 rename_i c;refine(.mk f r e1 λH1 m1 s1 r1=>?_);cases c with|true=>rw[if_pos rfl];exact(.mk (f.stp s1) r1 e2 λH' m' s' r'=>k H' m' (s1.trans s') r')|false=>simp only[gY,fM];exact(.mk (f.stp s1) r1 e2 λH' m' s' r'=>k H' m' (s1.trans s') r')
theorem zuv{nx:Nat->VH->Option (Option W)}{tg:W->VH->En->Option En}{g:FS}{f i:Nat}{ρ:En}{h:VH}{fl:Fl}{h':VH}(q:eg nx tg g (f+1) i ρ h=.ok fl h'):∃o,nx i h=aC o:=by simp only[eg]at q;split at q;cases q;exact⟨_,by assumption⟩;exact⟨_,by assumption⟩
noncomputable abbrev C0(kd:Kd)(fa:FE)(t:Tg)(g:FS):FS:=λρ h=>(fa ρ h).bind λx h=>eg (aU kd x) (bK t) g fuel 0 ρ h
theorem zy2{K:aI}{kd:Kd}{t:Tg}{D:Ends}{σ:L2.St}{H:Hp}(q:jY K R (C0 kd fa t ga) D σ H):Bm (bY K kd fa) (cF K t) (jY K R ga) D σ H:=by
 refine q.el λρ h m fl h' f r e k=>?_;refine bJ e λx h1 e1 e2=>?_;refine(.mk f r e1 (zuv (f:=999999) e2) λJ P H1 m1 s1 r1 J1 p1=>?_);refine⟨λi fu σ' H'=>∃ρ' h3 m3,eg (aU kd x) (bK t) ga fu i ρ' h3=.ok fl h'/\Fr K m3 h3.n H' σ' ρ'/\Rel K m3 h3 H'/\bO m1 h1.n H1 m3 h3.n H'/\P m3 h3.n H',⟨fuel,ρ,h1,m1,e2,f.stp s1,r1,.refl,p1⟩,?_⟩;rintro i fu σ' H' ⟨ρ',h3,m3,e3,f3,r3,s3,p3⟩;cases fu with
 |zero=>cases e3
 |succ fu=>
  simp only[eg]at e3;obtain⟨j1,j2⟩:=J1.2 m3 h3 H' r3 p3 i;split at e3;cases e3;rename_i hn;cases e3;exact .inl ⟨j2 hn,k H' m3 (s1.trans s3) r3 σ' f3⟩;rename_i w hn;obtain⟨j3,j4⟩:=j1 w hn;split at e3;cases e3;rename_i Ko ht;refine bJ e3 λC1 h5 e5 e6=>?_;refine .inr ⟨j3,λkh H6=>∃jZ m6,eg (aU kd x) (bK t) ga fu (i+1) jZ h5=.ok fl h'/\Fr K m6 h5.n H6 kh jZ/\Rel K m6 h5 H6/\bO m1 h1.n H1 m6 h5.n H6/\P m6 h5.n H6,λkh H6 ⟨jZ,m6,a1,a2,a3,a4,a5⟩=>⟨fu,jF _,jZ,h5,m6,a1,a2,a3,a4,a5⟩,λy H4 hy=>?_⟩;obtain⟨s4,r4,q4⟩:=j4 y H4 hy;refine⟨ρ',h3,m3,w,Ko,f3.stp s4,r4,q4,ht,λqk f5=>⟨Ko,h3,m3,C1,h5,f5,r4,e5,λH6 m6 s6 r6=>?_⟩⟩;have p4:=J1.1 m3 h3.n H' m3 h3.n H4 (aZ _) (λ_ _=>rfl) (λb vs q=>s4.tup b vs q) (λb o u q=>s4.bS b o u q) p3;have p6:=J1.1 m3 h3.n H4 m6 h5.n H6 s6.le s6.same (λb vs q=>s6.tup b vs q) (λb o u q=>s6.bS b o u q) p4;have jx:=(s3.trans s4).trans s6;cases C1 with|nx jZ=>exact λkh f6=>⟨jZ,m6,e6,f6,r6,jx,p6⟩|ct jZ=>exact λkh f6=>⟨jZ,m6,e6,f6,r6,jx,p6⟩|bk jZ=>cases e6;exact λkh f6=>k H6 m6 (s1.trans jx) r6 kh f6|rt w6=>cases e6;exact k H6 m6 (s1.trans jx) r6
theorem zy3{kd:Kd}{t:Tg}{tg iter:aq}(hp:PassesOwn (model X.prog X.w) X.A X.env X.xe)(hc:X.calm)(hI:PI X tg iter (bY X.K kd fa))(hg:PG X tg (cF X.K t))(hb:vm X R sa ga)(hs:∀x,foldedSetIterable iter X.env x=pure x) :
 SR X R (.For tg iter sa [] pos) (C0 kd fa t ga):=(Ww hp hc hI hg hb hs).imp λD σ H q=>zy2 q
theorem zy4(hp:PassesOwn (model X.prog X.w) X.A X.env X.xe)(hc:ST X c fc)(hb:Ke X sa ga):SS X (.While c sa [] pos) (λρ h=>dR fc ga fuel ρ h):=(Wn hp hc hb).imp λD σ H z9=>z9.el λρ h m fl h' f r e k=>by
 refine⟨λfu σ' H'=>∃ρ' h3 m3,dR fc ga fu ρ' h3=.ok fl h'/\Fr X.K m3 h3.n H' σ' ρ'/\Rel X.K m3 h3 H'/\bO m h.n H m3 h3.n H',⟨fuel,ρ,h,m,e,f,r,.refl⟩,?_⟩;rintro fu σ' H' ⟨ρ',h3,m3,e3,f3,r3,s3⟩;cases fu with
 |zero=>cases e3
 |succ fu=>
  simp only[dR]at e3;refine bJ e3 λx h4 e4 e5=>?_;cases x<;>try cases e5
  rename_i b;refine⟨ρ',h3,m3,b,h4,f3,r3,e4,λH4 m4 s4 r4=>?_⟩;cases b with
  |false=>cases e5;simp only[gY,fM];exact k H4 m4 (s3.trans s4) r4 σ' (f3.stp s4)
  |true=>
   simp only[dg];refine bJ e5 λC1 h5 e6 e7=>?_;refine⟨λkh H6=>∃jZ m6,dR fc ga fu jZ h5=.ok fl h'/\Fr X.K m6 h5.n H6 kh jZ/\Rel X.K m6 h5 H6/\bO m h.n H m6 h5.n H6,λkh H6 ⟨jZ,m6,a1,a2,a3,a4⟩=>⟨fu,jF _,jZ,h5,m6,a1,a2,a3,a4⟩,?_⟩;refine⟨ρ',h4,m4,C1,h5,f3.stp s4,r4,e6,λH6 m6 s6 r6=>?_⟩;have jx:=(s3.trans s4).trans s6;cases C1 with|nx jZ=>exact λkh f6=>⟨jZ,m6,e7,f6,r6,jx⟩|ct jZ=>exact λkh f6=>⟨jZ,m6,e7,f6,r6,jx⟩|bk jZ=>cases e7;exact λkh f6=>k H6 m6 jx r6 kh f6|rt w6=>cases e7;exact λv6 q6=>k H6 m6 jx r6 v6 q6
end
theorem C2{n:Str}:∀{ps:List Str} {us:List af},us.length=ps.length->n∈ps->((ps.zip us).lookup n).isSome=true
 |[],_,_,h=>by cases h
 |p::ps,[],hl,_=>by cases hl
 |p::ps,u::us,hl,h=>by
  rw[uP,gQ];by_cases e:(n==p)=true;rw[e];rfl;have e':(n==p)=false:=by simpa using e
  rw[e'];refine C2 (by simpa using hl) ?_;rcases eO.mp h with z|z
  rw[z]at e';simp at e';exact z
theorem zrb{n:Str}{u:af}{p:Str}{ps:List Str}{us:List af}(h:n≠p):((p,u)::ps.zip us).lookup n=(ps.zip us).lookup n:=by
 rw[gQ];have e':(n==p)=false:=by simpa using h
 rw[e']
theorem SH{α β:Type}{f g:α->Option β}:∀{l:List α},(∀a∈l,f a=g a)->l.filterMap f=l.filterMap g
 |[],_=>rfl
 |a::r,h=>by
  rw[uO,uO,h a gj,SH λb hb=>h b (fS _ hb)]
theorem GD:∀{ps:List Str} {us:List af},us.length=ps.length->ps.Nodup->ps.filterMap (λn=>((ps.zip us).lookup n).map (n,·))=ps.zip us
 |[],_,_,_=>rfl
 |p::ps,[],hl,_=>by cases hl
 |p::ps,u::us,hl,hn=>by
  obtain⟨h1,h2⟩:=wV.mp hn;rw[uP,uO];have e:((p,u)::ps.zip us).lookup p=aC u:=by rw[gQ];simp
  rw[e];simp only[lU];congr 1;have ih:=GD (ps:=ps) (us:=us) (by simpa using hl) h2;refine Eq.trans ?_ ih;exact SH λn hn'=>by
   have hne:n≠p:=λz=>h1 (by rw[<-z];exact hn');rw[zrb hne]
theorem SI{x qual:Str}{args:List Arg}{df:List aq}{body:List au}{sc:az}{kV doc pm:af}{an:Option ai}{cdv ct:af}{us:List af}{ps:List Str}(ha:args.map (·.arg)=ps):∃k:Option (Array af)->Sem (List (Str×af)),(∀dV,bindArgs (PySem.W.fnOf x qual ⟨[],args,aD,[],[],aD,df⟩ body sc dV kV doc pm an cdv ct) ⟨us,[]⟩=seqItems? dV >>= k)/\
 ∀(o:Option (Array af))(ds:List af)(f0:Nat)(sl r:List (Str×af)),(o.getD #[]).toList=ds->ds.length-ps.length=0->ps.length-ds.length=f0->((ps.take f0).filter λn=>((ps.zip us).lookup n).isNone)=[]->us.length<=ps.length->
  (∀(b:Str×af->List (Str×af)->Sem (ForInStep (List (Str×af)))),(∀n d s,b (n,d) s=if(s.lookup n).isNone=true then pure (.yield (s++[(n,d)]))else pure (.yield s))->forIn ((ps.drop f0).zip ds) (ps.zip us) b=pure sl)->(ps.filterMap λn=>(sl.lookup n).map (n,·))=r->k o=pure r:=by
 refine Exists.intro ?k (And.intro ?a ?b)
 case a=>
  intro dV;unfold bindArgs;simp only[PySem.W.fnOf,AJ,List.nil_append,nS,List.forIn_nil,xg,ha];rfl
 case b=>
  intro o ds f0 sl r e1 e2 e3 e4 e5 e6 e7;have hg:¬(us.length>ps.length):=jn.mpr e5;simp only[e1,e2,e3,e4,jt hg,List.drop_zero,Ay,gY,fM,List.isEmpty_nil,Bool.not_true,xg];rw[e6 _ λ_ _ _=>rfl];simp only[xg,e7]
theorem SJ{ps qs:List Str}{us:List af}(h:∀n∈qs,((ps.zip us).lookup n).isSome):(qs.filter λn=>((ps.zip us).lookup n).isNone)=[]:=by rw[List.filter_eq_nil_iff];intro n hn;rw[Option.isNone_eq_false_iff.mpr (h n hn)];exact lD
theorem SK{x qual:Str}{args:List Arg}{body:List au}{sc:az}{kV doc pm:af}{an:Option ai}{cdv ct:af}{us:List af}{df:List aq}(hl:us.length=(args.map (·.arg)).length)(hn:(args.map (·.arg)).Nodup) :
 bindArgs (PySem.W.fnOf x qual ⟨[],args,aD,[],[],aD,df⟩ body sc .none kV doc pm an cdv ct) ⟨us,[]⟩=pure ((args.map (·.arg)).zip us):=by
 obtain⟨k,h1,h2⟩:=SI (x:=x) (qual:=qual) (args:=args) (df:=df) (body:=body) (sc:=sc) (kV:=kV) (doc:=doc) (pm:=pm) (an:=an) (cdv:=cdv) (ct:=ct) (us:=us) rfl;rw[h1,show seqItems? Value.none=pure aD from rfl,xg];exact h2 aD [] _ _ _ rfl (Nat.zero_sub _) rfl (SJ λn h=>C2 hl (List.mem_of_mem_take h)) (zz hl) (λb _=>by rw[List.zip_nil_right];rfl) (GD hl hn)
theorem GF{z:Str}:∀{qs:List Str} {us:List af},us.length=qs.length->(qs++[z]).zip us=qs.zip us
 |[],[],_=>rfl
 |[],_::_,h=>by cases h
 |_::_,[],h=>by cases h
 |q::qs,u::us,h=>by
  rw[sQ,uP,uP,GF (by simpa using h)]
theorem SM{z:Str}{v:af}:∀{qs:List Str} {us:List af},us.length=qs.length->(qs++[z]).zip (us++[v])=qs.zip us++[(z,v)]
 |[],[],_=>rfl
 |[],_::_,h=>by cases h
 |_::_,[],h=>by cases h
 |q::qs,u::us,h=>by
  rw[sQ,sQ,uP,uP,SM (by simpa using h),sQ]
theorem SN{z:Str}:∀{qs:List Str} {us:List af},z∉qs->(qs.zip us).lookup z=aD
 |[],_,_=>rfl
 |_::_,[],_=>rfl
 |q::qs,u::us,h=>by
  rw[uP,gQ];have e':(z==q)=false:=by simpa using(λe=>h (by rw[e];exact gj))
  rw[e'];exact SN λe=>h (fS _ e)
section
variable{x qual:Str}{args:List Arg}{df:List aq}{body:List au}{sc:az}{kV doc pm:af}{an:Option ai}{cdv ct:af}{t:ai}{o:Obj}{n:Nat}{s:ah}{us:List af}{qs:List Str}{z:Str}
theorem SO{sl r:List (Str×af)}(ha:args.map (·.arg)=qs++[z])(ho:s.heap.get? t=aC o)(hd:o.data=.seq #[.none] n)(hm:∀n∈qs,(((qs++[z]).zip us).lookup n).isSome)(hl:us.length<=(qs++[z]).length)
 (hs:(if(((qs++[z]).zip us).lookup z).isNone=true then(qs++[z]).zip us++[(z,.none)]else(qs++[z]).zip us)=sl) (hr:((qs++[z]).filterMap λn=>(sl.lookup n).map (n,·))=r) :
 BindsTo s (PySem.W.fnOf x qual ⟨[],args,aD,[],[],aD,df⟩ body sc (.ref t) kV doc pm an cdv ct) ⟨us,[]⟩ r:=by
 obtain⟨k,h1,h2⟩:=SI (x:=x) (qual:=qual) (args:=args) (df:=df) (body:=body) (sc:=sc) (kV:=kV) (doc:=doc) (pm:=pm) (an:=an) (cdv:=cdv) (ct:=ct) (us:=us) ha;refine BindsTo.of_defaults (items:=#[.none]) (n:=n) rfl ho hd (h1 _) (h2 _ [.none] qs.length sl r rfl ?_ (by rw[fC];rfl) ?_ hl (λb hb=>?_) hr);rw[fC,uN,uN,Nat.add_comm,Nat.sub_add_eq,Nat.sub_self,Nat.zero_sub];rw[List.take_left];exact SJ hm;rw[List.drop_left,uP,List.zip_nil_right,Fq,hb,<-hs];split<;>rfl
theorem zmd(ha:args.map (·.arg)=qs++[z])(hn:(qs++[z]).Nodup)(ho:s.heap.get? t=aC o)(hd:o.data=.seq #[.none] n)(hl:us.length=(qs++[z]).length) :
 BindsTo s (PySem.W.fnOf x qual ⟨[],args,aD,[],[],aD,df⟩ body sc (.ref t) kV doc pm an cdv ct) ⟨us,[]⟩ ((qs++[z]).zip us):=by
 refine SO ha ho hd (λn h=>C2 hl (List.mem_append_left _ h)) (zz hl) (if_neg ?_) (GD hl hn);rw[Option.isNone_eq_false_iff.mpr (C2 hl (lP _ gj))];exact lD
theorem zme(ha:args.map (·.arg)=qs++[z])(hn:(qs++[z]).Nodup)(ho:s.heap.get? t=aC o)(hd:o.data=.seq #[.none] n)(hl:us.length=qs.length) :
 BindsTo s (PySem.W.fnOf x qual ⟨[],args,aD,[],[],aD,df⟩ body sc (.ref t) kV doc pm an cdv ct) ⟨us,[]⟩ ((qs++[z]).zip (us++[.none])):=by
 have hl2:(us++[Value.none]).length=(qs++[z]).length:=by rw[fC,fC,hl];rfl
 have ha2:=GD hl2 hn;rw[SM hl]at ha2 ⊢;have hzq:z∉qs:=λh=>(List.nodup_append.mp hn).2.2 z h z (jE.mpr rfl) rfl;refine SO ha ho hd (λn h=>by rw[GF hl];exact C2 hl h) (by rw[fC,hl];exact o8 _) (if_pos ?_) (by rw[GF hl];exact ha2);rw[GF hl,SN hzq];rfl
end
inductive j0(K:aI)(x qual:Str)(st:au)(f:ai)(fd:av):Prop
 |mk (oc:af) (od:Option ai) (dV kV doc pm:af) (an:Option ai) (cdv ct:af) (osl:Array (Option af)) (e:fd=PySem.W.fnOf x qual (XA st) (zP st) (iM st) dV kV doc pm an cdv ct) (lk:K.lookup f=aC ⟨oc,od,.func fd,osl⟩) (cd:PySem.W.codeIn K cdv qual) (kp:PySem.W.keepIn K (.ref f)):j0 K x qual st f fd
theorem j0.kp{K:aI}{x qual:Str}{st:au}{f:ai}{fd:av}(F:j0 K x qual st f fd):PySem.W.keepIn K (.ref f)=true:=by cases F;assumption
theorem j0.ok{P:aj}{w:ak}{K:aI}{mg:Str->Option af}{base:aA}{x qual:Str}{st:au}{f:ai}{fd:av}{N ps:List Str}{k:Nat}{sp:Sp}(F:j0 K x qual st f fd)(S:cy N ps (iM st))(len:∀vs H Q E,sp vs H Q E->vs.length=ps.length)
 (hbody:∀(cdv:af)(A:ao)(outer:List Env)(s:ah)(H:Hp)(vs:List V)(Q:VK)(E:XK),cu k (A.deeper (envOfC qual (iM st) s.heap.objs.size f cdv))->sp vs H Q E->∃t,gU (ic lF P w K mg base N qual (iM st) f cdv A outer s H E).jb (zP st) t/\t {nx:=λ_ H'=>Q .aL H',rt:=Q} (start N vs) H):dZ P w K mg base lF (k+1) f fd ps sp:=
 by
 obtain⟨_,_,_,_,_,_,_,cdv,_,_,e,lk,hcd,_⟩:=F;subst e;exact u5 lk hcd S len λA outer s H vs Q E hr kG=>let⟨t,h,q⟩:=hbody cdv A outer s H vs Q E hr kG;⟨t,h.jb,q⟩
section
variable{K:aI}{m m':Nat->ai}{n n':Nat}{h h':VH}{H H':Hp}
theorem aJ.j5{v:V}{w:W}(q:aJ K m n H v w):W.lt n w=true:=
 aJ.rec (motive_1:=λ_ w _=>W.lt n w) (motive_2:=λ_ ws _=>W.ir n ws=true) rfl (λ_=>rfl) (λ_=>rfl) (λ_=>rfl) (λ_ _ r=>r) (λ_ _ r=>r) (λq=>gA.mpr q) rfl (λ{_ w _ ws} _ _ a b=>by show(W.lt n w&&W.ir n ws)=true;rw[a,b];rfl) q
theorem aG.j5{vs:List V}{ws:List W}(q:aG K m n H vs ws):W.ir n ws=true:=
 aG.rec (motive_1:=λ_ _ _=>True) (motive_2:=λ_ ws _=>W.ir n ws=true) trivial (λ_=>trivial) (λ_=>trivial) (λ_=>trivial) (λ_ _ _=>trivial) (λ_ _ _=>trivial) (λ_=>trivial) rfl (λ{_ w _ ws} a _ _ b=>by show(W.lt n w&&W.ir n ws)=true;rw[a.j5,b];rfl) q
theorem GG{w:W}{ws:List W}(e:W.ir n (w::ws)):W.lt n w=true/\W.ir n ws=true:=by
 have e:(W.lt n w&&W.ir n ws)=true:=e
 rwa [bw]at e
theorem aJ.cut{v:V}{w:W}(q:aJ K m n' H v w):W.lt n w=true->aJ K m n H v w:=
 aJ.rec (motive_1:=λv w _=>W.lt n w=true->aJ K m n H v w) (motive_2:=λvs ws _=>W.ir n ws=true->aG K m n H vs ws) (λ_=>.aL) (λb _=>.bl b) (λb _=>.int b) (λb _=>.str b) (λq _ r e=>.tup q (r e)) (λq _ r e=>.fz q (r e)) (λ_ e=>.ref (gA.mp e)) (λ_=>.nil) (λ_ _ a b e=>.cons (a (GG e).1) (b (GG e).2)) q
theorem aG.cut{vs:List V}{ws:List W}(q:aG K m n' H vs ws):W.ir n ws=true->aG K m n H vs ws:=
 aG.rec (motive_1:=λ_ _ _=>True) (motive_2:=λvs ws _=>W.ir n ws=true->aG K m n H vs ws) trivial (λ_=>trivial) (λ_=>trivial) (λ_=>trivial) (λ_ _ _=>trivial) (λ_ _ _=>trivial) (λ_=>trivial) (λ_=>.nil) (λa _ _ b e=>.cons (a.cut (GG e).1) (b (GG e).2)) q
theorem aM.cut{m':Nat->ai}{n1:Nat}{H':Hp}{vs us:List (Key×V)}{ws:List (Key×W)}(a:aM K m n' H vs ws):aM K m' n H' us ws->aM K m n H vs ws:=by
 induction a generalizing us with
 |nil=>intro _;exact .nil
 |cons q r ih=>
  intro b;cases b with|cons q2 r2=>exact .cons (q.cut q2.j5) (ih r2)
theorem Kp{lo:Nat}(r:Rel K m h H):Rel K m ⟨h.n,lo,h.os⟩ H:=⟨r.obj,r.inj,r.len⟩
theorem GH{w w2:W}{h1 h2:VH}{v:V}{Q:VK}(r:Rel K m h H)(s:bO m h.n H m' h1.n H')(r1:Rel K m' h1 H')(q:aJ K m' h1.n H' v w)(g:fL ⟨h.n,h.n,h.os⟩ h1)(e:leave h w h1=.ok w2 h2)(k:aN K m h.n H w2 h2 Q):Q v H':=by
 unfold leave at e;split at e;rename_i hc;cases e;rw[bw]at hc;have hlo:=lR hc.1;refine k v H' m' ⟨aZ _,s.same,λi a b=>absurd b (jn.mpr a),λi j a b=>absurd b (jn.mpr a),s.tup,s.bS,s.keep⟩ ⟨λi hi=>?_,λi j hi hj=>r1.inj i j (dF hi s.le) (dF hj s.le),r.len⟩ (q.cut hc.2);have hg:h1.get i=h.get i:=g.2.2 i hi (dF hi hlo);obtain⟨o,p1,p2⟩:=r1.obj i (dF hi s.le);rw[hg]at p1;refine⟨o,p1,?_⟩;have p3:=r.at_ p1;cases o with
 |lst ws=>
  obtain⟨vs,a1,a2⟩:=p2;obtain⟨us,b1,b2⟩:=p3;exact⟨vs,a1,a2.cut b2.j5⟩
 |dk ws=>
  obtain⟨vs,a1,a2⟩:=p2;obtain⟨us,b1,b2⟩:=p3;exact⟨vs,a1,aM.cut (n1:=0) a2 b2⟩
 |dm ws=>
  obtain⟨vs,a1,a2⟩:=p2;obtain⟨us,b1,b2⟩:=p3;exact⟨vs,a1,aM.cut (n1:=0) a2 b2⟩
 cases e;exact k v H' m' s (Kp r1) q
theorem SV{N:List Str}{vs:List V}{ws:List W}(q:aG K m n H vs ws):Fr K m n H (L2.start N vs) (ws.map aC++bN (N.length-ws.length) aD):=by
 unfold L2.start;refine⟨by simp[q.length],λi w e=>?_⟩;by_cases hi:i<ws.length;rw[uM (by simpa using hi)]at e;rw[uM (by simpa[q.length]using hi)];rw[dY]at e ⊢;cases z:ws[i]? with
 |none=>rw[z]at e;cases e
 |some w'=>
  rw[z]at e;cases e;obtain⟨v,h1,h2⟩:=q.get z;exact⟨v,by rw[h1];rfl,h2⟩
 rw[oX (by simpa using jn.mp hi)]at e;rw[Ff]at e;split at e<;>cases e
end
theorem C3{F:Nat->Option Fn}{k idx:Nat}{ws:List W}{h h':VH}{w:W}{fn:Fn}(hF:F idx=aC fn)(e:run F k idx ws h=.ok w h'):ws.length=fn.ps:=by
 cases k with
 |zero=>cases e
 |succ k=>
  simp only[run,hF]at e;split at e;rename_i hl;exact wY hl;cases e
theorem SY{P:aj}{w:ak}{K:aI}{mg:Str->Option af}{base:aA}{F:Nat->Option Fn}{k idx:Nat}{fn:Fn}{x qual:Str}{st:au}{f:ai}{fd:av}{N ps:List Str}(hF:F idx=aC fn)(Fu:j0 K x qual st f fd)(S:cy N ps (iM st))
 (hn:fn.n=N.length) (hp:fn.ps=ps.length)
 (hbody:∀(cdv:af)(A:ao)(outer:List Env)(s:ah)(H:Hp)(E:XK),cu k (A.deeper (envOfC qual (iM st) s.heap.objs.size f cdv))->Ke (ic lF P w K mg base N qual (iM st) f cdv A outer s H E).jb (zP st) (exs (run F k) fn.body)) :
 dZ P w K mg base lF (k+1) f fd ps (sd K ps.length (run F (k+1) idx)):=by
 refine Fu.ok S (λvs H Q E h=>h.1) λcdv A outer s H vs Q E hr kG=>?_;refine⟨_,hbody cdv A outer s H E hr,?_⟩;obtain⟨hl,h,m,ws,w2,h2,r,q,e,k2⟩:=kG;have hws:=C3 hF e;simp only[run,hF]at e;split at e;refine bJ e λfl h1 e1 e2=>?_;have g:=CO (CP F k) _ _ _ _ _ e1;have hN:fn.n-fn.ps=N.length-ws.length:=by rw[hn,hws]
 rw[hN]at e1;refine⟨_,⟨h.n,h.n,h.os⟩,m,fl,h1,SV q,Kp r,e1,λH' m' s' r'=>?_⟩;cases fl with|nx ρ=>exact λσ' f'=>GH r s' r' .aL g e2 k2|rt w3=>exact λv q3=>GH r s' r' q3 g e2 k2|bk _=>cases e2|ct _=>cases e2
 cases e
theorem S0{P:aj}{w:ak}{K:aI}{mg:Str->Option af}{base:aA}{F:Nat->Option Fn}{idx:Nat}{f:ai}{fd:av}{ps:List Str}:dZ P w K mg base lF 0 f fd ps (sd K ps.length (run F 0 idx)):=
 ⟨λvs H Q E h=>h.1,λA outer s H args us vs Q E hr he hb hv hs=>by obtain⟨_,h,m,ws,w2,h2,r,q,e,k2⟩:=hs;cases e⟩
noncomputable def qL(x:Str):Option Str:=if x==("Fault.__init__" : Str)then aC "__init__"else aD
noncomputable def fj(K:aI)(x:Str):Option ai:=if(qL x).isSome then aD else(match PySem.W.nsIn K mainGlobals x with|some (aC (.ref f))=>aC f|_=>aD)
theorem C4{K:aI}{x:Str}{f:ai}(h:fj K x=aC f):PySem.W.nsIn K mainGlobals x=aC (aC (.ref f)):=by unfold fj at h;split at h;cases h;split at h;rename_i g e;cases h;exact e;cases h
end RF
namespace L2
open PySem PySem.Spec PyProof.Rows
theorem S1:∀{vs:List V} {us:List af},Vals vs us->Vals (di vs) (di us)
 |[],_,q=>by cases q;exact .nil
 |[_],_,q=>by rcases q with _|⟨p,q⟩;cases q;exact .cons p .nil
 |_::_::_,_,q=>by rcases q with _|⟨p,q⟩;rcases q with _|⟨_,r⟩;exact .cons p (S1 r)
theorem S2{α β:Type}{f:α->Option β}{g:α->β}:∀{l:List α},(∀x∈l,f x=aC (g x))->l.filterMap f=l.map g
 |[],_=>rfl
 |x::r,h=>by
  rw[uO,h x gj,fD,S2 λy hy=>h y (fS _ hy)]
theorem C5(us:List af)(c:Nat)(hc:c<=1){lo:Option Int}(hlo:lo=if c=0 then aD else aC 1):slicePick us.toArray lo aD (aC 2)=(di (us.drop c)).toArray:=by
 have hb:sliceBounds lo aD (aC 2) us.length=(((min c us.length:Nat):Int),(us.length:Int),2):=by
  subst hlo;match c,hc with|0,_=>simp[sliceBounds]|1,_=>simp[sliceBounds];lia
 unfold slicePick;rw[eG,hb];congr 1;have hr:sliceRange ((min c us.length:Nat):Int) (us.length:Int) 2=(List.range ((us.length-c+1)/2)).map λ(k:Nat)=>c+2*k:=by
  unfold sliceRange;have Kq:(if(2:Int)>0 then(if((min c us.length:Nat):Int)< (us.length:Int)then((us.length:Int)- ((min c us.length:Nat):Int)+2-1)/2 else 0)else(if((min c us.length:Nat):Int)> (us.length:Int)then(((min c us.length:Nat):Int)- (us.length:Int)-2-1)/ (-2)else 0)).toNat=(us.length-c+1)/2:=by rw[if_pos (by decide)];split<;>lia
  show(List.range (if(2:Int)>0 then(if((min c us.length:Nat):Int)< (us.length:Int)then((us.length:Int)- ((min c us.length:Nat):Int)+2-1)/2 else 0)else(if((min c us.length:Nat):Int)> (us.length:Int)then(((min c us.length:Nat):Int)- (us.length:Int)-2-1)/ (-2)else 0)).toNat).map _=_;rw[Kq];refine List.map_congr_left λk hk=>?_;have:=oY.mp hk;lia
 rw[hr,List.filterMap_map];have hlen:(us.drop c).length=us.length-c:=wU;refine List.ext_getElem? λi=>?_;rw[Gh,List.getElem?_drop];rw[S2 (g:=λk=>us.getD (c+2*k) .none) λk hk=>by
  have:=oY.mp hk;show us.toArray[c+2*k]?=_;rw[List.getElem?_toArray,nQ,cM (by lia)];rfl]
 rw[dY];by_cases hi:i< (us.length-c+1)/2;rw[zu hi,lU,nQ,cM (by lia)];rfl;rw[jm (by rw[wR];lia),jm (by lia)];rfl
section
variable{X:Cx}{e k:aq}{lo:Option aq}{te:TE}{tl tk:TO}{pos p2:Pos}
theorem zuw(he:PE X e te)(hl:PO X lo tl)(hk:PO X (aC k) tk):PE X (.Subscript e (.Slice lo aD (aC k) p2) pos) (λσ H Q=>te σ H λx H1=>tl σ H1 λl H2=>tk σ H2 λo H3=>∃a xs c,x=.ref a/\c<=1/\l=(if c=0 then aD else aC 1)/\o=aC 2/\cJ X.K H3 a xs/\∀p,H3 p=aD->Q (.ref p) (upd H3 p (.lst (di (xs.drop c))))):=by intro pins s σ H Q I h;refine Subscript_ (bg (he pins s σ H _ I h) λv s1 z9=>z9.el λx H1 I1 r1 q1=>?_);refine wpAny_Slice ?_;refine bg (hl pins s1 σ H1 _ I1 q1) λvl s2 cj=>?_;obtain⟨l,H2,I2,pl,q2⟩:=cj;rw[evalPart_none];refine bR ?_;refine bg (hk pins s2 σ H2 _ I2 q2) λvk s3 cj=>?_;obtain⟨o,H3,I3,pk,q3⟩:=cj;obtain⟨a,xs,c,rfl,hc,rfl,rfl,hx,q⟩:=q3;cases r1;have I4:Inv X pins σ H3 {s3 with heap:=s3.heap.push {cls:=.type "slice",data:=.fields #[vl,.none,vk]}}:=I3.kept (t':=s3.toks) λb ob q=>cH _ q;obtain⟨its,r,ht,hz⟩:=I4.list hx;have hlen:=r.length;show wpAny (model X.prog X.w) X.A (subscriptTail e (.Slice lo aD (aC k) p2) (.ref a) (.ref s3.heap.objs.size)) (EP X pins σ Q) X.xe {s3 with heap:=s3.heap.push {cls:=.type "slice",data:=.fields #[vl,.none,vk]}};refine tail_any (ops:=[.ref a,.ref s3.heap.objs.size]) ht.isList.typeIs slot_list_getitem.lookup ?_ (by with_unfolding_all rfl);refine wpAny_getItem_list_slice ht.isList (Heap.IsSliceOf.new ..) pl .none pk (by decide) ?_ (by rw[eG]<;>lia);rw[C5 its c hc rfl];refine⟨.ref _,_,I4.laid (t':=s3.toks) (o:=.lst (di (xs.drop c))) (λb ob q=>cH _ q) (aZ _) ?_,rfl,q _ (I4.hok.fresh (aZ _))⟩;refine⟨?_,_,0,S1 (r.drop c),i8 _ rfl⟩;rw[RO,wU];lia
end
theorem S3:∀{ls:List Int} {us:List af},Vals (ls.map .int) us->IntsAre us ls|[],_,.nil=>.nil|x::r,_,.cons ⟨t,e⟩ h=>by subst e;exact .cons x t (S3 h)
section
variable{X:Cx}
noncomputable def zux:V->List V->Hp->VK->Prop:=λx vs H Q=>∃a b kvs more,x=.ref a/\vs=[.ref b]/\a≠b/\H a=aC (.dK kvs)/\H b=aC (.dK more)/\kvs.length+more.length<=sizeLine/\Q .aL (upd H a (.dK (rV kvs more)))
theorem zop:QS X "dict.update" zux:=by intro pins s σ H x vs v us Q I rx rv h;obtain⟨a,b,kvs,more,rfl,rfl,hne,hA,hB,hz,q⟩:=h;cases rx;obtain⟨u,rfl,ru⟩:=rv.one;cases ru;obtain⟨z1,hd1,vs1,C6,S4⟩:=kJ I.hok hA;obtain⟨z2,hd2,vs2,C7,dd2⟩:=kJ I.hok hB;refine call_meetsIn PySem.F.slot_dict_update S4.typeIs PySem.F.entry_dict_update (PySem.F.args_dict_update_2 _ _) (meets_dict_update (i9 X.prog X.w) a b hne hd2) ⟨vs1,vs2,S4,dd2,by rw[<-zE C6,<-zE C7];exact hz,λh' mZ _ hs=>?_⟩;have he:∃q,h'.get? a=aC q:=let⟨q,_,_,hq,_⟩:=mZ;⟨q,hq⟩;exact⟨.aL,_,BS I (by rw[hA];exact True.intro) hs he (F8 (eS (Ju more kvs) hz) hd1 (KV.merge C7 C6) mZ),rfl,q⟩
end
section
variable{X:Cx}
theorem zoq(hc:X.calm):cA X (.builtin "max") (λxs H Q=>∃(p:ai) (ns:List Int),xs=[.ref p]/\cJ X.K H p (ns.map .int)/\0<ns.length/\∀M,M∈ns->(∀a∈ns,a<=M)->Q (.int M) H):=by
 intro pins s σ H xs us Q I r h;obtain⟨p,ns,rfl,hq,hne,q⟩:=h;obtain⟨u,rfl,ru⟩:=vals1 r;cases ru;obtain⟨its,rv,pl,hz⟩:=I.list hq;have hL:s.heap.IsList p its.toArray:=pl.isList;have hi:=S3 rv;obtain⟨ys,hx⟩:=hi.allInts.items;have hl':s.heap.IsList p (intItems ys):=hx▸hL;have hns:ns=ys.toList.map (·.1):=by rw[<-nums_intItems,<-hx];exact(show numsOf its.toArray.toList=ns from hi.numsOf).symm
 have hsz:0<ys.size:=by rw[hns,bG,zD]at hne;exact hne
 refine max_intList (I.ok.hd hc) hl' hsz λv h' tk hv hk=>?_;obtain⟨t,rfl⟩:=intItems_at hv;obtain⟨h1,h2⟩:=argBest_gt (numAt ys) (ys.size-1);refine⟨.int _,H,I.kept (t':=tk) hk,⟨_,rfl⟩,q _ ?_ λa ha=>?_⟩;rw[hns,numAt_eq];exact getD_mem (by rw[bG,zD];lia);rw[hns]at ha;obtain⟨j,hj,rfl⟩:=mem_getD ha;rw[bG,zD]at hj;rw[<-numAt_eq];exact h2 j (by lia)
end
end L2
namespace RF
open PySem PySem.Spec PyProof.Rows L2
section
variable{K:aI}{m:Nat->ai}{h:VH}{H:Hp}
theorem zy5{a:ai}{u:HO}(e:H a=aC u):upd H a u=H:=by funext b;by_cases z:b=a;subst z;rw[gn,e];rw[bX z]
theorem Rel.Kr(r:Rel K m h H){i:Nat}{kvs:List (Key×W)}(g:h.get i=aC (.dm kvs)):Rel K m (h.set i (.dk kvs)) H:=by
 obtain⟨vs,p1,p2⟩:=r.dm g;obtain⟨_,r'⟩:=r.write (i:=i) (o:=.dk kvs) (u:=.dK vs) (bV g) p1 (λ_ z=>nomatch z) (λ_ _ z=>nomatch z) λst=>⟨vs,.inl gn,p2.stp st⟩
 rw[zy5 p1]at r';exact r'
theorem aN.C8{Q:VK}(k:aN K m h.n H (.ref h.n) (h.new (.dm [])) Q)(r:Rel K m h H){p:ai}(hp:H p=aD):Q (.ref p) (upd H p (.dK [])):=by obtain⟨st,r'⟩:=r.alloc (o:=.dm []) (u:=.dK []) hp (λ_ z=>nomatch z) (λst=>⟨[],gn,.nil⟩);refine k _ _ _ st r' ?_;have:aJ K (λi=>if i=h.n then p else m i) (h.n+1) (upd H p (.dK [])) (.ref ((λi=>if i=h.n then p else m i) h.n)) (.ref h.n):=.ref (jF _);simp only[dg]at this;exact this
end
section
variable{X:Cx}{e o a k:aq}{lo:Option aq}{fa fo:FE}{pos p2:Pos}
theorem zy6:SE X (.Dict [] [] pos) (jX mw xY):=Ye.imp λσ H Q z9 p hp=>z9.el λρ h m w h' f r e k=>by
 cases e;exact aN.C8 k r hp
theorem zy7(he:SE X e fa):SE X e (jX (jc fa mw) oE):=he.imp λσ H Q z9=>z9.el λρ h m w h' f r e k=>by
 refine bJ e λy h1 e1 e2=>?_;refine bJ e1 λx h2 e3 e4=>?_;cases e4;refine(.mk f r e3 λv H1 m1 s1 r1 q1=>?_);dsimp only at e2;unfold oE at e2;split at e2;rename_i i heq;cases heq;split at e2;rename_i kvs g;cases e2;exact k v H1 m1 s1 (r1.Kr g) q1;cases e2;cases e2
theorem zor{apos:Pos}(ho:SE X o fo)(he:SE X e fa)(hb:CB o)(hs:fK e)(hl:(apos.endLine==pos.line)) :
 SE X (.Call (.Attribute o "update" apos) [e] [] pos) (JT .update fo (jc fa mw)):=by
 refine(mX (X:=X) PySem.F.plainAttrs_dict PySem.F.slot_dict_update PySem.F.type_dict_update zop ho (nY he pZ (dX hs)) (JS hb) ?_ hl (dX hs) rfl).imp λσ H Q z9=>z9.el λρ h m w h' f r e k=>?_;rw[dX hs];rfl;refine bJ e λx h1 e1 e2=>?_;split at e2;rename_i hk;refine bJ e2 λy h2 e3 e4=>?_;refine bJ e3 λz h3 e5 e6=>?_;cases e6;refine(.mk f r e1 λv H1 m1 s1 r1 q1=>?_);cases x<;>try cases hk
 rename_i i;simp only[mh]at hk;split at hk;rename_i kvs0 g;cases q1;obtain⟨tH,p1,_⟩:=r1.dm g;refine⟨.inr (.inr (.inl ⟨rfl,.inl ⟨tH,p1⟩⟩)),ρ,h1,m1,z,h2,f.stp s1,r1,e5,λv2 H2 m2 s2 r2 q2=>?_⟩;cases z<;>try cases e4
 rename_i j;simp only[lG]at e4;unfold qq at e4;split at e4;rename_i kvs more ga gb;split at e4;cases e4;rename_i hab;split at e4;rename_i hz;cases e4;cases q2;obtain⟨va,a1,a2⟩:=r2.dm ga;obtain⟨vb,b1,b2⟩:=r2.dm gb;have hne:m2 i≠m2 j:=λz=>hab (by rw[r2.inj _ _ (bV ga) (bV gb) z];exact Nat.beq_refl _);have hmi:m1 i=m2 i:=(s2.same i (bV g)).symm;have hz':va.length+vb.length<=sizeLine:=by rw[a2.length,b2.length,AH];have:=pR.mp hz;lia
 refine⟨m1 i,m2 j,va,vb,rfl,rfl,by rw[hmi];exact hne,by rw[hmi];exact a1,b1,hz',?_⟩;obtain⟨st,r'⟩:=r2.write (i:=i) (o:=.dm (Gk kvs more)) (u:=.dK (rV va vb)) (bV ga) a1 (λ_ z=>nomatch z) (λ_ _ z=>nomatch z) λst=>⟨_,gn,aM.merge (b2.stp st) (a2.stp st)⟩
 rw[hmi];exact k _ _ _ ((s1.trans s2).trans st) r' .aL;cases e4;cases e4;cases hk;cases e2
theorem aG.di{K:aI}{m:Nat->ai}{n:Nat}{H:Hp}:∀{vs:List V} {ws:List W},aG K m n H vs ws->aG K m n H (L2.di vs) (L2.di ws)
 |[],_,q=>by cases q;exact .nil
 |[_],_,q=>by rcases q with _|⟨p,q⟩;cases q;exact .cons p .nil
 |_::_::_,_,q=>by rcases q with _|⟨p,q⟩;rcases q with _|⟨_,r⟩;exact .cons p (di r)
theorem aG.vq{K:aI}{m:Nat->ai}{n:Nat}{H:Hp}:∀(c:Nat) {vs:List V} {ws:List W},aG K m n H vs ws->aG K m n H (vs.drop c) (ws.drop c)|0,_,_,q=>q|c+1,_,_,.nil=>.nil|c+1,_,_,.cons _ r=>r.vq c
theorem zuy{w:W}{c:Nat}(h:tO w=aC c):c<=1/\((w=.aL/\c=0)\/(w=.int 1/\c=1)):=by unfold tO at h;split at h;cases h;exact⟨by decide,.inl ⟨rfl,rfl⟩⟩;split at h;rename_i q;cases h;subst q;exact⟨by decide,.inr ⟨rfl,rfl⟩⟩;cases h;cases h
end
section
variable{X:Cx}{a k:aq}{lo:Option aq}{x y z:E}{bl:Bool}{cl:Call}{pos p2:Pos}
theorem zy8(ha:SE X a (ev cl x))(hl:PO X lo (jw X.K bl (ev cl y)))(hk:SE X k (ev cl z))(hy:(bl=false/\y=.cst .aL)\/(bl=true/\y=.cst (.int 1))):SE X (.Subscript a (.Slice lo aD (aC k) p2) pos) (ev cl (.bi .st2 (.cons x (.cons y (.cons z .nil))))):=
 (zuw ha hl (R3 hk)).imp λσ H Q z9=>z9.el λρ h m w h' f r e k=>by
   refine bJ e λw0 h1 e1 e2=>?_;refine bJ e1 λw1 h2 e3 e4=>?_;refine bJ e4 λw2 h3 e5 e6=>?_;refine bJ e5 λw3 h4 e7 e8=>?_;refine bJ e8 λw4 h5 e9 JU=>?_;refine bJ e9 λw5 h6 e11 e12=>?_;refine bJ e12 λw6 h7 e13 e14=>?_;cases e13;cases e14;cases JU;cases e6;have vt:oF [w1,w3,w5] h1=.ok w h':=e2;clear e2;unfold oF at vt;split at vt;rename_i i l kk heq;cases heq;split at vt;rename_i ws c g hc;split at vt;rename_i hk2;subst hk2;cases vt;obtain⟨hc1,hc2⟩:=zuy hc;refine .mk f r e3 λv1 H1 m1 s1 r1 q1=>?_;have hp:eY bl w3=aC (if c=0 then aD else aC 1):=by rcases hy with⟨rfl,rfl⟩|⟨rfl,rfl⟩;cases e7;rcases hc2 with⟨_,rfl⟩|⟨z,_⟩;rfl;cases z;cases e7;rcases hc2 with⟨z,_⟩|⟨_,rfl⟩;cases z;rfl
   refine .mk (f.stp s1) r1 e7 hp λH2 m2 s2 r2=>?_;refine .mk ((f.stp s1).stp s2) r2 e11 rfl λH3 m3 s3 r3=>?_;cases(q1.stp s2).stp s3;obtain⟨vs,g1,g2⟩:=r3.lst g;refine⟨_,vs,c,rfl,hc1,rfl,rfl,cJ.of g1,λp hp=>?_⟩;exact aN.list (λv' H' m' s' r' q'=>k v' H' m' (((s1.trans s2).trans s3).trans s') r' q') r3 (g2.vq c).di hp;cases vt;cases vt;cases vt
end
end RF
namespace XR
open PySem PySem.Spec PyProof.Rows
section
variable{M:Model}{A:ao}{E:af->ah->Prop}{s:ah}{base:aA}{env:Env}{outer:List Env}{L e:ai}{c:af}{dx:Option ai}{vs:Array af}{sl:Array (Option af)}
structure Nt(fs ts:List ai)(h h':aA):Prop where
 keep:∀b o,h.get? b=aC o->b∉fs->b∉ts->h'.get? b=aC o
 slot:∀b o,h.get? b=aC o->b∈fs->b∉ts->∃sl,h'.get? b=aC {o with slots:=sl}
 size:h.objs.size<=h'.objs.size
theorem Nt.trans{fs ts:List ai}{h h1 h2:aA}(a:Nt fs ts h h1)(b:Nt fs ts h1 h2):Nt fs ts h h2:=
 ⟨λx o q n m=>b.keep x o (a.keep x o q n m) n m,λx o q n m=>by
  obtain⟨s1,q1⟩:=a.slot x o q n m;obtain⟨s2,q2⟩:=b.slot x _ q1 n m;exact⟨s2,q2⟩,eS a.size b.size⟩
theorem Nt.mono{fs ts ts':List ai}{h h':aA}(a:Nt fs ts h h')(k:∀b∈ts,b∈ts'):Nt fs ts' h h':=
 ⟨λx o q n m=>a.keep x o q n λz=>m (k x z),λx o q n m=>a.slot x o q n λz=>m (k x z),a.size⟩
theorem Nt.upd{fs:List ai}{h:aA}{b:ai}{f:Obj->Obj}:Nt fs [b] h (h.update b f):=by have k:∀x,x∉[b]->(h.update b f).get? x=h.get? x:=λx m=>wX _ _ λz=>m (by simp[z]);exact⟨λx o q _ m=>(k x m).trans q,λx o q _ m=>⟨o.slots,(k x m).trans q⟩,zz (Heap.size_after_update ..).symm⟩
theorem Nt.push{fs ts:List ai}{h h':aA}{o:Obj}(a:Nt fs ts h h'):Nt fs ts h (h'.push o):=
 ⟨λx ob q n m=>cH _ (a.keep x ob q n m),λx ob q n m=>by
  obtain⟨s1,q1⟩:=a.slot x ob q n m;exact⟨s1,cH _ q1⟩,by rw[kg];exact Fx a.size⟩
theorem S5{h:aA}{b:ai}{c:af}{dx:Option ai}{vs:Array af}{sl:Array (Option af)}{f:Array af->Array af}(q:h.get? b=aC ⟨c,dx,.fields vs,sl⟩) :
 (h.update b (Obj.mapFields f)).get? b=aC ⟨c,dx,.fields (f vs),sl⟩:=Fv (Obj.mapFields f) q rfl
theorem S6{hd:af}{more:Bool}{Q:Unit->ah->Prop}(hfr:A.frames=aC (env::outer))(hl:s.heap.FunFrames base (env::outer))(hf:env.frame=aC L)
 (he:s.heap.get? e=aC ⟨c,dx,.fields vs,sl⟩) (hne:e∉(env::outer).filterMap (·.frame)) (hz:1<vs.size)
 (h:∀h' ts,Nt ((env::outer).filterMap (·.frame)) [e] s.heap h'->h'.get? e=aC ⟨c,dx,.fields (vs.setIfInBounds 1 (.ref s.heap.objs.size)),sl⟩->h'.get? s.heap.objs.size=aC ⟨.type "traceback",aD,.fields ts,#[]⟩->ts[3]?=aC (rawInt L)->Q () {s with heap:=h'}) :
 wpAny M A (do let a <-frameOf env;let pl <-entryPlaceOf L more;let b <-EntryCells.newEntry hd a .none (rawInt L) .none pl;setField (.ref e) 1 b) Q E s:=by
 refine aK (wpAny_frameOf_fun hfr hl hf λh1 so=>aK (wpAny_entryPlaceOf λpl hpl=>?_));have n1:Nt ((env::outer).filterMap (·.frame)) [e] s.heap h1:=⟨λb o q n _=>(so.2.1 b n).trans q,λb o q _ _=>so.2.2 b o q,zz so.1.symm⟩
 have e1:h1.get? e=aC ⟨c,dx,.fields vs,sl⟩:=(so.2.1 e hne).trans he;unfold EntryCells.newEntry newFields;refine aK (rL ?_ (hpl.sizeOk5 _ _ _ _ _));refine AD (cH _ e1) rfl hz ?_;have hsz:h1.objs.size=s.heap.objs.size:=so.1;have hlt:e<h1.objs.size:=cN e1;rw[hsz];refine h _ ([hd,.ref L,.none,rawInt L,.none]++(if pl.isEmpty then bN 6 Value.none else pl)).toArray (n1.push.trans Nt.upd) (S5 (cH _ e1)) ?_ ?_;rw[wX _ _ (by rw[<-hsz];exact fN hlt),<-hsz];exact i8 _ rfl;first|(simp;done)|(rcases hpl with rfl|⟨_,_,_,_,_,_,_,rfl⟩<;>simp)
structure Ex(h:aA)(e T C:ai)(dx:Option ai)(fl:Option af):Prop where
 ex:∃vs sl,h.get? e=aC ⟨.ref C,dx,.fields vs,sl⟩/\match fl with|none=>vs[1]?=aC .none|some f=>vs[1]?=aC (.ref T)/\T≠e/\∃ts,h.get? T=aC ⟨.type "traceback",aD,.fields ts,#[]⟩/\ts[3]?=aC f
theorem note{C T:ai}{fl:Option af}{Q:Unit->ah->Prop}(hfr:A.frames=aC (env::outer))(hl:s.heap.FunFrames base (env::outer))(hf:env.frame=aC L)
 (x:Ex s.heap e T C dx fl) (hne:e∉(env::outer).filterMap (·.frame)) (hnt:T∉(env::outer).filterMap (·.frame)) (hfl:fl=aD\/fl=aC .none)
 (h:∀h',Nt ((env::outer).filterMap (·.frame)) [e,T] s.heap h'->Ex h' e s.heap.objs.size C dx (aC (rawInt L))->Q () {s with heap:=h'}):wpAny M A (noteFrame (.ref e) env) Q E s:=by
 obtain⟨vs,sl,he,hx⟩:=x.ex;unfold noteFrame;simp only[hf];rcases hfl with rfl|rfl;have h1:vs[1]?=aC .none:=hx;refine aK (jR he rfl h1 ?_);rw[if_neg (by decide)];refine S6 hfr hl hf he hne (zC.mp h1).1 λh' ts n q1 q2 q3=>h h' (n.mono λb z=>by simp at z;simp[z]) ⟨_,_,q1,?_,?_,_,q2,q3⟩;rw[Array.getElem?_setIfInBounds_self_of_lt (zC.mp h1).1];exact oZ (cN he);obtain⟨h1,GI,ts,ht,h3⟩:=(show vs[1]?=aC (.ref T)/\T≠e/\∃ts,s.heap.get? T=aC ⟨.type "traceback",aD,.fields ts,#[]⟩/\ts[3]?=aC Value.none from hx)
 refine aK (jR he rfl h1 ?_);rw[if_pos (show(Value.ref T != Value.none)=true from by simp)];refine aK (jR ht rfl h3 ?_);rw[if_neg (show ¬((Value.none==rawInt L)=true)from by simp[rawInt])];refine aK (AD ht rfl (zC.mp h3).1 ?_);have n0:Nt ((env::outer).filterMap (·.frame)) [T] s.heap (s.heap.update T (Obj.mapFields (·.setIfInBounds 3 .none))):=Nt.upd;have sz:(s.heap.update T (Obj.mapFields (·.setIfInBounds 3 .none))).objs.size=s.heap.objs.size:=Heap.size_after_update ..;refine S6 (base:=base) hfr (hl.of_keeps λb o q nf=>?_) hf (n0.keep e _ he hne (by simpa using eT GI)) hne (zC.mp h1).1 λh' ts' n q1 q2 q3=>?_;by_cases hb:b=T;subst hb;rw[ht]at q;cases q;exact absurd rfl (nf ts);exact⟨o,(wX _ _ (eT hb)).trans q,rfl⟩;rw[sz]at q1 q2;refine h h' ((n0.mono λb z=>by simp at z;simp[z]).trans (n.mono λb z=>by simp at z;simp[z])) ⟨_,_,q1,?_,?_,_,q2,q3⟩;rw[Array.getElem?_setIfInBounds_self_of_lt (zC.mp h1).1];exact oZ (cN he)
theorem land{C T:ai}{f:af}{fs:List ai}{Q:Unit->ah->Prop}(x:Ex s.heap e T C dx (aC f))(h:∀h',Nt fs [T] s.heap h'->Ex h' e T C dx (aC .none)->Q () {s with heap:=h'}):wpAny M A (setFlight (.ref e) aD) Q E s:=by obtain⟨vs,sl,he,h1,GI,ts,ht,h3⟩:=x.ex;unfold setFlight;refine aK (jR he rfl h1 ?_);rw[if_pos (show(Value.ref T != Value.none)=true from by simp)];have l3:=(zC.mp h3).1;refine AD ht rfl l3 (h _ Nt.upd ⟨vs,sl,(wX _ _ GI).trans he,h1,GI,_,S5 ht,?_⟩);rw[Array.getElem?_setIfInBounds_self_of_lt l3];rfl
theorem leave{C T:ai}{fl:Option af}{Q:Unit->ah->Prop}(hfr:A.frames=aC (env::outer))(hl:s.heap.FunFrames base (env::outer))(hf:env.frame=aC L)
 (x:Ex s.heap e T C dx fl) (hne:e∉(env::outer).filterMap (·.frame)) (hnt:T∉(env::outer).filterMap (·.frame)) (hfl:fl=aD\/fl=aC .none)
 (h:∀h',Nt ((env::outer).filterMap (·.frame)) [e,T,s.heap.objs.size] s.heap h'->Ex h' e s.heap.objs.size C dx (aC .none)->Q () {s with heap:=h'}):wpAny M A (leaving env (.ref e)) Q E s:=by
 unfold leaving;refine aK (note hfr hl hf x hne hnt hfl λh1 n1 x1=>land (fs:=(env::outer).filterMap (·.frame)) x1 λh2 n2 x2=>h h2 ((n1.mono λb z=>?_).trans (n2.mono λb z=>?_)) x2);simp at z;rcases z with z|z<;>simp[z]
 simp at z;simp[z]
end
end XR
namespace L2
open PySem PySem.Spec PyProof.Rows
noncomputable def jf(C:ai)(dx:Option ai)(a:ai):HO:=.ext λh=>∃vs sl,h.get? a=aC ⟨.ref C,dx,.fields vs,sl⟩
section
variable{P:aj}{w:ak}{H:Hp}{h:aA}{a C:ai}{dx:Option ai}{vs:Array af}{sl:Array (Option af)}
theorem S7(e:h.get? a=aC ⟨.ref C,dx,.fields vs,sl⟩):br P w H h a (jf C dx a):=⟨⟨vs,sl,e⟩,⟨_,e⟩,λ_ _ ⟨v',s',q⟩ k=>⟨v',s',k _ q⟩⟩
theorem zuz(ok:eE P w H h)(e:H a=aC (jf C dx a)):∃vs sl,h.get? a=aC ⟨.ref C,dx,.fields vs,sl⟩:=(ok a _ e).1
end
noncomputable def se(P:aj)(w:ak):nZ:=λouter H s E e s'=>∃x T C dx H',e=.ref x/\s'.os=s.os/\AllBare s'.gens/\Un (frs outer) [] H H' s.heap s'.heap/\eE P w H' s'.heap/\XR.Ex s'.heap x T C dx (aC .none)/\
 s.heap.objs.size<=x/\s.heap.objs.size<=T/\H' x=aC (jf C dx x)/\H' T=aD/\E (.ref C) dx H'
noncomputable def iF(X:Cx)(E:XK)(e:af)(s':ah):Prop:=∃x T C dx fl pins σ H',e=.ref x/\Inv X pins σ H' s'/\XR.Ex s'.heap x T C dx fl/\((fl=aD/\T=x)\/(fl=aC .none/\H' T=aD))/\
 X.s₀.heap.objs.size<=x/\X.s₀.heap.objs.size<=T/\H' x=aC (jf C dx x)/\E (.ref C) dx H'
section
variable{X:Cx}{E:XK}{pins:List (ai×Obj)}{σ:St}{H:Hp}{s:ah}
theorem Inv.kD{b:ai}{c:af}{d:Option ai}{vs:Array af}{sl:Array (Option af)}(I:Inv X pins σ H s)(e:s.heap.get? b=aC ⟨c,d,.fields vs,sl⟩):b∉frs X.stack:=λhb=>by
 obtain⟨_,o,ho,nf⟩:=I.stack.mem hb;rw[e]at ho;cases ho;exact nf vs rfl
theorem Ex.kD{x T C:ai}{dx:Option ai}{fl:Option af}(I:Inv X pins σ H s)(q:XR.Ex s.heap x T C dx fl)(h:(fl=aD/\T=x)\/(fl=aC .none/\H T=aD)):x∉frs X.stack/\T∉frs X.stack:=by obtain⟨vs,sl,he,r⟩:=q.ex;refine⟨I.kD he,?_⟩;rcases h with⟨_,rfl⟩|⟨rfl,_⟩;exact I.kD he;obtain⟨_,_,ts,ht,_⟩:=r;exact I.kD ht
theorem eE.noted{fs ts:List ai}{h':aA}{x C:ai}{dx:Option ai}{vs:Array af}{sl:Array (Option af)}{P:aj}{w:ak}(ok:eE P w H s.heap)(n:XR.Nt fs ts s.heap h')(hf:∀b∈fs,H b=aD)(ht:∀b∈ts,b=x\/H b=aD)
 (hx:H x=aC (jf C dx x)) (e:h'.get? x=aC ⟨.ref C,dx,.fields vs,sl⟩):eE P w H h':=λb u q=>by
 by_cases hb:b=x;subst hb;rw[hx]at q;cases q;exact S7 e;refine(ok b u q).stay (λc v hc k=>n.keep c v k ?_ ?_) (λ_ z=>z) λ_ _ z=>z;intro z;have:=hf c z;rcases hc with rfl|hc
 rw[q]at this;cases this;rw[hc]at this;cases this;intro z;rcases ht c z with rfl|z
 rcases hc with rfl|hc;exact hb rfl;rw[hx]at hc;cases hc;rcases hc with rfl|hc;rw[q]at z;cases z;rw[hc]at z;cases z
theorem zu0{e:af}{s':ah}{Er:af->ah->Prop}(hs:X.stack=X.env::X.outer)(hf:X.env.frame=aC X.env.locals)(hx0:X.ex=[])(q:iF X E e s') :
 wpAny (model X.prog X.w) X.A (leaving X.env e) (λ_ s''=>se X.prog X.w X.outer X.H₀ X.s₀ E e s'') Er s':=by
 obtain⟨x,T,C,dx,fl,pins,σ,H',rfl,I,ex,hfl,lx,lT,hx,hE⟩:=q;obtain⟨nx,nT⟩:=Ex.kD I ex hfl;have S8:=I.iX;have stk:=I.stack;have sub:=I.jT;rw[hs]at nx nT S8 stk sub;refine XR.leave (base:=X.base) (L:=X.env.locals) (by rw[I.ok.frames,hs]) stk hf ex nx nT (hfl.elim (λz=>.inl z.1) λz=>.inr z.1) λh' n ex'=>?_;have S9:∀b o,X.s₀.heap.get? b=aC o->b<X.s₀.heap.objs.size:=λb o q=>cN q;have sz:=I.sz;have GJ:∀b o,X.s₀.heap.get? b=aC o->b∉[x,T,s'.heap.objs.size]:=λb o q z=>by
  have:=S9 b o q;simp at z;rcases z with z|z|z<;>rw[z]at this
  exact absurd lx (Nat.not_le.mpr this);exact absurd lT (Nat.not_le.mpr this);exact absurd sz (Nat.not_le.mpr this)
 have nL:∀b o,X.s₀.heap.get? b=aC o->b≠X.env.locals:=λb o q=>fN (dF (S9 b o q) I.ok.above);obtain⟨vs,sl,he,r⟩:=ex'.ex;have hb:=I.base;rw[hx0]at hb;refine⟨x,s'.heap.objs.size,C,dx,H',rfl,I.os,I.bare,⟨λb o q z hb1 hb2=>?_,λb o q z hb1 hb2=>?_,hb.free,λb o q hb2=>?_,hb.tups,hb.iL,hb.ja⟩,eE.noted I.hok n S8 (λb z=>?_) hx he,ex',lx,sz,hx,I.hok.fresh (aZ _),hE⟩;refine n.keep b o (hb.keep b o q z hb1 hb2) (λm=>?_) (GJ b o q);rcases eO.mp (sub b m)with m|m
 exact nL b o q m;exact hb1 m;obtain⟨s1,q1⟩:=hb.slot b o q z hb1 hb2;obtain⟨s2,q2⟩:=n.slot b _ q1 (by show b∈(X.env::X.outer).filterMap (·.frame);rw[uO,hf];exact fS _ hb1) (GJ b o q);exact⟨s2,q2⟩;obtain⟨o',q1⟩:=hb.there b o q hb2;by_cases m:b∈(X.env::X.outer).filterMap (·.frame);obtain⟨s2,q2⟩:=n.slot b o' q1 m (GJ b o q);exact⟨_,q2⟩;exact⟨o',n.keep b o' q1 m (GJ b o q)⟩;simp at z;rcases z with rfl|rfl|rfl
 exact .inl rfl;rcases hfl with⟨_,z⟩|⟨_,z⟩
 exact .inl z;exact .inr z;exact .inr (I.hok.fresh (aZ _))
theorem zou{C:ai}{x:Str}{p cpos pos:Pos}(M:Jq X.K C)(hc:X.calm)(hg:Gl X x)(hm:X.mg x=aC (.ref C))(hdb:autoParam ((x==("__debug__" : Str))=false) L2.aD1._auto_1) :
 PS (X.eU (iF X E)) (.Raise (aC (.Call (.Name x p) [] [] cpos)) aD pos) (λ_ _ H=>∀a,H a=aD->E (.ref C) aD (upd H a (jf C aD a))):=by
 intro pins s σ H D I h;have I:=I.ck;obtain⟨nm,qn,N,bs,bm,hd,sn,sub,ab,col,dd,k0,k1,k2,k3,k5,hC,T⟩:=XL.fF I.gT M.cls;have hb:bm.contains (.type "BaseException")=true:=T.hasType (by decide +kernel);have ev:wpAny (model X.prog X.w) X.A (eval (.Call (.Name x p) [] [] cpos) X.env) (λv s1=>∃e t,v=.ref e/\s1.heap.get? C=aC (excClassObj nm qn C N bs bm hd sn sub ab col dd k0 k1 k2 k3 k5 "ValueError.__new__")/\s1.heap.get? e=aC (XL.fV C aD t)/\iF X E (.ref e) s1) (iF X E) s:=by refine wK (xr I hg hm ?_ hdb);refine PySem.W.callWith_K0 I.gT M.kp (XL.n6 I.gT M.cls M.init (lS _) λh' t kk he=>?_);have hle:s.heap.objs.size<=s.heap.objs.size+1:=o8 _;exact⟨_,t,rfl,kk _ _ hC,he,_,_,C,aD,aD,pins,σ,_,rfl,I.laid (t':=s.toks) kk hle (S7 he),⟨_,_,he,rfl⟩,.inl ⟨rfl,rfl⟩,eS I.sz hle,eS I.sz hle,gn,h _ (I.hok.fresh hle)⟩
 show wpAny (model X.prog X.w) X.A (exec (.Raise (aC (.Call (.Name x p) [] [] cpos)) aD pos) X.env) _ (iF X E) s;rw[arm_exec_Raise];first
  |exact aK (kB (wpAny_raiseStmt_made_sub (C:=C) hb (I.ok.hd hc) (aK (bg ev λv s1 q=>aK (kB (bR q))))))
  |(simp only[evalOpt,Option.map];exact aK (kB (wpAny_raiseStmt_made_sub (C:=C) hb (I.ok.hd hc) (aK (bg ev λv s1 q=>aK (kB (bR q)))))))
  |(show wpAny _ _ (do standAt pos;raiseStmt X.env (aC (do let v <-eval (.Call (.Name x p) [] [] cpos) X.env;standAt pos;pure v)) aD) _ _ s;exact aK (kB (wpAny_raiseStmt_made_sub (C:=C) hb (I.ok.hd hc) (aK (bg ev λv s1 q=>aK (kB (bR q)))))))
end
structure At(X:Cx)(pins:List (ai×Obj))(σ:St)(H:Hp)(s:ah)(x T C:ai)(dx:Option ai)(f:af):Prop where
 I:Inv X pins σ H s
 ex:XR.Ex s.heap x T C dx (aC f)
 hx:H x=aC (jf C dx x)
 hT:H T=aD
 lx:X.s₀.heap.objs.size<=x
 lT:X.s₀.heap.objs.size<=T
 pT:∀p∈X.pn++pins,p.1≠T
section
variable{X:Cx}{pins:List (ai×Obj)}{σ:St}{H:Hp}{s:ah}{x T C:ai}{dx:Option ai}{f f':af}
theorem Inv.nh{b:ai}{c:af}{d:Option ai}{vs:Array af}{sl:Array (Option af)}(I:Inv X pins σ H s)(e:s.heap.get? b=aC ⟨c,d,.fields vs,sl⟩):b≠X.env.locals/\∀y c,X.env.cells.lookup y=aC c->c≠b:=by refine⟨?_,?_⟩;rintro rfl;obtain⟨m,⟨o,es,ep,ho,hd,_⟩,_⟩:=I.loc;rw[e]at ho;cases ho;cases hd;rintro y c' hc rfl;obtain⟨v,o,ho,hd⟩:=I.cell y c' hc;rw[e]at ho;cases ho;cases hd
theorem At.step{h':aA}{ts:List ai}{T':ai}(a:At X pins σ H s x T C dx f)(n:XR.Nt (frs X.stack) ts s.heap h')(hts:∀b∈ts,b=x\/b=T\/b=s.heap.objs.size)(Ks:T'=T\/T'=s.heap.objs.size)
 (ex':XR.Ex h' x T' C dx (aC f')):At X pins σ H {s with heap:=h'} x T' C dx f':=by
 obtain⟨vs,sl,he,_⟩:=ex'.ex;obtain⟨tH,sl0,Tc,_,_,ts0,ht0,_⟩:=a.ex.ex;have I:=a.I;have fr:∀b,s.heap.objs.size<=b->H b=aD:=λb z=>I.hok.fresh z;have np:∀p∈X.pn++pins,p.1<s.heap.objs.size:=λp hp=>cN (I.pin p hp).1;have fx:∀b,H b=aD->b≠x:=λb z q=>by rw[q,a.hx]at z;cases z
 have un:∀b∈ts,b≠x->H b=aD:=λb hb q=>by
  rcases hts b hb with z|z|z;exact absurd z q;rw[z];exact a.hT;rw[z];exact fr _ (aZ _)
 have I':Inv X pins σ H {s with heap:=h'}:=by
  refine I.call (h':=h') (g':=s.gens) (d':=s.drawn) (t':=s.toks) (ch:=ts) ⟨λb o q z hb hc=>n.keep b o q hb hc,λb o q z hb hc=>n.slot b o q hb hc,λb o q z _=>z,λb o q hc=>?_,λ_ _ q=>q,λ_ _ _ q=>q,λb ps q=>⟨#[],by rw[q];simp⟩⟩
   (eE.noted I.hok n I.iX (λb z=>?_) a.hx he) I.bare λb hb=>?_
  by_cases m:b∈frs X.stack;obtain⟨s2,q2⟩:=n.slot b o q m hc;exact⟨_,q2⟩;exact⟨o,n.keep b o q m hc⟩;by_cases q:b=x;exact .inl q;exact .inr (un b z q);rcases hts b hb with rfl|rfl|rfl
  exact⟨.inr a.lx,(I.nh Tc).1,(I.nh Tc).2,λp hp q=>by have:=(I.pin p hp).2.1;rw[q,a.hx]at this;cases this⟩;exact⟨.inr a.lT,(I.nh ht0).1,(I.nh ht0).2,a.pT⟩;refine⟨.inr I.sz,oZ I.lt,λy c hc=>?_,λp hp=>fN (np p hp)⟩;obtain⟨v,o,ho,_⟩:=I.cell y c hc;exact fN (cN ho)
 refine⟨I',ex',a.hx,?_,a.lx,?_,?_⟩;rcases Ks with rfl|rfl
 exact a.hT;exact fr _ (aZ _);rcases Ks with rfl|rfl
 exact a.lT;exact I.sz;rcases Ks with rfl|rfl
 exact a.pT;exact λp hp=>fN (np p hp)
theorem At.noted{E:af->ah->Prop}{Q:Unit->ah->Prop}(a:At X pins σ H s x T C dx .none)(hs:X.stack=X.env::X.outer)(hf:X.env.frame=aC X.env.locals)(h:∀s' T',At X pins σ H s' x T' C dx (rawInt X.env.locals)->Q () s') :
 wpAny (model X.prog X.w) X.A (noteFrame (.ref x) X.env) Q E s:=by
 obtain⟨n1,n2⟩:=Ex.kD a.I a.ex (.inr ⟨rfl,a.hT⟩);have stk:=a.I.stack;rw[hs]at n1 n2 stk;refine XR.note (base:=X.base) (by rw[a.I.ok.frames,hs]) stk hf a.ex n1 n2 (.inr rfl) λh' n ex'=>h _ s.heap.objs.size (a.step (by rw[hs];exact n) (λb z=>?_) (.inr rfl) ex');simp at z;rcases z with z|z;exact .inl z;exact .inr (.inl z)
theorem At.lands{M:Model}{A:ao}{E:af->ah->Prop}{Q:Unit->ah->Prop}(a:At X pins σ H s x T C dx f)(h:∀s',At X pins σ H s' x T C dx .none->Q () s'):wpAny M A (setFlight (.ref x) aD) Q E s:=
 XR.land (fs:=frs X.stack) a.ex λh' n ex'=>h _ (a.step n (λb z=>by simp at z;exact .inr (.inl z)) (.inl rfl) ex')
theorem At.of{E:XK}{e:af}{s':ah}(I:Inv X pins σ H s)(q:se X.prog X.w X.stack H s E e s'):∃x T C dx H',e=.ref x/\At X pins σ H' s' x T C dx .none/\E (.ref C) dx H':=by obtain⟨x,T,C,dx,H',rfl,os,bare,un,hok,ex,lx,lT,hx,hT,hE⟩:=q;obtain⟨hh,g,d,t,os'⟩:=s';obtain rfl:os'=s.os:=os;exact⟨x,T,C,dx,H',rfl,⟨I.call (h':=hh) (g':=g) (d':=d) (t':=t) (ch:=[]) un hok bare (λb z=>absurd z (by simp)),ex,hx,hT,eS I.sz lx,eS I.sz lT,λp hp=>fN (dF (cN (I.pin p hp).1) lT)⟩,hE⟩
noncomputable abbrev _root_.L2.Cx.hand(X:Cx)(x:ai):Cx:={X with A:=X.A.mark (aC (.ref x)),calm:=false,xe:=λ_ _=>False}
theorem Cx.Ok.hand(ok:X.Ok)(x:ai):(X.hand x).Ok:=
 ⟨ok.mod,ok.kind,ok.glob,ok.blt,ok.above,ok.inj,ok.has,ok.xq,(λz=>nomatch z),ok.frames,ok.stk,ok.zJ,ok.bs,ok.rS,ok.lW,ok.lX,ok.gv,ok.sU⟩
theorem Inv.hand(I:Inv X pins σ H s)(x:ai):Inv (X.hand x) pins σ H s:=⟨I.ok.hand x,I.os,I.bare,I.base,I.loc,I.cell,I.free,I.dI,I.pin,I.hok,I.len⟩
theorem Inv.j6(ok:X.Ok)(I:Inv (X.hand x) pins σ H s):Inv X pins σ H s:=⟨ok,I.os,I.bare,I.base,I.loc,I.cell,I.free,I.dI,I.pin,I.hok,I.len⟩
theorem Inv.gone{M:Model}{A:ao}{E:af->ah->Prop}{i:Nat}{y:Str}{pos:Pos}{Q:Unit->ah->Prop}(I:Inv X pins σ H s)(hN:X.N.Nodup)(hi:X.N[i]?=aC y)(hk:X.env.kindOf y=aC .local)
 (h:∀s',Inv X pins (σ.set i aD) H s'->Q () s'):wpAny M A (do bindName X.env y .none;unbindBehindTheSuite X.env y pos) Q E s:=by
 obtain⟨m,hn,hl⟩:=I.loc;have hcls:(X.env.scope.kind == .class|| (X.env.scope.kind == .module&&X.env.locals != X.env.globals))=false:=by rw[I.ok.kind];rfl
 have sW:i<σ.length:=by rw[I.len];exact(gZ.mp hi).1
 refine wpAny_nameGoes_keeps hk hn hcls λh' v hn' hs=>h _ ?_;have low:∀b o,X.s₀.heap.get? b=aC o->b≠X.env.locals:=λb o e=>fN (dF (cN e) I.ok.above);refine⟨I.ok,I.os,I.bare,⟨λb o e n hb hx=>(hs.2 b (low b o e)).trans (I.base.keep b o e n hb hx),λb o e n hb hx=>?_,I.base.free,λb o e hx=>?_,I.base.tups,I.base.iL,I.base.ja⟩,⟨_,hn',λj z v' e1 e2 e3=>?_⟩,λz c e=>?_,I.free,I.dI,λp hp=>?_,λb u e=>?_,by simpa using I.len⟩;obtain⟨sl,e1⟩:=I.base.slot b o e n hb hx;exact⟨sl,(hs.2 b (low b o e)).trans e1⟩;obtain⟨o',e1⟩:=I.base.there b o e hx;exact⟨o',(hs.2 b (low b o e)).trans e1⟩;by_cases hj:j=i;subst hj;rw[rO sW]at e2;cases e2;rw[wO (eT hj)]at e2;obtain⟨u',r',q⟩:=hl j z v' e1 e2 e3;refine⟨u',r',?_⟩;rcases q with⟨k,e⟩|⟨k,c,e,w⟩
 have:z≠y:=λe=>hj (Ii hN e1 (e▸hi));exact .inl ⟨k,by simp[this,e]⟩;exact .inr ⟨k,c,e,w.sameBut hs (I.sV z c e)⟩;obtain⟨w',z⟩:=I.cell z c e;exact⟨w',z.sameBut hs (I.sV _ c e)⟩;obtain⟨e,n,ne,nf,d⟩:=I.pin p hp;exact⟨(hs.2 p.1 ne).trans e,n,ne,nf,d⟩;refine(I.hok b u e).stay (λc w' hc q=>(hs.2 c ?_).trans q) (λ_ q=>q) λ_ _ q=>q;rintro rfl;have fl:=I.free;rcases hc with rfl|hc
 rw[fl]at e;cases e;rw[fl]at hc;cases hc
end
noncomputable def qM(K:aI)(C D:ai):Bool:=XL.fX K C&&XL.fX K D&&match K.lookup C with
 |some o=>(match o.data with
  |.cls cd=>cd.mro.contains (.ref D)
  |_=>false)
 |none=>false
section
variable{M:Model}{A:ao}{E:af->ah->Prop}{s:ah}{K:aI}{C D x:ai}{oe:Obj}
theorem zu1{Q:Bool->ah->Prop}(X:K.In s.heap)(hs:qM K C D)(he:s.heap.get? x=aC oe)(hc:oe.cls=.ref C)(h:Q true s):wpAny M A (excMatches (.ref x) (.ref D)) Q E s:=by
 unfold qM at hs;rw[bw,bw]at hs;obtain⟨⟨hC,hD⟩,hm⟩:=hs;obtain⟨nm,qn,N,bs,bm,hd,sn,sub,ab,col,dd,k0,k1,k2,k3,k5,oC,T⟩:=XL.fF X hC;obtain⟨nm',qn',N',bs',bm',hd',sn',sub',ab',col',mZ,k0',k1',k2',k3',k5',oD,T'⟩:=XL.fF X hD;have c1:(Value.ref D::bm').contains (.type "BaseException")=true:=by rw[List.contains_cons,T'.hasType (X:="BaseException") (b:=true) (by decide +kernel),E6]
 have c2:(Value.ref C::bm).contains (.ref D)=true:=by
  cases q:K.lookup C with
  |none=>rw[q]at hm;cases hm
  |some o=>
   rw[q]at hm;have:=X C o q;rw[oC]at this;cases this;exact hm
 have f:=tc_notTuple;obtain⟨hp,g,d,tk,os⟩:=s;unfold excMatches
 repeat(first
  |(with_reducible refine AA he ?_;rw[hc])
  |with_reducible refine AA oD ?_
  |(with_reducible refine E7 oD ?_;rw[c1])
  |(with_reducible refine E7 oC ?_;rw[c2])
  |wp_step)
 exact h
end
noncomputable def yi(K:aI)(D:ai)(i:Nat)(th:TS)(D0:Ends)(σ:St):XK:=λc dx H2=>∃C,c=.ref C/\qM K C D=true/\
 ∀x,H2 x=aC (jf C dx x)->th {nx:=λσ' H'=>D0.nx (σ'.set i aD) H',rt:=D0.rt,bk:=λσ' H'=>D0.bk (σ'.set i aD) H',ct:=λσ' H'=>D0.ct (σ'.set i aD) H'} (σ.set i (aC (.ref x))) H2
noncomputable def Ku(K:aI)(D:ai)(iv i:Nat)(sp:Sp)(ta:TA)(th:TS):TS:=λD0 σ H=>ta σ H λvs H1=>sp vs H1 (λr H2=>D0.nx (σ.set iv (aC r)) H2) (yi K D i th D0 σ)
section
variable{X:Cx}
theorem zy9{iv k i:Nat}{yv:Str}{yp:Pos}{fa D:ai}{fd:av}{ps:List Str}{sp:Sp}{f xb n:Str}{p cpos epos tp hpos pos:Pos}{e:aq}{es:List aq}{b0:au}{suite:List au}{ta:TA}{th:TS}
 (hs:X.stack=X.env::X.outer) (hf:X.env.frame=aC X.env.locals) (F:dZ X.prog X.w X.K X.mg X.base (se X.prog X.w) k fa fd ps sp) (hr:cu k X.A) (hg:Gl X f) (hm:X.mg f=aC (.ref fa)) (hk:PySem.W.keepIn X.K (.ref fa)) (hb:Binds X.K fd ps [])
 (ha:PA X.jb (e::es) ta) (Kw:Gl X xb) (hmb:X.mg xb=aC (.ref D)) (hN:X.N.Nodup) (hi:X.N[i]?=aC n) (hl:X.env.kindOf n=aC .local) (hx:Loc X.env.scope n) (hfn:X.fn n=true)
 (hh:∀x,gU (X.hand x) (b0::suite) th) (hdb:autoParam ((f==("__debug__" : Str))=false) L2.aD1._auto_1) (yj:autoParam ((xb==("__debug__" : Str))=false) L2.aD1._auto_1)
 (he:autoParam (starEach (e::es) X.env=(false,eval e X.env)::starEach es X.env) L2.aR1._auto_1) (hpl:autoParam ((backTo cpos (starEach es X.env)).any (·.1)=false) L2.aR1._auto_1) (hiv:X.N[iv]?=aC yv) (Ky:Loc X.env.scope yv) (Kz:X.fn yv) (hsw:autoParam (swapsWith (.Call (.Name f p) (e::es) [] cpos) (aC (.Name yv yp)) epos.line X.env=pure false) L2.aR1._auto_1) :
 PS X (.Try [.Assign [.Name yv yp] (.Call (.Name f p) (e::es) [] cpos) epos] [.ExceptHandler (aC (.Name xb tp)) (aC n) (b0::suite) hpos] [] [] pos) (Ku X.K D iv i sp ta th):=by
 intro pins s σ H D0 I h;refine wpAny_Try_except (wpAny_execs_cons (wpAny_Assign_Name ?_ hsw));refine wK (xr I hg hm ?_ hdb);refine PySem.W.callWith_K (h₀:=X.base) I.ok.mod.zI hk (iC (ha cpos pins s σ H _ (I.eU _) h) (λus s1 z9=>z9.el λvs H1 I1 r q=>?_) λ_ _ z=>z.elim) he hpl;have I1:=I1.ck;refine⟨I1.gT,?_⟩;have len:us.length=ps.length:=by rw[<-r.length];exact F.len _ _ _ _ q
 have hb1:=hb s1 us I1.gT (by rw[nS];exact len);rw[nS]at hb1;refine wM (AG (F.run X.A X.stack s1 H1 ⟨us,[]⟩ us vs (λr H2=>D0.nx (σ.set iv (aC r)) H2) (yi X.K D i th D0 σ) hr I1.xE hb1 r q) λres s' hq=>?_);cases res with
 |ok fl=>
  cases fl with
  |ret u=>
   obtain⟨v,H2,I2,r2,q2⟩:=I1.after hq;exact A7 I2 hN hiv Ky r2 (λs5 I5=>zm (zm ⟨_,H2,I5,q2⟩)) (.inl Kz)
  |next=>exact False.elim hq
  |brk=>exact False.elim hq
  |cont=>exact False.elim hq
 |error er=>
  obtain⟨x,T,C,dx,H2,rfl,a,C',hc',sb,hth⟩:=At.of (E:=yi X.K D i th D0 σ) I1 hq;cases hc';refine a.noted hs hf λs2 T2 a2=>a2.lands λs3 a3=>?_;refine wpAny_handleBy_cons (codeAny_handlers_test ?_) (by intro z;cases z);have I3:=a3.I.hand x;refine xr (X:=X.hand x) I3 Kw hmb ?_ yj;obtain⟨vs3,sl3,he3,_⟩:=a3.ex.ex;refine zu1 a3.I.gT sb he3 rfl ?_;refine codeAny_handlers_suite_as (a3.lands λs4 a4=>?_);refine A7 (X:=X.hand x) (a4.I.hand x) hN hi hx (v:=.ref x) rfl (λs5 I5=>?_) (.inl hfn);refine iC (hh x pins s5 _ H2 _ I5 (hth x a4.hx)) (λfl s6 q6=>?_) λ_ _ z=>z.elim;cases fl with
  |next=>
   obtain⟨σ',H',I',q'⟩:=q6;exact(I'.j6 I.ok).gone hN hi hl λs7 I7=>⟨_,H',I7,q'⟩
  |brk=>
   obtain⟨σ',H',I',q'⟩:=q6;exact(I'.j6 I.ok).gone hN hi hl λs7 I7=>⟨_,H',I7,q'⟩
  |cont=>
   obtain⟨σ',H',I',q'⟩:=q6;exact(I'.j6 I.ok).gone hN hi hl λs7 I7=>⟨_,H',I7,q'⟩
  |ret u=>
   obtain⟨v,σ',H',I',r',q'⟩:=q6;exact(I'.j6 I.ok).gone hN hi hl λs7 I7=>⟨v,_,H',I7,r',q'⟩
end
structure dJ(k:Nat)(A:ao):Prop where
 dp:A.depth+k+2<recursionLimit
 un:A.units+4*k+100<cLine
theorem cu.h2{k:Nat}{A:ao}(r:cu k A):dJ 2 A:=⟨by have:=r.dp;lia,by have:=r.un;lia⟩
theorem cu.h{k:Nat}{A:ao}{v:Option af}(r:cu k A):dJ 2 (A.mark v):=⟨r.h2.dp,r.h2.un⟩
noncomputable abbrev C9(A:ao):ao:={A with handled:=aD}
theorem dJ.depth{k:Nat}{A:ao}(r:dJ k A):A.depth<recursionLimit:=by have:=r.dp;lia
theorem dJ.deeper{k:Nat}{A:ao}(r:dJ (k+1) A)(env:Env):dJ k (A.deeper env):=
 ⟨by have:=r.dp;show A.depth+1+k+2<_;lia,by have:=r.un;show A.units+3+4*k+100<_;lia⟩
structure fP(P:aj)(w:ak)(K:aI)(mg:Str->Option af)(base:aA)(k:Nat)(f:ai)(fd:av)(ps:List Str)(sp:List V->Hp->VK->Prop):Prop where
 len:∀vs H Q,sp vs H Q->vs.length=ps.length
 run:∀(A:ao)(outer:List Env)(s:ah)(H:Hp)(args:Args)(us:List af)(vs:List V)(Q:VK),dJ k A->qc P w K mg base A outer s H->BindsTo s fd args (ps.zip us)->Vals vs us->sp vs H Q->
  codeAny (model P w) A (.call (.ref f) args) (CR lF outer P w H s Q E0) s
noncomputable abbrev Dc(P:aj)(w:ak)(K:aI)(mg:Str->Option af)(base:aA)(N:List Str)(qual:Str)(scope:az)(f:ai)(cd:af)(A:ao)(outer:List Env)(s:ah)(H:Hp):Cx:=
 {ic lF P w K mg base N qual scope f cd A outer s H E0 with calm:=false,xe:=λ_ _=>False}
theorem fnH{P:aj}{w:ak}{K:aI}{mg:Str->Option af}{base:aA}{k:Nat}{f:ai}{name qual:Str}{params:Arguments}{body:List au}{scope:az}{dV kV doc pm cdv ct oc:af}{an od:Option ai}
 {osl:Array (Option af)} {N ps:List Str} {sp:List V->Hp->VK->Prop} (lk:K.lookup f=aC ⟨oc,od,.func (PySem.W.fnOf name qual params body scope dV kV doc pm an cdv ct),osl⟩) (hcd:PySem.W.codeIn K cdv qual) (S:cy N ps scope)
 (len:∀vs H Q,sp vs H Q->vs.length=ps.length)
 (hbody:∀(A:ao)(outer:List Env)(s:ah)(H:Hp)(vs:List V)(Q:VK),dJ k (A.deeper (envOfC qual scope s.heap.objs.size f cdv))->sp vs H Q->
   ∃t,gU (Dc P w K mg base N qual scope f cdv A outer s H) body t/\t {nx:=λ_ H'=>Q .aL H',rt:=Q} (start N vs) H) :
 fP P w K mg base (k+1) f (PySem.W.fnOf name qual params body scope dV kV doc pm an cdv ct) ps sp:=by
 refine⟨len,λA outer s H args us vs Q hr e0 hb r kG=>?_⟩;have hl:=len _ _ _ kG;have KX:K.In s.heap:=e0.mod.zI.keeps λb o e=>(e0.bs b o e).1;have lim:s.heap.NoLimit:=e0.mod.nolimit.keeps λb o e=>(e0.bs b o e).1;have hkind:∀y∈ps.zip us,scope.names.lookup y.1=aC .local\/(scope.names.lookup y.1=aC .cell/\((cellsFrom (s.heap.objs.size+1) scope.names []).lookup y.1).isSome):=λcj hy=>by
  obtain⟨n,v⟩:=cj;rcases S.par n (Fp hy).1 with q|q;exact .inl q;exact .inr ⟨q,PySem.W.cellsFrom_some _ _ _ (.inl q)⟩
 refine codeAny_call_function hr.depth (KX _ _ lk) rfl S.co S.gen rfl (PySem.W.codeRec_of KX hcd) (hb _ _ _ _ ?_);refine wpAny_newFunctionEnv_cells S.kind hkind λenv he s1 x=>?_;subst he;refine⟨lim.keeps x.toInCall.keep,codeAny_func ?_⟩;obtain⟨t,ht,hq⟩:=hbody A outer s H vs Q (hr.deeper _) kG;have J:Inv (ic lF P w K mg base N qual scope f cdv (C9 A) outer s H E0) [] (start N vs) H s1:=QE S rfl ⟨e0.frames,e0.mod,e0.bs,e0.rS,e0.gv,e0.sU,e0.hok,e0.bare⟩ hl r x;have ok:=J.ok;have I:Inv (Dc P w K mg base N qual scope f cdv A outer s H) [] (start N vs) H s1:=
  ⟨⟨ok.mod,ok.kind,ok.glob,ok.blt,ok.above,ok.inj,ok.has,ok.xq,(λz=>nomatch z),ok.frames,ok.stk,ok.zJ,ok.bs,ok.rS,ok.lW,ok.lX,ok.gv,ok.sU⟩,J.os,J.bare,J.base,J.loc,J.cell,J.free,J.dI,J.pin,J.hok,J.len⟩
 refine iC (ht [] s1 (start N vs) H _ I hq) (λfl s' hs=>?_) λe s' hs=>hs.elim;have fin:∀{σ':St}{H':Hp}{v:V}{u:af},Inv (Dc P w K mg base N qual scope f cdv A outer s H) [] σ' H' s'->RelV v u->Q v H'->CE outer P w H s Q u s':=
  λ{σ' H' v u} J rv q=>⟨v,H',J.os,J.bare,J.base,J.hok,rv,q⟩
 cases fl with
 |ret u=>
  obtain⟨v,σ',H',J,rv,q⟩:=hs;exact fin J rv q
 |next=>
  obtain⟨σ',H',J,q⟩:=hs;exact fin (v:=V.aL) (u:=Value.none) J rfl q
 |brk=>
  obtain⟨_,_,_,q⟩:=hs;exact False.elim q
 |cont=>
  obtain⟨_,_,_,q⟩:=hs;exact False.elim q
section
variable{X:Cx}{k:Nat}{f:ai}{fd:av}{ps:List Str}{sp:List V->Hp->VK->Prop}{x:Str}{p pos:Pos}{e:aq}{es:List aq}{t:TA}
theorem Td(F:fP X.prog X.w X.K X.mg X.base k f fd ps sp)(hr:dJ k X.A)(hg:Gl X x)(hm:X.mg x=aC (.ref f))(hk:PySem.W.keepIn X.K (.ref f))(hb:Binds X.K fd ps [])
 (ha:PA X (e::es) t) (hdb:autoParam ((x==("__debug__" : Str))=false) L2.aD1._auto_1) (he:autoParam (starEach (e::es) X.env=(false,eval e X.env)::starEach es X.env) L2.aR1._auto_1) (hpl:autoParam ((backTo pos (starEach es X.env)).any (·.1)=false) L2.aR1._auto_1) :
 PE X (.Call (.Name x p) (e::es) [] pos) (λσ H Q=>t σ H λvs H1=>sp vs H1 Q):=by
 intro pins s σ H Q I h;refine wK (xr I hg hm ?_ hdb);refine PySem.W.callWith_K (h₀:=X.base) I.ok.mod.zI hk (bg (ha pos pins s σ H _ I h) λus s1 z9=>z9.el λvs H1 I1 r q=>⟨I1.gT,?_⟩) he hpl;have len:us.length=ps.length:=by rw[<-r.length];exact F.len _ _ _ q
 have hb1:=hb s1 us I1.gT (by rw[nS];exact len);rw[nS]at hb1;refine wM (AG (F.run X.A X.stack s1 H1 ⟨us,[]⟩ us vs Q hr I1.xE hb1 r q) λres s' hq=>?_);cases res with
 |error er=>exact False.elim hq
 |ok fl=>
  cases fl with|ret u=>exact I1.after hq|next=>exact False.elim hq|brk=>exact False.elim hq|cont=>exact False.elim hq
end
end L2
namespace RF
open PySem PySem.Spec PyProof.Rows L2
noncomputable def Hx(H H':Hp):Prop:=∀a o,H a=aC o->H' a=aC o
theorem Hx.refl{H:Hp}:Hx H H:=λ_ _ q=>q
theorem Hx.trans{H H1 H2:Hp}(a:Hx H H1)(b:Hx H1 H2):Hx H H2:=λx o q=>b x o (a x o q)
theorem Hx.new{H:Hp}{p:ai}{o:HO}(hp:H p=aD):Hx H (upd H p o):=λa u q=>by
 rw[bX (λz=>by rw[z,hp]at q;cases q)];exact q
end RF
namespace L2
open PySem PySem.Spec PyProof.Rows
noncomputable def Dd(dx:Option ai)(H:Hp):Prop:=∀d,dx=aC d->∃fs,H d=aC (Rb fs d)
noncomputable def tV(C a:ai)(H:Hp):Prop:=∃dx,H a=aC (jf C dx a)/\Dd dx H
theorem tV.mono{C a:ai}{H H':Hp}(h:tV C a H)(k:RF.Hx H H'):tV C a H':=by obtain⟨dx,q,d⟩:=h;exact⟨dx,k _ _ q,λe z=>let⟨fs,y⟩:=d e z;⟨fs,k _ _ y⟩⟩
noncomputable def Aa(C:ai)(E:XK)(H:Hp):Prop:=∀H' dx a,RF.Hx H H'->H' a=aC (jf C dx a)->Dd dx H'->E (.ref C) dx H'
theorem Aa.plain{C:ai}{E:XK}{H:Hp}(h:Aa C E H):∀a,H a=aD->E (.ref C) aD (upd H a (jf C aD a)):=λa ha=>h _ aD a (.new ha) gn λ_ z=>nomatch z
theorem PS.KA{X:Cx}{E:XK}{st:au}{t:TS}(h:PS (X.eU (iF X E)) st t)(k:∀e s,iF X E e s->X.xe e s):PS X st t:=λpins s σ H D I hw=>
 iC (h pins s σ H D (I.eU _) hw) (λ_ _ z=>SP.ck z) k
section
variable{X:Cx}
noncomputable def zza(K:aI):V->List V->Hp->VK->Prop:=λx vs H Q=>∃p xs y ds d j e,x=.ref p/\vs=[y]/\cJ K H p xs/\o9 K (λ_=>False) H xs ds/\Rp K (λ_=>False) H y d/\ds.all SeqAt.shaped=true/\SeqAt.shaped d=true/\
 ds[j]?=aC e/\PyData.eqv e d=true/\(∀(m:Nat)(e:aB),m<j->ds[m]?=aC e->PyData.eqv e d=false)/\(j:Int)<2 ^ 63-1/\Q (.int (j:Nat)) H
theorem zov(hu:X.A.in1.units+64<cLine):F0 X "list.index" (zza X.K):=by
 intro pins s σ H x vs v us Q I rx rv h;obtain⟨p,xs,y,ds,d,j,ej,rfl,rfl,hq,r1,r2,s1,s2,hj,hjt,hjf,hsm,q⟩:=h;cases rx;obtain⟨u,rfl,ru⟩:=rv.one;obtain⟨bs,rb⟩:=r2.reads I ru;obtain⟨its,r,pl,hz⟩:=I.list hq;obtain⟨as,ra⟩:=r1.reads I r;obtain⟨⟨c,dd,dt,sl⟩,n,e1,e2,e4,e3⟩:=pl
 replace e2:c=.type "list":=e2
 replace e3:dt=.seq its.toArray n:=e3;subst e2 e3;have len:its.length=ds.length:=JB ra;have hjl:j<its.toArray.size:=by rw[eG,len];exact(gZ.mp hj).1
 have at':∀(m:Nat)(hm:m<its.toArray.size),its[m]?=aC its.toArray[m]:=λm hm=>by
  rw[cM (by simpa using hm)];rfl
 refine rM PySem.F.slot_list_index ⟨_,e1,rfl⟩ PySem.F.entry_list_index (PySem.F.args_list_index_2 _ _) (SeqAt.list_indexAt p its.toArray n dd sl u (kL its ds d) j hjl hsm ?_ λm hm hlt=>?_) ⟨e1,λw hw=>Rz ?_ ra rb s1 s2 w (by simpa using hw),?_⟩;rw[JK ra s1 (at' j hjl) hj];exact hjt;have hm':m<ds.length:=by rw[<-len];simpa using hm
 rw[JK ra s1 (at' m hm) (cM hm')];exact hjf m _ hlt (cM hm');exact hu;exact⟨.int _,H,I.tok _,⟨_,rfl⟩,q⟩
noncomputable def KC(K:aI)(c:af)(cv:V):List V->Hp->VK->Prop:=λxs H Q=>∃a C b,xs=[.ref a,cv]/\tV C a H/\XL.jV K C/\PySem.W.kitOne K (.ref C) c=aC b/\Q (.bl b) H
theorem zrc{c:af}{cv:V}(hc:qj cv=aC c):cA X (.builtin "isinstance") (KC X.K c cv):=by
 intro pins s σ H xs us Q I r h;obtain⟨a,C,b,rfl,ea,kk,e,q⟩:=h;obtain⟨u,u2,rfl,rx,rc⟩:=vals2 r;have e2:u2=c:=by
  cases cv with|ty n=>cases hc;exact rc|ref a=>cases hc;exact rc|_=>cases hc
 subst e2;obtain rfl:u=Value.ref a:=rx;obtain⟨dx,ea,hd⟩:=ea;obtain⟨vs,sl,ht⟩:=zuz I.hok ea;have hin:∃od,PySem.W.InstAt s.heap a ⟨.ref C,dx,.fields vs,sl⟩ C od:=by
  cases dx with
  |none=>exact⟨aD,ht,rfl,rfl,trivial⟩
  |some d=>
   obtain⟨fs,ed⟩:=hd d rfl;obtain⟨mA,n1,_⟩:=XX I.hok ed;obtain⟨od,hod,_⟩:=Qw n1;exact⟨aC od,ht,rfl,rfl,hod⟩
 obtain⟨od,hin⟩:=hin;exact mR (XL.qi (od:=od) kk) I.gT hin e (λz=>nomatch z) λtk=>⟨.bl b,H,I.tok _,rfl,q⟩
end
end L2
namespace RF
open PySem PySem.Spec PyProof.Rows L2
noncomputable def De(C:ai)(z:Str):List V->Hp->VK->Prop:=λvs H Q=>∃a,vs=[.ref a]/\tV C a H/\∀H',Hx H H'->Q (.str z) H'
section
variable{K:aI}{m m':Nat->ai}{n:Nat}{h h':VH}{H H':Hp}
theorem Rel.hx(r:Rel K m h H)(k:Hx H H'):bO m h.n H m h.n H'/\Rel K m h H':=by
 have st:bO m h.n H m h.n H':=⟨aZ _,λ_ _=>rfl,λj a b=>absurd b (jn.mpr a),λj k a b=>absurd b (jn.mpr a),λb vs q=>k _ _ q,λb o t q=>k _ _ q,λb o nb q=>k _ _ q⟩
 refine⟨st,⟨λj hj=>?_,r.inj,r.len⟩⟩;obtain⟨o',h1,h2⟩:=r.obj j hj;obtain⟨u',h3⟩:=h2.some;exact⟨o',h1,eZ.stp st (by rw[h3];exact k _ _ h3) h2⟩
noncomputable def KD(K:aI)(m:Nat->ai)(n:Nat)(H:Hp)(C:ai)(h':VH)(E:XK):Prop:=∀H' m',bO m n H m' h'.n H'->Rel K m' h' H'->Aa C E H'
noncomputable def yk(K:aI)(m:Nat->ai)(n:Nat)(H:Hp)(w:W)(h':VH)(Q:VK)(E:XK):Prop:=match w with|.tup [x]=>aN K m n H x h' Q|.int i=>KD K m n H i.toNat h' E|_=>False
noncomputable def Df(K:aI)(np:Nat)(g:List W->VH->Res W):Sp:=λvs H Q E=>vs.length=np/\∃h m ws w h',Rel K m h H/\aG K m h.n H vs ws/\g ws h=.ok w h'/\yk K m h.n H w h' Q E
noncomputable def KG(K:aI)(m:Nat->ai)(n:Nat)(H:Hp)(Q:VK)(E:XK)(w:W):Prop:=match w with|.tup [x]=>∀v,aJ K m n H v x->Q v H|.int i=>Aa i.toNat E H|_=>False
noncomputable abbrev Rx(K:aI)(E:XK):tT:=λm n H Q w=>KG K m n H Q E w
end
noncomputable def fk:S->Bool|.seq a b=>fk a&&fk b|.ite _ a b=>fk a&&fk b|.for _ _ _ b=>fk b|.xV _ b=>fk b|.ret _=>false|.oz _ _ _ _=>false|_=>true
noncomputable def KH:Fl->Bool|.rt _=>true|_=>false
noncomputable def gE(r:Res Fl):Prop:=∀fl h',r=.ok fl h'->KH fl=false
theorem gE.bind{α:Type}{r:Res α}{f:α->VH->Res Fl}(k:∀a h,gE (f a h)):gE (r.bind f):=λfl h' e=>bJ e λa h1 _ e2=>k a h1 fl h' e2
theorem gE.no:gE .no:=λ_ _ e=>nomatch e
theorem gE.of{o:Option En}{h:VH}:gE (.of (o.map .nx) h):=λfl h' e=>by
 obtain⟨e,_⟩:=of_ok e;cases o with|none=>cases e|some ρ=>cases e;rfl
theorem gE.nx{ρ:En}{h:VH}:gE (.ok (.nx ρ) h):=λ_ _ e=>by cases e;rfl
theorem KI{nx:Nat->VH->Option (Option W)}{tg:W->VH->En->Option En}{b:En->VH->Res Fl}(hb:∀ρ h,gE (b ρ h)):∀(f i:Nat) (ρ:En) (h:VH),gE (eg nx tg b f i ρ h)
 |0,_,_,_=>.no
 |f+1,i,ρ,h=>by
  simp only[eg];split;exact .no;exact .nx;split;exact .no;intro fl h' e;refine bJ e λoJ h1 e1 e2=>?_;have:=hb _ _ oJ h1 e1;cases oJ with|nx ρ=>exact KI hb f _ _ _ fl h' e2|ct ρ=>exact KI hb f _ _ _ fl h' e2|bk ρ=>cases e2;rfl|rt w=>cases this
theorem KJ{c:En->VH->Res W}{b:En->VH->Res Fl}(hb:∀ρ h,gE (b ρ h)):∀(f:Nat) (ρ:En) (h:VH),gE (dR c b f ρ h)
 |0,_,_=>.no
 |f+1,ρ,h=>by
  simp only[dR];refine .bind λt h1=>?_;split;exact .nx;intro fl h' e;refine bJ e λoJ h1 e1 e2=>?_;have:=hb _ _ oJ h1 e1;cases oJ with|nx ρ=>exact KJ hb f _ _ fl h' e2|ct ρ=>exact KJ hb f _ _ fl h' e2|bk ρ=>cases e2;rfl|rt w=>cases this
  exact .no
theorem KL{cl:Call}:∀(s:S),fk s=true->∀(ρ:En) (h:VH),gE (exs cl s ρ h):=by
 intro s;induction s with
 |skip=>intro _ ρ h;exact .nx
 |seq a b i1 i2=>
  intro hs ρ h;simp only[fk,bw]at hs;intro fl h' e;simp only[exs]at e;refine bJ e λoJ h1 e1 e2=>?_;have:=i1 hs.1 _ _ oJ h1 e1;cases oJ with|nx ez=>exact i2 hs.2 _ _ fl h' e2|bk _=>cases e2;rfl|ct _=>cases e2;rfl|rt _=>cases this
 |set i e=>intro _ ρ h;simp only[exs];exact .bind λw h1=>.nx
 |xU is e=>intro _ ρ h;simp only[exs];exact .bind λw h1=>.of
 |aug i o e=>
  intro _ ρ h;simp only[exs];split;exact .bind λy h1=>.bind λz h2=>.nx;exact .no
 |put o i v=>
  intro _ ρ h;simp only[exs];refine .bind λw h1=>.bind λx h2=>.bind λy h3=>?_;split;split;split;exact .nx;exact .no;unfold oG;split;split;exact .nx;exact .no;exact .no;exact .no
 |ite c a b i1 i2=>
  intro hs ρ h;simp only[fk,bw]at hs;simp only[exs];refine .bind λx h1=>?_;split;exact i1 hs.1 _ _;exact i2 hs.2 _ _;exact .no
 |ret e=>intro hs;cases hs
 |expr e=>intro _ ρ h;simp only[exs];exact .bind λw h1=>.nx
 |brk=>intro _ ρ h fl h' e;cases e;rfl
 |cnt=>intro _ ρ h fl h' e;cases e;rfl
 | «for» k a t b i1=>intro hs ρ h;simp only[exs];exact .bind λx h1=>KI (i1 hs) _ _ _ _
 |xV c b i1=>intro hs ρ h;simp only[exs];exact KJ (i1 hs) _ _ _
 |oz v f a tb=>intro hs;cases hs
 |no=>intro _ ρ h;exact .no
theorem _root_.L2.PS.jb{X:Cx}{st:au}{t:TS}(h:PS X.jb st t):PS X st t:=λpins s σ H D I hw=>iC (h pins s σ H D (I.eU _) hw) (λ_ _ z=>SP.ck z) λ_ _ z=>z.elim
section
variable{X:Cx}{E:XK}{c e:aq}{fa fc:FE}{pos p:Pos}{x:Str}{st:au}{sts sa sb:List au}{gs gt:FS}
noncomputable abbrev SX(X:Cx)(E:XK)(st:au)(f:FS):Prop:=SR X (Rx X.K E) st f
noncomputable abbrev Te(X:Cx)(E:XK)(st:List au)(f:FS):Prop:=vm X (Rx X.K E) st f
structure Tf(X:Cx)(E:XK):Prop where
 KA:∀e s,iF X E e s->X.xe e s
 own:PassesOwn (model X.prog X.w) X.A X.env X.xe
theorem zrd{cl:Call}{s:S}(h:SS X.jb st (exs cl s))(hs:fk s):SX X E st (exs cl s):=(PS.jb h).imp λD σ H z9=>z9.el λρ h m fl h' f r e k=>.mk f r e λH' m' s' r'=>by
 have n:=KL s hs ρ h fl h' e;have:=k H' m' s' r';cases fl with|nx _=>exact this|bk _=>exact this|ct _=>exact this|rt _=>cases n
theorem zzb(he:SE X.jb e fa):SX X E (.Return (aC e) pos) (λρ h=>(fa ρ h).bind λw h=>.ok (.rt (.tup [w])) h):=(FO (PE.jb he)).imp λD σ H z9=>z9.el λρ h m fl h' f r e k=>by
 refine bJ e λw h1 e1 e2=>?_;cases e2;exact(.mk f r e1 λv H1 m1 s1 r1 q1=>k H1 m1 s1 r1 v q1)
theorem zre{C:ai}{cpos:Pos}(F:Tf X E)(M:Jq X.K C)(hc:X.calm)(hg:Gl X x)(hm:X.mg x=aC (.ref C))(hdb:(x==("__debug__" : Str))=false) :
 SX X E (.Raise (aC (.Call (.Name x p) [] [] cpos)) aD pos) (λ_ h=>.ok (.rt (.int C)) h):=((zou M hc hg hm hdb).KA F.KA).imp λD σ H z9=>z9.el λρ h m fl h' f r e k=>by
 cases e;exact Aa.plain (k H m .refl r)
end
section
variable{K:aI}{m m':Nat->ai}{h h1 h2:VH}{H H':Hp}
theorem zu2{w w2:W}(e:leave h w h1=.ok w2 h2):w2=w:=by unfold leave at e;split at e<;>cases e<;>rfl
theorem zu3{x:W}(e:leave h (.tup [x]) h1=.ok (.tup [x]) h2):leave h x h1=.ok x h2:=by
 unfold leave at e ⊢;have hl:W.lt h.n (.tup [x])=W.lt h.n x:=by simp only[W.lt,W.ir,Bool.and_true]
 rw[hl]at e;split at e;rename_i z;cases e;rw[if_pos z];rename_i z;cases e;rw[if_neg z]
theorem Th{w w2:W}{Q:VK}{E:XK}(r:Rel K m h H)(s:bO m h.n H m' h1.n H')(r1:Rel K m' h1 H')(g:fL ⟨h.n,h.n,h.os⟩ h1)(e:leave h w h1=.ok w2 h2)(k:yk K m h.n H w2 h2 Q E):KG K m' h1.n H' Q E w:=by obtain rfl:=zu2 e;unfold yk at k;unfold KG;split at k;rename_i x;exact λv hv=>GH r s r1 hv g (zu3 e) k;rename_i i;exact GH (v:=.int i) (Q:=λ_ H'=>Aa i.toNat E H') r s r1 (.int i) g e (λv H' m' s r _=>k H' m' s r);cases k
end
theorem zu4{P:aj}{w:ak}{K:aI}{mg:Str->Option af}{base:aA}{F:Nat->Option Fn}{k idx:Nat}{fn:Fn}{x qual:Str}{st:au}{f:ai}{fd:av}{N ps:List Str}{b:S}(hF:F idx=aC fn)(Fu:j0 K x qual st f fd)(S:cy N ps (iM st))
 (hn:fn.n=N.length) (hp:fn.ps=ps.length) (hb:fn.body=.seq b (.ret (.cst (.tup [.aL]))))
 (hbody:∀(cdv:af)(A:ao)(outer:List Env)(s:ah)(H:Hp)(E:XK),cu k (A.deeper (envOfC qual (iM st) s.heap.objs.size f cdv))->Te (ic (se P w) P w K mg base N qual (iM st) f cdv A outer s H E) E (zP st) (exs (run F k) b)) :
 dZ P w K mg base (se P w) (k+1) f fd ps (Df K ps.length (run F (k+1) idx)):=by
 obtain⟨_,_,_,_,_,_,_,cdv,_,_,e,lk,hcd,_⟩:=Fu;subst e;refine u5 lk hcd S (λvs H Q E h=>h.1) λA outer s H vs Q E hr kG=>?_;refine⟨_,hbody cdv A outer s H E hr,?_⟩;obtain⟨hl,h,m,ws,w2,h2,r,q,e,k2⟩:=kG;have hws:=C3 hF e;simp only[run,hF]at e;split at e;refine bJ e λfl h1 e1 e2=>?_;have g:=CO (CP F k) _ _ _ _ _ e1;have hN:fn.n-fn.ps=N.length-ws.length:=by rw[hn,hws]
 rw[hN,hb]at e1;simp only[exs]at e1;refine bJ e1 λoJ h3 e3 e4=>?_;refine⟨_,⟨h.n,h.n,h.os⟩,m,oJ,h3,SV q,Kp r,e3,λH' m' s' r'=>?_⟩;cases oJ with
 |nx ρ=>
  cases e4;have:=Th (K:=K) (m:=m) (m':=m') (H:=H) (H':=H') (h:=h) (Q:=Q) (E:=E) r s' r' g e2 k2;exact λσ' f'=>this .aL .aL
 |rt w3=>cases e4;exact Th r s' r' g e2 k2
 |bk _=>cases e4;cases e2
 |ct _=>cases e4;cases e2
 cases e
theorem zrf{P:aj}{w:ak}{K:aI}{mg:Str->Option af}{base:aA}{F:Nat->Option Fn}{idx:Nat}{f:ai}{fd:av}{ps:List Str}:dZ P w K mg base (se P w) 0 f fd ps (Df K ps.length (run F 0 idx)):=
 ⟨λvs H Q E h=>h.1,λA outer s H args us vs Q E hr he hb hv hs=>by obtain⟨_,h,m,ws,w2,h2,r,q,e,k2⟩:=hs;cases e⟩
noncomputable def kW{α:Type}(e:aq)(k:Str->Option α):Option α:=match e with|.Name x _=>k x|_=>aD
theorem KN{α:Type}{e:aq}{k:Str->Option α}{a:α}(h:kW e k=aC a):∃x p,e=.Name x p/\k x=aC a:=by unfold kW at h;split at h;exact⟨_,_,rfl,h⟩;cases h
noncomputable def kX{α:Type}(e:aq)(k:Str->List aq->Option α):Option α:=match e with|.Call f as ks _=>if ks.isEmpty then kW f λx=>k x as else aD|_=>aD
theorem KO{α:Type}{e:aq}{k:Str->List aq->Option α}{a:α}(h:kX e k=aC a):∃x p as pos,e=.Call (.Name x p) as [] pos/\k x as=aC a:=by unfold kX at h;split at h;split at h;rename_i hk;obtain⟨x,p,rfl,q⟩:=KN h;rw[Fo]at hk;subst hk;exact⟨x,p,_,_,rfl,q⟩;cases h;cases h
noncomputable def yl{α:Type}(s:au)(k:aq->Option α):Option α:=match s with
 |.Return r _=>(match r with
  |some e=>k e
  |none=>aD)
 |_=>aD
theorem zu5{α:Type}{s:au}{k:aq->Option α}{a:α}(h:yl s k=aC a):∃e p,s=.Return (aC e) p/\k e=aC a:=by unfold yl at h;split at h;split at h;exact⟨_,_,rfl,h⟩;cases h;cases h
noncomputable def ym{α:Type}(s:au)(k:aq->aq->Option α):Option α:=match s with
 |.Assign ts e _=>(match ts with
  |[t]=>k t e
  |_=>aD)
 |_=>aD
theorem zu6{α:Type}{s:au}{k:aq->aq->Option α}{a:α}(h:ym s k=aC a):∃t e p,s=.Assign [t] e p/\k t e=aC a:=by unfold ym at h;split at h;split at h;exact⟨_,_,_,rfl,h⟩;cases h;cases h
noncomputable def oM{α β:Type}(l:List α)(k:α->Option β):Option β:=match l with|[x]=>k x|_=>aD
theorem GK{α β:Type}{l:List α}{k:α->Option β}{b:β}(h:oM l k=aC b):∃x,l=[x]/\k x=aC b:=by unfold oM at h;split at h;exact⟨_,rfl,h⟩;cases h
noncomputable def qN(n:Str)(e:aq):Option (Option Str):=kX e λw as=>oM as λa=>kW a λy=>if w==("_law_word" : Str)&&y==n then aC aD else aD
noncomputable def hV(o:Option Str)(z:Str):V:=match o with|none=>.str z|some t=>.bl (decide (V.str z=V.str t))
noncomputable def hW(o:Option Str)(z:Str):W:=match o with|none=>.str z|some t=>.bl (decide (V.str z=V.str t))
theorem hVW{K:aI}{m:Nat->ai}{n:Nat}{H:Hp}(o:Option Str)(z:Str):aJ K m n H (hV o z) (hW o z):=by
 cases o with|none=>exact .str z|some t=>exact .bl _
noncomputable def vz(tb:List (Nat×Str))(o:Option Str)(i:Nat):TS:=λD σ H=>∃C z x,(C,z)∈tb/\(i<σ.length->σ[i]?=aC (aC (.ref x)))/\tV C x H/\∀H',Hx H H'->D.rt (hV o z) H'
noncomputable abbrev KP(v:Nat)(g:List W->VH->Res W)(fa:FE)(tb:List (Nat×W)):FS:=λρ h=>(fa ρ h).bind λy h=>match y with|.tup ys=>(g ys h).bind λw h=>tQ v tb ρ w h|_=>.no
noncomputable def yo(X:Cx)(C:Nat)(z:Str):Prop:=∃f fd ps,X.mg "_law_word" = aC (.ref f)/\fP X.prog X.w X.K X.mg X.base 2 f fd ps (De C z)/\PySem.W.keepIn X.K (.ref f)=true/\Binds X.K fd ps []
theorem Ti{o:Option Str}:∀{tb:List (Nat×Str)} {c:Nat} {w:W},(tb.map λp=>(p.1,hW o p.2)).lookup c=aC w->∃z,(c,z)∈tb/\w=hW o z
 |[],_,_,e=>by cases e
 |(d,z)::r,c,w,e=>by
  rw[fD,gQ]at e;by_cases h:(c==d)=true;rw[h]at e;cases e;exact⟨z,by rw[show c=d by simpa using h];exact gj ..,rfl⟩;rw[show(c==d)=false by simpa using h]at e;obtain⟨z',h1,h2⟩:=Ti e;exact⟨z',fS _ h1,h2⟩
section
variable{X:Cx}{tb:List (Nat×Str)}{n:Str}{i:Nat}
theorem zu7{o:Option Str}{hb:aq}{rp:Pos}{x:ai}(hf:qN n hb=aC o)(hr:dJ 2 (X.hand x).A)(hw:∀C z,(C,z)∈tb->yo X C z)(KQ:Gl X "_law_word")(hi:X.N[i]?=aC n)(hv:pW X.env.scope n)(hd:(n==("__debug__" : Str))=false)(hcd:(n==("__classdict__" : Str))=false) :
 gU (X.hand x) [.Return (aC hb) rp] (vz tb o i):=by
 intro pins s σ H D I ⟨C,z,y,hm,hσ,hx,k⟩;have hl:i<σ.length:=by rw[I.len];exact(gZ.mp hi).1
 obtain⟨f,fd,ps,w1,w2,w3,w4⟩:=hw C z hm;have pe:∀wp yp cp,PE (X.hand x) (.Call (.Name "_law_word" wp) [.Name n yp] [] cp) _:=λwp yp cp=>Td (X:=X.hand x) (p:=wp) (pos:=cp) w2 hr KQ w1 w3 w4 (nY (Il (X:=X.hand x) (pos:=yp) hi hv hd hcd) pZ);obtain⟨w,wp,as,cp,rfl,f1⟩:=KO hf;obtain⟨a,rfl,f2⟩:=GK f1;obtain⟨yn,yp,rfl,f3⟩:=KN f2;split at f3;rename_i hc;cases f3;rw[bw,lC,lC]at hc;obtain⟨rfl,rfl⟩:=hc;exact(Ql (FO (pe _ _ _))) pins s σ H D I ⟨_,hσ hl,y,rfl,hx,λH' h=>k H' h⟩;cases f3
theorem zzc{iv k:Nat}{yv:Str}{yp:Pos}{fa D:ai}{fd:av}{ps:List Str}{g:List W->VH->Res W}{f xb:Str}{p cpos epos tp hpos pos rp:Pos}{e hb:aq}{es:List aq}{ga:FE}{o:Option Str}
 (hs:X.stack=X.env::X.outer) (hf:X.env.frame=aC X.env.locals) (F:dZ X.prog X.w X.K X.mg X.base (se X.prog X.w) k fa fd ps (Df X.K ps.length g)) (hr:cu k X.A) (hr2:∀x,dJ 2 (X.hand x).A) (hg:Gl X f) (hm:X.mg f=aC (.ref fa)) (hk:PySem.W.keepIn X.K (.ref fa)) (hbd:Binds X.K fd ps [])
 (hlen:∀ws h w h',g ws h=.ok w h'->ws.length=ps.length) (ha:SA X.jb (e::es) ga) (hst:(e::es).all fK) (Kw:Gl X xb) (hmb:X.mg xb=aC (.ref D)) (hN:X.N.Nodup) (hi:X.N[i]?=aC n) (hl:X.env.kindOf n=aC .local) (hx:Loc X.env.scope n) (hv:pW X.env.scope n) (hfn:X.fn n=true)
 (hfo:qN n hb=aC o) (hw:∀C z,(C,z)∈tb->yo X C z) (KQ:Gl X "_law_word") (hsub:∀C z,(C,z)∈tb->qM X.K C D=true)
 (hdb:(f==("__debug__" : Str))=false) (yj:(xb==("__debug__" : Str))=false) (KR:(n==("__debug__" : Str))=false) (hcd:(n==("__classdict__" : Str))=false) (hiv:X.N[iv]?=aC yv) (Ky:Loc X.env.scope yv) (Kz:X.fn yv) :
 SS X (.Try [.Assign [.Name yv yp] (.Call (.Name f p) (e::es) [] cpos) epos] [.ExceptHandler (aC (.Name xb tp)) (aC n) [.Return (aC hb) rp] hpos] [] [] pos) (KP iv g ga (tb.map λc=>(c.1,hW o c.2))):=by
 rw[pQ,bw]at hst;refine(zy9 (i:=i) (th:=vz tb o i) hs hf F hr hg hm hk hbd ha Kw hmb hN hi hl hx hfn (λx=>zu7 hfo (hr2 x) hw KQ hi hv KR hcd) hdb yj (dX hst.1) (zX hst.2) hiv Ky Kz rfl).imp λD0 σ H z9=>z9.el λρ h m fl h' f r e kk=>?_;refine bJ e λy h1 e1 e2=>?_;cases y with
 |tup ys=>
  refine bJ e2 λw h2 e3 e4=>?_;refine mq.mk f r e1 λvs H1 m1 s1 r1 q1=>⟨by rw[q1.length,hlen _ _ _ _ e3],h1,m1,ys,w,h2,r1,q1,e3,?_⟩
  unfold tQ at e4;split at e4;cases e4;exact λv H' m' s' r' q'=>kk H' m' (s1.trans s') r' _ ((f.stp (s1.trans s')).set q' iv);rename_i ii;split at e4;rename_i w' hlk;cases e4;obtain⟨z,hmem,rfl⟩:=Ti hlk;intro H' m' s' r' H2 dx a hk hx2 hd2;refine⟨ii.toNat,rfl,hsub _ _ hmem,λx hx'=>⟨ii.toNat,z,x,hmem,λhl'=>rO (by rwa [wW]at hl'),⟨dx,hx',hd2⟩,λH'' hh=>?_⟩⟩;obtain⟨st,r''⟩:=r'.hx (hk.trans hh);exact kk H'' m' ((s1.trans s').trans st) r'' _ (hVW o z);cases e4;cases e4
 |_=>cases e2
end
set_option genInjectivity false in
structure CC where
 N:List Str
 names:List (Str×NameKind)
 ni:Bool
noncomputable def nj:List Str->Str->Nat->Option Nat|[],_,_=>aD|y::r,x,i=>if y==x then aC i else nj r x (i+1)
theorem Tj:∀{N:List Str} {x:Str} {k i:Nat},nj N x k=aC i->∃j,i=k+j/\N[j]?=aC x
 |[],_,_,_,e=>by cases e
 |y::r,x,k,i,e=>by
  unfold nj at e;split at e;rename_i h;cases e;exact⟨0,rfl,by simpa using h⟩;obtain⟨j,h1,h2⟩:=Tj e;exact⟨j+1,by lia,by simpa using h2⟩
theorem yq{N:List Str}{x:Str}{i:Nat}(e:nj N x 0=aC i):N[i]?=aC x:=by obtain⟨j,h1,h2⟩:=Tj e;rw[show i=j by lia];exact h2
noncomputable def mD:Option NameKind->Bool|some .local|some .cell|some .free=>true|_=>false
noncomputable def mE(all:Bool):Option NameKind->Bool|some .local=>true|some .cell=>all|_=>false
noncomputable def okN(x:Str):Bool:=!(x==("__debug__" : Str)) && !(x==("__classdict__" : Str)) && !(x==("__name__" : Str)) && !(x==("" : Str))
theorem zzd{x:Str}(h:okN x):x≠"":=by unfold okN at h;simp only[bw,uK]at h;exact λz=>by rw[z]at h;simp at h
theorem oN{x:Str}(h:okN x):(x==("__debug__" : Str))=false/\(x==("__classdict__" : Str))=false/\x≠"__name__":=by unfold okN at h;simp only[bw,uK]at h;exact⟨h.1.1.1,h.1.1.2,λz=>by rw[z]at h;simp at h⟩
noncomputable def qP(K:aI):Nat->af->Option W
 |0,_=>aD
 |n+1,v=>match v with
  |.none=>aC .aL
  |.bool b=>aC (.bl b)
  |.int i _=>aC (.int i)
  |.str x _=>aC (.str x)
  |.ref a=>(match K.lookup a with
   |some o=>(match o.cls,o.dict,o.data with
    |.type t,aD,.seq its _=>if t == "tuple" && Nat.ble its.size 1000 then(bH (qP K n) its.toList).map .tup else aD
    |_,_,_=>aD)
   |none=>aD)
  |_=>aD
theorem Tn{K:aI}{f:af->Option W}(ih:∀v w,f v=aC w->∃x,RelV x v/\∀m n H,aJ K m n H x w):∀{us:List af} {ws:List W},bH f us=aC ws->∃xs,Vals xs us/\∀m n H,aG K m n H xs ws
 |[],_,e=>by cases e;exact⟨[],.nil,λ_ _ _=>.nil⟩
 |u::us,ws,e=>by
  unfold bH at e;split at e;rename_i b hb;split at e;rename_i bs yr;cases e;obtain⟨x,h1,h2⟩:=ih u b hb;obtain⟨xs,h3,h4⟩:=Tn ih yr;exact⟨x::xs,.cons h1 h3,λm n H=>.cons (h2 m n H) (h4 m n H)⟩;cases e;cases e
theorem To{K:aI}:∀(n:Nat) (v:af) (w:W),qP K n v=aC w->∃x,RelV x v/\∀m n H,aJ K m n H x w
 |0,_,_,e=>by cases e
 |n+1,v,w,e=>by
  unfold qP at e;split at e;cases e;exact⟨.aL,rfl,λ_ _ _=>.aL⟩;cases e;exact⟨.bl _,rfl,λ_ _ _=>.bl _⟩;cases e;exact⟨.int _,⟨_,rfl⟩,λ_ _ _=>.int _⟩;cases e;exact⟨.str _,⟨_,rfl⟩,λ_ _ _=>.str _⟩;rename_i a;split at e;rename_i o ho;split at e;rename_i t its nn hc Ra hd;split at e;rename_i hz;rw[bw]at hz;have ht:t = "tuple":=by simpa using hz.1
  subst ht;cases z:bH (qP K n) its.toList with
  |none=>rw[z]at e;cases e
  |some ws=>
   rw[z]at e;cases e;obtain⟨xs,h3,h4⟩:=Tn (To n) z;exact⟨.ref a,rfl,λm n H=>.tup (.inr ⟨o,its,nn,ho,hc,Ra,hd,sR (Jb (lR hz.2)),h3⟩) (h4 m n H)⟩
  cases e;cases e;cases e;cases e
noncomputable def cL(f:aq->Option E):List aq->Option E
 |[]=>aC .nil
 |e::es=>match f e,cL f es with
  |some a,aC r=>aC (.cons a r)
  |_,_=>aD
noncomputable def fnAt(K:aI)(x:Str):Option (ai×Obj×av):=match fj K x with
 |some f=>(match K.lookup f with
  |some o=>(match o.data with
   |.func fd=>aC (f,o,fd)
   |_=>aD)
  |none=>aD)
 |none=>aD
noncomputable def vA:Arguments->Option (List Arg)|⟨[],args,aD,[],[],aD,_⟩=>aC args|_=>aD
noncomputable def isNone:af->Bool|.none=>true|_=>false
noncomputable def GL:Data->Bool
 |.seq xs _=>(match xs.toList with
  |[v]=>isNone v
  |_=>false)
 |_=>false
noncomputable def fQ(K:aI):af->Bool
 |.ref t=>(match K.lookup t with
  |some o=>GL o.data
  |none=>false)
 |_=>false
noncomputable def KS(K:aI)(x:Str)(n:Nat):Bool:=match fnAt K x with|some (_,_,fd)=>fQ K fd.defaults&&Nat.beq (n+1) fd.params.args.length|none=>false
noncomputable def iO(K:aI)(x:Str):Bool:=match fnAt K x with|some (_,_,fd)=>fQ K fd.defaults|none=>false
theorem zmf{K:aI}{x:Str}{n:Nat}(h:KS K x n):iO K x=true:=by unfold KS at h;unfold iO;split at h;rw[bw]at h;exact h.1;cases h
noncomputable def oO:E->E|.nil=>.cons (.cst .aL) .nil|.cons a r=>.cons a (oO r)|e=>e
noncomputable def nk:E->Bool|.nil=>true|.cons _ r=>nk r|_=>false
theorem zze{cl:Call}:∀{a:E},nk a=true->∀(ρ:En) (h:VH),ev cl (oO a) ρ h=(ev cl a ρ h).bind λy h=>match y with|.tup ys=>.ok (.tup (ys++[.aL])) h|_=>.no:=by
 intro a;induction a with
 |nil=>intro _ ρ h;rfl
 |cons x r _ ih=>
  intro ha ρ h;have ih:=ih ha;simp only[oO,ev];cases ev cl x ρ h with
  |no=>rfl
  |ex _ _=>rfl
  |ok w h1=>
   show Res.bind (ev cl (oO r) ρ h1) _=Res.bind (Res.bind (ev cl r ρ h1) _) _;rw[ih];cases ev cl r ρ h1 with|no=>rfl|ex _ _=>rfl|ok y h2=>cases y<;>rfl
 |_=>intro ha;cases ha
theorem Tp{f:aq->Option E}:∀{es:List aq} {a:E},cL f es=aC a->nk a=true
 |[],_,h=>by cases h;rfl
 |e::es,a,h=>by
  unfold cL at h;split at h;rename_i x r h1 h2;cases h;show nk r=true;exact Tp h2;cases h
noncomputable def GN(f:aq->Option E):List (Option aq)->List aq->Option E
 |[],[]=>aC .nil
 |some k::ks,v::vs=>match f k,f v,GN f ks vs with
  |some a,aC b,aC r=>aC (.cons a (.cons b r))
  |_,_,_=>aD
 |_,_=>aD
noncomputable def cB(and:Bool)(f:aq->Option E):List aq->Option E
 |[]=>aD
 |[a]=>f a
 |a::b::r=>match f a,cB and f (b::r)with
  |some x,aC y=>aC (if and then .and x y else .or x y)
  |_,_=>aD
noncomputable def cO(f:aq->Option E):Option aq->Option (Bool×E)|none=>aC (false,.cst .aL)|some e=>(f e).map λc=>(true,c)
noncomputable def vB(K:aI)(C:CC)(x:Str):Bool:=C.names.lookup x==aC .globalImplicit&& (match PySem.W.nsIn K mainGlobals x with|some aD=>true|_=>false)
noncomputable def yt(x:Str):Option Ty:=
 if x==("int" : Str)then aC .int else if x==("bool" : Str)then aC .bool else if x==("tuple" : Str)then aC .tuple else if x==("list" : Str)then aC .list else if x==("str" : Str)then aC .str else if x==("dict" : Str)then aC .dict else aD
noncomputable def yu(x:Str):Option Bi:=
 if x==("len" : Str)then aC .len else if x==("list" : Str)then aC .list else if x==("tuple" : Str)then aC .tuple else if x==("int" : Str)then aC .int else if x==("abs" : Str)then aC .abs else if x==("max" : Str)then aC .max else if x==("all" : Str)then aC .all else aD
noncomputable def Tq:aq->Bool|.Tuple ..=>true|_=>false
noncomputable def yw:Kd->aq->Bool|.l7,t=>Tq t|.zip,t=>Tq t|_,_=>true
noncomputable def gF(C:CC):aq->Option Nat|.Name x _=>if okN x&&mE C.ni (C.names.lookup x)then nj C.N x 0 else aD|_=>aD
noncomputable def yx(C:CC):aq->Option Tg
 |.Name x p=>(gF C (.Name x p)).map .one
 |.Tuple [e,.Tuple es _ _] _ _=>(match bH (gF C) es,gF C e with
  |some is,aC j=>aC (.Ce j is)
  |_,_=>aD)
 |.Tuple es _ _=>(bH (gF C) es).map .many
 |_=>aD
noncomputable def ownOf(sc:az):List Str:=(sc.names.filter λy=>(y.2 == .local||y.2 == .cell) && !(y.1==(".0" : Str))).map (·.1)
noncomputable def fG(sc:az):List Str:=(sc.names.filter λy=>y.2 == .free).map (·.1)
noncomputable def qQ(C:CC)(sc:az)(ix:List Nat):Bool:=
 decide (sc.kind=.function)&&sc.names.all (λy=>decide (y.2=.cell->sc.names.lookup y.1=aC .cell))&&sc.names.all (λy=>decide (y.2=.free->sc.names.lookup y.1=aC .free))&&sc.names.all (λy=>decide (y.2=.local->sc.names.lookup y.1=aC .local)) &&
 (ownOf sc).all (λx=>decide (sc.names.lookup x=aC .local\/sc.names.lookup x=aC .cell))&&sc.names.all (λy=>decide (y.2=.free->C.names.lookup y.1=aC .cell\/C.names.lookup y.1=aC .free))&&decide (ix.length=(fG sc).length) &&
 ((List.range (fG sc).length).all λk=>match(fG sc)[k]?,ix[k]? with|some x,aC j=>decide (C.N[j]?=aC x)&&decide (sc.names.lookup x=aC .free)|_,_=>false)&&decide (ownOf sc++fG sc).Nodup
noncomputable def jy(sc:az):CC:=⟨ownOf sc++fG sc,sc.names,true⟩
noncomputable def yy(bl:Bool)(l:E):Bool:=match l with
 |.cst w=>(match w with
  |.aL=>!bl
  |.int i=>bl&&decide (i=1)
  |_=>false)
 |_=>false
theorem zu8{bl:Bool}{l:E}(h:yy bl l):(bl=false/\l=.cst .aL)\/(bl=true/\l=.cst (.int 1)):=by unfold yy at h;split at h;split at h;exact .inl ⟨by simpa using h,rfl⟩;rw[bw,gW]at h;obtain⟨h1,rfl⟩:=h;exact .inr ⟨h1,rfl⟩;cases h;cases h
noncomputable def zrg(x:Str):Bool:=x==("rockers" : Str)
noncomputable def Tr(C:CC)(x:Str):Bool:=zrg x&& (nj C.N ("doors" : Str) 0).isNone
mutual
noncomputable def cE(K:aI)(T:List Str):Nat->CC->aq->Option E
 |0,_,_=>aD
 |n+1,C,e=>match e with
  |.Name x _=>if okN x then(if mD (C.names.lookup x)then(nj C.N x 0).map .var
   else if C.names.lookup x==aC .globalImplicit then(match PySem.W.nsIn K mainGlobals x with|some (aC v)=>(qP K 8 v).map .cst|_=>aD)else aD)else aD
  |.Constant c _ _=>(match c with
   |.int i=>aC (.cst (.int i))
   |.bool b=>aC (.cst (.bl b))
   |.none=>aC (.cst .aL)
   |.str x=>aC (.cst (.str x))
   |_=>aD)
  |.Tuple es _ _=>(cL (cE K T n C) es).map .tup
  |.List es _=>(cL (cE K T n C) es).map .lst
  |.Dict ks vs _=>(match ks with
   |[]=>(match vs with
    |[]=>aC (.bi .Cd .nil)
    |_::_=>aD)
   |k::ks=>if Nat.ble (k::ks).length 15&&Nat.beq (k::ks).length vs.length&& (k::ks).all (·.isSome)then(GN (cE K T n C) (k::ks) vs).map .xS else aD)
  |.BinOp a O b _=>(match Cq O,cE K T n C a,cE K T n C b with
   |some o,aC x,aC y=>aC (.op o x y)
   |_,_,_=>aD)
  |.UnaryOp o a _=>(match o with
   |.Not=>(cE K T n C a).map .not
   |.USub=>(cE K T n C a).map .neg
   |_=>aD)
  |.BoolOp o es _=>(match o with
   |.And=>cB true (cE K T n C) es
   |.Or=>cB false (cE K T n C) es)
  |.Compare a Os bs _=>(match Os,bs with
   |[O],[b]=>if r9 b then(match iu O,cE K T n C a,cE K T n C b with
   |some c,aC x,aC y=>aC (.cmp c x y)
   |_,_,_=>aD)else aD
   |[O,O'],[b,c]=>if r9 c then(match iu O,iu O',cE K T n C a,cE K T n C b,cE K T n C c with
   |some o,aC o',aC x,aC y,aC z=>aC (.xT o o' x y z)
   |_,_,_,_,_=>aD)else aD
   |_,_=>aD)
  |.IfExp c a b _=>(match cT K T n C c,cE K T n C a,cE K T n C b with
   |some z,aC x,aC y=>aC (.ite z x y)
   |_,_,_=>aD)
  |.Subscript a b _=>(match b with
   |.Slice lo hi st _=>(match st with
    |none=>(match cE K T n C a,cO (cE K T n C) lo,cO (cE K T n C) hi with
   |some x,aC (bl,l),aC (bh,u)=>aC (.slc x bl l bh u)
   |_,_,_=>aD)
    |some s=>(match hi with
     |none=>(match cE K T n C a,cO (cE K T n C) lo,cE K T n C s with
      |some x,aC (bl,l),aC y=>if yy bl l then aC (.bi .st2 (.cons x (.cons l (.cons y .nil))))else aD
      |_,_,_=>aD)
     |some _=>aD))
   |b=>if zZ b then(match cE K T n C a,cE K T n C b with
   |some x,aC y=>aC (.idx x y)
   |_,_=>aD)else aD)
  |.Call fn args kw pos=>(match kw with
   |[]=>(match fn with
    |.Name f _=>if okN f&&C.names.lookup f==aC .globalImplicit then(match PySem.W.nsIn K mainGlobals f with
     |some aD=>if f==("isinstance" : Str)then(match args with
      |[a,.Name t _]=>(match yt t,cE K T n C a with
       |some ty,aC x=>if okN t&&vB K C t then aC (.rW ty x)else aD
       |_,_=>aD)
      |_=>aD)
      else(match yu f,args with|some b,_::_=>(cL (cE K T n C) args).map (.bi b)|_,_=>aD)
     |some (aC _)=>(match nj T f 0 with
      |some i=>if KS K f args.length && !args.isEmpty then(cL (cE K T n C) args).map (λa=>.call i (oO a))else(cL (cE K T n C) args).map (.call i)
      |none=>aD)
     |none=>aD)else aD
    |.Attribute o KU ap=>if CB o&& (ap.endLine==pos.line)then(match cE K T n C o,args with
     |some x,[a]=>if KU==("append" : Str)then(cE K T n C a).map λy=>.mt .append x (.cons y .nil)else if KU==("update" : Str)then(cE K T n C a).map λy=>.mt .update x (.cons y .nil)else aD
     |some x,[a,b]=>if KU==("get" : Str)then(match cE K T n C a,cE K T n C b with
      |some y,aC z=>aC (.mt .get x (.cons y (.cons z .nil)))
      |_,_=>aD)else aD
     |_,_=>aD)else aD
    |_=>aD)
   |_=>aD)
  |.ListComp elt gs sc _=>(match gs with
   |[g]=>(match g with
    |⟨tg,iter,ifs,0⟩=>(match bH (λx=>nj C.N x 0) (fG sc)with
     |some ix=>if qQ C sc ix then(match cW K T n C iter,yx (jy sc) tg,(match ifs with|[]=>aC (.cst (.bl true))|[c]=>cT K T n (jy sc) c|_=>aD),cE K T n (jy sc) elt with
      |some (kd,a),aC t,aC c,aC e=>if yw kd tg then aC (.lc kd a t (ownOf sc).length ix c e)else aD
      |_,_,_,_=>aD)else aD
     |none=>aD)
    |_=>aD)
   |[g,g2]=>(match g with
    |⟨tg,iter,ifs,0⟩=>(match g2 with
     |⟨ig,bI,dO,0⟩=>(match bH (λx=>nj C.N x 0) (fG sc)with
      |some ix=>if qQ C sc ix then(match cW K T n C iter,yx (jy sc) tg,(match ifs with|[]=>aC (E.cst (.bl true))|[c]=>cT K T n (jy sc) c|_=>aD),cE K T n (jy sc) elt with
       |some (kd,a),aC t,aC c,aC e=>if yw kd tg then(match cW K T n (jy sc) bI,yx (jy sc) ig,(match dO with|[]=>aC (E.cst (.bl true))|[c]=>cT K T n (jy sc) c|_=>aD)with
        |some (iE,a2),aC t2,aC c2=>if yw iE ig then aC (.zR kd a t (ownOf sc).length ix c iE a2 t2 c2 e)else aD
        |_,_,_=>aD)else aD
       |_,_,_,_=>aD)else aD
      |none=>aD)
     |_=>aD)
    |_=>aD)
   |_=>aD)
  |.DictComp ek oK gs sc _=>(match gs with
   |[g]=>(match g with
    |⟨tg,iter,ifs,0⟩=>(match bH (λx=>nj C.N x 0) (fG sc)with
     |some ix=>if qQ C sc ix then(match cW K T n C iter,yx (jy sc) tg,(match ifs with|[]=>aC (.cst (.bl true))|[c]=>cT K T n (jy sc) c|_=>aD),cE K T n (jy sc) ek,cE K T n (jy sc) oK with
      |some (kd,a),aC t,aC c,aC e,aC v=>if yw kd tg then aC (.dc kd a t (ownOf sc).length ix c e v)else aD
      |_,_,_,_,_=>aD)else aD
     |none=>aD)
    |_=>aD)
   |_=>aD)
  |_=>aD
noncomputable def cT(K:aI)(T:List Str):Nat->CC->aq->Option E
 |0,_,_=>aD
 |n+1,C,e=>match e with
  |.Compare a Os bs _=>(match Os,bs with
   |[O],[b]=>if r9 b then(match iu O,cE K T n C a,cE K T n C b with
   |some c,aC x,aC y=>aC (.cmp c x y)
   |_,_,_=>aD)else aD
   |[O,O'],[b,c]=>if r9 c then(match iu O,iu O',cE K T n C a,cE K T n C b,cE K T n C c with
   |some o,aC o',aC x,aC y,aC z=>aC (.xT o o' x y z)
   |_,_,_,_,_=>aD)else aD
   |_,_=>aD)
  |.UnaryOp o a _=>(match o with
   |.Not=>(cT K T n C a).map .not
   |_=>aD)
  |.BoolOp o es _=>(match o with
   |.And=>cB true (cT K T n C) es
   |.Or=>cB false (cT K T n C) es)
  |.Name x p=>(cE K T n C (.Name x p)).map .ou
  |.Call f as ks p=>(cE K T n C (.Call f as ks p)).map .ou
  |.Subscript a b p=>(cE K T n C (.Subscript a b p)).map .ou
  |_=>aD
noncomputable def cW(K:aI)(T:List Str):Nat->CC->aq->Option (Kd×E)
 |0,_,_=>aD
 |n+1,C,e=>match e with
  |.Call (.Name f p) args [] pos=>if f==("range" : Str)then(if vB K C f then(match args with
   |[a]=>(cE K T n C a).map λx=>(.bU,.cons x .nil)
   |[a,b]=>(match cE K T n C a,cE K T n C b with
    |some x,aC y=>aC (.oq,.cons x (.cons y .nil))
    |_,_=>aD)
   |_=>aD)else aD)
   else if f==("enumerate" : Str)then(if vB K C f then(match args with|[a]=>(cE K T n C a).map λx=>(.l7,x)|_=>aD)else aD)
   else if f==("zip" : Str)then(if vB K C f then(match args with
    |[a,b]=>(match cE K T n C a,cE K T n C b with
     |some x,aC y=>aC (.zip,.cons x (.cons y .nil))
     |_,_=>aD)
    |_=>aD)else aD)
   else(cE K T n C (.Call (.Name f p) args [] pos)).map λx=>(.seq,x)
  |.Set ..=>aD
  |.Name x p=>(cE K T n C (.Name x p)).map λc=>if Tr C x then(.keys,.bi .bS (.cons c .nil))else(.seq,c)
  |e=>(cE K T n C e).map λx=>(.seq,x)
end
noncomputable def nq(f:au->Option S):List au->Option S
 |[]=>aC .skip
 |s::r=>match f s,nq f r with
  |some a,aC b=>aC (.seq a b)
  |_,_=>aD
structure RX where
 Dg:List Str
 at_:Nat
 tb:List (Nat×Str)
noncomputable def yz(K:aI)(T:List Str)(R:RX)(d:Nat)(C:CC)(tg:aq)(f:Str)(args:List aq)(xb nm:Str)(hb:aq):Option S:=
 if okN f&&C.names.lookup f==aC .globalImplicit&& (qL f).isNone&&okN xb&&C.names.lookup xb==aC .globalImplicit&&okN nm&&C.names.lookup nm==aC .local&&C.names.lookup ("_law_word" : Str)==aC .globalImplicit && !args.isEmpty then
  (match nj R.Dg f 0,PySem.W.nsIn K mainGlobals xb,nj C.N nm 0,qN nm hb,cL (cE K T d C) args,gF C tg with|some j,aC (aC (.ref D)),aC _,aC o,aC a,aC v=>if R.tb.all λc=>qM K c.1 D then aC (.oz v (R.at_+j) a (R.tb.map λc=>(c.1,hW o c.2)))else aD|_,_,_,_,_,_=>aD)
 else aD
noncomputable def yC{α:Type}(b:List au)(hs:List ExceptHandler)(el fb:List au)(k:aq->Str->List aq->Str->Str->aq->Option α):Option α:=
 if el.isEmpty&&fb.isEmpty then oM b λs=>ym s λt e=>kX e λf as=>oM hs λh=>(match h with
  |.ExceptHandler xo no r _=>(match xo,no with
   |some xe,aC nm=>kW xe λxb=>oM r λs=>yl s λhb=>k t f as xb nm hb
   |_,_=>aD))else aD
theorem zu9{α:Type}{b:List au}{hs:List ExceptHandler}{el fb:List au}{k:aq->Str->List aq->Str->Str->aq->Option α}{a:α}(h:yC b hs el fb k=aC a){P:Prop}(q:∀t f p as cp ep xb xp nm hb rp hp,b=[.Assign [t] (.Call (.Name f p) as [] cp) ep]->hs=[.ExceptHandler (aC (.Name xb xp)) (aC nm) [.Return (aC hb) rp] hp]->el=[]->fb=[]->k t f as xb nm hb=aC a->P):P:=by
 unfold yC at h;split at h
 case isFalse=>cases h
 rename_i hc;rw[bw,Fo,Fo]at hc;obtain⟨s,rfl,h1⟩:=GK h;obtain⟨t,e,ep,rfl,h2⟩:=zu6 h1;obtain⟨f,p,as,cp,rfl,h3⟩:=KO h2;obtain⟨hd,rfl,h4⟩:=GK h3;split at h4;split at h4;obtain⟨xb,xp,rfl,h5⟩:=KN h4;obtain⟨s,rfl,h6⟩:=GK h5;obtain⟨hb,rp,rfl,h7⟩:=zu5 h6;exact q _ _ _ _ _ _ _ _ _ _ _ _ rfl rfl hc.1 hc.2 h7;cases h4
noncomputable def cS(K:aI)(T:List Str)(R:RX)(d:Nat):Nat->CC->au->Option S
 |0,_,_=>aD
 |n+1,C,s=>match s with
  |.Pass _=>aC .skip
  |.Break _=>aC .brk
  |.Continue _=>aC .cnt
  |.Raise ..=>aC .no
  |.Return r _=>(match r with
   |none=>aC (.ret (.cst .aL))
   |some e=>(cE K T d C e).map .ret)
  |.Expr e _=>if CS e then(cE K T d C e).map .expr else aD
  |.Assign l e _=>(match l with
   |[t]=>(match t with
    |.Name x p=>(match gF C (.Name x p),cE K T d C e with
    |some i,aC c=>aC (.set i c)
    |_,_=>aD)
    |.Tuple ts _ _=>if qK e then(match bH (gF C) ts,cE K T d C e with
    |some is,aC c=>aC (.xU is c)
    |_,_=>aD)else aD
    |.Subscript o i _=>if zZ i then(match cE K T d C o,cE K T d C i,cE K T d C e with
    |some x,aC y,aC z=>aC (.put x y z)
    |_,_,_=>aD)else aD
    |_=>aD)
   |_=>aD)
  |.AugAssign t O e _=>(match t with
   |.Name x p=>(match gF C (.Name x p),tU O,cE K T d C e with
    |some i,aC o,aC c=>aC (.aug i o c)
    |_,_,_=>aD)
   |_=>aD)
  |.If c a b _=>(match cT K T d C c,nq (cS K T R d n C) a,nq (cS K T R d n C) b with
   |some z,aC x,aC y=>aC (.ite z x y)
   |_,_,_=>aD)
  |.For tg it b el _=>(match el with
   |[]=>(match cW K T d C it,yx C tg,nq (cS K T R d n C) b with
    |some (kd,a),aC t,aC x=>if yw kd tg then aC (.for kd a t x)else aD
    |_,_,_=>aD)
   |_=>aD)
  |.While c b el _=>(match el with
   |[]=>(match cT K T d C c,nq (cS K T R d n C) b with
    |some z,aC x=>aC (.xV z x)
    |_,_=>aD)
   |_=>aD)
  |.Try b hs el fb _=>yC b hs el fb (yz K T R d C)
  |_=>aD
structure gV(X:Cx)(C:CC)(T:List Str)(R:RX)(F:Nat->Option Fn)(k:Nat):Prop where
 hN:X.N=C.N
 nd:C.N.Nodup
 vis:∀x,mD (C.names.lookup x)=true->pW X.env.scope x
 loc:∀x,mE C.ni (C.names.lookup x)=true->Loc X.env.scope x/\(X.fn x=true\/X.env.scope.names.lookup x=aC .local)
 gl:∀x,C.names.lookup x=aC .globalImplicit->Gl X x
 cf:∀x,(C.names.lookup x=aC .cell\/C.names.lookup x=aC .free)->X.env.kindOf x=aC .cell\/X.env.kindOf x=aC .free
 calm:X.calm=true
 room:cu k X.A
 xe:X.xe=λ_ _=>False
 Tt:X.env.scope.kind=.function
 sf:∀x v,PySem.W.nsIn X.K mainGlobals x=aC (aC v)->X.mg x=aC v
 Ab:∀x,PySem.W.nsIn X.K mainGlobals x=aC aD->X.mg x=aD
 fns:∀(i:Nat)(x:Str),T[i]?=aC x->x≠""->∃f fd ps fn,fj X.K x=aC f/\dZ X.prog X.w X.K X.mg X.base lF k f fd ps (sd X.K ps.length (run F k i))/\PySem.W.keepIn X.K (.ref f)=true/\Binds X.K fd ps []/\F i=aC fn/\fn.ps=ps.length/\(iO X.K x=true->Binds X.K fd ps [.none])
 rs:∀(j:Nat)(x:Str),R.Dg[j]?=aC x->∃f fd ps fn,fj X.K x=aC f/\dZ X.prog X.w X.K X.mg X.base (se X.prog X.w) k f fd ps (Df X.K ps.length (run F k (R.at_+j)))/\PySem.W.keepIn X.K (.ref f)=true/\Binds X.K fd ps []/\F (R.at_+j)=aC fn/\fn.ps=ps.length
 wd:∀C z,(C,z)∈R.tb->yo X C z
section
variable{X:Cx}{C:CC}{T:List Str}{R:RX}{F:Nat->Option Fn}{k:Nat}
theorem gV.GO(O:gV X C T R F k):X.A.units+65<cLine:=by have:=O.room.un;lia
theorem gV.u2(O:gV X C T R F k):X.A.units+2<cLine:=AK (Nat.add_le_add_left (by decide:2<=64) _) O.room.units
theorem gV.u1(O:gV X C T R F k):X.A.units+1<cLine:=AK (Nat.add_le_add_left (by decide:1<=64) _) O.room.units
theorem GP(O:gV X C T R F k){x:Str}(h:vB X.K C x):Gl X x/\X.mg x=aD:=by unfold vB at h;rw[bw]at h;refine⟨O.gl x (by simpa using h.1),O.Ab x ?_⟩;have h2:=h.2;split at h2;assumption;cases h2
theorem jN(O:gV X C T R F k){e:aq}{i:Nat}(h:gF C e=aC i):mz X e i:=by unfold gF at h;split at h;split at h;rename_i hc;rw[bw]at hc;obtain⟨h1,h2⟩:=O.loc _ hc.2;exact⟨_,_,rfl,by rw[O.hN];exact yq h,h1,h2⟩;cases h;cases h
theorem GQ(O:gV X C T R F k):∀{es:List aq} {is:List Nat},bH (gF C) es=aC is->Paired (mz X) es is
 |[],_,h=>by cases h;exact .nil
 |e::es,is,h=>by
  unfold bH at h;split at h;rename_i b hb;split at h;rename_i bs yr;cases h;exact .cons (jN O hb) (GQ O yr);cases h;cases h
theorem kY(O:gV X C T R F k){e:aq}{t:Tg}(h:yx C e=aC t):PG X e (cF X.K t):=by
 unfold yx at h;split at h;rename_i x p;cases z:gF C (.Name x p)with
 |none=>rw[z]at h;cases h
 |some i=>
  rw[z]at h;cases h;obtain⟨x',p',e,h1,h2,h3⟩:=jN O z;cases e;exact Sk (O.hN▸O.nd) h1 h2 h3
 split at h;rename_i is j z z2;cases h;obtain⟨x',p',e,h1,h2,h3⟩:=jN O z2;exact zyq O.calm (O.hN▸O.nd) (GQ O z) ⟨x',p',e,h1,h2,h3⟩;cases h;rename_i es kx p _;cases z:bH (gF C) es with|none=>rw[z]at h;cases h|some is=>rw[z]at h;cases h;exact JZ O.calm (O.hN▸O.nd) (GQ O z)
 cases h
theorem jg{f:aq->Option E}{cl:Call}(ih:∀e c,f e=aC c->SE X e (ev cl c)/\fK e):∀{es:List aq} {c:E},cL f es=aC c->SA X es (ev cl c)/\es.all fK=true
 |[],_,h=>by cases h;exact⟨Gp,rfl⟩
 |e::es,c,h=>by
  unfold cL at h;split at h;rename_i a r ha hr;cases h;obtain⟨h1,h2⟩:=ih e a ha;obtain⟨h3,h4⟩:=jg ih hr;exact⟨zT h1 h3 (dX h2),by rw[pQ,h2,h4];rfl⟩;cases h
theorem Tu{f:aq->Option E}{cl:Call}{pos:Pos}(ih:∀e c,f e=aC c->SE X e (ev cl c)/\fK e):∀{ks:List (Option aq)} {vs:List aq} {c:E},GN f ks vs=aC c->CD X pos ks vs (ev cl c)
 |[],[],_,h=>by cases h;exact Z5
 |[],_::_,_,h=>by cases h
 |none::_,_,_,h=>by cases h
 |some _::_,[],_,h=>by cases h
 |some a::ks,v::vs,c,h=>by
  unfold GN at h;split at h;rename_i x y r hx hy hr;cases h;exact Z6 (ih _ _ hx).1 (ih _ _ hy).1 (Tu ih hr);cases h
theorem nt{f:aq->Option E}{cl:Call}{pos:Pos}(ih:∀e c,f e=aC c->SE X e (ev cl c)/\fK e):∀{es:List aq} {c:E},(cB true f es=aC c->SE X (.BoolOp .And es pos) (ev cl c))/\(cB false f es=aC c->SE X (.BoolOp .Or es pos) (ev cl c))
 |[],_=>⟨(λh=>nomatch h),(λh=>nomatch h)⟩
 |[a],c=>⟨λh=>R0 (ih a c h).1,λh=>R0 (ih a c h).1⟩
 |a::b::r,c=>by
  refine⟨λh=>?_,λh=>?_⟩;unfold cB at h;split at h;rename_i x y hx hy;cases h;exact ZE (ih a x hx).1 ((nt ih).1 hy);cases h;unfold cB at h;split at h;rename_i x y hx hy;cases h;exact Cw (ih a x hx).1 ((nt ih).2 hy);cases h
theorem GR{f:aq->Option E}{cl:Call}{pos:Pos}(ih:∀e c,f e=aC c->ST X e (ev cl c)):∀{es:List aq} {c:E},(cB true f es=aC c->SW X (.BoolOp .And es pos) (ev cl c))/\(cB false f es=aC c->SW X (.BoolOp .Or es pos) (ev cl c))
 |[],_=>⟨(λh=>nomatch h),(λh=>nomatch h)⟩
 |[a],c=>⟨λh=>RZ (ih a c h),λh=>RZ (ih a c h)⟩
 |a::b::r,c=>by
  refine⟨λh=>?_,λh=>?_⟩;unfold cB at h;split at h;rename_i x y hx hy;cases h;exact ZD (ih a x hx) ((GR ih).1 hy);cases h;unfold cB at h;split at h;rename_i x y hx hy;cases h;exact Cv (ih a x hx) ((GR ih).2 hy);cases h
theorem qR{f:aq->Option E}{cl:Call}(ih:∀e c,f e=aC c->SE X e (ev cl c)/\fK e){o:Option aq}{b:Bool}{c:E}(h:cO f o=aC (b,c)):PO X o (jw X.K b (ev cl c)):=by
 unfold cO at h;split at h;cases h;exact ZM;rename_i e;cases z:f e with|none=>rw[z]at h;cases h|some c'=>rw[z]at h;cases h;exact R3 (ih _ _ z).1
theorem zva{x:Str}{t:Ty}(h:yt x=aC t):bootBuiltins x=aC (.type (tR t)):=by unfold yt at h;split at h;rename_i e;cases h;rw[show x = "int" by simpa using e];exact PyProof.Rows.boot_int;split at h;rename_i e;cases h;rw[show x = "bool" by simpa using e];decide +kernel;split at h;rename_i e;cases h;rw[show x = "tuple" by simpa using e];exact PyProof.Rows.boot_tuple;split at h;rename_i e;cases h;rw[show x = "list" by simpa using e];exact PyProof.Rows.boot_list;split at h;rename_i e;cases h;rw[show x = "str" by simpa using e];decide +kernel;split at h;rename_i e;cases h;rw[show x = "dict" by simpa using e];decide +kernel;cases h
theorem Dh{x:Str}{b:Bi}{e:aq}{es:List aq}{fa:FE}{p pos:Pos}(h:yu x=aC b)(hg:Gl X x)(hm:X.mg x=aD)(hn:okN x)(hc:X.calm)(ha:SA X (e::es) fa)(hs:(e::es).all fK):SE X (.Call (.Name x p) (e::es) [] pos) (jX fa (pq b)):=by
 obtain⟨n1,_,n2⟩:=oN hn;unfold yu at h;split at h;rename_i z;cases h;have z:x = "len":=by simpa using z
 subst z;exact Gv Xn ZP hg hm PySem.boot_len ha hs n2 n1;split at h;rename_i z;cases h;have z:x = "list":=by simpa using z
 subst z;exact JR Xo ZQ hg hm PyProof.Rows.boot_list ha hs n2 n1;split at h;rename_i z;cases h;have z:x = "tuple":=by simpa using z
 subst z;exact JR Xp ZR hg hm PyProof.Rows.boot_tuple ha hs n2 n1;split at h;rename_i z;cases h;have z:x = "int":=by simpa using z
 subst z;exact JR WZ ZT hg hm PyProof.Rows.boot_int ha hs n2 n1;split at h;rename_i z;cases h;have z:x = "abs":=by simpa using z
 subst z;exact Gv WX ZU hg hm (by decide +kernel) ha hs n2 n1;split at h;rename_i z;cases h;have z:x = "max":=by simpa using z
 subst z;exact Gv ((WY hc).or (zoq hc)) ZV hg hm (by decide +kernel) ha hs n2 n1;split at h;rename_i z;cases h;have z:x = "all":=by simpa using z
 subst z;exact Gv (Y7 hc) ZW hg hm (by decide +kernel) ha hs n2 n1;cases h
theorem Tv{b:aq}(h:zZ b):FZ b:=λo i=>by cases b<;>first|rfl|cases h
end
section
variable{X:Cx}{C:CC}{T:List Str}{R:RX}{F:Nat->Option Fn}{k:Nat}
theorem vC{env:Env}{kd:NameKind}(hk:kd≠.free):∀{l:List (Str×NameKind)} {x:Str},l.lookup x=aC kd->
 (l.map λ(n,k)=>if(k==NameKind.free&&env.scope.kind == .function&&env.kindOf n==aC .cell)then(n,NameKind.cell)else(n,k)).lookup x=aC kd
 |[],_,h=>by cases h
 |(n,j)::r,x,h=>by
  rw[fD];simp only[gQ]at h;by_cases hx:(x==n)=true;simp only[hx]at h;cases h;have:(kd==NameKind.free)=false:=by simpa using hk
  simp only[this,Ay,gY,fM,gQ,hx];have hx':(x==n)=false:=by simpa using hx
  simp only[hx']at h;have ih:=vC (env:=env) hk (l:=r) (x:=x) h;by_cases hc':(j==NameKind.free&&env.scope.kind == .function&&env.kindOf n==aC .cell)=true;simp only[hc',dg,gQ,hx'];exact ih;have hcf:(j==NameKind.free&&env.scope.kind == .function&&env.kindOf n==aC .cell)=false:=by simpa using hc'
  simp only[hcf,gY,fM,gQ,hx'];exact ih
theorem GS(O:gV X C T R F k){sc:az}{ix:List Nat}(h:qQ C sc ix):bq X (ownOf sc) (fG sc) ix sc/\(ownOf sc++fG sc).Nodup:=by
 unfold qQ at h;simp only[bw,gW,iU]at h;obtain⟨⟨⟨⟨⟨⟨⟨⟨h1,h2⟩,h2'⟩,h3⟩,h4⟩,h5⟩,h6⟩,h7⟩,h8⟩:=h;refine⟨⟨h1,h2,h3,h4,h2',λy hy e=>O.cf _ (h5 y hy e),λq x e=>?_,h6⟩,h8⟩;have hk:q< (fG sc).length:=(gZ.mp e).1;have:=h7 q (oY.mpr hk);rw[e]at this;cases z:ix[q]? with
 |none=>rw[z]at this;cases this
 |some j=>
  rw[z]at this;simp only[bw,gW]at this;exact⟨j,rfl,by rw[O.hN];exact this.1,this.2⟩
theorem vD(O:gV X C T R F k){sc:az}{ix:List Nat}(h:qQ C sc ix)(D:ai)(s₀:ah)(H₀:Hp)(ex:List ai):gV (X.comp (ownOf sc++fG sc) sc D s₀ H₀ ex) (jy sc) T R F k:=by
 obtain⟨S,nd⟩:=GS O h;refine⟨rfl,nd,λx hx=>?_,λx hx=>?_,λx hx=>?_,λx hx=>?_,O.calm,O.room,rfl,S.kind,O.sf,O.Ab,O.fns,O.rs,O.wd⟩;have hx:mD (sc.names.lookup x)=true:=hx;cases z:sc.names.lookup x with
 |none=>rw[z]at hx;cases hx
 |some kd=>
  cases kd with
  | «local»=>exact .inl (vC (by decide) z)
  |cell=>exact .inr (.inl (vC (by decide) z))
  |free=>
   have:=F4 (env:=X.env) O.Tt z;by_cases hc:X.env.kindOf x=aC .cell;rw[if_pos hc]at this;exact .inr (.inl this);rw[if_neg hc]at this;exact .inr (.inr this)
  |globalExplicit=>rw[z]at hx;cases hx
  |globalImplicit=>rw[z]at hx;cases hx
 have hx:mE true (sc.names.lookup x)=true:=hx;cases z:sc.names.lookup x with
 |none=>rw[z]at hx;cases hx
 |some kd=>
  cases kd with| «local»=>exact⟨.inl (vC (by decide) z),.inr (vC (by decide) z)⟩|cell=>exact⟨.inr (vC (by decide) z),.inl (by show(sc.names.lookup x==aC NameKind.cell)=true;rw[z];rfl)⟩|free=>rw[z]at hx;cases hx|globalExplicit=>rw[z]at hx;cases hx|globalImplicit=>rw[z]at hx;cases hx
 exact vC (by decide) hx;have hx:sc.names.lookup x=aC .cell\/sc.names.lookup x=aC .free:=hx;rcases hx with z|z
 exact .inl (vC (by decide) z);have:=F4 (env:=X.env) O.Tt z;by_cases hc:X.env.kindOf x=aC .cell;rw[if_pos hc]at this;exact .inl this;rw[if_neg hc]at this;exact .inr this
end
theorem map_some{α β:Type}{o:Option α}{f:α->β}{b:β}(h:o.map f=aC b):∃a,o=aC a/\b=f a:=by
 cases o with|none=>cases h|some a=>cases h;exact⟨a,rfl,rfl⟩
structure mF(X:Cx)(C:CC)(T:List Str)(F:Nat->Option Fn)(k n:Nat):Prop where
 e:∀e c,cE X.K T n C e=aC c->SE X e (ev (run F k) c)/\fK e=true
 t:∀e c,cT X.K T n C e=aC c->ST X e (ev (run F k) c)
 w:∀e kd c tg,cW X.K T n C e=aC (kd,c)->yw kd tg=true->PI X tg e (bY X.K kd (ev (run F k) c))/\∀x,foldedSetIterable e X.env x=pure x
section
variable{X:Cx}{C:CC}{T:List Str}{R:RX}{F:Nat->Option Fn}{k n:Nat}
theorem Di(O:gV X C T R F k)(ih:mF X C T F k n)(e:aq)(c:E)(h:cT X.K T (n+1) C e=aC c):ST X e (ev (run F k) c):=by unfold cT at h;split at h;split at h;split at h;rename_i hs;split at h;rename_i h1 h2 h3;cases h;exact Zw O.GO h1 hs (ih.e _ _ h2).1 (ih.e _ _ h3).1;cases h;cases h;split at h;rename_i hs;split at h;rename_i h1 h2 h3 h4 h5;cases h;exact Zy O.GO h1 h2 hs (ih.e _ _ h3).1 (ih.e _ _ h4).1 (ih.e _ _ h5).1;cases h;cases h;cases h;split at h;obtain⟨a,h1,rfl⟩:=map_some h;exact Zz (ih.t _ _ h1);cases h;split at h;exact((GR ih.t).1 h).pt;exact((GR ih.t).2 h).pt;obtain⟨a,h1,rfl⟩:=map_some h;exact JP (ih.e _ _ h1).1 λ_=>rfl;obtain⟨a,h1,rfl⟩:=map_some h;exact JP (ih.e _ _ h1).1 λ_=>rfl;obtain⟨a,h1,rfl⟩:=map_some h;exact JP (ih.e _ _ h1).1 λ_=>rfl;cases h
theorem Dj{e:aq}(h:∀a b c,e≠.Set a b c){env:Env}:∀x,foldedSetIterable e env x=pure x:=by intro x;cases e<;>first|rfl|exact absurd rfl (h _ _ _)
theorem Dl(O:gV X C T R F k)(ih:mF X C T F k n)(e:aq)(kd:Kd)(c:E)(tg:aq)(h:cW X.K T (n+1) C e=aC (kd,c))(hw:yw kd tg):PI X tg e (bY X.K kd (ev (run F k) c))/\∀x,foldedSetIterable e X.env x=pure x:=by
 unfold cW at h;split at h;rename_i f p args pos;refine⟨?_,λx=>rfl⟩;split at h;rename_i hf;have hf:f = "range":=by simpa using hf
 subst hf;split at h;rename_i ha;obtain⟨g1,g2⟩:=GP O ha;split at h;rename_i a;obtain⟨x,h1,h2⟩:=map_some h;cases h2;obtain⟨h3,h4⟩:=ih.e _ _ h1;exact zum (zT h3 Gp (dX h4)) h4 g1 g2;rename_i a b;split at h;rename_i x y h1 h2;cases h;obtain⟨h3,h4⟩:=ih.e _ _ h1;obtain⟨h5,h6⟩:=ih.e _ _ h2;exact zun (zT h3 (zT h5 Gp (dX h6)) (dX h4)) h4 h6 g1 g2;cases h;cases h;cases h;split at h;rename_i hf;have hf:f = "enumerate":=by simpa using hf
 subst hf;split at h;rename_i ha;obtain⟨g1,g2⟩:=GP O ha;split at h;rename_i a;obtain⟨x,h1,h2⟩:=map_some h;cases h2;obtain⟨h3,h4⟩:=ih.e _ _ h1;cases tg<;>first|exact zyl h3 h4 g1 g2|cases hw
 cases h;cases h;split at h;rename_i hf;have hf:f = "zip":=by simpa using hf
 subst hf;split at h;rename_i ha;obtain⟨g1,g2⟩:=GP O ha;split at h;rename_i a b;split at h;rename_i x y h1 h2;cases h;obtain⟨h3,h4⟩:=ih.e _ _ h1;obtain⟨h5,h6⟩:=ih.e _ _ h2;cases tg<;>first|exact zyo (zT h3 (zT h5 Gp (dX h6)) (dX h4)) h4 h6 g1 g2|cases hw
 cases h;cases h;cases h;obtain⟨x,h1,h2⟩:=map_some h;cases h2;exact JX (ih.e _ _ h1).1;cases h;rename_i nm _;obtain⟨x,h1,h2⟩:=map_some h;by_cases hcn:Tr C nm=true;simp only[hcn,dg]at h2;cases h2;exact⟨zuo (zy7 (ih.e _ _ h1).1),λx=>rfl⟩;simp only[hcn,fM]at h2;cases h2;exact⟨JX (ih.e _ _ h1).1,λx=>rfl⟩;rename_i hns hnm;obtain⟨x,h1,h2⟩:=map_some h;cases h2;exact⟨JX (ih.e _ _ h1).1,Dj (by first|exact hns|(intro a b c z;exact hns a b c z))⟩
end
section
variable{X:Cx}{C:CC}{T:List Str}{R:RX}{F:Nat->Option Fn}{k n:Nat}
theorem zrh(O:gV X C T R F k){x:Str}{p:Pos}{c:E}(h:cE X.K T (n+1) C (.Name x p)=aC c):SE X (.Name x p) (ev (run F k) c):=by simp only[cE]at h;split at h;rename_i hn;obtain⟨n1,n2,n3⟩:=oN hn;split at h;rename_i hv;obtain⟨i,h1,rfl⟩:=map_some h;exact Zj (by rw[O.hN];exact yq h1) (O.vis x hv) n1 n2;split at h;rename_i hg;split at h;rename_i v hv;obtain⟨w,h1,rfl⟩:=map_some h;obtain⟨y,h2,h3⟩:=To 8 v w h1;exact Ck (Qg (O.gl x (by simpa using hg)) (O.sf x v hv) h2 n1) h3;cases h;cases h;cases h
theorem zri(O:gV X C T R F k)(ih:mF X C T F k n){f:Str}{p pos:Pos}{args:List aq}{c:E}(h:cE X.K T (n+1) C (.Call (.Name f p) args [] pos)=aC c):SE X (.Call (.Name f p) args [] pos) (ev (run F k) c):=by
 simp only[cE]at h;split at h;rename_i hn;rw[bw]at hn;have hg:=O.gl f (by simpa using hn.2);split at h;rename_i hm;have hm:=O.Ab f hm;split at h;rename_i hf;have hf:f = "isinstance":=by simpa using hf
 subst hf;split at h;rename_i a t pt;split at h;rename_i ty x h1 h2;split at h;rename_i hc;cases h;rw[bw]at hc;obtain⟨g1,g2⟩:=GP O hc.2;obtain⟨h3,h4⟩:=ih.e _ _ h2;obtain⟨n1,n2,n3⟩:=oN hc.1;exact ZZ ty h3 h4 hg hm g1 g2 (zva h1) n3 n1;cases h;cases h;cases h;split at h;rename_i b e es hb;obtain⟨a,h1,rfl⟩:=map_some h;obtain⟨h2,h3⟩:=jg ih.e h1;exact Dh hb hg hm hn.1 O.calm h2 h3;cases h;rename_i v hv;split at h;rename_i i hi;obtain⟨fa,fd,ps,fn,q1,q2,q3,q4,q5,q6,q7⟩:=O.fns i f (yq hi) (zzd hn.1);have q1:=C4 q1;split at h;rename_i KW;rw[bw]at KW;obtain⟨a,h1,rfl⟩:=map_some h;obtain⟨h2,h3⟩:=jg ih.e h1;have hl:∀ws h w h',run F k i ws h=.ok w h'->ws.length=ps.length:=λws h w h' e=>by rw[C3 q5 e,q6]
 have hev:ev (run F k) (.call i (oO a))=jX (ev (run F k) a) (λws h=>run F k i (ws++[.aL]) h):=by
  funext ρ h;simp only[ev,zze (Tp h1)];show Res.bind (Res.bind (ev (run F k) a ρ h) _) _=Res.bind (ev (run F k) a ρ h) _;cases ev (run F k) a ρ h with|no=>rfl|ex _ _=>rfl|ok y h2=>cases y<;>rfl
 rw[hev];cases args with|nil=>cases KW.2|cons e es=>exact zq5 q2 O.room hg (O.sf f _ q1) q3 (q7 (zmf KW.1)) h2 h3 (oN hn.1).1 hl
 obtain⟨a,h1,rfl⟩:=map_some h;obtain⟨h2,h3⟩:=jg ih.e h1;have hl:∀ws h w h',run F k i ws h=.ok w h'->ws.length=ps.length:=λws h w h' e=>by rw[C3 q5 e,q6]
 cases args with
 |nil=>
  simp only[cL]at h1;cases h1;exact Z9 q2 O.room hg (O.sf f _ q1) q3 q4 (oN hn.1).1 hl
 |cons e es=>exact Z8 q2 O.room hg (O.sf f _ q1) q3 q4 h2 h3 (oN hn.1).1 hl
 cases h;cases h;cases h
theorem zrj(O:gV X C T R F k)(ih:mF X C T F k n){o:aq}{m:Str}{ap pos:Pos}{args:List aq}{c:E}(h:cE X.K T (n+1) C (.Call (.Attribute o m ap) args [] pos)=aC c):SE X (.Call (.Attribute o m ap) args [] pos) (ev (run F k) c):=by
 simp only[cE]at h;split at h;rename_i hn;rw[bw]at hn;split at h;rename_i x a hx;split at h;rename_i hm;have hm:m = "append":=by simpa using hm
 subst hm;obtain⟨y,h1,rfl⟩:=map_some h;obtain⟨h2,h3⟩:=ih.e _ _ h1;exact Z3 (ih.e _ _ hx).1 h2 hn.1 h3 hn.2;split at h;rename_i hm;have hm:m = "update":=by simpa using hm
 subst hm;obtain⟨y,h1,rfl⟩:=map_some h;obtain⟨h2,h3⟩:=ih.e _ _ h1;exact zor (ih.e _ _ hx).1 h2 hn.1 h3 hn.2;cases h;rename_i x a b hx;split at h;rename_i hm;have hm:m = "get":=by simpa using hm
 subst hm;split at h;rename_i y z h1 h2;cases h;obtain⟨h3,h4⟩:=ih.e _ _ h1;obtain⟨h5,h6⟩:=ih.e _ _ h2;exact Z4 O.u1 (ih.e _ _ hx).1 h3 h5 hn.1 h4 h6 hn.2;cases h;cases h;cases h;cases h
theorem GU{ow fr:List Str}{sc:az}{ifs:List aq}{c:E}(O:∀D s₀ H₀ ex,mF (X.comp (ow++fr) sc D s₀ H₀ ex) (jy sc) T F k n)
 (h:(match ifs with|[]=>aC (E.cst (.bl true))|[c]=>cT X.K T n (jy sc) c|_=>aD)=aC c) (D:ai) (s₀:ah) (H₀:Hp) (ex:List ai):jH (X.comp (ow++fr) sc D s₀ H₀ ex) ifs (cP X.K (ev (run F k) c)):=by
 split at h;cases h;exact λpins s σ H Q I z9=>z9.el λρ h m b h' f r e q=>by
  cases e;exact XJ pins s σ H Q I (q H m .refl r)
 exact XM ((O D s₀ H₀ ex).t _ _ h);cases h
theorem zs2(O:gV X C T R F k)(ih:mF X C T F k n)(ko:∀{sc:az} {ix:List Nat},qQ C sc ix=true->∀D s₀ H₀ ex,mF (X.comp (ownOf sc++fG sc) sc D s₀ H₀ ex) (jy sc) T F k n)
 {elt tg iter:aq} {ifs:List aq} {sc:az} {pos:Pos} {c:E} (h:cE X.K T (n+1) C (.ListComp elt [⟨tg,iter,ifs,0⟩] sc pos)=aC c) :
 ∃kd a t ix cc ce,c=.lc kd a t (ownOf sc).length ix cc ce/\bq X (ownOf sc) (fG sc) ix sc/\PI X tg iter (bY X.K kd (ev (run F k) a))/\(∀D s₀ H₀ ex,PG (X.comp (ownOf sc++fG sc) sc D s₀ H₀ ex) tg (cF X.K t))/\
  (∀D s₀ H₀ ex,jH (X.comp (ownOf sc++fG sc) sc D s₀ H₀ ex) ifs (cP X.K (ev (run F k) cc)))/\(∀D s₀ H₀ ex,PE (X.comp (ownOf sc++fG sc) sc D s₀ H₀ ex) elt (eK X.K (ev (run F k) ce)))/\∀x,foldedSetIterable iter X.env x=pure x:=by
 simp only[cE]at h;split at h
 .rename_i ix hix
  split at h
  .rename_i hc
   split at h
   .rename_i kd a t cc ce h1 h2 h3 h4
    split at h
    case isFalse=>cases h
    rename_i hw;cases h;obtain⟨w1,w2⟩:=ih.w _ _ _ tg h1 hw;exact⟨kd,a,t,ix,cc,ce,rfl,(GS O hc).1,w1,λD s₀ H₀ ex=>kY (vD O hc D s₀ H₀ ex) h2,GU (ko hc) h3,λD s₀ H₀ ex=>((ko hc D s₀ H₀ ex).e _ _ h4).1,w2⟩
   cases h
  cases h
 cases h
theorem Tw(O:gV X C T R F k)(ih:mF X C T F k n)(ko:∀{sc:az} {ix:List Nat},qQ C sc ix=true->∀D s₀ H₀ ex,mF (X.comp (ownOf sc++fG sc) sc D s₀ H₀ ex) (jy sc) T F k n)
 {elt tg iter ig bI:aq} {ifs dO:List aq} {sc:az} {pos:Pos} {c:E} (h:cE X.K T (n+1) C (.ListComp elt [⟨tg,iter,ifs,0⟩,⟨ig,bI,dO,0⟩] sc pos)=aC c) :
 ∃kd a t ix cc iE a2 t2 Ac ce,c=.zR kd a t (ownOf sc).length ix cc iE a2 t2 Ac ce/\bq X (ownOf sc) (fG sc) ix sc/\PI X tg iter (bY X.K kd (ev (run F k) a))/\(∀D s₀ H₀ ex,PG (X.comp (ownOf sc++fG sc) sc D s₀ H₀ ex) tg (cF X.K t))/\
  (∀D s₀ H₀ ex,jH (X.comp (ownOf sc++fG sc) sc D s₀ H₀ ex) ifs (cP X.K (ev (run F k) cc)))/\
  (∀D s₀ H₀ ex,PI (X.comp (ownOf sc++fG sc) sc D s₀ H₀ ex) ig bI (bY X.K iE (ev (run F k) a2)))/\(∀D s₀ H₀ ex,PG (X.comp (ownOf sc++fG sc) sc D s₀ H₀ ex) ig (cF X.K t2))/\
  (∀D s₀ H₀ ex,jH (X.comp (ownOf sc++fG sc) sc D s₀ H₀ ex) dO (cP X.K (ev (run F k) Ac)))/\(∀D s₀ H₀ ex,PE (X.comp (ownOf sc++fG sc) sc D s₀ H₀ ex) elt (eK X.K (ev (run F k) ce)))/\
  (∀x,foldedSetIterable iter X.env x=pure x)/\∀D s₀ H₀ ex x,foldedSetIterable bI (X.comp (ownOf sc++fG sc) sc D s₀ H₀ ex).env x=pure x:=by
 simp only[cE]at h;split at h
 .rename_i ix hix
  split at h
  .rename_i hc
   split at h
   .rename_i kd a t cc ce h1 h2 h3 h4
    split at h
    case isFalse=>cases h
    rename_i hw;split at h
    .rename_i iE a2 t2 Ac h5 h6 h7
     split at h
     case isFalse=>cases h
     rename_i Tz;cases h;obtain⟨w1,w2⟩:=ih.w _ _ _ tg h1 hw;exact⟨kd,a,t,ix,cc,iE,a2,t2,Ac,ce,rfl,(GS O hc).1,w1,λD s₀ H₀ ex=>kY (vD O hc D s₀ H₀ ex) h2,GU (ko hc) h3,λD s₀ H₀ ex=>((ko hc D s₀ H₀ ex).w _ _ _ ig h5 Tz).1,λD s₀ H₀ ex=>kY (vD O hc D s₀ H₀ ex) h6,GU (ko hc) h7,
      λD s₀ H₀ ex=>((ko hc D s₀ H₀ ex).e _ _ h4).1,w2,λD s₀ H₀ ex=>((ko hc D s₀ H₀ ex).w _ _ _ ig h5 Tz).2⟩
    cases h
   cases h
  cases h
 cases h
theorem TF(O:gV X C T R F k)(ih:mF X C T F k n)(ko:∀{sc:az} {ix:List Nat},qQ C sc ix=true->∀D s₀ H₀ ex,mF (X.comp (ownOf sc++fG sc) sc D s₀ H₀ ex) (jy sc) T F k n)
 {ek oK tg iter:aq} {ifs:List aq} {sc:az} {pos:Pos} {c:E} (h:cE X.K T (n+1) C (.DictComp ek oK [⟨tg,iter,ifs,0⟩] sc pos)=aC c) :
 ∃kd a t ix cc ce cv,c=.dc kd a t (ownOf sc).length ix cc ce cv/\bq X (ownOf sc) (fG sc) ix sc/\PI X tg iter (bY X.K kd (ev (run F k) a))/\(∀D s₀ H₀ ex,PG (X.comp (ownOf sc++fG sc) sc D s₀ H₀ ex) tg (cF X.K t))/\
  (∀D s₀ H₀ ex,jH (X.comp (ownOf sc++fG sc) sc D s₀ H₀ ex) ifs (cP X.K (ev (run F k) cc)))/\(∀D s₀ H₀ ex,PE (X.comp (ownOf sc++fG sc) sc D s₀ H₀ ex) ek (eK X.K (ev (run F k) ce)))/\
  (∀D s₀ H₀ ex,PE (X.comp (ownOf sc++fG sc) sc D s₀ H₀ ex) oK (eK X.K (ev (run F k) cv)))/\∀x,foldedSetIterable iter X.env x=pure x:=by
 simp only[cE]at h;split at h
 .rename_i ix hix
  split at h
  .rename_i hc
   split at h
   .rename_i kd a t cc ce cv h1 h2 h3 h4 h5
    split at h
    case isFalse=>cases h
    rename_i hw;cases h;obtain⟨w1,w2⟩:=ih.w _ _ _ tg h1 hw;exact⟨kd,a,t,ix,cc,ce,cv,rfl,(GS O hc).1,w1,λD s₀ H₀ ex=>kY (vD O hc D s₀ H₀ ex) h2,GU (ko hc) h3,λD s₀ H₀ ex=>((ko hc D s₀ H₀ ex).e _ _ h4).1,λD s₀ H₀ ex=>((ko hc D s₀ H₀ ex).e _ _ h5).1,w2⟩
   cases h
  cases h
 cases h
theorem Dm(O:gV X C T R F k)(ih:mF X C T F k n)(ko:∀{sc:az} {ix:List Nat},qQ C sc ix=true->∀D s₀ H₀ ex,mF (X.comp (ownOf sc++fG sc) sc D s₀ H₀ ex) (jy sc) T F k n)
 (e:aq) (c:E) (h:cE X.K T (n+1) C e=aC c):SE X e (ev (run F k) c)/\fK e=true:=by
 have h0:=h;unfold cE at h;split at h;exact⟨zrh O h0,rfl⟩;refine⟨?_,rfl⟩;split at h;cases h;exact Zk;cases h;exact Cm;cases h;exact Zl;cases h;exact Zm;cases h;obtain⟨a,h1,rfl⟩:=map_some h;exact⟨Zn (jg ih.e h1).1,rfl⟩;obtain⟨a,h1,rfl⟩:=map_some h;exact⟨Zo (jg ih.e h1).1,rfl⟩;refine⟨?_,rfl⟩;split at h;split at h;cases h;exact zy6;cases h;split at h;rename_i hc;simp only[bw]at hc;obtain⟨a,h1,rfl⟩:=map_some h;exact Z7 O.u2 (Tu ih.e h1) hc.2 (wY hc.1.2) (by simp) (lR hc.1.1);cases h;refine⟨?_,rfl⟩;split at h;rename_i h1 h2 h3;cases h;exact Co (Cr h1) (Zs _) (ih.e _ _ h2).1 (ih.e _ _ h3).1;cases h;split at h;obtain⟨a,h1,rfl⟩:=map_some h;exact⟨ZC (ih.e _ _ h1).1,rfl⟩;obtain⟨a,h1,rfl⟩:=map_some h;exact⟨ZH (ih.e _ _ h1).1,rfl⟩;cases h;split at h;exact⟨(nt ih.e).1 h,rfl⟩;exact⟨(nt ih.e).2 h,rfl⟩;split at h;refine⟨?_,rfl⟩;split at h;rename_i hs;split at h;rename_i h1 h2 h3;cases h;exact Zv O.GO h1 hs (ih.e _ _ h2).1 (ih.e _ _ h3).1;cases h;cases h;refine⟨?_,rfl⟩;split at h;rename_i hs;split at h;rename_i h1 h2 h3 h4 h5;cases h;exact Zx O.GO h1 h2 hs (ih.e _ _ h3).1 (ih.e _ _ h4).1 (ih.e _ _ h5).1;cases h;cases h;cases h;refine⟨?_,rfl⟩;split at h;rename_i h1 h2 h3;cases h;exact ZF (ih.t _ _ h1) (ih.e _ _ h2).1 (ih.e _ _ h3).1;cases h;split at h;split at h;refine⟨?_,rfl⟩;split at h;rename_i h1 h2 h3;cases h;exact ZO (ih.e _ _ h1).1 (qR ih.e h2) (qR ih.e h3);cases h;split at h;refine⟨?_,rfl⟩;split at h;rename_i x bl l y h1 h2 h3;split at h;rename_i hb;cases h;exact zy8 (ih.e _ _ h1).1 (qR ih.e h2) (ih.e _ _ h3).1 (zu8 hb);cases h;cases h;cases h;refine⟨?_,rfl⟩;split at h;rename_i hs;split at h;rename_i h1 h2;cases h;exact ZL O.u2 (ih.e _ _ h1).1 (ih.e _ _ h2).1 (Tv hs);cases h;cases h;split at h;split at h;exact⟨zri O ih h0,rfl⟩;exact⟨zrj O ih h0,rfl⟩;cases h;cases h;split at h;split at h;refine⟨?_,rfl⟩;obtain⟨kd,a,t,ix,cc,ce,rfl,S,w1,w2,w3,w4,w5⟩:=zs2 O ih ko h0;exact CT S O.calm w1 w2 w3 w4 w5;cases h;split at h;split at h;refine⟨?_,rfl⟩;obtain⟨kd,a,t,ix,cc,iE,a2,t2,Ac,ce,rfl,S,w1,w2,w3,v1,v2,v3,w4,w5,v5⟩:=Tw O ih ko h0;exact zyv S O.calm w1 w2 w3 v1 v2 v3 w4 w5 v5;cases h;cases h;cases h;split at h;split at h;refine⟨?_,rfl⟩;obtain⟨kd,a,t,ix,cc,ce,cv,rfl,S,w1,w2,w3,w4,w6,w5⟩:=TF O ih ko h0;exact CV S O.calm w1 w2 w3 w4 w6 w5;cases h;cases h;cases h
end
theorem pB{T:List Str}{R:RX}{F:Nat->Option Fn}{k:Nat}:∀(n:Nat) {X:Cx} {C:CC},gV X C T R F k->mF X C T F k n
 |0,_,_,_=>⟨(λe c h=>nomatch h),(λe c h=>nomatch h),(λe kd c tg h _=>nomatch h)⟩
 |n+1,X,C,O=>by
  have ih:=pB n O;have ko:∀{sc:az}{ix:List Nat},qQ C sc ix=true->∀D s₀ H₀ ex,mF (X.comp (ownOf sc++fG sc) sc D s₀ H₀ ex) (jy sc) T F k n:=λhc D s₀ H₀ ex=>pB n (vD O hc D s₀ H₀ ex);exact⟨Dm O ih ko,Di O ih,Dl O ih⟩
section
variable{X:Cx}{C:CC}{T:List Str}{R:RX}{F:Nat->Option Fn}{k d:Nat}
theorem yD{f:au->Option S}{cl:Call}(ih:∀st c,f st=aC c->SS X st (exs cl c)):∀{sts:List au} {c:S},nq f sts=aC c->Ke X sts (exs cl c)
 |[],_,h=>by cases h;exact Sy
 |s::r,c,h=>by
  unfold nq at h;split at h;rename_i a b ha hb;cases h;exact Sz (ih s a ha) (yD ih hb);cases h
theorem zzf{K:aI}{T:List Str}{n:Nat}{C:CC}{elt:aq}{gs:List Comprehension}{sc:az}{lp:Pos}{c:E}(h:cE K T (n+1) C (.ListComp elt gs sc lp)=aC c):(∃tg iter ifs,gs=[⟨tg,iter,ifs,0⟩])\/∃tg iter ifs ig bI dO,gs=[⟨tg,iter,ifs,0⟩,⟨ig,bI,dO,0⟩]:=by simp only[cE]at h;split at h;rename_i g;split at h;exact .inl ⟨_,_,_,rfl⟩;cases h;rename_i g g2;split at h;split at h;exact .inr ⟨_,_,_,_,_,_,rfl⟩;cases h;cases h;cases h
theorem zzg{K:aI}{T:List Str}{n:Nat}{C:CC}{ek ev:aq}{gs:List Comprehension}{sc:az}{lp:Pos}{c:E}(h:cE K T (n+1) C (.DictComp ek ev gs sc lp)=aC c):∃tg iter ifs,gs=[⟨tg,iter,ifs,0⟩]:=by simp only[cE]at h;split at h;rename_i g;split at h;exact⟨_,_,_,rfl⟩;cases h;cases h
theorem zvb(O:gV X C T R F k){x:Str}{p pos:Pos}{e:aq}{i:Nat}{c:E}(hi:gF C (.Name x p)=aC i)(h:cE X.K T d C e=aC c):SS X (.Assign [.Name x p] e pos) (exs (run F k) (.set i c)):=by
 obtain⟨x',p',ex,h1,h2,h3⟩:=jN O hi;cases ex;have nd:X.N.Nodup:=O.hN▸O.nd;have Sd:=pB (T:=T) (F:=F) (k:=k) d O;by_cases hc:CS e=true;exact Kh nd h1 h2 h3 (Sd.e _ _ h).1 (Kg hc);cases d with
 |zero=>cases h
 |succ n=>
  cases e with
  |ListComp elt gs sc lp=>
   have sw:∃b:Bool,swapsWith (.ListComp elt gs sc lp) (aC (.Name x p)) pos.line X.env=pure b:=⟨_,rfl⟩
   obtain⟨b,hb⟩:=sw;cases b with
   |false=>exact Kh nd h1 h2 h3 (Sd.e _ _ h).1 hb
   |true=>
    rcases zzf h with⟨tg,iter,ifs,rfl⟩|⟨tg,iter,ifs,ig,bI,dO,rfl⟩;obtain⟨kd,a,t,ix,cc,ce,rfl,S,w1,w2,w3,w4,w5⟩:=zs2 O (pB n O) (λhc D s₀ H₀ ex=>pB n (vD O hc D s₀ H₀ ex)) h;exact zq9 nd h1 h2 h3 S O.calm w1 w2 w3 w4 hb w5;obtain⟨kd,a,t,ix,cc,iE,a2,t2,Ac,ce,rfl,S,w1,w2,w3,v1,v2,v3,w4,w5,v5⟩:=Tw O (pB n O) (λhc D s₀ H₀ ex=>pB n (vD O hc D s₀ H₀ ex)) h;exact zoi nd h1 h2 h3 S O.calm w1 w2 w3 v1 v2 v3 w4 hb w5 v5
  |SetComp _ _ _ _=>unfold cE at h;cases h
  |DictComp ek oK gs sc lp=>
   have sw:∃b:Bool,swapsWith (.DictComp ek oK gs sc lp) (aC (.Name x p)) pos.line X.env=pure b:=⟨_,rfl⟩
   obtain⟨b,hb⟩:=sw;cases b with
   |false=>exact Kh nd h1 h2 h3 (Sd.e _ _ h).1 hb
   |true=>
    obtain⟨tg,iter,ifs,rfl⟩:=zzg h;obtain⟨kd,a,t,ix,cc,ce,cv,rfl,S,w1,w2,w3,w4,w6,w5⟩:=TF O (pB n O) (λhc D s₀ H₀ ex=>pB n (vD O hc D s₀ H₀ ex)) h;exact zra nd h1 h2 h3 S O.calm w1 w2 w3 w4 w6 hb w5
  |_=>exact absurd rfl hc
structure tW(X:Cx)(C:CC):Prop where
 stk:X.stack=X.env::X.outer
 fr:X.env.frame=aC X.env.locals
 fn:∀x,X.fn x=true
 lc:∀x,C.names.lookup x=aC .local->X.env.kindOf x=aC .local/\Loc X.env.scope x/\pW X.env.scope x
theorem zvc(O:gV X C T R F k)(tp:tW X C){f xb nm:Str}{tg:aq}{hb:aq}{es:List aq}{p cpos epos t2 hpos pos rp:Pos}{c:S}(h:yz X.K T R d C tg f es xb nm hb=aC c) :
 SS X (.Try [.Assign [tg] (.Call (.Name f p) es [] cpos) epos] [.ExceptHandler (aC (.Name xb t2)) (aC nm) [.Return (aC hb) rp] hpos] [] [] pos) (exs (run F k) c):=by
 unfold yz at h;split at h
 case isFalse=>cases h
 rename_i hc;simp only[bw,lC]at hc;obtain⟨⟨⟨⟨⟨⟨⟨⟨c1,c2⟩,c3⟩,c4⟩,c5⟩,c6⟩,c7⟩,c8⟩,c9⟩:=hc;cases es with
 |nil=>cases c9
 |cons e es=>
 split at h
 case h_2=>cases h
 rename_i j D i o a v hj hD hi ho ha hv;split at h
 case isFalse=>cases h
 rename_i hs;cases h;obtain⟨fa,fd,ps,fn,q1,q2,q3,q4,q5,q6⟩:=O.rs j f (yq hj);have Sd:=pB (T:=T) (F:=F) (k:=k) d O;obtain⟨h2,h3⟩:=jg Sd.e ha;obtain⟨l1,l2,l3⟩:=tp.lc nm c7;obtain⟨x9,p9,v0,v1,v2,_⟩:=jN O hv;cases v0;refine zzc (tb:=R.tb) tp.stk tp.fr q2 O.room (λx=>O.room.h) (O.gl f c2) (O.sf f _ (C4 q1)) q3 q4 (λws h w h' e=>by rw[C3 q5 e,q6]) (by
  have e:X.jb=X:=by have:=O.xe;obtain⟨⟩:=X;cases this;rfl
  rw[e];exact h2) h3 (O.gl xb c5) (O.sf xb _ hD) (O.hN▸O.nd) (by rw[O.hN];exact yq hi) l1 l2 l3 (tp.fn nm) ho O.wd (O.gl _ c8) (λC z hm=>?_) (oN c1).1 (oN c4).1 (oN c6).1 (oN c6).2.1 v1 v2 (tp.fn _)
 exact(iU.mp hs) _ hm
theorem nu(O:gV X C T R F k)(tp:tW X C):∀(n:Nat) (st:au) (c:S),cS X.K T R d n C st=aC c->SS X st (exs (run F k) c)
 |0,_,_,h=>by cases h
 |n+1,st,c,h=>by
  have nd:X.N.Nodup:=O.hN▸O.nd;have Sd:=pB (T:=T) (F:=F) (k:=k) d O;have ih:=nu O tp n;have hp:PassesOwn (model X.prog X.w) X.A X.env X.xe:=by rw[O.xe];exact PassesOwn.never
  unfold cS at h;split at h;cases h;exact zur;cases h;exact zys;cases h;exact zyt;cases h;exact CQ;split at h;cases h;exact zut;obtain⟨a,h1,rfl⟩:=map_some h;exact zyu (Sd.e _ _ h1).1;split at h;rename_i hc;obtain⟨a,h1,rfl⟩:=map_some h;exact zus (Sd.e _ _ h1).1 hc;cases h;split at h;split at h;split at h;rename_i i a h1 h2;cases h;exact zvb O h1 h2;cases h;split at h;rename_i ht;split at h;rename_i h1 h2;cases h;exact zyw O.calm nd (GQ O h1) (Sd.e _ _ h2).1 ht;cases h;cases h;split at h;rename_i hs;split at h;rename_i h1 h2 h3;cases h;exact zyy O.u2 (Sd.e _ _ h1).1 (Sd.e _ _ h2).1 (Sd.e _ _ h3).1 hs;cases h;cases h;cases h;cases h;split at h;split at h;rename_i h1 h2 h3;cases h;obtain⟨x',p',ex,a1,a2,a3⟩:=jN O h1;cases ex;exact zy1 h2 nd a1 a2 a3 (Sd.e _ _ h3).1;cases h;cases h;split at h;rename_i h1 h2 h3;cases h;exact SG (Sd.t _ _ h1) (yD ih h2) (yD ih h3);cases h
  .rename_i tg it b el pos
   split at h
   .split at h
    .rename_i h1 h2 h3
     split at h
     case isFalse=>cases h
     rename_i hw;cases h;obtain⟨w1,w2⟩:=Sd.w _ _ _ tg h1 hw;exact zy3 hp O.calm w1 (kY O h2) (yD ih h3) w2
    cases h
   cases h
  split at h;split at h;rename_i h1 h2;cases h;exact zy4 hp (Sd.t _ _ h1) (yD ih h2);cases h;cases h;exact zu9 h λt f p as cp ep xb xp nm hb rp hp e1 e2 e3 e4 h=>by subst e1 e2 e3 e4;exact zvc O tp h
  cases h
end
noncomputable def GV:FuncBody->Option (List au)|.stmts b=>aC b|_=>aD
theorem zmg{d:Data}(h:GL d):∃n,d=.seq #[.none] n:=by
 cases d with
 |seq xs n=>
  obtain⟨l⟩:=xs;unfold GL at h;simp only[]at h;split at h;rename_i v;cases v<;>first|exact⟨n,rfl⟩|cases h
  cases h
 |_=>cases h
theorem zrk{K:aI}{v:af}(h:fQ K v):∃t o n,v=.ref t/\K.lookup t=aC o/\o.data=.seq #[.none] n:=by
 cases v with
 |ref t=>
  have h:(match K.lookup t with|some o=>GL o.data|none=>false)=true:=h;cases e:K.lookup t with
  |none=>rw[e]at h;cases h
  |some o=>
   rw[e]at h;obtain⟨n,q⟩:=zmg h;exact⟨t,o,n,rfl,e,q⟩
 |_=>cases h
noncomputable def pC(ps:List Str)(sc:az):List Str:=ps++(sc.names.filter λy=>(y.2 == .local||y.2 == .cell) && !(ps.contains y.1)).map (·.1)
noncomputable def Dn(N ps:List Str)(sc:az):Bool:=
 decide (sc.kind=.function) && !sc.isCoroutine && !sc.isGenerator&&decide N.Nodup&&decide (N.take ps.length=ps)&&ps.all (λx=>decide (sc.names.lookup x=aC .local\/sc.names.lookup x=aC .cell))&&sc.names.all (λy=>decide (y.2≠.free))&&decide ps.Nodup
theorem TH{N ps:List Str}{sc:az}(h:Dn N ps sc):cy N ps sc/\ps.Nodup:=by unfold Dn at h;simp only[bw,gW,iU,uK]at h;obtain⟨⟨⟨⟨⟨⟨⟨h1,h2⟩,h3⟩,h4⟩,h5⟩,h6⟩,h7⟩,h8⟩:=h;exact⟨⟨h1,h2,h3,h4,h5,h6,h7⟩,h8⟩
noncomputable def jh(x:Str):Str:=(qL x).getD x
noncomputable def Ad(K:aI)(g:CC->List au->Option S)(x:Str):Option Fn:=match fnAt K x with
 |some (f,o,fd)=>(match vA fd.params,GV fd.body with
  |some args,aC body=>if fd.name==jh x&&fd.qualname==x&&Nat.beq fd.globals mainGlobals&&fd.closure.isEmpty&& (isNone fd.defaults||fQ K fd.defaults && !args.isEmpty)&&Nat.beq fd.builtins builtinsNs&&PySem.W.codeIn K fd.code x&&PySem.W.keepIn K (.ref f) &&
   Dn (pC (args.map (·.arg)) fd.scope) (args.map (·.arg)) fd.scope then
   (g ⟨pC (args.map (·.arg)) fd.scope,fd.scope.names,true⟩ body).map λb=>⟨(args.map (·.arg)).length,(pC (args.map (·.arg)) fd.scope).length,b⟩
   else aD
  |_,_=>aD)
 |none=>aD
theorem TJ{fd:av}{x:Str}{args:List Arg}{body:List au}(c1:(fd.name==jh x))(c2:(fd.qualname==x))(c3:Nat.beq fd.globals mainGlobals)(c4:fd.closure.isEmpty)(c6:Nat.beq fd.builtins builtinsNs)(ha:vA fd.params=aC args)(hb:GV fd.body=aC body) :
 ∃dx,fd=PySem.W.fnOf (jh x) x ⟨[],args,aD,[],[],aD,dx⟩ body fd.scope fd.defaults fd.kwdefaults fd.doc fd.pyModule fd.annotations fd.code fd.closureTuple:=by
 obtain⟨nm,qn,pr,bd,sc,gl,cl,df,kd,dc,pm,an,cdv,ct,bu⟩:=fd;have e1:nm=jh x:=by simpa using c1
 have e2:qn=x:=by simpa using c2
 have e3:gl=mainGlobals:=wY c3;have e4:cl=[]:=by simpa using c4
 have e6:bu=builtinsNs:=wY c6;have e7:bd=.stmts body:=by
  cases bd with|stmts b'=>cases hb;rfl|expr _=>cases hb
 obtain⟨dx,e8⟩:∃dx,pr=⟨[],args,aD,[],[],aD,dx⟩:=by unfold vA at ha;split at ha;cases ha;rename_i z;exact⟨_,z⟩;cases ha
 exact⟨dx,by rw[e1,e2,e3,e4,e6,e7,e8]⟩
theorem TL{K:aI}{x:Str}{fd:av}{args:List Arg}{body:List au}{dx:List aq}{sc:az}{df kd dc pm:af}{an:Option ai}{cdv ct:af}{b:Bool}(e:fd=PySem.W.fnOf (jh x) x ⟨[],args,aD,[],[],aD,dx⟩ body sc df kd dc pm an cdv ct)(nd:(args.map (·.arg)).Nodup)
 (hb:b=fQ K df) (c5:(isNone df||fQ K df && !args.isEmpty)):Binds K fd (args.map (·.arg)) []/\(b=true->Binds K fd (args.map (·.arg)) [.none])/\(b=false->∀us:List af,us.length=(args.map (·.arg)).length->bindArgs fd ⟨us,[]⟩=pure ((args.map (·.arg)).zip us)):=by
 subst e hb;rw[pL,bw]at c5;rcases c5 with c5|⟨c5,c0⟩
 have e5:df=.none:=by cases df<;>first|rfl|cases c5
 subst e5;exact⟨.all λus hl=>SK hl nd,(λz=>nomatch z),λ_ us hl=>SK hl nd⟩;obtain⟨t,o,n,rfl,hk,hd⟩:=zrk c5;rw[c5];obtain⟨qs,z,Dp⟩:∃qs z,args.map (·.arg)=qs++[z]:=by rcases List.eq_nil_or_concat (args.map (·.arg))with q|⟨l,b,q⟩;rw[List.map_eq_nil_iff.mp q]at c0;cases c0;exact⟨l,b,by rw[q,List.concat_eq_append]⟩
 have KY:=nd;rw[Dp]at KY;refine⟨λs us hK hl=>?_,λ_ s us hK hl=>?_,λz=>nomatch z⟩;rw[nS]at hl ⊢;rw[Dp]at hl ⊢;exact zmd Dp KY (hK _ _ hk) hd hl;rw[Dp]at hl ⊢;exact zme Dp KY (hK _ _ hk) hd (by rw[fC,fC]at hl;simpa using hl)
theorem TN{K:aI}{x:Str}{f:ai}{o:Obj}{fd:av}(h:fnAt K x=aC (f,o,fd)):fj K x=aC f/\∃oc od sl,K.lookup f=aC ⟨oc,od,.func fd,sl⟩:=by unfold fnAt at h;split at h;rename_i f' hn;split at h;rename_i o' ho;split at h;rename_i fd' hd;cases h;refine⟨hn,o.cls,o.dict,o.slots,?_⟩;rw[<-hd];exact ho;cases h;cases h;cases h
theorem zzh{K:aI}{g:CC->List au->Option S}{x:Str}{fn:Fn}:∀(f:ai) (o:Obj) (fd:av) (args:List Arg) (body:List au) (b:S),fnAt K x=aC (f,o,fd)->vA fd.params=aC args->GV fd.body=aC body->(fd.name==jh x&&fd.qualname==x&&Nat.beq fd.globals mainGlobals&&fd.closure.isEmpty&& (isNone fd.defaults||fQ K fd.defaults && !args.isEmpty)&&Nat.beq fd.builtins builtinsNs&&PySem.W.codeIn K fd.code x&&PySem.W.keepIn K (.ref f) &&
 Dn (pC (args.map (·.arg)) fd.scope) (args.map (·.arg)) fd.scope)=true->g ⟨pC (args.map (·.arg)) fd.scope,fd.scope.names,true⟩ body=aC b->fn=⟨(args.map (·.arg)).length,(pC (args.map (·.arg)) fd.scope).length,b⟩->∃f fd st ps N,fj K x=aC f/\j0 K (jh x) x st f fd/\cy N ps (iM st)/\fn.n=N.length/\fn.ps=ps.length/\(Binds K fd ps []/\(iO K x=true->Binds K fd ps [.none])/\(iO K x=false->∀us:List af,us.length=ps.length->bindArgs fd ⟨us,[]⟩=pure (ps.zip us)))/\
 g ⟨N,(iM st).names,true⟩ (zP st)=aC fn.body/\∃o' fd' args,fnAt K x=aC (f,o',fd')/\vA fd'.params=aC args/\ps=args.map (·.arg):=by
 intro f o fd args body b hf ha hb hc h1 e;rw[bw,bw,bw,bw,bw,bw,bw,bw]at hc;obtain⟨⟨⟨⟨⟨⟨⟨⟨c1,c2⟩,c3⟩,c4⟩,c5⟩,c6⟩,c7⟩,c8⟩,c9⟩:=hc;obtain⟨S,nd⟩:=TH c9;obtain⟨hn,oc,od,sl,lk⟩:=TN hf;obtain⟨dx,ef⟩:=TJ c1 c2 c3 c4 c6 ha hb;have hh:iO K x=fQ K fd.defaults:=by unfold iO;rw[hf]
 exact⟨f,fd,.FunctionDef (jh x) ⟨[],args,aD,[],[],aD,dx⟩ body [] aD [] fd.scope aD (jh x) ⟨0,0,0,0⟩,args.map (·.arg),pC (args.map (·.arg)) fd.scope,hn,⟨oc,od,_,_,_,_,_,fd.code,_,sl,ef,lk,c7,c8⟩,S,by rw[e],by rw[e],TL ef nd hh c5,by rw[e];exact h1,o,fd,args,hf,ha,rfl⟩
theorem kZ{K:aI}{g:CC->List au->Option S}{x:Str}{fn:Fn}(h:Ad K g x=aC fn):∃f fd st ps N,fj K x=aC f/\j0 K (jh x) x st f fd/\cy N ps (iM st)/\fn.n=N.length/\fn.ps=ps.length/\(Binds K fd ps []/\(iO K x=true->Binds K fd ps [.none])/\(iO K x=false->∀us:List af,us.length=ps.length->bindArgs fd ⟨us,[]⟩=pure (ps.zip us)))/\
 g ⟨N,(iM st).names,true⟩ (zP st)=aC fn.body/\∃o' fd' args,fnAt K x=aC (f,o',fd')/\vA fd'.params=aC args/\ps=args.map (·.arg):=by
 unfold Ad at h;split at h;rename_i f o fd hf;split at h;rename_i args body ha hb;split at h;rename_i hc;obtain⟨b,h1,e⟩:=map_some h;exact zzh f o fd args body b hf ha hb hc h1 e;cases h;cases h;cases h
theorem KZ{α β:Type}{f:α->Option β}:∀{l:List α} {r:List β},bH f l=aC r->∀(i:Nat) (a:α),l[i]?=aC a->∃b,r[i]?=aC b/\f a=aC b
 |[],_,_,i,a,e=>by simp at e
 |x::l,r,h,i,a,e=>by
  unfold bH at h;split at h;rename_i b hb;split at h;rename_i bs yr;cases h;cases i with
  |zero=>simp at e;subst e;exact⟨b,rfl,hb⟩
  |succ i=>
   obtain⟨c,h1,h2⟩:=KZ yr i a (by simpa using e);exact⟨c,by simpa using h1,h2⟩
  cases h;cases h
inductive MV where
 |exc|pD (bs:List Bool)|sts (xs:List Str)|bl (b:Bool)|int (i:Int)|str (x:Str)
noncomputable def jz(C:ai)(H:Hp)(v:V):MV->Prop|.exc=>∃a,v=.ref a/\tV C a H|.pD bs=>∃l,v=.ref l/\H l=aC (.lst (bs.map .bl))|.sts xs=>∃l,v=.ref l/\H l=aC (.lst (xs.map .str))|.bl b=>v=.bl b|.int i=>v=.int i|.str x=>v=.str x
theorem jz.mono{C:ai}{H H':Hp}{v:V}{m:MV}(h:jz C H v m)(k:Hx H H'):jz C H' v m:=by
 cases m with|exc=>obtain⟨a,e,q⟩:=h;exact⟨a,e,q.mono k⟩|pD bs=>obtain⟨a,e,q⟩:=h;exact⟨a,e,k _ _ q⟩|sts bs=>obtain⟨a,e,q⟩:=h;exact⟨a,e,k _ _ q⟩|bl b=>exact h|int i=>exact h|str x=>exact h
noncomputable def nv(C:ai)(H:Hp):List V->List MV->Prop|[],[]=>True|v::vs,m::ms=>jz C H v m/\nv C H vs ms|_,_=>False
noncomputable def jA(C:ai)(H:Hp)(σ:L2.St)(ρ:List (Option MV)):Prop:=∀(i:Nat) (m:MV),ρ[i]?=aC (aC m)->∃v,σ[i]?=aC (aC v)/\jz C H v m
theorem jA.mono{C:ai}{H H':Hp}{σ:L2.St}{ρ:List (Option MV)}(h:jA C H σ ρ)(k:Hx H H'):jA C H' σ ρ:=λi m e=>let⟨v,a,b⟩:=h i m e;⟨v,a,b.mono k⟩
noncomputable def tM(C:ai)(ρ:List (Option MV))(m:MV):TE:=λσ H Q=>jA C H σ ρ/\∀v H',Hx H H'->jz C H' v m->Q v H'
noncomputable def Ae(C:ai)(ρ:List (Option MV))(ms:List MV):TA:=λσ H Q=>jA C H σ ρ/\∀vs H',Hx H H'->nv C H' vs ms->Q vs H'
noncomputable def pF(C:ai)(ρ:List (Option MV))(b:Bool):TT:=λσ H Q=>jA C H σ ρ/\∀H',Hx H H'->Q b H'
section
variable{X:Cx}{C:ai}{ρ:List (Option MV)}{a b e:aq}{es:List aq}{pos:Pos}
theorem Dq{i:Nat}{x:Str}{m:MV}(hN:X.N[i]?=aC x)(hv:pW X.env.scope x)(hd:(x==("__debug__" : Str))=false)(hcd:(x==("__classdict__" : Str))=false)(hi:ρ[i]?=aC (aC m)):PE X (.Name x pos) (tM C ρ m):=
 (Il hN hv hd hcd).imp λσ H Q ⟨en,k⟩=>let⟨v,e,r⟩:=en i m hi;⟨v,e,k v H .refl r⟩
theorem Af:PA X [] (Ae C ρ []):=pZ.imp λσ H Q ⟨_,k⟩=>k [] H .refl trivial
theorem k6{m:MV}{ms:List MV}(ha:PE X e (tM C ρ m))(hr:PA X es (Ae C ρ ms))(hs:fK e):PA X (e::es) (Ae C ρ (m::ms)):=
 (nY ha hr (dX hs)).imp λσ H Q ⟨en,k⟩=>⟨en,λv H1 k1 r1=>⟨en.mono k1,λvs H2 k2 r2=>k (v::vs) H2 (k1.trans k2) ⟨r1.mono k2,r2⟩⟩⟩
theorem TQ{H:Hp}:∀{vs:List V} {bs:List Bool},nv C H vs (bs.map .bl)->vs=bs.map .bl|[],[],_=>rfl|v::vs,b::bs,h=>by rw[fD,TQ (vs:=vs) (bs:=bs) h.2,show v=.bl b from h.1]|[],_::_,h=>h.elim|_::_,[],h=>h.elim
theorem TR{H:Hp}:∀{vs:List V} {bs:List Str},nv C H vs (bs.map .str)->vs=bs.map .str|[],[],_=>rfl|v::vs,b::bs,h=>by rw[fD,TR (vs:=vs) (bs:=bs) h.2,show v=.str b from h.1]|[],_::_,h=>h.elim|_::_,[],h=>h.elim
theorem k7{bs:List Bool}(ha:PA X es (Ae C ρ (bs.map .bl)))(hz:bs.length<=sizeLine):PE X (.List es pos) (tM C ρ (.pD bs)):=
 (IS ha).imp λσ H Q ⟨en,k⟩=>⟨en,λvs H1 k1 r=>by
   have e:=TQ r;subst e;exact⟨by rw[bG];exact hz,λp hp=>k _ _ (k1.trans (.new hp)) ⟨p,rfl,gn⟩⟩⟩
theorem Dr{bs:List Str}(ha:PA X es (Ae C ρ (bs.map .str)))(hz:bs.length<=sizeLine):PE X (.List es pos) (tM C ρ (.sts bs)):=
 (IS ha).imp λσ H Q ⟨en,k⟩=>⟨en,λvs H1 k1 r=>by
   have e:=TR r;subst e;exact⟨by rw[bG];exact hz,λp hp=>k _ _ (k1.trans (.new hp)) ⟨p,rfl,gn⟩⟩⟩
theorem ny{x y:List Bool}(ha:PE X a (tM C ρ (.pD x)))(hb:PE X b (tM C ρ (.pD y)))(hz:x.length+y.length<=sizeLine):PE X (.BinOp a .Add b pos) (tM C ρ (.pD (x++y))):=
 (pY IX ha hb).imp λσ H Q ⟨en,k⟩=>⟨en,λv H1 k1 ⟨l,e1,q1⟩=>⟨en.mono k1,λu H2 k2 ⟨l2,e2,q2⟩=>⟨l,l2,_,_,e1,e2,k2 _ _ q1,q2,by rw[bG,bG];exact hz,λp hp=>k _ _ ((k1.trans k2).trans (.new hp)) ⟨p,rfl,by rw[gn,gu]⟩⟩⟩⟩
theorem zzi{x y:List Str}(ha:PE X a (tM C ρ (.sts x)))(hb:PE X b (tM C ρ (.sts y)))(hz:x.length+y.length<=sizeLine):PE X (.BinOp a .Add b pos) (tM C ρ (.sts (x++y))):=
 (pY IX ha hb).imp λσ H Q ⟨en,k⟩=>⟨en,λv H1 k1 ⟨l,e1,q1⟩=>⟨en.mono k1,λu H2 k2 ⟨l2,e2,q2⟩=>⟨l,l2,_,_,e1,e2,k2 _ _ q1,q2,by rw[bG,bG];exact hz,λp hp=>k _ _ ((k1.trans k2).trans (.new hp)) ⟨p,rfl,by rw[gn,gu]⟩⟩⟩⟩
theorem Ds{t:Str}{p p2:Pos}{c:af}{cv:V}{r:Bool}(hc:qj cv=aC c)(hT:PE X (.Name t p2) (tC cv))(ha:PE X a (tM C ρ .exc))(hs:fK a)(hg:Gl X "isinstance")(hm:X.mg "isinstance" = aD)(kk:XL.jV X.K C)(e:PySem.W.kitOne X.K (.ref C) c=aC r) :
 PE X (.Call (.Name "isinstance" p) [a,.Name t p2] [] pos) (tM C ρ (.bl r)):=
 (IT (zrc hc) hg hm PyProof.Rows.boot_isinstance (nY ha (nY hT pZ) (dX hs)) (by decide) (by decide) (dX hs) rfl).imp λσ H Q ⟨en,k⟩=>⟨en,λv H1 k1 ⟨x,e1,q1⟩=>⟨x,C,r,by rw[e1],q1,kk,e,k _ H1 k1 rfl⟩⟩
theorem K0{K:aI}{M:ai->Prop}{H:Hp}:∀bs:List Bool,o9 K M H (bs.map .bl) (bs.map .bool)|[]=>.nil|b::r=>.cons (.bl b) (K0 r)
theorem K7:∀bs:List Bool,(bs.map PyData.bool).all SeqAt.shaped=true|[]=>rfl|_::r=>by rw[fD,pQ,K7 r];rfl
noncomputable def mG(e:aB):Bool:=PyData.eqv e (.bool true)
theorem Dt{o:aq}{ap:Pos}{bs:List Bool}(hu:X.A.in1.units+64<cLine)(ho:PE X o (tM C ρ (.pD bs)))(ha:PE X a (tM C ρ (.bl true)))(hs:fK a)(hb:attributeBase o "count" X.env (eval o X.env)=eval o X.env)(hl:(ap.endLine==pos.line)) :
 PE X (.Call (.Attribute o "count" ap) [a] [] pos) (tM C ρ (.int ((bs.map PyData.bool).countP mG:Nat))):=
 (mX (X:=X) PySem.F.plainAttrs_list PySem.F.slot_list_count PySem.F.type_list_count (Zg hu) ho (nY ha pZ (dX hs)) hb (by rw[dX hs];rfl) hl (dX hs) rfl).imp λσ H Q ⟨en,k⟩=>
   ⟨en,λv H1 k1 ⟨l,e1,q1⟩=>⟨by subst e1;exact .inl ⟨rfl,_,cJ.of q1⟩,en.mono k1,λu H2 k2 r2=>⟨l,_,u,_,.bool true,e1,rfl,cJ.of (k2 _ _ q1),K0 bs,by rw[show u=.bl true from r2];exact .bl true,K7 bs,rfl,k _ H2 (k1.trans k2) rfl⟩⟩⟩
theorem Du{o:aq}{ap:Pos}{bs:List Bool}{j:Nat}(hu:X.A.in1.units+64<cLine)(ho:PE X o (tM C ρ (.pD bs)))(ha:PE X a (tM C ρ (.bl true)))(hs:fK a)(hb:attributeBase o "index" X.env (eval o X.env)=eval o X.env)(hl:(ap.endLine==pos.line)=true)
 (hj:(bs.map PyData.bool).findIdx? mG=aC j) (hz:(j:Int)<2 ^ 63-1):PE X (.Call (.Attribute o "index" ap) [a] [] pos) (tM C ρ (.int (j:Nat))):=by
 obtain⟨hlt,h1,h2⟩:=List.findIdx?_eq_some_iff_getElem.mp hj;refine(mX (X:=X) PySem.F.plainAttrs_list PySem.F.slot_list_index PySem.F.type_list_index (zov hu) ho (nY ha pZ (dX hs)) hb (by rw[dX hs];rfl) hl (dX hs) rfl).imp λσ H Q ⟨en,k⟩=>
  ⟨en,λv H1 k1 ⟨l,e1,q1⟩=>⟨by subst e1;exact .inl ⟨rfl,_,cJ.of q1⟩,en.mono k1,λu H2 k2 r2=>⟨l,_,u,_,.bool true,j,_,e1,rfl,cJ.of (k2 _ _ q1),K0 bs,by rw[show u=.bl true from r2];exact .bl true,K7 bs,rfl,cM hlt,h1,λm e hm q=>?_,hz,k _ H2 (k1.trans k2) rfl⟩⟩⟩
 have:=h2 m hm;obtain⟨hq,rfl⟩:=gZ.mp q;simpa[mG]using this
theorem zvd{α β:Type}{f:α->β}{xs:List α}{i:Int}{v:α}(h:eW xs i=aC v):eW (xs.map f) i=aC (f v):=by
 unfold eW at h ⊢;rw[bG];cases e:ju xs.length i with
 |none=>rw[e]at h;cases h
 |some j=>
  rw[e]at h;show(xs.map f)[j]?=_;rw[dY,show xs[j]?=aC v from h];rfl
theorem Dv{xs:List Str}{i:Int}{z:Str}(ha:PE X a (tM C ρ (.sts xs)))(hb:PE X b (tM C ρ (.int i)))(hs:FZ b)(hi:eW xs i=aC z):PE X (.Subscript a b pos) (tM C ρ (.str z)):=
 (u6 QN ha hb hs).imp λσ H Q ⟨en,k⟩=>⟨en,λv H1 k1 ⟨l,e1,q1⟩=>⟨en.mono k1,λu H2 k2 r2=>⟨l,_,i,.str z,e1,r2,cJ.of (k2 _ _ q1),zvd hi,k _ H2 (k1.trans k2) rfl⟩⟩⟩
theorem TU{r:Bool}(ha:PT X a (pF C ρ r)):PT X (.UnaryOp .Not a pos) (pF C ρ (!r)):=λpins s σ H Q I ⟨en,k⟩=>Qj ha pins s σ H Q I ⟨en,λH1 k1=>k H1 k1⟩
theorem TV{r:Bool}(ha:PE X a (tM C ρ (.bl r)))(he:∀whole,isTrue a X.env whole=(do let v <-whole;standAt a.pos;holding [v] (truthy v))):PT X a (pF C ρ r):=λpins s σ H Q I ⟨en,k⟩=>
 VZ ha he pins s σ H Q I ⟨en,λv H1 k1 e=>⟨r,e,k H1 k1⟩⟩
theorem Dw{i j:Int}(ha:PE X a (tM C ρ (.int i)))(hb:PE X b (tM C ρ (.int j)))(hm:behindInMarks .NotEq b=false):PT X (.Compare a [.NotEq] [b] pos) (pF C ρ (!decide (V.int i=V.int j))):=λpins s σ H Q I ⟨en,k⟩=>
 Qu Bq ha hb hm pins s σ H Q I ⟨en,λv H1 k1 e1=>⟨en.mono k1,λu H2 k2 e2=>by
  have e1:v=.int i:=e1;have e2:u=.int j:=e2;subst e1 e2;exact⟨rfl,_,rfl,k H2 (k1.trans k2)⟩⟩⟩
theorem vE{rest:List aq}{r r':Bool}(ha:PT X a (pF C ρ r))(hb:PW X (.BoolOp .Or (b::rest) pos) (pF C ρ r')):PW X (.BoolOp .Or (a::b::rest) pos) (pF C ρ (r||r')):=λwh pins s σ H Q I ⟨en,k⟩=>
 pw_or ha hb wh pins s σ H Q I ⟨en,λH1 k1=>by
  cases r with|true=>rw[if_pos rfl];exact k H1 k1|false=>rw[if_neg lD];exact⟨en.mono k1,λH2 k2=>k H2 (k1.trans k2)⟩⟩
theorem zzj{r:Bool}(ha:PT X a (pF C ρ r)):PW X (.BoolOp .Or [a] pos) (pF C ρ r):=Qi ha
noncomputable def qS(C:ai)(ρ:List (Option MV))(m:MV):TS:=λD σ H=>jA C H σ ρ/\∀v H',Hx H H'->jz C H' v m->D.rt v H'
theorem _root_.L2.gU.imp'{st:List au}{t t':TS}(h:gU X st t)(k:∀D σ H,t' D σ H->t D σ H):gU X st t':=λpins s σ H D I q=>h pins s σ H D I (k D σ H q)
theorem zzk{m:MV}(he:PE X e (tM C ρ m)):gU X [.Return (aC e) pos] (qS C ρ m):=(Ql (FO he)).imp' λD σ H q=>q
theorem jA.set{H:Hp}{σ:L2.St}{i:Nat}{v:V}{m:MV}(en:jA C H σ ρ)(hl:i<σ.length)(hi:i<ρ.length)(r:jz C H v m):jA C H (σ.set i (aC v)) (ρ.set i (aC m)):=λj m' e=>by
 by_cases h:j=i;subst h;rw[rO hi]at e;cases e;exact⟨v,rO hl,r⟩;rw[wO (eT h)]at e ⊢;exact en j m' e
end
theorem K8{α β:Type}{o:Option α}{f:α->β}{b:β}(h:o.map f=aC b):∃a,o=aC a/\f a=b:=by
 cases o with|none=>cases h|some a=>cases h;exact⟨a,rfl,rfl⟩
theorem Dy{α β:Type}{o:Option α}{f:α->Option β}{b:β}(h:o.bind f=aC b):∃a,o=aC a/\f a=aC b:=by
 cases o with|none=>cases h|some a=>exact⟨a,rfl,h⟩
noncomputable def yE:aq->Option (Str×Nat×Pos)
 |.Constant c k p=>(match c with
  |.str t=>aC (t,k,p)
  |_=>aD)
 |_=>aD
theorem zve{e:aq}{q:Str×Nat×Pos}(h:yE e=aC q):e=.Constant (.str q.1) q.2.1 q.2.2:=by unfold yE at h;split at h;split at h;cases h;rfl;cases h;cases h
structure XH(X:Cx)(c:CC):Prop where
 hN:X.N=c.N
 nd:c.N.Nodup
 vis:∀x,mD (c.names.lookup x)=true->pW X.env.scope x
 loc:∀x,mE c.ni (c.names.lookup x)=true->Loc X.env.scope x/\(X.fn x=true\/X.env.scope.names.lookup x=aC .local)
 gl:∀x,c.names.lookup x=aC .globalImplicit->Gl X x
 sf:∀x v,PySem.W.nsIn X.K mainGlobals x=aC (aC v)->X.mg x=aC v
 Ab:∀x,PySem.W.nsIn X.K mainGlobals x=aC aD->X.mg x=aD
 un:X.A.units+70<cLine
noncomputable def tX(K:aI)(c:CC)(t:Str):Option (af×V):=if okN t&&c.names.lookup t==aC .globalImplicit then(match PySem.W.nsIn K mainGlobals t with|some (aC (.ref D))=>aC (.ref D,.ref D)|some aD=>if t==("ValueError" : Str)then aC (.type "ValueError",.ty "ValueError")else aD|_=>aD)else aD
noncomputable def k8(K:aI)(C:ai)(c:CC)(tab:List (Str×Bool)):Bool:=vB K c "isinstance" && tab.all λq=>match tX K c q.1 with|some v=>PySem.W.kitOne K (.ref C) v.1==aC q.2|none=>false
noncomputable def TX(C:ai)(bs:List Bool):List V->Hp->VK->Prop:=λvs H Q=>∃a,vs=[.ref a]/\tV C a H/\∀v H',Hx H H'->jz C H' v (.pD bs)->Q v H'
structure qV(X:Cx)(C:ai)(c:CC)(tab:List (Str×Bool))(kb:List Bool)(k:Nat):Prop where
 hx:XH X c
 ex:XL.jV X.K C
 tab:k8 X.K C c tab=true
 kinds:k=0\/∃f fd ps,X.mg "_law_kinds" = aC (.ref f)/\fP X.prog X.w X.K X.mg X.base k f fd ps (TX C kb)/\PySem.W.keepIn X.K (.ref f)=true/\Binds X.K fd ps []/\dJ k X.A
section
variable{X:Cx}{C:ai}{kb:List Bool}{c:CC}{k:Nat}{tab:List (Str×Bool)}{ρ:List (Option MV)}{p pos:Pos}{a:aq}
noncomputable def tY(c:CC)(x:Str)(i:Nat):Bool:=okN x&&mD (c.names.lookup x)&& (nj c.N x 0==aC i)
theorem nA(O:qV X C c tab kb k){x:Str}(i:Nat){m:MV}(h:tY c x i)(hi:ρ[i]?=aC (aC m)):PE X (.Name x pos) (tM C ρ m):=by unfold tY at h;rw[bw,bw]at h;obtain⟨n1,n2,n3⟩:=oN h.1.1;exact Dq (by rw[O.hx.hN];exact yq (by simpa using h.2)) (O.hx.vis x h.1.2) n1 n2 hi
theorem zvf(O:XH X c){t:Str}{v:af×V}(h:tX X.K c t=aC v):qj v.2=aC v.1/\PE X (.Name t p) (tC v.2):=by
 unfold tX at h;split at h;rename_i hc;rw[bw]at hc;obtain⟨n1,n2,n3⟩:=oN hc.1;have hg:Gl X t:=O.gl t (by simpa using hc.2);split at h;rename_i D hD;cases h;exact⟨rfl,Qg hg (O.sf t _ hD) rfl n1⟩;rename_i hD;split at h;rename_i ht;cases h;have ht:t = "ValueError":=by simpa using ht
 subst ht;exact⟨rfl,Qh hg (O.Ab _ hD) (u:=.type "ValueError") (by first|rfl|decide +kernel) rfl n3 n1⟩;cases h;cases h;cases h
theorem qW(O:qV X C c tab kb k){t:Str}{p2:Pos}{b:Bool}(ha:PE X a (tM C ρ .exc))(hs:fK a){i:Nat}(hm:tab[i]?=aC (t,b)):PE X (.Call (.Name "isinstance" p) [a,.Name t p2] [] pos) (tM C ρ (.bl b)):=by
 have h:=O.tab;unfold k8 at h;rw[bw]at h;have h2:=iU.mp h.2 _ (mP hm);have hab:=h.1;unfold vB at hab;rw[bw]at hab;cases hv:tX X.K c t with
 |none=>simp only[hv]at h2;cases h2
 |some v=>
  simp only[hv]at h2;obtain⟨c1,c2⟩:=zvf (p:=p2) O.hx hv;refine Ds c1 c2 ha hs (O.hx.gl _ (by simpa using hab.1)) (O.hx.Ab _ ?_) O.ex (by simpa using h2);have h3:=hab.2;split at h3;assumption;cases h3
theorem vF(O:qV X C c tab kb (k+1))(ha:PE X a (tM C ρ .exc))(hs:fK a)(hl:c.names.lookup ("_law_kinds" : Str)=aC .globalImplicit):PE X (.Call (.Name "_law_kinds" p) [a] [] pos) (tM C ρ (.pD kb)):=by rcases O.kinds with h|⟨fa,fd,ps,g1,g2,g3,g4,g5⟩;cases h;exact(Td g2 g5 (O.hx.gl _ hl) g1 g3 g4 (nY ha pZ (dX hs)) (by decide +kernel) (dX hs) rfl).imp λσ H Q ⟨en,k⟩=>⟨en,λv H1 k1 ⟨x,e1,q1⟩=>⟨x,by rw[e1],q1,λw H2 k2 r2=>k w H2 (k1.trans k2) r2⟩⟩
theorem qX{n:Nat}(h:Nat.ble n 1000):n<=sizeLine:=sR (Jb (lR h))
theorem qV.TY(O:qV X C c tab kb k):X.A.in1.units+64<cLine:=by have:=O.hx.un;show X.A.units+1+64<_;lia
theorem Dz{b:Bool}{q:Nat}:PE X (.Constant (.bool b) q pos) (tM C ρ (.bl b)):=uV.imp λσ H Q ⟨_,k⟩=>k _ H .refl rfl
theorem DA{b:Int}{q:Nat}:PE X (.Constant (.int b) q pos) (tM C ρ (.int b)):=Qe.imp λσ H Q ⟨_,k⟩=>k _ H .refl rfl
theorem DB{b:Str}{q:Nat}:PE X (.Constant (.str b) q pos) (tM C ρ (.str b)):=Qf.imp λσ H Q ⟨_,k⟩=>k _ H .refl rfl
@[irreducible] def EQ (X:Cx) (e:aq) (t:TE):Prop:=PE X e t
theorem EQ.out{e:aq}{t:TE}(h:EQ X e t):PE X e t:=by unfold EQ at h;exact h
theorem EQ.mk{e:aq}{t:TE}(h:PE X e t):EQ X e t:=by unfold EQ;exact h
noncomputable def K9:List aq->Option (List Str)|[]=>aC []|e::es=>(yE e).bind λz=>(K9 es).map (z.1 :: ·)
theorem TZ:∀{es:List aq} {xs:List Str},K9 es=aC xs->PA X es (Ae C ρ (xs.map .str))
 |[],_,h=>by cases h;exact Af
 |e::es,xs,h=>by
  obtain⟨z,h1,h2⟩:=Dy h;obtain⟨ys,h3,rfl⟩:=K8 h2;rw[zve h1];exact k6 DB (TZ h3) rfl
theorem vG{es:List aq}{xs:List Str}(h:K9 es=aC xs)(hz:Nat.ble xs.length 1000):EQ X (.List es pos) (tM C ρ (.sts xs)):=.mk (Dr (TZ h) (qX hz))
theorem zzl{b:aq}{x y:List Str}(ha:PE X a (tM C ρ (.sts x)))(hb:EQ X b (tM C ρ (.sts y)))(hz:Nat.ble (x.length+y.length) 1000):EQ X (.BinOp a .Add b pos) (tM C ρ (.sts (x++y))):=.mk (zzi ha hb.out (qX hz))
theorem DC{b:aq}{xs:List Str}{i:Int}{z:Str}(ha:EQ X a (tM C ρ (.sts xs)))(hb:PE X b (tM C ρ (.int i)))(hs:zZ b)(hi:eW xs i=aC z):EQ X (.Subscript a b pos) (tM C ρ (.str z)):=.mk (Dv ha.out hb (Tv hs) hi)
@[irreducible] def SQ (X:Cx) (st:List au) (t:TS):Prop:=gU X st t
theorem SQ.out{st:List au}{t:TS}(h:SQ X st t):gU X st t:=by unfold SQ at h;exact h
theorem SQ.mk{st:List au}{t:TS}(h:gU X st t):SQ X st t:=by unfold SQ;exact h
theorem vH{e:aq}{m:MV}(he:EQ X e (tM C ρ m)):SQ X [.Return (aC e) pos] (qS C ρ m):=.mk (zzk he.out)
theorem k9(O:qV X C c tab kb k){x:Str}{e:aq}{rest:List au}{m m':MV}(i:Nat)(h:(tY c x i&&mE c.ni (c.names.lookup x)))(he:EQ X e (tM C ρ m))(hr:Nat.blt i ρ.length)(hs:CS e)(h2:SQ X rest (qS C (ρ.set i (aC m)) m')) :
 SQ X (.Assign [.Name x p] e pos::rest) (qS C ρ m'):=by
 unfold tY at h;rw[bw,bw]at h;obtain⟨l1,l2⟩:=O.hx.loc _ h.2;have hi:X.N[i]?=aC x:=by rw[O.hx.hN];exact yq (by simpa using h.1.2)
 refine .mk λpins s σ H D I cj=>?_;obtain⟨en,k⟩:=cj;exact Iu (Qq (by rw[O.hx.hN];exact O.hx.nd) hi l1 he.out (Kg hs) l2) h2.out pins s σ H D I ⟨en,λv H1 k1 r1=>⟨(en.mono k1).set (by rw[I.len];exact(gZ.mp hi).1) (gA.mp hr) r1,λw H2 k2 r2=>k w H2 (k1.trans k2) r2⟩⟩
theorem zzm{l:List au}:gU X l (λ_ _ _=>False):=λ_ _ _ _ _ _ h=>h.elim
theorem La{e:aq}{m:MV}{b rest:List au}(hc:PT X e (pF C ρ false))(h:SQ X rest (qS C ρ m)):SQ X (.If e b [] pos::rest) (qS C ρ m):=
 .mk<|(Iu (uX hc (zzm (l:=b)) Qk) h.out).imp' λD σ H ⟨en,k⟩=>⟨en,λH1 k1=>L2.Jc ⟨en.mono k1,λv H2 k2 r=>k v H2 (k1.trans k2) r⟩⟩
end
noncomputable def spM(C:ai)(m:MV):List V->Hp->VK->Prop:=λvs H Q=>∃a,vs=[.ref a]/\tV C a H/\∀v H',Hx H H'->jz C H' v m->Q v H'
noncomputable def Ag(K:aI)(x:Str):Option (CC×List au):=match fnAt K x with
 |some (f,o,fd)=>(match vA fd.params,GV fd.body with
  |some args,aC body=>if(fd.name==jh x&&fd.qualname==x&&Nat.beq fd.globals mainGlobals&&fd.closure.isEmpty&& (isNone fd.defaults||fQ K fd.defaults && !args.isEmpty)&&Nat.beq fd.builtins builtinsNs&&PySem.W.codeIn K fd.code x&&PySem.W.keepIn K (.ref f) &&
   Dn (pC (args.map (·.arg)) fd.scope) (args.map (·.arg)) fd.scope)&&Nat.beq args.length 1 then
   aC (⟨pC (args.map (·.arg)) fd.scope,fd.scope.names,true⟩,body)
   else aD
  |_,_=>aD)
 |none=>aD
theorem DE{P:aj}{w:ak}{K:aI}{mg:Str->Option af}{base:aA}{k:Nat}(KX:K.In base)(G:base.Ns mainGlobals mg){x:Str}{sc:az}{f:ai}{N ps:List Str}(S:cy N ps sc)
 (cdv:af) (A:ao) (outer:List Env) (s:ah) (H:Hp) (hr:dJ k (A.deeper (envOfC x sc s.heap.objs.size f cdv))):XH (Dc P w K mg base N x sc f cdv A outer s H) ⟨N,sc.names,true⟩:=by
 refine⟨rfl,S.nd,λy hy=>?_,λy hy=>?_,λy hy=>hy,λy v hv=>AO KX G hv,λy hv=>PySem.W.mg_none_of KX G hv,?_⟩;have hy:mD (sc.names.lookup y)=true:=hy;cases z:sc.names.lookup y with
 |none=>rw[z]at hy;cases hy
 |some kd=>cases kd<;>first|exact .inl z|exact .inr (.inl z)|exact .inr (.inr z)|(rw[z]at hy;cases hy)
 have hy:mE true (sc.names.lookup y)=true:=hy;cases z:sc.names.lookup y with
 |none=>rw[z]at hy;cases hy
 |some kd=>cases kd<;>first|exact⟨.inl z,.inl rfl⟩|exact⟨.inr z,.inl rfl⟩|(rw[z]at hy;cases hy)
 have:=hr.un;show(A.deeper (envOfC x sc s.heap.objs.size f cdv)).units+70<cLine;lia
theorem T3{P:aj}{w:ak}{K:aI}{mg:Str->Option af}{base:aA}{C:ai}{kb:List Bool}{k:Nat}{x:Str}{m:MV}{c:CC}{body:List au}{tab:List (Str×Bool)}(KX:K.In base)(G:base.Ns mainGlobals mg)(h:Ag K x=aC (c,body))(ex:XL.jV K C)(ht:k8 K C c tab=true)
 (hk:k=0\/∃f fd ps,mg "_law_kinds" = aC (.ref f)/\fP P w K mg base k f fd ps (TX C kb)/\PySem.W.keepIn K (.ref f)=true/\Binds K fd ps []) (hb:∀X:Cx,qV X C c tab kb k->SQ X body (qS C [aC .exc,aD] m)) :
 ∃f fd ps,fj K x=aC f/\fP P w K mg base (k+1) f fd ps (spM C m)/\PySem.W.keepIn K (.ref f)=true/\Binds K fd ps []:=by
 unfold Ag at h;split at h;rename_i f o fd hf;split at h;rename_i args body ha hbd;split at h;rename_i hc;cases h;rw[bw]at hc;obtain⟨hc,h1⟩:=hc;rw[bw,bw,bw,bw,bw,bw,bw,bw]at hc;obtain⟨⟨⟨⟨⟨⟨⟨⟨c1,c2⟩,c3⟩,c4⟩,c5⟩,c6⟩,c7⟩,c8⟩,c9⟩:=hc;obtain⟨S,nd⟩:=TH c9;obtain⟨hn,oc,od,sl,lk⟩:=TN hf;obtain⟨dx,ef⟩:=TJ c1 c2 c3 c4 c6 ha hbd;have hl:(args.map (·.arg)).length=1:=by rw[bG];exact wY h1
 have T4:=lk;rw[ef]at T4;refine⟨f,fd,args.map (·.arg),hn,?_,c8,(TL ef nd rfl c5).1⟩;rw[ef];refine fnH (K:=K) (N:=pC (args.map (·.arg)) fd.scope) T4 c7 S (λvs H Q ⟨a,e,_⟩=>by rw[e,hl];rfl) λA outer s H vs Q hr cj=>?_;obtain⟨a,e,q1,q2⟩:=cj;refine⟨_,(hb (Dc P w K mg base (pC (args.map (·.arg)) fd.scope) x fd.scope f fd.code A outer s H) ⟨DE KX G S fd.code A outer s H hr,ex,ht,hk.imp id λ⟨g,gd,qs,a1,a2,a3,a4⟩=>⟨g,gd,qs,a1,a2,a3,a4,hr⟩⟩).out,?_,q2⟩;subst e;intro i mv hi;cases i with
 |zero=>
  cases hi;exact⟨.ref a,by unfold L2.start;rfl,a,rfl,q1⟩
 |succ i=>
  cases i with|zero=>cases hi|succ i=>cases hi
 cases h;cases h;cases h
theorem lH{α:Type}{xs:List α}{j:Nat}{z:α}(h:xs[j]?=aC z):eW xs (j:Int)=aC z:=by unfold eW ju;rw[if_pos (FA j),vcs,if_pos (Int.ofNat_lt.mpr (gZ.mp h).1)];exact h
noncomputable def yF(K:aI)(D:ai):Bool:=XL.fX K D&& (match PySem.W.findIn K (.ref D) "__init__"with|some (aC (.builtin b))=>b == "ValueError.__init__"|_=>false)&&PySem.W.keepIn K (.ref D)
theorem zvg{K:aI}{D:ai}(h:yF K D):Jq K D:=by unfold yF at h;rw[bw,bw]at h;obtain⟨⟨h1,h2⟩,h3⟩:=h;refine⟨h1,?_,h3⟩;split at h2;rename_i b e;rw[e,show b = "ValueError.__init__" by simpa using h2];cases h2
noncomputable def excAt(K:aI)(C:CC)(x:Str):Option ai:=if okN x&&C.names.lookup x==aC .globalImplicit then(match PySem.W.nsIn K mainGlobals x with|some (aC (.ref D))=>if yF K D then aC D else aD|_=>aD)else aD
noncomputable def cX(K:aI)(T:List Str)(R:RX)(d:Nat):Nat->CC->au->Option S
 |0,_,_=>aD
 |n+1,C,s=>match s with
  |.Raise r c _=>(match r,c with
   |some e,aD=>kX e λx as=>if as.isEmpty then(excAt K C x).map λD=>.ret (.cst (.int (D:Nat)))else aD
   |_,_=>aD)
  |.Return r _=>(match r with
   |some e=>(cE K T d C e).map λa=>.ret (.tup (.cons a .nil))
   |none=>aD)
  |.If c a b _=>(match cT K T d C c,nq (cX K T R d n C) a,nq (cX K T R d n C) b with
   |some z,aC x,aC y=>aC (.ite z x y)
   |_,_,_=>aD)
  |s=>(match cS K T R d (n+1) C s with
   |some c=>if fk c then aC c else aD
   |none=>aD)
theorem zrl{cl:Call}{a:E}:exs cl (.ret (.tup (.cons a .nil)))=λρ h=>(ev cl a ρ h).bind λw h=>.ok (.rt (.tup [w])) h:=by funext ρ h;simp only[exs,ev];cases ev cl a ρ h<;>rfl
section
variable{X:Cx}{E:XK}{C:CC}{T:List Str}{R:RX}{F:Nat->Option Fn}{k d:Nat}
theorem GW{f:au->Option S}{cl:Call}(ih:∀st c,f st=aC c->SX X E st (exs cl c)):∀{sts:List au} {c:S},nq f sts=aC c->Te X E sts (exs cl c)
 |[],_,h=>by cases h;exact Sy
 |s::r,c,h=>by
  unfold nq at h;split at h;rename_i a b ha hb;cases h;exact Sz (ih s a ha) (GW ih hb);cases h
theorem vI(O:gV X.jb C T R F k)(tp:tW X.jb C)(fl:Tf X E):∀(n:Nat) (st:au) (c:S),cX X.K T R d n C st=aC c->SX X E st (exs (run F k) c)
 |0,_,_,h=>by cases h
 |n+1,st,c,h=>by
  have Sd:=pB (T:=T) (F:=F) (k:=k) d O;have ih:=vI O tp fl n;unfold cX at h;split at h
  .split at h
   .obtain⟨x,p,as,cp,rfl,h0⟩:=KO h
    split at h0
    case isFalse=>cases h0
    rename_i ha;rw[Fo]at ha;subst ha;obtain⟨D,h1,rfl⟩:=map_some h0;unfold excAt at h1;split at h1
    case isFalse=>cases h1
    rename_i hc;rw[bw,lC]at hc;split at h1;rename_i D' hD;split at h1;rename_i hm;cases h1;exact zre fl (zvg hm) O.calm (O.gl x hc.2) (O.sf x _ hD) (oN hc.1).1;cases h1;cases h1
   cases h
  split at h;obtain⟨a,h1,rfl⟩:=map_some h;rw[zrl];exact zzb (Sd.e _ _ h1).1;cases h;split at h;rename_i h1 h2 h3;cases h;exact SG (PT.jb (Sd.t _ _ h1)) (GW ih h2) (GW ih h3);cases h;split at h;rename_i c' hc;split at h;rename_i hn;cases h;exact zrd (nu O tp (n+1) _ _ hc) hn;cases h;cases h
end
noncomputable abbrev gS(K:aI)(T:List Str)(R:RX)(d n:Nat):CC->List au->Option S:=λC b=>nq (cS K T R d n C) b
noncomputable abbrev gX(K:aI)(T:List Str)(R:RX)(d n:Nat):CC->List au->Option S:=λC b=>(nq (cX K T R d n C) b).map λb=>.seq b (.ret (.cst (.tup [.aL])))
noncomputable def GX(K:aI)(T:List Str)(R:RX)(d n:Nat)(x:Str):Option Fn:=if x==("" : Str)then aC ⟨0,0,.no⟩else Ad K (gS K T R d n) x
theorem Lb{K:aI}{T:List Str}{R:RX}{d n:Nat}{x:Str}{fn:Fn}(h:GX K T R d n x=aC fn)(hx:x≠""):Ad K (gS K T R d n) x=aC fn:=by unfold GX at h;rw[if_neg (by simpa using hx)]at h;exact h
noncomputable def iG(K:aI)(T:List Str)(R:RX)(d n:Nat):Option (List Fn):=match bH (GX K T R d n) T,bH (Ad K (gX K T R d n)) R.Dg with|some a,aC b=>if Nat.beq R.at_ T.length then aC (a++b)else aD|_,_=>aD
theorem T5{α β:Type}{f:α->Option β}:∀{l:List α} {r:List β},bH f l=aC r->r.length=l.length
 |[],_,h=>by cases h;rfl
 |x::l,r,h=>by
  unfold bH at h;split at h;split at h;rename_i bs yr;cases h;rw[dj,dj,T5 yr];cases h;cases h
section
variable{K:aI}{T:List Str}{R:RX}{d n:Nat}{Fs:List Fn}
theorem DF(hP:iG K T R d n=aC Fs):(∀(i:Nat) (x:Str),T[i]?=aC x->∃fn,Fs[i]?=aC fn/\GX K T R d n x=aC fn)/\∀(j:Nat) (x:Str),R.Dg[j]?=aC x->∃fn,Fs[R.at_+j]?=aC fn/\Ad K (gX K T R d n) x=aC fn:=by unfold iG at hP;split at hP;rename_i a b ha hb;split at hP;rename_i hz;cases hP;have hl:=T5 ha;have hz:R.at_=T.length:=wY hz;refine⟨λi x e=>?_,λj x e=>?_⟩;obtain⟨fn,h1,h2⟩:=KZ ha i x e;exact⟨fn,by rw[uM (gZ.mp h1).1];exact h1,h2⟩;obtain⟨fn,h1,h2⟩:=KZ hb j x e;exact⟨fn,by rw[oX (by lia),hz,hl,Nat.add_sub_cancel_left];exact h1,h2⟩;cases hP;cases hP
end
theorem DG{K:aI}{T:List Str}{R:RX}{d n:Nat}{C:CC}{b:List au}{s:S}(h:gX K T R d n C b=aC s):∃c,nq (cX K T R d n C) b=aC c/\s=.seq c (.ret (.cst (.tup [.aL]))):=by obtain⟨c,h1,h2⟩:=map_some h;exact⟨c,h1,h2⟩
noncomputable def Wd(P:aj)(w:ak)(K:aI)(mg:Str->Option af)(base:aA)(C:Nat)(z:Str):Prop:=∃f fd ps,mg "_law_word" = aC (.ref f)/\fP P w K mg base 2 f fd ps (De C z)/\PySem.W.keepIn K (.ref f)=true/\Binds K fd ps []
theorem _root_.L2.fP.imp{P:aj}{w:ak}{K:aI}{mg:Str->Option af}{base:aA}{k:Nat}{f:ai}{fd:av}{ps:List Str}{sp T6:List V->Hp->VK->Prop}(F:fP P w K mg base k f fd ps sp)(h:∀vs H Q,T6 vs H Q->sp vs H Q):fP P w K mg base k f fd ps T6:=
 ⟨λvs H Q q=>F.len _ _ _ (h _ _ _ q),λA o s H args us vs Q hr e hb r q=>F.run A o s H args us vs Q hr e hb r (h _ _ _ q)⟩
theorem DH{P:aj}{w:ak}{K:aI}{mg:Str->Option af}{base:aA}{C:Nat}{z:Str}{c1 c2:CC}{b1 b2:List au}{t1 t2:List (Str×Bool)}{kb:List Bool}(h1:Ag K "_law_kinds" = aC (c1,b1))(h2:Ag K "_law_word" = aC (c2,b2))(KX:K.In base)(G:base.Ns mainGlobals mg)(ex:XL.jV K C)
 (ht1:k8 K C c1 t1) (CU:k8 K C c2 t2) (k1:∀X:Cx,qV X C c1 t1 [] 0->SQ X b1 (qS C [aC .exc,aD] (.pD kb))) (k2:∀X:Cx,qV X C c2 t2 kb 1->SQ X b2 (qS C [aC .exc,aD] (.str z))):Wd P w K mg base C z:=by
 obtain⟨f1,fd1,ps1,a1,a2,a3,a4⟩:=T3 (P:=P) (w:=w) (k:=0) KX G h1 ex ht1 (.inl rfl) k1;obtain⟨f2,fd2,ps2,b1,b2,b3,b4⟩:=T3 (P:=P) (w:=w) (k:=1) KX G h2 ex CU (.inr ⟨f1,fd1,ps1,AO KX G (C4 a1),a2,a3,a4⟩) k2;exact⟨f2,fd2,ps2,AO KX G (C4 b1),b2.imp λvs H Q ⟨a,q1,q2,q3⟩=>⟨a,q1,q2,λv H' k r=>by rw[show v=.str z from r];exact q3 H' k⟩,b3,b4⟩
noncomputable abbrev AF(P:aj)(w:ak)(K:aI)(mg:Str->Option af)(base:aA)(T:List Str)(Fs:List Fn)(k:Nat):Prop:=∀(i:Nat) (x:Str),T[i]?=aC x->x≠""->∃f fd ps fn,fj K x=aC f/\dZ P w K mg base lF k f fd ps (sd K ps.length (run (λi=>Fs[i]?) k i))/\PySem.W.keepIn K (.ref f)=true/\Binds K fd ps []/\Fs[i]?=aC fn/\fn.ps=ps.length/\(iO K x=true->Binds K fd ps [.none])
noncomputable abbrev AR(P:aj)(w:ak)(K:aI)(mg:Str->Option af)(base:aA)(R:RX)(Fs:List Fn)(k:Nat):Prop:=∀(j:Nat) (x:Str),R.Dg[j]?=aC x->∃f fd ps fn,fj K x=aC f/\dZ P w K mg base (se P w) k f fd ps (Df K ps.length (run (λi=>Fs[i]?) k (R.at_+j)))/\PySem.W.keepIn K (.ref f)=true/\Binds K fd ps []/\Fs[R.at_+j]?=aC fn/\fn.ps=ps.length
section
variable{P:aj}{w:ak}{K:aI}{mg:Str->Option af}{base:aA}{T:List Str}{R:RX}{Fs:List Fn}{k d n:Nat}
theorem Lc(KX:K.In base)(G:base.Ns mainGlobals mg){x:Str}{st:au}{f:ai}{N ps:List Str}(S:cy N ps (iM st))(H0:AF P w K mg base T Fs k)(HR:AR P w K mg base R Fs k)(HW:∀C z,(C,z)∈R.tb->Wd P w K mg base C z)
 (cdv:af) (A:ao) (outer:List Env) (s:ah) (H:Hp) (E:XK) (hr:cu k (A.deeper (envOfC x (iM st) s.heap.objs.size f cdv))):gV (ic lF P w K mg base N x (iM st) f cdv A outer s H E).jb ⟨N,(iM st).names,true⟩ T R (λi=>Fs[i]?) k:=by
 refine⟨rfl,S.nd,λy hy=>?_,λy hy=>?_,λy hy=>hy,λy hy=>hy,rfl,hr,rfl,S.kind,λy v hv=>AO KX G hv,λy hv=>PySem.W.mg_none_of KX G hv,H0,HR,HW⟩;have hy:mD ((iM st).names.lookup y)=true:=hy;cases z:(iM st).names.lookup y with
 |none=>rw[z]at hy;cases hy
 |some kd=>cases kd<;>first|exact .inl z|exact .inr (.inl z)|exact .inr (.inr z)|(rw[z]at hy;cases hy)
 have hy:mE true ((iM st).names.lookup y)=true:=hy;cases z:(iM st).names.lookup y with
 |none=>rw[z]at hy;cases hy
 |some kd=>cases kd<;>first|exact⟨.inl z,.inl rfl⟩|exact⟨.inr z,.inl rfl⟩|(rw[z]at hy;cases hy)
theorem Ld{CX:nZ}{x:Str}{st:au}{f:ai}{N:List Str}(cdv:af)(A:ao)(outer:List Env)(s:ah)(H:Hp)(E:XK):tW (ic CX P w K mg base N x (iM st) f cdv A outer s H E).jb ⟨N,(iM st).names,true⟩:=
 ⟨rfl,rfl,λ_=>rfl,λy hy=>⟨hy,.inl hy,.inl hy⟩⟩
theorem T7(hP:iG K T R d n=aC Fs)(KX:K.In base)(G:base.Ns mainGlobals mg)(HW:∀C z,(C,z)∈R.tb->Wd P w K mg base C z)(k:Nat):∀(j:Nat),j<=k->AF P w K mg base T Fs j/\AR P w K mg base R Fs j:=by
 induction k with
 |zero=>
  intro j hj;have:j=0:=Nat.le_zero.mp hj;subst this;refine⟨λi x e hx=>?_,λi x e=>?_⟩;obtain⟨fn,h1,h2⟩:=(DF hP).1 i x e;obtain⟨f,fd,st,ps,N,a1,a2,a3,a4,a5,a6,a7,_⟩:=kZ (Lb h2 hx);exact⟨f,fd,ps,fn,a1,S0,a2.kp,a6.1,h1,a5,a6.2.1⟩;obtain⟨fn,h1,h2⟩:=(DF hP).2 i x e;obtain⟨f,fd,st,ps,N,a1,a2,a3,a4,a5,a6,a7,_⟩:=kZ h2;exact⟨f,fd,ps,fn,a1,zrf,a2.kp,a6.1,h1,a5⟩
 |succ k ih=>
  intro j hj;by_cases hjk:j<=k;exact ih j hjk;have:j=k+1:=by lia
  subst this;refine⟨λi x e hx=>?_,λi x e=>?_⟩;obtain⟨fn,h1,h2⟩:=(DF hP).1 i x e;obtain⟨f,fd,st,ps,N,a1,a2,a3,a4,a5,a6,a7,_⟩:=kZ (Lb h2 hx);exact⟨f,fd,ps,fn,a1,SY (F:=λi=>Fs[i]?) h1 a2 a3 a4 a5 λcdv A outer s H E hr=>yD (nu (Lc KX G a3 (ih k (aZ _)).1 (ih k (aZ _)).2 HW cdv A outer s H E hr) (Ld cdv A outer s H E) n) a7,a2.kp,a6.1,h1,a5,a6.2.1⟩;obtain⟨fn,h1,h2⟩:=(DF hP).2 i x e;obtain⟨f,fd,st,ps,N,a1,a2,a3,a4,a5,a6,a7,_⟩:=kZ h2;obtain⟨c,b1,b2⟩:=DG a7;exact⟨f,fd,ps,fn,a1,zu4 (F:=λi=>Fs[i]?) h1 a2 a3 a4 a5 b2 λcdv A outer s H E hr=>GW (vI (X:=ic (se P w) P w K mg base N x (iM st) f cdv A outer s H E) (Lc KX G a3 (ih k (aZ _)).1 (ih k (aZ _)).2 HW cdv A outer s H E hr) (Ld cdv A outer s H E) ⟨λe s' z=>zu0 rfl rfl rfl z,PassesOwn.leaving⟩ n) b1,a2.kp,a6.1,h1,a5⟩
end
noncomputable def DJ:Res W->Bool|.ok (.bl true) _=>true|_=>false
noncomputable def says(K:aI)(T:List Str)(R:RX)(d n k i:Nat)(ns:List Int):Bool:=match iG K T R d n with|some Fs=>DJ (run (λi=>Fs[i]?) k i [.fz (ns.map .int)] ⟨0,0,[]⟩)|none=>false
theorem zjj{r:Res W}(h:DJ r):∃h',r=.ok (.bl true) h':=by
 cases r with
 |no=>cases h
 |ex _ _=>cases h
 |ok w h'=>cases w<;>first|(rename_i b;cases b<;>first|exact⟨h',rfl⟩|cases h)|cases h
theorem T8{K:aI}{m:Nat->ai}{n:Nat}{H:Hp}:∀(ns:List Int),aG K m n H (ns.map V.int) (ns.map W.int)|[]=>.nil|i::r=>.cons (.int i) (T8 r)
theorem T9{K:aI}{T:List Str}{R:RX}{d n k i:Nat}{ns:List Int}(h:says K T R d n k i ns):∃Fs h',iG K T R d n=aC Fs/\run (λi=>Fs[i]?) k i [.fz (ns.map .int)] ⟨0,0,[]⟩=.ok (.bl true) h':=by unfold says at h;split at h;rename_i Fs hF;obtain⟨h',e⟩:=zjj h;exact⟨Fs,h',hF,e⟩;cases h
theorem zvh{K:aI}{T:List Str}{R:RX}{d n k i:Nat}{ns:List Int}{Fs:List Fn}(hP:iG K T R d n=aC Fs)(h:DJ (run (λi=>Fs[i]?) k i [.fz (ns.map .int)] ⟨0,0,[]⟩)):says K T R d n k i ns=true:=by unfold says;rw[hP];exact h
noncomputable def qY(K:aI)(x:Str):Bool:=match fnAt K x with
 |some (_,_,fd)=>(match vA fd.params with
  |some [a]=>a.arg==("_law_script" : Str) && !(fQ K fd.defaults)
  |_=>false)
 |none=>false
theorem zrm{l:PySem.W.OpenLaw}{q:aj}{loose:List Str}{XP:(Str->Option af)->aA->Prop}{YP:ak->aA->Prop}{dr:DefRec}{K:Params->aI}(T:List Str)(R:RX)(d n k i:Nat)(hn:l.most=aC 63)(hdf:dr.params.defaults=[])(hr:cu k callerA)
 (hY:∀(w:ak)(h:aA),YP w h->(K w.params).In h) (hT:T[i]?=aC dr.name) (hne:dr.name≠"") (hS:∀(w:ak)(ns:List Int),ns.length<=63->says (K w.params) T R d n k i ns) (hL:∀w:ak,qY (K w.params) dr.name) (hW:∀(w:ak)(mg:Str->Option af)(base:aA),(K w.params).In base->base.Ns mainGlobals mg->∀C z,(C,z)∈R.tb->Wd l.prog w (K w.params) mg base C z) :
 PySem.W.WalkO q loose XP YP l.row.toRowW dr [] (λf vs=>PySem.call f vs):=by
 have any:∀w:ak,∃Fs,iG (K w.params) T R d n=aC Fs:=λw=>let⟨Fs,_,h,_⟩:=T9 (hS w [] (lS _));⟨Fs,h⟩;refine L2.Xz (n:=63) (k:=k) (x:="_law_script") (CX:=λ_=>lF) (sp:=λw=>sd (K w.params) 1 (run (λj=>(Classical.choose (any w))[j]?) k i)) hn (by decide) hdf hr hY ?_ ?_ λ_ _ _ _ _ z=>z;intro w mg fa h KX G hmg;have hP:=Classical.choose_spec (any w);obtain⟨fn',h1,h2⟩:=(DF hP).1 i _ hT;obtain⟨f',fd',st,ps',N,a1,a2,a3,a4,a5,a6,a7,o',fd'',args,a8,a9,Le⟩:=kZ (Lb h2 hne);have hps:ps'=[("_law_script" : Str)]:=by
  have hl:=hL w;unfold qY at hl;rw[a8]at hl;simp only[a9]at hl;cases args with
  |nil=>cases hl
  |cons z zs=>
   cases zs with
   |nil=>
    rw[bw]at hl;have hl:z.arg = "_law_script":=by simpa using hl.1
    rw[Le,fD,hl];rfl
   |cons _ _=>cases hl
 have hnd:iO (K w.params) dr.name=false:=by have hl:=hL w;unfold qY at hl;rw[a8]at hl;unfold iO;rw[a8];simp only[a9]at hl;split at hl;rw[bw]at hl;simpa using hl.2;cases hl
 have e:=AO KX G (C4 a1);rw[hmg]at e;cases e;subst hps;refine⟨fd',λs u=>.of_eq (a6.2.2 hnd [u] rfl),λbase KB GB=>?_⟩;have HW:∀C z,(C,z)∈R.tb->Wd l.prog w (K w.params) mg base C z:=hW w mg base KB GB;cases k with|zero=>exact S0|succ k=>exact SY (F:=λj=>(Classical.choose (any w))[j]?) h1 a2 a3 a4 a5 λcdv A outer s H E hr=>yD (nu (Lc KB GB a3 (T7 hP KB GB HW k k (aZ _)).1 (T7 hP KB GB HW k k (aZ _)).2 HW cdv A outer s H E hr) (Ld cdv A outer s H E) n) a7
 intro w H a ns hl hO hQ;obtain⟨Fs,h',e1,e2⟩:=T9 (hS w ns hl);have hP:=Classical.choose_spec (any w);rw[hP]at e1;cases e1;refine⟨rfl,⟨0,0,[]⟩,λ_=>0,_,_,h',⟨λi hi=>absurd hi (AL _),λi j hi=>absurd hi (AL _),rfl⟩,.cons (.fz ?_ (T8 ns)) .nil,e2,λv H' m' _ _ q=>by cases q;rfl⟩;rcases hQ with(q|⟨o,q⟩)|q
 rcases hO a with z|⟨o,xs,z⟩;rw[z]at q;cases q;rw[z]at q;cases q;exact .inl ⟨o,q⟩;exact .inr q
section
open E renaming var->v,cons->c,cst->k,nil->n,call->f,idx->x,cmp->p,bi->b,op->o,not->z,and->a,or->r,ou->t,rW->i,slc->l,lst->m,lc->u,neg->y,mt->w
open S renaming seq->q,skip->s,ret->e,set->d,xU->g,expr->h,put->j
noncomputable def DK:Fn:=⟨1,1,(q (e (a (i .int (v 0)) (z (i .bool (v 0))))) s)⟩
noncomputable def GY:Fn:=⟨3,3,(q (e (a (f 0 (c (v 0) n)) (.xT .le .le (v 1) (v 0) (v 2)))) s)⟩
noncomputable def GZ:Fn:=⟨2,2,(q (.ite (p .eq (b .len (c (v 0) n)) (k (.int 0))) (q (e (o .add (o .mul (k (.int 7)) (v 1)) (k (.int 3)))) s) s) (q (e (b .abs (c (x (v 0) (o .mod (v 1) (b .len (c (v 0) n)))) n))) s))⟩
noncomputable def vJ:E:=(p .ge (b .abs (c (v 0) n)) (o .pow (k (.int 10)) (k (.int 18))))
noncomputable def vK:E:=(b .abs (c (v 0) n))
noncomputable def DL:Fn:=⟨1,1,(q (e (m (c (v 0) (c (u .seq (v 0) (.one 0) 1 [] vJ vK) (c (k (.int 0)) (c (k (.int 0)) n)))))) s)⟩
noncomputable def Lg:Fn:=⟨3,4,(q (d 3 (o .mod (o .pow (o .add (o .mul (o .add (o .mod (f 2 (c (v 0) (c (v 1) n))) (k (.int 1000003))) (k (.int 5))) (o .add (v 1) (k (.int 2)))) (o .mul (k (.int 7919)) (v 1))) (k (.int 5))) (k (.int 2147483647)))) (q (e (o .mod (o .fdiv (v 3) (k (.int 13))) (v 2))) s))⟩
noncomputable def DM:E:=(p .lt (x (v 0) (k (.int 2))) (b .len (c (x (v 0) (k (.int 1))) n)))
noncomputable def yG:S:=(q (d 2 (x (x (v 0) (k (.int 1))) (x (v 0) (k (.int 2))))) (q (.ite (p .gt (v 2) (k (.int 0))) (q (j (x (v 0) (k (.int 1))) (x (v 0) (k (.int 2))) (o .fdiv (v 2) (v 1))) (q (e (o .mod (v 2) (v 1))) s)) s) (q (j (v 0) (k (.int 2)) (o .add (x (v 0) (k (.int 2))) (k (.int 1)))) s)))
noncomputable def tZ:Fn:=⟨2,3,(q (.xV DM yG) (q (j (v 0) (k (.int 3)) (o .add (x (v 0) (k (.int 3))) (k (.int 1)))) (q (e (f 4 (c (x (v 0) (k (.int 0))) (c (x (v 0) (k (.int 3))) (c (v 1) n))))) s)))⟩
noncomputable def Ah:Fn:=⟨3,3,(q (e (a (i .tuple (v 0)) (.xT .le .le (v 1) (b .len (c (v 0) n)) (v 2)))) s)⟩
noncomputable def G0:S:=(q (.ite (z (t (f 1 (c (v 5) (c (v 3) (c (v 4) n)))))) (q (e (k (.bl false))) s) s) s)
noncomputable def DN:Fn:=⟨5,6,(q (.ite (z (t (f 6 (c (v 0) (c (v 1) (c (v 2) n)))))) (q (e (k (.bl false))) s) s) (q (.«for» .seq (v 0) (.one 5) G0) (q (e (k (.bl true))) s)))⟩
noncomputable def vL:E:=(p .lt (v 3) (v 0))
noncomputable def G4:S:=(q (.aug 2 .add (k (.int 1))) (q (.aug 3 .mul (k (.int 2))) s))
noncomputable def yH:Fn:=⟨2,4,(q (.ite (r (z (t (f 1 (c (v 0) (c (k (.int 1)) (c (k (.int 1000000000)) n)))))) (z (t (f 1 (c (v 1) (c (k (.int 1)) (c (k (.int 4)) n))))))) (q .no s) s) (q (d 2 (k (.int 0))) (q (d 3 (v 1)) (q (.xV vL G4) (q (e (v 2)) s)))))⟩
noncomputable def G5:E:=(w .get (v 1) (c (v 0) (c (k (.str (cg "."))) n)))
noncomputable def t6:Fn:=⟨2,2,(q (e (b .tuple (c (u .bU (c (v 0) n) (.one 0) 1 [1] (k (.bl true)) G5) n))) s)⟩
noncomputable def yI:Fn:=⟨2,2,(q (e (m (c (f 33 (c (v 0) (c (v 1) n))) (c (f 33 (c (v 0) (c (.dc .keys (b .bS (c (v 1) n)) (.one 0) 1 [] (k (.bl true)) (o .add (v 0) (k (.int 1))) (k (.str (cg "<")))) n))) n)))) s)⟩
noncomputable def Lh:S:=(q (h (w .append (v 2) (c (o .mod (v 0) (k (.int 2))) n))) (q (.aug 0 .fdiv (k (.int 2))) s))
noncomputable def t7:Fn:=⟨2,4,(q (d 2 (m n)) (q (.«for» .bU (c (v 1) n) (.one 3) Lh) (q (e (b .tuple (c (v 2) n))) s)))⟩
noncomputable def G6:E:=(b .max (c (o .sub (v 1) (v 0)) (c (o .sub (v 2) (v 1)) n)))
noncomputable def Li:S:=(q (d 5 (.dc .seq (v 2) (.many [0,1,2]) 3 [4] (p .gt (o .sub (v 1) (v 3)) (v 0)) (o .sub (v 1) (v 3)) (k (.str (cg "<"))))) (q (h (w .update (v 5) (c (.dc .seq (v 2) (.many [0,1,2]) 3 [4] (p .lt (o .add (v 1) (v 3)) (v 2)) (o .add (v 1) (v 3)) (k (.str (cg ">")))) n))) (q (h (w .append (v 3) (c (f 33 (c (v 0) (c (v 5) n))) n))) s)))
noncomputable def yJ:Fn:=⟨3,6,(q (d 3 (m (c (f 33 (c (v 0) (c (.dc .seq (v 2) (.many [0,1,2]) 3 [1] (k (.bl true)) (v 1) (.tup (c (v 3) (c (k (.int 0)) n)))) n))) n))) (q (.«for» .oq (c (k (.int 1)) (c (b .max (c (u .seq (v 2) (.many [0,1,2]) 3 [] (k (.bl true)) G6) n)) n)) (.one 4) Li) (q (e (v 3)) s)))⟩
noncomputable def Ua:E:=(.tup (c (v 0) (c (o .fdiv (o .add (v 0) (v 1)) (k (.int 2))) (c (v 1) n))))
noncomputable def yK:Fn:=⟨1,1,(q (e (u .zip (c (b .st2 (c (v 0) (c (k .aL) (c (k (.int 2)) n)))) (c (b .st2 (c (v 0) (c (k (.int 1)) (c (k (.int 2)) n)))) n)) (.many [0,1]) 2 [] (k (.bl true)) Ua)) s)⟩
noncomputable def Ub:E:=(f 71 (c (v 0) (c (v 1) (c (v 2) n))))
noncomputable def t8:Fn:=⟨1,3,(q (.ite (r (z (t (f 6 (c (v 0) (c (k (.int 1)) (c (k (.int 16)) n)))))) (z (t (f 6 (c (x (v 0) (k (.int 0))) (c (k (.int 1)) (c (k (.int 4)) n))))))) (q (e (k (.bl false))) s) s) (q (d 1 (b .len (c (v 0) n))) (q (d 2 (b .len (c (x (v 0) (k (.int 0))) n))) (q (e (a (p .le (o .mul (v 1) (v 2)) (k (.int 16))) (b .all (c (u .seq (v 0) (.one 0) 1 [2,1] (k (.bl true)) Ub) n)))) s))))⟩
noncomputable def t9:Fn:=⟨2,4,(q (.ite (z (t (f 6 (c (v 0) (c (k (.int 2)) (c (k (.int 2)) n)))))) (q (e (k (.bl false))) s) s) (q (g [2,3] (v 0)) (q (e (a (f 1 (c (v 2) (c (k (.int 0)) (c (k (.int 99)) n)))) (f 1 (c (v 3) (c (k (.int 0)) (c (o .sub (v 1) (k (.int 1))) n)))))) s)))⟩
noncomputable def Uc:E:=(f 70 (c (v 0) (c (v 1) n)))
noncomputable def uc:Fn:=⟨3,3,(q (e (a (f 6 (c (v 0) (c (v 1) (c (v 1) n)))) (b .all (c (u .seq (v 0) (.one 0) 1 [2] (k (.bl true)) Uc) n)))) s)⟩
noncomputable def Ud:E:=(v 1)
noncomputable def yL:Fn:=⟨2,2,(q (e (o .add (u .seq (v 1) (.many [0,1,2]) 3 [] (k (.bl true)) Ud) (l (v 0) true (o .mul (k (.int 2)) (b .len (c (v 1) n))) false (k .aL)))) s)⟩
noncomputable def Ue:E:=(o .add (o .mul (k (.int 2)) (o .add (o .mul (v 1) (v 2)) (v 0))) (k (.int 1)))
noncomputable def Lj:E:=(u .bU (c (v 1) n) (.one 0) 1 [0,1] (k (.bl true)) Ue)
noncomputable def Lk:E:=(f 68 (c (v 0) n))
noncomputable def yM:E:=(v 0)
noncomputable def Ai:E:=(v 1)
noncomputable def Ll:E:=(f 72 (c (v 0) (c (v 1) n)))
noncomputable def DO:S:=(q (d 7 (u .seq (v 4) (.one 0) 1 [] (k (.bl true)) Lk)) (q (d 5 (o .add (f 67 (c (v 3) (c (v 6) (c (.zR .seq (v 7) (.one 0) 2 [] (k (.bl true)) .seq yM (.one 1) (k (.bl true)) Ai) n)))) (v 5))) (q (d 4 (u .zip (c (v 4) (c (v 7) n)) (.many [0,1]) 2 [] (k (.bl true)) Ll)) s)))
noncomputable def Ug:E:=(x (v 0) (k (.int 0)))
noncomputable def ud:Fn:=⟨2,9,(q (d 2 (f 32 (c (v 0) (c (k (.int 1)) n)))) (q (d 3 (o .add (o .mul (o .mul (k (.int 2)) (v 0)) (v 1)) (k (.int 1)))) (q (d 4 (u .bU (c (v 1) n) (.one 0) 1 [0] (k (.bl true)) Lj)) (q (d 5 (m n)) (q (.«for» .bU (c (v 2) n) (.one 6) DO) (q (d 8 (b .tuple (c (u .seq (v 4) (.one 0) 1 [] (k (.bl true)) Ug) n))) (q (e (.tup (c (v 3) (c (v 2) (c (b .tuple (c (v 5) n)) (c (v 8) (c (o .mul (.tup (c (k (.tup [(.int 0),(.int 0)])) n)) (v 3)) n))))))) s)))))))⟩
noncomputable def fm:Fn:=⟨4,7,(q (.ite (t (i .tuple (v 0))) (q (g [4,5] (v 0)) (q (d 6 (x (v 2) (v 4))) (q (.ite (p .ne (v 4) (v 3)) (q (j (v 2) (v 4) (o .sub (k (.int 1)) (v 6))) s) s) (q (e (.ite (p .eq (v 6) (v 5)) (k (.int (-1))) (k (.int 1)))) s)))) s) (q (.ite (p .eq (v 0) (k (.str (cg "s")))) (q (e (k .aL)) s) s) (q (.ite (p .eq (v 0) (k (.str (cg "x")))) (q (e (v 1)) s) s) (q (.ite (p .eq (v 0) (k (.str (cg ".")))) (q (e (k (.int 0))) s) s) (q (e (.ite (p .eq (v 0) (k (.str (cg "<")))) (k (.int (-1))) (k (.int 1)))) s)))))⟩
noncomputable def DP:S:=(q (d 10 (x (v 9) (v 4))) (q (d 8 (f 173 (c (v 10) (c (v 8) (c (v 7) (c (v 3) n)))))) (q (.ite (p .Gi (v 8) (k .aL)) (q .brk s) s) (q (.ite (a (t (i .tuple (v 10))) (p .ne (x (v 10) (k (.int 0))) (v 3))) (q (h (w .append (v 6) (c (x (v 10) (k (.int 0))) n))) s) s) (q (.aug 4 .add (v 8)) (q (h (w .append (v 5) (c (v 4) n))) s))))))
noncomputable def nB:Fn:=⟨4,11,(q (d 4 (x (x (v 0) (k (.int 3))) (v 2))) (q (d 5 (m (c (v 4) n))) (q (d 6 (m n)) (q (d 7 (b .list (c (v 1) n))) (q (d 8 (k (.int 0))) (q (.«for» .seq (x (v 0) (k (.int 2))) (.one 9) DP) (q (e (.tup (c (b .tuple (c (v 5) n)) (c (b .tuple (c (v 6) n)) (c (b .tuple (c (v 7) n)) n))))) s)))))))⟩
noncomputable def Lm:E:=(f 41 (c (v 0) (c (v 1) n)))
noncomputable def Ln:E:=(k (.tup [(.int 0),(.int 0)]))
noncomputable def G7:E:=(b .Cd n)
noncomputable def G8:S:=(q (.ite (p .ne (v 19) (x (x (v 6) (v 15)) (v 9))) (q (j (x (v 10) (v 9)) (v 7) (.tup (c (v 9) (c (o .sub (k (.int 1)) (v 19)) n)))) s) s) s)
noncomputable def G9:S:=(q (g [16,17,18] (f 174 (c (v 1) (c (v 11) (c (v 13) (c (k .aL) n)))))) (q (d 7 (x (v 16) (y (k (.int 1))))) (q (j (v 8) (v 7) (.tup (c (v 14) (c (k (.int 0)) n)))) (q (.«for» .l7 (v 18) (.many [9,19]) G8) s))))
noncomputable def DQ:S:=(q (.«for» .l7 (v 12) (.Ce 13 [14,15]) G9) s)
noncomputable def Hf:S:=(q (.aug 4 .add (b .tuple (c (f 36 (c (v 2) (c (v 20) n))) n))) s)
noncomputable def nC:Fn:=⟨1,21,(q (.ite (z (t (f 69 (c (v 0) n)))) (q .no s) s) (q (d 1 (f 77 (c (b .len (c (v 0) n)) (c (b .len (c (x (v 0) (k (.int 0))) n)) n)))) (q (g [2,3,4,5] (l (v 1) false (k .aL) true (k (.int 4)))) (q (d 6 (b .tuple (c (u .bU (c (b .len (c (v 0) n)) n) (.one 0) 1 [3] (k (.bl true)) Lm) n))) (q (d 8 (u .bU (c (v 2) n) (.one 0) 1 [] (k (.bl true)) Ln)) (q (d 10 (u .bU (c (v 3) n) (.one 0) 1 [] (k (.bl true)) G7)) (q (.«for» .zip (c (v 6) (c (v 0) n)) (.many [11,12]) DQ) (q (.«for» .seq (v 10) (.one 20) Hf) (q (e (.tup (c (.tup (c (v 2) (c (v 3) (c (v 4) (c (v 5) (c (b .tuple (c (v 8) n)) n)))))) (c (v 6) n)))) s)))))))))⟩
noncomputable def lg:Fn:=⟨3,3,(q (e (a (i .int (v 0)) (a (z (i .bool (v 0))) (.xT .le .le (v 1) (v 0) (v 2))))) s)⟩
noncomputable def zr2:E:=(.tup (c (.tup (c (v 1) (c (o .mod (o .add (v 0) (k (.int 1))) (b .len (c (v 2) n))) n))) n))
noncomputable def DR:Fn:=⟨1,3,(q (.ite (z (t (f 7 (c (v 0) (c (k (.int 1)) (c (k (.int 16)) (c (k (.int 0)) (c (k (.int 99)) n)))))))) (q .no s) s) (q (g [1,2] (f 187 (c (b .tuple (c (u .l7 (v 0) (.many [0,1]) 2 [0] (k (.bl true)) zr2) n)) n))) (q (e (.tup (c (v 1) (c (x (v 2) (k (.int 0))) n)))) s)))⟩
noncomputable def Lo:S:=(q (d 1 (x (m (c (.tup (c (v 1) n)) (c (m (c (v 1) n)) (c (.xS (c (v 2) (c (v 1) n))) n)))) (o .mod (v 2) (k (.int 3))))) s)
noncomputable def qZ:Fn:=⟨1,4,(q (d 1 (.tup n)) (q (.«for» .bU (c (o .add (k (.int 1)) (f 5 (c (v 0) (c (k (.int 15)) n)))) n) (.one 2) Lo) (q (d 3 (m (c (k .aL) (c (k (.bl true)) (c (k (.bl false)) (c (k (.int 0)) (c (k (.int 1)) (c (y (k (.int 1))) (c (k (.int 15)) (c (k (.int 16)) (c (k (.int 17)) (c (k (.int 99)) (c (k (.int 100)) (c (o .pow (k (.int 10)) (k (.int 30))) (c (y (o .pow (k (.int 10)) (k (.int 30)))) (c (k (.str (cg ""))) (c (k (.str (cg "a"))) (c (k (.str (cg "0"))) (c (.tup n) (c (m n) (c (b .Cd n) n))))))))))))))))))))) (q (d 3 (o .add (v 3) (m (c (.tup (c (k (.int 0)) n)) (c (m (c (k (.int 0)) n)) (c (.tup (c (k (.int 0)) (c (k (.int 0)) n))) (c (m (c (k (.int 0)) (c (k (.int 0)) n))) (c (.tup (c (k (.int 0)) (c (k (.int 0)) (c (k (.int 0)) n)))) (c (.tup (c (.tup (c (k (.int 0)) (c (k (.int 0)) n))) n)) (c (.tup (c (.tup (c (.tup (c (k (.int 0)) (c (k (.int 0)) n))) n)) n)) (c (m (c (.tup (c (.tup (c (k (.int 0)) (c (k (.int 0)) n))) n)) n)) (c (.xS (c (k (.str (cg "a"))) (c (.tup (c (k (.int 0)) (c (k (.int 0)) n))) n))) (c (v 1) n))))))))))))) (q (e (x (v 3) (f 5 (c (v 0) (c (b .len (c (v 3) n)) n))))) s)))))⟩
noncomputable def Hg:Fn:=⟨4,5,(q (d 4 (m (c (v 3) (c (b .list (c (v 0) n)) (c (o .add (v 0) (.tup (c (x (v 0) (v 2)) n))) (c (o .add (l (v 0) false (k .aL) true (v 2)) (l (v 0) true (o .add (v 2) (k (.int 1))) false (k .aL))) (c (l (o .mul (v 0) (k (.int 17))) false (k .aL) true (k (.int 17))) (c (.tup n) (c (.tup (c (v 0) n)) n))))))))) (q (.ite (p .lt (v 1) (k (.int 7))) (q (e (x (v 4) (v 1))) s) s) (q (e (o .add (o .add (l (v 0) false (k .aL) true (v 2)) (.tup (c (v 3) n))) (l (v 0) true (o .add (v 2) (k (.int 1))) false (k .aL)))) s)))⟩
noncomputable def Lp:E:=(f 102 (c (v 0) (c (k (.int 0)) (c (k (.int 99)) n))))
noncomputable def vM:Fn:=⟨1,1,(q (.ite (r (z (t (i .tuple (v 0)))) (r (p .lt (b .len (c (v 0) n)) (k (.int 1))) (p .gt (b .len (c (v 0) n)) (k (.int 16))))) (q (e (k (.bl false))) s) s) (q (e (b .all (c (u .seq (v 0) (.one 0) 1 [] (k (.bl true)) Lp) n))) s))⟩
noncomputable def DS:Fn:=⟨1,3,(q (.oz 1 704 (c (v 0) n) [(.mk 164 (.str (cg "word")))]) (q (.ite (a (t (i .tuple (v 1))) (p .eq (b .len (c (v 1) n)) (k (.int 2)))) (q (e (k (.str (cg "made")))) s) s) (q (e (k (.str (cg "other")))) s)))⟩
noncomputable def Hh:E:=(.tup (c (f 5 (c (v 1) (c (k (.int 14)) n))) (c (f 5 (c (v 1) (c (k (.int 16)) n))) (c (f 163 (c (v 1) n)) n))))
noncomputable def Hi:E:=(f 5 (c (v 1) (c (k (.int 100)) n)))
noncomputable def Hj:S:=(q (d 7 (f 700 (c (v 3) (c (v 4) (c (o .mod (v 5) (b .len (c (v 3) n))) (c (v 6) n)))))) (q (d 8 (x (m (c (k (.str (cg "word"))) (c (k (.str (cg "made"))) n))) (b .int (c (f 701 (c (v 7) n)) n)))) (q (.ite (r (p .ne (f 702 (c (v 7) n)) (v 8)) (p .ne (f 702 (c (v 3) n)) (k (.str (cg "made"))))) (q (e (k (.bl false))) s) s) s)))
noncomputable def Hl:Fn:=⟨1,9,(q (d 1 (f 3 (c (v 0) n))) (q (d 2 (u .bU (c (k (.int 4)) n) (.one 0) 1 [1] (k (.bl true)) Hh)) (q (d 3 (b .tuple (c (u .bU (c (o .add (k (.int 1)) (f 5 (c (v 1) (c (k (.int 16)) n)))) n) (.one 0) 1 [1] (k (.bl true)) Hi) n))) (q (.«for» .seq (v 2) (.many [4,5,6]) Hj) (q (e (k (.bl true))) s)))))⟩
noncomputable def Lq:E:=(.tup (c (.tup (c (v 1) (c (o .mod (o .add (v 0) (k (.int 1))) (b .len (c (v 2) n))) n))) n))
noncomputable def Aj:Fn:=⟨1,3,(q (q (.ite (z (t (f 7 (c (v 0) (c (k (.int 1)) (c (k (.int 16)) (c (k (.int 0)) (c (k (.int 99)) n)))))))) (q (e (k (.int 164))) s) s) (q (g [1,2] (f 187 (c (b .tuple (c (u .l7 (v 0) (.many [0,1]) 2 [0] (k (.bl true)) Lq) n)) n))) (q (e (.tup (c (.tup (c (v 1) (c (x (v 2) (k (.int 0))) n))) n))) s))) (e (k (.tup [.aL]))))⟩
noncomputable def ji:Fn:=⟨0,0,.no⟩
end
noncomputable def fin(h:VH)(r:Res Fl):Res W:=r.bind λfl h'=>match fl with|.nx _=>leave h .aL h'|.rt w=>leave h w h'|_=>.no
theorem gp{F:Nat->Option Fn}{k f:Nat}{fn:Fn}{ws:List W}{h:VH}(hF:F f=aC fn)(hl:ws.length=fn.ps) :
 run F (k+1) f ws h=fin h (exs (run F k) fn.body (ws.map aC++bN (fn.n-fn.ps) aD) ⟨h.n,h.n,h.os⟩):=by
 simp only[run,hF];rw[if_pos (by rw[hl];exact Nat.beq_refl _)];rfl
theorem zmh{h:VH}{w:W}{h':VH}(h1:h.n<=h'.lo)(h2:W.lt h.n w):leave h w h'=.ok w h:=by unfold leave;rw[if_pos (by rw[bw];exact⟨pR.mpr h1,h2⟩)]
theorem gG{h h':VH}{w:W}(h1:h.n<=h'.lo)(h2:W.lt h.n w):fin h (.ok (.rt w) h')=.ok w h:=zmh h1 h2
@[simp] theorem aE {α β:Type} {a:α} {h:VH} {f:α->VH->Res β}:(Res.ok a h).bind f=f a h:=rfl
@[simp] theorem Lr {α β:Type} {f:α->VH->Res β}:(Res.no:Res α).bind f=.no:=rfl
@[simp] theorem dz {α:Type} {a:α} {h:VH}:Res.of (aC a) h=.ok a h:=rfl
@[simp] theorem Lu {α:Type} {h:VH}:Res.of (aD:Option α) h=.no:=rfl
@[simp] theorem Lv {n:Nat}:W.lt n .aL=true:=by simp only[W.lt]
@[simp] theorem Uh {n:Nat} {b:Bool}:W.lt n (.bl b)=true:=by simp only[W.lt]
@[simp] theorem lt_int {n:Nat} {b:Int}:W.lt n (.int b)=true:=by simp only[W.lt]
@[simp] theorem lt_str {n:Nat} {b:Str}:W.lt n (.str b)=true:=by simp only[W.lt]
@[simp] theorem mH {n:Nat} {b:List W}:W.lt n (.tup b)=W.ir n b:=by simp only[W.lt]
@[simp] theorem Ho {n:Nat}:W.ir n []=true:=by simp only[W.ir]
@[simp] theorem jj {n:Nat} {b:W} {r:List W}:W.ir n (b::r)=(W.lt n b&&W.ir n r):=by simp only[W.ir]
@[simp] theorem yN:((Ty.int==Ty.int):Bool)=true:=rfl
@[simp] theorem vN:((Ty.int==Ty.bool):Bool)=false:=rfl
@[simp] theorem ue:((Ty.int==Ty.tuple):Bool)=false:=rfl
@[simp] theorem vO:((Ty.int==Ty.list):Bool)=false:=rfl
@[simp] theorem yO:((Ty.int==Ty.str):Bool)=false:=rfl
@[simp] theorem vP:((Ty.int==Ty.dict):Bool)=false:=rfl
@[simp] theorem vQ:((Ty.bool==Ty.int):Bool)=false:=rfl
@[simp] theorem uf:((Ty.bool==Ty.bool):Bool)=true:=rfl
@[simp] theorem sj:((Ty.bool==Ty.tuple):Bool)=false:=rfl
@[simp] theorem ug:((Ty.bool==Ty.list):Bool)=false:=rfl
@[simp] theorem vR:((Ty.bool==Ty.str):Bool)=false:=rfl
@[simp] theorem uh:((Ty.bool==Ty.dict):Bool)=false:=rfl
@[simp] theorem um:((Ty.tuple==Ty.int):Bool)=false:=rfl
@[simp] theorem sr:((Ty.tuple==Ty.bool):Bool)=false:=rfl
@[simp] theorem fq:((Ty.tuple==Ty.tuple):Bool)=true:=rfl
@[simp] theorem su:((Ty.tuple==Ty.list):Bool)=false:=rfl
@[simp] theorem uo:((Ty.tuple==Ty.str):Bool)=false:=rfl
@[simp] theorem sy:((Ty.tuple==Ty.dict):Bool)=false:=rfl
@[simp] theorem vS:((Ty.list==Ty.int):Bool)=false:=rfl
@[simp] theorem uq:((Ty.list==Ty.bool):Bool)=false:=rfl
@[simp] theorem sA:((Ty.list==Ty.tuple):Bool)=false:=rfl
@[simp] theorem ur:((Ty.list==Ty.list):Bool)=true:=rfl
@[simp] theorem vU:((Ty.list==Ty.str):Bool)=false:=rfl
@[simp] theorem uu:((Ty.list==Ty.dict):Bool)=false:=rfl
@[simp] theorem yP:((Ty.str==Ty.int):Bool)=false:=rfl
@[simp] theorem vV:((Ty.str==Ty.bool):Bool)=false:=rfl
@[simp] theorem uv:((Ty.str==Ty.tuple):Bool)=false:=rfl
@[simp] theorem vW:((Ty.str==Ty.list):Bool)=false:=rfl
@[simp] theorem yQ:((Ty.str==Ty.str):Bool)=true:=rfl
@[simp] theorem vX:((Ty.str==Ty.dict):Bool)=false:=rfl
@[simp] theorem vY:((Ty.dict==Ty.int):Bool)=false:=rfl
@[simp] theorem uw:((Ty.dict==Ty.bool):Bool)=false:=rfl
@[simp] theorem sC:((Ty.dict==Ty.tuple):Bool)=false:=rfl
@[simp] theorem ux:((Ty.dict==Ty.list):Bool)=false:=rfl
@[simp] theorem vZ:((Ty.dict==Ty.str):Bool)=false:=rfl
@[simp] theorem uy:((Ty.dict==Ty.dict):Bool)=true:=rfl
@[simp] theorem Hq {t:Ty} {h:VH}:cK t h .aL=aC false:=rfl
@[simp] theorem Lw {t:Ty} {h:VH} {b:Bool}:cK t h (.bl b)=aC (t == .int||t == .bool):=rfl
@[simp] theorem Hr {t:Ty} {h:VH} {i:Int}:cK t h (.int i)=aC (t == .int):=rfl
@[simp] theorem Hs {t:Ty} {h:VH} {x:Str}:cK t h (.str x)=aC (t == .str):=rfl
@[simp] theorem nD {t:Ty} {h:VH} {x:List W}:cK t h (.tup x)=aC (t == .tuple):=rfl
@[simp] theorem cQ {h:VH} {l i:Nat}:VH.get ⟨h.n,l,h.os⟩ i=h.get i:=by unfold VH.get;rfl
@[simp] theorem rj {h:VH} {b:Bool}:oA h (.bl b)=aC b:=rfl
noncomputable def forL(tg:W->VH->En->Option En)(b:FS):List W->En->VH->Res Fl
 |[],ρ,h=>.ok (.nx ρ) h
 |w::r,ρ,h=>match tg w h ρ with
  |none=>.no
  |some ρ=>(b ρ h).bind λfl h=>match fl with
   |.nx ρ=>forL tg b r ρ h
   |.ct ρ=>forL tg b r ρ h
   |.bk ρ=>.ok (.nx ρ) h
   |.rt w=>.ok (.rt w) h
noncomputable def v9(tg:W->VH->En->Option En)(c e:FE):List W->En->VH->Res (List W)
 |[],_,h=>.ok [] h
 |w::r,ρ,h=>match tg w h ρ with
  |none=>.no
  |some ρ=>(c ρ h).bind λb h=>match b with
   |.bl true=>(e ρ h).bind λy h=>(v9 tg c e r ρ h).bind λys h=>.ok (y::ys) h
   |.bl false=>v9 tg c e r ρ h
   |_=>.no
theorem bind_assoc{α β γ:Type}{r:Res α}{f:α->VH->Res β}{g:β->VH->Res γ}:(r.bind f).bind g=r.bind λa h=>(f a h).bind g:=by cases r<;>rfl
theorem Ui{nx:Nat->VH->Option (Option W)}{tg:W->VH->En->Option En}{b:FS}{ws:List W}(hx:∀i h,nx i h=aC ws[i]?):∀(fu i:Nat) (ρ:En) (h:VH),i<=ws.length->ws.length<fu+i->eg nx tg b fu i ρ h=forL tg b (ws.drop i) ρ h
 |0,i,ρ,h,hi,hl=>by lia
 |fu+1,i,ρ,h,hi,hl=>by
  simp only[eg,hx];cases q:ws[i]? with
  |none=>
   rw[Fg (rN.mp q)];rfl
  |some w=>
   obtain⟨hi,e⟩:=gZ.mp q;rw[Fc hi,e];simp only[forL];cases tg w h ρ with
   |none=>rfl
   |some ρ'=>
    simp only;congr 1;funext fl h1;cases fl<;>simp only[Ui hx fu (i+1) _ _ hi (by lia)]
theorem Lx{nx:Nat->VH->Option (Option W)}{tg:W->VH->En->Option En}{c e:FE}{ws:List W}(hx:∀i h,nx i h=aC ws[i]?):∀(fu i:Nat) (ρ:En) (h:VH) (acc:List W),i<=ws.length->ws.length<fu+i->
 i6 nx tg c e fu i ρ h acc=(v9 tg c e (ws.drop i) ρ h).bind λys h=>.ok (acc.reverse++ys) h
 |0,i,ρ,h,acc,hi,hl=>by lia
 |fu+1,i,ρ,h,acc,hi,hl=>by
  simp only[i6,hx];cases q:ws[i]? with
  |none=>
   rw[Fg (rN.mp q)];simp[v9]
  |some w=>
   obtain⟨hi,ee⟩:=gZ.mp q;rw[Fc hi,ee];simp only[v9];cases tg w h ρ with
   |none=>rfl
   |some ρ'=>
    simp only[bind_assoc];congr 1;funext bv h1;cases bv<;>try rfl
    rename_i bb;cases bb with
    |true=>
     simp only[bind_assoc];congr 1;funext y h2;rw[Lx hx fu (i+1) _ _ _ hi (by lia)];congr 1;funext ys h3;simp
    |false=>simp only[Lx hx fu (i+1) _ _ _ hi (by lia)]
theorem Ly{ws:List W}{tg:W->VH->En->Option En}{b:FS}{ρ:En}{h:VH}(hl:ws.length<1000000):eg (aU .seq (.tup ws)) tg b fuel 0 ρ h=forL tg b ws ρ h:=by have:=Ui (nx:=aU .seq (.tup ws)) (tg:=tg) (b:=b) (ws:=ws) (λi h=>rfl) fuel 0 ρ h (lS _) (by simpa[fuel]using hl);simpa using this
noncomputable def isInt:W->Bool|.int _=>true|_=>false
noncomputable def Kn(h:VH)(w:W):Prop:=cK .int h w≠aD
theorem fy{h:VH}{l:Nat}{w:W}:Kn ⟨h.n,l,h.os⟩ w↔Kn h w:=by unfold Kn;cases w<;>simp[cK]
noncomputable def within(w:W)(lo hi:Int):Bool:=match w with|.int i=>decide (lo<=i)&&decide (i<=hi)|_=>false
noncomputable def jB(w:W)(lo hi:Int):Bool:=match w with|.tup ws=>decide (lo<=ws.length)&&decide ((ws.length:Int)<=hi)|_=>false
structure iw(F:Nat->Option Fn):Prop where
 f0:F 0=aC DK
 f1:F 1=aC GY
 f6:F 6=aC Ah
section
variable{F:Nat->Option Fn}(C:iw F)
include C
theorem zo7{k:Nat}{h:VH}{w:W}(hw:Kn h w):run F (k+1) 0 [w] h=.ok (.bl (isInt w)) h:=by
 rw[gp C.f0 rfl];cases w<;>try(simp[DK,exs,ev,isInt,gG];done)
 exact absurd rfl hw;rename_i i;unfold Kn at hw;simp only[cK]at hw;cases g:h.get i with
 |none=>rw[g]at hw;exact absurd rfl hw
 |some o=>cases o<;>first|(simp[DK,exs,ev,isInt,gG,cK,g];done)|(simp[g]at hw)
theorem DT{k:Nat}{h:VH}{w:W}{lo hi:Int}(hw:Kn h w):run F (k+2) 1 [w,.int lo,.int hi] h=.ok (.bl (within w lo hi)) h:=by rw[gp C.f1 rfl];have e:=zo7 C (k:=k) (h:=⟨h.n,h.n,h.os⟩) (w:=w) (fy.mpr hw);cases w<;>simp[GY,exs,ev,e,isInt,within,gG,bP,jW];rename_i i;by_cases h1:lo<=i<;>simp[h1,gG]
theorem DU{k:Nat}{h:VH}{w:W}{lo hi:Int}(hw:Kn h w):run F (k+1) 6 [w,.int lo,.int hi] h=.ok (.bl (jB w lo hi)) h:=by
 rw[gp C.f6 rfl];cases w<;>try(simp[Ah,exs,ev,jB,gG];done)
 rename_i ws;simp[Ah,exs,ev,jB,gG,bP,jW,pq,jv,aV];by_cases h1:lo<=ws.length<;>simp[h1,gG];exact absurd rfl hw;rename_i i;unfold Kn at hw;simp only[cK]at hw;cases g:h.get i with
 |none=>rw[g]at hw;exact absurd rfl hw
 |some o=>cases o<;>first|(simp[Ah,exs,ev,jB,gG,cK,g];done)|(simp[g]at hw)
end
structure rm(F:Nat->Option Fn):Prop where
 f0:F 0=aC DK
 f1:F 1=aC GY
 f6:F 6=aC Ah
 f7:F 7=aC DN
section
variable{F:Nat->Option Fn}(C:rm F)
include C
theorem zfa{k:Nat}{h:VH}{w:W}{lo hi:Int}(hw:Kn h w):run F (k+2) 1 [w,.int lo,.int hi] h=.ok (.bl (within w lo hi)) h:=DT ⟨C.f0,C.f1,C.f6⟩ hw
theorem zfb{k:Nat}{h:VH}{w:W}{lo hi:Int}(hw:Kn h w):run F (k+1) 6 [w,.int lo,.int hi] h=.ok (.bl (jB w lo hi)) h:=DU ⟨C.f0,C.f1,C.f6⟩ hw
theorem wc{k:Nat}{h:VH}{t a b:W}{lo hi:Int}:∀(ws:List W) (x:Option W),(∀w∈ws,Kn h w)->∃y,forL (bK (.one 5)) (exs (run F (k+2)) G0) ws [aC t,aC a,aC b,aC (.int lo),aC (.int hi),x] h =
 if ws.all (within · lo hi)then .ok (.nx [aC t,aC a,aC b,aC (.int lo),aC (.int hi),y]) h else .ok (.rt (.bl false)) h
 |[],x,_=>⟨x,by simp[forL]⟩
 |w::r,x,hk=>by
  obtain⟨y,e⟩:=wc (t:=t) (a:=a) (b:=b) (k:=k) (lo:=lo) (hi:=hi) r (aC w) λz hz=>hk z (fS _ hz);refine⟨y,?_⟩;have e1:=zfa C (k:=k) (lo:=lo) (hi:=hi) (hk w gj);have eb:exs (run F (k+2)) G0 [aC t,aC a,aC b,aC (.int lo),aC (.int hi),aC w] h=if within w lo hi then .ok (.nx [aC t,aC a,aC b,aC (.int lo),aC (.int hi),aC w]) h else .ok (.rt (.bl false)) h:=by cases q:within w lo hi<;>simp[G0,exs,ev,e1,q]
  simp only[forL,bK,List.set,eb];cases q:within w lo hi<;>simp[q,e]
noncomputable def mJ(w:W)(a b lo hi:Int):Bool:=match w with|.tup ws=>jB w a b&&ws.all (within · lo hi)|_=>false
theorem zdt{k:Nat}{h:VH}{w:W}{a b lo hi:Int}(hw:Kn h w)(hp:∀ws,w=.tup ws->ws.length<1000000/\∀x∈ws,Kn h x):run F (k+3) 7 [w,.int a,.int b,.int lo,.int hi] h=.ok (.bl (mJ w a b lo hi)) h:=by
 rw[gp C.f7 rfl];have e1:=zfb C (k:=k+1) (h:=⟨h.n,h.n,h.os⟩) (w:=w) (lo:=a) (hi:=b) (fy.mpr hw);cases q:jB w a b with
 |false=>
  have:mJ w a b lo hi=false:=by cases w<;>simp[mJ,q]
  simp[DN,exs,ev,e1,q,this,gG]
 |true=>
  cases w<;>try(simp[jB]at q;done)
  rename_i ws;obtain⟨hl,hk⟩:=hp ws rfl;obtain⟨y,e2⟩:=wc C (k:=k) (h:=⟨h.n,h.n,h.os⟩) (t:=.tup ws) (a:=.int a) (b:=.int b) (lo:=lo) (hi:=hi) ws aD λx hx=>fy.mpr (hk x hx);have e3:mJ (.tup ws) a b lo hi=ws.all (within · lo hi):=by simp[mJ,q]
  rw[e3];cases q2:ws.all (within · lo hi)with|true=>simp[DN,exs,ev,e1,q,Ly hl,e2,q2,gG]|false=>simp[DN,exs,ev,e1,q,Ly hl,e2,q2,gG]
end
noncomputable def iH:Nat->W->Bool
 |0,_=>false
 |n+1,w=>match w with
  |.aL=>true
  |.bl _=>true
  |.int _=>true
  |.str x=>PyData.strOk x
  |.tup ws=>ws.all (iH n)
  |_=>false
theorem Uj{f:W->Option aB}{p:W->Bool}{n:Nat}(h:∀w,p w=true->∃d,f w=aC d/\d.canLay0=true/\d.depth<=n):∀ws:List W,ws.all p=true->∃ds,bH f ws=aC ds/\PyData.canLayAll0 ds=true/\PyData.depthAll ds<=n
 |[],_=>⟨[],rfl,rfl,lS _⟩
 |w::r,e=>by
  rw[pQ,bw]at e;obtain⟨d,h1,h2,h3⟩:=h w e.1;obtain⟨ds,h4,h5,h6⟩:=Uj h r e.2;refine⟨d::ds,by simp[bH,h1,h4],?_,?_⟩;show(d.canLay0&&PyData.canLayAll0 ds)=true;rw[h2,h5];rfl;show max d.depth (PyData.depthAll ds)<=n;lia
theorem Lz(h:VH):∀(n:Nat) (w:W),iH n w=true->∃d,toD h n w=aC d/\d.canLay0=true/\d.depth<=n
 |0,_,e=>by cases e
 |n+1,w,e=>by
  cases w<;>simp only[iH]at e<;>try(cases e;done)
  exact⟨.none,rfl,rfl,lS _⟩;exact⟨.bool _,rfl,rfl,lS _⟩;exact⟨.int _,rfl,rfl,lS _⟩;exact⟨.str _,rfl,e,lS _⟩;obtain⟨ds,h1,h2,h3⟩:=Uj (Lz h n) _ e;exact⟨.tuple ds,by simp[toD,h1],h2,by show PyData.depthAll ds+1<=n+1;lia⟩
mutual
theorem Uk:∀d:aB,d.canLay0=true->PyData.eqv d d=true
 |.none,_=>rfl
 |.bool b,_=>by simp[PyData.eqv]
 |.int i,_=>by simp[PyData.eqv]
 |.str x,_=>by simp[PyData.eqv]
 |.list xs,h=>by
  simp only[PyData.eqv];exact LA xs h
 |.tuple xs,h=>by
  simp only[PyData.eqv];exact LA xs h
 |.dict _,h=>by cases h
theorem LA:∀ds:List aB,PyData.canLayAll0 ds=true->PyData.eqvAll ds ds=true
 |[],_=>rfl
 |d::ds,h=>by
  have h:(d.canLay0&&PyData.canLayAll0 ds)=true:=h;rw[bw]at h;simp only[PyData.eqvAll,Uk d h.1,LA ds h.2,Bool.and_self]
end
theorem Ul{h:VH}{w:W}(p:iH 24 w):dW h w w=aC true:=by
 obtain⟨d,h1,h2,h3⟩:=Lz h 24 w p;have hs:SeqAt.shaped d=true:=by unfold SeqAt.shaped;rw[h2,Bool.true_and,gW];lia
 unfold dW;rw[h1];simp[hs,Uk d h2]
noncomputable def nF(w:W)(x:Str):Bool:=match w with|.str y=>y==x|_=>false
theorem zvi{h:VH}{w:W}{x:Str}(p:iH 24 w)(hx:PyData.strOk x):dW h w (.str x)=aC (nF w x):=by
 obtain⟨d,h1,h2,h3⟩:=Lz h 24 w p;have hs:SeqAt.shaped d=true:=by unfold SeqAt.shaped;rw[h2,Bool.true_and,gW];lia
 have hs2:SeqAt.shaped (.str x)=true:=by unfold SeqAt.shaped;show(PyData.strOk x&&_)=true;rw[hx];rfl
 unfold dW;rw[h1];have h4:toD h 24 (.str x)=aC (.str x):=rfl;rw[h4];simp only[hs,hs2,Bool.and_self,dg];cases w<;>simp only[toD]at h1<;>try(cases h1;done)
 cases h1;simp[nF,PyData.eqv];cases h1;simp[nF,PyData.eqv];cases h1;simp[nF,PyData.eqv];cases h1;simp[nF,PyData.eqv];obtain⟨ds,h5,h6⟩:=Option.map_eq_some_iff.mp h1;subst h6;simp[nF,PyData.eqv];simp[iH]at p;simp[iH]at p
theorem LB{n:Nat}{ws:List W}:iH (n+1) (.tup ws)=ws.all (iH n):=rfl
theorem zzn:eX .aL=true:=rfl
noncomputable def DV(w:W)(n:Int):Bool:=eX w||within w 0 (n-1)
noncomputable def door(w:W)(n:Int):Bool:=match w with|.tup [a,b]=>within a 0 99&&DV b n|_=>false
noncomputable def yR(w:W)(g:Int):Bool:=match w with|.tup [a,b]=>within a 0 (g-1)&&within b 0 1|_=>false
noncomputable def kq(w:W)(c wd g:Int):Bool:=
 if nF w "x" || yR w g then decide (0<c)&&decide (c<wd-1)else if nF w "<"then decide (0<c)else if nF w ">"then decide (c<wd-1)else nF w "." || nF w "s"
section
variable{F:Nat->Option Fn}
theorem so_x:PyData.strOk (Str.ofString "x")=true:=by decide +kernel
theorem so_l:PyData.strOk (Str.ofString "<")=true:=by decide +kernel
theorem so_g:PyData.strOk (Str.ofString ">")=true:=by decide +kernel
theorem so_d:PyData.strOk (Str.ofString ".")=true:=by decide +kernel
theorem so_s:PyData.strOk (Str.ofString "s")=true:=by decide +kernel
end
structure Bd where
 wd:Int
 gr:Int
 rows:List (List W)
 fd:List W
 dr:List W
noncomputable def Bd.w(B:Bd):W:=.tup [.int B.wd,.int B.gr,.tup (B.rows.map .tup),.tup B.fd,.tup B.dr]
noncomputable def dM(wd g:Int):Int->List W->Prop|_,[]=>True|c,w::r=>kq w c wd g=true/\dM wd g (c+1) r
structure Bd.Ok(B:Bd):Prop where
 w1:1<=B.wd
 w2:B.wd<=40
 g1:0<=B.gr
 g2:B.gr<=8
 r1:B.rows.length<=60
 r2:∀r∈B.rows,(r.length:Int)=B.wd/\dM B.wd B.gr 0 r
 f1:1<=B.fd.length
 f2:B.fd.length<=4
 f3:∀f∈B.fd,within f 0 (B.wd-1)=true
 d1:(B.dr.length:Int)=B.wd
 d2:∀d∈B.dr,door d B.fd.length=true
theorem zir{w:W}{g:Int}(h:yR w g)(n:Nat):iH (n+2) w=true:=by
 cases w<;>simp only[yR]at h<;>try(cases h;done)
 rename_i us;rcases us with _|⟨a,_|⟨b,_|_⟩⟩<;>simp at h
 obtain⟨h1,h2⟩:=h;cases a<;>simp[within]at h1;cases b<;>simp[within]at h2;rfl
theorem Ak{w:W}{x:Str}(h:nF w x):w=.str x:=by cases w<;>simp[nF]at h;rw[h]
theorem zfo{w:W}{c wd g:Int}(h:kq w c wd g)(n:Nat):iH (n+2) w=true:=by
 have st:∀x:Str,PyData.strOk x=true->nF w x=true->iH (n+2) w=true:=λx hx e=>by rw[Ak e];exact hx
 unfold kq at h;split at h;rename_i q;rw[pL]at q;rcases q with q|q
 exact st _ (by decide +kernel) q;exact zir q n;split at h;rename_i q;exact st _ (by decide +kernel) q;split at h;rename_i q;exact st _ (by decide +kernel) q;rw[pL]at h;rcases h with q|q
 exact st _ (by decide +kernel) q;exact st _ (by decide +kernel) q
structure nG(F:Nat->Option Fn):Prop where
 f2:F 2=aC GZ
 f3:F 3=aC DL
 f4:F 4=aC Lg
 f5:F 5=aC tZ
theorem DW{h:VH}{i j:Int}:dW h (.int i) (.int j)=aC (decide (i=j)):=by unfold dW;simp only[toD];show aC (i==j)=_;by_cases q:i=j<;>simp[q]
theorem LC{i:Int}(h1:-(2 ^ 63)<=i)(h2:i<2 ^ 63):kN i=true:=by unfold kN;simp only[bw,gW];lia
theorem sD{h:VH}{i:Nat}{o o0:VO}(g:h.get i=aC o0):(h.set i o).get i=aC o:=by have hi:=bV g;unfold VH.get at g;rw[if_pos (gA.mpr hi)]at g;have hl:=(gZ.mp g).1;unfold VH.get VH.set;simp only[if_pos (gA.mpr hi)];rw[rO hl]
theorem yS{h:VH}{i j:Nat}{o o0:VO}(g:h.get i=aC o0)(hj:j≠i):(h.set i o).get j=h.get j:=rZ (bV g) hj
structure Dk(h:VH)(d c:Nat)(b:Nat):Prop where
 ne:d≠c
 st:∃(ns cells:List Int) (p q:Int),h.get d=aC (.lst [.fz (ns.map .int),.ref c,.int p,.int q])/\h.get c=aC (.lst (cells.map .int))/\(∀x∈cells,(0:Int)<=x)/\0<=p/\0<=q/\q<=b/\cells.length<=63
theorem Dk.mono{h:VH}{d c b b':Nat}(D:Dk h d c b)(hb:b<=b'):Dk h d c b':=by obtain⟨ne,ns,cells,p,q,a1,a2,a3,a4,a5,a6,a7⟩:=D;exact⟨ne,ns,cells,p,q,a1,a2,a3,a4,a5,by lia,a7⟩
structure bL(h h':VH)(d c:Nat):Prop where
 le:h.n<=h'.n
 get:∀i o,i≠d->i≠c->h.get i=aC o->h'.get i=aC o
theorem bL.refl{h:VH}{d c:Nat}:bL h h d c:=⟨aZ _,λ_ _ _ _ e=>e⟩
theorem bL.trans{h h1 h2:VH}{d c:Nat}(a:bL h h1 d c)(b:bL h1 h2 d c):bL h h2 d c:=⟨eS a.le b.le,λi o h1 h2 e=>b.get i o h1 h2 (a.get i o h1 h2 e)⟩
theorem LD(i:Int):(if i<0 then -i else i)=(i.natAbs:Int):=by split<;>lia
section
variable{F:Nat->Option Fn}(C:nG F)
include C
theorem cell{k:Nat}{h:VH}{ns:List Int}{j:Int}(hj:0<=j):∃r,run F (k+1) 2 [.fz (ns.map .int),.int j] h=.ok (.int r) h/\0<=r:=by
 rw[gp C.f2 rfl];cases ns with
 |nil=>
  refine⟨7*j+3,?_,by lia⟩;simp[GZ,exs,ev,pq,jv,aV,bP,DW,iN,iY,LC,gG]
 |cons n0 uz=>
  have hl:(0:Int)< ((n0::uz).length:Int):=by simp only[dj];lia
  have hm1:=AN j (show((n0::uz).length:Int)≠0 by lia);have hm2:=AM j hl;obtain⟨m,hm⟩:=rQ hm1;have hml:m< (n0::uz).length:=by lia
  have ha:eW (List.map W.int (n0::uz)) (j % ((n0::uz).length:Int))=aC (.int ((n0::uz)[m])):=by rw[hm];exact lH (by rw[dY,cM hml];rfl)
  have hb:¬(((uz.length:Int)+1)=0):=by lia
  have hp:(0:Int)< (uz.length:Int)+1:=by lia
  refine⟨(((n0::uz)[m]).natAbs:Int),?_,by lia⟩;simp only[dj,Int.natCast_add,Int.cast_ofNat_Int,fD]at ha;simp[GZ,exs,ev,pq,jv,aV,bP,DW,iN,iY,gG,cD,l9,hb,hp,ha,LD]
theorem mixed{k:Nat}{h:VH}{ns:List Int}{j m:Int}(hj:0<=j)(hj2:j<=1000000000)(hm:0<m):∃r,run F (k+2) 4 [.fz (ns.map .int),.int j,.int m] h=.ok (.int r) h/\0<=r/\r<m:=by
 rw[gp C.f4 rfl];obtain⟨c,e1,hc⟩:=cell C (k:=k) (h:=⟨h.n,h.n,h.os⟩) (ns:=ns) hj;have h1:=AN c (show(1000003:Int)≠0 by decide);have h2:=AM c (show(0:Int)<1000003 by decide);generalize hx:c % 1000003=x at h1 h2;have s1:kN (x+5)=true:=LC (by lia) (by lia);have s2:kN 7919=true:=LC (by decide) (by decide);have hb:(x+5)* (j+2)<=1000008*1000000002:=Int.mul_le_mul (by lia) (by lia) (by lia) (by lia);have hb0:0<=(x+5)* (j+2):=Int.mul_nonneg (by lia) (by lia);generalize hy:(x+5)* (j+2)=y at hb hb0;have hn:(y+7919*j).natAbs<2 ^ 64:=by lia
 refine⟨(y+7919*j) ^ 5 % 2147483647/13 % m,?_,AN _ (by lia),AM _ hm⟩;have hn':(y+7919*j).natAbs<18446744073709551616:=by lia
 simp[Lg,exs,ev,e1,iN,iY,hx,s1,s2,hy,hn',hm,gG]
theorem Um{k:Nat}{d c:Nat}{m q:Int}{ns:List Int}(hdc:d≠c)(hm:0<m)(hm2:m<1073741824):∀(n f:Nat) (g:VH) (x:Option W) (cells:List Int) (p:Int),n<f->(cells.length:Int)-p<=n->0<=p->(∀y∈cells,(0:Int)<=y)->
 g.get d=aC (.lst [.fz (ns.map .int),.ref c,.int p,.int q])->g.get c=aC (.lst (cells.map .int))->
 ∃(g':VH) (cells':List Int) (p':Int),0<=p'/\(∀y∈cells',(0:Int)<=y)/\cells'.length=cells.length/\g'.get d=aC (.lst [.fz (ns.map .int),.ref c,.int p',.int q])/\g'.get c=aC (.lst (cells'.map .int))/\g'.n=g.n/\(∀i,i≠d->i≠c->g'.get i=g.get i)/\
  ((∃r,dR (ev (run F (k+2)) DM) (exs (run F (k+2)) yG) f [aC (.ref d),aC (.int m),x] g=.ok (.rt (.int r)) g'/\0<=r/\r<m)\/∃y,dR (ev (run F (k+2)) DM) (exs (run F (k+2)) yG) f [aC (.ref d),aC (.int m),x] g=.ok (.nx [aC (.ref d),aC (.int m),y]) g')
 |n,0,g,x,cells,p,hf,_,_,_,_,_=>by lia
 |n,f+1,g,x,cells,p,hf,hn,hp,hnn,gd,gc=>by
  have ec:ev (run F (k+2)) DM [aC (.ref d),aC (.int m),x] g=.ok (.bl (decide (p<cells.length))) g:=by simp[DM,ev,cD,gd,eW,ju,pq,jv,aV,gc,bP,jW]
  by_cases hlt:p<cells.length;obtain⟨pn,rfl⟩:=rQ hp;have hpl:pn<cells.length:=by lia
  have hat:eW (cells.map W.int) (pn:Int)=aC (.int cells[pn]):=lH (by rw[dY,cM hpl];rfl);by_cases hpos:0<cells[pn];refine⟨g.set c (.lst ((cells.set pn (cells[pn]/m)).map .int)),cells.set pn (cells[pn]/m),pn,hp,?_,by simp,?_,sD gc,rfl,λi _ hi=>yS gc hi,.inl ⟨cells[pn] % m,?_,AN _ (by lia),AM _ hm⟩⟩;intro y hy;rcases Fd hy with hy|rfl
  exact hnn y hy;exact Int.ediv_nonneg (by lia) (by lia);rw[yS gc hdc];exact gd;have hix:ju (cells.map W.int).length (pn:Int)=aC pn:=by unfold ju;rw[if_pos (by lia),if_pos (by rw[bG];lia)];simp
  have eb:exs (run F (k+2)) yG [aC (.ref d),aC (.int m),x] g=.ok (.rt (.int (cells[pn] % m))) (g.set c (.lst ((cells.set pn (cells[pn]/m)).map .int))):=by have h2:eW [W.fz (ns.map .int),.ref c,.int pn,.int q] 2=aC (.int pn):=rfl;have h1:eW [W.fz (ns.map .int),.ref c,.int pn,.int q] 1=aC (.ref c):=rfl;simp[yG,exs,ev,cD,gd,h1,h2,gc,hat,bP,jW,hpos,iN,iY,hm,hm2]at hix ⊢;simp[hix,hm,List.map_set]
  simp[dR,ec,hlt,eb];have gs:(g.set d (.lst [.fz (ns.map .int),.ref c,.int ((pn:Int)+1),.int q])).get c=aC (.lst (cells.map .int)):=by rw[yS gd (eT hdc)];exact gc
  cases n with
  |zero=>lia
  |succ n=>
   obtain⟨g',cells',p',a1,a2,a3,a4,a5,a6,a7,a8⟩:=Um (k:=k) hdc hm hm2 n f (g.set d (.lst [.fz (ns.map .int),.ref c,.int ((pn:Int)+1),.int q])) (aC (.int cells[pn])) cells (pn+1) (by lia) (by lia) (by lia) hnn (sD gd) gs;have eb:exs (run F (k+2)) yG [aC (.ref d),aC (.int m),x] g=.ok (.nx [aC (.ref d),aC (.int m),aC (.int cells[pn])]) (g.set d (.lst [.fz (ns.map .int),.ref c,.int ((pn:Int)+1),.int q])):=by have h2:eW [W.fz (ns.map .int),.ref c,.int pn,.int q] 2=aC (.int pn):=rfl;have h1:eW [W.fz (ns.map .int),.ref c,.int pn,.int q] 1=aC (.ref c):=rfl;have h3:ju 4 2=aC 2:=rfl;simp[yG,exs,ev,cD,gd,h1,h2,h3,gc,hat,bP,jW,hpos,iN,iY]
   refine⟨g',cells',p',a1,a2,a3,a4,a5,a6,λi h1 h2=>by rw[a7 i h1 h2,yS gd h1],?_⟩;rcases a8 with⟨r,e,h3⟩|⟨y,e⟩
   exact .inl ⟨r,by simp[dR,ec,hlt,eb,e],h3⟩;exact .inr ⟨y,by simp[dR,ec,hlt,eb,e]⟩
  exact⟨g,cells,p,hp,hnn,rfl,gd,gc,rfl,λ_ _ _=>rfl,.inr ⟨x,by simp[dR,ec,hlt]⟩⟩
omit C in
theorem Uo{h h':VH}{w:W}(g:fL ⟨h.n,h.n,h.os⟩ h'):∃h2,leave h w h'=.ok w h2/\h.n<=h2.n/\∀i,i<h.n->h2.get i=h'.get i:=by
 unfold leave;split;rename_i q;rw[bw]at q;have hlo:=lR q.1;exact⟨h,rfl,aZ _,λi hi=>by
  rw[g.2.2 i hi (dF hi hlo)];exact cQ.symm⟩
 exact⟨_,rfl,g.1,λi hi=>cQ⟩
theorem take{k:Nat}{h:VH}{d c b:Nat}{m:Int}(D:Dk h d c b)(hb:b<1000000000)(hm:0<m)(hm2:m<1073741824):∃r h',run F (k+3) 5 [.ref d,.int m] h=.ok (.int r) h'/\0<=r/\r<m/\Dk h' d c (b+1)/\bL h h' d c:=by
 rw[gp C.f5 rfl];obtain⟨hne,ns,cells,p,q,gd,gc,hnn,hp,hq,hqb,hl⟩:=D;have gd0:VH.get ⟨h.n,h.n,h.os⟩ d=aC (.lst [.fz (ns.map .int),.ref c,.int p,.int q]):=by rw[cQ];exact gd
 have gc0:VH.get ⟨h.n,h.n,h.os⟩ c=aC (.lst (cells.map .int)):=by rw[cQ];exact gc
 obtain⟨g',cells',p',a1,a2,a3,a4,a5,a6,a7,a8⟩:=Um C (k:=k) hne hm hm2 63 fuel ⟨h.n,h.n,h.os⟩ aD cells p (by decide) (by lia) hp hnn gd0 gc0;have key:∀(g2:VH)(r:Int)(jk:List Int)(p2 q2:Int),exs (run F (k+2)) tZ.body [aC (.ref d),aC (.int m),aD] ⟨h.n,h.n,h.os⟩=.ok (.rt (.int r)) g2->0<=r->r<m->0<=p2->0<=q2->q2<=b+1->jk.length<=63->(∀y∈jk,(0:Int)<=y)->
  g2.get d=aC (.lst [.fz (ns.map .int),.ref c,.int p2,.int q2])->g2.get c=aC (.lst (jk.map .int))->(∀i,i<h.n->i≠d->i≠c->g2.get i=h.get i)->
  ∃r h',fin h (exs (run F (k+2)) tZ.body ([W.ref d,W.int m].map aC++bN (tZ.n-tZ.ps) aD) ⟨h.n,h.n,h.os⟩)=.ok (.int r) h'/\0<=r/\r<m/\Dk h' d c (b+1)/\bL h h' d c:=by
  intro g2 r jk p2 q2 e r1 r2 b1 b2 b3 b4 b5 b6 b7 b8;obtain⟨h2,e2,hn2,qI⟩:=Uo (w:=.int r) (CO (CP F (k+2)) _ _ _ _ _ e);refine⟨r,h2,?_,r1,r2,⟨hne,ns,jk,p2,q2,?_,?_,b5,b1,b2,by lia,b4⟩,⟨hn2,λi o h1 h3 e3=>?_⟩⟩;show fin h (exs (run F (k+2)) tZ.body [aC (.ref d),aC (.int m),aD] ⟨h.n,h.n,h.os⟩)=_;rw[e];exact e2;rw[qI d (bV gd)];exact b6;rw[qI c (bV gc)];exact b7;rw[qI i (bV e3),b8 i (bV e3) h1 h3];exact e3
 rcases a8 with⟨r,e,r1,r2⟩|⟨y,e⟩;refine key g' r cells' p' q ?_ r1 r2 a1 hq (by lia) (by lia) a2 a4 a5 λi hi h1 h2=>by rw[a7 i h1 h2,cQ]
 simp[tZ,exs,e];obtain⟨r,e2,r1,r2⟩:=mixed C (k:=k) (h:=g'.set d (.lst [.fz (ns.map .int),.ref c,.int p',.int (q+1)])) (ns:=ns) (j:=q+1) (m:=m) (by lia) (by lia) hm;refine key (g'.set d (.lst [.fz (ns.map .int),.ref c,.int p',.int (q+1)])) r cells' p' (q+1) ?_ r1 r2 a1 (by lia) (by lia) (by lia) a2 (sD a4) (by rw[yS a4 (eT hne)];exact a5) λi hi h1 h2=>by rw[yS a4 h1,a7 i h1 h2,cQ]
 have h3:eW [W.fz (ns.map .int),.ref c,.int p',.int q] 3=aC (.int q):=rfl;have h30:eW [W.fz (ns.map .int),.ref c,.int p',.int (q+1)] 3=aC (.int (q+1)):=rfl;have h00:eW [W.fz (ns.map .int),.ref c,.int p',.int (q+1)] 0=aC (.fz (ns.map .int)):=rfl;have h33:ju 4 3=aC 3:=rfl;have hs:=sD (o:=.lst [.fz (ns.map .int),.ref c,.int p',.int (q+1)]) a4;simp[tZ,exs,e,ev,cD,a4,h3,iN,iY,h33,hs,h30,h00,e2]
end
theorem bM{cl:Call}{a b:S}{ρ ρ':En}{h h':VH}(e:exs cl a ρ h=.ok (.nx ρ') h'):exs cl (.seq a b) ρ h=exs cl b ρ' h':=by simp only[exs,e,aE]
theorem gH{cl:Call}{a b:S}{ρ:En}{w:W}{h h':VH}(e:exs cl a ρ h=.ok (.rt w) h'):exs cl (.seq a b) ρ h=.ok (.rt w) h':=by simp only[exs,e,aE]
@[simp] theorem DX {cl:Call} {ρ:En} {h:VH}:exs cl .skip ρ h=.ok (.nx ρ) h:=rfl
theorem Dk.new{h:VH}{d c b:Nat}{o:VO}(D:Dk h d c b):Dk (h.new o) d c b:=by obtain⟨ne,ns,cells,p,q,a1,a2,a3⟩:=D;exact⟨ne,ns,cells,p,q,by rw[iD (bV a1)];exact a1,by rw[iD (bV a2)];exact a2,a3⟩
theorem bL.new{h h':VH}{d c:Nat}{o:VO}(K:bL h h' d c):bL h (h'.new o) d c:=⟨Fx K.le,λi o' h1 h2 e=>by
 have:=K.get i o' h1 h2 e;rw[iD (bV this)];exact this⟩
theorem Dk.lo{h:VH}{d c b l:Nat}(D:Dk h d c b):Dk ⟨h.n,l,h.os⟩ d c b:=by obtain⟨ne,ns,cells,p,q,a1,a2,a3⟩:=D;exact⟨ne,ns,cells,p,q,by rw[cQ];exact a1,by rw[cQ];exact a2,a3⟩
theorem zrn{cl:Call}{h h':VH}{d c b:Nat}{w:W}{fl:Fl}{body:S}{ρ:En}{F:Nat->Option Fn}{k:Nat}(e:exs (run F k) body ρ ⟨h.n,h.n,h.os⟩=.ok (.rt w) h')(D0:Dk h d c 0\/∃b,Dk h d c b)(D:Dk h' d c b)(K:bL ⟨h.n,h.n,h.os⟩ h' d c) :
 ∃h2,fin h (exs (run F k) body ρ ⟨h.n,h.n,h.os⟩)=.ok w h2/\Dk h2 d c b/\bL h h2 d c:=by
 obtain⟨h2,e2,hn2,qI⟩:=Uo (w:=w) (CO (CP F k) _ _ _ _ _ e);have hd:d<h.n/\c<h.n:=by rcases D0 with⟨_,ns,cells,p,q,a1,a2,_⟩|⟨b,_,ns,cells,p,q,a1,a2,_⟩<;>exact⟨bV a1,bV a2⟩
 refine⟨h2,by rw[e];exact e2,?_,⟨hn2,λi o h1 h3 e3=>?_⟩⟩;obtain⟨ne,ns,cells,p,q,a1,a2,a3⟩:=D;exact⟨ne,ns,cells,p,q,by rw[qI d hd.1];exact a1,by rw[qI c hd.2];exact a2,a3⟩;rw[qI i (bV e3)];exact K.get i o h1 h3 (by rw[cQ];exact e3)
theorem orB{cl:Call}{a b:E}{ρ:En}{h:VH}{x y:Bool}(ea:ev cl a ρ h=.ok (.bl x) h)(eb:ev cl b ρ h=.ok (.bl y) h):ev cl (.or a b) ρ h=.ok (.bl (x||y)) h:=by rw[ev,ea,aE];cases x;exact eb;rfl
noncomputable abbrev fZ:Str:=Str.ofString "."
noncomputable abbrev iy:Str:=Str.ofString "<"
noncomputable abbrev nH:Str:=Str.ofString ">"
noncomputable abbrev sX:Str:=Str.ofString "x"
noncomputable abbrev sS:Str:=Str.ofString "s"
theorem Al{cl:Call}:ev cl (.cst (.bl true))=λ_ h=>.ok (.bl true) h:=rfl
theorem pG{n:Nat}(h:n<=1000000):Nat.ble n big=true:=pR.mpr (eS h (by decide))
theorem Am{n:Nat}(h:n<=1000000):Nat.blt n big=true:=gA.mpr (AK h (by decide))
theorem Up{cl:Call}{i l:Nat}{x:E}{ρ:En}{h h1:VH}{w:W}{acc yT:List W}(lI:ρ[i]?=aC (aC (.ref l)))(g0:h.get l=aC (.lst yT))(e:ev cl x ρ h=.ok w h1)(g:h1.get l=aC (.lst acc))(hl:acc.length<=1000000) :
 ev cl (.mt .append (.var i) (.cons x .nil)) ρ h=.ok .aL (h1.set l (.lst (acc++[w]))):=by
 have hk:mh .append h (.ref l)=true:=by simp only[mh,g0]
 have hm:lG .append (.ref l) [w] h1=.ok .aL (h1.set l (.lst (acc++[w]))):=by simp only[lG,g];rw[if_pos (Am hl)]
 simp only[ev,lI,wZ,dz,aE,hk,dg,e,hm]
theorem zjl{w:W}{g:Int}(h:yR w g):∃a b:Int,w=.tup [.int a,.int b]/\0<=a/\a<g/\0<=b/\b<2:=by
 cases w<;>simp only[yR]at h<;>try(cases h;done)
 rename_i us;rcases us with _|⟨a,_|⟨b,_|_⟩⟩<;>simp at h
 obtain⟨h1,h2⟩:=h;cases a<;>simp[within]at h1;cases b<;>simp[within]at h2;exact⟨_,_,rfl,by lia,by lia,by lia,by lia⟩
theorem zo8{wd g g':Int}{f:W->W}(hf:∀w c,kq w c wd g=true->kq (f w) c wd g'):∀{ws:List W} {c:Int},dM wd g c ws->dM wd g' c (ws.map f)|[],_,_=>trivial|_::_,_,⟨h1,h2⟩=>⟨hf _ _ h1,zo8 hf h2⟩
theorem zo9{w:W}{n:Int}(h:door w n):∃(a:Int) (b:W),w=.tup [.int a,b]/\0<=a/\a<=99/\(b=.aL\/∃i:Int,b=.int i/\0<=i/\i<n):=by
 cases w<;>simp only[door]at h<;>try(cases h;done)
 rename_i us;rcases us with _|⟨a,_|⟨b,_|_⟩⟩<;>simp at h
 obtain⟨h1,h2⟩:=h;cases a<;>simp[within]at h1;unfold DV at h2;cases b<;>simp[within,eX]at h2;exact⟨_,_,rfl,h1.1,h1.2,.inl rfl⟩;exact⟨_,_,rfl,h1.1,h1.2,.inr ⟨_,rfl,by lia,by lia⟩⟩
theorem Uq{wd g:Int}{n:Nat}:∀{ws:List W} {c:Int},dM wd g c ws->ws.all (iH (n+2))=true|[],_,_=>rfl|_::_,_,⟨h1,h2⟩=>by rw[pQ,zfo h1,Uq h2];rfl
theorem zpa{B:Bd}(b:B.Ok)(n:Nat):iH (n+6) B.w=true:=by
 have h1:(B.rows.map W.tup).all (iH (n+4))=true:=by rw[iU];intro w hw;obtain⟨r,hr,rfl⟩:=iK.mp hw;exact Uq (n:=n+1) (b.r2 r hr).2
 have h2:B.fd.all (iH (n+4))=true:=by rw[iU];intro w hw;have:=b.f3 w hw;cases w<;>simp[within]at this;rfl
 have h3:B.dr.all (iH (n+4))=true:=by rw[iU];intro w hw;obtain⟨a,c,rfl,_,_,h⟩:=zo9 (b.d2 w hw);rcases h with rfl|⟨i,rfl,_⟩<;>rfl
 show(iH (n+5) (.int B.wd)&& (iH (n+5) (.int B.gr)&& (iH (n+5) (.tup (B.rows.map .tup))&& (iH (n+5) (.tup B.fd)&& (iH (n+5) (.tup B.dr)&&true)))))=true;rw[LB,LB,LB,h1,h2,h3];rfl
theorem zro{B:Bd}(b:B.Ok):iH 24 B.w=true:=zpa b 18
noncomputable def cV(w:W)(hd:Int)(ls:List Int):Option (Int×List Int×List Int):=match w with|.tup [.int g,.int s]=>aC (if ls.getD g.toNat 0=s then -1 else 1,[g],ls.set g.toNat (1-ls.getD g.toNat 0))|.str x=>if x==sS then aD else if x==sX then aC (hd,[],ls)else if x==fZ then aC (0,[],ls)else aC (if x==iy then -1 else 1,[],ls)|_=>aD
noncomputable def cY(r:List W)(c:Int):W:=(r[c.toNat]?).getD .aL
structure Fa where
 cs:List Int
 ts:List Int
 ls:List Int
 st:Bool
noncomputable def aY:List (List W)->Int->Int->List Int->Fa
 |[],_,_,ls=>⟨[],[],ls,false⟩
 |r::rs,c,hd,ls=>match cV (cY r c) hd ls with
  |none=>⟨[],[],ls,true⟩
  |some (d,t,l)=>⟨(c+d):: (aY rs (c+d) d l).cs,t++(aY rs (c+d) d l).ts,(aY rs (c+d) d l).ls,(aY rs (c+d) d l).st⟩
noncomputable def gJ:Int->List Int->Int|c,[]=>c|_,x::r=>gJ x r
noncomputable def iP(ls:List Int):Prop:=∀x∈ls,x=0\/x=1
theorem Ht{w:W}{c wd g:Int}(h:kq w c wd g):(w=.str sX/\0<c/\c<wd-1)\/(w=.str iy/\0<c)\/(w=.str nH/\c<wd-1)\/w=.str fZ\/w=.str sS\/∃a b:Nat,w=.tup [.int a,.int b]/\(a:Int)<g/\b<2/\0<c/\c<wd-1:=by
 unfold kq at h;split at h;rename_i q;rw[bw,gW,gW]at h;rw[pL]at q;rcases q with q|q
 exact .inl ⟨Ak q,h⟩;obtain⟨a,b,rfl,h1,h2,h3,h4⟩:=zjl q;obtain⟨a,rfl⟩:=rQ h1;obtain⟨b,rfl⟩:=rQ h3;exact .inr (.inr (.inr (.inr (.inr ⟨a,b,rfl,h2,by lia,h⟩))));split at h;rename_i q;exact .inr (.inl ⟨Ak q,by simpa using h⟩);split at h;rename_i q;exact .inr (.inr (.inl ⟨Ak q,by simpa using h⟩));rw[pL]at h;rcases h with q|q
 exact .inr (.inr (.inr (.inl (Ak q))));exact .inr (.inr (.inr (.inr (.inl (Ak q)))))
theorem LF{hd:Int}{ls:List Int}:cV (.str sX) hd ls=aC (hd,[],ls):=rfl
theorem LG{hd:Int}{ls:List Int}:cV (.str iy) hd ls=aC (-1,[],ls):=rfl
theorem LH{hd:Int}{ls:List Int}:cV (.str nH) hd ls=aC (1,[],ls):=rfl
theorem LI{hd:Int}{ls:List Int}:cV (.str fZ) hd ls=aC (0,[],ls):=rfl
theorem LJ{hd:Int}{ls:List Int}:cV (.str sS) hd ls=aD:=rfl
theorem LK{hd:Int}{ls:List Int}{a b:Nat}:cV (.tup [.int a,.int b]) hd ls=aC (if ls.getD a 0=b then -1 else 1,[(a:Int)],ls.set a (1-ls.getD a 0)):=rfl
theorem zrp{ls:List Int}(h:iP ls)(a:Nat):ls.getD a 0=0\/ls.getD a 0=1:=by
 rw[nQ];cases q:ls[a]? with|none=>exact .inl rfl|some x=>exact h x (mP q)
theorem Ur{w:W}{c wd g hd:Int}{ls:List Int}(h:kq w c wd g)(c0:0<=c)(c1:c<wd)(h1:-1<=hd)(h2:hd<=1)(b:iP ls){d:Int}{t l:List Int}(e:cV w hd ls=aC (d,t,l)):-1<=d/\d<=1/\0<=c+d/\c+d<wd/\l.length=ls.length/\iP l/\t.length<=1:=by rcases Ht h with⟨rfl,h3,h4⟩|⟨rfl,h3⟩|⟨rfl,h3⟩|rfl|rfl|⟨p,q,rfl,h3,h4,h5,h6⟩;rw[LF]at e;cases e;exact⟨h1,h2,by lia,by lia,rfl,b,by simp⟩;rw[LG]at e;cases e;exact⟨by lia,by lia,by lia,by lia,rfl,b,by simp⟩;rw[LH]at e;cases e;exact⟨by lia,by lia,by lia,by lia,rfl,b,by simp⟩;rw[LI]at e;cases e;exact⟨by lia,by lia,by lia,by lia,rfl,b,by simp⟩;rw[LJ]at e;cases e;rw[LK]at e;cases e;refine⟨by split<;>lia,by split<;>lia,by split<;>lia,by split<;>lia,by simp,λx hx=>?_,by simp⟩;rcases Fd hx with hx|rfl;exact b x hx;rcases zrp b p with q|q<;>rw[q]<;>lia
noncomputable def An(wd g:Int)(rs:List (List W)):Prop:=∀r∈rs,(r.length:Int)=wd/\dM wd g 0 r
theorem LM{wd g:Int}:∀{ws:List W} {c:Int} (i:Nat) {w:W},dM wd g c ws->ws[i]?=aC w->kq w (c+i) wd g=true
 |[],_,_,_,_,e=>by simp at e
 |x::r,c,0,w,⟨h1,h2⟩,e=>by
  simp at e;subst e;simpa using h1
 |x::r,c,i+1,w,⟨h1,h2⟩,e=>by
  have:=LM i h2 (by simpa using e);rw[show c+ ((i+1:Nat):Int)=c+1+i by push_cast;lia];exact this
theorem Hu{wd g c:Int}{r:List W}(h:(r.length:Int)=wd/\dM wd g 0 r)(c0:0<=c)(c1:c<wd):r[c.toNat]?=aC (cY r c)/\kq (cY r c) c wd g=true:=by
 obtain⟨n,rfl⟩:=rQ c0;have hn:n<r.length:=by lia
 have e:r[n]?=aC r[n]:=cM hn;have e2:cY r n=r[n]:=by unfold cY;rw[vcs,e];rfl
 rw[e2,vcs];refine⟨e,?_⟩;have:=LM n h.2 e;simpa using this
structure Fa.Ok(q:Fa)(wd:Int)(c:Int)(m n:Nat):Prop where
 l1:q.ls.length=n
 l2:iP q.ls
 c1:∀x∈q.cs,0<=x/\x<wd
 c2:q.cs.length<=m
 c3:q.st=false->q.cs.length=m
 c5:q.st=true->q.cs.length<m
 c4:0<=gJ c q.cs/\gJ c q.cs<wd
 t1:q.ts.length<=m
theorem Us{wd g:Int}:∀(rs:List (List W)) (c hd:Int) (ls:List Int),An wd g rs->0<=c->c<wd->-1<=hd->hd<=1->iP ls->(aY rs c hd ls).Ok wd c rs.length ls.length
 |[],c,hd,ls,_,c0,c1,_,_,b=>⟨rfl,b,by simp[aY],by simp[aY],by simp[aY],by simp[aY],⟨c0,c1⟩,by simp[aY]⟩
 |r::rs,c,hd,ls,ok,c0,c1,h1,h2,b=>by
  obtain⟨_,hm⟩:=Hu (ok r gj) c0 c1;unfold aY;cases e:cV (cY r c) hd ls with
  |none=>exact⟨rfl,b,by simp,by simp,by simp,by simp,⟨c0,c1⟩,by simp⟩
  |some q=>
   obtain⟨d,t,l⟩:=q;obtain⟨a1,a2,a3,a4,a5,a6,a7⟩:=Ur hm c0 c1 h1 h2 b e;have ih:=Us rs (c+d) d l (λr hr=>ok r (fS _ hr)) a3 a4 a1 a2 a6;refine⟨ih.l1.trans a5,ih.l2,λx hx=>?_,?_,λh=>?_,λh=>?_,ih.c4,?_⟩;rcases eO.mp hx with rfl|hx;exact⟨a3,a4⟩;exact ih.c1 x hx;simp only[dj];have:=ih.c2;lia;simp only[dj];have:=ih.c3 h;lia;simp only[dj];have:=ih.c5 h;lia;simp only[dj,fC];have:=ih.t1;lia
theorem zpf{r:List W}{rs:List (List W)}{c hd:Int}{ls:List Int}(e:cV (cY r c) hd ls=aD):aY (r::rs) c hd ls=⟨[],[],ls,true⟩:=by unfold aY;rw[e]
theorem zpg{r:List W}{rs:List (List W)}{c hd d:Int}{ls t l:List Int}(e:cV (cY r c) hd ls=aC (d,t,l)):aY (r::rs) c hd ls=⟨(c+d):: (aY rs (c+d) d l).cs,t++(aY rs (c+d) d l).ts,(aY rs (c+d) d l).ls,(aY rs (c+d) d l).st⟩:=by rw[aY,e]
noncomputable def st3(h:VH)(gs:List VO)(c t l:List W):VH:=⟨h.n+3+gs.length,h.n,gs++(.lst l :: .lst t :: .lst c::h.os)⟩
theorem yU{h:VH}{gs:List VO}{c t l:List W}:(st3 h gs c t l).get h.n=aC (.lst c):=by unfold st3 VH.get;rw[if_pos (gA.mpr (by show h.n<h.n+3+gs.length;lia))];show(gs++(.lst l :: .lst t :: .lst c::h.os))[h.n+3+gs.length-1-h.n]?=_;rw[oX (by lia),show h.n+3+gs.length-1-h.n-gs.length=2 by lia];rfl
theorem yV{h:VH}{gs:List VO}{c t l:List W}:(st3 h gs c t l).get (h.n+1)=aC (.lst t):=by unfold st3 VH.get;rw[if_pos (gA.mpr (by show h.n+1<h.n+3+gs.length;lia))];show(gs++(.lst l :: .lst t :: .lst c::h.os))[h.n+3+gs.length-1- (h.n+1)]?=_;rw[oX (by lia),show h.n+3+gs.length-1- (h.n+1)-gs.length=1 by lia];rfl
theorem DY{h:VH}{gs:List VO}{c t l:List W}:(st3 h gs c t l).get (h.n+2)=aC (.lst l):=by unfold st3 VH.get;rw[if_pos (gA.mpr (by show h.n+2<h.n+3+gs.length;lia))];show(gs++(.lst l :: .lst t :: .lst c::h.os))[h.n+3+gs.length-1- (h.n+2)]?=_;rw[oX (by lia),show h.n+3+gs.length-1- (h.n+2)-gs.length=0 by lia];rfl
theorem LN{a b:Nat}(h:b<=a):Nat.blt a b=false:=by
 cases q:Nat.blt a b with|false=>rfl|true=>have:=gA.mp q;lia
theorem zvj{h:VH}{gs:List VO}{c t l c':List W}:(st3 h gs c t l).set h.n (.lst c')=st3 h gs c' t l:=by unfold st3 VH.set;simp only[LN (aZ h.n)];rw[List.set_append_right _ _ (by lia),show h.n+3+gs.length-1-h.n-gs.length=2 by lia];rfl
theorem zvk{h:VH}{gs:List VO}{c t l t':List W}:(st3 h gs c t l).set (h.n+1) (.lst t')=st3 h gs c t' l:=by unfold st3 VH.set;simp only[LN (o8 h.n)];rw[List.set_append_right _ _ (by lia),show h.n+3+gs.length-1- (h.n+1)-gs.length=1 by lia];rfl
theorem eqS{h:VH}{x y:Str}(hx:PyData.strOk x)(hy:PyData.strOk y):dW h (.str x) (.str y)=aC (x==y):=by rw[zvi (x:=y) (by exact hx) hy];rfl
theorem iQ{h:VH}{x y:Str}{b:Bool}(e:(PyData.strOk x&&PyData.strOk y&& ((x==y)==b))):dW h (.str x) (.str y)=aC b:=by simp only[bw,lC]at e;rw[eqS e.1.1 e.1.2,e.2]
@[simp] theorem LO {h:VH}:dW h (.str sX) (.str (cg "x"))=aC true:=iQ (by decide +kernel)
@[simp] theorem Hv {h:VH}:dW h (.str sX) (.str (cg "<"))=aC false:=iQ (by decide +kernel)
@[simp] theorem Hw {h:VH}:dW h (.str sX) (.str (cg ">"))=aC false:=iQ (by decide +kernel)
@[simp] theorem DZ {h:VH}:dW h (.str sX) (.str (cg "."))=aC false:=iQ (by decide +kernel)
@[simp] theorem LP {h:VH}:dW h (.str sX) (.str (cg "s"))=aC false:=iQ (by decide +kernel)
@[simp] theorem Hy {h:VH}:dW h (.str iy) (.str (cg "x"))=aC false:=iQ (by decide +kernel)
@[simp] theorem D7 {h:VH}:dW h (.str iy) (.str (cg "<"))=aC true:=iQ (by decide +kernel)
@[simp] theorem D8 {h:VH}:dW h (.str iy) (.str (cg ">"))=aC false:=iQ (by decide +kernel)
@[simp] theorem Ao {h:VH}:dW h (.str iy) (.str (cg "."))=aC false:=iQ (by decide +kernel)
@[simp] theorem Hz {h:VH}:dW h (.str iy) (.str (cg "s"))=aC false:=iQ (by decide +kernel)
@[simp] theorem HA {h:VH}:dW h (.str nH) (.str (cg "x"))=aC false:=iQ (by decide +kernel)
@[simp] theorem D9 {h:VH}:dW h (.str nH) (.str (cg "<"))=aC false:=iQ (by decide +kernel)
@[simp] theorem Ea {h:VH}:dW h (.str nH) (.str (cg ">"))=aC true:=iQ (by decide +kernel)
@[simp] theorem Aq {h:VH}:dW h (.str nH) (.str (cg "."))=aC false:=iQ (by decide +kernel)
@[simp] theorem HB {h:VH}:dW h (.str nH) (.str (cg "s"))=aC false:=iQ (by decide +kernel)
@[simp] theorem Eb {h:VH}:dW h (.str fZ) (.str (cg "x"))=aC false:=iQ (by decide +kernel)
@[simp] theorem Ar {h:VH}:dW h (.str fZ) (.str (cg "<"))=aC false:=iQ (by decide +kernel)
@[simp] theorem As {h:VH}:dW h (.str fZ) (.str (cg ">"))=aC false:=iQ (by decide +kernel)
@[simp] theorem yW {h:VH}:dW h (.str fZ) (.str (cg "."))=aC true:=iQ (by decide +kernel)
@[simp] theorem Ec {h:VH}:dW h (.str fZ) (.str (cg "s"))=aC false:=iQ (by decide +kernel)
@[simp] theorem LQ {h:VH}:dW h (.str sS) (.str (cg "x"))=aC false:=iQ (by decide +kernel)
@[simp] theorem HC {h:VH}:dW h (.str sS) (.str (cg "<"))=aC false:=iQ (by decide +kernel)
@[simp] theorem HE {h:VH}:dW h (.str sS) (.str (cg ">"))=aC false:=iQ (by decide +kernel)
@[simp] theorem Ed {h:VH}:dW h (.str sS) (.str (cg "."))=aC false:=iQ (by decide +kernel)
@[simp] theorem LR {h:VH}:dW h (.str sS) (.str (cg "s"))=aC true:=iQ (by decide +kernel)
theorem zrq{h0:VH}{gs:List VO}{c t l l':List W}{w:W}:leave (st3 h0 gs c t l) w (VH.set ⟨(st3 h0 gs c t l).n,(st3 h0 gs c t l).n,(st3 h0 gs c t l).os⟩ (h0.n+2) (.lst l'))=.ok w (st3 h0 gs c t l'):=by
 have hb:Nat.blt (h0.n+2) (h0.n+3+gs.length)=true:=gA.mpr (by lia);have hn:Nat.ble (h0.n+3+gs.length) (h0.n+2)=false:=by
  cases q:Nat.ble (h0.n+3+gs.length) (h0.n+2)with|false=>rfl|true=>have:=lR q;lia
 have hl:Nat.ble h0.n (h0.n+2)=true:=pR.mpr (by lia);unfold leave VH.set st3;simp only[hb,dg,hn,Ay,hl];rw[if_neg (by simp),List.set_append_right _ _ (by lia),show h0.n+3+gs.length-1- (h0.n+2)-gs.length=0 by lia];rfl
theorem zzo{ls:List Int}{a:Nat}(h:a<ls.length):eW (ls.map W.int) (a:Int)=aC (.int (ls.getD a 0)):=
 lH (by rw[dY,cM h,nQ,cM h];rfl)
theorem Ut{n a:Nat}(h:a<n):ju n (a:Int)=aC a:=by unfold ju;rw[if_pos (by lia),if_pos (by lia)];simp
theorem zmi{cl:Call}{a b:S}{ρ ρ':En}{h h':VH}(e:exs cl a ρ h=.ok (.bk ρ') h'):exs cl (.seq a b) ρ h=.ok (.bk ρ') h':=by simp only[exs,e,aE]
theorem zzp{wd g c:Int}{r:List W}(ok:(r.length:Int)=wd/\dM wd g 0 r)(c0:0<=c)(c1:c<wd):eW r c=aC (cY r c):=by have:=(Hu ok c0 c1).1;obtain⟨n,rfl⟩:=rQ c0;rw[vcs]at this;exact lH this
noncomputable def iW(ls:List Int):W:=.tup (ls.map .int)
theorem Ef{n:Nat}{ls:List Int}:W.lt n (iW ls)=true:=by
 unfold iW;rw[mH];induction ls with|nil=>simp|cons x r ih=>rw[fD,jj,ih,lt_int];rfl
theorem Bd.Ok.yX{B:Bd}(b:B.Ok){f:Nat}(hf:f<B.fd.length):∃c:Int,B.fd[f]?=aC (.int c)/\0<=c/\c<B.wd:=by
 have h:=b.f3 _ (lQ hf);have e:B.fd[f]?=aC B.fd[f]:=cM hf;generalize B.fd[f]=w at h e;cases w<;>simp only[within]at h<;>try(cases h;done)
 rename_i c;rw[bw,gW,gW]at h;exact⟨c,e,h.1,by lia⟩
noncomputable def Bd.col(B:Bd)(f:Nat):Int:=match B.fd[f]? with|some (.int c)=>c|_=>0
theorem Bd.Ok.col{B:Bd}(b:B.Ok){f:Nat}(hf:f<B.fd.length):B.fd[f]?=aC (.int (B.col f))/\0<=B.col f/\B.col f<B.wd:=by
 obtain⟨c,e,h⟩:=b.yX hf;have:B.col f=c:=by unfold Bd.col;rw[e]
 rw[this];exact⟨e,h⟩
noncomputable def Bd.eF(B:Bd)(ls:List Int)(f:Nat):Fa:=aY B.rows (B.col f) 0 ls
theorem Bd.Ok.rows{B:Bd}(b:B.Ok){ls:List Int}(hl:(ls.length:Int)=B.gr):An B.wd (ls.length:Int) B.rows:=by rw[hl];exact b.r2
theorem Bd.Ok.eF{B:Bd}(b:B.Ok){ls:List Int}{f:Nat}(hf:f<B.fd.length)(hl:(ls.length:Int)=B.gr)(bi:iP ls):(B.eF ls f).Ok B.wd (B.col f) B.rows.length ls.length:=
 Us _ _ _ _ (b.rows hl) (b.col hf).2.1 (b.col hf).2.2 (by decide) (by decide) bi
noncomputable def uA(B:Bd)(ls:List Int)(f:Nat):W:=.tup [iW (B.col f:: (B.eF ls f).cs),iW (B.eF ls f).ts,iW (B.eF ls f).ls]
theorem zvl{B:Bd}{ls:List Int}{f n:Nat}:W.lt n (uA B ls f)=true:=by unfold uA;simp[Ef]
theorem LS{cl:Call}{i l:Nat}{ρ:En}{h:VH}{ws:List W}(lI:ρ[i]?=aC (aC (.ref l)))(g:h.get l=aC (.lst ws)):ev cl (.bi .tuple (.cons (.var i) .nil)) ρ h=.ok (.tup ws) h:=by simp only[ev,lI,wZ,dz,aE,pq,xX,aV,g,lU]
theorem LU{cl:Call}{a b c:E}{ρ:En}{h:VH}{x y z:W}(ea:ev cl a ρ h=.ok x h)(eb:ev cl b ρ h=.ok y h)(ec:ev cl c ρ h=.ok z h):ev cl (.tup (.cons a (.cons b (.cons c .nil)))) ρ h=.ok (.tup [x,y,z]) h:=by rw[ev,ev,ea,aE,ev,eb,aE,ev,ec,aE,ev];rfl
theorem Uu:∀(cs:List Int) (c:Int),(c::cs)[cs.length]?=aC (gJ c cs)
 |[],c=>rfl
 |x::r,c=>by
  rw[dj,sO];exact Uu r x
theorem zvm{cs:List Int}{c:Int}:eW ((c::cs).map W.int) (-1)=aC (.int (gJ c cs)):=by
 have e:ju ((c::cs).map W.int).length (-1)=aC cs.length:=by unfold ju;rw[if_neg (by decide),bG,dj,if_pos (by lia)];congr 1;lia
 unfold eW;rw[e,zA,dY,Uu];rfl
noncomputable abbrev Kv:=List (L2.Key×W)
noncomputable def cR(w:Nat)(kvs:Kv):List W:=(List.range w).map λ(i:Nat)=>(aS kvs (.inl (i:Int))).getD (.str fZ)
noncomputable def f9:List Int->List (Int×Int×Int)|a::b::r=>(a,(a+b)/2,b)::f9 r|_=>[]
noncomputable def pH(cs:List Int)(aO:List (Int×Int×Int)):List Int:=aO.map (λf=>f.2.1)++cs.drop (2*aO.length)
noncomputable def rq(g:Int)(aO:List (Int×Int×Int)):Kv:=aO.foldl (λkv f=>bx kv (.inl f.2.1) (.tup [.int g,.int 0])) []
noncomputable def sE(s:Int)(aO:List (Int×Int×Int)):Kv:=aO.foldl (λkv f=>if f.1<f.2.1-s then bx kv (.inl (f.2.1-s)) (.str iy)else kv) []
noncomputable def we(s:Int)(aO:List (Int×Int×Int)):Kv:=aO.foldl (λkv f=>if f.2.1+s<f.2.2 then bx kv (.inl (f.2.1+s)) (.str nH)else kv) []
noncomputable def Au(kvs more:Kv):Kv:=more.foldl (λacc kv=>bx acc kv.1 kv.2) kvs
noncomputable def gap(f:Int×Int×Int):Int:=if f.2.2-f.2.1>f.2.1-f.1 then f.2.2-f.2.1 else f.2.1-f.1
noncomputable def uB:Int->List Int->Int|x,[]=>x|x,y::r=>uB (if y>x then y else x) r
noncomputable def iz:List (Int×Int×Int)->Int|[]=>0|f::r=>uB (gap f) (r.map gap)
noncomputable def Eg(w:Nat)(aO:List (Int×Int×Int))(i:Nat):List W:=cR w (Au (sE ((i:Int)+1) aO) (we ((i:Int)+1) aO))
noncomputable def Eh(w:Nat)(g:Int)(aO:List (Int×Int×Int)):List (List W):=cR w (rq g aO):: (List.range (iz aO-1).toNat).map λi=>Eg w aO i
noncomputable def jO(w:Nat):Nat->Nat->List (List Int)->List (List W)->List (List W)×List (List Int)|0,_,lanes,rows=>(rows,lanes)|n+1,g,lanes,rows=>jO w n (g+1) (List.zipWith pH lanes (lanes.map f9)) (Eh w g (lanes.map f9).flatten++rows)
noncomputable def nI(S P:Nat):List (List Int):=(List.range P).map λ(f:Nat)=>(List.range S).map λ(s:Nat)=>2* ((f:Int)*S+s)+1
noncomputable def aW(S:Nat):Nat:=if S<=1 then 0 else if S<=2 then 1 else if S<=4 then 2 else if S<=8 then 3 else 4
noncomputable def bz(S P:Nat):Nat:=2*S*P+1
noncomputable def aR(S P:Nat):List (List W):=(jO (bz S P) (aW S) 0 (nI S P) []).1
noncomputable def lq:List Int->Int|x::_=>x|[]=>0
noncomputable def aX(S P:Nat):List Int:=(jO (bz S P) (aW S) 0 (nI S P) []).2.map lq
noncomputable def aT(S P:Nat):Bd:=⟨bz S P,aW S,aR S P,(aX S P).map .int,bN (bz S P) (.tup [.int 0,.int 0])⟩
noncomputable def aP:Int->Nat->List Int|_,0=>[]|z,n+1=>z % 2::aP (z/2) n
noncomputable def iR(S f s:Nat):Int:=2* ((f:Int)*S+s)+1
noncomputable def HF(wd g:Int):Int->List W->Bool|_,[]=>true|c,w::r=>kq w c wd g&&HF wd g (c+1) r
theorem Uv{wd g:Int}:∀{c:Int} {r:List W},HF wd g c r=true->dM wd g c r
 |_,[],_=>trivial
 |c,w::r,h=>by
  simp only[HF,bw]at h;exact⟨h.1,Uv h.2⟩
noncomputable def yY:Nat->List (List Int)->Bool|0,lanes=>lanes.all λl=>!l.isEmpty|n+1,lanes=>!(lanes.map f9).flatten.isEmpty&&yY n (List.zipWith pH lanes (lanes.map f9))
noncomputable def Ei(S P:Nat):Bool:=
 (aR S P).length<=60&& (aR S P).all (λr=>r.length==bz S P&&HF (bz S P) (aW S) 0 r)
 && (aX S P).length==P&& (aX S P).all (λc=>decide (0<=c)&&decide (c<=(bz S P:Int)-1))&&yY (aW S) (nI S P)
noncomputable def j7(S P:Nat):Bool:=(List.range P).all λf=>(List.range S).all λs=>
 match aY (aR S P) ((aX S P).getD f 0) 0 (aP s (aW S))with|⟨cs,_,_,st⟩=>!st&&cs.length==(aR S P).length&&gJ ((aX S P).getD f 0) cs==iR S f s
noncomputable def Av:List (Nat×Nat):=(List.range 16).flatMap λs=>((List.range 4).filter λp=>decide ((s+1)* (p+1)<=16)).map λp=>(s+1,p+1)
theorem zrr:(Av.all λx=>Ei x.1 x.2)=true:=by decide +kernel
theorem zpp:(Av.all λx=>j7 x.1 x.2)=true:=by decide +kernel
theorem Ej{S P:Nat}(s1:1<=S)(p1:1<=P)(p4:P<=4)(sp:S*P<=16):(S,P)∈Av:=by
 have jx:S<=16:=eS (by calc S=S*1:=(Nat.mul_one S).symm
  _<=S*P:=Nat.mul_le_mul_left _ p1) sp
 refine List.mem_flatMap.mpr ⟨S-1,oY.mpr (by lia),iK.mpr ⟨P-1,List.mem_filter.mpr ⟨oY.mpr (by lia),?_⟩,?_⟩⟩;rw[Fw s1,Fw p1];exact iT sp;rw[Fw s1,Fw p1]
structure Shape(S P:Nat):Prop where
 s1:1<=S
 p1:1<=P
 p4:P<=4
 sp:S*P<=16
section
variable{S P:Nat}
theorem Shape.Ei(h:Shape S P):Ei S P=true:=iU.mp zrr _ (Ej h.s1 h.p1 h.p4 h.sp)
theorem Shape.j7(h:Shape S P):j7 S P=true:=iU.mp zpp _ (Ej h.s1 h.p1 h.p4 h.sp)
theorem Shape.jx(h:Shape S P):S<=16:=eS (by calc S=S*1:=(Nat.mul_one S).symm
 _<=S*P:=Nat.mul_le_mul_left _ h.p1) h.sp
theorem Shape.wd(h:Shape S P):bz S P<=33:=by have:=h.sp;unfold bz;rw[Nat.mul_assoc];lia
theorem wg:aW S<=4:=by unfold aW;split<;> (try split)<;> (try split)<;> (try split)<;>lia
theorem Shape.rows(h:Shape S P):An (bz S P) (aW S) (aR S P)/\(aR S P).length<=60/\(aX S P).length=P/\(∀c∈aX S P,0<=c/\c<=(bz S P:Int)-1)/\yY (aW S) (nI S P)=true:=by have q:=h.Ei;simp only[RF.Ei,bw,gW,iU,lC]at q;obtain⟨⟨⟨⟨q1,q2⟩,q3⟩,q4⟩,q5⟩:=q;refine⟨λr hr=>⟨by rw[(q2 r hr).1],Uv (q2 r hr).2⟩,q1,q3,λc hc=>?_,q5⟩;exact q4 c hc
theorem Shape.ok(h:Shape S P):(aT S P).Ok:=by
 obtain⟨r,r1,f1,f2,_⟩:=h.rows;have w:=h.wd;refine⟨?_,?_,?_,?_,r1,r,?_,?_,?_,?_,?_⟩;show(1:Int)<=(bz S P:Nat)
 unfold bz;lia;show((bz S P:Nat):Int)<=40;lia;exact FA _;have:=wg (S:=S);show((aW S:Nat):Int)<=8;lia;show 1<=((aX S P).map W.int).length;rw[bG,f1];exact h.p1;show((aX S P).map W.int).length<=4;rw[bG,f1];exact h.p4;intro f hf;obtain⟨c,hc,rfl⟩:=iK.mp hf;have:=f2 c hc;show(decide (0<=c)&&decide (c<=(bz S P:Int)-1))=true;rw[iT this.1,iT this.2];rfl;show((bN (bz S P) _).length:Int)=_;rw[wN];rfl;intro d hd;rw[Fe hd];show(within (.int 0) 0 99&&DV (.int 0) _)=true;have:1<=(aT S P).fd.length:=by show 1<=((aX S P).map W.int).length;rw[bG,f1];exact h.p1
 simp only[within,DV,bw,gW,eX];simp;lia
theorem uC:∀{z:Int} {n:Nat},(aP z n).length=n|_,0=>rfl|z,n+1=>by rw[aP,dj,uC]
theorem Ek:∀{n:Nat} {z:Int},iP (aP z n)
 |0,_=>λx h=>by cases h
 |n+1,z=>λx h=>by
  rcases eO.mp h with rfl|h;exact Int.emod_two_eq z;exact Ek x h
theorem Shape.col(h:Shape S P){f:Nat}(hf:f<P):(aT S P).col f=(aX S P).getD f 0:=by
 have l:=h.rows.2.2.1;have e:(aX S P)[f]?=aC ((aX S P)[f]'(by rw[l];exact hf)):=cM _;unfold Bd.col;show(match((aX S P).map W.int)[f]? with|some (.int c)=>c|_=>0)=_
 rw[dY,e,nQ,e];rfl
theorem Shape.eF(h:Shape S P){f s:Nat}(hf:f<P)(hs:s<S):((aT S P).eF (aP s (aW S)) f).st=false/\((aT S P).eF (aP s (aW S)) f).cs.length=(aR S P).length/\
 gJ ((aT S P).col f) ((aT S P).eF (aP s (aW S)) f).cs=iR S f s:=by
 have q:=iU.mp (iU.mp h.j7 f (oY.mpr hf)) s (oY.mpr hs);unfold Bd.eF;rw[h.col hf];show(aY (aR S P) ((aX S P).getD f 0) 0 (aP s (aW S))).st=false/\(aY (aR S P) ((aX S P).getD f 0) 0 (aP s (aW S))).cs.length=_/\gJ _ (aY (aR S P) ((aX S P).getD f 0) 0 (aP s (aW S))).cs=_;generalize aY (aR S P) ((aX S P).getD f 0) 0 (aP s (aW S))=Fa at q;obtain⟨cs,ts,ls,st⟩:=Fa;simp only[bw,uK,lC]at q;exact⟨q.1.1,q.1.2,q.2⟩
end
theorem Uw{k k':L2.Key}{w:W}:∀{kv:Kv},aS (kv.map λx=>if x.1=k then(x.1,w)else x) k'=if k'=k then(if(kv.any λx=>decide (x.1=k))=true then aC w else aD)else aS kv k'
 |[]=>by simp[aS]
 |x::r=>by
  have ih:=Uw (k:=k) (k':=k') (w:=w) (kv:=r);unfold aS at ih ⊢;rw[fD,pP,pP,vec];by_cases e:x.1=k;by_cases e':k'=k;subst e';simp[e];have:¬x.1=k':=λq=>e' (by rw[<-q,e]);rw[if_neg e']at ih;simp[e,e',this];simp at ih;have h2:¬k=k':=λq=>e' q.symm;simpa[e,h2]using ih;by_cases e':k'=k;subst e';have e3:decide (x.1=k')=false:=jt e;rw[e3,Bool.false_or,if_neg e];rw[if_pos rfl]at ih ⊢;rw[<-ih];simp only[e3];rw[if_neg e']at ih;by_cases e2:x.1=k';simp[e,e2,e'];simp[e,e2,e'];simpa using ih
theorem zrs{k k':L2.Key}{w:W}{kv:Kv}(h:¬(kv.any λx=>decide (x.1=k))):aS (kv++[(k,w)]) k'=if k'=k then aC w else aS kv k':=by
 unfold aS;rw[List.find?_append];by_cases e:k'=k;subst e;have:kv.find? (λx=>decide (x.1=k'))=aD:=by rw[List.find?_eq_none];intro x hx q;exact h (List.any_eq_true.mpr ⟨x,hx,q⟩)
 rw[this];simp;have h2:¬k=k':=λq=>e q.symm;rw[if_neg e];simp[h2]
theorem LV{k k':L2.Key}{w:W}{kv:Kv}:aS (bx kv k w) k'=if k'=k then aC w else aS kv k':=by unfold bx;split;rename_i h;rw[Uw,if_pos h];rename_i h;exact zrs h
theorem LW{k:L2.Key}{w:W}{kv:Kv}:(bx kv k w).length<=kv.length+1:=by unfold bx;split;rw[bG];exact o8 _;rw[fC];exact aZ _
structure Ev where
 c:Int
 n:Int
 b:List Int
 t:List Int
noncomputable def bQ(g:Nat)(kv:Kv)(e:Ev):Kv:=if e.b.getD g 0=e.t.getD g 0 then kv else bx kv (.inl e.c) (.tup [.int g,.int (1-e.b.getD g 0)])
noncomputable def fB(g:Nat)(es:List Ev):Kv:=es.foldl (bQ g) []
noncomputable def dB(d:List W)(e:Ev):List W:=d.set e.c.toNat (.tup [.int e.n,.int 0])
theorem Ux{g:Nat}{kv:Kv}{e:Ev}{c:Int}(h:e.c≠c):aS (bQ g kv e) (.inl c)=aS kv (.inl c):=by unfold bQ;split;rfl;rw[LV,if_neg];intro q;exact h (FJ q).symm
theorem LX{g:Nat}{c:Int}:∀{es:List Ev} {kv:Kv},(∀e∈es,e.c≠c)->aS (es.foldl (bQ g) kv) (.inl c)=aS kv (.inl c)
 |[],_,_=>rfl
 |e::r,kv,h=>by
  rw[mQ,LX λx hx=>h x (fS _ hx),Ux (h e gj)]
theorem Uy{g:Nat}{e:Ev}:∀{es:List Ev} {kv:Kv},e∈es->(es.map Ev.c).Nodup->aS kv (.inl e.c)=aD->aS (es.foldl (bQ g) kv) (.inl e.c)=if e.b.getD g 0=e.t.getD g 0 then aD else aC (.tup [.int g,.int (1-e.b.getD g 0)])
 |x::r,kv,h,nd,q=>by
  rw[fD,wV]at nd;rw[mQ];rcases eO.mp h with rfl|h
  rw[LX λy hy q=>nd.1 (iK.mpr ⟨y,hy,q⟩)];unfold bQ;split;exact q;rw[LV,if_pos rfl];have:x.c≠e.c:=λq=>nd.1 (iK.mpr ⟨e,h,q.symm⟩);exact Uy h nd.2 (by rw[Ux this];exact q)
theorem LY:∀{es:List Ev} {d:List W},(es.foldl dB d).length=d.length|[],_=>rfl|e::r,d=>by rw[mQ,LY,dB,wW]
noncomputable def kr(kv:Kv):Kv:=kv.foldl (λacc x=>match x.1 with|.inl i=>bx acc (.inl (i+1)) (.str iy)|.inr _=>acc) []
noncomputable def keyed(kv:Kv)(c:Int):Bool:=kv.any λx=>decide (x.1=.inl c)
theorem zjw{kv:Kv}{c:Int}:(aS kv (.inl c)).isSome=keyed kv c:=by unfold aS keyed;rw[Option.isSome_map,zg,List.find?_isSome,List.any_eq_true]
theorem LZ{c:Int}:∀{kv acc:Kv},aS (kv.foldl (λacc x=>match x.1 with
 |.inl i=>bx acc (.inl (i+1)) (.str iy)
 |.inr _=>acc) acc) (.inl c)=if keyed kv (c-1)=true then aC (.str iy)else aS acc (.inl c)
 |[],acc=>rfl
 |(.inl i,w)::r,acc=>by
  rw[mQ,LZ];have hk:keyed ((.inl i,w)::r) (c-1)=(decide ((.inl i:L2.Key)=.inl (c-1))||keyed r (c-1)):=rfl;rw[hk];show(if keyed r (c-1)=true then aC (W.str iy)else aS (bx acc (.inl (i+1)) (.str iy)) (.inl c))=_;rw[LV];by_cases h:keyed r (c-1)=true;simp[h];by_cases h2:i=c-1;subst h2;simp[h];have h3:¬(c=i+1):=by lia
  have h4:¬(.inl c:L2.Key)=.inl (i+1):=λq=>h3 (FJ q);have h5:¬(.inl i:L2.Key)=.inl (c-1):=λq=>h2 (FJ q);rw[if_neg h,if_neg h4];simp[h,h5]
 |(.inr s,w)::r,acc=>by
  rw[mQ,LZ];have hk:keyed ((.inr s,w)::r) (c-1)=(decide ((.inr s:L2.Key)=.inl (c-1))||keyed r (c-1)):=rfl;rw[hk];have:¬(.inr s:L2.Key)=.inl (c-1):=λq=>nomatch q
  simp[this]
theorem zrt{kv:Kv}{c:Int}:aS (kr kv) (.inl c)=if(aS kv (.inl (c-1))).isSome=true then aC (.str iy)else aD:=by unfold kr;rw[LZ,zjw];rfl
theorem zvn{kv:Kv}:(kr kv).length<=kv.length:=by
 have:∀(kv acc:Kv),(kv.foldl (λacc x=>match x.1 with
  |.inl i=>bx acc (.inl (i+1)) (.str iy)
  |.inr _=>acc) acc).length<=acc.length+kv.length:=by
  intro kv;induction kv with
  |nil=>intro acc;exact aZ _
  |cons x r ih=>
   intro acc;rw[mQ,dj];refine eS (ih _) ?_;obtain⟨k,w⟩:=x;cases k with
   |inl i=>
    have:=LW (k:=.inl (i+1)) (w:=.str iy) (kv:=acc);show(bx acc _ _).length+_<=_;lia
   |inr s=>show acc.length+_<=_;lia
 refine eS (this kv []) ?_;simp
theorem Em{w:Nat}{kv:Kv}:(cR w kv).length=w:=by unfold cR;rw[bG,wR]
theorem Uz{wd g:Int}:∀{ws:List W} {c:Int},(∀i (hi:i<ws.length),kq ws[i] (c+i) wd g=true)->dM wd g c ws
 |[],_,_=>trivial
 |x::r,c,h=>⟨by have:=h 0 (Nat.succ_pos _);rw[show c+ ((0:Nat):Int)=c from Int.add_zero c]at this;exact this,Uz λi hi=>by
  have:=h (i+1) (by simpa using hi);rw[show c+1+ (i:Int)=c+ ((i+1:Nat):Int) by push_cast;lia];simpa using this⟩
theorem UA{w:Nat}{g:Int}{kv:Kv}(h:∀c:Int,0<=c->c<w->kq ((aS kv (.inl c)).getD (.str fZ)) c w g):dM w g 0 (cR w kv):=by
 refine Uz λi hi=>?_;rw[Em]at hi;have:(cR w kv)[i]'(by rw[Em];exact hi)=(aS kv (.inl (i:Int))).getD (.str fZ):=by simp[cR]
 rw[this,Int.zero_add];exact h _ (FA _) (by lia)
structure lu(N G:Nat)(es:List Ev):Prop where
 nd:(es.map Ev.c).Nodup
 odd:∀e∈es,∃i:Nat,i<N/\e.c=2* (i:Int)+1
 bl:∀e∈es,e.b.length=G
 tl:∀e∈es,e.t.length=G
 bb:∀e∈es,iP e.b
 tb:∀e∈es,iP e.t
section
variable{N G:Nat}{es:List Ev}
theorem lu.look(h:lu N G es){e:Ev}(he:e∈es)(g:Nat):aS (fB g es) (.inl e.c)=if e.b.getD g 0=e.t.getD g 0 then aD else aC (.tup [.int g,.int (1-e.b.getD g 0)]):=Uy he h.nd rfl
theorem lu.Eo(h:lu N G es){c:Int}(hc:∀e∈es,e.c≠c)(g:Nat):aS (fB g es) (.inl c)=aD:=by unfold fB;rw[LX hc];rfl
noncomputable def cC(w:Nat)(es:List Ev)(g:Nat):List (List W):=[cR w (fB g es),cR w (kr (fB g es))]
theorem L4{c wd g:Int}:kq (.str fZ) c wd g=true:=rfl
theorem lu.yZ(h:lu N G es){w:Nat}(hw:w=2*N+1):An w G ((List.range' 0 G).flatMap (cC w es)):=by
 intro r hr;obtain⟨g,hg,hr⟩:=List.mem_flatMap.mp hr;have hg:=(Fi.mp hg).2;rcases eO.mp hr with rfl|hr
 refine⟨by rw[Em],UA λc c0 c1=>?_⟩;by_cases q:∃e∈es,e.c=c;obtain⟨e,he,rfl⟩:=q;obtain⟨i,hi,ec⟩:=h.odd e he;rw[h.look he];split;exact L4;have hb:=h.bb e he _ (lQ (show g<e.b.length by rw[h.bl e he];lia));have hb2:e.b.getD g 0=e.b[g]'(by rw[h.bl e he];lia):=by rw[nQ,cM (by rw[h.bl e he];lia)];rfl
 rw[<-hb2]at hb;have hrk:yR (.tup [.int g,.int (1-e.b.getD g 0)]) G=true:=by simp only[yR,within,bw,gW];lia
 show kq (.tup [.int g,.int (1-e.b.getD g 0)]) e.c w G=true;unfold kq;rw[hrk,E6,if_pos rfl,iT (show 0<e.c by lia),iT (show e.c< (w:Int)-1 by lia)];rfl;rw[h.Eo λe he z=>q ⟨e,he,z⟩];exact L4;rw[jE.mp hr];refine⟨by rw[Em],UA λc c0 c1=>?_⟩;rw[zrt];split;rename_i z;by_cases q:∃e∈es,e.c=c-1;obtain⟨e,he,ec⟩:=q;obtain⟨i,hi,e2⟩:=h.odd e he;show decide (0<c)=true;exact iT (by lia);rw[h.Eo λe he z=>q ⟨e,he,z⟩]at z;cases z;exact L4
noncomputable def rA(S P:Nat)(es:List Ev):List (List W):=aR S P++(List.range' 0 (aW S)).flatMap (cC (bz S P) es)
theorem UB{S P:Nat}(sh:Shape S P)(h:lu (S*P) (aW S) es):An (bz S P) (aW S) (rA S P es):=by
 intro r hr;rcases nR.mp hr with hr|hr
 exact sh.rows.1 r hr;exact h.yZ (by unfold bz;rw[Nat.mul_assoc]) r hr
end
structure za(S P:Nat)(M:List (List (Int×Int))):Prop where
 l:M.length=S
 r:∀row∈M,row.length=P
 p:∀row∈M,∀x∈row,0<=x.1/\x.1<=99/\0<=x.2/\x.2<S
noncomputable def mK(S P s f:Nat)(x:Int×Int):Ev:=⟨iR S f s,x.1,((aT S P).eF (aP s (aW S)) f).ls,aP x.2 (aW S)⟩
noncomputable def dD(S P s:Nat):Nat->List (Int×Int)->List Ev|_,[]=>[]|f,x::r=>mK S P s f x::dD S P s (f+1) r
noncomputable def bW(S P:Nat):Nat->List (List (Int×Int))->List Ev|_,[]=>[]|s,x::r=>dD S P s 0 x++bW S P (s+1) r
section
variable{S P:Nat}
theorem HG{s:Nat}{e:Ev}:∀{f:Nat} {row:List (Int×Int)},e∈dD S P s f row->∃i x,row[i]?=aC x/\e=mK S P s (f+i) x
 |f,x::r,h=>by
  rcases eO.mp h with rfl|h;exact⟨0,x,rfl,rfl⟩;obtain⟨i,y,h1,h2⟩:=HG h;exact⟨i+1,y,h1,by rw[h2,show f+1+i=f+ (i+1) by lia]⟩
theorem HH{e:Ev}:∀{s:Nat} {M:List (List (Int×Int))},e∈bW S P s M->∃j i row x,M[j]?=aC row/\row[i]?=aC x/\e=mK S P (s+j) i x
 |s,row::M,h=>by
  rcases nR.mp h with h|h;obtain⟨i,x,h1,h2⟩:=HG h;exact⟨0,i,row,x,rfl,h1,by rw[h2,kC];rfl⟩;obtain⟨j,i,L5,x,h0,h1,h2⟩:=HH h;exact⟨j+1,i,L5,x,h0,h1,by rw[h2,show s+1+j=s+ (j+1) by lia]⟩
theorem UC{f f' s s':Nat}(h:s<S)(h':s'<S)(e:iR S f s=iR S f' s'):f=f'/\s=s':=by
 unfold iR at e;have e2:S*f+s=S*f'+s':=by
  have:((S*f+s:Nat):Int)=((S*f'+s':Nat):Int):=by push_cast;rw[FD (S:Int) f,FD (S:Int) f'];lia
  lia
 have a:(S*f+s) % S=s:=by rw[Nat.mul_add_mod,Nat.mod_eq_of_lt h]
 have b:(S*f'+s') % S=s':=by rw[Nat.mul_add_mod,Nat.mod_eq_of_lt h']
 have es:s=s':=by rw[<-a,e2,b]
 subst es;refine⟨?_,rfl⟩;have:S*f=S*f':=by lia
 exact Nat.eq_of_mul_eq_mul_left (by lia) this
theorem UD{s:Nat}(hs:s<S):∀{f:Nat} {row:List (Int×Int)},((dD S P s f row).map Ev.c).Nodup
 |_,[]=>List.nodup_nil
 |f,x::r=>by
  rw[dD,fD,wV];refine⟨λh=>?_,UD hs⟩;obtain⟨e,he,ec⟩:=iK.mp h;obtain⟨i,y,h1,rfl⟩:=HG he;have:=(UC hs hs ec).1;lia
theorem UE:∀{s:Nat} {M:List (List (Int×Int))},s+M.length<=S->((bW S P s M).map Ev.c).Nodup
 |_,[],_=>List.nodup_nil
 |s,row::M,h=>by
  rw[dj]at h;rw[bW,gu,List.nodup_append];refine⟨UD (by lia),UE (by lia),λa ha b hb ab=>?_⟩;obtain⟨e,he,rfl⟩:=iK.mp ha;obtain⟨e2,Js,rfl⟩:=iK.mp hb;obtain⟨i,y,h1,rfl⟩:=HG he;obtain⟨j,i2,r2,y2,h2,h3,rfl⟩:=HH Js;have hj:j<M.length:=(gZ.mp h2).1;have:=(UC (by lia) (by lia) ab).2;lia
theorem UG{M:List (List (Int×Int))}(sh:Shape S P)(m:za S P M):lu (S*P) (aW S) (bW S P 0 M):=by
 have key:∀e∈bW S P 0 M,∃s f x,s<S/\f<P/\e=mK S P s f x:=λe he=>by
  obtain⟨j,i,row,x,h1,h2,h3⟩:=HH he;have hj:=(gZ.mp h1).1;have hi:=(gZ.mp h2).1;rw[m.l]at hj;rw[m.r row (mP h1)]at hi;exact⟨j,i,x,hj,hi,by rw[h3,kC]⟩
 have UH:∀s f,s<S->f<P->((aT S P).eF (aP s (aW S)) f).ls.length=aW S/\iP ((aT S P).eF (aP s (aW S)) f).ls:=λs f hs hf=>by
  have hf':f< (aT S P).fd.length:=by show f< ((aX S P).map W.int).length;rw[bG,sh.rows.2.2.1];exact hf
  have q:=sh.ok.eF (ls:=aP s (aW S)) (f:=f) hf' (by rw[uC];rfl) Ek;exact⟨by rw[q.l1,uC],q.l2⟩
 refine⟨UE (by rw[m.l];lia),λe he=>?_,λe he=>?_,λe he=>?_,λe he=>?_,λe he=>?_⟩;obtain⟨s,f,x,hs,hf,rfl⟩:=key e he;refine⟨f*S+s,?_,?_⟩;calc f*S+s<f*S+S:=by lia
  _=(f+1)*S:=by rw[Nat.add_mul,Nat.one_mul]
  _<=P*S:=Nat.mul_le_mul_right _ hf
  _=S*P:=Nat.mul_comm _ _
 show iR S f s=_;unfold iR
 push_cast;rfl;obtain⟨s,f,x,hs,hf,rfl⟩:=key e he;exact(UH s f hs hf).1;obtain⟨s,f,x,hs,hf,rfl⟩:=key e he;exact uC;obtain⟨s,f,x,hs,hf,rfl⟩:=key e he;exact(UH s f hs hf).2;obtain⟨s,f,x,hs,hf,rfl⟩:=key e he;exact Ek
noncomputable def nJ(S P:Nat)(M:List (List (Int×Int))):List W:=(bW S P 0 M).foldl dB (bN (bz S P) (.tup [.int 0,.int 0]))
noncomputable def ly(S P:Nat)(M:List (List (Int×Int))):Bd:=⟨bz S P,aW S,rA S P (bW S P 0 M),(aX S P).map .int,nJ S P M⟩
end
structure iA(F:Nat->Option Fn):Prop where
 L6:F 173=aC fm
 L7:F 174=aC nB
theorem wj{cl:Call}{i:Nat}{ρ:En}{h:VH}{x:W}(e:ρ[i]?=aC (aC x)):ev cl (.var i) ρ h=.ok x h:=by rw[ev,e];rfl
theorem Ep{cl:Call}{a b:E}{ρ:En}{h h1 h2:VH}{x y z:W}(ea:ev cl a ρ h=.ok x h1)(eb:ev cl b ρ h1=.ok y h2)(e:cD h2 x y=aC z):ev cl (.idx a b) ρ h=.ok z h2:=by rw[ev,ea,aE,eb,aE,e];rfl
theorem Es{cl:Call}{i:Nat}{a:E}{ρ:En}{h h1:VH}{x:W}(ea:ev cl a ρ h=.ok x h1):exs cl (.set i a) ρ h=.ok (.nx (ρ.set i (aC x))) h1:=by rw[exs,ea];rfl
theorem L8{h:VH}{x:W}{r:List W}:cD h (.tup (x::r)) (.int 0)=aC x:=lH (j:=0) (xs:=x::r) rfl
theorem Ma{h:VH}{i:Int}:dW h (.int i) .aL=aC false:=rfl
section
variable{F:Nat->Option Fn}(C:iA F)
include C
theorem zru{k:Nat}{h0:VH}{gs:List VO}{cs ts:List W}{ls:List Int}{w:W}{c wd hd:Int}(hm:kq w c wd (ls.length:Int)) :
 run F (k+1) 173 [w,.int hd,.ref (h0.n+2),.aL] (st3 h0 gs cs ts (ls.map .int))=match cV w hd ls with
  |none=>.ok .aL (st3 h0 gs cs ts (ls.map .int))
  |some (d,_,l)=>.ok (.int d) (st3 h0 gs cs ts (l.map .int)):=by
 rw[gp C.L6 rfl];rcases Ht hm with⟨rfl,h3,h4⟩|⟨rfl,h3⟩|⟨rfl,h3⟩|rfl|rfl|⟨p,q,rfl,h3,h4,h5,h6⟩
 rw[LF];simp[fm,exs,ev,bP,gG];rw[LG];simp[fm,exs,ev,bP,gG];rw[LH];simp[fm,exs,ev,bP,gG];rw[LI];simp[fm,exs,ev,bP,gG];rw[LJ];simp[fm,exs,ev,bP,gG];rw[LK];have hp:p<ls.length:=by lia
 have e1:=zzo hp;have g:VH.get ⟨(st3 h0 gs cs ts (ls.map .int)).n,(st3 h0 gs cs ts (ls.map .int)).n,(st3 h0 gs cs ts (ls.map .int)).os⟩ (h0.n+2)=aC (.lst (ls.map .int)):=by rw[cQ];exact DY
 have e2:ju (ls.map W.int).length (p:Int)=aC p:=Ut (by rw[bG];exact hp);have e3:exs (run F k) fm.body [aC (.tup [.int p,.int q]),aC (.int hd),aC (.ref (h0.n+2)),aC .aL,aD,aD,aD] ⟨(st3 h0 gs cs ts (ls.map .int)).n,(st3 h0 gs cs ts (ls.map .int)).n,(st3 h0 gs cs ts (ls.map .int)).os⟩=.ok (.rt (.int (if ls.getD p 0=q then -1 else 1))) (VH.set ⟨(st3 h0 gs cs ts (ls.map .int)).n,(st3 h0 gs cs ts (ls.map .int)).n,(st3 h0 gs cs ts (ls.map .int)).os⟩ (h0.n+2) (.lst ((ls.set p (1-ls.getD p 0)).map .int))):=by
  rw[List.map_set];generalize ls.getD p 0=y at e1 ⊢;by_cases z:y=(q:Int)
  simp only[fm,exs,ev,bK,aV,tP,wZ,sO,zq,dz,aE,nD,lU,rj,fq,wQ,uQ,cD,g,e1,iN,iY,e2,bP,DW,Ma,Bool.not_false,z,decide_true,dg];simp only[fm,exs,ev,bK,aV,tP,wZ,sO,zq,dz,aE,nD,lU,rj,fq,wQ,uQ,cD,g,e1,iN,iY,e2,bP,DW,Ma,Bool.not_false,z,decide_false,fM]
 show fin _ (exs (run F k) fm.body [aC (.tup [.int p,.int q]),aC (.int hd),aC (.ref (h0.n+2)),aC .aL,aD,aD,aD] _)=_;rw[e3];exact zrq
theorem zvo{k:Nat}{h0:VH}{b l f:W}{r:List W}{c wd hd:Int}{cs ts:List W}{ls:List Int}{y:Option W}(ok:(r.length:Int)=wd/\dM wd (ls.length:Int) 0 r)(c0:0<=c)(c1:c<wd)(hc:cs.length<=1000)(ht:ts.length<=1000) :
 exs (run F (k+1)) DP [aC b,aC l,aC f,aC .aL,aC (.int c),aC (.ref h0.n),aC (.ref (h0.n+1)),aC (.ref (h0.n+2)),aC (.int hd),aC (.tup r),y] (st3 h0 [] cs ts (ls.map .int))=match cV (cY r c) hd ls with
  |none=>.ok (.bk [aC b,aC l,aC f,aC .aL,aC (.int c),aC (.ref h0.n),aC (.ref (h0.n+1)),aC (.ref (h0.n+2)),aC .aL,aC (.tup r),aC (cY r c)]) (st3 h0 [] cs ts (ls.map .int))
  |some (d,t,l')=>.ok (.nx [aC b,aC l,aC f,aC .aL,aC (.int (c+d)),aC (.ref h0.n),aC (.ref (h0.n+1)),aC (.ref (h0.n+2)),aC (.int d),aC (.tup r),aC (cY r c)]) (st3 h0 [] (cs++[.int (c+d)]) (ts++t.map .int) (l'.map .int)):=by
 obtain⟨_,hm⟩:=Hu ok c0 c1;have e0:=zzp ok c0 c1;generalize cY r c=w at hm e0 ⊢;have e1:=zru C (k:=k) (h0:=h0) (gs:=[]) (cs:=cs) (ts:=ts) (hd:=hd) hm;unfold DP;rw[bM (ρ':=[aC b,aC l,aC f,aC .aL,aC (.int c),aC (.ref h0.n),aC (.ref (h0.n+1)),aC (.ref (h0.n+2)),aC (.int hd),aC (.tup r),aC w]) (h':=st3 h0 [] cs ts (ls.map .int)) (Es (Ep (x:=.tup r) (y:=.int c) (wj rfl) (wj rfl) e0))];have key:∀(d:Int)(l':List Int)(t:List Int),cV w hd ls=aC (d,t,l')->exs (run F (k+1)) (.seq (.ite (.and (.ou (.rW .tuple (.var 10))) (.cmp .ne (.idx (.var 10) (.cst (.int (0)))) (.var 3))) (.seq (.expr (.mt .append (.var 6) (.cons (.idx (.var 10) (.cst (.int (0)))) .nil))) .skip) .skip) (.seq (.aug 4 .add (.var 8)) (.seq (.expr (.mt .append (.var 5) (.cons (.var 4) .nil))) .skip))) [aC b,aC l,aC f,aC .aL,aC (.int c),aC (.ref h0.n),aC (.ref (h0.n+1)),aC (.ref (h0.n+2)),aC (.int d),aC (.tup r),aC w] (st3 h0 [] cs ts (l'.map .int))=.ok (.nx [aC b,aC l,aC f,aC .aL,aC (.int (c+d)),aC (.ref h0.n),aC (.ref (h0.n+1)),aC (.ref (h0.n+2)),aC (.int d),aC (.tup r),aC w]) (st3 h0 [] (cs++[.int (c+d)]) (ts++t.map .int) (l'.map .int)):=by
  intro d l' t es;have fin:∀ts':List W,exs (run F (k+1)) (.seq (.aug 4 .add (.var 8)) (.seq (.expr (.mt .append (.var 5) (.cons (.var 4) .nil))) .skip)) [aC b,aC l,aC f,aC .aL,aC (.int c),aC (.ref h0.n),aC (.ref (h0.n+1)),aC (.ref (h0.n+2)),aC (.int d),aC (.tup r),aC w] (st3 h0 [] cs ts' (l'.map .int))=.ok (.nx [aC b,aC l,aC f,aC .aL,aC (.int (c+d)),aC (.ref h0.n),aC (.ref (h0.n+1)),aC (.ref (h0.n+2)),aC (.int d),aC (.tup r),aC w]) (st3 h0 [] (cs++[.int (c+d)]) ts' (l'.map .int)):=by intro ts';rw[bM (ρ':=[aC b,aC l,aC f,aC .aL,aC (.int (c+d)),aC (.ref h0.n),aC (.ref (h0.n+1)),aC (.ref (h0.n+2)),aC (.int d),aC (.tup r),aC w]) (h':=st3 h0 [] cs ts' (l'.map .int)) rfl];have ea:=Up (cl:=run F (k+1)) (i:=5) (l:=h0.n) (x:=.var 4) (ρ:=[aC b,aC l,aC f,aC .aL,aC (.int (c+d)),aC (.ref h0.n),aC (.ref (h0.n+1)),aC (.ref (h0.n+2)),aC (.int d),aC (.tup r),aC w]) (h:=st3 h0 [] cs ts' (l'.map .int)) (h1:=st3 h0 [] cs ts' (l'.map .int)) (w:=.int (c+d)) (acc:=cs) (yT:=cs) rfl yU (by simp[ev]) yU (by lia);rw[zvj]at ea;simp only[exs,ea,aE]
  rcases Ht hm with⟨rfl,h3,h4⟩|⟨rfl,h3⟩|⟨rfl,h3⟩|rfl|rfl|⟨p,q,rfl,h3,h4,h5,h6⟩;rw[LF]at es;cases es;rw[bM (ρ':=[aC b,aC l,aC f,aC .aL,aC (.int c),aC (.ref h0.n),aC (.ref (h0.n+1)),aC (.ref (h0.n+2)),aC (.int hd),aC (.tup r),aC (.str sX)]) (h':=st3 h0 [] cs ts (ls.map .int)) rfl,fin];simp;rw[LG]at es;cases es;rw[bM (ρ':=[aC b,aC l,aC f,aC .aL,aC (.int c),aC (.ref h0.n),aC (.ref (h0.n+1)),aC (.ref (h0.n+2)),aC (.int (-1)),aC (.tup r),aC (.str iy)]) (h':=st3 h0 [] cs ts (ls.map .int)) rfl,fin];simp;rw[LH]at es;cases es;rw[bM (ρ':=[aC b,aC l,aC f,aC .aL,aC (.int c),aC (.ref h0.n),aC (.ref (h0.n+1)),aC (.ref (h0.n+2)),aC (.int 1),aC (.tup r),aC (.str nH)]) (h':=st3 h0 [] cs ts (ls.map .int)) rfl,fin];simp;rw[LI]at es;cases es;rw[bM (ρ':=[aC b,aC l,aC f,aC .aL,aC (.int c),aC (.ref h0.n),aC (.ref (h0.n+1)),aC (.ref (h0.n+2)),aC (.int 0),aC (.tup r),aC (.str fZ)]) (h':=st3 h0 [] cs ts (ls.map .int)) rfl,fin];simp;rw[LJ]at es;cases es;rw[LK]at es;cases es;have ea:=Up (cl:=run F (k+1)) (i:=6) (l:=h0.n+1) (x:=.idx (.var 10) (.cst (.int 0))) (ρ:=[aC b,aC l,aC f,aC .aL,aC (.int c),aC (.ref h0.n),aC (.ref (h0.n+1)),aC (.ref (h0.n+2)),aC (.int (if ls.getD p 0=q then -1 else 1)),aC (.tup r),aC (.tup [.int p,.int q])]) (h:=st3 h0 [] cs ts ((ls.set p (1-ls.getD p 0)).map .int)) (h1:=st3 h0 [] cs ts ((ls.set p (1-ls.getD p 0)).map .int)) (w:=.int p) (acc:=ts) (yT:=ts) rfl yV (by simp[ev,cD];rfl) yV (by lia);rw[zvk]at ea;have eb:exs (run F (k+1)) (.ite (.and (.ou (.rW .tuple (.var 10))) (.cmp .ne (.idx (.var 10) (.cst (.int (0)))) (.var 3))) (.seq (.expr (.mt .append (.var 6) (.cons (.idx (.var 10) (.cst (.int (0)))) .nil))) .skip) .skip) [aC b,aC l,aC f,aC .aL,aC (.int c),aC (.ref h0.n),aC (.ref (h0.n+1)),aC (.ref (h0.n+2)),aC (.int (if ls.getD p 0=q then -1 else 1)),aC (.tup r),aC (.tup [.int p,.int q])] (st3 h0 [] cs ts ((ls.set p (1-ls.getD p 0)).map .int))=.ok (.nx [aC b,aC l,aC f,aC .aL,aC (.int c),aC (.ref h0.n),aC (.ref (h0.n+1)),aC (.ref (h0.n+2)),aC (.int (if ls.getD p 0=q then -1 else 1)),aC (.tup r),aC (.tup [.int p,.int q])]) (st3 h0 [] cs (ts++[.int p]) ((ls.set p (1-ls.getD p 0)).map .int)):=by
   rw[exs];have e5:ev (run F (k+1)) (.and (.ou (.rW .tuple (.var 10))) (.cmp .ne (.idx (.var 10) (.cst (.int (0)))) (.var 3))) [aC b,aC l,aC f,aC .aL,aC (.int c),aC (.ref h0.n),aC (.ref (h0.n+1)),aC (.ref (h0.n+2)),aC (.int (if ls.getD p 0=q then -1 else 1)),aC (.tup r),aC (.tup [.int p,.int q])] (st3 h0 [] cs ts ((ls.set p (1-ls.getD p 0)).map .int))=.ok (.bl true) (st3 h0 [] cs ts ((ls.set p (1-ls.getD p 0)).map .int)):=by simp[ev,L8,bP,Ma]
   rw[e5,aE];simp only[exs,ea,aE]
  rw[bM eb,fin];rfl
 cases es:cV w hd ls with
 |none=>
  rw[es]at e1;rw[bM (ρ':=[aC b,aC l,aC f,aC .aL,aC (.int c),aC (.ref h0.n),aC (.ref (h0.n+1)),aC (.ref (h0.n+2)),aC .aL,aC (.tup r),aC w]) (h':=st3 h0 [] cs ts (ls.map .int)) (by simp only[exs,ev,wZ,sO,zq,dz,aE,e1,wQ,uQ])];exact zmi rfl
 |some q=>
  obtain⟨d,t,l'⟩:=q;rw[es]at e1;rw[bM (ρ':=[aC b,aC l,aC f,aC .aL,aC (.int c),aC (.ref h0.n),aC (.ref (h0.n+1)),aC (.ref (h0.n+2)),aC (.int d),aC (.tup r),aC w]) (h':=st3 h0 [] cs ts (l'.map .int)) (by simp only[exs,ev,wZ,sO,zq,dz,aE,e1,wQ,uQ])];rw[bM (ρ':=[aC b,aC l,aC f,aC .aL,aC (.int c),aC (.ref h0.n),aC (.ref (h0.n+1)),aC (.ref (h0.n+2)),aC (.int d),aC (.tup r),aC w]) (h':=st3 h0 [] cs ts (l'.map .int)) rfl];exact key d l' t es
theorem UI{k:Nat}{h0:VH}{b l f:W}{wd:Int}:∀(rs:List (List W)) (c hd:Int) (cs ts:List W) (ls:List Int) (x y:Option W),An wd (ls.length:Int) rs->0<=c->c<wd->-1<=hd->hd<=1->iP ls->cs.length+rs.length<=1000->ts.length+rs.length<=1000->
 ∃c' hd' x' y',forL (bK (.one 9)) (exs (run F (k+1)) DP) (rs.map .tup) [aC b,aC l,aC f,aC .aL,aC (.int c),aC (.ref h0.n),aC (.ref (h0.n+1)),aC (.ref (h0.n+2)),aC (.int hd),x,y] (st3 h0 [] cs ts (ls.map .int)) =
  .ok (.nx [aC b,aC l,aC f,aC .aL,c',aC (.ref h0.n),aC (.ref (h0.n+1)),aC (.ref (h0.n+2)),hd',x',y']) (st3 h0 [] (cs++(aY rs c hd ls).cs.map .int) (ts++(aY rs c hd ls).ts.map .int) ((aY rs c hd ls).ls.map .int))
 |[],c,hd,cs,ts,ls,x,y,_,_,_,_,_,_,_,_=>⟨aC (.int c),aC (.int hd),x,y,by simp[forL,aY]⟩
 |r::rs,c,hd,cs,ts,ls,x,y,ok,c0,c1,h1,h2,bi,hc,ht=>by
  have hc':cs.length+rs.length+1<=1000:=by rw[dj]at hc;lia
  have ht':ts.length+rs.length+1<=1000:=by rw[dj]at ht;lia
  have eb:=zvo C (k:=k) (h0:=h0) (b:=b) (l:=l) (f:=f) (hd:=hd) (cs:=cs) (ts:=ts) (y:=y) (ok r gj) c0 c1 (by lia) (by lia);obtain⟨_,hm⟩:=Hu (ok r gj) c0 c1;cases e:cV (cY r c) hd ls with
  |none=>
   rw[e]at eb;rw[zpf e];refine⟨aC (.int c),aC .aL,aC (.tup r),aC (cY r c),?_⟩;simp only[fD,forL,bK,wQ,uQ,eb,aE,AJ,nS]
  |some q=>
   obtain⟨d,t,l'⟩:=q;rw[e]at eb;obtain⟨a1,a2,a3,a4,a5,a6,a7⟩:=Ur hm c0 c1 h1 h2 bi e;obtain⟨c',hd',x',y',ih⟩:=UI (k:=k) (h0:=h0) (b:=b) (l:=l) (f:=f) rs (c+d) d (cs++[.int (c+d)]) (ts++t.map .int) l' (aC (.tup r)) (aC (cY r c)) (λr hr=>by rw[a5];exact ok r (fS _ hr)) a3 a4 a1 a2 a6 (by simp only[fC,uN];lia) (by simp only[fC,bG];lia);rw[zpg e];refine⟨c',hd',x',y',?_⟩;simp only[fD,forL,bK,wQ,uQ,eb,aE,ih,gu,AI,List.singleton_append]
theorem zvp{k:Nat}{h:VH}{B:Bd}{ls:List Int}{f:Nat}(b:B.Ok)(hf:f<B.fd.length)(hl:(ls.length:Int)=B.gr)(bi:iP ls):run F (k+2) 174 [B.w,iW ls,.int f,.aL] h=.ok (uA B ls f) h:=by
 rw[gp C.L7 rfl];obtain⟨e0,c0,c1⟩:=b.col hf;have hr:=b.r1;obtain⟨c',hd',x',y',el⟩:=UI C (k:=k) (h0:=h) (b:=B.w) (l:=iW ls) (f:=.int f) B.rows (B.col f) 0 [.int (B.col f)] [] ls aD aD (b.rows hl) c0 c1 (by decide) (by decide) bi (by rw[uN];lia) (by rw[List.length_nil];lia);have e1:eW B.fd (f:Int)=aC (.int (B.col f)):=lH e0;have i3:eW [W.int B.wd,.int B.gr,.tup (B.rows.map .tup),.tup B.fd,.tup B.dr] 3=aC (.tup B.fd):=rfl;have i2:eW [W.int B.wd,.int B.gr,.tup (B.rows.map .tup),.tup B.fd,.tup B.dr] 2=aC (.tup (B.rows.map .tup)):=rfl;have hz:(B.rows.map W.tup).length<1000000:=by rw[bG];lia
 have eb:exs (run F (k+1)) nB.body [aC B.w,aC (iW ls),aC (.int f),aC .aL,aD,aD,aD,aD,aD,aD,aD] ⟨h.n,h.n,h.os⟩=.ok (.rt (uA B ls f)) (st3 h [] (([.int (B.col f)]:List W)++(aY B.rows (B.col f) 0 ls).cs.map .int) (([]:List W)++(aY B.rows (B.col f) 0 ls).ts.map .int) ((aY B.rows (B.col f) 0 ls).ls.map .int)):=by
  show exs (run F (k+1)) (.seq _ _) _ _=_;rw[bM (ρ':=[aC B.w,aC (iW ls),aC (.int f),aC .aL,aC (.int (B.col f)),aD,aD,aD,aD,aD,aD]) (h':=⟨h.n,h.n,h.os⟩) (by unfold Bd.w;simp[exs,ev,cD,i3,e1])];rw[bM (ρ':=[aC B.w,aC (iW ls),aC (.int f),aC .aL,aC (.int (B.col f)),aC (.ref h.n),aD,aD,aD,aD,aD]) (h':=VH.new ⟨h.n,h.n,h.os⟩ (.lst [.int (B.col f)])) (by simp[exs,ev])];rw[bM (ρ':=[aC B.w,aC (iW ls),aC (.int f),aC .aL,aC (.int (B.col f)),aC (.ref h.n),aC (.ref (h.n+1)),aD,aD,aD,aD]) (h':=VH.new (VH.new ⟨h.n,h.n,h.os⟩ (.lst [.int (B.col f)])) (.lst [])) (by simp[exs,ev,VH.new])];rw[bM (ρ':=[aC B.w,aC (iW ls),aC (.int f),aC .aL,aC (.int (B.col f)),aC (.ref h.n),aC (.ref (h.n+1)),aC (.ref (h.n+2)),aD,aD,aD]) (h':=st3 h [] [.int (B.col f)] [] (ls.map .int)) (by unfold iW;simp[exs,ev,VH.new,pq,kP,aV,st3])];rw[bM (ρ':=[aC B.w,aC (iW ls),aC (.int f),aC .aL,aC (.int (B.col f)),aC (.ref h.n),aC (.ref (h.n+1)),aC (.ref (h.n+2)),aC (.int 0),aD,aD]) (h':=st3 h [] [.int (B.col f)] [] (ls.map .int)) (by simp[exs,ev])];have ei:ev (run F (k+1)) (.idx (.var 0) (.cst (.int (2)))) [aC B.w,aC (iW ls),aC (.int f),aC .aL,aC (.int (B.col f)),aC (.ref h.n),aC (.ref (h.n+1)),aC (.ref (h.n+2)),aC (.int 0),aD,aD] (st3 h [] [.int (B.col f)] [] (ls.map .int))=.ok (.tup (B.rows.map .tup)) (st3 h [] [.int (B.col f)] [] (ls.map .int)):=by unfold Bd.w;simp[ev,cD,i2]
  have ef:=Ly (tg:=bK (.one 9)) (b:=exs (run F (k+1)) DP) (ρ:=[aC B.w,aC (iW ls),aC (.int f),aC .aL,aC (.int (B.col f)),aC (.ref h.n),aC (.ref (h.n+1)),aC (.ref (h.n+2)),aC (.int 0),aD,aD]) (h:=st3 h [] [.int (B.col f)] [] (ls.map .int)) hz;rw[el]at ef;refine(bM (by rw[exs,ei,aE,ef])).trans ?_;have et:=LU (cl:=run F (k+1)) (LS (i:=5) (ρ:=[aC B.w,aC (iW ls),aC (.int f),aC .aL,c',aC (.ref h.n),aC (.ref (h.n+1)),aC (.ref (h.n+2)),hd',x',y']) rfl (yU (h:=h) (gs:=[]) (c:=([.int (B.col f)]:List W)++(aY B.rows (B.col f) 0 ls).cs.map .int) (t:=([]:List W)++(aY B.rows (B.col f) 0 ls).ts.map .int) (l:=(aY B.rows (B.col f) 0 ls).ls.map .int))) (LS (i:=6) rfl yV) (LS (i:=7) rfl DY);simp only[exs,et,aE];rfl
 show fin h (exs (run F (k+1)) nB.body [aC B.w,aC (iW ls),aC (.int f),aC .aL,aD,aD,aD,aD,aD,aD,aD] ⟨h.n,h.n,h.os⟩)=_;rw[eb];exact gG (aZ _) zvl
end
theorem UJ{n:Nat}:∀{ws:List W},(∀w∈ws,W.lt n w=true)->W.ir n ws=true|[],_=>by simp|w::r,h=>by rw[jj,h w gj,UJ λw hw=>h w (fS _ hw)];rfl
section
variable{F:Nat->Option Fn}
theorem UK{m:Nat}:∀(n:Nat) (w:W),iH n w=true->W.lt m w=true
 |0,_,e=>by cases e
 |n+1,w,e=>by
  cases w<;>simp only[iH]at e<;>try(cases e;done)
  simp;simp;simp;simp;rw[mH];exact UJ λw hw=>UK n w (iU.mp e w hw)
end
section
variable{F:Nat->Option Fn}(C:nG F)
include C
theorem UL{k:Nat}:∀(ns:List Int) (x:Option W) (h:VH),∃cells:List Int,v9 (bK (.one 0)) (ev (run F k) vJ) (ev (run F k) vK) (ns.map .int) [x] h=.ok (cells.map .int) h/\(∀y∈cells,(0:Int)<=y)/\cells.length<=ns.length
 |[],x,h=>⟨[],rfl,(λy hy=>by cases hy),aZ _⟩
 |n::ns,x,h=>by
  obtain⟨cells,e,h1,h2⟩:=UL (k:=k) ns (aC (.int n)) h;have Yt:((10:Int).natAbs<2 ^ 64):=by decide
  have ec:ev (run F k) vJ [aC (.int n)] h=.ok (.bl (decide (1000000000000000000<=(n.natAbs:Int)))) h:=by simp[vJ,ev,pq,l9,iN,iY,bP,jW,LD]
  have ee:ev (run F k) vK [aC (.int n)] h=.ok (.int (n.natAbs:Int)) h:=by simp[vK,ev,pq,l9,LD]
  by_cases q:1000000000000000000<=(n.natAbs:Int)
  refine⟨(n.natAbs:Int)::cells,?_,λy hy=>?_,by rw[dj,dj];lia⟩;simp only[v9,fD,bK,List.set,ec,aE,q,decide_true,ee,e];rcases eO.mp hy with rfl|hy
  lia;exact h1 y hy;refine⟨cells,?_,h1,by rw[dj];lia⟩;simp only[v9,fD,bK,List.set,ec,aE,q,decide_false,e]
theorem Mb{k:Nat}{h:VH}{ns:List Int}(hl:ns.length<=63):∃h',run F (k+1) 3 [.fz (ns.map .int)] h=.ok (.ref (h.n+1)) h'/\Dk h' (h.n+1) h.n 0:=by
 rw[gp C.f3 rfl];obtain⟨cells,e,h1,h2⟩:=UL C (k:=k) ns aD ⟨h.n,h.n,h.os⟩;have l:=Lx (nx:=aU .seq (.fz (ns.map .int))) (tg:=bK (.one 0)) (c:=ev (run F k) vJ) (e:=ev (run F k) vK) (ws:=ns.map .int) (λi h=>rfl) fuel 0 [aD] ⟨h.n,h.n,h.os⟩ [] (lS _) (by rw[bG];unfold fuel;lia);rw[List.drop_zero,e]at l;have l:i6 (aU .seq (.fz (ns.map .int))) (bK (.one 0)) (ev (run F k) vJ) (ev (run F k) vK) fuel 0 [aD] ⟨h.n,h.n,h.os⟩ []=.ok (cells.map .int) ⟨h.n,h.n,h.os⟩:=l;have q:ev (run F k) (.lc .seq (.var 0) (.one 0) 1 [] vJ vK) [aC (.fz (ns.map .int))] ⟨h.n,h.n,h.os⟩=.ok (.ref h.n) (VH.new ⟨h.n,h.n,h.os⟩ (.lst (cells.map .int))):=by rw[ev];have:ev (run F k) (.var 0) [aC (.fz (ns.map .int))] ⟨h.n,h.n,h.os⟩=.ok (.fz (ns.map .int)) ⟨h.n,h.n,h.os⟩:=rfl;rw[this,aE];show(i6 (aU .seq (.fz (ns.map .int))) (bK (.one 0)) (ev (run F k) vJ) (ev (run F k) vK) fuel 0 [aD] ⟨h.n,h.n,h.os⟩ []).bind _=_;rw[l,aE,if_pos (pG (by rw[bG];lia))]
 let uD:VH:=VH.new ⟨h.n,h.n,h.os⟩ (.lst (cells.map .int));let o:VO:=.lst [.fz (ns.map .int),.ref h.n,.int 0,.int 0];have eb:exs (run F k) DL.body [aC (.fz (ns.map .int))] ⟨h.n,h.n,h.os⟩=.ok (.rt (.ref (h.n+1))) (uD.new o):=by simp only[DL,exs,ev,aE,dz,zq,wZ]at q ⊢;rw[q];rfl
 refine⟨⟨h.n+2,if Nat.ble h.lo h.n then h.lo else h.n,(uD.new o).os⟩,?_,?_⟩;show fin h (exs (run F k) DL.body [aC (.fz (ns.map .int))] ⟨h.n,h.n,h.os⟩)=_;rw[eb];show leave h (.ref (h.n+1)) (uD.new o)=_;unfold leave;rw[if_neg (by
  rw[bw];intro z;have:=z.2;simp only[W.lt]at this;have:=gA.mp this;lia)]
 rfl;refine⟨by lia,ns,cells,0,0,?_,?_,h1,by lia,by lia,by lia,by lia⟩;show VH.get ⟨(uD.new o).n,_,(uD.new o).os⟩ (h.n+1)=_;rw[cQ];exact dG (h:=uD);show VH.get ⟨(uD.new o).n,_,(uD.new o).os⟩ h.n=_;rw[cQ,iD (h:=uD) (by show h.n<h.n+1;lia)];exact dG (h:=⟨h.n,h.n,h.os⟩)
end
theorem eN{cl:Call}{o:Op}{a b:E}{ρ:En}{h h1 h2:VH}{x y:W}{r:Res W}(ea:ev cl a ρ h=.ok x h1)(eb:ev cl b ρ h1=.ok y h2)(e:iN o x y h2=r):ev cl (.op o a b) ρ h=r:=by rw[ev,ea,aE,eb,aE,e]
theorem dS{cl:Call}{a:E}{ρ:En}{h h1:VH}{x:W}(ea:ev cl a ρ h=.ok x h1):exs cl (.ret a) ρ h=.ok (.rt x) h1:=by rw[exs,ea,aE]
theorem cz{cl:Call}{i:Nat}{a:E}{ρ:En}{h h1:VH}{x:W}(ea:ev cl a ρ h=.ok x h1):exs cl (.set i a) ρ h=.ok (.nx (ρ.set i (aC x))) h1:=by rw[exs,ea,aE]
theorem aF{cl:Call}{i:Nat}{ρ:En}{h:VH}{x:W}(e:ρ[i]?=aC (aC x)):ev cl (.var i) ρ h=.ok x h:=by rw[ev,e];rfl
theorem gK{cl:Call}{a b:E}{ρ:En}{h h1 h2:VH}{x y z:W}(ea:ev cl a ρ h=.ok x h1)(eb:ev cl b ρ h1=.ok y h2)(e:cD h2 x y=aC z):ev cl (.idx a b) ρ h=.ok z h2:=by rw[ev,ea,aE,eb,aE,e];rfl
theorem jl{cl:Call}{a:E}{ρ:En}{h h1:VH}{x:W}{ws:List W}(ea:ev cl a ρ h=.ok x h1)(e:aV h1 x=aC ws):ev cl (.bi .len (.cons a .nil)) ρ h=.ok (.int ws.length) h1:=by rw[ev,ev,ea,aE,ev,aE];show jv [x] h1=_;simp only[jv,e,dz]
theorem wk{cl:Call}{ρ:En}{h h1 h':VH}{n:Nat}{a:E}{x w:W}(ea:ev cl a ρ h=.ok x h1)(e:cl n [x] h1=.ok w h'):ev cl (.call n (.cons a .nil)) ρ h=.ok w h':=by rw[ev,ev,ea,aE,ev];exact e
theorem lJ{cl:Call}{ρ:En}{h h1 h2 h':VH}{n:Nat}{a b:E}{x y w:W}(ea:ev cl a ρ h=.ok x h1)(eb:ev cl b ρ h1=.ok y h2)(e:cl n [x,y] h2=.ok w h'):ev cl (.call n (.cons a (.cons b .nil))) ρ h=.ok w h':=by rw[ev,ev,ea,aE,ev,eb,aE,ev];exact e
theorem uE{cl:Call}{ρ:En}{h h1 h2 h3 h':VH}{n:Nat}{a b c:E}{x y z w:W}(ea:ev cl a ρ h=.ok x h1)(eb:ev cl b ρ h1=.ok y h2)(ec:ev cl c ρ h2=.ok z h3)(e:cl n [x,y,z] h3=.ok w h'):ev cl (.call n (.cons a (.cons b (.cons c .nil)))) ρ h=.ok w h':=by rw[ev,ev,ea,aE,ev,eb,aE,ev,ec,aE,ev];exact e
theorem zzq{cl:Call}{ρ:En}{h h1 h2 h3 h4 h':VH}{n:Nat}{a b c d:E}{x y z u w:W}(ea:ev cl a ρ h=.ok x h1)(eb:ev cl b ρ h1=.ok y h2)(ec:ev cl c ρ h2=.ok z h3)(ed:ev cl d ρ h3=.ok u h4)(e:cl n [x,y,z,u] h4=.ok w h'):ev cl (.call n (.cons a (.cons b (.cons c (.cons d .nil))))) ρ h=.ok w h':=by rw[ev,ev,ea,aE,ev,eb,aE,ev,ec,aE,ev,ed,aE,ev];exact e
theorem lz{cl:Call}{a b:E}{ρ:En}{h h1 h2:VH}{x y:W}(ea:ev cl a ρ h=.ok x h1)(eb:ev cl b ρ h1=.ok y h2):ev cl (.tup (.cons a (.cons b .nil))) ρ h=.ok (.tup [x,y]) h2:=by rw[ev,ev,ea,aE,ev,eb,aE,ev];rfl
theorem Et{cl:Call}{a b c:E}{ρ:En}{h h1 h2 h3:VH}{x y z:W}(ea:ev cl a ρ h=.ok x h1)(eb:ev cl b ρ h1=.ok y h2)(ec:ev cl c ρ h2=.ok z h3):ev cl (.tup (.cons a (.cons b (.cons c .nil)))) ρ h=.ok (.tup [x,y,z]) h3:=by rw[ev,ev,ea,aE,ev,eb,aE,ev,ec,aE,ev];rfl
theorem wm{cl:Call}{a b c d e:E}{ρ:En}{h h1 h2 h3 h4 h5:VH}{x y z u v:W}(ea:ev cl a ρ h=.ok x h1)(eb:ev cl b ρ h1=.ok y h2)(ec:ev cl c ρ h2=.ok z h3)(ed:ev cl d ρ h3=.ok u h4)(ee:ev cl e ρ h4=.ok v h5):ev cl (.tup (.cons a (.cons b (.cons c (.cons d (.cons e .nil)))))) ρ h=.ok (.tup [x,y,z,u,v]) h5:=by rw[ev,ev,ea,aE,ev,eb,aE,ev,ec,aE,ev,ed,aE,ev,ee,aE,ev];rfl
theorem sF{nx:Nat->VH->Option (Option W)}{tg:W->VH->En->Option En}{b:FS}{n:Nat}{I:Nat->En->VH->Prop}
 (go:∀i ρ h,i<n->I i ρ h->∃w ez oQ h2,nx i h=aC (aC w)/\tg w h ρ=aC ez/\b ez h=.ok (.nx oQ) h2/\I (i+1) oQ h2)
 (stop:∀ρ h,I n ρ h->nx n h=aC aD) :
 ∀(m i fu:Nat)(ρ:En)(h:VH),i+m=n->m<fu->I i ρ h->∃ρ' h',eg nx tg b fu i ρ h=.ok (.nx ρ') h'/\I n ρ' h'
 |_,_,0,_,_,_,hf,_=>by lia
 |0,i,fu+1,ρ,h,hi,_,hI=>by
  obtain rfl:i=n:=by lia
  refine⟨ρ,h,?_,hI⟩;simp only[eg,stop ρ h hI]
 |m+1,i,fu+1,ρ,h,hi,hf,hI=>by
  obtain⟨w,ez,oQ,h2,e1,e2,e3,mC⟩:=go i ρ h (by lia) hI;obtain⟨ρ',h',e4,zb⟩:=sF go stop m (i+1) fu oQ h2 (by lia) (by lia) mC;refine⟨ρ',h',?_,zb⟩;simp only[eg,e1,e2,e3,aE,e4]
theorem UM{nx:Nat->VH->Option (Option W)}{tg:W->VH->En->Option En}{e:FE}{n:Nat}{I:Nat->En->VH->List W->Prop}
 (go:∀i ρ h acc,i<n->I i ρ h acc->∃w ez y h2,nx i h=aC (aC w)/\tg w h ρ=aC ez/\e ez h=.ok y h2/\I (i+1) ez h2 (acc++[y]))
 (stop:∀ρ h acc,I n ρ h acc->nx n h=aC aD) :
 ∀(m i fu:Nat)(ρ:En)(h:VH)(acc:List W),i+m=n->m<fu->I i ρ h acc->∃ys ρ' h',i6 nx tg (λ_ h=>.ok (.bl true) h) e fu i ρ h acc.reverse=.ok ys h'/\I n ρ' h' ys
 |_,_,0,_,_,_,_,hf,_=>by lia
 |0,i,fu+1,ρ,h,acc,hi,_,hI=>by
  obtain rfl:i=n:=by lia
  refine⟨acc,ρ,h,?_,hI⟩;simp only[i6,stop ρ h acc hI,List.reverse_reverse]
 |m+1,i,fu+1,ρ,h,acc,hi,hf,hI=>by
  obtain⟨w,ez,y,h2,e1,e2,e3,mC⟩:=go i ρ h acc (by lia) hI;obtain⟨ys,ρ',h',e4,zb⟩:=UM go stop m (i+1) fu ez h2 (acc++[y]) (by lia) (by lia) mC;refine⟨ys,ρ',h',?_,zb⟩;rw[List.reverse_append]at e4;simp only[i6,e1,e2,aE,e3];exact e4
theorem HJ{nx:Nat->VH->Option (Option W)}{tg:W->VH->En->Option En}{c e v:FE}{n:Nat}{I:Nat->En->VH->Kv->Prop}
 (go:∀i ρ h acc,i<n->I i ρ h acc->∃w ez t h1,nx i h=aC (aC w)/\tg w h ρ=aC ez/\c ez h=.ok (.bl t) h1/\
   ((t=true/\∃x k y h2 h3,e ez h1=.ok x h2/\v ez h2=.ok y h3/\l8 x=aC k/\Nat.blt acc.length big=true/\I (i+1) ez h3 (bx acc k y))\/(t=false/\I (i+1) ez h1 acc)))
 (stop:∀ρ h acc,I n ρ h acc->nx n h=aC aD) :
 ∀(m i fu:Nat)(ρ:En)(h:VH)(acc:Kv),i+m=n->m<fu->I i ρ h acc->∃ys ρ' h',kT nx tg c e v fu i ρ h acc=.ok ys h'/\I n ρ' h' ys
 |_,_,0,_,_,_,_,hf,_=>by lia
 |0,i,fu+1,ρ,h,acc,hi,_,hI=>by
  obtain rfl:i=n:=by lia
  refine⟨acc,ρ,h,?_,hI⟩;simp only[kT,stop ρ h acc hI]
 |m+1,i,fu+1,ρ,h,acc,hi,hf,hI=>by
  obtain⟨w,ez,t,h1,e1,e2,e3,q⟩:=go i ρ h acc (by lia) hI;rcases q with⟨rfl,x,k,y,h2,h3,e4,e5,e6,e7,mC⟩|⟨rfl,mC⟩
  .obtain⟨ys,ρ',h',e8,zb⟩:=HJ go stop m (i+1) fu ez h3 _ (by lia) (by lia) mC
   refine⟨ys,ρ',h',?_,zb⟩;simp only[kT,e1,e2,e3,aE,e4,e5,e6,e7,dg,e8]
  .obtain⟨ys,ρ',h',e8,zb⟩:=HJ go stop m (i+1) fu ez h1 _ (by lia) (by lia) mC
   refine⟨ys,ρ',h',?_,zb⟩;simp only[kT,e1,e2,e3,aE,e8]
theorem lA{nx:Nat->VH->Option (Option W)}{tg:W->VH->En->Option En}{e:FE}{n:Nat}{I:Nat->En->VH->List W->Prop}
 (go:∀i ρ h acc,i<n->I i ρ h acc->∃w ez y h2,nx i h=aC (aC w)/\tg w h ρ=aC ez/\e ez h=.ok y h2/\I (i+1) ez h2 (acc++[y]))
 (stop:∀ρ h acc,I n ρ h acc->nx n h=aC aD) {ρ:En} {h:VH} (hn:n<1000000) (hI:I 0 ρ h []):∃ys ρ' h',i6 nx tg (λ_ h=>.ok (.bl true) h) e fuel 0 ρ h []=.ok ys h'/\I n ρ' h' ys:=
 UM go stop n 0 fuel ρ h [] (kC _) hn hI
theorem jo{n i:Nat}{h:VH}(hn:n<1000000):aU .bU (.tup [.int n]) i h=aC (if i<n then aC (.int (i:Int))else aD):=by
 have hf:fits (n:Int)=true:=by unfold fits;simp;lia
 show(if fits (n:Int)then aC (if decide ((i:Int)<n)then aC (W.int (0+i))else aD)else aD)=_;rw[if_pos hf,Int.zero_add];by_cases q:i<n;rw[if_pos q,iT (by lia)];rfl;rw[if_neg q,jt (by lia)];rfl
theorem UN{h h':VH}{w:W}(hw:W.lt h.n w=false):∃h2,fin h (.ok (.rt w) h')=.ok w h2/\h2.n=h'.n/\(∀i,h2.get i=h'.get i)/\h2.lo=min h.lo h'.lo:=by refine⟨⟨h'.n,if Nat.ble h.lo h'.lo then h.lo else h'.lo,h'.os⟩,?_,rfl,λi=>rfl,?_⟩;show leave h w h'=_;unfold leave;rw[hw,E5];rfl;show(if Nat.ble h.lo h'.lo then h.lo else h'.lo)=_;by_cases q:h.lo<=h'.lo;rw[if_pos (pR.mpr q)];lia;rw[if_neg (λz=>q (pR.mp z))];lia
theorem HK{i n:Nat}(h:n<=i):W.lt n (.ref i)=false:=by show Nat.blt i n=false;rw[<-Bool.not_eq_true,gA];lia
section
variable{cl:Call}{ρ:En}{h h1 h2 h3 h':VH}{a b r:E}
theorem aH{x:W}{xs:List W}(ea:ev cl a ρ h=.ok x h1)(er:ev cl r ρ h1=.ok (.tup xs) h2):ev cl (.cons a r) ρ h=.ok (.tup (x::xs)) h2:=by rw[ev,ea,aE,er];rfl
theorem bf:ev cl .nil ρ h=.ok (.tup []) h:=by rw[ev]
theorem aQ{w:W}:ev cl (.cst w) ρ h=.ok w h:=by rw[ev]
theorem ie{ys:List W}(ea:ev cl a ρ h=.ok (.tup ys) h1)(hl:Nat.ble ys.length 1000):ev cl (.lst a) ρ h=.ok (.ref h1.n) (h1.new (.lst ys)):=by rw[ev,ea,aE];show(if Nat.ble ys.length 1000=true then _ else _)=_;rw[if_pos hl]
theorem jC{ys:List W}(ea:ev cl a ρ h=.ok (.tup ys) h1)(hl:Nat.ble ys.length 1000):ev cl (.tup a) ρ h=.ok (.tup ys) h1:=by rw[ev,ea,aE];show(if Nat.ble ys.length 1000=true then _ else _)=_;rw[if_pos hl]
theorem rD{ys:List W}{n:Nat}{w:W}(ea:ev cl a ρ h=.ok (.tup ys) h1)(e:cl n ys h1=.ok w h'):ev cl (.call n a) ρ h=.ok w h':=by rw[ev,ea,aE];exact e
theorem uF{x:W}{ws:List W}(ea:ev cl a ρ h=.ok x h1)(e:aV h1 x=aC ws):ev cl (.bi .tuple (.cons a .nil)) ρ h=.ok (.tup ws) h1:=by rw[ev,aH ea bf,aE];show xX [x] h1=_;simp only[xX,e,dz]
theorem nK{k:Kd}{t:Tg}{ow:Nat}{ix:List Nat}{x:W}{ys:List W}(ea:ev cl a ρ h=.ok x h1)(el:i6 (aU k x) (bK t) (λ_ h=>.ok (.bl true) h) (ev cl b) fuel 0 (inner ow ix ρ) h1 []=.ok ys h2)(hy:ys.length<=1000000) :
 ev cl (.lc k a t ow ix (.cst (.bl true)) b) ρ h=.ok (.ref h2.n) (h2.new (.lst ys)):=by
 rw[ev,ea,aE,Al,el,aE,if_pos (pG hy)]
theorem gM{k:Kd}{t:Tg}{x:W}{s:S}(ea:ev cl a ρ h=.ok x h1):exs cl (.«for» k a t s) ρ h=eg (aU k x) (bK t) (exs cl s) fuel 0 ρ h1:=by rw[exs,ea,aE]
end
noncomputable def Pv(w:W):Prop:=∀n,W.lt n w=true
theorem Pv.tup{ws:List W}(h:∀w∈ws,Pv w):Pv (.tup ws):=λn=>by
 rw[mH];induction ws with
 |nil=>rfl
 |cons a r ih=>
  rw[jj,h a (gj ..),ih λw hw=>h w (fS _ hw)];rfl
theorem Pv.int{i:Int}:Pv (.int i):=λ_=>lt_int
theorem Pv.str{i:Str}:Pv (.str i):=λ_=>lt_str
structure pI(F:Nat->Option Fn):Prop where
 f32:F 32=aC yH
 f33:F 33=aC t6
 f36:F 36=aC yI
 f41:F 41=aC t7
 f67:F 67=aC yJ
 f68:F 68=aC yK
 f69:F 69=aC t8
 f70:F 70=aC t9
 f71:F 71=aC uc
 f72:F 72=aC yL
 f77:F 77=aC ud
 Mc:F 187=aC nC
noncomputable def Dct(h:VH)(p:Nat)(kvs:Kv):Prop:=h.get p=aC (.dm kvs)\/h.get p=aC (.dk kvs)
section
variable{F:Nat->Option Fn}(C:pI F)
include C
theorem nM{k p n:Nat}{h:VH}{kvs:Kv}(g:Dct h p kvs)(hv:∀kv∈kvs,Pv kv.2)(hn:n<1000):run F (k+1) 33 [.int n,.ref p] h=.ok (.tup (cR n kvs)) h:=by
 have look:∀i:Int,ev (run F k) G5 [aC (.int i),aC (.ref p)] ⟨h.n,h.n,h.os⟩=.ok ((aS kvs (.inl i)).getD (.str fZ)) ⟨h.n,h.n,h.os⟩:=λi=>by
  have hk:mh .get ⟨h.n,h.n,h.os⟩ (.ref p)=true:=by rcases g with g|g<;> (have g1:VH.get ⟨h.n,h.n,h.os⟩ p=_:=g)<;>simp only[mh,g1]
  have hm:lG .get (.ref p) [.int i,.str (cg ".")] ⟨h.n,h.n,h.os⟩=.ok ((aS kvs (.inl i)).getD (.str (cg "."))) ⟨h.n,h.n,h.os⟩:=by rcases g with g|g<;> (have g1:VH.get ⟨h.n,h.n,h.os⟩ p=_:=g)<;>simp only[lG,g1,l8]
  unfold G5;rw[ev,aF (x:=.ref p) rfl,aE,if_pos hk,aH (aF (x:=.int i) rfl) (aH aQ bf),aE];exact hm
 obtain⟨ys,ρ',h',e1,hI⟩:=lA (nx:=aU .bU (.tup [.int n])) (tg:=bK (.one 0)) (e:=ev (run F k) G5) (n:=n)
  (I:=λi ρ h1 acc=>(∃x,ρ=[x,aC (.ref p)])/\h1=⟨h.n,h.n,h.os⟩/\acc=(List.range i).map λ(i:Nat)=>(aS kvs (.inl (i:Int))).getD (.str fZ))
  (λi ρ h1 acc hi hI=>by
    obtain⟨⟨x,rfl⟩,rfl,rfl⟩:=hI;refine⟨.int (i:Int),[aC (.int i),aC (.ref p)],_,_,?_,rfl,look i,⟨_,rfl⟩,rfl,?_⟩;rw[jo (by lia),if_pos hi];rw[Ft,gu];rfl)
  (λρ h1 acc hI=>by rw[jo (by lia),if_neg (g9 _)])
  (ρ:=inner 1 [1] [aC (.int n),aC (.ref p)]) (h:=⟨h.n,h.n,h.os⟩) (by lia) ⟨⟨aD,rfl⟩,rfl,rfl⟩
 obtain⟨_,rfl,rfl⟩:=hI;rw[gp C.f33 rfl];have eb:exs (run F k) t6.body [aC (.int n),aC (.ref p)] ⟨h.n,h.n,h.os⟩=.ok (.rt (.tup (cR n kvs))) (VH.new ⟨h.n,h.n,h.os⟩ (.lst (cR n kvs))):=by
  refine gH (dS (uF (nK (aH (aF (x:=.int n) rfl) bf) e1 ?_) ?_));rw[Em];lia;show(match VH.get _ _ with|some (.lst ws)=>aC ws|_=>aD)=_
  rw[dG]
 show fin h (exs (run F k) t6.body [aC (.int n),aC (.ref p)] ⟨h.n,h.n,h.os⟩)=_;rw[eb];refine gG (aZ _) (Pv.tup (λw hw=>?_) _);obtain⟨i,_,rfl⟩:=iK.mp hw;cases q:aS kvs (.inl (i:Int))with
 |none=>exact Pv.str
 |some v=>
  unfold aS at q;obtain⟨kv,q1,rfl⟩:=Option.map_eq_some_iff.mp q;exact hv kv (List.mem_of_find?_eq_some q1)
end
noncomputable def jD(kvs:Kv):Prop:=∀kv∈kvs,(∃i,kv.1=.inl i)/\Pv kv.2
theorem jD.put{kvs:Kv}{i:Int}{w:W}(h:jD kvs)(p:Pv w):jD (bx kvs (.inl i) w):=by
 unfold bx;split;intro kv hk;obtain⟨x,hx,rfl⟩:=iK.mp hk;split;exact⟨(h x hx).1,p⟩;exact h x hx;intro kv hk;rcases nR.mp hk with hk|hk
 exact h kv hk;rw[jE.mp hk];exact⟨⟨i,rfl⟩,p⟩
theorem jD.nil:jD []:=λ_ h=>by cases h
theorem jD.v{kvs:Kv}(h:jD kvs):∀kv∈kvs,Pv kv.2:=λkv hk=>(h kv hk).2
theorem zzr{kvs:Kv}:jD (kr kvs):=by
 have:∀(kv acc:Kv),jD acc->jD (kv.foldl (λacc x=>match x.1 with
  |.inl i=>bx acc (.inl (i+1)) (.str iy)
  |.inr _=>acc) acc):=by
  intro kv;induction kv with
  |nil=>intro acc h;exact h
  |cons x r ih=>
   intro acc h;rw[mQ];refine ih _ ?_;obtain⟨k,w⟩:=x;cases k with|inl i=>exact h.put Pv.str|inr s=>exact h
 exact this kvs [] .nil
theorem zrv{kvs:Kv}{i:Int}{w:W}:kr (kvs++[(.inl i,w)])=bx (kr kvs) (.inl (i+1)) (.str iy):=by unfold kr;rw[Fj];rfl
section
variable{F:Nat->Option Fn}(C:pI F)
include C
theorem zzs{k p n:Nat}{h:VH}{kvs:Kv}(g:h.get p=aC (.dm kvs))(ok:jD kvs)(hl:kvs.length<=1000)(hn:n<1000) :
 ∃i h',run F (k+2) 36 [.int n,.ref p] h=.ok (.ref i) h'/\h'.get i=aC (.lst [.tup (cR n kvs),.tup (cR n (kr kvs))])/\h.n<=i/\h.n<=h'.n/\(∀j,j<h.n->j≠p->h'.get j=h.get j)/\min h.lo p<=h'.lo:=by
 have g0:VH.get ⟨h.n,h.n,h.os⟩ p=aC (.dm kvs):=g;have hp:p<h.n:=bV g;have eA:=nM C (k:=k) (p:=p) (n:=n) (h:=⟨h.n,h.n,h.os⟩) (.inl g0) ok.v hn;generalize hk1:VH.set ⟨h.n,h.n,h.os⟩ p (.dk kvs)=k1;have g1:k1.get p=aC (.dk kvs):=by rw[<-hk1];exact sD g0
 have n1:k1.n=h.n:=by rw[<-hk1];rfl
 obtain⟨ys,ρ',h',e1,hI⟩:=HJ (nx:=aU .keys (.ref p)) (tg:=bK (.one 0)) (c:=λ_ h=>.ok (.bl true) h) (e:=ev (run F (k+1)) (.op .add (.var 0) (.cst (.int (1))))) (v:=ev (run F (k+1)) (.cst (.str iy))) (n:=kvs.length)
  (I:=λi ρ h1 acc=>(∃x,ρ=[x])/\h1=k1/\acc=kr (kvs.take i))
  (λi ρ h1 acc hi hI=>by
    obtain⟨⟨x,rfl⟩,rfl,rfl⟩:=hI;have hx:=cM hi;obtain⟨⟨j,hj⟩,_⟩:=ok _ (lQ hi);refine⟨.int j,[aC (.int j)],true,h1,?_,rfl,rfl,.inl ⟨rfl,.int (j+1),.inl (j+1),.str iy,h1,h1,?_,aQ,rfl,?_,⟨_,rfl⟩,rfl,?_⟩⟩;simp only[aU,g1,hx,hj,xZ];exact eN (aF rfl) aQ rfl;have:=zvn (kv:=kvs.take i);rw[rP]at this;exact Am (by lia);rw[pN,hx];have e5:kvs[i]=(.inl j,kvs[i].2):=by rw[<-hj]
    show _=kr (kvs.take i++[kvs[i]]);rw[e5,zrv])
  (λρ h1 acc hI=>by
    obtain⟨_,rfl,rfl⟩:=hI;simp only[aU,g1,jm (aZ _),Nat.beq_refl,dg])
  kvs.length 0 fuel [aD] k1 [] (kC _) (show _<1000000 by lia) ⟨⟨aD,rfl⟩,rfl,rfl⟩
 obtain⟨_,rfl,rfl⟩:=hI;rw[pO]at e1;have eB:=nM C (k:=k) (p:=h'.n) (n:=n) (h:=h'.new (.dm (kr kvs))) (.inl dG) zzr.v hn;have efr:ev (run F (k+1)) (.bi .bS (.cons (.var 1) .nil)) [aC (.int n),aC (.ref p)] ⟨h.n,h.n,h.os⟩=.ok (.ref p) h':=by rw[ev,aH (aF (x:=.ref p) rfl) bf,aE];show oE [.ref p] _=_;simp only[oE,g0,hk1]
 have Me:ev (run F (k+1)) (.dc .keys (.bi .bS (.cons (.var 1) .nil)) (.one 0) 1 [] (.cst (.bl true)) (.op .add (.var 0) (.cst (.int (1)))) (.cst (.str iy))) [aC (.int n),aC (.ref p)] ⟨h.n,h.n,h.os⟩=.ok (.ref h'.n) (h'.new (.dm (kr kvs))):=by rw[ev,efr,aE,Al];show((kT _ _ _ _ _ fuel 0 [aD] h' []).bind _)=_;rw[e1,aE]
 have eb:exs (run F (k+1)) yI.body [aC (.int n),aC (.ref p)] ⟨h.n,h.n,h.os⟩=.ok (.rt (.ref (h'.n+1))) ((h'.new (.dm (kr kvs))).new (.lst [.tup (cR n kvs),.tup (cR n (kr kvs))])):=
  gH (dS (ie (aH (lJ (aF rfl) (aF rfl) eA) (aH (lJ (aF rfl) Me eB) bf)) rfl))
 rw[gp C.f36 rfl];obtain⟨h2,e2,n2,G,lo2⟩:=UN (h:=h) (h':=(h'.new (.dm (kr kvs))).new (.lst [.tup (cR n kvs),.tup (cR n (kr kvs))])) (w:=.ref (h'.n+1)) (HK (by lia));refine⟨h'.n+1,h2,?_,?_,by lia,?_,λj hj hne=>?_,?_⟩;rw[<-e2];exact jQ (fin h) eb;rw[G];exact dG;rw[n2];show h.n<=h'.n+1+1;lia;rw[G,iD (show j< (h'.new (.dm (kr kvs))).n by show j<h'.n+1;lia),iD (by lia),<-hk1];exact rZ (h:=⟨h.n,h.n,h.os⟩) hp hne;rw[lo2];show _<=min h.lo h'.lo;rw[<-hk1];show _<=min h.lo (if Nat.blt p h.n then p else h.n);rw[if_pos (gA.mpr hp)];exact aZ _
end
structure Gm(h h':VH):Prop where
 le:h.n<=h'.n
 lo:min h.lo h.n<=h'.lo
 get:∀j,j<h.n->h'.get j=h.get j
theorem Gm.refl{h:VH}:Gm h h:=⟨aZ _,Nat.min_le_left _ _,λ_ _=>rfl⟩
theorem Gm.trans{a b c:VH}(x:Gm a b)(y:Gm b c):Gm a c:=⟨eS x.le y.le,by
 have:=x.lo;have:=y.lo;have:=x.le;lia,λj hj=>by rw[y.get j (dF hj x.le),x.get j hj]⟩
theorem Gm.new{h h':VH}{o:VO}(x:Gm h h'):Gm h (h'.new o):=⟨Fx x.le,x.lo,λj hj=>by rw[iD (dF hj x.le),x.get j hj]⟩
theorem Gm.set{h h':VH}{o:VO}{a:Nat}(x:Gm h h')(ha:h.n<=a)(hb:a<h'.n):Gm h (h'.set a o):=⟨x.le,by
 have:=x.lo;show _<=if Nat.blt a h'.lo then a else h'.lo
 split<;>lia,λj hj=>by rw[rZ hb (by lia),x.get j hj]⟩
theorem HL{h h':VH}{w:W}(hw:W.lt h.n w=false)(x:Gm ⟨h.n,h.n,h.os⟩ h'):∃h2,fin h (.ok (.rt w) h')=.ok w h2/\Gm h h2/\∀i,h2.get i=h'.get i:=by obtain⟨h2,e,n2,G,l2⟩:=UN (h':=h') hw;refine⟨h2,e,⟨by rw[n2];exact x.le,?_,λj hj=>by rw[G,x.get j hj];rfl⟩,G⟩;have:=x.lo;have e2:(⟨h.n,h.n,h.os⟩:VH).lo=h.n:=rfl;have e3:(⟨h.n,h.n,h.os⟩:VH).n=h.n:=rfl;rw[l2];rw[e2,e3]at this;lia
theorem pJ{h h':VH}{w:W}(p:Pv w)(x:Gm ⟨h.n,h.n,h.os⟩ h'):fin h (.ok (.rt w) h')=.ok w h:=gG (by
 have:=x.lo;have e2:(⟨h.n,h.n,h.os⟩:VH).lo=h.n:=rfl;have e3:(⟨h.n,h.n,h.os⟩:VH).n=h.n:=rfl;rw[e2,e3]at this;lia) (p _)
theorem sG{a i:Nat}{h:VH}{ws:List W}(g:h.get a=aC (.lst ws)):aU .seq (.ref a) i h=aC ws[i]?:=by simp only[aU,aV,g,lU]
theorem rE{a:Nat}{h:VH}{ws:List W}(g:h.get a=aC (.lst ws)):aV h (.ref a)=aC ws:=by simp only[aV,g]
noncomputable def fW(f:Int×Int×Int):W:=.tup [.int f.1,.int f.2.1,.int f.2.2]
section
variable{F:Nat->Option Fn}(C:pI F)
include C
theorem zzt{k s:Nat}{h:VH}{z:Int}(hs:s<1000):run F (k+1) 41 [.int z,.int s] h=.ok (iW (aP z s)) h:=by
 have half:∀(i:Nat)(y:Int),aP y (i+1)=aP y i++[(y/2 ^ i) % 2]:=by
  intro i;induction i with
  |zero=>intro y;simp[aP]
  |succ n ih=>
   intro y;rw[aP,ih (y/2),aP,sQ];rw[Int.ediv_ediv_of_nonneg (by decide:(0:Int)<=2),show(2:Int)*2 ^ n=2 ^ (n+1) by rw[Int.pow_succ,FD]]
 obtain⟨ρ',h',e1,hI⟩:=sF (nx:=aU .bU (.tup [.int s])) (tg:=bK (.one 3)) (b:=exs (run F k) Lh) (n:=s)
  (I:=λi ρ h1=>(∃x,ρ=[aC (.int (z/2 ^ i)),aC (.int s),aC (.ref h.n),x])/\Gm ⟨h.n,h.n,h.os⟩ h1/\h1.get h.n=aC (.lst ((aP z i).map .int)))
  (λi ρ h1 hi hI=>by
    obtain⟨⟨x,rfl⟩,w1,g1⟩:=hI;have hlt:=bV g1;refine⟨.int (i:Int),[aC (.int (z/2 ^ i)),aC (.int s),aC (.ref h.n),aC (.int (i:Int))],[aC (.int (z/2 ^ (i+1))),aC (.int s),aC (.ref h.n),aC (.int (i:Int))],h1.set h.n (.lst ((aP z (i+1)).map .int)),?_,rfl,?_,⟨_,rfl⟩,w1.set (aZ _) hlt,sD g1⟩;rw[jo (by lia),if_pos hi];unfold Lh;have ea:ev (run F k) (.mt .append (.var 2) (.cons (.op .mod (.var 0) (.cst (.int 2))) .nil)) [aC (.int (z/2 ^ i)),aC (.int s),aC (.ref h.n),aC (.int (i:Int))] h1=.ok .aL (h1.set h.n (.lst ((aP z (i+1)).map .int))):=by
     have hk:mh .append h1 (.ref h.n)=true:=by simp only[mh,g1]
     rw[ev,aF (x:=.ref h.n) rfl,aE,if_pos hk,aH (eN (r:=.ok (.int ((z/2 ^ i) % 2)) h1) (aF rfl) aQ rfl) bf,aE];show lG .append (.ref h.n) [.int ((z/2 ^ i) % 2)] h1=_;simp only[lG,g1];rw[if_pos (Am (by rw[bG,uC];lia)),half,gu];rfl
    refine(bM (ρ':=[aC (.int (z/2 ^ i)),aC (.int s),aC (.ref h.n),aC (.int (i:Int))]) (h':=h1.set h.n (.lst ((aP z (i+1)).map .int))) (by rw[exs,ea,aE])).trans ?_;refine(bM (ρ':=[aC (.int (z/2 ^ (i+1))),aC (.int s),aC (.ref h.n),aC (.int (i:Int))]) (h':=h1.set h.n (.lst ((aP z (i+1)).map .int))) ?_).trans (by rw[exs]);rw[exs];show((ev (run F k) (.cst (.int 2)) _ _).bind _)=_;rw[aQ,aE];show Res.ok (Fl.nx [aC (.int (z/2 ^ i/2)),aC (.int s),aC (.ref h.n),aC (.int (i:Int))]) _=_;rw[Int.ediv_ediv_of_nonneg (Int.pow_nonneg (by decide)),show(2:Int) ^ i*2=2 ^ (i+1)from(Int.pow_succ 2 i).symm])
  (λρ h1 hI=>by rw[jo (by lia),if_neg (g9 _)])
  s 0 fuel [aC (.int z),aC (.int s),aC (.ref h.n),aD] (VH.new ⟨h.n,h.n,h.os⟩ (.lst [])) (kC _) (show _<1000000 by lia)
  ⟨⟨aD,by simp⟩,Gm.refl.new,dG⟩
 obtain⟨⟨x,rfl⟩,w1,g1⟩:=hI;rw[gp C.f41 rfl];have eb:exs (run F k) t7.body [aC (.int z),aC (.int s),aD,aD] ⟨h.n,h.n,h.os⟩=.ok (.rt (iW (aP z s))) h':=by refine(bM (cz (x:=.ref h.n) (h1:=VH.new ⟨h.n,h.n,h.os⟩ (.lst [])) (ie bf rfl))).trans ?_;refine(bM ((gM (aH (aF (x:=.int s) rfl) bf)).trans e1)).trans ?_;exact gH (dS (uF (aF rfl) (rE g1)))
 show fin h (exs (run F k) t7.body [aC (.int z),aC (.int s),aD,aD] ⟨h.n,h.n,h.os⟩)=_;rw[eb];refine pJ (Pv.tup λw hw=>?_) w1;obtain⟨i,_,rfl⟩:=iK.mp hw;exact Pv.int
end
theorem zrw{ws:List W}{k:Nat}(h:k<=ws.length):dP ws (aC (k:Int)) aD=ws.drop k:=by unfold dP;rw[HT.qe,HT.tD,Nat.min_eq_left h];exact List.take_of_length_le (by rw[wU];lia)
noncomputable def HM(cs:List Int)(i:Nat):Int×Int×Int:=(cs.getD (2*i) 0,(cs.getD (2*i) 0+cs.getD (2*i+1) 0)/2,cs.getD (2*i+1) 0)
theorem HN:∀cs:List Int,(f9 cs).length=cs.length/2
 |[]=>rfl
 |[_]=>by simp[f9]
 |a::b::r=>by
  rw[f9,dj,HN r,dj,dj];lia
theorem UO:∀(cs:List Int) (i:Nat),i<cs.length/2->(f9 cs)[i]?=aC (HM cs i)
 |[],i,h=>by simp at h
 |[_],i,h=>by simp at h
 |a::b::r,0,h=>rfl
 |a::b::r,i+1,h=>by
  have:=UO r i (by rw[dj,dj]at h;lia);rw[f9,sO,this];unfold HM;rw[show 2* (i+1)=2*i+1+1 by lia];rfl
theorem zmj{cs:List Int}{i:Nat}(h:i<cs.length/2):(f9 cs).take (i+1)=(f9 cs).take i++[HM cs i]:=by rw[pN,UO cs i h];rfl
section
variable{F:Nat->Option Fn}(C:pI F)
include C
theorem zvq{k a:Nat}{h:VH}{cs:List Int}(g:h.get a=aC (.lst (cs.map .int)))(hl:cs.length<1000) :
 ∃i h',run F (k+1) 68 [.ref a] h=.ok (.ref i) h'/\h'.get i=aC (.lst ((f9 cs).map fW))/\h.n<=i/\Gm h h':=by
 have ha:=bV g;let k0:VH:=⟨h.n,h.n,h.os⟩
 have g0:k0.get a=aC (.lst (cs.map .int)):=g;let k1:=k0.new (.lst (di (cs.map W.int)));have g1:k1.get a=aC (.lst (cs.map .int)):=by rw[show k1.get a=k0.get a from iD ha];exact g0
 let k2:=k1.new (.lst (di ((cs.map W.int).drop 1)));have ga:k2.get h.n=aC (.lst (di (cs.map W.int))):=by rw[show k2.get h.n=k1.get h.n from iD (jF _)];exact dG (h:=k0)
 have gb:k2.get (h.n+1)=aC (.lst (di ((cs.map W.int).drop 1))):=dG (h:=k1);have nx:∀i:Nat,aU .zip (.tup [.ref h.n,.ref (h.n+1)]) i k2=aC (if i<cs.length/2 then aC (.tup [.int (cs.getD (2*i) 0),.int (cs.getD (2*i+1) 0)])else aD):=λi=>by
  simp only[aU,aV,ga,gb];rw[Gh,Gh,List.getElem?_drop,dY,dY,Nat.add_comm 1];by_cases q:i<cs.length/2;rw[if_pos q,cM (show 2*i<cs.length by lia),cM (show 2*i+1<cs.length by lia),nQ,nQ,cM (show 2*i<cs.length by lia),cM (show 2*i+1<cs.length by lia)];rfl;rw[if_neg q,jm (show cs.length<=2*i+1 by lia)];cases(Option.map W.int cs[2*i]?)<;>rfl
 obtain⟨ys,ρ',h',e1,hI⟩:=lA (nx:=aU .zip (.tup [.ref h.n,.ref (h.n+1)])) (tg:=bK (.many [0,1])) (e:=ev (run F k) Ua) (n:=cs.length/2)
  (I:=λi ρ h1 acc=>(∃x y,ρ=[x,y])/\h1=k2/\acc=((f9 cs).take i).map fW)
  (λi ρ h1 acc hi hI=>by
    obtain⟨⟨x,y,rfl⟩,rfl,rfl⟩:=hI;refine⟨.tup [.int (cs.getD (2*i) 0),.int (cs.getD (2*i+1) 0)],[aC (.int (cs.getD (2*i) 0)),aC (.int (cs.getD (2*i+1) 0))],fW (HM cs i),_,?_,rfl,?_,⟨_,_,rfl⟩,rfl,?_⟩;rw[nx,if_pos hi];exact Et (aF rfl) (eN (eN (aF rfl) (aF rfl) rfl) aQ rfl) (aF rfl);rw[zmj hi,gu];rfl)
  (λρ h1 acc hI=>by rw[hI.2.1,nx,if_neg (g9 _)])
  (ρ:=inner 2 [] [aC (.ref a)]) (h:=k2) (by lia) ⟨⟨aD,aD,rfl⟩,rfl,rfl⟩
 obtain⟨_,rfl,rfl⟩:=hI;rw[<-HN,pO]at e1;have es:∀(e:E)(l:W)(c:Nat)(hh:VH)(q:hh.get a=aC (.lst (cs.map .int))),ev (run F k) e [aC (.ref a)] hh=.ok l hh->tO l=aC c->ev (run F k) (.bi .st2 (.cons (.var 0) (.cons e (.cons (.cst (.int 2)) .nil)))) [aC (.ref a)] hh=.ok (.ref hh.n) (hh.new (.lst (di ((cs.map W.int).drop c)))):=λe l c hh q e1 e2=>by
  rw[ev,aH (aF (x:=.ref a) rfl) (aH e1 (aH aQ bf)),aE];show oF [.ref a,l,.int 2] hh=_;simp only[oF,q,e2,dg]
 rw[gp C.f68 rfl];have eb:exs (run F k) yK.body [aC (.ref a)] ⟨h.n,h.n,h.os⟩=.ok (.rt (.ref k2.n)) (k2.new (.lst ((f9 cs).map fW))):=by refine gH (dS (nK (aH (h1:=k1) (es _ .aL 0 k0 g0 aQ rfl) (aH (h1:=k2) (es _ (.int 1) 1 k1 g1 aQ rfl) bf)) e1 ?_));rw[bG,HN];lia
 obtain⟨h2,e2,w2,G⟩:=HL (h:=h) (h':=k2.new (.lst ((f9 cs).map fW))) (w:=.ref k2.n) (HK (show h.n<=h.n+1+1 by lia)) (((Gm.refl.new).new).new);refine⟨k2.n,h2,?_,by rw[G];exact dG,show h.n<=h.n+1+1 by lia,w2⟩;rw[<-e2];exact jQ (fin h) eb
theorem zrx{k a f:Nat}{h:VH}{cs:List Int}{aO:List (Int×Int×Int)}(g:h.get a=aC (.lst (cs.map .int)))(gf:h.get f=aC (.lst (aO.map fW)))(hl:cs.length<1000)(hf:aO.length<1000)(hfc:2*aO.length<=cs.length) :
 ∃i h',run F (k+1) 72 [.ref a,.ref f] h=.ok (.ref i) h'/\h'.get i=aC (.lst ((pH cs aO).map .int))/\h.n<=i/\Gm h h':=by
 have ha:=bV g;have hf':=bV gf;let k0:VH:=⟨h.n,h.n,h.os⟩
 have g0:k0.get f=aC (.lst (aO.map fW)):=gf;obtain⟨ys,ρ',h',e1,hI⟩:=lA (nx:=aU .seq (.ref f)) (tg:=bK (.many [0,1,2])) (e:=ev (run F k) Ud) (n:=aO.length)
  (I:=λi ρ h1 acc=>(∃x y z,ρ=[x,y,z])/\h1=k0/\acc=(aO.take i).map λq=>W.int q.2.1)
  (λi ρ h1 acc hi hI=>by
    obtain⟨⟨x,y,z,rfl⟩,rfl,rfl⟩:=hI;have hx:=cM hi;refine⟨fW aO[i],[aC (.int aO[i].1),aC (.int aO[i].2.1),aC (.int aO[i].2.2)],.int aO[i].2.1,k0,?_,rfl,aF rfl,⟨_,_,_,rfl⟩,rfl,?_⟩;rw[sG g0,dY,hx];rfl;rw[pN,hx,gu];rfl)
  (λρ h1 acc hI=>by rw[hI.2.1,sG g0,jm (by rw[bG];exact aZ _)])
  (ρ:=inner 3 [] [aC (.ref a),aC (.ref f)]) (h:=k0) (by lia) ⟨⟨aD,aD,aD,rfl⟩,rfl,rfl⟩
 obtain⟨_,rfl,rfl⟩:=hI;rw[pO]at e1;let k1:=k0.new (.lst (aO.map λq=>W.int q.2.1));have ga:k1.get a=aC (.lst (cs.map .int)):=by rw[show k1.get a=k0.get a from iD ha];exact g
 have Eu:k1.get f=aC (.lst (aO.map fW)):=by rw[show k1.get f=k0.get f from iD hf'];exact g0
 let k2:=k1.new (.lst ((cs.map W.int).drop (2*aO.length)));have Mf:ev (run F k) (.slc (.var 0) true (.op .mul (.cst (.int 2)) (.bi .len (.cons (.var 1) .nil))) false (.cst .aL)) [aC (.ref a),aC (.ref f)] k1=.ok (.ref k1.n) k2:=by rw[ev,aF (x:=.ref a) rfl,aE,eN (r:=.ok (.int (2* (aO.length:Int))) k1) aQ (jl (aF (x:=.ref f) rfl) (rE Eu)) (by rw[bG];rfl),aE,aQ,aE];show kO (.ref a) (aC (2* (aO.length:Int))) aD k1=_;simp only[kO,ga];show Res.ok (W.ref k1.n) (k1.new (.lst (dP (cs.map W.int) (aC (2* (aO.length:Int))) aD)))=_;rw[show(2* (aO.length:Int))=((2*aO.length:Nat):Int) by push_cast;rfl,zrw (by rw[bG];exact hfc)]
 rw[gp C.f72 rfl];have eb:exs (run F k) yL.body [aC (.ref a),aC (.ref f)] ⟨h.n,h.n,h.os⟩=.ok (.rt (.ref k2.n)) (k2.new (.lst ((pH cs aO).map .int))):=by
  refine gH (dS (eN (h1:=k1) (h2:=k2) (x:=.ref h.n) (y:=.ref k1.n) (nK (aF (x:=.ref f) rfl) e1 (by rw[bG];lia)) Mf ?_));have g3:k2.get h.n=aC (.lst (aO.map λq=>W.int q.2.1)):=by rw[show k2.get h.n=k1.get h.n from iD (jF _)];exact dG (h:=k0)
  have g4:k2.get k1.n=aC (.lst ((cs.map W.int).drop (2*aO.length))):=dG (h:=k1);have:pH cs aO=(aO.map λq=>q.2.1)++cs.drop (2*aO.length):=rfl;rw[this,gu,List.map_map,List.map_drop];simp only[iN,g3,g4,Cf];rw[if_pos (pG (by rw[bG,wU,bG];lia))];rfl
 obtain⟨h2,e2,w2,G⟩:=HL (h:=h) (h':=k2.new (.lst ((pH cs aO).map .int))) (w:=.ref k2.n) (HK (show h.n<=h.n+1+1 by lia)) (((Gm.refl.new).new).new);refine⟨k2.n,h2,?_,by rw[G];exact dG,show h.n<=h.n+1+1 by lia,w2⟩;rw[<-e2];exact jQ (fin h) eb
end
theorem UP:∀ls:List Int,bH iZ (ls.map .int)=aC ls|[]=>rfl|x::r=>by simp only[fD,bH,iZ,UP r]
noncomputable def mL(p:Int×Int×Int->Bool)(kk:Int×Int×Int->Int)(w:W)(aO:List (Int×Int×Int)):Kv:=aO.foldl (λkv x=>if p x=true then bx kv (.inl (kk x)) w else kv) []
theorem UQ{p:Int×Int×Int->Bool}{kk:Int×Int×Int->Int}{w:W}{aO:List (Int×Int×Int)}{x:Int×Int×Int}:mL p kk w (aO++[x])=if p x=true then bx (mL p kk w aO) (.inl (kk x)) w else mL p kk w aO:=by unfold mL;rw[Fj];rfl
theorem HP{p:Int×Int×Int->Bool}{kk:Int×Int×Int->Int}{w:W}(pw:Pv w)(aO:List (Int×Int×Int)):jD (mL p kk w aO)/\(mL p kk w aO).length<=aO.length:=by
 have:∀(l:List (Int×Int×Int))(acc:Kv),jD acc->jD (l.foldl (λkv x=>if p x=true then bx kv (.inl (kk x)) w else kv) acc)/\(l.foldl (λkv x=>if p x=true then bx kv (.inl (kk x)) w else kv) acc).length<=acc.length+l.length:=by
  intro l;induction l with
  |nil=>intro acc h;exact⟨h,aZ _⟩
  |cons x r ih=>
   intro acc h;rw[mQ,dj];by_cases q:p x=true;rw[if_pos q];obtain⟨h1,h2⟩:=ih _ (h.put (i:=kk x) pw);have:=LW (k:=.inl (kk x)) (w:=w) (kv:=acc);exact⟨h1,eS h2 (by rw[<-Nat.add_assoc,Nat.add_right_comm];exact Nat.add_le_add_right this _)⟩;rw[if_neg q];obtain⟨h1,h2⟩:=ih _ h;exact⟨h1,eS h2 (Nat.add_le_add_left (o8 _) _)⟩
 obtain⟨h1,h2⟩:=this aO [] .nil;exact⟨h1,by simpa[mL]using h2⟩
theorem UR{g:Int}{aO:List (Int×Int×Int)}:rq g aO=mL (λ_=>true) (λx=>x.2.1) (.tup [.int g,.int 0]) aO:=by unfold rq mL;simp
theorem US{s:Int}{aO:List (Int×Int×Int)}:sE s aO=mL (λx=>decide (x.1<x.2.1-s)) (λx=>x.2.1-s) (.str iy) aO:=by unfold sE mL;simp
theorem UT{s:Int}{aO:List (Int×Int×Int)}:we s aO=mL (λx=>decide (x.2.1+s<x.2.2)) (λx=>x.2.1+s) (.str nH) aO:=by unfold we mL;simp
theorem UU:∀{b a:Kv},jD a->jD b->jD (Au a b)
 |[],a,h,_=>h
 |x::r,a,h,h2=>by
  obtain⟨⟨i,hi⟩,p⟩:=h2 x gj;unfold Au;rw[mQ,hi];exact UU (h.put p) λy hy=>h2 y (fS _ hy)
theorem UW:∀(r:List Int) (x:Int),dQ x r=uB x r|[],_=>rfl|y::r,x=>by rw[dQ,uB,UW r]
theorem Mg{cl:Call}{c e v:E}{f:Nat}{h:VH}{s:Option W}{aO:List (Int×Int×Int)}(g:h.get f=aC (.lst (aO.map fW)))(hl:aO.length<=1000){p:Int×Int×Int->Bool}{kk:Int×Int×Int->Int}{w:W}(pw:Pv w)
 (hc:∀x:Int×Int×Int,ev cl c [aC (.int x.1),aC (.int x.2.1),aC (.int x.2.2),s] h=.ok (.bl (p x)) h)
 (he:∀x:Int×Int×Int,ev cl e [aC (.int x.1),aC (.int x.2.1),aC (.int x.2.2),s] h=.ok (.int (kk x)) h)
 (hv:∀x:Int×Int×Int,ev cl v [aC (.int x.1),aC (.int x.2.1),aC (.int x.2.2),s] h=.ok w h) :
 kT (aU .seq (.ref f)) (bK (.many [0,1,2])) (ev cl c) (ev cl e) (ev cl v) fuel 0 [aD,aD,aD,s] h []=.ok (mL p kk w aO) h:=by
 obtain⟨ys,ρ',h',e1,hI⟩:=HJ (nx:=aU .seq (.ref f)) (tg:=bK (.many [0,1,2])) (c:=ev cl c) (e:=ev cl e) (v:=ev cl v) (n:=aO.length)
  (I:=λi ρ h1 acc=>(∃x y z,ρ=[x,y,z,s])/\h1=h/\acc=mL p kk w (aO.take i))
  (λi ρ h1 acc hi hI=>by
    obtain⟨⟨x,y,z,rfl⟩,rfl,rfl⟩:=hI;have hx:=cM hi;have ht:aO.take (i+1)=aO.take i++[aO[i]]:=by rw[pN,hx];rfl
    refine⟨fW aO[i],[aC (.int aO[i].1),aC (.int aO[i].2.1),aC (.int aO[i].2.2),s],p aO[i],h1,?_,rfl,hc _,?_⟩;rw[sG g,dY,hx];rfl;cases q:p aO[i]with
    |true=>
     refine .inl ⟨rfl,.int (kk aO[i]),.inl (kk aO[i]),w,h1,h1,he _,hv _,rfl,?_,⟨_,_,_,rfl⟩,rfl,?_⟩;have:=(HP (p:=p) (kk:=kk) pw (aO.take i)).2;rw[rP]at this;exact Am (by lia);rw[ht,UQ,if_pos q]
    |false=>
     refine .inr ⟨rfl,⟨_,_,_,rfl⟩,rfl,?_⟩;rw[ht,UQ,if_neg (by rw[q];exact lD)])
  (λρ h1 acc hI=>by rw[hI.2.1,sG g,jm (by rw[bG];exact aZ _)])
  aO.length 0 fuel [aD,aD,aD,s] h [] (kC _) (show _<1000000 by lia) ⟨⟨aD,aD,aD,rfl⟩,rfl,rfl⟩
 obtain⟨_,rfl,rfl⟩:=hI;rw[pO]at e1;exact e1
theorem UX{b:Int}{i:Nat}{h:VH}(h0:1<=b)(h1:b<=1000000):aU .oq (.tup [.int 1,.int b]) i h=aC (if i< (b-1).toNat then aC (.int (1+ (i:Int)))else aD):=by
 have hf:(fits 1&&fits b)=true:=by unfold fits;simp;lia
 show(if fits 1&&fits b then aC (if decide ((i:Int)<b-1)then aC (W.int (1+i))else aD)else aD)=_;rw[if_pos hf];by_cases q:i< (b-1).toNat
 rw[if_pos q,iT (by lia)];rfl;rw[if_neg q,jt (by lia)];rfl
section
variable{F:Nat->Option Fn}(C:pI F)
include C
theorem zjy{k f n:Nat}{g:Int}{h:VH}{aO:List (Int×Int×Int)}(gf:h.get f=aC (.lst (aO.map fW)))(hl:aO.length<=400)(hne:aO≠[])(hn:n<1000)(m1:1<=iz aO)(m2:iz aO<=400) :
 ∃i h',run F (k+2) 67 [.int n,.int g,.ref f] h=.ok (.ref i) h'/\h'.get i=aC (.lst ((Eh n g aO).map .tup))/\h.n<=i/\Gm h h':=by
 have hf':=bV gf;let k0:VH:=⟨h.n,h.n,h.os⟩
 have g0:k0.get f=aC (.lst (aO.map fW)):=gf;let k1:=k0.new (.dm (rq g aO));have pM:Pv (.tup [.int g,.int 0]):=Pv.tup λw hw=>by
  rcases eO.mp hw with rfl|hw;exact Pv.int;rw[jE.mp hw];exact Pv.int
 have e1:ev (run F (k+1)) (.dc .seq (.var 2) (.many [0,1,2]) 3 [1] (.cst (.bl true)) (.var 1) (.tup (.cons (.var 3) (.cons (.cst (.int (0))) .nil)))) [aC (.int n),aC (.int g),aC (.ref f),aD,aD,aD] k0=.ok (.ref h.n) k1:=by rw[ev,aF (x:=.ref f) rfl,aE];show((kT _ _ _ _ _ fuel 0 [aD,aD,aD,aC (.int g)] k0 []).bind _)=_;rw[Mg (p:=λ_=>true) (kk:=λx=>x.2.1) (w:=.tup [.int g,.int 0]) g0 (by lia) pM (λx=>aQ) (λx=>aF rfl) (λx=>lz (aF rfl) aQ),aE,<-UR]
 have okM:jD (rq g aO):=by rw[UR];exact(HP pM aO).1
 have r1:=nM C (k:=k) (p:=h.n) (n:=n) (h:=k1) (.inl dG) okM.v hn;let k2:=k1.new (.lst [.tup (cR n (rq g aO))]);have w2:Gm k0 k2:=(Gm.refl.new).new;have UY:k2.get f=aC (.lst (aO.map fW)):=by rw[w2.get f hf'];exact g0
 obtain⟨ys,ρ',h',e3,hI⟩:=lA (nx:=aU .seq (.ref f)) (tg:=bK (.many [0,1,2])) (e:=ev (run F (k+1)) G6) (n:=aO.length)
  (I:=λi ρ h1 acc=>(∃x y z,ρ=[x,y,z])/\h1=k2/\acc=(aO.take i).map λq=>W.int (gap q))
  (λi ρ h1 acc hi hI=>by
    obtain⟨⟨x,y,z,rfl⟩,rfl,rfl⟩:=hI;have hx:=cM hi;refine⟨fW aO[i],[aC (.int aO[i].1),aC (.int aO[i].2.1),aC (.int aO[i].2.2)],.int (gap aO[i]),k2,?_,rfl,?_,⟨_,_,_,rfl⟩,rfl,?_⟩;rw[sG UY,dY,hx];rfl;unfold G6;rw[ev,aH (eN (r:=.ok (.int (aO[i].2.1-aO[i].1)) k2) (aF rfl) (aF rfl) rfl) (aH (eN (r:=.ok (.int (aO[i].2.2-aO[i].2.1)) k2) (aF rfl) (aF rfl) rfl) bf),aE];rfl;rw[pN,hx,gu];rfl)
  (λρ h1 acc hI=>by rw[hI.2.1,sG UY,jm (by rw[bG];exact aZ _)])
  (ρ:=inner 3 [] [aC (.int n),aC (.int g),aC (.ref f),aC (.ref k1.n),aD,aD]) (h:=k2) (by lia) ⟨⟨aD,aD,aD,rfl⟩,rfl,rfl⟩
 obtain⟨_,rfl,rfl⟩:=hI;rw[pO]at e3;let k3:=k2.new (.lst (aO.map λq=>W.int (gap q)));have g3:k3.get k2.n=aC (.lst (aO.map λq=>W.int (gap q))):=dG;have emx:ev (run F (k+1)) (.bi .max (.cons (.lc .seq (.var 2) (.many [0,1,2]) 3 [] (.cst (.bl true)) G6) .nil)) [aC (.int n),aC (.int g),aC (.ref f),aC (.ref k1.n),aD,aD] k2=.ok (.int (iz aO)) k3:=by
  rw[ev,aH (nK (aF (x:=.ref f) rfl) e3 (by rw[bG];lia)) bf,aE];show oB [.ref k2.n] k3=_;obtain⟨x,r,rfl⟩:∃x r,aO=x::r:=by
   cases aO with|nil=>exact absurd rfl hne|cons x r=>exact⟨x,r,rfl⟩
  have:(x::r).map (λq=>W.int (gap q))=(gap x::r.map gap).map W.int:=by simp
  rw[this]at g3;have hm:bH iZ ((gap x::r.map gap).map W.int)=aC (gap x::r.map gap):=UP _;simp only[oB,g3,hm];rw[UW];rfl
 have w3:Gm k0 k3:=w2.new;have Mh:k3.get k1.n=aC (.lst ([cR n (rq g aO)].map .tup)):=by rw[show k3.get k1.n=k2.get k1.n from iD (jF _)];exact dG (h:=k1)
 obtain⟨Ko,k4,e4,hI⟩:=sF (nx:=aU .oq (.tup [.int 1,.int (iz aO)])) (tg:=bK (.one 4)) (b:=exs (run F (k+1)) Li) (n:=(iz aO-1).toNat)
  (I:=λi ρ h1=>(∃x y,ρ=[aC (.int n),aC (.int g),aC (.ref f),aC (.ref k1.n),x,y])/\Gm k0 h1/\h1.get k1.n=aC (.lst ((cR n (rq g aO):: (List.range i).map λi=>Eg n aO i).map .tup)))
  (λi ρ h1 hi hI=>by
    obtain⟨⟨x,y,rfl⟩,w1,g1⟩:=hI;have hlt:=bV g1;have Eu:h1.get f=aC (.lst (aO.map fW)):=by rw[w1.get f hf'];exact g0
    have UZ:=HP (p:=λx=>decide (x.1<x.2.1- (1+ (i:Int)))) (kk:=λx=>x.2.1- (1+ (i:Int))) (w:=.str iy) Pv.str aO;have U0:=HP (p:=λx=>decide (x.2.1+ (1+ (i:Int))<x.2.2)) (kk:=λx=>x.2.1+ (1+ (i:Int))) (w:=.str nH) Pv.str aO;rw[<-US]at UZ;rw[<-UT]at U0;let a1:=h1.new (.dm (sE (1+ (i:Int)) aO));let a2:=a1.new (.dm (we (1+ (i:Int)) aO));let a3:=a2.set h1.n (.dm (Au (sE (1+ (i:Int)) aO) (we (1+ (i:Int)) aO)));have gfa:a1.get f=aC (.lst (aO.map fW)):=by rw[show a1.get f=h1.get f from iD (bV Eu)];exact Eu
    have d1:exs (run F (k+1)) (.set 5 (.dc .seq (.var 2) (.many [0,1,2]) 3 [4] (.cmp .gt (.op .sub (.var 1) (.var 3)) (.var 0)) (.op .sub (.var 1) (.var 3)) (.cst (.str iy)))) [aC (.int n),aC (.int g),aC (.ref f),aC (.ref k1.n),aC (.int (1+ (i:Int))),y] h1=.ok (.nx [aC (.int n),aC (.int g),aC (.ref f),aC (.ref k1.n),aC (.int (1+ (i:Int))),aC (.ref h1.n)]) a1:=by refine(cz (x:=.ref h1.n) (h1:=a1) ?_);rw[ev,aF (x:=.ref f) rfl,aE];show((kT _ _ _ _ _ fuel 0 [aD,aD,aD,aC (.int (1+ (i:Int)))] h1 []).bind _)=_;rw[Mg (p:=λx=>decide (x.1<x.2.1- (1+ (i:Int)))) (kk:=λx=>x.2.1- (1+ (i:Int))) (w:=.str iy) Eu (by lia) Pv.str (λx=>?_) (λx=>eN (aF rfl) (aF rfl) rfl) (λx=>aQ),aE,<-US];rw[ev,eN (r:=.ok (.int (x.2.1- (1+ (i:Int)))) h1) (aF rfl) (aF rfl) rfl,aE,aF (x:=.int x.1) rfl,aE];rfl
    have d2:ev (run F (k+1)) (.mt .update (.var 5) (.cons (.dc .seq (.var 2) (.many [0,1,2]) 3 [4] (.cmp .lt (.op .add (.var 1) (.var 3)) (.var 2)) (.op .add (.var 1) (.var 3)) (.cst (.str nH))) .nil)) [aC (.int n),aC (.int g),aC (.ref f),aC (.ref k1.n),aC (.int (1+ (i:Int))),aC (.ref h1.n)] a1=.ok .aL a3:=by
     have ga:a1.get h1.n=aC (.dm (sE (1+ (i:Int)) aO)):=dG;have hk:mh .update a1 (.ref h1.n)=true:=by simp only[mh,ga]
     have Me:ev (run F (k+1)) (.dc .seq (.var 2) (.many [0,1,2]) 3 [4] (.cmp .lt (.op .add (.var 1) (.var 3)) (.var 2)) (.op .add (.var 1) (.var 3)) (.cst (.str nH))) [aC (.int n),aC (.int g),aC (.ref f),aC (.ref k1.n),aC (.int (1+ (i:Int))),aC (.ref h1.n)] a1=.ok (.ref a1.n) a2:=by rw[ev,aF (x:=.ref f) rfl,aE];show((kT _ _ _ _ _ fuel 0 [aD,aD,aD,aC (.int (1+ (i:Int)))] a1 []).bind _)=_;rw[Mg (p:=λx=>decide (x.2.1+ (1+ (i:Int))<x.2.2)) (kk:=λx=>x.2.1+ (1+ (i:Int))) (w:=.str nH) gfa (by lia) Pv.str (λx=>?_) (λx=>eN (aF rfl) (aF rfl) rfl) (λx=>aQ),aE,<-UT];rw[ev,eN (r:=.ok (.int (x.2.1+ (1+ (i:Int)))) a1) (aF rfl) (aF rfl) rfl,aE,aF (x:=.int x.2.2) rfl,aE];rfl
     rw[ev,aF (x:=.ref h1.n) rfl,aE,if_pos hk,aH Me bf,aE];show qq h1.n a1.n a2=_;have gx:a2.get h1.n=aC (.dm (sE (1+ (i:Int)) aO)):=by rw[show a2.get h1.n=a1.get h1.n from iD (jF _)];exact ga
     have gy:a2.get a1.n=aC (.dm (we (1+ (i:Int)) aO)):=dG;have nb:Nat.beq h1.n a1.n=false:=by rw[<-Bool.not_eq_true,Nat.beq_eq];show ¬h1.n=h1.n+1;lia
     simp only[qq,gx,gy,nb];rw[if_neg lD,if_pos (pR.mpr (by lia))];rfl
    have HQ:a3.get h1.n=aC (.dm (Au (sE (1+ (i:Int)) aO) (we (1+ (i:Int)) aO))):=by refine sD (o0:=.dm (sE (1+ (i:Int)) aO)) ?_;rw[show a2.get h1.n=a1.get h1.n from iD (jF _)];exact dG
    have r4:=nM C (k:=k) (p:=h1.n) (n:=n) (h:=a3) (.inl HQ) (UU UZ.1 U0.1).v hn;have wa:Gm h1 a3:=((Gm.refl.new).new).set (aZ _) (show h1.n<h1.n+1+1 by lia);have Mi:a3.get k1.n=aC (.lst ((cR n (rq g aO):: (List.range i).map λi=>Eg n aO i).map .tup)):=by rw[wa.get _ hlt];exact g1
    refine⟨.int (1+ (i:Int)),[aC (.int n),aC (.int g),aC (.ref f),aC (.ref k1.n),aC (.int (1+ (i:Int))),y],[aC (.int n),aC (.int g),aC (.ref f),aC (.ref k1.n),aC (.int (1+ (i:Int))),aC (.ref h1.n)],a3.set k1.n (.lst ((cR n (rq g aO):: (List.range (i+1)).map λi=>Eg n aO i).map .tup)),?_,rfl,?_,⟨_,_,rfl⟩,?_,sD Mi⟩;rw[UX m1 (by lia),if_pos hi];unfold Li;refine(bM d1).trans ?_;refine(bM (ρ':=[aC (.int n),aC (.int g),aC (.ref f),aC (.ref k1.n),aC (.int (1+ (i:Int))),aC (.ref h1.n)]) (h':=a3) (by rw[exs,d2,aE])).trans ?_;refine(bM (ρ':=[aC (.int n),aC (.int g),aC (.ref f),aC (.ref k1.n),aC (.int (1+ (i:Int))),aC (.ref h1.n)]) (h':=a3.set k1.n (.lst ((cR n (rq g aO):: (List.range (i+1)).map λi=>Eg n aO i).map .tup))) ?_).trans (by rw[exs]);have hk:mh .append a3 (.ref k1.n)=true:=by simp only[mh,Mi]
    rw[exs,ev,aF (x:=.ref k1.n) rfl,aE,if_pos hk,aH (lJ (aF rfl) (aF rfl) r4) bf,aE];show((lG .append (.ref k1.n) [.tup (cR n (Au (sE (1+ (i:Int)) aO) (we (1+ (i:Int)) aO)))] a3).bind _)=_;simp only[lG,Mi];rw[if_pos (Am (by simp;lia)),aE,Ft,gu,<-sQ,gu];rw[show(1:Int)+i=(i:Int)+1 from Int.add_comm _ _];rfl;exact(w1.trans wa).set (show h.n<=h.n+1 from o8 _) (dF hlt wa.le))
  (λρ h1 hI=>by rw[UX m1 (by lia),if_neg (g9 _)])
  (iz aO-1).toNat 0 fuel [aC (.int n),aC (.int g),aC (.ref f),aC (.ref k1.n),aD,aD] k3 (kC _) (show _<1000000 by lia) ⟨⟨_,_,rfl⟩,w3,Mh⟩
 obtain⟨⟨x4,x5,rfl⟩,w4,g4⟩:=hI;rw[gp C.f67 rfl];have eb:exs (run F (k+1)) yJ.body [aC (.int n),aC (.int g),aC (.ref f),aD,aD,aD] ⟨h.n,h.n,h.os⟩=.ok (.rt (.ref k1.n)) k4:=by refine(bM (cz (x:=.ref k1.n) (h1:=k2) (ie (aH (lJ (aF rfl) e1 r1) bf) rfl))).trans ?_;refine(bM ((gM (aH aQ (aH emx bf))).trans e4)).trans ?_;exact gH (dS (aF rfl))
 obtain⟨h2,e5,w5,G⟩:=HL (h:=h) (h':=k4) (w:=.ref k1.n) (HK (show h.n<=h.n+1 by lia)) w4;refine⟨k1.n,h2,?_,by rw[G];exact g4,show h.n<=h.n+1 by lia,w5⟩;rw[<-e5];exact jQ (fin h) eb
end
theorem zry{w:W}(h:iH 24 w):Pv w:=λn=>UK 24 _ h
theorem wo{B:Bd}(b:B.Ok):Pv B.w:=zry (zro b)
structure LL{X:Type}(enc:X->W)(h:VH)(rs:List Nat)(ls:List (List X)):Prop where
 len:rs.length=ls.length
 at_:∀(i r:Nat)(l:List X),rs[i]?=aC r->ls[i]?=aC l->h.get r=aC (.lst (l.map enc))
theorem LL.gm{X:Type}{enc:X->W}{h h':VH}{rs:List Nat}{ls:List (List X)}(L:LL enc h rs ls)(g:Gm h h'):LL enc h' rs ls:=⟨L.len,λi r l h1 h2=>by
 have:=L.at_ i r l h1 h2;rw[g.get r (bV this)];exact this⟩
theorem LL.nil{X:Type}{enc:X->W}{h:VH}:LL enc h [] ([]:List (List X)):=⟨rfl,λi r l h1 _=>by cases h1⟩
theorem LL.snoc{X:Type}{enc:X->W}{h:VH}{rs:List Nat}{ls:List (List X)}{r:Nat}{l:List X}(L:LL enc h rs ls)(g:h.get r=aC (.lst (l.map enc))):LL enc h (rs++[r]) (ls++[l]):=⟨by rw[fC,fC,L.len];rfl,λi q m h1 h2=>by
 by_cases hi:i<rs.length;rw[uM hi]at h1;rw[uM (by rw[<-L.len];exact hi)]at h2;exact L.at_ i q m h1 h2;rw[oX (by lia)]at h1;rw[oX (by rw[<-L.len];lia),<-L.len]at h2;cases z:i-rs.length with
 |zero=>
  rw[z]at h1 h2;cases h1;cases h2;exact g
 |succ n=>rw[z]at h1;cases h1⟩
theorem Aw{h:VH}{a i:Nat}{rs:List Nat}(g:h.get a=aC (.lst (rs.map .ref))):aU .seq (.ref a) i h=aC ((rs[i]?).map .ref):=by rw[sG g,dY]
noncomputable def wu:Nat->Nat->List (List Int)->Bool
 |0,nr,lanes=>(lanes.all λl=>!l.isEmpty)&&decide (nr<=1000)
 |n+1,nr,lanes=>!(lanes.map f9).flatten.isEmpty&&decide (1<=iz (lanes.map f9).flatten)&&decide (iz (lanes.map f9).flatten<=400)&&decide ((lanes.map f9).flatten.length<=400)
  && (lanes.all λl=>decide (l.length<1000))&&decide (nr<=1000)&&wu n (nr+1+ (iz (lanes.map f9).flatten-1).toNat) (List.zipWith pH lanes (lanes.map f9))
theorem zvr:(Av.all λx=>wu (aW x.1) 0 (nI x.1 x.2))=true:=by decide +kernel
theorem Shape.wu{S P:Nat}(h:Shape S P):wu (aW S) 0 (nI S P)=true:=iU.mp zvr _ (Ej h.s1 h.p1 h.p4 h.sp)
noncomputable def oR(s:Int):Nat->Int->Int->Int|0,_,g=>g|n+1,r,g=>if r<s then oR s n (r*2) (g+1)else g
theorem zzu:((List.range 17).all λS=>decide (oR (S:Int) 5 1 0=(aW S:Int))&&decide (S<=2 ^ 5))=true:=by decide +kernel
theorem U1{cl:Call}{s ff:Int}{h:VH}:∀(n fu:Nat) (r g:Int),s<=r*2 ^ n->n<fu->∃r',dR (ev cl vL) (exs cl G4) fu [aC (.int s),aC (.int ff),aC (.int g),aC (.int r)] h=.ok (.nx [aC (.int s),aC (.int ff),aC (.int (oR s n r g)),aC (.int r')]) h
 |0,fu+1,r,g,hs,_=>by
  refine⟨r,?_⟩;have ec:ev cl vL [aC (.int s),aC (.int ff),aC (.int g),aC (.int r)] h=.ok (.bl false) h:=by unfold vL;rw[ev,aF (x:=.int r) rfl,aE,aF (x:=.int s) rfl,aE];show Res.ok (W.bl (decide (r<s))) h=_;rw[jt (by simp at hs;lia)]
  simp only[dR,ec,aE,oR]
 |n+1,fu+1,r,g,hs,hf=>by
  by_cases q:r<s;have ec:ev cl vL [aC (.int s),aC (.int ff),aC (.int g),aC (.int r)] h=.ok (.bl true) h:=by unfold vL;rw[ev,aF (x:=.int r) rfl,aE,aF (x:=.int s) rfl,aE];show Res.ok (W.bl (decide (r<s))) h=_;rw[iT q]
  have eb:exs cl G4 [aC (.int s),aC (.int ff),aC (.int g),aC (.int r)] h=.ok (.nx [aC (.int s),aC (.int ff),aC (.int (g+1)),aC (.int (r*2))]) h:=by unfold G4;refine(bM (ρ':=[aC (.int s),aC (.int ff),aC (.int (g+1)),aC (.int r)]) (h':=h) ?_).trans ?_;rw[exs];rfl;refine(bM (ρ':=[aC (.int s),aC (.int ff),aC (.int (g+1)),aC (.int (r*2))]) (h':=h) ?_).trans (by rw[exs]);rw[exs];show(((Res.of ((if kN r||kN 2 then aC (r*2)else aD).map W.int) h)).bind _)=_;rw[if_pos (by rw[show kN 2=true from by decide,E6])];rfl
  obtain⟨r',e⟩:=U1 (cl:=cl) (s:=s) (ff:=ff) (h:=h) n fu (r*2) (g+1) (by rw[Int.mul_assoc,show(2:Int)*2 ^ n=2 ^ (n+1) by rw[Int.pow_succ,FD]];exact hs) (by lia);refine⟨r',?_⟩;simp only[dR,ec,aE,eb,e,oR,if_pos q];refine⟨r,?_⟩;have ec:ev cl vL [aC (.int s),aC (.int ff),aC (.int g),aC (.int r)] h=.ok (.bl false) h:=by unfold vL;rw[ev,aF (x:=.int r) rfl,aE,aF (x:=.int s) rfl,aE];show Res.ok (W.bl (decide (r<s))) h=_;rw[jt q]
  simp only[dR,ec,aE,oR,if_neg q]
theorem zvs{F:Nat->Option Fn}(A:iw F)(C:pI F){k S:Nat}{h:VH}(h1:1<=S)(h2:S<=16):run F (k+3) 32 [.int S,.int 1] h=.ok (.int (aW S:Int)) h:=by
 rw[gp C.f32 rfl];have e1:=DT A (k:=k) (h:=⟨h.n,h.n,h.os⟩) (w:=.int S) (lo:=1) (hi:=1000000000) (by simp[Kn,cK]);have e2:=DT A (k:=k) (h:=⟨h.n,h.n,h.os⟩) (w:=.int 1) (lo:=1) (hi:=4) (by simp[Kn,cK]);have w1:within (.int S) 1 1000000000=true:=by simp[within];lia
 have w2:within (.int 1) 1 4=true:=by decide
 rw[w1]at e1;rw[w2]at e2;have hq:=iU.mp zzu S (oY.mpr (by lia));rw[bw,gW,gW]at hq;obtain⟨r',e3⟩:=U1 (cl:=run F (k+2)) (s:=S) (ff:=1) (h:=⟨h.n,h.n,h.os⟩) 5 fuel 1 0 (by lia) (by decide);rw[hq.1]at e3;simp[yH,exs,ev,e1,e2,e3,gG]
theorem U3{nx:Nat->VH->Option (Option W)}{e:FE}{h:VH}{ws:List W}{x:W}{tl:En}{f:W->W}(hx:∀i,nx i h=aC ws[i]?)(he:∀w∈ws,e (aC x::aC w::tl) h=.ok (f w) h) :
 ∀(fu i:Nat)(b:Option W)(acc:List W),i<=ws.length->ws.length<fu+i->∃b',kR nx (bK (.one 1)) (λ_ h=>.ok (.bl true) h) e fu i (aC x::b::tl) h acc=.ok (aC x::b'::tl,((ws.drop i).map f).reverse++acc) h
 |0,i,b,acc,hi,hl=>by lia
 |fu+1,i,b,acc,hi,hl=>by
  cases q:ws[i]? with
  |none=>
   rw[Fg (rN.mp q)];exact⟨b,by simp only[kR,hx,q];rfl⟩
  |some w=>
   obtain⟨hi,ee⟩:=gZ.mp q;obtain⟨b',ih⟩:=U3 hx he fu (i+1) (aC w) (f w::acc) hi (by lia);refine⟨b',?_⟩;simp only[kR,hx,q,bK,wQ,uQ,aE,he w (mP q),ih];rw[Fc hi,ee];simp
theorem U4{nx:Nat->VH->Option (Option W)}{mj:En->VH->List W->Res (En×List W)}{h:VH}{ws:List W}{tl:En}{g:W->List W}(hx:∀i,nx i h=aC ws[i]?)
 (hi:∀x∈ws,∀(b:Option W)(acc:List W),∃b',mj (aC x::b::tl) h acc=.ok (aC x::b'::tl,(g x).reverse++acc) h) :
 ∀(fu i:Nat)(a b:Option W)(acc:List W),i<=ws.length->ws.length<fu+i->m9 nx (bK (.one 0)) (λ_ h=>.ok (.bl true) h) mj fu i (a::b::tl) h acc=.ok (acc.reverse++(ws.drop i).flatMap g) h
 |0,i,a,b,acc,hi,hl=>by lia
 |fu+1,i,a,b,acc,hi',hl=>by
  cases q:ws[i]? with
  |none=>
   rw[Fg (rN.mp q)];simp only[m9,hx,q];simp
  |some w=>
   obtain⟨hil,ee⟩:=gZ.mp q;obtain⟨b',e1⟩:=hi w (mP q) b acc;simp only[m9,hx,q,bK,uQ,aE,e1];rw[U4 hx hi fu (i+1) (aC w) b' ((g w).reverse++acc) hil (by lia),Fc hil,ee];simp
theorem Mj{n:Nat}(h:n<=100000):kN (n:Int)=true:=by unfold kN;simp;lia
theorem rF{h:VH}{i:Int}{j:Int}(s:kN i=true\/kN j):iN .mul (.int i) (.int j) h=.ok (.int (i*j)) h:=by show Res.of ((if kN i||kN j then aC (i*j)else aD).map W.int) h=_;rw[if_pos (by rcases s with s|s<;>rw[s]<;>simp)];rfl
theorem LL.take_snoc{X:Type}{enc:X->W}{h:VH}{rs:List Nat}{ls:List (List X)}{r i:Nat}{l:List X}(L:LL enc h rs (ls.take i))(hl:ls[i]?=aC l)(g:h.get r=aC (.lst (l.map enc))):LL enc h (rs++[r]) (ls.take (i+1)):=by rw[pN,hl];exact L.snoc g
section
variable{F:Nat->Option Fn}(C:pI F)
include C
omit C in
theorem zvt{cl:Call}{S P:Nat}{h:VH}{r2 r3 r4 r5 r6 r7 r8:Option W}(hS:S<=16)(hP:P<=4) :
 ∃a h' rs,ev cl (.lc .bU (.cons (.var 1) .nil) (.one 0) 1 [0] (.cst (.bl true)) Lj) [aC (.int S),aC (.int P),r2,r3,r4,r5,r6,r7,r8] h=.ok (.ref a) h'/\h.n<=a/\Gm h h'/\h'.get a=aC (.lst (rs.map .ref))/\LL W.int h' rs (nI S P):=by
 have hlen:(nI S P).length=P:=by unfold nI;rw[bG,wR]
 obtain⟨ys,ρ',h',e1,hI⟩:=lA (nx:=aU .bU (.tup [.int P])) (tg:=bK (.one 0)) (e:=ev cl Lj) (n:=P)
  (I:=λi ρ h1 acc=>(∃x,ρ=[x,aC (.int S)])/\Gm h h1/\∃rs,acc=rs.map W.ref/\LL W.int h1 rs ((nI S P).take i))
  (λi ρ h1 acc hi hI=>by
    obtain⟨⟨x,rfl⟩,w1,rs,rfl,L⟩:=hI;obtain⟨ys,oQ,h2,e2,mC⟩:=lA (nx:=aU .bU (.tup [.int S])) (tg:=bK (.one 0)) (e:=ev cl Ue) (n:=S)
     (I:=λj ρ h2 acc=>(∃x,ρ=[x,aC (.int (i:Int)),aC (.int S)])/\h2=h1/\acc=((List.range j).map λ(s:Nat)=>(2* ((i:Int)*S+s)+1)).map W.int)
     (λj ρ h2 acc hj hI=>by
       obtain⟨⟨x,rfl⟩,rfl,rfl⟩:=hI;refine⟨.int (j:Int),[aC (.int (j:Int)),aC (.int (i:Int)),aC (.int S)],.int (2* ((i:Int)*S+j)+1),h2,?_,rfl,?_,⟨_,rfl⟩,rfl,?_⟩;rw[jo (by lia),if_pos hj];exact eN (eN aQ (eN (eN (aF rfl) (aF rfl) (rF (.inl (Mj (by lia))))) (aF rfl) rfl) (rF (.inl (by decide)))) aQ rfl;rw[Ft,gu,gu];rfl)
     (λρ h2 acc hI=>by rw[jo (by lia),if_neg (g9 _)])
     (ρ:=inner 1 [0,1] [aC (.int (i:Int)),aC (.int S)]) (h:=h1) (by lia) ⟨⟨aD,rfl⟩,rfl,rfl⟩
    obtain⟨_,rfl,rfl⟩:=mC;refine⟨.int (i:Int),[aC (.int (i:Int)),aC (.int S)],.ref h2.n,_,?_,rfl,nK (aH (aF rfl) bf) e2 (by simp;lia),⟨_,rfl⟩,w1.new,rs++[h2.n],by rw[gu];rfl,?_⟩;rw[jo (by lia),if_pos hi];refine(L.gm Gm.refl.new).take_snoc (l:=(List.range S).map λ(s:Nat)=>2* ((i:Int)*S+s)+1) ?_ dG;unfold nI;rw[dY,zu hi];rfl)
  (λρ h1 acc hI=>by rw[jo (by lia),if_neg (g9 _)])
  (ρ:=inner 1 [0] [aC (.int S),aC (.int P),r2,r3,r4,r5,r6,r7,r8]) (h:=h) (by lia) ⟨⟨aD,rfl⟩,.refl,[],rfl,LL.nil⟩
 obtain⟨_,w1,rs,rfl,L⟩:=hI;rw[List.take_of_length_le (zz hlen)]at L;have hl2:=L.len;exact⟨h'.n,_,rs,nK (aH (aF rfl) bf) e1 (by rw[bG];lia),w1.le,w1.new,dG,L.gm Gm.refl.new⟩
theorem zjz{k a:Nat}{h:VH}{rs:List Nat}{lanes:List (List Int)}{ρ:En}(ga:h.get a=aC (.lst (rs.map .ref)))(L:LL W.int h rs lanes)(hl:lanes.length<=4)(hs:∀l∈lanes,l.length<1000)(lI:ρ[4]?=aC (aC (.ref a))) :
 ∃b h' fs,ev (run F (k+1)) (.lc .seq (.var 4) (.one 0) 1 [] (.cst (.bl true)) Lk) ρ h=.ok (.ref b) h'/\h.n<=b/\Gm h h'/\h'.get b=aC (.lst (fs.map .ref))/\LL fW h' fs (lanes.map f9):=by
 have hlen:=L.len;obtain⟨ys,ρ',h',e1,hI⟩:=lA (nx:=aU .seq (.ref a)) (tg:=bK (.one 0)) (e:=ev (run F (k+1)) Lk) (n:=lanes.length)
  (I:=λi ρ h1 acc=>(∃x,ρ=[x])/\Gm h h1/\∃fs,acc=fs.map W.ref/\LL fW h1 fs ((lanes.map f9).take i))
  (λi ρ h1 acc hi hI=>by
    obtain⟨⟨x,rfl⟩,w1,fs,rfl,Lf⟩:=hI;have hr:=cM (show i<rs.length by lia);have hx:=cM hi;have gr:=L.at_ i _ _ hr hx;have Mk:h1.get rs[i]=aC (.lst (lanes[i].map .int)):=by rw[w1.get _ (bV gr)];exact gr
    obtain⟨j,h2,e2,g2,_,w2⟩:=zvq C (k:=k) Mk (hs _ (lQ hi));refine⟨.ref rs[i],[aC (.ref rs[i])],.ref j,h2,?_,rfl,wk (aF rfl) e2,⟨_,rfl⟩,w1.trans w2,fs++[j],by rw[gu];rfl,?_⟩;rw[Aw (by rw[w1.get _ (bV ga)];exact ga),hr];rfl;exact(Lf.gm w2).take_snoc (by rw[dY,hx];rfl) g2)
  (λρ h1 acc hI=>by rw[Aw (by rw[hI.2.1.get _ (bV ga)];exact ga),jm (by lia)];rfl)
  (ρ:=inner 1 [] ρ) (h:=h) (by lia) ⟨⟨aD,rfl⟩,.refl,[],rfl,LL.nil⟩
 obtain⟨_,w1,fs,rfl,Lf⟩:=hI;rw[show(lanes.map f9).take lanes.length=lanes.map f9 by rw[<-bG (f:=f9),pO]]at Lf;have hl2:=Lf.len;rw[bG]at hl2;exact⟨h'.n,_,fs,nK (aF lI) e1 (by rw[bG];lia),w1.le,w1.new,dG,Lf.gm Gm.refl.new⟩
omit C in
theorem zzv{cl:Call}{b:Nat}{h:VH}{fs:List Nat}{aO:List (List (Int×Int×Int))}{ρ:En}(gb:h.get b=aC (.lst (fs.map .ref)))(L:LL fW h fs aO)(hl:aO.length<=4)(hs:aO.flatten.length<=400)(lI:ρ[7]?=aC (aC (.ref b))) :
 ev cl (.zR .seq (.var 7) (.one 0) 2 [] (.cst (.bl true)) .seq yM (.one 1) (.cst (.bl true)) Ai) ρ h=.ok (.ref h.n) (h.new (.lst (aO.flatten.map fW))):=by
 have hlen:=L.len;have hg:∀i,(hi:i<fs.length)->aV h (.ref fs[i])=aC ((aO[i]'(by lia)).map fW):=λi hi=>rE (L.at_ i _ _ (cM hi) (cM (by lia)));have hin:∀x∈fs.map W.ref,∀(bb:Option W)(acc:List W),∃b',(λρ h acc=>(ev cl yM ρ h).bind λy h=>kR (aU .seq y) (bK (.one 1)) (λ_ h=>.ok (.bl true) h) (ev cl Ai) fuel 0 ρ h acc) (aC x::bb :: []) h acc=.ok (aC x::b' :: [],((aV h x).getD []).reverse++acc) h:=λx hx bb acc=>by
  obtain⟨r,hr,rfl⟩:=iK.mp hx;obtain⟨i,hi,rfl⟩:=List.getElem_of_mem hr;have e:=hg i hi;have hlt:((aO[i]'(by lia)).map fW).length<1000000:=by have:(aO[i]'(by lia)).length<=aO.flatten.length:=(List.sublist_flatten_of_mem (lQ (by lia))).length_le;rw[bG];lia
  obtain⟨b',e2⟩:=U3 (nx:=aU .seq (.ref fs[i])) (e:=ev cl Ai) (h:=h) (ws:=(aO[i]'(by lia)).map fW) (x:=.ref fs[i]) (tl:=[]) (f:=id) (λj=>by simp only[aU,e,lU]) (λw hw=>aF rfl) fuel 0 bb acc (lS _) hlt;refine⟨b',?_⟩;show((ev cl yM [aC (.ref fs[i]),bb] h).bind _)=_;rw[show ev cl yM [aC (.ref fs[i]),bb] h=.ok (.ref fs[i]) h from aF rfl,aE,e2,e];simp
 have eo:=U4 (mj:=λρ h acc=>(ev cl yM ρ h).bind λy h=>kR (aU .seq y) (bK (.one 1)) (λ_ h=>.ok (.bl true) h) (ev cl Ai) fuel 0 ρ h acc) (nx:=aU .seq (.ref b)) (tl:=[]) (g:=λx=>(aV h x).getD []) (ws:=fs.map W.ref) (h:=h) (λi=>sG gb) hin fuel 0 aD aD [] (lS _) (by rw[bG];show _<1000000;lia);have Ew:∀(fs:List Nat)(aO:List (List (Int×Int×Int))),LL fW h fs aO->(fs.map W.ref).flatMap (λx=>(aV h x).getD [])=aO.flatten.map fW:=by
  intro fs;induction fs with
  |nil=>
   intro aO L;have:=L.len;cases aO with|nil=>rfl|cons x r=>simp at this
  |cons x r ih=>
   intro aO L;cases aO with
   |nil=>have:=L.len;simp at this
   |cons y s=>
    have:=L.at_ 0 x y rfl rfl;rw[fD,List.flatMap_cons,uR,gu,rE this,ih s ⟨by have:=L.len;simpa using this,λi r l h1 h2=>L.at_ (i+1) r l (by simpa using h1) (by simpa using h2)⟩];rfl
 rw[List.drop_zero,List.reverse_nil,List.nil_append,Ew fs aO L]at eo;rw[ev,aF lI,aE,Al];show((m9 (aU .seq (.ref b)) (bK (.one 0)) (λ_ h=>.ok (.bl true) h) (λρ h acc=>(ev cl yM ρ h).bind λy h=>kR (aU .seq y) (bK (.one 1)) (λ_ h=>.ok (.bl true) h) (ev cl Ai) fuel 0 ρ h acc) fuel 0 [aD,aD] h []).bind _)=_;rw[eo,aE,if_pos (pG (by rw[bG];lia))]
theorem ziz{k a b:Nat}{h:VH}{rs fs:List Nat}{lanes:List (List Int)}{aO:List (List (Int×Int×Int))}{ρ:En}(ga:h.get a=aC (.lst (rs.map .ref)))(gb:h.get b=aC (.lst (fs.map .ref)))(L:LL W.int h rs lanes)(Lf:LL fW h fs aO)(hl:lanes.length<=4)(hlf:aO.length=lanes.length)(hs:∀l∈lanes,l.length<1000)(hf:∀i (h1:i<lanes.length),2* (aO[i]'(by lia)).length<=lanes[i].length)(lI:ρ[4]?=aC (aC (.ref a)))(Ml:ρ[7]?=aC (aC (.ref b))) :
 ∃c h' ss,ev (run F (k+1)) (.lc .zip (.cons (.var 4) (.cons (.var 7) .nil)) (.many [0,1]) 2 [] (.cst (.bl true)) Ll) ρ h=.ok (.ref c) h'/\h.n<=c/\Gm h h'/\h'.get c=aC (.lst (ss.map .ref))/\LL W.int h' ss (List.zipWith pH lanes aO):=by
 have hlen:=L.len;have hlen2:=Lf.len;have hz:(List.zipWith pH lanes aO).length=lanes.length:=by rw[List.length_zipWith];lia
 have nx:∀(i:Nat)(h1:VH),Gm h h1->aU .zip (.tup [.ref a,.ref b]) i h1=aC (match rs[i]?,fs[i]? with
  |some x,aC y=>aC (.tup [.ref x,.ref y])
  |_,_=>aD):=λi h1 w1=>by
  have g1:h1.get a=aC (.lst (rs.map .ref)):=by rw[w1.get _ (bV ga)];exact ga
  have g2:h1.get b=aC (.lst (fs.map .ref)):=by rw[w1.get _ (bV gb)];exact gb
  simp only[aU,aV,g1,g2,dY];cases rs[i]?<;>cases fs[i]?<;>rfl
 obtain⟨ys,ρ',h',e1,hI⟩:=lA (nx:=aU .zip (.tup [.ref a,.ref b])) (tg:=bK (.many [0,1])) (e:=ev (run F (k+1)) Ll) (n:=lanes.length)
  (I:=λi ρ h1 acc=>(∃x y,ρ=[x,y])/\Gm h h1/\∃ss,acc=ss.map W.ref/\LL W.int h1 ss ((List.zipWith pH lanes aO).take i))
  (λi ρ h1 acc hi hI=>by
    obtain⟨⟨x,y,rfl⟩,w1,ss,rfl,Ls⟩:=hI;have hr:=cM (show i<rs.length by lia);have hq:=cM (show i<fs.length by lia);have hx:=cM hi;have hy:=cM (show i<aO.length by lia);have gr:=L.at_ i _ _ hr hx;have gq:=Lf.at_ i _ _ hq hy;have Mk:h1.get rs[i]=aC (.lst (lanes[i].map .int)):=by rw[w1.get _ (bV gr)];exact gr
    have gq1:h1.get fs[i]=aC (.lst (aO[i].map fW)):=by rw[w1.get _ (bV gq)];exact gq
    have hs1:=hs _ (lQ hi);have hf1:=hf i hi;obtain⟨j,h2,e2,g2,_,w2⟩:=zrx C (k:=k) Mk gq1 hs1 (by lia) hf1;refine⟨.tup [.ref rs[i],.ref fs[i]],[aC (.ref rs[i]),aC (.ref fs[i])],.ref j,h2,?_,rfl,lJ (aF rfl) (aF rfl) e2,⟨_,_,rfl⟩,w1.trans w2,ss++[j],by rw[gu];rfl,?_⟩;rw[nx i h1 w1,hr,hq];refine(Ls.gm w2).take_snoc ?_ g2;rw[List.getElem?_zipWith,hx,hy])
  (λρ h1 acc hI=>by rw[nx _ h1 hI.2.1,jm (by lia)])
  (ρ:=inner 2 [] ρ) (h:=h) (by lia) ⟨⟨aD,aD,rfl⟩,.refl,[],rfl,LL.nil⟩
 obtain⟨_,w1,ss,rfl,Ls⟩:=hI;rw[show(List.zipWith pH lanes aO).take lanes.length=List.zipWith pH lanes aO by rw[<-hz,pO]]at Ls;have hl2:=Ls.len;exact⟨h'.n,_,ss,nK (aH (aF lI) (aH (aF Ml) bf)) e1 (by rw[bG];lia),w1.le,w1.new,dG,Ls.gm Gm.refl.new⟩
end
structure zc(w G:Nat)(k0:VH)(S P:Nat)(i:Nat)(ρ:En)(h:VH):Prop where
 ex:∃(a r:Nat) (rs:List Nat) (lanes:List (List Int)) (rows:List (List W)) (x6 x7:Option W),
  ρ=[aC (.int S),aC (.int P),aC (.int G),aC (.int w),aC (.ref a),aC (.ref r),x6,x7,aD]/\Gm k0 h/\h.get a=aC (.lst (rs.map .ref))/\LL W.int h rs lanes/\
  h.get r=aC (.lst (rows.map .tup))/\lanes.length=P/\wu (G-i) rows.length lanes=true/\jO w (G-i) i lanes rows=jO w G 0 (nI S P) []
theorem Ey{x:W}{n:Nat}{h:VH}(hn:n<=1000):iN .mul (.tup [x]) (.int n) h=.ok (.tup (bN n x)) h:=by
 have hf:(fits (n:Int)&&Nat.ble ([x].length* ((n:Nat):Int).toNat) big)=true:=by rw[bw];refine⟨?_,pG ?_⟩;unfold fits;simp;lia;simp;lia
 show Res.of ((if(fits (n:Int)&&Nat.ble ([x].length* ((n:Nat):Int).toNat) big)=true then aC (bN ((n:Nat):Int).toNat [x]).flatten else aD).map W.tup) h=_;rw[if_pos hf,vcs,List.flatten_replicate_singleton];rfl
theorem U5{w:Nat}{g:Int}{aO:List (Int×Int×Int)}:(Eh w g aO).length=1+ (iz aO-1).toNat:=by unfold Eh;rw[dj,bG,wR];lia
section
variable{F:Nat->Option Fn}(A:iw F)(C:pI F)
include C
theorem zvu{k w G S P:Nat}{k0:VH}(hw:w<1000)(hP:P<=4){i:Nat}{ρ:En}{h:VH}(hi:i<G)(I:zc w G k0 S P i ρ h) :
 ∃oQ h2,exs (run F (k+2)) DO (ρ.set 6 (aC (.int (i:Int)))) h=.ok (.nx oQ) h2/\zc w G k0 S P (i+1) oQ h2:=by
 obtain⟨a,r,rs,lanes,rows,x6,x7,rfl,w0,ga,L,gr,hl,ok,hp⟩:=I;rw[show G-i=(G- (i+1))+1 by lia]at ok hp;simp only[wu,bw,gW,iU,uK,List.isEmpty_eq_false_iff]at ok;obtain⟨⟨⟨⟨⟨⟨o1,o2⟩,o3⟩,o4⟩,o5⟩,o6⟩,o7⟩:=ok;rw[jO]at hp;show ∃oQ h2,exs (run F (k+2)) DO [aC (.int S),aC (.int P),aC (.int G),aC (.int w),aC (.ref a),aC (.ref r),aC (.int (i:Int)),x7,aD] h=_/\_;obtain⟨b,h1,fs,e1,hb,w1,gb,Lf⟩:=zjz C (k:=k+1) (ρ:=[aC (.int S),aC (.int P),aC (.int G),aC (.int w),aC (.ref a),aC (.ref r),aC (.int (i:Int)),x7,aD]) ga L (by lia) o5 rfl;have e2:=zzv (cl:=run F (k+2)) (ρ:=[aC (.int S),aC (.int P),aC (.int G),aC (.int w),aC (.ref a),aC (.ref r),aC (.int (i:Int)),aC (.ref b),aD]) gb Lf (by rw[bG];lia) o4 rfl;obtain⟨d,h3,e3,g3,hd,w3⟩:=zjy C (k:=k) (g:=(i:Int)) (h:=h1.new (.lst ((lanes.map f9).flatten.map fW))) (f:=h1.n) dG o4 o1 hw o2 o3;have U6:Gm h h3:=w1.new.trans w3;have HS:h3.get r=aC (.lst (rows.map .tup)):=by rw[U6.get _ (bV gr)];exact gr
 let h4:=h3.new (.lst ((Eh w i (lanes.map f9).flatten++rows).map .tup));have Mm:Gm h h4:=U6.new;have ga4:h4.get a=aC (.lst (rs.map .ref)):=by rw[Mm.get _ (bV ga)];exact ga
 have U7:Gm h1 h4:=(Gm.refl.new.trans w3).new;have gb4:h4.get b=aC (.lst (fs.map .ref)):=by rw[U7.get _ (bV gb)];exact gb
 obtain⟨c,h5,ss,e5,hc,w5,gc,Ls⟩:=ziz C (k:=k+1) (ρ:=[aC (.int S),aC (.int P),aC (.int G),aC (.int w),aC (.ref a),aC (.ref h3.n),aC (.int (i:Int)),aC (.ref b),aD]) ga4 gb4 (L.gm Mm) (Lf.gm U7) (by lia) (by rw[bG]) o5 (λj hj=>by rw[List.getElem_map,HN];lia) rfl rfl;refine⟨[aC (.int S),aC (.int P),aC (.int G),aC (.int w),aC (.ref c),aC (.ref h3.n),aC (.int (i:Int)),aC (.ref b),aD],h5,?_,⟨c,h3.n,ss,_,_,_,_,rfl,w0.trans (Mm.trans w5),gc,Ls,?_,?_,?_,hp⟩⟩;unfold DO;refine(bM (cz e1)).trans ?_;refine(bM (ρ':=[aC (.int S),aC (.int P),aC (.int G),aC (.int w),aC (.ref a),aC (.ref h3.n),aC (.int (i:Int)),aC (.ref b),aD]) (h':=h4) ?_).trans ?_;refine cz (x:=.ref h3.n) (h1:=h4) (eN (uE (aF rfl) (aF rfl) e2 e3) (aF rfl) ?_);simp only[iN,g3,HS,Cf];rw[if_pos (pG (by rw[bG,bG,U5];lia)),<-gu];exact(bM (cz e5)).trans (by rw[exs];rfl);rw[w5.get _ (show h3.n<h3.n+1 from jF _)];exact dG;rw[List.length_zipWith,bG];lia;rw[fC,U5,show 1+ (iz (lanes.map f9).flatten-1).toNat+rows.length=rows.length+1+ (iz (lanes.map f9).flatten-1).toNat by lia];exact o7
include A
theorem zpu{k S P:Nat}{h:VH}(sh:Shape S P):run F (k+5) 77 [.int S,.int P] h=.ok (aT S P).w h:=by
 have jx:=sh.jx;have wd33:=sh.wd;have e32:=zvs A C (k:=k+1) (h:=⟨h.n,h.n,h.os⟩) sh.s1 jx;obtain⟨a,k1,rs,e4,ha,w1,ga,L⟩:=zvt (cl:=run F (k+4)) (S:=S) (P:=P) (h:=⟨h.n,h.n,h.os⟩) (r2:=aC (.int (aW S:Int))) (r3:=aC (.int (bz S P:Int))) (r4:=aD) (r5:=aD) (r6:=aD) (r7:=aD) (r8:=aD) jx sh.p4;let k2:=k1.new (.lst []);obtain⟨yf,k3,e5,I⟩:=sF (nx:=aU .bU (.tup [.int (aW S)])) (tg:=bK (.one 6)) (b:=exs (run F (k+4)) DO) (n:=aW S)
  (I:=zc (bz S P) (aW S) ⟨h.n,h.n,h.os⟩ S P)
  (λi ρ h1 hi hI=>by
    obtain⟨oQ,h2,e,mC⟩:=zvu C (k:=k+2) (by lia) sh.p4 hi hI;refine⟨.int (i:Int),_,oQ,h2,?_,rfl,e,mC⟩;rw[jo (by have:=wg (S:=S);lia),if_pos hi])
  (λρ h1 hI=>by rw[jo (by have:=wg (S:=S);lia),if_neg (g9 _)])
  (aW S) 0 fuel [aC (.int S),aC (.int P),aC (.int (aW S:Int)),aC (.int (bz S P:Int)),aC (.ref a),aC (.ref k1.n),aD,aD,aD] k2 (kC _) (show _<1000000 by have:=wg (S:=S);lia)
  ⟨a,k1.n,rs,nI S P,[],aD,aD,rfl,w1.new,by rw[show k2.get a=k1.get a from iD (bV ga)];exact ga,L.gm Gm.refl.new,dG,by unfold nI;rw[bG,wR],sh.wu,rfl⟩
 obtain⟨a2,r2,Mn,lanes,rows,x6,x7,rfl,w3,HQ,L3,HS,hl3,Mp,hp3⟩:=I;rw[Nat.sub_self]at Mp hp3;simp only[wu,bw,gW,iU,uK,List.isEmpty_eq_false_iff]at Mp;have hR:aR S P=rows:=by unfold aR;rw[<-hp3];rfl
 have hF:aX S P=lanes.map lq:=by unfold aX;rw[<-hp3];rfl
 have hlen:=L3.len;have p4:=sh.p4;obtain⟨ys,ρ',h',e6,hI⟩:=lA (nx:=aU .seq (.ref a2)) (tg:=bK (.one 0)) (e:=ev (run F (k+4)) Ug) (n:=lanes.length)
  (I:=λi ρ h1 acc=>(∃x,ρ=[x])/\h1=k3/\acc=((lanes.map lq).take i).map W.int)
  (λi ρ h1 acc hi hI=>by
    obtain⟨⟨x,rfl⟩,rfl,rfl⟩:=hI;have hr:=cM (show i<Mn.length by lia);have hx:=cM hi;have gr:=L3.at_ i _ _ hr hx;have hne:=Mp.1 _ (lQ hi);refine⟨.ref Mn[i],[aC (.ref Mn[i])],.int (lq lanes[i]),h1,?_,rfl,?_,⟨_,rfl⟩,rfl,?_⟩;rw[Aw HQ,hr];rfl;refine gK (aF rfl) aQ ?_;generalize lanes[i]=l at gr hne;obtain⟨x,r,rfl⟩:∃x r,l=x::r:=by
     cases l with|nil=>exact absurd rfl hne|cons x r=>exact⟨x,r,rfl⟩
    simp only[cD,gr];exact lH (j:=0) rfl;rw[pN,dY,hx,gu];rfl)
  (λρ h1 acc hI=>by rw[hI.2.1,Aw HQ,jm (by lia)];rfl)
  (ρ:=inner 1 [] [aC (.int S),aC (.int P),aC (.int (aW S:Int)),aC (.int (bz S P:Int)),aC (.ref a2),aC (.ref r2),x6,x7,aD]) (h:=k3) (by lia) ⟨⟨aD,rfl⟩,rfl,rfl⟩
 obtain⟨_,rfl,rfl⟩:=hI;rw[<-bG (f:=lq),pO,<-hF]at e6;have U8:(h'.new (.lst ((aX S P).map W.int))).get r2=aC (.lst (rows.map .tup)):=by rw[iD (bV HS)];exact HS
 rw[<-hR]at U8;have hbody:exs (run F (k+4)) ud.body [aC (.int S),aC (.int P),aD,aD,aD,aD,aD,aD,aD] ⟨h.n,h.n,h.os⟩=.ok (.rt (aT S P).w) (h'.new (.lst ((aX S P).map W.int))):=by
  refine(bM (cz (lJ (aF rfl) aQ e32))).trans ?_;refine(bM (cz (x:=.int (bz S P:Int)) (h1:=⟨h.n,h.n,h.os⟩) (eN (eN (eN aQ (aF rfl) (rF (.inl (by decide)))) (aF rfl) (rF (.inr (Mj (by lia))))) aQ ?_))).trans ?_;show Res.ok (W.int (2* (S:Int)*P+1)) _=_;unfold bz
  push_cast;rfl;refine(bM (cz e4)).trans ?_;refine(bM (cz (x:=.ref k1.n) (h1:=k2) (ie bf rfl))).trans ?_;refine(bM ((gM (aH (aF rfl) bf)).trans e5)).trans ?_;refine(bM (cz (x:=.tup ((aX S P).map W.int)) (uF (nK (aF rfl) e6 (by rw[bG,hF,bG];lia)) (rE dG)))).trans ?_;refine gH (dS (wm (aF rfl) (aF rfl) (uF (aF rfl) (rE U8)) (aF rfl) (eN (jC (aH aQ bf) rfl) (aF rfl) ?_)));exact Ey (by lia)
 rw[gp C.f77 rfl];show fin h (exs (run F (k+4)) ud.body [aC (.int S),aC (.int P),aD,aD,aD,aD,aD,aD,aD] ⟨h.n,h.n,h.os⟩)=_;rw[hbody];exact pJ (wo sh.ok) w3.new
end
noncomputable def cZ(x:Int×Int):W:=.tup [.int x.1,.int x.2]
noncomputable def bZ(r:List (Int×Int)):W:=.tup (r.map cZ)
noncomputable def mW(M:List (List (Int×Int))):W:=.tup (M.map bZ)
theorem HU{x:Int×Int}:Pv (cZ x):=Pv.tup λw hw=>by
 rcases eO.mp hw with rfl|hw;exact Pv.int;rw[jE.mp hw];exact Pv.int
theorem sH{h:VH}{ws:List W}:Kn h (.tup ws):=by simp[Kn,cK]
theorem pK{h:VH}{i:Int}:Kn h (.int i):=by simp[Kn,cK]
theorem U9:∀n,bH rY (bN n (W.bl true))=aC (bN n true)|0=>rfl|n+1=>by simp only[sP,bH,rY,U9 n]
theorem U'{cl:Call}{ρ:En}{h:VH}{ws:List W}{x:W}{a e:E}{ix:List Nat}{tl:En}(ea:ev cl a ρ h=.ok (.tup ws) h)(hl:ws.length<1000)(hin:inner 1 ix ρ=aD::tl)
 (he:∀w∈ws,ev cl e (aC w::tl) h=.ok (.bl true) h):∃h',ev cl (.bi .all (.cons (.lc .seq a (.one 0) 1 ix (.cst (.bl true)) e) .nil)) ρ h=.ok (.bl true) h'/\Gm h h':=by
 obtain⟨ys,ρ',h',e1,hI⟩:=lA (nx:=aU .seq (.tup ws)) (tg:=bK (.one 0)) (e:=ev cl e) (n:=ws.length)
  (I:=λi ρ h1 acc=>(∃x,ρ=x::tl)/\h1=h/\acc=bN i (W.bl true))
  (λi ρ h1 acc hi hI=>by
    obtain⟨⟨x,rfl⟩,rfl,rfl⟩:=hI;have hx:=cM hi;refine⟨ws[i],aC ws[i]::tl,.bl true,h1,?_,rfl,he _ (lQ hi),⟨_,rfl⟩,rfl,?_⟩;simp only[aU,aV,lU,hx];rw[<-List.replicate_succ'])
  (λρ h1 acc hI=>by simp only[aU,aV,lU,jm (aZ _)])
  (ρ:=inner 1 ix ρ) (h:=h) (by lia) ⟨⟨aD,hin⟩,rfl,rfl⟩
 obtain⟨_,rfl,rfl⟩:=hI;refine⟨_,?_,Gm.refl.new (o:=.lst (bN ws.length (W.bl true)))⟩;rw[ev,aH (nK ea e1 (by rw[wN];lia)) bf,aE];show kQ [.ref h'.n] _=_;have g:(h'.new (.lst (bN ws.length (W.bl true)))).get h'.n=aC (.lst (bN ws.length (W.bl true))):=dG;simp only[kQ,g,U9,lU,dz];have ha:(bN ws.length true).all id=true:=iU.mpr λb hb=>Fe hb;rw[ha]
theorem wz{cl:Call}{ρ:En}{h h1:VH}{a:E}{b:Bool}(ea:ev cl a ρ h=.ok (.bl b) h1):ev cl (.not (.ou a)) ρ h=.ok (.bl (!b)) h1:=by rw[ev,ev,ea,aE];cases b<;>rfl
section
variable{F:Nat->Option Fn}(A:iw F)(C:pI F)
include A C
theorem zzw{k S:Nat}{h:VH}{x:Int×Int}(h1:0<=x.1/\x.1<=99)(h2:0<=x.2/\x.2<S):run F (k+3) 70 [cZ x,.int S] h=.ok (.bl true) h:=by
 have e6:=DU A (k:=k+1) (h:=⟨h.n,h.n,h.os⟩) (w:=cZ x) (lo:=2) (hi:=2) sH;have e1:=DT A (k:=k) (h:=⟨h.n,h.n,h.os⟩) (w:=.int x.1) (lo:=0) (hi:=99) pK;have e2:=DT A (k:=k) (h:=⟨h.n,h.n,h.os⟩) (w:=.int x.2) (lo:=0) (hi:=(S:Int)-1) pK;rw[show jB (cZ x) 2 2=true from rfl]at e6;rw[show within (.int x.1) 0 99=true by simp[within];lia]at e1;rw[show within (.int x.2) 0 ((S:Int)-1)=true by simp[within];lia]at e2;rw[gp C.f70 rfl];have eb:exs (run F (k+2)) t9.body [aC (cZ x),aC (.int S),aD,aD] ⟨h.n,h.n,h.os⟩=.ok (.rt (.bl true)) ⟨h.n,h.n,h.os⟩:=by refine(bM (ρ':=[aC (cZ x),aC (.int S),aD,aD]) (h':=⟨h.n,h.n,h.os⟩) ?_).trans ?_;rw[exs,wz (uE (aF rfl) aQ aQ e6),aE];show exs _ .skip _ _=_;rw[exs];refine(bM (ρ':=[aC (cZ x),aC (.int S),aC (.int x.1),aC (.int x.2)]) (h':=⟨h.n,h.n,h.os⟩) ?_).trans ?_;rw[exs,aF (x:=cZ x) rfl,aE];rfl;refine gH (dS ?_);rw[ev,uE (aF rfl) aQ aQ e1,aE];exact uE (aF rfl) aQ (eN (aF rfl) aQ rfl) e2
 show fin h (exs (run F (k+2)) t9.body [aC (cZ x),aC (.int S),aD,aD] ⟨h.n,h.n,h.os⟩)=_;rw[eb];exact gG (aZ _) rfl
theorem zvv{k S P:Nat}{h:VH}{r:List (Int×Int)}(hl:r.length=P)(hP:P<=4)(hx:∀x∈r,0<=x.1/\x.1<=99/\0<=x.2/\x.2<S):run F (k+4) 71 [bZ r,.int P,.int S] h=.ok (.bl true) h:=by
 have e6:=DU A (k:=k+2) (h:=⟨h.n,h.n,h.os⟩) (w:=bZ r) (lo:=P) (hi:=P) sH;rw[show jB (bZ r) P P=true by simp[jB,bZ,hl]]at e6;obtain⟨h',e7,w7⟩:=U' (cl:=run F (k+3)) (ρ:=[aC (bZ r),aC (.int P),aC (.int S)]) (h:=⟨h.n,h.n,h.os⟩) (ws:=r.map cZ) (x:=.aL) (a:=.var 0) (e:=Uc) (ix:=[2]) (tl:=[aC (.int S)]) (aF rfl) (by rw[bG];lia) rfl (λw hw=>by
  obtain⟨x,hm,rfl⟩:=iK.mp hw;obtain⟨a1,a2,a3,a4⟩:=hx x hm;exact lJ (aF rfl) (aF rfl) (zzw A C ⟨a1,a2⟩ ⟨a3,a4⟩))
 rw[gp C.f71 rfl];have eb:exs (run F (k+3)) uc.body [aC (bZ r),aC (.int P),aC (.int S)] ⟨h.n,h.n,h.os⟩=.ok (.rt (.bl true)) h':=by refine gH (dS ?_);rw[ev,uE (aF rfl) (aF rfl) (aF rfl) e6,aE];exact e7
 show fin h (exs (run F (k+3)) uc.body [aC (bZ r),aC (.int P),aC (.int S)] ⟨h.n,h.n,h.os⟩)=_;rw[eb];exact pJ (λ_=>rfl) w7
theorem zpv{k S P:Nat}{h:VH}{M:List (List (Int×Int))}(sh:Shape S P)(m:za S P M):run F (k+5) 69 [mW M] h=.ok (.bl true) h:=by
 have jx:=sh.jx;have p4:=sh.p4;have sp:=sh.sp;have s1:=sh.s1;have p1:=sh.p1;obtain⟨r0,M',rfl⟩:∃r M',M=r::M':=by
  cases M with|nil=>have:=m.l;simp at this;lia|cons r M'=>exact⟨r,M',rfl⟩
 have l0:=m.r r0 gj;have lM:=m.l;have e6:=DU A (k:=k+3) (h:=⟨h.n,h.n,h.os⟩) (w:=mW (r0::M')) (lo:=1) (hi:=16) sH;have e7:=DU A (k:=k+3) (h:=⟨h.n,h.n,h.os⟩) (w:=bZ r0) (lo:=1) (hi:=4) sH;rw[show jB (mW (r0::M')) 1 16=true by simp[jB,mW];simp at lM;lia]at e6;rw[show jB (bZ r0) 1 4=true by simp[jB,bZ];lia]at e7;have i0:∀g:VH,cD g (mW (r0::M')) (.int 0)=aC (bZ r0):=λg=>L8;obtain⟨h',e8,w8⟩:=U' (cl:=run F (k+4)) (ρ:=[aC (mW (r0::M')),aC (.int S),aC (.int P)]) (h:=⟨h.n,h.n,h.os⟩) (ws:=(r0::M').map bZ) (x:=.aL) (a:=.var 0) (e:=Ub) (ix:=[2,1]) (tl:=[aC (.int P),aC (.int S)]) (aF rfl) (by rw[bG];lia) rfl (λw hw=>by
  obtain⟨x,hm,rfl⟩:=iK.mp hw;exact uE (aF rfl) (aF rfl) (aF rfl) (zvv A C (m.r x hm) p4 (m.p x hm)))
 rw[gp C.f69 rfl];have eb:exs (run F (k+4)) t8.body [aC (mW (r0::M')),aD,aD] ⟨h.n,h.n,h.os⟩=.ok (.rt (.bl true)) h':=by
  refine(bM (ρ':=[aC (mW (r0::M')),aD,aD]) (h':=⟨h.n,h.n,h.os⟩) ?_).trans ?_;rw[exs,orB (x:=false) (y:=false) (wz (uE (aF rfl) aQ aQ e6)) (wz (uE (gK (aF rfl) aQ (i0 _)) aQ aQ e7)),aE];show exs _ .skip _ _=_;rw[exs];refine(bM (cz (x:=.int (S:Int)) (jl (ws:=(r0::M').map bZ) (aF rfl) rfl |>.trans (by rw[bG,lM])))).trans ?_;refine(bM (cz (x:=.int (P:Int)) (jl (ws:=r0.map cZ) (gK (aF rfl) aQ (i0 _)) rfl |>.trans (by rw[bG,l0])))).trans ?_;refine gH (dS ?_);have ec:ev (run F (k+4)) (.cmp .le (.op .mul (.var 1) (.var 2)) (.cst (.int (16)))) [aC (mW (r0::M')),aC (.int S),aC (.int P)] ⟨h.n,h.n,h.os⟩=.ok (.bl true) ⟨h.n,h.n,h.os⟩:=by rw[ev,eN (aF rfl) (aF rfl) (rF (.inl (Mj (by lia)))),aE,aQ,aE];show Res.ok (W.bl (decide ((S:Int)* (P:Int)<=16))) _=_;rw[iT (by have:=Int.ofNat_le.mpr sp;rwa [Int.natCast_mul]at this)]
  show ev (run F (k+4)) (.and _ _) [aC (mW (r0::M')),aC (.int S),aC (.int P)] ⟨h.n,h.n,h.os⟩=_;rw[ev,ec,aE];exact e8
 show fin h (exs (run F (k+4)) t8.body [aC (mW (r0::M')),aD,aD] ⟨h.n,h.n,h.os⟩)=_;rw[eb];exact pJ (λ_=>rfl) w8
end
structure St(k0:VH)(D R:Nat)(rs:List Nat):Prop where
 d:k0.n<=D
 r:k0.n<=R
 ro:∀x∈rs,k0.n<=x
 dr:D≠R
 dn:D∉rs
 rn:R∉rs
 nd:rs.Nodup
structure DI(k0:VH)(D R:Nat)(rs:List Nat)(ds:List W)(K:Nat->Kv)(h:VH):Prop where
 gm:Gm k0 h
 d:h.get D=aC (.lst ds)
 r:h.get R=aC (.lst (rs.map .ref))
 k:∀(g r:Nat),rs[g]?=aC r->h.get r=aC (.dm (K g))
section
variable{k0 h:VH}{D R:Nat}{rs:List Nat}{ds:List W}{K:Nat->Kv}
theorem DI.door(s:St k0 D R rs)(I:DI k0 D R rs ds K h)(ds':List W):DI k0 D R rs ds' K (h.set D (.lst ds')):=by have hD:=bV I.d;refine⟨I.gm.set s.d hD,sD I.d,?_,λg r e=>?_⟩;rw[rZ hD (eT s.dr)];exact I.r;rw[rZ hD (λz=>s.dn (z▸mP e))];exact I.k g r e
theorem DI.put(s:St k0 D R rs)(I:DI k0 D R rs ds K h){g r:Nat}(e:rs[g]?=aC r)(kv:Kv):DI k0 D R rs ds (λj=>if j=g then kv else K j) (h.set r (.dm kv)):=by have hr:=bV (I.k g r e);have hm:=mP e;refine⟨I.gm.set (s.ro r hm) hr,?_,?_,λj q e2=>?_⟩;rw[rZ hr (λz=>s.dn (by rw[z];exact hm))];exact I.d;rw[rZ hr (λz=>s.rn (by rw[z];exact hm))];exact I.r;by_cases z:j=g;subst z;rw[e]at e2;cases e2;rw[if_pos rfl];exact sD (I.k j r e);rw[if_neg z,rZ hr (λy=>z ?_)];exact I.k j q e2;obtain⟨h1,h2⟩:=gZ.mp e;obtain⟨h3,h4⟩:=gZ.mp e2;exact(List.getElem_inj s.nd).mp (by rw[h4,h2,y])
theorem DI.same(I:DI k0 D R rs ds K h){K':Nat->Kv}(e:∀g,g<rs.length->K g=K' g):DI k0 D R rs ds K' h:=⟨I.gm,I.d,I.r,λg r q=>by rw[<-e g (gZ.mp q).1];exact I.k g r q⟩
noncomputable abbrev cU(m p w g rows fd st:W)(x7:Option W)(D:Nat)(x9:Option W)(R:Nat)(jP iB iI iJ j8 gO gP jq gh i7:Option W):En:=
 [aC m,aC p,aC w,aC g,aC rows,aC fd,aC st,x7,aC (.ref D),x9,aC (.ref R),jP,iB,iI,iJ,j8,gO,gP,jq,gh,i7]
theorem zpw{cl:Call}{m p w gg rows fd:W}{x9 jP iB iI iJ gO gP gh i7:Option W}{G:Nat}{sts:List (List Int)}{e:Ev}{nx:Nat}(s:St k0 D R rs)(I:DI k0 D R rs ds K h)(hrs:rs.length=G)(hbl:e.b.length=G)(htl:e.t.length=G)(hst:sts[nx]?=aC e.t)(hK:∀g,(K g).length<=500)(hG:G<=8) :
 ∃x9' Mq h',exs cl (.«for» .l7 (.var 18) (.many [9,19]) G8) (cU m p w gg rows fd (.tup (sts.map iW)) (aC (.int e.c)) D x9 R jP iB iI iJ (aC (.int nx)) gO gP (aC (iW e.b)) gh i7) h=.ok (.nx (cU m p w gg rows fd (.tup (sts.map iW)) (aC (.int e.c)) D x9' R jP iB iI iJ (aC (.int nx)) gO gP (aC (iW e.b)) Mq i7)) h'/\DI k0 D R rs ds (λg=>bQ g (K g) e) h':=by
 obtain⟨ρ',h',e1,hI⟩:=sF (nx:=aU .l7 (iW e.b)) (tg:=bK (.many [9,19])) (b:=exs cl G8) (n:=G)
  (I:=λi ρ h1=>(∃x9 gh,ρ=cU m p w gg rows fd (.tup (sts.map iW)) (aC (.int e.c)) D x9 R jP iB iI iJ (aC (.int nx)) gO gP (aC (iW e.b)) gh i7)/\DI k0 D R rs ds (λg=>if g<i then bQ g (K g) e else K g) h1)
  (λi ρ h1 hi hI=>by
    obtain⟨⟨y9,ku,rfl⟩,I1⟩:=hI;have hb:=cM (show i<e.b.length by lia);have ht:=cM (show i<e.t.length by lia);have hr:=cM (show i<rs.length by lia);have gr:=I1.k i _ hr;rw[if_neg (g9 _)]at gr;have db:e.b.getD i 0=e.b[i]:=by rw[nQ,hb];rfl
    have dt:e.t.getD i 0=e.t[i]:=by rw[nQ,ht];rfl
    let ez:=cU m p w gg rows fd (.tup (sts.map iW)) (aC (.int e.c)) D (aC (.int (i:Int))) R jP iB iI iJ (aC (.int nx)) gO gP (aC (iW e.b)) (aC (.int e.b[i])) i7;have ec:ev cl (.cmp .ne (.var 19) (.idx (.idx (.var 6) (.var 15)) (.var 9))) ez h1=.ok (.bl (!decide (e.b[i]=e.t[i]))) h1:=by
     have q1:ev cl (.idx (.idx (.var 6) (.var 15)) (.var 9)) ez h1=.ok (.int e.t[i]) h1:=by refine gK (gK (z:=iW e.t) (aF (x:=.tup (sts.map iW)) rfl) (aF (x:=.int nx) rfl) ?_) (aF (x:=.int (i:Int)) rfl) ?_;exact lH (by rw[dY,hst];rfl);exact lH (by rw[dY,ht];rfl)
     rw[ev,aF (x:=.int e.b[i]) rfl,aE,q1,aE];simp only[bP,DW,lU,dz]
    refine⟨.tup [.int (i:Int),.int e.b[i]],ez,ez,if e.b[i]=e.t[i]then h1 else h1.set rs[i] (.dm (bQ i (K i) e)),?_,rfl,?_,⟨_,_,rfl⟩,?_⟩;show aC (((e.b.map W.int)[i]?).map λw=>W.tup [.int i,w])=_;rw[dY,hb];rfl;unfold G8;by_cases q:e.b[i]=e.t[i];rw[if_pos q];rw[iT q]at ec;refine(bM (ρ':=ez) (h':=h1) ?_).trans (by rw[exs]);rw[exs,ec,aE];show exs cl .skip ez h1=_;rw[exs];rw[if_neg q];rw[jt q]at ec;refine(bM (ρ':=ez) (h':=h1.set rs[i] (.dm (bQ i (K i) e))) ?_).trans (by rw[exs]);rw[exs,ec,aE];show exs cl (.seq (.put (.idx (.var 10) (.var 9)) (.var 7) (.tup (.cons (.var 9) (.cons (.op .sub (.cst (.int (1))) (.var 19)) .nil)))) .skip) ez h1=_;refine(bM (ρ':=ez) (h':=h1.set rs[i] (.dm (bQ i (K i) e))) ?_).trans (by rw[exs]);have Mr:ev cl (.tup (.cons (.var 9) (.cons (.op .sub (.cst (.int (1))) (.var 19)) .nil))) ez h1=.ok (.tup [.int (i:Int),.int (1-e.b[i])]) h1:=lz (aF rfl) (eN aQ (aF rfl) rfl);have ev2:ev cl (.idx (.var 10) (.var 9)) ez h1=.ok (.ref rs[i]) h1:=by refine gK (aF (x:=.ref R) rfl) (aF (x:=.int (i:Int)) rfl) ?_;simp only[cD,I1.r];exact lH (by rw[dY,hr];rfl)
    rw[exs,Mr,aE,ev2,aE,aF (x:=.int e.c) rfl,aE];simp only[gr,oG];rw[if_pos (Am (by have:=hK i;lia))];congr 2;unfold bQ;rw[db,dt,if_neg q];by_cases q:e.b[i]=e.t[i];rw[if_pos q];refine I1.same λg hg=>?_;by_cases z:g<i;rw[if_pos z,if_pos (by lia)];rw[if_neg z];by_cases z2:g=i;subst z2;rw[if_pos (jF _)];unfold bQ;rw[db,dt,if_pos q];rw[if_neg (by lia)];rw[if_neg q];refine(I1.put s hr (bQ i (K i) e)).same λg hg=>?_;by_cases z2:g=i;subst z2;rw[if_pos rfl,if_pos (jF _)];rw[if_neg z2];by_cases z:g<i;rw[if_pos z,if_pos (by lia)];rw[if_neg z,if_neg (by lia)])
  (λρ h1 hI=>by
    show aC (((e.b.map W.int)[G]?).map λw=>W.tup [.int G,w])=_;rw[jm (by rw[bG];lia)];rfl)
  G 0 fuel (cU m p w gg rows fd (.tup (sts.map iW)) (aC (.int e.c)) D x9 R jP iB iI iJ (aC (.int nx)) gO gP (aC (iW e.b)) gh i7) h (kC _) (show _<1000000 by lia) ⟨⟨_,_,rfl⟩,I.same λg _=>by rw[if_neg (AL _)]⟩
 obtain⟨⟨y9,ku,rfl⟩,I2⟩:=hI;refine⟨y9,ku,h',(gM (aF rfl)).trans e1,I2.same λg hg=>?_⟩;rw[if_pos (by lia)]
end
theorem zpx{g:Nat}{kv:Kv}{e:Ev}:(bQ g kv e).length<=kv.length+1:=by unfold bQ;split;exact o8 _;exact LW
theorem Ms{g:Nat}:∀{es:List Ev} {kv:Kv},(es.foldl (bQ g) kv).length<=kv.length+es.length
 |[],_=>aZ _
 |e::r,kv=>by
  rw[mQ,dj];have h1:=Ms (g:=g) (es:=r) (kv:=bQ g kv e);have h2:=zpx (g:=g) (kv:=kv) (e:=e);exact eS h1 (by rw[<-Nat.add_assoc,Nat.add_right_comm];exact Nat.add_le_add_right h2 _)
theorem zmk{g:Nat}{es:List Ev}{e:Ev}:fB g (es++[e])=bQ g (fB g es) e:=by unfold fB;rw[Fj];rfl
theorem zpy{es:List Ev}{e:Ev}{d:List W}:(es++[e]).foldl dB d=dB (es.foldl dB d) e:=by rw[Fj];rfl
theorem Va{S P s:Nat}{x:Int×Int}:∀{f:Nat} {A:List (Int×Int)},dD S P s f (A++[x])=dD S P s f A++[mK S P s (f+A.length) x]
 |f,[]=>rfl
 |f,y::A=>by
  rw[sQ,dD,dD,Va,dj,sQ,show f+1+A.length=f+ (A.length+1) by lia]
theorem Vb{S P:Nat}{x:List (Int×Int)}:∀{s:Nat} {A:List (List (Int×Int))},bW S P s (A++[x])=bW S P s A++dD S P (s+A.length) 0 x
 |s,[]=>by simp[bW]
 |s,y::A=>by
  rw[sQ,bW,bW,Vb,dj,AI,show s+1+A.length=s+ (A.length+1) by lia]
theorem Mu{S P s:Nat}:∀{f:Nat} {A:List (Int×Int)},(dD S P s f A).length=A.length|_,[]=>rfl|f,x::r=>by rw[dD,dj,Mu,dj]
theorem Mv{S P:Nat}:∀{s:Nat} {A:List (List (Int×Int))},(∀r∈A,r.length=P)->(bW S P s A).length=A.length*P
 |_,[],_=>by simp[bW]
 |s,x::r,h=>by
  rw[bW,fC,Mu,Mv λy hy=>h y (fS _ hy),h x gj,dj,Nat.add_mul];lia
noncomputable def EI(k0:VH)(D R:Nat)(rs:List Nat)(w:Nat)(es:List Ev)(h:VH):Prop:=DI k0 D R rs (es.foldl dB (bN w (.tup [.int 0,.int 0]))) (λg=>fB g es) h
section
variable{F:Nat->Option Fn}(Y:iA F)
include Y
theorem zzx{k:Nat}{k0 h:VH}{D R:Nat}{rs:List Nat}{S P:Nat}{es:List Ev}{m fd:W}{x7 x9 iB gO gP jq gh i7:Option W}{s f:Nat}{x:Int×Int}(sh:Shape S P)(st:St k0 D R rs)(hrs:rs.length=aW S)(hs:s<S)(hf:f<P)(hx:0<=x.2/\x.2<S)(hes:es.length<=400)(I:EI k0 D R rs (bz S P) es h) :
 ∃y7 y9 oS oU oV ku h',exs (run F (k+2)) G9 (cU m (aT S P).w (.int (bz S P)) (.int (aW S)) (.tup ((aR S P).map .tup)) fd (.tup (((List.range S).map λ(s:Nat)=>aP s (aW S)).map iW)) x7 D x9 R (aC (iW (aP s (aW S)))) iB (aC (.int f)) (aC (.int x.1)) (aC (.int x.2)) gO gP jq gh i7) h =
  .ok (.nx (cU m (aT S P).w (.int (bz S P)) (.int (aW S)) (.tup ((aR S P).map .tup)) fd (.tup (((List.range S).map λ(s:Nat)=>aP s (aW S)).map iW)) y7 D y9 R (aC (iW (aP s (aW S)))) iB (aC (.int f)) (aC (.int x.1)) (aC (.int x.2)) oS oU oV ku i7)) h'/\EI k0 D R rs (bz S P) (es++[mK S P s f x]) h':=by
 have hf':f< (aT S P).fd.length:=by show f< ((aX S P).map W.int).length;rw[bG,sh.rows.2.2.1];exact hf
 obtain⟨p1,p2,p3⟩:=sh.eF hf hs;have q:=sh.ok.eF (ls:=aP s (aW S)) (f:=f) hf' (by rw[uC];rfl) Ek;have wd:=sh.wd;have hG:=wg (S:=S);have Ez:0<=iR S f s/\iR S f s<bz S P:=by have:=q.c4;rw[p3]at this;exact this
 let e:=mK S P s f x;have Mw:=zvp Y (k:=k) (h:=h) sh.ok hf' (by rw[uC];rfl) (Ek (n:=aW S) (z:=s));let cs:=((aT S P).eF (aP s (aW S)) f).cs;let ts:=((aT S P).eF (aP s (aW S)) f).ts;have hl:((aT S P).eF (aP s (aW S)) f).ls.length=aW S:=by rw[q.l1,uC]
 let ds:=es.foldl dB (bN (bz S P) (W.tup [.int 0,.int 0]));have hdl:ds.length=bz S P:=by show(es.foldl dB _).length=_;rw[LY,wN]
 have I1:=DI.door st I (dB ds e);obtain⟨nx,Vc⟩:∃nx:Nat,x.2=nx:=⟨x.2.toNat,by lia⟩
 have hst:((List.range S).map λ(s:Nat)=>aP s (aW S))[nx]?=aC e.t:=by rw[dY,zu (by lia)];show aC (aP (nx:Int) (aW S))=aC (aP x.2 (aW S));rw[Vc]
 obtain⟨y9,ku,h',e5,I2⟩:=zpw (cl:=run F (k+2)) (m:=m) (p:=(aT S P).w) (w:=.int (bz S P)) (gg:=.int (aW S)) (rows:=.tup ((aR S P).map .tup)) (fd:=fd) (x9:=x9) (jP:=aC (iW (aP s (aW S)))) (iB:=iB) (iI:=aC (.int f)) (iJ:=aC (.int x.1)) (gO:=aC (iW ((aT S P).col f::cs))) (gP:=aC (iW ts)) (gh:=gh) (i7:=i7) (e:=e) (nx:=nx) st I1 hrs hl uC hst (λg=>by
  have:=Ms (g:=g) (es:=es) (kv:=[]);show(es.foldl (bQ g) []).length<=500;have h0:([]:Kv).length=0:=rfl;lia) (by lia)
 rw[<-Vc]at e5;refine⟨aC (.int e.c),y9,aC (iW ((aT S P).col f::cs)),aC (iW ts),aC (iW e.b),ku,h',?_,?_⟩;unfold G9;refine(bM (ρ':=cU m (aT S P).w (.int (bz S P)) (.int (aW S)) (.tup ((aR S P).map .tup)) fd (.tup (((List.range S).map λ(s:Nat)=>aP s (aW S)).map iW)) x7 D x9 R (aC (iW (aP s (aW S)))) iB (aC (.int f)) (aC (.int x.1)) (aC (.int x.2)) (aC (iW ((aT S P).col f::cs))) (aC (iW ts)) (aC (iW e.b)) gh i7) (h':=h) ?_).trans ?_;rw[exs,zzq (aF rfl) (aF rfl) (aF rfl) aQ Mw,aE];rfl;refine(bM (cz (x:=.int e.c) (h1:=h) (gK (aF rfl) (y:=.int (-1)) (h2:=h) (by rw[ev,aQ,aE]) ?_))).trans ?_;show eW (((aT S P).col f::cs).map W.int) (-1)=_;rw[zvm];show aC (W.int (gJ _ _))=aC (W.int (iR S f s));rw[p3];refine(bM (ρ':=cU m (aT S P).w (.int (bz S P)) (.int (aW S)) (.tup ((aR S P).map .tup)) fd (.tup (((List.range S).map λ(s:Nat)=>aP s (aW S)).map iW)) (aC (.int e.c)) D x9 R (aC (iW (aP s (aW S)))) iB (aC (.int f)) (aC (.int x.1)) (aC (.int x.2)) (aC (iW ((aT S P).col f::cs))) (aC (iW ts)) (aC (iW e.b)) gh i7) (h':=h.set D (.lst (dB ds e))) ?_).trans ?_;have Mr:∀ρ:En,ρ[14]?=aC (aC (.int x.1))->ev (run F (k+2)) (.tup (.cons (.var 14) (.cons (.cst (.int (0))) .nil))) ρ h=.ok (.tup [.int x.1,.int 0]) h:=λρ lI=>lz (aF lI) aQ;have hix:ju ds.length e.c=aC e.c.toNat:=by have:e.c=((e.c.toNat:Nat):Int):=(Int.toNat_of_nonneg Ez.1).symm;rw[this,Ut (by rw[hdl];have:=Ez.2;have h9:e.c=iR S f s:=rfl;lia)];rfl
 have gD:h.get D=aC (.lst ds):=I.d;rw[exs,Mr _ rfl,aE,aF (x:=.ref D) rfl,aE,aF (x:=.int e.c) rfl,aE];simp only[gD,hix];rfl;exact(bM e5).trans (by rw[exs]);unfold EI;rw[zpy];refine I2.same λg _=>?_;rw[zmk]
end
noncomputable def cG(S:Nat):List (List Int):=(List.range S).map λ(s:Nat)=>aP s (aW S)
section
variable{F:Nat->Option Fn}(Y:iA F)
include Y
theorem zml{k:Nat}{k0 h:VH}{D R:Nat}{rs:List Nat}{S P:Nat}{es:List Ev}{m fd:W}{row:List (Int×Int)}{x7 x9 iI iJ j8 gO gP jq gh i7:Option W}{s:Nat}(sh:Shape S P)(st:St k0 D R rs)(hrs:rs.length=aW S)(hs:s<S)(EA:row.length=P)(hx:∀x∈row,0<=x.2/\x.2<S)(hes:es.length<=300)(I:EI k0 D R rs (bz S P) es h) :
 ∃y7 y9 sI sJ sL oS oU oV ku h',exs (run F (k+2)) DQ (cU m (aT S P).w (.int (bz S P)) (.int (aW S)) (.tup ((aR S P).map .tup)) fd (.tup ((cG S).map iW)) x7 D x9 R (aC (iW (aP s (aW S)))) (aC (bZ row)) iI iJ j8 gO gP jq gh i7) h =
  .ok (.nx (cU m (aT S P).w (.int (bz S P)) (.int (aW S)) (.tup ((aR S P).map .tup)) fd (.tup ((cG S).map iW)) y7 D y9 R (aC (iW (aP s (aW S)))) (aC (bZ row)) sI sJ sL oS oU oV ku i7)) h'/\EI k0 D R rs (bz S P) (es++dD S P s 0 row) h':=by
 have p4:=sh.p4;obtain⟨ρ',h',e1,hI⟩:=sF (nx:=aU .l7 (bZ row)) (tg:=bK (.Ce 13 [14,15])) (b:=exs (run F (k+2)) G9) (n:=row.length)
  (I:=λj ρ h1=>(∃x7 x9 iI iJ j8 gO gP jq gh,ρ=cU m (aT S P).w (.int (bz S P)) (.int (aW S)) (.tup ((aR S P).map .tup)) fd (.tup ((cG S).map iW)) x7 D x9 R (aC (iW (aP s (aW S)))) (aC (bZ row)) iI iJ j8 gO gP jq gh i7)/\EI k0 D R rs (bz S P) (es++dD S P s 0 (row.take j)) h1)
  (λj ρ h1 hj hI=>by
    obtain⟨⟨z7,z9,Vd,Ve,Vf,Mx,My,Mz,MA,rfl⟩,I1⟩:=hI;have Vg:=cM hj;have ht:row.take (j+1)=row.take j++[row[j]]:=by rw[pN,Vg];rfl
    obtain⟨y7,y9,oS,oU,oV,ku,h2,e2,I2⟩:=zzx Y (k:=k) (m:=m) (fd:=fd) (x7:=z7) (x9:=z9) (iB:=aC (bZ row)) (gO:=Mx) (gP:=My) (jq:=Mz) (gh:=MA) (i7:=i7) (f:=j) (x:=row[j]) sh st hrs hs (by lia) (hx _ (lQ hj)) (by
     rw[fC,Mu,rP];lia) I1
    refine⟨.tup [.int j,cZ row[j]],_,_,h2,?_,rfl,e2,⟨_,_,_,_,_,_,_,_,_,rfl⟩,?_⟩;show aC (((row.map cZ)[j]?).map λw=>W.tup [.int j,w])=_;rw[dY,Vg];rfl;rw[ht,Va,<-AI,rP,kC,Nat.min_eq_left (sR hj)];exact I2)
  (λρ h1 hI=>by
    show aC (((row.map cZ)[row.length]?).map λw=>W.tup [.int row.length,w])=_;rw[jm (by rw[bG];exact aZ _)];rfl)
  row.length 0 fuel (cU m (aT S P).w (.int (bz S P)) (.int (aW S)) (.tup ((aR S P).map .tup)) fd (.tup ((cG S).map iW)) x7 D x9 R (aC (iW (aP s (aW S)))) (aC (bZ row)) iI iJ j8 gO gP jq gh i7) h (kC _) (show _<1000000 by lia)
  ⟨⟨_,_,_,_,_,_,_,_,_,rfl⟩,by rw[List.take_zero,dD,nS];exact I⟩
 obtain⟨⟨y7,y9,sI,sJ,sL,oS,oU,oV,ku,rfl⟩,I2⟩:=hI;rw[pO]at I2;refine⟨y7,y9,sI,sJ,sL,oS,oU,oV,ku,h',?_,I2⟩;unfold DQ;exact(bM ((gM (aF rfl)).trans e1)).trans (by rw[exs])
theorem zmm{k:Nat}{k0 h:VH}{D R:Nat}{rs:List Nat}{S P:Nat}{fd:W}{M:List (List (Int×Int))}(sh:Shape S P)(mo:za S P M)(st:St k0 D R rs)(hrs:rs.length=aW S)(I:EI k0 D R rs (bz S P) [] h) :
 ∃y7 y9 EB EC sI sJ sL oS oU oV ku h',exs (run F (k+2)) (.«for» .zip (.cons (.var 6) (.cons (.var 0) .nil)) (.many [11,12]) DQ) (cU (mW M) (aT S P).w (.int (bz S P)) (.int (aW S)) (.tup ((aR S P).map .tup)) fd (.tup ((cG S).map iW)) aD D aD R aD aD aD aD aD aD aD aD aD aD) h =
  .ok (.nx (cU (mW M) (aT S P).w (.int (bz S P)) (.int (aW S)) (.tup ((aR S P).map .tup)) fd (.tup ((cG S).map iW)) y7 D y9 R EB EC sI sJ sL oS oU oV ku aD)) h'/\EI k0 D R rs (bz S P) (bW S P 0 M) h':=by
 have jx:=sh.jx;have lM:=mo.l;have sp:=sh.sp;have nx:∀(i:Nat)(h:VH),aU .zip (.tup [.tup ((cG S).map iW),mW M]) i h=aC (match(cG S)[i]?,M[i]? with
  |some a,aC b=>aC (.tup [iW a,bZ b])
  |_,_=>aD):=λi h=>by
  show aC (match((cG S).map iW)[i]?,(M.map bZ)[i]? with|some a,aC b=>aC (W.tup [a,b])|_,_=>aD)=_
  rw[dY,dY];cases(cG S)[i]?<;>cases M[i]?<;>rfl
 have hst:∀i,i<S->(cG S)[i]?=aC (aP i (aW S)):=λi hi=>by
  unfold cG;rw[dY,zu hi];rfl
 obtain⟨ρ',h',e1,hI⟩:=sF (nx:=aU .zip (.tup [.tup ((cG S).map iW),mW M])) (tg:=bK (.many [11,12])) (b:=exs (run F (k+2)) DQ) (n:=S)
  (I:=λi ρ h1=>(∃x7 x9 jP iB iI iJ j8 gO gP jq gh,ρ=cU (mW M) (aT S P).w (.int (bz S P)) (.int (aW S)) (.tup ((aR S P).map .tup)) fd (.tup ((cG S).map iW)) x7 D x9 R jP iB iI iJ j8 gO gP jq gh aD)/\EI k0 D R rs (bz S P) (bW S P 0 (M.take i)) h1)
  (λi ρ h1 hi hI=>by
    obtain⟨⟨z7,z9,z11,z12,Vd,Ve,Vf,Mx,My,Mz,MA,rfl⟩,I1⟩:=hI;have hm:=cM (show i<M.length by lia);have ht:M.take (i+1)=M.take i++[M[i]]:=by rw[pN,hm];rfl
    have hmem:M[i]∈M:=lQ _;have hlen:(bW S P 0 (M.take i)).length<=300:=by rw[Mv (P:=P) λr hr=>mo.r r (List.mem_of_mem_take hr),rP];have:min i M.length*P<=S*P:=Nat.mul_le_mul_right _ (by lia);lia
    obtain⟨y7,y9,sI,sJ,sL,oS,oU,oV,ku,h2,e2,I2⟩:=zml Y (k:=k) (m:=mW M) (fd:=fd) (row:=M[i]) (x7:=z7) (x9:=z9) (iI:=Vd) (iJ:=Ve) (j8:=Vf) (gO:=Mx) (gP:=My) (jq:=Mz) (gh:=MA) (i7:=aD) sh st hrs hi (mo.r _ hmem) (λx hx=>(mo.p _ hmem x hx).2.2) hlen I1;refine⟨.tup [iW (aP i (aW S)),bZ M[i]],_,_,h2,?_,rfl,e2,⟨_,_,_,_,_,_,_,_,_,_,_,rfl⟩,?_⟩;rw[nx,hst i hi,hm];rw[ht,Vb,rP,kC,Nat.min_eq_left (by lia)];exact I2)
  (λρ h1 hI=>by
    rw[nx,jm (show M.length<=S by lia)];cases(cG S)[S]?<;>rfl)
  S 0 fuel (cU (mW M) (aT S P).w (.int (bz S P)) (.int (aW S)) (.tup ((aR S P).map .tup)) fd (.tup ((cG S).map iW)) aD D aD R aD aD aD aD aD aD aD aD aD aD) h (kC _) (show _<1000000 by lia)
  ⟨⟨_,_,_,_,_,_,_,_,_,_,_,rfl⟩,by rw[List.take_zero];exact I⟩
 obtain⟨⟨y7,y9,EB,EC,sI,sJ,sL,oS,oU,oV,ku,rfl⟩,I2⟩:=hI;rw[show M.take S=M by rw[<-lM,pO]]at I2;exact⟨y7,y9,EB,EC,sI,sJ,sL,oS,oU,oV,ku,h',(gM (aH (aF rfl) (aH (aF rfl) bf))).trans e1,I2⟩
end
theorem zvw{xs ys:List W}{h:VH}(hne:xs≠[])(hl:xs.length+ys.length<=1000000):xW .add (.tup xs) (.tup ys) h=.ok (.tup (xs++ys)) h:=by
 cases xs with
 |nil=>exact absurd rfl hne
 |cons x r=>
  show(if Nat.ble ((x::r).length+ys.length) big=true then Res.ok (W.tup (x::r++ys)) h else .no)=_;rw[if_pos (pG hl)]
theorem zrz:(Av.all λx=>(aW x.1==0) || !(aR x.1 x.2).isEmpty)=true:=by decide +kernel
theorem zr0{g:Nat}{es:List Ev}:jD (fB g es):=by
 have:∀(es:List Ev)(kv:Kv),jD kv->jD (es.foldl (bQ g) kv):=by
  intro es;induction es with
  |nil=>intro kv h;exact h
  |cons e r ih=>
   intro kv h;rw[mQ];refine ih _ ?_;unfold bQ;split;exact h;exact h.put (HU (x:=((g:Int),1-e.b.getD g 0)))
 exact this es [] .nil
theorem zzy{w:W}{c wd g:Int}(h:kq w c wd g):Pv w:=by rcases Ht h with⟨rfl,_⟩|⟨rfl,_⟩|⟨rfl,_⟩|rfl|rfl|⟨a,b,rfl,_⟩;exact Pv.str;exact Pv.str;exact Pv.str;exact Pv.str;exact Pv.str;exact HU (x:=((a:Int),(b:Int)))
theorem zr1{wd g:Int}{c:Int}{r:List W}(h:dM wd g c r):Pv (.tup r):=Pv.tup λw hw=>by
 obtain⟨i,hi,rfl⟩:=List.getElem_of_mem hw;exact zzy (LM i h (cM hi))
section
variable{F:Nat->Option Fn}(A:rm F)(C:pI F)(Y:iA F)
include C
theorem zvx{k:Nat}{k0 h:VH}{D R:Nat}{rs:List Nat}{S P:Nat}{es:List Ev}{m p fd sv:W}{x7 x9 jP iB iI iJ j8 gO gP jq gh:Option W}(sh:Shape S P)(st:St k0 D R rs)(hrs:rs.length=aW S)(hes:es.length<=400)(I:EI k0 D R rs (bz S P) es h) :
 ∃HV h',exs (run F (k+2)) (.«for» .seq (.var 10) (.one 20) Hf) (cU m p (.int (bz S P)) (.int (aW S)) (.tup ((aR S P).map .tup)) fd sv x7 D x9 R jP iB iI iJ j8 gO gP jq gh aD) h =
  .ok (.nx (cU m p (.int (bz S P)) (.int (aW S)) (.tup ((rA S P es).map .tup)) fd sv x7 D x9 R jP iB iI iJ j8 gO gP jq gh HV)) h'/\Gm k0 h'/\h'.get D=aC (.lst (es.foldl dB (bN (bz S P) (.tup [.int 0,.int 0])))):=by
 have wd:=sh.wd;have hG:=wg (S:=S);have hr60:=sh.rows.2.1;obtain⟨ρ',h',e1,hI⟩:=sF (nx:=aU .seq (.ref R)) (tg:=bK (.one 20)) (b:=exs (run F (k+2)) Hf) (n:=aW S)
  (I:=λi ρ h1=>(∃i7,ρ=cU m p (.int (bz S P)) (.int (aW S)) (.tup ((aR S P++(List.range' 0 i).flatMap (cC (bz S P) es)).map .tup)) fd sv x7 D x9 R jP iB iI iJ j8 gO gP jq gh i7)/\Gm k0 h1/\
    h1.get D=aC (.lst (es.foldl dB (bN (bz S P) (.tup [.int 0,.int 0]))))/\h1.get R=aC (.lst (rs.map .ref))/\∀(g r:Nat),i<=g->rs[g]?=aC r->h1.get r=aC (.dm (fB g es)))
  (λi ρ h1 hi hI=>by
    obtain⟨⟨z20,rfl⟩,w1,gD,gR,gk⟩:=hI;have hr:=cM (show i<rs.length by lia);have hm:rs[i]∈rs:=lQ _;have gi:=gk i _ (aZ _) hr;have hlen:=Ms (g:=i) (es:=es) (kv:=[]);have h0:([]:Kv).length=0:=rfl;obtain⟨j,h2,e2,g2,hj,n2,o2,lo2⟩:=zzs C (k:=k) (n:=bz S P) (h:=h1) (p:=rs[i]) gi zr0 (show(es.foldl (bQ i) []).length<=1000 by lia) (by lia);have hD:=bV gD;have hR:=bV gR;have hne:(aR S P++(List.range' 0 i).flatMap (cC (bz S P) es)).map W.tup≠[]:=by
     have:=iU.mp zrz _ (Ej sh.s1 sh.p1 sh.p4 sh.sp);simp only[pL,lC,uK,List.isEmpty_eq_false_iff]at this;rcases this with this|this
     exact absurd this (by show ¬aW S=0;lia);intro z;rw[List.map_eq_nil_iff,List.append_eq_nil_iff]at z;exact this z.1
    have hle:((aR S P++(List.range' 0 i).flatMap (cC (bz S P) es)).map W.tup).length<=1000:=by
     rw[bG,fC];have:((List.range' 0 i).flatMap (cC (bz S P) es)).length=i*2:=by
      rw[List.length_flatMap];have:(List.range' 0 i).map (λg=>(cC (bz S P) es g).length)=bN i 2:=by apply List.ext_getElem?;intro j;rw[dY,Ff];by_cases q:j<i;rw[if_pos q,List.getElem?_range' q];rfl;rw[if_neg q,jm (by rw[zw];lia)];rfl
      rw[this,List.sum_replicate_nat]
     lia
    have EA:aR S P++(List.range' 0 (i+1)).flatMap (cC (bz S P) es)=(aR S P++(List.range' 0 i).flatMap (cC (bz S P) es))++cC (bz S P) es i:=by rw[List.range'_concat,List.flatMap_append,<-AI];simp
    refine⟨.ref rs[i],cU m p (.int (bz S P)) (.int (aW S)) (.tup ((aR S P++(List.range' 0 i).flatMap (cC (bz S P) es)).map .tup)) fd sv x7 D x9 R jP iB iI iJ j8 gO gP jq gh (aC (.ref rs[i])),cU m p (.int (bz S P)) (.int (aW S)) (.tup ((aR S P++(List.range' 0 (i+1)).flatMap (cC (bz S P) es)).map .tup)) fd sv x7 D x9 R jP iB iI iJ j8 gO gP jq gh (aC (.ref rs[i])),h2,?_,rfl,?_,⟨_,rfl⟩,?_,?_,?_,?_⟩;rw[Aw gR,hr];rfl;unfold Hf;refine(bM (ρ':=cU m p (.int (bz S P)) (.int (aW S)) (.tup ((aR S P++(List.range' 0 (i+1)).flatMap (cC (bz S P) es)).map .tup)) fd sv x7 D x9 R jP iB iI iJ j8 gO gP jq gh (aC (.ref rs[i]))) (h':=h2) ?_).trans (by rw[exs]);have et:ev (run F (k+2)) (.bi .tuple (.cons (.call 36 (.cons (.var 2) (.cons (.var 20) .nil))) .nil)) (cU m p (.int (bz S P)) (.int (aW S)) (.tup ((aR S P++(List.range' 0 i).flatMap (cC (bz S P) es)).map .tup)) fd sv x7 D x9 R jP iB iI iJ j8 gO gP jq gh (aC (.ref rs[i]))) h1=.ok (.tup ((cC (bz S P) es i).map .tup)) h2:=
     uF (lJ (aF rfl) (aF rfl) e2) (rE g2)
    rw[exs];show((ev (run F (k+2)) (.bi .tuple (.cons (.call 36 (.cons (.var 2) (.cons (.var 20) .nil))) .nil)) _ h1).bind _)=_;rw[et,aE,zvw hne (by rw[bG (as:=cC (bz S P) es i)];show _+2<=_;lia),aE,<-gu,<-EA];rfl;refine⟨eS w1.le n2,?_,λq hq=>?_⟩;have:=w1.lo;have:=st.ro _ hm;lia;rw[o2 q (dF hq w1.le) (λz=>by have:=st.ro _ hm;lia),w1.get q hq];rw[o2 D hD (λz=>st.dn (by rw[z];exact hm))];exact gD;rw[o2 R hR (λz=>st.rn (by rw[z];exact hm))];exact gR;intro g r hg hgr;have gg:=gk g r (by lia) hgr;rw[o2 r (bV gg) (λz=>?_)];exact gg;obtain⟨q1,q2⟩:=gZ.mp hgr;have:=(List.getElem_inj st.nd (h₀:=q1) (h₁:=show i<rs.length by lia)).mp (by rw[q2,z]);lia)
  (λρ h1 hI=>by rw[Aw hI.2.2.2.1,jm (by lia)];rfl)
  (aW S) 0 fuel (cU m p (.int (bz S P)) (.int (aW S)) (.tup ((aR S P).map .tup)) fd sv x7 D x9 R jP iB iI iJ j8 gO gP jq gh aD) h (kC _) (show _<1000000 by lia)
  ⟨⟨aD,by rw[show List.range' 0 0=[]from rfl,List.flatMap_nil,nS]⟩,I.gm,I.d,I.r,λg r _ e=>I.k g r e⟩
 obtain⟨⟨HV,rfl⟩,w2,gD,_,_⟩:=hI;exact⟨HV,h',(gM (aF rfl)).trans e1,w2,gD⟩
end
section
variable{F:Nat->Option Fn}(A:iw F)(C:pI F)(Y:iA F)
include A C Y
theorem zfn{k S P:Nat}{h:VH}{M:List (List (Int×Int))}(sh:Shape S P)(mo:za S P M):run F (k+6) 187 [mW M] h=.ok (.tup [(ly S P M).w,.tup ((cG S).map iW)]) h:=by
 have jx:=sh.jx;have s1:=sh.s1;have p1:=sh.p1;have p4:=sh.p4;have sp:=sh.sp;have wd:=sh.wd;have hG:=wg (S:=S);obtain⟨r0,M',rfl⟩:∃r M',M=r::M':=by
  cases M with|nil=>have:=mo.l;simp at this;lia|cons r M'=>exact⟨r,M',rfl⟩
 generalize hM:r0::M'=M at mo;have l0:r0.length=P:=mo.r r0 (hM▸gj);have lM:=mo.l;have i0:∀g:VH,cD g (mW M) (.int 0)=aC (bZ r0):=λg=>by rw[<-hM];exact L8
 let k0:VH:=⟨h.n,h.n,h.os⟩
 have e69:=zpv A C (k:=k) (h:=k0) sh mo;have e77:=zpu A C (k:=k) (h:=k0) sh;obtain⟨ys,ρ',h',e1,hI⟩:=lA (nx:=aU .bU (.tup [.int S])) (tg:=bK (.one 0)) (e:=ev (run F (k+5)) Lm) (n:=S)
  (I:=λi ρ h1 acc=>(∃x,ρ=[x,aC (.int (aW S))])/\h1=k0/\acc=((List.range i).map λ(s:Nat)=>aP s (aW S)).map iW)
  (λi ρ h1 acc hi hI=>by
    obtain⟨⟨x,rfl⟩,rfl,rfl⟩:=hI;refine⟨.int (i:Int),[aC (.int (i:Int)),aC (.int (aW S))],iW (aP i (aW S)),_,?_,rfl,lJ (aF rfl) (aF rfl) (zzt C (k:=k+4) (by lia)),⟨_,rfl⟩,rfl,?_⟩;rw[jo (by lia),if_pos hi];rw[Ft,gu,gu];rfl)
  (λρ h1 acc hI=>by rw[jo (by lia),if_neg (g9 _)])
  (ρ:=[aD,aC (.int (aW S))]) (h:=k0) (by lia) ⟨⟨aD,rfl⟩,rfl,rfl⟩
 obtain⟨_,rfl,rfl⟩:=hI;let k1:=k0.new (.lst ((cG S).map iW));obtain⟨ys,ρ',h',e2,hI⟩:=lA (nx:=aU .bU (.tup [.int (bz S P)])) (tg:=bK (.one 0)) (e:=ev (run F (k+5)) Ln) (n:=bz S P)
  (I:=λi ρ h1 acc=>(∃x,ρ=[x])/\h1=k1/\acc=bN i (W.tup [.int 0,.int 0]))
  (λi ρ h1 acc hi hI=>by
    obtain⟨⟨x,rfl⟩,rfl,rfl⟩:=hI;refine⟨.int (i:Int),[aC (.int (i:Int))],.tup [.int 0,.int 0],_,?_,rfl,aQ,⟨_,rfl⟩,rfl,?_⟩;rw[jo (by lia),if_pos hi];rw[<-List.replicate_succ'])
  (λρ h1 acc hI=>by rw[jo (by lia),if_neg (g9 _)])
  (ρ:=[aD]) (h:=k1) (by lia) ⟨⟨aD,rfl⟩,rfl,rfl⟩
 obtain⟨_,rfl,rfl⟩:=hI;let k2:=k1.new (.lst (bN (bz S P) (W.tup [.int 0,.int 0])));obtain⟨ys,ρ',h',e3,hI⟩:=lA (nx:=aU .bU (.tup [.int (aW S)])) (tg:=bK (.one 0)) (e:=ev (run F (k+5)) G7) (n:=aW S)
  (I:=λi ρ h1 acc=>(∃x,ρ=[x])/\Gm k2 h1/\h1.n=k2.n+i/\acc=(List.range' k2.n i).map W.ref/\∀j,j<i->h1.get (k2.n+j)=aC (.dm []))
  (λi ρ h1 acc hi hI=>by
    obtain⟨⟨x,rfl⟩,w1,n1,rfl,g1⟩:=hI;refine⟨.int (i:Int),[aC (.int (i:Int))],.ref h1.n,h1.new (.dm []),?_,rfl,?_,⟨_,rfl⟩,w1.new,?_,?_,λj hj=>?_⟩;rw[jo (by lia),if_pos hi];unfold G7;rw[ev,bf,aE];rfl;show h1.n+1=_;lia;rw[List.range'_concat,gu,n1,Nat.one_mul];rfl;by_cases q:j=i;subst q;rw[<-n1];exact dG;rw[iD (by lia)];exact g1 j (by lia))
  (λρ h1 acc hI=>by rw[jo (by lia),if_neg (g9 _)])
  (ρ:=[aD]) (h:=k2) (by lia) ⟨⟨aD,rfl⟩,.refl,rfl,rfl,λj hj=>absurd hj (AL _)⟩
 obtain⟨_,w3,n3,rfl,g3⟩:=hI;let k3:=h'.new (.lst ((List.range' k2.n (aW S)).map W.ref));have hn2:k2.n=h.n+1+1:=rfl;have st:St k0 k1.n h'.n (List.range' k2.n (aW S)):=by have hk1:k1.n=h.n+1:=rfl;have hk0:k0.n=h.n:=rfl;refine⟨by lia,by lia,λx hx=>?_,by lia,λz=>?_,λz=>?_,List.nodup_range'⟩;have:=(Fi.mp hx).1;lia;have:=(Fi.mp z).1;lia;have:=(Fi.mp z).2;lia
 have w02:Gm k0 k2:=(Gm.refl.new).new;have gD:k3.get k1.n=aC (.lst (bN (bz S P) (W.tup [.int 0,.int 0]))):=by rw[show k3.get k1.n=h'.get k1.n from iD (by have hk1:k1.n=h.n+1:=rfl;lia),w3.get k1.n (jF _)];exact dG (h:=k1)
 have I:EI k0 k1.n h'.n (List.range' k2.n (aW S)) (bz S P) [] k3:=by
  refine⟨(w02.trans w3).new,gD,dG,λg r e=>?_⟩;have hg:g<aW S:=by have:=(gZ.mp e).1;rw[zw]at this;exact this
  rw[List.getElem?_range' hg]at e;cases e;rw[Nat.one_mul,show k3.get (k2.n+g)=h'.get (k2.n+g)from iD (by lia)];exact g3 g hg
 have hev:(bW S P 0 M).length<=400:=by rw[Mv mo.r,lM];lia
 obtain⟨y7,y9,EB,EC,sI,sJ,sL,oS,oU,oV,ku,k4,e4,I4⟩:=zmm Y (k:=k+3) (fd:=.tup ((aX S P).map .int)) sh mo st (by rw[zw]) I;obtain⟨HV,k5,e5,w5,gD5⟩:=zvx C (k:=k+3) (m:=mW M) (p:=(aT S P).w) (fd:=.tup ((aX S P).map .int)) (sv:=.tup ((cG S).map iW)) (x7:=y7) (x9:=y9) (jP:=EB) (iB:=EC) (iI:=sI) (iJ:=sJ) (j8:=sL) (gO:=oS) (gP:=oU) (jq:=oV) (gh:=ku) sh st (by rw[zw]) hev I4;have els:ev (run F (k+5)) (.lc .bU (.cons (.bi .len (.cons (.var 0) .nil)) .nil) (.one 0) 1 [3] (.cst (.bl true)) Lm) [aC (mW M),aC (aT S P).w,aC (.int (bz S P)),aC (.int (aW S)),aC (.tup ((aR S P).map .tup)),aC (.tup ((aX S P).map .int)),aD,aD,aD,aD,aD,aD,aD,aD,aD,aD,aD,aD,aD,aD,aD] k0=.ok (.ref k0.n) k1:=by
  have MB:ev (run F (k+5)) (.bi .len (.cons (.var 0) .nil)) [aC (mW M),aC (aT S P).w,aC (.int (bz S P)),aC (.int (aW S)),aC (.tup ((aR S P).map .tup)),aC (.tup ((aX S P).map .int)),aD,aD,aD,aD,aD,aD,aD,aD,aD,aD,aD,aD,aD,aD,aD] k0=.ok (.int S) k0:=
   jl (ws:=M.map bZ) (aF (x:=mW M) rfl) rfl |>.trans (by rw[bG,lM])
  rw[ev,aH MB bf,aE,Al];show((i6 _ _ _ _ fuel 0 [aD,aC (.int (aW S))] k0 []).bind _)=_;rw[e1,aE,if_pos (pG (by rw[bG,bG,wR];lia))];rfl
 have eld:ev (run F (k+5)) (.lc .bU (.cons (.var 2) .nil) (.one 0) 1 [] (.cst (.bl true)) Ln) [aC (mW M),aC (aT S P).w,aC (.int (bz S P)),aC (.int (aW S)),aC (.tup ((aR S P).map .tup)),aC (.tup ((aX S P).map .int)),aC (.tup ((cG S).map iW)),aD,aD,aD,aD,aD,aD,aD,aD,aD,aD,aD,aD,aD,aD] k1=.ok (.ref k1.n) k2:=by rw[ev,aH (aF (x:=.int (bz S P)) rfl) bf,aE,Al];show((i6 _ _ _ _ fuel 0 [aD] k1 []).bind _)=_;rw[e2,aE,if_pos (pG (by rw[wN];lia))]
 have elr:ev (run F (k+5)) (.lc .bU (.cons (.var 3) .nil) (.one 0) 1 [] (.cst (.bl true)) G7) [aC (mW M),aC (aT S P).w,aC (.int (bz S P)),aC (.int (aW S)),aC (.tup ((aR S P).map .tup)),aC (.tup ((aX S P).map .int)),aC (.tup ((cG S).map iW)),aD,aC (.ref k1.n),aD,aD,aD,aD,aD,aD,aD,aD,aD,aD,aD,aD] k2=.ok (.ref h'.n) k3:=by rw[ev,aH (aF (x:=.int (aW S)) rfl) bf,aE,Al];show((i6 _ _ _ _ fuel 0 [aD] k2 []).bind _)=_;rw[e3,aE,if_pos (pG (by rw[bG,zw];lia))]
 have eb:exs (run F (k+5)) nC.body [aC (mW M),aD,aD,aD,aD,aD,aD,aD,aD,aD,aD,aD,aD,aD,aD,aD,aD,aD,aD,aD,aD] ⟨h.n,h.n,h.os⟩=.ok (.rt (.tup [(ly S P M).w,.tup ((cG S).map iW)])) k5:=by
  refine(bM (ρ':=[aC (mW M),aD,aD,aD,aD,aD,aD,aD,aD,aD,aD,aD,aD,aD,aD,aD,aD,aD,aD,aD,aD]) (h':=k0) ?_).trans ?_;rw[exs,wz (wk (aF rfl) e69),aE];show exs _ .skip _ _=_;rw[exs];refine(bM (cz (x:=(aT S P).w) (h1:=k0) (lJ (x:=.int S) (y:=.int P) (h1:=k0) (h2:=k0) ?_ ?_ e77))).trans ?_;exact jl (ws:=M.map bZ) (aF (x:=mW M) rfl) rfl |>.trans (by rw[bG,lM])
  exact jl (ws:=r0.map cZ) (gK (aF (x:=mW M) rfl) aQ (i0 _)) rfl |>.trans (by rw[bG,l0])
  refine(bM (ρ':=[aC (mW M),aC (aT S P).w,aC (.int (bz S P)),aC (.int (aW S)),aC (.tup ((aR S P).map .tup)),aC (.tup ((aX S P).map .int)),aD,aD,aD,aD,aD,aD,aD,aD,aD,aD,aD,aD,aD,aD,aD]) (h':=k0) ?_).trans ?_;have Mf:ev (run F (k+5)) (.slc (.var 1) false (.cst .aL) true (.cst (.int (4)))) [aC (mW M),aC (aT S P).w,aD,aD,aD,aD,aD,aD,aD,aD,aD,aD,aD,aD,aD,aD,aD,aD,aD,aD,aD] k0=.ok (.tup [.int (bz S P),.int (aW S),.tup ((aR S P).map .tup),.tup ((aX S P).map .int)]) k0:=by rw[ev,aF (x:=(aT S P).w) rfl,aE,aQ,aE,aQ,aE];rfl
  show exs (run F (k+5)) (.xU [2,3,4,5] _) [aC (mW M),aC (aT S P).w,aD,aD,aD,aD,aD,aD,aD,aD,aD,aD,aD,aD,aD,aD,aD,aD,aD,aD,aD] k0=_;rw[exs,Mf,aE];rfl;refine(bM (cz (x:=.tup ((cG S).map iW)) (h1:=k1) (uF (x:=.ref k0.n) (h1:=k1) els (rE dG)))).trans ?_;refine(bM (cz (x:=.ref k1.n) (h1:=k2) eld)).trans ?_;refine(bM (cz (x:=.ref h'.n) (h1:=k3) elr)).trans ?_;refine(bM e4).trans ?_;refine(bM e5).trans ?_;refine gH (dS (lz (wm (aF rfl) (aF rfl) (aF rfl) (aF rfl) (uF (aF rfl) (rE gD5))) (aF rfl)))
 have ok:=UG sh mo;have pv:Pv (.tup [(ly S P M).w,.tup ((cG S).map iW)]):=by
  refine Pv.tup λw hw=>?_;rcases eO.mp hw with rfl|hw
  refine Pv.tup λw hw=>?_;simp only[eO,uS,uJ]at hw;rcases hw with rfl|rfl|rfl|rfl|rfl
  exact Pv.int;exact Pv.int;refine Pv.tup λw hw=>?_;obtain⟨r,hr,rfl⟩:=iK.mp hw;exact zr1 (UB sh ok r hr).2;refine Pv.tup λw hw=>?_;obtain⟨r,hr,rfl⟩:=iK.mp hw;exact Pv.int;refine Pv.tup λw hw=>?_;have:∀(es:List Ev)(d:List W),(∀w∈d,Pv w)->∀w∈es.foldl dB d,Pv w:=by
   intro es;induction es with
   |nil=>intro d h;exact h
   |cons e r ih=>
    intro d h;rw[mQ];refine ih _ λw hw=>?_;rcases Fd hw with hw|rfl
    exact h w hw;exact HU (x:=(e.n,0))
  exact this _ _ (λw hw=>by rw[Fe hw];exact HU (x:=(0,0))) w hw;rw[jE.mp hw];refine Pv.tup λw hw=>?_;obtain⟨r,hr,rfl⟩:=iK.mp hw;refine Pv.tup λw hw=>?_;obtain⟨r,hr,rfl⟩:=iK.mp hw;exact Pv.int
 rw[gp C.Mc rfl];show fin h (exs (run F (k+5)) nC.body [aC (mW M),aD,aD,aD,aD,aD,aD,aD,aD,aD,aD,aD,aD,aD,aD,aD,aD,aD,aD,aD,aD] ⟨h.n,h.n,h.os⟩)=_;rw[eb];exact pJ pv w5
end
theorem zvy{h h':VH}{w:W}:∃h2,fin h (.ok (.rt w) h')=.ok w h2:=by show ∃h2,leave h w h'=.ok w h2;unfold leave;split<;>exact⟨_,rfl⟩
theorem ED{h:VH}{d c b:Nat}(D:Dk h d c b):d<h.n/\c<h.n:=by obtain⟨_,ns,cells,p,q,a1,a2,_⟩:=D;exact⟨bV a1,bV a2⟩
theorem Vh{cl:Call}{c:E}{b:S}{ρ:En}{h h1:VH}(e:ev cl c ρ h=.ok (.bl false) h1):exs cl (.ite c b .skip) ρ h=.ok (.nx ρ) h1:=by rw[exs,e,aE];show exs _ .skip _ _=_;rw[exs]
theorem MC{cl:Call}{a b:E}{ρ:En}{h h1:VH}(ea:ev cl a ρ h=.ok (.bl false) h1):ev cl (.or a b) ρ h=ev cl b ρ h1:=by rw[ev,ea,aE]
theorem Vi{cl:Call}{a b:E}{ρ:En}{h h1:VH}(ea:ev cl a ρ h=.ok (.bl true) h1):ev cl (.or a b) ρ h=.ok (.bl true) h1:=by rw[ev,ea,aE]
theorem anT{cl:Call}{a b:E}{ρ:En}{h h1:VH}(ea:ev cl a ρ h=.ok (.bl true) h1):ev cl (.and a b) ρ h=ev cl b ρ h1:=by rw[ev,ea,aE]
theorem EE{cl:Call}{c:Cp}{a b:E}{ρ:En}{h h1 h2:VH}{x y:W}{r:Bool}(ea:ev cl a ρ h=.ok x h1)(eb:ev cl b ρ h1=.ok y h2)(e:bP c h2 x y=aC r):ev cl (.cmp c a b) ρ h=.ok (.bl r) h2:=by rw[ev,ea,aE,eb,aE,e];rfl
theorem isT{cl:Call}{a:E}{ρ:En}{h h1:VH}{ws:List W}(ea:ev cl a ρ h=.ok (.tup ws) h1):ev cl (.not (.ou (.rW .tuple a))) ρ h=.ok (.bl false) h1:=by refine wz (b:=true) ?_;rw[ev,ea,aE];rfl
theorem zvz{w:W}{lo hi:Int}(h:within w lo hi):∃i,w=.int i/\lo<=i/\i<=hi:=by
 cases w<;>simp only[within]at h<;>try(cases h;done)
 rw[bw,gW,gW]at h;exact⟨_,rfl,h⟩
theorem zr3:(Av.all λx=>decide ((aR x.1 x.2).length+2*aW x.1<=60))=true:=by decide +kernel
theorem Vj{Pd:W->Prop}:∀{es:List Ev} {d:List W},(∀w∈d,Pd w)->(∀e∈es,Pd (.tup [.int e.n,.int 0]))->∀w∈es.foldl dB d,Pd w
 |[],d,h,_=>h
 |e::r,d,h,he=>by
  rw[mQ];refine Vj (λw hw=>?_) λx hx=>he x (fS _ hx);rcases Fd hw with hw|rfl
  exact h w hw;exact he e gj
theorem zmn{S P:Nat}{M:List (List (Int×Int))}(mo:za S P M):∀d∈nJ S P M,∃n:Int,d=.tup [.int n,.int 0]/\0<=n/\n<=99:=
 Vj (λw hw=>⟨0,Fe hw,by decide,by decide⟩) λe he=>by
  obtain⟨j,i,row,x,h1,h2,rfl⟩:=HH he;have:=mo.p row (mP h1) x (mP h2);exact⟨x.1,rfl,this.1,this.2.1⟩
theorem Vk{w:Nat}{es:List Ev}:∀l:List Nat,(l.map λg=>(cC w es g).length).sum=l.length*2
 |[]=>rfl
 |a::r=>by
  rw[fD,List.sum_cons,Vk r,dj];show 2+_=_;lia
theorem zv0{S P:Nat}{M:List (List (Int×Int))}(sh:Shape S P)(mo:za S P M):(ly S P M).Ok:=by
 obtain⟨r,r1,f1,f2,_⟩:=sh.rows;have w:=sh.wd;have p1:=sh.p1;have ok:=UG sh mo;have fr:=iU.mp zr3 _ (Ej sh.s1 sh.p1 sh.p4 sh.sp);rw[gW]at fr;refine⟨?_,?_,?_,?_,?_,UB sh ok,?_,?_,?_,?_,?_⟩;show(1:Int)<=(bz S P:Nat)
 unfold bz;lia;show((bz S P:Nat):Int)<=40;lia;exact FA _;have:=wg (S:=S);show((aW S:Nat):Int)<=8;lia;show(aR S P++(List.range' 0 (aW S)).flatMap (cC (bz S P) (bW S P 0 M))).length<=60;rw[fC,List.length_flatMap,Vk,zw];lia;show 1<=((aX S P).map W.int).length;rw[bG,f1];exact sh.p1;show((aX S P).map W.int).length<=4;rw[bG,f1];exact sh.p4;intro f hf;obtain⟨c,hc,rfl⟩:=iK.mp hf;have:=f2 c hc;show(decide (0<=c)&&decide (c<=(bz S P:Int)-1))=true;rw[iT this.1,iT this.2];rfl;show((nJ S P M).length:Int)=(bz S P:Nat)
 unfold nJ;rw[LY,wN];intro d hd;obtain⟨n,rfl,n0,n1⟩:=zmn mo d hd;show door (.tup [.int n,.int 0]) (((aX S P).map W.int).length:Int)=true;rw[bG,f1];simp[door,within,DV,eX];lia
noncomputable def fR(ns:List Int):List (List (Int×Int)):=(List.range ns.length).map λ(i:Nat)=>[(ns.getD i 0,((i:Int)+1) % (ns.length:Int))]
theorem zmo{ns:List Int}(h1:1<=ns.length)(h2:ns.length<=16):Shape ns.length 1:=⟨h1,aZ _,by decide,by lia⟩
theorem zr4{ns:List Int}(h1:1<=ns.length)(hb:∀x∈ns,0<=x/\x<=99):za ns.length 1 (fR ns):=by
 refine⟨by unfold fR;rw[bG,wR],λrow hr=>?_,λrow hr x hx=>?_⟩;obtain⟨i,_,rfl⟩:=iK.mp hr;rfl;obtain⟨i,hi,rfl⟩:=iK.mp hr;rw[jE.mp hx];have hi:=oY.mp hi;have hm:ns.getD i 0∈ns:=by rw[nQ,cM hi];exact lQ hi
 have:=hb _ hm;have p:(0:Int)<ns.length:=by lia
 exact⟨this.1,this.2,AN _ (by lia),AM _ p⟩
theorem zv1{ns:List Int}{i:Nat}(hi:i<ns.length):(fR ns)[i]?=aC [(ns.getD i 0,((i:Int)+1) % (ns.length:Int))]:=by unfold fR;rw[dY,zu hi];rfl
mutual
theorem wA{m n:Nat}(h:m<=n):∀w:W,W.lt m w=true->W.lt n w=true
 |.tup ws,e=>by simp only[W.lt]at e ⊢;exact MD h ws e
 |.fz ws,e=>by simp only[W.lt]at e ⊢;exact MD h ws e
 |.ref i,e=>by
  simp only[W.lt]at e ⊢;exact gA.mpr (dF (gA.mp e) h)
 |.aL,_=>by simp
 |.bl _,_=>by simp
 |.int _,_=>by simp
 |.str _,_=>by simp
theorem MD{m n:Nat}(h:m<=n):∀ws:List W,W.ir m ws=true->W.ir n ws=true
 |[],_=>by simp
 |w::ws,e=>by
  simp only[W.ir,bw]at e ⊢;exact⟨wA h w e.1,MD h ws e.2⟩
end
theorem Vl{n:Nat}{w:W}(hw:W.lt n w=false):∀{ws:List W},w∈ws->W.ir n ws=false
 |x::ws,h=>by
  simp only[W.ir];rcases eO.mp h with rfl|h
  rw[hw];rfl;rw[Vl hw h,E5]
theorem zmp{n:Nat}{w:W}{ws:List W}(hw:W.lt n w=false)(h:w∈ws):W.lt n (.tup ws)=false:=by simp only[W.lt];exact Vl hw h
theorem ME{h:VH}{o o':VO}{d c:Nat}:bL h ((h.new o).set h.n o') d c:=⟨o8 _,λi x _ _ e=>by
 have hi:=bV e;rw[yS dG (by lia),iD hi];exact e⟩
theorem zv2{h:VH}{d c l:Nat}:bL h ⟨h.n,l,h.os⟩ d c:=⟨aZ _,λi o _ _ e=>e⟩
noncomputable def Gd(d c:Nat)(T:VH->W->Prop)(n:Nat)(h:VH)(w:W):Prop:=(∀h2,T h2 w)\/(W.lt n w=false/\∀h2,bL h h2 d c->T h2 w)
section
variable{d c n:Nat}{T T':VH->W->Prop}{h h1:VH}{w:W}
theorem Gd.keep(g:Gd d c T n h w)(K:bL h h1 d c):Gd d c T n h1 w:=g.imp id λz=>⟨z.1,λh2 k=>z.2 h2 (K.trans k)⟩
theorem Gd.all(g:Gd d c T n h w):∀h2,bL h h2 d c->T h2 w:=g.elim (λz h2 _=>z h2) λz=>z.2
theorem Gd.le{m:Nat}(g:Gd d c T n h w)(hm:m<=n):Gd d c T m h w:=g.imp id λz=>⟨by
 cases q:W.lt m w with|false=>rfl|true=>rw[wA hm w q]at z;exact absurd z.1 (by simp),z.2⟩
theorem Gd.into{f:W->W}(g:Gd d c T n h w)(hf:∀h,T h w->T' h (f w))(hl:W.lt n w=false->W.lt n (f w)=false):Gd d c T' n h (f w):=
 g.imp (λz h2=>hf h2 (z h2)) λz=>⟨hl z.1,λh2 k=>hf h2 (z.2 h2 k)⟩
end
theorem EF{h h':VH}{d c b b0:Nat}{w:W}{body:S}{ρ:En}{F:Nat->Option Fn}{k:Nat}{T:VH->W->Prop}(e:exs (run F k) body ρ ⟨h.n,h.n,h.os⟩=.ok (.rt w) h')(D0:Dk h d c b0)(D:Dk h' d c b)(K:bL ⟨h.n,h.n,h.os⟩ h' d c)(G:Gd d c T h.n h' w) :
 ∃h2,fin h (exs (run F k) body ρ ⟨h.n,h.n,h.os⟩)=.ok w h2/\Dk h2 d c b/\bL h h2 d c/\Gd d c T h.n h2 w:=by
 obtain⟨h2,e2,D2,K2⟩:=zrn (cl:=run F k) (fl:=.nx []) e (.inr ⟨_,D0⟩) D K;refine⟨h2,e2,D2,K2,?_⟩;rcases G with G|⟨G1,G2⟩;exact .inl G;refine .inr ⟨G1,λh3 K3=>G2 h3 ?_⟩;rw[e]at e2;have e2:leave h w h'=.ok w h2:=e2;unfold leave at e2;rw[G1,E5]at e2;cases e2;exact(zv2 (h:=h') (l:=if Nat.ble h.lo h'.lo then h.lo else h'.lo)).trans K3
noncomputable def nN:List E->E|[]=>.nil|a::r=>.cons a (nN r)
noncomputable def El(cl:Call)(d c b:Nat)(ρ:En)(h0:VH)(P:VH->W->Prop)(a:E):Prop:=∀h1,bL h0 h1 d c->Dk h1 d c b->∃w h2,ev cl a ρ h1=.ok w h2/\Dk h2 d c b/\bL h1 h2 d c/\P h2 w
section
variable{cl:Call}{d c b n:Nat}{ρ:En}{h0 h1 h2 h:VH}{T:VH->W->Prop}{a x:E}{w:W}{i j l:Nat}
theorem EG{xs:List W}{r:E}(ea:ev cl a ρ h=.ok w h1)(er:ev cl r ρ h1=.ok (.tup xs) h2):ev cl (.cons a r) ρ h=.ok (.tup (w::xs)) h2:=by rw[ev,ea,aE,er,aE]
theorem zd{xs:List W}(ea:ev cl a ρ h=.ok (.tup xs) h1)(hx:xs.length<=1000):ev cl (.lst a) ρ h=.ok (.ref h1.n) (h1.new (.lst xs)):=by rw[ev,ea,aE];exact if_pos (pR.mpr hx)
theorem HX:∀(as:List E),(∀a∈as,El cl d c b ρ h0 (Gd d c T n) a)->∀h1,bL h0 h1 d c->Dk h1 d c b->
 ∃ws h2,ev cl (nN as) ρ h1=.ok (.tup ws) h2/\Dk h2 d c b/\bL h1 h2 d c/\ws.length=as.length/\∀w∈ws,Gd d c T n h2 w
 |[],_,h1,_,D=>⟨[],h1,rfl,D,.refl,rfl,λ_ h=>nomatch h⟩
 |a::as,hs,h1,K,D=>by
  obtain⟨w,h2,e1,D1,K1,p⟩:=hs a gj h1 K D;obtain⟨ws,h3,e2,D2,K2,hl,ps⟩:=HX as (λa ha=>hs a (fS _ ha)) h2 (K.trans K1) D1;refine⟨w::ws,h3,EG e1 e2,D2,K1.trans K2,by rw[dj,dj,hl],λy hy=>?_⟩;rcases eO.mp hy with rfl|hy;exact p.keep K2;exact ps y hy
theorem Dk.j9(D:Dk h d c b)(hl:h.n<=l):l≠d/\l≠c:=by obtain⟨_,ns,cells,p,q,a1,a2,_⟩:=D;have:=bV a1;have:=bV a2;exact⟨by lia,by lia⟩
theorem zv3(as:List E)(hs:∀a∈as,El cl d c b ρ h (Gd d c T n) a)(D:Dk h d c b)(hz:as.length<=1000):∃l ws h',exs cl (.set i (.lst (nN as))) ρ h=.ok (.nx (ρ.set i (aC (.ref l)))) h'/\h'.get l=aC (.lst ws)/\h.n<=l/\Dk h' d c b/\bL h h' d c/\ws.length=as.length/\(∀w∈ws,Gd d c T n h' w)/\∀o,∀w∈ws,Gd d c T n (h'.set l o) w:=by obtain⟨ws,h2,e,D2,K2,hl,ps⟩:=HX as hs h .refl D;exact⟨h2.n,ws,h2.new (.lst ws),cz (zd e (by rw[hl];exact hz)),dG,K2.le,D2.new,K2.new,hl,λw hw=>(ps w hw).keep (bL.new .refl),λo w hw=>(ps w hw).keep ME⟩
theorem zv4{oH:List W}(as:List E)(hs:∀a∈as,El cl d c b ρ h (Gd d c T n) a)(D:Dk h d c b)(lI:ρ[i]?=aC (aC (.ref l)))(g:h.get l=aC (.lst oH))(hl:l≠d/\l≠c)(h0:∀w∈oH,Gd d c T n h w)(hz:oH.length+as.length<=1000) :
 ∃l ws h',exs cl (.set i (.op .add (.var i) (.lst (nN as)))) ρ h=.ok (.nx (ρ.set i (aC (.ref l)))) h'/\h'.get l=aC (.lst ws)/\h.n<=l/\Dk h' d c b/\bL h h' d c/\ws.length=oH.length+as.length/\(∀w∈ws,Gd d c T n h' w)/\∀o,∀w∈ws,Gd d c T n (h'.set l o) w:=by
 obtain⟨ws,h2,e,D2,K2,hle,ps⟩:=HX as hs h .refl D;have K3:bL h (h2.new (.lst ws)) d c:=K2.new;have g3:(h2.new (.lst ws)).get l=aC (.lst oH):=K3.get l _ hl.1 hl.2 g;have e3:iN .add (.ref l) (.ref h2.n) (h2.new (.lst ws))=.ok (.ref (h2.n+1)) ((h2.new (.lst ws)).new (.lst (oH++ws))):=by have hb:Nat.ble (oH.length+ws.length) big=true:=pR.mpr (by rw[hle];exact eS hz (by decide));simp only[iN,g3,dG,Cf,hb,dg];rfl
 refine⟨h2.n+1,oH++ws,(h2.new (.lst ws)).new (.lst (oH++ws)),cz (eN (aF lI) (zd e (by lia)) e3),dG,?_,D2.new.new,K3.new,by rw[fC,hle],λw hw=>?_,λo w hw=>?_⟩;have:=K2.le;lia;rcases nR.mp hw with hw|hw
 exact(h0 w hw).keep K3.new;exact(ps w hw).keep ((bL.new .refl).new);rcases nR.mp hw with hw|hw
 exact(h0 w hw).keep (K3.trans ME);exact(ps w hw).keep ((bL.new .refl).trans ME)
theorem jr(e:∀h1,ev cl a ρ h1=.ok w h1)(t:∀h2,T h2 w):El cl d c b ρ h0 (Gd d c T n) a:=λh1 _ D=>⟨w,h1,e h1,D,.refl,.inl t⟩
theorem Vm(e:∀h1,ev cl a ρ h1=.ok w h1)(t:Gd d c T n h0 w):El cl d c b ρ h0 (Gd d c T n) a:=λh1 K D=>⟨w,h1,e h1,D,.refl,t.keep K⟩
theorem wB{o:VO}(hn:n<=h0.n)(e:∀h1,bL h0 h1 d c->ev cl a ρ h1=.ok (.ref h1.n) (h1.new o))(t:∀i h2,h2.get i=aC o->T h2 (.ref i)):El cl d c b ρ h0 (Gd d c T n) a:=λh1 K D=>by
 refine⟨.ref h1.n,h1.new o,e h1 K,D.new,bL.new .refl,.inr ⟨?_,λh2 k=>t _ _ (k.get _ _ (D.j9 (aZ _)).1 (D.j9 (aZ _)).2 dG)⟩⟩;simp only[W.lt];exact LN (eS hn K.le)
end
section
variable{F:Nat->Option Fn}(Q:nG F)
include Q
theorem pick{k i l d c b:Nat}{ρ:En}{h:VH}{ws:List W}(lI:ρ[i]?=aC (aC (.ref l)))(h0:ρ[0]?=aC (aC (.ref d)))(g:h.get l=aC (.lst ws))(hl:l≠d/\l≠c)(D:Dk h d c b)(hb:b<1000000000)(hz:0<ws.length)(hz2:ws.length<=5000) :
 ∃w h',ev (run F (k+3)) (.idx (.var i) (.call 5 (.cons (.var 0) (.cons (.bi .len (.cons (.var i) .nil)) .nil)))) ρ h=.ok w h'/\w∈ws/\Dk h' d c (b+1)/\bL h h' d c:=by
 obtain⟨r,h1,e1,r0,r1,D1,K1⟩:=take Q (k:=k) (m:=(ws.length:Int)) D hb (by lia) (by lia);obtain⟨j,rfl⟩:=rQ r0;have hj:j<ws.length:=by lia
 have g1:=K1.get l _ hl.1 hl.2 g;have es:ws[j]?=aC ws[j]:=cM hj;refine⟨ws[j],h1,?_,lQ hj,D1,K1⟩;refine gK (aF lI) (lJ (aF h0) (jl (ws:=ws) (aF lI) (by simp only[aV,g])) e1) ?_;simp only[cD,g1];exact lH es
end
theorem MF{h:VH}{i:Nat}{o:VO}(g:h.get i=aC o):Kn h (.ref i):=by unfold Kn;simp only[cK,g];cases o<;>simp
theorem HY{h:VH}{i:Nat}(k:Kn h (.ref i)):∃o,h.get i=aC o:=by
 unfold Kn at k;simp only[cK]at k;cases g:h.get i with|none=>rw[g]at k;exact absurd rfl k|some o=>exact⟨o,rfl⟩
noncomputable def Od(h:VH)(w:W):Prop:=Kn h w/\∀ws,w=.tup ws->ws.length<1000/\∀x∈ws,Kn h x
theorem sM{h:VH}{i:Int}:Od h (.int i):=⟨pK,λ_ e=>nomatch e⟩
theorem MG{h:VH}:Od h .aL:=⟨by unfold Kn;simp,λ_ e=>nomatch e⟩
theorem nO{h:VH}{b:Bool}:Od h (.bl b):=⟨by unfold Kn;simp,λ_ e=>nomatch e⟩
theorem EH{h:VH}{x:Str}:Od h (.str x):=⟨by unfold Kn;simp,λ_ e=>nomatch e⟩
theorem uG{h:VH}{i:Nat}{o:VO}(g:h.get i=aC o):Od h (.ref i):=⟨MF g,λ_ e=>nomatch e⟩
theorem mO{h:VH}{ws:List W}(hl:ws.length<1000)(hx:∀x∈ws,Kn h x):Od h (.tup ws):=⟨sH,λ_ e=>by cases e;exact⟨hl,hx⟩⟩
theorem zv5{h:VH}{w:W}(o:Od h w):Od h (.tup [w]):=mO (by simp) λx hx=>by rw[jE.mp hx];exact o.1
theorem wC{h h':VH}{w:W}(G:Gm h h')(k:Kn h w):Kn h' w:=by
 cases w with
 |ref i=>
  obtain⟨o,g⟩:=HY k;exact MF (o:=o) (by rw[G.get _ (bV g)];exact g)
 |aL=>exact MG.1
 |bl b=>exact nO.1
 |int i=>exact pK
 |str x=>exact EH.1
 |tup ws=>exact sH
 |fz ws=>exact absurd rfl k
theorem rG{h h':VH}{w:W}(G:Gm h h')(o:Od h w):Od h' w:=⟨wC G o.1,λws e=>⟨(o.2 ws e).1,λx hx=>wC G ((o.2 ws e).2 x hx)⟩⟩
theorem Vn{h h':VH}{w:W}(G:Gm ⟨h.n,h.n,h.os⟩ h')(o1:W.lt h.n w=true->Od h w)(o2:Od h' w):∃h2,fin h (.ok (.rt w) h')=.ok w h2/\Gm h h2/\Od h2 w:=by
 cases q:W.lt h.n w with
 |true=>
  refine⟨h,gG ?_ q,Gm.refl,o1 q⟩;have:=G.lo;have e2:(⟨h.n,h.n,h.os⟩:VH).lo=h.n:=rfl;have e3:(⟨h.n,h.n,h.os⟩:VH).n=h.n:=rfl;rw[e2,e3]at this;lia
 |false=>
  obtain⟨h2,e,G2,g⟩:=HL q G;refine⟨h2,e,G2,?_⟩;have kk:∀x,Kn h' x->Kn h2 x:=λx k=>by
   cases x with
   |ref i=>
    obtain⟨o,g3⟩:=HY k;exact MF (o:=o) (by rw[g];exact g3)
   |aL=>exact MG.1
   |bl b=>exact nO.1
   |int i=>exact pK
   |str x=>exact EH.1
   |tup ws=>exact sH
   |fz ws=>exact absurd rfl k
  exact⟨kk _ o2.1,λws e=>⟨(o2.2 ws e).1,λx hx=>kk x ((o2.2 ws e).2 x hx)⟩⟩
theorem wD{cl:Call}{ρ:En}{h:VH}:ev cl (.op .pow (.cst (.int (10))) (.cst (.int (30)))) ρ h=.ok (.int (10 ^ 30)) h:=by rw[ev,ev,aE,ev,aE];rfl
structure uH(F:Nat->Option Fn):Prop where
 a:rm F
 c:pI F
 y:iA F
 t:nG F
 MH:F 102=aC lg
 MI:F 163=aC qZ
 MJ:F 700=aC Hg
 MK:F 701=aC vM
 ML:F 702=aC DS
 MM:F 703=aC Hl
 EJ:F 704=aC Aj
theorem uH.a3{F:Nat->Option Fn}(C:uH F):iw F:=⟨C.a.f0,C.a.f1,C.a.f6⟩
section
variable{F:Nat->Option Fn}(C:uH F)
include C
theorem EK{k:Nat}{h:VH}{w:W}{lo hi:Int}(hw:Kn h w):run F (k+1) 102 [w,.int lo,.int hi] h=.ok (.bl (within w lo hi)) h:=by
 rw[gp C.MH rfl];cases w<;>try(simp[lg,exs,ev,within,gG];done)
 rename_i i;simp[lg,exs,ev,within,gG,bP,jW];by_cases h1:lo<=i<;>simp[h1,gG];exact absurd rfl hw;rename_i i;obtain⟨o,g⟩:=HY hw;cases o<;>simp[lg,exs,ev,within,gG,cK,g]
end
section
variable{F:Nat->Option Fn}(C:uH F)
include C
theorem zv6{k i n d c b:Nat}{h:VH}{x1:W}{x2:Option W}(D:Dk h d c b)(hn:n<=h.n)(g:Gd d c Od n h x1) :
 ∃w h',exs (run F (k+3)) Lo [aC (.ref d),aC x1,aC (.int (i:Int)),x2] h=.ok (.nx [aC (.ref d),aC w,aC (.int (i:Int)),x2]) h'/\Dk h' d c b/\bL h h' d c/\Gd d c Od n h' w:=by
 let ρ:En:=[aC (.ref d),aC x1,aC (.int (i:Int)),x2]
 let cl:=run F (k+3);obtain⟨ws,h2,e,D2,K2,hl,ps⟩:=HX (cl:=cl) (d:=d) (c:=c) (b:=b) (n:=n) (ρ:=ρ) (h0:=h) (T:=Od) [.tup (.cons (.var 1) .nil),.lst (.cons (.var 1) .nil),.xS (.cons (.var 2) (.cons (.var 1) .nil))] (λa ha=>by
  simp only[eO,uS,uJ]at ha;rcases ha with rfl|rfl|rfl
  exact Vm (w:=.tup [x1]) (λh1=>jC (ys:=[x1]) (aH (aF rfl) bf) rfl) (g.into (f:=λw=>.tup [w]) (λh o=>zv5 o) λq=>zmp q (jE.mpr rfl));exact wB (o:=.lst [x1]) hn (λh1 _=>ie (ys:=[x1]) (aH (aF rfl) bf) rfl) λj h2 g2=>uG g2;exact wB (o:=yb [(.inl (i:Int),x1)]) hn (λh1 _=>by
   rw[ev,aH (aF (x:=.int (i:Int)) rfl) (aH (aF (x:=x1) rfl) bf),aE];rfl) λj h2 g2=>uG g2) h .refl D
 let h3:=h2.new (.lst ws);have hw:∃w,ws[i % 3]?=aC w:=⟨_,cM (by rw[hl];exact Nat.mod_lt _ (by decide))⟩
 obtain⟨w,hw⟩:=hw;have em:ev cl (.op .mod (.var 2) (.cst (.int (3)))) ρ h3=.ok (.int ((i % 3:Nat):Int)) h3:=eN (x:=.int (i:Int)) (y:=.int 3) (aF rfl) aQ (by
  show Res.of ((if decide ((0:Int)<3)then aC ((i:Int) % 3)else aD).map W.int) h3=_;rw[if_pos (by decide)];show Res.ok (W.int ((i:Int) % 3)) h3=_;congr 2)
 refine⟨w,h3,?_,D2.new,K2.new,(ps w (mP hw)).keep (bL.new .refl)⟩;refine(bM (cz (x:=w) (gK (x:=.ref h2.n) (y:=.int ((i % 3:Nat):Int)) (h1:=h3) (zd e (by rw[hl];decide)) em ?_))).trans (by rw[exs];rfl);simp only[cD,h3,dG];exact lH hw
theorem zr5{k d c b:Nat}{h:VH}(D:Dk h d c b)(hb:b+2<1000000000):∃w h',run F (k+4) 163 [.ref d] h=.ok w h'/\Dk h' d c (b+2)/\bL h h' d c/\Gd d c Od h.n h' w:=by
 rw[gp C.MI rfl];let k0:VH:=⟨h.n,h.n,h.os⟩
 let cl:=run F (k+3);have D0:Dk k0 d c b:=D.lo;obtain⟨r,h1,e1,r0,r1,D1,K1⟩:=take C.t (k:=k) (m:=15) D0 (by lia) (by decide) (by decide);obtain⟨n,hn⟩:∃n:Nat,1+r=n:=⟨(1+r).toNat,by lia⟩
 have n1:h.n<=h1.n:=K1.le;obtain⟨ρ',h2,e2,hI⟩:=sF (nx:=aU .bU (.tup [.int n])) (tg:=bK (.one 2)) (b:=exs cl Lo) (n:=n)
  (I:=λi ρ h2=>∃x1 x2,ρ=[aC (.ref d),aC x1,x2,aD]/\Dk h2 d c (b+1)/\bL k0 h2 d c/\Gd d c Od h.n h2 x1)
  (λi ρ h2 hi hI=>by
    obtain⟨x1,x2,rfl,D2,K2,g2⟩:=hI;have:=K2.le;obtain⟨w,h3,e3,D3,K3,g3⟩:=zv6 C (k:=k) (i:=i) (x2:=aD) D2 (n:=h.n) this g2;refine⟨.int (i:Int),[aC (.ref d),aC x1,aC (.int (i:Int)),aD],_,h3,?_,rfl,e3,_,_,rfl,D3,K2.trans K3,g3⟩;rw[jo (by lia),if_pos hi])
  (λρ h2 hI=>by rw[jo (by lia),if_neg (g9 _)])
  n 0 fuel [aC (.ref d),aC (.tup []),aD,aD] h1 (kC _) (show _<1000000 by lia) ⟨.tup [],aD,rfl,D1,K1,.inl λh2=>mO (by simp) (λx hx=>by cases hx)⟩
 obtain⟨x1,x2,rfl,D2,K2,g2⟩:=hI;have n2:h.n<=h2.n:=K2.le;let oQ:En:=[aC (.ref d),aC x1,x2,aD]
 obtain⟨l,ws,h3,e3,g3,hl,D3,K3,hlen,ps,_⟩:=zv3 (cl:=cl) (i:=3) (ρ:=oQ) (T:=Od) (n:=h.n) (d:=d) (c:=c)
  [.cst .aL,.cst (.bl true),.cst (.bl false),.cst (.int (0)),.cst (.int (1)),.neg (.cst (.int (1))),.cst (.int (15)),.cst (.int (16)),.cst (.int (17)),.cst (.int (99)),.cst (.int (100)),.op .pow (.cst (.int (10))) (.cst (.int (30))),.neg (.op .pow (.cst (.int (10))) (.cst (.int (30)))),.cst (.str (cg "")),.cst (.str (cg "a")),.cst (.str (cg "0")),.tup .nil,.lst .nil,.bi .Cd .nil] (λa ha=>by
  simp only[eO,uS,uJ]at ha;rcases ha with rfl|rfl|rfl|rfl|rfl|rfl|rfl|rfl|rfl|rfl|rfl|rfl|rfl|rfl|rfl|rfl|rfl|rfl|rfl
  exact jr (λ_=>rfl) λ_=>MG;exact jr (λ_=>rfl) λ_=>nO;exact jr (λ_=>rfl) λ_=>nO;exact jr (λ_=>rfl) λ_=>sM;exact jr (λ_=>rfl) λ_=>sM;exact jr (λ_=>rfl) λ_=>sM (i:=-1);exact jr (λ_=>rfl) λ_=>sM;exact jr (λ_=>rfl) λ_=>sM;exact jr (λ_=>rfl) λ_=>sM;exact jr (λ_=>rfl) λ_=>sM;exact jr (λ_=>rfl) λ_=>sM;exact jr (λ_=>wD) λ_=>sM;exact jr (w:=.int (-(10 ^ 30))) (λh1=>by rw[ev,wD,aE]) λ_=>sM;exact jr (λ_=>rfl) λ_=>EH;exact jr (λ_=>rfl) λ_=>EH;exact jr (λ_=>rfl) λ_=>EH;exact jr (w:=.tup []) (λ_=>rfl) λ_=>mO (by simp) (λx hx=>by cases hx);exact wB (o:=.lst []) n2 (λh1 _=>rfl) λj h2 g2=>uG g2;exact wB (o:=.dm []) n2 (λh1 _=>rfl) λj h2 g2=>uG g2) D2 (by decide)
 have n3:h.n<=h3.n:=eS n2 K3.le;let yf:En:=[aC (.ref d),aC x1,x2,aC (.ref l)]
 have z0:∀h:VH,Kn h (.int 0):=λh=>pK;obtain⟨l4,ws4,h4,e4,g4,hl4,D4,K4,wF,ps4,_⟩:=zv4 (cl:=cl) (i:=3) (l:=l) (ρ:=yf) (T:=Od) (n:=h.n) (d:=d) (c:=c) (oH:=ws)
  [.tup (.cons (.cst (.int (0))) .nil),.lst (.cons (.cst (.int (0))) .nil),.tup (.cons (.cst (.int (0))) (.cons (.cst (.int (0))) .nil)),.lst (.cons (.cst (.int (0))) (.cons (.cst (.int (0))) .nil)),.tup (.cons (.cst (.int (0))) (.cons (.cst (.int (0))) (.cons (.cst (.int (0))) .nil))),.tup (.cons (.tup (.cons (.cst (.int (0))) (.cons (.cst (.int (0))) .nil))) .nil),.tup (.cons (.tup (.cons (.tup (.cons (.cst (.int (0))) (.cons (.cst (.int (0))) .nil))) .nil)) .nil),.lst (.cons (.tup (.cons (.tup (.cons (.cst (.int (0))) (.cons (.cst (.int (0))) .nil))) .nil)) .nil),.xS (.cons (.cst (.str (cg "a"))) (.cons (.tup (.cons (.cst (.int (0))) (.cons (.cst (.int (0))) .nil))) .nil)),.var 1] (λa ha=>by
  simp only[eO,uS,uJ]at ha;rcases ha with rfl|rfl|rfl|rfl|rfl|rfl|rfl|rfl|rfl|rfl
  exact jr (w:=.tup [.int 0]) (λ_=>rfl) λh=>mO (by simp) λx hx=>by rw[jE.mp hx];exact pK
  exact wB (o:=.lst [.int 0]) n3 (λh1 _=>rfl) λj h2 g2=>uG g2;exact jr (w:=.tup [.int 0,.int 0]) (λ_=>rfl) λh=>mO (by simp) λx hx=>by simp at hx;rw[hx];exact pK
  exact wB (o:=.lst [.int 0,.int 0]) n3 (λh1 _=>rfl) λj h2 g2=>uG g2;exact jr (w:=.tup [.int 0,.int 0,.int 0]) (λ_=>rfl) λh=>mO (by simp) λx hx=>by simp at hx;rw[hx];exact pK
  exact jr (w:=.tup [.tup [.int 0,.int 0]]) (λ_=>rfl) λh=>mO (by simp) λx hx=>by rw[jE.mp hx];exact sH
  exact jr (w:=.tup [.tup [.tup [.int 0,.int 0]]]) (λ_=>rfl) λh=>mO (by simp) λx hx=>by rw[jE.mp hx];exact sH
  exact wB (o:=.lst [.tup [.tup [.int 0,.int 0]]]) n3 (λh1 _=>rfl) λj h2 g2=>uG g2;exact wB (o:=yb [(.inr (cg "a"),.tup [.int 0,.int 0])]) n3 (λh1 _=>rfl) λj h2 g2=>uG g2;exact Vm (λ_=>aF rfl) (g2.keep K3)) D3 rfl g3 (D2.j9 hl) ps (by rw[hlen];decide)
 obtain⟨w,h5,e5,hw,D5,K5⟩:=pick C.t (k:=k) (i:=3) (l:=l4) (ρ:=[aC (.ref d),aC x1,x2,aC (.ref l4)]) rfl rfl g4 (D3.j9 hl4) D4 (by lia) (by rw[wF,hlen];decide) (by rw[wF,hlen];decide);have ea:ev cl (.op .add (.cst (.int (1))) (.call 5 (.cons (.var 0) (.cons (.cst (.int (15))) .nil)))) [aC (.ref d),aC (.tup []),aD,aD] k0=.ok (.int n) h1:=eN (x:=.int 1) (y:=.int r) aQ (lJ (x:=.ref d) (y:=.int 15) (aF rfl) aQ e1) (jQ (λz:Int=>Res.ok (W.int z) h1) hn);have D6:Dk h5 d c (b+2):=D5;have eb:exs cl qZ.body [aC (.ref d),aD,aD,aD] k0=.ok (.rt w) h5:=by refine(bM (cz (x:=.tup []) (h1:=k0) rfl)).trans ?_;refine(bM ((gM (h1:=h1) (x:=.tup [.int n]) (aH ea bf)).trans e2)).trans ?_;refine(bM e3).trans ?_;refine(bM e4).trans ?_;exact gH (dS e5)
 obtain⟨h6,q6⟩:=EF (k:=k+3) eb D D6 (((K2.trans K3).trans K4).trans K5) ((ps4 w hw).keep K5);exact⟨w,h6,q6⟩
end
theorem rH{cl:Call}{a lo hi:E}{bl bh:Bool}{ρ:En}{h:VH}{xs:List W}{l u:W}{l' u':Option Int}(ea:ev cl a ρ h=.ok (.tup xs) h)(el:ev cl lo ρ h=.ok l h)(eu:ev cl hi ρ h=.ok u h)(pl:eY bl l=aC l')(pu:eY bh u=aC u'):ev cl (.slc a bl lo bh hi) ρ h=.ok (.tup (dP xs l' u')) h:=by rw[ev,ea,aE,el,aE,eu,aE,pl,pu];rfl
theorem HZ{xs:List W}{l u:Option Int}{x:W}(h:x∈dP xs l u):x∈xs:=List.mem_of_mem_drop (List.mem_of_mem_take h)
theorem MN{xs:List W}{l u:Option Int}:(dP xs l u).length<=xs.length:=by unfold dP;rw[rP,wU];lia
theorem Ia{h:VH}{xs ys:List W}(hl:xs.length+ys.length<=1000):iN .add (.tup xs) (.tup ys) h=.ok (.tup (xs++ys)) h:=by have hb:Nat.ble (xs.length+ys.length) big=true:=pG (by lia);simp only[iN,Gj,hb,dg];rfl
theorem zzz{h:VH}{xs:List W}(hl:xs.length<=16):iN .mul (.tup xs) (.int 17) h=.ok (.tup (bN 17 xs).flatten) h:=by have hb:Nat.ble (xs.length*17) big=true:=pG (by lia);simp only[iN,qo];rw[if_pos (by rw[show(17:Int).toNat=17 from rfl,hb];rfl)];rfl
theorem lB{cl:Call}{c:E}{a b:S}{ρ:En}{h h1:VH}(e:ev cl c ρ h=.ok (.bl true) h1):exs cl (.ite c a b) ρ h=exs cl a ρ h1:=by rw[exs,e,aE]
theorem wG{cl:Call}{c:E}{a b:S}{ρ:En}{h h1:VH}(e:ev cl c ρ h=.ok (.bl false) h1):exs cl (.ite c a b) ρ h=exs cl b ρ h1:=by rw[exs,e,aE]
section
variable{F:Nat->Option Fn}(C:uH F)
include C
theorem zv7{k at_:Nat}{h:VH}{ns:List Int}{ch:Int}{v:W}(h1:1<=ns.length)(h2:ns.length<=16)(ha:at_<ns.length)(c0:0<=ch)(ov:Od h v) :
 ∃w h',run F (k+1) 700 [iW ns,.int ch,.int (at_:Int),v] h=.ok w h'/\Gm h h'/\Od h' w:=by
 rw[gp C.MJ rfl];let k0:VH:=⟨h.n,h.n,h.os⟩
 let cl:=run F k;let ρ (x:Option W):En:=[aC (iW ns),aC (.int ch),aC (.int (at_:Int)),aC v,x]
 let xs:=ns.map W.int;have lx:xs.length=ns.length:=bG ..;have kx:∀(h:VH)(x:W),x∈xs->Kn h x:=λh x hx=>by
  obtain⟨i,_,rfl⟩:=iK.mp hx;exact pK
 have e0:∀{x h},ev cl (.var 0) (ρ x) h=.ok (.tup xs) h:=λ{x h}=>aF rfl;have MO:∀{x h},ev cl (.var 2) (ρ x) h=.ok (.int (at_:Int)) h:=λ{x h}=>aF rfl;have Vo:∀{x h},ev cl (.slc (.var 0) false (.cst .aL) true (.var 2)) (ρ x) h=.ok (.tup (dP xs aD (aC (at_:Int)))) h:=λ{x h}=>rH e0 aQ MO rfl rfl;have Vp:∀{x h},ev cl (.slc (.var 0) true (.op .add (.var 2) (.cst (.int (1)))) false (.cst .aL)) (ρ x) h=.ok (.tup (dP xs (aC ((at_:Int)+1)) aD)) h:=λ{x h}=>rH e0 (eN (x:=.int (at_:Int)) (y:=.int 1) MO aQ rfl) aQ rfl rfl;have l1:=MN (xs:=xs) (l:=aD) (u:=aC (at_:Int));have l2:=MN (xs:=xs) (l:=aC ((at_:Int)+1)) (u:=aD);have Vq:∀{h':VH},Gm k0 h'->Od h' v:=λ{h'} G=>rG G ⟨fy.mpr ov.1,λws e=>⟨(ov.2 ws e).1,λx hx=>fy.mpr ((ov.2 ws e).2 x hx)⟩⟩;obtain⟨j,rfl⟩:=rQ c0;let k1:=k0.new (.lst xs);let A2:=xs++[W.int (ns.getD at_ 0)];let A3:=dP xs aD (aC (at_:Int))++dP xs (aC ((at_:Int)+1)) aD;let A4:=dP (bN 17 xs).flatten aD (aC 17);let ys:List W:=[v,.ref k0.n,.tup A2,.tup A3,.tup A4,.tup [],.tup [.tup xs]]
 let k2:=k1.new (.lst ys);have ex:cD k1 (iW ns) (.int (at_:Int))=aC (.int (ns.getD at_ 0)):=by refine lH ?_;rw[dY,nQ,cM ha];rfl
 have e4:ev cl (.lst (.cons (.var 3) (.cons (.bi .list (.cons (.var 0) .nil)) (.cons (.op .add (.var 0) (.tup (.cons (.idx (.var 0) (.var 2)) .nil))) (.cons (.op .add (.slc (.var 0) false (.cst .aL) true (.var 2)) (.slc (.var 0) true (.op .add (.var 2) (.cst (.int (1)))) false (.cst .aL))) (.cons (.slc (.op .mul (.var 0) (.cst (.int (17)))) false (.cst .aL) true (.cst (.int (17)))) (.cons (.tup .nil) (.cons (.tup (.cons (.var 0) .nil)) .nil)))))))) (ρ aD) k0=.ok (.ref k1.n) k2:=by refine ie (ys:=ys) (aH (aF rfl) (aH (h2:=k1) (x:=.ref k0.n) ?_ (aH (eN e0 (jC (aH (gK (x:=iW ns) (aF rfl) MO ex) bf) rfl) (Ia (by simp;lia))) (aH (eN Vo Vp (Ia (by lia))) (aH (rH (eN e0 aQ (zzz (by lia))) aQ aQ rfl rfl) (aH (jC (ys:=[]) bf rfl) (aH (jC (ys:=[.tup xs]) (aH e0 bf) rfl) bf))))))) rfl;rw[ev,aH e0 bf,aE];rfl
 have G2:Gm k0 k2:=Gm.refl.new.new;have ec:ev cl (.cmp .lt (.var 1) (.cst (.int (7)))) (ρ (aC (.ref k1.n))) k2=.ok (.bl (decide ((j:Int)<7))) k2:=by rw[ev,aF (x:=.int (j:Int)) rfl,aE,aQ,aE];rfl
 by_cases hc:(j:Int)<7;rw[iT hc]at ec;have hj:j<7:=by lia
 obtain⟨w,hw⟩:∃w,ys[j]?=aC w:=⟨_,cM (show j<ys.length from hj)⟩
 have eb:exs cl Hg.body (ρ aD) k0=.ok (.rt w) k2:=by refine(bM (cz e4)).trans ?_;refine gH ((lB ec).trans (gH (dS (gK (x:=.ref k1.n) (y:=.int (j:Int)) (aF rfl) (aF rfl) ?_))));simp only[cD,k2,dG];exact lH hw
 have o:∀h',(∀x,x=v->Od h' x)->(∀g,w=.ref k0.n->Od h' w)->Od h' w:=λh' ov og=>by
  have hm:=mP hw;simp only[ys,eO,uS,uJ]at hm;rcases hm with rfl|rfl|rfl|rfl|rfl|rfl|rfl
  exact ov _ rfl;exact og h' rfl;exact mO (by simp[A2];lia) λx hx=>by
   rcases nR.mp hx with hx|hx;exact kx _ x hx;rw[jE.mp hx];exact pK
  exact mO (by simp only[A3,fC];lia) λx hx=>by
   rcases nR.mp hx with hx|hx<;>exact kx _ x (HZ hx)
  refine mO (AK MN ?_) λx hx=>?_;rw[List.length_flatten,List.map_replicate,List.sum_replicate_nat];lia;obtain⟨l,hl,hx⟩:=List.mem_flatten.mp (HZ hx);rw[(List.mem_replicate.mp hl).2]at hx;exact kx _ x hx;exact mO (by simp) (λx hx=>by cases hx);exact mO (by simp) λx hx=>by rw[jE.mp hx];exact sH
 obtain⟨h3,q1,q2,q3⟩:=Vn (h:=h) (h':=k2) (w:=w) G2 (λq=>o h (λx e=>e▸ov) λ_ e=>by
  rw[e]at q;simp only[W.lt]at q;exact absurd (gA.mp q) (g9 _)) (o k2 (λx e=>e▸Vq G2) λ_ e=>by
  rw[e];exact uG (o:=.lst xs) ((iD (by show h.n<h.n+1;lia)).trans dG))
 exact⟨w,h3,(jQ (fin h) eb).trans q1,q2,q3⟩;rw[jt hc]at ec;let zs:=(dP xs aD (aC (at_:Int))++[v])++dP xs (aC ((at_:Int)+1)) aD;have eb:exs cl Hg.body (ρ aD) k0=.ok (.rt (.tup zs)) k2:=by refine(bM (cz e4)).trans ?_;refine(bM ((wG ec).trans (by rw[exs]))).trans ?_;exact gH (dS (eN (eN Vo (jC (ys:=[v]) (aH (aF rfl) bf) rfl) (Ia (by rw[uN];lia))) Vp (Ia (by rw[fC,uN];lia))))
 have o:∀h',Od h' v->Od h' (.tup zs):=λh' ov=>mO (by simp only[zs,fC,uN];lia) λx hx=>by
  rcases nR.mp hx with hx|hx;rcases nR.mp hx with hx|hx;exact kx _ x (HZ hx);rw[jE.mp hx];exact ov.1;exact kx _ x (HZ hx)
 obtain⟨h3,q1,q2,q3⟩:=Vn (h:=h) (h':=k2) (w:=.tup zs) G2 (λ_=>o h ov) (o k2 (Vq G2));exact⟨_,h3,(jQ (fin h) eb).trans q1,q2,q3⟩
end
theorem Vr:∀bs:List Bool,bH rY (bs.map W.bl)=aC bs|[]=>rfl|b::r=>by simp only[fD,bH,rY,Vr r]
theorem zv8{h:VH}{w:W}(k:Kn h w)(e:∀ws,w≠.tup ws):cK .tuple h w=aC false:=by
 cases w with
 |tup ws=>exact absurd rfl (e ws)
 |fz ws=>exact absurd rfl k
 |ref i=>
  obtain⟨o,g⟩:=HY k;simp only[cK,g];cases o<;>rfl
 |_=>rfl
theorem Vs:∀{ws:List W},(ws.all (within · 0 99))=true->∃ns:List Int,ws=ns.map .int/\∀x∈ns,0<=x/\x<=99
 |[],_=>⟨[],rfl,λx hx=>by cases hx⟩
 |w::ws,h=>by
  rw[pQ,bw]at h;obtain⟨ns,rfl,hb⟩:=Vs h.2;obtain⟨i,rfl,h1,h2⟩:=zvz h.1;exact⟨i::ns,rfl,λx hx=>by
   rcases eO.mp hx with rfl|hx;exact⟨h1,h2⟩;exact hb x hx⟩
theorem zj1{w:W}(h:mJ w 1 16 0 99):∃ns:List Int,w=iW ns/\1<=ns.length/\ns.length<=16/\∀x∈ns,0<=x/\x<=99:=by
 cases w with
 |tup ws=>
  have h:(jB (.tup ws) 1 16&&ws.all (within · 0 99))=true:=h;rw[bw]at h;obtain⟨ns,rfl,hb⟩:=Vs h.2;have h1:(decide ((1:Int)<=((ns.map W.int).length:Int))&&decide (((ns.map W.int).length:Int)<=16))=true:=h.1;rw[bw,gW,gW,bG]at h1;exact⟨ns,rfl,by lia,by lia,hb⟩
 |_=>cases h
section
variable{F:Nat->Option Fn}(C:uH F)
include C
theorem zv9{k:Nat}{h:VH}{w:W}(o:Od h w):run F (k+2) 701 [w] h=.ok (.bl (mJ w 1 16 0 99)) h:=by
 rw[gp C.MK rfl];let k0:VH:=⟨h.n,h.n,h.os⟩
 let cl:=run F (k+1);have ok:Kn k0 w:=fy.mpr o.1;by_cases ht:∃ws,w=.tup ws;obtain⟨ws,rfl⟩:=ht;obtain⟨lw,kw⟩:=o.2 ws rfl;have e0:∀{h},ev cl (.var 0) [aC (.tup ws)] h=.ok (.tup ws) h:=λ{h}=>aF rfl;have el:ev cl (.bi .len (.cons (.var 0) .nil)) [aC (.tup ws)] k0=.ok (.int (ws.length:Int)) k0:=jl (ws:=ws) (x:=.tup ws) e0 rfl;have ec:ev cl (.or (.not (.ou (.rW .tuple (.var 0)))) (.or (.cmp .lt (.bi .len (.cons (.var 0) .nil)) (.cst (.int (1)))) (.cmp .gt (.bi .len (.cons (.var 0) .nil)) (.cst (.int (16)))))) [aC (.tup ws)] k0=.ok (.bl (!(jB (.tup ws) 1 16))) k0:=by refine(MC (isT (ws:=ws) e0)).trans ?_;have c1:ev cl (.cmp .lt (.bi .len (.cons (.var 0) .nil)) (.cst (.int (1)))) [aC (.tup ws)] k0=.ok (.bl (decide ((ws.length:Int)<1))) k0:=EE el aQ rfl;have c2:ev cl (.cmp .gt (.bi .len (.cons (.var 0) .nil)) (.cst (.int (16)))) [aC (.tup ws)] k0=.ok (.bl (decide ((16:Int)< (ws.length:Int)))) k0:=EE el aQ rfl;by_cases h1:(ws.length:Int)<1;rw[iT h1]at c1;rw[Vi c1];show _=Res.ok (W.bl (!(decide ((1:Int)<=(ws.length:Int))&&decide ((ws.length:Int)<=16)))) k0;rw[jt (by lia:¬(1:Int)<=(ws.length:Int))];rfl;rw[jt h1]at c1;rw[MC c1,c2];show _=Res.ok (W.bl (!(decide ((1:Int)<=(ws.length:Int))&&decide ((ws.length:Int)<=16)))) k0;rw[iT (by lia:(1:Int)<=(ws.length:Int))];by_cases h2:(ws.length:Int)<=16;rw[iT h2,jt (by lia)];rfl;rw[jt h2,iT (by lia)];rfl
 have ew:mJ (.tup ws) 1 16 0 99=(jB (.tup ws) 1 16&&ws.all (within · 0 99)):=rfl;cases ht:jB (.tup ws) 1 16 with
 |false=>
  rw[ht]at ec;have eb:exs cl vM.body [aC (.tup ws)] k0=.ok (.rt (.bl false)) k0:=gH ((lB ec).trans (gH (dS aQ)));rw[ew,ht];show fin h (exs cl vM.body [aC (.tup ws)] k0)=_;rw[eb];exact pJ (λn=>rfl) Gm.refl
 |true=>
  rw[ht]at ec;obtain⟨ys,ρ',h',e1,hI⟩:=lA (nx:=aU .seq (.tup ws)) (tg:=bK (.one 0)) (e:=ev cl Lp) (n:=ws.length)
   (I:=λi ρ h1 acc=>(∃x,ρ=[x])/\h1=k0/\acc=((ws.take i).map λx=>within x 0 99).map W.bl)
   (λi ρ h1 acc hi hI=>by
     obtain⟨⟨x,rfl⟩,rfl,rfl⟩:=hI;have hx:=cM hi;refine⟨ws[i],[aC ws[i]],.bl (within ws[i] 0 99),k0,?_,rfl,uE (aF rfl) aQ aQ (EK C (k:=k) (fy.mpr (kw _ (lQ hi)))),⟨_,rfl⟩,rfl,?_⟩;show aC ws[i]?=_;rw[hx];rw[pN,hx,gu,gu];rfl)
   (λρ h1 acc hI=>by
     show aC ws[ws.length]?=_;rw[jm (aZ _)])
   (ρ:=[aD]) (h:=k0) (by lia) ⟨⟨aD,rfl⟩,rfl,rfl⟩
  obtain⟨_,rfl,rfl⟩:=hI;rw[pO]at e1;let bs:=ws.map λx=>within x 0 99;let k1:=k0.new (.lst (bs.map W.bl));have e2:=nK (cl:=cl) (k:=.seq) (t:=.one 0) (ow:=1) (ix:=[]) (a:=.var 0) (x:=.tup ws) (ρ:=[aC (.tup ws)]) (h:=k0) (h1:=k0) e0 e1 (by rw[bG,bG];lia);have ea:ev cl (.bi .all (.cons (.lc .seq (.var 0) (.one 0) 1 [] (.cst (.bl true)) Lp) .nil)) [aC (.tup ws)] k0=.ok (.bl (ws.all (within · 0 99))) k1:=by rw[ev,aH e2 bf,aE];show kQ [.ref k0.n] k1=_;have g:k1.get k0.n=aC (.lst (bs.map W.bl)):=dG;simp only[kQ,g,Vr,lU];show Res.ok (W.bl (bs.all id)) k1=_;rw[show bs.all id=ws.all (within · 0 99)from by simp[bs,List.all_map]]
  have eb:exs cl vM.body [aC (.tup ws)] k0=.ok (.rt (.bl (ws.all (within · 0 99)))) k1:=(bM ((wG ec).trans (by rw[exs]))).trans (gH (dS ea));rw[ew,ht];show fin h (exs cl vM.body [aC (.tup ws)] k0)=_;rw[eb];exact pJ (λn=>rfl) Gm.refl.new
 have hn:∀ws,w≠.tup ws:=λws e=>ht ⟨ws,e⟩;have ew:mJ w 1 16 0 99=false:=by cases w<;>first|rfl|exact absurd rfl (hn _)
 have ec:ev cl (.or (.not (.ou (.rW .tuple (.var 0)))) (.or (.cmp .lt (.bi .len (.cons (.var 0) .nil)) (.cst (.int (1)))) (.cmp .gt (.bi .len (.cons (.var 0) .nil)) (.cst (.int (16)))))) [aC w] k0=.ok (.bl true) k0:=Vi (wz (b:=false) (by
  rw[ev,aF rfl,aE,zv8 ok hn];rfl))
 have eb:exs cl vM.body [aC w] k0=.ok (.rt (.bl false)) k0:=gH ((lB ec).trans (gH (dS aQ)));rw[ew];show fin h (exs cl vM.body [aC w] k0)=_;rw[eb];exact pJ (λn=>rfl) Gm.refl
end
noncomputable def dN:Str:=cg "made"
noncomputable def eL:Str:=cg "word"
section
variable{F:Nat->Option Fn}(C:uH F)
include C
theorem zwa{k:Nat}{h:VH}{w:W}(o:Od h w) :
 (mJ w 1 16 0 99=false->run F (k+7) 704 [w] h=.ok (.int 164) h)/\(mJ w 1 16 0 99=true->∃a b:W,run F (k+7) 704 [w] h=.ok (.tup [.tup [a,b]]) h):=by
 let k0:VH:=⟨h.n,h.n,h.os⟩
 have ok:Kn k0 w:=fy.mpr o.1;have e7:=zdt C.a (k:=k+3) (h:=k0) (w:=w) (a:=1) (b:=16) (lo:=0) (hi:=99) ok (λws e=>⟨by have:=(o.2 ws e).1;lia,λx hx=>fy.mpr ((o.2 ws e).2 x hx)⟩);refine⟨λhw=>?_,λhw=>?_⟩;rw[hw]at e7;have eb:exs (run F (k+6)) Aj.body [aC w,aD,aD] k0=.ok (.rt (.int 164)) k0:=by refine gH (gH ((lB (h1:=k0) (wz (b:=false) ?_)).trans (gH (dS aQ))));exact rD (aH (aF rfl) (aH aQ (aH aQ (aH aQ (aH aQ bf))))) e7
 rw[gp C.EJ rfl];show fin h (exs (run F (k+6)) Aj.body [aC w,aD,aD] k0)=_;rw[eb];exact pJ (λn=>rfl) Gm.refl;rw[hw]at e7;obtain⟨ns,rfl,h1,h2,hb⟩:=zj1 hw;have sh:=zmo h1 h2;have mo:=zr4 h1 hb;obtain⟨ys,ρ',h',e1,hI⟩:=lA (nx:=aU .l7 (iW ns)) (tg:=bK (.many [0,1])) (e:=ev (run F (k+6)) Lq) (n:=ns.length)
  (I:=λi ρ h1 acc=>(∃x y,ρ=[x,y,aC (iW ns)])/\h1=k0/\acc=((fR ns).take i).map bZ)
  (λi ρ h1 acc hi hI=>by
    obtain⟨⟨x,y,rfl⟩,rfl,rfl⟩:=hI;have hx:=cM hi;have p:(0:Int)<ns.length:=by lia
    refine⟨.tup [.int (i:Int),.int ns[i]],[aC (.int (i:Int)),aC (.int ns[i]),aC (iW ns)],bZ [(ns.getD i 0,((i:Int)+1) % (ns.length:Int))],k0,?_,rfl,?_,⟨_,_,rfl⟩,rfl,?_⟩;show aC (((ns.map W.int)[i]?).map λw=>W.tup [.int i,w])=_;rw[dY,hx];rfl;have hg:ns.getD i 0=ns[i]:=by rw[nQ,hx];rfl
    rw[hg];unfold Lq;refine jC (aH (jC (aH (aF (x:=.int ns[i]) rfl) (aH (eN (eN (x:=.int (i:Int)) (aF rfl) aQ rfl) ((jl (ws:=ns.map .int) (aF (x:=iW ns) rfl) rfl).trans (by rw[bG])) ?_) bf)) rfl) bf) rfl;show(Res.of ((if decide ((0:Int)<ns.length)then aC (((i:Int)+1) % (ns.length:Int))else aD).map W.int) k0)=_;rw[if_pos (iT p)];rfl;rw[pN,zv1 hi,gu];rfl)
  (λρ h1 acc hI=>by
    show aC (((ns.map W.int)[ns.length]?).map λw=>W.tup [.int ns.length,w])=_;rw[jm (by rw[bG];exact aZ _)];rfl)
  (ρ:=inner 2 [0] [aC (iW ns),aD,aD]) (h:=k0) (by lia) ⟨⟨aD,aD,rfl⟩,rfl,rfl⟩
 obtain⟨_,rfl,rfl⟩:=hI;have hall:(fR ns).take ns.length=fR ns:=List.take_of_length_le (by rw[mo.l];exact aZ _);rw[hall]at e1;have hlM:((fR ns).map bZ).length=ns.length:=by rw[bG,mo.l]
 let k1:=k0.new (.lst ((fR ns).map bZ));have e3:=zfn C.a3 C.c C.y (k:=k) (h:=k1) sh mo;let a:W:=(ly ns.length 1 (fR ns)).w;let b:W:=iW (aP 0 (aW ns.length));have eb:exs (run F (k+6)) Aj.body [aC (iW ns),aD,aD] k0=.ok (.rt (.tup [.tup [a,b]])) k1:=by refine gH ?_;refine(bM (Vh (h1:=k0) (wz (b:=true) ?_))).trans ?_;exact rD (aH (aF rfl) (aH aQ (aH aQ (aH aQ (aH aQ bf))))) e7;refine(bM (ρ':=[aC (iW ns),aC a,aC (.tup ((cG ns.length).map iW))]) (h':=k1) ?_).trans ?_;have ec:=wk (cl:=run F (k+6)) (n:=187) (uF (x:=.ref k0.n) (h1:=k1) (nK (k:=.l7) (t:=.many [0,1]) (ow:=2) (ix:=[0]) (aF (x:=iW ns) (i:=0) (ρ:=[aC (iW ns),aD,aD]) (h:=k0) rfl) e1 (by rw[hlM];lia)) (rE dG)) e3;show exs (run F (k+6)) (.xU [1,2] _) _ k0=_;rw[exs,ec,aE];rfl;refine gH (dS (jC (ys:=[.tup [a,b]]) (aH (lz (aF rfl) (gK (aF (x:=.tup ((cG ns.length).map iW)) rfl) aQ ?_)) bf) rfl));refine lH (j:=0) ?_;unfold cG;rw[dY,dY,zu (by lia)];rfl
 refine⟨a,b,?_⟩;rw[gp C.EJ rfl];show fin h (exs (run F (k+6)) Aj.body [aC (iW ns),aD,aD] k0)=_;rw[eb];have ok2:=zv0 sh mo;refine pJ (Pv.tup λw hw=>?_) (Gm.refl.new);rw[jE.mp hw];refine Pv.tup λw hw=>?_;rcases eO.mp hw with rfl|hw
 exact wo ok2;rw[jE.mp hw];refine Pv.tup λw hw=>?_;obtain⟨r,hr,rfl⟩:=iK.mp hw;exact Pv.int
theorem Vt{k:Nat}{h:VH}{w:W}(o:Od h w):run F (k+8) 702 [w] h=.ok (.str (if mJ w 1 16 0 99 then dN else eL)) h:=by
 let k0:VH:=⟨h.n,h.n,h.os⟩
 let cl:=run F (k+7);have o0:Od k0 w:=⟨fy.mpr o.1,λws e=>⟨(o.2 ws e).1,λx hx=>fy.mpr ((o.2 ws e).2 x hx)⟩⟩
 obtain⟨t1,t2⟩:=zwa C (k:=k) o0;rw[gp C.ML rfl];show fin h (exs cl DS.body [aC w,aD,aD] k0)=_;cases hw:mJ w 1 16 0 99 with
 |false=>
  have eb:exs cl DS.body [aC w,aD,aD] k0=.ok (.rt (.str eL)) k0:=by refine gH ?_;rw[exs,aH (aF rfl) bf,aE];show Res.bind (run F (k+7) 704 [w] k0) _=_;rw[t1 hw,aE];rfl
  rw[eb];exact pJ (λn=>rfl) Gm.refl
 |true=>
  obtain⟨a,b,e⟩:=t2 hw;have eb:exs cl DS.body [aC w,aD,aD] k0=.ok (.rt (.str dN)) k0:=by refine(bM (ρ':=[aC w,aC (.tup [a,b]),aD]) (h':=k0) ?_).trans ?_;rw[exs,aH (aF rfl) bf,aE];show Res.bind (run F (k+7) 704 [w] k0) _=_;rw[e,aE];rfl;refine gH ((lB (h1:=k0) ?_).trans (gH (dS aQ)));rw[anT (h1:=k0) (by rw[ev,ev,aF (x:=.tup [a,b]) rfl,aE];rfl)];exact EE (jl (ws:=[a,b]) (aF (x:=.tup [a,b]) rfl) rfl) aQ rfl
  rw[eb];exact pJ (λn=>rfl) Gm.refl
end
noncomputable def oW(t:Nat×Nat×W):W:=.tup [.int t.1,.int t.2.1,t.2.2]
noncomputable abbrev Ax(sc d l w:W)(x4 x5 x6 x7 x8:Option W):En:=[aC sc,aC d,aC l,aC w,x4,x5,x6,x7,x8]
section
variable{F:Nat->Option Fn}(C:uH F)
include C
theorem zwb{k d c b:Nat}{h:VH}(D:Dk h d c b)(hb:b<1000) :
 ∃(ts:List (Nat×Nat×W)) (h':VH),i6 (aU .bU (.tup [.int (4:Nat)])) (bK (.one 0)) (λ_ h=>.ok (.bl true) h) (ev (run F (k+4)) Hh) fuel 0 [aD,aC (.ref d)] h []=.ok (ts.map oW) h'/\ts.length=4/\(∀t∈ts,Gd d c Od h.n h' t.2.2)/\Dk h' d c (b+16)/\bL h h' d c:=by
 obtain⟨ys,ρ',h',e1,hI⟩:=lA (nx:=aU .bU (.tup [.int (4:Nat)])) (tg:=bK (.one 0)) (e:=ev (run F (k+4)) Hh) (n:=4)
  (I:=λi ρ h1 acc=>∃x ts,ρ=[x,aC (.ref d)]/\acc=ts.map oW/\ts.length=i/\(∀t∈ts,Gd d c Od h.n h1 t.2.2)/\Dk h1 d c (b+4*i)/\bL h h1 d c)
  (λi ρ h1 acc hi hI=>by
    obtain⟨x,ts,rfl,rfl,li,ok,D1,K1⟩:=hI;obtain⟨u,h2,e2,u0,u1,D2,K2⟩:=take C.t (k:=k+1) (m:=14) (h:=h1) D1 (by lia) (by lia) (by lia);obtain⟨v,h3,e3,v0,v1,D3,K3⟩:=take C.t (k:=k+1) (m:=16) (h:=h2) D2 (by lia) (by lia) (by lia);obtain⟨w,h4,e4,D4,K4,g4⟩:=zr5 C (k:=k) (h:=h3) D3 (by lia);obtain⟨u,rfl⟩:=rQ u0;obtain⟨v,rfl⟩:=rQ v0;have K:=(K2.trans K3).trans K4;refine⟨.int (i:Int),[aC (.int (i:Int)),aC (.ref d)],oW (u,v,w),h4,?_,rfl,?_,_,ts++[(u,v,w)],rfl,by rw[gu];rfl,by rw[fC,li];rfl,λt ht=>?_,D4.mono (by lia),K1.trans K⟩;rw[jo (by decide),if_pos hi];exact jC (ys:=[.int (u:Int),.int (v:Int),w]) (aH (lJ (x:=.ref d) (y:=.int 14) (aF rfl) aQ e2) (aH (lJ (x:=.ref d) (y:=.int 16) (aF rfl) aQ e3) (aH (wk (x:=.ref d) (aF rfl) e4) bf))) rfl;rcases nR.mp ht with ht|ht;exact(ok t ht).keep K;rw[jE.mp ht];exact g4.le (eS K1.le (eS K2.le K3.le)))
  (λρ h1 acc hI=>by rw[jo (by decide),if_neg (g9 _)])
  (ρ:=[aD,aC (.ref d)]) (h:=h) (by decide) ⟨aD,[],rfl,rfl,rfl,(λ_ h=>by cases h),D.mono (by lia),.refl⟩
 obtain⟨_,ts,_,rfl,li,ok,D,K⟩:=hI;exact⟨ts,h',e1,li,ok,D,K⟩
theorem zwc{k d c b n:Nat}{h:VH}(D:Dk h d c b)(hb:b<1000)(hn:n<=16) :
 ∃(ns:List Int) (h':VH),i6 (aU .bU (.tup [.int n])) (bK (.one 0)) (λ_ h=>.ok (.bl true) h) (ev (run F (k+3)) Hi) fuel 0 [aD,aC (.ref d)] h []=.ok (ns.map .int) h'/\ns.length=n/\(∀x∈ns,0<=x/\x<=99)/\bL h h' d c:=by
 obtain⟨ys,ρ',h',e1,hI⟩:=lA (nx:=aU .bU (.tup [.int n])) (tg:=bK (.one 0)) (e:=ev (run F (k+3)) Hi) (n:=n)
  (I:=λi ρ h1 acc=>∃x ns,ρ=[x,aC (.ref d)]/\acc=ns.map W.int/\ns.length=i/\(∀x∈ns,(0:Int)<=x/\x<=99)/\Dk h1 d c (b+2*i)/\bL h h1 d c)
  (λi ρ h1 acc hi hI=>by
    obtain⟨x,ns,rfl,rfl,li,ok,D1,K1⟩:=hI;obtain⟨u,h6,e6,u0,u1,D6,K6⟩:=take C.t (k:=k) (m:=100) (h:=h1) D1 (by lia) (by lia) (by lia);refine⟨.int (i:Int),[aC (.int (i:Int)),aC (.ref d)],.int u,h6,?_,rfl,lJ (aF rfl) aQ e6,_,ns++[u],rfl,by rw[gu];rfl,by rw[fC,li];rfl,λy hy=>?_,D6.mono (by lia),K1.trans K6⟩;rw[jo (by lia),if_pos hi];rcases nR.mp hy with hy|hy;exact ok y hy;rw[jE.mp hy];exact⟨u0,by lia⟩)
  (λρ h1 acc hI=>by rw[jo (by lia),if_neg (g9 _)])
  (ρ:=[aD,aC (.ref d)]) (h:=h) (by lia) ⟨aD,[],rfl,rfl,rfl,(λ_ h=>by cases h),D.mono (by lia),.refl⟩
 obtain⟨_,ns,_,rfl,li,ok,_,K⟩:=hI;exact⟨ns,h',e1,li,ok,K⟩
theorem zz0{k:Nat}{h:VH}{ns:List Int}{sc d l:W}{t:Nat×Nat×W}{x7 x8:Option W}(h1:1<=ns.length)(h2:ns.length<=16)(hb:∀x∈ns,0<=x/\x<=99)(ov:Od h t.2.2) :
 ∃y7 y8 h',exs (run F (k+8)) Hj (Ax sc d l (iW ns) (aC (.int (t.1:Int))) (aC (.int (t.2.1:Int))) (aC t.2.2) x7 x8) h=.ok (.nx (Ax sc d l (iW ns) (aC (.int (t.1:Int))) (aC (.int (t.2.1:Int))) (aC t.2.2) y7 y8)) h'/\Gm h h':=by
 let cl:=run F (k+8);let ρ (y7 y8:Option W):En:=Ax sc d l (iW ns) (aC (.int (t.1:Int))) (aC (.int (t.2.1:Int))) (aC t.2.2) y7 y8;have p:(0:Int)<ns.length:=by lia
 have lx:∀{y7 y8 h},ev cl (.bi .len (.cons (.var 3) .nil)) (ρ y7 y8) h=.ok (.int (ns.length:Int)) h:=λ{y7 y8 h}=>(jl (ws:=ns.map .int) (aF (x:=iW ns) rfl) rfl).trans (by rw[bG]);have em:ev cl (.op .mod (.var 5) (.bi .len (.cons (.var 3) .nil))) (ρ x7 x8) h=.ok (.int ((t.2.1 % ns.length:Nat):Int)) h:=eN (x:=.int (t.2.1:Int)) (y:=.int (ns.length:Int)) (aF rfl) lx (by
  show Res.of ((if decide ((0:Int)<ns.length)then aC ((t.2.1:Int) % (ns.length:Int))else aD).map W.int) h=_;rw[if_pos (iT p)];show Res.ok (W.int ((t.2.1:Int) % (ns.length:Int))) h=_;rw[<-Int.natCast_emod])
 obtain⟨w,h3,e3,G3,o3⟩:=zv7 C (k:=k+7) (h:=h) (at_:=t.2.1 % ns.length) (ch:=(t.1:Int)) (v:=t.2.2) h1 h2 (Nat.mod_lt _ (by lia)) (by lia) ov;have s7:exs cl (.set 7 (.call 700 (.cons (.var 3) (.cons (.var 4) (.cons (.op .mod (.var 5) (.bi .len (.cons (.var 3) .nil))) (.cons (.var 6) .nil)))))) (ρ x7 x8) h=.ok (.nx (ρ (aC w) x8)) h3:=cz (rD (aH (aF rfl) (aH (aF rfl) (aH em (aH (aF rfl) bf)))) e3);let q:=mJ w 1 16 0 99;let h4:=h3.new (.lst [.str eL,.str dN]);have o4:Od h4 w:=rG (Gm.new Gm.refl) o3;have e7:=zv9 C (k:=k+6) (h:=h4) (w:=w) o4;have s8:exs cl (.set 8 (.idx (.lst (.cons (.cst (.str (cg "word"))) (.cons (.cst (.str (cg "made"))) .nil))) (.bi .int (.cons (.call 701 (.cons (.var 7) .nil)) .nil)))) (ρ (aC w) x8) h3=.ok (.nx (ρ (aC w) (aC (.str (if q then dN else eL))))) h4:=by refine cz (gK (x:=.ref h3.n) (y:=.int (if q then 1 else 0)) (h1:=h4) (ie (ys:=[.str eL,.str dN]) (aH aQ (aH aQ bf)) rfl) (h2:=h4) ?_ ?_);rw[ev,aH (wk (x:=w) (aF rfl) e7) bf,aE];show qp [.bl q] h4=_;cases q<;>rfl;have g:h4.get h3.n=aC (.lst [.str eL,.str dN]):=dG;cases q;simp only[cD,g];rfl;simp only[cD,g];rfl
 have t1:=Vt C (k:=k) (h:=h4) (w:=w) o4;have oi:Od h4 (iW ns):=mO (by rw[bG];lia) λx hx=>by
  obtain⟨i,_,rfl⟩:=iK.mp hx;exact pK
 have wi:mJ (iW ns) 1 16 0 99=true:=by show(jB (.tup (ns.map .int)) 1 16&& (ns.map W.int).all (within · 0 99))=true;rw[bw];refine⟨?_,iU.mpr λx hx=>?_⟩;simp[jB];lia;obtain⟨i,hi,rfl⟩:=iK.mp hx;have:=hb i hi;show(decide (0<=i)&&decide (i<=99))=true;rw[iT this.1,iT this.2];rfl
 have t2:=Vt C (k:=k) (h:=h4) (w:=iW ns) oi;rw[wi,if_pos rfl]at t2;have es:∀b:Bool,dW h4 (.str (if b then dN else eL)) (.str (if b then dN else eL))=aC true:=λb=>by
  cases b;exact Ul (by decide +kernel);exact Ul (by decide +kernel)
 have ec:ev cl (.or (.cmp .ne (.call 702 (.cons (.var 7) .nil)) (.var 8)) (.cmp .ne (.call 702 (.cons (.var 3) .nil)) (.cst (.str (cg "made"))))) (ρ (aC w) (aC (.str (if q then dN else eL)))) h4=.ok (.bl false) h4:=by refine(MC (h1:=h4) ?_).trans ?_;refine EE (x:=.str (if q then dN else eL)) (y:=.str (if q then dN else eL)) (h1:=h4) (wk (x:=w) (aF rfl) t1) (aF rfl) ?_;show(dW h4 _ _).map (!·)=_;rw[es];rfl;refine EE (x:=.str dN) (y:=.str dN) (h1:=h4) (wk (x:=iW ns) (aF rfl) t2) aQ ?_;show(dW h4 _ _).map (!·)=_;have:=es true;rw[if_pos rfl]at this;rw[this];rfl
 refine⟨aC w,aC (.str (if q then dN else eL)),h4,?_,G3.new⟩;unfold Hj;refine(bM s7).trans ?_;refine(bM s8).trans ?_;exact(bM (Vh ec)).trans (by rw[exs])
theorem EL{ns:List Int}(hl:ns.length<=63):DJ (run F 30 703 [.fz (ns.map .int)] ⟨0,0,[]⟩)=true:=by
 rw[show(30:Nat)=29+1 from rfl,gp C.MM rfl];obtain⟨h1,e1,D1⟩:=Mb C.t (k:=28) (h:=⟨0,0,[]⟩) hl;generalize hsc:W.fz (ns.map .int)=sc at *;clear hl hsc;let d:W:=.ref (0+1);obtain⟨ts,h2,e2,l2,g2,D2,K2⟩:=zwb C (k:=25) D1 (by decide);let h3:=h2.new (.lst (ts.map oW));have D3:Dk h3 (0+1) 0 (0+16):=D2.new;obtain⟨q,h4,e4,q0,q1,D4,K4⟩:=take C.t (k:=26) (m:=16) (h:=h3) D3 (by decide) (by decide) (by decide);obtain⟨n,hn⟩:∃n:Nat,1+q=n:=⟨(1+q).toNat,by lia⟩
 obtain⟨ws,h5,e5,lw,okw,K5⟩:=zwc C (k:=26) (n:=n) D4 (by decide) (by lia);have w1:1<=ws.length:=by lia
 have w2:ws.length<=16:=by lia
 let h6:=h5.new (.lst (ws.map .int));obtain⟨d2,c2⟩:=ED D2;have Vu:bL h3 h6 (0+1) 0:=(K4.trans K5).new;have g6:h6.get h2.n=aC (.lst (ts.map oW)):=Vu.get _ _ (by lia) (by lia) dG;have od6:∀t∈ts,Od h6 t.2.2:=λt ht=>(g2 t ht).all h6 ((bL.new .refl).trans Vu);obtain⟨ρ8,h8,e8,hI⟩:=sF (nx:=aU .seq (.ref h2.n)) (tg:=bK (.many [4,5,6])) (b:=exs (run F 29) Hj) (n:=4)
  (I:=λi ρ h=>∃x4 x5 x6 x7 x8,ρ=Ax sc d (.ref h2.n) (iW ws) x4 x5 x6 x7 x8/\Gm h6 h)
  (λi ρ h hi hI=>by
    obtain⟨x4,x5,x6,x7,x8,rfl,G⟩:=hI;have hx:=cM (l:=ts) (i:=i) (by lia);have hm:=mP hx;obtain⟨y7,y8,h',e,G2⟩:=zz0 C (k:=21) (h:=h) (sc:=sc) (d:=d) (l:=.ref h2.n) (t:=ts[i]) (x7:=x7) (x8:=x8) w1 w2 okw (rG G (od6 _ hm));refine⟨oW ts[i],Ax sc d (.ref h2.n) (iW ws) (aC (.int ((ts[i]).1:Int))) (aC (.int ((ts[i]).2.1:Int))) (aC (ts[i]).2.2) x7 x8,_,h',?_,rfl,e,⟨_,_,_,_,_,rfl,G.trans G2⟩⟩;rw[sG (by rw[G.get _ (bV g6)];exact g6),dY,hx];rfl)
  (λρ h hI=>by
    obtain⟨_,_,_,_,_,_,G⟩:=hI;rw[sG (by rw[G.get _ (bV g6)];exact g6),jm (by rw[bG];lia)])
  4 0 fuel (Ax sc d (.ref h2.n) (iW ws) aD aD aD aD aD) h6 (kC _) (show _<1000000 by decide) ⟨aD,aD,aD,aD,aD,rfl,Gm.refl⟩
 obtain⟨x4,x5,x6,x7,x8,rfl,_⟩:=hI;have ea:ev (run F 29) (.op .add (.cst (.int (1))) (.call 5 (.cons (.var 1) (.cons (.cst (.int (16))) .nil)))) [aC sc,aC d,aC (.ref h2.n),aD,aD,aD,aD,aD,aD] h3=.ok (.int n) h4:=
  eN (x:=.int 1) (y:=.int q) aQ (lJ (aF (x:=d) rfl) aQ e4) (jQ (λz:Int=>Res.ok (W.int z) h4) hn)
 have el2:ev (run F 29) (.lc .bU (.cons (.cst (.int (4))) .nil) (.one 0) 1 [1] (.cst (.bl true)) Hh) [aC sc,aC d,aD,aD,aD,aD,aD,aD,aD] h1=.ok (.ref h2.n) h3:=
  nK (h1:=h1) (x:=.tup [.int 4]) (aH aQ bf) e2 (by rw[bG,l2];lia)
 have el3:ev (run F 29) (.lc .bU (.cons (.op .add (.cst (.int (1))) (.call 5 (.cons (.var 1) (.cons (.cst (.int (16))) .nil)))) .nil) (.one 0) 1 [1] (.cst (.bl true)) Hi) [aC sc,aC d,aC (.ref h2.n),aD,aD,aD,aD,aD,aD] h3=.ok (.ref h5.n) h6:=
  nK (h1:=h4) (x:=.tup [.int n]) (aH ea bf) e5 (by rw[bG];lia)
 have eb:exs (run F 29) Hl.body [aC sc,aD,aD,aD,aD,aD,aD,aD,aD] ⟨0,0,[]⟩=.ok (.rt (.bl true)) h8:=by refine(bM (cz (h1:=h1) (x:=d) (wk (aF rfl) e1))).trans ?_;refine(bM (cz (h1:=h3) (x:=.ref h2.n) el2)).trans ?_;refine(bM (cz (h1:=h6) (x:=iW ws) (uF (x:=.ref h5.n) (h1:=h6) el3 (rE dG)))).trans ?_;refine(bM ((gM (x:=.ref h2.n) (aF rfl)).trans e8)).trans ?_;exact gH (dS aQ)
 show DJ (fin ⟨0,0,[]⟩ (exs (run F 29) Hl.body [aC sc,aD,aD,aD,aD,aD,aD,aD,aD] ⟨0,0,[]⟩))=true;rw[eb];obtain⟨h9,e9⟩:=zvy (h:=⟨0,0,[]⟩) (h':=h8) (w:=.bl true);rw[e9];rfl
end
end RF
namespace HD
open PySem PySem.W PySem.Calls PyProof.Rows
noncomputable section
noncomputable def p:aj:=PySem.Challenge.pw_ballrockers_k55_no_words
noncomputable abbrev S(x:String):Str:=Str.ofString x
noncomputable abbrev U(x:String)(t:Tok):af:=Value.str (S x) t
noncomputable abbrev R(a:ai):af:=Value.ref a
noncomputable abbrev I(i:Int)(t:Tok):af:=Value.int i t
noncomputable abbrev E(P:Params)(x:String)(t:Tok)(v:af):DictEntry:=DictEntry.mk (PyData.keyHash P (S x)) (Value.str (S x) t) v
noncomputable abbrev N(o:Obj)(l r:BT):BT:=BT.node o l r
noncomputable abbrev Z:BT:=BT.nil
noncomputable abbrev L(o:Obj):BT:=BT.node o Z Z
noncomputable abbrev Y(c:String)(d:Data):Obj:=Obj.mk (Value.type c) aD d #[]
noncomputable abbrev X(d:Data):Obj:=Obj.mk Value.none aD d #[]
noncomputable def ze(l:List au)(i:Nat):au:=l.getD i (Stmt.Pass ⟨0,0,0,0⟩)
noncomputable def Vv:au->List au|.FunctionDef _ _ b _ _ _ _ _ _ _=>b|.ClassDef _ _ _ b _ _ _ _ _ _ _=>b|_=>[]
noncomputable def Vw:au->Arguments|.FunctionDef _ a _ _ _ _ _ _ _ _=>a|_=>⟨[],[],aD,[],[],aD,[]⟩
noncomputable def Vx:au->az|.FunctionDef _ _ _ _ _ _ s _ _ _=>s|_=>p.main.scope
noncomputable def fb(i:Nat):List au:=Vv (ze p.main.body i)
noncomputable def fa(i:Nat):Arguments:=Vw (ze p.main.body i)
noncomputable def fs(i:Nat):az:=Vx (ze p.main.body i)
noncomputable def cb(i j:Nat):List au:=Vv (ze (fb i) j)
noncomputable def ca(i j:Nat):Arguments:=Vw (ze (fb i) j)
noncomputable def cs(i j:Nat):az:=Vx (ze (fb i) j)
noncomputable abbrev O:af:=Value.none
noncomputable abbrev J(i:Int):af:=Value.int i 0
noncomputable abbrev V(t:Tok):af:=Value.str (S "/claim/cut.py") t
noncomputable abbrev A(l:Array af):Data:=Data.fields l
noncomputable abbrev B(f:av):Data:=Data.func f
noncomputable abbrev G(x:String)(i:Nat)(g:ai)(c:List (Str×ai))(d k o m:af)(n:Option ai)(cd ct:af)(b:ai):av:=FuncData.mk (S x) (S x) (fa i) (FuncBody.stmts (fb i)) (fs i) g c d k o m n cd ct b
section
variable(P:Params)
noncomputable def N0:Nat:=9528
noncomputable def lo:List Str:=[S "MOST_STANDS",S "fallen",S "heading_behind"]
noncomputable def keep:List Nat:=[1,2,3,4,5,6,7,8,9,10,11,12,13,14,15,16,17,19,20,21,22,23,24,26,27,29,30,31,33,34,35,39,40,41,42,43,44,45,46,47,48,49,50,52,53,54,55,56,57,58,59,60,61,62,63]
noncomputable def life:Life:=(Life.mk [] [] [] 0 [] [] false #[] [] 0 false false false 0 [2000,10,10] false 0 true [] [] 0 false)
noncomputable def m0:Nat:=11
noncomputable def ann:Option af:=(aC (R 6))
noncomputable def env:Env:={scope:=p.main.scope,locals:=mainNs,globals:=mainNs,cells:=[],code:=(R 13),frame:=aC 14}
noncomputable def bd:List au:=behindTheImports p
noncomputable def cd:Code:=Code.body bd env
noncomputable def fr:List Frame:=[topFrame (Pos.mk 0 0 0 0)]
noncomputable abbrev qC(n:String)(t:Nat)(l k:Int)(r m:Nat):Obj:=Y "code" (A #[U n t,U n (t+1),V (t+2),J l,J k,J 0,J 0,J 3,R r,Value.bool true,J 181,R (r+1),O,R (r+2),R (r+3),R (r+4),J (Int.ofNat m),J l,V (m+1)])
noncomputable abbrev qD(n:String)(t:Nat)(l k:Int)(r m:Nat):Obj:=Y "code" (A #[U n t,U n (t+1),V (t+2),J l,J k,J 0,J 0,J 3,R r,Value.bool true,J 181,R (r+1),O,O,O,R (r+2),J (Int.ofNat m),J l,V (m+1)])
noncomputable def qU:Nat->List String->List af|_,[]=>[]|t,x::r=>U x t::qU (t+1) r
noncomputable abbrev qT(t:Nat)(l:List String):Obj:=Y "tuple" (Data.seq (qU t l).toArray 0)
noncomputable abbrev qF(n:String)(i:Nat)(u:af)(r:ai):Obj:=Y "function" (B (G n i 3 [] O O O u aD (R r) O 0))
noncomputable abbrev qG(n:String)(i:Nat):Obj:=X (B (G n i 0 [] O O O O aD O O 0))
noncomputable def qJ:List (Int×Nat)->List af|[]=>[]|(a,b)::r=>J a::J 0::R b::qJ r
noncomputable def qO:List Obj->List Obj|x::_::r=>x::qO r|x=>x
noncomputable def qE:List Obj->List Obj|_::y::r=>y::qE r|_=>[]
noncomputable def qB:Nat->List Obj->BT|f+1,x::r=>N x (qB f (qO r)) (qB f (qE r))|_,_=>Z
 def a0:=(Y "tuple" (Data.seq #[] 0))
 def a1:=(X (A #[]))
 def z0(p0 p1 p2 p3 p4 p5 p6 p7 p8):=(Y "code" (A #[(U p0 p1),(U p0 p2),(V p3),(J p4),(J 0),(J 0),(J 0),(J 0),(R p5),(Value.bool false),(J 181),(R p6),O,O,O,O,(J p7),(J p4),(V p8)]))
 def a2:=z0 "<module>" 182 183 184 1 11 12 185 186
 def z1(p0 p1 p2 p3):=(Obj.mk (Value.type "frame") aD Data.plain #[(aC (R p0)),(aC (R 3)),(aC (R p1)),aD,(aC (U p2 p3)),aD,(aC (R 0))])
 def a3:=z1 13 3 "__main__" 164
 def ha:aA:=Heap.mk (Array.mk [(boot_o_0 P),(boot_o_1 P),(boot_o_2 P),(boot_o_3 P),(boot_o_4 P),(boot_o_5 P),(boot_o_6 P),(boot_o_7 P),(boot_o_8 P),(boot_o_9 P),(boot_o_10 P),a0,a1,a2,a3]) (Life.mk [] [] [] 0 [] [] false #[] [] 0 false false false 0 [2000,10,10] false 0 true [] [] 0 false)
noncomputable def sa(w:ak)(os:ay):ah:=⟨ha w.params,(Array.mk []),(Drawn.mk 0 0 0 0),187,os⟩
theorem nP{w:ak}{n:Nat}{s s':SharedT}{l:List au}{pos pos':Pos}(h:PySem.W.Fast.tw10110043849684766642 PySem.W.Fast.tw14364793385576792824 p w m0 ann 1 n s (piecesOf l env cd pos fr)=aC (.next,s',cd,pos')) :
 segRun treeTable p w m0 ann 1 n s.abs (piecesOf l env cd pos fr)=aC (.next,s'.abs,cd,pos'):=
 segRun_of (by rw[PySem.W.Fast.te10110043849684766642,FF];exact h)
theorem EM{w:ak}{n:Nat}{s s':ah}{pos:Pos}(h:PySem.W.Fast.tw15667345088766844465 PySem.W.Fast.tw14364793385576792824 p w m0 ann n s (topStub p)=aC (s',⟨PySem.W.Fast.tw11892475500146522536 PySem.W.Fast.tw14364793385576792824 cd,cd,pos,fr⟩)) :
 topGo treeTable p w m0 ann n s (topStub p)=aC (s',⟨denote treeTable cd,cd,pos,fr⟩):=by
 rw[PySem.W.Fast.te15667345088766844465,FF,PySem.W.Fast.te11892475500146522536];exact h
theorem zwd{w:ak}{n:Nat}{s s':ah}{pos pos':Pos}(h:PySem.W.Fast.tw14374325043358763698 PySem.W.Fast.tw14364793385576792824 p w m0 ann 1 n s (blockOf bd env cd pos fr)=aC (.next,s',cd,pos')) :
 segRun treeTable p w m0 ann 1 n s (blockOf bd env cd pos fr)=aC (.next,s',cd,pos'):=by
 rw[PySem.W.Fast.te14374325043358763698,FF];exact h
theorem EN{w:ak}{n:Nat}{s s':ah}{pos:Pos}(h:PySem.W.Fast.tw14082659384304107361 PySem.W.Fast.tw14364793385576792824 p w m0 ann n s ⟨doneF .next,cd,pos,fr⟩=aC s') :
 topRun treeTable p w m0 ann n s ⟨doneF .next,cd,pos,fr⟩=aC s':=by
 rw[PySem.W.Fast.te14082659384304107361,FF];exact h
set_option maxHeartbeats 0 in
theorem pre(w:ak)(os:ay):topGo treeTable p w m0 ann 12 ⟨boot_heap w.params,Array.mk [],boot_drawn,boot_toks,os⟩ (topStub p)=aC (sa w os,⟨denote treeTable cd,cd,(Pos.mk 0 0 0 0),fr⟩):=EM (by kernel_rfl)
 def Vy:List Obj:=[(boot_o_0 P),(boot_o_1 P),(boot_o_2 P),(boot_o_3 P),(boot_o_4 P),(boot_o_5 P),(boot_o_6 P),(boot_o_7 P),(boot_o_8 P),(boot_o_9 P),(boot_o_10 P),a0,a1,a2,a3]
 def tb:=qB 20 (Vy P)
noncomputable def sb(w:ak)(os:ay):SharedT:=⟨tb w.params,15,life,(Array.mk []),(Drawn.mk 0 0 0 0),187,os⟩
set_option maxHeartbeats 0 in
theorem block(w:ak)(os:ay):segRun treeTable p w m0 ann 1 1 (sa w os) (blockOf bd env cd (Pos.mk 0 0 0 0) fr)=aC (.next,(sb w os).abs,cd,(Pos.mk 0 0 0 0)):=zwd (by kernel_rfl)
 def Vz:=[(E P "__doc__" 166 O),(E P "__package__" 167 O),(E P "__loader__" 168 (Value.builtin "__main__.__loader__#opaque")),(E P "__spec__" 169 O),(E P "__annotations__" 170 (R 6)),(E P "__builtins__" 171 (R 4)),(E P "__file__" 173 (V 172)),(E P "__cached__" 174 O),(E P "BoardError" 206 (R 24)),(E P "NoBoard" 222 (R 37)),(E P "Fault" 249 (R 56)),(E P "NoLeans" 265 (R 68)),(E P "NoStand" 281 (R 80)),(E P "NoFeeder" 297 (R 92))]
 def a4:=Y "dict" (Data.dict ((E P "__name__" 165 (U "ballrockers.errors" 187))::Vz P).toArray 15)
 def VA:List (Int×Nat):=[(2,20),(4,33),(6,45),(11,64),(13,76),(15,88)]
 def a5:=X (A (qJ VA).toArray)
 def a6:=(Y "tuple" (Data.seq #[(Value.type "ValueError")] 0))
 def a7:=(Y "builtin_function_or_method" (A #[(Value.builtin "type.__prepare__"),(Value.type "type")]))
 def z2(p0 p1 p2 p3 p4 p5 p6 p7 p8):=(Y "dict" (Data.dict #[(E P "__module__" p0 (U "ballrockers.errors" 187)),(E P "__qualname__" p1 (U p2 p3)),(E P "__firstlineno__" p4 (I p5 p6)),(E P "__static_attributes__" p7 (R p8))] 4))
 def a8:=z2 P 196 198 "BoardError" 197 200 2 199 201 22
 def a9:=z0 "BoardError" 191 192 193 2 18 19 194 195
 def Le:=z1 20 17 "ballrockers.errors" 187
 def a11:=(Y "dict" (Data.dict #[(E P "__module__" 196 (U "ballrockers.errors" 187)),(E P "__firstlineno__" 200 (I 2 199)),(E P "__static_attributes__" 201 (R 22)),(E P "__weakref__" 203 (R 25)),(E P "__doc__" 204 O)] 3))
 def a12:=(Obj.mk (Value.type "type") aD (Data.cls (ClassData.mk (S "BoardError") [(Value.type "ValueError")] [(R 24),(Value.type "ValueError"),(Value.type "Exception"),(Value.type "BaseException"),(Value.type "object")] 23 (S "BoardError") true [] [(R 37),(R 56),(R 68),(R 80),(R 92)] false aD false)) #[(aC (R 15)),aD,(aC (U "BoardError" 189)),(aC (U "BoardError" 197)),(aC (Value.builtin "ValueError.__new__")),(aC (Value.bool true))])
 def a13:=(Y "getset_descriptor" (A #[(U "__weakref__" 202),(R 24),(Value.builtin "ExceptionGroup.__weakref__"),O]))
 def a14:=(Y "super" (A #[(R 24),(R 24),(R 24)]))
 def z3(p0):=(Y "builtin_function_or_method" (A #[(Value.builtin "object.__init_subclass__"),(R p0)]))
 def a15:=z3 24
 def lK:=(Y "tuple" (Data.seq #[(R 24)] 0))
 def a17:=z2 P 214 216 "NoBoard" 215 218 4 217 219 35
 def a18:=z0 "NoBoard" 209 210 211 4 31 32 212 213
 def a19:=z1 33 30 "ballrockers.errors" 187
 def z4(p0 p1 p2 p3 p4 p5 p6):=(Y "dict" (Data.dict #[(E P "__module__" p0 (U "ballrockers.errors" 187)),(E P "__firstlineno__" p1 (I p2 p3)),(E P "__static_attributes__" p4 (R p5)),(E P "__doc__" p6 O)] 2))
 def a20:=z4 P 214 218 4 217 219 35 220
 def z5(p0 p1 p2 p3 p4 p5):=(Obj.mk (Value.type "type") aD (Data.cls (ClassData.mk (S p0) [(R 24)] [(R p1),(R 24),(Value.type "ValueError"),(Value.type "Exception"),(Value.type "BaseException"),(Value.type "object")] p2 (S p0) true [] [] false aD false)) #[(aC (R p3)),aD,(aC (U p0 p4)),(aC (U p0 p5)),(aC (Value.builtin "ValueError.__new__")),(aC (Value.bool true))])
 def a21:=z5 "NoBoard" 37 36 28 207 215
 def a22:=(Y "super" (A #[(R 37),(R 37),(R 37)]))
 def a23:=z3 37
 def a24:=(Y "dict" (Data.dict #[(E P "__module__" 230 (U "ballrockers.errors" 187)),(E P "__qualname__" 232 (U "Fault" 231)),(E P "__firstlineno__" 234 (I 6 233)),(E P "__init__" 243 (R 53)),(E P "__static_attributes__" 246 (R 54))] 5))
 def a25:=(X (A #[(J 8),(J 4),(R 52)]))
 def a26:=z0 "Fault" 225 226 227 6 43 44 228 229
 def a27:=z1 45 42 "ballrockers.errors" 187
 def a28:=qT 238 ["self","row","column"]
 def a29:=(X (B (FuncData.mk (S "__init__") (S "Fault.__init__") (ca 3 0) (FuncBody.stmts (cb 3 0)) (cs 3 0) 0 [] O O O O aD O O 0)))
 def a30:=(Y "code" (A #[(U "__init__" 235),(U "Fault.__init__" 236),(V 237),(J 8),(J 3),(J 0),(J 0),(J 3),(R 47),(Value.bool true),(J 181),(R 48),O,(R 49),(R 50),(R 51),(J 241),(J 8),(V 242)]))
 def a31:=(Y "function" (B (FuncData.mk (S "__init__") (S "Fault.__init__") (ca 3 0) (FuncBody.stmts (cb 3 0)) (cs 3 0) 3 [] O O O (U "ballrockers.errors" 187) aD (R 52) O 0)))
 def a32:=qT 244 ["column","row"]
 def a33:=(Y "dict" (Data.dict #[(E P "__module__" 230 (U "ballrockers.errors" 187)),(E P "__firstlineno__" 234 (I 6 233)),(E P "__init__" 243 (R 53)),(E P "__static_attributes__" 246 (R 54)),(E P "__doc__" 247 O)] 2))
 def a34:=z5 "Fault" 56 55 40 223 231
 def a35:=(Y "super" (A #[(R 56),(R 56),(R 56)]))
 def a36:=z3 56
 def a37:=z2 P 257 259 "NoLeans" 258 261 11 260 262 66
 def a38:=z0 "NoLeans" 252 253 254 11 62 63 255 256
 def a39:=z1 64 61 "ballrockers.errors" 187
 def a40:=z4 P 257 261 11 260 262 66 263
 def a41:=z5 "NoLeans" 68 67 59 250 258
 def a42:=(Y "super" (A #[(R 68),(R 68),(R 68)]))
 def a43:=z3 68
 def a44:=z2 P 273 275 "NoStand" 274 277 13 276 278 78
 def a45:=z0 "NoStand" 268 269 270 13 74 75 271 272
 def a46:=z1 76 73 "ballrockers.errors" 187
 def a47:=z4 P 273 277 13 276 278 78 279
 def a48:=z5 "NoStand" 80 79 71 266 274
 def a49:=(Y "super" (A #[(R 80),(R 80),(R 80)]))
 def a50:=z3 80
 def a51:=z2 P 289 291 "NoFeeder" 290 293 15 292 294 90
 def a52:=z0 "NoFeeder" 284 285 286 15 86 87 287 288
 def a53:=z1 88 85 "ballrockers.errors" 187
 def a54:=z4 P 289 293 15 292 294 90 295
 def a55:=z5 "NoFeeder" 92 91 83 282 290
 def a56:=(Y "super" (A #[(R 92),(R 92),(R 92)]))
 def a57:=z3 92
 def VB:List Obj:=((Vy P).set 3 (a4 P)).set 12 a5++[a6,a7,(a8 P),a0,a1,a9,Le,a0,(a11 P),a12,a13,a14,a15,lK,a7,(a17 P),a0,a1,a18,a19,a0,(a20 P),a21,a22,a23,lK,a7,(a24 P),a0,a25,a26,a27,a0,a1,a28,a0,a29,a30,a31,a32,(a33 P),a34,a35,a36,lK,a7,(a37 P),a0,a1,a38,a39,a0,(a40 P),a41,a42,a43,lK,a7,(a44 P),a0,a1,a45,a46,a0,(a47 P),a48,a49,a50,lK,a7,(a51 P),a0,a1,a52,a53,a0,(a54 P),a55,a56,a57]
 def t0:=qB 20 (VB P)
noncomputable def s0(w:ak)(os:ay):SharedT:=⟨t0 w.params,95,life,(Array.mk []),(Drawn.mk 0 0 0 0),298,os⟩
noncomputable def pA:List au:=(bd.drop 0).take 7
set_option maxHeartbeats 0 in
theorem MP(w:ak)(os:ay):segRun treeTable p w m0 ann 1 1295 (sb w os).abs (piecesOf pA env cd (Pos.mk 0 0 0 0) fr)=aC (.next,(s0 w os).abs,cd,(Pos.mk 15 0 16 8)):=nP (by kernel_rfl)
 def EO:=(Vz P++[(E P "NoRow" 313 (R 104)),(E P "NoNumber" 329 (R 116)),(E P "NoFit" 345 (R 128)),(E P "TooGreat" 361 (R 140)),(E P "NoMachine" 377 (R 152)),(E P "NoWord" 393 (R 164)),(E P "NoFault" 409 (R 176))])
 def a58:=Y "dict" (Data.dict ((E P "__name__" 165 (U "ballrockers.errors" 187))::EO P).toArray 22)
 def ER:List (Int×Nat):=VA++[(17,100),(19,112),(21,124),(23,136),(25,148),(27,160),(29,172)]
 def a59:=X (A (qJ ER).toArray)
 def a60:=(Obj.mk (Value.type "type") aD (Data.cls (ClassData.mk (S "BoardError") [(Value.type "ValueError")] [(R 24),(Value.type "ValueError"),(Value.type "Exception"),(Value.type "BaseException"),(Value.type "object")] 23 (S "BoardError") true [] [(R 37),(R 56),(R 68),(R 80),(R 92),(R 104),(R 116),(R 128),(R 140),(R 152),(R 164),(R 176)] false aD false)) #[(aC (R 15)),aD,(aC (U "BoardError" 189)),(aC (U "BoardError" 197)),(aC (Value.builtin "ValueError.__new__")),(aC (Value.bool true))])
 def a61:=z2 P 305 307 "NoRow" 306 309 17 308 310 102
 def a62:=z0 "NoRow" 300 301 302 17 98 99 303 304
 def a63:=z1 100 97 "ballrockers.errors" 187
 def a64:=z4 P 305 309 17 308 310 102 311
 def a65:=z5 "NoRow" 104 103 95 298 306
 def a66:=(Y "super" (A #[(R 104),(R 104),(R 104)]))
 def a67:=z3 104
 def a68:=z2 P 321 323 "NoNumber" 322 325 19 324 326 114
 def a69:=z0 "NoNumber" 316 317 318 19 110 111 319 320
 def a70:=z1 112 109 "ballrockers.errors" 187
 def a71:=z4 P 321 325 19 324 326 114 327
 def a72:=z5 "NoNumber" 116 115 107 314 322
 def a73:=(Y "super" (A #[(R 116),(R 116),(R 116)]))
 def a74:=z3 116
 def a75:=z2 P 337 339 "NoFit" 338 341 21 340 342 126
 def a76:=z0 "NoFit" 332 333 334 21 122 123 335 336
 def a77:=z1 124 121 "ballrockers.errors" 187
 def a78:=z4 P 337 341 21 340 342 126 343
 def a79:=z5 "NoFit" 128 127 119 330 338
 def a80:=(Y "super" (A #[(R 128),(R 128),(R 128)]))
 def a81:=z3 128
 def a82:=z2 P 353 355 "TooGreat" 354 357 23 356 358 138
 def a83:=z0 "TooGreat" 348 349 350 23 134 135 351 352
 def a84:=z1 136 133 "ballrockers.errors" 187
 def a85:=z4 P 353 357 23 356 358 138 359
 def a86:=z5 "TooGreat" 140 139 131 346 354
 def a87:=(Y "super" (A #[(R 140),(R 140),(R 140)]))
 def a88:=z3 140
 def a89:=z2 P 369 371 "NoMachine" 370 373 25 372 374 150
 def a90:=z0 "NoMachine" 364 365 366 25 146 147 367 368
 def a91:=z1 148 145 "ballrockers.errors" 187
 def a92:=z4 P 369 373 25 372 374 150 375
 def a93:=z5 "NoMachine" 152 151 143 362 370
 def a94:=(Y "super" (A #[(R 152),(R 152),(R 152)]))
 def a95:=z3 152
 def a96:=z2 P 385 387 "NoWord" 386 389 27 388 390 162
 def a97:=z0 "NoWord" 380 381 382 27 158 159 383 384
 def a98:=z1 160 157 "ballrockers.errors" 187
 def a99:=z4 P 385 389 27 388 390 162 391
 def MQ:=z5 "NoWord" 164 163 155 378 386
 def MR:=(Y "super" (A #[(R 164),(R 164),(R 164)]))
 def MS:=z3 164
 def MT:=z2 P 401 403 "NoFault" 402 405 29 404 406 174
 def MU:=z0 "NoFault" 396 397 398 29 170 171 399 400
 def MW:=z1 172 169 "ballrockers.errors" 187
 def MX:=z4 P 401 405 29 404 406 174 407
 def MY:=z5 "NoFault" 176 175 167 394 402
 def MZ:=(Y "super" (A #[(R 176),(R 176),(R 176)]))
 def M1:=z3 176
 def VC:List Obj:=(((VB P).set 3 (a58 P)).set 12 a59).set 24 a60++[lK,a7,(a61 P),a0,a1,a62,a63,a0,(a64 P),a65,a66,a67,lK,a7,(a68 P),a0,a1,a69,a70,a0,(a71 P),a72,a73,a74,lK,a7,(a75 P),a0,a1,a76,a77,a0,(a78 P),a79,a80,a81,lK,a7,(a82 P),a0,a1,a83,a84,a0,(a85 P),a86,a87,a88,lK,a7,(a89 P),a0,a1,a90,a91,a0,(a92 P),a93,a94,a95,lK,a7,(a96 P),a0,a1,a97,a98,a0,(a99 P),MQ,MR,MS,lK,a7,(MT P),a0,a1,MU,MW,a0,(MX P),MY,MZ,M1]
 def t1:=qB 20 (VC P)
noncomputable def s1(w:ak)(os:ay):SharedT:=⟨t1 w.params,179,life,(Array.mk []),(Drawn.mk 0 0 0 0),410,os⟩
noncomputable def st1:List au:=(bd.drop 7).take 7
set_option maxHeartbeats 0 in
theorem M3(w:ak)(os:ay):segRun treeTable p w m0 ann 1 1492 (s0 w os).abs (piecesOf st1 env cd (Pos.mk 15 0 16 8) fr)=aC (.next,(s1 w os).abs,cd,(Pos.mk 29 0 30 8)):=nP (by kernel_rfl)
 def wH:=(EO P++[(E P "NoNames" 425 (R 188)),(E P "NoText" 441 (R 200)),(E P "NoSaying" 457 (R 212)),(E P "NoName" 473 (R 224)),(E P "is_whole" 482 (R 233)),(E P "is_whole_within" 491 (R 240)),(E P "is_tuple_within" 500 (R 247)),(E P "are_wholes_within" 512 (R 254)),(E P "MOST_FEEDERS" 514 (I 4 513)),(E P "MOST_NAME" 516 (I 99 515)),(E P "MOST_STANDS" 522 (I 1000000000 521)),(E P "least_groups" 532 (R 261)),(E P "row_of" 540 (R 266)),(E P "turning_rows" 546 (R 271)),(E P "binary" 556 (R 278)),(E P "LEFT" 561 (I (-1) 560)),(E P "STRAIGHT" 563 (I 0 562)),(E P "RIGHT" 565 (I 1 564)),(E P "fallen" 582 (R 286)),(E P "heading_behind" 595 (R 294)),(E P "MOST_STATES" 599 (I 16 598)),(E P "MOST_TOGETHER" 601 (I 16 600)),(E P "PLAIN_DOOR" 604 (R 295)),(E P "machine_board" 610 (R 300)),(E P "word_board" 616 (R 305)),(E P "is_machine" 622 (R 310)),(E P "is_state" 628 (R 315)),(E P "is_pair" 638 (R 322)),(E P "parting_board" 644 (R 327)),(E P "forks_of" 650 (R 332))])
 def M4:=Y "dict" (Data.dict ((E P "__name__" 165 (U "ballrockers.machines" 596))::wH P).toArray 52)
 def wI:List (Int×Nat):=ER++[(31,184),(33,196),(35,208),(37,220),(40,232),(42,239),(44,246),(46,253),(57,260),(67,265),(69,270),(71,277),(81,285),(97,293),(115,299),(134,304),(139,309),(145,314),(147,321),(152,326),(163,331)]
 def M5:=X (A (qJ wI).toArray)
 def M6:=(Obj.mk (Value.type "type") aD (Data.cls (ClassData.mk (S "BoardError") [(Value.type "ValueError")] [(R 24),(Value.type "ValueError"),(Value.type "Exception"),(Value.type "BaseException"),(Value.type "object")] 23 (S "BoardError") true [] [(R 37),(R 56),(R 68),(R 80),(R 92),(R 104),(R 116),(R 128),(R 140),(R 152),(R 164),(R 176),(R 188),(R 200),(R 212),(R 224)] false aD false)) #[(aC (R 15)),aD,(aC (U "BoardError" 189)),(aC (U "BoardError" 197)),(aC (Value.builtin "ValueError.__new__")),(aC (Value.bool true))])
 def M7:=z2 P 417 419 "NoNames" 418 421 31 420 422 186
 def M8:=z0 "NoNames" 412 413 414 31 182 183 415 416
 def M9:=z1 184 181 "ballrockers.errors" 187
 def Na:=z4 P 417 421 31 420 422 186 423
 def Nb:=z5 "NoNames" 188 187 179 410 418
 def Nc:=(Y "super" (A #[(R 188),(R 188),(R 188)]))
 def Nd:=z3 188
 def Nf:=z2 P 433 435 "NoText" 434 437 33 436 438 198
 def Ng:=z0 "NoText" 428 429 430 33 194 195 431 432
 def Nh:=z1 196 193 "ballrockers.errors" 187
 def Ni:=z4 P 433 437 33 436 438 198 439
 def Nj:=z5 "NoText" 200 199 191 426 434
 def Nk:=(Y "super" (A #[(R 200),(R 200),(R 200)]))
 def Nl:=z3 200
 def Nm:=z2 P 449 451 "NoSaying" 450 453 35 452 454 210
 def Nn:=z0 "NoSaying" 444 445 446 35 206 207 447 448
 def Np:=z1 208 205 "ballrockers.errors" 187
 def Nq:=z4 P 449 453 35 452 454 210 455
 def Nr:=z5 "NoSaying" 212 211 203 442 450
 def Nu:=(Y "super" (A #[(R 212),(R 212),(R 212)]))
 def Nv:=z3 212
 def Nx:=z2 P 465 467 "NoName" 466 469 37 468 470 222
 def Ny:=z0 "NoName" 460 461 462 37 218 219 463 464
 def Nz:=z1 220 217 "ballrockers.errors" 187
 def NB:=z4 P 465 469 37 468 470 222 471
 def NC:=z5 "NoName" 224 223 215 458 466
 def ND:=(Y "super" (A #[(R 224),(R 224),(R 224)]))
 def NF:=z3 224
 def NG:=qT 479 ["thing"]
 def NH:=qG "is_whole" 19
 def NI:=qC "is_whole" 476 40 1 227 480
 def uI:=U "ballrockers.whole" 474
 def NJ:=qF "is_whole" 19 uI 232
 def NK:=qT 486 ["thing","low","high"]
 def NL:=qG "is_whole_within" 20
 def NN:=qC "is_whole_within" 483 42 3 234 489
 def NO:=qF "is_whole_within" 20 uI 239
 def NP:=qT 495 ["thing","fewest","most"]
 def NQ:=qG "is_tuple_within" 21
 def NR:=qC "is_tuple_within" 492 44 3 241 498
 def NS:=qF "is_tuple_within" 21 uI 246
 def NT:=qT 504 ["thing","fewest","most","low","high","number"]
 def NU:=qG "are_wholes_within" 22
 def NV:=qC "are_wholes_within" 501 46 5 248 510
 def NW:=qF "are_wholes_within" 22 uI 253
 def NX:=qT 526 ["stands","feeders","groups","reached"]
 def NY:=qG "least_groups" 27
 def NZ:=qC "least_groups" 523 57 2 255 530
 def N1:=qF "least_groups" 27 (U "ballrockers.groups" 517) 260
 def N2:=qG "row_of" 29
 def N3:=qD "row_of" 535 67 2 262 538
 def zf:=U "ballrockers.making" 533
 def N4:=qF "row_of" 29 zf 265
 def N5:=qG "turning_rows" 30
 def N6:=qD "turning_rows" 541 69 2 267 544
 def N7:=qF "turning_rows" 30 zf 270
 def N8:=qT 550 ["number","size","found","at"]
 def N9:=qG "binary" 31
 def Oa:=qC "binary" 547 71 2 272 554
 def Ob:=qF "binary" 31 zf 277
 def ES:=(Y "tuple" (Data.seq #[O] 0))
 def Oc:=qT 569 ["board","leans","feeder","fault","column","columns","turned","leaning","heading","places","piece"]
 def Oe:=qG "fallen" 36
 def Of:=qC "fallen" 566 81 4 280 580
 def Og:=(Y "function" (B (G "fallen" 36 3 [] (R 279) O O (U "ballrockers.ways" 557) aD (R 285) O 0)))
 def Oh:=qT 586 ["piece","heading","leaning","fault","group","side","lean"]
 def Oi:=qG "heading_behind" 37
 def Oj:=qC "heading_behind" 583 97 4 288 593
 def Ol:=(Y "function" (B (G "heading_behind" 37 3 [] (R 287) O O (U "ballrockers.ways" 557) aD (R 293) O 0)))
 def Om:=(Y "tuple" (Data.seq #[(I 0 602),(I 0 603)] 0))
 def Oo:=qG "machine_board" 42
 def Oq:=qD "machine_board" 605 115 1 296 608
 def kc:=U "ballrockers.machines" 596
 def Ot:=qF "machine_board" 42 kc 299
 def Ou:=qG "word_board" 43
 def Ov:=qD "word_board" 611 134 1 301 614
 def Ow:=qF "word_board" 43 kc 304
 def Ox:=qG "is_machine" 44
 def Oz:=qD "is_machine" 617 139 1 306 620
 def OA:=qF "is_machine" 44 kc 309
 def OB:=qG "is_state" 45
 def OC:=qD "is_state" 623 145 3 311 626
 def OD:=qF "is_state" 45 kc 314
 def OE:=qT 632 ["thing","states","name","following"]
 def OF:=qG "is_pair" 46
 def OG:=qC "is_pair" 629 147 2 316 636
 def OH:=qF "is_pair" 46 kc 321
 def OI:=qG "parting_board" 47
 def OJ:=qD "parting_board" 639 152 2 323 642
 def OL:=qF "parting_board" 47 kc 326
 def OM:=qG "forks_of" 48
 def ON:=qD "forks_of" 645 163 1 328 648
 def OO:=qF "forks_of" 48 kc 331
 def VD:List Obj:=(((VC P).set 3 (M4 P)).set 12 M5).set 24 M6++[lK,a7,(M7 P),a0,a1,M8,M9,a0,(Na P),Nb,Nc,Nd,lK,a7,(Nf P),a0,a1,Ng,Nh,a0,(Ni P),Nj,Nk,Nl,lK,a7,(Nm P),a0,a1,Nn,Np,a0,(Nq P),Nr,Nu,Nv,lK,a7,(Nx P),a0,a1,Ny,Nz,a0,(NB P),NC,ND,NF,a0,a1,NG,a0,NH,NI,NJ,a0,a1,NK,a0,NL,NN,NO,a0,a1,NP,a0,NQ,NR,NS,a0,a1,NT,a0,NU,NV,NW,a0,a1,NX,a0,NY,NZ,N1,a0,a1,N2,N3,N4,a0,a1,N5,N6,N7,a0,a1,N8,a0,N9,Oa,Ob,ES,a0,a1,Oc,a0,Oe,Of,Og,ES,a0,a1,Oh,a0,Oi,Oj,Ol,Om,a0,a1,Oo,Oq,Ot,a0,a1,Ou,Ov,Ow,a0,a1,Ox,Oz,OA,a0,a1,OB,OC,OD,a0,a1,OE,a0,OF,OG,OH,a0,a1,OI,OJ,OL,a0,a1,OM,ON,OO]
 def t2:=qB 20 (VD P)
noncomputable def s2(w:ak)(os:ay):SharedT:=⟨t2 w.params,333,life,(Array.mk []),(Drawn.mk 0 0 0 0),651,os⟩
noncomputable def st2:List au:=(bd.drop 14).take 35
set_option maxHeartbeats 0 in
theorem OP(w:ak)(os:ay):segRun treeTable p w m0 ann 1 1498 (s1 w os).abs (piecesOf st2 env cd (Pos.mk 29 0 30 8) fr)=aC (.next,(s2 w os).abs,cd,(Pos.mk 163 0 164 99)):=nP (by kernel_rfl)
 def ET:=(wH P++[(E P "joined_columns" 656 (R 337)),(E P "fork_rows" 662 (R 342)),(E P "_law_cell" 672 (R 349)),(E P "_law_mixed" 682 (R 356)),(E P "_law_deck" 688 (R 361)),(E P "_law_take" 697 (R 368)),(E P "_law_number" 706 (R 375)),(E P "_law_is_word" 712 (R 380)),(E P "_law_odd" 722 (R 387)),(E P "_law_bent" 733 (R 394)),(E P "_law_kinds" 741 (R 401)),(E P "_law_word" 749 (R 408)),(E P "_law_told" 758 (R 415)),(E P "law" 764 (R 420))])
 def OQ:=Y "dict" (Data.dict ((E P "__name__" 165 (U "law_ballrockers_k55_no_words" 663))::ET P).toArray 66)
 def EU:List (Int×Nat):=wI++[(165,336),(167,341),(175,348),(179,355),(182,360),(184,367),(193,374),(195,379),(199,386),(206,393),(211,400),(217,407),(222,414),(230,419)]
 def OR:=X (A (qJ EU).toArray)
 def OS:=qG "joined_columns" 49
 def OT:=qD "joined_columns" 651 165 2 333 654
 def OU:=qF "joined_columns" 49 kc 336
 def OV:=qG "fork_rows" 50
 def OW:=qD "fork_rows" 657 167 3 338 660
 def OX:=qF "fork_rows" 50 kc 341
 def OY:=qT 668 ["_law_script","_law_k"]
 def OZ:=qG "_law_cell" 52
 def O0:=qC "_law_cell" 665 175 2 343 670
 def iS:=U "law_ballrockers_k55_no_words" 663
 def O1:=qF "_law_cell" 52 iS 348
 def O2:=qT 676 ["_law_script","_law_k","_law_many","_law_number_here"]
 def O3:=qG "_law_mixed" 53
 def O4:=qC "_law_mixed" 673 179 3 350 680
 def O5:=qF "_law_mixed" 53 iS 355
 def O6:=qG "_law_deck" 54
 def O7:=qD "_law_deck" 683 182 1 357 686
 def O8:=qF "_law_deck" 54 iS 360
 def O9:=qT 692 ["_law_deck_here","_law_many","_law_cell_here"]
 def Pa:=qG "_law_take" 55
 def Pb:=qC "_law_take" 689 184 2 362 695
 def Pc:=qF "_law_take" 55 iS 367
 def Pe:=qT 701 ["_law_thing","_law_low","_law_high"]
 def Pf:=qG "_law_number" 56
 def Pg:=qC "_law_number" 698 193 3 369 704
 def Ph:=qF "_law_number" 56 iS 374
 def Pj:=qG "_law_is_word" 57
 def Pk:=qD "_law_is_word" 707 195 1 376 710
 def Pn:=qF "_law_is_word" 57 iS 379
 def Po:=qT 716 ["_law_deck_here","_law_deep","_law_k","_law_some"]
 def Pp:=qG "_law_odd" 58
 def Pq:=qC "_law_odd" 713 199 1 381 720
 def Pr:=qF "_law_odd" 58 iS 386
 def Pu:=qT 726 ["_law_word_here","_law_choice","_law_at","_law_value","_law_some"]
 def Pw:=qG "_law_bent" 59
 def Px:=qC "_law_bent" 723 206 4 388 731
 def Py:=qF "_law_bent" 59 iS 393
 def Pz:=qT 737 ["_law_e","_law_found"]
 def PB:=qG "_law_kinds" 60
 def PC:=qC "_law_kinds" 734 211 1 395 739
 def PD:=qF "_law_kinds" 60 iS 400
 def PF:=qT 745 ["_law_e","_law_words"]
 def PJ:=qG "_law_word" 61
 def PK:=qC "_law_word" 742 217 1 402 747
 def PL:=qF "_law_word" 61 iS 407
 def PN:=qT 753 ["_law_thing","_law_found","_law_e"]
 def PR:=qG "_law_told" 62
 def PU:=qC "_law_told" 750 222 1 409 756
 def PV:=qF "_law_told" 62 iS 414
 def PX:=qG "law" 63
 def PY:=qD "law" 759 230 1 416 762
 def PZ:=qF "law" 63 iS 419
 def P0:List Obj:=((VD P).set 3 (OQ P)).set 12 OR++[a0,a1,OS,OT,OU,a0,a1,OV,OW,OX,a0,a1,OY,a0,OZ,O0,O1,a0,a1,O2,a0,O3,O4,O5,a0,a1,O6,O7,O8,a0,a1,O9,a0,Pa,Pb,Pc,a0,a1,Pe,a0,Pf,Pg,Ph,a0,a1,Pj,Pk,Pn,a0,a1,Po,a0,Pp,Pq,Pr,a0,a1,Pu,a0,Pw,Px,Py,a0,a1,Pz,a0,PB,PC,PD,a0,a1,PF,a0,PJ,PK,PL,a0,a1,PN,a0,PR,PU,PV,a0,a1,PX,PY,PZ]
 def t3:=qB 20 (P0 P)
noncomputable def s3(w:ak)(os:ay):SharedT:=⟨t3 w.params,421,life,(Array.mk []),(Drawn.mk 0 0 0 0),765,os⟩
noncomputable def st3:List au:=(bd.drop 49).take 15
set_option maxHeartbeats 0 in
theorem P4(w:ak)(os:ay):segRun treeTable p w m0 ann 1 420 (s2 w os).abs (piecesOf st3 env cd (Pos.mk 163 0 164 99) fr)=aC (.next,(s3 w os).abs,cd,(Pos.mk 230 0 239 15)):=nP (by kernel_rfl)
 def hz:aA:=Heap.mk (Array.mk (P0 P)) (Life.mk [] [] [] 0 [] [] false #[] [] 0 false false false 0 [2000,10,10] false 0 true [] [] 0 false)
noncomputable def sz(w:ak)(os:ay):ah:=⟨hz w.params,(Array.mk []),(Drawn.mk 0 0 0 0),765,os⟩
set_option maxHeartbeats 0 in
theorem fin(w:ak)(os:ay):topRun treeTable p w m0 ann 2 (s3 w os).abs ⟨doneF .next,cd,(Pos.mk 230 0 239 15),fr⟩=aC (sz w os):=EN (by kernel_rfl)
 def as:List ai:=[2,3,15,22,23,24,25,28,35,36,37,40,47,49,50,52,53,54,55,56,59,66,67,68,71,78,79,80,83,90,91,92,95,102,103,104,107,114,115,116,119,126,127,128,131,138,139,140,143,150,151,152,155,162,163,164,167,174,175,176,179,186,187,188,191,198,199,200,203,210,211,212,215,222,223,224,227,229,230,232,233,234,236,237,239,240,241,243,244,246,247,248,250,251,253,254,255,257,258,260,261,262,265,266,267,270,271,272,274,275,277,278,279,280,282,283,285,286,287,288,290,291,293,294,295,296,299,300,301,304,305,306,309,310,311,314,315,316,318,319,321,322,323,326,327,328,331,332,333,336,337,338,341,342,343,345,346,348,349,350,352,353,355,356,357,360,361,362,364,365,367,368,369,371,372,374,375,376,379,380,381,383,384,386,387,388,390,391,393,394,395,397,398,400,401,402,404,405,407,408,409,411,412,414,415,416,419,420]
 def K:Frag:=as.map λi=>(i,(P0 P).getD i a0)
noncomputable def M0:Nat:=(12+ (1+ (1295+ (1492+ (1498+ (420+2))))))
theorem EV:bd=pA++(st1++(st2++(st3++([])))):=by kernel_rfl
theorem rest(w:ak)(os:ay):topRun treeTable p w m0 ann (1295+ (1492+ (1498+ (420+ (2))))) (sb w os).abs (restOf bd env cd (Pos.mk 0 0 0 0) fr)=aC (sz w os):=by rw[show restOf bd env cd (Pos.mk 0 0 0 0) fr=restOf (pA++(st1++(st2++(st3++([]))))) env cd (Pos.mk 0 0 0 0) fr from jQ (λb=>restOf b env cd (Pos.mk 0 0 0 0) fr) EV];exact(piece_app (MP w os) (piece_app (M3 w os) (piece_app (OP w os) (piece_app (P4 w os) (piece_nil (fin w os))))))
theorem run(w:ak)(os:ay):topRun treeTable p w m0 ann M0 ⟨boot_heap w.params,Array.mk [],boot_drawn,boot_toks,os⟩ (topStub p)=aC (sz w os):=
 go_top (pre w os) (piece_block (block w os) (rest w os))
noncomputable def rJ:Nat:=63
noncomputable def zz1:Pos:=(Pos.mk 230 0 239 15)
noncomputable def q:aj:={p with main:={p.main with body:=keep.map (ze p.main.body)}}
theorem EW:∀P,as=(K P).map (·.1):=λ_=>by kernel_rfl
noncomputable def H:Hook:=kHook K as EW
noncomputable def Xt(s:ah):Bool:=xlAt q [] s&&recOk [] s
theorem zz2(w:ak)(os:ay):(staticsOk (importedModules p.main.body) (boot_heap w.params) (hz w.params)&&namesBound p (hz w.params)&&gensDone (sz w os)&&laidKept (boot_heap w.params) (hz w.params))=true:=by rw[PySem.W.Fast.te5923862056798008813];kernel_rfl
theorem zz3(w:ak)(os:ay):seen ((recsOf q).map (·.name)) (ownsOf q) [] {sz w os with gens:=#[]}=expectedOf q:=by rw[PySem.W.Fast.te5160383126252970620,PySem.W.R.mapR_eq,PySem.W.Fast.te3399658132070893891,PySem.W.Fast.te5991557255702980513];kernel_rfl
theorem EX(w:ak)(os:ay):(sz w os).heap.bltView=bltViewBooted:=by kernel_rfl
theorem zz4(w:ak)(os:ay):((sz w os).heap.keysOk (looseW q lo) ((recsOf q).map (·.name)) ((litsOf q).map (·.1)) ((clssOf q (looseW q lo)).map (·.name))&& (sz w os).heap.accountedOkI (importedModules p.main.body)&& (sz w os).heap.isNs mainGlobals&& (sz w os).heap.isNs builtinsNs&&tablesOk q (sz w os).heap&&Xt (sz w os)&& (if true=true then(sz w os).gens.size==0 else !leftWithCleanup (sz w os).gens))=true:=by rw[PySem.W.Fast.te10880121769531294198,PySem.W.Fast.te821141287760084731,PySem.W.R.mapR_eq,PySem.W.Fast.te3399658132070893891,PySem.W.Fast.te7409074990110511671,PySem.W.Fast.te13664370479719496447,PySem.W.Fast.te14722251495701143533,PySem.W.Fast.te10994771534591457954,PySem.W.Fast.te5923862056798008813];kernel_rfl
theorem zz5(w:ak)(os:ay):tabsOk q (sz w os)=true:=by rw[PySem.W.Fast.te479339242167458305];kernel_rfl
theorem EY(w:ak)(os:ay):pinSeenD q (drecsOf q) (sz w os)=pinGoodD (drecsOf q):=by rw[PySem.W.Fast.te16090120013241838585,PySem.W.Fast.te3247288618530077131];kernel_rfl
theorem EZ(w:ak)(os:ay):plainSeenE q (looseW q lo) (sz w os)=plainGoodE q (looseW q lo):=by rw[PySem.W.Fast.te2386780881361962483,PySem.W.Fast.te821141287760084731];kernel_rfl
theorem E1(w:ak)(os:ay):plainSeenD q lo (sz w os)=plainGoodD q lo:=by rw[PySem.W.Fast.te11698064438423848299];kernel_rfl
theorem zz6(w:ak)(os:ay):wideSeen q (sz w os)=wideGood q:=by rw[PySem.W.Fast.te7317090234206586261];kernel_rfl
theorem E2(w:ak)(os:ay):clsSeenW q lo (sz w os)=clsGoodW q lo:=by rw[PySem.W.Fast.te7369524293546568484];kernel_rfl
theorem zz7(w:ak)(os:ay):as.map (sz w os).heap.get?=(K w.params).map λp=>aC p.2:=by kernel_rfl
theorem left:LeftO p q lo Xt (Hook.obs H) (Hook.val H) N0 true:=
 LeftO.of_pieces (H₀:=boot_heap) (H₁:=hz) (boot_open (by kernel_rfl) (by kernel_rfl) (λs=>by kernel_rfl)) (λw=>by kernel_rfl) run (by kernel_rfl)
  (λw=>funext λos=>looks_pair (zz2 w os) (looks_pair
    (looks_pair (zz3 w os) (looks_pair (EX w os) (looks_pair (zz4 w os) (looks_pair (zz5 w os) (looks_pair (EY w os) (looks_pair (EZ w os) (looks_pair (E1 w os) (looks_pair (zz6 w os) (E2 w os)))))))))
    (zz7 w os)))
noncomputable def df:DefRec:=⟨S "law",fa rJ,fb rJ,fs rJ,zz1⟩
theorem E3:defOf q (S "law")=aC (df,[]):=by kernel_rfl
theorem holds(l:OpenLaw)(hp:l.prog=p)(hn:l.name=S "law")(ok:l.wellSaid)(hch:(chainsOk q&&opensWell p&& (frees l.row.toRowW&&l.row.within.isEmpty)))(hb:l.row.toRowW.prog.bare)(hw:l.row.toRowW.promised)
 (hwr:(!l.row.writes||l.row.records.isEmpty)) (hk:p.theDef (S "law")=aC (df.params,df.body,df.scope)) (hkw:kwWritten? df.params.kwonlyargs df.params.kw_defaults=aC [])
 (call:WalkO q lo (XL q []) (Hook.says H) l.row.toRowW df [] λf vs=>PySem.call f vs):l.Holds:=
 holds_law ok λsaid=>PySem.W.holds_open (q:=q) (loose:=lo) (Xt:=Xt) (XP:=XL q []) (Yf:=Hook.obs H) (Ya:=Hook.val H) (YP:=Hook.says H) (N:=N0) (r:=l.row) (by have h:l.row.toRowW.prog=p:=hp;show LeftO l.row.toRowW.prog q lo Xt (Hook.obs H) (Hook.val H) N0 true;rw[h];exact left) (Hook.of H) (Hook.keeps H) (λs e=>xl_of s (Bool.and_eq_true_iff.mp e).1) XL.keeps
  (by show defOf q l.name=_;rw[hn];exact E3) (by show l.prog.theDef l.name=_;rw[hp,hn];exact hk) hkw (λs e=>recFacts_of (Bool.and_eq_true_iff.mp e).2) hwr said (by have h:l.row.toRowW.prog=p:=hp;rw[h];exact hch) hb hw call
end
end
end HD
namespace RF
noncomputable def VE:List PySem.Str:=(["is_whole","is_whole_within","_law_cell","_law_deck","_law_mixed","_law_take","is_tuple_within","are_wholes_within"]++bN 24 "" ++ ["least_groups","row_of"]++bN 2 "" ++ ["turning_rows"]++bN 4 "" ++ ["binary"]++bN 25 "" ++ ["fork_rows","forks_of","is_machine","is_pair","is_state","joined_columns"]++bN 4 "" ++ ["parting_board"]++bN 24 "" ++ ["_law_number"]++bN 60 "" ++ ["_law_odd"]++bN 9 "" ++ ["heading_behind","fallen"]++bN 12 "" ++ ["machine_board"]++bN 105 "" ++ ["word_board"]++bN 406 "" ++ ["_law_bent","_law_is_word","_law_told","law"]).map cg
noncomputable def VF:List Fn:=[DK,GY,GZ,DL,Lg,tZ,Ah,DN]++bN 24 ji++[yH,t6]++bN 2 ji++[yI]++bN 4 ji++[t7]++bN 25 ji++[yJ,yK,t8,t9,uc,yL]++bN 4 ji++[ud]++bN 24 ji++[lg]++bN 60 ji++[qZ]++bN 9 ji++[fm,nB]++bN 12 ji++[nC]++bN 105 ji++[DR]++bN 406 ji++[Hg,vM,DS,Hl,Aj]
noncomputable def P5:RX:=⟨[cg "word_board"],704,[(164,cg "word")]⟩
theorem c55:uH (λi=>VF[i]?):=by repeat' (first|rfl|constructor)
open PySem L2
section
noncomputable def cc(i:Nat):CC:=⟨pC ["_law_e"] (HD.fs i),(HD.fs i).names,true⟩
noncomputable def kn(l:List Bool):List (Str×Bool):=List.zip ["NoBoard","Fault","NoLeans","NoStand","NoFeeder","NoRow","NoNumber","NoFit","TooGreat","NoMachine","NoWord","NoFault","NoNames","NoText","NoSaying","NoName"] l
variable{X:Cx}{C:ai}{kb:List Bool}{k:Nat}
theorem kd1{b0 b1 b2 b3 b4 b5 b6 b7 b8 b9 bA bB bC bD bE bF:Bool}(O:qV X C (cc 60) (kn [b0,b1,b2,b3,b4,b5,b6,b7,b8,b9,bA,bB,bC,bD,bE,bF]) kb k):SQ X (HD.fb 60) (qS C [aC .exc,aD] (.pD [b0,b1,b2,b3,b4,b5,b6,b7,b8,b9,bA,bB,bC,bD,bE,bF])):=by have v:∀{ρ:List (Option MV)}{p:Pos}{m:MV},PE X (.Name "_law_e" p) (tM C (aC m::ρ) m):=nA O 0 (by decide +kernel) rfl;have w:∀{m n:MV}{p:Pos},PE X (.Name "_law_found" p) (tM C [aC m,aC n] n):=nA O 1 (by decide +kernel) rfl;have q:∀(i:Nat){t:Str}{b:Bool}{p p1 p2 pos:Pos}{ρ:List (Option MV)},(kn [b0,b1,b2,b3,b4,b5,b6,b7,b8,b9,bA,bB,bC,bD,bE,bF])[i]?=aC (t,b)->PE X (.Call (.Name "isinstance" p) [.Name "_law_e" p1,.Name t p2] [] pos) (tM C (aC .exc::ρ) (.bl b)):=λi _ _ _ _ _ _ _ h=>qW O v rfl h;exact k9 O 1 (by decide +kernel) (.mk (k7 (bs:=[b0,b1,b2,b3]) (k6 (q 0 rfl) (k6 (q 1 rfl) (k6 (q 2 rfl) (k6 (q 3 rfl) Af rfl) rfl) rfl) rfl) (qX rfl))) rfl rfl (k9 O 1 (by decide +kernel) (.mk (ny w (k7 (bs:=[b4,b5,b6]) (k6 (q 4 rfl) (k6 (q 5 rfl) (k6 (q 6 rfl) Af rfl) rfl) rfl) (qX rfl)) (qX rfl))) rfl rfl (k9 O 1 (by decide +kernel) (.mk (ny w (k7 (bs:=[b7,b8,b9]) (k6 (q 7 rfl) (k6 (q 8 rfl) (k6 (q 9 rfl) Af rfl) rfl) rfl) (qX rfl)) (qX rfl))) rfl rfl (k9 O 1 (by decide +kernel) (.mk (ny w (k7 (bs:=[bA,bB,bC]) (k6 (q 10 rfl) (k6 (q 11 rfl) (k6 (q 12 rfl) Af rfl) rfl) rfl) (qX rfl)) (qX rfl))) rfl rfl (vH (.mk (ny w (k7 (bs:=[bD,bE,bF]) (k6 (q 13 rfl) (k6 (q 14 rfl) (k6 (q 15 rfl) Af rfl) rfl) rfl) (qX rfl)) (qX rfl)))))))
theorem iE{j:Nat}{z:Str}(O:qV X C (cc 61) [("BoardError",true),("ValueError",true)] kb (k+1))(hc:(kb.map PyData.bool).countP mG=1)(hj:(kb.map PyData.bool).findIdx? mG=aC j)(hz:((["board","fault","leans","stand","feeder","row","number","fit","great","machine","word"]:List Str)++(["broken","names","text","saying","name"]:List Str))[j]?=aC z)(hi:(j:Int)<2 ^ 63-1):SQ X (HD.fb 61) (qS C [aC .exc,aD] (.str z)):=by
 have v:∀{ρ:List (Option MV)}{p:Pos}{m:MV},PE X (.Name "_law_e" p) (tM C (aC m::ρ) m):=nA O 0 (by decide +kernel) rfl;have w:∀{m n:MV}{p:Pos},PE X (.Name "_law_words" p) (tM C [aC m,aC n] n):=nA O 1 (by decide +kernel) rfl;have e:(!decide (V.int (((kb.map PyData.bool).countP mG:Nat):Int)=V.int 1))=false:=by rw[hc];rfl
 have A1:∀{x}(h:PT X x (pF C [aC .exc,aD] (!decide (V.int (((kb.map PyData.bool).countP mG:Nat):Int)=V.int 1)))),PT X x (pF C [aC .exc,aD] false):=λh=>e▸h;exact La (vE (TU (TV (qW O v rfl (rfl:_[0]?=_)) λ_=>rfl)) (vE (TU (TV (qW O v rfl (rfl:_[1]?=_)) λ_=>rfl)) (zzj (A1 (Dw (Dt O.TY (vF O v rfl (by decide +kernel)) Dz rfl rfl rfl) DA rfl))))).pt
  (k9 O 1 (by decide +kernel) (vG rfl rfl) rfl rfl (vH (DC (zzl w (vG rfl rfl) rfl) (Du O.TY (vF O v rfl (by decide +kernel)) Dz rfl rfl rfl hj hi) rfl (lH hz))))
end
end RF
theorem RF.P6(P:PySem.Params):RF.Ag (HD.K P) "_law_kinds" = aC (RF.cc 60,HD.fb 60):=by kernel_rfl
theorem RF.P7(P:PySem.Params):RF.Ag (HD.K P) "_law_word" = aC (RF.cc 61,HD.fb 61):=by kernel_rfl
set_option maxHeartbeats 0 in
theorem RF.P8(P:PySem.Params):RF.iG (HD.K P) RF.VE RF.P5 60 60=aC RF.VF:=by kernel_rfl
open PySem PySem.W PyProof.Rows
set_option maxRecDepth 100000 in
set_option maxHeartbeats 0 in
theorem PySem.Challenge.cw_ballrockers_k55_no_words_holds : PySem.Challenge.rw_ballrockers_k55_no_words.Holds := by
 refine HD.holds _ rfl rfl RF.pa55 (by kernel_rfl) ⟨rfl,rfl,rfl,rfl,rfl,by decide +kernel⟩ ?hw rfl (by kernel_rfl) (by kernel_rfl) ?call
 (case hw=>w_witness2)
 refine RF.zrm RF.VE RF.P5 60 60 30 703 rfl (by kernel_rfl) ⟨rfl,by decide,by decide⟩ (λw h Y=>PySem.W.kIn_of Y) (by kernel_rfl) (by decide +kernel) ?b ?c ?d
 (case c=>intro w;kernel_rfl)
 (case d=>
   intro w mg base KX G C z hm
   have e:C=164/\z=cg "word":=by simpa[RF.P5]using hm
   rcases e with⟨rfl,rfl⟩
   .exact RF.DH (t1:=RF.kn (.replicate 10 false++true :: .replicate 5 false)) (RF.P6 _) (RF.P7 _) KX G (by repeat' (first|kernel_rfl|rfl|decide|constructor)) (by kernel_rfl) (by kernel_rfl) (λX O=>RF.kd1 O) λX O=>RF.iE (j:=10) O rfl rfl rfl (by decide))
 (case b=>
   intro w ns hl
   exact RF.zvh (RF.P8 _) (RF.EL RF.c55 hl))
