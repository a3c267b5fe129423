import PyProof.Rows.All
import Wide.All
import OpenK.AllK
import Wide.FinOn
import Lean
import PyProof.EqAt
import PyProof.EqKinds
import PyProof.TupleCall
import KE.KUnpack
import PySem.Challenge.RW_ballrockers_k63_whole_undone_to_one
set_option Elab.async false
set_option linter.all false
set_option genSizeOf false
set_option bootstrap.genMatcherCode false
set_option compiler.extract_closed false
set_option maxRecDepth 100000
set_option maxHeartbeats 0 in
theorem RF.pa63:PySem.Challenge.rw_ballrockers_k63_whole_undone_to_one.wellSaid=true:=by kernel_rfl
def eE:=@decide_eq_true_eq
def eF:=@decide_eq_false
def fW:=@decide_eq_true
def jc:=@of_decide_eq_true
def bQ:=@if_true
def cG:=@if_false
def C2:=@beq_eq_false_iff_ne
def pT:=@congrArg
def wZ:=@or_false
open PySem renaming wpAny_bind->aG,wpAny_pure->aQ,wpAny_newObj_type->ju,wpAny_callSpecial?_slot->nC,wpAny_call_entry->kK,wpAny_field->gX,wpAny_mono->gH,wpAny_truthy_bool->nD,wpAny_holding->kL,wpAny_seqItems->mD,wpAny_standAt->ni,wpAny_specialOf->pU,wpAny_pyIter_tuple->uG,wpAny_rule->kM,wpAny_pyIter_list->uH,wpAny_of_eq->nj,wpAny_isInstance->uI,wpAny_setField_rec->xg,wpAny_passesOwn->uJ,wpAny_comprehension_free->C3,mem_of_lookup->yL,call_meets->nF,wpAny_setField->uK,wpAny_Call_Name_kw->yM,sizeLine_eq->pV,builtinLookup_eq_fast->C4,noFill_tuple_add->yN,wpAny_forIn_list->yO,wpAny_letGo->sG,wpAny_attempt->xh,wpAny_loadPart'->FO,wpAny_dictEntries->C5,atKey_none_of_get->C6,wpAny_tryCatch->yP,wpAny_typeOf->xj,seq_tuple_add->yQ,typeLookup_type->C7,isSubtype_type->C8,wpAny_onRaise->C9,plainId_quiet->Dc,callType_new->Dd,wpAny_ite->xm,typeIs_int->yR,seqIndex_of->De
open PySem renaming Value->af,Shared->ah,Addr->ai,Program->aj,World->ak,Around->ao,Expr->aq,Stmt->au,FuncData->av,OsState->ay,Scope->az,Heap->aA,PyData->aB
open Option renaming some->aC,none->aD
open PySem.W renaming Frag->aK
open PySem.Str renaming ofString->bZ
open List renaming replicate->bE
open Bool renaming and_eq_true->bD,false_eq_true->dh,false_ne_true->lz,or_eq_true->pA,not_true->nG,and_true->nH,true_and->pW,not_eq_true'->yS,false_and->xo,not_false->xq
open PySem.Heap renaming get?_push_of_some->b9,get?_push_size->fG,lt_size->cP,size_push->jv,get?_update_self->sH,get?_update_other->uL
open Nat renaming le_refl->aW,lt_of_lt_of_le->dS,le_of_ble_eq_true->jD,ne_of_lt->fX,lt_succ_self->je,le_trans->gY,lt_irrefl->kj,zero_le->jw,not_lt->jE,ne_of_gt->nk,le_succ->nI,lt_succ_of_lt->xr,le_of_lt->sI,eq_of_beq_eq_true->Df,zero_add->uM,ble_eq->pX,le_of_succ_le->Dg,le_add_right->Dh,min_le_left->Di
open List renaming length_map->bT,size_toArray->di,mem_cons_of_mem->ff,length_cons->dj,map_cons->cu,getElem?_eq_getElem->gU,length_append->fH,mem_append_right->gV,mem_cons_self->fY,mem_singleton->gh,getElem?_eq_some_iff->jx,lookup_cons->gi,mem_cons->eG,getElem?_eq_none_iff->mE,getElem?_map->jf,getElem?_append_right->nJ,mem_of_getElem?->mF,getElem?_cons_succ->nK,all_eq_true->kN,replicate_succ->nq,find?_cons->ko,map_append->kq,mem_map->iK,getD_eq_getElem?_getD->sJ,zip_cons_cons->nL,set_cons_zero->nM,getElem?_cons_zero->sL,all_cons->kr,getElem?_append_left->uN,mem_append_left->pY,getElem?_set_self->sM,append_nil->nt,length_singleton->sN,nil_append->nu,set_cons_succ->pZ,drop_eq_getElem_cons->xu,mem_append->pB,flatten_cons->sO,length_nil->p9,getElem?_eq_none->xw,cons_append->sP,getElem?_set_ne->xx,filterMap_cons->xy,drop_eq_nil_of_le->yT,length_replicate->yU,mem_filter->uO,map_nil->qc,getElem?_replicate->Dj,length_eq_zero_iff->Dl,length_reverse->yV,not_mem_nil->xA,forIn_nil->uP,filter_eq_nil_iff->Dm,nodup_cons->xB,length_set->xC,forIn_cons->xD,getElem?_reverse->Dn,pairwise_flatMap->Dp,length_filter_le->Dq,mem_range->vec,drop_zero->xE,length_take->yW,getElem_mem->yX,reverse_nil->yY,all_nil->uQ,zip_nil_right->Dr,mem_flatMap->Ds,append_inj'->Dt,any_cons->yZ,of_mem_zip->Du
open Int renaming eq_ofNat_of_zero_le->mG,toNat_natCast->xF,emod_lt_of_pos->Dv,emod_nonneg->Dw
open PyProof.Rows renaming slot_tuple_getitem->qe,callWith_type1->sQ,slicePart_none->Dy
open Option renaming map_some->iT,join_some->vcs
open PySem.AutoSeq1 renaming wpAny_loadPart'->nN
open PySem.Heap.SameBut renaming update->nO
open Option.some renaming inj->lA,injEq->nP
open PySem.W renaming kia_one->mH
open PySem.SeqAt renaming canLay_of_shaped->sR
open Ne renaming symm->eL
open PySem.F renaming plain_min_loop->uR,args_tuple_add_2->y9,entry_tuple_add->za,slot_tuple_add->zb,slot_tuple_iterator_next->Dz,slot_NoneType_hash->DA,slot_tuple_mul->zc,slot_tuple_hash->DB,slot_int_rmul->DC,slot_zip_next->DF,slot_tuple_eq->DG
open Array renaming length_toList->sU
open PySem.W.Fast renaming te14364793385576792824->DH
open PySem.Obj renaming data_mapFields->sV,isFreed_of_fields->DI
open PySem.Paired renaming length->sW
open PySem.Calls renaming spliced_cons->zd,spliced_nil->DJ
open LawfulMonad renaming pure_bind->qf
open LawfulBEq renaming eq_of_beq->ze
namespace L2
theorem aR1(h:True:=by rfl):True:=h
theorem aD1(h:True:=by decide):True:=h
theorem aF1(h:True:=by first|exact .inl rfl|exact .inr rfl|assumption):True:=h
end L2
namespace L2
open PySem PySem.Spec PyProof.Rows
noncomputable abbrev Key:=Sum Int Str
noncomputable def iU:Key->af->Bool|.inl k,v=>Value.isInt k v|.inr x,v=>Value.isStrOf x v
noncomputable def FP(w:ak):Key->Int|.inl k=>hashInt k|.inr x=>hashStr w x
theorem qg:∀{k:Key} {v:af},iU k v=true->(∃i t,k=Sum.inl i/\v=Value.int i t)\/(∃x t,k=Sum.inr x/\v=Value.str x t)
 |.inl i,v,h=>by
  obtain⟨t,e⟩:=Value.isInt_shape (k:=i) (v:=v) h;exact .inl ⟨i,t,rfl,e⟩
 |.inr x,v,h=>by
  obtain⟨t,e⟩:=Value.isStrOf_shape (x:=x) (v:=v) h;exact .inr ⟨x,t,rfl,e⟩
theorem Ri(i:Int)(t:Tok):iU (.inl i) (.int i t)=true:=by simp[iU,Value.isInt]
theorem Rj(x:Str)(t:Tok):iU (.inr x) (.str x t)=true:=by simp[iU,Value.isStrOf]
theorem Rk(a b:Int):decide ((Sum.inl a:Key)=Sum.inl b)=(a==b):=by by_cases e:a=b;subst e;simp;have h:¬(Sum.inl a:Key)=Sum.inl b:=λq=>e (Sum.inl.inj q);rw[eF h];exact(C2.mpr e).symm
theorem Rl(a b:Str):decide ((Sum.inr a:Key)=Sum.inr b)=decide (a=b):=by by_cases e:a=b;subst e;simp;have h:¬(Sum.inr a:Key)=Sum.inr b:=λq=>e (Sum.inr.inj q);rw[eF h,eF e]
theorem Rm(a:Int)(b:Str):decide ((Sum.inl a:Key)=Sum.inr b)=false:=eF (λq=>nomatch q)
theorem Rn(a:Str)(b:Int):decide ((Sum.inr a:Key)=Sum.inl b)=false:=eF (λq=>nomatch q)
noncomputable def ku(prog:aj)(w:ak):PySem.KeyKind prog w Key where
 is:=iU
 hash:=FP w
 inj:=λv a b ha hb=>by
  rcases qg ha with⟨i,t,rfl,rfl⟩|⟨x,t,rfl,rfl⟩
  .rcases qg hb with⟨j,u,rfl,e⟩|⟨y,u,rfl,e⟩
   .injection e with e1 _;rw[e1]
   .exact nomatch e
  .rcases qg hb with⟨j,u,rfl,e⟩|⟨y,u,rfl,e⟩
   .exact nomatch e
   .injection e with e1 _;rw[e1]
 byValue:=λk v h=>by
  rcases qg h with⟨i,t,rfl,rfl⟩|⟨x,t,rfl,rfl⟩<;>rfl
 pyHash:=λhv h=>by
  rcases qg hv with⟨i,t,rfl,rfl⟩|⟨x,t,rfl,rfl⟩
  .exact wpAny_pyHash_int h
  .exact wpAny_pyHash_str h
 eqBool:=λhu hv h=>by
  rcases qg hu with⟨i,t,rfl,rfl⟩|⟨x,t,rfl,rfl⟩
  .rcases qg hv with⟨j,u,rfl,rfl⟩|⟨y,u,rfl,rfl⟩
   .rw[Rk]at h;exact wpAny_eqBool_int h
   .rw[Rm]at h;exact SeqAt.EqAt.int_str i t y u _ _ _ _ h
  .rcases qg hv with⟨j,u,rfl,rfl⟩|⟨y,u,rfl,rfl⟩
   .rw[Rn]at h;exact SeqAt.EqAt.str_int x t j u _ _ _ _ h
   .rw[Rl]at h;exact wpAny_eqBool_str h
 «strs»:=λk x t v h=>by
  rcases qg h with⟨i,u,rfl,e⟩|⟨y,u,rfl,e⟩
  .exact nomatch e
  .injection e with e1 _
   subst e1
   cases v<;>rfl
theorem Ro(prog:aj)(w:ak)(i:Int)(t:Tok):(ku prog w).is (.inl i) (.int i t)=true:=Ri i t
theorem Rq(prog:aj)(w:ak)(x:Str)(t:Tok):(ku prog w).is (.inr x) (.str x t)=true:=Rj x t
inductive V where
 |aL|bl (b:Bool)|int (i:Int)|str (x:Str)|zf (b:Array UInt8)|xG (b:UInt64)|ref (a:ai)|ty (n:String)
 deriving DecidableEq
noncomputable def RelV:V->af->Prop|.aL,u=>u=Value.none|.bl b,u=>u=Value.bool b|.int i,u=>∃t,u=Value.int i t|.str x,u=>∃t,u=Value.str x t|.zf b,u=>∃t,u=Value.bytes b t|.xG b,u=>∃t,u=Value.float b t|.ref a,u=>u=Value.ref a|.ty n,u=>u=Value.type n
noncomputable abbrev Vals:List V->List af->Prop:=Paired RelV
theorem Vals.length{xs:List V}{us:List af}(r:Vals xs us):xs.length=us.length:=sW r
theorem Vals.get:∀{xs:List V} {us:List af} {i:Nat} {x:V},Vals xs us->xs[i]?=aC x->∃u,us[i]?=aC u/\RelV x u
 |_,_,_,_,.nil,e=>by simp at e
 |_,_,0,_,.cons r _,e=>by simp at e;subst e;exact⟨_,rfl,r⟩
 |_,_,i+1,x,.cons _ t,e=>by
  obtain⟨u,h1,h2⟩:=Vals.get (i:=i) (x:=x) t (by simpa using e);exact⟨u,by simpa using h1,h2⟩
theorem Vals.set{x:V}{u:af}(r:RelV x u):∀{xs:List V} {us:List af} (i:Nat),Vals xs us->Vals (xs.set i x) (us.set i u)|_,_,_,.nil=>.nil|_,_,0,.cons _ t=>.cons r t|_,_,i+1,.cons q t=>.cons q (Vals.set r i t)
theorem Vals.append:∀{xs ys:List V} {us ws:List af},Vals xs us->Vals ys ws->Vals (xs++ys) (us++ws)|_,_,_,_,.nil,s=>s|_,_,_,_,.cons r t,s=>.cons r (Vals.append t s)
theorem Vals.take:∀{xs:List V} {us:List af} (n:Nat),Vals xs us->Vals (xs.take n) (us.take n)|_,_,0,_=>.nil|_,_,_+1,.nil=>.nil|_,_,n+1,.cons r t=>.cons r (Vals.take n t)
theorem Vals.drop:∀{xs:List V} {us:List af} (n:Nat),Vals xs us->Vals (xs.drop n) (us.drop n)|_,_,0,r=>r|_,_,_+1,.nil=>.nil|_,_,n+1,.cons _ t=>Vals.drop n t
noncomputable def gZ:Option V->Option af->Prop|some v,aC u=>RelV v u|none,aD=>True|_,_=>False
noncomputable def KV{κ:Type}:List (κ×V)->List (κ×af)->Prop:=Paired λ(p:κ×V) (q:κ×af)=>p.1=q.1/\RelV p.2 q.2
noncomputable def kV:Key->V|.inl i=>.int i|.inr x=>.str x
inductive HO where
 /-- a list -/
 |lst (xs:List V)
 /-- a tuple (never changes) -/
 |tup (xs:List V)
 /-- a dict zg keys are ints and texts;one zg keys are tuples of ints and texts (uS empty one is both) -/
 |dK (kvs:List (Key×V))|dT (kvs:List (List Key×V))
 /-- a set of ints: its members,its size -/
 |set (S:Int->Bool) (n:Nat)
 /-- an instance of uS class at C,its dict at dx,its attributes -/
 |ins (C dx:ai) (fs:List (Str×V))
 /-- uS dict of uS instance at x -/
 |own (x:ai)
 /-- uS dict of an exception -/
 |xd (fs:List (Str×V))
 /-- a bound method,f of x -/
 |met (f x:ai)
 /-- a range object lo,lo+1,.. below hi -/
 |FQ (lo hi:Int)
 /-- a thing Rr is known to uS object (uS script;a dict while a loop walks it): read,never written while it is so -/
 |bI (o:Obj) (u:HO)
 /-- a code zh table -/
 |uT (ps:Array af)
 /-- any other thing,by what is true of its one object (a def of My own: Rt a S n:=HO.ext λh=>..) -/
 |ext (φ:aA->Prop)
noncomputable abbrev Hp:=ai->Option HO
noncomputable def upd(H:Hp)(a:ai)(o:HO):Hp:=λb=>if b=a then aC o else H b
theorem gn{H:Hp}{a:ai}{o:HO}:upd H a o a=aC o:=by unfold upd;rw[if_pos rfl]
theorem bW{H:Hp}{a b:ai}{o:HO}(h:b≠a):upd H a o b=H b:=by unfold upd;rw[if_neg h]
theorem cU{H:Hp}{a b:ai}{o u:HO}(h:H a=aC o)(h':H b=aC u)(d:o≠u):a≠b:=by intro e;subst e;rw[h]at h';exact d (lA h')
theorem gW{H:Hp}{a b:ai}{o:HO}(h:H a=aC o)(h':H b=aD):a≠b:=by intro e;subst e;rw[h]at h';cases h'
noncomputable def jF(h:aA)(a:ai)(items:Array af):Prop:=∃o,h.get? a=aC o/\o.cls=.type "tuple"/\(∃n,o.data=.seq items n)/\o.dict=aD
theorem jF.tup{h:aA}{a:ai}{items:Array af}(x:jF h a items):IsTup h a items:=let⟨o,e,c,d,_⟩:=x;⟨o,e,c,d⟩
theorem jF.lt{h:aA}{a:ai}{items:Array af}(x:jF h a items):a<h.objs.size:=x.tup.lt
theorem jF.new(h:aA)(items:Array af):jF (h.push {cls:=.type "tuple",data:=.seq items}) h.objs.size items:=⟨_,fG _ rfl,rfl,⟨_,rfl⟩,rfl⟩
section
variable(P:aj)(w:ak)
noncomputable def bf(H:Hp)(h:aA)(a:ai):HO->Prop
 |.lst xs=>xs.length<=sizeLine/\∃(its:List af) (n:Nat),Vals xs its/\h.get? a=aC {cls:=.type "list",data:=.seq its.toArray n}
 |.tup xs=>xs.length<=sizeLine/\∃its:List af,Vals xs its/\jF h a its.toArray
 |.dK kvs=>kvs.length<=sizeLine/\(a==sysModules)=false/\∃vs,KV kvs vs/\h.DictOf (ku P w) a vs
 |.dT kvs=>kvs.length<=sizeLine/\(a==sysModules)=false/\∃xs:List (List Key×ai×af),
  Paired (λ(p:List Key×V)(q:List Key×ai×af)=>p.1=q.1/\H q.2.1=aC (.tup (p.1.map kV))/\RelV p.2 q.2.2) kvs xs/\
  ∃o es ep,h.get? a=aC o/\o.ExactDict/\o.data=.dict es ep/\es.toList=xs.map (entryOfKey (tupleKind (ku P w)))/\(xs.map (·.1)).Nodup
 |.set S n=>h.SetOf (intKind P w) a S n
 |.ins C dx fs=>H dx=aC (.own a)/\fs.length<=1000/\dx≠a/\h.get? a=aC (PySem.W.instObj C dx)/\
  ∃mA,h.Ns1 dx mA/\(∀f,gZ (fs.lookup f) (mA f))/\PySem.Within mA (fs.map (·.1))
 |.own _=>∃o,h.get? a=aC o
 |.xd fs=>∃mA,h.Ns1 a mA/\∀f,gZ (fs.lookup f) (mA f)
 |.FQ lo hi=>∃t u v,h.get? a=aC {cls:=.type "range",data:=.fields #[.int lo t,.int hi u,.int 1 v]}
 |.bI o u=>h.get? a=aC o/\bf H h a u
 |.uT ps=>h.get? a=aC {cls:=.none,data:=.fields ps}
 |.met f x=>h.get? a=aC (PySem.W.methodObj (.ref f) (.ref x))
 |.ext φ=>φ h/\(∃o,h.get? a=aC o)/\∀h1 h2:aA,φ h1->(∀o,h1.get? a=aC o->h2.get? a=aC o)->φ h2
noncomputable def eW(H:Hp)(h:aA):Prop:=∀a o,H a=aC o->bf P w H h a o
end
section
variable{P:aj}{w:ak}{H H':Hp}{h h':aA}{a:ai}{o:HO}
theorem bf.lt(x:bf P w H h a o):a<h.objs.size:=by
 cases o with|lst xs=>obtain⟨_,_,_,_,e⟩:=x;exact cP e|tup xs=>obtain⟨_,_,_,p⟩:=x;exact p.lt|dK kvs=>obtain⟨_,_,_,_,o,_,_,e,_⟩:=x;exact cP e|dT kvs=>obtain⟨_,_,_,_,o,_,_,e,_⟩:=x;exact cP e|set S n=>obtain⟨o,_,_,_,e,_⟩:=x;exact cP e|ins C dx fs=>obtain⟨_,_,_,e,_⟩:=x;exact cP e|own y=>obtain⟨_,e⟩:=x;exact cP e|xd fs=>obtain⟨_,⟨_,_,_,e,_⟩,_⟩:=x;exact cP e|FQ lo hi=>obtain⟨_,_,_,e⟩:=x;exact cP e|bI ob u=>obtain⟨e,_⟩:=x;exact cP e|uT ps=>exact cP (show h.get? a=aC _ from x)|met f y=>exact cP (show h.get? a=aC _ from x)|ext φ=>obtain⟨_,⟨_,e⟩,_⟩:=x;exact cP e
theorem Paired.uU{α β:Type}{F G:α->β->Prop}:∀{l₁:List α} {l₂:List β},Paired F l₁ l₂->(∀a b,F a b->G a b)->Paired G l₁ l₂|_,_,.nil,_=>.nil|_,_,.cons r t,f=>.cons (f _ _ r) (Paired.uU t f)
theorem bf.stay(x:bf P w H h a o)(k:∀b u,(b=a\/H b=aC (.own a))->h.get? b=aC u->h'.get? b=aC u)
 (ho:∀b,H b=aC (.own a)->H' b=aC (.own a)) (ht:∀b xs,H b=aC (.tup xs)->H' b=aC (.tup xs)):bf P w H' h' a o:=by
 induction o with
 |lst xs=>obtain⟨z,its,n,r,e⟩:=x;exact⟨z,its,n,r,k _ _ (.inl rfl) e⟩
 |tup xs=>obtain⟨z,its,r,ob,e,c⟩:=x;exact⟨z,its,r,ob,k _ _ (.inl rfl) e,c⟩
 |dK kvs=>obtain⟨z,y,vs,r,ob,es,ep,e,c⟩:=x;exact⟨z,y,vs,r,ob,es,ep,k _ _ (.inl rfl) e,c⟩
 |dT kvs=>
  obtain⟨z,y,xs,r,ob,es,ep,e,c⟩:=x;exact⟨z,y,xs,Paired.uU r λp q z=>⟨z.1,ht _ _ z.2.1,z.2.2⟩,ob,es,ep,k _ _ (.inl rfl) e,c⟩
 |set S n=>obtain⟨ob,es,ep,t,e,c⟩:=x;exact⟨ob,es,ep,t,k _ _ (.inl rfl) e,c⟩
 |ins C dx fs=>
  obtain⟨d,z,ne,e,mA,⟨od,es,ep,e2,c⟩,r⟩:=x;exact⟨ho _ d,z,ne,k _ _ (.inl rfl) e,mA,⟨od,es,ep,k _ _ (.inr d) e2,c⟩,r⟩
 |own y=>obtain⟨ob,e⟩:=x;exact⟨ob,k _ _ (.inl rfl) e⟩
 |xd fs=>obtain⟨mA,⟨od,es,ep,e,c⟩,r⟩:=x;exact⟨mA,⟨od,es,ep,k _ _ (.inl rfl) e,c⟩,r⟩
 |FQ lo hi=>obtain⟨t,u,v,e⟩:=x;exact⟨t,u,v,k _ _ (.inl rfl) e⟩
 |bI ob u ih=>obtain⟨e,q⟩:=x;exact⟨k _ _ (.inl rfl) e,ih q⟩
 |uT ps=>
  have e:h.get? a=aC {cls:=.none,data:=.fields ps}:=x;show h'.get? a=aC {cls:=.none,data:=.fields ps};exact k a _ (.inl rfl) e
 |met f y=>
  have e:h.get? a=aC (PySem.W.methodObj (.ref f) (.ref y)):=x;show h'.get? a=aC (PySem.W.methodObj (.ref f) (.ref y));exact k a _ (.inl rfl) e
 |ext φ=>obtain⟨p,⟨o,e⟩,st⟩:=x;exact⟨st _ _ p λo q=>k _ _ (.inl rfl) q,⟨o,k _ _ (.inl rfl) e⟩,st⟩
theorem eW.lt(x:eW P w H h)(e:H a=aC o):a<h.objs.size:=(x a o e).lt
theorem eW.fresh(x:eW P w H h)(e:h.objs.size<=a):H a=aD:=by
 cases q:H a with|none=>rfl|some u=>exact absurd (dS (x.lt q) e) (kj _)
theorem eW.kept(x:eW P w H h)(k:∀b u,h.get? b=aC u->h'.get? b=aC u):eW P w H h':=λa o e=>
 (x a o e).stay (λb u _ q=>k b u q) (λ_ q=>q) λ_ _ q=>q
theorem eW.laid(x:eW P w H h)(k:∀b u,h.get? b=aC u->h'.get? b=aC u)(hp:h.objs.size<=a)(new:bf P w (upd H a o) h' a o):eW P w (upd H a o) h':=λb u e=>by
 have hn:=x.fresh hp;by_cases hb:b=a;subst hb;rw[gn]at e;cases e;exact new;rw[bW hb]at e;exact(x b u e).stay (λc v _ q=>k c v q) (λc q=>by rw[bW (gW q hn)];exact q) λc xs q=>by rw[bW (gW q hn)];exact q
end
noncomputable def Rd(H:Hp)(a:ai)(u:HO):Prop:=H a=aC u\/∃o,H a=aC (.bI o u)
theorem Rd.ok{P:aj}{w:ak}{H:Hp}{h:aA}{a:ai}{u:HO}(r:Rd H a u)(x:eW P w H h):bf P w H h a u:=by rcases r with r|⟨o,r⟩;exact x a u r;obtain⟨_,q⟩:=x a _ r;exact q
noncomputable def nQ:Option HO->Prop|some (.lst _)=>True|some (.dK _)=>True|some (.dT _)=>True|some (.set _ _)=>True|some (.ins _ _ _)=>True|some (.ext _)=>True|_=>False
section
variable{P:aj}{w:ak}{H:Hp}{h h':aA}{x e:ai}{o':HO}
theorem eW.write(ok:eW P w H h)(mu:nQ (H x))(he:e=x\/H e=aC (.own x))(k:∀b u,b≠e->h.get? b=aC u->h'.get? b=aC u)(xH:∃u,h'.get? e=aC u)
 (new:bf P w (upd H x o') h' x o'):eW P w (upd H x o') h':=λb u q=>by
 have zj:∀c y,H c=aC (.own y)->c≠x:=λc y r z=>by subst z;rw[r]at mu;exact mu
 have FT:∀c xs,H c=aC (.tup xs)->c≠x:=λc xs r z=>by subst z;rw[r]at mu;exact mu
 by_cases hb:b=x;subst hb;rw[gn]at q;cases q;exact new;rw[bW hb]at q;by_cases uV:b=e;have q':H b=aC (.own x):=by rcases he with z|z;exact absurd (uV.trans z) hb;rw[uV];exact z
 rw[q]at q';cases q';obtain⟨v,hv⟩:=xH;exact⟨v,by rw[uV];exact hv⟩;refine(ok b u q).stay (λc v hc r=>k c v ?_ r) (λc r=>by rw[bW (zj c b r)];exact r) λc xs r=>by rw[bW (FT c xs r)];exact r
 rcases hc with rfl|hc;exact uV;rintro rfl;rcases he with z|z;exact zj c b hc z;rw[hc]at z;cases z;exact hb rfl
end
structure Un(fs ex:List ai)(H H':Hp)(h h':aA):Prop where
 keep:∀b o,h.get? b=aC o->H b=aD->b∉fs->b∉ex->h'.get? b=aC o
 slot:∀b o,h.get? b=aC o->H b=aD->b∈fs->b∉ex->∃sl,h'.get? b=aC {o with slots:=sl}
 free:∀b o,h.get? b=aC o->H b=aD->b∉ex->H' b=aD
 there:∀b o,h.get? b=aC o->b∉ex->∃o',h'.get? b=aC o'
 tups:∀b xs,H b=aC (.tup xs)->H' b=aC (.tup xs)
 g9:∀b o u,H b=aC (.bI o u)->H' b=aC (.bI o u)
 iL:∀b ps,H b=aC (.uT ps)->∃more,H' b=aC (.uT (ps++more))
section
variable{fs fs' ex ex':List ai}{H H1 H2:Hp}{h h1 h2 h':aA}{a x e:ai}{o:HO}
theorem Un.any(u:Un fs ex H H1 h h1){b:ai}{ob:Obj}(q:h.get? b=aC ob)(n:H b=aD)(hx:b∉ex):∃sl,h1.get? b=aC {ob with slots:=sl}:=by by_cases hb:b∈fs;exact u.slot b ob q n hb hx;exact⟨ob.slots,u.keep b ob q n hb hx⟩
theorem Un.kept(k:∀b u,h.get? b=aC u->h'.get? b=aC u):Un fs ex H H h h':=
 ⟨λb ob q _ _ _=>k b ob q,λb ob q _ _ _=>⟨ob.slots,k b ob q⟩,λ_ _ _ n _=>n,λb ob q _=>⟨ob,k b ob q⟩,λ_ _ q=>q,λ_ _ _ q=>q,λ_ ps q=>⟨#[],by rw[q];simp⟩⟩
theorem Un.refl:Un fs ex H H h h:=Un.kept λ_ _ q=>q
theorem Un.laid(k:∀b u,h.get? b=aC u->h'.get? b=aC u)(hp:h.objs.size<=a)(hn:H a=aD):Un fs ex H (upd H a o) h h' where
 keep:=λb u q _ _ _=>k b u q
 slot:=λb u q _ _ _=>⟨u.slots,k b u q⟩
 free:=λb u q n _=>by rw[bW (fX (dS (cP q) hp))];exact n
 there:=λb u q _=>⟨u,k b u q⟩
 tups:=λb xs q=>by rw[bW (gW q hn)];exact q
 g9:=λb u xs q=>by rw[bW (gW q hn)];exact q
 iL:=λb ps q=>⟨#[],by rw[bW (gW q hn),q];simp⟩
theorem Un.write(mu:nQ (H x))(he:e=x\/H e=aC (.own x))(k:∀b u,b≠e->h.get? b=aC u->h'.get? b=aC u)(xH:∃u,h'.get? e=aC u):Un fs ex H (upd H x o) h h':=by
 have hx:∀b,H b=aD->b≠x:=λb n z=>by subst z;rw[n]at mu;exact mu
 have hb:∀b,H b=aD->b≠e:=λb n z=>by
  subst z;rcases he with r|r
  exact hx b n r;rw[n]at r;cases r
 have hm:∀b u,H b=aC u->¬nQ (aC u)->b≠x:=λb u q nm z=>by subst z;rw[q]at mu;exact nm mu
 refine⟨λb u q n _ _=>k b u (hb b n) q,λb u q n _ _=>⟨u.slots,k b u (hb b n) q⟩,λb u q n _=>by rw[bW (hx b n)];exact n,λb u q _=>?_,
  λb xs q=>by rw[bW (hm b _ q λz=>z)];exact q,λb u xs q=>by rw[bW (hm b _ q λz=>z)];exact q,λb ps q=>⟨#[],by rw[bW (hm b _ q λz=>z),q];simp⟩⟩
 by_cases uV:b=e;subst uV;exact xH;exact⟨u,k b u uV q⟩
end
noncomputable def DL(h:aA)(H:Hp):List ai:=(List.range h.objs.size).filter λa=>(H a).isSome
noncomputable def jg(h:aA)(H:Hp):aA:=PySem.W.hideAll h (DL h H)
theorem Ru(h:aA)(H:Hp):(jg h H).objs.size=h.objs.size:=PySem.W.hideAll_size _ _
theorem Rv{h:aA}{H:Hp}{b:ai}{o:Obj}(e:h.get? b=aC o)(n:H b=aD):(jg h H).get? b=aC o:=
 PySem.W.hideAll_get _ e λhm=>by
  have q:(H b).isSome=true:=(uO.mp hm).2;rw[n]at q;simp at q
theorem Rw{h:aA}{H:Hp}{b:ai}{o:Obj}(e:(jg h H).get? b=aC o):h.get? b=aC o/\H b=aD:=by
 have e':h.get? b=aC o:=PySem.W.of_hideAll (DL h H) e;refine⟨e',?_⟩;cases q:H b with
 |none=>rfl
 |some x=>
  have hm:b∈DL h H:=uO.mpr ⟨vec.mpr (cP e'),by simp[q]⟩;have z:(jg h H).get? b=aD:=PySem.W.hideAll_none (DL h H) hm;rw[z]at e;cases e
structure Mod(K:aK)(mg:Str->Option af)(base:aA):Prop where
 FU:K.In base
 glob:base.Ns mainGlobals mg
 blt:∃mb,base.Ns builtinsNs mb/\∀x:Str,x≠"__name__"->mb x=bootBuiltins x
 nolimit:base.NoLimit
set_option genInjectivity false in
structure Cx where
 prog:aj
 w:ak
 K:aK
 mg:Str->Option af
 base:aA
 A:ao
 N:List Str
 s₀:ah
 H₀:Hp
 env:Env
 outer:List Env
 stack:List Env
 ex:List ai
 fn:Str->Bool
 calm:Bool
 pn:List (ai×Obj)
 xe:af->ah->Prop
noncomputable def frs(l:List Env):List ai:=l.filterMap (·.frame)
noncomputable abbrev Cx.fs(X:Cx):List ai:=frs X.outer
noncomputable def xJ(sc:az)(x:Str):Prop:=sc.names.lookup x=aC .local\/sc.names.lookup x=aC .cell\/sc.names.lookup x=aC .free
noncomputable def Loc(sc:az)(x:Str):Prop:=sc.names.lookup x=aC .local\/sc.names.lookup x=aC .cell
noncomputable def Look(env:Env)(h:aA)(m:Str->Option af)(x:Str)(u:af):Prop:=
 (env.kindOf x=aC .local/\m x=aC u)\/((env.kindOf x=aC .cell\/env.kindOf x=aC .free)/\∃c,env.cells.lookup x=aC c/\h.IsCell c (aC u))
structure Cx.Ok(X:Cx):Prop where
 mod:Mod X.K X.mg X.base
 kind:X.env.scope.kind=.function
 glob:X.env.globals=mainGlobals
 blt:X.env.builtins=builtinsNs
 above:X.s₀.heap.objs.size<=X.env.locals
 inj:∀x y c,X.env.cells.lookup x=aC c->X.env.cells.lookup y=aC c->x=y
 has:∀x,(X.env.kindOf x=aC .cell\/X.env.kindOf x=aC .free)->∃c,X.env.cells.lookup x=aC c
 zk:∀x c,X.fn x=true->X.env.cells.lookup x=aC c->X.s₀.heap.objs.size<=c
 hd:X.calm=true->X.A.handled=aD
 frames:X.A.frames=aC X.stack
 stk:X.stack=X.outer\/(X.stack=X.env::X.outer/\X.env.frame=aC X.env.locals)
 xK:∀b∈X.ex,b≠X.env.locals/\∀x c,X.env.cells.lookup x=aC c->c≠b
 bs:∀b o,X.base.get? b=aC o->X.s₀.heap.get? b=aC o/\X.H₀ b=aD
 uW:X.base.objs.size<=X.s₀.heap.objs.size
 nR:∀b o,X.base.get? b=aC o->b∉X.ex
 mJ:∀b∈X.ex,b∉X.fs
 ia:X.s₀.heap.FunFrames X.base X.outer
 xM:∀b∈X.fs,X.H₀ b=aD
structure Inv(X:Cx)(pins:List (ai×Obj))(σ:List (Option V))(H:Hp)(s:ah):Prop where
 ok:X.Ok
 os:s.os=X.s₀.os
 bare:AllBare s.gens
 base:Un X.fs X.ex X.H₀ H X.s₀.heap s.heap
 loc:∃m,s.heap.Ns X.env.locals m/\∀(i:Nat)(x:Str)(v:V),X.N[i]?=aC x->σ[i]?=aC (aC v)->xJ X.env.scope x->∃u,RelV v u/\Look X.env s.heap m x u
 cell:∀x c,X.env.cells.lookup x=aC c->∃v,s.heap.IsCell c v
 free:H X.env.locals=aD
 fj:∀x c,X.env.cells.lookup x=aC c->H c=aD
 pin:∀p∈X.pn++pins,s.heap.get? p.1=aC p.2/\H p.1=aD/\p.1≠X.env.locals/\p.1∉X.fs/\∀v,p.2.data≠.cell v
 hok:eW X.prog X.w H s.heap
 len:σ.length=X.N.length
section
variable{X:Cx}{pins:List (ai×Obj)}{σ:List (Option V)}{H H':Hp}{s:ah}{h':aA}
theorem Cx.Ok.FW(ok:X.Ok){b:ai}{o:Obj}(e:X.base.get? b=aC o):b∉X.fs:=λhb=>by
 have:=(ok.ia.mem hb).1;rw[e]at this;cases this
theorem Inv.bs(I:Inv X pins σ H s):∀b o,X.base.get? b=aC o->s.heap.get? b=aC o/\H b=aD:=λb o e=>
 ⟨I.base.keep b o (I.ok.bs b o e).1 (I.ok.bs b o e).2 (I.ok.FW e) (I.ok.nR b o e),I.base.free b o (I.ok.bs b o e).1 (I.ok.bs b o e).2 (I.ok.nR b o e)⟩
theorem Inv.bk(I:Inv X pins σ H s):∀b o,X.base.get? b=aC o->s.heap.get? b=aC o:=λb o e=>(I.bs b o e).1
theorem Inv.mod(I:Inv X pins σ H s):Mod X.K X.mg X.base:=I.ok.mod
theorem Inv.iV(I:Inv X pins σ H s):X.K.In s.heap:=I.ok.mod.FU.keeps I.bk
theorem Inv.lt(I:Inv X pins σ H s):X.env.locals<s.heap.objs.size:=let⟨_,hn,_⟩:=I.loc;hn.lt
theorem Inv.sz(I:Inv X pins σ H s):X.s₀.heap.objs.size<=s.heap.objs.size:=gY I.ok.above (sI I.lt)
theorem Inv.FY(I:Inv X pins σ H s){a:ai}(h:s.heap.objs.size<=a):a∉X.fs:=λhb=>by
 obtain⟨_,o,ho,_⟩:=I.ok.ia.mem hb;exact absurd (dS (cP ho) (gY I.sz h)) (kj _)
theorem Inv.uX(I:Inv X pins σ H s):∀x c,X.env.cells.lookup x=aC c->c≠X.env.locals:=λx c e z=>by
 obtain⟨v,o,ho,hd⟩:=I.cell x c e;obtain⟨m,⟨o',es,ep,ho',hd',_⟩,_⟩:=I.loc;rw[z,ho']at ho;cases ho;rw[hd']at hd;cases hd
theorem Inv.ia(I:Inv X pins σ H s):s.heap.FunFrames X.base X.outer:=by
 have all:∀(l:List Env),(∀b∈frs l,b∈X.fs)->X.s₀.heap.FunFrames X.base l->s.heap.FunFrames X.base l:=by
  intro l;induction l with
  |nil=>intro _ _;trivial
  |cons env r ih=>
   intro hs hl;obtain⟨hk,⟨L,o,hf,hn,ho,hd⟩,hr⟩:=hl;have hL:L∈X.fs:=hs L (by unfold frs;rw[xy,hf];exact fY);obtain⟨sl,e⟩:=I.base.slot L o ho (I.ok.xM L hL) hL λz=>I.ok.mJ L z hL;exact⟨hk,⟨L,_,hf,hn,e,hd⟩,ih (λb hb=>hs b (by unfold frs;rw[xy,hf];exact ff _ hb)) hr⟩
 exact all X.outer (λ_ hb=>hb) I.ok.ia
theorem Inv.stack(I:Inv X pins σ H s):s.heap.FunFrames X.base X.stack:=by rcases I.ok.stk with e|⟨e,hf⟩;rw[e];exact I.ia;rw[e];obtain⟨m,hn,_⟩:=I.loc;refine .cons (by rw[I.ok.kind];decide) hf hn ?_ I.ia;exact Heap.get?_none_of_le (gY I.ok.uW I.ok.above)
theorem Inv.kO(I:Inv X pins σ H s):∀b∈frs X.stack,b∈X.env.locals::X.fs:=λb hb=>by
 rcases I.ok.stk with e|⟨e,hf⟩;rw[e]at hb;exact ff _ hb;rw[e]at hb;unfold frs at hb;rw[xy,hf]at hb;exact hb
theorem Inv.lB(I:Inv X pins σ H s):∀b∈frs X.stack,H b=aD:=λb hb=>by
 rcases eG.mp (I.kO b hb)with e|hb;rw[e];exact I.free;obtain⟨_,o,ho,_⟩:=I.ok.ia.mem hb;exact I.base.free b o ho (I.ok.xM b hb) λz=>I.ok.mJ b z hb
theorem Inv.step{g':Array GenState}{t':Nat}{d':Drawn}{ch:List ai}(I:Inv X pins σ H s)
 (hch:∀b∈ch,(b∈X.ex\/X.s₀.heap.objs.size<=b)/\b≠X.env.locals/\(∀x c,X.env.cells.lookup x=aC c->c≠b)/\∀p∈X.pn++pins,p.1≠b)
 (keep:∀b o,b≠X.env.locals->b∉X.fs->b∉ch->s.heap.get? b=aC o->H b=aD->h'.get? b=aC o)
 (slot:∀b o,b≠X.env.locals->b∈X.fs->b∉ch->s.heap.get? b=aC o->H b=aD->∃sl,h'.get? b=aC {o with slots:=sl}) (free:∀b o,b∉ch->s.heap.get? b=aC o->H b=aD->H' b=aD)
 (there:∀b o,b∉ch->s.heap.get? b=aC o->∃o',h'.get? b=aC o')
 (tups:∀b xs,H b=aC (.tup xs)->H' b=aC (.tup xs)) (g9:∀b o u,H b=aC (.bI o u)->H' b=aC (.bI o u)) (iL:∀b ps,H b=aC (.uT ps)->∃more,H' b=aC (.uT (ps++more)))
 (ns:∀m,s.heap.Ns X.env.locals m->h'.Ns X.env.locals m) (hok:eW X.prog X.w H' h') (hg:AllBare g') :
 Inv X pins σ H' {s with heap:=h',gens:=g',drawn:=d',toks:=t'}:=by
 have Mz:∀b o,X.s₀.heap.get? b=aC o->b≠X.env.locals:=λb o e=>fX (dS (cP e) I.ok.above);have nv:∀b o,X.s₀.heap.get? b=aC o->b∉X.ex->b∉ch:=λb o e hx hb=>by
  rcases(hch b hb).1 with z|z;exact hx z;exact absurd (dS (cP e) z) (kj _)
 have cellK:∀x c,X.env.cells.lookup x=aC c->∀v,s.heap.IsCell c v->h'.IsCell c v:=λx c e v bM=>by
  obtain⟨o,ho,hd⟩:=bM;have zm:c∉ch:=λz=>(hch c z).2.2.1 x c e rfl;by_cases hc:c∈X.fs;obtain⟨sl,q⟩:=slot c o (I.uX x c e) hc zm ho (I.fj x c e);exact⟨_,q,hd⟩;exact⟨o,keep c o (I.uX x c e) hc zm ho (I.fj x c e),hd⟩
 refine⟨I.ok,I.os,hg,⟨λb o e n hb hx=>?_,λb o e n hb hx=>?_,λb o e n hx=>?_,λb o e hx=>?_,λb xs e=>tups b xs (I.base.tups b xs e),λb o xs e=>g9 b o xs (I.base.g9 b o xs e),λb ps e=>?_⟩,?_,λx c e=>?_,?_,λx c e=>?_,λp hp=>?_,hok,I.len⟩;exact keep b o (Mz b o e) hb (nv b o e hx) (I.base.keep b o e n hb hx) (I.base.free b o e n hx);obtain⟨sl,e1⟩:=I.base.slot b o e n hb hx;obtain⟨Rx,e2⟩:=slot b _ (Mz b o e) hb (nv b o e hx) e1 (I.base.free b o e n hx);exact⟨Rx,e2⟩;obtain⟨o',e1⟩:=I.base.there b o e hx;exact free b o' (nv b o e hx) e1 (I.base.free b o e n hx);obtain⟨o',e1⟩:=I.base.there b o e hx;exact there b o' (nv b o e hx) e1;obtain⟨m1,e1⟩:=I.base.iL b ps e;obtain⟨m2,e2⟩:=iL b _ e1;exact⟨m1++m2,by rw[e2,Array.append_assoc]⟩;obtain⟨m,hn,hl⟩:=I.loc;refine⟨m,ns m hn,λi x v e1 e2 e3=>?_⟩;obtain⟨u,r,l⟩:=hl i x v e1 e2 e3;refine⟨u,r,?_⟩;rcases l with l|⟨k,c,e,z⟩
 exact .inl l;exact .inr ⟨k,c,e,cellK x c e _ z⟩;obtain⟨v,z⟩:=I.cell x c e;exact⟨v,cellK x c e v z⟩;obtain⟨m,⟨o,_,_,ho,_⟩,_⟩:=I.loc;exact free _ o (λz=>(hch _ z).2.1 rfl) ho I.free;obtain⟨v,o,ho,hd⟩:=I.cell x c e;exact free c o (λz=>(hch c z).2.2.1 x c e rfl) ho (I.fj x c e);obtain⟨e,n,ne,nf,d⟩:=I.pin p hp;have zm:p.1∉ch:=λz=>(hch p.1 z).2.2.2 p hp rfl;exact⟨keep p.1 p.2 ne nf zm e n,free p.1 p.2 zm e n,ne,nf,d⟩
theorem Inv.un{t':Nat}(I:Inv X pins σ H s)(u:Un X.fs [] H H' s.heap h')(hok:eW X.prog X.w H' h'):Inv X pins σ H' {s with heap:=h',toks:=t'}:=by
 obtain⟨m,⟨o,es,ep,ho,r⟩,_⟩:=id I.loc;obtain⟨sl,hL⟩:=u.any ho I.free (by simp);exact I.step (g':=s.gens) (d':=s.drawn) (ch:=[]) (λ_ z=>nomatch z) (λb o _ hb _ e n=>u.keep b o e n hb (by simp)) (λb o _ hb _ e n=>u.slot b o e n hb (by simp)) (λb o _ e n=>u.free b o e n (by simp)) (λb o _ e=>u.there b o e (by simp)) u.tups u.g9 u.iL (λm' hm=>by
  obtain⟨o',es',FZ,ho',r'⟩:=hm;rw[ho]at ho';cases ho';exact⟨_,es',FZ,hL,r'⟩) hok I.bare
theorem Inv.call{g':Array GenState}{t':Nat}{d':Drawn}{ch:List ai}(I:Inv X pins σ H s)(u:Un (frs X.stack) ch H H' s.heap h')(hok:eW X.prog X.w H' h')(hg:AllBare g')
 (hch:∀b∈ch,(b∈X.ex\/X.s₀.heap.objs.size<=b)/\b≠X.env.locals/\(∀x c,X.env.cells.lookup x=aC c->c≠b)/\∀p∈X.pn++pins,p.1≠b) :
 Inv X pins σ H' {s with heap:=h',gens:=g',drawn:=d',toks:=t'}:=by
 obtain⟨m,⟨o,es,ep,ho,r⟩,_⟩:=id I.loc;obtain⟨sl,hL⟩:=u.any ho I.free λz=>(hch _ z).2.1 rfl;exact I.step (ch:=ch) hch (λb o hL hb hc e n=>u.keep b o e n (λz=>(eG.mp (I.kO b z)).elim hL hb) hc) (λb o _ _ hc e n=>u.any e n hc) (λb o hc e n=>u.free b o e n hc) (λb o hc e=>u.there b o e hc) u.tups u.g9 u.iL (λm' hm=>by
  obtain⟨o',es',FZ,ho',r'⟩:=hm;rw[ho]at ho';cases ho';exact⟨_,es',FZ,hL,r'⟩) hok hg
theorem Inv.turned{t':Nat}{it:ai}(I:Inv X pins σ H s)(k:∀b o,b≠it->s.heap.get? b=aC o->h'.get? b=aC o)(hn:H it=aD)(hL:it≠X.env.locals)
 (h1:it∈X.ex\/X.s₀.heap.objs.size<=it) (h2:∀x c,X.env.cells.lookup x=aC c->c≠it) (h3:∀p∈X.pn++pins,p.1≠it):Inv X pins σ H {s with heap:=h',toks:=t'}:=by
 have MA:∀b u,H b=aC u->b≠it:=λb u e z=>by rw[z,hn]at e;cases e
 refine I.step (g':=s.gens) (d':=s.drawn) (ch:=[it]) (λb hb=>?_) (λb o _ _ hc e _=>k b o (λz=>hc (by simp[z])) e) (λb o _ _ hc e _=>⟨o.slots,k b o (λz=>hc (by simp[z])) e⟩) (λ_ _ _ _ n=>n)
  (λb o hc e=>⟨o,k b o (λz=>hc (by simp[z])) e⟩) (λ_ _ e=>e) (λ_ _ _ e=>e) (λb ps e=>⟨#[],by rw[e];simp⟩) (λm hm=>?_) (λb u e=>?_) I.bare
 have e:b=it:=by simpa using hb
 subst e;exact⟨h1,hL,h2,h3⟩;obtain⟨o,es,ep,ho,r⟩:=hm;exact⟨o,es,ep,k _ o (eL hL) ho,r⟩;refine(I.hok b u e).stay (λc v hc q=>k c v ?_ q) (λ_ q=>q) λ_ _ q=>q;rcases hc with z|z
 rw[z];exact MA b u e;exact MA c _ z
theorem Inv.tok(I:Inv X pins σ H s)(t:Nat):Inv X pins σ H {s with toks:=t}:=I.un (h':=s.heap) (t':=t) Un.refl I.hok
theorem Inv.kept{t':Nat}(I:Inv X pins σ H s)(k:∀b u,s.heap.get? b=aC u->h'.get? b=aC u):Inv X pins σ H {s with heap:=h',toks:=t'}:=I.un (Un.kept k) (I.hok.kept k)
theorem Inv.laid{a:ai}{o:HO}{t':Nat}(I:Inv X pins σ H s)(k:∀b u,s.heap.get? b=aC u->h'.get? b=aC u)(hp:s.heap.objs.size<=a)(new:bf X.prog X.w (upd H a o) h' a o) :
 Inv X pins σ (upd H a o) {s with heap:=h',toks:=t'}:=I.un (Un.laid k hp (I.hok.fresh hp)) (I.hok.laid k hp new)
theorem Inv.write{x e:ai}{o:HO}{t':Nat}(I:Inv X pins σ H s)(mu:nQ (H x))(he:e=x\/H e=aC (.own x))(k:∀b u,b≠e->s.heap.get? b=aC u->h'.get? b=aC u)(xH:∃u,h'.get? e=aC u)
 (new:bf X.prog X.w (upd H x o) h' x o):Inv X pins σ (upd H x o) {s with heap:=h',toks:=t'}:=I.un (Un.write mu he k xH) (I.hok.write mu he k xH new)
theorem Inv.lC{sY:List (ai×Obj)}(I:Inv X pins σ H s)(h:∀p∈sY,s.heap.get? p.1=aC p.2/\H p.1=aD/\p.1≠X.env.locals/\p.1∉X.fs/\∀v,p.2.data≠.cell v):Inv X sY σ H s:=
 ⟨I.ok,I.os,I.bare,I.base,I.loc,I.cell,I.free,I.fj,λp hp=>(pB.mp hp).elim (λz=>I.pin p (pY _ z)) (h p),I.hok,I.len⟩
theorem MB{N:List Str}(hN:N.Nodup){i j:Nat}{x:Str}(a:N[i]?=aC x)(b:N[j]?=aC x):i=j:=by obtain⟨h1,e1⟩:=jx.mp a;obtain⟨h2,e2⟩:=jx.mp b;exact(List.getElem_inj hN).mp (e1.trans e2.symm)
theorem F0{M:Model}{A:ao}{E:af->ah->Prop}{i:Nat}{x:Str}{v:V}{u:af}{Q:Unit->ah->Prop}(I:Inv X pins σ H s)(hN:X.N.Nodup)(hi:X.N[i]?=aC x)(hx:Loc X.env.scope x)(r:RelV v u)
 (h:∀s',Inv X pins (σ.set i (aC v)) H s'->(∃a,Heap.SameBut a s.heap s'.heap/\(a=X.env.locals\/X.env.cells.lookup x=aC a))->Q () s') (hf:autoParam (X.fn x=true\/X.env.scope.names.lookup x=aC .local) L2.aF1._auto_1):wpAny M A (storeName X.env x u) Q E s:=by
 obtain⟨m,hn,hl⟩:=id I.loc;have hcls:(X.env.scope.kind == .class|| (X.env.scope.kind == .module&&X.env.locals != X.env.globals))=false:=by rw[I.ok.kind];rfl
 have zo:i<σ.length:=by rw[I.len];exact(jx.mp hi).1
 have uX:=I.uX;have tracked:∀{a:ai}{h':aA},(∃o,s.heap.get? a=aC o/\H a=aD)->Heap.SameBut a s.heap h'->eW X.prog X.w H h':=λ{a h'} ha hs b ob e=>by
  obtain⟨_,_,hfree⟩:=ha;refine(I.hok b ob e).stay (λc w' hc q=>(hs.2 c ?_).trans q) (λ_ q=>q) λ_ _ q=>q;rintro rfl;rcases hc with rfl|hc;rw[hfree]at e;cases e;rw[hfree]at hc;cases hc
 rcases hx with hk|hk;refine wpAny_storeName_local hk hn (λh' hn' hs=>?_) hcls;obtain⟨oL,_,_,Ry,_⟩:=id hn;refine h _ ⟨I.ok,I.os,I.bare,⟨λb o e n hb hx=>?_,λb o e n hb hx=>?_,I.base.free,λb o e hx=>?_,I.base.tups,I.base.g9,I.base.iL⟩,⟨_,hn',λj y v' e1 e2 e3=>?_⟩,λy c e=>?_,I.free,I.fj,λp hp=>?_,tracked ⟨oL,Ry,I.free⟩ hs,by simpa using I.len⟩ ⟨_,hs,.inl rfl⟩;exact(hs.2 b (fX (dS (cP e) I.ok.above))).trans (I.base.keep b o e n hb hx);obtain⟨sl,e1⟩:=I.base.slot b o e n hb hx;exact⟨sl,(hs.2 b (fX (dS (cP e) I.ok.above))).trans e1⟩;obtain⟨o',e1⟩:=I.base.there b o e hx;exact⟨o',(hs.2 b (fX (dS (cP e) I.ok.above))).trans e1⟩;by_cases hj:j=i;subst hj;rw[hi]at e1;cases e1;rw[sM zo]at e2;cases e2;exact⟨u,r,.inl ⟨hk,by simp⟩⟩;rw[xx (eL hj)]at e2;obtain⟨u',r',q⟩:=hl j y v' e1 e2 e3;refine⟨u',r',?_⟩;rcases q with⟨k,e⟩|⟨k,c,e,z⟩;refine .inl ⟨k,?_⟩;have:y≠x:=λe=>hj (MB hN e1 (e▸hi));simp[this,e];exact .inr ⟨k,c,e,z.sameBut hs (uX y c e)⟩;obtain⟨w',z⟩:=I.cell y c e;exact⟨w',z.sameBut hs (uX y c e)⟩;obtain⟨e,n,ne,nf,d⟩:=I.pin p hp;exact⟨(hs.2 p.1 ne).trans e,n,ne,nf,d⟩;have hfn:X.fn x=true:=by rcases hf with z|z;exact z;rw[z]at hk;cases hk
 obtain⟨c,hc⟩:=I.ok.has x (.inl hk);obtain⟨w',z⟩:=I.cell x c hc;refine wpAny_storeName_cell I.ok.kind hk hc z (λh' hc' hs=>?_);obtain⟨oc,hoc,F1⟩:=id z;refine h {s with heap:=h'} ⟨I.ok,I.os,I.bare,⟨λb o e n hb hx=>?_,λb o e n hb hx=>?_,I.base.free,λb o e hx=>?_,I.base.tups,I.base.g9,I.base.iL⟩,⟨m,hn.sameBut hs (eL (uX x c hc)),λj y v' e1 e2 e3=>?_⟩,λy c' e=>?_,I.free,I.fj,λp hp=>?_,tracked ⟨oc,hoc,I.fj x c hc⟩ hs,by simpa using I.len⟩ ⟨c,hs,.inr hc⟩;exact(hs.2 b (fX (dS (cP e) (I.ok.zk x c hfn hc)))).trans (I.base.keep b o e n hb hx);obtain⟨sl,e1⟩:=I.base.slot b o e n hb hx;exact⟨sl,(hs.2 b (fX (dS (cP e) (I.ok.zk x c hfn hc)))).trans e1⟩;obtain⟨o',e1⟩:=I.base.there b o e hx;exact⟨o',(hs.2 b (fX (dS (cP e) (I.ok.zk x c hfn hc)))).trans e1⟩;by_cases hj:j=i;subst hj;rw[hi]at e1;cases e1;rw[sM zo]at e2;cases e2;exact⟨u,r,.inr ⟨.inl hk,c,hc,hc'⟩⟩;rw[xx (eL hj)]at e2;obtain⟨u',r',q⟩:=hl j y v' e1 e2 e3;refine⟨u',r',?_⟩;rcases q with q|⟨k,c',e,z'⟩;exact .inl q;refine .inr ⟨k,c',e,z'.sameBut hs ?_⟩;rintro rfl;exact hj (MB hN e1 (I.ok.inj _ _ _ e hc▸hi));by_cases hcc:c'=c;subst hcc;exact⟨_,hc'⟩;obtain⟨w2,z2⟩:=I.cell y c' e;exact⟨w2,z2.sameBut hs hcc⟩;obtain⟨e,n,ne,nf,d⟩:=I.pin p hp;refine⟨(hs.2 p.1 ?_).trans e,n,ne,nf,d⟩;intro q;rw[q,hoc]at e;have q':oc=p.2:=lA e;exact d w' (by rw[<-q'];exact F1)
theorem F2{M:Model}{A:ao}{E:af->ah->Prop}{i:Nat}{x:Str}{v:V}{u:af}{Q:Unit->ah->Prop}(I:Inv X pins σ H s)(hN:X.N.Nodup)(hi:X.N[i]?=aC x)(hx:Loc X.env.scope x)(r:RelV v u)
 (h:∀s',Inv X pins (σ.set i (aC v)) H s'->Q () s') (hf:autoParam (X.fn x=true\/X.env.scope.names.lookup x=aC .local) L2.aF1._auto_1):wpAny M A (storeName X.env x u) Q E s:=
 F0 I hN hi hx r (λs' I' _=>h s' I') hf
theorem Inv.sZ{s':ah}{ch:List ai}(I:Inv X pins σ H s)(ho:s'.os=s.os)(u:Un (frs X.stack) ch H H' s.heap s'.heap)(hok:eW X.prog X.w H' s'.heap)(hg:AllBare s'.gens)
 (hch:∀b∈ch,(b∈X.ex\/X.s₀.heap.objs.size<=b)/\b≠X.env.locals/\(∀x c,X.env.cells.lookup x=aC c->c≠b)/\∀p∈X.pn++pins,p.1≠b):Inv X pins σ H' s':=by
 obtain⟨h',g',d',t',o'⟩:=s';have e:o'=s.os:=ho;subst e;exact I.call (g':=g') (t':=t') (d':=d') u hok hg hch
end
noncomputable abbrev XK:=af->Option ai->Hp->Prop
noncomputable abbrev St:=List (Option V)
noncomputable abbrev VK:=V->Hp->Prop
noncomputable abbrev TE:=St->Hp->VK->Prop
noncomputable abbrev TT:=St->Hp->(Bool->Hp->Prop)->Prop
noncomputable abbrev TA:=St->Hp->(List V->Hp->Prop)->Prop
set_option genInjectivity false in
structure Ends where
 nx:St->Hp->Prop
 rt:VK
 bk:St->Hp->Prop:=λ_ _=>False
 ct:St->Hp->Prop:=λ_ _=>False
noncomputable abbrev TS:=Ends->St->Hp->Prop
noncomputable def EP(X:Cx)(pins:List (ai×Obj))(σ:St)(Q:VK)(u:af)(s':ah):Prop:=∃v H',Inv X pins σ H' s'/\RelV v u/\Q v H'
noncomputable def TP(X:Cx)(pins:List (ai×Obj))(σ:St)(Q:Bool->Hp->Prop)(b:Bool)(s':ah):Prop:=∃H',Inv X pins σ H' s'/\Q b H'
noncomputable def AP(X:Cx)(pins:List (ai×Obj))(σ:St)(Q:List V->Hp->Prop)(us:List af)(s':ah):Prop:=∃vs H',Inv X pins σ H' s'/\Vals vs us/\Q vs H'
theorem EP.el{X:Cx}{pins:List (ai×Obj)}{σ:St}{Q:VK}{u:af}{s':ah}{P:Prop}(q:EP X pins σ Q u s')(k:∀v H',Inv X pins σ H' s'->RelV v u->Q v H'->P):P:=by obtain⟨v,H',a,b,c⟩:=q;exact k v H' a b c
theorem TP.el{X:Cx}{pins:List (ai×Obj)}{σ:St}{Q:Bool->Hp->Prop}{b:Bool}{s':ah}{P:Prop}(q:TP X pins σ Q b s')(k:∀H',Inv X pins σ H' s'->Q b H'->P):P:=by obtain⟨H',a,c⟩:=q;exact k H' a c
theorem AP.el{X:Cx}{pins:List (ai×Obj)}{σ:St}{Q:List V->Hp->Prop}{us:List af}{s':ah}{P:Prop}(q:AP X pins σ Q us s')(k:∀vs H',Inv X pins σ H' s'->Vals vs us->Q vs H'->P):P:=by obtain⟨v,H',a,b,c⟩:=q;exact k v H' a b c
noncomputable def SP(X:Cx)(pins:List (ai×Obj))(D:Ends)(f:Flow)(s':ah):Prop:=
 match f with|.next=>∃σ' H',Inv X pins σ' H' s'/\D.nx σ' H'|.brk=>∃σ' H',Inv X pins σ' H' s'/\D.bk σ' H'|.cont=>∃σ' H',Inv X pins σ' H' s'/\D.ct σ' H'|.ret u=>∃v σ' H',Inv X pins σ' H' s'/\RelV v u/\D.rt v H'
noncomputable def PE(X:Cx)(e:aq)(t:TE):Prop:=
 ∀(pins:List (ai×Obj))(s:ah)(σ:St)(H:Hp)(Q:VK),Inv X pins σ H s->t σ H Q->wpAny (model X.prog X.w) X.A (eval e X.env) (EP X pins σ Q) X.xe s
noncomputable def PT(X:Cx)(e:aq)(t:TT):Prop:=
 ∀(pins:List (ai×Obj))(s:ah)(σ:St)(H:Hp)(Q:Bool->Hp->Prop),Inv X pins σ H s->t σ H Q->wpAny (model X.prog X.w) X.A (isTrue e X.env (eval e X.env)) (TP X pins σ Q) X.xe s
noncomputable def PW(X:Cx)(e:aq)(t:TT):Prop:=
 ∀(whole:Sem af)(pins:List (ai×Obj))(s:ah)(σ:St)(H:Hp)(Q:Bool->Hp->Prop),Inv X pins σ H s->t σ H Q->wpAny (model X.prog X.w) X.A (isTrue e X.env whole) (TP X pins σ Q) X.xe s
theorem PW.pt{X:Cx}{e:aq}{t:TT}(h:PW X e t):PT X e t:=h _
noncomputable def PA(X:Cx)(es:List aq)(t:TA):Prop:=
 ∀(pos:Pos)(pins:List (ai×Obj))(s:ah)(σ:St)(H:Hp)(Q:List V->Hp->Prop),Inv X pins σ H s->t σ H Q->wpAny (model X.prog X.w) X.A (spliced (backTo pos (starEach es X.env))) (AP X pins σ Q) X.xe s
noncomputable def PS(X:Cx)(st:au)(t:TS):Prop:=
 ∀(pins:List (ai×Obj))(s:ah)(σ:St)(H:Hp)(D:Ends),Inv X pins σ H s->t D σ H->wpAny (model X.prog X.w) X.A (exec st X.env) (SP X pins D) X.xe s
noncomputable def kB(X:Cx)(st:List au)(t:TS):Prop:=
 ∀(pins:List (ai×Obj))(s:ah)(σ:St)(H:Hp)(D:Ends),Inv X pins σ H s->t D σ H->wpAny (model X.prog X.w) X.A (execs st X.env) (SP X pins D) X.xe s
theorem aX{α:Type}{t:Sem α}{Q Q':α->ah->Prop}{M:Model}{A:ao}{E:af->ah->Prop}{s:ah}(h:wpAny M A t Q E s)(hQ:∀a s,Q a s->Q' a s):wpAny M A t Q' E s:=gH h hQ λ_ _ x=>x
section
variable{X:Cx}
noncomputable def F3(i:Nat):TE:=λσ H Q=>∃v,σ[i]?=aC (aC v)/\Q v H
noncomputable def tC(v:V):TE:=λ_ H Q=>Q v H
theorem Rz{i:Nat}{x:Str}{pos:Pos}(hN:X.N[i]?=aC x)(hv:xJ X.env.scope x)(hd:autoParam ((x==("__debug__" : Str))=false) L2.aD1._auto_1)(hcd:autoParam ((x==("__classdict__" : Str))=false) L2.aD1._auto_1):PE X (.Name x pos) (F3 i):=by
 intro pins s σ H Q I h;obtain⟨v,e,h⟩:=h;obtain⟨m,hn,hl⟩:=I.loc;obtain⟨u,r,l⟩:=hl i x v hN e hv;have fin:EP X pins σ Q u s:=⟨v,H,I,r,h⟩
 rcases l with⟨hk,hm⟩|⟨hk,c,hc,hcell⟩;exact wpAny_Name (wpAny_loadName_local I.ok.kind hk hn hm fin) hd;rcases hk with hk|hk;exact wpAny_Name (wpAny_loadName_cell I.ok.kind hk hc hcell fin) hd;exact wpAny_Name (wpAny_loadName_free I.ok.kind hk hc hcell fin hcd) hd
theorem RA{i j pos}:PE X (.Constant (.int i) j pos) (tC (.int i)):=λ_ _ _ H _ I h=>wpAny_Constant_int ⟨.int i,H,I.tok _,⟨_,rfl⟩,h⟩
theorem zp{b j pos}:PE X (.Constant (.bool b) j pos) (tC (.bl b)):=λ_ _ _ H _ I h=>Constant_bool ⟨.bl b,H,I,rfl,h⟩
theorem RB{j pos}:PE X (.Constant .none j pos) (tC .aL):=λ_ _ _ H _ I h=>Constant_none ⟨.aL,H,I,rfl,h⟩
theorem RC{x j pos}:PE X (.Constant (.str x) j pos) (tC (.str x)):=λ_ _ _ H _ I h=>Calls.Constant_str ⟨.str x,H,I.tok _,⟨_,rfl⟩,h⟩
noncomputable def Gl(X:Cx)(x:Str):Prop:=X.env.kindOf x=aC .globalImplicit
theorem F4{E:af->ah->Prop}{pins:List (ai×Obj)}{s:ah}{σ:St}{H:Hp}{x:Str}{u:af}{pos:Pos}{Q:af->ah->Prop}(I:Inv X pins σ H s)(hg:Gl X x)(hm:X.mg x=aC u)(h:Q u s)
 (hd:autoParam ((x==("__debug__" : Str))=false) L2.aD1._auto_1):wpAny (model X.prog X.w) X.A (eval (.Name x pos) X.env) Q E s:=
 Calls.Name_function_global I.ok.kind hg (Calls.loadGlobal_global (by rw[I.ok.glob];exact I.mod.glob.keeps I.bk) hm h) hd
theorem nT{E:af->ah->Prop}{pins:List (ai×Obj)}{s:ah}{σ:St}{H:Hp}{x:Str}{u:af}{pos:Pos}{Q:af->ah->Prop}(I:Inv X pins σ H s)(hg:Gl X x)(hm:X.mg x=aD)(hv:bootBuiltins x=aC u)(h:Q u s)
 (hn:autoParam (x≠"__name__") L2.aD1._auto_1) (hd:autoParam ((x==("__debug__" : Str))=false) L2.aD1._auto_1):wpAny (model X.prog X.w) X.A (eval (.Name x pos) X.env) Q E s:=by
 obtain⟨mb,h1,h2⟩:=I.mod.blt;exact Calls.Name_function_global I.ok.kind hg (Calls.loadGlobal_builtin (by rw[I.ok.glob];exact I.mod.glob.keeps I.bk) hm (by rw[I.ok.blt];exact h1.keeps I.bk) ((h2 x hn).trans hv) h) hd
theorem RD{x:Str}{v:V}{u:af}{pos:Pos}(hg:Gl X x)(hm:X.mg x=aC u)(r:RelV v u)(hd:autoParam ((x==("__debug__" : Str))=false) L2.aD1._auto_1):PE X (.Name x pos) (tC v):=
 λ_ _ _ H _ I h=>F4 I hg hm ⟨v,H,I,r,h⟩ hd
theorem RE{x:Str}{v:V}{u:af}{pos:Pos}(hg:Gl X x)(hm:X.mg x=aD)(hv:bootBuiltins x=aC u)(r:RelV v u)(hn:autoParam (x≠"__name__") L2.aD1._auto_1)(hd:autoParam ((x==("__debug__" : Str))=false) L2.aD1._auto_1):PE X (.Name x pos) (tC v):=
 λ_ _ _ H _ I h=>nT I hg hm hv ⟨v,H,I,r,h⟩ hn hd
variable{a b:aq}{ta tb:TE}{pos:Pos}
variable{tA DM:TT}{rest:List aq}
noncomputable def F5(t u:TT):TT:=λσ H Q=>t σ H λc H1=>if c=true then u σ H1 Q else Q false H1
noncomputable def RG(t u:TT):TT:=λσ H Q=>t σ H λc H1=>if c=true then Q true H1 else u σ H1 Q
noncomputable def F6(t:TT):TT:=λσ H Q=>t σ H λc H1=>Q (!c) H1
theorem RH(ha:PT X a tA):PW X (.BoolOp .And [a] pos) tA:=by
 intro wh pins s σ H Q I h;refine isTrue_and (aX (ha pins s σ H Q I h) λc s1 e=>?_);cases c with|true=>exact isTrue_and_nil e|false=>exact e
theorem RI(ha:PT X a tA):PW X (.BoolOp .Or [a] pos) tA:=by
 intro wh pins s σ H Q I h;refine isTrue_or (aX (ha pins s σ H Q I h) λc s1 e=>?_);cases c with|false=>exact isTrue_or_nil e|true=>exact e
theorem RJ(ha:PT X a tA)(hb:PW X (.BoolOp .And (b::rest) pos) DM):PW X (.BoolOp .And (a::b::rest) pos) (F5 tA DM):=by
 intro wh pins s σ H Q I h;refine isTrue_and (aX (ha pins s σ H _ I h) λc s1 z9=>z9.el λH1 I1 q1=>?_);cases c with|true=>exact hb wh pins s1 σ H1 Q I1 q1|false=>exact⟨H1,I1,q1⟩
theorem pw_or(ha:PT X a tA)(hb:PW X (.BoolOp .Or (b::rest) pos) DM):PW X (.BoolOp .Or (a::b::rest) pos) (RG tA DM):=by
 intro wh pins s σ H Q I h;refine isTrue_or (aX (ha pins s σ H _ I h) λc s1 z9=>z9.el λH1 I1 q1=>?_);cases c with|true=>exact⟨H1,I1,q1⟩|false=>exact hb wh pins s1 σ H1 Q I1 q1
theorem RK(ha:PT X a tA):PT X (.UnaryOp .Not a pos) (F6 tA):=by intro pins s σ H Q I h;exact isTrue_not (ha pins s σ H (λc H1=>Q (!c) H1) I h)
noncomputable def zq(ta tb:TE):TE:=λσ H Q=>ta σ H λx H1=>∃c,x=.bl c/\if c=true then tb σ H1 Q else Q (.bl false) H1
noncomputable def F7(ta tb:TE):TE:=λσ H Q=>ta σ H λx H1=>∃c,x=.bl c/\if c=true then Q (.bl true) H1 else tb σ H1 Q
noncomputable def zu(ta:TE):TE:=λσ H Q=>ta σ H λx H1=>∃c,x=.bl c/\Q (.bl (!c)) H1
theorem RL{op}{t:TE}(h:PE X a t):PE X (.BoolOp op [a] pos) t:=λpins s σ H Q I hw=>BoolOp_one (h pins s σ H Q I hw)
theorem RM(ha:PE X a ta)(hb:PE X (.BoolOp .And (b::rest) pos) tb):PE X (.BoolOp .And (a::b::rest) pos) (zq ta tb):=by
 intro pins s σ H Q I h;refine BoolOp_and (aX (ha pins s σ H _ I h) λv s1 z9=>z9.el λx H1 I1 r1 q1=>?_);obtain⟨c,rfl,q1⟩:=q1;cases r1;refine nD ?_;cases c with|true=>exact hb pins s1 σ H1 Q I1 q1|false=>exact⟨.bl false,H1,I1,rfl,q1⟩
theorem zw(ha:PE X a ta)(hb:PE X (.BoolOp .Or (b::rest) pos) tb):PE X (.BoolOp .Or (a::b::rest) pos) (F7 ta tb):=by
 intro pins s σ H Q I h;refine BoolOp_or (aX (ha pins s σ H _ I h) λv s1 z9=>z9.el λx H1 I1 r1 q1=>?_);obtain⟨c,rfl,q1⟩:=q1;cases r1;refine nD ?_;cases c with|false=>exact hb pins s1 σ H1 Q I1 q1|true=>exact⟨.bl true,H1,I1,rfl,q1⟩
theorem RN(ha:PE X a ta):PE X (.UnaryOp .Not a pos) (zu ta):=by intro pins s σ H Q I h;refine UnaryOp_ (aX (ha pins s σ H _ I h) λv s1 z9=>z9.el λx H1 I1 r1 q1=>?_);obtain⟨c,rfl,q1⟩:=q1;cases r1;exact not_of (nD ⟨.bl (!c),H1,I1,rfl,q1⟩)
noncomputable def RO(t:TT)(ta tb:TE):TE:=λσ H Q=>t σ H λc H1=>if c=true then ta σ H1 Q else tb σ H1 Q
theorem RP{c:aq}(hc:PT X c tA)(ha:PE X a ta)(hb:PE X b tb):PE X (.IfExp c a b pos) (RO tA ta tb):=by
 intro pins s σ H Q I h;refine wpAny_IfExp (aX (hc pins s σ H _ I h) λd s1 z9=>z9.el λH1 I1 q1=>?_);cases d with|true=>exact ha pins s1 σ H1 Q I1 q1|false=>exact hb pins s1 σ H1 Q I1 q1
end
noncomputable def cC(K:aK)(H:Hp)(a:ai)(xs:List V):Prop:=
 Rd H a (.lst xs)\/
  ∃(o:Obj) (its:Array af) (n:Nat),K.lookup a=aC o/\o.cls=.type "list"/\o.dict=aD/\o.data=.seq its n/\its.size<=sizeLine/\Vals xs its.toList
noncomputable def bU(K:aK)(H:Hp)(a:ai)(xs:List V):Prop:=
 Rd H a (.tup xs)\/
  ∃(o:Obj) (its:Array af) (n:Nat),K.lookup a=aC o/\o.cls=.type "tuple"/\o.dict=aD/\o.data=.seq its n/\its.size<=sizeLine/\Vals xs its.toList
noncomputable def F8:af->Option V|.none=>aC .aL|.bool b=>aC (.bl b)|.int i _=>aC (.int i)|.str x _=>aC (.str x)|.bytes b _=>aC (.zf b)|.float b _=>aC (.xG b)|.ref a=>aC (.ref a)|.type n=>aC (.ty n)|_=>aD
theorem RelV.abs{x:V}{u:af}(r:RelV x u):F8 u=aC x:=by
 cases x with|aL=>cases r;rfl|bl _=>cases r;rfl|int _=>obtain⟨t,rfl⟩:=r;rfl|str _=>obtain⟨t,rfl⟩:=r;rfl|zf _=>obtain⟨t,rfl⟩:=r;rfl|xG _=>obtain⟨t,rfl⟩:=r;rfl|ref _=>cases r;rfl|ty _=>cases r;rfl
theorem RelV.inj{x y:V}{u:af}(r:RelV x u)(q:RelV y u):x=y:=lA (r.abs.symm.trans q.abs)
theorem Vals.inj:∀{xs ys:List V} {us:List af},Vals xs us->Vals ys us->xs=ys|_,_,_,.nil,.nil=>rfl|_,_,_,.cons r t,.cons r' t'=>by rw[r.inj r',Vals.inj t t']
section
variable{X:Cx}{pins:List (ai×Obj)}{σ:St}{H:Hp}{s:ah}{a:ai}{xs ys:List V}
theorem cC.of{K:aK}(h:H a=aC (.lst xs)):cC K H a xs:=.inl (.inl h)
theorem bU.of{K:aK}(h:H a=aC (.tup xs)):bU K H a xs:=.inl (.inl h)
theorem Inv.list(I:Inv X pins σ H s)(h:cC X.K H a xs):∃its:List af,Vals xs its/\PlainL s.heap a its.toArray/\xs.length<=sizeLine:=by rcases h with h|⟨o,its,n,hk,hc,hd,hs,hz,r⟩;obtain⟨z,its,n,r,e⟩:=h.ok I.hok;exact⟨its,r,⟨_,n,e,rfl,rfl,rfl⟩,z⟩;refine⟨its.toList,r,⟨o,n,I.iV a o hk,hc,hd,by simpa using hs⟩,?_⟩;have e:=r.length;simp only[sU]at e;lia
theorem Inv.nU(I:Inv X pins σ H s)(h:bU X.K H a xs):∃its:List af,Vals xs its/\jF s.heap a its.toArray/\xs.length<=sizeLine:=by rcases h with h|⟨o,its,n,hk,hc,hd,hs,hz,r⟩;obtain⟨z,its,r,p⟩:=h.ok I.hok;exact⟨its,r,p,z⟩;refine⟨its.toList,r,⟨o,I.iV a o hk,hc,⟨n,by simpa using hs⟩,hd⟩,?_⟩;have e:=r.length;simp only[sU]at e;lia
theorem Inv.tuple(I:Inv X pins σ H s)(h:bU X.K H a xs):∃its:List af,Vals xs its/\IsTup s.heap a its.toArray/\xs.length<=sizeLine:=by obtain⟨its,r,p,z⟩:=I.nU h;exact⟨its,r,p.tup,z⟩
theorem Inv.jG(I:Inv X pins σ H s)(h:cC X.K H a xs)(h':cC X.K H a ys):xs=ys:=by
 obtain⟨its,r,⟨o,n,e,_,_,d⟩,_⟩:=I.list h;obtain⟨its',r',⟨o',n',e',_,_,d'⟩,_⟩:=I.list h';rw[e]at e';cases e';rw[d]at d';injection d' with d1 _;have:its=its':=by simpa using pT Array.toList d1
 subst this;exact r.inj r'
theorem Inv.eO(I:Inv X pins σ H s)(h:bU X.K H a xs)(h':bU X.K H a ys):xs=ys:=by
 obtain⟨its,r,⟨o,e,_,n,d⟩,_⟩:=I.tuple h;obtain⟨its',r',⟨o',e',_,n',d'⟩,_⟩:=I.tuple h';rw[e]at e';cases e';rw[d]at d';injection d' with d1 _;have:its=its':=by simpa using pT Array.toList d1
 subst this;exact r.inj r'
end
noncomputable abbrev Cx.iM(X:Cx)(E:af->ah->Prop):Cx:={X with xe:=E}
noncomputable abbrev Cx.xN(X:Cx):Cx:=X.iM λ_ _=>False
theorem Cx.Ok.iM{X:Cx}(ok:X.Ok)(E:af->ah->Prop):(X.iM E).Ok:=
 ⟨ok.mod,ok.kind,ok.glob,ok.blt,ok.above,ok.inj,ok.has,ok.zk,ok.hd,ok.frames,ok.stk,ok.xK,ok.bs,ok.uW,ok.nR,ok.mJ,ok.ia,ok.xM⟩
theorem Cx.Ok.dY{X:Cx}{E:af->ah->Prop}(ok:(X.iM E).Ok):X.Ok:=
 ⟨ok.mod,ok.kind,ok.glob,ok.blt,ok.above,ok.inj,ok.has,ok.zk,ok.hd,ok.frames,ok.stk,ok.xK,ok.bs,ok.uW,ok.nR,ok.mJ,ok.ia,ok.xM⟩
section
variable{X:Cx}{pins:List (ai×Obj)}{σ:St}{H:Hp}{s:ah}{E:af->ah->Prop}
theorem Inv.iM(I:Inv X pins σ H s)(E:af->ah->Prop):Inv (X.iM E) pins σ H s:=⟨I.ok.iM E,I.os,I.bare,I.base,I.loc,I.cell,I.free,I.fj,I.pin,I.hok,I.len⟩
theorem Inv.dY(I:Inv (X.iM E) pins σ H s):Inv X pins σ H s:=⟨I.ok.dY,I.os,I.bare,I.base,I.loc,I.cell,I.free,I.fj,I.pin,I.hok,I.len⟩
theorem SP.dY{D:Ends}{f:Flow}{s':ah}(h:SP (X.iM E) pins D f s'):SP X pins D f s':=by
 cases f with|next=>obtain⟨σ',H',I,q⟩:=h;exact⟨σ',H',I.dY,q⟩|brk=>obtain⟨σ',H',I,q⟩:=h;exact⟨σ',H',I.dY,q⟩|cont=>obtain⟨σ',H',I,q⟩:=h;exact⟨σ',H',I.dY,q⟩|ret u=>obtain⟨v,σ',H',I,r,q⟩:=h;exact⟨v,σ',H',I.dY,r,q⟩
theorem kB.xN{st:List au}{t:TS}(h:kB X.xN st t):kB X st t:=λpins s σ H D I hw=>
 gH (h pins s σ H D (I.iM _) hw) (λ_ _ q=>q.dY) λ_ _ z=>False.elim z
end
section
variable{X:Cx}{st:au}{rest:List au}{t u:TS}{e:aq}{te:TE}{pos:Pos}
noncomputable def tu:TS:=λD σ H=>D.nx σ H
noncomputable def F9(t u:TS):TS:=λD σ H=>t {D with nx:=u D} σ H
theorem RQ:kB X [] tu:=λ_ _ σ H _ I h=>wpAny_execs_nil ⟨σ,H,I,h⟩
theorem RS(h1:PS X st t)(h2:kB X rest u):kB X (st::rest) (F9 t u):=by
 intro pins s σ H D I h;refine wpAny_execs_cons (aX (h1 pins s σ H {D with nx:=u D} I h) λf s1 q=>?_);cases f with
 |next=>
  obtain⟨σ',H',I',q⟩:=q;exact h2 pins s1 σ' H' D I' q
 |ret v=>exact q
 |brk=>exact q
 |cont=>exact q
noncomputable def RT:TS:=λD σ H=>D.bk σ H
noncomputable def zx:TS:=λD σ H=>D.ct σ H
theorem RU:PS X (.Pass pos) tu:=λ_ _ σ H _ I h=>wpAny_Pass ⟨σ,H,I,h⟩
theorem RV:PS X (.Break pos) RT:=λ_ _ σ H _ I h=>wpAny_Break ⟨σ,H,I,h⟩
theorem RW:PS X (.Continue pos) zx:=λ_ _ σ H _ I h=>wpAny_Continue ⟨σ,H,I,h⟩
theorem Inv.quiet{pins:List (ai×Obj)}{σ:St}{H:Hp}{s:ah}(I:Inv X pins σ H s):interactive X.env=false:=by simp[interactive,I.ok.kind]
noncomputable def zy(te:TE):TS:=λD σ H=>te σ H λ_ H1=>D.nx σ H1
theorem RX(he:PE X e te)(hs:autoParam (swapsWith e aD pos.line X.env=pure false) L2.aR1._auto_1):PS X (.Expr e pos) (zy te):=by intro pins s σ H D I h;exact wpAny_Expr_any (aX (he pins s σ H _ I h) λv s1 z9=>z9.el λx H1 I1 r1 q1=>⟨σ,H1,I1,q1⟩) I.quiet hs
noncomputable def Ga(te:TE):TS:=λD σ H=>te σ H D.rt
theorem RY(he:PE X e te):PS X (.Return (aC e) pos) (Ga te):=by intro pins s σ H D I h;exact wpAny_Return_some (aX (he pins s σ H _ I h) λv s1 z9=>z9.el λx H1 I1 r1 q1=>⟨x,σ,H1,I1,r1,q1⟩)
noncomputable def zA:TS:=λD _ H=>D.rt .aL H
theorem RZ:PS X (.Return aD pos) zA:=λ_ _ σ H _ I h=>wpAny_Return_none ⟨.aL,σ,H,I,rfl,h⟩
noncomputable def Gb(c:TT)(t u:TS):TS:=λD σ H=>c σ H λb H1=>if b=true then t D σ H1 else u D σ H1
theorem zB{c:aq}{a b:List au}{tc:TT}(hc:PT X c tc)(ha:kB X a t)(hb:kB X b u):PS X (.If c a b pos) (Gb tc t u):=by
 intro pins s σ H D I h;refine wpAny_If (aX (hc pins s σ H _ I h) λd s1 z9=>z9.el λH1 I1 q1=>?_);cases d with|true=>exact ha pins s1 σ H1 D I1 q1|false=>exact hb pins s1 σ H1 D I1 q1
noncomputable def R0:TS:=λ_ _ _=>False
theorem R1:PS X st R0:=λ_ _ _ _ _ _ h=>h.elim
end
noncomputable abbrev TG:=V->St->Hp->(St->Hp->Prop)->Prop
noncomputable abbrev qh:=List V->St->Hp->(St->Hp->Prop)->Prop
noncomputable def PG(X:Cx)(target:aq)(t:TG):Prop:=
 ∀(pins:List (ai×Obj))(s:ah)(σ:St)(H:Hp)(v:V)(u:af)(Q:St->Hp->Prop),Inv X pins σ H s->RelV v u->t v σ H Q->
  wpAny (model X.prog X.w) X.A (assign target X.env u) (λ_ s'=>∃σ' H',Inv X pins σ' H' s'/\Q σ' H') X.xe s
noncomputable def xO(X:Cx)(ts:List aq)(t:qh):Prop:=
 ∀(pins:List (ai×Obj))(s:ah)(σ:St)(H:Hp)(vs:List V)(us:List af)(Q:St->Hp->Prop),Inv X pins σ H s->Vals vs us->t vs σ H Q->
  wpAny (model X.prog X.w) X.A (assignInOrder ((assignEach ts X.env).map (·.2)) us) (λ_ s'=>∃σ' H',Inv X pins σ' H' s'/\Q σ' H') X.xe s
noncomputable abbrev uY:=V->V->V->Hp->(Hp->Prop)->Prop
noncomputable def jH(X:Cx)(t:uY):Prop:=
 ∀(pins:List (ai×Obj))(s:ah)(σ:St)(H:Hp)(o i v:V)(ov iv u:af)(Q:Hp->Prop),Inv X pins σ H s->RelV o ov->RelV i iv->RelV v u->t o i v H Q->
  wpAny (model X.prog X.w) X.A (setItem ov iv u) (λ_ s'=>∃H',Inv X pins σ H' s'/\Q H') X.xe s
noncomputable abbrev DN:=V->V->Hp->VK->Prop
noncomputable def xP(X:Cx)(op:Operator)(t:DN):Prop:=
 ∀(pins:List (ai×Obj))(s:ah)(σ:St)(H:Hp)(x y:V)(v u:af)(Q:VK),Inv X pins σ H s->RelV x v->RelV y u->t x y H Q->
  wpAny (model X.prog X.w) X.A (inplaceOp op v u) (EP X pins σ Q) X.xe s
section
variable{X:Cx}{pos:Pos}
noncomputable def ic(i:Nat):TG:=λv σ H Q=>Q (σ.set i (aC v)) H
theorem MC{i:Nat}{x:Str}(hN:X.N.Nodup)(hi:X.N[i]?=aC x)(hx:Loc X.env.scope x)(hf:autoParam (X.fn x=true\/X.env.scope.names.lookup x=aC .local) L2.aF1._auto_1):PG X (.Name x pos) (ic i):=by intro pins s σ H v u Q I r h;exact wpAny_assign_Name (F2 I hN hi hx r (λs' I'=>⟨_,H,I',h⟩) hf)
noncomputable def Gd:qh:=λvs σ H Q=>vs=[]/\Q σ H
noncomputable def zC(t:TG)(u:qh):qh:=λvs σ H Q=>∃v r,vs=v::r/\t v σ H λσ' H'=>u r σ' H' Q
theorem R3:xO X [] Gd:=by intro pins s σ H vs us Q I r h;obtain⟨e,h⟩:=h;subst e;cases r;exact assignInOrder_nil ⟨σ,H,I,h⟩
theorem R4{e:aq}{es:List aq}{t:TG}{u:qh}(h1:PG X e t)(h2:xO X es u)
 (hs:autoParam ((assignEach (e::es) X.env).map (·.2)=assign e X.env:: (assignEach es X.env).map (·.2)) L2.aR1._auto_1):xO X (e::es) (zC t u):=by
 intro pins s σ H vs us Q I r h;obtain⟨v,vr,e1,h⟩:=h;subst e1;cases r with
 |cons r rr=>
  rw[hs];refine assignInOrder_cons (aX (h1 pins s σ H _ _ _ I r h) λ_ s1 bM=>?_);obtain⟨σ1,H1,I1,q1⟩:=bM;exact h2 pins s1 σ1 H1 _ _ Q I1 rr q1
noncomputable def Ge(K:aK)(n:Nat)(t:qh):TG:=λv σ H Q=>∃a xs,v=.ref a/\bU K H a xs/\xs.length=n/\t xs σ H Q
theorem R5{es:List aq}{k:Nat}{t:qh}{n:Nat}(hc:X.calm)(h:xO X es t)
 (hn:autoParam ((assignEach es X.env).length=n) L2.aR1._auto_1) (hst:autoParam ((assignEach es X.env).findIdx? (·.1)=aD) L2.aR1._auto_1):PG X (.Tuple es k pos) (Ge X.K n t):=by
 intro pins s σ H v u Q I r hw;obtain⟨a,xs,e1,hq,hl,hw⟩:=hw;subst e1;cases r;obtain⟨its,rv,ht,hz⟩:=I.tuple hq;refine assign_Tuple_tuple (I.ok.hd hc) ht (by simp[hn,<-hl,rv.length]) hst λh' hx=>?_;have I1:Inv X pins σ H {s with heap:=h'}:=I.kept (t':=s.toks) λb o e=>hx b o (fX (cP e)) e;exact h pins _ σ H xs _ Q I1 (by simpa using rv) hw
noncomputable def Gf(to ti:TE)(t:uY):TG:=λv σ H Q=>to σ H λo H1=>ti σ H1 λi H2=>t o i v H2 λH3=>Q σ H3
theorem R6{o i:aq}{to ti:TE}{t:uY}(ho:PE X o to)(hi:PE X i ti)(hs:jH X t)
 (ha:∀v,assign (.Subscript o i pos) X.env v=(do
   let ov <-holding [v] (eval o X.env);let iv <-holding [v,ov] (eval i X.env)
   standAt pos
   holding [v,ov,iv] (setItem ov iv v)
   release [v,ov,iv] []):=by intro _;rfl):PG X (.Subscript o i pos) (Gf to ti t):=by
 intro pins s σ H v u Q I r h;rw[ha];refine aG (kL (aX (ho pins s σ H _ I h) λov s1 z9=>z9.el λx H1 I1 r1 q1=>?_));refine aG (kL (aX (hi pins s1 σ H1 _ I1 q1) λiv s2 z9=>z9.el λy H2 I2 r2 q2=>?_));refine aG (ni (aG (kL (aX (hs pins s2 σ H2 x y v ov iv u _ I2 r1 r2 r q2) λ_ s3 bM=>?_))));obtain⟨H3,I3,q3⟩:=bM;exact wpAny_release ⟨σ,H3,I3,q3⟩
noncomputable def qi(te:TE)(g:TG):TS:=λD σ H=>te σ H λx H1=>g x σ H1 D.nx
theorem MD{tg e:aq}{te:TE}{g:TG}(he:PE X e te)(hg:PG X tg g)(hs:autoParam (swapsWithSole [tg] e pos.line X.env=pure false) L2.aR1._auto_1)(hw:autoParam (swappedStores [tg] e X.env=pure aD) L2.aR1._auto_1)
 (h1:autoParam ((assignEach [tg] X.env).map (·.2)=[assign tg X.env]) L2.aR1._auto_1):PS X (.Assign [tg] e pos) (qi te g):=by
 intro pins s σ H D I h;refine wpAny_Assign_stores (aX (he pins s σ H _ I h) λv s1 z9=>z9.el λx H1 I1 r1 q1=>?_) hs hw;rw[h1];exact aX (hg pins s1 σ H1 x v _ I1 r1 q1) λ_ s2 q=>q
theorem R7{i:Nat}{x:Str}{e:aq}{te:TE}{pos':Pos}(hN:X.N.Nodup)(hi:X.N[i]?=aC x)(hx:Loc X.env.scope x)(he:PE X e te)(hs:autoParam (swapsWith e (aC (.Name x pos')) pos.line X.env=pure false) L2.aR1._auto_1)(hf:autoParam (X.fn x=true\/X.env.scope.names.lookup x=aC .local) L2.aF1._auto_1) :
 PS X (.Assign [.Name x pos'] e pos) (qi te (ic i)):=by
 intro pins s σ H D I h;refine wpAny_Assign_Name (aX (he pins s σ H _ I h) λv s1 z9=>z9.el λy H1 I1 r1 q1=>?_) hs;exact F2 I1 hN hi hx r1 (λs2 I2=>⟨_,H1,I2,q1⟩) hf
noncomputable def Gg(i:Nat)(te:TE)(ti:DN):TS:=λD σ H=>∃x,σ[i]?=aC (aC x)/\te σ H λy H1=>ti x y H1 λz H2=>D.nx (σ.set i (aC z)) H2
theorem R8{i:Nat}{x:Str}{e:aq}{te:TE}{op:Operator}{ti:DN}{pos':Pos}(hN:X.N.Nodup)(hi:X.N[i]?=aC x)(hx:Loc X.env.scope x)(he:PE X e te)(ho:xP X op ti)(hf:autoParam (X.fn x=true\/X.env.scope.names.lookup x=aC .local) L2.aF1._auto_1) :
 PS X (.AugAssign (.Name x pos') op e pos) (Gg i te ti):=by
 intro pins s σ H D I h;obtain⟨v,e1,h⟩:=h;obtain⟨m,hn,hl⟩:=I.loc;have vis:xJ X.env.scope x:=by rcases hx with k|k;exact .inl k;exact .inr (.inl k)
 obtain⟨u,r,l⟩:=hl i x v hi e1 vis;refine wpAny_AugAssign_Name ?_;have go:wpAny (model X.prog X.w) X.A (eval e X.env) (λw s₂=>wpAny (model X.prog X.w) X.A (inplaceOp op u w) (λr s₃=>wpAny (model X.prog X.w) X.A (storeName X.env x r) (λ_=>SP X pins D .next) X.xe s₃) X.xe s₂) X.xe s:=by refine aX (he pins s σ H _ I h) λw s1 z9=>z9.el λy H1 I1 r1 q1=>?_;refine aX (ho pins s1 σ H1 v y u w _ I1 r r1 q1) λz s2 z9=>z9.el λzv H2 I2 r2 q2=>?_;exact F2 I2 hN hi hx r2 (λs3 I3=>⟨_,H2,I3,q2⟩) hf
 rcases l with⟨hk,hm⟩|⟨hk,c,hc,hcell⟩;exact wpAny_loadName_local I.ok.kind hk hn hm go;rcases hk with hk|hk;exact wpAny_loadName_cell I.ok.kind hk hc hcell go;rcases hx with k|k;have:X.env.scope.names.lookup x=aC .free:=hk;rw[k]at this;cases this;have:X.env.scope.names.lookup x=aC .free:=hk;rw[k]at this;cases this
noncomputable def DO(f:Int->Int->Int):DN:=λx y H Q=>∃i j,x=.int i/\y=.int j/\Q (.int (f i j)) H
theorem R9:xP X .Add (DO λi j=>i+j):=by intro pins s σ H x y v u Q I r1 r2 h;obtain⟨i,j,e1,e2,q⟩:=h;subst e1;subst e2;obtain⟨t,rfl⟩:=r1;obtain⟨t',rfl⟩:=r2;exact iadd_int ⟨.int _,H,I.tok _,⟨_,rfl⟩,q⟩
theorem Sa:xP X .Sub (DO λi j=>i-j):=by intro pins s σ H x y v u Q I r1 r2 h;obtain⟨i,j,e1,e2,q⟩:=h;subst e1;subst e2;obtain⟨t,rfl⟩:=r1;obtain⟨t',rfl⟩:=r2;exact isub_int ⟨.int _,H,I.tok _,⟨_,rfl⟩,q⟩
end
section
variable{X:Cx}{pos:Pos}
noncomputable def Sb(c:TT)(tb:TS):TS:=λD σ H=>∃W:Nat->St->Hp->Prop,(∃m,W m σ H)/\∀m σ H,W m σ H->
 c σ H λb H1=>if b=true then ∃N:St->Hp->Prop,(∀σ' H',N σ' H'->∃m',m'<m/\W m' σ' H')/\tb {D with nx:=N,ct:=N,bk:=D.nx} σ H1 else D.nx σ H1
theorem Se{c:aq}{body:List au}{tc:TT}{tb:TS}(hp:PassesOwn (model X.prog X.w) X.A X.env X.xe)(hc:PT X c tc)(hb:kB X body tb):PS X (.While c body [] pos) (Sb tc tb):=by
 intro pins s σ H D I h;obtain⟨W,⟨m0,w0⟩,turn⟩:=h;refine wpAny_While (codeAny_whileLoop (λn s'=>∃σ' H',Inv X pins σ' H' s'/\W n σ' H') ?_ m0 ⟨σ,H,I,w0⟩);rintro n s1 ⟨σ1,H1,I1,w1⟩;refine uJ hp (aX (hc pins s1 σ1 H1 _ I1 (turn n σ1 H1 w1)) λb s2 z9=>z9.el λH2 I2 q2=>?_);cases b with
 |true=>
  obtain⟨N,hN,q2⟩:=q2;rw[if_pos rfl];refine uJ hp (aX (hb pins s2 σ1 H2 _ I2 q2) λf s3 q3=>?_);cases f with
  |next=>
   obtain⟨σ3,H3,I3,n3⟩:=q3;obtain⟨m',hm,w3⟩:=hN σ3 H3 n3;exact⟨m',hm,σ3,H3,I3,w3⟩
  |cont=>
   obtain⟨σ3,H3,I3,n3⟩:=q3;obtain⟨m',hm,w3⟩:=hN σ3 H3 n3;exact⟨m',hm,σ3,H3,I3,w3⟩
  |brk=>exact q3
  |ret v=>exact q3
 |false=>
  rw[if_neg lz];exact wpAny_execs_nil ⟨σ1,H2,I2,q2⟩
end
set_option genInjectivity false in
structure It where
 go:Nat->Hp->Prop
 uZ:Nat->Hp->V->Hp->Prop
 stop:Nat->Hp->Prop
noncomputable def dG(X:Cx)(pins:List (ai×Obj))(H:Hp)(b:ai):Prop:=
 H b=aD/\b≠X.env.locals/\b∉X.fs/\(b∈X.ex\/X.s₀.heap.objs.size<=b)/\(∀x c,X.env.cells.lookup x=aC c->c≠b)/\∀p∈X.pn++pins,p.1≠b
theorem Inv.jI{X:Cx}{pins:List (ai×Obj)}{σ:St}{H H':Hp}{s:ah}{b:ai}(I:Inv X pins σ H s)(hb:s.heap.objs.size<=b)(hn:H' b=aD):dG X pins H' b:=by refine⟨hn,nk (dS I.lt hb),I.FY hb,.inr (gY I.sz hb),λx c e z=>?_,λp hp z=>?_⟩;obtain⟨v,q⟩:=I.cell x c e;exact absurd (dS q.lt (by rw[z];exact hb)) (kj _);exact absurd (dS (cP (I.pin p hp).1) (by rw[z];exact hb)) (kj _)
structure Turn(P:aj)(w:ak)(K:aK)(tg:aq)(J:It)(fp:List ai)(it:ai)(tn:Nat->aA->Prop):Prop where
 mem:it∈fp
 obj:∀i h,tn i h->∀b∈fp,∃o,h.get? b=aC o/\∀v,o.data≠.cell v
 keep:∀i h h',tn i h->(∀b∈fp,∀o,h.get? b=aC o->h'.get? b=aC o)->tn i h'
 item:∀(X:Cx),X.prog=P->X.w=w->X.K=K->X.calm=true->∀(i:Nat)(pins:List (ai×Obj))(s:ah)(σ:St)(H:Hp)(E:af->ah->Prop),Inv X pins σ H s->(∀b∈fp,dG X pins H b)->tn i s.heap->J.go i H->
  wpAny (model P w) X.A (pyNext (.ref it)) (λr s1=>∃u,r=aC u/\
   wpAny (model P w) X.A (letOwnedTupleGo tg (.ref it) u) (λ_ s2=>∃x H',Inv X pins σ H' s2/\RelV x u/\J.uZ i H x H'/\tn (i+1) s2.heap/\∀b∈fp,H' b=aD) E s1) E s
 done:∀(X:Cx),X.prog=P->X.w=w->X.K=K->X.calm=true->∀(i:Nat)(pins:List (ai×Obj))(s:ah)(σ:St)(H:Hp)(E:af->ah->Prop),Inv X pins σ H s->(∀b∈fp,dG X pins H b)->tn i s.heap->J.stop i H->
  wpAny (model P w) X.A (pyNext (.ref it)) (λr s1=>r=aD/\Inv X pins σ H s1) E s
 self:∀(A:ao)(i:Nat)(s:ah)(Q:af->ah->Prop)(E:af->ah->Prop),tn i s.heap->Q (.ref it) s->wpAny (model P w) A (pyIter (.ref it)) Q E s
noncomputable abbrev TI:=St->Hp->(It->Hp->Prop)->Prop
noncomputable def DP(X:Cx)(pins:List (ai×Obj))(σ:St)(tg:aq)(R:It->Hp->Prop)(itv:af)(s2:ah):Prop:=
 ∃(it:ai) (fp:List ai) (tn:Nat->aA->Prop) (J:It) (H':Hp),itv=.ref it/\Inv X pins σ H' s2/\Turn X.prog X.w X.K tg J fp it tn/\tn 0 s2.heap/\(∀b∈fp,dG X pins H' b)/\R J H'
noncomputable def PI(X:Cx)(tg iter:aq)(wi:TI):Prop:=
 ∀(pins:List (ai×Obj))(s:ah)(σ:St)(H:Hp)(R:It->Hp->Prop),Inv X pins σ H s->wi σ H R->
  wpAny (model X.prog X.w) X.A (eval iter X.env) (λv s1=>wpAny (model X.prog X.w) X.A (pyIter v) (DP X pins σ tg R) X.xe s1) X.xe s
theorem lD{M:Model}{A:ao}{E:af->ah->Prop}{s:ah}{tg:aq}{it:ai}{u:af}{o:Obj}{n:String}{vs:Array af}{Q:Unit->ah->Prop}(ho:s.heap.get? it=aC o)(hc:o.cls=.type n)(hd:o.data=.fields vs)
 (hn:["enumerate","zip","dict_itemiterator","dict_reverseitemiterator","odict_iterator","itertools.zip_longest","itertools.pairwise"].contains n=false) (hQ:Q () s):wpAny M A (letOwnedTupleGo tg (.ref it) u) Q E s:=by
 unfold letOwnedTupleGo;cases tg<;>first
  |exact aQ hQ
  |(cases u<;>first
     |exact aQ hQ
     |(refine aG (wpAny_load ho ?_)
       rw[hc,hd];show wpAny M A (if(["enumerate","zip","dict_itemiterator","dict_reverseitemiterator","odict_iterator","itertools.zip_longest","itertools.pairwise"].contains n&&vs[0]? == aC (rawInt _))=true then _ else _) Q E s;rw[if_neg (by intro h;rw[hn,xo]at h;cases h)];exact aQ hQ))
noncomputable def DQ(K:aK)(a:ai):It:=
 ⟨λi H=>∃xs x,cC K H a xs/\xs[i]?=aC x,λi H x H'=>H'=H/\∀xs,cC K H a xs->xs[i]?=aC x,λi H=>∃xs,cC K H a xs/\xs.length<=i⟩
noncomputable def Gh(K:aK)(a:ai):It:=
 ⟨λi H=>∃xs x,bU K H a xs/\xs[i]?=aC x,λi H x H'=>H'=H/\∀xs,bU K H a xs->xs[i]?=aC x,λi H=>∃xs,bU K H a xs/\xs.length<=i⟩
noncomputable def zD(lo:Int)(n:Nat):It:=⟨λi _=>i<n,λi H x H'=>H'=H/\x=.int (lo+i),λi _=>n<=i⟩
theorem Sf{P:aj}{w:ak}{K:aK}{tg:aq}(a it:ai):Turn P w K tg (DQ K a) [it] it (λi h=>h.IsListIter it a i)where
 mem:=by simp
 obj:=λi h st b hb=>by
  have e:b=it:=by simpa using hb
  subst e;obtain⟨o,e,c,d⟩:=st;exact⟨o,e,λv z=>by rw[d]at z;cases z⟩
 keep:=λi h h' st k=>st.at λo e=>k it (by simp) o e
 item:=by intro X hP hw hK hc i pins s σ H E I hf st hg;subst hP hw hK;obtain⟨xs,x,hq,hx⟩:=hg;obtain⟨its,rv,p,hz⟩:=I.list hq;obtain⟨u,hu,ru⟩:=rv.get hx;obtain⟨f0,f1,f2,f3,f4,f5⟩:=hf it (by simp);refine wpAny_pyNext_list_item st p.isList (x:=u) (by simpa using hu) λh' st' sb=>?_;have I1:Inv X pins σ H {s with heap:=h'}:=I.turned (t':=s.toks) (λb o hb e=>(sb.2 b hb).trans e) f0 f1 f3 f4 f5;obtain⟨o,e,c,d⟩:=id st';exact⟨u,rfl,lD (s:={s with heap:=h'}) e c d (by decide) ⟨x,H,I1,ru,⟨rfl,λys hy=>by rw[I.jG hy hq];exact hx⟩,st',λb hb=>(hf b hb).1⟩⟩
 done:=by intro X hP hw hK hc i pins s σ H E I hf st hg;subst hP hw hK;obtain⟨xs,hq,hx⟩:=hg;obtain⟨its,rv,p,hz⟩:=I.list hq;obtain⟨f0,f1,f2,f3,f4,f5⟩:=hf it (by simp);have hl:=rv.length;exact wpAny_pyNext_list_end (I.ok.hd hc) st p.isList (by simp;lia) λh' eb=>⟨rfl,I.turned (t':=s.toks) (λb o hb e=>eb b o hb e) f0 f1 f3 f4 f5⟩
 self:=λ_ _ _ _ _ st h=>wpAny_pyIter_listiter st h
theorem Sg{P:aj}{w:ak}{K:aK}{tg:aq}(a it:ai):Turn P w K tg (Gh K a) [it] it (λi h=>h.IsTupleIter it a i)where
 mem:=by simp
 obj:=λi h st b hb=>by
  have e:b=it:=by simpa using hb
  subst e;obtain⟨o,e,c,d⟩:=st;exact⟨o,e,λv z=>by rw[d]at z;cases z⟩
 keep:=λi h h' st k=>st.at λo e=>k it (by simp) o e
 item:=by intro X hP hw hK hc i pins s σ H E I hf st hg;subst hP hw hK;obtain⟨xs,x,hq,hx⟩:=hg;obtain⟨its,rv,p,hz⟩:=I.tuple hq;obtain⟨u,hu,ru⟩:=rv.get hx;obtain⟨f0,f1,f2,f3,f4,f5⟩:=hf it (by simp);refine wpAny_pyNext_tuple_item st (show s.heap.IsTuple a its.toArray from p) (x:=u) (by simpa using hu) λh' st' sb=>?_;have I1:Inv X pins σ H {s with heap:=h'}:=I.turned (t':=s.toks) (λb o hb e=>(sb.2 b hb).trans e) f0 f1 f3 f4 f5;obtain⟨o,e,c,d⟩:=id st';exact⟨u,rfl,lD (s:={s with heap:=h'}) e c d (by decide) ⟨x,H,I1,ru,⟨rfl,λys hy=>by rw[I.eO hy hq];exact hx⟩,st',λb hb=>(hf b hb).1⟩⟩
 done:=by intro X hP hw hK hc i pins s σ H E I hf st hg;subst hP hw hK;obtain⟨xs,hq,hx⟩:=hg;obtain⟨its,rv,p,hz⟩:=I.tuple hq;obtain⟨f0,f1,f2,f3,f4,f5⟩:=hf it (by simp);have hl:=rv.length;exact wpAny_pyNext_tuple_end (I.ok.hd hc) st (show s.heap.IsTuple a its.toArray from p) (by simp;lia) λh' eb=>⟨rfl,I.turned (t':=s.toks) (λb o hb e=>eb b o hb e) f0 f1 f3 f4 f5⟩
 self:=λ_ _ _ _ _ st h=>wpAny_pyIter_tupleiter st h
theorem Sh{P:aj}{w:ak}{K:aK}{tg:aq}(it:ai)(lo:Int)(n:Nat):Turn P w K tg (zD lo n) [it] it (λi h=>IsRangeIter h it (lo+ (i:Nat)*1) ((n:Int)- (i:Nat)) 1)where
 mem:=by simp
 obj:=λi h st b hb=>by
  have e:b=it:=by simpa using hb
  subst e;exact⟨_,st,λv z=>by
   have z':Data.fields _=Data.cell v:=z;cases z'⟩
 keep:=λi h h' st k=>k it (by simp) _ st
 item:=by intro X hP hw hK hc i pins s σ H E I hf st hg;subst hP hw hK;obtain⟨f0,f1,f2,f3,f4,f5⟩:=hf it (by simp);have W:=Walks.range (prog:=X.prog) (w:=X.w) (I.ok.hd hc) it lo 1 n;refine W.item i s _ _ hg st λv h' tk hv st' kk=>?_;obtain⟨t,rfl⟩:=hv;have I1:Inv X pins σ H {s with heap:=h',toks:=tk}:=I.turned (λb o hb e=>kk b o (by simpa using hb) e) f0 f1 f3 f4 f5;refine⟨_,rfl,lD (s:={s with heap:=h',toks:=tk}) (n:="range_iterator") st' rfl rfl (by decide) ⟨.int (lo+i),H,I1,⟨t,?_⟩,⟨rfl,rfl⟩,st',λb hb=>(hf b hb).1⟩⟩;rw[Int.mul_one]
 done:=by intro X hP hw hK hc i pins s σ H E I hf st hg;subst hP hw hK;obtain⟨f0,f1,f2,f3,f4,f5⟩:=hf it (by simp);exact wpAny_pyNext_range_end (I.ok.hd hc) st (by have:n<=i:=hg;lia) λh' eb=>⟨rfl,I.turned (t':=s.toks) (λb o hb e=>eb b o hb e) f0 f1 f3 f4 f5⟩
 self:=λ_ _ _ _ _ st h=>wpAny_pyIter_rangeiter st h
section
variable{X:Cx}{tg:aq}
noncomputable def zE(K:aK)(tl:TE):TI:=λσ H R=>tl σ H λx H1=>∃a,x=.ref a/\(∃xs,cC K H1 a xs)/\R (DQ K a) H1
noncomputable def Gi(K:aK)(tl:TE):TI:=λσ H R=>tl σ H λx H1=>∃a,x=.ref a/\(∃xs,bU K H1 a xs)/\R (Gh K a) H1
theorem ME{l:aq}{tl:TE}(hl:PE X l tl):PI X tg l (zE X.K tl):=by
 intro pins s σ H R I h;refine aX (hl pins s σ H _ I h) λv s1 z9=>z9.el λx H1 I1 r1 q1=>?_;obtain⟨a,e,⟨xs,hq⟩,q⟩:=q1;subst e;cases r1;obtain⟨its,rv,p,hz⟩:=I1.list hq;refine uH p.isList ?_;refine⟨s1.heap.objs.size,[s1.heap.objs.size],_,_,H1,rfl,I1.kept (t':=s1.toks) λb o e=>b9 _ e,Sf a _,⟨_,fG _ rfl,rfl,rfl⟩,λb hb=>?_,q⟩;have e:b=s1.heap.objs.size:=by simpa using hb
 subst e;exact I1.jI (aW _) (I1.hok.fresh (aW _))
theorem Si{l:aq}{tl:TE}(hl:PE X l tl):PI X tg l (Gi X.K tl):=by
 intro pins s σ H R I h;refine aX (hl pins s σ H _ I h) λv s1 z9=>z9.el λx H1 I1 r1 q1=>?_;obtain⟨a,e,⟨xs,hq⟩,q⟩:=q1;subst e;cases r1;obtain⟨its,rv,p,hz⟩:=I1.tuple hq;refine uG (show s1.heap.IsTuple a its.toArray from p) ?_;refine⟨s1.heap.objs.size,[s1.heap.objs.size],_,_,H1,rfl,I1.kept (t':=s1.toks) λb o e=>b9 _ e,Sg a _,⟨_,fG _ rfl,rfl,rfl⟩,λb hb=>?_,q⟩;have e:b=s1.heap.objs.size:=by simpa using hb
 subst e;exact I1.jI (aW _) (I1.hok.fresh (aW _))
theorem MF{pins:List (ai×Obj)}{σ:St}{H:Hp}{s:ah}{R:It->Hp->Prop}{E:af->ah->Prop}{lo hi:Int}{t u v:Tok}{tk:Nat}(I:Inv X pins σ H s)(h1:-(2 ^ 62)<=lo)(h2:lo<2 ^ 62)(h3:-(2 ^ 62)<=hi)(h4:hi<2 ^ 62)
 (q:R (zD lo (hi-lo).toNat) H):wpAny (model X.prog X.w) X.A (pyIter (.ref s.heap.objs.size)) (DP X pins σ tg R) E {s with heap:=s.heap.push {cls:=.type "range",data:=.fields #[.int lo t,.int hi u,.int 1 v]},toks:=tk}:=by
 refine wpAny_pyIter_range (IsRange.new ..) (small_one h1 h2 h3 h4) ?_;have I1:Inv X pins σ H {s with heap:=s.heap.push {cls:=.type "range",data:=.fields #[.int lo t,.int hi u,.int 1 v]},toks:=tk}:=I.kept λb o e=>b9 _ e;refine⟨(s.heap.push {cls:=.type "range",data:=.fields #[.int lo t,.int hi u,.int 1 v]}).objs.size,[(s.heap.push {cls:=.type "range",data:=.fields #[.int lo t,.int hi u,.int 1 v]}).objs.size],_,_,H,rfl,
  I1.kept (t':=tk) λb o e=>b9 _ e,Sh _ lo (hi-lo).toNat,?_,λb hb=>?_,q⟩
 have e1:lo+ ((0:Nat):Int)*1=lo:=by simp
 have e2:(((hi-lo).toNat:Nat):Int)- ((0:Nat):Int)=Builtin.Range.rangeSize lo hi 1:=by rw[rangeSize_one];split<;>lia
 show IsRangeIter _ _ (lo+ ((0:Nat):Int)*1) ((((hi-lo).toNat:Nat):Int)- ((0:Nat):Int)) 1;rw[e1,e2];exact fG _ rfl;have e:b=(s.heap.push {cls:=.type "range",data:=.fields #[.int lo t,.int hi u,.int 1 v]}).objs.size:=by simpa using hb
 subst e;exact I1.jI (aW _) (I1.hok.fresh (aW _))
noncomputable def zF(ta:TA):TI:=λσ H R=>ta σ H λvs H1=>∃j:Int,vs=[.int j]/\-(2 ^ 62)<=j/\j<2 ^ 62/\R (zD 0 j.toNat) H1
noncomputable def zG(ta:TA):TI:=λσ H R=>ta σ H λvs H1=>∃i j:Int,vs=[.int i,.int j]/\(-(2 ^ 62)<=i/\i<2 ^ 62/\-(2 ^ 62)<=j/\j<2 ^ 62)/\R (zD i (j-i).toNat) H1
theorem Sj{a:aq}{ta:TA}{p pos:Pos}(hg:Gl X "range")(hm:X.mg "range" = aD)(ha:PA X [a] ta)(hs:autoParam (starEach [a] X.env=[(false,eval a X.env)]) L2.aR1._auto_1):PI X tg (.Call (.Name "range" p) [a] [] pos) (zF ta):=by
 intro pins s σ H R I h;refine Call_ (nT I hg hm boot_range (sQ (aX (ha pos pins s σ H _ I h) λus s1 z9=>z9.el λvs H1 I1 r1 q1=>?_) hs rfl));obtain⟨j,e,q1,q2,q⟩:=q1;subst e;cases r1 with
 |cons r rr=>
  cases rr;obtain⟨t,rfl⟩:=r;exact call_range_1 (MF I1 (by lia) (by lia) q1 q2 (by simpa using q))
theorem Sk{a b:aq}{ta:TA}{p pos:Pos}(hg:Gl X "range")(hm:X.mg "range" = aD)(ha:PA X [a,b] ta)(hs:autoParam (starEach [a,b] X.env=[(false,eval a X.env),(false,eval b X.env)]) L2.aR1._auto_1)(hs2:autoParam (starEach [b] X.env=[(false,eval b X.env)]) L2.aR1._auto_1) :
 PI X tg (.Call (.Name "range" p) [a,b] [] pos) (zG ta):=by
 intro pins s σ H R I h;refine Call_ (nT I hg hm boot_range (sQ (aX (ha pos pins s σ H _ I h) λus s1 z9=>z9.el λvs H1 I1 r1 q1=>?_) (by rw[hs,hs2]) (by rw[hs2];rfl)));obtain⟨i,j,e,⟨q1,q2,q3,q4⟩,q⟩:=q1;subst e;cases r1 with
 |cons r rr=>
  cases rr with
  |cons r' rr=>
   cases rr;obtain⟨t,rfl⟩:=r;obtain⟨t',rfl⟩:=r';exact call_range_2 (MF I1 q1 q2 q3 q4 q)
noncomputable def zH(wi:TI)(g:TG)(tb:TS):TS:=λD σ H=>wi σ H λJ H1=>∃W:Nat->Nat->St->Hp->Prop,(∃m,W 0 m σ H1)/\∀i m σ H,W i m σ H->
 (J.stop i H/\D.nx σ H)\/(J.go i H/\∃N:St->Hp->Prop,(∀σ' H',N σ' H'->∃m',m'<m/\W (i+1) m' σ' H')/\∀x H',J.uZ i H x H'->g x σ H' λσ2 H2=>tb {D with nx:=N,ct:=N,bk:=D.nx} σ2 H2)
noncomputable def u5(fp:List ai)(h:aA):List (ai×Obj):=fp.filterMap λb=>(h.get? b).map λo=>(b,o)
theorem tw{fp:List ai}{h:aA}{b:ai}{o:Obj}(hb:b∈fp)(e:h.get? b=aC o):(b,o)∈u5 fp h:=List.mem_filterMap.mpr ⟨b,hb,by rw[e];rfl⟩
theorem Sl{fp:List ai}{h:aA}{p:ai×Obj}(hp:p∈u5 fp h):p.1∈fp/\h.get? p.1=aC p.2:=by
 obtain⟨b,hb,e⟩:=List.mem_filterMap.mp hp;cases q:h.get? b with
 |none=>rw[q]at e;cases e
 |some o=>
  rw[q]at e;have e':(b,o)=p:=lA e;subst e';exact⟨hb,q⟩
theorem Inv.pinned{pins:List (ai×Obj)}{σ:St}{H:Hp}{s:ah}{fp:List ai}(I:Inv X pins σ H s)(hf:∀b∈fp,dG X pins H b)(ho:∀b∈fp,∃o,s.heap.get? b=aC o/\∀v,o.data≠.cell v):Inv X (pins++u5 fp s.heap) σ H s:=
 I.lC λp hp=>(pB.mp hp).elim (λz=>I.pin p (gV _ z)) λz=>by
  obtain⟨hb,e⟩:=Sl z;obtain⟨f0,f1,f2,_⟩:=hf p.1 hb;obtain⟨o,e',d⟩:=ho p.1 hb;rw[e]at e';cases e';exact⟨e,f0,f1,f2,d⟩
theorem Inv.dw{pins pl:List (ai×Obj)}{σ:St}{H:Hp}{s:ah}(I:Inv X (pins++pl) σ H s):Inv X pins σ H s:=I.lC λp hp=>I.pin p (gV _ (pY _ hp))
theorem Sm{iter:aq}{body:List au}{wi:TI}{g:TG}{tb:TS}{pos:Pos}(hp:PassesOwn (model X.prog X.w) X.A X.env X.xe)(hc:X.calm)(hi:PI X tg iter wi)(hg:PG X tg g)(hb:kB X body tb)
 (hs:∀x,foldedSetIterable iter X.env x=pure x:=by intro _;rfl):PS X (.For tg iter body [] pos) (zH wi g tb):=by
 intro pins s σ H D I h;refine wpAny_For (aX (hi pins s σ H _ I h) λv s1 h1=>aX h1 λitv s2 h2=>?_) hs;obtain⟨it,fp,tn,J,H2,e,I2,T,st2,f2,W,⟨m0,w0⟩,turn⟩:=h2;subst e;have kP:∀{H':Hp},(∀b∈fp,H' b=aD)->∀b∈fp,dG X pins H' b:=λhn b hb=>⟨hn b hb,(f2 b hb).2⟩
 refine codeAny_forLoop_any (λn s'=>∃i σ' H',Inv X pins σ' H' s'/\tn i s'.heap/\(∀b∈fp,H' b=aD)/\W i n σ' H') ?_ m0 ⟨0,σ,H2,I2,st2,λb hb=>(f2 b hb).1,w0⟩;rintro n s3 ⟨i,σ3,H3,I3,st3,zI,w3⟩;rcases turn i n σ3 H3 w3 with⟨stop,qn⟩|⟨go,N,hN,step⟩
 .refine uJ hp (aX (T.done X rfl rfl rfl hc i pins s3 σ3 H3 X.xe I3 (kP zI) st3 stop) λr s4 bM=>?_)
  obtain⟨hr,I4⟩:=bM;subst hr;exact wpAny_execs_nil ⟨σ3,H3,I4,qn⟩
 .refine uJ hp (aX (T.item X rfl rfl rfl hc i pins s3 σ3 H3 X.xe I3 (kP zI) st3 go) λr s4 bM=>?_)
  obtain⟨u,hr,h4⟩:=bM;subst hr;refine uJ hp (aX h4 λ_ s5 bM=>?_);obtain⟨x,H5,I5,r5,y5,mK,qj⟩:=bM;have Gj:=I5.pinned (kP qj) (T.obj _ _ mK);refine uJ hp (aX (hg _ s5 σ3 H5 x u _ Gj r5 (step x H5 y5)) λ_ s6 bM=>?_);obtain⟨jy,H6,I6,q6⟩:=bM;refine uJ hp (aX (hb _ s6 jy H6 _ I6 q6) λf s7 q7=>?_);have again:∀{kC:St}{H7:Hp},Inv X (pins++u5 fp s5.heap) kC H7 s7->N kC H7->∃m,m<n/\∃i σ' H',Inv X pins σ' H' s7/\tn i s7.heap/\(∀b∈fp,H' b=aD)/\W i m σ' H':=λ{kC H7} I7 n7=>by
   obtain⟨m',hm,w7⟩:=hN kC H7 n7;refine⟨m',hm,i+1,kC,H7,I7.dw,T.keep _ _ _ mK λb hb o e=>(I7.pin (b,o) (gV _ (gV _ (tw hb e)))).1,λb hb=>?_,w7⟩;obtain⟨o,e,d⟩:=T.obj _ _ mK b hb;exact(I7.pin (b,o) (gV _ (gV _ (tw hb e)))).2.1
  cases f with|next=>obtain⟨kC,H7,I7,n7⟩:=q7;exact again I7 n7|cont=>obtain⟨kC,H7,I7,n7⟩:=q7;exact again I7 n7|brk=>obtain⟨kC,H7,I7,q7⟩:=q7;exact⟨kC,H7,I7.dw,q7⟩|ret v=>obtain⟨x7,kC,H7,I7,r7,q7⟩:=q7;exact⟨x7,kC,H7,I7.dw,r7,q7⟩
end
noncomputable abbrev R2:=V->V->Hp->VK->Prop
noncomputable def cH(X:Cx)(f:af->af->Sem af)(r:R2):Prop:=
 ∀(pins:List (ai×Obj))(s:ah)(σ:St)(H:Hp)(x y:V)(v u:af)(Q:VK),Inv X pins σ H s->RelV x v->RelV y u->r x y H Q->
  wpAny (model X.prog X.w) X.A (f v u) (EP X pins σ Q) X.xe s
noncomputable def Gk(X:Cx)(f:af->Sem af)(r:V->Hp->VK->Prop):Prop:=
 ∀(pins:List (ai×Obj))(s:ah)(σ:St)(H:Hp)(x:V)(v:af)(Q:VK),Inv X pins σ H s->RelV x v->r x H Q->
  wpAny (model X.prog X.w) X.A (f v) (EP X pins σ Q) X.xe s
noncomputable def bO(X:Cx)(f:af)(r:List V->Hp->VK->Prop):Prop:=
 ∀(pins:List (ai×Obj))(s:ah)(σ:St)(H:Hp)(xs:List V)(us:List af)(Q:VK),Inv X pins σ H s->Vals xs us->r xs H Q->
  wpAny (model X.prog X.w) X.A (call f us) (EP X pins σ Q) X.xe s
noncomputable def Gn(X:Cx)(r:V->Hp->(Bool->Hp->Prop)->Prop):Prop:=
 ∀(pins:List (ai×Obj))(s:ah)(σ:St)(H:Hp)(x:V)(v:af)(Q:Bool->Hp->Prop),Inv X pins σ H s->RelV x v->r x H Q->
  wpAny (model X.prog X.w) X.A (truthy v) (TP X pins σ Q) X.xe s
noncomputable def DR(r:R2)(ta tb:TE):TE:=λσ H Q=>ta σ H λx H1=>tb σ H1 λy H2=>r x y H2 Q
noncomputable def Sn(r:V->Hp->VK->Prop)(ta:TE):TE:=λσ H Q=>ta σ H λx H1=>r x H1 Q
noncomputable def rI(C:Int->Int->Prop)(g:Int->Int->V):R2:=λx y H Q=>∃i j,x=.int i/\y=.int j/\C i j/\Q (g i j) H
noncomputable def mL(g:Int->Int->V):R2:=λx y H Q=>∃i j,x=.int i/\y=.int j/\Q (g i j) H
noncomputable def rU(g:Int->V):V->Hp->VK->Prop:=λx H Q=>∃i,x=.int i/\Q (g i) H
section
variable{X:Cx}{a b c:aq}{ta tb tc:TE}{pos:Pos}
theorem u6(ha:PE X a ta)(hb:PE X b tb){pins:List (ai×Obj)}{s:ah}{σ:St}{H:Hp}{R:V->V->Hp->Prop}(I:Inv X pins σ H s)
 (h:ta σ H λx H1=>tb σ H1 λy H2=>R x y H2) {Q:af->ah->Prop} {f:af->af->Sem af}
 (hf:∀v u s2 x y H2,Inv X pins σ H2 s2->RelV x v->RelV y u->R x y H2->wpAny (model X.prog X.w) X.A (f v u) Q X.xe s2) :
 wpAny (model X.prog X.w) X.A (eval a X.env) (λv s₁=>wpAny (model X.prog X.w) X.A (eval b X.env) (λu s₂=>wpAny (model X.prog X.w) X.A (f v u) Q X.xe s₂) X.xe s₁) X.xe s:=by
 refine aX (ha pins s σ H _ I h) λv s1 z9=>z9.el λx H1 I1 r1 q1=>?_;refine aX (hb pins s1 σ H1 _ I1 q1) λu s2 z9=>z9.el λy H2 I2 r2 q2=>?_;exact hf v u s2 x y H2 I2 r1 r2 q2
theorem zJ{op:Operator}{r:R2}(ho:cH X (binaryOp op) r)(ha:PE X a ta)(hb:PE X b tb):PE X (.BinOp a op b pos) (DR r ta tb):=by intro pins s σ H Q I h;exact wpAny_BinOp (u6 ha hb I h λv u s2 x y H2 I2 rx ry q=>ho pins s2 σ H2 x y v u Q I2 rx ry q)
theorem zK{op:UnaryOp}{r:V->Hp->VK->Prop}(ho:Gk X (unaryOp op) r)(ha:PE X a ta):PE X (.UnaryOp op a pos) (Sn r ta):=by intro pins s σ H Q I h;exact UnaryOp_ (aX (ha pins s σ H _ I h) λv s1 z9=>z9.el λx H1 I1 r1 q1=>ho pins s1 σ H1 x v Q I1 r1 q1)
theorem dU{f:af->af->Sem af}{C:Int->Int->Prop}{g:Int->Int->Int}
 (rule:∀(i j:Int)(t u:Tok)(s:ah)(Q:af->ah->Prop)(E:af->ah->Prop),C i j->Q (.int (g i j) s.toks) {s with toks:=s.toks+1}->wpAny (model X.prog X.w) X.A (f (.int i t) (.int j u)) Q E s) :
 cH X f (rI C λi j=>.int (g i j)):=by
 intro pins s σ H x y v u Q I rx ry h;obtain⟨i,j,rfl,rfl,hc,q⟩:=h;obtain⟨t,rfl⟩:=rx;obtain⟨t',rfl⟩:=ry;exact rule i j t t' s _ _ hc ⟨.int (g i j),H,I.tok _,⟨_,rfl⟩,q⟩
theorem zL{f:af->af->Sem af}{g:Int->Int->Int}
 (rule:∀(i j:Int)(t u:Tok)(s:ah)(Q:af->ah->Prop)(E:af->ah->Prop),Q (.int (g i j) s.toks) {s with toks:=s.toks+1}->wpAny (model X.prog X.w) X.A (f (.int i t) (.int j u)) Q E s) :
 cH X f (mL λi j=>.int (g i j)):=by
 intro pins s σ H x y v u Q I rx ry h;obtain⟨i,j,rfl,rfl,q⟩:=h;obtain⟨t,rfl⟩:=rx;obtain⟨t',rfl⟩:=ry;exact rule i j t t' s _ _ ⟨.int (g i j),H,I.tok _,⟨_,rfl⟩,q⟩
theorem qk{f:af->af->Sem af}{g:Int->Int->Bool}
 (rule:∀(i j:Int)(t u:Tok)(s:ah)(Q:af->ah->Prop)(E:af->ah->Prop),Q (.bool (g i j)) s->wpAny (model X.prog X.w) X.A (f (.int i t) (.int j u)) Q E s) :
 cH X f (mL λi j=>.bl (g i j)):=by
 intro pins s σ H x y v u Q I rx ry h;obtain⟨i,j,rfl,rfl,q⟩:=h;obtain⟨t,rfl⟩:=rx;obtain⟨t',rfl⟩:=ry;exact rule i j t t' s _ _ ⟨.bl (g i j),H,I,rfl,q⟩
noncomputable def ql(i j:Int):Prop:=0<j/\j<1073741824
noncomputable def u7(i j:Int):Prop:=0<=j/\j<=1000000/\i.natAbs<2 ^ 64
noncomputable def mO(i j:Int):Prop:=(-(2 ^ 64)<i/\i<2 ^ 64)\/(-(2 ^ 64)<j/\j<2 ^ 64)
theorem mO.ok{i j:Int}(h:mO i j):IntMulOk i j:=by rcases h with⟨h1,h2⟩|⟨h1,h2⟩;exact .of_left (intBits_le_64 h1 h2);exact .of_right (intBits_le_64 h1 h2)
theorem So:cH X (binaryOp .Add) (mL λi j=>.int (i+j)):=zL λ_ _ _ _ _ _ _ q=>add_int q
theorem Sq:cH X (binaryOp .Sub) (mL λi j=>.int (i-j)):=zL λ_ _ _ _ _ _ _ q=>sub_int q
theorem Ss:cH X (binaryOp .Mult) (rI mO λi j=>.int (i*j)):=dU λ_ _ _ _ _ _ _ hc q=>mul_int q hc.ok
theorem Su:cH X (binaryOp .FloorDiv) (rI ql λi j=>.int (i/j)):=dU λi j _ _ _ _ _ hc q=>by
 have h1:(0:Int)<j:=hc.1;have h2:j<1073741824:=hc.2;exact floordiv_int (by lia) (by rw[Int.fdiv_eq_ediv_of_nonneg i (by lia)];exact q) (.inl (PyProof.noPylong_small (by lia)))
theorem Sv:cH X (binaryOp .Mod) (rI (λ_ j=>0<j) λi j=>.int (i % j)):=dU λi j _ _ _ _ _ hc q=>by
 have h1:(0:Int)<j:=hc;exact mod_int' (by lia) (by rw[Int.fmod_eq_emod_of_nonneg i (by lia)];exact q)
theorem Sw:cH X (binaryOp .Pow) (rI u7 λi j=>.int (i ^ j.toNat)):=dU λ_ _ _ _ _ _ _ hc q=>pow_int_small hc.1 hc.2.1 hc.2.2 q
theorem Sx:cH X (inplaceOp .Mult) (rI mO λi j=>.int (i*j)):=dU λ_ _ _ _ _ _ _ hc q=>imul_int q hc.ok
theorem Sy:cH X (inplaceOp .FloorDiv) (rI ql λi j=>.int (i/j)):=dU λi j _ _ _ _ _ hc q=>by
 have h1:(0:Int)<j:=hc.1;have h2:j<1073741824:=hc.2;exact ifloordiv_int (by lia) (by rw[Int.fdiv_eq_ediv_of_nonneg i (by lia)];exact q) (.inl (PyProof.noPylong_small (by lia)))
theorem Sz{f:af->Sem af}{g:Int->Int}
 (rule:∀(i:Int)(t:Tok)(s:ah)(Q:af->ah->Prop)(E:af->ah->Prop),Q (.int (g i) s.toks) {s with toks:=s.toks+1}->wpAny (model X.prog X.w) X.A (f (.int i t)) Q E s) :
 Gk X f (rU λi=>.int (g i)):=by
 intro pins s σ H x v Q I rx h;obtain⟨i,rfl,q⟩:=h;obtain⟨t,rfl⟩:=rx;exact rule i t s _ _ ⟨.int (g i),H,I.tok _,⟨_,rfl⟩,q⟩
theorem SD:Gk X (unaryOp .USub) (rU λi=>.int (-i)):=Sz λ_ _ _ _ _ q=>neg_int q
end
section
variable{X:Cx}{a b c:aq}{ta tb tc:TE}{pos:Pos}
theorem DS{pins:List (ai×Obj)}{σ:St}{H:Hp}{s:ah}{Q:VK}{k k':Bool}(I:Inv X pins σ H s)(q:Q (.bl k) H)(e:k=k'):EP X pins σ Q (.bool k') s:=by subst e;exact⟨.bl k,H,I,rfl,q⟩
theorem zM:cH X (compareOp .Lt) (mL λi j=>.bl (decide (i<j))):=qk λ_ _ _ _ _ _ _ q=>lt_int q
theorem zN:cH X (compareOp .LtE) (mL λi j=>.bl (decide (i<=j))):=qk λ_ _ _ _ _ _ _ q=>le_int q
theorem zO:cH X (compareOp .Gt) (mL λi j=>.bl (decide (j<i))):=qk λ_ _ _ _ _ _ _ q=>gt_int q
theorem zP:cH X (compareOp .GtE) (mL λi j=>.bl (decide (j<=i))):=qk λ_ _ _ _ _ _ _ q=>ge_int q
theorem SG:cH X (compareOp .Is) (λx y H Q=>y=.aL/\Q (.bl (decide (x=.aL))) H):=by
 intro pins s σ H x y v u Q I rx ry h;obtain⟨rfl,q⟩:=h;cases ry;refine is_none_gen (DS I q ?_);cases x<;>first
  |(cases rx;rfl)
  |(obtain⟨t,rfl⟩:=rx;rfl)
theorem SH:cH X (compareOp .IsNot) (λx y H Q=>y=.aL/\Q (.bl (!decide (x=.aL))) H):=by
 intro pins s σ H x y v u Q I rx ry h;obtain⟨rfl,q⟩:=h;cases ry;refine isnot_none_gen (DS I q ?_);cases x<;>first
  |(cases rx;rfl)
  |(obtain⟨t,rfl⟩:=rx;rfl)
theorem cH.or{f:af->af->Sem af}{r r':R2}(h:cH X f r)(h':cH X f r'):cH X f (λx y H Q=>r x y H Q\/r' x y H Q):=by
 intro pins s σ H x y v u Q I rx ry q;rcases q with q|q
 exact h pins s σ H x y v u Q I rx ry q;exact h' pins s σ H x y v u Q I rx ry q
theorem SI{op:CmpOp}{r:R2}(ho:cH X (compareOp op) r)(ha:PE X a ta)(hb:PE X b tb)(hm:behindInMarks op b=false):PE X (.Compare a [op] [b] pos) (DR r ta tb):=by intro pins s σ H Q I h;exact wpAny_Compare1 (u6 ha hb I h λv u s2 x y H2 I2 rx ry q=>ho pins s2 σ H2 x y v u Q I2 rx ry q) hm
noncomputable def tB(t:TE):TT:=λσ H Q=>t σ H λx H'=>∃k,x=.bl k/\Q k H'
theorem SJ{op:CmpOp}{r:R2}(ho:cH X (compareOp op) r)(ha:PE X a ta)(hb:PE X b tb)(hm:behindInMarks op b=false):PT X (.Compare a [op] [b] pos) (tB (DR r ta tb)):=by
 intro pins s σ H Q I h;refine wpAny_isTrue_Compare1 (aX (ha pins s σ H _ I h) λv s1 z9=>z9.el λx H1 I1 r1 q1=>aX (hb pins s1 σ H1 _ I1 q1) λu s2 z9=>z9.el λy H2 I2 r2 q2=>
  aX (ho pins s2 σ H2 x y v u _ I2 r1 r2 q2) λc s3 z9=>z9.el λz H3 I3 r3 ⟨k,e,q3⟩=>?_) hm
 subst e;cases r3;exact nD ⟨H3,I3,q3⟩
noncomputable def Gp(r r':R2)(ta tb tc:TE):TE:=λσ H Q=>ta σ H λx H1=>tb σ H1 λy H2=>r x y H2 λz H3=>∃k,z=.bl k/\
 (if k=true then tc σ H3 λw' H4=>r' y w' H4 Q else Q (.bl false) H3)
theorem SK{op op':CmpOp}{r r':R2}(ho:cH X (compareOp op) r)(ho':cH X (compareOp op') r')(ha:PE X a ta)(hb:PE X b tb)(hc:PE X c tc)
 (hm:lastMarks [op,op'] [b,c]=false:=by with_unfolding_all rfl):PE X (.Compare a [op,op'] [b,c] pos) (Gp r r' ta tb tc):=by
 intro pins s σ H Q I h;refine Compare_chain (aX (ha pins s σ H _ I h) λv s1 z9=>z9.el λx H1 I1 r1 q1=>chain_link (aX (hb pins s1 σ H1 _ I1 q1) λu s2 z9=>z9.el λy H2 I2 r2 q2=>
  aX (ho pins s2 σ H2 x y v u _ I2 r1 r2 q2) λd s3 z9=>z9.el λz H3 I3 r3 ⟨k,e,q3⟩=>?_)) hm
 subst e;cases r3;refine nD ?_;cases k with|false=>exact ite_ff ⟨.bl false,H3,I3,rfl,q3⟩|true=>exact ite_tt (chain_last (aX (hc pins s3 σ H3 _ I3 q3) λw' s4 z9=>z9.el λz' H4 I4 r4 q4=>ho' pins s4 σ H4 y z' u w' Q I4 r2 r4 q4))
theorem SM{op op':CmpOp}{r r':R2}(ho:cH X (compareOp op) r)(ho':cH X (compareOp op') r')(ha:PE X a ta)(hb:PE X b tb)(hc:PE X c tc)
 (hm:lastMarks [op,op'] [b,c]=false:=by with_unfolding_all rfl):PT X (.Compare a [op,op'] [b,c] pos) (tB (Gp r r' ta tb tc)):=by
 intro pins s σ H Q I h;refine isTrue_chain (aX (ha pins s σ H _ I h) λv s1 z9=>z9.el λx H1 I1 r1 q1=>test_link (aX (hb pins s1 σ H1 _ I1 q1) λu s2 z9=>z9.el λy H2 I2 r2 q2=>
  aX (ho pins s2 σ H2 x y v u _ I2 r1 r2 q2) λd s3 z9=>z9.el λz H3 I3 r3 ⟨k,e,q3⟩=>?_)) hm
 subst e;cases r3;refine nD ?_;cases k with
 |false=>
  obtain⟨k',e',q'⟩:=q3;cases e';exact ite_ff ⟨H3,I3,q'⟩
 |true=>
  refine ite_tt (test_last (aX (hc pins s3 σ H3 _ I3 q3) λw' s4 z9=>z9.el λz' H4 I4 r4 q4=>aX (ho' pins s4 σ H4 y z' u w' _ I4 r2 r4 q4) λd' s5 z9=>z9.el λz2 H5 I5 r5 bM=>?_));obtain⟨k2,e2,q5⟩:=bM;subst e2;cases r5;exact nD ⟨H5,I5,q5⟩
noncomputable def u9(K:aK)(x:V)(H:Hp)(k:Bool):Prop:=
 match x with|.aL=>k=false|.bl b=>k=b|.int i=>k=(i != 0)|.str y=>y.length<=sizeLine/\k=((y.length:Int) != 0)|.zf y=>y.size<=sizeLine/\k=((y.size:Int) != 0)|.ref p=>(∃xs,cC K H p xs/\k=!xs.isEmpty)\/(∃xs,bU K H p xs/\k=!xs.isEmpty)\/∃kvs,H p=aC (.dK kvs)/\k=!kvs.isEmpty|_=>False
theorem SN{κ:Type}{kvs:List (κ×V)}{vs:List (κ×af)}(r:KV kvs vs):(!vs.isEmpty)=!kvs.isEmpty:=by cases r<;>rfl
theorem MG{xs:List V}{its:List af}(r:Vals xs its):(!its.toArray.isEmpty)=!xs.isEmpty:=by cases r<;>simp
theorem xQ:(sizeLine:Nat)<2 ^ 63:=by rw[pV];decide
theorem SO:Gn X (λx H Q=>∃k,u9 X.K x H k/\Q k H):=by
 intro pins s σ H x v Q I rx h;obtain⟨k,e,q⟩:=h;have hl:=xQ;have hs:sizeLine=16777216:=pV;cases x with
 |aL=>
  cases rx;have e':k=false:=e;subst e';exact truthy_none ⟨H,I,q⟩
 |bl b=>
  cases rx;have e':k=b:=e;subst e';exact nD ⟨H,I,q⟩
 |int i=>
  obtain⟨t,rfl⟩:=rx;have e':k=(i != 0):=e;subst e';exact PySem.P.truthy_int ⟨H,I,q⟩
 |str y=>
  obtain⟨t,rfl⟩:=rx;obtain⟨hy,e'⟩:y.length<=sizeLine/\k=((y.length:Int) != 0):=e;subst e';exact PySem.P.truthy_str (by lia) ⟨H,I.tok _,q⟩
 |zf y=>
  obtain⟨t,rfl⟩:=rx;obtain⟨hy,e'⟩:y.size<=sizeLine/\k=((y.size:Int) != 0):=e;subst e';exact PySem.W.truthy_bytes (by lia) ⟨H,I.tok _,q⟩
 |ref p=>
  cases rx;have e':(∃xs,cC X.K H p xs/\k=!xs.isEmpty)\/(∃xs,bU X.K H p xs/\k=!xs.isEmpty)\/∃kvs,H p=aC (.dK kvs)/\k=!kvs.isEmpty:=e;rcases e' with⟨xs,hx,e'⟩|⟨xs,hx,e'⟩|⟨kvs,hx,e'⟩
  subst e';obtain⟨its,r,pl,hz⟩:=I.list hx;have hlen:=r.length;exact wpAny_truthy_list pl.isList (by simp only[di];lia) ⟨H,I.tok _,by rw[MG r];exact q⟩;subst e';obtain⟨its,r,pl,hz⟩:=I.tuple hx;have hlen:=r.length;exact truthy_tuple pl (by simp only[di];lia) ⟨H,I.tok _,by rw[MG r];exact q⟩;subst e';obtain⟨hz,hS,vs,r,m⟩:kvs.length<=sizeLine/\(p==sysModules)=false/\∃vs,KV kvs vs/\s.heap.DictOf (ku X.prog X.w) p vs:=I.hok p _ hx;have hlen:kvs.length=vs.length:=sW r;exact wpAny_truthy_dict hS m (by lia) ⟨H,I.tok _,by rw[SN r];exact q⟩
 |_=>exact(show False from e).elim
theorem SQ(ha:PE X a ta)(he:∀whole,isTrue a X.env whole=(do let v <-whole;standAt a.pos;holding [v] (truthy v))) :
 PT X a (λσ H Q=>ta σ H λx H'=>∃k,u9 X.K x H' k/\Q k H'):=by
 intro pins s σ H Q I h;exact isTrue_plain (aX (ha pins s σ H _ I h) λv s1 z9=>z9.el λx H1 I1 r1 q1=>SO pins s1 σ H1 x v Q I1 r1 q1) (he _)
theorem vals1{x:V}{us:List af}(r:Vals [x] us):∃u,us=[u]/\RelV x u:=by
 cases r with|cons r1 r2=>cases r2;exact⟨_,rfl,r1⟩
theorem vals2{x y:V}{us:List af}(r:Vals [x,y] us):∃u w',us=[u,w']/\RelV x u/\RelV y w':=by
 cases r with
 |cons r1 r2=>
  cases r2 with|cons r3 r4=>cases r4;exact⟨_,_,rfl,r1,r3⟩
theorem SR:bO X (.builtin "abs") (λxs H Q=>∃i,xs=[.int i]/\Q (.int (if i<0 then -i else i)) H):=by intro pins s σ H xs us Q I r h;obtain⟨i,rfl,q⟩:=h;obtain⟨u,rfl,t,rfl⟩:=vals1 r;exact call_abs_int λu tk=>⟨.int (if i<0 then -i else i),H,I.tok _,⟨_,rfl⟩,q⟩
theorem SV(hc:X.calm):bO X (.builtin "max") (λxs H Q=>∃i j,xs=[.int i,.int j]/\Q (.int (if j>i then j else i)) H):=by
 intro pins s σ H xs us Q I r h;obtain⟨i,j,rfl,q⟩:=h;obtain⟨u,w',rfl,⟨t,rfl⟩,⟨t',rfl⟩⟩:=vals2 r;refine max_two_ints (I.ok.hd hc) λh' tk k=>⟨_,H,I.kept k,?_,q⟩
 by_cases hj:j>i;rw[if_pos hj,if_pos hj];exact⟨_,rfl⟩;rw[if_neg hj,if_neg hj];exact⟨_,rfl⟩
theorem SX(hc:X.calm):bO X (.builtin "min") (λxs H Q=>∃i j,xs=[.int i,.int j]/\Q (.int (if j<i then j else i)) H):=by
 intro pins s σ H xs us Q I r h;obtain⟨i,j,rfl,q⟩:=h;obtain⟨u,w',rfl,⟨t,rfl⟩,⟨t',rfl⟩⟩:=vals2 r;refine min_two_ints (I.ok.hd hc) λh' tk k=>⟨_,H,I.kept k,?_,q⟩
 by_cases hj:j<i;rw[if_pos hj,if_pos hj];exact⟨_,rfl⟩;rw[if_neg hj,if_neg hj];exact⟨_,rfl⟩
theorem SY:bO X (.type "int") (λxs H Q=>(∃i,xs=[.int i]/\Q (.int i) H)\/∃k,xs=[.bl k]/\Q (.int (if k then 1 else 0)) H):=by
 intro pins s σ H xs us Q I r h;rcases h with⟨i,rfl,q⟩|⟨k,rfl,q⟩
 obtain⟨u,rfl,t,rfl⟩:=vals1 r;exact call_int_int ⟨.int i,H,I,⟨_,rfl⟩,q⟩;obtain⟨u,rfl,r1⟩:=vals1 r;cases r1;exact call_int_bool ⟨.int (if k then 1 else 0),H,I.tok _,⟨_,rfl⟩,q⟩
end
structure vc(h:aA)(x dx C:ai)(mA:Str->Option af):Prop where
 obj:h.get? x=aC (PySem.W.instObj C dx)
 ns:h.Ns1 dx mA
 ne:dx≠x
theorem S1{h:aA}{dx:ai}{mA:Str->Option af}(n:h.Ns1 dx mA):∃od,h.get? dx=aC od/\∀name,PySem.W.lookIn name od=aC (mA name):=by
 obtain⟨o,es,ep,ho,hd,hk,_,hm⟩:=n;refine⟨o,ho,λname=>?_⟩;have e:=hm name;unfold nsFind findBy at e;rw[<-Array.find?_toList]at e;unfold PySem.W.lookIn;rw[hd];dsimp only;split;rename_i y q;rw[q]at e;exact pT aC e;rename_i q;rw[q]at e;have a:es.toList.any (·.refKey)=false:=by rw[List.any_eq_false];intro y hy;obtain⟨z,t,hkey⟩:=hk y (Array.mem_toList_iff.mp hy);simp[DictEntry.refKey,hkey]
 have a':¬es.toList.any (·.refKey)=true:=by rw[a];exact lz
 rw[if_neg a'];exact pT aC e
theorem vc.look{h:aA}{x dx C:ai}{mA:Str->Option af}(I:vc h x dx C mA):∃od,PySem.W.InstAt h x (PySem.W.instObj C dx) C (aC od)/\∀name,PySem.W.lookIn name od=aC (mA name):=
 let⟨od,ho,hl⟩:=S1 I.ns
 ⟨od,⟨I.obj,rfl,rfl,ho⟩,hl⟩
theorem gZ.some_of{v:V}{o:Option af}(r:gZ (aC v) o):∃u,o=aC u/\RelV v u:=by
 cases o with|none=>exact(show False from r).elim|some u=>exact⟨u,rfl,r⟩
section
variable{P:aj}{w:ak}{H H':Hp}{h h':aA}{a C dx:ai}{fs fs':List (Str×V)}
theorem S2(hok:eW P w H h)(e:H a=aC (.ins C dx fs)):∃mA,vc h a dx C mA/\(∀f,gZ (fs.lookup f) (mA f))/\PySem.Within mA (fs.map (·.1))/\fs.length<=1000/\H dx=aC (.own a):=by
 obtain⟨d,z,ne,ob,mA,n,r,q⟩:=(show bf P w H h a (.ins C dx fs)from hok a _ e)
 exact⟨mA,⟨ob,n,ne⟩,r,q,z,d⟩
end
structure Gq(K:aK)(C:ai):Prop where
 pg:PySem.W.plainGet K C Str.empty=true
 hd:PySem.W.hasDictIn K C=true
 po:PySem.W.plainOver K C=true
 sa:PySem.W.findIn K (.ref C) "__setattr__" = aC (aC (.builtin "object.__setattr__"))
theorem Gq.get{K:aK}{C:ai}(c:Gq K C)(f:Str):PySem.W.plainGet K C f=true:=c.pg
section
variable{X:Cx}{pins:List (ai×Obj)}{σ:St}{H:Hp}{s:ah}{A:ao}{E:af->ah->Prop}{Q:af->ah->Prop}{c:af}{b:Bool}
inductive fJ(K:aK)(H:Hp):V->af->Prop where
 |aL:fJ K H .aL (.type "NoneType")
 |bl (x:Bool):fJ K H (.bl x) (.type "bool")
 |int (i:Int):fJ K H (.int i) (.type "int")
 |str (x:Str):fJ K H (.str x) (.type "str")
 |xG (x:UInt64):fJ K H (.xG x) (.type "float")
 |lst {a:ai} {xs:List V} (e:H a=aC (.lst xs)):fJ K H (.ref a) (.type "list")
 |bI {a:ai} {o:Obj} {xs:List V} (e:H a=aC (.bI o (.lst xs))):fJ K H (.ref a) (.type "list")
 |tup {a:ai} {xs:List V} (e:H a=aC (.tup xs)):fJ K H (.ref a) (.type "tuple")
 |dK {a:ai} {kvs:List (Key×V)} (e:H a=aC (.dK kvs)):fJ K H (.ref a) (.type "dict")
 |dT {a:ai} {kvs:List (List Key×V)} (e:H a=aC (.dT kvs)):fJ K H (.ref a) (.type "dict")
 |ins {a C dx:ai} {fs:List (Str×V)} (e:H a=aC (.ins C dx fs)) (cl:Gq K C) (ha:PySem.W.findIn K (.ref C) "__class__" = aC (aC (.builtin "object.__class__")))
   (hn:PySem.W.specialIn K (.builtin "object.__class__") "__get__" = aC (aC (.builtin "getset_descriptor.__get__"))) (htk:PySem.W.takesIn K (.builtin "object.__class__")=aC true)
   (hm:PySem.W.mroIn K C (.type "object")=aC true):fJ K H (.ref a) (.ref C)
theorem S3{x:V}{u t:af}(I:Inv X pins σ H s)(rx:RelV x u)(ty:fJ X.K H x t)(e:PySem.W.kitOne X.K t c=aC b)(h:∀tk,Q (.bool b) {s with toks:=tk}) :
 wpAny (model X.prog X.w) A (call (.builtin "isinstance") [u,c]) Q E s:=by
 cases ty with
 |aL=>cases(show u=Value.none from rx);exact mH PySem.W.kitx_none I.iV True.intro e (λz=>nomatch z) h
 |bl y=>cases(show u=Value.bool y from rx);exact mH PySem.W.kitx_bool I.iV True.intro e (λz=>nomatch z) h
 |int i=>obtain⟨t,q⟩:=(show ∃t,u=Value.int i t from rx);cases q;exact mH PySem.W.kitx_int I.iV True.intro e (λz=>nomatch z) h
 |str y=>obtain⟨t,q⟩:=(show ∃t,u=Value.str y t from rx);cases q;exact mH PySem.W.kitx_str I.iV True.intro e (λz=>nomatch z) h
 |xG y=>obtain⟨t,q⟩:=(show ∃t,u=Value.float y t from rx);cases q;exact mH PySem.W.kitx_float I.iV True.intro e (λz=>nomatch z) h
 | @lst a xs ea=>
  cases(show u=Value.ref a from rx);obtain⟨_,_,n,_,h1⟩:=(show bf X.prog X.w H s.heap a (.lst xs)from I.hok a _ ea)
  exact mH PySem.W.kitx_list I.iV ⟨_,h1,rfl⟩ e (λz=>nomatch z) h
 | @bI a ob xs ea=>
  cases(show u=Value.ref a from rx);obtain⟨_,_,_,n,_,h1⟩:=(show bf X.prog X.w H s.heap a (.bI ob (.lst xs))from I.hok a _ ea)
  exact mH PySem.W.kitx_list I.iV ⟨_,h1,rfl⟩ e (λz=>nomatch z) h
 | @tup a xs ea=>
  cases(show u=Value.ref a from rx);obtain⟨_,_,_,p⟩:=(show bf X.prog X.w H s.heap a (.tup xs)from I.hok a _ ea)
  obtain⟨o,h1,h2,_⟩:=p;exact mH PySem.W.kitx_tuple I.iV ⟨o,h1,h2⟩ e (λz=>nomatch z) h
 | @dK a kvs ea=>
  cases(show u=Value.ref a from rx);obtain⟨_,_,vs,_,p⟩:=(show bf X.prog X.w H s.heap a (.dK kvs)from I.hok a _ ea)
  obtain⟨o,es,ep,h1,h2,_⟩:=p;exact mH PySem.W.kitx_dict I.iV ⟨o,h1,h2.1⟩ e (λz=>nomatch z) h
 | @dT a kvs ea=>
  cases(show u=Value.ref a from rx);obtain⟨_,_,xs,_,o,es,ep,h1,h2,_⟩:=(show bf X.prog X.w H s.heap a (.dT kvs)from I.hok a _ ea)
  exact mH PySem.W.kitx_dict I.iV ⟨o,h1,h2.1⟩ e (λz=>nomatch z) h
 | @ins a C dx fs ea cl ha hn htk hm=>
  cases(show u=Value.ref a from rx);obtain⟨mA,O,_⟩:=S2 I.hok ea;obtain⟨od,J,_⟩:=O.look;exact mH (PySem.W.kitx_own (cl.get _) cl.hd ha hn htk hm) I.iV J e (λz=>nomatch z) h
end
structure cQ(k:Nat)(A:ao):Prop where
 hd:A.handled=aD
 dp:A.depth+3*k+5<recursionLimit
 un:A.units+16*k+200<cLine
theorem cQ.deeper{k:Nat}{A:ao}(r:cQ (k+1) A)(env:Env):cQ k (A.deeper env):=
 ⟨r.hd,by have:=r.dp;show A.depth+1+3*k+5<_;lia,by have:=r.un;show A.units+3+16*k+200<_;lia⟩
theorem cQ.depth{k:Nat}{A:ao}(r:cQ k A):A.depth<recursionLimit:=by have:=r.dp;lia
theorem cQ.units{k:Nat}{A:ao}(r:cQ k A):A.units+64<cLine:=by have:=r.un;lia
noncomputable def zQ:TA:=λ_ H Q=>Q [] H
noncomputable def zR(ta:TE)(tr:TA):TA:=λσ H Q=>ta σ H λx H1=>tr σ H1 λxs H2=>Q (x::xs) H2
section
variable{X:Cx}{e:aq}{es:List aq}{te:TE}{t:TA}{pos:Pos}
theorem DU:PA X [] zQ:=λ_ _ _ _ H Q I h=>DJ ⟨[],H,I,.nil,h⟩
theorem zS(ha:PE X e te)(hr:PA X es t)(hs:autoParam (starEach (e::es) X.env=(false,eval e X.env)::starEach es X.env) L2.aR1._auto_1):PA X (e::es) (zR te t):=by intro pos pins s σ H Q I h;rw[hs];show wpAny _ _ (spliced ((false,eval e X.env)::backTo pos (starEach es X.env))) _ _ s;refine zd (aX (ha pins s σ H _ I h) λu s1 z9=>z9.el λx H1 I1 r1 q1=>?_);exact aX (hr pos pins s1 σ H1 _ I1 q1) λus s2 z9=>z9.el λxs H2 I2 r2 q2=>⟨x::xs,H2,I2,.cons r1 r2,q2⟩
noncomputable def Gs(t:TA):TE:=λσ H Q=>t σ H λxs H1=>xs.length<=sizeLine/\∀p,H1 p=aD->Q (.ref p) (upd H1 p (.tup xs))
noncomputable def Gu(t:TA):TE:=λσ H Q=>t σ H λxs H1=>xs.length<=sizeLine/\∀p,H1 p=aD->Q (.ref p) (upd H1 p (.lst xs))
theorem S4{x1}(h:PA X es t):PE X (.Tuple es x1 pos) (Gs t):=by intro pins s σ H Q I hq;refine wpAny_Tuple_spliced (aX (h pos pins s σ H _ I hq) λus s1 z9=>z9.el λxs H1 I1 r ⟨z,q⟩=>⟨by rw[<-r.length];exact z,?_⟩);have hf:H1 s1.heap.objs.size=aD:=I1.hok.fresh (aW _);refine⟨.ref s1.heap.objs.size,upd H1 s1.heap.objs.size (.tup xs),I1.laid (t':=s1.toks) (λb u e=>b9 _ e) (aW _) ?_,rfl,q _ hf⟩;exact⟨z,us,r,jF.new _ _⟩
theorem S6(h:PA X es t):PE X (.List es pos) (Gu t):=by intro pins s σ H Q I hq;refine wpAny_List_spliced (aX (h pos pins s σ H _ I hq) λus s1 z9=>z9.el λxs H1 I1 r ⟨z,q⟩=>⟨by rw[<-r.length];exact z,?_⟩);have hf:H1 s1.heap.objs.size=aD:=I1.hok.fresh (aW _);refine⟨.ref s1.heap.objs.size,upd H1 s1.heap.objs.size (.lst xs),I1.laid (t':=s1.toks) (λb u e=>b9 _ e) (aW _) ?_,rfl,q _ hf⟩;exact⟨z,us,0,r,fG _ rfl⟩
end
noncomputable abbrev Sp:=List V->Hp->VK->XK->Prop
noncomputable abbrev pC:=List Env->Hp->ah->XK->af->ah->Prop
structure qm(P:aj)(w:ak)(K:aK)(mg:Str->Option af)(base:aA)(A:ao)(outer:List Env)(s:ah)(H:Hp):Prop where
 frames:A.frames=aC outer
 mod:Mod K mg base
 bs:∀b o,base.get? b=aC o->s.heap.get? b=aC o/\H b=aD
 uW:base.objs.size<=s.heap.objs.size
 ia:s.heap.FunFrames base outer
 xM:∀b∈frs outer,H b=aD
 hok:eW P w H s.heap
 bare:AllBare s.gens
noncomputable def CE(outer:List Env)(P:aj)(w:ak)(H:Hp)(s:ah)(Q:VK)(u:af)(s':ah):Prop:=
 ∃v H',s'.os=s.os/\AllBare s'.gens/\Un (frs outer) [] H H' s.heap s'.heap/\eW P w H' s'.heap/\RelV v u/\Q v H'
noncomputable def CR(CX:pC)(outer:List Env)(P:aj)(w:ak)(H:Hp)(s:ah)(Q:VK)(E:XK)(r:Result)(s':ah):Prop:=
 match r with|.ok (.ret u)=>CE outer P w H s Q u s'|.ok _=>False|.error e=>CX outer H s E e s'
structure fy(P:aj)(w:ak)(K:aK)(mg:Str->Option af)(base:aA)(CX:pC)(k:Nat)(f:ai)(fd:av)(ps:List Str)(sp:Sp):Prop where
 len:∀vs H Q E,sp vs H Q E->vs.length=ps.length
 run:∀(A:ao)(outer:List Env)(s:ah)(H:Hp)(args:Args)(us:List af)(vs:List V)(Q:VK)(E:XK),cQ k A->qm P w K mg base A outer s H->BindsTo s fd args (ps.zip us)->Vals vs us->sp vs H Q E->
  codeAny (model P w) A (.call (.ref f) args) (CR CX outer P w H s Q E) s
section
variable{X:Cx}{pins:List (ai×Obj)}{σ:St}{H:Hp}{s s':ah}
theorem Inv.Gv(I:Inv X pins σ H s):qm X.prog X.w X.K X.mg X.base X.A X.stack s H:=
 ⟨I.ok.frames,I.ok.mod,I.bs,gY I.ok.uW I.sz,I.stack,I.lB,I.hok,I.bare⟩
theorem Inv.after{Q:VK}{u:af}(I:Inv X pins σ H s)(h:CE X.stack X.prog X.w H s Q u s'):EP X pins σ Q u s':=by obtain⟨v,H',os,bare,un,hok,r,q⟩:=h;obtain⟨hh,g,d,t,os'⟩:=s';obtain rfl:os'=s.os:=os;exact⟨v,H',I.call (h':=hh) (g':=g) (d':=d) (t':=t) (ch:=[]) un hok bare (λb z=>absurd z (by simp)),r,q⟩
end
noncomputable def tD(sp:Sp)(nV:List V)(E:XK)(t:TA):TE:=λσ H Q=>t σ H λvs H1=>sp (vs++nV) H1 Q E
noncomputable def Binds(K:aK)(fd:av)(ps:List Str)(ds:List af):Prop:=
 ∀(s:ah)(us:List af),K.In s.heap->(us++ds).length=ps.length->BindsTo s fd ⟨us,[]⟩ (ps.zip (us++ds))
theorem Binds.all{K:aK}{fd:av}{ps:List Str}(h:∀us:List af,us.length=ps.length->bindArgs fd ⟨us,[]⟩=pure (ps.zip us)):Binds K fd ps []:=λs us _ hl=>by
 rw[nt]at hl ⊢;exact .of_eq (h us hl)
noncomputable def DV(CX:pC)(X:Cx)(E:XK):Prop:=∀(pins:List (ai×Obj)) (σ:St) (H:Hp) (s:ah) (e:af) (s':ah),Inv X pins σ H s->CX X.stack H s E e s'->X.xe e s'
section
variable{X:Cx}{CX:pC}{k:Nat}{f C:ai}{fd:av}{ps:List Str}{sp:Sp}{nV:List V}{ds:List af}{E:XK}{x m:Str}{p pos apos:Pos}{e o:aq}{es:List aq}{ta:TE}{t:TA}
theorem MH{pins:List (ai×Obj)}{σ:St}{H:Hp}{s:ah}{Q:VK}{us:List af}{vs:List V}(F:fy X.prog X.w X.K X.mg X.base CX k f fd ps sp)(hr:cQ k X.A)(hb:Binds X.K fd ps ds)(hd:Vals nV ds)(hx:DV CX X E)
 (I:Inv X pins σ H s) (r:Vals vs us) (h:sp (vs++nV) H Q E):wpAny (model X.prog X.w) X.A (call (.ref f) us) (EP X pins σ Q) X.xe s:=by
 have r2:Vals (vs++nV) (us++ds):=r.append hd;have hl:(us++ds).length=ps.length:=by rw[<-r2.length];exact F.len _ _ _ _ h
 refine wpAny_call (codeAny_mono (F.run X.A X.stack s H ⟨us,[]⟩ (us++ds) (vs++nV) Q E hr I.Gv (hb s us I.iV hl) r2 h) λr s' hq=>?_);cases r with
 |error e=>exact hx pins σ H s e s' I hq
 |ok fl=>
  cases fl with|ret u=>exact I.after hq|next=>exact False.elim hq|brk=>exact False.elim hq|cont=>exact False.elim hq
theorem MI(F:fy X.prog X.w X.K X.mg X.base CX k f fd ps sp)(hr:cQ k X.A)(hg:Gl X x)(hm:X.mg x=aC (.ref f))(hk:PySem.W.keepIn X.K (.ref f))(hb:Binds X.K fd ps ds)(hd:Vals nV ds)(hx:DV CX X E)
 (ha:PA X (e::es) t) (hdb:autoParam ((x==("__debug__" : Str))=false) L2.aD1._auto_1) (he:autoParam (starEach (e::es) X.env=(false,eval e X.env)::starEach es X.env) L2.aR1._auto_1) (hpl:autoParam ((backTo pos (starEach es X.env)).any (·.1)=false) L2.aR1._auto_1) :
 PE X (.Call (.Name x p) (e::es) [] pos) (tD sp nV E t):=by
 intro pins s σ H Q I h;refine yM (F4 I hg hm ?_ hdb);refine PySem.W.callWith_K (h₀:=X.base) I.ok.mod.FU hk (aX (ha pos pins s σ H _ I h) λus s1 z9=>z9.el λvs H1 I1 r q=>⟨I1.iV,?_⟩) he hpl;exact MH F hr hb hd hx I1 r q
theorem S7(F:fy X.prog X.w X.K X.mg X.base CX k f fd ps sp)(hr:cQ k X.A)(hg:Gl X x)(hm:X.mg x=aC (.ref f))(hk:PySem.W.keepIn X.K (.ref f))(hb:Binds X.K fd ps ds)(hd:Vals nV ds)(hx:DV CX X E)
 (hdb:autoParam ((x==("__debug__" : Str))=false) L2.aD1._auto_1):PE X (.Call (.Name x p) [] [] pos) (tD sp nV E zQ):=by
 intro pins s σ H Q I h;refine yM (F4 I hg hm ?_ hdb);exact PySem.W.callWith_K0 I.iV hk (MH (us:=[]) F hr hb hd hx I .nil h)
end
structure cV(N P:List Str)(sc:az):Prop where
 kind:sc.kind=.function
 co:sc.isCoroutine=false
 gen:sc.isGenerator=false
 nd:N.Nodup
 pre:N.take P.length=P
 par:∀x∈P,sc.names.lookup x=aC .local\/sc.names.lookup x=aC .cell
 ve:∀y∈sc.names,y.2≠.free
theorem MJ{kindOf:Str->Option NameKind}{x:Str}:∀{binds:List (Str×af)} {m:Str->Option af},(∀v,(x,v)∉binds)->bindL kindOf binds m x=m x
 |[],_,_=>rfl
 |(n,v)::r,m,h=>by
  unfold bindL;rw[MJ λw hw=>h w (ff _ hw)];split;have:x≠n:=by rintro rfl;exact h v fY
  simp[this];rfl
theorem MK{kindOf:Str->Option NameKind}{x:Str}:∀{binds:List (Str×af)} {m:Str->Option af},(∀v,(x,v)∉binds)->bindC kindOf binds m x=m x
 |[],_,_=>rfl
 |(n,v)::r,m,h=>by
  unfold bindC;rw[MK λw hw=>h w (ff _ hw)];split;rfl;have:x≠n:=by rintro rfl;exact h v fY
  simp[this]
theorem ML{kindOf:Str->Option NameKind}{x:Str}{v:af}:∀{P:List Str} {vs:List af} {i:Nat} {m:Str->Option af},P.Nodup->P[i]?=aC x->vs[i]?=aC v->kindOf x=aC .local->
 bindL kindOf (P.zip vs) m x=aC v
 |[],_,_,_,_,h,_,_=>by simp at h
 |_::_,[],_,_,_,_,h,_=>by simp at h
 |p::P,w::vs,0,m,nd,h1,h2,hk=>by
  simp at h1 h2;subst h1;subst h2;show bindL kindOf ((p,w)::P.zip vs) m p=_;unfold bindL;rw[MJ λv hv=>(xB.mp nd).1 (Du hv).1,if_pos hk];simp
 |p::P,w::vs,i+1,m,nd,h1,h2,hk=>by
  show bindL kindOf ((p,w)::P.zip vs) m x=_;unfold bindL;exact ML (i:=i) (xB.mp nd).2 (by simpa using h1) (by simpa using h2) hk
theorem MM{kindOf:Str->Option NameKind}{x:Str}{v:af}:∀{P:List Str} {vs:List af} {i:Nat} {m:Str->Option af},P.Nodup->P[i]?=aC x->vs[i]?=aC v->kindOf x≠aC .local->
 bindC kindOf (P.zip vs) m x=aC v
 |[],_,_,_,_,h,_,_=>by simp at h
 |_::_,[],_,_,_,_,h,_=>by simp at h
 |p::P,w::vs,0,m,nd,h1,h2,hk=>by
  simp at h1 h2;subst h1;subst h2;show bindC kindOf ((p,w)::P.zip vs) m p=_;unfold bindC;rw[MK λv hv=>(xB.mp nd).1 (Du hv).1,if_neg hk];simp
 |p::P,w::vs,i+1,m,nd,h1,h2,hk=>by
  show bindC kindOf ((p,w)::P.zip vs) m x=_;unfold bindC;exact MM (i:=i) (xB.mp nd).2 (by simpa using h1) (by simpa using h2) hk
noncomputable def start(N:List Str)(vs:List V):St:=vs.map aC++bE (N.length-vs.length) aD
noncomputable def jJ(CX:pC)(P:aj)(w:ak)(K:aK)(mg:Str->Option af)(base:aA)(N:List Str)(qual:Str)(scope:az)(f:ai)(cd:af)(A:ao)(outer:List Env)(s:ah)(H:Hp)(E:XK):Cx where
 prog:=P
 w:=w
 K:=K
 mg:=mg
 base:=base
 A:=A.deeper (envOfC qual scope s.heap.objs.size f cd)
 N:=N
 s₀:=s
 H₀:=H
 env:=envOfC qual scope s.heap.objs.size f cd
 outer:=outer
 stack:=envOfC qual scope s.heap.objs.size f cd::outer
 ex:=[]
 calm:=true
 fn:=λ_=>true
 pn:=[]
 xe:=λe s'=>wpAny (model P w) (A.deeper (envOfC qual scope s.heap.objs.size f cd)) (leaving (envOfC qual scope s.heap.objs.size f cd) e) (λ_ s''=>CX outer H s E e s'') (λe' s''=>CX outer H s E e' s'') s'
theorem MN{sc:az}{n:Nat}{x:Str}(h:sc.names.lookup x=aC .cell):∃c,(cellsFrom n sc.names []).lookup x=aC c:=by have q:=PySem.W.cellsFrom_some sc.names n [] (.inl h);exact Option.isSome_iff_exists.mp q
theorem S8{CX:pC}{P:aj}{w:ak}{K:aK}{mg:Str->Option af}{base:aA}{N ps:List Str}{qual:Str}{scope:az}{f:ai}{cd:af}{A:ao}{outer:List Env}{s s1:ah}{H:Hp}{E:XK}{us:List af}{vs:List V}
 (S:cV N ps scope) (hd:A.handled=aD) (e0:qm P w K mg base A outer s H) (hl:vs.length=ps.length) (r:Vals vs us)
 (x:InCallC s s.heap.objs.size (bindL (envOfC qual scope s.heap.objs.size f cd).kindOf (ps.zip us) λ_=>aD) (cellsFrom (s.heap.objs.size+1) scope.names []) (bindC (envOfC qual scope s.heap.objs.size f cd).kindOf (ps.zip us) λ_=>aD) s1) :
 Inv (jJ CX P w K mg base N qual scope f cd A outer s H E) [] (start N vs) H s1:=by
 have hpl:ps.length<=N.length:=by have:=pT List.length S.pre;rw[yW]at this;lia
 obtain⟨h1,tk,rfl,hk⟩:=x.done;have zT:∀b:ai,b∉(jJ CX P w K mg base N qual scope f cd A outer s H E).ex:=λb z=>absurd (show b∈([]:List ai)from z) (by simp);refine⟨⟨e0.mod,S.kind,rfl,rfl,aW _,λy z c h1 h2=>?_,λy hy=>?_,λy c _ h=>?_,λ_=>hd,Around.frames_deeper e0.frames,.inr ⟨rfl,rfl⟩,λb z=>absurd z (zT b),e0.bs,e0.uW,λb _ _=>zT b,λb z=>absurd z (zT b),e0.ia,e0.xM⟩,
  rfl,e0.bare,Un.kept hk,⟨_,x.toInCall.ns,λi y v h1 h2 h3=>?_⟩,λy c h=>⟨_,x.cell y c h⟩,e0.hok.fresh (aW _),λy c h=>?_,λp hp=>absurd (show p∈([]:List (ai×Obj))from hp) (by simp),e0.hok.kept hk,?_⟩
 exact name_of_addr x.apart (yL h1) (yL h2);have hy:scope.names.lookup y=aC .cell\/scope.names.lookup y=aC .free:=hy;rcases hy with hy|hy
 exact MN hy;exact absurd rfl (S.ve _ (yL hy));exact sI (x.above y c (yL h));have hi:i<vs.length:=by unfold start at h2;by_cases hi:i<vs.length;exact hi;rw[nJ (by simpa using hi)]at h2;rw[Dj]at h2;split at h2<;>cases h2
 have ha:vs[i]?=aC v:=by
  unfold start at h2;rw[uN (by simpa using hi),jf]at h2;cases e:vs[i]? with|none=>rw[e]at h2;cases h2|some a=>rw[e]at h2;cases h2;rfl
 obtain⟨u,hu,rv⟩:=r.get ha;have hp:ps[i]?=aC y:=by rw[<-S.pre,List.getElem?_take_of_lt (by lia)];exact h1
 have MO:ps.Nodup:=by rw[<-S.pre];exact S.nd.sublist (List.take_sublist _ _)
 refine⟨u,rv,?_⟩;rcases S.par y (mF hp)with k|k
 exact .inl ⟨k,ML MO hp hu k⟩;obtain⟨c,e⟩:=MN (n:=s.heap.objs.size+1) k;refine .inr ⟨.inl k,c,e,?_⟩;have q:=x.cell y c e;rw[MM MO hp hu (by show scope.names.lookup y≠_;rw[k];decide)]at q;exact q;exact e0.hok.fresh (sI (x.above y c (yL h)));unfold start;show _=N.length;rw[fH,bT,yU];lia
theorem zU{CX:pC}{P:aj}{w:ak}{K:aK}{mg:Str->Option af}{base:aA}{k:Nat}{f:ai}{name qual:Str}{params:Arguments}{body:List au}{scope:az}{dV kV doc pm cdv ct oc:af}{an od:Option ai}
 {osl:Array (Option af)} {N ps:List Str} {sp:Sp} (lk:K.lookup f=aC ⟨oc,od,.func (PySem.W.fnOf name qual params body scope dV kV doc pm an cdv ct),osl⟩) (hcd:PySem.W.codeIn K cdv qual) (S:cV N ps scope)
 (len:∀vs H Q E,sp vs H Q E->vs.length=ps.length)
 (hbody:∀(A:ao)(outer:List Env)(s:ah)(H:Hp)(vs:List V)(Q:VK)(E:XK),cQ k (A.deeper (envOfC qual scope s.heap.objs.size f cdv))->sp vs H Q E->
   ∃t,kB (jJ CX P w K mg base N qual scope f cdv A outer s H E) body t/\t {nx:=λ_ H'=>Q .aL H',rt:=Q} (start N vs) H) :
 fy P w K mg base CX (k+1) f (PySem.W.fnOf name qual params body scope dV kV doc pm an cdv ct) ps sp:=by
 refine⟨len,λA outer s H args us vs Q E hr e0 hb r pD=>?_⟩;have hl:=len _ _ _ _ pD;have KX:K.In s.heap:=e0.mod.FU.keeps λb o e=>(e0.bs b o e).1;have lim:s.heap.NoLimit:=e0.mod.nolimit.keeps λb o e=>(e0.bs b o e).1;have hkind:∀y∈ps.zip us,scope.names.lookup y.1=aC .local\/(scope.names.lookup y.1=aC .cell/\((cellsFrom (s.heap.objs.size+1) scope.names []).lookup y.1).isSome):=λbM hy=>by
  obtain⟨n,v⟩:=bM;rcases S.par n (Du hy).1 with q|q;exact .inl q;exact .inr ⟨q,PySem.W.cellsFrom_some _ _ _ (.inl q)⟩
 refine codeAny_call_function hr.depth (KX _ _ lk) rfl S.co S.gen rfl (PySem.W.codeRec_of KX hcd) (hb _ _ _ _ ?_);refine wpAny_newFunctionEnv_cells S.kind hkind λenv he s1 x=>?_;subst he;refine⟨lim.keeps x.toInCall.keep,codeAny_func ?_⟩;obtain⟨t,ht,hq⟩:=hbody A outer s H vs Q E (hr.deeper _) pD;have I:Inv (jJ CX P w K mg base N qual scope f cdv A outer s H E) [] (start N vs) H s1:=S8 S hr.hd e0 hl r x;refine gH (ht [] s1 (start N vs) H _ I hq) (λfl s' hs=>?_) λe s' hs=>hs;have fin:∀{σ':St}{H':Hp}{v:V}{u:af},Inv (jJ CX P w K mg base N qual scope f cdv A outer s H E) [] σ' H' s'->RelV v u->Q v H'->CE outer P w H s Q u s':=
  λ{σ' H' v u} J rv q=>⟨v,H',J.os,J.bare,J.base,J.hok,rv,q⟩
 cases fl with
 |ret u=>
  obtain⟨v,σ',H',J,rv,q⟩:=hs;exact fin J rv q
 |next=>
  obtain⟨σ',H',J,q⟩:=hs;exact fin (v:=V.aL) (u:=Value.none) J rfl q
 |brk=>
  obtain⟨_,_,_,q⟩:=hs;exact False.elim q
 |cont=>
  obtain⟨_,_,_,q⟩:=hs;exact False.elim q
section
variable{X:Cx}{x:Str}{p pos:Pos}{e:aq}{es:List aq}{t:TA}{id T:String}{r:List V->Hp->VK->Prop}
noncomputable def MP(r:List V->Hp->VK->Prop)(t:TA):TE:=λσ H Q=>t σ H λvs H1=>r vs H1 Q
theorem MQ(hc:bO X (.builtin id) r)(hg:Gl X x)(hm:X.mg x=aD)(hv:bootBuiltins x=aC (.builtin id))(ha:PA X (e::es) t)(hn:autoParam (x≠"__name__") L2.aD1._auto_1)(hdb:autoParam ((x==("__debug__" : Str))=false) L2.aD1._auto_1)
 (he:autoParam (starEach (e::es) X.env=(false,eval e X.env)::starEach es X.env) L2.aR1._auto_1) (hpl:autoParam ((backTo pos (starEach es X.env)).any (·.1)=false) L2.aR1._auto_1):PE X (.Call (.Name x p) (e::es) [] pos) (MP r t):=by
 intro pins s σ H Q I h;refine yM (nT I hg hm hv ?_ hn hdb);exact PyProof.Rows.callWith_builtin1 (aX (ha pos pins s σ H _ I h) λus s1 z9=>z9.el λvs H1 I1 r1 q1=>hc pins s1 σ H1 vs us Q I1 r1 q1) he hpl
theorem S9(hc:bO X (.type T) r)(hg:Gl X x)(hm:X.mg x=aD)(hv:bootBuiltins x=aC (.type T))(ha:PA X (e::es) t)(hn:autoParam (x≠"__name__") L2.aD1._auto_1)(hdb:autoParam ((x==("__debug__" : Str))=false) L2.aD1._auto_1)
 (he:autoParam (starEach (e::es) X.env=(false,eval e X.env)::starEach es X.env) L2.aR1._auto_1) (hpl:autoParam ((backTo pos (starEach es X.env)).any (·.1)=false) L2.aR1._auto_1):PE X (.Call (.Name x p) (e::es) [] pos) (MP r t):=by
 intro pins s σ H Q I h;refine yM (nT I hg hm hv ?_ hn hdb);exact sQ (aX (ha pos pins s σ H _ I h) λus s1 z9=>z9.el λvs H1 I1 r1 q1=>hc pins s1 σ H1 vs us Q I1 r1 q1) he hpl
end
end L2
namespace HT
open PySem PyProof.Rows
theorem nW(A:ao)(s:ah)(a:Int)(t:Tok)(c:Int)(u:Tok)(prog:aj)(w:ak)(E:af->ah->Prop)(Q:af->ah->Prop)(h:Q (.bool (decide (a<c))) s) :
 wpAny (model prog w) A (richCompare .Lt (.int a t) (.int c u)) Q E s:=
 (PyProof.Rows.lt_int h:wpAny (model prog w) A (compareOp .Lt (.int a t) (.int c u)) Q E s)
section
variable{prog:aj}{w:ak}{A:ao}{E:af->ah->Prop}{s:ah}
theorem qo{t b:ai}{vs ws:List af}{Q:af->ah->Prop}(ht:IsTup s.heap t vs.toArray)(hb:IsTup s.heap b ws.toArray)(hv:vs≠[])
 (h1:ws=[]->Q (.ref t) s) (h2:ws≠[]->Q (.ref s.heap.objs.size) {s with heap:=s.heap.push {cls:=.type "tuple",data:=.seq (vs++ws).toArray}})
 (hsz:vs.length+ws.length<=sizeLine):wpAny (model prog w) A (binaryOp .Add (.ref t) (.ref b)) Q E s:=by
 obtain⟨⟨cls,dd,data,sl⟩,ho,hc,n,hd⟩:=id ht;obtain⟨⟨zV,dd2,data2,sl2⟩,ho2,hc2,n2,hd2⟩:=id hb;simp only at hc hd hc2 hd2;subst hc hd hc2 hd2;have e:vs.toArray++ws.toArray=(vs++ws).toArray:=by simp
 by_cases hw:ws=[]
 exact concat_meets ⟨_,ho,rfl⟩ ⟨_,ho2,rfl⟩ yN yQ zb za (y9 _ _)
  (tuple_addW1 t b vs.toArray ws.toArray n n2 dd dd2 sl sl2 (by simpa using hv) (by simp[hw])) ⟨ho,ho2,h1 hw⟩
 refine concat_meets ⟨_,ho,rfl⟩ ⟨_,ho2,rfl⟩ yN yQ zb za (y9 _ _)
  (tuple_addW2 t b vs.toArray ws.toArray n n2 dd dd2 sl sl2 (by simpa using hv) (by simpa using hw) (by rw[di,di];exact hsz)) ⟨ho,ho2,?_⟩
 rw[e];exact h2 hw
noncomputable def bJ(n d:Nat):Option Int->Nat|none=>d|some v=>if v<0 then(v+ (n:Int)).toNat else min v.toNat n
theorem Tc(n d:Nat)(hd:d<=n)(o:Option Int):bJ n d o<=n:=by
 cases o with
 |none=>exact hd
 |some v=>
  show(if v<0 then(v+ (n:Int)).toNat else min v.toNat n)<=n;by_cases hv:v<0;rw[if_pos hv];lia;rw[if_neg hv];exact Nat.min_le_right _ _
theorem MR(v:Int)(n d:Nat):(if v<0 then max (v+ (n:Int)) 0 else min v (n:Int))=((bJ n d (aC v):Nat):Int):=by
 show(if v<0 then max (v+ (n:Int)) 0 else min v (n:Int))=(((if v<0 then(v+ (n:Int)).toNat else min v.toNat n):Nat):Int)
 by_cases hv:v<0;simp only[if_pos hv];lia;simp only[if_neg hv];lia
theorem Td(lo hi:Option Int)(n:Nat):Builtin.Slice.sliceAdjust lo hi 1 (n:Int)=(((bJ n 0 lo:Nat):Int),((bJ n n hi:Nat):Int)):=by
 have h1:¬((1:Int)<0):=by lia
 unfold Builtin.Slice.sliceAdjust;simp only[h1,cG];refine Prod.ext ?_ ?_;cases lo with|none=>rfl|some v=>exact MR v n 0
 cases hi with|none=>rfl|some v=>exact MR v n n
theorem Te(i j:Nat):Builtin.Slice.slicePlaces (i:Int) (j:Int) 1=j-i:=by
 unfold Builtin.Slice.slicePlaces;have h1:(1:Int)>0:=by lia
 simp only[h1,bQ,Int.ediv_one];split<;>lia
theorem Gw{v:af}{o:Option Int}{Q:Option Int->ah->Prop}(p:IsPart v o)(h:Q o s):wpAny (model prog w) A (Builtin.Slice.slicePartIndex v) Q E s:=by
 cases p with|none=>exact Dy h|int i t=>exact slicePart_int h
theorem MS{sl:ai}{vl vu:af}{lo hi:Option Int}{n:Nat}{Q:Int×Int×Nat->ah->Prop}(hs:s.heap.IsSliceOf sl vl vu .none)(pl:IsPart vl lo)(pu:IsPart vu hi)
 (h:Q (((bJ n 0 lo:Nat):Int),1,bJ n n hi-bJ n 0 lo) s):wpAny (model prog w) A (Builtin.Slice.sliceApplied (.ref sl) (pure (n:Int))) Q E s:=by
 obtain⟨os,hos,hcs,hds⟩:=id hs;unfold Builtin.Slice.sliceApplied Builtin.Slice.sliceFields;refine aG (aG (gX hos hds (x:=vl) rfl (aG (gX hos hds (x:=vu) rfl (aG (gX hos hds (x:=.none) rfl (aQ ?_)))))));refine aG (Dy ?_);show wpAny _ _ (if((1:Int)==0)=true then _ else _) _ _ s;rw[if_neg (by decide)];refine aG (Gw pl (aG (Gw pu (aG (aQ ?_)))));show wpAny _ _ (match Builtin.Slice.sliceAdjust lo hi 1 (n:Int)with|(lo,hi)=>pure (lo,(1:Int),Builtin.Slice.slicePlaces lo hi 1)) _ _ s;rw[Td lo hi n];show wpAny _ _ (pure (((bJ n 0 lo:Nat):Int),(1:Int),Builtin.Slice.slicePlaces ((bJ n 0 lo:Nat):Int) ((bJ n n hi:Nat):Int) 1)) _ _ s;rw[Te];exact aQ h
theorem Tf(xs:Array af)(i k:Nat):((List.range k).filterMap λ(m:Nat)=>xs[((i:Int)+ (m:Int)*1).toNat]?).toArray=((xs.toList.drop i).take k).toArray:=by
 have e:(λ(m:Nat)=>xs[((i:Int)+ (m:Int)*1).toNat]?)=λm=>xs[i+m]?:=by
  funext m;have:((i:Int)+ (m:Int)*1).toNat=i+m:=by lia
  rw[this]
 rw[e];have:=pick_run xs i k;rw[List.filterMap_map]at this;have e2:((λx=>xs[x]?)∘λx=>i+x)=λm=>xs[i+m]?:=rfl;rw[e2]at this;rw[this]
theorem fK{t sl:ai}{items:Array af}{vl vu:af}{lo hi:Option Int}{Q:af->ah->Prop}(ht:IsTup s.heap t items)(hs:s.heap.IsSliceOf sl vl vu .none)(pl:IsPart vl lo)(pu:IsPart vu hi)
 (hw:¬(bJ items.size 0 lo=0/\bJ items.size items.size hi=items.size))
 (h:Q (.ref s.heap.objs.size) {s with heap:=s.heap.push {cls:=.type "tuple",data:=.seq ((items.toList.drop (bJ items.size 0 lo)).take (bJ items.size items.size hi-bJ items.size 0 lo)).toArray}})
 (hsz:items.size<=sizeLine):wpAny (model prog w) A (getItem (.ref t) (.ref sl)) Q E s:=by
 have lE:sizeOk (.seq ((items.toList.drop (bJ items.size 0 lo)).take (bJ items.size items.size hi-bJ items.size 0 lo)).toArray):=by show((items.toList.drop (bJ items.size 0 lo)).take (bJ items.size items.size hi-bJ items.size 0 lo)).toArray.size<=sizeLine;rw[di,yW,List.length_drop,sU];lia
 have hj:bJ items.size items.size hi<=items.size:=Tc _ _ (aW _) hi;obtain⟨os,hos,hcs,hds⟩:=id hs;have zW:s.TypeIs (.ref sl) "slice":=⟨os,hos,hcs⟩
 unfold getItem
 try with_reducible refine kL ?_
 first|refine aG (aQ ?_)|skip
 refine aG (wpAny_sequenceKey ht.typeIs (by decide) ?_);refine aG (nC (name:=Str.ofString "__getitem__") ht.typeIs qe
  (kK qe ht.typeIs entry_tuple_getitem ?_ (args_tuple_getitem _ _)))
 show wpAny _ _ (Builtin.Tuple.tupleItemsOf (.ref t) >>= _) _ _ s;refine aG (tupleItemsOf_ ht ?_);refine aG (xj zW ?_);rw[if_pos (by decide)];refine aG (MS hs pl pu ?_);have hno:¬((((bJ items.size 0 lo:Nat):Int)==0&& (1:Int)==1&& (bJ items.size items.size hi-bJ items.size 0 lo)==items.size)):=by intro q;rw[bD,bD]at q;have q1:((bJ items.size 0 lo:Nat):Int)=0:=ze q.1.1;have q2:bJ items.size items.size hi-bJ items.size 0 lo=items.size:=ze q.2;exact hw ⟨by lia,by lia⟩
 show wpAny _ _ (if(((bJ items.size 0 lo:Nat):Int)==0&& (1:Int)==1&& (bJ items.size items.size hi-bJ items.size 0 lo)==items.size)=true then _ else _) _ _ s;rw[if_neg hno,Tf];first
  |exact aG (m:=Builtin.Tuple.tupleExact _) (ju (aQ ⟨_,rfl,aQ h⟩) lE)
  |exact aG (m:=Builtin.Tuple.tupleExact _) (ju (aG (aQ (aQ ⟨_,rfl,aQ h⟩))) lE)
  |exact aG (aG (m:=Builtin.Tuple.tupleExact _) (ju (aQ (aQ ⟨_,rfl,aQ h⟩)) lE))
  |exact aG (aG (m:=Builtin.Tuple.tupleExact _) (ju (aQ ⟨_,rfl,aQ h⟩) lE))
end
end HT
namespace L2
open PySem PySem.Spec PyProof.Rows
noncomputable abbrev TO:=St->Hp->(Option Int->Hp->Prop)->Prop
noncomputable def PO(X:Cx)(e:Option aq)(t:TO):Prop:=
 ∀(pins:List (ai×Obj))(s:ah)(σ:St)(H:Hp)(Q:Option Int->Hp->Prop),Inv X pins σ H s->t σ H Q->
  wpAny (model X.prog X.w) X.A (evalPart e X.env) (λu s'=>∃o H',Inv X pins σ H' s'/\IsPart u o/\Q o H') X.xe s
noncomputable def Th:TO:=λ_ H Q=>Q aD H
noncomputable def zX(t:TE):TO:=λσ H Q=>t σ H λx H1=>∃i,x=.int i/\Q (aC i) H1
section
variable{X:Cx}{e:aq}{te:TE}{lo hi:Option aq}{tl th:TO}{pos p2:Pos}
theorem Ti:PO X aD Th:=by intro pins s σ H Q I h;rw[evalPart_none];exact aQ ⟨aD,H,I,.none,h⟩
theorem Tj(h:PE X e te):PO X (aC e) (zX te):=by intro pins s σ H Q I hw;rw[evalPart_some];refine aX (h pins s σ H _ I hw) λu s1 z9=>z9.el λx H1 I1 r1 q1=>?_;obtain⟨i,rfl,q⟩:=q1;obtain⟨t,rfl⟩:=r1;exact⟨aC i,H1,I1,.int i t,q⟩
noncomputable def qp(X:Cx)(r:V->Option Int->Option Int->Hp->VK->Prop):Prop:=
 ∀(pins:List (ai×Obj))(s:ah)(σ:St)(H:Hp)(x:V)(v vl vu:af)(lo hi:Option Int)(sl:ai)(Q:VK),Inv X pins σ H s->RelV x v->s.heap.IsSliceOf sl vl vu .none->IsPart vl lo->IsPart vu hi->r x lo hi H Q->
  ∃T id,typeLookup (.type T) "__getitem__" = pure (aC (.builtin id))/\s.TypeIs v T/\wpAny (model X.prog X.w) X.A (getItem v (.ref sl)) (EP X pins σ Q) X.xe s
theorem qp.or{r r':V->Option Int->Option Int->Hp->VK->Prop}(h:qp X r)(h':qp X r'):qp X (λx lo hi H Q=>r x lo hi H Q\/r' x lo hi H Q):=by
 intro pins s σ H x v vl vu lo hi sl Q I rx hs pl pu q;rcases q with q|q
 exact h pins s σ H x v vl vu lo hi sl Q I rx hs pl pu q;exact h' pins s σ H x v vl vu lo hi sl Q I rx hs pl pu q
noncomputable def Tn(r:V->Option Int->Option Int->Hp->VK->Prop)(te:TE)(tl th:TO):TE:=λσ H Q=>te σ H λx H1=>tl σ H1 λl H2=>th σ H2 λu H3=>r x l u H3 Q
theorem To{r:V->Option Int->Option Int->Hp->VK->Prop}(hr:qp X r)(he:PE X e te)(hl:PO X lo tl)(hu:PO X hi th):PE X (.Subscript e (.Slice lo hi aD p2) pos) (Tn r te tl th):=by intro pins s σ H Q I h;refine Subscript_ (aX (he pins s σ H _ I h) λv s1 z9=>z9.el λx H1 I1 r1 q1=>?_);refine wpAny_Slice (aX (hl pins s1 σ H1 _ I1 q1) λvl s2 ⟨l,H2,I2,pl,q2⟩=>aX (hu pins s2 σ H2 _ I2 q2) λvu s3 bM=>?_);obtain⟨u,H3,I3,pu,q3⟩:=bM;rw[evalPart_none];refine aQ ?_;have I4:Inv X pins σ H3 {s3 with heap:=s3.heap.push {cls:=.type "slice",data:=.fields #[vl,vu,.none]}}:=I3.kept (t':=s3.toks) λb ob q=>b9 _ q;obtain⟨T,id,hT,ht,hg⟩:=hr pins {s3 with heap:=s3.heap.push {cls:=.type "slice",data:=.fields #[vl,vu,.none]}} σ H3 x v vl vu l u s3.heap.objs.size Q I4 r1 (Heap.IsSliceOf.new ..) pl pu q3;show wpAny (model X.prog X.w) X.A (subscriptTail e (.Slice lo hi aD p2) v (.ref s3.heap.objs.size)) (EP X pins σ Q) X.xe {s3 with heap:=s3.heap.push {cls:=.type "slice",data:=.fields #[vl,vu,.none]}};exact tail_any (ops:=[.ref s3.heap.objs.size,v]) ht hT hg (by with_unfolding_all rfl)
noncomputable def jK(xs:List V)(lo hi:Option Int):List V:=(xs.drop (HT.bJ xs.length 0 lo)).take (HT.bJ xs.length xs.length hi-HT.bJ xs.length 0 lo)
theorem MT(xs:List V)(lo hi:Option Int):(jK xs lo hi).length<=xs.length:=by unfold jK;rw[yW,List.length_drop];lia
noncomputable def zY(K:aK):V->Option Int->Option Int->Hp->VK->Prop:=λx lo hi H Q=>∃a xs,x=.ref a/\bU K H a xs/\
 ¬(HT.bJ xs.length 0 lo=0/\HT.bJ xs.length xs.length hi=xs.length)/\∀p,H p=aD->Q (.ref p) (upd H p (.tup (jK xs lo hi)))
theorem Tp:qp X (zY X.K):=by
 intro pins s σ H x v vl vu lo hi sl Q I rx hs pl pu h;obtain⟨a,xs,rfl,hx,hw,q⟩:=h;cases rx;obtain⟨its,r,ht,hz⟩:=I.tuple hx;have hlen:its.toArray.size=xs.length:=by rw[di];exact r.length.symm
 refine⟨"tuple",_,qe.lookup,ht.typeIs,?_⟩;refine HT.fK ht hs pl pu (by rw[hlen];exact hw) ?_ (by rw[hlen];exact hz);rw[hlen];refine⟨.ref s.heap.objs.size,_,I.laid (t':=s.toks) (o:=.tup (jK xs lo hi)) (λb ob q=>b9 _ q) (aW _) ?_,rfl,q _ (I.hok.fresh (aW _))⟩;exact⟨gY (MT xs lo hi) hz,_,(r.drop (HT.bJ xs.length 0 lo)).take (HT.bJ xs.length xs.length hi-HT.bJ xs.length 0 lo),jF.new _ _⟩
noncomputable def lF(K:aK):R2:=λx y H Q=>∃a b xs ys,x=.ref a/\y=.ref b/\bU K H a xs/\bU K H b ys/\xs≠[]/\xs.length+ys.length<=sizeLine/\
 (ys=[]->Q (.ref a) H)/\(ys≠[]->∀p,H p=aD->Q (.ref p) (upd H p (.tup (xs++ys))))
theorem Vals.eT{xs:List V}{us:List af}(r:Vals xs us):us=[]↔xs=[]:=by
 cases r with|nil=>simp|cons _ _=>simp
theorem Tq:cH X (binaryOp .Add) (lF X.K):=by intro pins s σ H x y v u Q I rx ry h;obtain⟨a,b,xs,ys,rfl,rfl,ha,hb,hx,hz,q1,q2⟩:=h;cases rx;cases ry;obtain⟨its,r1,p1,_⟩:=I.tuple ha;obtain⟨its2,r2,p2,_⟩:=I.tuple hb;refine HT.qo p1 p2 (λz=>hx (r1.eT.mp z)) (λz=>⟨.ref a,H,I,rfl,q1 (r2.eT.mp z)⟩) (λz=>?_) (by rw[<-r1.length,<-r2.length];exact hz);refine⟨.ref s.heap.objs.size,_,I.laid (t':=s.toks) (o:=.tup (xs++ys)) (λb ob q=>b9 _ q) (aW _) ?_,rfl,q2 (λw=>z (r2.eT.mpr w)) _ (I.hok.fresh (aW _))⟩;exact⟨by rw[fH];exact hz,_,r1.append r2,jF.new _ _⟩
end
noncomputable def iN(n:Nat)(i:Int):Option Nat:=if 0<=i then(if i<n then aC i.toNat else aD)else if -(n:Int)<=i then aC (i+n).toNat else aD
noncomputable def dH{α:Type}(xs:List α)(i:Int):Option α:=(iN xs.length i).bind λj=>xs[j]?
theorem MU{n:Nat}{i:Int}{j:Nat}(h:iN n i=aC j):seqIndex? i n=aC j/\j<n/\-(n:Int)<=i/\i<n:=by unfold iN at h;by_cases h0:0<=i;rw[if_pos h0]at h;by_cases h1:i<n;rw[if_pos h1]at h;have e:i.toNat=j:=lA h;exact⟨by rw[De h0 h1,e],by lia,by lia,h1⟩;rw[if_neg h1]at h;cases h;rw[if_neg h0]at h;by_cases h1:-(n:Int)<=i;rw[if_pos h1]at h;have e:(i+n).toNat=j:=lA h;exact⟨by rw[seqIndex_neg (by lia) h1,e],by lia,h1,by lia⟩;rw[if_neg h1]at h;cases h
theorem MV{α:Type}{xs:List α}{i:Int}{v:α}(h:dH xs i=aC v):∃j,seqIndex? i xs.length=aC j/\xs[j]?=aC v/\j<xs.length/\-(xs.length:Int)<=i/\i<xs.length:=by
 unfold dH at h;cases e:iN xs.length i with
 |none=>rw[e]at h;cases h
 |some j=>
  rw[e]at h;obtain⟨h1,h2,h3,h4⟩:=MU e;exact⟨j,h1,h,h2,h3,h4⟩
theorem xR{α:Type}{xs:List α}{j:Nat}{v:α}(h:xs[j]?=aC v):dH xs (j:Int)=aC v:=by
 have hj:j<xs.length:=(jx.mp h).1;have e:iN xs.length (j:Int)=aC j:=by unfold iN;rw[if_pos (by lia),if_pos (by lia)];simp
 unfold dH;rw[e];exact h
noncomputable def Gx(b:aq):Prop:=∀o i,subscripted b false o i=operate [o,i] (getItem o i)
noncomputable def pF(X:Cx)(r:R2):Prop:=
 ∀(value slice:aq)(pins:List (ai×Obj))(s:ah)(σ:St)(H:Hp)(x y:V)(v u:af)(Q:VK),Inv X pins σ H s->RelV x v->RelV y u->r x y H Q->
  subscripted slice false v u=operate [v,u] (getItem v u)->wpAny (model X.prog X.w) X.A (subscriptTail value slice v u) (EP X pins σ Q) X.xe s
noncomputable def MW(X:Cx)(id:String)(r:V->List V->Hp->VK->Prop):Prop:=
 ∀(pins:List (ai×Obj))(s:ah)(σ:St)(H:Hp)(x:V)(xs:List V)(v:af)(us:List af)(Q:VK),Inv X pins σ H s->RelV x v->Vals xs us->r x xs H Q->
  wpAny (model X.prog X.w) X.A (call (.builtin id) (v::us)) (EP X pins σ Q) X.xe s
section
variable{X:Cx}{a b:aq}{ta tb:TE}{pos:Pos}
theorem pF.or{r r':R2}(h:pF X r)(h':pF X r'):pF X (λx y H Q=>r x y H Q\/r' x y H Q):=by
 intro value slice pins s σ H x y v u Q I rx ry q hs;rcases q with q|q
 exact h value slice pins s σ H x y v u Q I rx ry q hs;exact h' value slice pins s σ H x y v u Q I rx ry q hs
theorem zZ{r:R2}(hr:pF X r)(ha:PE X a ta)(hb:PE X b tb)(hs:Gx b):PE X (.Subscript a b pos) (DR r ta tb):=by intro pins s σ H Q I h;exact Subscript_ (u6 ha hb I h λv u s2 x y H2 I2 rx ry q=>hr a b pins s2 σ H2 x y v u Q I2 rx ry q (hs _ _))
noncomputable def z0(K:aK):R2:=λx y H Q=>∃p xs i v,x=.ref p/\y=.int i/\cC K H p xs/\dH xs i=aC v/\Q v H
noncomputable def Aa(K:aK):R2:=λx y H Q=>∃p xs i v,x=.ref p/\y=.int i/\bU K H p xs/\dH xs i=aC v/\Q v H
theorem Tr:pF X (z0 X.K):=by
 intro value slice pins s σ H x y v u Q I rx ry h hs;obtain⟨p,xs,i,z,rfl,rfl,hq,he,q⟩:=h;cases rx;obtain⟨t,rfl⟩:=ry;obtain⟨its,r,pl,hz⟩:=I.list hq;obtain⟨j,h1,h2,h3,h4,h5⟩:=MV he;obtain⟨w,ew,rw'⟩:=r.get h2;have hl:=r.length;have hn:=xQ;have fin:EP X pins σ Q w s:=⟨z,H,I,rw',q⟩
 by_cases h0:0<=i;have hj:i.toNat=j:=by rw[De h0 h5]at h1;exact lA h1
 exact item_listR pl.isList h0 (by lia) (by rw[hj];simpa using ew) fin hs;have hj:(i+ (its.toArray.size:Int)).toNat=j:=by rw[seqIndex_neg (by lia) h4]at h1;rw[di,<-hl];exact lA h1
 exact subscriptTail_builtinR (x:=w) pl.isList.typeIs slot_list_getitem.lookup
  (wpAny_getItem_list_neg (Q:=λr s'=>r=w/\EP X pins σ Q r s') pl.isList (by lia) (by rw[di]<;>lia) (by lia) (by rw[hj];simpa using ew) ⟨rfl,fin⟩) hs
theorem Tt:pF X (Aa X.K):=by
 intro value slice pins s σ H x y v u Q I rx ry h hs;obtain⟨p,xs,i,z,rfl,rfl,hq,he,q⟩:=h;cases rx;obtain⟨t,rfl⟩:=ry;obtain⟨its,r,pl,hz⟩:=I.tuple hq;obtain⟨j,h1,h2,h3,h4,h5⟩:=MV he;obtain⟨w,ew,rw'⟩:=r.get h2;have hl:=r.length;have hn:=xQ;have fin:EP X pins σ Q w s:=⟨z,H,I,rw',q⟩
 exact subscriptTail_builtinR (x:=w) pl.typeIs slot_tuple_getitem.lookup
  (getItem_tuple (j:=j) (Q:=λr s'=>r=w/\EP X pins σ Q r s') pl (by lia) (by lia) (by rw[di,<-hl];exact h1) (by simpa using ew) ⟨rfl,fin⟩) hs
theorem Tu(its:List af)(n j:Nat)(u:af):Obj.mapSeq (·.setIfInBounds j u) {cls:=.type "list",data:=.seq its.toArray n} ={cls:=.type "list",data:=.seq (its.set j u).toArray n}:=by simp[Obj.mapSeq]
theorem Inv.lst{pins:List (ai×Obj)}{σ:St}{H:Hp}{s:ah}{p:ai}{xs:List V}(I:Inv X pins σ H s)(h:H p=aC (.lst xs)) :
 ∃(its:List af) (n:Nat),Vals xs its/\s.heap.get? p=aC {cls:=.type "list",data:=.seq its.toArray n}/\xs.length<=sizeLine:=by
 obtain⟨z,its,n,r,e⟩:=I.hok p _ h;exact⟨its,n,r,e,z⟩
theorem Inv.vf{pins:List (ai×Obj)}{σ:St}{H:Hp}{s:ah}{p:ai}{xs ys:List V}{its its':List af}{n n':Nat}{f:Obj->Obj}(I:Inv X pins σ H s)(h:H p=aC (.lst xs))
 (ho:s.heap.get? p=aC {cls:=.type "list",data:=.seq its.toArray n}) (hf:f {cls:=.type "list",data:=.seq its.toArray n} ={cls:=.type "list",data:=.seq its'.toArray n'}) (r:Vals ys its') (hz:ys.length<=sizeLine) (t:Nat) :
 Inv X pins σ (upd H p (.lst ys)) {s with heap:=s.heap.update p f,toks:=t}:=by
 have e:(s.heap.update p f).get? p=aC {cls:=.type "list",data:=.seq its'.toArray n'}:=by rw[sH f ho (by rw[hf]<;>rfl),hf]
 refine I.write (x:=p) (e:=p) (by rw[h];trivial) (.inl rfl) (λb u hb q=>(uL _ _ (eL hb)).trans q) ⟨_,e⟩ ?_;exact⟨hz,its',n',r,e⟩
noncomputable def Ab:V->V->V->Hp->(Hp->Prop)->Prop:=λo i v H Q=>∃p xs k j,o=.ref p/\i=.int k/\H p=aC (.lst xs)/\iN xs.length k=aC j/\Q (upd H p (.lst (xs.set j v)))
theorem Tv:jH X Ab:=by
 intro pins s σ H o i v ov iv u Q I ro ri rv h;obtain⟨p,xs,k,j,rfl,rfl,hp,hj,q⟩:=h;cases ro;obtain⟨t,rfl⟩:=ri;obtain⟨its,n,r,ho,hz⟩:=I.lst hp;obtain⟨h1,h2,h3,h4⟩:=MU hj;have hl:=r.length;have hn:=xQ;have I':Inv X pins σ (upd H p (.lst (xs.set j v))) {s with heap:=s.heap.update p (Obj.mapSeq (·.setIfInBounds j u))}:=
  I.vf hp ho (Tu its n j u) (r.set rv j) (by rw[xC];exact hz) s.toks
 by_cases h0:0<=k;have hk:k.toNat=j:=by rw[De h0 h4]at h1;exact lA h1
 exact PySem.W.ki_setAt ho h0 (by lia) (by rw[di,<-hl];exact h4) (by rw[hk];exact⟨_,I',q⟩);have hk:(k+ (its.toArray.size:Int)).toNat=j:=by rw[seqIndex_neg (by lia) h3]at h1;rw[di,<-hl];exact lA h1
 exact PySem.W.ki_setBack ho (by lia) (by rw[di,<-hl];exact h3) (by lia) (by rw[hk];exact⟨_,I',q⟩)
theorem Tw(lo hi:Option Int)(n:Nat):(sliceBounds lo hi aD n).1=((HT.bJ n 0 lo:Nat):Int)/\(sliceBounds lo hi aD n).2.1=((HT.bJ n n hi:Nat):Int)/\(sliceBounds lo hi aD n).2.2=1:=by
 refine⟨?_,?_,rfl⟩;cases lo with
 |none=>simp[sliceBounds,HT.bJ]
 |some i=>
  simp only[sliceBounds,HT.bJ,Option.getD_none,show(1:Int)>0 by decide,bQ];by_cases h:i<0;simp only[h,bQ]<;>lia;simp only[h,cG]<;>lia
 cases hi with
 |none=>simp[sliceBounds,HT.bJ]
 |some i=>
  simp only[sliceBounds,HT.bJ,Option.getD_none,show(1:Int)>0 by decide,bQ];by_cases h:i<0;simp only[h,bQ]<;>lia;simp only[h,cG]<;>lia
theorem Tz(its:List af)(lo hi:Option Int):slicePick its.toArray lo hi aD=((its.drop (HT.bJ its.length 0 lo)).take (HT.bJ its.length its.length hi-HT.bJ its.length 0 lo)).toArray:=by obtain⟨h1,h2,h3⟩:=Tw lo hi its.toArray.size;unfold slicePick;rw[h1,h2,h3];simp only[sliceRange_one,pick_run,di]<;>rfl
noncomputable def Ac(K:aK):V->Option Int->Option Int->Hp->VK->Prop:=λx lo hi H Q=>∃a xs,x=.ref a/\cC K H a xs/\∀p,H p=aD->Q (.ref p) (upd H p (.lst (jK xs lo hi)))
theorem TF:qp X (Ac X.K):=by intro pins s σ H x v vl vu lo hi sl Q I rx hs pl pu h;obtain⟨a,xs,rfl,hx,q⟩:=h;cases rx;obtain⟨its,r,ht,hz⟩:=I.list hx;have hlen:=r.length;refine⟨"list",_,slot_list_getitem.lookup,ht.isList.typeIs,?_⟩;refine wpAny_getItem_list_slice ht.isList hs pl pu .none (by simp) ?_ (by rw[di]<;>lia);rw[Tz,<-hlen];refine⟨.ref s.heap.objs.size,_,I.laid (t':=s.toks) (o:=.lst (jK xs lo hi)) (λb ob q=>b9 _ q) (aW _) ?_,rfl,q _ (I.hok.fresh (aW _))⟩;exact⟨gY (MT xs lo hi) hz,_,0,(r.drop (HT.bJ xs.length 0 lo)).take (HT.bJ xs.length xs.length hi-HT.bJ xs.length 0 lo),fG _ rfl⟩
theorem TH:bO X (.builtin "len") (λxs H Q=>∃p ys,xs=[.ref p]/\(cC X.K H p ys\/bU X.K H p ys)/\Q (.int ys.length) H):=by
 intro pins s σ H xs us Q I r h;obtain⟨p,ys,rfl,hq,q⟩:=h;obtain⟨u,rfl,rx⟩:=vals1 r;cases rx;have hn:=xQ;rcases hq with hq|hq
 obtain⟨its,r',pl,hz⟩:=I.list hq;have hlen:=r'.length;exact Calls.call_len_list pl.isList (by simp only[di]<;>lia) ⟨.int ys.length,H,I.tok _,⟨s.toks+1,by rw[di,hlen]⟩,q⟩;obtain⟨its,r',pl,hz⟩:=I.tuple hq;have hlen:=r'.length;exact len_tuple pl (by simp only[di]<;>lia) ⟨.int ys.length,H,I.tok _,⟨s.toks+1,by rw[di,hlen]⟩,q⟩
theorem bO.or{f:af}{r r':List V->Hp->VK->Prop}(h:bO X f r)(h':bO X f r'):bO X f (λxs H Q=>r xs H Q\/r' xs H Q):=by
 intro pins s σ H xs us Q I rs q;rcases q with q|q
 exact h pins s σ H xs us Q I rs q;exact h' pins s σ H xs us Q I rs q
theorem TJ:bO X (.type "list") (λxs H Q=>∃p ys,xs=[.ref p]/\(cC X.K H p ys\/bU X.K H p ys)/\∀l,H l=aD->Q (.ref l) (upd H l (.lst ys))):=by
 intro pins s σ H xs us Q I r h;obtain⟨p,ys,rfl,hq,q⟩:=h;obtain⟨u,rfl,rx⟩:=vals1 r;cases rx;have fin:∀(its:List af),Vals ys its->ys.length<=sizeLine->∀(h':aA)(c':Nat),(∀b o',s.heap.get? b=aC o'->h'.get? b=aC o')->
  h'.get? s.heap.objs.size=aC {cls:=.type "list",dict:=aD,data:=.seq its.toArray c',slots:=#[]}->EP X pins σ Q (.ref s.heap.objs.size) {s with heap:=h'}:=λits r' hz h' c' kp e=>
  ⟨.ref s.heap.objs.size,_,I.laid (t':=s.toks) kp (aW _) (show bf X.prog X.w _ h' _ (.lst ys)from⟨hz,its,c',r',e⟩),rfl,q _ (I.hok.fresh (aW _))⟩
 rcases hq with hq|hq;obtain⟨its,r',pl,hz⟩:=I.list hq;have hlen:=r'.length;obtain⟨o,ho,hc,n,hd⟩:=pl.isList;exact call_list_seq p (.inl rfl) ho hc hd (λh' c' kp e=>fin its r' hz h' c' kp e) (by simp only[di]<;>lia);obtain⟨its,r',pl,hz⟩:=I.tuple hq;have hlen:=r'.length;obtain⟨o,ho,hc,n,hd⟩:=pl;exact call_list_seq p (.inr rfl) ho hc hd (λh' c' kp e=>fin its r' hz h' c' kp e) (by simp only[di]<;>lia)
theorem TL:bO X (.type "tuple") (λxs H Q=>∃p ys,xs=[.ref p]/\((cC X.K H p ys/\∀l,H l=aD->Q (.ref l) (upd H l (.tup ys)))\/(bU X.K H p ys/\Q (.ref p) H))):=by
 intro pins s σ H xs us Q I r h;obtain⟨p,ys,rfl,h⟩:=h;obtain⟨u,rfl,rx⟩:=vals1 r;cases rx;rcases h with⟨hq,q⟩|⟨hq,q⟩
 obtain⟨its,r',pl,hz⟩:=I.list hq;have hlen:=r'.length;refine call_tuple_list pl.isList (λh' kp=>?_) (by simp only[di]<;>lia);have I1:Inv X pins σ H {s with heap:=h'}:=I.kept (t':=s.toks) kp;have I2:Inv X pins σ (upd H h'.objs.size (.tup ys)) {s with heap:=h'.push {cls:=.type "tuple",data:=.seq its.toArray}}:=
  I1.laid (t':=s.toks) (λb o e=>b9 _ e) (aW _) (show bf X.prog X.w _ _ _ (.tup ys)from⟨hz,its,r',jF.new _ _⟩)
 exact⟨.ref h'.objs.size,_,I2,rfl,q _ (I1.hok.fresh (aW _))⟩;obtain⟨its,r',pl,hz⟩:=I.tuple hq;exact call_tuple_same pl ⟨.ref p,H,I,rfl,q⟩
noncomputable def MX(K:aK)(T:String)(x:V)(H:Hp):Prop:=match x with
 |.str _=>T = "str"
 |.int _=>T = "int"
 |.ref p=>(T = "list"/\∃xs,cC K H p xs)\/(T = "tuple"/\∃xs,bU K H p xs)\/
  (T = "dict"/\((∃kvs,H p=aC (.dK kvs))\/∃kvs,H p=aC (.dT kvs)))\/(T = "set"/\∃S n,H p=aC (.set S n))
 |_=>False
theorem TN{pins:List (ai×Obj)}{σ:St}{H:Hp}{s:ah}{T:String}{x:V}{v:af}(I:Inv X pins σ H s)(r:RelV x v)(ty:MX X.K T x H) :
 s.TypeIs v T/\∀a,v=.ref a->∃ob,s.heap.get? a=aC ob/\ob.dict=aD:=by
 cases x with
 |str z=>
  obtain⟨t,rfl⟩:=r;cases(show T = "str"from ty);exact⟨typeIs_str s z t,λ_ e=>nomatch e⟩
 |int i=>
  obtain⟨t,rfl⟩:=r;cases(show T = "int"from ty);exact⟨yR s i t,λ_ e=>nomatch e⟩
 |ref p=>
  cases r;rcases ty with⟨rfl,xs,hq⟩|⟨rfl,xs,hq⟩|⟨rfl,hk⟩|⟨rfl,S,n,hk⟩
  obtain⟨its,_,pl,_⟩:=I.list hq;refine⟨pl.isList.typeIs,λa e=>?_⟩;cases e;obtain⟨o,n,e,c,hd,_⟩:=pl;exact⟨o,e,hd⟩;obtain⟨its,_,⟨o,h1,h2,_,h3⟩,_⟩:=I.nU hq;refine⟨⟨o,h1,h2⟩,λa e=>?_⟩;cases e;exact⟨o,h1,h3⟩;have z:∃o,s.heap.get? p=aC o/\o.ExactDict:=by rcases hk with⟨kvs,hk⟩|⟨kvs,hk⟩;obtain⟨_,_,_,_,o,_,_,e,ex,_⟩:=I.hok p _ hk;exact⟨o,e,ex⟩;obtain⟨_,_,_,_,o,_,_,e,ex,_⟩:=I.hok p _ hk;exact⟨o,e,ex⟩
  obtain⟨o,e,ex⟩:=z;refine⟨⟨o,e,ex.1⟩,λa e2=>?_⟩;cases e2;exact⟨o,e,ex.2.1⟩;obtain⟨o,_,_,_,e,ex,_⟩:=I.hok p _ hk;refine⟨⟨o,e,ex.1⟩,λa e2=>?_⟩;cases e2;exact⟨o,e,ex.2.1⟩
 |_=>exact False.elim ty
noncomputable def TQ(K:aK)(T:String)(r:V->List V->Hp->VK->Prop)(to:TE)(t:TA):TE:=λσ H Q=>to σ H λx H1=>MX K T x H1/\t σ H1 λxs H2=>r x xs H2 Q
variable{o e:aq}{es:List aq}{to:TE}{t:TA}{name:Str}{apos cpos:Pos}{T id:String}{r:V->List V->Hp->VK->Prop}
theorem Ad(pa:PlainAttrs T)(slot:Slot T name id)(hty:typeOf (.builtin id)=pure (.type "method_descriptor"))(hm:MW X id r)(ho:PE X o to)(ha:PA X (e::es) t)
 (hbase:autoParam (attributeBase o name X.env (eval o X.env)=eval o X.env) L2.aR1._auto_1)
 (hfew:autoParam (((backTo cpos (starEach (e::es) X.env)).all (λx=>!x.1)&& (backToKw cpos (keywordEach [] X.env)).all (λx=>x.1.isSome)
   && decide ((e::es).length+ ([]:List Keyword).length+ (if([]:List Keyword).isEmpty then 0 else 1)<30))=true) L2.aR1._auto_1)
 (hline:autoParam ((apos.endLine==cpos.line)=true) L2.aR1._auto_1) (hs:autoParam (starEach (e::es) X.env=(false,eval e X.env)::starEach es X.env) L2.aR1._auto_1) (hplain:autoParam ((backTo cpos (starEach es X.env)).any (·.1)=false) L2.aR1._auto_1) :
 PE X (.Call (.Attribute o name apos) (e::es) [] cpos) (TQ X.K T r to t):=by
 intro pins s σ H Q I h;refine wpAny_Call_method_late hbase hfew hline rfl (aX (ho pins s σ H _ I h) λv s1 z9=>z9.el λx H1 I1 r1 bM=>?_);obtain⟨ty,q1⟩:=bM;obtain⟨h1,h2⟩:=TN I1 r1 ty;refine⟨T,id,pa,slot,hty,h1,h2,?_⟩;have hA:=ha cpos pins s1 σ H1 _ I1 q1;rw[hs]at hA ⊢;refine Calls.callWith_builtin (by show(false|| (backTo cpos (starEach es X.env)).any (·.1))=false;rw[hplain]<;>rfl) (Calls.evalArgs_plain ?_);exact aX hA λus s2 z9=>z9.el λvs H2 I2 r2 q2=>hm pins s2 σ H2 x vs v us Q I2 r1 r2 q2
/- xs.append(e),list.index on a Ae tuple .. are MW facts of 06m -/
end
noncomputable def MY(X:Cx)(id:String)(r:V->List V->Hp->VK->Prop):Prop:=
 ∀(pins:List (ai×Obj))(s:ah)(σ:St)(H:Hp)(x:V)(xs:List V)(v:af)(us:List af)(Q:VK),Inv X pins σ H s->RelV x v->Vals xs us->r x xs H Q->
  wpAny (model X.prog X.w) X.A (call (.builtin id) (v::us)) (EP X pins σ Q) X.xe s
theorem Vals.one:∀{x:V} {us:List af},Vals [x] us->∃u,us=[u]/\RelV x u|_,_,.cons r .nil=>⟨_,rfl,r⟩
theorem Vals.rep{xs:List V}{us:List af}(h:Vals xs us):∀k:Nat,Vals (bE k xs).flatten (bE k us).flatten
 |0=>.nil
 |k+1=>by
  rw[nq,nq,sO,sO];exact Vals.append h (Vals.rep h k)
theorem zev(its:List af):∀(k:Nat) (acc:List af),
 List.foldl (λx1 x2=>x1++x2) acc.toArray (bE k its.toArray)=(acc++(bE k its).flatten).toArray
 |0,acc=>by simp
 |k+1,acc=>by
  have e:acc.toArray++its.toArray=(acc++its).toArray:=by simp
  have e2:(acc++its)++(bE k its).flatten=acc++(bE (k+1) its).flatten:=by rw[nq,sO,List.append_assoc]
  rw[<-e2,<-zev its k (acc++its),<-e,nq,List.foldl_cons]
section
variable{X:Cx}{pins:List (ai×Obj)}{σ:St}{H:Hp}{s:ah}{l b:ai}{xs ys zs:List V}
theorem Inv.vg{its its':List af}{n:Nat}{f:Array af->Array af}{t':Nat}(I:Inv X pins σ H s)(hH:H l=aC (.lst xs))
 (e:s.heap.get? l=aC {cls:=.type "list",data:=.seq its.toArray n}) (hf:f its.toArray=its'.toArray) (hv:Vals ys its') (hz:ys.length<=sizeLine) :
 Inv X pins σ (upd H l (.lst ys)) {s with heap:=s.heap.update l (Obj.mapSeq f),toks:=t'}:=by
 have q:=PySem.IsL.update e f;rw[hf]at q;refine I.write (x:=l) (e:=l) (by rw[hH];exact trivial) (.inl rfl) (λb' u hb hu=>(uL s.heap (Obj.mapSeq f) (eL hb)).trans hu) ⟨_,q⟩ ?_;exact⟨hz,its',_,hv,q⟩
theorem Inv.Af{its:List af}{t':Nat}(I:Inv X pins σ H s)(hv:Vals ys its)(hz:ys.length<=sizeLine) :
 Inv X pins σ (upd H s.heap.objs.size (.lst ys)) {s with heap:=s.heap.push {cls:=.type "list",data:=.seq its.toArray},toks:=t'}:=
 I.laid (λ_ _ q=>b9 _ q) (aW _) ⟨hz,its,0,hv,fG _ rfl⟩
theorem Inv.fresh(I:Inv X pins σ H s):H s.heap.objs.size=aD:=I.hok.fresh (aW _)
theorem Inv.fL(I:Inv X pins σ H s)(hH:H l=aC (.lst xs)):xs.length<=sizeLine/\∃(its:List af) (n:Nat),Vals xs its/\xs.length=its.length/\s.heap.get? l=aC {cls:=.type "list",data:=.seq its.toArray n}:=by obtain⟨z,its,n,r,e⟩:=I.hok l _ hH;exact⟨z,its,n,r,r.length,e⟩
theorem Gy{n:Nat}(h:n<=sizeLine):Builtin.List.listTooLong n=false:=by unfold Builtin.List.listTooLong;exact eF (by lia)
end
section
variable{X:Cx}
noncomputable def TR:V->List V->Hp->VK->Prop:=λx vs H Q=>∃l xs y,x=.ref l/\vs=[y]/\H l=aC (.lst xs)/\xs.length<sizeLine/\Q .aL (upd H l (.lst (xs++[y])))
theorem Gz:MY X "list.append" TR:=by intro pins s σ H x vs v us Q I rx rv h;obtain⟨l,xs,y,rfl,rfl,hH,hz,q⟩:=h;cases rx;obtain⟨u,rfl,ru⟩:=rv.one;obtain⟨z,its,n,r,hl,e⟩:=I.fL hH;refine nF F.slot_list_append ⟨_,e,rfl⟩ F.entry_list_append (F.args_list_append_2 _ _) (PySem.list_append l its.toArray n u (by rw[di];lia)) ⟨e,?_⟩;refine⟨.aL,_,I.vg (its':=its++[u]) hH e (by simp) (r.append (.cons ru .nil)) ?_,rfl,q⟩;rw[fH,sN];lia
noncomputable def TU:V->List V->Hp->VK->Prop:=λx vs H Q=>∃l b xs zs,x=.ref l/\vs=[.ref b]/\H l=aC (.lst xs)/\H b=aC (.lst zs)/\xs.length+zs.length<=sizeLine/\Q .aL (upd H l (.lst (xs++zs)))
theorem zv0:MY X "list.extend" TU:=by
 intro pins s σ H x vs v us Q I rx rv h;obtain⟨l,b,xs,zs,rfl,rfl,hH,hB,hz,q⟩:=h;cases rx;obtain⟨u,rfl,ru⟩:=rv.one;cases ru;obtain⟨z,its,n,r,hl,e⟩:=I.fL hH;obtain⟨z2,its2,n2,r2,hl2,e2⟩:=I.fL hB;have hsz:its.toArray.size+its2.toArray.size<=sizeLine:=by rw[di,di];lia
 have jL:¬(!its.toArray.isEmpty&&Builtin.List.listTooLong (its.toArray.size+its2.toArray.size))=true:=by rw[Gy hsz,Bool.and_false];exact lz
 refine nF F.slot_list_extend ⟨_,e,rfl⟩ F.entry_list_extend (F.args_list_extend_2 _ _)
  (AutoSeq1.list_extend_list_list_0 l its.toArray n b its2.toArray n2 jL (by rw[di];lia) (by lia)) ⟨e,e2,?_⟩
 refine⟨.aL,_,I.vg (its':=its++its2) hH e (by simp) (r.append r2) ?_,rfl,q⟩;rw[fH];lia
noncomputable def Ag:R2:=λx y H Q=>∃l b xs zs,x=.ref l/\y=.ref b/\H l=aC (.lst xs)/\H b=aC (.lst zs)/\xs.length+zs.length<=sizeLine/\∀p,H p=aD->Q (.ref p) (upd H p (.lst (xs++zs)))
theorem TV:cH X (binaryOp .Add) Ag:=by
 intro pins s σ H x y v u Q I rx ry h;obtain⟨l,b,xs,zs,rfl,rfl,hH,hB,hz,q⟩:=h;cases rx;cases ry;obtain⟨z,its,n,r,hl,e⟩:=I.fL hH;obtain⟨z2,its2,n2,r2,hl2,e2⟩:=I.fL hB;refine PySem.P.add_list e e2 ?_ (by rw[di,di];lia);have ea:its.toArray++its2.toArray=(its++its2).toArray:=by simp
 rw[ea];exact⟨.ref _,_,I.Af (t':=s.toks) (r.append r2) (by rw[fH];lia),rfl,q _ I.fresh⟩
noncomputable def Ah:R2:=λx y H Q=>∃l k xs,x=.ref l/\y=.int k/\H l=aC (.lst xs)/\-(2 ^ 63)<=k/\k<2 ^ 63/\xs.length*k.toNat<=sizeLine/\
 ∀p,H p=aD->Q (.ref p) (upd H p (.lst (bE k.toNat xs).flatten))
theorem GA{α:Type}(xs:List α)(k:Nat):(bE k xs).flatten.length=k*xs.length:=by
 induction k with|zero=>simp|succ k ih=>rw[nq,sO,fH,ih,Nat.succ_mul,Nat.add_comm]
theorem TX:cH X (binaryOp .Mult) Ah:=by
 intro pins s σ H x y v u Q I rx ry h;obtain⟨l,k,xs,rfl,rfl,hH,h1,h2,hz,q⟩:=h;cases rx;obtain⟨t,rfl⟩:=ry;obtain⟨z,its,n,r,hl,e⟩:=I.fL hH;have hlen:its.toArray.size*k.toNat<=sizeLine:=by rw[di,<-hl];exact hz
 have hcap:¬its.toArray.size*k.toNat> (2 ^ 63-1)/8:=by
  have:(sizeLine:Nat)<=(2 ^ 63-1)/8:=by decide
  lia
 have hfit:¬(!Builtin.List.listFitsIndex k)=true:=by rw[fitsIndex_both h1 h2];exact lz
 have jL:¬Builtin.List.listTooLong (its.toArray.size*k.toNat)=true:=by rw[Gy hlen];exact lz
 have hnew:List.foldl (λx1 x2=>x1++x2) #[] (bE (if its.toArray.isEmpty=true then 0 else k.toNat) its.toArray)=(bE k.toNat its).flatten.toArray:=by
  have f0:∀m:Nat,List.foldl (λx1 x2=>x1++x2) #[] (bE m its.toArray)=(bE m its).flatten.toArray:=λm=>by
   have:=zev its m [];rw[nu]at this;exact this
  rw[f0];cases its with|nil=>simp|cons a r'=>rw[if_neg (by simp)]
 refine wpAny_binaryOp_repeat_ref (T:="list") (U:="int") (by decide) ⟨_,e,rfl⟩ (λs'=>yR s' k t) noFill_list_mul F.fills_int_mul DC repeat_list F.slot_int_index.lookup
  (nF DC (yR s k t) F.entry_int_rmul (F.args_int_rmul_2 _ _) (int___rmul___int_list k t l its.toArray n)
    ⟨e,rfl,⟨_,e,rfl⟩,nF F.slot_list_mul ⟨_,e,rfl⟩ F.entry_list_mul (F.args_list_mul_2 _ _) (AutoListH.list___mul___list_int_3 l its.toArray n k t hfit hcap jL) ⟨e,?_⟩⟩)
 rw[hnew];exact⟨.ref _,_,I.Af (t':=s.toks) (r.rep k.toNat) (by rw[GA,Nat.mul_comm];exact hz),rfl,q _ I.fresh⟩
end
end L2
namespace MZ
open PySem PySem.W PySem.Calls PyProof.Rows
theorem TY{P:Params}{h:aA}:∀(ns:List Int) (vs:List af),WellAll P h vs (ns.map WData.int)->IntsAre vs ns:=by
 intro ns;induction ns with
 |nil=>
  intro vs w;rw[qc]at w;cases w;exact .nil
 |cons n ns ih=>
  intro vs w;rw[cu]at w;cases w with
  |cons a b=>
   cases a;exact .cons _ _ (ih _ b)
theorem TZ{l:OpenLaw}{n:Nat}(hn:l.most=aC n){P:Params}{h:aA}{args:List WData}{vals:List af}
 (hpre:l.row.toRowW.claim.pre args) (hwl:WellAll P h vals args) :
 ∃a vs ns,vals=[Value.ref a]/\args=[WData.list (ns.map WData.int)]/\h.get? a=aC {cls:=.type "list",data:=.seq vs.toArray}/\IntsAre vs ns/\ns.length<=n:=by
 have hsh:WShape.hasAll [] args [.list .int]=true:=(pre_splitW hpre).1;have hc:l.pre.holds [] {args:=args}=true:=(pre_splitW hpre).2;obtain⟨d,r,rfl,h1,h2⟩:=hasAllW_cons hsh;obtain rfl:=hasAllW_nil h2;obtain⟨xs,rfl,h3⟩:=hasW_list h1;obtain⟨ns,rfl⟩:=items_int h3;have hlen:ns.length<=n:=by
  unfold OpenLaw.pre at hc;have h4:(WTm.not (.lt (.lit (.int (n:Int))) (.len (.arg 0)))).holds [] {args:=[.list (ns.map .int)]}=true:=by have h4:=(holds_andW hc).1;rw[hn]at h4;exact h4
  have h5:=condW_of h4 (w_not (w_lt w_lit (w_len_list (w_arg rfl))));rw[bT]at h5;refine Nat.le_of_not_lt λq=>?_;have q':(n:Int)< ((ns.length:Nat):Int):=by lia
  first
   |(rw[fW q']at h5;exact absurd h5 (by decide))
   |(simp at h5;lia)
 cases hwl with
 |cons w1 w2=>
  cases w2;cases w1 with|list ho hall=>exact⟨_,_,ns,rfl,rfl,ho,TY ns _ hall,hlen⟩
theorem T3(l:OpenLaw)(args:List WData):l.row.toRowW.claim.post args (.bool true) args=true:=
 postW_of (r:=l.row.toRowW) (X:=(true==true))
  (show WShape.has [] (.bool true) .bool=true by first|rfl|decide|simp[WShape.has,WShape.arms,WShape.armsAll])
  (show(WTm.eq .res (.lit (.bool true))).value [] {args:=args,res:=aC (.bool true),after:=args}=aC (.bool (true==true))from w_eq_bool (w_res rfl) w_lit) rfl
theorem jM{l:OpenLaw}{n:Nat}{q:aj}{loose:List Str}{XP:(Str->Option af)->aA->Prop}{YP:ak->aA->Prop}{d:DefRec}
 (hn:l.most=aC n) (hdf:d.params.defaults=[])
 (call:∀(w:ak)(s₀ s₁:ah)(mg mb:Str->Option af)(fa:ai)(o:Obj)(pm cd doc:af)(a:ai)(vs:List af)(ns:List Int),
   Ground q loose [] XP w s₀ mg mb s₁.heap->YP w s₁.heap->
   s₁.heap.get? fa=aC o->o.data=.func (docDef d.name d.params d.body d.scope pm cd doc)->s₁.heap.CodeRec cd d.name->mg d.name=aC (.ref fa)->
   s₁.heap.get? a=aC {cls:=.type "list",data:=.seq vs.toArray}->IntsAre vs ns->ns.length<=n->s₁.gens = #[]->
   codeAny (model l.prog w) callerA (.call (.ref fa) ⟨[.ref a],[]⟩) (λr s'=>r=.ok (.ret (.bool true))/\OldK s₁.heap s'.heap/\s'.os=s₁.os/\AllBare s'.gens) s₁) :
 WalkO q loose XP YP l.row.toRowW d [] (λf vs=>PySem.call f vs):=by
 intro w s₀ s₁ mg mb G Y fa o pm cd doc dV kV ho hd hcd hD hmg hg args vals as hpre hlay hrd hwl hlo;obtain rfl:dV=.none:=Dflts.none hD hdf;obtain rfl:kV=.none:=Dflts.noKw hD;obtain⟨a,vs,ns,rfl,rfl,hobj,hints,hlen⟩:=TZ hn hpre hwl;refine enter_call (codeAny_mono (call w s₀ s₁ mg mb fa o pm cd doc a vs ns G Y ho (fd_plain hd) hcd hmg hobj hints hlen hg) λr s' hq=>?_);obtain⟨rfl,h2,h3,h4⟩:=hq;exact⟨.inl ⟨.bool true,.bool true,[],rfl,λ_=>rfl,.bool true,T3 l _,λ_=>⟨List.Pairwise.nil,λ_ hm=>(nomatch hm)⟩⟩,h2,h3,h4⟩
end MZ
namespace L2
open PySem PySem.Spec PyProof.Rows
theorem M1:∀{vs:List af} {ns:List Int},IntsAre vs ns->Vals (ns.map V.int) vs|_,_,.nil=>.nil|_,_,.cons n t h=>.cons ⟨t,rfl⟩ (M1 h)
noncomputable def vh(H:Hp):Prop:=∀b,H b=aD\/∃o xs,H b=aC (.bI o (.lst xs))
theorem T4{P:aj}{w:ak}{K:aK}{mg mb:Str->Option af}{CX:pC}{k:Nat}{fa a:ai}{fd:av}{x:Str}{sp:Sp}{s₁:ah}{vs:List af}{ns:List Int}
 (KX:K.In s₁.heap) (hns:s₁.heap.Ns mainGlobals mg) (hb:s₁.heap.Ns builtinsNs mb) (GC:∀x:Str,x≠"__name__"->mb x=bootBuiltins x) (hlim:s₁.heap.NoLimit) (hg:s₁.gens = #[])
 (ha:s₁.heap.get? a=aC {cls:=.type "list",data:=.seq vs.toArray}) (hi:IntsAre vs ns) (hl:ns.length<=sizeLine) (hr:cQ k callerA)
 (F:∀base:aA,K.In base->base.Ns mainGlobals mg->fy P w K mg base CX k fa fd [x] sp) (hbind:∀(s:ah)(u:af),BindsTo s fd ⟨[u],[]⟩ [(x,u)])
 (pD:∀H:Hp,vh H->cC K H a (ns.map V.int)->sp [.ref a] H (λv _=>v=.bl true) λ_ _ _=>False)
 (GD:∀H e s',CX [] H s₁ (λ_ _ _=>False) e s'->False) :
 codeAny (model P w) callerA (.call (.ref fa) ⟨[.ref a],[]⟩) (λr s'=>r=.ok (.ret (.bool true))/\OldK s₁.heap s'.heap/\s'.os=s₁.os/\AllBare s'.gens) s₁:=by
 have rv:=M1 hi;have GF:=hi.length;have core:∀H:Hp,vh H->cC K H a (ns.map V.int)->eW P w H s₁.heap->(∀b,H b≠aD->b=a)->(H a≠aD->K.lookup a=aD)->
  codeAny (model P w) callerA (.call (.ref fa) ⟨[.ref a],[]⟩) (λr s'=>r=.ok (.ret (.bool true))/\OldK s₁.heap s'.heap/\s'.os=s₁.os/\AllBare s'.gens) s₁:=by
  intro H hO hS hok hA hK;have base_of:∀{b:ai}{o:Obj},s₁.heap.get? b=aC o->H b=aD->(jg s₁.heap H).get? b=aC o:=λe n=>Rv e n;have zT:∀{b:ai}{o:Obj}{es:Array DictEntry}{ep:Nat},s₁.heap.get? b=aC o->o.data=.dict es ep->H b=aD:=λ{b o es ep} e d=>by
   cases q:H b with
   |none=>rfl
   |some u=>
    have e':b=a:=hA b (by rw[q];simp);subst e';rw[ha]at e;cases e;have d':Data.seq vs.toArray _=Data.dict es ep:=d;cases d'
  have DW:∀{b:ai}{m:Str->Option af},s₁.heap.Ns b m->(jg s₁.heap H).Ns b m:=λ{b m}⟨o,es,ep,e,d,r⟩=>⟨o,es,ep,base_of e (zT e d),d,r⟩
  have M3:K.In (jg s₁.heap H):=λb o e=>base_of (KX b o e) (by
   cases q:H b with
   |none=>rfl
   |some u=>
    have e':b=a:=hA b (by rw[q];simp);subst e';rw[hK (by rw[q];simp)]at e;cases e)
  have hM:Mod K mg (jg s₁.heap H):=⟨M3,DW hns,⟨mb,DW hb,GC⟩,let⟨mc,h1,h2⟩:=hlim;⟨mc,DW h1,h2⟩⟩
  have e0:qm P w K mg (jg s₁.heap H) callerA [] s₁ H:=⟨rfl,hM,λb o e=>Rw e,Nat.le_of_eq (Ru _ _),trivial,λb hb=>absurd (show b∈([]:List ai)from hb) (by simp),hok,.of_eq hg⟩
  refine codeAny_mono ((F _ M3 (DW hns)).run callerA [] s₁ H ⟨[.ref a],[]⟩ [.ref a] [.ref a] _ _ hr e0 (hbind s₁ (.ref a)) (.cons rfl .nil) (pD H hO hS)) λr s' h=>?_;cases r with
  |error e=>exact(GD H e s' h).elim
  |ok fl=>
   cases fl with
   |next=>exact False.elim h
   |brk=>exact False.elim h
   |cont=>exact False.elim h
   |ret u=>
    obtain⟨v,H',os,bare,un,GG,r',q⟩:=h;have q':v=.bl true:=q;subst q';obtain rfl:u=Value.bool true:=r';refine⟨rfl,OldK.of_keep λb o e=>?_,os,bare⟩;cases q:H b with
    |none=>exact un.keep b o e q (by intro z;exact absurd (show b∈([]:List ai)from z) (by simp)) (by simp)
    |some u=>
     rcases hO b with z|⟨ob,xs,z⟩;rw[q]at z;cases z;have z2:=un.g9 b ob _ z;obtain⟨e1,_⟩:=hok b _ z;obtain⟨e2,_⟩:=GG b _ z2;rw[e]at e1;cases e1;exact e2
 cases hk:K.lookup a with
 |some o=>
  have e:=KX a o hk;rw[ha]at e;cases e;refine core (λ_=>aD) (λ_=>.inl rfl) (.inr ⟨_,vs.toArray,_,hk,rfl,rfl,rfl,by rw[di,GF];exact hl,by simpa using rv⟩) (λb u z=>by have z':(aD:Option HO)=aC u:=z;cases z') (λb z=>absurd rfl z) λz=>absurd rfl z
 |none=>
  refine core (λb=>if b=a then aC (.bI {cls:=.type "list",data:=.seq vs.toArray} (.lst (ns.map V.int)))else aD) (λb=>?_) (.inl (.inr ⟨{cls:=.type "list",data:=.seq vs.toArray},if_pos rfl⟩)) (λb u z=>?_) (λb z=>?_) λ_=>hk;by_cases hb:b=a;exact .inr ⟨_,_,if_pos hb⟩;exact .inl (if_neg hb);by_cases hb:b=a;have z':=(if_pos hb).symm.trans z;cases z';subst hb;exact⟨ha,by rw[bT];exact hl,vs,_,rv,ha⟩;have z':=(if_neg hb).symm.trans z;cases z';by_cases hb:b=a;exact hb;exact absurd (if_neg hb) z
theorem T5{l:PySem.W.OpenLaw}{n k:Nat}{q:aj}{loose:List Str}{XP:(Str->Option af)->aA->Prop}{YP:ak->aA->Prop}{d:DefRec}{K:Params->aK}{CX:ak->pC}{sp:ak->Sp}{x:Str}
 (hn:l.most=aC n) (hn2:n<=sizeLine) (hdf:d.params.defaults=[]) (hr:cQ k callerA)
 (hY:∀(w:ak)(h:aA),YP w h->(K w.params).In h)
 (F:∀(w:ak)(mg:Str->Option af)(fa:ai)(h:aA),(K w.params).In h->h.Ns mainGlobals mg->mg d.name=aC (.ref fa)->
   ∃fd:av,(∀(s:ah)(u:af),BindsTo s fd ⟨[u],[]⟩ [(x,u)])/\
    ∀base:aA,(K w.params).In base->base.Ns mainGlobals mg->fy l.prog w (K w.params) mg base (CX w) k fa fd [x] (sp w))
 (pD:∀(w:ak)(H:Hp)(a:ai)(ns:List Int),ns.length<=n->vh H->cC (K w.params) H a (ns.map V.int)->sp w [.ref a] H (λv _=>v=.bl true) λ_ _ _=>False)
 (GD:∀(w:ak)(H:Hp)(s:ah)(e:af)(s':ah),CX w [] H s (λ_ _ _=>False) e s'->False) :
 PySem.W.WalkO q loose XP YP l.row.toRowW d [] (λf vs=>PySem.call f vs):=by
 refine MZ.jM hn hdf λw s₀ s₁ mg mb fa o pm cd doc a vs ns G Y ho hd hcd hmg hobj hints hlen hg=>?_;have KX:=hY w _ Y;obtain⟨fd,hb,hF⟩:=F w mg fa _ KX G.T.g hmg;exact T4 KX G.T.g G.T.b G.T.builtins G.T.nolimit hg hobj hints (gY hlen hn2) hr hF hb (λH hO hS=>pD w H a ns hlen hO hS) λH e s'=>GD w H s₁ e s'
noncomputable def zs2(s:au):Arguments:=match s with|.FunctionDef _ a _ _ _ _ _ _ _ _=>a|_=>{posonlyargs:=[],args:=[],vararg:=aD,kwonlyargs:=[],kw_defaults:=[],kwarg:=aD,defaults:=[]}
noncomputable def Ai(s:au):List au:=match s with|.FunctionDef _ _ b _ _ _ _ _ _ _=>b|_=>[]
noncomputable def jh(s:au):az:=match s with|.FunctionDef _ _ _ _ _ _ sc _ _ _=>sc|_=>{kind:=.function,names:=[],isGenerator:=false,isCoroutine:=false}
noncomputable abbrev lG:pC:=λ_ _ _ _ _ _=>False
noncomputable abbrev E0:XK:=λ_ _ _=>False
theorem nX{X:Cx}:DV lG X E0:=λ_ _ _ _ _ _ _ h=>h.elim
theorem M4{n:Nat}(h:n<=1000):n<sizeLine:=Nat.lt_of_le_of_lt h (by decide)
noncomputable def ji(cells:List (Str×ai)):List (Str×NameKind)->List (Str×ai)->List (Str×ai)|[],cs=>cs|(n,k)::r,cs=>ji cells r (if k == .free then(match cells.lookup n with|some c=>(n,c)::cs|none=>cs)else cs)
theorem DY{scope:az}{env:Env}(hf:∀y∈scope.names,y.2=.free->∃c,env.cells.lookup y.1=aC c):closureFor scope env=pure (ji env.cells scope.names []):=by
 have go:∀(l:List (Str×NameKind))(cs:List (Str×ai)),(∀y∈l,y.2=.free->∃c,env.cells.lookup y.1=aC c)->
  (forIn l cs λ(x:Str×NameKind)(r:List (Str×ai))=>(match x with
    |(name,kind)=>if(kind==NameKind.free)=true then(do let a <-cellOf env name;pure (ForInStep.yield ((name,a)::r)))else pure (ForInStep.yield r):Sem (ForInStep (List (Str×ai)))))=(pure (ji env.cells l cs):Sem (List (Str×ai))):=by
  intro l;induction l with
  |nil=>intro cs _;rfl
  |cons x r ih=>
   intro cs h;obtain⟨n,k⟩:=x;rw[xD];by_cases hk:(k==NameKind.free)=true;have hk':k=.free:=by simpa using hk
   obtain⟨c,hc⟩:=h (n,k) fY hk';have hc':env.cells.lookup n=aC c:=hc;simp only[hk,bQ,cellOf,hc',ji];exact ih _ λy hy=>h y (ff _ hy);have hk':(k==NameKind.free)=false:=by simpa using hk
   simp only[hk',dh,cG,ji];exact ih _ λy hy=>h y (ff _ hy)
 have e:=go scope.names [] hf;unfold closureFor;refine Eq.trans (pT (λt=>t >>= λcs=>pure cs) e) ?_;rfl
theorem DZ{cells:List (Str×ai)}:∀(l:List (Str×NameKind)) (cs:List (Str×ai)),(∀x c,cs.lookup x=aC c->cells.lookup x=aC c)->∀x c,(ji cells l cs).lookup x=aC c->cells.lookup x=aC c
 |[],cs,h=>h
 |(n,k)::r,cs,h=>DZ r _ λx c e=>by
  by_cases hk:(k==NameKind.free)=true;simp only[hk,bQ]at e;cases hc:cells.lookup n with
  |none=>rw[hc]at e;exact h x c e
  |some d=>
   rw[hc]at e;simp only[gi]at e;by_cases hx:(x==n)=true;simp only[hx]at e;cases e;rw[show x=n by simpa using hx];exact hc;have hx':(x==n)=false:=by simpa using hx
   simp only[hx']at e;exact h x c e
  have hk':(k==NameKind.free)=false:=by simpa using hk
  simp only[hk',dh,cG]at e;exact h x c e
theorem M5{cells:List (Str×ai)}{x:Str}{c:ai}(hc:cells.lookup x=aC c):∀(l:List (Str×NameKind)) (cs:List (Str×ai)),cs.lookup x=aC c->(ji cells l cs).lookup x=aC c
 |[],cs,h=>h
 |(n,k)::r,cs,h=>M5 hc r _ (by
  by_cases hk:(k==NameKind.free)=true;simp only[hk,bQ];cases hn:cells.lookup n with
  |none=>exact h
  |some d=>
   simp only[gi];by_cases hx:(x==n)=true;have:x=n:=by simpa using hx
   subst this;rw[hc]at hn;cases hn;simp;have hx':(x==n)=false:=by simpa using hx
   simp only[hx'];exact h
  have hk':(k==NameKind.free)=false:=by simpa using hk
  simp only[hk',dh,cG];exact h)
theorem GH{cells:List (Str×ai)}{x:Str}{c:ai}(hc:cells.lookup x=aC c):∀(l:List (Str×NameKind)) (cs:List (Str×ai)),(x,NameKind.free)∈l->(ji cells l cs).lookup x=aC c
 |[],cs,h=>by cases h
 |(n,k)::r,cs,h=>by
  rcases eG.mp h with e|e;cases e;refine M5 hc r _ ?_;rw[hc];simp[gi];exact GH hc r _ e
theorem GI{x:Str}:∀(l:List (Str×NameKind)) (a:Nat) (acc:List (Str×ai)),(x,NameKind.cell)∉l->(cellsFrom a l acc).lookup x=acc.lookup x
 |[],_,_,_=>rfl
 |(n,k)::r,a,acc,h=>by
  unfold cellsFrom;have hr:(x,NameKind.cell)∉r:=λz=>h (ff _ z);split;rename_i hk;have hk:k=.cell:=by simpa using hk
  rw[GI r _ _ hr,gi];have:(x==n)=false:=by rw[C2];rintro rfl;exact h (by rw[hk];exact fY)
  rw[this];exact GI r _ _ hr
theorem D9{x:Str}{c:ai}:∀(l:List (Str×NameKind)) (a:Nat) (acc:List (Str×ai)),(cellsFrom a l acc).lookup x=aC c->acc.lookup x=aC c\/a<=c
 |[],_,_,h=>.inl h
 |(n,k)::r,a,acc,h=>by
  unfold cellsFrom at h;split at h;rcases D9 r _ _ h with h|h
  rw[gi]at h;split at h;cases h;exact .inr (aW _);exact .inl h;exact .inr (Dg h);exact D9 r _ _ h
theorem Ea{x:Str}:∀(l:List (Str×NameKind)) (a:Nat) (acc:List (Str×ai)),(∃c,acc.lookup x=aC c)->∃c,(cellsFrom a l acc).lookup x=aC c
 |[],_,_,h=>h
 |(n,k)::r,a,acc,h=>by
  unfold cellsFrom;split;refine Ea r _ _ ?_;rw[gi];split;exact⟨_,rfl⟩;exact h;exact Ea r _ _ h
theorem GJ{x:Str}:∀(l:List (Str×NameKind)) (a:Nat) (acc:List (Str×ai)),(x,NameKind.cell)∈l->∃c,(cellsFrom a l acc).lookup x=aC c
 |[],_,_,h=>by cases h
 |(n,k)::r,a,acc,h=>by
  unfold cellsFrom;rcases eG.mp h with e|e
  cases e;rw[if_pos (by rfl)];exact Ea r _ _ ⟨a,by simp[gi]⟩;split;exact GJ r _ _ e;exact GJ r _ _ e
theorem GK{acc:List (Str×ai)}:∀(l:List (Str×NameKind)) (a:Nat) (acc:List (Str×ai)),(∀x y c,acc.lookup x=aC c->acc.lookup y=aC c->x=y)->(∀x c,acc.lookup x=aC c->c<a)->
 ∀x y c,(cellsFrom a l acc).lookup x=aC c->(cellsFrom a l acc).lookup y=aC c->x=y
 |[],_,_,h,_=>h
 |(n,k)::r,a,acc,h,hl=>by
  unfold cellsFrom;split;refine GK (acc:=acc) r _ _ (λx y c e1 e2=>?_) λx c e=>?_;rw[gi]at e1 e2;cases b1:x==n<;>cases b2:y==n<;>simp only[b1,b2]at e1 e2;exact h x y c e1 e2;cases e2;exact absurd (hl x _ e1) (kj _);cases e1;exact absurd (hl y _ e2) (kj _);rw[beq_iff_eq.mp b1,beq_iff_eq.mp b2];rw[gi]at e;cases b1:x==n<;>simp only[b1]at e;exact xr (hl x c e);cases e;exact je _;exact GK (acc:=acc) r _ _ h hl
theorem GL{x:Str}{c:ai}:∀(l:List (Str×NameKind)) (h:aA) (acc:List (Str×ai)),(cellsFrom h.objs.size l acc).lookup x=aC c->h.objs.size<=c->(∀y d,acc.lookup y=aC d->h.objs.size<=d->h.IsCell d aD)->(pushCells h l).IsCell c aD
 |[],h,acc,e,hc,ha=>ha x c e hc
 |(n,k)::r,h,acc,e,hc,ha=>by
  unfold cellsFrom at e;unfold pushCells;split at e;rename_i hk;rw[if_pos hk];by_cases z:h.objs.size+1<=c;refine GL r (h.push {cls:=.type "cell",data:=.cell aD}) ((n,h.objs.size)::acc) (by rw[jv];exact e) (by rw[jv];exact z) λy d e1 e2=>?_;rw[jv]at e2;rw[gi]at e1;cases b1:y==n<;>simp only[b1]at e1;exact(ha y d e1 (Dg e2)).keeps λb o q=>b9 _ q;cases e1;exact absurd e2 (Nat.not_succ_le_self _);have hce:c=h.objs.size:=Nat.le_antisymm (Nat.le_of_lt_succ (Nat.lt_of_not_le z)) hc;have:(h.push {cls:=.type "cell",data:=.cell aD}).IsCell c aD:=⟨_,by rw[hce];exact fG _ rfl,rfl⟩
  exact this.keeps λb o q=>pushCells_keeps _ _ b o q;rename_i hk;rw[if_neg hk];exact GL r h acc e hc ha
theorem M6{M:Model}{A:ao}{E:af->ah->Prop}{s:ah}{scope:az}{globals:ai}{cl:List (Str×ai)}{qual:Str}{env:Env}{Q:Env->ah->Prop}(hcl:∀x c,cl.lookup x=aC c->c<s.heap.objs.size)
 (hQ:∀h',h'.Ns s.heap.objs.size (λ_=>aD)->(∀b o,s.heap.get? b=aC o->h'.get? b=aC o)->(∀x c,(cellsFrom (s.heap.objs.size+1) scope.names cl).lookup x=aC c->s.heap.objs.size<c->h'.IsCell c aD)->
   Q (newEnv scope s.heap.objs.size globals (cellsFrom (s.heap.objs.size+1) scope.names cl) qual aD .none (aC env) builtinsNs) {s with heap:=h'}) :
 wpAny M A (newFunctionEnv scope globals cl [] qual aD .none (aC env)) Q E s:=by
 simp only[newFunctionEnv,Option.isSome_some,bQ];refine aG (wpAny_alloc ?_);refine aG (wpAny_layCells _ (λname kind cells=>by cases hkc:kind==NameKind.cell<;>simp[hkc]) _ _ _ _ ?_);have hz:({s with heap:=s.heap.push {cls:=.type "dict",data:=.dict #[]}}:ah).heap.objs.size=s.heap.objs.size+1:=jv ..;rw[hz];refine aG (aQ (aQ ?_));refine hQ (pushCells (s.heap.push {cls:=.type "dict",data:=.dict #[]}) scope.names) ((Heap.Ns.new s.heap (.type "dict")).keeps (pushCells_keeps _ _)) (λb o e=>pushCells_keeps _ _ b o (b9 _ e)) λx c e hc=>?_;refine GL scope.names (s.heap.push {cls:=.type "dict",data:=.dict #[]}) cl (by rw[jv];exact e) (by rw[jv];exact hc) λy d e1 e2=>?_;rw[jv]at e2;exact absurd (hcl y d e1) (jE.mpr (Dg e2))
theorem M7{cells:List (Str×ai)}{x:Str}:∀(l:List (Str×NameKind)) (cs:List (Str×ai)),(x,NameKind.free)∉l->cs.lookup x=aD->(ji cells l cs).lookup x=aD
 |[],cs,_,h=>h
 |(n,k)::r,cs,hl,h=>by
  have hr:(x,NameKind.free)∉r:=λz=>hl (ff _ z);refine M7 r _ hr ?_;by_cases hk:(k==NameKind.free)=true;simp only[hk,bQ];cases cells.lookup n with
  |none=>exact h
  |some d=>
   simp only[gi];have:(x==n)=false:=by rw[C2];rintro rfl;exact hl (by rw[show k=NameKind.free by simpa using hk];exact fY)
   simp only[this];exact h
  have hk':(k==NameKind.free)=false:=by simpa using hk
  simp only[hk',dh,cG];exact h
theorem T6{cells:List (Str×ai)}{x:Str}{c:ai}{l:List (Str×NameKind)}(h:(x,NameKind.free)∉l):¬(ji cells l []).lookup x=aC c:=λz=>by
 rw[M7 l [] h rfl]at z;cases z
noncomputable abbrev Cx.comp(X:Cx)(N:List Str)(scope:az)(C:ai)(s₀:ah)(H₀:Hp)(ex:List ai):Cx:=
 {X with N:=N,s₀:=s₀,H₀:=H₀,env:=compEnvC scope (cellsFrom (C+1) scope.names (ji X.env.cells scope.names [])) C X.env,outer:=X.stack,stack:=X.stack,ex:=ex,fn:=λx=>scope.names.lookup x==aC .cell,pn:=[],xe:=λ_ _=>False}
structure aY(X:Cx)(ow fr:List Str)(ix:List Nat)(scope:az):Prop where
 kind:scope.kind=.function
 Aj:∀y∈scope.names,y.2=.cell->scope.names.lookup y.1=aC .cell
 names:∀y∈scope.names,y.2=.local->scope.names.lookup y.1=aC .local
 own:∀x∈ow,scope.names.lookup x=aC .local\/scope.names.lookup x=aC .cell
 Ak:∀y∈scope.names,y.2=.free->scope.names.lookup y.1=aC .free
 free:∀y∈scope.names,y.2=.free->X.env.kindOf y.1=aC .cell\/X.env.kindOf y.1=aC .free
 at_:∀(k:Nat)(x:Str),fr[k]?=aC x->∃j,ix[k]?=aC j/\X.N[j]?=aC x/\scope.names.lookup x=aC .free
 len:ix.length=fr.length
noncomputable def jj(ow fr:List Str)(ix:List Nat)(σ:St):St:=ow.map (λ_=>aD)++ix.map λj=>(σ[j]?).join
theorem M8{x:Str}{k:NameKind}:∀{l:List (Str×NameKind)},l.lookup x=aC k->(x,k)∈l
 |[],h=>by cases h
 |(n,j)::r,h=>by
  simp only[gi]at h;by_cases hx:(x==n)=true;simp only[hx]at h;cases h;rw[show x=n by simpa using hx];exact fY
  have hx':(x==n)=false:=by simpa using hx
  simp only[hx']at h;exact ff _ (M8 h)
theorem GN{env:Env}:∀{l:List (Str×NameKind)} {x:Str} {k:NameKind},
 (l.map λ(n,k)=>if(k==NameKind.free&&env.scope.kind == .function&&env.kindOf n==aC .cell)then(n,NameKind.cell)else(n,k)).lookup x=aC k->k=.cell\/k=.free->(x,NameKind.free)∈l\/(x,NameKind.cell)∈l
 |[],x,k,h,_=>by cases h
 |(n,j)::r,x,k,h,hh=>by
  have ih:=@GN env r x k;rw[cu]at h;by_cases hc':(j==NameKind.free&&env.scope.kind == .function&&env.kindOf n==aC .cell)=true;simp only[hc',bQ,gi]at h;have hj:j=.free:=by simp only[bD,beq_iff_eq]at hc';exact hc'.1.1
  by_cases hx:(x==n)=true;rw[show x=n by simpa using hx,hj];exact .inl fY
  have hx':(x==n)=false:=by simpa using hx
  simp only[hx']at h;exact(ih h hh).imp (ff _) (ff _);have hcf:(j==NameKind.free&&env.scope.kind == .function&&env.kindOf n==aC .cell)=false:=by simpa using hc'
  simp only[hcf,dh,cG,gi]at h;by_cases hx:(x==n)=true;simp only[hx]at h;cases h;rcases hh with z|z
  rw[show x=n by simpa using hx,z];exact .inr fY
  rw[show x=n by simpa using hx,z];exact .inl fY
  have hx':(x==n)=false:=by simpa using hx
  simp only[hx']at h;exact(ih h hh).imp (ff _) (ff _)
theorem Eb{env:Env}(hkf:env.scope.kind=.function):∀{l:List (Str×NameKind)} {x:Str},l.lookup x=aC .free->
 (l.map λ(n,k)=>if(k==NameKind.free&&env.scope.kind == .function&&env.kindOf n==aC .cell)then(n,NameKind.cell)else(n,k)).lookup x=aC (if env.kindOf x=aC .cell then .cell else .free)
 |[],x,h=>by cases h
 |(n,j)::r,x,h=>by
  have ih:=@Eb env hkf r x;rw[cu];simp only[gi]at h;by_cases hx:(x==n)=true;simp only[hx]at h;cases h;have e:x=n:=by simpa using hx
  subst e;by_cases hq:env.kindOf x=aC .cell;simp[hkf,hq,gi];simp[hq,gi];have hx':(x==n)=false:=by simpa using hx
  simp only[hx']at h;by_cases hc':(j==NameKind.free&&env.scope.kind == .function&&env.kindOf n==aC .cell)=true;simp only[hc',bQ,gi,hx'];exact ih h;have hcf:(j==NameKind.free&&env.scope.kind == .function&&env.kindOf n==aC .cell)=false:=by simpa using hc'
  simp only[hcf,dh,cG,gi,hx'];exact ih h
section
variable{X:Cx}{pins:List (ai×Obj)}{σ:St}{H:Hp}{s:ah}{ow fr:List Str}{ix:List Nat}{scope:az}{fp:List ai}
theorem M9(S:aY X ow fr ix scope)(I:Inv X pins σ H s)(hfp:∀b∈fp,dG X pins H b)(hlt:∀b∈fp,b<s.heap.objs.size){h':aA}{tk:Nat}{m:Str->Option af}(hn:h'.Ns s.heap.objs.size m)(hk:∀b o,s.heap.get? b=aC o->h'.get? b=aC o)(hnc:∀x c,(cellsFrom (s.heap.objs.size+1) scope.names (ji X.env.cells scope.names [])).lookup x=aC c->s.heap.objs.size<c->h'.IsCell c aD) :
 Inv (X.comp (ow++fr) scope s.heap.objs.size s H fp) [] (jj ow fr ix σ) H {s with heap:=h',toks:=tk}:=by
 have sub:=DZ (cells:=X.env.cells) scope.names [] (λx c e=>by cases e);have kQ:∀x c,(ji X.env.cells scope.names []).lookup x=aC c->c<s.heap.objs.size:=λx c e=>by
  obtain⟨v,q⟩:=I.cell x c (sub x c e);exact q.lt
 have two:∀x c,(cellsFrom (s.heap.objs.size+1) scope.names (ji X.env.cells scope.names [])).lookup x=aC c->X.env.cells.lookup x=aC c\/s.heap.objs.size<c:=λx c e=>(D9 _ _ _ e).imp (sub x c) λz=>z;have pass:∀x,(x,NameKind.free)∈scope.names->scope.names.lookup x=aC .free->(cellsFrom (s.heap.objs.size+1) scope.names (ji X.env.cells scope.names [])).lookup x=(ji X.env.cells scope.names []).lookup x:=λx hx hl=>GI _ _ _ λz=>by
  have:=S.Aj _ z rfl;rw[hl]at this;cases this
 have kf:=I.ok.kind;have Na:∀x c,X.env.cells.lookup x=aC c->c≠s.heap.objs.size:=λx c e z=>by
  obtain⟨v,q⟩:=I.cell x c e;exact absurd q.lt (by rw[z];exact kj _)
 have GO:∀x,(x,NameKind.free)∈scope.names->∃c,(ji X.env.cells scope.names []).lookup x=aC c/\X.env.cells.lookup x=aC c:=λx hx=>by
  obtain⟨c,hc⟩:=I.ok.has x (S.free _ hx rfl);exact⟨c,GH hc _ _ hx,hc⟩
 refine⟨⟨I.ok.mod,?_,I.ok.glob,I.ok.blt,aW _,GK (acc:=[]) _ _ _ (λx y c a b=>I.ok.inj x y c (sub x c a) (sub y c b)) (λx c e=>xr (kQ x c e)),λx hx=>?_,λx c e1 e2=>?_,I.ok.hd,I.ok.frames,.inl rfl,λb hb=>?_,λb o e=>?_,?_,λb o e hb=>?_,λb hb hz=>?_,I.stack,λb hb=>I.lB b hb⟩,
  rfl,I.bare,Un.kept hk,⟨m,hn,λi x v e1 e2 e3=>?_⟩,λx c e=>?_,I.hok.fresh (aW _),λx c e=>(two x c e).elim (I.fj x c) (λz=>I.hok.fresh (sI z)),λp hp=>?_,I.hok.kept hk,?_⟩
 exact S.kind;have hx':(relabel scope X.env).names.lookup x=aC .cell\/(relabel scope X.env).names.lookup x=aC .free:=hx;have hm:(x,NameKind.free)∈scope.names\/(x,NameKind.cell)∈scope.names:=by rcases hx' with z|z;exact GN (env:=X.env) z (.inl rfl);exact GN (env:=X.env) z (.inr rfl)
 rcases hm with hm|hm;obtain⟨c,hc,_⟩:=GO x hm;exact Ea _ _ _ ⟨c,hc⟩;exact GJ _ _ _ hm;have e1:scope.names.lookup x=aC .cell:=by have e1:(scope.names.lookup x==aC NameKind.cell)=true:=e1;simpa using e1
 rcases D9 _ _ _ e2 with z|z;exfalso;have hcl:∃y,X.env.cells.lookup x=aC c:=⟨c,sub x c z⟩
 exact absurd z (by
  intro z;exact T6 (λq=>by
   have:=S.Ak _ q rfl;rw[e1]at this;cases this) z)
 exact Dg z;obtain⟨f0,f1,f2,f3,f4,f5⟩:=hfp b hb;refine⟨λz=>?_,λx c e=>(two x c e).elim (f4 x c) λz q=>by
  have:=hlt b hb;rw[q]at z;exact Nat.lt_asymm this z⟩
 have q:=hlt b hb;rw[z]at q;exact absurd q (kj _);exact⟨(I.bs b o e).1,(I.bs b o e).2⟩;exact gY I.ok.uW I.sz;obtain⟨f0,f1,f2,f3,f4,f5⟩:=hfp b hb;rcases f3 with z|z
 exact I.ok.nR b o e z;exact absurd (dS (cP (I.ok.bs b o e).1) z) (kj _);obtain⟨f0,f1,f2,f3,f4,f5⟩:=hfp b hb;rcases eG.mp (I.kO b hz)with z|z
 exact f1 z;exact f2 z;have hlen:ow.length<=i:=by
  by_cases hi:i<ow.length;unfold jj at e2;rw[uN (by simpa using hi),jf]at e2;cases q:ow[i]? with|none=>rw[q]at e2;cases e2|some y=>rw[q]at e2;cases e2
  lia
 have T7:fr[i-ow.length]?=aC x:=by have e1:(ow++fr)[i]?=aC x:=e1;rw[nJ hlen]at e1;exact e1
 have Nb:(ix.map λj=>(σ[j]?).join)[i-ow.length]?=aC (aC v):=by unfold jj at e2;rw[nJ (by simpa using hlen)]at e2;simpa using e2
 obtain⟨j,hj,hN,hl⟩:=S.at_ _ _ T7;rw[jf,hj]at Nb;have nY:(σ[j]?).join=aC v:=lA Nb;have hσ:σ[j]?=aC (aC v):=by
  cases q:σ[j]? with
  |none=>rw[q]at nY;cases nY
  |some o=>rw[q]at nY;cases o with
   |none=>cases nY
   |some w=>cases nY;rfl
 obtain⟨m0,hm0,T8⟩:=I.loc;have hmem:=M8 hl;have hkf:=S.free _ hmem rfl;have GP:xJ X.env.scope x:=hkf.elim (λz=>.inr (.inl z)) λz=>.inr (.inr z);obtain⟨u,ru,lk⟩:=T8 j x v hN hσ GP;refine⟨u,ru,.inr ?_⟩;have hcell:∃c,X.env.cells.lookup x=aC c/\s.heap.IsCell c (aC u):=by rcases lk with⟨z,_⟩|⟨_,c,e,z⟩;rcases hkf with q|q;rw[show X.env.kindOf x=aC .local from z]at q;cases q;rw[show X.env.kindOf x=aC .local from z]at q;cases q;exact⟨c,e,z⟩
 obtain⟨c,hc,o,ho,hd⟩:=hcell;refine⟨?_,c,(pass x hmem hl).trans (GH hc _ _ hmem),o,hk _ _ ho,hd⟩;show(relabel scope X.env).names.lookup x=aC .cell\/(relabel scope X.env).names.lookup x=aC .free;have q:=Eb (env:=X.env) kf hl;by_cases z:X.env.kindOf x=aC .cell;rw[if_pos z]at q;exact .inl q;rw[if_neg z]at q;exact .inr q;rcases two x c e with z|z;obtain⟨v,q⟩:=I.cell x c z;obtain⟨o,ho,hd⟩:=q;exact⟨v,o,hk _ _ ho,hd⟩;exact⟨aD,hnc x c e z⟩;cases(show p∈([]:List (ai×Obj))from hp);show(jj ow fr ix σ).length=(ow++fr).length;unfold jj;rw[fH,bT,bT,fH,S.len]
end
theorem GQ{α:Type}{M:Model}{A:ao}{t:Sem α}{Q:α->ah->Prop}{E:af->ah->Prop}{s:ah}(h:wpAny M A t Q (λ_ _=>False) s):wpAny M A t Q E s:=gH h (λ_ _ q=>q) λ_ _ z=>z.elim
noncomputable abbrev gJ:af->ah->Prop:=λ_ _=>False
noncomputable abbrev xS(ifs:List aq)(env:Env):Sem Bool:=forIn ifs true λc r=>if r=true then do let ok <-isTrue c env (eval c env);pure (ForInStep.yield ok)else pure (ForInStep.yield r)
theorem T9{prog:aj}{w:ak}{A:ao}{R:Result->ah->Prop}{s:ah}{elt target iter:aq}{ifs:List aq}{scope:az}{pos:Pos}{it acc:af}{env:Env}(I:Nat->ah->Prop)
 (turn:∀n s,I n s->wpAny (model prog w) A (pyNext it) (λr s₁=>match r with
   |none=>R (.ok .next) s₁
   |some v=>wpAny (model prog w) A (letOwnedTupleGo target it v) (λ_ s₀=>wpAny (model prog w) A (assign target env v) (λ_ s₂=>
    wpAny (model prog w) A (xS ifs env) (λok s₃=>
     if ok=true then wpAny (model prog w) A (eval elt env) (λx s₄=>
      wpAny (model prog w) A (call (.builtin "list.append") [acc,x]) (λ_ s₅=>∃m,m<n/\I m s₅) gJ s₄) gJ s₃
     else ∃m,m<n/\I m s₃) gJ s₂) gJ s₀) gJ s₁) gJ s)
 (n:Nat) (h:I n s) :
 codeAny (model prog w) A (.compLoop (.ListComp elt [⟨target,iter,ifs,0⟩] scope pos) 0 it acc env) R s:=by
 refine codeAny_loop rfl I (λn s hI=>?_) n h;show wpAny _ A ((compTurn (.ListComp elt [⟨target,iter,ifs,0⟩] scope pos) 0 it acc env).onRaise (λx=>do noteFrame x env;theTreesLotGoes x)) _ _ s;refine wpAny_noted (GQ ?_);rw[compTurn_list];refine aG (ni (aG (gH (turn n s hI) (λr s₁ h₁=>?_) λ_ _ h'=>h')));cases r with
 |none=>exact aQ h₁
 |some v=>
  refine aG (gH h₁ (λ_ s₀ h₀=>?_) λ_ _ h'=>h');refine aG (gH h₀ (λ_ s₂ h₂=>aG (gH h₂ (λok s₃ h₃=>?_) λ_ _ h'=>h')) λ_ _ h'=>h');cases ok with
  |true=>
   simp only[bQ]at h₃ ⊢;exact aG (aG (gH h₃ (λx s₄ h₄=>aG (gH h₄ (λ_ s₅ h₅=>aQ (aQ ⟨rfl,h₅⟩)) λ_ _ h'=>h')) λ_ _ h'=>h'))
  |false=>
   simp only[dh,cG]at h₃ ⊢;exact aQ ⟨rfl,h₃⟩
noncomputable def iX(X:Cx)(ifs:List aq)(t:TT):Prop:=
 ∀(pins:List (ai×Obj))(s:ah)(σ:St)(H:Hp)(Q:Bool->Hp->Prop),Inv X pins σ H s->t σ H Q->wpAny (model X.prog X.w) X.A (xS ifs X.env) (TP X pins σ Q) X.xe s
noncomputable def GR:TT:=λ_ H Q=>Q true H
theorem Ua{X:Cx}:iX X [] GR:=λpins s σ H Q I h=>wpAny_tests_nil ⟨H,I,h⟩
theorem Ub{X:Cx}{c:aq}{t:TT}(h:PT X c t):iX X [c] t:=λpins s σ H Q I q=>wpAny_tests_one (h pins s σ H Q I q)
noncomputable def GS(K:aK)(f:St->St)(wi:TI)(g:TG)(tc:TT)(te:TE):TE:=λσ H Q=>wi σ H λJ H1=>∀D,H1 D=aD->K.lookup D=aD->
 ∃W:Nat->Nat->St->Hp->List V->Prop,(∃m,W 0 m (f σ) (upd H1 D (.lst [])) [])/\∀i m σ' H' ys,W i m σ' H' ys->H' D=aC (.lst ys)/\
  ((J.stop i H'/\Q (.ref D) H')\/(J.go i H'/\∀x H2,J.uZ i H' x H2->g x σ' H2 λσ2 H3=>tc σ2 H3 λb H4=>
    if b=true then te σ2 H4 λy H5=>H5 D=aC (.lst ys)/\ys.length<sizeLine/\∃m',m'<m/\W (i+1) m' σ2 (upd H5 D (.lst (ys++[y]))) (ys++[y])
    else ∃m',m'<m/\W (i+1) m' σ2 H4 ys))
section
variable{X:Cx}{ow fr:List Str}{ix:List Nat}{scope:az}{tg iter elt:aq}{ifs:List aq}{pos:Pos}{wi:TI}{g:TG}{tc:TT}{te:TE}
theorem Nc{pins:List (ai×Obj)}{s:ah}{σ:St}{Q:VK}{RR:af->ai->Result->ah->Prop}(S:aY X ow fr ix scope)(hc:X.calm=true)
 (hg:∀C s₀ H₀ ex,PG (X.comp (ow++fr) scope C s₀ H₀ ex) tg g) (ht:∀C s₀ H₀ ex,iX (X.comp (ow++fr) scope C s₀ H₀ ex) ifs tc) (he:∀C s₀ H₀ ex,PE (X.comp (ow++fr) scope C s₀ H₀ ex) elt te)
 {itv:af} {E:af->ah->Prop}
 (h:DP X pins σ tg (λJ H1=>∀D,H1 D=aD->X.K.lookup D=aD->
   ∃W:Nat->Nat->St->Hp->List V->Prop,(∃m,W 0 m (jj ow fr ix σ) (upd H1 D (.lst [])) [])/\∀i m σ' H' ys,W i m σ' H' ys->H' D=aC (.lst ys)/\
    ((J.stop i H'/\Q (.ref D) H')\/(J.go i H'/\∀x H2,J.uZ i H' x H2->g x σ' H2 λσ2 H3=>tc σ2 H3 λb H4=>
      if b=true then te σ2 H4 λy H5=>H5 D=aC (.lst ys)/\ys.length<sizeLine/\∃m',m'<m/\W (i+1) m' σ2 (upd H5 D (.lst (ys++[y]))) (ys++[y])
      else ∃m',m'<m/\W (i+1) m' σ2 H4 ys))) itv s)
 (fin:∀D C H' s' m,dG X pins H' C->s'.heap.Ns C m->(∀h'',Heap.SameBut C s'.heap h''->Inv X pins σ H' {s' with heap:=h''})->Q (.ref D) H'->RR (.ref D) C (.ok .next) s') :
 wpAny (model X.prog X.w) X.A (newList []) (λacc s₃=>wpAny (model X.prog X.w) X.A (newFunctionEnv scope X.env.globals (ji X.env.cells scope.names []) [] X.env.qual aD .none (aC X.env)) (λcenv s₄=>
  codeAny (model X.prog X.w) X.A (.compStart (.ListComp elt [⟨tg,iter,ifs,0⟩] scope pos) 0 itv acc {cenv with scope:=relabel scope X.env}) (RR acc cenv.locals) s₄) E s₃) E s:=by
 obtain⟨it,fp,tn,J,H1,e,I1,T,st1,f1,hq⟩:=h;subst e;have hD:H1 s.heap.objs.size=aD:=I1.hok.fresh (aW _);have GU:X.K.lookup s.heap.objs.size=aD:=by
  cases e:X.K.lookup s.heap.objs.size with|none=>rfl|some o=>exact absurd (cP (I1.iV _ _ e)) (kj _)
 obtain⟨W,⟨m0,w0⟩,turn⟩:=hq _ hD GU;have I3:Inv X pins σ (upd H1 s.heap.objs.size (.lst [])) {s with heap:=s.heap.push {cls:=.type "list",dict:=aD,data:=.seq ([]:List af).toArray}}:=
  I1.laid (t':=s.toks) (o:=.lst []) (λb u q=>b9 _ q) (aW _) ⟨jw _,[],0,.nil,fG _ rfl⟩
 have nZ:∀b∈fp,b<s.heap.objs.size:=λb hb=>by
  obtain⟨o,ho,_⟩:=T.obj _ _ st1 b hb;exact cP ho
 have f3:∀b∈fp,dG X pins (upd H1 s.heap.objs.size (.lst [])) b:=λb hb=>⟨by rw[bW (fX (nZ b hb))];exact(f1 b hb).1,(f1 b hb).2⟩
 refine ju (M6 (λx c e=>(I3.cell x c (DZ (cells:=X.env.cells) scope.names [] (λx c e=>by cases e) x c e)).elim λv q=>q.lt) (λh₁ hns hk0 hnc=>?_));dsimp only at hns hk0 hnc ⊢;generalize Al:({s with heap:=s.heap.push {cls:=.type "list",dict:=aD,data:=.seq ([]:List af).toArray}}:ah)=s3 at I3;have vm:s3.heap=s.heap.push {cls:=.type "list",dict:=aD,data:=.seq ([]:List af).toArray}:=by rw[<-Al]
 rw[<-vm]at hns hk0 hnc ⊢;have hk:∀b o,s3.heap.get? b=aC o->h₁.get? b=aC o:=hk0;have vn:∀b∈fp,b<s3.heap.objs.size:=λb hb=>by rw[vm,jv];exact xr (nZ b hb)
 have J3:=M9 S I3 f3 vn (tk:=s.toks) hns hk hnc;have st3:tn 0 h₁:=T.keep _ _ _ st1 λb hb o e=>hk b o (by rw[vm];exact b9 _ e);have vp:∀b∈fp,(X.comp (ow++fr) scope s3.heap.objs.size s3 (upd H1 s.heap.objs.size (.lst [])) fp).Ok->∀{H':Hp},H' b=aD->dG (X.comp (ow++fr) scope s3.heap.objs.size s3 (upd H1 s.heap.objs.size (.lst [])) fp) [] H' b:=λb hb ok H' hn=>
  ⟨hn,(ok.xK b hb).1,ok.mJ b hb,.inl hb,(ok.xK b hb).2,λp hp=>by cases(show p∈([]:List (ai×Obj))from hp)⟩
 have back:∀{σ':St}{H':Hp}{s':ah},Inv (X.comp (ow++fr) scope s3.heap.objs.size s3 (upd H1 s.heap.objs.size (.lst [])) fp) [] σ' H' s'->∀h'',Heap.SameBut s3.heap.objs.size s'.heap h''->Inv X pins σ H' {s' with heap:=h''}:=λ{σ' H' s'} I' h'' hs=>by
  have nv:∀b o,s3.heap.get? b=aC o->b≠s3.heap.objs.size:=λb o e=>fX (cP e);have un:Un (frs X.stack) fp (upd H1 s.heap.objs.size (.lst [])) H' s3.heap h'':=
   ⟨λb o e n hb hx=>(hs.2 b (nv b o e)).trans (I'.base.keep b o e n hb hx),λb o e n hb hx=>by
    obtain⟨sl,q⟩:=I'.base.slot b o e n hb hx;exact⟨sl,(hs.2 b (nv b o e)).trans q⟩,I'.base.free,λb o e hx=>by
    obtain⟨o',q⟩:=I'.base.there b o e hx;exact⟨o',(hs.2 b (nv b o e)).trans q⟩,I'.base.tups,I'.base.g9,I'.base.iL⟩
  have hok:eW X.prog X.w H' h'':=λb ob e=>by
   refine(I'.hok b ob e).stay (λc w' hcc q=>(hs.2 c ?_).trans q) (λ_ q=>q) λ_ _ q=>q;rintro rfl;have hfree:=I'.free;rcases hcc with rfl|hcc
   rw[show H' s3.heap.objs.size=aD from hfree]at e;cases e;rw[show H' s3.heap.objs.size=aD from hfree]at hcc;cases hcc
  have hos:s'.os=s3.os:=I'.os;exact I3.sZ (s':={s' with heap:=h''}) (ch:=fp) hos un hok I'.bare λb hb=>by
   obtain⟨_,a1,a2,a3,a4,a5⟩:=f1 b hb;exact⟨a3,a1,a4,a5⟩
 have loop:∀s4:ah,Inv (X.comp (ow++fr) scope s3.heap.objs.size s3 (upd H1 s.heap.objs.size (.lst [])) fp) [] (jj ow fr ix σ) (upd H1 s.heap.objs.size (.lst [])) s4->tn 0 s4.heap->
  codeAny (model X.prog X.w) X.A (.compLoop (.ListComp elt [⟨tg,iter,ifs,0⟩] scope pos) 0 (.ref it) (.ref s.heap.objs.size) (X.comp (ow++fr) scope s3.heap.objs.size s3 (upd H1 s.heap.objs.size (.lst [])) fp).env)
   (RR (.ref s.heap.objs.size) s3.heap.objs.size) s4:=by
  intro s4 I4 GV;refine T9 (λn s'=>∃i σ' H' ys,Inv (X.comp (ow++fr) scope s3.heap.objs.size s3 (upd H1 s.heap.objs.size (.lst [])) fp) [] σ' H' s'/\tn i s'.heap/\(∀b∈fp,H' b=aD)/\W i n σ' H' ys) ?_ m0 ⟨0,_,_,[],I4,GV,λb hb=>(f3 b hb).1,w0⟩;rintro n s5 ⟨i,kD,H5,ys,I5,mK,qj,w5⟩;obtain⟨hDl,alt⟩:=turn i n kD H5 ys w5;rcases alt with⟨stop,q⟩|⟨go,step⟩
  .refine aX (T.done (X.comp (ow++fr) scope s3.heap.objs.size s3 (upd H1 s.heap.objs.size (.lst [])) fp) rfl rfl rfl hc i [] s5 kD H5 gJ I5 (λb hb=>vp b hb I5.ok (qj b hb)) mK stop) λr s6 bM=>?_
   obtain⟨hr,I6⟩:=bM;subst hr;obtain⟨m6,Ec,_⟩:=I6.loc;exact fin _ _ H5 s6 m6 (I3.jI (aW _) I6.free) Ec (back I6) q
  refine aX (T.item (X.comp (ow++fr) scope s3.heap.objs.size s3 (upd H1 s.heap.objs.size (.lst [])) fp) rfl rfl rfl hc i [] s5 kD H5 gJ I5 (λb hb=>vp b hb I5.ok (qj b hb)) mK go) λr s6 bM=>?_;obtain⟨u,hr,h6⟩:=bM;subst hr;refine aX h6 λ_ s7 bM=>?_;obtain⟨x,H7,I7,r7,y7,vq,GW⟩:=bM;have GX:=I7.pinned (λb hb=>vp b hb I7.ok (GW b hb)) (T.obj _ _ vq);have again:∀{jN:St}{H8:Hp}{s8:ah}{zs:List V}{m':Nat},Inv (X.comp (ow++fr) scope s3.heap.objs.size s3 (upd H1 s.heap.objs.size (.lst [])) fp) ([]++u5 fp s7.heap) jN H8 s8->m'<n->W (i+1) m' jN H8 zs->
   ∃m,m<n/\∃i σ' H' ys,Inv (X.comp (ow++fr) scope s3.heap.objs.size s3 (upd H1 s.heap.objs.size (.lst [])) fp) [] σ' H' s8/\tn i s8.heap/\(∀b∈fp,H' b=aD)/\W i m σ' H' ys:=λ{jN H8 s8 zs m'} I8 hm w8=>by
   refine⟨m',hm,i+1,jN,H8,zs,I8.dw,T.keep _ _ _ vq λb hb o e=>(I8.pin (b,o) (gV _ (gV _ (tw hb e)))).1,λb hb=>?_,w8⟩;obtain⟨o,e,d⟩:=T.obj _ _ vq b hb;exact(I8.pin (b,o) (gV _ (gV _ (tw hb e)))).2.1
  refine aX (hg _ _ _ _ _ s7 kD H7 x u _ GX r7 (step x H7 y7)) λ_ s8 bM=>?_;obtain⟨jN,H8,I8,q8⟩:=bM;refine aX (ht _ _ _ _ _ s8 jN H8 _ I8 q8) λok s9 z9=>z9.el λH9 I9 q9=>?_;cases ok with
  |false=>
   simp only[dh,cG]at q9 ⊢;obtain⟨m',hm,w9⟩:=q9;exact again I9 hm w9
  |true=>
   simp only[bQ]at q9 ⊢;refine aX (he _ _ _ _ _ s9 jN H9 _ I9 q9) λy GY bM=>?_;obtain⟨vy,GZ,G0,ry,G2,hz,m',hm,G4⟩:=bM;refine aX (Gz _ GY jN GZ (.ref s.heap.objs.size) [vy] (.ref s.heap.objs.size) [y] (λv H'=>H'=upd GZ s.heap.objs.size (.lst (ys++[vy]))) G0 rfl (.cons ry .nil) ⟨_,ys,vy,rfl,rfl,G2,hz,rfl⟩) λ_ s11 bM=>?_;obtain⟨v11,H11,Uc,_,Ed⟩:=bM;subst Ed;exact again Uc hm G4
 have Ef:Inv (X.comp (ow++fr) scope s3.heap.objs.size s3 (upd H1 s.heap.objs.size (.lst [])) fp) [] (jj ow fr ix σ) (upd H1 s.heap.objs.size (.lst [])) {s with heap:=h₁,toks:=s.toks}:=by rw[<-Al]at J3 ⊢;exact J3
 exact codeAny_compStart_list (loop _ Ef st3) (T.self _ 0 _ _ _ st3 (loop _ Ef st3))
theorem Am(S:aY X ow fr ix scope)(hc:X.calm)(hi:PI X tg iter wi)
 (hg:∀C s₀ H₀ ex,PG (X.comp (ow++fr) scope C s₀ H₀ ex) tg g) (ht:∀C s₀ H₀ ex,iX (X.comp (ow++fr) scope C s₀ H₀ ex) ifs tc) (he:∀C s₀ H₀ ex,PE (X.comp (ow++fr) scope C s₀ H₀ ex) elt te)
 (hs:∀x,foldedSetIterable iter X.env x=pure x:=by intro _;rfl):PE X (.ListComp elt [⟨tg,iter,ifs,0⟩] scope pos) (GS X.K (jj ow fr ix) wi g tc te):=by
 intro pins s σ H Q I h;rw[eval_ListComp];refine C3 (use:=aD) rfl hs (DY λy hy e=>I.ok.has _ (S.free y hy e)) S.kind S.names (aX (hi pins s σ H _ I h) λv s1 h1=>aX h1 λitv s2 h2=>?_);exact Nc (RR:=λacc C=>compPost (model X.prog X.w) X.A X.xe aD (EP X pins σ Q) acc C) S hc hg ht he h2 λD C H' s' m _ hn hI q=>⟨m,hn,λh'' kR=>⟨.ref D,H',hI h'' kR,rfl,q⟩⟩
theorem Ud{i:Nat}{y:Str}{py spos:Pos}(hN:X.N.Nodup)(G6:X.N[i]?=aC y)(hy:Loc X.env.scope y)(S:aY X ow fr ix scope)(hc:X.calm)(hi:PI X tg iter wi)
 (hg:∀C s₀ H₀ ex,PG (X.comp (ow++fr) scope C s₀ H₀ ex) tg g) (ht:∀C s₀ H₀ ex,iX (X.comp (ow++fr) scope C s₀ H₀ ex) ifs tc) (he:∀C s₀ H₀ ex,PE (X.comp (ow++fr) scope C s₀ H₀ ex) elt te)
 (hsw:autoParam (swapsWith (.ListComp elt [⟨tg,iter,ifs,0⟩] scope pos) (aC (.Name y py)) spos.line X.env=pure true) L2.aR1._auto_1)
 (hf:autoParam (X.fn y=true\/X.env.scope.names.lookup y=aC .local) L2.aF1._auto_1)
 (hs:∀x,foldedSetIterable iter X.env x=pure x:=by intro _;rfl):PS X (.Assign [.Name y py] (.ListComp elt [⟨tg,iter,ifs,0⟩] scope pos) spos) (qi (GS X.K (jj ow fr ix) wi g tc te) (ic i)):=by
 intro pins s σ H D I h;rw[exec_Assign_Name_used _ _ _ _ hsw];refine aG (ni (aG ?_));show wpAny _ X.A (do let _ <-comprehension (.ListComp elt [⟨tg,iter,ifs,0⟩] scope pos) scope X.env _ (newList []) false (eval iter X.env) (aC (assign (.Name y py) X.env))) _ _ s;refine aG (gH (C3 (use:=aC (assign (.Name y py) X.env)) (Q:=λ_ s'=>SP X pins D .next s') rfl hs (DY λy hy e=>I.ok.has _ (S.free y hy e)) S.kind S.names
  (aX (hi pins s σ H _ I h) λv s1 h1=>aX h1 λitv s2 h2=>?_)) (λ_ s' hq=>aQ (aQ hq)) λ_ _ e=>e)
 refine Nc (Q:=λx H1=>ic i x σ H1 D.nx) (RR:=λacc C=>compPost (model X.prog X.w) X.A X.xe (aC (assign (.Name y py) X.env)) (λ_ s'=>SP X pins D .next s') acc C) S hc hg ht he h2 λd C H' s' m hC hn hI q=>?_;show wpAny _ X.A (assign (.Name y py) X.env (.ref d)) _ _ _;have I':Inv X pins σ H' s':=by have z:=hI s'.heap (.refl ..);exact z
 refine wpAny_assign_Name (F0 I' hN G6 hy (v:=.ref d) rfl (λs'' G7 ⟨a,G8,ha⟩=>?_) hf);obtain⟨c0,c1,c2,c3,c4,c5⟩:=hC;have G9:C≠a:=by rcases ha with rfl|ha;exact c1;exact λz=>c4 _ _ ha z.symm
 refine⟨m,hn.sameBut G8 G9,λh'' kR=>⟨_,H',G7.turned (t':=s''.toks) (it:=C) (λb o hb e=>(kR.2 b hb).trans e) c0 c1 c3 c4 c5,q⟩⟩
end
end L2
set_option maxHeartbeats 4000000
namespace L2
open PySem PySem.Spec PyProof.Rows
mutual
inductive Rp(K:aK)(M:ai->Prop)(H:Hp):V->aB->Prop
 |aL:Rp K M H .aL .none
 |bl (b:Bool):Rp K M H (.bl b) (.bool b)
 |int (i:Int):Rp K M H (.int i) (.int i)
 |str (x:Str):Rp K M H (.str x) (.str x)
 |tup {a:ai} {xs:List V} {ds:List aB}:bU K H a xs->¬M a->jO K M H xs ds->Rp K M H (.ref a) (.tuple ds)
 |lst {a:ai} {xs:List V} {ds:List aB}:cC K H a xs->¬M a->jO K M H xs ds->Rp K M H (.ref a) (.list ds)
inductive jO(K:aK)(M:ai->Prop)(H:Hp):List V->List aB->Prop
 |nil:jO K M H [] []
 |cons {x:V} {d:aB} {xs:List V} {ds:List aB}:Rp K M H x d->jO K M H xs ds->jO K M H (x::xs) (d::ds)
end
section
variable{K:aK}{M M':ai->Prop}{H H':Hp}
theorem jO.length:∀{xs:List V} {ds:List aB},jO K M H xs ds->xs.length=ds.length|_,_,.nil=>rfl|_,_,.cons _ t=>by simp[jO.length t]
end
section
variable{X:Cx}{pins:List (ai×Obj)}{σ:St}{H:Hp}{s:ah}{M:ai->Prop}
mutual
theorem Rp.reads(I:Inv X pins σ H s):∀{x:V} {d:aB} {u:af},Rp X.K M H x d->RelV x u->∃as,Reads s.heap u d as
 |_,_,_,.aL,r=>by cases r;exact⟨_,.none⟩
 |_,_,_,.bl b,r=>by cases r;exact⟨_,.bool b⟩
 |_,_,_,.int i,r=>by obtain⟨t,rfl⟩:=r;exact⟨_,.int i t⟩
 |_,_,_,.str x,r=>by obtain⟨t,rfl⟩:=r;exact⟨_,.str x t⟩
 |_,_,_,.tup h n rr,r=>by
  cases r;obtain⟨its,rv,p,_⟩:=I.tuple h;obtain⟨o,ho,hc,m,hd⟩:=p;obtain⟨as,ra⟩:=jO.reads I rr rv;exact⟨_,.tuple ho hc hd (by simpa using ra)⟩
 |_,_,_,.lst h n rr,r=>by
  cases r;obtain⟨its,rv,p,_⟩:=I.list h;obtain⟨o,m,ho,hc,_,hd⟩:=p;obtain⟨as,ra⟩:=jO.reads I rr rv;exact⟨_,.list ho hc hd (by simpa using ra)⟩
theorem jO.reads(I:Inv X pins σ H s):∀{xs:List V} {ds:List aB} {us:List af},jO X.K M H xs ds->Vals xs us->∃as,ReadsAll s.heap us ds as
 |_,_,_,.nil,.nil=>⟨_,.nil⟩
 |_,_,_,.cons r t,.cons q v=>by
  obtain⟨as,h1⟩:=Rp.reads I r q;obtain⟨bs,h2⟩:=jO.reads I t v;exact⟨_,.cons h1 h2⟩
end
noncomputable def An(K:aK):R2:=λx y H Q=>∃d e,Rp K (λ_=>False) H x d/\Rp K (λ_=>False) H y e/\SeqAt.shaped d=true/\SeqAt.shaped e=true/\Q (.bl (PyData.eqv d e)) H
noncomputable def Ao(K:aK):R2:=λx y H Q=>∃d e,Rp K (λ_=>False) H x d/\Rp K (λ_=>False) H y e/\SeqAt.shaped d=true/\SeqAt.shaped e=true/\Q (.bl (!PyData.eqv d e)) H
theorem Ue(hu:X.A.units+64<cLine):cH X (compareOp .Eq) (An X.K):=by intro pins s σ H x y v u Q I rx ry h;obtain⟨d,e,r1,r2,s1,s2,q⟩:=h;obtain⟨as,ra⟩:=r1.reads I rx;obtain⟨bs,rb⟩:=r2.reads I ry;exact PyProof.Rows.eq_dataH ra rb s1 s2 hu ⟨.bl _,H,I,rfl,q⟩
theorem Ug(hu:X.A.units+64<cLine):cH X (compareOp .NotEq) (Ao X.K):=by intro pins s σ H x y v u Q I rx ry h;obtain⟨d,e,r1,r2,s1,s2,q⟩:=h;obtain⟨as,ra⟩:=r1.reads I rx;obtain⟨bs,rb⟩:=r2.reads I ry;exact PyProof.Rows.ne_dataH ra rb s1 s2 hu ⟨.bl _,H,I,rfl,q⟩
end
section
variable{prog:aj}{w:ak}{A:ao}{E:af->ah->Prop}{s:ah}
theorem Nd{I t:ai}{k:Nat}{its:Array af}{y:af}{Q:af->ah->Prop}(hi:s.heap.IsTupleIter I t k)(ht:s.heap.IsTuple t its)(hy:its[k]?=aC y)
 (q:∀g,g.IsTupleIter I t (k+1)->Heap.SameBut I s.heap g->Q y {s with heap:=g}):wpAny (model prog w) A (Builtin.SmallTypes.nextOf (.ref I)) Q E s:=by
 obtain⟨oi,e1,e2,e3⟩:=id hi;obtain⟨ot,e4,_,kt,e5⟩:=ht;unfold Builtin.SmallTypes.nextOf;refine aG (nC (name:=Str.ofString "__next__") hi.typeIs Dz (kK Dz hi.typeIs F.entry_tuple_iterator_next ?_ (F.args_tuple_iterator_next_1 _)));show wpAny _ _ (field (.ref I) 0 >>= _) _ _ s;refine aG (gX e1 e3 (x:=.ref t) rfl ?_);show wpAny _ _ (if(Value.ref t==Value.none)=true then _ else _) _ _ s;rw[if_neg (show ¬((Value.ref t==Value.none)=true)from λz=>nomatch z)];show wpAny _ _ (field (.ref I) 1 >>= _) _ _ s;refine aG (gX e1 e3 (x:=.int k 0) rfl ?_);show wpAny _ _ (seqItems? (.ref t) >>= _) _ _ s;refine aG (mD e4 e5 ?_);simp only[xF,hy];refine aG (uK e1 e3 (by simp) (aQ ⟨y,rfl,aQ (q _ ?_ (nO ..))⟩));refine⟨_,sH _ e1 (DI (sV e3 _)),(Obj.cls_mapFields ..).trans e2,?_⟩;rw[sV e3];simp[rawInt]
theorem Hf{I t:ai}{k:Nat}{its:Array af}{Q:af->ah->Prop}(hA:A.handled=aD)(hi:s.heap.IsTupleIter I t k)(ht:s.heap.IsTuple t its)(hy:its[k]?=aD)
 (q:∀g e,Heap.ExtBut I s.heap g->(∃o,g.get? e=aC o/\o.cls=.type "StopIteration")->E (.ref e) {s with heap:=g}):wpAny (model prog w) A (Builtin.SmallTypes.nextOf (.ref I)) Q E s:=by
 obtain⟨oi,e1,e2,e3⟩:=id hi;obtain⟨ot,e4,_,kt,e5⟩:=ht;unfold Builtin.SmallTypes.nextOf;refine aG (nC (name:=Str.ofString "__next__") hi.typeIs Dz (kK Dz hi.typeIs F.entry_tuple_iterator_next ?_ (F.args_tuple_iterator_next_1 _)));show wpAny _ _ (field (.ref I) 0 >>= _) _ _ s;refine aG (gX e1 e3 (x:=.ref t) rfl ?_);show wpAny _ _ (if(Value.ref t==Value.none)=true then _ else _) _ _ s;rw[if_neg (show ¬((Value.ref t==Value.none)=true)from λz=>nomatch z)];show wpAny _ _ (field (.ref I) 1 >>= _) _ _ s;refine aG (gX e1 e3 (x:=.int k 0) rfl ?_);show wpAny _ _ (seqItems? (.ref t) >>= _) _ _ s;refine aG (mD e4 e5 ?_);simp only[xF,hy];refine aG (kM (aG (uK e1 e3 (by simp) ?_)));show wpAny _ _ (newExc (.type "StopIteration") [] >>= _) _ _ _;refine aG ?_;simp only[newExc,newTuple];refine aG (ju ?_ (by size_fits));refine aG (m:=firstArgMember _ _) (nj (a:=Value.none) (by first|rfl|(simp only[firstArgMember];rfl)) ?_);refine ju ?_ (by size_fits);simp only[raiseNew];refine aG (wpAny_handled ?_);first|rw[show A.in1.handled=aD from hA]|rw[hA]
 refine aG (aQ (wpAny_throw ?_));exact q _ _ (((nO ..).extBut.push _).push _) ⟨_,fG _ rfl,rfl⟩
end
theorem Nf{h h':aA}{a:ai}{its:Array af}(x:h.IsTuple a its)(e:∀o,h.get? a=aC o->h'.get? a=aC o):h'.IsTuple a its:=let⟨o,ho,r⟩:=x;⟨o,e _ ho,r⟩
theorem Uh{prog:aj}{w:ak}{A:ao}(hA:A.handled=aD)(I t:ai)(hne:t≠I)(its:Array af) :
 Draws prog w A I [I,t] its.size (λi v=>its[i]?=aC v) (λi h=>h.IsTupleIter I t i/\h.IsTuple t its)where
 live:=λ_ _ st=>let⟨o,ho,_⟩:=st.1;⟨o,ho⟩
 frame:=λ_ _ _ st hk=>⟨st.1.at λo e=>hk I (by simp) o e,Nf st.2 λo e=>hk t (by simp) o e⟩
 item:=λi s Q E hi st q=>Nd st.1 st.2 (y:=its[i]) (by simp[hi]) λg a b=>q _ g s.toks (by simp[hi]) ⟨a,st.2.extBut b.extBut hne⟩ b
 done:=λs Q E st q=>Hf hA st.1 st.2 (by simp) q
theorem Ui(l:ai)(its:Array af)(n:Nat)(dc:Option ai)(sl:Array (Option af)) :
 Meets (Builtin.«enumerate.__new__» ⟨[.type "enumerate",.ref l],[]⟩) (λ_ R s=>s.heap.get? l=aC {cls:=.type "tuple",dict:=dc,data:=.seq its n,slots:=sl}/\
  R (.ok (.ret (.ref (s.heap.push {cls:=.type "tuple_iterator",data:=.fields #[.ref l,.int 0 0]}).objs.size)))
   {s with heap:=(s.heap.push {cls:=.type "tuple_iterator",data:=.fields #[.ref l,.int 0 0]}).push {cls:=.type "enumerate",data:=.fields #[.none,.bool false,.ref s.heap.objs.size,rawInt 0,.none,.none]}}):=
 .of_wp λprog w A R s h=>by
  obtain⟨hp,g,d,tk,os⟩:=s;obtain⟨e,h⟩:=h;have hsub:=sub_enumerate;have hT:Heap.IsTuple (Shared.heap ⟨hp,g,d,tk,os⟩) l its:=⟨_,e,rfl,n,rfl⟩
  wp_walk using nN e;refine wpAny_stack_any λst=>aQ ?_;split;rename_i c _ _ _ _ _;cases(c==Value.type "enumerate")<;> (wp_walk using nN e,uG hT;exact⟨_,rfl,h⟩)
  .wp_walk using nN e,uG hT
   exact⟨_,rfl,h⟩
theorem Uj{prog:aj}{w:ak}{A:ao}{E:af->ah->Prop}{s:ah}{l:ai}{its:Array af}{Q:af->ah->Prop}(hL:s.heap.IsTuple l its)
 (h:∀g,IsEnum g (s.heap.objs.size+1) s.heap.objs.size 0 .none->g.IsTupleIter s.heap.objs.size l 0->g.objs.size=s.heap.objs.size+2->(∀b o,s.heap.get? b=aC o->g.get? b=aC o)->Q (.ref (s.heap.objs.size+1)) {s with heap:=g}) :
 wpAny (model prog w) A (call (.type "enumerate") [.ref l]) Q E s:=by
 obtain⟨⟨c,dc,dt,sl⟩,e1,e2,n,e3⟩:=hL
 replace e2:c=.type "tuple":=e2
 replace e3:dt=.seq its n:=e3;subst e2 e3;refine Dd F.called_enumerate (by decide) (F.typeCall_enumerate_1 _) (F.newCall_enumerate_1 _) (λobj=>F.args_object_init_2 obj _) F.entry_enumerate_new (Ui l its n dc sl) ⟨e1,?_⟩;have hz:(s.heap.push {cls:=.type "tuple_iterator",data:=.fields #[.ref l,.int 0 0]}).objs.size=s.heap.objs.size+1:=jv ..;show _/\_;rw[hz];have he:IsEnum ((s.heap.push {cls:=.type "tuple_iterator",data:=.fields #[.ref l,.int 0 0]}).push {cls:=.type "enumerate",data:=.fields #[.none,.bool false,.ref s.heap.objs.size,rawInt 0,.none,.none]}) (s.heap.objs.size+1) s.heap.objs.size 0 .none:=by rw[<-hz];exact fG _ rfl
 exact⟨⟨_,he,rfl⟩,h _ he ⟨_,b9 _ (fG _ rfl),rfl,rfl⟩ (by rw[jv,hz]) λb o x=>b9 _ (b9 _ x)⟩
noncomputable def vt(K:aK)(a:ai):It:=
 ⟨λi H=>∃xs x,bU K H a xs/\xs[i]?=aC x,λi H x H'=>∃T v,x=.ref T/\H T=aD/\H'=upd H T (.tup [.int i,v])/\∀xs,bU K H a xs->xs[i]?=aC v,λi H=>∃xs,bU K H a xs/\xs.length<=i⟩
theorem Uk{P:aj}{w:ak}{K:aK}{elts:List aq}{kx:Nat}{tp:Pos}(a e it:ai)(hei:e≠it)(Ul:a≠e)(hai:a≠it) :
 Turn P w K (.Tuple elts kx tp) (vt K a) [e,it] e (λi h=>(∃old,IsEnum h e it i old)/\h.IsTupleIter it a i)where
 mem:=by simp
 obj:=λi h st b hb=>by
  obtain⟨⟨old,he⟩,o,ho,hc,hd⟩:=st;rcases eG.mp hb with rfl|hb;exact⟨_,he,λv z=>by
   have z':Data.fields _=Data.cell v:=z;cases z'⟩
  have e':b=it:=by simpa using hb
  subst e';exact⟨o,ho,λv z=>by rw[hd]at z;cases z⟩
 keep:=λi h h' st k=>by
  obtain⟨⟨old,he⟩,st⟩:=st;exact⟨⟨old,k e (by simp) _ he⟩,st.at λo q=>k it (by simp) o q⟩
 item:=by
  intro X hP hw hK hc i pins s σ H E I hf st hg;subst hP hw hK;obtain⟨xs,x,hq,hx⟩:=hg;obtain⟨⟨old,he⟩,st⟩:=st;obtain⟨its,rv,p,hz⟩:=I.tuple hq;obtain⟨u,hu,ru⟩:=rv.get hx;have hd:X.A.in1.handled=aD:=I.ok.hd hc;have p:s.heap.IsTuple a its.toArray:=p;refine wpAny_pyNext_enum_itemD (Uh hd it a hai its.toArray) he ⟨st,p⟩ (by
   have:i<its.length:=by rw[<-rv.length];exact(jx.mp hx).1
   simpa using this) hei (by simp[hei,eL Ul]) λx' h1 tk hx' ho hit hT hsz hk=>?_
  obtain rfl:u=x':=by
   have:its[i]?=aC x':=by simpa using hx'
   rw[hu]at this;cases this;rfl
  refine⟨_,rfl,wpAny_letOwnedTupleGo_enum ho λh2 Um hs2=>?_⟩;have lH:H s.heap.objs.size=aD:=I.hok.fresh (aW _);have Ng:s.heap.objs.size≠e:=nk (cP he);have Uo:s.heap.objs.size≠it:=by obtain⟨o,q,_⟩:=st;exact nk (cP q)
  have hs2:Heap.SameBut e h1 h2:=hs2;have kk:∀b o,b≠e->b≠it->s.heap.get? b=aC o->h2.get? b=aC o:=λb o h1 h2 q=>(hs2.2 b h1).trans (hk b o h1 h2 q);have f0:=λb hb=>(hf b hb).1;have nE:∀b o,H b=aC o->b≠e/\b≠it:=λb o q=>⟨λz=>(by rw[z,f0 e (by simp)]at q;cases q),λz=>(by rw[z,f0 it (by simp)]at q;cases q)⟩
  have hT2:h2.get? s.heap.objs.size=aC {cls:=.type "tuple",data:=.seq #[.int i tk,u]}:=(hs2.2 _ Ng).trans hT;have I2:Inv X pins σ (upd H s.heap.objs.size (.tup [.int i,x])) {s with heap:=h2,gens:=s.gens,drawn:=s.drawn,toks:=tk+1}:=by
   refine I.step (ch:=[e,it]) (λb hb=>?_) (λb o _ _ hc e1 _=>kk b o (λz=>hc (by simp[z])) (λz=>hc (by simp[z])) e1) (λb o _ _ hc e1 _=>⟨o.slots,kk b o (λz=>hc (by simp[z])) (λz=>hc (by simp[z])) e1⟩)
    (λb o hc e1 n=>by rw[bW (fX (cP e1))];exact n) (λb o hc e1=>⟨o,kk b o (λz=>hc (by simp[z])) (λz=>hc (by simp[z])) e1⟩)
    (λb ys q=>by rw[bW (gW q lH)];exact q) (λb o u q=>by rw[bW (gW q lH)];exact q) (λb ps q=>⟨#[],by rw[bW (gW q lH),q];simp⟩) (λm hm=>?_) (λb ob q=>?_) I.bare
   obtain⟨_,a1,a2,a3,a4,a5⟩:=hf b hb;exact⟨a3,a1,a4,a5⟩;obtain⟨o,es,ep,ho',r⟩:=hm;exact⟨o,es,ep,kk _ o (eL (hf e (by simp)).2.1) (eL (hf it (by simp)).2.1) ho',r⟩;by_cases hb:b=s.heap.objs.size;subst hb;rw[gn]at q;cases q;exact⟨by show 2<=sizeLine;decide,[.int i tk,u],.cons ⟨_,rfl⟩ (.cons ru .nil),⟨_,hT2,rfl,⟨_,rfl⟩,rfl⟩⟩;rw[bW hb]at q;refine(I.hok b ob q).stay (λc v hc z=>kk c v ?_ ?_ z) (λc z=>by rw[bW (gW z lH)];exact z) λc ys z=>by rw[bW (gW z lH)];exact z
   rcases hc with rfl|hc;exact(nE c ob q).1;exact(nE c _ hc).1;rcases hc with rfl|hc;exact(nE c ob q).2;exact(nE c _ hc).2
  refine⟨.ref s.heap.objs.size,_,I2,rfl,⟨_,x,rfl,lH,rfl,λys hy=>by rw[I.eO hy hq];exact hx⟩,⟨⟨u,by simpa using Um⟩,hit.1.at λo q=>(hs2.2 it (eL hei)).trans q⟩,λb hb=>?_⟩;rw[bW ?_];exact f0 b hb;rcases eG.mp hb with rfl|hb
  exact eL Ng;have e':b=it:=by simpa using hb
  subst e';exact eL Uo
 done:=by
  intro X hP hw hK hc i pins s σ H E I hf st hg;subst hP hw hK;obtain⟨xs,hq,hx⟩:=hg;obtain⟨⟨old,he⟩,st⟩:=st;obtain⟨its,rv,p,hz⟩:=I.tuple hq;obtain⟨f0,f1,f2,f3,f4,f5⟩:=hf it (by simp);have hl:=rv.length;have hd:X.A.in1.handled=aD:=I.ok.hd hc;have p:s.heap.IsTuple a its.toArray:=p;refine PySem.wpAny_pyNext_enum_endD (n:=0) (P:=λ_ _=>True) (St:=λ_ h=>h.IsTupleIter it a i/\h.IsTuple a its.toArray) (fp:=[it,a]) ⟨?_,?_,?_,?_⟩ he ⟨st,p⟩ λh' eb=>⟨rfl,I.turned (t':=s.toks) (λb o hb q=>eb b o hb q) f0 f1 f3 f4 f5⟩
  exact λ_ _ st=>let⟨o,ho,_⟩:=st.1;⟨o,ho⟩;exact λ_ _ _ st hk=>⟨st.1.at λo e=>hk it (by simp) o e,Nf st.2 λo e=>hk a (by simp) o e⟩
  exact λj s' Q' E' hj=>absurd hj (Nat.not_lt_zero _);exact λs' Q' E' st' q'=>Hf hd st'.1 st'.2 (by simp;lia) q'
 self:=λ_ _ _ _ _ st h=>by
  obtain⟨⟨old,he⟩,_⟩:=st;exact wpAny_pyIter_enum he h
section
variable{κ:Type}[DecidableEq κ]
noncomputable def gM(kvs:List (κ×V))(k:κ):Option V:=(kvs.find? λkv=>decide (kv.1=k)).map (·.2)
noncomputable def putK(kvs:List (κ×V))(k:κ)(v:V):List (κ×V):=
 if(kvs.any λkv=>decide (kv.1=k))=true then kvs.map (λkv=>if kv.1=k then(kv.1,v)else kv)else kvs++[(k,v)]
theorem Eg{p:κ×V}{r:List (κ×V)}{k:κ}(e:p.1=k):gM (p::r) k=aC p.2:=by simp[gM,ko,e]
theorem Aq{p:κ×V}{r:List (κ×V)}{k:κ}(e:¬p.1=k):gM (p::r) k=gM r k:=by simp[gM,ko,e]
theorem Nh(k:κ):∀kvs:List (κ×V),(kvs.any λkv=>decide (kv.1=k))=(gM kvs k).isSome
 |[]=>rfl
 |p::r=>by
  rw[yZ];by_cases e:p.1=k;simp only[Eg e,fW e,Bool.true_or,Option.isSome_some];rw[Aq e,eF e,Bool.false_or];exact Nh k r
theorem Hg(kvs:List (κ×V))(k:κ)(v:V):(putK kvs k v).length<=kvs.length+1:=by unfold putK;split;rw[bT];lia;rw[fH,dj,p9];lia
theorem gZ.mP{o:Option V}{u:Option af}(r:gZ o u):o.isSome=u.isSome:=by
 cases o with
 |none=>cases u with
  |none=>rfl
  |some _=>exact(show False from r).elim
 |some _=>cases u with
  |none=>exact(show False from r).elim
  |some _=>rfl
theorem KV.val{kvs:List (κ×V)}{vs:List (κ×af)}(r:KV kvs vs)(k:κ):gZ (gM kvs k) (valueAt vs k):=by
 unfold KV at r;induction r with
 |nil=>exact True.intro
 | @cons p q ps qs h t ih=>
  obtain⟨h1,h2⟩:=h;by_cases e:p.1=k;have e':q.1=k:=h1.symm.trans e;have b:valueAt (q::qs) k=aC q.2:=by simp[valueAt,ko,e']
  rw[Eg e,b];exact h2;have e':¬q.1=k:=λz=>e (h1.trans z);have b:valueAt (q::qs) k=valueAt qs k:=by simp[valueAt,ko,e']
  rw[Aq e,b];exact ih
theorem KV.any{kvs:List (κ×V)}{vs:List (κ×af)}(r:KV kvs vs)(k:κ):(kvs.any λkv=>decide (kv.1=k))=vs.any λkv=>decide (kv.1=k):=by
 unfold KV at r;induction r with|nil=>rfl|cons h t ih=>rw[yZ,yZ,ih,h.1]
theorem KV.repl{kvs:List (κ×V)}{vs:List (κ×af)}(r:KV kvs vs)(k:κ){y:V}{u:af}(ry:RelV y u) :
 KV (kvs.map λkv=>if kv.1=k then(kv.1,y)else kv) (vs.map λkv=>if kv.1=k then(kv.1,u)else kv):=by
 unfold KV at r ⊢;induction r with
 |nil=>exact .nil
 | @cons p q ps qs h t ih=>
  rw[cu,cu];refine .cons ?_ ih;obtain⟨h1,h2⟩:=h;by_cases e:p.1=k;rw[if_pos e,if_pos (h1.symm.trans e)];exact⟨h1,ry⟩;rw[if_neg e,if_neg (λz=>e (h1.trans z))];exact⟨h1,h2⟩
theorem KV.put{kvs:List (κ×V)}{vs:List (κ×af)}(r:KV kvs vs)(k:κ){y:V}{u:af}(ry:RelV y u):KV (putK kvs k y) (stored vs k u):=by unfold putK stored;rw[r.any k];by_cases e:(vs.any λkv=>decide (kv.1=k))=true;rw[if_pos e,if_pos e];exact r.repl k ry;rw[if_neg e,if_neg e];exact Paired.snoc r ⟨rfl,ry⟩
theorem KV.length{kvs:List (κ×V)}{vs:List (κ×af)}(r:KV kvs vs):kvs.length=vs.length:=sW r
end
theorem lI{P:aj}{w:ak}{k:Key}{u:af}(r:RelV (kV k) u):(ku P w).is k u=true:=by
 cases k with|inl i=>obtain⟨t,e⟩:=(show ∃t,u=Value.int i t from r);subst e;exact Ro P w i t|inr x=>obtain⟨t,e⟩:=(show ∃t,u=Value.str x t from r);subst e;exact Rq P w x t
theorem Ni{P:aj}{w:ak}:∀{ks:List Key} {us:List af},Vals (ks.map kV) us->ItemsAre (ku P w) ks us
 |[],_,r=>by rw[qc]at r;cases r;exact .nil
 |k::ks,_,r=>by
  rw[cu]at r;cases r with|cons h t=>exact .cons (lI h) (Ni t)
noncomputable abbrev KT(H:Hp):List (List Key×V)->List (List Key×ai×af)->Prop:=Paired λp q=>p.1=q.1/\H q.2.1=aC (.tup (p.1.map kV))/\RelV p.2 q.2.2
theorem KT.val{H:Hp}{kvs:List (List Key×V)}{xs:List (List Key×ai×af)}(r:KT H kvs xs)(k:List Key):gZ (gM kvs k) ((atKey xs k).map (·.2)):=by
 induction r with
 |nil=>exact True.intro
 | @cons p q ps qs h t ih=>
  obtain⟨h1,_,h2⟩:=h;by_cases e:p.1=k;have e':q.1=k:=h1.symm.trans e;have b:atKey (q::qs) k=aC q.2:=by simp[atKey,ko,e']
  rw[Eg e,b];exact h2;have e':¬q.1=k:=λz=>e (h1.trans z);have b:atKey (q::qs) k=atKey qs k:=by simp[atKey,ko,e']
  rw[Aq e,b];exact ih
theorem KT.repl{H:Hp}{kvs:List (List Key×V)}{xs:List (List Key×ai×af)}(r:KT H kvs xs)(k:List Key){y:V}{u:af}(ry:RelV y u) :
 KT H (kvs.map λkv=>if kv.1=k then(kv.1,y)else kv) (xs.map (putAt k u)):=by
 induction r with
 |nil=>exact .nil
 | @cons p q ps qs h t ih=>
  rw[cu,cu];refine .cons ?_ ih;obtain⟨h1,h2,h3⟩:=h;unfold putAt;by_cases e:p.1=k;rw[if_pos e,if_pos (h1.symm.trans e)];exact⟨h1,h2,ry⟩;rw[if_neg e,if_neg (λz=>e (h1.trans z))];exact⟨h1,h2,h3⟩
theorem KT.put{H:Hp}{kvs:List (List Key×V)}{xs:List (List Key×ai×af)}(r:KT H kvs xs)(k:List Key){b:ai}{y:V}{u:af}(hb:H b=aC (.tup (k.map kV)))(ry:RelV y u) :
 KT H (putK kvs k y) (storedH xs k b u):=by
 have e:(kvs.any λkv=>decide (kv.1=k))=(atKey xs k).isSome:=by rw[Nh,(r.val k).mP,Option.isSome_map]
 unfold putK storedH;rw[e];by_cases q:(atKey xs k).isSome=true;rw[if_pos q,if_pos q];exact r.repl k ry;rw[if_neg q,if_neg q];exact Paired.snoc r ⟨rfl,hb,ry⟩
theorem KT.keeps{H H':Hp}{kvs:List (List Key×V)}{xs:List (List Key×ai×af)}(r:KT H kvs xs)(ht:∀b ys,H b=aC (.tup ys)->H' b=aC (.tup ys)):KT H' kvs xs:=
 Paired.uU r λ_ _ z=>⟨z.1,ht _ _ z.2.1,z.2.2⟩
section
variable{P:aj}{w:ak}{H:Hp}{h:aA}{a:ai}
theorem tE{u:HO}(ok:eW P w H h)(e:Rd H a u):bf P w H h a u:=e.ok ok
theorem jP{kvs:List (Key×V)}(ok:eW P w H h)(e:Rd H a (.dK kvs)):kvs.length<=sizeLine/\(a==sysModules)=false/\∃vs,KV kvs vs/\h.DictOf (ku P w) a vs:=
 show bf P w H h a (.dK kvs)from tE ok e
theorem tF{kvs:List (Key×V)}(ok:eW P w H h)(e:H a=aC (.dK kvs)):kvs.length<=sizeLine/\(a==sysModules)=false/\∃vs,KV kvs vs/\h.DictOf (ku P w) a vs:=jP ok (.inl e)
theorem Hh{ks:List Key}(ok:eW P w H h)(e:H a=aC (.tup (ks.map kV))):(tupleKind (ku P w)).is h ks a:=by
 obtain⟨_,its,r,o,h1,h2,⟨n,h3⟩,_⟩:=(show bf P w H h a (.tup (ks.map kV))from ok a _ e)
 exact⟨o,its.toArray,n,h1,h2,h3,by simpa using Ni r⟩
theorem n6{kvs:List (List Key×V)}(ok:eW P w H h)(e:Rd H a (.dT kvs)):kvs.length<=sizeLine/\(a==sysModules)=false/\
 ∃xs,KT H kvs xs/\h.DictOfH (tupleKind (ku P w)) a xs:=by
 obtain⟨z,y,xs,r,o,es,ep,h1,h2,h3,h4,h5⟩:=(show bf P w H h a (.dT kvs)from tE ok e)
 refine⟨z,y,xs,r,o,es,ep,h1,h2,h3,h4,λx hx=>?_,h5⟩;have all:∀{l:List (List Key×V)}{m:List (List Key×ai×af)},KT H l m->∀x∈m,(tupleKind (ku P w)).is h x.1 x.2.1:=by
  intro l m q;induction q with
  |nil=>intro x hx;exact nomatch hx
  | @cons p q ps qs hq t ih=>
   intro x hx;rcases eG.mp hx with e|hx
   subst e;exact Hh ok (by rw[<-hq.1];exact hq.2.1);exact ih x hx
 exact all r x hx
theorem Ar{kvs:List (List Key×V)}(ok:eW P w H h)(e:H a=aC (.dT kvs)):kvs.length<=sizeLine/\(a==sysModules)=false/\
 ∃xs,KT H kvs xs/\h.DictOfH (tupleKind (ku P w)) a xs:=n6 ok (.inl e)
end
noncomputable def qq(H:Hp)(a:ai)(y:V)(r:Option V):Prop:=
 (∃kvs k,Rd H a (.dK kvs)/\y=kV k/\r=gM kvs k)\/∃kvs k b,Rd H a (.dT kvs)/\y=.ref b/\H b=aC (.tup (k.map kV))/\r=gM kvs k
noncomputable def qt(H:Hp)(a:ai)(y v:V)(H':Hp):Prop:=
 (∃kvs k,H a=aC (.dK kvs)/\y=kV k/\kvs.length<sizeLine/\H'=upd H a (.dK (putK kvs k v)))\/
 ∃kvs k b,H a=aC (.dT kvs)/\y=.ref b/\H b=aC (.tup (k.map kV))/\kvs.length<sizeLine/\H'=upd H a (.dT (putK kvs k v))
theorem qt.k{H:Hp}{a:ai}{kvs:List (Key×V)}{k:Key}{v:V}(e:H a=aC (.dK kvs))(hl:kvs.length<sizeLine):qt H a (kV k) v (upd H a (.dK (putK kvs k v))):=.inl ⟨kvs,k,e,rfl,hl,rfl⟩
section
variable{X:Cx}{pins:List (ai×Obj)}{σ:St}{H:Hp}{s:ah}{a:ai}{y v:V}{u r:af}{o:Option V}{A:ao}{E:af->ah->Prop}
theorem Inv.big(I:Inv X pins σ H s):sysModules<s.heap.objs.size:=by have h:mainGlobals<s.heap.objs.size:=(I.mod.glob.keeps I.bk).lt;exact Nat.lt_trans (by decide) h
theorem Up{Q:af->ah->Prop}(hu:A.units+1<cLine)(I:Inv X pins σ H s)(g:qq H a y (aC v))(ry:RelV y u)(h:∀w' s',Inv X pins σ H s'->RelV v w'->Q w' s') :
 wpAny (model X.prog X.w) A (getItem (.ref a) u) Q E s:=by
 rcases g with⟨kvs,k,e,ey,l⟩|⟨kvs,k,b,e,ey,eb,l⟩;subst ey;obtain⟨z,hd,vs,rel,dd⟩:=jP I.hok e;obtain⟨w',hw,rw'⟩:=gZ.some_of (v:=v) (o:=valueAt vs k) (by rw[l];exact rel.val k);exact wpAny_getItem_of (lI ry) dd.mapOf hw (h w' _ (I.tok _) rw');subst ey;cases(show u=Value.ref b from ry);obtain⟨z,hd,xs,rel,dd⟩:=n6 I.hok e;obtain⟨w',hw,rw'⟩:=gZ.some_of (v:=v) (o:=(atKey xs k).map (·.2)) (by rw[l];exact rel.val k);obtain⟨p,hp,hp2⟩:=Option.map_eq_some_iff.mp hw;refine wpAny_getItem_heap (tupleKind_room_in1 hu) (Hh I.hok eb) dd hp ?_;rw[hp2];exact h w' _ (I.tok _) rw'
theorem zdt{h':aA}{t':Nat}{ob:HO}(I:Inv X pins σ H s)(mu:nQ (H a))(hs:Heap.SameBut a s.heap h')(he:∃q,h'.get? a=aC q)(new:bf X.prog X.w (upd H a ob) h' a ob) :
 Inv X pins σ (upd H a ob) {s with heap:=h',toks:=t'}:=
 I.write (x:=a) (e:=a) mu (.inl rfl) (λb q hb z=>(hs.2 b hb).trans z) he new
theorem Nj{P:aj}{w:ak}{H':Hp}{h':aA}{kvs:List (Key×V)}{vs:List (Key×af)}(z:kvs.length<=sizeLine)(hd:(a==sysModules)=false)(rel:KV kvs vs)(dd:h'.DictOf (ku P w) a vs) :
 bf P w H' h' a (.dK kvs):=⟨z,hd,vs,rel,dd⟩
theorem Uq{H':Hp}{Q:Unit->ah->Prop}(hu:A.units+1<cLine)(I:Inv X pins σ H s)(g:qt H a y v H')(ry:RelV y u)(rv:RelV v r)(h:∀s',Inv X pins σ H' s'->Q () s') :
 wpAny (model X.prog X.w) A (setItem (.ref a) u r) Q E s:=by
 rcases g with⟨kvs,k,e,ey,l,eH⟩|⟨kvs,k,b,e,ey,eb,l,eH⟩;subst ey eH;obtain⟨z,hd,vs,rel,dd⟩:=tF I.hok e;have hz:vs.length<=sizeLine:=by rw[<-rel.length];exact z
 have hl:(putK kvs k v).length<=sizeLine:=by have:=Hg kvs k v;lia
 refine wpAny_setItem_pairs (hsz:=hz) (lI ry) dd λh' mQ hs=>h _ ?_;have he:∃q,h'.get? a=aC q:=let⟨q,_,_,hq,_⟩:=mQ;⟨q,hq⟩;exact zdt I (by rw[e];exact True.intro) hs he (Nj hl hd (rel.put k rv) mQ);subst ey eH;cases(show u=Value.ref b from ry);obtain⟨z,hd,xs,rel,dd⟩:=Ar I.hok e;have hz:xs.length<=sizeLine:=by rw[<-sW rel];exact z
 have hl:(putK kvs k v).length<=sizeLine:=by have:=Hg kvs k v;lia
 refine wpAny_setItem_heap (hsz:=hz) (tupleKind_room_in1 hu) (Hh I.hok eb) dd λh' mQ hs=>h _ ?_;obtain⟨q,es,ep,hq,h2,h3,h4,_,h5⟩:=mQ;refine zdt I (by rw[e];exact True.intro) hs ⟨q,hq⟩ ⟨hl,hd,_,(rel.put k eb rv).keeps λc ys ec=>?_,q,es,ep,hq,h2,h3,h4,h5⟩;rw[bW (cU ec e (λz=>nomatch z))];exact ec
end
theorem Ur{X:Cx}{pins:List (ai×Obj)}{σ:St}{H:Hp}{s:ah}{a:ai}{y:V}{o:Option V}(I:Inv X pins σ H s)(g:qq H a y o):s.TypeIs (.ref a) "dict":=by rcases g with⟨kvs,k,e,_,_⟩|⟨kvs,k,b,e,_,_,_⟩;obtain⟨_,_,vs,_,dd⟩:=jP I.hok e;exact dd.typeIs;obtain⟨_,_,xs,_,dd⟩:=n6 I.hok e;exact dd.typeIs
theorem Nk{P:aj}{w:ak}{H:Hp}(h:aA)(hb:sysModules<h.objs.size):bf P w H (h.push {cls:=.type "dict",data:=.dict #[]}) h.objs.size (.dK []):=
 ⟨jw _,C2.mpr (eL (fX hb)),[],.nil,Heap.DictOf.new h⟩
noncomputable def Us:TE:=λ_ H Q=>∀p,H p=aD->Q (.ref p) (upd H p (.dK []))
section
variable{X:Cx}{pos:Pos}
theorem Ut:PE X (.Dict [] [] pos) Us:=λpins s σ H Q I h=>
 wpAny_Dict_empty ⟨.ref s.heap.objs.size,_,I.laid (a:=s.heap.objs.size) (o:=.dK []) (t':=s.toks) (λ_ _ q=>b9 _ q) (aW _) (Nk s.heap I.big),rfl,h _ (I.hok.fresh (aW _))⟩
end
noncomputable def Eh:List (TE×TE)->St->Hp->(List (V×V)->Hp->Prop)->Prop|[],_,H,Q=>Q [] H|(tk,tv)::r,σ,H,Q=>tk σ H λx H1=>tv σ H1 λy H2=>Eh r σ H2 λps H3=>Q ((x,y)::ps) H3
noncomputable abbrev VV:List (V×V)->List (af×af)->Prop:=Paired λp q=>RelV p.1 q.1/\RelV p.2 q.2
noncomputable def As(X:Cx)(pos:Pos)(keys:List (Option aq))(values:List aq)(lJ:List (TE×TE)):Prop:=
 ∀(pins:List (ai×Obj))(s:ah)(σ:St)(H:Hp)(Q:List (V×V)->Hp->Prop),Inv X pins σ H s->Eh lJ σ H Q->
  wpAny (model X.prog X.w) X.A (evalPairs (pairTrees keys values X.env pos)) (λvs s'=>∃ps H',Inv X pins σ H' s'/\VV ps vs/\Q ps H') X.xe s
theorem Uu{X:Cx}{pos:Pos}:As X pos [] [] []:=λpins s σ H Q I h=>pairTrees_nil_walk ⟨[],H,I,.nil,h⟩
theorem Uv{X:Cx}{pos:Pos}{k v:aq}{ks:List (Option aq)}{vs:List aq}{tk tv:TE}{lJ:List (TE×TE)}(hk:PE X k tk)(hv:PE X v tv)(hr:As X pos ks vs lJ) :
 As X pos (aC k::ks) (v::vs) ((tk,tv)::lJ):=λpins s σ H Q I h=>
 pairTrees_cons_walk (aX (hk pins s σ H _ I h) λu s1 z9=>z9.el λx H1 I1 rx q1=>aX (hv pins s1 σ H1 _ I1 q1) λw2 s2 z9=>z9.el λy H2 I2 ry q2=>
  aX (hr pins s2 σ H2 _ I2 q2) λws s3 ⟨ps,H3,I3,rel,q3⟩=>⟨(x,y)::ps,H3,I3,.cons ⟨rx,ry⟩ rel,q3⟩)
noncomputable def tG(kvs more:List (Key×V)):List (Key×V):=more.foldl (λacc kv=>putK acc kv.1 kv.2) kvs
theorem KV.merge:∀{more:List (Key×V)} {rs:List (Key×af)} {kvs:List (Key×V)} {vs:List (Key×af)},KV more rs->KV kvs vs->KV (tG kvs more) (merged vs rs):=by
 intro more rs kvs vs r;unfold KV at r;induction r generalizing kvs vs with
 |nil=>intro q;exact q
 | @cons p q ps qs h t ih=>
  intro r0;have e:KV (putK kvs p.1 p.2) (stored vs q.1 q.2):=by have:=r0.put p.1 h.2;rw[<-h.1];exact this
  exact ih e
theorem Nl:∀(more kvs:List (Key×V)),(tG kvs more).length<=kvs.length+more.length
 |[],kvs=>by show kvs.length<=kvs.length+0;lia
 |p::r,kvs=>by
  have h1:=Nl r (putK kvs p.1 p.2);have h2:=Hg kvs p.1 p.2;show(tG (putK kvs p.1 p.2) r).length<=_;rw[dj];lia
theorem Nm{P:aj}{w:ak}:∀{kvs:List (Key×V)} {ws:List (af×af)},VV (kvs.map λkv=>(kV kv.1,kv.2)) ws->∃rs,Carries (ku P w) ws rs/\KV kvs rs
 |[],_,r=>by rw[qc]at r;cases r;exact⟨[],True.intro,.nil⟩
 |p::kvs,_,r=>by
  rw[cu]at r;cases r with
  | @cons a b as bs h t=>
   obtain⟨rs,c,q⟩:=Nm (P:=P) (w:=w) t;obtain⟨b1,b2⟩:=b;exact⟨(p.1,b2)::rs,⟨lI h.1,rfl,c⟩,.cons ⟨rfl,h.2⟩ q⟩
structure M2(X:Cx)(o:aq)(m:Str)(apos:Pos)(e f:aq)(cpos:Pos):Prop where
 base:attributeBase o m X.env (eval o X.env)=eval o X.env
 few:((backTo cpos (starEach [e,f] X.env)).all (λx=>!x.1)&& (backToKw cpos (keywordEach [] X.env)).all (λx=>x.1.isSome)
  && decide (([e,f]:List aq).length+ ([]:List Keyword).length+ (if([]:List Keyword).isEmpty then 0 else 1)<30))=true
 line:(apos.endLine==cpos.line)=true
 trees:backTo cpos (starEach [e,f] X.env)=[(false,eval e X.env),(false,eval f X.env)]
noncomputable def jQ(e tg iter:aq)(ifs:List aq)(it acc:af)(env:Env)(emit:Sem Unit):Sem Fin:=do
 standAt iter.pos
 match <-pyNext it with
 |none=>pure (.done .next)
 |some v=>
  letOwnedTupleGo tg it v
  assign tg env v
  let ok <-xS ifs env
  if ok then emit
  again (.compLoop e 0 it acc env)
theorem Uw{prog:aj}{w:ak}{A:ao}{R:Result->ah->Prop}{s:ah}{e target iter:aq}{ifs:List aq}{it acc:af}{env:Env}{emit:Sem Unit}(he:compTurn e 0 it acc env=jQ e target iter ifs it acc env emit)
 (hd:(model prog w).den (.compLoop e 0 it acc env)=(compTurn e 0 it acc env).onRaise (λx=>do noteFrame x env;theTreesLotGoes x)) (hA:A.under (.compLoop e 0 it acc env)=A) (I:Nat->ah->Prop)
 (turn:∀n s,I n s->wpAny (model prog w) A (pyNext it) (λr s₁=>match r with
   |none=>R (.ok .next) s₁
   |some v=>wpAny (model prog w) A (letOwnedTupleGo target it v) (λ_ s₀=>wpAny (model prog w) A (assign target env v) (λ_ s₂=>
    wpAny (model prog w) A (xS ifs env) (λok s₃=>
     if ok=true then wpAny (model prog w) A emit (λ_ s₅=>∃m,m<n/\I m s₅) gJ s₃
     else ∃m,m<n/\I m s₃) gJ s₂) gJ s₀) gJ s₁) gJ s)
 (n:Nat) (h:I n s):codeAny (model prog w) A (.compLoop e 0 it acc env) R s:=by
 refine codeAny_loop rfl I (λn s hI=>?_) n h;rw[hd,hA];refine wpAny_noted (GQ ?_);rw[he];unfold jQ;refine aG (ni (aG (gH (turn n s hI) (λr s₁ h₁=>?_) λ_ _ z=>z)));cases r with
 |none=>exact aQ h₁
 |some v=>
  refine aG (gH h₁ (λ_ s₀ h₀=>?_) λ_ _ z=>z);refine aG (gH h₀ (λ_ s₂ h₂=>aG (gH h₂ (λok s₃ h₃=>?_) λ_ _ z=>z)) λ_ _ z=>z);cases ok with
  |true=>
   simp only[bQ]at h₃ ⊢;exact aG (gH h₃ (λ_ s₅ h₅=>aQ ⟨rfl,h₅⟩) λ_ _ z=>z)
  |false=>
   simp only[dh,cG]at h₃ ⊢;exact aQ ⟨rfl,h₃⟩
theorem Ux{prog:aj}{w:ak}{A:ao}{R:Result->ah->Prop}{s:ah}{e target iter:aq}{ifs:List aq}{rest:List Comprehension}{it acc:af}{env:Env}(hcl:clausesOf e=⟨target,iter,ifs,0⟩::rest)
 (hd:(model prog w).den (.compStart e 0 it acc env)=(compStart e 0 it acc env).onRaise (λx=>do noteFrame x env;standAt theWindowsPlace)) (hA:A.under (.compStart e 0 it acc env)=A)
 (h0:codeAny (model prog w) A (.compLoop e 0 it acc env) R s)
 (h:wpAny (model prog w) A (pyIter it) (λj s'=>codeAny (model prog w) A (.compLoop e 0 j acc env) R s') (notedBy (model prog w) A env λx s'=>R (.error x) s') s) :
 codeAny (model prog w) A (.compStart e 0 it acc env) R s:=by
 refine codeAny_of_tree ?_;rw[hd,hA];refine wpAny_notedAt ?_;unfold compStart;rw[hcl];show wpAny _ _ (ask >>= _) _ _ s;refine aG (wpAny_askSetting (xm ?_));split;first
  |exact aG (aQ (aQ (And.intro rfl h0)))
  |exact aQ (And.intro rfl h0)
 first
  |exact aG (kM (aG (ni (aG (gH h (λj s' h'=>aQ ⟨rfl,h'⟩) λ_ _ z=>z)))))
  |(refine aG (kM ?_);show wpAny _ _ (standAt iter.pos >>= _) _ _ s;exact aG (ni (aG (gH h (λj s' h'=>aQ ⟨rfl,h'⟩) λ_ _ z=>z))))
noncomputable abbrev TM:=St->Hp->(St->Hp->Prop)->Prop
noncomputable def PM(X:Cx)(emit:Sem Unit)(t:TM):Prop:=∀(pins:List (ai×Obj)) (s:ah) (σ:St) (H:Hp) (Q:St->Hp->Prop),Inv X pins σ H s->t σ H Q->wpAny (model X.prog X.w) X.A emit (λ_ s'=>∃σ' H',Inv X pins σ' H' s'/\Q σ' H') X.xe s
structure lK(P:aj)(w:ak)(e tg iter:aq)(ifs:List aq)(emit:af->Env->Sem Unit)(newAcc:Sem af)(ob:Obj)(u0:HO):Prop where
 cl:∃rest,clausesOf e=⟨tg,iter,ifs,0⟩::rest
 turn:∀it acc env,compTurn e 0 it acc env=jQ e tg iter ifs it acc env (emit acc env)
 dl:∀it acc env,(model P w).den (.compLoop e 0 it acc env)=(compTurn e 0 it acc env).onRaise (λx=>do noteFrame x env;theTreesLotGoes x)
 ds:∀it acc env,(model P w).den (.compStart e 0 it acc env)=(compStart e 0 it acc env).onRaise (λx=>do noteFrame x env;standAt theWindowsPlace)
 al:∀(A:ao) it acc env,A.under (.compLoop e 0 it acc env)=A
 as:∀(A:ao) it acc env,A.under (.compStart e 0 it acc env)=A
 new:∀(A:ao)(s:ah)(Q:af->ah->Prop)(E:af->ah->Prop),Q (.ref s.heap.objs.size) {s with heap:=s.heap.push ob}->wpAny (model P w) A newAcc Q E s
 ok:∀(H:Hp)(h:aA),sysModules<h.objs.size->bf P w H (h.push ob) h.objs.size u0
noncomputable def tH(J:It)(f:St)(g:TG)(tc:TT)(tm:TM)(u0:HO)(D:ai)(H1:Hp)(Q:Hp->Prop):Prop:=
 ∃W:Nat->Nat->St->Hp->Prop,(∃m,W 0 m f (upd H1 D u0))/\∀i m σ' H',W i m σ' H'->
  ((J.stop i H'/\Q H')\/(J.go i H'/\∀x H2,J.uZ i H' x H2->g x σ' H2 λσ2 H3=>tc σ2 H3 λb H4=>
    if b=true then tm σ2 H4 λkD H5=>∃m',m'<m/\W (i+1) m' kD H5
    else ∃m',m'<m/\W (i+1) m' σ2 H4))
noncomputable def Hi(K:aK)(f:St->St)(wi:TI)(g:TG)(tc:TT)(tm:ai->TM)(u0:HO):TE:=λσ H Q=>wi σ H λJ H1=>∀D,H1 D=aD->K.lookup D=aD->tH J (f σ) g tc (tm D) u0 D H1 λH'=>Q (.ref D) H'
section
variable{X:Cx}{ow fr:List Str}{ix:List Nat}{scope:az}{e tg iter:aq}{ifs:List aq}{pos:Pos}{wi:TI}{g:TG}{tc:TT}{tm:ai->TM}{emit:af->Env->Sem Unit}{newAcc:Sem af}{ob:Obj}{u0:HO}
theorem Nn{pins:List (ai×Obj)}{s:ah}{σ:St}{Q:VK}{RR:af->ai->Result->ah->Prop}(CK:lK X.prog X.w e tg iter ifs emit newAcc ob u0)(S:aY X ow fr ix scope)(hc:X.calm=true)
 (hg:∀C s₀ H₀ ex,PG (X.comp (ow++fr) scope C s₀ H₀ ex) tg g) (ht:∀C s₀ H₀ ex,iX (X.comp (ow++fr) scope C s₀ H₀ ex) ifs tc) (he:∀C s₀ H₀ ex D,PM (X.comp (ow++fr) scope C s₀ H₀ ex) (emit (.ref D) (X.comp (ow++fr) scope C s₀ H₀ ex).env) (tm D))
 {itv:af} {E:af->ah->Prop}
 (h:DP X pins σ tg (λJ H1=>∀D,H1 D=aD->X.K.lookup D=aD->tH J (jj ow fr ix σ) g tc (tm D) u0 D H1 λH'=>Q (.ref D) H') itv s)
 (fin:∀D C H' s' m,dG X pins H' C->s'.heap.Ns C m->(∀h'',Heap.SameBut C s'.heap h''->Inv X pins σ H' {s' with heap:=h''})->Q (.ref D) H'->RR (.ref D) C (.ok .next) s') :
 wpAny (model X.prog X.w) X.A newAcc (λacc s₃=>wpAny (model X.prog X.w) X.A (newFunctionEnv scope X.env.globals (ji X.env.cells scope.names []) [] X.env.qual aD .none (aC X.env)) (λcenv s₄=>
  codeAny (model X.prog X.w) X.A (.compStart e 0 itv acc {cenv with scope:=relabel scope X.env}) (RR acc cenv.locals) s₄) E s₃) E s:=by
 obtain⟨it,fp,tn,J,H1,ei,I1,T,st1,f1,hq⟩:=h;subst ei;have hD:H1 s.heap.objs.size=aD:=I1.hok.fresh (aW _);have GU:X.K.lookup s.heap.objs.size=aD:=by
  cases q:X.K.lookup s.heap.objs.size with|none=>rfl|some o=>exact absurd (cP (I1.iV _ _ q)) (kj _)
 obtain⟨W,⟨m0,w0⟩,turn⟩:=hq _ hD GU;have I3:Inv X pins σ (upd H1 s.heap.objs.size u0) {s with heap:=s.heap.push ob}:=I1.laid (t':=s.toks) (o:=u0) (λb u q=>b9 _ q) (aW _) (CK.ok _ _ I1.big);have nZ:∀b∈fp,b<s.heap.objs.size:=λb hb=>by
  obtain⟨o,ho,_⟩:=T.obj _ _ st1 b hb;exact cP ho
 have f3:∀b∈fp,dG X pins (upd H1 s.heap.objs.size u0) b:=λb hb=>⟨by rw[bW (fX (nZ b hb))];exact(f1 b hb).1,(f1 b hb).2⟩
 refine CK.new _ _ _ _ (M6 (λx c e=>(I3.cell x c (DZ (cells:=X.env.cells) scope.names [] (λx c e=>by cases e) x c e)).elim λv q=>q.lt) (λh₁ hns hk0 hnc=>?_));dsimp only at hns hk0 hnc ⊢;generalize Al:({s with heap:=s.heap.push ob}:ah)=s3 at I3;have vm:s3.heap=s.heap.push ob:=by rw[<-Al]
 rw[<-vm]at hns hk0 hnc ⊢;have hk:∀b o,s3.heap.get? b=aC o->h₁.get? b=aC o:=hk0;have vn:∀b∈fp,b<s3.heap.objs.size:=λb hb=>by rw[vm,jv];exact xr (nZ b hb)
 have J3:=M9 S I3 f3 vn (tk:=s.toks) hns hk hnc;have st3:tn 0 h₁:=T.keep _ _ _ st1 λb hb o q=>hk b o (by rw[vm];exact b9 _ q);generalize mR:X.comp (ow++fr) scope s3.heap.objs.size s3 (upd H1 s.heap.objs.size u0) fp=Y at J3;have vp:∀b∈fp,Y.Ok->∀{H':Hp},H' b=aD->dG Y [] H' b:=λb hb ok H' hn=>by
  subst mR;exact⟨hn,(ok.xK b hb).1,ok.mJ b hb,.inl hb,(ok.xK b hb).2,λp hp=>by cases(show p∈([]:List (ai×Obj))from hp)⟩
 have back:∀{σ':St}{H':Hp}{s':ah},Inv Y [] σ' H' s'->∀h'',Heap.SameBut s3.heap.objs.size s'.heap h''->Inv X pins σ H' {s' with heap:=h''}:=λ{σ' H' s'} I' h'' hs=>by
  subst mR;have nv:∀b o,s3.heap.get? b=aC o->b≠s3.heap.objs.size:=λb o q=>fX (cP q);have un:Un (frs X.stack) fp (upd H1 s.heap.objs.size u0) H' s3.heap h'':=
   ⟨λb o q n hb hx=>(hs.2 b (nv b o q)).trans (I'.base.keep b o q n hb hx),λb o q n hb hx=>by
    obtain⟨sl,z⟩:=I'.base.slot b o q n hb hx;exact⟨sl,(hs.2 b (nv b o q)).trans z⟩,I'.base.free,λb o q hx=>by
    obtain⟨o',z⟩:=I'.base.there b o q hx;exact⟨o',(hs.2 b (nv b o q)).trans z⟩,I'.base.tups,I'.base.g9,I'.base.iL⟩
  have hok:eW X.prog X.w H' h'':=λb ob q=>by
   refine(I'.hok b ob q).stay (λc w' hcc z=>(hs.2 c ?_).trans z) (λ_ z=>z) λ_ _ z=>z;rintro rfl;have hfree:=I'.free;rcases hcc with rfl|hcc
   rw[show H' s3.heap.objs.size=aD from hfree]at q;cases q;rw[show H' s3.heap.objs.size=aD from hfree]at hcc;cases hcc
  have hos:s'.os=s3.os:=I'.os;exact I3.sZ (s':={s' with heap:=h''}) (ch:=fp) hos un hok I'.bare λb hb=>by
   obtain⟨_,a1,a2,a3,a4,a5⟩:=f1 b hb;exact⟨a3,a1,a4,a5⟩
 have Au:Y.prog=X.prog:=by subst mR;rfl
 have Av:Y.w=X.w:=by subst mR;rfl
 have Np:Y.K=X.K:=by subst mR;rfl
 have Aw:Y.A=X.A:=by subst mR;rfl
 have Nq:Y.calm=true:=by rw[<-mR];exact hc
 have Hj:Y.xe=gJ:=by subst mR;rfl
 have Nr:Y.env.locals=s3.heap.objs.size:=by subst mR;rfl
 have hg':PG Y tg g:=by rw[<-mR];exact hg _ _ _ _
 have ht':iX Y ifs tc:=by rw[<-mR];exact ht _ _ _ _
 have he':∀D,PM Y (emit (.ref D) Y.env) (tm D):=λD=>by rw[<-mR];exact he _ _ _ _ D
 have loop:∀s4:ah,Inv Y [] (jj ow fr ix σ) (upd H1 s.heap.objs.size u0) s4->tn 0 s4.heap->codeAny (model X.prog X.w) X.A (.compLoop e 0 (.ref it) (.ref s.heap.objs.size) Y.env) (RR (.ref s.heap.objs.size) s3.heap.objs.size) s4:=by
  intro s4 I4 GV;refine Uw (CK.turn _ _ _) (CK.dl _ _ _) (CK.al _ _ _ _) (λn s'=>∃i σ' H',Inv Y [] σ' H' s'/\tn i s'.heap/\(∀b∈fp,H' b=aD)/\W i n σ' H') ?_ m0 ⟨0,_,_,I4,GV,λb hb=>(f3 b hb).1,w0⟩;rintro n s5 ⟨i,kD,H5,I5,mK,qj,w5⟩;rcases turn i n kD H5 w5 with⟨stop,q⟩|⟨go,step⟩
  .have td:=T.done Y Au Av Np Nq i [] s5 kD H5 gJ I5 (λb hb=>vp b hb I5.ok (qj b hb)) mK stop
   rw[Aw]at td;refine aX td λr s6 bM=>?_;obtain⟨hr,I6⟩:=bM;subst hr;obtain⟨m6,Ec,_⟩:=I6.loc;rw[Nr]at Ec;have Nt:=I6.free;rw[Nr]at Nt;exact fin _ _ H5 s6 m6 (I3.jI (aW _) Nt) Ec (back I6) q
  have td:=T.item Y Au Av Np Nq i [] s5 kD H5 gJ I5 (λb hb=>vp b hb I5.ok (qj b hb)) mK go;rw[Aw]at td;refine aX td λr s6 bM=>?_;obtain⟨u,hr,h6⟩:=bM;subst hr;refine aX h6 λ_ s7 bM=>?_;obtain⟨x,H7,I7,r7,y7,vq,GW⟩:=bM;have GX:=I7.pinned (λb hb=>vp b hb I7.ok (GW b hb)) (T.obj _ _ vq);have again:∀{jN:St}{H8:Hp}{s8:ah}{m':Nat},Inv Y ([]++u5 fp s7.heap) jN H8 s8->m'<n->W (i+1) m' jN H8->∃m,m<n/\∃i σ' H',Inv Y [] σ' H' s8/\tn i s8.heap/\(∀b∈fp,H' b=aD)/\W i m σ' H':=λ{jN H8 s8 m'} I8 hm w8=>by
   refine⟨m',hm,i+1,jN,H8,I8.dw,T.keep _ _ _ vq λb hb o q=>(I8.pin (b,o) (gV _ (gV _ (tw hb q)))).1,λb hb=>?_,w8⟩;obtain⟨o,q,d⟩:=T.obj _ _ vq b hb;exact(I8.pin (b,o) (gV _ (gV _ (tw hb q)))).2.1
  have q7:=hg' _ s7 kD H7 x u _ GX r7 (step x H7 y7);rw[Au,Av,Aw,Hj]at q7;refine aX q7 λ_ s8 bM=>?_;obtain⟨jN,H8,I8,q8⟩:=bM;have q8:=ht' _ s8 jN H8 _ I8 q8;rw[Au,Av,Aw,Hj]at q8;refine aX q8 λok s9 z9=>z9.el λH9 I9 q9=>?_;cases ok with
  |false=>
   simp only[dh,cG]at q9 ⊢;obtain⟨m',hm,w9⟩:=q9;exact again I9 hm w9
  |true=>
   simp only[bQ]at q9 ⊢;have Nu:=he' _ _ s9 jN H9 _ I9 q9;rw[Au,Av,Aw,Hj]at Nu;exact aX Nu λ_ GY ⟨Uy,GZ,G0,m',hm,G4⟩=>again G0 hm G4
 have Ef:Inv Y [] (jj ow fr ix σ) (upd H1 s.heap.objs.size u0) {s with heap:=h₁,toks:=s.toks}:=by rw[<-Al]at J3;exact J3
 have hl:=loop _ Ef st3;obtain⟨rest,hcl⟩:=CK.cl;have fin':=Ux hcl (CK.ds _ _ _) (CK.as _ _ _ _) hl (T.self _ 0 _ _ _ st3 hl);rw[<-mR]at fin';exact fin'
theorem Ax(CK:lK X.prog X.w e tg iter ifs emit newAcc ob u0)(hev:eval e X.env=comprehension e scope X.env pos newAcc false (eval iter X.env))(S:aY X ow fr ix scope)(hc:X.calm)(hi:PI X tg iter wi)
 (hg:∀C s₀ H₀ ex,PG (X.comp (ow++fr) scope C s₀ H₀ ex) tg g) (ht:∀C s₀ H₀ ex,iX (X.comp (ow++fr) scope C s₀ H₀ ex) ifs tc) (he:∀C s₀ H₀ ex D,PM (X.comp (ow++fr) scope C s₀ H₀ ex) (emit (.ref D) (X.comp (ow++fr) scope C s₀ H₀ ex).env) (tm D))
 (hs:∀x,foldedSetIterable iter X.env x=pure x):PE X e (Hi X.K (jj ow fr ix) wi g tc tm u0):=by
 intro pins s σ H Q I h;rw[hev];obtain⟨rest,hcl⟩:=CK.cl;refine C3 (use:=aD) hcl hs (DY λy hy e=>I.ok.has _ (S.free y hy e)) S.kind S.names (aX (hi pins s σ H _ I h) λv s1 h1=>aX h1 λitv s2 h2=>?_);exact Nn (RR:=λacc C=>compPost (model X.prog X.w) X.A X.xe aD (EP X pins σ Q) acc C) CK S hc hg ht he h2 λD C H' s' m _ hn hI q=>⟨m,hn,λh'' kR=>⟨.ref D,H',hI h'' kR,rfl,q⟩⟩
theorem Uz{i:Nat}{y:Str}{py spos:Pos}(CK:lK X.prog X.w e tg iter ifs emit newAcc ob u0)(hev:∀use,evalThenUse e X.env use=(do let _ <-comprehension e scope X.env pos newAcc false (eval iter X.env) (aC use)))(hN:X.N.Nodup)(G6:X.N[i]?=aC y)(hy:Loc X.env.scope y)(S:aY X ow fr ix scope)(hc:X.calm)(hi:PI X tg iter wi)
 (hg:∀C s₀ H₀ ex,PG (X.comp (ow++fr) scope C s₀ H₀ ex) tg g) (ht:∀C s₀ H₀ ex,iX (X.comp (ow++fr) scope C s₀ H₀ ex) ifs tc) (he:∀C s₀ H₀ ex D,PM (X.comp (ow++fr) scope C s₀ H₀ ex) (emit (.ref D) (X.comp (ow++fr) scope C s₀ H₀ ex).env) (tm D))
 (hsw:swapsWith e (aC (.Name y py)) spos.line X.env=pure true) (hf:X.fn y=true\/X.env.scope.names.lookup y=aC .local)
 (hs:∀x,foldedSetIterable iter X.env x=pure x):PS X (.Assign [.Name y py] e spos) (qi (Hi X.K (jj ow fr ix) wi g tc tm u0) (ic i)):=by
 intro pins s σ H D I h;rw[exec_Assign_Name_used _ _ _ _ hsw];refine aG (ni (aG ?_));rw[hev];obtain⟨rest,hcl⟩:=CK.cl;refine aG (gH (C3 (use:=aC (assign (.Name y py) X.env)) (Q:=λ_ s'=>SP X pins D .next s') hcl hs (DY λy hy e=>I.ok.has _ (S.free y hy e)) S.kind S.names
  (aX (hi pins s σ H _ I h) λv s1 h1=>aX h1 λitv s2 h2=>?_)) (λ_ s' hq=>aQ (aQ hq)) λ_ _ e=>e)
 refine Nn (Q:=λx H1=>ic i x σ H1 D.nx) (RR:=λacc C=>compPost (model X.prog X.w) X.A X.xe (aC (assign (.Name y py) X.env)) (λ_ s'=>SP X pins D .next s') acc C) CK S hc hg ht he h2 λd C H' s' m hC hn hI q=>?_;show wpAny _ X.A (assign (.Name y py) X.env (.ref d)) _ _ _;have I':Inv X pins σ H' s':=hI s'.heap (.refl ..);refine wpAny_assign_Name (F0 I' hN G6 hy (v:=.ref d) rfl (λs'' G7 ⟨a,G8,ha⟩=>?_) hf);obtain⟨c0,c1,c2,c3,c4,c5⟩:=hC;have G9:C≠a:=by rcases ha with rfl|ha;exact c1;exact λz=>c4 _ _ ha z.symm
 exact⟨m,hn.sameBut G8 G9,λh'' kR=>⟨_,H',G7.turned (t':=s''.toks) (it:=C) (λb o hb q=>(kR.2 b hb).trans q) c0 c1 c3 c4 c5,q⟩⟩
end
theorem UA:fillsNumberSlot (.type "tuple") "mul" = pure false:=
 PySem.fillsNumberSlot_seq (id:="tuple.__mul__") (r:=aC (.builtin "tuple.__rmul__")) zc.lookup (by decide +kernel) F.slot_tuple_rmul.lookup (by decide +kernel)
theorem UB:seqRepeat? (.type "tuple")=pure (aC (.builtin "tuple.__mul__")):=by unfold seqRepeat?;rw[PySem.seqSlot_of (T:="tuple") (name:="__mul__") (id:="tuple.__mul__") zc.lookup (by decide +kernel),PySem.seqSlot_of (T:="tuple") (name:="__rmul__") (id:="tuple.__rmul__") F.slot_tuple_rmul.lookup (by decide +kernel)];rfl
theorem UC(k:Int)(t:Tok)(l:ai)(its:Array af)(n:Nat)(dd:Option ai)(sl:Array (Option af)) :
 Meets (Builtin.«int.__rmul__» ⟨[.int k t,.ref l],[]⟩) (λ_ R s=>s.heap.get? l=aC {cls:=.type "tuple",dict:=dd,data:=.seq its n,slots:=sl}/\R (.ok (.ret Value.notImplemented)) s):=
 .of_wp λprog w A R s h=>by
  obtain⟨hp,g,d,tk,os⟩:=s;obtain⟨e,h⟩:=h
  wp_walk using nN e;exact⟨_,rfl,h⟩
theorem UD(l:ai)(its:Array af)(n:Nat)(dd:Option ai)(sl:Array (Option af))(k:Int)(t:Tok)(h1:¬(decide (k < -(2 ^ 63))||decide (k>=2 ^ 63)))(h2:(its.isEmpty||k==1)) :
 Meets (Builtin.«tuple.__mul__» ⟨[.ref l,.int k t],[]⟩) (λ_ R s=>s.heap.get? l=aC {cls:=.type "tuple",dict:=dd,data:=.seq its n,slots:=sl}/\R (.ok (.ret (.ref l))) s):=
 .of_wp λprog w A R s h=>by
  obtain⟨hp,g,d,tk,os⟩:=s;obtain⟨e,h⟩:=h;have f1:=AutoSeq1.idx_int
  wp_walk using nN e;refine xm ?_;rw[if_neg h1]
  wp_walk using nN e;exact⟨_,rfl,h⟩
theorem UE(l:ai)(its:Array af)(n:Nat)(dd:Option ai)(sl:Array (Option af))(k:Int)(t:Tok)(h1:¬(decide (k < -(2 ^ 63))||decide (k>=2 ^ 63)))(h2:¬(its.isEmpty||k==1))(h3:(decide (k<=0)||its.isEmpty)) :
 Meets (Builtin.«tuple.__mul__» ⟨[.ref l,.int k t],[]⟩) (λ_ R s=>s.heap.get? l=aC {cls:=.type "tuple",dict:=dd,data:=.seq its n,slots:=sl}/\R (.ok (.ret (.ref s.heap.objs.size))) {s with heap:=s.heap.push {cls:=.type "tuple",data:=.seq #[]}}):=
 .of_wp λprog w A R s h=>by
  obtain⟨hp,g,d,tk,os⟩:=s;obtain⟨e,h⟩:=h;have f1:=AutoSeq1.idx_int
  wp_walk using nN e;refine xm ?_;rw[if_neg h1]
  wp_walk using nN e;exact⟨_,rfl,h⟩
theorem UG(l:ai)(its:Array af)(n:Nat)(dd:Option ai)(sl:Array (Option af))(k:Int)(t:Tok)(h1:¬(decide (k < -(2 ^ 63))||decide (k>=2 ^ 63)))(h2:¬(its.isEmpty||k==1))(h3:¬(decide (k<=0)||its.isEmpty)=true)
 (h4:¬(its.size*k> (2 ^ 63-1)/8)) (h5:¬Builtin.Tuple.tupleTooMany (its.size*k)) (h6:((bE k.toNat its).foldl (· ++ ·) #[]).size<=sizeLine) :
 Meets (Builtin.«tuple.__mul__» ⟨[.ref l,.int k t],[]⟩) (λ_ R s=>s.heap.get? l=aC {cls:=.type "tuple",dict:=dd,data:=.seq its n,slots:=sl}/\R (.ok (.ret (.ref s.heap.objs.size))) {s with heap:=s.heap.push {cls:=.type "tuple",data:=.seq ((bE k.toNat its).foldl (· ++ ·) #[])}}):=
 .of_wp λprog w A R s h=>by
  obtain⟨hp,g,d,tk,os⟩:=s;obtain⟨e,h⟩:=h;have f1:=AutoSeq1.idx_int
  wp_walk using nN e;refine xm ?_;rw[if_neg h1]
  wp_walk using nN e;refine xm ?_;rw[if_neg h4]
  wp_walk using nN e;exact⟨_,rfl,h⟩
section
variable{X:Cx}
noncomputable def tK(K:aK):R2:=λx y H Q=>∃a k xs,x=.ref a/\y=.int k/\bU K H a xs/\-(2 ^ 62)<=k/\k<2 ^ 62/\xs.length*k.toNat<=sizeLine/\
 ((xs.isEmpty||k==1)=true->Q (.ref a) H)/\((xs.isEmpty||k==1)=false->∀p,H p=aD->Q (.ref p) (upd H p (.tup (bE k.toNat xs).flatten)))
theorem Nv{xs:List V}{us:List af}(r:Vals xs us):us.toArray.isEmpty=xs.isEmpty:=by cases r<;>rfl
theorem UH:cH X (binaryOp .Mult) (tK X.K):=by
 intro pins s σ H x y v u Q I rx ry h;obtain⟨a,k,xs,rfl,rfl,ha,k1,k2,hz,q1,q2⟩:=h;cases rx;obtain⟨t,rfl⟩:=ry;obtain⟨its,r,p,_⟩:=I.tuple ha;obtain⟨⟨c,dd,dt,sl⟩,e1,e2,n,e3⟩:=p
 replace e2:c=.type "tuple":=e2
 replace e3:dt=.seq its.toArray n:=e3;subst e2 e3;have hl:xs.length=its.length:=r.length;have h1:¬(decide (k < -(2 ^ 63))||decide (k>=2 ^ 63))=true:=by simp only[pA,eE];lia
 refine wpAny_binaryOp_repeat_ref (T:="tuple") (U:="int") (by decide) ⟨_,e1,rfl⟩ (λs'=>yR s' k t) UA F.fills_int_mul DC UB F.slot_int_index.lookup
  (nF DC (yR s k t) F.entry_int_rmul (F.args_int_rmul_2 _ _) (UC k t a its.toArray n dd sl) ⟨e1,rfl,⟨_,e1,rfl⟩,?_⟩)
 by_cases h2:(its.toArray.isEmpty||k==1)=true;refine nF zc ⟨_,e1,rfl⟩ F.entry_tuple_mul (F.args_tuple_mul_2 _ _) (UD a its.toArray n dd sl k t h1 h2) ⟨e1,?_⟩;exact⟨.ref a,H,I,rfl,q1 (by rw[<-Nv r];exact h2)⟩;have q2:=q2 (by rw[<-Nv r];simpa using h2);by_cases h3:(decide (k<=0)||its.toArray.isEmpty)=true;have hk:k.toNat=0:=by
  have:its.toArray.isEmpty=false:=by
   cases q:its.toArray.isEmpty with|false=>rfl|true=>rw[q]at h2;exact absurd rfl h2
  rw[this,Bool.or_false,eE]at h3;lia
 refine nF zc ⟨_,e1,rfl⟩ F.entry_tuple_mul (F.args_tuple_mul_2 _ _) (UE a its.toArray n dd sl k t h1 h2 h3) ⟨e1,?_⟩;rw[hk]at q2;exact⟨.ref s.heap.objs.size,_,I.laid (t':=s.toks) (o:=.tup []) (λb ob q=>b9 _ q) (aW _) ⟨jw _,[],.nil,jF.new _ _⟩,rfl,q2 _ (I.hok.fresh (aW _))⟩;have hk:0<k:=by simp only[pA,eE,not_or]at h3;lia
 have hkn:((k.toNat:Nat):Int)=k:=Int.toNat_of_nonneg (by lia);have hmul:(its.toArray.size:Int)*k=((xs.length*k.toNat:Nat):Int):=by rw[di,<-hl,Int.natCast_mul,hkn]
 have hsl:(sizeLine:Nat)=16777216:=rfl;have fl:(bE k.toNat its.toArray).foldl (· ++ ·) #[]=(bE k.toNat its).flatten.toArray:=by
  have:=zev its k.toNat []
  rw[nu]at this;exact this
 refine nF zc ⟨_,e1,rfl⟩ F.entry_tuple_mul (F.args_tuple_mul_2 _ _) (UG a its.toArray n dd sl k t h1 h2 h3 (by rw[hmul];lia) (by
  unfold Builtin.Tuple.tupleTooMany;rw[hmul,eE];lia) (by rw[fl,di,GA,Nat.mul_comm,<-hl];exact hz)) ⟨e1,?_⟩
 rw[fl];exact⟨.ref s.heap.objs.size,_,I.laid (t':=s.toks) (o:=.tup (bE k.toNat xs).flatten) (λb ob q=>b9 _ q) (aW _) ⟨by rw[GA,Nat.mul_comm];exact hz,_,r.rep k.toNat,jF.new _ _⟩,rfl,q2 _ (I.hok.fresh (aW _))⟩
noncomputable def Nx(K:aK):R2:=λx y H Q=>∃a b ys,x=.ref a/\y=.ref b/\bU K H a []/\bU K H b ys/\Q (.ref b) H
theorem UI:cH X (binaryOp .Add) (Nx X.K):=by
 intro pins s σ H x y v u Q I rx ry h;obtain⟨a,b,ys,rfl,rfl,ha,hb,q⟩:=h;cases rx;cases ry;obtain⟨its,r1,p1,_⟩:=I.tuple ha;obtain⟨its2,r2,p2,_⟩:=I.tuple hb;cases r1;obtain⟨⟨c,dd,dt,sl⟩,e1,e2,n,e3⟩:=p1;obtain⟨⟨c2,dd2,UJ,sl2⟩,f1,f2,n2,f3⟩:=p2
 replace e2:c=.type "tuple":=e2
 replace e3:dt=.seq ([]:List af).toArray n:=e3
 replace f2:c2=.type "tuple":=f2
 replace f3:UJ=.seq its2.toArray n2:=f3;subst e2 e3 f2 f3;exact concat_meets ⟨_,e1,rfl⟩ ⟨_,f1,rfl⟩ yN yQ zb za (y9 _ _) (tuple_addW0 a b ([]:List af).toArray its2.toArray n n2 dd dd2 sl sl2 rfl) ⟨e1,f1,⟨.ref b,H,I,rfl,q⟩⟩
noncomputable def dO(ds:List aB)(d:aB):Bool:=ds.any λe=>PyData.eqv e d
noncomputable def qw(K:aK)(neg:Bool):R2:=λx y H Q=>∃p xs ds d,y=.ref p/\(cC K H p xs\/bU K H p xs)/\jO K (λ_=>False) H xs ds/\Rp K (λ_=>False) H x d/\ds.all SeqAt.shaped=true/\SeqAt.shaped d=true/\Q (.bl (if neg then !dO ds d else dO ds d)) H
theorem Hl{h:aA}:∀{us:List af} {ds:List aB} {as:List ai} {i:Nat} {u:af},ReadsAll h us ds as->us[i]?=aC u->∃d bs,ds[i]?=aC d/\Reads h u d bs
 |_,_,_,i,u,.nil,e=>by simp at e
 |_,_,_,0,u,.cons r _,e=>by simp at e;subst e;exact⟨_,_,rfl,r⟩
 |_,_,_,i+1,u,.cons _ rs,e=>by
  obtain⟨d,bs,h1,h2⟩:=Hl rs (by simpa using e);exact⟨d,bs,by simpa using h1,h2⟩
open Classical in
noncomputable def dZ(us:List af)(ds:List aB)(d:aB)(u:af):Bool:=decide (∃(i:Nat) (e:aB),us[i]?=aC u/\ds[i]?=aC e/\PyData.eqv e d=true)
open Classical in
theorem Ei{us:List af}{ds:List aB}{d:aB}{u:af}:dZ us ds d u=true↔∃(i:Nat) (e:aB),us[i]?=aC u/\ds[i]?=aC e/\PyData.eqv e d=true:=by unfold dZ;exact decide_eq_true_iff
theorem Ej{us:List af}{ds:List aB}{d:aB}(hl:us.length=ds.length):us.any (dZ us ds d)=dO ds d:=by
 cases q:dO ds d with
 |true=>
  unfold dO at q;rw[List.any_eq_true]at q;obtain⟨e,h1,h2⟩:=q;obtain⟨i,hi,h3⟩:=List.mem_iff_getElem.mp h1;rw[List.any_eq_true];refine⟨us[i]'(by lia),yX _,?_⟩;rw[Ei];exact⟨i,e,by simp,by rw[gU hi,h3],h2⟩
 |false=>
  unfold dO at q;rw[List.any_eq_false]at q ⊢;intro u hu z;rw[Ei]at z;obtain⟨i,e,h1,h2,h3⟩:=z;exact q e (mF h2) h3
theorem Ay{h:aA}:∀{us:List af} {ds:List aB} {as:List ai},ReadsAll h us ds as->us.length=ds.length|_,_,_,.nil=>rfl|_,_,_,.cons _ r=>by rw[dj,dj,Ay r]
theorem Ek{A:ao}{s:ah}{us:List af}{ds:List aB}{as bs:List ai}{d:aB}{v:af}(hu:A.units+64<cLine)(ra:ReadsAll s.heap us ds as)(rb:Reads s.heap v d bs)(s1:ds.all SeqAt.shaped)(s2:SeqAt.shaped d) :
 ∀u∈us,SeqAt.EqAt A s u v (dZ us ds d u):=by
 intro u hm;have sh:∀(i:Nat)(e:aB),ds[i]?=aC e->SeqAt.shaped e=true:=λi e q=>kN.mp s1 e (mF q);cases q:dZ us ds d u with
 |true=>
  rw[Ei]at q;obtain⟨i,e,h1,h2,h3⟩:=q;obtain⟨e',cs,h4,h5⟩:=Hl ra h1;rw[h2]at h4;cases h4;have:=SeqAt.eqAt_reads e d A s u v cs bs h5 rb (sR (sh i e h2)) (sR s2) (SeqAt.room_of_shaped (sh i e h2) hu);rw[h3]at this;exact this
 |false=>
  obtain⟨i,hi,h1⟩:=List.mem_iff_getElem.mp hm;have h1:us[i]?=aC u:=by rw[gU hi,h1]
  obtain⟨e,cs,h4,h5⟩:=Hl ra h1;have h3:PyData.eqv e d=false:=by
   cases z:PyData.eqv e d with
   |false=>rfl
   |true=>
    rw[Ei.mpr ⟨i,e,h1,h4,z⟩]at q;cases q
  have:=SeqAt.eqAt_reads e d A s u v cs bs h5 rb (sR (sh i e h4)) (sR s2) (SeqAt.room_of_shaped (sh i e h4) hu);rw[h3]at this;exact this
theorem UK(hu:X.A.in1.units+64<cLine):cH X (compareOp .In) (qw X.K false):=by
 intro pins s σ H x y v u Q I rx ry h;obtain⟨p,xs,ds,d,rfl,hq,r1,r2,s1,s2,q⟩:=h;cases ry;obtain⟨bs,rb⟩:=r2.reads I rx;rcases hq with hq|hq
 obtain⟨its,r,pl,hz⟩:=I.list hq;obtain⟨as,ra⟩:=r1.reads I r;refine SeqAt.in_listAt (dZ its ds d) pl.isList (λw hw=>Ek hu ra rb s1 s2 w (by simpa using hw)) ⟨.bl _,H,I,rfl,?_⟩;rw[show its.toArray.any (dZ its ds d)=its.any (dZ its ds d) by simp,Ej (Ay ra)];exact q;obtain⟨its,r,pl,hz⟩:=I.tuple hq;obtain⟨as,ra⟩:=r1.reads I r;refine SeqAt.in_tupleAt (dZ its ds d) pl (λw hw=>Ek hu ra rb s1 s2 w (by simpa using hw)) ⟨.bl _,H,I,rfl,?_⟩;rw[show its.toArray.any (dZ its ds d)=its.any (dZ its ds d) by simp,Ej (Ay ra)];exact q
theorem UL(hu:X.A.in1.units+64<cLine):cH X (compareOp .NotIn) (qw X.K true):=by
 intro pins s σ H x y v u Q I rx ry h;obtain⟨p,xs,ds,d,rfl,hq,r1,r2,s1,s2,q⟩:=h;cases ry;obtain⟨bs,rb⟩:=r2.reads I rx;rcases hq with hq|hq
 obtain⟨its,r,pl,hz⟩:=I.list hq;obtain⟨as,ra⟩:=r1.reads I r;refine SeqAt.notIn_listAt (dZ its ds d) pl.isList (λw hw=>Ek hu ra rb s1 s2 w (by simpa using hw)) ⟨.bl _,H,I,rfl,?_⟩;rw[show its.toArray.any (dZ its ds d)=its.any (dZ its ds d) by simp,Ej (Ay ra)];exact q;obtain⟨its,r,pl,hz⟩:=I.tuple hq;obtain⟨as,ra⟩:=r1.reads I r;refine SeqAt.notIn_tupleAt (dZ its ds d) pl (λw hw=>Ek hu ra rb s1 s2 w (by simpa using hw)) ⟨.bl _,H,I,rfl,?_⟩;rw[show its.toArray.any (dZ its ds d)=its.any (dZ its ds d) by simp,Ej (Ay ra)];exact q
end
end L2
namespace HT
open PySem PySem.Spec PyProof.Rows
section
variable{prog:aj}{w:ak}{A:ao}{E:af->ah->Prop}{s:ah}
theorem eX{t sl:ai}{items:Array af}{vl vu:af}{lo hi:Option Int}{Q:af->ah->Prop}(ht:IsTup s.heap t items)(hs:s.heap.IsSliceOf sl vl vu .none)(pl:IsPart vl lo)(pu:IsPart vu hi)
 (hw:bJ items.size 0 lo=0/\bJ items.size items.size hi=items.size)
 (h:Q (.ref t) s):wpAny (model prog w) A (getItem (.ref t) (.ref sl)) Q E s:=by
 obtain⟨os,hos,hcs,hds⟩:=id hs;have zW:s.TypeIs (.ref sl) "slice":=⟨os,hos,hcs⟩
 unfold getItem
 try with_reducible refine kL ?_
 first|refine aG (aQ ?_)|skip
 refine aG (wpAny_sequenceKey ht.typeIs (by decide) ?_);refine aG (nC (name:=Str.ofString "__getitem__") ht.typeIs qe
  (kK qe ht.typeIs entry_tuple_getitem ?_ (args_tuple_getitem _ _)))
 show wpAny _ _ (Builtin.Tuple.tupleItemsOf (.ref t) >>= _) _ _ s;refine aG (tupleItemsOf_ ht ?_);refine aG (xj zW ?_);rw[if_pos (by decide)];refine aG (MS hs pl pu ?_);have hyes:((((bJ items.size 0 lo:Nat):Int)==0&& (1:Int)==1&& (bJ items.size items.size hi-bJ items.size 0 lo)==items.size)):=by rw[hw.1,hw.2];simp
 show wpAny _ _ (if(((bJ items.size 0 lo:Nat):Int)==0&& (1:Int)==1&& (bJ items.size items.size hi-bJ items.size 0 lo)==items.size)=true then _ else _) _ _ s;rw[if_pos hyes];unfold Builtin.Tuple.tupleIsExact;refine aG (aG (xj ht.typeIs (aQ ?_)));rw[if_pos (by decide)];refine aG (kM ?_);exact aQ ⟨_,rfl,aQ h⟩
end
end HT
namespace L2
open PySem PySem.Spec PyProof.Rows
variable{X:Cx}
noncomputable def Az(K:aK):V->Option Int->Option Int->Hp->VK->Prop:=λx lo hi H Q=>∃a xs,x=.ref a/\bU K H a xs/\
 (HT.bJ xs.length 0 lo=0/\HT.bJ xs.length xs.length hi=xs.length)/\Q (.ref a) H
theorem UM:qp X (Az X.K):=by
 intro pins s σ H x v vl vu lo hi sl Q I rx hs pl pu h;obtain⟨a,xs,rfl,hx,hw,q⟩:=h;cases rx;obtain⟨its,r,ht,hz⟩:=I.tuple hx;have hlen:its.toArray.size=xs.length:=by rw[di];exact r.length.symm
 refine⟨"tuple",_,qe.lookup,ht.typeIs,?_⟩;refine HT.eX ht hs pl pu (by rw[hlen];exact hw) ?_;exact⟨.ref a,_,I,rfl,q⟩
noncomputable def Ho(K:aK):V->Option Int->Option Int->Hp->VK->Prop:=λx lo hi H Q=>(zY K x lo hi H Q\/Az K x lo hi H Q)\/Ac K x lo hi H Q
theorem UN:qp X (Ho X.K):=(Tp.or UM).or TF
noncomputable def ZI(b:Bool)(h:aA)(I l:ai)(k:Nat):Prop:=match b with|true=>h.IsTupleIter I l k|false=>h.IsListIter I l k
noncomputable def ZS(b:Bool)(h:aA)(l:ai)(xs:Array af):Prop:=match b with|true=>h.IsTuple l xs|false=>h.IsList l xs
noncomputable def AA(b:Bool):String:=match b with|true=>"tuple_iterator" |false=>"list_iterator"
noncomputable def El(b:Bool)(l:ai):Obj:={cls:=.type (AA b),data:=.fields #[.ref l,.int 0 0]}
theorem ZI.ex{b:Bool}{h h':aA}{I l c:ai}{k:Nat}(x:ZI b h I l k)(s:Heap.ExtBut c h h')(n:I≠c):ZI b h' I l k:=by cases b;exact Heap.IsListIter.extBut x s n;exact Heap.IsTupleIter.extBut x s n
theorem ZS.ex{b:Bool}{h h':aA}{l c:ai}{xs:Array af}(x:ZS b h l xs)(s:Heap.ExtBut c h h')(n:l≠c):ZS b h' l xs:=by cases b;exact Heap.IsList.extBut x s n;exact Heap.IsTuple.extBut x s n
theorem ZI.mv{b:Bool}{h h':aA}{I l:ai}{k:Nat}(x:ZI b h I l k)(e:∀o,h.get? I=aC o->h'.get? I=aC o):ZI b h' I l k:=by cases b;exact Heap.IsListIter.at x e;exact Heap.IsTupleIter.at x e
theorem ZI.ob{b:Bool}{h:aA}{I l:ai}{k:Nat}(x:ZI b h I l k):∃o,h.get? I=aC o/\∀v,o.data≠.cell v:=by cases b;obtain⟨o,h1,h2,h3⟩:=x;exact⟨o,h1,λv z=>by rw[h3]at z;cases z⟩;obtain⟨o,h1,h2,h3⟩:=x;exact⟨o,h1,λv z=>by rw[h3]at z;cases z⟩
theorem ZS.lt{b:Bool}{h:aA}{l:ai}{xs:Array af}(x:ZS b h l xs):l<h.objs.size:=by cases b<;> (obtain⟨o,h1,_⟩:=x;exact cP h1)
theorem ZS.push{b:Bool}{h:aA}{l:ai}{xs:Array af}(x:ZS b h l xs)(o:Obj):ZS b (h.push o) l xs:=by cases b;exact Heap.IsList.push x o;exact Heap.IsTuple.push x o
section
variable{prog:aj}{w:ak}{A:ao}{E:af->ah->Prop}{s:ah}
theorem Hq{b:Bool}{I l:ai}{k:Nat}{xs:Array af}{y:af}{Q:af->ah->Prop}(hi:ZI b s.heap I l k)(hl:ZS b s.heap l xs)(hy:xs[k]?=aC y)
 (q:∀g,ZI b g I l (k+1)->Heap.SameBut I s.heap g->Q y {s with heap:=g}):wpAny (model prog w) A (Builtin.SmallTypes.nextOf (.ref I)) Q E s:=by
 cases b;exact wpAny_nextOf_list_item hi hl hy q;exact Nd hi hl hy q
theorem z_end{b:Bool}{I l:ai}{k:Nat}{xs:Array af}{Q:af->ah->Prop}(hA:A.handled=aD)(hi:ZI b s.heap I l k)(hl:ZS b s.heap l xs)(hy:xs[k]?=aD)
 (q:∀g e,Heap.ExtBut I s.heap g->(∃o,g.get? e=aC o/\o.cls=.type "StopIteration")->E (.ref e) {s with heap:=g}):wpAny (model prog w) A (Builtin.SmallTypes.nextOf (.ref I)) Q E s:=by
 cases b;exact wpAny_nextOf_list_end hA hi hl hy q;exact Hf hA hi hl hy q
structure ZA(z TI TO i1 i2 l1 l2:ai):Prop where
 a1:TI≠z/\TO≠z/\i1≠z/\i2≠z
 a2:TI≠TO/\TI≠i1/\TI≠i2/\TO≠i1/\TO≠i2/\i1≠i2
 a3:l1≠z/\l1≠TO/\l1≠i1/\l1≠i2
 a4:l2≠z/\l2≠TO/\l2≠i1/\l2≠i2
theorem UO{n l1 l2:Nat}(h1:l1<n)(h2:l2<n):ZA (n+4) (n+2) (n+3) n (n+1) l1 l2:=by have e:∀{a b:Nat},(a<b\/b<a)->a≠b:=λh=>h.elim fX nk;refine⟨⟨?_,?_,?_,?_⟩,⟨?_,?_,?_,?_,?_,?_⟩,⟨?_,?_,?_,?_⟩,?_,?_,?_,?_⟩<;>exact e (by lia)
theorem UP{b c:Bool}{z TI TO i1 i2 l1 l2:ai}{k:Nat}{xs ys:Array af}{x y p q:af}{Q:af->ah->Prop}(D:ZA z TI TO i1 i2 l1 l2)
 (hz:IsZip s.heap z TI TO .none) (hTI:IsPair s.heap TI (.ref i1) (.ref i2)) (hTO:IsPair s.heap TO p q)
 (h1:ZI b s.heap i1 l1 k) (h2:ZI c s.heap i2 l2 k) (hl1:ZS b s.heap l1 xs) (hl2:ZS c s.heap l2 ys) (hx:xs[k]?=aC x) (hy:ys[k]?=aC y)
 (hQ:∀h',IsZip h' z TI TO (rawInt s.heap.objs.size)->IsPair h' TO x y->ZI b h' i1 l1 (k+1)->ZI c h' i2 l2 (k+1)->IsPair h' s.heap.objs.size x y->h'.objs.size=s.heap.objs.size+1->
   (∀c o,c≠z->c≠TO->c≠i1->c≠i2->s.heap.get? c=aC o->h'.get? c=aC o)->Q (.ref s.heap.objs.size) {s with heap:=h'}) :
 wpAny (model prog w) A (Builtin.«zip.__next__» ⟨[.ref z],[]⟩) (λfin s'=>∃v,fin=.done (.ret v)/\Q v s') E s:=by
 obtain⟨⟨d1,d2,d3,d4⟩,⟨d5,d6,d7,d8,d9,AB⟩,⟨Em,UQ,UR,US⟩,Hr,Hs,Ht,UT⟩:=D;show wpAny _ _ (field (.ref z) 2 >>= _) _ _ _;refine aG (gX hz rfl (x:=.bool false) rfl ?_);show wpAny _ _ (field (.ref z) 3 >>= _) _ _ _;refine aG (gX hz rfl (x:=.ref TI) rfl (aG (mD hTI rfl ?_)));show wpAny _ _ (Builtin.SmallTypes.ownedTupleIsFree (.ref z) >>= _) _ _ _;refine aG ?_;unfold Builtin.SmallTypes.ownedTupleIsFree;refine aG (gX hz rfl (x:=.none) rfl (aQ ?_));simp only[bQ];refine aG (kM (aG (gX hz rfl (x:=.ref TO) rfl (aG (xg hz (by simp) λg1 z1 s1=>?_)))))
 replace z1:IsZip g1 z TI TO .ellipsis:=z1;refine aG ?_;simp only[List.zipIdx_cons,List.zipIdx_nil,xD,uP];refine aG (aG (C9 ?_));show wpAny _ _ (Builtin.SmallTypes.nextOf (.ref i1) >>= _) _ _ _;refine aG (Hq (h1.ex s1.extBut d3) (hl1.ex s1.extBut Em) hx λg2 y1 s2=>aQ ?_);have t2:IsPair g2 TO p q:=s2.extBut _ _ d8 (s1.extBut _ _ d2 hTO);refine aG (mD t2 rfl (aG (wpAny_updateSeq_pair t2 λg3 t3 s3=>?_)))
 replace t3:IsPair g3 TO x q:=t3;refine aG (sG (aQ (aG (aG (C9 ?_)))));show wpAny _ _ (Builtin.SmallTypes.nextOf (.ref i2) >>= _) _ _ _;refine aG (Hq (((h2.ex s1.extBut d4).ex s2.extBut (eL AB)).ex s3.extBut (eL d9)) (((hl2.ex s1.extBut Hr).ex s2.extBut Ht).ex s3.extBut Hs) hy λg4 y2 s4=>aQ ?_);have t4:IsPair g4 TO x q:=s4.extBut _ _ d9 t3;refine aG (mD t4 rfl (aG (wpAny_updateSeq_pair t4 λg5 t5 s5=>?_)))
 replace t5:IsPair g5 TO x y:=t5;refine aG (sG (aQ (aQ (aG (mD t5 rfl (aG (wpAny_newTuple ?_)))))));have hsz:g5.objs.size=s.heap.objs.size:=by rw[s5.1,s4.1,s3.1,s2.1,s1.1]
 have z5:IsZip g5 z TI TO .ellipsis:=s5.extBut _ _ (eL d2) (s4.extBut _ _ (eL d4) (s3.extBut _ _ (eL d2) (s2.extBut _ _ (eL d3) z1)));have k5:∀c o,c≠z->c≠TO->c≠i1->c≠i2->s.heap.get? c=aC o->g5.get? c=aC o:=λc o c1 c2 c3 c4 e=>s5.extBut _ _ c2 (s4.extBut _ _ c4 (s3.extBut _ _ c2 (s2.extBut _ _ c3 (s1.extBut _ _ c1 e))));have UU:ZI b g5 i1 l1 (k+1):=((y1.ex s3.extBut (eL d8)).ex s4.extBut AB).ex s5.extBut (eL d8);have UW:ZI c g5 i2 l2 (k+1):=y2.ex s5.extBut (eL d9);have Eo:z<g5.objs.size:=cP z5;show wpAny _ _ (Builtin.SmallTypes.ownedTupleHandOut (.ref z) (.ref g5.objs.size) >>= _) _ _ _;refine aG ?_;unfold Builtin.SmallTypes.ownedTupleHandOut;have z6:IsZip (g5.push {cls:=.type "tuple",data:=.seq #[x,y]}) z TI TO .ellipsis:=b9 _ z5;refine aG (xg z6 (by simp) λg7 z7 s7=>?_)
 replace z7:IsZip g7 z TI TO (rawInt g5.objs.size):=z7;refine xg z7 (by simp) λg8 z8 s8=>?_
 replace z8:IsZip g8 z TI TO (rawInt g5.objs.size):=z8;have up:∀c o,c≠z->g5.get? c=aC o->g8.get? c=aC o:=λc o c1 e=>s8.extBut _ _ c1 (s7.extBut _ _ c1 (b9 _ e));have p8:IsPair g8 g5.objs.size x y:=s8.extBut _ _ (nk Eo) (s7.extBut _ _ (nk Eo) (fG _ rfl));have n8:g8.objs.size=g5.objs.size+1:=by rw[s8.1,s7.1,jv]
 rw[hsz]at z8 p8 n8;refine aQ ⟨_,rfl,?_⟩;show Q (.ref g5.objs.size) _;rw[hsz];exact hQ g8 z8 (up _ _ d2 t5) (UU.mv λo e=>up _ o d3 e) (UW.mv λo e=>up _ o d4 e) p8 n8 λc o c1 c2 c3 c4 e=>up c o c1 (k5 c o c1 c2 c3 c4 e)
theorem UX{b c:Bool}{z TI TO i1 i2 l1 l2:ai}{k:Nat}{xs ys:Array af}{p q:af}{Q:Fin->ah->Prop}(hA:A.handled=aD)(D:ZA z TI TO i1 i2 l1 l2)
 (hz:IsZip s.heap z TI TO .none) (hTI:IsPair s.heap TI (.ref i1) (.ref i2)) (hTO:IsPair s.heap TO p q)
 (h1:ZI b s.heap i1 l1 k) (h2:ZI c s.heap i2 l2 k) (hl1:ZS b s.heap l1 xs) (hl2:ZS c s.heap l2 ys) (he:xs[k]?=aD\/ys[k]?=aD)
 (hE:∀h' e,(∀c o,c≠z->c≠TO->c≠i1->c≠i2->s.heap.get? c=aC o->h'.get? c=aC o)->(∃o,h'.get? e=aC o/\o.cls=.type "StopIteration")->E (.ref e) {s with heap:=h'}) :
 wpAny (model prog w) A (Builtin.«zip.__next__» ⟨[.ref z],[]⟩) Q E s:=by
 obtain⟨⟨d1,d2,d3,d4⟩,⟨d5,d6,d7,d8,d9,AB⟩,⟨Em,UQ,UR,US⟩,Hr,Hs,Ht,UT⟩:=D;show wpAny _ _ (field (.ref z) 2 >>= _) _ _ _;refine aG (gX hz rfl (x:=.bool false) rfl ?_);show wpAny _ _ (field (.ref z) 3 >>= _) _ _ _;refine aG (gX hz rfl (x:=.ref TI) rfl (aG (mD hTI rfl ?_)));show wpAny _ _ (Builtin.SmallTypes.ownedTupleIsFree (.ref z) >>= _) _ _ _;refine aG ?_;unfold Builtin.SmallTypes.ownedTupleIsFree;refine aG (gX hz rfl (x:=.none) rfl (aQ ?_));simp only[bQ];refine aG (kM (aG (gX hz rfl (x:=.ref TO) rfl (aG (xg hz (by simp) λg1 z1 s1=>?_)))))
 replace z1:IsZip g1 z TI TO .ellipsis:=z1;refine aG ?_;simp only[List.zipIdx_cons,List.zipIdx_nil,xD,uP];refine aG (aG (C9 ?_));show wpAny _ _ (Builtin.SmallTypes.nextOf (.ref i1) >>= _) _ _ _;cases hx:xs[k]? with
 |none=>
  refine aG (z_end hA (h1.ex s1.extBut d3) (hl1.ex s1.extBut Em) hx λg2 e s2 hs=>?_);obtain⟨oe,vz,hce⟩:=hs;have z2:IsZip g2 z TI TO .ellipsis:=s2 _ _ (eL d3) z1;have Hu:e≠z:=λx=>by subst x;rw[z2]at vz;cases vz;simp at hce
  exact xg z2 (by simp) λg3 _ s3=>hE g3 e (λc o c1 _ c3 _ x=>s3.extBut _ _ c1 (s2 _ _ c3 (s1.extBut _ _ c1 x))) ⟨oe,s3.extBut _ _ Hu vz,hce⟩
 |some x=>
  have hy:ys[k]?=aD:=by rcases he with h|h;rw[hx]at h;cases h;exact h
  refine aG (Hq (h1.ex s1.extBut d3) (hl1.ex s1.extBut Em) hx λg2 y1 s2=>aQ ?_);have t2:IsPair g2 TO p q:=s2.extBut _ _ d8 (s1.extBut _ _ d2 hTO);refine aG (mD t2 rfl (aG (wpAny_updateSeq_pair t2 λg3 t3 s3=>?_)));refine aG (sG (aQ (aG (aG (C9 ?_)))));show wpAny _ _ (Builtin.SmallTypes.nextOf (.ref i2) >>= _) _ _ _;refine aG (z_end hA (((h2.ex s1.extBut d4).ex s2.extBut (eL AB)).ex s3.extBut (eL d9)) (((hl2.ex s1.extBut Hr).ex s2.extBut Ht).ex s3.extBut Hs) hy λg4 e s4 hs=>?_);obtain⟨oe,vz,hce⟩:=hs;have z4:IsZip g4 z TI TO .ellipsis:=s4 _ _ (eL d4) (s3.extBut _ _ (eL d2) (s2.extBut _ _ (eL d3) z1));have Hu:e≠z:=λx=>by subst x;rw[z4]at vz;cases vz;simp at hce
  exact xg z4 (by simp) λg5 _ s5=>hE g5 e (λc o c1 c2 c3 c4 x=>s5.extBut _ _ c1 (s4 _ _ c4 (s3.extBut _ _ c2 (s2.extBut _ _ c3 (s1.extBut _ _ c1 x))))) ⟨oe,s5.extBut _ _ Hu vz,hce⟩
theorem UY{b c:Bool}{z TI TO i1 i2 l1 l2:ai}{k:Nat}{xs ys:Array af}{x y p q:af}{Q:Option af->ah->Prop}(D:ZA z TI TO i1 i2 l1 l2)
 (hz:IsZip s.heap z TI TO .none) (hTI:IsPair s.heap TI (.ref i1) (.ref i2)) (hTO:IsPair s.heap TO p q)
 (h1:ZI b s.heap i1 l1 k) (h2:ZI c s.heap i2 l2 k) (hl1:ZS b s.heap l1 xs) (hl2:ZS c s.heap l2 ys) (hx:xs[k]?=aC x) (hy:ys[k]?=aC y)
 (hQ:∀h',IsZip h' z TI TO (rawInt s.heap.objs.size)->IsPair h' TO x y->ZI b h' i1 l1 (k+1)->ZI c h' i2 l2 (k+1)->IsPair h' s.heap.objs.size x y->h'.objs.size=s.heap.objs.size+1->
   (∀c o,c≠z->c≠TO->c≠i1->c≠i2->s.heap.get? c=aC o->h'.get? c=aC o)->Q (aC (.ref s.heap.objs.size)) {s with heap:=h'}):wpAny (model prog w) A (pyNext (.ref z)) Q E s:=by
 have hT:s.TypeIs (.ref z) "zip":=⟨_,hz,rfl⟩
 unfold pyNext;exact aG (xh (nC (name:=Str.ofString "__next__") hT DF (kK DF hT F.entry_zip_next (UP D hz hTI hTO h1 h2 hl1 hl2 hx hy λh' a1 a2 a3 a4 a5 a6 a7=>aQ (hQ h' a1 a2 a3 a4 a5 a6 a7)) (F.args_zip_next_1 _))))
theorem UZ{b c:Bool}{z TI TO i1 i2 l1 l2:ai}{k:Nat}{xs ys:Array af}{p q:af}{Q:Option af->ah->Prop}(hA:A.in1.handled=aD)(D:ZA z TI TO i1 i2 l1 l2)
 (hz:IsZip s.heap z TI TO .none) (hTI:IsPair s.heap TI (.ref i1) (.ref i2)) (hTO:IsPair s.heap TO p q)
 (h1:ZI b s.heap i1 l1 k) (h2:ZI c s.heap i2 l2 k) (hl1:ZS b s.heap l1 xs) (hl2:ZS c s.heap l2 ys) (he:xs[k]?=aD\/ys[k]?=aD)
 (hQ:∀h',(∀c o,c≠z->c≠TO->c≠i1->c≠i2->s.heap.get? c=aC o->h'.get? c=aC o)->Q aD {s with heap:=h'}):wpAny (model prog w) A (pyNext (.ref z)) Q E s:=by
 have hT:s.TypeIs (.ref z) "zip":=⟨_,hz,rfl⟩
 unfold pyNext;refine aG (xh (nC (name:=Str.ofString "__next__") hT DF (kK DF hT F.entry_zip_next (UX hA D hz hTI hTO h1 h2 hl1 hl2 he λh' e hk hs=>?_) (F.args_zip_next_1 _))));obtain⟨o,ho,hc⟩:=hs;exact aG (uI (T:="StopIteration") (b:=true) ⟨o,ho,hc⟩ isSubtype_stop (aQ (hQ _ hk)))
noncomputable def Ep(h:aA)(b:Bool)(l1:ai):aA:=h.push (El b l1)
noncomputable def AD(h:aA)(b c:Bool)(l1 l2:ai):aA:=(Ep h b l1).push (El c l2)
noncomputable def AE(h:aA)(b c:Bool)(l1 l2:ai):aA:=(AD h b c l1 l2).push {cls:=.type "tuple",data:=.seq #[.ref h.objs.size,.ref (Ep h b l1).objs.size]}
noncomputable def AF(h:aA)(b c:Bool)(l1 l2:ai):aA:=(AE h b c l1 l2).push {cls:=.type "tuple",data:=.seq #[.none,.none]}
noncomputable def tL(h:aA)(b c:Bool)(l1 l2:ai):aA:=(AF h b c l1 l2).push {cls:=.type "zip",data:=.fields #[.none,.bool false,.bool false,.ref (AD h b c l1 l2).objs.size,.ref (AE h b c l1 l2).objs.size]}
theorem U0(b c:Bool)(l1 l2:ai)(xs ys:Array af):Meets (Builtin.«zip.__new__» ⟨[.type "zip",.ref l1,.ref l2],[]⟩) (λ_ R s=>ZS b s.heap l1 xs/\ZS c s.heap l2 ys/\
 R (.ok (.ret (.ref (AF s.heap b c l1 l2).objs.size))) {s with heap:=tL s.heap b c l1 l2}):=
 .of_wp λprog w A R s h=>by
  obtain⟨hp,g,d,tk,os⟩:=s;obtain⟨m1,m2,h⟩:=h;have hsub:=sub_zip;have e1:ZS b (Shared.heap ⟨hp,g,d,tk,os⟩) l1 xs:=m1;have e2:ZS c (Shared.heap ⟨hp.push (El b l1),g,d,tk,os⟩) l2 ys:=m2.push _;cases b<;>cases c;have q1:Heap.IsList (Shared.heap ⟨hp,g,d,tk,os⟩) l1 xs:=e1;have q2:Heap.IsList (Shared.heap ⟨hp.push {cls:=.type "list_iterator",data:=.fields #[.ref l1,.int 0 0]},g,d,tk,os⟩) l2 ys:=e2
  wp_walk using uH q1,uH q2;exact⟨_,rfl,h⟩;have q1:Heap.IsList (Shared.heap ⟨hp,g,d,tk,os⟩) l1 xs:=e1;have q2:Heap.IsTuple (Shared.heap ⟨hp.push {cls:=.type "list_iterator",data:=.fields #[.ref l1,.int 0 0]},g,d,tk,os⟩) l2 ys:=e2
  wp_walk using uH q1,uG q2;exact⟨_,rfl,h⟩;have q1:Heap.IsTuple (Shared.heap ⟨hp,g,d,tk,os⟩) l1 xs:=e1;have q2:Heap.IsList (Shared.heap ⟨hp.push {cls:=.type "tuple_iterator",data:=.fields #[.ref l1,.int 0 0]},g,d,tk,os⟩) l2 ys:=e2
  wp_walk using uG q1,uH q2;exact⟨_,rfl,h⟩;have q1:Heap.IsTuple (Shared.heap ⟨hp,g,d,tk,os⟩) l1 xs:=e1;have q2:Heap.IsTuple (Shared.heap ⟨hp.push {cls:=.type "tuple_iterator",data:=.fields #[.ref l1,.int 0 0]},g,d,tk,os⟩) l2 ys:=e2
  wp_walk using uG q1,uG q2;exact⟨_,rfl,h⟩
theorem Ny{b:Bool}{h:aA}{l:ai}{a:ai}(e:h.get? a=aC (El b l)):ZI b h a l 0:=by cases b<;>exact⟨_,e,rfl,rfl⟩
theorem U1{b c:Bool}{l1 l2:ai}{xs ys:Array af}{Q:af->ah->Prop}(m1:ZS b s.heap l1 xs)(m2:ZS c s.heap l2 ys)
 (h:∀h',IsZip h' (s.heap.objs.size+4) (s.heap.objs.size+2) (s.heap.objs.size+3) .none->IsPair h' (s.heap.objs.size+2) (.ref s.heap.objs.size) (.ref (s.heap.objs.size+1))->
   IsPair h' (s.heap.objs.size+3) .none .none->ZI b h' s.heap.objs.size l1 0->ZI c h' (s.heap.objs.size+1) l2 0->h'.objs.size=s.heap.objs.size+5->
   (∀c o,s.heap.get? c=aC o->h'.get? c=aC o)->Q (.ref (s.heap.objs.size+4)) {s with heap:=h'}):wpAny (model prog w) A (call (.type "zip") [.ref l1,.ref l2]) Q E s:=by
 refine Dd F.called_zip (by decide) (F.typeCall_zip_2 _ _) (F.newCall_zip_2 _ _) (λobj=>F.args_object_init_3 obj _ _) F.entry_zip_new (U0 b c l1 l2 xs ys) ⟨m1,m2,?_⟩;have n1:(Ep s.heap b l1).objs.size=s.heap.objs.size+1:=jv ..;have n2:(AD s.heap b c l1 l2).objs.size=s.heap.objs.size+2:=by unfold AD;rw[jv,n1]
 have n3:(AE s.heap b c l1 l2).objs.size=s.heap.objs.size+3:=by unfold AE;rw[jv,n2]
 have n4:(AF s.heap b c l1 l2).objs.size=s.heap.objs.size+4:=by unfold AF;rw[jv,n3]
 have n5:(tL s.heap b c l1 l2).objs.size=s.heap.objs.size+5:=by unfold tL;rw[jv,n4]
 have g5:(tL s.heap b c l1 l2).get? (AF s.heap b c l1 l2).objs.size=aC _:=fG _ rfl;have g4:(tL s.heap b c l1 l2).get? (AE s.heap b c l1 l2).objs.size=aC _:=b9 _ (fG _ rfl);have g3:(tL s.heap b c l1 l2).get? (AD s.heap b c l1 l2).objs.size=aC _:=b9 _ (b9 _ (fG _ rfl));have g2:(tL s.heap b c l1 l2).get? (Ep s.heap b l1).objs.size=aC _:=b9 _ (b9 _ (b9 _ (fG _ rfl)));have g1:(tL s.heap b c l1 l2).get? s.heap.objs.size=aC _:=b9 _ (b9 _ (b9 _ (b9 _ (fG _ rfl))));show _/\_;rw[n2,n3,n4]at g5;rw[n1,n2]at g3;rw[n3]at g4;rw[n1]at g2;rw[n4];exact⟨⟨_,g5,rfl⟩,h _ g5 g3 g4 (Ny g1) (Ny g2) n5 λc o x=>b9 _ (b9 _ (b9 _ (b9 _ (b9 _ x))))⟩
end
noncomputable def mS(b:Bool)(K:aK)(H:Hp)(a:ai)(xs:List V):Prop:=match b with|true=>bU K H a xs|false=>cC K H a xs
theorem xT{b:Bool}{X:Cx}{pins:List (ai×Obj)}{σ:St}{H:Hp}{s:ah}{a:ai}{xs:List V}(I:Inv X pins σ H s)(h:mS b X.K H a xs):∃its:List af,Vals xs its/\ZS b s.heap a its.toArray/\xs.length<=sizeLine:=by cases b;obtain⟨its,r,p,z⟩:=I.list h;exact⟨its,r,p.isList,z⟩;exact I.tuple h
theorem Nz{b:Bool}{X:Cx}{pins:List (ai×Obj)}{σ:St}{H:Hp}{s:ah}{a:ai}{xs ys:List V}(I:Inv X pins σ H s)(h:mS b X.K H a xs)(h':mS b X.K H a ys):xs=ys:=by cases b;exact I.jG h h';exact I.eO h h'
noncomputable def vA(K:aK)(b c:Bool)(a1 a2:ai):It:=
 ⟨λi H=>∃xs ys x y,mS b K H a1 xs/\mS c K H a2 ys/\xs[i]?=aC x/\ys[i]?=aC y,
  λi H v H'=>∃T x y,v=.ref T/\H T=aD/\H'=upd H T (.tup [x,y])/\(∀xs,mS b K H a1 xs->xs[i]?=aC x)/\∀ys,mS c K H a2 ys->ys[i]?=aC y,
  λi H=>∃xs ys,mS b K H a1 xs/\mS c K H a2 ys/\(xs.length<=i\/ys.length<=i)⟩
theorem Inv.qx{X:Cx}{pins:List (ai×Obj)}{σ:St}{H:Hp}{s:ah}{h2:aA}{t':Nat}{fp:List ai}(I:Inv X pins σ H s)(hf:∀b∈fp,dG X pins H b)(kk:∀b o,b∉fp->s.heap.get? b=aC o->h2.get? b=aC o) :
 Inv X pins σ H {s with heap:=h2,toks:=t'}:=by
 have f0:=λb hb=>(hf b hb).1;have nE:∀b o,H b=aC o->b∉fp:=λb o q z=>by rw[f0 b z]at q;cases q
 refine I.step (g':=s.gens) (d':=s.drawn) (ch:=fp) (λb hb=>?_) (λb o _ _ hc e1 _=>kk b o hc e1) (λb o _ _ hc e1 _=>⟨o.slots,kk b o hc e1⟩) (λ_ _ _ _ n=>n) (λb o hc e1=>⟨o,kk b o hc e1⟩)
  (λ_ _ q=>q) (λ_ _ _ q=>q) (λb ps q=>⟨#[],by rw[q];simp⟩) (λm hm=>?_) (λb ob q=>?_) I.bare
 obtain⟨_,a1,a2,a3,a4,a5⟩:=hf b hb;exact⟨a3,a1,a4,a5⟩;obtain⟨o,es,ep,ho',r⟩:=hm;exact⟨o,es,ep,kk _ o (λz=>(hf _ z).2.1 rfl) ho',r⟩;refine(I.hok b ob q).stay (λc v hc z=>kk c v ?_ z) (λ_ z=>z) λ_ _ z=>z;rcases hc with rfl|hc;exact nE c ob q;exact nE c _ hc
theorem Inv.qy{X:Cx}{pins:List (ai×Obj)}{σ:St}{H:Hp}{s:ah}{h2:aA}{fp:List ai}{xs:List V}{us:List af}(I:Inv X pins σ H s)(hf:∀b∈fp,dG X pins H b)(kk:∀b o,b∉fp->s.heap.get? b=aC o->h2.get? b=aC o)
 (hT:h2.get? s.heap.objs.size=aC {cls:=.type "tuple",data:=.seq us.toArray}) (hv:Vals xs us) (hz:xs.length<=sizeLine):Inv X pins σ (upd H s.heap.objs.size (.tup xs)) {s with heap:=h2}:=by
 have lH:H s.heap.objs.size=aD:=I.hok.fresh (aW _);have f0:=λb hb=>(hf b hb).1;have nE:∀b o,H b=aC o->b∉fp:=λb o q z=>by rw[f0 b z]at q;cases q
 refine I.step (g':=s.gens) (d':=s.drawn) (ch:=fp) (λb hb=>?_) (λb o _ _ hc e1 _=>kk b o hc e1) (λb o _ _ hc e1 _=>⟨o.slots,kk b o hc e1⟩) (λb o hc e1 n=>by rw[bW (fX (cP e1))];exact n) (λb o hc e1=>⟨o,kk b o hc e1⟩)
  (λb ys q=>by rw[bW (gW q lH)];exact q) (λb o u q=>by rw[bW (gW q lH)];exact q) (λb ps q=>⟨#[],by rw[bW (gW q lH),q];simp⟩) (λm hm=>?_) (λb ob q=>?_) I.bare
 obtain⟨_,a1,a2,a3,a4,a5⟩:=hf b hb;exact⟨a3,a1,a4,a5⟩;obtain⟨o,es,ep,ho',r⟩:=hm;exact⟨o,es,ep,kk _ o (λz=>(hf _ z).2.1 rfl) ho',r⟩;by_cases hb:b=s.heap.objs.size;subst hb;rw[gn]at q;cases q;exact⟨hz,us,hv,⟨_,hT,rfl,⟨_,rfl⟩,rfl⟩⟩;rw[bW hb]at q;refine(I.hok b ob q).stay (λc v hc z=>kk c v ?_ z) (λc z=>by rw[bW (gW z lH)];exact z) λc ys z=>by rw[bW (gW z lH)];exact z
 rcases hc with rfl|hc;exact nE c ob q;exact nE c _ hc
theorem U3{P:aj}{w:ak}{K:aK}{elts:List aq}{kx:Nat}{tp:Pos}{b c:Bool}(a1 a2 z TI TO i1 i2:ai)(D:ZA z TI TO i1 i2 a1 a2) :
 Turn P w K (.Tuple elts kx tp) (vA K b c a1 a2) [z,TI,TO,i1,i2] z (λi h=>IsZip h z TI TO .none/\IsPair h TI (.ref i1) (.ref i2)/\(∃p q,IsPair h TO p q)/\ZI b h i1 a1 i/\ZI c h i2 a2 i)where
 mem:=by simp
 obj:=λi h st d hd=>by
  obtain⟨hz,hTI,⟨p,q,hTO⟩,h1,h2⟩:=st;simp only[eG,xA,wZ]at hd;rcases hd with rfl|rfl|rfl|rfl|rfl;exact⟨_,hz,λv z=>by
   have z':Data.fields _=Data.cell v:=z;cases z'⟩
  exact⟨_,hTI,λv z=>by
   have z':Data.seq _ _=Data.cell v:=z;cases z'⟩
  exact⟨_,hTO,λv z=>by
   have z':Data.seq _ _=Data.cell v:=z;cases z'⟩
  exact h1.ob;exact h2.ob
 keep:=λi h h' st k=>by
  obtain⟨hz,hTI,⟨p,q,hTO⟩,h1,h2⟩:=st;exact⟨k z (by simp) _ hz,k TI (by simp) _ hTI,⟨p,q,k TO (by simp) _ hTO⟩,h1.mv λo e=>k i1 (by simp) o e,h2.mv λo e=>k i2 (by simp) o e⟩
 item:=by
  intro X hP hw hK hc i pins s σ H E I hf st hg;subst hP hw hK;obtain⟨xs,ys,x,y,q1,q2,hx,hy⟩:=hg;obtain⟨hz,hTI,⟨p,q,hTO⟩,h1,h2⟩:=st;obtain⟨its,rv,m1,_⟩:=xT I q1;obtain⟨NB,rw',m2,_⟩:=xT I q2;obtain⟨u,hu,ru⟩:=rv.get hx;obtain⟨v,hv,U4⟩:=rw'.get hy;refine UY D hz hTI hTO h1 h2 m1 m2 (x:=u) (y:=v) (by simpa using hu) (by simpa using hv) λg b1 b2 b3 b4 b5 b6 b7=>⟨_,rfl,wpAny_letOwnedTupleGo_zip b1 λg2 c1 c2=>?_⟩
  obtain⟨⟨d1,d2,d3,d4⟩,⟨d5,d6,d7,d8,d9,AB⟩,_,_⟩:=D;have c2:Heap.SameBut z g g2:=c2;have Eo:s.heap.objs.size≠z:=nk (cP hz);have kk:∀d o,d∉[z,TI,TO,i1,i2]->s.heap.get? d=aC o->g2.get? d=aC o:=λd o hd e=>(c2.2 d λx=>hd (by simp[x])).trans (b7 d o (λx=>hd (by simp[x])) (λx=>hd (by simp[x])) (λx=>hd (by simp[x])) (λx=>hd (by simp[x])) e);have hT:g2.get? s.heap.objs.size=aC {cls:=.type "tuple",data:=.seq [u,v].toArray}:=(c2.2 _ Eo).trans b5;have I2:=Inv.qy (xs:=[x,y]) I hf kk hT (.cons ru (.cons U4 .nil)) (by show 2<=sizeLine;decide);have lH:H s.heap.objs.size=aD:=I.hok.fresh (aW _);refine⟨.ref s.heap.objs.size,_,I2,rfl,⟨_,x,y,rfl,lH,rfl,λzs hzs=>by rw[Nz I hzs q1];exact hx,λzs hzs=>by rw[Nz I hzs q2];exact hy⟩,
   ⟨c1,(c2.2 TI d1).trans (b7 TI _ d1 d5 d6 d7 hTI),⟨u,v,(c2.2 TO d2).trans b2⟩,b3.mv λo e=>(c2.2 i1 d3).trans e,b4.mv λo e=>(c2.2 i2 d4).trans e⟩,λd hd=>?_⟩
  rw[bW ?_];exact(hf d hd).1;intro e;obtain⟨o,ho⟩:∃o,s.heap.get? d=aC o:=by
   simp only[eG,xA,wZ]at hd;rcases hd with rfl|rfl|rfl|rfl|rfl
   exact⟨_,hz⟩;exact⟨_,hTI⟩;exact⟨_,hTO⟩;exact let⟨o,h,_⟩:=h1.ob;⟨o,h⟩;exact let⟨o,h,_⟩:=h2.ob;⟨o,h⟩
  exact fX (cP ho) e
 done:=by intro X hP hw hK hc i pins s σ H E I hf st hg;subst hP hw hK;obtain⟨xs,ys,q1,q2,hl⟩:=hg;obtain⟨hz,hTI,⟨p,q,hTO⟩,h1,h2⟩:=st;obtain⟨its,rv,m1,_⟩:=xT I q1;obtain⟨NB,rw',m2,_⟩:=xT I q2;have l1:=rv.length;have l2:=rw'.length;exact UZ (I.ok.hd hc) D hz hTI hTO h1 h2 m1 m2 (hl.imp (λh=>by simp;lia) λh=>by simp;lia) λg hk=>⟨rfl,Inv.qx (t':=s.toks) I hf λd o hd e=>hk d o (λx=>hd (by simp[x])) (λx=>hd (by simp[x])) (λx=>hd (by simp[x])) (λx=>hd (by simp[x])) e⟩
 self:=λ_ _ _ _ _ st h=>wpAny_pyIter_zip st.1 h
theorem U5{bs:List Bool}{its:List af}(r:Vals (bs.map .bl) its)(i:Nat){v:af}(h:its[i]?=aC v):∃b,bs[i]?=aC b/\v=.bool b:=by have hl:=r.length;rw[bT]at hl;obtain⟨hi,_⟩:=jx.mp h;have hb:bs[i]?=aC bs[i]:=gU (by lia);obtain⟨u,hu,ru⟩:=r.get (i:=i) (x:=.bl bs[i]) (by rw[jf,hb];rfl);rw[h]at hu;cases hu;exact⟨_,hb,ru⟩
theorem U6(bs:List Bool):((List.range bs.length).all λi=>(bs[i]?).getD true)=bs.all id:=by rw[Bool.eq_iff_iff,kN,kN];refine⟨λh b hb=>?_,λh i hi=>?_⟩;obtain⟨i,hi,rfl⟩:=List.getElem_of_mem hb;have:=h i (vec.mpr hi);rw[gU hi]at this;exact this;have hi':=vec.mp hi;rw[gU hi'];exact h _ (yX hi')
section
variable{X:Cx}
theorem U7(hc:X.calm):bO X (.builtin "all") (λxs H Q=>∃(p:ai) (bs:List Bool),xs=[.ref p]/\cC X.K H p (bs.map .bl)/\Q (.bl (bs.all id)) H):=by
 intro pins s σ H xs us Q I r h;obtain⟨p,bs,rfl,hq,q⟩:=h;obtain⟨u,rfl,ru⟩:=vals1 r;cases ru;obtain⟨its,rv,pl,hz⟩:=I.list hq;have hL:s.heap.IsList p its.toArray:=pl.isList;have hlt:p<s.heap.objs.size:=by obtain⟨_,e,_⟩:=hL;exact cP e
 have hd:X.A.in1.handled=aD:=I.ok.hd hc;have hlen:its.toArray.size=bs.length:=by rw[di,<-rv.length,bT]
 refine call_all_walk (uH hL ⟨s.heap.objs.size,[s.heap.objs.size,p],[s.heap.objs.size],its.toArray.size,_,_,λi=>(bs[i]?).getD true,rfl,Walks.list (A:=X.A.in1) hd _ p (fX hlt) its.toArray,?_,?_,?_⟩);exact⟨⟨_,fG _ rfl,rfl,rfl⟩,hL.push _⟩;intro i v s' Q' E' hP hQ;obtain⟨b,e,rfl⟩:=U5 rv i (by simpa using hP);simp only[e,Option.getD_some]at hQ;exact nD hQ;intro h' tk hk;rw[hlen,U6];refine⟨.bl (bs.all id),H,I.kept (t':=tk) λb o e=>hk b o (λhm=>?_) (b9 _ e),rfl,q⟩;rw[gh.mp hm]at e;exact kj _ (cP e)
end
noncomputable def tM(e tg iter:aq)(ifs:List aq)(it acc:af)(env:Env)(emit:Sem Unit):Sem Fin:=do
 standAt iter.pos
 match <-pyNext it with
 |none=>pure (.done .next)
 |some v=>
  letOwnedTupleGo tg it v
  assign tg env v
  let ok <-xS ifs env
  if ok then emit
  again (.compLoop e 1 it acc env)
noncomputable def lM(elt:aq):af->Env->Sem Unit:=λacc env=>do let _ <-call (.builtin "list.append") [acc,<-eval elt env]
noncomputable def jR(e bx:aq):af->Env->Sem Unit:=λacc env=>do
 let x <-eval bx env
 standAt bx.pos
 let x <-foldedSetIterable bx env x
 let _ <-runOwn (.compStart e 1 (<-holding [x] (pyIter x)) acc env) env
section
variable{prog:aj}{w:ak}{A:ao}{R:Result->ah->Prop}{s:ah}{elt kT cJ tg iter:aq}{fB ifs:List aq}{scope:az}{pos:Pos}{it acc:af}{env:Env}
theorem U8(I:Nat->ah->Prop)
 (turn:∀n s,I n s->wpAny (model prog w) A (pyNext it) (λr s₁=>match r with
   |none=>R (.ok .next) s₁
   |some v=>wpAny (model prog w) A (letOwnedTupleGo tg it v) (λ_ s₀=>wpAny (model prog w) A (assign tg env v) (λ_ s₂=>
    wpAny (model prog w) A (xS ifs env) (λok s₃=>
     if ok=true then wpAny (model prog w) A (lM elt acc env) (λ_ s₅=>∃m,m<n/\I m s₅) gJ s₃
     else ∃m,m<n/\I m s₃) gJ s₂) gJ s₀) gJ s₁) gJ s)
 (n:Nat) (h:I n s):codeAny (model prog w) A (.compLoop (.ListComp elt [⟨kT,cJ,fB,0⟩,⟨tg,iter,ifs,0⟩] scope pos) 1 it acc env) R s:=by
 refine codeAny_loop rfl I (λn s hI=>?_) n h;rw[show(model prog w).den (.compLoop (.ListComp elt [⟨kT,cJ,fB,0⟩,⟨tg,iter,ifs,0⟩] scope pos) 1 it acc env)=(tM (.ListComp elt [⟨kT,cJ,fB,0⟩,⟨tg,iter,ifs,0⟩] scope pos) tg iter ifs it acc env (lM elt acc env)).onRaise (λx=>do noteFrame x env;theTreesLotGoes x)from rfl,
  show A.under (.compLoop (.ListComp elt [⟨kT,cJ,fB,0⟩,⟨tg,iter,ifs,0⟩] scope pos) 1 it acc env)=A from rfl]
 refine wpAny_noted (GQ ?_);unfold tM;refine aG (ni (aG (gH (turn n s hI) (λr s₁ h₁=>?_) λ_ _ z=>z)));cases r with
 |none=>exact aQ h₁
 |some v=>
  refine aG (gH h₁ (λ_ s₀ h₀=>?_) λ_ _ z=>z);refine aG (gH h₀ (λ_ s₂ h₂=>aG (gH h₂ (λok s₃ h₃=>?_) λ_ _ z=>z)) λ_ _ z=>z);cases ok with
  |true=>
   simp only[bQ]at h₃ ⊢;exact aG (gH h₃ (λ_ s₅ h₅=>aQ ⟨rfl,h₅⟩) λ_ _ z=>z)
  |false=>
   simp only[dh,cG]at h₃ ⊢;exact aQ ⟨rfl,h₃⟩
theorem U9(h0:codeAny (model prog w) A (.compLoop (.ListComp elt [⟨kT,cJ,fB,0⟩,⟨tg,iter,ifs,0⟩] scope pos) 1 it acc env) R s)
 (h:wpAny (model prog w) A (pyIter it) (λj s'=>codeAny (model prog w) A (.compLoop (.ListComp elt [⟨kT,cJ,fB,0⟩,⟨tg,iter,ifs,0⟩] scope pos) 1 j acc env) R s') (notedBy (model prog w) A env λx s'=>R (.error x) s') s) :
 codeAny (model prog w) A (.compStart (.ListComp elt [⟨kT,cJ,fB,0⟩,⟨tg,iter,ifs,0⟩] scope pos) 1 it acc env) R s:=by
 refine codeAny_of_tree ?_;rw[show(model prog w).den (.compStart (.ListComp elt [⟨kT,cJ,fB,0⟩,⟨tg,iter,ifs,0⟩] scope pos) 1 it acc env)=(compStart (.ListComp elt [⟨kT,cJ,fB,0⟩,⟨tg,iter,ifs,0⟩] scope pos) 1 it acc env).onRaise (λx=>do noteFrame x env;standAt theWindowsPlace)from rfl,
  show A.under (.compStart (.ListComp elt [⟨kT,cJ,fB,0⟩,⟨tg,iter,ifs,0⟩] scope pos) 1 it acc env)=A from rfl]
 refine wpAny_notedAt ?_;unfold compStart;rw[show(clausesOf (.ListComp elt [⟨kT,cJ,fB,0⟩,⟨tg,iter,ifs,0⟩] scope pos))=[⟨kT,cJ,fB,0⟩,⟨tg,iter,ifs,0⟩]from rfl];show wpAny _ _ (ask >>= _) _ _ s;refine aG (wpAny_askSetting (xm ?_));split;first
  |exact aG (aQ (aQ (And.intro rfl h0)))
  |exact aQ (And.intro rfl h0)
 first
  |exact aG (kM (aG (ni (aG (gH h (λj s' h'=>aQ ⟨rfl,h'⟩) λ_ _ z=>z)))))
  |(refine aG (kM ?_);show wpAny _ _ (standAt iter.pos >>= _) _ _ s;exact aG (ni (aG (gH h (λj s' h'=>aQ ⟨rfl,h'⟩) λ_ _ z=>z))))
end
section
variable{X:Cx}{elt kT cJ tg iter:aq}{fB ifs:List aq}{scope:az}{pos:Pos}{wi:TI}{g:TG}{tc:TT}{te:TE}
noncomputable def Hv(te:TE)(D:ai):TM:=λσ H Q=>te σ H λy H1=>∃ys,H1 D=aC (.lst ys)/\ys.length<sizeLine/\Q σ (upd H1 D (.lst (ys++[y])))
theorem U'(he:PE X elt te)(D:ai):PM X (lM elt (.ref D) X.env) (Hv te D):=by intro pins s σ H Q I h;unfold lM;refine aG (aX (he pins s σ H _ I h) λy s1 z9=>z9.el λvy H1 I1 ry bM=>?_);obtain⟨ys,hD,hz,q⟩:=bM;refine aG (aX (Gz _ s1 σ H1 (.ref D) [vy] (.ref D) [y] (λv H'=>H'=upd H1 D (.lst (ys++[vy]))) I1 rfl (.cons ry .nil) ⟨_,ys,vy,rfl,rfl,hD,hz,rfl⟩) λ_ s2 bM=>?_);obtain⟨v2,H2,I2,_,e2⟩:=bM;subst e2;exact aQ ⟨σ,_,I2,q⟩
noncomputable def NC(wi:TI)(g:TG)(tc:TT)(tm:TM):TM:=λσ H Q=>wi σ H λJ H1=>∃W:Nat->Nat->St->Hp->Prop,(∃m,W 0 m σ H1)/\∀i m σ' H',W i m σ' H'->
 ((J.stop i H'/\Q σ' H')\/(J.go i H'/\∀x H2,J.uZ i H' x H2->g x σ' H2 λσ2 H3=>tc σ2 H3 λb H4=>
   if b=true then tm σ2 H4 λkD H5=>∃m',m'<m/\W (i+1) m' kD H5
   else ∃m',m'<m/\W (i+1) m' σ2 H4))
theorem ND(hc:X.calm)(hx:X.xe=gJ)(hi:PI X tg iter wi)(hg:PG X tg g)(ht:iX X ifs tc)(he:PE X elt te)(hs:∀x,foldedSetIterable iter X.env x=pure x)(D:ai) :
 PM X (jR (.ListComp elt [⟨kT,cJ,fB,0⟩,⟨tg,iter,ifs,0⟩] scope pos) iter (.ref D) X.env) (NC wi g tc (Hv te D)):=by
 intro pins s σ H Q I h;unfold jR;have q1:=hi pins s σ H _ I h;rw[hx]at q1 ⊢;refine aG (aX q1 λv s1 h1=>aG (ni ?_));rw[hs];refine aG (aQ (aG (kL (aX h1 λitv s2 h2=>?_))));obtain⟨it,fp,tn,J,H2,e,I2,T,st2,f2,W,⟨m0,w0⟩,turn⟩:=h2;subst e;have kP:∀{H':Hp},(∀b∈fp,H' b=aD)->∀b∈fp,dG X pins H' b:=λhn b hb=>⟨hn b hb,(f2 b hb).2⟩
 have loop:codeAny (model X.prog X.w) X.A (.compLoop (.ListComp elt [⟨kT,cJ,fB,0⟩,⟨tg,iter,ifs,0⟩] scope pos) 1 (.ref it) (.ref D) X.env)
  (λr s'=>match r with|.ok f=>wpAny (model X.prog X.w) X.A (pure ()) (λ(_:Unit) s'=>∃σ' H',Inv X pins σ' H' s'/\Q σ' H') gJ s'|.error e=>cameBackBy (model X.prog X.w) X.A X.env gJ e s') s2:=by
  refine U8 (λn s'=>∃i σ' H',Inv X pins σ' H' s'/\tn i s'.heap/\(∀b∈fp,H' b=aD)/\W i n σ' H') ?_ m0 ⟨0,σ,H2,I2,st2,λb hb=>(f2 b hb).1,w0⟩;rintro n s3 ⟨i,σ3,H3,I3,st3,zI,w3⟩;rcases turn i n σ3 H3 w3 with⟨stop,qn⟩|⟨go,step⟩
  .refine aX (T.done X rfl rfl rfl hc i pins s3 σ3 H3 gJ I3 (kP zI) st3 stop) λr s4 bM=>?_
   obtain⟨hr,I4⟩:=bM;subst hr;exact aQ ⟨σ3,H3,I4,qn⟩
  refine aX (T.item X rfl rfl rfl hc i pins s3 σ3 H3 gJ I3 (kP zI) st3 go) λr s4 bM=>?_;obtain⟨u,hr,h4⟩:=bM;subst hr;refine aX h4 λ_ s5 bM=>?_;obtain⟨x,H5,I5,r5,y5,mK,qj⟩:=bM;have Gj:=I5.pinned (kP qj) (T.obj _ _ mK);have again:∀{kC:St}{H7:Hp}{s7:ah}{m':Nat},Inv X (pins++u5 fp s5.heap) kC H7 s7->m'<n->W (i+1) m' kC H7->∃m,m<n/\∃i σ' H',Inv X pins σ' H' s7/\tn i s7.heap/\(∀b∈fp,H' b=aD)/\W i m σ' H':=λ{kC H7 s7 m'} I7 hm w7=>by
   refine⟨m',hm,i+1,kC,H7,I7.dw,T.keep _ _ _ mK λb hb o e=>(I7.pin (b,o) (gV _ (gV _ (tw hb e)))).1,λb hb=>?_,w7⟩;obtain⟨o,e,d⟩:=T.obj _ _ mK b hb;exact(I7.pin (b,o) (gV _ (gV _ (tw hb e)))).2.1
  have q6:=hg _ s5 σ3 H5 x u _ Gj r5 (step x H5 y5);rw[hx]at q6;refine aX q6 λ_ s6 bM=>?_;obtain⟨jy,H6,I6,q6⟩:=bM;have q7:=ht _ s6 jy H6 _ I6 q6;rw[hx]at q7;refine aX q7 λok s7 z9=>z9.el λH7 I7 q7=>?_;cases ok with
  |false=>
   simp only[dh,cG]at q7 ⊢;obtain⟨m',hm,w7⟩:=q7;exact again I7 hm w7
  |true=>
   simp only[bQ]at q7 ⊢;have q8:=U' he D _ s7 jy H7 _ I7 q7;rw[hx]at q8;exact aX q8 λ_ s8 ⟨jN,H8,I8,m',hm,w8⟩=>again I8 hm w8
 exact aG (wpAny_runOwn (U9 loop (T.self _ 0 _ _ _ st2 loop)))
theorem Va{bx gq:aq}{cZ:List aq}(it acc:af)(env:Env):compTurn (.ListComp elt [⟨tg,iter,ifs,0⟩,⟨gq,bx,cZ,0⟩] scope pos) 0 it acc env=jQ (.ListComp elt [⟨tg,iter,ifs,0⟩,⟨gq,bx,cZ,0⟩] scope pos) tg iter ifs it acc env (jR (.ListComp elt [⟨tg,iter,ifs,0⟩,⟨gq,bx,cZ,0⟩] scope pos) bx acc env):=by
 unfold compTurn jQ jR;simp only[uM,sL,nK,bne_self_eq_false,dh,cG,reduceIte];congr 1;funext _;congr 1;funext r;cases r with
 |none=>rfl
 |some v=>
  dsimp only;congr 1;funext _;congr 1;funext _;congr 1;funext ok;cases ok;rfl;simp only[bQ];simp only[LawfulMonad.bind_assoc,qf]
theorem NF{P:aj}{w:ak}{bx gq:aq}{cZ:List aq}:lK P w (.ListComp elt [⟨tg,iter,ifs,0⟩,⟨gq,bx,cZ,0⟩] scope pos) tg iter ifs (jR (.ListComp elt [⟨tg,iter,ifs,0⟩,⟨gq,bx,cZ,0⟩] scope pos) bx) (newList []) {cls:=.type "list",dict:=aD,data:=.seq ([]:List af).toArray} (.lst [])where
 cl:=⟨_,rfl⟩
 turn:=Va
 dl:=λ_ _ _=>rfl
 ds:=λ_ _ _=>rfl
 al:=λ_ _ _ _=>rfl
 as:=λ_ _ _ _=>rfl
 new:=λA s Q E q=>ju q
 ok:=λH h hb=>⟨jw _,[],0,.nil,fG _ rfl⟩
end
noncomputable def Hw:Option Int->af->Bool|none,.none=>true|some i,v=>Value.isInt i v|none,_=>false
noncomputable def fM:Option Int->Int|none=>0xFCA86420|some i=>hashInt i
theorem qz:∀{k:Option Int} {v:af},Hw k v=true->(k=aD/\v=.none)\/∃i t,k=aC i/\v=.int i t
 |none,v,h=>by cases v<;>first|exact .inl ⟨rfl,rfl⟩|cases h
 |some i,v,h=>by
  obtain⟨t,e⟩:=Value.isInt_shape (k:=i) (v:=v) h;exact .inr ⟨i,t,rfl,e⟩
theorem Vb{prog:aj}{w:ak}{A:ao}{E:af->ah->Prop}{s:ah}{Q:Int->ah->Prop}(h:Q 0xFCA86420 {s with toks:=s.toks+1}):wpAny (model prog w) A (PySem.pyHash .none) Q E s:=by
 have hT:s.TypeIs .none "NoneType":=rfl;unfold pyHash;refine aG (wpAny_cRoomFor_or (.inl rfl) ?_);refine aG (pU hT DA.lookup ?_);show wpAny _ _ (if(aC (Value.builtin "NoneType.__hash__")==aC Value.none)=true then _ else _) Q E s;rw[if_neg (by rw[beq_builtin_none];exact lz)];refine aG (pU hT DA.lookup ?_);show wpAny _ _ (callSpecialIfBoundUnlessNone? .none "__hash__" _ >>= _) Q E s;refine aG (wpAny_callSpecialIfBoundUnlessNone?_slot hT DA
  (kK DA hT F.entry_NoneType_hash
    (show wpAny _ _ (do ret (<-mkInt 0xFCA86420)) _ _ s from wpAny_ret_mkInt ?_) (F.args_NoneType_hash_1 _)))
 show wpAny _ _ (if(decide (-(2:Int) ^ 63<=0xFCA86420)&&decide ((0xFCA86420:Int)<2 ^ 63))=true then _ else _) Q E _;rw[if_pos (by decide)];exact aQ h
noncomputable def lN(prog:aj)(w:ak):KeyKind prog w (Option Int)where
 is:=Hw
 hash:=fM
 inj:=λv a b ha hb=>by
  rcases qz ha with⟨rfl,rfl⟩|⟨i,t,rfl,rfl⟩
  .rcases qz hb with⟨rfl,_⟩|⟨j,u,rfl,e⟩
   .rfl
   .cases e
  .rcases qz hb with⟨rfl,e⟩|⟨j,u,rfl,e⟩
   .cases e
   .cases e;rfl
 byValue:=λk v h=>by
  rcases qz h with⟨rfl,rfl⟩|⟨i,t,rfl,rfl⟩<;>rfl
 pyHash:=λhv h=>by
  rcases qz hv with⟨rfl,rfl⟩|⟨i,t,rfl,rfl⟩
  .exact Vb h
  .exact wpAny_pyHash_int h
 eqBool:=λ{A E s a b u v Q} hu hv h=>by
  rcases qz hu with⟨rfl,rfl⟩|⟨i,t,rfl,rfl⟩
  .rcases qz hv with⟨rfl,rfl⟩|⟨j,u,rfl,rfl⟩
   .exact SeqAt.EqAt.same (A:=A) (s:=s) .none prog w E Q (by simpa using h)
   .exact SeqAt.EqAt.none_int (A:=A) (s:=s) j u prog w E Q (by simpa using h)
  .rcases qz hv with⟨rfl,rfl⟩|⟨j,u,rfl,rfl⟩
   .exact SeqAt.EqAt.int_none (A:=A) (s:=s) i t prog w E Q (by simpa using h)
   .refine wpAny_eqBool_int ?_
    by_cases e:i=j
    .subst e;simpa using h
    .have e':(i==j)=false:=by simpa using e
     rw[e'];simpa[e]using h
 «strs»:=λk x t v h=>by
  rcases qz h with⟨_,e⟩|⟨i,t,_,e⟩<;>cases e
noncomputable abbrev DK:=List Int×Option Int
section
variable(prog:aj)(w:ak)
noncomputable def eY(h:aA)(k:DK)(a:ai):Prop:=∃o n b v,h.get? a=aC o/\o.cls=.type "tuple"/\o.data=.seq #[v,.ref b] n/\IsTupleKey (intKind prog w) h k.1 b/\Hw k.2 v=true
noncomputable def Hx(k:DK):Int:=reduceHash (Builtin.Tuple.tupleHashOf [fM k.2,tupleKeyHash (intKind prog w) k.1])
variable{prog w}
theorem eY.typeIs{s:ah}{k:DK}{a:ai}(x:eY prog w s.heap k a):s.TypeIs (.ref a) "tuple":=let⟨o,_,_,_,ho,hc,_⟩:=x;⟨o,ho,hc⟩
theorem eY.inj{h:aA}{a:ai}{x y:DK}(hx:eY prog w h x a)(hy:eY prog w h y a):x=y:=by obtain⟨o,n,b,v,ho,_,hd,hi,hv⟩:=hx;obtain⟨o',n',b',v',ho',_,hd',hi',hv'⟩:=hy;obtain rfl:o=o':=lA (ho.symm.trans ho');rw[hd]at hd';injection hd' with h1 _;have h2:=pT Array.toList h1;simp only[List.cons.injEq,and_true,Value.ref.injEq]at h2;obtain⟨rfl,rfl⟩:=h2;exact Prod.ext (hi.inj hi') ((lN prog w).inj _ _ _ hv hv')
theorem eY.keeps{h h':aA}{k:DK}{a d:ai}{o:Obj}{es ep}(x:eY prog w h k a)(ho:h.get? d=aC o)(hd:o.data=.dict es ep)(hs:Heap.SameBut d h h'):eY prog w h' k a:=by
 obtain⟨o',n,b,v,ho',hc,hd',hi,hv⟩:=x;have hne:a≠d:=by rintro rfl;obtain rfl:o'=o:=lA (ho'.symm.trans ho);rw[hd]at hd';exact nomatch hd'
 exact⟨o',n,b,v,(hs.2 a hne).trans ho',hc,hd',hi.keeps ho hd hs,hv⟩
variable{A:ao}{E:af->ah->Prop}{s:ah}
theorem Vc{k:DK}{a:ai}{Q:Int->ah->Prop}(hu:A.units+1<cLine)(hk:eY prog w s.heap k a)(h:Q (Hx prog w k) {s with toks:=s.toks+ (1+ (k.1.length+1)+1)}) :
 wpAny (model prog w) A (pyHash (.ref a)) Q E s:=by
 have hT:=hk.typeIs;obtain⟨o,n,b,v,ho,_,hd,hi,hv⟩:=hk;unfold pyHash;refine aG (wpAny_cRoomFor_or (.inr (by lia)) ?_);refine aG (pU hT DB.lookup ?_);show wpAny _ _ (if(aC (Value.builtin "tuple.__hash__")==aC Value.none)=true then _ else _) Q E s;rw[if_neg (by rw[beq_builtin_none];exact lz)];refine aG (pU hT DB.lookup ?_);show wpAny _ _ (callSpecialIfBoundUnlessNone? (.ref a) "__hash__" _ >>= _) Q E s;refine aG (wpAny_callSpecialIfBoundUnlessNone?_slot hT DB (kK DB hT F.entry_tuple_hash ?_ (F.args_tuple_hash_1 _)));show wpAny _ _ (Builtin.Tuple.tupleItemsOf (.ref a) >>= _) _ _ s;refine aG (wpAny_tupleItemsOf ho hd ?_);refine aG ?_;rw[<-Array.forIn_toList];refine yO _
  (λrest (acc:Array Int) s'=>(rest=[v,.ref b]/\acc.toList=[]/\s'=s)\/(rest=[.ref b]/\acc.toList=[fM k.2]/\s' ={s with toks:=s.toks+1})\/(rest=[]/\acc.toList=[fM k.2,tupleKeyHash (intKind prog w) k.1]/\s' ={s with toks:=s.toks+1+ (k.1.length+1)}))
  _ ?_ ?_ _ _ (.inl ⟨rfl,rfl,rfl⟩)
 rintro x rest acc s' (⟨e,ha,rfl⟩|⟨e,ha,rfl⟩|⟨e,_⟩);cases e;refine aG ((lN prog w).pyHash (k:=k.2) hv ?_);first
  |exact aQ (.inr (.inl ⟨rfl,by simp[ha];rfl,rfl⟩))
  |exact aG (aQ (aQ (.inr (.inl ⟨rfl,by simp[ha];rfl,rfl⟩))))
 cases e;refine aG (wpAny_pyHash_tuple hu hi ?_);first
  |exact aQ (.inr (.inr ⟨rfl,by simp[ha],rfl⟩))
  |exact aG (aQ (aQ (.inr (.inr ⟨rfl,by simp[ha],rfl⟩))))
 cases e;rintro acc s' (⟨e,_⟩|⟨e,_⟩|⟨_,ha,rfl⟩);cases e;cases e;show wpAny _ _ (retInt (Builtin.Tuple.tupleHashOf acc.toList)) _ _ _;rw[ha];refine wpAny_ret_mkInt ?_;show wpAny _ _ (if(decide (-(2:Int) ^ 63<=Builtin.Tuple.tupleHashOf [fM k.2,tupleKeyHash (intKind prog w) k.1])&&decide (Builtin.Tuple.tupleHashOf [fM k.2,tupleKeyHash (intKind prog w) k.1]<2 ^ 63))=true then _ else _) Q E _;unfold Hx reduceHash at h;by_cases hr:(decide (-(2:Int) ^ 63<=Builtin.Tuple.tupleHashOf [fM k.2,tupleKeyHash (intKind prog w) k.1])&&decide (Builtin.Tuple.tupleHashOf [fM k.2,tupleKeyHash (intKind prog w) k.1]<2 ^ 63))=true;rw[if_pos hr];rw[if_pos hr]at h;exact aQ (by simpa[Nat.add_assoc]using h);rw[if_neg hr];rw[if_neg hr]at h;exact aG (kM (aQ (by simpa[Nat.add_assoc]using h)))
theorem Vd{x y:DK}{a b:ai}{P:Fin->ah->Prop}(hu:A.units<cLine)(hx:eY prog w s.heap x a)(hy:eY prog w s.heap y b)(h:P (.done (.ret (.bool (decide (x=y))))) s) :
 wpAny (model prog w) A (Builtin.«tuple.__eq__» ⟨[.ref a,.ref b],[]⟩) P E s:=by
 have hTb:=hy.typeIs;obtain⟨oa,na,a1,v1,hoa,_,hda,Ve,Vf⟩:=hx;obtain⟨ob,nb,b1,v2,hob,_,hdb,hib,Vg⟩:=hy;show wpAny _ _ (isInstance (.ref b) (.type "tuple") >>= _) _ _ s;refine aG (uI hTb isSubtype_tuple_tuple ?_);simp only[nG,dh,cG];refine aG (wpAny_tupleItemsOf hoa hda ?_);refine aG (wpAny_tupleItemsOf hob hdb ?_);refine aG ?_;refine yO _
  (λrest r s'=>r.1=aD/\s'=s/\((rest=[(v1,v2),(Value.ref a1,Value.ref b1)])\/(rest=[(Value.ref a1,Value.ref b1)]/\x.2=y.2)\/(rest=[]/\x=y)))
  _ ?_ ?_ _ _ ⟨rfl,rfl,.inl rfl⟩
 rintro⟨u,v⟩ rest r s' ⟨hr,rfl,e|⟨e,hxy⟩|⟨e,_⟩⟩;cases e;refine aG ((lN prog w).eqBool (a:=x.2) (b:=y.2) Vf Vg ?_);by_cases hk:x.2=y.2;rw[fW hk];simp only[nG,dh,cG];exact aQ ⟨rfl,rfl,.inr (.inl ⟨(by first|rfl|trivial),hk⟩)⟩;rw[eF hk];simp only[xq,bQ];have hf:decide (x=y)=false:=eF λz=>hk (by rw[z]);rw[hf]at h;exact aG (aQ (aQ (aQ h)));cases e;refine aG (wpAny_eqBool_tuple hu Ve hib ?_);by_cases hk:x.1=y.1;rw[fW hk];simp only[nG,dh,cG];exact aQ ⟨rfl,rfl,.inr (.inr ⟨(by first|rfl|trivial),Prod.ext hk hxy⟩)⟩;rw[eF hk];simp only[xq,bQ];have hf:decide (x=y)=false:=eF λz=>hk (by rw[z]);rw[hf]at h;exact aG (aQ (aQ (aQ h)));cases e;rintro⟨r1,r2⟩ s' ⟨hr,rfl,e|⟨e,_⟩|⟨_,e⟩⟩;cases e;cases e;simp only at hr;subst hr;refine aQ ?_;rw[fW e]at h;exact h
theorem Vh{x y:DK}{a b:ai}{Q:Bool->ah->Prop}(hu:A.units+1<cLine)(hx:eY prog w s.heap x a)(hy:eY prog w s.heap y b)(h:Q (decide (x=y)) s) :
 wpAny (model prog w) A (eqBool (.ref a) (.ref b)) Q E s:=by
 unfold eqBool
 try with_reducible refine kL ?_
 show wpAny _ _ (if(Value.ref a==Value.ref b)=true then _ else _) Q E s;by_cases hab:(Value.ref a==Value.ref b)=true;rw[if_pos hab];have e:a=b:=by have:=ze hab;injection this
 subst e;obtain rfl:=hx.inj hy;exact aG (kM (aQ (by simpa using h)));rw[if_neg hab];exact aG (wpAny_richCompare_same_room (op:=.Eq) hx.typeIs hy.typeIs DG
  (kK DG hx.typeIs F.entry_tuple_eq (Vd hu hx hy ⟨_,rfl,(λe=>nomatch e),nD h⟩) (F.args_tuple_eq_2 _ _)) (by lia))
theorem Vi{n:Nat}{ks:List Int}{a:ai}{Q:Bool->ah->Prop}(hk:IsTupleKey (intKind prog w) s.heap ks a)(h:Q true s):wpAny (model prog w) A (eqIsQuiet (n+1) (.ref a)) Q E s:=by have hT:=hk.typeIs;obtain⟨o,items,m,ho,_,hd,hi⟩:=hk;unfold eqIsQuiet;refine aG (pU hT DG.lookup ?_);show wpAny _ _ (isInstance (.ref a) (.type "tuple") >>= _) _ _ s;refine aG (uI hT isSubtype_tuple_tuple ?_);simp only[nG,dh,cG];refine aG (mD ho hd ?_);refine aG ?_;show wpAny _ _ (forIn items _ _) _ _ s;rw[<-Array.forIn_toList];refine yO _ (λrest r s'=>r.1=aD/\s'=s/\∀v∈rest,carriedByValue v=true) _ ?_ ?_ _ _ ⟨rfl,rfl,hi.byValue⟩;rintro v rest r s' ⟨hr,rfl,hall⟩;rw[eqIsQuiet_byValue _ (hall v fY)];refine aG (aQ ?_);simp only[nG,dh,cG];exact aQ ⟨rfl,rfl,λu Vj=>hall u (ff _ Vj)⟩;rintro⟨r1,r2⟩ s' ⟨hr,rfl,_⟩;simp only at hr;subst hr;exact aQ h
theorem Vk{k:DK}{a:ai}{Q:Bool->ah->Prop}(hk:eY prog w s.heap k a)(h:Q true s):wpAny (model prog w) A (eqIsQuiet 8 (.ref a)) Q E s:=by have hT:=hk.typeIs;obtain⟨o,n,b,v,ho,_,hd,hi,hv⟩:=hk;unfold eqIsQuiet;refine aG (pU hT DG.lookup ?_);show wpAny _ _ (isInstance (.ref a) (.type "tuple") >>= _) _ _ s;refine aG (uI hT isSubtype_tuple_tuple ?_);simp only[nG,dh,cG];refine aG (mD ho hd ?_);refine aG ?_;show wpAny _ _ (forIn #[v,.ref b] _ _) _ _ s;rw[<-Array.forIn_toList];refine yO _ (λrest r s'=>r.1=aD/\s'=s/\(rest=[v,.ref b]\/rest=[.ref b]\/rest=[])) _ ?_ ?_ _ _ ⟨rfl,rfl,.inl rfl⟩;rintro u rest r s' ⟨hr,rfl,e|e|e⟩;cases e;rw[eqIsQuiet_byValue _ ((lN prog w).byValue _ _ hv)];refine aG (aQ ?_);simp only[nG,dh,cG];exact aQ ⟨rfl,rfl,.inr (.inl (by first|rfl|trivial))⟩;cases e;refine aG (Vi hi ?_);simp only[nG,dh,cG];exact aQ ⟨rfl,rfl,.inr (.inr (by first|rfl|trivial))⟩;cases e;rintro⟨r1,r2⟩ s' ⟨hr,rfl,_⟩;simp only at hr;subst hr;exact aQ h
end
noncomputable def ie(prog:aj)(w:ak):HeapKind prog w DK where
 is:=eY prog w
 hash:=Hx prog w
 draws:=λk=>1+ (k.1.length+1)+1
 room:=λA=>A.units+1<cLine
 inj:=λhx hy=>hx.inj hy
 keeps:=λx ho hd hs=>x.keeps ho hd hs
 pyHash:=λhu hk h=>Vc hu hk h
 eqBool:=λhu hx hy h=>Vh hu hx hy h
 quiet:=λhk h=>Vk hk h
noncomputable def NG(k:DK):Int:=reduceHash (Builtin.Tuple.tupleHashOf [fM k.2,reduceHash (Builtin.Tuple.tupleHashOf (k.1.map hashInt))])
noncomputable def Vl:Option Int->V|none=>.aL|some i=>.int i
noncomputable abbrev DX:=List (DK×ai×V)
noncomputable abbrev AG(xs:DX)(us:List (DK×ai×af)):Prop:=Paired (λ(p:DK×ai×V) (q:DK×ai×af)=>p.1=q.1/\p.2.1=q.2.1/\RelV p.2.2 q.2.2) xs us
noncomputable def Hy(xs:DX)(a:ai)(h:aA):Prop:=xs.length<=sizeLine/\(a==sysModules)=false/\(xs.map (·.1)).Nodup/\∃us,AG xs us/\∃o es ep,h.get? a=aC o/\o.ExactDict/\o.data=.dict es ep/\es.toList=us.map λx=>⟨NG x.1,.ref x.2.1,x.2.2⟩
noncomputable def kE(xs:DX)(a:ai):HO:=.ext (Hy xs a)
theorem Hz{P:aj}{w:ak}{H:Hp}{h:aA}{a:ai}{xs:DX}(e:Hy xs a h):bf P w H h a (kE xs a):=by refine⟨e,?_,?_⟩;obtain⟨_,_,_,us,_,o,_,_,h1,_⟩:=e;exact⟨o,h1⟩;rintro h1 h2 ⟨a1,a2,a3,us,a4,o,es,ep,b1,b2⟩ k;exact⟨a1,a2,a3,us,a4,o,es,ep,k o b1,b2⟩
theorem Vm{P:aj}{w:ak}{H:Hp}{h:aA}{a:ai}{xs:DX}(ok:eW P w H h)(e:H a=aC (kE xs a)):Hy xs a h:=(ok a _ e).1
noncomputable def cg(K:aK)(H:Hp)(k:DK)(b:ai):Prop:=∃c,bU K H b [Vl k.2,.ref c]/\bU K H c (k.1.map .int)
noncomputable def DT(K:aK)(H:Hp)(a:ai)(xs:DX):Prop:=(H a=aC (kE xs a)/\∀p∈xs,cg K H p.1 p.2.1)\/(xs=[]/\Rd H a (.dK []))
noncomputable def bC(xs:DX)(k:DK):Option (ai×V):=(xs.find? λx=>decide (x.1=k)).map (·.2)
noncomputable def dW(xs:DX)(k:DK)(b:ai)(v:V):DX:=if(bC xs k).isSome then xs.map (λx=>if x.1=k then(x.1,x.2.1,v)else x)else xs++[(k,b,v)]
theorem xU{xs:DX}{us:List (DK×ai×af)}(r:AG xs us)(k:DK):(bC xs k=aD/\atKey us k=aD)\/∃p q,bC xs k=aC p/\atKey us k=aC q/\RelV p.2 q.2:=by
 induction r with
 |nil=>exact .inl ⟨rfl,rfl⟩
 | @cons p q ps qs h t ih=>
  obtain⟨h1,h2,h3⟩:=h;by_cases e:p.1=k;refine .inr ⟨p.2,q.2,?_,?_,h3⟩;simp[bC,ko,e];simp[atKey,ko,h1.symm.trans e];have e':¬q.1=k:=λz=>e (h1.trans z);have b1:bC (p::ps) k=bC ps k:=by simp[bC,ko,e]
  have b2:atKey (q::qs) k=atKey qs k:=by simp[atKey,ko,e']
  rw[b1,b2];exact ih
theorem NH{xs:DX}{us:List (DK×ai×af)}(r:AG xs us)(k:DK)(b:ai){v:V}{u:af}(rv:RelV v u):AG (dW xs k b v) (storedH us k b u):=by
 unfold dW storedH;have e:(bC xs k).isSome=(atKey us k).isSome:=by rcases xU r k with⟨h1,h2⟩|⟨p,q,h1,h2,_⟩<;> (rw[h1,h2];rfl)
 rw[e];by_cases z:(atKey us k).isSome=true;rw[if_pos z,if_pos z];clear e z;induction r with
 |nil=>exact .nil
 | @cons p q ps qs h t ih=>
  rw[cu,cu];refine .cons ?_ ih;obtain⟨h1,h2,h3⟩:=h;unfold putAt;by_cases e:p.1=k;rw[if_pos e,if_pos (h1.symm.trans e)];exact⟨h1,h2,rv⟩;rw[if_neg e,if_neg (λz=>e (h1.trans z))];exact⟨h1,h2,h3⟩
 rw[if_neg z,if_neg z];exact Paired.snoc r ⟨rfl,rfl,rv⟩
theorem NI(xs:DX)(k:DK)(b:ai)(v:V):(dW xs k b v).length<=xs.length+1:=by unfold dW;split;rw[bT];lia;rw[fH];exact aW _
section
variable{X:Cx}{pins:List (ai×Obj)}{σ:St}{H:Hp}{s:ah}{a b:ai}{k:DK}{xs:DX}{v:V}{r:af}{A:ao}{E:af->ah->Prop}
theorem NJ:∀{ls:List Int} {us:List af},Vals (ls.map .int) us->ItemsAre (intKind X.prog X.w) ls us
 |[],_,.nil=>.nil
 |x::ls,_,.cons h t=>by
  obtain⟨t',rfl⟩:=h;exact .cons (by show Value.isInt x (.int x t')=true;simp[Value.isInt]) (NJ t)
theorem cg.is(I:Inv X pins σ H s)(h:cg X.K H k b):eY X.prog X.w s.heap k b:=by
 obtain⟨c,h1,h2⟩:=h;obtain⟨its,r1,⟨o,e1,e2,n,e3⟩,_⟩:=I.tuple h1;obtain⟨its2,r2,⟨o2,f1,f2,n2,f3⟩,_⟩:=I.tuple h2;cases r1 with
 | @cons _ u1 _ us0 q3 q2=>
  cases q2 with
  | @cons _ u0 _ us1 q1 q4=>
   cases q4;have q1:u0=.ref c:=q1;subst q1;refine⟨o,n,c,u1,e1,e2,e3,⟨o2,its2.toArray,n2,f1,f2,f3,NJ r2⟩,?_⟩;cases z:k.2 with|none=>rw[z]at q3;cases q3;rfl|some i=>rw[z]at q3;obtain⟨t,rfl⟩:=q3;show Value.isInt i (.int i t)=true;simp[Value.isInt]
theorem DT.dict(I:Inv X pins σ H s)(h:DT X.K H a xs):xs.length<=sizeLine/\(a==sysModules)=false/\∃us,AG xs us/\s.heap.DictOfH (ie X.prog X.w) a us:=by
 rcases h with⟨e,hk⟩|⟨rfl,e⟩;obtain⟨a1,a2,a3,us,a4,o,es,ep,b1,b2,b3,b4⟩:=Vm I.hok e;refine⟨a1,a2,us,a4,o,es,ep,b1,b2,b3,b4,?_,?_⟩;intro x hx;have:∃p∈xs,p.1=x.1/\p.2.1=x.2.1:=by
  clear a1 a3 b4 hk e;induction a4 with
  |nil=>cases hx
  | @cons p q ps qs h t ih=>
   rcases eG.mp hx with rfl|hx;exact⟨p,fY,h.1,h.2.1⟩;obtain⟨p',h1,h2⟩:=ih hx;exact⟨p',ff _ h1,h2⟩
 obtain⟨p,hp,h1,h2⟩:=this;have:=cg.is I (hk p hp);rw[h1,h2]at this;exact this;have:us.map (·.1)=xs.map (·.1):=by
  clear a1 a3 b4 hk e;induction a4 with|nil=>rfl| @cons p q ps qs h t ih=>rw[cu,cu,ih,h.1]
 rw[this];exact a3;obtain⟨z,y,vs,r,o,es,ep,b1,b2,b3,b4,b5,b6⟩:=jP I.hok e;cases r;refine⟨jw _,y,[],.nil,o,es,ep,b1,b2,b3,?_,(λx hx=>nomatch hx),List.nodup_nil⟩;generalize es.toList=l at b5 ⊢;cases b5;rfl
theorem Vn{Q:af->ah->Prop}{p:ai×V}(hu:A.units+2<cLine)(I:Inv X pins σ H s)(d:DT X.K H a xs)(kk:cg X.K H k b)(g:bC xs k=aC p)(h:∀w' s',Inv X pins σ H s'->RelV p.2 w'->Q w' s') :
 wpAny (model X.prog X.w) A (getItem (.ref a) (.ref b)) Q E s:=by
 obtain⟨_,_,us,r,dd⟩:=d.dict I;rcases xU r k with⟨h1,_⟩|⟨p',q,h1,h2,h3⟩;rw[g]at h1;cases h1;rw[g]at h1;cases h1;exact wpAny_getItem_heap (knd:=ie X.prog X.w) (by show A.in1.units+1<cLine;exact hu) (kk.is I) dd h2 (h _ _ (I.tok _) h3)
theorem AH{Q:af->ah->Prop}(hu:A.units+2<cLine)(I:Inv X pins σ H s)(d:DT X.K H a xs)(kk:cg X.K H k b)(h:∀s',Inv X pins σ H s'->Q (.bool (bC xs k).isSome) s') :
 wpAny (model X.prog X.w) A (compareOp .In (.ref b) (.ref a)) Q E s:=by
 obtain⟨_,y,us,r,dd⟩:=d.dict I;have e:(bC xs k).isSome=(atKey us k).isSome:=by rcases xU r k with⟨h1,h2⟩|⟨p,q,h1,h2,_⟩<;> (rw[h1,h2];rfl)
 refine wpAny_in_heap (knd:=ie X.prog X.w) (by show A.in1.units+1<cLine;exact hu) (kk.is I) y dd ?_;rw[<-e];exact h _ (I.tok _)
theorem Vo{Q:af->ah->Prop}(hu:A.units+2<cLine)(I:Inv X pins σ H s)(d:DT X.K H a xs)(kk:cg X.K H k b)(h:∀s',Inv X pins σ H s'->Q (.bool (!(bC xs k).isSome)) s') :
 wpAny (model X.prog X.w) A (compareOp .NotIn (.ref b) (.ref a)) Q E s:=by
 obtain⟨_,y,us,r,dd⟩:=d.dict I;have e:(bC xs k).isSome=(atKey us k).isSome:=by rcases xU r k with⟨h1,h2⟩|⟨p,q,h1,h2,_⟩<;> (rw[h1,h2];rfl)
 refine wpAny_notIn_heap (knd:=ie X.prog X.w) (by show A.in1.units+1<cLine;exact hu) (kk.is I) y dd ?_;rw[<-e];exact h _ (I.tok _)
theorem Vp{Q:Unit->ah->Prop}(hu:A.units+2<cLine)(I:Inv X pins σ H s)(d:DT X.K H a xs)(mu:nQ (H a))(kk:cg X.K H k b)(hz:xs.length<sizeLine)(rv:RelV v r)(h:∀s',Inv X pins σ (upd H a (kE (dW xs k b v) a)) s'->Q () s') :
 wpAny (model X.prog X.w) A (setItem (.ref a) (.ref b) r) Q E s:=by
 obtain⟨_,y,us,rl,dd⟩:=d.dict I;refine wpAny_setItem_heap (knd:=ie X.prog X.w) (hsz:=by rw[<-sW rl];lia) (by show A.in1.units+1<cLine;exact hu) (kk.is I) dd λh' mQ hs=>h _ ?_;obtain⟨q,es,ep,hq,h2,h3,h4,_,h5⟩:=mQ;have pr:=NH rl k b rv;refine zdt I mu hs ⟨q,hq⟩ (Hz ⟨?_,y,?_,_,pr,q,es,ep,hq,h2,h3,h4⟩);have:=NI xs k b v;lia;have:(dW xs k b v).map (·.1)=(storedH us k b r).map (·.1):=by
  generalize dW xs k b v=ys at pr;generalize storedH us k b r=zs at pr;clear h4 h5;induction pr with|nil=>rfl| @cons p q ps qs h t ih=>rw[cu,cu,ih,h.1]
 rw[this];exact h5
end
end L2
namespace L2
open PySem PySem.Spec PyProof.Rows PySem.W
open AutoSeq1 (wpAny_loadPart')
noncomputable def DE(h:aA)(d:ai)(es:Array DictEntry)(ep:Nat):Prop:=∃o,h.get? d=aC o/\o.ExactDict/\o.data=.dict es ep
theorem DE.ty{s:ah}{d:ai}{es:Array DictEntry}{ep:Nat}(x:DE s.heap d es ep):s.TypeIs (.ref d) "dict":=let⟨o,a,b,_⟩:=x;⟨o,a,b.1⟩
theorem DE.at_{h h':aA}{d:ai}{es:Array DictEntry}{ep:Nat}(x:DE h d es ep)(k:∀o,h.get? d=aC o->h'.get? d=aC o):DE h' d es ep:=let⟨o,a,b⟩:=x;⟨o,k o a,b⟩
theorem DE.lt{h:aA}{d:ai}{es:Array DictEntry}{ep:Nat}(x:DE h d es ep):d<h.objs.size:=let⟨_,a,_⟩:=x;cP a
section
variable{prog:aj}{w:ak}{A:ao}{E:af->ah->Prop}{s:ah}{d it:ai}{es:Array DictEntry}{ep i:Nat}
theorem Vq{Q:af->ah->Prop}(hd:(d==sysModules)=false)(hm:DE s.heap d es ep)(hf:(es.size:Int)<2 ^ 63)(h:∀t tk,Q (.int es.size t) {s with toks:=tk}) :
 wpAny (model prog w) A (call (.builtin "len") [.ref d]) Q E s:=by
 refine Calls.call_function_entry kind_len plain_len entry_len (args_len1 _) ?_;unfold Builtin.«len»;refine aG (m:=oneArg "len" _) (aQ ?_);have M:MeetsIn prog w (Builtin.«dict.__len__» ⟨[.ref d],[]⟩) (λ_ R s=>DE s.heap d es ep/\R (.ok (.ret (.int es.size s.toks))) {s with toks:=s.toks+1}):=
  .of_wp λA R s bM=>by
   obtain⟨⟨o,a,b,c⟩,h⟩:=bM;show wpAny _ _ (dictSize d >>= _) _ _ s;unfold dictSize;exact aG (aG (C5 a c (aQ (aG (wpAny_pendingCount_other hd (wpAny_ret_mkInt h))))))
 refine aG (m:=callSpecial? (.ref d) (Str.ofString "__len__")) (nC (name:=Str.ofString "__len__") hm.ty F.slot_dict_len
  (call_meetsIn F.slot_dict_len hm.ty F.entry_dict_len (F.args_dict_len_1 _) M ⟨hm,?_⟩))
 refine aG (kL (aQ (aG (sG ?_))));show wpAny _ _ (if((es.size:Nat):Int)<0 then _ else _) _ _ _;rw[if_neg (by lia)];show wpAny _ _ (if((es.size:Nat):Int)>=2 ^ 63 then _ else _) _ _ _;rw[if_neg (by lia)];exact aG (wpAny_mkInt (aQ ⟨_,rfl,h _ _⟩))
theorem Vr{Q:af->ah->Prop}(hd:(d==sysModules)=false)(hm:DE s.heap d es ep)
 (hQ:Q (.ref s.heap.objs.size) {s with heap:=s.heap.push {cls:=.type "dict_keyiterator",data:=.fields #[.ref d,.int 0 0,.int es.size 0,.int ep 0]}}) :
 wpAny (model prog w) A (pyIter (.ref d)) Q E s:=by
 have hT:=hm.ty;obtain⟨o,a,b,c⟩:=hm;refine wpAny_pyIter_slot hT F.slot_dict_iter (kK F.slot_dict_iter hT F.entry_dict_iter ?_ (F.args_dict_iter_1 _));unfold Builtin.«dict.__iter__» Builtin.Dict.dictSlotNone;refine aG (aG (wpAny_notOrdered_dict hT (aQ ?_)));show wpAny _ _ (Builtin.Dict.showsAll d >>= _) _ _ s;unfold Builtin.Dict.showsAll;rw[if_neg (by rw[hd];exact lz)];refine aG (aQ (aG (C5 a c (aG (wpAny_dictEpoch a c (aG (ju (aQ
  ⟨_,rfl,"dict_keyiterator",_,⟨_,fG _ rfl,rfl⟩,F.slot_dict_keyiterator_next.lookup,?_⟩))))))))
 simpa[rawInt]using hQ
theorem NK{Q:Option af->ah->Prop}(hh:A.handled=aD)(hit:s.heap.IsKeyIter it d i es.size ep)(hm:DE s.heap d es ep)
 (hI:∀e h',es[i]?=aC e->h'.IsKeyIter it d (i+1) es.size ep->Heap.SameBut it s.heap h'->Q (aC e.key) {s with heap:=h'})
 (hE:es[i]?=aD->∀h',Heap.ExtBut it s.heap h'->Q aD {s with heap:=h'}):wpAny (model prog w) A (pyNext (.ref it)) Q E s:=by
 have hT:=hit.typeIs;obtain⟨o,ho,hc,hd⟩:=id hit;obtain⟨od,hod,_,Er⟩:=hm;unfold pyNext;refine aG (xh (nC (name:=Str.ofString "__next__") hT F.slot_dict_keyiterator_next
  (kK F.slot_dict_keyiterator_next hT F.entry_dict_keyiterator_next ?_ (F.args_dict_keyiterator_next_1 _))))
 refine aG (aQ (aG (aG ?_)));first|refine aG (wpAny_typeNameOfWhole_keyiter hT (aQ ?_))|refine aG (wpAny_typeNameOf_keyiter hT (aQ ?_))
 refine aG (wpAny_fieldsOf ho hd ?_);have hown:Builtin.Dict_items.ownsTuple "dict_keyiterator" = false:=by decide
 simp only[hown,dh,cG];show wpAny _ _ (if(Value.ref d==Value.none)=true then _ else _) _ _ s;rw[if_neg (show ¬((Value.ref d==Value.none)=true)from lz)];refine aG (aQ (aG (C5 hod Er ?_)));rw[if_neg (by simp)];refine aG (aQ (aG (wpAny_dictEpoch hod Er ?_)));rw[if_neg (by simp)];refine aQ ?_;simp only[show ¬((i:Int)<0)from by lia,cG,xF];cases hx:es[i]? with
 |some e=>
  refine aG ?_;first|refine aG (wpAny_typeNameOfWhole_keyiter hT (aQ ?_))|refine aG (wpAny_typeNameOf_keyiter hT (aQ ?_))
  refine aG (wpAny_isOneOf_keyiter hT ?_);show wpAny _ _ (setField (.ref it) 1 (rawInt ((i:Int)+1)) >>= _) _ _ s;refine aG (uK ho hd (by simp) ?_);have n9:(s.heap.update it (Obj.mapFields (·.setIfInBounds 1 (rawInt ((i:Int)+1))))).IsKeyIter it d (i+1) es.size ep:=
   ⟨_,sH _ ho (DI (sV hd _)),(Obj.cls_mapFields ..).trans hc,by rw[sV hd];simp[rawInt]⟩
  refine aG (kL (aG (wpAny_isOneOf_keyiter (s:={s with heap:=s.heap.update it (Obj.mapFields (·.setIfInBounds 1 (rawInt ((i:Int)+1))))}) n9.typeIs ?_)));show wpAny _ _ (pure e.key) _ _ _;exact aQ (aQ ⟨_,rfl,aQ (hI _ _ hx n9 (nO ..))⟩)
 |none=>
  refine aG ?_;first|refine aG (wpAny_typeNameOfWhole_keyiter hT (aQ ?_))|refine aG (wpAny_typeNameOf_keyiter hT (aQ ?_))
  show wpAny _ _ (setField (.ref it) 0 .none >>= _) _ _ s;refine aG (uK ho hd (by simp) ?_);show wpAny _ _ (newExc (.type "StopIteration") [] >>= _) _ _ _;refine aG ?_;simp only[newExc,newTuple];refine aG (ju ?_ (by size_fits));refine aG (m:=firstArgMember _ _) (nj (a:=Value.none) (by first|rfl|(simp only[firstArgMember];rfl)) ?_);refine ju ?_ (by size_fits);simp only[raiseNew];refine aG (wpAny_handled ?_);rw[show A.in1.handled=aD from hh];refine aG (aQ (wpAny_throw ?_));refine aG (uI (T:="StopIteration") (b:=true) ⟨_,fG _ rfl,rfl⟩ isSubtype_stop ?_);exact aQ (hE hx _ (((nO ..).extBut.push _).push _))
theorem Vs(hh:A.handled=aD)(hne:d≠it):Walks prog w A it [it,d] [it] es.size (λi v=>∃e,es[i]?=aC e/\v=e.key) (λi h=>h.IsKeyIter it d i es.size ep/\DE h d es ep)where
 sub:=λb hb=>by simp at hb;simp[hb]
 frame:=λ_ _ _ st k=>⟨st.1.at λo e=>k it (by simp) o e,st.2.at_ λo e=>k d (by simp) o e⟩
 item:=λi s Q E hi st hQ=>by
  refine NK hh st.1 st.2 (λe h' hx n9 hs=>?_) λhx=>?_;exact hQ _ h' s.toks ⟨e,hx,rfl⟩ ⟨n9,st.2.at_ λo q=>hs.extBut d o hne q⟩ λb o hb q=>hs.extBut b o (λh=>hb (by simp[h])) q;simp at hx;lia
 done:=λs Q E st hQ=>by
  refine NK hh st.1 st.2 (λe h' hx n9 hs=>?_) λhx h' he=>?_;simp at hx;exact hQ h' s.toks λb o hb q=>he b o (λh=>hb (by simp[h])) q
 self:=λ_ _ _ _ st hQ=>wpAny_pyIter_keyiter st.1 hQ
theorem Vt(hd:(d==sysModules)=false):KdlSrc prog w "dict" d d es.size (λi v=>∃e,es[i]?=aC e/\v=e.key) (λh=>DE h d es ep)where
 type:=λ_ hm=>hm.ty
 there:=λ_ hm=>⟨hm.lt,hm.lt⟩
 keep:=λ_ _ hm hk=>hm.at_ λo e=>hk d (.inl rfl) o e
 notList:=by decide
 notTuple:=by decide
 hint:=λ_ _ _ _ hm hq=>kdl_hint_dict hm.ty hq
 iter:=λ_ _ hh hm=>⟨_,_,(λ_ _ hq=>Vr hd hm hq),Vs hh (fX hm.lt),⟨⟨_,fG _ rfl,rfl,rfl⟩,hm.at_ λo e=>b9 _ e⟩⟩
end
theorem Vu{d:ai}{es:Array DictEntry}{ep:Nat}(hd:(d==sysModules)=false)(hz:es.size<=sizeLine) :
 Meets (Builtin.«tuple.__new__» ⟨[.type "tuple",.ref d],[]⟩)
  (λA R s=>A.handled=aD/\DE s.heap d es ep/\∀(h':aA)(tk:Nat),(∀b o',s.heap.get? b=aC o'->h'.get? b=aC o')->R (.ok (.ret (.ref h'.objs.size))) {s with heap:=h'.push {cls:=.type "tuple",data:=.seq (es.map (·.key))},toks:=tk}):=
 .of_wp λprog w A R s h=>by
  obtain⟨hp,g,dd,tk,os⟩:=s;obtain⟨hh,ht,h⟩:=h;have hsub:=sub_tuple_self;have NL:=init_tuple_lookup;have hmh:=madeHere_tuple;obtain⟨o,e1,e2,e3⟩:=id ht;have hT:Shared.TypeIs ⟨hp,g,dd,tk,os⟩ (.ref d) "dict":=ht.ty
  wp_walk using FO e1,xj hT,kdu_collect (A:=A.in1) (Vt (ep:=ep) (es:=es) hd) hh ht hz;intro h' tk' acc hk hacc;have e:acc=es.map (·.key):=by
   apply Array.ext_getElem?;intro j;rw[Array.getElem?_map];cases q:acc[j]? with
   |none=>
    have:es.size<=j:=by rw[<-hacc.1];simpa using q
    rw[Array.getElem?_eq_none this];rfl
   |some v=>
    obtain⟨x,h1,h2⟩:=hacc.2 j v q;rw[h1,h2];rfl
  show wpAny _ _ (Builtin.Tuple.tupleExact acc.toList.toArray >>= λv=>ret v) _ _ _;unfold Builtin.Tuple.tupleExact;refine aG (ju ?_ (by show acc.toList.toArray.size<=sizeLine;simpa[hacc.1]using hz));refine aQ ⟨_,rfl,?_⟩;have e':acc.toList.toArray=acc:=by simp
  rw[e',e];exact h h' tk' hk
section
variable{prog:aj}{w:ak}{A:ao}{E:af->ah->Prop}{s:ah}{d:ai}{es:Array DictEntry}{ep:Nat}
theorem Vv{Q:af->ah->Prop}(hh:A.handled=aD)(hd:(d==sysModules)=false)(hm:DE s.heap d es ep)(hz:es.size<=sizeLine)
 (h:∀(h':aA)(tk:Nat),(∀b o',s.heap.get? b=aC o'->h'.get? b=aC o')->Q (.ref h'.objs.size) {s with heap:=h'.push {cls:=.type "tuple",data:=.seq (es.map (·.key))},toks:=tk}) :
 wpAny (model prog w) A (call (.type "tuple") [.ref d]) Q E s:=
 Dd F.called_tuple (by decide) (F.typeCall_tuple_1 _) (F.newCall_tuple_1 _) (λobj=>F.args_object_init_2 obj _) F.entry_tuple_new
  (Vu hd hz) ⟨hh,hm,λh' tk hk=>⟨⟨_,fG _ rfl,rfl⟩,h h' tk hk⟩⟩
end
end L2
namespace L2
open PySem PySem.Spec PyProof.Rows PySem.W
section
variable{X:Cx}{pins:List (ai×Obj)}{σ:St}{H:Hp}{s:ah}{a b:ai}{k:DK}{xs:DX}
theorem DT.de(I:Inv X pins σ H s)(h:DT X.K H a xs):∃(es:Array DictEntry) (ep:Nat),DE s.heap a es ep/\es.size=xs.length/\∀(i:Nat) (p:DK×ai×V),xs[i]?=aC p->∃e:DictEntry,es[i]?=aC e/\e.key=Value.ref p.2.1:=by
 obtain⟨g1,_,us,r,o,es,ep,b1,b2,b3,b4,g2⟩:=h.dict I;clear h g1 g2;refine⟨es,ep,⟨o,b1,b2,b3⟩,?_,λi p hp=>?_⟩;rw[<-sU,b4,bT,sW r];have:∃q,us[i]?=aC q/\p.2.1=q.2.1:=by
  clear b4;revert i;induction r with
  |nil=>intro i hp;simp at hp
  | @cons p0 q0 ps qs h t ih=>
   intro i hp;cases i with|zero=>simp at hp;subst hp;exact⟨q0,rfl,h.2.1⟩|succ i=>exact ih i (by simpa using hp)
 obtain⟨q,h1,h2⟩:=this;refine⟨⟨NG q.1,.ref q.2.1,q.2.2⟩,?_,by rw[h2]⟩;rw[<-Array.getElem?_toList,b4,jf,h1];rfl
noncomputable def qA(K:aK)(neg:Bool):R2:=λx y H Q=>∃a b xs k,y=.ref a/\x=.ref b/\DT K H a xs/\cg K H k b/\Q (.bl (if neg then !(bC xs k).isSome else(bC xs k).isSome)) H
theorem Vw(hu:X.A.units+2<cLine):cH X (compareOp .In) (qA X.K false):=by intro pins s σ H x y v u Q I rx ry h;obtain⟨a,b,xs,k,rfl,rfl,d,kk,q⟩:=h;cases rx;cases ry;exact AH hu I d kk λs' I'=>⟨.bl _,H,I',rfl,q⟩
theorem Vx(hu:X.A.units+2<cLine):cH X (compareOp .NotIn) (qA X.K true):=by intro pins s σ H x y v u Q I rx ry h;obtain⟨a,b,xs,k,rfl,rfl,d,kk,q⟩:=h;cases rx;cases ry;exact Vo hu I d kk λs' I'=>⟨.bl _,H,I',rfl,q⟩
theorem DT.typeIs(I:Inv X pins σ H s)(h:DT X.K H a xs):s.TypeIs (.ref a) "dict":=let⟨_,_,d,_⟩:=h.de I;d.ty
noncomputable def AI(K:aK):R2:=λx y H Q=>∃a b xs k p,x=.ref a/\y=.ref b/\DT K H a xs/\cg K H k b/\bC xs k=aC p/\Q p.2 H
theorem AJ(hu:X.A.units+2<cLine):pF X (AI X.K):=by intro value slice pins s σ H x y v u Q I rx ry q hs;obtain⟨a,b,xs,k,p,rfl,rfl,d,kk,g,q⟩:=q;cases rx;cases ry;exact tail_any (d.typeIs I) PySem.F.slot_dict_getitem.lookup (Vn hu I d kk g λw' s3 I3 rw'=>⟨p.2,H,I3,rw',q⟩) hs
noncomputable def AK(K:aK):V->V->V->Hp->(Hp->Prop)->Prop:=λo i v H Q=>∃a b xs k,o=.ref a/\i=.ref b/\DT K H a xs/\nQ (H a)/\cg K H k b/\xs.length<sizeLine/\Q (upd H a (kE (dW xs k b v) a))
theorem Vy(hu:X.A.units+2<cLine):jH X (AK X.K):=by intro pins s σ H o i v ov iv u Q I ro ri rv h;obtain⟨a,b,xs,k,rfl,rfl,d,mu,kk,hz,q⟩:=h;cases ro;cases ri;exact Vp hu I d mu kk hz rv λs' I'=>⟨_,I',q⟩
theorem jH.or{t t':V->V->V->Hp->(Hp->Prop)->Prop}(h:jH X t)(h':jH X t'):jH X (λo i v H Q=>t o i v H Q\/t' o i v H Q):=by
 intro pins s σ H o i v ov iv u Q I ro ri rv q;rcases q with q|q
 exact h pins s σ H o i v ov iv u Q I ro ri rv q;exact h' pins s σ H o i v ov iv u Q I ro ri rv q
theorem Vz:bO X (.builtin "len") (λys H Q=>∃a xs,ys=[.ref a]/\DT X.K H a xs/\Q (.int xs.length) H):=by intro pins s σ H ys us Q I r h;obtain⟨a,xs,rfl,d,q⟩:=h;obtain⟨u,rfl,rx⟩:=vals1 r;cases rx;obtain⟨es,ep,de,hz,_⟩:=d.de I;obtain⟨hl,hd,_⟩:=d.dict I;refine Vq hd de (by rw[hz];have:=pV;lia) λt tk=>⟨.int xs.length,H,I.tok _,⟨t,by rw[hz]⟩,q⟩
theorem VA(hc:X.calm):bO X (.type "tuple") (λys H Q=>∃a xs,ys=[.ref a]/\DT X.K H a xs/\∀l,H l=aD->Q (.ref l) (upd H l (.tup (xs.map λp=>.ref p.2.1)))):=by
 intro pins s σ H ys us Q I r h;obtain⟨a,xs,rfl,d,q⟩:=h;obtain⟨u,rfl,rx⟩:=vals1 r;cases rx;obtain⟨es,ep,de,hz,hk⟩:=d.de I;obtain⟨hl,hd,_⟩:=d.dict I;refine Vv (I.ok.hd hc) hd de (by lia) λh' tk kp=>?_;have I1:Inv X pins σ H {s with heap:=h',toks:=tk}:=I.kept (t':=tk) kp;have rv:Vals (xs.map λp=>.ref p.2.1) (es.map (·.key)).toList:=by
  have:∀(xs:DX)(ls:List DictEntry),ls.length=xs.length->(∀(i:Nat)(p:DK×ai×V),xs[i]?=aC p->∃e:DictEntry,ls[i]?=aC e/\e.key=Value.ref p.2.1)->Vals (xs.map λp=>V.ref p.2.1) (ls.map (·.key)):=by
   intro xs;induction xs with
   |nil=>intro ls e _;cases ls with|nil=>exact .nil|cons=>cases e
   |cons p ps ih=>
    intro ls e h;cases ls with
    |nil=>cases e
    |cons l ls=>
     obtain⟨e',h1,h2⟩:=h 0 p rfl;cases h1;refine .cons ?_ (ih ls (by simpa using e) λi q hq=>by simpa using h (i+1) q (by simpa using hq));exact h2
  have:=this xs es.toList (by simpa using hz) (λi p hp=>by simpa using hk i p hp);simpa using this
 have I2:Inv X pins σ (upd H h'.objs.size (.tup (xs.map λp=>.ref p.2.1))) {s with heap:=h'.push {cls:=.type "tuple",data:=.seq (es.map (·.key))},toks:=tk}:=
  I1.laid (t':=tk) (λb o e=>b9 _ e) (aW _) (show bf X.prog X.w _ _ _ (.tup _)from⟨by rw[bT];exact hl,_,rv,by rw[Array.toArray_toList];exact jF.new h' (es.map (·.key))⟩)
 exact⟨.ref h'.objs.size,_,I2,rfl,q _ (I1.hok.fresh (aW _))⟩
noncomputable def VB(K:aK)(lJ:List (TE×TE)):TE:=λσ H Q=>∀p,H p=aD->Eh lJ σ (upd H p (.dK [])) λps H2=>H2 p=aC (.dK [])/\((∃kvs:List (Key×V),ps=kvs.map (λkv=>(kV kv.1,kv.2))/\kvs.length<=15/\Q (.ref p) (upd H2 p (.dK (tG [] kvs))))\/
 ∃b k v,ps=[(.ref b,v)]/\cg K H2 k b/\Q (.ref p) (upd H2 p (kE [(k,b,v)] p)))
theorem VC{pos:Pos}{keys:List (Option aq)}{values:List aq}{lJ:List (TE×TE)}(hu:X.A.units+2<cLine)(h:As X pos keys values lJ)(hall:keys.all (·.isSome))(hl:keys.length=values.length)(h0:keys≠[])
 (HA:keys.length<=15):PE X (.Dict keys values pos) (VB X.K lJ):=by
 intro pins s σ H Q I q;have hn:=I.hok.fresh (aW s.heap.objs.size);have I1:=I.laid (a:=s.heap.objs.size) (o:=.dK []) (h':=s.heap.push {cls:=.type "dict",data:=.dict #[]}) (t':=s.toks) (λ_ _ q=>b9 _ q) (aW _) (Nk s.heap I.big);refine wpAny_Dict_any hall hl h0 HA (aX (h pins _ σ _ _ I1 (q _ hn)) λws s2 bM=>?_);obtain⟨ps,H2,I2,rel,e,q2⟩:=bM;unfold storeAll;rcases q2 with⟨kvs,ep,lk,q2⟩|⟨b,k,v,ep,kk,q2⟩
 subst ep;obtain⟨rs,c,rk⟩:=Nm (P:=X.prog) (w:=X.w) rel;obtain⟨z,hd,NN,r0,dd⟩:=tF I2.hok e;cases r0;have hr:rs.length=kvs.length:=(sW rk).symm;refine wpAny_storeAll (knd:=ku X.prog X.w) ws rs [] s2 _ c dd (by rw[p9,pV];lia) λh' mQ hs=>⟨.ref s.heap.objs.size,_,?_,rfl,q2⟩
 have hz:(tG [] kvs).length<=sizeLine:=by have h1:=Nl kvs [];rw[p9]at h1;rw[pV];lia
 have he:∃q,h'.get? s.heap.objs.size=aC q:=let⟨q,_,_,hq,_⟩:=mQ;⟨q,hq⟩;exact zdt I2 (by rw[e];exact True.intro) hs he (Nj hz hd (rk.merge .nil) mQ);subst ep;cases rel with
 | @cons p0 w0 ps0 NO rp rr=>
  cases rr;obtain⟨w1,w2⟩:=w0;obtain⟨r1,r2⟩:=rp;cases r1;have d:DT X.K H2 s.heap.objs.size []:=.inr ⟨rfl,.inl e⟩;obtain⟨_,y,us,rl,dd⟩:=d.dict I2;cases rl;rw[xD];refine aG (aG (wpAny_dictSet_heap (knd:=ie X.prog X.w) (hsz:=by simp) (by show X.A.units+1<cLine;lia) (kk.is I2) dd λh' mQ hs=>aQ ?_));show wpAny _ _ (pure _) _ _ _;refine aQ ⟨.ref s.heap.objs.size,_,?_,rfl,q2⟩;obtain⟨q,es,ep,hq,h2,h3,h4,_,h5⟩:=mQ;refine zdt I2 (by rw[e];exact True.intro) hs ⟨q,hq⟩ (Hz ⟨by rw[pV];exact Nat.le_add_left 1 16777215,y,by simp,[(k,b,w2)],.cons ⟨rfl,rfl,r2⟩ .nil,q,es,ep,hq,h2,h3,h4⟩)
end
end L2
namespace L2
noncomputable def HB{α:Type}:List α->List α|[]=>[]|[x]=>[x]|x::_::r=>x::HB r
open PyProof.Rows PySem PySem.Spec
section
variable{prog:aj}{w:ak}{K:Type}[DecidableEq K]{knd:HeapKind prog w K}{A:ao}{E:af->ah->Prop}{s:ah}
theorem VD{d a:ai}{xs:List (K×ai×af)}{k:K}{v:af}{Q:af->ah->Prop}(hu:knd.room A)(hkey:knd.is s.heap k a)(hm:s.heap.DictOfH knd d xs)
 (h1:∀p,atKey xs k=aC p->Q p.2 {s with toks:=s.toks+knd.draws k})
 (h2:atKey xs k=aD->∀h',h'.DictOfH knd d (storedH xs k a v)->Heap.SameBut d s.heap h'->Q v {s with heap:=h',toks:=s.toks+knd.draws k})
 (hsz:xs.length<=sizeLine) :
 wpAny (model prog w) A (dictSetDefault d (.ref a) v) Q E s:=by
 obtain⟨o,es,ep,ho,hc,hd,he,his,hn⟩:=hm;unfold dictSetDefault
 try with_reducible refine kL ?_
 refine aG (knd.pyHash hu hkey ?_);refine aG (wpAny_dictFind_heap (s:={s with toks:=s.toks+knd.draws k}) hu hkey ho hd he his hn ?_ ?_);intro hno;have hnot:k∉xs.map (·.1):=not_mem_keys_of_get hno;refine aG (kM (aG (wpAny_updateDictKeys (hz:=by have e:=size_of_entries he;lia) (s:={s with toks:=s.toks+knd.draws k}) ho hd (aQ (h2 (C6 hno) _ ⟨_,_,ep+1,sH _ ho (Obj.isFreed_of_dict (Obj.data_mapDictKeys hd _)),
  hc.mapDictKeys _,Obj.data_mapDictKeys hd _,?_,?_,?_⟩ (nO ..))))))
 rw[storedH_new (C6 hno)];simp[he,entryOfKey];rw[storedH_new (C6 hno)];intro x hx;rcases pB.mp hx with hx|hx
 exact knd.keeps (his x hx) ho hd (nO ..);simp only[gh]at hx;subst hx;exact knd.keeps hkey ho hd (nO ..);rw[storedH_new (C6 hno)];rw[kq,List.nodup_append];refine⟨hn,by simp,?_⟩;intro x hx y hy;simp only[cu,qc,gh]at hy;subst hy;exact λe=>hnot (e▸hx);intro j p hj;refine aG (C5 (s:={s with toks:=s.toks+knd.draws k}) ho hd ?_);rw[entry_at he j,hj];exact aG (kM (aQ (h1 _ (atKey_of_get hn hj))))
theorem VE(d a:ai)(hd:(d==sysModules)=false)(v:af) :
 MeetsIn prog w (Builtin.«dict.setdefault» ⟨[.ref d,.ref a,v],[]⟩) (λA R s=>∃k xs,knd.room A.in1/\knd.is s.heap k a/\s.heap.DictOfH knd d xs/\xs.length<=sizeLine/\
  (∀p,atKey xs k=aC p->R (.ok (.ret p.2)) {s with toks:=s.toks+knd.draws k})/\
  (atKey xs k=aD->∀h',h'.DictOfH knd d (storedH xs k a v)->Heap.SameBut d s.heap h'->R (.ok (.ret v)) {s with heap:=h',toks:=s.toks+knd.draws k})):=
 .of_wp λA R s bM=>by
  obtain⟨k,xs,hu,hk,hm,hz,h1,h2⟩:=bM;unfold Builtin.«dict.setdefault»;refine aG ?_;unfold Builtin.Dict.keyAndDefault;refine aG (wpAny_notOrdered_dict hm.typeIs ?_);show wpAny _ _ (pure (d,Value.ref a,aC v)) _ _ s;refine aQ ?_;show wpAny _ _ (if(d==sysModules)=true then _ else(dictSetDefault d (.ref a) v >>= _)) _ _ s;rw[if_neg (by rw[hd];exact lz)];exact aG (VD hu hk hm (λp hp=>aQ ⟨p.2,rfl,h1 p hp⟩) (λhn h' hm' hs'=>aQ ⟨v,rfl,h2 hn h' hm' hs'⟩) hz)
end
section
variable{X:Cx}{pins:List (ai×Obj)}{σ:St}{H:Hp}{s:ah}{a b:ai}{k:DK}{xs:DX}{v:V}{r:af}{A:ao}{E:af->ah->Prop}
theorem DT.at_(I:Inv X pins σ H s)(d:DT X.K H a xs):s.TypeIs (.ref a) "dict"/\(∀b,Value.ref a=.ref b->∃ob,s.heap.get? b=aC ob/\ob.dict=aD):=by obtain⟨_,_,us,_,dd⟩:=d.dict I;refine⟨dd.typeIs,λb q=>?_⟩;cases q;obtain⟨ob,_,_,h1,h2,_⟩:=dd;exact⟨ob,h1,h2.2.1⟩
theorem VF{Q:af->ah->Prop}(hu:A.units+2<cLine)(I:Inv X pins σ H s)(d:DT X.K H a xs)(mu:nQ (H a))(kk:cg X.K H k b)(hz:xs.length<sizeLine)(rv:RelV v r)
 (h1:∀p,bC xs k=aC p->∀w' s',Inv X pins σ H s'->RelV p.2 w'->Q w' s')
 (h2:bC xs k=aD->∀s',Inv X pins σ (upd H a (kE (dW xs k b v) a)) s'->Q r s') :
 wpAny (model X.prog X.w) A (call (.builtin "dict.setdefault") [.ref a,.ref b,r]) Q E s:=by
 obtain⟨_,y,us,rl,dd⟩:=d.dict I;have hl:=sW rl;refine call_meetsIn PySem.F.slot_dict_setdefault dd.typeIs PySem.F.entry_dict_setdefault (PySem.F.args_dict_setdefault_3 _ _ _) (VE (knd:=ie X.prog X.w) a b y r)
  ⟨k,us,(by show A.in1.units+1<cLine;exact hu),kk.is I,dd,by lia,λp hp=>?_,λhn h' mQ hs=>?_⟩
 rcases xU rl k with⟨_,e2⟩|⟨p',q,e1,e2,e3⟩;rw[hp]at e2;cases e2;rw[hp]at e2;cases e2;exact h1 p' e1 _ _ (I.tok _) e3;rcases xU rl k with⟨e1,_⟩|⟨p',q,e1,e2,e3⟩;refine h2 e1 _ ?_;obtain⟨q,es,ep,hq,g2,g3,g4,_,g5⟩:=mQ;have pr:=NH rl k b rv;refine zdt I mu hs ⟨q,hq⟩ (Hz ⟨?_,y,?_,_,pr,q,es,ep,hq,g2,g3,g4⟩);have:=NI xs k b v;lia;have:(dW xs k b v).map (·.1)=(storedH us k b r).map (·.1):=by
  generalize dW xs k b v=ys at pr;generalize storedH us k b r=zs at pr;clear g4 g5;induction pr with|nil=>rfl| @cons p q ps qs h t ih=>rw[cu,cu,ih,h.1]
 rw[this];exact g5;rw[hn]at e2;cases e2
end
noncomputable def AL(K:aK)(td ty tx:TE):TE:=λσ H Q=>td σ H λx H1=>∃a AM,x=.ref a/\DT K H1 a AM/\ty σ H1 λy H2=>tx σ H2 λz H3=>∃b xs k,y=.ref b/\DT K H3 a xs/\nQ (H3 a)/\cg K H3 k b/\xs.length<sizeLine/\
 (∀p,bC xs k=aC p->Q p.2 H3)/\(bC xs k=aD->Q z (upd H3 a (kE (dW xs k b z) a)))
theorem VG{X:Cx}{o e f:aq}{apos cpos:Pos}{td ty tx:TE}(hu:X.A.units+2<cLine)(ho:PE X o td)(he:PE X e ty)(hf:PE X f tx)(m:M2 X o "setdefault" apos e f cpos):PE X (.Call (.Attribute o "setdefault" apos) [e,f] [] cpos) (AL X.K td ty tx):=by
 intro pins s σ H Q I h;refine wpAny_Call_method m.base m.few m.line PySem.F.plainAttrs_dict PySem.F.slot_dict_setdefault PySem.F.type_dict_setdefault (aX (ho pins s σ H _ I h) λu s1 z9=>z9.el λx H1 I1 rx bM=>?_);obtain⟨a,AM,ex,d,q1⟩:=bM;subst ex;obtain rfl:u=Value.ref a:=rx;obtain⟨t1,t2⟩:=d.at_ I1;refine⟨t1,t2,?_⟩;rw[m.trees];refine Calls.callWith_builtin rfl (Calls.evalArgs_plain (zd (aX (he pins s1 σ H1 _ I1 q1) λiv s2 z9=>z9.el λy H2 I2 ry q2=>
  zd (aX (hf pins s2 σ H2 _ I2 q2) λfv s3 z9=>z9.el λz H3 I3 rz ⟨b,xs,k,ey,dd,mu,kk,hz,g1,g2⟩=>DJ ?_))))
 subst ey;obtain rfl:iv=Value.ref b:=ry;exact VF hu I3 dd mu kk hz rz (λp hp w' s' I' rw'=>⟨p.2,H3,I',rw',g1 p hp⟩) (λhn s' I'=>⟨z,_,I',rz,g2 hn⟩)
noncomputable def kF(f:aB->aB->Option Bool):List aB->List aB->Option Bool|[],ys=>aC (!ys.isEmpty)|_::_,[]=>aC false|x::xs,y::ys=>if PyData.eqv x y then kF f xs ys else f x y
noncomputable def iI:Nat->aB->aB->Option Bool|_+1,.int a,.int b=>aC (decide (a<b))|n+1,.tuple xs,.tuple ys=>kF (iI n) xs ys|_,_,_=>aD
noncomputable def vB(A:ao)(s:ah)(y x:af)(b:Bool):Prop:=
 ∀(prog:aj)(w:ak)(E:af->ah->Prop)(Q:af->ah->Prop),Q (.bool b) s->wpAny (model prog w) A (richCompare .Lt y x) Q E s
inductive pG(P:af->af->aB->aB->Prop):List af->List af->List aB->List aB->Prop
 |nn {ws:List af} {es:List aB}:ws.length=es.length->pG P [] ws [] es
 |cn {v:af} {vs:List af} {d:aB} {ds:List aB}:pG P (v::vs) [] (d::ds) []
 |cc {v w:af} {vs ws:List af} {d e:aB} {ds es:List aB}:P v w d e->pG P vs ws ds es->pG P (v::vs) (w::ws) (d::ds) (e::es)
open PySem.AutoSeq1 (wpAny_loadPart')
theorem VI(l b:ai)(items items2:Array af)(n n2:Nat)(dd dd2:Option ai)(sl sl2:Array (Option af))(f:aB->aB->Option Bool)(ds es:List aB)(r:Bool)(hr:kF f ds es=aC r) :
 Meets (Builtin.«tuple.__lt__» ⟨[.ref l,.ref b],[]⟩)
  (λA R s=>s.heap.get? l=aC {cls:=.type "tuple",dict:=dd,data:=.seq items n,slots:=sl}/\s.heap.get? b=aC {cls:=.type "tuple",dict:=dd2,data:=.seq items2 n2,slots:=sl2}/\
    pG (λv w d e=>SeqAt.EqAt A.in1 s v w (PyData.eqv d e)/\∀q,f d e=aC q->vB A.in1 s v w q) items.toList items2.toList ds es/\R (.ok (.ret (.bool r))) s):=
 .of_wp λprog w A R s h=>by
  obtain⟨hp,g,d,tk,os⟩:=s;obtain⟨hl,hb,hi,h⟩:=h;have f2:=AutoSeq1.sub_tuple_tuple
  wp_walk using FO hl,FO hb,yO _ (λrest b s'=>b.1=aD/\s'=⟨hp,g,d,tk,os⟩/\∃(vs ws:List af) (ds' es':List aB),rest=vs.zip ws/\
   pG (λv w d' e=>SeqAt.EqAt A.in1 ⟨hp,g,d,tk,os⟩ v w (PyData.eqv d' e)/\∀q,f d' e=aC q->vB A.in1 ⟨hp,g,d,tk,os⟩ v w q) vs ws ds' es'/\vs.length+items2.size=ws.length+items.size/\kF f ds' es'=aC r) _
  case turn=>
   rintro⟨y,x⟩ rest b s' ⟨hb',rfl,vs,ws,ds',es',hz,HC,hlen,hR⟩;cases HC with
   |nn _=>rw[List.zip_nil_left]at hz;cases hz
   |cn=>rw[Dr]at hz;cases hz
   | @cc v w' vs ws d' e' ds' es' hp2 HE=>
    rw[nL]at hz;injection hz with hyx hrest
    injection hyx with hy hx
    subst hy hx;obtain⟨he,hq⟩:=hp2;unfold kF at hR;simp only[dj]at hlen;refine aG (he prog w _ _ ?_);cases z:PyData.eqv d' e' with
    |true=>
     rw[z,if_pos rfl]at hR
     wp_walk;exact⟨rfl,rfl,_,_,_,_,hrest,HE,by lia,hR⟩
    |false=>
     rw[z,if_neg (by decide)]at hR;have VJ:=hq _ hR prog w
     wp_walk using VJ;exact⟨_,rfl,by simpa using h⟩
  case fin=>
   rintro⟨b1,b2⟩ s' ⟨hb',rfl,vs,ws,ds',es',hz,HC,hlen,hR⟩;simp only at hb';subst hb';have hv:r=decide (items.size<items2.size):=by
    cases HC with
    |nn hl=>
     unfold kF at hR;cases es' with
     |nil=>
      cases hR;have:ws.length=0:=hl;simp only[p9]at hlen;exact(eF (by lia)).symm
     |cons c u=>
      cases hR;have:ws.length=u.length+1:=hl;simp only[p9]at hlen;exact(fW (by lia)).symm
    |cn=>
     unfold kF at hR;cases hR;simp only[p9,dj]at hlen;exact(eF (by lia)).symm
    |cc _ _=>
     rw[nL]at hz;cases hz
   rw[hv]at h
   wp_walk;exact⟨_,rfl,by simpa[Builtin.Tuple.tupleCompareSizes]using h⟩
  case h=>
   exact⟨rfl,rfl,items.toList,items2.toList,ds,es,rfl,hi,by simp;lia,hr⟩
theorem NP{h:aA}:∀{vs:List af} {ds:List aB} {as:List ai},ReadsAll h vs ds as->vs.length=ds.length|_,_,_,.nil=>rfl|_,_,_,.cons _ t=>by rw[dj,dj,NP t]
theorem pG.of{P:af->af->aB->aB->Prop}{h:aA}:∀{vs ws:List af} {ds es:List aB} {as bs:List ai},ReadsAll h vs ds as->ReadsAll h ws es bs->(∀v w d e as bs,d∈ds->e∈es->Reads h v d as->Reads h w e bs->P v w d e)->pG P vs ws ds es|_,_,_,_,_,_,.nil,r,_=>.nn (NP r)|_,_,_,_,_,_,.cons _ _,.nil,_=>.cn|_,_,_,_,_,_,.cons a r,.cons b q,k=>.cc (k _ _ _ _ _ _ (fY ..) (fY ..) a b) (pG.of r q λv w d e as bs h1 h2=>k v w d e as bs (ff _ h1) (ff _ h2))
theorem NQ:∀{ds:List aB} {d:aB},d∈ds->d.depth<=PyData.depthAll ds
 |x::xs,d,h=>by
  unfold PyData.depthAll;rcases eG.mp h with rfl|h
  exact Nat.le_max_left _ _;exact gY (NQ h) (Nat.le_max_right _ _)
theorem AN:∀{ds:List aB} {d:aB},PyData.canLayAll0 ds=true->d∈ds->d.canLay0=true
 |x::xs,d,hc,h=>by
  unfold PyData.canLayAll0 at hc;rw[bD]at hc;rcases eG.mp h with rfl|h
  exact hc.1;exact AN hc.2 h
theorem HF:∀(n:Nat) (da db:aB) (A:ao) (s:ah) (a b:af) (as bs:List ai) (r:Bool),Reads s.heap a da as->Reads s.heap b db bs->da.canLay0=true->db.canLay0=true->
 A.units+da.depth<cLine->iI n da db=aC r->vB A s a b r
 |0,_,_,_,_,_,_,_,_,_,_,_,_,_,_,e=>by unfold iI at e;cases e
 |n+1,da,db,A,s,a,b,as,bs,r,ra,rb,ca,cb,hu,e=>by
  cases da<;>cases db<;>try(cases e;done)
  cases ra;cases rb;rename_i x y t u;cases e;exact λprog w E Q h=>HT.nW A s x t y u prog w E Q h;rename_i xs ys;cases ra with
  | @tuple l o vs k _ as1 h1 h2 h3 h4=>
   cases rb with
   | @tuple l2 o2 VL k2 _ bs1 g1 g2 g3 g4=>
    intro prog w E Q h;obtain⟨cls,dd,data,sl⟩:=o;obtain⟨zV,dd2,data2,sl2⟩:=o2;simp only at h2 h3 g2 g3;subst h2 h3 g2 g3;have e:kF (iI n) xs ys=aC r:=e;have hd:(PyData.tuple xs).depth=PyData.depthAll xs+1:=rfl;have ca:PyData.canLayAll0 xs=true:=ca;have cb:PyData.canLayAll0 ys=true:=cb;refine richCompare_meets_room (op:=.Lt) ⟨_,h1,rfl⟩ ⟨_,g1,rfl⟩ PySem.F.slot_tuple_lt PySem.F.entry_tuple_lt (PySem.F.args_tuple_lt_2 _ _) (VI l l2 vs VL k k2 dd dd2 sl sl2 (iI n) xs ys r e)
     ⟨h1,g1,pG.of h4 g4 λv w d e' as' bs' m1 m2 r1 r2=>?_,show Value.bool r≠Value.notImplemented/\Q (.bool r) s from⟨(λx=>nomatch x),h⟩⟩ (by lia)
    have hdm:=NQ m1;have hin:A.in1.units=A.units+1:=rfl;exact⟨SeqAt.eqAt_reads d e' _ _ _ _ _ _ r1 r2 (AN ca m1) (AN cb m2) (by
     have:=Di d.depth e'.depth;lia),λq hq=>HF n d e' _ _ _ _ _ _ q r1 r2 (AN ca m1) (AN cb m2) (by lia) hq⟩
section
variable{X:Cx}
noncomputable def AO(K:aK):R2:=λx y H Q=>∃d e n r,Rp K (λ_=>False) H x d/\Rp K (λ_=>False) H y e/\SeqAt.shaped d=true/\SeqAt.shaped e=true/\iI n d e=aC r/\Q (.bl r) H
theorem VM(hu:X.A.units+64<cLine):cH X (compareOp .Lt) (AO X.K):=by intro pins s σ H x y v u Q I rx ry h;obtain⟨d,e,n,r,r1,r2,s1,s2,hr,q⟩:=h;obtain⟨as,ra⟩:=r1.reads I rx;obtain⟨bs,rb⟩:=r2.reads I ry;have:=SeqAt.depth_of_shaped s1;exact HF n d e _ s v u as bs r ra rb (sR s1) (sR s2) (by lia) hr _ _ _ _ ⟨.bl r,H,I,rfl,q⟩
end
section
variable{prog:aj}{w:ak}{A:ao}{R:Result->ah->Prop}{I:ai}{fp wr:List ai}{n:Nat}{P:Nat->af->Prop}{St:Nat->aA->Prop}
noncomputable abbrev qH:List (Str×af):=[("default",.none)]
theorem VN(W:Walks prog w A.in1 I fp wr n P St)(bt:Nat->Nat->Bool)(h0:aA)(S:ai)(hw:∀b∈wr,h0.get? b=aD)(Es:h0.get? S=aD)
 (hcmp:∀i j vi vj (s:ah) (Q E:af->ah->Prop),(∀b o,h0.get? b=aC o->s.heap.get? b=aC o)->P i vi->P j vj->Q (.bool (bt i j)) s->wpAny (model prog w) A.in1 (richCompare .Lt vi vj) Q E s) (hSf:S∉fp) :
 ∀(k j:Nat)(s:ah)(vb:af)(c:Nat),n- (j+1)=k->j+1<=n->St (j+1) s.heap->P (argBest bt j) vb->(∀b o,h0.get? b=aC o->s.heap.get? b=aC o)->
 s.heap.get? S=aC {cls:=.type "list",dict:=aD,data:=.seq #[vb,vb] c,slots:=#[]}->
 (∀v h' tk,P (argBest bt (n-1)) v->(∀b o,h0.get? b=aC o->h'.get? b=aC o)->R (.ok (.ret v)) {s with heap:=h',toks:=tk})->
 codeAny (model prog w) A (.builtin "min.loop" ⟨[.ref I,.none,.ref S],qH⟩) R s:=by
 have Et:S∉wr:=λh=>hSf (W.sub _ h);have hname:(toString "min" ++ toString ".loop" : String) = "min.loop":=by decide
 have nw:∀{b o},h0.get? b=aC o->b∉wr:=λe hm=>by rw[hw _ hm]at e;cases e
 have nS:∀{b o},h0.get? b=aC o->S≠b:=λe hm=>by rw[<-hm,Es]at e;cases e
 intro k;induction k with
 |zero=>
  intro j s vb c hk hj hst Eu hK hS hR;have hin:j+1=n:=by lia
  refine codeAny_builtin PySem.F.entry_min_loop ?_;rw[Around.under_plainId uR _];show wpAny _ A.in1 (seqItems? (.ref S) >>= _) _ _ s;refine aG (mD hS rfl ?_);show wpAny _ A.in1 (tryCatch (pyNext (.ref I)) _ >>= _) _ _ s;refine aG (yP (W.done s _ _ (hin▸hst) λh' tk hk'=>?_));have hS':=hk' S _ Et hS;show wpAny _ A.in1 (updateSeq S (λ_=>#[]) >>= _) _ _ _;refine aG ?_;refine wpAny_updateSeq hS' rfl (aG (sG (aQ ?_)));exact hR vb _ tk (by rw[<-hin];exact Eu) λb o e=>(uL _ _ (nS e)).trans (hk' b o (nw e) (hK b o e))
 |succ k ih=>
  intro j s vb c hk hj hst Eu hK hS hR;have hlt:j+1<n:=by lia
  refine codeAny_builtin PySem.F.entry_min_loop ?_;rw[Around.under_plainId uR _];show wpAny _ A.in1 (seqItems? (.ref S) >>= _) _ _ s;refine aG (mD hS rfl ?_);show wpAny _ A.in1 (tryCatch (pyNext (.ref I)) _ >>= _) _ _ s;refine aG (yP (W.item (j+1) s _ _ hlt hst λv h' tk hP qI hk'=>?_));have hS':=hk' S _ Et hS;have AQ:∀b o,h0.get? b=aC o->h'.get? b=aC o:=λb o e=>hk' b o (nw e) (hK b o e);show wpAny _ A.in1 (tryCatch (holding [v,v] (richCompare .Lt v vb >>= _)) _ >>= _) _ _ _;refine aG (yP (kL (aG (hcmp (j+1) (argBest bt j) v vb _ _ _ AQ hP Eu ?_))));refine aG (kL (nD ?_));refine aG (sG (aQ ?_));cases hb:bt (j+1) (argBest bt j)with
  |true=>
   simp only[bQ];refine aG ?_;refine wpAny_updateSeq hS' rfl (aG (sG ?_));rw[hname];refine aQ ⟨Dc uR _,ih (j+1) _ v _ (by lia) hlt (W.frame _ _ _ qI λb HG o e=>?_) (by simp only[argBest,hb,bQ];exact hP) (λb o e=>(uL _ _ (nS e)).trans (AQ b o e)) (sH _ hS' rfl)
    λv' h'' oh AR oj=>hR v' h'' oh AR oj⟩
   exact(uL _ _ (λh:S=b=>hSf (by rw[h];exact HG))).trans e
  |false=>
   simp only[dh,cG];refine aG (sG ?_);rw[hname];exact aQ ⟨Dc uR _,ih (j+1) _ vb c (by lia) hlt qI (by simp only[argBest,hb,dh,cG];exact Eu) AQ hS' λv' h'' oh AR oj=>hR v' h'' oh AR oj⟩
theorem VP(W:Walks prog w A.in1 I fp wr n P St)(bt:Nat->Nat->Bool)(h0:aA)(S:ai)(hw:∀b∈wr,h0.get? b=aD)(Es:h0.get? S=aD)
 (hcmp:∀i j vi vj (s:ah) (Q E:af->ah->Prop),(∀b o,h0.get? b=aC o->s.heap.get? b=aC o)->P i vi->P j vj->Q (.bool (bt i j)) s->wpAny (model prog w) A.in1 (richCompare .Lt vi vj) Q E s) (hSf:S∉fp)
 {s:ah} {c:Nat} (hst:St 0 s.heap) (hK:∀b o,h0.get? b=aC o->s.heap.get? b=aC o)
 (hS:s.heap.get? S=aC {cls:=.type "list",dict:=aD,data:=.seq #[] c,slots:=#[]})
 (VQ:n=0->∀h' tk,(∀b o,h0.get? b=aC o->h'.get? b=aC o)->R (.ok (.ret .none)) {s with heap:=h',toks:=tk})
 (hR:0<n->∀v h' tk,P (argBest bt (n-1)) v->(∀b o,h0.get? b=aC o->h'.get? b=aC o)->R (.ok (.ret v)) {s with heap:=h',toks:=tk}) :
 codeAny (model prog w) A (.builtin "min.loop" ⟨[.ref I,.none,.ref S],qH⟩) R s:=by
 have Et:S∉wr:=λh=>hSf (W.sub _ h);have hname:(toString "min" ++ toString ".loop" : String) = "min.loop":=by decide
 have nw:∀{b o},h0.get? b=aC o->b∉wr:=λe hm=>by rw[hw _ hm]at e;cases e
 have nS:∀{b o},h0.get? b=aC o->S≠b:=λe hm=>by rw[<-hm,Es]at e;cases e
 refine codeAny_builtin PySem.F.entry_min_loop ?_;rw[Around.under_plainId uR _];show wpAny _ A.in1 (seqItems? (.ref S) >>= _) _ _ s;refine aG (mD hS rfl ?_);show wpAny _ A.in1 (tryCatch (pyNext (.ref I)) _ >>= _) _ _ s;rcases Nat.eq_zero_or_pos n with hn|hn
 refine aG (yP (W.done s _ _ (hn▸hst) λh' tk hk'=>?_));exact aG (kM (aQ (VQ hn h' tk λb o e=>hk' b o (nw e) (hK b o e))));refine aG (yP (W.item 0 s _ _ hn hst λv h' tk hP qI hk'=>?_));have hS':=hk' S _ Et hS;have AQ:∀b o,h0.get? b=aC o->h'.get? b=aC o:=λb o e=>hk' b o (nw e) (hK b o e);show wpAny _ A.in1 (updateSeq S (λ_=>#[v,v]) >>= _) _ _ _;refine aG ?_;refine wpAny_updateSeq hS' rfl ?_;rw[hname];refine aQ ⟨Dc uR _,VN W bt h0 S hw Es hcmp hSf _ 0 _ v _ rfl hn (W.frame _ _ _ qI λb HG o e=>?_) hP (λb o e=>(uL _ _ (nS e)).trans (AQ b o e)) (sH _ hS' rfl) λv' h'' oh AR oj=>hR hn v' h'' oh AR oj⟩;exact(uL _ _ (λh:S=b=>hSf (by rw[h];exact HG))).trans e
end
theorem VR(a:af):argsOk "min" ⟨[a],qH⟩:=by unfold argsOk;kernel_rfl
section
variable{prog:aj}{w:ak}{A:ao}{E:af->ah->Prop}{s:ah}
theorem VS{l:ai}{items:Array af}{Q:af->ah->Prop}(bt:Nat->Nat->Bool)(hh:A.handled=aD)(hl:s.heap.IsList l items)
 (hcmp:∀i j vi vj (s':ah) (Q E:af->ah->Prop),(∀b o,s.heap.get? b=aC o->s'.heap.get? b=aC o)->items[i]?=aC vi->items[j]?=aC vj->Q (.bool (bt i j)) s'->wpAny (model prog w) A.in1 (richCompare .Lt vi vj) Q E s')
 (h0:items.size=0->∀h' tk,(∀b o,s.heap.get? b=aC o->h'.get? b=aC o)->Q .none {s with heap:=h',toks:=tk})
 (h1:0<items.size->∀v h' tk,items[argBest bt (items.size-1)]?=aC v->(∀b o,s.heap.get? b=aC o->h'.get? b=aC o)->Q v {s with heap:=h',toks:=tk}) :
 wpAny (model prog w) A (call (.builtin "min") [.ref l] qH) Q E s:=by
 have hname:(toString "min" ++ toString ".loop" : String) = "min.loop":=by decide
 have hlt:l<s.heap.objs.size:=by obtain⟨_,e,_⟩:=hl;exact cP e
 refine wpAny_call (codeAny_call_builtin PySem.F.plain_min PySem.F.entry_min ?_);have AS:wpAny (model prog w) A.in1 (Builtin.«min» ⟨[.ref l],qH⟩) (λfin s'=>match fin with|.done f=>(match(Except.ok f:Result)with|.ok (.ret v)=>Q v s'|.ok _=>False|.error e=>E e s')|.again c'=>c'.quiet=true/\codeAny (model prog w) A c' (λr s'=>match r with|.ok (.ret v)=>Q v s'|.ok _=>False|.error e=>E e s') s')
  (λe s'=>E e s') s:=by
  show wpAny _ A.in1 (Builtin.Builtins.bindParams "min" ["key","default"] 0 ⟨[],qH⟩ >>= _) _ _ s;refine aG (nj (show Builtin.Builtins.bindParams "min" ["key","default"] 0 ⟨[],qH⟩=pure [aD,aC .none]from by kernel_rfl) ?_);refine aG (aQ ?_);refine aG (uH hl ?_);refine aG (ju ?_);rw[hname];let s2:ah:={s with heap:=s.heap.push {cls:=.type "list_iterator",data:=.fields #[.ref l,.int 0 0]}}
  have e2:s2.heap.objs.size=s.heap.objs.size+1:=jv _ _;have none_:∀b,s.heap.objs.size<=b->s.heap.get? b=aD:=λb hb=>Heap.get?_none_of_le hb;refine aQ ⟨Dc uR _,VP (Walks.list (A:=A.in1) hh s.heap.objs.size l (fX hlt) items) bt s.heap s2.heap.objs.size (λb hb=>?_) (none_ _ (by lia)) hcmp (λhb=>?_) ⟨?_,?_⟩ (λb o e=>?_) (fG _ rfl) h0 h1⟩;rw[gh.mp hb];exact none_ _ (aW _);rcases eG.mp hb with h|hb
  lia;have:=gh.mp hb;lia;exact⟨_,b9 _ (fG _ rfl),rfl,rfl⟩;exact(hl.push _).push _;exact b9 _ (b9 _ e)
 simp only[checkBuiltinCall,PySem.F.kind_min];cases HH:Manifest.signature? "min"with
 |none=>exact aQ AS
 |some sig=>
  have ha:argsOk "min" ⟨[.ref l],qH⟩:=VR _;have ha':Bind.checkArgs "min" sig ⟨[.ref l],qH⟩=pure ():=by simpa only[argsOk,HH]using ha
  simp only[ha'];exact aQ AS
end
noncomputable def fN(ds:List aB):Nat:=argBest (λi j=>iI 24 (ds.getD i .none) (ds.getD j .none)==aC true) (ds.length-1)
noncomputable def jS(ds:List aB):Bool:=ds.all λd=>SeqAt.shaped d&&ds.all λe=>(iI 24 d e).isSome
noncomputable def HJ(K:aK)(te:TE):TE:=λσ H Q=>te σ H λx H1=>∃a xs ds,x=.ref a/\cC K H1 a xs/\jO K (λ_=>False) H1 xs ds/\jS ds=true/\(xs=[]->Q .aL H1)/\(∀v,xs≠[]->xs[fN ds]?=aC v->Q v H1)
theorem HK{h:aA}:∀{vs:List af} {ds:List aB} {as:List ai} {i:Nat} {v:af},ReadsAll h vs ds as->vs[i]?=aC v->∃d bs,ds[i]?=aC d/\Reads h v d bs
 |_,_,_,_,_,.nil,e=>by simp at e
 |_,_,_,0,_,.cons a r,e=>by simp at e;subst e;exact⟨_,_,rfl,a⟩
 |_,_,_,i+1,_,.cons a r,e=>by
  obtain⟨d,bs,h1,h2⟩:=HK (i:=i) r (by simpa using e);exact⟨d,bs,by simpa using h1,h2⟩
theorem VT{X:Cx}{e:aq}{te:TE}{p cp kp pos:Pos}{kx:Nat}(hu:X.A.units+65<cLine)(hc:X.calm)(hg:Gl X "min")(hm:X.mg "min" = aD)(he:PE X e te)(hs:autoParam (starEach [e] X.env=[(false,eval e X.env)]) L2.aR1._auto_1) :
 PE X (.Call (.Name "min" p) [e] [⟨aC "default",.Constant .none kx cp,kp⟩] pos) (HJ X.K te):=by
 intro pins s σ H Q I h;refine yM (nT I hg hm PyProof.Rows.boot_min ?_);refine PyProof.Rows.callWith_kw (by
  rw[show backTo pos (starEach [e] X.env)=[(false,eval e X.env)] by rw[hs];rfl];refine zd (aX (he pins s σ H _ I h) λu s1 z9=>z9.el λx H1 I1 rx ⟨a,xs,ds,ex,sq,rp,al,q0,q1⟩=>DJ ?_);subst ex;obtain rfl:u=Value.ref a:=rx;refine PyProof.Rows.kws_cons (Constant_none (PyProof.Rows.kws_nil ?_));obtain⟨its,rv,pl,_⟩:=I1.list sq;obtain⟨as,ra⟩:=rp.reads I1 rv;obtain⟨o,m,ho,hc',_,hd⟩:=pl;have hlen:=rp.length;have hvl:=rv.length;unfold jS at al;rw[kN]at al;refine VS (items:=its.toArray) (λi j=>iI 24 (ds.getD i .none) (ds.getD j .none)==aC true) (I.ok.hd hc) ⟨o,ho,hc',m,hd⟩ (λi j vi vj s' Q E k hi hj q=>?_) (λhz h' tk k=>?_) (λhz v h' tk hv k=>?_);obtain⟨d1,b1,g1,r1⟩:=HK ra (by simpa using hi);obtain⟨d2,b2,g2,r2⟩:=HK ra (by simpa using hj);have m1:=mF g1;have m2:=mF g2;have a1:=al _ m1;have a2:=al _ m2;rw[bD]at a1 a2;have a3:=kN.mp a1.2 _ m2;rw[sJ,sJ,g1,g2]at q;cases z:iI 24 d1 d2 with
  |none=>rw[z]at a3;cases a3
  |some r=>
   have dp:=SeqAt.depth_of_shaped a1.1;refine HF 24 d1 d2 _ s' vi vj _ _ r (Reads.keeps k r1) (Reads.keeps k r2) (sR a1.1) (sR a2.1) (by show X.A.units+1+d1.depth<cLine;lia) z _ _ _ _ ?_;have q:Q (.bool (iI 24 d1 d2==aC true)) s':=q;rw[z]at q;cases r with|true=>exact q|false=>exact q
  refine⟨.aL,H1,I1.kept (t':=tk) k,rfl,q0 ?_⟩;have:its.length=0:=by simpa using hz
  exact Dl.mp (by lia);have hv':its[fN ds]?=aC v:=by
   have e1 : its.toArray.size-1=ds.length-1:=by have:its.toArray.size=its.length:=by simp
                                                lia
   rw[e1]at hv;simpa[fN]using hv
  obtain⟨hi,_⟩:=jx.mp hv';have hx:=gU (l:=xs) (i:=fN ds) (by lia);obtain⟨u2,NR,ru⟩:=Vals.get rv hx;rw[hv']at NR;cases NR;have hne:xs≠[]:=λz=>by rw[z]at hlen;rw[z]at hvl;simp at hvl;lia
  exact⟨_,H1,I1.kept (t':=tk) k,ru,q1 _ hne hx⟩) (by rw[hs];rfl) (by rw[hs];rfl)
end L2
namespace HT
open PySem PySem.Spec PyProof.Rows
section
variable{prog:aj}{w:ak}{A:ao}{E:af->ah->Prop}{s:ah}
theorem VU{sl:ai}{vk:af}{Q:Int×Int×Nat->ah->Prop}(hs:s.heap.IsSliceOf sl .none .none vk)(pk:IsPart vk (aC (-1)))
 (h:Q (1,-1,2) s):wpAny (model prog w) A (Builtin.Slice.sliceApplied (.ref sl) (pure ((2:Nat):Int))) Q E s:=by
 obtain⟨os,hos,hcs,hds⟩:=id hs;unfold Builtin.Slice.sliceApplied Builtin.Slice.sliceFields;refine aG (aG (gX hos hds (x:=.none) rfl (aG (gX hos hds (x:=.none) rfl (aG (gX hos hds (x:=vk) rfl (aQ ?_)))))));refine aG (Gw pk ?_);show wpAny _ _ (if((-1:Int)==0)=true then _ else _) _ _ s;rw[if_neg (by decide)];refine aG (Dy (aG (Dy (aG (aQ ?_)))));exact aQ h
theorem gu{t sl:ai}{a b vk:af}{Q:af->ah->Prop}(ht:IsTup s.heap t #[a,b])(hs:s.heap.IsSliceOf sl .none .none vk)(pk:IsPart vk (aC (-1)))
 (h:Q (.ref s.heap.objs.size) {s with heap:=s.heap.push {cls:=.type "tuple",data:=.seq #[b,a]}}):wpAny (model prog w) A (getItem (.ref t) (.ref sl)) Q E s:=by
 obtain⟨os,hos,hcs,hds⟩:=id hs;have zW:s.TypeIs (.ref sl) "slice":=⟨os,hos,hcs⟩
 unfold getItem
 try with_reducible refine kL ?_
 first|refine aG (aQ ?_)|skip
 refine aG (wpAny_sequenceKey ht.typeIs (by decide) ?_);refine aG (nC (name:=Str.ofString "__getitem__") ht.typeIs qe
  (kK qe ht.typeIs entry_tuple_getitem ?_ (args_tuple_getitem _ _)))
 show wpAny _ _ (Builtin.Tuple.tupleItemsOf (.ref t) >>= _) _ _ s;refine aG (tupleItemsOf_ ht ?_);refine aG (xj zW ?_);rw[if_pos (by decide)];refine aG (VU hs pk ?_);show wpAny _ _ (if((1:Int)==0&& (-1:Int)==1&& (2:Nat)==2)=true then _ else _) _ _ s;rw[if_neg (by decide)];have hz:sizeOk (.seq #[b,a]):=by show(2:Nat)<=sizeLine;decide
 show wpAny _ _ (Builtin.Tuple.tupleExact #[b,a] >>= _) _ _ s;first
  |exact aG (m:=Builtin.Tuple.tupleExact _) (ju (aQ ⟨_,rfl,aQ h⟩) hz)
  |exact aG (m:=Builtin.Tuple.tupleExact _) (ju (aG (aQ (aQ ⟨_,rfl,aQ h⟩))) hz)
end
end HT
namespace L2
open PySem PySem.Spec PyProof.Rows
section
variable{X:Cx}{e k:aq}{te:TE}{tk:TO}{pos p2:Pos}
theorem AU(he:PE X e te)(hk:PO X (aC k) tk):PE X (.Subscript e (.Slice aD aD (aC k) p2) pos) (λσ H Q=>te σ H λx H1=>tk σ H1 λo H2=>∃a y z,x=.ref a/\o=aC (-1)/\bU X.K H2 a [y,z]/\∀p,H2 p=aD->Q (.ref p) (upd H2 p (.tup [z,y]))):=by
 intro pins s σ H Q I h;refine Subscript_ (aX (he pins s σ H _ I h) λv s1 z9=>z9.el λx H1 I1 r1 q1=>?_);refine wpAny_Slice ?_;rw[evalPart_none];refine aQ ?_;refine aQ ?_;refine aX (hk pins s1 σ H1 _ I1 q1) λvk s3 bM=>?_;obtain⟨o,H3,I3,pk,q3⟩:=bM;obtain⟨a,y,z,rfl,rfl,hx,q⟩:=q3;cases r1;have I4:Inv X pins σ H3 {s3 with heap:=s3.heap.push {cls:=.type "slice",data:=.fields #[.none,.none,vk]}}:=I3.kept (t':=s3.toks) λb ob q=>b9 _ q;obtain⟨its,r,ht,hz⟩:=I4.tuple hx;cases r with
 | @cons _ u0 _ _ r0 r1=>
  cases r1 with
  | @cons _ u1 _ _ r2 r3=>
   cases r3;show wpAny (model X.prog X.w) X.A (subscriptTail e (.Slice aD aD (aC k) p2) (.ref a) (.ref s3.heap.objs.size)) (EP X pins σ Q) X.xe {s3 with heap:=s3.heap.push {cls:=.type "slice",data:=.fields #[.none,.none,vk]}};refine tail_any (ops:=[.ref a,.ref s3.heap.objs.size]) ht.typeIs qe.lookup ?_ (by with_unfolding_all rfl);refine HT.gu ht (Heap.IsSliceOf.new ..) pk ?_;exact⟨.ref _,_,I4.laid (t':=s3.toks) (o:=.tup [z,y]) (λb ob q=>b9 _ q) (aW _) (show bf X.prog X.w _ _ _ (.tup _)from⟨by show 2<=sizeLine;decide,[u1,u0],.cons r2 (.cons r0 .nil),jF.new _ #[u1,u0]⟩),rfl,q _ (I4.hok.fresh (aW _))⟩
end
end L2
namespace RF
open PySem
inductive W where
 |aL|bl (b:Bool)|int (i:Int)|str (x:Str)|tup (ws:List W)|fz (ws:List W)|ref (i:Nat)
mutual
noncomputable def W.lt(n:Nat):W->Bool|.tup ws=>W.lO n ws|.fz ws=>W.lO n ws|.ref i=>Nat.blt i n|_=>true
noncomputable def W.lO(n:Nat):List W->Bool|[]=>true|w::ws=>W.lt n w&&W.lO n ws
end
inductive VO where
 |lst (ws:List W)|dk (kvs:List (L2.Key×W))|dm (kvs:List (L2.Key×W))|dt (ks ws:List W)
structure VH where
 n:Nat
 lo:Nat
 os:List VO
noncomputable def VH.get(h:VH)(i:Nat):Option VO:=if Nat.blt i h.n then h.os[h.n-1-i]? else aD
noncomputable def VH.set(h:VH)(i:Nat)(o:VO):VH:=⟨h.n,if Nat.blt i h.lo then i else h.lo,h.os.set (h.n-1-i) o⟩
noncomputable def VH.new(h:VH)(o:VO):VH:=⟨h.n+1,h.lo,o::h.os⟩
inductive Res(α:Type)where
 |ok (a:α) (h:VH)|ex (x:W) (h:VH)|no
noncomputable def Res.bind{α β:Type}(r:Res α)(f:α->VH->Res β):Res β:=match r with|.ok a h=>f a h|.ex x h=>.ex x h|.no=>.no
noncomputable def Res.of{α:Type}(o:Option α)(h:VH):Res α:=match o with|some a=>.ok a h|none=>.no
inductive Op where
 |add|sub|mul|fdiv|mod|shl|pow
 deriving DecidableEq
inductive Cp where
 |eq|ne|lt|le|gt|ge|tN|jk|jT|lP
 deriving DecidableEq
inductive Ty where
 |int|bool|tuple|list|str|dict
 deriving DecidableEq
inductive Bi where
 |len|list|tuple|int|abs|max|min|all|AV|Ew|bI|HL|xV
 deriving DecidableEq
inductive Mt where
 |append|get|jU
 deriving DecidableEq
inductive Kd where
 |seq|bL|vC|pH|zip|keys|rev
 deriving DecidableEq
inductive Tg where
 |one (i:Nat)|many (is:List Nat)|VW (i:Nat) (is:List Nat)
 deriving DecidableEq
inductive E where
 |var (i:Nat)|cst (w:W)
 |nil|cons (a r:E)
 |tup (a:E)|lst (a:E)|HM (a:E)
 |op (o:Op) (a b:E)|neg (a:E)
 |cmp (c:Cp) (a b:E)|vD (c d:Cp) (a b e:E)
 |not (a:E)|and (a b:E)|or (a b:E)|jz (a:E)|ite (c a b:E)
 |idx (a b:E)|slc (a:E) (bl:Bool) (lo:E) (bh:Bool) (hi:E)
 |call (f:Nat) (a:E)|bi (b:Bi) (a:E)|vE (t:Ty) (a:E)|mt (m:Mt) (o a:E)
 |lc (k:Kd) (a:E) (t:Tg) (ow:Nat) (ix:List Nat) (c e:E)
 |tO (k:Kd) (a:E) (t:Tg) (ow:Nat) (ix:List Nat) (c:E) (k2:Kd) (a2:E) (t2:Tg) (c2 e:E)
inductive S where
 |skip|seq (a b:S)|set (i:Nat) (e:E)|om (is:List Nat) (e:E)|aug (i:Nat) (o:Op) (e:E)
 |put (o i v:E)|ite (c:E) (a b:S)|ret (e:E)|expr (e:E)|brk|cnt
 |for (k:Kd) (a:E) (t:Tg) (b:S)|Ex (c:E) (b:S)|no
noncomputable abbrev En:=List (Option W)
inductive Fl where
 |nx (ρ:En)|rt (w:W)|bk (ρ:En)|ct (ρ:En)
noncomputable def aO{α β:Type}(f:α->Option β):List α->Option (List β)
 |[]=>aC []
 |a::r=>match f a with
  |some b=>(match aO f r with
   |some bs=>aC (b::bs)
   |none=>aD)
  |none=>aD
noncomputable def toD(h:VH):Nat->W->Option aB
 |0,_=>aD
 |n+1,w=>match w with
  |.aL=>aC .none
  |.bl b=>aC (.bool b)
  |.int i=>aC (.int i)
  |.str x=>aC (.str x)
  |.tup ws=>(aO (toD h n) ws).map .tuple
  |.fz ws=>(aO (toD h n) ws).map .list
  |.ref i=>match h.get i with
   |some (.lst ws)=>(aO (toD h n) ws).map .list
   |_=>aD
noncomputable def ck(h:VH)(x y:W):Option Bool:=
 match toD h 24 x,toD h 24 y with|some d,aC e=>if SeqAt.shaped d&&SeqAt.shaped e then aC (PyData.eqv d e)else aD|_,_=>aD
noncomputable def big:Nat:=16777216
noncomputable def qK(i:Int):Bool:=decide (-(2 ^ 64)<i)&&decide (i<2 ^ 64)
noncomputable def dU:Op->Int->Int->Option Int|.add,i,j=>aC (i+j)|.sub,i,j=>aC (i-j)|.mul,i,j=>if qK i||qK j then aC (i*j)else aD|.fdiv,i,j=>if decide (0<j)&&decide (j<1073741824)then aC (i/j)else aD|.mod,i,j=>if decide (0<j)then aC (i % j)else aD|.shl,i,j=>if decide (0<=j)&&decide (j<=1000000)&&decide (i.natAbs<2 ^ 64)then aC (i*2 ^ j.toNat)else aD|.pow,i,j=>if decide (0<=j)&&decide (j<=1000000)&&decide (i.natAbs<2 ^ 64)then aC (i ^ j.toNat)else aD
noncomputable def Ey:Op->List W->List W->Option (List W)|.add,xs,ys=>if Nat.ble (xs.length+ys.length) big then aC (xs++ys)else aD|_,_,_=>aD
noncomputable def NS:Op->List W->List W->Option (List W)|.add,xs,ys=>if Nat.ble (xs.length+ys.length) big then aC (xs++ys)else aD|_,_,_=>aD
noncomputable def fits(i:Int):Bool:=decide (-(2 ^ 62)<=i)&&decide (i<2 ^ 62)
noncomputable def jm(o:Op)(xs:List W)(k:Int):Option (List W):=match o with|.mul=>if fits k&&Nat.ble (xs.length*k.toNat) big then aC (bE k.toNat xs).flatten else aD|_=>aD
noncomputable def eU(o:Op)(x y:W)(h:VH):Res W:=match x,y with
 |.int i,.int j=>.of ((dU o i j).map .int) h
 |.tup xs,.tup ys=>.of ((Ey o xs ys).map .tup) h
 |.tup xs,.int k=>.of ((jm o xs k).map .tup) h
 |.ref i,.int k=>(match h.get i with
  |some (.lst xs)=>(match jm o xs k with
   |some zs=>.ok (.ref h.n) (h.new (.lst zs))
   |none=>.no)
  |_=>.no)
 |.ref i,.ref j=>match h.get i,h.get j with
  |some (.lst xs),aC (.lst ys)=>(match NS o xs ys with
   |some zs=>.ok (.ref h.n) (h.new (.lst zs))
   |none=>.no)
  |_,_=>.no
 |_,_=>.no
noncomputable def xW(o:Op)(x y:W)(h:VH):Res W:=match x,y with
 |.int i,.int j=>(match o with
  |.add=>.ok (.int (i+j)) h
  |.sub=>.ok (.int (i-j)) h
  |.mul=>.of ((dU .mul i j).map .int) h
  |.fdiv=>.of ((dU .fdiv i j).map .int) h
  |_=>.no)
 |.ref i,.ref j=>match o,h.get i,h.get j with
  |.add,aC (.lst xs),aC (.lst ys)=>if Nat.ble (xs.length+ys.length) big then .ok (.ref i) (h.set i (.lst (xs++ys)))else .no
  |_,_,_=>.no
 |.tup (x::xs),.tup ys=>(match o with
  |.add=>if Nat.ble ((x::xs).length+ys.length) big then .ok (.tup (x::xs++ys)) h else .no
  |_=>.no)
 |_,_=>.no
noncomputable def fC:Cp->Int->Int->Option Bool|.lt,i,j=>aC (decide (i<j))|.le,i,j=>aC (decide (i<=j))|.gt,i,j=>aC (decide (j<i))|.ge,i,j=>aC (decide (j<=i))|_,_,_=>aD
noncomputable def dP:W->Bool|.aL=>true|_=>false
noncomputable def aS(h:VH):W->Option (List W)
 |.tup ws=>aC ws
 |.fz ws=>aC ws
 |.ref i=>match h.get i with
  |some (.lst ws)=>aC ws
  |_=>aD
 |_=>aD
noncomputable def intD:W->Option Int|.int i=>aC i|_=>aD
noncomputable def dI:W->Option L2.DK|.tup [.aL,.tup ws]=>(aO intD ws).map λis=>(is,aD)|.tup [.int i,.tup ws]=>(aO intD ws).map λis=>(is,aC i)|_=>aD
noncomputable def ek:List W->List W->L2.DK->Option W|k::ks,w::ws,d=>if dI k=aC d then aC w else ek ks ws d|_,_,_=>aD
noncomputable def inD(h:VH)(x y:W):Option Bool:=match y with
 |.ref a=>(match h.get a,dI x with
  |some (.dt ks ws),aC k=>aC (ek ks ws k).isSome
  |_,_=>aD)
 |_=>aD
noncomputable def AW(h:VH)(a:Nat)(y:W):Option W:=match h.get a,dI y with|some (.dt ks ws),aC k=>ek ks ws k|_,_=>aD
noncomputable def lQ(h:VH)(x:W):Option (List W):=match x with
 |.ref a=>(match h.get a with
  |some (.dt ks _)=>aC ks
  |_=>aD)
 |_=>aD
noncomputable def kU(h:VH)(x y:W):Option Bool:=match aS h y,toD h 24 x with
 |some ws,aC d=>(match aO (toD h 24) ws with
  |some ds=>if ds.all SeqAt.shaped&&SeqAt.shaped d then aC (L2.dO ds d)else aD
  |none=>aD)
 |_,_=>inD h x y
noncomputable def AX:W->W->Option Bool|.bl c,.bl b=>aC (c==b)|_,_=>aD
noncomputable def AY(h:VH)(x y:W):Option Bool:=match toD h 24 x,toD h 24 y with|some d,aC e=>if SeqAt.shaped d&&SeqAt.shaped e then L2.iI 24 d e else aD|_,_=>aD
noncomputable def aV(c:Cp)(h:VH)(x y:W):Option Bool:=match c with
 |.jT=>kU h x y
 |.lP=>(kU h x y).map (!·)
 |.eq=>ck h x y
 |.ne=>(ck h x y).map (!·)
 |.tN=>if dP y then aC (dP x)else AX x y
 |.jk=>if dP y then aC (!dP x)else(AX x y).map (!·)
 |c=>match x,y with
  |.int i,.int j=>fC c i j
  |.tup us,.tup ws=>(match c with
   |.lt=>AY h (.tup us) (.tup ws)
   |_=>aD)
  |_,_=>aD
noncomputable def mT(h:VH):W->Option Bool
 |.bl b=>aC b
 |.int i=>aC (i != 0)
 |.aL=>aC false
 |.tup ws=>aC (!ws.isEmpty)
 |.ref i=>match h.get i with
  |some (.lst ws)=>aC (!ws.isEmpty)
  |_=>aD
 |_=>aD
noncomputable def vF:W->Option L2.Key|.int i=>aC (.inl i)|.str x=>aC (.inr x)|_=>aD
noncomputable def dz(kvs:List (L2.Key×W))(k:L2.Key):Option W:=(kvs.find? λkv=>decide (kv.1=k)).map (·.2)
noncomputable def jV(kvs:List (L2.Key×W))(k:L2.Key)(w:W):List (L2.Key×W):=
 if(kvs.any λkv=>decide (kv.1=k))=true then kvs.map (λkv=>if kv.1=k then(kv.1,w)else kv)else kvs++[(k,w)]
noncomputable def bR(h:VH)(x y:W):Option W:=match x,y with
 |.tup ws,.int i=>L2.dH ws i
 |.fz ws,.int i=>L2.dH ws i
 |.ref a,.int i=>(match h.get a with
  |some (.lst ws)=>L2.dH ws i
  |some (.dk kvs)=>dz kvs (.inl i)
  |some (.dm kvs)=>dz kvs (.inl i)
  |_=>aD)
 |.ref a,.str x=>(match h.get a with
  |some (.dk kvs)=>dz kvs (.inr x)
  |_=>aD)
 |.ref a,y=>AW h a y
 |_,_=>aD
noncomputable def fO(b:Bool)(w:W):Option (Option Int):=match b,w with|false,_=>aC aD|true,.int i=>aC (aC i)|_,_=>aD
noncomputable def jW(ws:List W)(lo hi:Option Int):List W:=(ws.drop (HT.bJ ws.length 0 lo)).take (HT.bJ ws.length ws.length hi-HT.bJ ws.length 0 lo)
noncomputable def mU(x:W)(l u:Option Int)(h:VH):Res W:=match x with
 |.tup ws=>.ok (.tup (jW ws l u)) h
 |.ref i=>(match h.get i with
  |some (.lst ws)=>.ok (.ref h.n) (h.new (.lst (jW ws l u)))
  |_=>.no)
 |_=>.no
@[simp] theorem AZ {ws:List W} {l u:Option Int} {h:VH}:mU (.tup ws) l u h=.ok (.tup (jW ws l u)) h:=rfl
noncomputable def dX:Ty->VH->W->Option Bool
 |t,_,.aL=>aC false
 |t,_,.bl _=>aC (t == .int||t == .bool)
 |t,_,.int _=>aC (t == .int)
 |t,_,.str _=>aC (t == .str)
 |t,_,.tup _=>aC (t == .tuple)
 |_,_,.fz _=>aD
 |t,h,.ref i=>match h.get i with
  |some (.lst _)=>aC (t == .list)
  |some (.dk _)=>aC (t == .dict)
  |_=>aD
noncomputable def fP(xs:List W)(h:VH):Res W:=match xs with
 |[x]=>.of (match aS h x with
  |some ws=>aC (.int ws.length)
  |none=>(lQ h x).map λks=>.int ks.length) h
 |_=>.no
noncomputable def jX(xs:List W)(h:VH):Res W:=match xs with
 |[x]=>(match aS h x with
  |some ws=>.ok (.ref h.n) (h.new (.lst ws))
  |none=>.no)
 |_=>.no
noncomputable def qL(xs:List W)(h:VH):Res W:=match xs with
 |[x]=>.of (match aS h x with
  |some ws=>aC (.tup ws)
  |none=>(lQ h x).map .tup) h
 |_=>.no
noncomputable def kW(xs:List W)(h:VH):Res W:=match xs with|[.int i]=>.ok (.int i) h|[.bl b]=>.ok (.int (if b then 1 else 0)) h|_=>.no
noncomputable def kX(xs:List W)(h:VH):Res W:=match xs with|[.int i]=>.ok (.int (if i<0 then -i else i)) h|_=>.no
noncomputable def iZ:W->Option Int|.int i=>aC i|_=>aD
noncomputable def dJ:Int->List Int->Int|x,[]=>x|x,y::r=>dJ (if y>x then y else x) r
noncomputable def qM(xs:List W)(h:VH):Res W:=match xs with
 |[.int i,.int j]=>.ok (.int (if j>i then j else i)) h
 |[.ref i]=>(match h.get i with
  |some (.lst ws)=>(match aO iZ ws with
   |some (x::r)=>.ok (.int (dJ x r)) h
   |_=>.no)
  |_=>.no)
 |_=>.no
noncomputable def kY(xs:List W)(h:VH):Res W:=match xs with|[.int i,.int j]=>.ok (.int (if j<i then j else i)) h|_=>.no
noncomputable def tP:W->Option Bool|.bl b=>aC b|_=>aD
noncomputable def mV(xs:List W)(h:VH):Res W:=match xs with
 |[.ref i]=>(match h.get i with
  |some (.lst ws)=>.of ((aO tP ws).map λbs=>.bl (bs.all id)) h
  |_=>.no)
 |_=>.no
noncomputable def A0(j:Nat):List W:=(List.range' 0 j).map λ(i:Nat)=>W.int (0+ (i:Int))
noncomputable def jY(xs:List W)(h:VH):Res W:=match xs with|[.int i]=>if decide (0<=i)&&Nat.ble i.toNat big then .ok (.ref h.n) (h.new (.lst (A0 i.toNat)))else .no|_=>.no
noncomputable def vG(xs:List W)(h:VH):Res W:=match xs with|[]=>.ok (.ref h.n) (h.new (.dt [] []))|_=>.no
noncomputable def A1(xs:List W)(h:VH):Res W:=match xs with
 |[.ref i]=>(match h.get i with
  |some (.dm kvs)=>.ok (.ref i) (h.set i (.dk kvs))
  |_=>.no)
 |_=>.no
noncomputable def kZ(xs:List W)(h:VH):Res W:=match xs with
 |[.ref i]=>(match h.get i with
  |some (.lst ws)=>(match aO (toD h 24) ws with
   |some ds=>if L2.jS ds then(if ws.isEmpty then .ok .aL h else .of ws[L2.fN ds]? h)else .no
   |none=>.no)
  |_=>.no)
 |_=>.no
noncomputable def qN(xs:List W)(h:VH):Res W:=match xs with|[.tup [a,b]]=>.ok (.tup [b,a]) h|_=>.no
noncomputable def ig(b:Bi)(xs:List W)(h:VH):Res W:=match b with|.abs=>kX xs h|.max=>qM xs h|.min=>kY xs h|.all=>mV xs h|.AV=>jY xs h|.Ew=>vG xs h|.bI=>A1 xs h|.HL=>kZ xs h|.xV=>qN xs h|.len=>fP xs h|.list=>jX xs h|.tuple=>qL xs h|.int=>kW xs h
noncomputable def NT(kvs more:List (L2.Key×W)):List (L2.Key×W):=more.foldl (λacc kv=>jV acc kv.1 kv.2) kvs
noncomputable def fQ(a:Nat)(y w:W)(h:VH):Res W:=match h.get a,dI y with
 |some (.dt ks ws),aC k=>if Nat.blt ks.length big then(match ek ks ws k with
  |some w'=>.ok w' h
  |none=>.ok w (h.set a (.dt (ks++[y]) (ws++[w]))))else .no
 |_,_=>.no
noncomputable def lR(m:Mt)(o:W)(xs:List W)(h:VH):Res W:=match m,o,xs with
 |.append,.ref i,[x]=>(match h.get i with
  |some (.lst ws)=>if Nat.blt ws.length big then .ok .aL (h.set i (.lst (ws++[x])))else .no
  |_=>.no)
 |.get,.ref i,[k,d]=>(match h.get i,vF k with
  |some (.dk kvs),aC k=>.ok ((dz kvs k).getD d) h
  |some (.dm kvs),aC k=>.ok ((dz kvs k).getD d) h
  |_,_=>.no)
 |.jU,.ref i,[k,w]=>fQ i k w h
 |_,_,_=>.no
noncomputable def lS(m:Mt)(h:VH)(o:W):Bool:=match m,o with
 |.append,.ref i=>(match h.get i with
  |some (.lst _)=>true
  |_=>false)
 |.get,.ref i=>(match h.get i with
  |some (.dk _)=>true
  |some (.dm _)=>true
  |_=>false)
 |.jU,.ref i=>(match h.get i with
  |some (.dt _ _)=>true
  |_=>false)
 |_,_=>false
noncomputable def HN:L2.Key->W|.inl i=>.int i|.inr x=>.str x
noncomputable def bg(k:Kd)(x:W)(i:Nat)(h:VH):Option (Option W):=match k with
 |.seq=>(aS h x).map λws=>ws[i]?
 |.pH=>(match x with
  |.tup ws=>aC ((ws[i]?).map λw=>.tup [.int i,w])
  |_=>aD)
 |.rev=>(match x with
  |.tup ws=>aC ws.reverse[i]?
  |_=>aD)
 |.keys=>(match x with
  |.ref a=>(match h.get a with
   |some (.dk kvs)=>(match kvs[i]? with
    |some kv=>aC (aC (HN kv.1))
    |none=>if Nat.beq i kvs.length then aC aD else aD)
   |_=>aD)
  |_=>aD)
 |.zip=>(match x with
  |.tup [u,v]=>(match aS h u,aS h v with
   |some ws,aC zs=>aC (match ws[i]?,zs[i]? with
    |some a,aC b=>aC (.tup [a,b])
    |_,_=>aD)
   |_,_=>aD)
  |_=>aD)
 |.bL=>(match x with
  |.tup [.int j]=>if fits j then aC (if decide ((i:Int)<j)then aC (.int (0+i))else aD)else aD
  |_=>aD)
 |.vC=>(match x with
  |.tup [.int a,.int b]=>if fits a&&fits b then aC (if decide ((i:Int)<b-a)then aC (.int (a+i))else aD)else aD
  |_=>aD)
noncomputable def jZ:List Nat->List W->En->Option En|[],[],ρ=>aC ρ|i::is,w::ws,ρ=>jZ is ws (ρ.set i (aC w))|_,_,_=>aD
noncomputable def bz(t:Tg)(w:W)(h:VH)(ρ:En):Option En:=match t with
 |.one i=>aC (ρ.set i (aC w))
 |.VW j is=>(match w with
  |.tup [x,y]=>(match aS h y with
   |some ws=>jZ is ws (ρ.set j (aC x))
   |none=>aD)
  |_=>aD)
 |.many is=>match aS h w with
  |some ws=>jZ is ws ρ
  |none=>aD
noncomputable def fuel:Nat:=1000000
noncomputable def inner(ow:Nat)(ix:List Nat)(ρ:En):En:=bE ow aD++ix.map λj=>(ρ[j]?).join
noncomputable def eV(nx:Nat->VH->Option (Option W))(tg:W->VH->En->Option En)(c:En->VH->Res W)(e:En->VH->Res W):Nat->Nat->En->VH->List W->Res (List W)
 |0,_,_,_,_=>.no
 |f+1,i,ρ,h,acc=>match nx i h with
  |none=>.no
  |some aD=>.ok acc.reverse h
  |some (aC w)=>match tg w h ρ with
   |none=>.no
   |some ρ=>(c ρ h).bind λb h=>match b with
    |.bl true=>(e ρ h).bind λy h=>eV nx tg c e f (i+1) ρ h (y::acc)
    |.bl false=>eV nx tg c e f (i+1) ρ h acc
    |_=>.no
noncomputable def ir(nx:Nat->VH->Option (Option W))(tg:W->VH->En->Option En)(c:En->VH->Res W)(e:En->VH->Res W):Nat->Nat->En->VH->List W->Res (En×List W)
 |0,_,_,_,_=>.no
 |f+1,i,ρ,h,acc=>match nx i h with
  |none=>.no
  |some aD=>.ok (ρ,acc) h
  |some (aC w)=>match tg w h ρ with
   |none=>.no
   |some ρ=>(c ρ h).bind λb h=>match b with
    |.bl true=>(e ρ h).bind λy h=>ir nx tg c e f (i+1) ρ h (y::acc)
    |.bl false=>ir nx tg c e f (i+1) ρ h acc
    |_=>.no
noncomputable def jn(nx:Nat->VH->Option (Option W))(tg:W->VH->En->Option En)(c:En->VH->Res W)(jT:En->VH->List W->Res (En×List W)):Nat->Nat->En->VH->List W->Res (List W)
 |0,_,_,_,_=>.no
 |f+1,i,ρ,h,acc=>match nx i h with
  |none=>.no
  |some aD=>.ok acc.reverse h
  |some (aC w)=>match tg w h ρ with
   |none=>.no
   |some ρ=>(c ρ h).bind λb h=>match b with
    |.bl true=>(jT ρ h acc).bind λp h=>jn nx tg c jT f (i+1) p.1 h p.2
    |.bl false=>jn nx tg c jT f (i+1) ρ h acc
    |_=>.no
noncomputable def dB(nx:Nat->VH->Option (Option W))(tg:W->VH->En->Option En)(b:En->VH->Res Fl):Nat->Nat->En->VH->Res Fl
 |0,_,_,_=>.no
 |f+1,i,ρ,h=>match nx i h with
  |none=>.no
  |some aD=>.ok (.nx ρ) h
  |some (aC w)=>match tg w h ρ with
   |none=>.no
   |some ρ=>(b ρ h).bind λfl h=>match fl with
    |.nx ρ=>dB nx tg b f (i+1) ρ h
    |.ct ρ=>dB nx tg b f (i+1) ρ h
    |.bk ρ=>.ok (.nx ρ) h
    |.rt w=>.ok (.rt w) h
noncomputable def fD(c:En->VH->Res W)(b:En->VH->Res Fl):Nat->En->VH->Res Fl
 |0,_,_=>.no
 |f+1,ρ,h=>(c ρ h).bind λt h=>match t with
  |.bl false=>.ok (.nx ρ) h
  |.bl true=>(b ρ h).bind λfl h=>match fl with
   |.nx ρ=>fD c b f ρ h
   |.ct ρ=>fD c b f ρ h
   |.bk ρ=>.ok (.nx ρ) h
   |.rt w=>.ok (.rt w) h
  |_=>.no
noncomputable def vH:List W->Option (List (L2.Key×W))
 |[]=>aC []
 |k::v::r=>match vF k with
  |some k=>(match vH r with
   |some kvs=>aC ((k,v)::kvs)
   |none=>aD)
  |none=>aD
 |_=>aD
noncomputable def A2:List (L2.Key×W)->VO|[]=>.dt [] []|kvs=>.dk (NT [] kvs)
noncomputable def mW(ys:List W)(h:VH):Res W:=match ys with
 |[k,w]=>(match dI k with
  |some _=>.ok (.ref h.n) (h.new (.dt [k] [w]))
  |none=>.no)
 |_=>.no
noncomputable def qP(ρ:En)(a:Nat)(j:Int)(w:W)(h:VH):Res Fl:=match h.get a with|some (.dm kvs)=>if Nat.blt kvs.length big then .ok (.nx ρ) (h.set a (.dm (jV kvs (.inl j) w)))else .no|_=>.no
noncomputable def putD(ρ:En)(a:Nat)(y w:W)(h:VH):Res Fl:=match h.get a,dI y with|some (.dt ks ws),aC k=>if(ek ks ws k).isNone&&Nat.blt ks.length big then .ok (.nx ρ) (h.set a (.dt (ks++[y]) (ws++[w])))else .no|_,_=>.no
noncomputable abbrev Call:=Nat->List W->VH->Res W
noncomputable def ev(cl:Call):E->En->VH->Res W
 |.var i,ρ,h=>.of (ρ[i]?).join h
 |.cst w,_,h=>.ok w h
 |.nil,_,h=>.ok (.tup []) h
 |.cons a r,ρ,h=>(ev cl a ρ h).bind λx h=>(ev cl r ρ h).bind λy h=>match y with
  |.tup ys=>.ok (.tup (x::ys)) h
  |_=>.no
 |.tup a,ρ,h=>(ev cl a ρ h).bind λy h=>match y with
  |.tup ys=>if Nat.ble ys.length 1000 then .ok (.tup ys) h else .no
  |_=>.no
 |.lst a,ρ,h=>(ev cl a ρ h).bind λy h=>match y with
  |.tup ys=>if Nat.ble ys.length 1000 then .ok (.ref h.n) (h.new (.lst ys))else .no
  |_=>.no
 |.HM a,ρ,h=>(ev cl a ρ h).bind λy h=>match y with
  |.tup ys=>(match vH ys with
   |some kvs=>if Nat.ble kvs.length 15 then .ok (.ref h.n) (h.new (A2 kvs))else .no
   |none=>mW ys h)
  |_=>.no
 |.op o a b,ρ,h=>(ev cl a ρ h).bind λx h=>(ev cl b ρ h).bind λy h=>eU o x y h
 |.neg a,ρ,h=>(ev cl a ρ h).bind λx h=>match x with
  |.int i=>.ok (.int (-i)) h
  |_=>.no
 |.cmp c a b,ρ,h=>(ev cl a ρ h).bind λx h=>(ev cl b ρ h).bind λy h=>.of ((aV c h x y).map .bl) h
 |.vD c d a b e,ρ,h=>(ev cl a ρ h).bind λx h=>(ev cl b ρ h).bind λy h=>match aV c h x y with
  |some true=>(ev cl e ρ h).bind λz h=>.of ((aV d h y z).map .bl) h
  |some false=>.ok (.bl false) h
  |none=>.no
 |.not a,ρ,h=>(ev cl a ρ h).bind λx h=>match x with
  |.bl b=>.ok (.bl (!b)) h
  |_=>.no
 |.and a b,ρ,h=>(ev cl a ρ h).bind λx h=>match x with
  |.bl true=>ev cl b ρ h
  |.bl false=>.ok (.bl false) h
  |_=>.no
 |.or a b,ρ,h=>(ev cl a ρ h).bind λx h=>match x with
  |.bl true=>.ok (.bl true) h
  |.bl false=>ev cl b ρ h
  |_=>.no
 |.jz a,ρ,h=>(ev cl a ρ h).bind λx h=>.of ((mT h x).map .bl) h
 |.ite c a b,ρ,h=>(ev cl c ρ h).bind λx h=>match x with
  |.bl true=>ev cl a ρ h
  |.bl false=>ev cl b ρ h
  |_=>.no
 |.idx a b,ρ,h=>(ev cl a ρ h).bind λx h=>(ev cl b ρ h).bind λy h=>.of (bR h x y) h
 |.slc a bl lo bh hi,ρ,h=>(ev cl a ρ h).bind λx h=>(ev cl lo ρ h).bind λl h=>(ev cl hi ρ h).bind λu h=>match fO bl l,fO bh u with
  |some l,aC u=>mU x l u h
  |_,_=>.no
 |.call f a,ρ,h=>(ev cl a ρ h).bind λy h=>match y with
  |.tup ys=>cl f ys h
  |_=>.no
 |.bi b a,ρ,h=>(ev cl a ρ h).bind λy h=>match y with
  |.tup ys=>ig b ys h
  |_=>.no
 |.vE t a,ρ,h=>(ev cl a ρ h).bind λx h=>.of ((dX t h x).map .bl) h
 |.mt m o a,ρ,h=>(ev cl o ρ h).bind λx h=>if lS m h x then(ev cl a ρ h).bind λy h=>match y with
  |.tup ys=>lR m x ys h
  |_=>.no
  else .no
 |.lc k a t ow ix c e,ρ,h=>(ev cl a ρ h).bind λx h=>(eV (bg k x) (bz t) (ev cl c) (ev cl e) fuel 0 (inner ow ix ρ) h []).bind λys h=>if Nat.ble ys.length big then .ok (.ref h.n) (h.new (.lst ys))else .no
 |.tO k a t ow ix c k2 a2 t2 c2 e,ρ,h=>(ev cl a ρ h).bind λx h=>(jn (bg k x) (bz t) (ev cl c) (λρ h acc=>(ev cl a2 ρ h).bind λy h=>ir (bg k2 y) (bz t2) (ev cl c2) (ev cl e) fuel 0 ρ h acc) fuel 0 (inner ow ix ρ) h []).bind λys h=>if Nat.ble ys.length big then .ok (.ref h.n) (h.new (.lst ys))else .no
noncomputable def exs(cl:Call):S->En->VH->Res Fl
 |.skip,ρ,h=>.ok (.nx ρ) h
 |.seq a b,ρ,h=>(exs cl a ρ h).bind λfl h=>match fl with
  |.nx ρ=>exs cl b ρ h
  |fl=>.ok fl h
 |.set i e,ρ,h=>(ev cl e ρ h).bind λw h=>.ok (.nx (ρ.set i (aC w))) h
 |.om is e,ρ,h=>(ev cl e ρ h).bind λw h=>.of ((bz (.many is) w h ρ).map .nx) h
 |.aug i o e,ρ,h=>match(ρ[i]?).join with
  |some x=>(ev cl e ρ h).bind λy h=>(xW o x y h).bind λz h=>.ok (.nx (ρ.set i (aC z))) h
  |none=>.no
 |.put o i v,ρ,h=>(ev cl v ρ h).bind λw h=>(ev cl o ρ h).bind λx h=>(ev cl i ρ h).bind λy h=>match x,y with
  |.ref a,.int j=>(match h.get a with
   |some (.lst ws)=>(match L2.iN ws.length j with
    |some k=>.ok (.nx ρ) (h.set a (.lst (ws.set k w)))
    |none=>.no)
   |_=>qP ρ a j w h)
  |.ref a,y=>putD ρ a y w h
  |_,_=>.no
 |.ite c a b,ρ,h=>(ev cl c ρ h).bind λx h=>match x with
  |.bl true=>exs cl a ρ h
  |.bl false=>exs cl b ρ h
  |_=>.no
 |.ret e,ρ,h=>(ev cl e ρ h).bind λw h=>.ok (.rt w) h
 |.expr e,ρ,h=>(ev cl e ρ h).bind λ_ h=>.ok (.nx ρ) h
 |.brk,ρ,h=>.ok (.bk ρ) h
 |.cnt,ρ,h=>.ok (.ct ρ) h
 |.for k a t b,ρ,h=>(ev cl a ρ h).bind λx h=>dB (bg k x) (bz t) (exs cl b) fuel 0 ρ h
 |.Ex c b,ρ,h=>fD (ev cl c) (exs cl b) fuel ρ h
 |.no,_,_=>.no
structure Fn where
 ps:Nat
 n:Nat
 body:S
noncomputable def leave(h:VH)(w:W)(h':VH):Res W:=
 if Nat.ble h.n h'.lo&&W.lt h.n w then .ok w h else .ok w ⟨h'.n,if Nat.ble h.lo h'.lo then h.lo else h'.lo,h'.os⟩
noncomputable def run(F:Nat->Option Fn):Nat->Call
 |0,_,_,_=>.no
 |k+1,f,ws,h=>match F f with
  |some fn=>if Nat.beq ws.length fn.ps then
   (exs (run F k) fn.body (ws.map aC++bE (fn.n-fn.ps) aD) ⟨h.n,h.n,h.os⟩).bind λfl h'=>match fl with|.nx _=>leave h .aL h'|.rt w=>leave h w h'|_=>.no
   else .no
  |none=>.no
open L2 PyProof.Rows PySem.Spec
noncomputable def Fz(K:aK)(H:Hp)(a:ai)(xs:List V):Prop:=
 (∃o,H a=aC (.bI o (.lst xs)))\/∃(o:Obj) (its:Array af) (n:Nat),K.lookup a=aC o/\o.cls=.type "list"/\o.dict=aD/\o.data=.seq its n/\its.size<=sizeLine/\Vals xs its.toList
theorem Fz.sq{K:aK}{H:Hp}{a:ai}{xs:List V}(h:Fz K H a xs):cC K H a xs:=h.elim (λ⟨o,q⟩=>.inl (.inr ⟨o,q⟩)) .inr
mutual
inductive aJ(K:aK)(m:Nat->ai)(n:Nat)(H:Hp):V->W->Prop
 |aL:aJ K m n H .aL .aL
 |bl (b:Bool):aJ K m n H (.bl b) (.bl b)
 |int (i:Int):aJ K m n H (.int i) (.int i)
 |str (x:Str):aJ K m n H (.str x) (.str x)
 |tup {a:ai} {vs:List V} {ws:List W}:bU K H a vs->aF K m n H vs ws->aJ K m n H (.ref a) (.tup ws)
 |fz {a:ai} {vs:List V} {ws:List W}:Fz K H a vs->aF K m n H vs ws->aJ K m n H (.ref a) (.fz ws)
 |ref {i:Nat}:i<n->aJ K m n H (.ref (m i)) (.ref i)
inductive aF(K:aK)(m:Nat->ai)(n:Nat)(H:Hp):List V->List W->Prop
 |nil:aF K m n H [] []
 |cons {v:V} {w:W} {vs:List V} {ws:List W}:aJ K m n H v w->aF K m n H vs ws->aF K m n H (v::vs) (w::ws)
end
inductive aP(K:aK)(m:Nat->ai)(n:Nat)(H:Hp):List (Key×V)->List (Key×W)->Prop
 |nil:aP K m n H [] []
 |cons {k:Key} {v:V} {w:W} {vs:List (Key×V)} {ws:List (Key×W)}:aJ K m n H v w->aP K m n H vs ws->aP K m n H ((k,v)::vs) ((k,w)::ws)
noncomputable def gv(K:aK)(m:Nat->ai)(n:Nat)(H:Hp)(a:ai):VO->Prop|.lst ws=>∃vs,H a=aC (.lst vs)/\aF K m n H vs ws|.dk kvs=>∃kv,Rd H a (.dK kv)/\aP K m n H kv kvs|.dm kvs=>∃kv,H a=aC (.dK kv)/\aP K m n H kv kvs|.dt ks ws=>∃xs:DX,(H a=aC (kE xs a)\/(xs=[]/\H a=aC (.dK [])))/\aO dI ks=aC (xs.map (·.1))/\aF K m n H (xs.map λx=>.ref x.2.1) ks/\aF K m n H (xs.map λx=>x.2.2) ws
structure Rel(K:aK)(m:Nat->ai)(h:VH)(H:Hp):Prop where
 obj:∀i,i<h.n->∃o,h.get i=aC o/\gv K m h.n H (m i) o
 inj:∀i j,i<h.n->j<h.n->m i=m j->i=j
 len:h.os.length=h.n
structure bP(m:Nat->ai)(n:Nat)(H:Hp)(m':Nat->ai)(n':Nat)(H':Hp):Prop where
 le:n<=n'
 same:∀i,i<n->m' i=m i
 new:∀i,n<=i->i<n'->H (m' i)=aD
 apart:∀i j,n<=i->i<n'->j<n->m' i≠m' j
 tup:∀b vs,H b=aC (.tup vs)->H' b=aC (.tup vs)
 bI:∀b o u,H b=aC (.bI o u)->H' b=aC (.bI o u)
 keep:∀b o,(∀i,i<n->m i≠b)->H b=aC o->H' b=aC o
section
variable{K:aK}{m m' m1 m2:Nat->ai}{n n' n1 n2:Nat}{h h':VH}{H H' H1 H2:Hp}
theorem bP.refl:bP m n H m n H:=⟨aW _,λ_ _=>rfl,λi a b=>absurd b (jE.mpr a),λi j a b=>absurd b (jE.mpr a),λ_ _ q=>q,λ_ _ _ q=>q,λ_ _ _ q=>q⟩
theorem bP.trans(a:bP m n H m1 n1 H1)(b:bP m1 n1 H1 m2 n2 H2):bP m n H m2 n2 H2 where
 le:=gY a.le b.le
 same:=λi hi=>(b.same i (dS hi a.le)).trans (a.same i hi)
 new:=λi hi hi2=>by
  by_cases hc:i<n1;rw[b.same i hc];exact a.new i hi hc;have hc:=jE.mp hc;cases q:H (m2 i)with
  |none=>rfl
  |some o=>
   have q1:H1 (m2 i)=aD:=b.new i hc hi2;rw[a.keep _ o (λj hj z=>b.apart i j hc hi2 (dS hj a.le) ((b.same j (dS hj a.le)).trans ((a.same j hj).trans z)).symm) q]at q1;cases q1
 apart:=λi j hi hi2 hj=>by
  by_cases hc:i<n1;rw[b.same i hc,b.same j (dS hj a.le)];exact a.apart i j hi hc hj;exact b.apart i j (jE.mp hc) hi2 (dS hj a.le)
 tup:=λc vs q=>b.tup c vs (a.tup c vs q)
 bI:=λc o u q=>b.bI c o u (a.bI c o u q)
 keep:=λc o hc q=>b.keep c o (λi hi=>by
  by_cases hl:i<n;rw[a.same i hl];exact hc i hl;intro z;have:=a.new i (jE.mp hl) hi;rw[z,q]at this;cases this) (a.keep c o hc q)
theorem bP.VX{a:ai}{vs:List V}(s:bP m n H m' n' H')(q:bU K H a vs):bU K H' a vs:=by rcases q with(q|⟨o,q⟩)|q;exact .inl (.inl (s.tup _ _ q));exact .inl (.inr ⟨o,s.bI _ _ _ q⟩);exact .inr q
theorem bP.fz{a:ai}{vs:List V}(s:bP m n H m' n' H')(q:Fz K H a vs):Fz K H' a vs:=by rcases q with⟨o,q⟩|q;exact .inl ⟨o,s.bI _ _ _ q⟩;exact .inr q
mutual
theorem aJ.stp(s:bP m n H m' n' H'):∀{v:V} {w:W},aJ K m n H v w->aJ K m' n' H' v w|_,_,.aL=>.aL|_,_,.bl b=>.bl b|_,_,.int b=>.int b|_,_,.str b=>.str b|_,_,.tup q r=>.tup (s.VX q) (aF.stp s r)|_,_,.fz q r=>.fz (s.fz q) (aF.stp s r)|_,_,.ref (i:=i) q=>by rw[<-s.same i q];exact .ref (dS q s.le)
theorem aF.stp(s:bP m n H m' n' H'):∀{vs:List V} {ws:List W},aF K m n H vs ws->aF K m' n' H' vs ws|_,_,.nil=>.nil|_,_,.cons q r=>.cons (aJ.stp s q) (aF.stp s r)
end
theorem aP.stp(s:bP m n H m' n' H'):∀{vs:List (Key×V)} {ws:List (Key×W)},aP K m n H vs ws->aP K m' n' H' vs ws|_,_,.nil=>.nil|_,_,.cons q r=>.cons (q.stp s) (aP.stp s r)
theorem aF.length:∀{vs:List V} {ws:List W},aF K m n H vs ws->vs.length=ws.length|_,_,.nil=>rfl|_,_,.cons _ r=>by rw[dj,dj,aF.length r]
theorem aF.get:∀{vs:List V} {ws:List W} {i:Nat} {w:W},aF K m n H vs ws->ws[i]?=aC w->∃v,vs[i]?=aC v/\aJ K m n H v w
 |_,_,_,_,.nil,e=>by simp at e
 |_,_,0,_,.cons q _,e=>by simp at e;subst e;exact⟨_,rfl,q⟩
 |_,_,i+1,w,.cons _ r,e=>by
  obtain⟨v,h1,h2⟩:=aF.get (i:=i) (w:=w) r (by simpa using e);exact⟨v,by simpa using h1,h2⟩
theorem aF.append:∀{vs us:List V} {ws zs:List W},aF K m n H vs ws->aF K m n H us zs->aF K m n H (vs++us) (ws++zs)|_,_,_,_,.nil,r=>r|_,_,_,_,.cons q r,t=>.cons q (aF.append r t)
theorem aF.drop:∀(k:Nat) {vs:List V} {ws:List W},aF K m n H vs ws->aF K m n H (vs.drop k) (ws.drop k)|0,_,_,r=>r|_+1,_,_,.nil=>.nil|k+1,_,_,.cons _ r=>aF.drop k r
theorem aF.take:∀(k:Nat) {vs:List V} {ws:List W},aF K m n H vs ws->aF K m n H (vs.take k) (ws.take k)|0,_,_,r=>.nil|_+1,_,_,.nil=>.nil|k+1,_,_,.cons q r=>.cons q (aF.take k r)
theorem aF.set{v:V}{w:W}(q:aJ K m n H v w):∀(k:Nat) {vs:List V} {ws:List W},aF K m n H vs ws->aF K m n H (vs.set k v) (ws.set k w)|_,_,_,.nil=>.nil|0,_,_,.cons _ r=>.cons q r|k+1,_,_,.cons p r=>.cons p (aF.set q k r)
theorem gv.stp{a:ai}{o:VO}(s:bP m n H m' n' H')(e:H' a=H a)(q:gv K m n H a o):gv K m' n' H' a o:=by
 cases o with|lst ws=>obtain⟨vs,h1,h2⟩:=q;exact⟨vs,e.trans h1,h2.stp s⟩|dk ws=>obtain⟨vs,h1,h2⟩:=q;exact⟨vs,h1.imp (λz=>e.trans z) λ⟨o,z⟩=>⟨o,e.trans z⟩,h2.stp s⟩|dm ws=>obtain⟨vs,h1,h2⟩:=q;exact⟨vs,e.trans h1,h2.stp s⟩|dt ks ws=>obtain⟨xs,h1,h0,h2,h3⟩:=q;exact⟨xs,h1.imp (λz=>e.trans z) λ⟨o,z⟩=>⟨o,e.trans z⟩,h0,h2.stp s,h3.stp s⟩
theorem gv.some{a:ai}{o:VO}(q:gv K m n H a o):∃u,H a=aC u:=by
 cases o with
 |lst ws=>obtain⟨vs,h1,h2⟩:=q;exact⟨_,h1⟩
 |dk ws=>
  obtain⟨vs,h1,h2⟩:=q;rcases h1 with h1|⟨o,h1⟩<;>exact⟨_,h1⟩
 |dm ws=>obtain⟨vs,h1,h2⟩:=q;exact⟨_,h1⟩
 |dt ks ws=>
  obtain⟨xs,h1,_⟩:=q;rcases h1 with h1|⟨_,h1⟩<;>exact⟨_,h1⟩
theorem gw{i j:Nat}:Nat.blt i j=true↔i<j:=by unfold Nat.blt;rw[pX];exact Iff.rfl
theorem cy{i:Nat}{o:VO}(q:h.get i=aC o):i<h.n:=by unfold VH.get at q;split at q;rename_i z;exact gw.mp z;cases q
theorem Rel.at_(r:Rel K m h H){i:Nat}{o:VO}(q:h.get i=aC o):gv K m h.n H (m i) o:=by obtain⟨o',h1,h2⟩:=r.obj i (cy q);rw[q]at h1;cases h1;exact h2
theorem Rel.lst(r:Rel K m h H){i:Nat}{ws:List W}(q:h.get i=aC (.lst ws)):∃vs,H (m i)=aC (.lst vs)/\aF K m h.n H vs ws:=r.at_ q
theorem Rel.dk(r:Rel K m h H){i:Nat}{ws:List (Key×W)}(q:h.get i=aC (.dk ws)):∃vs,Rd H (m i) (.dK vs)/\aP K m h.n H vs ws:=r.at_ q
theorem Rel.dm(r:Rel K m h H){i:Nat}{ws:List (Key×W)}(q:h.get i=aC (.dm ws)):∃vs,H (m i)=aC (.dK vs)/\aP K m h.n H vs ws:=r.at_ q
theorem Rel.dt(r:Rel K m h H){i:Nat}{ks ws:List W}(q:h.get i=aC (.dt ks ws)):∃xs:DX,(H (m i)=aC (kE xs (m i))\/(xs=[]/\H (m i)=aC (.dK [])))/\aO dI ks=aC (xs.map (·.1))/\aF K m h.n H (xs.map λx=>.ref x.2.1) ks/\aF K m h.n H (xs.map λx=>x.2.2) ws:=r.at_ q
theorem jA{i:Nat}{o:VO}(hi:i<h.n):(h.new o).get i=h.get i:=by
 unfold VH.get VH.new;have h1:Nat.blt i (h.n+1)=true:=gw.mpr (xr hi);have h2:Nat.blt i h.n=true:=gw.mpr hi;simp only[h1,h2,bQ];have:h.n+1-1-i=(h.n-1-i)+1:=by lia
 rw[this];rfl
theorem iJ{o:VO}:(h.new o).get h.n=aC o:=by
 unfold VH.get VH.new;have h1:Nat.blt h.n (h.n+1)=true:=gw.mpr (je _);simp only[h1,bQ];have:h.n+1-1-h.n=0:=by lia
 rw[this];rfl
theorem Rel.alloc(r:Rel K m h H){p:ai}{o:VO}{u:HO}(hp:H p=aD)(hu:∀t,u≠.tup t)
 (ho:bP m h.n H (λi=>if i=h.n then p else m i) (h.n+1) (upd H p u)->gv K (λi=>if i=h.n then p else m i) (h.n+1) (upd H p u) p o) :
 bP m h.n H (λi=>if i=h.n then p else m i) (h.n+1) (upd H p u)/\Rel K (λi=>if i=h.n then p else m i) (h.new o) (upd H p u):=by
 have tr:∀i,i<h.n->m i≠p:=λi hi z=>by
  obtain⟨o',_,h2⟩:=r.obj i hi;obtain⟨u',h3⟩:=h2.some;rw[z,hp]at h3;cases h3
 have st:bP m h.n H (λi=>if i=h.n then p else m i) (h.n+1) (upd H p u):=by
  refine⟨nI _,λi hi=>by simp only[if_neg (fX hi)],λi hi hi2=>?_,λi j hi hi2 hj=>?_,λb vs q=>?_,λb o u q=>?_,λb o _ q=>?_⟩;have:i=h.n:=by lia
  subst this;simp only[bQ];exact hp;have:i=h.n:=by lia
  subst this;simp only[bQ,if_neg (fX hj)];exact(tr j hj).symm;rw[bW (gW q hp)];exact q;rw[bW (gW q hp)];exact q;rw[bW (gW q hp)];exact q
 refine⟨st,⟨λi hi=>?_,λi j hi hj z=>?_,?_⟩⟩;have hi:i<h.n+1:=hi;by_cases e:i=h.n;subst e;exact⟨o,iJ,by simp only[bQ];exact ho st⟩;have hl:i<h.n:=by lia
 obtain⟨o',h1,h2⟩:=r.obj i hl;refine⟨o',(jA hl).trans h1,?_⟩;simp only[if_neg e];exact gv.stp st (bW (tr i hl)) h2;have hi:i<h.n+1:=hi;have hj:j<h.n+1:=hj;by_cases e:i=h.n;by_cases e2:j=h.n;lia;simp only[if_pos e,if_neg e2]at z;exact absurd z.symm (tr j (by lia));by_cases e2:j=h.n;simp only[if_neg e,if_pos e2]at z;exact absurd z (tr i (by lia));simp only[if_neg e,if_neg e2]at z;exact r.inj i j (by lia) (by lia) z;show(o::h.os).length=h.n+1;rw[dj,r.len]
theorem VY(r:Rel K m h H){i:Nat}{o:VO}(hi:i<h.n):(h.set i o).get i=aC o:=by unfold VH.get VH.set;have h1:Nat.blt i h.n=true:=gw.mpr hi;simp only[h1,bQ];rw[sM];rw[r.len];lia
theorem k6{i j:Nat}{o:VO}(hi:i<h.n)(hj:j≠i):(h.set i o).get j=h.get j:=by
 unfold VH.get VH.set;by_cases h1:j<h.n;have h2:Nat.blt j h.n=true:=gw.mpr h1;simp only[h2,bQ];rw[xx];lia;have h2:Nat.blt j h.n=false:=by
  cases q:Nat.blt j h.n with|false=>rfl|true=>exact absurd (gw.mp q) h1
 simp only[h2,dh,cG]
theorem Rel.write(r:Rel K m h H){i:Nat}{o:VO}{u u0:HO}(hi:i<h.n)(h0:H (m i)=aC u0)(hn:∀t,u0≠.tup t)(hf:∀o t,u0≠.bI o t)
 (ho:bP m h.n H m h.n (upd H (m i) u)->gv K m h.n (upd H (m i) u) (m i) o) :
 bP m h.n H m h.n (upd H (m i) u)/\Rel K m (h.set i o) (upd H (m i) u):=by
 have st:bP m h.n H m h.n (upd H (m i) u):=by refine⟨aW _,λ_ _=>rfl,λj a b=>absurd b (jE.mpr a),λj k a b=>absurd b (jE.mpr a),λb vs q=>?_,λb o t q=>?_,λb o nb q=>?_⟩;rw[bW (cU q h0 (λz=>hn vs z.symm))];exact q;rw[bW (cU q h0 (λz=>hf o t z.symm))];exact q;rw[bW (nb i hi).symm];exact q
 refine⟨st,⟨λj hj=>?_,λa b ha hb=>r.inj a b ha hb,?_⟩⟩;have hj:j<h.n:=hj;by_cases e:j=i;subst e;exact⟨o,VY r hj,ho st⟩;obtain⟨o',h1,h2⟩:=r.obj j hj;exact⟨o',(k6 hi e).trans h1,gv.stp st (bW λz=>e (r.inj j i hj hi z)) h2⟩;show(h.os.set _ o).length=h.n;rw[xC,r.len]
theorem Rel.more(r:Rel K m h H){p:ai}{u:HO}(hp:H p=aD):bP m h.n H m h.n (upd H p u)/\Rel K m h (upd H p u):=by
 have st:bP m h.n H m h.n (upd H p u):=by refine⟨aW _,λ_ _=>rfl,λj a b=>absurd b (jE.mpr a),λj k a b=>absurd b (jE.mpr a),λb vs q=>?_,λb o t q=>?_,λb o nb q=>?_⟩;rw[bW (gW q hp)];exact q;rw[bW (gW q hp)];exact q;rw[bW (gW q hp)];exact q
 refine⟨st,⟨λj hj=>?_,r.inj,r.len⟩⟩;obtain⟨o',h1,h2⟩:=r.obj j hj;obtain⟨u',h3⟩:=h2.some;exact⟨o',h1,gv.stp st (bW (gW h3 hp)) h2⟩
end
theorem NU{α β:Type}{r:Res α}{f:α->VH->Res β}{b:β}{h':VH}(q:r.bind f=.ok b h'):∃a h1,r=.ok a h1/\f a h1=.ok b h':=by
 cases r with|ok a h=>exact⟨a,h,rfl,q⟩|ex x h=>cases q|no=>cases q
theorem bH{α β:Type}{r:Res α}{f:α->VH->Res β}{w:β}{h':VH}{P:Prop}(e:r.bind f=.ok w h')(k:∀x h1,r=.ok x h1->f x h1=.ok w h'->P):P:=by obtain⟨x,h1,a,b⟩:=NU e;exact k x h1 a b
theorem of_ok{α:Type}{o:Option α}{h h':VH}{a:α}(q:Res.of o h=.ok a h'):o=aC a/\h'=h:=by
 cases o with|none=>cases q|some b=>cases q;exact⟨rfl,rfl⟩
structure Fr(K:aK)(m:Nat->ai)(n:Nat)(H:Hp)(σ:L2.St)(ρ:En):Prop where
 len:σ.length=ρ.length
 val:∀(i:Nat)(w:W),ρ[i]?=aC (aC w)->∃v,σ[i]?=aC (aC v)/\aJ K m n H v w
noncomputable abbrev FE:=En->VH->Res W
noncomputable abbrev FS:=En->VH->Res Fl
noncomputable def fZ(K:aK)(f:FE):TE:=λσ H Q=>∃ρ h m w h',Fr K m h.n H σ ρ/\Rel K m h H/\f ρ h=.ok w h'/\
 ∀v H' m',bP m h.n H m' h'.n H'->Rel K m' h' H'->aJ K m' h'.n H' v w->Q v H'
noncomputable def dD(K:aK)(f:FE):TT:=λσ H Q=>∃ρ h m b h',Fr K m h.n H σ ρ/\Rel K m h H/\f ρ h=.ok (.bl b) h'/\
 ∀H' m',bP m h.n H m' h'.n H'->Rel K m' h' H'->Q b H'
noncomputable def mX(K:aK)(f:FE):TA:=λσ H Q=>∃ρ h m ws h',Fr K m h.n H σ ρ/\Rel K m h H/\f ρ h=.ok (.tup ws) h'/\
 ∀vs H' m',bP m h.n H m' h'.n H'->Rel K m' h' H'->aF K m' h'.n H' vs ws->Q vs H'
section
variable{K:aK}{m:Nat->ai}{σ:L2.St}{H:Hp}{P:Prop}{fa:FE}{ρ:En}{h h':VH}
theorem fZ.el{Q:VK}(q:fZ K fa σ H Q)(k:∀ρ h m w h',Fr K m h.n H σ ρ->Rel K m h H->fa ρ h=.ok w h'->(∀v H' m',bP m h.n H m' h'.n H'->Rel K m' h' H'->aJ K m' h'.n H' v w->Q v H')->P):P:=by obtain⟨ρ,h,m,w,h',f,r,e,k'⟩:=q;exact k ρ h m w h' f r e k'
theorem fZ.mk{Q:VK}{w:W}(f:Fr K m h.n H σ ρ)(r:Rel K m h H)(e:fa ρ h=.ok w h')(k:∀v H' m',bP m h.n H m' h'.n H'->Rel K m' h' H'->aJ K m' h'.n H' v w->Q v H'):fZ K fa σ H Q:=⟨ρ,h,m,w,h',f,r,e,k⟩
theorem dD.el{Q:Bool->Hp->Prop}(q:dD K fa σ H Q)(k:∀ρ h m b h',Fr K m h.n H σ ρ->Rel K m h H->fa ρ h=.ok (.bl b) h'->(∀H' m',bP m h.n H m' h'.n H'->Rel K m' h' H'->Q b H')->P):P:=by obtain⟨ρ,h,m,w,h',f,r,e,k'⟩:=q;exact k ρ h m w h' f r e k'
theorem dD.mk{Q:Bool->Hp->Prop}{b:Bool}(f:Fr K m h.n H σ ρ)(r:Rel K m h H)(e:fa ρ h=.ok (.bl b) h')(k:∀H' m',bP m h.n H m' h'.n H'->Rel K m' h' H'->Q b H'):dD K fa σ H Q:=⟨ρ,h,m,b,h',f,r,e,k⟩
theorem mX.el{Q:List V->Hp->Prop}(q:mX K fa σ H Q)(k:∀ρ h m ws h',Fr K m h.n H σ ρ->Rel K m h H->fa ρ h=.ok (.tup ws) h'->(∀vs H' m',bP m h.n H m' h'.n H'->Rel K m' h' H'->aF K m' h'.n H' vs ws->Q vs H')->P):P:=by obtain⟨ρ,h,m,w,h',f,r,e,k'⟩:=q;exact k ρ h m w h' f r e k'
theorem mX.mk{Q:List V->Hp->Prop}{ws:List W}(f:Fr K m h.n H σ ρ)(r:Rel K m h H)(e:fa ρ h=.ok (.tup ws) h')(k:∀vs H' m',bP m h.n H m' h'.n H'->Rel K m' h' H'->aF K m' h'.n H' vs ws->Q vs H'):mX K fa σ H Q:=⟨ρ,h,m,ws,h',f,r,e,k⟩
end
noncomputable abbrev SE(X:Cx)(e:aq)(f:FE):Prop:=PE X e (fZ X.K f)
noncomputable abbrev ST(X:Cx)(e:aq)(f:FE):Prop:=PT X e (dD X.K f)
noncomputable abbrev SW(X:Cx)(e:aq)(f:FE):Prop:=PW X e (dD X.K f)
noncomputable abbrev SA(X:Cx)(es:List aq)(f:FE):Prop:=PA X es (mX X.K f)
theorem _root_.L2.PE.imp{X:Cx}{e:aq}{t t':TE}(h:PE X e t)(k:∀σ H Q,t' σ H Q->t σ H Q):PE X e t':=λpins s σ H Q I q=>h pins s σ H Q I (k σ H Q q)
theorem _root_.L2.PT.imp{X:Cx}{e:aq}{t t':TT}(h:PT X e t)(k:∀σ H Q,t' σ H Q->t σ H Q):PT X e t':=λpins s σ H Q I q=>h pins s σ H Q I (k σ H Q q)
theorem _root_.L2.PW.imp{X:Cx}{e:aq}{t t':TT}(h:PW X e t)(k:∀σ H Q,t' σ H Q->t σ H Q):PW X e t':=λwh pins s σ H Q I q=>h wh pins s σ H Q I (k σ H Q q)
theorem _root_.L2.PA.imp{X:Cx}{es:List aq}{t t':TA}(h:PA X es t)(k:∀σ H Q,t' σ H Q->t σ H Q):PA X es t':=λp pins s σ H Q I q=>h p pins s σ H Q I (k σ H Q q)
theorem _root_.L2.PS.imp{X:Cx}{st:au}{t t':TS}(h:PS X st t)(k:∀D σ H,t' D σ H->t D σ H):PS X st t':=λpins s σ H D I q=>h pins s σ H D I (k D σ H q)
theorem _root_.L2.kB.imp{X:Cx}{st:List au}{t t':TS}(h:kB X st t)(k:∀D σ H,t' D σ H->t D σ H):kB X st t':=λpins s σ H D I q=>h pins s σ H D I (k D σ H q)
section
variable{K:aK}{m m':Nat->ai}{n n':Nat}{h h':VH}{H H':Hp}{σ:L2.St}{ρ:En}
theorem Fr.stp(f:Fr K m n H σ ρ)(s:bP m n H m' n' H'):Fr K m' n' H' σ ρ:=⟨f.len,λi w e=>let⟨v,h1,h2⟩:=f.val i w e;⟨v,h1,h2.stp s⟩⟩
theorem Fr.set(f:Fr K m n H σ ρ){v:V}{w:W}(q:aJ K m n H v w)(i:Nat):Fr K m n H (σ.set i (aC v)) (ρ.set i (aC w)):=by refine⟨by rw[xC,xC];exact f.len,λj w' e=>?_⟩;by_cases hj:i=j;subst hj;by_cases hl:i<ρ.length;rw[sM hl]at e;cases e;exact⟨v,by rw[sM (by rw[f.len];exact hl)],q⟩;rw[xw (by rw[xC];lia)]at e;cases e;rw[xx hj]at e;obtain⟨v',h1,h2⟩:=f.val j w' e;exact⟨v',by rw[xx hj];exact h1,h2⟩
noncomputable def aM(K:aK)(m:Nat->ai)(n:Nat)(H:Hp)(w:W)(h':VH)(Q:VK):Prop:=∀v H' m',bP m n H m' h'.n H'->Rel K m' h' H'->aJ K m' h'.n H' v w->Q v H'
theorem aM.here{w:W}{Q:VK}(k:aM K m h.n H w h Q)(r:Rel K m h H){v:V}(q:aJ K m h.n H v w):Q v H:=k v H m .refl r q
theorem aM.list{ws:List W}{vs:List V}{Q:VK}(k:aM K m h.n H (.ref h.n) (h.new (.lst ws)) Q)(r:Rel K m h H)(q:aF K m h.n H vs ws){p:ai}(hp:H p=aD):Q (.ref p) (upd H p (.lst vs)):=by obtain⟨st,r'⟩:=r.alloc (o:=.lst ws) (u:=.lst vs) hp (λ_ z=>nomatch z) (λst=>⟨vs,gn,q.stp st⟩);refine k _ _ _ st r' ?_;have:aJ K (λi=>if i=h.n then p else m i) (h.n+1) (upd H p (.lst vs)) (.ref ((λi=>if i=h.n then p else m i) h.n)) (.ref h.n):=.ref (je _);simp only[bQ]at this;exact this
theorem aM.A3{ks ws:List W}{xs:DX}{u:HO}{Q:VK}(k:aM K m h.n H (.ref h.n) (h.new (.dt ks ws)) Q)(r:Rel K m h H){p:ai}(hp:H p=aD)(hu:u=kE xs p\/(xs=[]/\u=.dK []))(q0:aO dI ks=aC (xs.map (·.1)))(q1:aF K m h.n H (xs.map λx=>.ref x.2.1) ks)(q2:aF K m h.n H (xs.map λx=>x.2.2) ws):Q (.ref p) (upd H p u):=by obtain⟨st,r'⟩:=r.alloc (o:=.dt ks ws) (u:=u) hp (λt z=>by rcases hu with e|⟨_,e⟩<;> (rw[e]at z;exact nomatch z)) (λst=>⟨xs,hu.imp (λe=>by rw[gn,e]) λ⟨a,e⟩=>⟨a,by rw[gn,e]⟩,q0,q1.stp st,q2.stp st⟩);refine k _ _ _ st r' ?_;have:aJ K (λi=>if i=h.n then p else m i) (h.n+1) (upd H p u) (.ref ((λi=>if i=h.n then p else m i) h.n)) (.ref h.n):=.ref (je _);simp only[bQ]at this;exact this
theorem aM.tuple{ws:List W}{vs:List V}{Q:VK}(k:aM K m h.n H (.tup ws) h Q)(r:Rel K m h H)(q:aF K m h.n H vs ws){p:ai}(hp:H p=aD):Q (.ref p) (upd H p (.tup vs)):=by obtain⟨st,r'⟩:=r.more (u:=.tup vs) hp;exact k _ _ _ st r' (.tup (bU.of gn) (q.stp st))
theorem NV{fa:FE}{g:W->VH->Res W}{G:V->Hp->VK->Prop}
 (hG:∀(m:Nat->ai)(h:VH)(H:Hp)(v:V)(x w:W)(h':VH)(Q:VK),Rel K m h H->aJ K m h.n H v x->g x h=.ok w h'->aM K m h.n H w h' Q->G v H Q) {Q:VK}
 (q:fZ K (λρ h=>(fa ρ h).bind λx h=>g x h) σ H Q):fZ K fa σ H λv H1=>G v H1 Q:=by
 refine q.el λρ h m w h' f r e k=>?_;refine bH e λx h1 e1 e2=>?_;exact(.mk f r e1 λv H1 m1 s1 r1 q1=>hG m1 h1 H1 v x w h' Q r1 q1 e2 λv' H' m' s' r' q'=>k v' H' m' (s1.trans s') r' q')
theorem Ez{fa fb:FE}{g:W->W->VH->Res W}{G:V->V->Hp->VK->Prop}
 (hG:∀(m:Nat->ai)(h:VH)(H:Hp)(v u:V)(x y w:W)(h':VH)(Q:VK),Rel K m h H->aJ K m h.n H v x->aJ K m h.n H u y->g x y h=.ok w h'->aM K m h.n H w h' Q->G v u H Q) {Q:VK}
 (q:fZ K (λρ h=>(fa ρ h).bind λx h=>(fb ρ h).bind λy h=>g x y h) σ H Q):fZ K fa σ H λv H1=>fZ K fb σ H1 λu H2=>G v u H2 Q:=by
 refine q.el λρ h m w h' f r e k=>?_;refine bH e λx h1 e1 e2=>?_;refine bH e2 λy h2 e3 e4=>?_;refine(.mk f r e1 λv H1 m1 s1 r1 q1=>(.mk (f.stp s1) r1 e3 λu H2 m2 s2 r2 q2=>?_));exact hG m2 h2 H2 v u x y w h' Q r2 (q1.stp s2) q2 e4 λv' H' m' s' r' q'=>k v' H' m' ((s1.trans s2).trans s') r' q'
theorem vI{fa:FE}{g:List W->VH->Res W}{G:List V->Hp->VK->Prop}
 (hG:∀(m:Nat->ai)(h:VH)(H:Hp)(vs:List V)(xs:List W)(w:W)(h':VH)(Q:VK),Rel K m h H->aF K m h.n H vs xs->g xs h=.ok w h'->aM K m h.n H w h' Q->G vs H Q) {Q:VK}
 (q:fZ K (λρ h=>(fa ρ h).bind λy h=>match y with|.tup ys=>g ys h|_=>.no) σ H Q):mX K fa σ H λvs H1=>G vs H1 Q:=by
 refine q.el λρ h m w h' f r e k=>?_;refine bH e λx h1 e1 e2=>?_;cases x with|tup ys=>exact(.mk f r e1 λvs H1 m1 s1 r1 q1=>hG m1 h1 H1 vs ys w h' Q r1 q1 e2 λv' H' m' s' r' q'=>k v' H' m' (s1.trans s') r' q')|_=>cases e2
theorem NW{f:FE}{Q:Bool->Hp->Prop}(q:dD K f σ H Q):fZ K f σ H λx H'=>∃k,x=.bl k/\Q k H':=by refine q.el λρ h m b h' f r e k=>?_;exact(.mk f r e λv H' m' s' r' q'=>by cases q';exact⟨b,rfl,k H' m' s' r'⟩)
end
section
variable{X:Cx}{a b c e:aq}{es:List aq}{fa fb fc:FE}{pos:Pos}
theorem VZ{i:Nat}{x:Str}{pos:Pos}(hN:X.N[i]?=aC x)(hv:xJ X.env.scope x)(hd:(x==("__debug__" : Str))=false)(hcd:(x==("__classdict__" : Str))=false):SE X (.Name x pos) (λρ h=>.of (ρ[i]?).join h):=
 (Rz hN hv hd hcd).imp λσ H Q z9=>z9.el λρ h m w h' f r e k=>by
   obtain⟨e1,e2⟩:=of_ok e;subst e2;have e3:ρ[i]?=aC (aC w):=by
    cases q:ρ[i]? with|none=>rw[q]at e1;cases e1|some o=>rw[q]at e1;rw[<-e1];rfl
   obtain⟨v,h1,h2⟩:=f.val i w e3;exact⟨v,h1,k v H m .refl r h2⟩
theorem A4{w:W}{v:V}(h:PE X e (tC v))(hv:∀m n H,aJ X.K m n H v w):SE X e (λ_ h=>.ok w h):=
 h.imp λσ H Q z9=>z9.el λρ h m w h' f r e k=>by cases e;exact k v H m .refl r (hv m h.n H)
theorem V0{i j pos}:SE X (.Constant (.int i) j pos) (λ_ h=>.ok (.int i) h):=A4 RA λ_ _ _=>.int i
theorem A5{i j pos}:SE X (.Constant (.bool i) j pos) (λ_ h=>.ok (.bl i) h):=A4 zp λ_ _ _=>.bl i
theorem V1{j pos}:SE X (.Constant .none j pos) (λ_ h=>.ok .aL h):=A4 RB λ_ _ _=>.aL
theorem V2{i j pos}:SE X (.Constant (.str i) j pos) (λ_ h=>.ok (.str i) h):=A4 RC λ_ _ _=>.str i
theorem A6:SA X [] (λ_ h=>.ok (.tup []) h):=DU.imp λσ H Q z9=>z9.el λρ h m ws h' f r e k=>by cases e;exact k [] H m .refl r .nil
theorem vJ(ha:SE X e fa)(hr:SA X es fb)(hs:starEach (e::es) X.env=(false,eval e X.env)::starEach es X.env) :
 SA X (e::es) (λρ h=>(fa ρ h).bind λx h=>(fb ρ h).bind λy h=>match y with|.tup ys=>.ok (.tup (x::ys)) h|_=>.no):=
 (zS ha hr hs).imp λσ H Q z9=>z9.el λρ h m ws h' f r e k=>by
   refine bH e λx h1 e1 e2=>?_;refine bH e2 λy h2 e3 e4=>?_;cases y with
   |tup ys=>
    cases e4;exact(.mk f r e1 λv H1 m1 s1 r1 q1=>(.mk (f.stp s1) r1 e3 λvs H2 m2 s2 r2 q2=>k _ H2 m2 (s1.trans s2) r2 (.cons (q1.stp s2) q2)))
   |_=>cases e4
theorem NX{k:Nat}(h:Nat.ble k 1000):k<=sizeLine:=sI (M4 (jD h))
theorem V3{x1:Nat}(ha:SA X es fa):SE X (.Tuple es x1 pos) (λρ h=>(fa ρ h).bind λy h=>match y with|.tup ys=>(if Nat.ble ys.length 1000 then .ok (.tup ys) h else .no)|_=>.no):=
 (S4 ha).imp λσ H Q q=>vI (g:=λys h=>if Nat.ble ys.length 1000 then .ok (.tup ys) h else .no) (G:=λxs H1 Q=>xs.length<=sizeLine/\∀p,H1 p=aD->Q (.ref p) (upd H1 p (.tup xs)))
   (λm h H vs xs w h' Q r q e k=>by
     split at e;rename_i hl;cases e;exact⟨by rw[q.length];exact NX hl,λp hp=>aM.tuple k r q hp⟩;cases e) q
theorem V4(ha:SA X es fa):SE X (.List es pos) (λρ h=>(fa ρ h).bind λy h=>match y with|.tup ys=>(if Nat.ble ys.length 1000 then .ok (.ref h.n) (h.new (.lst ys))else .no)|_=>.no):=
 (S6 ha).imp λσ H Q q=>vI (g:=λys h=>if Nat.ble ys.length 1000 then .ok (.ref h.n) (h.new (.lst ys))else .no) (G:=λxs H1 Q=>xs.length<=sizeLine/\∀p,H1 p=aD->Q (.ref p) (upd H1 p (.lst xs)))
   (λm h H vs xs w h' Q r q e k=>by
     split at e;rename_i hl;cases e;exact⟨by rw[q.length];exact NX hl,λp hp=>aM.list k r q hp⟩;cases e) q
noncomputable def A7(K:aK)(r:R2)(g:W->W->VH->Res W):Prop:=∀(m:Nat->ai) (h:VH) (H:Hp) (v u:V) (x y w:W) (h':VH) (Q:VK),Rel K m h H->aJ K m h.n H v x->aJ K m h.n H u y->g x y h=.ok w h'->aM K m h.n H w h' Q->r v u H Q
theorem A8{O:Operator}{r:R2}{g:W->W->VH->Res W}(ho:cH X (binaryOp O) r)(hg:A7 X.K r g)(ha:SE X a fa)(hb:SE X b fb):SE X (.BinOp a O b pos) (λρ h=>(fa ρ h).bind λx h=>(fb ρ h).bind λy h=>g x y h):=
 (zJ ho ha hb).imp λσ H Q q=>Ez (G:=r) hg q
noncomputable def A9:Operator->Option Op|.Add=>aC .add|.Sub=>aC .sub|.Mult=>aC .mul|.FloorDiv=>aC .fdiv|.Mod=>aC .mod|.Pow=>aC .pow|_=>aD
noncomputable def cI:Op->Int->Int->Prop|.mul=>mO|.fdiv=>ql|.mod=>λ_ j=>0<j|.shl=>u7|.pow=>u7|_=>λ_ _=>True
noncomputable def gI:Op->Int->Int->Int|.add=>(· + ·)|.sub=>(· - ·)|.mul=>(· * ·)|.fdiv=>(· / ·)|.mod=>(· % ·)|.shl=>λi j=>i*2 ^ j.toNat|.pow=>λi j=>i ^ j.toNat
noncomputable def rX(K:aK):Op->R2|.add=>λx y H Q=>lF K x y H Q\/Nx K x y H Q\/Ag x y H Q|.mul=>λx y H Q=>tK K x y H Q\/Ah x y H Q|_=>λ_ _ _ _=>False
noncomputable def rB(K:aK)(o:Op):R2:=λx y H Q=>rI (cI o) (λi j=>.int (gI o i j)) x y H Q\/rX K o x y H Q
theorem xX{f:af->af->Sem af}{r r':R2}(h:cH X f r)(k:∀x y H Q,r' x y H Q->r x y H Q):cH X f r':=λpins s σ H x y v u Q I rx ry q=>h pins s σ H x y v u Q I rx ry (k _ _ _ _ q)
theorem Ba{O:Operator}{o:Op}(e:A9 O=aC o):cH X (binaryOp O) (rB X.K o):=by
 have tr:∀{g:Int->Int->V}{x y H Q},rI (λ_ _=>True) g x y H Q->mL g x y H Q:=λ⟨i,j,h1,h2,_,h3⟩=>⟨i,j,h1,h2,h3⟩
 cases O<;>cases e;exact xX (So.or (Tq.or (UI.or TV))) λx y H Q q=>q.elim (λz=>.inl (tr z)) .inr;exact xX Sq λx y H Q q=>q.elim (λz=>tr z) λz=>z.elim;exact xX (Ss.or (UH.or TX)) λx y H Q q=>q;exact xX Sv λx y H Q q=>q.elim id λz=>z.elim;exact xX Sw λx y H Q q=>q.elim id λz=>z.elim;exact xX Su λx y H Q q=>q.elim id λz=>z.elim
theorem NY{i:Int}(h:qK i):-(2 ^ 64)<i/\i<2 ^ 64:=by unfold qK at h;rw[bD]at h;exact⟨jc h.1,jc h.2⟩
theorem HP{o:Op}{i j z:Int}(e:dU o i j=aC z):cI o i j/\z=gI o i j:=by cases o<;>simp only[dU]at e;cases e;exact⟨trivial,rfl⟩;cases e;exact⟨trivial,rfl⟩;split at e;rename_i hc;cases e;rw[pA]at hc;exact⟨hc.elim (λq=>.inl (NY q)) (λq=>.inr (NY q)),rfl⟩;cases e;split at e;rename_i hc;cases e;rw[bD]at hc;exact⟨⟨jc hc.1,jc hc.2⟩,rfl⟩;cases e;split at e;rename_i hc;cases e;exact⟨(jc hc:0<j),rfl⟩;cases e;split at e;rename_i hc;cases e;rw[bD,bD]at hc;exact⟨⟨jc hc.1.1,jc hc.1.2,jc hc.2⟩,rfl⟩;cases e;split at e;rename_i hc;cases e;rw[bD,bD]at hc;exact⟨⟨jc hc.1.1,jc hc.1.2,jc hc.2⟩,rfl⟩;cases e
theorem vK{i:Int}(h:fits i):-(2 ^ 62)<=i/\i<2 ^ 62:=by unfold fits at h;rw[bD]at h;exact⟨jc h.1,jc h.2⟩
theorem NZ{o:Op}{xs zs:List W}{k:Int}(e:jm o xs k=aC zs):o=.mul/\(-(2 ^ 62)<=k/\k<2 ^ 62)/\xs.length*k.toNat<=sizeLine/\zs=(bE k.toNat xs).flatten:=by unfold jm at e;split at e;split at e;rename_i hc;cases e;rw[bD]at hc;exact⟨rfl,vK hc.1,jD hc.2,rfl⟩;cases e;cases e
theorem aF.rep{K:aK}{m:Nat->ai}{n:Nat}{H:Hp}{vs:List V}{ws:List W}(q:aF K m n H vs ws):∀k:Nat,aF K m n H (bE k vs).flatten (bE k ws).flatten
 |0=>.nil
 |k+1=>by
  rw[nq,nq,sO,sO];exact q.append (aF.rep q k)
theorem V5{K:aK}{m:Nat->ai}{n:Nat}{H:Hp}{vs:List V}{ws:List W}(q:aF K m n H vs ws):vs.isEmpty=ws.isEmpty:=by cases q<;>rfl
theorem V6{ws:List W}{k:Int}(h:(ws.isEmpty||k==1)):(bE k.toNat ws).flatten=ws:=by
 rw[pA]at h;rcases h with h|h
 have:ws=[]:=by simpa using h
 subst this;induction k.toNat with|zero=>rfl|succ j ih=>rw[nq,sO,ih];rfl
 have:k=1:=by simpa using h
 subst this;show(bE 1 ws).flatten=ws;simp
theorem V7{K:aK}(o:Op):A7 K (rB K o) (eU o):=by
 intro m h H v u x y w h' Q r qv qu e k;unfold eU at e;split at e;rename_i i j;obtain⟨e,rfl⟩:=of_ok e;cases qv;cases qu;cases q:dU o i j with
 |none=>rw[q]at e;cases e
 |some z=>
  rw[q]at e;cases e;obtain⟨h1,rfl⟩:=HP q;exact .inl ⟨i,j,rfl,rfl,h1,aM.here k r (.int _)⟩
 .rename_i xs ys
  obtain⟨e,rfl⟩:=of_ok e;cases q:Ey o xs ys with
  |none=>rw[q]at e;cases e
  |some zs=>
   rw[q]at e;cases e;cases o<;>simp only[Ey]at q;split at q;rename_i hc;cases q;cases qv with
   |tup qa ra=>
    cases qu with
    |tup qb rb=>
     rename_i a va b vb;have hl:=jD hc;cases xs with
     |nil=>
      cases ra;exact .inr (.inr (.inl ⟨a,b,vb,rfl,rfl,qa,qb,aM.here k r (.tup qb rb)⟩))
     |cons x0 AM=>
      refine .inr (.inl ⟨a,b,va,vb,rfl,rfl,qa,qb,λz=>?_,by rw[ra.length,rb.length];exact hl,λz=>?_,λ_ p hp=>aM.tuple k r (ra.append rb) hp⟩);subst z;cases ra;subst z;cases rb;rw[nt]at k;exact aM.here k r (.tup qa ra)
   cases q
   all_goals cases q
 rename_i xs kk;obtain⟨e,rfl⟩:=of_ok e;cases q:jm o xs kk with
 |none=>rw[q]at e;cases e
 |some zs=>
  rw[q]at e;cases e;obtain⟨rfl,⟨k1,k2⟩,hz,rfl⟩:=NZ q;cases qu;cases qv with
  |tup qa ra=>
   rename_i a va;refine .inr (.inl ⟨a,kk,va,rfl,rfl,qa,k1,k2,by rw[ra.length];exact hz,λz=>?_,λz p hp=>aM.tuple k r (ra.rep _) hp⟩);rw[V5 ra]at z;rw[V6 z]at k;exact aM.here k r (.tup qa ra)
 rename_i i kk;split at e;rename_i xs hx;split at e;rename_i zs q;cases e;obtain⟨rfl,⟨k1,k2⟩,hz,rfl⟩:=NZ q;obtain⟨va,pa,ra⟩:=r.lst hx;cases qv;cases qu;exact .inr (.inr ⟨m i,kk,va,rfl,rfl,pa,by lia,by lia,by rw[ra.length];exact hz,λp hp=>aM.list k r (ra.rep _) hp⟩);cases e;cases e
 .rename_i i j
  split at e
  .rename_i xs ys hx hy
   split at e
   .rename_i zs q
    cases e;cases o<;>simp only[NS]at q;split at q;rename_i hc;cases q;obtain⟨va,pa,ra⟩:=r.lst hx;obtain⟨vb,pb,rb⟩:=r.lst hy;cases qv;cases qu;exact .inr (.inr (.inr ⟨m i,m j,va,vb,rfl,rfl,pa,pb,by rw[ra.length,rb.length];exact jD hc,λp hp=>aM.list k r (ra.append rb) hp⟩));cases q
    all_goals cases q
   cases e
  cases e
 cases e
end
section
variable{K:aK}{m:Nat->ai}{h:VH}{H:Hp}
theorem xY{f:W->Option aB}(ih:∀(w:W) (d:aB) (v:V),f w=aC d->aJ K m h.n H v w->Rp K (λ_=>False) H v d):∀{ws:List W} {ds:List aB} {vs:List V},aO f ws=aC ds->aF K m h.n H vs ws->jO K (λ_=>False) H vs ds
 |[],ds,_,e,.nil=>by cases e;exact .nil
 |w::ws,ds,_,e,.cons q r=>by
  unfold aO at e;split at e;rename_i d hd;split at e;rename_i bs hb;cases e;exact .cons (ih w d _ hd q) (xY ih hb r);cases e;cases e
theorem fk(r:Rel K m h H):∀(n:Nat) (w:W) (d:aB) (v:V),toD h n w=aC d->aJ K m h.n H v w->Rp K (λ_=>False) H v d
 |0,_,_,_,e,_=>by cases e
 |n+1,w,d,v,e,q=>by
  cases q with
  |aL=>cases e;exact .aL
  |bl b=>cases e;exact .bl b
  |int b=>cases e;exact .int b
  |str b=>cases e;exact .str b
  | @tup a vs ws sq rs=>
   simp only[toD]at e;cases z:aO (toD h n) ws with|none=>rw[z]at e;cases e|some ds=>rw[z]at e;cases e;exact .tup sq (λz=>z) (xY (fk r n) z rs)
  | @fz a vs ws sq rs=>
   simp only[toD]at e;cases z:aO (toD h n) ws with|none=>rw[z]at e;cases e|some ds=>rw[z]at e;cases e;exact .lst sq.sq (λz=>z) (xY (fk r n) z rs)
  | @ref i hi=>
   simp only[toD]at e;cases g:h.get i with
   |none=>rw[g]at e;cases e
   |some o=>
    rw[g]at e;cases o with
    |dk _=>cases e
    |dm _=>cases e
    |dt _ _=>cases e
    |lst ws=>
     obtain⟨vs,h1,h2⟩:=r.lst g;simp only at e;cases z:aO (toD h n) ws with|none=>rw[z]at e;cases e|some ds=>rw[z]at e;cases e;exact .lst (cC.of h1) (λz=>z) (xY (fk r n) z h2)
theorem N1(r:Rel K m h H){x y:W}{v u:V}{b:Bool}(e:ck h x y=aC b)(qv:aJ K m h.n H v x)(qu:aJ K m h.n H u y) :
 ∃d e',Rp K (λ_=>False) H v d/\Rp K (λ_=>False) H u e'/\SeqAt.shaped d=true/\SeqAt.shaped e'=true/\b=PyData.eqv d e':=by
 unfold ck at e;split at e;rename_i d e' h1 h2;split at e;rename_i hc;cases e;rw[bD]at hc;exact⟨d,e',fk r _ _ _ _ h1 qv,fk r _ _ _ _ h2 qu,hc.1,hc.2,rfl⟩;cases e;cases e
end
theorem xZ{K:aK}{m:Nat->ai}{h:VH}{H:Hp}{v:V}{w:W}{ws:List W}(r:Rel K m h H)(q:aJ K m h.n H v w)(e:aS h w=aC ws):∃p vs,v=.ref p/\(cC K H p vs\/bU K H p vs)/\aF K m h.n H vs ws:=by
 cases q<;>try cases e
 exact⟨_,_,rfl,.inr ‹_›,‹_›⟩;rename_i q _;exact⟨_,_,rfl,.inl q.sq,‹_›⟩;rename_i i hi;simp only[aS]at e;cases g:h.get i with
 |none=>rw[g]at e;cases e
 |some o=>
  rw[g]at e;cases o with
  |dk _=>cases e
  |dm _=>cases e
  |dt _ _=>cases e
  |lst ws=>
   cases e;obtain⟨vs,h1,h2⟩:=r.lst g;exact⟨_,vs,rfl,.inl (cC.of h1),h2⟩
theorem HQ{K:aK}{m:Nat->ai}{n:Nat}{H:Hp}:∀{vs:List V} {ws:List W} {is:List Int},aF K m n H vs ws->aO intD ws=aC is->vs=is.map .int
 |_,_,_,.nil,e=>by cases e;rfl
 |_,_,_,.cons (w:=w) q r,e=>by
  simp only[aO]at e;cases q<;>try cases e
  rename_i i _ ws _;simp only[intD]at e;cases z:aO intD ws with|none=>rw[z]at e;cases e|some js=>rw[z]at e;cases e;rw[cu,HQ r z]
theorem V8{K:aK}{m:Nat->ai}{h:VH}{H:Hp}(r:Rel K m h H){x y:W}{v u:V}{b:Bool}(e:AY h x y=aC b)(qv:aJ K m h.n H v x)(qu:aJ K m h.n H u y) :
 ∃d e' n,Rp K (λ_=>False) H v d/\Rp K (λ_=>False) H u e'/\SeqAt.shaped d=true/\SeqAt.shaped e'=true/\L2.iI n d e'=aC b:=by
 unfold AY at e;split at e;rename_i d e' h1 h2;split at e;rename_i hc;rw[bD]at hc;exact⟨d,e',24,fk r _ _ _ _ h1 qv,fk r _ _ _ _ h2 qu,hc.1,hc.2,e⟩;cases e;cases e
theorem x8{K:aK}{m:Nat->ai}{n:Nat}{H:Hp}{v:V}{w:W}{k:DK}(q:aJ K m n H v w)(e:dI w=aC k):∃b,v=.ref b/\cg K H k b:=by
 unfold dI at e;split at e;rename_i ws;cases z:aO intD ws with
 |none=>rw[z]at e;cases e
 |some is=>
  rw[z]at e;cases e;cases q with
  | @tup b vs _ sq rs=>
   cases rs with
   |cons q1 rs=>
    cases rs with
    |cons q2 rs=>
     cases rs;cases q1;cases q2 with
     | @tup c us _ HR HS=>
      refine⟨b,rfl,c,sq,?_⟩;rw[<-HQ HS z];exact HR
 rename_i i ws;cases z:aO intD ws with
 |none=>rw[z]at e;cases e
 |some is=>
  rw[z]at e;cases e;cases q with
  | @tup b vs _ sq rs=>
   cases rs with
   |cons q1 rs=>
    cases rs with
    |cons q2 rs=>
     cases rs;cases q1;cases q2 with
     | @tup c us _ HR HS=>
      refine⟨b,rfl,c,sq,?_⟩;rw[<-HQ HS z];exact HR
 cases e
theorem tQ{K:aK}{m:Nat->ai}{n:Nat}{H:Hp}:∀{xs:DX} {ks:List W},aO dI ks=aC (xs.map (·.1))->aF K m n H (xs.map λx=>.ref x.2.1) ks->∀p∈xs,cg K H p.1 p.2.1
 |[],_,_,_,p,hp=>nomatch hp
 |x::xs,ks,e,r,p,hp=>by
  rw[cu]at r;obtain⟨w,ks,rfl,q,r⟩:∃w ks',ks=w::ks'/\aJ K m n H (.ref x.2.1) w/\aF K m n H (xs.map λx=>.ref x.2.1) ks':=by cases r with|cons q r=>exact⟨_,_,rfl,q,r⟩
  simp only[aO]at e;cases z:dI w with
  |none=>rw[z]at e;cases e
  |some k=>
   rw[z]at e;simp only at e;cases z2:aO dI ks with
   |none=>rw[z2]at e;cases e
   |some js=>
    rw[z2]at e;simp only[cu,nP,List.cons.injEq]at e;rcases eG.mp hp with rfl|hp
    obtain⟨b,e1,e2⟩:=x8 q z;cases e1;rw[<-e.1];exact e2;exact tQ (by rw[z2,e.2]) r p hp
theorem iu{K:aK}{m:Nat->ai}{n:Nat}{H:Hp}{a:ai}{xs:DX}{ks:List W}(h:H a=aC (kE xs a)\/(xs=[]/\H a=aC (.dK [])))(e:aO dI ks=aC (xs.map (·.1)))(q:aF K m n H (xs.map λx=>.ref x.2.1) ks):DT K H a xs:=
 h.imp (λz=>⟨z,tQ e q⟩) λ⟨z,y⟩=>⟨z,.inl y⟩
theorem x9{K:aK}{m:Nat->ai}{n:Nat}{H:Hp}:∀{xs:DX} {ks ws:List W} (k:DK),aO dI ks=aC (xs.map (·.1))->aF K m n H (xs.map λx=>x.2.2) ws->(bC xs k=aD/\ek ks ws k=aD)\/∃p w,bC xs k=aC p/\ek ks ws k=aC w/\aJ K m n H p.2 w
 |[],ks,ws,k,e,r=>by
  cases ks with
  |nil=>exact .inl ⟨rfl,by unfold ek;rfl⟩
  |cons c ks=>
   simp only[aO]at e;split at e;split at e<;>cases e;cases e
 |x::xs,ks,ws,k,e,r=>by
  rw[cu]at r;obtain⟨w,ws,rfl,q,r⟩:∃w Bb,ws=w::Bb/\aJ K m n H x.2.2 w/\aF K m n H (xs.map λx=>x.2.2) Bb:=by cases r with|cons q r=>exact⟨_,_,rfl,q,r⟩
  cases ks with
  |nil=>cases e
  |cons c ks=>
   simp only[aO]at e;cases z:dI c with
   |none=>rw[z]at e;cases e
   |some k'=>
    rw[z]at e;simp only at e;cases z2:aO dI ks with
    |none=>rw[z2]at e;cases e
    |some js=>
     rw[z2]at e;simp only[cu,nP,List.cons.injEq]at e;unfold ek;rw[z,e.1];by_cases y:x.1=k;rw[if_pos (by rw[y])];exact .inr ⟨x.2,w,by simp[bC,ko,y],rfl,q⟩;rw[if_neg (λz=>y (lA z))];have:bC (x::xs) k=bC xs k:=by simp[bC,ko,y]
     rw[this];exact x9 k (by rw[z2,e.2]) r
theorem N2{K:aK}{m:Nat->ai}{h:VH}{H:Hp}(r:Rel K m h H){x y:W}{v u:V}{b:Bool}(e:inD h x y=aC b)(qv:aJ K m h.n H v x)(qu:aJ K m h.n H u y) :
 ∃a c xs k,u=.ref a/\v=.ref c/\DT K H a xs/\cg K H k c/\b=(bC xs k).isSome:=by
 unfold inD at e;split at e;rename_i i;split at e;rename_i ks ws k g hk;cases e;cases qu;obtain⟨xs,p1,p2,p3,p4⟩:=r.dt g;obtain⟨c,rfl,kk⟩:=x8 qv hk;refine⟨m i,c,xs,k,rfl,rfl,iu p1 p2 p3,kk,?_⟩;rcases x9 k p2 p4 with⟨z1,z2⟩|⟨p,w,z1,z2,_⟩<;> (rw[z1,z2];rfl)
 cases e;cases e
theorem N3{K:aK}{m:Nat->ai}{h:VH}{H:Hp}(r:Rel K m h H){x y:W}{v u:V}{b:Bool}(e:kU h x y=aC b)(qv:aJ K m h.n H v x)(qu:aJ K m h.n H u y) :
 (∃p vs ds d,u=.ref p/\(cC K H p vs\/bU K H p vs)/\jO K (λ_=>False) H vs ds/\Rp K (λ_=>False) H v d/\ds.all SeqAt.shaped=true/\SeqAt.shaped d=true/\b=dO ds d)\/inD h x y=aC b:=by
 unfold kU at e;split at e;rename_i ws d h1 h2;split at e;rename_i ds h3;split at e;rename_i hc;cases e;rw[bD]at hc;obtain⟨p,vs,rfl,h4,h5⟩:=xZ r qu h1;exact .inl ⟨p,vs,ds,d,rfl,h4,xY (fk r 24) h3 h5,fk r _ _ _ _ h2 qv,hc.1,hc.2,rfl⟩;cases e;cases e;exact .inr e
noncomputable def gx:CmpOp->Option Cp|.Eq=>aC .eq|.NotEq=>aC .ne|.Lt=>aC .lt|.LtE=>aC .le|.Gt=>aC .gt|.GtE=>aC .ge|.Is=>aC .tN|.IsNot=>aC .jk|.In=>aC .jT|.NotIn=>aC .lP
noncomputable def rC(K:aK):Cp->R2|.eq=>An K|.ne=>Ao K|.lt=>λx y H Q=>mL (λi j=>.bl (decide (i<j))) x y H Q\/AO K x y H Q|.le=>mL λi j=>.bl (decide (i<=j))|.gt=>mL λi j=>.bl (decide (j<i))|.ge=>mL λi j=>.bl (decide (j<=i))|.tN=>λx y H Q=>(y=.aL/\Q (.bl (decide (x=.aL))) H)\/∃c b,x=.bl c/\y=.bl b/\Q (.bl (c==b)) H|.jk=>λx y H Q=>(y=.aL/\Q (.bl (!decide (x=.aL))) H)\/∃c b,x=.bl c/\y=.bl b/\Q (.bl (!(c==b))) H|.jT=>λx y H Q=>qw K false x y H Q\/qA K false x y H Q|.lP=>λx y H Q=>qw K true x y H Q\/qA K true x y H Q
noncomputable def pI:aq->Bool|.Set ..=>false|_=>true
theorem HU{op:CmpOp}{b:aq}(h:pI b):behindInMarks op b=false:=by cases b<;>first|rfl|cases h
section
variable{X:Cx}{a b c e:aq}{es:List aq}{fa fb fc:FE}{pos:Pos}
theorem V9:cH X (compareOp .Is) (λx y H Q=>∃c b,x=.bl c/\y=.bl b/\Q (.bl (c==b)) H):=by intro pins s σ H x y v u Q I rx ry h;obtain⟨c,b,rfl,rfl,q⟩:=h;cases rx;cases ry;exact wpAny_is_plain rfl (DS I q (by cases c<;>cases b<;>rfl))
theorem Wa:cH X (compareOp .IsNot) (λx y H Q=>∃c b,x=.bl c/\y=.bl b/\Q (.bl (!(c==b))) H):=by intro pins s σ H x y v u Q I rx ry h;obtain⟨c,b,rfl,rfl,q⟩:=h;cases rx;cases ry;exact wpAny_isNot_plain rfl (DS I q (by cases c<;>cases b<;>rfl))
theorem ya(hu:X.A.units+65<cLine){O:CmpOp}{c:Cp}(e:gx O=aC c):cH X (compareOp O) (rC X.K c):=by cases O<;>cases e;exact Ue (by lia);exact Ug (by lia);exact zM.or (VM (by lia));exact zN;exact zO;exact zP;exact SG.or V9;exact SH.or Wa;exact(UK (by show X.A.units+1+64<cLine;lia)).or (Vw (by lia));exact(UL (by show X.A.units+1+64<cLine;lia)).or (Vx (by lia))
theorem EA{K:aK}{m:Nat->ai}{n:Nat}{H:Hp}{v:V}{w:W}(q:aJ K m n H v w):dP w=decide (v=.aL):=by cases q<;>simp[dP]
theorem EB{K:aK}(c:Cp):A7 K (rC K c) (λx y h=>.of ((aV c h x y).map .bl) h):=by
 intro m h H v u x y w h' Q r qv qu e k;obtain⟨e,rfl⟩:=of_ok e;cases z:aV c h' x y with
 |none=>rw[z]at e;cases e
 |some b=>
  rw[z]at e;cases e;have fin:Q (.bl b) H:=aM.here k r (.bl b);unfold aV at z;split at z;rcases N3 r z qv qu with⟨p,vs,ds,d,h1,h2,h3,h4,h5,h6,rfl⟩|z3
  exact .inl ⟨p,vs,ds,d,h1,h2,h3,h4,h5,h6,fin⟩;obtain⟨a,c,xs,dk,h1,h2,h3,h4,rfl⟩:=N2 r z3 qv qu;exact .inr ⟨a,c,xs,dk,h1,h2,h3,h4,fin⟩;cases z2:kU h' x y with
  |none=>rw[z2]at z;cases z
  |some b2=>
   rw[z2]at z;cases z;rcases N3 r z2 qv qu with⟨p,vs,ds,d,h1,h2,h3,h4,h5,h6,rfl⟩|z3
   exact .inl ⟨p,vs,ds,d,h1,h2,h3,h4,h5,h6,fin⟩;obtain⟨a,c,xs,dk,h1,h2,h3,h4,rfl⟩:=N2 r z3 qv qu;exact .inr ⟨a,c,xs,dk,h1,h2,h3,h4,fin⟩
  obtain⟨d,e',h1,h2,h3,h4,rfl⟩:=N1 r z qv qu;exact⟨d,e',h1,h2,h3,h4,fin⟩;cases z2:ck h' x y with
  |none=>rw[z2]at z;cases z
  |some b2=>
   rw[z2]at z;cases z;obtain⟨d,e',h1,h2,h3,h4,rfl⟩:=N1 r z2 qv qu;exact⟨d,e',h1,h2,h3,h4,fin⟩
  split at z;rename_i hn;cases z;have:=EA qu;rw[hn]at this;refine .inl ⟨jc this.symm,?_⟩;rw[<-EA qv];exact fin;unfold AX at z;split at z;rename_i c b;cases z;cases qv;cases qu;exact .inr ⟨_,_,rfl,rfl,fin⟩;cases z;split at z;rename_i hn;cases z;have:=EA qu;rw[hn]at this;refine .inl ⟨jc this.symm,?_⟩;rw[<-EA qv];exact fin;cases z2:AX x y with
  |none=>rw[z2]at z;cases z
  |some b2=>
   rw[z2]at z;cases z;unfold AX at z2;split at z2;rename_i c b;cases z2;cases qv;cases qu;exact .inr ⟨_,_,rfl,rfl,fin⟩;cases z2
  split at z;rename_i i j;cases qv;cases qu;cases c<;>simp only[fC]at z<;>cases z<;>first|exact⟨i,j,rfl,rfl,fin⟩|exact .inl ⟨i,j,rfl,rfl,fin⟩
  split at z;obtain⟨d,e',n,h1,h2,h3,h4,h5⟩:=V8 r z qv qu;exact .inr ⟨d,e',n,b,h1,h2,h3,h4,h5,fin⟩;cases z;cases z
theorem Wb(hu:X.A.units+65<cLine){O:CmpOp}{c:Cp}(e:gx O=aC c)(hs:pI b)(ha:SE X a fa)(hb:SE X b fb) :
 SE X (.Compare a [O] [b] pos) (λρ h=>(fa ρ h).bind λx h=>(fb ρ h).bind λy h=>.of ((aV c h x y).map .bl) h):=
 (SI (ya hu e) ha hb (HU hs)).imp λσ H Q q=>Ez (G:=rC X.K c) (EB c) q
theorem Wc(hu:X.A.units+65<cLine){O:CmpOp}{c:Cp}(e:gx O=aC c)(hs:pI b)(ha:SE X a fa)(hb:SE X b fb) :
 ST X (.Compare a [O] [b] pos) (λρ h=>(fa ρ h).bind λx h=>(fb ρ h).bind λy h=>.of ((aV c h x y).map .bl) h):=
 (SJ (ya hu e) ha hb (HU hs)).imp λσ H Q q=>Ez (G:=rC X.K c) (EB c) (NW q)
theorem N4{O O':CmpOp}{a b:aq}(h:pI b):lastMarks [O,O'] [a,b]=false:=HU h
theorem N5{K:aK}{c1 c2:Cp}{σ:L2.St}{H:Hp}{Q:VK}
 (q:fZ K (λρ h=>(fa ρ h).bind λx h=>(fb ρ h).bind λy h=>match aV c1 h x y with
   |some true=>(fc ρ h).bind λz h=>.of ((aV c2 h y z).map .bl) h
   |some false=>.ok (.bl false) h
   |none=>.no) σ H Q):Gp (rC K c1) (rC K c2) (fZ K fa) (fZ K fb) (fZ K fc) σ H Q:=by
 refine q.el λρ h m w h' f r e k=>?_;refine bH e λx h1 e1 e2=>?_;refine bH e2 λy h2 e3 e4=>?_;refine(.mk f r e1 λv H1 m1 s1 r1 q1=>(.mk (f.stp s1) r1 e3 λu H2 m2 s2 r2 q2=>?_));have f2:=(f.stp s1).stp s2;have k2:aM K m2 h2.n H2 w h' Q:=λv' H' m' s' r' q'=>k v' H' m' ((s1.trans s2).trans s') r' q';cases z:aV c1 h2 x y with
 |none=>rw[z]at e4;cases e4
 |some b=>
  rw[z]at e4;refine EB c1 m2 h2 H2 v u x y (.bl b) h2 _ r2 (q1.stp s2) q2 (by show Res.of ((aV c1 h2 x y).map W.bl) h2=_;rw[z];rfl) λv3 H3 m3 s3 r3 q3=>?_;cases q3;refine⟨b,rfl,?_⟩;cases b with
  |true=>
   refine bH e4 λz' h4 e5 e6=>?_;rw[if_pos rfl];refine⟨ρ,h2,m3,z',h4,f2.stp s3,r3,e5,λv4 H4 m4 s4 r4 q4=>?_⟩;exact EB c2 m4 h4 H4 u v4 y z' w h' Q r4 ((q2.stp s3).stp s4) q4 e6 λv' H' m' s' r' q'=>k2 v' H' m' ((s3.trans s4).trans s') r' q'
  |false=>
   cases e4;simp only[dh,cG];exact k2 _ H3 m3 s3 r3 (.bl false)
theorem Wd(hu:X.A.units+65<cLine){O O':CmpOp}{c1 c2:Cp}(e:gx O=aC c1)(e':gx O'=aC c2)(hs:pI c)(ha:SE X a fa)(hb:SE X b fb)(hc:SE X c fc) :
 SE X (.Compare a [O,O'] [b,c] pos) (λρ h=>(fa ρ h).bind λx h=>(fb ρ h).bind λy h=>match aV c1 h x y with|some true=>(fc ρ h).bind λz h=>.of ((aV c2 h y z).map .bl) h|some false=>.ok (.bl false) h|none=>.no):=(SK (ya hu e) (ya hu e') ha hb hc (N4 hs)).imp λσ H Q q=>N5 q
theorem We(hu:X.A.units+65<cLine){O O':CmpOp}{c1 c2:Cp}(e:gx O=aC c1)(e':gx O'=aC c2)(hs:pI c)(ha:SE X a fa)(hb:SE X b fb)(hc:SE X c fc) :
 ST X (.Compare a [O,O'] [b,c] pos) (λρ h=>(fa ρ h).bind λx h=>(fb ρ h).bind λy h=>match aV c1 h x y with|some true=>(fc ρ h).bind λz h=>.of ((aV c2 h y z).map .bl) h|some false=>.ok (.bl false) h|none=>.no):=(SM (ya hu e) (ya hu e') ha hb hc (N4 hs)).imp λσ H Q q=>N5 (NW q)
noncomputable abbrev Bc(fa:FE):FE:=λρ h=>(fa ρ h).bind λx h=>match x with|.bl b=>.ok (.bl (!b)) h|_=>.no
noncomputable abbrev Be(fa fb:FE):FE:=λρ h=>(fa ρ h).bind λx h=>match x with|.bl true=>fb ρ h|.bl false=>.ok (.bl false) h|_=>.no
noncomputable abbrev N6(fa fb:FE):FE:=λρ h=>(fa ρ h).bind λx h=>match x with|.bl true=>.ok (.bl true) h|.bl false=>fb ρ h|_=>.no
noncomputable abbrev HV(fa fb fc:FE):FE:=λρ h=>(fa ρ h).bind λx h=>match x with|.bl true=>fb ρ h|.bl false=>fc ρ h|_=>.no
variable{rest:List aq}
theorem Wf(ha:ST X a fa):ST X (.UnaryOp .Not a pos) (Bc fa):=(RK ha).imp λσ H Q z9=>z9.el λρ h m b h' f r e k=>by
 refine bH e λx h1 e1 e2=>?_;cases x<;>try cases e2
 rename_i b;exact(.mk f r e1 λH' m' s' r'=>k H' m' s' r')
theorem Wg(ha:SE X a fa):SE X (.UnaryOp .Not a pos) (Bc fa):=(RN ha).imp λσ H Q z9=>z9.el λρ h m b h' f r e k=>by
 refine bH e λx h1 e1 e2=>?_;cases x<;>try cases e2
 rename_i b;exact(.mk f r e1 λv H' m' s' r' q=>by cases q;exact⟨b,rfl,k _ H' m' s' r' (.bl _)⟩)
theorem N7{op:BoolOp}(ha:ST X a fa):SW X (.BoolOp op [a] pos) fa:=by cases op;exact RH ha;exact RI ha
theorem Wh(ha:ST X a fa)(hb:SW X (.BoolOp .And (b::rest) pos) fb):SW X (.BoolOp .And (a::b::rest) pos) (Be fa fb):=(RJ ha hb).imp λσ H Q z9=>z9.el λρ h m b h' f r e k=>by
 refine bH e λx h1 e1 e2=>?_;cases x<;>try cases e2
 rename_i c;refine(.mk f r e1 λH1 m1 s1 r1=>?_);cases c with|true=>rw[if_pos rfl];exact(.mk (f.stp s1) r1 e2 λH' m' s' r'=>k H' m' (s1.trans s') r')|false=>cases e2;simp only[dh,cG];exact k H1 m1 s1 r1
theorem Bf(ha:ST X a fa)(hb:SW X (.BoolOp .Or (b::rest) pos) fb):SW X (.BoolOp .Or (a::b::rest) pos) (N6 fa fb):=(pw_or ha hb).imp λσ H Q z9=>z9.el λρ h m b h' f r e k=>by
 refine bH e λx h1 e1 e2=>?_;cases x<;>try cases e2
 rename_i c;refine(.mk f r e1 λH1 m1 s1 r1=>?_);cases c with|true=>cases e2;rw[if_pos rfl];exact k H1 m1 s1 r1|false=>simp only[dh,cG];exact(.mk (f.stp s1) r1 e2 λH' m' s' r'=>k H' m' (s1.trans s') r')
theorem N8{op:BoolOp}(ha:SE X a fa):SE X (.BoolOp op [a] pos) fa:=RL ha
theorem Wi(ha:SE X a fa)(hb:SE X (.BoolOp .And (b::rest) pos) fb):SE X (.BoolOp .And (a::b::rest) pos) (Be fa fb):=(RM ha hb).imp λσ H Q z9=>z9.el λρ h m w h' f r e k=>by
 refine bH e λx h1 e1 e2=>?_;cases x<;>try cases e2
 rename_i c;refine(.mk f r e1 λv H1 m1 s1 r1 q1=>?_);cases q1;refine⟨c,rfl,?_⟩;cases c with|true=>rw[if_pos rfl];exact(.mk (f.stp s1) r1 e2 λv H' m' s' r' q'=>k v H' m' (s1.trans s') r' q')|false=>cases e2;simp only[dh,cG];exact k _ H1 m1 s1 r1 (.bl false)
theorem Bg(ha:SE X a fa)(hb:SE X (.BoolOp .Or (b::rest) pos) fb):SE X (.BoolOp .Or (a::b::rest) pos) (N6 fa fb):=(zw ha hb).imp λσ H Q z9=>z9.el λρ h m w h' f r e k=>by
 refine bH e λx h1 e1 e2=>?_;cases x<;>try cases e2
 rename_i c;refine(.mk f r e1 λv H1 m1 s1 r1 q1=>?_);cases q1;refine⟨c,rfl,?_⟩;cases c with|true=>cases e2;rw[if_pos rfl];exact k _ H1 m1 s1 r1 (.bl true)|false=>simp only[dh,cG];exact(.mk (f.stp s1) r1 e2 λv H' m' s' r' q'=>k v H' m' (s1.trans s') r' q')
theorem Wj(hc:ST X c fc)(ha:SE X a fa)(hb:SE X b fb):SE X (.IfExp c a b pos) (HV fc fa fb):=(RP hc ha hb).imp λσ H Q z9=>z9.el λρ h m w h' f r e k=>by
 refine bH e λx h1 e1 e2=>?_;cases x<;>try cases e2
 rename_i c;refine(.mk f r e1 λH1 m1 s1 r1=>?_);cases c with|true=>rw[if_pos rfl];exact(.mk (f.stp s1) r1 e2 λv H' m' s' r' q'=>k v H' m' (s1.trans s') r' q')|false=>simp only[dh,cG];exact(.mk (f.stp s1) r1 e2 λv H' m' s' r' q'=>k v H' m' (s1.trans s') r' q')
theorem N9{K:aK}{m:Nat->ai}{n:Nat}{H:Hp}{vs:List V}{ws:List W}(q:aF K m n H vs ws):vs.isEmpty=ws.isEmpty:=by cases q<;>rfl
theorem Wk{K:aK}{m:Nat->ai}{h:VH}{H:Hp}{v:V}{w:W}{b:Bool}(r:Rel K m h H)(q:aJ K m h.n H v w)(e:mT h w=aC b):u9 K v H b:=by
 cases q with
 |aL=>cases e;rfl
 |bl x=>cases e;rfl
 |int i=>cases e;rfl
 |str x=>cases e
 |fz _ _=>cases e
 |tup sq rs=>cases e;exact .inr (.inl ⟨_,sq,by rw[N9 rs]⟩)
 | @ref i hi=>
  simp only[mT]at e;cases g:h.get i with
  |none=>rw[g]at e;cases e
  |some o=>
   rw[g]at e;cases o with
   |dk _=>cases e
   |dm _=>cases e
   |dt _ _=>cases e
   |lst ws=>
    cases e;obtain⟨vs,h1,h2⟩:=r.lst g;exact .inl ⟨vs,cC.of h1,by rw[N9 h2]⟩
theorem HW(ha:SE X a fa)(he:∀whole,isTrue a X.env whole=(do let v <-whole;standAt a.pos;holding [v] (truthy v))) :
 ST X a (λρ h=>(fa ρ h).bind λx h=>.of ((mT h x).map .bl) h):=(SQ ha he).imp λσ H Q z9=>z9.el λρ h m b h' f r e k=>by
 refine bH e λx h1 e1 e2=>?_;obtain⟨e2,rfl⟩:=of_ok e2;cases z:mT h' x with
 |none=>rw[z]at e2;cases e2
 |some c=>
  rw[z]at e2;cases e2;exact(.mk f r e1 λv H' m' s' r' q=>⟨b,Wk r' q z,k H' m' s' r'⟩)
theorem Wl(ha:SE X a fa):SE X (.UnaryOp .USub a pos) (λρ h=>(fa ρ h).bind λx h=>match x with|.int i=>.ok (.int (-i)) h|_=>.no):=
 (zK SD ha).imp λσ H Q q=>NV (g:=λx h=>match x with|.int i=>.ok (.int (-i)) h|_=>.no) (G:=rU λi=>.int (-i)) (λm h H v x w h' Q r q e k=>by
   cases q<;>try cases e
   rename_i i;exact⟨i,rfl,aM.here k r (.int _)⟩) q
end
section
variable{K:aK}{m m0:Nat->ai}{n n0:Nat}{h:VH}{H H0:Hp}
theorem Rel.adopt(r:Rel K m h H){p:ai}{o:VO}{u u0:HO}(hp:∀i,i<h.n->m i≠p)(hu:H p=aC u0)(ht:∀t,u0≠.tup t)(hf:∀o t,u0≠.bI o t)(s:bP m0 n0 H0 m h.n H)(h0:H0 p=aD)
 (ho:bP m h.n H (λi=>if i=h.n then p else m i) (h.n+1) (upd H p u)\/True->(∀{v:V}{w:W},aJ K m h.n H v w->aJ K (λi=>if i=h.n then p else m i) (h.n+1) (upd H p u) v w)->gv K (λi=>if i=h.n then p else m i) (h.n+1) (upd H p u) p o) :
 bP m0 n0 H0 (λi=>if i=h.n then p else m i) (h.n+1) (upd H p u)/\Rel K (λi=>if i=h.n then p else m i) (h.new o) (upd H p u):=by
 have kt:∀b vs,H b=aC (.tup vs)->upd H p u b=aC (.tup vs):=λb vs q=>by rw[bW (cU q hu λz=>ht vs z.symm)];exact q
 have kf:∀b o t,H b=aC (.bI o t)->upd H p u b=aC (.bI o t):=λb o t q=>by rw[bW (cU q hu λz=>hf o t z.symm)];exact q
 have mv:∀{v:V}{w:W},aJ K m h.n H v w->aJ K (λi=>if i=h.n then p else m i) (h.n+1) (upd H p u) v w:=by
  intro v w q;have st:bP m h.n (λb=>if b=p then aD else H b) (λi=>if i=h.n then p else m i) (h.n+1) (upd H p u):=by
   refine⟨nI _,λi hi=>by simp only[if_neg (fX hi)],λi hi hi2=>?_,λi j hi hi2 hj=>?_,λb vs q=>?_,λb o t q=>?_,λb o _ q=>?_⟩;have:i=h.n:=by lia
   subst this;simp only[bQ];have:i=h.n:=by lia
   subst this;simp only[bQ,if_neg (fX hj)];exact(hp j hj).symm;split at q;cases q;exact kt b vs q;split at q;cases q;exact kf b o t q;split at q;cases q;rename_i z;rw[bW z];exact q
  refine aJ.stp st ?_;have back:∀{a vs},bU K H a vs->bU K (λb=>if b=p then aD else H b) a vs:=by
   intro a vs q;rcases q with(q|⟨o,q⟩)|q
   exact .inl (.inl (by simp only[if_neg (cU q hu λz=>ht vs z.symm)];exact q));exact .inl (.inr ⟨o,by simp only[if_neg (cU q hu λz=>hf o _ z.symm)];exact q⟩);exact .inr q
  have Bh:∀{a vs},Fz K H a vs->Fz K (λb=>if b=p then aD else H b) a vs:=by
   intro a vs q;rcases q with⟨o,q⟩|q
   exact .inl ⟨o,by simp only[if_neg (cU q hu λz=>hf o _ z.symm)];exact q⟩;exact .inr q
  exact(aJ.rec (K:=K) (m:=m) (n:=h.n) (H:=H) (motive_1:=λv w _=>aJ K m h.n (λb=>if b=p then aD else H b) v w) (motive_2:=λvs ws _=>aF K m h.n (λb=>if b=p then aD else H b) vs ws)
   .aL .bl .int .str (λsq _ ih=>.tup (back sq) ih) (λsq _ ih=>.fz (Bh sq) ih) (λhi=>.ref hi) .nil (λ_ _ i1 i2=>.cons i1 i2) q)
 refine⟨⟨Nat.le_succ_of_le s.le,λi hi=>?_,λi hi hi2=>?_,λi j hi hi2 hj=>?_,λb vs q=>kt b vs (s.tup b vs q),λb o t q=>kf b o t (s.bI b o t q),λb o nb q=>?_⟩,⟨λi hi=>?_,λi j hi hj z=>?_,?_⟩⟩;have:=s.le;simp only[if_neg (show i≠h.n by lia)];exact s.same i hi;by_cases e:i=h.n;subst e;simp only[bQ];exact h0;simp only[if_neg e];exact s.new i hi (by lia);have:=s.le;simp only[if_neg (show j≠h.n by lia)];by_cases e:i=h.n;subst e;simp only[bQ];exact(hp j (by lia)).symm;simp only[if_neg e];exact s.apart i j hi (by lia) hj;rw[bW (gW q h0)];exact s.keep b o nb q;have hi:i<h.n+1:=hi;by_cases e:i=h.n;subst e;exact⟨o,iJ,by simp only[bQ];exact ho (.inr trivial) mv⟩;have hl:i<h.n:=by lia
 obtain⟨o',h1,h2⟩:=r.obj i hl;refine⟨o',(jA hl).trans h1,?_⟩;simp only[if_neg e];have eq:upd H p u (m i)=H (m i):=bW (hp i hl);cases o' with
 |lst ws=>
  obtain⟨vs,q1,q2⟩:=h2;exact⟨vs,eq.trans q1,aF.rec (K:=K) (m:=m) (n:=h.n) (H:=H) (motive_1:=λv w _=>aJ K m h.n H v w) (motive_2:=λvs ws _=>aF K (λi=>if i=h.n then p else m i) (h.n+1) (upd H p u) vs ws)
   .aL .bl .int .str (λsq q _=>.tup sq q) (λsq q _=>.fz sq q) (λhi=>.ref hi) .nil (λq _ _ i2=>.cons (mv q) i2) q2⟩
 |dk ws=>
  obtain⟨vs,q1,q2⟩:=h2;have go:∀{vs:List (Key×V)}{ws:List (Key×W)},aP K m h.n H vs ws->aP K (λi=>if i=h.n then p else m i) (h.n+1) (upd H p u) vs ws:=by
   intro vs ws q2;induction q2 with|nil=>exact .nil|cons q _ ih=>exact .cons (mv q) ih
  exact⟨vs,q1.imp (λz=>eq.trans z) λ⟨o,z⟩=>⟨o,eq.trans z⟩,go q2⟩
 |dm ws=>
  obtain⟨vs,q1,q2⟩:=h2;have go:∀{vs:List (Key×V)}{ws:List (Key×W)},aP K m h.n H vs ws->aP K (λi=>if i=h.n then p else m i) (h.n+1) (upd H p u) vs ws:=by
   intro vs ws q2;induction q2 with|nil=>exact .nil|cons q _ ih=>exact .cons (mv q) ih
  exact⟨vs,eq.trans q1,go q2⟩
 |dt ks ws=>
  obtain⟨xs,q1,q0,q2,q3⟩:=h2;have go:∀{vs:List V}{ws:List W},aF K m h.n H vs ws->aF K (λi=>if i=h.n then p else m i) (h.n+1) (upd H p u) vs ws:=λq2=>
   aF.rec (K:=K) (m:=m) (n:=h.n) (H:=H) (motive_1:=λv w _=>aJ K m h.n H v w) (motive_2:=λvs ws _=>aF K (λi=>if i=h.n then p else m i) (h.n+1) (upd H p u) vs ws)
    .aL .bl .int .str (λsq q _=>.tup sq q) (λsq q _=>.fz sq q) (λhi=>.ref hi) .nil (λq _ _ i2=>.cons (mv q) i2) q2
  exact⟨xs,q1.imp (λz=>eq.trans z) λ⟨o,z⟩=>⟨o,eq.trans z⟩,q0,go q2,go q3⟩
 have hi:i<h.n+1:=hi;have hj:j<h.n+1:=hj;by_cases e:i=h.n;by_cases e2:j=h.n;lia;simp only[if_pos e,if_neg e2]at z;exact absurd z.symm (hp j (by lia));by_cases e2:j=h.n;simp only[if_neg e,if_pos e2]at z;exact absurd z (hp i (by lia));simp only[if_neg e,if_neg e2]at z;exact r.inj i j (by lia) (by lia) z;show(o::h.os).length=h.n+1;rw[dj,r.len]
theorem aF.map{m':Nat->ai}{n':Nat}{H':Hp}(mv:∀{v:V} {w:W},aJ K m n H v w->aJ K m' n' H' v w):∀{vs:List V} {ws:List W},aF K m n H vs ws->aF K m' n' H' vs ws|_,_,.nil=>.nil|_,_,.cons q r=>.cons (mv q) (aF.map mv r)
theorem aP.map{m':Nat->ai}{n':Nat}{H':Hp}(mv:∀{v:V} {w:W},aJ K m n H v w->aJ K m' n' H' v w):∀{vs:List (Key×V)} {ws:List (Key×W)},aP K m n H vs ws->aP K m' n' H' vs ws|_,_,.nil=>.nil|_,_,.cons q r=>.cons (mv q) (aP.map mv r)
theorem aP.look(k:Key):∀{vs:List (Key×V)} {ws:List (Key×W)},aP K m n H vs ws->(gM vs k=aD/\dz ws k=aD)\/∃v w,gM vs k=aC v/\dz ws k=aC w/\aJ K m n H v w
 |_,_,.nil=>.inl ⟨rfl,rfl⟩
 |_,_,.cons (k:=k') (v:=v) (w:=w) q r=>by
  by_cases e:k'=k;refine .inr ⟨v,w,Eg (p:=(k',v)) e,?_,q⟩;unfold dz;rw[ko];simp[e];rcases aP.look k r with⟨a,b⟩|⟨v',w',a,b,c⟩
  refine .inl ⟨(Aq (p:=(k',v)) e).trans a,?_⟩;unfold dz at b ⊢;rw[ko];simp only[eF e];exact b;refine .inr ⟨v',w',(Aq (p:=(k',v)) e).trans a,?_,c⟩;unfold dz at b ⊢;rw[ko];simp only[eF e];exact b
theorem aP.any(k:Key):∀{vs:List (Key×V)} {ws:List (Key×W)},aP K m n H vs ws->(vs.any λkv=>decide (kv.1=k))=(ws.any λkv=>decide (kv.1=k))|_,_,.nil=>rfl|_,_,.cons q r=>by rw[yZ,yZ,aP.any k r]
theorem aP.repl{v:V}{w:W}(q:aJ K m n H v w)(k:Key):∀{vs:List (Key×V)} {ws:List (Key×W)},aP K m n H vs ws->aP K m n H (vs.map λkv=>if kv.1=k then(kv.1,v)else kv) (ws.map λkv=>if kv.1=k then(kv.1,w)else kv)
 |_,_,.nil=>.nil
 |_,_,.cons (k:=k') p r=>by
  rw[cu,cu];by_cases e:k'=k;simp only[if_pos e];exact .cons q (aP.repl q k r);simp only[if_neg e];exact .cons p (aP.repl q k r)
theorem aP.snoc{v:V}{w:W}(q:aJ K m n H v w)(k:Key):∀{vs:List (Key×V)} {ws:List (Key×W)},aP K m n H vs ws->aP K m n H (vs++[(k,v)]) (ws++[(k,w)])|_,_,.nil=>.cons q .nil|_,_,.cons p r=>.cons p (aP.snoc q k r)
theorem aP.put{v:V}{w:W}(q:aJ K m n H v w)(k:Key){vs:List (Key×V)}{ws:List (Key×W)}(r:aP K m n H vs ws):aP K m n H (putK vs k v) (jV ws k w):=by unfold putK jV;rw[r.any k];split;exact r.repl q k;exact r.snoc q k
theorem aP.merge{vs:List (Key×V)}{ws:List (Key×W)}(q:aP K m n H vs ws):∀{va:List (Key×V)} {wa:List (Key×W)},aP K m n H va wa->aP K m n H (tG va vs) (NT wa ws):=by
 induction q with|nil=>exact λa=>a|cons q r ih=>exact λa=>ih (a.put q _)
theorem aP.length:∀{vs:List (Key×V)} {ws:List (Key×W)},aP K m n H vs ws->vs.length=ws.length|_,_,.nil=>rfl|_,_,.cons _ r=>by rw[dj,dj,aP.length r]
theorem Wm{v:V}{w:W}{k:Key}(q:aJ K m n H v w)(e:vF w=aC k):v=kV k:=by cases q<;>cases e<;>rfl
theorem HX{vs:List V}{ws:List W}{i:Int}{w:W}(q:aF K m n H vs ws)(e:dH ws i=aC w):∃v,dH vs i=aC v/\aJ K m n H v w:=by
 unfold dH at e ⊢;rw[q.length];cases z:iN ws.length i with
 |none=>rw[z]at e;cases e
 |some j=>
  rw[z]at e;exact q.get e
end
noncomputable def vL(K:aK):R2:=λx y H Q=>z0 K x y H Q\/Aa K x y H Q\/(∃a v,x=.ref a/\qq H a y (aC v)/\Q v H)\/AI K x y H Q
section
variable{X:Cx}{a b c e o:aq}{es:List aq}{fa fb fc fo:FE}{pos:Pos}
theorem Wn(hu:X.A.units+1<cLine):pF X (λx y H Q=>∃a v,x=.ref a/\qq H a y (aC v)/\Q v H):=by intro value slice pins s σ H x y v u Q I rx ry q hs;obtain⟨a,v',rfl,g,q⟩:=q;obtain rfl:v=Value.ref a:=rx;exact tail_any (Ur I g) PySem.F.slot_dict_getitem.lookup (Up hu I g ry λw' s3 I3 rw'=>⟨v',H,I3,rw',q⟩) hs
theorem Bj(hu:X.A.units+2<cLine):pF X (vL X.K):=Tr.or (Tt.or ((Wn (by lia)).or (AJ hu)))
theorem Wo{K:aK}:A7 K (vL K) (λx y h=>.of (bR h x y) h):=by
 intro m h H v u x y w h' Q r qv qu e0 k;obtain⟨e,e1⟩:=of_ok e0;clear e0;subst e1;unfold bR at e;split at e;cases qv with
 |tup sq rs=>
  cases qu;obtain⟨v',h1,h2⟩:=HX rs e;exact .inr (.inl ⟨_,_,_,v',rfl,rfl,sq,h1,aM.here k r h2⟩)
 cases qv with
 |fz sq rs=>
  cases qu;obtain⟨v',h1,h2⟩:=HX rs e;exact .inl ⟨_,_,_,v',rfl,rfl,sq.sq,h1,aM.here k r h2⟩
 rename_i i j;cases qv;cases qu;cases g:h'.get i with
 |none=>rw[g]at e;cases e
 |some ob=>
  rw[g]at e;cases ob with
  |lst ws=>
   obtain⟨vs,p1,p2⟩:=r.lst g;obtain⟨v',h1,h2⟩:=HX p2 e;exact .inl ⟨_,_,_,v',rfl,rfl,cC.of p1,h1,aM.here k r h2⟩
  |dk ws=>
   have e:dz ws (.inl j)=aC w:=e;obtain⟨vs,p1,p2⟩:=r.dk g;rcases p2.look (.inl j)with⟨_,z⟩|⟨v',w',z1,z2,z3⟩
   rw[z]at e;cases e;rw[z2]at e;cases e;exact .inr (.inr (.inl ⟨_,v',rfl,by rw[<-z1];exact .inl ⟨vs,.inl j,p1,rfl,rfl⟩,aM.here k r z3⟩))
  |dm ws=>
   have e:dz ws (.inl j)=aC w:=e;obtain⟨vs,p1,p2⟩:=r.dm g;rcases p2.look (.inl j)with⟨_,z⟩|⟨v',w',z1,z2,z3⟩
   rw[z]at e;cases e;rw[z2]at e;cases e;exact .inr (.inr (.inl ⟨_,v',rfl,by rw[<-z1];exact .inl ⟨vs,.inl j,.inl p1,rfl,rfl⟩,aM.here k r z3⟩))
  |dt _ _=>cases e
 rename_i i j;cases qv;cases qu;cases g:h'.get i with
 |none=>rw[g]at e;cases e
 |some ob=>
  rw[g]at e;cases ob with
  |lst ws=>cases e
  |dk ws=>
   have e:dz ws (.inr j)=aC w:=e;obtain⟨vs,p1,p2⟩:=r.dk g;rcases p2.look (.inr j)with⟨_,z⟩|⟨v',w',z1,z2,z3⟩
   rw[z]at e;cases e;rw[z2]at e;cases e;exact .inr (.inr (.inl ⟨_,v',rfl,by rw[<-z1];exact .inl ⟨vs,.inr j,p1,rfl,rfl⟩,aM.here k r z3⟩))
  |dm _=>cases e
  |dt _ _=>cases e
 rename_i i _ _;cases qv;unfold AW at e;split at e;rename_i ks ws dk g hk;obtain⟨xs,p1,p2,p3,p4⟩:=r.dt g;obtain⟨c,rfl,kk⟩:=x8 qu hk;rcases x9 dk p2 p4 with⟨_,z2⟩|⟨p,w',z1,z2,z3⟩
 rw[z2]at e;cases e;rw[z2]at e;cases e;exact .inr (.inr (.inr ⟨_,c,xs,dk,p,rfl,rfl,iu p1 p2 p3,kk,z1,aM.here k r z3⟩));cases e;cases e
theorem Wq(hu:X.A.units+2<cLine)(ha:SE X a fa)(hb:SE X b fb)(hs:Gx b):SE X (.Subscript a b pos) (λρ h=>(fa ρ h).bind λx h=>(fb ρ h).bind λy h=>.of (bR h x y) h):=
 (zZ (Bj hu) ha hb hs).imp λσ H Q q=>Ez (G:=vL X.K) Wo q
noncomputable def jo(K:aK)(b:Bool)(f:FE):TO:=λσ H Q=>∃ρ h m w o h',Fr K m h.n H σ ρ/\Rel K m h H/\f ρ h=.ok w h'/\fO b w=aC o/\∀H' m',bP m h.n H m' h'.n H'->Rel K m' h' H'->Q o H'
theorem jo.el{K:aK}{σ:L2.St}{H:Hp}{P:Prop}{b:Bool}{fa:FE}{Q:Option Int->Hp->Prop}(q:jo K b fa σ H Q)(k:∀ρ h m w o h',Fr K m h.n H σ ρ->Rel K m h H->fa ρ h=.ok w h'->fO b w=aC o->(∀H' m',bP m h.n H m' h'.n H'->Rel K m' h' H'->Q o H')->P):P:=by obtain⟨ρ,h,m,w,o,h',f,r,e,ep,k'⟩:=q;exact k ρ h m w o h' f r e ep k'
theorem jo.mk{K:aK}{σ:L2.St}{H:Hp}{m:Nat->ai}{ρ:En}{h h':VH}{w:W}{o:Option Int}{b:Bool}{fa:FE}{Q:Option Int->Hp->Prop}(f:Fr K m h.n H σ ρ)(r:Rel K m h H)(e:fa ρ h=.ok w h')(ep:fO b w=aC o)(k:∀H' m',bP m h.n H m' h'.n H'->Rel K m' h' H'->Q o H'):jo K b fa σ H Q:=⟨ρ,h,m,w,o,h',f,r,e,ep,k⟩
theorem Wr{w:W}:PO X aD (jo X.K false (λ_ h=>.ok w h)):=λpins s σ H Q I z9=>z9.el λρ h m w o h' f r e ep k=>by
 cases e;have:o=aD:=by unfold fO at ep;cases ep;rfl
 subst this;exact Ti pins s σ H Q I (k H m .refl r)
theorem Oa(ha:SE X e fa):PO X (aC e) (jo X.K true fa):=λpins s σ H Q I z9=>z9.el λρ h m w o h' f r e ep k=>by
 refine Tj ha pins s σ H Q I (.mk f r e λv H' m' s' r' q=>?_);cases q<;>cases ep;exact⟨_,rfl,k H' m' s' r'⟩
theorem Ob{K:aK}{m:Nat->ai}{n:Nat}{H:Hp}{vs:List V}{ws:List W}(q:aF K m n H vs ws)(lo hi:Option Int):aF K m n H (jK vs lo hi) (jW ws lo hi):=by unfold jK jW;rw[q.length];exact(q.drop _).take _
theorem Ws{ws:List W}{lo hi:Option Int}(h:HT.bJ ws.length 0 lo=0/\HT.bJ ws.length ws.length hi=ws.length):jW ws lo hi=ws:=by unfold jW;rw[h.1,h.2];simp
theorem Wt{lo hi:Option aq}{fl fh:FE}{p2:Pos}{bl bh:Bool}(ha:SE X a fa)(hl:PO X lo (jo X.K bl fl))(hh:PO X hi (jo X.K bh fh)) :
 SE X (.Subscript a (.Slice lo hi aD p2) pos) (λρ h=>(fa ρ h).bind λx h=>(fl ρ h).bind λl h=>(fh ρ h).bind λu h=>match fO bl l,fO bh u with|some l,aC u=>mU x l u h|_,_=>.no):=
 (To UN ha hl hh).imp λσ H Q z9=>z9.el λρ h m w h' f r e k=>by
   refine bH e λx h1 e1 e2=>?_;refine bH e2 λl h2 e3 e4=>?_;refine bH e4 λu h3 e5 e6=>?_;split at e6;rename_i l' u' pl pu;refine(.mk f r e1 λv H1 m1 s1 r1 q1=>(.mk (f.stp s1) r1 e3 pl λH2 m2 s2 r2=>(.mk ((f.stp s1).stp s2) r2 e5 pu λH3 m3 s3 r3=>?_)));have q3:=(q1.stp s2).stp s3;have kk:aM X.K m3 h3.n H3 w h' Q:=λv' H' m' s' r' q'=>k v' H' m' (((s1.trans s2).trans s3).trans s') r' q';unfold mU at e6;split at e6;rename_i ws;cases e6;cases q3 with
   | @tup a vs _ sq rs=>
    by_cases hw:HT.bJ vs.length 0 l'=0/\HT.bJ vs.length vs.length u'=vs.length;refine .inl (.inr ⟨_,_,rfl,sq,hw,?_⟩);have Oc:=hw;rw[rs.length]at Oc;rw[Ws Oc]at kk;exact aM.here kk r3 (.tup sq rs);exact .inl (.inl ⟨_,_,rfl,sq,hw,λp hp=>aM.tuple kk r3 (Ob rs l' u') hp⟩)
   rename_i i;cases q3;cases g:h3.get i with
   |none=>rw[g]at e6;cases e6
   |some ob=>
    rw[g]at e6;cases ob with
    |lst ws=>
     cases e6;obtain⟨vs,p1,p2⟩:=r3.lst g;exact .inr ⟨_,_,rfl,cC.of p1,λp hp=>aM.list kk r3 (Ob p2 l' u') hp⟩
    |dk ws=>cases e6
    |dm _=>cases e6
    |dt _ _=>cases e6
   cases e6;cases e6
end
noncomputable def gf:aq->Bool|.Starred ..=>false|_=>true
theorem fE{e:aq}{es:List aq}{env:Env}(h:gf e):starEach (e::es) env=(false,eval e env)::starEach es env:=by cases e<;>first|rfl|cases h
theorem Bk{pos:Pos}{env:Env}:∀{es:List aq},es.all gf=true->(backTo pos (starEach es env)).any (·.1)=false
 |[],_=>rfl
 |e::es,h=>by
  rw[kr,bD]at h;rw[fE h.1];show(false|| (backTo pos (starEach es env)).any (·.1))=false;rw[Bk h.2];rfl
noncomputable abbrev k7:FE:=λ_ h=>.ok (.tup []) h
noncomputable abbrev iw(fa fb:FE):FE:=λρ h=>(fa ρ h).bind λx h=>(fb ρ h).bind λy h=>match y with|.tup ys=>.ok (.tup (x::ys)) h|_=>.no
section
variable{X:Cx}{a b c e o:aq}{es:List aq}{fa fb fc fo:FE}{pos p:Pos}{x:Str}
noncomputable abbrev iy(fa:FE)(g:List W->VH->Res W):FE:=λρ h=>(fa ρ h).bind λy h=>match y with|.tup ys=>g ys h|_=>.no
noncomputable def fm(K:aK)(r:List V->Hp->VK->Prop)(g:List W->VH->Res W):Prop:=∀(m:Nat->ai) (h:VH) (H:Hp) (vs:List V) (xs:List W) (w:W) (h':VH) (Q:VK),Rel K m h H->aF K m h.n H vs xs->g xs h=.ok w h'->aM K m h.n H w h' Q->r vs H Q
theorem Bl{id:String}{r:List V->Hp->VK->Prop}{g:List W->VH->Res W}(hc:bO X (.builtin id) r)(hv:fm X.K r g)(hg:Gl X x)(hm:X.mg x=aD)(hb:bootBuiltins x=aC (.builtin id))(ha:SA X (e::es) fa)(hs:(e::es).all gf=true)
 (hn:x≠"__name__") (hdb:(x==("__debug__" : Str))=false):SE X (.Call (.Name x p) (e::es) [] pos) (iy fa g):=by
 rw[kr,bD]at hs;exact(MQ hc hg hm hb ha hn hdb (fE hs.1) (Bk hs.2)).imp λσ H Q q=>vI hv q
theorem HY{T:String}{r:List V->Hp->VK->Prop}{g:List W->VH->Res W}(hc:bO X (.type T) r)(hv:fm X.K r g)(hg:Gl X x)(hm:X.mg x=aD)(hb:bootBuiltins x=aC (.type T))(ha:SA X (e::es) fa)(hs:(e::es).all gf=true)
 (hn:x≠"__name__") (hdb:(x==("__debug__" : Str))=false):SE X (.Call (.Name x p) (e::es) [] pos) (iy fa g):=by
 rw[kr,bD]at hs;exact(S9 hc hg hm hb ha hn hdb (fE hs.1) (Bk hs.2)).imp λσ H Q q=>vI hv q
theorem eu{K:aK}{m:Nat->ai}{n:Nat}{H:Hp}{vs:List V}{w:W}(q:aF K m n H vs [w]):∃v,vs=[v]/\aJ K m n H v w:=by cases q with|cons q r=>cases r;exact⟨_,rfl,q⟩
theorem Wu{K:aK}:fm K (λxs H Q=>(∃p ys,xs=[.ref p]/\(cC K H p ys\/bU K H p ys)/\Q (.int ys.length) H)\/∃a ys,xs=[.ref a]/\DT K H a ys/\Q (.int ys.length) H) fP:=by
 intro m h H vs xs w h' Q r q e k;unfold fP at e;split at e<;>try cases e
 rename_i x;obtain⟨v,rfl,q1⟩:=eu q;obtain⟨e,rfl⟩:=of_ok e;cases z:aS h' x with
 |none=>
  rw[z]at e;simp only[lQ]at e;cases q1<;>try cases e
  rename_i i _ _;cases g:h'.get i with
  |none=>simp[g]at e
  |some ob=>
   cases ob with
   |lst _=>simp[g]at e
   |dk _=>simp[g]at e
   |dm _=>simp[g]at e
   |dt ks ws=>
    simp only[g,iT,nP]at e;subst e;obtain⟨xs,p1,p2,p3,p4⟩:=r.dt g;have:=p3.length;rw[bT]at this;exact .inr ⟨_,xs,rfl,iu p1 p2 p3,by rw[this];exact aM.here k r (.int _)⟩
 |some ws=>
  rw[z]at e;cases e;obtain⟨p,us,rfl,h1,h2⟩:=xZ r q1 z;exact .inl ⟨p,us,rfl,h1,by rw[h2.length];exact aM.here k r (.int _)⟩
theorem Wv{K:aK}:fm K (λxs H Q=>∃p ys,xs=[.ref p]/\(cC K H p ys\/bU K H p ys)/\∀l,H l=aD->Q (.ref l) (upd H l (.lst ys))) jX:=by
 intro m h H vs xs w h' Q r q e k;unfold jX at e;split at e<;>try cases e
 rename_i x;obtain⟨v,rfl,q1⟩:=eu q;cases z:aS h x with
 |none=>rw[z]at e;cases e
 |some ws=>
  rw[z]at e;cases e;obtain⟨p,us,rfl,h1,h2⟩:=xZ r q1 z;exact⟨p,us,rfl,h1,λl hl=>aM.list k r h2 hl⟩
theorem Ww{K:aK}:fm K (λxs H Q=>(∃p ys,xs=[.ref p]/\((cC K H p ys/\∀l,H l=aD->Q (.ref l) (upd H l (.tup ys)))\/(bU K H p ys/\Q (.ref p) H)))\/∃a ys,xs=[.ref a]/\DT K H a ys/\∀l,H l=aD->Q (.ref l) (upd H l (.tup (ys.map λp=>.ref p.2.1)))) qL:=by
 intro m h H vs xs w h' Q r q e k;unfold qL at e;split at e<;>try cases e
 rename_i x;obtain⟨v,rfl,q1⟩:=eu q;obtain⟨e,rfl⟩:=of_ok e;cases z:aS h' x with
 |none=>
  rw[z]at e;simp only[lQ]at e;cases q1<;>try cases e
  rename_i i _ _;cases g:h'.get i with
  |none=>simp[g]at e
  |some ob=>
   cases ob with
   |lst _=>simp[g]at e
   |dk _=>simp[g]at e
   |dm _=>simp[g]at e
   |dt ks ws=>
    simp only[g,iT,nP]at e;subst e;obtain⟨xs,p1,p2,p3,p4⟩:=r.dt g;exact .inr ⟨_,xs,rfl,iu p1 p2 p3,λl hl=>aM.tuple k r p3 hl⟩
 |some ws=>
  rw[z]at e;cases e;obtain⟨p,us,rfl,h1,h2⟩:=xZ r q1 z;rcases h1 with h1|h1
  exact .inl ⟨p,us,rfl,.inl ⟨h1,λl hl=>aM.tuple k r h2 hl⟩⟩;exact .inl ⟨p,us,rfl,.inr ⟨h1,aM.here k r (.tup h1 h2)⟩⟩
theorem Wx{K:aK}:fm K (λxs H Q=>(∃i,xs=[.int i]/\Q (.int i) H)\/∃k,xs=[.bl k]/\Q (.int (if k then 1 else 0)) H) kW:=by
 intro m h H vs xs w h' Q r q e k;unfold kW at e;split at e<;>try cases e
 obtain⟨v,rfl,q1⟩:=eu q;cases q1;exact .inl ⟨_,rfl,aM.here k r (.int _)⟩;obtain⟨v,rfl,q1⟩:=eu q;cases q1;exact .inr ⟨_,rfl,aM.here k r (.int _)⟩
theorem Wy{K:aK}:fm K (λxs H Q=>∃i,xs=[.int i]/\Q (.int (if i<0 then -i else i)) H) kX:=by
 intro m h H vs xs w h' Q r q e k;unfold kX at e;split at e<;>try cases e
 obtain⟨v,rfl,q1⟩:=eu q;cases q1;exact⟨_,rfl,aM.here k r (.int _)⟩
theorem lT{K:aK}{m:Nat->ai}{n:Nat}{H:Hp}{vs:List V}{w z:W}(q:aF K m n H vs [w,z]):∃v u,vs=[v,u]/\aJ K m n H v w/\aJ K m n H u z:=by cases q with|cons q r=>obtain⟨u,rfl,h⟩:=eu r;exact⟨_,_,rfl,q,h⟩
theorem Od{K:aK}{m:Nat->ai}{n:Nat}{H:Hp}:∀{vs:List V} {ws:List W} {is:List Int},aF K m n H vs ws->aO iZ ws=aC is->vs=is.map .int
 |_,_,_,.nil,e=>by cases e;rfl
 |_,_,_,.cons (w:=w) (ws:=ws) q r,e=>by
  unfold aO at e;cases z:iZ w with
  |none=>rw[z]at e;cases e
  |some b=>
   rw[z]at e;cases z2:aO iZ ws with
   |none=>rw[z2]at e;cases e
   |some cs=>
    rw[z2]at e;cases e;unfold iZ at z;split at z<;>cases z;cases q;rw[Od r z2];rfl
theorem Oe:∀(r:List Int) (x:Int),x<=dJ x r/\∀y∈r,y<=dJ x r
 |[],x=>⟨Int.le_refl _,λ_ h=>nomatch h⟩
 |y::r,x=>by
  have h:=Oe r (if y>x then y else x);by_cases q:y>x;rw[if_pos q]at h;have e:dJ x (y::r)=dJ y r:=by show dJ (if y>x then y else x) r=_;rw[if_pos q]
  rw[e];refine⟨by have:=h.1;lia,λz hz=>?_⟩;rcases eG.mp hz with rfl|hz
  exact h.1;exact h.2 z hz;rw[if_neg q]at h;have e:dJ x (y::r)=dJ x r:=by show dJ (if y>x then y else x) r=_;rw[if_neg q]
  rw[e];refine⟨h.1,λz hz=>?_⟩;rcases eG.mp hz with rfl|hz
  have:=h.1;lia;exact h.2 z hz
theorem Of:∀(r:List Int) (x:Int),dJ x r∈x::r
 |[],x=>fY
 |y::r,x=>by
  have h:=Of r (if y>x then y else x);by_cases q:y>x;rw[if_pos q]at h;have e:dJ x (y::r)=dJ y r:=by show dJ (if y>x then y else x) r=_;rw[if_pos q]
  rw[e];exact ff _ h;rw[if_neg q]at h;have e:dJ x (y::r)=dJ x r:=by show dJ (if y>x then y else x) r=_;rw[if_neg q]
  rw[e];rcases eG.mp h with h|h
  rw[h];exact fY
  exact ff _ (ff _ h)
theorem Wz{K:aK}:fm K (λxs H Q=>(∃i j,xs=[.int i,.int j]/\Q (.int (if j>i then j else i)) H)\/∃(p:ai) (ns:List Int),xs=[.ref p]/\cC K H p (ns.map .int)/\0<ns.length/\∀M,M∈ns->(∀a∈ns,a<=M)->Q (.int M) H) qM:=by
 intro m h H vs xs w h' Q r q e k;unfold qM at e;split at e<;>try cases e
 obtain⟨v,u,rfl,q1,q2⟩:=lT q;cases q1;cases q2;exact .inl ⟨_,_,rfl,aM.here k r (.int _)⟩;rename_i i;split at e<;>try cases e
 rename_i ws g;split at e<;>try cases e
 rename_i x rs z;obtain⟨v,rfl,q1⟩:=eu q;cases q1;obtain⟨us,p1,p2⟩:=r.lst g;refine .inr ⟨_,x::rs,rfl,?_,Nat.succ_pos _,λM h1 h2=>?_⟩;rw[<-Od p2 z];exact .inl (.inl p1);have l1:=Oe rs x;have hM:M=dJ x rs:=by
  have a1:M<=dJ x rs:=by rcases eG.mp h1 with rfl|h1;exact l1.1;exact l1.2 M h1
  have a2:=h2 _ (Of rs x);lia
 rw[hM];exact aM.here k r (.int _)
theorem WA{K:aK}:fm K (λxs H Q=>∃i j,xs=[.int i,.int j]/\Q (.int (if j<i then j else i)) H) kY:=by
 intro m h H vs xs w h' Q r q e k;unfold kY at e;split at e<;>try cases e
 obtain⟨v,u,rfl,q1,q2⟩:=lT q;cases q1;cases q2;exact⟨_,_,rfl,aM.here k r (.int _)⟩
theorem Og{K:aK}{m:Nat->ai}{n:Nat}{H:Hp}:∀{vs:List V} {ws:List W} {bs:List Bool},aF K m n H vs ws->aO tP ws=aC bs->vs=bs.map .bl
 |_,_,bs,.nil,e=>by cases e;rfl
 |_,_,bs,.cons (w:=w) (ws:=ws) q r,e=>by
  unfold aO at e;cases z:tP w with
  |none=>rw[z]at e;cases e
  |some b=>
   rw[z]at e;cases z2:aO tP ws with
   |none=>rw[z2]at e;cases e
   |some cs=>
    rw[z2]at e;cases e;unfold tP at z;split at z<;>cases z;cases q;rw[Og r z2];rfl
theorem WB{K:aK}:fm K (λxs H Q=>∃(p:ai) (bs:List Bool),xs=[.ref p]/\cC K H p (bs.map .bl)/\Q (.bl (bs.all id)) H) mV:=by
 intro m h H vs xs w h' Q r q e k;unfold mV at e;split at e<;>try cases e
 rename_i i;split at e<;>try cases e
 rename_i ws g;obtain⟨v,rfl,q1⟩:=eu q;obtain⟨e,rfl⟩:=of_ok e;cases z:aO tP ws with
 |none=>rw[z]at e;cases e
 |some bs=>
  rw[z]at e;cases e;cases q1;obtain⟨us,p1,p2⟩:=r.lst g;refine⟨_,bs,rfl,?_,aM.here k r (.bl _)⟩;rw[<-Og p2 z];exact .inl (.inl p1)
noncomputable def qQ:Ty->String|.int=>"int" |.bool=>"bool" |.tuple=>"tuple" |.list=>"list" |.str=>"str" |.dict=>"dict"
noncomputable def Bm(K:aK)(n:String):List V->Hp->VK->Prop:=λxs H Q=>∃x b,xs=[x,.ty n]/\((∃t,fJ K H x t/\PySem.W.kitOne K t (.type n)=aC b)\/(∃a vs,x=.ref a/\bU K H a vs/\PySem.W.kitOne K (.type "tuple") (.type n)=aC b)\/∃a kvs,x=.ref a/\Rd H a (.dK kvs)/\PySem.W.kitOne K (.type "dict") (.type n)=aC b)/\Q (.bl b) H
theorem WC(n:String):bO X (.builtin "isinstance") (Bm X.K n):=by
 intro pins s σ H xs us Q I r h;obtain⟨x,b,rfl,hi,q⟩:=h;obtain⟨u,u2,rfl,rx,rc⟩:=vals2 r;obtain rfl:u2=Value.type n:=rc;rcases hi with⟨t,ty,e⟩|⟨a,vs,rfl,sq,e⟩|⟨a,kvs,rfl,rd,e⟩
 exact S3 I rx ty e λtk=>⟨.bl b,H,I.tok _,rfl,q⟩
 obtain rfl:u=Value.ref a:=rx;obtain⟨its,_,p,_⟩:=I.tuple sq;obtain⟨o,h1,h2,_⟩:=p;exact mH PySem.W.kitx_tuple I.iV ⟨o,h1,h2⟩ e (λz=>nomatch z) λtk=>⟨.bl b,H,I.tok _,rfl,q⟩
 obtain rfl:u=Value.ref a:=rx;obtain⟨_,_,_,_,o,_,_,h1,h2,_⟩:=jP I.hok rd;exact mH PySem.W.kitx_dict I.iV ⟨o,h1,h2.1⟩ e (λz=>nomatch z) λtk=>⟨.bl b,H,I.tok _,rfl,q⟩
theorem WD{K:aK}(t:Ty){m:Nat->ai}{h:VH}{H:Hp}{v:V}{x:W}{b:Bool}(r:Rel K m h H)(q:aJ K m h.n H v x)(e:dX t h x=aC b) :
 (∃t',fJ K H v t'/\PySem.W.kitOne K t' (.type (qQ t))=aC b)\/(∃a vs,v=.ref a/\bU K H a vs/\PySem.W.kitOne K (.type "tuple") (.type (qQ t))=aC b)\/∃a kvs,v=.ref a/\Rd H a (.dK kvs)/\PySem.W.kitOne K (.type "dict") (.type (qQ t))=aC b:=by
 cases q with
 |aL=>cases e;refine .inl ⟨_,.aL,?_⟩;cases t<;>rfl
 |bl x=>cases e;refine .inl ⟨_,.bl x,?_⟩;cases t<;>rfl
 |int x=>cases e;refine .inl ⟨_,.int x,?_⟩;cases t<;>rfl
 |str x=>cases e;refine .inl ⟨_,.str x,?_⟩;cases t<;>rfl
 |tup sq rs=>cases e;refine .inr (.inl ⟨_,_,rfl,sq,?_⟩);cases t<;>rfl
 |fz _ _=>cases e
 | @ref i hi=>
  simp only[dX]at e;cases g:h.get i with
  |none=>rw[g]at e;cases e
  |some o=>
   rw[g]at e;cases o with
   |lst ws=>
    cases e;obtain⟨vs,h1,h2⟩:=r.lst g;refine .inl ⟨_,.lst h1,?_⟩;cases t<;>rfl
   |dk ws=>
    cases e;obtain⟨vs,h1,h2⟩:=r.dk g;refine .inr (.inr ⟨_,_,rfl,h1,?_⟩);cases t<;>rfl
   |dm _=>cases e
   |dt _ _=>cases e
theorem WE(t:Ty){T:Str}{p2:Pos}(ha:SE X e fa)(hs:gf e)(hg:Gl X "isinstance")(hm:X.mg "isinstance" = aD)(WG:Gl X T)(WH:X.mg T=aD)(WI:bootBuiltins T=aC (.type (qQ t)))(hn:T≠"__name__")(hd:(T==("__debug__" : Str))=false) :
 SE X (.Call (.Name "isinstance" p) [e,.Name T p2] [] pos) (λρ h=>(fa ρ h).bind λx h=>.of ((dX t h x).map .bl) h):=by
 have hT:PE X (.Name T p2) (tC (.ty (qQ t))):=RE WG WH WI rfl hn hd;refine(MQ (WC (qQ t)) hg hm PyProof.Rows.boot_isinstance (zS ha (zS hT DU) (fE hs)) (by decide) (by decide) (fE hs) rfl).imp λσ H Q q=>?_;refine NV (g:=λx h=>.of ((dX t h x).map .bl) h) (G:=λv H1 Q=>Bm X.K (qQ t) [v,.ty (qQ t)] H1 Q) (λm h H v x w h' Q r q e k=>?_) q;obtain⟨e,rfl⟩:=of_ok e;cases z:dX t h' x with
 |none=>rw[z]at e;cases e
 |some b=>
  rw[z]at e;cases e;exact⟨v,b,rfl,WD t r q z,aM.here k r (.bl b)⟩
noncomputable def EC:aq->Bool|.Name .. |.Subscript ..=>true|_=>false
theorem Oh{o:aq}{m:Str}{env:Env}(h:EC o):attributeBase o m env (eval o env)=eval o env:=by cases o<;>first|rfl|cases h
noncomputable abbrev Oi(m:Mt)(fo fa:FE):FE:=λρ h=>(fo ρ h).bind λx h=>if lS m h x then(fa ρ h).bind λy h=>match y with|.tup ys=>lR m x ys h|_=>.no else .no
theorem WJ{apos:Pos}(ho:SE X o fo)(he:SE X e fa)(hb:EC o)(hs:gf e)(hl:(apos.endLine==pos.line)) :
 SE X (.Call (.Attribute o "append" apos) [e] [] pos) (Oi .append fo (iw fa k7)):=by
 refine(Ad (X:=X) PySem.F.plainAttrs_list PySem.F.slot_list_append PySem.F.type_list_append Gz ho (zS he DU (fE hs)) (Oh hb) ?_ hl (fE hs) rfl).imp λσ H Q z9=>z9.el λρ h m w h' f r e k=>?_;rw[fE hs];rfl;refine bH e λx h1 e1 e2=>?_;split at e2;rename_i hk;refine bH e2 λy h2 e3 e4=>?_;refine bH e3 λz h3 e5 e6=>?_;cases e6;refine(.mk f r e1 λv H1 m1 s1 r1 q1=>?_);cases x<;>try cases hk
 rename_i i;simp only[lS]at hk;cases g:h1.get i with
 |none=>rw[g]at hk;cases hk
 |some ob=>
  rw[g]at hk;cases ob with
  |dk _=>cases hk
  |dm _=>cases hk
  |dt _ _=>cases hk
  |lst NO=>
   cases q1;obtain⟨NN,p1,_⟩:=r1.lst g;refine⟨.inl ⟨rfl,NN,cC.of p1⟩,ρ,h1,m1,z,h2,f.stp s1,r1,e5,λv2 H2 m2 s2 r2 q2=>?_⟩;simp only[lR]at e4;cases g2:h2.get i with
   |none=>rw[g2]at e4;cases e4
   |some ob=>
    rw[g2]at e4;cases ob with
    |dk _=>cases e4
    |dm _=>cases e4
    |dt _ _=>cases e4
    |lst ws=>
     simp only at e4;split at e4;rename_i hz;cases e4;obtain⟨vs,p2,p3⟩:=r2.lst g2;have hmi:m1 i=m2 i:=(s2.same i (cy g)).symm;refine⟨m1 i,vs,v2,rfl,rfl,by rw[hmi];exact p2,by rw[p3.length];exact gw.mp hz,?_⟩;obtain⟨st,r'⟩:=r2.write (i:=i) (o:=.lst (ws++[z])) (u:=.lst (vs++[v2])) (cy g2) p2 (λ_ z=>nomatch z) (λ_ _ z=>nomatch z) λst=>⟨vs++[v2],gn,(p3.stp st).append (.cons (q2.stp st) .nil)⟩
     rw[hmi];exact k .aL _ m2 ((s1.trans s2).trans st) r' .aL;cases e4
 cases e2
end
section
variable{K:aK}{m m' m1:Nat->ai}{n n' n1:Nat}{h h':VH}{H H' H1:Hp}
mutual
theorem aJ.mono(hn:n<=n')(hm:∀i,i<n->m' i=m i)(kt:∀b vs,H b=aC (.tup vs)->H' b=aC (.tup vs))(kf:∀b o u,H b=aC (.bI o u)->H' b=aC (.bI o u)):∀{v:V} {w:W},aJ K m n H v w->aJ K m' n' H' v w
 |_,_,.aL=>.aL
 |_,_,.bl b=>.bl b
 |_,_,.int b=>.int b
 |_,_,.str b=>.str b
 |_,_,.tup q r=>.tup (by
  rcases q with(q|⟨o,q⟩)|q;exact .inl (.inl (kt _ _ q));exact .inl (.inr ⟨o,kf _ _ _ q⟩);exact .inr q) (aF.mono hn hm kt kf r)
 |_,_,.fz q r=>.fz (by
  rcases q with⟨o,q⟩|q;exact .inl ⟨o,kf _ _ _ q⟩;exact .inr q) (aF.mono hn hm kt kf r)
 |_,_,.ref (i:=i) q=>by rw[<-hm i q];exact .ref (dS q hn)
theorem aF.mono(hn:n<=n')(hm:∀i,i<n->m' i=m i)(kt:∀b vs,H b=aC (.tup vs)->H' b=aC (.tup vs))(kf:∀b o u,H b=aC (.bI o u)->H' b=aC (.bI o u)):∀{vs:List V} {ws:List W},aF K m n H vs ws->aF K m' n' H' vs ws|_,_,.nil=>.nil|_,_,.cons q r=>.cons (aJ.mono hn hm kt kf q) (aF.mono hn hm kt kf r)
end
theorem Rel.side(r:Rel K m h H){D:ai}{u u0:HO}(hu:H D=aC u0)(ht:∀t,u0≠.tup t)(hf:∀o t,u0≠.bI o t)(ho:∀i,i<h.n->m i≠D)(s:bP m1 n1 H1 m h.n H)(h0:H1 D=aD) :
 bP m1 n1 H1 m h.n (upd H D u)/\Rel K m h (upd H D u)/\∀{v:V}{w:W},aJ K m h.n H v w->aJ K m h.n (upd H D u) v w:=by
 have kt:∀b vs,H b=aC (.tup vs)->upd H D u b=aC (.tup vs):=λb vs q=>by rw[bW (cU q hu λz=>ht vs z.symm)];exact q
 have kf:∀b o t,H b=aC (.bI o t)->upd H D u b=aC (.bI o t):=λb o t q=>by rw[bW (cU q hu λz=>hf o t z.symm)];exact q
 have mv:∀{v:V}{w:W},aJ K m h.n H v w->aJ K m h.n (upd H D u) v w:=λq=>q.mono (aW _) (λ_ _=>rfl) kt kf;refine⟨⟨s.le,s.same,s.new,s.apart,λb vs q=>kt b vs (s.tup b vs q),λb o t q=>kf b o t (s.bI b o t q),λb o nb q=>by rw[bW (gW q h0)];exact s.keep b o nb q⟩,⟨λi hi=>?_,r.inj,r.len⟩,mv⟩;obtain⟨o,h1,h2⟩:=r.obj i hi;have eq:upd H D u (m i)=H (m i):=bW (ho i hi);refine⟨o,h1,?_⟩;cases o with|lst ws=>obtain⟨vs,q1,q2⟩:=h2;exact⟨vs,eq.trans q1,q2.map mv⟩|dk ws=>obtain⟨vs,q1,q2⟩:=h2;exact⟨vs,q1.imp (λz=>eq.trans z) λ⟨o,z⟩=>⟨o,eq.trans z⟩,q2.map mv⟩|dm ws=>obtain⟨vs,q1,q2⟩:=h2;exact⟨vs,eq.trans q1,q2.map mv⟩|dt ks ws=>obtain⟨xs,q1,q0,q2,q3⟩:=h2;exact⟨xs,q1.imp (λz=>eq.trans z) λ⟨o,z⟩=>⟨o,eq.trans z⟩,q0,q2.map mv,q3.map mv⟩
theorem Rel.out(r:Rel K m h H){p:ai}(hp:H p=aD):∀i,i<h.n->m i≠p:=λi hi z=>by
 obtain⟨o',_,h2⟩:=r.obj i hi;obtain⟨u',h3⟩:=h2.some;rw[z,hp]at h3;cases h3
theorem bP.out(s:bP m n H m' n' H'){p:ai}{u:HO}(hp:∀i,i<n->m i≠p)(hu:H p=aC u):∀i,i<n'->m' i≠p:=λi hi z=>by
 by_cases hl:i<n;exact hp i hl ((s.same i hl).symm.trans z);have:=s.new i (jE.mp hl) hi;rw[z,hu]at this;cases this
end
inductive gK(K:aK)(m:Nat->ai)(n:Nat)(H:Hp):List (V×V)->List W->Prop
 |nil:gK K m n H [] []
 |cons {k v:V} {a b:W} {ps:List (V×V)} {ws:List W}:aJ K m n H k a->aJ K m n H v b->gK K m n H ps ws->gK K m n H ((k,v)::ps) (a::b::ws)
noncomputable def oq(K:aK)(f:FE)(σ:L2.St)(H:Hp)(Q:List (V×V)->Hp->Prop):Prop:=∃ρ h m ws h',Fr K m h.n H σ ρ/\Rel K m h H/\f ρ h=.ok (.tup ws) h'/\
 ∀ps H' m',bP m h.n H m' h'.n H'->Rel K m' h' H'->gK K m' h'.n H' ps ws->Q ps H'
theorem oq.el{K:aK}{σ:L2.St}{H:Hp}{P:Prop}{fa:FE}{Q:List (V×V)->Hp->Prop}(q:oq K fa σ H Q)(k:∀ρ h m ws h',Fr K m h.n H σ ρ->Rel K m h H->fa ρ h=.ok (.tup ws) h'->(∀ps H' m',bP m h.n H m' h'.n H'->Rel K m' h' H'->gK K m' h'.n H' ps ws->Q ps H')->P):P:=by obtain⟨ρ,h,m,w,h',f,r,e,k'⟩:=q;exact k ρ h m w h' f r e k'
theorem oq.mk{K:aK}{σ:L2.St}{H:Hp}{m:Nat->ai}{ρ:En}{h h':VH}{ws:List W}{fa:FE}{Q:List (V×V)->Hp->Prop}(f:Fr K m h.n H σ ρ)(r:Rel K m h H)(e:fa ρ h=.ok (.tup ws) h')(k:∀ps H' m',bP m h.n H m' h'.n H'->Rel K m' h' H'->gK K m' h'.n H' ps ws->Q ps H'):oq K fa σ H Q:=⟨ρ,h,m,ws,h',f,r,e,k⟩
noncomputable def Bo(X:Cx)(pos:Pos)(keys:List (Option aq))(values:List aq)(f:FE):Prop:=∃lJ,As X pos keys values lJ/\∀σ H Q,oq X.K f σ H Q->Eh lJ σ H Q
section
variable{X:Cx}{a b c e o:aq}{es:List aq}{fa fb fc fo fr:FE}{pos p:Pos}{x:Str}
theorem WK:Bo X pos [] [] k7:=⟨[],Uu,λσ H Q z9=>z9.el λρ h m ws h' f r e k=>by cases e;exact k [] H m .refl r .nil⟩
theorem WL{ks:List (Option aq)}{vs:List aq}(ha:SE X a fa)(hb:SE X b fb)(hr:Bo X pos ks vs fr):Bo X pos (aC a::ks) (b::vs) (iw fa (iw fb fr)):=by
 obtain⟨lJ,h1,h2⟩:=hr;refine⟨_,Uv ha hb h1,λσ H Q z9=>z9.el λρ h m ws h' f r e k=>?_⟩;refine bH e λx h3 e1 e2=>?_;refine bH e2 λy h4 e3 e4=>?_;refine bH e3 λx2 h5 e5 e6=>?_;refine bH e6 λy2 h6 e7 e8=>?_;cases y2<;>try cases e8
 cases e4;rename_i ys;exact(.mk f r e1 λv H1 m1 s1 r1 q1=>(.mk (f.stp s1) r1 e5 λv2 H2 m2 s2 r2 q2=>h2 σ H2 _ (.mk ((f.stp s1).stp s2) r2 e7 λps H3 m3 s3 r3 q3=>
  k _ H3 m3 ((s1.trans s2).trans s3) r3 (.cons ((q1.stp s2).stp s3) (q2.stp s3) q3))))
theorem Oj{K:aK}{m:Nat->ai}{n:Nat}{H:Hp}:∀{ps:List (V×V)} {ws:List W} {kws:List (Key×W)},gK K m n H ps ws->vH ws=aC kws->∃kvs:List (Key×V),ps=kvs.map (λkv=>(kV kv.1,kv.2))/\aP K m n H kvs kws
 |_,_,_,.nil,e=>by cases e;exact⟨[],rfl,.nil⟩
 |_,_,_,.cons (a:=a) (v:=v) q1 q2 r,e=>by
  simp only[vH]at e;split at e;rename_i k hk;split at e;rename_i kvs hp;cases e;obtain⟨kv,rfl,r'⟩:=Oj r hp;refine⟨(k,v)::kv,?_,.cons q2 r'⟩;rw[cu,Wm q1 hk];cases e;cases e
noncomputable abbrev HZ(f:FE):FE:=λρ h=>(f ρ h).bind λy h=>match y with
 |.tup ys=>(match vH ys with
  |some kvs=>if Nat.ble kvs.length 15 then .ok (.ref h.n) (h.new (A2 kvs))else .no
  |none=>mW ys h)
 |_=>.no
theorem WM{K:aK}{m:Nat->ai}{n:Nat}{H:Hp}{ps:List (V×V)}{a b:W}(q:gK K m n H ps [a,b]):∃k v,ps=[(k,v)]/\aJ K m n H k a/\aJ K m n H v b:=by cases q with|cons q1 q2 r=>cases r;exact⟨_,_,rfl,q1,q2⟩
theorem WN(hu:X.A.units+2<cLine){keys:List (Option aq)}{values:List aq}(hp:Bo X pos keys values fa)(hall:keys.all (·.isSome))(hl:keys.length=values.length)(h0:keys≠[])(HA:keys.length<=15):SE X (.Dict keys values pos) (HZ fa):=by
 obtain⟨lJ,h1,h2⟩:=hp;refine(VC hu h1 hall hl h0 HA).imp λσ H Q z9 p hp=>z9.el λρ h m w h' f r e k=>?_;refine bH e λy h3 e1 e2=>?_;cases y<;>try cases e2
 rename_i ys;obtain⟨j0,r0⟩:=r.more (u:=.dK []) hp;refine h2 σ _ _ (.mk (f.stp j0) r0 e1 λps H2 m2 s2 r2 q2=>?_);have hout:=s2.out (r.out hp) gn;have hD:H2 p=aC (.dK []):=s2.keep p _ (r.out hp) gn;refine⟨hD,?_⟩;have e2:(match vH ys with|some kvs=>if Nat.ble kvs.length 15 then Res.ok (W.ref h3.n) (h3.new (A2 kvs))else .no|none=>mW ys h3)=.ok w h':=e2
 cases hk:vH ys with
 |none=>
  rw[hk]at e2;have e5:mW ys h3=.ok w h':=e2;clear e2
  try(rename_i WO;clear WO)
  unfold mW at e5;split at e5;rename_i kw vw;split at e5;rename_i dk hd;cases e5;obtain⟨kv,vv,rfl,q3,q4⟩:=WM q2;obtain⟨b,rfl,kk⟩:=x8 q3 hd;refine .inr ⟨b,dk,vv,rfl,kk,?_⟩;obtain⟨st,r'⟩:=r2.adopt (o:=.dt [kw] [vw]) (u:=kE [(dk,b,vv)] p) hout hD (λ_ z=>nomatch z) (λ_ _ z=>nomatch z) (j0.trans s2) hp λ_ mv=>⟨[(dk,b,vv)],.inl gn,by simp[aO,hd],.cons (mv q3) .nil,.cons (mv q4) .nil⟩
  refine k _ _ _ st r' ?_;have:aJ X.K (λi=>if i=h3.n then p else m2 i) (h3.n+1) (upd H2 p (kE [(dk,b,vv)] p)) (.ref ((λi=>if i=h3.n then p else m2 i) h3.n)) (.ref h3.n):=.ref (je _);simp only[bQ]at this;exact this;cases e5;cases e5
 |some kws=>
  rw[hk]at e2;have e2:(if Nat.ble kws.length 15 then Res.ok (W.ref h3.n) (h3.new (A2 kws))else .no)=.ok w h':=e2;by_cases hz:Nat.ble kws.length 15=true;rw[if_pos hz]at e2;cases e2;obtain⟨kvs,e3,q3⟩:=Oj q2 hk;refine .inl ⟨kvs,e3,by rw[q3.length];exact jD hz,?_⟩;obtain⟨st,r'⟩:=r2.adopt (o:=A2 kws) (u:=.dK (tG [] kvs)) hout hD (λ_ z=>nomatch z) (λ_ _ z=>nomatch z) (j0.trans s2) hp λ_ mv=>by
   cases kws with|nil=>cases q3;exact⟨[],.inr ⟨rfl,gn⟩,rfl,.nil,.nil⟩|cons k1 kws=>exact⟨_,.inl gn,(q3.merge .nil).map mv⟩
  refine k _ _ _ st r' ?_;have:aJ X.K (λi=>if i=h3.n then p else m2 i) (h3.n+1) (upd H2 p (.dK (tG [] kvs))) (.ref ((λi=>if i=h3.n then p else m2 i) h3.n)) (.ref h3.n):=.ref (je _);simp only[bQ]at this;exact this;rw[if_neg hz]at e2;cases e2
noncomputable def ou(K:aK)(np:Nat)(g:List W->VH->Res W):Sp:=λvs H Q _=>vs.length=np/\∃h m ws w h',Rel K m h H/\aF K m h.n H vs ws/\g ws h=.ok w h'/\aM K m h.n H w h' Q
theorem WQ{k:Nat}{f:ai}{fd:av}{ps:List Str}{g:List W->VH->Res W}(F:fy X.prog X.w X.K X.mg X.base lG k f fd ps (ou X.K ps.length g))(hr:cQ k X.A)(hg:Gl X x)(hm:X.mg x=aC (.ref f))(hk:PySem.W.keepIn X.K (.ref f)=true)
 (hb:Binds X.K fd ps []) (ha:SA X (e::es) fa) (hs:(e::es).all gf) (hdb:(x==("__debug__" : Str))=false) (hn:∀ws h w h',g ws h=.ok w h'->ws.length=ps.length):SE X (.Call (.Name x p) (e::es) [] pos) (iy fa g):=by
 rw[kr,bD]at hs;refine(MI F hr hg hm hk hb .nil nX ha hdb (fE hs.1) (Bk hs.2)).imp λσ H Q q=>vI (G:=λvs H1 Q=>ou X.K ps.length g (vs++[]) H1 Q E0) (λm h H vs xs w h' Q r q e k=>?_) q;rw[nt];exact⟨by rw[q.length];exact hn _ _ _ _ e,h,m,xs,w,h',r,q,e,k⟩
theorem WR{k:Nat}{f:ai}{fd:av}{ps:List Str}{g:List W->VH->Res W}(F:fy X.prog X.w X.K X.mg X.base lG k f fd ps (ou X.K ps.length g))(hr:cQ k X.A)(hg:Gl X x)(hm:X.mg x=aC (.ref f))(hk:PySem.W.keepIn X.K (.ref f)=true)
 (hb:Binds X.K fd ps []) (hdb:(x==("__debug__" : Str))=false) (hn:∀ws h w h',g ws h=.ok w h'->ws.length=ps.length):SE X (.Call (.Name x p) [] [] pos) (iy k7 g):=by
 refine(S7 F hr hg hm hk hb .nil nX hdb).imp λσ H Q z9=>z9.el λρ h m w h' f r e k=>?_;exact⟨hn _ _ _ _ e,h,m,[],w,h',r,.nil,e,k⟩
theorem WS{k:Nat}{f:ai}{fd:av}{ps:List Str}{g:List W->VH->Res W}(F:fy X.prog X.w X.K X.mg X.base lG k f fd ps (ou X.K ps.length g))(hr:cQ k X.A)(hg:Gl X x)(hm:X.mg x=aC (.ref f))(hk:PySem.W.keepIn X.K (.ref f)=true)
 (hb:Binds X.K fd ps [.none]) (ha:SA X (e::es) fa) (hs:(e::es).all gf) (hdb:(x==("__debug__" : Str))=false) (hn:∀ws h w h',g ws h=.ok w h'->ws.length=ps.length):SE X (.Call (.Name x p) (e::es) [] pos) (iy fa λws h=>g (ws++[.aL]) h):=by
 rw[kr,bD]at hs;refine(MI F hr hg hm hk hb (nV:=[V.aL]) (.cons rfl .nil) nX ha hdb (fE hs.1) (Bk hs.2)).imp λσ H Q q=>vI (G:=λvs H1 Q=>ou X.K ps.length g (vs++[V.aL]) H1 Q E0) (λm h H vs xs w h' Q r q e k=>?_) q;have q':aF X.K m h.n H (vs++[V.aL]) (xs++[W.aL]):=q.append (.cons .aL .nil);exact⟨by rw[q'.length];exact hn _ _ _ _ e,h,m,xs++[W.aL],w,h',r,q',e,k⟩
noncomputable def iO(K:aK)(nx:Nat->VH->Option (Option W))(J:It)(P:(Nat->ai)->Nat->Hp->Prop):Prop:=
 (∀m n H m' n' H',n<=n'->(∀i,i<n->m' i=m i)->(∀b vs,H b=aC (.tup vs)->H' b=aC (.tup vs))->(∀b o u,H b=aC (.bI o u)->H' b=aC (.bI o u))->P m n H->P m' n' H')/\
 ∀m h H,Rel K m h H->P m h.n H->∀i,(∀w,nx i h=aC (aC w)->J.go i H/\∀y H3,J.uZ i H y H3->bP m h.n H m h.n H3/\Rel K m h H3/\aJ K m h.n H3 y w)/\(nx i h=aC aD->J.stop i H)
noncomputable def cj(K:aK)(kd:Kd)(f:FE):TI:=λσ H R=>∃ρ h m x h',Fr K m h.n H σ ρ/\Rel K m h H/\f ρ h=.ok x h'/\(∃o,bg kd x 0 h'=aC o)/\
 ∀J P H' m',bP m h.n H m' h'.n H'->Rel K m' h' H'->iO K (bg kd x) J P->P m' h'.n H'->R J H'
theorem cj.el{K:aK}{σ:L2.St}{H:Hp}{P:Prop}{kd:Kd}{fa:FE}{R}(q:cj K kd fa σ H R)(k:∀ρ h m x h',Fr K m h.n H σ ρ->Rel K m h H->fa ρ h=.ok x h'->∀o,bg kd x 0 h'=aC o->(∀J P H' m',bP m h.n H m' h'.n H'->Rel K m' h' H'->iO K (bg kd x) J P->P m' h'.n H'->R J H')->P):P:=by obtain⟨ρ,h,m,w,h',f,r,e,⟨o,eo⟩,k'⟩:=q;exact k ρ h m w h' f r e o eo k'
theorem cj.mk{K:aK}{σ:L2.St}{H:Hp}{m:Nat->ai}{ρ:En}{h h':VH}{x:W}{kd:Kd}{fa:FE}{R}(f:Fr K m h.n H σ ρ)(r:Rel K m h H)(e:fa ρ h=.ok x h')(eo:∃o,bg kd x 0 h'=aC o)(k:∀J P H' m',bP m h.n H m' h'.n H'->Rel K m' h' H'->iO K (bg kd x) J P->P m' h'.n H'->R J H'):cj K kd fa σ H R:=⟨ρ,h,m,x,h',f,r,e,eo,k⟩
theorem ED{K:aK}{H H':Hp}{a:ai}{vs:List V}(kt:∀b vs,H b=aC (.tup vs)->H' b=aC (.tup vs))(kf:∀b o u,H b=aC (.bI o u)->H' b=aC (.bI o u))(q:bU K H a vs):bU K H' a vs:=by rcases q with(q|⟨o,q⟩)|q;exact .inl (.inl (kt _ _ q));exact .inl (.inr ⟨o,kf _ _ _ q⟩);exact .inr q
theorem Ol{K:aK}{H H':Hp}{a:ai}{vs:List V}(kf:∀b o u,H b=aC (.bI o u)->H' b=aC (.bI o u))(q:Fz K H a vs):Fz K H' a vs:=by rcases q with⟨o,q⟩|q;exact .inl ⟨o,kf _ _ _ q⟩;exact .inr q
theorem yb{ws:List W}{h:VH}{x:W}{i:Nat}{o:Option W}(e:aS h x=aC ws)(q:bg .seq x i h=aC o):ws[i]?=o:=by simp only[bg,e]at q;cases q;rfl
theorem WT{K:aK}{a:ai}{vs:List V}{ws:List W}:iO K (bg .seq (.tup ws)) (Gh K a) (λm n H=>bU K H a vs/\aF K m n H vs ws):=by refine⟨λm n H m' n' H' hn hm kt kf ⟨q1,q2⟩=>⟨ED kt kf q1,q2.mono hn hm kt kf⟩,λm h H r ⟨q1,q2⟩ i=>⟨λw e=>?_,λe=>?_⟩⟩;have e:=yb (ws:=ws) rfl e;obtain⟨v,h1,h2⟩:=q2.get e;refine⟨⟨vs,v,q1,h1⟩,λy H3 ⟨e3,y3⟩=>?_⟩;subst e3;have:=y3 vs q1;rw[h1]at this;cases this;exact⟨.refl,r,h2⟩;have e:=yb (ws:=ws) rfl e;exact⟨vs,q1,by rw[q2.length];exact mE.mp e⟩
theorem Bp{K:aK}{a:ai}{vs:List V}{ws:List W}:iO K (bg .seq (.fz ws)) (DQ K a) (λm n H=>Fz K H a vs/\aF K m n H vs ws):=by refine⟨λm n H m' n' H' hn hm kt kf ⟨q1,q2⟩=>⟨Ol kf q1,q2.mono hn hm kt kf⟩,λm h H r ⟨q1,q2⟩ i=>⟨λw e=>?_,λe=>?_⟩⟩;have e:=yb (ws:=ws) rfl e;obtain⟨v,h1,h2⟩:=q2.get e;refine⟨⟨vs,v,q1.sq,h1⟩,λy H3 ⟨e3,y3⟩=>?_⟩;subst e3;have:=y3 vs q1.sq;rw[h1]at this;cases this;exact⟨.refl,r,h2⟩;have e:=yb (ws:=ws) rfl e;exact⟨vs,q1.sq,by rw[q2.length];exact mE.mp e⟩
theorem WU{K:aK}{a:ai}{l:Nat}:iO K (bg .seq (.ref l)) (DQ K a) (λm n H=>l<n/\a=m l):=by
 refine⟨λm n H m' n' H' hn hm kt kf ⟨q1,q2⟩=>⟨dS q1 hn,by rw[hm l q1];exact q2⟩,λm h H r ⟨q1,q2⟩ i=>?_⟩;subst q2;cases g:h.get l with
 |none=>exact⟨λw e=>by simp[bg,aS,g]at e,λe=>by simp[bg,aS,g]at e⟩
 |some o=>
  cases o with
  |dk _=>exact⟨λw e=>by simp[bg,aS,g]at e,λe=>by simp[bg,aS,g]at e⟩
  |dm _=>exact⟨λw e=>by simp[bg,aS,g]at e,λe=>by simp[bg,aS,g]at e⟩
  |dt _ _=>exact⟨λw e=>by simp[bg,aS,g]at e,λe=>by simp[bg,aS,g]at e⟩
  |lst ws=>
   have hs:aS h (.ref l)=aC ws:=by simp[aS,g]
   obtain⟨vs,p1,p2⟩:=r.lst g;refine⟨λw e=>?_,λe=>?_⟩;have e:=yb hs e;obtain⟨v,h1,h2⟩:=p2.get e;refine⟨⟨vs,v,cC.of p1,h1⟩,λy H3 ⟨e3,y3⟩=>?_⟩;subst e3;have:=y3 vs (cC.of p1);rw[h1]at this;cases this;exact⟨.refl,r,h2⟩;have e:=yb hs e;exact⟨vs,cC.of p1,by rw[p2.length];exact mE.mp e⟩
theorem Om{K:aK}{kd:Kd}{x:W}{lo:Int}{k:Nat}(hx:∀i h,bg kd x i h=aC (if i<k then aC (.int (lo+i))else aD)):iO K (bg kd x) (zD lo k) (λ_ _ _=>True):=by refine⟨λ_ _ _ _ _ _ _ _ _ _ _=>trivial,λm h H r _ i=>⟨λw e=>?_,λe=>?_⟩⟩;rw[hx]at e;split at e;rename_i hi;cases e;refine⟨hi,λy H3 ⟨e3,y3⟩=>?_⟩;subst e3 y3;exact⟨.refl,r,.int _⟩;cases e;rw[hx]at e;split at e;cases e;rename_i hi;exact jE.mp hi
theorem Oo{tg:aq}(ha:SE X e fa):PI X tg e (cj X.K .seq fa):=λpins s σ H R I z9=>z9.el λρ h m x h' f r ee o en k=>by
 have hs:∃ws,aS h' x=aC ws:=by
  cases z:aS h' x with|none=>simp[bg,z]at en|some ws=>exact⟨ws,rfl⟩
 obtain⟨ws,hs⟩:=hs;cases x<;>try cases hs
 exact Si ha pins s σ H R I (.mk f r ee λv H' m' s' r' q=>by
  cases q with|tup sq rs=>exact⟨_,rfl,⟨_,sq⟩,k _ _ H' m' s' r' WT ⟨sq,rs⟩⟩)
 exact ME ha pins s σ H R I (.mk f r ee λv H' m' s' r' q=>by
  cases q with|fz sq rs=>exact⟨_,rfl,⟨_,sq.sq⟩,k _ _ H' m' s' r' Bp ⟨sq,rs⟩⟩)
 rename_i l;exact ME ha pins s σ H R I (.mk f r ee λv H' m' s' r' q=>by
  obtain⟨p,vs,e1,e2,e3⟩:=xZ r' q hs;cases q with
  |ref hi=>
   cases g:h'.get l with
   |none=>simp[aS,g]at hs
   |some ob=>
    cases ob with
    |dk _=>simp[aS,g]at hs
    |dm _=>simp[aS,g]at hs
    |dt _ _=>simp[aS,g]at hs
    |lst Bb=>
     obtain⟨vs',p1,_⟩:=r'.lst g;exact⟨_,rfl,⟨_,cC.of p1⟩,k _ _ H' m' s' r' WU ⟨hi,rfl⟩⟩)
theorem WV{tg:aq}(ha:SA X [e] fa)(hs:gf e)(hg:Gl X "range")(hm:X.mg "range" = aD):PI X tg (.Call (.Name "range" p) [e] [] pos) (cj X.K .bL fa):=λpins s σ H R I z9=>z9.el λρ h m x h' f r ee o en k=>by
 simp only[bg]at en;split at en;rename_i j;split at en;rename_i hf;refine Sj hg hm ha (fE hs) pins s σ H R I (.mk f r ee λvs H' m' s' r' q=>?_);obtain⟨v,rfl,q1⟩:=eu q;cases q1;refine⟨_,rfl,(vK hf).1,(vK hf).2,k _ _ H' m' s' r' (Om λi h=>?_) trivial⟩;simp only[bg,hf,bQ];split<;>split<;>first|rfl|(exfalso;simp at *;lia)
 cases en;cases en
theorem WW{tg:aq}(ha:SA X [a,b] fa)(hs:gf a)(hs2:gf b)(hg:Gl X "range")(hm:X.mg "range" = aD):PI X tg (.Call (.Name "range" p) [a,b] [] pos) (cj X.K .vC fa):=λpins s σ H R I z9=>z9.el λρ h m x h' f r ee o en k=>by
 simp only[bg]at en;split at en;rename_i i j;split at en;rename_i hf;refine Sk hg hm ha (by rw[fE hs,fE hs2];rfl) (fE hs2) pins s σ H R I (.mk f r ee λvs H' m' s' r' q=>?_);obtain⟨v,u,rfl,q1,q2⟩:=lT q;cases q1;cases q2;have hf2:=hf;rw[bD]at hf2;refine⟨_,_,rfl,⟨(vK hf2.1).1,(vK hf2.1).2,(vK hf2.2).1,(vK hf2.2).2⟩,k _ _ H' m' s' r' (Om λi h=>?_) trivial⟩;simp only[bg,hf,bQ];split<;>split<;>first|rfl|(exfalso;simp at *;lia)
 cases en;cases en
theorem WX{elts:List aq}{kx:Nat}{tp:Pos}{l:aq}{ta:TA}(hg:Gl X "enumerate")(hm:X.mg "enumerate" = aD)(hv:bootBuiltins "enumerate" = aC (.type "enumerate"))(ha:PA X [l] ta)(hs:starEach [l] X.env=[(false,eval l X.env)]) :
 PI X (.Tuple elts kx tp) (.Call (.Name "enumerate" p) [l] [] pos) (λσ H R=>ta σ H λvs H1=>∃a,vs=[.ref a]/\(∃xs,bU X.K H1 a xs)/\R (vt X.K a) H1):=by
 intro pins s σ H R I h;refine Call_ (nT I hg hm hv (sQ (aX (ha pos pins s σ H _ I h) λus s1 ⟨vs,H1,I1,r1,q1⟩=>?_) hs rfl));obtain⟨a,e,⟨xs,hq⟩,q⟩:=q1;subst e;obtain⟨u,rfl,ru⟩:=vals1 r1;cases ru;obtain⟨its,rv,pl,hz⟩:=I1.tuple hq;have pl:s1.heap.IsTuple a its.toArray:=pl;have hlt:a<s1.heap.objs.size:=by obtain⟨o,q,_⟩:=pl;exact cP q
 refine Uj pl λh' he hit hsz kk=>wpAny_pyIter_enum he ?_;have hf:∀b,s1.heap.objs.size<=b->dG X pins H1 b:=λb hb=>I1.jI hb (I1.hok.fresh hb);refine⟨s1.heap.objs.size+1,[s1.heap.objs.size+1,s1.heap.objs.size],_,_,H1,rfl,I1.kept (t':=s1.toks) kk,Uk a _ _ (nk (je _)) (fX (xr hlt)) (fX hlt),⟨⟨_,he⟩,hit⟩,λb hb=>hf b ?_,q⟩;rcases eG.mp hb with rfl|hb
 exact nI _;have e':b=s1.heap.objs.size:=by simpa using hb
 rw[e'];exact aW _
theorem Oq{ws:List W}{h:VH}{i:Nat}{o:Option W}(q:bg .pH (.tup ws) i h=aC o):o=(ws[i]?).map λw=>.tup [.int i,w]:=by cases q;rfl
theorem WY{K:aK}{a:ai}{vs:List V}{ws:List W}:iO K (bg .pH (.tup ws)) (vt K a) (λm n H=>bU K H a vs/\aF K m n H vs ws):=by
 refine⟨λm n H m' n' H' hn hm kt kf ⟨q1,q2⟩=>⟨ED kt kf q1,q2.mono hn hm kt kf⟩,λm h H r ⟨q1,q2⟩ i=>⟨λw e=>?_,λe=>?_⟩⟩;have e:=Oq (ws:=ws) e;cases z:ws[i]? with
 |none=>rw[z]at e;cases e
 |some w0=>
  rw[z]at e;cases e;obtain⟨v,h1,h2⟩:=q2.get z;refine⟨⟨vs,v,q1,h1⟩,λy H3 ⟨T,v3,e1,e2,e3,y3⟩=>?_⟩;subst e1 e3;have:=y3 vs q1;rw[h1]at this;cases this;obtain⟨st,r'⟩:=r.more (u:=.tup [.int i,v]) e2;exact⟨st,r',.tup (bU.of gn) (.cons (.int _) (.cons (h2.stp st) .nil))⟩
 have e:=Oq (ws:=ws) e;cases z:ws[i]? with|some w0=>rw[z]at e;cases e|none=>exact⟨vs,q1,by rw[q2.length];exact mE.mp z⟩
theorem WZ:bootBuiltins "enumerate" = aC (.type "enumerate"):=by decide +kernel
theorem Ot(ha:SE X e fa)(hs:gf e):PA X [e] (λσ H Q=>fZ X.K fa σ H λv H1=>Q [v] H1):=λp pins s σ H Q I q=>by
 refine zS ha DU (fE hs) p pins s σ H Q I ?_;refine q.el λρ h m w h' f r ee k=>?_;exact(.mk f r ee λv H' m' s' r' q'=>k v H' m' s' r' q')
theorem W0{elts:List aq}{kx:Nat}{tp:Pos}(ha:SE X e fa)(hs0:gf e)(hg:Gl X "enumerate")(hm:X.mg "enumerate" = aD):PI X (.Tuple elts kx tp) (.Call (.Name "enumerate" p) [e] [] pos) (cj X.K .pH fa):=λpins s σ H R I z9=>z9.el λρ h m x h' f r ee o en k=>by
 cases x with
 |tup ws=>exact WX hg hm WZ (Ot ha hs0) (fE hs0) pins s σ H R I ⟨ρ,h,m,_,h',f,r,ee,λv H' m' s' r' q=>by
  cases q with|tup sq rs=>exact⟨_,rfl,⟨_,sq⟩,k _ _ H' m' s' r' WY ⟨sq,rs⟩⟩⟩
 |_=>cases en
theorem W2{elts:List aq}{kx:Nat}{tp:Pos}{l l2:aq}{ta:TA}(hg:Gl X "zip")(hm:X.mg "zip" = aD)(ha:PA X [l,l2] ta)(hs:starEach [l,l2] X.env=[(false,eval l X.env),(false,eval l2 X.env)])(hs2:starEach [l2] X.env=[(false,eval l2 X.env)]) :
 PI X (.Tuple elts kx tp) (.Call (.Name "zip" p) [l,l2] [] pos) (λσ H R=>ta σ H λvs H1=>∃b c a1 a2,vs=[.ref a1,.ref a2]/\(∃xs,mS b X.K H1 a1 xs)/\(∃ys,mS c X.K H1 a2 ys)/\R (vA X.K b c a1 a2) H1):=by
 intro pins s σ H R I h;refine Call_ (nT I hg hm PyProof.Rows.boot_zip (sQ (aX (ha pos pins s σ H _ I h) λus s1 ⟨vs,H1,I1,r1,q1⟩=>?_) (by rw[hs,hs2]) (by rw[hs2];rfl)));obtain⟨b,c,a1,a2,e,⟨xs,hq⟩,⟨ys,hr⟩,q⟩:=q1;subst e;cases r1 with
 |cons r rr=>
  cases rr with
  |cons r' rr=>
   cases rr;cases r;cases r';obtain⟨its,_,pl,_⟩:=xT I1 hq;obtain⟨NB,_,Ou,_⟩:=xT I1 hr;refine U1 pl Ou λh' e1 e2 e3 e4 e5 hsz kk=>wpAny_pyIter_zip e1 ?_;have hf:∀b,s1.heap.objs.size<=b->dG X pins H1 b:=λb hb=>I1.jI hb (I1.hok.fresh hb);refine⟨s1.heap.objs.size+4,_,_,_,H1,rfl,I1.kept (t':=s1.toks) kk,U3 a1 a2 _ _ _ _ _ (UO pl.lt Ou.lt),⟨e1,e2,⟨_,_,e3⟩,e4,e5⟩,λb hb=>hf b ?_,q⟩;simp only[eG,xA,wZ]at hb;rcases hb with rfl|rfl|rfl|rfl|rfl
   exact Dh _ _;exact Dh _ _;exact Dh _ _;exact aW _;exact Dh _ _
noncomputable def Src(K:aK)(b:Bool)(a:ai)(u:W)(P:(Nat->ai)->Nat->Hp->Prop):Prop:=
 (∀m n H m' n' H',n<=n'->(∀i,i<n->m' i=m i)->(∀b vs,H b=aC (.tup vs)->H' b=aC (.tup vs))->(∀b o u,H b=aC (.bI o u)->H' b=aC (.bI o u))->P m n H->P m' n' H')/\
 ∀m h H ws,Rel K m h H->P m h.n H->aS h u=aC ws->∃vs,mS b K H a vs/\aF K m h.n H vs ws
theorem Ov{K:aK}{m:Nat->ai}{h:VH}{H:Hp}{v:V}{u:W}{ws:List W}(r:Rel K m h H)(q:aJ K m h.n H v u)(e:aS h u=aC ws):∃b a P,v=.ref a/\Src K b a u P/\P m h.n H/\∃xs,mS b K H a xs:=by
 cases q with
 |aL=>cases e
 |bl b=>cases e
 |int b=>cases e
 |str b=>cases e
 |tup sq rs=>exact⟨true,_,λm n H=>bU K H _ _/\aF K m n H _ _,rfl,⟨λm n H m' n' H' hn hm kt kf ⟨q1,q2⟩=>⟨ED kt kf q1,q2.mono hn hm kt kf⟩,λm h H ws _ ⟨q1,q2⟩ z=>by cases z;exact⟨_,q1,q2⟩⟩,⟨sq,rs⟩,_,sq⟩
 |fz sq rs=>exact⟨false,_,λm n H=>Fz K H _ _/\aF K m n H _ _,rfl,⟨λm n H m' n' H' hn hm kt kf ⟨q1,q2⟩=>⟨Ol kf q1,q2.mono hn hm kt kf⟩,λm h H ws _ ⟨q1,q2⟩ z=>by cases z;exact⟨_,q1.sq,q2⟩⟩,⟨sq,rs⟩,_,sq.sq⟩
 |ref hi=>
  rename_i l;have key:∀m (h:VH) H ws,Rel K m h H->aS h (.ref l)=aC ws->∃vs,H (m l)=aC (.lst vs)/\aF K m h.n H vs ws:=λm h H ws r z=>by
   cases g:h.get l with
   |none=>simp[aS,g]at z
   |some o=>
    cases o with
    |dk _=>simp[aS,g]at z
    |dm _=>simp[aS,g]at z
    |dt _ _=>simp[aS,g]at z
    |lst Bb=>
     have:Bb=ws:=by simpa[aS,g]using z
     subst this;exact r.lst g
  obtain⟨vs,p1,_⟩:=key m h H ws r e;refine⟨false,_,λm' n _=>l<n/\m l=m' l,rfl,⟨λm1 n H m' n' H' hn hm kt kf ⟨q1,q2⟩=>⟨dS q1 hn,by rw[hm l q1];exact q2⟩,λm1 h H ws r' ⟨q1,q2⟩ z=>?_⟩,⟨hi,rfl⟩,vs,cC.of p1⟩;obtain⟨vs,g1,g2⟩:=key m1 h H ws r' z;rw[q2];exact⟨vs,cC.of g1,g2⟩
theorem Ia{u v:W}{h:VH}{i:Nat}{o:Option W}(q:bg .zip (.tup [u,v]) i h=aC o):∃ws zs,aS h u=aC ws/\aS h v=aC zs/\o=(match ws[i]?,zs[i]? with|some a,aC b=>aC (.tup [a,b])|_,_=>aD):=by simp only[bg]at q;split at q;rename_i ws zs h1 h2;cases q;exact⟨ws,zs,h1,h2,rfl⟩;cases q
theorem W3{K:aK}{b c:Bool}{a1 a2:ai}{u v:W}{P1 P2:(Nat->ai)->Nat->Hp->Prop}(s1:Src K b a1 u P1)(s2:Src K c a2 v P2):iO K (bg .zip (.tup [u,v])) (vA K b c a1 a2) (λm n H=>P1 m n H/\P2 m n H):=by
 refine⟨λm n H m' n' H' hn hm kt kf ⟨q1,q2⟩=>⟨s1.1 m n H m' n' H' hn hm kt kf q1,s2.1 m n H m' n' H' hn hm kt kf q2⟩,λm h H r ⟨q1,q2⟩ i=>⟨λw e=>?_,λe=>?_⟩⟩;obtain⟨ws,zs,e1,e2,e3⟩:=Ia e;obtain⟨xs,g1,g2⟩:=s1.2 m h H ws r q1 e1;obtain⟨ys,g3,g4⟩:=s2.2 m h H zs r q2 e2;cases z1:ws[i]? with
 |none=>rw[z1]at e3;cases e3
 |some w1=>
  cases z2:zs[i]? with
  |none=>rw[z1,z2]at e3;cases e3
  |some w2=>
   rw[z1,z2]at e3;cases e3;obtain⟨v1,k1,k2⟩:=g2.get z1;obtain⟨v2,k3,k4⟩:=g4.get z2;refine⟨⟨xs,ys,v1,v2,g1,g3,k1,k3⟩,λy H3 ⟨T,x3,y3,f1,f2,f3,f4,f5⟩=>?_⟩;subst f1 f3;have t1:=f4 xs g1;have t2:=f5 ys g3;rw[k1]at t1;cases t1;rw[k3]at t2;cases t2;obtain⟨st,r'⟩:=r.more (u:=.tup [v1,v2]) f2;exact⟨st,r',.tup (bU.of gn) (.cons (k2.stp st) (.cons (k4.stp st) .nil))⟩
 obtain⟨ws,zs,e1,e2,e3⟩:=Ia e;obtain⟨xs,g1,g2⟩:=s1.2 m h H ws r q1 e1;obtain⟨ys,g3,g4⟩:=s2.2 m h H zs r q2 e2;refine⟨xs,ys,g1,g3,?_⟩;cases z1:ws[i]? with
 |none=>exact .inl (by rw[g2.length];exact mE.mp z1)
 |some w1=>
  cases z2:zs[i]? with|none=>exact .inr (by rw[g4.length];exact mE.mp z2)|some w2=>rw[z1,z2]at e3;cases e3
theorem W4{elts:List aq}{kx:Nat}{tp:Pos}(ha:SA X [a,b] fa)(hs:gf a)(hs2:gf b)(hg:Gl X "zip")(hm:X.mg "zip" = aD):PI X (.Tuple elts kx tp) (.Call (.Name "zip" p) [a,b] [] pos) (cj X.K .zip fa):=λpins s σ H R I z9=>z9.el λρ h m x h' f r ee o en k=>by
 have hx:∃u v,x=.tup [u,v]:=by simp only[bg]at en;split at en;exact⟨_,_,rfl⟩;cases en
 obtain⟨u,v,rfl⟩:=hx;obtain⟨ws,zs,e1,e2,_⟩:=Ia en;refine W2 hg hm ha (by rw[fE hs,fE hs2];rfl) (fE hs2) pins s σ H R I (.mk f r ee λvs H' m' s' r' q=>?_);obtain⟨v1,v2,rfl,q1,q2⟩:=lT q;obtain⟨b1,a1,P1,rfl,o1,p1,x1⟩:=Ov r' q1 e1;obtain⟨b2,a2,P2,rfl,o2,p2,x2⟩:=Ov r' q2 e2;exact⟨b1,b2,a1,a2,rfl,x1,x2,k _ _ H' m' s' r' (W3 o1 o2) ⟨p1,p2⟩⟩
end
section
variable{X:Cx}{a b c e o:aq}{es:List aq}{fa fb fc fo fr:FE}{pos p:Pos}{x:Str}
noncomputable def dg(K:aK)(t:Tg):TG:=λv σ H Q=>∃ρ h m w ρ',Fr K m h.n H σ ρ/\Rel K m h H/\aJ K m h.n H v w/\bz t w h ρ=aC ρ'/\∀σ',Fr K m h.n H σ' ρ'->Q σ' H
theorem dg.el{K:aK}{v:V}{σ:L2.St}{H:Hp}{P:Prop}{tg:Tg}{Q}(q:dg K tg v σ H Q)(k:∀ρ h m w ρ',Fr K m h.n H σ ρ->Rel K m h H->aJ K m h.n H v w->bz tg w h ρ=aC ρ'->(∀σ',Fr K m h.n H σ' ρ'->Q σ' H)->P):P:=by obtain⟨ρ,h,m,w,h',f,r,e,eo,k'⟩:=q;exact k ρ h m w h' f r e eo k'
theorem dg.mk{K:aK}{v:V}{σ:L2.St}{H:Hp}{m:Nat->ai}{ρ ρ':En}{h:VH}{w:W}{tg:Tg}{Q}(f:Fr K m h.n H σ ρ)(r:Rel K m h H)(e:aJ K m h.n H v w)(eo:bz tg w h ρ=aC ρ')(k:∀σ',Fr K m h.n H σ' ρ'->Q σ' H):dg K tg v σ H Q:=⟨ρ,h,m,w,ρ',f,r,e,eo,k⟩
theorem W5{i:Nat}(hN:X.N.Nodup)(hi:X.N[i]?=aC x)(hx:Loc X.env.scope x)(hf:X.fn x=true\/X.env.scope.names.lookup x=aC .local):PG X (.Name x pos) (dg X.K (.one i)):=λpins s σ H v u Q I ru z9=>z9.el λρ h m w ρ' f r q e k=>by
 cases e;exact MC hN hi hx hf pins s σ H v u Q I ru (k _ (f.set q i))
noncomputable def oz(X:Cx)(e:aq)(i:Nat):Prop:=∃x p,e=.Name x p/\X.N[i]?=aC x/\Loc X.env.scope x/\(X.fn x=true\/X.env.scope.names.lookup x=aC .local)
noncomputable def Bq(K:aK)(is:List Nat):qh:=λvs σ H Q=>∃ρ m n ws ρ',Fr K m n H σ ρ/\aF K m n H vs ws/\jZ is ws ρ=aC ρ'/\∀σ',Fr K m n H σ' ρ'->Q σ' H
theorem Ow(hN:X.N.Nodup):∀{es:List aq} {is:List Nat},Paired (oz X) es is->xO X es (Bq X.K is)/\(assignEach es X.env).length=es.length/\(assignEach es X.env).findIdx? (·.1)=aD
 |_,_,.nil=>by
  refine⟨λpins s σ H vs us Q I ru ⟨ρ,m,n,ws,ρ',f,q,e,k⟩=>?_,rfl,rfl⟩;cases ws with|nil=>cases e;cases q;exact R3 pins s σ H [] us Q I ru ⟨rfl,k _ f⟩|cons _ _=>cases e
 |e::es,i::is,.cons ⟨x,p,he,hi,hx,hf⟩ t=>by
  subst he;obtain⟨h1,h2,h3⟩:=Ow hN t;refine⟨λpins s σ H vs us Q I ru ⟨ρ,m,n,ws,ρ',f,q,e,k⟩=>?_,?_,?_⟩;cases q with
  |nil=>cases e
  |cons q qs=>
   exact R4 (MC hN hi hx hf) h1 rfl pins s σ H _ us Q I ru ⟨_,_,rfl,ρ.set i (aC _),m,n,_,ρ',f.set q i,qs,e,k⟩
  show(assignEach es X.env).length+1=es.length+1;rw[h2];show List.findIdx? _ ((false,_)::assignEach es X.env)=aD;rw[List.findIdx?_cons,h3];rfl
theorem Ox:∀{is:List Nat} {ws:List W} {ρ ρ':En},jZ is ws ρ=aC ρ'->ws.length=is.length
 |[],[],_,_,_=>rfl
 |[],_::_,_,_,e=>by cases e
 |_::_,[],_,_,e=>by cases e
 |_::_,_::_,_,_,e=>by
  rw[dj,dj,Ox (by simpa only[jZ]using e)]
theorem W6{t:qh}{n k:Nat}(hc:X.calm)(h:xO X es t)(hn:(assignEach es X.env).length=n)(hst:(assignEach es X.env).findIdx? (·.1)=aD) :
 PG X (.Tuple es k pos) (λv σ H Q=>∃a xs,v=.ref a/\cC X.K H a xs/\xs.length=n/\t xs σ H Q):=by
 intro pins s σ H v u Q I r hw;obtain⟨a,xs,rfl,hq,hl,hw⟩:=hw;cases r;obtain⟨its,rv,ht,hz⟩:=I.list hq;rw[assign_Tuple];refine aG (ni ?_);unfold unpack;have hsz:(assignEach es X.env).length=its.toArray.size:=by rw[hn,<-hl,rv.length,di]
 rw[hst,hsz];refine aG (kL (PySem.W.kun_itemsOf (I.ok.hd hc) ht.isList λh' hx=>?_));have I1:Inv X pins σ H {s with heap:=h'}:=I.kept (t':=s.toks) λb o e=>hx b o (fX (cP e)) e;exact h pins _ σ H xs _ Q I1 (by simpa using rv) hw
theorem Oz{is:List Nat}{k:Nat}(hc:X.calm)(hN:X.N.Nodup)(hs:Paired (oz X) es is):PG X (.Tuple es k pos) (dg X.K (.many is)):=λpins s σ H v u Q I ru z9=>z9.el λρ h m w ρ' f r q e k=>by
 obtain⟨h1,h2,h3⟩:=Ow hN hs;simp only[bz]at e;cases z:aS h w with
 |none=>rw[z]at e;cases e
 |some ws=>
  rw[z]at e;have e:jZ is ws ρ=aC ρ':=e;obtain⟨p,vs,rfl,hq,qs⟩:=xZ r q z;have hl:vs.length=es.length:=by rw[qs.length,Ox e,hs.length]
  rcases hq with hq|hq;exact W6 hc h1 h2 h3 pins s σ H _ u Q I ru ⟨p,vs,rfl,hq,hl,ρ,m,h.n,ws,ρ',f,qs,e,k⟩;exact R5 hc h1 h2 h3 pins s σ H _ u Q I ru ⟨p,vs,rfl,hq,hl,ρ,m,h.n,ws,ρ',f,qs,e,k⟩
theorem OA{K:aK}{m:Nat->ai}{n:Nat}{H:Hp}{σ:L2.St}{ρ:En}{ow fr:List Str}{ix:List Nat}(f:Fr K m n H σ ρ):Fr K m n H (jj ow fr ix σ) (inner ow.length ix ρ):=by
 unfold jj inner;refine⟨by simp,λi w e=>?_⟩;by_cases hi:i<ow.length;rw[uN (by simpa using hi)]at e;rw[Dj]at e;split at e<;>cases e;rw[nJ (by simpa using jE.mp hi)]at e;rw[nJ (by simpa using jE.mp hi)];simp only[yU,bT]at e ⊢;rw[jf]at e ⊢;cases z:ix[i-ow.length]? with
 |none=>rw[z]at e;cases e
 |some j=>
  rw[z]at e;simp only[iT,nP]at e ⊢;have e3:ρ[j]?=aC (aC w):=by
   cases q:ρ[j]? with|none=>rw[q]at e;cases e|some o=>rw[q]at e;rw[<-e];rfl
  obtain⟨v,h1,h2⟩:=f.val j w e3;exact⟨v,by rw[h1];rfl,h2⟩
theorem Ib{nx:Nat->VH->Option (Option W)}{tg:W->VH->En->Option En}{c e:FE}:∀{f i:Nat} {ρ:En} {h:VH} {acc ys:List W} {h':VH},eV nx tg c e f i ρ h acc=.ok ys h'->acc.length<=ys.length
 |0,_,_,_,_,_,_,q=>by cases q
 |f+1,i,ρ,h,acc,ys,h',q=>by
  simp only[eV]at q;split at q;cases q;cases q;simp;split at q;cases q;refine bH q λb h1 e1 e2=>?_;split at e2;refine bH e2 λy h2 e3 e4=>?_;have:=Ib e4;rw[dj]at this;lia;exact Ib e2;cases e2
theorem W7{nx:Nat->VH->Option (Option W)}{tg:W->VH->En->Option En}{c e:FE}{f i:Nat}{ρ:En}{h:VH}{acc ys:List W}{h':VH}(q:eV nx tg c e (f+1) i ρ h acc=.ok ys h'):∃o,nx i h=aC o:=by simp only[eV]at q;split at q;cases q;exact⟨_,by assumption⟩;exact⟨_,by assumption⟩
theorem OB{H:Hp}{a:ai}{o:HO}(h:H a=aC o):upd H a o=H:=by funext b;unfold upd;split;rename_i e;rw[e,h];rfl
noncomputable abbrev Ic(kd:Kd)(fa:FE)(t:Tg)(ow:Nat)(ix:List Nat)(fc fe:FE):FE:=λρ h=>(fa ρ h).bind λx h=>(eV (bg kd x) (bz t) fc fe fuel 0 (inner ow ix ρ) h []).bind λys h=>if Nat.ble ys.length big then .ok (.ref h.n) (h.new (.lst ys))else .no
theorem tR{K:aK}{kd:Kd}{t:Tg}{ow fr:List Str}{ix:List Nat}{fe:FE}{σ:L2.St}{H:Hp}{Q:VK}(q:fZ K (Ic kd fa t ow.length ix fc fe) σ H Q):GS K (jj ow fr ix) (cj K kd fa) (dg K t) (dD K fc) (fZ K fe) σ H Q:=by
 refine q.el λρ h m w h' f r e k=>?_;refine bH e λx h1 e1 e2=>?_;refine bH e2 λys h2 e3 e4=>?_;split at e4
 case isFalse=>cases e4
 rename_i hz;cases e4;have hz:=jD hz;refine(.mk f r e1 ?_ λJ P H1 m1 s1 r1 J1 p1 D hD hK=>?_);exact W7 (f:=999999) e3;obtain⟨j0,r0⟩:=r1.more (u:=.lst []) hD;have p0:=J1.1 m1 h1.n H1 m1 h1.n (upd H1 D (.lst [])) (aW _) (λ_ _=>rfl) (λb vs q=>j0.tup b vs q) (λb o u q=>j0.bI b o u q) p1;refine⟨λi fl σ' H' vs=>∃ρ' h3 m3 acc,eV (bg kd x) (bz t) fc fe fl i ρ' h3 acc=.ok ys h2/\Fr K m3 h3.n H' σ' ρ'/\Rel K m3 h3 H'/\H' D=aC (.lst vs)/\aF K m3 h3.n H' vs acc.reverse/\(∀i,i<h3.n->m3 i≠D)/\bP m1 h1.n H1 m3 h3.n H'/\P m3 h3.n H',
  ⟨fuel,inner ow.length ix ρ,h1,m1,[],e3,OA ((f.stp s1).stp j0),r0,gn,.nil,r1.out hD,j0,p0⟩,?_⟩
 rintro i fl σ' H' vs ⟨ρ',h3,m3,acc,e5,f3,r3,d3,q3,o3,s3,p3⟩;refine⟨d3,?_⟩;cases fl with
 |zero=>cases e5
 |succ fl=>
  simp only[eV]at e5;obtain⟨j1,j2⟩:=J1.2 m3 h3 H' r3 p3 i;split at e5;cases e5;rename_i hn;cases e5;refine .inl ⟨j2 hn,?_⟩;obtain⟨st,r'⟩:=r3.adopt (o:=.lst acc.reverse) (u:=.lst vs) o3 d3 (λ_ z=>nomatch z) (λ_ _ z=>nomatch z) (s1.trans s3) (by
   cases z:H D with
   |none=>rfl
   |some o=>
    have:=s1.keep D o (λi hi z2=>(r1.out hD) i (dS hi s1.le) ((s1.same i hi).trans z2)) z;rw[hD]at this;cases this) λ_ mv=>⟨_,gn,q3.map mv⟩
  rw[OB d3]at st r';refine k _ _ _ st r' ?_;have:aJ K (λi=>if i=h2.n then D else m3 i) (h2.n+1) H' (.ref ((λi=>if i=h2.n then D else m3 i) h2.n)) (.ref h2.n):=.ref (je _);simp only[bQ]at this;exact this;rename_i w hn;obtain⟨j3,j4⟩:=j1 w hn;refine .inr ⟨j3,λy H4 hy=>?_⟩;obtain⟨s4,r4,q4⟩:=j4 y H4 hy;split at e5;cases e5;rename_i oA ht;refine⟨ρ',h3,m3,w,oA,f3.stp s4,r4,q4,ht,λkD f5=>?_⟩;refine bH e5 λbv h6 e6 e7=>?_;have d4:H4 D=aC (.lst vs):=s4.keep D _ o3 d3;have Br:=s3.trans s4;have p4:=J1.1 m3 h3.n H' m3 h3.n H4 (aW _) (λ_ _=>rfl) (λb vs q=>s4.tup b vs q) (λb o u q=>s4.bI b o u q) p3;cases bv<;>try cases e7
  rename_i bb;refine⟨oA,h3,m3,bb,h6,f5,r4,e6,λH6 m6 s6 r6=>?_⟩;have o6:=s6.out o3 d4;have d6:H6 D=aC (.lst vs):=s6.keep D _ o3 d4;have p6:=J1.1 m3 h3.n H4 m6 h6.n H6 s6.le s6.same (λb vs q=>s6.tup b vs q) (λb o u q=>s6.bI b o u q) p4;cases bb with
  |false=>
   simp only[dh,cG];exact⟨fl,je _,oA,h6,m6,acc,e7,f5.stp s6,r6,d6,(q3.stp s4).stp s6,o6,Br.trans s6,p6⟩
  |true=>
   simp only[bQ];refine bH e7 λy7 h7 e8 e9=>?_;refine⟨oA,h6,m6,y7,h7,f5.stp s6,r6,e8,λv7 H7 m7 s7 r7 q7=>?_⟩;have o7:=s7.out o6 d6;have d7:H7 D=aC (.lst vs):=s7.keep D _ o6 d6;have p7:=J1.1 m6 h6.n H6 m7 h7.n H7 s7.le s7.same (λb vs q=>s7.tup b vs q) (λb o u q=>s7.bI b o u q) p6;have OC:=((q3.stp s4).stp s6).stp s7;have hlen:=Ib e9;rw[dj]at hlen;refine⟨d7,?_,fl,je _,oA,h7,m7,y7::acc,e9,?_⟩;rw[OC.length,yV];have:big=sizeLine:=rfl;lia;obtain⟨Ie,r8,mv⟩:=r7.side (u:=.lst (vs++[v7])) d7 (λ_ z=>nomatch z) (λ_ _ z=>nomatch z) o7 ((Br.trans s6).trans s7) hD;have kt:∀b us,H7 b=aC (.tup us)->upd H7 D (.lst (vs++[v7])) b=aC (.tup us):=λb us q=>by rw[bW (cU q d7 λz=>nomatch z)];exact q
   have kf:∀b o u,H7 b=aC (.bI o u)->upd H7 D (.lst (vs++[v7])) b=aC (.bI o u):=λb o u q=>by rw[bW (cU q d7 λz=>nomatch z)];exact q
   refine⟨⟨(f5.stp s6).len,λi w e=>let⟨v,h1,h2⟩:=((f5.stp s6).stp s7).val i w e;⟨v,h1,mv h2⟩⟩,r8,gn,?_,o7,Ie,J1.1 m7 h7.n H7 m7 h7.n _ (aW _) (λ_ _=>rfl) kt kf p7⟩;rw[List.reverse_cons];exact(OC.map mv).append (.cons (mv q7) .nil)
theorem EE{nx:Nat->VH->Option (Option W)}{tg:W->VH->En->Option En}{c e:FE}:∀{f i:Nat} {ρ:En} {h:VH} {acc:List W} {p:En×List W} {h':VH},ir nx tg c e f i ρ h acc=.ok p h'->acc.length<=p.2.length
 |0,_,_,_,_,_,_,q=>by cases q
 |f+1,i,ρ,h,acc,ys,h',q=>by
  simp only[ir]at q;split at q;cases q;cases q;exact aW _;split at q;cases q;refine bH q λb h1 e1 e2=>?_;split at e2;refine bH e2 λy h2 e3 e4=>?_;have:=EE e4;rw[dj]at this;lia;exact EE e2;cases e2
theorem Ig{nx:Nat->VH->Option (Option W)}{tg:W->VH->En->Option En}{c:FE}{jT:En->VH->List W->Res (En×List W)}(hi:∀{ρ h acc p h'},jT ρ h acc=.ok p h'->acc.length<=p.2.length):∀{f i:Nat} {ρ:En} {h:VH} {acc ys:List W} {h':VH},jn nx tg c jT f i ρ h acc=.ok ys h'->acc.length<=ys.length
 |0,_,_,_,_,_,_,q=>by cases q
 |f+1,i,ρ,h,acc,ys,h',q=>by
  simp only[jn]at q;split at q;cases q;cases q;simp;split at q;cases q;refine bH q λb h1 e1 e2=>?_;split at e2;refine bH e2 λy h2 e3 e4=>?_;exact gY (hi e3) (Ig hi e4);exact Ig hi e2;cases e2
theorem W8{nx:Nat->VH->Option (Option W)}{tg:W->VH->En->Option En}{c:FE}{jT:En->VH->List W->Res (En×List W)}{f i:Nat}{ρ:En}{h:VH}{acc ys:List W}{h':VH}(q:jn nx tg c jT (f+1) i ρ h acc=.ok ys h'):∃o,nx i h=aC o:=by simp only[jn]at q;split at q;cases q;exact⟨_,by assumption⟩;exact⟨_,by assumption⟩
theorem W9{nx:Nat->VH->Option (Option W)}{tg:W->VH->En->Option En}{c e:FE}{f i:Nat}{ρ:En}{h:VH}{acc:List W}{p:En×List W}{h':VH}(q:ir nx tg c e (f+1) i ρ h acc=.ok p h'):∃o,nx i h=aC o:=by simp only[ir]at q;split at q;cases q;exact⟨_,by assumption⟩;exact⟨_,by assumption⟩
noncomputable abbrev vM(kd:Kd)(fa:FE)(t:Tg)(ow:Nat)(ix:List Nat)(fc:FE)(iz:Kd)(ny:FE)(t2:Tg)(mY fe:FE):FE:=λρ h=>(fa ρ h).bind λx h=>(jn (bg kd x) (bz t) fc (λρ h acc=>(ny ρ h).bind λy h=>ir (bg iz y) (bz t2) mY fe fuel 0 ρ h acc) fuel 0 (inner ow ix ρ) h []).bind λys h=>if Nat.ble ys.length big then .ok (.ref h.n) (h.new (.lst ys))else .no
theorem OD{K:aK}{kd iz:Kd}{t t2:Tg}{ow fr:List Str}{ix:List Nat}{ny mY fe:FE}{σ:L2.St}{H:Hp}{Q:VK}(q:fZ K (vM kd fa t ow.length ix fc iz ny t2 mY fe) σ H Q) :
 Hi K (jj ow fr ix) (cj K kd fa) (dg K t) (dD K fc) (λD=>NC (cj K iz ny) (dg K t2) (dD K mY) (Hv (fZ K fe) D)) (.lst []) σ H Q:=by
 refine q.el λρ h m w h' f r e k=>?_;refine bH e λx h1 e1 e2=>?_;refine bH e2 λys h2 e3 e4=>?_;split at e4
 case isFalse=>cases e4
 rename_i hz;cases e4;have hz:=jD hz;have il:∀{ρ h acc p h'},(ny ρ h).bind (λy h=>ir (bg iz y) (bz t2) mY fe fuel 0 ρ h acc)=.ok p h'->acc.length<=p.2.length:=λq=>by
  refine bH q λy h1 e1 e2=>?_;exact EE e2
 refine(.mk f r e1 ?_ λJ P H1 m1 s1 r1 J1 p1 D hD hK=>?_);exact W8 (f:=999999) e3;obtain⟨j0,r0⟩:=r1.more (u:=.lst []) hD;have p0:=J1.1 m1 h1.n H1 m1 h1.n (upd H1 D (.lst [])) (aW _) (λ_ _=>rfl) (λb vs q=>j0.tup b vs q) (λb o u q=>j0.bI b o u q) p1;refine⟨λi fl σ' H'=>∃ρ' h3 m3 acc vs,jn (bg kd x) (bz t) fc (λρ h acc=>(ny ρ h).bind λy h=>ir (bg iz y) (bz t2) mY fe fuel 0 ρ h acc) fl i ρ' h3 acc=.ok ys h2/\Fr K m3 h3.n H' σ' ρ'/\Rel K m3 h3 H'/\H' D=aC (.lst vs)/\aF K m3 h3.n H' vs acc.reverse/\(∀i,i<h3.n->m3 i≠D)/\bP m1 h1.n H1 m3 h3.n H'/\P m3 h3.n H',
  ⟨fuel,inner ow.length ix ρ,h1,m1,[],[],e3,OA ((f.stp s1).stp j0),r0,gn,.nil,r1.out hD,j0,p0⟩,?_⟩
 rintro i fl σ' H' ⟨ρ',h3,m3,acc,vs,e5,f3,r3,d3,q3,o3,s3,p3⟩;cases fl with
 |zero=>cases e5
 |succ fl=>
  simp only[jn]at e5;obtain⟨j1,j2⟩:=J1.2 m3 h3 H' r3 p3 i;split at e5;cases e5;rename_i hn;cases e5;refine .inl ⟨j2 hn,?_⟩;obtain⟨st,r'⟩:=r3.adopt (o:=.lst acc.reverse) (u:=.lst vs) o3 d3 (λ_ z=>nomatch z) (λ_ _ z=>nomatch z) (s1.trans s3) (by
   cases z:H D with
   |none=>rfl
   |some o=>
    have:=s1.keep D o (λi hi z2=>(r1.out hD) i (dS hi s1.le) ((s1.same i hi).trans z2)) z;rw[hD]at this;cases this) λ_ mv=>⟨_,gn,q3.map mv⟩
  rw[OB d3]at st r';refine k _ _ _ st r' ?_;have:aJ K (λi=>if i=h2.n then D else m3 i) (h2.n+1) H' (.ref ((λi=>if i=h2.n then D else m3 i) h2.n)) (.ref h2.n):=.ref (je _);simp only[bQ]at this;exact this;rename_i w hn;obtain⟨j3,j4⟩:=j1 w hn;refine .inr ⟨j3,λy H4 hy=>?_⟩;obtain⟨s4,r4,q4⟩:=j4 y H4 hy;split at e5;cases e5;rename_i oA ht;refine⟨ρ',h3,m3,w,oA,f3.stp s4,r4,q4,ht,λkD f5=>?_⟩;refine bH e5 λbv h6 e6 e7=>?_;have d4:H4 D=aC (.lst vs):=s4.keep D _ o3 d3;have Br:=s3.trans s4;have p4:=J1.1 m3 h3.n H' m3 h3.n H4 (aW _) (λ_ _=>rfl) (λb vs q=>s4.tup b vs q) (λb o u q=>s4.bI b o u q) p3;cases bv<;>try cases e7
  rename_i bb;refine⟨oA,h3,m3,bb,h6,f5,r4,e6,λH6 m6 s6 r6=>?_⟩;have o6:=s6.out o3 d4;have d6:H6 D=aC (.lst vs):=s6.keep D _ o3 d4;have p6:=J1.1 m3 h3.n H4 m6 h6.n H6 s6.le s6.same (λb vs q=>s6.tup b vs q) (λb o u q=>s6.bI b o u q) p4;cases bb with
  |false=>
   simp only[dh,cG];exact⟨fl,je _,oA,h6,m6,acc,vs,e7,f5.stp s6,r6,d6,(q3.stp s4).stp s6,o6,Br.trans s6,p6⟩
  |true=>
   simp only[bQ];obtain⟨⟨OE,qR⟩,h9,e8,e9⟩:=NU e7;refine bH e8 λy7 h7 Ih Ed=>?_;have Bs:=Ig il e9;refine⟨oA,h6,m6,y7,h7,f5.stp s6,r6,Ih,W9 (f:=999999) Ed,λJ2 P2 H8 m8 s8 r8 Bt p8=>?_⟩;have o8:=s8.out o6 d6;have d8:H8 D=aC (.lst vs):=s8.keep D _ o6 d6;have Xa:=J1.1 m6 h6.n H6 m8 h7.n H8 s8.le s8.same (λb vs q=>s8.tup b vs q) (λb o u q=>s8.bI b o u q) p6;refine⟨λj gl σ' H'=>∃EF ha ma mZ va,ir (bg iz y7) (bz t2) mY fe gl j EF ha mZ=.ok (OE,qR) h9/\Fr K ma ha.n H' σ' EF/\Rel K ma ha H'/\H' D=aC (.lst va)/\aF K ma ha.n H' va mZ.reverse/\(∀i,i<ha.n->ma i≠D)/\bP m1 h1.n H1 ma ha.n H'/\P ma ha.n H'/\P2 ma ha.n H',
    ⟨fuel,oA,h7,m8,acc,vs,Ed,(f5.stp s6).stp s8,r8,d8,((q3.stp s4).stp s6).stp s8,o8,(Br.trans s6).trans s8,Xa,p8⟩,?_⟩
   rintro j gl σa Ha ⟨EF,ha,ma,mZ,va,ea,OF,ra,da,qa,oa,sa,pa,pb⟩;cases gl with
   |zero=>cases ea
   |succ gl=>
    simp only[ir]at ea;obtain⟨b1,b2⟩:=Bt.2 ma ha Ha ra pb j;split at ea;cases ea;rename_i hn2;cases ea;exact .inl ⟨b2 hn2,fl,je _,OE,h9,ma,qR,va,e9,OF,ra,da,qa,oa,sa,pa⟩;rename_i w2 hn2;obtain⟨b3,b4⟩:=b1 w2 hn2;refine .inr ⟨b3,λy2 Hb Xb=>?_⟩;obtain⟨sb,rb,qb⟩:=b4 y2 Hb Xb;split at ea;cases ea;rename_i Bu Bv;refine⟨EF,ha,ma,w2,Bu,OF.stp sb,rb,qb,Bv,λσb fb=>?_⟩;refine bH ea λXc hc2 ec ed=>?_;have db:Hb D=aC (.lst va):=sb.keep D _ oa da;have Xd:=J1.1 ma ha.n Ha ma ha.n Hb (aW _) (λ_ _=>rfl) (λb vs q=>sb.tup b vs q) (λb o u q=>sb.bI b o u q) pa;have Xe:=Bt.1 ma ha.n Ha ma ha.n Hb (aW _) (λ_ _=>rfl) (λb vs q=>sb.tup b vs q) (λb o u q=>sb.bI b o u q) pb;cases Xc<;>try cases ed
    rename_i OG;refine⟨Bu,ha,ma,OG,hc2,fb,rb,ec,λHc mc sc rc=>?_⟩;have oc:=sc.out oa db;have dc:Hc D=aC (.lst va):=sc.keep D _ oa db;have OH:=J1.1 ma ha.n Hb mc hc2.n Hc sc.le sc.same (λb vs q=>sc.tup b vs q) (λb o u q=>sc.bI b o u q) Xd;have OI:=Bt.1 ma ha.n Hb mc hc2.n Hc sc.le sc.same (λb vs q=>sc.tup b vs q) (λb o u q=>sc.bI b o u q) Xe;cases OG with
    |false=>
     simp only[dh,cG];exact⟨gl,je _,Bu,hc2,mc,mZ,va,ed,fb.stp sc,rc,dc,(qa.stp sb).stp sc,oc,(sa.trans sb).trans sc,OH,OI⟩
    |true=>
     simp only[bQ];refine bH ed λyv hd2 ef eg=>?_;refine⟨Bu,hc2,mc,yv,hd2,fb.stp sc,rc,ef,λvd Hd md sd rd qd=>?_⟩;have od:=sd.out oc dc;have dd:Hd D=aC (.lst va):=sd.keep D _ oc dc;have pad:=J1.1 mc hc2.n Hc md hd2.n Hd sd.le sd.same (λb vs q=>sd.tup b vs q) (λb o u q=>sd.bI b o u q) OH;have Xf:=Bt.1 mc hc2.n Hc md hd2.n Hd sd.le sd.same (λb vs q=>sd.tup b vs q) (λb o u q=>sd.bI b o u q) OI;have OJ:=((qa.stp sb).stp sc).stp sd;have hlen:=EE eg;rw[dj]at hlen;refine⟨va,dd,?_,gl,je _,Bu,hd2,md,yv::mZ,va++[vd],eg,?_⟩;rw[OJ.length,yV];have:big=sizeLine:=rfl;have hl2:qR.length<=ys.length:=Bs;have hl3:mZ.length+1<=qR.length:=hlen;lia;obtain⟨Ie,r9,mv⟩:=rd.side (u:=.lst (va++[vd])) dd (λ_ z=>nomatch z) (λ_ _ z=>nomatch z) od (((sa.trans sb).trans sc).trans sd) hD;have kt:∀b us,Hd b=aC (.tup us)->upd Hd D (.lst (va++[vd])) b=aC (.tup us):=λb us q=>by rw[bW (cU q dd λz=>nomatch z)];exact q
     have kf:∀b o u,Hd b=aC (.bI o u)->upd Hd D (.lst (va++[vd])) b=aC (.bI o u):=λb o u q=>by rw[bW (cU q dd λz=>nomatch z)];exact q
     refine⟨⟨(fb.stp sc).len,λi w e=>let⟨v,h1,h2⟩:=((fb.stp sc).stp sd).val i w e;⟨v,h1,mv h2⟩⟩,r9,gn,?_,od,Ie,J1.1 md hd2.n Hd md hd2.n _ (aW _) (λ_ _=>rfl) kt kf pad,Bt.1 md hd2.n Hd md hd2.n _ (aW _) (λ_ _=>rfl) kt kf Xf⟩;rw[List.reverse_cons];exact(OJ.map mv).append (.cons (mv qd) .nil)
end
noncomputable def fF(h h':VH):Prop:=h.n<=h'.n/\h'.lo<=h.lo/\∀i,i<h.n->i<h'.lo->h'.get i=h.get i
theorem fF.refl{h:VH}:fF h h:=⟨aW _,aW _,λ_ _ _=>rfl⟩
theorem fF.trans{h h1 h2:VH}(a:fF h h1)(b:fF h1 h2):fF h h2:=⟨gY a.1 b.1,gY b.2.1 a.2.1,λi hi hl=>(b.2.2 i (dS hi a.1) hl).trans (a.2.2 i hi (dS hl b.2.1))⟩
theorem fF.new{h:VH}{o:VO}:fF h (h.new o):=⟨nI _,aW _,λi hi _=>jA hi⟩
theorem fF.set{h:VH}{i:Nat}{o:VO}(hi:i<h.n):fF h (h.set i o):=by refine⟨aW _,?_,λj hj hl=>k6 hi ?_⟩;show(if Nat.blt i h.lo then i else h.lo)<=h.lo;split;rename_i q;exact sI (gw.mp q);exact aW _;have hl:j< (if Nat.blt i h.lo then i else h.lo):=hl;split at hl;lia;rename_i q;intro z;rw[z]at hl;exact q (gw.mpr hl)
noncomputable def Gr{α:Type}(r:Res α)(h:VH):Prop:=∀a h',r=.ok a h'->fF h h'
section
variable{α β:Type}{h:VH}
theorem Gr.ok{a:α}:Gr (Res.ok a h) h:=λ_ _ e=>by cases e;exact .refl
theorem Gr.no:Gr (Res.no:Res α) h:=λ_ _ e=>by cases e
theorem Gr.of{o:Option α}:Gr (Res.of o h) h:=λ_ _ e=>by cases o with|none=>cases e|some a=>cases e;exact .refl
theorem Gr.new{a:α}{o:VO}:Gr (Res.ok a (h.new o)) h:=λ_ _ e=>by cases e;exact .new
theorem Gr.set{a:α}{o o':VO}{i:Nat}(g:h.get i=aC o'):Gr (Res.ok a (h.set i o)) h:=λ_ _ e=>by cases e;exact .set (cy g)
theorem Gr.bind{r:Res α}{f:α->VH->Res β}(a:Gr r h)(b:∀x h1,Gr (f x h1) h1):Gr (r.bind f) h:=λy h' e=>by
 cases r with|ok x h1=>exact(a x h1 rfl).trans (b x h1 y h' e)|ex _ _=>cases e|no=>cases e
end
theorem Bw{o:Op}{x y:W}{h:VH}:Gr (eU o x y h) h:=by unfold eU;split;exact .of;exact .of;exact .of;split;split;exact .new;exact .no;exact .no;split;split;exact .new;exact .no;exact .no;exact .no
theorem Bx{o:Op}{x y:W}{h:VH}:Gr (xW o x y h) h:=by unfold xW;split;split;exact .ok;exact .ok;exact .of;exact .of;exact .no;split;split;rename_i g _ _;exact .set g;exact .no;exact .no;split;split;exact .ok;exact .no;exact .no;exact .no
theorem Xg{x:W}{l u:Option Int}{h:VH}:Gr (mU x l u h) h:=by unfold mU;split;exact .ok;split;exact .new;exact .no;exact .no
theorem By{b:Bi}{xs:List W}{h:VH}:Gr (ig b xs h) h:=by
 cases b<;>simp only[ig];unfold fP;split<;>first|exact .of|exact .no
 unfold jX;split;split;exact .new;exact .no;exact .no;unfold qL;split<;>first|exact .of|exact .no
 unfold kW;split<;>first|exact .ok|exact .no
 unfold kX;split<;>first|exact .ok|exact .no
 unfold qM;split;exact .ok;split;split;exact .ok;exact .no;exact .no;exact .no;unfold kY;split<;>first|exact .ok|exact .no
 unfold mV;split;split;exact .of;exact .no;exact .no;unfold jY;split;split;exact .new;exact .no;exact .no;unfold vG;split;exact .new;exact .no;unfold A1;split;split;rename_i g;exact .set g;exact .no;exact .no;unfold kZ;split;split;split;split;split;exact .ok;exact .of;exact .no;exact .no;exact .no;exact .no;unfold qN;split;exact .ok;exact .no
theorem BA{m:Mt}{o:W}{xs:List W}{h:VH}:Gr (lR m o xs h) h:=by unfold lR;split;split;split;rename_i g _;exact .set g;exact .no;exact .no;split;exact .ok;exact .ok;exact .no;unfold fQ;split;rename_i g _;split;split;exact .ok;exact .set g;exact .no;exact .no;exact .no
theorem Ii{nx:Nat->VH->Option (Option W)}{tg:W->VH->En->Option En}{c e:En->VH->Res W}(hc:∀ρ h,Gr (c ρ h) h)(he:∀ρ h,Gr (e ρ h) h):∀(f i:Nat) (ρ:En) (h:VH) (acc:List W),Gr (ir nx tg c e f i ρ h acc) h
 |0,_,_,_,_=>.no
 |f+1,i,ρ,h,acc=>by
  simp only[ir];split;exact .no;exact .ok;split;exact .no;refine .bind (hc _ _) λb h1=>?_;split;exact .bind (he _ _) λy h2=>Ii hc he f _ _ _ _;exact Ii hc he f _ _ _ _;exact .no
theorem Ij{nx:Nat->VH->Option (Option W)}{tg:W->VH->En->Option En}{c:En->VH->Res W}{e:En->VH->List W->Res (En×List W)}(hc:∀ρ h,Gr (c ρ h) h)(he:∀ρ h acc,Gr (e ρ h acc) h):∀(f i:Nat) (ρ:En) (h:VH) (acc:List W),Gr (jn nx tg c e f i ρ h acc) h
 |0,_,_,_,_=>.no
 |f+1,i,ρ,h,acc=>by
  simp only[jn];split;exact .no;exact .ok;split;exact .no;refine .bind (hc _ _) λb h1=>?_;split;exact .bind (he _ _ _) λy h2=>Ij hc he f _ _ _ _;exact Ij hc he f _ _ _ _;exact .no
theorem oB{nx:Nat->VH->Option (Option W)}{tg:W->VH->En->Option En}{c e:En->VH->Res W}(hc:∀ρ h,Gr (c ρ h) h)(he:∀ρ h,Gr (e ρ h) h):∀(f i:Nat) (ρ:En) (h:VH) (acc:List W),Gr (eV nx tg c e f i ρ h acc) h
 |0,_,_,_,_=>.no
 |f+1,i,ρ,h,acc=>by
  simp only[eV];split;exact .no;exact .ok;split;exact .no;refine .bind (hc _ _) λb h1=>?_;split;exact .bind (he _ _) λy h2=>oB hc he f _ _ _ _;exact oB hc he f _ _ _ _;exact .no
theorem Ik{nx:Nat->VH->Option (Option W)}{tg:W->VH->En->Option En}{b:En->VH->Res Fl}(hb:∀ρ h,Gr (b ρ h) h):∀(f i:Nat) (ρ:En) (h:VH),Gr (dB nx tg b f i ρ h) h
 |0,_,_,_=>.no
 |f+1,i,ρ,h=>by
  simp only[dB];split;exact .no;exact .ok;split;exact .no;refine .bind (hb _ _) λfl h1=>?_;split;exact Ik hb f _ _ _;exact Ik hb f _ _ _;exact .ok;exact .ok
theorem Il{c:En->VH->Res W}{b:En->VH->Res Fl}(hc:∀ρ h,Gr (c ρ h) h)(hb:∀ρ h,Gr (b ρ h) h):∀(f:Nat) (ρ:En) (h:VH),Gr (fD c b f ρ h) h
 |0,_,_=>.no
 |f+1,ρ,h=>by
  simp only[fD];refine .bind (hc _ _) λt h1=>?_;split;exact .ok;refine .bind (hb _ _) λfl h2=>?_;split;exact Il hc hb f _ _;exact Il hc hb f _ _;exact .ok;exact .ok;exact .no
section
variable{cl:Call}
theorem BB(hcl:∀f ws h,Gr (cl f ws h) h):∀(e:E) (ρ:En) (h:VH),Gr (ev cl e ρ h) h:=by
 intro e;induction e with
 |var i=>intro ρ h;exact .of
 |cst w=>intro ρ h;exact .ok
 |nil=>intro ρ h;exact .ok
 |cons a r i1 i2=>intro ρ h;simp only[ev];refine .bind (i1 _ _) λx h1=>.bind (i2 _ _) λy h2=>?_;split<;>first|exact .ok|exact .no
 |tup a i1=>intro ρ h;simp only[ev];refine .bind (i1 _ _) λx h1=>?_;split<;>first|(split<;>first|exact .ok|exact .no)|exact .no
 |lst a i1=>intro ρ h;simp only[ev];refine .bind (i1 _ _) λx h1=>?_;split<;>first|(split<;>first|exact .new|exact .no)|exact .no
 |HM a i1=>
  intro ρ h;simp only[ev];refine .bind (i1 _ _) λx h1=>?_;split;split;split;exact .new;exact .no;unfold mW;split;split;exact .new;exact .no;exact .no;exact .no
 |op o a b i1 i2=>intro ρ h;simp only[ev];exact .bind (i1 _ _) λx h1=>.bind (i2 _ _) λy h2=>Bw
 |neg a i1=>intro ρ h;simp only[ev];refine .bind (i1 _ _) λx h1=>?_;split<;>first|exact .ok|exact .no
 |cmp c a b i1 i2=>intro ρ h;simp only[ev];exact .bind (i1 _ _) λx h1=>.bind (i2 _ _) λy h2=>.of
 |vD c d a b e i1 i2 i3=>
  intro ρ h;simp only[ev];refine .bind (i1 _ _) λx h1=>.bind (i2 _ _) λy h2=>?_;split;exact .bind (i3 _ _) λz h3=>.of;exact .ok;exact .no
 |not a i1=>intro ρ h;simp only[ev];refine .bind (i1 _ _) λx h1=>?_;split<;>first|exact .ok|exact .no
 |and a b i1 i2=>intro ρ h;simp only[ev];refine .bind (i1 _ _) λx h1=>?_;split<;>first|exact i2 _ _|exact .ok|exact .no
 |or a b i1 i2=>intro ρ h;simp only[ev];refine .bind (i1 _ _) λx h1=>?_;split<;>first|exact i2 _ _|exact .ok|exact .no
 |jz a i1=>intro ρ h;simp only[ev];exact .bind (i1 _ _) λx h1=>.of
 |ite c a b i1 i2 i3=>
  intro ρ h;simp only[ev];refine .bind (i1 _ _) λx h1=>?_;split;exact i2 _ _;exact i3 _ _;exact .no
 |idx a b i1 i2=>intro ρ h;simp only[ev];exact .bind (i1 _ _) λx h1=>.bind (i2 _ _) λy h2=>.of
 |slc a bl lo bh hi i1 i2 i3=>
  intro ρ h;simp only[ev];refine .bind (i1 _ _) λx h1=>.bind (i2 _ _) λy h2=>.bind (i3 _ _) λz h3=>?_;split;exact Xg;exact .no
 |call f a i1=>intro ρ h;simp only[ev];refine .bind (i1 _ _) λx h1=>?_;split<;>first|exact hcl _ _ _|exact .no
 |bi b a i1=>intro ρ h;simp only[ev];refine .bind (i1 _ _) λx h1=>?_;split<;>first|exact By|exact .no
 |vE t a i1=>intro ρ h;simp only[ev];exact .bind (i1 _ _) λx h1=>.of
 |mt m o a i1 i2=>
  intro ρ h;simp only[ev];refine .bind (i1 _ _) λx h1=>?_;split;refine .bind (i2 _ _) λy h2=>?_;split<;>first|exact BA|exact .no
  exact .no
 |lc k a t ow ix c e i1 i2 i3=>
  intro ρ h;simp only[ev];refine .bind (i1 _ _) λx h1=>.bind (oB i2 i3 _ _ _ _ _) λys h2=>?_;split;exact .new;exact .no
 |tO k a t ow ix c k2 a2 t2 c2 e i1 i2 i3 i4 i5=>
  intro ρ h;simp only[ev];refine .bind (i1 _ _) λx h1=>.bind (Ij i2 (λρ h acc=>.bind (i3 _ _) λy h2=>Ii i4 i5 _ _ _ _ _) _ _ _ _ _) λys h2=>?_;split;exact .new;exact .no
theorem EG(hcl:∀f ws h,Gr (cl f ws h) h):∀(s:S) (ρ:En) (h:VH),Gr (exs cl s ρ h) h:=by
 have ge:=BB hcl;intro s;induction s with
 |skip=>intro ρ h;exact .ok
 |seq a b i1 i2=>intro ρ h;simp only[exs];refine .bind (i1 _ _) λfl h1=>?_;split<;>first|exact i2 _ _|exact .ok
 |set i e=>intro ρ h;simp only[exs];exact .bind (ge _ _ _) λw h1=>.ok
 |om is e=>intro ρ h;simp only[exs];exact .bind (ge _ _ _) λw h1=>.of
 |aug i o e=>
  intro ρ h;simp only[exs];split;exact .bind (ge _ _ _) λy h1=>.bind Bx λz h2=>.ok;exact .no
 |put o i v=>
  intro ρ h;simp only[exs];refine .bind (ge _ _ _) λw h1=>.bind (ge _ _ _) λx h2=>.bind (ge _ _ _) λy h3=>?_;split;split;split;rename_i g _ _ _;exact .set g;exact .no;unfold qP;split;split;rename_i g _;exact .set g;exact .no;exact .no;unfold putD;split;split;rename_i g _ _;exact .set g;exact .no;exact .no;exact .no
 |ite c a b i1 i2=>
  intro ρ h;simp only[exs];refine .bind (ge _ _ _) λx h1=>?_;split;exact i1 _ _;exact i2 _ _;exact .no
 |ret e=>intro ρ h;simp only[exs];exact .bind (ge _ _ _) λw h1=>.ok
 |expr e=>intro ρ h;simp only[exs];exact .bind (ge _ _ _) λw h1=>.ok
 |brk=>intro ρ h;exact .ok
 |cnt=>intro ρ h;exact .ok
 | «for» k a t b i1=>intro ρ h;simp only[exs];exact .bind (ge _ _ _) λx h1=>Ik i1 _ _ _ _
 |Ex c b i1=>intro ρ h;simp only[exs];exact Il (ge c) i1 _ _ _
 |no=>intro ρ h;exact .no
end
theorem yc(F:Nat->Option Fn):∀(k f:Nat) (ws:List W) (h:VH),Gr (run F k f ws h) h
 |0,_,_,_=>.no
 |k+1,f,ws,h=>by
  intro a h' e;simp only[run]at e;split at e;rename_i fn hf;split at e;rename_i hl;generalize hr:exs (run F k) fn.body (ws.map aC++bE (fn.n-fn.ps) aD) ⟨h.n,h.n,h.os⟩=r at e;have g:=EG (yc F k) fn.body (ws.map aC++bE (fn.n-fn.ps) aD) ⟨h.n,h.n,h.os⟩;rw[hr]at g;have lv:∀w h1,fF ⟨h.n,h.n,h.os⟩ h1->leave h w h1=.ok a h'->fF h h':=by
   intro w h1 g1 e1;unfold leave at e1;split at e1;cases e1;exact .refl;cases e1;refine⟨g1.1,?_,λi hi hlo=>?_⟩;show(if Nat.ble h.lo h1.lo then h.lo else h1.lo)<=h.lo;split;exact aW _;rename_i q;exact Nat.le_of_not_le λz=>q (pX.mpr z);have hlo:i< (if Nat.ble h.lo h1.lo then h.lo else h1.lo):=hlo;have hh:i<h1.lo:=by split at hlo;rename_i q;exact dS hlo (jD q);exact hlo
   exact g1.2.2 i hi hh
  cases r with
  |no=>cases e
  |ex _ _=>cases e
  |ok fl h1=>
   have g1:=g fl h1 rfl;simp only[Res.bind]at e;split at e;exact lv _ _ g1 e;exact lv _ _ g1 e;cases e
  cases e;cases e
end RF
namespace HT
open PySem PySem.Spec PyProof.Rows
theorem oE{prog:aj}{w:ak}{A:ao}{E:af->ah->Prop}{s:ah}{t b:ai}{vs ws:List af}{Q:af->ah->Prop}(ht:IsTup s.heap t vs.toArray)(hb:IsTup s.heap b ws.toArray)(hv:vs≠[])
 (h1:ws=[]->Q (.ref t) s) (h2:ws≠[]->Q (.ref s.heap.objs.size) {s with heap:=s.heap.push {cls:=.type "tuple",data:=.seq (vs++ws).toArray}})
 (hsz:vs.length+ws.length<=sizeLine):wpAny (model prog w) A (inplaceOp .Add (.ref t) (.ref b)) Q E s:=by
 obtain⟨⟨cls,dd,data,sl⟩,ho,hc,n,hd⟩:=id ht;obtain⟨⟨zV,dd2,data2,sl2⟩,ho2,hc2,n2,hd2⟩:=id hb;simp only at hc hd hc2 hd2;subst hc hd hc2 hd2;have e:vs.toArray++ws.toArray=(vs++ws).toArray:=by simp
 have hno:typeLookup (.type "tuple") (dunderI "add")=pure aD:=by rfl
 by_cases hw:ws=[]
 exact wpAny_inplaceOp_concat ⟨_,ho,rfl⟩ ⟨_,ho2,rfl⟩ hno yN yQ (nF zb ⟨_,ho,rfl⟩ za (y9 _ _)
  (tuple_addW1 t b vs.toArray ws.toArray n n2 dd dd2 sl sl2 (by simpa using hv) (by simp[hw])) ⟨ho,ho2,h1 hw⟩)
 refine wpAny_inplaceOp_concat ⟨_,ho,rfl⟩ ⟨_,ho2,rfl⟩ hno yN yQ (nF zb ⟨_,ho,rfl⟩ za (y9 _ _)
  (tuple_addW2 t b vs.toArray ws.toArray n n2 dd dd2 sl sl2 (by simpa using hv) (by simpa using hw) (by rw[di,di];exact hsz)) ⟨ho,ho2,?_⟩)
 rw[e];exact h2 hw
end HT
namespace L2
open PySem PySem.Spec PyProof.Rows
variable{X:Cx}
theorem Xh:xP X .Add (lF X.K):=by intro pins s σ H x y v u Q I rx ry h;obtain⟨a,b,xs,ys,rfl,rfl,ha,hb,hx,hz,q1,q2⟩:=h;cases rx;cases ry;obtain⟨its,r1,p1,_⟩:=I.tuple ha;obtain⟨its2,r2,p2,_⟩:=I.tuple hb;refine HT.oE p1 p2 (λz=>hx (r1.eT.mp z)) (λz=>⟨.ref a,H,I,rfl,q1 (r2.eT.mp z)⟩) (λz=>?_) (by rw[<-r1.length,<-r2.length];exact hz);refine⟨.ref s.heap.objs.size,_,I.laid (t':=s.toks) (o:=.tup (xs++ys)) (λb ob q=>b9 _ q) (aW _) ?_,rfl,q2 (λw=>z (r2.eT.mpr w)) _ (I.hok.fresh (aW _))⟩;exact⟨by rw[fH];exact hz,_,r1.append r2,jF.new _ _⟩
end L2
namespace RF
open PySem PySem.Spec PyProof.Rows L2
noncomputable def vN(K:aK)(m:Nat->ai)(n:Nat)(H:Hp)(D:Ends):Fl->Prop|.nx ρ=>∀σ,Fr K m n H σ ρ->D.nx σ H|.bk ρ=>∀σ,Fr K m n H σ ρ->D.bk σ H|.ct ρ=>∀σ,Fr K m n H σ ρ->D.ct σ H|.rt w=>∀v,aJ K m n H v w->D.rt v H
noncomputable def jq(K:aK)(f:FS):TS:=λD σ H=>∃ρ h m fl h',Fr K m h.n H σ ρ/\Rel K m h H/\f ρ h=.ok fl h'/\∀H' m',bP m h.n H m' h'.n H'->Rel K m' h' H'->vN K m' h'.n H' D fl
theorem jq.el{K:aK}{D:Ends}{σ:L2.St}{H:Hp}{P:Prop}{fa:FS}(q:jq K fa D σ H)(k:∀ρ h m fl h',Fr K m h.n H σ ρ->Rel K m h H->fa ρ h=.ok fl h'->(∀H' m',bP m h.n H m' h'.n H'->Rel K m' h' H'->vN K m' h'.n H' D fl)->P):P:=by obtain⟨ρ,h,m,w,h',f,r,e,k'⟩:=q;exact k ρ h m w h' f r e k'
theorem jq.mk{K:aK}{D:Ends}{σ:L2.St}{H:Hp}{m:Nat->ai}{ρ:En}{h h':VH}{fl:Fl}{fa:FS}(f:Fr K m h.n H σ ρ)(r:Rel K m h H)(e:fa ρ h=.ok fl h')(k:∀H' m',bP m h.n H m' h'.n H'->Rel K m' h' H'->vN K m' h'.n H' D fl):jq K fa D σ H:=⟨ρ,h,m,fl,h',f,r,e,k⟩
noncomputable abbrev SS(X:Cx)(st:au)(f:FS):Prop:=PS X st (jq X.K f)
noncomputable abbrev qS(X:Cx)(st:List au)(f:FS):Prop:=kB X st (jq X.K f)
section
variable{X:Cx}{a b c e o:aq}{es:List aq}{fa fb fc fo fr:FE}{pos p:Pos}{x:Str}{st:au}{sts:List au}{ga gb:FS}
noncomputable abbrev tS:FS:=λρ h=>.ok (.nx ρ) h
noncomputable abbrev Im(ga gb:FS):FS:=λρ h=>(ga ρ h).bind λfl h=>match fl with|.nx ρ=>gb ρ h|fl=>.ok fl h
theorem Xi:qS X [] tS:=RQ.imp λD σ H z9=>z9.el λρ h m fl h' f r e k=>by cases e;exact k H m .refl r σ f
theorem Xj:SS X (.Pass pos) tS:=RU.imp λD σ H z9=>z9.el λρ h m fl h' f r e k=>by cases e;exact k H m .refl r σ f
theorem Xk:SS X (.Break pos) (λρ h=>.ok (.bk ρ) h):=RV.imp λD σ H z9=>z9.el λρ h m fl h' f r e k=>by cases e;exact k H m .refl r σ f
theorem Xl:SS X (.Continue pos) (λρ h=>.ok (.ct ρ) h):=RW.imp λD σ H z9=>z9.el λρ h m fl h' f r e k=>by cases e;exact k H m .refl r σ f
theorem Xm(h1:SS X st ga)(h2:qS X sts gb):qS X (st::sts) (Im ga gb):=(RS h1 h2).imp λD σ H z9=>z9.el λρ h m fl h' f r e k=>by
 refine bH e λXn h1 e1 e2=>?_;refine(.mk f r e1 λH1 m1 s1 r1=>?_);cases Xn with|nx bS=>exact λσ1 f1=>⟨bS,h1,m1,fl,h',f1,r1,e2,λH' m' s' r'=>k H' m' (s1.trans s') r'⟩|bk bS=>cases e2;exact k H1 m1 s1 r1|ct bS=>cases e2;exact k H1 m1 s1 r1|rt w=>cases e2;exact k H1 m1 s1 r1
theorem BC:SS X st (λ_ _=>.no):=R1.imp λD σ H z9=>z9.el λρ h m fl h' f r e k=>by cases e
noncomputable def EH:aq->Bool|.ListComp .. |.SetComp .. |.DictComp ..=>false|_=>true
theorem OL{e:aq}{t:Option aq}{l:Nat}{env:Env}(h:EH e):swapsWith e t l env=pure false:=by cases e<;>first|rfl|cases h
theorem Xo(he:SE X e fa)(hs:EH e):SS X (.Expr e pos) (λρ h=>(fa ρ h).bind λ_ h=>.ok (.nx ρ) h):=(RX he (OL hs)).imp λD σ H z9=>z9.el λρ h m fl h' f r e k=>by
 refine bH e λw h1 e1 e2=>?_;cases e2;exact(.mk f r e1 λv H1 m1 s1 r1 q1=>k H1 m1 s1 r1 σ (f.stp s1))
theorem Xp(he:SE X e fa):SS X (.Return (aC e) pos) (λρ h=>(fa ρ h).bind λw h=>.ok (.rt w) h):=(RY he).imp λD σ H z9=>z9.el λρ h m fl h' f r e k=>by
 refine bH e λw h1 e1 e2=>?_;cases e2;exact(.mk f r e1 λv H1 m1 s1 r1 q1=>k H1 m1 s1 r1 v q1)
theorem Xq:SS X (.Return aD pos) (λρ h=>(Res.ok W.aL h).bind λw h=>.ok (.rt w) h):=RZ.imp λD σ H z9=>z9.el λρ h m fl h' f r e k=>by
 cases e;exact k H m .refl r .aL .aL
noncomputable abbrev qV(i:Nat)(fa:FE):FS:=λρ h=>(fa ρ h).bind λw h=>.ok (.nx (ρ.set i (aC w))) h
theorem Io{K:aK}{i:Nat}{D:Ends}{σ:L2.St}{H:Hp}(q:jq K (qV i fa) D σ H):fZ K fa σ H λv H1=>ic i v σ H1 D.nx:=by refine q.el λρ h m fl h' f r e k=>?_;refine bH e λw h1 e1 e2=>?_;cases e2;exact(.mk f r e1 λv H1 m1 s1 r1 q1=>k H1 m1 s1 r1 _ ((f.stp s1).set q1 i))
theorem OM{i:Nat}{pos':Pos}(hN:X.N.Nodup)(hi:X.N[i]?=aC x)(hx:Loc X.env.scope x)(hf:X.fn x=true\/X.env.scope.names.lookup x=aC .local)(he:SE X e fa)
 (hs:swapsWith e (aC (.Name x pos')) pos.line X.env=pure false):SS X (.Assign [.Name x pos'] e pos) (qV i fa):=(R7 hN hi hx he hs hf).imp λD σ H q=>Io q
theorem Xr{i:Nat}{pos' lp:Pos}{ow fr:List Str}{ix:List Nat}{scope:az}{tg iter elt:aq}{ifs:List aq}{kd:Kd}{t:Tg}{fe:FE}(hN:X.N.Nodup)(hi:X.N[i]?=aC x)(hx:Loc X.env.scope x)(hf:X.fn x=true\/X.env.scope.names.lookup x=aC .local)
 (S:aY X ow fr ix scope) (hc:X.calm) (hI:PI X tg iter (cj X.K kd fa)) (hg:∀C s₀ H₀ ex,PG (X.comp (ow++fr) scope C s₀ H₀ ex) tg (dg X.K t)) (ht:∀C s₀ H₀ ex,iX (X.comp (ow++fr) scope C s₀ H₀ ex) ifs (dD X.K fc))
 (he:∀C s₀ H₀ ex,PE (X.comp (ow++fr) scope C s₀ H₀ ex) elt (fZ X.K fe)) (hsw:swapsWith (.ListComp elt [⟨tg,iter,ifs,0⟩] scope lp) (aC (.Name x pos')) pos.line X.env=pure true) (hs:∀x,foldedSetIterable iter X.env x=pure x) :
 SS X (.Assign [.Name x pos'] (.ListComp elt [⟨tg,iter,ifs,0⟩] scope lp) pos) (qV i (Ic kd fa t ow.length ix fc fe)):=
 (Ud hN hi hx S hc hI hg ht he hsw hf hs).imp λD σ H q=>tR (Io q)
theorem BD{lp:Pos}{ow fr:List Str}{ix:List Nat}{scope:az}{tg iter elt:aq}{ifs:List aq}{kd:Kd}{t:Tg}{fe:FE}
 (S:aY X ow fr ix scope) (hc:X.calm) (hI:PI X tg iter (cj X.K kd fa)) (hg:∀C s₀ H₀ ex,PG (X.comp (ow++fr) scope C s₀ H₀ ex) tg (dg X.K t)) (ht:∀C s₀ H₀ ex,iX (X.comp (ow++fr) scope C s₀ H₀ ex) ifs (dD X.K fc))
 (he:∀C s₀ H₀ ex,PE (X.comp (ow++fr) scope C s₀ H₀ ex) elt (fZ X.K fe)) (hs:∀x,foldedSetIterable iter X.env x=pure x) :
 SE X (.ListComp elt [⟨tg,iter,ifs,0⟩] scope lp) (Ic kd fa t ow.length ix fc fe):=(Am S hc hI hg ht he hs).imp λσ H Q q=>tR q
theorem Xs{lp:Pos}{ow fr:List Str}{ix:List Nat}{scope:az}{tg iter elt gq bx:aq}{ifs cZ:List aq}{kd iz:Kd}{t t2:Tg}{fe ny mY:FE}
 (S:aY X ow fr ix scope) (hc:X.calm) (hI:PI X tg iter (cj X.K kd fa)) (hg:∀C s₀ H₀ ex,PG (X.comp (ow++fr) scope C s₀ H₀ ex) tg (dg X.K t)) (ht:∀C s₀ H₀ ex,iX (X.comp (ow++fr) scope C s₀ H₀ ex) ifs (dD X.K fc))
 (tT:∀C s₀ H₀ ex,PI (X.comp (ow++fr) scope C s₀ H₀ ex) gq bx (cj X.K iz ny)) (k8:∀C s₀ H₀ ex,PG (X.comp (ow++fr) scope C s₀ H₀ ex) gq (dg X.K t2)) (Bv:∀C s₀ H₀ ex,iX (X.comp (ow++fr) scope C s₀ H₀ ex) cZ (dD X.K mY))
 (he:∀C s₀ H₀ ex,PE (X.comp (ow++fr) scope C s₀ H₀ ex) elt (fZ X.K fe)) (hs:∀x,foldedSetIterable iter X.env x=pure x) (hs2:∀C s₀ H₀ ex x,foldedSetIterable bx (X.comp (ow++fr) scope C s₀ H₀ ex).env x=pure x) :
 SE X (.ListComp elt [⟨tg,iter,ifs,0⟩,⟨gq,bx,cZ,0⟩] scope lp) (vM kd fa t ow.length ix fc iz ny t2 mY fe):=
 (Ax NF rfl S hc hI hg ht (λC s₀ H₀ ex D=>ND (X:=X.comp (ow++fr) scope C s₀ H₀ ex) hc rfl (tT C s₀ H₀ ex) (k8 C s₀ H₀ ex) (Bv C s₀ H₀ ex) (he C s₀ H₀ ex) (hs2 C s₀ H₀ ex) D) hs).imp λσ H Q q=>OD q
theorem Xu{i:Nat}{pos' lp:Pos}{ow fr:List Str}{ix:List Nat}{scope:az}{tg iter elt gq bx:aq}{ifs cZ:List aq}{kd iz:Kd}{t t2:Tg}{fe ny mY:FE}(hN:X.N.Nodup)(hi:X.N[i]?=aC x)(hx:Loc X.env.scope x)(hf:X.fn x=true\/X.env.scope.names.lookup x=aC .local)
 (S:aY X ow fr ix scope) (hc:X.calm) (hI:PI X tg iter (cj X.K kd fa)) (hg:∀C s₀ H₀ ex,PG (X.comp (ow++fr) scope C s₀ H₀ ex) tg (dg X.K t)) (ht:∀C s₀ H₀ ex,iX (X.comp (ow++fr) scope C s₀ H₀ ex) ifs (dD X.K fc))
 (tT:∀C s₀ H₀ ex,PI (X.comp (ow++fr) scope C s₀ H₀ ex) gq bx (cj X.K iz ny)) (k8:∀C s₀ H₀ ex,PG (X.comp (ow++fr) scope C s₀ H₀ ex) gq (dg X.K t2)) (Bv:∀C s₀ H₀ ex,iX (X.comp (ow++fr) scope C s₀ H₀ ex) cZ (dD X.K mY))
 (he:∀C s₀ H₀ ex,PE (X.comp (ow++fr) scope C s₀ H₀ ex) elt (fZ X.K fe)) (hsw:swapsWith (.ListComp elt [⟨tg,iter,ifs,0⟩,⟨gq,bx,cZ,0⟩] scope lp) (aC (.Name x pos')) pos.line X.env=pure true) (hs:∀x,foldedSetIterable iter X.env x=pure x) (hs2:∀C s₀ H₀ ex x,foldedSetIterable bx (X.comp (ow++fr) scope C s₀ H₀ ex).env x=pure x) :
 SS X (.Assign [.Name x pos'] (.ListComp elt [⟨tg,iter,ifs,0⟩,⟨gq,bx,cZ,0⟩] scope lp) pos) (qV i (vM kd fa t ow.length ix fc iz ny t2 mY fe)):=
 (Uz NF (λ_=>rfl) hN hi hx S hc hI hg ht (λC s₀ H₀ ex D=>ND (X:=X.comp (ow++fr) scope C s₀ H₀ ex) hc rfl (tT C s₀ H₀ ex) (k8 C s₀ H₀ ex) (Bv C s₀ H₀ ex) (he C s₀ H₀ ex) (hs2 C s₀ H₀ ex) D) hsw hf hs).imp λD σ H q=>OD (Io q)
noncomputable def oF:aq->Bool|.Tuple ..=>false|_=>true
theorem Xv{es:List aq}{k:Nat}{e:aq}{l:Nat}{p:Pos}{env:Env}:swapsWithSole [.Tuple es k p] e l env=pure false:=by cases e<;>rfl
theorem Xw{es:List aq}{k:Nat}{p:Pos}{e:aq}{env:Env}(h:oF e):swappedStores [.Tuple es k p] e env=pure aD:=by cases e<;>first|rfl|cases h
theorem Xx{is:List Nat}{k:Nat}(hc:X.calm)(hN:X.N.Nodup)(hs:Paired (oz X) es is)(he:SE X e fa)(ht:oF e) :
 SS X (.Assign [.Tuple es k p] e pos) (λρ h=>(fa ρ h).bind λw h=>.of ((bz (.many is) w h ρ).map .nx) h):=(MD he (Oz hc hN hs) Xv (Xw ht) rfl).imp λD σ H z9=>z9.el λρ h m fl h' f r e k=>by
 refine bH e λw h1 e1 e2=>?_;obtain⟨e2,e3⟩:=of_ok e2;subst e3;cases z:bz (.many is) w h' ρ with
 |none=>rw[z]at e2;cases e2
 |some ρ'=>
  rw[z]at e2;cases e2;exact(.mk f r e1 λv H1 m1 s1 r1 q1=>(.mk (f.stp s1) r1 q1 z λσ' f'=>k H1 m1 s1 r1 σ' f'))
noncomputable def BE:aq->Bool|.Slice ..=>false|_=>true
theorem Xy{o i:aq}{p:Pos}{env:Env}(h:BE i)(v:af):assign (.Subscript o i p) env v=(do
 let ov <-holding [v] (eval o env);let iv <-holding [v,ov] (eval i env)
 standAt p
 holding [v,ov,iv] (setItem ov iv v)
 release [v,ov,iv] []):=by
 cases i<;>first|rfl|cases h
noncomputable abbrev Ip(fo fi fv:FE):FS:=λρ h=>(fv ρ h).bind λw h=>(fo ρ h).bind λx h=>(fi ρ h).bind λy h=>match x,y with
 |.ref a,.int j=>(match h.get a with
  |some (.lst ws)=>(match L2.iN ws.length j with
   |some k=>.ok (.nx ρ) (h.set a (.lst (ws.set k w)))
   |none=>.no)
  |_=>qP ρ a j w h)
 |.ref a,y=>putD ρ a y w h
 |_,_=>.no
theorem Xz{o i e:aq}{l:Nat}{p:Pos}{env:Env}:swapsWithSole [.Subscript o i p] e l env=pure false:=by cases e<;>rfl
theorem XA{o i e:aq}{p:Pos}{env:Env}:swappedStores [.Subscript o i p] e env=pure aD:=by cases e<;>rfl
theorem Iq{α β:Type}{f:α->Option β}:∀{as:List α} {bs:List β} {a:α} {b:β},aO f as=aC bs->f a=aC b->aO f (as++[a])=aC (bs++[b])
 |[],_,_,_,e,h=>by cases e;simp[aO,h]
 |x::as,bs,a,b,e,h=>by
  simp only[aO]at e;cases z:f x with
  |none=>rw[z]at e;cases e
  |some y=>
   rw[z]at e;simp only at e;cases z2:aO f as with
   |none=>rw[z2]at e;cases e
   |some ys=>
    rw[z2]at e;cases e;rw[sP];simp only[aO,z,Iq z2 h,sP]
noncomputable def BF:V->V->V->Hp->(Hp->Prop)->Prop:=λo i v H Q=>∃a kvs j,o=.ref a/\i=.int j/\H a=aC (.dK kvs)/\kvs.length<sizeLine/\Q (upd H a (.dK (putK kvs (.inl j) v)))
theorem XC(hu:X.A.units+2<cLine):jH X BF:=by intro pins s σ H o i v ov iv u Q I ro ri rv h;obtain⟨a,kvs,j,rfl,rfl,e,hl,q⟩:=h;cases ro;exact Uq (Nat.lt_of_succ_lt hu) I (qt.k (k:=.inl j) e hl) ri rv λs' I'=>⟨_,I',q⟩
theorem XD{apos:Pos}{a b o:aq}{fo fa fb:FE}{pos:Pos}(hu:X.A.units+2<cLine)(ho:SE X o fo)(ha:SE X a fa)(GC:SE X b fb)(hb:EC o)(hs:gf a)(hs2:gf b)(hl:(apos.endLine==pos.line)) :
 SE X (.Call (.Attribute o "setdefault" apos) [a,b] [] pos) (Oi .jU fo (iw fa (iw fb k7))):=by
 have tr:backTo pos (starEach [a,b] X.env)=[(false,eval a X.env),(false,eval b X.env)]:=by rw[fE hs,fE hs2];rfl
 refine(VG hu ho ha GC ⟨Oh hb,by rw[tr];rfl,hl,tr⟩).imp λσ H Q z9=>z9.el λρ h m w h' f r e k=>?_;refine bH e λx h1 e1 e2=>?_;split at e2;rename_i hk;refine bH e2 λy h2 e3 e4=>?_;refine bH e3 λz h3 e5 e6=>?_;refine bH e6 λy2 h4 e7 e8=>?_;refine bH e7 λz2 h5 e9 Ih=>?_;cases Ih;cases e8;refine(.mk f r e1 λv H1 m1 s1 r1 q1=>?_);cases x<;>try cases hk
 rename_i i;simp only[lS]at hk;cases g:h1.get i with
 |none=>rw[g]at hk;cases hk
 |some ob=>
  rw[g]at hk;cases ob with
  |lst _=>cases hk
  |dk _=>cases hk
  |dm _=>cases hk
  |dt ks0 NO=>
   cases q1;obtain⟨AM,XE,XF,XG,p04⟩:=r1.dt g;refine⟨m1 i,AM,rfl,iu XE XF XG,ρ,h1,m1,z,h3,f.stp s1,r1,e5,λv2 H2 m2 s2 r2 q2=>(.mk ((f.stp s1).stp s2) r2 e9 λv3 H3 m3 s3 r3 q3=>?_)⟩;have hmi:m1 i=m3 i:=((s3.same i (dS (cy g) s2.le)).trans (s2.same i (cy g))).symm;have ON:=(s1.trans s2).trans s3;simp only[lR]at e4;unfold fQ at e4;split at e4;rename_i ks ws dk g2 hd;split at e4;rename_i XH;obtain⟨xs,p1,p2,p3,p4⟩:=r3.dt g2;obtain⟨b,rfl,kk⟩:=x8 (q2.stp s3) hd;have hl:=p3.length;rw[bT]at hl;have hlt:xs.length<sizeLine:=by rw[hl,pV];exact gw.mp XH
   obtain⟨u0,BG,hn,Ir,Iu⟩:∃u0:HO,H3 (m3 i)=aC u0/\(∀t,u0≠HO.tup t)/\(∀o t,u0≠HO.bI o t)/\nQ (aC u0):=by rcases p1 with p1|⟨_,p1⟩;exact⟨_,p1,(λ_ z=>nomatch z),(λ_ _ z=>nomatch z),True.intro⟩;exact⟨_,p1,(λ_ z=>nomatch z),(λ_ _ z=>nomatch z),True.intro⟩
   refine⟨b,xs,dk,rfl,by rw[hmi];exact iu p1 p2 p3,by rw[hmi,BG];exact Iu,kk,hlt,λp hp=>?_,λhno=>?_⟩;rcases x9 dk p2 p4 with⟨z1,_⟩|⟨p',w',z1,XI,z3⟩
   rw[hp]at z1;cases z1;rw[hp]at z1;cases z1;rw[XI]at e4;cases e4;exact k _ H3 m3 ON r3 z3;rcases x9 dk p2 p4 with⟨_,z1⟩|⟨p',w',z1,_,_⟩
   rw[z1]at e4;cases e4;have hp:dW xs dk b v3=xs++[(dk,b,v3)]:=by unfold dW;rw[hno];rfl
   rw[hmi];obtain⟨st,r'⟩:=r3.write (i:=i) (o:=.dt (ks++[z]) (ws++[w])) (u:=kE (dW xs dk b v3) (m3 i)) (cy g2) BG hn Ir λst=>by
    rw[hp]at st ⊢;refine⟨xs++[(dk,b,v3)],.inl gn,?_,?_,?_⟩;rw[kq,Iq p2 hd];rfl;rw[kq];exact(p3.stp st).append (.cons ((q2.stp s3).stp st) .nil);rw[kq];exact(p4.stp st).append (.cons (q3.stp st) .nil)
   exact k v3 _ m3 (ON.trans st) r' (q3.stp st);rw[hno]at z1;cases z1;cases e4;cases e4
 cases e2
theorem XJ{e:aq}{fa:FE}{p cp kp pos:Pos}{kx:Nat}(hu:X.A.units+65<cLine)(hc:X.calm)(hg:Gl X "min")(hm:X.mg "min" = aD)(he:SE X e fa)(hs:gf e) :
 SE X (.Call (.Name "min" p) [e] [⟨aC "default",.Constant .none kx cp,kp⟩] pos) (iy (iw fa k7) kZ):=
 (VT hu hc hg hm he (by rw[fE hs];rfl)).imp λσ H Q z9=>z9.el λρ h m w h' f r e k=>by
   refine bH e λy h1 e1 e2=>?_;refine bH e1 λx h2 e3 e4=>?_;cases e4;refine(.mk f r e3 λv H1 m1 s1 r1 q1=>?_);dsimp only at e2;unfold kZ at e2;split at e2;rename_i i heq;cases heq;split at e2;rename_i ws g;split at e2;rename_i ds hds;split at e2;rename_i hal;cases q1;obtain⟨vs,p1,p2⟩:=r1.lst g;have hl:=p2.length;refine⟨m1 i,vs,ds,rfl,cC.of p1,xY (λw d v e q=>fk r1 _ _ _ _ e q) hds p2,hal,λhv=>?_,λv hv hb=>?_⟩;have:ws=[]:=Dl.mp (by rw[<-hl,hv];rfl);subst this;have e2:Res.ok W.aL h1=Res.ok w h':=e2;cases e2;exact k _ H1 m1 s1 r1 .aL;split at e2;rename_i hem;have:ws=[]:=List.isEmpty_iff.mp hem;rw[this]at hl;exact absurd (Dl.mp hl) hv;obtain⟨e5,rfl⟩:=of_ok e2;obtain⟨v',g1,g2⟩:=p2.get e5;rw[hb]at g1;cases g1;exact k _ H1 m1 s1 r1 g2;cases e2;cases e2;cases e2;cases e2
theorem XM{a kk:aq}{fa:FE}{cl:Call}{pos p2:Pos}(ha:SE X a fa)(hk:SE X kk (ev cl (.neg (.cst (.int 1))))):SE X (.Subscript a (.Slice aD aD (aC kk) p2) pos) (iy (iw fa k7) qN):=
 (AU ha (Oa hk)).imp λσ H Q z9=>z9.el λρ h m w h' f r e k=>by
   refine bH e λy h1 e1 e2=>?_;refine bH e1 λx h2 e3 e4=>?_;cases e4;refine(.mk f r e3 λv H1 m1 s1 r1 q1=>?_);dsimp only at e2;unfold qN at e2;split at e2;rename_i a b heq;cases heq;cases e2;refine .mk (f.stp s1) r1 (show ev cl (.neg (.cst (.int 1))) ρ _=.ok (.int (-1)) _ from rfl) rfl λH3 m3 s3 r3=>?_;cases q1.stp s3 with
   | @tup b' vs _ sq rs=>
    cases rs with
    |cons q1 rs=>
     cases rs with
     |cons q2 rs=>
      cases rs;refine⟨b',_,_,rfl,rfl,sq,λp hp=>?_⟩;exact aM.tuple (λv' H' m' s' r' q'=>k v' H' m' ((s1.trans s3).trans s') r' q') r3 (.cons q2 (.cons q1 .nil)) hp
   cases e2
theorem XN(hu:X.A.units+2<cLine)(ho:SE X o fo)(hi:SE X a fa)(hv:SE X e fb)(hs:BE a):SS X (.Assign [.Subscript o a p] e pos) (Ip fo fa fb):=
 (MD hv (R6 ho hi (Tv.or ((Vy hu).or (XC hu))) (Xy hs)) Xz XA rfl).imp λD σ H z9=>z9.el λρ h m fl h' f r e k=>by
   refine bH e λw h1 e1 e2=>?_;refine bH e2 λx h2 e3 e4=>?_;refine bH e4 λy h3 e5 e6=>?_;refine(.mk f r e1 λv H1 m1 s1 r1 q1=>(.mk (f.stp s1) r1 e3 λvo H2 m2 s2 r2 q2=>(.mk ((f.stp s1).stp s2) r2 e5 λvi H3 m3 s3 r3 q3=>?_)));split at e6;rename_i l j;split at e6;rename_i ws g;split at e6;rename_i kk hk;cases e6;cases q3;have BH:=q2.stp s3;cases BH;obtain⟨vs,p1,p2⟩:=r3.lst g;refine .inl ⟨m3 l,vs,j,kk,rfl,rfl,p1,by rw[p2.length];exact hk,?_⟩;have qv:=((q1.stp s2).stp s3)
   obtain⟨st,r'⟩:=r3.write (i:=l) (o:=.lst (ws.set kk w)) (u:=.lst (vs.set kk v)) (cy g) p1 (λ_ z=>nomatch z) (λ_ _ z=>nomatch z) λst=>⟨_,gn,aF.set (qv.stp st) kk (p2.stp st)⟩
   exact k _ m3 (((s1.trans s2).trans s3).trans st) r' σ ((((f.stp s1).stp s2).stp s3).stp st);cases e6;unfold qP at e6;split at e6;rename_i kvs g;split at e6;rename_i hb;cases e6;cases q3;have BH:=q2.stp s3;cases BH;obtain⟨vs,p1,p2⟩:=r3.dm g;have hlt:vs.length<sizeLine:=by rw[p2.length,pV];exact gw.mp hb
   refine .inr <| .inr ⟨m3 l,vs,j,rfl,rfl,p1,hlt,?_⟩
   have qv:=((q1.stp s2).stp s3)
   obtain⟨st,r'⟩:=r3.write (i:=l) (o:=.dm (jV kvs (.inl j) w)) (u:=.dK (putK vs (.inl j) v)) (cy g) p1 (λ_ z=>nomatch z) (λ_ _ z=>nomatch z) λst=>⟨_,gn,aP.put (qv.stp st) _ (p2.stp st)⟩
   exact k _ m3 (((s1.trans s2).trans s3).trans st) r' σ ((((f.stp s1).stp s2).stp s3).stp st);cases e6;cases e6;rename_i l _;unfold putD at e6;split at e6;rename_i ks ws dk g hd;split at e6;rename_i hc;cases e6;rw[bD]at hc;have BH:=q2.stp s3;cases BH;obtain⟨xs,p1,p2,p3,p4⟩:=r3.dt g;obtain⟨b,rfl,kk⟩:=x8 q3 hd;have hl:=p3.length;rw[bT]at hl;have hlt:xs.length<sizeLine:=by rw[hl,pV];exact gw.mp hc.2
   have qv:=((q1.stp s2).stp s3)
   have hf:bC xs dk=aD:=by rcases x9 dk p2 p4 with⟨z,_⟩|⟨p,w',z,z2,_⟩;exact z;rw[z2]at hc;exact absurd hc.1 (by simp)
   have hp:dW xs dk b v=xs++[(dk,b,v)]:=by unfold dW;rw[hf];rfl
   obtain⟨u0,BG,hn,Ir,Iu⟩:∃u0:HO,H3 (m3 l)=aC u0/\(∀t,u0≠HO.tup t)/\(∀o t,u0≠HO.bI o t)/\nQ (aC u0):=by rcases p1 with p1|⟨_,p1⟩;exact⟨_,p1,(λ_ z=>nomatch z),(λ_ _ z=>nomatch z),True.intro⟩;exact⟨_,p1,(λ_ z=>nomatch z),(λ_ _ z=>nomatch z),True.intro⟩
   refine .inr <| .inl ⟨m3 l,b,xs,dk,rfl,rfl,iu p1 p2 p3,by rw[BG];exact Iu,kk,hlt,?_⟩
   obtain⟨st,r'⟩:=r3.write (i:=l) (o:=.dt (ks++[y]) (ws++[w])) (u:=kE (dW xs dk b v) (m3 l)) (cy g) BG hn Ir λst=>by
    rw[hp]at st ⊢;refine⟨xs++[(dk,b,v)],.inl gn,?_,?_,?_⟩;rw[kq,Iq p2 hd];rfl;rw[kq];exact(p3.stp st).append (.cons (q3.stp st) .nil);rw[kq];exact(p4.stp st).append (.cons (qv.stp st) .nil)
   exact k _ m3 (((s1.trans s2).trans s3).trans st) r' σ ((((f.stp s1).stp s2).stp s3).stp st);cases e6;cases e6;cases e6
theorem XO{M:Model}{A:ao}{E:af->ah->Prop}{s:ah}{a b:af}{T id:String}{Q:af->ah->Prop}(ha:s.TypeIs a T)(hb:s.TypeIs b T)
 (hI:typeLookup (.type T) (dunderI "add")=pure (aC (.builtin id))) (hq:isSeqSlot (aC (.builtin id))) (hfill:fillsNumberSlot (.type T) "add" = pure false) (hc:wpAny M A (call (.builtin id) [a,b]) Q E s):wpAny M A (inplaceOp .Add a b) Q E s:=by
 unfold inplaceOp;refine kL ?_;have h1:fillsInplaceSlot (.type T) "add" (Operator.Add == .Add)=pure false:=by unfold fillsInplaceSlot;show(typeLookup (.type T) (dunderI "add") >>= λfi=>pure (fi.isSome && !isSeqSlot fi))=_;rw[hI,qf,hq];rfl
 have h2:seqSlot? (.type T) (dunderI "add")=pure (aC (.builtin id)):=by unfold seqSlot?;rw[hI,qf,hq];rfl
 refine aG (xj ha (aG (nj h1 ?_)));show wpAny M A (if false=true then _ else _) Q E s;rw[if_neg lz];refine aG (binaryOp1_none (nm:="add") ha hb hfill ?_);refine aG (nj h2 ?_);exact aG (kM hc)
noncomputable def tU:R2:=λx y H Q=>∃l b xs zs,x=.ref l/\y=.ref b/\H l=aC (.lst xs)/\H b=aC (.lst zs)/\xs.length+zs.length<=sizeLine/\Q (.ref l) (upd H l (.lst (xs++zs)))
theorem XQ:xP X .Add tU:=by
 intro pins s σ H x y v u Q I rx ry h;obtain⟨l,b,xs,zs,rfl,rfl,hH,hB,hz,q⟩:=h;cases rx;cases ry;obtain⟨z,its,n,r,hl,e⟩:=I.fL hH;obtain⟨z2,its2,n2,r2,hl2,e2⟩:=I.fL hB;have hsz:its.toArray.size+its2.toArray.size<=sizeLine:=by rw[di,di];lia
 have jL:¬(!its.toArray.isEmpty&&Builtin.List.listTooLong (its.toArray.size+its2.toArray.size))=true:=by rw[Gy hsz,Bool.and_false];exact lz
 refine XO (T:="list") (id:="list.__iadd__") ⟨_,e,rfl⟩ ⟨_,e2,rfl⟩ PySem.F.slot_list_iadd.lookup (by decide +kernel) noFill_list_add ?_;refine nF PySem.F.slot_list_iadd ⟨_,e,rfl⟩ PySem.F.entry_list_iadd (PySem.F.args_list_iadd_2 _ _)
  (AutoSeq1.list___iadd___list_list_0 l its.toArray n b its2.toArray n2 jL (by rw[di];lia) (by lia)) ⟨e,e2,?_⟩
 refine⟨.ref l,_,I.vg (its':=its++its2) hH e (by simp) (r.append r2) ?_,rfl,q⟩;rw[fH];lia
noncomputable def qW:Operator->Option Op|.Add=>aC .add|.Sub=>aC .sub|.Mult=>aC .mul|.FloorDiv=>aC .fdiv|_=>aD
noncomputable def OO(K:aK):Op->R2|.mul=>rI mO λi j=>.int (i*j)|.fdiv=>rI ql λi j=>.int (i/j)|.add=>λx y H Q=>DO (λi j=>i+j) x y H Q\/tU x y H Q\/lF K x y H Q|.sub=>DO λi j=>i-j|_=>λ_ _ _ _=>False
theorem BI{O:Operator}{o:Op}(e:qW O=aC o):xP X O (OO X.K o):=by
 cases O<;>cases e;intro pins s σ H x y v u Q I rx ry q;rcases q with q|q|q
 exact R9 pins s σ H x y v u Q I rx ry q;exact XQ pins s σ H x y v u Q I rx ry q;exact Xh pins s σ H x y v u Q I rx ry q;exact Sa;exact Sx;exact Sy
theorem XR{K:aK}{O:Operator}{o:Op}(e:qW O=aC o):A7 K (OO K o) (xW o):=by
 intro m h H v u x y w h' Q r qv qu e2 k;unfold xW at e2;split at e2;rename_i i j;cases qv;cases qu;split at e2;cases e2;exact .inl ⟨i,j,rfl,rfl,aM.here k r (.int _)⟩;cases e2;exact⟨i,j,rfl,rfl,aM.here k r (.int _)⟩;obtain⟨e2,rfl⟩:=of_ok e2;cases z:dU .mul i j with
 |none=>rw[z]at e2;cases e2
 |some t=>
  rw[z]at e2;cases e2;obtain⟨c1,rfl⟩:=HP z;exact⟨i,j,rfl,rfl,c1,aM.here k r (.int _)⟩
 obtain⟨e2,rfl⟩:=of_ok e2;cases z:dU .fdiv i j with
 |none=>rw[z]at e2;cases e2
 |some t=>
  rw[z]at e2;cases e2;obtain⟨c1,rfl⟩:=HP z;exact⟨i,j,rfl,rfl,c1,aM.here k r (.int _)⟩
 cases e2;rename_i i j;split at e2;rename_i xs ys g1 g2;split at e2;rename_i hz;cases e2;cases qv;cases qu;obtain⟨vs,p1,p2⟩:=r.lst g1;obtain⟨us,p3,p4⟩:=r.lst g2;refine .inr (.inl ⟨m i,m j,vs,us,rfl,rfl,p1,p3,by rw[p2.length,p4.length];exact jD hz,?_⟩);obtain⟨st,r'⟩:=r.write (i:=i) (o:=.lst (xs++ys)) (u:=.lst (vs++us)) (cy g1) p1 (λ_ z=>nomatch z) (λ_ _ z=>nomatch z) λst=>⟨_,gn,(p2.stp st).append (p4.stp st)⟩
 exact k _ _ m st r' (.ref (show i<h.n from cy g1));cases e2;cases e2;rename_i x xs ys;split at e2;split at e2;rename_i hz;cases e2;cases qv with
 |tup qa ra=>
  cases qu with
  |tup qb rb=>
   rename_i a va b vb;refine .inr (.inr ⟨a,b,va,vb,rfl,rfl,qa,qb,λz=>?_,by rw[ra.length,rb.length];exact jD hz,λz=>?_,λ_ p hp=>aM.tuple k r (ra.append rb) hp⟩);subst z;cases ra;subst z;cases rb;rw[nt]at k;exact aM.here k r (.tup qa ra)
 cases e2;cases e2;cases e2
noncomputable abbrev vO(i:Nat)(o:Op)(fa:FE):FS:=λρ h=>match(ρ[i]?).join with|some x=>(fa ρ h).bind λy h=>(xW o x y h).bind λz h=>.ok (.nx (ρ.set i (aC z))) h|none=>.no
theorem XS{i:Nat}{pos':Pos}{O:Operator}{o:Op}(eo:qW O=aC o)(hN:X.N.Nodup)(hi:X.N[i]?=aC x)(hx:Loc X.env.scope x)(hf:X.fn x=true\/X.env.scope.names.lookup x=aC .local)(he:SE X e fa) :
 SS X (.AugAssign (.Name x pos') O e pos) (vO i o fa):=(R8 hN hi hx he (BI eo) hf).imp λD σ H z9=>z9.el λρ h m fl h' f r e k=>by
 have e:vO i o fa ρ h=.ok fl h':=e;simp only[vO]at e;cases z:(ρ[i]?).join with
 |none=>rw[z]at e;cases e
 |some x=>
  rw[z]at e;simp only at e;refine bH e λy h1 e1 e2=>?_;refine bH e2 λw h2 e3 e4=>?_;cases e4;have e5:ρ[i]?=aC (aC x):=by
   cases q:ρ[i]? with|none=>rw[q]at z;cases z|some o=>rw[q]at z;rw[<-z];rfl
  obtain⟨v,p1,p2⟩:=f.val i x e5;refine⟨v,p1,ρ,h,m,y,h1,f,r,e1,λu H1 m1 s1 r1 q1=>XR eo m1 h1 H1 v u x y w h' _ r1 (p2.stp s1) q1 e3 λv' H' m' s' r' q'=>?_⟩;exact k H' m' (s1.trans s') r' _ (((f.stp s1).stp s').set q' i)
noncomputable abbrev XT(fc:FE)(ga gb:FS):FS:=λρ h=>(fc ρ h).bind λx h=>match x with|.bl true=>ga ρ h|.bl false=>gb ρ h|_=>.no
variable{sa sb:List au}
theorem XU(hc:ST X c fc)(ha:qS X sa ga)(hb:qS X sb gb):SS X (.If c sa sb pos) (XT fc ga gb):=(zB hc ha hb).imp λD σ H z9=>z9.el λρ h m fl h' f r e k=>by
 refine bH e λx h1 e1 e2=>?_;cases x<;>try cases e2
 rename_i c;refine(.mk f r e1 λH1 m1 s1 r1=>?_);cases c with|true=>rw[if_pos rfl];exact(.mk (f.stp s1) r1 e2 λH' m' s' r'=>k H' m' (s1.trans s') r')|false=>simp only[dh,cG];exact(.mk (f.stp s1) r1 e2 λH' m' s' r'=>k H' m' (s1.trans s') r')
theorem XW{nx:Nat->VH->Option (Option W)}{tg:W->VH->En->Option En}{g:FS}{f i:Nat}{ρ:En}{h:VH}{fl:Fl}{h':VH}(q:dB nx tg g (f+1) i ρ h=.ok fl h'):∃o,nx i h=aC o:=by simp only[dB]at q;split at q;cases q;exact⟨_,by assumption⟩;exact⟨_,by assumption⟩
noncomputable abbrev BJ(kd:Kd)(fa:FE)(t:Tg)(g:FS):FS:=λρ h=>(fa ρ h).bind λx h=>dB (bg kd x) (bz t) g fuel 0 ρ h
theorem XX{K:aK}{kd:Kd}{t:Tg}{D:Ends}{σ:L2.St}{H:Hp}(q:jq K (BJ kd fa t ga) D σ H):zH (cj K kd fa) (dg K t) (jq K ga) D σ H:=by
 refine q.el λρ h m fl h' f r e k=>?_;refine bH e λx h1 e1 e2=>?_;refine(.mk f r e1 (XW (f:=999999) e2) λJ P H1 m1 s1 r1 J1 p1=>?_);refine⟨λi fu σ' H'=>∃ρ' h3 m3,dB (bg kd x) (bz t) ga fu i ρ' h3=.ok fl h'/\Fr K m3 h3.n H' σ' ρ'/\Rel K m3 h3 H'/\bP m1 h1.n H1 m3 h3.n H'/\P m3 h3.n H',⟨fuel,ρ,h1,m1,e2,f.stp s1,r1,.refl,p1⟩,?_⟩;rintro i fu σ' H' ⟨ρ',h3,m3,e3,f3,r3,s3,p3⟩;cases fu with
 |zero=>cases e3
 |succ fu=>
  simp only[dB]at e3;obtain⟨j1,j2⟩:=J1.2 m3 h3 H' r3 p3 i;split at e3;cases e3;rename_i hn;cases e3;exact .inl ⟨j2 hn,k H' m3 (s1.trans s3) r3 σ' f3⟩;rename_i w hn;obtain⟨j3,j4⟩:=j1 w hn;split at e3;cases e3;rename_i OP ht;refine bH e3 λBK h5 e5 e6=>?_;refine .inr ⟨j3,λjy H6=>∃fR m6,dB (bg kd x) (bz t) ga fu (i+1) fR h5=.ok fl h'/\Fr K m6 h5.n H6 jy fR/\Rel K m6 h5 H6/\bP m1 h1.n H1 m6 h5.n H6/\P m6 h5.n H6,λjy H6 ⟨fR,m6,a1,a2,a3,a4,a5⟩=>⟨fu,je _,fR,h5,m6,a1,a2,a3,a4,a5⟩,λy H4 hy=>?_⟩;obtain⟨s4,r4,q4⟩:=j4 y H4 hy;refine⟨ρ',h3,m3,w,OP,f3.stp s4,r4,q4,ht,λkD f5=>⟨OP,h3,m3,BK,h5,f5,r4,e5,λH6 m6 s6 r6=>?_⟩⟩;have p4:=J1.1 m3 h3.n H' m3 h3.n H4 (aW _) (λ_ _=>rfl) (λb vs q=>s4.tup b vs q) (λb o u q=>s4.bI b o u q) p3;have p6:=J1.1 m3 h3.n H4 m6 h5.n H6 s6.le s6.same (λb vs q=>s6.tup b vs q) (λb o u q=>s6.bI b o u q) p4;have qX:=(s3.trans s4).trans s6;cases BK with|nx fR=>exact λjy f6=>⟨fR,m6,e6,f6,r6,qX,p6⟩|ct fR=>exact λjy f6=>⟨fR,m6,e6,f6,r6,qX,p6⟩|bk fR=>cases e6;exact λjy f6=>k H6 m6 (s1.trans qX) r6 jy f6|rt w6=>cases e6;exact λv6 q6=>k H6 m6 (s1.trans qX) r6 v6 q6
theorem XY{kd:Kd}{t:Tg}{tg iter:aq}(hp:PassesOwn (model X.prog X.w) X.A X.env X.xe)(hc:X.calm)(hI:PI X tg iter (cj X.K kd fa))(hg:PG X tg (dg X.K t))(hb:qS X sa ga)(hs:∀x,foldedSetIterable iter X.env x=pure x) :
 SS X (.For tg iter sa [] pos) (BJ kd fa t ga):=(Sm hp hc hI hg hb hs).imp λD σ H q=>XX q
theorem XZ(hp:PassesOwn (model X.prog X.w) X.A X.env X.xe)(hc:ST X c fc)(hb:qS X sa ga):SS X (.While c sa [] pos) (λρ h=>fD fc ga fuel ρ h):=(Se hp hc hb).imp λD σ H z9=>z9.el λρ h m fl h' f r e k=>by
 refine⟨λfu σ' H'=>∃ρ' h3 m3,fD fc ga fu ρ' h3=.ok fl h'/\Fr X.K m3 h3.n H' σ' ρ'/\Rel X.K m3 h3 H'/\bP m h.n H m3 h3.n H',⟨fuel,ρ,h,m,e,f,r,.refl⟩,?_⟩;rintro fu σ' H' ⟨ρ',h3,m3,e3,f3,r3,s3⟩;cases fu with
 |zero=>cases e3
 |succ fu=>
  simp only[fD]at e3;refine bH e3 λx h4 e4 e5=>?_;cases x<;>try cases e5
  rename_i b;refine⟨ρ',h3,m3,b,h4,f3,r3,e4,λH4 m4 s4 r4=>?_⟩;cases b with
  |false=>cases e5;simp only[dh,cG];exact k H4 m4 (s3.trans s4) r4 σ' (f3.stp s4)
  |true=>
   simp only[bQ];refine bH e5 λBK h5 e6 e7=>?_;refine⟨λjy H6=>∃fR m6,fD fc ga fu fR h5=.ok fl h'/\Fr X.K m6 h5.n H6 jy fR/\Rel X.K m6 h5 H6/\bP m h.n H m6 h5.n H6,λjy H6 ⟨fR,m6,a1,a2,a3,a4⟩=>⟨fu,je _,fR,h5,m6,a1,a2,a3,a4⟩,?_⟩;refine⟨ρ',h4,m4,BK,h5,f3.stp s4,r4,e6,λH6 m6 s6 r6=>?_⟩;have qX:=(s3.trans s4).trans s6;cases BK with|nx fR=>exact λjy f6=>⟨fR,m6,e7,f6,r6,qX⟩|ct fR=>exact λjy f6=>⟨fR,m6,e7,f6,r6,qX⟩|bk fR=>cases e7;exact λjy f6=>k H6 m6 qX r6 jy f6|rt w6=>cases e7;exact λv6 q6=>k H6 m6 qX r6 v6 q6
end
theorem BL{n:Str}:∀{ps:List Str} {us:List af},us.length=ps.length->n∈ps->((ps.zip us).lookup n).isSome=true
 |[],_,_,h=>by cases h
 |p::ps,[],hl,_=>by cases hl
 |p::ps,u::us,hl,h=>by
  rw[nL,gi];by_cases e:(n==p)=true;rw[e];rfl;have e':(n==p)=false:=by simpa using e
  rw[e'];refine BL (by simpa using hl) ?_;rcases eG.mp h with z|z
  rw[z]at e';simp at e';exact z
theorem X0{n:Str}{u:af}{p:Str}{ps:List Str}{us:List af}(h:n≠p):((p,u)::ps.zip us).lookup n=(ps.zip us).lookup n:=by
 rw[gi];have e':(n==p)=false:=by simpa using h
 rw[e']
theorem OQ{α β:Type}{f g:α->Option β}:∀{l:List α},(∀a∈l,f a=g a)->l.filterMap f=l.filterMap g
 |[],_=>rfl
 |a::r,h=>by
  rw[xy,xy,h a fY,OQ λb hb=>h b (ff _ hb)]
theorem EI:∀{ps:List Str} {us:List af},us.length=ps.length->ps.Nodup->ps.filterMap (λn=>((ps.zip us).lookup n).map (n,·))=ps.zip us
 |[],_,_,_=>rfl
 |p::ps,[],hl,_=>by cases hl
 |p::ps,u::us,hl,hn=>by
  obtain⟨h1,h2⟩:=xB.mp hn;rw[nL,xy];have e:((p,u)::ps.zip us).lookup p=aC u:=by rw[gi];simp
  rw[e];simp only[iT];congr 1;have ih:=EI (ps:=ps) (us:=us) (by simpa using hl) h2;refine Eq.trans ?_ ih;exact OQ λn hn'=>by
   have hne:n≠p:=λz=>h1 (by rw[<-z];exact hn');rw[X0 hne]
theorem OR{x qual:Str}{args:List Arg}{body:List au}{sc:az}{kV doc pm:af}{an:Option ai}{cdv ct:af}{us:List af}{df:List aq}(hl:us.length=(args.map (·.arg)).length)(hn:(args.map (·.arg)).Nodup) :
 bindArgs (PySem.W.fnOf x qual ⟨[],args,aD,[],[],aD,df⟩ body sc .none kV doc pm an cdv ct) ⟨us,[]⟩=pure ((args.map (·.arg)).zip us):=by
 have hs:seqItems? Value.none=pure aD:=rfl;have hm:((args.map (·.arg)).filter λn=>(((args.map (·.arg)).zip us).lookup n).isNone)=[]:=by
  rw[Dm];intro n hn';have:=BL hl hn';cases q:((args.map (·.arg)).zip us).lookup n with|none=>rw[q]at this;cases this|some v=>simp
 unfold bindArgs;simp only[PySem.W.fnOf,qc,nu,nt,hs,qf];have hg:¬(us.length> (args.map (·.arg)).length):=by lia
 have h0:(#[]:Array af).toList=[]:=rfl;simp only[Option.getD_none,h0,uP,qf,List.drop_nil,p9,Nat.sub_zero,List.take_length,hm,List.isEmpty_nil,nG,List.drop_length,Dr,List.zip_nil_left,eF hg,xo,dh,cG,EI hl hn]
theorem OS{z:Str}:∀{qs:List Str} {us:List af},us.length=qs.length->(qs++[z]).zip us=qs.zip us
 |[],[],_=>rfl
 |[],_::_,h=>by cases h
 |_::_,[],h=>by cases h
 |q::qs,u::us,h=>by
  rw[sP,nL,nL,OS (by simpa using h)]
theorem Iv{z:Str}{v:af}:∀{qs:List Str} {us:List af},us.length=qs.length->(qs++[z]).zip (us++[v])=qs.zip us++[(z,v)]
 |[],[],_=>rfl
 |[],_::_,h=>by cases h
 |_::_,[],h=>by cases h
 |q::qs,u::us,h=>by
  rw[sP,sP,nL,nL,Iv (by simpa using h),sP]
theorem OT{z:Str}:∀{qs:List Str} {us:List af},z∉qs->(qs.zip us).lookup z=aD
 |[],_,_=>rfl
 |_::_,[],_=>rfl
 |q::qs,u::us,h=>by
  rw[nL,gi];have e':(z==q)=false:=by simpa using(λe=>h (by rw[e];exact fY))
  rw[e'];exact OT λe=>h (ff _ e)
section
variable{x qual:Str}{args:List Arg}{df:List aq}{body:List au}{sc:az}{kV doc pm:af}{an:Option ai}{cdv ct:af}{t:ai}{o:Obj}{n:Nat}{s:ah}{us:List af}{qs:List Str}{z:Str}
theorem OU(qs:List Str)(z:Str):List.drop ([Value.none].length- (qs++[z]).length) [Value.none]=[Value.none]:=by rw[fH,sN,sN,show 1- (qs.length+1)=0 by lia];rfl
theorem tV(qs:List Str)(z:Str):(qs++[z]).length - [Value.none].length=qs.length:=by simp
theorem X3(ha:args.map (·.arg)=qs++[z])(hn:(qs++[z]).Nodup)(ho:s.heap.get? t=aC o)(hd:o.data=.seq #[.none] n)(hl:us.length=(qs++[z]).length) :
 BindsTo s (PySem.W.fnOf x qual ⟨[],args,aD,[],[],aD,df⟩ body sc (.ref t) kV doc pm an cdv ct) ⟨us,[]⟩ ((qs++[z]).zip us):=by
 apply BindsTo.of_defaults (items:=#[.none]) (n:=n) rfl ho hd;unfold bindArgs;simp only[PySem.W.fnOf,qc,nu,nt,uP,qf,ha];rfl;have hm:(qs.filter λn=>(((qs++[z]).zip us).lookup n).isNone)=[]:=by
  rw[Dm];intro n hn';have:=BL (n:=n) hl (pY _ hn');cases q:((qs++[z]).zip us).lookup n with|none=>rw[q]at this;cases this|some v=>simp
 have hz:(((qs++[z]).zip us).lookup z).isNone=false:=by
  have:=BL (n:=z) hl (gV _ (gh.mpr rfl));cases q:((qs++[z]).zip us).lookup z with|none=>rw[q]at this;cases this|some v=>rfl
 have hg:¬(us.length> (qs++[z]).length):=by lia
 simp only[Option.getD_some,OU,tV,List.take_left',List.take_left,List.drop_left,List.drop_left',hm,eF hg,xo,dh,cG,List.isEmpty_nil,nG,nL,Dr,xD,uP,hz,qf,EI hl hn]
theorem X4(ha:args.map (·.arg)=qs++[z])(hn:(qs++[z]).Nodup)(ho:s.heap.get? t=aC o)(hd:o.data=.seq #[.none] n)(hl:us.length=qs.length) :
 BindsTo s (PySem.W.fnOf x qual ⟨[],args,aD,[],[],aD,df⟩ body sc (.ref t) kV doc pm an cdv ct) ⟨us,[]⟩ ((qs++[z]).zip (us++[.none])):=by
 apply BindsTo.of_defaults (items:=#[.none]) (n:=n) rfl ho hd;unfold bindArgs;simp only[PySem.W.fnOf,qc,nu,nt,uP,qf,ha];rfl;have hm:(qs.filter λn=>((qs.zip us).lookup n).isNone)=[]:=by
  rw[Dm];intro n hn';have:=BL (n:=n) hl hn';cases q:(qs.zip us).lookup n with|none=>rw[q]at this;cases this|some v=>simp
 have X5:z∉qs:=λh=>(List.nodup_append.mp hn).2.2 z h z (gh.mpr rfl) rfl;have hz:((qs.zip us).lookup z).isNone=true:=by rw[OT X5];rfl
 have hg:¬(us.length> (qs++[z]).length):=by rw[fH];lia
 have hl2:(us++[Value.none]).length=(qs++[z]).length:=by rw[fH,fH,hl];rfl
 have ha2:=EI hl2 hn;rw[Iv hl]at ha2;simp only[Option.getD_some,OU,tV,OS hl,Iv hl,List.take_left',List.take_left,List.drop_left,List.drop_left',hm,eF hg,xo,dh,cG,List.isEmpty_nil,nG,nL,Dr,xD,uP,hz,bQ,qf,ha2]
end
structure oG(K:aK)(x qual:Str)(st:au)(f:ai)(fd:av):Prop where
 ex:∃(oc:af) (od:Option ai) (dV kV doc pm:af) (an:Option ai) (cdv ct:af) (osl:Array (Option af)),fd=PySem.W.fnOf x qual (zs2 st) (Ai st) (jh st) dV kV doc pm an cdv ct/\K.lookup f=aC ⟨oc,od,.func fd,osl⟩/\PySem.W.codeIn K cdv qual=true
 kp:PySem.W.keepIn K (.ref f)=true
theorem oG.ok{P:aj}{w:ak}{K:aK}{mg:Str->Option af}{base:aA}{x qual:Str}{st:au}{f:ai}{fd:av}{N ps:List Str}{k:Nat}{sp:Sp}(F:oG K x qual st f fd)(S:cV N ps (jh st))(len:∀vs H Q E,sp vs H Q E->vs.length=ps.length)
 (hbody:∀(cdv:af)(A:ao)(outer:List Env)(s:ah)(H:Hp)(vs:List V)(Q:VK)(E:XK),cQ k (A.deeper (envOfC qual (jh st) s.heap.objs.size f cdv))->sp vs H Q E->∃t,kB (jJ lG P w K mg base N qual (jh st) f cdv A outer s H E).xN (Ai st) t/\t {nx:=λ_ H'=>Q .aL H',rt:=Q} (start N vs) H):fy P w K mg base lG (k+1) f fd ps sp:=
 let⟨_,_,_,_,_,_,_,cdv,_,_,e,lk,hcd⟩:=F.ex
 by subst e;exact zU lk hcd S len λA outer s H vs Q E hr pD=>let⟨t,h,q⟩:=hbody cdv A outer s H vs Q E hr pD;⟨t,h.xN,q⟩
section
variable{K:aK}{m m':Nat->ai}{n n':Nat}{h h':VH}{H H':Hp}
mutual
theorem aJ.dM:∀{v:V} {w:W},aJ K m n H v w->W.lt n w=true|_,_,.aL=>rfl|_,_,.bl _=>rfl|_,_,.int _=>rfl|_,_,.str _=>rfl|_,_,.tup _ r=>aF.dM r|_,_,.fz _ r=>aF.dM r|_,_,.ref q=>gw.mpr q
theorem aF.dM:∀{vs:List V} {ws:List W},aF K m n H vs ws->W.lO n ws=true
 |_,_,.nil=>rfl
 |_,_,.cons q r=>by
  show(W.lt n _&&W.lO n _)=true;rw[aJ.dM q,aF.dM r];rfl
end
mutual
theorem aJ.cut:∀{v:V} {w:W},aJ K m n' H v w->W.lt n w=true->aJ K m n H v w|_,_,.aL,_=>.aL|_,_,.bl b,_=>.bl b|_,_,.int b,_=>.int b|_,_,.str b,_=>.str b|_,_,.tup q r,e=>.tup q (aF.cut r e)|_,_,.fz q r,e=>.fz q (aF.cut r e)|_,_,.ref q,e=>.ref (gw.mp e)
theorem aF.cut:∀{vs:List V} {ws:List W},aF K m n' H vs ws->W.lO n ws=true->aF K m n H vs ws
 |_,_,.nil,_=>.nil
 |_,_,.cons q r,e=>by
  have e:(W.lt n _&&W.lO n _)=true:=e;rw[bD]at e;exact .cons (aJ.cut q e.1) (aF.cut r e.2)
end
theorem aP.cut{m':Nat->ai}{n1:Nat}{H':Hp}:∀{vs us:List (Key×V)} {ws:List (Key×W)},aP K m n' H vs ws->aP K m' n H' us ws->aP K m n H vs ws|_,_,_,.nil,_=>.nil|_,_,_,.cons q r,.cons q2 r2=>.cons (q.cut q2.dM) (aP.cut (n1:=n1) r r2)
theorem OV{lo:Nat}(r:Rel K m h H):Rel K m ⟨h.n,lo,h.os⟩ H:=⟨r.obj,r.inj,r.len⟩
theorem OW{w w2:W}{h1 h2:VH}{v:V}{Q:VK}(r:Rel K m h H)(s:bP m h.n H m' h1.n H')(r1:Rel K m' h1 H')(q:aJ K m' h1.n H' v w)(g:fF ⟨h.n,h.n,h.os⟩ h1)(e:leave h w h1=.ok w2 h2)(k:aM K m h.n H w2 h2 Q):Q v H':=by
 unfold leave at e;split at e;rename_i hc;cases e;rw[bD]at hc;have hlo:=jD hc.1;refine k v H' m' ⟨aW _,s.same,λi a b=>absurd b (jE.mpr a),λi j a b=>absurd b (jE.mpr a),s.tup,s.bI,s.keep⟩ ⟨λi hi=>?_,λi j hi hj=>r1.inj i j (dS hi s.le) (dS hj s.le),r.len⟩ (q.cut hc.2);have hg:h1.get i=h.get i:=g.2.2 i hi (dS hi hlo);obtain⟨o,p1,p2⟩:=r1.obj i (dS hi s.le);rw[hg]at p1;refine⟨o,p1,?_⟩;have p3:=r.at_ p1;cases o with
 |lst ws=>
  obtain⟨vs,a1,a2⟩:=p2;obtain⟨us,b1,b2⟩:=p3;exact⟨vs,a1,a2.cut b2.dM⟩
 |dk ws=>
  obtain⟨vs,a1,a2⟩:=p2;obtain⟨us,b1,b2⟩:=p3;exact⟨vs,a1,aP.cut (n1:=0) a2 b2⟩
 |dm ws=>
  obtain⟨vs,a1,a2⟩:=p2;obtain⟨us,b1,b2⟩:=p3;exact⟨vs,a1,aP.cut (n1:=0) a2 b2⟩
 |dt ks ws=>
  obtain⟨xs,a1,a0,a2,a3⟩:=p2;obtain⟨us,b1,b0,b2,b3⟩:=p3;exact⟨xs,a1,a0,a2.cut b2.dM,a3.cut b3.dM⟩
 cases e;exact k v H' m' s (OV r1) q
theorem X6{N:List Str}{vs:List V}{ws:List W}(q:aF K m n H vs ws):Fr K m n H (L2.start N vs) (ws.map aC++bE (N.length-ws.length) aD):=by
 unfold L2.start;refine⟨by simp[q.length],λi w e=>?_⟩;by_cases hi:i<ws.length;rw[uN (by simpa using hi)]at e;rw[uN (by simpa[q.length]using hi)];rw[jf]at e ⊢;cases z:ws[i]? with
 |none=>rw[z]at e;cases e
 |some w'=>
  rw[z]at e;cases e;obtain⟨v,h1,h2⟩:=q.get z;exact⟨v,by rw[h1];rfl,h2⟩
 rw[nJ (by simpa using jE.mp hi)]at e;rw[Dj]at e;split at e<;>cases e
end
theorem Iw{F:Nat->Option Fn}{k idx:Nat}{ws:List W}{h h':VH}{w:W}{fn:Fn}(hF:F idx=aC fn)(e:run F k idx ws h=.ok w h'):ws.length=fn.ps:=by
 cases k with
 |zero=>cases e
 |succ k=>
  simp only[run,hF]at e;split at e;rename_i hl;exact Df hl;cases e
theorem OX{P:aj}{w:ak}{K:aK}{mg:Str->Option af}{base:aA}{F:Nat->Option Fn}{k idx:Nat}{fn:Fn}{x qual:Str}{st:au}{f:ai}{fd:av}{N ps:List Str}(hF:F idx=aC fn)(Fu:oG K x qual st f fd)(S:cV N ps (jh st))
 (hn:fn.n=N.length) (hp:fn.ps=ps.length)
 (hbody:∀(cdv:af)(A:ao)(outer:List Env)(s:ah)(H:Hp)(E:XK),cQ k (A.deeper (envOfC qual (jh st) s.heap.objs.size f cdv))->qS (jJ lG P w K mg base N qual (jh st) f cdv A outer s H E).xN (Ai st) (exs (run F k) fn.body)) :
 fy P w K mg base lG (k+1) f fd ps (ou K ps.length (run F (k+1) idx)):=by
 refine Fu.ok S (λvs H Q E h=>h.1) λcdv A outer s H vs Q E hr pD=>?_;refine⟨_,hbody cdv A outer s H E hr,?_⟩;obtain⟨hl,h,m,ws,w2,h2,r,q,e,k2⟩:=pD;have hws:=Iw hF e;simp only[run,hF]at e;split at e;refine bH e λfl h1 e1 e2=>?_;have g:=EG (yc F k) _ _ _ _ _ e1;have hN:fn.n-fn.ps=N.length-ws.length:=by rw[hn,hws]
 rw[hN]at e1;refine⟨_,⟨h.n,h.n,h.os⟩,m,fl,h1,X6 q,OV r,e1,λH' m' s' r'=>?_⟩;cases fl with|nx ρ=>exact λσ' f'=>OW r s' r' .aL g e2 k2|rt w3=>exact λv q3=>OW r s' r' q3 g e2 k2|bk _=>cases e2|ct _=>cases e2
 cases e
theorem OY{P:aj}{w:ak}{K:aK}{mg:Str->Option af}{base:aA}{F:Nat->Option Fn}{idx:Nat}{f:ai}{fd:av}{ps:List Str}:fy P w K mg base lG 0 f fd ps (ou K ps.length (run F 0 idx)):=
 ⟨λvs H Q E h=>h.1,λA outer s H args us vs Q E hr he hb hv hs=>by obtain⟨_,h,m,ws,w2,h2,r,q,e,k2⟩:=hs;cases e⟩
noncomputable def fS(K:aK)(x:Str):Option ai:=(match PySem.W.nsIn K mainGlobals x with|some (aC (.ref f))=>aC f|_=>aD)
theorem OZ{K:aK}{x:Str}{f:ai}(h:fS K x=aC f):PySem.W.nsIn K mainGlobals x=aC (aC (.ref f)):=by unfold fS at h;split at h;rename_i g e;cases h;exact e;cases h
end RF
namespace L2
open PySem PySem.Spec PyProof.Rows
theorem O0{a:Int}:∀(acc:List af) (k:Nat),(∀(j:Nat) v,acc[j]?=aC v->∃t,v=.int (a+ ((k+j:Nat):Int)) t)->Vals ((List.range' k acc.length).map λ(i:Nat)=>V.int (a+ (i:Int))) acc
 |[],k,_=>.nil
 |u::r,k,h=>by
  rw[dj,List.range'_succ,cu];refine .cons ?_ (O0 r (k+1) λj v e=>?_);obtain⟨t,e⟩:=h 0 u rfl;exact⟨t,e⟩;obtain⟨t,e2⟩:=h (j+1) v (by rw[nK];exact e);exact⟨t,by rw[e2,show k+1+j=k+ (j+1) by lia]⟩
section
variable{X:Cx}
theorem X7{a:aq}{ta:TA}{p p2 pos pos2:Pos}(hc:X.calm)(hg:Gl X "list")(hm:X.mg "list" = aD)(k8:Gl X "range")(hm2:X.mg "range" = aD)(ha:PA X [a] ta)(hs:autoParam (starEach [a] X.env=[(false,eval a X.env)]) L2.aR1._auto_1) :
 PE X (.Call (.Name "list" p) [.Call (.Name "range" p2) [a] [] pos2] [] pos) (λσ H Q=>ta σ H λvs H1=>∃j:Nat,vs=[.int j]/\j<=sizeLine/\∀l,H1 l=aD->Q (.ref l) (upd H1 l (.lst ((List.range' 0 j).map λ(i:Nat)=>V.int (0+ (i:Int)))))):=by
 intro pins s σ H Q I h;refine Call_ (nT I hg hm PyProof.Rows.boot_list (sQ (zd ?_) rfl rfl));refine Call_ (nT I k8 hm2 boot_range (sQ (aX (ha pos2 pins s σ H _ I h) λus s1 z9=>z9.el λvs H1 I1 r1 q1=>?_) hs rfl));obtain⟨j,e,hj,q⟩:=q1;subst e;cases r1 with
 |cons r rr=>
  cases rr;obtain⟨t,rfl⟩:=r;refine call_range_1 (DJ ?_);have hz:=xQ;have h24:sizeLine<=2 ^ 24:=by decide
  refine call_list_range (n:=j) (I.ok.hd hc) (IsRange.new ..) (small_one (by lia) (by lia) (by lia) (by lia)) (by rw[rangeSize_one];split<;>lia) (by lia) λh' tk acc c hk hD hI=>?_;have I2:Inv X pins σ H1 {s1 with heap:=s1.heap.push {cls:=.type "range",data:=.fields #[.int 0 s1.toks,.int (j:Int) t,.int 1 (s1.toks+1)]},toks:=s1.toks+1+1}:=I1.kept λb o e=>b9 _ e;have v:=O0 (a:=0) acc.toList 0 λi v e=>by
   obtain⟨t,e2⟩:=hI.2 i v (by rw[<-e,Array.getElem?_toList]);exact⟨t,by rw[e2];congr 1⟩
  have hlen:acc.toList.length=j:=by rw[sU];exact hI.1
  rw[hlen]at v;refine⟨.ref _,_,I2.laid (t':=tk) hk (aW _) (show bf X.prog X.w _ h' _ (.lst ((List.range' 0 j).map λ(i:Nat)=>V.int (0+ (i:Int))))from⟨by rw[bT,List.length_range'];exact hj,acc.toList,c,v,?_⟩),rfl,q _ (I2.hok.fresh (aW _))⟩;exact hD
end
end L2
namespace RF
open PySem PySem.Spec PyProof.Rows L2
section
variable{X:Cx}{e:aq}{fa:FE}{p p2 pos pos2:Pos}
theorem O1{K:aK}{m:Nat->ai}{n:Nat}{H:Hp}:∀is:List Nat,aF K m n H (is.map λ(i:Nat)=>V.int (0+ (i:Int))) (is.map λ(i:Nat)=>W.int (0+ (i:Int)))|[]=>.nil|_::r=>.cons (.int _) (O1 r)
theorem X8(hc:X.calm)(hg:Gl X "list")(hm:X.mg "list" = aD)(k8:Gl X "range")(hm2:X.mg "range" = aD)(ha:SA X [e] fa)(hs:gf e) :
 SE X (.Call (.Name "list" p) [.Call (.Name "range" p2) [e] [] pos2] [] pos) (iy fa jY):=by
 refine(X7 hc hg hm k8 hm2 ha (fE hs)).imp λσ H Q q=>vI (g:=jY) (G:=λvs H1 Q=>∃j:Nat,vs=[.int j]/\j<=sizeLine/\∀l,H1 l=aD->Q (.ref l) (upd H1 l (.lst ((List.range' 0 j).map λ(i:Nat)=>V.int (0+ (i:Int)))))) (λm h H vs xs w h' Q r q e k=>?_) q;unfold jY at e;split at e;rename_i i;split at e;rename_i hz;cases e;rw[bD,eE]at hz;obtain⟨v,rfl,q1⟩:=eu q;cases q1;refine⟨i.toNat,by rw[Int.toNat_of_nonneg hz.1],jD hz.2,λl hl=>?_⟩;exact aM.list k r (O1 _) hl;cases e;cases e
end
end RF
namespace L2
open PySem PySem.Spec PyProof.Rows
theorem O2:∀{ls:List Int} {us:List af},Vals (ls.map .int) us->IntsAre us ls|[],_,.nil=>.nil|x::r,_,.cons ⟨t,e⟩ h=>by subst e;exact .cons x t (O2 h)
section
variable{X:Cx}
theorem Yb(hc:X.calm):bO X (.builtin "max") (λxs H Q=>∃(p:ai) (ns:List Int),xs=[.ref p]/\cC X.K H p (ns.map .int)/\0<ns.length/\∀M,M∈ns->(∀a∈ns,a<=M)->Q (.int M) H):=by
 intro pins s σ H xs us Q I r h;obtain⟨p,ns,rfl,hq,hne,q⟩:=h;obtain⟨u,rfl,ru⟩:=vals1 r;cases ru;obtain⟨its,rv,pl,hz⟩:=I.list hq;have hL:s.heap.IsList p its.toArray:=pl.isList;have hi:=O2 rv;obtain⟨ys,hx⟩:=hi.allInts.items;have hl':s.heap.IsList p (intItems ys):=hx▸hL;have hns:ns=ys.toList.map (·.1):=by rw[<-nums_intItems,<-hx];exact(show numsOf its.toArray.toList=ns from hi.numsOf).symm
 have hsz:0<ys.size:=by rw[hns,bT,sU]at hne;exact hne
 refine max_intList (I.ok.hd hc) hl' hsz λv h' tk hv hk=>?_;obtain⟨t,rfl⟩:=intItems_at hv;obtain⟨h1,h2⟩:=argBest_gt (numAt ys) (ys.size-1);refine⟨.int _,H,I.kept (t':=tk) hk,⟨_,rfl⟩,q _ ?_ λa ha=>?_⟩;rw[hns,numAt_eq];exact getD_mem (by rw[bT,sU];lia);rw[hns]at ha;obtain⟨j,hj,rfl⟩:=mem_getD ha;rw[bT,sU]at hj;rw[<-numAt_eq];exact h2 j (by lia)
end
end L2
namespace RF
open PySem PySem.Spec PyProof.Rows L2
section
variable{X:Cx}{e o a k:aq}{lo:Option aq}{fa fo:FE}{pos p2:Pos}
theorem Yc:SE X (.Dict [] [] pos) (iy k7 vG):=Ut.imp λσ H Q z9 p hp=>z9.el λρ h m w h' f r e k=>by
 cases e;exact aM.A3 (xs:=[]) k r hp (.inr ⟨rfl,rfl⟩) rfl .nil .nil
end
set_option genInjectivity false in
structure CC where
 N:List Str
 names:List (Str×NameKind)
 tW:Bool
noncomputable def qY:List Str->Str->Nat->Option Nat|[],_,_=>aD|y::r,x,i=>if y==x then aC i else qY r x (i+1)
theorem O3:∀{N:List Str} {x:Str} {k i:Nat},qY N x k=aC i->∃j,i=k+j/\N[j]?=aC x
 |[],_,_,_,e=>by cases e
 |y::r,x,k,i,e=>by
  unfold qY at e;split at e;rename_i h;cases e;exact⟨0,rfl,by simpa using h⟩;obtain⟨j,h1,h2⟩:=O3 e;exact⟨j+1,by lia,by simpa using h2⟩
theorem Iz{N:List Str}{x:Str}{i:Nat}(e:qY N x 0=aC i):N[i]?=aC x:=by obtain⟨j,h1,h2⟩:=O3 e;rw[show i=j by lia];exact h2
noncomputable def qZ:Option NameKind->Bool|some .local|some .cell|some .free=>true|_=>false
noncomputable def rj(all:Bool):Option NameKind->Bool|some .local=>true|some .cell=>all|_=>false
noncomputable def okN(x:Str):Bool:=!(x==("__debug__" : Str)) && !(x==("__classdict__" : Str)) && !(x==("__name__" : Str)) && !(x==("" : Str))
theorem Yd{x:Str}(h:okN x):x≠"":=by unfold okN at h;simp only[bD,yS]at h;exact λz=>by rw[z]at h;simp at h
theorem yd{x:Str}(h:okN x):(x==("__debug__" : Str))=false/\(x==("__classdict__" : Str))=false/\x≠"__name__":=by unfold okN at h;simp only[bD,yS]at h;exact⟨h.1.1.1,h.1.1.2,λz=>by rw[z]at h;simp at h⟩
noncomputable def oH(K:aK):Nat->af->Option W
 |0,_=>aD
 |n+1,v=>match v with
  |.none=>aC .aL
  |.bool b=>aC (.bl b)
  |.int i _=>aC (.int i)
  |.str x _=>aC (.str x)
  |.ref a=>(match K.lookup a with
   |some o=>(match o.cls,o.dict,o.data with
    |.type t,aD,.seq its _=>if t == "tuple" && Nat.ble its.size 1000 then(aO (oH K n) its.toList).map .tup else aD
    |_,_,_=>aD)
   |none=>aD)
  |_=>aD
theorem O4{K:aK}{f:af->Option W}(ih:∀v w,f v=aC w->∃x,RelV x v/\∀m n H,aJ K m n H x w):∀{us:List af} {ws:List W},aO f us=aC ws->∃xs,Vals xs us/\∀m n H,aF K m n H xs ws
 |[],_,e=>by cases e;exact⟨[],.nil,λ_ _ _=>.nil⟩
 |u::us,ws,e=>by
  unfold aO at e;split at e;rename_i b hb;split at e;rename_i bs BN;cases e;obtain⟨x,h1,h2⟩:=ih u b hb;obtain⟨xs,h3,h4⟩:=O4 ih BN;exact⟨x::xs,.cons h1 h3,λm n H=>.cons (h2 m n H) (h4 m n H)⟩;cases e;cases e
theorem O5{K:aK}:∀(n:Nat) (v:af) (w:W),oH K n v=aC w->∃x,RelV x v/\∀m n H,aJ K m n H x w
 |0,_,_,e=>by cases e
 |n+1,v,w,e=>by
  unfold oH at e;split at e;cases e;exact⟨.aL,rfl,λ_ _ _=>.aL⟩;cases e;exact⟨.bl _,rfl,λ_ _ _=>.bl _⟩;cases e;exact⟨.int _,⟨_,rfl⟩,λ_ _ _=>.int _⟩;cases e;exact⟨.str _,⟨_,rfl⟩,λ_ _ _=>.str _⟩;rename_i a;split at e;rename_i o ho;split at e;rename_i t its nn hc Er hd;split at e;rename_i hz;rw[bD]at hz;have ht:t = "tuple":=by simpa using hz.1
  subst ht;cases z:aO (oH K n) its.toList with
  |none=>rw[z]at e;cases e
  |some ws=>
   rw[z]at e;cases e;obtain⟨xs,h3,h4⟩:=O4 (O5 n) z;exact⟨.ref a,rfl,λm n H=>.tup (.inr ⟨o,its,nn,ho,hc,Er,hd,sI (M4 (jD hz.2)),h3⟩) (h4 m n H)⟩
  cases e;cases e;cases e;cases e
noncomputable def cL(f:aq->Option E):List aq->Option E
 |[]=>aC .nil
 |e::es=>match f e,cL f es with
  |some a,aC r=>aC (.cons a r)
  |_,_=>aD
noncomputable def fnAt(K:aK)(x:Str):Option (ai×Obj×av):=match fS K x with
 |some f=>(match K.lookup f with
  |some o=>(match o.data with
   |.func fd=>aC (f,o,fd)
   |_=>aD)
  |none=>aD)
 |none=>aD
noncomputable def vP:Arguments->Option (List Arg)|⟨[],args,aD,[],[],aD,_⟩=>aC args|_=>aD
noncomputable def isNone:af->Bool|.none=>true|_=>false
noncomputable def EJ:Data->Bool
 |.seq xs _=>(match xs.toList with
  |[v]=>isNone v
  |_=>false)
 |_=>false
noncomputable def fT(K:aK):af->Bool
 |.ref t=>(match K.lookup t with
  |some o=>EJ o.data
  |none=>false)
 |_=>false
noncomputable def IA(K:aK)(x:Str)(n:Nat):Bool:=match fnAt K x with|some (_,_,fd)=>fT K fd.defaults&&Nat.beq (n+1) fd.params.args.length|none=>false
noncomputable def gy(K:aK)(x:Str):Bool:=match fnAt K x with|some (_,_,fd)=>fT K fd.defaults|none=>false
theorem Ye{K:aK}{x:Str}{n:Nat}(h:IA K x n):gy K x=true:=by unfold IA at h;unfold gy;split at h;rw[bD]at h;exact h.1;cases h
noncomputable def m5:E->E|.nil=>.cons (.cst .aL) .nil|.cons a r=>.cons a (m5 r)|e=>e
noncomputable def lU:E->Bool|.nil=>true|.cons _ r=>lU r|_=>false
theorem Yg{cl:Call}:∀{a:E},lU a=true->∀(ρ:En) (h:VH),ev cl (m5 a) ρ h=(ev cl a ρ h).bind λy h=>match y with|.tup ys=>.ok (.tup (ys++[.aL])) h|_=>.no:=by
 intro a;induction a with
 |nil=>intro _ ρ h;rfl
 |cons x r _ ih=>
  intro ha ρ h;have ih:=ih ha;simp only[m5,ev];cases ev cl x ρ h with
  |no=>rfl
  |ex _ _=>rfl
  |ok w h1=>
   show Res.bind (ev cl (m5 r) ρ h1) _=Res.bind (Res.bind (ev cl r ρ h1) _) _;rw[ih];cases ev cl r ρ h1 with|no=>rfl|ex _ _=>rfl|ok y h2=>cases y<;>rfl
 |_=>intro ha;cases ha
theorem O6{f:aq->Option E}:∀{es:List aq} {a:E},cL f es=aC a->lU a=true
 |[],_,h=>by cases h;rfl
 |e::es,a,h=>by
  unfold cL at h;split at h;rename_i x r h1 h2;cases h;show lU r=true;exact O6 h2;cases h
noncomputable def EK(f:aq->Option E):List (Option aq)->List aq->Option E
 |[],[]=>aC .nil
 |some k::ks,v::vs=>match f k,f v,EK f ks vs with
  |some a,aC b,aC r=>aC (.cons a (.cons b r))
  |_,_,_=>aD
 |_,_=>aD
noncomputable def cB(and:Bool)(f:aq->Option E):List aq->Option E
 |[]=>aD
 |[a]=>f a
 |a::b::r=>match f a,cB and f (b::r)with
  |some x,aC y=>aC (if and then .and x y else .or x y)
  |_,_=>aD
noncomputable def cO(f:aq->Option E):Option aq->Option (Bool×E)|none=>aC (false,.cst .aL)|some e=>(f e).map λc=>(true,c)
noncomputable def rm(K:aK)(C:CC)(x:Str):Bool:=C.names.lookup x==aC .globalImplicit&& (match PySem.W.nsIn K mainGlobals x with|some aD=>true|_=>false)
noncomputable def vQ(x:Str):Option Ty:=
 if x==("int" : Str)then aC .int else if x==("bool" : Str)then aC .bool else if x==("tuple" : Str)then aC .tuple else if x==("list" : Str)then aC .list else if x==("str" : Str)then aC .str else if x==("dict" : Str)then aC .dict else aD
noncomputable def vR(f:Str)(args:List aq):Option aq:=if f==("list" : Str)then(match args with|[.Call (.Name g _) [a] [] _]=>if g==("range" : Str)then aC a else aD|_=>aD)else aD
noncomputable def vS(x:Str):Option Bi:=
 if x==("len" : Str)then aC .len else if x==("list" : Str)then aC .list else if x==("tuple" : Str)then aC .tuple else if x==("int" : Str)then aC .int else if x==("abs" : Str)then aC .abs else if x==("max" : Str)then aC .max else if x==("min" : Str)then aC .min else if x==("all" : Str)then aC .all else aD
noncomputable def O7:aq->Bool|.Tuple ..=>true|_=>false
noncomputable def ye:Kd->aq->Bool|.pH,t=>O7 t|.zip,t=>O7 t|_,_=>true
noncomputable def iA(C:CC):aq->Option Nat|.Name x _=>if okN x&&rj C.tW (C.names.lookup x)then qY C.N x 0 else aD|_=>aD
noncomputable def yf(C:CC):aq->Option Tg|.Name x p=>(iA C (.Name x p)).map .one|.Tuple es _ _=>(aO (iA C) es).map .many|_=>aD
noncomputable def ownOf(sc:az):List Str:=(sc.names.filter λy=>(y.2 == .local||y.2 == .cell) && !(y.1==(".0" : Str))).map (·.1)
noncomputable def gz(sc:az):List Str:=(sc.names.filter λy=>y.2 == .free).map (·.1)
noncomputable def rq(C:CC)(sc:az)(ix:List Nat):Bool:=
 decide (sc.kind=.function)&&sc.names.all (λy=>decide (y.2=.cell->sc.names.lookup y.1=aC .cell))&&sc.names.all (λy=>decide (y.2=.free->sc.names.lookup y.1=aC .free))&&sc.names.all (λy=>decide (y.2=.local->sc.names.lookup y.1=aC .local)) &&
 (ownOf sc).all (λx=>decide (sc.names.lookup x=aC .local\/sc.names.lookup x=aC .cell))&&sc.names.all (λy=>decide (y.2=.free->C.names.lookup y.1=aC .cell\/C.names.lookup y.1=aC .free))&&decide (ix.length=(gz sc).length) &&
 ((List.range (gz sc).length).all λk=>match(gz sc)[k]?,ix[k]? with|some x,aC j=>decide (C.N[j]?=aC x)&&decide (sc.names.lookup x=aC .free)|_,_=>false)&&decide (ownOf sc++gz sc).Nodup
noncomputable def kG(sc:az):CC:=⟨ownOf sc++gz sc,sc.names,true⟩
noncomputable def vU:E->Bool|.neg (.cst (.int i))=>decide (i=1)|_=>false
theorem Yh{e:E}(h:vU e):e=.neg (.cst (.int 1)):=by unfold vU at h;split at h;rw[jc h];cases h
mutual
noncomputable def cE(K:aK)(T:List Str):Nat->CC->aq->Option E
 |0,_,_=>aD
 |n+1,C,e=>match e with
  |.Name x _=>if okN x then(if qZ (C.names.lookup x)then(qY C.N x 0).map .var
   else if C.names.lookup x==aC .globalImplicit then(match PySem.W.nsIn K mainGlobals x with|some (aC v)=>(oH K 8 v).map .cst|_=>aD)else aD)else aD
  |.Constant c _ _=>(match c with
   |.int i=>aC (.cst (.int i))
   |.bool b=>aC (.cst (.bl b))
   |.none=>aC (.cst .aL)
   |.str x=>aC (.cst (.str x))
   |_=>aD)
  |.Tuple es _ _=>(cL (cE K T n C) es).map .tup
  |.List es _=>(cL (cE K T n C) es).map .lst
  |.Dict ks vs _=>(match ks with
   |[]=>(match vs with
    |[]=>aC (.bi .Ew .nil)
    |_::_=>aD)
   |k::ks=>if Nat.ble (k::ks).length 15&&Nat.beq (k::ks).length vs.length&& (k::ks).all (·.isSome)then(EK (cE K T n C) (k::ks) vs).map .HM else aD)
  |.BinOp a O b _=>(match A9 O,cE K T n C a,cE K T n C b with
   |some o,aC x,aC y=>aC (.op o x y)
   |_,_,_=>aD)
  |.UnaryOp o a _=>(match o with
   |.Not=>(cE K T n C a).map .not
   |.USub=>(cE K T n C a).map .neg
   |_=>aD)
  |.BoolOp o es _=>(match o with
   |.And=>cB true (cE K T n C) es
   |.Or=>cB false (cE K T n C) es)
  |.Compare a Os bs _=>(match Os,bs with
   |[O],[b]=>if pI b then(match gx O,cE K T n C a,cE K T n C b with
   |some c,aC x,aC y=>aC (.cmp c x y)
   |_,_,_=>aD)else aD
   |[O,O'],[b,c]=>if pI c then(match gx O,gx O',cE K T n C a,cE K T n C b,cE K T n C c with
   |some o,aC o',aC x,aC y,aC z=>aC (.vD o o' x y z)
   |_,_,_,_,_=>aD)else aD
   |_,_=>aD)
  |.IfExp c a b _=>(match cT K T n C c,cE K T n C a,cE K T n C b with
   |some z,aC x,aC y=>aC (.ite z x y)
   |_,_,_=>aD)
  |.Subscript a b _=>(match b with
   |.Slice lo hi st _=>(match st with
    |none=>(match cE K T n C a,cO (cE K T n C) lo,cO (cE K T n C) hi with
   |some x,aC (bl,l),aC (bh,u)=>aC (.slc x bl l bh u)
   |_,_,_=>aD)
    |some s=>(match lo,hi,cE K T n C a,cE K T n C s with
     |none,aD,aC x,aC y=>if vU y then aC (.bi .xV (.cons x .nil))else aD
     |_,_,_,_=>aD))
   |b=>if BE b then(match cE K T n C a,cE K T n C b with
   |some x,aC y=>aC (.idx x y)
   |_,_=>aD)else aD)
  |.Call fn args kw pos=>(match kw with
   |[]=>(match fn with
    |.Name f _=>if okN f&&C.names.lookup f==aC .globalImplicit then(match PySem.W.nsIn K mainGlobals f with
     |some aD=>if f==("isinstance" : Str)then(match args with
      |[a,.Name t _]=>(match vQ t,cE K T n C a with
       |some ty,aC x=>if okN t&&rm K C t then aC (.vE ty x)else aD
       |_,_=>aD)
      |_=>aD)
      else(match vR f args with
       |some a=>if okN "range" && rm K C "range"then(cE K T n C a).map λx=>.bi .AV (.cons x .nil)else aD
       |none=>match vS f,args with
       |some b,_::_=>(cL (cE K T n C) args).map (.bi b)
       |_,_=>aD)
     |some (aC _)=>(match qY T f 0 with
      |some i=>if IA K f args.length && !args.isEmpty then(cL (cE K T n C) args).map (λa=>.call i (m5 a))else(cL (cE K T n C) args).map (.call i)
      |none=>aD)
     |none=>aD)else aD
    |.Attribute o O8 ap=>if EC o&& (ap.endLine==pos.line)then(match cE K T n C o,args with
     |some x,[a]=>if O8==("append" : Str)then(cE K T n C a).map λy=>.mt .append x (.cons y .nil)else aD
     |some x,[a,b]=>if O8==("setdefault" : Str)then(match cE K T n C a,cE K T n C b with
      |some y,aC z=>aC (.mt .jU x (.cons y (.cons z .nil)))
      |_,_=>aD)else aD
     |_,_=>aD)else aD
    |_=>aD)
   |[⟨kn,.Constant kc _ _,_⟩]=>(match kc with
    |.none=>(match fn,args with
     |.Name f _,[a]=>if kn==aC ("default" : Str)&&f==("min" : Str)&&rm K C "min"then(cE K T n C a).map λx=>.bi .HL (.cons x .nil)else aD
     |_,_=>aD)
    |_=>aD)
   |_=>aD)
  |.ListComp elt gs sc _=>(match gs with
   |[g]=>(match g with
    |⟨tg,iter,ifs,0⟩=>(match aO (λx=>qY C.N x 0) (gz sc)with
     |some ix=>if rq C sc ix then(match cW K T n C iter,yf (kG sc) tg,(match ifs with|[]=>aC (.cst (.bl true))|[c]=>cT K T n (kG sc) c|_=>aD),cE K T n (kG sc) elt with
      |some (kd,a),aC t,aC c,aC e=>if ye kd tg then aC (.lc kd a t (ownOf sc).length ix c e)else aD
      |_,_,_,_=>aD)else aD
     |none=>aD)
    |_=>aD)
   |[g,g2]=>(match g with
    |⟨tg,iter,ifs,0⟩=>(match g2 with
     |⟨gq,bx,cZ,0⟩=>(match aO (λx=>qY C.N x 0) (gz sc)with
      |some ix=>if rq C sc ix then(match cW K T n C iter,yf (kG sc) tg,(match ifs with|[]=>aC (E.cst (.bl true))|[c]=>cT K T n (kG sc) c|_=>aD),cE K T n (kG sc) elt with
       |some (kd,a),aC t,aC c,aC e=>if ye kd tg then(match cW K T n (kG sc) bx,yf (kG sc) gq,(match cZ with|[]=>aC (E.cst (.bl true))|[c]=>cT K T n (kG sc) c|_=>aD)with
        |some (iz,a2),aC t2,aC c2=>if ye iz gq then aC (.tO kd a t (ownOf sc).length ix c iz a2 t2 c2 e)else aD
        |_,_,_=>aD)else aD
       |_,_,_,_=>aD)else aD
      |none=>aD)
     |_=>aD)
    |_=>aD)
   |_=>aD)
  |_=>aD
noncomputable def cT(K:aK)(T:List Str):Nat->CC->aq->Option E
 |0,_,_=>aD
 |n+1,C,e=>match e with
  |.Compare a Os bs _=>(match Os,bs with
   |[O],[b]=>if pI b then(match gx O,cE K T n C a,cE K T n C b with
   |some c,aC x,aC y=>aC (.cmp c x y)
   |_,_,_=>aD)else aD
   |[O,O'],[b,c]=>if pI c then(match gx O,gx O',cE K T n C a,cE K T n C b,cE K T n C c with
   |some o,aC o',aC x,aC y,aC z=>aC (.vD o o' x y z)
   |_,_,_,_,_=>aD)else aD
   |_,_=>aD)
  |.UnaryOp o a _=>(match o with
   |.Not=>(cT K T n C a).map .not
   |_=>aD)
  |.BoolOp o es _=>(match o with
   |.And=>cB true (cT K T n C) es
   |.Or=>cB false (cT K T n C) es)
  |.Name x p=>(cE K T n C (.Name x p)).map .jz
  |.Call f as ks p=>(cE K T n C (.Call f as ks p)).map .jz
  |.Subscript a b p=>(cE K T n C (.Subscript a b p)).map .jz
  |_=>aD
noncomputable def cW(K:aK)(T:List Str):Nat->CC->aq->Option (Kd×E)
 |0,_,_=>aD
 |n+1,C,e=>match e with
  |.Call (.Name f p) args [] pos=>if f==("range" : Str)then(if rm K C f then(match args with
   |[a]=>(cE K T n C a).map λx=>(.bL,.cons x .nil)
   |[a,b]=>(match cE K T n C a,cE K T n C b with
    |some x,aC y=>aC (.vC,.cons x (.cons y .nil))
    |_,_=>aD)
   |_=>aD)else aD)
   else if f==("enumerate" : Str)then(if rm K C f then(match args with|[a]=>(cE K T n C a).map λx=>(.pH,x)|_=>aD)else aD)
   else if f==("reversed" : Str)then(if rm K C f then(match args with|[a]=>(cE K T n C a).map λx=>(.rev,x)|_=>aD)else aD)
   else if f==("zip" : Str)then(if rm K C f then(match args with
    |[a,b]=>(match cE K T n C a,cE K T n C b with
     |some x,aC y=>aC (.zip,.cons x (.cons y .nil))
     |_,_=>aD)
    |_=>aD)else aD)
   else(cE K T n C (.Call (.Name f p) args [] pos)).map λx=>(.seq,x)
  |.Set ..=>aD
  |e=>(cE K T n C e).map λx=>(.seq,x)
end
noncomputable def oJ(f:au->Option S):List au->Option S
 |[]=>aC .skip
 |s::r=>match f s,oJ f r with
  |some a,aC b=>aC (.seq a b)
  |_,_=>aD
noncomputable def cS(K:aK)(T:List Str)(d:Nat):Nat->CC->au->Option S
 |0,_,_=>aD
 |n+1,C,s=>match s with
  |.Pass _=>aC .skip
  |.Break _=>aC .brk
  |.Continue _=>aC .cnt
  |.Raise ..=>aC .no
  |.Return r _=>(match r with
   |none=>aC (.ret (.cst .aL))
   |some e=>(cE K T d C e).map .ret)
  |.Expr e _=>if EH e then(cE K T d C e).map .expr else aD
  |.Assign l e _=>(match l with
   |[t]=>(match t with
    |.Name x p=>(match iA C (.Name x p),cE K T d C e with
    |some i,aC c=>aC (.set i c)
    |_,_=>aD)
    |.Tuple ts _ _=>if oF e then(match aO (iA C) ts,cE K T d C e with
    |some is,aC c=>aC (.om is c)
    |_,_=>aD)else aD
    |.Subscript o i _=>if BE i then(match cE K T d C o,cE K T d C i,cE K T d C e with
    |some x,aC y,aC z=>aC (.put x y z)
    |_,_,_=>aD)else aD
    |_=>aD)
   |_=>aD)
  |.AugAssign t O e _=>(match t with
   |.Name x p=>(match iA C (.Name x p),qW O,cE K T d C e with
    |some i,aC o,aC c=>aC (.aug i o c)
    |_,_,_=>aD)
   |_=>aD)
  |.If c a b _=>(match cT K T d C c,oJ (cS K T d n C) a,oJ (cS K T d n C) b with
   |some z,aC x,aC y=>aC (.ite z x y)
   |_,_,_=>aD)
  |.For tg it b el _=>(match el with
   |[]=>(match cW K T d C it,yf C tg,oJ (cS K T d n C) b with
    |some (kd,a),aC t,aC x=>if ye kd tg then aC (.for kd a t x)else aD
    |_,_,_=>aD)
   |_=>aD)
  |.While c b el _=>(match el with
   |[]=>(match cT K T d C c,oJ (cS K T d n C) b with
    |some z,aC x=>aC (.Ex z x)
    |_,_=>aD)
   |_=>aD)
  |_=>aD
structure iB(X:Cx)(C:CC)(T:List Str)(F:Nat->Option Fn)(k:Nat):Prop where
 hN:X.N=C.N
 nd:C.N.Nodup
 vis:∀x,qZ (C.names.lookup x)=true->xJ X.env.scope x
 loc:∀x,rj C.tW (C.names.lookup x)=true->Loc X.env.scope x/\(X.fn x=true\/X.env.scope.names.lookup x=aC .local)
 gl:∀x,C.names.lookup x=aC .globalImplicit->Gl X x
 cf:∀x,(C.names.lookup x=aC .cell\/C.names.lookup x=aC .free)->X.env.kindOf x=aC .cell\/X.env.kindOf x=aC .free
 calm:X.calm=true
 room:cQ k X.A
 xe:X.xe=λ_ _=>False
 O9:X.env.scope.kind=.function
 BO:∀x v,PySem.W.nsIn X.K mainGlobals x=aC (aC v)->X.mg x=aC v
 IB:∀x,PySem.W.nsIn X.K mainGlobals x=aC aD->X.mg x=aD
 fns:∀(i:Nat)(x:Str),T[i]?=aC x->x≠""->∃f fd ps fn,fS X.K x=aC f/\fy X.prog X.w X.K X.mg X.base lG k f fd ps (ou X.K ps.length (run F k i))/\PySem.W.keepIn X.K (.ref f)=true/\Binds X.K fd ps []/\F i=aC fn/\fn.ps=ps.length/\(gy X.K x=true->Binds X.K fd ps [.none])
section
variable{X:Cx}{C:CC}{T:List Str}{F:Nat->Option Fn}{k:Nat}
theorem iB.BP(O:iB X C T F k):X.A.units+65<cLine:=by have:=O.room.un;lia
theorem iB.u2(O:iB X C T F k):X.A.units+2<cLine:=Nat.lt_of_le_of_lt (Nat.add_le_add_left (by decide:2<=64) _) O.room.units
theorem vV(O:iB X C T F k){x:Str}(h:rm X.K C x):Gl X x/\X.mg x=aD:=by unfold rm at h;rw[bD]at h;refine⟨O.gl x (by simpa using h.1),O.IB x ?_⟩;have h2:=h.2;split at h2;assumption;cases h2
theorem lV(O:iB X C T F k){e:aq}{i:Nat}(h:iA C e=aC i):oz X e i:=by unfold iA at h;split at h;split at h;rename_i hc;rw[bD]at hc;obtain⟨h1,h2⟩:=O.loc _ hc.2;exact⟨_,_,rfl,by rw[O.hN];exact Iz h,h1,h2⟩;cases h;cases h
theorem IC(O:iB X C T F k):∀{es:List aq} {is:List Nat},aO (iA C) es=aC is->Paired (oz X) es is
 |[],_,h=>by cases h;exact .nil
 |e::es,is,h=>by
  unfold aO at h;split at h;rename_i b hb;split at h;rename_i bs BN;cases h;exact .cons (lV O hb) (IC O BN);cases h;cases h
theorem lW(O:iB X C T F k){e:aq}{t:Tg}(h:yf C e=aC t):PG X e (dg X.K t):=by
 unfold yf at h;split at h;rename_i x p;cases z:iA C (.Name x p)with
 |none=>rw[z]at h;cases h
 |some i=>
  rw[z]at h;cases h;obtain⟨x',p',e,h1,h2,h3⟩:=lV O z;cases e;exact W5 (O.hN▸O.nd) h1 h2 h3
 rename_i es kx p;cases z:aO (iA C) es with|none=>rw[z]at h;cases h|some is=>rw[z]at h;cases h;exact Oz O.calm (O.hN▸O.nd) (IC O z)
 cases h
theorem iY{f:aq->Option E}{cl:Call}(ih:∀e c,f e=aC c->SE X e (ev cl c)/\gf e):∀{es:List aq} {c:E},cL f es=aC c->SA X es (ev cl c)/\es.all gf=true
 |[],_,h=>by cases h;exact⟨A6,rfl⟩
 |e::es,c,h=>by
  unfold cL at h;split at h;rename_i a r ha hr;cases h;obtain⟨h1,h2⟩:=ih e a ha;obtain⟨h3,h4⟩:=iY ih hr;exact⟨vJ h1 h3 (fE h2),by rw[kr,h2,h4];rfl⟩;cases h
theorem Pa{f:aq->Option E}{cl:Call}{pos:Pos}(ih:∀e c,f e=aC c->SE X e (ev cl c)/\gf e):∀{ks:List (Option aq)} {vs:List aq} {c:E},EK f ks vs=aC c->Bo X pos ks vs (ev cl c)
 |[],[],_,h=>by cases h;exact WK
 |[],_::_,_,h=>by cases h
 |none::_,_,_,h=>by cases h
 |some _::_,[],_,h=>by cases h
 |some a::ks,v::vs,c,h=>by
  unfold EK at h;split at h;rename_i x y r hx hy hr;cases h;exact WL (ih _ _ hx).1 (ih _ _ hy).1 (Pa ih hr);cases h
theorem lX{f:aq->Option E}{cl:Call}{pos:Pos}(ih:∀e c,f e=aC c->SE X e (ev cl c)/\gf e):∀{es:List aq} {c:E},(cB true f es=aC c->SE X (.BoolOp .And es pos) (ev cl c))/\(cB false f es=aC c->SE X (.BoolOp .Or es pos) (ev cl c))
 |[],_=>⟨(λh=>nomatch h),(λh=>nomatch h)⟩
 |[a],c=>⟨λh=>N8 (ih a c h).1,λh=>N8 (ih a c h).1⟩
 |a::b::r,c=>by
  refine⟨λh=>?_,λh=>?_⟩;unfold cB at h;split at h;rename_i x y hx hy;cases h;exact Wi (ih a x hx).1 ((lX ih).1 hy);cases h;unfold cB at h;split at h;rename_i x y hx hy;cases h;exact Bg (ih a x hx).1 ((lX ih).2 hy);cases h
theorem EL{f:aq->Option E}{cl:Call}{pos:Pos}(ih:∀e c,f e=aC c->ST X e (ev cl c)):∀{es:List aq} {c:E},(cB true f es=aC c->SW X (.BoolOp .And es pos) (ev cl c))/\(cB false f es=aC c->SW X (.BoolOp .Or es pos) (ev cl c))
 |[],_=>⟨(λh=>nomatch h),(λh=>nomatch h)⟩
 |[a],c=>⟨λh=>N7 (ih a c h),λh=>N7 (ih a c h)⟩
 |a::b::r,c=>by
  refine⟨λh=>?_,λh=>?_⟩;unfold cB at h;split at h;rename_i x y hx hy;cases h;exact Wh (ih a x hx) ((EL ih).1 hy);cases h;unfold cB at h;split at h;rename_i x y hx hy;cases h;exact Bf (ih a x hx) ((EL ih).2 hy);cases h
theorem tX{f:aq->Option E}{cl:Call}(ih:∀e c,f e=aC c->SE X e (ev cl c)/\gf e){o:Option aq}{b:Bool}{c:E}(h:cO f o=aC (b,c)):PO X o (jo X.K b (ev cl c)):=by
 unfold cO at h;split at h;cases h;exact Wr;rename_i e;cases z:f e with|none=>rw[z]at h;cases h|some c'=>rw[z]at h;cases h;exact Oa (ih _ _ z).1
theorem Yi{x:Str}{t:Ty}(h:vQ x=aC t):bootBuiltins x=aC (.type (qQ t)):=by unfold vQ at h;split at h;rename_i e;cases h;rw[show x = "int" by simpa using e];exact PyProof.Rows.boot_int;split at h;rename_i e;cases h;rw[show x = "bool" by simpa using e];decide +kernel;split at h;rename_i e;cases h;rw[show x = "tuple" by simpa using e];exact PyProof.Rows.boot_tuple;split at h;rename_i e;cases h;rw[show x = "list" by simpa using e];exact PyProof.Rows.boot_list;split at h;rename_i e;cases h;rw[show x = "str" by simpa using e];decide +kernel;split at h;rename_i e;cases h;rw[show x = "dict" by simpa using e];decide +kernel;cases h
theorem BQ{x:Str}{b:Bi}{e:aq}{es:List aq}{fa:FE}{p pos:Pos}(h:vS x=aC b)(hg:Gl X x)(hm:X.mg x=aD)(hn:okN x)(hc:X.calm)(ha:SA X (e::es) fa)(hs:(e::es).all gf):SE X (.Call (.Name x p) (e::es) [] pos) (iy fa (ig b)):=by
 obtain⟨n1,_,n2⟩:=yd hn;unfold vS at h;split at h;rename_i z;cases h;have z:x = "len":=by simpa using z
 subst z;exact Bl (TH.or Vz) Wu hg hm PySem.boot_len ha hs n2 n1;split at h;rename_i z;cases h;have z:x = "list":=by simpa using z
 subst z;exact HY TJ Wv hg hm PyProof.Rows.boot_list ha hs n2 n1;split at h;rename_i z;cases h;have z:x = "tuple":=by simpa using z
 subst z;exact HY (TL.or (VA hc)) Ww hg hm PyProof.Rows.boot_tuple ha hs n2 n1;split at h;rename_i z;cases h;have z:x = "int":=by simpa using z
 subst z;exact HY SY Wx hg hm PyProof.Rows.boot_int ha hs n2 n1;split at h;rename_i z;cases h;have z:x = "abs":=by simpa using z
 subst z;exact Bl SR Wy hg hm (by decide +kernel) ha hs n2 n1;split at h;rename_i z;cases h;have z:x = "max":=by simpa using z
 subst z;exact Bl ((SV hc).or (Yb hc)) Wz hg hm (by decide +kernel) ha hs n2 n1;split at h;rename_i z;cases h;have z:x = "min":=by simpa using z
 subst z;exact Bl (SX hc) WA hg hm (by decide +kernel) ha hs n2 n1;split at h;rename_i z;cases h;have z:x = "all":=by simpa using z
 subst z;exact Bl (U7 hc) WB hg hm (by decide +kernel) ha hs n2 n1;cases h
theorem Yj{b:aq}(h:BE b):Gx b:=λo i=>by cases b<;>first|rfl|cases h
end
section
variable{X:Cx}{C:CC}{T:List Str}{F:Nat->Option Fn}{k:Nat}
theorem tY{env:Env}{kd:NameKind}(hk:kd≠.free):∀{l:List (Str×NameKind)} {x:Str},l.lookup x=aC kd->
 (l.map λ(n,k)=>if(k==NameKind.free&&env.scope.kind == .function&&env.kindOf n==aC .cell)then(n,NameKind.cell)else(n,k)).lookup x=aC kd
 |[],_,h=>by cases h
 |(n,j)::r,x,h=>by
  rw[cu];simp only[gi]at h;by_cases hx:(x==n)=true;simp only[hx]at h;cases h;have:(kd==NameKind.free)=false:=by simpa using hk
  simp only[this,xo,dh,cG,gi,hx];have hx':(x==n)=false:=by simpa using hx
  simp only[hx']at h;have ih:=tY (env:=env) hk (l:=r) (x:=x) h;by_cases hc':(j==NameKind.free&&env.scope.kind == .function&&env.kindOf n==aC .cell)=true;simp only[hc',bQ,gi,hx'];exact ih;have hcf:(j==NameKind.free&&env.scope.kind == .function&&env.kindOf n==aC .cell)=false:=by simpa using hc'
  simp only[hcf,dh,cG,gi,hx'];exact ih
theorem ID(O:iB X C T F k){sc:az}{ix:List Nat}(h:rq C sc ix):aY X (ownOf sc) (gz sc) ix sc/\(ownOf sc++gz sc).Nodup:=by
 unfold rq at h;simp only[bD,eE,kN]at h;obtain⟨⟨⟨⟨⟨⟨⟨⟨h1,h2⟩,h2'⟩,h3⟩,h4⟩,h5⟩,h6⟩,h7⟩,h8⟩:=h;refine⟨⟨h1,h2,h3,h4,h2',λy hy e=>O.cf _ (h5 y hy e),λq x e=>?_,h6⟩,h8⟩;have hk:q< (gz sc).length:=(jx.mp e).1;have:=h7 q (vec.mpr hk);rw[e]at this;cases z:ix[q]? with
 |none=>rw[z]at this;cases this
 |some j=>
  rw[z]at this;simp only[bD,eE]at this;exact⟨j,rfl,by rw[O.hN];exact this.1,this.2⟩
theorem yg(O:iB X C T F k){sc:az}{ix:List Nat}(h:rq C sc ix)(D:ai)(s₀:ah)(H₀:Hp)(ex:List ai):iB (X.comp (ownOf sc++gz sc) sc D s₀ H₀ ex) (kG sc) T F k:=by
 obtain⟨S,nd⟩:=ID O h;refine⟨rfl,nd,λx hx=>?_,λx hx=>?_,λx hx=>?_,λx hx=>?_,O.calm,O.room,rfl,S.kind,O.BO,O.IB,O.fns⟩;have hx:qZ (sc.names.lookup x)=true:=hx;cases z:sc.names.lookup x with
 |none=>rw[z]at hx;cases hx
 |some kd=>
  cases kd with
  | «local»=>exact .inl (tY (by decide) z)
  |cell=>exact .inr (.inl (tY (by decide) z))
  |free=>
   have:=Eb (env:=X.env) O.O9 z;by_cases hc:X.env.kindOf x=aC .cell;rw[if_pos hc]at this;exact .inr (.inl this);rw[if_neg hc]at this;exact .inr (.inr this)
  |globalExplicit=>rw[z]at hx;cases hx
  |globalImplicit=>rw[z]at hx;cases hx
 have hx:rj true (sc.names.lookup x)=true:=hx;cases z:sc.names.lookup x with
 |none=>rw[z]at hx;cases hx
 |some kd=>
  cases kd with| «local»=>exact⟨.inl (tY (by decide) z),.inr (tY (by decide) z)⟩|cell=>exact⟨.inr (tY (by decide) z),.inl (by show(sc.names.lookup x==aC NameKind.cell)=true;rw[z];rfl)⟩|free=>rw[z]at hx;cases hx|globalExplicit=>rw[z]at hx;cases hx|globalImplicit=>rw[z]at hx;cases hx
 exact tY (by decide) hx;have hx:sc.names.lookup x=aC .cell\/sc.names.lookup x=aC .free:=hx;rcases hx with z|z
 exact .inl (tY (by decide) z);have:=Eb (env:=X.env) O.O9 z;by_cases hc:X.env.kindOf x=aC .cell;rw[if_pos hc]at this;exact .inl this;rw[if_neg hc]at this;exact .inr this
end
end RF
namespace L2
open PySem PySem.Spec PyProof.Rows
theorem BR:Slot "reversed" "__next__" "reversed.__next__":=
 .of (owner:="reversed") (n:="__next__") (by rw[C7,C4];kernel_rfl) (by decide +kernel) (by decide +kernel) (by decide +kernel)
  (by first|exact .inl (by decide +kernel)|exact .inr (by decide +kernel)) (by rw[C8];kernel_rfl)
theorem Pb:Slot "reversed" "__iter__" "reversed.__iter__":=
 .of (owner:="reversed") (n:="__iter__") (by rw[C7,C4];kernel_rfl) (by decide +kernel) (by decide +kernel) (by decide +kernel)
  (by first|exact .inl (by decide +kernel)|exact .inr (by decide +kernel)) (by rw[C8];kernel_rfl)
theorem Yk:Slot "reversed" "__init__" "object.__init__":=
 .of (owner:="object") (n:="__init__") (by rw[C7,C4];kernel_rfl) (by decide +kernel) (by decide +kernel) (by decide +kernel)
  (by first|exact .inl (by decide +kernel)|exact .inr (by decide +kernel)) (by rw[C8];kernel_rfl)
theorem Pc:Manifest.owners.lookup (String.ofList ['d','e','s','r','e','v','e','r'].reverse)=aC Manifest.sig_reversed:=by kernel_rfl
theorem Pd(a:af):argsOk "reversed.__next__" ⟨[a],[]⟩:=by unfold argsOk;rw[signature?_of (id:="reversed.__next__") (n:=['_','_','t','x','e','n','_','_']) (o:=['d','e','s','r','e','v','e','r']) (by kernel_rfl) Pc];kernel_rfl
theorem Yl(a:af):argsOk "reversed.__iter__" ⟨[a],[]⟩:=by unfold argsOk;rw[signature?_of (id:="reversed.__iter__") (n:=['_','_','r','e','t','i','_','_']) (o:=['d','e','s','r','e','v','e','r']) (by kernel_rfl) Pc];kernel_rfl
theorem Pe:entryFor table "reversed.__next__" = aC Builtin.«reversed.__next__»:=entryFor_of_tree (by kernel_rfl)
theorem Ym:entryFor table "reversed.__iter__" = aC Builtin.«dict_keyiterator.__iter__»:=
 entryFor_alias (id':="dict_keyiterator.__iter__") (by kernel_rfl) (by first|rfl|decide +kernel|(unfold String.splitOn;simp +decide [String.splitOnAux])) (by decide +kernel) (by kernel_rfl)
theorem Yn:TypeCalled "reversed" "reversed.__new__" "object.__init__":=
 ⟨by decide +kernel,by decide +kernel,⟨_,_,F.mro_reversed⟩,F.made_reversed,by decide +kernel,by rw[C8];kernel_rfl,Yk⟩
theorem Yo:typeLookup (.type "tuple") "__reversed__" = pure aD:=by rw[C7,C4];kernel_rfl
noncomputable def iP(h:aA)(I t:ai)(i:Int):Prop:=∃o,h.get? I=aC o/\o.cls=.type "reversed"/\o.data=.fields #[.ref t,rawInt i]
noncomputable def tZ(t:ai)(i:Int):Obj:={cls:=.type "reversed",data:=.fields #[.ref t,rawInt i]}
section
variable{prog:aj}{w:ak}{A:ao}{E:af->ah->Prop}{s:ah}
theorem iP.typeIs{I t:ai}{i:Int}(x:iP s.heap I t i):s.TypeIs (.ref I) "reversed":=let⟨o,ho,hc,_⟩:=x;⟨o,ho,hc⟩
theorem iP.mv{h h':aA}{I t:ai}{i:Int}(x:iP h I t i)(e:∀o,h.get? I=aC o->h'.get? I=aC o):iP h' I t i:=let⟨o,ho,r⟩:=x;⟨o,e _ ho,r⟩
theorem Pf{I t:ai}{i:Int}{Q:af->ah->Prop}(hi:iP s.heap I t i)(h:Q (.ref I) s):wpAny (model prog w) A (pyIter (.ref I)) Q E s:=by refine wpAny_pyIter_slot hi.typeIs Pb (kK Pb hi.typeIs Ym ?_ (Yl _));show wpAny _ _ (ret (.ref I)) _ _ s;exact aQ ⟨_,rfl,"reversed",_,hi.typeIs,BR.lookup,h⟩
theorem Yp{I t:ai}{i:Nat}{its:Array af}{x:af}{Q:Option af->ah->Prop}(hi:iP s.heap I t (i:Int))(ht:IsTup s.heap t its)(hx:its[i]?=aC x)(hf:(its.size:Int)<2 ^ 63)
 (hQ:∀h' tk,iP h' I t ((i:Int)-1)->Heap.SameBut I s.heap h'->Q (aC x) {s with heap:=h',toks:=tk}):wpAny (model prog w) A (pyNext (.ref I)) Q E s:=by
 obtain⟨o,ho,hc,hd⟩:=id hi;have hlt:i<its.size:=by rcases Nat.lt_or_ge i its.size with h|h;exact h;rw[Array.getElem?_eq_none h]at hx;cases hx
 unfold pyNext;refine aG (xh (nC (name:=Str.ofString "__next__") hi.typeIs BR
  (kK BR hi.typeIs Pe ?_ (Pd _))))
 unfold Builtin.«reversed.__next__»;refine aG (nj (a:=(Value.ref I,[])) rfl ?_)
 try dsimp only
 refine aG (gX ho hd (x:=.ref t) rfl ?_);refine aG (gX ho hd (x:=rawInt (i:Int)) rfl ?_);show wpAny _ _ (if(i:Int)<0 then _ else _) _ _ s;rw[if_neg (by lia)];refine aG (pU ht.typeIs slot_tuple_getitem.lookup ?_);rw[if_neg (by exact lz)];refine aG (wpAny_mkInt ?_);refine aG (xh (getItem_tuple (s:={s with toks:=s.toks+1}) ht (by lia) (by lia) (De (by lia) (by lia)) (by simpa using hx) ?_))
 try dsimp only
 refine aG (gX ho hd (x:=rawInt (i:Int)) rfl ?_);refine aG (uK ho hd (by simp) ?_);first
 |refine aQ ⟨x,rfl,aQ (hQ _ _ ?_ (nO ..))⟩
 |refine aG (aQ (aQ ⟨x,rfl,aQ (hQ _ _ ?_ (nO ..))⟩))
 exact⟨_,sH _ ho (DI (sV hd _)),(Obj.cls_mapFields ..).trans hc,by
  rw[sV hd];simp⟩
theorem Yq{I t:ai}{i:Int}{Q:Option af->ah->Prop}(hA:A.handled=aD)(hi:iP s.heap I t i)(hn:i<0)
 (hQ:∀h',Heap.ExtBut I s.heap h'->Q aD {s with heap:=h'}):wpAny (model prog w) A (pyNext (.ref I)) Q E s:=by
 obtain⟨o,ho,hc,hd⟩:=id hi;unfold pyNext;refine aG (xh (nC (name:=Str.ofString "__next__") hi.typeIs BR
  (kK BR hi.typeIs Pe ?_ (Pd _))))
 unfold Builtin.«reversed.__next__»;refine aG (nj (a:=(Value.ref I,[])) rfl ?_)
 try dsimp only
 refine aG (gX ho hd (x:=.ref t) rfl ?_);refine aG (gX ho hd (x:=rawInt i) rfl ?_);show wpAny _ _ (if i<0 then _ else _) _ _ s;rw[if_pos hn];refine aG (kM ?_);refine aG ?_;show wpAny _ _ (setField (.ref I) 1 (rawInt (-1)) >>= _) _ _ _;have o1:=sH (h:=s.heap) (Obj.mapFields (·.setIfInBounds 1 (rawInt (-1)))) ho (DI (sV hd _));refine aG (uK ho hd (by simp) ?_);refine uK o1 (sV hd _) (by simp) ?_;first
 |show wpAny _ _ (newExc (.type "StopIteration") [] >>= _) _ _ _
 |(refine aG ?_;show wpAny _ _ (newExc (.type "StopIteration") [] >>= _) _ _ _)
 refine aG ?_;simp only[newExc,newTuple];refine aG (ju ?_ (by size_fits));refine aG (m:=firstArgMember _ _) (nj (a:=Value.none) (by first|rfl|(simp only[firstArgMember];rfl)) ?_);refine ju ?_ (by size_fits);simp only[raiseNew];refine aG (wpAny_handled ?_);first|rw[show A.in1.handled=aD from hA]|rw[hA]
 refine aG (aQ (wpAny_throw ?_));refine aG (uI (T:="StopIteration") (b:=true) ⟨_,fG _ rfl,rfl⟩ isSubtype_stop ?_);refine aQ (hQ _ ?_);refine Heap.ExtBut.push (Heap.ExtBut.push ?_ _) _;intro b ob hb e;exact(nO ..).extBut b ob hb ((nO ..).extBut b ob hb e)
theorem Yr(l:ai)(its:Array af)(n:Nat)(dc:Option ai)(sl:Array (Option af))(hf:(its.size:Int)<2 ^ 63) :
 Meets (Builtin.«reversed.__new__» ⟨[.type "reversed",.ref l],[]⟩) (λ_ R s=>s.heap.get? l=aC {cls:=.type "tuple",dict:=dc,data:=.seq its n,slots:=sl}/\
  ∀tk,R (.ok (.ret (.ref s.heap.objs.size))) {s with heap:=s.heap.push (tZ l ((its.size:Int)-1)),toks:=tk}):=
 .of_wp λprog w A R s h=>by
  obtain⟨e,h⟩:=h;have hl:IsTup s.heap l its:=⟨_,e,rfl,n,rfl⟩
  unfold Builtin.«reversed.__new__»;refine aG (nj (newClass_reversed _) ?_)
  try dsimp only
  refine aG (nj (a:=()) (by first|rfl|kernel_rfl) ?_);refine aG (nj (a:=()) (by first|rfl|kernel_rfl) ?_)
  try dsimp only
  refine aG (pU hl.typeIs Yo ?_)
  try dsimp only
  refine aG ?_;show wpAny _ _ (isInstance (.ref l) (.type "dict") >>= _) _ _ _;refine aG (uI hl.typeIs F.sub_tuple_dict ?_)
  try dsimp only
  refine aG (pU hl.typeIs slot_tuple_getitem.lookup ?_)
  try dsimp only
  rw[if_pos (by decide)];refine aQ ?_;rw[if_neg (show ¬((!true)=true)from lz)];refine aG (len_tuple hl hf ?_);refine aG (nj (a:=aC (its.size:Int)) rfl ?_)
  try dsimp only
  refine aG ?_;show wpAny _ _ (newObj (.type "reversed") (.fields #[.ref l,rawInt ((its.size:Int)-1)])) _ _ _;exact ju (aQ ⟨_,rfl,h _⟩)
theorem Ys{l:ai}{its:Array af}{Q:af->ah->Prop}(hL:s.heap.IsTuple l its)(hf:(its.size:Int)<2 ^ 63)
 (h:∀tk,Q (.ref s.heap.objs.size) {s with heap:=s.heap.push (tZ l ((its.size:Int)-1)),toks:=tk}) :
 wpAny (model prog w) A (call (.type "reversed") [.ref l]) Q E s:=by
 obtain⟨⟨c,dc,dt,sl⟩,e1,e2,n,e3⟩:=hL
 replace e2:c=.type "tuple":=e2
 replace e3:dt=.seq its n:=e3;subst e2 e3;refine Dd Yn (by decide) (F.typeCall_reversed_1 _) (F.newCall_reversed_1 _) (λobj=>F.args_object_init_2 obj _) F.entry_reversed_new (Yr l its n dc sl hf) ⟨e1,λtk=>?_⟩;exact⟨⟨_,fG _ rfl,rfl⟩,h tk⟩
end
noncomputable def IE(K:aK)(a:ai)(n:Nat):It:=
 ⟨λi H=>∃xs x,bU K H a xs/\xs.length=n/\xs.reverse[i]?=aC x,λi H x H'=>H'=H/\∀xs,bU K H a xs->xs.reverse[i]?=aC x,λi _=>n<=i⟩
theorem Yt{P:aj}{w:ak}{K:aK}{tg:aq}(a it:ai)(n:Nat)(hn:(n:Int)<2 ^ 63):Turn P w K tg (IE K a n) [it] it (λi h=>iP h it a ((n:Int)-1- (i:Nat)))where
 mem:=by simp
 obj:=λi h st b hb=>by
  have e:b=it:=by simpa using hb
  subst e;obtain⟨o,e,c,d⟩:=st;exact⟨o,e,λv z=>by rw[d]at z;cases z⟩
 keep:=λi h h' st k=>st.mv λo e=>k it (by simp) o e
 item:=by
  intro X hP hw hK hc i pins s σ H E I hf st hg;subst hP hw hK;obtain⟨xs,x,hq,hl,hx⟩:=hg;obtain⟨its,rv,p,hz⟩:=I.tuple hq;have hlt:i<xs.length:=by
   have:=jx.mp hx;obtain⟨h1,_⟩:=this
   rwa [yV]at h1
  rw[Dn hlt]at hx;obtain⟨u,hu,ru⟩:=rv.get hx;obtain⟨f0,f1,f2,f3,f4,f5⟩:=hf it (by simp);have ei:(n:Int)-1- (i:Int)=((xs.length-1-i:Nat):Int):=by lia
  rw[ei]at st;have hsz:its.toArray.size=xs.length:=by rw[di];exact rv.length.symm
  refine Yp st (show IsTup s.heap a its.toArray from p) (x:=u) (by simpa using hu) (by rw[hsz,hl];exact hn) λh' tk st' sb=>?_;have I1:Inv X pins σ H {s with heap:=h',toks:=tk}:=I.turned (t':=tk) (λb o hb e=>(sb.2 b hb).trans e) f0 f1 f3 f4 f5;obtain⟨o,e,c,d⟩:=id st';have ej:((xs.length-1-i:Nat):Int)-1=(n:Int)-1- ((i+1:Nat):Int):=by lia
  rw[ej]at st';exact⟨u,rfl,lD (s:={s with heap:=h',toks:=tk}) e c d (by decide) ⟨x,H,I1,ru,⟨rfl,λys hy=>by rw[I.eO hy hq,Dn hlt];exact hx⟩,st',λb hb=>(hf b hb).1⟩⟩
 done:=by intro X hP hw hK hc i pins s σ H E I hf st hg;subst hP hw hK;have hg:n<=i:=hg;obtain⟨f0,f1,f2,f3,f4,f5⟩:=hf it (by simp);exact Yq (I.ok.hd hc) st (by lia) λh' eb=>⟨rfl,I.turned (t':=s.toks) (λb o hb e=>eb b o hb e) f0 f1 f3 f4 f5⟩
 self:=λ_ _ _ _ _ st h=>Pf st h
end L2
namespace RF
open PySem PySem.Spec PyProof.Rows L2
section
variable{X:Cx}{e:aq}{fa:FE}{p pos:Pos}
theorem Yu{tg l:aq}{ta:TA}(hg:Gl X "reversed")(hm:X.mg "reversed" = aD)(ha:PA X [l] ta)(hs:starEach [l] X.env=[(false,eval l X.env)]) :
 PI X tg (.Call (.Name "reversed" p) [l] [] pos) (λσ H R=>ta σ H λvs H1=>∃a xs,vs=[.ref a]/\bU X.K H1 a xs/\R (IE X.K a xs.length) H1):=by
 intro pins s σ H R I h;refine Call_ (nT I hg hm PyProof.Rows.boot_reversed (sQ (aX (ha pos pins s σ H _ I h) λus s1 ⟨vs,H1,I1,r1,q1⟩=>?_) hs rfl));obtain⟨a,xs,e,hq,q⟩:=q1;subst e;obtain⟨u,rfl,ru⟩:=vals1 r1;cases ru;obtain⟨its,rv,pl,hz⟩:=I1.tuple hq;have pl:s1.heap.IsTuple a its.toArray:=pl;have hlen:its.toArray.size=xs.length:=by rw[di];exact rv.length.symm
 have hfit:(xs.length:Int)<2 ^ 63:=by
  have:sizeLine<2 ^ 63:=by decide
  lia
 refine Ys pl (by rw[hlen];exact hfit) λtk=>Pf (i:=(xs.length:Int)-1) ⟨_,fG _ rfl,rfl,by rw[<-hlen];rfl⟩ ?_;have hf:∀b,s1.heap.objs.size<=b->dG X pins H1 b:=λb hb=>I1.jI hb (I1.hok.fresh hb);refine⟨s1.heap.objs.size,_,_,_,H1,rfl,I1.kept (t':=tk) λb o e=>b9 _ e,Yt a _ xs.length hfit,⟨_,fG _ rfl,rfl,by rw[<-hlen];show _=Data.fields #[.ref a,rawInt (_-1- ((0:Nat):Int))];rw[show(its.toArray.size:Int)-1- ((0:Nat):Int)=(its.toArray.size:Int)-1 from by lia];rfl⟩,λb hb=>hf b ?_,q⟩;have e':b=s1.heap.objs.size:=by simpa using hb
 rw[e'];exact aW _
theorem Pg{ws:List W}{h:VH}{i:Nat}{o:Option W}(q:bg .rev (.tup ws) i h=aC o):o=ws.reverse[i]?:=by simp only[bg]at q;cases q;rfl
theorem aF.rev{K:aK}{m:Nat->ai}{n:Nat}{H:Hp}:∀{vs:List V} {ws:List W} {i:Nat} {w:W},aF K m n H vs ws->ws.reverse[i]?=aC w->∃v,vs.reverse[i]?=aC v/\aJ K m n H v w:=by
 intro vs ws i w q e;have hlt:i<ws.length:=by
  obtain⟨h1,_⟩:=jx.mp e
  rwa [yV]at h1
 rw[Dn hlt]at e;obtain⟨v,h1,h2⟩:=q.get e;exact⟨v,by rw[Dn (by rw[q.length];exact hlt),q.length];exact h1,h2⟩
theorem Yv{K:aK}{a:ai}{vs:List V}{ws:List W}:iO K (bg .rev (.tup ws)) (IE K a vs.length) (λm n H=>bU K H a vs/\aF K m n H vs ws):=by refine⟨λm n H m' n' H' hn hm kt kf ⟨q1,q2⟩=>⟨ED kt kf q1,q2.mono hn hm kt kf⟩,λm h H r ⟨q1,q2⟩ i=>⟨λw e=>?_,λe=>?_⟩⟩;have e:=(Pg e).symm;obtain⟨v,h1,h2⟩:=q2.rev e;refine⟨⟨vs,v,q1,rfl,h1⟩,λy H3 ⟨e3,y3⟩=>?_⟩;subst e3;have:=y3 vs q1;rw[h1]at this;cases this;exact⟨.refl,r,h2⟩;have e:=(Pg e).symm;have:=mE.mp e;rw[yV]at this;show vs.length<=i;rw[q2.length];exact this
theorem Yw{tg:aq}(ha:SE X e fa)(hs0:gf e)(hg:Gl X "reversed")(hm:X.mg "reversed" = aD):PI X tg (.Call (.Name "reversed" p) [e] [] pos) (cj X.K .rev fa):=λpins s σ H R I z9=>z9.el λρ h m x h' f r ee o en k=>by
 have hx:∃ws,x=.tup ws:=by simp only[bg]at en;split at en;exact⟨_,rfl⟩;cases en
 obtain⟨ws,rfl⟩:=hx;exact Yu hg hm (Ot ha hs0) (fE hs0) pins s σ H R I (.mk f r ee λv H' m' s' r' q=>by
  cases q with|tup sq rs=>exact⟨_,_,rfl,sq,k _ _ H' m' s' r' Yv ⟨sq,rs⟩⟩)
end
theorem map_some{α β:Type}{o:Option α}{f:α->β}{b:β}(h:o.map f=aC b):∃a,o=aC a/\b=f a:=by
 cases o with|none=>cases h|some a=>cases h;exact⟨a,rfl,rfl⟩
structure m9(X:Cx)(C:CC)(T:List Str)(F:Nat->Option Fn)(k n:Nat):Prop where
 e:∀e c,cE X.K T n C e=aC c->SE X e (ev (run F k) c)/\gf e=true
 t:∀e c,cT X.K T n C e=aC c->ST X e (ev (run F k) c)
 w:∀e kd c tg,cW X.K T n C e=aC (kd,c)->ye kd tg=true->PI X tg e (cj X.K kd (ev (run F k) c))/\∀x,foldedSetIterable e X.env x=pure x
section
variable{X:Cx}{C:CC}{T:List Str}{F:Nat->Option Fn}{k n:Nat}
theorem BS(O:iB X C T F k)(ih:m9 X C T F k n)(e:aq)(c:E)(h:cT X.K T (n+1) C e=aC c):ST X e (ev (run F k) c):=by unfold cT at h;split at h;split at h;split at h;rename_i hs;split at h;rename_i h1 h2 h3;cases h;exact Wc O.BP h1 hs (ih.e _ _ h2).1 (ih.e _ _ h3).1;cases h;cases h;split at h;rename_i hs;split at h;rename_i h1 h2 h3 h4 h5;cases h;exact We O.BP h1 h2 hs (ih.e _ _ h3).1 (ih.e _ _ h4).1 (ih.e _ _ h5).1;cases h;cases h;cases h;split at h;obtain⟨a,h1,rfl⟩:=map_some h;exact Wf (ih.t _ _ h1);cases h;split at h;exact((EL ih.t).1 h).pt;exact((EL ih.t).2 h).pt;obtain⟨a,h1,rfl⟩:=map_some h;exact HW (ih.e _ _ h1).1 λ_=>rfl;obtain⟨a,h1,rfl⟩:=map_some h;exact HW (ih.e _ _ h1).1 λ_=>rfl;obtain⟨a,h1,rfl⟩:=map_some h;exact HW (ih.e _ _ h1).1 λ_=>rfl;cases h
theorem BU{e:aq}(h:∀a b c,e≠.Set a b c){env:Env}:∀x,foldedSetIterable e env x=pure x:=by intro x;cases e<;>first|rfl|exact absurd rfl (h _ _ _)
theorem BV(O:iB X C T F k)(ih:m9 X C T F k n)(e:aq)(kd:Kd)(c:E)(tg:aq)(h:cW X.K T (n+1) C e=aC (kd,c))(hw:ye kd tg):PI X tg e (cj X.K kd (ev (run F k) c))/\∀x,foldedSetIterable e X.env x=pure x:=by
 unfold cW at h;split at h;rename_i f p args pos;refine⟨?_,λx=>rfl⟩;split at h;rename_i hf;have hf:f = "range":=by simpa using hf
 subst hf;split at h;rename_i ha;obtain⟨g1,g2⟩:=vV O ha;split at h;rename_i a;obtain⟨x,h1,h2⟩:=map_some h;cases h2;obtain⟨h3,h4⟩:=ih.e _ _ h1;exact WV (vJ h3 A6 (fE h4)) h4 g1 g2;rename_i a b;split at h;rename_i x y h1 h2;cases h;obtain⟨h3,h4⟩:=ih.e _ _ h1;obtain⟨h5,h6⟩:=ih.e _ _ h2;exact WW (vJ h3 (vJ h5 A6 (fE h6)) (fE h4)) h4 h6 g1 g2;cases h;cases h;cases h;split at h;rename_i hf;have hf:f = "enumerate":=by simpa using hf
 subst hf;split at h;rename_i ha;obtain⟨g1,g2⟩:=vV O ha;split at h;rename_i a;obtain⟨x,h1,h2⟩:=map_some h;cases h2;obtain⟨h3,h4⟩:=ih.e _ _ h1;cases tg<;>first|exact W0 h3 h4 g1 g2|cases hw
 cases h;cases h;split at h;rename_i hf;have hf:f = "reversed":=by simpa using hf
 subst hf;split at h;rename_i ha;obtain⟨g1,g2⟩:=vV O ha;split at h;rename_i a;obtain⟨x,h1,h2⟩:=map_some h;cases h2;obtain⟨h3,h4⟩:=ih.e _ _ h1;exact Yw h3 h4 g1 g2;cases h;cases h;split at h;rename_i hf;have hf:f = "zip":=by simpa using hf
 subst hf;split at h;rename_i ha;obtain⟨g1,g2⟩:=vV O ha;split at h;rename_i a b;split at h;rename_i x y h1 h2;cases h;obtain⟨h3,h4⟩:=ih.e _ _ h1;obtain⟨h5,h6⟩:=ih.e _ _ h2;cases tg<;>first|exact W4 (vJ h3 (vJ h5 A6 (fE h6)) (fE h4)) h4 h6 g1 g2|cases hw
 cases h;cases h;cases h;obtain⟨x,h1,h2⟩:=map_some h;cases h2;exact Oo (ih.e _ _ h1).1;cases h;rename_i hns;obtain⟨x,h1,h2⟩:=map_some h;cases h2;exact⟨Oo (ih.e _ _ h1).1,BU (by first|exact hns|(intro a b c z;exact hns a b c z))⟩
end
section
variable{X:Cx}{C:CC}{T:List Str}{F:Nat->Option Fn}{k n:Nat}
theorem Yx(O:iB X C T F k){x:Str}{p:Pos}{c:E}(h:cE X.K T (n+1) C (.Name x p)=aC c):SE X (.Name x p) (ev (run F k) c):=by simp only[cE]at h;split at h;rename_i hn;obtain⟨n1,n2,n3⟩:=yd hn;split at h;rename_i hv;obtain⟨i,h1,rfl⟩:=map_some h;exact VZ (by rw[O.hN];exact Iz h1) (O.vis x hv) n1 n2;split at h;rename_i hg;split at h;rename_i v hv;obtain⟨w,h1,rfl⟩:=map_some h;obtain⟨y,h2,h3⟩:=O5 8 v w h1;exact A4 (RD (O.gl x (by simpa using hg)) (O.BO x v hv) h2 n1) h3;cases h;cases h;cases h
theorem Yy{f:Str}{args:List aq}{a:aq}(h:vR f args=aC a):∃p pos,f = "list"/\args=[.Call (.Name "range" p) [a] [] pos]:=by unfold vR at h;split at h;rename_i hf;split at h;split at h;rename_i hg;cases h;simp only[beq_iff_eq]at hg;subst hg;exact⟨_,_,by simpa using hf,rfl⟩;cases h;cases h;cases h
theorem Yz(O:iB X C T F k)(ih:m9 X C T F k n){f:Str}{p pos:Pos}{args:List aq}{c:E}(h:cE X.K T (n+1) C (.Call (.Name f p) args [] pos)=aC c):SE X (.Call (.Name f p) args [] pos) (ev (run F k) c):=by
 simp only[cE]at h;split at h;rename_i hn;rw[bD]at hn;have hg:=O.gl f (by simpa using hn.2);split at h;rename_i hm;have hm:=O.IB f hm;split at h;rename_i hf;have hf:f = "isinstance":=by simpa using hf
 subst hf;split at h;rename_i a t pt;split at h;rename_i ty x h1 h2;split at h;rename_i hc;cases h;rw[bD]at hc;obtain⟨g1,g2⟩:=vV O hc.2;obtain⟨h3,h4⟩:=ih.e _ _ h2;obtain⟨n1,n2,n3⟩:=yd hc.1;exact WE ty h3 h4 hg hm g1 g2 (Yi h1) n3 n1;cases h;cases h;cases h;split at h;rename_i a hl;split at h;rename_i hc;rw[bD]at hc;obtain⟨x,h1,rfl⟩:=map_some h;obtain⟨h2,h3⟩:=ih.e _ _ h1;obtain⟨g1,g2⟩:=vV O hc.2;obtain⟨p2,pos2,rfl,rfl⟩:=Yy hl;exact X8 O.calm hg hm g1 g2 (vJ h2 A6 (fE h3)) h3;cases h;split at h;rename_i b e es hb _;obtain⟨a,h1,rfl⟩:=map_some h;obtain⟨h2,h3⟩:=iY ih.e h1;exact BQ hb hg hm hn.1 O.calm h2 h3;cases h;rename_i v hv;split at h;rename_i i hi;obtain⟨fa,fd,ps,fn,q1,q2,q3,q4,q5,q6,q7⟩:=O.fns i f (Iz hi) (Yd hn.1);have q1:=OZ q1;split at h;rename_i IF;rw[bD]at IF;obtain⟨a,h1,rfl⟩:=map_some h;obtain⟨h2,h3⟩:=iY ih.e h1;have hl:∀ws h w h',run F k i ws h=.ok w h'->ws.length=ps.length:=λws h w h' e=>by rw[Iw q5 e,q6]
 have hev:ev (run F k) (.call i (m5 a))=iy (ev (run F k) a) (λws h=>run F k i (ws++[.aL]) h):=by
  funext ρ h;simp only[ev,Yg (O6 h1)];show Res.bind (Res.bind (ev (run F k) a ρ h) _) _=Res.bind (ev (run F k) a ρ h) _;cases ev (run F k) a ρ h with|no=>rfl|ex _ _=>rfl|ok y h2=>cases y<;>rfl
 rw[hev];cases args with|nil=>cases IF.2|cons e es=>exact WS q2 O.room hg (O.BO f _ q1) q3 (q7 (Ye IF.1)) h2 h3 (yd hn.1).1 hl
 obtain⟨a,h1,rfl⟩:=map_some h;obtain⟨h2,h3⟩:=iY ih.e h1;have hl:∀ws h w h',run F k i ws h=.ok w h'->ws.length=ps.length:=λws h w h' e=>by rw[Iw q5 e,q6]
 cases args with
 |nil=>
  simp only[cL]at h1;cases h1;exact WR q2 O.room hg (O.BO f _ q1) q3 q4 (yd hn.1).1 hl
 |cons e es=>exact WQ q2 O.room hg (O.BO f _ q1) q3 q4 h2 h3 (yd hn.1).1 hl
 cases h;cases h;cases h
theorem YA(O:iB X C T F k)(ih:m9 X C T F k n){o:aq}{m:Str}{ap pos:Pos}{args:List aq}{c:E}(h:cE X.K T (n+1) C (.Call (.Attribute o m ap) args [] pos)=aC c):SE X (.Call (.Attribute o m ap) args [] pos) (ev (run F k) c):=by
 simp only[cE]at h;split at h;rename_i hn;rw[bD]at hn;split at h;rename_i x a hx;split at h;rename_i hm;have hm:m = "append":=by simpa using hm
 subst hm;obtain⟨y,h1,rfl⟩:=map_some h;obtain⟨h2,h3⟩:=ih.e _ _ h1;exact WJ (ih.e _ _ hx).1 h2 hn.1 h3 hn.2;cases h;rename_i x a b hx;split at h;rename_i hm;have hm:m = "setdefault":=by simpa using hm
 subst hm;split at h;rename_i h1 h2;cases h;exact XD O.u2 (ih.e _ _ hx).1 (ih.e _ _ h1).1 (ih.e _ _ h2).1 hn.1 (ih.e _ _ h1).2 (ih.e _ _ h2).2 hn.2;cases h;cases h;cases h;cases h
theorem IG{ow fr:List Str}{sc:az}{ifs:List aq}{c:E}(O:∀D s₀ H₀ ex,m9 (X.comp (ow++fr) sc D s₀ H₀ ex) (kG sc) T F k n)
 (h:(match ifs with|[]=>aC (E.cst (.bl true))|[c]=>cT X.K T n (kG sc) c|_=>aD)=aC c) (D:ai) (s₀:ah) (H₀:Hp) (ex:List ai):iX (X.comp (ow++fr) sc D s₀ H₀ ex) ifs (dD X.K (ev (run F k) c)):=by
 split at h;cases h;exact λpins s σ H Q I z9=>z9.el λρ h m b h' f r e q=>by
  cases e;exact Ua pins s σ H Q I (q H m .refl r)
 exact Ub ((O D s₀ H₀ ex).t _ _ h);cases h
theorem Ph(O:iB X C T F k)(ih:m9 X C T F k n)(nc:∀{sc:az} {ix:List Nat},rq C sc ix=true->∀D s₀ H₀ ex,m9 (X.comp (ownOf sc++gz sc) sc D s₀ H₀ ex) (kG sc) T F k n)
 {elt tg iter:aq} {ifs:List aq} {sc:az} {pos:Pos} {c:E} (h:cE X.K T (n+1) C (.ListComp elt [⟨tg,iter,ifs,0⟩] sc pos)=aC c) :
 ∃kd a t ix cc ce,c=.lc kd a t (ownOf sc).length ix cc ce/\aY X (ownOf sc) (gz sc) ix sc/\PI X tg iter (cj X.K kd (ev (run F k) a))/\(∀D s₀ H₀ ex,PG (X.comp (ownOf sc++gz sc) sc D s₀ H₀ ex) tg (dg X.K t))/\
  (∀D s₀ H₀ ex,iX (X.comp (ownOf sc++gz sc) sc D s₀ H₀ ex) ifs (dD X.K (ev (run F k) cc)))/\(∀D s₀ H₀ ex,PE (X.comp (ownOf sc++gz sc) sc D s₀ H₀ ex) elt (fZ X.K (ev (run F k) ce)))/\∀x,foldedSetIterable iter X.env x=pure x:=by
 simp only[cE]at h;split at h
 .rename_i ix hix
  split at h
  .rename_i hc
   split at h
   .rename_i kd a t cc ce h1 h2 h3 h4
    split at h
    case isFalse=>cases h
    rename_i hw;cases h;obtain⟨w1,w2⟩:=ih.w _ _ _ tg h1 hw;exact⟨kd,a,t,ix,cc,ce,rfl,(ID O hc).1,w1,λD s₀ H₀ ex=>lW (yg O hc D s₀ H₀ ex) h2,IG (nc hc) h3,λD s₀ H₀ ex=>((nc hc D s₀ H₀ ex).e _ _ h4).1,w2⟩
   cases h
  cases h
 cases h
theorem Pj(O:iB X C T F k)(ih:m9 X C T F k n)(nc:∀{sc:az} {ix:List Nat},rq C sc ix=true->∀D s₀ H₀ ex,m9 (X.comp (ownOf sc++gz sc) sc D s₀ H₀ ex) (kG sc) T F k n)
 {elt tg iter gq bx:aq} {ifs cZ:List aq} {sc:az} {pos:Pos} {c:E} (h:cE X.K T (n+1) C (.ListComp elt [⟨tg,iter,ifs,0⟩,⟨gq,bx,cZ,0⟩] sc pos)=aC c) :
 ∃kd a t ix cc iz a2 t2 yh ce,c=.tO kd a t (ownOf sc).length ix cc iz a2 t2 yh ce/\aY X (ownOf sc) (gz sc) ix sc/\PI X tg iter (cj X.K kd (ev (run F k) a))/\(∀D s₀ H₀ ex,PG (X.comp (ownOf sc++gz sc) sc D s₀ H₀ ex) tg (dg X.K t))/\
  (∀D s₀ H₀ ex,iX (X.comp (ownOf sc++gz sc) sc D s₀ H₀ ex) ifs (dD X.K (ev (run F k) cc)))/\
  (∀D s₀ H₀ ex,PI (X.comp (ownOf sc++gz sc) sc D s₀ H₀ ex) gq bx (cj X.K iz (ev (run F k) a2)))/\(∀D s₀ H₀ ex,PG (X.comp (ownOf sc++gz sc) sc D s₀ H₀ ex) gq (dg X.K t2))/\
  (∀D s₀ H₀ ex,iX (X.comp (ownOf sc++gz sc) sc D s₀ H₀ ex) cZ (dD X.K (ev (run F k) yh)))/\(∀D s₀ H₀ ex,PE (X.comp (ownOf sc++gz sc) sc D s₀ H₀ ex) elt (fZ X.K (ev (run F k) ce)))/\
  (∀x,foldedSetIterable iter X.env x=pure x)/\∀D s₀ H₀ ex x,foldedSetIterable bx (X.comp (ownOf sc++gz sc) sc D s₀ H₀ ex).env x=pure x:=by
 simp only[cE]at h;split at h
 .rename_i ix hix
  split at h
  .rename_i hc
   split at h
   .rename_i kd a t cc ce h1 h2 h3 h4
    split at h
    case isFalse=>cases h
    rename_i hw;split at h
    .rename_i iz a2 t2 yh h5 h6 h7
     split at h
     case isFalse=>cases h
     rename_i Pk;cases h;obtain⟨w1,w2⟩:=ih.w _ _ _ tg h1 hw;exact⟨kd,a,t,ix,cc,iz,a2,t2,yh,ce,rfl,(ID O hc).1,w1,λD s₀ H₀ ex=>lW (yg O hc D s₀ H₀ ex) h2,IG (nc hc) h3,λD s₀ H₀ ex=>((nc hc D s₀ H₀ ex).w _ _ _ gq h5 Pk).1,λD s₀ H₀ ex=>lW (yg O hc D s₀ H₀ ex) h6,IG (nc hc) h7,
      λD s₀ H₀ ex=>((nc hc D s₀ H₀ ex).e _ _ h4).1,w2,λD s₀ H₀ ex=>((nc hc D s₀ H₀ ex).w _ _ _ gq h5 Pk).2⟩
    cases h
   cases h
  cases h
 cases h
theorem BW(O:iB X C T F k)(ih:m9 X C T F k n)(nc:∀{sc:az} {ix:List Nat},rq C sc ix=true->∀D s₀ H₀ ex,m9 (X.comp (ownOf sc++gz sc) sc D s₀ H₀ ex) (kG sc) T F k n)
 (e:aq) (c:E) (h:cE X.K T (n+1) C e=aC c):SE X e (ev (run F k) c)/\gf e=true:=by
 have h0:=h;unfold cE at h;split at h;exact⟨Yx O h0,rfl⟩;refine⟨?_,rfl⟩;split at h;cases h;exact V0;cases h;exact A5;cases h;exact V1;cases h;exact V2;cases h;obtain⟨a,h1,rfl⟩:=map_some h;exact⟨V3 (iY ih.e h1).1,rfl⟩;obtain⟨a,h1,rfl⟩:=map_some h;exact⟨V4 (iY ih.e h1).1,rfl⟩;refine⟨?_,rfl⟩;split at h;split at h;cases h;exact Yc;cases h;split at h;rename_i hc;simp only[bD]at hc;obtain⟨a,h1,rfl⟩:=map_some h;exact WN O.u2 (Pa ih.e h1) hc.2 (Df hc.1.2) (by simp) (jD hc.1.1);cases h;refine⟨?_,rfl⟩;split at h;rename_i h1 h2 h3;cases h;exact A8 (Ba h1) (V7 _) (ih.e _ _ h2).1 (ih.e _ _ h3).1;cases h;split at h;obtain⟨a,h1,rfl⟩:=map_some h;exact⟨Wg (ih.e _ _ h1).1,rfl⟩;obtain⟨a,h1,rfl⟩:=map_some h;exact⟨Wl (ih.e _ _ h1).1,rfl⟩;cases h;split at h;exact⟨(lX ih.e).1 h,rfl⟩;exact⟨(lX ih.e).2 h,rfl⟩;split at h;refine⟨?_,rfl⟩;split at h;rename_i hs;split at h;rename_i h1 h2 h3;cases h;exact Wb O.BP h1 hs (ih.e _ _ h2).1 (ih.e _ _ h3).1;cases h;cases h;refine⟨?_,rfl⟩;split at h;rename_i hs;split at h;rename_i h1 h2 h3 h4 h5;cases h;exact Wd O.BP h1 h2 hs (ih.e _ _ h3).1 (ih.e _ _ h4).1 (ih.e _ _ h5).1;cases h;cases h;cases h;refine⟨?_,rfl⟩;split at h;rename_i h1 h2 h3;cases h;exact Wj (ih.t _ _ h1) (ih.e _ _ h2).1 (ih.e _ _ h3).1;cases h;split at h;split at h;refine⟨?_,rfl⟩;split at h;rename_i h1 h2 h3;cases h;exact Wt (ih.e _ _ h1).1 (tX ih.e h2) (tX ih.e h3);cases h;refine⟨?_,rfl⟩;split at h;rename_i h1 h2;split at h;rename_i h3;cases h;have e3:=Yh h3;subst e3;exact XM (ih.e _ _ h1).1 (ih.e _ _ h2).1;cases h;cases h;refine⟨?_,rfl⟩;split at h;rename_i hs;split at h;rename_i h1 h2;cases h;exact Wq O.u2 (ih.e _ _ h1).1 (ih.e _ _ h2).1 (Yj hs);cases h;cases h;split at h;split at h;exact⟨Yz O ih h0,rfl⟩;exact⟨YA O ih h0,rfl⟩;cases h;split at h;split at h;rename_i a;split at h;rename_i hc;rw[bD,bD]at hc;obtain⟨g1,g2⟩:=vV O hc.2;obtain⟨x,h1,rfl⟩:=map_some h;have e1:=ze hc.1.1;have e2:=ze hc.1.2;subst e1;subst e2;exact⟨XJ O.BP O.calm g1 g2 (ih.e _ _ h1).1 (ih.e _ _ h1).2,rfl⟩;cases h;cases h;cases h;cases h;split at h;split at h;refine⟨?_,rfl⟩;obtain⟨kd,a,t,ix,cc,ce,rfl,S,w1,w2,w3,w4,w5⟩:=Ph O ih nc h0;exact BD S O.calm w1 w2 w3 w4 w5;cases h;split at h;split at h;refine⟨?_,rfl⟩;obtain⟨kd,a,t,ix,cc,iz,a2,t2,yh,ce,rfl,S,w1,w2,w3,v1,v2,v3,w4,w5,v5⟩:=Pj O ih nc h0;exact Xs S O.calm w1 w2 w3 v1 v2 v3 w4 w5 v5;cases h;cases h;cases h;cases h
end
theorem t6{T:List Str}{F:Nat->Option Fn}{k:Nat}:∀(n:Nat) {X:Cx} {C:CC},iB X C T F k->m9 X C T F k n
 |0,_,_,_=>⟨(λe c h=>nomatch h),(λe c h=>nomatch h),(λe kd c tg h _=>nomatch h)⟩
 |n+1,X,C,O=>by
  have ih:=t6 n O;have nc:∀{sc:az}{ix:List Nat},rq C sc ix=true->∀D s₀ H₀ ex,m9 (X.comp (ownOf sc++gz sc) sc D s₀ H₀ ex) (kG sc) T F k n:=λhc D s₀ H₀ ex=>t6 n (yg O hc D s₀ H₀ ex);exact⟨BW O ih nc,BS O ih,BV O ih⟩
section
variable{X:Cx}{C:CC}{T:List Str}{F:Nat->Option Fn}{k d:Nat}
theorem vW{f:au->Option S}{cl:Call}(ih:∀st c,f st=aC c->SS X st (exs cl c)):∀{sts:List au} {c:S},oJ f sts=aC c->qS X sts (exs cl c)
 |[],_,h=>by cases h;exact Xi
 |s::r,c,h=>by
  unfold oJ at h;split at h;rename_i a b ha hb;cases h;exact Xm (ih s a ha) (vW ih hb);cases h
theorem YB{K:aK}{T:List Str}{n:Nat}{C:CC}{elt:aq}{gs:List Comprehension}{sc:az}{lp:Pos}{c:E}(h:cE K T (n+1) C (.ListComp elt gs sc lp)=aC c):(∃tg iter ifs,gs=[⟨tg,iter,ifs,0⟩])\/∃tg iter ifs gq bx cZ,gs=[⟨tg,iter,ifs,0⟩,⟨gq,bx,cZ,0⟩]:=by simp only[cE]at h;split at h;rename_i g;split at h;exact .inl ⟨_,_,_,rfl⟩;cases h;rename_i g g2;split at h;split at h;exact .inr ⟨_,_,_,_,_,_,rfl⟩;cases h;cases h;cases h
theorem YC(O:iB X C T F k){x:Str}{p pos:Pos}{e:aq}{i:Nat}{c:E}(hi:iA C (.Name x p)=aC i)(h:cE X.K T d C e=aC c):SS X (.Assign [.Name x p] e pos) (exs (run F k) (.set i c)):=by
 obtain⟨x',p',ex,h1,h2,h3⟩:=lV O hi;cases ex;have nd:X.N.Nodup:=O.hN▸O.nd;have Sd:=t6 (T:=T) (F:=F) (k:=k) d O;by_cases hc:EH e=true;exact OM nd h1 h2 h3 (Sd.e _ _ h).1 (OL hc);cases d with
 |zero=>cases h
 |succ n=>
  cases e with
  |ListComp elt gs sc lp=>
   have sw:∃b:Bool,swapsWith (.ListComp elt gs sc lp) (aC (.Name x p)) pos.line X.env=pure b:=⟨_,rfl⟩
   obtain⟨b,hb⟩:=sw;cases b with
   |false=>exact OM nd h1 h2 h3 (Sd.e _ _ h).1 hb
   |true=>
    rcases YB h with⟨tg,iter,ifs,rfl⟩|⟨tg,iter,ifs,gq,bx,cZ,rfl⟩;obtain⟨kd,a,t,ix,cc,ce,rfl,S,w1,w2,w3,w4,w5⟩:=Ph O (t6 n O) (λhc D s₀ H₀ ex=>t6 n (yg O hc D s₀ H₀ ex)) h;exact Xr nd h1 h2 h3 S O.calm w1 w2 w3 w4 hb w5;obtain⟨kd,a,t,ix,cc,iz,a2,t2,yh,ce,rfl,S,w1,w2,w3,v1,v2,v3,w4,w5,v5⟩:=Pj O (t6 n O) (λhc D s₀ H₀ ex=>t6 n (yg O hc D s₀ H₀ ex)) h;exact Xu nd h1 h2 h3 S O.calm w1 w2 w3 v1 v2 v3 w4 hb w5 v5
  |SetComp _ _ _ _=>unfold cE at h;cases h
  |DictComp _ _ _ _ _=>unfold cE at h;cases h
  |_=>exact absurd rfl hc
theorem oK(O:iB X C T F k):∀(n:Nat) (st:au) (c:S),cS X.K T d n C st=aC c->SS X st (exs (run F k) c)
 |0,_,_,h=>by cases h
 |n+1,st,c,h=>by
  have nd:X.N.Nodup:=O.hN▸O.nd;have Sd:=t6 (T:=T) (F:=F) (k:=k) d O;have ih:=oK O n;have hp:PassesOwn (model X.prog X.w) X.A X.env X.xe:=by rw[O.xe];exact PassesOwn.never
  unfold cS at h;split at h;cases h;exact Xj;cases h;exact Xk;cases h;exact Xl;cases h;exact BC;split at h;cases h;exact Xq;obtain⟨a,h1,rfl⟩:=map_some h;exact Xp (Sd.e _ _ h1).1;split at h;rename_i hc;obtain⟨a,h1,rfl⟩:=map_some h;exact Xo (Sd.e _ _ h1).1 hc;cases h;split at h;split at h;split at h;rename_i i a h1 h2;cases h;exact YC O h1 h2;cases h;split at h;rename_i ht;split at h;rename_i h1 h2;cases h;exact Xx O.calm nd (IC O h1) (Sd.e _ _ h2).1 ht;cases h;cases h;split at h;rename_i hs;split at h;rename_i h1 h2 h3;cases h;exact XN O.u2 (Sd.e _ _ h1).1 (Sd.e _ _ h2).1 (Sd.e _ _ h3).1 hs;cases h;cases h;cases h;cases h;split at h;split at h;rename_i h1 h2 h3;cases h;obtain⟨x',p',ex,a1,a2,a3⟩:=lV O h1;cases ex;exact XS h2 nd a1 a2 a3 (Sd.e _ _ h3).1;cases h;cases h;split at h;rename_i h1 h2 h3;cases h;exact XU (Sd.t _ _ h1) (vW ih h2) (vW ih h3);cases h
  .rename_i tg it b el pos
   split at h
   .split at h
    .rename_i h1 h2 h3
     split at h
     case isFalse=>cases h
     rename_i hw;cases h;obtain⟨w1,w2⟩:=Sd.w _ _ _ tg h1 hw;exact XY hp O.calm w1 (lW O h2) (vW ih h3) w2
    cases h
   cases h
  split at h;split at h;rename_i h1 h2;cases h;exact XZ hp (Sd.t _ _ h1) (vW ih h2);cases h;cases h;cases h
end
noncomputable def II:FuncBody->Option (List au)|.stmts b=>aC b|_=>aD
theorem YD{d:Data}(h:EJ d):∃n,d=.seq #[.none] n:=by
 cases d with
 |seq xs n=>
  obtain⟨l⟩:=xs;unfold EJ at h;simp only[]at h;split at h;rename_i v;cases v<;>first|exact⟨n,rfl⟩|cases h
  cases h
 |_=>cases h
theorem YE{K:aK}{v:af}(h:fT K v):∃t o n,v=.ref t/\K.lookup t=aC o/\o.data=.seq #[.none] n:=by
 cases v with
 |ref t=>
  have h:(match K.lookup t with|some o=>EJ o.data|none=>false)=true:=h;cases e:K.lookup t with
  |none=>rw[e]at h;cases h
  |some o=>
   rw[e]at h;obtain⟨n,q⟩:=YD h;exact⟨t,o,n,rfl,e,q⟩
 |_=>cases h
noncomputable def vX(ps:List Str)(sc:az):List Str:=ps++(sc.names.filter λy=>(y.2 == .local||y.2 == .cell) && !(ps.contains y.1)).map (·.1)
noncomputable def EM(N ps:List Str)(sc:az):Bool:=
 decide (sc.kind=.function) && !sc.isCoroutine && !sc.isGenerator&&decide N.Nodup&&decide (N.take ps.length=ps)&&ps.all (λx=>decide (sc.names.lookup x=aC .local\/sc.names.lookup x=aC .cell))&&sc.names.all (λy=>decide (y.2≠.free))&&decide ps.Nodup
theorem YF{N ps:List Str}{sc:az}(h:EM N ps sc):cV N ps sc/\ps.Nodup:=by unfold EM at h;simp only[bD,eE,kN,yS]at h;obtain⟨⟨⟨⟨⟨⟨⟨h1,h2⟩,h3⟩,h4⟩,h5⟩,h6⟩,h7⟩,h8⟩:=h;exact⟨⟨h1,h2,h3,h4,h5,h6,h7⟩,h8⟩
noncomputable def iQ(x:Str):Str:=x
noncomputable def cF(K:aK)(T:List Str)(d n:Nat)(x:Str):Option Fn:=match fnAt K x with
 |some (f,o,fd)=>(match vP fd.params,II fd.body with
  |some args,aC body=>if fd.name==iQ x&&fd.qualname==x&&Nat.beq fd.globals mainGlobals&&fd.closure.isEmpty&& (isNone fd.defaults||fT K fd.defaults && !args.isEmpty)&&Nat.beq fd.builtins builtinsNs&&PySem.W.codeIn K fd.code x&&PySem.W.keepIn K (.ref f) &&
   EM (vX (args.map (·.arg)) fd.scope) (args.map (·.arg)) fd.scope then
   (oJ (cS K T d n ⟨vX (args.map (·.arg)) fd.scope,fd.scope.names,true⟩) body).map λb=>⟨(args.map (·.arg)).length,(vX (args.map (·.arg)) fd.scope).length,b⟩
   else aD
  |_,_=>aD)
 |none=>aD
theorem YG{fd:av}{x:Str}{args:List Arg}{body:List au}(c1:(fd.name==iQ x))(c2:(fd.qualname==x))(c3:Nat.beq fd.globals mainGlobals)(c4:fd.closure.isEmpty)(c6:Nat.beq fd.builtins builtinsNs)(ha:vP fd.params=aC args)(hb:II fd.body=aC body) :
 ∃dx,fd=PySem.W.fnOf (iQ x) x ⟨[],args,aD,[],[],aD,dx⟩ body fd.scope fd.defaults fd.kwdefaults fd.doc fd.pyModule fd.annotations fd.code fd.closureTuple:=by
 obtain⟨nm,qn,pr,bd,sc,gl,cl,df,kd,dc,pm,an,cdv,ct,bu⟩:=fd;have e1:nm=iQ x:=by simpa using c1
 have e2:qn=x:=by simpa using c2
 have e3:gl=mainGlobals:=Df c3;have e4:cl=[]:=by simpa using c4
 have e6:bu=builtinsNs:=Df c6;have e7:bd=.stmts body:=by
  cases bd with|stmts b'=>cases hb;rfl|expr _=>cases hb
 obtain⟨dx,e8⟩:∃dx,pr=⟨[],args,aD,[],[],aD,dx⟩:=by unfold vP at ha;split at ha;cases ha;rename_i z;exact⟨_,z⟩;cases ha
 exact⟨dx,by rw[e1,e2,e3,e4,e6,e7,e8]⟩
theorem YH{K:aK}{x:Str}{fd:av}{args:List Arg}{body:List au}{dx:List aq}{sc:az}{df kd dc pm:af}{an:Option ai}{cdv ct:af}{b:Bool}(e:fd=PySem.W.fnOf (iQ x) x ⟨[],args,aD,[],[],aD,dx⟩ body sc df kd dc pm an cdv ct)(nd:(args.map (·.arg)).Nodup)
 (hb:b=fT K df) (c5:(isNone df||fT K df && !args.isEmpty)):Binds K fd (args.map (·.arg)) []/\(b=true->Binds K fd (args.map (·.arg)) [.none])/\(b=false->∀us:List af,us.length=(args.map (·.arg)).length->bindArgs fd ⟨us,[]⟩=pure ((args.map (·.arg)).zip us)):=by
 subst e hb;rw[pA,bD]at c5;rcases c5 with c5|⟨c5,c0⟩
 have e5:df=.none:=by cases df<;>first|rfl|cases c5
 subst e5;exact⟨.all λus hl=>OR hl nd,(λz=>nomatch z),λ_ us hl=>OR hl nd⟩;obtain⟨t,o,n,rfl,hk,hd⟩:=YE c5;rw[c5];obtain⟨qs,z,BX⟩:∃qs z,args.map (·.arg)=qs++[z]:=by rcases List.eq_nil_or_concat (args.map (·.arg))with q|⟨l,b,q⟩;rw[List.map_eq_nil_iff.mp q]at c0;cases c0;exact⟨l,b,by rw[q,List.concat_eq_append]⟩
 have IJ:=nd;rw[BX]at IJ;refine⟨λs us hK hl=>?_,λ_ s us hK hl=>?_,λz=>nomatch z⟩;rw[nt]at hl ⊢;rw[BX]at hl ⊢;exact X3 BX IJ (hK _ _ hk) hd hl;rw[BX]at hl ⊢;exact X4 BX IJ (hK _ _ hk) hd (by rw[fH,fH]at hl;simpa using hl)
theorem YI{K:aK}{x:Str}{f:ai}{o:Obj}{fd:av}(h:fnAt K x=aC (f,o,fd)):fS K x=aC f/\∃oc od sl,K.lookup f=aC ⟨oc,od,.func fd,sl⟩:=by unfold fnAt at h;split at h;rename_i f' hn;split at h;rename_i o' ho;split at h;rename_i fd' hd;cases h;refine⟨hn,o.cls,o.dict,o.slots,?_⟩;rw[<-hd];exact ho;cases h;cases h;cases h
theorem YJ{K:aK}{T:List Str}{d n:Nat}{x:Str}{fn:Fn}:∀(f:ai) (o:Obj) (fd:av) (args:List Arg) (body:List au) (b:S),fnAt K x=aC (f,o,fd)->vP fd.params=aC args->II fd.body=aC body->(fd.name==iQ x&&fd.qualname==x&&Nat.beq fd.globals mainGlobals&&fd.closure.isEmpty&& (isNone fd.defaults||fT K fd.defaults && !args.isEmpty)&&Nat.beq fd.builtins builtinsNs&&PySem.W.codeIn K fd.code x&&PySem.W.keepIn K (.ref f) &&
 EM (vX (args.map (·.arg)) fd.scope) (args.map (·.arg)) fd.scope)=true->oJ (cS K T d n ⟨vX (args.map (·.arg)) fd.scope,fd.scope.names,true⟩) body=aC b->fn=⟨(args.map (·.arg)).length,(vX (args.map (·.arg)) fd.scope).length,b⟩->∃f fd st ps N,fS K x=aC f/\oG K (iQ x) x st f fd/\cV N ps (jh st)/\fn.n=N.length/\fn.ps=ps.length/\(Binds K fd ps []/\(gy K x=true->Binds K fd ps [.none])/\(gy K x=false->∀us:List af,us.length=ps.length->bindArgs fd ⟨us,[]⟩=pure (ps.zip us)))/\
 oJ (cS K T d n ⟨N,(jh st).names,true⟩) (Ai st)=aC fn.body/\∃o' fd' args,fnAt K x=aC (f,o',fd')/\vP fd'.params=aC args/\ps=args.map (·.arg):=by
 intro f o fd args body b hf ha hb hc h1 e;rw[bD,bD,bD,bD,bD,bD,bD,bD]at hc;obtain⟨⟨⟨⟨⟨⟨⟨⟨c1,c2⟩,c3⟩,c4⟩,c5⟩,c6⟩,c7⟩,c8⟩,c9⟩:=hc;obtain⟨S,nd⟩:=YF c9;obtain⟨hn,oc,od,sl,lk⟩:=YI hf;obtain⟨dx,ef⟩:=YG c1 c2 c3 c4 c6 ha hb;have hh:gy K x=fT K fd.defaults:=by unfold gy;rw[hf]
 exact⟨f,fd,.FunctionDef (iQ x) ⟨[],args,aD,[],[],aD,dx⟩ body [] aD [] fd.scope aD (iQ x) ⟨0,0,0,0⟩,args.map (·.arg),vX (args.map (·.arg)) fd.scope,hn,⟨⟨oc,od,_,_,_,_,_,fd.code,_,sl,ef,lk,c7⟩,c8⟩,S,by rw[e],by rw[e],YH ef nd hh c5,by rw[e];exact h1,o,fd,args,hf,ha,rfl⟩
theorem oM{K:aK}{T:List Str}{d n:Nat}{x:Str}{fn:Fn}(h:cF K T d n x=aC fn):∃f fd st ps N,fS K x=aC f/\oG K (iQ x) x st f fd/\cV N ps (jh st)/\fn.n=N.length/\fn.ps=ps.length/\(Binds K fd ps []/\(gy K x=true->Binds K fd ps [.none])/\(gy K x=false->∀us:List af,us.length=ps.length->bindArgs fd ⟨us,[]⟩=pure (ps.zip us)))/\
 oJ (cS K T d n ⟨N,(jh st).names,true⟩) (Ai st)=aC fn.body/\∃o' fd' args,fnAt K x=aC (f,o',fd')/\vP fd'.params=aC args/\ps=args.map (·.arg):=by
 unfold cF at h;split at h;rename_i f o fd hf;split at h;rename_i args body ha hb;split at h;rename_i hc;obtain⟨b,h1,e⟩:=map_some h;exact YJ f o fd args body b hf ha hb hc h1 e;cases h;cases h;cases h
theorem EN{α β:Type}{f:α->Option β}:∀{l:List α} {r:List β},aO f l=aC r->∀(i:Nat) (a:α),l[i]?=aC a->∃b,r[i]?=aC b/\f a=aC b
 |[],_,_,i,a,e=>by simp at e
 |x::l,r,h,i,a,e=>by
  unfold aO at h;split at h;rename_i b hb;split at h;rename_i bs BN;cases h;cases i with
  |zero=>simp at e;subst e;exact⟨b,rfl,hb⟩
  |succ i=>
   obtain⟨c,h1,h2⟩:=EN BN i a (by simpa using e);exact⟨c,by simpa using h1,h2⟩
  cases h;cases h
noncomputable def IK(K:aK)(T:List Str)(d n:Nat)(x:Str):Option Fn:=if x==("" : Str)then aC ⟨0,0,.no⟩else cF K T d n x
theorem IL{K:aK}{T:List Str}{d n:Nat}{x:Str}{fn:Fn}(h:IK K T d n x=aC fn)(hx:x≠""):cF K T d n x=aC fn:=by unfold IK at h;rw[if_neg (by simpa using hx)]at h;exact h
noncomputable def i6(K:aK)(T:List Str)(d n:Nat):Option (List Fn):=aO (IK K T d n) T
theorem Pn{P:aj}{w:ak}{K:aK}{mg:Str->Option af}{base:aA}{T:List Str}{Fs:List Fn}{k:Nat}(KX:K.In base)(G:base.Ns mainGlobals mg){x:Str}{st:au}{f:ai}{N ps:List Str}(S:cV N ps (jh st))
 (H0:∀(i:Nat)(x:Str),T[i]?=aC x->x≠""->∃f fd ps fn,fS K x=aC f/\fy P w K mg base lG k f fd ps (ou K ps.length (run (λi=>Fs[i]?) k i))/\PySem.W.keepIn K (.ref f)=true/\Binds K fd ps []/\Fs[i]?=aC fn/\fn.ps=ps.length/\(gy K x=true->Binds K fd ps [.none]))
 (cdv:af) (A:ao) (outer:List Env) (s:ah) (H:Hp) (E:XK) (hr:cQ k (A.deeper (envOfC x (jh st) s.heap.objs.size f cdv))):iB (jJ lG P w K mg base N x (jh st) f cdv A outer s H E).xN ⟨N,(jh st).names,true⟩ T (λi=>Fs[i]?) k:=by
 refine⟨rfl,S.nd,λy hy=>?_,λy hy=>?_,λy hy=>hy,λy hy=>hy,rfl,hr,rfl,S.kind,λy v hv=>PySem.W.mg_of KX G hv,λy hv=>PySem.W.mg_none_of KX G hv,H0⟩;have hy:qZ ((jh st).names.lookup y)=true:=hy;cases z:(jh st).names.lookup y with
 |none=>rw[z]at hy;cases hy
 |some kd=>cases kd<;>first|exact .inl z|exact .inr (.inl z)|exact .inr (.inr z)|(rw[z]at hy;cases hy)
 have hy:rj true ((jh st).names.lookup y)=true:=hy;cases z:(jh st).names.lookup y with
 |none=>rw[z]at hy;cases hy
 |some kd=>cases kd<;>first|exact⟨.inl z,.inl rfl⟩|exact⟨.inr z,.inl rfl⟩|(rw[z]at hy;cases hy)
theorem YK{P:aj}{w:ak}{K:aK}{mg:Str->Option af}{base:aA}{T:List Str}{d n:Nat}{Fs:List Fn}(hP:i6 K T d n=aC Fs)(KX:K.In base)(G:base.Ns mainGlobals mg)(k:Nat):∀(j:Nat),j<=k->∀(i:Nat) (x:Str),T[i]?=aC x->x≠""->
 ∃f fd ps fn,fS K x=aC f/\fy P w K mg base lG j f fd ps (ou K ps.length (run (λi=>Fs[i]?) j i))/\PySem.W.keepIn K (.ref f)=true/\Binds K fd ps []/\Fs[i]?=aC fn/\fn.ps=ps.length/\(gy K x=true->Binds K fd ps [.none]):=by
 induction k with
 |zero=>
  intro j hj i x e hx;have:j=0:=Nat.le_zero.mp hj;subst this;obtain⟨fn,h1,h2⟩:=EN hP i x e;obtain⟨f,fd,st,ps,N,a1,a2,a3,a4,a5,a6,a7,_⟩:=oM (IL h2 hx);exact⟨f,fd,ps,fn,a1,OY,a2.kp,a6.1,h1,a5,a6.2.1⟩
 |succ k ih=>
  intro j hj i x e hx;by_cases hjk:j<=k;exact ih j hjk i x e hx;have:j=k+1:=by lia
  subst this;obtain⟨fn,h1,h2⟩:=EN hP i x e;obtain⟨f,fd,st,ps,N,a1,a2,a3,a4,a5,a6,a7,_⟩:=oM (IL h2 hx);exact⟨f,fd,ps,fn,a1,OX (F:=λi=>Fs[i]?) h1 a2 a3 a4 a5 λcdv A outer s H E hr=>vW (oK (Pn KX G a3 (λj y hj hy=>ih k (aW _) j y hj hy) cdv A outer s H E hr) n) a7,a2.kp,a6.1,h1,a5,a6.2.1⟩
noncomputable def BY:Res W->Bool|.ok (.bl true) _=>true|_=>false
noncomputable def says(K:aK)(T:List Str)(d n k i:Nat)(ns:List Int):Bool:=match i6 K T d n with|some Fs=>BY (run (λi=>Fs[i]?) k i [.fz (ns.map .int)] ⟨0,0,[]⟩)|none=>false
theorem YL{r:Res W}(h:BY r):∃h',r=.ok (.bl true) h':=by
 cases r with
 |no=>cases h
 |ex _ _=>cases h
 |ok w h'=>cases w<;>first|(rename_i b;cases b<;>first|exact⟨h',rfl⟩|cases h)|cases h
theorem Po{K:aK}{m:Nat->ai}{n:Nat}{H:Hp}:∀(ns:List Int),aF K m n H (ns.map V.int) (ns.map W.int)|[]=>.nil|i::r=>.cons (.int i) (Po r)
theorem Pp{K:aK}{T:List Str}{d n k i:Nat}{ns:List Int}(h:says K T d n k i ns):∃Fs h',i6 K T d n=aC Fs/\run (λi=>Fs[i]?) k i [.fz (ns.map .int)] ⟨0,0,[]⟩=.ok (.bl true) h':=by unfold says at h;split at h;rename_i Fs hF;obtain⟨h',e⟩:=YL h;exact⟨Fs,h',hF,e⟩;cases h
theorem YM{K:aK}{T:List Str}{d n k i:Nat}{ns:List Int}{Fs:List Fn}(hP:i6 K T d n=aC Fs)(h:BY (run (λi=>Fs[i]?) k i [.fz (ns.map .int)] ⟨0,0,[]⟩)):says K T d n k i ns=true:=by unfold says;rw[hP];exact h
noncomputable def oN(K:aK)(x:Str):Bool:=match fnAt K x with
 |some (_,_,fd)=>(match vP fd.params with
  |some [a]=>a.arg==("_law_script" : Str) && !(fT K fd.defaults)
  |_=>false)
 |none=>false
theorem YN{l:PySem.W.OpenLaw}{q:aj}{loose:List Str}{XP:(Str->Option af)->aA->Prop}{YP:ak->aA->Prop}{dr:DefRec}{K:Params->aK}(T:List Str)(d n k i:Nat)(hn:l.most=aC 63)(hdf:dr.params.defaults=[])(hr:cQ k callerA)
 (hY:∀(w:ak)(h:aA),YP w h->(K w.params).In h) (hT:T[i]?=aC dr.name) (hne:dr.name≠"") (hS:∀(w:ak)(ns:List Int),ns.length<=63->says (K w.params) T d n k i ns) (hL:∀w:ak,oN (K w.params) dr.name) :
 PySem.W.WalkO q loose XP YP l.row.toRowW dr [] (λf vs=>PySem.call f vs):=by
 have any:∀w:ak,∃Fs,i6 (K w.params) T d n=aC Fs:=λw=>let⟨Fs,_,h,_⟩:=Pp (hS w [] (jw _));⟨Fs,h⟩;refine L2.T5 (n:=63) (k:=k) (x:="_law_script") (CX:=λ_=>lG) (sp:=λw=>ou (K w.params) 1 (run (λj=>(Classical.choose (any w))[j]?) k i)) hn (by decide) hdf hr hY ?_ ?_ λ_ _ _ _ _ z=>z;intro w mg fa h KX G hmg;have hP:=Classical.choose_spec (any w);obtain⟨fn',h1,h2⟩:=EN hP i _ hT;obtain⟨f',fd',st,ps',N,a1,a2,a3,a4,a5,a6,a7,o',YO,args,a8,a9,IM⟩:=oM (IL h2 hne);have hps:ps'=[("_law_script" : Str)]:=by
  have hl:=hL w;unfold oN at hl;rw[a8]at hl;simp only[a9]at hl;cases args with
  |nil=>cases hl
  |cons z zs=>
   cases zs with
   |nil=>
    rw[bD]at hl;have hl:z.arg = "_law_script":=by simpa using hl.1
    rw[IM,cu,hl];rfl
   |cons _ _=>cases hl
 have hnd:gy (K w.params) dr.name=false:=by have hl:=hL w;unfold oN at hl;rw[a8]at hl;unfold gy;rw[a8];simp only[a9]at hl;split at hl;rw[bD]at hl;simpa using hl.2;cases hl
 have e:=PySem.W.mg_of KX G (OZ a1);rw[hmg]at e;cases e;subst hps;refine⟨fd',λs u=>.of_eq (a6.2.2 hnd [u] rfl),λbase KB GB=>?_⟩;cases k with|zero=>exact OY|succ k=>exact OX (F:=λj=>(Classical.choose (any w))[j]?) h1 a2 a3 a4 a5 λcdv A outer s H E hr=>vW (oK (Pn KB GB a3 (λj y hj hy=>YK hP KB GB k k (aW _) j y hj hy) cdv A outer s H E hr) n) a7
 intro w H a ns hl hO hQ;obtain⟨Fs,h',e1,e2⟩:=Pp (hS w ns hl);have hP:=Classical.choose_spec (any w);rw[hP]at e1;cases e1;refine⟨rfl,⟨0,0,[]⟩,λ_=>0,_,_,h',⟨λi hi=>absurd hi (Nat.not_lt_zero _),λi j hi=>absurd hi (Nat.not_lt_zero _),rfl⟩,.cons (.fz ?_ (Po ns)) .nil,e2,λv H' m' _ _ q=>by cases q;rfl⟩;rcases hQ with(q|⟨o,q⟩)|q
 rcases hO a with z|⟨o,xs,z⟩;rw[z]at q;cases q;rw[z]at q;cases q;exact .inl ⟨o,q⟩;exact .inr q
section
open E renaming var->v,cons->c,cst->k,nil->n,call->f,idx->x,cmp->p,bi->b,op->o,not->z,and->a,or->r,jz->t,vE->i,slc->l,lst->m,lc->u,neg->y,mt->w
open S renaming seq->q,skip->s,ret->e,set->d,om->g,expr->h,put->j
noncomputable def EO:Fn:=⟨1,1,(q (e (a (i .int (v 0)) (z (i .bool (v 0))))) s)⟩
noncomputable def IP:Fn:=⟨3,3,(q (e (a (f 0 (c (v 0) n)) (.vD .le .le (v 1) (v 0) (v 2)))) s)⟩
noncomputable def ER:Fn:=⟨2,2,(q (.ite (p .eq (b .len (c (v 0) n)) (k (.int 0))) (q (e (o .add (o .mul (k (.int 7)) (v 1)) (k (.int 3)))) s) s) (q (e (b .abs (c (x (v 0) (o .mod (v 1) (b .len (c (v 0) n)))) n))) s))⟩
noncomputable def t7:E:=(p .ge (b .abs (c (v 0) n)) (o .pow (k (.int 10)) (k (.int 18))))
noncomputable def t8:E:=(b .abs (c (v 0) n))
noncomputable def BZ:Fn:=⟨1,1,(q (e (m (c (v 0) (c (u .seq (v 0) (.one 0) 1 [] t7 t8) (c (k (.int 0)) (c (k (.int 0)) n)))))) s)⟩
noncomputable def IQ:Fn:=⟨3,4,(q (d 3 (o .mod (o .pow (o .add (o .mul (o .add (o .mod (f 2 (c (v 0) (c (v 1) n))) (k (.int 1000003))) (k (.int 5))) (o .add (v 1) (k (.int 2)))) (o .mul (k (.int 7919)) (v 1))) (k (.int 5))) (k (.int 2147483647)))) (q (e (o .mod (o .fdiv (v 3) (k (.int 13))) (v 2))) s))⟩
noncomputable def B3:E:=(p .lt (x (v 0) (k (.int 2))) (b .len (c (x (v 0) (k (.int 1))) n)))
noncomputable def vY:S:=(q (d 2 (x (x (v 0) (k (.int 1))) (x (v 0) (k (.int 2))))) (q (.ite (p .gt (v 2) (k (.int 0))) (q (j (x (v 0) (k (.int 1))) (x (v 0) (k (.int 2))) (o .fdiv (v 2) (v 1))) (q (e (o .mod (v 2) (v 1))) s)) s) (q (j (v 0) (k (.int 2)) (o .add (x (v 0) (k (.int 2))) (k (.int 1)))) s)))
noncomputable def rA:Fn:=⟨2,3,(q (.Ex B3 vY) (q (j (v 0) (k (.int 3)) (o .add (x (v 0) (k (.int 3))) (k (.int 1)))) (q (e (f 4 (c (x (v 0) (k (.int 0))) (c (x (v 0) (k (.int 3))) (c (v 1) n))))) s)))⟩
noncomputable def B4:Fn:=⟨3,3,(q (e (a (i .tuple (v 0)) (.vD .le .le (v 1) (b .len (c (v 0) n)) (v 2)))) s)⟩
noncomputable def ES:S:=(q (.ite (z (t (f 1 (c (v 5) (c (v 3) (c (v 4) n)))))) (q (e (k (.bl false))) s) s) s)
noncomputable def B5:Fn:=⟨5,6,(q (.ite (z (t (f 6 (c (v 0) (c (v 1) (c (v 2) n)))))) (q (e (k (.bl false))) s) s) (q (.«for» .seq (v 0) (.one 5) ES) (q (e (k (.bl true))) s)))⟩
noncomputable def ET:S:=(q (.ite (z (t (f 11 (c (v 3) (c (v 2) n))))) (q (e (k (.bl false))) s) s) s)
noncomputable def IS:Fn:=⟨3,4,(q (.ite (z (t (f 6 (c (v 0) (c (v 1) (c (v 1) n)))))) (q (e (k (.bl false))) s) s) (q (.«for» .seq (v 0) (.one 3) ET) (q (e (k (.bl true))) s)))⟩
noncomputable def EU:S:=(q (.ite (z (t (f 6 (c (v 2) (c (v 1) (c (v 1) n)))))) (q (e (k (.bl false))) s) s) s)
noncomputable def IT:Fn:=⟨2,3,(q (.ite (z (t (f 6 (c (v 0) (c (k (.int 0)) (c (k (.int 60)) n)))))) (q (e (k (.bl false))) s) s) (q (.«for» .seq (v 0) (.one 2) EU) (q (e (k (.bl true))) s)))⟩
noncomputable def vZ:Fn:=⟨1,6,(q (.ite (z (t (f 6 (c (v 0) (c (k (.int 5)) (c (k (.int 5)) n)))))) (q (e (k (.bl false))) s) s) (q (g [1,2,3,4,5] (v 0)) (q (.ite (r (z (t (f 1 (c (v 1) (c (k (.int 1)) (c (k (.int 40)) n)))))) (z (t (f 1 (c (v 2) (c (k (.int 0)) (c (k (.int 8)) n))))))) (q (e (k (.bl false))) s) s) (q (.ite (z (t (f 7 (c (v 4) (c (k (.int 1)) (c (k (.int 4)) (c (k (.int 0)) (c (o .sub (v 1) (k (.int 1))) n)))))))) (q (e (k (.bl false))) s) s) (q (e (a (f 9 (c (v 3) (c (v 1) n))) (f 8 (c (v 5) (c (v 1) (c (b .len (c (v 4) n)) n)))))) s)))))⟩
noncomputable def rD:Fn:=⟨2,4,(q (.ite (z (t (f 6 (c (v 0) (c (k (.int 2)) (c (k (.int 2)) n)))))) (q (e (k (.bl false))) s) s) (q (g [2,3] (v 0)) (q (e (a (f 1 (c (v 2) (c (k (.int 0)) (c (k (.int 99)) n)))) (f 12 (c (v 3) (c (v 1) n))))) s)))⟩
noncomputable def v8:Fn:=⟨2,2,(q (e (r (p .tN (v 0) (k .aL)) (f 1 (c (v 0) (c (k (.int 0)) (c (o .sub (v 1) (k (.int 1))) n)))))) s)⟩
noncomputable def rE:Fn:=⟨2,4,(q (.ite (z (t (f 6 (c (v 0) (c (k (.int 2)) (c (k (.int 2)) n)))))) (q (e (k (.bl false))) s) s) (q (g [2,3] (v 0)) (q (e (a (f 1 (c (v 2) (c (k (.int 0)) (c (o .sub (v 1) (k (.int 1))) n)))) (f 1 (c (v 3) (c (k (.int 0)) (c (k (.int 1)) n)))))) s)))⟩
noncomputable def EV:S:=(q (.ite (z (t (f 15 (c (v 7) (c (v 6) (c (v 1) (c (v 2) n))))))) (q .no s) s) s)
noncomputable def EW:S:=(q (.«for» .pH (v 5) (.many [6,7]) EV) s)
noncomputable def v9:Fn:=⟨1,8,(q (.ite (z (t (f 10 (c (v 0) n)))) (q .no s) s) (q (g [1,2,3] (l (v 0) false (k .aL) true (k (.int 3)))) (q (.«for» .pH (v 3) (.many [4,5]) EW) s)))⟩
noncomputable def wc:Fn:=⟨4,4,(q (.ite (r (p .eq (v 0) (k (.str (bZ "x")))) (t (f 13 (c (v 0) (c (v 3) n))))) (q (e (.vD .lt .lt (k (.int 0)) (v 1) (o .sub (v 2) (k (.int 1))))) s) s) (q (.ite (p .eq (v 0) (k (.str (bZ "<")))) (q (e (p .gt (v 1) (k (.int 0)))) s) s) (q (.ite (p .eq (v 0) (k (.str (bZ ">")))) (q (e (p .lt (v 1) (o .sub (v 2) (k (.int 1))))) s) s) (q (e (r (p .eq (v 0) (k (.str (bZ ".")))) (p .eq (v 0) (k (.str (bZ "s")))))) s))))⟩
noncomputable def we:Fn:=⟨2,4,(q (d 2 (x (m (c (f 5 (c (v 0) (c (k (.int 3)) n))) (c (f 5 (c (v 0) (c (k (.int 100)) n))) n))) (b .int (c (p .eq (f 5 (c (v 0) (c (k (.int 4)) n))) (k (.int 0))) n)))) (q (d 3 (f 5 (c (v 0) (c (v 1) n)))) (q (.ite (p .eq (f 5 (c (v 0) (c (k (.int 8)) n))) (k (.int 0))) (q (e (.tup (c (v 2) (c (k .aL) n)))) s) s) (q (e (.tup (c (v 2) (c (v 3) n)))) s))))⟩
noncomputable def jr:Fn:=⟨2,2,(q (e (f 7 (c (v 0) (c (v 1) (c (v 1) (c (k (.int 0)) (c (k (.int 1)) n))))))) s)⟩
noncomputable def j5:Fn:=⟨2,2,(q (h (f 14 (c (v 0) n))) (q (e (f 17 (c (v 1) (c (x (v 0) (k (.int 1))) n)))) s))⟩
noncomputable def k9:Fn:=⟨2,2,(q (.ite (z (t (f 22 (c (v 0) (c (v 1) n))))) (q .no s) s) s)⟩
noncomputable def rF:Fn:=⟨3,3,(q (h (f 24 (c (v 0) (c (v 1) n)))) (q (.ite (z (t (f 1 (c (v 2) (c (k (.int 0)) (c (o .sub (b .len (c (x (v 0) (k (.int 3))) n)) (k (.int 1))) n)))))) (q .no s) s) s))⟩
noncomputable def j6:Fn:=⟨4,6,(q (d 4 (f 5 (c (v 0) (c (k (.int 10)) n)))) (q (d 5 (x (m (c (k (.str (bZ "."))) (c (k (.str (bZ "<"))) (c (k (.str (bZ ">"))) (c (k (.str (bZ "x"))) (c (k (.str (bZ "."))) (c (k (.str (bZ "."))) n))))))) (b .min (c (v 4) (c (k (.int 5)) n))))) (q (.ite (a (p .gt (v 4) (k (.int 4))) (p .gt (v 3) (k (.int 0)))) (q (d 5 (.tup (c (f 5 (c (v 0) (c (v 3) n))) (c (f 5 (c (v 0) (c (k (.int 2)) n))) n)))) s) s) (q (.ite (a (p .eq (v 4) (k (.int 4))) (p .eq (f 5 (c (v 0) (c (k (.int 4)) n))) (k (.int 0)))) (q (e (k (.str (bZ "s")))) s) s) (q (.ite (r (a (p .eq (v 1) (k (.int 0))) (p .lP (v 5) (.tup (c (k (.str (bZ "."))) (c (k (.str (bZ ">"))) n))))) (a (p .eq (v 1) (o .sub (v 2) (k (.int 1)))) (p .lP (v 5) (.tup (c (k (.str (bZ "."))) (c (k (.str (bZ "<"))) n)))))) (q (e (x (m (c (k (.str (bZ ">"))) (c (k (.str (bZ "<"))) (c (k (.str (bZ "."))) n)))) (b .min (c (o .add (b .int (c (p .gt (v 1) (k (.int 0))) n)) (o .mul (k (.int 2)) (b .int (c (p .eq (v 2) (k (.int 1))) n)))) (c (k (.int 2)) n))))) s) s) (q (.ite (a (p .eq (v 2) (k (.int 1))) (p .ne (v 5) (k (.str (bZ "."))))) (q (e (k (.str (bZ ".")))) s) s) (q (e (v 5)) s)))))))⟩
noncomputable def EX:E:=(f 103 (c (v 1) (c (v 0) (c (v 3) (c (v 2) n)))))
noncomputable def lY:Fn:=⟨3,3,(q (e (b .tuple (c (u .bL (c (v 1) n) (.one 0) 1 [0,2,1] (k (.bl true)) EX) n))) s)⟩
noncomputable def Pq:E:=(f 104 (c (v 1) (c (v 3) (c (v 2) n))))
noncomputable def Pu:E:=(f 5 (c (v 1) (c (v 2) n)))
noncomputable def Pw:E:=(f 23 (c (v 1) (c (b .len (c (v 2) n)) n)))
noncomputable def oO:Fn:=⟨4,9,(q (d 4 (o .add (k (.int 1)) (f 5 (c (v 0) (c (v 1) n))))) (q (d 5 (f 5 (c (v 0) (c (o .add (v 3) (k (.int 1))) n)))) (q (d 6 (u .bL (c (f 5 (c (v 0) (c (o .add (v 2) (k (.int 1))) n))) n) (.one 0) 1 [0,5,4] (k (.bl true)) Pq)) (q (d 7 (b .tuple (c (u .bL (c (o .add (k (.int 1)) (f 5 (c (v 0) (c (k (.int 4)) n)))) n) (.one 0) 1 [0,4] (k (.bl true)) Pu) n))) (q (d 8 (b .tuple (c (u .bL (c (v 4) n) (.one 0) 1 [0,7] (k (.bl true)) Pw) n))) (q (e (.tup (c (v 4) (c (v 5) (c (b .tuple (c (v 6) n)) (c (v 7) (c (v 8) n))))))) s))))))⟩
noncomputable def dQ:Fn:=⟨4,7,(q (.ite (t (i .tuple (v 0))) (q (g [4,5] (v 0)) (q (d 6 (x (v 2) (v 4))) (q (.ite (p .ne (v 4) (v 3)) (q (j (v 2) (v 4) (o .sub (k (.int 1)) (v 6))) s) s) (q (e (.ite (p .eq (v 6) (v 5)) (k (.int (-1))) (k (.int 1)))) s)))) s) (q (.ite (p .eq (v 0) (k (.str (bZ "s")))) (q (e (k .aL)) s) s) (q (.ite (p .eq (v 0) (k (.str (bZ "x")))) (q (e (v 1)) s) s) (q (.ite (p .eq (v 0) (k (.str (bZ ".")))) (q (e (k (.int 0))) s) s) (q (e (.ite (p .eq (v 0) (k (.str (bZ "<")))) (k (.int (-1))) (k (.int 1)))) s)))))⟩
noncomputable def B6:S:=(q (d 10 (x (v 9) (v 4))) (q (d 8 (f 173 (c (v 10) (c (v 8) (c (v 7) (c (v 3) n)))))) (q (.ite (p .tN (v 8) (k .aL)) (q .brk s) s) (q (.ite (a (t (i .tuple (v 10))) (p .ne (x (v 10) (k (.int 0))) (v 3))) (q (h (w .append (v 6) (c (x (v 10) (k (.int 0))) n))) s) s) (q (.aug 4 .add (v 8)) (q (h (w .append (v 5) (c (v 4) n))) s))))))
noncomputable def j7:Fn:=⟨4,11,(q (d 4 (x (x (v 0) (k (.int 3))) (v 2))) (q (d 5 (m (c (v 4) n))) (q (d 6 (m n)) (q (d 7 (b .list (c (v 1) n))) (q (d 8 (k (.int 0))) (q (.«for» .seq (x (v 0) (k (.int 2))) (.one 9) B6) (q (e (.tup (c (b .tuple (c (v 5) n)) (c (b .tuple (c (v 6) n)) (c (b .tuple (c (v 7) n)) n))))) s)))))))⟩
noncomputable def t9:Fn:=⟨4,8,(q (g [4,5,6] (f 174 (c (v 0) (c (v 1) (c (v 2) (c (v 3) n)))))) (q (d 7 (.ite (p .gt (b .len (c (v 4) n)) (b .len (c (x (v 0) (k (.int 2))) n))) (x (v 4) (y (k (.int 1)))) (k .aL))) (q (e (.tup (c (v 7) (c (v 6) n)))) s)))⟩
noncomputable def yi:E:=(.tup (c (k (.int 0)) (c (k (.int 1)) n)))
noncomputable def yj:E:=(o .add (v 0) (.tup (c (v 1) n)))
noncomputable def yk:S:=(q (d 1 (.tO .seq (v 1) (.one 0) 2 [] (k (.bl true)) .seq yi (.one 1) (k (.bl true)) yj)) s)
noncomputable def lZ:Fn:=⟨1,3,(q (.ite (z (t (f 1 (c (v 0) (c (k (.int 0)) (c (k (.int 8)) n)))))) (q .no s) s) (q (d 1 (m (c (.tup n) n))) (q (.«for» .bL (c (v 0) n) (.one 2) yk) (q (e (v 1)) s))))⟩
noncomputable def l8:Fn:=⟨3,3,(q (h (f 73 (c (v 0) (c (v 1) (c (v 2) n))))) (q (e (f 174 (c (v 0) (c (v 1) (c (v 2) (c (k .aL) n)))))) s))⟩
noncomputable def wg:E:=(c (b .len (c (x (v 2) (k (.int 3))) n)) n)
noncomputable def wj:E:=(.tup (c (v 0) (c (v 1) n)))
noncomputable def l9:Fn:=⟨1,1,(q (e (.tO .seq (f 190 (c (x (v 0) (k (.int 1))) n)) (.one 0) 2 [0] (k (.bl true)) .bL wg (.one 1) (k (.bl true)) wj)) s)⟩
noncomputable def wk:E:=(p .eq (f 175 (c (v 1) (c (x (v 0) (k (.int 0))) (c (x (v 0) (k (.int 1))) (c (k .aL) n))))) (.tup (c (v 2) (c (v 3) n))))
noncomputable def B7:E:=(v 0)
noncomputable def mh:Fn:=⟨3,3,(q (h (f 24 (c (v 0) (c (v 1) n)))) (q (.ite (z (t (f 1 (c (v 2) (c (k (.int 0)) (c (o .sub (x (v 0) (k (.int 0))) (k (.int 1))) n)))))) (q .no s) s) (q (e (b .tuple (c (u .seq (f 202 (c (v 0) n)) (.one 0) 1 [0,2,1] wk B7) n))) s)))⟩
noncomputable def EY:S:=(q (g [5,6] (f 175 (c (v 0) (c (v 3) (c (v 4) (c (k .aL) n)))))) (q (.ite (p .jk (v 5) (k .aL)) (q (d 7 (w .jU (v 1) (c (.tup (c (v 5) (c (v 6) n))) (c (.tup (c (v 3) (c (v 4) n))) n)))) (q (.ite (p .ne (v 7) (.tup (c (v 3) (c (v 4) n)))) (q (h (w .append (v 2) (c (.tup (c (v 7) (c (.tup (c (v 3) (c (v 4) n))) n))) n))) s) s) s)) s) s))
noncomputable def i7:Fn:=⟨1,8,(q (h (f 14 (c (v 0) n))) (q (d 1 (b .Ew n)) (q (d 2 (m n)) (q (.«for» .seq (f 202 (c (v 0) n)) (.many [3,4]) EY) (q (e (b .HL (c (v 2) n))) s)))))⟩
noncomputable def IU:E:=(f 311 (c (v 0) (c (v 1) n)))
noncomputable def j8:Fn:=⟨2,6,(q (h (f 14 (c (v 0) n))) (q (.ite (r (z (t (f 6 (c (v 1) (c (k (.int 2)) (c (k (.int 2)) n)))))) (z (t (b .all (c (u .seq (v 1) (.one 0) 1 [0] (k (.bl true)) IU) n))))) (q (e (k (.bl false))) s) s) (q (g [2,3] (v 1)) (q (g [4,5] (f 175 (c (v 0) (c (x (v 2) (k (.int 0))) (c (x (v 2) (k (.int 1))) (c (k .aL) n)))))) (q (e (a (p .ne (v 2) (v 3)) (a (p .jk (v 4) (k .aL)) (p .eq (.tup (c (v 4) (c (v 5) n))) (f 175 (c (v 0) (c (x (v 3) (k (.int 0))) (c (x (v 3) (k (.int 1))) (c (k .aL) n))))))))) s)))))⟩
noncomputable def j9:Fn:=⟨2,4,(q (.ite (z (t (f 6 (c (v 0) (c (k (.int 2)) (c (k (.int 2)) n)))))) (q (e (k (.bl false))) s) s) (q (g [2,3] (v 0)) (q (e (a (f 17 (c (v 2) (c (x (v 1) (k (.int 1))) n))) (f 1 (c (v 3) (c (k (.int 0)) (c (o .sub (b .len (c (x (v 1) (k (.int 3))) n)) (k (.int 1))) n)))))) s)))⟩
noncomputable def EZ:S:=(q (d 4 (f 701 (c (v 0) (c (.tup (c (v 2) (c (v 3) n))) n)))) (q (.ite (p .ne (v 4) (.tup n)) (q (h (w .append (v 1) (c (m (c (.tup (c (v 2) (c (v 3) n))) (c (v 4) n))) n))) s) s) s))
noncomputable def E1:S:=(q (.«for» .bL (c (b .len (c (x (v 0) (k (.int 3))) n)) n) (.one 3) EZ) s)
noncomputable def E2:Fn:=⟨1,5,(q (d 1 (m n)) (q (.«for» .seq (f 190 (c (x (v 0) (k (.int 1))) n)) (.one 2) E1) (q (e (v 1)) s)))⟩
noncomputable def ym:Fn:=⟨2,3,(q (d 2 (f 199 (c (v 0) (c (x (v 1) (k (.int 0))) (c (x (v 1) (k (.int 1))) n))))) (q (.ite (p .le (b .len (c (x (v 2) (k (.int 0))) n)) (b .len (c (x (v 0) (k (.int 2))) n))) (q (e (.tup n)) s) s) (q (e (.tup (c (x (x (v 2) (k (.int 0))) (y (k (.int 1)))) (c (x (v 2) (k (.int 2))) n)))) s)))⟩
noncomputable def Px:S:=(q (d 5 (o .mul (m (c (k (.str (bZ "."))) n)) (v 2))) (q (j (v 5) (o .add (k (.int 1)) (v 4)) (.tup (c (v 4) (c (f 5 (c (v 0) (c (k (.int 2)) n))) n)))) (q (h (w .append (v 3) (c (b .tuple (c (v 5) n)) n))) s)))
noncomputable def Py:S:=(q (h (w .append (v 3) (c (f 104 (c (v 0) (c (v 2) (c (v 1) n)))) n))) s)
noncomputable def Pz:E:=(f 23 (c (v 1) (c (k (.int 1)) n)))
noncomputable def E3:Fn:=⟨2,8,(q (d 2 (o .add (v 1) (k (.int 2)))) (q (d 3 (m n)) (q (.«for» .bL (c (v 1) n) (.one 4) Px) (q (.«for» .bL (c (f 5 (c (v 0) (c (k (.int 3)) n))) n) (.one 6) Py) (q (d 7 (b .tuple (c (u .bL (c (v 2) n) (.one 0) 1 [0] (k (.bl true)) Pz) n))) (q (e (.tup (c (v 2) (c (v 1) (c (b .tuple (c (v 3) n)) (c (.tup (c (k (.int 1)) n)) (c (v 7) n))))))) s))))))⟩
noncomputable def B8:E:=(p .eq (f 219 (c (v 2) (c (x (v 1) (k (.int 1))) (c (x (v 1) (k (.int 0))) n)))) (.tup (c (v 0) n)))
noncomputable def B9:Fn:=⟨2,2,(q (e (b .all (c (u .seq (v 1) (.many [0,1]) 2 [0] (k (.bl true)) B8) n))) s)⟩
noncomputable def yo:E:=(p .lt (x (v 0) (k (.int 0))) (x (v 1) (k (.int 0))))
noncomputable def Ca:E:=(v 0)
noncomputable def PB:E:=(p .eq (f 219 (c (v 2) (c (x (v 1) (k (.int 1))) (c (x (v 1) (k (.int 0))) n)))) (.tup (c (v 0) n)))
noncomputable def Cb:Fn:=⟨1,9,(q (d 1 (f 3 (c (v 0) n))) (q (d 2 (f 5 (c (v 1) (c (k (.int 2)) n)))) (q (d 3 (f 129 (c (v 1) (c (k (.int 9)) (c (k (.int 8)) (c (k (.int 4)) n)))))) (q (.ite (p .eq (v 2) (k (.int 0))) (q (d 3 (f 702 (c (v 1) (c (f 5 (c (v 1) (c (k (.int 6)) n))) n)))) s) s) (q (d 4 (f 700 (c (v 3) n))) (q (d 5 (f 316 (c (v 3) n))) (q (.ite (p .tN (v 5) (k .aL)) (q (e (f 703 (c (v 3) (c (v 4) n)))) s) s) (q (d 6 (f 701 (c (v 3) (c (x (v 5) (k (.int 0))) n)))) (q (.ite (r (z (t (f 307 (c (v 3) (c (v 5) n))))) (r (z (t (f 307 (c (v 3) (c (b .xV (c (v 5) n)) n))))) (p .ne (v 6) (f 701 (c (v 3) (c (x (v 5) (k (.int 1))) n)))))) (q (e (k (.bl false))) s) s) (q (.ite (r (p .eq (v 6) (.tup n)) (p .eq (x (v 5) (k (.int 0))) (x (v 5) (k (.int 1))))) (q (e (k (.bl false))) s) s) (q (d 7 (f 219 (c (v 3) (c (x (v 6) (k (.int 1))) (c (x (v 6) (k (.int 0))) n))))) (q (.ite (r (p .lP (x (v 5) (k (.int 0))) (v 7)) (p .lP (x (v 5) (k (.int 1))) (v 7))) (q (e (k (.bl false))) s) s) (q (d 8 (u .seq (v 4) (.one 0) 1 [5] yo Ca)) (q (e (b .all (c (u .seq (v 8) (.many [0,1]) 2 [3] (k (.bl true)) PB) n))) s))))))))))))))⟩
noncomputable def fU:Fn:=⟨0,0,.no⟩
end
noncomputable def fin(h:VH)(r:Res Fl):Res W:=r.bind λfl h'=>match fl with|.nx _=>leave h .aL h'|.rt w=>leave h w h'|_=>.no
theorem cX{F:Nat->Option Fn}{k f:Nat}{fn:Fn}{ws:List W}{h:VH}(hF:F f=aC fn)(hl:ws.length=fn.ps) :
 run F (k+1) f ws h=fin h (exs (run F k) fn.body (ws.map aC++bE (fn.n-fn.ps) aD) ⟨h.n,h.n,h.os⟩):=by
 simp only[run,hF];rw[if_pos (by rw[hl];exact Nat.beq_refl _)];rfl
theorem PC{h:VH}{w:W}{h':VH}(h1:h.n<=h'.lo)(h2:W.lt h.n w):leave h w h'=.ok w h:=by unfold leave;rw[if_pos (by rw[bD];exact⟨pX.mpr h1,h2⟩)]
theorem dF{h h':VH}{w:W}(h1:h.n<=h'.lo)(h2:W.lt h.n w):fin h (.ok (.rt w) h')=.ok w h:=PC h1 h2
theorem E4{h h':VH}{ρ:En}(h1:h.n<=h'.lo):fin h (.ok (.nx ρ) h')=.ok .aL h:=PC h1 (by simp only[W.lt])
@[simp] theorem aE {α β:Type} {a:α} {h:VH} {f:α->VH->Res β}:(Res.ok a h).bind f=f a h:=rfl
@[simp] theorem IV {α β:Type} {f:α->VH->Res β}:(Res.no:Res α).bind f=.no:=rfl
@[simp] theorem bV {α:Type} {a:α} {h:VH}:Res.of (aC a) h=.ok a h:=rfl
@[simp] theorem IW {α:Type} {h:VH}:Res.of (aD:Option α) h=.no:=rfl
@[simp] theorem IX {n:Nat}:W.lt n .aL=true:=by simp only[W.lt]
@[simp] theorem PD {n:Nat} {b:Bool}:W.lt n (.bl b)=true:=by simp only[W.lt]
@[simp] theorem lt_int {n:Nat} {b:Int}:W.lt n (.int b)=true:=by simp only[W.lt]
@[simp] theorem lt_str {n:Nat} {b:Str}:W.lt n (.str b)=true:=by simp only[W.lt]
@[simp] theorem lg {n:Nat} {b:List W}:W.lt n (.tup b)=W.lO n b:=by simp only[W.lt]
@[simp] theorem E6 {n:Nat}:W.lO n []=true:=by simp only[W.lO]
@[simp] theorem iC {n:Nat} {b:W} {r:List W}:W.lO n (b::r)=(W.lt n b&&W.lO n r):=by simp only[W.lO]
@[simp] theorem wm:((Ty.int==Ty.int):Bool)=true:=rfl
@[simp] theorem ua:((Ty.int==Ty.bool):Bool)=false:=rfl
@[simp] theorem rG:((Ty.int==Ty.tuple):Bool)=false:=rfl
@[simp] theorem uc:((Ty.int==Ty.list):Bool)=false:=rfl
@[simp] theorem wo:((Ty.int==Ty.str):Bool)=false:=rfl
@[simp] theorem ud:((Ty.int==Ty.dict):Bool)=false:=rfl
@[simp] theorem ue:((Ty.bool==Ty.int):Bool)=false:=rfl
@[simp] theorem rH:((Ty.bool==Ty.bool):Bool)=true:=rfl
@[simp] theorem pJ:((Ty.bool==Ty.tuple):Bool)=false:=rfl
@[simp] theorem rJ:((Ty.bool==Ty.list):Bool)=false:=rfl
@[simp] theorem uf:((Ty.bool==Ty.str):Bool)=false:=rfl
@[simp] theorem rK:((Ty.bool==Ty.dict):Bool)=false:=rfl
@[simp] theorem rL:((Ty.tuple==Ty.int):Bool)=false:=rfl
@[simp] theorem pK:((Ty.tuple==Ty.bool):Bool)=false:=rfl
@[simp] theorem ez:((Ty.tuple==Ty.tuple):Bool)=true:=rfl
@[simp] theorem pL:((Ty.tuple==Ty.list):Bool)=false:=rfl
@[simp] theorem rM:((Ty.tuple==Ty.str):Bool)=false:=rfl
@[simp] theorem pM:((Ty.tuple==Ty.dict):Bool)=false:=rfl
@[simp] theorem ug:((Ty.list==Ty.int):Bool)=false:=rfl
@[simp] theorem rN:((Ty.list==Ty.bool):Bool)=false:=rfl
@[simp] theorem pN:((Ty.list==Ty.tuple):Bool)=false:=rfl
@[simp] theorem rO:((Ty.list==Ty.list):Bool)=true:=rfl
@[simp] theorem uh:((Ty.list==Ty.str):Bool)=false:=rfl
@[simp] theorem rP:((Ty.list==Ty.dict):Bool)=false:=rfl
@[simp] theorem wu:((Ty.str==Ty.int):Bool)=false:=rfl
@[simp] theorem um:((Ty.str==Ty.bool):Bool)=false:=rfl
@[simp] theorem rQ:((Ty.str==Ty.tuple):Bool)=false:=rfl
@[simp] theorem uo:((Ty.str==Ty.list):Bool)=false:=rfl
@[simp] theorem wz:((Ty.str==Ty.str):Bool)=true:=rfl
@[simp] theorem uq:((Ty.str==Ty.dict):Bool)=false:=rfl
@[simp] theorem ur:((Ty.dict==Ty.int):Bool)=false:=rfl
@[simp] theorem rR:((Ty.dict==Ty.bool):Bool)=false:=rfl
@[simp] theorem pO:((Ty.dict==Ty.tuple):Bool)=false:=rfl
@[simp] theorem rS:((Ty.dict==Ty.list):Bool)=false:=rfl
@[simp] theorem uu:((Ty.dict==Ty.str):Bool)=false:=rfl
@[simp] theorem rT:((Ty.dict==Ty.dict):Bool)=true:=rfl
@[simp] theorem E7 {t:Ty} {h:VH}:dX t h .aL=aC false:=rfl
@[simp] theorem IY {t:Ty} {h:VH} {b:Bool}:dX t h (.bl b)=aC (t == .int||t == .bool):=rfl
@[simp] theorem E8 {t:Ty} {h:VH} {i:Int}:dX t h (.int i)=aC (t == .int):=rfl
@[simp] theorem E9 {t:Ty} {h:VH} {x:Str}:dX t h (.str x)=aC (t == .str):=rfl
@[simp] theorem mj {t:Ty} {h:VH} {x:List W}:dX t h (.tup x)=aC (t == .tuple):=rfl
@[simp] theorem bK {h:VH} {l i:Nat}:VH.get ⟨h.n,l,h.os⟩ i=h.get i:=by unfold VH.get;rfl
@[simp] theorem oQ {h:VH} {b:Bool}:mT h (.bl b)=aC b:=rfl
noncomputable def forL(tg:W->VH->En->Option En)(b:FS):List W->En->VH->Res Fl
 |[],ρ,h=>.ok (.nx ρ) h
 |w::r,ρ,h=>match tg w h ρ with
  |none=>.no
  |some ρ=>(b ρ h).bind λfl h=>match fl with
   |.nx ρ=>forL tg b r ρ h
   |.ct ρ=>forL tg b r ρ h
   |.bk ρ=>.ok (.nx ρ) h
   |.rt w=>.ok (.rt w) h
noncomputable def kg(tg:W->VH->En->Option En)(c e:FE):List W->En->VH->Res (List W)
 |[],_,h=>.ok [] h
 |w::r,ρ,h=>match tg w h ρ with
  |none=>.no
  |some ρ=>(c ρ h).bind λb h=>match b with
   |.bl true=>(e ρ h).bind λy h=>(kg tg c e r ρ h).bind λys h=>.ok (y::ys) h
   |.bl false=>kg tg c e r ρ h
   |_=>.no
theorem bind_assoc{α β γ:Type}{r:Res α}{f:α->VH->Res β}{g:β->VH->Res γ}:(r.bind f).bind g=r.bind λa h=>(f a h).bind g:=by cases r<;>rfl
theorem Fb{nx:Nat->VH->Option (Option W)}{tg:W->VH->En->Option En}{b:FS}{ws:List W}(hx:∀i h,nx i h=aC ws[i]?):∀(fu i:Nat) (ρ:En) (h:VH),i<=ws.length->ws.length<fu+i->dB nx tg b fu i ρ h=forL tg b (ws.drop i) ρ h
 |0,i,ρ,h,hi,hl=>by lia
 |fu+1,i,ρ,h,hi,hl=>by
  simp only[dB,hx];cases q:ws[i]? with
  |none=>
   rw[yT (mE.mp q)];rfl
  |some w=>
   obtain⟨hi,e⟩:=jx.mp q;rw[xu hi,e];simp only[forL];cases tg w h ρ with
   |none=>rfl
   |some ρ'=>
    simp only;congr 1;funext fl h1;cases fl<;>simp only[Fb hx fu (i+1) _ _ hi (by lia)]
theorem Fc{nx:Nat->VH->Option (Option W)}{tg:W->VH->En->Option En}{c e:FE}{ws:List W}(hx:∀i h,nx i h=aC ws[i]?):∀(fu i:Nat) (ρ:En) (h:VH) (acc:List W),i<=ws.length->ws.length<fu+i->
 eV nx tg c e fu i ρ h acc=(kg tg c e (ws.drop i) ρ h).bind λys h=>.ok (acc.reverse++ys) h
 |0,i,ρ,h,acc,hi,hl=>by lia
 |fu+1,i,ρ,h,acc,hi,hl=>by
  simp only[eV,hx];cases q:ws[i]? with
  |none=>
   rw[yT (mE.mp q)];simp[kg]
  |some w=>
   obtain⟨hi,ee⟩:=jx.mp q;rw[xu hi,ee];simp only[kg];cases tg w h ρ with
   |none=>rfl
   |some ρ'=>
    simp only[bind_assoc];congr 1;funext bv h1;cases bv<;>try rfl
    rename_i bb;cases bb with
    |true=>
     simp only[bind_assoc];congr 1;funext y h2;rw[Fc hx fu (i+1) _ _ _ hi (by lia)];congr 1;funext ys h3;simp
    |false=>simp only[Fc hx fu (i+1) _ _ _ hi (by lia)]
theorem Cc{ws:List W}{tg:W->VH->En->Option En}{b:FS}{ρ:En}{h:VH}(hl:ws.length<1000000):dB (bg .seq (.tup ws)) tg b fuel 0 ρ h=forL tg b ws ρ h:=by have:=Fb (nx:=bg .seq (.tup ws)) (tg:=tg) (b:=b) (ws:=ws) (λi h=>rfl) fuel 0 ρ h (jw _) (by simpa[fuel]using hl);simpa using this
noncomputable def cK:Nat->List W->List W|_,[]=>[]|i,w::r=>.tup [.int i,w]::cK (i+1) r
theorem PF:∀(ws:List W) (i j:Nat),(cK j ws)[i]?=(ws[i]?).map λw=>.tup [.int ((j+i:Nat):Int),w]
 |[],i,j=>by simp[cK]
 |w::r,0,j=>by simp[cK]
 |w::r,i+1,j=>by
  simp only[cK,nK];rw[PF r i (j+1)];congr 1;funext w;rw[show j+1+i=j+ (i+1) by lia]
theorem PJ:∀(ws:List W) (j:Nat),(cK j ws).length=ws.length|[],_=>rfl|_::r,j=>by simp[cK,PJ r]
theorem PK{ws:List W}{tg:W->VH->En->Option En}{b:FS}{ρ:En}{h:VH}(hl:ws.length<1000000):dB (bg .pH (.tup ws)) tg b fuel 0 ρ h=forL tg b (cK 0 ws) ρ h:=by have:=Fb (nx:=bg .pH (.tup ws)) (tg:=tg) (b:=b) (ws:=cK 0 ws) (λi h=>by rw[PF];simp[bg,aS]) fuel 0 ρ h (jw _) (by simpa[fuel,PJ]using hl);simpa using this
noncomputable def gO(a:Int):Nat->List W|0=>[]|n+1=>.int a::gO (a+1) n
theorem Fd:∀(n i:Nat) (a:Int),(gO a n)[i]?=if i<n then aC (.int (a+i))else aD
 |0,i,a=>by simp[gO]
 |n+1,0,a=>by simp[gO]
 |n+1,i+1,a=>by
  simp only[gO,nK];rw[Fd n i (a+1)];by_cases q:i<n;rw[if_pos q,if_pos (by lia)];congr 2
  push_cast;lia;rw[if_neg q,if_neg (by lia)]
theorem Fe:∀(n:Nat) (a:Int),(gO a n).length=n|0,_=>rfl|n+1,a=>by simp[gO,Fe n]
theorem YQ{n:Nat}{tg:W->VH->En->Option En}{b:FS}{ρ:En}{h:VH}(hl:n<1000000):dB (bg .bL (.tup [.int n])) tg b fuel 0 ρ h=forL tg b (gO 0 n) ρ h:=by
 have hf:fits (n:Int)=true:=by simp[fits];lia
 have:=Fb (nx:=bg .bL (.tup [.int n])) (tg:=tg) (b:=b) (ws:=gO 0 n) (λi h=>by rw[Fd];simp[bg,hf]) fuel 0 ρ h (jw _) (by simpa[fuel,Fe]using hl);simpa using this
theorem YR{n:Nat}{tg:W->VH->En->Option En}{c e:FE}{ρ:En}{h:VH}(hl:n<1000000):eV (bg .bL (.tup [.int n])) tg c e fuel 0 ρ h []=kg tg c e (gO 0 n) ρ h:=by
 have hf:fits (n:Int)=true:=by simp[fits];lia
 have:=Fc (nx:=bg .bL (.tup [.int n])) (tg:=tg) (c:=c) (e:=e) (ws:=gO 0 n) (λi h=>by rw[Fd];simp[bg,hf]) fuel 0 ρ h [] (jw _) (by simpa[fuel,Fe]using hl);rw[this];simp only[xE,yY,nu];cases kg tg c e (gO 0 n) ρ h<;>rfl
noncomputable def isInt:W->Bool|.int _=>true|_=>false
noncomputable def Kn(h:VH)(w:W):Prop:=dX .int h w≠aD
theorem fq{h:VH}{l:Nat}{w:W}:Kn ⟨h.n,l,h.os⟩ w↔Kn h w:=by unfold Kn;cases w<;>simp[dX]
structure CoreA(F:Nat->Option Fn):Prop where
 f0:F 0=aC EO
 f1:F 1=aC IP
 f6:F 6=aC B4
 f7:F 7=aC B5
section
variable{F:Nat->Option Fn}(C:CoreA F)
include C
theorem YS{k:Nat}{h:VH}{w:W}(hw:Kn h w):run F (k+1) 0 [w] h=.ok (.bl (isInt w)) h:=by
 rw[cX C.f0 rfl];cases w<;>try(simp[EO,exs,ev,isInt,dF];done)
 exact absurd rfl hw;rename_i i;unfold Kn at hw;simp only[dX]at hw;cases g:h.get i with
 |none=>rw[g]at hw;exact absurd rfl hw
 |some o=>cases o<;>first|(simp[EO,exs,ev,isInt,dF,dX,g];done)|(simp[g]at hw)
noncomputable def within(w:W)(lo hi:Int):Bool:=match w with|.int i=>decide (lo<=i)&&decide (i<=hi)|_=>false
theorem oR{k:Nat}{h:VH}{w:W}{lo hi:Int}(hw:Kn h w):run F (k+2) 1 [w,.int lo,.int hi] h=.ok (.bl (within w lo hi)) h:=by rw[cX C.f1 rfl];have e:=YS C (k:=k) (h:=⟨h.n,h.n,h.os⟩) (w:=w) (fq.mpr hw);cases w<;>simp[IP,exs,ev,e,isInt,within,dF,aV,fC];rename_i i;by_cases h1:lo<=i<;>simp[h1,dF]
noncomputable def gP(w:W)(lo hi:Int):Bool:=match w with|.tup ws=>decide (lo<=ws.length)&&decide ((ws.length:Int)<=hi)|_=>false
theorem rV{k:Nat}{h:VH}{w:W}{lo hi:Int}(hw:Kn h w):run F (k+1) 6 [w,.int lo,.int hi] h=.ok (.bl (gP w lo hi)) h:=by
 rw[cX C.f6 rfl];cases w<;>try(simp[B4,exs,ev,gP,dF];done)
 rename_i ws;simp[B4,exs,ev,gP,dF,aV,fC,ig,fP,aS];by_cases h1:lo<=ws.length<;>simp[h1,dF];exact absurd rfl hw;rename_i i;unfold Kn at hw;simp only[dX]at hw;cases g:h.get i with
 |none=>rw[g]at hw;exact absurd rfl hw
 |some o=>cases o<;>first|(simp[B4,exs,ev,gP,dF,dX,g];done)|(simp[g]at hw)
theorem uv{k:Nat}{h:VH}{t a b:W}{lo hi:Int}:∀(ws:List W) (x:Option W),(∀w∈ws,Kn h w)->∃y,forL (bz (.one 5)) (exs (run F (k+2)) ES) ws [aC t,aC a,aC b,aC (.int lo),aC (.int hi),x] h =
 if ws.all (within · lo hi)then .ok (.nx [aC t,aC a,aC b,aC (.int lo),aC (.int hi),y]) h else .ok (.rt (.bl false)) h
 |[],x,_=>⟨x,by simp[forL]⟩
 |w::r,x,hk=>by
  obtain⟨y,e⟩:=uv (t:=t) (a:=a) (b:=b) (k:=k) (lo:=lo) (hi:=hi) r (aC w) λz hz=>hk z (ff _ hz);refine⟨y,?_⟩;have e1:=oR C (k:=k) (lo:=lo) (hi:=hi) (hk w fY);have eb:exs (run F (k+2)) ES [aC t,aC a,aC b,aC (.int lo),aC (.int hi),aC w] h=if within w lo hi then .ok (.nx [aC t,aC a,aC b,aC (.int lo),aC (.int hi),aC w]) h else .ok (.rt (.bl false)) h:=by cases q:within w lo hi<;>simp[ES,exs,ev,e1,q]
  simp only[forL,bz,List.set,eb];cases q:within w lo hi<;>simp[q,e]
noncomputable def rW(w:W)(a b lo hi:Int):Bool:=match w with|.tup ws=>gP w a b&&ws.all (within · lo hi)|_=>false
theorem Ff{k:Nat}{h:VH}{w:W}{a b lo hi:Int}(hw:Kn h w)(hp:∀ws,w=.tup ws->ws.length<1000000/\∀x∈ws,Kn h x):run F (k+3) 7 [w,.int a,.int b,.int lo,.int hi] h=.ok (.bl (rW w a b lo hi)) h:=by
 rw[cX C.f7 rfl];have e1:=rV C (k:=k+1) (h:=⟨h.n,h.n,h.os⟩) (w:=w) (lo:=a) (hi:=b) (fq.mpr hw);cases q:gP w a b with
 |false=>
  have:rW w a b lo hi=false:=by cases w<;>simp[rW,q]
  simp[B5,exs,ev,e1,q,this,dF]
 |true=>
  cases w<;>try(simp[gP]at q;done)
  rename_i ws;obtain⟨hl,hk⟩:=hp ws rfl;obtain⟨y,e2⟩:=uv C (k:=k) (h:=⟨h.n,h.n,h.os⟩) (t:=.tup ws) (a:=.int a) (b:=.int b) (lo:=lo) (hi:=hi) ws aD λx hx=>fq.mpr (hk x hx);have e3:rW (.tup ws) a b lo hi=ws.all (within · lo hi):=by simp[rW,q]
  rw[e3];cases q2:ws.all (within · lo hi)with|true=>simp[B5,exs,ev,e1,q,Cc hl,e2,q2,dF]|false=>simp[B5,exs,ev,e1,q,Cc hl,e2,q2,dF]
end
noncomputable def gA:Nat->W->Bool
 |0,_=>false
 |n+1,w=>match w with
  |.aL=>true
  |.bl _=>true
  |.int _=>true
  |.str x=>PyData.strOk x
  |.tup ws=>ws.all (gA n)
  |_=>false
theorem PL{f:W->Option aB}{p:W->Bool}{n:Nat}(h:∀w,p w=true->∃d,f w=aC d/\d.canLay0=true/\d.depth<=n):∀ws:List W,ws.all p=true->∃ds,aO f ws=aC ds/\PyData.canLayAll0 ds=true/\PyData.depthAll ds<=n
 |[],_=>⟨[],rfl,rfl,jw _⟩
 |w::r,e=>by
  rw[kr,bD]at e;obtain⟨d,h1,h2,h3⟩:=h w e.1;obtain⟨ds,h4,h5,h6⟩:=PL h r e.2;refine⟨d::ds,by simp[aO,h1,h4],?_,?_⟩;show(d.canLay0&&PyData.canLayAll0 ds)=true;rw[h2,h5];rfl;show max d.depth (PyData.depthAll ds)<=n;lia
theorem Fg(h:VH):∀(n:Nat) (w:W),gA n w=true->∃d,toD h n w=aC d/\d.canLay0=true/\d.depth<=n
 |0,_,e=>by cases e
 |n+1,w,e=>by
  cases w<;>simp only[gA]at e<;>try(cases e;done)
  exact⟨.none,rfl,rfl,jw _⟩;exact⟨.bool _,rfl,rfl,jw _⟩;exact⟨.int _,rfl,rfl,jw _⟩;exact⟨.str _,rfl,e,jw _⟩;obtain⟨ds,h1,h2,h3⟩:=PL (Fg h n) _ e;exact⟨.tuple ds,by simp[toD,h1],h2,by show PyData.depthAll ds+1<=n+1;lia⟩
mutual
theorem PN:∀d:aB,d.canLay0=true->PyData.eqv d d=true
 |.none,_=>rfl
 |.bool b,_=>by simp[PyData.eqv]
 |.int i,_=>by simp[PyData.eqv]
 |.str x,_=>by simp[PyData.eqv]
 |.list xs,h=>by
  simp only[PyData.eqv];exact IZ xs h
 |.tuple xs,h=>by
  simp only[PyData.eqv];exact IZ xs h
 |.dict _,h=>by cases h
theorem IZ:∀ds:List aB,PyData.canLayAll0 ds=true->PyData.eqvAll ds ds=true
 |[],_=>rfl
 |d::ds,h=>by
  have h:(d.canLay0&&PyData.canLayAll0 ds)=true:=h;rw[bD]at h;simp only[PyData.eqvAll,PN d h.1,IZ ds h.2,Bool.and_self]
end
theorem zy8{h:VH}{w:W}(p:gA 24 w):ck h w w=aC true:=by
 obtain⟨d,h1,h2,h3⟩:=Fg h 24 w p;have hs:SeqAt.shaped d=true:=by unfold SeqAt.shaped;rw[h2,pW,eE];lia
 unfold ck;rw[h1];simp[hs,PN d h2]
noncomputable def jB(w:W)(x:Str):Bool:=match w with|.str y=>y==x|_=>false
theorem oS{h:VH}{w:W}{x:Str}(p:gA 24 w)(hx:PyData.strOk x):ck h w (.str x)=aC (jB w x):=by
 obtain⟨d,h1,h2,h3⟩:=Fg h 24 w p;have hs:SeqAt.shaped d=true:=by unfold SeqAt.shaped;rw[h2,pW,eE];lia
 have hs2:SeqAt.shaped (.str x)=true:=by unfold SeqAt.shaped;show(PyData.strOk x&&_)=true;rw[hx];rfl
 unfold ck;rw[h1];have h4:toD h 24 (.str x)=aC (.str x):=rfl;rw[h4];simp only[hs,hs2,Bool.and_self,bQ];cases w<;>simp only[toD]at h1<;>try(cases h1;done)
 cases h1;simp[jB,PyData.eqv];cases h1;simp[jB,PyData.eqv];cases h1;simp[jB,PyData.eqv];cases h1;simp[jB,PyData.eqv];obtain⟨ds,h5,h6⟩:=Option.map_eq_some_iff.mp h1;subst h6;simp[jB,PyData.eqv];simp[gA]at p;simp[gA]at p
theorem pP{n:Nat}{ws:List W}:gA (n+1) (.tup ws)=ws.all (gA n):=rfl
theorem Ja{h:VH}{n:Nat}{w:W}(p:gA n w):Kn h w:=by
 unfold Kn;cases n with|zero=>cases p|succ n=>cases w<;>simp[gA,dX]at p ⊢
structure iD(F:Nat->Option Fn):Prop extends CoreA F where
 f8:F 8=aC IS
 f9:F 9=aC IT
 YT:F 10=aC vZ
 YU:F 11=aC rD
 YV:F 12=aC v8
 YW:F 13=aC rE
 YX:F 14=aC v9
 YY:F 15=aC wc
theorem YZ:dP .aL=true:=rfl
noncomputable def yp(w:W)(n:Int):Bool:=dP w||within w 0 (n-1)
noncomputable def door(w:W)(n:Int):Bool:=match w with|.tup [a,b]=>within a 0 99&&yp b n|_=>false
noncomputable def mq(w:W)(g:Int):Bool:=match w with|.tup [a,b]=>within a 0 (g-1)&&within b 0 1|_=>false
noncomputable def eB(w:W)(c wd g:Int):Bool:=
 if jB w "x" || mq w g then decide (0<c)&&decide (c<wd-1)else if jB w "<"then decide (0<c)else if jB w ">"then decide (c<wd-1)else jB w "." || jB w "s"
section
variable{F:Nat->Option Fn}(C:iD F)
include C
theorem Y0{k:Nat}{h:VH}{w:W}{n:Int}(hw:Kn h w):run F (k+3) 12 [w,.int n] h=.ok (.bl (yp w n)) h:=by rw[cX C.YV rfl];have e:=oR C.toCoreA (k:=k) (h:=⟨h.n,h.n,h.os⟩) (w:=w) (lo:=0) (hi:=n-1) (fq.mpr hw);cases q:dP w<;>simp[v8,exs,ev,e,aV,YZ,q,yp,dF,eU,dU]
theorem Y3{k:Nat}{h:VH}{w:W}{n:Int}(hw:Kn h w)(hp:∀a b,w=.tup [a,b]->Kn h a/\Kn h b):run F (k+4) 11 [w,.int n] h=.ok (.bl (door w n)) h:=by
 rw[cX C.YU rfl];have e1:=rV C.toCoreA (k:=k+2) (h:=⟨h.n,h.n,h.os⟩) (w:=w) (lo:=2) (hi:=2) (fq.mpr hw);cases q:gP w 2 2 with
 |false=>
  have:door w n=false:=by cases w<;>simp[door];rename_i ws;rcases ws with _|⟨a,_|⟨b,_|_⟩⟩<;>simp[gP]at q ⊢
  simp[rD,exs,ev,e1,q,this,dF]
 |true=>
  cases w<;>try(simp[gP]at q;done)
  rename_i ws;have hl:ws.length=2:=by simp[gP]at q;lia
  rcases ws with _|⟨a,_|⟨b,_|_⟩⟩<;>simp at hl;obtain⟨ka,kb⟩:=hp a b rfl;have e2:=oR C.toCoreA (k:=k+1) (h:=⟨h.n,h.n,h.os⟩) (w:=a) (lo:=0) (hi:=99) (fq.mpr ka);have e3:=Y0 C (k:=k) (h:=⟨h.n,h.n,h.os⟩) (w:=b) (n:=n) (fq.mpr kb);cases q2:within a 0 99<;>simp[rD,exs,ev,e1,q,e2,e3,q2,door,dF,bz,aS,jZ]
theorem Y4{k:Nat}{h:VH}{w:W}{n:Int}(hw:Kn h w)(hp:∀a b,w=.tup [a,b]->Kn h a/\Kn h b):run F (k+3) 13 [w,.int n] h=.ok (.bl (mq w n)) h:=by
 rw[cX C.YW rfl];have e1:=rV C.toCoreA (k:=k+1) (h:=⟨h.n,h.n,h.os⟩) (w:=w) (lo:=2) (hi:=2) (fq.mpr hw);cases q:gP w 2 2 with
 |false=>
  have:mq w n=false:=by cases w<;>simp[mq];rename_i ws;rcases ws with _|⟨a,_|⟨b,_|_⟩⟩<;>simp[gP]at q ⊢
  simp[rE,exs,ev,e1,q,this,dF]
 |true=>
  cases w<;>try(simp[gP]at q;done)
  rename_i ws;have hl:ws.length=2:=by simp[gP]at q;lia
  rcases ws with _|⟨a,_|⟨b,_|_⟩⟩<;>simp at hl;obtain⟨ka,kb⟩:=hp a b rfl;have e2:=oR C.toCoreA (k:=k) (h:=⟨h.n,h.n,h.os⟩) (w:=a) (lo:=0) (hi:=n-1) (fq.mpr ka);have e3:=oR C.toCoreA (k:=k) (h:=⟨h.n,h.n,h.os⟩) (w:=b) (lo:=0) (hi:=1) (fq.mpr kb);cases q2:within a 0 (n-1)<;>simp[rE,exs,ev,e1,q,e2,e3,q2,mq,dF,bz,aS,jZ,eU,dU]
omit C in
theorem Jb:PyData.strOk (Str.ofString "x")=true:=by decide +kernel
omit C in
theorem Jc:PyData.strOk (Str.ofString "<")=true:=by decide +kernel
omit C in
theorem Jd:PyData.strOk (Str.ofString ">")=true:=by decide +kernel
omit C in
theorem Je:PyData.strOk (Str.ofString ".")=true:=by decide +kernel
omit C in
theorem Jf:PyData.strOk (Str.ofString "s")=true:=by decide +kernel
theorem Y5{k:Nat}{h:VH}{w:W}{c wd g:Int}(p:gA 24 w):run F (k+4) 15 [w,.int c,.int wd,.int g] h=.ok (.bl (eB w c wd g)) h:=by
 rw[cX C.YY rfl];have hp:∀a b,w=.tup [a,b]->Kn ⟨h.n,h.n,h.os⟩ a/\Kn ⟨h.n,h.n,h.os⟩ b:=λa b e=>by
  subst e;have p:gA (23+1) (.tup [a,b])=true:=p;rw[pP,kr,kr,bD,bD]at p;exact⟨Ja p.1,Ja p.2.1⟩
 have e1:=Y4 C (k:=k) (h:=⟨h.n,h.n,h.os⟩) (w:=w) (n:=g) (Ja p) hp;have sx:=oS (h:=⟨h.n,h.n,h.os⟩) (x:=Str.ofString "x") p Jb;have sl:=oS (h:=⟨h.n,h.n,h.os⟩) (x:=Str.ofString "<") p Jc;have sg:=oS (h:=⟨h.n,h.n,h.os⟩) (x:=Str.ofString ">") p Jd;have sd:=oS (h:=⟨h.n,h.n,h.os⟩) (x:=Str.ofString ".") p Je;have ss:=oS (h:=⟨h.n,h.n,h.os⟩) (x:=Str.ofString "s") p Jf;unfold eB;cases q1:jB w (Str.ofString "x")<;>cases q2:mq w g<;>cases q3:jB w (Str.ofString "<")<;>cases q4:jB w (Str.ofString ">")<;>cases q5:jB w (Str.ofString ".")<;>by_cases h1:0<c<;>
  simp[wc,exs,ev,aV,fC,sx,sl,sg,sd,ss,e1,eU,dU,q1,q2,q3,q4,q5,h1,dF]
theorem PR{k:Nat}{h:VH}{t a:W}{n:Int}:∀(ws:List W) (x:Option W),(∀w∈ws,Kn h w/\∀a b,w=.tup [a,b]->Kn h a/\Kn h b)->∃y,forL (bz (.one 3)) (exs (run F (k+4)) ET) ws [aC t,aC a,aC (.int n),x] h =
 if ws.all (door · n)then .ok (.nx [aC t,aC a,aC (.int n),y]) h else .ok (.rt (.bl false)) h
 |[],x,_=>⟨x,by simp[forL]⟩
 |w::r,x,hk=>by
  obtain⟨y,e⟩:=PR (t:=t) (a:=a) (k:=k) (n:=n) r (aC w) λz hz=>hk z (ff _ hz);refine⟨y,?_⟩;obtain⟨k1,k2⟩:=hk w fY
  have e1:=Y3 C (k:=k) (n:=n) k1 k2;have eb:exs (run F (k+4)) ET [aC t,aC a,aC (.int n),aC w] h=if door w n then .ok (.nx [aC t,aC a,aC (.int n),aC w]) h else .ok (.rt (.bl false)) h:=by cases q:door w n<;>simp[ET,exs,ev,e1,q]
  simp only[forL,bz,List.set,eb];cases q:door w n<;>simp[q,e]
theorem Y6{k:Nat}{h:VH}{ws:List W}{wd n:Int}(hl:ws.length=wd)(hz:ws.length<1000000)(hd:∀w∈ws,door w n):run F (k+5) 8 [.tup ws,.int wd,.int n] h=.ok (.bl true) h:=by
 rw[cX C.f8 rfl];have e1:=rV C.toCoreA (k:=k+3) (h:=⟨h.n,h.n,h.os⟩) (w:=.tup ws) (lo:=wd) (hi:=wd) (by unfold Kn;simp);have q:gP (.tup ws) wd wd=true:=by simp[gP,hl]
 have kn:∀w∈ws,Kn ⟨h.n,h.n,h.os⟩ w/\∀a b,w=.tup [a,b]->Kn ⟨h.n,h.n,h.os⟩ a/\Kn ⟨h.n,h.n,h.os⟩ b:=λw hw=>by
  have:=hd w hw;cases w<;>simp only[door]at this<;>try(cases this;done)
  rename_i us;refine⟨by unfold Kn;simp,λa b e=>?_⟩;cases e;simp only[bD]at this;obtain⟨h1,h2⟩:=this;refine⟨?_,?_⟩;cases a<;>simp[within]at h1;unfold Kn;simp;unfold yp at h2;cases b<;>simp[within,dP]at h2;unfold Kn;simp;unfold Kn;simp
 obtain⟨y,e2⟩:=PR C (k:=k) (h:=⟨h.n,h.n,h.os⟩) (t:=.tup ws) (a:=.int wd) (n:=n) ws aD kn;have ha:ws.all (door · n)=true:=kN.mpr hd;simp[IS,exs,ev,e1,q,Cc hz,e2,ha,dF]
theorem PU{k:Nat}{h:VH}{t:W}{wd:Int}:∀(ws:List W) (x:Option W),(∀w∈ws,∃us,w=.tup us/\us.length=wd)->∃y,forL (bz (.one 2)) (exs (run F (k+1)) EU) ws [aC t,aC (.int wd),x] h=.ok (.nx [aC t,aC (.int wd),y]) h
 |[],x,_=>⟨x,by simp[forL]⟩
 |w::r,x,hk=>by
  obtain⟨y,e⟩:=PU (h:=h) (t:=t) (k:=k) (wd:=wd) r (aC w) λz hz=>hk z (ff _ hz);refine⟨y,?_⟩;obtain⟨us,rfl,hl⟩:=hk w fY
  have e1:=rV C.toCoreA (k:=k) (h:=h) (w:=.tup us) (lo:=wd) (hi:=wd) (by unfold Kn;simp);have q:gP (.tup us) wd wd=true:=by simp[gP,hl]
  have eb:exs (run F (k+1)) EU [aC t,aC (.int wd),aC (.tup us)] h=.ok (.nx [aC t,aC (.int wd),aC (.tup us)]) h:=by simp[EU,exs,ev,e1,q]
  simp only[forL,bz,List.set,eb,aE,e]
theorem Y7{k:Nat}{h:VH}{ws:List W}{wd:Int}(hl:ws.length<=60)(hd:∀w∈ws,∃us,w=.tup us/\us.length=wd):run F (k+2) 9 [.tup ws,.int wd] h=.ok (.bl true) h:=by
 rw[cX C.f9 rfl];have e1:=rV C.toCoreA (k:=k) (h:=⟨h.n,h.n,h.os⟩) (w:=.tup ws) (lo:=0) (hi:=60) (by unfold Kn;simp);have q:gP (.tup ws) 0 60=true:=by simp[gP];lia
 obtain⟨y,e2⟩:=PU C (k:=k) (h:=⟨h.n,h.n,h.os⟩) (t:=.tup ws) (wd:=wd) ws aD hd;simp[IT,exs,ev,e1,q,Cc (show ws.length<1000000 by lia),e2,dF]
end
structure Bd where
 wd:Int
 gr:Int
 rows:List (List W)
 fd:List W
 dr:List W
noncomputable def Bd.w(B:Bd):W:=.tup [.int B.wd,.int B.gr,.tup (B.rows.map .tup),.tup B.fd,.tup B.dr]
noncomputable def bX(wd g:Int):Int->List W->Prop|_,[]=>True|c,w::r=>eB w c wd g=true/\bX wd g (c+1) r
structure Bd.Ok(B:Bd):Prop where
 w1:1<=B.wd
 w2:B.wd<=40
 g1:0<=B.gr
 g2:B.gr<=8
 r1:B.rows.length<=60
 r2:∀r∈B.rows,(r.length:Int)=B.wd/\bX B.wd B.gr 0 r
 f1:1<=B.fd.length
 f2:B.fd.length<=4
 f3:∀f∈B.fd,within f 0 (B.wd-1)=true
 d1:(B.dr.length:Int)=B.wd
 d2:∀d∈B.dr,door d B.fd.length=true
structure Bd.PV(B:Bd):Prop where
 w1:1<=B.wd
 w2:B.wd<=40
 g1:0<=B.gr
 g2:B.gr<=8
 r1:B.rows.length<=60
 r2:∀r∈B.rows,(r.length:Int)=B.wd
 f1:1<=B.fd.length
 f2:B.fd.length<=4
 f3:∀f∈B.fd,within f 0 (B.wd-1)=true
 d1:(B.dr.length:Int)=B.wd
 d2:∀d∈B.dr,door d B.fd.length=true
theorem Bd.Ok.Y8{B:Bd}(b:B.Ok):B.PV:=⟨b.w1,b.w2,b.g1,b.g2,b.r1,λr hr=>(b.r2 r hr).1,b.f1,b.f2,b.f3,b.d1,b.d2⟩
theorem Y9{w:W}{g:Int}(h:mq w g)(n:Nat):gA (n+2) w=true:=by
 cases w<;>simp only[mq]at h<;>try(cases h;done)
 rename_i us;rcases us with _|⟨a,_|⟨b,_|_⟩⟩<;>simp at h
 obtain⟨h1,h2⟩:=h;cases a<;>simp[within]at h1;cases b<;>simp[within]at h2;rfl
theorem yq{w:W}{x:Str}(h:jB w x):w=.str x:=by cases w<;>simp[jB]at h;rw[h]
theorem Za{w:W}{c wd g:Int}(h:eB w c wd g)(n:Nat):gA (n+2) w=true:=by
 have st:∀x:Str,PyData.strOk x=true->jB w x=true->gA (n+2) w=true:=λx hx e=>by rw[yq e];exact hx
 unfold eB at h;split at h;rename_i q;rw[pA]at q;rcases q with q|q
 exact st _ (by decide +kernel) q;exact Y9 q n;split at h;rename_i q;exact st _ (by decide +kernel) q;split at h;rename_i q;exact st _ (by decide +kernel) q;rw[pA]at h;rcases h with q|q
 exact st _ (by decide +kernel) q;exact st _ (by decide +kernel) q
section
variable{F:Nat->Option Fn}(C:iD F)
include C
theorem Zb{k:Nat}{h:VH}{B:Bd}(b:B.PV):run F (k+6) 10 [B.w] h=.ok (.bl true) h:=by
 rw[cX C.YT rfl];have e1:=rV C.toCoreA (k:=k+4) (h:=⟨h.n,h.n,h.os⟩) (w:=B.w) (lo:=5) (hi:=5) (by unfold Kn Bd.w;simp);have q1:gP B.w 5 5=true:=by simp[gP,Bd.w]
 have e2:=oR C.toCoreA (k:=k+3) (h:=⟨h.n,h.n,h.os⟩) (w:=.int B.wd) (lo:=1) (hi:=40) (by unfold Kn;simp);have q2:within (.int B.wd) 1 40=true:=by simp[within,b.w1,b.w2]
 have e3:=oR C.toCoreA (k:=k+3) (h:=⟨h.n,h.n,h.os⟩) (w:=.int B.gr) (lo:=0) (hi:=8) (by unfold Kn;simp);have q3:within (.int B.gr) 0 8=true:=by simp[within,b.g1,b.g2]
 have kf:∀x∈B.fd,Kn ⟨h.n,h.n,h.os⟩ x:=λx hx=>by
  have:=b.f3 x hx;cases x<;>simp[within]at this;unfold Kn;simp
 have hf:=b.f2;have e4:=Ff C.toCoreA (k:=k+2) (h:=⟨h.n,h.n,h.os⟩) (w:=.tup B.fd) (a:=1) (b:=4) (lo:=0) (hi:=B.wd-1) (by unfold Kn;simp) (λws e=>by cases e;exact⟨by lia,kf⟩);have q4:rW (.tup B.fd) 1 4 0 (B.wd-1)=true:=by have h1:=b.f1;simp only[rW,gP,bD,eE];exact⟨⟨by lia,by lia⟩,kN.mpr b.f3⟩
 have e5:=Y7 C (k:=k+3) (h:=⟨h.n,h.n,h.os⟩) (ws:=B.rows.map .tup) (wd:=B.wd) (by rw[bT];exact b.r1) (λw hw=>by
  obtain⟨r,hr,e⟩:=iK.mp hw;exact⟨r,e.symm,b.r2 r hr⟩)
 have hd:=b.d1;have Zc:=b.w2;have e6:=Y6 C (k:=k) (h:=⟨h.n,h.n,h.os⟩) (ws:=B.dr) (wd:=B.wd) (n:=B.fd.length) hd (by lia) b.d2;unfold Bd.w at e1 q1 ⊢;simp[vZ,exs,ev,e1,q1,e2,q2,e3,q3,e4,q4,e5,e6,dF,bz,aS,jZ,eU,dU,ig,fP]
theorem Zd{k:Nat}{h:VH}{B:Bd}(b:B.Ok):run F (k+6) 10 [B.w] h=.ok (.bl true) h:=Zb C b.Y8
theorem PX{k:Nat}{h:VH}{t rs pl:W}{wd g r0:Int}:∀(ws:List W) (c:Int) (j:Nat) (x y:Option W),c=j->bX wd g c ws->∃x' y',forL (bz (.many [6,7])) (exs (run F (k+4)) EV) (cK j ws) [aC t,aC (.int wd),aC (.int g),aC rs,aC (.int r0),aC pl,x,y] h =
 .ok (.nx [aC t,aC (.int wd),aC (.int g),aC rs,aC (.int r0),aC pl,x',y']) h
 |[],c,j,x,y,_,_=>⟨x,y,by simp[forL,cK]⟩
 |w::r,c,j,x,y,hc,ho=>by
  obtain⟨h1,h2⟩:=ho;obtain⟨x',y',e⟩:=PX (h:=h) (t:=t) (rs:=rs) (pl:=pl) (k:=k) (wd:=wd) (g:=g) (r0:=r0) r (c+1) (j+1) (aC (.int j)) (aC w) (by rw[hc];push_cast;rfl) h2;refine⟨x',y',?_⟩;have e1:=Y5 C (k:=k) (h:=h) (c:=j) (wd:=wd) (g:=g) (Za h1 22);rw[<-hc,h1]at e1;have eb:exs (run F (k+4)) EV [aC t,aC (.int wd),aC (.int g),aC rs,aC (.int r0),aC pl,aC (.int j),aC w] h=.ok (.nx [aC t,aC (.int wd),aC (.int g),aC rs,aC (.int r0),aC pl,aC (.int j),aC w]) h:=by rw[hc]at e1;simp[EV,exs,ev,e1]
  simp only[forL,cK,bz,aS,jZ,List.set,eb,aE,e]
theorem PY{k:Nat}{h:VH}{t rs:W}{wd g:Int}:∀(ws:List (List W)) (j:Nat) (x y z u:Option W),(∀r∈ws,(r.length:Int)<1000000/\bX wd g 0 r)->∃x' y' z' u',forL (bz (.many [4,5])) (exs (run F (k+4)) EW) (cK j (ws.map .tup)) [aC t,aC (.int wd),aC (.int g),aC rs,x,y,z,u] h =
 .ok (.nx [aC t,aC (.int wd),aC (.int g),aC rs,x',y',z',u']) h
 |[],j,x,y,z,u,_=>⟨x,y,z,u,by simp[forL,cK]⟩
 |w::r,j,x,y,z,u,ho=>by
  obtain⟨h1,h2⟩:=ho w fY
  obtain⟨z1,u1,e1⟩:=PX C (k:=k) (h:=h) (t:=t) (rs:=rs) (pl:=.tup w) (wd:=wd) (g:=g) (r0:=j) w 0 0 z u rfl h2;obtain⟨x',y',z',u',e⟩:=PY (h:=h) (t:=t) (rs:=rs) (k:=k) (wd:=wd) (g:=g) r (j+1) (aC (.int j)) (aC (.tup w)) z1 u1 λq hq=>ho q (ff _ hq);refine⟨x',y',z',u',?_⟩;have eb:exs (run F (k+4)) EW [aC t,aC (.int wd),aC (.int g),aC rs,aC (.int j),aC (.tup w),z,u] h=.ok (.nx [aC t,aC (.int wd),aC (.int g),aC rs,aC (.int j),aC (.tup w),z1,u1]) h:=by simp[EW,exs,ev,PK (show w.length<1000000 by lia),e1]
  simp only[forL,cu,cK,bz,aS,jZ,List.set,eb,aE,e]
theorem Fi{k:Nat}{h:VH}{B:Bd}(b:B.Ok):run F (k+7) 14 [B.w] h=.ok .aL h:=by
 rw[cX C.YX rfl];have e1:=Zd C (k:=k) (h:=⟨h.n,h.n,h.os⟩) b;have Zc:=b.w2;have h60:=b.r1;obtain⟨x',y',z',u',e2⟩:=PY C (k:=k+2) (h:=⟨h.n,h.n,h.os⟩) (t:=B.w) (rs:=.tup (B.rows.map .tup)) (wd:=B.wd) (g:=B.gr) B.rows 0 aD aD aD aD λr hr=>⟨by have:=(b.r2 r hr).1;lia,(b.r2 r hr).2⟩
 unfold Bd.w at e1 e2 ⊢;simp[v9,exs,ev,e1,E4,bz,aS,jZ,fO,jW,HT.bJ,PK (show(B.rows.map W.tup).length<1000000 by rw[bT];lia),e2]
end
structure CoreD(F:Nat->Option Fn):Prop where
 f2:F 2=aC ER
 f3:F 3=aC BZ
 f4:F 4=aC IQ
 f5:F 5=aC rA
theorem i8{h:VH}{i j:Int}:ck h (.int i) (.int j)=aC (decide (i=j)):=by unfold ck;simp only[toD];show aC (i==j)=_;by_cases q:i=j<;>simp[q]
theorem Fj{i:Int}(h1:-(2 ^ 63)<=i)(h2:i<2 ^ 63):qK i=true:=by unfold qK;simp only[bD,eE];lia
theorem rY{h:VH}{i:Nat}{o o0:VO}(g:h.get i=aC o0):(h.set i o).get i=aC o:=by have hi:=cy g;unfold VH.get at g;rw[if_pos (gw.mpr hi)]at g;have hl:=(jx.mp g).1;unfold VH.get VH.set;simp only[if_pos (gw.mpr hi)];rw[sM hl]
theorem yr{h:VH}{i j:Nat}{o o0:VO}(g:h.get i=aC o0)(hj:j≠i):(h.set i o).get j=h.get j:=k6 (cy g) hj
structure Dk(h:VH)(d c:Nat)(b:Nat):Prop where
 ne:d≠c
 st:∃(ns cells:List Int) (p q:Int),h.get d=aC (.lst [.fz (ns.map .int),.ref c,.int p,.int q])/\h.get c=aC (.lst (cells.map .int))/\(∀x∈cells,(0:Int)<=x)/\0<=p/\0<=q/\q<=b/\cells.length<=63
theorem Dk.mono{h:VH}{d c b b':Nat}(D:Dk h d c b)(hb:b<=b'):Dk h d c b':=by obtain⟨ne,ns,cells,p,q,a1,a2,a3,a4,a5,a6,a7⟩:=D;exact⟨ne,ns,cells,p,q,a1,a2,a3,a4,a5,by lia,a7⟩
structure bF(h h':VH)(d c:Nat):Prop where
 le:h.n<=h'.n
 get:∀i o,i≠d->i≠c->h.get i=aC o->h'.get i=aC o
theorem bF.refl{h:VH}{d c:Nat}:bF h h d c:=⟨aW _,λ_ _ _ _ e=>e⟩
theorem bF.trans{h h1 h2:VH}{d c:Nat}(a:bF h h1 d c)(b:bF h1 h2 d c):bF h h2 d c:=⟨gY a.le b.le,λi o h1 h2 e=>b.get i o h1 h2 (a.get i o h1 h2 e)⟩
theorem Jg(i:Int):(if i<0 then -i else i)=(i.natAbs:Int):=by split<;>lia
section
variable{F:Nat->Option Fn}(C:CoreD F)
include C
theorem cell{k:Nat}{h:VH}{ns:List Int}{j:Int}(hj:0<=j):∃r,run F (k+1) 2 [.fz (ns.map .int),.int j] h=.ok (.int r) h/\0<=r:=by
 rw[cX C.f2 rfl];cases ns with
 |nil=>
  refine⟨7*j+3,?_,by lia⟩;simp[ER,exs,ev,ig,fP,aS,aV,i8,eU,dU,Fj,dF]
 |cons n0 rZ=>
  have hl:(0:Int)< ((n0::rZ).length:Int):=by simp only[dj];lia
  have hm1:=Dw j (show((n0::rZ).length:Int)≠0 by lia);have hm2:=Dv j hl;obtain⟨m,hm⟩:=mG hm1;have hml:m< (n0::rZ).length:=by lia
  have ha:dH (List.map W.int (n0::rZ)) (j % ((n0::rZ).length:Int))=aC (.int ((n0::rZ)[m])):=by rw[hm];exact xR (by rw[jf,gU hml];rfl)
  have hb:¬(((rZ.length:Int)+1)=0):=by lia
  have hp:(0:Int)< (rZ.length:Int)+1:=by lia
  refine⟨(((n0::rZ)[m]).natAbs:Int),?_,by lia⟩;simp only[dj,Int.natCast_add,Int.cast_ofNat_Int,cu]at ha;simp[ER,exs,ev,ig,fP,aS,aV,i8,eU,dU,dF,bR,kX,hb,hp,ha,Jg]
theorem mixed{k:Nat}{h:VH}{ns:List Int}{j m:Int}(hj:0<=j)(hj2:j<=1000000000)(hm:0<m):∃r,run F (k+2) 4 [.fz (ns.map .int),.int j,.int m] h=.ok (.int r) h/\0<=r/\r<m:=by
 rw[cX C.f4 rfl];obtain⟨c,e1,hc⟩:=cell C (k:=k) (h:=⟨h.n,h.n,h.os⟩) (ns:=ns) hj;have h1:=Dw c (show(1000003:Int)≠0 by decide);have h2:=Dv c (show(0:Int)<1000003 by decide);generalize hx:c % 1000003=x at h1 h2;have s1:qK (x+5)=true:=Fj (by lia) (by lia);have s2:qK 7919=true:=Fj (by decide) (by decide);have hb:(x+5)* (j+2)<=1000008*1000000002:=Int.mul_le_mul (by lia) (by lia) (by lia) (by lia);have hb0:0<=(x+5)* (j+2):=Int.mul_nonneg (by lia) (by lia);generalize hy:(x+5)* (j+2)=y at hb hb0;have hn:(y+7919*j).natAbs<2 ^ 64:=by lia
 refine⟨(y+7919*j) ^ 5 % 2147483647/13 % m,?_,Dw _ (by lia),Dv _ hm⟩;have hn':(y+7919*j).natAbs<18446744073709551616:=by lia
 simp[IQ,exs,ev,e1,eU,dU,hx,s1,s2,hy,hn',hm,dF]
theorem PZ{k:Nat}{d c:Nat}{m q:Int}{ns:List Int}(hdc:d≠c)(hm:0<m)(hm2:m<1073741824):∀(n f:Nat) (g:VH) (x:Option W) (cells:List Int) (p:Int),n<f->(cells.length:Int)-p<=n->0<=p->(∀y∈cells,(0:Int)<=y)->
 g.get d=aC (.lst [.fz (ns.map .int),.ref c,.int p,.int q])->g.get c=aC (.lst (cells.map .int))->
 ∃(g':VH) (cells':List Int) (p':Int),0<=p'/\(∀y∈cells',(0:Int)<=y)/\cells'.length=cells.length/\g'.get d=aC (.lst [.fz (ns.map .int),.ref c,.int p',.int q])/\g'.get c=aC (.lst (cells'.map .int))/\g'.n=g.n/\(∀i,i≠d->i≠c->g'.get i=g.get i)/\
  ((∃r,fD (ev (run F (k+2)) B3) (exs (run F (k+2)) vY) f [aC (.ref d),aC (.int m),x] g=.ok (.rt (.int r)) g'/\0<=r/\r<m)\/∃y,fD (ev (run F (k+2)) B3) (exs (run F (k+2)) vY) f [aC (.ref d),aC (.int m),x] g=.ok (.nx [aC (.ref d),aC (.int m),y]) g')
 |n,0,g,x,cells,p,hf,_,_,_,_,_=>by lia
 |n,f+1,g,x,cells,p,hf,hn,hp,hnn,gd,gc=>by
  have ec:ev (run F (k+2)) B3 [aC (.ref d),aC (.int m),x] g=.ok (.bl (decide (p<cells.length))) g:=by simp[B3,ev,bR,gd,dH,iN,ig,fP,aS,gc,aV,fC]
  by_cases hlt:p<cells.length;obtain⟨pn,rfl⟩:=mG hp;have hpl:pn<cells.length:=by lia
  have hat:dH (cells.map W.int) (pn:Int)=aC (.int cells[pn]):=xR (by rw[jf,gU hpl];rfl);by_cases hpos:0<cells[pn];refine⟨g.set c (.lst ((cells.set pn (cells[pn]/m)).map .int)),cells.set pn (cells[pn]/m),pn,hp,?_,by simp,?_,rY gc,rfl,λi _ hi=>yr gc hi,.inl ⟨cells[pn] % m,?_,Dw _ (by lia),Dv _ hm⟩⟩;intro y hy;rcases List.mem_or_eq_of_mem_set hy with hy|rfl
  exact hnn y hy;exact Int.ediv_nonneg (by lia) (by lia);rw[yr gc hdc];exact gd;have hix:iN (cells.map W.int).length (pn:Int)=aC pn:=by unfold iN;rw[if_pos (by lia),if_pos (by rw[bT];lia)];simp
  have eb:exs (run F (k+2)) vY [aC (.ref d),aC (.int m),x] g=.ok (.rt (.int (cells[pn] % m))) (g.set c (.lst ((cells.set pn (cells[pn]/m)).map .int))):=by have h2:dH [W.fz (ns.map .int),.ref c,.int pn,.int q] 2=aC (.int pn):=rfl;have h1:dH [W.fz (ns.map .int),.ref c,.int pn,.int q] 1=aC (.ref c):=rfl;simp[vY,exs,ev,bR,gd,h1,h2,gc,hat,aV,fC,hpos,eU,dU,hm,hm2]at hix ⊢;simp[hix,hm,List.map_set]
  simp[fD,ec,hlt,eb];have gs:(g.set d (.lst [.fz (ns.map .int),.ref c,.int ((pn:Int)+1),.int q])).get c=aC (.lst (cells.map .int)):=by rw[yr gd (eL hdc)];exact gc
  cases n with
  |zero=>lia
  |succ n=>
   obtain⟨g',cells',p',a1,a2,a3,a4,a5,a6,a7,a8⟩:=PZ (k:=k) hdc hm hm2 n f (g.set d (.lst [.fz (ns.map .int),.ref c,.int ((pn:Int)+1),.int q])) (aC (.int cells[pn])) cells (pn+1) (by lia) (by lia) (by lia) hnn (rY gd) gs;have eb:exs (run F (k+2)) vY [aC (.ref d),aC (.int m),x] g=.ok (.nx [aC (.ref d),aC (.int m),aC (.int cells[pn])]) (g.set d (.lst [.fz (ns.map .int),.ref c,.int ((pn:Int)+1),.int q])):=by have h2:dH [W.fz (ns.map .int),.ref c,.int pn,.int q] 2=aC (.int pn):=rfl;have h1:dH [W.fz (ns.map .int),.ref c,.int pn,.int q] 1=aC (.ref c):=rfl;have h3:iN 4 2=aC 2:=rfl;simp[vY,exs,ev,bR,gd,h1,h2,h3,gc,hat,aV,fC,hpos,eU,dU]
   refine⟨g',cells',p',a1,a2,a3,a4,a5,a6,λi h1 h2=>by rw[a7 i h1 h2,yr gd h1],?_⟩;rcases a8 with⟨r,e,h3⟩|⟨y,e⟩
   exact .inl ⟨r,by simp[fD,ec,hlt,eb,e],h3⟩;exact .inr ⟨y,by simp[fD,ec,hlt,eb,e]⟩
  exact⟨g,cells,p,hp,hnn,rfl,gd,gc,rfl,λ_ _ _=>rfl,.inr ⟨x,by simp[fD,ec,hlt]⟩⟩
omit C in
theorem P0{h h':VH}{w:W}(g:fF ⟨h.n,h.n,h.os⟩ h'):∃h2,leave h w h'=.ok w h2/\h.n<=h2.n/\∀i,i<h.n->h2.get i=h'.get i:=by
 unfold leave;split;rename_i q;rw[bD]at q;have hlo:=jD q.1;exact⟨h,rfl,aW _,λi hi=>by
  rw[g.2.2 i hi (dS hi hlo)];exact bK.symm⟩
 exact⟨_,rfl,g.1,λi hi=>bK⟩
theorem take{k:Nat}{h:VH}{d c b:Nat}{m:Int}(D:Dk h d c b)(hb:b<1000000000)(hm:0<m)(hm2:m<1073741824):∃r h',run F (k+3) 5 [.ref d,.int m] h=.ok (.int r) h'/\0<=r/\r<m/\Dk h' d c (b+1)/\bF h h' d c:=by
 rw[cX C.f5 rfl];obtain⟨hne,ns,cells,p,q,gd,gc,hnn,hp,hq,hqb,hl⟩:=D;have Ze:VH.get ⟨h.n,h.n,h.os⟩ d=aC (.lst [.fz (ns.map .int),.ref c,.int p,.int q]):=by rw[bK];exact gd
 have Zf:VH.get ⟨h.n,h.n,h.os⟩ c=aC (.lst (cells.map .int)):=by rw[bK];exact gc
 obtain⟨g',cells',p',a1,a2,a3,a4,a5,a6,a7,a8⟩:=PZ C (k:=k) hne hm hm2 63 fuel ⟨h.n,h.n,h.os⟩ aD cells p (by decide) (by lia) hp hnn Ze Zf;have key:∀(g2:VH)(r:Int)(iE:List Int)(p2 q2:Int),exs (run F (k+2)) rA.body [aC (.ref d),aC (.int m),aD] ⟨h.n,h.n,h.os⟩=.ok (.rt (.int r)) g2->0<=r->r<m->0<=p2->0<=q2->q2<=b+1->iE.length<=63->(∀y∈iE,(0:Int)<=y)->
  g2.get d=aC (.lst [.fz (ns.map .int),.ref c,.int p2,.int q2])->g2.get c=aC (.lst (iE.map .int))->(∀i,i<h.n->i≠d->i≠c->g2.get i=h.get i)->
  ∃r h',fin h (exs (run F (k+2)) rA.body ([W.ref d,W.int m].map aC++bE (rA.n-rA.ps) aD) ⟨h.n,h.n,h.os⟩)=.ok (.int r) h'/\0<=r/\r<m/\Dk h' d c (b+1)/\bF h h' d c:=by
  intro g2 r iE p2 q2 e r1 r2 b1 b2 b3 b4 b5 b6 b7 b8;obtain⟨h2,e2,hn2,k8⟩:=P0 (w:=.int r) (EG (yc F (k+2)) _ _ _ _ _ e);refine⟨r,h2,?_,r1,r2,⟨hne,ns,iE,p2,q2,?_,?_,b5,b1,b2,by lia,b4⟩,⟨hn2,λi o h1 h3 e3=>?_⟩⟩;show fin h (exs (run F (k+2)) rA.body [aC (.ref d),aC (.int m),aD] ⟨h.n,h.n,h.os⟩)=_;rw[e];exact e2;rw[k8 d (cy gd)];exact b6;rw[k8 c (cy gc)];exact b7;rw[k8 i (cy e3),b8 i (cy e3) h1 h3];exact e3
 rcases a8 with⟨r,e,r1,r2⟩|⟨y,e⟩;refine key g' r cells' p' q ?_ r1 r2 a1 hq (by lia) (by lia) a2 a4 a5 λi hi h1 h2=>by rw[a7 i h1 h2,bK]
 simp[rA,exs,e];obtain⟨r,e2,r1,r2⟩:=mixed C (k:=k) (h:=g'.set d (.lst [.fz (ns.map .int),.ref c,.int p',.int (q+1)])) (ns:=ns) (j:=q+1) (m:=m) (by lia) (by lia) hm;refine key (g'.set d (.lst [.fz (ns.map .int),.ref c,.int p',.int (q+1)])) r cells' p' (q+1) ?_ r1 r2 a1 (by lia) (by lia) (by lia) a2 (rY a4) (by rw[yr a4 (eL hne)];exact a5) λi hi h1 h2=>by rw[yr a4 h1,a7 i h1 h2,bK]
 have h3:dH [W.fz (ns.map .int),.ref c,.int p',.int q] 3=aC (.int q):=rfl;have h30:dH [W.fz (ns.map .int),.ref c,.int p',.int (q+1)] 3=aC (.int (q+1)):=rfl;have Zg:dH [W.fz (ns.map .int),.ref c,.int p',.int (q+1)] 0=aC (.fz (ns.map .int)):=rfl;have Zh:iN 4 3=aC 3:=rfl;have hs:=rY (o:=.lst [.fz (ns.map .int),.ref c,.int p',.int (q+1)]) a4;simp[rA,exs,e,ev,bR,a4,h3,eU,dU,Zh,hs,h30,Zg,e2]
end
theorem br{cl:Call}{a b:S}{ρ ρ':En}{h h':VH}(e:exs cl a ρ h=.ok (.nx ρ') h'):exs cl (.seq a b) ρ h=exs cl b ρ' h':=by simp only[exs,e,aE]
theorem kH{cl:Call}{a b:S}{ρ:En}{w:W}{h h':VH}(e:exs cl a ρ h=.ok (.rt w) h'):exs cl (.seq a b) ρ h=.ok (.rt w) h':=by simp only[exs,e,aE]
@[simp] theorem Cd {cl:Call} {ρ:En} {h:VH}:exs cl .skip ρ h=.ok (.nx ρ) h:=rfl
theorem Dk.new{h:VH}{d c b:Nat}{o:VO}(D:Dk h d c b):Dk (h.new o) d c b:=by obtain⟨ne,ns,cells,p,q,a1,a2,a3⟩:=D;exact⟨ne,ns,cells,p,q,by rw[jA (cy a1)];exact a1,by rw[jA (cy a2)];exact a2,a3⟩
theorem bF.new{h h':VH}{d c:Nat}{o:VO}(K:bF h h' d c):bF h (h'.new o) d c:=⟨Nat.le_succ_of_le K.le,λi o' h1 h2 e=>by
 have:=K.get i o' h1 h2 e;rw[jA (cy this)];exact this⟩
theorem Dk.lo{h:VH}{d c b l:Nat}(D:Dk h d c b):Dk ⟨h.n,l,h.os⟩ d c b:=by obtain⟨ne,ns,cells,p,q,a1,a2,a3⟩:=D;exact⟨ne,ns,cells,p,q,by rw[bK];exact a1,by rw[bK];exact a2,a3⟩
theorem yt{cl:Call}{h h':VH}{d c b:Nat}{w:W}{fl:Fl}{body:S}{ρ:En}{F:Nat->Option Fn}{k:Nat}(e:exs (run F k) body ρ ⟨h.n,h.n,h.os⟩=.ok (.rt w) h')(D0:Dk h d c 0\/∃b,Dk h d c b)(D:Dk h' d c b)(K:bF ⟨h.n,h.n,h.os⟩ h' d c) :
 ∃h2,fin h (exs (run F k) body ρ ⟨h.n,h.n,h.os⟩)=.ok w h2/\Dk h2 d c b/\bF h h2 d c:=by
 obtain⟨h2,e2,hn2,k8⟩:=P0 (w:=w) (EG (yc F k) _ _ _ _ _ e);have hd:d<h.n/\c<h.n:=by rcases D0 with⟨_,ns,cells,p,q,a1,a2,_⟩|⟨b,_,ns,cells,p,q,a1,a2,_⟩<;>exact⟨cy a1,cy a2⟩
 refine⟨h2,by rw[e];exact e2,?_,⟨hn2,λi o h1 h3 e3=>?_⟩⟩;obtain⟨ne,ns,cells,p,q,a1,a2,a3⟩:=D;exact⟨ne,ns,cells,p,q,by rw[k8 d hd.1];exact a1,by rw[k8 c hd.2];exact a2,a3⟩;rw[k8 i (cy e3)];exact K.get i o h1 h3 (by rw[bK];exact e3)
noncomputable abbrev aI:Str:=Str.ofString "."
noncomputable abbrev cD:Str:=Str.ofString "<"
noncomputable abbrev cM:Str:=Str.ofString ">"
noncomputable abbrev sX:Str:=Str.ofString "x"
noncomputable abbrev sS:Str:=Str.ofString "s"
theorem Jh{c wd g:Int}:eB (.str aI) c wd g=true:=rfl
theorem Ce{c wd g:Int}:eB (.str sS) c wd g=true:=rfl
theorem P4{c wd g:Int}(h:0<c):eB (.str cD) c wd g=true:=by have:eB (.str cD) c wd g=decide (0<c):=rfl;rw[this];simpa using h
theorem P5{c wd g:Int}(h:c<wd-1):eB (.str cM) c wd g=true:=by have:eB (.str cM) c wd g=decide (c<wd-1):=rfl;rw[this];simpa using h
theorem Cf{c wd g:Int}(h:0<c)(h2:c<wd-1):eB (.str sX) c wd g=true:=by have:eB (.str sX) c wd g=(decide (0<c)&&decide (c<wd-1)):=rfl;rw[this];simp[h,h2]
theorem Zi{c wd g a b:Int}(a0:0<=a)(a1:a<g)(b0:0<=b)(b1:b<2)(h:0<c)(h2:c<wd-1):eB (.tup [.int a,.int b]) c wd g=true:=by
 have h3:mq (.tup [.int a,.int b]) g=true:=by simp only[mq,within,bD,eE];lia
 unfold eB;rw[h3,Bool.or_true,if_pos rfl];simp[h,h2]
inductive Raw(g:Int):W->Prop
 |dot:Raw g (.str aI)
 |lt:Raw g (.str cD)
 |gt:Raw g (.str cM)
 |x:Raw g (.str sX)
 |rk {a b:Int}:0<=a->a<g->0<=b->b<2->Raw g (.tup [.int a,.int b])
theorem mz{h:VH}{x y z:Str}(hx:PyData.strOk x)(hy:PyData.strOk y)(hz:PyData.strOk z):kU h (.str x) (.tup [.str y,.str z])=aC (y==x||z==x):=by
 have sx:SeqAt.shaped (.str x)=true:=by unfold SeqAt.shaped;show(PyData.strOk x&&_)=true;rw[hx];rfl
 have sy:SeqAt.shaped (.str y)=true:=by unfold SeqAt.shaped;show(PyData.strOk y&&_)=true;rw[hy];rfl
 have sz:SeqAt.shaped (.str z)=true:=by unfold SeqAt.shaped;show(PyData.strOk z&&_)=true;rw[hz];rfl
 simp[kU,aS,toD,aO,sx,sy,sz,dO,PyData.eqv]
theorem Fo{h:VH}{a b:Int}{y z:Str}(hy:PyData.strOk y)(hz:PyData.strOk z):kU h (.tup [.int a,.int b]) (.tup [.str y,.str z])=aC false:=by
 have sy:SeqAt.shaped (.str y)=true:=by unfold SeqAt.shaped;show(PyData.strOk y&&_)=true;rw[hy];rfl
 have sz:SeqAt.shaped (.str z)=true:=by unfold SeqAt.shaped;show(PyData.strOk z&&_)=true;rw[hz];rfl
 have st:SeqAt.shaped (.tuple [.int a,.int b])=true:=rfl;simp[kU,aS,toD,aO,sy,sz,st,dO,PyData.eqv]
noncomputable def kh:E:=(.or (.and (.cmp .eq (.var 1) (.cst (.int (0)))) (.cmp .lP (.var 5) (.tup (.cons (.cst (.str aI)) (.cons (.cst (.str cM)) .nil))))) (.and (.cmp .eq (.var 1) (.op .sub (.var 2) (.cst (.int (1))))) (.cmp .lP (.var 5) (.tup (.cons (.cst (.str aI)) (.cons (.cst (.str cD)) .nil))))))
noncomputable def se:E:=(.idx (.lst (.cons (.cst (.str cM)) (.cons (.cst (.str cD)) (.cons (.cst (.str aI)) .nil)))) (.bi .min (.cons (.op .add (.bi .int (.cons (.cmp .gt (.var 1) (.cst (.int (0)))) .nil)) (.op .mul (.cst (.int (2))) (.bi .int (.cons (.cmp .eq (.var 2) (.cst (.int (1)))) .nil)))) (.cons (.cst (.int (2))) .nil))))
noncomputable def sf(P:Int->W->Prop):Int->List W->Prop|_,[]=>True|a,w::r=>P a w/\sf P (a+1) r
theorem Cg{P:W->Prop}:∀{ws:List W} {a:Int},sf (λ_ w=>P w) a ws->∀w∈ws,P w
 |[],_,_,w,h=>by cases h
 |x::r,a,⟨h1,h2⟩,w,h=>by
  rcases eG.mp h with rfl|h;exact h1;exact Cg h2 w h
theorem yu{cl:Call}{P:Int->W->Prop}{e:E}{tl:En}{d c m lim:Nat}(hs:∀(i:Int) (h:VH) (b:Nat),0<=i->i<lim->Dk h d c b->b+m<1000000000->∃w h',ev cl e (aC (.int i)::tl) h=.ok w h'/\P i w/\Dk h' d c (b+m)/\bF h h' d c) :
 ∀(n:Nat)(a:Int)(x:Option W)(h:VH)(b:Nat),0<=a->a+n<=lim->Dk h d c b->b+m*n<1000000000->
  ∃ws h',kg (bz (.one 0)) (λ_ h=>.ok (.bl true) h) (ev cl e) (gO a n) (x::tl) h=.ok ws h'/\sf P a ws/\ws.length=n/\Dk h' d c (b+m*n)/\bF h h' d c
 |0,a,x,h,b,_,_,D,_=>⟨[],h,rfl,trivial,rfl,by simpa using D,.refl⟩
 |n+1,a,x,h,b,ha,hl,D,hb=>by
  have e1:m* (n+1)=m*n+m:=Nat.mul_succ m n;obtain⟨w,h1,e2,p1,D1,K1⟩:=hs a h b ha (by lia) D (by lia);obtain⟨ws,h2,e3,p2,l2,D2,K2⟩:=yu hs n (a+1) (aC (.int a)) h1 (b+m) (by lia) (by lia) D1 (by lia);refine⟨w::ws,h2,?_,⟨p1,p2⟩,by rw[dj,l2],D2.mono (by lia),K1.trans K2⟩;simp only[gO,kg,bz,List.set,ev,aE,e2,e3]
theorem Zj{cl:Call}:ev cl (.cst (.bl true))=λ_ h=>.ok (.bl true) h:=rfl
theorem sj{n:Nat}(h:n<=1000000):Nat.ble n big=true:=pX.mpr (gY h (by decide))
theorem P6{cl:Call}{a:E}{ρ:En}{h h1 h2:VH}{n ow:Nat}{ix:List Nat}{e:E}{ys:List W}(ea:ev cl a ρ h=.ok (.tup [.int n]) h1)(hn:n<1000000)(el:kg (bz (.one 0)) (λ_ h=>.ok (.bl true) h) (ev cl e) (gO 0 n) (inner ow ix ρ) h1=.ok ys h2)(hy:ys.length<=1000000) :
 ev cl (.lc .bL a (.one 0) ow ix (.cst (.bl true)) e) ρ h=.ok (.ref h2.n) (h2.new (.lst ys)):=by
 have l:=YR (n:=n) (tg:=bz (.one 0)) (c:=λ_ h=>.ok (.bl true) h) (e:=ev cl e) (ρ:=inner ow ix ρ) (h:=h1) hn;rw[el]at l;have q:ev cl (.lc .bL a (.one 0) ow ix (.cst (.bl true)) e) ρ h=(ev cl a ρ h).bind λx h=>(eV (bg .bL x) (bz (.one 0)) (ev cl (.cst (.bl true))) (ev cl e) fuel 0 (inner ow ix ρ) h []).bind λys h=>if Nat.ble ys.length big then .ok (.ref h.n) (h.new (.lst ys))else .no:=by rw[ev]
 rw[q,ea,aE];show(eV (bg .bL (.tup [.int n])) (bz (.one 0)) (λ_ h=>.ok (.bl true) h) (ev cl e) fuel 0 (inner ow ix ρ) h1 []).bind _=_;rw[l,aE,if_pos (sj hy)]
theorem P7{cl:Call}{x:E}{ρ:En}{h h1:VH}{i:Nat}{ys:List W}(e:ev cl x ρ h=.ok (.ref i) h1)(g:h1.get i=aC (.lst ys)):ev cl (.bi .tuple (.cons x .nil)) ρ h=.ok (.tup ys) h1:=by simp only[ev,e,aE,ig,qL,aS,g,iT,bV]
theorem Fp{cl:Call}{a:E}{ρ:En}{h h1 h2:VH}{n ow:Nat}{ix:List Nat}{e:E}{ys:List W}(ea:ev cl a ρ h=.ok (.tup [.int n]) h1)(hn:n<1000000)(el:kg (bz (.one 0)) (λ_ h=>.ok (.bl true) h) (ev cl e) (gO 0 n) (inner ow ix ρ) h1=.ok ys h2)(hy:ys.length<=1000000) :
 ev cl (.bi .tuple (.cons (.lc .bL a (.one 0) ow ix (.cst (.bl true)) e) .nil)) ρ h=.ok (.tup ys) (h2.new (.lst ys)):=P7 (P6 ea hn el hy) iJ
theorem P8{wd g:Int}:∀{ws:List W} {c:Int},sf (λi w=>eB w i wd g=true) c ws->bX wd g c ws|[],_,_=>trivial|_::_,_,⟨h1,h2⟩=>⟨h1,P8 h2⟩
theorem Ci{n:Nat}(h:n<=1000000):Nat.blt n big=true:=gw.mpr (Nat.lt_of_le_of_lt h (by decide))
theorem Zk{h:VH}{xs ys:List W}(hl:xs.length+ys.length<=1000000):eU .add (.tup xs) (.tup ys) h=.ok (.tup (xs++ys)) h:=by have:Ey .add xs ys=aC (xs++ys):=if_pos (sj hl);simp only[eU,this,iT,bV]
theorem P9{cl:Call}{i l:Nat}{x:E}{ρ:En}{h h1:VH}{w:W}{acc wA:List W}(Ji:ρ[i]?=aC (aC (.ref l)))(g0:h.get l=aC (.lst wA))(e:ev cl x ρ h=.ok w h1)(g:h1.get l=aC (.lst acc))(hl:acc.length<=1000000) :
 ev cl (.mt .append (.var i) (.cons x .nil)) ρ h=.ok .aL (h1.set l (.lst (acc++[w]))):=by
 have hk:lS .append h (.ref l)=true:=by simp only[lS,g0]
 have hm:lR .append (.ref l) [w] h1=.ok .aL (h1.set l (.lst (acc++[w]))):=by simp only[lR,g];rw[if_pos (Ci hl)]
 simp only[ev,Ji,vcs,bV,aE,hk,bQ,e,hm]
theorem Zl{w:W}{g:Int}(h:mq w g):∃a b:Int,w=.tup [.int a,.int b]/\0<=a/\a<g/\0<=b/\b<2:=by
 cases w<;>simp only[mq]at h<;>try(cases h;done)
 rename_i us;rcases us with _|⟨a,_|⟨b,_|_⟩⟩<;>simp at h
 obtain⟨h1,h2⟩:=h;cases a<;>simp[within]at h1;cases b<;>simp[within]at h2;exact⟨_,_,rfl,by lia,by lia,by lia,by lia⟩
noncomputable def cz(w:W)(hd:Int)(ls:List Int):Option (Int×List Int×List Int):=match w with|.tup [.int g,.int s]=>aC (if ls.getD g.toNat 0=s then -1 else 1,[g],ls.set g.toNat (1-ls.getD g.toNat 0))|.str x=>if x==sS then aD else if x==sX then aC (hd,[],ls)else if x==aI then aC (0,[],ls)else aC (if x==cD then -1 else 1,[],ls)|_=>aD
noncomputable def cA(r:List W)(c:Int):W:=(r[c.toNat]?).getD .aL
structure Fa where
 cs:List Int
 ts:List Int
 ls:List Int
 st:Bool
noncomputable def bA:List (List W)->Int->Int->List Int->Fa
 |[],_,_,ls=>⟨[],[],ls,false⟩
 |r::rs,c,hd,ls=>match cz (cA r c) hd ls with
  |none=>⟨[],[],ls,true⟩
  |some (d,t,l)=>⟨(c+d):: (bA rs (c+d) d l).cs,t++(bA rs (c+d) d l).ts,(bA rs (c+d) d l).ls,(bA rs (c+d) d l).st⟩
noncomputable def fV:Int->List Int->Int|c,[]=>c|_,x::r=>fV x r
noncomputable def bY(ls:List Int):Prop:=∀x∈ls,x=0\/x=1
theorem Jj{w:W}{c wd g:Int}(h:eB w c wd g):(w=.str sX/\0<c/\c<wd-1)\/(w=.str cD/\0<c)\/(w=.str cM/\c<wd-1)\/w=.str aI\/w=.str sS\/∃a b:Nat,w=.tup [.int a,.int b]/\(a:Int)<g/\b<2/\0<c/\c<wd-1:=by
 unfold eB at h;split at h;rename_i q;rw[bD,eE,eE]at h;rw[pA]at q;rcases q with q|q
 exact .inl ⟨yq q,h⟩;obtain⟨a,b,rfl,h1,h2,h3,h4⟩:=Zl q;obtain⟨a,rfl⟩:=mG h1;obtain⟨b,rfl⟩:=mG h3;exact .inr (.inr (.inr (.inr (.inr ⟨a,b,rfl,h2,by lia,h⟩))));split at h;rename_i q;exact .inr (.inl ⟨yq q,by simpa using h⟩);split at h;rename_i q;exact .inr (.inr (.inl ⟨yq q,by simpa using h⟩));rw[pA]at h;rcases h with q|q
 exact .inr (.inr (.inr (.inl (yq q))));exact .inr (.inr (.inr (.inr (.inl (yq q)))))
theorem Jk{hd:Int}{ls:List Int}:cz (.str sX) hd ls=aC (hd,[],ls):=rfl
theorem Jl{hd:Int}{ls:List Int}:cz (.str cD) hd ls=aC (-1,[],ls):=rfl
theorem Jm{hd:Int}{ls:List Int}:cz (.str cM) hd ls=aC (1,[],ls):=rfl
theorem Jo{hd:Int}{ls:List Int}:cz (.str aI) hd ls=aC (0,[],ls):=rfl
theorem Jp{hd:Int}{ls:List Int}:cz (.str sS) hd ls=aD:=rfl
theorem Jq{hd:Int}{ls:List Int}{a b:Nat}:cz (.tup [.int a,.int b]) hd ls=aC (if ls.getD a 0=b then -1 else 1,[(a:Int)],ls.set a (1-ls.getD a 0)):=rfl
theorem Zm{ls:List Int}(h:bY ls)(a:Nat):ls.getD a 0=0\/ls.getD a 0=1:=by
 rw[sJ];cases q:ls[a]? with|none=>exact .inl rfl|some x=>exact h x (mF q)
theorem Qa{w:W}{c wd g hd:Int}{ls:List Int}(h:eB w c wd g)(c0:0<=c)(c1:c<wd)(h1:-1<=hd)(h2:hd<=1)(b:bY ls){d:Int}{t l:List Int}(e:cz w hd ls=aC (d,t,l)):-1<=d/\d<=1/\0<=c+d/\c+d<wd/\l.length=ls.length/\bY l/\t.length<=1:=by rcases Jj h with⟨rfl,h3,h4⟩|⟨rfl,h3⟩|⟨rfl,h3⟩|rfl|rfl|⟨p,q,rfl,h3,h4,h5,h6⟩;rw[Jk]at e;cases e;exact⟨h1,h2,by lia,by lia,rfl,b,by simp⟩;rw[Jl]at e;cases e;exact⟨by lia,by lia,by lia,by lia,rfl,b,by simp⟩;rw[Jm]at e;cases e;exact⟨by lia,by lia,by lia,by lia,rfl,b,by simp⟩;rw[Jo]at e;cases e;exact⟨by lia,by lia,by lia,by lia,rfl,b,by simp⟩;rw[Jp]at e;cases e;rw[Jq]at e;cases e;refine⟨by split<;>lia,by split<;>lia,by split<;>lia,by split<;>lia,by simp,λx hx=>?_,by simp⟩;rcases List.mem_or_eq_of_mem_set hx with hx|rfl;exact b x hx;rcases Zm b p with q|q<;>rw[q]<;>lia
noncomputable def Jr(wd g:Int)(rs:List (List W)):Prop:=∀r∈rs,(r.length:Int)=wd/\bX wd g 0 r
theorem Qc{wd g:Int}:∀{ws:List W} {c:Int} (i:Nat) {w:W},bX wd g c ws->ws[i]?=aC w->eB w (c+i) wd g=true
 |[],_,_,_,_,e=>by simp at e
 |x::r,c,0,w,⟨h1,h2⟩,e=>by
  simp at e;subst e;simpa using h1
 |x::r,c,i+1,w,⟨h1,h2⟩,e=>by
  have:=Qc i h2 (by simpa using e);rw[show c+ ((i+1:Nat):Int)=c+1+i by push_cast;lia];exact this
theorem Fq{wd g c:Int}{r:List W}(h:(r.length:Int)=wd/\bX wd g 0 r)(c0:0<=c)(c1:c<wd):r[c.toNat]?=aC (cA r c)/\eB (cA r c) c wd g=true:=by
 obtain⟨n,rfl⟩:=mG c0;have hn:n<r.length:=by lia
 have e:r[n]?=aC r[n]:=gU hn;have e2:cA r n=r[n]:=by unfold cA;rw[xF,e];rfl
 rw[e2,xF];refine⟨e,?_⟩;have:=Qc n h.2 e;simpa using this
structure Fa.Ok(q:Fa)(wd:Int)(c:Int)(m n:Nat):Prop where
 l1:q.ls.length=n
 l2:bY q.ls
 c1:∀x∈q.cs,0<=x/\x<wd
 c2:q.cs.length<=m
 c3:q.st=false->q.cs.length=m
 c5:q.st=true->q.cs.length<m
 c4:0<=fV c q.cs/\fV c q.cs<wd
 t1:q.ts.length<=m
theorem Qd{wd g:Int}:∀(rs:List (List W)) (c hd:Int) (ls:List Int),Jr wd g rs->0<=c->c<wd->-1<=hd->hd<=1->bY ls->(bA rs c hd ls).Ok wd c rs.length ls.length
 |[],c,hd,ls,_,c0,c1,_,_,b=>⟨rfl,b,by simp[bA],by simp[bA],by simp[bA],by simp[bA],⟨c0,c1⟩,by simp[bA]⟩
 |r::rs,c,hd,ls,ok,c0,c1,h1,h2,b=>by
  obtain⟨_,hm⟩:=Fq (ok r fY) c0 c1;unfold bA;cases e:cz (cA r c) hd ls with
  |none=>exact⟨rfl,b,by simp,by simp,by simp,by simp,⟨c0,c1⟩,by simp⟩
  |some q=>
   obtain⟨d,t,l⟩:=q;obtain⟨a1,a2,a3,a4,a5,a6,a7⟩:=Qa hm c0 c1 h1 h2 b e;have ih:=Qd rs (c+d) d l (λr hr=>ok r (ff _ hr)) a3 a4 a1 a2 a6;refine⟨ih.l1.trans a5,ih.l2,λx hx=>?_,?_,λh=>?_,λh=>?_,ih.c4,?_⟩;rcases eG.mp hx with rfl|hx;exact⟨a3,a4⟩;exact ih.c1 x hx;simp only[dj];have:=ih.c2;lia;simp only[dj];have:=ih.c3 h;lia;simp only[dj];have:=ih.c5 h;lia;simp only[dj,fH];have:=ih.t1;lia
theorem Zn{r:List W}{rs:List (List W)}{c hd:Int}{ls:List Int}(e:cz (cA r c) hd ls=aD):bA (r::rs) c hd ls=⟨[],[],ls,true⟩:=by unfold bA;rw[e]
theorem Zo{r:List W}{rs:List (List W)}{c hd d:Int}{ls t l:List Int}(e:cz (cA r c) hd ls=aC (d,t,l)):bA (r::rs) c hd ls=⟨(c+d):: (bA rs (c+d) d l).cs,t++(bA rs (c+d) d l).ts,(bA rs (c+d) d l).ls,(bA rs (c+d) d l).st⟩:=by rw[bA,e]
noncomputable def st3(h:VH)(gs:List VO)(c t l:List W):VH:=⟨h.n+3+gs.length,h.n,gs++(.lst l :: .lst t :: .lst c::h.os)⟩
theorem wB{h:VH}{gs:List VO}{c t l:List W}:(st3 h gs c t l).get h.n=aC (.lst c):=by unfold st3 VH.get;rw[if_pos (gw.mpr (by show h.n<h.n+3+gs.length;lia))];show(gs++(.lst l :: .lst t :: .lst c::h.os))[h.n+3+gs.length-1-h.n]?=_;rw[nJ (by lia),show h.n+3+gs.length-1-h.n-gs.length=2 by lia];rfl
theorem wC{h:VH}{gs:List VO}{c t l:List W}:(st3 h gs c t l).get (h.n+1)=aC (.lst t):=by unfold st3 VH.get;rw[if_pos (gw.mpr (by show h.n+1<h.n+3+gs.length;lia))];show(gs++(.lst l :: .lst t :: .lst c::h.os))[h.n+3+gs.length-1- (h.n+1)]?=_;rw[nJ (by lia),show h.n+3+gs.length-1- (h.n+1)-gs.length=1 by lia];rfl
theorem Cj{h:VH}{gs:List VO}{c t l:List W}:(st3 h gs c t l).get (h.n+2)=aC (.lst l):=by unfold st3 VH.get;rw[if_pos (gw.mpr (by show h.n+2<h.n+3+gs.length;lia))];show(gs++(.lst l :: .lst t :: .lst c::h.os))[h.n+3+gs.length-1- (h.n+2)]?=_;rw[nJ (by lia),show h.n+3+gs.length-1- (h.n+2)-gs.length=0 by lia];rfl
theorem Qe{a b:Nat}(h:b<=a):Nat.blt a b=false:=by
 cases q:Nat.blt a b with|false=>rfl|true=>have:=gw.mp q;lia
theorem Zp{h:VH}{gs:List VO}{c t l c':List W}:(st3 h gs c t l).set h.n (.lst c')=st3 h gs c' t l:=by unfold st3 VH.set;simp only[Qe (aW h.n)];rw[List.set_append_right _ _ (by lia),show h.n+3+gs.length-1-h.n-gs.length=2 by lia];rfl
theorem Zq{h:VH}{gs:List VO}{c t l t':List W}:(st3 h gs c t l).set (h.n+1) (.lst t')=st3 h gs c t' l:=by unfold st3 VH.set;simp only[Qe (nI h.n)];rw[List.set_append_right _ _ (by lia),show h.n+3+gs.length-1- (h.n+1)-gs.length=1 by lia];rfl
theorem gQ{h:VH}{x y:Str}(hx:PyData.strOk x)(hy:PyData.strOk y):ck h (.str x) (.str y)=aC (x==y):=by rw[oS (x:=y) (by exact hx) hy];rfl
@[simp] theorem Js {h:VH}:ck h (.str sX) (.str (bZ "x"))=aC true:=(gQ (by decide +kernel) (by decide +kernel)).trans (by decide +kernel)
@[simp] theorem Ft {h:VH}:ck h (.str sX) (.str (bZ "<"))=aC false:=(gQ (by decide +kernel) (by decide +kernel)).trans (by decide +kernel)
@[simp] theorem Fv {h:VH}:ck h (.str sX) (.str (bZ ">"))=aC false:=(gQ (by decide +kernel) (by decide +kernel)).trans (by decide +kernel)
@[simp] theorem Ck {h:VH}:ck h (.str sX) (.str (bZ "."))=aC false:=(gQ (by decide +kernel) (by decide +kernel)).trans (by decide +kernel)
@[simp] theorem Jt {h:VH}:ck h (.str sX) (.str (bZ "s"))=aC false:=(gQ (by decide +kernel) (by decide +kernel)).trans (by decide +kernel)
@[simp] theorem Fw {h:VH}:ck h (.str cD) (.str (bZ "x"))=aC false:=(gQ (by decide +kernel) (by decide +kernel)).trans (by decide +kernel)
@[simp] theorem Cm {h:VH}:ck h (.str cD) (.str (bZ "<"))=aC true:=(gQ (by decide +kernel) (by decide +kernel)).trans (by decide +kernel)
@[simp] theorem Cn {h:VH}:ck h (.str cD) (.str (bZ ">"))=aC false:=(gQ (by decide +kernel) (by decide +kernel)).trans (by decide +kernel)
@[simp] theorem yw {h:VH}:ck h (.str cD) (.str (bZ "."))=aC false:=(gQ (by decide +kernel) (by decide +kernel)).trans (by decide +kernel)
@[simp] theorem Fx {h:VH}:ck h (.str cD) (.str (bZ "s"))=aC false:=(gQ (by decide +kernel) (by decide +kernel)).trans (by decide +kernel)
@[simp] theorem Fy {h:VH}:ck h (.str cM) (.str (bZ "x"))=aC false:=(gQ (by decide +kernel) (by decide +kernel)).trans (by decide +kernel)
@[simp] theorem Co {h:VH}:ck h (.str cM) (.str (bZ "<"))=aC false:=(gQ (by decide +kernel) (by decide +kernel)).trans (by decide +kernel)
@[simp] theorem Cq {h:VH}:ck h (.str cM) (.str (bZ ">"))=aC true:=(gQ (by decide +kernel) (by decide +kernel)).trans (by decide +kernel)
@[simp] theorem yx {h:VH}:ck h (.str cM) (.str (bZ "."))=aC false:=(gQ (by decide +kernel) (by decide +kernel)).trans (by decide +kernel)
@[simp] theorem FA {h:VH}:ck h (.str cM) (.str (bZ "s"))=aC false:=(gQ (by decide +kernel) (by decide +kernel)).trans (by decide +kernel)
@[simp] theorem Cr {h:VH}:ck h (.str aI) (.str (bZ "x"))=aC false:=(gQ (by decide +kernel) (by decide +kernel)).trans (by decide +kernel)
@[simp] theorem yy {h:VH}:ck h (.str aI) (.str (bZ "<"))=aC false:=(gQ (by decide +kernel) (by decide +kernel)).trans (by decide +kernel)
@[simp] theorem yz {h:VH}:ck h (.str aI) (.str (bZ ">"))=aC false:=(gQ (by decide +kernel) (by decide +kernel)).trans (by decide +kernel)
@[simp] theorem wD {h:VH}:ck h (.str aI) (.str (bZ "."))=aC true:=(gQ (by decide +kernel) (by decide +kernel)).trans (by decide +kernel)
@[simp] theorem Cs {h:VH}:ck h (.str aI) (.str (bZ "s"))=aC false:=(gQ (by decide +kernel) (by decide +kernel)).trans (by decide +kernel)
@[simp] theorem Ju {h:VH}:ck h (.str sS) (.str (bZ "x"))=aC false:=(gQ (by decide +kernel) (by decide +kernel)).trans (by decide +kernel)
@[simp] theorem FD {h:VH}:ck h (.str sS) (.str (bZ "<"))=aC false:=(gQ (by decide +kernel) (by decide +kernel)).trans (by decide +kernel)
@[simp] theorem FF {h:VH}:ck h (.str sS) (.str (bZ ">"))=aC false:=(gQ (by decide +kernel) (by decide +kernel)).trans (by decide +kernel)
@[simp] theorem Ct {h:VH}:ck h (.str sS) (.str (bZ "."))=aC false:=(gQ (by decide +kernel) (by decide +kernel)).trans (by decide +kernel)
@[simp] theorem Jv {h:VH}:ck h (.str sS) (.str (bZ "s"))=aC true:=(gQ (by decide +kernel) (by decide +kernel)).trans (by decide +kernel)
theorem Zr{h0:VH}{gs:List VO}{c t l l':List W}{w:W}:leave (st3 h0 gs c t l) w (VH.set ⟨(st3 h0 gs c t l).n,(st3 h0 gs c t l).n,(st3 h0 gs c t l).os⟩ (h0.n+2) (.lst l'))=.ok w (st3 h0 gs c t l'):=by
 have hb:Nat.blt (h0.n+2) (h0.n+3+gs.length)=true:=gw.mpr (by lia);have hn:Nat.ble (h0.n+3+gs.length) (h0.n+2)=false:=by
  cases q:Nat.ble (h0.n+3+gs.length) (h0.n+2)with|false=>rfl|true=>have:=jD q;lia
 have hl:Nat.ble h0.n (h0.n+2)=true:=pX.mpr (by lia);unfold leave VH.set st3;simp only[hb,bQ,hn,xo,hl];rw[if_neg (by simp),List.set_append_right _ _ (by lia),show h0.n+3+gs.length-1- (h0.n+2)-gs.length=0 by lia];rfl
theorem Zs{ls:List Int}{a:Nat}(h:a<ls.length):dH (ls.map W.int) (a:Int)=aC (.int (ls.getD a 0)):=
 xR (by rw[jf,gU h,sJ,gU h];rfl)
theorem Qf{n a:Nat}(h:a<n):iN n (a:Int)=aC a:=by unfold iN;rw[if_pos (by lia),if_pos (by lia)];simp
theorem Zt{cl:Call}{a b:S}{ρ ρ':En}{h h':VH}(e:exs cl a ρ h=.ok (.bk ρ') h'):exs cl (.seq a b) ρ h=.ok (.bk ρ') h':=by simp only[exs,e,aE]
theorem Zu{wd g c:Int}{r:List W}(ok:(r.length:Int)=wd/\bX wd g 0 r)(c0:0<=c)(c1:c<wd):dH r c=aC (cA r c):=by have:=(Fq ok c0 c1).1;obtain⟨n,rfl⟩:=mG c0;rw[xF]at this;exact xR this
noncomputable def iW(ls:List Int):W:=.tup (ls.map .int)
theorem mC{n:Nat}{ls:List Int}:W.lt n (iW ls)=true:=by
 unfold iW;rw[lg];induction ls with|nil=>simp|cons x r ih=>rw[cu,iC,ih,lt_int];rfl
theorem Bd.Ok.wF{B:Bd}(b:B.Ok){f:Nat}(hf:f<B.fd.length):∃c:Int,B.fd[f]?=aC (.int c)/\0<=c/\c<B.wd:=by
 have h:=b.f3 _ (yX hf);have e:B.fd[f]?=aC B.fd[f]:=gU hf;generalize B.fd[f]=w at h e;cases w<;>simp only[within]at h<;>try(cases h;done)
 rename_i c;rw[bD,eE,eE]at h;exact⟨c,e,h.1,by lia⟩
noncomputable def Bd.col(B:Bd)(f:Nat):Int:=match B.fd[f]? with|some (.int c)=>c|_=>0
theorem Bd.Ok.col{B:Bd}(b:B.Ok){f:Nat}(hf:f<B.fd.length):B.fd[f]?=aC (.int (B.col f))/\0<=B.col f/\B.col f<B.wd:=by
 obtain⟨c,e,h⟩:=b.wF hf;have:B.col f=c:=by unfold Bd.col;rw[e]
 rw[this];exact⟨e,h⟩
noncomputable def Bd.aZ(B:Bd)(ls:List Int)(f:Nat):Fa:=bA B.rows (B.col f) 0 ls
theorem Bd.Ok.rows{B:Bd}(b:B.Ok){ls:List Int}(hl:(ls.length:Int)=B.gr):Jr B.wd (ls.length:Int) B.rows:=by rw[hl];exact b.r2
theorem Bd.Ok.aZ{B:Bd}(b:B.Ok){ls:List Int}{f:Nat}(hf:f<B.fd.length)(hl:(ls.length:Int)=B.gr)(bi:bY ls):(B.aZ ls f).Ok B.wd (B.col f) B.rows.length ls.length:=
 Qd _ _ _ _ (b.rows hl) (b.col hf).2.1 (b.col hf).2.2 (by decide) (by decide) bi
noncomputable def iR(B:Bd)(ls:List Int)(f:Nat):W:=.tup [iW (B.col f:: (B.aZ ls f).cs),iW (B.aZ ls f).ts,iW (B.aZ ls f).ls]
theorem Qg{B:Bd}{ls:List Int}{f n:Nat}:W.lt n (iR B ls f)=true:=by unfold iR;simp[mC]
theorem Jw{cl:Call}{i l:Nat}{ρ:En}{h:VH}{ws:List W}(Ji:ρ[i]?=aC (aC (.ref l)))(g:h.get l=aC (.lst ws)):ev cl (.bi .tuple (.cons (.var i) .nil)) ρ h=.ok (.tup ws) h:=by simp only[ev,Ji,vcs,bV,aE,ig,qL,aS,g,iT]
theorem Jx{cl:Call}{a b c:E}{ρ:En}{h:VH}{x y z:W}(ea:ev cl a ρ h=.ok x h)(eb:ev cl b ρ h=.ok y h)(ec:ev cl c ρ h=.ok z h):ev cl (.tup (.cons a (.cons b (.cons c .nil)))) ρ h=.ok (.tup [x,y,z]) h:=by rw[ev,ev,ea,aE,ev,eb,aE,ev,ec,aE,ev];rfl
theorem Qh:∀(cs:List Int) (c:Int),(c::cs)[cs.length]?=aC (fV c cs)
 |[],c=>rfl
 |x::r,c=>by
  rw[dj,nK];exact Qh r x
theorem Qi{cs:List Int}{c:Int}:dH ((c::cs).map W.int) (-1)=aC (.int (fV c cs)):=by
 have e:iN ((c::cs).map W.int).length (-1)=aC cs.length:=by unfold iN;rw[if_neg (by decide),bT,dj,if_pos (by lia)];congr 1;lia
 unfold dH;rw[e,Option.bind_some,jf,Qh];rfl
theorem Jy{cl:Call}{a b:E}{ρ:En}{h:VH}{x y:W}(ea:ev cl a ρ h=.ok x h)(eb:ev cl b ρ h=.ok y h):ev cl (.tup (.cons a (.cons b .nil))) ρ h=.ok (.tup [x,y]) h:=by rw[ev,ev,ea,aE,ev,eb,aE,ev];rfl
theorem Jz{ls:List Int}{g:Int}(hl:(ls.length:Int)=g)(b:bY ls):rW (iW ls) g g 0 1=true:=by unfold iW rW gP;simp only[bT,bD,eE,kN];refine⟨⟨by lia,by lia⟩,λw hw=>?_⟩;obtain⟨x,hx,rfl⟩:=iK.mp hw;rcases b x hx with rfl|rfl<;>rfl
section
variable{F:Nat->Option Fn}(C:CoreD F)
include C
theorem Qj{k:Nat}:∀(ns:List Int) (x:Option W) (h:VH),∃cells:List Int,kg (bz (.one 0)) (ev (run F k) t7) (ev (run F k) t8) (ns.map .int) [x] h=.ok (cells.map .int) h/\(∀y∈cells,(0:Int)<=y)/\cells.length<=ns.length
 |[],x,h=>⟨[],rfl,(λy hy=>by cases hy),aW _⟩
 |n::ns,x,h=>by
  obtain⟨cells,e,h1,h2⟩:=Qj (k:=k) ns (aC (.int n)) h;have GY:((10:Int).natAbs<2 ^ 64):=by decide
  have ec:ev (run F k) t7 [aC (.int n)] h=.ok (.bl (decide (1000000000000000000<=(n.natAbs:Int)))) h:=by simp[t7,ev,ig,kX,eU,dU,aV,fC,Jg]
  have ee:ev (run F k) t8 [aC (.int n)] h=.ok (.int (n.natAbs:Int)) h:=by simp[t8,ev,ig,kX,Jg]
  by_cases q:1000000000000000000<=(n.natAbs:Int)
  refine⟨(n.natAbs:Int)::cells,?_,λy hy=>?_,by rw[dj,dj];lia⟩;simp only[kg,cu,bz,List.set,ec,aE,q,decide_true,ee,e];rcases eG.mp hy with rfl|hy
  lia;exact h1 y hy;refine⟨cells,?_,h1,by rw[dj];lia⟩;simp only[kg,cu,bz,List.set,ec,aE,q,decide_false,e]
theorem JA{k:Nat}{h:VH}{ns:List Int}(hl:ns.length<=63):∃h',run F (k+1) 3 [.fz (ns.map .int)] h=.ok (.ref (h.n+1)) h'/\Dk h' (h.n+1) h.n 0:=by
 rw[cX C.f3 rfl];obtain⟨cells,e,h1,h2⟩:=Qj C (k:=k) ns aD ⟨h.n,h.n,h.os⟩;have l:=Fc (nx:=bg .seq (.fz (ns.map .int))) (tg:=bz (.one 0)) (c:=ev (run F k) t7) (e:=ev (run F k) t8) (ws:=ns.map .int) (λi h=>rfl) fuel 0 [aD] ⟨h.n,h.n,h.os⟩ [] (jw _) (by rw[bT];unfold fuel;lia);rw[xE,e]at l;have l:eV (bg .seq (.fz (ns.map .int))) (bz (.one 0)) (ev (run F k) t7) (ev (run F k) t8) fuel 0 [aD] ⟨h.n,h.n,h.os⟩ []=.ok (cells.map .int) ⟨h.n,h.n,h.os⟩:=l;have q:ev (run F k) (.lc .seq (.var 0) (.one 0) 1 [] t7 t8) [aC (.fz (ns.map .int))] ⟨h.n,h.n,h.os⟩=.ok (.ref h.n) (VH.new ⟨h.n,h.n,h.os⟩ (.lst (cells.map .int))):=by rw[ev];have:ev (run F k) (.var 0) [aC (.fz (ns.map .int))] ⟨h.n,h.n,h.os⟩=.ok (.fz (ns.map .int)) ⟨h.n,h.n,h.os⟩:=rfl;rw[this,aE];show(eV (bg .seq (.fz (ns.map .int))) (bz (.one 0)) (ev (run F k) t7) (ev (run F k) t8) fuel 0 [aD] ⟨h.n,h.n,h.os⟩ []).bind _=_;rw[l,aE,if_pos (sj (by rw[bT];lia))]
 let i9:VH:=VH.new ⟨h.n,h.n,h.os⟩ (.lst (cells.map .int));let o:VO:=.lst [.fz (ns.map .int),.ref h.n,.int 0,.int 0];have eb:exs (run F k) BZ.body [aC (.fz (ns.map .int))] ⟨h.n,h.n,h.os⟩=.ok (.rt (.ref (h.n+1))) (i9.new o):=by simp only[BZ,exs,ev,aE,bV,sL,vcs]at q ⊢;rw[q];rfl
 refine⟨⟨h.n+2,if Nat.ble h.lo h.n then h.lo else h.n,(i9.new o).os⟩,?_,?_⟩;show fin h (exs (run F k) BZ.body [aC (.fz (ns.map .int))] ⟨h.n,h.n,h.os⟩)=_;rw[eb];show leave h (.ref (h.n+1)) (i9.new o)=_;unfold leave;rw[if_neg (by
  rw[bD];intro z;have:=z.2;simp only[W.lt]at this;have:=gw.mp this;lia)]
 rfl;refine⟨by lia,ns,cells,0,0,?_,?_,h1,by lia,by lia,by lia,by lia⟩;show VH.get ⟨(i9.new o).n,_,(i9.new o).os⟩ (h.n+1)=_;rw[bK];exact iJ (h:=i9);show VH.get ⟨(i9.new o).n,_,(i9.new o).os⟩ h.n=_;rw[bK,jA (h:=i9) (by show h.n<h.n+1;lia)];exact iJ (h:=⟨h.n,h.n,h.os⟩)
end
theorem Cu{cl:Call}{o:Op}{a b:E}{ρ:En}{h h1 h2:VH}{x y:W}{r:Res W}(ea:ev cl a ρ h=.ok x h1)(eb:ev cl b ρ h1=.ok y h2)(e:eU o x y h2=r):ev cl (.op o a b) ρ h=r:=by rw[ev,ea,aE,eb,aE,e]
theorem gB{cl:Call}{a:E}{ρ:En}{h h1:VH}{x:W}(ea:ev cl a ρ h=.ok x h1):exs cl (.ret a) ρ h=.ok (.rt x) h1:=by rw[exs,ea,aE]
theorem cR{cl:Call}{i:Nat}{a:E}{ρ:En}{h h1:VH}{x:W}(ea:ev cl a ρ h=.ok x h1):exs cl (.set i a) ρ h=.ok (.nx (ρ.set i (aC x))) h1:=by rw[exs,ea,aE]
theorem aH{cl:Call}{i:Nat}{ρ:En}{h:VH}{x:W}(e:ρ[i]?=aC (aC x)):ev cl (.var i) ρ h=.ok x h:=by rw[ev,e];rfl
theorem bN{cl:Call}{a b:E}{ρ:En}{h h1 h2:VH}{x y z:W}(ea:ev cl a ρ h=.ok x h1)(eb:ev cl b ρ h1=.ok y h2)(e:bR h2 x y=aC z):ev cl (.idx a b) ρ h=.ok z h2:=by rw[ev,ea,aE,eb,aE,e];rfl
theorem oU{cl:Call}{a:E}{ρ:En}{h h1:VH}{x:W}{ws:List W}(ea:ev cl a ρ h=.ok x h1)(e:aS h1 x=aC ws):ev cl (.bi .len (.cons a .nil)) ρ h=.ok (.int ws.length) h1:=by rw[ev,ev,ea,aE,ev,aE];show fP [x] h1=_;simp only[fP,e,bV]
theorem oV{cl:Call}{ρ:En}{h h1 h':VH}{n:Nat}{a:E}{x w:W}(ea:ev cl a ρ h=.ok x h1)(e:cl n [x] h1=.ok w h'):ev cl (.call n (.cons a .nil)) ρ h=.ok w h':=by rw[ev,ev,ea,aE,ev];exact e
theorem kI{cl:Call}{ρ:En}{h h1 h2 h':VH}{n:Nat}{a b:E}{x y w:W}(ea:ev cl a ρ h=.ok x h1)(eb:ev cl b ρ h1=.ok y h2)(e:cl n [x,y] h2=.ok w h'):ev cl (.call n (.cons a (.cons b .nil))) ρ h=.ok w h':=by rw[ev,ev,ea,aE,ev,eb,aE,ev];exact e
theorem FG{cl:Call}{ρ:En}{h h1 h2 h3 h':VH}{n:Nat}{a b c:E}{x y z w:W}(ea:ev cl a ρ h=.ok x h1)(eb:ev cl b ρ h1=.ok y h2)(ec:ev cl c ρ h2=.ok z h3)(e:cl n [x,y,z] h3=.ok w h'):ev cl (.call n (.cons a (.cons b (.cons c .nil)))) ρ h=.ok w h':=by rw[ev,ev,ea,aE,ev,eb,aE,ev,ec,aE,ev];exact e
theorem Zv{cl:Call}{ρ:En}{h h1 h2 h3 h4 h':VH}{n:Nat}{a b c d:E}{x y z u w:W}(ea:ev cl a ρ h=.ok x h1)(eb:ev cl b ρ h1=.ok y h2)(ec:ev cl c ρ h2=.ok z h3)(ed:ev cl d ρ h3=.ok u h4)(e:cl n [x,y,z,u] h4=.ok w h'):ev cl (.call n (.cons a (.cons b (.cons c (.cons d .nil))))) ρ h=.ok w h':=by rw[ev,ev,ea,aE,ev,eb,aE,ev,ec,aE,ev,ed,aE,ev];exact e
theorem uw{cl:Call}{a b:E}{ρ:En}{h h1 h2:VH}{x y:W}(ea:ev cl a ρ h=.ok x h1)(eb:ev cl b ρ h1=.ok y h2):ev cl (.tup (.cons a (.cons b .nil))) ρ h=.ok (.tup [x,y]) h2:=by rw[ev,ev,ea,aE,ev,eb,aE,ev];rfl
theorem Zw{xs ys:List Int}{h:VH}(hl:xs.length+ys.length<=1000000):eU .add (iW xs) (iW ys) h=.ok (iW (xs++ys)) h:=by unfold iW;rw[Zk (by rw[bT,bT];exact hl),kq]
theorem Cv{cl:Call}{a:E}{ρ:En}{h h1:VH}{x:W}(ea:ev cl a ρ h=.ok x h1):exs cl (.expr a) ρ h=.ok (.nx ρ) h1:=by rw[exs,ea,aE]
theorem Cw{n:Nat}{ls:List Int}:gA (n+2) (iW ls)=true:=by unfold iW;rw[pP,kN];intro w hw;obtain⟨x,_,rfl⟩:=iK.mp hw;rfl
structure CoreY1(F:Nat->Option Fn):Prop where
 sr:F 173=aC dQ
 su:F 174=aC j7
structure jt(F:Nat->Option Fn):Prop where
 sr:F 173=aC dQ
 su:F 174=aC j7
 JB:F 175=aC t9
structure ja(F:Nat->Option Fn):Prop extends jt F where
 pQ:F 17=aC jr
 wG:F 22=aC j5
 wH:F 24=aC k9
 JC:F 73=aC rF
 wI:F 199=aC l8
structure ux(F:Nat->Option Fn):Prop extends CoreY1 F where
 pQ:F 17=aC jr
 wG:F 22=aC j5
 wH:F 24=aC k9
 JC:F 73=aC rF
 wI:F 199=aC l8
theorem ja.z{F:Nat->Option Fn}(C:ja F):ux F:=⟨⟨C.sr,C.su⟩,C.pQ,C.wG,C.wH,C.JC,C.wI⟩
theorem uy{cl:Call}{i:Nat}{ρ:En}{h:VH}{x:W}(e:ρ[i]?=aC (aC x)):ev cl (.var i) ρ h=.ok x h:=by rw[ev,e];rfl
theorem Cy{cl:Call}{a b:E}{ρ:En}{h h1 h2:VH}{x y z:W}(ea:ev cl a ρ h=.ok x h1)(eb:ev cl b ρ h1=.ok y h2)(e:bR h2 x y=aC z):ev cl (.idx a b) ρ h=.ok z h2:=by rw[ev,ea,aE,eb,aE,e];rfl
theorem Cz{cl:Call}{i:Nat}{a:E}{ρ:En}{h h1:VH}{x:W}(ea:ev cl a ρ h=.ok x h1):exs cl (.set i a) ρ h=.ok (.nx (ρ.set i (aC x))) h1:=by rw[exs,ea];rfl
theorem Zx{h:VH}{x:W}{r:List W}:bR h (.tup (x::r)) (.int 0)=aC x:=xR (j:=0) (xs:=x::r) rfl
theorem JD{h:VH}{i:Int}:ck h (.int i) .aL=aC false:=rfl
section
variable{F:Nat->Option Fn}(C:CoreY1 F)
include C
theorem Zy{k:Nat}{h0:VH}{gs:List VO}{cs ts:List W}{ls:List Int}{w:W}{c wd hd:Int}(hm:eB w c wd (ls.length:Int)) :
 run F (k+1) 173 [w,.int hd,.ref (h0.n+2),.aL] (st3 h0 gs cs ts (ls.map .int))=match cz w hd ls with
  |none=>.ok .aL (st3 h0 gs cs ts (ls.map .int))
  |some (d,_,l)=>.ok (.int d) (st3 h0 gs cs ts (l.map .int)):=by
 rw[cX C.sr rfl];rcases Jj hm with⟨rfl,h3,h4⟩|⟨rfl,h3⟩|⟨rfl,h3⟩|rfl|rfl|⟨p,q,rfl,h3,h4,h5,h6⟩
 rw[Jk];simp[dQ,exs,ev,aV,dF];rw[Jl];simp[dQ,exs,ev,aV,dF];rw[Jm];simp[dQ,exs,ev,aV,dF];rw[Jo];simp[dQ,exs,ev,aV,dF];rw[Jp];simp[dQ,exs,ev,aV,dF];rw[Jq];have hp:p<ls.length:=by lia
 have e1:=Zs hp;have g:VH.get ⟨(st3 h0 gs cs ts (ls.map .int)).n,(st3 h0 gs cs ts (ls.map .int)).n,(st3 h0 gs cs ts (ls.map .int)).os⟩ (h0.n+2)=aC (.lst (ls.map .int)):=by rw[bK];exact Cj
 have e2:iN (ls.map W.int).length (p:Int)=aC p:=Qf (by rw[bT];exact hp);have e3:exs (run F k) dQ.body [aC (.tup [.int p,.int q]),aC (.int hd),aC (.ref (h0.n+2)),aC .aL,aD,aD,aD] ⟨(st3 h0 gs cs ts (ls.map .int)).n,(st3 h0 gs cs ts (ls.map .int)).n,(st3 h0 gs cs ts (ls.map .int)).os⟩=.ok (.rt (.int (if ls.getD p 0=q then -1 else 1))) (VH.set ⟨(st3 h0 gs cs ts (ls.map .int)).n,(st3 h0 gs cs ts (ls.map .int)).n,(st3 h0 gs cs ts (ls.map .int)).os⟩ (h0.n+2) (.lst ((ls.set p (1-ls.getD p 0)).map .int))):=by
  rw[List.map_set];generalize ls.getD p 0=y at e1 ⊢;by_cases z:y=(q:Int)
  simp only[dQ,exs,ev,bz,aS,jZ,vcs,nK,sL,bV,aE,mj,iT,oQ,ez,pZ,nM,bR,g,e1,eU,dU,e2,aV,i8,JD,xq,z,decide_true,bQ];simp only[dQ,exs,ev,bz,aS,jZ,vcs,nK,sL,bV,aE,mj,iT,oQ,ez,pZ,nM,bR,g,e1,eU,dU,e2,aV,i8,JD,xq,z,decide_false,cG]
 show fin _ (exs (run F k) dQ.body [aC (.tup [.int p,.int q]),aC (.int hd),aC (.ref (h0.n+2)),aC .aL,aD,aD,aD] _)=_;rw[e3];exact Zr
theorem Zz{k:Nat}{h0:VH}{b l f:W}{r:List W}{c wd hd:Int}{cs ts:List W}{ls:List Int}{y:Option W}(ok:(r.length:Int)=wd/\bX wd (ls.length:Int) 0 r)(c0:0<=c)(c1:c<wd)(hc:cs.length<=1000)(ht:ts.length<=1000) :
 exs (run F (k+1)) B6 [aC b,aC l,aC f,aC .aL,aC (.int c),aC (.ref h0.n),aC (.ref (h0.n+1)),aC (.ref (h0.n+2)),aC (.int hd),aC (.tup r),y] (st3 h0 [] cs ts (ls.map .int))=match cz (cA r c) hd ls with
  |none=>.ok (.bk [aC b,aC l,aC f,aC .aL,aC (.int c),aC (.ref h0.n),aC (.ref (h0.n+1)),aC (.ref (h0.n+2)),aC .aL,aC (.tup r),aC (cA r c)]) (st3 h0 [] cs ts (ls.map .int))
  |some (d,t,l')=>.ok (.nx [aC b,aC l,aC f,aC .aL,aC (.int (c+d)),aC (.ref h0.n),aC (.ref (h0.n+1)),aC (.ref (h0.n+2)),aC (.int d),aC (.tup r),aC (cA r c)]) (st3 h0 [] (cs++[.int (c+d)]) (ts++t.map .int) (l'.map .int)):=by
 obtain⟨_,hm⟩:=Fq ok c0 c1;have e0:=Zu ok c0 c1;generalize cA r c=w at hm e0 ⊢;have e1:=Zy C (k:=k) (h0:=h0) (gs:=[]) (cs:=cs) (ts:=ts) (hd:=hd) hm;unfold B6;rw[br (ρ':=[aC b,aC l,aC f,aC .aL,aC (.int c),aC (.ref h0.n),aC (.ref (h0.n+1)),aC (.ref (h0.n+2)),aC (.int hd),aC (.tup r),aC w]) (h':=st3 h0 [] cs ts (ls.map .int)) (Cz (Cy (x:=.tup r) (y:=.int c) (uy rfl) (uy rfl) e0))];have key:∀(d:Int)(l':List Int)(t:List Int),cz w hd ls=aC (d,t,l')->exs (run F (k+1)) (.seq (.ite (.and (.jz (.vE .tuple (.var 10))) (.cmp .ne (.idx (.var 10) (.cst (.int (0)))) (.var 3))) (.seq (.expr (.mt .append (.var 6) (.cons (.idx (.var 10) (.cst (.int (0)))) .nil))) .skip) .skip) (.seq (.aug 4 .add (.var 8)) (.seq (.expr (.mt .append (.var 5) (.cons (.var 4) .nil))) .skip))) [aC b,aC l,aC f,aC .aL,aC (.int c),aC (.ref h0.n),aC (.ref (h0.n+1)),aC (.ref (h0.n+2)),aC (.int d),aC (.tup r),aC w] (st3 h0 [] cs ts (l'.map .int))=.ok (.nx [aC b,aC l,aC f,aC .aL,aC (.int (c+d)),aC (.ref h0.n),aC (.ref (h0.n+1)),aC (.ref (h0.n+2)),aC (.int d),aC (.tup r),aC w]) (st3 h0 [] (cs++[.int (c+d)]) (ts++t.map .int) (l'.map .int)):=by
  intro d l' t es;have fin:∀ts':List W,exs (run F (k+1)) (.seq (.aug 4 .add (.var 8)) (.seq (.expr (.mt .append (.var 5) (.cons (.var 4) .nil))) .skip)) [aC b,aC l,aC f,aC .aL,aC (.int c),aC (.ref h0.n),aC (.ref (h0.n+1)),aC (.ref (h0.n+2)),aC (.int d),aC (.tup r),aC w] (st3 h0 [] cs ts' (l'.map .int))=.ok (.nx [aC b,aC l,aC f,aC .aL,aC (.int (c+d)),aC (.ref h0.n),aC (.ref (h0.n+1)),aC (.ref (h0.n+2)),aC (.int d),aC (.tup r),aC w]) (st3 h0 [] (cs++[.int (c+d)]) ts' (l'.map .int)):=by intro ts';rw[br (ρ':=[aC b,aC l,aC f,aC .aL,aC (.int (c+d)),aC (.ref h0.n),aC (.ref (h0.n+1)),aC (.ref (h0.n+2)),aC (.int d),aC (.tup r),aC w]) (h':=st3 h0 [] cs ts' (l'.map .int)) rfl];have ea:=P9 (cl:=run F (k+1)) (i:=5) (l:=h0.n) (x:=.var 4) (ρ:=[aC b,aC l,aC f,aC .aL,aC (.int (c+d)),aC (.ref h0.n),aC (.ref (h0.n+1)),aC (.ref (h0.n+2)),aC (.int d),aC (.tup r),aC w]) (h:=st3 h0 [] cs ts' (l'.map .int)) (h1:=st3 h0 [] cs ts' (l'.map .int)) (w:=.int (c+d)) (acc:=cs) (wA:=cs) rfl wB (by simp[ev]) wB (by lia);rw[Zp]at ea;simp only[exs,ea,aE]
  rcases Jj hm with⟨rfl,h3,h4⟩|⟨rfl,h3⟩|⟨rfl,h3⟩|rfl|rfl|⟨p,q,rfl,h3,h4,h5,h6⟩;rw[Jk]at es;cases es;rw[br (ρ':=[aC b,aC l,aC f,aC .aL,aC (.int c),aC (.ref h0.n),aC (.ref (h0.n+1)),aC (.ref (h0.n+2)),aC (.int hd),aC (.tup r),aC (.str sX)]) (h':=st3 h0 [] cs ts (ls.map .int)) rfl,fin];simp;rw[Jl]at es;cases es;rw[br (ρ':=[aC b,aC l,aC f,aC .aL,aC (.int c),aC (.ref h0.n),aC (.ref (h0.n+1)),aC (.ref (h0.n+2)),aC (.int (-1)),aC (.tup r),aC (.str cD)]) (h':=st3 h0 [] cs ts (ls.map .int)) rfl,fin];simp;rw[Jm]at es;cases es;rw[br (ρ':=[aC b,aC l,aC f,aC .aL,aC (.int c),aC (.ref h0.n),aC (.ref (h0.n+1)),aC (.ref (h0.n+2)),aC (.int 1),aC (.tup r),aC (.str cM)]) (h':=st3 h0 [] cs ts (ls.map .int)) rfl,fin];simp;rw[Jo]at es;cases es;rw[br (ρ':=[aC b,aC l,aC f,aC .aL,aC (.int c),aC (.ref h0.n),aC (.ref (h0.n+1)),aC (.ref (h0.n+2)),aC (.int 0),aC (.tup r),aC (.str aI)]) (h':=st3 h0 [] cs ts (ls.map .int)) rfl,fin];simp;rw[Jp]at es;cases es;rw[Jq]at es;cases es;have ea:=P9 (cl:=run F (k+1)) (i:=6) (l:=h0.n+1) (x:=.idx (.var 10) (.cst (.int 0))) (ρ:=[aC b,aC l,aC f,aC .aL,aC (.int c),aC (.ref h0.n),aC (.ref (h0.n+1)),aC (.ref (h0.n+2)),aC (.int (if ls.getD p 0=q then -1 else 1)),aC (.tup r),aC (.tup [.int p,.int q])]) (h:=st3 h0 [] cs ts ((ls.set p (1-ls.getD p 0)).map .int)) (h1:=st3 h0 [] cs ts ((ls.set p (1-ls.getD p 0)).map .int)) (w:=.int p) (acc:=ts) (wA:=ts) rfl wC (by simp[ev,bR];rfl) wC (by lia);rw[Zq]at ea;have eb:exs (run F (k+1)) (.ite (.and (.jz (.vE .tuple (.var 10))) (.cmp .ne (.idx (.var 10) (.cst (.int (0)))) (.var 3))) (.seq (.expr (.mt .append (.var 6) (.cons (.idx (.var 10) (.cst (.int (0)))) .nil))) .skip) .skip) [aC b,aC l,aC f,aC .aL,aC (.int c),aC (.ref h0.n),aC (.ref (h0.n+1)),aC (.ref (h0.n+2)),aC (.int (if ls.getD p 0=q then -1 else 1)),aC (.tup r),aC (.tup [.int p,.int q])] (st3 h0 [] cs ts ((ls.set p (1-ls.getD p 0)).map .int))=.ok (.nx [aC b,aC l,aC f,aC .aL,aC (.int c),aC (.ref h0.n),aC (.ref (h0.n+1)),aC (.ref (h0.n+2)),aC (.int (if ls.getD p 0=q then -1 else 1)),aC (.tup r),aC (.tup [.int p,.int q])]) (st3 h0 [] cs (ts++[.int p]) ((ls.set p (1-ls.getD p 0)).map .int)):=by
   rw[exs];have e5:ev (run F (k+1)) (.and (.jz (.vE .tuple (.var 10))) (.cmp .ne (.idx (.var 10) (.cst (.int (0)))) (.var 3))) [aC b,aC l,aC f,aC .aL,aC (.int c),aC (.ref h0.n),aC (.ref (h0.n+1)),aC (.ref (h0.n+2)),aC (.int (if ls.getD p 0=q then -1 else 1)),aC (.tup r),aC (.tup [.int p,.int q])] (st3 h0 [] cs ts ((ls.set p (1-ls.getD p 0)).map .int))=.ok (.bl true) (st3 h0 [] cs ts ((ls.set p (1-ls.getD p 0)).map .int)):=by simp[ev,Zx,aV,JD]
   rw[e5,aE];simp only[exs,ea,aE]
  rw[br eb,fin];rfl
 cases es:cz w hd ls with
 |none=>
  rw[es]at e1;rw[br (ρ':=[aC b,aC l,aC f,aC .aL,aC (.int c),aC (.ref h0.n),aC (.ref (h0.n+1)),aC (.ref (h0.n+2)),aC .aL,aC (.tup r),aC w]) (h':=st3 h0 [] cs ts (ls.map .int)) (by simp only[exs,ev,vcs,nK,sL,bV,aE,e1,pZ,nM])];exact Zt rfl
 |some q=>
  obtain⟨d,t,l'⟩:=q;rw[es]at e1;rw[br (ρ':=[aC b,aC l,aC f,aC .aL,aC (.int c),aC (.ref h0.n),aC (.ref (h0.n+1)),aC (.ref (h0.n+2)),aC (.int d),aC (.tup r),aC w]) (h':=st3 h0 [] cs ts (l'.map .int)) (by simp only[exs,ev,vcs,nK,sL,bV,aE,e1,pZ,nM])];rw[br (ρ':=[aC b,aC l,aC f,aC .aL,aC (.int c),aC (.ref h0.n),aC (.ref (h0.n+1)),aC (.ref (h0.n+2)),aC (.int d),aC (.tup r),aC w]) (h':=st3 h0 [] cs ts (l'.map .int)) rfl];exact key d l' t es
theorem Qk{k:Nat}{h0:VH}{b l f:W}{wd:Int}:∀(rs:List (List W)) (c hd:Int) (cs ts:List W) (ls:List Int) (x y:Option W),Jr wd (ls.length:Int) rs->0<=c->c<wd->-1<=hd->hd<=1->bY ls->cs.length+rs.length<=1000->ts.length+rs.length<=1000->
 ∃c' hd' x' y',forL (bz (.one 9)) (exs (run F (k+1)) B6) (rs.map .tup) [aC b,aC l,aC f,aC .aL,aC (.int c),aC (.ref h0.n),aC (.ref (h0.n+1)),aC (.ref (h0.n+2)),aC (.int hd),x,y] (st3 h0 [] cs ts (ls.map .int)) =
  .ok (.nx [aC b,aC l,aC f,aC .aL,c',aC (.ref h0.n),aC (.ref (h0.n+1)),aC (.ref (h0.n+2)),hd',x',y']) (st3 h0 [] (cs++(bA rs c hd ls).cs.map .int) (ts++(bA rs c hd ls).ts.map .int) ((bA rs c hd ls).ls.map .int))
 |[],c,hd,cs,ts,ls,x,y,_,_,_,_,_,_,_,_=>⟨aC (.int c),aC (.int hd),x,y,by simp[forL,bA]⟩
 |r::rs,c,hd,cs,ts,ls,x,y,ok,c0,c1,h1,h2,bi,hc,ht=>by
  have hc':cs.length+rs.length+1<=1000:=by rw[dj]at hc;lia
  have ht':ts.length+rs.length+1<=1000:=by rw[dj]at ht;lia
  have eb:=Zz C (k:=k) (h0:=h0) (b:=b) (l:=l) (f:=f) (hd:=hd) (cs:=cs) (ts:=ts) (y:=y) (ok r fY) c0 c1 (by lia) (by lia);obtain⟨_,hm⟩:=Fq (ok r fY) c0 c1;cases e:cz (cA r c) hd ls with
  |none=>
   rw[e]at eb;rw[Zn e];refine⟨aC (.int c),aC .aL,aC (.tup r),aC (cA r c),?_⟩;simp only[cu,forL,bz,pZ,nM,eb,aE,qc,nt]
  |some q=>
   obtain⟨d,t,l'⟩:=q;rw[e]at eb;obtain⟨a1,a2,a3,a4,a5,a6,a7⟩:=Qa hm c0 c1 h1 h2 bi e;obtain⟨c',hd',x',y',ih⟩:=Qk (k:=k) (h0:=h0) (b:=b) (l:=l) (f:=f) rs (c+d) d (cs++[.int (c+d)]) (ts++t.map .int) l' (aC (.tup r)) (aC (cA r c)) (λr hr=>by rw[a5];exact ok r (ff _ hr)) a3 a4 a1 a2 a6 (by simp only[fH,sN];lia) (by simp only[fH,bT];lia);rw[Zo e];refine⟨c',hd',x',y',?_⟩;simp only[cu,forL,bz,pZ,nM,eb,aE,ih,kq,List.append_assoc,List.singleton_append]
theorem Ql{k:Nat}{h:VH}{B:Bd}{ls:List Int}{f:Nat}(b:B.Ok)(hf:f<B.fd.length)(hl:(ls.length:Int)=B.gr)(bi:bY ls):run F (k+2) 174 [B.w,iW ls,.int f,.aL] h=.ok (iR B ls f) h:=by
 rw[cX C.su rfl];obtain⟨e0,c0,c1⟩:=b.col hf;have hr:=b.r1;obtain⟨c',hd',x',y',el⟩:=Qk C (k:=k) (h0:=h) (b:=B.w) (l:=iW ls) (f:=.int f) B.rows (B.col f) 0 [.int (B.col f)] [] ls aD aD (b.rows hl) c0 c1 (by decide) (by decide) bi (by rw[sN];lia) (by rw[p9];lia);have e1:dH B.fd (f:Int)=aC (.int (B.col f)):=xR e0;have i3:dH [W.int B.wd,.int B.gr,.tup (B.rows.map .tup),.tup B.fd,.tup B.dr] 3=aC (.tup B.fd):=rfl;have i2:dH [W.int B.wd,.int B.gr,.tup (B.rows.map .tup),.tup B.fd,.tup B.dr] 2=aC (.tup (B.rows.map .tup)):=rfl;have hz:(B.rows.map W.tup).length<1000000:=by rw[bT];lia
 have eb:exs (run F (k+1)) j7.body [aC B.w,aC (iW ls),aC (.int f),aC .aL,aD,aD,aD,aD,aD,aD,aD] ⟨h.n,h.n,h.os⟩=.ok (.rt (iR B ls f)) (st3 h [] (([.int (B.col f)]:List W)++(bA B.rows (B.col f) 0 ls).cs.map .int) (([]:List W)++(bA B.rows (B.col f) 0 ls).ts.map .int) ((bA B.rows (B.col f) 0 ls).ls.map .int)):=by
  show exs (run F (k+1)) (.seq _ _) _ _=_;rw[br (ρ':=[aC B.w,aC (iW ls),aC (.int f),aC .aL,aC (.int (B.col f)),aD,aD,aD,aD,aD,aD]) (h':=⟨h.n,h.n,h.os⟩) (by unfold Bd.w;simp[exs,ev,bR,i3,e1])];rw[br (ρ':=[aC B.w,aC (iW ls),aC (.int f),aC .aL,aC (.int (B.col f)),aC (.ref h.n),aD,aD,aD,aD,aD]) (h':=VH.new ⟨h.n,h.n,h.os⟩ (.lst [.int (B.col f)])) (by simp[exs,ev])];rw[br (ρ':=[aC B.w,aC (iW ls),aC (.int f),aC .aL,aC (.int (B.col f)),aC (.ref h.n),aC (.ref (h.n+1)),aD,aD,aD,aD]) (h':=VH.new (VH.new ⟨h.n,h.n,h.os⟩ (.lst [.int (B.col f)])) (.lst [])) (by simp[exs,ev,VH.new])];rw[br (ρ':=[aC B.w,aC (iW ls),aC (.int f),aC .aL,aC (.int (B.col f)),aC (.ref h.n),aC (.ref (h.n+1)),aC (.ref (h.n+2)),aD,aD,aD]) (h':=st3 h [] [.int (B.col f)] [] (ls.map .int)) (by unfold iW;simp[exs,ev,VH.new,ig,jX,aS,st3])];rw[br (ρ':=[aC B.w,aC (iW ls),aC (.int f),aC .aL,aC (.int (B.col f)),aC (.ref h.n),aC (.ref (h.n+1)),aC (.ref (h.n+2)),aC (.int 0),aD,aD]) (h':=st3 h [] [.int (B.col f)] [] (ls.map .int)) (by simp[exs,ev])];have ei:ev (run F (k+1)) (.idx (.var 0) (.cst (.int (2)))) [aC B.w,aC (iW ls),aC (.int f),aC .aL,aC (.int (B.col f)),aC (.ref h.n),aC (.ref (h.n+1)),aC (.ref (h.n+2)),aC (.int 0),aD,aD] (st3 h [] [.int (B.col f)] [] (ls.map .int))=.ok (.tup (B.rows.map .tup)) (st3 h [] [.int (B.col f)] [] (ls.map .int)):=by unfold Bd.w;simp[ev,bR,i2]
  have ef:=Cc (tg:=bz (.one 9)) (b:=exs (run F (k+1)) B6) (ρ:=[aC B.w,aC (iW ls),aC (.int f),aC .aL,aC (.int (B.col f)),aC (.ref h.n),aC (.ref (h.n+1)),aC (.ref (h.n+2)),aC (.int 0),aD,aD]) (h:=st3 h [] [.int (B.col f)] [] (ls.map .int)) hz;rw[el]at ef;refine(br (by rw[exs,ei,aE,ef])).trans ?_;have et:=Jx (cl:=run F (k+1)) (Jw (i:=5) (ρ:=[aC B.w,aC (iW ls),aC (.int f),aC .aL,c',aC (.ref h.n),aC (.ref (h.n+1)),aC (.ref (h.n+2)),hd',x',y']) rfl (wB (h:=h) (gs:=[]) (c:=([.int (B.col f)]:List W)++(bA B.rows (B.col f) 0 ls).cs.map .int) (t:=([]:List W)++(bA B.rows (B.col f) 0 ls).ts.map .int) (l:=(bA B.rows (B.col f) 0 ls).ls.map .int))) (Jw (i:=6) rfl wC) (Jw (i:=7) rfl Cj);simp only[exs,et,aE];rfl
 show fin h (exs (run F (k+1)) j7.body [aC B.w,aC (iW ls),aC (.int f),aC .aL,aD,aD,aD,aD,aD,aD,aD] ⟨h.n,h.n,h.os⟩)=_;rw[eb];exact dF (aW _) Qg
end
section
variable{F:Nat->Option Fn}(C:jt F)
include C
theorem ZC{k:Nat}{h:VH}{B:Bd}{ls:List Int}{f:Nat}(b:B.Ok)(hf:f<B.fd.length)(hl:(ls.length:Int)=B.gr)(bi:bY ls):run F (k+2) 174 [B.w,iW ls,.int f,.aL] h=.ok (iR B ls f) h:=Ql ⟨C.sr,C.su⟩ b hf hl bi
noncomputable def cY(B:Bd)(ls:List Int)(f:Nat):W:=if(B.aZ ls f).st then .aL else .int (fV (B.col f) (B.aZ ls f).cs)
theorem FH{k:Nat}{h:VH}{B:Bd}{ls:List Int}{f:Nat}(b:B.Ok)(hf:f<B.fd.length)(hl:(ls.length:Int)=B.gr)(bi:bY ls):run F (k+3) 175 [B.w,iW ls,.int f,.aL] h=.ok (.tup [cY B ls f,iW (B.aZ ls f).ls]) h:=by
 rw[cX C.JB rfl];have e1:=ZC C (k:=k) (h:=⟨h.n,h.n,h.os⟩) b hf hl bi;have q:=b.aZ hf hl bi;have i2:dH [W.int B.wd,.int B.gr,.tup (B.rows.map .tup),.tup B.fd,.tup B.dr] 2=aC (.tup (B.rows.map .tup)):=rfl;have e2:exs (run F (k+2)) (.om [4,5,6] (.call 174 (.cons (.var 0) (.cons (.var 1) (.cons (.var 2) (.cons (.var 3) .nil)))))) [aC B.w,aC (iW ls),aC (.int f),aC .aL,aD,aD,aD,aD] ⟨h.n,h.n,h.os⟩=.ok (.nx [aC B.w,aC (iW ls),aC (.int f),aC .aL,aC (iW (B.col f:: (B.aZ ls f).cs)),aC (iW (B.aZ ls f).ts),aC (iW (B.aZ ls f).ls),aD]) ⟨h.n,h.n,h.os⟩:=by simp only[exs,ev,vcs,nK,sL,bV,aE,e1,iR,bz,aS,jZ,pZ,nM,iT]
 have e3:ev (run F (k+2)) (.cmp .gt (.bi .len (.cons (.var 4) .nil)) (.bi .len (.cons (.idx (.var 0) (.cst (.int (2)))) .nil))) [aC B.w,aC (iW ls),aC (.int f),aC .aL,aC (iW (B.col f:: (B.aZ ls f).cs)),aC (iW (B.aZ ls f).ts),aC (iW (B.aZ ls f).ls),aD] ⟨h.n,h.n,h.os⟩=.ok (.bl (!(B.aZ ls f).st)) ⟨h.n,h.n,h.os⟩:=by
  have:decide ((B.rows.length:Int)< ((B.aZ ls f).cs.length:Int)+1)=!(B.aZ ls f).st:=by
   cases z:(B.aZ ls f).st with|true=>have:=q.c5 z;exact eF (by lia)|false=>have:=q.c3 z;exact fW (by lia)
  unfold Bd.w iW;simp[ev,ig,fP,aS,bR,i2,aV,fC,this]
 have el:=Qi (cs:=(B.aZ ls f).cs) (c:=B.col f);show fin h (exs (run F (k+2)) (.seq (.om [4,5,6] (.call 174 (.cons (.var 0) (.cons (.var 1) (.cons (.var 2) (.cons (.var 3) .nil)))))) _) [aC B.w,aC (iW ls),aC (.int f),aC .aL,aD,aD,aD,aD] ⟨h.n,h.n,h.os⟩)=_;rw[br e2];have e4:ev (run F (k+2)) (.idx (.var 4) (.neg (.cst (.int (1))))) [aC B.w,aC (iW ls),aC (.int f),aC .aL,aC (iW (B.col f:: (B.aZ ls f).cs)),aC (iW (B.aZ ls f).ts),aC (iW (B.aZ ls f).ls),aD] ⟨h.n,h.n,h.os⟩=.ok (.int (fV (B.col f) (B.aZ ls f).cs)) ⟨h.n,h.n,h.os⟩:=by unfold iW;simp only[ev,vcs,nK,sL,bV,aE,bR,el]
 have e5:exs (run F (k+2)) (.set 7 (.ite (.cmp .gt (.bi .len (.cons (.var 4) .nil)) (.bi .len (.cons (.idx (.var 0) (.cst (.int (2)))) .nil))) (.idx (.var 4) (.neg (.cst (.int (1))))) (.cst .aL))) [aC B.w,aC (iW ls),aC (.int f),aC .aL,aC (iW (B.col f:: (B.aZ ls f).cs)),aC (iW (B.aZ ls f).ts),aC (iW (B.aZ ls f).ls),aD] ⟨h.n,h.n,h.os⟩=.ok (.nx [aC B.w,aC (iW ls),aC (.int f),aC .aL,aC (iW (B.col f:: (B.aZ ls f).cs)),aC (iW (B.aZ ls f).ts),aC (iW (B.aZ ls f).ls),aC (cY B ls f)]) ⟨h.n,h.n,h.os⟩:=by
  unfold cY;rw[exs,ev,e3];cases z:(B.aZ ls f).st with|true=>rfl|false=>simp only[xq,aE,e4];rfl
 rw[br e5];simp only[exs];rw[Jy (x:=cY B ls f) (y:=iW (B.aZ ls f).ls) rfl rfl];refine dF (aW _) ?_;unfold cY;split<;>simp[mC]
end
section
variable{F:Nat->Option Fn}(C:ux F)(B':iD F)
include C B'
theorem ZD{k:Nat}{h:VH}{B:Bd}{ls:List Int}(b:B.Ok)(hl:(ls.length:Int)=B.gr)(bi:bY ls):run F (k+9) 24 [B.w,iW ls] h=.ok .aL h:=by
 have hg:=b.g2;have w0:∀h:VH,run F (k+7) 17 [iW ls,.int B.gr] h=.ok (.bl true) h:=by
  intro h;rw[cX C.pQ rfl];have e:=Ff B'.toCoreA (k:=k+3) (h:=⟨h.n,h.n,h.os⟩) (w:=iW ls) (a:=B.gr) (b:=B.gr) (lo:=0) (hi:=1) (by unfold Kn iW;simp) (λws e=>by
   cases e;refine⟨by rw[bT];lia,λx hx=>?_⟩;obtain⟨y,_,rfl⟩:=iK.mp hx;unfold Kn;simp)
  rw[Jz hl bi]at e;simp[jr,exs,ev,e,dF]
 have w1:∀h:VH,run F (k+8) 22 [B.w,iW ls] h=.ok (.bl true) h:=by intro h;rw[cX C.wG rfl];have e:=Fi B' (k:=k) (h:=⟨h.n,h.n,h.os⟩) b;have i0:bR ⟨h.n,h.n,h.os⟩ B.w (.int 1)=aC (.int B.gr):=rfl;have e2:=w0 ⟨h.n,h.n,h.os⟩;simp[j5,exs,ev,e,i0,e2,dF]
 rw[cX C.wH rfl];simp[k9,exs,ev,w1,E4]
theorem ZE{k:Nat}{h:VH}{B:Bd}{ls:List Int}{f:Nat}(b:B.Ok)(hf:f<B.fd.length)(hl:(ls.length:Int)=B.gr)(bi:bY ls):run F (k+10) 73 [B.w,iW ls,.int f] h=.ok .aL h:=by
 rw[cX C.JC rfl];have e1:=ZD C B' (k:=k) (h:=⟨h.n,h.n,h.os⟩) b hl bi;have e2:=oR B'.toCoreA (k:=k+7) (h:=⟨h.n,h.n,h.os⟩) (w:=.int f) (lo:=0) (hi:=(B.fd.length:Int)-1) (by unfold Kn;simp);have e3:within (.int f) 0 ((B.fd.length:Int)-1)=true:=by simp only[within,bD,eE];lia
 rw[e3]at e2;have i3:bR ⟨h.n,h.n,h.os⟩ B.w (.int 3)=aC (.tup B.fd):=rfl;simp[rF,exs,ev,e1,i3,ig,fP,aS,eU,dU,e2,E4]
theorem JE{k:Nat}{h:VH}{B:Bd}{ls:List Int}{f:Nat}(b:B.Ok)(hf:f<B.fd.length)(hl:(ls.length:Int)=B.gr)(bi:bY ls):run F (k+11) 199 [B.w,iW ls,.int f] h=.ok (iR B ls f) h:=by rw[cX C.wI rfl];have e1:=ZE C B' (k:=k) (h:=⟨h.n,h.n,h.os⟩) b hf hl bi;have e2:=Ql C.toCoreY1 (k:=k+8) (h:=⟨h.n,h.n,h.os⟩) b hf hl bi;have e3:=Qg (B:=B) (ls:=ls) (f:=f) (n:=h.n);generalize iR B ls f=w at e2 e3 ⊢;simp[l8,exs,ev,e1,e2,dF,e3]
end
section
variable{F:Nat->Option Fn}(C:ja F)(B':iD F)
include C B'
theorem JF{k:Nat}{h:VH}{B:Bd}{ls:List Int}{f:Nat}(b:B.Ok)(hf:f<B.fd.length)(hl:(ls.length:Int)=B.gr)(bi:bY ls):run F (k+11) 199 [B.w,iW ls,.int f] h=.ok (iR B ls f) h:=JE C.z B' b hf hl bi
end
theorem FI:∃m,fuel=m+1000:=⟨999000,rfl⟩
theorem JG{nx:Nat->VH->Option (Option W)}{e:FE}{h:VH}{ws:List W}{x:W}{tl:En}{f:W->W}(hx:∀i,nx i h=aC ws[i]?)(he:∀w∈ws,e (aC x::aC w::tl) h=.ok (f w) h) :
 ∀(fu i:Nat)(b:Option W)(acc:List W),i<=ws.length->ws.length<fu+i->∃b',ir nx (bz (.one 1)) (λ_ h=>.ok (.bl true) h) e fu i (aC x::b::tl) h acc=.ok (aC x::b'::tl,((ws.drop i).map f).reverse++acc) h
 |0,i,b,acc,hi,hl=>by lia
 |fu+1,i,b,acc,hi,hl=>by
  cases q:ws[i]? with
  |none=>
   rw[yT (mE.mp q)];exact⟨b,by simp only[ir,hx,q];rfl⟩
  |some w=>
   obtain⟨hi,ee⟩:=jx.mp q;obtain⟨b',ih⟩:=JG hx he fu (i+1) (aC w) (f w::acc) hi (by lia);refine⟨b',?_⟩;simp only[ir,hx,q,bz,pZ,nM,aE,he w (mF q),ih];rw[xu hi,ee];simp
theorem JH{nx:Nat->VH->Option (Option W)}{jT:En->VH->List W->Res (En×List W)}{h:VH}{ws:List W}{tl:En}{g:W->List W}(hx:∀i,nx i h=aC ws[i]?)
 (hi:∀x∈ws,∀(b:Option W)(acc:List W),∃b',jT (aC x::b::tl) h acc=.ok (aC x::b'::tl,(g x).reverse++acc) h) :
 ∀(fu i:Nat)(a b:Option W)(acc:List W),i<=ws.length->ws.length<fu+i->jn nx (bz (.one 0)) (λ_ h=>.ok (.bl true) h) jT fu i (a::b::tl) h acc=.ok (acc.reverse++(ws.drop i).flatMap g) h
 |0,i,a,b,acc,hi,hl=>by lia
 |fu+1,i,a,b,acc,hi',hl=>by
  cases q:ws[i]? with
  |none=>
   rw[yT (mE.mp q)];simp only[jn,hx,q];simp
  |some w=>
   obtain⟨hil,ee⟩:=jx.mp q;obtain⟨b',e1⟩:=hi w (mF q) b acc;simp only[jn,hx,q,bz,nM,aE,e1];rw[JH hx hi fu (i+1) (aC w) b' ((g w).reverse++acc) hil (by lia),xu hil,ee];simp
theorem JI{nx:Nat->VH->Option (Option W)}{c e:FE}{h:VH}{ws:List W}{tl:En}{p:W->Bool}{f:W->W}(hx:∀i,nx i h=aC ws[i]?)(hc:∀w∈ws,c (aC w::tl) h=.ok (.bl (p w)) h)(he:∀w∈ws,e (aC w::tl) h=.ok (f w) h) :
 ∀(fu i:Nat)(a:Option W)(acc:List W),i<=ws.length->ws.length<fu+i->eV nx (bz (.one 0)) c e fu i (a::tl) h acc=.ok (acc.reverse++((ws.drop i).filter p).map f) h
 |0,i,a,acc,hi,hl=>by lia
 |fu+1,i,a,acc,hi,hl=>by
  cases q:ws[i]? with
  |none=>
   rw[yT (mE.mp q)];simp only[eV,hx,q];simp
  |some w=>
   obtain⟨hi,ee⟩:=jx.mp q;have hm:=mF q;simp only[eV,hx,q,bz,nM,hc w hm,aE];rw[xu hi,ee];cases z:p w with
   |true=>
    simp only[he w hm,aE];rw[JI hx hc he fu (i+1) (aC w) (f w::acc) hi (by lia)];simp[z]
   |false=>
    rw[JI hx hc he fu (i+1) (aC w) acc hi (by lia)];simp[z]
theorem Qm{h:VH}{n:Nat}:∀ls:List Int,aO (toD h (n+1)) (ls.map W.int)=aC (ls.map PyData.int)|[]=>rfl|x::r=>by simp only[cu,aO,Qm r];rfl
theorem nA{h:VH}{n:Nat}{ws:List W}:toD h (n+1) (.tup ws)=(aO (toD h n) ws).map .tuple:=rfl
theorem wJ{h:VH}{n:Nat}{i:Int}:toD h (n+1) (.int i)=aC (.int i):=rfl
theorem uz{h:VH}{n:Nat}{ls:List Int}:toD h (n+2) (iW ls)=aC (.tuple (ls.map .int)):=by unfold iW;rw[nA,Qm,iT]
theorem CA:∀ls ms:List Int,PyData.eqvAll (ls.map .int) (ms.map .int)=decide (ls=ms)
 |[],[]=>rfl
 |[],_::_=>rfl
 |_::_,[]=>rfl
 |x::r,y::s=>by
  simp only[cu,PyData.eqvAll,PyData.eqv,CA r s];by_cases a:x=y<;>by_cases b:r=s<;>simp[a,b]
theorem wK{h:VH}{w:W}{d:aB}(p:gA 24 w)(e:toD h 24 w=aC d):SeqAt.shaped d=true:=by obtain⟨d',h1,h2,h3⟩:=Fg h 24 w p;rw[e]at h1;cases h1;unfold SeqAt.shaped;rw[h2,pW,eE];lia
theorem yC{h:VH}{w w':W}{d d':aB}(p:gA 24 w)(p':gA 24 w')(e:toD h 24 w=aC d)(e':toD h 24 w'=aC d'):ck h w w'=aC (PyData.eqv d d'):=by unfold ck;rw[e,e'];simp[wK p e,wK p' e']
noncomputable abbrev Pr:=List Int×Nat
noncomputable def aT(p:Pr):W:=.tup [iW p.1,.int p.2]
noncomputable def gC(p:Pr):aB:=.tuple [.tuple (p.1.map .int),.int p.2]
theorem pR{h:VH}{p:Pr}:toD h 24 (aT p)=aC (gC p):=by unfold aT gC;rw[nA];simp only[aO,uz (n:=21),wJ (n:=22),iT]
theorem yD{p:Pr}:gA 24 (aT p)=true:=by unfold aT;rw[pP];simp only[kr,Cw (n:=21),uQ,nH,pW];rfl
theorem CB{p q:Pr}:PyData.eqv (gC p) (gC q)=decide (p=q):=by obtain⟨l,f⟩:=p;obtain⟨m,g⟩:=q;simp only[gC,PyData.eqv,PyData.eqvAll,CA,nH];by_cases a:l=m<;>by_cases b:f=g<;>simp[a,b,Int.ofNat_inj]
theorem Qn{h:VH}:∀ps:List Pr,aO (toD h 24) (ps.map aT)=aC (ps.map gC)|[]=>rfl|p::r=>by simp only[cu,aO,pR,Qn r]
noncomputable def bB:Nat->List (List Int)|0=>[[]]|n+1=>(bB n).flatMap λl=>[l++[0],l++[1]]
theorem wL:∀n,(bB n).length=2 ^ n
 |0=>rfl
 |n+1=>by
  simp only[bB,List.length_flatMap,dj,p9];rw[Nat.pow_succ,<-wL n];induction bB n with|nil=>rfl|cons x r ih=>simp only[cu,List.sum_cons,ih,dj];lia
theorem CD:∀n,∀l∈bB n,l.length=n/\bY l
 |0,l,h=>by
  simp only[bB,gh]at h;subst h;exact⟨rfl,by intro x hx;cases hx⟩
 |n+1,l,h=>by
  simp only[bB,Ds]at h;obtain⟨m,hm,h⟩:=h;obtain⟨h1,h2⟩:=CD n m hm;simp only[eG,xA,wZ]at h;rcases h with rfl|rfl
  refine⟨by simp[h1],λx hx=>?_⟩;rcases pB.mp hx with hx|hx
  exact h2 x hx;simp only[gh]at hx;exact .inl hx;refine⟨by simp[h1],λx hx=>?_⟩;rcases pB.mp hx with hx|hx
  exact h2 x hx;simp only[gh]at hx;exact .inr hx
theorem Qo:∀n (l:List Int),l.length=n->bY l->l∈bB n
 |0,l,h,_=>by
  have:l=[]:=Dl.mp h;subst this;simp[bB]
 |n+1,l,h,b=>by
  have hne:l≠[]:=by intro z;subst z;simp at h
  obtain⟨m,x,rfl⟩:∃m x,l=m++[x]:=⟨l.dropLast,l.getLast hne,(List.dropLast_concat_getLast hne).symm⟩
  simp only[fH,sN]at h;have hm:=Qo n m (by lia) λy hy=>b y (pY _ hy);have hx:=b x (gV _ (gh.mpr rfl));simp only[bB,Ds];refine⟨m,hm,?_⟩;rcases hx with rfl|rfl<;>simp
theorem Qp:∀n,(bB n).Nodup
 |0=>by simp[bB]
 |n+1=>by
  simp only[bB];rw[List.Nodup,Dp];refine⟨λl _=>by simp,(Qp n).imp λ{a b} hab=>?_⟩;intro x hx y hy z;subst z;simp only[eG,xA,wZ]at hx hy;rcases hx with rfl|rfl<;>rcases hy with hy|hy
  exact hab (Dt hy rfl).1;exact hab (Dt hy rfl).1;exact hab (Dt hy rfl).1;exact hab (Dt hy rfl).1
noncomputable def aU(g nf:Nat):List Pr:=(bB g).flatMap λl=>(List.range nf).map λf=>(l,f)
theorem JJ{g nf:Nat}{p:Pr}(h:p∈aU g nf):p.1.length=g/\bY p.1/\p.2<nf:=by simp only[aU,Ds,iK,vec]at h;obtain⟨l,hl,f,hf,rfl⟩:=h;exact⟨(CD g l hl).1,(CD g l hl).2,hf⟩
theorem ZF{g nf:Nat}{p:Pr}(h1:p.1.length=g)(h2:bY p.1)(h3:p.2<nf):p∈aU g nf:=by simp only[aU,Ds,iK,vec];exact⟨p.1,Qo g p.1 h1 h2,p.2,h3,rfl⟩
theorem Qq{g nf:Nat}:(aU g nf).Nodup:=by
 unfold aU;rw[List.Nodup,Dp];refine⟨λl _=>?_,(Qp g).imp λ{a b} hab=>?_⟩;rw[List.pairwise_map];exact List.nodup_range.imp λ{a b} hab z=>hab (by injection z);intro x hx y hy z;subst z;obtain⟨_,_,rfl⟩:=iK.mp hx;obtain⟨_,_,e⟩:=iK.mp hy;injection e with e1 _
 exact hab e1.symm
theorem CF{g nf:Nat}(hg:g<=8)(hn:nf<=4):(aU g nf).length<=1024:=by
 have h1:(aU g nf).length=(bB g).length*nf:=by
  unfold aU;rw[List.length_flatMap];simp only[bT,List.length_range];induction bB g with|nil=>simp|cons x r ih=>rw[cu,List.sum_cons,ih,dj,Nat.add_mul];lia
 rw[h1,wL];have:2 ^ g<=2 ^ 8:=Nat.pow_le_pow_right (by decide) hg;calc 2 ^ g*nf<=2 ^ 8*4:=Nat.mul_le_mul this hn
  _<=1024:=by decide
noncomputable def ltI:List Int->List Int->Bool|[],ys=>!ys.isEmpty|_::_,[]=>false|x::xs,y::ys=>if x=y then ltI xs ys else decide (x<y)
theorem JK:∀l:List Int,ltI l l=false|[]=>rfl|x::xs=>by unfold ltI;rw[if_pos rfl];exact JK xs
theorem Qs:∀{a b c:List Int},ltI a b=true->ltI b c=true->ltI a c=true
 |_,[],[],_,h=>by cases h
 |[],[],_::_,h,_=>by cases h
 |_::_,[],_::_,h,_=>by cases h
 |_,_::_,[],_,h=>by cases h
 |[],_::_,_::_,_,_=>rfl
 |x::xs,y::ys,z::zs,h1,h2=>by
  unfold ltI at h1 h2 ⊢;by_cases e1:x=y;subst e1;rw[if_pos rfl]at h1;by_cases e2:x=z;subst e2;rw[if_pos rfl]at h2 ⊢;exact Qs h1 h2;rw[if_neg e2]at h2 ⊢;exact h2;rw[if_neg e1]at h1;have h1:=jc h1;by_cases e2:y=z;subst e2;rw[if_neg e1];exact fW h1;rw[if_neg e2]at h2;have h2:=jc h2;rw[if_neg (by lia)];exact fW (by lia)
theorem Qt:∀{a b:List Int} {c d:List Int},a.length=b.length->ltI a b=true->ltI (a++c) (b++d)=true
 |[],[],_,_,_,h=>by cases h
 |x::xs,y::ys,c,d,hl,h=>by
  unfold ltI at h;rw[sP,sP];unfold ltI;by_cases e:x=y;rw[if_pos e]at h ⊢;exact Qt (Nat.succ.inj hl) h;rw[if_neg e]at h ⊢;exact h
theorem Qu:∀{a:List Int} {c d:List Int},ltI (a++c) (a++d)=ltI c d
 |[],_,_=>rfl
 |x::xs,c,d=>by
  show(if x=x then ltI (xs++c) (xs++d)else decide (x<x))=_;rw[if_pos rfl];exact Qu
noncomputable def lx{α β:Type}[DecidableEq α](l1:α->α->Bool)(l2:β->β->Bool)(x y:α×β):Bool:=if x.1=y.1 then l2 x.2 y.2 else l1 x.1 y.1
theorem Qv{α β:Type}[DecidableEq α]{l1:α->α->Bool}{l2:β->β->Bool}(h:∀b,l2 b b=false)(x:α×β):lx l1 l2 x x=false:=by unfold lx;rw[if_pos rfl];exact h _
theorem uA{α β:Type}[DecidableEq α]{l1:α->α->Bool}{l2:β->β->Bool}(i1:∀a,l1 a a=false)(t1:∀{a b c},l1 a b=true->l1 b c=true->l1 a c)(t2:∀{a b c},l2 a b=true->l2 b c=true->l2 a c=true)
 {x y z:α×β} (h1:lx l1 l2 x y) (h2:lx l1 l2 y z):lx l1 l2 x z=true:=by
 unfold lx at *;by_cases e1:x.1=y.1;rw[if_pos e1]at h1;by_cases e2:y.1=z.1;rw[if_pos e2]at h2;rw[if_pos (e1.trans e2)];exact t2 h1 h2;rw[if_neg e2]at h2;rw[if_neg (by rw[e1];exact e2),e1];exact h2;rw[if_neg e1]at h1;by_cases e2:y.1=z.1;rw[if_neg (by rw[<-e2];exact e1),<-e2];exact h1;rw[if_neg e2]at h2;have h3:=t1 h1 h2;rw[if_neg (λe=>by rw[e,i1]at h3;cases h3)];exact h3
noncomputable abbrev jb:Pr->Pr->Bool:=lx ltI (λa b=>decide (a<b))
theorem CG(p:Pr):jb p p=false:=Qv (λb=>by simp) p
theorem JL{p q r:Pr}(h1:jb p q)(h2:jb q r):jb p r=true:=uA JK Qs (λ{a b c} x y=>by simp only[eE]at *;lia) h1 h2
noncomputable abbrev kJ:=Pr×Pr
noncomputable abbrev kQ:kJ->kJ->Bool:=lx jb jb
theorem ZG(p:kJ):kQ p p=false:=Qv CG p
theorem ZH{p q r:kJ}(h1:kQ p q)(h2:kQ q r):kQ p r=true:=uA (l1:=jb) (l2:=jb) CG JL JL h1 h2
theorem Qw:∀n,(bB n).Pairwise λa b=>a.length=b.length/\ltI a b=true
 |0=>by simp[bB]
 |n+1=>by
  unfold bB;rw[Dp];refine⟨λl _=>?_,(Qw n).imp λ{a b}⟨hl,h⟩ x hx y hy=>?_⟩;rw[List.pairwise_cons];refine⟨λb hb=>?_,List.pairwise_singleton _ _⟩;rw[gh.mp hb];exact⟨by simp,by rw[Qu];rfl⟩;have ex:∃u:Int,x=a++[u]:=by rcases eG.mp hx with e|hx;exact⟨_,e⟩;exact⟨_,gh.mp hx⟩
  have ey:∃u:Int,y=b++[u]:=by rcases eG.mp hy with e|hy;exact⟨_,e⟩;exact⟨_,gh.mp hy⟩
  obtain⟨u,rfl⟩:=ex;obtain⟨v,rfl⟩:=ey;exact⟨by simp[hl],Qt hl h⟩
theorem ZJ{g nf:Nat}:(aU g nf).Pairwise λa b=>jb a b=true:=by
 unfold aU;rw[Dp];refine⟨λl _=>?_,(Qw g).imp λ{a b}⟨hl,h⟩ x hx y hy=>?_⟩;rw[List.pairwise_map];refine List.pairwise_lt_range.imp λ{a b} hab=>?_;show lx ltI _ (l,a) (l,b)=true;unfold lx;rw[if_pos rfl];exact fW hab;obtain⟨i,_,rfl⟩:=iK.mp hx;obtain⟨j,_,rfl⟩:=iK.mp hy;show lx ltI _ (a,i) (b,j)=true;unfold lx;rw[if_neg (λe=>by
  have e:a=b:=e;rw[e,JK]at h;cases h)]
 exact h
theorem Qx{n:Nat}:∀a b:List Int,kF (iI (n+1)) (a.map .int) (b.map .int)=aC (ltI a b)
 |[],[]=>rfl
 |[],_::_=>rfl
 |_::_,[]=>rfl
 |x::xs,y::ys=>by
  rw[cu,cu];unfold kF ltI;have e:PyData.eqv (.int x) (.int y)=decide (x=y):=by by_cases h:x=y<;>simp[PyData.eqv,h]
  rw[e];by_cases h:x=y;rw[fW h,if_pos rfl,if_pos h];exact Qx xs ys;rw[eF h,if_neg (by decide),if_neg h];rfl
theorem JM{n:Nat}{p q:Pr}:iI (n+3) (gC p) (gC q)=aC (jb p q):=by
 unfold gC;show kF (iI (n+2)) [.tuple (p.1.map .int),.int p.2] [.tuple (q.1.map .int),.int q.2]=_;unfold kF;have e:PyData.eqv (.tuple (p.1.map .int)) (.tuple (q.1.map .int))=decide (p.1=q.1):=by rw[PyData.eqv,CA]
 rw[e];unfold jb lx;by_cases h:p.1=q.1;rw[fW h,if_pos rfl,if_pos h];unfold kF;have e2:PyData.eqv (.int (p.2:Int)) (.int (q.2:Int))=decide ((p.2:Int)=q.2):=by by_cases h:(p.2:Int)=q.2<;>simp[PyData.eqv,h]
 rw[e2];by_cases h2:(p.2:Int)=q.2;rw[fW h2,if_pos rfl];show aC false=aC (decide (p.2<q.2));rw[eF (by lia)];rw[eF h2,if_neg (by decide)];show aC (decide ((p.2:Int)<q.2))=aC (decide (p.2<q.2));by_cases h3:p.2<q.2;rw[fW h3,fW (by lia)];rw[eF h3,eF (by lia)];rw[eF h,if_neg (by decide),if_neg h];exact Qx _ _
noncomputable def dR(c:kJ):W:=.tup [aT c.1,aT c.2]
noncomputable def jC(c:kJ):aB:=.tuple [gC c.1,gC c.2]
theorem Qy{n:Nat}{c d:kJ}:iI (n+4) (jC c) (jC d)=aC (kQ c d):=by unfold jC;show kF (iI (n+3)) [gC c.1,gC c.2] [gC d.1,gC d.2]=_;unfold kF;rw[CB];unfold kQ lx;by_cases h:c.1=d.1;rw[fW h,if_pos rfl,if_pos h];unfold kF;rw[CB];by_cases h2:c.2=d.2;rw[fW h2,if_pos rfl];show aC false=_;rw[h2,CG];rw[eF h2,if_neg (by decide)];exact JM;rw[eF h,if_neg (by decide),if_neg h];exact JM
theorem Qz{h:VH}{c:kJ}:toD h 24 (dR c)=aC (jC c):=by
 have e:∀p:Pr,toD h 23 (aT p)=aC (gC p):=λp=>by
  unfold aT gC;rw[nA];simp only[aO,uz (n:=20),wJ (n:=21),iT]
 unfold dR jC;rw[nA];simp only[aO,e,iT]
theorem ZK{c:kJ}:gA 24 (dR c)=true:=by
 have e:∀p:Pr,gA 23 (aT p)=true:=λp=>by
  unfold aT;rw[pP];simp only[kr,Cw (n:=20),uQ,nH,pW];rfl
 unfold dR;rw[pP];simp only[kr,e,uQ,nH]
theorem QA{h:VH}:∀cs:List kJ,aO (toD h 24) (cs.map dR)=aC (cs.map jC)|[]=>rfl|c::r=>by simp only[cu,aO,Qz,QA r]
theorem FJ(bt:Nat->Nat->Bool)(wM:∀i,bt i i=false)(tr:∀{i j l},bt i j=true->bt j l=true->bt i l):∀(k i:Nat),i<=k->argBest bt k<=k/\bt i (argBest bt k)=false
 |0,i,hi=>by
  obtain rfl:i=0:=by lia
  exact⟨aW _,wM 0⟩
 |k+1,i,hi=>by
  unfold argBest;cases z:bt (k+1) (argBest bt k)with
  |true=>
   rw[if_pos rfl];refine⟨aW _,?_⟩;by_cases e:i=k+1;rw[e];exact wM _;obtain⟨_,h2⟩:=FJ bt wM tr k i (by lia);cases z2:bt i (k+1)with|false=>rfl|true=>rw[tr z2 z]at h2;cases h2
  |false=>
   rw[if_neg (by decide)];obtain⟨h1,h2⟩:=FJ bt wM tr k (min i k) (by lia);refine⟨by lia,?_⟩;by_cases e:i=k+1;rw[e];exact z;rw[show min i k=i by lia]at h2;exact h2
theorem ZL{cs:List kJ}(hc:cs≠[]):∃c,cs[fN (cs.map jC)]?=aC c/\c∈cs/\∀d∈cs,kQ d c=false:=by
 have hl:0<cs.length:=List.length_pos_iff.mpr hc;let bt:Nat->Nat->Bool:=λi j=>iI 24 ((cs.map jC).getD i .none) ((cs.map jC).getD j .none)==aC true;have hb:∀i j,i<cs.length->j<cs.length->∃x y,cs[i]?=aC x/\cs[j]?=aC y/\bt i j=kQ x y:=λi j hi hj=>by
  refine⟨_,_,gU hi,gU hj,?_⟩;show(iI 24 ((cs.map jC).getD i .none) ((cs.map jC).getD j .none)==aC true)=_;rw[sJ,sJ,jf,jf,gU hi,gU hj];show(iI 24 (jC _) (jC _)==aC true)=_;rw[Qy (n:=20)];cases kQ cs[i] cs[j]<;>rfl
 have hn:∀i j,(cs.length<=i\/cs.length<=j)->bt i j=false:=λi j h=>by
  show(iI 24 ((cs.map jC).getD i .none) ((cs.map jC).getD j .none)==aC true)=_;rw[sJ,sJ,jf,jf];rcases h with h|h
  rw[xw h];rfl;rw[xw h];cases cs[i]?<;>rfl
 have wM:∀i,bt i i=false:=λi=>by
  by_cases hi:i<cs.length;obtain⟨x,y,e1,e2,e3⟩:=hb i i hi hi;rw[e1]at e2;cases e2;rw[e3,ZG];exact hn i i (.inl (by lia))
 have tr:∀{i j l},bt i j=true->bt j l=true->bt i l=true:=λ{i j l} h1 h2=>by
  by_cases hi:i<cs.length;by_cases hj:j<cs.length;by_cases hl:l<cs.length;obtain⟨x,y,e1,e2,e3⟩:=hb i j hi hj;obtain⟨y',z,f1,f2,f3⟩:=hb j l hj hl;obtain⟨x',z',g1,g2,g3⟩:=hb i l hi hl;rw[e2]at f1;cases f1;rw[e1]at g1;cases g1;rw[f2]at g2;cases g2;rw[g3];exact ZH (by rw[<-e3];exact h1) (by rw[<-f3];exact h2);rw[hn j l (.inr (by lia))]at h2;cases h2;rw[hn i j (.inr (by lia))]at h1;cases h1;rw[hn i j (.inl (by lia))]at h1;cases h1
 have e:fN (cs.map jC)=argBest bt (cs.length-1):=by unfold fN;rw[bT]
 rw[e];have h0:=(FJ bt wM @tr (cs.length-1) 0 (jw _)).1;have hlt:argBest bt (cs.length-1)<cs.length:=by lia
 refine⟨_,gU hlt,yX hlt,λd hd=>?_⟩;obtain⟨i,hi,rfl⟩:=List.getElem_of_mem hd;have h1:=(FJ bt wM @tr (cs.length-1) i (by lia)).2;obtain⟨x,y,e1,e2,e3⟩:=hb i _ hi hlt;rw[gU hi]at e1;cases e1;rw[gU hlt]at e2;cases e2;rw[<-e3];exact h1
theorem ZM{cs:List kJ}:jS (cs.map jC)=true:=by unfold jS;rw[kN];intro d hd;obtain⟨c,_,rfl⟩:=iK.mp hd;rw[bD];refine⟨wK (h:=⟨0,0,[]⟩) ZK Qz,?_⟩;rw[kN];intro e he;obtain⟨c',_,rfl⟩:=iK.mp he;rw[Qy (n:=20)];rfl
structure lq(F:Nat->Option Fn):Prop extends CoreD F where
 ZN:F 23=aC we
 JN:F 103=aC j6
 JO:F 104=aC lY
 JP:F 129=aC oO
noncomputable def sA:S:=(.ite (.and (.cmp .eq (.var 2) (.cst (.int (1)))) (.cmp .ne (.var 5) (.cst (.str aI)))) (.seq (.ret (.cst (.str aI))) .skip) .skip)
noncomputable def sC:S:=(.seq (.ite kh (.seq (.ret se) .skip) .skip) (.seq sA (.seq (.ret (.var 5)) .skip)))
section
variable{F:Nat->Option Fn}(C:lq F)
include C
theorem ZO{k:Nat}{h:VH}{d c b:Nat}{co wd g:Int}(D:Dk h d c b)(hb:b+5<1000000000)(h0:0<=co)(h1:co<wd)(g0:0<=g)(g1:g<=8) :
 ∃w h',run F (k+4) 103 [.ref d,.int co,.int wd,.int g] h=.ok w h'/\eB w co wd g=true/\Dk h' d c (b+5)/\bF h h' d c:=by
 rw[cX C.JN rfl];have D0:Dk ⟨h.n,h.n,h.os⟩ d c b:=D.lo;have tail:∀(w5:W)(dN:Int)(h3:VH),Raw g w5->∃w h4,exs (run F (k+3)) sC
  [aC (.ref d),aC (.int co),aC (.int wd),aC (.int g),aC (.int dN),aC w5] h3=.ok (.rt w) h4/\eB w co wd g=true/\(h4=h3\/∃o,h4=h3.new o):=by
  intro w5 dN h3 R;have two:qK 2=true:=Fj (by lia) (by lia);have i0:dH [W.str cM,.str cD,.str aI] 0=aC (.str cM):=rfl;have i1:dH [W.str cM,.str cD,.str aI] 1=aC (.str cD):=rfl;have i2:dH [W.str cM,.str cD,.str aI] 2=aC (.str aI):=rfl;have oW:∀(b1 b2:Bool),kU h3 w5 (.tup [.str aI,.str cM])=aC b1->kU h3 w5 (.tup [.str aI,.str cD])=aC b2->(co≠0\/b1=true)->(co≠wd-1\/b2=true)->eB w5 co wd g=true->∃w h4,exs (run F (k+3)) sC
   [aC (.ref d),aC (.int co),aC (.int wd),aC (.int g),aC (.int dN),aC w5] h3=.ok (.rt w) h4/\eB w co wd g=true/\(h4=h3\/∃o,h4=h3.new o):=by
   intro b1 b2 n1 n2 o1 o2 hm;have cond:ev (run F (k+3)) kh [aC (.ref d),aC (.int co),aC (.int wd),aC (.int g),aC (.int dN),aC w5] h3=.ok (.bl false) h3:=by by_cases c0:co=0<;>by_cases c1:co=wd-1<;>simp[c0,c1]at o1 o2<;>simp_all [kh,ev,aV,i8,eU,dU]
   obtain⟨bq,hq⟩:∃bq,ck h3 w5 (.str aI)=aC bq:=by
    cases R with|dot=>exact⟨_,oS (by decide +kernel) (by decide +kernel)⟩|lt=>exact⟨_,oS (by decide +kernel) (by decide +kernel)⟩|gt=>exact⟨_,oS (by decide +kernel) (by decide +kernel)⟩|x=>exact⟨_,oS (by decide +kernel) (by decide +kernel)⟩|rk a0 a1 b0 b1=>exact⟨_,oS rfl (by decide +kernel)⟩
   by_cases w1:wd=1;cases bq with|true=>exact⟨w5,h3,by simp only[sC,exs,cond,aE,sA];simp[ev,aV,i8,w1,hq],hm,.inl rfl⟩|false=>exact⟨.str aI,h3,by simp only[sC,exs,cond,aE,sA];simp[ev,aV,i8,w1,hq],Jh,.inl rfl⟩
   exact⟨w5,h3,by simp only[sC,exs,cond,aE,sA];simp[ev,aV,i8,w1],hm,.inl rfl⟩
  have sD:∀(b1 b2:Bool),kU h3 w5 (.tup [.str aI,.str cM])=aC b1->kU h3 w5 (.tup [.str aI,.str cD])=aC b2->((co=0/\b1=false)\/(co=wd-1/\b2=false))->∃w h4,exs (run F (k+3)) sC
   [aC (.ref d),aC (.int co),aC (.int wd),aC (.int g),aC (.int dN),aC w5] h3=.ok (.rt w) h4/\eB w co wd g=true/\(h4=h3\/∃o,h4=h3.new o):=by
   intro b1 b2 n1 n2 o;have cond:ev (run F (k+3)) kh [aC (.ref d),aC (.int co),aC (.int wd),aC (.int g),aC (.int dN),aC w5] h3=.ok (.bl true) h3:=by by_cases c0:co=0<;>by_cases c1:co=wd-1<;>cases b1<;>cases b2<;>simp_all [kh,ev,aV,i8,eU,dU]
   have r1:∀(x:Str)(j:Int),(if(2:Int)< (if 0<co then 1 else 0)+2* (if wd=1 then 1 else 0)then 2 else(if 0<co then 1 else 0)+2* (if wd=1 then 1 else 0))=j->dH [W.str cM,.str cD,.str aI] j=aC (.str x)->ev (run F (k+3)) se [aC (.ref d),aC (.int co),aC (.int wd),aC (.int g),aC (.int dN),aC w5] h3=.ok (.str x) (h3.new (.lst [W.str cM,.str cD,.str aI])):=by intro x j hj ha;have hg:=iJ (h:=h3) (o:=.lst [W.str cM,.str cD,.str aI]);by_cases c0:0<co<;>by_cases c1:wd=1<;>simp[c0,c1]at hj<;>subst hj<;>simp[se,ev,aV,fC,i8,eU,dU,two,ig,kW,kY,bR,hg,ha,c0,c1]
   have fin:∀x:Str,ev (run F (k+3)) se [aC (.ref d),aC (.int co),aC (.int wd),aC (.int g),aC (.int dN),aC w5] h3=.ok (.str x) (h3.new (.lst [W.str cM,.str cD,.str aI]))->eB (.str x) co wd g=true->
    ∃w h4,exs (run F (k+3)) sC [aC (.ref d),aC (.int co),aC (.int wd),aC (.int g),aC (.int dN),aC w5] h3=.ok (.rt w) h4/\eB w co wd g=true/\(h4=h3\/∃o,h4=h3.new o):=
    λx e hm=>⟨.str x,h3.new (.lst [W.str cM,.str cD,.str aI]),by simp only[sC,exs,cond,aE,e],hm,.inr ⟨_,rfl⟩⟩
   by_cases w1:wd=1;exact fin aI (r1 aI 2 (by rw[if_neg (by lia:¬0<co)];simp[w1]) i2) Jh;by_cases c0:co=0;exact fin cM (r1 cM 0 (by rw[if_neg (by lia:¬0<co)];simp[w1]) i0) (P5 (by lia));exact fin cD (r1 cD 1 (by rw[if_pos (by lia:0<co)];simp[w1]) i1) (P4 (by lia))
  have d1:(aI==cD)=false:=by decide +kernel
  have d2:(cM==cD)=false:=by decide +kernel
  have d3:(aI==cM)=false:=by decide +kernel
  have d4:(cD==cM)=false:=by decide +kernel
  have d5:(aI==sX)=false:=by decide +kernel
  have d6:(cM==sX)=false:=by decide +kernel
  have d7:(cD==sX)=false:=by decide +kernel
  have k1:PyData.strOk aI=true:=by decide +kernel
  have k2:PyData.strOk cD=true:=by decide +kernel
  have k3:PyData.strOk cM=true:=by decide +kernel
  have k4:PyData.strOk sX=true:=by decide +kernel
  cases R with
  |dot=>exact oW true true (by rw[mz k1 k1 k3];simp) (by rw[mz k1 k1 k2];simp) (.inr rfl) (.inr rfl) Jh
  |lt=>
   by_cases c0:co=0;exact sD false true (by rw[mz k2 k1 k3,d1,d2];rfl) (by rw[mz k2 k1 k2];simp) (.inl ⟨c0,rfl⟩);exact oW false true (by rw[mz k2 k1 k3,d1,d2];rfl) (by rw[mz k2 k1 k2];simp) (.inl c0) (.inr rfl) (P4 (by lia))
  |gt=>
   by_cases c0:co=wd-1;exact sD true false (by rw[mz k3 k1 k3];simp) (by rw[mz k3 k1 k2,d3,d4];rfl) (.inr ⟨c0,rfl⟩);exact oW true false (by rw[mz k3 k1 k3];simp) (by rw[mz k3 k1 k2,d3,d4];rfl) (.inr rfl) (.inl c0) (P5 (by lia))
  |x=>
   by_cases c0:co=0\/co=wd-1;exact sD false false (by rw[mz k4 k1 k3,d5,d6];rfl) (by rw[mz k4 k1 k2,d5,d7];rfl) (c0.elim (λz=>.inl ⟨z,rfl⟩) λz=>.inr ⟨z,rfl⟩);exact oW false false (by rw[mz k4 k1 k3,d5,d6];rfl) (by rw[mz k4 k1 k2,d5,d7];rfl) (.inl (by lia)) (.inl (by lia)) (Cf (by lia) (by lia))
  |rk a0 a1 b0 b1=>
   by_cases c0:co=0\/co=wd-1;exact sD false false (Fo k1 k3) (Fo k1 k2) (c0.elim (λz=>.inl ⟨z,rfl⟩) λz=>.inr ⟨z,rfl⟩);exact oW false false (Fo k1 k3) (Fo k1 k2) (.inl (by lia)) (.inl (by lia)) (Zi a0 a1 b0 b1 (by lia) (by lia))
 obtain⟨dN,i9,e1,l0,l1,D1,K1⟩:=take C.toCoreD (k:=k) (m:=10) D0 (by lia) (by lia) (by lia);have done:∀(w5:W)(h3:VH),Raw g w5->Dk h3 d c (b+5)->bF ⟨h.n,h.n,h.os⟩ h3 d c->exs (run F (k+3)) j6.body [aC (.ref d),aC (.int co),aC (.int wd),aC (.int g),aD,aD] ⟨h.n,h.n,h.os⟩=exs (run F (k+3)) sC [aC (.ref d),aC (.int co),aC (.int wd),aC (.int g),aC (.int dN),aC w5] h3->
  ∃w h',fin h (exs (run F (k+3)) j6.body [aC (.ref d),aC (.int co),aC (.int wd),aC (.int g),aD,aD] ⟨h.n,h.n,h.os⟩)=.ok w h'/\eB w co wd g=true/\Dk h' d c (b+5)/\bF h h' d c:=by
  intro w5 h3 R D3 K3 e;obtain⟨w,h4,e4,hm,hh⟩:=tail w5 dN h3 R;have D4:Dk h4 d c (b+5)/\bF ⟨h.n,h.n,h.os⟩ h4 d c:=by rcases hh with rfl|⟨o,rfl⟩;exact⟨D3,K3⟩;exact⟨D3.new,K3.new⟩
  obtain⟨h5,e5,D5,K5⟩:=yt (cl:=run F (k+3)) (fl:=.nx []) (e.trans e4) (.inr ⟨b,D⟩) D4.1 D4.2;exact⟨w,h5,e5,hm,D5,K5⟩
 have QB:=iJ (h:=i9) (o:=.lst [W.str aI,.str cD,.str cM,.str sX,.str aI,.str aI]);have two:∀(x:Str)(j:Int),(if(5:Int)<dN then 5 else dN)=j->dH [W.str aI,.str cD,.str cM,.str sX,.str aI,.str aI] j=aC (.str x)->∀rest:S,exs (run F (k+3)) (.seq (.set 4 (.call 5 (.cons (.var 0) (.cons (.cst (.int (10))) .nil)))) (.seq (.set 5 (.idx (.lst (.cons (.cst (.str aI)) (.cons (.cst (.str cD)) (.cons (.cst (.str cM)) (.cons (.cst (.str sX)) (.cons (.cst (.str aI)) (.cons (.cst (.str aI)) .nil))))))) (.bi .min (.cons (.var 4) (.cons (.cst (.int (5))) .nil))))) rest)) [aC (.ref d),aC (.int co),aC (.int wd),aC (.int g),aD,aD] ⟨h.n,h.n,h.os⟩ =
  exs (run F (k+3)) rest [aC (.ref d),aC (.int co),aC (.int wd),aC (.int g),aC (.int dN),aC (.str x)] (i9.new (.lst [W.str aI,.str cD,.str cM,.str sX,.str aI,.str aI])):=by
  intro x j hj ha rest;refine(br (ρ':=[aC (.ref d),aC (.int co),aC (.int wd),aC (.int g),aC (.int dN),aD]) (h':=i9) (by simp[exs,ev,e1])).trans ?_;refine br ?_;by_cases q:(5:Int)<dN;rw[if_pos q]at hj;subst hj;simp[exs,ev,ig,kY,q,bR,QB,ha];rw[if_neg q]at hj;subst hj;simp[exs,ev,ig,kY,q,bR,QB,ha]
 have low:∀(x:Str),dN<=3->dH [W.str aI,.str cD,.str cM,.str sX,.str aI,.str aI] dN=aC (.str x)->Raw g (.str x)->_:=λx hl ha R=>done (.str x) (i9.new (.lst [W.str aI,.str cD,.str cM,.str sX,.str aI,.str aI])) R (D1.new.mono (by lia)) K1.new (by
  refine(two x dN (if_neg (by lia)) ha _).trans ?_;have n1:¬(4<dN):=by lia
  have n2:¬(dN=4):=by lia
  refine(br (ρ':=[aC (.ref d),aC (.int co),aC (.int wd),aC (.int g),aC (.int dN),aC (.str x)]) (h':=i9.new (.lst [W.str aI,.str cD,.str cM,.str sX,.str aI,.str aI])) (by simp[exs,ev,aV,fC,n1])).trans ?_;refine(br (ρ':=[aC (.ref d),aC (.int co),aC (.int wd),aC (.int g),aC (.int dN),aC (.str x)]) (h':=i9.new (.lst [W.str aI,.str cD,.str cM,.str sX,.str aI,.str aI])) (by simp[exs,ev,aV,i8,n2])).trans ?_;rfl)
 by_cases l4:dN<=3;have:dN=0\/dN=1\/dN=2\/dN=3:=by lia
 rcases this with z|z|z|z;exact low aI l4 (by rw[z];rfl) .dot;exact low cD l4 (by rw[z];rfl) .lt;exact low cM l4 (by rw[z];rfl) .gt;exact low sX l4 (by rw[z];rfl) .x;by_cases l5:dN=4
 ·-- a blind place,or nothing
  obtain⟨r4,h4,e4,_,_,D4,K4⟩:=take C.toCoreD (k:=k) (m:=4) (D1.new (o:=.lst [W.str aI,.str cD,.str cM,.str sX,.str aI,.str aI])) (by lia) (by lia) (by lia);have n1:¬(4<dN):=by lia
  have s3:∀rest:S,exs (run F (k+3)) (.seq (.ite (.and (.cmp .gt (.var 4) (.cst (.int (4)))) (.cmp .gt (.var 3) (.cst (.int (0))))) (.seq (.set 5 (.tup (.cons (.call 5 (.cons (.var 0) (.cons (.var 3) .nil))) (.cons (.call 5 (.cons (.var 0) (.cons (.cst (.int (2))) .nil))) .nil)))) .skip) .skip) rest) [aC (.ref d),aC (.int co),aC (.int wd),aC (.int g),aC (.int dN),aC (.str aI)] (i9.new (.lst [W.str aI,.str cD,.str cM,.str sX,.str aI,.str aI]))=exs (run F (k+3)) rest [aC (.ref d),aC (.int co),aC (.int wd),aC (.int g),aC (.int dN),aC (.str aI)] (i9.new (.lst [W.str aI,.str cD,.str cM,.str sX,.str aI,.str aI])):=λrest=>br (by simp[exs,ev,aV,fC,n1]);by_cases r0:r4=0;obtain⟨h5,e5,D5,K5⟩:=yt (cl:=run F (k+3)) (fl:=.nx []) (w:=.str sS) (body:=j6.body) (ρ:=[aC (.ref d),aC (.int co),aC (.int wd),aC (.int g),aD,aD]) (F:=F) (k:=k+3) (h:=h) (h':=h4) (b:=b+5) ((two aI 4 (by rw[l5];rfl) rfl _).trans ((s3 _).trans (kH (by simp[exs,ev,aV,i8,l5,e4,r0])))) (.inr ⟨b,D⟩) (D4.mono (by lia)) (K1.new.trans K4);exact⟨_,h5,e5,Ce,D5,K5⟩;exact done (.str aI) h4 .dot (D4.mono (by lia)) (K1.new.trans K4) ((two aI 4 (by rw[l5];rfl) rfl _).trans ((s3 _).trans (br (by simp[exs,ev,aV,i8,l5,e4,r0]))))
 ·-- a mq,if there are groups
  have n1:4<dN:=by lia
  have n2:¬(dN=4):=by lia
  have ha:∃j:Int,(if(5:Int)<dN then 5 else dN)=j/\dH [W.str aI,.str cD,.str cM,.str sX,.str aI,.str aI] j=aC (.str aI):=⟨5,by split<;>lia,rfl⟩
  obtain⟨j,hj,ha⟩:=ha;by_cases hg:0<g;obtain⟨ra,h4,e4,a0,a1,D4,K4⟩:=take C.toCoreD (k:=k) (m:=g) (D1.new (o:=.lst [W.str aI,.str cD,.str cM,.str sX,.str aI,.str aI])) (by lia) hg (by lia);obtain⟨rb,h5,e5,b0,b1,D5,K5⟩:=take C.toCoreD (k:=k) (m:=2) D4 (by lia) (by lia) (by lia);exact done (.tup [.int ra,.int rb]) h5 (.rk a0 a1 b0 b1) (D5.mono (by lia)) ((K1.new.trans K4).trans K5) ((two aI j hj ha _).trans ((br (ρ':=[aC (.ref d),aC (.int co),aC (.int wd),aC (.int g),aC (.int dN),aC (.tup [.int ra,.int rb])]) (h':=h5) (by simp[exs,ev,aV,fC,n1,hg,e4,e5])).trans (br (by simp[exs,ev,aV,i8,n2]))));exact done (.str aI) (i9.new (.lst [W.str aI,.str cD,.str cM,.str sX,.str aI,.str aI])) .dot (D1.new.mono (by lia)) K1.new ((two aI j hj ha _).trans ((br (ρ':=[aC (.ref d),aC (.int co),aC (.int wd),aC (.int g),aC (.int dN),aC (.str aI)]) (h':=i9.new (.lst [W.str aI,.str cD,.str cM,.str sX,.str aI,.str aI])) (by simp[exs,ev,aV,fC,n1,hg])).trans (br (by simp[exs,ev,aV,i8,n2]))))
theorem QC{k:Nat}{h:VH}{d c b:Nat}{wd:Nat}{g:Int}(D:Dk h d c b)(hb:b+200<1000000000)(h1:wd<=40)(g0:0<=g)(g1:g<=8) :
 ∃ws h',run F (k+5) 104 [.ref d,.int wd,.int g] h=.ok (.tup ws) h'/\ws.length=wd/\bX wd g 0 ws/\Dk h' d c (b+200)/\bF h h' d c:=by
 rw[cX C.JO rfl];have D0:Dk ⟨h.n,h.n,h.os⟩ d c b:=D.lo;obtain⟨ws,h2,e2,p2,l2,D2,K2⟩:=yu (cl:=run F (k+4)) (P:=λi w=>eB w i wd g) (e:=EX) (tl:=[aC (.ref d),aC (.int g),aC (.int wd)]) (m:=5) (lim:=wd) (λi h b h0 hl D hb=>by
  obtain⟨w,h',e,a1,a2,a3⟩:=ZO C (k:=k) (co:=i) (wd:=wd) (g:=g) D hb h0 hl g0 g1;exact⟨w,h',by simp[EX,ev,e],a1,a2,a3⟩) wd 0 aD ⟨h.n,h.n,h.os⟩ b (by lia) (by lia) D0 (by lia)
 have e3:=Fp (cl:=run F (k+4)) (a:=.cons (.var 1) .nil) (ρ:=[aC (.ref d),aC (.int wd),aC (.int g)]) (h:=⟨h.n,h.n,h.os⟩) (ow:=1) (ix:=[0,2,1]) (e:=EX) (by simp[ev]) (by lia) e2 (by lia);obtain⟨h5,e5,D5,K5⟩:=yt (cl:=run F (k+4)) (fl:=.nx []) (w:=.tup ws) (body:=lY.body) (ρ:=[aC (.ref d),aC (.int wd),aC (.int g)]) (F:=F) (k:=k+4) (h:=h) (h':=h2.new (.lst ws)) (by simp only[lY,exs,e3,aE]) (.inr ⟨b,D⟩) (D2.new.mono (show _<=b+200 by lia)) K2.new;exact⟨ws,h5,e5,l2,P8 p2,D5,K5⟩
theorem QD{k:Nat}{h:VH}{d c b:Nat}{nf:Int}(D:Dk h d c b)(hb:b+5<1000000000)(n0:1<=nf)(n1:nf<=4) :
 ∃w h',run F (k+4) 23 [.ref d,.int nf] h=.ok w h'/\door w nf=true/\Dk h' d c (b+5)/\bF h h' d c:=by
 rw[cX C.ZN rfl];have D0:Dk ⟨h.n,h.n,h.os⟩ d c b:=D.lo;obtain⟨r1,h1,e1,a1,b1,D1,K1⟩:=take C.toCoreD (k:=k) (m:=3) D0 (by lia) (by lia) (by lia);obtain⟨r2,h2,e2,a2,b2,D2,K2⟩:=take C.toCoreD (k:=k) (m:=100) D1 (by lia) (by lia) (by lia);have hg:=iJ (h:=h2) (o:=.lst [.int r1,.int r2]);obtain⟨r3,h3,e3,a3,b3,D3,K3⟩:=take C.toCoreD (k:=k) (m:=4) (D2.new (o:=.lst [.int r1,.int r2])) (by lia) (by lia) (by lia);obtain⟨r4,h4,e4,a4,b4,D4,K4⟩:=take C.toCoreD (k:=k) (m:=nf) D3 (by lia) (by lia) (by lia);obtain⟨r5,h5,e5,a5,b5,D5,K5⟩:=take C.toCoreD (k:=k) (m:=8) D4 (by lia) (by lia) (by lia);obtain⟨_,ns,cells,p,q,gd,gc,_⟩:=D2;have QE:h3.get h2.n=aC (.lst [.int r1,.int r2]):=K3.get _ _ (nk (cy gd)) (nk (cy gc)) hg;have KK:bF ⟨h.n,h.n,h.os⟩ h5 d c:=((((K1.trans K2).new (o:=.lst [.int r1,.int r2])).trans K3).trans K4).trans K5;have nm:∃x:Int,0<=x/\x<=99/\exs (run F (k+3)) (.set 2 (.idx (.lst (.cons (.call 5 (.cons (.var 0) (.cons (.cst (.int (3))) .nil))) (.cons (.call 5 (.cons (.var 0) (.cons (.cst (.int (100))) .nil))) .nil))) (.bi .int (.cons (.cmp .eq (.call 5 (.cons (.var 0) (.cons (.cst (.int (4))) .nil))) (.cst (.int (0)))) .nil)))) [aC (.ref d),aC (.int nf),aD,aD] ⟨h.n,h.n,h.os⟩=.ok (.nx [aC (.ref d),aC (.int nf),aC (.int x),aD]) h3:=by have i0:dH [W.int r1,.int r2] 0=aC (.int r1):=rfl;have i1:dH [W.int r1,.int r2] 1=aC (.int r2):=rfl;by_cases z:r3=0;exact⟨r2,a2,by lia,by simp[exs,ev,e1,e2,e3,aV,i8,z,ig,kW,bR,QE,i1]⟩;exact⟨r1,a1,by lia,by simp[exs,ev,e1,e2,e3,aV,i8,z,ig,kW,bR,QE,i0]⟩
 obtain⟨x,x0,x1,ex⟩:=nm;have e6:exs (run F (k+3)) (.set 3 (.call 5 (.cons (.var 0) (.cons (.var 1) .nil)))) [aC (.ref d),aC (.int nf),aC (.int x),aD] h3=.ok (.nx [aC (.ref d),aC (.int nf),aC (.int x),aC (.int r4)]) h4:=by simp[exs,ev,e4]
 have hd:∀w:W,w=.tup [.int x,.aL]\/w=.tup [.int x,.int r4]->door w nf=true:=by
  intro w hw;rcases hw with rfl|rfl
  simp[door,within,yp,dP,x0,x1];simp only[door,within,yp,dP,bD,eE,Bool.false_or];lia
 have body:∃w,exs (run F (k+3)) we.body [aC (.ref d),aC (.int nf),aD,aD] ⟨h.n,h.n,h.os⟩=.ok (.rt w) h5/\door w nf=true:=by by_cases z:r5=0;exact⟨.tup [.int x,.aL],(br ex).trans ((br e6).trans (by simp[exs,ev,e5,aV,i8,z])),hd _ (.inl rfl)⟩;exact⟨.tup [.int x,.int r4],(br ex).trans ((br e6).trans (by simp[exs,ev,e5,aV,i8,z])),hd _ (.inr rfl)⟩
 obtain⟨w,eb,hw⟩:=body;obtain⟨h6,e7,D6,K6⟩:=yt (cl:=run F (k+3)) (fl:=.nx []) eb (.inr ⟨b,D⟩) (D5.mono (show _<=b+5 by lia)) KK;exact⟨w,h6,e7,hw,D6,K6⟩
theorem ZP{k:Nat}{d c wd n b:Nat}{g:Int}{h:VH}{x:Option W}(D:Dk h d c b)(hb:b+200*n<1000000000)(h1:wd<=40)(g0:0<=g)(g1:g<=8) :
 ∃(rs:List (List W)) (h':VH),kg (bz (.one 0)) (λ_ h=>.ok (.bl true) h) (ev (run F (k+5)) (.call 104 (.cons (.var 1) (.cons (.var 3) (.cons (.var 2) .nil))))) (gO 0 n) [x,aC (.ref d),aC (.int g),aC (.int wd)] h=.ok (rs.map .tup) h'/\rs.length=n/\(∀r∈rs,(r.length:Int)=wd/\bX wd g 0 r)/\Dk h' d c (b+200*n)/\bF h h' d c:=by
 obtain⟨ws,h',e,p,l,D',K'⟩:=yu (cl:=run F (k+5)) (P:=λ_ w=>∃r,w=.tup r/\(r.length:Int)=wd/\bX wd g 0 r) (e:=.call 104 (.cons (.var 1) (.cons (.var 3) (.cons (.var 2) .nil)))) (tl:=[aC (.ref d),aC (.int g),aC (.int wd)]) (m:=200) (lim:=n) (λi h b _ _ D hb=>by
  obtain⟨ws,h',e,a1,a2,a3,a4⟩:=QC C (k:=k) (wd:=wd) (g:=g) D hb h1 g0 g1;exact⟨.tup ws,h',by simp[ev,e],⟨ws,rfl,by lia,a2⟩,a3,a4⟩) n 0 x h b (by lia) (by lia) D hb
 replace p:=Cg p;have hr:∃rs:List (List W),ws=rs.map .tup/\∀r∈rs,(r.length:Int)=wd/\bX wd g 0 r:=by
  clear e l;induction ws with
  |nil=>exact⟨[],rfl,λr hr=>by cases hr⟩
  |cons w ws ih=>
   obtain⟨rs,e1,e2⟩:=ih λw hw=>p w (ff _ hw);obtain⟨r,e3,e4⟩:=p w fY
   refine⟨r::rs,by rw[e3,e1];rfl,λq hq=>?_⟩;rcases eG.mp hq with rfl|hq
   exact e4;exact e2 q hq
 obtain⟨rs,rfl,hrs⟩:=hr;exact⟨rs,h',e,by rw[<-l,bT],hrs,D',K'⟩
theorem ZQ{k:Nat}{d c wd n b:Nat}{h:VH}{x:Option W}(D:Dk h d c b)(hb:b+1*n<1000000000)(h0:1<=wd)(h1:wd<=40) :
 ∃(fs:List W) (h':VH),kg (bz (.one 0)) (λ_ h=>.ok (.bl true) h) (ev (run F (k+3)) (.call 5 (.cons (.var 1) (.cons (.var 2) .nil)))) (gO 0 n) [x,aC (.ref d),aC (.int wd)] h=.ok fs h'/\fs.length=n/\(∀f∈fs,within f 0 ((wd:Int)-1)=true)/\Dk h' d c (b+1*n)/\bF h h' d c:=by
 obtain⟨ws,h',e,p,l,D',K'⟩:=yu (cl:=run F (k+3)) (P:=λ_ w=>within w 0 ((wd:Int)-1)) (e:=.call 5 (.cons (.var 1) (.cons (.var 2) .nil))) (tl:=[aC (.ref d),aC (.int wd)]) (m:=1) (lim:=n) (λi h b _ _ D hb=>by
  obtain⟨r,h',e,a1,a2,a3,a4⟩:=take C.toCoreD (k:=k) (m:=wd) D (by lia) (by lia) (by lia);exact⟨.int r,h',by simp[ev,e],by simp only[within,bD,eE];lia,a3,a4⟩) n 0 x h b (by lia) (by lia) D hb
 exact⟨ws,h',e,l,Cg p,D',K'⟩
theorem ZR{k:Nat}{d c n b:Nat}{h:VH}{x:Option W}{fs:List W}(D:Dk h d c b)(hb:b+5*n<1000000000)(h0:1<=fs.length)(h1:fs.length<=4) :
 ∃(ds:List W) (h':VH),kg (bz (.one 0)) (λ_ h=>.ok (.bl true) h) (ev (run F (k+4)) (.call 23 (.cons (.var 1) (.cons (.bi .len (.cons (.var 2) .nil)) .nil)))) (gO 0 n) [x,aC (.ref d),aC (.tup fs)] h=.ok ds h'/\ds.length=n/\(∀w∈ds,door w fs.length=true)/\Dk h' d c (b+5*n)/\bF h h' d c:=by
 obtain⟨ws,h',e,p,l,D',K'⟩:=yu (cl:=run F (k+4)) (P:=λ_ w=>door w fs.length) (e:=.call 23 (.cons (.var 1) (.cons (.bi .len (.cons (.var 2) .nil)) .nil))) (tl:=[aC (.ref d),aC (.tup fs)]) (m:=5) (lim:=n) (λi h b _ _ D hb=>by
  obtain⟨w,h',e,a1,a2,a3⟩:=QD C (k:=k) (nf:=fs.length) D hb (by lia) (by lia);exact⟨w,h',by simp[ev,e,ig,fP,aS],a1,a2,a3⟩) n 0 x h b (by lia) (by lia) D hb
 exact⟨ws,h',e,l,Cg p,D',K'⟩
theorem ZT{k:Nat}{h:VH}{d c b:Nat}{mw mr mg:Int}(D:Dk h d c b)(hb:b+13000<1000000000)(w0:1<=mw)(w1:mw<=40)(r0:0<=mr)(r1:mr<=60)(g0:0<=mg)(g1:mg<=8) :
 ∃B h',run F (k+6) 129 [.ref d,.int mw,.int mr,.int mg] h=.ok (Bd.w B) h'/\B.Ok/\B.wd<=mw/\B.gr<=mg/\(B.rows.length:Int)<=mr/\Dk h' d c (b+13000)/\bF h h' d c:=by
 rw[cX C.JP rfl];have D0:Dk ⟨h.n,h.n,h.os⟩ d c b:=D.lo;obtain⟨t1,h1,e1,a1,b1,D1,K1⟩:=take C.toCoreD (k:=k+2) (m:=mw) D0 (by lia) (by lia) (by lia);obtain⟨wd,ZU⟩:=mG (show 0<=1+t1 by lia);obtain⟨gr,h2,e2,a2,b2,D2,K2⟩:=take C.toCoreD (k:=k+2) (m:=mg+1) D1 (by lia) (by lia) (by lia);obtain⟨t3,h3,e3,a3,b3,D3,K3⟩:=take C.toCoreD (k:=k+2) (m:=mr+1) D2 (by lia) (by lia) (by lia);obtain⟨nr,hnr⟩:=mG a3;obtain⟨rs,h4,e4,l4,p4,D4,K4⟩:=ZP C (k:=k) (n:=nr) (wd:=wd) (g:=gr) (x:=aD) D3 (by lia) (by lia) a2 (by lia);have ZV:=D4.new (o:=.lst (rs.map .tup));obtain⟨t5,h5,e5,a5,b5,D5,K5⟩:=take C.toCoreD (k:=k+2) (m:=4) ZV (by lia) (by lia) (by lia);obtain⟨nf,hnf⟩:=mG (show 0<=1+t5 by lia);obtain⟨fs,h6,e6,l6,p6,D6,K6⟩:=ZQ C (k:=k+2) (n:=nf) (wd:=wd) (x:=aD) D5 (by lia) (by lia) (by lia);have ZW:=D6.new (o:=.lst fs);obtain⟨ds,h7,e7,l7,p7,D7,K7⟩:=ZR C (k:=k+1) (n:=wd) (fs:=fs) (x:=aD) ZW (by lia) (by lia) (by lia);obtain⟨hne,ns,cells,p,q,gd,gc,_⟩:=D4;have gl:(h7.new (.lst ds)).get h4.n=aC (.lst (rs.map .tup)):=by
  have n1:h4.n≠d:=nk (cy gd);have n2:h4.n≠c:=nk (cy gc);have q1:=K5.get h4.n _ n1 n2 iJ;have q2:=K6.get h4.n _ n1 n2 q1;have q3:(h6.new (.lst fs)).get h4.n=aC (.lst (rs.map .tup)):=by rw[jA (cy q2)];exact q2
  have q4:=K7.get h4.n _ n1 n2 q3;rw[jA (cy q4)];exact q4
 have s1:exs (run F (k+5)) (.set 4 (.op .add (.cst (.int (1))) (.call 5 (.cons (.var 0) (.cons (.var 1) .nil))))) [aC (.ref d),aC (.int mw),aC (.int mr),aC (.int mg),aD,aD,aD,aD,aD] ⟨h.n,h.n,h.os⟩=.ok (.nx [aC (.ref d),aC (.int mw),aC (.int mr),aC (.int mg),aC (.int wd),aD,aD,aD,aD]) h1:=by simp[exs,ev,e1,eU,dU,ZU]
 have s2:exs (run F (k+5)) (.set 5 (.call 5 (.cons (.var 0) (.cons (.op .add (.var 3) (.cst (.int (1)))) .nil)))) [aC (.ref d),aC (.int mw),aC (.int mr),aC (.int mg),aC (.int wd),aD,aD,aD,aD] h1=.ok (.nx [aC (.ref d),aC (.int mw),aC (.int mr),aC (.int mg),aC (.int wd),aC (.int gr),aD,aD,aD]) h2:=by simp[exs,ev,e2,eU,dU]
 have s3:=P6 (cl:=run F (k+5)) (a:=.cons (.call 5 (.cons (.var 0) (.cons (.op .add (.var 2) (.cst (.int (1)))) .nil))) .nil) (ρ:=[aC (.ref d),aC (.int mw),aC (.int mr),aC (.int mg),aC (.int wd),aC (.int gr),aD,aD,aD]) (h:=h2) (h1:=h3) (n:=nr) (ow:=1) (ix:=[0,5,4]) (by simp[ev,eU,dU,e3,hnr]) (by lia) e4 (by rw[bT];lia);have s4:=Fp (cl:=run F (k+5)) (a:=.cons (.op .add (.cst (.int (1))) (.call 5 (.cons (.var 0) (.cons (.cst (.int (4))) .nil)))) .nil) (ρ:=[aC (.ref d),aC (.int mw),aC (.int mr),aC (.int mg),aC (.int wd),aC (.int gr),aC (.ref h4.n),aD,aD]) (h:=h4.new (.lst (rs.map .tup))) (h1:=h5) (n:=nf) (ow:=1) (ix:=[0,4]) (by simp[ev,eU,dU,e5,hnf]) (by lia) e6 (by lia);have s5:=Fp (cl:=run F (k+5)) (a:=.cons (.var 4) .nil) (ρ:=[aC (.ref d),aC (.int mw),aC (.int mr),aC (.int mg),aC (.int wd),aC (.int gr),aC (.ref h4.n),aC (.tup fs),aD]) (h:=h6.new (.lst fs)) (h1:=h6.new (.lst fs)) (n:=wd) (ow:=1) (ix:=[0,7]) (by simp[ev]) (by lia) e7 (by lia);have body:exs (run F (k+5)) oO.body [aC (.ref d),aC (.int mw),aC (.int mr),aC (.int mg),aD,aD,aD,aD,aD] ⟨h.n,h.n,h.os⟩=.ok (.rt (Bd.w ⟨wd,gr,rs,fs,ds⟩)) (h7.new (.lst ds)):=by refine(br s1).trans ((br s2).trans ?_);refine(br (ρ':=[aC (.ref d),aC (.int mw),aC (.int mr),aC (.int mg),aC (.int wd),aC (.int gr),aC (.ref h4.n),aD,aD]) (h':=h4.new (.lst (rs.map .tup))) (by unfold Pq;simp only[exs,s3,aE];rfl)).trans ?_;refine(br (ρ':=[aC (.ref d),aC (.int mw),aC (.int mr),aC (.int mg),aC (.int wd),aC (.int gr),aC (.ref h4.n),aC (.tup fs),aD]) (h':=h6.new (.lst fs)) (by unfold Pu;simp only[exs,s4,aE];rfl)).trans ?_;refine(br (ρ':=[aC (.ref d),aC (.int mw),aC (.int mr),aC (.int mg),aC (.int wd),aC (.int gr),aC (.ref h4.n),aC (.tup fs),aC (.tup ds)]) (h':=h7.new (.lst ds)) (by unfold Pw;simp only[exs,s5,aE];rfl)).trans ?_;simp[exs,ev,ig,qL,aS,gl,Bd.w]
 have KK:bF ⟨h.n,h.n,h.os⟩ (h7.new (.lst ds)) d c:=((((((K1.trans K2).trans K3).trans K4).new.trans K5).trans K6).new.trans K7).new;obtain⟨h8,e8,D8,K8⟩:=yt (cl:=run F (k+5)) (fl:=.nx []) body (.inr ⟨b,D⟩) (D7.new.mono (show _<=b+13000 by lia)) KK;refine⟨⟨wd,gr,rs,fs,ds⟩,h8,e8,⟨by show(1:Int)<=wd;lia,by show(wd:Int)<=40;lia,a2,by show gr<=8;lia,by show rs.length<=60;lia,p4,by show 1<=fs.length;lia,by show fs.length<=4;lia,p6,by show(ds.length:Int)=wd;lia,p7⟩,by show(wd:Int)<=mw;lia,by show gr<=mg;lia,by show(rs.length:Int)<=mr;lia,D8,K8⟩
end
theorem ZX{F:Nat->Option Fn}(B':iD F)(pQ:F 17=aC jr)(wG:F 22=aC j5)(wH:F 24=aC k9){k:Nat}{h:VH}{B:Bd}{ls:List Int}(b:B.Ok)(hl:(ls.length:Int)=B.gr)(bi:bY ls):run F (k+9) 24 [B.w,iW ls] h=.ok .aL h:=by
 have hg:=b.g2;have w0:∀h:VH,run F (k+7) 17 [iW ls,.int B.gr] h=.ok (.bl true) h:=by
  intro h;rw[cX pQ rfl];have e:=Ff B'.toCoreA (k:=k+3) (h:=⟨h.n,h.n,h.os⟩) (w:=iW ls) (a:=B.gr) (b:=B.gr) (lo:=0) (hi:=1) (by unfold Kn iW;simp) (λws e=>by
   cases e;refine⟨by rw[bT];lia,λx hx=>?_⟩;obtain⟨y,_,rfl⟩:=iK.mp hx;unfold Kn;simp)
  rw[Jz hl bi]at e;simp[jr,exs,ev,e,dF]
 have w1:∀h:VH,run F (k+8) 22 [B.w,iW ls] h=.ok (.bl true) h:=by
  intro h;have CH:=Fi B' (k:=k) (h:=⟨h.n,h.n,h.os⟩) b;have eb:exs (run F (k+7)) j5.body [aC B.w,aC (iW ls)] ⟨h.n,h.n,h.os⟩=.ok (.rt (.bl true)) ⟨h.n,h.n,h.os⟩:=by refine(br (ρ':=[aC B.w,aC (iW ls)]) (h':=⟨h.n,h.n,h.os⟩) ?_).trans (kH (gB (kI (x:=iW ls) (y:=.int B.gr) (aH rfl) (bN (x:=B.w) (y:=.int 1) (aH rfl) rfl rfl) (w0 _))));rw[exs,oV (x:=B.w) (aH rfl) CH,aE]
  rw[cX wG rfl];show fin h (exs (run F (k+7)) j5.body [aC B.w,aC (iW ls)] ⟨h.n,h.n,h.os⟩)=_;rw[eb];exact dF (aW _) rfl
 rw[cX wH rfl];simp[k9,exs,ev,w1,E4]
structure uB(F:Nat->Option Fn):Prop where
 y:jt F
 pQ:F 17=aC jr
 wG:F 22=aC j5
 wH:F 24=aC k9
 b:iD F
 JQ:F 190=aC lZ
 JR:F 202=aC l9
 JS:F 219=aC mh
theorem JT{h:VH}{i:Nat}{ws:List W}(g:h.get i=aC (.lst ws))(j:Nat):bg .seq (.ref i) j h=aC ws[j]?:=by simp only[bg,aS,g,iT]
theorem wN{g:Nat}(h:g<=8):2 ^ g<=256:=gY (Nat.pow_le_pow_right (by decide) h) (by decide)
section
variable{F:Nat->Option Fn}(C:uB F)
include C
omit C in
theorem ZY{l:List Int}{x:Int}{h:VH}(hl:l.length<=8):eU .add (iW l) (.tup [.int x]) h=.ok (iW (l++[x])) h:=by have:=Zw (xs:=l) (ys:=[x]) (h:=h) (by simp;lia);exact this
omit C in
theorem ZZ{cl:Call}{h:VH}{g t j:Nat}(ht:t<8)(hj:h.get j=aC (.lst ((bB t).map iW))) :
 exs cl yk [aC (.int g),aC (.ref j),aC (.int t)] h=.ok (.nx [aC (.int g),aC (.ref h.n),aC (.int t)]) (h.new (.lst ((bB (t+1)).map iW))):=by
 have e1:jn (bg .seq (.ref j)) (bz (.one 0)) (λ_ h=>.ok (.bl true) h) (λρ h acc=>(ev cl yi ρ h).bind λy h=>ir (bg .seq y) (bz (.one 1)) (λ_ h=>.ok (.bl true) h) (ev cl yj) fuel 0 ρ h acc) fuel 0 [aD,aD] h []=.ok ((bB (t+1)).map iW) h:=by
  have hl:((bB t).map iW).length<fuel+0:=by have:=wN (g:=t) (by lia);obtain⟨m,hm⟩:=FI;rw[bT,wL];lia
  have:=JH (jT:=λρ h acc=>(ev cl yi ρ h).bind λy h=>ir (bg .seq y) (bz (.one 1)) (λ_ h=>.ok (.bl true) h) (ev cl yj) fuel 0 ρ h acc) (tl:=[]) (g:=λx=>match x with|.tup xs=>[.tup (xs++[.int 0]),.tup (xs++[.int 1])]|_=>[]) (JT hj) (λx hx b acc=>by
   obtain⟨l,hl,rfl⟩:=iK.mp hx;have hlen:=(CD t l hl).1;have ea:ev cl yi (aC (iW l)::b :: []) h=.ok (.tup [.int 0,.int 1]) h:=rfl;obtain⟨b',e2⟩:=JG (nx:=bg .seq (.tup [.int 0,.int 1])) (e:=ev cl yj) (h:=h) (ws:=[.int 0,.int 1]) (x:=iW l) (tl:=[]) (f:=λw=>.tup (l.map .int++[w])) (λi=>rfl) (λw hw=>by
    have:∃y:Int,w=.int y:=by simp only[eG,xA,wZ]at hw;rcases hw with rfl|rfl<;>exact⟨_,rfl⟩
    obtain⟨y,rfl⟩:=this;show ev cl (.op .add (.var 0) (.tup (.cons (.var 1) .nil))) _ h=_;refine Cu (aH rfl) (h2:=h) (y:=.tup [.int y]) rfl ?_;rw[ZY (by lia)];unfold iW;rw[kq];rfl) fuel 0 b acc (by simp) (by obtain⟨m,hm⟩:=FI;simp;lia)
   exact⟨b',by rw[ea,aE,e2];rfl⟩) fuel 0 aD aD [] (by lia) hl
  rw[this];congr 1;simp only[yY,nu,xE,bB,List.flatMap_map,List.map_flatMap];congr 1;funext l;simp[iW]
 have hz:((bB (t+1)).map iW).length<=1000000:=by have:=wN (g:=t+1) (by lia);rw[bT,wL];lia
 have e2:ev cl (.tO .seq (.var 1) (.one 0) 2 [] (.cst (.bl true)) .seq yi (.one 1) (.cst (.bl true)) yj) [aC (.int g),aC (.ref j),aC (.int t)] h=.ok (.ref h.n) (h.new (.lst ((bB (t+1)).map iW))):=by rw[ev,aH (x:=.ref j) rfl,aE];show(jn (bg .seq (.ref j)) (bz (.one 0)) (λ_ h=>.ok (.bl true) h) (λρ h acc=>(ev cl yi ρ h).bind λy h=>ir (bg .seq y) (bz (.one 1)) (λ_ h=>.ok (.bl true) h) (ev cl yj) fuel 0 ρ h acc) fuel 0 [aD,aD] h []).bind _=_;rw[e1,aE,if_pos (sj hz)]
 unfold yk;rw[br (cR e2)];rfl
omit C in
theorem QF{cl:Call}{g:Nat}:∀(n t j:Nat) (x:Option W) (h:VH),t+n<=8->h.get j=aC (.lst ((bB t).map iW))->∃j' x' h',forL (bz (.one 2)) (exs cl yk) (gO (t:Int) n) [aC (.int g),aC (.ref j),x] h=.ok (.nx [aC (.int g),aC (.ref j'),x']) h'/\h'.get j'=aC (.lst ((bB (t+n)).map iW))/\h'.lo=h.lo/\h.n<=h'.n/\j<=j'
 |0,t,j,x,h,_,hj=>⟨j,x,h,rfl,hj,rfl,aW _,aW _⟩
 |n+1,t,j,x,h,ht,hj=>by
  have e1:=ZZ (cl:=cl) (g:=g) (h:=h) (t:=t) (j:=j) (by lia) hj;obtain⟨j',x',h',e2,g2,l2,n2,m2⟩:=QF (cl:=cl) (g:=g) n (t+1) h.n (aC (.int t)) (h.new (.lst ((bB (t+1)).map iW))) (by lia) iJ;refine⟨j',x',h',?_,by rw[show t+ (n+1)=t+1+n by lia];exact g2,l2,gY (nI _) n2,gY (sI (cy hj)) m2⟩;simp only[gO,forL,bz,pZ,nM,e1,aE];exact e2
theorem QG{k:Nat}{h:VH}{g:Nat}(hg:g<=8)(hlo:h.lo<=h.n):∃j h',run F (k+3) 190 [.int g] h=.ok (.ref j) h'/\h'.get j=aC (.lst ((bB g).map iW))/\h'.lo=h.lo/\h.n<=h'.n:=by
 rw[cX C.JQ rfl];have e0:=oR C.b.toCoreA (k:=k) (h:=⟨h.n,h.n,h.os⟩) (w:=.int g) (lo:=0) (hi:=8) (by unfold Kn;simp);have hw:within (.int g) 0 8=true:=by simp only[within,bD,eE];lia
 rw[hw]at e0;have g1:(VH.new ⟨h.n,h.n,h.os⟩ (.lst [.tup []])).get h.n=aC (.lst ((bB 0).map iW)):=iJ (h:=⟨h.n,h.n,h.os⟩);obtain⟨j',x',h',e2,g2,l2,n2,m2⟩:=QF (cl:=run F (k+2)) (g:=g) g 0 h.n aD (VH.new ⟨h.n,h.n,h.os⟩ (.lst [.tup []])) (by lia) g1;have e3:=YQ (n:=g) (tg:=bz (.one 2)) (b:=exs (run F (k+2)) yk) (ρ:=[aC (.int g),aC (.ref h.n),aD]) (h:=VH.new ⟨h.n,h.n,h.os⟩ (.lst [.tup []])) (by lia);have eb:exs (run F (k+2)) lZ.body [aC (.int g),aD,aD] ⟨h.n,h.n,h.os⟩=.ok (.rt (.ref j')) h':=by
  show exs (run F (k+2)) (.seq _ _) _ _=_;rw[br (ρ':=[aC (.int g),aD,aD]) (h':=⟨h.n,h.n,h.os⟩) (by simp[exs,ev,e0])];rw[br (ρ':=[aC (.int g),aC (.ref h.n),aD]) (h':=VH.new ⟨h.n,h.n,h.os⟩ (.lst [.tup []])) (by simp[exs,ev])];have:exs (run F (k+2)) (.«for» .bL (.cons (.var 0) .nil) (.one 2) yk) [aC (.int g),aC (.ref h.n),aD] (VH.new ⟨h.n,h.n,h.os⟩ (.lst [.tup []]))=.ok (.nx [aC (.int g),aC (.ref j'),x']) h':=by rw[exs];have ea:ev (run F (k+2)) (.cons (.var 0) .nil) [aC (.int g),aC (.ref h.n),aD] (VH.new ⟨h.n,h.n,h.os⟩ (.lst [.tup []]))=.ok (.tup [.int g]) (VH.new ⟨h.n,h.n,h.os⟩ (.lst [.tup []])):=rfl;rw[ea,aE,e3];exact e2
  rw[br this];simp[exs,ev]
 show ∃j h',fin h (exs (run F (k+2)) lZ.body [aC (.int g),aD,aD] ⟨h.n,h.n,h.os⟩)=.ok (.ref j) h'/\_;rw[eb];have hn2:h.n+1<=h'.n:=n2;have hj:=cy g2;have l2:h'.lo=h.n:=l2;show ∃j h2,leave h (.ref j') h'=.ok (.ref j) h2/\_;unfold leave;by_cases hq:(Nat.ble h.n h'.lo&&W.lt h.n (.ref j'))=true
 ·-- uS list is new
  exfalso;rw[bD]at hq;have:j'<h.n:=by have:=hq.2;simp only[W.lt]at this;exact gw.mp this
  lia
 rw[if_neg hq];refine⟨j',⟨h'.n,if Nat.ble h.lo h'.lo then h.lo else h'.lo,h'.os⟩,rfl,by rw[bK];rw[show(0+g)=g by lia]at g2;exact g2,?_,by show h.n<=h'.n;lia⟩;show(if Nat.ble h.lo h'.lo then h.lo else h'.lo)=h.lo;rw[if_pos (pX.mpr (by lia))]
end
theorem Z0{h h':VH}{j:Nat}(hlo:h.lo<=h.n)(h1:h'.lo=h.n)(h2:h.n<=j):fin h (.ok (.rt (.ref j)) h')=.ok (.ref j) ⟨h'.n,h.lo,h'.os⟩:=by
 show leave h (.ref j) h'=_;unfold leave;rw[if_neg (by
  intro z;rw[bD]at z;have:=z.2;simp only[W.lt]at this;have:=gw.mp this;lia),h1,if_pos (pX.mpr hlo)]
noncomputable def Bd.out(B:Bd)(p:Pr):Bool:=!(B.aZ p.1 p.2).st
noncomputable def Bd.co(B:Bd)(p:Pr):Int:=fV (B.col p.2) (B.aZ p.1 p.2).cs
noncomputable def Bd.be(B:Bd)(p:Pr):List Int:=(B.aZ p.1 p.2).ls
noncomputable def Bd.iS(B:Bd)(ls:List Int)(c:Int)(p:Pr):Bool:=B.out p&&decide (B.co p=c)&&decide (B.be p=ls)
theorem JU{n:Nat}{p:Pr}:W.lt n (aT p)=true:=by unfold aT;simp[mC]
theorem QH{n:Nat}:∀{ps:List Pr},W.lO n (ps.map aT)=true|[]=>by simp|p::r=>by rw[cu,iC,JU,QH];rfl
theorem Z1{h:VH}{B:Bd}{ls:List Int}{c:Int}{p:Pr}:ck h (.tup [cY B p.1 p.2,iW (B.aZ p.1 p.2).ls]) (.tup [.int c,iW ls])=aC (B.iS ls c p):=by
 unfold Bd.iS Bd.out Bd.co Bd.be cY;have pl:∀x:W,(x=.aL\/∃i:Int,x=.int i)->∀m:List Int,gA 24 (.tup [x,iW m])=true:=by intro x hx m;rw[pP];rcases hx with rfl|⟨i,rfl⟩<;>simp only[kr,Cw (n:=21),uQ,nH,pW]<;>rfl
 cases z:(B.aZ p.1 p.2).st with
 |true=>
  simp only[bQ];rw[yC (d:=.tuple [.none,.tuple ((B.aZ p.1 p.2).ls.map .int)]) (d':=.tuple [.int c,.tuple (ls.map .int)]) (pl _ (.inl rfl) _) (pl _ (.inr ⟨_,rfl⟩) _) (by rw[nA];simp only[aO,uz (n:=21)];rfl) (by rw[nA];simp only[aO,uz (n:=21),wJ (n:=22)];rfl)];rfl
 |false=>
  simp only[dh,cG];rw[yC (d:=.tuple [.int (fV (B.col p.2) (B.aZ p.1 p.2).cs),.tuple ((B.aZ p.1 p.2).ls.map .int)]) (d':=.tuple [.int c,.tuple (ls.map .int)]) (pl _ (.inr ⟨_,rfl⟩) _) (pl _ (.inr ⟨_,rfl⟩) _) (by rw[nA];simp only[aO,uz (n:=21),wJ (n:=22)];rfl) (by rw[nA];simp only[aO,uz (n:=21),wJ (n:=22)];rfl)];simp only[PyData.eqv,PyData.eqvAll,CA,nH,xq,pW];congr 2
section
variable{F:Nat->Option Fn}(C:uB F)
include C
theorem QI{k:Nat}{h:VH}{B:Bd}{g:Nat}(b:B.Ok)(hg:B.gr=g)(hlo:h.lo<=h.n):∃j h',run F (k+4) 202 [B.w] h=.ok (.ref j) h'/\h'.get j=aC (.lst ((aU g B.fd.length).map aT))/\h'.lo=h.lo/\h.n<=h'.n:=by
 rw[cX C.JR rfl];have yE:g<=8:=by have:=b.g2;lia
 have yF:=b.f2;obtain⟨j,h1,e1,g1,l1,n1⟩:=QG C (k:=k) (h:=⟨h.n,h.n,h.os⟩) (g:=g) yE (aW _);have l1:h1.lo=h.n:=l1;have n1:h.n<=h1.n:=n1;have i1:bR ⟨h.n,h.n,h.os⟩ B.w (.int 1)=aC (.int B.gr):=rfl;have ea:ev (run F (k+3)) (.call 190 (.cons (.idx (.var 0) (.cst (.int (1)))) .nil)) [aC B.w] ⟨h.n,h.n,h.os⟩=.ok (.ref j) h1:=by refine oV (bN (aH rfl) rfl i1) ?_;rw[hg];exact e1
 have hz1:((bB g).map iW).length<fuel+0:=by have:=wN yE;obtain⟨m,hm⟩:=FI;rw[bT,wL];lia
 have e2:jn (bg .seq (.ref j)) (bz (.one 0)) (λ_ h=>.ok (.bl true) h) (λρ h acc=>(ev (run F (k+3)) wg ρ h).bind λy h=>ir (bg .bL y) (bz (.one 1)) (λ_ h=>.ok (.bl true) h) (ev (run F (k+3)) wj) fuel 0 ρ h acc) fuel 0 [aD,aD,aC B.w] h1 []=.ok ((aU g B.fd.length).map aT) h1:=by
  have:=JH (jT:=λρ h acc=>(ev (run F (k+3)) wg ρ h).bind λy h=>ir (bg .bL y) (bz (.one 1)) (λ_ h=>.ok (.bl true) h) (ev (run F (k+3)) wj) fuel 0 ρ h acc) (tl:=[aC B.w]) (g:=λx=>(gO 0 B.fd.length).map λw=>.tup [x,w]) (JT g1) (λx hx bb acc=>by
   have i3:bR h1 B.w (.int 3)=aC (.tup B.fd):=rfl;have ea:ev (run F (k+3)) wg (aC x::bb :: [aC B.w]) h1=.ok (.tup [.int B.fd.length]) h1:=by unfold wg;rw[ev,oU (ws:=B.fd) (bN (aH rfl) rfl i3) rfl,aE,ev];rfl
   obtain⟨b',e2⟩:=JG (nx:=bg .bL (.tup [.int B.fd.length])) (e:=ev (run F (k+3)) wj) (h:=h1) (ws:=gO 0 B.fd.length) (x:=x) (tl:=[aC B.w]) (f:=λw=>.tup [x,w]) (λi=>by
    have hfit:fits (B.fd.length:Int)=true:=by unfold fits;simp only[bD,eE];lia
    simp only[bg,hfit,bQ,Fd];by_cases q:i<B.fd.length;rw[if_pos q,if_pos (fW (by lia))];rw[if_neg q,if_neg (by rw[eE];lia)]) (λw hw=>by
    unfold wj;exact uw (aH rfl) (aH rfl)) fuel 0 bb acc (by lia) (by obtain⟨m,hm⟩:=FI;rw[Fe];lia)
   exact⟨b',by rw[ea,aE,e2];rfl⟩) fuel 0 aD aD [] (by lia) hz1
  rw[this];congr 1;simp only[yY,nu,xE,aU,List.flatMap_map,List.map_flatMap];congr 1;funext l;rw[List.map_map];have:∀(n:Nat)(a:Nat),(gO (a:Int) n).map (λw=>W.tup [iW l,w])=(List.range' a n).map (aT∘λf=>(l,f)):=by
   intro n;induction n with|zero=>intro a;rfl|succ n ih=>intro a;simp only[gO,cu,List.range'_succ];rw[show((a:Int)+1)=((a+1:Nat):Int) by lia,ih (a+1)];rfl
  rw[List.range_eq_range'];exact this B.fd.length 0
 have hz:((aU g B.fd.length).map aT).length<=1000000:=by have:=CF (g:=g) (nf:=B.fd.length) yE yF;rw[bT];lia
 have e3:ev (run F (k+3)) (.tO .seq (.call 190 (.cons (.idx (.var 0) (.cst (.int (1)))) .nil)) (.one 0) 2 [0] (.cst (.bl true)) .bL wg (.one 1) (.cst (.bl true)) wj) [aC B.w] ⟨h.n,h.n,h.os⟩=.ok (.ref h1.n) (h1.new (.lst ((aU g B.fd.length).map aT))):=by rw[ev,ea,aE];show(jn (bg .seq (.ref j)) (bz (.one 0)) (λ_ h=>.ok (.bl true) h) (λρ h acc=>(ev (run F (k+3)) wg ρ h).bind λy h=>ir (bg .bL y) (bz (.one 1)) (λ_ h=>.ok (.bl true) h) (ev (run F (k+3)) wj) fuel 0 ρ h acc) fuel 0 [aD,aD,aC B.w] h1 []).bind _=_;rw[e2,aE,if_pos (sj hz)]
 have eb:exs (run F (k+3)) l9.body [aC B.w] ⟨h.n,h.n,h.os⟩=.ok (.rt (.ref h1.n)) (h1.new (.lst ((aU g B.fd.length).map aT))):=kH (gB e3);show ∃j h',fin h (exs (run F (k+3)) l9.body [aC B.w] ⟨h.n,h.n,h.os⟩)=.ok (.ref j) h'/\_;rw[eb,Z0 hlo (show(h1.new (.lst ((aU g B.fd.length).map aT))).lo=h.n from l1) n1];exact⟨h1.n,_,rfl,by rw[bK (h:=h1.new (.lst ((aU g B.fd.length).map aT)))];exact iJ,rfl,by show h.n<=h1.n+1;lia⟩
theorem Z2{k:Nat}{h:VH}{B:Bd}{g:Nat}{ls:List Int}{c:Nat}(b:B.Ok)(hg:B.gr=g)(hl:(ls.length:Int)=B.gr)(bi:bY ls)(hc:(c:Int)<B.wd) :
 run F (k+10) 219 [B.w,iW ls,.int c] h=.ok (.tup (((aU g B.fd.length).filter (B.iS ls c)).map aT)) h:=by
 rw[cX C.JS rfl];have yE:g<=8:=by have:=b.g2;lia
 have yF:=b.f2;have e1:=ZX C.b C.pQ C.wG C.wH (k:=k) (h:=⟨h.n,h.n,h.os⟩) b hl bi;have e2:=oR C.b.toCoreA (k:=k+7) (h:=⟨h.n,h.n,h.os⟩) (w:=.int c) (lo:=0) (hi:=B.wd-1) (by unfold Kn;simp);have hw:within (.int c) 0 (B.wd-1)=true:=by simp only[within,bD,eE];lia
 rw[hw]at e2;have i0:bR ⟨h.n,h.n,h.os⟩ B.w (.int 0)=aC (.int B.wd):=rfl;obtain⟨j,h1,e3,g1,l1,n1⟩:=QI C (k:=k+5) (h:=⟨h.n,h.n,h.os⟩) b hg (aW _);have l1:h1.lo=h.n:=l1;have hz1:((aU g B.fd.length).map aT).length<fuel+0:=by have:=CF (g:=g) (nf:=B.fd.length) yE yF;have hf:fuel=1000000:=rfl;rw[bT];lia
 have e4:eV (bg .seq (.ref j)) (bz (.one 0)) (ev (run F (k+9)) wk) (ev (run F (k+9)) B7) fuel 0 [aD,aC B.w,aC (.int c),aC (iW ls)] h1 []=.ok (((aU g B.fd.length).filter (B.iS ls c)).map aT) h1:=by
  have:=JI (c:=ev (run F (k+9)) wk) (e:=ev (run F (k+9)) B7) (tl:=[aC B.w,aC (.int c),aC (iW ls)]) (p:=λw=>match w with|.tup [.tup xs,.int f]=>(match aO (λx=>match x with|W.int i=>aC i|_=>aD) xs with|some l=>B.iS ls c (l,f.toNat)|none=>false)|_=>false) (f:=id) (JT g1) (λw hw=>by
   obtain⟨p,hp,rfl⟩:=iK.mp hw;obtain⟨h2,h3,h4⟩:=JJ hp;have e5:=FH C.y (k:=k+6) (h:=h1) (B:=B) (ls:=p.1) (f:=p.2) b h4 (by lia) h3;have ep:ev (run F (k+9)) wk (aC (aT p) :: [aC B.w,aC (.int c),aC (iW ls)]) h1=.ok (.bl (B.iS ls c p)) h1:=by unfold wk;rw[ev,Zv (aH rfl) (bN (aH rfl) rfl (z:=iW p.1) rfl) (bN (aH rfl) rfl (z:=.int p.2) rfl) (x:=B.w) rfl e5,aE,uw (x:=.int c) (y:=iW ls) (aH rfl) (aH rfl),aE];show Res.of ((ck h1 _ _).map W.bl) h1=_;rw[Z1];rfl
   rw[ep];have hm:∀l:List Int,aO (λx=>match x with|W.int i=>aC i|_=>aD) (l.map W.int)=aC l:=by
    intro l;induction l with|nil=>rfl|cons x r ih=>simp only[cu,aO,ih]
   show _=Res.ok (W.bl (match aO (λx=>match x with|W.int i=>aC i|_=>aD) (p.1.map W.int)with|some l=>B.iS ls c (l,(p.2:Int).toNat)|none=>false)) h1;rw[hm];rfl) (λw hw=>aH rfl) fuel 0 aD [] (by lia) hz1
  rw[this];congr 1;simp only[yY,nu,xE,List.map_id,List.filter_map];congr 1;refine List.filter_congr λp hp=>?_;have hm:∀l:List Int,aO (λx=>match x with|W.int i=>aC i|_=>aD) (l.map W.int)=aC l:=by
   intro l;induction l with|nil=>rfl|cons x r ih=>simp only[cu,aO,ih]
  show(match aO (λx=>match x with|W.int i=>aC i|_=>aD) (p.1.map W.int)with|some l=>B.iS ls c (l,(p.2:Int).toNat)|none=>false)=_;rw[hm];rfl
 have hz:(((aU g B.fd.length).filter (B.iS ls c)).map aT).length<=1000000:=by have:=CF (g:=g) (nf:=B.fd.length) yE yF;have h2:=Dq (B.iS ls c) (aU g B.fd.length);rw[bT];lia
 have e5:ev (run F (k+9)) (.lc .seq (.call 202 (.cons (.var 0) .nil)) (.one 0) 1 [0,2,1] wk B7) [aC B.w,aC (iW ls),aC (.int c)] ⟨h.n,h.n,h.os⟩=.ok (.ref h1.n) (h1.new (.lst (((aU g B.fd.length).filter (B.iS ls c)).map aT))):=by rw[ev,oV (aH rfl) e3,aE];show(eV (bg .seq (.ref j)) (bz (.one 0)) (ev (run F (k+9)) wk) (ev (run F (k+9)) B7) fuel 0 [aD,aC B.w,aC (.int c),aC (iW ls)] h1 []).bind _=_;rw[e4,aE,if_pos (sj hz)]
 have e6:=P7 e5 iJ;have eb:exs (run F (k+9)) mh.body [aC B.w,aC (iW ls),aC (.int c)] ⟨h.n,h.n,h.os⟩=.ok (.rt (.tup (((aU g B.fd.length).filter (B.iS ls c)).map aT))) (h1.new (.lst (((aU g B.fd.length).filter (B.iS ls c)).map aT))):=by show exs (run F (k+9)) (.seq _ _) _ _=_;rw[br (Cv (kI (aH rfl) (aH rfl) e1))];rw[br (ρ':=[aC B.w,aC (iW ls),aC (.int c)]) (h':=⟨h.n,h.n,h.os⟩) (by simp[exs,ev,i0,eU,dU,e2])];exact kH (gB e6)
 show fin h (exs (run F (k+9)) mh.body [aC B.w,aC (iW ls),aC (.int c)] ⟨h.n,h.n,h.os⟩)=_;rw[eb];exact dF (by show h.n<=h1.lo;lia) (by rw[lg];exact QH)
end
noncomputable def Bd.key(B:Bd)(p:Pr):Int×List Int:=(B.co p,B.be p)
noncomputable abbrev CS:=List Pr×List kJ
noncomputable def Bd.fst(B:Bd)(F:List Pr)(p:Pr):Option Pr:=F.find? λf=>decide (B.key f=B.key p)
noncomputable def Bd.eZ(B:Bd)(s:CS)(p:Pr):CS:=
 if B.out p then match B.fst s.1 p with|some f=>(s.1,if f=p then s.2 else s.2++[(f,p)])|none=>(s.1++[p],s.2)
 else s
noncomputable def Bd.cN(B:Bd)(ps:List Pr):CS:=ps.foldl B.eZ ([],[])
theorem Z3{B:Bd}{ps:List Pr}{i:Nat}{p:Pr}(h:ps[i]?=aC p):B.cN (ps.take (i+1))=B.eZ (B.cN (ps.take i)) p:=by unfold Bd.cN;rw[List.take_add_one,h,List.foldl_append];rfl
structure ng(B:Bd)(Q:List Pr)(s:CS):Prop where
 a:∀f∈s.1,f∈Q/\B.out f=true
 b:∀q∈Q,B.out q=true->∃f∈s.1,B.key f=B.key q
 c:∀f∈s.1,∀g∈s.1,B.key f=B.key g->f=g
 d:∀x∈s.2,x.1∈Q/\x.2∈Q/\B.out x.1=true/\B.out x.2=true/\B.key x.1=B.key x.2/\x.1≠x.2
 e:∀q∈Q,B.out q=true->q∉s.1->∃f∈s.1,B.key f=B.key q/\(f,q)∈s.2
 f:∀f∈s.1,∀q∈Q,B.out q=true->B.key f=B.key q->f=q\/jb f q=true
theorem Z4{B:Bd}{Q:List Pr}{s:CS}{p:Pr}(I:ng B Q s)(hp:∀q∈Q,jb q p):ng B (Q++[p]) (B.eZ s p):=by
 have mp:∀{q:Pr},q∈Q++[p]->q∈Q\/q=p:=λh=>(pB.mp h).imp id gh.mp;have ml:∀{q:Pr},q∈Q->q∈Q++[p]:=λh=>pY _ h;have mr:p∈Q++[p]:=gV _ (gh.mpr rfl);unfold Bd.eZ;by_cases ho:B.out p=true;rw[if_pos ho];cases z:B.fst s.1 p with
 |none=>
  have hn:∀f∈s.1,B.key f≠B.key p:=λf hf e=>by
   have:=List.find?_eq_none.mp z f hf;simp[e]at this
  have ns:∀{f:Pr},f∈s.1++[p]->f∈s.1\/f=p:=λh=>(pB.mp h).imp id gh.mp;refine⟨λf hf=>?_,λq hq gD=>?_,λf hf g hg e=>?_,λx hx=>?_,λq hq gD hn2=>?_,λf hf q hq gD e=>?_⟩;rcases ns hf with h|rfl
  exact⟨ml (I.a f h).1,(I.a f h).2⟩;exact⟨mr,ho⟩;rcases mp hq with h|rfl
  obtain⟨f,h1,h2⟩:=I.b q h gD;exact⟨f,pY _ h1,h2⟩;exact⟨q,gV _ (gh.mpr rfl),rfl⟩;rcases ns hf with h|rfl;rcases ns hg with h2|rfl;exact I.c f h g h2 e;exact absurd e (hn f h);rcases ns hg with h2|rfl;exact absurd e.symm (hn g h2);rfl;obtain⟨h1,h2,h3⟩:=I.d x hx;exact⟨ml h1,ml h2,h3⟩;rcases mp hq with h|rfl;obtain⟨f,h1,h2⟩:=I.e q h gD λm=>hn2 (pY _ m);exact⟨f,pY _ h1,h2⟩;exact absurd (gV _ (gh.mpr rfl)) hn2;rcases ns hf with h|rfl;rcases mp hq with h2|rfl;exact I.f f h q h2 gD e;exact absurd e (hn f h);rcases mp hq with h2|rfl;obtain⟨f',h3,h4⟩:=I.b q h2 gD;exact absurd (h4.trans e.symm) (hn f' h3);exact .inl rfl
 |some f=>
  have hf:=List.mem_of_find?_eq_some z;have hk:B.key f=B.key p:=by have:=List.find?_some z;simpa using this
  have lt:=hp f (I.a f hf).1;have hne:f≠p:=λe=>by rw[e,CG]at lt;cases lt
  show ng B (Q++[p]) (s.1,if f=p then s.2 else s.2++[(f,p)]);rw[if_neg hne];refine⟨λg hg=>⟨ml (I.a g hg).1,(I.a g hg).2⟩,λq hq gD=>?_,I.c,λx hx=>?_,λq hq gD hn=>?_,λg hg q hq gD e=>?_⟩;rcases mp hq with h|rfl
  exact I.b q h gD;exact⟨f,hf,hk⟩;rcases pB.mp hx with h|h
  obtain⟨h1,h2,h3⟩:=I.d x h;exact⟨ml h1,ml h2,h3⟩;rw[gh.mp h];exact⟨ml (I.a f hf).1,mr,(I.a f hf).2,ho,hk,hne⟩;rcases mp hq with h|rfl;obtain⟨g,h1,h2,h3⟩:=I.e q h gD hn;exact⟨g,h1,h2,pY _ h3⟩;exact⟨f,hf,hk,gV _ (gh.mpr rfl)⟩;rcases mp hq with h|rfl;exact I.f g hg q h gD e;have:g=f:=I.c g hg f hf (e.trans hk.symm);rw[this];exact .inr lt
 rw[if_neg ho];refine⟨λf hf=>⟨ml (I.a f hf).1,(I.a f hf).2⟩,λq hq gD=>?_,I.c,λx hx=>?_,λq hq gD hn=>?_,λg hg q hq gD e=>?_⟩;rcases mp hq with h|rfl
 exact I.b q h gD;exact absurd gD ho;obtain⟨h1,h2,h3⟩:=I.d x hx;exact⟨ml h1,ml h2,h3⟩;rcases mp hq with h|rfl
 exact I.e q h gD hn;exact absurd gD ho;rcases mp hq with h|rfl
 exact I.f g hg q h gD e;exact absurd gD ho
theorem QJ{B:Bd}:∀(R Q:List Pr) (s:CS),ng B Q s->(Q++R).Pairwise (λa b=>jb a b=true)->ng B (Q++R) (R.foldl B.eZ s)
 |[],Q,s,I,_=>by rw[nt];exact I
 |x::R,Q,s,I,h=>by
  rw[List.foldl_cons,show Q++x::R=(Q++[x])++R by simp];rw[show Q++x::R=(Q++[x])++R by simp]at h;refine QJ R (Q++[x]) _ (Z4 I λq hq=>?_) h;have:=(List.pairwise_append.mp (List.pairwise_append.mp h).1).2.2;exact this q hq x (gh.mpr rfl)
theorem wO{B:Bd}{g nf:Nat}:ng B (aU g nf) (B.cN (aU g nf)):=by have:=QJ (B:=B) (aU g nf) [] ([],[]) ⟨(λf hf=>by cases hf),(λq hq=>by cases hq),(λf hf=>by cases hf),(λx hx=>by cases hx),(λq hq=>by cases hq),(λf hf=>by cases hf)⟩ (by rw[nu];exact ZJ);rw[nu]at this;exact this
theorem yG{B:Bd}{p q:Pr}(ho:B.out p):B.iS (B.be p) (B.co p) q=true↔B.out q=true/\B.key q=B.key p:=by unfold Bd.iS Bd.key;rw[bD,bD,eE,eE,Prod.mk.injEq];exact⟨λ⟨⟨a,b⟩,c⟩=>⟨a,b,c⟩,λ⟨a,b,c⟩=>⟨⟨a,b⟩,c⟩⟩
theorem JV{α:Type}{P:α->Bool}{p:α}:∀{l:List α},l.Nodup->p∈l->P p=true->(∀q∈l,P q=true->q=p)->l.filter P=[p]
 |x::l,nd,hp,pp,h=>by
  rw[xB]at nd;by_cases e:x=p;subst e;rw[List.filter_cons_of_pos pp];have:l.filter P=[]:=Dm.mpr λq hq z=>nd.1 (by rw[<-h q (ff _ hq) z];exact hq);rw[this];have hp2:p∈l:=(eG.mp hp).resolve_left (eL e);have nx:¬P x=true:=λz=>e (h x (fY ..) z);rw[List.filter_cons_of_neg nx];exact JV nd.2 hp2 pp λq hq=>h q (ff _ hq)
theorem Z5{B:Bd}{g nf:Nat}(h:(B.cN (aU g nf)).2=[]){p:Pr}(hp:p∈aU g nf)(ho:B.out p):(aU g nf).filter (B.iS (B.be p) (B.co p))=[p]:=by
 have I:=wO (B:=B) (g:=g) (nf:=nf);have hs:∀q∈aU g nf,B.out q=true->q∈(B.cN (aU g nf)).1:=λq hq gD=>by
  by_cases m:q∈(B.cN (aU g nf)).1;exact m;obtain⟨f,_,_,h3⟩:=I.e q hq gD m;rw[h]at h3;cases h3
 refine JV Qq hp ((yG ho).mpr ⟨ho,rfl⟩) λq hq hu=>?_;obtain⟨gD,hk⟩:=(yG ho).mp hu;exact I.c q (hs q hq gD) p (hs p hp ho) hk
theorem Z6{B:Bd}{g nf:Nat}{c:kJ}(hc:∀d∈(B.cN (aU g nf)).2,kQ d c=false){p:Pr}(hp:p∈aU g nf)(ho:B.out p)(hl:jb p c.1):(aU g nf).filter (B.iS (B.be p) (B.co p))=[p]:=by
 have I:=wO (B:=B) (g:=g) (nf:=nf);refine JV Qq hp ((yG ho).mpr ⟨ho,rfl⟩) λq hq hu=>?_;obtain⟨gD,hk⟩:=(yG ho).mp hu;obtain⟨f,hf,hkf⟩:=I.b p hp ho;have lf:jb f c.1=true:=by rcases I.f f hf p hp ho hkf with e|e;rw[e];exact hl;exact JL e hl
 have no:∀r∈aU g nf,B.out r=true->B.key r=B.key p->r=f:=λr hr hor QK=>by
  by_cases m:r∈(B.cN (aU g nf)).1;exact I.c r m f hf (QK.trans hkf.symm);obtain⟨f',h1,h2,h3⟩:=I.e r hr hor m;have:f'=f:=I.c f' h1 f hf (h2.trans (QK.trans hkf.symm));subst this;have h4:=hc _ h3;unfold kQ lx at h4;rw[if_neg (λe=>by
   have e:f'=c.1:=e;rw[e,CG]at lf;cases lf)]at h4
  have h4:jb f' c.1=false:=h4;rw[lf]at h4;cases h4
 rw[no q hq gD hk,<-no p hp ho rfl]
theorem yH{nx:Nat->VH->Option (Option W)}{tg:W->VH->En->Option En}{b:FS}{n:Nat}{I:Nat->En->VH->Prop}
 (go:∀i ρ h,i<n->I i ρ h->∃w bS pS h2,nx i h=aC (aC w)/\tg w h ρ=aC bS/\b bS h=.ok (.nx pS) h2/\I (i+1) pS h2)
 (stop:∀ρ h,I n ρ h->nx n h=aC aD) :
 ∀(m i fu:Nat)(ρ:En)(h:VH),i+m=n->m<fu->I i ρ h->∃ρ' h',dB nx tg b fu i ρ h=.ok (.nx ρ') h'/\I n ρ' h'
 |_,_,0,_,_,_,hf,_=>by lia
 |0,i,fu+1,ρ,h,hi,_,hI=>by
  obtain rfl:i=n:=by lia
  refine⟨ρ,h,?_,hI⟩;simp only[dB,stop ρ h hI]
 |m+1,i,fu+1,ρ,h,hi,hf,hI=>by
  obtain⟨w,bS,pS,h2,e1,e2,e3,tT⟩:=go i ρ h (by lia) hI;obtain⟨ρ',h',e4,Z7⟩:=yH go stop m (i+1) fu pS h2 (by lia) (by lia) tT;refine⟨ρ',h',?_,Z7⟩;simp only[dB,e1,e2,e3,aE,e4]
theorem yI{n i:Nat}{h:VH}(hn:n<1000000):bg .bL (.tup [.int n]) i h=aC (if i<n then aC (.int (i:Int))else aD):=by
 have hf:fits (n:Int)=true:=by unfold fits;simp;lia
 show(if fits (n:Int)then aC (if decide ((i:Int)<n)then aC (W.int (0+i))else aD)else aD)=_;rw[if_pos hf,Int.zero_add];by_cases q:i<n;rw[if_pos q,fW (by lia)];rfl;rw[if_neg q,eF (by lia)];rfl
theorem Z8{h h':VH}{w:W}(hw:W.lt h.n w=false):∃h2,fin h (.ok (.rt w) h')=.ok w h2/\h2.n=h'.n/\(∀i,h2.get i=h'.get i)/\h2.lo=min h.lo h'.lo:=by refine⟨⟨h'.n,if Nat.ble h.lo h'.lo then h.lo else h'.lo,h'.os⟩,?_,rfl,λi=>rfl,?_⟩;show leave h w h'=_;unfold leave;rw[hw,Bool.and_false];rfl;show(if Nat.ble h.lo h'.lo then h.lo else h'.lo)=_;by_cases q:h.lo<=h'.lo;rw[if_pos (pX.mpr q)];lia;rw[if_neg (λz=>q (pX.mp z))];lia
theorem Z9{i n:Nat}(h:n<=i):W.lt n (.ref i)=false:=by show Nat.blt i n=false;rw[<-Bool.not_eq_true,gw];lia
section
variable{cl:Call}{ρ:En}{h h1 h2 h3 h':VH}{a b r:E}
theorem aN{x:W}{xs:List W}(ea:ev cl a ρ h=.ok x h1)(er:ev cl r ρ h1=.ok (.tup xs) h2):ev cl (.cons a r) ρ h=.ok (.tup (x::xs)) h2:=by rw[ev,ea,aE,er];rfl
theorem bG:ev cl .nil ρ h=.ok (.tup []) h:=by rw[ev]
theorem bw{w:W}:ev cl (.cst w) ρ h=.ok w h:=by rw[ev]
theorem fL{ys:List W}(ea:ev cl a ρ h=.ok (.tup ys) h1)(hl:Nat.ble ys.length 1000):ev cl (.lst a) ρ h=.ok (.ref h1.n) (h1.new (.lst ys)):=by rw[ev,ea,aE];show(if Nat.ble ys.length 1000=true then _ else _)=_;rw[if_pos hl]
theorem gE{ys:List W}(ea:ev cl a ρ h=.ok (.tup ys) h1)(hl:Nat.ble ys.length 1000):ev cl (.tup a) ρ h=.ok (.tup ys) h1:=by rw[ev,ea,aE];show(if Nat.ble ys.length 1000=true then _ else _)=_;rw[if_pos hl]
theorem iF{ys:List W}{n:Nat}{w:W}(ea:ev cl a ρ h=.ok (.tup ys) h1)(e:cl n ys h1=.ok w h'):ev cl (.call n a) ρ h=.ok w h':=by rw[ev,ea,aE];exact e
theorem QL{x:W}{ws:List W}(ea:ev cl a ρ h=.ok x h1)(e:aS h1 x=aC ws):ev cl (.bi .tuple (.cons a .nil)) ρ h=.ok (.tup ws) h1:=by rw[ev,aN ea bG,aE];show qL [x] h1=_;simp only[qL,e,bV]
theorem lcM{k:Kd}{t:Tg}{ow:Nat}{ix:List Nat}{x:W}{ys:List W}(ea:ev cl a ρ h=.ok x h1)(el:eV (bg k x) (bz t) (λ_ h=>.ok (.bl true) h) (ev cl b) fuel 0 (inner ow ix ρ) h1 []=.ok ys h2)(hy:ys.length<=1000000) :
 ev cl (.lc k a t ow ix (.cst (.bl true)) b) ρ h=.ok (.ref h2.n) (h2.new (.lst ys)):=by
 rw[ev,ea,aE,Zj,el,aE,if_pos (sj hy)]
theorem ki{k:Kd}{t:Tg}{x:W}{s:S}(ea:ev cl a ρ h=.ok x h1):exs cl (.«for» k a t s) ρ h=dB (bg k x) (bz t) (exs cl s) fuel 0 ρ h1:=by rw[exs,ea,aE]
end
noncomputable def Pv(w:W):Prop:=∀n,W.lt n w=true
theorem Pv.tup{ws:List W}(h:∀w∈ws,Pv w):Pv (.tup ws):=λn=>by
 rw[lg];induction ws with
 |nil=>rfl
 |cons a r ih=>
  rw[iC,h a (fY ..),ih λw hw=>h w (ff _ hw)];rfl
structure Gm(h h':VH):Prop where
 le:h.n<=h'.n
 lo:min h.lo h.n<=h'.lo
 get:∀j,j<h.n->h'.get j=h.get j
theorem Gm.refl{h:VH}:Gm h h:=⟨aW _,Di _ _,λ_ _=>rfl⟩
theorem Gm.trans{a b c:VH}(x:Gm a b)(y:Gm b c):Gm a c:=⟨gY x.le y.le,by
 have:=x.lo;have:=y.lo;have:=x.le;lia,λj hj=>by rw[y.get j (dS hj x.le),x.get j hj]⟩
theorem Gm.new{h h':VH}{o:VO}(x:Gm h h'):Gm h (h'.new o):=⟨Nat.le_succ_of_le x.le,x.lo,λj hj=>by rw[jA (dS hj x.le),x.get j hj]⟩
theorem Gm.set{h h':VH}{o:VO}{a:Nat}(x:Gm h h')(ha:h.n<=a)(hb:a<h'.n):Gm h (h'.set a o):=⟨x.le,by
 have:=x.lo;show _<=if Nat.blt a h'.lo then a else h'.lo
 split<;>lia,λj hj=>by rw[k6 hb (by lia),x.get j hj]⟩
theorem zyw{h h':VH}{w:W}(hw:W.lt h.n w=false)(x:Gm ⟨h.n,h.n,h.os⟩ h'):∃h2,fin h (.ok (.rt w) h')=.ok w h2/\Gm h h2/\∀i,h2.get i=h'.get i:=by obtain⟨h2,e,n2,G,l2⟩:=Z8 (h':=h') hw;refine⟨h2,e,⟨by rw[n2];exact x.le,?_,λj hj=>by rw[G,x.get j hj];rfl⟩,G⟩;have:=x.lo;have e2:(⟨h.n,h.n,h.os⟩:VH).lo=h.n:=rfl;have e3:(⟨h.n,h.n,h.os⟩:VH).n=h.n:=rfl;rw[l2];rw[e2,e3]at this;lia
theorem JW{h h':VH}{w:W}(p:Pv w)(x:Gm ⟨h.n,h.n,h.os⟩ h'):fin h (.ok (.rt w) h')=.ok w h:=dF (by
 have:=x.lo;have e2:(⟨h.n,h.n,h.os⟩:VH).lo=h.n:=rfl;have e3:(⟨h.n,h.n,h.os⟩:VH).n=h.n:=rfl;rw[e2,e3]at this;lia) (p _)
theorem wQ{a i:Nat}{h:VH}{ws:List W}(g:h.get a=aC (.lst ws)):bg .seq (.ref a) i h=aC ws[i]?:=by simp only[bg,aS,g,iT]
theorem JX{a:Nat}{h:VH}{ws:List W}(g:h.get a=aC (.lst ws)):aS h (.ref a)=aC ws:=by simp only[aS,g]
theorem yJ{cl:Call}{c:E}{a b:S}{ρ:En}{h h1:VH}(e:ev cl c ρ h=.ok (.bl true) h1):exs cl (.ite c a b) ρ h=exs cl a ρ h1:=by rw[exs,e,aE]
theorem nB{cl:Call}{c:E}{a b:S}{ρ:En}{h h1:VH}(e:ev cl c ρ h=.ok (.bl false) h1):exs cl (.ite c a b) ρ h=exs cl b ρ h1:=by rw[exs,e,aE]
theorem oX{cl:Call}{e:E}{ρ:En}{h h1:VH}{t:Bool}(ee:ev cl e ρ h=.ok (.bl t) h1):ev cl (.not (.jz e)) ρ h=.ok (.bl (!t)) h1:=by rw[ev,ev,ee,aE];rfl
theorem QM{h hx h'':VH}{w w':W}(e:leave ⟨h.n,h.n,h.os⟩ w hx=.ok w' h''):∃h',leave h w hx=.ok w' h'/\h'.n=h''.n/\(∀i,h'.get i=h''.get i)/\min h.lo h''.lo<=h'.lo:=by
 unfold leave at e ⊢;by_cases c:(Nat.ble h.n hx.lo&&W.lt h.n w)=true;rw[if_pos c]at e ⊢;cases e;exact⟨h,rfl,rfl,λi=>rfl,Di _ _⟩;rw[if_neg c]at e ⊢;cases e;refine⟨_,rfl,rfl,λi=>rfl,?_⟩;show min h.lo (if Nat.ble h.n hx.lo then h.n else hx.lo)<=if Nat.ble h.lo hx.lo then h.lo else hx.lo
 by_cases c1:Nat.ble h.n hx.lo=true;rw[if_pos c1];have:=jD c1;split<;>lia;rw[if_neg c1];split;exact Di _ _;exact Nat.min_le_right _ _
theorem QN{F:Nat->Option Fn}{k f:Nat}{ws:List W}{h h'':VH}{w:W}(e:run F k f ws ⟨h.n,h.n,h.os⟩=.ok w h''):∃h',run F k f ws h=.ok w h'/\h'.n=h''.n/\(∀i,h'.get i=h''.get i)/\min h.lo h''.lo<=h'.lo:=by
 cases k with
 |zero=>cases e
 |succ k=>
  unfold run at e ⊢;cases z:F f with
  |none=>rw[z]at e;cases e
  |some fn=>
   rw[z]at e;simp only at e ⊢;by_cases c:Nat.beq ws.length fn.ps=true;rw[if_pos c]at e ⊢;cases x:exs (run F k) fn.body (ws.map aC++bE (fn.n-fn.ps) aD) ⟨h.n,h.n,h.os⟩with
   |no=>rw[x]at e;cases e
   |ex _ _=>rw[x]at e;cases e
   |ok fl hx=>
    rw[x]at e;cases fl with|nx ρ=>exact QM e|rt w=>exact QM e|bk _=>cases e|ct _=>cases e
   rw[if_neg c]at e;cases e
section
variable{F:Nat->Option Fn}(C:uB F)
include C
theorem zqv{k:Nat}{h:VH}{B:Bd}{g:Nat}(b:B.Ok)(hg:B.gr=g):∃j h',run F (k+4) 202 [B.w] h=.ok (.ref j) h'/\h'.get j=aC (.lst ((aU g B.fd.length).map aT))/\Gm h h':=by obtain⟨j,h'',e,gj,lo,n⟩:=QI C (k:=k) (h:=⟨h.n,h.n,h.os⟩) b hg (aW _);have gr:=yc F (k+4) 202 [B.w] ⟨h.n,h.n,h.os⟩ _ _ e;obtain⟨h',e2,n2,g2,l2⟩:=QN e;have lo:h''.lo=h.n:=lo;refine⟨j,h',e2,by rw[g2];exact gj,by rw[n2];exact n,by rw[lo]at l2;exact l2,λi hi=>?_⟩;rw[g2,gr.2.2 i hi (by rw[lo];exact hi)];exact bK
end
noncomputable def aR(B:Bd)(p:Pr):W:=.tup [.int (B.co p),iW (B.be p)]
theorem QO:∀ls:List Int,aO intD (ls.map W.int)=aC ls|[]=>rfl|x::r=>by simp only[cu,aO,intD,QO r]
theorem JY{B:Bd}{p:Pr}:dI (aR B p)=aC (B.be p,aC (B.co p)):=by show(aO intD ((B.be p).map W.int)).map (λis=>(is,aC (B.co p)))=_;rw[QO];rfl
theorem QS{B:Bd}{p:Pr}:∀F:List Pr,ek (F.map (aR B)) (F.map aT) (B.be p,aC (B.co p))=(B.fst F p).map aT
 |[]=>rfl
 |f::r=>by
  rw[cu,cu];unfold ek Bd.fst;rw[JY,ko];by_cases h:B.key f=B.key p;have h2:=h;unfold Bd.key at h2;rw[Prod.mk.injEq]at h2;rw[if_pos (by rw[h2.1,h2.2]),fW h];rfl;rw[if_neg (λe=>h (by
   rw[nP,Prod.mk.injEq,nP]at e;unfold Bd.key;rw[e.1,e.2])),eF h]
  exact QS r
theorem CI{h:VH}{p q:Pr}:ck h (aT p) (aT q)=aC (decide (p=q)):=by rw[yC yD yD pR pR,CB]
theorem QT{B:Bd}:∀(ps:List Pr) (s:CS),(ps.foldl B.eZ s).1.length<=s.1.length+ps.length/\(ps.foldl B.eZ s).2.length<=s.2.length+ps.length
 |[],s=>⟨aW _,aW _⟩
 |p::r,s=>by
  obtain⟨h1,h2⟩:=QT (B:=B) r (B.eZ s p);have h3:(B.eZ s p).1.length<=s.1.length+1/\(B.eZ s p).2.length<=s.2.length+1:=by unfold Bd.eZ;split;split;refine⟨nI _,?_⟩;show(if _ then s.2 else _).length<=_;split;exact nI _;rw[fH];exact aW _;exact⟨by rw[fH];exact aW _,nI _⟩;exact⟨nI _,nI _⟩
  rw[List.foldl_cons,dj];lia
structure SU(B:Bd)(k0 h:VH)(d l j:Nat)(ps:List Pr)(s:CS):Prop where
 gd:h.get d=aC (.dt (s.1.map (aR B)) (s.1.map aT))
 gl:h.get l=aC (.lst (s.2.map dR))
 gj:h.get j=aC (.lst (ps.map aT))
 d0:k0.n<=d
 l0:k0.n<=l
 dl:d≠l
 jd:j≠d
 jl:j≠l
 G:Gm k0 h
noncomputable abbrev nh(B:Bd)(d l:Nat)(x3 x4 x5 x6 x7:Option W):En:=[aC B.w,aC (.ref d),aC (.ref l),x3,x4,x5,x6,x7]
section
variable{F:Nat->Option Fn}(Y:jt F)
include Y
theorem zul{k d l j:Nat}{B:Bd}{k0 h:VH}{ps:List Pr}{s:CS}{p:Pr}{x5 x6 x7:Option W}(b:B.Ok)(hf:p.2<B.fd.length)(hl:(p.1.length:Int)=B.gr)(bi:bY p.1)(S:SU B k0 h d l j ps s)(z1:s.1.length<=2000)(z2:s.2.length<=2000) :
 ∃h2 y5 y6 y7,exs (run F (k+3)) EY (nh B d l (aC (iW p.1)) (aC (.int (p.2:Int))) x5 x6 x7) h=.ok (.nx (nh B d l (aC (iW p.1)) (aC (.int (p.2:Int))) y5 y6 y7)) h2/\SU B k0 h2 d l j ps (B.eZ s p):=by
 let cl:=run F (k+3);have e0:=FH Y (k:=k) (h:=h) (B:=B) (ls:=p.1) (f:=p.2) b hf hl bi;let ρ (y5 y6 y7:Option W):En:=nh B d l (aC (iW p.1)) (aC (.int (p.2:Int))) y5 y6 y7;let w5:W:=cY B p.1 p.2;have e1:exs cl (.om [5,6] (.call 175 (.cons (.var 0) (.cons (.var 3) (.cons (.var 4) (.cons (.cst .aL) .nil)))))) (ρ x5 x6 x7) h=.ok (.nx (ρ (aC w5) (aC (iW (B.be p))) x7)) h:=by rw[exs,iF (ys:=[B.w,iW p.1,.int (p.2:Int),.aL]) (aN (aH rfl) (aN (aH rfl) (aN (aH rfl) (aN bw bG)))) e0,aE];rfl
 have ec:ev cl (.cmp .jk (.var 5) (.cst .aL)) (ρ (aC w5) (aC (iW (B.be p))) x7) h=.ok (.bl (B.out p)) h:=by rw[ev,aH (x:=w5) rfl,aE,bw,aE];show Res.of ((aV .jk h (cY B p.1 p.2) .aL).map W.bl) h=_;unfold cY Bd.out;cases(B.aZ p.1 p.2).st<;>rfl
 unfold EY;by_cases ho:B.out p=true;have ew:w5=.int (B.co p):=by show cY B p.1 p.2=_;unfold cY;unfold Bd.out at ho;rw[yS]at ho;rw[ho];rfl
 rw[ho]at ec;rw[ew]at e1 ec;let bS (y7:Option W):En:=ρ (aC (.int (B.co p))) (aC (iW (B.be p))) y7;have ld:=cy S.gd;have ll:=cy S.gl;have eP:∀(y7:Option W)(h:VH),ev cl (.tup (.cons (.var 3) (.cons (.var 4) .nil))) (bS y7) h=.ok (aT p) h:=λy7 h=>gE (ys:=[iW p.1,.int (p.2:Int)]) (aN (aH rfl) (aN (aH rfl) bG)) rfl;have eK:ev cl (.tup (.cons (.var 5) (.cons (.var 6) .nil))) (bS x7) h=.ok (aR B p) h:=gE (ys:=[.int (B.co p),iW (B.be p)]) (aN (aH rfl) (aN (aH rfl) bG)) rfl;have hk:lS .jU h (.ref d)=true:=by simp only[lS,S.gd]
 have eS:∀{w:W}{h1:VH},fQ d (aR B p) (aT p) h=.ok w h1->ev cl (.mt .jU (.var 1) (.cons (.tup (.cons (.var 5) (.cons (.var 6) .nil))) (.cons (.tup (.cons (.var 3) (.cons (.var 4) .nil))) .nil))) (bS x7) h=.ok w h1:=λ{w h1} e=>by
  rw[ev,aH (x:=.ref d) rfl,aE,if_pos hk,aN eK (aN (eP _ _) bG),aE];exact e
 have eN:∀{q:Pr}{h:VH},ev cl (.cmp .ne (.var 7) (.tup (.cons (.var 3) (.cons (.var 4) .nil)))) (bS (aC (aT q))) h=.ok (.bl (!decide (q=p))) h:=λ{q h}=>by
  rw[ev,aH (x:=aT q) rfl,aE,eP,aE];simp only[aV,CI];rfl
 have oY:∀{w:W}{h1 h2:VH}{R:Res Fl},fQ d (aR B p) (aT p) h=.ok w h1->exs cl (.seq (.ite (.cmp .ne (.var 7) (.tup (.cons (.var 3) (.cons (.var 4) .nil)))) (.seq (.expr (.mt .append (.var 2) (.cons (.tup (.cons (.var 7) (.cons (.tup (.cons (.var 3) (.cons (.var 4) .nil))) .nil))) .nil))) .skip) .skip) .skip) (bS (aC w)) h1=.ok (.nx (bS (aC w))) h2->
  exs cl (.seq (.om [5,6] (.call 175 (.cons (.var 0) (.cons (.var 3) (.cons (.var 4) (.cons (.cst .aL) .nil)))))) (.seq (.ite (.cmp .jk (.var 5) (.cst .aL)) (.seq (.set 7 (.mt .jU (.var 1) (.cons (.tup (.cons (.var 5) (.cons (.var 6) .nil))) (.cons (.tup (.cons (.var 3) (.cons (.var 4) .nil))) .nil)))) (.seq (.ite (.cmp .ne (.var 7) (.tup (.cons (.var 3) (.cons (.var 4) .nil)))) (.seq (.expr (.mt .append (.var 2) (.cons (.tup (.cons (.var 7) (.cons (.tup (.cons (.var 3) (.cons (.var 4) .nil))) .nil))) .nil))) .skip) .skip) .skip)) .skip) .skip)) (ρ x5 x6 x7) h=.ok (.nx (bS (aC w))) h2:=λ{w h1 h2 R} es et=>by
  refine(br e1).trans ?_;refine(br (ρ':=bS (aC w)) (h':=h2) ((yJ ec).trans ?_)).trans (by rw[exs]);exact(br (cR (eS es))).trans et
 have hlk:=QS (B:=B) (p:=p) s.1;have hb:Nat.blt (s.1.map (aR B)).length big=true:=Ci (by rw[bT];lia);unfold Bd.eZ;rw[if_pos ho];cases z:B.fst s.1 p with
 |none=>
  rw[z]at hlk;let h1:=h.set d (.dt ((s.1++[p]).map (aR B)) ((s.1++[p]).map aT));have es:fQ d (aR B p) (aT p) h=.ok (aT p) h1:=by unfold fQ;simp only[S.gd,JY,hb,bQ,hlk];show Res.ok (aT p) (h.set d _)=_;rw[show h1=h.set d (.dt ((s.1++[p]).map (aR B)) ((s.1++[p]).map aT))from rfl,kq,kq];rfl
  have en:=eN (q:=p) (h:=h1);rw[fW rfl]at en;refine⟨h1,_,_,_,oY (R:=.no) es ((br (ρ':=bS (aC (aT p))) (h':=h1) ((nB en).trans (by rw[exs]))).trans (by rw[exs])),rY S.gd,?_,?_,S.d0,S.l0,S.dl,S.jd,S.jl,S.G.set S.d0 ld⟩;rw[k6 ld S.dl.symm];exact S.gl;rw[k6 ld S.jd];exact S.gj
 |some f=>
  rw[z]at hlk;have es:fQ d (aR B p) (aT p) h=.ok (aT f) h:=by unfold fQ;simp only[S.gd,JY,hb,bQ,hlk];rfl
  have en:=eN (q:=f) (h:=h);by_cases hfp:f=p;rw[fW hfp]at en;refine⟨h,_,_,_,oY (R:=.no) es ((br (ρ':=bS (aC (aT f))) (h':=h) ((nB en).trans (by rw[exs]))).trans (by rw[exs])),?_⟩;show SU B k0 h d l j ps (s.1,if f=p then s.2 else s.2++[(f,p)]);rw[if_pos hfp];exact S;rw[eF hfp]at en;let h1:=h.set l (.lst ((s.2++[(f,p)]).map dR));have ea:ev cl (.mt .append (.var 2) (.cons (.tup (.cons (.var 7) (.cons (.tup (.cons (.var 3) (.cons (.var 4) .nil))) .nil))) .nil)) (bS (aC (aT f))) h=.ok .aL h1:=by
   have hk:lS .append h (.ref l)=true:=by simp only[lS,S.gl]
   rw[ev,aH (x:=.ref l) rfl,aE,if_pos hk,aN (gE (ys:=[aT f,aT p]) (aN (aH rfl) (aN (eP _ _) bG)) rfl) bG,aE];show lR .append (.ref l) [.tup [aT f,aT p]] h=_;simp only[lR,S.gl];rw[if_pos (Ci (by rw[bT];lia)),show h1=h.set l (.lst ((s.2++[(f,p)]).map dR))from rfl,kq];rfl
  refine⟨h1,_,_,_,oY (R:=.no) es ((br (ρ':=bS (aC (aT f))) (h':=h1) ((yJ en).trans ((br (ρ':=bS (aC (aT f))) (h':=h1) (by rw[exs,ea,aE])).trans (by rw[exs])))).trans (by rw[exs])),?_⟩;show SU B k0 h1 d l j ps (s.1,if f=p then s.2 else s.2++[(f,p)]);rw[if_neg hfp];refine⟨?_,rY S.gl,?_,S.d0,S.l0,S.dl,S.jd,S.jl,S.G.set S.l0 ll⟩;rw[k6 ll S.dl];exact S.gd;rw[k6 ll S.jl];exact S.gj
 have ho2:B.out p=false:=by simpa using ho
 rw[ho2]at ec;refine⟨h,_,_,_,(br e1).trans ((br (ρ':=ρ (aC w5) (aC (iW (B.be p))) x7) (h':=h) ((nB ec).trans (by rw[exs]))).trans (by rw[exs])),?_⟩;unfold Bd.eZ;rw[if_neg ho];exact S
end
theorem JZ{cl:Call}{a:E}{ρ:En}{h h1:VH}{j:Nat}{n:Nat}(ea:ev cl a ρ h=.ok (.ref j) h1)(g:h1.get j=aC (.lst (bE n (.bl true)))):ev cl (.bi .all (.cons a .nil)) ρ h=.ok (.bl true) h1:=by
 have hm:aO tP (bE n (W.bl true))=aC (bE n true):=by
  clear g;induction n with|zero=>rfl|succ n ih=>simp only[nq,aO,tP,ih]
 have ha:(bE n true).all id=true:=by rw[kN];intro x hx;exact(List.mem_replicate.mp hx).2
 rw[ev,aN ea bG,aE];show mV [.ref j] h1=_;simp only[mV,g,hm,iT,ha,bV]
theorem uC{cl:Call}{nx:Nat->VH->Option (Option W)}{tg:W->VH->En->Option En}{e:E}{h:VH}{ws:List W}(hx:∀i,nx i h=aC ws[i]?)(P:En->Prop)(he:∀w∈ws,∀ρ,P ρ->∃bS,tg w h ρ=aC bS/\ev cl e bS h=.ok (.bl true) h/\P bS) :
 ∀(fu i:Nat)(ρ:En)(acc:List W),i<=ws.length->ws.length<fu+i->P ρ->eV nx tg (λ_ h=>.ok (.bl true) h) (ev cl e) fu i ρ h acc=.ok (acc.reverse++bE (ws.length-i) (.bl true)) h
 |0,i,ρ,acc,hi,hl,hP=>by lia
 |fu+1,i,ρ,acc,hi,hl,hP=>by
  cases q:ws[i]? with
  |none=>
   have:=mE.mp q;rw[eV,hx,q,show ws.length-i=0 by lia];simp
  |some w=>
   obtain⟨hi',_⟩:=jx.mp q;obtain⟨bS,e1,e2,P1⟩:=he w (mF q) ρ hP;have ih:=uC hx P he fu (i+1) bS (.bl true::acc) hi' (by lia) P1;rw[eV,hx,q];simp only[e1,aE,e2];rw[ih,show ws.length-i=(ws.length- (i+1))+1 by lia,nq];simp
theorem uD{cl:Call}{kd:Kd}{a e:E}{t:Tg}{ow:Nat}{ix:List Nat}{ρ:En}{h h1:VH}{x:W}{ws:List W}(ea:ev cl a ρ h=.ok x h1)(hx:∀i,bg kd x i h1=aC ws[i]?)(hw:ws.length<=100000)(P:En->Prop)(hP:P (inner ow ix ρ))(he:∀w∈ws,∀ρ,P ρ->∃bS,bz t w h1 ρ=aC bS/\ev cl e bS h1=.ok (.bl true) h1/\P bS) :
 ev cl (.bi .all (.cons (.lc kd a t ow ix (.cst (.bl true)) e) .nil)) ρ h=.ok (.bl true) (h1.new (.lst (bE ws.length (.bl true)))):=by
 have e1:=uC (cl:=cl) (tg:=bz t) (e:=e) hx P he fuel 0 (inner ow ix ρ) [] (jw _) (by have hf:fuel=1000000:=rfl;lia) hP;refine JZ (j:=h1.n) (n:=ws.length) (lcM ea e1 ?_) iJ;simp;lia
section
variable{F:Nat->Option Fn}(C:uB F)(oZ:F 316=aC i7)
include C oZ
theorem zum{k g:Nat}{B:Bd}{h:VH}(b:B.Ok)(hg:B.gr=g) :
 ((B.cN (aU g B.fd.length)).2=[]->run F (k+8) 316 [B.w] h=.ok .aL h)/\
 ((B.cN (aU g B.fd.length)).2≠[]->∃c,run F (k+8) 316 [B.w] h=.ok (dR c) h/\c∈(B.cN (aU g B.fd.length)).2/\∀d∈(B.cN (aU g B.fd.length)).2,kQ d c=false):=by
 let k0:VH:=⟨h.n,h.n,h.os⟩
 let cl:=run F (k+7);let ps:=aU g B.fd.length;have g8:g<=8:=by have:=b.g2;lia
 have hz:ps.length<=1024:=CF g8 b.f2;have CH:=Fi C.b (k:=k) (h:=k0) b;let yK (x1 x2:Option W):En:=[aC B.w,x1,x2,aD,aD,aD,aD,aD]
 let h1:=k0.new (.dt [] []);let h2:=h1.new (.lst []);have s1:ev cl (.bi .Ew .nil) (yK aD aD) k0=.ok (.ref k0.n) h1:=by rw[ev,bG,aE];rfl
 have s2:ev cl (.lst .nil) (yK (aC (.ref k0.n)) aD) h1=.ok (.ref h1.n) h2:=fL bG rfl;obtain⟨j,h3,e3,gj,G3⟩:=zqv C (k:=k+3) (h:=h2) b hg;have ej:=cy gj;have n1:h1.n=k0.n+1:=rfl;have n2:h2.n=k0.n+2:=rfl;have gd2:h2.get k0.n=aC (.dt [] []):=(jA (je _)).trans iJ;have gl2:h2.get h1.n=aC (.lst []):=iJ;have QU:h3.get k0.n=aC (.dt [] []):=by rw[G3.get _ (by lia)];exact gd2
 have QV:h3.get h1.n=aC (.lst []):=by rw[G3.get _ (by lia)];exact gl2
 have jd:j≠k0.n:=by intro e;rw[e,QU]at gj;cases gj
 have jl:j≠h1.n:=by
  intro e;rw[e,QV]at gj;have hl:([]:List W).length=((aU g B.fd.length).map aT).length:=by
   rw[nP]at gj;injection gj with gj
   rw[gj]
  have hm:=ZF (g:=g) (nf:=B.fd.length) (p:=(bE g 0,0)) (by simp) (λx hx=>.inl (List.mem_replicate.mp hx).2) (by have:=b.f1;lia);have hp:=List.length_pos_of_mem hm;rw[bT]at hl;simp at hl;lia
 have S0:SU B k0 h3 k0.n h1.n j ps ([],[]):=⟨QU,QV,gj,aW _,by lia,by lia,jd,jl,(Gm.new (Gm.new Gm.refl)).trans G3⟩
 obtain⟨ρ',h4,e4,hI⟩:=yH (nx:=bg .seq (.ref j)) (tg:=bz (.many [3,4])) (b:=exs cl EY) (n:=ps.length)
  (I:=λi ρ h4=>(∃x3 x4 x5 x6 x7,ρ=nh B k0.n h1.n x3 x4 x5 x6 x7)/\SU B k0 h4 k0.n h1.n j ps (B.cN (ps.take i)))
  (λi ρ h4 hi hI=>by
    obtain⟨⟨x3,x4,x5,x6,x7,rfl⟩,S⟩:=hI;have hx:=gU hi;obtain⟨q1,q2,q3⟩:=JJ (mF hx);generalize ps[i]=p at hx q1 q2 q3;have zl:=QT (B:=B) (ps.take i) ([],[]);have zt:(ps.take i).length<=1024:=by rw[yW];lia
    obtain⟨h5,y5,y6,y7,e5,S5⟩:=zul C.y (k:=k+4) (x5:=x5) (x6:=x6) (x7:=x7) b q3 (by rw[q1,hg]) q2 S (by
     have:=zl.1;show(List.foldl B.eZ ([],[]) (ps.take i)).1.length<=2000;simp at this;lia) (by
     have:=zl.2;show(List.foldl B.eZ ([],[]) (ps.take i)).2.length<=2000;simp at this;lia)
    refine⟨aT p,nh B k0.n h1.n (aC (iW p.1)) (aC (.int (p.2:Int))) x5 x6 x7,_,h5,by rw[wQ S.gj,jf,hx];rfl,rfl,e5,⟨_,_,_,_,_,rfl⟩,?_⟩;rw[Z3 hx];exact S5)
  (λρ h4 hI=>by
    obtain⟨_,S⟩:=hI;rw[wQ S.gj,xw (by rw[bT];exact aW _)])
  ps.length 0 fuel (nh B k0.n h1.n aD aD aD aD aD) h3 (uM _) (show _<1000000 by lia) ⟨⟨aD,aD,aD,aD,aD,rfl⟩,S0⟩
 obtain⟨⟨x3,x4,x5,x6,x7,rfl⟩,S⟩:=hI;rw[List.take_length]at S;have eA:∀{w:W},kZ [.ref h1.n] h4=.ok w h4->exs cl i7.body (yK aD aD) k0=.ok (.rt w) h4:=λ{w} em=>by
  refine(br (ρ':=yK aD aD) (h':=k0) (by rw[exs,oV (x:=B.w) (aH rfl) CH,aE])).trans ?_;refine(br (cR s1)).trans ?_;refine(br (cR s2)).trans ?_;refine(br ((ki (oV (x:=B.w) (aH rfl) e3)).trans e4)).trans ?_;refine kH (gB ?_);rw[ev,aN (aH (x:=.ref h1.n) rfl) bG,aE];exact em
 have em:kZ [.ref h1.n] h4=(if((B.cN ps).2.map dR).isEmpty then .ok .aL h4 else .of ((B.cN ps).2.map dR)[fN ((B.cN ps).2.map jC)]? h4):=by simp only[kZ,S.gl,QA,ZM,bQ]
 refine⟨λhn=>?_,λhn=>?_⟩;have e6:=eA (w:=.aL) (by rw[em,show(B.cN ps).2=[]from hn];rfl);rw[cX oZ rfl];show fin h (exs cl i7.body (yK aD aD) k0)=_;rw[e6];exact JW (λn=>rfl) S.G;obtain⟨c,c1,c2,c3⟩:=ZL (cs:=(B.cN ps).2) hn;refine⟨c,?_,c2,c3⟩;have e6:=eA (w:=dR c) (by
  rw[em,if_neg (by
   cases z:(B.cN ps).2 with|nil=>exact absurd z hn|cons _ _=>simp),jf,c1];rfl)
 rw[cX oZ rfl];show fin h (exs cl i7.body (yK aD aD) k0)=_;rw[e6];refine JW (Pv.tup λw hw=>?_) S.G;rcases eG.mp hw with rfl|hw
 exact λn=>JU;rw[gh.mp hw];exact λn=>JU
end
theorem zun{F:Nat->Option Fn}(A:CoreA F)(pQ:F 17=aC jr){k:Nat}{h:VH}{B:Bd}{ls:List Int}(b:B.Ok)(hl:(ls.length:Int)=B.gr)(bi:bY ls):run F (k+5) 17 [iW ls,.int B.gr] h=.ok (.bl true) h:=by
 have hg:=b.g2;rw[cX pQ rfl];have e:=Ff A (k:=k+1) (h:=⟨h.n,h.n,h.os⟩) (w:=iW ls) (a:=B.gr) (b:=B.gr) (lo:=0) (hi:=1) (by unfold Kn iW;simp) (λws e=>by
  cases e;refine⟨by rw[bT];lia,λx hx=>?_⟩;obtain⟨y,_,rfl⟩:=iK.mp hx;unfold Kn;simp)
 rw[Jz hl bi]at e;simp[jr,exs,ev,e,dF]
structure iG(B:Bd)(p:Pr):Prop where
 f:p.2<B.fd.length
 l:(p.1.length:Int)=B.gr
 b:bY p.1
theorem J0{B:Bd}{g:Nat}(hg:B.gr=g){p:Pr}(h:p∈aU g B.fd.length):iG B p:=by obtain⟨q1,q2,q3⟩:=JJ h;exact⟨q3,by rw[q1,hg],q2⟩
theorem J4{h:VH}{B:Bd}{p:Pr}:toD h 24 (aR B p)=aC (.tuple [.int (B.co p),.tuple ((B.be p).map .int)]):=by unfold aR;rw[nA];simp only[aO,uz (n:=21),wJ (n:=22),iT]
theorem J5{B:Bd}{p:Pr}:gA 24 (aR B p)=true:=by unfold aR;rw[pP];simp only[kr,Cw (n:=21),uQ,nH,pW];rfl
theorem QW{h:VH}{B:Bd}{p q:Pr}:ck h (aR B p) (aR B q)=aC (decide (B.key p=B.key q)):=by rw[yC J5 J5 J4 J4];simp only[PyData.eqv,PyData.eqvAll,CA,nH];unfold Bd.key;by_cases h1:B.co p=B.co q<;>by_cases h2:B.be p=B.be q<;>simp[h1,h2]
theorem QX{B:Bd}{p:Pr}(ho:B.out p):cY B p.1 p.2=.int (B.co p):=by unfold cY;unfold Bd.out at ho;rw[yS]at ho;rw[ho];rfl
section
variable{F:Nat->Option Fn}(C:uB F)(lu:F 311=aC j9)(o4:F 307=aC j8)
include C lu in
theorem zli{k:Nat}{h:VH}{B:Bd}{p:Pr}(b:B.Ok)(P:iG B p):run F (k+6) 311 [aT p,B.w] h=.ok (.bl true) h:=by
 let k0:VH:=⟨h.n,h.n,h.os⟩
 let cl:=run F (k+5);let ρ (x2 x3:Option W):En:=[aC (aT p),aC B.w,x2,x3]
 have c1:=oX (iF (ys:=[aT p,.int 2,.int 2]) (aN (aH (cl:=cl) (i:=0) (ρ:=ρ aD aD) (h:=k0) rfl) (aN bw (aN bw bG))) (rV C.b.toCoreA (k:=k+4) (h:=k0) (w:=aT p) (lo:=2) (hi:=2) (by unfold Kn aT;simp)));have c1:ev cl (.not (.jz (.call 6 (.cons (.var 0) (.cons (.cst (.int (2))) (.cons (.cst (.int (2))) .nil)))))) (ρ aD aD) k0=.ok (.bl false) k0:=c1;have e2:exs cl (.om [2,3] (.var 0)) (ρ aD aD) k0=.ok (.nx (ρ (aC (iW p.1)) (aC (.int (p.2:Int))))) k0:=by rw[exs,aH (x:=aT p) rfl,aE];rfl
 let bS:En:=ρ (aC (iW p.1)) (aC (.int (p.2:Int)));have e3:ev cl (.call 17 (.cons (.var 2) (.cons (.idx (.var 1) (.cst (.int (1)))) .nil))) bS k0=.ok (.bl true) k0:=kI (x:=iW p.1) (y:=.int B.gr) (aH rfl) (bN (x:=B.w) (y:=.int 1) (aH rfl) bw rfl) (zun C.b.toCoreA C.pQ (k:=k) b P.l P.b);have e4:ev cl (.call 1 (.cons (.var 3) (.cons (.cst (.int (0))) (.cons (.op .sub (.bi .len (.cons (.idx (.var 1) (.cst (.int (3)))) .nil)) (.cst (.int (1)))) .nil)))) bS k0=.ok (.bl true) k0:=by
  have hw:within (.int (p.2:Int)) 0 ((B.fd.length:Int)-1)=true:=by have:=P.f;simp only[within,bD,eE];lia
  have e:=oR C.b.toCoreA (k:=k+3) (h:=k0) (w:=.int (p.2:Int)) (lo:=0) (hi:=(B.fd.length:Int)-1) (by unfold Kn;simp);rw[hw]at e;exact iF (ys:=[.int (p.2:Int),.int 0,.int ((B.fd.length:Int)-1)]) (aN (aH rfl) (aN bw (aN (Cu (x:=.int (B.fd.length:Int)) (y:=.int 1) (oU (x:=.tup B.fd) (ws:=B.fd) (bN (x:=B.w) (y:=.int 3) (aH rfl) bw rfl) rfl) bw rfl) bG))) e
 have eb:exs cl j9.body (ρ aD aD) k0=.ok (.rt (.bl true)) k0:=by refine(br (ρ':=ρ aD aD) (h':=k0) ((nB c1).trans (by rw[exs]))).trans ?_;refine(br e2).trans ?_;refine kH (gB ?_);rw[ev,e3,aE];exact e4
 rw[cX lu rfl];show fin h (exs cl j9.body (ρ aD aD) k0)=_;rw[eb];exact dF (aW _) rfl
include C lu o4 in
theorem QY{k:Nat}{h:VH}{B:Bd}{c:kJ}(b:B.Ok)(P1:iG B c.1)(P2:iG B c.2)(o1:B.out c.1)(o2:B.out c.2)(hk:B.key c.1=B.key c.2)(ne:c.1≠c.2):run F (k+8) 307 [B.w,dR c] h=.ok (.bl true) h:=by
 let k0:VH:=⟨h.n,h.n,h.os⟩
 let cl:=run F (k+7);let ρ (x2 x3 x4 x5:Option W):En:=[aC B.w,aC (dR c),x2,x3,x4,x5]
 have CH:=Fi C.b (k:=k) (h:=k0) b;have c1:ev cl (.not (.jz (.call 6 (.cons (.var 1) (.cons (.cst (.int (2))) (.cons (.cst (.int (2))) .nil)))))) (ρ aD aD aD aD) k0=.ok (.bl false) k0:=
  oX (t:=true) (iF (ys:=[dR c,.int 2,.int 2]) (aN (aH (cl:=cl) (i:=1) (ρ:=ρ aD aD aD aD) (h:=k0) rfl) (aN bw (aN bw bG))) (rV C.b.toCoreA (k:=k+6) (h:=k0) (w:=dR c) (lo:=2) (hi:=2) (by unfold Kn dR;simp)))
 let h1:=k0.new (.lst (bE [aT c.1,aT c.2].length (.bl true)));have ea:=uD (cl:=cl) (kd:=.seq) (a:=.var 1) (e:=IU) (t:=.one 0) (ow:=1) (ix:=[0]) (ρ:=ρ aD aD aD aD) (h:=k0) (h1:=k0) (x:=dR c) (ws:=[aT c.1,aT c.2]) (aH rfl) (λi=>rfl) (by simp) (λρ=>∃x,ρ=[x,aC B.w]) ⟨aD,rfl⟩
  (λw hw ρ hP=>by
    obtain⟨x,rfl⟩:=hP;refine⟨[aC w,aC B.w],rfl,?_,_,rfl⟩;have hp:∃p,w=aT p/\iG B p:=by rcases eG.mp hw with rfl|hw;exact⟨_,rfl,P1⟩;rw[gh.mp hw];exact⟨_,rfl,P2⟩
    obtain⟨p,rfl,P⟩:=hp;exact kI (x:=aT p) (y:=B.w) (aH rfl) (aH rfl) (zli C lu (k:=k+1) b P))
 have c2:ev cl (.or (.not (.jz (.call 6 (.cons (.var 1) (.cons (.cst (.int (2))) (.cons (.cst (.int (2))) .nil)))))) (.not (.jz (.bi .all (.cons (.lc .seq (.var 1) (.one 0) 1 [0] (.cst (.bl true)) IU) .nil))))) (ρ aD aD aD aD) k0=.ok (.bl false) h1:=by rw[ev,c1,aE];exact oX (t:=true) ea
 let bS (x4 x5:Option W):En:=ρ (aC (aT c.1)) (aC (aT c.2)) x4 x5;have e2:exs cl (.om [2,3] (.var 1)) (ρ aD aD aD aD) h1=.ok (.nx (bS aD aD)) h1:=by rw[exs,aH (x:=dR c) rfl,aE];rfl
 have d1:=FH C.y (k:=k+4) (h:=h1) (B:=B) (ls:=c.1.1) (f:=c.1.2) b P1.f P1.l P1.b;have d2:=FH C.y (k:=k+4) (h:=h1) (B:=B) (ls:=c.2.1) (f:=c.2.2) b P2.f P2.l P2.b;rw[QX o1]at d1;rw[QX o2]at d2;have e3:exs cl (.om [4,5] (.call 175 (.cons (.var 0) (.cons (.idx (.var 2) (.cst (.int (0)))) (.cons (.idx (.var 2) (.cst (.int (1)))) (.cons (.cst .aL) .nil)))))) (bS aD aD) h1=.ok (.nx (bS (aC (.int (B.co c.1))) (aC (iW (B.be c.1))))) h1:=by rw[exs,iF (ys:=[B.w,iW c.1.1,.int (c.1.2:Int),.aL]) (aN (aH rfl) (aN (bN (x:=aT c.1) (y:=.int 0) (aH rfl) bw rfl) (aN (bN (x:=aT c.1) (y:=.int 1) (aH rfl) bw rfl) (aN bw bG)))) d1,aE];rfl
 let pS:En:=bS (aC (.int (B.co c.1))) (aC (iW (B.be c.1)));have r1:ev cl (.cmp .ne (.var 2) (.var 3)) pS h1=.ok (.bl true) h1:=by rw[ev,aH (x:=aT c.1) rfl,aE,aH (x:=aT c.2) rfl,aE];simp only[aV,CI,eF ne];rfl
 have r2:ev cl (.cmp .jk (.var 4) (.cst .aL)) pS h1=.ok (.bl true) h1:=rfl;have r3:ev cl (.cmp .eq (.tup (.cons (.var 4) (.cons (.var 5) .nil))) (.call 175 (.cons (.var 0) (.cons (.idx (.var 3) (.cst (.int (0)))) (.cons (.idx (.var 3) (.cst (.int (1)))) (.cons (.cst .aL) .nil)))))) pS h1=.ok (.bl true) h1:=by rw[ev,gE (ys:=[.int (B.co c.1),iW (B.be c.1)]) (aN (aH rfl) (aN (aH rfl) bG)) rfl,aE,iF (ys:=[B.w,iW c.2.1,.int (c.2.2:Int),.aL]) (aN (aH rfl) (aN (bN (x:=aT c.2) (y:=.int 0) (aH rfl) bw rfl) (aN (bN (x:=aT c.2) (y:=.int 1) (aH rfl) bw rfl) (aN bw bG)))) d2,aE];show Res.of ((ck h1 (aR B c.1) (aR B c.2)).map W.bl) h1=_;rw[QW,fW hk];rfl
 have eb:exs cl j8.body (ρ aD aD aD aD) k0=.ok (.rt (.bl true)) h1:=by refine(br (ρ':=ρ aD aD aD aD) (h':=k0) (by rw[exs,oV (x:=B.w) (aH rfl) CH,aE])).trans ?_;refine(br (ρ':=ρ aD aD aD aD) (h':=h1) ((nB c2).trans (by rw[exs]))).trans ?_;refine(br e2).trans ?_;refine(br e3).trans ?_;refine kH (gB ?_);rw[ev,r1,aE];show ev cl (.and _ _) pS h1=_;rw[ev,r2,aE];exact r3
 rw[cX o4 rfl];show fin h (exs cl j8.body (ρ aD aD aD aD) k0)=_;rw[eb];exact dF (aW _) rfl
end
noncomputable def gR(B:Bd)(p:Pr):W:=if B.out p then aR B p else .tup []
section
variable{F:Nat->Option Fn}(Y:ja F)(B':iD F)(gS:F 701=aC ym)
include Y B' gS
theorem QZ{k:Nat}{h:VH}{B:Bd}{p:Pr}(b:B.Ok)(P:iG B p):run F (k+12) 701 [B.w,aT p] h=.ok (gR B p) h:=by
 let k0:VH:=⟨h.n,h.n,h.os⟩
 let cl:=run F (k+11);have q:=b.aZ P.f P.l P.b;have e1:=JF Y B' (k:=k) (h:=k0) b P.f P.l P.b;let ρ (x2:Option W):En:=[aC B.w,aC (aT p),x2]
 let w:=iR B p.1 p.2;have s1:ev cl (.call 199 (.cons (.var 0) (.cons (.idx (.var 1) (.cst (.int (0)))) (.cons (.idx (.var 1) (.cst (.int (1)))) .nil)))) (ρ aD) k0=.ok w k0:=
  FG (x:=B.w) (y:=iW p.1) (z:=.int (p.2:Int)) (aH rfl) (bN (x:=aT p) (y:=.int 0) (aH rfl) bw rfl) (bN (x:=aT p) (y:=.int 1) (aH rfl) bw rfl) e1
 have i0:ev cl (.idx (.var 2) (.cst (.int (0)))) (ρ (aC w)) k0=.ok (iW (B.col p.2:: (B.aZ p.1 p.2).cs)) k0:=bN (x:=w) (y:=.int 0) (aH rfl) bw rfl;have c2:ev cl (.cmp .le (.bi .len (.cons (.idx (.var 2) (.cst (.int (0)))) .nil)) (.bi .len (.cons (.idx (.var 0) (.cst (.int (2)))) .nil))) (ρ (aC w)) k0=.ok (.bl (!B.out p)) k0:=by
  rw[ev,oU i0 (ws:=(B.col p.2:: (B.aZ p.1 p.2).cs).map .int) rfl,aE,oU (bN (x:=B.w) (y:=.int 2) (z:=.tup (B.rows.map .tup)) (aH rfl) bw rfl) (ws:=B.rows.map .tup) rfl,aE];simp only[bT,dj];have hd:decide ((((B.aZ p.1 p.2).cs.length+1:Nat):Int)<=(B.rows.length:Int))=!B.out p:=by
   unfold Bd.out;cases z:(B.aZ p.1 p.2).st with|true=>have:=q.c5 z;exact fW (by lia)|false=>have:=q.c3 z;exact eF (by lia)
  rw[<-hd];rfl
 have eb:exs cl ym.body (ρ aD) k0=.ok (.rt (gR B p)) k0:=by
  refine(br (cR s1)).trans ?_;unfold gR;cases z:B.out p with
  |false=>
   rw[z]at c2;exact kH ((yJ c2).trans (kH (gB (gE bG rfl))))
  |true=>
   rw[z]at c2;have i1:ev cl (.idx (.idx (.var 2) (.cst (.int (0)))) (.neg (.cst (.int (1))))) (ρ (aC w)) k0=.ok (.int (B.co p)) k0:=bN (x:=iW (B.col p.2:: (B.aZ p.1 p.2).cs)) (y:=.int (-1)) i0 rfl Qi;have i2:ev cl (.idx (.var 2) (.cst (.int (2)))) (ρ (aC w)) k0=.ok (iW (B.be p)) k0:=bN (x:=w) (y:=.int 2) (aH rfl) bw rfl;exact(br (ρ':=ρ (aC w)) (h':=k0) ((nB c2).trans (by rw[exs]))).trans (kH (gB (gE (ys:=[.int (B.co p),iW (B.be p)]) (aN i1 (aN i2 bG)) rfl)))
 rw[cX gS rfl];show fin h (exs cl ym.body (ρ aD) k0)=_;rw[eb];refine dF (aW _) ?_;unfold gR;split;unfold aR;simp[mC];simp
end
theorem Q0{h:VH}{B:Bd}{p:Pr}:ck h (aR B p) (.tup [])=aC false:=by rw[yC J5 (by rw[pP];rfl) J4 (d':=.tuple []) (by rw[nA];rfl)];rfl
noncomputable def gF(A:List (List Int))(nf i:Nat):List Pr:=(A.take i).flatMap λl=>(List.range nf).map λf=>(l,f)
theorem zox{A:List (List Int)}{nf i:Nat}{l:List Int}(h:A[i]?=aC l):gF A nf (i+1)=gF A nf i++(List.range nf).map λf=>(l,f):=by unfold gF;rw[List.take_add_one,h,List.flatMap_append];simp
theorem zqw{A:List (List Int)}{nf:Nat}(hA:A.length<=256)(hn:nf<=4)(i:Nat):(gF A nf i).length<=1024:=by
 have:∀B:List (List Int),(B.flatMap λl=>(List.range nf).map λf=>(l,f)).length=B.length*nf:=by
  intro B;induction B with|nil=>simp|cons b r ih=>rw[List.flatMap_cons,fH,ih,bT,List.length_range,dj];rw[Nat.succ_mul];lia
 unfold gF;rw[this];have h1:(A.take i).length<=256:=by rw[yW];lia
 exact gY (Nat.mul_le_mul h1 hn) (by decide)
structure wR(B:Bd)(k0 h:VH)(a L:Nat)(A:List (List Int))(rs:List Nat)(ps:List Pr):Prop where
 ga:h.get a=aC (.lst (rs.map .ref))
 gL:h.get L=aC (.lst (A.map iW))
 len:rs.length=ps.length
 at_:∀(i r:Nat)(p:Pr),rs[i]?=aC r->ps[i]?=aC p->h.get r=aC (.lst [aT p,aR B p])
 a0:k0.n<=a
 L0:L≠a
 r0:∀r∈rs,k0.n<=r/\r≠a
 G:Gm k0 h
noncomputable abbrev iH(B:Bd)(a:Nat)(x2 x3 x4:Option W):En:=[aC B.w,aC (.ref a),x2,x3,x4]
section
variable{F:Nat->Option Fn}(C:uB F)(Y:ja F)(sE:F 700=aC E2)(gS:F 701=aC ym)
include C Y gS in
theorem zuo{k a L j:Nat}{B:Bd}{k0 h:VH}{A:List (List Int)}{rs:List Nat}{ps:List Pr}{l:List Int}{x4:Option W}(b:B.Ok)(hj:j<B.fd.length)(hl:(l.length:Int)=B.gr)(bi:bY l)(I:wR B k0 h a L A rs (ps.filter B.out))(hz:rs.length<=100000) :
 ∃h2 y4 rs',exs (run F (k+12)) EZ (iH B a (aC (iW l)) (aC (.int (j:Int))) x4) h=.ok (.nx (iH B a (aC (iW l)) (aC (.int (j:Int))) y4)) h2/\wR B k0 h2 a L A rs' ((ps++[(l,j)]).filter B.out):=by
 let cl:=run F (k+12);let p:Pr:=(l,j)
 have P:iG B p:=⟨hj,hl,bi⟩
 let ρ (y4:Option W):En:=iH B a (aC (iW l)) (aC (.int (j:Int))) y4;have eP:∀{y4:Option W}{h:VH},ev cl (.tup (.cons (.var 2) (.cons (.var 3) .nil))) (ρ y4) h=.ok (aT p) h:=gE (ys:=[iW l,.int (j:Int)]) (aN (aH rfl) (aN (aH rfl) bG)) rfl;have s1:ev cl (.call 701 (.cons (.var 0) (.cons (.tup (.cons (.var 2) (.cons (.var 3) .nil))) .nil))) (ρ x4) h=.ok (gR B p) h:=kI (x:=B.w) (y:=aT p) (aH rfl) eP (QZ Y C.b gS (k:=k) b P);have ec:ev cl (.cmp .ne (.var 4) (.tup .nil)) (ρ (aC (gR B p))) h=.ok (.bl (B.out p)) h:=by
  rw[ev,aH (x:=gR B p) rfl,aE,gE (ys:=[]) bG rfl,aE];unfold gR;cases z:B.out p with
  |true=>
   rw[if_pos rfl];simp only[aV,Q0];rfl
  |false=>rfl
 rw[List.filter_append];unfold EZ;cases z:B.out p with
 |false=>
  rw[z]at ec;refine⟨h,_,rs,(br (cR s1)).trans ((br (ρ':=ρ (aC (gR B p))) (h':=h) ((nB ec).trans (by rw[exs]))).trans (by rw[exs])),?_⟩;rw[show [(l,j)].filter B.out=[]from by rw[List.filter_cons_of_neg (by rw[show B.out (l,j)=false from z];decide)];rfl,nt];exact I
 |true=>
  rw[z]at ec;have ew:gR B p=aR B p:=by unfold gR;rw[z];rfl
  rw[ew]at ec s1;have la:=cy I.ga;let h1:=h.new (.lst [aT p,aR B p]);have wU:h1.get a=aC (.lst (rs.map .ref)):=(jA la).trans I.ga;let h2:=h1.set a (.lst ((rs++[h.n]).map .ref));have ea:ev cl (.mt .append (.var 1) (.cons (.lst (.cons (.tup (.cons (.var 2) (.cons (.var 3) .nil))) (.cons (.var 4) .nil))) .nil)) (ρ (aC (aR B p))) h=.ok .aL h2:=by
   have hk:lS .append h (.ref a)=true:=by simp only[lS,I.ga]
   rw[ev,aH (x:=.ref a) rfl,aE,if_pos hk,aN (fL (ys:=[aT p,aR B p]) (aN eP (aN (aH rfl) bG)) rfl) bG,aE];show lR .append (.ref a) [.ref h.n] h1=_;simp only[lR,wU];rw[if_pos (Ci (by rw[bT];lia)),show h2=h1.set a (.lst ((rs++[h.n]).map .ref))from rfl,kq];rfl
  have n1:h1.n=h.n+1:=rfl;have gk:=I.G.le;refine⟨h2,_,rs++[h.n],(br (cR s1)).trans ((br (ρ':=ρ (aC (aR B p))) (h':=h2) ((yJ ec).trans ((br (ρ':=ρ (aC (aR B p))) (h':=h2) (by rw[exs,ea,aE])).trans (by rw[exs])))).trans (by rw[exs])),?_⟩;rw[show [(l,j)].filter B.out=[p]from by rw[List.filter_cons_of_pos (show B.out (l,j)=true from z)];rfl];refine⟨rY wU,?_,by rw[fH,fH,I.len];rfl,λi r q h3 h4=>?_,I.a0,I.L0,λr hr=>?_,I.G.new.set I.a0 (by lia)⟩;rw[k6 (by lia) I.L0,jA (cy I.gL)];exact I.gL;by_cases hi:i<rs.length;rw[uN hi]at h3;rw[uN (by rw[<-I.len];exact hi)]at h4;have:=I.at_ i r q h3 h4;have hr:=I.r0 r (mF h3);rw[k6 (by lia) hr.2,jA (cy this)];exact this;have hi2:i=rs.length:=by have:=(jx.mp h3).1;rw[fH,sN]at this;lia
  subst hi2;rw[nJ (aW _),Nat.sub_self]at h3;cases h3;rw[I.len,nJ (aW _),Nat.sub_self]at h4;cases h4;rw[k6 (by lia) (by lia)];exact iJ;rcases pB.mp hr with hr|hr
  exact I.r0 r hr;rw[gh.mp hr];exact⟨gk,by lia⟩
include C Y gS in
theorem zqx{k a L i:Nat}{B:Bd}{k0 h:VH}{A:List (List Int)}{rs:List Nat}{l:List Int}{x3 x4:Option W}(b:B.Ok)(hA:A.length<=256)(hl:(l.length:Int)=B.gr)(bi:bY l)(hi:A[i]?=aC l)(I:wR B k0 h a L A rs ((gF A B.fd.length i).filter B.out)) :
 ∃h2 y3 y4 rs',exs (run F (k+12)) E1 (iH B a (aC (iW l)) x3 x4) h=.ok (.nx (iH B a (aC (iW l)) y3 y4)) h2/\wR B k0 h2 a L A rs' ((gF A B.fd.length (i+1)).filter B.out):=by
 have yF:=b.f2;obtain⟨ρ',h',e1,hI⟩:=yH (nx:=bg .bL (.tup [.int (B.fd.length:Int)])) (tg:=bz (.one 3)) (b:=exs (run F (k+12)) EZ) (n:=B.fd.length)
  (I:=λj ρ h1=>∃x3 x4 rs,ρ=iH B a (aC (iW l)) x3 x4/\wR B k0 h1 a L A rs ((gF A B.fd.length i++(List.range j).map λf=>(l,f)).filter B.out))
  (λj ρ h1 hj hI=>by
    obtain⟨x3,x4,rs,rfl,I⟩:=hI;have hz:rs.length<=100000:=by rw[I.len];have h1:=Dq B.out (gF A B.fd.length i++(List.range j).map λf=>(l,f));rw[fH,bT,List.length_range]at h1;have:=zqw (nf:=B.fd.length) hA yF i;lia
    obtain⟨h2,y4,rs',e2,I2⟩:=zuo C Y gS (k:=k) (j:=j) (x4:=x4) b hj hl bi I hz;refine⟨.int (j:Int),iH B a (aC (iW l)) (aC (.int (j:Int))) x4,_,h2,by rw[yI (by lia),if_pos hj],rfl,e2,_,y4,rs',rfl,?_⟩;rw[List.range_succ,kq,<-List.append_assoc];exact I2)
  (λρ h1 hI=>by rw[yI (by lia),if_neg (kj _)])
  B.fd.length 0 fuel (iH B a (aC (iW l)) x3 x4) h (uM _) (show _<1000000 by lia) ⟨x3,x4,rs,rfl,by simpa using I⟩
 obtain⟨y3,y4,rs',rfl,I'⟩:=hI;rw[<-zox hi]at I';refine⟨h',y3,y4,rs',?_,I'⟩;unfold E1;exact(br ((ki (x:=.tup [.int (B.fd.length:Int)]) (aN (oU (ws:=B.fd) (bN (x:=B.w) (aH rfl) bw rfl) rfl) bG)).trans e1)).trans (by rw[exs])
include C in
theorem zqy{k g:Nat}{h:VH}(g8:g<=8):∃j h',run F (k+3) 190 [.int (g:Int)] h=.ok (.ref j) h'/\h'.get j=aC (.lst ((bB g).map iW))/\Gm h h':=by obtain⟨j,h'',e,gj,lo,n⟩:=QG C (k:=k) (h:=⟨h.n,h.n,h.os⟩) g8 (aW _);have gr:=yc F (k+3) 190 [.int (g:Int)] ⟨h.n,h.n,h.os⟩ _ _ e;obtain⟨h',e2,n2,g2,l2⟩:=QN e;have lo:h''.lo=h.n:=lo;refine⟨j,h',e2,by rw[g2];exact gj,by rw[n2];exact n,by rw[lo]at l2;exact l2,λi hi=>?_⟩;rw[g2,gr.2.2 i hi (by rw[lo];exact hi)];exact bK
include C Y sE gS in
theorem zup{k g:Nat}{B:Bd}{h:VH}(b:B.Ok)(hg:B.gr=g):∃(a:Nat) (h':VH) (rs:List Nat),run F (k+13) 700 [B.w] h=.ok (.ref a) h'/\h'.get a=aC (.lst (rs.map .ref))/\rs.length=((aU g B.fd.length).filter B.out).length/\
 (∀(i r:Nat)(p:Pr),rs[i]?=aC r->((aU g B.fd.length).filter B.out)[i]?=aC p->h'.get r=aC (.lst [aT p,aR B p]))/\Gm h h':=by
 let k0:VH:=⟨h.n,h.n,h.os⟩
 let cl:=run F (k+12);let k1:=k0.new (.lst []);have g8:g<=8:=by have:=b.g2;lia
 obtain⟨L,h1,e1,g1,G1⟩:=zqy C (k:=k+9) (h:=k1) g8;have hA:(bB g).length<=256:=by rw[wL];exact gY (Nat.pow_le_pow_right (by decide) g8) (by decide)
 have wU:h1.get h.n=aC (.lst []):=by rw[G1.get _ (je _)];exact iJ
 have La:L≠h.n:=by
  intro e;rw[e,wU]at g1;have hl:([]:List W).length=((bB g).map iW).length:=by
   rw[nP]at g1;injection g1 with g1
   rw[g1]
  rw[bT,wL]at hl;have:=Nat.two_pow_pos g;simp at hl;lia
 have I0:wR B k0 h1 h.n L (bB g) [] ((gF (bB g) B.fd.length 0).filter B.out):=
  ⟨wU,g1,rfl,(λi r p e=>by cases e),aW _,La,(λr hr=>by cases hr),(Gm.new Gm.refl).trans G1⟩
 obtain⟨ρ',h2,e2,hI⟩:=yH (nx:=bg .seq (.ref L)) (tg:=bz (.one 2)) (b:=exs cl E1) (n:=(bB g).length)
  (I:=λi ρ h2=>∃x2 x3 x4 rs,ρ=iH B h.n x2 x3 x4/\wR B k0 h2 h.n L (bB g) rs ((gF (bB g) B.fd.length i).filter B.out))
  (λi ρ h2 hi hI=>by
    obtain⟨x2,x3,x4,rs,rfl,I⟩:=hI;have hx:=gU hi;obtain⟨q1,q2⟩:=CD g _ (mF hx);obtain⟨h3,y3,y4,rs',e3,I3⟩:=zqx C Y gS (k:=k) (x3:=x3) (x4:=x4) b hA (by rw[q1,hg]) q2 hx I;exact⟨iW (bB g)[i],iH B h.n (aC (iW (bB g)[i])) x3 x4,_,h3,by rw[wQ I.gL,jf,hx];rfl,rfl,e3,_,_,_,_,rfl,I3⟩)
  (λρ h2 hI=>by
    obtain⟨_,_,_,_,_,I⟩:=hI;rw[wQ I.gL,xw (by rw[bT];exact aW _)])
  (bB g).length 0 fuel (iH B h.n aD aD aD) h1 (uM _) (show _<1000000 by lia) ⟨aD,aD,aD,[],rfl,I0⟩
 obtain⟨x2,x3,x4,rs,rfl,I⟩:=hI;have ep:gF (bB g) B.fd.length (bB g).length=aU g B.fd.length:=by unfold gF aU;rw[List.take_length]
 rw[ep]at I;have eb:exs cl E2.body [aC B.w,aD,aD,aD,aD] k0=.ok (.rt (.ref h.n)) h2:=by refine(br (cR (fL bG rfl))).trans ?_;refine(br ((ki (oV (x:=.int (g:Int)) (bN (x:=B.w) (y:=.int 1) (aH rfl) bw (by rw[<-hg];rfl)) e1)).trans e2)).trans ?_;exact kH (gB (aH rfl))
 obtain⟨h3,e3,G3,g3⟩:=zyw (h:=h) (h':=h2) (w:=.ref h.n) (Z9 (aW _)) I.G;refine⟨h.n,h3,rs,?_,by rw[g3];exact I.ga,I.len,λi r p h4 h5=>by rw[g3];exact I.at_ i r p h4 h5,G3⟩;rw[cX sE rfl,<-e3];exact pT (fin h) eb
end
theorem zyx{h:VH}{p:Pr}:ck h (.tup [aT p]) (.tup [aT p])=aC true:=by
 have e:toD h 23 (aT p)=aC (gC p):=by unfold aT gC;rw[nA];simp only[aO,uz (n:=20),wJ (n:=21),iT]
 have pl:gA 23 (aT p)=true:=by unfold aT;rw[pP];simp only[kr,Cw (n:=20),uQ,nH,pW];rfl
 have e2:toD h 24 (.tup [aT p])=aC (.tuple [gC p]):=by rw[nA];simp only[aO,e,iT]
 have p2:gA 24 (.tup [aT p])=true:=by rw[pP];simp only[kr,pl,uQ,nH]
 rw[yC p2 p2 e2 e2];simp only[PyData.eqv,PyData.eqvAll,CB,decide_true,nH]
structure Ends(B:Bd)(g:Nat)(h:VH)(a:Nat)(rs:List Nat):Prop where
 ga:h.get a=aC (.lst (rs.map .ref))
 len:rs.length=((aU g B.fd.length).filter B.out).length
 at_:∀(i r:Nat)(p:Pr),rs[i]?=aC r->((aU g B.fd.length).filter B.out)[i]?=aC p->h.get r=aC (.lst [aT p,aR B p])
theorem Ends.gm{B:Bd}{g:Nat}{h h':VH}{a:Nat}{rs:List Nat}(E:Ends B g h a rs)(G:Gm h h'):Ends B g h' a rs:=
 ⟨by rw[G.get _ (cy E.ga)];exact E.ga,E.len,λi r p e1 e2=>by have:=E.at_ i r p e1 e2;rw[G.get _ (cy this)];exact this⟩
theorem Ends.mem{B:Bd}{g:Nat}{h:VH}{a:Nat}{rs:List Nat}(E:Ends B g h a rs){r:Nat}(hr:r∈rs):∃p,p∈aU g B.fd.length/\B.out p=true/\h.get r=aC (.lst [aT p,aR B p]):=by
 obtain⟨i,hi,rfl⟩:=List.getElem_of_mem hr;have hp:i< ((aU g B.fd.length).filter B.out).length:=by rw[<-E.len];exact hi
 have hm:=uO.mp (yX hp);exact⟨_,hm.1,hm.2,E.at_ i _ _ (gU hi) (gU hp)⟩
theorem Ends.z{B:Bd}{g:Nat}{h:VH}{a:Nat}{rs:List Nat}(E:Ends B g h a rs)(b:B.Ok)(hg:B.gr=g):rs.length<=1024:=by
 have g8:g<=8:=by have:=b.g2;lia
 have h1:=Dq B.out (aU g B.fd.length);have h2:=CF (g:=g) (nf:=B.fd.length) g8 b.f2;rw[E.len];lia
section
variable{F:Nat->Option Fn}(C:uB F)
include C
theorem zuq{B:Bd}{p:Pr}(b:B.Ok)(P:iG B p):∃c:Nat,B.co p=c/\(c:Int)<B.wd/\((B.be p).length:Int)=B.gr/\bY (B.be p):=by have q:=b.aZ P.f P.l P.b;obtain⟨c,hc⟩:=mG q.c4.1;have h2:=q.c4.2;refine⟨c,hc,?_,?_,q.l2⟩;rw[hc]at h2;exact h2;have:=q.l1;show(((B.aZ p.1 p.2).ls.length:Nat):Int)=B.gr;rw[this];exact P.l
theorem Q2{k g:Nat}{h:VH}{B:Bd}{p:Pr}(b:B.Ok)(hg:B.gr=g)(P:iG B p):run F (k+10) 219 [B.w,iW (B.be p),.int (B.co p)] h=.ok (.tup (((aU g B.fd.length).filter (B.iS (B.be p) (B.co p))).map aT)) h:=by obtain⟨c,hc,h1,h2,h3⟩:=zuq C b P;have:=Z2 C (k:=k) (h:=h) (c:=c) b hg h2 h3 h1;rw[hc];exact this
theorem CJ{k g:Nat}{h:VH}{B:Bd}{p:Pr}(b:B.Ok)(hg:B.gr=g)(P:iG B p)(ho:(aU g B.fd.length).filter (B.iS (B.be p) (B.co p))=[p]):ev (run F (k+10)) B8 [aC (aT p),aC (aR B p),aC B.w] h=.ok (.bl true) h:=by have e1:=Q2 C (k:=k) (h:=h) b hg P;rw[ho]at e1;unfold B8;rw[ev,FG (x:=B.w) (y:=iW (B.be p)) (z:=.int (B.co p)) (aH rfl) (bN (x:=aR B p) (y:=.int 1) (aH rfl) bw rfl) (bN (x:=aR B p) (y:=.int 0) (aH rfl) bw rfl) e1,aE,gE (ys:=[aT p]) (aN (aH rfl) bG) rfl,aE];show Res.of ((ck h (.tup [aT p]) (.tup [aT p])).map W.bl) h=_;rw[zyx];rfl
theorem uE{k g a j:Nat}{h h0:VH}{B:Bd}{rs qs:List Nat}{A:E}{ρ:En}{ix:List Nat}(b:B.Ok)(hg:B.gr=g)(E:Ends B g h a rs)(gj:h.get j=aC (.lst (qs.map .ref)))(hq:∀r∈qs,r∈rs)(hz:qs.length<=100000)(ea:ev (run F (k+10)) A ρ h0=.ok (.ref j) h)(hix:inner 2 ix ρ=[aD,aD,aC B.w])
 (ho:∀r∈qs,∀p,h.get r=aC (.lst [aT p,aR B p])->p∈aU g B.fd.length->B.out p=true->(aU g B.fd.length).filter (B.iS (B.be p) (B.co p))=[p]) :
 ∃h',ev (run F (k+10)) (.bi .all (.cons (.lc .seq A (.many [0,1]) 2 ix (.cst (.bl true)) B8) .nil)) ρ h0=.ok (.bl true) h'/\Gm h h':=by
 have e:=uD (cl:=run F (k+10)) (kd:=.seq) (a:=A) (e:=B8) (t:=.many [0,1]) (ow:=2) (ix:=ix) (ρ:=ρ) (h:=h0) (h1:=h) (x:=.ref j) (ws:=qs.map .ref) ea (λi=>wQ gj) (by rw[bT];exact hz) (λρ=>∃x y,ρ=[x,y,aC B.w]) ⟨aD,aD,hix⟩
  (λw hw ρ hP=>by
    obtain⟨x,y,rfl⟩:=hP;obtain⟨r,hr,rfl⟩:=iK.mp hw;obtain⟨p,p1,p2,p3⟩:=E.mem (hq r hr);refine⟨[aC (aT p),aC (aR B p),aC B.w],?_,CJ C (k:=k) b hg (J0 hg p1) (ho r hr p p3 p1 p2),_,_,rfl⟩;simp only[bz,JX p3,jZ];rfl)
 exact⟨_,e,Gm.new Gm.refl⟩
theorem zqz(wV:F 703=aC B9){k g a:Nat}{h:VH}{B:Bd}{rs:List Nat}(b:B.Ok)(hg:B.gr=g)(E:Ends B g h a rs)(hc:(B.cN (aU g B.fd.length)).2=[]):run F (k+11) 703 [B.w,.ref a] h=.ok (.bl true) h:=by
 let k0:VH:=⟨h.n,h.n,h.os⟩
 have E0:Ends B g k0 a rs:=⟨E.ga,E.len,E.at_⟩
 obtain⟨h',e,G⟩:=uE C (k:=k) (A:=.var 1) (ρ:=[aC B.w,aC (.ref a)]) (h:=k0) (h0:=k0) (qs:=rs) (ix:=[0]) b hg E0 E0.ga (λr hr=>hr) (by have:=E.z b hg;lia) (aH rfl) rfl (λr hr p g1 p1 p2=>Z5 hc p1 p2);have eb:exs (run F (k+10)) B9.body [aC B.w,aC (.ref a)] k0=.ok (.rt (.bl true)) h':=kH (gB e);rw[cX wV rfl];show fin h (exs (run F (k+10)) B9.body [aC B.w,aC (.ref a)] k0)=_;rw[eb];exact JW (λn=>rfl) G
end
theorem Q3{wd g:Int}:∀{r:List W} {c:Int},(∀(j:Nat) (x:W),r[j]?=aC x->eB x (c+ (j:Int)) wd g=true)->bX wd g c r
 |[],_,_=>trivial
 |w::r,c,h=>⟨by have:=h 0 w rfl;rw[show c+ ((0:Nat):Int)=c by lia]at this;exact this,Q3 λj x hx=>by
  have:=h (j+1) x hx;rw[show c+ ((j+1:Nat):Int)=c+1+ (j:Int) by lia]at this;exact this⟩
theorem zyy{c wd g:Int}:eB (.str aI) c wd g=true:=rfl
theorem zyz{g i:Nat}{s:Int}(hi:i<g)(s0:0<=s)(s1:s<2):eB (.tup [.int (i:Int),.int s]) (1+ (i:Int)) ((g:Int)+2) g=true:=by
 unfold eB;rw[if_pos (by
  rw[pA];refine .inr ?_;unfold mq;simp only[within,bD,eE];lia)]
 rw[bD,eE,eE];lia
theorem zoz{g i:Nat}{s:Int}(hi:i<g)(s0:0<=s)(s1:s<2):((((bE (g+2) (W.str aI)).set (1+i) (.tup [.int (i:Int),.int s])).length:Nat):Int)=(g:Int)+2/\bX ((g:Int)+2) g 0 ((bE (g+2) (W.str aI)).set (1+i) (.tup [.int (i:Int),.int s])):=by refine⟨by rw[xC,yU];lia,Q3 λj x hx=>?_⟩;by_cases e:1+i=j;subst e;rw[sM (by rw[yU];lia)]at hx;cases hx;rw[show(0:Int)+ ((1+i:Nat):Int)=1+ (i:Int) by lia];exact zyz hi s0 s1;rw[xx e,Dj]at hx;split at hx;cases hx;exact zyy;cases hx
theorem bF.o9{h h':VH}{d c a:Nat}{o:VO}(K:bF h h' d c)(ha:h.n<=a)(hb:a<h'.n):bF h (h'.set a o) d c:=
 ⟨K.le,λi o' h1 h2 e=>by rw[k6 hb (by have:=cy e;lia)];exact K.get i o' h1 h2 e⟩
theorem Dk.CL{h:VH}{d c b l:Nat}{o o0:VO}(D:Dk h d c b)(g:h.get l=aC o0)(hd:l≠d)(hc:l≠c):Dk (h.set l o) d c b:=by obtain⟨ne,ns,cells,p,q,a1,a2,a3⟩:=D;exact⟨ne,ns,cells,p,q,(k6 (cy g) (eL hd)).trans a1,(k6 (cy g) (eL hc)).trans a2,a3⟩
theorem Dk.lt{h:VH}{d c b:Nat}(D:Dk h d c b):d<h.n/\c<h.n:=by obtain⟨_,ns,cells,p,q,a1,a2,_⟩:=D;exact⟨cy a1,cy a2⟩
structure LI(g:Nat)(k0 h:VH)(d c a n b:Nat)(rows:List (List W)):Prop where
 ga:h.get a=aC (.lst (rows.map .tup))
 len:rows.length=n
 ok:∀r∈rows,(r.length:Int)=(g:Int)+2/\bX ((g:Int)+2) g 0 r
 D:Dk h d c b
 K:bF k0 h d c
 a0:k0.n<=a
 ad:a≠d
 ac:a≠c
theorem LI.app{g:Nat}{k0 h:VH}{d c a n b:Nat}{rows:List (List W)}{r:List W}(L:LI g k0 h d c a n b rows)(hr:(r.length:Int)=(g:Int)+2/\bX ((g:Int)+2) g 0 r):LI g k0 (h.set a (.lst ((rows++[r]).map .tup))) d c a (n+1) b (rows++[r]):=
 ⟨rY L.ga,by rw[fH,L.len];rfl,λq hq=>(pB.mp hq).elim (L.ok q) λm=>by rw[gh.mp m];exact hr,L.D.CL L.ga L.ad L.ac,L.K.o9 L.a0 (cy L.ga),L.a0,L.ad,L.ac⟩
theorem LI.keep{g:Nat}{k0 h h':VH}{d c a n b b':Nat}{rows:List (List W)}(L:LI g k0 h d c a n b rows)(D:Dk h' d c b')(K:bF h h' d c):LI g k0 h' d c a n b' rows:=
 ⟨K.get _ _ L.ad L.ac L.ga,L.len,L.ok,D,L.K.trans K,L.a0,L.ad,L.ac⟩
theorem CM{cl:Call}{ρ:En}{h h1:VH}{a:Nat}{rows:List (List W)}{x:E}{r:List W}(ρ3:ρ[3]?=aC (aC (.ref a)))(ga:h.get a=aC (.lst (rows.map .tup)))(ex:ev cl x ρ h=.ok (.tup r) h1)(wU:h1.get a=aC (.lst (rows.map .tup)))(hz:rows.length<=1000) :
 exs cl (.expr (.mt .append (.var 3) (.cons x .nil))) ρ h=.ok (.nx ρ) (h1.set a (.lst ((rows++[r]).map .tup))):=by
 have hk:lS .append h (.ref a)=true:=by simp only[lS,ga]
 have ea:ev cl (.mt .append (.var 3) (.cons x .nil)) ρ h=.ok .aL (h1.set a (.lst ((rows++[r]).map .tup))):=by rw[ev,aH ρ3,aE,if_pos hk,aN ex bG,aE];show lR .append (.ref a) [.tup r] h1=_;simp only[lR,wU];rw[if_pos (Ci (by rw[bT];lia)),kq];rfl
 rw[exs,ea,aE]
theorem Q4{w:W}:∀n:Nat,(bE n [w]).flatten=bE n w|0=>rfl|n+1=>by rw[nq,sO,nq,Q4 n];rfl
theorem zur{g:Nat}(hg:g<=5):jm .mul [.str aI] ((g:Int)+2)=aC (bE (g+2) (.str aI)):=by
 have h2:((g:Int)+2).toNat=g+2:=by lia
 have hf:fits ((g:Int)+2)=true:=by unfold fits;simp;lia
 unfold jm;rw[if_pos (by rw[hf,h2,sj (show [W.str aI].length* (g+2)<=1000000 by rw[sN];lia)];rfl),h2,Q4]
theorem zus{h:VH}{a:Nat}{xs ys:List W}{n:Int}(g:h.get a=aC (.lst xs))(e:jm .mul xs n=aC ys):eU .mul (.ref a) (.int n) h=.ok (.ref h.n) (h.new (.lst ys)):=by unfold eU;simp only[g,e]
noncomputable abbrev ly(d g a:Nat)(x4 x5 x6 x7:Option W):En:=[aC (.ref d),aC (.int (g:Int)),aC (.int ((g:Int)+2)),aC (.ref a),x4,x5,x6,x7]
section
variable{F:Nat->Option Fn}(C:lq F)
include C
theorem zo0(wW:F 702=aC E3){k g d c b:Nat}{h:VH}(D:Dk h d c b)(hb:b+2000<1000000000)(hg:g<=5) :
 ∃B h',run F (k+6) 702 [.ref d,.int (g:Int)] h=.ok (Bd.w B) h'/\B.Ok/\Dk h' d c (b+2000)/\bF h h' d c:=by
 rw[cX wW rfl];let cl:=run F (k+5);let k0:VH:=⟨h.n,h.n,h.os⟩
 have D0:Dk k0 d c b:=D.lo;obtain⟨d0,c0⟩:=D0.lt;let h1:=k0.new (.lst []);have L0:LI g k0 h1 d c k0.n 0 b []:=⟨iJ,rfl,(λr hr=>by cases hr),D0.new,bF.refl.new,aW _,by lia,by lia⟩
 obtain⟨bS,h2,e2,hI⟩:=yH (nx:=bg .bL (.tup [.int (g:Int)])) (tg:=bz (.one 4)) (b:=exs cl Px) (n:=g)
  (I:=λi ρ h2=>∃x4 x5 rows,ρ=ly d g k0.n x4 x5 aD aD/\LI g k0 h2 d c k0.n i (b+i) rows)
  (λi ρ h2 hi hI=>by
    obtain⟨x4,x5,rows,rfl,L⟩:=hI;let ρ (x5:Option W):En:=ly d g k0.n (aC (.int (i:Int))) x5 aD aD;have lnn:=L.K.le;let h3:=h2.new (.lst [.str aI]);let h4:=h3.new (.lst (bE (g+2) (.str aI)));have s5:ev cl (.op .mul (.lst (.cons (.cst (.str (bZ "."))) .nil)) (.var 2)) (ρ x5) h2=.ok (.ref h3.n) h4:=by refine Cu (x:=.ref h2.n) (y:=.int ((g:Int)+2)) (h1:=h3) (h2:=h3) (fL (ys:=[.str aI]) (aN bw bG) rfl) (aH rfl) ?_;have gg:h3.get h2.n=aC (.lst [.str aI]):=iJ;have er:jm .mul [.str aI] ((g:Int)+2)=aC (bE (g+2) (.str aI)):=zur hg;exact zus gg er
    have D4:Dk h4 d c (b+i):=L.D.new.new;obtain⟨s,h5,e5,s0,s1,D5,K5⟩:=take C.toCoreD (k:=k+2) (m:=2) D4 (by lia) (by lia) (by lia);let bS:En:=ρ (aC (.ref h3.n));have n3:h3.n=h2.n+1:=rfl;have n4:h4.n=h2.n+2:=rfl;obtain⟨dl,cl2⟩:=L.D.lt;have l5:=K5.le;have g5:h5.get h3.n=aC (.lst (bE (g+2) (.str aI))):=K5.get _ _ (by lia) (by lia) iJ;let row:=(bE (g+2) (W.str aI)).set (1+i) (.tup [.int (i:Int),.int s]);let h6:=h5.set h3.n (.lst row);have s6:exs cl (.put (.var 5) (.op .add (.cst (.int (1))) (.var 4)) (.tup (.cons (.var 4) (.cons (.call 5 (.cons (.var 0) (.cons (.cst (.int (2))) .nil))) .nil)))) bS h4=.ok (.nx bS) h6:=by
     rw[exs,gE (ys:=[.int (i:Int),.int s]) (aN (aH rfl) (aN (kI (x:=.ref d) (y:=.int 2) (aH rfl) bw e5) bG)) rfl,aE,aH (x:=.ref h3.n) rfl,aE,show ev cl (.op .add (.cst (.int 1)) (.var 4)) bS h5=.ok (.int (1+ (i:Int))) h5 from Cu (x:=.int 1) (y:=.int (i:Int)) bw (aH rfl) rfl,aE];have hx:iN (bE (g+2) (W.str aI)).length (1+ (i:Int))=aC (1+i):=by rw[show(1+ (i:Int))=((1+i:Nat):Int) by lia];exact Qf (by rw[yU];lia)
     simp only[g5,hx];rfl
    have a1:h2.get k0.n=_:=L.ga;have la:=cy a1;have ga4:h4.get k0.n=aC (.lst (rows.map .tup)):=(jA (by lia)).trans ((jA la).trans a1);have ga5:=K5.get _ _ L.ad L.ac ga4;have FL:h6.get k0.n=aC (.lst (rows.map .tup)):=by rw[k6 (cy g5) (by lia)];exact ga5
    have g6:h6.get h3.n=aC (.lst row):=rY g5;have s7:=CM (cl:=cl) (ρ:=bS) (x:=.bi .tuple (.cons (.var 5) .nil)) rfl FL (QL (x:=.ref h3.n) (aH rfl) (JX g6)) FL (by rw[L.len];lia);have D6:Dk h6 d c (b+i+1):=D5.CL g5 (by lia) (by lia);have K6:bF h2 h6 d c:=(bF.trans (bF.refl.new.new) K5).o9 (by lia) (cy g5);have L6:LI g k0 h6 d c k0.n i (b+i+1) rows:=L.keep D6 K6;refine⟨.int (i:Int),ρ x5,bS,h6.set k0.n (.lst ((rows++[row]).map .tup)),by rw[yI (by lia),if_pos hi],rfl,?_,_,_,rows++[row],rfl,L6.app (zoz hi s0 s1)⟩;refine(br (cR s5)).trans ?_;refine(br s6).trans ?_;exact(br s7).trans (by rw[exs]))
  (λρ h2 hI=>by rw[yI (by lia),if_neg (kj _)])
  g 0 fuel (ly d g k0.n aD aD aD aD) h1 (uM _) (show _<1000000 by lia) ⟨aD,aD,[],rfl,L0⟩
 obtain⟨x4,x5,rows,rfl,L2⟩:=hI;obtain⟨t,h3,e3,t0,t1,D3,K3⟩:=take C.toCoreD (k:=k+2) (m:=3) L2.D (by lia) (by lia) (by lia);obtain⟨t,rfl⟩:=mG t0;have L3:=L2.keep D3 K3;obtain⟨pS,h4,e4,hI⟩:=yH (nx:=bg .bL (.tup [.int (t:Int)])) (tg:=bz (.one 6)) (b:=exs cl Py) (n:=t)
  (I:=λi ρ h4=>∃x6 rows,ρ=ly d g k0.n x4 x5 x6 aD/\LI g k0 h4 d c k0.n (g+i) (b+10+200*i) rows)
  (λi ρ h4 hi hI=>by
    obtain⟨x6,rows,rfl,L⟩:=hI;obtain⟨ws,h5,e5,l5,o5,D5,K5⟩:=QC C (k:=k) (wd:=g+2) (g:=(g:Int)) L.D (by lia) (by lia) (by lia) (by lia);have L5:=L.keep D5 K5;let bS:En:=ly d g k0.n x4 x5 (aC (.int (i:Int))) aD;have s7:=CM (cl:=cl) (ρ:=bS) (x:=.call 104 (.cons (.var 0) (.cons (.var 2) (.cons (.var 1) .nil)))) rfl L.ga (FG (x:=.ref d) (y:=.int ((g:Int)+2)) (z:=.int (g:Int)) (aH rfl) (aH rfl) (aH rfl) (by rw[show((g:Int)+2)=((g+2:Nat):Int) by lia];exact e5)) L5.ga (by rw[L.len];lia);have L6:=L5.app (r:=ws) ⟨by rw[l5];lia,by rw[show((g:Int)+2)=((g+2:Nat):Int) by lia];exact o5⟩;refine⟨.int (i:Int),bS,bS,_,by rw[yI (by lia),if_pos hi],rfl,(br s7).trans (by rw[exs]),_,rows++[ws],rfl,?_⟩;exact⟨L6.ga,L6.len,L6.ok,L6.D.mono (by lia),L6.K,L6.a0,L6.ad,L6.ac⟩)
  (λρ h4 hI=>by rw[yI (by lia),if_neg (kj _)])
  t 0 fuel (ly d g k0.n x4 x5 aD aD) h3 (uM _) (show _<1000000 by lia) ⟨aD,rows,rfl,⟨L3.ga,L3.len,L3.ok,L3.D.mono (by lia),L3.K,L3.a0,L3.ad,L3.ac⟩⟩
 obtain⟨x6,rows,rfl,L4⟩:=hI;obtain⟨ds,h5,e5,p5,l5,D5,K5⟩:=yu (cl:=cl) (P:=λ_ w=>door w 1) (e:=Pz) (tl:=[aC (.ref d)]) (m:=5) (lim:=g+2) (λi h b _ _ D hb=>by
  obtain⟨w,h',e,a1,a2,a3⟩:=QD C (k:=k+1) (nf:=1) D hb (by lia) (by lia);exact⟨w,h',kI (x:=.ref d) (y:=.int 1) (aH rfl) bw e,a1,a2,a3⟩) (g+2) 0 aD h4 _ (by lia) (by lia) L4.D (by lia)
 have s7:=Fp (cl:=cl) (a:=.cons (.var 2) .nil) (ρ:=ly d g k0.n x4 x5 x6 aD) (h:=h4) (h1:=h4) (n:=g+2) (ow:=1) (ix:=[0]) (aN (aH (x:=.int ((g+2:Nat):Int)) rfl) bG) (by lia) e5 (by lia);let h6:=h5.new (.lst ds);have L5:=L4.keep D5 K5;have FL:h6.get k0.n=aC (.lst (rows.map .tup)):=(jA (cy L5.ga)).trans L5.ga;have body:exs cl E3.body [aC (.ref d),aC (.int (g:Int)),aD,aD,aD,aD,aD,aD] k0=.ok (.rt (Bd.w ⟨(g:Int)+2,g,rows,[.int 1],ds⟩)) h6:=by refine(br (cR (x:=.int ((g:Int)+2)) (Cu (x:=.int (g:Int)) (y:=.int 2) (aH rfl) bw rfl))).trans ?_;refine(br (cR (fL bG rfl))).trans ?_;refine(br ((ki (x:=.tup [.int (g:Int)]) (aN (aH rfl) bG)).trans e2)).trans ?_;refine(br ((ki (x:=.tup [.int (t:Int)]) (aN (kI (x:=.ref d) (y:=.int 3) (aH rfl) bw e3) bG)).trans e4)).trans ?_;refine(br (cR s7)).trans ?_;exact kH (gB (gE (aN (aH rfl) (aN (aH rfl) (aN (QL (x:=.ref k0.n) (aH rfl) (JX FL)) (aN (gE (ys:=[.int 1]) (aN bw bG) rfl) (aN (aH rfl) bG))))) rfl))
 have KK:bF k0 h6 d c:=L5.K.new;obtain⟨h8,e8,D8,K8⟩:=yt (cl:=cl) (fl:=.nx []) body (.inr ⟨b,D⟩) (L5.D.new.mono (show _<=b+2000 by lia)) KK;refine⟨⟨(g:Int)+2,g,rows,[.int 1],ds⟩,h8,e8,⟨by show(1:Int)<=(g:Int)+2;lia,by show(g:Int)+2<=40;lia,by show(0:Int)<=g;lia,by show(g:Int)<=8;lia,by have:=L5.len;show rows.length<=60;lia,L5.ok,by show 1<=1;lia,by show 1<=4;lia,λf hf=>?_,by show(ds.length:Int)=(g:Int)+2;lia,λw hw=>Cg p5 w hw⟩,D8,K8⟩;have hf:f∈[W.int 1]:=hf;rw[gh.mp hf];simp only[within,bD,eE];show(0:Int)<=1/\(1:Int)<=(g:Int)+2-1;lia
end
theorem J6{α:Type}{nx:Nat->VH->Option (Option W)}{tg:W->VH->En->Option En}{c e:FE}{ps:List α}{p:α->Bool}{f:α->W}{h:VH}{I:En->Prop}
 (go:∀i ρ a,ps[i]?=aC a->I ρ->∃w bS,nx i h=aC (aC w)/\tg w h ρ=aC bS/\c bS h=.ok (.bl (p a)) h/\e bS h=.ok (f a) h/\I bS) (stop:nx ps.length h=aC aD) :
 ∀(m i fu:Nat)(ρ:En)(acc:List W),i+m=ps.length->m<fu->I ρ->eV nx tg c e fu i ρ h acc=.ok (acc.reverse++((ps.drop i).filter p).map f) h
 |_,_,0,_,_,_,hf,_=>by lia
 |0,i,fu+1,ρ,acc,hi,_,_=>by
  obtain rfl:i=ps.length:=by lia
  rw[List.drop_length];simp only[eV,stop,List.filter_nil,qc,nt]
 |m+1,i,fu+1,ρ,acc,hi,hf,hI=>by
  have hlt:i<ps.length:=by lia
  obtain⟨w,bS,e1,e2,e3,e4,tT⟩:=go i ρ _ (gU hlt) hI;rw[xu hlt,List.filter_cons];cases z:p ps[i]with
  |true=>
   rw[z]at e3;simp only[eV,e1,e2,e3,e4,aE];rw[J6 go stop m (i+1) fu bS _ (by lia) (by lia) tT];simp
  |false=>
   rw[z]at e3;simp only[eV,e1,e2,e3,aE];rw[J6 go stop m (i+1) fu bS _ (by lia) (by lia) tT];simp
theorem lcE{cl:Call}{k:Kd}{a c b:E}{t:Tg}{ow:Nat}{ix:List Nat}{x:W}{ρ:En}{h h1:VH}{ys:List W}(ea:ev cl a ρ h=.ok x h1)(el:eV (bg k x) (bz t) (ev cl c) (ev cl b) fuel 0 (inner ow ix ρ) h1 []=.ok ys h1)(hl:ys.length<=1000000):ev cl (.lc k a t ow ix c b) ρ h=.ok (.ref h1.n) (h1.new (.lst ys)):=by rw[ev,ea,aE];show((eV _ _ _ _ fuel 0 _ h1 []).bind _)=_;rw[el,aE,if_pos (sj hl)]
theorem Q5{h:VH}{p:Pr}{ps:List Pr}(hp:p∈ps):aV .lP h (aT p) (.tup (ps.map aT))=aC false:=by
 have hs:(ps.map gC).all SeqAt.shaped=true:=kN.mpr λd hd=>by
  obtain⟨q,_,rfl⟩:=iK.mp hd;exact wK (h:=h) yD pR
 have hs2:SeqAt.shaped (gC p)=true:=wK (h:=h) yD pR;have ha:L2.dO (ps.map gC) (gC p)=true:=by unfold L2.dO;rw[List.any_eq_true];exact⟨gC p,iK.mpr ⟨p,hp,rfl⟩,by rw[CB];exact fW rfl⟩
 show(kU h (aT p) (.tup (ps.map aT))).map (!·)=_;unfold kU;simp only[aS,pR,Qn,hs,hs2,ha,Bool.and_self,bQ];rfl
theorem zy0{h:VH}{p q:Pr}:aV .lt h (aT p) (aT q)=aC (jb p q):=by show AY h (aT p) (aT q)=_;unfold AY;rw[pR,pR];show(if(SeqAt.shaped (gC p)&&SeqAt.shaped (gC q))=true then _ else _)=_;rw[if_pos (by rw[wK (h:=h) (w:=aT p) yD pR,wK (h:=h) (w:=aT q) yD pR];rfl)];exact JM (n:=21)
theorem zut{p q:Pr}(e:aT p=aT q):p=q:=by have h1:=CI (h:=⟨0,0,[]⟩) (p:=p) (q:=q);rw[e,CI,fW rfl,nP]at h1;exact jc h1.symm
structure Q6(F:Nat->Option Fn):Prop where
 c:uB F
 y:ja F
 p:lq F
 o4:F 307=aC j8
 lu:F 311=aC j9
 oZ:F 316=aC i7
 sE:F 700=aC E2
 gS:F 701=aC ym
 wW:F 702=aC E3
 wV:F 703=aC B9
 J7:F 704=aC Cb
section
variable{F:Nat->Option Fn}(C:Q6 F)
include C
theorem zuu{k g a:Nat}{h:VH}{B:Bd}{rs:List Nat}{c:kJ}{ρ:En}(b:B.Ok)(hg:B.gr=g)(E:Ends B g h a rs)(hc:∀d∈(B.cN (aU g B.fd.length)).2,kQ d c=false)(r4:ρ[4]?=aC (aC (.ref a)))(hix:inner 1 [5] ρ=[aD,aC (dR c)])(r8:8<ρ.length)(hi3:inner 2 [3] (ρ.set 8 (aC (.ref h.n)))=[aD,aD,aC B.w]) :
 ∃h',exs (run F (k+10)) (.seq (.set 8 (.lc .seq (.var 4) (.one 0) 1 [5] yo Ca)) (.seq (.ret (.bi .all (.cons (.lc .seq (.var 8) (.many [0,1]) 2 [3] (.cst (.bl true)) PB) .nil))) .skip)) ρ h=.ok (.rt (.bl true)) h':=by
 let cl:=run F (k+10);let L:=(aU g B.fd.length).filter B.out;let zs:List (Nat×Pr):=rs.zip L;have zl:zs.length=rs.length:=by show(rs.zip L).length=_;rw[List.length_zip,E.len,Nat.min_self]
 have zz:=E.z b hg;have zi:∀(i:Nat)(x:Nat×Pr),zs[i]?=aC x->rs[i]?=aC x.1/\h.get x.1=aC (.lst [aT x.2,aR B x.2]):=λi x hx=>by
  obtain⟨h1,h2⟩:=List.getElem?_zip_eq_some.mp hx;exact⟨h1,E.at_ i _ _ h1 h2⟩
 have el:=J6 (nx:=bg .seq (.ref a)) (tg:=bz (.one 0)) (c:=ev cl yo) (e:=ev cl Ca) (ps:=zs) (p:=λx=>jb x.2 c.1) (f:=λx=>W.ref x.1) (h:=h)
  (I:=λρ=>∃x,ρ=[x,aC (dR c)])
  (λi ρ x hx hI=>by
    obtain⟨y,rfl⟩:=hI;obtain⟨h1,h2⟩:=zi i x hx;refine⟨.ref x.1,[aC (.ref x.1),aC (dR c)],?_,rfl,?_,aH rfl,_,rfl⟩;rw[wQ E.ga,jf,h1];rfl;unfold yo;rw[ev,bN (x:=.ref x.1) (y:=.int 0) (z:=aT x.2) (aH rfl) bw (by simp only[bR,h2];rfl),aE,bN (x:=dR c) (y:=.int 0) (z:=aT c.1) (aH rfl) bw rfl,aE,zy0];rfl)
  (by rw[wQ E.ga,xw (by rw[bT,zl];exact aW _)])
  zs.length 0 fuel [aD,aC (dR c)] [] (uM _) (show _<1000000 by lia) ⟨aD,rfl⟩
 rw[xE,yY,nu]at el;let ys:=zs.filter λx=>jb x.2 c.1;have yl:ys.length<=1024:=gY (Dq _ _) (by lia);let qs:List Nat:=ys.map Prod.fst;have eq:ys.map (λx=>W.ref x.1)=qs.map W.ref:=by rw[List.map_map];rfl
 let h1:=h.new (.lst (qs.map .ref));let bS:=ρ.set 8 (aC (.ref h.n));have e8:ev cl (.lc .seq (.var 4) (.one 0) 1 [5] yo Ca) ρ h=.ok (.ref h.n) h1:=by have:=lcE (cl:=cl) (a:=.var 4) (c:=yo) (b:=Ca) (t:=.one 0) (ow:=1) (ix:=[5]) (x:=.ref a) (aH r4) (by rw[hix];exact el) (by rw[bT];show ys.length<=_;lia);rw[this];show Res.ok _ (h.new (.lst (ys.map λx=>W.ref x.1)))=_;rw[eq]
 obtain⟨h',e,G⟩:=uE C.c (k:=k) (A:=.var 8) (ρ:=bS) (h:=h1) (h0:=h1) (qs:=qs) (ix:=[3]) b hg (E.gm (Gm.new Gm.refl)) iJ (λr hr=>by
  obtain⟨x,hx,rfl⟩:=iK.mp hr;exact(Du (uO.mp hx).1).1) (by rw[bT];lia) (aH (by rw[sM r8])) hi3
  (λr hr p gp p1 p2=>by
    obtain⟨x,hx,rfl⟩:=iK.mp hr;obtain⟨hz,hl⟩:=uO.mp hx;obtain⟨i,hi⟩:=List.mem_iff_getElem?.mp hz;obtain⟨_,h2⟩:=zi i x hi;have h3:h1.get x.1=aC (.lst [aT x.2,aR B x.2]):=(jA (cy h2)).trans h2;have h4:=h3.symm.trans gp;rw[nP]at h4;injection h4 with h4;injection h4 with h4;obtain rfl:=zut h4;exact Z6 hc p1 p2 hl)
 exact⟨h',(br (cR e8)).trans (kH (gB e))⟩
theorem CN{ns:List Int}(hl:ns.length<=63):BY (run F 30 704 [.fz (ns.map .int)] ⟨0,0,[]⟩)=true:=by
 rw[show(30:Nat)=29+1 from rfl,cX C.J7 rfl];obtain⟨h1,e1,D1⟩:=JA C.p.toCoreD (k:=28) (h:=⟨0,0,[]⟩) hl;generalize hsc:W.fz (ns.map .int)=sc at *;clear hl hsc;have D1:Dk h1 1 0 0:=D1;have e1:run F (28+1) 3 [sc] ⟨0,0,[]⟩=.ok (.ref 1) h1:=e1;obtain⟨t,h2,e2,t0,t1,D2,K2⟩:=take C.p.toCoreD (k:=26) (m:=2) D1 (by lia) (by lia) (by lia);obtain⟨B0,h3,e3,b0,_,_,_,D3,K3⟩:=ZT C.p (k:=23) (mw:=9) (mr:=8) (mg:=4) D2 (by lia) (by lia) (by lia) (by lia) (by lia) (by lia) (by lia);obtain⟨B,h4,eI,b⟩:∃B h4,exs (run F 29) (.ite (.cmp .eq (.var 2) (.cst (.int (0)))) (.seq (.set 3 (.call 702 (.cons (.var 1) (.cons (.call 5 (.cons (.var 1) (.cons (.cst (.int (6))) .nil))) .nil)))) .skip) .skip) [aC sc,aC (.ref 1),aC (.int t),aC B0.w,aD,aD,aD,aD,aD] h3=.ok (.nx [aC sc,aC (.ref 1),aC (.int t),aC (Bd.w B),aD,aD,aD,aD,aD]) h4/\B.Ok:=by
  have ec:ev (run F 29) (.cmp .eq (.var 2) (.cst (.int (0)))) [aC sc,aC (.ref 1),aC (.int t),aC B0.w,aD,aD,aD,aD,aD] h3=.ok (.bl (decide (t=0))) h3:=by rw[ev,aH (x:=.int t) rfl,aE,bw,aE];simp only[aV,i8];rfl
  by_cases z:t=0;rw[fW z]at ec;obtain⟨m,h5,e5,m0,m1,D5,K5⟩:=take C.p.toCoreD (k:=26) (m:=6) D3 (by lia) (by lia) (by lia);obtain⟨m,rfl⟩:=mG m0;obtain⟨B,h6,e6,b,D6,K6⟩:=zo0 C.p C.wW (k:=23) (g:=m) D5 (by lia) (by lia);refine⟨B,h6,?_,b⟩;rw[yJ ec];exact(br (cR (kI (x:=.ref 1) (y:=.int (m:Int)) (aH rfl) (kI (x:=.ref 1) (y:=.int 6) (aH rfl) bw e5) e6))).trans (by rw[exs];rfl);rw[eF z]at ec;exact⟨B0,h3,(nB ec).trans (by rw[exs]),b0⟩
 obtain⟨g,hg⟩:=mG b.g1;obtain⟨a,h5,rs,e5,ga,len,at_,G5⟩:=zup C.c C.y C.sE C.gS (k:=16) (h:=h4) b hg;have E5:Ends B g h5 a rs:=⟨ga,len,at_⟩
 obtain⟨u0,u1⟩:=zum C.c C.oZ (k:=21) (h:=h5) b hg;have e3':ev (run F 29) (.call 129 (.cons (.var 1) (.cons (.cst (.int (9))) (.cons (.cst (.int (8))) (.cons (.cst (.int (4))) .nil))))) [aC sc,aC (.ref 1),aC (.int t),aD,aD,aD,aD,aD,aD] h2=.ok B0.w h3:=
  iF (ys:=[.ref 1,.int 9,.int 8,.int 4]) (h1:=h2) (aN (aH rfl) (aN bw (aN bw (aN bw bG)))) e3
 obtain⟨hz,eb⟩:∃hz,exs (run F 29) Cb.body [aC sc,aD,aD,aD,aD,aD,aD,aD,aD] ⟨0,0,[]⟩=.ok (.rt (.bl true)) hz:=by
  rw[show exs (run F 29) Cb.body [aC sc,aD,aD,aD,aD,aD,aD,aD,aD] ⟨0,0,[]⟩=_ from
   (br (cR (h1:=h1) (x:=.ref 1) (oV (aH rfl) e1))).trans ((br (cR (h1:=h2) (x:=.int t) (kI (x:=.ref 1) (y:=.int 2) (aH rfl) bw e2))).trans ((br (cR (h1:=h3) (x:=B0.w) e3')).trans ((br eI).trans (br (cR (h1:=h5) (x:=.ref a) (oV (x:=B.w) (aH rfl) e5))))))]
  let ρ (x5 x6 x7:Option W):En:=[aC sc,aC (.ref 1),aC (.int t),aC (Bd.w B),aC (.ref a),x5,x6,x7,aD]
  by_cases hn:(B.cN (aU g B.fd.length)).2=[]
  have e6:=zqz C.c C.wV (k:=18) b hg E5 hn;refine⟨h5,(br (cR (h1:=h5) (x:=.aL) (oV (x:=B.w) (aH rfl) (u0 hn)))).trans ?_⟩;have ec:ev (run F 29) (.cmp .tN (.var 5) (.cst .aL)) (ρ (aC .aL) aD aD) h5=.ok (.bl true) h5:=rfl;exact kH ((yJ ec).trans (kH (gB (kI (x:=B.w) (y:=.ref a) (aH rfl) (aH rfl) e6))));obtain⟨c,e6,c1,c2⟩:=u1 hn;obtain⟨m1,m2,o1,o2,hk,ne⟩:=(wO (B:=B) (g:=g) (nf:=B.fd.length)).d c c1;have P1:=J0 hg m1;have P2:=J0 hg m2;have ends:∀{p:Pr},iG B p->B.out p=true->run F 29 701 [B.w,aT p] h5=.ok (aR B p) h5:=λ{p} P o=>by
   have:=QZ C.y C.c.b C.gS (k:=17) (h:=h5) b P;unfold gR at this;rw[if_pos o]at this;exact this
  have ec:ev (run F 29) (.cmp .tN (.var 5) (.cst .aL)) (ρ (aC (dR c)) aD aD) h5=.ok (.bl false) h5:=rfl;let fR:=ρ (aC (dR c)) (aC (aR B c.1)) aD;have a1:ev (run F 29) (.not (.jz (.call 307 (.cons (.var 3) (.cons (.var 5) .nil))))) fR h5=.ok (.bl false) h5:=oX (t:=true) (kI (x:=B.w) (y:=dR c) (aH rfl) (aH rfl) (QY C.c C.lu C.o4 (k:=21) b P1 P2 o1 o2 hk ne));have a2:ev (run F 29) (.not (.jz (.call 307 (.cons (.var 3) (.cons (.bi .xV (.cons (.var 5) .nil)) .nil))))) fR h5=.ok (.bl false) h5:=by
   have er:ev (run F 29) (.bi .xV (.cons (.var 5) .nil)) fR h5=.ok (dR (c.2,c.1)) h5:=by rw[ev,aN (aH (x:=dR c) rfl) bG,aE];rfl
   exact oX (t:=true) (kI (x:=B.w) (y:=dR (c.2,c.1)) (aH rfl) er (QY C.c C.lu C.o4 (k:=21) (c:=(c.2,c.1)) b P2 P1 o2 o1 hk.symm (eL ne)))
  have a3:ev (run F 29) (.cmp .ne (.var 6) (.call 701 (.cons (.var 3) (.cons (.idx (.var 5) (.cst (.int (1)))) .nil)))) fR h5=.ok (.bl false) h5:=by rw[ev,aH (x:=aR B c.1) rfl,aE,kI (x:=B.w) (y:=aT c.2) (aH rfl) (bN (x:=dR c) (y:=.int 1) (aH rfl) bw rfl) (ends P2 o2),aE];show Res.of (((ck h5 (aR B c.1) (aR B c.2)).map (!·)).map W.bl) h5=_;rw[QW,fW hk];rfl
  have aa:ev (run F 29) (.or (.not (.jz (.call 307 (.cons (.var 3) (.cons (.var 5) .nil))))) (.or (.not (.jz (.call 307 (.cons (.var 3) (.cons (.bi .xV (.cons (.var 5) .nil)) .nil))))) (.cmp .ne (.var 6) (.call 701 (.cons (.var 3) (.cons (.idx (.var 5) (.cst (.int (1)))) .nil)))))) fR h5=.ok (.bl false) h5:=by rw[ev,a1,aE];show ev (run F 29) (.or _ _) fR h5=_;rw[ev,a2,aE];exact a3
  have bb:ev (run F 29) (.or (.cmp .eq (.var 6) (.tup .nil)) (.cmp .eq (.idx (.var 5) (.cst (.int (0)))) (.idx (.var 5) (.cst (.int (1)))))) fR h5=.ok (.bl false) h5:=by
   have b1:ev (run F 29) (.cmp .eq (.var 6) (.tup .nil)) fR h5=.ok (.bl false) h5:=by rw[ev,aH (x:=aR B c.1) rfl,aE,gE (ys:=[]) bG rfl,aE];show Res.of ((ck h5 (aR B c.1) (.tup [])).map W.bl) h5=_;rw[Q0];rfl
   rw[ev,b1,aE];show ev (run F 29) (.cmp .eq _ _) fR h5=_;rw[ev,bN (x:=dR c) (y:=.int 0) (z:=aT c.1) (aH rfl) bw rfl,aE,bN (x:=dR c) (y:=.int 1) (z:=aT c.2) (aH rfl) bw rfl,aE];show Res.of ((ck h5 (aT c.1) (aT c.2)).map W.bl) h5=_;rw[CI,eF ne];rfl
  have e7:=Q2 C.c (k:=19) (h:=h5) b hg P1;generalize hD:(aU g B.fd.length).filter (B.iS (B.be c.1) (B.co c.1))=D at e7;have i1:c.1∈D:=by rw[<-hD];exact uO.mpr ⟨m1,(yG o1).mpr ⟨o1,rfl⟩⟩
  have i2:c.2∈D:=by rw[<-hD];exact uO.mpr ⟨m2,(yG o1).mpr ⟨o2,hk.symm⟩⟩
  let FN:=ρ (aC (dR c)) (aC (aR B c.1)) (aC (.tup (D.map aT)));have cc:ev (run F 29) (.or (.cmp .lP (.idx (.var 5) (.cst (.int (0)))) (.var 7)) (.cmp .lP (.idx (.var 5) (.cst (.int (1)))) (.var 7))) FN h5=.ok (.bl false) h5:=by
   have b1:ev (run F 29) (.cmp .lP (.idx (.var 5) (.cst (.int (0)))) (.var 7)) FN h5=.ok (.bl false) h5:=by rw[ev,bN (x:=dR c) (y:=.int 0) (z:=aT c.1) (aH rfl) bw rfl,aE,aH (x:=.tup (D.map aT)) rfl,aE,Q5 i1];rfl
   rw[ev,b1,aE];show ev (run F 29) (.cmp .lP _ _) FN h5=_;rw[ev,bN (x:=dR c) (y:=.int 1) (z:=aT c.2) (aH rfl) bw rfl,aE,aH (x:=.tup (D.map aT)) rfl,aE,Q5 i2];rfl
  obtain⟨hz,e8⟩:=zuu C (k:=19) (ρ:=FN) (c:=c) b hg E5 c2 rfl rfl (by show 8<9;lia) rfl;refine⟨hz,(br (cR (h1:=h5) (x:=dR c) (oV (x:=B.w) (aH rfl) e6))).trans ?_⟩;refine(br ((nB ec).trans (by rw[exs]))).trans ?_;refine(br (cR (h1:=h5) (x:=aR B c.1) (kI (x:=B.w) (y:=aT c.1) (aH rfl) (bN (x:=dR c) (y:=.int 0) (aH rfl) bw rfl) (ends P1 o1)))).trans ?_;refine(br ((nB aa).trans (by rw[exs]))).trans ?_;refine(br ((nB bb).trans (by rw[exs]))).trans ?_;refine(br (cR (h1:=h5) (x:=.tup (D.map aT)) (FG (x:=B.w) (y:=iW (B.be c.1)) (z:=.int (B.co c.1)) (aH rfl) (bN (x:=aR B c.1) (y:=.int 1) (aH rfl) bw rfl) (bN (x:=aR B c.1) (y:=.int 0) (aH rfl) bw rfl) e7))).trans ?_;refine(br ((nB cc).trans (by rw[exs]))).trans ?_;exact e8
 show BY (fin ⟨0,0,[]⟩ (exs (run F 29) Cb.body [aC sc,aD,aD,aD,aD,aD,aD,aD,aD] ⟨0,0,[]⟩))=true;rw[eb];have:∃h2,fin ⟨0,0,[]⟩ (.ok (.rt (.bl true)) hz)=.ok (.bl true) h2:=by show ∃h2,leave ⟨0,0,[]⟩ (.bl true) hz=.ok (.bl true) h2;unfold leave;split<;>exact⟨_,rfl⟩
 obtain⟨h12,e12⟩:=this;rw[e12];rfl
end
end RF
namespace HD
open PySem PySem.W PySem.Calls PyProof.Rows
noncomputable section
noncomputable def p:aj:=PySem.Challenge.pw_ballrockers_k63_whole_undone_to_one
noncomputable abbrev S(x:String):Str:=Str.ofString x
noncomputable abbrev U(x:String)(t:Tok):af:=Value.str (S x) t
noncomputable abbrev R(a:ai):af:=Value.ref a
noncomputable abbrev I(i:Int)(t:Tok):af:=Value.int i t
noncomputable abbrev E(P:Params)(x:String)(t:Tok)(v:af):DictEntry:=DictEntry.mk (PyData.keyHash P (S x)) (Value.str (S x) t) v
noncomputable abbrev N(o:Obj)(l r:BT):BT:=BT.node o l r
noncomputable abbrev Z:BT:=BT.nil
noncomputable abbrev L(o:Obj):BT:=BT.node o Z Z
noncomputable abbrev Y(c:String)(d:Data):Obj:=Obj.mk (Value.type c) aD d #[]
noncomputable abbrev X(d:Data):Obj:=Obj.mk Value.none aD d #[]
noncomputable def wX(l:List au)(i:Nat):au:=l.getD i (Stmt.Pass ⟨0,0,0,0⟩)
noncomputable def Q7:au->List au|.FunctionDef _ _ b _ _ _ _ _ _ _=>b|.ClassDef _ _ _ b _ _ _ _ _ _ _=>b|_=>[]
noncomputable def Q8:au->Arguments|.FunctionDef _ a _ _ _ _ _ _ _ _=>a|_=>⟨[],[],aD,[],[],aD,[]⟩
noncomputable def Q9:au->az|.FunctionDef _ _ _ _ _ _ s _ _ _=>s|_=>p.main.scope
noncomputable def fb(i:Nat):List au:=Q7 (wX p.main.body i)
noncomputable def fa(i:Nat):Arguments:=Q8 (wX p.main.body i)
noncomputable def fs(i:Nat):az:=Q9 (wX p.main.body i)
noncomputable def cb(i j:Nat):List au:=Q7 (wX (fb i) j)
noncomputable def ca(i j:Nat):Arguments:=Q8 (wX (fb i) j)
noncomputable def cs(i j:Nat):az:=Q9 (wX (fb i) j)
noncomputable abbrev O:af:=Value.none
noncomputable abbrev J(i:Int):af:=Value.int i 0
noncomputable abbrev V(t:Tok):af:=Value.str (S "/claim/cut.py") t
noncomputable abbrev A(l:Array af):Data:=Data.fields l
noncomputable abbrev B(f:av):Data:=Data.func f
noncomputable abbrev G(x:String)(i:Nat)(g:ai)(c:List (Str×ai))(d k o m:af)(n:Option ai)(cd ct:af)(b:ai):av:=FuncData.mk (S x) (S x) (fa i) (FuncBody.stmts (fb i)) (fs i) g c d k o m n cd ct b
section
variable(P:Params)
noncomputable def N0:Nat:=5358
noncomputable def lo:List Str:=[S "fallen",S "heading_behind",S "come_down"]
noncomputable def keep:List Nat:=[1,2,3,4,5,6,8,9,10,11,13,14,15,16,17,18,19,20,21,22,23,24,25,26,27,28,29,31,32,33,34,35,40,41,42,43,44,46,47,48,49,50,51,52,53,54,55,56,57,58]
noncomputable def life:Life:=(Life.mk [] [] [] 0 [] [] false #[] [] 0 false false false 0 [2000,10,10] false 0 true [] [] 0 false)
noncomputable def m0:Nat:=11
noncomputable def ann:Option af:=(aC (R 6))
noncomputable def env:Env:={scope:=p.main.scope,locals:=mainNs,globals:=mainNs,cells:=[],code:=(R 13),frame:=aC 14}
noncomputable def bd:List au:=behindTheImports p
noncomputable def cd:Code:=Code.body bd env
noncomputable def fr:List Frame:=[topFrame (Pos.mk 0 0 0 0)]
noncomputable abbrev qC(n:String)(t:Nat)(l k:Int)(r m:Nat):Obj:=Y "code" (A #[U n t,U n (t+1),V (t+2),J l,J k,J 0,J 0,J 3,R r,Value.bool true,J 181,R (r+1),O,R (r+2),R (r+3),R (r+4),J (Int.ofNat m),J l,V (m+1)])
noncomputable abbrev qD(n:String)(t:Nat)(l k:Int)(r m:Nat):Obj:=Y "code" (A #[U n t,U n (t+1),V (t+2),J l,J k,J 0,J 0,J 3,R r,Value.bool true,J 181,R (r+1),O,O,O,R (r+2),J (Int.ofNat m),J l,V (m+1)])
noncomputable def qU:Nat->List String->List af|_,[]=>[]|t,x::r=>U x t::qU (t+1) r
noncomputable abbrev qT(t:Nat)(l:List String):Obj:=Y "tuple" (Data.seq (qU t l).toArray 0)
noncomputable abbrev qF(n:String)(i:Nat)(u:af)(r:ai):Obj:=Y "function" (B (G n i 3 [] O O O u aD (R r) O 0))
noncomputable abbrev qG(n:String)(i:Nat):Obj:=X (B (G n i 0 [] O O O O aD O O 0))
noncomputable def qJ:List (Int×Nat)->List af|[]=>[]|(a,b)::r=>J a::J 0::R b::qJ r
noncomputable def qO:List Obj->List Obj|x::_::r=>x::qO r|x=>x
noncomputable def qE:List Obj->List Obj|_::y::r=>y::qE r|_=>[]
noncomputable def qB:Nat->List Obj->BT|f+1,x::r=>N x (qB f (qO r)) (qB f (qE r))|_,_=>Z
 def a0:=(Y "tuple" (Data.seq #[] 0))
 def a1:=(X (A #[]))
 def a2:=(Y "code" (A #[(U "<module>" 182),(U "<module>" 183),(V 184),(J 1),(J 0),(J 0),(J 0),(J 0),(R 11),(Value.bool false),(J 181),(R 12),O,O,O,O,(J 185),(J 1),(V 186)]))
 def a3:=(Obj.mk (Value.type "frame") aD Data.plain #[(aC (R 13)),(aC (R 3)),(aC (R 3)),aD,(aC (U "__main__" 164)),aD,(aC (R 0))])
 def ha:aA:=Heap.mk (Array.mk [(boot_o_0 P),(boot_o_1 P),(boot_o_2 P),(boot_o_3 P),(boot_o_4 P),(boot_o_5 P),(boot_o_6 P),(boot_o_7 P),(boot_o_8 P),(boot_o_9 P),(boot_o_10 P),a0,a1,a2,a3]) (Life.mk [] [] [] 0 [] [] false #[] [] 0 false false false 0 [2000,10,10] false 0 true [] [] 0 false)
noncomputable def sa(w:ak)(os:ay):ah:=⟨ha w.params,(Array.mk []),(Drawn.mk 0 0 0 0),187,os⟩
theorem uF{w:ak}{n:Nat}{s s':SharedT}{l:List au}{pos pos':Pos}(h:PySem.W.Fast.tw10110043849684766642 PySem.W.Fast.tw14364793385576792824 p w m0 ann 1 n s (piecesOf l env cd pos fr)=aC (.next,s',cd,pos')) :
 segRun treeTable p w m0 ann 1 n s.abs (piecesOf l env cd pos fr)=aC (.next,s'.abs,cd,pos'):=
 segRun_of (by rw[PySem.W.Fast.te10110043849684766642,DH];exact h)
theorem CO{w:ak}{n:Nat}{s s':ah}{pos:Pos}(h:PySem.W.Fast.tw15667345088766844465 PySem.W.Fast.tw14364793385576792824 p w m0 ann n s (topStub p)=aC (s',⟨PySem.W.Fast.tw11892475500146522536 PySem.W.Fast.tw14364793385576792824 cd,cd,pos,fr⟩)) :
 topGo treeTable p w m0 ann n s (topStub p)=aC (s',⟨denote treeTable cd,cd,pos,fr⟩):=by
 rw[PySem.W.Fast.te15667345088766844465,DH,PySem.W.Fast.te11892475500146522536];exact h
theorem zuv{w:ak}{n:Nat}{s s':ah}{pos pos':Pos}(h:PySem.W.Fast.tw14374325043358763698 PySem.W.Fast.tw14364793385576792824 p w m0 ann 1 n s (blockOf bd env cd pos fr)=aC (.next,s',cd,pos')) :
 segRun treeTable p w m0 ann 1 n s (blockOf bd env cd pos fr)=aC (.next,s',cd,pos'):=by
 rw[PySem.W.Fast.te14374325043358763698,DH];exact h
theorem CP{w:ak}{n:Nat}{s s':ah}{pos:Pos}(h:PySem.W.Fast.tw14082659384304107361 PySem.W.Fast.tw14364793385576792824 p w m0 ann n s ⟨doneF .next,cd,pos,fr⟩=aC s') :
 topRun treeTable p w m0 ann n s ⟨doneF .next,cd,pos,fr⟩=aC s':=by
 rw[PySem.W.Fast.te14082659384304107361,DH];exact h
set_option maxHeartbeats 0 in
theorem pre(w:ak)(os:ay):topGo treeTable p w m0 ann 12 ⟨boot_heap w.params,Array.mk [],boot_drawn,boot_toks,os⟩ (topStub p)=aC (sa w os,⟨denote treeTable cd,cd,(Pos.mk 0 0 0 0),fr⟩):=CO (by kernel_rfl)
 def Ra:List Obj:=[(boot_o_0 P),(boot_o_1 P),(boot_o_2 P),(boot_o_3 P),(boot_o_4 P),(boot_o_5 P),(boot_o_6 P),(boot_o_7 P),(boot_o_8 P),(boot_o_9 P),(boot_o_10 P),a0,a1,a2,a3]
 def tb:=qB 20 (Ra P)
noncomputable def sb(w:ak)(os:ay):SharedT:=⟨tb w.params,15,life,(Array.mk []),(Drawn.mk 0 0 0 0),187,os⟩
set_option maxHeartbeats 0 in
theorem block(w:ak)(os:ay):segRun treeTable p w m0 ann 1 1 (sa w os) (blockOf bd env cd (Pos.mk 0 0 0 0) fr)=aC (.next,(sb w os).abs,cd,(Pos.mk 0 0 0 0)):=zuv (by kernel_rfl)
 def Rb:=[(E P "__doc__" 166 O),(E P "__package__" 167 O),(E P "__loader__" 168 (Value.builtin "__main__.__loader__#opaque")),(E P "__spec__" 169 O),(E P "__annotations__" 170 (R 6)),(E P "__builtins__" 171 (R 4)),(E P "__file__" 173 (V 172)),(E P "__cached__" 174 O),(E P "BoardError" 206 (R 24)),(E P "NoBoard" 222 (R 37)),(E P "Fault" 249 (R 56)),(E P "NoLeans" 265 (R 68)),(E P "NoFeeder" 281 (R 80)),(E P "NoNumber" 297 (R 92)),(E P "is_whole" 306 (R 101)),(E P "is_whole_within" 315 (R 108)),(E P "is_tuple_within" 324 (R 115)),(E P "are_wholes_within" 336 (R 122)),(E P "MOST_COLUMNS" 340 (I 40 339)),(E P "MOST_ROWS" 342 (I 60 341)),(E P "MOST_GROUPS" 344 (I 8 343)),(E P "MOST_FEEDERS" 346 (I 4 345)),(E P "MOST_NAME" 348 (I 99 347))]
 def a4:=Y "dict" (Data.dict ((E P "__name__" 165 (U "ballrockers.boards" 337))::Rb P).toArray 24)
 def Rc:List (Int×Nat):=[(2,20),(4,33),(6,45),(11,64),(13,76),(15,88),(18,100),(20,107),(22,114),(24,121)]
 def a5:=X (A (qJ Rc).toArray)
 def a6:=(Y "tuple" (Data.seq #[(Value.type "ValueError")] 0))
 def a7:=(Y "builtin_function_or_method" (A #[(Value.builtin "type.__prepare__"),(Value.type "type")]))
 def a8:=(Y "dict" (Data.dict #[(E P "__module__" 196 (U "ballrockers.errors" 187)),(E P "__qualname__" 198 (U "BoardError" 197)),(E P "__firstlineno__" 200 (I 2 199)),(E P "__static_attributes__" 201 (R 22))] 4))
 def a9:=(Y "code" (A #[(U "BoardError" 191),(U "BoardError" 192),(V 193),(J 2),(J 0),(J 0),(J 0),(J 0),(R 18),(Value.bool false),(J 181),(R 19),O,O,O,O,(J 194),(J 2),(V 195)]))
 def IM:=(Obj.mk (Value.type "frame") aD Data.plain #[(aC (R 20)),(aC (R 3)),(aC (R 17)),aD,(aC (U "ballrockers.errors" 187)),aD,(aC (R 0))])
 def a11:=(Y "dict" (Data.dict #[(E P "__module__" 196 (U "ballrockers.errors" 187)),(E P "__firstlineno__" 200 (I 2 199)),(E P "__static_attributes__" 201 (R 22)),(E P "__weakref__" 203 (R 25)),(E P "__doc__" 204 O)] 3))
 def a12:=(Obj.mk (Value.type "type") aD (Data.cls (ClassData.mk (S "BoardError") [(Value.type "ValueError")] [(R 24),(Value.type "ValueError"),(Value.type "Exception"),(Value.type "BaseException"),(Value.type "object")] 23 (S "BoardError") true [] [(R 37),(R 56),(R 68),(R 80),(R 92)] false aD false)) #[(aC (R 15)),aD,(aC (U "BoardError" 189)),(aC (U "BoardError" 197)),(aC (Value.builtin "ValueError.__new__")),(aC (Value.bool true))])
 def a13:=(Y "getset_descriptor" (A #[(U "__weakref__" 202),(R 24),(Value.builtin "ExceptionGroup.__weakref__"),O]))
 def a14:=(Y "super" (A #[(R 24),(R 24),(R 24)]))
 def a15:=(Y "builtin_function_or_method" (A #[(Value.builtin "object.__init_subclass__"),(R 24)]))
 def CQ:=(Y "tuple" (Data.seq #[(R 24)] 0))
 def a17:=(Y "dict" (Data.dict #[(E P "__module__" 214 (U "ballrockers.errors" 187)),(E P "__qualname__" 216 (U "NoBoard" 215)),(E P "__firstlineno__" 218 (I 4 217)),(E P "__static_attributes__" 219 (R 35))] 4))
 def a18:=(Y "code" (A #[(U "NoBoard" 209),(U "NoBoard" 210),(V 211),(J 4),(J 0),(J 0),(J 0),(J 0),(R 31),(Value.bool false),(J 181),(R 32),O,O,O,O,(J 212),(J 4),(V 213)]))
 def a19:=(Obj.mk (Value.type "frame") aD Data.plain #[(aC (R 33)),(aC (R 3)),(aC (R 30)),aD,(aC (U "ballrockers.errors" 187)),aD,(aC (R 0))])
 def a20:=(Y "dict" (Data.dict #[(E P "__module__" 214 (U "ballrockers.errors" 187)),(E P "__firstlineno__" 218 (I 4 217)),(E P "__static_attributes__" 219 (R 35)),(E P "__doc__" 220 O)] 2))
 def a21:=(Obj.mk (Value.type "type") aD (Data.cls (ClassData.mk (S "NoBoard") [(R 24)] [(R 37),(R 24),(Value.type "ValueError"),(Value.type "Exception"),(Value.type "BaseException"),(Value.type "object")] 36 (S "NoBoard") true [] [] false aD false)) #[(aC (R 28)),aD,(aC (U "NoBoard" 207)),(aC (U "NoBoard" 215)),(aC (Value.builtin "ValueError.__new__")),(aC (Value.bool true))])
 def a22:=(Y "super" (A #[(R 37),(R 37),(R 37)]))
 def a23:=(Y "builtin_function_or_method" (A #[(Value.builtin "object.__init_subclass__"),(R 37)]))
 def a24:=(Y "dict" (Data.dict #[(E P "__module__" 230 (U "ballrockers.errors" 187)),(E P "__qualname__" 232 (U "Fault" 231)),(E P "__firstlineno__" 234 (I 6 233)),(E P "__init__" 243 (R 53)),(E P "__static_attributes__" 246 (R 54))] 5))
 def a25:=(X (A #[(J 8),(J 4),(R 52)]))
 def a26:=(Y "code" (A #[(U "Fault" 225),(U "Fault" 226),(V 227),(J 6),(J 0),(J 0),(J 0),(J 0),(R 43),(Value.bool false),(J 181),(R 44),O,O,O,O,(J 228),(J 6),(V 229)]))
 def a27:=(Obj.mk (Value.type "frame") aD Data.plain #[(aC (R 45)),(aC (R 3)),(aC (R 42)),aD,(aC (U "ballrockers.errors" 187)),aD,(aC (R 0))])
 def a28:=qT 238 ["self","row","column"]
 def a29:=(X (B (FuncData.mk (S "__init__") (S "Fault.__init__") (ca 3 0) (FuncBody.stmts (cb 3 0)) (cs 3 0) 0 [] O O O O aD O O 0)))
 def a30:=(Y "code" (A #[(U "__init__" 235),(U "Fault.__init__" 236),(V 237),(J 8),(J 3),(J 0),(J 0),(J 3),(R 47),(Value.bool true),(J 181),(R 48),O,(R 49),(R 50),(R 51),(J 241),(J 8),(V 242)]))
 def a31:=(Y "function" (B (FuncData.mk (S "__init__") (S "Fault.__init__") (ca 3 0) (FuncBody.stmts (cb 3 0)) (cs 3 0) 3 [] O O O (U "ballrockers.errors" 187) aD (R 52) O 0)))
 def a32:=qT 244 ["column","row"]
 def a33:=(Y "dict" (Data.dict #[(E P "__module__" 230 (U "ballrockers.errors" 187)),(E P "__firstlineno__" 234 (I 6 233)),(E P "__init__" 243 (R 53)),(E P "__static_attributes__" 246 (R 54)),(E P "__doc__" 247 O)] 2))
 def a34:=(Obj.mk (Value.type "type") aD (Data.cls (ClassData.mk (S "Fault") [(R 24)] [(R 56),(R 24),(Value.type "ValueError"),(Value.type "Exception"),(Value.type "BaseException"),(Value.type "object")] 55 (S "Fault") true [] [] false aD false)) #[(aC (R 40)),aD,(aC (U "Fault" 223)),(aC (U "Fault" 231)),(aC (Value.builtin "ValueError.__new__")),(aC (Value.bool true))])
 def a35:=(Y "super" (A #[(R 56),(R 56),(R 56)]))
 def a36:=(Y "builtin_function_or_method" (A #[(Value.builtin "object.__init_subclass__"),(R 56)]))
 def a37:=(Y "dict" (Data.dict #[(E P "__module__" 257 (U "ballrockers.errors" 187)),(E P "__qualname__" 259 (U "NoLeans" 258)),(E P "__firstlineno__" 261 (I 11 260)),(E P "__static_attributes__" 262 (R 66))] 4))
 def a38:=(Y "code" (A #[(U "NoLeans" 252),(U "NoLeans" 253),(V 254),(J 11),(J 0),(J 0),(J 0),(J 0),(R 62),(Value.bool false),(J 181),(R 63),O,O,O,O,(J 255),(J 11),(V 256)]))
 def a39:=(Obj.mk (Value.type "frame") aD Data.plain #[(aC (R 64)),(aC (R 3)),(aC (R 61)),aD,(aC (U "ballrockers.errors" 187)),aD,(aC (R 0))])
 def a40:=(Y "dict" (Data.dict #[(E P "__module__" 257 (U "ballrockers.errors" 187)),(E P "__firstlineno__" 261 (I 11 260)),(E P "__static_attributes__" 262 (R 66)),(E P "__doc__" 263 O)] 2))
 def a41:=(Obj.mk (Value.type "type") aD (Data.cls (ClassData.mk (S "NoLeans") [(R 24)] [(R 68),(R 24),(Value.type "ValueError"),(Value.type "Exception"),(Value.type "BaseException"),(Value.type "object")] 67 (S "NoLeans") true [] [] false aD false)) #[(aC (R 59)),aD,(aC (U "NoLeans" 250)),(aC (U "NoLeans" 258)),(aC (Value.builtin "ValueError.__new__")),(aC (Value.bool true))])
 def a42:=(Y "super" (A #[(R 68),(R 68),(R 68)]))
 def a43:=(Y "builtin_function_or_method" (A #[(Value.builtin "object.__init_subclass__"),(R 68)]))
 def a44:=(Y "dict" (Data.dict #[(E P "__module__" 273 (U "ballrockers.errors" 187)),(E P "__qualname__" 275 (U "NoFeeder" 274)),(E P "__firstlineno__" 277 (I 13 276)),(E P "__static_attributes__" 278 (R 78))] 4))
 def a45:=(Y "code" (A #[(U "NoFeeder" 268),(U "NoFeeder" 269),(V 270),(J 13),(J 0),(J 0),(J 0),(J 0),(R 74),(Value.bool false),(J 181),(R 75),O,O,O,O,(J 271),(J 13),(V 272)]))
 def a46:=(Obj.mk (Value.type "frame") aD Data.plain #[(aC (R 76)),(aC (R 3)),(aC (R 73)),aD,(aC (U "ballrockers.errors" 187)),aD,(aC (R 0))])
 def a47:=(Y "dict" (Data.dict #[(E P "__module__" 273 (U "ballrockers.errors" 187)),(E P "__firstlineno__" 277 (I 13 276)),(E P "__static_attributes__" 278 (R 78)),(E P "__doc__" 279 O)] 2))
 def a48:=(Obj.mk (Value.type "type") aD (Data.cls (ClassData.mk (S "NoFeeder") [(R 24)] [(R 80),(R 24),(Value.type "ValueError"),(Value.type "Exception"),(Value.type "BaseException"),(Value.type "object")] 79 (S "NoFeeder") true [] [] false aD false)) #[(aC (R 71)),aD,(aC (U "NoFeeder" 266)),(aC (U "NoFeeder" 274)),(aC (Value.builtin "ValueError.__new__")),(aC (Value.bool true))])
 def a49:=(Y "super" (A #[(R 80),(R 80),(R 80)]))
 def a50:=(Y "builtin_function_or_method" (A #[(Value.builtin "object.__init_subclass__"),(R 80)]))
 def a51:=(Y "dict" (Data.dict #[(E P "__module__" 289 (U "ballrockers.errors" 187)),(E P "__qualname__" 291 (U "NoNumber" 290)),(E P "__firstlineno__" 293 (I 15 292)),(E P "__static_attributes__" 294 (R 90))] 4))
 def a52:=(Y "code" (A #[(U "NoNumber" 284),(U "NoNumber" 285),(V 286),(J 15),(J 0),(J 0),(J 0),(J 0),(R 86),(Value.bool false),(J 181),(R 87),O,O,O,O,(J 287),(J 15),(V 288)]))
 def a53:=(Obj.mk (Value.type "frame") aD Data.plain #[(aC (R 88)),(aC (R 3)),(aC (R 85)),aD,(aC (U "ballrockers.errors" 187)),aD,(aC (R 0))])
 def a54:=(Y "dict" (Data.dict #[(E P "__module__" 289 (U "ballrockers.errors" 187)),(E P "__firstlineno__" 293 (I 15 292)),(E P "__static_attributes__" 294 (R 90)),(E P "__doc__" 295 O)] 2))
 def a55:=(Obj.mk (Value.type "type") aD (Data.cls (ClassData.mk (S "NoNumber") [(R 24)] [(R 92),(R 24),(Value.type "ValueError"),(Value.type "Exception"),(Value.type "BaseException"),(Value.type "object")] 91 (S "NoNumber") true [] [] false aD false)) #[(aC (R 83)),aD,(aC (U "NoNumber" 282)),(aC (U "NoNumber" 290)),(aC (Value.builtin "ValueError.__new__")),(aC (Value.bool true))])
 def a56:=(Y "super" (A #[(R 92),(R 92),(R 92)]))
 def a57:=(Y "builtin_function_or_method" (A #[(Value.builtin "object.__init_subclass__"),(R 92)]))
 def a58:=qT 303 ["thing"]
 def a59:=qG "is_whole" 8
 def a60:=qC "is_whole" 300 18 1 95 304
 def sF:=U "ballrockers.whole" 298
 def a61:=qF "is_whole" 8 sF 100
 def a62:=qT 310 ["thing","low","high"]
 def a63:=qG "is_whole_within" 9
 def a64:=qC "is_whole_within" 307 20 3 102 313
 def a65:=qF "is_whole_within" 9 sF 107
 def a66:=qT 319 ["thing","fewest","most"]
 def a67:=qG "is_tuple_within" 10
 def a68:=qC "is_tuple_within" 316 22 3 109 322
 def a69:=qF "is_tuple_within" 10 sF 114
 def a70:=qT 328 ["thing","fewest","most","low","high","number"]
 def a71:=qG "are_wholes_within" 11
 def a72:=qC "are_wholes_within" 325 24 5 116 334
 def a73:=qF "are_wholes_within" 11 sF 121
 def Rf:List Obj:=((Ra P).set 3 (a4 P)).set 12 a5++[a6,a7,(a8 P),a0,a1,a9,IM,a0,(a11 P),a12,a13,a14,a15,CQ,a7,(a17 P),a0,a1,a18,a19,a0,(a20 P),a21,a22,a23,CQ,a7,(a24 P),a0,a25,a26,a27,a0,a1,a28,a0,a29,a30,a31,a32,(a33 P),a34,a35,a36,CQ,a7,(a37 P),a0,a1,a38,a39,a0,(a40 P),a41,a42,a43,CQ,a7,(a44 P),a0,a1,a45,a46,a0,(a47 P),a48,a49,a50,CQ,a7,(a51 P),a0,a1,a52,a53,a0,(a54 P),a55,a56,a57,a0,a1,a58,a0,a59,a60,a61,a0,a1,a62,a0,a63,a64,a65,a0,a1,a66,a0,a67,a68,a69,a0,a1,a70,a0,a71,a72,a73]
 def t0:=qB 20 (Rf P)
noncomputable def s0(w:ak)(os:ay):SharedT:=⟨t0 w.params,123,life,(Array.mk []),(Drawn.mk 0 0 0 0),349,os⟩
noncomputable def j0:List au:=(bd.drop 0).take 18
set_option maxHeartbeats 0 in
theorem J8(w:ak)(os:ay):segRun treeTable p w m0 ann 1 1483 (sb w os).abs (piecesOf j0 env cd (Pos.mk 0 0 0 0) fr)=aC (.next,(s0 w os).abs,cd,(Pos.mk 36 0 36 9)):=uF (by kernel_rfl)
 def J9 := (Rb P ++ [(E P "look_at_board" 362 (R 129)), (E P "is_leans" 370 (R 136)), (E P "all_leans" 376 (R 141)), (E P "look_at_leans" 384 (R 148)), (E P "is_board_but_for_places" 396 (R 155)), (E P "are_rows" 405 (R 162)), (E P "are_doors" 415 (R 169)), (E P "is_door" 425 (R 176)), (E P "is_feeder_or_none" 433 (R 183)), (E P "may_stand" 443 (R 190)), (E P "is_rocker" 453 (R 197)), (E P "are_leans" 461 (R 204)), (E P "LEFT" 466 (I (-1) 465)), (E P "STRAIGHT" 468 (I 0 467)), (E P "RIGHT" 470 (I 1 469)), (E P "way" 479 (R 211)), (E P "look_at_feeder" 488 (R 218)), (E P "fallen" 505 (R 226)), (E P "heading_behind" 518 (R 234)), (E P "come_down" 532 (R 242)), (E P "undone" 540 (R 247)), (E P "undo_clash" 554 (R 254)), (E P "clash_holds" 560 (R 259)), (E P "all_pairs" 566 (R 264)), (E P "is_pair" 576 (R 271)), (E P "_law_cell" 586 (R 278)), (E P "_law_mixed" 596 (R 285)), (E P "_law_deck" 602 (R 290)), (E P "_law_take" 611 (R 297)), (E P "_law_piece" 623 (R 304)), (E P "_law_row" 629 (R 309)), (E P "_law_door" 639 (R 316)), (E P "_law_board" 645 (R 321)), (E P "_law_ladder" 651 (R 326)), (E P "_law_end" 660 (R 333)), (E P "_law_all_ends" 671 (R 340)), (E P "_law_to_one" 677 (R 345)), (E P "law" 683 (R 350))])
 def a74:=Y "dict" (Data.dict ((E P "__name__" 165 (U "law_ballrockers_k63_whole_undone_to_one" 577))::J9 P).toArray 62)
 def J':List (Int×Nat):=Rc++[(37,128),(45,135),(48,140),(55,147),(58,154),(67,161),(74,168),(81,175),(86,182),(88,189),(96,196),(101,203),(107,210),(110,217),(114,225),(130,233),(144,241),(149,246),(154,253),(165,258),(172,263),(174,270),(180,277),(184,284),(187,289),(189,296),(198,303),(210,308),(212,315),(218,320),(225,325),(236,332),(241,339),(249,344),(251,349)]
 def a75:=X (A (qJ J').toArray)
 def a76:=qT 352 ["board","width","groups","rows","row","places","column","piece"]
 def a77:=qG "look_at_board" 18
 def a78:=qC "look_at_board" 349 37 1 123 360
 def gT:=U "ballrockers.boards" 337
 def a79:=qF "look_at_board" 18 gT 128
 def a80:=qT 366 ["board","thing"]
 def a81:=qG "is_leans" 19
 def a82:=qC "is_leans" 363 45 2 130 368
 def a83:=qF "is_leans" 19 gT 135
 def a84:=qG "all_leans" 20
 def a85:=qD "all_leans" 371 48 1 137 374
 def a86:=qF "all_leans" 20 gT 140
 def a87:=qT 380 ["board","thing"]
 def a88:=qG "look_at_leans" 21
 def a89:=qC "look_at_leans" 377 55 2 142 382
 def a90:=qF "look_at_leans" 21 gT 147
 def a91:=qT 388 ["board","width","groups","rows","feeders","doors"]
 def a92:=qG "is_board_but_for_places" 22
 def a93:=qC "is_board_but_for_places" 385 58 1 149 394
 def a94:=qF "is_board_but_for_places" 22 gT 154
 def a95:=qT 400 ["thing","width","places"]
 def a96:=qG "are_rows" 23
 def a97:=qC "are_rows" 397 67 2 156 403
 def a98:=qF "are_rows" 23 gT 161
 def a99:=qT 409 ["thing","width","feeders","door"]
 def Ka:=qG "are_doors" 24
 def Kc:=qC "are_doors" 406 74 3 163 413
 def Ke:=qF "are_doors" 24 gT 168
 def Kf:=qT 419 ["thing","feeders","name","call"]
 def Kg:=qG "is_door" 25
 def Kh:=qC "is_door" 416 81 2 170 423
 def Kl:=qF "is_door" 25 gT 175
 def Km:=qT 429 ["thing","feeders"]
 def Ko:=qG "is_feeder_or_none" 26
 def Kp:=qC "is_feeder_or_none" 426 86 2 177 431
 def Kq:=qF "is_feeder_or_none" 26 gT 182
 def Kr:=qT 437 ["piece","column","width","groups"]
 def Ks:=qG "may_stand" 27
 def Ku:=qC "may_stand" 434 88 4 184 441
 def Kv:=qF "may_stand" 27 gT 189
 def Kw:=qT 447 ["thing","groups","group","side"]
 def Ky:=qG "is_rocker" 28
 def Kz:=qC "is_rocker" 444 96 2 191 451
 def KA:=qF "is_rocker" 28 gT 196
 def KC:=qT 457 ["thing","groups"]
 def KD:=qG "are_leans" 29
 def KG:=qC "are_leans" 454 101 2 198 459
 def KH:=qF "are_leans" 29 gT 203
 def KI:=qT 474 ["board","leans","feeder"]
 def KJ:=qG "way" 34
 def KL:=qC "way" 471 107 3 205 477
 def KN:=qF "way" 34 (U "ballrockers.ways" 462) 210
 def KO:=qT 483 ["board","leans","thing"]
 def KP:=qG "look_at_feeder" 35
 def KQ:=qC "look_at_feeder" 480 110 3 212 486
 def KR:=qF "look_at_feeder" 35 (U "ballrockers.ways" 462) 217
 def wY:=(Y "tuple" (Data.seq #[O] 0))
 def KS:=qT 492 ["board","leans","feeder","fault","column","columns","turned","leaning","heading","places","piece"]
 def KU:=qG "fallen" 36
 def KW:=qC "fallen" 489 114 4 220 503
 def KY:=(Y "function" (B (G "fallen" 36 3 [] (R 219) O O (U "ballrockers.ways" 462) aD (R 225) O 0)))
 def KZ:=qT 509 ["piece","heading","leaning","fault","group","side","lean"]
 def K0:=qG "heading_behind" 37
 def K9:=qC "heading_behind" 506 130 4 228 516
 def Lb:=(Y "function" (B (G "heading_behind" 37 3 [] (R 227) O O (U "ballrockers.ways" 462) aD (R 233) O 0)))
 def Lc:=qT 522 ["board","leans","feeder","fault","columns","turned","behind","column"]
 def Ld:=qG "come_down" 38
 def Le:=qC "come_down" 519 144 4 236 530
 def Lf:=(Y "function" (B (G "come_down" 38 3 [] (R 235) O O (U "ballrockers.ways" 462) aD (R 241) O 0)))
 def Lg:=qG "undone" 40
 def Lh:=qD "undone" 535 149 3 243 538
 def pe:=U "ballrockers.undoing" 533
 def Li:=qF "undone" 40 pe 246
 def Lj:=qT 544 ["board","first_pairs","clashes","leans","feeder","column","behind","first"]
 def Lk:=qG "undo_clash" 41
 def Ll:=qC "undo_clash" 541 154 1 248 552
 def Lm:=qF "undo_clash" 41 pe 253
 def Ln := qG "clash_holds" 42
 def Lo := qD "clash_holds" 555 165 2 255 558
 def Lp := qF "clash_holds" 42 pe 258
 def Lq:=qG "all_pairs" 43
 def Lr:=qD "all_pairs" 561 172 1 260 564
 def Ls:=qF "all_pairs" 43 pe 263
 def Lu:=qT 570 ["thing","board","leans","feeder"]
 def Lv:=qG "is_pair" 44
 def Lw:=qC "is_pair" 567 174 2 265 574
 def Lx:=qF "is_pair" 44 pe 270
 def Ly:=qT 582 ["_law_script","_law_k"]
 def Lz:=qG "_law_cell" 46
 def LA:=qC "_law_cell" 579 180 2 272 584
 def gG:=U "law_ballrockers_k63_whole_undone_to_one" 577
 def LB:=qF "_law_cell" 46 gG 277
 def LC:=qT 590 ["_law_script","_law_k","_law_many","_law_number"]
 def LD:=qG "_law_mixed" 47
 def LF:=qC "_law_mixed" 587 184 3 279 594
 def LG:=qF "_law_mixed" 47 gG 284
 def LH:=qG "_law_deck" 48
 def LJ:=qD "_law_deck" 597 187 1 286 600
 def LK:=qF "_law_deck" 48 gG 289
 def LL:=qT 606 ["_law_deck_here","_law_many","_law_cell_here"]
 def LM:=qG "_law_take" 49
 def LN:=qC "_law_take" 603 189 2 291 609
 def LO:=qF "_law_take" 49 gG 296
 def LP:=qT 615 ["_law_deck_here","_law_column","_law_width","_law_groups","_law_kind","_law_piece_here"]
 def LQ:=qG "_law_piece" 50
 def LR:=qC "_law_piece" 612 198 4 298 621
 def LS:=qF "_law_piece" 50 gG 303
 def LU:=qG "_law_row" 51
 def LV:=qD "_law_row" 624 210 3 305 627
 def LW:=qF "_law_row" 51 gG 308
 def LX:=qT 633 ["_law_deck_here","_law_feeders","_law_name","_law_call"]
 def LY:=qG "_law_door" 52
 def LZ:=qC "_law_door" 630 212 2 310 637
 def L1:=qF "_law_door" 52 gG 315
 def L7:=qG "_law_board" 53
 def L8:=qD "_law_board" 640 218 4 317 643
 def Ma:=qF "_law_board" 53 gG 320
 def Mb:=qG "_law_ladder" 54
 def Mc:=qD "_law_ladder" 646 225 2 322 649
 def Me:=qF "_law_ladder" 54 gG 325
 def Mf:=qT 655 ["_law_board_here","_law_pair","_law_gone"]
 def Mg:=qG "_law_end" 55
 def Mh:=qC "_law_end" 652 236 2 327 658
 def Mi:=qF "_law_end" 55 gG 332
 def Mj:=qT 664 ["_law_board_here","_law_found","_law_leans","_law_feeder","_law_end_here"]
 def Mk:=qG "_law_all_ends" 56
 def Ml:=qC "_law_all_ends" 661 241 1 334 669
 def Mm:=qF "_law_all_ends" 56 gG 339
 def Mn:=qG "_law_to_one" 57
 def Mp:=qD "_law_to_one" 672 249 2 341 675
 def Mq:=qF "_law_to_one" 57 gG 344
 def Mr:=qG "law" 58
 def Ms:=qD "law" 678 251 1 346 681
 def Mu:=qF "law" 58 gG 349
 def Mv:List Obj:=((Rf P).set 3 (a74 P)).set 12 a75++[a0,a1,a76,a0,a77,a78,a79,a0,a1,a80,a0,a81,a82,a83,a0,a1,a84,a85,a86,a0,a1,a87,a0,a88,a89,a90,a0,a1,a91,a0,a92,a93,a94,a0,a1,a95,a0,a96,a97,a98,a0,a1,a99,a0,Ka,Kc,Ke,a0,a1,Kf,a0,Kg,Kh,Kl,a0,a1,Km,a0,Ko,Kp,Kq,a0,a1,Kr,a0,Ks,Ku,Kv,a0,a1,Kw,a0,Ky,Kz,KA,a0,a1,KC,a0,KD,KG,KH,a0,a1,KI,a0,KJ,KL,KN,a0,a1,KO,a0,KP,KQ,KR,wY,a0,a1,KS,a0,KU,KW,KY,wY,a0,a1,KZ,a0,K0,K9,Lb,wY,a0,a1,Lc,a0,Ld,Le,Lf,a0,a1,Lg,Lh,Li,a0,a1,Lj,a0,Lk,Ll,Lm,a0,a1,Ln,Lo,Lp,a0,a1,Lq,Lr,Ls,a0,a1,Lu,a0,Lv,Lw,Lx,a0,a1,Ly,a0,Lz,LA,LB,a0,a1,LC,a0,LD,LF,LG,a0,a1,LH,LJ,LK,a0,a1,LL,a0,LM,LN,LO,a0,a1,LP,a0,LQ,LR,LS,a0,a1,LU,LV,LW,a0,a1,LX,a0,LY,LZ,L1,a0,a1,L7,L8,Ma,a0,a1,Mb,Mc,Me,a0,a1,Mf,a0,Mg,Mh,Mi,a0,a1,Mj,a0,Mk,Ml,Mm,a0,a1,Mn,Mp,Mq,a0,a1,Mr,Ms,Mu]
 def t1:=qB 20 (Mv P)
noncomputable def s1(w:ak)(os:ay):SharedT:=⟨t1 w.params,351,life,(Array.mk []),(Drawn.mk 0 0 0 0),684,os⟩
noncomputable def st1:List au:=(bd.drop 18).take 41
set_option maxHeartbeats 0 in
theorem Mw(w:ak)(os:ay):segRun treeTable p w m0 ann 1 1135 (s0 w os).abs (piecesOf st1 env cd (Pos.mk 36 0 36 9) fr)=aC (.next,(s1 w os).abs,cd,(Pos.mk 251 0 270 127)):=uF (by kernel_rfl)
 def hz:aA:=Heap.mk (Array.mk (Mv P)) (Life.mk [] [] [] 0 [] [] false #[] [] 0 false false false 0 [2000,10,10] false 0 true [] [] 0 false)
noncomputable def sz(w:ak)(os:ay):ah:=⟨hz w.params,(Array.mk []),(Drawn.mk 0 0 0 0),684,os⟩
set_option maxHeartbeats 0 in
theorem fin(w:ak)(os:ay):topRun treeTable p w m0 ann 2 (s1 w os).abs ⟨doneF .next,cd,(Pos.mk 251 0 270 127),fr⟩=aC (sz w os):=CP (by kernel_rfl)
 def as:List ai:=[2,3,15,22,23,24,25,28,35,36,37,40,47,49,50,52,53,54,55,56,59,66,67,68,71,78,79,80,83,90,91,92,95,97,98,100,101,102,104,105,107,108,109,111,112,114,115,116,118,119,121,122,123,125,126,128,129,130,132,133,135,136,137,140,141,142,144,145,147,148,149,151,152,154,155,156,158,159,161,162,163,165,166,168,169,170,172,173,175,176,177,179,180,182,183,184,186,187,189,190,191,193,194,196,197,198,200,201,203,204,205,207,208,210,211,212,214,215,217,218,219,220,222,223,225,226,227,228,230,231,233,234,235,236,238,239,241,242,243,246,247,248,250,251,253,254,255,258,259,260,263,264,265,267,268,270,271,272,274,275,277,278,279,281,282,284,285,286,289,290,291,293,294,296,297,298,300,301,303,304,305,308,309,310,312,313,315,316,317,320,321,322,325,326,327,329,330,332,333,334,336,337,339,340,341,344,345,346,349,350]
 def K:Frag:=as.map λi=>(i,(Mv P).getD i a0)
noncomputable def M0:Nat:=(12+ (1+ (1483+ (1135+2))))
theorem CT:bd=j0++(st1++([])):=by kernel_rfl
theorem rest(w:ak)(os:ay):topRun treeTable p w m0 ann (1483+ (1135+ (2))) (sb w os).abs (restOf bd env cd (Pos.mk 0 0 0 0) fr)=aC (sz w os):=by rw[show restOf bd env cd (Pos.mk 0 0 0 0) fr=restOf (j0++(st1++([]))) env cd (Pos.mk 0 0 0 0) fr from pT (λb=>restOf b env cd (Pos.mk 0 0 0 0) fr) CT];exact(piece_app (J8 w os) (piece_app (Mw w os) (piece_nil (fin w os))))
theorem run(w:ak)(os:ay):topRun treeTable p w m0 ann M0 ⟨boot_heap w.params,Array.mk [],boot_drawn,boot_toks,os⟩ (topStub p)=aC (sz w os):=
 go_top (pre w os) (piece_block (block w os) (rest w os))
noncomputable def pq:Nat:=58
noncomputable def zy1:Pos:=(Pos.mk 251 0 270 127)
noncomputable def q:aj:={p with main:={p.main with body:=keep.map (wX p.main.body)}}
theorem CU:∀P,as=(K P).map (·.1):=λ_=>by kernel_rfl
noncomputable def H:Hook:=kHook K as CU
noncomputable def Xt(s:ah):Bool:=xlAt q [] s&&recOk [] s
theorem zy2(w:ak)(os:ay):(staticsOk (importedModules p.main.body) (boot_heap w.params) (hz w.params)&&namesBound p (hz w.params)&&gensDone (sz w os)&&laidKept (boot_heap w.params) (hz w.params))=true:=by rw[PySem.W.Fast.te5923862056798008813];kernel_rfl
theorem zy3(w:ak)(os:ay):seen ((recsOf q).map (·.name)) (ownsOf q) [] {sz w os with gens:=#[]}=expectedOf q:=by rw[PySem.W.Fast.te5160383126252970620,PySem.W.R.mapR_eq,PySem.W.Fast.te3399658132070893891,PySem.W.Fast.te5991557255702980513];kernel_rfl
theorem CV(w:ak)(os:ay):(sz w os).heap.bltView=bltViewBooted:=by kernel_rfl
theorem zy4(w:ak)(os:ay):((sz w os).heap.keysOk (looseW q lo) ((recsOf q).map (·.name)) ((litsOf q).map (·.1)) ((clssOf q (looseW q lo)).map (·.name))&& (sz w os).heap.accountedOkI (importedModules p.main.body)&& (sz w os).heap.isNs mainGlobals&& (sz w os).heap.isNs builtinsNs&&tablesOk q (sz w os).heap&&Xt (sz w os)&& (if true=true then(sz w os).gens.size==0 else !leftWithCleanup (sz w os).gens))=true:=by rw[PySem.W.Fast.te10880121769531294198,PySem.W.Fast.te821141287760084731,PySem.W.R.mapR_eq,PySem.W.Fast.te3399658132070893891,PySem.W.Fast.te7409074990110511671,PySem.W.Fast.te13664370479719496447,PySem.W.Fast.te14722251495701143533,PySem.W.Fast.te10994771534591457954,PySem.W.Fast.te5923862056798008813];kernel_rfl
theorem zy5(w:ak)(os:ay):tabsOk q (sz w os)=true:=by rw[PySem.W.Fast.te479339242167458305];kernel_rfl
theorem CW(w:ak)(os:ay):pinSeenD q (drecsOf q) (sz w os)=pinGoodD (drecsOf q):=by rw[PySem.W.Fast.te16090120013241838585,PySem.W.Fast.te3247288618530077131];kernel_rfl
theorem CY(w:ak)(os:ay):plainSeenE q (looseW q lo) (sz w os)=plainGoodE q (looseW q lo):=by rw[PySem.W.Fast.te2386780881361962483,PySem.W.Fast.te821141287760084731];kernel_rfl
theorem CZ(w:ak)(os:ay):plainSeenD q lo (sz w os)=plainGoodD q lo:=by rw[PySem.W.Fast.te11698064438423848299];kernel_rfl
theorem zy6(w:ak)(os:ay):wideSeen q (sz w os)=wideGood q:=by rw[PySem.W.Fast.te7317090234206586261];kernel_rfl
theorem C0(w:ak)(os:ay):clsSeenW q lo (sz w os)=clsGoodW q lo:=by rw[PySem.W.Fast.te7369524293546568484];kernel_rfl
theorem zy7(w:ak)(os:ay):as.map (sz w os).heap.get?=(K w.params).map λp=>aC p.2:=by kernel_rfl
theorem left:LeftO p q lo Xt (Hook.obs H) (Hook.val H) N0 true:=
 LeftO.of_pieces (H₀:=boot_heap) (H₁:=hz) (boot_open (by kernel_rfl) (by kernel_rfl) (λs=>by kernel_rfl)) (λw=>by kernel_rfl) run (by kernel_rfl)
  (λw=>funext λos=>looks_pair (zy2 w os) (looks_pair
    (looks_pair (zy3 w os) (looks_pair (CV w os) (looks_pair (zy4 w os) (looks_pair (zy5 w os) (looks_pair (CW w os) (looks_pair (CY w os) (looks_pair (CZ w os) (looks_pair (zy6 w os) (C0 w os)))))))))
    (zy7 w os)))
noncomputable def df:DefRec:=⟨S "law",fa pq,fb pq,fs pq,zy1⟩
theorem C1:defOf q (S "law")=aC (df,[]):=by kernel_rfl
theorem holds(l:OpenLaw)(hp:l.prog=p)(hn:l.name=S "law")(ok:l.wellSaid)(hch:(chainsOk q&&opensWell p&& (frees l.row.toRowW&&l.row.within.isEmpty)))(hb:l.row.toRowW.prog.bare)(hw:l.row.toRowW.promised)
 (hwr:(!l.row.writes||l.row.records.isEmpty)) (hk:p.theDef (S "law")=aC (df.params,df.body,df.scope)) (hkw:kwWritten? df.params.kwonlyargs df.params.kw_defaults=aC [])
 (call:WalkO q lo (XL q []) (Hook.says H) l.row.toRowW df [] λf vs=>PySem.call f vs):l.Holds:=
 holds_law ok λsaid=>PySem.W.holds_open (q:=q) (loose:=lo) (Xt:=Xt) (XP:=XL q []) (Yf:=Hook.obs H) (Ya:=Hook.val H) (YP:=Hook.says H) (N:=N0) (r:=l.row) (by have h:l.row.toRowW.prog=p:=hp;show LeftO l.row.toRowW.prog q lo Xt (Hook.obs H) (Hook.val H) N0 true;rw[h];exact left) (Hook.of H) (Hook.keeps H) (λs e=>xl_of s (Bool.and_eq_true_iff.mp e).1) XL.keeps
  (by show defOf q l.name=_;rw[hn];exact C1) (by show l.prog.theDef l.name=_;rw[hp,hn];exact hk) hkw (λs e=>recFacts_of (Bool.and_eq_true_iff.mp e).2) hwr said (by have h:l.row.toRowW.prog=p:=hp;rw[h];exact hch) hb hw call
end
end
end HD
namespace RF
noncomputable def Rg : List PySem.Str := (["is_whole", "is_whole_within", "_law_cell", "_law_deck", "_law_mixed", "_law_take", "is_tuple_within", "are_wholes_within", "are_doors", "are_rows", "is_board_but_for_places", "is_door", "is_feeder_or_none", "is_rocker", "look_at_board", "may_stand"] ++ bE 1 "" ++ ["are_leans"] ++ bE 4 "" ++ ["is_leans", "_law_door", "look_at_leans"] ++ bE 48 "" ++ ["look_at_feeder"] ++ bE 29 "" ++ ["_law_piece", "_law_row"] ++ bE 24 "" ++ ["_law_board"] ++ bE 43 "" ++ ["heading_behind", "fallen", "come_down"] ++ bE 14 "" ++ ["all_leans"] ++ bE 8 "" ++ ["way"] ++ bE 2 "" ++ ["all_pairs"] ++ bE 16 "" ++ ["undone"] ++ bE 87 "" ++ ["clash_holds"] ++ bE 3 "" ++ ["is_pair"] ++ bE 4 "" ++ ["undo_clash"] ++ bE 383 "" ++ ["_law_all_ends", "_law_end", "_law_ladder", "_law_to_one", "law"]).map bZ
noncomputable def Rh:List Fn:=[EO,IP,ER,BZ,IQ,rA,B4,B5,IS,IT,vZ,rD,v8,rE,v9,wc]++bE 1 fU++[jr]++bE 4 fU++[j5,we,k9]++bE 48 fU++[rF]++bE 29 fU++[j6,lY]++bE 24 fU++[oO]++bE 43 fU++[dQ,j7,t9]++bE 14 fU++[lZ]++bE 8 fU++[l8]++bE 2 fU++[l9]++bE 16 fU++[mh]++bE 87 fU++[j8]++bE 3 fU++[j9]++bE 4 fU++[i7]++bE 383 fU++[E2,ym,E3,B9,Cb]
theorem c63:Q6 λi=>Rh[i]?:=by repeat' (first|rfl|constructor)
end RF
set_option maxHeartbeats 0 in
theorem RF.Mx(P:PySem.Params):RF.i6 (HD.K P) RF.Rg 60 60=aC RF.Rh:=by kernel_rfl
open PySem PySem.W PyProof.Rows
set_option maxRecDepth 100000 in
set_option maxHeartbeats 0 in
theorem PySem.Challenge.cw_ballrockers_k63_whole_undone_to_one_holds : PySem.Challenge.rw_ballrockers_k63_whole_undone_to_one.Holds := by
 refine HD.holds _ rfl rfl RF.pa63 (by kernel_rfl) ⟨rfl,rfl,rfl,rfl,rfl,by decide +kernel⟩ ?hw rfl (by kernel_rfl) (by kernel_rfl) ?call
 (case hw=>w_witness2)
 refine RF.YN RF.Rg 60 60 30 704 rfl (by kernel_rfl) ⟨rfl,by decide,by decide⟩ (λw h Y=>PySem.W.kIn_of Y) (by kernel_rfl) (by decide +kernel) ?b ?c
 (case c=>intro w;kernel_rfl)
 (case b=>
   intro w ns hl
   exact RF.YM (RF.Mx _) (RF.CN RF.c63 hl))
