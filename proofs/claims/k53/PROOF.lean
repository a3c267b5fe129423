import PyProof.Rows.All
import Wide.All
import OpenK.AllK
import Wide.FinOn
import Lean
import PyProof.EqAt
import PyProof.EqKinds
import PyProof.TupleCall
import KE.KUnpack
import PySem.Challenge.RW_ballrockers_k53_machine_balls
set_option Elab.async false
set_option linter.all false
set_option genSizeOf false
set_option bootstrap.genMatcherCode false
set_option compiler.extract_closed false
set_option maxRecDepth 100000
set_option maxHeartbeats 0 in
theorem RF.pa53:PySem.Challenge.rw_ballrockers_k53_machine_balls.wellSaid=true:=by kernel_rfl
def iB:=@decide_eq_true_eq
def iX:=@decide_eq_false
def cC:=@if_true
def dg:=@if_false
def k7:=@of_decide_eq_true
def kO:=@decide_eq_true
def lP:=@congrArg
def CS:=@beq_eq_false_iff_ne
def xw:=@beq_iff_eq
def yG:=@decide_true
open PySem renaming wpAny_bind->aG,wpAny_pure->aX,wpAny_newObj_type->kP,wpAny_callSpecial?_slot->pP,wpAny_mono->gY,wpAny_call_entry->lQ,wpAny_field->jn,wpAny_truthy_bool->pQ,wpAny_holding->mL,wpAny_standAt->mO,wpAny_seqItems->pR,wpAny_specialOf->qx,wpAny_pyIter_tuple->uP,wpAny_isInstance->uQ,wpAny_setField_rec->xx,wpAny_of_eq->n6,wpAny_passesOwn->uR,wpAny_pyIter_list->xy,wpAny_comprehension_free->CT,wpAny_rule->nL,mem_of_lookup->yH,wpAny_setField->uS,sizeLine_eq->qy,builtinLookup_eq_fast->CU,noFill_tuple_add->yI,call_meets->qz,wpAny_Call_Name_kw->CV,wpAny_attempt->xA,wpAny_forIn_list->CW,seq_tuple_add->yJ,typeLookup_type->CY,wpAny_typeOf->yK,isSubtype_type->CZ,wpAny_onRaise->C0,callType_new->C1,call_meetsIn->C2,wpAny_ite->xB,seqIndex_of->C3,wpAny_letGo->C4
open List renaming getElem?_eq_getElem->cN,length_map->bG,length_cons->cY,getElem?_eq_some_iff->gA,getElem?_map->dG,size_toArray->dQ,mem_cons_of_mem->eW,mem_cons_self->eX,length_append->eY,map_cons->dH,getD_eq_getElem?_getD->jS,getElem?_eq_none->iY,mem_append_right->jo,lookup_cons->gE,map_append->fZ,getElem?_append_right->lR,mem_cons->fV,all_eq_true->i6,getElem?_cons_succ->lS,mem_of_getElem?->kQ,getElem?_eq_none_iff->nM,length_take->jq,getElem?_append_left->pS,getElem?_cons_zero->n9,getElem_mem->kR,find?_cons->j0,set_cons_zero->mP,mem_map->jb,foldl_cons->k8,set_cons_succ->oh,cons_append->nN,take_length->nO,length_range->oj,mem_singleton->pT,append_nil->nP,replicate_succ->qA,zip_cons_cons->qH,getElem?_set_self->uT,mem_range->nQ,length_replicate->uU,take_add_one->qI,filterMap_cons->vcs,flatten_cons->sU,getElem?_range->uV,drop_eq_getElem_cons->yL,length_drop->sV,getElem?_set_ne->xC,nodup_cons->sW,drop_eq_nil_of_le->yM,length_singleton->yN,length_range'->xD,mem_append->uW,length_set->uX,getElem?_replicate->C5,all_cons->sY,length_reverse->yO,forIn_nil->uY,getElem?_drop->yP,forIn_cons->xE,nil_append->xF,getElem?_reverse->C6,range_succ->xG,append_assoc->yQ,mem_append_left->C7,map_nil->uZ,any_cons->xH,length_nil->yR,ext_getElem?->C8,mem_range'_1->C9,foldl_append->Dc,any_eq_true->Dd,not_mem_nil->De,drop_zero->Df
open PySem.Heap renaming get?_push_of_some->cQ,get?_push_size->fX,lt_size->dB,size_push->j5,get?_update_self->yS
open Nat renaming le_refl->bg,lt_of_lt_of_le->dI,lt_succ_self->fY,le_of_ble_eq_true->k9,lt_irrefl->gZ,ne_of_lt->gB,le_trans->gF,zero_add->i7,not_lt->jF,zero_le->kT,eq_of_beq_eq_true->yT,lt_succ_of_lt->xJ,le_of_lt->sZ,ne_of_gt->tu,le_succ->qK,ble_eq->qL,lt_of_le_of_lt->Dg,not_lt_zero->yU,sub_add_cancel->Dh,le_of_succ_le->Di,le_add_right->Dj,add_assoc->Dl,mul_assoc->Dm
open PySem renaming Value->aa,Shared->af,Addr->ah,Program->ai,World->aj,Around->ak,Expr->ao,Stmt->aq,FuncData->au,OsState->av,Scope->ay,Heap->az,PyData->aA
open Option renaming some->aB,none->aC
open PySem.W renaming Frag->aK
open PySem.Str renaming ofString->cj
open List renaming replicate->bV
open Bool renaming and_eq_true->bY,false_eq_true->dW,false_ne_true->mQ,or_eq_true->pU,not_true->om,not_eq_true'->u5,false_and->vec,not_false->Dn
open Option renaming map_some->iC,join_some->nR,getD_some->Dp
open PySem.AutoSeq1 renaming wpAny_loadPart'->oq
open Option.some renaming inj->lT,injEq->u6
open PyProof.Rows renaming slot_tuple_getitem->xK,callWith_type1->xM
open PySem.W renaming kia_one->mR
open Int renaming toNat_natCast->pV,eq_ofNat_of_zero_le->xN,emod_lt_of_pos->Dq,emod_nonneg->Dr,add_comm->yV,mul_comm->Ds
open Ne renaming symm->eZ
open PySem.Heap.SameBut renaming update->tw
open PySem.W.Fast renaming te14364793385576792824->Dt
open PySem.Obj renaming data_mapFields->tB,isFreed_of_fields->Du
open Array renaming length_toList->u7
open PySem.F renaming args_tuple_add_2->yW,entry_tuple_add->yX,slot_tuple_add->yY,slot_tuple_iterator_next->Dv,slot_NoneType_hash->Dw,slot_tuple_mul->yZ,slot_tuple_hash->Dy,slot_zip_next->Dz,slot_tuple_eq->DA
open PySem.Paired renaming length->qM
open PySem.SeqAt renaming canLay_of_shaped->DB
open LawfulMonad renaming pure_bind->qN
open Sum.inl renaming inj->DC
namespace L2
theorem aR(h:True:=by rfl):True:=h
theorem aD(h:True:=by decide):True:=h
theorem aF(h:True:=by first|exact .inl rfl|exact .inr rfl|assumption):True:=h
end L2
namespace L2
open PySem PySem.Spec PyProof.Rows
noncomputable abbrev Key:=Sum Int Str
noncomputable def jr:Key->aa->Bool|.inl k,v=>Value.isInt k v|.inr x,v=>Value.isStrOf x v
noncomputable def FY(w:aj):Key->Int|.inl k=>hashInt k|.inr x=>hashStr w x
theorem pW:∀{k:Key} {v:aa},jr k v=true->(∃i t,k=Sum.inl i/\v=Value.int i t)\/(∃x t,k=Sum.inr x/\v=Value.str x t)
 |.inl i,v,h=>by
  obtain⟨t,e⟩:=Value.isInt_shape (k:=i) (v:=v) h;exact .inl ⟨i,t,rfl,e⟩
 |.inr x,v,h=>by
  obtain⟨t,e⟩:=Value.isStrOf_shape (x:=x) (v:=v) h;exact .inr ⟨x,t,rfl,e⟩
theorem Pq(i:Int)(t:Tok):jr (.inl i) (.int i t)=true:=by simp[jr,Value.isInt]
theorem Pr(x:Str)(t:Tok):jr (.inr x) (.str x t)=true:=by simp[jr,Value.isStrOf]
theorem Pu(a b:Int):decide ((Sum.inl a:Key)=Sum.inl b)=(a==b):=by by_cases e:a=b;subst e;simp;have h:¬(Sum.inl a:Key)=Sum.inl b:=λq=>e (DC q);rw[iX h];exact(CS.mpr e).symm
theorem Pw(a b:Str):decide ((Sum.inr a:Key)=Sum.inr b)=decide (a=b):=by by_cases e:a=b;subst e;simp;have h:¬(Sum.inr a:Key)=Sum.inr b:=λq=>e (Sum.inr.inj q);rw[iX h,iX e]
theorem Px(a:Int)(b:Str):decide ((Sum.inl a:Key)=Sum.inr b)=false:=iX (λq=>nomatch q)
theorem Py(a:Str)(b:Int):decide ((Sum.inr a:Key)=Sum.inl b)=false:=iX (λq=>nomatch q)
noncomputable def iH(prog:ai)(w:aj):PySem.KeyKind prog w Key where
 is:=jr
 hash:=FY w
 inj:=λv a b ha hb=>by
  rcases pW ha with⟨i,t,rfl,rfl⟩|⟨x,t,rfl,rfl⟩
  .rcases pW hb with⟨j,u,rfl,e⟩|⟨y,u,rfl,e⟩
   .injection e with e1 _;rw[e1]
   .exact nomatch e
  .rcases pW hb with⟨j,u,rfl,e⟩|⟨y,u,rfl,e⟩
   .exact nomatch e
   .injection e with e1 _;rw[e1]
 byValue:=λk v h=>by
  rcases pW h with⟨i,t,rfl,rfl⟩|⟨x,t,rfl,rfl⟩<;>rfl
 pyHash:=λhv h=>by
  rcases pW hv with⟨i,t,rfl,rfl⟩|⟨x,t,rfl,rfl⟩
  .exact wpAny_pyHash_int h
  .exact wpAny_pyHash_str h
 eqBool:=λhu hv h=>by
  rcases pW hu with⟨i,t,rfl,rfl⟩|⟨x,t,rfl,rfl⟩
  .rcases pW hv with⟨j,u,rfl,rfl⟩|⟨y,u,rfl,rfl⟩
   .rw[Pu]at h;exact wpAny_eqBool_int h
   .rw[Px]at h;exact SeqAt.EqAt.int_str i t y u _ _ _ _ h
  .rcases pW hv with⟨j,u,rfl,rfl⟩|⟨y,u,rfl,rfl⟩
   .rw[Py]at h;exact SeqAt.EqAt.str_int x t j u _ _ _ _ h
   .rw[Pw]at h;exact wpAny_eqBool_str h
 «strs»:=λk x t v h=>by
  rcases pW h with⟨i,u,rfl,e⟩|⟨y,u,rfl,e⟩
  .exact nomatch e
  .injection e with e1 _
   subst e1
   cases v<;>rfl
theorem Pz(prog:ai)(w:aj)(i:Int)(t:Tok):(iH prog w).is (.inl i) (.int i t)=true:=Pq i t
theorem PB(prog:ai)(w:aj)(x:Str)(t:Tok):(iH prog w).is (.inr x) (.str x t)=true:=Pr x t
inductive V where
 |aQ|bl (b:Bool)|int (i:Int)|str (x:Str)|za (b:Array UInt8)|xO (b:UInt64)|ref (a:ah)|ty (n:String)
 deriving DecidableEq
noncomputable def RelV:V->aa->Prop|.aQ,u=>u=Value.none|.bl b,u=>u=Value.bool b|.int i,u=>∃t,u=Value.int i t|.str x,u=>∃t,u=Value.str x t|.za b,u=>∃t,u=Value.bytes b t|.xO b,u=>∃t,u=Value.float b t|.ref a,u=>u=Value.ref a|.ty n,u=>u=Value.type n
noncomputable abbrev Vals:List V->List aa->Prop:=Paired RelV
theorem Vals.length{xs:List V}{us:List aa}(r:Vals xs us):xs.length=us.length:=qM r
theorem Vals.get:∀{xs:List V} {us:List aa} {i:Nat} {x:V},Vals xs us->xs[i]?=aB x->∃u,us[i]?=aB u/\RelV x u
 |_,_,_,_,.nil,e=>by simp at e
 |_,_,0,_,.cons r _,e=>by simp at e;subst e;exact⟨_,rfl,r⟩
 |_,_,i+1,x,.cons _ t,e=>by
  obtain⟨u,h1,h2⟩:=Vals.get (i:=i) (x:=x) t (by simpa using e);exact⟨u,by simpa using h1,h2⟩
theorem Vals.set{x:V}{u:aa}(r:RelV x u):∀{xs:List V} {us:List aa} (i:Nat),Vals xs us->Vals (xs.set i x) (us.set i u)|_,_,_,.nil=>.nil|_,_,0,.cons _ t=>.cons r t|_,_,i+1,.cons q t=>.cons q (Vals.set r i t)
theorem Vals.append:∀{xs ys:List V} {us ws:List aa},Vals xs us->Vals ys ws->Vals (xs++ys) (us++ws)|_,_,_,_,.nil,s=>s|_,_,_,_,.cons r t,s=>.cons r (Vals.append t s)
theorem Vals.take:∀{xs:List V} {us:List aa} (n:Nat),Vals xs us->Vals (xs.take n) (us.take n)|_,_,0,_=>.nil|_,_,_+1,.nil=>.nil|_,_,n+1,.cons r t=>.cons r (Vals.take n t)
theorem Vals.drop:∀{xs:List V} {us:List aa} (n:Nat),Vals xs us->Vals (xs.drop n) (us.drop n)|_,_,0,r=>r|_,_,_+1,.nil=>.nil|_,_,n+1,.cons _ t=>Vals.drop n t
noncomputable def gG:Option V->Option aa->Prop|some v,aB u=>RelV v u|none,aC=>True|_,_=>False
noncomputable def KV{κ:Type}:List (κ×V)->List (κ×aa)->Prop:=Paired λ(p:κ×V) (q:κ×aa)=>p.1=q.1/\RelV p.2 q.2
noncomputable def kV:Key->V|.inl i=>.int i|.inr x=>.str x
inductive HO where
 /-- a list -/
 |lst (xs:List V)
 /-- a tuple (never changes) -/
 |tup (xs:List V)
 /-- a dict zb keys are ints and texts;one zb keys are tuples of ints and texts (xP empty one is both) -/
 |dK (kvs:List (Key×V))|dT (kvs:List (List Key×V))
 /-- a set of ints: its members,its size -/
 |set (S:Int->Bool) (n:Nat)
 /-- an instance of xP class at C,its dict at dx,its attributes -/
 |ins (C dx:ah) (fs:List (Str×V))
 /-- xP dict of xP instance at x -/
 |own (x:ah)
 /-- xP dict of an exception -/
 |xd (fs:List (Str×V))
 /-- a bound method,f of x -/
 |met (f x:ah)
 /-- a range object lo,lo+1,.. below hi -/
 |FZ (lo hi:Int)
 /-- a thing PC is known to xP object (xP script;a dict while a loop walks it): read,never written while it is so -/
 |bF (o:Obj) (u:HO)
 /-- a code zc table -/
 |u9 (ps:Array aa)
 /-- any other thing,by what is true of its one object (a def of KP own: PD a S n:=HO.ext λh=>..) -/
 |ext (φ:az->Prop)
noncomputable abbrev Hp:=ah->Option HO
noncomputable def upd(H:Hp)(a:ah)(o:HO):Hp:=λb=>if b=a then aB o else H b
theorem eS{H:Hp}{a:ah}{o:HO}:upd H a o a=aB o:=by unfold upd;rw[if_pos rfl]
theorem b9{H:Hp}{a b:ah}{o:HO}(h:b≠a):upd H a o b=H b:=by unfold upd;rw[if_neg h]
theorem cJ{H:Hp}{a b:ah}{o u:HO}(h:H a=aB o)(h':H b=aB u)(d:o≠u):a≠b:=by intro e;subst e;rw[h]at h';exact d (lT h')
theorem iD{H:Hp}{a b:ah}{o:HO}(h:H a=aB o)(h':H b=aC):a≠b:=by intro e;subst e;rw[h]at h';cases h'
noncomputable def kU(h:az)(a:ah)(items:Array aa):Prop:=∃o,h.get? a=aB o/\o.cls=.type "tuple"/\(∃n,o.data=.seq items n)/\o.dict=aC
theorem kU.tup{h:az}{a:ah}{items:Array aa}(x:kU h a items):IsTup h a items:=let⟨o,e,c,d,_⟩:=x;⟨o,e,c,d⟩
theorem kU.lt{h:az}{a:ah}{items:Array aa}(x:kU h a items):a<h.objs.size:=x.tup.lt
theorem kU.new(h:az)(items:Array aa):kU (h.push {cls:=.type "tuple",data:=.seq items}) h.objs.size items:=⟨_,fX _ rfl,rfl,⟨_,rfl⟩,rfl⟩
section
variable(P:ai)(w:aj)
noncomputable def bw(H:Hp)(h:az)(a:ah):HO->Prop
 |.lst xs=>xs.length<=sizeLine/\∃(its:List aa) (n:Nat),Vals xs its/\h.get? a=aB {cls:=.type "list",data:=.seq its.toArray n}
 |.tup xs=>xs.length<=sizeLine/\∃its:List aa,Vals xs its/\kU h a its.toArray
 |.dK kvs=>kvs.length<=sizeLine/\(a==sysModules)=false/\∃vs,KV kvs vs/\h.DictOf (iH P w) a vs
 |.dT kvs=>kvs.length<=sizeLine/\(a==sysModules)=false/\∃xs:List (List Key×ah×aa),
  Paired (λ(p:List Key×V)(q:List Key×ah×aa)=>p.1=q.1/\H q.2.1=aB (.tup (p.1.map kV))/\RelV p.2 q.2.2) kvs xs/\
  ∃o es ep,h.get? a=aB o/\o.ExactDict/\o.data=.dict es ep/\es.toList=xs.map (entryOfKey (tupleKind (iH P w)))/\(xs.map (·.1)).Nodup
 |.set S n=>h.SetOf (intKind P w) a S n
 |.ins C dx fs=>H dx=aB (.own a)/\fs.length<=1000/\dx≠a/\h.get? a=aB (PySem.W.instObj C dx)/\
  ∃mA,h.Ns1 dx mA/\(∀f,gG (fs.lookup f) (mA f))/\PySem.Within mA (fs.map (·.1))
 |.own _=>∃o,h.get? a=aB o
 |.xd fs=>∃mA,h.Ns1 a mA/\∀f,gG (fs.lookup f) (mA f)
 |.FZ lo hi=>∃t u v,h.get? a=aB {cls:=.type "range",data:=.fields #[.int lo t,.int hi u,.int 1 v]}
 |.bF o u=>h.get? a=aB o/\bw H h a u
 |.u9 ps=>h.get? a=aB {cls:=.none,data:=.fields ps}
 |.met f x=>h.get? a=aB (PySem.W.methodObj (.ref f) (.ref x))
 |.ext φ=>φ h/\(∃o,h.get? a=aB o)/\∀h1 h2:az,φ h1->(∀o,h1.get? a=aB o->h2.get? a=aB o)->φ h2
noncomputable def fj(H:Hp)(h:az):Prop:=∀a o,H a=aB o->bw P w H h a o
end
section
variable{P:ai}{w:aj}{H H':Hp}{h h':az}{a:ah}{o:HO}
theorem bw.lt(x:bw P w H h a o):a<h.objs.size:=by
 cases o with|lst xs=>obtain⟨_,_,_,_,e⟩:=x;exact dB e|tup xs=>obtain⟨_,_,_,p⟩:=x;exact p.lt|dK kvs=>obtain⟨_,_,_,_,o,_,_,e,_⟩:=x;exact dB e|dT kvs=>obtain⟨_,_,_,_,o,_,_,e,_⟩:=x;exact dB e|set S n=>obtain⟨o,_,_,_,e,_⟩:=x;exact dB e|ins C dx fs=>obtain⟨_,_,_,e,_⟩:=x;exact dB e|own y=>obtain⟨_,e⟩:=x;exact dB e|xd fs=>obtain⟨_,⟨_,_,_,e,_⟩,_⟩:=x;exact dB e|FZ lo hi=>obtain⟨_,_,_,e⟩:=x;exact dB e|bF ob u=>obtain⟨e,_⟩:=x;exact dB e|u9 ps=>exact dB (show h.get? a=aB _ from x)|met f y=>exact dB (show h.get? a=aB _ from x)|ext φ=>obtain⟨_,⟨_,e⟩,_⟩:=x;exact dB e
theorem Paired.vc{α β:Type}{F G:α->β->Prop}:∀{l₁:List α} {l₂:List β},Paired F l₁ l₂->(∀a b,F a b->G a b)->Paired G l₁ l₂|_,_,.nil,_=>.nil|_,_,.cons r t,f=>.cons (f _ _ r) (Paired.vc t f)
theorem bw.stay(x:bw P w H h a o)(k:∀b u,(b=a\/H b=aB (.own a))->h.get? b=aB u->h'.get? b=aB u)
 (ho:∀b,H b=aB (.own a)->H' b=aB (.own a)) (ht:∀b xs,H b=aB (.tup xs)->H' b=aB (.tup xs)):bw P w H' h' a o:=by
 induction o with
 |lst xs=>obtain⟨z,its,n,r,e⟩:=x;exact⟨z,its,n,r,k _ _ (.inl rfl) e⟩
 |tup xs=>obtain⟨z,its,r,ob,e,c⟩:=x;exact⟨z,its,r,ob,k _ _ (.inl rfl) e,c⟩
 |dK kvs=>obtain⟨z,y,vs,r,ob,es,ep,e,c⟩:=x;exact⟨z,y,vs,r,ob,es,ep,k _ _ (.inl rfl) e,c⟩
 |dT kvs=>
  obtain⟨z,y,xs,r,ob,es,ep,e,c⟩:=x;exact⟨z,y,xs,Paired.vc r λp q z=>⟨z.1,ht _ _ z.2.1,z.2.2⟩,ob,es,ep,k _ _ (.inl rfl) e,c⟩
 |set S n=>obtain⟨ob,es,ep,t,e,c⟩:=x;exact⟨ob,es,ep,t,k _ _ (.inl rfl) e,c⟩
 |ins C dx fs=>
  obtain⟨d,z,ne,e,mA,⟨od,es,ep,e2,c⟩,r⟩:=x;exact⟨ho _ d,z,ne,k _ _ (.inl rfl) e,mA,⟨od,es,ep,k _ _ (.inr d) e2,c⟩,r⟩
 |own y=>obtain⟨ob,e⟩:=x;exact⟨ob,k _ _ (.inl rfl) e⟩
 |xd fs=>obtain⟨mA,⟨od,es,ep,e,c⟩,r⟩:=x;exact⟨mA,⟨od,es,ep,k _ _ (.inl rfl) e,c⟩,r⟩
 |FZ lo hi=>obtain⟨t,u,v,e⟩:=x;exact⟨t,u,v,k _ _ (.inl rfl) e⟩
 |bF ob u ih=>obtain⟨e,q⟩:=x;exact⟨k _ _ (.inl rfl) e,ih q⟩
 |u9 ps=>
  have e:h.get? a=aB {cls:=.none,data:=.fields ps}:=x;show h'.get? a=aB {cls:=.none,data:=.fields ps};exact k a _ (.inl rfl) e
 |met f y=>
  have e:h.get? a=aB (PySem.W.methodObj (.ref f) (.ref y)):=x;show h'.get? a=aB (PySem.W.methodObj (.ref f) (.ref y));exact k a _ (.inl rfl) e
 |ext φ=>obtain⟨p,⟨o,e⟩,st⟩:=x;exact⟨st _ _ p λo q=>k _ _ (.inl rfl) q,⟨o,k _ _ (.inl rfl) e⟩,st⟩
theorem fj.lt(x:fj P w H h)(e:H a=aB o):a<h.objs.size:=(x a o e).lt
theorem fj.fresh(x:fj P w H h)(e:h.objs.size<=a):H a=aC:=by
 cases q:H a with|none=>rfl|some u=>exact absurd (dI (x.lt q) e) (gZ _)
theorem fj.kept(x:fj P w H h)(k:∀b u,h.get? b=aB u->h'.get? b=aB u):fj P w H h':=λa o e=>
 (x a o e).stay (λb u _ q=>k b u q) (λ_ q=>q) λ_ _ q=>q
theorem fj.laid(x:fj P w H h)(k:∀b u,h.get? b=aB u->h'.get? b=aB u)(hp:h.objs.size<=a)(new:bw P w (upd H a o) h' a o):fj P w (upd H a o) h':=λb u e=>by
 have hn:=x.fresh hp;by_cases hb:b=a;subst hb;rw[eS]at e;cases e;exact new;rw[b9 hb]at e;exact(x b u e).stay (λc v _ q=>k c v q) (λc q=>by rw[b9 (iD q hn)];exact q) λc xs q=>by rw[b9 (iD q hn)];exact q
end
noncomputable def Rd(H:Hp)(a:ah)(u:HO):Prop:=H a=aB u\/∃o,H a=aB (.bF o u)
theorem Rd.ok{P:ai}{w:aj}{H:Hp}{h:az}{a:ah}{u:HO}(r:Rd H a u)(x:fj P w H h):bw P w H h a u:=by rcases r with r|⟨o,r⟩;exact x a u r;obtain⟨_,q⟩:=x a _ r;exact q
noncomputable def tD:Option HO->Prop|some (.lst _)=>True|some (.dK _)=>True|some (.dT _)=>True|some (.set _ _)=>True|some (.ins _ _ _)=>True|some (.ext _)=>True|_=>False
section
variable{P:ai}{w:aj}{H:Hp}{h h':az}{x e:ah}{o':HO}
theorem fj.write(ok:fj P w H h)(mu:tD (H x))(he:e=x\/H e=aB (.own x))(k:∀b u,b≠e->h.get? b=aB u->h'.get? b=aB u)(xQ:∃u,h'.get? e=aB u)
 (new:bw P w (upd H x o') h' x o'):fj P w (upd H x o') h':=λb u q=>by
 have zd:∀c y,H c=aB (.own y)->c≠x:=λc y r z=>by subst z;rw[r]at mu;exact mu
 have F0:∀c xs,H c=aB (.tup xs)->c≠x:=λc xs r z=>by subst z;rw[r]at mu;exact mu
 by_cases hb:b=x;subst hb;rw[eS]at q;cases q;exact new;rw[b9 hb]at q;by_cases ve:b=e;have q':H b=aB (.own x):=by rcases he with z|z;exact absurd (ve.trans z) hb;rw[ve];exact z
 rw[q]at q';cases q';obtain⟨v,hv⟩:=xQ;exact⟨v,by rw[ve];exact hv⟩;refine(ok b u q).stay (λc v hc r=>k c v ?_ r) (λc r=>by rw[b9 (zd c b r)];exact r) λc xs r=>by rw[b9 (F0 c xs r)];exact r
 rcases hc with rfl|hc;exact ve;rintro rfl;rcases he with z|z;exact zd c b hc z;rw[hc]at z;cases z;exact hb rfl
end
structure Un(fs ex:List ah)(H H':Hp)(h h':az):Prop where
 keep:∀b o,h.get? b=aB o->H b=aC->b∉fs->b∉ex->h'.get? b=aB o
 slot:∀b o,h.get? b=aB o->H b=aC->b∈fs->b∉ex->∃sl,h'.get? b=aB {o with slots:=sl}
 free:∀b o,h.get? b=aB o->H b=aC->b∉ex->H' b=aC
 there:∀b o,h.get? b=aB o->b∉ex->∃o',h'.get? b=aB o'
 tups:∀b xs,H b=aB (.tup xs)->H' b=aB (.tup xs)
 iI:∀b o u,H b=aB (.bF o u)->H' b=aB (.bF o u)
 jc:∀b ps,H b=aB (.u9 ps)->∃more,H' b=aB (.u9 (ps++more))
section
variable{fs fs' ex ex':List ah}{H H1 H2:Hp}{h h1 h2 h':az}{a x e:ah}{o:HO}
theorem Un.any(u:Un fs ex H H1 h h1){b:ah}{ob:Obj}(q:h.get? b=aB ob)(n:H b=aC)(hx:b∉ex):∃sl,h1.get? b=aB {ob with slots:=sl}:=by by_cases hb:b∈fs;exact u.slot b ob q n hb hx;exact⟨ob.slots,u.keep b ob q n hb hx⟩
theorem Un.kept(k:∀b u,h.get? b=aB u->h'.get? b=aB u):Un fs ex H H h h':=
 ⟨λb ob q _ _ _=>k b ob q,λb ob q _ _ _=>⟨ob.slots,k b ob q⟩,λ_ _ _ n _=>n,λb ob q _=>⟨ob,k b ob q⟩,λ_ _ q=>q,λ_ _ _ q=>q,λ_ ps q=>⟨#[],by rw[q];simp⟩⟩
theorem Un.refl:Un fs ex H H h h:=Un.kept λ_ _ q=>q
theorem Un.laid(k:∀b u,h.get? b=aB u->h'.get? b=aB u)(hp:h.objs.size<=a)(hn:H a=aC):Un fs ex H (upd H a o) h h' where
 keep:=λb u q _ _ _=>k b u q
 slot:=λb u q _ _ _=>⟨u.slots,k b u q⟩
 free:=λb u q n _=>by rw[b9 (gB (dI (dB q) hp))];exact n
 there:=λb u q _=>⟨u,k b u q⟩
 tups:=λb xs q=>by rw[b9 (iD q hn)];exact q
 iI:=λb u xs q=>by rw[b9 (iD q hn)];exact q
 jc:=λb ps q=>⟨#[],by rw[b9 (iD q hn),q];simp⟩
theorem Un.write(mu:tD (H x))(he:e=x\/H e=aB (.own x))(k:∀b u,b≠e->h.get? b=aB u->h'.get? b=aB u)(xQ:∃u,h'.get? e=aB u):Un fs ex H (upd H x o) h h':=by
 have hx:∀b,H b=aC->b≠x:=λb n z=>by subst z;rw[n]at mu;exact mu
 have hb:∀b,H b=aC->b≠e:=λb n z=>by
  subst z;rcases he with r|r
  exact hx b n r;rw[n]at r;cases r
 have hm:∀b u,H b=aB u->¬tD (aB u)->b≠x:=λb u q nm z=>by subst z;rw[q]at mu;exact nm mu
 refine⟨λb u q n _ _=>k b u (hb b n) q,λb u q n _ _=>⟨u.slots,k b u (hb b n) q⟩,λb u q n _=>by rw[b9 (hx b n)];exact n,λb u q _=>?_,
  λb xs q=>by rw[b9 (hm b _ q λz=>z)];exact q,λb u xs q=>by rw[b9 (hm b _ q λz=>z)];exact q,λb ps q=>⟨#[],by rw[b9 (hm b _ q λz=>z),q];simp⟩⟩
 by_cases ve:b=e;subst ve;exact xQ;exact⟨u,k b u ve q⟩
end
noncomputable def DF(h:az)(H:Hp):List ah:=(List.range h.objs.size).filter λa=>(H a).isSome
noncomputable def jG(h:az)(H:Hp):az:=PySem.W.hideAll h (DF h H)
theorem PF(h:az)(H:Hp):(jG h H).objs.size=h.objs.size:=PySem.W.hideAll_size _ _
theorem PJ{h:az}{H:Hp}{b:ah}{o:Obj}(e:h.get? b=aB o)(n:H b=aC):(jG h H).get? b=aB o:=
 PySem.W.hideAll_get _ e λhm=>by
  have q:(H b).isSome=true:=(List.mem_filter.mp hm).2;rw[n]at q;simp at q
theorem PK{h:az}{H:Hp}{b:ah}{o:Obj}(e:(jG h H).get? b=aB o):h.get? b=aB o/\H b=aC:=by
 have e':h.get? b=aB o:=PySem.W.of_hideAll (DF h H) e;refine⟨e',?_⟩;cases q:H b with
 |none=>rfl
 |some x=>
  have hm:b∈DF h H:=List.mem_filter.mpr ⟨nQ.mpr (dB e'),by simp[q]⟩;have z:(jG h H).get? b=aC:=PySem.W.hideAll_none (DF h H) hm;rw[z]at e;cases e
structure Mod(K:aK)(mg:Str->Option aa)(base:az):Prop where
 F1:K.In base
 glob:base.Ns mainGlobals mg
 blt:∃mb,base.Ns builtinsNs mb/\∀x:Str,x≠"__name__"->mb x=bootBuiltins x
 nolimit:base.NoLimit
set_option genInjectivity false in
structure Cx where
 prog:ai
 w:aj
 K:aK
 mg:Str->Option aa
 base:az
 A:ak
 N:List Str
 s₀:af
 H₀:Hp
 env:Env
 outer:List Env
 stack:List Env
 ex:List ah
 fn:Str->Bool
 calm:Bool
 pn:List (ah×Obj)
 xe:aa->af->Prop
noncomputable def frs(l:List Env):List ah:=l.filterMap (·.frame)
noncomputable abbrev Cx.fs(X:Cx):List ah:=frs X.outer
noncomputable def xR(sc:ay)(x:Str):Prop:=sc.names.lookup x=aB .local\/sc.names.lookup x=aB .cell\/sc.names.lookup x=aB .free
noncomputable def Loc(sc:ay)(x:Str):Prop:=sc.names.lookup x=aB .local\/sc.names.lookup x=aB .cell
noncomputable def Look(env:Env)(h:az)(m:Str->Option aa)(x:Str)(u:aa):Prop:=
 (env.kindOf x=aB .local/\m x=aB u)\/((env.kindOf x=aB .cell\/env.kindOf x=aB .free)/\∃c,env.cells.lookup x=aB c/\h.IsCell c (aB u))
structure Cx.Ok(X:Cx):Prop where
 mod:Mod X.K X.mg X.base
 kind:X.env.scope.kind=.function
 glob:X.env.globals=mainGlobals
 blt:X.env.builtins=builtinsNs
 above:X.s₀.heap.objs.size<=X.env.locals
 inj:∀x y c,X.env.cells.lookup x=aB c->X.env.cells.lookup y=aB c->x=y
 has:∀x,(X.env.kindOf x=aB .cell\/X.env.kindOf x=aB .free)->∃c,X.env.cells.lookup x=aB c
 ze:∀x c,X.fn x=true->X.env.cells.lookup x=aB c->X.s₀.heap.objs.size<=c
 hd:X.calm=true->X.A.handled=aC
 frames:X.A.frames=aB X.stack
 stk:X.stack=X.outer\/(X.stack=X.env::X.outer/\X.env.frame=aB X.env.locals)
 xS:∀b∈X.ex,b≠X.env.locals/\∀x c,X.env.cells.lookup x=aB c->c≠b
 bs:∀b o,X.base.get? b=aB o->X.s₀.heap.get? b=aB o/\X.H₀ b=aC
 vf:X.base.objs.size<=X.s₀.heap.objs.size
 ou:∀b o,X.base.get? b=aB o->b∉X.ex
 mS:∀b∈X.ex,b∉X.fs
 iJ:X.s₀.heap.FunFrames X.base X.outer
 xT:∀b∈X.fs,X.H₀ b=aC
structure Inv(X:Cx)(pins:List (ah×Obj))(σ:List (Option V))(H:Hp)(s:af):Prop where
 ok:X.Ok
 os:s.os=X.s₀.os
 bare:AllBare s.gens
 base:Un X.fs X.ex X.H₀ H X.s₀.heap s.heap
 loc:∃m,s.heap.Ns X.env.locals m/\∀(i:Nat)(x:Str)(v:V),X.N[i]?=aB x->σ[i]?=aB (aB v)->xR X.env.scope x->∃u,RelV v u/\Look X.env s.heap m x u
 cell:∀x c,X.env.cells.lookup x=aB c->∃v,s.heap.IsCell c v
 free:H X.env.locals=aC
 fD:∀x c,X.env.cells.lookup x=aB c->H c=aC
 pin:∀p∈X.pn++pins,s.heap.get? p.1=aB p.2/\H p.1=aC/\p.1≠X.env.locals/\p.1∉X.fs/\∀v,p.2.data≠.cell v
 hok:fj X.prog X.w H s.heap
 len:σ.length=X.N.length
section
variable{X:Cx}{pins:List (ah×Obj)}{σ:List (Option V)}{H H':Hp}{s:af}{h':az}
theorem Cx.Ok.F2(ok:X.Ok){b:ah}{o:Obj}(e:X.base.get? b=aB o):b∉X.fs:=λhb=>by
 have:=(ok.iJ.mem hb).1;rw[e]at this;cases this
theorem Inv.bs(I:Inv X pins σ H s):∀b o,X.base.get? b=aB o->s.heap.get? b=aB o/\H b=aC:=λb o e=>
 ⟨I.base.keep b o (I.ok.bs b o e).1 (I.ok.bs b o e).2 (I.ok.F2 e) (I.ok.ou b o e),I.base.free b o (I.ok.bs b o e).1 (I.ok.bs b o e).2 (I.ok.ou b o e)⟩
theorem Inv.bk(I:Inv X pins σ H s):∀b o,X.base.get? b=aB o->s.heap.get? b=aB o:=λb o e=>(I.bs b o e).1
theorem Inv.mod(I:Inv X pins σ H s):Mod X.K X.mg X.base:=I.ok.mod
theorem Inv.jt(I:Inv X pins σ H s):X.K.In s.heap:=I.ok.mod.F1.keeps I.bk
theorem Inv.lt(I:Inv X pins σ H s):X.env.locals<s.heap.objs.size:=let⟨_,hn,_⟩:=I.loc;hn.lt
theorem Inv.sz(I:Inv X pins σ H s):X.s₀.heap.objs.size<=s.heap.objs.size:=gF I.ok.above (sZ I.lt)
theorem Inv.F3(I:Inv X pins σ H s){a:ah}(h:s.heap.objs.size<=a):a∉X.fs:=λhb=>by
 obtain⟨_,o,ho,_⟩:=I.ok.iJ.mem hb;exact absurd (dI (dB ho) (gF I.sz h)) (gZ _)
theorem Inv.vg(I:Inv X pins σ H s):∀x c,X.env.cells.lookup x=aB c->c≠X.env.locals:=λx c e z=>by
 obtain⟨v,o,ho,hd⟩:=I.cell x c e;obtain⟨m,⟨o',es,ep,ho',hd',_⟩,_⟩:=I.loc;rw[z,ho']at ho;cases ho;rw[hd']at hd;cases hd
theorem Inv.iJ(I:Inv X pins σ H s):s.heap.FunFrames X.base X.outer:=by
 have all:∀(l:List Env),(∀b∈frs l,b∈X.fs)->X.s₀.heap.FunFrames X.base l->s.heap.FunFrames X.base l:=by
  intro l;induction l with
  |nil=>intro _ _;trivial
  |cons env r ih=>
   intro hs hl;obtain⟨hk,⟨L,o,hf,hn,ho,hd⟩,hr⟩:=hl;have hL:L∈X.fs:=hs L (by unfold frs;rw[vcs,hf];exact eX);obtain⟨sl,e⟩:=I.base.slot L o ho (I.ok.xT L hL) hL λz=>I.ok.mS L z hL;exact⟨hk,⟨L,_,hf,hn,e,hd⟩,ih (λb hb=>hs b (by unfold frs;rw[vcs,hf];exact eW _ hb)) hr⟩
 exact all X.outer (λ_ hb=>hb) I.ok.iJ
theorem Inv.stack(I:Inv X pins σ H s):s.heap.FunFrames X.base X.stack:=by rcases I.ok.stk with e|⟨e,hf⟩;rw[e];exact I.iJ;rw[e];obtain⟨m,hn,_⟩:=I.loc;refine .cons (by rw[I.ok.kind];decide) hf hn ?_ I.iJ;exact Heap.get?_none_of_le (gF I.ok.vf I.ok.above)
theorem Inv.lg(I:Inv X pins σ H s):∀b∈frs X.stack,b∈X.env.locals::X.fs:=λb hb=>by
 rcases I.ok.stk with e|⟨e,hf⟩;rw[e]at hb;exact eW _ hb;rw[e]at hb;unfold frs at hb;rw[vcs,hf]at hb;exact hb
theorem Inv.lU(I:Inv X pins σ H s):∀b∈frs X.stack,H b=aC:=λb hb=>by
 rcases fV.mp (I.lg b hb)with e|hb;rw[e];exact I.free;obtain⟨_,o,ho,_⟩:=I.ok.iJ.mem hb;exact I.base.free b o ho (I.ok.xT b hb) λz=>I.ok.mS b z hb
theorem Inv.step{g':Array GenState}{t':Nat}{d':Drawn}{ch:List ah}(I:Inv X pins σ H s)
 (hch:∀b∈ch,(b∈X.ex\/X.s₀.heap.objs.size<=b)/\b≠X.env.locals/\(∀x c,X.env.cells.lookup x=aB c->c≠b)/\∀p∈X.pn++pins,p.1≠b)
 (keep:∀b o,b≠X.env.locals->b∉X.fs->b∉ch->s.heap.get? b=aB o->H b=aC->h'.get? b=aB o)
 (slot:∀b o,b≠X.env.locals->b∈X.fs->b∉ch->s.heap.get? b=aB o->H b=aC->∃sl,h'.get? b=aB {o with slots:=sl}) (free:∀b o,b∉ch->s.heap.get? b=aB o->H b=aC->H' b=aC)
 (there:∀b o,b∉ch->s.heap.get? b=aB o->∃o',h'.get? b=aB o')
 (tups:∀b xs,H b=aB (.tup xs)->H' b=aB (.tup xs)) (iI:∀b o u,H b=aB (.bF o u)->H' b=aB (.bF o u)) (jc:∀b ps,H b=aB (.u9 ps)->∃more,H' b=aB (.u9 (ps++more)))
 (ns:∀m,s.heap.Ns X.env.locals m->h'.Ns X.env.locals m) (hok:fj X.prog X.w H' h') (hg:AllBare g') :
 Inv X pins σ H' {s with heap:=h',gens:=g',drawn:=d',toks:=t'}:=by
 have KQ:∀b o,X.s₀.heap.get? b=aB o->b≠X.env.locals:=λb o e=>gB (dI (dB e) I.ok.above);have nS:∀b o,X.s₀.heap.get? b=aB o->b∉X.ex->b∉ch:=λb o e hx hb=>by
  rcases(hch b hb).1 with z|z;exact hx z;exact absurd (dI (dB e) z) (gZ _)
 have cellK:∀x c,X.env.cells.lookup x=aB c->∀v,s.heap.IsCell c v->h'.IsCell c v:=λx c e v bW=>by
  obtain⟨o,ho,hd⟩:=bW;have zf:c∉ch:=λz=>(hch c z).2.2.1 x c e rfl;by_cases hc:c∈X.fs;obtain⟨sl,q⟩:=slot c o (I.vg x c e) hc zf ho (I.fD x c e);exact⟨_,q,hd⟩;exact⟨o,keep c o (I.vg x c e) hc zf ho (I.fD x c e),hd⟩
 refine⟨I.ok,I.os,hg,⟨λb o e n hb hx=>?_,λb o e n hb hx=>?_,λb o e n hx=>?_,λb o e hx=>?_,λb xs e=>tups b xs (I.base.tups b xs e),λb o xs e=>iI b o xs (I.base.iI b o xs e),λb ps e=>?_⟩,?_,λx c e=>?_,?_,λx c e=>?_,λp hp=>?_,hok,I.len⟩;exact keep b o (KQ b o e) hb (nS b o e hx) (I.base.keep b o e n hb hx) (I.base.free b o e n hx);obtain⟨sl,e1⟩:=I.base.slot b o e n hb hx;obtain⟨PL,e2⟩:=slot b _ (KQ b o e) hb (nS b o e hx) e1 (I.base.free b o e n hx);exact⟨PL,e2⟩;obtain⟨o',e1⟩:=I.base.there b o e hx;exact free b o' (nS b o e hx) e1 (I.base.free b o e n hx);obtain⟨o',e1⟩:=I.base.there b o e hx;exact there b o' (nS b o e hx) e1;obtain⟨m1,e1⟩:=I.base.jc b ps e;obtain⟨m2,e2⟩:=jc b _ e1;exact⟨m1++m2,by rw[e2,Array.append_assoc]⟩;obtain⟨m,hn,hl⟩:=I.loc;refine⟨m,ns m hn,λi x v e1 e2 e3=>?_⟩;obtain⟨u,r,l⟩:=hl i x v e1 e2 e3;refine⟨u,r,?_⟩;rcases l with l|⟨k,c,e,z⟩
 exact .inl l;exact .inr ⟨k,c,e,cellK x c e _ z⟩;obtain⟨v,z⟩:=I.cell x c e;exact⟨v,cellK x c e v z⟩;obtain⟨m,⟨o,_,_,ho,_⟩,_⟩:=I.loc;exact free _ o (λz=>(hch _ z).2.1 rfl) ho I.free;obtain⟨v,o,ho,hd⟩:=I.cell x c e;exact free c o (λz=>(hch c z).2.2.1 x c e rfl) ho (I.fD x c e);obtain⟨e,n,ne,nf,d⟩:=I.pin p hp;have zf:p.1∉ch:=λz=>(hch p.1 z).2.2.2 p hp rfl;exact⟨keep p.1 p.2 ne nf zf e n,free p.1 p.2 zf e n,ne,nf,d⟩
theorem Inv.un{t':Nat}(I:Inv X pins σ H s)(u:Un X.fs [] H H' s.heap h')(hok:fj X.prog X.w H' h'):Inv X pins σ H' {s with heap:=h',toks:=t'}:=by
 obtain⟨m,⟨o,es,ep,ho,r⟩,_⟩:=id I.loc;obtain⟨sl,hL⟩:=u.any ho I.free (by simp);exact I.step (g':=s.gens) (d':=s.drawn) (ch:=[]) (λ_ z=>nomatch z) (λb o _ hb _ e n=>u.keep b o e n hb (by simp)) (λb o _ hb _ e n=>u.slot b o e n hb (by simp)) (λb o _ e n=>u.free b o e n (by simp)) (λb o _ e=>u.there b o e (by simp)) u.tups u.iI u.jc (λm' hm=>by
  obtain⟨o',es',zg,ho',r'⟩:=hm;rw[ho]at ho';cases ho';exact⟨_,es',zg,hL,r'⟩) hok I.bare
theorem Inv.call{g':Array GenState}{t':Nat}{d':Drawn}{ch:List ah}(I:Inv X pins σ H s)(u:Un (frs X.stack) ch H H' s.heap h')(hok:fj X.prog X.w H' h')(hg:AllBare g')
 (hch:∀b∈ch,(b∈X.ex\/X.s₀.heap.objs.size<=b)/\b≠X.env.locals/\(∀x c,X.env.cells.lookup x=aB c->c≠b)/\∀p∈X.pn++pins,p.1≠b) :
 Inv X pins σ H' {s with heap:=h',gens:=g',drawn:=d',toks:=t'}:=by
 obtain⟨m,⟨o,es,ep,ho,r⟩,_⟩:=id I.loc;obtain⟨sl,hL⟩:=u.any ho I.free λz=>(hch _ z).2.1 rfl;exact I.step (ch:=ch) hch (λb o hL hb hc e n=>u.keep b o e n (λz=>(fV.mp (I.lg b z)).elim hL hb) hc) (λb o _ _ hc e n=>u.any e n hc) (λb o hc e n=>u.free b o e n hc) (λb o hc e=>u.there b o e hc) u.tups u.iI u.jc (λm' hm=>by
  obtain⟨o',es',zg,ho',r'⟩:=hm;rw[ho]at ho';cases ho';exact⟨_,es',zg,hL,r'⟩) hok hg
theorem Inv.turned{t':Nat}{it:ah}(I:Inv X pins σ H s)(k:∀b o,b≠it->s.heap.get? b=aB o->h'.get? b=aB o)(hn:H it=aC)(hL:it≠X.env.locals)
 (h1:it∈X.ex\/X.s₀.heap.objs.size<=it) (h2:∀x c,X.env.cells.lookup x=aB c->c≠it) (h3:∀p∈X.pn++pins,p.1≠it):Inv X pins σ H {s with heap:=h',toks:=t'}:=by
 have KR:∀b u,H b=aB u->b≠it:=λb u e z=>by rw[z,hn]at e;cases e
 refine I.step (g':=s.gens) (d':=s.drawn) (ch:=[it]) (λb hb=>?_) (λb o _ _ hc e _=>k b o (λz=>hc (by simp[z])) e) (λb o _ _ hc e _=>⟨o.slots,k b o (λz=>hc (by simp[z])) e⟩) (λ_ _ _ _ n=>n)
  (λb o hc e=>⟨o,k b o (λz=>hc (by simp[z])) e⟩) (λ_ _ e=>e) (λ_ _ _ e=>e) (λb ps e=>⟨#[],by rw[e];simp⟩) (λm hm=>?_) (λb u e=>?_) I.bare
 have e:b=it:=by simpa using hb
 subst e;exact⟨h1,hL,h2,h3⟩;obtain⟨o,es,ep,ho,r⟩:=hm;exact⟨o,es,ep,k _ o (eZ hL) ho,r⟩;refine(I.hok b u e).stay (λc v hc q=>k c v ?_ q) (λ_ q=>q) λ_ _ q=>q;rcases hc with z|z
 rw[z];exact KR b u e;exact KR c _ z
theorem Inv.tok(I:Inv X pins σ H s)(t:Nat):Inv X pins σ H {s with toks:=t}:=I.un (h':=s.heap) (t':=t) Un.refl I.hok
theorem Inv.kept{t':Nat}(I:Inv X pins σ H s)(k:∀b u,s.heap.get? b=aB u->h'.get? b=aB u):Inv X pins σ H {s with heap:=h',toks:=t'}:=I.un (Un.kept k) (I.hok.kept k)
theorem Inv.laid{a:ah}{o:HO}{t':Nat}(I:Inv X pins σ H s)(k:∀b u,s.heap.get? b=aB u->h'.get? b=aB u)(hp:s.heap.objs.size<=a)(new:bw X.prog X.w (upd H a o) h' a o) :
 Inv X pins σ (upd H a o) {s with heap:=h',toks:=t'}:=I.un (Un.laid k hp (I.hok.fresh hp)) (I.hok.laid k hp new)
theorem Inv.write{x e:ah}{o:HO}{t':Nat}(I:Inv X pins σ H s)(mu:tD (H x))(he:e=x\/H e=aB (.own x))(k:∀b u,b≠e->s.heap.get? b=aB u->h'.get? b=aB u)(xQ:∃u,h'.get? e=aB u)
 (new:bw X.prog X.w (upd H x o) h' x o):Inv X pins σ (upd H x o) {s with heap:=h',toks:=t'}:=I.un (Un.write mu he k xQ) (I.hok.write mu he k xQ new)
theorem Inv.lV{tE:List (ah×Obj)}(I:Inv X pins σ H s)(h:∀p∈tE,s.heap.get? p.1=aB p.2/\H p.1=aC/\p.1≠X.env.locals/\p.1∉X.fs/\∀v,p.2.data≠.cell v):Inv X tE σ H s:=
 ⟨I.ok,I.os,I.bare,I.base,I.loc,I.cell,I.free,I.fD,λp hp=>(uW.mp hp).elim (λz=>I.pin p (C7 _ z)) (h p),I.hok,I.len⟩
theorem KS{N:List Str}(hN:N.Nodup){i j:Nat}{x:Str}(a:N[i]?=aB x)(b:N[j]?=aB x):i=j:=by obtain⟨h1,e1⟩:=gA.mp a;obtain⟨h2,e2⟩:=gA.mp b;exact(List.getElem_inj hN).mp (e1.trans e2.symm)
theorem F4{M:Model}{A:ak}{E:aa->af->Prop}{i:Nat}{x:Str}{v:V}{u:aa}{Q:Unit->af->Prop}(I:Inv X pins σ H s)(hN:X.N.Nodup)(hi:X.N[i]?=aB x)(hx:Loc X.env.scope x)(r:RelV v u)
 (h:∀s',Inv X pins (σ.set i (aB v)) H s'->(∃a,Heap.SameBut a s.heap s'.heap/\(a=X.env.locals\/X.env.cells.lookup x=aB a))->Q () s') (hf:autoParam (X.fn x=true\/X.env.scope.names.lookup x=aB .local) L2.aF._auto_1):wpAny M A (storeName X.env x u) Q E s:=by
 obtain⟨m,hn,hl⟩:=id I.loc;have hcls:(X.env.scope.kind == .class|| (X.env.scope.kind == .module&&X.env.locals != X.env.globals))=false:=by rw[I.ok.kind];rfl
 have zh:i<σ.length:=by rw[I.len];exact(gA.mp hi).1
 have vg:=I.vg;have tracked:∀{a:ah}{h':az},(∃o,s.heap.get? a=aB o/\H a=aC)->Heap.SameBut a s.heap h'->fj X.prog X.w H h':=λ{a h'} ha hs b ob e=>by
  obtain⟨_,_,hfree⟩:=ha;refine(I.hok b ob e).stay (λc w' hc q=>(hs.2 c ?_).trans q) (λ_ q=>q) λ_ _ q=>q;rintro rfl;rcases hc with rfl|hc;rw[hfree]at e;cases e;rw[hfree]at hc;cases hc
 rcases hx with hk|hk;refine wpAny_storeName_local hk hn (λh' hn' hs=>?_) hcls;obtain⟨oL,_,_,PN,_⟩:=id hn;refine h _ ⟨I.ok,I.os,I.bare,⟨λb o e n hb hx=>?_,λb o e n hb hx=>?_,I.base.free,λb o e hx=>?_,I.base.tups,I.base.iI,I.base.jc⟩,⟨_,hn',λj y v' e1 e2 e3=>?_⟩,λy c e=>?_,I.free,I.fD,λp hp=>?_,tracked ⟨oL,PN,I.free⟩ hs,by simpa using I.len⟩ ⟨_,hs,.inl rfl⟩;exact(hs.2 b (gB (dI (dB e) I.ok.above))).trans (I.base.keep b o e n hb hx);obtain⟨sl,e1⟩:=I.base.slot b o e n hb hx;exact⟨sl,(hs.2 b (gB (dI (dB e) I.ok.above))).trans e1⟩;obtain⟨o',e1⟩:=I.base.there b o e hx;exact⟨o',(hs.2 b (gB (dI (dB e) I.ok.above))).trans e1⟩;by_cases hj:j=i;subst hj;rw[hi]at e1;cases e1;rw[uT zh]at e2;cases e2;exact⟨u,r,.inl ⟨hk,by simp⟩⟩;rw[xC (eZ hj)]at e2;obtain⟨u',r',q⟩:=hl j y v' e1 e2 e3;refine⟨u',r',?_⟩;rcases q with⟨k,e⟩|⟨k,c,e,z⟩;refine .inl ⟨k,?_⟩;have:y≠x:=λe=>hj (KS hN e1 (e▸hi));simp[this,e];exact .inr ⟨k,c,e,z.sameBut hs (vg y c e)⟩;obtain⟨w',z⟩:=I.cell y c e;exact⟨w',z.sameBut hs (vg y c e)⟩;obtain⟨e,n,ne,nf,d⟩:=I.pin p hp;exact⟨(hs.2 p.1 ne).trans e,n,ne,nf,d⟩;have hfn:X.fn x=true:=by rcases hf with z|z;exact z;rw[z]at hk;cases hk
 obtain⟨c,hc⟩:=I.ok.has x (.inl hk);obtain⟨w',z⟩:=I.cell x c hc;refine wpAny_storeName_cell I.ok.kind hk hc z (λh' hc' hs=>?_);obtain⟨oc,hoc,F5⟩:=id z;refine h {s with heap:=h'} ⟨I.ok,I.os,I.bare,⟨λb o e n hb hx=>?_,λb o e n hb hx=>?_,I.base.free,λb o e hx=>?_,I.base.tups,I.base.iI,I.base.jc⟩,⟨m,hn.sameBut hs (eZ (vg x c hc)),λj y v' e1 e2 e3=>?_⟩,λy c' e=>?_,I.free,I.fD,λp hp=>?_,tracked ⟨oc,hoc,I.fD x c hc⟩ hs,by simpa using I.len⟩ ⟨c,hs,.inr hc⟩;exact(hs.2 b (gB (dI (dB e) (I.ok.ze x c hfn hc)))).trans (I.base.keep b o e n hb hx);obtain⟨sl,e1⟩:=I.base.slot b o e n hb hx;exact⟨sl,(hs.2 b (gB (dI (dB e) (I.ok.ze x c hfn hc)))).trans e1⟩;obtain⟨o',e1⟩:=I.base.there b o e hx;exact⟨o',(hs.2 b (gB (dI (dB e) (I.ok.ze x c hfn hc)))).trans e1⟩;by_cases hj:j=i;subst hj;rw[hi]at e1;cases e1;rw[uT zh]at e2;cases e2;exact⟨u,r,.inr ⟨.inl hk,c,hc,hc'⟩⟩;rw[xC (eZ hj)]at e2;obtain⟨u',r',q⟩:=hl j y v' e1 e2 e3;refine⟨u',r',?_⟩;rcases q with q|⟨k,c',e,z'⟩;exact .inl q;refine .inr ⟨k,c',e,z'.sameBut hs ?_⟩;rintro rfl;exact hj (KS hN e1 (I.ok.inj _ _ _ e hc▸hi));by_cases hcc:c'=c;subst hcc;exact⟨_,hc'⟩;obtain⟨w2,z2⟩:=I.cell y c' e;exact⟨w2,z2.sameBut hs hcc⟩;obtain⟨e,n,ne,nf,d⟩:=I.pin p hp;refine⟨(hs.2 p.1 ?_).trans e,n,ne,nf,d⟩;intro q;rw[q,hoc]at e;have q':oc=p.2:=lT e;exact d w' (by rw[<-q'];exact F5)
theorem F6{M:Model}{A:ak}{E:aa->af->Prop}{i:Nat}{x:Str}{v:V}{u:aa}{Q:Unit->af->Prop}(I:Inv X pins σ H s)(hN:X.N.Nodup)(hi:X.N[i]?=aB x)(hx:Loc X.env.scope x)(r:RelV v u)
 (h:∀s',Inv X pins (σ.set i (aB v)) H s'->Q () s') (hf:autoParam (X.fn x=true\/X.env.scope.names.lookup x=aB .local) L2.aF._auto_1):wpAny M A (storeName X.env x u) Q E s:=
 F4 I hN hi hx r (λs' I' _=>h s' I') hf
theorem Inv.tF{s':af}{ch:List ah}(I:Inv X pins σ H s)(ho:s'.os=s.os)(u:Un (frs X.stack) ch H H' s.heap s'.heap)(hok:fj X.prog X.w H' s'.heap)(hg:AllBare s'.gens)
 (hch:∀b∈ch,(b∈X.ex\/X.s₀.heap.objs.size<=b)/\b≠X.env.locals/\(∀x c,X.env.cells.lookup x=aB c->c≠b)/\∀p∈X.pn++pins,p.1≠b):Inv X pins σ H' s':=by
 obtain⟨h',g',d',t',o'⟩:=s';have e:o'=s.os:=ho;subst e;exact I.call (g':=g') (t':=t') (d':=d') u hok hg hch
end
noncomputable abbrev XK:=aa->Option ah->Hp->Prop
noncomputable abbrev St:=List (Option V)
noncomputable abbrev VK:=V->Hp->Prop
noncomputable abbrev TE:=St->Hp->VK->Prop
noncomputable abbrev TT:=St->Hp->(Bool->Hp->Prop)->Prop
noncomputable abbrev TA:=St->Hp->(List V->Hp->Prop)->Prop
set_option genInjectivity false in
structure Ends where
 nx:St->Hp->Prop
 rt:VK
 bk:St->Hp->Prop:=λ_ _=>False
 ct:St->Hp->Prop:=λ_ _=>False
noncomputable abbrev TS:=Ends->St->Hp->Prop
noncomputable def EP(X:Cx)(pins:List (ah×Obj))(σ:St)(Q:VK)(u:aa)(s':af):Prop:=∃v H',Inv X pins σ H' s'/\RelV v u/\Q v H'
noncomputable def TP(X:Cx)(pins:List (ah×Obj))(σ:St)(Q:Bool->Hp->Prop)(b:Bool)(s':af):Prop:=∃H',Inv X pins σ H' s'/\Q b H'
noncomputable def AP(X:Cx)(pins:List (ah×Obj))(σ:St)(Q:List V->Hp->Prop)(us:List aa)(s':af):Prop:=∃vs H',Inv X pins σ H' s'/\Vals vs us/\Q vs H'
theorem EP.el{X:Cx}{pins:List (ah×Obj)}{σ:St}{Q:VK}{u:aa}{s':af}{P:Prop}(q:EP X pins σ Q u s')(k:∀v H',Inv X pins σ H' s'->RelV v u->Q v H'->P):P:=by obtain⟨v,H',a,b,c⟩:=q;exact k v H' a b c
theorem TP.el{X:Cx}{pins:List (ah×Obj)}{σ:St}{Q:Bool->Hp->Prop}{b:Bool}{s':af}{P:Prop}(q:TP X pins σ Q b s')(k:∀H',Inv X pins σ H' s'->Q b H'->P):P:=by obtain⟨H',a,c⟩:=q;exact k H' a c
theorem AP.el{X:Cx}{pins:List (ah×Obj)}{σ:St}{Q:List V->Hp->Prop}{us:List aa}{s':af}{P:Prop}(q:AP X pins σ Q us s')(k:∀vs H',Inv X pins σ H' s'->Vals vs us->Q vs H'->P):P:=by obtain⟨v,H',a,b,c⟩:=q;exact k v H' a b c
noncomputable def SP(X:Cx)(pins:List (ah×Obj))(D:Ends)(f:Flow)(s':af):Prop:=
 match f with|.next=>∃σ' H',Inv X pins σ' H' s'/\D.nx σ' H'|.brk=>∃σ' H',Inv X pins σ' H' s'/\D.bk σ' H'|.cont=>∃σ' H',Inv X pins σ' H' s'/\D.ct σ' H'|.ret u=>∃v σ' H',Inv X pins σ' H' s'/\RelV v u/\D.rt v H'
noncomputable def PE(X:Cx)(e:ao)(t:TE):Prop:=
 ∀(pins:List (ah×Obj))(s:af)(σ:St)(H:Hp)(Q:VK),Inv X pins σ H s->t σ H Q->wpAny (model X.prog X.w) X.A (eval e X.env) (EP X pins σ Q) X.xe s
noncomputable def PT(X:Cx)(e:ao)(t:TT):Prop:=
 ∀(pins:List (ah×Obj))(s:af)(σ:St)(H:Hp)(Q:Bool->Hp->Prop),Inv X pins σ H s->t σ H Q->wpAny (model X.prog X.w) X.A (isTrue e X.env (eval e X.env)) (TP X pins σ Q) X.xe s
noncomputable def PW(X:Cx)(e:ao)(t:TT):Prop:=
 ∀(whole:Sem aa)(pins:List (ah×Obj))(s:af)(σ:St)(H:Hp)(Q:Bool->Hp->Prop),Inv X pins σ H s->t σ H Q->wpAny (model X.prog X.w) X.A (isTrue e X.env whole) (TP X pins σ Q) X.xe s
theorem PW.pt{X:Cx}{e:ao}{t:TT}(h:PW X e t):PT X e t:=h _
noncomputable def PA(X:Cx)(es:List ao)(t:TA):Prop:=
 ∀(pos:Pos)(pins:List (ah×Obj))(s:af)(σ:St)(H:Hp)(Q:List V->Hp->Prop),Inv X pins σ H s->t σ H Q->wpAny (model X.prog X.w) X.A (spliced (backTo pos (starEach es X.env))) (AP X pins σ Q) X.xe s
noncomputable def PS(X:Cx)(st:aq)(t:TS):Prop:=
 ∀(pins:List (ah×Obj))(s:af)(σ:St)(H:Hp)(D:Ends),Inv X pins σ H s->t D σ H->wpAny (model X.prog X.w) X.A (exec st X.env) (SP X pins D) X.xe s
noncomputable def kW(X:Cx)(st:List aq)(t:TS):Prop:=
 ∀(pins:List (ah×Obj))(s:af)(σ:St)(H:Hp)(D:Ends),Inv X pins σ H s->t D σ H->wpAny (model X.prog X.w) X.A (execs st X.env) (SP X pins D) X.xe s
theorem bq{α:Type}{t:Sem α}{Q Q':α->af->Prop}{M:Model}{A:ak}{E:aa->af->Prop}{s:af}(h:wpAny M A t Q E s)(hQ:∀a s,Q a s->Q' a s):wpAny M A t Q' E s:=gY h hQ λ_ _ x=>x
section
variable{X:Cx}
noncomputable def F7(i:Nat):TE:=λσ H Q=>∃v,σ[i]?=aB (aB v)/\Q v H
noncomputable def tC(v:V):TE:=λ_ H Q=>Q v H
theorem PR{i:Nat}{x:Str}{pos:Pos}(hN:X.N[i]?=aB x)(hv:xR X.env.scope x)(hd:autoParam ((x==("__debug__" : Str))=false) L2.aD._auto_1)(hcd:autoParam ((x==("__classdict__" : Str))=false) L2.aD._auto_1):PE X (.Name x pos) (F7 i):=by
 intro pins s σ H Q I h;obtain⟨v,e,h⟩:=h;obtain⟨m,hn,hl⟩:=I.loc;obtain⟨u,r,l⟩:=hl i x v hN e hv;have fin:EP X pins σ Q u s:=⟨v,H,I,r,h⟩
 rcases l with⟨hk,hm⟩|⟨hk,c,hc,hcell⟩;exact wpAny_Name (wpAny_loadName_local I.ok.kind hk hn hm fin) hd;rcases hk with hk|hk;exact wpAny_Name (wpAny_loadName_cell I.ok.kind hk hc hcell fin) hd;exact wpAny_Name (wpAny_loadName_free I.ok.kind hk hc hcell fin hcd) hd
theorem PU{i j pos}:PE X (.Constant (.int i) j pos) (tC (.int i)):=λ_ _ _ H _ I h=>wpAny_Constant_int ⟨.int i,H,I.tok _,⟨_,rfl⟩,h⟩
theorem zj{b j pos}:PE X (.Constant (.bool b) j pos) (tC (.bl b)):=λ_ _ _ H _ I h=>Constant_bool ⟨.bl b,H,I,rfl,h⟩
theorem PV{j pos}:PE X (.Constant .none j pos) (tC .aQ):=λ_ _ _ H _ I h=>Constant_none ⟨.aQ,H,I,rfl,h⟩
theorem PX{x j pos}:PE X (.Constant (.str x) j pos) (tC (.str x)):=λ_ _ _ H _ I h=>Calls.Constant_str ⟨.str x,H,I.tok _,⟨_,rfl⟩,h⟩
noncomputable def Gl(X:Cx)(x:Str):Prop:=X.env.kindOf x=aB .globalImplicit
theorem F8{E:aa->af->Prop}{pins:List (ah×Obj)}{s:af}{σ:St}{H:Hp}{x:Str}{u:aa}{pos:Pos}{Q:aa->af->Prop}(I:Inv X pins σ H s)(hg:Gl X x)(hm:X.mg x=aB u)(h:Q u s)
 (hd:autoParam ((x==("__debug__" : Str))=false) L2.aD._auto_1):wpAny (model X.prog X.w) X.A (eval (.Name x pos) X.env) Q E s:=
 Calls.Name_function_global I.ok.kind hg (Calls.loadGlobal_global (by rw[I.ok.glob];exact I.mod.glob.keeps I.bk) hm h) hd
theorem tG{E:aa->af->Prop}{pins:List (ah×Obj)}{s:af}{σ:St}{H:Hp}{x:Str}{u:aa}{pos:Pos}{Q:aa->af->Prop}(I:Inv X pins σ H s)(hg:Gl X x)(hm:X.mg x=aC)(hv:bootBuiltins x=aB u)(h:Q u s)
 (hn:autoParam (x≠"__name__") L2.aD._auto_1) (hd:autoParam ((x==("__debug__" : Str))=false) L2.aD._auto_1):wpAny (model X.prog X.w) X.A (eval (.Name x pos) X.env) Q E s:=by
 obtain⟨mb,h1,h2⟩:=I.mod.blt;exact Calls.Name_function_global I.ok.kind hg (Calls.loadGlobal_builtin (by rw[I.ok.glob];exact I.mod.glob.keeps I.bk) hm (by rw[I.ok.blt];exact h1.keeps I.bk) ((h2 x hn).trans hv) h) hd
theorem PY{x:Str}{v:V}{u:aa}{pos:Pos}(hg:Gl X x)(hm:X.mg x=aB u)(r:RelV v u)(hd:autoParam ((x==("__debug__" : Str))=false) L2.aD._auto_1):PE X (.Name x pos) (tC v):=
 λ_ _ _ H _ I h=>F8 I hg hm ⟨v,H,I,r,h⟩ hd
theorem PZ{x:Str}{v:V}{u:aa}{pos:Pos}(hg:Gl X x)(hm:X.mg x=aC)(hv:bootBuiltins x=aB u)(r:RelV v u)(hn:autoParam (x≠"__name__") L2.aD._auto_1)(hd:autoParam ((x==("__debug__" : Str))=false) L2.aD._auto_1):PE X (.Name x pos) (tC v):=
 λ_ _ _ H _ I h=>tG I hg hm hv ⟨v,H,I,r,h⟩ hn hd
variable{a b:ao}{ta tb:TE}{pos:Pos}
variable{tA DG:TT}{rest:List ao}
noncomputable def F9(t u:TT):TT:=λσ H Q=>t σ H λc H1=>if c=true then u σ H1 Q else Q false H1
noncomputable def P0(t u:TT):TT:=λσ H Q=>t σ H λc H1=>if c=true then Q true H1 else u σ H1 Q
noncomputable def Ga(t:TT):TT:=λσ H Q=>t σ H λc H1=>Q (!c) H1
theorem P4(ha:PT X a tA):PW X (.BoolOp .And [a] pos) tA:=by
 intro wh pins s σ H Q I h;refine isTrue_and (bq (ha pins s σ H Q I h) λc s1 e=>?_);cases c with|true=>exact isTrue_and_nil e|false=>exact e
theorem P5(ha:PT X a tA):PW X (.BoolOp .Or [a] pos) tA:=by
 intro wh pins s σ H Q I h;refine isTrue_or (bq (ha pins s σ H Q I h) λc s1 e=>?_);cases c with|false=>exact isTrue_or_nil e|true=>exact e
theorem P6(ha:PT X a tA)(hb:PW X (.BoolOp .And (b::rest) pos) DG):PW X (.BoolOp .And (a::b::rest) pos) (F9 tA DG):=by
 intro wh pins s σ H Q I h;refine isTrue_and (bq (ha pins s σ H _ I h) λc s1 z9=>z9.el λH1 I1 q1=>?_);cases c with|true=>exact hb wh pins s1 σ H1 Q I1 q1|false=>exact⟨H1,I1,q1⟩
theorem pw_or(ha:PT X a tA)(hb:PW X (.BoolOp .Or (b::rest) pos) DG):PW X (.BoolOp .Or (a::b::rest) pos) (P0 tA DG):=by
 intro wh pins s σ H Q I h;refine isTrue_or (bq (ha pins s σ H _ I h) λc s1 z9=>z9.el λH1 I1 q1=>?_);cases c with|true=>exact⟨H1,I1,q1⟩|false=>exact hb wh pins s1 σ H1 Q I1 q1
theorem P7(ha:PT X a tA):PT X (.UnaryOp .Not a pos) (Ga tA):=by intro pins s σ H Q I h;exact isTrue_not (ha pins s σ H (λc H1=>Q (!c) H1) I h)
noncomputable def zk(ta tb:TE):TE:=λσ H Q=>ta σ H λx H1=>∃c,x=.bl c/\if c=true then tb σ H1 Q else Q (.bl false) H1
noncomputable def Gb(ta tb:TE):TE:=λσ H Q=>ta σ H λx H1=>∃c,x=.bl c/\if c=true then Q (.bl true) H1 else tb σ H1 Q
noncomputable def zl(ta:TE):TE:=λσ H Q=>ta σ H λx H1=>∃c,x=.bl c/\Q (.bl (!c)) H1
theorem P8{op}{t:TE}(h:PE X a t):PE X (.BoolOp op [a] pos) t:=λpins s σ H Q I hw=>BoolOp_one (h pins s σ H Q I hw)
theorem P9(ha:PE X a ta)(hb:PE X (.BoolOp .And (b::rest) pos) tb):PE X (.BoolOp .And (a::b::rest) pos) (zk ta tb):=by
 intro pins s σ H Q I h;refine BoolOp_and (bq (ha pins s σ H _ I h) λv s1 z9=>z9.el λx H1 I1 r1 q1=>?_);obtain⟨c,rfl,q1⟩:=q1;cases r1;refine pQ ?_;cases c with|true=>exact hb pins s1 σ H1 Q I1 q1|false=>exact⟨.bl false,H1,I1,rfl,q1⟩
theorem zm(ha:PE X a ta)(hb:PE X (.BoolOp .Or (b::rest) pos) tb):PE X (.BoolOp .Or (a::b::rest) pos) (Gb ta tb):=by
 intro pins s σ H Q I h;refine BoolOp_or (bq (ha pins s σ H _ I h) λv s1 z9=>z9.el λx H1 I1 r1 q1=>?_);obtain⟨c,rfl,q1⟩:=q1;cases r1;refine pQ ?_;cases c with|false=>exact hb pins s1 σ H1 Q I1 q1|true=>exact⟨.bl true,H1,I1,rfl,q1⟩
theorem Qa(ha:PE X a ta):PE X (.UnaryOp .Not a pos) (zl ta):=by intro pins s σ H Q I h;refine UnaryOp_ (bq (ha pins s σ H _ I h) λv s1 z9=>z9.el λx H1 I1 r1 q1=>?_);obtain⟨c,rfl,q1⟩:=q1;cases r1;exact not_of (pQ ⟨.bl (!c),H1,I1,rfl,q1⟩)
noncomputable def Qc(t:TT)(ta tb:TE):TE:=λσ H Q=>t σ H λc H1=>if c=true then ta σ H1 Q else tb σ H1 Q
theorem Qd{c:ao}(hc:PT X c tA)(ha:PE X a ta)(hb:PE X b tb):PE X (.IfExp c a b pos) (Qc tA ta tb):=by
 intro pins s σ H Q I h;refine wpAny_IfExp (bq (hc pins s σ H _ I h) λd s1 z9=>z9.el λH1 I1 q1=>?_);cases d with|true=>exact ha pins s1 σ H1 Q I1 q1|false=>exact hb pins s1 σ H1 Q I1 q1
end
noncomputable def cZ(K:aK)(H:Hp)(a:ah)(xs:List V):Prop:=
 Rd H a (.lst xs)\/
  ∃(o:Obj) (its:Array aa) (n:Nat),K.lookup a=aB o/\o.cls=.type "list"/\o.dict=aC/\o.data=.seq its n/\its.size<=sizeLine/\Vals xs its.toList
noncomputable def cH(K:aK)(H:Hp)(a:ah)(xs:List V):Prop:=
 Rd H a (.tup xs)\/
  ∃(o:Obj) (its:Array aa) (n:Nat),K.lookup a=aB o/\o.cls=.type "tuple"/\o.dict=aC/\o.data=.seq its n/\its.size<=sizeLine/\Vals xs its.toList
noncomputable def Gd:aa->Option V|.none=>aB .aQ|.bool b=>aB (.bl b)|.int i _=>aB (.int i)|.str x _=>aB (.str x)|.bytes b _=>aB (.za b)|.float b _=>aB (.xO b)|.ref a=>aB (.ref a)|.type n=>aB (.ty n)|_=>aC
theorem RelV.abs{x:V}{u:aa}(r:RelV x u):Gd u=aB x:=by
 cases x with|aQ=>cases r;rfl|bl _=>cases r;rfl|int _=>obtain⟨t,rfl⟩:=r;rfl|str _=>obtain⟨t,rfl⟩:=r;rfl|za _=>obtain⟨t,rfl⟩:=r;rfl|xO _=>obtain⟨t,rfl⟩:=r;rfl|ref _=>cases r;rfl|ty _=>cases r;rfl
theorem RelV.inj{x y:V}{u:aa}(r:RelV x u)(q:RelV y u):x=y:=lT (r.abs.symm.trans q.abs)
theorem Vals.inj:∀{xs ys:List V} {us:List aa},Vals xs us->Vals ys us->xs=ys|_,_,_,.nil,.nil=>rfl|_,_,_,.cons r t,.cons r' t'=>by rw[r.inj r',Vals.inj t t']
section
variable{X:Cx}{pins:List (ah×Obj)}{σ:St}{H:Hp}{s:af}{a:ah}{xs ys:List V}
theorem cZ.of{K:aK}(h:H a=aB (.lst xs)):cZ K H a xs:=.inl (.inl h)
theorem cH.of{K:aK}(h:H a=aB (.tup xs)):cH K H a xs:=.inl (.inl h)
theorem Inv.list(I:Inv X pins σ H s)(h:cZ X.K H a xs):∃its:List aa,Vals xs its/\PlainL s.heap a its.toArray/\xs.length<=sizeLine:=by rcases h with h|⟨o,its,n,hk,hc,hd,hs,hz,r⟩;obtain⟨z,its,n,r,e⟩:=h.ok I.hok;exact⟨its,r,⟨_,n,e,rfl,rfl,rfl⟩,z⟩;refine⟨its.toList,r,⟨o,n,I.jt a o hk,hc,hd,by simpa using hs⟩,?_⟩;have e:=r.length;simp only[u7]at e;lia
theorem Inv.oz(I:Inv X pins σ H s)(h:cH X.K H a xs):∃its:List aa,Vals xs its/\kU s.heap a its.toArray/\xs.length<=sizeLine:=by rcases h with h|⟨o,its,n,hk,hc,hd,hs,hz,r⟩;obtain⟨z,its,r,p⟩:=h.ok I.hok;exact⟨its,r,p,z⟩;refine⟨its.toList,r,⟨o,I.jt a o hk,hc,⟨n,by simpa using hs⟩,hd⟩,?_⟩;have e:=r.length;simp only[u7]at e;lia
theorem Inv.tuple(I:Inv X pins σ H s)(h:cH X.K H a xs):∃its:List aa,Vals xs its/\IsTup s.heap a its.toArray/\xs.length<=sizeLine:=by obtain⟨its,r,p,z⟩:=I.oz h;exact⟨its,r,p.tup,z⟩
theorem Inv.j6(I:Inv X pins σ H s)(h:cZ X.K H a xs)(h':cZ X.K H a ys):xs=ys:=by
 obtain⟨its,r,⟨o,n,e,_,_,d⟩,_⟩:=I.list h;obtain⟨its',r',⟨o',n',e',_,_,d'⟩,_⟩:=I.list h';rw[e]at e';cases e';rw[d]at d';injection d' with d1 _;have:its=its':=by simpa using lP Array.toList d1
 subst this;exact r.inj r'
theorem Inv.eT(I:Inv X pins σ H s)(h:cH X.K H a xs)(h':cH X.K H a ys):xs=ys:=by
 obtain⟨its,r,⟨o,e,_,n,d⟩,_⟩:=I.tuple h;obtain⟨its',r',⟨o',e',_,n',d'⟩,_⟩:=I.tuple h';rw[e]at e';cases e';rw[d]at d';injection d' with d1 _;have:its=its':=by simpa using lP Array.toList d1
 subst this;exact r.inj r'
end
noncomputable abbrev Cx.jd(X:Cx)(E:aa->af->Prop):Cx:={X with xe:=E}
noncomputable abbrev Cx.xU(X:Cx):Cx:=X.jd λ_ _=>False
theorem Cx.Ok.jd{X:Cx}(ok:X.Ok)(E:aa->af->Prop):(X.jd E).Ok:=
 ⟨ok.mod,ok.kind,ok.glob,ok.blt,ok.above,ok.inj,ok.has,ok.ze,ok.hd,ok.frames,ok.stk,ok.xS,ok.bs,ok.vf,ok.ou,ok.mS,ok.iJ,ok.xT⟩
theorem Cx.Ok.eG{X:Cx}{E:aa->af->Prop}(ok:(X.jd E).Ok):X.Ok:=
 ⟨ok.mod,ok.kind,ok.glob,ok.blt,ok.above,ok.inj,ok.has,ok.ze,ok.hd,ok.frames,ok.stk,ok.xS,ok.bs,ok.vf,ok.ou,ok.mS,ok.iJ,ok.xT⟩
section
variable{X:Cx}{pins:List (ah×Obj)}{σ:St}{H:Hp}{s:af}{E:aa->af->Prop}
theorem Inv.jd(I:Inv X pins σ H s)(E:aa->af->Prop):Inv (X.jd E) pins σ H s:=⟨I.ok.jd E,I.os,I.bare,I.base,I.loc,I.cell,I.free,I.fD,I.pin,I.hok,I.len⟩
theorem Inv.eG(I:Inv (X.jd E) pins σ H s):Inv X pins σ H s:=⟨I.ok.eG,I.os,I.bare,I.base,I.loc,I.cell,I.free,I.fD,I.pin,I.hok,I.len⟩
theorem SP.eG{D:Ends}{f:Flow}{s':af}(h:SP (X.jd E) pins D f s'):SP X pins D f s':=by
 cases f with|next=>obtain⟨σ',H',I,q⟩:=h;exact⟨σ',H',I.eG,q⟩|brk=>obtain⟨σ',H',I,q⟩:=h;exact⟨σ',H',I.eG,q⟩|cont=>obtain⟨σ',H',I,q⟩:=h;exact⟨σ',H',I.eG,q⟩|ret u=>obtain⟨v,σ',H',I,r,q⟩:=h;exact⟨v,σ',H',I.eG,r,q⟩
theorem kW.xU{st:List aq}{t:TS}(h:kW X.xU st t):kW X st t:=λpins s σ H D I hw=>
 gY (h pins s σ H D (I.jd _) hw) (λ_ _ q=>q.eG) λ_ _ z=>False.elim z
end
section
variable{X:Cx}{st:aq}{rest:List aq}{t u:TS}{e:ao}{te:TE}{pos:Pos}
noncomputable def tH:TS:=λD σ H=>D.nx σ H
noncomputable def Ge(t u:TS):TS:=λD σ H=>t {D with nx:=u D} σ H
theorem Qe:kW X [] tH:=λ_ _ σ H _ I h=>wpAny_execs_nil ⟨σ,H,I,h⟩
theorem Qf(h1:PS X st t)(h2:kW X rest u):kW X (st::rest) (Ge t u):=by
 intro pins s σ H D I h;refine wpAny_execs_cons (bq (h1 pins s σ H {D with nx:=u D} I h) λf s1 q=>?_);cases f with
 |next=>
  obtain⟨σ',H',I',q⟩:=q;exact h2 pins s1 σ' H' D I' q
 |ret v=>exact q
 |brk=>exact q
 |cont=>exact q
noncomputable def Qg:TS:=λD σ H=>D.bk σ H
noncomputable def zo:TS:=λD σ H=>D.ct σ H
theorem Qh:PS X (.Pass pos) tH:=λ_ _ σ H _ I h=>wpAny_Pass ⟨σ,H,I,h⟩
theorem Qi:PS X (.Break pos) Qg:=λ_ _ σ H _ I h=>wpAny_Break ⟨σ,H,I,h⟩
theorem Qj:PS X (.Continue pos) zo:=λ_ _ σ H _ I h=>wpAny_Continue ⟨σ,H,I,h⟩
theorem Inv.quiet{pins:List (ah×Obj)}{σ:St}{H:Hp}{s:af}(I:Inv X pins σ H s):interactive X.env=false:=by simp[interactive,I.ok.kind]
noncomputable def zp(te:TE):TS:=λD σ H=>te σ H λ_ H1=>D.nx σ H1
theorem Qk(he:PE X e te)(hs:autoParam (swapsWith e aC pos.line X.env=pure false) L2.aR._auto_1):PS X (.Expr e pos) (zp te):=by intro pins s σ H D I h;exact wpAny_Expr_any (bq (he pins s σ H _ I h) λv s1 z9=>z9.el λx H1 I1 r1 q1=>⟨σ,H1,I1,q1⟩) I.quiet hs
noncomputable def Gf(te:TE):TS:=λD σ H=>te σ H D.rt
theorem Ql(he:PE X e te):PS X (.Return (aB e) pos) (Gf te):=by intro pins s σ H D I h;exact wpAny_Return_some (bq (he pins s σ H _ I h) λv s1 z9=>z9.el λx H1 I1 r1 q1=>⟨x,σ,H1,I1,r1,q1⟩)
noncomputable def zq:TS:=λD _ H=>D.rt .aQ H
theorem Qm:PS X (.Return aC pos) zq:=λ_ _ σ H _ I h=>wpAny_Return_none ⟨.aQ,σ,H,I,rfl,h⟩
noncomputable def Gg(c:TT)(t u:TS):TS:=λD σ H=>c σ H λb H1=>if b=true then t D σ H1 else u D σ H1
theorem zu{c:ao}{a b:List aq}{tc:TT}(hc:PT X c tc)(ha:kW X a t)(hb:kW X b u):PS X (.If c a b pos) (Gg tc t u):=by
 intro pins s σ H D I h;refine wpAny_If (bq (hc pins s σ H _ I h) λd s1 z9=>z9.el λH1 I1 q1=>?_);cases d with|true=>exact ha pins s1 σ H1 D I1 q1|false=>exact hb pins s1 σ H1 D I1 q1
noncomputable def Qn:TS:=λ_ _ _=>False
theorem Qo:PS X st Qn:=λ_ _ _ _ _ _ h=>h.elim
end
noncomputable abbrev TG:=V->St->Hp->(St->Hp->Prop)->Prop
noncomputable abbrev qP:=List V->St->Hp->(St->Hp->Prop)->Prop
noncomputable def PG(X:Cx)(target:ao)(t:TG):Prop:=
 ∀(pins:List (ah×Obj))(s:af)(σ:St)(H:Hp)(v:V)(u:aa)(Q:St->Hp->Prop),Inv X pins σ H s->RelV v u->t v σ H Q->
  wpAny (model X.prog X.w) X.A (assign target X.env u) (λ_ s'=>∃σ' H',Inv X pins σ' H' s'/\Q σ' H') X.xe s
noncomputable def xV(X:Cx)(ts:List ao)(t:qP):Prop:=
 ∀(pins:List (ah×Obj))(s:af)(σ:St)(H:Hp)(vs:List V)(us:List aa)(Q:St->Hp->Prop),Inv X pins σ H s->Vals vs us->t vs σ H Q->
  wpAny (model X.prog X.w) X.A (assignInOrder ((assignEach ts X.env).map (·.2)) us) (λ_ s'=>∃σ' H',Inv X pins σ' H' s'/\Q σ' H') X.xe s
noncomputable abbrev vh:=V->V->V->Hp->(Hp->Prop)->Prop
noncomputable def j7(X:Cx)(t:vh):Prop:=
 ∀(pins:List (ah×Obj))(s:af)(σ:St)(H:Hp)(o i v:V)(ov iv u:aa)(Q:Hp->Prop),Inv X pins σ H s->RelV o ov->RelV i iv->RelV v u->t o i v H Q->
  wpAny (model X.prog X.w) X.A (setItem ov iv u) (λ_ s'=>∃H',Inv X pins σ H' s'/\Q H') X.xe s
noncomputable abbrev DH:=V->V->Hp->VK->Prop
noncomputable def xW(X:Cx)(op:Operator)(t:DH):Prop:=
 ∀(pins:List (ah×Obj))(s:af)(σ:St)(H:Hp)(x y:V)(v u:aa)(Q:VK),Inv X pins σ H s->RelV x v->RelV y u->t x y H Q->
  wpAny (model X.prog X.w) X.A (inplaceOp op v u) (EP X pins σ Q) X.xe s
section
variable{X:Cx}{pos:Pos}
noncomputable def iK(i:Nat):TG:=λv σ H Q=>Q (σ.set i (aB v)) H
theorem KU{i:Nat}{x:Str}(hN:X.N.Nodup)(hi:X.N[i]?=aB x)(hx:Loc X.env.scope x)(hf:autoParam (X.fn x=true\/X.env.scope.names.lookup x=aB .local) L2.aF._auto_1):PG X (.Name x pos) (iK i):=by intro pins s σ H v u Q I r h;exact wpAny_assign_Name (F6 I hN hi hx r (λs' I'=>⟨_,H,I',h⟩) hf)
noncomputable def Gh:qP:=λvs σ H Q=>vs=[]/\Q σ H
noncomputable def zw(t:TG)(u:qP):qP:=λvs σ H Q=>∃v r,vs=v::r/\t v σ H λσ' H'=>u r σ' H' Q
theorem KW:xV X [] Gh:=by intro pins s σ H vs us Q I r h;obtain⟨e,h⟩:=h;subst e;cases r;exact assignInOrder_nil ⟨σ,H,I,h⟩
theorem Gi{e:ao}{es:List ao}{t:TG}{u:qP}(h1:PG X e t)(h2:xV X es u)
 (hs:autoParam ((assignEach (e::es) X.env).map (·.2)=assign e X.env:: (assignEach es X.env).map (·.2)) L2.aR._auto_1):xV X (e::es) (zw t u):=by
 intro pins s σ H vs us Q I r h;obtain⟨v,vr,e1,h⟩:=h;subst e1;cases r with
 |cons r rr=>
  rw[hs];refine assignInOrder_cons (bq (h1 pins s σ H _ _ _ I r h) λ_ s1 bW=>?_);obtain⟨σ1,H1,I1,q1⟩:=bW;exact h2 pins s1 σ1 H1 _ _ Q I1 rr q1
noncomputable def Gj(K:aK)(n:Nat)(t:qP):TG:=λv σ H Q=>∃a xs,v=.ref a/\cH K H a xs/\xs.length=n/\t xs σ H Q
theorem KY{es:List ao}{k:Nat}{t:qP}{n:Nat}(hc:X.calm)(h:xV X es t)
 (hn:autoParam ((assignEach es X.env).length=n) L2.aR._auto_1) (hst:autoParam ((assignEach es X.env).findIdx? (·.1)=aC) L2.aR._auto_1):PG X (.Tuple es k pos) (Gj X.K n t):=by
 intro pins s σ H v u Q I r hw;obtain⟨a,xs,e1,hq,hl,hw⟩:=hw;subst e1;cases r;obtain⟨its,rv,ht,hz⟩:=I.tuple hq;refine assign_Tuple_tuple (I.ok.hd hc) ht (by simp[hn,<-hl,rv.length]) hst λh' hx=>?_;have I1:Inv X pins σ H {s with heap:=h'}:=I.kept (t':=s.toks) λb o e=>hx b o (gB (dB e)) e;exact h pins _ σ H xs _ Q I1 (by simpa using rv) hw
noncomputable def Gk(to ti:TE)(t:vh):TG:=λv σ H Q=>to σ H λo H1=>ti σ H1 λi H2=>t o i v H2 λH3=>Q σ H3
theorem Qp{o i:ao}{to ti:TE}{t:vh}(ho:PE X o to)(hi:PE X i ti)(hs:j7 X t)
 (ha:∀v,assign (.Subscript o i pos) X.env v=(do
   let ov <-holding [v] (eval o X.env);let iv <-holding [v,ov] (eval i X.env)
   standAt pos
   holding [v,ov,iv] (setItem ov iv v)
   release [v,ov,iv] []):=by intro _;rfl):PG X (.Subscript o i pos) (Gk to ti t):=by
 intro pins s σ H v u Q I r h;rw[ha];refine aG (mL (bq (ho pins s σ H _ I h) λov s1 z9=>z9.el λx H1 I1 r1 q1=>?_));refine aG (mL (bq (hi pins s1 σ H1 _ I1 q1) λiv s2 z9=>z9.el λy H2 I2 r2 q2=>?_));refine aG (mO (aG (mL (bq (hs pins s2 σ H2 x y v ov iv u _ I2 r1 r2 r q2) λ_ s3 bW=>?_))));obtain⟨H3,I3,q3⟩:=bW;exact wpAny_release ⟨σ,H3,I3,q3⟩
noncomputable def qQ(te:TE)(g:TG):TS:=λD σ H=>te σ H λx H1=>g x σ H1 D.nx
theorem KZ{tg e:ao}{te:TE}{g:TG}(he:PE X e te)(hg:PG X tg g)(hs:autoParam (swapsWithSole [tg] e pos.line X.env=pure false) L2.aR._auto_1)(hw:autoParam (swappedStores [tg] e X.env=pure aC) L2.aR._auto_1)
 (h1:autoParam ((assignEach [tg] X.env).map (·.2)=[assign tg X.env]) L2.aR._auto_1):PS X (.Assign [tg] e pos) (qQ te g):=by
 intro pins s σ H D I h;refine wpAny_Assign_stores (bq (he pins s σ H _ I h) λv s1 z9=>z9.el λx H1 I1 r1 q1=>?_) hs hw;rw[h1];exact bq (hg pins s1 σ H1 x v _ I1 r1 q1) λ_ s2 q=>q
theorem Qq{i:Nat}{x:Str}{e:ao}{te:TE}{pos':Pos}(hN:X.N.Nodup)(hi:X.N[i]?=aB x)(hx:Loc X.env.scope x)(he:PE X e te)(hs:autoParam (swapsWith e (aB (.Name x pos')) pos.line X.env=pure false) L2.aR._auto_1)(hf:autoParam (X.fn x=true\/X.env.scope.names.lookup x=aB .local) L2.aF._auto_1) :
 PS X (.Assign [.Name x pos'] e pos) (qQ te (iK i)):=by
 intro pins s σ H D I h;refine wpAny_Assign_Name (bq (he pins s σ H _ I h) λv s1 z9=>z9.el λy H1 I1 r1 q1=>?_) hs;exact F6 I1 hN hi hx r1 (λs2 I2=>⟨_,H1,I2,q1⟩) hf
noncomputable def Gn(i:Nat)(te:TE)(ti:DH):TS:=λD σ H=>∃x,σ[i]?=aB (aB x)/\te σ H λy H1=>ti x y H1 λz H2=>D.nx (σ.set i (aB z)) H2
theorem Qs{i:Nat}{x:Str}{e:ao}{te:TE}{op:Operator}{ti:DH}{pos':Pos}(hN:X.N.Nodup)(hi:X.N[i]?=aB x)(hx:Loc X.env.scope x)(he:PE X e te)(ho:xW X op ti)(hf:autoParam (X.fn x=true\/X.env.scope.names.lookup x=aB .local) L2.aF._auto_1) :
 PS X (.AugAssign (.Name x pos') op e pos) (Gn i te ti):=by
 intro pins s σ H D I h;obtain⟨v,e1,h⟩:=h;obtain⟨m,hn,hl⟩:=I.loc;have vis:xR X.env.scope x:=by rcases hx with k|k;exact .inl k;exact .inr (.inl k)
 obtain⟨u,r,l⟩:=hl i x v hi e1 vis;refine wpAny_AugAssign_Name ?_;have go:wpAny (model X.prog X.w) X.A (eval e X.env) (λw s₂=>wpAny (model X.prog X.w) X.A (inplaceOp op u w) (λr s₃=>wpAny (model X.prog X.w) X.A (storeName X.env x r) (λ_=>SP X pins D .next) X.xe s₃) X.xe s₂) X.xe s:=by refine bq (he pins s σ H _ I h) λw s1 z9=>z9.el λy H1 I1 r1 q1=>?_;refine bq (ho pins s1 σ H1 v y u w _ I1 r r1 q1) λz s2 z9=>z9.el λzv H2 I2 r2 q2=>?_;exact F6 I2 hN hi hx r2 (λs3 I3=>⟨_,H2,I3,q2⟩) hf
 rcases l with⟨hk,hm⟩|⟨hk,c,hc,hcell⟩;exact wpAny_loadName_local I.ok.kind hk hn hm go;rcases hk with hk|hk;exact wpAny_loadName_cell I.ok.kind hk hc hcell go;rcases hx with k|k;have:X.env.scope.names.lookup x=aB .free:=hk;rw[k]at this;cases this;have:X.env.scope.names.lookup x=aB .free:=hk;rw[k]at this;cases this
noncomputable def DJ(f:Int->Int->Int):DH:=λx y H Q=>∃i j,x=.int i/\y=.int j/\Q (.int (f i j)) H
theorem Qt:xW X .Add (DJ λi j=>i+j):=by intro pins s σ H x y v u Q I r1 r2 h;obtain⟨i,j,e1,e2,q⟩:=h;subst e1;subst e2;obtain⟨t,rfl⟩:=r1;obtain⟨t',rfl⟩:=r2;exact iadd_int ⟨.int _,H,I.tok _,⟨_,rfl⟩,q⟩
theorem Qu:xW X .Sub (DJ λi j=>i-j):=by intro pins s σ H x y v u Q I r1 r2 h;obtain⟨i,j,e1,e2,q⟩:=h;subst e1;subst e2;obtain⟨t,rfl⟩:=r1;obtain⟨t',rfl⟩:=r2;exact isub_int ⟨.int _,H,I.tok _,⟨_,rfl⟩,q⟩
end
section
variable{X:Cx}{pos:Pos}
noncomputable def Qv(c:TT)(tb:TS):TS:=λD σ H=>∃W:Nat->St->Hp->Prop,(∃m,W m σ H)/\∀m σ H,W m σ H->
 c σ H λb H1=>if b=true then ∃N:St->Hp->Prop,(∀σ' H',N σ' H'->∃m',m'<m/\W m' σ' H')/\tb {D with nx:=N,ct:=N,bk:=D.nx} σ H1 else D.nx σ H1
theorem Qw{c:ao}{body:List aq}{tc:TT}{tb:TS}(hp:PassesOwn (model X.prog X.w) X.A X.env X.xe)(hc:PT X c tc)(hb:kW X body tb):PS X (.While c body [] pos) (Qv tc tb):=by
 intro pins s σ H D I h;obtain⟨W,⟨m0,w0⟩,turn⟩:=h;refine wpAny_While (codeAny_whileLoop (λn s'=>∃σ' H',Inv X pins σ' H' s'/\W n σ' H') ?_ m0 ⟨σ,H,I,w0⟩);rintro n s1 ⟨σ1,H1,I1,w1⟩;refine uR hp (bq (hc pins s1 σ1 H1 _ I1 (turn n σ1 H1 w1)) λb s2 z9=>z9.el λH2 I2 q2=>?_);cases b with
 |true=>
  obtain⟨N,hN,q2⟩:=q2;rw[if_pos rfl];refine uR hp (bq (hb pins s2 σ1 H2 _ I2 q2) λf s3 q3=>?_);cases f with
  |next=>
   obtain⟨σ3,H3,I3,n3⟩:=q3;obtain⟨m',hm,w3⟩:=hN σ3 H3 n3;exact⟨m',hm,σ3,H3,I3,w3⟩
  |cont=>
   obtain⟨σ3,H3,I3,n3⟩:=q3;obtain⟨m',hm,w3⟩:=hN σ3 H3 n3;exact⟨m',hm,σ3,H3,I3,w3⟩
  |brk=>exact q3
  |ret v=>exact q3
 |false=>
  rw[if_neg mQ];exact wpAny_execs_nil ⟨σ1,H2,I2,q2⟩
end
set_option genInjectivity false in
structure It where
 go:Nat->Hp->Prop
 tK:Nat->Hp->V->Hp->Prop
 stop:Nat->Hp->Prop
noncomputable def dX(X:Cx)(pins:List (ah×Obj))(H:Hp)(b:ah):Prop:=
 H b=aC/\b≠X.env.locals/\b∉X.fs/\(b∈X.ex\/X.s₀.heap.objs.size<=b)/\(∀x c,X.env.cells.lookup x=aB c->c≠b)/\∀p∈X.pn++pins,p.1≠b
theorem Inv.jH{X:Cx}{pins:List (ah×Obj)}{σ:St}{H H':Hp}{s:af}{b:ah}(I:Inv X pins σ H s)(hb:s.heap.objs.size<=b)(hn:H' b=aC):dX X pins H' b:=by refine⟨hn,tu (dI I.lt hb),I.F3 hb,.inr (gF I.sz hb),λx c e z=>?_,λp hp z=>?_⟩;obtain⟨v,q⟩:=I.cell x c e;exact absurd (dI q.lt (by rw[z];exact hb)) (gZ _);exact absurd (dI (dB (I.pin p hp).1) (by rw[z];exact hb)) (gZ _)
structure Turn(P:ai)(w:aj)(K:aK)(tg:ao)(J:It)(fp:List ah)(it:ah)(tn:Nat->az->Prop):Prop where
 mem:it∈fp
 obj:∀i h,tn i h->∀b∈fp,∃o,h.get? b=aB o/\∀v,o.data≠.cell v
 keep:∀i h h',tn i h->(∀b∈fp,∀o,h.get? b=aB o->h'.get? b=aB o)->tn i h'
 item:∀(X:Cx),X.prog=P->X.w=w->X.K=K->X.calm=true->∀(i:Nat)(pins:List (ah×Obj))(s:af)(σ:St)(H:Hp)(E:aa->af->Prop),Inv X pins σ H s->(∀b∈fp,dX X pins H b)->tn i s.heap->J.go i H->
  wpAny (model P w) X.A (pyNext (.ref it)) (λr s1=>∃u,r=aB u/\
   wpAny (model P w) X.A (letOwnedTupleGo tg (.ref it) u) (λ_ s2=>∃x H',Inv X pins σ H' s2/\RelV x u/\J.tK i H x H'/\tn (i+1) s2.heap/\∀b∈fp,H' b=aC) E s1) E s
 done:∀(X:Cx),X.prog=P->X.w=w->X.K=K->X.calm=true->∀(i:Nat)(pins:List (ah×Obj))(s:af)(σ:St)(H:Hp)(E:aa->af->Prop),Inv X pins σ H s->(∀b∈fp,dX X pins H b)->tn i s.heap->J.stop i H->
  wpAny (model P w) X.A (pyNext (.ref it)) (λr s1=>r=aC/\Inv X pins σ H s1) E s
 self:∀(A:ak)(i:Nat)(s:af)(Q:aa->af->Prop)(E:aa->af->Prop),tn i s.heap->Q (.ref it) s->wpAny (model P w) A (pyIter (.ref it)) Q E s
noncomputable abbrev TI:=St->Hp->(It->Hp->Prop)->Prop
noncomputable def zx(X:Cx)(pins:List (ah×Obj))(σ:St)(tg:ao)(R:It->Hp->Prop)(itv:aa)(s2:af):Prop:=
 ∃(it:ah) (fp:List ah) (tn:Nat->az->Prop) (J:It) (H':Hp),itv=.ref it/\Inv X pins σ H' s2/\Turn X.prog X.w X.K tg J fp it tn/\tn 0 s2.heap/\(∀b∈fp,dX X pins H' b)/\R J H'
noncomputable def PI(X:Cx)(tg iter:ao)(wi:TI):Prop:=
 ∀(pins:List (ah×Obj))(s:af)(σ:St)(H:Hp)(R:It->Hp->Prop),Inv X pins σ H s->wi σ H R->
  wpAny (model X.prog X.w) X.A (eval iter X.env) (λv s1=>wpAny (model X.prog X.w) X.A (pyIter v) (zx X pins σ tg R) X.xe s1) X.xe s
theorem j8{M:Model}{A:ak}{E:aa->af->Prop}{s:af}{tg:ao}{it:ah}{u:aa}{o:Obj}{n:String}{vs:Array aa}{Q:Unit->af->Prop}(ho:s.heap.get? it=aB o)(hc:o.cls=.type n)(hd:o.data=.fields vs)
 (hn:["enumerate","zip","dict_itemiterator","dict_reverseitemiterator","odict_iterator","itertools.zip_longest","itertools.pairwise"].contains n=false) (hQ:Q () s):wpAny M A (letOwnedTupleGo tg (.ref it) u) Q E s:=by
 unfold letOwnedTupleGo;cases tg<;>first
  |exact aX hQ
  |(cases u<;>first
     |exact aX hQ
     |(refine aG (wpAny_load ho ?_)
       rw[hc,hd];show wpAny M A (if(["enumerate","zip","dict_itemiterator","dict_reverseitemiterator","odict_iterator","itertools.zip_longest","itertools.pairwise"].contains n&&vs[0]? == aB (rawInt _))=true then _ else _) Q E s;rw[if_neg (by intro h;rw[hn,vec]at h;cases h)];exact aX hQ))
noncomputable def DL(K:aK)(a:ah):It:=
 ⟨λi H=>∃xs x,cZ K H a xs/\xs[i]?=aB x,λi H x H'=>H'=H/\∀xs,cZ K H a xs->xs[i]?=aB x,λi H=>∃xs,cZ K H a xs/\xs.length<=i⟩
noncomputable def Gp(K:aK)(a:ah):It:=
 ⟨λi H=>∃xs x,cH K H a xs/\xs[i]?=aB x,λi H x H'=>H'=H/\∀xs,cH K H a xs->xs[i]?=aB x,λi H=>∃xs,cH K H a xs/\xs.length<=i⟩
noncomputable def zy(lo:Int)(n:Nat):It:=⟨λi _=>i<n,λi H x H'=>H'=H/\x=.int (lo+i),λi _=>n<=i⟩
theorem Qx{P:ai}{w:aj}{K:aK}{tg:ao}(a it:ah):Turn P w K tg (DL K a) [it] it (λi h=>h.IsListIter it a i)where
 mem:=by simp
 obj:=λi h st b hb=>by
  have e:b=it:=by simpa using hb
  subst e;obtain⟨o,e,c,d⟩:=st;exact⟨o,e,λv z=>by rw[d]at z;cases z⟩
 keep:=λi h h' st k=>st.at λo e=>k it (by simp) o e
 item:=by intro X hP hw hK hc i pins s σ H E I hf st hg;subst hP hw hK;obtain⟨xs,x,hq,hx⟩:=hg;obtain⟨its,rv,p,hz⟩:=I.list hq;obtain⟨u,hu,ru⟩:=rv.get hx;obtain⟨f0,f1,f2,f3,f4,f5⟩:=hf it (by simp);refine wpAny_pyNext_list_item st p.isList (x:=u) (by simpa using hu) λh' st' sb=>?_;have I1:Inv X pins σ H {s with heap:=h'}:=I.turned (t':=s.toks) (λb o hb e=>(sb.2 b hb).trans e) f0 f1 f3 f4 f5;obtain⟨o,e,c,d⟩:=id st';exact⟨u,rfl,j8 (s:={s with heap:=h'}) e c d (by decide) ⟨x,H,I1,ru,⟨rfl,λys hy=>by rw[I.j6 hy hq];exact hx⟩,st',λb hb=>(hf b hb).1⟩⟩
 done:=by intro X hP hw hK hc i pins s σ H E I hf st hg;subst hP hw hK;obtain⟨xs,hq,hx⟩:=hg;obtain⟨its,rv,p,hz⟩:=I.list hq;obtain⟨f0,f1,f2,f3,f4,f5⟩:=hf it (by simp);have hl:=rv.length;exact wpAny_pyNext_list_end (I.ok.hd hc) st p.isList (by simp;lia) λh' eb=>⟨rfl,I.turned (t':=s.toks) (λb o hb e=>eb b o hb e) f0 f1 f3 f4 f5⟩
 self:=λ_ _ _ _ _ st h=>wpAny_pyIter_listiter st h
theorem Qy{P:ai}{w:aj}{K:aK}{tg:ao}(a it:ah):Turn P w K tg (Gp K a) [it] it (λi h=>h.IsTupleIter it a i)where
 mem:=by simp
 obj:=λi h st b hb=>by
  have e:b=it:=by simpa using hb
  subst e;obtain⟨o,e,c,d⟩:=st;exact⟨o,e,λv z=>by rw[d]at z;cases z⟩
 keep:=λi h h' st k=>st.at λo e=>k it (by simp) o e
 item:=by intro X hP hw hK hc i pins s σ H E I hf st hg;subst hP hw hK;obtain⟨xs,x,hq,hx⟩:=hg;obtain⟨its,rv,p,hz⟩:=I.tuple hq;obtain⟨u,hu,ru⟩:=rv.get hx;obtain⟨f0,f1,f2,f3,f4,f5⟩:=hf it (by simp);refine wpAny_pyNext_tuple_item st (show s.heap.IsTuple a its.toArray from p) (x:=u) (by simpa using hu) λh' st' sb=>?_;have I1:Inv X pins σ H {s with heap:=h'}:=I.turned (t':=s.toks) (λb o hb e=>(sb.2 b hb).trans e) f0 f1 f3 f4 f5;obtain⟨o,e,c,d⟩:=id st';exact⟨u,rfl,j8 (s:={s with heap:=h'}) e c d (by decide) ⟨x,H,I1,ru,⟨rfl,λys hy=>by rw[I.eT hy hq];exact hx⟩,st',λb hb=>(hf b hb).1⟩⟩
 done:=by intro X hP hw hK hc i pins s σ H E I hf st hg;subst hP hw hK;obtain⟨xs,hq,hx⟩:=hg;obtain⟨its,rv,p,hz⟩:=I.tuple hq;obtain⟨f0,f1,f2,f3,f4,f5⟩:=hf it (by simp);have hl:=rv.length;exact wpAny_pyNext_tuple_end (I.ok.hd hc) st (show s.heap.IsTuple a its.toArray from p) (by simp;lia) λh' eb=>⟨rfl,I.turned (t':=s.toks) (λb o hb e=>eb b o hb e) f0 f1 f3 f4 f5⟩
 self:=λ_ _ _ _ _ st h=>wpAny_pyIter_tupleiter st h
theorem Qz{P:ai}{w:aj}{K:aK}{tg:ao}(it:ah)(lo:Int)(n:Nat):Turn P w K tg (zy lo n) [it] it (λi h=>IsRangeIter h it (lo+ (i:Nat)*1) ((n:Int)- (i:Nat)) 1)where
 mem:=by simp
 obj:=λi h st b hb=>by
  have e:b=it:=by simpa using hb
  subst e;exact⟨_,st,λv z=>by
   have z':Data.fields _=Data.cell v:=z;cases z'⟩
 keep:=λi h h' st k=>k it (by simp) _ st
 item:=by intro X hP hw hK hc i pins s σ H E I hf st hg;subst hP hw hK;obtain⟨f0,f1,f2,f3,f4,f5⟩:=hf it (by simp);have W:=Walks.range (prog:=X.prog) (w:=X.w) (I.ok.hd hc) it lo 1 n;refine W.item i s _ _ hg st λv h' tk hv st' kk=>?_;obtain⟨t,rfl⟩:=hv;have I1:Inv X pins σ H {s with heap:=h',toks:=tk}:=I.turned (λb o hb e=>kk b o (by simpa using hb) e) f0 f1 f3 f4 f5;refine⟨_,rfl,j8 (s:={s with heap:=h',toks:=tk}) (n:="range_iterator") st' rfl rfl (by decide) ⟨.int (lo+i),H,I1,⟨t,?_⟩,⟨rfl,rfl⟩,st',λb hb=>(hf b hb).1⟩⟩;rw[Int.mul_one]
 done:=by intro X hP hw hK hc i pins s σ H E I hf st hg;subst hP hw hK;obtain⟨f0,f1,f2,f3,f4,f5⟩:=hf it (by simp);exact wpAny_pyNext_range_end (I.ok.hd hc) st (by have:n<=i:=hg;lia) λh' eb=>⟨rfl,I.turned (t':=s.toks) (λb o hb e=>eb b o hb e) f0 f1 f3 f4 f5⟩
 self:=λ_ _ _ _ _ st h=>wpAny_pyIter_rangeiter st h
section
variable{X:Cx}{tg:ao}
noncomputable def zz(K:aK)(tl:TE):TI:=λσ H R=>tl σ H λx H1=>∃a,x=.ref a/\(∃xs,cZ K H1 a xs)/\R (DL K a) H1
noncomputable def Gq(K:aK)(tl:TE):TI:=λσ H R=>tl σ H λx H1=>∃a,x=.ref a/\(∃xs,cH K H1 a xs)/\R (Gp K a) H1
theorem K0{l:ao}{tl:TE}(hl:PE X l tl):PI X tg l (zz X.K tl):=by
 intro pins s σ H R I h;refine bq (hl pins s σ H _ I h) λv s1 z9=>z9.el λx H1 I1 r1 q1=>?_;obtain⟨a,e,⟨xs,hq⟩,q⟩:=q1;subst e;cases r1;obtain⟨its,rv,p,hz⟩:=I1.list hq;refine xy p.isList ?_;refine⟨s1.heap.objs.size,[s1.heap.objs.size],_,_,H1,rfl,I1.kept (t':=s1.toks) λb o e=>cQ _ e,Qx a _,⟨_,fX _ rfl,rfl,rfl⟩,λb hb=>?_,q⟩;have e:b=s1.heap.objs.size:=by simpa using hb
 subst e;exact I1.jH (bg _) (I1.hok.fresh (bg _))
theorem QA{l:ao}{tl:TE}(hl:PE X l tl):PI X tg l (Gq X.K tl):=by
 intro pins s σ H R I h;refine bq (hl pins s σ H _ I h) λv s1 z9=>z9.el λx H1 I1 r1 q1=>?_;obtain⟨a,e,⟨xs,hq⟩,q⟩:=q1;subst e;cases r1;obtain⟨its,rv,p,hz⟩:=I1.tuple hq;refine uP (show s1.heap.IsTuple a its.toArray from p) ?_;refine⟨s1.heap.objs.size,[s1.heap.objs.size],_,_,H1,rfl,I1.kept (t':=s1.toks) λb o e=>cQ _ e,Qy a _,⟨_,fX _ rfl,rfl,rfl⟩,λb hb=>?_,q⟩;have e:b=s1.heap.objs.size:=by simpa using hb
 subst e;exact I1.jH (bg _) (I1.hok.fresh (bg _))
theorem K1{pins:List (ah×Obj)}{σ:St}{H:Hp}{s:af}{R:It->Hp->Prop}{E:aa->af->Prop}{lo hi:Int}{t u v:Tok}{tk:Nat}(I:Inv X pins σ H s)(h1:-(2 ^ 62)<=lo)(h2:lo<2 ^ 62)(h3:-(2 ^ 62)<=hi)(h4:hi<2 ^ 62)
 (q:R (zy lo (hi-lo).toNat) H):wpAny (model X.prog X.w) X.A (pyIter (.ref s.heap.objs.size)) (zx X pins σ tg R) E {s with heap:=s.heap.push {cls:=.type "range",data:=.fields #[.int lo t,.int hi u,.int 1 v]},toks:=tk}:=by
 refine wpAny_pyIter_range (IsRange.new ..) (small_one h1 h2 h3 h4) ?_;have I1:Inv X pins σ H {s with heap:=s.heap.push {cls:=.type "range",data:=.fields #[.int lo t,.int hi u,.int 1 v]},toks:=tk}:=I.kept λb o e=>cQ _ e;refine⟨(s.heap.push {cls:=.type "range",data:=.fields #[.int lo t,.int hi u,.int 1 v]}).objs.size,[(s.heap.push {cls:=.type "range",data:=.fields #[.int lo t,.int hi u,.int 1 v]}).objs.size],_,_,H,rfl,
  I1.kept (t':=tk) λb o e=>cQ _ e,Qz _ lo (hi-lo).toNat,?_,λb hb=>?_,q⟩
 have e1:lo+ ((0:Nat):Int)*1=lo:=by simp
 have e2:(((hi-lo).toNat:Nat):Int)- ((0:Nat):Int)=Builtin.Range.rangeSize lo hi 1:=by rw[rangeSize_one];split<;>lia
 show IsRangeIter _ _ (lo+ ((0:Nat):Int)*1) ((((hi-lo).toNat:Nat):Int)- ((0:Nat):Int)) 1;rw[e1,e2];exact fX _ rfl;have e:b=(s.heap.push {cls:=.type "range",data:=.fields #[.int lo t,.int hi u,.int 1 v]}).objs.size:=by simpa using hb
 subst e;exact I1.jH (bg _) (I1.hok.fresh (bg _))
noncomputable def zA(ta:TA):TI:=λσ H R=>ta σ H λvs H1=>∃j:Int,vs=[.int j]/\-(2 ^ 62)<=j/\j<2 ^ 62/\R (zy 0 j.toNat) H1
noncomputable def zB(ta:TA):TI:=λσ H R=>ta σ H λvs H1=>∃i j:Int,vs=[.int i,.int j]/\(-(2 ^ 62)<=i/\i<2 ^ 62/\-(2 ^ 62)<=j/\j<2 ^ 62)/\R (zy i (j-i).toNat) H1
theorem QB{a:ao}{ta:TA}{p pos:Pos}(hg:Gl X "range")(hm:X.mg "range" = aC)(ha:PA X [a] ta)(hs:autoParam (starEach [a] X.env=[(false,eval a X.env)]) L2.aR._auto_1):PI X tg (.Call (.Name "range" p) [a] [] pos) (zA ta):=by
 intro pins s σ H R I h;refine Call_ (tG I hg hm boot_range (xM (bq (ha pos pins s σ H _ I h) λus s1 z9=>z9.el λvs H1 I1 r1 q1=>?_) hs rfl));obtain⟨j,e,q1,q2,q⟩:=q1;subst e;cases r1 with
 |cons r rr=>
  cases rr;obtain⟨t,rfl⟩:=r;exact call_range_1 (K1 I1 (by lia) (by lia) q1 q2 (by simpa using q))
theorem QC{a b:ao}{ta:TA}{p pos:Pos}(hg:Gl X "range")(hm:X.mg "range" = aC)(ha:PA X [a,b] ta)(hs:autoParam (starEach [a,b] X.env=[(false,eval a X.env),(false,eval b X.env)]) L2.aR._auto_1)(hs2:autoParam (starEach [b] X.env=[(false,eval b X.env)]) L2.aR._auto_1) :
 PI X tg (.Call (.Name "range" p) [a,b] [] pos) (zB ta):=by
 intro pins s σ H R I h;refine Call_ (tG I hg hm boot_range (xM (bq (ha pos pins s σ H _ I h) λus s1 z9=>z9.el λvs H1 I1 r1 q1=>?_) (by rw[hs,hs2]) (by rw[hs2];rfl)));obtain⟨i,j,e,⟨q1,q2,q3,q4⟩,q⟩:=q1;subst e;cases r1 with
 |cons r rr=>
  cases rr with
  |cons r' rr=>
   cases rr;obtain⟨t,rfl⟩:=r;obtain⟨t',rfl⟩:=r';exact call_range_2 (K1 I1 q1 q2 q3 q4 q)
noncomputable def zC(wi:TI)(g:TG)(tb:TS):TS:=λD σ H=>wi σ H λJ H1=>∃W:Nat->Nat->St->Hp->Prop,(∃m,W 0 m σ H1)/\∀i m σ H,W i m σ H->
 (J.stop i H/\D.nx σ H)\/(J.go i H/\∃N:St->Hp->Prop,(∀σ' H',N σ' H'->∃m',m'<m/\W (i+1) m' σ' H')/\∀x H',J.tK i H x H'->g x σ H' λσ2 H2=>tb {D with nx:=N,ct:=N,bk:=D.nx} σ2 H2)
noncomputable def vj(fp:List ah)(h:az):List (ah×Obj):=fp.filterMap λb=>(h.get? b).map λo=>(b,o)
theorem tL{fp:List ah}{h:az}{b:ah}{o:Obj}(hb:b∈fp)(e:h.get? b=aB o):(b,o)∈vj fp h:=List.mem_filterMap.mpr ⟨b,hb,by rw[e];rfl⟩
theorem QD{fp:List ah}{h:az}{p:ah×Obj}(hp:p∈vj fp h):p.1∈fp/\h.get? p.1=aB p.2:=by
 obtain⟨b,hb,e⟩:=List.mem_filterMap.mp hp;cases q:h.get? b with
 |none=>rw[q]at e;cases e
 |some o=>
  rw[q]at e;have e':(b,o)=p:=lT e;subst e';exact⟨hb,q⟩
theorem Inv.pinned{pins:List (ah×Obj)}{σ:St}{H:Hp}{s:af}{fp:List ah}(I:Inv X pins σ H s)(hf:∀b∈fp,dX X pins H b)(ho:∀b∈fp,∃o,s.heap.get? b=aB o/\∀v,o.data≠.cell v):Inv X (pins++vj fp s.heap) σ H s:=
 I.lV λp hp=>(uW.mp hp).elim (λz=>I.pin p (jo _ z)) λz=>by
  obtain⟨hb,e⟩:=QD z;obtain⟨f0,f1,f2,_⟩:=hf p.1 hb;obtain⟨o,e',d⟩:=ho p.1 hb;rw[e]at e';cases e';exact⟨e,f0,f1,f2,d⟩
theorem Inv.dR{pins pl:List (ah×Obj)}{σ:St}{H:Hp}{s:af}(I:Inv X (pins++pl) σ H s):Inv X pins σ H s:=I.lV λp hp=>I.pin p (jo _ (C7 _ hp))
theorem QE{iter:ao}{body:List aq}{wi:TI}{g:TG}{tb:TS}{pos:Pos}(hp:PassesOwn (model X.prog X.w) X.A X.env X.xe)(hc:X.calm)(hi:PI X tg iter wi)(hg:PG X tg g)(hb:kW X body tb)
 (hs:∀x,foldedSetIterable iter X.env x=pure x:=by intro _;rfl):PS X (.For tg iter body [] pos) (zC wi g tb):=by
 intro pins s σ H D I h;refine wpAny_For (bq (hi pins s σ H _ I h) λv s1 h1=>bq h1 λitv s2 h2=>?_) hs;obtain⟨it,fp,tn,J,H2,e,I2,T,st2,f2,W,⟨m0,w0⟩,turn⟩:=h2;subst e;have lq:∀{H':Hp},(∀b∈fp,H' b=aC)->∀b∈fp,dX X pins H' b:=λhn b hb=>⟨hn b hb,(f2 b hb).2⟩
 refine codeAny_forLoop_any (λn s'=>∃i σ' H',Inv X pins σ' H' s'/\tn i s'.heap/\(∀b∈fp,H' b=aC)/\W i n σ' H') ?_ m0 ⟨0,σ,H2,I2,st2,λb hb=>(f2 b hb).1,w0⟩;rintro n s3 ⟨i,σ3,H3,I3,st3,zD,w3⟩;rcases turn i n σ3 H3 w3 with⟨stop,qn⟩|⟨go,N,hN,step⟩
 .refine uR hp (bq (T.done X rfl rfl rfl hc i pins s3 σ3 H3 X.xe I3 (lq zD) st3 stop) λr s4 bW=>?_)
  obtain⟨hr,I4⟩:=bW;subst hr;exact wpAny_execs_nil ⟨σ3,H3,I4,qn⟩
 .refine uR hp (bq (T.item X rfl rfl rfl hc i pins s3 σ3 H3 X.xe I3 (lq zD) st3 go) λr s4 bW=>?_)
  obtain⟨u,hr,h4⟩:=bW;subst hr;refine uR hp (bq h4 λ_ s5 bW=>?_);obtain⟨x,H5,I5,r5,y5,mT,qR⟩:=bW;have Gs:=I5.pinned (lq qR) (T.obj _ _ mT);refine uR hp (bq (hg _ s5 σ3 H5 x u _ Gs r5 (step x H5 y5)) λ_ s6 bW=>?_);obtain⟨jT,H6,I6,q6⟩:=bW;refine uR hp (bq (hb _ s6 jT H6 _ I6 q6) λf s7 q7=>?_);have again:∀{kX:St}{H7:Hp},Inv X (pins++vj fp s5.heap) kX H7 s7->N kX H7->∃m,m<n/\∃i σ' H',Inv X pins σ' H' s7/\tn i s7.heap/\(∀b∈fp,H' b=aC)/\W i m σ' H':=λ{kX H7} I7 n7=>by
   obtain⟨m',hm,w7⟩:=hN kX H7 n7;refine⟨m',hm,i+1,kX,H7,I7.dR,T.keep _ _ _ mT λb hb o e=>(I7.pin (b,o) (jo _ (jo _ (tL hb e)))).1,λb hb=>?_,w7⟩;obtain⟨o,e,d⟩:=T.obj _ _ mT b hb;exact(I7.pin (b,o) (jo _ (jo _ (tL hb e)))).2.1
  cases f with|next=>obtain⟨kX,H7,I7,n7⟩:=q7;exact again I7 n7|cont=>obtain⟨kX,H7,I7,n7⟩:=q7;exact again I7 n7|brk=>obtain⟨kX,H7,I7,q7⟩:=q7;exact⟨kX,H7,I7.dR,q7⟩|ret v=>obtain⟨x7,kX,H7,I7,r7,q7⟩:=q7;exact⟨x7,kX,H7,I7.dR,r7,q7⟩
end
noncomputable abbrev R2:=V->V->Hp->VK->Prop
noncomputable def dD(X:Cx)(f:aa->aa->Sem aa)(r:R2):Prop:=
 ∀(pins:List (ah×Obj))(s:af)(σ:St)(H:Hp)(x y:V)(v u:aa)(Q:VK),Inv X pins σ H s->RelV x v->RelV y u->r x y H Q->
  wpAny (model X.prog X.w) X.A (f v u) (EP X pins σ Q) X.xe s
noncomputable def Gu(X:Cx)(f:aa->Sem aa)(r:V->Hp->VK->Prop):Prop:=
 ∀(pins:List (ah×Obj))(s:af)(σ:St)(H:Hp)(x:V)(v:aa)(Q:VK),Inv X pins σ H s->RelV x v->r x H Q->
  wpAny (model X.prog X.w) X.A (f v) (EP X pins σ Q) X.xe s
noncomputable def cu(X:Cx)(f:aa)(r:List V->Hp->VK->Prop):Prop:=
 ∀(pins:List (ah×Obj))(s:af)(σ:St)(H:Hp)(xs:List V)(us:List aa)(Q:VK),Inv X pins σ H s->Vals xs us->r xs H Q->
  wpAny (model X.prog X.w) X.A (call f us) (EP X pins σ Q) X.xe s
noncomputable def Gv(X:Cx)(r:V->Hp->(Bool->Hp->Prop)->Prop):Prop:=
 ∀(pins:List (ah×Obj))(s:af)(σ:St)(H:Hp)(x:V)(v:aa)(Q:Bool->Hp->Prop),Inv X pins σ H s->RelV x v->r x H Q->
  wpAny (model X.prog X.w) X.A (truthy v) (TP X pins σ Q) X.xe s
noncomputable def DM(r:R2)(ta tb:TE):TE:=λσ H Q=>ta σ H λx H1=>tb σ H1 λy H2=>r x y H2 Q
noncomputable def QF(r:V->Hp->VK->Prop)(ta:TE):TE:=λσ H Q=>ta σ H λx H1=>r x H1 Q
noncomputable def rI(C:Int->Int->Prop)(g:Int->Int->V):R2:=λx y H Q=>∃i j,x=.int i/\y=.int j/\C i j/\Q (g i j) H
noncomputable def mU(g:Int->Int->V):R2:=λx y H Q=>∃i j,x=.int i/\y=.int j/\Q (g i j) H
noncomputable def rU(g:Int->V):V->Hp->VK->Prop:=λx H Q=>∃i,x=.int i/\Q (g i) H
section
variable{X:Cx}{a b c:ao}{ta tb tc:TE}{pos:Pos}
theorem vm(ha:PE X a ta)(hb:PE X b tb){pins:List (ah×Obj)}{s:af}{σ:St}{H:Hp}{R:V->V->Hp->Prop}(I:Inv X pins σ H s)
 (h:ta σ H λx H1=>tb σ H1 λy H2=>R x y H2) {Q:aa->af->Prop} {f:aa->aa->Sem aa}
 (hf:∀v u s2 x y H2,Inv X pins σ H2 s2->RelV x v->RelV y u->R x y H2->wpAny (model X.prog X.w) X.A (f v u) Q X.xe s2) :
 wpAny (model X.prog X.w) X.A (eval a X.env) (λv s₁=>wpAny (model X.prog X.w) X.A (eval b X.env) (λu s₂=>wpAny (model X.prog X.w) X.A (f v u) Q X.xe s₂) X.xe s₁) X.xe s:=by
 refine bq (ha pins s σ H _ I h) λv s1 z9=>z9.el λx H1 I1 r1 q1=>?_;refine bq (hb pins s1 σ H1 _ I1 q1) λu s2 z9=>z9.el λy H2 I2 r2 q2=>?_;exact hf v u s2 x y H2 I2 r1 r2 q2
theorem zE{op:Operator}{r:R2}(ho:dD X (binaryOp op) r)(ha:PE X a ta)(hb:PE X b tb):PE X (.BinOp a op b pos) (DM r ta tb):=by intro pins s σ H Q I h;exact wpAny_BinOp (vm ha hb I h λv u s2 x y H2 I2 rx ry q=>ho pins s2 σ H2 x y v u Q I2 rx ry q)
theorem zF{op:UnaryOp}{r:V->Hp->VK->Prop}(ho:Gu X (unaryOp op) r)(ha:PE X a ta):PE X (.UnaryOp op a pos) (QF r ta):=by intro pins s σ H Q I h;exact UnaryOp_ (bq (ha pins s σ H _ I h) λv s1 z9=>z9.el λx H1 I1 r1 q1=>ho pins s1 σ H1 x v Q I1 r1 q1)
theorem gH{f:aa->aa->Sem aa}{C:Int->Int->Prop}{g:Int->Int->Int}
 (rule:∀(i j:Int)(t u:Tok)(s:af)(Q:aa->af->Prop)(E:aa->af->Prop),C i j->Q (.int (g i j) s.toks) {s with toks:=s.toks+1}->wpAny (model X.prog X.w) X.A (f (.int i t) (.int j u)) Q E s) :
 dD X f (rI C λi j=>.int (g i j)):=by
 intro pins s σ H x y v u Q I rx ry h;obtain⟨i,j,rfl,rfl,hc,q⟩:=h;obtain⟨t,rfl⟩:=rx;obtain⟨t',rfl⟩:=ry;exact rule i j t t' s _ _ hc ⟨.int (g i j),H,I.tok _,⟨_,rfl⟩,q⟩
theorem zG{f:aa->aa->Sem aa}{g:Int->Int->Int}
 (rule:∀(i j:Int)(t u:Tok)(s:af)(Q:aa->af->Prop)(E:aa->af->Prop),Q (.int (g i j) s.toks) {s with toks:=s.toks+1}->wpAny (model X.prog X.w) X.A (f (.int i t) (.int j u)) Q E s) :
 dD X f (mU λi j=>.int (g i j)):=by
 intro pins s σ H x y v u Q I rx ry h;obtain⟨i,j,rfl,rfl,q⟩:=h;obtain⟨t,rfl⟩:=rx;obtain⟨t',rfl⟩:=ry;exact rule i j t t' s _ _ ⟨.int (g i j),H,I.tok _,⟨_,rfl⟩,q⟩
theorem qS{f:aa->aa->Sem aa}{g:Int->Int->Bool}
 (rule:∀(i j:Int)(t u:Tok)(s:af)(Q:aa->af->Prop)(E:aa->af->Prop),Q (.bool (g i j)) s->wpAny (model X.prog X.w) X.A (f (.int i t) (.int j u)) Q E s) :
 dD X f (mU λi j=>.bl (g i j)):=by
 intro pins s σ H x y v u Q I rx ry h;obtain⟨i,j,rfl,rfl,q⟩:=h;obtain⟨t,rfl⟩:=rx;obtain⟨t',rfl⟩:=ry;exact rule i j t t' s _ _ ⟨.bl (g i j),H,I,rfl,q⟩
noncomputable def qV(i j:Int):Prop:=0<j/\j<1073741824
noncomputable def vn(i j:Int):Prop:=0<=j/\j<=1000000/\i.natAbs<2 ^ 64
noncomputable def mV(i j:Int):Prop:=(-(2 ^ 64)<i/\i<2 ^ 64)\/(-(2 ^ 64)<j/\j<2 ^ 64)
theorem mV.ok{i j:Int}(h:mV i j):IntMulOk i j:=by rcases h with⟨h1,h2⟩|⟨h1,h2⟩;exact .of_left (intBits_le_64 h1 h2);exact .of_right (intBits_le_64 h1 h2)
theorem QG:dD X (binaryOp .Add) (mU λi j=>.int (i+j)):=zG λ_ _ _ _ _ _ _ q=>add_int q
theorem QH:dD X (binaryOp .Sub) (mU λi j=>.int (i-j)):=zG λ_ _ _ _ _ _ _ q=>sub_int q
theorem QI:dD X (binaryOp .Mult) (rI mV λi j=>.int (i*j)):=gH λ_ _ _ _ _ _ _ hc q=>mul_int q hc.ok
theorem QJ:dD X (binaryOp .FloorDiv) (rI qV λi j=>.int (i/j)):=gH λi j _ _ _ _ _ hc q=>by
 have h1:(0:Int)<j:=hc.1;have h2:j<1073741824:=hc.2;exact floordiv_int (by lia) (by rw[Int.fdiv_eq_ediv_of_nonneg i (by lia)];exact q) (.inl (PyProof.noPylong_small (by lia)))
theorem QK:dD X (binaryOp .Mod) (rI (λ_ j=>0<j) λi j=>.int (i % j)):=gH λi j _ _ _ _ _ hc q=>by
 have h1:(0:Int)<j:=hc;exact mod_int' (by lia) (by rw[Int.fmod_eq_emod_of_nonneg i (by lia)];exact q)
theorem QL:dD X (binaryOp .Pow) (rI vn λi j=>.int (i ^ j.toNat)):=gH λ_ _ _ _ _ _ _ hc q=>pow_int_small hc.1 hc.2.1 hc.2.2 q
theorem QM:dD X (inplaceOp .Mult) (rI mV λi j=>.int (i*j)):=gH λ_ _ _ _ _ _ _ hc q=>imul_int q hc.ok
theorem QN:dD X (inplaceOp .FloorDiv) (rI qV λi j=>.int (i/j)):=gH λi j _ _ _ _ _ hc q=>by
 have h1:(0:Int)<j:=hc.1;have h2:j<1073741824:=hc.2;exact ifloordiv_int (by lia) (by rw[Int.fdiv_eq_ediv_of_nonneg i (by lia)];exact q) (.inl (PyProof.noPylong_small (by lia)))
theorem QO{f:aa->Sem aa}{g:Int->Int}
 (rule:∀(i:Int)(t:Tok)(s:af)(Q:aa->af->Prop)(E:aa->af->Prop),Q (.int (g i) s.toks) {s with toks:=s.toks+1}->wpAny (model X.prog X.w) X.A (f (.int i t)) Q E s) :
 Gu X f (rU λi=>.int (g i)):=by
 intro pins s σ H x v Q I rx h;obtain⟨i,rfl,q⟩:=h;obtain⟨t,rfl⟩:=rx;exact rule i t s _ _ ⟨.int (g i),H,I.tok _,⟨_,rfl⟩,q⟩
theorem QS:Gu X (unaryOp .USub) (rU λi=>.int (-i)):=QO λ_ _ _ _ _ q=>neg_int q
end
section
variable{X:Cx}{a b c:ao}{ta tb tc:TE}{pos:Pos}
theorem DN{pins:List (ah×Obj)}{σ:St}{H:Hp}{s:af}{Q:VK}{k k':Bool}(I:Inv X pins σ H s)(q:Q (.bl k) H)(e:k=k'):EP X pins σ Q (.bool k') s:=by subst e;exact⟨.bl k,H,I,rfl,q⟩
theorem zH:dD X (compareOp .Lt) (mU λi j=>.bl (decide (i<j))):=qS λ_ _ _ _ _ _ _ q=>lt_int q
theorem zI:dD X (compareOp .LtE) (mU λi j=>.bl (decide (i<=j))):=qS λ_ _ _ _ _ _ _ q=>le_int q
theorem zJ:dD X (compareOp .Gt) (mU λi j=>.bl (decide (j<i))):=qS λ_ _ _ _ _ _ _ q=>gt_int q
theorem zK:dD X (compareOp .GtE) (mU λi j=>.bl (decide (j<=i))):=qS λ_ _ _ _ _ _ _ q=>ge_int q
theorem QT:dD X (compareOp .Is) (λx y H Q=>y=.aQ/\Q (.bl (decide (x=.aQ))) H):=by
 intro pins s σ H x y v u Q I rx ry h;obtain⟨rfl,q⟩:=h;cases ry;refine is_none_gen (DN I q ?_);cases x<;>first
  |(cases rx;rfl)
  |(obtain⟨t,rfl⟩:=rx;rfl)
theorem zs2:dD X (compareOp .IsNot) (λx y H Q=>y=.aQ/\Q (.bl (!decide (x=.aQ))) H):=by
 intro pins s σ H x y v u Q I rx ry h;obtain⟨rfl,q⟩:=h;cases ry;refine isnot_none_gen (DN I q ?_);cases x<;>first
  |(cases rx;rfl)
  |(obtain⟨t,rfl⟩:=rx;rfl)
theorem dD.or{f:aa->aa->Sem aa}{r r':R2}(h:dD X f r)(h':dD X f r'):dD X f (λx y H Q=>r x y H Q\/r' x y H Q):=by
 intro pins s σ H x y v u Q I rx ry q;rcases q with q|q
 exact h pins s σ H x y v u Q I rx ry q;exact h' pins s σ H x y v u Q I rx ry q
theorem QU{op:CmpOp}{r:R2}(ho:dD X (compareOp op) r)(ha:PE X a ta)(hb:PE X b tb)(hm:behindInMarks op b=false):PE X (.Compare a [op] [b] pos) (DM r ta tb):=by intro pins s σ H Q I h;exact wpAny_Compare1 (vm ha hb I h λv u s2 x y H2 I2 rx ry q=>ho pins s2 σ H2 x y v u Q I2 rx ry q) hm
noncomputable def tM(t:TE):TT:=λσ H Q=>t σ H λx H'=>∃k,x=.bl k/\Q k H'
theorem QV{op:CmpOp}{r:R2}(ho:dD X (compareOp op) r)(ha:PE X a ta)(hb:PE X b tb)(hm:behindInMarks op b=false):PT X (.Compare a [op] [b] pos) (tM (DM r ta tb)):=by
 intro pins s σ H Q I h;refine wpAny_isTrue_Compare1 (bq (ha pins s σ H _ I h) λv s1 z9=>z9.el λx H1 I1 r1 q1=>bq (hb pins s1 σ H1 _ I1 q1) λu s2 z9=>z9.el λy H2 I2 r2 q2=>
  bq (ho pins s2 σ H2 x y v u _ I2 r1 r2 q2) λc s3 z9=>z9.el λz H3 I3 r3 ⟨k,e,q3⟩=>?_) hm
 subst e;cases r3;exact pQ ⟨H3,I3,q3⟩
noncomputable def Gw(r r':R2)(ta tb tc:TE):TE:=λσ H Q=>ta σ H λx H1=>tb σ H1 λy H2=>r x y H2 λz H3=>∃k,z=.bl k/\
 (if k=true then tc σ H3 λw' H4=>r' y w' H4 Q else Q (.bl false) H3)
theorem QW{op op':CmpOp}{r r':R2}(ho:dD X (compareOp op) r)(ho':dD X (compareOp op') r')(ha:PE X a ta)(hb:PE X b tb)(hc:PE X c tc)
 (hm:lastMarks [op,op'] [b,c]=false:=by with_unfolding_all rfl):PE X (.Compare a [op,op'] [b,c] pos) (Gw r r' ta tb tc):=by
 intro pins s σ H Q I h;refine Compare_chain (bq (ha pins s σ H _ I h) λv s1 z9=>z9.el λx H1 I1 r1 q1=>chain_link (bq (hb pins s1 σ H1 _ I1 q1) λu s2 z9=>z9.el λy H2 I2 r2 q2=>
  bq (ho pins s2 σ H2 x y v u _ I2 r1 r2 q2) λd s3 z9=>z9.el λz H3 I3 r3 ⟨k,e,q3⟩=>?_)) hm
 subst e;cases r3;refine pQ ?_;cases k with|false=>exact ite_ff ⟨.bl false,H3,I3,rfl,q3⟩|true=>exact ite_tt (chain_last (bq (hc pins s3 σ H3 _ I3 q3) λw' s4 z9=>z9.el λz' H4 I4 r4 q4=>ho' pins s4 σ H4 y z' u w' Q I4 r2 r4 q4))
theorem QX{op op':CmpOp}{r r':R2}(ho:dD X (compareOp op) r)(ho':dD X (compareOp op') r')(ha:PE X a ta)(hb:PE X b tb)(hc:PE X c tc)
 (hm:lastMarks [op,op'] [b,c]=false:=by with_unfolding_all rfl):PT X (.Compare a [op,op'] [b,c] pos) (tM (Gw r r' ta tb tc)):=by
 intro pins s σ H Q I h;refine isTrue_chain (bq (ha pins s σ H _ I h) λv s1 z9=>z9.el λx H1 I1 r1 q1=>test_link (bq (hb pins s1 σ H1 _ I1 q1) λu s2 z9=>z9.el λy H2 I2 r2 q2=>
  bq (ho pins s2 σ H2 x y v u _ I2 r1 r2 q2) λd s3 z9=>z9.el λz H3 I3 r3 ⟨k,e,q3⟩=>?_)) hm
 subst e;cases r3;refine pQ ?_;cases k with
 |false=>
  obtain⟨k',e',q'⟩:=q3;cases e';exact ite_ff ⟨H3,I3,q'⟩
 |true=>
  refine ite_tt (test_last (bq (hc pins s3 σ H3 _ I3 q3) λw' s4 z9=>z9.el λz' H4 I4 r4 q4=>bq (ho' pins s4 σ H4 y z' u w' _ I4 r2 r4 q4) λd' s5 z9=>z9.el λz2 H5 I5 r5 bW=>?_));obtain⟨k2,e2,q5⟩:=bW;subst e2;cases r5;exact pQ ⟨H5,I5,q5⟩
noncomputable def vp(K:aK)(x:V)(H:Hp)(k:Bool):Prop:=
 match x with|.aQ=>k=false|.bl b=>k=b|.int i=>k=(i != 0)|.str y=>y.length<=sizeLine/\k=((y.length:Int) != 0)|.za y=>y.size<=sizeLine/\k=((y.size:Int) != 0)|.ref p=>(∃xs,cZ K H p xs/\k=!xs.isEmpty)\/(∃xs,cH K H p xs/\k=!xs.isEmpty)\/∃kvs,H p=aB (.dK kvs)/\k=!kvs.isEmpty|_=>False
theorem QY{κ:Type}{kvs:List (κ×V)}{vs:List (κ×aa)}(r:KV kvs vs):(!vs.isEmpty)=!kvs.isEmpty:=by cases r<;>rfl
theorem K4{xs:List V}{its:List aa}(r:Vals xs its):(!its.toArray.isEmpty)=!xs.isEmpty:=by cases r<;>simp
theorem zL:(sizeLine:Nat)<2 ^ 63:=by rw[qy];decide
theorem QZ:Gv X (λx H Q=>∃k,vp X.K x H k/\Q k H):=by
 intro pins s σ H x v Q I rx h;obtain⟨k,e,q⟩:=h;have hl:=zL;have hs:sizeLine=16777216:=qy;cases x with
 |aQ=>
  cases rx;have e':k=false:=e;subst e';exact truthy_none ⟨H,I,q⟩
 |bl b=>
  cases rx;have e':k=b:=e;subst e';exact pQ ⟨H,I,q⟩
 |int i=>
  obtain⟨t,rfl⟩:=rx;have e':k=(i != 0):=e;subst e';exact PySem.P.truthy_int ⟨H,I,q⟩
 |str y=>
  obtain⟨t,rfl⟩:=rx;obtain⟨hy,e'⟩:y.length<=sizeLine/\k=((y.length:Int) != 0):=e;subst e';exact PySem.P.truthy_str (by lia) ⟨H,I.tok _,q⟩
 |za y=>
  obtain⟨t,rfl⟩:=rx;obtain⟨hy,e'⟩:y.size<=sizeLine/\k=((y.size:Int) != 0):=e;subst e';exact PySem.W.truthy_bytes (by lia) ⟨H,I.tok _,q⟩
 |ref p=>
  cases rx;have e':(∃xs,cZ X.K H p xs/\k=!xs.isEmpty)\/(∃xs,cH X.K H p xs/\k=!xs.isEmpty)\/∃kvs,H p=aB (.dK kvs)/\k=!kvs.isEmpty:=e;rcases e' with⟨xs,hx,e'⟩|⟨xs,hx,e'⟩|⟨kvs,hx,e'⟩
  subst e';obtain⟨its,r,pl,hz⟩:=I.list hx;have hlen:=r.length;exact wpAny_truthy_list pl.isList (by simp only[dQ];lia) ⟨H,I.tok _,by rw[K4 r];exact q⟩;subst e';obtain⟨its,r,pl,hz⟩:=I.tuple hx;have hlen:=r.length;exact truthy_tuple pl (by simp only[dQ];lia) ⟨H,I.tok _,by rw[K4 r];exact q⟩;subst e';obtain⟨hz,hS,vs,r,m⟩:kvs.length<=sizeLine/\(p==sysModules)=false/\∃vs,KV kvs vs/\s.heap.DictOf (iH X.prog X.w) p vs:=I.hok p _ hx;have hlen:kvs.length=vs.length:=qM r;exact wpAny_truthy_dict hS m (by lia) ⟨H,I.tok _,by rw[QY r];exact q⟩
 |_=>exact(show False from e).elim
theorem Q0(ha:PE X a ta)(he:∀whole,isTrue a X.env whole=(do let v <-whole;standAt a.pos;holding [v] (truthy v))) :
 PT X a (λσ H Q=>ta σ H λx H'=>∃k,vp X.K x H' k/\Q k H'):=by
 intro pins s σ H Q I h;exact isTrue_plain (bq (ha pins s σ H _ I h) λv s1 z9=>z9.el λx H1 I1 r1 q1=>QZ pins s1 σ H1 x v Q I1 r1 q1) (he _)
theorem vals1{x:V}{us:List aa}(r:Vals [x] us):∃u,us=[u]/\RelV x u:=by
 cases r with|cons r1 r2=>cases r2;exact⟨_,rfl,r1⟩
theorem vals2{x y:V}{us:List aa}(r:Vals [x,y] us):∃u w',us=[u,w']/\RelV x u/\RelV y w':=by
 cases r with
 |cons r1 r2=>
  cases r2 with|cons r3 r4=>cases r4;exact⟨_,_,rfl,r1,r3⟩
theorem Q2:cu X (.builtin "abs") (λxs H Q=>∃i,xs=[.int i]/\Q (.int (if i<0 then -i else i)) H):=by intro pins s σ H xs us Q I r h;obtain⟨i,rfl,q⟩:=h;obtain⟨u,rfl,t,rfl⟩:=vals1 r;exact call_abs_int λu tk=>⟨.int (if i<0 then -i else i),H,I.tok _,⟨_,rfl⟩,q⟩
theorem Q3(hc:X.calm):cu X (.builtin "max") (λxs H Q=>∃i j,xs=[.int i,.int j]/\Q (.int (if j>i then j else i)) H):=by
 intro pins s σ H xs us Q I r h;obtain⟨i,j,rfl,q⟩:=h;obtain⟨u,w',rfl,⟨t,rfl⟩,⟨t',rfl⟩⟩:=vals2 r;refine max_two_ints (I.ok.hd hc) λh' tk k=>⟨_,H,I.kept k,?_,q⟩
 by_cases hj:j>i;rw[if_pos hj,if_pos hj];exact⟨_,rfl⟩;rw[if_neg hj,if_neg hj];exact⟨_,rfl⟩
theorem Q4(hc:X.calm):cu X (.builtin "min") (λxs H Q=>∃i j,xs=[.int i,.int j]/\Q (.int (if j<i then j else i)) H):=by
 intro pins s σ H xs us Q I r h;obtain⟨i,j,rfl,q⟩:=h;obtain⟨u,w',rfl,⟨t,rfl⟩,⟨t',rfl⟩⟩:=vals2 r;refine min_two_ints (I.ok.hd hc) λh' tk k=>⟨_,H,I.kept k,?_,q⟩
 by_cases hj:j<i;rw[if_pos hj,if_pos hj];exact⟨_,rfl⟩;rw[if_neg hj,if_neg hj];exact⟨_,rfl⟩
theorem Q5:cu X (.type "int") (λxs H Q=>(∃i,xs=[.int i]/\Q (.int i) H)\/∃k,xs=[.bl k]/\Q (.int (if k then 1 else 0)) H):=by
 intro pins s σ H xs us Q I r h;rcases h with⟨i,rfl,q⟩|⟨k,rfl,q⟩
 obtain⟨u,rfl,t,rfl⟩:=vals1 r;exact call_int_int ⟨.int i,H,I,⟨_,rfl⟩,q⟩;obtain⟨u,rfl,r1⟩:=vals1 r;cases r1;exact call_int_bool ⟨.int (if k then 1 else 0),H,I.tok _,⟨_,rfl⟩,q⟩
end
structure vq(h:az)(x dx C:ah)(mA:Str->Option aa):Prop where
 obj:h.get? x=aB (PySem.W.instObj C dx)
 ns:h.Ns1 dx mA
 ne:dx≠x
theorem Q6{h:az}{dx:ah}{mA:Str->Option aa}(n:h.Ns1 dx mA):∃od,h.get? dx=aB od/\∀name,PySem.W.lookIn name od=aB (mA name):=by
 obtain⟨o,es,ep,ho,hd,hk,_,hm⟩:=n;refine⟨o,ho,λname=>?_⟩;have e:=hm name;unfold nsFind findBy at e;rw[<-Array.find?_toList]at e;unfold PySem.W.lookIn;rw[hd];dsimp only;split;rename_i y q;rw[q]at e;exact lP aB e;rename_i q;rw[q]at e;have a:es.toList.any (·.refKey)=false:=by rw[List.any_eq_false];intro y hy;obtain⟨z,t,hkey⟩:=hk y (Array.mem_toList_iff.mp hy);simp[DictEntry.refKey,hkey]
 have a':¬es.toList.any (·.refKey)=true:=by rw[a];exact mQ
 rw[if_neg a'];exact lP aB e
theorem vq.look{h:az}{x dx C:ah}{mA:Str->Option aa}(I:vq h x dx C mA):∃od,PySem.W.InstAt h x (PySem.W.instObj C dx) C (aB od)/\∀name,PySem.W.lookIn name od=aB (mA name):=
 let⟨od,ho,hl⟩:=Q6 I.ns
 ⟨od,⟨I.obj,rfl,rfl,ho⟩,hl⟩
theorem gG.some_of{v:V}{o:Option aa}(r:gG (aB v) o):∃u,o=aB u/\RelV v u:=by
 cases o with|none=>exact(show False from r).elim|some u=>exact⟨u,rfl,r⟩
section
variable{P:ai}{w:aj}{H H':Hp}{h h':az}{a C dx:ah}{fs fs':List (Str×V)}
theorem Q7(hok:fj P w H h)(e:H a=aB (.ins C dx fs)):∃mA,vq h a dx C mA/\(∀f,gG (fs.lookup f) (mA f))/\PySem.Within mA (fs.map (·.1))/\fs.length<=1000/\H dx=aB (.own a):=by
 obtain⟨d,z,ne,ob,mA,n,r,q⟩:=(show bw P w H h a (.ins C dx fs)from hok a _ e)
 exact⟨mA,⟨ob,n,ne⟩,r,q,z,d⟩
end
structure Gx(K:aK)(C:ah):Prop where
 pg:PySem.W.plainGet K C Str.empty=true
 hd:PySem.W.hasDictIn K C=true
 po:PySem.W.plainOver K C=true
 sa:PySem.W.findIn K (.ref C) "__setattr__" = aB (aB (.builtin "object.__setattr__"))
theorem Gx.get{K:aK}{C:ah}(c:Gx K C)(f:Str):PySem.W.plainGet K C f=true:=c.pg
section
variable{X:Cx}{pins:List (ah×Obj)}{σ:St}{H:Hp}{s:af}{A:ak}{E:aa->af->Prop}{Q:aa->af->Prop}{c:aa}{b:Bool}
inductive f7(K:aK)(H:Hp):V->aa->Prop where
 |aQ:f7 K H .aQ (.type "NoneType")
 |bl (x:Bool):f7 K H (.bl x) (.type "bool")
 |int (i:Int):f7 K H (.int i) (.type "int")
 |str (x:Str):f7 K H (.str x) (.type "str")
 |xO (x:UInt64):f7 K H (.xO x) (.type "float")
 |lst {a:ah} {xs:List V} (e:H a=aB (.lst xs)):f7 K H (.ref a) (.type "list")
 |bF {a:ah} {o:Obj} {xs:List V} (e:H a=aB (.bF o (.lst xs))):f7 K H (.ref a) (.type "list")
 |tup {a:ah} {xs:List V} (e:H a=aB (.tup xs)):f7 K H (.ref a) (.type "tuple")
 |dK {a:ah} {kvs:List (Key×V)} (e:H a=aB (.dK kvs)):f7 K H (.ref a) (.type "dict")
 |dT {a:ah} {kvs:List (List Key×V)} (e:H a=aB (.dT kvs)):f7 K H (.ref a) (.type "dict")
 |ins {a C dx:ah} {fs:List (Str×V)} (e:H a=aB (.ins C dx fs)) (cl:Gx K C) (ha:PySem.W.findIn K (.ref C) "__class__" = aB (aB (.builtin "object.__class__")))
   (hn:PySem.W.specialIn K (.builtin "object.__class__") "__get__" = aB (aB (.builtin "getset_descriptor.__get__"))) (htk:PySem.W.takesIn K (.builtin "object.__class__")=aB true)
   (hm:PySem.W.mroIn K C (.type "object")=aB true):f7 K H (.ref a) (.ref C)
theorem Q8{x:V}{u t:aa}(I:Inv X pins σ H s)(rx:RelV x u)(ty:f7 X.K H x t)(e:PySem.W.kitOne X.K t c=aB b)(h:∀tk,Q (.bool b) {s with toks:=tk}) :
 wpAny (model X.prog X.w) A (call (.builtin "isinstance") [u,c]) Q E s:=by
 cases ty with
 |aQ=>cases(show u=Value.none from rx);exact mR PySem.W.kitx_none I.jt True.intro e (λz=>nomatch z) h
 |bl y=>cases(show u=Value.bool y from rx);exact mR PySem.W.kitx_bool I.jt True.intro e (λz=>nomatch z) h
 |int i=>obtain⟨t,q⟩:=(show ∃t,u=Value.int i t from rx);cases q;exact mR PySem.W.kitx_int I.jt True.intro e (λz=>nomatch z) h
 |str y=>obtain⟨t,q⟩:=(show ∃t,u=Value.str y t from rx);cases q;exact mR PySem.W.kitx_str I.jt True.intro e (λz=>nomatch z) h
 |xO y=>obtain⟨t,q⟩:=(show ∃t,u=Value.float y t from rx);cases q;exact mR PySem.W.kitx_float I.jt True.intro e (λz=>nomatch z) h
 | @lst a xs ea=>
  cases(show u=Value.ref a from rx);obtain⟨_,_,n,_,h1⟩:=(show bw X.prog X.w H s.heap a (.lst xs)from I.hok a _ ea)
  exact mR PySem.W.kitx_list I.jt ⟨_,h1,rfl⟩ e (λz=>nomatch z) h
 | @bF a ob xs ea=>
  cases(show u=Value.ref a from rx);obtain⟨_,_,_,n,_,h1⟩:=(show bw X.prog X.w H s.heap a (.bF ob (.lst xs))from I.hok a _ ea)
  exact mR PySem.W.kitx_list I.jt ⟨_,h1,rfl⟩ e (λz=>nomatch z) h
 | @tup a xs ea=>
  cases(show u=Value.ref a from rx);obtain⟨_,_,_,p⟩:=(show bw X.prog X.w H s.heap a (.tup xs)from I.hok a _ ea)
  obtain⟨o,h1,h2,_⟩:=p;exact mR PySem.W.kitx_tuple I.jt ⟨o,h1,h2⟩ e (λz=>nomatch z) h
 | @dK a kvs ea=>
  cases(show u=Value.ref a from rx);obtain⟨_,_,vs,_,p⟩:=(show bw X.prog X.w H s.heap a (.dK kvs)from I.hok a _ ea)
  obtain⟨o,es,ep,h1,h2,_⟩:=p;exact mR PySem.W.kitx_dict I.jt ⟨o,h1,h2.1⟩ e (λz=>nomatch z) h
 | @dT a kvs ea=>
  cases(show u=Value.ref a from rx);obtain⟨_,_,xs,_,o,es,ep,h1,h2,_⟩:=(show bw X.prog X.w H s.heap a (.dT kvs)from I.hok a _ ea)
  exact mR PySem.W.kitx_dict I.jt ⟨o,h1,h2.1⟩ e (λz=>nomatch z) h
 | @ins a C dx fs ea cl ha hn htk hm=>
  cases(show u=Value.ref a from rx);obtain⟨mA,O,_⟩:=Q7 I.hok ea;obtain⟨od,J,_⟩:=O.look;exact mR (PySem.W.kitx_own (cl.get _) cl.hd ha hn htk hm) I.jt J e (λz=>nomatch z) h
end
structure dF(k:Nat)(A:ak):Prop where
 hd:A.handled=aC
 dp:A.depth+3*k+5<recursionLimit
 un:A.units+16*k+200<cLine
theorem dF.deeper{k:Nat}{A:ak}(r:dF (k+1) A)(env:Env):dF k (A.deeper env):=
 ⟨r.hd,by have:=r.dp;show A.depth+1+3*k+5<_;lia,by have:=r.un;show A.units+3+16*k+200<_;lia⟩
theorem dF.depth{k:Nat}{A:ak}(r:dF k A):A.depth<recursionLimit:=by have:=r.dp;lia
theorem dF.units{k:Nat}{A:ak}(r:dF k A):A.units+64<cLine:=by have:=r.un;lia
noncomputable def zM:TA:=λ_ H Q=>Q [] H
noncomputable def zN(ta:TE)(tr:TA):TA:=λσ H Q=>ta σ H λx H1=>tr σ H1 λxs H2=>Q (x::xs) H2
section
variable{X:Cx}{e:ao}{es:List ao}{te:TE}{t:TA}{pos:Pos}
theorem zO:PA X [] zM:=λ_ _ _ _ H Q I h=>Calls.spliced_nil ⟨[],H,I,.nil,h⟩
theorem xX(ha:PE X e te)(hr:PA X es t)(hs:autoParam (starEach (e::es) X.env=(false,eval e X.env)::starEach es X.env) L2.aR._auto_1):PA X (e::es) (zN te t):=by intro pos pins s σ H Q I h;rw[hs];show wpAny _ _ (spliced ((false,eval e X.env)::backTo pos (starEach es X.env))) _ _ s;refine Calls.spliced_cons (bq (ha pins s σ H _ I h) λu s1 z9=>z9.el λx H1 I1 r1 q1=>?_);exact bq (hr pos pins s1 σ H1 _ I1 q1) λus s2 z9=>z9.el λxs H2 I2 r2 q2=>⟨x::xs,H2,I2,.cons r1 r2,q2⟩
noncomputable def Gy(t:TA):TE:=λσ H Q=>t σ H λxs H1=>xs.length<=sizeLine/\∀p,H1 p=aC->Q (.ref p) (upd H1 p (.tup xs))
noncomputable def Gz(t:TA):TE:=λσ H Q=>t σ H λxs H1=>xs.length<=sizeLine/\∀p,H1 p=aC->Q (.ref p) (upd H1 p (.lst xs))
theorem Q9{x1}(h:PA X es t):PE X (.Tuple es x1 pos) (Gy t):=by intro pins s σ H Q I hq;refine wpAny_Tuple_spliced (bq (h pos pins s σ H _ I hq) λus s1 z9=>z9.el λxs H1 I1 r ⟨z,q⟩=>⟨by rw[<-r.length];exact z,?_⟩);have hf:H1 s1.heap.objs.size=aC:=I1.hok.fresh (bg _);refine⟨.ref s1.heap.objs.size,upd H1 s1.heap.objs.size (.tup xs),I1.laid (t':=s1.toks) (λb u e=>cQ _ e) (bg _) ?_,rfl,q _ hf⟩;exact⟨z,us,r,kU.new _ _⟩
theorem Ra(h:PA X es t):PE X (.List es pos) (Gz t):=by intro pins s σ H Q I hq;refine wpAny_List_spliced (bq (h pos pins s σ H _ I hq) λus s1 z9=>z9.el λxs H1 I1 r ⟨z,q⟩=>⟨by rw[<-r.length];exact z,?_⟩);have hf:H1 s1.heap.objs.size=aC:=I1.hok.fresh (bg _);refine⟨.ref s1.heap.objs.size,upd H1 s1.heap.objs.size (.lst xs),I1.laid (t':=s1.toks) (λb u e=>cQ _ e) (bg _) ?_,rfl,q _ hf⟩;exact⟨z,us,0,r,fX _ rfl⟩
end
noncomputable abbrev Sp:=List V->Hp->VK->XK->Prop
noncomputable abbrev pX:=List Env->Hp->af->XK->aa->af->Prop
structure qW(P:ai)(w:aj)(K:aK)(mg:Str->Option aa)(base:az)(A:ak)(outer:List Env)(s:af)(H:Hp):Prop where
 frames:A.frames=aB outer
 mod:Mod K mg base
 bs:∀b o,base.get? b=aB o->s.heap.get? b=aB o/\H b=aC
 vf:base.objs.size<=s.heap.objs.size
 iJ:s.heap.FunFrames base outer
 xT:∀b∈frs outer,H b=aC
 hok:fj P w H s.heap
 bare:AllBare s.gens
noncomputable def CE(outer:List Env)(P:ai)(w:aj)(H:Hp)(s:af)(Q:VK)(u:aa)(s':af):Prop:=
 ∃v H',s'.os=s.os/\AllBare s'.gens/\Un (frs outer) [] H H' s.heap s'.heap/\fj P w H' s'.heap/\RelV v u/\Q v H'
noncomputable def CR(CX:pX)(outer:List Env)(P:ai)(w:aj)(H:Hp)(s:af)(Q:VK)(E:XK)(r:Result)(s':af):Prop:=
 match r with|.ok (.ret u)=>CE outer P w H s Q u s'|.ok _=>False|.error e=>CX outer H s E e s'
structure fK(P:ai)(w:aj)(K:aK)(mg:Str->Option aa)(base:az)(CX:pX)(k:Nat)(f:ah)(fd:au)(ps:List Str)(sp:Sp):Prop where
 len:∀vs H Q E,sp vs H Q E->vs.length=ps.length
 run:∀(A:ak)(outer:List Env)(s:af)(H:Hp)(args:Args)(us:List aa)(vs:List V)(Q:VK)(E:XK),dF k A->qW P w K mg base A outer s H->BindsTo s fd args (ps.zip us)->Vals vs us->sp vs H Q E->
  codeAny (model P w) A (.call (.ref f) args) (CR CX outer P w H s Q E) s
section
variable{X:Cx}{pins:List (ah×Obj)}{σ:St}{H:Hp}{s s':af}
theorem Inv.GA(I:Inv X pins σ H s):qW X.prog X.w X.K X.mg X.base X.A X.stack s H:=
 ⟨I.ok.frames,I.ok.mod,I.bs,gF I.ok.vf I.sz,I.stack,I.lU,I.hok,I.bare⟩
theorem Inv.after{Q:VK}{u:aa}(I:Inv X pins σ H s)(h:CE X.stack X.prog X.w H s Q u s'):EP X pins σ Q u s':=by obtain⟨v,H',os,bare,un,hok,r,q⟩:=h;obtain⟨hh,g,d,t,os'⟩:=s';obtain rfl:os'=s.os:=os;exact⟨v,H',I.call (h':=hh) (g':=g) (d':=d) (t':=t) (ch:=[]) un hok bare (λb z=>absurd z (by simp)),r,q⟩
end
noncomputable def tN(sp:Sp)(oA:List V)(E:XK)(t:TA):TE:=λσ H Q=>t σ H λvs H1=>sp (vs++oA) H1 Q E
noncomputable def Binds(K:aK)(fd:au)(ps:List Str)(ds:List aa):Prop:=
 ∀(s:af)(us:List aa),K.In s.heap->(us++ds).length=ps.length->BindsTo s fd ⟨us,[]⟩ (ps.zip (us++ds))
theorem Binds.all{K:aK}{fd:au}{ps:List Str}(h:∀us:List aa,us.length=ps.length->bindArgs fd ⟨us,[]⟩=pure (ps.zip us)):Binds K fd ps []:=λs us _ hl=>by
 rw[nP]at hl ⊢;exact .of_eq (h us hl)
noncomputable def DO(CX:pX)(X:Cx)(E:XK):Prop:=∀(pins:List (ah×Obj)) (σ:St) (H:Hp) (s:af) (e:aa) (s':af),Inv X pins σ H s->CX X.stack H s E e s'->X.xe e s'
section
variable{X:Cx}{CX:pX}{k:Nat}{f C:ah}{fd:au}{ps:List Str}{sp:Sp}{oA:List V}{ds:List aa}{E:XK}{x m:Str}{p pos apos:Pos}{e o:ao}{es:List ao}{ta:TE}{t:TA}
theorem K5{pins:List (ah×Obj)}{σ:St}{H:Hp}{s:af}{Q:VK}{us:List aa}{vs:List V}(F:fK X.prog X.w X.K X.mg X.base CX k f fd ps sp)(hr:dF k X.A)(hb:Binds X.K fd ps ds)(hd:Vals oA ds)(hx:DO CX X E)
 (I:Inv X pins σ H s) (r:Vals vs us) (h:sp (vs++oA) H Q E):wpAny (model X.prog X.w) X.A (call (.ref f) us) (EP X pins σ Q) X.xe s:=by
 have r2:Vals (vs++oA) (us++ds):=r.append hd;have hl:(us++ds).length=ps.length:=by rw[<-r2.length];exact F.len _ _ _ _ h
 refine wpAny_call (codeAny_mono (F.run X.A X.stack s H ⟨us,[]⟩ (us++ds) (vs++oA) Q E hr I.GA (hb s us I.jt hl) r2 h) λr s' hq=>?_);cases r with
 |error e=>exact hx pins σ H s e s' I hq
 |ok fl=>
  cases fl with|ret u=>exact I.after hq|next=>exact False.elim hq|brk=>exact False.elim hq|cont=>exact False.elim hq
theorem K8(F:fK X.prog X.w X.K X.mg X.base CX k f fd ps sp)(hr:dF k X.A)(hg:Gl X x)(hm:X.mg x=aB (.ref f))(hk:PySem.W.keepIn X.K (.ref f))(hb:Binds X.K fd ps ds)(hd:Vals oA ds)(hx:DO CX X E)
 (ha:PA X (e::es) t) (hdb:autoParam ((x==("__debug__" : Str))=false) L2.aD._auto_1) (he:autoParam (starEach (e::es) X.env=(false,eval e X.env)::starEach es X.env) L2.aR._auto_1) (hpl:autoParam ((backTo pos (starEach es X.env)).any (·.1)=false) L2.aR._auto_1) :
 PE X (.Call (.Name x p) (e::es) [] pos) (tN sp oA E t):=by
 intro pins s σ H Q I h;refine CV (F8 I hg hm ?_ hdb);refine PySem.W.callWith_K (h₀:=X.base) I.ok.mod.F1 hk (bq (ha pos pins s σ H _ I h) λus s1 z9=>z9.el λvs H1 I1 r q=>⟨I1.jt,?_⟩) he hpl;exact K5 F hr hb hd hx I1 r q
theorem Rb(F:fK X.prog X.w X.K X.mg X.base CX k f fd ps sp)(hr:dF k X.A)(hg:Gl X x)(hm:X.mg x=aB (.ref f))(hk:PySem.W.keepIn X.K (.ref f))(hb:Binds X.K fd ps ds)(hd:Vals oA ds)(hx:DO CX X E)
 (hdb:autoParam ((x==("__debug__" : Str))=false) L2.aD._auto_1):PE X (.Call (.Name x p) [] [] pos) (tN sp oA E zM):=by
 intro pins s σ H Q I h;refine CV (F8 I hg hm ?_ hdb);exact PySem.W.callWith_K0 I.jt hk (K5 (us:=[]) F hr hb hd hx I .nil h)
end
structure dJ(N P:List Str)(sc:ay):Prop where
 kind:sc.kind=.function
 co:sc.isCoroutine=false
 gen:sc.isGenerator=false
 nd:N.Nodup
 pre:N.take P.length=P
 par:∀x∈P,sc.names.lookup x=aB .local\/sc.names.lookup x=aB .cell
 vt:∀y∈sc.names,y.2≠.free
theorem K9{kindOf:Str->Option NameKind}{x:Str}:∀{binds:List (Str×aa)} {m:Str->Option aa},(∀v,(x,v)∉binds)->bindL kindOf binds m x=m x
 |[],_,_=>rfl
 |(n,v)::r,m,h=>by
  unfold bindL;rw[K9 λw hw=>h w (eW _ hw)];split;have:x≠n:=by rintro rfl;exact h v eX
  simp[this];rfl
theorem La{kindOf:Str->Option NameKind}{x:Str}:∀{binds:List (Str×aa)} {m:Str->Option aa},(∀v,(x,v)∉binds)->bindC kindOf binds m x=m x
 |[],_,_=>rfl
 |(n,v)::r,m,h=>by
  unfold bindC;rw[La λw hw=>h w (eW _ hw)];split;rfl;have:x≠n:=by rintro rfl;exact h v eX
  simp[this]
theorem Lb{kindOf:Str->Option NameKind}{x:Str}{v:aa}:∀{P:List Str} {vs:List aa} {i:Nat} {m:Str->Option aa},P.Nodup->P[i]?=aB x->vs[i]?=aB v->kindOf x=aB .local->
 bindL kindOf (P.zip vs) m x=aB v
 |[],_,_,_,_,h,_,_=>by simp at h
 |_::_,[],_,_,_,_,h,_=>by simp at h
 |p::P,w::vs,0,m,nd,h1,h2,hk=>by
  simp at h1 h2;subst h1;subst h2;show bindL kindOf ((p,w)::P.zip vs) m p=_;unfold bindL;rw[K9 λv hv=>(sW.mp nd).1 (List.of_mem_zip hv).1,if_pos hk];simp
 |p::P,w::vs,i+1,m,nd,h1,h2,hk=>by
  show bindL kindOf ((p,w)::P.zip vs) m x=_;unfold bindL;exact Lb (i:=i) (sW.mp nd).2 (by simpa using h1) (by simpa using h2) hk
theorem Lc{kindOf:Str->Option NameKind}{x:Str}{v:aa}:∀{P:List Str} {vs:List aa} {i:Nat} {m:Str->Option aa},P.Nodup->P[i]?=aB x->vs[i]?=aB v->kindOf x≠aB .local->
 bindC kindOf (P.zip vs) m x=aB v
 |[],_,_,_,_,h,_,_=>by simp at h
 |_::_,[],_,_,_,_,h,_=>by simp at h
 |p::P,w::vs,0,m,nd,h1,h2,hk=>by
  simp at h1 h2;subst h1;subst h2;show bindC kindOf ((p,w)::P.zip vs) m p=_;unfold bindC;rw[La λv hv=>(sW.mp nd).1 (List.of_mem_zip hv).1,if_neg hk];simp
 |p::P,w::vs,i+1,m,nd,h1,h2,hk=>by
  show bindC kindOf ((p,w)::P.zip vs) m x=_;unfold bindC;exact Lc (i:=i) (sW.mp nd).2 (by simpa using h1) (by simpa using h2) hk
noncomputable def start(N:List Str)(vs:List V):St:=vs.map aB++bV (N.length-vs.length) aC
noncomputable def j9(CX:pX)(P:ai)(w:aj)(K:aK)(mg:Str->Option aa)(base:az)(N:List Str)(qual:Str)(scope:ay)(f:ah)(cd:aa)(A:ak)(outer:List Env)(s:af)(H:Hp)(E:XK):Cx where
 prog:=P
 w:=w
 K:=K
 mg:=mg
 base:=base
 A:=A.deeper (envOfC qual scope s.heap.objs.size f cd)
 N:=N
 s₀:=s
 H₀:=H
 env:=envOfC qual scope s.heap.objs.size f cd
 outer:=outer
 stack:=envOfC qual scope s.heap.objs.size f cd::outer
 ex:=[]
 calm:=true
 fn:=λ_=>true
 pn:=[]
 xe:=λe s'=>wpAny (model P w) (A.deeper (envOfC qual scope s.heap.objs.size f cd)) (leaving (envOfC qual scope s.heap.objs.size f cd) e) (λ_ s''=>CX outer H s E e s'') (λe' s''=>CX outer H s E e' s'') s'
theorem Ld{sc:ay}{n:Nat}{x:Str}(h:sc.names.lookup x=aB .cell):∃c,(cellsFrom n sc.names []).lookup x=aB c:=by have q:=PySem.W.cellsFrom_some sc.names n [] (.inl h);exact Option.isSome_iff_exists.mp q
theorem Rc{CX:pX}{P:ai}{w:aj}{K:aK}{mg:Str->Option aa}{base:az}{N ps:List Str}{qual:Str}{scope:ay}{f:ah}{cd:aa}{A:ak}{outer:List Env}{s s1:af}{H:Hp}{E:XK}{us:List aa}{vs:List V}
 (S:dJ N ps scope) (hd:A.handled=aC) (e0:qW P w K mg base A outer s H) (hl:vs.length=ps.length) (r:Vals vs us)
 (x:InCallC s s.heap.objs.size (bindL (envOfC qual scope s.heap.objs.size f cd).kindOf (ps.zip us) λ_=>aC) (cellsFrom (s.heap.objs.size+1) scope.names []) (bindC (envOfC qual scope s.heap.objs.size f cd).kindOf (ps.zip us) λ_=>aC) s1) :
 Inv (j9 CX P w K mg base N qual scope f cd A outer s H E) [] (start N vs) H s1:=by
 have hpl:ps.length<=N.length:=by have:=lP List.length S.pre;rw[jq]at this;lia
 obtain⟨h1,tk,rfl,hk⟩:=x.done;have zP:∀b:ah,b∉(j9 CX P w K mg base N qual scope f cd A outer s H E).ex:=λb z=>absurd (show b∈([]:List ah)from z) (by simp);refine⟨⟨e0.mod,S.kind,rfl,rfl,bg _,λy z c h1 h2=>?_,λy hy=>?_,λy c _ h=>?_,λ_=>hd,Around.frames_deeper e0.frames,.inr ⟨rfl,rfl⟩,λb z=>absurd z (zP b),e0.bs,e0.vf,λb _ _=>zP b,λb z=>absurd z (zP b),e0.iJ,e0.xT⟩,
  rfl,e0.bare,Un.kept hk,⟨_,x.toInCall.ns,λi y v h1 h2 h3=>?_⟩,λy c h=>⟨_,x.cell y c h⟩,e0.hok.fresh (bg _),λy c h=>?_,λp hp=>absurd (show p∈([]:List (ah×Obj))from hp) (by simp),e0.hok.kept hk,?_⟩
 exact name_of_addr x.apart (yH h1) (yH h2);have hy:scope.names.lookup y=aB .cell\/scope.names.lookup y=aB .free:=hy;rcases hy with hy|hy
 exact Ld hy;exact absurd rfl (S.vt _ (yH hy));exact sZ (x.above y c (yH h));have hi:i<vs.length:=by unfold start at h2;by_cases hi:i<vs.length;exact hi;rw[lR (by simpa using hi)]at h2;rw[C5]at h2;split at h2<;>cases h2
 have ha:vs[i]?=aB v:=by
  unfold start at h2;rw[pS (by simpa using hi),dG]at h2;cases e:vs[i]? with|none=>rw[e]at h2;cases h2|some a=>rw[e]at h2;cases h2;rfl
 obtain⟨u,hu,rv⟩:=r.get ha;have hp:ps[i]?=aB y:=by rw[<-S.pre,List.getElem?_take_of_lt (by lia)];exact h1
 have Le:ps.Nodup:=by rw[<-S.pre];exact S.nd.sublist (List.take_sublist _ _)
 refine⟨u,rv,?_⟩;rcases S.par y (kQ hp)with k|k
 exact .inl ⟨k,Lb Le hp hu k⟩;obtain⟨c,e⟩:=Ld (n:=s.heap.objs.size+1) k;refine .inr ⟨.inl k,c,e,?_⟩;have q:=x.cell y c e;rw[Lc Le hp hu (by show scope.names.lookup y≠_;rw[k];decide)]at q;exact q;exact e0.hok.fresh (sZ (x.above y c (yH h)));unfold start;show _=N.length;rw[eY,bG,uU];lia
theorem zQ{CX:pX}{P:ai}{w:aj}{K:aK}{mg:Str->Option aa}{base:az}{k:Nat}{f:ah}{name qual:Str}{params:Arguments}{body:List aq}{scope:ay}{dV kV doc pm cdv ct oc:aa}{an od:Option ah}
 {osl:Array (Option aa)} {N ps:List Str} {sp:Sp} (lk:K.lookup f=aB ⟨oc,od,.func (PySem.W.fnOf name qual params body scope dV kV doc pm an cdv ct),osl⟩) (hcd:PySem.W.codeIn K cdv qual) (S:dJ N ps scope)
 (len:∀vs H Q E,sp vs H Q E->vs.length=ps.length)
 (hbody:∀(A:ak)(outer:List Env)(s:af)(H:Hp)(vs:List V)(Q:VK)(E:XK),dF k (A.deeper (envOfC qual scope s.heap.objs.size f cdv))->sp vs H Q E->
   ∃t,kW (j9 CX P w K mg base N qual scope f cdv A outer s H E) body t/\t {nx:=λ_ H'=>Q .aQ H',rt:=Q} (start N vs) H) :
 fK P w K mg base CX (k+1) f (PySem.W.fnOf name qual params body scope dV kV doc pm an cdv ct) ps sp:=by
 refine⟨len,λA outer s H args us vs Q E hr e0 hb r pY=>?_⟩;have hl:=len _ _ _ _ pY;have KX:K.In s.heap:=e0.mod.F1.keeps λb o e=>(e0.bs b o e).1;have lim:s.heap.NoLimit:=e0.mod.nolimit.keeps λb o e=>(e0.bs b o e).1;have hkind:∀y∈ps.zip us,scope.names.lookup y.1=aB .local\/(scope.names.lookup y.1=aB .cell/\((cellsFrom (s.heap.objs.size+1) scope.names []).lookup y.1).isSome):=λbW hy=>by
  obtain⟨n,v⟩:=bW;rcases S.par n (List.of_mem_zip hy).1 with q|q;exact .inl q;exact .inr ⟨q,PySem.W.cellsFrom_some _ _ _ (.inl q)⟩
 refine codeAny_call_function hr.depth (KX _ _ lk) rfl S.co S.gen rfl (PySem.W.codeRec_of KX hcd) (hb _ _ _ _ ?_);refine wpAny_newFunctionEnv_cells S.kind hkind λenv he s1 x=>?_;subst he;refine⟨lim.keeps x.toInCall.keep,codeAny_func ?_⟩;obtain⟨t,ht,hq⟩:=hbody A outer s H vs Q E (hr.deeper _) pY;have I:Inv (j9 CX P w K mg base N qual scope f cdv A outer s H E) [] (start N vs) H s1:=Rc S hr.hd e0 hl r x;refine gY (ht [] s1 (start N vs) H _ I hq) (λfl s' hs=>?_) λe s' hs=>hs;have fin:∀{σ':St}{H':Hp}{v:V}{u:aa},Inv (j9 CX P w K mg base N qual scope f cdv A outer s H E) [] σ' H' s'->RelV v u->Q v H'->CE outer P w H s Q u s':=
  λ{σ' H' v u} J rv q=>⟨v,H',J.os,J.bare,J.base,J.hok,rv,q⟩
 cases fl with
 |ret u=>
  obtain⟨v,σ',H',J,rv,q⟩:=hs;exact fin J rv q
 |next=>
  obtain⟨σ',H',J,q⟩:=hs;exact fin (v:=V.aQ) (u:=Value.none) J rfl q
 |brk=>
  obtain⟨_,_,_,q⟩:=hs;exact False.elim q
 |cont=>
  obtain⟨_,_,_,q⟩:=hs;exact False.elim q
section
variable{X:Cx}{x:Str}{p pos:Pos}{e:ao}{es:List ao}{t:TA}{id T:String}{r:List V->Hp->VK->Prop}
noncomputable def Lg(r:List V->Hp->VK->Prop)(t:TA):TE:=λσ H Q=>t σ H λvs H1=>r vs H1 Q
theorem Lh(hc:cu X (.builtin id) r)(hg:Gl X x)(hm:X.mg x=aC)(hv:bootBuiltins x=aB (.builtin id))(ha:PA X (e::es) t)(hn:autoParam (x≠"__name__") L2.aD._auto_1)(hdb:autoParam ((x==("__debug__" : Str))=false) L2.aD._auto_1)
 (he:autoParam (starEach (e::es) X.env=(false,eval e X.env)::starEach es X.env) L2.aR._auto_1) (hpl:autoParam ((backTo pos (starEach es X.env)).any (·.1)=false) L2.aR._auto_1):PE X (.Call (.Name x p) (e::es) [] pos) (Lg r t):=by
 intro pins s σ H Q I h;refine CV (tG I hg hm hv ?_ hn hdb);exact PyProof.Rows.callWith_builtin1 (bq (ha pos pins s σ H _ I h) λus s1 z9=>z9.el λvs H1 I1 r1 q1=>hc pins s1 σ H1 vs us Q I1 r1 q1) he hpl
theorem Rf(hc:cu X (.type T) r)(hg:Gl X x)(hm:X.mg x=aC)(hv:bootBuiltins x=aB (.type T))(ha:PA X (e::es) t)(hn:autoParam (x≠"__name__") L2.aD._auto_1)(hdb:autoParam ((x==("__debug__" : Str))=false) L2.aD._auto_1)
 (he:autoParam (starEach (e::es) X.env=(false,eval e X.env)::starEach es X.env) L2.aR._auto_1) (hpl:autoParam ((backTo pos (starEach es X.env)).any (·.1)=false) L2.aR._auto_1):PE X (.Call (.Name x p) (e::es) [] pos) (Lg r t):=by
 intro pins s σ H Q I h;refine CV (tG I hg hm hv ?_ hn hdb);exact xM (bq (ha pos pins s σ H _ I h) λus s1 z9=>z9.el λvs H1 I1 r1 q1=>hc pins s1 σ H1 vs us Q I1 r1 q1) he hpl
end
end L2
namespace HT
open PySem PyProof.Rows
section
variable{prog:ai}{w:aj}{A:ak}{E:aa->af->Prop}{s:af}
theorem qX{t b:ah}{vs ws:List aa}{Q:aa->af->Prop}(ht:IsTup s.heap t vs.toArray)(hb:IsTup s.heap b ws.toArray)(hv:vs≠[])
 (h1:ws=[]->Q (.ref t) s) (h2:ws≠[]->Q (.ref s.heap.objs.size) {s with heap:=s.heap.push {cls:=.type "tuple",data:=.seq (vs++ws).toArray}})
 (hsz:vs.length+ws.length<=sizeLine):wpAny (model prog w) A (binaryOp .Add (.ref t) (.ref b)) Q E s:=by
 obtain⟨⟨cls,dd,data,sl⟩,ho,hc,n,hd⟩:=id ht;obtain⟨⟨GC,dd2,data2,sl2⟩,ho2,hc2,n2,hd2⟩:=id hb;simp only at hc hd hc2 hd2;subst hc hd hc2 hd2;have e:vs.toArray++ws.toArray=(vs++ws).toArray:=by simp
 by_cases hw:ws=[]
 exact concat_meets ⟨_,ho,rfl⟩ ⟨_,ho2,rfl⟩ yI yJ yY yX (yW _ _)
  (tuple_addW1 t b vs.toArray ws.toArray n n2 dd dd2 sl sl2 (by simpa using hv) (by simp[hw])) ⟨ho,ho2,h1 hw⟩
 refine concat_meets ⟨_,ho,rfl⟩ ⟨_,ho2,rfl⟩ yI yJ yY yX (yW _ _)
  (tuple_addW2 t b vs.toArray ws.toArray n n2 dd dd2 sl sl2 (by simpa using hv) (by simpa using hw) (by rw[dQ,dQ];exact hsz)) ⟨ho,ho2,?_⟩
 rw[e];exact h2 hw
noncomputable def bT(n d:Nat):Option Int->Nat|none=>d|some v=>if v<0 then(v+ (n:Int)).toNat else min v.toNat n
theorem oB(n d:Nat):bT n d aC=d:=rfl
theorem qY(n d k:Nat):bT n d (aB (k:Int))=min k n:=by show(if(k:Int)<0 then((k:Int)+ (n:Int)).toNat else min (k:Int).toNat n)=min k n;rw[if_neg (by lia),pV]
theorem Rg(n d:Nat)(hd:d<=n)(o:Option Int):bT n d o<=n:=by
 cases o with
 |none=>exact hd
 |some v=>
  show(if v<0 then(v+ (n:Int)).toNat else min v.toNat n)<=n;by_cases hv:v<0;rw[if_pos hv];lia;rw[if_neg hv];exact Nat.min_le_right _ _
theorem Li(v:Int)(n d:Nat):(if v<0 then max (v+ (n:Int)) 0 else min v (n:Int))=((bT n d (aB v):Nat):Int):=by
 show(if v<0 then max (v+ (n:Int)) 0 else min v (n:Int))=(((if v<0 then(v+ (n:Int)).toNat else min v.toNat n):Nat):Int)
 by_cases hv:v<0;simp only[if_pos hv];lia;simp only[if_neg hv];lia
theorem Rh(lo hi:Option Int)(n:Nat):Builtin.Slice.sliceAdjust lo hi 1 (n:Int)=(((bT n 0 lo:Nat):Int),((bT n n hi:Nat):Int)):=by
 have h1:¬((1:Int)<0):=by lia
 unfold Builtin.Slice.sliceAdjust;simp only[h1,dg];refine Prod.ext ?_ ?_;cases lo with|none=>rfl|some v=>exact Li v n 0
 cases hi with|none=>rfl|some v=>exact Li v n n
theorem Ri(i j:Nat):Builtin.Slice.slicePlaces (i:Int) (j:Int) 1=j-i:=by
 unfold Builtin.Slice.slicePlaces;have h1:(1:Int)>0:=by lia
 simp only[h1,cC,Int.ediv_one];split<;>lia
theorem Lj{v:aa}{o:Option Int}{Q:Option Int->af->Prop}(p:IsPart v o)(h:Q o s):wpAny (model prog w) A (Builtin.Slice.slicePartIndex v) Q E s:=by
 cases p with|none=>exact slicePart_none h|int i t=>exact slicePart_int h
theorem Lk{sl:ah}{vl vu:aa}{lo hi:Option Int}{n:Nat}{Q:Int×Int×Nat->af->Prop}(hs:s.heap.IsSliceOf sl vl vu .none)(pl:IsPart vl lo)(pu:IsPart vu hi)
 (h:Q (((bT n 0 lo:Nat):Int),1,bT n n hi-bT n 0 lo) s):wpAny (model prog w) A (Builtin.Slice.sliceApplied (.ref sl) (pure (n:Int))) Q E s:=by
 obtain⟨os,hos,hcs,hds⟩:=id hs;unfold Builtin.Slice.sliceApplied Builtin.Slice.sliceFields;refine aG (aG (jn hos hds (x:=vl) rfl (aG (jn hos hds (x:=vu) rfl (aG (jn hos hds (x:=.none) rfl (aX ?_)))))));refine aG (slicePart_none ?_);show wpAny _ _ (if((1:Int)==0)=true then _ else _) _ _ s;rw[if_neg (by decide)];refine aG (Lj pl (aG (Lj pu (aG (aX ?_)))));show wpAny _ _ (match Builtin.Slice.sliceAdjust lo hi 1 (n:Int)with|(lo,hi)=>pure (lo,(1:Int),Builtin.Slice.slicePlaces lo hi 1)) _ _ s;rw[Rh lo hi n];show wpAny _ _ (pure (((bT n 0 lo:Nat):Int),(1:Int),Builtin.Slice.slicePlaces ((bT n 0 lo:Nat):Int) ((bT n n hi:Nat):Int) 1)) _ _ s;rw[Ri];exact aX h
theorem Rj(xs:Array aa)(i k:Nat):((List.range k).filterMap λ(m:Nat)=>xs[((i:Int)+ (m:Int)*1).toNat]?).toArray=((xs.toList.drop i).take k).toArray:=by
 have e:(λ(m:Nat)=>xs[((i:Int)+ (m:Int)*1).toNat]?)=λm=>xs[i+m]?:=by
  funext m;have:((i:Int)+ (m:Int)*1).toNat=i+m:=by lia
  rw[this]
 rw[e];have:=pick_run xs i k;rw[List.filterMap_map]at this;have e2:((λx=>xs[x]?)∘λx=>i+x)=λm=>xs[i+m]?:=rfl;rw[e2]at this;rw[this]
theorem f9{t sl:ah}{items:Array aa}{vl vu:aa}{lo hi:Option Int}{Q:aa->af->Prop}(ht:IsTup s.heap t items)(hs:s.heap.IsSliceOf sl vl vu .none)(pl:IsPart vl lo)(pu:IsPart vu hi)
 (hw:¬(bT items.size 0 lo=0/\bT items.size items.size hi=items.size))
 (h:Q (.ref s.heap.objs.size) {s with heap:=s.heap.push {cls:=.type "tuple",data:=.seq ((items.toList.drop (bT items.size 0 lo)).take (bT items.size items.size hi-bT items.size 0 lo)).toArray}})
 (hsz:items.size<=sizeLine):wpAny (model prog w) A (getItem (.ref t) (.ref sl)) Q E s:=by
 have lW:sizeOk (.seq ((items.toList.drop (bT items.size 0 lo)).take (bT items.size items.size hi-bT items.size 0 lo)).toArray):=by show((items.toList.drop (bT items.size 0 lo)).take (bT items.size items.size hi-bT items.size 0 lo)).toArray.size<=sizeLine;rw[dQ,jq,sV,u7];lia
 have hj:bT items.size items.size hi<=items.size:=Rg _ _ (bg _) hi;obtain⟨os,hos,hcs,hds⟩:=id hs;have GD:s.TypeIs (.ref sl) "slice":=⟨os,hos,hcs⟩
 unfold getItem
 try with_reducible refine mL ?_
 first|refine aG (aX ?_)|skip
 refine aG (wpAny_sequenceKey ht.typeIs (by decide) ?_);refine aG (pP (name:=Str.ofString "__getitem__") ht.typeIs xK
  (lQ xK ht.typeIs entry_tuple_getitem ?_ (args_tuple_getitem _ _)))
 show wpAny _ _ (Builtin.Tuple.tupleItemsOf (.ref t) >>= _) _ _ s;refine aG (tupleItemsOf_ ht ?_);refine aG (yK GD ?_);rw[if_pos (by decide)];refine aG (Lk hs pl pu ?_);have hno:¬((((bT items.size 0 lo:Nat):Int)==0&& (1:Int)==1&& (bT items.size items.size hi-bT items.size 0 lo)==items.size)):=by intro q;rw[bY,bY]at q;have q1:((bT items.size 0 lo:Nat):Int)=0:=eq_of_beq q.1.1;have q2:bT items.size items.size hi-bT items.size 0 lo=items.size:=eq_of_beq q.2;exact hw ⟨by lia,by lia⟩
 show wpAny _ _ (if(((bT items.size 0 lo:Nat):Int)==0&& (1:Int)==1&& (bT items.size items.size hi-bT items.size 0 lo)==items.size)=true then _ else _) _ _ s;rw[if_neg hno,Rj];first
  |exact aG (m:=Builtin.Tuple.tupleExact _) (kP (aX ⟨_,rfl,aX h⟩) lW)
  |exact aG (m:=Builtin.Tuple.tupleExact _) (kP (aG (aX (aX ⟨_,rfl,aX h⟩))) lW)
  |exact aG (aG (m:=Builtin.Tuple.tupleExact _) (kP (aX (aX ⟨_,rfl,aX h⟩)) lW))
  |exact aG (aG (m:=Builtin.Tuple.tupleExact _) (kP (aX ⟨_,rfl,aX h⟩) lW))
end
end HT
namespace L2
open PySem PySem.Spec PyProof.Rows
noncomputable abbrev TO:=St->Hp->(Option Int->Hp->Prop)->Prop
noncomputable def PO(X:Cx)(e:Option ao)(t:TO):Prop:=
 ∀(pins:List (ah×Obj))(s:af)(σ:St)(H:Hp)(Q:Option Int->Hp->Prop),Inv X pins σ H s->t σ H Q->
  wpAny (model X.prog X.w) X.A (evalPart e X.env) (λu s'=>∃o H',Inv X pins σ H' s'/\IsPart u o/\Q o H') X.xe s
noncomputable def Rk:TO:=λ_ H Q=>Q aC H
noncomputable def zR(t:TE):TO:=λσ H Q=>t σ H λx H1=>∃i,x=.int i/\Q (aB i) H1
section
variable{X:Cx}{e:ao}{te:TE}{lo hi:Option ao}{tl th:TO}{pos p2:Pos}
theorem Rl:PO X aC Rk:=by intro pins s σ H Q I h;rw[evalPart_none];exact aX ⟨aC,H,I,.none,h⟩
theorem Rm(h:PE X e te):PO X (aB e) (zR te):=by intro pins s σ H Q I hw;rw[evalPart_some];refine bq (h pins s σ H _ I hw) λu s1 z9=>z9.el λx H1 I1 r1 q1=>?_;obtain⟨i,rfl,q⟩:=q1;obtain⟨t,rfl⟩:=r1;exact⟨aB i,H1,I1,.int i t,q⟩
noncomputable def qZ(X:Cx)(r:V->Option Int->Option Int->Hp->VK->Prop):Prop:=
 ∀(pins:List (ah×Obj))(s:af)(σ:St)(H:Hp)(x:V)(v vl vu:aa)(lo hi:Option Int)(sl:ah)(Q:VK),Inv X pins σ H s->RelV x v->s.heap.IsSliceOf sl vl vu .none->IsPart vl lo->IsPart vu hi->r x lo hi H Q->
  ∃T id,typeLookup (.type T) "__getitem__" = pure (aB (.builtin id))/\s.TypeIs v T/\wpAny (model X.prog X.w) X.A (getItem v (.ref sl)) (EP X pins σ Q) X.xe s
theorem qZ.or{r r':V->Option Int->Option Int->Hp->VK->Prop}(h:qZ X r)(h':qZ X r'):qZ X (λx lo hi H Q=>r x lo hi H Q\/r' x lo hi H Q):=by
 intro pins s σ H x v vl vu lo hi sl Q I rx hs pl pu q;rcases q with q|q
 exact h pins s σ H x v vl vu lo hi sl Q I rx hs pl pu q;exact h' pins s σ H x v vl vu lo hi sl Q I rx hs pl pu q
noncomputable def Rn(r:V->Option Int->Option Int->Hp->VK->Prop)(te:TE)(tl th:TO):TE:=λσ H Q=>te σ H λx H1=>tl σ H1 λl H2=>th σ H2 λu H3=>r x l u H3 Q
theorem Ro{r:V->Option Int->Option Int->Hp->VK->Prop}(hr:qZ X r)(he:PE X e te)(hl:PO X lo tl)(hu:PO X hi th):PE X (.Subscript e (.Slice lo hi aC p2) pos) (Rn r te tl th):=by intro pins s σ H Q I h;refine Subscript_ (bq (he pins s σ H _ I h) λv s1 z9=>z9.el λx H1 I1 r1 q1=>?_);refine wpAny_Slice (bq (hl pins s1 σ H1 _ I1 q1) λvl s2 ⟨l,H2,I2,pl,q2⟩=>bq (hu pins s2 σ H2 _ I2 q2) λvu s3 bW=>?_);obtain⟨u,H3,I3,pu,q3⟩:=bW;rw[evalPart_none];refine aX ?_;have I4:Inv X pins σ H3 {s3 with heap:=s3.heap.push {cls:=.type "slice",data:=.fields #[vl,vu,.none]}}:=I3.kept (t':=s3.toks) λb ob q=>cQ _ q;obtain⟨T,id,hT,ht,hg⟩:=hr pins {s3 with heap:=s3.heap.push {cls:=.type "slice",data:=.fields #[vl,vu,.none]}} σ H3 x v vl vu l u s3.heap.objs.size Q I4 r1 (Heap.IsSliceOf.new ..) pl pu q3;show wpAny (model X.prog X.w) X.A (subscriptTail e (.Slice lo hi aC p2) v (.ref s3.heap.objs.size)) (EP X pins σ Q) X.xe {s3 with heap:=s3.heap.push {cls:=.type "slice",data:=.fields #[vl,vu,.none]}};exact tail_any (ops:=[.ref s3.heap.objs.size,v]) ht hT hg (by with_unfolding_all rfl)
noncomputable def kc(xs:List V)(lo hi:Option Int):List V:=(xs.drop (HT.bT xs.length 0 lo)).take (HT.bT xs.length xs.length hi-HT.bT xs.length 0 lo)
theorem Ll(xs:List V)(lo hi:Option Int):(kc xs lo hi).length<=xs.length:=by unfold kc;rw[jq,sV];lia
noncomputable def zS(K:aK):V->Option Int->Option Int->Hp->VK->Prop:=λx lo hi H Q=>∃a xs,x=.ref a/\cH K H a xs/\
 ¬(HT.bT xs.length 0 lo=0/\HT.bT xs.length xs.length hi=xs.length)/\∀p,H p=aC->Q (.ref p) (upd H p (.tup (kc xs lo hi)))
theorem Rq:qZ X (zS X.K):=by
 intro pins s σ H x v vl vu lo hi sl Q I rx hs pl pu h;obtain⟨a,xs,rfl,hx,hw,q⟩:=h;cases rx;obtain⟨its,r,ht,hz⟩:=I.tuple hx;have hlen:its.toArray.size=xs.length:=by rw[dQ];exact r.length.symm
 refine⟨"tuple",_,xK.lookup,ht.typeIs,?_⟩;refine HT.f9 ht hs pl pu (by rw[hlen];exact hw) ?_ (by rw[hlen];exact hz);rw[hlen];refine⟨.ref s.heap.objs.size,_,I.laid (t':=s.toks) (o:=.tup (kc xs lo hi)) (λb ob q=>cQ _ q) (bg _) ?_,rfl,q _ (I.hok.fresh (bg _))⟩;exact⟨gF (Ll xs lo hi) hz,_,(r.drop (HT.bT xs.length 0 lo)).take (HT.bT xs.length xs.length hi-HT.bT xs.length 0 lo),kU.new _ _⟩
noncomputable def lX(K:aK):R2:=λx y H Q=>∃a b xs ys,x=.ref a/\y=.ref b/\cH K H a xs/\cH K H b ys/\xs≠[]/\xs.length+ys.length<=sizeLine/\
 (ys=[]->Q (.ref a) H)/\(ys≠[]->∀p,H p=aC->Q (.ref p) (upd H p (.tup (xs++ys))))
theorem Vals.eU{xs:List V}{us:List aa}(r:Vals xs us):us=[]↔xs=[]:=by
 cases r with|nil=>simp|cons _ _=>simp
theorem Rr:dD X (binaryOp .Add) (lX X.K):=by intro pins s σ H x y v u Q I rx ry h;obtain⟨a,b,xs,ys,rfl,rfl,ha,hb,hx,hz,q1,q2⟩:=h;cases rx;cases ry;obtain⟨its,r1,p1,_⟩:=I.tuple ha;obtain⟨its2,r2,p2,_⟩:=I.tuple hb;refine HT.qX p1 p2 (λz=>hx (r1.eU.mp z)) (λz=>⟨.ref a,H,I,rfl,q1 (r2.eU.mp z)⟩) (λz=>?_) (by rw[<-r1.length,<-r2.length];exact hz);refine⟨.ref s.heap.objs.size,_,I.laid (t':=s.toks) (o:=.tup (xs++ys)) (λb ob q=>cQ _ q) (bg _) ?_,rfl,q2 (λw=>z (r2.eU.mpr w)) _ (I.hok.fresh (bg _))⟩;exact⟨by rw[eY];exact hz,_,r1.append r2,kU.new _ _⟩
end
noncomputable def i8(n:Nat)(i:Int):Option Nat:=if 0<=i then(if i<n then aB i.toNat else aC)else if -(n:Int)<=i then aB (i+n).toNat else aC
noncomputable def fE{α:Type}(xs:List α)(i:Int):Option α:=(i8 xs.length i).bind λj=>xs[j]?
theorem Lm{n:Nat}{i:Int}{j:Nat}(h:i8 n i=aB j):seqIndex? i n=aB j/\j<n/\-(n:Int)<=i/\i<n:=by unfold i8 at h;by_cases h0:0<=i;rw[if_pos h0]at h;by_cases h1:i<n;rw[if_pos h1]at h;have e:i.toNat=j:=lT h;exact⟨by rw[C3 h0 h1,e],by lia,by lia,h1⟩;rw[if_neg h1]at h;cases h;rw[if_neg h0]at h;by_cases h1:-(n:Int)<=i;rw[if_pos h1]at h;have e:(i+n).toNat=j:=lT h;exact⟨by rw[seqIndex_neg (by lia) h1,e],by lia,h1,by lia⟩;rw[if_neg h1]at h;cases h
theorem Ln{α:Type}{xs:List α}{i:Int}{v:α}(h:fE xs i=aB v):∃j,seqIndex? i xs.length=aB j/\xs[j]?=aB v/\j<xs.length/\-(xs.length:Int)<=i/\i<xs.length:=by
 unfold fE at h;cases e:i8 xs.length i with
 |none=>rw[e]at h;cases h
 |some j=>
  rw[e]at h;obtain⟨h1,h2,h3,h4⟩:=Lm e;exact⟨j,h1,h,h2,h3,h4⟩
theorem lu{α:Type}{xs:List α}{j:Nat}{v:α}(h:xs[j]?=aB v):fE xs (j:Int)=aB v:=by
 have hj:j<xs.length:=(gA.mp h).1;have e:i8 xs.length (j:Int)=aB j:=by unfold i8;rw[if_pos (by lia),if_pos (by lia)];simp
 unfold fE;rw[e];exact h
noncomputable def GF(b:ao):Prop:=∀o i,subscripted b false o i=operate [o,i] (getItem o i)
noncomputable def pZ(X:Cx)(r:R2):Prop:=
 ∀(value slice:ao)(pins:List (ah×Obj))(s:af)(σ:St)(H:Hp)(x y:V)(v u:aa)(Q:VK),Inv X pins σ H s->RelV x v->RelV y u->r x y H Q->
  subscripted slice false v u=operate [v,u] (getItem v u)->wpAny (model X.prog X.w) X.A (subscriptTail value slice v u) (EP X pins σ Q) X.xe s
noncomputable def Lo(X:Cx)(id:String)(r:V->List V->Hp->VK->Prop):Prop:=
 ∀(pins:List (ah×Obj))(s:af)(σ:St)(H:Hp)(x:V)(xs:List V)(v:aa)(us:List aa)(Q:VK),Inv X pins σ H s->RelV x v->Vals xs us->r x xs H Q->
  wpAny (model X.prog X.w) X.A (call (.builtin id) (v::us)) (EP X pins σ Q) X.xe s
section
variable{X:Cx}{a b:ao}{ta tb:TE}{pos:Pos}
theorem pZ.or{r r':R2}(h:pZ X r)(h':pZ X r'):pZ X (λx y H Q=>r x y H Q\/r' x y H Q):=by
 intro value slice pins s σ H x y v u Q I rx ry q hs;rcases q with q|q
 exact h value slice pins s σ H x y v u Q I rx ry q hs;exact h' value slice pins s σ H x y v u Q I rx ry q hs
theorem zT{r:R2}(hr:pZ X r)(ha:PE X a ta)(hb:PE X b tb)(hs:GF b):PE X (.Subscript a b pos) (DM r ta tb):=by intro pins s σ H Q I h;exact Subscript_ (vm ha hb I h λv u s2 x y H2 I2 rx ry q=>hr a b pins s2 σ H2 x y v u Q I2 rx ry q (hs _ _))
noncomputable def zU(K:aK):R2:=λx y H Q=>∃p xs i v,x=.ref p/\y=.int i/\cZ K H p xs/\fE xs i=aB v/\Q v H
noncomputable def zV(K:aK):R2:=λx y H Q=>∃p xs i v,x=.ref p/\y=.int i/\cH K H p xs/\fE xs i=aB v/\Q v H
theorem Rt:pZ X (zU X.K):=by
 intro value slice pins s σ H x y v u Q I rx ry h hs;obtain⟨p,xs,i,z,rfl,rfl,hq,he,q⟩:=h;cases rx;obtain⟨t,rfl⟩:=ry;obtain⟨its,r,pl,hz⟩:=I.list hq;obtain⟨j,h1,h2,h3,h4,h5⟩:=Ln he;obtain⟨w,ew,rw'⟩:=r.get h2;have hl:=r.length;have hn:=zL;have fin:EP X pins σ Q w s:=⟨z,H,I,rw',q⟩
 by_cases h0:0<=i;have hj:i.toNat=j:=by rw[C3 h0 h5]at h1;exact lT h1
 exact item_listR pl.isList h0 (by lia) (by rw[hj];simpa using ew) fin hs;have hj:(i+ (its.toArray.size:Int)).toNat=j:=by rw[seqIndex_neg (by lia) h4]at h1;rw[dQ,<-hl];exact lT h1
 exact subscriptTail_builtinR (x:=w) pl.isList.typeIs slot_list_getitem.lookup
  (wpAny_getItem_list_neg (Q:=λr s'=>r=w/\EP X pins σ Q r s') pl.isList (by lia) (by rw[dQ]<;>lia) (by lia) (by rw[hj];simpa using ew) ⟨rfl,fin⟩) hs
theorem Ru:pZ X (zV X.K):=by
 intro value slice pins s σ H x y v u Q I rx ry h hs;obtain⟨p,xs,i,z,rfl,rfl,hq,he,q⟩:=h;cases rx;obtain⟨t,rfl⟩:=ry;obtain⟨its,r,pl,hz⟩:=I.tuple hq;obtain⟨j,h1,h2,h3,h4,h5⟩:=Ln he;obtain⟨w,ew,rw'⟩:=r.get h2;have hl:=r.length;have hn:=zL;have fin:EP X pins σ Q w s:=⟨z,H,I,rw',q⟩
 exact subscriptTail_builtinR (x:=w) pl.typeIs slot_tuple_getitem.lookup
  (getItem_tuple (j:=j) (Q:=λr s'=>r=w/\EP X pins σ Q r s') pl (by lia) (by lia) (by rw[dQ,<-hl];exact h1) (by simpa using ew) ⟨rfl,fin⟩) hs
theorem Rv(its:List aa)(n j:Nat)(u:aa):Obj.mapSeq (·.setIfInBounds j u) {cls:=.type "list",data:=.seq its.toArray n} ={cls:=.type "list",data:=.seq (its.set j u).toArray n}:=by simp[Obj.mapSeq]
theorem Inv.lst{pins:List (ah×Obj)}{σ:St}{H:Hp}{s:af}{p:ah}{xs:List V}(I:Inv X pins σ H s)(h:H p=aB (.lst xs)) :
 ∃(its:List aa) (n:Nat),Vals xs its/\s.heap.get? p=aB {cls:=.type "list",data:=.seq its.toArray n}/\xs.length<=sizeLine:=by
 obtain⟨z,its,n,r,e⟩:=I.hok p _ h;exact⟨its,n,r,e,z⟩
theorem Inv.vz{pins:List (ah×Obj)}{σ:St}{H:Hp}{s:af}{p:ah}{xs ys:List V}{its its':List aa}{n n':Nat}{f:Obj->Obj}(I:Inv X pins σ H s)(h:H p=aB (.lst xs))
 (ho:s.heap.get? p=aB {cls:=.type "list",data:=.seq its.toArray n}) (hf:f {cls:=.type "list",data:=.seq its.toArray n} ={cls:=.type "list",data:=.seq its'.toArray n'}) (r:Vals ys its') (hz:ys.length<=sizeLine) (t:Nat) :
 Inv X pins σ (upd H p (.lst ys)) {s with heap:=s.heap.update p f,toks:=t}:=by
 have e:(s.heap.update p f).get? p=aB {cls:=.type "list",data:=.seq its'.toArray n'}:=by rw[yS f ho (by rw[hf]<;>rfl),hf]
 refine I.write (x:=p) (e:=p) (by rw[h];trivial) (.inl rfl) (λb u hb q=>(Heap.get?_update_other _ _ (eZ hb)).trans q) ⟨_,e⟩ ?_;exact⟨hz,its',n',r,e⟩
noncomputable def zW:V->V->V->Hp->(Hp->Prop)->Prop:=λo i v H Q=>∃p xs k j,o=.ref p/\i=.int k/\H p=aB (.lst xs)/\i8 xs.length k=aB j/\Q (upd H p (.lst (xs.set j v)))
theorem Rw:j7 X zW:=by
 intro pins s σ H o i v ov iv u Q I ro ri rv h;obtain⟨p,xs,k,j,rfl,rfl,hp,hj,q⟩:=h;cases ro;obtain⟨t,rfl⟩:=ri;obtain⟨its,n,r,ho,hz⟩:=I.lst hp;obtain⟨h1,h2,h3,h4⟩:=Lm hj;have hl:=r.length;have hn:=zL;have I':Inv X pins σ (upd H p (.lst (xs.set j v))) {s with heap:=s.heap.update p (Obj.mapSeq (·.setIfInBounds j u))}:=
  I.vz hp ho (Rv its n j u) (r.set rv j) (by rw[uX];exact hz) s.toks
 by_cases h0:0<=k;have hk:k.toNat=j:=by rw[C3 h0 h4]at h1;exact lT h1
 exact PySem.W.ki_setAt ho h0 (by lia) (by rw[dQ,<-hl];exact h4) (by rw[hk];exact⟨_,I',q⟩);have hk:(k+ (its.toArray.size:Int)).toNat=j:=by rw[seqIndex_neg (by lia) h3]at h1;rw[dQ,<-hl];exact lT h1
 exact PySem.W.ki_setBack ho (by lia) (by rw[dQ,<-hl];exact h3) (by lia) (by rw[hk];exact⟨_,I',q⟩)
theorem Rx(lo hi:Option Int)(n:Nat):(sliceBounds lo hi aC n).1=((HT.bT n 0 lo:Nat):Int)/\(sliceBounds lo hi aC n).2.1=((HT.bT n n hi:Nat):Int)/\(sliceBounds lo hi aC n).2.2=1:=by
 refine⟨?_,?_,rfl⟩;cases lo with
 |none=>simp[sliceBounds,HT.bT]
 |some i=>
  simp only[sliceBounds,HT.bT,Option.getD_none,show(1:Int)>0 by decide,cC];by_cases h:i<0;simp only[h,cC]<;>lia;simp only[h,dg]<;>lia
 cases hi with
 |none=>simp[sliceBounds,HT.bT]
 |some i=>
  simp only[sliceBounds,HT.bT,Option.getD_none,show(1:Int)>0 by decide,cC];by_cases h:i<0;simp only[h,cC]<;>lia;simp only[h,dg]<;>lia
theorem Ry(its:List aa)(lo hi:Option Int):slicePick its.toArray lo hi aC=((its.drop (HT.bT its.length 0 lo)).take (HT.bT its.length its.length hi-HT.bT its.length 0 lo)).toArray:=by obtain⟨h1,h2,h3⟩:=Rx lo hi its.toArray.size;unfold slicePick;rw[h1,h2,h3];simp only[sliceRange_one,pick_run,dQ]<;>rfl
noncomputable def zX(K:aK):V->Option Int->Option Int->Hp->VK->Prop:=λx lo hi H Q=>∃a xs,x=.ref a/\cZ K H a xs/\∀p,H p=aC->Q (.ref p) (upd H p (.lst (kc xs lo hi)))
theorem Rz:qZ X (zX X.K):=by intro pins s σ H x v vl vu lo hi sl Q I rx hs pl pu h;obtain⟨a,xs,rfl,hx,q⟩:=h;cases rx;obtain⟨its,r,ht,hz⟩:=I.list hx;have hlen:=r.length;refine⟨"list",_,slot_list_getitem.lookup,ht.isList.typeIs,?_⟩;refine wpAny_getItem_list_slice ht.isList hs pl pu .none (by simp) ?_ (by rw[dQ]<;>lia);rw[Ry,<-hlen];refine⟨.ref s.heap.objs.size,_,I.laid (t':=s.toks) (o:=.lst (kc xs lo hi)) (λb ob q=>cQ _ q) (bg _) ?_,rfl,q _ (I.hok.fresh (bg _))⟩;exact⟨gF (Ll xs lo hi) hz,_,0,(r.drop (HT.bT xs.length 0 lo)).take (HT.bT xs.length xs.length hi-HT.bT xs.length 0 lo),fX _ rfl⟩
theorem RA:cu X (.builtin "len") (λxs H Q=>∃p ys,xs=[.ref p]/\(cZ X.K H p ys\/cH X.K H p ys)/\Q (.int ys.length) H):=by
 intro pins s σ H xs us Q I r h;obtain⟨p,ys,rfl,hq,q⟩:=h;obtain⟨u,rfl,rx⟩:=vals1 r;cases rx;have hn:=zL;rcases hq with hq|hq
 obtain⟨its,r',pl,hz⟩:=I.list hq;have hlen:=r'.length;exact Calls.call_len_list pl.isList (by simp only[dQ]<;>lia) ⟨.int ys.length,H,I.tok _,⟨s.toks+1,by rw[dQ,hlen]⟩,q⟩;obtain⟨its,r',pl,hz⟩:=I.tuple hq;have hlen:=r'.length;exact len_tuple pl (by simp only[dQ]<;>lia) ⟨.int ys.length,H,I.tok _,⟨s.toks+1,by rw[dQ,hlen]⟩,q⟩
theorem cu.or{f:aa}{r r':List V->Hp->VK->Prop}(h:cu X f r)(h':cu X f r'):cu X f (λxs H Q=>r xs H Q\/r' xs H Q):=by
 intro pins s σ H xs us Q I rs q;rcases q with q|q
 exact h pins s σ H xs us Q I rs q;exact h' pins s σ H xs us Q I rs q
theorem RB:cu X (.type "list") (λxs H Q=>∃p ys,xs=[.ref p]/\(cZ X.K H p ys\/cH X.K H p ys)/\∀l,H l=aC->Q (.ref l) (upd H l (.lst ys))):=by
 intro pins s σ H xs us Q I r h;obtain⟨p,ys,rfl,hq,q⟩:=h;obtain⟨u,rfl,rx⟩:=vals1 r;cases rx;have fin:∀(its:List aa),Vals ys its->ys.length<=sizeLine->∀(h':az)(c':Nat),(∀b o',s.heap.get? b=aB o'->h'.get? b=aB o')->
  h'.get? s.heap.objs.size=aB {cls:=.type "list",dict:=aC,data:=.seq its.toArray c',slots:=#[]}->EP X pins σ Q (.ref s.heap.objs.size) {s with heap:=h'}:=λits r' hz h' c' kp e=>
  ⟨.ref s.heap.objs.size,_,I.laid (t':=s.toks) kp (bg _) (show bw X.prog X.w _ h' _ (.lst ys)from⟨hz,its,c',r',e⟩),rfl,q _ (I.hok.fresh (bg _))⟩
 rcases hq with hq|hq;obtain⟨its,r',pl,hz⟩:=I.list hq;have hlen:=r'.length;obtain⟨o,ho,hc,n,hd⟩:=pl.isList;exact call_list_seq p (.inl rfl) ho hc hd (λh' c' kp e=>fin its r' hz h' c' kp e) (by simp only[dQ]<;>lia);obtain⟨its,r',pl,hz⟩:=I.tuple hq;have hlen:=r'.length;obtain⟨o,ho,hc,n,hd⟩:=pl;exact call_list_seq p (.inr rfl) ho hc hd (λh' c' kp e=>fin its r' hz h' c' kp e) (by simp only[dQ]<;>lia)
theorem RC:cu X (.type "tuple") (λxs H Q=>∃p ys,xs=[.ref p]/\((cZ X.K H p ys/\∀l,H l=aC->Q (.ref l) (upd H l (.tup ys)))\/(cH X.K H p ys/\Q (.ref p) H))):=by
 intro pins s σ H xs us Q I r h;obtain⟨p,ys,rfl,h⟩:=h;obtain⟨u,rfl,rx⟩:=vals1 r;cases rx;rcases h with⟨hq,q⟩|⟨hq,q⟩
 obtain⟨its,r',pl,hz⟩:=I.list hq;have hlen:=r'.length;refine call_tuple_list pl.isList (λh' kp=>?_) (by simp only[dQ]<;>lia);have I1:Inv X pins σ H {s with heap:=h'}:=I.kept (t':=s.toks) kp;have I2:Inv X pins σ (upd H h'.objs.size (.tup ys)) {s with heap:=h'.push {cls:=.type "tuple",data:=.seq its.toArray}}:=
  I1.laid (t':=s.toks) (λb o e=>cQ _ e) (bg _) (show bw X.prog X.w _ _ _ (.tup ys)from⟨hz,its,r',kU.new _ _⟩)
 exact⟨.ref h'.objs.size,_,I2,rfl,q _ (I1.hok.fresh (bg _))⟩;obtain⟨its,r',pl,hz⟩:=I.tuple hq;exact call_tuple_same pl ⟨.ref p,H,I,rfl,q⟩
noncomputable def Lp(K:aK)(T:String)(x:V)(H:Hp):Prop:=match x with
 |.str _=>T = "str"
 |.int _=>T = "int"
 |.ref p=>(T = "list"/\∃xs,cZ K H p xs)\/(T = "tuple"/\∃xs,cH K H p xs)\/
  (T = "dict"/\((∃kvs,H p=aB (.dK kvs))\/∃kvs,H p=aB (.dT kvs)))\/(T = "set"/\∃S n,H p=aB (.set S n))
 |_=>False
theorem RD{pins:List (ah×Obj)}{σ:St}{H:Hp}{s:af}{T:String}{x:V}{v:aa}(I:Inv X pins σ H s)(r:RelV x v)(ty:Lp X.K T x H) :
 s.TypeIs v T/\∀a,v=.ref a->∃ob,s.heap.get? a=aB ob/\ob.dict=aC:=by
 cases x with
 |str z=>
  obtain⟨t,rfl⟩:=r;cases(show T = "str"from ty);exact⟨typeIs_str s z t,λ_ e=>nomatch e⟩
 |int i=>
  obtain⟨t,rfl⟩:=r;cases(show T = "int"from ty);exact⟨typeIs_int s i t,λ_ e=>nomatch e⟩
 |ref p=>
  cases r;rcases ty with⟨rfl,xs,hq⟩|⟨rfl,xs,hq⟩|⟨rfl,hk⟩|⟨rfl,S,n,hk⟩
  obtain⟨its,_,pl,_⟩:=I.list hq;refine⟨pl.isList.typeIs,λa e=>?_⟩;cases e;obtain⟨o,n,e,c,hd,_⟩:=pl;exact⟨o,e,hd⟩;obtain⟨its,_,⟨o,h1,h2,_,h3⟩,_⟩:=I.oz hq;refine⟨⟨o,h1,h2⟩,λa e=>?_⟩;cases e;exact⟨o,h1,h3⟩;have z:∃o,s.heap.get? p=aB o/\o.ExactDict:=by rcases hk with⟨kvs,hk⟩|⟨kvs,hk⟩;obtain⟨_,_,_,_,o,_,_,e,ex,_⟩:=I.hok p _ hk;exact⟨o,e,ex⟩;obtain⟨_,_,_,_,o,_,_,e,ex,_⟩:=I.hok p _ hk;exact⟨o,e,ex⟩
  obtain⟨o,e,ex⟩:=z;refine⟨⟨o,e,ex.1⟩,λa e2=>?_⟩;cases e2;exact⟨o,e,ex.2.1⟩;obtain⟨o,_,_,_,e,ex,_⟩:=I.hok p _ hk;refine⟨⟨o,e,ex.1⟩,λa e2=>?_⟩;cases e2;exact⟨o,e,ex.2.1⟩
 |_=>exact False.elim ty
noncomputable def RE(K:aK)(T:String)(r:V->List V->Hp->VK->Prop)(to:TE)(t:TA):TE:=λσ H Q=>to σ H λx H1=>Lp K T x H1/\t σ H1 λxs H2=>r x xs H2 Q
variable{o e:ao}{es:List ao}{to:TE}{t:TA}{name:Str}{apos cpos:Pos}{T id:String}{r:V->List V->Hp->VK->Prop}
theorem tO(pa:PlainAttrs T)(slot:Slot T name id)(hty:typeOf (.builtin id)=pure (.type "method_descriptor"))(hm:Lo X id r)(ho:PE X o to)(ha:PA X (e::es) t)
 (hbase:autoParam (attributeBase o name X.env (eval o X.env)=eval o X.env) L2.aR._auto_1)
 (hfew:autoParam (((backTo cpos (starEach (e::es) X.env)).all (λx=>!x.1)&& (backToKw cpos (keywordEach [] X.env)).all (λx=>x.1.isSome)
   && decide ((e::es).length+ ([]:List Keyword).length+ (if([]:List Keyword).isEmpty then 0 else 1)<30))=true) L2.aR._auto_1)
 (hline:autoParam ((apos.endLine==cpos.line)=true) L2.aR._auto_1) (hs:autoParam (starEach (e::es) X.env=(false,eval e X.env)::starEach es X.env) L2.aR._auto_1) (hplain:autoParam ((backTo cpos (starEach es X.env)).any (·.1)=false) L2.aR._auto_1) :
 PE X (.Call (.Attribute o name apos) (e::es) [] cpos) (RE X.K T r to t):=by
 intro pins s σ H Q I h;refine wpAny_Call_method_late hbase hfew hline rfl (bq (ho pins s σ H _ I h) λv s1 z9=>z9.el λx H1 I1 r1 bW=>?_);obtain⟨ty,q1⟩:=bW;obtain⟨h1,h2⟩:=RD I1 r1 ty;refine⟨T,id,pa,slot,hty,h1,h2,?_⟩;have hA:=ha cpos pins s1 σ H1 _ I1 q1;rw[hs]at hA ⊢;refine Calls.callWith_builtin (by show(false|| (backTo cpos (starEach es X.env)).any (·.1))=false;rw[hplain]<;>rfl) (Calls.evalArgs_plain ?_);exact bq hA λus s2 z9=>z9.el λvs H2 I2 r2 q2=>hm pins s2 σ H2 x vs v us Q I2 r1 r2 q2
/- xs.append(e),list.index on a zY tuple .. are Lo facts of 06m -/
end
noncomputable def GG(X:Cx)(id:String)(r:V->List V->Hp->VK->Prop):Prop:=
 ∀(pins:List (ah×Obj))(s:af)(σ:St)(H:Hp)(x:V)(xs:List V)(v:aa)(us:List aa)(Q:VK),Inv X pins σ H s->RelV x v->Vals xs us->r x xs H Q->
  wpAny (model X.prog X.w) X.A (call (.builtin id) (v::us)) (EP X pins σ Q) X.xe s
theorem Vals.one:∀{x:V} {us:List aa},Vals [x] us->∃u,us=[u]/\RelV x u|_,_,.cons r .nil=>⟨_,rfl,r⟩
theorem Vals.rep{xs:List V}{us:List aa}(h:Vals xs us):∀k:Nat,Vals (bV k xs).flatten (bV k us).flatten
 |0=>.nil
 |k+1=>by
  rw[qA,qA,sU,sU];exact Vals.append h (Vals.rep h k)
theorem Lq(its:List aa):∀(k:Nat) (acc:List aa),
 List.foldl (λx1 x2=>x1++x2) acc.toArray (bV k its.toArray)=(acc++(bV k its).flatten).toArray
 |0,acc=>by simp
 |k+1,acc=>by
  have e:acc.toArray++its.toArray=(acc++its).toArray:=by simp
  have e2:(acc++its)++(bV k its).flatten=acc++(bV (k+1) its).flatten:=by rw[qA,sU,yQ]
  rw[<-e2,<-Lq its k (acc++its),<-e,qA,k8]
section
variable{X:Cx}{pins:List (ah×Obj)}{σ:St}{H:Hp}{s:af}{l b:ah}{xs ys zs:List V}
theorem Inv.vA{its its':List aa}{n:Nat}{f:Array aa->Array aa}{t':Nat}(I:Inv X pins σ H s)(hH:H l=aB (.lst xs))
 (e:s.heap.get? l=aB {cls:=.type "list",data:=.seq its.toArray n}) (hf:f its.toArray=its'.toArray) (hv:Vals ys its') (hz:ys.length<=sizeLine) :
 Inv X pins σ (upd H l (.lst ys)) {s with heap:=s.heap.update l (Obj.mapSeq f),toks:=t'}:=by
 have q:=PySem.IsL.update e f;rw[hf]at q;refine I.write (x:=l) (e:=l) (by rw[hH];exact trivial) (.inl rfl) (λb' u hb hu=>(Heap.get?_update_other s.heap (Obj.mapSeq f) (eZ hb)).trans hu) ⟨_,q⟩ ?_;exact⟨hz,its',_,hv,q⟩
theorem Inv.GH{its:List aa}{t':Nat}(I:Inv X pins σ H s)(hv:Vals ys its)(hz:ys.length<=sizeLine) :
 Inv X pins σ (upd H s.heap.objs.size (.lst ys)) {s with heap:=s.heap.push {cls:=.type "list",data:=.seq its.toArray},toks:=t'}:=
 I.laid (λ_ _ q=>cQ _ q) (bg _) ⟨hz,its,0,hv,fX _ rfl⟩
theorem Inv.fresh(I:Inv X pins σ H s):H s.heap.objs.size=aC:=I.hok.fresh (bg _)
theorem Inv.fk(I:Inv X pins σ H s)(hH:H l=aB (.lst xs)):xs.length<=sizeLine/\∃(its:List aa) (n:Nat),Vals xs its/\xs.length=its.length/\s.heap.get? l=aB {cls:=.type "list",data:=.seq its.toArray n}:=by obtain⟨z,its,n,r,e⟩:=I.hok l _ hH;exact⟨z,its,n,r,r.length,e⟩
theorem Lr{n:Nat}(h:n<=sizeLine):Builtin.List.listTooLong n=false:=by unfold Builtin.List.listTooLong;exact iX (by lia)
end
section
variable{X:Cx}
noncomputable def RG:V->List V->Hp->VK->Prop:=λx vs H Q=>∃l xs y,x=.ref l/\vs=[y]/\H l=aB (.lst xs)/\xs.length<sizeLine/\Q .aQ (upd H l (.lst (xs++[y])))
theorem GI:GG X "list.append" RG:=by intro pins s σ H x vs v us Q I rx rv h;obtain⟨l,xs,y,rfl,rfl,hH,hz,q⟩:=h;cases rx;obtain⟨u,rfl,ru⟩:=rv.one;obtain⟨z,its,n,r,hl,e⟩:=I.fk hH;refine qz F.slot_list_append ⟨_,e,rfl⟩ F.entry_list_append (F.args_list_append_2 _ _) (PySem.list_append l its.toArray n u (by rw[dQ];lia)) ⟨e,?_⟩;refine⟨.aQ,_,I.vA (its':=its++[u]) hH e (by simp) (r.append (.cons ru .nil)) ?_,rfl,q⟩;rw[eY,yN];lia
noncomputable def RH:V->List V->Hp->VK->Prop:=λx vs H Q=>∃l b xs zs,x=.ref l/\vs=[.ref b]/\H l=aB (.lst xs)/\H b=aB (.lst zs)/\xs.length+zs.length<=sizeLine/\Q .aQ (upd H l (.lst (xs++zs)))
theorem zv9:GG X "list.extend" RH:=by
 intro pins s σ H x vs v us Q I rx rv h;obtain⟨l,b,xs,zs,rfl,rfl,hH,hB,hz,q⟩:=h;cases rx;obtain⟨u,rfl,ru⟩:=rv.one;cases ru;obtain⟨z,its,n,r,hl,e⟩:=I.fk hH;obtain⟨z2,its2,n2,r2,hl2,e2⟩:=I.fk hB;have hsz:its.toArray.size+its2.toArray.size<=sizeLine:=by rw[dQ,dQ];lia
 have oE:¬(!its.toArray.isEmpty&&Builtin.List.listTooLong (its.toArray.size+its2.toArray.size))=true:=by rw[Lr hsz,Bool.and_false];exact mQ
 refine qz F.slot_list_extend ⟨_,e,rfl⟩ F.entry_list_extend (F.args_list_extend_2 _ _)
  (AutoSeq1.list_extend_list_list_0 l its.toArray n b its2.toArray n2 oE (by rw[dQ];lia) (by lia)) ⟨e,e2,?_⟩
 refine⟨.aQ,_,I.vA (its':=its++its2) hH e (by simp) (r.append r2) ?_,rfl,q⟩;rw[eY];lia
noncomputable def zZ:R2:=λx y H Q=>∃l b xs zs,x=.ref l/\y=.ref b/\H l=aB (.lst xs)/\H b=aB (.lst zs)/\xs.length+zs.length<=sizeLine/\∀p,H p=aC->Q (.ref p) (upd H p (.lst (xs++zs)))
theorem RI:dD X (binaryOp .Add) zZ:=by
 intro pins s σ H x y v u Q I rx ry h;obtain⟨l,b,xs,zs,rfl,rfl,hH,hB,hz,q⟩:=h;cases rx;cases ry;obtain⟨z,its,n,r,hl,e⟩:=I.fk hH;obtain⟨z2,its2,n2,r2,hl2,e2⟩:=I.fk hB;refine PySem.P.add_list e e2 ?_ (by rw[dQ,dQ];lia);have ea:its.toArray++its2.toArray=(its++its2).toArray:=by simp
 rw[ea];exact⟨.ref _,_,I.GH (t':=s.toks) (r.append r2) (by rw[eY];lia),rfl,q _ I.fresh⟩
theorem Lu{α:Type}(xs:List α)(k:Nat):(bV k xs).flatten.length=k*xs.length:=by
 induction k with|zero=>simp|succ k ih=>rw[qA,sU,eY,ih,Nat.succ_mul,Nat.add_comm]
end
end L2
namespace Lv
open PySem PySem.W PySem.Calls PyProof.Rows
theorem RJ{P:Params}{h:az}:∀(ns:List Int) (vs:List aa),WellAll P h vs (ns.map WData.int)->IntsAre vs ns:=by
 intro ns;induction ns with
 |nil=>
  intro vs w;rw[uZ]at w;cases w;exact .nil
 |cons n ns ih=>
  intro vs w;rw[dH]at w;cases w with
  |cons a b=>
   cases a;exact .cons _ _ (ih _ b)
theorem RK{l:OpenLaw}{n:Nat}(hn:l.most=aB n){P:Params}{h:az}{args:List WData}{vals:List aa}
 (hpre:l.row.toRowW.claim.pre args) (hwl:WellAll P h vals args) :
 ∃a vs ns,vals=[Value.ref a]/\args=[WData.list (ns.map WData.int)]/\h.get? a=aB {cls:=.type "list",data:=.seq vs.toArray}/\IntsAre vs ns/\ns.length<=n:=by
 have hsh:WShape.hasAll [] args [.list .int]=true:=(pre_splitW hpre).1;have hc:l.pre.holds [] {args:=args}=true:=(pre_splitW hpre).2;obtain⟨d,r,rfl,h1,h2⟩:=hasAllW_cons hsh;obtain rfl:=hasAllW_nil h2;obtain⟨xs,rfl,h3⟩:=hasW_list h1;obtain⟨ns,rfl⟩:=items_int h3;have hlen:ns.length<=n:=by
  unfold OpenLaw.pre at hc;have h4:(WTm.not (.lt (.lit (.int (n:Int))) (.len (.arg 0)))).holds [] {args:=[.list (ns.map .int)]}=true:=by have h4:=(holds_andW hc).1;rw[hn]at h4;exact h4
  have h5:=condW_of h4 (w_not (w_lt w_lit (w_len_list (w_arg rfl))));rw[bG]at h5;refine Nat.le_of_not_lt λq=>?_;have q':(n:Int)< ((ns.length:Nat):Int):=by lia
  first
   |(rw[kO q']at h5;exact absurd h5 (by decide))
   |(simp at h5;lia)
 cases hwl with
 |cons w1 w2=>
  cases w2;cases w1 with|list ho hall=>exact⟨_,_,ns,rfl,rfl,ho,RJ ns _ hall,hlen⟩
theorem RL(l:OpenLaw)(args:List WData):l.row.toRowW.claim.post args (.bool true) args=true:=
 postW_of (r:=l.row.toRowW) (X:=(true==true))
  (show WShape.has [] (.bool true) .bool=true by first|rfl|decide|simp[WShape.has,WShape.arms,WShape.armsAll])
  (show(WTm.eq .res (.lit (.bool true))).value [] {args:=args,res:=aB (.bool true),after:=args}=aB (.bool (true==true))from w_eq_bool (w_res rfl) w_lit) rfl
theorem kg{l:OpenLaw}{n:Nat}{q:ai}{loose:List Str}{XP:(Str->Option aa)->az->Prop}{YP:aj->az->Prop}{d:DefRec}
 (hn:l.most=aB n) (hdf:d.params.defaults=[])
 (call:∀(w:aj)(s₀ s₁:af)(mg mb:Str->Option aa)(fa:ah)(o:Obj)(pm cd doc:aa)(a:ah)(vs:List aa)(ns:List Int),
   Ground q loose [] XP w s₀ mg mb s₁.heap->YP w s₁.heap->
   s₁.heap.get? fa=aB o->o.data=.func (docDef d.name d.params d.body d.scope pm cd doc)->s₁.heap.CodeRec cd d.name->mg d.name=aB (.ref fa)->
   s₁.heap.get? a=aB {cls:=.type "list",data:=.seq vs.toArray}->IntsAre vs ns->ns.length<=n->s₁.gens = #[]->
   codeAny (model l.prog w) callerA (.call (.ref fa) ⟨[.ref a],[]⟩) (λr s'=>r=.ok (.ret (.bool true))/\OldK s₁.heap s'.heap/\s'.os=s₁.os/\AllBare s'.gens) s₁) :
 WalkO q loose XP YP l.row.toRowW d [] (λf vs=>PySem.call f vs):=by
 intro w s₀ s₁ mg mb G Y fa o pm cd doc dV kV ho hd hcd hD hmg hg args vals as hpre hlay hrd hwl hlo;obtain rfl:dV=.none:=Dflts.none hD hdf;obtain rfl:kV=.none:=Dflts.noKw hD;obtain⟨a,vs,ns,rfl,rfl,hobj,hints,hlen⟩:=RK hn hpre hwl;refine enter_call (codeAny_mono (call w s₀ s₁ mg mb fa o pm cd doc a vs ns G Y ho (fd_plain hd) hcd hmg hobj hints hlen hg) λr s' hq=>?_);obtain⟨rfl,h2,h3,h4⟩:=hq;exact⟨.inl ⟨.bool true,.bool true,[],rfl,λ_=>rfl,.bool true,RL l _,λ_=>⟨List.Pairwise.nil,λ_ hm=>(nomatch hm)⟩⟩,h2,h3,h4⟩
end Lv
namespace L2
open PySem PySem.Spec PyProof.Rows
theorem Lw:∀{vs:List aa} {ns:List Int},IntsAre vs ns->Vals (ns.map V.int) vs|_,_,.nil=>.nil|_,_,.cons n t h=>.cons ⟨t,rfl⟩ (Lw h)
noncomputable def vB(H:Hp):Prop:=∀b,H b=aC\/∃o xs,H b=aB (.bF o (.lst xs))
theorem RM{P:ai}{w:aj}{K:aK}{mg mb:Str->Option aa}{CX:pX}{k:Nat}{fa a:ah}{fd:au}{x:Str}{sp:Sp}{s₁:af}{vs:List aa}{ns:List Int}
 (KX:K.In s₁.heap) (hns:s₁.heap.Ns mainGlobals mg) (hb:s₁.heap.Ns builtinsNs mb) (GJ:∀x:Str,x≠"__name__"->mb x=bootBuiltins x) (hlim:s₁.heap.NoLimit) (hg:s₁.gens = #[])
 (ha:s₁.heap.get? a=aB {cls:=.type "list",data:=.seq vs.toArray}) (hi:IntsAre vs ns) (hl:ns.length<=sizeLine) (hr:dF k callerA)
 (F:∀base:az,K.In base->base.Ns mainGlobals mg->fK P w K mg base CX k fa fd [x] sp) (hbind:∀(s:af)(u:aa),BindsTo s fd ⟨[u],[]⟩ [(x,u)])
 (pY:∀H:Hp,vB H->cZ K H a (ns.map V.int)->sp [.ref a] H (λv _=>v=.bl true) λ_ _ _=>False)
 (GK:∀H e s',CX [] H s₁ (λ_ _ _=>False) e s'->False) :
 codeAny (model P w) callerA (.call (.ref fa) ⟨[.ref a],[]⟩) (λr s'=>r=.ok (.ret (.bool true))/\OldK s₁.heap s'.heap/\s'.os=s₁.os/\AllBare s'.gens) s₁:=by
 have rv:=Lw hi;have GL:=hi.length;have core:∀H:Hp,vB H->cZ K H a (ns.map V.int)->fj P w H s₁.heap->(∀b,H b≠aC->b=a)->(H a≠aC->K.lookup a=aC)->
  codeAny (model P w) callerA (.call (.ref fa) ⟨[.ref a],[]⟩) (λr s'=>r=.ok (.ret (.bool true))/\OldK s₁.heap s'.heap/\s'.os=s₁.os/\AllBare s'.gens) s₁:=by
  intro H hO hS hok hA hK;have base_of:∀{b:ah}{o:Obj},s₁.heap.get? b=aB o->H b=aC->(jG s₁.heap H).get? b=aB o:=λe n=>PJ e n;have zP:∀{b:ah}{o:Obj}{es:Array DictEntry}{ep:Nat},s₁.heap.get? b=aB o->o.data=.dict es ep->H b=aC:=λ{b o es ep} e d=>by
   cases q:H b with
   |none=>rfl
   |some u=>
    have e':b=a:=hA b (by rw[q];simp);subst e';rw[ha]at e;cases e;have d':Data.seq vs.toArray _=Data.dict es ep:=d;cases d'
  have DP:∀{b:ah}{m:Str->Option aa},s₁.heap.Ns b m->(jG s₁.heap H).Ns b m:=λ{b m}⟨o,es,ep,e,d,r⟩=>⟨o,es,ep,base_of e (zP e d),d,r⟩
  have Lx:K.In (jG s₁.heap H):=λb o e=>base_of (KX b o e) (by
   cases q:H b with
   |none=>rfl
   |some u=>
    have e':b=a:=hA b (by rw[q];simp);subst e';rw[hK (by rw[q];simp)]at e;cases e)
  have hM:Mod K mg (jG s₁.heap H):=⟨Lx,DP hns,⟨mb,DP hb,GJ⟩,let⟨mc,h1,h2⟩:=hlim;⟨mc,DP h1,h2⟩⟩
  have e0:qW P w K mg (jG s₁.heap H) callerA [] s₁ H:=⟨rfl,hM,λb o e=>PK e,Nat.le_of_eq (PF _ _),trivial,λb hb=>absurd (show b∈([]:List ah)from hb) (by simp),hok,.of_eq hg⟩
  refine codeAny_mono ((F _ Lx (DP hns)).run callerA [] s₁ H ⟨[.ref a],[]⟩ [.ref a] [.ref a] _ _ hr e0 (hbind s₁ (.ref a)) (.cons rfl .nil) (pY H hO hS)) λr s' h=>?_;cases r with
  |error e=>exact(GK H e s' h).elim
  |ok fl=>
   cases fl with
   |next=>exact False.elim h
   |brk=>exact False.elim h
   |cont=>exact False.elim h
   |ret u=>
    obtain⟨v,H',os,bare,un,GN,r',q⟩:=h;have q':v=.bl true:=q;subst q';obtain rfl:u=Value.bool true:=r';refine⟨rfl,OldK.of_keep λb o e=>?_,os,bare⟩;cases q:H b with
    |none=>exact un.keep b o e q (by intro z;exact absurd (show b∈([]:List ah)from z) (by simp)) (by simp)
    |some u=>
     rcases hO b with z|⟨ob,xs,z⟩;rw[q]at z;cases z;have z2:=un.iI b ob _ z;obtain⟨e1,_⟩:=hok b _ z;obtain⟨e2,_⟩:=GN b _ z2;rw[e]at e1;cases e1;exact e2
 cases hk:K.lookup a with
 |some o=>
  have e:=KX a o hk;rw[ha]at e;cases e;refine core (λ_=>aC) (λ_=>.inl rfl) (.inr ⟨_,vs.toArray,_,hk,rfl,rfl,rfl,by rw[dQ,GL];exact hl,by simpa using rv⟩) (λb u z=>by have z':(aC:Option HO)=aB u:=z;cases z') (λb z=>absurd rfl z) λz=>absurd rfl z
 |none=>
  refine core (λb=>if b=a then aB (.bF {cls:=.type "list",data:=.seq vs.toArray} (.lst (ns.map V.int)))else aC) (λb=>?_) (.inl (.inr ⟨{cls:=.type "list",data:=.seq vs.toArray},if_pos rfl⟩)) (λb u z=>?_) (λb z=>?_) λ_=>hk;by_cases hb:b=a;exact .inr ⟨_,_,if_pos hb⟩;exact .inl (if_neg hb);by_cases hb:b=a;have z':=(if_pos hb).symm.trans z;cases z';subst hb;exact⟨ha,by rw[bG];exact hl,vs,_,rv,ha⟩;have z':=(if_neg hb).symm.trans z;cases z';by_cases hb:b=a;exact hb;exact absurd (if_neg hb) z
theorem RN{l:PySem.W.OpenLaw}{n k:Nat}{q:ai}{loose:List Str}{XP:(Str->Option aa)->az->Prop}{YP:aj->az->Prop}{d:DefRec}{K:Params->aK}{CX:aj->pX}{sp:aj->Sp}{x:Str}
 (hn:l.most=aB n) (hn2:n<=sizeLine) (hdf:d.params.defaults=[]) (hr:dF k callerA)
 (hY:∀(w:aj)(h:az),YP w h->(K w.params).In h)
 (F:∀(w:aj)(mg:Str->Option aa)(fa:ah)(h:az),(K w.params).In h->h.Ns mainGlobals mg->mg d.name=aB (.ref fa)->
   ∃fd:au,(∀(s:af)(u:aa),BindsTo s fd ⟨[u],[]⟩ [(x,u)])/\
    ∀base:az,(K w.params).In base->base.Ns mainGlobals mg->fK l.prog w (K w.params) mg base (CX w) k fa fd [x] (sp w))
 (pY:∀(w:aj)(H:Hp)(a:ah)(ns:List Int),ns.length<=n->vB H->cZ (K w.params) H a (ns.map V.int)->sp w [.ref a] H (λv _=>v=.bl true) λ_ _ _=>False)
 (GK:∀(w:aj)(H:Hp)(s:af)(e:aa)(s':af),CX w [] H s (λ_ _ _=>False) e s'->False) :
 PySem.W.WalkO q loose XP YP l.row.toRowW d [] (λf vs=>PySem.call f vs):=by
 refine Lv.kg hn hdf λw s₀ s₁ mg mb fa o pm cd doc a vs ns G Y ho hd hcd hmg hobj hints hlen hg=>?_;have KX:=hY w _ Y;obtain⟨fd,hb,hF⟩:=F w mg fa _ KX G.T.g hmg;exact RM KX G.T.g G.T.b G.T.builtins G.T.nolimit hg hobj hints (gF hlen hn2) hr hF hb (λH hO hS=>pY w H a ns hlen hO hS) λH e s'=>GK w H s₁ e s'
noncomputable def RO(s:aq):Arguments:=match s with|.FunctionDef _ a _ _ _ _ _ _ _ _=>a|_=>{posonlyargs:=[],args:=[],vararg:=aC,kwonlyargs:=[],kw_defaults:=[],kwarg:=aC,defaults:=[]}
noncomputable def z0(s:aq):List aq:=match s with|.FunctionDef _ _ b _ _ _ _ _ _ _=>b|_=>[]
noncomputable def jI(s:aq):ay:=match s with|.FunctionDef _ _ _ _ _ _ sc _ _ _=>sc|_=>{kind:=.function,names:=[],isGenerator:=false,isCoroutine:=false}
noncomputable abbrev lY:pX:=λ_ _ _ _ _ _=>False
noncomputable abbrev E0:XK:=λ_ _ _=>False
theorem oF{X:Cx}:DO lY X E0:=λ_ _ _ _ _ _ _ h=>h.elim
theorem Ly{n:Nat}(h:n<=1000):n<sizeLine:=Dg h (by decide)
noncomputable def jJ(cells:List (Str×ah)):List (Str×NameKind)->List (Str×ah)->List (Str×ah)|[],cs=>cs|(n,k)::r,cs=>jJ cells r (if k == .free then(match cells.lookup n with|some c=>(n,c)::cs|none=>cs)else cs)
theorem DQ{scope:ay}{env:Env}(hf:∀y∈scope.names,y.2=.free->∃c,env.cells.lookup y.1=aB c):closureFor scope env=pure (jJ env.cells scope.names []):=by
 have go:∀(l:List (Str×NameKind))(cs:List (Str×ah)),(∀y∈l,y.2=.free->∃c,env.cells.lookup y.1=aB c)->
  (forIn l cs λ(x:Str×NameKind)(r:List (Str×ah))=>(match x with
    |(name,kind)=>if(kind==NameKind.free)=true then(do let a <-cellOf env name;pure (ForInStep.yield ((name,a)::r)))else pure (ForInStep.yield r):Sem (ForInStep (List (Str×ah)))))=(pure (jJ env.cells l cs):Sem (List (Str×ah))):=by
  intro l;induction l with
  |nil=>intro cs _;rfl
  |cons x r ih=>
   intro cs h;obtain⟨n,k⟩:=x;rw[xE];by_cases hk:(k==NameKind.free)=true;have hk':k=.free:=by simpa using hk
   obtain⟨c,hc⟩:=h (n,k) eX hk';have hc':env.cells.lookup n=aB c:=hc;simp only[hk,cC,cellOf,hc',jJ];exact ih _ λy hy=>h y (eW _ hy);have hk':(k==NameKind.free)=false:=by simpa using hk
   simp only[hk',dW,dg,jJ];exact ih _ λy hy=>h y (eW _ hy)
 have e:=go scope.names [] hf;unfold closureFor;refine Eq.trans (lP (λt=>t >>= λcs=>pure cs) e) ?_;rfl
theorem DR{cells:List (Str×ah)}:∀(l:List (Str×NameKind)) (cs:List (Str×ah)),(∀x c,cs.lookup x=aB c->cells.lookup x=aB c)->∀x c,(jJ cells l cs).lookup x=aB c->cells.lookup x=aB c
 |[],cs,h=>h
 |(n,k)::r,cs,h=>DR r _ λx c e=>by
  by_cases hk:(k==NameKind.free)=true;simp only[hk,cC]at e;cases hc:cells.lookup n with
  |none=>rw[hc]at e;exact h x c e
  |some d=>
   rw[hc]at e;simp only[gE]at e;by_cases hx:(x==n)=true;simp only[hx]at e;cases e;rw[show x=n by simpa using hx];exact hc;have hx':(x==n)=false:=by simpa using hx
   simp only[hx']at e;exact h x c e
  have hk':(k==NameKind.free)=false:=by simpa using hk
  simp only[hk',dW,dg]at e;exact h x c e
theorem Lz{cells:List (Str×ah)}{x:Str}{c:ah}(hc:cells.lookup x=aB c):∀(l:List (Str×NameKind)) (cs:List (Str×ah)),cs.lookup x=aB c->(jJ cells l cs).lookup x=aB c
 |[],cs,h=>h
 |(n,k)::r,cs,h=>Lz hc r _ (by
  by_cases hk:(k==NameKind.free)=true;simp only[hk,cC];cases hn:cells.lookup n with
  |none=>exact h
  |some d=>
   simp only[gE];by_cases hx:(x==n)=true;have:x=n:=by simpa using hx
   subst this;rw[hc]at hn;cases hn;simp;have hx':(x==n)=false:=by simpa using hx
   simp only[hx'];exact h
  have hk':(k==NameKind.free)=false:=by simpa using hk
  simp only[hk',dW,dg];exact h)
theorem GO{cells:List (Str×ah)}{x:Str}{c:ah}(hc:cells.lookup x=aB c):∀(l:List (Str×NameKind)) (cs:List (Str×ah)),(x,NameKind.free)∈l->(jJ cells l cs).lookup x=aB c
 |[],cs,h=>by cases h
 |(n,k)::r,cs,h=>by
  rcases fV.mp h with e|e;cases e;refine Lz hc r _ ?_;rw[hc];simp[gE];exact GO hc r _ e
theorem GP{x:Str}:∀(l:List (Str×NameKind)) (a:Nat) (acc:List (Str×ah)),(x,NameKind.cell)∉l->(cellsFrom a l acc).lookup x=acc.lookup x
 |[],_,_,_=>rfl
 |(n,k)::r,a,acc,h=>by
  unfold cellsFrom;have hr:(x,NameKind.cell)∉r:=λz=>h (eW _ z);split;rename_i hk;have hk:k=.cell:=by simpa using hk
  rw[GP r _ _ hr,gE];have:(x==n)=false:=by rw[CS];rintro rfl;exact h (by rw[hk];exact eX)
  rw[this];exact GP r _ _ hr
theorem DS{x:Str}{c:ah}:∀(l:List (Str×NameKind)) (a:Nat) (acc:List (Str×ah)),(cellsFrom a l acc).lookup x=aB c->acc.lookup x=aB c\/a<=c
 |[],_,_,h=>.inl h
 |(n,k)::r,a,acc,h=>by
  unfold cellsFrom at h;split at h;rcases DS r _ _ h with h|h
  rw[gE]at h;split at h;cases h;exact .inr (bg _);exact .inl h;exact .inr (Di h);exact DS r _ _ h
theorem DU{x:Str}:∀(l:List (Str×NameKind)) (a:Nat) (acc:List (Str×ah)),(∃c,acc.lookup x=aB c)->∃c,(cellsFrom a l acc).lookup x=aB c
 |[],_,_,h=>h
 |(n,k)::r,a,acc,h=>by
  unfold cellsFrom;split;refine DU r _ _ ?_;rw[gE];split;exact⟨_,rfl⟩;exact h;exact DU r _ _ h
theorem GQ{x:Str}:∀(l:List (Str×NameKind)) (a:Nat) (acc:List (Str×ah)),(x,NameKind.cell)∈l->∃c,(cellsFrom a l acc).lookup x=aB c
 |[],_,_,h=>by cases h
 |(n,k)::r,a,acc,h=>by
  unfold cellsFrom;rcases fV.mp h with e|e
  cases e;rw[if_pos (by rfl)];exact DU r _ _ ⟨a,by simp[gE]⟩;split;exact GQ r _ _ e;exact GQ r _ _ e
theorem GR{acc:List (Str×ah)}:∀(l:List (Str×NameKind)) (a:Nat) (acc:List (Str×ah)),(∀x y c,acc.lookup x=aB c->acc.lookup y=aB c->x=y)->(∀x c,acc.lookup x=aB c->c<a)->
 ∀x y c,(cellsFrom a l acc).lookup x=aB c->(cellsFrom a l acc).lookup y=aB c->x=y
 |[],_,_,h,_=>h
 |(n,k)::r,a,acc,h,hl=>by
  unfold cellsFrom;split;refine GR (acc:=acc) r _ _ (λx y c e1 e2=>?_) λx c e=>?_;rw[gE]at e1 e2;cases b1:x==n<;>cases b2:y==n<;>simp only[b1,b2]at e1 e2;exact h x y c e1 e2;cases e2;exact absurd (hl x _ e1) (gZ _);cases e1;exact absurd (hl y _ e2) (gZ _);rw[xw.mp b1,xw.mp b2];rw[gE]at e;cases b1:x==n<;>simp only[b1]at e;exact xJ (hl x c e);cases e;exact fY _;exact GR (acc:=acc) r _ _ h hl
theorem GS{x:Str}{c:ah}:∀(l:List (Str×NameKind)) (h:az) (acc:List (Str×ah)),(cellsFrom h.objs.size l acc).lookup x=aB c->h.objs.size<=c->(∀y d,acc.lookup y=aB d->h.objs.size<=d->h.IsCell d aC)->(pushCells h l).IsCell c aC
 |[],h,acc,e,hc,ha=>ha x c e hc
 |(n,k)::r,h,acc,e,hc,ha=>by
  unfold cellsFrom at e;unfold pushCells;split at e;rename_i hk;rw[if_pos hk];by_cases z:h.objs.size+1<=c;refine GS r (h.push {cls:=.type "cell",data:=.cell aC}) ((n,h.objs.size)::acc) (by rw[j5];exact e) (by rw[j5];exact z) λy d e1 e2=>?_;rw[j5]at e2;rw[gE]at e1;cases b1:y==n<;>simp only[b1]at e1;exact(ha y d e1 (Di e2)).keeps λb o q=>cQ _ q;cases e1;exact absurd e2 (Nat.not_succ_le_self _);have hce:c=h.objs.size:=Nat.le_antisymm (Nat.le_of_lt_succ (Nat.lt_of_not_le z)) hc;have:(h.push {cls:=.type "cell",data:=.cell aC}).IsCell c aC:=⟨_,by rw[hce];exact fX _ rfl,rfl⟩
  exact this.keeps λb o q=>pushCells_keeps _ _ b o q;rename_i hk;rw[if_neg hk];exact GS r h acc e hc ha
theorem LA{M:Model}{A:ak}{E:aa->af->Prop}{s:af}{scope:ay}{globals:ah}{cl:List (Str×ah)}{qual:Str}{env:Env}{Q:Env->af->Prop}(hcl:∀x c,cl.lookup x=aB c->c<s.heap.objs.size)
 (hQ:∀h',h'.Ns s.heap.objs.size (λ_=>aC)->(∀b o,s.heap.get? b=aB o->h'.get? b=aB o)->(∀x c,(cellsFrom (s.heap.objs.size+1) scope.names cl).lookup x=aB c->s.heap.objs.size<c->h'.IsCell c aC)->
   Q (newEnv scope s.heap.objs.size globals (cellsFrom (s.heap.objs.size+1) scope.names cl) qual aC .none (aB env) builtinsNs) {s with heap:=h'}) :
 wpAny M A (newFunctionEnv scope globals cl [] qual aC .none (aB env)) Q E s:=by
 simp only[newFunctionEnv,Option.isSome_some,cC];refine aG (wpAny_alloc ?_);refine aG (wpAny_layCells _ (λname kind cells=>by cases hkc:kind==NameKind.cell<;>simp[hkc]) _ _ _ _ ?_);have hz:({s with heap:=s.heap.push {cls:=.type "dict",data:=.dict #[]}}:af).heap.objs.size=s.heap.objs.size+1:=j5 ..;rw[hz];refine aG (aX (aX ?_));refine hQ (pushCells (s.heap.push {cls:=.type "dict",data:=.dict #[]}) scope.names) ((Heap.Ns.new s.heap (.type "dict")).keeps (pushCells_keeps _ _)) (λb o e=>pushCells_keeps _ _ b o (cQ _ e)) λx c e hc=>?_;refine GS scope.names (s.heap.push {cls:=.type "dict",data:=.dict #[]}) cl (by rw[j5];exact e) (by rw[j5];exact hc) λy d e1 e2=>?_;rw[j5]at e2;exact absurd (hcl y d e1) (jF.mpr (Di e2))
theorem LB{cells:List (Str×ah)}{x:Str}:∀(l:List (Str×NameKind)) (cs:List (Str×ah)),(x,NameKind.free)∉l->cs.lookup x=aC->(jJ cells l cs).lookup x=aC
 |[],cs,_,h=>h
 |(n,k)::r,cs,hl,h=>by
  have hr:(x,NameKind.free)∉r:=λz=>hl (eW _ z);refine LB r _ hr ?_;by_cases hk:(k==NameKind.free)=true;simp only[hk,cC];cases cells.lookup n with
  |none=>exact h
  |some d=>
   simp only[gE];have:(x==n)=false:=by rw[CS];rintro rfl;exact hl (by rw[show k=NameKind.free by simpa using hk];exact eX)
   simp only[this];exact h
  have hk':(k==NameKind.free)=false:=by simpa using hk
  simp only[hk',dW,dg];exact h
theorem RP{cells:List (Str×ah)}{x:Str}{c:ah}{l:List (Str×NameKind)}(h:(x,NameKind.free)∉l):¬(jJ cells l []).lookup x=aB c:=λz=>by
 rw[LB l [] h rfl]at z;cases z
noncomputable abbrev Cx.comp(X:Cx)(N:List Str)(scope:ay)(C:ah)(s₀:af)(H₀:Hp)(ex:List ah):Cx:=
 {X with N:=N,s₀:=s₀,H₀:=H₀,env:=compEnvC scope (cellsFrom (C+1) scope.names (jJ X.env.cells scope.names [])) C X.env,outer:=X.stack,stack:=X.stack,ex:=ex,fn:=λx=>scope.names.lookup x==aB .cell,pn:=[],xe:=λ_ _=>False}
structure aY(X:Cx)(ow fr:List Str)(ix:List Nat)(scope:ay):Prop where
 kind:scope.kind=.function
 Aa:∀y∈scope.names,y.2=.cell->scope.names.lookup y.1=aB .cell
 names:∀y∈scope.names,y.2=.local->scope.names.lookup y.1=aB .local
 own:∀x∈ow,scope.names.lookup x=aB .local\/scope.names.lookup x=aB .cell
 Ab:∀y∈scope.names,y.2=.free->scope.names.lookup y.1=aB .free
 free:∀y∈scope.names,y.2=.free->X.env.kindOf y.1=aB .cell\/X.env.kindOf y.1=aB .free
 at_:∀(k:Nat)(x:Str),fr[k]?=aB x->∃j,ix[k]?=aB j/\X.N[j]?=aB x/\scope.names.lookup x=aB .free
 len:ix.length=fr.length
noncomputable def ju(ow fr:List Str)(ix:List Nat)(σ:St):St:=ow.map (λ_=>aC)++ix.map λj=>(σ[j]?).join
theorem LC{x:Str}{k:NameKind}:∀{l:List (Str×NameKind)},l.lookup x=aB k->(x,k)∈l
 |[],h=>by cases h
 |(n,j)::r,h=>by
  simp only[gE]at h;by_cases hx:(x==n)=true;simp only[hx]at h;cases h;rw[show x=n by simpa using hx];exact eX;have hx':(x==n)=false:=by simpa using hx
  simp only[hx']at h;exact eW _ (LC h)
theorem GU{env:Env}:∀{l:List (Str×NameKind)} {x:Str} {k:NameKind},
 (l.map λ(n,k)=>if(k==NameKind.free&&env.scope.kind == .function&&env.kindOf n==aB .cell)then(n,NameKind.cell)else(n,k)).lookup x=aB k->k=.cell\/k=.free->(x,NameKind.free)∈l\/(x,NameKind.cell)∈l
 |[],x,k,h,_=>by cases h
 |(n,j)::r,x,k,h,hh=>by
  have ih:=@GU env r x k;rw[dH]at h;by_cases hc':(j==NameKind.free&&env.scope.kind == .function&&env.kindOf n==aB .cell)=true;simp only[hc',cC,gE]at h;have hj:j=.free:=by simp only[bY,xw]at hc';exact hc'.1.1
  by_cases hx:(x==n)=true;rw[show x=n by simpa using hx,hj];exact .inl eX;have hx':(x==n)=false:=by simpa using hx
  simp only[hx']at h;exact(ih h hh).imp (eW _) (eW _);have hcf:(j==NameKind.free&&env.scope.kind == .function&&env.kindOf n==aB .cell)=false:=by simpa using hc'
  simp only[hcf,dW,dg,gE]at h;by_cases hx:(x==n)=true;simp only[hx]at h;cases h;rcases hh with z|z
  rw[show x=n by simpa using hx,z];exact .inr eX;rw[show x=n by simpa using hx,z];exact .inl eX;have hx':(x==n)=false:=by simpa using hx
  simp only[hx']at h;exact(ih h hh).imp (eW _) (eW _)
theorem DV{env:Env}(hkf:env.scope.kind=.function):∀{l:List (Str×NameKind)} {x:Str},l.lookup x=aB .free->
 (l.map λ(n,k)=>if(k==NameKind.free&&env.scope.kind == .function&&env.kindOf n==aB .cell)then(n,NameKind.cell)else(n,k)).lookup x=aB (if env.kindOf x=aB .cell then .cell else .free)
 |[],x,h=>by cases h
 |(n,j)::r,x,h=>by
  have ih:=@DV env hkf r x;rw[dH];simp only[gE]at h;by_cases hx:(x==n)=true;simp only[hx]at h;cases h;have e:x=n:=by simpa using hx
  subst e;by_cases hq:env.kindOf x=aB .cell;simp[hkf,hq,gE];simp[hq,gE];have hx':(x==n)=false:=by simpa using hx
  simp only[hx']at h;by_cases hc':(j==NameKind.free&&env.scope.kind == .function&&env.kindOf n==aB .cell)=true;simp only[hc',cC,gE,hx'];exact ih h;have hcf:(j==NameKind.free&&env.scope.kind == .function&&env.kindOf n==aB .cell)=false:=by simpa using hc'
  simp only[hcf,dW,dg,gE,hx'];exact ih h
section
variable{X:Cx}{pins:List (ah×Obj)}{σ:St}{H:Hp}{s:af}{ow fr:List Str}{ix:List Nat}{scope:ay}{fp:List ah}
theorem LD(S:aY X ow fr ix scope)(I:Inv X pins σ H s)(hfp:∀b∈fp,dX X pins H b)(hlt:∀b∈fp,b<s.heap.objs.size){h':az}{tk:Nat}{m:Str->Option aa}(hn:h'.Ns s.heap.objs.size m)(hk:∀b o,s.heap.get? b=aB o->h'.get? b=aB o)(hnc:∀x c,(cellsFrom (s.heap.objs.size+1) scope.names (jJ X.env.cells scope.names [])).lookup x=aB c->s.heap.objs.size<c->h'.IsCell c aC) :
 Inv (X.comp (ow++fr) scope s.heap.objs.size s H fp) [] (ju ow fr ix σ) H {s with heap:=h',toks:=tk}:=by
 have sub:=DR (cells:=X.env.cells) scope.names [] (λx c e=>by cases e);have RQ:∀x c,(jJ X.env.cells scope.names []).lookup x=aB c->c<s.heap.objs.size:=λx c e=>by
  obtain⟨v,q⟩:=I.cell x c (sub x c e);exact q.lt
 have two:∀x c,(cellsFrom (s.heap.objs.size+1) scope.names (jJ X.env.cells scope.names [])).lookup x=aB c->X.env.cells.lookup x=aB c\/s.heap.objs.size<c:=λx c e=>(DS _ _ _ e).imp (sub x c) λz=>z;have pass:∀x,(x,NameKind.free)∈scope.names->scope.names.lookup x=aB .free->(cellsFrom (s.heap.objs.size+1) scope.names (jJ X.env.cells scope.names [])).lookup x=(jJ X.env.cells scope.names []).lookup x:=λx hx hl=>GP _ _ _ λz=>by
  have:=S.Aa _ z rfl;rw[hl]at this;cases this
 have kf:=I.ok.kind;have LF:∀x c,X.env.cells.lookup x=aB c->c≠s.heap.objs.size:=λx c e z=>by
  obtain⟨v,q⟩:=I.cell x c e;exact absurd q.lt (by rw[z];exact gZ _)
 have GV:∀x,(x,NameKind.free)∈scope.names->∃c,(jJ X.env.cells scope.names []).lookup x=aB c/\X.env.cells.lookup x=aB c:=λx hx=>by
  obtain⟨c,hc⟩:=I.ok.has x (S.free _ hx rfl);exact⟨c,GO hc _ _ hx,hc⟩
 refine⟨⟨I.ok.mod,?_,I.ok.glob,I.ok.blt,bg _,GR (acc:=[]) _ _ _ (λx y c a b=>I.ok.inj x y c (sub x c a) (sub y c b)) (λx c e=>xJ (RQ x c e)),λx hx=>?_,λx c e1 e2=>?_,I.ok.hd,I.ok.frames,.inl rfl,λb hb=>?_,λb o e=>?_,?_,λb o e hb=>?_,λb hb hz=>?_,I.stack,λb hb=>I.lU b hb⟩,
  rfl,I.bare,Un.kept hk,⟨m,hn,λi x v e1 e2 e3=>?_⟩,λx c e=>?_,I.hok.fresh (bg _),λx c e=>(two x c e).elim (I.fD x c) (λz=>I.hok.fresh (sZ z)),λp hp=>?_,I.hok.kept hk,?_⟩
 exact S.kind;have hx':(relabel scope X.env).names.lookup x=aB .cell\/(relabel scope X.env).names.lookup x=aB .free:=hx;have hm:(x,NameKind.free)∈scope.names\/(x,NameKind.cell)∈scope.names:=by rcases hx' with z|z;exact GU (env:=X.env) z (.inl rfl);exact GU (env:=X.env) z (.inr rfl)
 rcases hm with hm|hm;obtain⟨c,hc,_⟩:=GV x hm;exact DU _ _ _ ⟨c,hc⟩;exact GQ _ _ _ hm;have e1:scope.names.lookup x=aB .cell:=by have e1:(scope.names.lookup x==aB NameKind.cell)=true:=e1;simpa using e1
 rcases DS _ _ _ e2 with z|z;exfalso;have hcl:∃y,X.env.cells.lookup x=aB c:=⟨c,sub x c z⟩
 exact absurd z (by
  intro z;exact RP (λq=>by
   have:=S.Ab _ q rfl;rw[e1]at this;cases this) z)
 exact Di z;obtain⟨f0,f1,f2,f3,f4,f5⟩:=hfp b hb;refine⟨λz=>?_,λx c e=>(two x c e).elim (f4 x c) λz q=>by
  have:=hlt b hb;rw[q]at z;exact Nat.lt_asymm this z⟩
 have q:=hlt b hb;rw[z]at q;exact absurd q (gZ _);exact⟨(I.bs b o e).1,(I.bs b o e).2⟩;exact gF I.ok.vf I.sz;obtain⟨f0,f1,f2,f3,f4,f5⟩:=hfp b hb;rcases f3 with z|z
 exact I.ok.ou b o e z;exact absurd (dI (dB (I.ok.bs b o e).1) z) (gZ _);obtain⟨f0,f1,f2,f3,f4,f5⟩:=hfp b hb;rcases fV.mp (I.lg b hz)with z|z
 exact f1 z;exact f2 z;have hlen:ow.length<=i:=by
  by_cases hi:i<ow.length;unfold ju at e2;rw[pS (by simpa using hi),dG]at e2;cases q:ow[i]? with|none=>rw[q]at e2;cases e2|some y=>rw[q]at e2;cases e2
  lia
 have RS:fr[i-ow.length]?=aB x:=by have e1:(ow++fr)[i]?=aB x:=e1;rw[lR hlen]at e1;exact e1
 have LG:(ix.map λj=>(σ[j]?).join)[i-ow.length]?=aB (aB v):=by unfold ju at e2;rw[lR (by simpa using hlen)]at e2;simpa using e2
 obtain⟨j,hj,hN,hl⟩:=S.at_ _ _ RS;rw[dG,hj]at LG;have oG:(σ[j]?).join=aB v:=lT LG;have hσ:σ[j]?=aB (aB v):=by
  cases q:σ[j]? with
  |none=>rw[q]at oG;cases oG
  |some o=>rw[q]at oG;cases o with
   |none=>cases oG
   |some w=>cases oG;rfl
 obtain⟨m0,hm0,xY⟩:=I.loc;have hmem:=LC hl;have hkf:=S.free _ hmem rfl;have GW:xR X.env.scope x:=hkf.elim (λz=>.inr (.inl z)) λz=>.inr (.inr z);obtain⟨u,ru,lk⟩:=xY j x v hN hσ GW;refine⟨u,ru,.inr ?_⟩;have hcell:∃c,X.env.cells.lookup x=aB c/\s.heap.IsCell c (aB u):=by rcases lk with⟨z,_⟩|⟨_,c,e,z⟩;rcases hkf with q|q;rw[show X.env.kindOf x=aB .local from z]at q;cases q;rw[show X.env.kindOf x=aB .local from z]at q;cases q;exact⟨c,e,z⟩
 obtain⟨c,hc,o,ho,hd⟩:=hcell;refine⟨?_,c,(pass x hmem hl).trans (GO hc _ _ hmem),o,hk _ _ ho,hd⟩;show(relabel scope X.env).names.lookup x=aB .cell\/(relabel scope X.env).names.lookup x=aB .free;have q:=DV (env:=X.env) kf hl;by_cases z:X.env.kindOf x=aB .cell;rw[if_pos z]at q;exact .inl q;rw[if_neg z]at q;exact .inr q;rcases two x c e with z|z;obtain⟨v,q⟩:=I.cell x c z;obtain⟨o,ho,hd⟩:=q;exact⟨v,o,hk _ _ ho,hd⟩;exact⟨aC,hnc x c e z⟩;cases(show p∈([]:List (ah×Obj))from hp);show(ju ow fr ix σ).length=(ow++fr).length;unfold ju;rw[eY,bG,bG,eY,S.len]
end
theorem GX{α:Type}{M:Model}{A:ak}{t:Sem α}{Q:α->af->Prop}{E:aa->af->Prop}{s:af}(h:wpAny M A t Q (λ_ _=>False) s):wpAny M A t Q E s:=gY h (λ_ _ q=>q) λ_ _ z=>z.elim
noncomputable abbrev g9:aa->af->Prop:=λ_ _=>False
noncomputable abbrev xZ(ifs:List ao)(env:Env):Sem Bool:=forIn ifs true λc r=>if r=true then do let ok <-isTrue c env (eval c env);pure (ForInStep.yield ok)else pure (ForInStep.yield r)
theorem RT{prog:ai}{w:aj}{A:ak}{R:Result->af->Prop}{s:af}{elt target iter:ao}{ifs:List ao}{scope:ay}{pos:Pos}{it acc:aa}{env:Env}(I:Nat->af->Prop)
 (turn:∀n s,I n s->wpAny (model prog w) A (pyNext it) (λr s₁=>match r with
   |none=>R (.ok .next) s₁
   |some v=>wpAny (model prog w) A (letOwnedTupleGo target it v) (λ_ s₀=>wpAny (model prog w) A (assign target env v) (λ_ s₂=>
    wpAny (model prog w) A (xZ ifs env) (λok s₃=>
     if ok=true then wpAny (model prog w) A (eval elt env) (λx s₄=>
      wpAny (model prog w) A (call (.builtin "list.append") [acc,x]) (λ_ s₅=>∃m,m<n/\I m s₅) g9 s₄) g9 s₃
     else ∃m,m<n/\I m s₃) g9 s₂) g9 s₀) g9 s₁) g9 s)
 (n:Nat) (h:I n s) :
 codeAny (model prog w) A (.compLoop (.ListComp elt [⟨target,iter,ifs,0⟩] scope pos) 0 it acc env) R s:=by
 refine codeAny_loop rfl I (λn s hI=>?_) n h;show wpAny _ A ((compTurn (.ListComp elt [⟨target,iter,ifs,0⟩] scope pos) 0 it acc env).onRaise (λx=>do noteFrame x env;theTreesLotGoes x)) _ _ s;refine wpAny_noted (GX ?_);rw[compTurn_list];refine aG (mO (aG (gY (turn n s hI) (λr s₁ h₁=>?_) λ_ _ h'=>h')));cases r with
 |none=>exact aX h₁
 |some v=>
  refine aG (gY h₁ (λ_ s₀ h₀=>?_) λ_ _ h'=>h');refine aG (gY h₀ (λ_ s₂ h₂=>aG (gY h₂ (λok s₃ h₃=>?_) λ_ _ h'=>h')) λ_ _ h'=>h');cases ok with
  |true=>
   simp only[cC]at h₃ ⊢;exact aG (aG (gY h₃ (λx s₄ h₄=>aG (gY h₄ (λ_ s₅ h₅=>aX (aX ⟨rfl,h₅⟩)) λ_ _ h'=>h')) λ_ _ h'=>h'))
  |false=>
   simp only[dW,dg]at h₃ ⊢;exact aX ⟨rfl,h₃⟩
noncomputable def iL(X:Cx)(ifs:List ao)(t:TT):Prop:=
 ∀(pins:List (ah×Obj))(s:af)(σ:St)(H:Hp)(Q:Bool->Hp->Prop),Inv X pins σ H s->t σ H Q->wpAny (model X.prog X.w) X.A (xZ ifs X.env) (TP X pins σ Q) X.xe s
noncomputable def GY:TT:=λ_ H Q=>Q true H
theorem RU{X:Cx}:iL X [] GY:=λpins s σ H Q I h=>wpAny_tests_nil ⟨H,I,h⟩
theorem RV{X:Cx}{c:ao}{t:TT}(h:PT X c t):iL X [c] t:=λpins s σ H Q I q=>wpAny_tests_one (h pins s σ H Q I q)
noncomputable def GZ(K:aK)(f:St->St)(wi:TI)(g:TG)(tc:TT)(te:TE):TE:=λσ H Q=>wi σ H λJ H1=>∀D,H1 D=aC->K.lookup D=aC->
 ∃W:Nat->Nat->St->Hp->List V->Prop,(∃m,W 0 m (f σ) (upd H1 D (.lst [])) [])/\∀i m σ' H' ys,W i m σ' H' ys->H' D=aB (.lst ys)/\
  ((J.stop i H'/\Q (.ref D) H')\/(J.go i H'/\∀x H2,J.tK i H' x H2->g x σ' H2 λσ2 H3=>tc σ2 H3 λb H4=>
    if b=true then te σ2 H4 λy H5=>H5 D=aB (.lst ys)/\ys.length<sizeLine/\∃m',m'<m/\W (i+1) m' σ2 (upd H5 D (.lst (ys++[y]))) (ys++[y])
    else ∃m',m'<m/\W (i+1) m' σ2 H4 ys))
section
variable{X:Cx}{ow fr:List Str}{ix:List Nat}{scope:ay}{tg iter elt:ao}{ifs:List ao}{pos:Pos}{wi:TI}{g:TG}{tc:TT}{te:TE}
theorem LH{pins:List (ah×Obj)}{s:af}{σ:St}{Q:VK}{RR:aa->ah->Result->af->Prop}(S:aY X ow fr ix scope)(hc:X.calm=true)
 (hg:∀C s₀ H₀ ex,PG (X.comp (ow++fr) scope C s₀ H₀ ex) tg g) (ht:∀C s₀ H₀ ex,iL (X.comp (ow++fr) scope C s₀ H₀ ex) ifs tc) (he:∀C s₀ H₀ ex,PE (X.comp (ow++fr) scope C s₀ H₀ ex) elt te)
 {itv:aa} {E:aa->af->Prop}
 (h:zx X pins σ tg (λJ H1=>∀D,H1 D=aC->X.K.lookup D=aC->
   ∃W:Nat->Nat->St->Hp->List V->Prop,(∃m,W 0 m (ju ow fr ix σ) (upd H1 D (.lst [])) [])/\∀i m σ' H' ys,W i m σ' H' ys->H' D=aB (.lst ys)/\
    ((J.stop i H'/\Q (.ref D) H')\/(J.go i H'/\∀x H2,J.tK i H' x H2->g x σ' H2 λσ2 H3=>tc σ2 H3 λb H4=>
      if b=true then te σ2 H4 λy H5=>H5 D=aB (.lst ys)/\ys.length<sizeLine/\∃m',m'<m/\W (i+1) m' σ2 (upd H5 D (.lst (ys++[y]))) (ys++[y])
      else ∃m',m'<m/\W (i+1) m' σ2 H4 ys))) itv s)
 (fin:∀D C H' s' m,dX X pins H' C->s'.heap.Ns C m->(∀h'',Heap.SameBut C s'.heap h''->Inv X pins σ H' {s' with heap:=h''})->Q (.ref D) H'->RR (.ref D) C (.ok .next) s') :
 wpAny (model X.prog X.w) X.A (newList []) (λacc s₃=>wpAny (model X.prog X.w) X.A (newFunctionEnv scope X.env.globals (jJ X.env.cells scope.names []) [] X.env.qual aC .none (aB X.env)) (λcenv s₄=>
  codeAny (model X.prog X.w) X.A (.compStart (.ListComp elt [⟨tg,iter,ifs,0⟩] scope pos) 0 itv acc {cenv with scope:=relabel scope X.env}) (RR acc cenv.locals) s₄) E s₃) E s:=by
 obtain⟨it,fp,tn,J,H1,e,I1,T,st1,f1,hq⟩:=h;subst e;have hD:H1 s.heap.objs.size=aC:=I1.hok.fresh (bg _);have G0:X.K.lookup s.heap.objs.size=aC:=by
  cases e:X.K.lookup s.heap.objs.size with|none=>rfl|some o=>exact absurd (dB (I1.jt _ _ e)) (gZ _)
 obtain⟨W,⟨m0,w0⟩,turn⟩:=hq _ hD G0;have I3:Inv X pins σ (upd H1 s.heap.objs.size (.lst [])) {s with heap:=s.heap.push {cls:=.type "list",dict:=aC,data:=.seq ([]:List aa).toArray}}:=
  I1.laid (t':=s.toks) (o:=.lst []) (λb u q=>cQ _ q) (bg _) ⟨kT _,[],0,.nil,fX _ rfl⟩
 have oH:∀b∈fp,b<s.heap.objs.size:=λb hb=>by
  obtain⟨o,ho,_⟩:=T.obj _ _ st1 b hb;exact dB ho
 have f3:∀b∈fp,dX X pins (upd H1 s.heap.objs.size (.lst [])) b:=λb hb=>⟨by rw[b9 (gB (oH b hb))];exact(f1 b hb).1,(f1 b hb).2⟩
 refine kP (LA (λx c e=>(I3.cell x c (DR (cells:=X.env.cells) scope.names [] (λx c e=>by cases e) x c e)).elim λv q=>q.lt) (λh₁ hns hk0 hnc=>?_));dsimp only at hns hk0 hnc ⊢;generalize Ac:({s with heap:=s.heap.push {cls:=.type "list",dict:=aC,data:=.seq ([]:List aa).toArray}}:af)=s3 at I3;have vC:s3.heap=s.heap.push {cls:=.type "list",dict:=aC,data:=.seq ([]:List aa).toArray}:=by rw[<-Ac]
 rw[<-vC]at hns hk0 hnc ⊢;have hk:∀b o,s3.heap.get? b=aB o->h₁.get? b=aB o:=hk0;have vD:∀b∈fp,b<s3.heap.objs.size:=λb hb=>by rw[vC,j5];exact xJ (oH b hb)
 have J3:=LD S I3 f3 vD (tk:=s.toks) hns hk hnc;have st3:tn 0 h₁:=T.keep _ _ _ st1 λb hb o e=>hk b o (by rw[vC];exact cQ _ e);have vE:∀b∈fp,(X.comp (ow++fr) scope s3.heap.objs.size s3 (upd H1 s.heap.objs.size (.lst [])) fp).Ok->∀{H':Hp},H' b=aC->dX (X.comp (ow++fr) scope s3.heap.objs.size s3 (upd H1 s.heap.objs.size (.lst [])) fp) [] H' b:=λb hb ok H' hn=>
  ⟨hn,(ok.xS b hb).1,ok.mS b hb,.inl hb,(ok.xS b hb).2,λp hp=>by cases(show p∈([]:List (ah×Obj))from hp)⟩
 have back:∀{σ':St}{H':Hp}{s':af},Inv (X.comp (ow++fr) scope s3.heap.objs.size s3 (upd H1 s.heap.objs.size (.lst [])) fp) [] σ' H' s'->∀h'',Heap.SameBut s3.heap.objs.size s'.heap h''->Inv X pins σ H' {s' with heap:=h''}:=λ{σ' H' s'} I' h'' hs=>by
  have nS:∀b o,s3.heap.get? b=aB o->b≠s3.heap.objs.size:=λb o e=>gB (dB e);have un:Un (frs X.stack) fp (upd H1 s.heap.objs.size (.lst [])) H' s3.heap h'':=
   ⟨λb o e n hb hx=>(hs.2 b (nS b o e)).trans (I'.base.keep b o e n hb hx),λb o e n hb hx=>by
    obtain⟨sl,q⟩:=I'.base.slot b o e n hb hx;exact⟨sl,(hs.2 b (nS b o e)).trans q⟩,I'.base.free,λb o e hx=>by
    obtain⟨o',q⟩:=I'.base.there b o e hx;exact⟨o',(hs.2 b (nS b o e)).trans q⟩,I'.base.tups,I'.base.iI,I'.base.jc⟩
  have hok:fj X.prog X.w H' h'':=λb ob e=>by
   refine(I'.hok b ob e).stay (λc w' hcc q=>(hs.2 c ?_).trans q) (λ_ q=>q) λ_ _ q=>q;rintro rfl;have hfree:=I'.free;rcases hcc with rfl|hcc
   rw[show H' s3.heap.objs.size=aC from hfree]at e;cases e;rw[show H' s3.heap.objs.size=aC from hfree]at hcc;cases hcc
  have hos:s'.os=s3.os:=I'.os;exact I3.tF (s':={s' with heap:=h''}) (ch:=fp) hos un hok I'.bare λb hb=>by
   obtain⟨_,a1,a2,a3,a4,a5⟩:=f1 b hb;exact⟨a3,a1,a4,a5⟩
 have loop:∀s4:af,Inv (X.comp (ow++fr) scope s3.heap.objs.size s3 (upd H1 s.heap.objs.size (.lst [])) fp) [] (ju ow fr ix σ) (upd H1 s.heap.objs.size (.lst [])) s4->tn 0 s4.heap->
  codeAny (model X.prog X.w) X.A (.compLoop (.ListComp elt [⟨tg,iter,ifs,0⟩] scope pos) 0 (.ref it) (.ref s.heap.objs.size) (X.comp (ow++fr) scope s3.heap.objs.size s3 (upd H1 s.heap.objs.size (.lst [])) fp).env)
   (RR (.ref s.heap.objs.size) s3.heap.objs.size) s4:=by
  intro s4 I4 G1;refine RT (λn s'=>∃i σ' H' ys,Inv (X.comp (ow++fr) scope s3.heap.objs.size s3 (upd H1 s.heap.objs.size (.lst [])) fp) [] σ' H' s'/\tn i s'.heap/\(∀b∈fp,H' b=aC)/\W i n σ' H' ys) ?_ m0 ⟨0,_,_,[],I4,G1,λb hb=>(f3 b hb).1,w0⟩;rintro n s5 ⟨i,kh,H5,ys,I5,mT,qR,w5⟩;obtain⟨hDl,alt⟩:=turn i n kh H5 ys w5;rcases alt with⟨stop,q⟩|⟨go,step⟩
  .refine bq (T.done (X.comp (ow++fr) scope s3.heap.objs.size s3 (upd H1 s.heap.objs.size (.lst [])) fp) rfl rfl rfl hc i [] s5 kh H5 g9 I5 (λb hb=>vE b hb I5.ok (qR b hb)) mT stop) λr s6 bW=>?_
   obtain⟨hr,I6⟩:=bW;subst hr;obtain⟨m6,DW,_⟩:=I6.loc;exact fin _ _ H5 s6 m6 (I3.jH (bg _) I6.free) DW (back I6) q
  refine bq (T.item (X.comp (ow++fr) scope s3.heap.objs.size s3 (upd H1 s.heap.objs.size (.lst [])) fp) rfl rfl rfl hc i [] s5 kh H5 g9 I5 (λb hb=>vE b hb I5.ok (qR b hb)) mT go) λr s6 bW=>?_;obtain⟨u,hr,h6⟩:=bW;subst hr;refine bq h6 λ_ s7 bW=>?_;obtain⟨x,H7,I7,r7,y7,vF,G2⟩:=bW;have G3:=I7.pinned (λb hb=>vE b hb I7.ok (G2 b hb)) (T.obj _ _ vF);have again:∀{ki:St}{H8:Hp}{s8:af}{zs:List V}{m':Nat},Inv (X.comp (ow++fr) scope s3.heap.objs.size s3 (upd H1 s.heap.objs.size (.lst [])) fp) ([]++vj fp s7.heap) ki H8 s8->m'<n->W (i+1) m' ki H8 zs->
   ∃m,m<n/\∃i σ' H' ys,Inv (X.comp (ow++fr) scope s3.heap.objs.size s3 (upd H1 s.heap.objs.size (.lst [])) fp) [] σ' H' s8/\tn i s8.heap/\(∀b∈fp,H' b=aC)/\W i m σ' H' ys:=λ{ki H8 s8 zs m'} I8 hm w8=>by
   refine⟨m',hm,i+1,ki,H8,zs,I8.dR,T.keep _ _ _ vF λb hb o e=>(I8.pin (b,o) (jo _ (jo _ (tL hb e)))).1,λb hb=>?_,w8⟩;obtain⟨o,e,d⟩:=T.obj _ _ vF b hb;exact(I8.pin (b,o) (jo _ (jo _ (tL hb e)))).2.1
  refine bq (hg _ _ _ _ _ s7 kh H7 x u _ G3 r7 (step x H7 y7)) λ_ s8 bW=>?_;obtain⟨ki,H8,I8,q8⟩:=bW;refine bq (ht _ _ _ _ _ s8 ki H8 _ I8 q8) λok s9 z9=>z9.el λH9 I9 q9=>?_;cases ok with
  |false=>
   simp only[dW,dg]at q9 ⊢;obtain⟨m',hm,w9⟩:=q9;exact again I9 hm w9
  |true=>
   simp only[cC]at q9 ⊢;refine bq (he _ _ _ _ _ s9 ki H9 _ I9 q9) λy G4 bW=>?_;obtain⟨vy,G5,G6,ry,G7,hz,m',hm,G8⟩:=bW;refine bq (GI _ G4 ki G5 (.ref s.heap.objs.size) [vy] (.ref s.heap.objs.size) [y] (λv H'=>H'=upd G5 s.heap.objs.size (.lst (ys++[vy]))) G6 rfl (.cons ry .nil) ⟨_,ys,vy,rfl,rfl,G7,hz,rfl⟩) λ_ s11 bW=>?_;obtain⟨v11,H11,RW,_,nT⟩:=bW;subst nT;exact again RW hm G8
 have DY:Inv (X.comp (ow++fr) scope s3.heap.objs.size s3 (upd H1 s.heap.objs.size (.lst [])) fp) [] (ju ow fr ix σ) (upd H1 s.heap.objs.size (.lst [])) {s with heap:=h₁,toks:=s.toks}:=by rw[<-Ac]at J3 ⊢;exact J3
 exact codeAny_compStart_list (loop _ DY st3) (T.self _ 0 _ _ _ st3 (loop _ DY st3))
theorem Ad(S:aY X ow fr ix scope)(hc:X.calm)(hi:PI X tg iter wi)
 (hg:∀C s₀ H₀ ex,PG (X.comp (ow++fr) scope C s₀ H₀ ex) tg g) (ht:∀C s₀ H₀ ex,iL (X.comp (ow++fr) scope C s₀ H₀ ex) ifs tc) (he:∀C s₀ H₀ ex,PE (X.comp (ow++fr) scope C s₀ H₀ ex) elt te)
 (hs:∀x,foldedSetIterable iter X.env x=pure x:=by intro _;rfl):PE X (.ListComp elt [⟨tg,iter,ifs,0⟩] scope pos) (GZ X.K (ju ow fr ix) wi g tc te):=by
 intro pins s σ H Q I h;rw[eval_ListComp];refine CT (use:=aC) rfl hs (DQ λy hy e=>I.ok.has _ (S.free y hy e)) S.kind S.names (bq (hi pins s σ H _ I h) λv s1 h1=>bq h1 λitv s2 h2=>?_);exact LH (RR:=λacc C=>compPost (model X.prog X.w) X.A X.xe aC (EP X pins σ Q) acc C) S hc hg ht he h2 λD C H' s' m _ hn hI q=>⟨m,hn,λh'' ly=>⟨.ref D,H',hI h'' ly,rfl,q⟩⟩
theorem RX{i:Nat}{y:Str}{py spos:Pos}(hN:X.N.Nodup)(G9:X.N[i]?=aB y)(hy:Loc X.env.scope y)(S:aY X ow fr ix scope)(hc:X.calm)(hi:PI X tg iter wi)
 (hg:∀C s₀ H₀ ex,PG (X.comp (ow++fr) scope C s₀ H₀ ex) tg g) (ht:∀C s₀ H₀ ex,iL (X.comp (ow++fr) scope C s₀ H₀ ex) ifs tc) (he:∀C s₀ H₀ ex,PE (X.comp (ow++fr) scope C s₀ H₀ ex) elt te)
 (hsw:autoParam (swapsWith (.ListComp elt [⟨tg,iter,ifs,0⟩] scope pos) (aB (.Name y py)) spos.line X.env=pure true) L2.aR._auto_1)
 (hf:autoParam (X.fn y=true\/X.env.scope.names.lookup y=aB .local) L2.aF._auto_1)
 (hs:∀x,foldedSetIterable iter X.env x=pure x:=by intro _;rfl):PS X (.Assign [.Name y py] (.ListComp elt [⟨tg,iter,ifs,0⟩] scope pos) spos) (qQ (GZ X.K (ju ow fr ix) wi g tc te) (iK i)):=by
 intro pins s σ H D I h;rw[exec_Assign_Name_used _ _ _ _ hsw];refine aG (mO (aG ?_));show wpAny _ X.A (do let _ <-comprehension (.ListComp elt [⟨tg,iter,ifs,0⟩] scope pos) scope X.env _ (newList []) false (eval iter X.env) (aB (assign (.Name y py) X.env))) _ _ s;refine aG (gY (CT (use:=aB (assign (.Name y py) X.env)) (Q:=λ_ s'=>SP X pins D .next s') rfl hs (DQ λy hy e=>I.ok.has _ (S.free y hy e)) S.kind S.names
  (bq (hi pins s σ H _ I h) λv s1 h1=>bq h1 λitv s2 h2=>?_)) (λ_ s' hq=>aX (aX hq)) λ_ _ e=>e)
 refine LH (Q:=λx H1=>iK i x σ H1 D.nx) (RR:=λacc C=>compPost (model X.prog X.w) X.A X.xe (aB (assign (.Name y py) X.env)) (λ_ s'=>SP X pins D .next s') acc C) S hc hg ht he h2 λd C H' s' m hC hn hI q=>?_;show wpAny _ X.A (assign (.Name y py) X.env (.ref d)) _ _ _;have I':Inv X pins σ H' s':=by have z:=hI s'.heap (.refl ..);exact z
 refine wpAny_assign_Name (F4 I' hN G9 hy (v:=.ref d) rfl (λs'' Hf ⟨a,Hg,ha⟩=>?_) hf);obtain⟨c0,c1,c2,c3,c4,c5⟩:=hC;have Hh:C≠a:=by rcases ha with rfl|ha;exact c1;exact λz=>c4 _ _ ha z.symm
 refine⟨m,hn.sameBut Hg Hh,λh'' ly=>⟨_,H',Hf.turned (t':=s''.toks) (it:=C) (λb o hb e=>(ly.2 b hb).trans e) c0 c1 c3 c4 c5,q⟩⟩
end
end L2
set_option maxHeartbeats 4000000
namespace L2
open PySem PySem.Spec PyProof.Rows
mutual
inductive Rp(K:aK)(M:ah->Prop)(H:Hp):V->aA->Prop
 |aQ:Rp K M H .aQ .none
 |bl (b:Bool):Rp K M H (.bl b) (.bool b)
 |int (i:Int):Rp K M H (.int i) (.int i)
 |str (x:Str):Rp K M H (.str x) (.str x)
 |tup {a:ah} {xs:List V} {ds:List aA}:cH K H a xs->¬M a->mX K M H xs ds->Rp K M H (.ref a) (.tuple ds)
 |lst {a:ah} {xs:List V} {ds:List aA}:cZ K H a xs->¬M a->mX K M H xs ds->Rp K M H (.ref a) (.list ds)
inductive mX(K:aK)(M:ah->Prop)(H:Hp):List V->List aA->Prop
 |nil:mX K M H [] []
 |cons {x:V} {d:aA} {xs:List V} {ds:List aA}:Rp K M H x d->mX K M H xs ds->mX K M H (x::xs) (d::ds)
end
section
variable{X:Cx}{pins:List (ah×Obj)}{σ:St}{H:Hp}{s:af}{M:ah->Prop}
mutual
theorem Rp.reads(I:Inv X pins σ H s):∀{x:V} {d:aA} {u:aa},Rp X.K M H x d->RelV x u->∃as,Reads s.heap u d as
 |_,_,_,.aQ,r=>by cases r;exact⟨_,.none⟩
 |_,_,_,.bl b,r=>by cases r;exact⟨_,.bool b⟩
 |_,_,_,.int i,r=>by obtain⟨t,rfl⟩:=r;exact⟨_,.int i t⟩
 |_,_,_,.str x,r=>by obtain⟨t,rfl⟩:=r;exact⟨_,.str x t⟩
 |_,_,_,.tup h n rr,r=>by
  cases r;obtain⟨its,rv,p,_⟩:=I.tuple h;obtain⟨o,ho,hc,m,hd⟩:=p;obtain⟨as,ra⟩:=mX.reads I rr rv;exact⟨_,.tuple ho hc hd (by simpa using ra)⟩
 |_,_,_,.lst h n rr,r=>by
  cases r;obtain⟨its,rv,p,_⟩:=I.list h;obtain⟨o,m,ho,hc,_,hd⟩:=p;obtain⟨as,ra⟩:=mX.reads I rr rv;exact⟨_,.list ho hc hd (by simpa using ra)⟩
theorem mX.reads(I:Inv X pins σ H s):∀{xs:List V} {ds:List aA} {us:List aa},mX X.K M H xs ds->Vals xs us->∃as,ReadsAll s.heap us ds as
 |_,_,_,.nil,.nil=>⟨_,.nil⟩
 |_,_,_,.cons r t,.cons q v=>by
  obtain⟨as,h1⟩:=Rp.reads I r q;obtain⟨bs,h2⟩:=mX.reads I t v;exact⟨_,.cons h1 h2⟩
end
noncomputable def Ae(K:aK):R2:=λx y H Q=>∃d e,Rp K (λ_=>False) H x d/\Rp K (λ_=>False) H y e/\SeqAt.shaped d=true/\SeqAt.shaped e=true/\Q (.bl (PyData.eqv d e)) H
noncomputable def Af(K:aK):R2:=λx y H Q=>∃d e,Rp K (λ_=>False) H x d/\Rp K (λ_=>False) H y e/\SeqAt.shaped d=true/\SeqAt.shaped e=true/\Q (.bl (!PyData.eqv d e)) H
theorem RY(hu:X.A.units+64<cLine):dD X (compareOp .Eq) (Ae X.K):=by intro pins s σ H x y v u Q I rx ry h;obtain⟨d,e,r1,r2,s1,s2,q⟩:=h;obtain⟨as,ra⟩:=r1.reads I rx;obtain⟨bs,rb⟩:=r2.reads I ry;exact PyProof.Rows.eq_dataH ra rb s1 s2 hu ⟨.bl _,H,I,rfl,q⟩
theorem RZ(hu:X.A.units+64<cLine):dD X (compareOp .NotEq) (Af X.K):=by intro pins s σ H x y v u Q I rx ry h;obtain⟨d,e,r1,r2,s1,s2,q⟩:=h;obtain⟨as,ra⟩:=r1.reads I rx;obtain⟨bs,rb⟩:=r2.reads I ry;exact PyProof.Rows.ne_dataH ra rb s1 s2 hu ⟨.bl _,H,I,rfl,q⟩
end
section
variable{prog:ai}{w:aj}{A:ak}{E:aa->af->Prop}{s:af}
theorem LI{I t:ah}{k:Nat}{its:Array aa}{y:aa}{Q:aa->af->Prop}(hi:s.heap.IsTupleIter I t k)(ht:s.heap.IsTuple t its)(hy:its[k]?=aB y)
 (q:∀g,g.IsTupleIter I t (k+1)->Heap.SameBut I s.heap g->Q y {s with heap:=g}):wpAny (model prog w) A (Builtin.SmallTypes.nextOf (.ref I)) Q E s:=by
 obtain⟨oi,e1,e2,e3⟩:=id hi;obtain⟨ot,e4,_,kt,e5⟩:=ht;unfold Builtin.SmallTypes.nextOf;refine aG (pP (name:=Str.ofString "__next__") hi.typeIs Dv (lQ Dv hi.typeIs F.entry_tuple_iterator_next ?_ (F.args_tuple_iterator_next_1 _)));show wpAny _ _ (field (.ref I) 0 >>= _) _ _ s;refine aG (jn e1 e3 (x:=.ref t) rfl ?_);show wpAny _ _ (if(Value.ref t==Value.none)=true then _ else _) _ _ s;rw[if_neg (show ¬((Value.ref t==Value.none)=true)from λz=>nomatch z)];show wpAny _ _ (field (.ref I) 1 >>= _) _ _ s;refine aG (jn e1 e3 (x:=.int k 0) rfl ?_);show wpAny _ _ (seqItems? (.ref t) >>= _) _ _ s;refine aG (pR e4 e5 ?_);simp only[pV,hy];refine aG (uS e1 e3 (by simp) (aX ⟨y,rfl,aX (q _ ?_ (tw ..))⟩));refine⟨_,yS _ e1 (Du (tB e3 _)),(Obj.cls_mapFields ..).trans e2,?_⟩;rw[tB e3];simp[rawInt]
theorem Hi{I t:ah}{k:Nat}{its:Array aa}{Q:aa->af->Prop}(hA:A.handled=aC)(hi:s.heap.IsTupleIter I t k)(ht:s.heap.IsTuple t its)(hy:its[k]?=aC)
 (q:∀g e,Heap.ExtBut I s.heap g->(∃o,g.get? e=aB o/\o.cls=.type "StopIteration")->E (.ref e) {s with heap:=g}):wpAny (model prog w) A (Builtin.SmallTypes.nextOf (.ref I)) Q E s:=by
 obtain⟨oi,e1,e2,e3⟩:=id hi;obtain⟨ot,e4,_,kt,e5⟩:=ht;unfold Builtin.SmallTypes.nextOf;refine aG (pP (name:=Str.ofString "__next__") hi.typeIs Dv (lQ Dv hi.typeIs F.entry_tuple_iterator_next ?_ (F.args_tuple_iterator_next_1 _)));show wpAny _ _ (field (.ref I) 0 >>= _) _ _ s;refine aG (jn e1 e3 (x:=.ref t) rfl ?_);show wpAny _ _ (if(Value.ref t==Value.none)=true then _ else _) _ _ s;rw[if_neg (show ¬((Value.ref t==Value.none)=true)from λz=>nomatch z)];show wpAny _ _ (field (.ref I) 1 >>= _) _ _ s;refine aG (jn e1 e3 (x:=.int k 0) rfl ?_);show wpAny _ _ (seqItems? (.ref t) >>= _) _ _ s;refine aG (pR e4 e5 ?_);simp only[pV,hy];refine aG (nL (aG (uS e1 e3 (by simp) ?_)));show wpAny _ _ (newExc (.type "StopIteration") [] >>= _) _ _ _;refine aG ?_;simp only[newExc,newTuple];refine aG (kP ?_ (by size_fits));refine aG (m:=firstArgMember _ _) (n6 (a:=Value.none) (by first|rfl|(simp only[firstArgMember];rfl)) ?_);refine kP ?_ (by size_fits);simp only[raiseNew];refine aG (wpAny_handled ?_);first|rw[show A.in1.handled=aC from hA]|rw[hA]
 refine aG (aX (wpAny_throw ?_));exact q _ _ (((tw ..).extBut.push _).push _) ⟨_,fX _ rfl,rfl⟩
end
theorem LJ{h h':az}{a:ah}{its:Array aa}(x:h.IsTuple a its)(e:∀o,h.get? a=aB o->h'.get? a=aB o):h'.IsTuple a its:=let⟨o,ho,r⟩:=x;⟨o,e _ ho,r⟩
theorem R0{prog:ai}{w:aj}{A:ak}(hA:A.handled=aC)(I t:ah)(hne:t≠I)(its:Array aa) :
 Draws prog w A I [I,t] its.size (λi v=>its[i]?=aB v) (λi h=>h.IsTupleIter I t i/\h.IsTuple t its)where
 live:=λ_ _ st=>let⟨o,ho,_⟩:=st.1;⟨o,ho⟩
 frame:=λ_ _ _ st hk=>⟨st.1.at λo e=>hk I (by simp) o e,LJ st.2 λo e=>hk t (by simp) o e⟩
 item:=λi s Q E hi st q=>LI st.1 st.2 (y:=its[i]) (by simp[hi]) λg a b=>q _ g s.toks (by simp[hi]) ⟨a,st.2.extBut b.extBut hne⟩ b
 done:=λs Q E st q=>Hi hA st.1 st.2 (by simp) q
theorem R1(l:ah)(its:Array aa)(n:Nat)(dc:Option ah)(sl:Array (Option aa)) :
 Meets (Builtin.«enumerate.__new__» ⟨[.type "enumerate",.ref l],[]⟩) (λ_ R s=>s.heap.get? l=aB {cls:=.type "tuple",dict:=dc,data:=.seq its n,slots:=sl}/\
  R (.ok (.ret (.ref (s.heap.push {cls:=.type "tuple_iterator",data:=.fields #[.ref l,.int 0 0]}).objs.size)))
   {s with heap:=(s.heap.push {cls:=.type "tuple_iterator",data:=.fields #[.ref l,.int 0 0]}).push {cls:=.type "enumerate",data:=.fields #[.none,.bool false,.ref s.heap.objs.size,rawInt 0,.none,.none]}}):=
 .of_wp λprog w A R s h=>by
  obtain⟨hp,g,d,tk,os⟩:=s;obtain⟨e,h⟩:=h;have hsub:=sub_enumerate;have hT:Heap.IsTuple (Shared.heap ⟨hp,g,d,tk,os⟩) l its:=⟨_,e,rfl,n,rfl⟩
  wp_walk using oq e;refine wpAny_stack_any λst=>aX ?_;split;rename_i c _ _ _ _ _;cases(c==Value.type "enumerate")<;> (wp_walk using oq e,uP hT;exact⟨_,rfl,h⟩)
  .wp_walk using oq e,uP hT
   exact⟨_,rfl,h⟩
theorem R3{prog:ai}{w:aj}{A:ak}{E:aa->af->Prop}{s:af}{l:ah}{its:Array aa}{Q:aa->af->Prop}(hL:s.heap.IsTuple l its)
 (h:∀g,IsEnum g (s.heap.objs.size+1) s.heap.objs.size 0 .none->g.IsTupleIter s.heap.objs.size l 0->g.objs.size=s.heap.objs.size+2->(∀b o,s.heap.get? b=aB o->g.get? b=aB o)->Q (.ref (s.heap.objs.size+1)) {s with heap:=g}) :
 wpAny (model prog w) A (call (.type "enumerate") [.ref l]) Q E s:=by
 obtain⟨⟨c,dc,dt,sl⟩,e1,e2,n,e3⟩:=hL
 replace e2:c=.type "tuple":=e2
 replace e3:dt=.seq its n:=e3;subst e2 e3;refine C1 F.called_enumerate (by decide) (F.typeCall_enumerate_1 _) (F.newCall_enumerate_1 _) (λobj=>F.args_object_init_2 obj _) F.entry_enumerate_new (R1 l its n dc sl) ⟨e1,?_⟩;have hz:(s.heap.push {cls:=.type "tuple_iterator",data:=.fields #[.ref l,.int 0 0]}).objs.size=s.heap.objs.size+1:=j5 ..;show _/\_;rw[hz];have he:IsEnum ((s.heap.push {cls:=.type "tuple_iterator",data:=.fields #[.ref l,.int 0 0]}).push {cls:=.type "enumerate",data:=.fields #[.none,.bool false,.ref s.heap.objs.size,rawInt 0,.none,.none]}) (s.heap.objs.size+1) s.heap.objs.size 0 .none:=by rw[<-hz];exact fX _ rfl
 exact⟨⟨_,he,rfl⟩,h _ he ⟨_,cQ _ (fX _ rfl),rfl,rfl⟩ (by rw[j5,hz]) λb o x=>cQ _ (cQ _ x)⟩
noncomputable def vG(K:aK)(a:ah):It:=
 ⟨λi H=>∃xs x,cH K H a xs/\xs[i]?=aB x,λi H x H'=>∃T v,x=.ref T/\H T=aC/\H'=upd H T (.tup [.int i,v])/\∀xs,cH K H a xs->xs[i]?=aB v,λi H=>∃xs,cH K H a xs/\xs.length<=i⟩
theorem R4{P:ai}{w:aj}{K:aK}{elts:List ao}{kx:Nat}{tp:Pos}(a e it:ah)(hei:e≠it)(R5:a≠e)(hai:a≠it) :
 Turn P w K (.Tuple elts kx tp) (vG K a) [e,it] e (λi h=>(∃old,IsEnum h e it i old)/\h.IsTupleIter it a i)where
 mem:=by simp
 obj:=λi h st b hb=>by
  obtain⟨⟨old,he⟩,o,ho,hc,hd⟩:=st;rcases fV.mp hb with rfl|hb;exact⟨_,he,λv z=>by
   have z':Data.fields _=Data.cell v:=z;cases z'⟩
  have e':b=it:=by simpa using hb
  subst e';exact⟨o,ho,λv z=>by rw[hd]at z;cases z⟩
 keep:=λi h h' st k=>by
  obtain⟨⟨old,he⟩,st⟩:=st;exact⟨⟨old,k e (by simp) _ he⟩,st.at λo q=>k it (by simp) o q⟩
 item:=by
  intro X hP hw hK hc i pins s σ H E I hf st hg;subst hP hw hK;obtain⟨xs,x,hq,hx⟩:=hg;obtain⟨⟨old,he⟩,st⟩:=st;obtain⟨its,rv,p,hz⟩:=I.tuple hq;obtain⟨u,hu,ru⟩:=rv.get hx;have hd:X.A.in1.handled=aC:=I.ok.hd hc;have p:s.heap.IsTuple a its.toArray:=p;refine wpAny_pyNext_enum_itemD (R0 hd it a hai its.toArray) he ⟨st,p⟩ (by
   have:i<its.length:=by rw[<-rv.length];exact(gA.mp hx).1
   simpa using this) hei (by simp[hei,eZ R5]) λx' h1 tk hx' ho hit hT hsz hk=>?_
  obtain rfl:u=x':=by
   have:its[i]?=aB x':=by simpa using hx'
   rw[hu]at this;cases this;rfl
  refine⟨_,rfl,wpAny_letOwnedTupleGo_enum ho λh2 Hj hs2=>?_⟩;have lZ:H s.heap.objs.size=aC:=I.hok.fresh (bg _);have LK:s.heap.objs.size≠e:=tu (dB he);have R6:s.heap.objs.size≠it:=by obtain⟨o,q,_⟩:=st;exact tu (dB q)
  have hs2:Heap.SameBut e h1 h2:=hs2;have kk:∀b o,b≠e->b≠it->s.heap.get? b=aB o->h2.get? b=aB o:=λb o h1 h2 q=>(hs2.2 b h1).trans (hk b o h1 h2 q);have f0:=λb hb=>(hf b hb).1;have nE:∀b o,H b=aB o->b≠e/\b≠it:=λb o q=>⟨λz=>(by rw[z,f0 e (by simp)]at q;cases q),λz=>(by rw[z,f0 it (by simp)]at q;cases q)⟩
  have hT2:h2.get? s.heap.objs.size=aB {cls:=.type "tuple",data:=.seq #[.int i tk,u]}:=(hs2.2 _ LK).trans hT;have I2:Inv X pins σ (upd H s.heap.objs.size (.tup [.int i,x])) {s with heap:=h2,gens:=s.gens,drawn:=s.drawn,toks:=tk+1}:=by
   refine I.step (ch:=[e,it]) (λb hb=>?_) (λb o _ _ hc e1 _=>kk b o (λz=>hc (by simp[z])) (λz=>hc (by simp[z])) e1) (λb o _ _ hc e1 _=>⟨o.slots,kk b o (λz=>hc (by simp[z])) (λz=>hc (by simp[z])) e1⟩)
    (λb o hc e1 n=>by rw[b9 (gB (dB e1))];exact n) (λb o hc e1=>⟨o,kk b o (λz=>hc (by simp[z])) (λz=>hc (by simp[z])) e1⟩)
    (λb ys q=>by rw[b9 (iD q lZ)];exact q) (λb o u q=>by rw[b9 (iD q lZ)];exact q) (λb ps q=>⟨#[],by rw[b9 (iD q lZ),q];simp⟩) (λm hm=>?_) (λb ob q=>?_) I.bare
   obtain⟨_,a1,a2,a3,a4,a5⟩:=hf b hb;exact⟨a3,a1,a4,a5⟩;obtain⟨o,es,ep,ho',r⟩:=hm;exact⟨o,es,ep,kk _ o (eZ (hf e (by simp)).2.1) (eZ (hf it (by simp)).2.1) ho',r⟩;by_cases hb:b=s.heap.objs.size;subst hb;rw[eS]at q;cases q;exact⟨by show 2<=sizeLine;decide,[.int i tk,u],.cons ⟨_,rfl⟩ (.cons ru .nil),⟨_,hT2,rfl,⟨_,rfl⟩,rfl⟩⟩;rw[b9 hb]at q;refine(I.hok b ob q).stay (λc v hc z=>kk c v ?_ ?_ z) (λc z=>by rw[b9 (iD z lZ)];exact z) λc ys z=>by rw[b9 (iD z lZ)];exact z
   rcases hc with rfl|hc;exact(nE c ob q).1;exact(nE c _ hc).1;rcases hc with rfl|hc;exact(nE c ob q).2;exact(nE c _ hc).2
  refine⟨.ref s.heap.objs.size,_,I2,rfl,⟨_,x,rfl,lZ,rfl,λys hy=>by rw[I.eT hy hq];exact hx⟩,⟨⟨u,by simpa using Hj⟩,hit.1.at λo q=>(hs2.2 it (eZ hei)).trans q⟩,λb hb=>?_⟩;rw[b9 ?_];exact f0 b hb;rcases fV.mp hb with rfl|hb
  exact eZ LK;have e':b=it:=by simpa using hb
  subst e';exact eZ R6
 done:=by
  intro X hP hw hK hc i pins s σ H E I hf st hg;subst hP hw hK;obtain⟨xs,hq,hx⟩:=hg;obtain⟨⟨old,he⟩,st⟩:=st;obtain⟨its,rv,p,hz⟩:=I.tuple hq;obtain⟨f0,f1,f2,f3,f4,f5⟩:=hf it (by simp);have hl:=rv.length;have hd:X.A.in1.handled=aC:=I.ok.hd hc;have p:s.heap.IsTuple a its.toArray:=p;refine PySem.wpAny_pyNext_enum_endD (n:=0) (P:=λ_ _=>True) (St:=λ_ h=>h.IsTupleIter it a i/\h.IsTuple a its.toArray) (fp:=[it,a]) ⟨?_,?_,?_,?_⟩ he ⟨st,p⟩ λh' eb=>⟨rfl,I.turned (t':=s.toks) (λb o hb q=>eb b o hb q) f0 f1 f3 f4 f5⟩
  exact λ_ _ st=>let⟨o,ho,_⟩:=st.1;⟨o,ho⟩;exact λ_ _ _ st hk=>⟨st.1.at λo e=>hk it (by simp) o e,LJ st.2 λo e=>hk a (by simp) o e⟩
  exact λj s' Q' E' hj=>absurd hj (yU _);exact λs' Q' E' st' q'=>Hi hd st'.1 st'.2 (by simp;lia) q'
 self:=λ_ _ _ _ _ st h=>by
  obtain⟨⟨old,he⟩,_⟩:=st;exact wpAny_pyIter_enum he h
section
variable{κ:Type}[DecidableEq κ]
noncomputable def fm(kvs:List (κ×V))(k:κ):Option V:=(kvs.find? λkv=>decide (kv.1=k)).map (·.2)
noncomputable def putK(kvs:List (κ×V))(k:κ)(v:V):List (κ×V):=
 if(kvs.any λkv=>decide (kv.1=k))=true then kvs.map (λkv=>if kv.1=k then(kv.1,v)else kv)else kvs++[(k,v)]
theorem DZ{p:κ×V}{r:List (κ×V)}{k:κ}(e:p.1=k):fm (p::r) k=aB p.2:=by simp[fm,j0,e]
theorem Ag{p:κ×V}{r:List (κ×V)}{k:κ}(e:¬p.1=k):fm (p::r) k=fm r k:=by simp[fm,j0,e]
theorem LM(k:κ):∀kvs:List (κ×V),(kvs.any λkv=>decide (kv.1=k))=(fm kvs k).isSome
 |[]=>rfl
 |p::r=>by
  rw[xH];by_cases e:p.1=k;simp only[DZ e,kO e,Bool.true_or,Option.isSome_some];rw[Ag e,iX e,Bool.false_or];exact LM k r
theorem D8(kvs:List (κ×V))(k:κ)(v:V):(putK kvs k v).length<=kvs.length+1:=by unfold putK;split;rw[bG];lia;rw[eY,cY,yR];lia
theorem gG.mY{o:Option V}{u:Option aa}(r:gG o u):o.isSome=u.isSome:=by
 cases o with
 |none=>cases u with
  |none=>rfl
  |some _=>exact(show False from r).elim
 |some _=>cases u with
  |none=>exact(show False from r).elim
  |some _=>rfl
theorem gG.getD{o:Option V}{u:Option aa}{d:V}{d':aa}(r:gG o u)(rd:RelV d d'):RelV (o.getD d) (u.getD d'):=by
 cases o with
 |none=>cases u with
  |none=>exact rd
  |some _=>exact(show False from r).elim
 |some _=>cases u with
  |none=>exact(show False from r).elim
  |some _=>exact r
theorem KV.val{kvs:List (κ×V)}{vs:List (κ×aa)}(r:KV kvs vs)(k:κ):gG (fm kvs k) (valueAt vs k):=by
 unfold KV at r;induction r with
 |nil=>exact True.intro
 | @cons p q ps qs h t ih=>
  obtain⟨h1,h2⟩:=h;by_cases e:p.1=k;have e':q.1=k:=h1.symm.trans e;have b:valueAt (q::qs) k=aB q.2:=by simp[valueAt,j0,e']
  rw[DZ e,b];exact h2;have e':¬q.1=k:=λz=>e (h1.trans z);have b:valueAt (q::qs) k=valueAt qs k:=by simp[valueAt,j0,e']
  rw[Ag e,b];exact ih
theorem KV.any{kvs:List (κ×V)}{vs:List (κ×aa)}(r:KV kvs vs)(k:κ):(kvs.any λkv=>decide (kv.1=k))=vs.any λkv=>decide (kv.1=k):=by
 unfold KV at r;induction r with|nil=>rfl|cons h t ih=>rw[xH,xH,ih,h.1]
theorem KV.repl{kvs:List (κ×V)}{vs:List (κ×aa)}(r:KV kvs vs)(k:κ){y:V}{u:aa}(ry:RelV y u) :
 KV (kvs.map λkv=>if kv.1=k then(kv.1,y)else kv) (vs.map λkv=>if kv.1=k then(kv.1,u)else kv):=by
 unfold KV at r ⊢;induction r with
 |nil=>exact .nil
 | @cons p q ps qs h t ih=>
  rw[dH,dH];refine .cons ?_ ih;obtain⟨h1,h2⟩:=h;by_cases e:p.1=k;rw[if_pos e,if_pos (h1.symm.trans e)];exact⟨h1,ry⟩;rw[if_neg e,if_neg (λz=>e (h1.trans z))];exact⟨h1,h2⟩
theorem KV.put{kvs:List (κ×V)}{vs:List (κ×aa)}(r:KV kvs vs)(k:κ){y:V}{u:aa}(ry:RelV y u):KV (putK kvs k y) (stored vs k u):=by unfold putK stored;rw[r.any k];by_cases e:(vs.any λkv=>decide (kv.1=k))=true;rw[if_pos e,if_pos e];exact r.repl k ry;rw[if_neg e,if_neg e];exact Paired.snoc r ⟨rfl,ry⟩
theorem KV.keys{kvs:List (κ×V)}{vs:List (κ×aa)}(r:KV kvs vs):kvs.map (·.1)=vs.map (·.1):=by
 unfold KV at r;induction r with|nil=>rfl|cons h t ih=>rw[dH,dH,ih,h.1]
theorem KV.length{kvs:List (κ×V)}{vs:List (κ×aa)}(r:KV kvs vs):kvs.length=vs.length:=qM r
end
theorem jv{P:ai}{w:aj}{k:Key}{u:aa}(r:RelV (kV k) u):(iH P w).is k u=true:=by
 cases k with|inl i=>obtain⟨t,e⟩:=(show ∃t,u=Value.int i t from r);subst e;exact Pz P w i t|inr x=>obtain⟨t,e⟩:=(show ∃t,u=Value.str x t from r);subst e;exact PB P w x t
theorem LN{P:ai}{w:aj}:∀{ks:List Key} {us:List aa},Vals (ks.map kV) us->ItemsAre (iH P w) ks us
 |[],_,r=>by rw[uZ]at r;cases r;exact .nil
 |k::ks,_,r=>by
  rw[dH]at r;cases r with|cons h t=>exact .cons (jv h) (LN t)
noncomputable abbrev KT(H:Hp):List (List Key×V)->List (List Key×ah×aa)->Prop:=Paired λp q=>p.1=q.1/\H q.2.1=aB (.tup (p.1.map kV))/\RelV p.2 q.2.2
theorem KT.val{H:Hp}{kvs:List (List Key×V)}{xs:List (List Key×ah×aa)}(r:KT H kvs xs)(k:List Key):gG (fm kvs k) ((atKey xs k).map (·.2)):=by
 induction r with
 |nil=>exact True.intro
 | @cons p q ps qs h t ih=>
  obtain⟨h1,_,h2⟩:=h;by_cases e:p.1=k;have e':q.1=k:=h1.symm.trans e;have b:atKey (q::qs) k=aB q.2:=by simp[atKey,j0,e']
  rw[DZ e,b];exact h2;have e':¬q.1=k:=λz=>e (h1.trans z);have b:atKey (q::qs) k=atKey qs k:=by simp[atKey,j0,e']
  rw[Ag e,b];exact ih
theorem KT.repl{H:Hp}{kvs:List (List Key×V)}{xs:List (List Key×ah×aa)}(r:KT H kvs xs)(k:List Key){y:V}{u:aa}(ry:RelV y u) :
 KT H (kvs.map λkv=>if kv.1=k then(kv.1,y)else kv) (xs.map (putAt k u)):=by
 induction r with
 |nil=>exact .nil
 | @cons p q ps qs h t ih=>
  rw[dH,dH];refine .cons ?_ ih;obtain⟨h1,h2,h3⟩:=h;unfold putAt;by_cases e:p.1=k;rw[if_pos e,if_pos (h1.symm.trans e)];exact⟨h1,h2,ry⟩;rw[if_neg e,if_neg (λz=>e (h1.trans z))];exact⟨h1,h2,h3⟩
theorem KT.put{H:Hp}{kvs:List (List Key×V)}{xs:List (List Key×ah×aa)}(r:KT H kvs xs)(k:List Key){b:ah}{y:V}{u:aa}(hb:H b=aB (.tup (k.map kV)))(ry:RelV y u) :
 KT H (putK kvs k y) (storedH xs k b u):=by
 have e:(kvs.any λkv=>decide (kv.1=k))=(atKey xs k).isSome:=by rw[LM,(r.val k).mY,Option.isSome_map]
 unfold putK storedH;rw[e];by_cases q:(atKey xs k).isSome=true;rw[if_pos q,if_pos q];exact r.repl k ry;rw[if_neg q,if_neg q];exact Paired.snoc r ⟨rfl,hb,ry⟩
theorem KT.keeps{H H':Hp}{kvs:List (List Key×V)}{xs:List (List Key×ah×aa)}(r:KT H kvs xs)(ht:∀b ys,H b=aB (.tup ys)->H' b=aB (.tup ys)):KT H' kvs xs:=
 Paired.vc r λ_ _ z=>⟨z.1,ht _ _ z.2.1,z.2.2⟩
section
variable{P:ai}{w:aj}{H:Hp}{h:az}{a:ah}
theorem tP{u:HO}(ok:fj P w H h)(e:Rd H a u):bw P w H h a u:=e.ok ok
theorem iM{kvs:List (Key×V)}(ok:fj P w H h)(e:Rd H a (.dK kvs)):kvs.length<=sizeLine/\(a==sysModules)=false/\∃vs,KV kvs vs/\h.DictOf (iH P w) a vs:=
 show bw P w H h a (.dK kvs)from tP ok e
theorem kj{kvs:List (Key×V)}(ok:fj P w H h)(e:H a=aB (.dK kvs)):kvs.length<=sizeLine/\(a==sysModules)=false/\∃vs,KV kvs vs/\h.DictOf (iH P w) a vs:=iM ok (.inl e)
theorem D9{ks:List Key}(ok:fj P w H h)(e:H a=aB (.tup (ks.map kV))):(tupleKind (iH P w)).is h ks a:=by
 obtain⟨_,its,r,o,h1,h2,⟨n,h3⟩,_⟩:=(show bw P w H h a (.tup (ks.map kV))from ok a _ e)
 exact⟨o,its.toArray,n,h1,h2,h3,by simpa using LN r⟩
theorem ko{kvs:List (List Key×V)}(ok:fj P w H h)(e:Rd H a (.dT kvs)):kvs.length<=sizeLine/\(a==sysModules)=false/\
 ∃xs,KT H kvs xs/\h.DictOfH (tupleKind (iH P w)) a xs:=by
 obtain⟨z,y,xs,r,o,es,ep,h1,h2,h3,h4,h5⟩:=(show bw P w H h a (.dT kvs)from tP ok e)
 refine⟨z,y,xs,r,o,es,ep,h1,h2,h3,h4,λx hx=>?_,h5⟩;have all:∀{l:List (List Key×V)}{m:List (List Key×ah×aa)},KT H l m->∀x∈m,(tupleKind (iH P w)).is h x.1 x.2.1:=by
  intro l m q;induction q with
  |nil=>intro x hx;exact nomatch hx
  | @cons p q ps qs hq t ih=>
   intro x hx;rcases fV.mp hx with e|hx
   subst e;exact D9 ok (by rw[<-hq.1];exact hq.2.1);exact ih x hx
 exact all r x hx
theorem Ah{kvs:List (List Key×V)}(ok:fj P w H h)(e:H a=aB (.dT kvs)):kvs.length<=sizeLine/\(a==sysModules)=false/\
 ∃xs,KT H kvs xs/\h.DictOfH (tupleKind (iH P w)) a xs:=ko ok (.inl e)
end
noncomputable def mZ(H:Hp)(a:ah)(y:V)(r:Option V):Prop:=
 (∃kvs k,Rd H a (.dK kvs)/\y=kV k/\r=fm kvs k)\/∃kvs k b,Rd H a (.dT kvs)/\y=.ref b/\H b=aB (.tup (k.map kV))/\r=fm kvs k
noncomputable def rj(H:Hp)(a:ah)(y v:V)(H':Hp):Prop:=
 (∃kvs k,H a=aB (.dK kvs)/\y=kV k/\kvs.length<sizeLine/\H'=upd H a (.dK (putK kvs k v)))\/
 ∃kvs k b,H a=aB (.dT kvs)/\y=.ref b/\H b=aB (.tup (k.map kV))/\kvs.length<sizeLine/\H'=upd H a (.dT (putK kvs k v))
theorem rj.k{H:Hp}{a:ah}{kvs:List (Key×V)}{k:Key}{v:V}(e:H a=aB (.dK kvs))(hl:kvs.length<sizeLine):rj H a (kV k) v (upd H a (.dK (putK kvs k v))):=.inl ⟨kvs,k,e,rfl,hl,rfl⟩
section
variable{X:Cx}{pins:List (ah×Obj)}{σ:St}{H:Hp}{s:af}{a:ah}{y v:V}{u r:aa}{o:Option V}{A:ak}{E:aa->af->Prop}
theorem Inv.big(I:Inv X pins σ H s):sysModules<s.heap.objs.size:=by have h:mainGlobals<s.heap.objs.size:=(I.mod.glob.keeps I.bk).lt;exact Nat.lt_trans (by decide) h
theorem R7{Q:aa->af->Prop}(hu:A.units+1<cLine)(I:Inv X pins σ H s)(g:mZ H a y (aB v))(ry:RelV y u)(h:∀w' s',Inv X pins σ H s'->RelV v w'->Q w' s') :
 wpAny (model X.prog X.w) A (getItem (.ref a) u) Q E s:=by
 rcases g with⟨kvs,k,e,ey,l⟩|⟨kvs,k,b,e,ey,eb,l⟩;subst ey;obtain⟨z,hd,vs,rel,dd⟩:=iM I.hok e;obtain⟨w',hw,rw'⟩:=gG.some_of (v:=v) (o:=valueAt vs k) (by rw[l];exact rel.val k);exact wpAny_getItem_of (jv ry) dd.mapOf hw (h w' _ (I.tok _) rw');subst ey;cases(show u=Value.ref b from ry);obtain⟨z,hd,xs,rel,dd⟩:=ko I.hok e;obtain⟨w',hw,rw'⟩:=gG.some_of (v:=v) (o:=(atKey xs k).map (·.2)) (by rw[l];exact rel.val k);obtain⟨p,hp,hp2⟩:=Option.map_eq_some_iff.mp hw;refine wpAny_getItem_heap (tupleKind_room_in1 hu) (D9 I.hok eb) dd hp ?_;rw[hp2];exact h w' _ (I.tok _) rw'
theorem vH{h':az}{t':Nat}{ob:HO}(I:Inv X pins σ H s)(mu:tD (H a))(hs:Heap.SameBut a s.heap h')(he:∃q,h'.get? a=aB q)(new:bw X.prog X.w (upd H a ob) h' a ob) :
 Inv X pins σ (upd H a ob) {s with heap:=h',toks:=t'}:=
 I.write (x:=a) (e:=a) mu (.inl rfl) (λb q hb z=>(hs.2 b hb).trans z) he new
theorem Ea{P:ai}{w:aj}{H':Hp}{h':az}{kvs:List (Key×V)}{vs:List (Key×aa)}(z:kvs.length<=sizeLine)(hd:(a==sysModules)=false)(rel:KV kvs vs)(dd:h'.DictOf (iH P w) a vs) :
 bw P w H' h' a (.dK kvs):=⟨z,hd,vs,rel,dd⟩
theorem R8{H':Hp}{Q:Unit->af->Prop}(hu:A.units+1<cLine)(I:Inv X pins σ H s)(g:rj H a y v H')(ry:RelV y u)(rv:RelV v r)(h:∀s',Inv X pins σ H' s'->Q () s') :
 wpAny (model X.prog X.w) A (setItem (.ref a) u r) Q E s:=by
 rcases g with⟨kvs,k,e,ey,l,eH⟩|⟨kvs,k,b,e,ey,eb,l,eH⟩;subst ey eH;obtain⟨z,hd,vs,rel,dd⟩:=kj I.hok e;have hz:vs.length<=sizeLine:=by rw[<-rel.length];exact z
 have hl:(putK kvs k v).length<=sizeLine:=by have:=D8 kvs k v;lia
 refine wpAny_setItem_pairs (hsz:=hz) (jv ry) dd λh' kq hs=>h _ ?_;have he:∃q,h'.get? a=aB q:=let⟨q,_,_,hq,_⟩:=kq;⟨q,hq⟩;exact vH I (by rw[e];exact True.intro) hs he (Ea hl hd (rel.put k rv) kq);subst ey eH;cases(show u=Value.ref b from ry);obtain⟨z,hd,xs,rel,dd⟩:=Ah I.hok e;have hz:xs.length<=sizeLine:=by rw[<-qM rel];exact z
 have hl:(putK kvs k v).length<=sizeLine:=by have:=D8 kvs k v;lia
 refine wpAny_setItem_heap (hsz:=hz) (tupleKind_room_in1 hu) (D9 I.hok eb) dd λh' kq hs=>h _ ?_;obtain⟨q,es,ep,hq,h2,h3,h4,_,h5⟩:=kq;refine vH I (by rw[e];exact True.intro) hs ⟨q,hq⟩ ⟨hl,hd,_,(rel.put k eb rv).keeps λc ys ec=>?_,q,es,ep,hq,h2,h3,h4,h5⟩;rw[b9 (cJ ec e (λz=>nomatch z))];exact ec
end
theorem R9{X:Cx}{pins:List (ah×Obj)}{σ:St}{H:Hp}{s:af}{a:ah}{y:V}{o:Option V}(I:Inv X pins σ H s)(g:mZ H a y o):s.TypeIs (.ref a) "dict":=by rcases g with⟨kvs,k,e,_,_⟩|⟨kvs,k,b,e,_,_,_⟩;obtain⟨_,_,vs,_,dd⟩:=iM I.hok e;exact dd.typeIs;obtain⟨_,_,xs,_,dd⟩:=ko I.hok e;exact dd.typeIs
theorem Hl{P:ai}{w:aj}{H:Hp}(h:az)(hb:sysModules<h.objs.size):bw P w H (h.push {cls:=.type "dict",data:=.dict #[]}) h.objs.size (.dK []):=
 ⟨kT _,CS.mpr (eZ (gB hb)),[],.nil,Heap.DictOf.new h⟩
noncomputable def Sa:TE:=λ_ H Q=>∀p,H p=aC->Q (.ref p) (upd H p (.dK []))
section
variable{X:Cx}{pos:Pos}
theorem Sb:PE X (.Dict [] [] pos) Sa:=λpins s σ H Q I h=>
 wpAny_Dict_empty ⟨.ref s.heap.objs.size,_,I.laid (a:=s.heap.objs.size) (o:=.dK []) (t':=s.toks) (λ_ _ q=>cQ _ q) (bg _) (Hl s.heap I.big),rfl,h _ (I.hok.fresh (bg _))⟩
end
noncomputable def Eb:List (TE×TE)->St->Hp->(List (V×V)->Hp->Prop)->Prop|[],_,H,Q=>Q [] H|(tk,tv)::r,σ,H,Q=>tk σ H λx H1=>tv σ H1 λy H2=>Eb r σ H2 λps H3=>Q ((x,y)::ps) H3
noncomputable abbrev VV:List (V×V)->List (aa×aa)->Prop:=Paired λp q=>RelV p.1 q.1/\RelV p.2 q.2
noncomputable def Ai(X:Cx)(pos:Pos)(keys:List (Option ao))(values:List ao)(l5:List (TE×TE)):Prop:=
 ∀(pins:List (ah×Obj))(s:af)(σ:St)(H:Hp)(Q:List (V×V)->Hp->Prop),Inv X pins σ H s->Eb l5 σ H Q->
  wpAny (model X.prog X.w) X.A (evalPairs (pairTrees keys values X.env pos)) (λvs s'=>∃ps H',Inv X pins σ H' s'/\VV ps vs/\Q ps H') X.xe s
theorem Se{X:Cx}{pos:Pos}:Ai X pos [] [] []:=λpins s σ H Q I h=>pairTrees_nil_walk ⟨[],H,I,.nil,h⟩
theorem Sf{X:Cx}{pos:Pos}{k v:ao}{ks:List (Option ao)}{vs:List ao}{tk tv:TE}{l5:List (TE×TE)}(hk:PE X k tk)(hv:PE X v tv)(hr:Ai X pos ks vs l5) :
 Ai X pos (aB k::ks) (v::vs) ((tk,tv)::l5):=λpins s σ H Q I h=>
 pairTrees_cons_walk (bq (hk pins s σ H _ I h) λu s1 z9=>z9.el λx H1 I1 rx q1=>bq (hv pins s1 σ H1 _ I1 q1) λw2 s2 z9=>z9.el λy H2 I2 ry q2=>
  bq (hr pins s2 σ H2 _ I2 q2) λws s3 ⟨ps,H3,I3,rel,q3⟩=>⟨(x,y)::ps,H3,I3,.cons ⟨rx,ry⟩ rel,q3⟩)
noncomputable def p5(kvs more:List (Key×V)):List (Key×V):=more.foldl (λacc kv=>putK acc kv.1 kv.2) kvs
theorem KV.merge:∀{more:List (Key×V)} {rs:List (Key×aa)} {kvs:List (Key×V)} {vs:List (Key×aa)},KV more rs->KV kvs vs->KV (p5 kvs more) (merged vs rs):=by
 intro more rs kvs vs r;unfold KV at r;induction r generalizing kvs vs with
 |nil=>intro q;exact q
 | @cons p q ps qs h t ih=>
  intro r0;have e:KV (putK kvs p.1 p.2) (stored vs q.1 q.2):=by have:=r0.put p.1 h.2;rw[<-h.1];exact this
  exact ih e
theorem Ho:∀(more kvs:List (Key×V)),(p5 kvs more).length<=kvs.length+more.length
 |[],kvs=>by show kvs.length<=kvs.length+0;lia
 |p::r,kvs=>by
  have h1:=Ho r (putK kvs p.1 p.2);have h2:=D8 kvs p.1 p.2;show(p5 (putK kvs p.1 p.2) r).length<=_;rw[cY];lia
theorem LO{P:ai}{w:aj}:∀{kvs:List (Key×V)} {ws:List (aa×aa)},VV (kvs.map λkv=>(kV kv.1,kv.2)) ws->∃rs,Carries (iH P w) ws rs/\KV kvs rs
 |[],_,r=>by rw[uZ]at r;cases r;exact⟨[],True.intro,.nil⟩
 |p::kvs,_,r=>by
  rw[dH]at r;cases r with
  | @cons a b as bs h t=>
   obtain⟨rs,c,q⟩:=LO (P:=P) (w:=w) t;obtain⟨b1,b2⟩:=b;exact⟨(p.1,b2)::rs,⟨jv h.1,rfl,c⟩,.cons ⟨rfl,h.2⟩ q⟩
structure M2(X:Cx)(o:ao)(m:Str)(apos:Pos)(e f:ao)(cpos:Pos):Prop where
 base:attributeBase o m X.env (eval o X.env)=eval o X.env
 few:((backTo cpos (starEach [e,f] X.env)).all (λx=>!x.1)&& (backToKw cpos (keywordEach [] X.env)).all (λx=>x.1.isSome)
  && decide (([e,f]:List ao).length+ ([]:List Keyword).length+ (if([]:List Keyword).isEmpty then 0 else 1)<30))=true
 line:(apos.endLine==cpos.line)=true
 trees:backTo cpos (starEach [e,f] X.env)=[(false,eval e X.env),(false,eval f X.env)]
noncomputable def LP(H:Hp)(a:ah):Prop:=(∃kvs,Rd H a (.dK kvs))\/∃kvs,Rd H a (.dT kvs)
theorem Sg{X:Cx}{pins:List (ah×Obj)}{σ:St}{H:Hp}{s:af}{a:ah}(I:Inv X pins σ H s)(d:LP H a) :
 s.TypeIs (.ref a) "dict"/\(∀b,Value.ref a=.ref b->∃ob,s.heap.get? b=aB ob/\ob.dict=aC)/\(a==sysModules)=false:=by
 rcases d with⟨kvs,e⟩|⟨kvs,e⟩;obtain⟨_,hd,vs,_,dd⟩:=iM I.hok e;refine⟨dd.typeIs,λb q=>?_,hd⟩;cases q;obtain⟨ob,_,_,h1,h2,_⟩:=dd;exact⟨ob,h1,h2.2.1⟩;obtain⟨_,hd,xs,_,dd⟩:=ko I.hok e;refine⟨dd.typeIs,λb q=>?_,hd⟩;cases q;obtain⟨ob,_,_,h1,h2,_⟩:=dd;exact⟨ob,h1,h2.2.1⟩
section
variable{X:Cx}{pins:List (ah×Obj)}{σ:St}{H:Hp}{s:af}{a:ah}{y d:V}{u r:aa}{o:Option V}{A:ak}{E:aa->af->Prop}
theorem Sh{Q:aa->af->Prop}(hu:A.units+1<cLine)(I:Inv X pins σ H s)(g:mZ H a y o)(ry:RelV y u)(rd:RelV d r)(h:∀w' s',Inv X pins σ H s'->RelV (o.getD d) w'->Q w' s') :
 wpAny (model X.prog X.w) A (call (.builtin "dict.get") [.ref a,u,r]) Q E s:=by
 rcases g with⟨kvs,k,e,ey,l⟩|⟨kvs,k,b,e,ey,eb,l⟩;subst ey;obtain⟨z,hd,vs,rel,dd⟩:=iM I.hok e;refine C2 PySem.F.slot_dict_get dd.typeIs PySem.F.entry_dict_get (PySem.F.args_dict_get_3 _ _ _) (meets_dict_get_default (iH X.prog X.w) a (jv ry) hd r) ⟨_,dd.mapOf,h _ _ (I.tok _) ?_⟩;rw[l];exact(rel.val k).getD rd;subst ey;cases(show u=Value.ref b from ry);obtain⟨z,hd,xs,rel,dd⟩:=ko I.hok e;refine C2 PySem.F.slot_dict_get dd.typeIs PySem.F.entry_dict_get (PySem.F.args_dict_get_3 _ _ _) (meetsH_dict_get_default (tupleKind (iH X.prog X.w)) a b hd r) ⟨tupleKind_room_in1 hu,k,xs,D9 I.hok eb,dd,h _ _ (I.tok _) ?_⟩;rw[l];exact(rel.val k).getD rd
end
noncomputable def Si(td ty tx:TE):TE:=λσ H Q=>td σ H λx H1=>∃a,x=.ref a/\LP H1 a/\ty σ H1 λy H2=>tx σ H2 λz H3=>∃o,mZ H3 a y o/\Q (o.getD z) H3
section
variable{X:Cx}{o e f:ao}{apos cpos:Pos}{td ty tx:TE}
theorem Sj(hu:X.A.units+1<cLine)(ho:PE X o td)(he:PE X e ty)(hf:PE X f tx)(m:M2 X o "get" apos e f cpos):PE X (.Call (.Attribute o "get" apos) [e,f] [] cpos) (Si td ty tx):=by
 intro pins s σ H Q I h;refine wpAny_Call_method m.base m.few m.line PySem.F.plainAttrs_dict PySem.F.slot_dict_get PySem.F.type_dict_get (bq (ho pins s σ H _ I h) λu s1 z9=>z9.el λx H1 I1 rx bW=>?_);obtain⟨a,ex,d,q1⟩:=bW;subst ex;obtain rfl:u=Value.ref a:=rx;obtain⟨t1,t2,_⟩:=Sg I1 d;refine⟨t1,t2,?_⟩;rw[m.trees];refine Calls.callWith_builtin rfl (Calls.evalArgs_plain (Calls.spliced_cons (bq (he pins s1 σ H1 _ I1 q1) λiv s2 z9=>z9.el λy H2 I2 ry q2=>
  Calls.spliced_cons (bq (hf pins s2 σ H2 _ I2 q2) λfv s3 z9=>z9.el λz H3 I3 rz ⟨ov,g,q3⟩=>Calls.spliced_nil ?_))))
 exact Sh hu I3 g ry rz λw' s4 I4 rw'=>⟨_,H3,I4,rw',q3⟩
end
noncomputable def kr(e tg iter:ao)(ifs:List ao)(it acc:aa)(env:Env)(emit:Sem Unit):Sem Fin:=do
 standAt iter.pos
 match <-pyNext it with
 |none=>pure (.done .next)
 |some v=>
  letOwnedTupleGo tg it v
  assign tg env v
  let ok <-xZ ifs env
  if ok then emit
  again (.compLoop e 0 it acc env)
theorem Sk{prog:ai}{w:aj}{A:ak}{R:Result->af->Prop}{s:af}{e target iter:ao}{ifs:List ao}{it acc:aa}{env:Env}{emit:Sem Unit}(he:compTurn e 0 it acc env=kr e target iter ifs it acc env emit)
 (hd:(model prog w).den (.compLoop e 0 it acc env)=(compTurn e 0 it acc env).onRaise (λx=>do noteFrame x env;theTreesLotGoes x)) (hA:A.under (.compLoop e 0 it acc env)=A) (I:Nat->af->Prop)
 (turn:∀n s,I n s->wpAny (model prog w) A (pyNext it) (λr s₁=>match r with
   |none=>R (.ok .next) s₁
   |some v=>wpAny (model prog w) A (letOwnedTupleGo target it v) (λ_ s₀=>wpAny (model prog w) A (assign target env v) (λ_ s₂=>
    wpAny (model prog w) A (xZ ifs env) (λok s₃=>
     if ok=true then wpAny (model prog w) A emit (λ_ s₅=>∃m,m<n/\I m s₅) g9 s₃
     else ∃m,m<n/\I m s₃) g9 s₂) g9 s₀) g9 s₁) g9 s)
 (n:Nat) (h:I n s):codeAny (model prog w) A (.compLoop e 0 it acc env) R s:=by
 refine codeAny_loop rfl I (λn s hI=>?_) n h;rw[hd,hA];refine wpAny_noted (GX ?_);rw[he];unfold kr;refine aG (mO (aG (gY (turn n s hI) (λr s₁ h₁=>?_) λ_ _ z=>z)));cases r with
 |none=>exact aX h₁
 |some v=>
  refine aG (gY h₁ (λ_ s₀ h₀=>?_) λ_ _ z=>z);refine aG (gY h₀ (λ_ s₂ h₂=>aG (gY h₂ (λok s₃ h₃=>?_) λ_ _ z=>z)) λ_ _ z=>z);cases ok with
  |true=>
   simp only[cC]at h₃ ⊢;exact aG (gY h₃ (λ_ s₅ h₅=>aX ⟨rfl,h₅⟩) λ_ _ z=>z)
  |false=>
   simp only[dW,dg]at h₃ ⊢;exact aX ⟨rfl,h₃⟩
theorem Sl{prog:ai}{w:aj}{A:ak}{R:Result->af->Prop}{s:af}{e target iter:ao}{ifs:List ao}{rest:List Comprehension}{it acc:aa}{env:Env}(hcl:clausesOf e=⟨target,iter,ifs,0⟩::rest)
 (hd:(model prog w).den (.compStart e 0 it acc env)=(compStart e 0 it acc env).onRaise (λx=>do noteFrame x env;standAt theWindowsPlace)) (hA:A.under (.compStart e 0 it acc env)=A)
 (h0:codeAny (model prog w) A (.compLoop e 0 it acc env) R s)
 (h:wpAny (model prog w) A (pyIter it) (λj s'=>codeAny (model prog w) A (.compLoop e 0 j acc env) R s') (notedBy (model prog w) A env λx s'=>R (.error x) s') s) :
 codeAny (model prog w) A (.compStart e 0 it acc env) R s:=by
 refine codeAny_of_tree ?_;rw[hd,hA];refine wpAny_notedAt ?_;unfold compStart;rw[hcl];show wpAny _ _ (ask >>= _) _ _ s;refine aG (wpAny_askSetting (xB ?_));split;first
  |exact aG (aX (aX (And.intro rfl h0)))
  |exact aX (And.intro rfl h0)
 first
  |exact aG (nL (aG (mO (aG (gY h (λj s' h'=>aX ⟨rfl,h'⟩) λ_ _ z=>z)))))
  |(refine aG (nL ?_);show wpAny _ _ (standAt iter.pos >>= _) _ _ s;exact aG (mO (aG (gY h (λj s' h'=>aX ⟨rfl,h'⟩) λ_ _ z=>z))))
noncomputable abbrev TM:=St->Hp->(St->Hp->Prop)->Prop
noncomputable def PM(X:Cx)(emit:Sem Unit)(t:TM):Prop:=∀(pins:List (ah×Obj)) (s:af) (σ:St) (H:Hp) (Q:St->Hp->Prop),Inv X pins σ H s->t σ H Q->wpAny (model X.prog X.w) X.A emit (λ_ s'=>∃σ' H',Inv X pins σ' H' s'/\Q σ' H') X.xe s
structure ku(P:ai)(w:aj)(e tg iter:ao)(ifs:List ao)(emit:aa->Env->Sem Unit)(newAcc:Sem aa)(ob:Obj)(u0:HO):Prop where
 cl:∃rest,clausesOf e=⟨tg,iter,ifs,0⟩::rest
 turn:∀it acc env,compTurn e 0 it acc env=kr e tg iter ifs it acc env (emit acc env)
 dl:∀it acc env,(model P w).den (.compLoop e 0 it acc env)=(compTurn e 0 it acc env).onRaise (λx=>do noteFrame x env;theTreesLotGoes x)
 ds:∀it acc env,(model P w).den (.compStart e 0 it acc env)=(compStart e 0 it acc env).onRaise (λx=>do noteFrame x env;standAt theWindowsPlace)
 al:∀(A:ak) it acc env,A.under (.compLoop e 0 it acc env)=A
 as:∀(A:ak) it acc env,A.under (.compStart e 0 it acc env)=A
 new:∀(A:ak)(s:af)(Q:aa->af->Prop)(E:aa->af->Prop),Q (.ref s.heap.objs.size) {s with heap:=s.heap.push ob}->wpAny (model P w) A newAcc Q E s
 ok:∀(H:Hp)(h:az),sysModules<h.objs.size->bw P w H (h.push ob) h.objs.size u0
noncomputable def tQ(J:It)(f:St)(g:TG)(tc:TT)(tm:TM)(u0:HO)(D:ah)(H1:Hp)(Q:Hp->Prop):Prop:=
 ∃W:Nat->Nat->St->Hp->Prop,(∃m,W 0 m f (upd H1 D u0))/\∀i m σ' H',W i m σ' H'->
  ((J.stop i H'/\Q H')\/(J.go i H'/\∀x H2,J.tK i H' x H2->g x σ' H2 λσ2 H3=>tc σ2 H3 λb H4=>
    if b=true then tm σ2 H4 λkh H5=>∃m',m'<m/\W (i+1) m' kh H5
    else ∃m',m'<m/\W (i+1) m' σ2 H4))
noncomputable def Ec(K:aK)(f:St->St)(wi:TI)(g:TG)(tc:TT)(tm:ah->TM)(u0:HO):TE:=λσ H Q=>wi σ H λJ H1=>∀D,H1 D=aC->K.lookup D=aC->tQ J (f σ) g tc (tm D) u0 D H1 λH'=>Q (.ref D) H'
section
variable{X:Cx}{ow fr:List Str}{ix:List Nat}{scope:ay}{e tg iter:ao}{ifs:List ao}{pos:Pos}{wi:TI}{g:TG}{tc:TT}{tm:ah->TM}{emit:aa->Env->Sem Unit}{newAcc:Sem aa}{ob:Obj}{u0:HO}
theorem LQ{pins:List (ah×Obj)}{s:af}{σ:St}{Q:VK}{RR:aa->ah->Result->af->Prop}(CK:ku X.prog X.w e tg iter ifs emit newAcc ob u0)(S:aY X ow fr ix scope)(hc:X.calm=true)
 (hg:∀C s₀ H₀ ex,PG (X.comp (ow++fr) scope C s₀ H₀ ex) tg g) (ht:∀C s₀ H₀ ex,iL (X.comp (ow++fr) scope C s₀ H₀ ex) ifs tc) (he:∀C s₀ H₀ ex D,PM (X.comp (ow++fr) scope C s₀ H₀ ex) (emit (.ref D) (X.comp (ow++fr) scope C s₀ H₀ ex).env) (tm D))
 {itv:aa} {E:aa->af->Prop}
 (h:zx X pins σ tg (λJ H1=>∀D,H1 D=aC->X.K.lookup D=aC->tQ J (ju ow fr ix σ) g tc (tm D) u0 D H1 λH'=>Q (.ref D) H') itv s)
 (fin:∀D C H' s' m,dX X pins H' C->s'.heap.Ns C m->(∀h'',Heap.SameBut C s'.heap h''->Inv X pins σ H' {s' with heap:=h''})->Q (.ref D) H'->RR (.ref D) C (.ok .next) s') :
 wpAny (model X.prog X.w) X.A newAcc (λacc s₃=>wpAny (model X.prog X.w) X.A (newFunctionEnv scope X.env.globals (jJ X.env.cells scope.names []) [] X.env.qual aC .none (aB X.env)) (λcenv s₄=>
  codeAny (model X.prog X.w) X.A (.compStart e 0 itv acc {cenv with scope:=relabel scope X.env}) (RR acc cenv.locals) s₄) E s₃) E s:=by
 obtain⟨it,fp,tn,J,H1,ei,I1,T,st1,f1,hq⟩:=h;subst ei;have hD:H1 s.heap.objs.size=aC:=I1.hok.fresh (bg _);have G0:X.K.lookup s.heap.objs.size=aC:=by
  cases q:X.K.lookup s.heap.objs.size with|none=>rfl|some o=>exact absurd (dB (I1.jt _ _ q)) (gZ _)
 obtain⟨W,⟨m0,w0⟩,turn⟩:=hq _ hD G0;have I3:Inv X pins σ (upd H1 s.heap.objs.size u0) {s with heap:=s.heap.push ob}:=I1.laid (t':=s.toks) (o:=u0) (λb u q=>cQ _ q) (bg _) (CK.ok _ _ I1.big);have oH:∀b∈fp,b<s.heap.objs.size:=λb hb=>by
  obtain⟨o,ho,_⟩:=T.obj _ _ st1 b hb;exact dB ho
 have f3:∀b∈fp,dX X pins (upd H1 s.heap.objs.size u0) b:=λb hb=>⟨by rw[b9 (gB (oH b hb))];exact(f1 b hb).1,(f1 b hb).2⟩
 refine CK.new _ _ _ _ (LA (λx c e=>(I3.cell x c (DR (cells:=X.env.cells) scope.names [] (λx c e=>by cases e) x c e)).elim λv q=>q.lt) (λh₁ hns hk0 hnc=>?_));dsimp only at hns hk0 hnc ⊢;generalize Ac:({s with heap:=s.heap.push ob}:af)=s3 at I3;have vC:s3.heap=s.heap.push ob:=by rw[<-Ac]
 rw[<-vC]at hns hk0 hnc ⊢;have hk:∀b o,s3.heap.get? b=aB o->h₁.get? b=aB o:=hk0;have vD:∀b∈fp,b<s3.heap.objs.size:=λb hb=>by rw[vC,j5];exact xJ (oH b hb)
 have J3:=LD S I3 f3 vD (tk:=s.toks) hns hk hnc;have st3:tn 0 h₁:=T.keep _ _ _ st1 λb hb o q=>hk b o (by rw[vC];exact cQ _ q);generalize m5:X.comp (ow++fr) scope s3.heap.objs.size s3 (upd H1 s.heap.objs.size u0) fp=Y at J3;have vE:∀b∈fp,Y.Ok->∀{H':Hp},H' b=aC->dX Y [] H' b:=λb hb ok H' hn=>by
  subst m5;exact⟨hn,(ok.xS b hb).1,ok.mS b hb,.inl hb,(ok.xS b hb).2,λp hp=>by cases(show p∈([]:List (ah×Obj))from hp)⟩
 have back:∀{σ':St}{H':Hp}{s':af},Inv Y [] σ' H' s'->∀h'',Heap.SameBut s3.heap.objs.size s'.heap h''->Inv X pins σ H' {s' with heap:=h''}:=λ{σ' H' s'} I' h'' hs=>by
  subst m5;have nS:∀b o,s3.heap.get? b=aB o->b≠s3.heap.objs.size:=λb o q=>gB (dB q);have un:Un (frs X.stack) fp (upd H1 s.heap.objs.size u0) H' s3.heap h'':=
   ⟨λb o q n hb hx=>(hs.2 b (nS b o q)).trans (I'.base.keep b o q n hb hx),λb o q n hb hx=>by
    obtain⟨sl,z⟩:=I'.base.slot b o q n hb hx;exact⟨sl,(hs.2 b (nS b o q)).trans z⟩,I'.base.free,λb o q hx=>by
    obtain⟨o',z⟩:=I'.base.there b o q hx;exact⟨o',(hs.2 b (nS b o q)).trans z⟩,I'.base.tups,I'.base.iI,I'.base.jc⟩
  have hok:fj X.prog X.w H' h'':=λb ob q=>by
   refine(I'.hok b ob q).stay (λc w' hcc z=>(hs.2 c ?_).trans z) (λ_ z=>z) λ_ _ z=>z;rintro rfl;have hfree:=I'.free;rcases hcc with rfl|hcc
   rw[show H' s3.heap.objs.size=aC from hfree]at q;cases q;rw[show H' s3.heap.objs.size=aC from hfree]at hcc;cases hcc
  have hos:s'.os=s3.os:=I'.os;exact I3.tF (s':={s' with heap:=h''}) (ch:=fp) hos un hok I'.bare λb hb=>by
   obtain⟨_,a1,a2,a3,a4,a5⟩:=f1 b hb;exact⟨a3,a1,a4,a5⟩
 have Aj:Y.prog=X.prog:=by subst m5;rfl
 have Ak:Y.w=X.w:=by subst m5;rfl
 have LR:Y.K=X.K:=by subst m5;rfl
 have Al:Y.A=X.A:=by subst m5;rfl
 have LS:Y.calm=true:=by rw[<-m5];exact hc
 have Hq:Y.xe=g9:=by subst m5;rfl
 have LU:Y.env.locals=s3.heap.objs.size:=by subst m5;rfl
 have hg':PG Y tg g:=by rw[<-m5];exact hg _ _ _ _
 have ht':iL Y ifs tc:=by rw[<-m5];exact ht _ _ _ _
 have he':∀D,PM Y (emit (.ref D) Y.env) (tm D):=λD=>by rw[<-m5];exact he _ _ _ _ D
 have loop:∀s4:af,Inv Y [] (ju ow fr ix σ) (upd H1 s.heap.objs.size u0) s4->tn 0 s4.heap->codeAny (model X.prog X.w) X.A (.compLoop e 0 (.ref it) (.ref s.heap.objs.size) Y.env) (RR (.ref s.heap.objs.size) s3.heap.objs.size) s4:=by
  intro s4 I4 G1;refine Sk (CK.turn _ _ _) (CK.dl _ _ _) (CK.al _ _ _ _) (λn s'=>∃i σ' H',Inv Y [] σ' H' s'/\tn i s'.heap/\(∀b∈fp,H' b=aC)/\W i n σ' H') ?_ m0 ⟨0,_,_,I4,G1,λb hb=>(f3 b hb).1,w0⟩;rintro n s5 ⟨i,kh,H5,I5,mT,qR,w5⟩;rcases turn i n kh H5 w5 with⟨stop,q⟩|⟨go,step⟩
  .have td:=T.done Y Aj Ak LR LS i [] s5 kh H5 g9 I5 (λb hb=>vE b hb I5.ok (qR b hb)) mT stop
   rw[Al]at td;refine bq td λr s6 bW=>?_;obtain⟨hr,I6⟩:=bW;subst hr;obtain⟨m6,DW,_⟩:=I6.loc;rw[LU]at DW;have LV:=I6.free;rw[LU]at LV;exact fin _ _ H5 s6 m6 (I3.jH (bg _) LV) DW (back I6) q
  have td:=T.item Y Aj Ak LR LS i [] s5 kh H5 g9 I5 (λb hb=>vE b hb I5.ok (qR b hb)) mT go;rw[Al]at td;refine bq td λr s6 bW=>?_;obtain⟨u,hr,h6⟩:=bW;subst hr;refine bq h6 λ_ s7 bW=>?_;obtain⟨x,H7,I7,r7,y7,vF,G2⟩:=bW;have G3:=I7.pinned (λb hb=>vE b hb I7.ok (G2 b hb)) (T.obj _ _ vF);have again:∀{ki:St}{H8:Hp}{s8:af}{m':Nat},Inv Y ([]++vj fp s7.heap) ki H8 s8->m'<n->W (i+1) m' ki H8->∃m,m<n/\∃i σ' H',Inv Y [] σ' H' s8/\tn i s8.heap/\(∀b∈fp,H' b=aC)/\W i m σ' H':=λ{ki H8 s8 m'} I8 hm w8=>by
   refine⟨m',hm,i+1,ki,H8,I8.dR,T.keep _ _ _ vF λb hb o q=>(I8.pin (b,o) (jo _ (jo _ (tL hb q)))).1,λb hb=>?_,w8⟩;obtain⟨o,q,d⟩:=T.obj _ _ vF b hb;exact(I8.pin (b,o) (jo _ (jo _ (tL hb q)))).2.1
  have q7:=hg' _ s7 kh H7 x u _ G3 r7 (step x H7 y7);rw[Aj,Ak,Al,Hq]at q7;refine bq q7 λ_ s8 bW=>?_;obtain⟨ki,H8,I8,q8⟩:=bW;have q8:=ht' _ s8 ki H8 _ I8 q8;rw[Aj,Ak,Al,Hq]at q8;refine bq q8 λok s9 z9=>z9.el λH9 I9 q9=>?_;cases ok with
  |false=>
   simp only[dW,dg]at q9 ⊢;obtain⟨m',hm,w9⟩:=q9;exact again I9 hm w9
  |true=>
   simp only[cC]at q9 ⊢;have LW:=he' _ _ s9 ki H9 _ I9 q9;rw[Aj,Ak,Al,Hq]at LW;exact bq LW λ_ G4 ⟨Sm,G5,G6,m',hm,G8⟩=>again G6 hm G8
 have DY:Inv Y [] (ju ow fr ix σ) (upd H1 s.heap.objs.size u0) {s with heap:=h₁,toks:=s.toks}:=by rw[<-Ac]at J3;exact J3
 have hl:=loop _ DY st3;obtain⟨rest,hcl⟩:=CK.cl;have fin':=Sl hcl (CK.ds _ _ _) (CK.as _ _ _ _) hl (T.self _ 0 _ _ _ st3 hl);rw[<-m5]at fin';exact fin'
theorem tR(CK:ku X.prog X.w e tg iter ifs emit newAcc ob u0)(hev:eval e X.env=comprehension e scope X.env pos newAcc false (eval iter X.env))(S:aY X ow fr ix scope)(hc:X.calm)(hi:PI X tg iter wi)
 (hg:∀C s₀ H₀ ex,PG (X.comp (ow++fr) scope C s₀ H₀ ex) tg g) (ht:∀C s₀ H₀ ex,iL (X.comp (ow++fr) scope C s₀ H₀ ex) ifs tc) (he:∀C s₀ H₀ ex D,PM (X.comp (ow++fr) scope C s₀ H₀ ex) (emit (.ref D) (X.comp (ow++fr) scope C s₀ H₀ ex).env) (tm D))
 (hs:∀x,foldedSetIterable iter X.env x=pure x):PE X e (Ec X.K (ju ow fr ix) wi g tc tm u0):=by
 intro pins s σ H Q I h;rw[hev];obtain⟨rest,hcl⟩:=CK.cl;refine CT (use:=aC) hcl hs (DQ λy hy e=>I.ok.has _ (S.free y hy e)) S.kind S.names (bq (hi pins s σ H _ I h) λv s1 h1=>bq h1 λitv s2 h2=>?_);exact LQ (RR:=λacc C=>compPost (model X.prog X.w) X.A X.xe aC (EP X pins σ Q) acc C) CK S hc hg ht he h2 λD C H' s' m _ hn hI q=>⟨m,hn,λh'' ly=>⟨.ref D,H',hI h'' ly,rfl,q⟩⟩
theorem LX{i:Nat}{y:Str}{py spos:Pos}(CK:ku X.prog X.w e tg iter ifs emit newAcc ob u0)(hev:∀use,evalThenUse e X.env use=(do let _ <-comprehension e scope X.env pos newAcc false (eval iter X.env) (aB use)))(hN:X.N.Nodup)(G9:X.N[i]?=aB y)(hy:Loc X.env.scope y)(S:aY X ow fr ix scope)(hc:X.calm)(hi:PI X tg iter wi)
 (hg:∀C s₀ H₀ ex,PG (X.comp (ow++fr) scope C s₀ H₀ ex) tg g) (ht:∀C s₀ H₀ ex,iL (X.comp (ow++fr) scope C s₀ H₀ ex) ifs tc) (he:∀C s₀ H₀ ex D,PM (X.comp (ow++fr) scope C s₀ H₀ ex) (emit (.ref D) (X.comp (ow++fr) scope C s₀ H₀ ex).env) (tm D))
 (hsw:swapsWith e (aB (.Name y py)) spos.line X.env=pure true) (hf:X.fn y=true\/X.env.scope.names.lookup y=aB .local)
 (hs:∀x,foldedSetIterable iter X.env x=pure x):PS X (.Assign [.Name y py] e spos) (qQ (Ec X.K (ju ow fr ix) wi g tc tm u0) (iK i)):=by
 intro pins s σ H D I h;rw[exec_Assign_Name_used _ _ _ _ hsw];refine aG (mO (aG ?_));rw[hev];obtain⟨rest,hcl⟩:=CK.cl;refine aG (gY (CT (use:=aB (assign (.Name y py) X.env)) (Q:=λ_ s'=>SP X pins D .next s') hcl hs (DQ λy hy e=>I.ok.has _ (S.free y hy e)) S.kind S.names
  (bq (hi pins s σ H _ I h) λv s1 h1=>bq h1 λitv s2 h2=>?_)) (λ_ s' hq=>aX (aX hq)) λ_ _ e=>e)
 refine LQ (Q:=λx H1=>iK i x σ H1 D.nx) (RR:=λacc C=>compPost (model X.prog X.w) X.A X.xe (aB (assign (.Name y py) X.env)) (λ_ s'=>SP X pins D .next s') acc C) CK S hc hg ht he h2 λd C H' s' m hC hn hI q=>?_;show wpAny _ X.A (assign (.Name y py) X.env (.ref d)) _ _ _;have I':Inv X pins σ H' s':=hI s'.heap (.refl ..);refine wpAny_assign_Name (F4 I' hN G9 hy (v:=.ref d) rfl (λs'' Hf ⟨a,Hg,ha⟩=>?_) hf);obtain⟨c0,c1,c2,c3,c4,c5⟩:=hC;have Hh:C≠a:=by rcases ha with rfl|ha;exact c1;exact λz=>c4 _ _ ha z.symm
 exact⟨m,hn.sameBut Hg Hh,λh'' ly=>⟨_,H',Hf.turned (t':=s''.toks) (it:=C) (λb o hb q=>(ly.2 b hb).trans q) c0 c1 c3 c4 c5,q⟩⟩
end
theorem Sn:fillsNumberSlot (.type "tuple") "mul" = pure false:=
 PySem.fillsNumberSlot_seq (id:="tuple.__mul__") (r:=aB (.builtin "tuple.__rmul__")) yZ.lookup (by decide +kernel) F.slot_tuple_rmul.lookup (by decide +kernel)
theorem So:seqRepeat? (.type "tuple")=pure (aB (.builtin "tuple.__mul__")):=by unfold seqRepeat?;rw[PySem.seqSlot_of (T:="tuple") (name:="__mul__") (id:="tuple.__mul__") yZ.lookup (by decide +kernel),PySem.seqSlot_of (T:="tuple") (name:="__rmul__") (id:="tuple.__rmul__") F.slot_tuple_rmul.lookup (by decide +kernel)];rfl
theorem Sq(k:Int)(t:Tok)(l:ah)(its:Array aa)(n:Nat)(dd:Option ah)(sl:Array (Option aa)) :
 Meets (Builtin.«int.__rmul__» ⟨[.int k t,.ref l],[]⟩) (λ_ R s=>s.heap.get? l=aB {cls:=.type "tuple",dict:=dd,data:=.seq its n,slots:=sl}/\R (.ok (.ret Value.notImplemented)) s):=
 .of_wp λprog w A R s h=>by
  obtain⟨hp,g,d,tk,os⟩:=s;obtain⟨e,h⟩:=h
  wp_walk using oq e;exact⟨_,rfl,h⟩
theorem Ss(l:ah)(its:Array aa)(n:Nat)(dd:Option ah)(sl:Array (Option aa))(k:Int)(t:Tok)(h1:¬(decide (k < -(2 ^ 63))||decide (k>=2 ^ 63)))(h2:(its.isEmpty||k==1)) :
 Meets (Builtin.«tuple.__mul__» ⟨[.ref l,.int k t],[]⟩) (λ_ R s=>s.heap.get? l=aB {cls:=.type "tuple",dict:=dd,data:=.seq its n,slots:=sl}/\R (.ok (.ret (.ref l))) s):=
 .of_wp λprog w A R s h=>by
  obtain⟨hp,g,d,tk,os⟩:=s;obtain⟨e,h⟩:=h;have f1:=AutoSeq1.idx_int
  wp_walk using oq e;refine xB ?_;rw[if_neg h1]
  wp_walk using oq e;exact⟨_,rfl,h⟩
theorem Su(l:ah)(its:Array aa)(n:Nat)(dd:Option ah)(sl:Array (Option aa))(k:Int)(t:Tok)(h1:¬(decide (k < -(2 ^ 63))||decide (k>=2 ^ 63)))(h2:¬(its.isEmpty||k==1))(h3:(decide (k<=0)||its.isEmpty)) :
 Meets (Builtin.«tuple.__mul__» ⟨[.ref l,.int k t],[]⟩) (λ_ R s=>s.heap.get? l=aB {cls:=.type "tuple",dict:=dd,data:=.seq its n,slots:=sl}/\R (.ok (.ret (.ref s.heap.objs.size))) {s with heap:=s.heap.push {cls:=.type "tuple",data:=.seq #[]}}):=
 .of_wp λprog w A R s h=>by
  obtain⟨hp,g,d,tk,os⟩:=s;obtain⟨e,h⟩:=h;have f1:=AutoSeq1.idx_int
  wp_walk using oq e;refine xB ?_;rw[if_neg h1]
  wp_walk using oq e;exact⟨_,rfl,h⟩
theorem Sv(l:ah)(its:Array aa)(n:Nat)(dd:Option ah)(sl:Array (Option aa))(k:Int)(t:Tok)(h1:¬(decide (k < -(2 ^ 63))||decide (k>=2 ^ 63)))(h2:¬(its.isEmpty||k==1))(h3:¬(decide (k<=0)||its.isEmpty)=true)
 (h4:¬(its.size*k> (2 ^ 63-1)/8)) (h5:¬Builtin.Tuple.tupleTooMany (its.size*k)) (h6:((bV k.toNat its).foldl (· ++ ·) #[]).size<=sizeLine) :
 Meets (Builtin.«tuple.__mul__» ⟨[.ref l,.int k t],[]⟩) (λ_ R s=>s.heap.get? l=aB {cls:=.type "tuple",dict:=dd,data:=.seq its n,slots:=sl}/\R (.ok (.ret (.ref s.heap.objs.size))) {s with heap:=s.heap.push {cls:=.type "tuple",data:=.seq ((bV k.toNat its).foldl (· ++ ·) #[])}}):=
 .of_wp λprog w A R s h=>by
  obtain⟨hp,g,d,tk,os⟩:=s;obtain⟨e,h⟩:=h;have f1:=AutoSeq1.idx_int
  wp_walk using oq e;refine xB ?_;rw[if_neg h1]
  wp_walk using oq e;refine xB ?_;rw[if_neg h4]
  wp_walk using oq e;exact⟨_,rfl,h⟩
section
variable{X:Cx}
noncomputable def tS(K:aK):R2:=λx y H Q=>∃a k xs,x=.ref a/\y=.int k/\cH K H a xs/\-(2 ^ 62)<=k/\k<2 ^ 62/\xs.length*k.toNat<=sizeLine/\
 ((xs.isEmpty||k==1)=true->Q (.ref a) H)/\((xs.isEmpty||k==1)=false->∀p,H p=aC->Q (.ref p) (upd H p (.tup (bV k.toNat xs).flatten)))
theorem LY{xs:List V}{us:List aa}(r:Vals xs us):us.toArray.isEmpty=xs.isEmpty:=by cases r<;>rfl
theorem Sw:dD X (binaryOp .Mult) (tS X.K):=by
 intro pins s σ H x y v u Q I rx ry h;obtain⟨a,k,xs,rfl,rfl,ha,k1,k2,hz,q1,q2⟩:=h;cases rx;obtain⟨t,rfl⟩:=ry;obtain⟨its,r,p,_⟩:=I.tuple ha;obtain⟨⟨c,dd,dt,sl⟩,e1,e2,n,e3⟩:=p
 replace e2:c=.type "tuple":=e2
 replace e3:dt=.seq its.toArray n:=e3;subst e2 e3;have hl:xs.length=its.length:=r.length;have h1:¬(decide (k < -(2 ^ 63))||decide (k>=2 ^ 63))=true:=by simp only[pU,iB];lia
 refine wpAny_binaryOp_repeat_ref (T:="tuple") (U:="int") (by decide) ⟨_,e1,rfl⟩ (λs'=>typeIs_int s' k t) Sn F.fills_int_mul F.slot_int_rmul So F.slot_int_index.lookup
  (qz F.slot_int_rmul (typeIs_int s k t) F.entry_int_rmul (F.args_int_rmul_2 _ _) (Sq k t a its.toArray n dd sl) ⟨e1,rfl,⟨_,e1,rfl⟩,?_⟩)
 by_cases h2:(its.toArray.isEmpty||k==1)=true;refine qz yZ ⟨_,e1,rfl⟩ F.entry_tuple_mul (F.args_tuple_mul_2 _ _) (Ss a its.toArray n dd sl k t h1 h2) ⟨e1,?_⟩;exact⟨.ref a,H,I,rfl,q1 (by rw[<-LY r];exact h2)⟩;have q2:=q2 (by rw[<-LY r];simpa using h2);by_cases h3:(decide (k<=0)||its.toArray.isEmpty)=true;have hk:k.toNat=0:=by
  have:its.toArray.isEmpty=false:=by
   cases q:its.toArray.isEmpty with|false=>rfl|true=>rw[q]at h2;exact absurd rfl h2
  rw[this,Bool.or_false,iB]at h3;lia
 refine qz yZ ⟨_,e1,rfl⟩ F.entry_tuple_mul (F.args_tuple_mul_2 _ _) (Su a its.toArray n dd sl k t h1 h2 h3) ⟨e1,?_⟩;rw[hk]at q2;exact⟨.ref s.heap.objs.size,_,I.laid (t':=s.toks) (o:=.tup []) (λb ob q=>cQ _ q) (bg _) ⟨kT _,[],.nil,kU.new _ _⟩,rfl,q2 _ (I.hok.fresh (bg _))⟩;have hk:0<k:=by simp only[pU,iB,not_or]at h3;lia
 have hkn:((k.toNat:Nat):Int)=k:=Int.toNat_of_nonneg (by lia);have hmul:(its.toArray.size:Int)*k=((xs.length*k.toNat:Nat):Int):=by rw[dQ,<-hl,Int.natCast_mul,hkn]
 have hsl:(sizeLine:Nat)=16777216:=rfl;have fl:(bV k.toNat its.toArray).foldl (· ++ ·) #[]=(bV k.toNat its).flatten.toArray:=by
  have:=Lq its k.toNat []
  rw[xF]at this;exact this
 refine qz yZ ⟨_,e1,rfl⟩ F.entry_tuple_mul (F.args_tuple_mul_2 _ _) (Sv a its.toArray n dd sl k t h1 h2 h3 (by rw[hmul];lia) (by
  unfold Builtin.Tuple.tupleTooMany;rw[hmul,iB];lia) (by rw[fl,dQ,Lu,Nat.mul_comm,<-hl];exact hz)) ⟨e1,?_⟩
 rw[fl];exact⟨.ref s.heap.objs.size,_,I.laid (t':=s.toks) (o:=.tup (bV k.toNat xs).flatten) (λb ob q=>cQ _ q) (bg _) ⟨by rw[Lu,Nat.mul_comm];exact hz,_,r.rep k.toNat,kU.new _ _⟩,rfl,q2 _ (I.hok.fresh (bg _))⟩
noncomputable def LZ(K:aK):R2:=λx y H Q=>∃a b ys,x=.ref a/\y=.ref b/\cH K H a []/\cH K H b ys/\Q (.ref b) H
theorem Sx:dD X (binaryOp .Add) (LZ X.K):=by
 intro pins s σ H x y v u Q I rx ry h;obtain⟨a,b,ys,rfl,rfl,ha,hb,q⟩:=h;cases rx;cases ry;obtain⟨its,r1,p1,_⟩:=I.tuple ha;obtain⟨its2,r2,p2,_⟩:=I.tuple hb;cases r1;obtain⟨⟨c,dd,dt,sl⟩,e1,e2,n,e3⟩:=p1;obtain⟨⟨c2,dd2,Sy,sl2⟩,f1,f2,n2,f3⟩:=p2
 replace e2:c=.type "tuple":=e2
 replace e3:dt=.seq ([]:List aa).toArray n:=e3
 replace f2:c2=.type "tuple":=f2
 replace f3:Sy=.seq its2.toArray n2:=f3;subst e2 e3 f2 f3;exact concat_meets ⟨_,e1,rfl⟩ ⟨_,f1,rfl⟩ yI yJ yY yX (yW _ _) (tuple_addW0 a b ([]:List aa).toArray its2.toArray n n2 dd dd2 sl sl2 rfl) ⟨e1,f1,⟨.ref b,H,I,rfl,q⟩⟩
noncomputable def ia(ds:List aA)(d:aA):Bool:=ds.any λe=>PyData.eqv e d
noncomputable def rm(K:aK)(neg:Bool):R2:=λx y H Q=>∃p xs ds d,y=.ref p/\(cZ K H p xs\/cH K H p xs)/\mX K (λ_=>False) H xs ds/\Rp K (λ_=>False) H x d/\ds.all SeqAt.shaped=true/\SeqAt.shaped d=true/\Q (.bl (if neg then !ia ds d else ia ds d)) H
theorem Hr{h:az}:∀{us:List aa} {ds:List aA} {as:List ah} {i:Nat} {u:aa},ReadsAll h us ds as->us[i]?=aB u->∃d bs,ds[i]?=aB d/\Reads h u d bs
 |_,_,_,i,u,.nil,e=>by simp at e
 |_,_,_,0,u,.cons r _,e=>by simp at e;subst e;exact⟨_,_,rfl,r⟩
 |_,_,_,i+1,u,.cons _ rs,e=>by
  obtain⟨d,bs,h1,h2⟩:=Hr rs (by simpa using e);exact⟨d,bs,by simpa using h1,h2⟩
open Classical in
noncomputable def eK(us:List aa)(ds:List aA)(d:aA)(u:aa):Bool:=decide (∃(i:Nat) (e:aA),us[i]?=aB u/\ds[i]?=aB e/\PyData.eqv e d=true)
open Classical in
theorem Ed{us:List aa}{ds:List aA}{d:aA}{u:aa}:eK us ds d u=true↔∃(i:Nat) (e:aA),us[i]?=aB u/\ds[i]?=aB e/\PyData.eqv e d=true:=by unfold eK;exact decide_eq_true_iff
theorem Ef{us:List aa}{ds:List aA}{d:aA}(hl:us.length=ds.length):us.any (eK us ds d)=ia ds d:=by
 cases q:ia ds d with
 |true=>
  unfold ia at q;rw[Dd]at q;obtain⟨e,h1,h2⟩:=q;obtain⟨i,hi,h3⟩:=List.mem_iff_getElem.mp h1;rw[Dd];refine⟨us[i]'(by lia),kR _,?_⟩;rw[Ed];exact⟨i,e,by simp,by rw[cN hi,h3],h2⟩
 |false=>
  unfold ia at q;rw[List.any_eq_false]at q ⊢;intro u hu z;rw[Ed]at z;obtain⟨i,e,h1,h2,h3⟩:=z;exact q e (kQ h2) h3
theorem Am{h:az}:∀{us:List aa} {ds:List aA} {as:List ah},ReadsAll h us ds as->us.length=ds.length|_,_,_,.nil=>rfl|_,_,_,.cons _ r=>by rw[cY,cY,Am r]
theorem Eg{A:ak}{s:af}{us:List aa}{ds:List aA}{as bs:List ah}{d:aA}{v:aa}(hu:A.units+64<cLine)(ra:ReadsAll s.heap us ds as)(rb:Reads s.heap v d bs)(s1:ds.all SeqAt.shaped)(s2:SeqAt.shaped d) :
 ∀u∈us,SeqAt.EqAt A s u v (eK us ds d u):=by
 intro u hm;have sh:∀(i:Nat)(e:aA),ds[i]?=aB e->SeqAt.shaped e=true:=λi e q=>i6.mp s1 e (kQ q);cases q:eK us ds d u with
 |true=>
  rw[Ed]at q;obtain⟨i,e,h1,h2,h3⟩:=q;obtain⟨e',cs,h4,h5⟩:=Hr ra h1;rw[h2]at h4;cases h4;have:=SeqAt.eqAt_reads e d A s u v cs bs h5 rb (DB (sh i e h2)) (DB s2) (SeqAt.room_of_shaped (sh i e h2) hu);rw[h3]at this;exact this
 |false=>
  obtain⟨i,hi,h1⟩:=List.mem_iff_getElem.mp hm;have h1:us[i]?=aB u:=by rw[cN hi,h1]
  obtain⟨e,cs,h4,h5⟩:=Hr ra h1;have h3:PyData.eqv e d=false:=by
   cases z:PyData.eqv e d with
   |false=>rfl
   |true=>
    rw[Ed.mpr ⟨i,e,h1,h4,z⟩]at q;cases q
  have:=SeqAt.eqAt_reads e d A s u v cs bs h5 rb (DB (sh i e h4)) (DB s2) (SeqAt.room_of_shaped (sh i e h4) hu);rw[h3]at this;exact this
theorem Sz(hu:X.A.in1.units+64<cLine):dD X (compareOp .In) (rm X.K false):=by
 intro pins s σ H x y v u Q I rx ry h;obtain⟨p,xs,ds,d,rfl,hq,r1,r2,s1,s2,q⟩:=h;cases ry;obtain⟨bs,rb⟩:=r2.reads I rx;rcases hq with hq|hq
 obtain⟨its,r,pl,hz⟩:=I.list hq;obtain⟨as,ra⟩:=r1.reads I r;refine SeqAt.in_listAt (eK its ds d) pl.isList (λw hw=>Eg hu ra rb s1 s2 w (by simpa using hw)) ⟨.bl _,H,I,rfl,?_⟩;rw[show its.toArray.any (eK its ds d)=its.any (eK its ds d) by simp,Ef (Am ra)];exact q;obtain⟨its,r,pl,hz⟩:=I.tuple hq;obtain⟨as,ra⟩:=r1.reads I r;refine SeqAt.in_tupleAt (eK its ds d) pl (λw hw=>Eg hu ra rb s1 s2 w (by simpa using hw)) ⟨.bl _,H,I,rfl,?_⟩;rw[show its.toArray.any (eK its ds d)=its.any (eK its ds d) by simp,Ef (Am ra)];exact q
theorem SD(hu:X.A.in1.units+64<cLine):dD X (compareOp .NotIn) (rm X.K true):=by
 intro pins s σ H x y v u Q I rx ry h;obtain⟨p,xs,ds,d,rfl,hq,r1,r2,s1,s2,q⟩:=h;cases ry;obtain⟨bs,rb⟩:=r2.reads I rx;rcases hq with hq|hq
 obtain⟨its,r,pl,hz⟩:=I.list hq;obtain⟨as,ra⟩:=r1.reads I r;refine SeqAt.notIn_listAt (eK its ds d) pl.isList (λw hw=>Eg hu ra rb s1 s2 w (by simpa using hw)) ⟨.bl _,H,I,rfl,?_⟩;rw[show its.toArray.any (eK its ds d)=its.any (eK its ds d) by simp,Ef (Am ra)];exact q;obtain⟨its,r,pl,hz⟩:=I.tuple hq;obtain⟨as,ra⟩:=r1.reads I r;refine SeqAt.notIn_tupleAt (eK its ds d) pl (λw hw=>Eg hu ra rb s1 s2 w (by simpa using hw)) ⟨.bl _,H,I,rfl,?_⟩;rw[show its.toArray.any (eK its ds d)=its.any (eK its ds d) by simp,Ef (Am ra)];exact q
end
end L2
namespace HT
open PySem PySem.Spec PyProof.Rows
section
variable{prog:ai}{w:aj}{A:ak}{E:aa->af->Prop}{s:af}
theorem fq{t sl:ah}{items:Array aa}{vl vu:aa}{lo hi:Option Int}{Q:aa->af->Prop}(ht:IsTup s.heap t items)(hs:s.heap.IsSliceOf sl vl vu .none)(pl:IsPart vl lo)(pu:IsPart vu hi)
 (hw:bT items.size 0 lo=0/\bT items.size items.size hi=items.size)
 (h:Q (.ref t) s):wpAny (model prog w) A (getItem (.ref t) (.ref sl)) Q E s:=by
 obtain⟨os,hos,hcs,hds⟩:=id hs;have GD:s.TypeIs (.ref sl) "slice":=⟨os,hos,hcs⟩
 unfold getItem
 try with_reducible refine mL ?_
 first|refine aG (aX ?_)|skip
 refine aG (wpAny_sequenceKey ht.typeIs (by decide) ?_);refine aG (pP (name:=Str.ofString "__getitem__") ht.typeIs xK
  (lQ xK ht.typeIs entry_tuple_getitem ?_ (args_tuple_getitem _ _)))
 show wpAny _ _ (Builtin.Tuple.tupleItemsOf (.ref t) >>= _) _ _ s;refine aG (tupleItemsOf_ ht ?_);refine aG (yK GD ?_);rw[if_pos (by decide)];refine aG (Lk hs pl pu ?_);have hyes:((((bT items.size 0 lo:Nat):Int)==0&& (1:Int)==1&& (bT items.size items.size hi-bT items.size 0 lo)==items.size)):=by rw[hw.1,hw.2];simp
 show wpAny _ _ (if(((bT items.size 0 lo:Nat):Int)==0&& (1:Int)==1&& (bT items.size items.size hi-bT items.size 0 lo)==items.size)=true then _ else _) _ _ s;rw[if_pos hyes];unfold Builtin.Tuple.tupleIsExact;refine aG (aG (yK ht.typeIs (aX ?_)));rw[if_pos (by decide)];refine aG (nL ?_);exact aX ⟨_,rfl,aX h⟩
end
end HT
namespace L2
open PySem PySem.Spec PyProof.Rows
variable{X:Cx}
noncomputable def An(K:aK):V->Option Int->Option Int->Hp->VK->Prop:=λx lo hi H Q=>∃a xs,x=.ref a/\cH K H a xs/\
 (HT.bT xs.length 0 lo=0/\HT.bT xs.length xs.length hi=xs.length)/\Q (.ref a) H
theorem SG:qZ X (An X.K):=by
 intro pins s σ H x v vl vu lo hi sl Q I rx hs pl pu h;obtain⟨a,xs,rfl,hx,hw,q⟩:=h;cases rx;obtain⟨its,r,ht,hz⟩:=I.tuple hx;have hlen:its.toArray.size=xs.length:=by rw[dQ];exact r.length.symm
 refine⟨"tuple",_,xK.lookup,ht.typeIs,?_⟩;refine HT.fq ht hs pl pu (by rw[hlen];exact hw) ?_;exact⟨.ref a,_,I,rfl,q⟩
noncomputable def Hs(K:aK):V->Option Int->Option Int->Hp->VK->Prop:=λx lo hi H Q=>(zS K x lo hi H Q\/An K x lo hi H Q)\/zX K x lo hi H Q
theorem SH:qZ X (Hs X.K):=(Rq.or SG).or Rz
noncomputable def ZI(b:Bool)(h:az)(I l:ah)(k:Nat):Prop:=match b with|true=>h.IsTupleIter I l k|false=>h.IsListIter I l k
noncomputable def ZS(b:Bool)(h:az)(l:ah)(xs:Array aa):Prop:=match b with|true=>h.IsTuple l xs|false=>h.IsList l xs
noncomputable def Ao(b:Bool):String:=match b with|true=>"tuple_iterator" |false=>"list_iterator"
noncomputable def Eh(b:Bool)(l:ah):Obj:={cls:=.type (Ao b),data:=.fields #[.ref l,.int 0 0]}
theorem ZI.ex{b:Bool}{h h':az}{I l c:ah}{k:Nat}(x:ZI b h I l k)(s:Heap.ExtBut c h h')(n:I≠c):ZI b h' I l k:=by cases b;exact Heap.IsListIter.extBut x s n;exact Heap.IsTupleIter.extBut x s n
theorem ZS.ex{b:Bool}{h h':az}{l c:ah}{xs:Array aa}(x:ZS b h l xs)(s:Heap.ExtBut c h h')(n:l≠c):ZS b h' l xs:=by cases b;exact Heap.IsList.extBut x s n;exact Heap.IsTuple.extBut x s n
theorem ZI.mv{b:Bool}{h h':az}{I l:ah}{k:Nat}(x:ZI b h I l k)(e:∀o,h.get? I=aB o->h'.get? I=aB o):ZI b h' I l k:=by cases b;exact Heap.IsListIter.at x e;exact Heap.IsTupleIter.at x e
theorem ZI.ob{b:Bool}{h:az}{I l:ah}{k:Nat}(x:ZI b h I l k):∃o,h.get? I=aB o/\∀v,o.data≠.cell v:=by cases b;obtain⟨o,h1,h2,h3⟩:=x;exact⟨o,h1,λv z=>by rw[h3]at z;cases z⟩;obtain⟨o,h1,h2,h3⟩:=x;exact⟨o,h1,λv z=>by rw[h3]at z;cases z⟩
theorem ZS.lt{b:Bool}{h:az}{l:ah}{xs:Array aa}(x:ZS b h l xs):l<h.objs.size:=by cases b<;> (obtain⟨o,h1,_⟩:=x;exact dB h1)
theorem ZS.push{b:Bool}{h:az}{l:ah}{xs:Array aa}(x:ZS b h l xs)(o:Obj):ZS b (h.push o) l xs:=by cases b;exact Heap.IsList.push x o;exact Heap.IsTuple.push x o
section
variable{prog:ai}{w:aj}{A:ak}{E:aa->af->Prop}{s:af}
theorem Ht{b:Bool}{I l:ah}{k:Nat}{xs:Array aa}{y:aa}{Q:aa->af->Prop}(hi:ZI b s.heap I l k)(hl:ZS b s.heap l xs)(hy:xs[k]?=aB y)
 (q:∀g,ZI b g I l (k+1)->Heap.SameBut I s.heap g->Q y {s with heap:=g}):wpAny (model prog w) A (Builtin.SmallTypes.nextOf (.ref I)) Q E s:=by
 cases b;exact wpAny_nextOf_list_item hi hl hy q;exact LI hi hl hy q
theorem z_end{b:Bool}{I l:ah}{k:Nat}{xs:Array aa}{Q:aa->af->Prop}(hA:A.handled=aC)(hi:ZI b s.heap I l k)(hl:ZS b s.heap l xs)(hy:xs[k]?=aC)
 (q:∀g e,Heap.ExtBut I s.heap g->(∃o,g.get? e=aB o/\o.cls=.type "StopIteration")->E (.ref e) {s with heap:=g}):wpAny (model prog w) A (Builtin.SmallTypes.nextOf (.ref I)) Q E s:=by
 cases b;exact wpAny_nextOf_list_end hA hi hl hy q;exact Hi hA hi hl hy q
structure ZA(z TI TO i1 i2 l1 l2:ah):Prop where
 a1:TI≠z/\TO≠z/\i1≠z/\i2≠z
 a2:TI≠TO/\TI≠i1/\TI≠i2/\TO≠i1/\TO≠i2/\i1≠i2
 a3:l1≠z/\l1≠TO/\l1≠i1/\l1≠i2
 a4:l2≠z/\l2≠TO/\l2≠i1/\l2≠i2
theorem SI{n l1 l2:Nat}(h1:l1<n)(h2:l2<n):ZA (n+4) (n+2) (n+3) n (n+1) l1 l2:=by have e:∀{a b:Nat},(a<b\/b<a)->a≠b:=λh=>h.elim gB tu;refine⟨⟨?_,?_,?_,?_⟩,⟨?_,?_,?_,?_,?_,?_⟩,⟨?_,?_,?_,?_⟩,?_,?_,?_,?_⟩<;>exact e (by lia)
theorem SJ{b c:Bool}{z TI TO i1 i2 l1 l2:ah}{k:Nat}{xs ys:Array aa}{x y p q:aa}{Q:aa->af->Prop}(D:ZA z TI TO i1 i2 l1 l2)
 (hz:IsZip s.heap z TI TO .none) (hTI:IsPair s.heap TI (.ref i1) (.ref i2)) (hTO:IsPair s.heap TO p q)
 (h1:ZI b s.heap i1 l1 k) (h2:ZI c s.heap i2 l2 k) (hl1:ZS b s.heap l1 xs) (hl2:ZS c s.heap l2 ys) (hx:xs[k]?=aB x) (hy:ys[k]?=aB y)
 (hQ:∀h',IsZip h' z TI TO (rawInt s.heap.objs.size)->IsPair h' TO x y->ZI b h' i1 l1 (k+1)->ZI c h' i2 l2 (k+1)->IsPair h' s.heap.objs.size x y->h'.objs.size=s.heap.objs.size+1->
   (∀c o,c≠z->c≠TO->c≠i1->c≠i2->s.heap.get? c=aB o->h'.get? c=aB o)->Q (.ref s.heap.objs.size) {s with heap:=h'}) :
 wpAny (model prog w) A (Builtin.«zip.__next__» ⟨[.ref z],[]⟩) (λfin s'=>∃v,fin=.done (.ret v)/\Q v s') E s:=by
 obtain⟨⟨d1,d2,d3,d4⟩,⟨d5,d6,d7,d8,d9,Aq⟩,⟨Ei,SK,SM,SN⟩,Hu,Hv,Hw,SO⟩:=D;show wpAny _ _ (field (.ref z) 2 >>= _) _ _ _;refine aG (jn hz rfl (x:=.bool false) rfl ?_);show wpAny _ _ (field (.ref z) 3 >>= _) _ _ _;refine aG (jn hz rfl (x:=.ref TI) rfl (aG (pR hTI rfl ?_)));show wpAny _ _ (Builtin.SmallTypes.ownedTupleIsFree (.ref z) >>= _) _ _ _;refine aG ?_;unfold Builtin.SmallTypes.ownedTupleIsFree;refine aG (jn hz rfl (x:=.none) rfl (aX ?_));simp only[cC];refine aG (nL (aG (jn hz rfl (x:=.ref TO) rfl (aG (xx hz (by simp) λg1 z1 s1=>?_)))))
 replace z1:IsZip g1 z TI TO .ellipsis:=z1;refine aG ?_;simp only[List.zipIdx_cons,List.zipIdx_nil,xE,uY];refine aG (aG (C0 ?_));show wpAny _ _ (Builtin.SmallTypes.nextOf (.ref i1) >>= _) _ _ _;refine aG (Ht (h1.ex s1.extBut d3) (hl1.ex s1.extBut Ei) hx λg2 y1 s2=>aX ?_);have t2:IsPair g2 TO p q:=s2.extBut _ _ d8 (s1.extBut _ _ d2 hTO);refine aG (pR t2 rfl (aG (wpAny_updateSeq_pair t2 λg3 t3 s3=>?_)))
 replace t3:IsPair g3 TO x q:=t3;refine aG (C4 (aX (aG (aG (C0 ?_)))));show wpAny _ _ (Builtin.SmallTypes.nextOf (.ref i2) >>= _) _ _ _;refine aG (Ht (((h2.ex s1.extBut d4).ex s2.extBut (eZ Aq)).ex s3.extBut (eZ d9)) (((hl2.ex s1.extBut Hu).ex s2.extBut Hw).ex s3.extBut Hv) hy λg4 y2 s4=>aX ?_);have t4:IsPair g4 TO x q:=s4.extBut _ _ d9 t3;refine aG (pR t4 rfl (aG (wpAny_updateSeq_pair t4 λg5 t5 s5=>?_)))
 replace t5:IsPair g5 TO x y:=t5;refine aG (C4 (aX (aX (aG (pR t5 rfl (aG (wpAny_newTuple ?_)))))));have hsz:g5.objs.size=s.heap.objs.size:=by rw[s5.1,s4.1,s3.1,s2.1,s1.1]
 have z5:IsZip g5 z TI TO .ellipsis:=s5.extBut _ _ (eZ d2) (s4.extBut _ _ (eZ d4) (s3.extBut _ _ (eZ d2) (s2.extBut _ _ (eZ d3) z1)));have k5:∀c o,c≠z->c≠TO->c≠i1->c≠i2->s.heap.get? c=aB o->g5.get? c=aB o:=λc o c1 c2 c3 c4 e=>s5.extBut _ _ c2 (s4.extBut _ _ c4 (s3.extBut _ _ c2 (s2.extBut _ _ c3 (s1.extBut _ _ c1 e))));have SQ:ZI b g5 i1 l1 (k+1):=((y1.ex s3.extBut (eZ d8)).ex s4.extBut Aq).ex s5.extBut (eZ d8);have SR:ZI c g5 i2 l2 (k+1):=y2.ex s5.extBut (eZ d9);have Ej:z<g5.objs.size:=dB z5;show wpAny _ _ (Builtin.SmallTypes.ownedTupleHandOut (.ref z) (.ref g5.objs.size) >>= _) _ _ _;refine aG ?_;unfold Builtin.SmallTypes.ownedTupleHandOut;have z6:IsZip (g5.push {cls:=.type "tuple",data:=.seq #[x,y]}) z TI TO .ellipsis:=cQ _ z5;refine aG (xx z6 (by simp) λg7 z7 s7=>?_)
 replace z7:IsZip g7 z TI TO (rawInt g5.objs.size):=z7;refine xx z7 (by simp) λg8 z8 s8=>?_
 replace z8:IsZip g8 z TI TO (rawInt g5.objs.size):=z8;have up:∀c o,c≠z->g5.get? c=aB o->g8.get? c=aB o:=λc o c1 e=>s8.extBut _ _ c1 (s7.extBut _ _ c1 (cQ _ e));have p8:IsPair g8 g5.objs.size x y:=s8.extBut _ _ (tu Ej) (s7.extBut _ _ (tu Ej) (fX _ rfl));have n8:g8.objs.size=g5.objs.size+1:=by rw[s8.1,s7.1,j5]
 rw[hsz]at z8 p8 n8;refine aX ⟨_,rfl,?_⟩;show Q (.ref g5.objs.size) _;rw[hsz];exact hQ g8 z8 (up _ _ d2 t5) (SQ.mv λo e=>up _ o d3 e) (SR.mv λo e=>up _ o d4 e) p8 n8 λc o c1 c2 c3 c4 e=>up c o c1 (k5 c o c1 c2 c3 c4 e)
theorem SV{b c:Bool}{z TI TO i1 i2 l1 l2:ah}{k:Nat}{xs ys:Array aa}{p q:aa}{Q:Fin->af->Prop}(hA:A.handled=aC)(D:ZA z TI TO i1 i2 l1 l2)
 (hz:IsZip s.heap z TI TO .none) (hTI:IsPair s.heap TI (.ref i1) (.ref i2)) (hTO:IsPair s.heap TO p q)
 (h1:ZI b s.heap i1 l1 k) (h2:ZI c s.heap i2 l2 k) (hl1:ZS b s.heap l1 xs) (hl2:ZS c s.heap l2 ys) (he:xs[k]?=aC\/ys[k]?=aC)
 (hE:∀h' e,(∀c o,c≠z->c≠TO->c≠i1->c≠i2->s.heap.get? c=aB o->h'.get? c=aB o)->(∃o,h'.get? e=aB o/\o.cls=.type "StopIteration")->E (.ref e) {s with heap:=h'}) :
 wpAny (model prog w) A (Builtin.«zip.__next__» ⟨[.ref z],[]⟩) Q E s:=by
 obtain⟨⟨d1,d2,d3,d4⟩,⟨d5,d6,d7,d8,d9,Aq⟩,⟨Ei,SK,SM,SN⟩,Hu,Hv,Hw,SO⟩:=D;show wpAny _ _ (field (.ref z) 2 >>= _) _ _ _;refine aG (jn hz rfl (x:=.bool false) rfl ?_);show wpAny _ _ (field (.ref z) 3 >>= _) _ _ _;refine aG (jn hz rfl (x:=.ref TI) rfl (aG (pR hTI rfl ?_)));show wpAny _ _ (Builtin.SmallTypes.ownedTupleIsFree (.ref z) >>= _) _ _ _;refine aG ?_;unfold Builtin.SmallTypes.ownedTupleIsFree;refine aG (jn hz rfl (x:=.none) rfl (aX ?_));simp only[cC];refine aG (nL (aG (jn hz rfl (x:=.ref TO) rfl (aG (xx hz (by simp) λg1 z1 s1=>?_)))))
 replace z1:IsZip g1 z TI TO .ellipsis:=z1;refine aG ?_;simp only[List.zipIdx_cons,List.zipIdx_nil,xE,uY];refine aG (aG (C0 ?_));show wpAny _ _ (Builtin.SmallTypes.nextOf (.ref i1) >>= _) _ _ _;cases hx:xs[k]? with
 |none=>
  refine aG (z_end hA (h1.ex s1.extBut d3) (hl1.ex s1.extBut Ei) hx λg2 e s2 hs=>?_);obtain⟨oe,vI,hce⟩:=hs;have z2:IsZip g2 z TI TO .ellipsis:=s2 _ _ (eZ d3) z1;have Hx:e≠z:=λx=>by subst x;rw[z2]at vI;cases vI;simp at hce
  exact xx z2 (by simp) λg3 _ s3=>hE g3 e (λc o c1 _ c3 _ x=>s3.extBut _ _ c1 (s2 _ _ c3 (s1.extBut _ _ c1 x))) ⟨oe,s3.extBut _ _ Hx vI,hce⟩
 |some x=>
  have hy:ys[k]?=aC:=by rcases he with h|h;rw[hx]at h;cases h;exact h
  refine aG (Ht (h1.ex s1.extBut d3) (hl1.ex s1.extBut Ei) hx λg2 y1 s2=>aX ?_);have t2:IsPair g2 TO p q:=s2.extBut _ _ d8 (s1.extBut _ _ d2 hTO);refine aG (pR t2 rfl (aG (wpAny_updateSeq_pair t2 λg3 t3 s3=>?_)));refine aG (C4 (aX (aG (aG (C0 ?_)))));show wpAny _ _ (Builtin.SmallTypes.nextOf (.ref i2) >>= _) _ _ _;refine aG (z_end hA (((h2.ex s1.extBut d4).ex s2.extBut (eZ Aq)).ex s3.extBut (eZ d9)) (((hl2.ex s1.extBut Hu).ex s2.extBut Hw).ex s3.extBut Hv) hy λg4 e s4 hs=>?_);obtain⟨oe,vI,hce⟩:=hs;have z4:IsZip g4 z TI TO .ellipsis:=s4 _ _ (eZ d4) (s3.extBut _ _ (eZ d2) (s2.extBut _ _ (eZ d3) z1));have Hx:e≠z:=λx=>by subst x;rw[z4]at vI;cases vI;simp at hce
  exact xx z4 (by simp) λg5 _ s5=>hE g5 e (λc o c1 c2 c3 c4 x=>s5.extBut _ _ c1 (s4 _ _ c4 (s3.extBut _ _ c2 (s2.extBut _ _ c3 (s1.extBut _ _ c1 x))))) ⟨oe,s5.extBut _ _ Hx vI,hce⟩
theorem SX{b c:Bool}{z TI TO i1 i2 l1 l2:ah}{k:Nat}{xs ys:Array aa}{x y p q:aa}{Q:Option aa->af->Prop}(D:ZA z TI TO i1 i2 l1 l2)
 (hz:IsZip s.heap z TI TO .none) (hTI:IsPair s.heap TI (.ref i1) (.ref i2)) (hTO:IsPair s.heap TO p q)
 (h1:ZI b s.heap i1 l1 k) (h2:ZI c s.heap i2 l2 k) (hl1:ZS b s.heap l1 xs) (hl2:ZS c s.heap l2 ys) (hx:xs[k]?=aB x) (hy:ys[k]?=aB y)
 (hQ:∀h',IsZip h' z TI TO (rawInt s.heap.objs.size)->IsPair h' TO x y->ZI b h' i1 l1 (k+1)->ZI c h' i2 l2 (k+1)->IsPair h' s.heap.objs.size x y->h'.objs.size=s.heap.objs.size+1->
   (∀c o,c≠z->c≠TO->c≠i1->c≠i2->s.heap.get? c=aB o->h'.get? c=aB o)->Q (aB (.ref s.heap.objs.size)) {s with heap:=h'}):wpAny (model prog w) A (pyNext (.ref z)) Q E s:=by
 have hT:s.TypeIs (.ref z) "zip":=⟨_,hz,rfl⟩
 unfold pyNext;exact aG (xA (pP (name:=Str.ofString "__next__") hT Dz (lQ Dz hT F.entry_zip_next (SJ D hz hTI hTO h1 h2 hl1 hl2 hx hy λh' a1 a2 a3 a4 a5 a6 a7=>aX (hQ h' a1 a2 a3 a4 a5 a6 a7)) (F.args_zip_next_1 _))))
theorem SY{b c:Bool}{z TI TO i1 i2 l1 l2:ah}{k:Nat}{xs ys:Array aa}{p q:aa}{Q:Option aa->af->Prop}(hA:A.in1.handled=aC)(D:ZA z TI TO i1 i2 l1 l2)
 (hz:IsZip s.heap z TI TO .none) (hTI:IsPair s.heap TI (.ref i1) (.ref i2)) (hTO:IsPair s.heap TO p q)
 (h1:ZI b s.heap i1 l1 k) (h2:ZI c s.heap i2 l2 k) (hl1:ZS b s.heap l1 xs) (hl2:ZS c s.heap l2 ys) (he:xs[k]?=aC\/ys[k]?=aC)
 (hQ:∀h',(∀c o,c≠z->c≠TO->c≠i1->c≠i2->s.heap.get? c=aB o->h'.get? c=aB o)->Q aC {s with heap:=h'}):wpAny (model prog w) A (pyNext (.ref z)) Q E s:=by
 have hT:s.TypeIs (.ref z) "zip":=⟨_,hz,rfl⟩
 unfold pyNext;refine aG (xA (pP (name:=Str.ofString "__next__") hT Dz (lQ Dz hT F.entry_zip_next (SV hA D hz hTI hTO h1 h2 hl1 hl2 he λh' e hk hs=>?_) (F.args_zip_next_1 _))));obtain⟨o,ho,hc⟩:=hs;exact aG (uQ (T:="StopIteration") (b:=true) ⟨o,ho,hc⟩ isSubtype_stop (aX (hQ _ hk)))
noncomputable def Ek(h:az)(b:Bool)(l1:ah):az:=h.push (Eh b l1)
noncomputable def Ar(h:az)(b c:Bool)(l1 l2:ah):az:=(Ek h b l1).push (Eh c l2)
noncomputable def As(h:az)(b c:Bool)(l1 l2:ah):az:=(Ar h b c l1 l2).push {cls:=.type "tuple",data:=.seq #[.ref h.objs.size,.ref (Ek h b l1).objs.size]}
noncomputable def Au(h:az)(b c:Bool)(l1 l2:ah):az:=(As h b c l1 l2).push {cls:=.type "tuple",data:=.seq #[.none,.none]}
noncomputable def tT(h:az)(b c:Bool)(l1 l2:ah):az:=(Au h b c l1 l2).push {cls:=.type "zip",data:=.fields #[.none,.bool false,.bool false,.ref (Ar h b c l1 l2).objs.size,.ref (As h b c l1 l2).objs.size]}
theorem S0(b c:Bool)(l1 l2:ah)(xs ys:Array aa):Meets (Builtin.«zip.__new__» ⟨[.type "zip",.ref l1,.ref l2],[]⟩) (λ_ R s=>ZS b s.heap l1 xs/\ZS c s.heap l2 ys/\
 R (.ok (.ret (.ref (Au s.heap b c l1 l2).objs.size))) {s with heap:=tT s.heap b c l1 l2}):=
 .of_wp λprog w A R s h=>by
  obtain⟨hp,g,d,tk,os⟩:=s;obtain⟨m1,m2,h⟩:=h;have hsub:=sub_zip;have e1:ZS b (Shared.heap ⟨hp,g,d,tk,os⟩) l1 xs:=m1;have e2:ZS c (Shared.heap ⟨hp.push (Eh b l1),g,d,tk,os⟩) l2 ys:=m2.push _;cases b<;>cases c;have q1:Heap.IsList (Shared.heap ⟨hp,g,d,tk,os⟩) l1 xs:=e1;have q2:Heap.IsList (Shared.heap ⟨hp.push {cls:=.type "list_iterator",data:=.fields #[.ref l1,.int 0 0]},g,d,tk,os⟩) l2 ys:=e2
  wp_walk using xy q1,xy q2;exact⟨_,rfl,h⟩;have q1:Heap.IsList (Shared.heap ⟨hp,g,d,tk,os⟩) l1 xs:=e1;have q2:Heap.IsTuple (Shared.heap ⟨hp.push {cls:=.type "list_iterator",data:=.fields #[.ref l1,.int 0 0]},g,d,tk,os⟩) l2 ys:=e2
  wp_walk using xy q1,uP q2;exact⟨_,rfl,h⟩;have q1:Heap.IsTuple (Shared.heap ⟨hp,g,d,tk,os⟩) l1 xs:=e1;have q2:Heap.IsList (Shared.heap ⟨hp.push {cls:=.type "tuple_iterator",data:=.fields #[.ref l1,.int 0 0]},g,d,tk,os⟩) l2 ys:=e2
  wp_walk using uP q1,xy q2;exact⟨_,rfl,h⟩;have q1:Heap.IsTuple (Shared.heap ⟨hp,g,d,tk,os⟩) l1 xs:=e1;have q2:Heap.IsTuple (Shared.heap ⟨hp.push {cls:=.type "tuple_iterator",data:=.fields #[.ref l1,.int 0 0]},g,d,tk,os⟩) l2 ys:=e2
  wp_walk using uP q1,uP q2;exact⟨_,rfl,h⟩
theorem L0{b:Bool}{h:az}{l:ah}{a:ah}(e:h.get? a=aB (Eh b l)):ZI b h a l 0:=by cases b<;>exact⟨_,e,rfl,rfl⟩
theorem S1{b c:Bool}{l1 l2:ah}{xs ys:Array aa}{Q:aa->af->Prop}(m1:ZS b s.heap l1 xs)(m2:ZS c s.heap l2 ys)
 (h:∀h',IsZip h' (s.heap.objs.size+4) (s.heap.objs.size+2) (s.heap.objs.size+3) .none->IsPair h' (s.heap.objs.size+2) (.ref s.heap.objs.size) (.ref (s.heap.objs.size+1))->
   IsPair h' (s.heap.objs.size+3) .none .none->ZI b h' s.heap.objs.size l1 0->ZI c h' (s.heap.objs.size+1) l2 0->h'.objs.size=s.heap.objs.size+5->
   (∀c o,s.heap.get? c=aB o->h'.get? c=aB o)->Q (.ref (s.heap.objs.size+4)) {s with heap:=h'}):wpAny (model prog w) A (call (.type "zip") [.ref l1,.ref l2]) Q E s:=by
 refine C1 F.called_zip (by decide) (F.typeCall_zip_2 _ _) (F.newCall_zip_2 _ _) (λobj=>F.args_object_init_3 obj _ _) F.entry_zip_new (S0 b c l1 l2 xs ys) ⟨m1,m2,?_⟩;have n1:(Ek s.heap b l1).objs.size=s.heap.objs.size+1:=j5 ..;have n2:(Ar s.heap b c l1 l2).objs.size=s.heap.objs.size+2:=by unfold Ar;rw[j5,n1]
 have n3:(As s.heap b c l1 l2).objs.size=s.heap.objs.size+3:=by unfold As;rw[j5,n2]
 have n4:(Au s.heap b c l1 l2).objs.size=s.heap.objs.size+4:=by unfold Au;rw[j5,n3]
 have n5:(tT s.heap b c l1 l2).objs.size=s.heap.objs.size+5:=by unfold tT;rw[j5,n4]
 have g5:(tT s.heap b c l1 l2).get? (Au s.heap b c l1 l2).objs.size=aB _:=fX _ rfl;have g4:(tT s.heap b c l1 l2).get? (As s.heap b c l1 l2).objs.size=aB _:=cQ _ (fX _ rfl);have g3:(tT s.heap b c l1 l2).get? (Ar s.heap b c l1 l2).objs.size=aB _:=cQ _ (cQ _ (fX _ rfl));have g2:(tT s.heap b c l1 l2).get? (Ek s.heap b l1).objs.size=aB _:=cQ _ (cQ _ (cQ _ (fX _ rfl)));have g1:(tT s.heap b c l1 l2).get? s.heap.objs.size=aB _:=cQ _ (cQ _ (cQ _ (cQ _ (fX _ rfl))));show _/\_;rw[n2,n3,n4]at g5;rw[n1,n2]at g3;rw[n3]at g4;rw[n1]at g2;rw[n4];exact⟨⟨_,g5,rfl⟩,h _ g5 g3 g4 (L0 g1) (L0 g2) n5 λc o x=>cQ _ (cQ _ (cQ _ (cQ _ (cQ _ x))))⟩
end
noncomputable def m9(b:Bool)(K:aK)(H:Hp)(a:ah)(xs:List V):Prop:=match b with|true=>cH K H a xs|false=>cZ K H a xs
theorem ya{b:Bool}{X:Cx}{pins:List (ah×Obj)}{σ:St}{H:Hp}{s:af}{a:ah}{xs:List V}(I:Inv X pins σ H s)(h:m9 b X.K H a xs):∃its:List aa,Vals xs its/\ZS b s.heap a its.toArray/\xs.length<=sizeLine:=by cases b;obtain⟨its,r,p,z⟩:=I.list h;exact⟨its,r,p.isList,z⟩;exact I.tuple h
theorem L1{b:Bool}{X:Cx}{pins:List (ah×Obj)}{σ:St}{H:Hp}{s:af}{a:ah}{xs ys:List V}(I:Inv X pins σ H s)(h:m9 b X.K H a xs)(h':m9 b X.K H a ys):xs=ys:=by cases b;exact I.j6 h h';exact I.eT h h'
noncomputable def vJ(K:aK)(b c:Bool)(a1 a2:ah):It:=
 ⟨λi H=>∃xs ys x y,m9 b K H a1 xs/\m9 c K H a2 ys/\xs[i]?=aB x/\ys[i]?=aB y,
  λi H v H'=>∃T x y,v=.ref T/\H T=aC/\H'=upd H T (.tup [x,y])/\(∀xs,m9 b K H a1 xs->xs[i]?=aB x)/\∀ys,m9 c K H a2 ys->ys[i]?=aB y,
  λi H=>∃xs ys,m9 b K H a1 xs/\m9 c K H a2 ys/\(xs.length<=i\/ys.length<=i)⟩
theorem Inv.rq{X:Cx}{pins:List (ah×Obj)}{σ:St}{H:Hp}{s:af}{h2:az}{t':Nat}{fp:List ah}(I:Inv X pins σ H s)(hf:∀b∈fp,dX X pins H b)(kk:∀b o,b∉fp->s.heap.get? b=aB o->h2.get? b=aB o) :
 Inv X pins σ H {s with heap:=h2,toks:=t'}:=by
 have f0:=λb hb=>(hf b hb).1;have nE:∀b o,H b=aB o->b∉fp:=λb o q z=>by rw[f0 b z]at q;cases q
 refine I.step (g':=s.gens) (d':=s.drawn) (ch:=fp) (λb hb=>?_) (λb o _ _ hc e1 _=>kk b o hc e1) (λb o _ _ hc e1 _=>⟨o.slots,kk b o hc e1⟩) (λ_ _ _ _ n=>n) (λb o hc e1=>⟨o,kk b o hc e1⟩)
  (λ_ _ q=>q) (λ_ _ _ q=>q) (λb ps q=>⟨#[],by rw[q];simp⟩) (λm hm=>?_) (λb ob q=>?_) I.bare
 obtain⟨_,a1,a2,a3,a4,a5⟩:=hf b hb;exact⟨a3,a1,a4,a5⟩;obtain⟨o,es,ep,ho',r⟩:=hm;exact⟨o,es,ep,kk _ o (λz=>(hf _ z).2.1 rfl) ho',r⟩;refine(I.hok b ob q).stay (λc v hc z=>kk c v ?_ z) (λ_ z=>z) λ_ _ z=>z;rcases hc with rfl|hc;exact nE c ob q;exact nE c _ hc
theorem Inv.rA{X:Cx}{pins:List (ah×Obj)}{σ:St}{H:Hp}{s:af}{h2:az}{fp:List ah}{xs:List V}{us:List aa}(I:Inv X pins σ H s)(hf:∀b∈fp,dX X pins H b)(kk:∀b o,b∉fp->s.heap.get? b=aB o->h2.get? b=aB o)
 (hT:h2.get? s.heap.objs.size=aB {cls:=.type "tuple",data:=.seq us.toArray}) (hv:Vals xs us) (hz:xs.length<=sizeLine):Inv X pins σ (upd H s.heap.objs.size (.tup xs)) {s with heap:=h2}:=by
 have lZ:H s.heap.objs.size=aC:=I.hok.fresh (bg _);have f0:=λb hb=>(hf b hb).1;have nE:∀b o,H b=aB o->b∉fp:=λb o q z=>by rw[f0 b z]at q;cases q
 refine I.step (g':=s.gens) (d':=s.drawn) (ch:=fp) (λb hb=>?_) (λb o _ _ hc e1 _=>kk b o hc e1) (λb o _ _ hc e1 _=>⟨o.slots,kk b o hc e1⟩) (λb o hc e1 n=>by rw[b9 (gB (dB e1))];exact n) (λb o hc e1=>⟨o,kk b o hc e1⟩)
  (λb ys q=>by rw[b9 (iD q lZ)];exact q) (λb o u q=>by rw[b9 (iD q lZ)];exact q) (λb ps q=>⟨#[],by rw[b9 (iD q lZ),q];simp⟩) (λm hm=>?_) (λb ob q=>?_) I.bare
 obtain⟨_,a1,a2,a3,a4,a5⟩:=hf b hb;exact⟨a3,a1,a4,a5⟩;obtain⟨o,es,ep,ho',r⟩:=hm;exact⟨o,es,ep,kk _ o (λz=>(hf _ z).2.1 rfl) ho',r⟩;by_cases hb:b=s.heap.objs.size;subst hb;rw[eS]at q;cases q;exact⟨hz,us,hv,⟨_,hT,rfl,⟨_,rfl⟩,rfl⟩⟩;rw[b9 hb]at q;refine(I.hok b ob q).stay (λc v hc z=>kk c v ?_ z) (λc z=>by rw[b9 (iD z lZ)];exact z) λc ys z=>by rw[b9 (iD z lZ)];exact z
 rcases hc with rfl|hc;exact nE c ob q;exact nE c _ hc
theorem S2{P:ai}{w:aj}{K:aK}{elts:List ao}{kx:Nat}{tp:Pos}{b c:Bool}(a1 a2 z TI TO i1 i2:ah)(D:ZA z TI TO i1 i2 a1 a2) :
 Turn P w K (.Tuple elts kx tp) (vJ K b c a1 a2) [z,TI,TO,i1,i2] z (λi h=>IsZip h z TI TO .none/\IsPair h TI (.ref i1) (.ref i2)/\(∃p q,IsPair h TO p q)/\ZI b h i1 a1 i/\ZI c h i2 a2 i)where
 mem:=by simp
 obj:=λi h st d hd=>by
  obtain⟨hz,hTI,⟨p,q,hTO⟩,h1,h2⟩:=st;simp only[fV,De,or_false]at hd;rcases hd with rfl|rfl|rfl|rfl|rfl;exact⟨_,hz,λv z=>by
   have z':Data.fields _=Data.cell v:=z;cases z'⟩
  exact⟨_,hTI,λv z=>by
   have z':Data.seq _ _=Data.cell v:=z;cases z'⟩
  exact⟨_,hTO,λv z=>by
   have z':Data.seq _ _=Data.cell v:=z;cases z'⟩
  exact h1.ob;exact h2.ob
 keep:=λi h h' st k=>by
  obtain⟨hz,hTI,⟨p,q,hTO⟩,h1,h2⟩:=st;exact⟨k z (by simp) _ hz,k TI (by simp) _ hTI,⟨p,q,k TO (by simp) _ hTO⟩,h1.mv λo e=>k i1 (by simp) o e,h2.mv λo e=>k i2 (by simp) o e⟩
 item:=by
  intro X hP hw hK hc i pins s σ H E I hf st hg;subst hP hw hK;obtain⟨xs,ys,x,y,q1,q2,hx,hy⟩:=hg;obtain⟨hz,hTI,⟨p,q,hTO⟩,h1,h2⟩:=st;obtain⟨its,rv,m1,_⟩:=ya I q1;obtain⟨L4,rw',m2,_⟩:=ya I q2;obtain⟨u,hu,ru⟩:=rv.get hx;obtain⟨v,hv,S3⟩:=rw'.get hy;refine SX D hz hTI hTO h1 h2 m1 m2 (x:=u) (y:=v) (by simpa using hu) (by simpa using hv) λg b1 b2 b3 b4 b5 b6 b7=>⟨_,rfl,wpAny_letOwnedTupleGo_zip b1 λg2 c1 c2=>?_⟩
  obtain⟨⟨d1,d2,d3,d4⟩,⟨d5,d6,d7,d8,d9,Aq⟩,_,_⟩:=D;have c2:Heap.SameBut z g g2:=c2;have Ej:s.heap.objs.size≠z:=tu (dB hz);have kk:∀d o,d∉[z,TI,TO,i1,i2]->s.heap.get? d=aB o->g2.get? d=aB o:=λd o hd e=>(c2.2 d λx=>hd (by simp[x])).trans (b7 d o (λx=>hd (by simp[x])) (λx=>hd (by simp[x])) (λx=>hd (by simp[x])) (λx=>hd (by simp[x])) e);have hT:g2.get? s.heap.objs.size=aB {cls:=.type "tuple",data:=.seq [u,v].toArray}:=(c2.2 _ Ej).trans b5;have I2:=Inv.rA (xs:=[x,y]) I hf kk hT (.cons ru (.cons S3 .nil)) (by show 2<=sizeLine;decide);have lZ:H s.heap.objs.size=aC:=I.hok.fresh (bg _);refine⟨.ref s.heap.objs.size,_,I2,rfl,⟨_,x,y,rfl,lZ,rfl,λzs hzs=>by rw[L1 I hzs q1];exact hx,λzs hzs=>by rw[L1 I hzs q2];exact hy⟩,
   ⟨c1,(c2.2 TI d1).trans (b7 TI _ d1 d5 d6 d7 hTI),⟨u,v,(c2.2 TO d2).trans b2⟩,b3.mv λo e=>(c2.2 i1 d3).trans e,b4.mv λo e=>(c2.2 i2 d4).trans e⟩,λd hd=>?_⟩
  rw[b9 ?_];exact(hf d hd).1;intro e;obtain⟨o,ho⟩:∃o,s.heap.get? d=aB o:=by
   simp only[fV,De,or_false]at hd;rcases hd with rfl|rfl|rfl|rfl|rfl
   exact⟨_,hz⟩;exact⟨_,hTI⟩;exact⟨_,hTO⟩;exact let⟨o,h,_⟩:=h1.ob;⟨o,h⟩;exact let⟨o,h,_⟩:=h2.ob;⟨o,h⟩
  exact gB (dB ho) e
 done:=by intro X hP hw hK hc i pins s σ H E I hf st hg;subst hP hw hK;obtain⟨xs,ys,q1,q2,hl⟩:=hg;obtain⟨hz,hTI,⟨p,q,hTO⟩,h1,h2⟩:=st;obtain⟨its,rv,m1,_⟩:=ya I q1;obtain⟨L4,rw',m2,_⟩:=ya I q2;have l1:=rv.length;have l2:=rw'.length;exact SY (I.ok.hd hc) D hz hTI hTO h1 h2 m1 m2 (hl.imp (λh=>by simp;lia) λh=>by simp;lia) λg hk=>⟨rfl,Inv.rq (t':=s.toks) I hf λd o hd e=>hk d o (λx=>hd (by simp[x])) (λx=>hd (by simp[x])) (λx=>hd (by simp[x])) (λx=>hd (by simp[x])) e⟩
 self:=λ_ _ _ _ _ st h=>wpAny_pyIter_zip st.1 h
theorem S4{bs:List Bool}{its:List aa}(r:Vals (bs.map .bl) its)(i:Nat){v:aa}(h:its[i]?=aB v):∃b,bs[i]?=aB b/\v=.bool b:=by have hl:=r.length;rw[bG]at hl;obtain⟨hi,_⟩:=gA.mp h;have hb:bs[i]?=aB bs[i]:=cN (by lia);obtain⟨u,hu,ru⟩:=r.get (i:=i) (x:=.bl bs[i]) (by rw[dG,hb];rfl);rw[h]at hu;cases hu;exact⟨_,hb,ru⟩
theorem S5(bs:List Bool):((List.range bs.length).all λi=>(bs[i]?).getD true)=bs.all id:=by rw[Bool.eq_iff_iff,i6,i6];refine⟨λh b hb=>?_,λh i hi=>?_⟩;obtain⟨i,hi,rfl⟩:=List.getElem_of_mem hb;have:=h i (nQ.mpr hi);rw[cN hi]at this;exact this;have hi':=nQ.mp hi;rw[cN hi'];exact h _ (kR hi')
section
variable{X:Cx}
theorem S6(hc:X.calm):cu X (.builtin "all") (λxs H Q=>∃(p:ah) (bs:List Bool),xs=[.ref p]/\cZ X.K H p (bs.map .bl)/\Q (.bl (bs.all id)) H):=by
 intro pins s σ H xs us Q I r h;obtain⟨p,bs,rfl,hq,q⟩:=h;obtain⟨u,rfl,ru⟩:=vals1 r;cases ru;obtain⟨its,rv,pl,hz⟩:=I.list hq;have hL:s.heap.IsList p its.toArray:=pl.isList;have hlt:p<s.heap.objs.size:=by obtain⟨_,e,_⟩:=hL;exact dB e
 have hd:X.A.in1.handled=aC:=I.ok.hd hc;have hlen:its.toArray.size=bs.length:=by rw[dQ,<-rv.length,bG]
 refine call_all_walk (xy hL ⟨s.heap.objs.size,[s.heap.objs.size,p],[s.heap.objs.size],its.toArray.size,_,_,λi=>(bs[i]?).getD true,rfl,Walks.list (A:=X.A.in1) hd _ p (gB hlt) its.toArray,?_,?_,?_⟩);exact⟨⟨_,fX _ rfl,rfl,rfl⟩,hL.push _⟩;intro i v s' Q' E' hP hQ;obtain⟨b,e,rfl⟩:=S4 rv i (by simpa using hP);simp only[e,Dp]at hQ;exact pQ hQ;intro h' tk hk;rw[hlen,S5];refine⟨.bl (bs.all id),H,I.kept (t':=tk) λb o e=>hk b o (λhm=>?_) (cQ _ e),rfl,q⟩;rw[pT.mp hm]at e;exact gZ _ (dB e)
end
section
variable{X:Cx}
theorem Inv.freeze{pins:List (ah×Obj)}{σ:St}{H:Hp}{s:af}{a:ah}{kvs:List (Key×V)}(I:Inv X pins σ H s)(e:H a=aB (.dK kvs)):∃ob,Inv X pins σ (upd H a (.bF ob (.dK kvs))) s:=by
 obtain⟨z,y,vs,r,ob,es,ep,e1,c⟩:=(show bw X.prog X.w H s.heap a (.dK kvs)from I.hok a _ e)
 refine⟨ob,?_⟩;exact I.write (x:=a) (e:=a) (o:=.bF ob (.dK kvs)) (h':=s.heap) (t':=s.toks) (by rw[e];trivial) (.inl rfl) (λ_ _ _ q=>q) ⟨ob,e1⟩ ⟨e1,z,y,vs,r,ob,es,ep,e1,c⟩
theorem Av{P:ai}{w:aj}{k:Key}{u:aa}(h:(iH P w).is k u):RelV (kV k) u:=by rcases pW h with⟨i,t,rfl,rfl⟩|⟨x,t,rfl,rfl⟩;exact⟨t,rfl⟩;exact⟨t,rfl⟩
noncomputable def Aw(a:ah)(ob:Obj)(kvs:List (Key×V)):It where
 go:=λi H=>H a=aB (.bF ob (.dK kvs))/\i<kvs.length
 tK:=λi H x H'=>H'=H/\∃k v,kvs[i]?=aB (k,v)/\x=kV k
 stop:=λi H=>H a=aB (.bF ob (.dK kvs))/\i=kvs.length
theorem S7{P:ai}{w:aj}{K:aK}{tg:ao}{a it:ah}{ob:Obj}{kvs:List (Key×V)}{es:Array DictEntry}{ep:Nat}(hd:ob.data=.dict es ep)(hne:a≠it):Turn P w K tg (Aw a ob kvs) [it] it (λi h=>h.IsKeyIter it a i kvs.length ep)where
 mem:=by simp
 obj:=λi h st b hb=>by
  have e:b=it:=by simpa using hb
  subst e;obtain⟨o,e,c,d⟩:=st;exact⟨o,e,λv z=>by rw[d]at z;cases z⟩
 keep:=λi h h' st k=>by
  obtain⟨o,e,c,d⟩:=st;exact⟨o,k it (by simp) o e,c,d⟩
 item:=by
  intro X hP hw hK hc i pins s σ H E I hf st hg;subst hP hw hK;obtain⟨e0,hi⟩:=hg;obtain⟨e1,z,y,vs,r,o',es',zg,e2,c1,c2,c3,c4,c5⟩:=(show bw X.prog X.w H s.heap a (.bF ob (.dK kvs))from I.hok a _ e0)
  rw[e1]at e2;cases e2;rw[hd]at c2;cases c2;obtain⟨f0,f1,f2,f3,f4,f5⟩:=hf it (by simp);have hl:=r.length;have W:=Walks.dictKeys (knd:=iH X.prog X.w) (I.ok.hd hc) it a hne vs ep;refine W.item i s _ _ (by lia) ⟨by rw[<-hl];exact st,ob,es,e1,c1,hd,c3,c4,c5⟩ λv h' tk hv st' kk=>?_;obtain⟨k,x,hk,his⟩:=hv;have I1:Inv X pins σ H {s with heap:=h',toks:=tk}:=I.turned (λb o hb e=>kk b o (by simpa using hb) e) f0 f1 f3 f4 f5;have st2:h'.IsKeyIter it a (i+1) kvs.length ep:=by rw[hl];exact st'.1
  obtain⟨o,e,c,d⟩:=id st2;have hk2:∃v0,kvs[i]?=aB (k,v0):=by
   have q:=r.keys;have q2:(kvs.map (·.1))[i]?=(vs.map (·.1))[i]?:=by rw[q]
   rw[dG,dG,hk]at q2;cases q3:kvs[i]? with|none=>rw[q3]at q2;cases q2|some p=>rw[q3]at q2;obtain⟨p1,p2⟩:=p;cases q2;exact⟨p2,rfl⟩
  obtain⟨v0,S8⟩:=hk2;exact⟨v,rfl,j8 (s:={s with heap:=h',toks:=tk}) e c d (by decide) ⟨kV k,H,I1,Av his,⟨rfl,k,v0,S8,rfl⟩,st2,λb hb=>(hf b hb).1⟩⟩
 done:=by
  intro X hP hw hK hc i pins s σ H E I hf st hg;subst hP hw hK;obtain⟨e0,hi⟩:=hg;obtain⟨e1,z,y,vs,r,o',es',zg,e2,c1,c2,c3,c4,c5⟩:=(show bw X.prog X.w H s.heap a (.bF ob (.dK kvs))from I.hok a _ e0)
  rw[e1]at e2;cases e2;rw[hd]at c2;cases c2;obtain⟨f0,f1,f2,f3,f4,f5⟩:=hf it (by simp);have hl:=r.length;have W:=Walks.dictKeys (knd:=iH X.prog X.w) (I.ok.hd hc) it a hne vs ep;refine W.done s _ _ ⟨by rw[<-hl];rw[hi]at st;exact st,ob,es,e1,c1,hd,c3,c4,c5⟩ λh' tk kk=>?_;exact⟨rfl,I.turned (λb o hb e=>kk b o (by simpa using hb) e) f0 f1 f3 f4 f5⟩
 self:=λ_ _ _ _ _ st h=>wpAny_pyIter_keyiter st h
end
section
variable{X:Cx}
noncomputable def oJ(k v:ao):aa->Env->Sem Unit:=λacc env=>do
 let kv <-eval k env
 let vv <-holding [kv] (eval v env)
 match acc with
 |.ref d=>do
  standAt {line:=k.pos.line,col:=k.pos.col,endLine:=v.pos.endLine,endCol:=v.pos.endCol}
  holding [kv,vv] (dictSet d kv vv)
 |_=>unsupported "internal:dictcomp"
theorem L5{P:ai}{w:aj}{k v tg iter:ao}{ifs:List ao}{scope:ay}{pos:Pos}:ku P w (.DictComp k v [⟨tg,iter,ifs,0⟩] scope pos) tg iter ifs (oJ k v) newDict {cls:=.type "dict",data:=.dict #[]} (.dK [])where
 cl:=⟨[],rfl⟩
 turn:=λ_ _ _=>rfl
 dl:=λ_ _ _=>rfl
 ds:=λ_ _ _=>rfl
 al:=λ_ _ _ _=>rfl
 as:=λ_ _ _ _=>rfl
 new:=λA s Q E q=>kP q
 ok:=λH h hb=>Hl h hb
noncomputable def L6(tk tv:TE)(D:ah):TM:=λσ H Q=>tk σ H λx H1=>tv σ H1 λy H2=>∃kvs k,H2 D=aB (.dK kvs)/\x=kV k/\kvs.length<sizeLine/\Q σ (upd H2 D (.dK (putK kvs k y)))
theorem L7{k v:ao}{tk tv:TE}(hk:PE X k tk)(hv:PE X v tv)(D:ah):PM X (oJ k v (.ref D) X.env) (L6 tk tv D):=by
 intro pins s σ H Q I h;unfold oJ;refine aG (bq (hk pins s σ H _ I h) λu s1 z9=>z9.el λx H1 I1 r1 q1=>?_);refine aG (mL (bq (hv pins s1 σ H1 _ I1 q1) λu2 s2 z9=>z9.el λy H2 I2 r2 bW=>?_));obtain⟨kvs,kk,e,ex,l,q2⟩:=bW;refine aG (mO (mL ?_));subst ex;obtain⟨z,hd,vs,rel,dd⟩:=kj I2.hok e;have hz:vs.length<=sizeLine:=by rw[<-rel.length];exact z
 have hl:(putK kvs kk y).length<=sizeLine:=by have:=D8 kvs kk y;lia
 refine wpAny_dictSet_pairs (jv r1) dd (λh' kq hs=>?_) hz;have he:∃q,h'.get? D=aB q:=let⟨q,_,_,hq,_⟩:=kq;⟨q,hq⟩;exact⟨σ,_,vH I2 (by rw[e];exact True.intro) hs he (Ea hl hd (rel.put kk r2) kq),q2⟩
end
noncomputable def tU(e tg iter:ao)(ifs:List ao)(it acc:aa)(env:Env)(emit:Sem Unit):Sem Fin:=do
 standAt iter.pos
 match <-pyNext it with
 |none=>pure (.done .next)
 |some v=>
  letOwnedTupleGo tg it v
  assign tg env v
  let ok <-xZ ifs env
  if ok then emit
  again (.compLoop e 1 it acc env)
noncomputable def l6(elt:ao):aa->Env->Sem Unit:=λacc env=>do let _ <-call (.builtin "list.append") [acc,<-eval elt env]
noncomputable def kB(e bC:ao):aa->Env->Sem Unit:=λacc env=>do
 let x <-eval bC env
 standAt bC.pos
 let x <-foldedSetIterable bC env x
 let _ <-runOwn (.compStart e 1 (<-holding [x] (pyIter x)) acc env) env
section
variable{prog:ai}{w:aj}{A:ak}{R:Result->af->Prop}{s:af}{elt lz dh tg iter:ao}{fL ifs:List ao}{scope:ay}{pos:Pos}{it acc:aa}{env:Env}
theorem S9(I:Nat->af->Prop)
 (turn:∀n s,I n s->wpAny (model prog w) A (pyNext it) (λr s₁=>match r with
   |none=>R (.ok .next) s₁
   |some v=>wpAny (model prog w) A (letOwnedTupleGo tg it v) (λ_ s₀=>wpAny (model prog w) A (assign tg env v) (λ_ s₂=>
    wpAny (model prog w) A (xZ ifs env) (λok s₃=>
     if ok=true then wpAny (model prog w) A (l6 elt acc env) (λ_ s₅=>∃m,m<n/\I m s₅) g9 s₃
     else ∃m,m<n/\I m s₃) g9 s₂) g9 s₀) g9 s₁) g9 s)
 (n:Nat) (h:I n s):codeAny (model prog w) A (.compLoop (.ListComp elt [⟨lz,dh,fL,0⟩,⟨tg,iter,ifs,0⟩] scope pos) 1 it acc env) R s:=by
 refine codeAny_loop rfl I (λn s hI=>?_) n h;rw[show(model prog w).den (.compLoop (.ListComp elt [⟨lz,dh,fL,0⟩,⟨tg,iter,ifs,0⟩] scope pos) 1 it acc env)=(tU (.ListComp elt [⟨lz,dh,fL,0⟩,⟨tg,iter,ifs,0⟩] scope pos) tg iter ifs it acc env (l6 elt acc env)).onRaise (λx=>do noteFrame x env;theTreesLotGoes x)from rfl,
  show A.under (.compLoop (.ListComp elt [⟨lz,dh,fL,0⟩,⟨tg,iter,ifs,0⟩] scope pos) 1 it acc env)=A from rfl]
 refine wpAny_noted (GX ?_);unfold tU;refine aG (mO (aG (gY (turn n s hI) (λr s₁ h₁=>?_) λ_ _ z=>z)));cases r with
 |none=>exact aX h₁
 |some v=>
  refine aG (gY h₁ (λ_ s₀ h₀=>?_) λ_ _ z=>z);refine aG (gY h₀ (λ_ s₂ h₂=>aG (gY h₂ (λok s₃ h₃=>?_) λ_ _ z=>z)) λ_ _ z=>z);cases ok with
  |true=>
   simp only[cC]at h₃ ⊢;exact aG (gY h₃ (λ_ s₅ h₅=>aX ⟨rfl,h₅⟩) λ_ _ z=>z)
  |false=>
   simp only[dW,dg]at h₃ ⊢;exact aX ⟨rfl,h₃⟩
theorem Tc(h0:codeAny (model prog w) A (.compLoop (.ListComp elt [⟨lz,dh,fL,0⟩,⟨tg,iter,ifs,0⟩] scope pos) 1 it acc env) R s)
 (h:wpAny (model prog w) A (pyIter it) (λj s'=>codeAny (model prog w) A (.compLoop (.ListComp elt [⟨lz,dh,fL,0⟩,⟨tg,iter,ifs,0⟩] scope pos) 1 j acc env) R s') (notedBy (model prog w) A env λx s'=>R (.error x) s') s) :
 codeAny (model prog w) A (.compStart (.ListComp elt [⟨lz,dh,fL,0⟩,⟨tg,iter,ifs,0⟩] scope pos) 1 it acc env) R s:=by
 refine codeAny_of_tree ?_;rw[show(model prog w).den (.compStart (.ListComp elt [⟨lz,dh,fL,0⟩,⟨tg,iter,ifs,0⟩] scope pos) 1 it acc env)=(compStart (.ListComp elt [⟨lz,dh,fL,0⟩,⟨tg,iter,ifs,0⟩] scope pos) 1 it acc env).onRaise (λx=>do noteFrame x env;standAt theWindowsPlace)from rfl,
  show A.under (.compStart (.ListComp elt [⟨lz,dh,fL,0⟩,⟨tg,iter,ifs,0⟩] scope pos) 1 it acc env)=A from rfl]
 refine wpAny_notedAt ?_;unfold compStart;rw[show(clausesOf (.ListComp elt [⟨lz,dh,fL,0⟩,⟨tg,iter,ifs,0⟩] scope pos))=[⟨lz,dh,fL,0⟩,⟨tg,iter,ifs,0⟩]from rfl];show wpAny _ _ (ask >>= _) _ _ s;refine aG (wpAny_askSetting (xB ?_));split;first
  |exact aG (aX (aX (And.intro rfl h0)))
  |exact aX (And.intro rfl h0)
 first
  |exact aG (nL (aG (mO (aG (gY h (λj s' h'=>aX ⟨rfl,h'⟩) λ_ _ z=>z)))))
  |(refine aG (nL ?_);show wpAny _ _ (standAt iter.pos >>= _) _ _ s;exact aG (mO (aG (gY h (λj s' h'=>aX ⟨rfl,h'⟩) λ_ _ z=>z))))
end
section
variable{X:Cx}{elt lz dh tg iter:ao}{fL ifs:List ao}{scope:ay}{pos:Pos}{wi:TI}{g:TG}{tc:TT}{te:TE}
noncomputable def Hy(te:TE)(D:ah):TM:=λσ H Q=>te σ H λy H1=>∃ys,H1 D=aB (.lst ys)/\ys.length<sizeLine/\Q σ (upd H1 D (.lst (ys++[y])))
theorem Td(he:PE X elt te)(D:ah):PM X (l6 elt (.ref D) X.env) (Hy te D):=by intro pins s σ H Q I h;unfold l6;refine aG (bq (he pins s σ H _ I h) λy s1 z9=>z9.el λvy H1 I1 ry bW=>?_);obtain⟨ys,hD,hz,q⟩:=bW;refine aG (bq (GI _ s1 σ H1 (.ref D) [vy] (.ref D) [y] (λv H'=>H'=upd H1 D (.lst (ys++[vy]))) I1 rfl (.cons ry .nil) ⟨_,ys,vy,rfl,rfl,hD,hz,rfl⟩) λ_ s2 bW=>?_);obtain⟨v2,H2,I2,_,e2⟩:=bW;subst e2;exact aX ⟨σ,_,I2,q⟩
noncomputable def L8(wi:TI)(g:TG)(tc:TT)(tm:TM):TM:=λσ H Q=>wi σ H λJ H1=>∃W:Nat->Nat->St->Hp->Prop,(∃m,W 0 m σ H1)/\∀i m σ' H',W i m σ' H'->
 ((J.stop i H'/\Q σ' H')\/(J.go i H'/\∀x H2,J.tK i H' x H2->g x σ' H2 λσ2 H3=>tc σ2 H3 λb H4=>
   if b=true then tm σ2 H4 λkh H5=>∃m',m'<m/\W (i+1) m' kh H5
   else ∃m',m'<m/\W (i+1) m' σ2 H4))
theorem Ma(hc:X.calm)(hx:X.xe=g9)(hi:PI X tg iter wi)(hg:PG X tg g)(ht:iL X ifs tc)(he:PE X elt te)(hs:∀x,foldedSetIterable iter X.env x=pure x)(D:ah) :
 PM X (kB (.ListComp elt [⟨lz,dh,fL,0⟩,⟨tg,iter,ifs,0⟩] scope pos) iter (.ref D) X.env) (L8 wi g tc (Hy te D)):=by
 intro pins s σ H Q I h;unfold kB;have q1:=hi pins s σ H _ I h;rw[hx]at q1 ⊢;refine aG (bq q1 λv s1 h1=>aG (mO ?_));rw[hs];refine aG (aX (aG (mL (bq h1 λitv s2 h2=>?_))));obtain⟨it,fp,tn,J,H2,e,I2,T,st2,f2,W,⟨m0,w0⟩,turn⟩:=h2;subst e;have lq:∀{H':Hp},(∀b∈fp,H' b=aC)->∀b∈fp,dX X pins H' b:=λhn b hb=>⟨hn b hb,(f2 b hb).2⟩
 have loop:codeAny (model X.prog X.w) X.A (.compLoop (.ListComp elt [⟨lz,dh,fL,0⟩,⟨tg,iter,ifs,0⟩] scope pos) 1 (.ref it) (.ref D) X.env)
  (λr s'=>match r with|.ok f=>wpAny (model X.prog X.w) X.A (pure ()) (λ(_:Unit) s'=>∃σ' H',Inv X pins σ' H' s'/\Q σ' H') g9 s'|.error e=>cameBackBy (model X.prog X.w) X.A X.env g9 e s') s2:=by
  refine S9 (λn s'=>∃i σ' H',Inv X pins σ' H' s'/\tn i s'.heap/\(∀b∈fp,H' b=aC)/\W i n σ' H') ?_ m0 ⟨0,σ,H2,I2,st2,λb hb=>(f2 b hb).1,w0⟩;rintro n s3 ⟨i,σ3,H3,I3,st3,zD,w3⟩;rcases turn i n σ3 H3 w3 with⟨stop,qn⟩|⟨go,step⟩
  .refine bq (T.done X rfl rfl rfl hc i pins s3 σ3 H3 g9 I3 (lq zD) st3 stop) λr s4 bW=>?_
   obtain⟨hr,I4⟩:=bW;subst hr;exact aX ⟨σ3,H3,I4,qn⟩
  refine bq (T.item X rfl rfl rfl hc i pins s3 σ3 H3 g9 I3 (lq zD) st3 go) λr s4 bW=>?_;obtain⟨u,hr,h4⟩:=bW;subst hr;refine bq h4 λ_ s5 bW=>?_;obtain⟨x,H5,I5,r5,y5,mT,qR⟩:=bW;have Gs:=I5.pinned (lq qR) (T.obj _ _ mT);have again:∀{kX:St}{H7:Hp}{s7:af}{m':Nat},Inv X (pins++vj fp s5.heap) kX H7 s7->m'<n->W (i+1) m' kX H7->∃m,m<n/\∃i σ' H',Inv X pins σ' H' s7/\tn i s7.heap/\(∀b∈fp,H' b=aC)/\W i m σ' H':=λ{kX H7 s7 m'} I7 hm w7=>by
   refine⟨m',hm,i+1,kX,H7,I7.dR,T.keep _ _ _ mT λb hb o e=>(I7.pin (b,o) (jo _ (jo _ (tL hb e)))).1,λb hb=>?_,w7⟩;obtain⟨o,e,d⟩:=T.obj _ _ mT b hb;exact(I7.pin (b,o) (jo _ (jo _ (tL hb e)))).2.1
  have q6:=hg _ s5 σ3 H5 x u _ Gs r5 (step x H5 y5);rw[hx]at q6;refine bq q6 λ_ s6 bW=>?_;obtain⟨jT,H6,I6,q6⟩:=bW;have q7:=ht _ s6 jT H6 _ I6 q6;rw[hx]at q7;refine bq q7 λok s7 z9=>z9.el λH7 I7 q7=>?_;cases ok with
  |false=>
   simp only[dW,dg]at q7 ⊢;obtain⟨m',hm,w7⟩:=q7;exact again I7 hm w7
  |true=>
   simp only[cC]at q7 ⊢;have q8:=Td he D _ s7 jT H7 _ I7 q7;rw[hx]at q8;exact bq q8 λ_ s8 ⟨ki,H8,I8,m',hm,w8⟩=>again I8 hm w8
 exact aG (wpAny_runOwn (Tc loop (T.self _ 0 _ _ _ st2 loop)))
theorem Te{bC gJ:ao}{dM:List ao}(it acc:aa)(env:Env):compTurn (.ListComp elt [⟨tg,iter,ifs,0⟩,⟨gJ,bC,dM,0⟩] scope pos) 0 it acc env=kr (.ListComp elt [⟨tg,iter,ifs,0⟩,⟨gJ,bC,dM,0⟩] scope pos) tg iter ifs it acc env (kB (.ListComp elt [⟨tg,iter,ifs,0⟩,⟨gJ,bC,dM,0⟩] scope pos) bC acc env):=by
 unfold compTurn kr kB;simp only[i7,n9,lS,bne_self_eq_false,dW,dg,reduceIte];congr 1;funext _;congr 1;funext r;cases r with
 |none=>rfl
 |some v=>
  dsimp only;congr 1;funext _;congr 1;funext _;congr 1;funext ok;cases ok;rfl;simp only[cC];simp only[LawfulMonad.bind_assoc,qN]
theorem Mb{P:ai}{w:aj}{bC gJ:ao}{dM:List ao}:ku P w (.ListComp elt [⟨tg,iter,ifs,0⟩,⟨gJ,bC,dM,0⟩] scope pos) tg iter ifs (kB (.ListComp elt [⟨tg,iter,ifs,0⟩,⟨gJ,bC,dM,0⟩] scope pos) bC) (newList []) {cls:=.type "list",dict:=aC,data:=.seq ([]:List aa).toArray} (.lst [])where
 cl:=⟨_,rfl⟩
 turn:=Te
 dl:=λ_ _ _=>rfl
 ds:=λ_ _ _=>rfl
 al:=λ_ _ _ _=>rfl
 as:=λ_ _ _ _=>rfl
 new:=λA s Q E q=>kP q
 ok:=λH h hb=>⟨kT _,[],0,.nil,fX _ rfl⟩
end
noncomputable def Hz:Option Int->aa->Bool|none,.none=>true|some i,v=>Value.isInt i v|none,_=>false
noncomputable def ic:Option Int->Int|none=>0xFCA86420|some i=>hashInt i
theorem rD:∀{k:Option Int} {v:aa},Hz k v=true->(k=aC/\v=.none)\/∃i t,k=aB i/\v=.int i t
 |none,v,h=>by cases v<;>first|exact .inl ⟨rfl,rfl⟩|cases h
 |some i,v,h=>by
  obtain⟨t,e⟩:=Value.isInt_shape (k:=i) (v:=v) h;exact .inr ⟨i,t,rfl,e⟩
theorem Tf{prog:ai}{w:aj}{A:ak}{E:aa->af->Prop}{s:af}{Q:Int->af->Prop}(h:Q 0xFCA86420 {s with toks:=s.toks+1}):wpAny (model prog w) A (PySem.pyHash .none) Q E s:=by
 have hT:s.TypeIs .none "NoneType":=rfl;unfold pyHash;refine aG (wpAny_cRoomFor_or (.inl rfl) ?_);refine aG (qx hT Dw.lookup ?_);show wpAny _ _ (if(aB (Value.builtin "NoneType.__hash__")==aB Value.none)=true then _ else _) Q E s;rw[if_neg (by rw[beq_builtin_none];exact mQ)];refine aG (qx hT Dw.lookup ?_);show wpAny _ _ (callSpecialIfBoundUnlessNone? .none "__hash__" _ >>= _) Q E s;refine aG (wpAny_callSpecialIfBoundUnlessNone?_slot hT Dw
  (lQ Dw hT F.entry_NoneType_hash
    (show wpAny _ _ (do ret (<-mkInt 0xFCA86420)) _ _ s from wpAny_ret_mkInt ?_) (F.args_NoneType_hash_1 _)))
 show wpAny _ _ (if(decide (-(2:Int) ^ 63<=0xFCA86420)&&decide ((0xFCA86420:Int)<2 ^ 63))=true then _ else _) Q E _;rw[if_pos (by decide)];exact aX h
noncomputable def l7(prog:ai)(w:aj):KeyKind prog w (Option Int)where
 is:=Hz
 hash:=ic
 inj:=λv a b ha hb=>by
  rcases rD ha with⟨rfl,rfl⟩|⟨i,t,rfl,rfl⟩
  .rcases rD hb with⟨rfl,_⟩|⟨j,u,rfl,e⟩
   .rfl
   .cases e
  .rcases rD hb with⟨rfl,e⟩|⟨j,u,rfl,e⟩
   .cases e
   .cases e;rfl
 byValue:=λk v h=>by
  rcases rD h with⟨rfl,rfl⟩|⟨i,t,rfl,rfl⟩<;>rfl
 pyHash:=λhv h=>by
  rcases rD hv with⟨rfl,rfl⟩|⟨i,t,rfl,rfl⟩
  .exact Tf h
  .exact wpAny_pyHash_int h
 eqBool:=λ{A E s a b u v Q} hu hv h=>by
  rcases rD hu with⟨rfl,rfl⟩|⟨i,t,rfl,rfl⟩
  .rcases rD hv with⟨rfl,rfl⟩|⟨j,u,rfl,rfl⟩
   .exact SeqAt.EqAt.same (A:=A) (s:=s) .none prog w E Q (by simpa using h)
   .exact SeqAt.EqAt.none_int (A:=A) (s:=s) j u prog w E Q (by simpa using h)
  .rcases rD hv with⟨rfl,rfl⟩|⟨j,u,rfl,rfl⟩
   .exact SeqAt.EqAt.int_none (A:=A) (s:=s) i t prog w E Q (by simpa using h)
   .refine wpAny_eqBool_int ?_
    by_cases e:i=j
    .subst e;simpa using h
    .have e':(i==j)=false:=by simpa using e
     rw[e'];simpa[e]using h
 «strs»:=λk x t v h=>by
  rcases rD h with⟨_,e⟩|⟨i,t,_,e⟩<;>cases e
noncomputable abbrev DK:=List Int×Option Int
section
variable(prog:ai)(w:aj)
noncomputable def fy(h:az)(k:DK)(a:ah):Prop:=∃o n b v,h.get? a=aB o/\o.cls=.type "tuple"/\o.data=.seq #[.ref b,v] n/\IsTupleKey (intKind prog w) h k.1 b/\Hz k.2 v=true
noncomputable def HA(k:DK):Int:=reduceHash (Builtin.Tuple.tupleHashOf [tupleKeyHash (intKind prog w) k.1,ic k.2])
variable{prog w}
theorem fy.typeIs{s:af}{k:DK}{a:ah}(x:fy prog w s.heap k a):s.TypeIs (.ref a) "tuple":=let⟨o,_,_,_,ho,hc,_⟩:=x;⟨o,ho,hc⟩
theorem fy.inj{h:az}{a:ah}{x y:DK}(hx:fy prog w h x a)(hy:fy prog w h y a):x=y:=by obtain⟨o,n,b,v,ho,_,hd,hi,hv⟩:=hx;obtain⟨o',n',b',v',ho',_,hd',hi',hv'⟩:=hy;obtain rfl:o=o':=lT (ho.symm.trans ho');rw[hd]at hd';injection hd' with h1 _;have h2:=lP Array.toList h1;simp only[List.cons.injEq,and_true,Value.ref.injEq]at h2;obtain⟨rfl,rfl⟩:=h2;exact Prod.ext (hi.inj hi') ((l7 prog w).inj _ _ _ hv hv')
theorem fy.keeps{h h':az}{k:DK}{a d:ah}{o:Obj}{es ep}(x:fy prog w h k a)(ho:h.get? d=aB o)(hd:o.data=.dict es ep)(hs:Heap.SameBut d h h'):fy prog w h' k a:=by
 obtain⟨o',n,b,v,ho',hc,hd',hi,hv⟩:=x;have hne:a≠d:=by rintro rfl;obtain rfl:o'=o:=lT (ho'.symm.trans ho);rw[hd]at hd';exact nomatch hd'
 exact⟨o',n,b,v,(hs.2 a hne).trans ho',hc,hd',hi.keeps ho hd hs,hv⟩
variable{A:ak}{E:aa->af->Prop}{s:af}
theorem Th{k:DK}{a:ah}{Q:Int->af->Prop}(hu:A.units+1<cLine)(hk:fy prog w s.heap k a)(h:Q (HA prog w k) {s with toks:=s.toks+ (k.1.length+3)}) :
 wpAny (model prog w) A (pyHash (.ref a)) Q E s:=by
 have hT:=hk.typeIs;obtain⟨o,n,b,v,ho,_,hd,hi,hv⟩:=hk;unfold pyHash;refine aG (wpAny_cRoomFor_or (.inr (by lia)) ?_);refine aG (qx hT Dy.lookup ?_);show wpAny _ _ (if(aB (Value.builtin "tuple.__hash__")==aB Value.none)=true then _ else _) Q E s;rw[if_neg (by rw[beq_builtin_none];exact mQ)];refine aG (qx hT Dy.lookup ?_);show wpAny _ _ (callSpecialIfBoundUnlessNone? (.ref a) "__hash__" _ >>= _) Q E s;refine aG (wpAny_callSpecialIfBoundUnlessNone?_slot hT Dy (lQ Dy hT F.entry_tuple_hash ?_ (F.args_tuple_hash_1 _)));show wpAny _ _ (Builtin.Tuple.tupleItemsOf (.ref a) >>= _) _ _ s;refine aG (wpAny_tupleItemsOf ho hd ?_);refine aG ?_;rw[<-Array.forIn_toList];refine CW _
  (λrest (acc:Array Int) s'=>(rest=[.ref b,v]/\acc.toList=[]/\s'=s)\/(rest=[v]/\acc.toList=[tupleKeyHash (intKind prog w) k.1]/\s' ={s with toks:=s.toks+ (k.1.length+1)})\/(rest=[]/\acc.toList=[tupleKeyHash (intKind prog w) k.1,ic k.2]/\s' ={s with toks:=s.toks+ (k.1.length+1)+1}))
  _ ?_ ?_ _ _ (.inl ⟨rfl,rfl,rfl⟩)
 rintro x rest acc s' (⟨e,ha,rfl⟩|⟨e,ha,rfl⟩|⟨e,_⟩);cases e;refine aG (wpAny_pyHash_tuple hu hi ?_);first
  |exact aX (.inr (.inl ⟨rfl,by simp[ha],rfl⟩))
  |exact aG (aX (aX (.inr (.inl ⟨rfl,by simp[ha],rfl⟩))))
 cases e;refine aG ((l7 prog w).pyHash (k:=k.2) hv ?_);first
  |exact aX (.inr (.inr ⟨rfl,by simp[ha];rfl,rfl⟩))
  |exact aG (aX (aX (.inr (.inr ⟨rfl,by simp[ha];rfl,rfl⟩))))
 cases e;rintro acc s' (⟨e,_⟩|⟨e,_⟩|⟨_,ha,rfl⟩);cases e;cases e;show wpAny _ _ (retInt (Builtin.Tuple.tupleHashOf acc.toList)) _ _ _;rw[ha];refine wpAny_ret_mkInt ?_;show wpAny _ _ (if(decide (-(2:Int) ^ 63<=Builtin.Tuple.tupleHashOf [tupleKeyHash (intKind prog w) k.1,ic k.2])&&decide (Builtin.Tuple.tupleHashOf [tupleKeyHash (intKind prog w) k.1,ic k.2]<2 ^ 63))=true then _ else _) Q E _;unfold HA reduceHash at h;by_cases hr:(decide (-(2:Int) ^ 63<=Builtin.Tuple.tupleHashOf [tupleKeyHash (intKind prog w) k.1,ic k.2])&&decide (Builtin.Tuple.tupleHashOf [tupleKeyHash (intKind prog w) k.1,ic k.2]<2 ^ 63))=true;rw[if_pos hr];rw[if_pos hr]at h;exact aX (by simpa[Dl]using h);rw[if_neg hr];rw[if_neg hr]at h;exact aG (nL (aX (by simpa[Dl]using h)))
theorem Ti{x y:DK}{a b:ah}{P:Fin->af->Prop}(hu:A.units<cLine)(hx:fy prog w s.heap x a)(hy:fy prog w s.heap y b)(h:P (.done (.ret (.bool (decide (x=y))))) s) :
 wpAny (model prog w) A (Builtin.«tuple.__eq__» ⟨[.ref a,.ref b],[]⟩) P E s:=by
 have hTb:=hy.typeIs;obtain⟨oa,na,a1,v1,hoa,_,hda,Tj,Tn⟩:=hx;obtain⟨ob,nb,b1,v2,hob,_,hdb,hib,To⟩:=hy;show wpAny _ _ (isInstance (.ref b) (.type "tuple") >>= _) _ _ s;refine aG (uQ hTb isSubtype_tuple_tuple ?_);simp only[om,dW,dg];refine aG (wpAny_tupleItemsOf hoa hda ?_);refine aG (wpAny_tupleItemsOf hob hdb ?_);refine aG ?_;refine CW _
  (λrest r s'=>r.1=aC/\s'=s/\((rest=[(Value.ref a1,Value.ref b1),(v1,v2)])\/(rest=[(v1,v2)]/\x.1=y.1)\/(rest=[]/\x=y)))
  _ ?_ ?_ _ _ ⟨rfl,rfl,.inl rfl⟩
 rintro⟨u,v⟩ rest r s' ⟨hr,rfl,e|⟨e,hxy⟩|⟨e,_⟩⟩;cases e;refine aG (wpAny_eqBool_tuple hu Tj hib ?_);by_cases hk:x.1=y.1;rw[kO hk];simp only[om,dW,dg];exact aX ⟨rfl,rfl,.inr (.inl ⟨(by first|rfl|trivial),hk⟩)⟩;rw[iX hk];simp only[Dn,cC];have hf:decide (x=y)=false:=iX λz=>hk (by rw[z]);rw[hf]at h;exact aG (aX (aX (aX h)));cases e;refine aG ((l7 prog w).eqBool (a:=x.2) (b:=y.2) Tn To ?_);by_cases hk:x.2=y.2;rw[kO hk];simp only[om,dW,dg];exact aX ⟨rfl,rfl,.inr (.inr ⟨(by first|rfl|trivial),Prod.ext hxy hk⟩)⟩;rw[iX hk];simp only[Dn,cC];have hf:decide (x=y)=false:=iX λz=>hk (by rw[z]);rw[hf]at h;exact aG (aX (aX (aX h)));cases e;rintro⟨r1,r2⟩ s' ⟨hr,rfl,e|⟨e,_⟩|⟨_,e⟩⟩;cases e;cases e;simp only at hr;subst hr;refine aX ?_;rw[kO e]at h;exact h
theorem Tp{x y:DK}{a b:ah}{Q:Bool->af->Prop}(hu:A.units+1<cLine)(hx:fy prog w s.heap x a)(hy:fy prog w s.heap y b)(h:Q (decide (x=y)) s) :
 wpAny (model prog w) A (eqBool (.ref a) (.ref b)) Q E s:=by
 unfold eqBool
 try with_reducible refine mL ?_
 show wpAny _ _ (if(Value.ref a==Value.ref b)=true then _ else _) Q E s;by_cases hab:(Value.ref a==Value.ref b)=true;rw[if_pos hab];have e:a=b:=by have:=eq_of_beq hab;injection this
 subst e;obtain rfl:=hx.inj hy;exact aG (nL (aX (by simpa using h)));rw[if_neg hab];exact aG (wpAny_richCompare_same_room (op:=.Eq) hx.typeIs hy.typeIs DA
  (lQ DA hx.typeIs F.entry_tuple_eq (Ti hu hx hy ⟨_,rfl,(λe=>nomatch e),pQ h⟩) (F.args_tuple_eq_2 _ _)) (by lia))
theorem Tq{n:Nat}{ks:List Int}{a:ah}{Q:Bool->af->Prop}(hk:IsTupleKey (intKind prog w) s.heap ks a)(h:Q true s):wpAny (model prog w) A (eqIsQuiet (n+1) (.ref a)) Q E s:=by have hT:=hk.typeIs;obtain⟨o,items,m,ho,_,hd,hi⟩:=hk;unfold eqIsQuiet;refine aG (qx hT DA.lookup ?_);show wpAny _ _ (isInstance (.ref a) (.type "tuple") >>= _) _ _ s;refine aG (uQ hT isSubtype_tuple_tuple ?_);simp only[om,dW,dg];refine aG (pR ho hd ?_);refine aG ?_;show wpAny _ _ (forIn items _ _) _ _ s;rw[<-Array.forIn_toList];refine CW _ (λrest r s'=>r.1=aC/\s'=s/\∀v∈rest,carriedByValue v=true) _ ?_ ?_ _ _ ⟨rfl,rfl,hi.byValue⟩;rintro v rest r s' ⟨hr,rfl,hall⟩;rw[eqIsQuiet_byValue _ (hall v eX)];refine aG (aX ?_);simp only[om,dW,dg];exact aX ⟨rfl,rfl,λu Tr=>hall u (eW _ Tr)⟩;rintro⟨r1,r2⟩ s' ⟨hr,rfl,_⟩;simp only at hr;subst hr;exact aX h
theorem Tt{k:DK}{a:ah}{Q:Bool->af->Prop}(hk:fy prog w s.heap k a)(h:Q true s):wpAny (model prog w) A (eqIsQuiet 8 (.ref a)) Q E s:=by have hT:=hk.typeIs;obtain⟨o,n,b,v,ho,_,hd,hi,hv⟩:=hk;unfold eqIsQuiet;refine aG (qx hT DA.lookup ?_);show wpAny _ _ (isInstance (.ref a) (.type "tuple") >>= _) _ _ s;refine aG (uQ hT isSubtype_tuple_tuple ?_);simp only[om,dW,dg];refine aG (pR ho hd ?_);refine aG ?_;show wpAny _ _ (forIn #[.ref b,v] _ _) _ _ s;rw[<-Array.forIn_toList];refine CW _ (λrest r s'=>r.1=aC/\s'=s/\(rest=[.ref b,v]\/rest=[v]\/rest=[])) _ ?_ ?_ _ _ ⟨rfl,rfl,.inl rfl⟩;rintro u rest r s' ⟨hr,rfl,e|e|e⟩;cases e;refine aG (Tq hi ?_);simp only[om,dW,dg];exact aX ⟨rfl,rfl,.inr (.inl (by first|rfl|trivial))⟩;cases e;rw[eqIsQuiet_byValue _ ((l7 prog w).byValue _ _ hv)];refine aG (aX ?_);simp only[om,dW,dg];exact aX ⟨rfl,rfl,.inr (.inr (by first|rfl|trivial))⟩;cases e;rintro⟨r1,r2⟩ s' ⟨hr,rfl,_⟩;simp only at hr;subst hr;exact aX h
end
noncomputable def jw(prog:ai)(w:aj):HeapKind prog w DK where
 is:=fy prog w
 hash:=HA prog w
 draws:=λk=>k.1.length+3
 room:=λA=>A.units+1<cLine
 inj:=λhx hy=>hx.inj hy
 keeps:=λx ho hd hs=>x.keeps ho hd hs
 pyHash:=λhu hk h=>Th hu hk h
 eqBool:=λhu hx hy h=>Tp hu hx hy h
 quiet:=λhk h=>Tt hk h
noncomputable def Mc(k:DK):Int:=reduceHash (Builtin.Tuple.tupleHashOf [reduceHash (Builtin.Tuple.tupleHashOf (k.1.map hashInt)),ic k.2])
noncomputable def Tu:Option Int->V|none=>.aQ|some i=>.int i
noncomputable abbrev DX:=List (DK×ah×V)
noncomputable abbrev Ax(xs:DX)(us:List (DK×ah×aa)):Prop:=Paired (λ(p:DK×ah×V) (q:DK×ah×aa)=>p.1=q.1/\p.2.1=q.2.1/\RelV p.2.2 q.2.2) xs us
noncomputable def HB(xs:DX)(a:ah)(h:az):Prop:=xs.length<=sizeLine/\(a==sysModules)=false/\(xs.map (·.1)).Nodup/\∃us,Ax xs us/\∃o es ep,h.get? a=aB o/\o.ExactDict/\o.data=.dict es ep/\es.toList=us.map λx=>⟨Mc x.1,.ref x.2.1,x.2.2⟩
noncomputable def nU(xs:DX)(a:ah):HO:=.ext (HB xs a)
theorem Me{P:ai}{w:aj}{H:Hp}{h:az}{a:ah}{xs:DX}(e:HB xs a h):bw P w H h a (nU xs a):=by refine⟨e,?_,?_⟩;obtain⟨_,_,_,us,_,o,_,_,h1,_⟩:=e;exact⟨o,h1⟩;rintro h1 h2 ⟨a1,a2,a3,us,a4,o,es,ep,b1,b2⟩ k;exact⟨a1,a2,a3,us,a4,o,es,ep,k o b1,b2⟩
theorem Tv{P:ai}{w:aj}{H:Hp}{h:az}{a:ah}{xs:DX}(ok:fj P w H h)(e:H a=aB (nU xs a)):HB xs a h:=(ok a _ e).1
noncomputable def di(K:aK)(H:Hp)(k:DK)(b:ah):Prop:=∃c,cH K H b [.ref c,Tu k.2]/\cH K H c (k.1.map .int)
noncomputable def DT(K:aK)(H:Hp)(a:ah)(xs:DX):Prop:=(H a=aB (nU xs a)/\∀p∈xs,di K H p.1 p.2.1)\/(xs=[]/\Rd H a (.dK []))
noncomputable def bP(xs:DX)(k:DK):Option (ah×V):=(xs.find? λx=>decide (x.1=k)).map (·.2)
noncomputable def iN(xs:DX)(k:DK)(b:ah)(v:V):DX:=if(bP xs k).isSome then xs.map (λx=>if x.1=k then(x.1,x.2.1,v)else x)else xs++[(k,b,v)]
theorem El{xs:DX}{us:List (DK×ah×aa)}(r:Ax xs us)(k:DK):(bP xs k=aC/\atKey us k=aC)\/∃p q,bP xs k=aB p/\atKey us k=aB q/\RelV p.2 q.2:=by
 induction r with
 |nil=>exact .inl ⟨rfl,rfl⟩
 | @cons p q ps qs h t ih=>
  obtain⟨h1,h2,h3⟩:=h;by_cases e:p.1=k;refine .inr ⟨p.2,q.2,?_,?_,h3⟩;simp[bP,j0,e];simp[atKey,j0,h1.symm.trans e];have e':¬q.1=k:=λz=>e (h1.trans z);have b1:bP (p::ps) k=bP ps k:=by simp[bP,j0,e]
  have b2:atKey (q::qs) k=atKey qs k:=by simp[atKey,j0,e']
  rw[b1,b2];exact ih
theorem Tw{xs:DX}{us:List (DK×ah×aa)}(r:Ax xs us)(k:DK)(b:ah){v:V}{u:aa}(rv:RelV v u):Ax (iN xs k b v) (storedH us k b u):=by
 unfold iN storedH;have e:(bP xs k).isSome=(atKey us k).isSome:=by rcases El r k with⟨h1,h2⟩|⟨p,q,h1,h2,_⟩<;> (rw[h1,h2];rfl)
 rw[e];by_cases z:(atKey us k).isSome=true;rw[if_pos z,if_pos z];clear e z;induction r with
 |nil=>exact .nil
 | @cons p q ps qs h t ih=>
  rw[dH,dH];refine .cons ?_ ih;obtain⟨h1,h2,h3⟩:=h;unfold putAt;by_cases e:p.1=k;rw[if_pos e,if_pos (h1.symm.trans e)];exact⟨h1,h2,rv⟩;rw[if_neg e,if_neg (λz=>e (h1.trans z))];exact⟨h1,h2,h3⟩
 rw[if_neg z,if_neg z];exact Paired.snoc r ⟨rfl,rfl,rv⟩
theorem Ay(xs:DX)(k:DK)(b:ah)(v:V):(iN xs k b v).length<=xs.length+1:=by unfold iN;split;rw[bG];lia;rw[eY];exact bg _
section
variable{X:Cx}{pins:List (ah×Obj)}{σ:St}{H:Hp}{s:af}{a b:ah}{k:DK}{xs:DX}{v:V}{r:aa}{A:ak}{E:aa->af->Prop}
theorem Mf:∀{ls:List Int} {us:List aa},Vals (ls.map .int) us->ItemsAre (intKind X.prog X.w) ls us
 |[],_,.nil=>.nil
 |x::ls,_,.cons h t=>by
  obtain⟨t',rfl⟩:=h;exact .cons (by show Value.isInt x (.int x t')=true;simp[Value.isInt]) (Mf t)
theorem di.is(I:Inv X pins σ H s)(h:di X.K H k b):fy X.prog X.w s.heap k b:=by
 obtain⟨c,h1,h2⟩:=h;obtain⟨its,r1,⟨o,e1,e2,n,e3⟩,_⟩:=I.tuple h1;obtain⟨its2,r2,⟨o2,f1,f2,n2,f3⟩,_⟩:=I.tuple h2;cases r1 with
 | @cons _ u0 _ us0 q1 q2=>
  cases q2 with
  | @cons _ u1 _ us1 q3 q4=>
   cases q4;have q1:u0=.ref c:=q1;subst q1;refine⟨o,n,c,u1,e1,e2,e3,⟨o2,its2.toArray,n2,f1,f2,f3,Mf r2⟩,?_⟩;cases z:k.2 with|none=>rw[z]at q3;cases q3;rfl|some i=>rw[z]at q3;obtain⟨t,rfl⟩:=q3;show Value.isInt i (.int i t)=true;simp[Value.isInt]
theorem DT.dict(I:Inv X pins σ H s)(h:DT X.K H a xs):xs.length<=sizeLine/\(a==sysModules)=false/\∃us,Ax xs us/\s.heap.DictOfH (jw X.prog X.w) a us:=by
 rcases h with⟨e,hk⟩|⟨rfl,e⟩;obtain⟨a1,a2,a3,us,a4,o,es,ep,b1,b2,b3,b4⟩:=Tv I.hok e;refine⟨a1,a2,us,a4,o,es,ep,b1,b2,b3,b4,?_,?_⟩;intro x hx;have:∃p∈xs,p.1=x.1/\p.2.1=x.2.1:=by
  clear a1 a3 b4 hk e;induction a4 with
  |nil=>cases hx
  | @cons p q ps qs h t ih=>
   rcases fV.mp hx with rfl|hx;exact⟨p,eX,h.1,h.2.1⟩;obtain⟨p',h1,h2⟩:=ih hx;exact⟨p',eW _ h1,h2⟩
 obtain⟨p,hp,h1,h2⟩:=this;have:=di.is I (hk p hp);rw[h1,h2]at this;exact this;have:us.map (·.1)=xs.map (·.1):=by
  clear a1 a3 b4 hk e;induction a4 with|nil=>rfl| @cons p q ps qs h t ih=>rw[dH,dH,ih,h.1]
 rw[this];exact a3;obtain⟨z,y,vs,r,o,es,ep,b1,b2,b3,b4,b5,b6⟩:=iM I.hok e;cases r;refine⟨kT _,y,[],.nil,o,es,ep,b1,b2,b3,?_,(λx hx=>nomatch hx),List.nodup_nil⟩;generalize es.toList=l at b5 ⊢;cases b5;rfl
theorem Tz{Q:aa->af->Prop}{p:ah×V}(hu:A.units+2<cLine)(I:Inv X pins σ H s)(d:DT X.K H a xs)(kk:di X.K H k b)(g:bP xs k=aB p)(h:∀w' s',Inv X pins σ H s'->RelV p.2 w'->Q w' s') :
 wpAny (model X.prog X.w) A (getItem (.ref a) (.ref b)) Q E s:=by
 obtain⟨_,_,us,r,dd⟩:=d.dict I;rcases El r k with⟨h1,_⟩|⟨p',q,h1,h2,h3⟩;rw[g]at h1;cases h1;rw[g]at h1;cases h1;exact wpAny_getItem_heap (knd:=jw X.prog X.w) (by show A.in1.units+1<cLine;exact hu) (kk.is I) dd h2 (h _ _ (I.tok _) h3)
theorem Az{Q:aa->af->Prop}(hu:A.units+2<cLine)(I:Inv X pins σ H s)(d:DT X.K H a xs)(kk:di X.K H k b)(h:∀s',Inv X pins σ H s'->Q (.bool (bP xs k).isSome) s') :
 wpAny (model X.prog X.w) A (compareOp .In (.ref b) (.ref a)) Q E s:=by
 obtain⟨_,y,us,r,dd⟩:=d.dict I;have e:(bP xs k).isSome=(atKey us k).isSome:=by rcases El r k with⟨h1,h2⟩|⟨p,q,h1,h2,_⟩<;> (rw[h1,h2];rfl)
 refine wpAny_in_heap (knd:=jw X.prog X.w) (by show A.in1.units+1<cLine;exact hu) (kk.is I) y dd ?_;rw[<-e];exact h _ (I.tok _)
theorem TF{Q:aa->af->Prop}(hu:A.units+2<cLine)(I:Inv X pins σ H s)(d:DT X.K H a xs)(kk:di X.K H k b)(h:∀s',Inv X pins σ H s'->Q (.bool (!(bP xs k).isSome)) s') :
 wpAny (model X.prog X.w) A (compareOp .NotIn (.ref b) (.ref a)) Q E s:=by
 obtain⟨_,y,us,r,dd⟩:=d.dict I;have e:(bP xs k).isSome=(atKey us k).isSome:=by rcases El r k with⟨h1,h2⟩|⟨p,q,h1,h2,_⟩<;> (rw[h1,h2];rfl)
 refine wpAny_notIn_heap (knd:=jw X.prog X.w) (by show A.in1.units+1<cLine;exact hu) (kk.is I) y dd ?_;rw[<-e];exact h _ (I.tok _)
theorem TH{Q:Unit->af->Prop}(hu:A.units+2<cLine)(I:Inv X pins σ H s)(d:DT X.K H a xs)(mu:tD (H a))(kk:di X.K H k b)(hz:xs.length<sizeLine)(rv:RelV v r)(h:∀s',Inv X pins σ (upd H a (nU (iN xs k b v) a)) s'->Q () s') :
 wpAny (model X.prog X.w) A (setItem (.ref a) (.ref b) r) Q E s:=by
 obtain⟨_,y,us,rl,dd⟩:=d.dict I;refine wpAny_setItem_heap (knd:=jw X.prog X.w) (hsz:=by rw[<-qM rl];lia) (by show A.in1.units+1<cLine;exact hu) (kk.is I) dd λh' kq hs=>h _ ?_;obtain⟨q,es,ep,hq,h2,h3,h4,_,h5⟩:=kq;have pr:=Tw rl k b rv;refine vH I mu hs ⟨q,hq⟩ (Me ⟨?_,y,?_,_,pr,q,es,ep,hq,h2,h3,h4⟩);have:=Ay xs k b v;lia;have:(iN xs k b v).map (·.1)=(storedH us k b r).map (·.1):=by
  generalize iN xs k b v=ys at pr;generalize storedH us k b r=zs at pr;clear h4 h5;induction pr with|nil=>rfl| @cons p q ps qs h t ih=>rw[dH,dH,ih,h.1]
 rw[this];exact h5
end
end L2
namespace L2
open PySem PySem.Spec PyProof.Rows PySem.W
open AutoSeq1 (wpAny_loadPart')
noncomputable def DE(h:az)(d:ah)(es:Array DictEntry)(ep:Nat):Prop:=∃o,h.get? d=aB o/\o.ExactDict/\o.data=.dict es ep
theorem DE.ty{s:af}{d:ah}{es:Array DictEntry}{ep:Nat}(x:DE s.heap d es ep):s.TypeIs (.ref d) "dict":=let⟨o,a,b,_⟩:=x;⟨o,a,b.1⟩
theorem DE.at_{h h':az}{d:ah}{es:Array DictEntry}{ep:Nat}(x:DE h d es ep)(k:∀o,h.get? d=aB o->h'.get? d=aB o):DE h' d es ep:=let⟨o,a,b⟩:=x;⟨o,k o a,b⟩
theorem DE.lt{h:az}{d:ah}{es:Array DictEntry}{ep:Nat}(x:DE h d es ep):d<h.objs.size:=let⟨_,a,_⟩:=x;dB a
section
variable{prog:ai}{w:aj}{A:ak}{E:aa->af->Prop}{s:af}{d it:ah}{es:Array DictEntry}{ep i:Nat}
theorem TJ{Q:aa->af->Prop}(hd:(d==sysModules)=false)(hm:DE s.heap d es ep)(hf:(es.size:Int)<2 ^ 63)(h:∀t tk,Q (.int es.size t) {s with toks:=tk}) :
 wpAny (model prog w) A (call (.builtin "len") [.ref d]) Q E s:=by
 refine Calls.call_function_entry kind_len plain_len entry_len (args_len1 _) ?_;unfold Builtin.«len»;refine aG (m:=oneArg "len" _) (aX ?_);have M:MeetsIn prog w (Builtin.«dict.__len__» ⟨[.ref d],[]⟩) (λ_ R s=>DE s.heap d es ep/\R (.ok (.ret (.int es.size s.toks))) {s with toks:=s.toks+1}):=
  .of_wp λA R s bW=>by
   obtain⟨⟨o,a,b,c⟩,h⟩:=bW;show wpAny _ _ (dictSize d >>= _) _ _ s;unfold dictSize;exact aG (aG (wpAny_dictEntries a c (aX (aG (wpAny_pendingCount_other hd (wpAny_ret_mkInt h))))))
 refine aG (m:=callSpecial? (.ref d) (Str.ofString "__len__")) (pP (name:=Str.ofString "__len__") hm.ty F.slot_dict_len
  (C2 F.slot_dict_len hm.ty F.entry_dict_len (F.args_dict_len_1 _) M ⟨hm,?_⟩))
 refine aG (mL (aX (aG (C4 ?_))));show wpAny _ _ (if((es.size:Nat):Int)<0 then _ else _) _ _ _;rw[if_neg (by lia)];show wpAny _ _ (if((es.size:Nat):Int)>=2 ^ 63 then _ else _) _ _ _;rw[if_neg (by lia)];exact aG (wpAny_mkInt (aX ⟨_,rfl,h _ _⟩))
theorem TL{Q:aa->af->Prop}(hd:(d==sysModules)=false)(hm:DE s.heap d es ep)
 (hQ:Q (.ref s.heap.objs.size) {s with heap:=s.heap.push {cls:=.type "dict_keyiterator",data:=.fields #[.ref d,.int 0 0,.int es.size 0,.int ep 0]}}) :
 wpAny (model prog w) A (pyIter (.ref d)) Q E s:=by
 have hT:=hm.ty;obtain⟨o,a,b,c⟩:=hm;refine wpAny_pyIter_slot hT F.slot_dict_iter (lQ F.slot_dict_iter hT F.entry_dict_iter ?_ (F.args_dict_iter_1 _));unfold Builtin.«dict.__iter__» Builtin.Dict.dictSlotNone;refine aG (aG (wpAny_notOrdered_dict hT (aX ?_)));show wpAny _ _ (Builtin.Dict.showsAll d >>= _) _ _ s;unfold Builtin.Dict.showsAll;rw[if_neg (by rw[hd];exact mQ)];refine aG (aX (aG (wpAny_dictEntries a c (aG (wpAny_dictEpoch a c (aG (kP (aX
  ⟨_,rfl,"dict_keyiterator",_,⟨_,fX _ rfl,rfl⟩,F.slot_dict_keyiterator_next.lookup,?_⟩))))))))
 simpa[rawInt]using hQ
theorem Mg{Q:Option aa->af->Prop}(hh:A.handled=aC)(hit:s.heap.IsKeyIter it d i es.size ep)(hm:DE s.heap d es ep)
 (hI:∀e h',es[i]?=aB e->h'.IsKeyIter it d (i+1) es.size ep->Heap.SameBut it s.heap h'->Q (aB e.key) {s with heap:=h'})
 (hE:es[i]?=aC->∀h',Heap.ExtBut it s.heap h'->Q aC {s with heap:=h'}):wpAny (model prog w) A (pyNext (.ref it)) Q E s:=by
 have hT:=hit.typeIs;obtain⟨o,ho,hc,hd⟩:=id hit;obtain⟨od,hod,_,Em⟩:=hm;unfold pyNext;refine aG (xA (pP (name:=Str.ofString "__next__") hT F.slot_dict_keyiterator_next
  (lQ F.slot_dict_keyiterator_next hT F.entry_dict_keyiterator_next ?_ (F.args_dict_keyiterator_next_1 _))))
 refine aG (aX (aG (aG ?_)));first|refine aG (wpAny_typeNameOfWhole_keyiter hT (aX ?_))|refine aG (wpAny_typeNameOf_keyiter hT (aX ?_))
 refine aG (wpAny_fieldsOf ho hd ?_);have hown:Builtin.Dict_items.ownsTuple "dict_keyiterator" = false:=by decide
 simp only[hown,dW,dg];show wpAny _ _ (if(Value.ref d==Value.none)=true then _ else _) _ _ s;rw[if_neg (show ¬((Value.ref d==Value.none)=true)from mQ)];refine aG (aX (aG (wpAny_dictEntries hod Em ?_)));rw[if_neg (by simp)];refine aG (aX (aG (wpAny_dictEpoch hod Em ?_)));rw[if_neg (by simp)];refine aX ?_;simp only[show ¬((i:Int)<0)from by lia,dg,pV];cases hx:es[i]? with
 |some e=>
  refine aG ?_;first|refine aG (wpAny_typeNameOfWhole_keyiter hT (aX ?_))|refine aG (wpAny_typeNameOf_keyiter hT (aX ?_))
  refine aG (wpAny_isOneOf_keyiter hT ?_);show wpAny _ _ (setField (.ref it) 1 (rawInt ((i:Int)+1)) >>= _) _ _ s;refine aG (uS ho hd (by simp) ?_);have oK:(s.heap.update it (Obj.mapFields (·.setIfInBounds 1 (rawInt ((i:Int)+1))))).IsKeyIter it d (i+1) es.size ep:=
   ⟨_,yS _ ho (Du (tB hd _)),(Obj.cls_mapFields ..).trans hc,by rw[tB hd];simp[rawInt]⟩
  refine aG (mL (aG (wpAny_isOneOf_keyiter (s:={s with heap:=s.heap.update it (Obj.mapFields (·.setIfInBounds 1 (rawInt ((i:Int)+1))))}) oK.typeIs ?_)));show wpAny _ _ (pure e.key) _ _ _;exact aX (aX ⟨_,rfl,aX (hI _ _ hx oK (tw ..))⟩)
 |none=>
  refine aG ?_;first|refine aG (wpAny_typeNameOfWhole_keyiter hT (aX ?_))|refine aG (wpAny_typeNameOf_keyiter hT (aX ?_))
  show wpAny _ _ (setField (.ref it) 0 .none >>= _) _ _ s;refine aG (uS ho hd (by simp) ?_);show wpAny _ _ (newExc (.type "StopIteration") [] >>= _) _ _ _;refine aG ?_;simp only[newExc,newTuple];refine aG (kP ?_ (by size_fits));refine aG (m:=firstArgMember _ _) (n6 (a:=Value.none) (by first|rfl|(simp only[firstArgMember];rfl)) ?_);refine kP ?_ (by size_fits);simp only[raiseNew];refine aG (wpAny_handled ?_);rw[show A.in1.handled=aC from hh];refine aG (aX (wpAny_throw ?_));refine aG (uQ (T:="StopIteration") (b:=true) ⟨_,fX _ rfl,rfl⟩ isSubtype_stop ?_);exact aX (hE hx _ (((tw ..).extBut.push _).push _))
theorem TN(hh:A.handled=aC)(hne:d≠it):Walks prog w A it [it,d] [it] es.size (λi v=>∃e,es[i]?=aB e/\v=e.key) (λi h=>h.IsKeyIter it d i es.size ep/\DE h d es ep)where
 sub:=λb hb=>by simp at hb;simp[hb]
 frame:=λ_ _ _ st k=>⟨st.1.at λo e=>k it (by simp) o e,st.2.at_ λo e=>k d (by simp) o e⟩
 item:=λi s Q E hi st hQ=>by
  refine Mg hh st.1 st.2 (λe h' hx oK hs=>?_) λhx=>?_;exact hQ _ h' s.toks ⟨e,hx,rfl⟩ ⟨oK,st.2.at_ λo q=>hs.extBut d o hne q⟩ λb o hb q=>hs.extBut b o (λh=>hb (by simp[h])) q;simp at hx;lia
 done:=λs Q E st hQ=>by
  refine Mg hh st.1 st.2 (λe h' hx oK hs=>?_) λhx h' he=>?_;simp at hx;exact hQ h' s.toks λb o hb q=>he b o (λh=>hb (by simp[h])) q
 self:=λ_ _ _ _ st hQ=>wpAny_pyIter_keyiter st.1 hQ
theorem TQ(hd:(d==sysModules)=false):KdlSrc prog w "dict" d d es.size (λi v=>∃e,es[i]?=aB e/\v=e.key) (λh=>DE h d es ep)where
 type:=λ_ hm=>hm.ty
 there:=λ_ hm=>⟨hm.lt,hm.lt⟩
 keep:=λ_ _ hm hk=>hm.at_ λo e=>hk d (.inl rfl) o e
 notList:=by decide
 notTuple:=by decide
 hint:=λ_ _ _ _ hm hq=>kdl_hint_dict hm.ty hq
 iter:=λ_ _ hh hm=>⟨_,_,(λ_ _ hq=>TL hd hm hq),TN hh (gB hm.lt),⟨⟨_,fX _ rfl,rfl,rfl⟩,hm.at_ λo e=>cQ _ e⟩⟩
end
theorem TR{d:ah}{es:Array DictEntry}{ep:Nat}(hd:(d==sysModules)=false)(hz:es.size<=sizeLine) :
 Meets (Builtin.«tuple.__new__» ⟨[.type "tuple",.ref d],[]⟩)
  (λA R s=>A.handled=aC/\DE s.heap d es ep/\∀(h':az)(tk:Nat),(∀b o',s.heap.get? b=aB o'->h'.get? b=aB o')->R (.ok (.ret (.ref h'.objs.size))) {s with heap:=h'.push {cls:=.type "tuple",data:=.seq (es.map (·.key))},toks:=tk}):=
 .of_wp λprog w A R s h=>by
  obtain⟨hp,g,dd,tk,os⟩:=s;obtain⟨hh,ht,h⟩:=h;have hsub:=sub_tuple_self;have Mh:=init_tuple_lookup;have hmh:=madeHere_tuple;obtain⟨o,e1,e2,e3⟩:=id ht;have hT:Shared.TypeIs ⟨hp,g,dd,tk,os⟩ (.ref d) "dict":=ht.ty
  wp_walk using wpAny_loadPart' e1,yK hT,kdu_collect (A:=A.in1) (TQ (ep:=ep) (es:=es) hd) hh ht hz;intro h' tk' acc hk hacc;have e:acc=es.map (·.key):=by
   apply Array.ext_getElem?;intro j;rw[Array.getElem?_map];cases q:acc[j]? with
   |none=>
    have:es.size<=j:=by rw[<-hacc.1];simpa using q
    rw[Array.getElem?_eq_none this];rfl
   |some v=>
    obtain⟨x,h1,h2⟩:=hacc.2 j v q;rw[h1,h2];rfl
  show wpAny _ _ (Builtin.Tuple.tupleExact acc.toList.toArray >>= λv=>ret v) _ _ _;unfold Builtin.Tuple.tupleExact;refine aG (kP ?_ (by show acc.toList.toArray.size<=sizeLine;simpa[hacc.1]using hz));refine aX ⟨_,rfl,?_⟩;have e':acc.toList.toArray=acc:=by simp
  rw[e',e];exact h h' tk' hk
section
variable{prog:ai}{w:aj}{A:ak}{E:aa->af->Prop}{s:af}{d:ah}{es:Array DictEntry}{ep:Nat}
theorem TU{Q:aa->af->Prop}(hh:A.handled=aC)(hd:(d==sysModules)=false)(hm:DE s.heap d es ep)(hz:es.size<=sizeLine)
 (h:∀(h':az)(tk:Nat),(∀b o',s.heap.get? b=aB o'->h'.get? b=aB o')->Q (.ref h'.objs.size) {s with heap:=h'.push {cls:=.type "tuple",data:=.seq (es.map (·.key))},toks:=tk}) :
 wpAny (model prog w) A (call (.type "tuple") [.ref d]) Q E s:=
 C1 F.called_tuple (by decide) (F.typeCall_tuple_1 _) (F.newCall_tuple_1 _) (λobj=>F.args_object_init_2 obj _) F.entry_tuple_new
  (TR hd hz) ⟨hh,hm,λh' tk hk=>⟨⟨_,fX _ rfl,rfl⟩,h h' tk hk⟩⟩
end
end L2
namespace L2
open PySem PySem.Spec PyProof.Rows PySem.W
section
variable{X:Cx}{pins:List (ah×Obj)}{σ:St}{H:Hp}{s:af}{a b:ah}{k:DK}{xs:DX}
theorem DT.de(I:Inv X pins σ H s)(h:DT X.K H a xs):∃(es:Array DictEntry) (ep:Nat),DE s.heap a es ep/\es.size=xs.length/\∀(i:Nat) (p:DK×ah×V),xs[i]?=aB p->∃e:DictEntry,es[i]?=aB e/\e.key=Value.ref p.2.1:=by
 obtain⟨g1,_,us,r,o,es,ep,b1,b2,b3,b4,g2⟩:=h.dict I;clear h g1 g2;refine⟨es,ep,⟨o,b1,b2,b3⟩,?_,λi p hp=>?_⟩;rw[<-u7,b4,bG,qM r];have:∃q,us[i]?=aB q/\p.2.1=q.2.1:=by
  clear b4;revert i;induction r with
  |nil=>intro i hp;simp at hp
  | @cons p0 q0 ps qs h t ih=>
   intro i hp;cases i with|zero=>simp at hp;subst hp;exact⟨q0,rfl,h.2.1⟩|succ i=>exact ih i (by simpa using hp)
 obtain⟨q,h1,h2⟩:=this;refine⟨⟨Mc q.1,.ref q.2.1,q.2.2⟩,?_,by rw[h2]⟩;rw[<-Array.getElem?_toList,b4,dG,h1];rfl
noncomputable def rE(K:aK)(neg:Bool):R2:=λx y H Q=>∃a b xs k,y=.ref a/\x=.ref b/\DT K H a xs/\di K H k b/\Q (.bl (if neg then !(bP xs k).isSome else(bP xs k).isSome)) H
theorem TV(hu:X.A.units+2<cLine):dD X (compareOp .In) (rE X.K false):=by intro pins s σ H x y v u Q I rx ry h;obtain⟨a,b,xs,k,rfl,rfl,d,kk,q⟩:=h;cases rx;cases ry;exact Az hu I d kk λs' I'=>⟨.bl _,H,I',rfl,q⟩
theorem TX(hu:X.A.units+2<cLine):dD X (compareOp .NotIn) (rE X.K true):=by intro pins s σ H x y v u Q I rx ry h;obtain⟨a,b,xs,k,rfl,rfl,d,kk,q⟩:=h;cases rx;cases ry;exact TF hu I d kk λs' I'=>⟨.bl _,H,I',rfl,q⟩
theorem DT.typeIs(I:Inv X pins σ H s)(h:DT X.K H a xs):s.TypeIs (.ref a) "dict":=let⟨_,_,d,_⟩:=h.de I;d.ty
noncomputable def AA(K:aK):R2:=λx y H Q=>∃a b xs k p,x=.ref a/\y=.ref b/\DT K H a xs/\di K H k b/\bP xs k=aB p/\Q p.2 H
theorem AB(hu:X.A.units+2<cLine):pZ X (AA X.K):=by intro value slice pins s σ H x y v u Q I rx ry q hs;obtain⟨a,b,xs,k,p,rfl,rfl,d,kk,g,q⟩:=q;cases rx;cases ry;exact tail_any (d.typeIs I) PySem.F.slot_dict_getitem.lookup (Tz hu I d kk g λw' s3 I3 rw'=>⟨p.2,H,I3,rw',q⟩) hs
noncomputable def AD(K:aK):V->V->V->Hp->(Hp->Prop)->Prop:=λo i v H Q=>∃a b xs k,o=.ref a/\i=.ref b/\DT K H a xs/\tD (H a)/\di K H k b/\xs.length<sizeLine/\Q (upd H a (nU (iN xs k b v) a))
theorem TY(hu:X.A.units+2<cLine):j7 X (AD X.K):=by intro pins s σ H o i v ov iv u Q I ro ri rv h;obtain⟨a,b,xs,k,rfl,rfl,d,mu,kk,hz,q⟩:=h;cases ro;cases ri;exact TH hu I d mu kk hz rv λs' I'=>⟨_,I',q⟩
theorem j7.or{t t':V->V->V->Hp->(Hp->Prop)->Prop}(h:j7 X t)(h':j7 X t'):j7 X (λo i v H Q=>t o i v H Q\/t' o i v H Q):=by
 intro pins s σ H o i v ov iv u Q I ro ri rv q;rcases q with q|q
 exact h pins s σ H o i v ov iv u Q I ro ri rv q;exact h' pins s σ H o i v ov iv u Q I ro ri rv q
theorem TZ:cu X (.builtin "len") (λys H Q=>∃a xs,ys=[.ref a]/\DT X.K H a xs/\Q (.int xs.length) H):=by intro pins s σ H ys us Q I r h;obtain⟨a,xs,rfl,d,q⟩:=h;obtain⟨u,rfl,rx⟩:=vals1 r;cases rx;obtain⟨es,ep,de,hz,_⟩:=d.de I;obtain⟨hl,hd,_⟩:=d.dict I;refine TJ hd de (by rw[hz];have:=qy;lia) λt tk=>⟨.int xs.length,H,I.tok _,⟨t,by rw[hz]⟩,q⟩
theorem T3(hc:X.calm):cu X (.type "tuple") (λys H Q=>∃a xs,ys=[.ref a]/\DT X.K H a xs/\∀l,H l=aC->Q (.ref l) (upd H l (.tup (xs.map λp=>.ref p.2.1)))):=by
 intro pins s σ H ys us Q I r h;obtain⟨a,xs,rfl,d,q⟩:=h;obtain⟨u,rfl,rx⟩:=vals1 r;cases rx;obtain⟨es,ep,de,hz,hk⟩:=d.de I;obtain⟨hl,hd,_⟩:=d.dict I;refine TU (I.ok.hd hc) hd de (by lia) λh' tk kp=>?_;have I1:Inv X pins σ H {s with heap:=h',toks:=tk}:=I.kept (t':=tk) kp;have rv:Vals (xs.map λp=>.ref p.2.1) (es.map (·.key)).toList:=by
  have:∀(xs:DX)(ls:List DictEntry),ls.length=xs.length->(∀(i:Nat)(p:DK×ah×V),xs[i]?=aB p->∃e:DictEntry,ls[i]?=aB e/\e.key=Value.ref p.2.1)->Vals (xs.map λp=>V.ref p.2.1) (ls.map (·.key)):=by
   intro xs;induction xs with
   |nil=>intro ls e _;cases ls with|nil=>exact .nil|cons=>cases e
   |cons p ps ih=>
    intro ls e h;cases ls with
    |nil=>cases e
    |cons l ls=>
     obtain⟨e',h1,h2⟩:=h 0 p rfl;cases h1;refine .cons ?_ (ih ls (by simpa using e) λi q hq=>by simpa using h (i+1) q (by simpa using hq));exact h2
  have:=this xs es.toList (by simpa using hz) (λi p hp=>by simpa using hk i p hp);simpa using this
 have I2:Inv X pins σ (upd H h'.objs.size (.tup (xs.map λp=>.ref p.2.1))) {s with heap:=h'.push {cls:=.type "tuple",data:=.seq (es.map (·.key))},toks:=tk}:=
  I1.laid (t':=tk) (λb o e=>cQ _ e) (bg _) (show bw X.prog X.w _ _ _ (.tup _)from⟨by rw[bG];exact hl,_,rv,by rw[Array.toArray_toList];exact kU.new h' (es.map (·.key))⟩)
 exact⟨.ref h'.objs.size,_,I2,rfl,q _ (I1.hok.fresh (bg _))⟩
noncomputable def T4(K:aK)(l5:List (TE×TE)):TE:=λσ H Q=>∀p,H p=aC->Eb l5 σ (upd H p (.dK [])) λps H2=>H2 p=aB (.dK [])/\((∃kvs:List (Key×V),ps=kvs.map (λkv=>(kV kv.1,kv.2))/\kvs.length<=15/\Q (.ref p) (upd H2 p (.dK (p5 [] kvs))))\/
 ∃b k v,ps=[(.ref b,v)]/\di K H2 k b/\Q (.ref p) (upd H2 p (nU [(k,b,v)] p)))
theorem T5{pos:Pos}{keys:List (Option ao)}{values:List ao}{l5:List (TE×TE)}(hu:X.A.units+2<cLine)(h:Ai X pos keys values l5)(hall:keys.all (·.isSome))(hl:keys.length=values.length)(h0:keys≠[])
 (HC:keys.length<=15):PE X (.Dict keys values pos) (T4 X.K l5):=by
 intro pins s σ H Q I q;have hn:=I.hok.fresh (bg s.heap.objs.size);have I1:=I.laid (a:=s.heap.objs.size) (o:=.dK []) (h':=s.heap.push {cls:=.type "dict",data:=.dict #[]}) (t':=s.toks) (λ_ _ q=>cQ _ q) (bg _) (Hl s.heap I.big);refine wpAny_Dict_any hall hl h0 HC (bq (h pins _ σ _ _ I1 (q _ hn)) λws s2 bW=>?_);obtain⟨ps,H2,I2,rel,e,q2⟩:=bW;unfold storeAll;rcases q2 with⟨kvs,ep,lk,q2⟩|⟨b,k,v,ep,kk,q2⟩
 subst ep;obtain⟨rs,c,rk⟩:=LO (P:=X.prog) (w:=X.w) rel;obtain⟨z,hd,tV,r0,dd⟩:=kj I2.hok e;cases r0;have hr:rs.length=kvs.length:=(qM rk).symm;refine wpAny_storeAll (knd:=iH X.prog X.w) ws rs [] s2 _ c dd (by rw[yR,qy];lia) λh' kq hs=>⟨.ref s.heap.objs.size,_,?_,rfl,q2⟩
 have hz:(p5 [] kvs).length<=sizeLine:=by have h1:=Ho kvs [];rw[yR]at h1;rw[qy];lia
 have he:∃q,h'.get? s.heap.objs.size=aB q:=let⟨q,_,_,hq,_⟩:=kq;⟨q,hq⟩;exact vH I2 (by rw[e];exact True.intro) hs he (Ea hz hd (rk.merge .nil) kq);subst ep;cases rel with
 | @cons p0 w0 ps0 HE rp rr=>
  cases rr;obtain⟨w1,w2⟩:=w0;obtain⟨r1,r2⟩:=rp;cases r1;have d:DT X.K H2 s.heap.objs.size []:=.inr ⟨rfl,.inl e⟩;obtain⟨_,y,us,rl,dd⟩:=d.dict I2;cases rl;rw[xE];refine aG (aG (wpAny_dictSet_heap (knd:=jw X.prog X.w) (hsz:=by simp) (by show X.A.units+1<cLine;lia) (kk.is I2) dd λh' kq hs=>aX ?_));show wpAny _ _ (pure _) _ _ _;refine aX ⟨.ref s.heap.objs.size,_,?_,rfl,q2⟩;obtain⟨q,es,ep,hq,h2,h3,h4,_,h5⟩:=kq;refine vH I2 (by rw[e];exact True.intro) hs ⟨q,hq⟩ (Me ⟨by rw[qy];exact Nat.le_add_left 1 16777215,y,by simp,[(k,b,w2)],.cons ⟨rfl,rfl,r2⟩ .nil,q,es,ep,hq,h2,h3,h4⟩)
end
end L2
namespace L2
noncomputable def cU{α:Type}:List α->List α|[]=>[]|[x]=>[x]|x::_::r=>x::cU r
theorem Mj{α:Type}:∀l:List α,(cU l).length=(l.length+1)/2
 |[]=>by simp[cU]
 |[x]=>by simp[cU]
 |x::y::r=>by
  show(cU r).length+1=_;rw[Mj r,cY,cY];lia
theorem Eo{α:Type}:∀(l:List α) (i:Nat),(cU l)[i]?=l[2*i]?
 |[],i=>by simp[cU]
 |[x],0=>rfl
 |[x],i+1=>by
  show([x]:List α)[i+1]?=_;rw[iY (by simp),iY (by simp;lia)]
 |x::y::r,0=>rfl
 |x::y::r,i+1=>by
  show(cU r)[i]?=_;rw[Eo r i,show 2* (i+1)=2*i+1+1 by lia,lS,lS]
end L2
namespace RF
open PySem
inductive W where
 |aQ|bl (b:Bool)|int (i:Int)|str (x:Str)|tup (ws:List W)|fz (ws:List W)|ref (i:Nat)
mutual
noncomputable def W.lt(n:Nat):W->Bool|.tup ws=>W.l8 n ws|.fz ws=>W.l8 n ws|.ref i=>Nat.blt i n|_=>true
noncomputable def W.l8(n:Nat):List W->Bool|[]=>true|w::ws=>W.lt n w&&W.l8 n ws
end
inductive VO where
 |lst (ws:List W)|dk (kvs:List (L2.Key×W))|dm (kvs:List (L2.Key×W))|dt (ks ws:List W)
structure VH where
 n:Nat
 lo:Nat
 os:List VO
noncomputable def VH.get(h:VH)(i:Nat):Option VO:=if Nat.blt i h.n then h.os[h.n-1-i]? else aC
noncomputable def VH.set(h:VH)(i:Nat)(o:VO):VH:=⟨h.n,if Nat.blt i h.lo then i else h.lo,h.os.set (h.n-1-i) o⟩
noncomputable def VH.new(h:VH)(o:VO):VH:=⟨h.n+1,h.lo,o::h.os⟩
inductive Res(α:Type)where
 |ok (a:α) (h:VH)|ex (x:W) (h:VH)|no
noncomputable def Res.bind{α β:Type}(r:Res α)(f:α->VH->Res β):Res β:=match r with|.ok a h=>f a h|.ex x h=>.ex x h|.no=>.no
noncomputable def Res.of{α:Type}(o:Option α)(h:VH):Res α:=match o with|some a=>.ok a h|none=>.no
inductive Op where
 |add|sub|mul|fdiv|mod|shl|pow
 deriving DecidableEq
inductive Cp where
 |eq|ne|lt|le|gt|ge|yb|vK|kY|HF
 deriving DecidableEq
inductive Ty where
 |int|bool|tuple|list|str|dict
 deriving DecidableEq
inductive Bi where
 |len|list|tuple|int|abs|max|min|all|HG|HH|bF|st2
 deriving DecidableEq
inductive Mt where
 |append|get|update
 deriving DecidableEq
inductive Kd where
 |seq|cD|gK|lA|zip|keys|rev
 deriving DecidableEq
inductive Tg where
 |one (i:Nat)|many (is:List Nat)|AE (i:Nat) (is:List Nat)
 deriving DecidableEq
inductive E where
 |var (i:Nat)|cst (w:W)
 |nil|cons (a r:E)
 |tup (a:E)|lst (a:E)|AF (a:E)
 |op (o:Op) (a b:E)|neg (a:E)
 |cmp (c:Cp) (a b:E)|yc (c d:Cp) (a b e:E)
 |not (a:E)|and (a b:E)|or (a b:E)|p9 (a:E)|ite (c a b:E)
 |idx (a b:E)|slc (a:E) (bl:Bool) (lo:E) (bh:Bool) (hi:E)
 |call (f:Nat) (a:E)|bi (b:Bi) (a:E)|vL (t:Ty) (a:E)|mt (m:Mt) (o a:E)
 |lc (k:Kd) (a:E) (t:Tg) (ow:Nat) (ix:List Nat) (c e:E)
 |yd (k:Kd) (a:E) (t:Tg) (ow:Nat) (ix:List Nat) (c:E) (k2:Kd) (a2:E) (t2:Tg) (c2 e:E)
 |dc (k:Kd) (a:E) (t:Tg) (ow:Nat) (ix:List Nat) (c e v:E)
inductive S where
 |skip|seq (a b:S)|set (i:Nat) (e:E)|ye (is:List Nat) (e:E)|aug (i:Nat) (o:Op) (e:E)
 |put (o i v:E)|ite (c:E) (a b:S)|ret (e:E)|expr (e:E)|brk|cnt
 |for (k:Kd) (a:E) (t:Tg) (b:S)|AG (c:E) (b:S)|no
noncomputable abbrev En:=List (Option W)
inductive Fl where
 |nx (ρ:En)|rt (w:W)|bk (ρ:En)|ct (ρ:En)
noncomputable def aT{α β:Type}(f:α->Option β):List α->Option (List β)
 |[]=>aB []
 |a::r=>match f a with
  |some b=>(match aT f r with
   |some bs=>aB (b::bs)
   |none=>aC)
  |none=>aC
noncomputable def toD(h:VH):Nat->W->Option aA
 |0,_=>aC
 |n+1,w=>match w with
  |.aQ=>aB .none
  |.bl b=>aB (.bool b)
  |.int i=>aB (.int i)
  |.str x=>aB (.str x)
  |.tup ws=>(aT (toD h n) ws).map .tuple
  |.fz ws=>(aT (toD h n) ws).map .list
  |.ref i=>match h.get i with
   |some (.lst ws)=>(aT (toD h n) ws).map .list
   |_=>aC
noncomputable def dj(h:VH)(x y:W):Option Bool:=
 match toD h 24 x,toD h 24 y with|some d,aB e=>if SeqAt.shaped d&&SeqAt.shaped e then aB (PyData.eqv d e)else aC|_,_=>aC
noncomputable def big:Nat:=16777216
noncomputable def jU(i:Int):Bool:=decide (-(2 ^ 64)<i)&&decide (i<2 ^ 64)
noncomputable def gH:Op->Int->Int->Option Int|.add,i,j=>aB (i+j)|.sub,i,j=>aB (i-j)|.mul,i,j=>if jU i||jU j then aB (i*j)else aC|.fdiv,i,j=>if decide (0<j)&&decide (j<1073741824)then aB (i/j)else aC|.mod,i,j=>if decide (0<j)then aB (i % j)else aC|.shl,i,j=>if decide (0<=j)&&decide (j<=1000000)&&decide (i.natAbs<2 ^ 64)then aB (i*2 ^ j.toNat)else aC|.pow,i,j=>if decide (0<=j)&&decide (j<=1000000)&&decide (i.natAbs<2 ^ 64)then aB (i ^ j.toNat)else aC
noncomputable def HJ:Op->List W->List W->Option (List W)|.add,xs,ys=>if Nat.ble (xs.length+ys.length) big then aB (xs++ys)else aC|_,_,_=>aC
noncomputable def AH:Op->List W->List W->Option (List W)|.add,xs,ys=>if Nat.ble (xs.length+ys.length) big then aB (xs++ys)else aC|_,_,_=>aC
noncomputable def fits(i:Int):Bool:=decide (-(2 ^ 62)<=i)&&decide (i<2 ^ 62)
noncomputable def rF(o:Op)(xs:List W)(k:Int):Option (List W):=match o with|.mul=>if fits k&&Nat.ble (xs.length*k.toNat) big then aB (bV k.toNat xs).flatten else aC|_=>aC
noncomputable def iE(o:Op)(x y:W)(h:VH):Res W:=match x,y with
 |.int i,.int j=>.of ((gH o i j).map .int) h
 |.tup xs,.tup ys=>.of ((HJ o xs ys).map .tup) h
 |.tup xs,.int k=>.of ((rF o xs k).map .tup) h
 |.ref i,.ref j=>match h.get i,h.get j with
  |some (.lst xs),aB (.lst ys)=>(match AH o xs ys with
   |some zs=>.ok (.ref h.n) (h.new (.lst zs))
   |none=>.no)
  |_,_=>.no
 |_,_=>.no
noncomputable def vM(o:Op)(x y:W)(h:VH):Res W:=match x,y with
 |.int i,.int j=>(match o with
  |.add=>.ok (.int (i+j)) h
  |.sub=>.ok (.int (i-j)) h
  |.mul=>.of ((gH .mul i j).map .int) h
  |.fdiv=>.of ((gH .fdiv i j).map .int) h
  |_=>.no)
 |.ref i,.ref j=>match o,h.get i,h.get j with
  |.add,aB (.lst xs),aB (.lst ys)=>if Nat.ble (xs.length+ys.length) big then .ok (.ref i) (h.set i (.lst (xs++ys)))else .no
  |_,_,_=>.no
 |.tup (x::xs),.tup ys=>(match o with
  |.add=>if Nat.ble ((x::xs).length+ys.length) big then .ok (.tup (x::xs++ys)) h else .no
  |_=>.no)
 |_,_=>.no
noncomputable def kC:Cp->Int->Int->Option Bool|.lt,i,j=>aB (decide (i<j))|.le,i,j=>aB (decide (i<=j))|.gt,i,j=>aB (decide (j<i))|.ge,i,j=>aB (decide (j<=i))|_,_,_=>aC
noncomputable def fF:W->Bool|.aQ=>true|_=>false
noncomputable def aV(h:VH):W->Option (List W)
 |.tup ws=>aB ws
 |.fz ws=>aB ws
 |.ref i=>match h.get i with
  |some (.lst ws)=>aB ws
  |_=>aC
 |_=>aC
noncomputable def intD:W->Option Int|.int i=>aB i|_=>aC
noncomputable def fB:W->Option L2.DK|.tup [.tup ws,.aQ]=>(aT intD ws).map λis=>(is,aC)|.tup [.tup ws,.int i]=>(aT intD ws).map λis=>(is,aB i)|_=>aC
noncomputable def ie:List W->List W->L2.DK->Option W|k::ks,w::ws,d=>if fB k=aB d then aB w else ie ks ws d|_,_,_=>aC
noncomputable def inD(h:VH)(x y:W):Option Bool:=match y with
 |.ref a=>(match h.get a,fB x with
  |some (.dt ks ws),aB k=>aB (ie ks ws k).isSome
  |_,_=>aC)
 |_=>aC
noncomputable def AI(h:VH)(a:Nat)(y:W):Option W:=match h.get a,fB y with|some (.dt ks ws),aB k=>ie ks ws k|_,_=>aC
noncomputable def l9(h:VH)(x:W):Option (List W):=match x with
 |.ref a=>(match h.get a with
  |some (.dt ks _)=>aB ks
  |_=>aC)
 |_=>aC
noncomputable def AJ(h:VH)(x y:W):Option Bool:=match aV h y,toD h 24 x with
 |some ws,aB d=>(match aT (toD h 24) ws with
  |some ds=>if ds.all SeqAt.shaped&&SeqAt.shaped d then aB (L2.ia ds d)else aC
  |none=>aC)
 |_,_=>inD h x y
noncomputable def AK:W->W->Option Bool|.bl c,.bl b=>aB (c==b)|_,_=>aC
noncomputable def bJ(c:Cp)(h:VH)(x y:W):Option Bool:=match c with
 |.kY=>AJ h x y
 |.HF=>(AJ h x y).map (!·)
 |.eq=>dj h x y
 |.ne=>(dj h x y).map (!·)
 |.yb=>if fF y then aB (fF x)else AK x y
 |.vK=>if fF y then aB (!fF x)else(AK x y).map (!·)
 |c=>match x,y with
  |.int i,.int j=>kC c i j
  |_,_=>aC
noncomputable def ng(h:VH):W->Option Bool
 |.bl b=>aB b
 |.int i=>aB (i != 0)
 |.aQ=>aB false
 |.tup ws=>aB (!ws.isEmpty)
 |.ref i=>match h.get i with
  |some (.lst ws)=>aB (!ws.isEmpty)
  |_=>aC
 |_=>aC
noncomputable def lB:W->Option L2.Key|.int i=>aB (.inl i)|.str x=>aB (.inr x)|_=>aC
noncomputable def aP(kvs:List (L2.Key×W))(k:L2.Key):Option W:=(kvs.find? λkv=>decide (kv.1=k)).map (·.2)
noncomputable def bD(kvs:List (L2.Key×W))(k:L2.Key)(w:W):List (L2.Key×W):=
 if(kvs.any λkv=>decide (kv.1=k))=true then kvs.map (λkv=>if kv.1=k then(kv.1,w)else kv)else kvs++[(k,w)]
noncomputable def bR(h:VH)(x y:W):Option W:=match x,y with
 |.tup ws,.int i=>L2.fE ws i
 |.fz ws,.int i=>L2.fE ws i
 |.ref a,.int i=>(match h.get a with
  |some (.lst ws)=>L2.fE ws i
  |some (.dk kvs)=>aP kvs (.inl i)
  |some (.dm kvs)=>aP kvs (.inl i)
  |_=>aC)
 |.ref a,.str x=>(match h.get a with
  |some (.dk kvs)=>aP kvs (.inr x)
  |_=>aC)
 |.ref a,y=>AI h a y
 |_,_=>aC
noncomputable def gh(b:Bool)(w:W):Option (Option Int):=match b,w with|false,_=>aB aC|true,.int i=>aB (aB i)|_,_=>aC
noncomputable def je(ws:List W)(lo hi:Option Int):List W:=(ws.drop (HT.bT ws.length 0 lo)).take (HT.bT ws.length ws.length hi-HT.bT ws.length 0 lo)
noncomputable def kD(x:W)(l u:Option Int)(h:VH):Res W:=match x with
 |.tup ws=>.ok (.tup (je ws l u)) h
 |.ref i=>(match h.get i with
  |some (.lst ws)=>.ok (.ref h.n) (h.new (.lst (je ws l u)))
  |_=>.no)
 |_=>.no
@[simp] theorem AL {ws:List W} {l u:Option Int} {h:VH}:kD (.tup ws) l u h=.ok (.tup (je ws l u)) h:=rfl
noncomputable def dN:Ty->VH->W->Option Bool
 |t,_,.aQ=>aB false
 |t,_,.bl _=>aB (t == .int||t == .bool)
 |t,_,.int _=>aB (t == .int)
 |t,_,.str _=>aB (t == .str)
 |t,_,.tup _=>aB (t == .tuple)
 |_,_,.fz _=>aC
 |t,h,.ref i=>match h.get i with
  |some (.lst _)=>aB (t == .list)
  |some (.dk _)=>aB (t == .dict)
  |_=>aC
noncomputable def jf(xs:List W)(h:VH):Res W:=match xs with
 |[x]=>.of (match aV h x with
  |some ws=>aB (.int ws.length)
  |none=>(l9 h x).map λks=>.int ks.length) h
 |_=>.no
noncomputable def iO(xs:List W)(h:VH):Res W:=match xs with
 |[x]=>(match aV h x with
  |some ws=>.ok (.ref h.n) (h.new (.lst ws))
  |none=>.no)
 |_=>.no
noncomputable def vN(xs:List W)(h:VH):Res W:=match xs with
 |[x]=>.of (match aV h x with
  |some ws=>aB (.tup ws)
  |none=>(l9 h x).map .tup) h
 |_=>.no
noncomputable def nh(xs:List W)(h:VH):Res W:=match xs with|[.int i]=>.ok (.int i) h|[.bl b]=>.ok (.int (if b then 1 else 0)) h|_=>.no
noncomputable def lC(xs:List W)(h:VH):Res W:=match xs with|[.int i]=>.ok (.int (if i<0 then -i else i)) h|_=>.no
noncomputable def iZ:W->Option Int|.int i=>aB i|_=>aC
noncomputable def dO:Int->List Int->Int|x,[]=>x|x,y::r=>dO (if y>x then y else x) r
noncomputable def ni(xs:List W)(h:VH):Res W:=match xs with
 |[.int i,.int j]=>.ok (.int (if j>i then j else i)) h
 |[.ref i]=>(match h.get i with
  |some (.lst ws)=>(match aT iZ ws with
   |some (x::r)=>.ok (.int (dO x r)) h
   |_=>.no)
  |_=>.no)
 |_=>.no
noncomputable def rG(xs:List W)(h:VH):Res W:=match xs with|[.int i,.int j]=>.ok (.int (if j<i then j else i)) h|_=>.no
noncomputable def tW:W->Option Bool|.bl b=>aB b|_=>aC
noncomputable def nj(xs:List W)(h:VH):Res W:=match xs with
 |[.ref i]=>(match h.get i with
  |some (.lst ws)=>.of ((aT tW ws).map λbs=>.bl (bs.all id)) h
  |_=>.no)
 |_=>.no
noncomputable def AM(j:Nat):List W:=(List.range' 0 j).map λ(i:Nat)=>W.int (0+ (i:Int))
noncomputable def tX(xs:List W)(h:VH):Res W:=match xs with|[.int i]=>if decide (0<=i)&&Nat.ble i.toNat big then .ok (.ref h.n) (h.new (.lst (AM i.toNat)))else .no|_=>.no
noncomputable def vO(xs:List W)(h:VH):Res W:=match xs with|[]=>.ok (.ref h.n) (h.new (.dm []))|_=>.no
noncomputable def nk(xs:List W)(h:VH):Res W:=match xs with
 |[.ref i]=>(match h.get i with
  |some (.dm kvs)=>.ok (.ref i) (h.set i (.dk kvs))
  |_=>.no)
 |_=>.no
noncomputable def rH:W->Option Nat|.aQ=>aB 0|.int i=>if i=1 then aB 1 else aC|_=>aC
noncomputable def nq(xs:List W)(h:VH):Res W:=match xs with
 |[.ref i,l,.int k]=>(match h.get i,rH l with
  |some (.lst ws),aB c=>if k=2 then .ok (.ref h.n) (h.new (.lst (L2.cU (ws.drop c))))else .no
  |_,_=>.no)
 |_=>.no
noncomputable def mh(b:Bi)(xs:List W)(h:VH):Res W:=match b with|.abs=>lC xs h|.max=>ni xs h|.min=>rG xs h|.all=>nj xs h|.HG=>tX xs h|.HH=>vO xs h|.bF=>nk xs h|.st2=>nq xs h|.len=>jf xs h|.list=>iO xs h|.tuple=>vN xs h|.int=>nh xs h
noncomputable def yf(kvs more:List (L2.Key×W)):List (L2.Key×W):=more.foldl (λacc kv=>bD acc kv.1 kv.2) kvs
noncomputable def oM(a b:Nat)(h:VH):Res W:=match h.get a,h.get b with|some (.dm kvs),aB (.dm more)=>if Nat.beq a b then .no else if Nat.ble (kvs.length+more.length) 1000 then .ok .aQ (h.set a (.dm (yf kvs more)))else .no|_,_=>.no
noncomputable def jV(m:Mt)(o:W)(xs:List W)(h:VH):Res W:=match m,o,xs with
 |.update,.ref i,[.ref j]=>oM i j h
 |.append,.ref i,[x]=>(match h.get i with
  |some (.lst ws)=>if Nat.blt ws.length big then .ok .aQ (h.set i (.lst (ws++[x])))else .no
  |_=>.no)
 |.get,.ref i,[k,d]=>(match h.get i,lB k with
  |some (.dk kvs),aB k=>.ok ((aP kvs k).getD d) h
  |some (.dm kvs),aB k=>.ok ((aP kvs k).getD d) h
  |_,_=>.no)
 |_,_,_=>.no
noncomputable def kE(m:Mt)(h:VH)(o:W):Bool:=match m,o with
 |.update,.ref i=>(match h.get i with
  |some (.dm _)=>true
  |_=>false)
 |.append,.ref i=>(match h.get i with
  |some (.lst _)=>true
  |_=>false)
 |.get,.ref i=>(match h.get i with
  |some (.dk _)=>true
  |some (.dm _)=>true
  |_=>false)
 |_,_=>false
noncomputable def vP:L2.Key->W|.inl i=>.int i|.inr x=>.str x
noncomputable def aZ(k:Kd)(x:W)(i:Nat)(h:VH):Option (Option W):=match k with
 |.seq=>(aV h x).map λws=>ws[i]?
 |.lA=>(match x with
  |.tup ws=>aB ((ws[i]?).map λw=>.tup [.int i,w])
  |_=>aC)
 |.rev=>(match x with
  |.tup ws=>aB ws.reverse[i]?
  |_=>aC)
 |.keys=>(match x with
  |.ref a=>(match h.get a with
   |some (.dk kvs)=>(match kvs[i]? with
    |some kv=>aB (aB (vP kv.1))
    |none=>if Nat.beq i kvs.length then aB aC else aC)
   |_=>aC)
  |_=>aC)
 |.zip=>(match x with
  |.tup [u,v]=>(match aV h u,aV h v with
   |some ws,aB zs=>aB (match ws[i]?,zs[i]? with
    |some a,aB b=>aB (.tup [a,b])
    |_,_=>aC)
   |_,_=>aC)
  |_=>aC)
 |.cD=>(match x with
  |.tup [.int j]=>if fits j then aB (if decide ((i:Int)<j)then aB (.int (0+i))else aC)else aC
  |_=>aC)
 |.gK=>(match x with
  |.tup [.int a,.int b]=>if fits a&&fits b then aB (if decide ((i:Int)<b-a)then aB (.int (a+i))else aC)else aC
  |_=>aC)
noncomputable def rJ:List Nat->List W->En->Option En|[],[],ρ=>aB ρ|i::is,w::ws,ρ=>rJ is ws (ρ.set i (aB w))|_,_,_=>aC
noncomputable def bL(t:Tg)(w:W)(h:VH)(ρ:En):Option En:=match t with
 |.one i=>aB (ρ.set i (aB w))
 |.AE j is=>(match w with
  |.tup [x,y]=>(match aV h y with
   |some ws=>rJ is ws (ρ.set j (aB x))
   |none=>aC)
  |_=>aC)
 |.many is=>match aV h w with
  |some ws=>rJ is ws ρ
  |none=>aC
noncomputable def fuel:Nat:=1000000
noncomputable def inner(ow:Nat)(ix:List Nat)(ρ:En):En:=bV ow aC++ix.map λj=>(ρ[j]?).join
noncomputable def gC(nx:Nat->VH->Option (Option W))(tg:W->VH->En->Option En)(c:En->VH->Res W)(e:En->VH->Res W):Nat->Nat->En->VH->List W->Res (List W)
 |0,_,_,_,_=>.no
 |f+1,i,ρ,h,acc=>match nx i h with
  |none=>.no
  |some aC=>.ok acc.reverse h
  |some (aB w)=>match tg w h ρ with
   |none=>.no
   |some ρ=>(c ρ h).bind λb h=>match b with
    |.bl true=>(e ρ h).bind λy h=>gC nx tg c e f (i+1) ρ h (y::acc)
    |.bl false=>gC nx tg c e f (i+1) ρ h acc
    |_=>.no
noncomputable def jx(nx:Nat->VH->Option (Option W))(tg:W->VH->En->Option En)(c:En->VH->Res W)(e:En->VH->Res W):Nat->Nat->En->VH->List W->Res (En×List W)
 |0,_,_,_,_=>.no
 |f+1,i,ρ,h,acc=>match nx i h with
  |none=>.no
  |some aC=>.ok (ρ,acc) h
  |some (aB w)=>match tg w h ρ with
   |none=>.no
   |some ρ=>(c ρ h).bind λb h=>match b with
    |.bl true=>(e ρ h).bind λy h=>jx nx tg c e f (i+1) ρ h (y::acc)
    |.bl false=>jx nx tg c e f (i+1) ρ h acc
    |_=>.no
noncomputable def kZ(nx:Nat->VH->Option (Option W))(tg:W->VH->En->Option En)(c:En->VH->Res W)(kY:En->VH->List W->Res (En×List W)):Nat->Nat->En->VH->List W->Res (List W)
 |0,_,_,_,_=>.no
 |f+1,i,ρ,h,acc=>match nx i h with
  |none=>.no
  |some aC=>.ok acc.reverse h
  |some (aB w)=>match tg w h ρ with
   |none=>.no
   |some ρ=>(c ρ h).bind λb h=>match b with
    |.bl true=>(kY ρ h acc).bind λp h=>kZ nx tg c kY f (i+1) p.1 h p.2
    |.bl false=>kZ nx tg c kY f (i+1) ρ h acc
    |_=>.no
noncomputable def jK(nx:Nat->VH->Option (Option W))(tg:W->VH->En->Option En)(c:En->VH->Res W)(e v:En->VH->Res W):Nat->Nat->En->VH->List (L2.Key×W)->Res (List (L2.Key×W))
 |0,_,_,_,_=>.no
 |f+1,i,ρ,h,acc=>match nx i h with
  |none=>.no
  |some aC=>.ok acc h
  |some (aB w)=>match tg w h ρ with
   |none=>.no
   |some ρ=>(c ρ h).bind λb h=>match b with
    |.bl true=>(e ρ h).bind λx h=>(v ρ h).bind λy h=>(match lB x with
     |some k=>if Nat.blt acc.length big then jK nx tg c e v f (i+1) ρ h (bD acc k y)else .no
     |none=>.no)
    |.bl false=>jK nx tg c e v f (i+1) ρ h acc
    |_=>.no
noncomputable def eE(nx:Nat->VH->Option (Option W))(tg:W->VH->En->Option En)(b:En->VH->Res Fl):Nat->Nat->En->VH->Res Fl
 |0,_,_,_=>.no
 |f+1,i,ρ,h=>match nx i h with
  |none=>.no
  |some aC=>.ok (.nx ρ) h
  |some (aB w)=>match tg w h ρ with
   |none=>.no
   |some ρ=>(b ρ h).bind λfl h=>match fl with
    |.nx ρ=>eE nx tg b f (i+1) ρ h
    |.ct ρ=>eE nx tg b f (i+1) ρ h
    |.bk ρ=>.ok (.nx ρ) h
    |.rt w=>.ok (.rt w) h
noncomputable def dY(c:En->VH->Res W)(b:En->VH->Res Fl):Nat->En->VH->Res Fl
 |0,_,_=>.no
 |f+1,ρ,h=>(c ρ h).bind λt h=>match t with
  |.bl false=>.ok (.nx ρ) h
  |.bl true=>(b ρ h).bind λfl h=>match fl with
   |.nx ρ=>dY c b f ρ h
   |.ct ρ=>dY c b f ρ h
   |.bk ρ=>.ok (.nx ρ) h
   |.rt w=>.ok (.rt w) h
  |_=>.no
noncomputable def tY:List W->Option (List (L2.Key×W))
 |[]=>aB []
 |k::v::r=>match lB k with
  |some k=>(match tY r with
   |some kvs=>aB ((k,v)::kvs)
   |none=>aC)
  |none=>aC
 |_=>aC
noncomputable def AN:List (L2.Key×W)->VO|[]=>.dt [] []|kvs=>.dk (yf [] kvs)
noncomputable def nt(ys:List W)(h:VH):Res W:=match ys with
 |[k,w]=>(match fB k with
  |some _=>.ok (.ref h.n) (h.new (.dt [k] [w]))
  |none=>.no)
 |_=>.no
noncomputable def oN(ρ:En)(a:Nat)(j:Int)(w:W)(h:VH):Res Fl:=match h.get a with|some (.dm kvs)=>if Nat.blt kvs.length big then .ok (.nx ρ) (h.set a (.dm (bD kvs (.inl j) w)))else .no|_=>.no
noncomputable def putD(ρ:En)(a:Nat)(y w:W)(h:VH):Res Fl:=match h.get a,fB y with|some (.dt ks ws),aB k=>if(ie ks ws k).isNone&&Nat.blt ks.length big then .ok (.nx ρ) (h.set a (.dt (ks++[y]) (ws++[w])))else .no|_,_=>.no
noncomputable abbrev Call:=Nat->List W->VH->Res W
noncomputable def ev(cl:Call):E->En->VH->Res W
 |.var i,ρ,h=>.of (ρ[i]?).join h
 |.cst w,_,h=>.ok w h
 |.nil,_,h=>.ok (.tup []) h
 |.cons a r,ρ,h=>(ev cl a ρ h).bind λx h=>(ev cl r ρ h).bind λy h=>match y with
  |.tup ys=>.ok (.tup (x::ys)) h
  |_=>.no
 |.tup a,ρ,h=>(ev cl a ρ h).bind λy h=>match y with
  |.tup ys=>if Nat.ble ys.length 1000 then .ok (.tup ys) h else .no
  |_=>.no
 |.lst a,ρ,h=>(ev cl a ρ h).bind λy h=>match y with
  |.tup ys=>if Nat.ble ys.length 1000 then .ok (.ref h.n) (h.new (.lst ys))else .no
  |_=>.no
 |.AF a,ρ,h=>(ev cl a ρ h).bind λy h=>match y with
  |.tup ys=>(match tY ys with
   |some kvs=>if Nat.ble kvs.length 15 then .ok (.ref h.n) (h.new (AN kvs))else .no
   |none=>nt ys h)
  |_=>.no
 |.op o a b,ρ,h=>(ev cl a ρ h).bind λx h=>(ev cl b ρ h).bind λy h=>iE o x y h
 |.neg a,ρ,h=>(ev cl a ρ h).bind λx h=>match x with
  |.int i=>.ok (.int (-i)) h
  |_=>.no
 |.cmp c a b,ρ,h=>(ev cl a ρ h).bind λx h=>(ev cl b ρ h).bind λy h=>.of ((bJ c h x y).map .bl) h
 |.yc c d a b e,ρ,h=>(ev cl a ρ h).bind λx h=>(ev cl b ρ h).bind λy h=>match bJ c h x y with
  |some true=>(ev cl e ρ h).bind λz h=>.of ((bJ d h y z).map .bl) h
  |some false=>.ok (.bl false) h
  |none=>.no
 |.not a,ρ,h=>(ev cl a ρ h).bind λx h=>match x with
  |.bl b=>.ok (.bl (!b)) h
  |_=>.no
 |.and a b,ρ,h=>(ev cl a ρ h).bind λx h=>match x with
  |.bl true=>ev cl b ρ h
  |.bl false=>.ok (.bl false) h
  |_=>.no
 |.or a b,ρ,h=>(ev cl a ρ h).bind λx h=>match x with
  |.bl true=>.ok (.bl true) h
  |.bl false=>ev cl b ρ h
  |_=>.no
 |.p9 a,ρ,h=>(ev cl a ρ h).bind λx h=>.of ((ng h x).map .bl) h
 |.ite c a b,ρ,h=>(ev cl c ρ h).bind λx h=>match x with
  |.bl true=>ev cl a ρ h
  |.bl false=>ev cl b ρ h
  |_=>.no
 |.idx a b,ρ,h=>(ev cl a ρ h).bind λx h=>(ev cl b ρ h).bind λy h=>.of (bR h x y) h
 |.slc a bl lo bh hi,ρ,h=>(ev cl a ρ h).bind λx h=>(ev cl lo ρ h).bind λl h=>(ev cl hi ρ h).bind λu h=>match gh bl l,gh bh u with
  |some l,aB u=>kD x l u h
  |_,_=>.no
 |.call f a,ρ,h=>(ev cl a ρ h).bind λy h=>match y with
  |.tup ys=>cl f ys h
  |_=>.no
 |.bi b a,ρ,h=>(ev cl a ρ h).bind λy h=>match y with
  |.tup ys=>mh b ys h
  |_=>.no
 |.vL t a,ρ,h=>(ev cl a ρ h).bind λx h=>.of ((dN t h x).map .bl) h
 |.mt m o a,ρ,h=>(ev cl o ρ h).bind λx h=>if kE m h x then(ev cl a ρ h).bind λy h=>match y with
  |.tup ys=>jV m x ys h
  |_=>.no
  else .no
 |.lc k a t ow ix c e,ρ,h=>(ev cl a ρ h).bind λx h=>(gC (aZ k x) (bL t) (ev cl c) (ev cl e) fuel 0 (inner ow ix ρ) h []).bind λys h=>if Nat.ble ys.length big then .ok (.ref h.n) (h.new (.lst ys))else .no
 |.yd k a t ow ix c k2 a2 t2 c2 e,ρ,h=>(ev cl a ρ h).bind λx h=>(kZ (aZ k x) (bL t) (ev cl c) (λρ h acc=>(ev cl a2 ρ h).bind λy h=>jx (aZ k2 y) (bL t2) (ev cl c2) (ev cl e) fuel 0 ρ h acc) fuel 0 (inner ow ix ρ) h []).bind λys h=>if Nat.ble ys.length big then .ok (.ref h.n) (h.new (.lst ys))else .no
 |.dc k a t ow ix c e v,ρ,h=>(ev cl a ρ h).bind λx h=>(jK (aZ k x) (bL t) (ev cl c) (ev cl e) (ev cl v) fuel 0 (inner ow ix ρ) h []).bind λkvs h=>.ok (.ref h.n) (h.new (.dm kvs))
noncomputable def exs(cl:Call):S->En->VH->Res Fl
 |.skip,ρ,h=>.ok (.nx ρ) h
 |.seq a b,ρ,h=>(exs cl a ρ h).bind λfl h=>match fl with
  |.nx ρ=>exs cl b ρ h
  |fl=>.ok fl h
 |.set i e,ρ,h=>(ev cl e ρ h).bind λw h=>.ok (.nx (ρ.set i (aB w))) h
 |.ye is e,ρ,h=>(ev cl e ρ h).bind λw h=>.of ((bL (.many is) w h ρ).map .nx) h
 |.aug i o e,ρ,h=>match(ρ[i]?).join with
  |some x=>(ev cl e ρ h).bind λy h=>(vM o x y h).bind λz h=>.ok (.nx (ρ.set i (aB z))) h
  |none=>.no
 |.put o i v,ρ,h=>(ev cl v ρ h).bind λw h=>(ev cl o ρ h).bind λx h=>(ev cl i ρ h).bind λy h=>match x,y with
  |.ref a,.int j=>(match h.get a with
   |some (.lst ws)=>(match L2.i8 ws.length j with
    |some k=>.ok (.nx ρ) (h.set a (.lst (ws.set k w)))
    |none=>.no)
   |_=>oN ρ a j w h)
  |.ref a,y=>putD ρ a y w h
  |_,_=>.no
 |.ite c a b,ρ,h=>(ev cl c ρ h).bind λx h=>match x with
  |.bl true=>exs cl a ρ h
  |.bl false=>exs cl b ρ h
  |_=>.no
 |.ret e,ρ,h=>(ev cl e ρ h).bind λw h=>.ok (.rt w) h
 |.expr e,ρ,h=>(ev cl e ρ h).bind λ_ h=>.ok (.nx ρ) h
 |.brk,ρ,h=>.ok (.bk ρ) h
 |.cnt,ρ,h=>.ok (.ct ρ) h
 |.for k a t b,ρ,h=>(ev cl a ρ h).bind λx h=>eE (aZ k x) (bL t) (exs cl b) fuel 0 ρ h
 |.AG c b,ρ,h=>dY (ev cl c) (exs cl b) fuel ρ h
 |.no,_,_=>.no
structure Fn where
 ps:Nat
 n:Nat
 body:S
noncomputable def leave(h:VH)(w:W)(h':VH):Res W:=
 if Nat.ble h.n h'.lo&&W.lt h.n w then .ok w h else .ok w ⟨h'.n,if Nat.ble h.lo h'.lo then h.lo else h'.lo,h'.os⟩
noncomputable def run(F:Nat->Option Fn):Nat->Call
 |0,_,_,_=>.no
 |k+1,f,ws,h=>match F f with
  |some fn=>if Nat.beq ws.length fn.ps then
   (exs (run F k) fn.body (ws.map aB++bV (fn.n-fn.ps) aC) ⟨h.n,h.n,h.os⟩).bind λfl h'=>match fl with|.nx _=>leave h .aQ h'|.rt w=>leave h w h'|_=>.no
   else .no
  |none=>.no
open L2 PyProof.Rows PySem.Spec
noncomputable def Fz(K:aK)(H:Hp)(a:ah)(xs:List V):Prop:=
 (∃o,H a=aB (.bF o (.lst xs)))\/∃(o:Obj) (its:Array aa) (n:Nat),K.lookup a=aB o/\o.cls=.type "list"/\o.dict=aC/\o.data=.seq its n/\its.size<=sizeLine/\Vals xs its.toList
theorem Fz.sq{K:aK}{H:Hp}{a:ah}{xs:List V}(h:Fz K H a xs):cZ K H a xs:=h.elim (λ⟨o,q⟩=>.inl (.inr ⟨o,q⟩)) .inr
mutual
inductive aJ(K:aK)(m:Nat->ah)(n:Nat)(H:Hp):V->W->Prop
 |aQ:aJ K m n H .aQ .aQ
 |bl (b:Bool):aJ K m n H (.bl b) (.bl b)
 |int (i:Int):aJ K m n H (.int i) (.int i)
 |str (x:Str):aJ K m n H (.str x) (.str x)
 |tup {a:ah} {vs:List V} {ws:List W}:cH K H a vs->aF K m n H vs ws->aJ K m n H (.ref a) (.tup ws)
 |fz {a:ah} {vs:List V} {ws:List W}:Fz K H a vs->aF K m n H vs ws->aJ K m n H (.ref a) (.fz ws)
 |ref {i:Nat}:i<n->aJ K m n H (.ref (m i)) (.ref i)
inductive aF(K:aK)(m:Nat->ah)(n:Nat)(H:Hp):List V->List W->Prop
 |nil:aF K m n H [] []
 |cons {v:V} {w:W} {vs:List V} {ws:List W}:aJ K m n H v w->aF K m n H vs ws->aF K m n H (v::vs) (w::ws)
end
inductive aN(K:aK)(m:Nat->ah)(n:Nat)(H:Hp):List (Key×V)->List (Key×W)->Prop
 |nil:aN K m n H [] []
 |cons {k:Key} {v:V} {w:W} {vs:List (Key×V)} {ws:List (Key×W)}:aJ K m n H v w->aN K m n H vs ws->aN K m n H ((k,v)::vs) ((k,w)::ws)
noncomputable def fM(K:aK)(m:Nat->ah)(n:Nat)(H:Hp)(a:ah):VO->Prop|.lst ws=>∃vs,H a=aB (.lst vs)/\aF K m n H vs ws|.dk kvs=>∃kv,Rd H a (.dK kv)/\aN K m n H kv kvs|.dm kvs=>∃kv,H a=aB (.dK kv)/\aN K m n H kv kvs|.dt ks ws=>∃xs:DX,(H a=aB (nU xs a)\/(xs=[]/\H a=aB (.dK [])))/\aT fB ks=aB (xs.map (·.1))/\aF K m n H (xs.map λx=>.ref x.2.1) ks/\aF K m n H (xs.map λx=>x.2.2) ws
structure Rel(K:aK)(m:Nat->ah)(h:VH)(H:Hp):Prop where
 obj:∀i,i<h.n->∃o,h.get i=aB o/\fM K m h.n H (m i) o
 inj:∀i j,i<h.n->j<h.n->m i=m j->i=j
 len:h.os.length=h.n
structure bZ(m:Nat->ah)(n:Nat)(H:Hp)(m':Nat->ah)(n':Nat)(H':Hp):Prop where
 le:n<=n'
 same:∀i,i<n->m' i=m i
 new:∀i,n<=i->i<n'->H (m' i)=aC
 apart:∀i j,n<=i->i<n'->j<n->m' i≠m' j
 tup:∀b vs,H b=aB (.tup vs)->H' b=aB (.tup vs)
 bF:∀b o u,H b=aB (.bF o u)->H' b=aB (.bF o u)
 keep:∀b o,(∀i,i<n->m i≠b)->H b=aB o->H' b=aB o
section
variable{K:aK}{m m' m1 m2:Nat->ah}{n n' n1 n2:Nat}{h h':VH}{H H' H1 H2:Hp}
theorem bZ.refl:bZ m n H m n H:=⟨bg _,λ_ _=>rfl,λi a b=>absurd b (jF.mpr a),λi j a b=>absurd b (jF.mpr a),λ_ _ q=>q,λ_ _ _ q=>q,λ_ _ _ q=>q⟩
theorem bZ.trans(a:bZ m n H m1 n1 H1)(b:bZ m1 n1 H1 m2 n2 H2):bZ m n H m2 n2 H2 where
 le:=gF a.le b.le
 same:=λi hi=>(b.same i (dI hi a.le)).trans (a.same i hi)
 new:=λi hi hi2=>by
  by_cases hc:i<n1;rw[b.same i hc];exact a.new i hi hc;have hc:=jF.mp hc;cases q:H (m2 i)with
  |none=>rfl
  |some o=>
   have q1:H1 (m2 i)=aC:=b.new i hc hi2;rw[a.keep _ o (λj hj z=>b.apart i j hc hi2 (dI hj a.le) ((b.same j (dI hj a.le)).trans ((a.same j hj).trans z)).symm) q]at q1;cases q1
 apart:=λi j hi hi2 hj=>by
  by_cases hc:i<n1;rw[b.same i hc,b.same j (dI hj a.le)];exact a.apart i j hi hc hj;exact b.apart i j (jF.mp hc) hi2 (dI hj a.le)
 tup:=λc vs q=>b.tup c vs (a.tup c vs q)
 bF:=λc o u q=>b.bF c o u (a.bF c o u q)
 keep:=λc o hc q=>b.keep c o (λi hi=>by
  by_cases hl:i<n;rw[a.same i hl];exact hc i hl;intro z;have:=a.new i (jF.mp hl) hi;rw[z,q]at this;cases this) (a.keep c o hc q)
theorem bZ.T6{a:ah}{vs:List V}(s:bZ m n H m' n' H')(q:cH K H a vs):cH K H' a vs:=by rcases q with(q|⟨o,q⟩)|q;exact .inl (.inl (s.tup _ _ q));exact .inl (.inr ⟨o,s.bF _ _ _ q⟩);exact .inr q
theorem bZ.fz{a:ah}{vs:List V}(s:bZ m n H m' n' H')(q:Fz K H a vs):Fz K H' a vs:=by rcases q with⟨o,q⟩|q;exact .inl ⟨o,s.bF _ _ _ q⟩;exact .inr q
mutual
theorem aJ.stp(s:bZ m n H m' n' H'):∀{v:V} {w:W},aJ K m n H v w->aJ K m' n' H' v w|_,_,.aQ=>.aQ|_,_,.bl b=>.bl b|_,_,.int b=>.int b|_,_,.str b=>.str b|_,_,.tup q r=>.tup (s.T6 q) (aF.stp s r)|_,_,.fz q r=>.fz (s.fz q) (aF.stp s r)|_,_,.ref (i:=i) q=>by rw[<-s.same i q];exact .ref (dI q s.le)
theorem aF.stp(s:bZ m n H m' n' H'):∀{vs:List V} {ws:List W},aF K m n H vs ws->aF K m' n' H' vs ws|_,_,.nil=>.nil|_,_,.cons q r=>.cons (aJ.stp s q) (aF.stp s r)
end
theorem aN.stp(s:bZ m n H m' n' H'):∀{vs:List (Key×V)} {ws:List (Key×W)},aN K m n H vs ws->aN K m' n' H' vs ws|_,_,.nil=>.nil|_,_,.cons q r=>.cons (q.stp s) (aN.stp s r)
theorem aF.length:∀{vs:List V} {ws:List W},aF K m n H vs ws->vs.length=ws.length|_,_,.nil=>rfl|_,_,.cons _ r=>by rw[cY,cY,aF.length r]
theorem aF.get:∀{vs:List V} {ws:List W} {i:Nat} {w:W},aF K m n H vs ws->ws[i]?=aB w->∃v,vs[i]?=aB v/\aJ K m n H v w
 |_,_,_,_,.nil,e=>by simp at e
 |_,_,0,_,.cons q _,e=>by simp at e;subst e;exact⟨_,rfl,q⟩
 |_,_,i+1,w,.cons _ r,e=>by
  obtain⟨v,h1,h2⟩:=aF.get (i:=i) (w:=w) r (by simpa using e);exact⟨v,by simpa using h1,h2⟩
theorem aF.append:∀{vs us:List V} {ws zs:List W},aF K m n H vs ws->aF K m n H us zs->aF K m n H (vs++us) (ws++zs)|_,_,_,_,.nil,r=>r|_,_,_,_,.cons q r,t=>.cons q (aF.append r t)
theorem aF.drop:∀(k:Nat) {vs:List V} {ws:List W},aF K m n H vs ws->aF K m n H (vs.drop k) (ws.drop k)|0,_,_,r=>r|_+1,_,_,.nil=>.nil|k+1,_,_,.cons _ r=>aF.drop k r
theorem aF.take:∀(k:Nat) {vs:List V} {ws:List W},aF K m n H vs ws->aF K m n H (vs.take k) (ws.take k)|0,_,_,r=>.nil|_+1,_,_,.nil=>.nil|k+1,_,_,.cons q r=>.cons q (aF.take k r)
theorem aF.set{v:V}{w:W}(q:aJ K m n H v w):∀(k:Nat) {vs:List V} {ws:List W},aF K m n H vs ws->aF K m n H (vs.set k v) (ws.set k w)|_,_,_,.nil=>.nil|0,_,_,.cons _ r=>.cons q r|k+1,_,_,.cons p r=>.cons p (aF.set q k r)
theorem fM.stp{a:ah}{o:VO}(s:bZ m n H m' n' H')(e:H' a=H a)(q:fM K m n H a o):fM K m' n' H' a o:=by
 cases o with|lst ws=>obtain⟨vs,h1,h2⟩:=q;exact⟨vs,e.trans h1,h2.stp s⟩|dk ws=>obtain⟨vs,h1,h2⟩:=q;exact⟨vs,h1.imp (λz=>e.trans z) λ⟨o,z⟩=>⟨o,e.trans z⟩,h2.stp s⟩|dm ws=>obtain⟨vs,h1,h2⟩:=q;exact⟨vs,e.trans h1,h2.stp s⟩|dt ks ws=>obtain⟨xs,h1,h0,h2,h3⟩:=q;exact⟨xs,h1.imp (λz=>e.trans z) λ⟨o,z⟩=>⟨o,e.trans z⟩,h0,h2.stp s,h3.stp s⟩
theorem fM.some{a:ah}{o:VO}(q:fM K m n H a o):∃u,H a=aB u:=by
 cases o with
 |lst ws=>obtain⟨vs,h1,h2⟩:=q;exact⟨_,h1⟩
 |dk ws=>
  obtain⟨vs,h1,h2⟩:=q;rcases h1 with h1|⟨o,h1⟩<;>exact⟨_,h1⟩
 |dm ws=>obtain⟨vs,h1,h2⟩:=q;exact⟨_,h1⟩
 |dt ks ws=>
  obtain⟨xs,h1,_⟩:=q;rcases h1 with h1|⟨_,h1⟩<;>exact⟨_,h1⟩
theorem gO{i j:Nat}:Nat.blt i j=true↔i<j:=by unfold Nat.blt;rw[qL];exact Iff.rfl
theorem cg{i:Nat}{o:VO}(q:h.get i=aB o):i<h.n:=by unfold VH.get at q;split at q;rename_i z;exact gO.mp z;cases q
theorem Rel.at_(r:Rel K m h H){i:Nat}{o:VO}(q:h.get i=aB o):fM K m h.n H (m i) o:=by obtain⟨o',h1,h2⟩:=r.obj i (cg q);rw[q]at h1;cases h1;exact h2
theorem Rel.lst(r:Rel K m h H){i:Nat}{ws:List W}(q:h.get i=aB (.lst ws)):∃vs,H (m i)=aB (.lst vs)/\aF K m h.n H vs ws:=r.at_ q
theorem Rel.dk(r:Rel K m h H){i:Nat}{ws:List (Key×W)}(q:h.get i=aB (.dk ws)):∃vs,Rd H (m i) (.dK vs)/\aN K m h.n H vs ws:=r.at_ q
theorem Rel.dm(r:Rel K m h H){i:Nat}{ws:List (Key×W)}(q:h.get i=aB (.dm ws)):∃vs,H (m i)=aB (.dK vs)/\aN K m h.n H vs ws:=r.at_ q
theorem Rel.dt(r:Rel K m h H){i:Nat}{ks ws:List W}(q:h.get i=aB (.dt ks ws)):∃xs:DX,(H (m i)=aB (nU xs (m i))\/(xs=[]/\H (m i)=aB (.dK [])))/\aT fB ks=aB (xs.map (·.1))/\aF K m h.n H (xs.map λx=>.ref x.2.1) ks/\aF K m h.n H (xs.map λx=>x.2.2) ws:=r.at_ q
theorem ig{i:Nat}{o:VO}(hi:i<h.n):(h.new o).get i=h.get i:=by
 unfold VH.get VH.new;have h1:Nat.blt i (h.n+1)=true:=gO.mpr (xJ hi);have h2:Nat.blt i h.n=true:=gO.mpr hi;simp only[h1,h2,cC];have:h.n+1-1-i=(h.n-1-i)+1:=by lia
 rw[this];rfl
theorem dS{o:VO}:(h.new o).get h.n=aB o:=by
 unfold VH.get VH.new;have h1:Nat.blt h.n (h.n+1)=true:=gO.mpr (fY _);simp only[h1,cC];have:h.n+1-1-h.n=0:=by lia
 rw[this];rfl
theorem Rel.alloc(r:Rel K m h H){p:ah}{o:VO}{u:HO}(hp:H p=aC)(hu:∀t,u≠.tup t)
 (ho:bZ m h.n H (λi=>if i=h.n then p else m i) (h.n+1) (upd H p u)->fM K (λi=>if i=h.n then p else m i) (h.n+1) (upd H p u) p o) :
 bZ m h.n H (λi=>if i=h.n then p else m i) (h.n+1) (upd H p u)/\Rel K (λi=>if i=h.n then p else m i) (h.new o) (upd H p u):=by
 have tr:∀i,i<h.n->m i≠p:=λi hi z=>by
  obtain⟨o',_,h2⟩:=r.obj i hi;obtain⟨u',h3⟩:=h2.some;rw[z,hp]at h3;cases h3
 have st:bZ m h.n H (λi=>if i=h.n then p else m i) (h.n+1) (upd H p u):=by
  refine⟨qK _,λi hi=>by simp only[if_neg (gB hi)],λi hi hi2=>?_,λi j hi hi2 hj=>?_,λb vs q=>?_,λb o u q=>?_,λb o _ q=>?_⟩;have:i=h.n:=by lia
  subst this;simp only[cC];exact hp;have:i=h.n:=by lia
  subst this;simp only[cC,if_neg (gB hj)];exact(tr j hj).symm;rw[b9 (iD q hp)];exact q;rw[b9 (iD q hp)];exact q;rw[b9 (iD q hp)];exact q
 refine⟨st,⟨λi hi=>?_,λi j hi hj z=>?_,?_⟩⟩;have hi:i<h.n+1:=hi;by_cases e:i=h.n;subst e;exact⟨o,dS,by simp only[cC];exact ho st⟩;have hl:i<h.n:=by lia
 obtain⟨o',h1,h2⟩:=r.obj i hl;refine⟨o',(ig hl).trans h1,?_⟩;simp only[if_neg e];exact fM.stp st (b9 (tr i hl)) h2;have hi:i<h.n+1:=hi;have hj:j<h.n+1:=hj;by_cases e:i=h.n;by_cases e2:j=h.n;lia;simp only[if_pos e,if_neg e2]at z;exact absurd z.symm (tr j (by lia));by_cases e2:j=h.n;simp only[if_neg e,if_pos e2]at z;exact absurd z (tr i (by lia));simp only[if_neg e,if_neg e2]at z;exact r.inj i j (by lia) (by lia) z;show(o::h.os).length=h.n+1;rw[cY,r.len]
theorem T7(r:Rel K m h H){i:Nat}{o:VO}(hi:i<h.n):(h.set i o).get i=aB o:=by unfold VH.get VH.set;have h1:Nat.blt i h.n=true:=gO.mpr hi;simp only[h1,cC];rw[uT];rw[r.len];lia
theorem nV{i j:Nat}{o:VO}(hi:i<h.n)(hj:j≠i):(h.set i o).get j=h.get j:=by
 unfold VH.get VH.set;by_cases h1:j<h.n;have h2:Nat.blt j h.n=true:=gO.mpr h1;simp only[h2,cC];rw[xC];lia;have h2:Nat.blt j h.n=false:=by
  cases q:Nat.blt j h.n with|false=>rfl|true=>exact absurd (gO.mp q) h1
 simp only[h2,dW,dg]
theorem Rel.write(r:Rel K m h H){i:Nat}{o:VO}{u u0:HO}(hi:i<h.n)(h0:H (m i)=aB u0)(hn:∀t,u0≠.tup t)(hf:∀o t,u0≠.bF o t)
 (ho:bZ m h.n H m h.n (upd H (m i) u)->fM K m h.n (upd H (m i) u) (m i) o) :
 bZ m h.n H m h.n (upd H (m i) u)/\Rel K m (h.set i o) (upd H (m i) u):=by
 have st:bZ m h.n H m h.n (upd H (m i) u):=by refine⟨bg _,λ_ _=>rfl,λj a b=>absurd b (jF.mpr a),λj k a b=>absurd b (jF.mpr a),λb vs q=>?_,λb o t q=>?_,λb o nb q=>?_⟩;rw[b9 (cJ q h0 (λz=>hn vs z.symm))];exact q;rw[b9 (cJ q h0 (λz=>hf o t z.symm))];exact q;rw[b9 (nb i hi).symm];exact q
 refine⟨st,⟨λj hj=>?_,λa b ha hb=>r.inj a b ha hb,?_⟩⟩;have hj:j<h.n:=hj;by_cases e:j=i;subst e;exact⟨o,T7 r hj,ho st⟩;obtain⟨o',h1,h2⟩:=r.obj j hj;exact⟨o',(nV hi e).trans h1,fM.stp st (b9 λz=>e (r.inj j i hj hi z)) h2⟩;show(h.os.set _ o).length=h.n;rw[uX,r.len]
theorem Rel.more(r:Rel K m h H){p:ah}{u:HO}(hp:H p=aC):bZ m h.n H m h.n (upd H p u)/\Rel K m h (upd H p u):=by
 have st:bZ m h.n H m h.n (upd H p u):=by refine⟨bg _,λ_ _=>rfl,λj a b=>absurd b (jF.mpr a),λj k a b=>absurd b (jF.mpr a),λb vs q=>?_,λb o t q=>?_,λb o nb q=>?_⟩;rw[b9 (iD q hp)];exact q;rw[b9 (iD q hp)];exact q;rw[b9 (iD q hp)];exact q
 refine⟨st,⟨λj hj=>?_,r.inj,r.len⟩⟩;obtain⟨o',h1,h2⟩:=r.obj j hj;obtain⟨u',h3⟩:=h2.some;exact⟨o',h1,fM.stp st (b9 (iD h3 hp)) h2⟩
end
theorem Mk{α β:Type}{r:Res α}{f:α->VH->Res β}{b:β}{h':VH}(q:r.bind f=.ok b h'):∃a h1,r=.ok a h1/\f a h1=.ok b h':=by
 cases r with|ok a h=>exact⟨a,h,rfl,q⟩|ex x h=>cases q|no=>cases q
theorem bK{α β:Type}{r:Res α}{f:α->VH->Res β}{w:β}{h':VH}{P:Prop}(e:r.bind f=.ok w h')(k:∀x h1,r=.ok x h1->f x h1=.ok w h'->P):P:=by obtain⟨x,h1,a,b⟩:=Mk e;exact k x h1 a b
theorem of_ok{α:Type}{o:Option α}{h h':VH}{a:α}(q:Res.of o h=.ok a h'):o=aB a/\h'=h:=by
 cases o with|none=>cases q|some b=>cases q;exact⟨rfl,rfl⟩
structure Fr(K:aK)(m:Nat->ah)(n:Nat)(H:Hp)(σ:L2.St)(ρ:En):Prop where
 len:σ.length=ρ.length
 val:∀(i:Nat)(w:W),ρ[i]?=aB (aB w)->∃v,σ[i]?=aB (aB v)/\aJ K m n H v w
noncomputable abbrev FE:=En->VH->Res W
noncomputable abbrev FS:=En->VH->Res Fl
noncomputable def eF(K:aK)(f:FE):TE:=λσ H Q=>∃ρ h m w h',Fr K m h.n H σ ρ/\Rel K m h H/\f ρ h=.ok w h'/\
 ∀v H' m',bZ m h.n H m' h'.n H'->Rel K m' h' H'->aJ K m' h'.n H' v w->Q v H'
noncomputable def cV(K:aK)(f:FE):TT:=λσ H Q=>∃ρ h m b h',Fr K m h.n H σ ρ/\Rel K m h H/\f ρ h=.ok (.bl b) h'/\
 ∀H' m',bZ m h.n H m' h'.n H'->Rel K m' h' H'->Q b H'
noncomputable def nu(K:aK)(f:FE):TA:=λσ H Q=>∃ρ h m ws h',Fr K m h.n H σ ρ/\Rel K m h H/\f ρ h=.ok (.tup ws) h'/\
 ∀vs H' m',bZ m h.n H m' h'.n H'->Rel K m' h' H'->aF K m' h'.n H' vs ws->Q vs H'
section
variable{K:aK}{m:Nat->ah}{σ:L2.St}{H:Hp}{P:Prop}{fa:FE}{ρ:En}{h h':VH}
theorem eF.el{Q:VK}(q:eF K fa σ H Q)(k:∀ρ h m w h',Fr K m h.n H σ ρ->Rel K m h H->fa ρ h=.ok w h'->(∀v H' m',bZ m h.n H m' h'.n H'->Rel K m' h' H'->aJ K m' h'.n H' v w->Q v H')->P):P:=by obtain⟨ρ,h,m,w,h',f,r,e,k'⟩:=q;exact k ρ h m w h' f r e k'
theorem eF.mk{Q:VK}{w:W}(f:Fr K m h.n H σ ρ)(r:Rel K m h H)(e:fa ρ h=.ok w h')(k:∀v H' m',bZ m h.n H m' h'.n H'->Rel K m' h' H'->aJ K m' h'.n H' v w->Q v H'):eF K fa σ H Q:=⟨ρ,h,m,w,h',f,r,e,k⟩
theorem cV.el{Q:Bool->Hp->Prop}(q:cV K fa σ H Q)(k:∀ρ h m b h',Fr K m h.n H σ ρ->Rel K m h H->fa ρ h=.ok (.bl b) h'->(∀H' m',bZ m h.n H m' h'.n H'->Rel K m' h' H'->Q b H')->P):P:=by obtain⟨ρ,h,m,w,h',f,r,e,k'⟩:=q;exact k ρ h m w h' f r e k'
theorem cV.mk{Q:Bool->Hp->Prop}{b:Bool}(f:Fr K m h.n H σ ρ)(r:Rel K m h H)(e:fa ρ h=.ok (.bl b) h')(k:∀H' m',bZ m h.n H m' h'.n H'->Rel K m' h' H'->Q b H'):cV K fa σ H Q:=⟨ρ,h,m,b,h',f,r,e,k⟩
theorem nu.el{Q:List V->Hp->Prop}(q:nu K fa σ H Q)(k:∀ρ h m ws h',Fr K m h.n H σ ρ->Rel K m h H->fa ρ h=.ok (.tup ws) h'->(∀vs H' m',bZ m h.n H m' h'.n H'->Rel K m' h' H'->aF K m' h'.n H' vs ws->Q vs H')->P):P:=by obtain⟨ρ,h,m,w,h',f,r,e,k'⟩:=q;exact k ρ h m w h' f r e k'
theorem nu.mk{Q:List V->Hp->Prop}{ws:List W}(f:Fr K m h.n H σ ρ)(r:Rel K m h H)(e:fa ρ h=.ok (.tup ws) h')(k:∀vs H' m',bZ m h.n H m' h'.n H'->Rel K m' h' H'->aF K m' h'.n H' vs ws->Q vs H'):nu K fa σ H Q:=⟨ρ,h,m,ws,h',f,r,e,k⟩
end
noncomputable abbrev SE(X:Cx)(e:ao)(f:FE):Prop:=PE X e (eF X.K f)
noncomputable abbrev ST(X:Cx)(e:ao)(f:FE):Prop:=PT X e (cV X.K f)
noncomputable abbrev SW(X:Cx)(e:ao)(f:FE):Prop:=PW X e (cV X.K f)
noncomputable abbrev SA(X:Cx)(es:List ao)(f:FE):Prop:=PA X es (nu X.K f)
theorem _root_.L2.PE.imp{X:Cx}{e:ao}{t t':TE}(h:PE X e t)(k:∀σ H Q,t' σ H Q->t σ H Q):PE X e t':=λpins s σ H Q I q=>h pins s σ H Q I (k σ H Q q)
theorem _root_.L2.PT.imp{X:Cx}{e:ao}{t t':TT}(h:PT X e t)(k:∀σ H Q,t' σ H Q->t σ H Q):PT X e t':=λpins s σ H Q I q=>h pins s σ H Q I (k σ H Q q)
theorem _root_.L2.PW.imp{X:Cx}{e:ao}{t t':TT}(h:PW X e t)(k:∀σ H Q,t' σ H Q->t σ H Q):PW X e t':=λwh pins s σ H Q I q=>h wh pins s σ H Q I (k σ H Q q)
theorem _root_.L2.PA.imp{X:Cx}{es:List ao}{t t':TA}(h:PA X es t)(k:∀σ H Q,t' σ H Q->t σ H Q):PA X es t':=λp pins s σ H Q I q=>h p pins s σ H Q I (k σ H Q q)
theorem _root_.L2.PS.imp{X:Cx}{st:aq}{t t':TS}(h:PS X st t)(k:∀D σ H,t' D σ H->t D σ H):PS X st t':=λpins s σ H D I q=>h pins s σ H D I (k D σ H q)
theorem _root_.L2.kW.imp{X:Cx}{st:List aq}{t t':TS}(h:kW X st t)(k:∀D σ H,t' D σ H->t D σ H):kW X st t':=λpins s σ H D I q=>h pins s σ H D I (k D σ H q)
section
variable{K:aK}{m m':Nat->ah}{n n':Nat}{h h':VH}{H H':Hp}{σ:L2.St}{ρ:En}
theorem Fr.stp(f:Fr K m n H σ ρ)(s:bZ m n H m' n' H'):Fr K m' n' H' σ ρ:=⟨f.len,λi w e=>let⟨v,h1,h2⟩:=f.val i w e;⟨v,h1,h2.stp s⟩⟩
theorem Fr.set(f:Fr K m n H σ ρ){v:V}{w:W}(q:aJ K m n H v w)(i:Nat):Fr K m n H (σ.set i (aB v)) (ρ.set i (aB w)):=by refine⟨by rw[uX,uX];exact f.len,λj w' e=>?_⟩;by_cases hj:i=j;subst hj;by_cases hl:i<ρ.length;rw[uT hl]at e;cases e;exact⟨v,by rw[uT (by rw[f.len];exact hl)],q⟩;rw[iY (by rw[uX];lia)]at e;cases e;rw[xC hj]at e;obtain⟨v',h1,h2⟩:=f.val j w' e;exact⟨v',by rw[xC hj];exact h1,h2⟩
noncomputable def aL(K:aK)(m:Nat->ah)(n:Nat)(H:Hp)(w:W)(h':VH)(Q:VK):Prop:=∀v H' m',bZ m n H m' h'.n H'->Rel K m' h' H'->aJ K m' h'.n H' v w->Q v H'
theorem aL.here{w:W}{Q:VK}(k:aL K m h.n H w h Q)(r:Rel K m h H){v:V}(q:aJ K m h.n H v w):Q v H:=k v H m .refl r q
theorem aL.list{ws:List W}{vs:List V}{Q:VK}(k:aL K m h.n H (.ref h.n) (h.new (.lst ws)) Q)(r:Rel K m h H)(q:aF K m h.n H vs ws){p:ah}(hp:H p=aC):Q (.ref p) (upd H p (.lst vs)):=by obtain⟨st,r'⟩:=r.alloc (o:=.lst ws) (u:=.lst vs) hp (λ_ z=>nomatch z) (λst=>⟨vs,eS,q.stp st⟩);refine k _ _ _ st r' ?_;have:aJ K (λi=>if i=h.n then p else m i) (h.n+1) (upd H p (.lst vs)) (.ref ((λi=>if i=h.n then p else m i) h.n)) (.ref h.n):=.ref (fY _);simp only[cC]at this;exact this
theorem aL.tuple{ws:List W}{vs:List V}{Q:VK}(k:aL K m h.n H (.tup ws) h Q)(r:Rel K m h H)(q:aF K m h.n H vs ws){p:ah}(hp:H p=aC):Q (.ref p) (upd H p (.tup vs)):=by obtain⟨st,r'⟩:=r.more (u:=.tup vs) hp;exact k _ _ _ st r' (.tup (cH.of eS) (q.stp st))
theorem Ml{fa:FE}{g:W->VH->Res W}{G:V->Hp->VK->Prop}
 (hG:∀(m:Nat->ah)(h:VH)(H:Hp)(v:V)(x w:W)(h':VH)(Q:VK),Rel K m h H->aJ K m h.n H v x->g x h=.ok w h'->aL K m h.n H w h' Q->G v H Q) {Q:VK}
 (q:eF K (λρ h=>(fa ρ h).bind λx h=>g x h) σ H Q):eF K fa σ H λv H1=>G v H1 Q:=by
 refine q.el λρ h m w h' f r e k=>?_;refine bK e λx h1 e1 e2=>?_;exact(.mk f r e1 λv H1 m1 s1 r1 q1=>hG m1 h1 H1 v x w h' Q r1 q1 e2 λv' H' m' s' r' q'=>k v' H' m' (s1.trans s') r' q')
theorem Ep{fa fb:FE}{g:W->W->VH->Res W}{G:V->V->Hp->VK->Prop}
 (hG:∀(m:Nat->ah)(h:VH)(H:Hp)(v u:V)(x y w:W)(h':VH)(Q:VK),Rel K m h H->aJ K m h.n H v x->aJ K m h.n H u y->g x y h=.ok w h'->aL K m h.n H w h' Q->G v u H Q) {Q:VK}
 (q:eF K (λρ h=>(fa ρ h).bind λx h=>(fb ρ h).bind λy h=>g x y h) σ H Q):eF K fa σ H λv H1=>eF K fb σ H1 λu H2=>G v u H2 Q:=by
 refine q.el λρ h m w h' f r e k=>?_;refine bK e λx h1 e1 e2=>?_;refine bK e2 λy h2 e3 e4=>?_;refine(.mk f r e1 λv H1 m1 s1 r1 q1=>(.mk (f.stp s1) r1 e3 λu H2 m2 s2 r2 q2=>?_));exact hG m2 h2 H2 v u x y w h' Q r2 (q1.stp s2) q2 e4 λv' H' m' s' r' q'=>k v' H' m' ((s1.trans s2).trans s') r' q'
theorem yg{fa:FE}{g:List W->VH->Res W}{G:List V->Hp->VK->Prop}
 (hG:∀(m:Nat->ah)(h:VH)(H:Hp)(vs:List V)(xs:List W)(w:W)(h':VH)(Q:VK),Rel K m h H->aF K m h.n H vs xs->g xs h=.ok w h'->aL K m h.n H w h' Q->G vs H Q) {Q:VK}
 (q:eF K (λρ h=>(fa ρ h).bind λy h=>match y with|.tup ys=>g ys h|_=>.no) σ H Q):nu K fa σ H λvs H1=>G vs H1 Q:=by
 refine q.el λρ h m w h' f r e k=>?_;refine bK e λx h1 e1 e2=>?_;cases x with|tup ys=>exact(.mk f r e1 λvs H1 m1 s1 r1 q1=>hG m1 h1 H1 vs ys w h' Q r1 q1 e2 λv' H' m' s' r' q'=>k v' H' m' (s1.trans s') r' q')|_=>cases e2
theorem Mm{f:FE}{Q:Bool->Hp->Prop}(q:cV K f σ H Q):eF K f σ H λx H'=>∃k,x=.bl k/\Q k H':=by refine q.el λρ h m b h' f r e k=>?_;exact(.mk f r e λv H' m' s' r' q'=>by cases q';exact⟨b,rfl,k H' m' s' r'⟩)
end
section
variable{X:Cx}{a b c e:ao}{es:List ao}{fa fb fc:FE}{pos:Pos}
theorem T8{i:Nat}{x:Str}{pos:Pos}(hN:X.N[i]?=aB x)(hv:xR X.env.scope x)(hd:(x==("__debug__" : Str))=false)(hcd:(x==("__classdict__" : Str))=false):SE X (.Name x pos) (λρ h=>.of (ρ[i]?).join h):=
 (PR hN hv hd hcd).imp λσ H Q z9=>z9.el λρ h m w h' f r e k=>by
   obtain⟨e1,e2⟩:=of_ok e;subst e2;have e3:ρ[i]?=aB (aB w):=by
    cases q:ρ[i]? with|none=>rw[q]at e1;cases e1|some o=>rw[q]at e1;rw[<-e1];rfl
   obtain⟨v,h1,h2⟩:=f.val i w e3;exact⟨v,h1,k v H m .refl r h2⟩
theorem AO{w:W}{v:V}(h:PE X e (tC v))(hv:∀m n H,aJ X.K m n H v w):SE X e (λ_ h=>.ok w h):=
 h.imp λσ H Q z9=>z9.el λρ h m w h' f r e k=>by cases e;exact k v H m .refl r (hv m h.n H)
theorem T9{i j pos}:SE X (.Constant (.int i) j pos) (λ_ h=>.ok (.int i) h):=AO PU λ_ _ _=>.int i
theorem AQ{i j pos}:SE X (.Constant (.bool i) j pos) (λ_ h=>.ok (.bl i) h):=AO zj λ_ _ _=>.bl i
theorem Ua{j pos}:SE X (.Constant .none j pos) (λ_ h=>.ok .aQ h):=AO PV λ_ _ _=>.aQ
theorem Ub{i j pos}:SE X (.Constant (.str i) j pos) (λ_ h=>.ok (.str i) h):=AO PX λ_ _ _=>.str i
theorem Er:SA X [] (λ_ h=>.ok (.tup []) h):=zO.imp λσ H Q z9=>z9.el λρ h m ws h' f r e k=>by cases e;exact k [] H m .refl r .nil
theorem yh(ha:SE X e fa)(hr:SA X es fb)(hs:starEach (e::es) X.env=(false,eval e X.env)::starEach es X.env) :
 SA X (e::es) (λρ h=>(fa ρ h).bind λx h=>(fb ρ h).bind λy h=>match y with|.tup ys=>.ok (.tup (x::ys)) h|_=>.no):=
 (xX ha hr hs).imp λσ H Q z9=>z9.el λρ h m ws h' f r e k=>by
   refine bK e λx h1 e1 e2=>?_;refine bK e2 λy h2 e3 e4=>?_;cases y with
   |tup ys=>
    cases e4;exact(.mk f r e1 λv H1 m1 s1 r1 q1=>(.mk (f.stp s1) r1 e3 λvs H2 m2 s2 r2 q2=>k _ H2 m2 (s1.trans s2) r2 (.cons (q1.stp s2) q2)))
   |_=>cases e4
theorem Mn{k:Nat}(h:Nat.ble k 1000):k<=sizeLine:=sZ (Ly (k9 h))
theorem Uc{x1:Nat}(ha:SA X es fa):SE X (.Tuple es x1 pos) (λρ h=>(fa ρ h).bind λy h=>match y with|.tup ys=>(if Nat.ble ys.length 1000 then .ok (.tup ys) h else .no)|_=>.no):=
 (Q9 ha).imp λσ H Q q=>yg (g:=λys h=>if Nat.ble ys.length 1000 then .ok (.tup ys) h else .no) (G:=λxs H1 Q=>xs.length<=sizeLine/\∀p,H1 p=aC->Q (.ref p) (upd H1 p (.tup xs)))
   (λm h H vs xs w h' Q r q e k=>by
     split at e;rename_i hl;cases e;exact⟨by rw[q.length];exact Mn hl,λp hp=>aL.tuple k r q hp⟩;cases e) q
theorem Ud(ha:SA X es fa):SE X (.List es pos) (λρ h=>(fa ρ h).bind λy h=>match y with|.tup ys=>(if Nat.ble ys.length 1000 then .ok (.ref h.n) (h.new (.lst ys))else .no)|_=>.no):=
 (Ra ha).imp λσ H Q q=>yg (g:=λys h=>if Nat.ble ys.length 1000 then .ok (.ref h.n) (h.new (.lst ys))else .no) (G:=λxs H1 Q=>xs.length<=sizeLine/\∀p,H1 p=aC->Q (.ref p) (upd H1 p (.lst xs)))
   (λm h H vs xs w h' Q r q e k=>by
     split at e;rename_i hl;cases e;exact⟨by rw[q.length];exact Mn hl,λp hp=>aL.list k r q hp⟩;cases e) q
noncomputable def AR(K:aK)(r:R2)(g:W->W->VH->Res W):Prop:=∀(m:Nat->ah) (h:VH) (H:Hp) (v u:V) (x y w:W) (h':VH) (Q:VK),Rel K m h H->aJ K m h.n H v x->aJ K m h.n H u y->g x y h=.ok w h'->aL K m h.n H w h' Q->r v u H Q
theorem AS{O:Operator}{r:R2}{g:W->W->VH->Res W}(ho:dD X (binaryOp O) r)(hg:AR X.K r g)(ha:SE X a fa)(hb:SE X b fb):SE X (.BinOp a O b pos) (λρ h=>(fa ρ h).bind λx h=>(fb ρ h).bind λy h=>g x y h):=
 (zE ho ha hb).imp λσ H Q q=>Ep (G:=r) hg q
noncomputable def AU:Operator->Option Op|.Add=>aB .add|.Sub=>aB .sub|.Mult=>aB .mul|.FloorDiv=>aB .fdiv|.Mod=>aB .mod|.Pow=>aB .pow|_=>aC
noncomputable def cI:Op->Int->Int->Prop|.mul=>mV|.fdiv=>qV|.mod=>λ_ j=>0<j|.shl=>vn|.pow=>vn|_=>λ_ _=>True
noncomputable def gI:Op->Int->Int->Int|.add=>(· + ·)|.sub=>(· - ·)|.mul=>(· * ·)|.fdiv=>(· / ·)|.mod=>(· % ·)|.shl=>λi j=>i*2 ^ j.toNat|.pow=>λi j=>i ^ j.toNat
noncomputable def rX(K:aK):Op->R2|.add=>λx y H Q=>lX K x y H Q\/LZ K x y H Q\/zZ x y H Q|.mul=>λx y H Q=>tS K x y H Q|_=>λ_ _ _ _=>False
noncomputable def rB(K:aK)(o:Op):R2:=λx y H Q=>rI (cI o) (λi j=>.int (gI o i j)) x y H Q\/rX K o x y H Q
theorem yi{f:aa->aa->Sem aa}{r r':R2}(h:dD X f r)(k:∀x y H Q,r' x y H Q->r x y H Q):dD X f r':=λpins s σ H x y v u Q I rx ry q=>h pins s σ H x y v u Q I rx ry (k _ _ _ _ q)
theorem AV{O:Operator}{o:Op}(e:AU O=aB o):dD X (binaryOp O) (rB X.K o):=by
 have tr:∀{g:Int->Int->V}{x y H Q},rI (λ_ _=>True) g x y H Q->mU g x y H Q:=λ⟨i,j,h1,h2,_,h3⟩=>⟨i,j,h1,h2,h3⟩
 cases O<;>cases e;exact yi (QG.or (Rr.or (Sx.or RI))) λx y H Q q=>q.elim (λz=>.inl (tr z)) .inr;exact yi QH λx y H Q q=>q.elim (λz=>tr z) λz=>z.elim;exact yi (QI.or Sw) λx y H Q q=>q;exact yi QK λx y H Q q=>q.elim id λz=>z.elim;exact yi QL λx y H Q q=>q.elim id λz=>z.elim;exact yi QJ λx y H Q q=>q.elim id λz=>z.elim
theorem Mp{i:Int}(h:jU i):-(2 ^ 64)<i/\i<2 ^ 64:=by unfold jU at h;rw[bY]at h;exact⟨k7 h.1,k7 h.2⟩
theorem HK{o:Op}{i j z:Int}(e:gH o i j=aB z):cI o i j/\z=gI o i j:=by cases o<;>simp only[gH]at e;cases e;exact⟨trivial,rfl⟩;cases e;exact⟨trivial,rfl⟩;split at e;rename_i hc;cases e;rw[pU]at hc;exact⟨hc.elim (λq=>.inl (Mp q)) (λq=>.inr (Mp q)),rfl⟩;cases e;split at e;rename_i hc;cases e;rw[bY]at hc;exact⟨⟨k7 hc.1,k7 hc.2⟩,rfl⟩;cases e;split at e;rename_i hc;cases e;exact⟨(k7 hc:0<j),rfl⟩;cases e;split at e;rename_i hc;cases e;rw[bY,bY]at hc;exact⟨⟨k7 hc.1.1,k7 hc.1.2,k7 hc.2⟩,rfl⟩;cases e;split at e;rename_i hc;cases e;rw[bY,bY]at hc;exact⟨⟨k7 hc.1.1,k7 hc.1.2,k7 hc.2⟩,rfl⟩;cases e
theorem vQ{i:Int}(h:fits i):-(2 ^ 62)<=i/\i<2 ^ 62:=by unfold fits at h;rw[bY]at h;exact⟨k7 h.1,k7 h.2⟩
theorem Ue{o:Op}{xs zs:List W}{k:Int}(e:rF o xs k=aB zs):o=.mul/\(-(2 ^ 62)<=k/\k<2 ^ 62)/\xs.length*k.toNat<=sizeLine/\zs=(bV k.toNat xs).flatten:=by unfold rF at e;split at e;split at e;rename_i hc;cases e;rw[bY]at hc;exact⟨rfl,vQ hc.1,k9 hc.2,rfl⟩;cases e;cases e
theorem aF.rep{K:aK}{m:Nat->ah}{n:Nat}{H:Hp}{vs:List V}{ws:List W}(q:aF K m n H vs ws):∀k:Nat,aF K m n H (bV k vs).flatten (bV k ws).flatten
 |0=>.nil
 |k+1=>by
  rw[qA,qA,sU,sU];exact q.append (aF.rep q k)
theorem Ug{K:aK}{m:Nat->ah}{n:Nat}{H:Hp}{vs:List V}{ws:List W}(q:aF K m n H vs ws):vs.isEmpty=ws.isEmpty:=by cases q<;>rfl
theorem Uh{ws:List W}{k:Int}(h:(ws.isEmpty||k==1)):(bV k.toNat ws).flatten=ws:=by
 rw[pU]at h;rcases h with h|h
 have:ws=[]:=by simpa using h
 subst this;induction k.toNat with|zero=>rfl|succ j ih=>rw[qA,sU,ih];rfl
 have:k=1:=by simpa using h
 subst this;show(bV 1 ws).flatten=ws;simp
theorem Ui{K:aK}(o:Op):AR K (rB K o) (iE o):=by
 intro m h H v u x y w h' Q r qv qu e k;unfold iE at e;split at e;rename_i i j;obtain⟨e,rfl⟩:=of_ok e;cases qv;cases qu;cases q:gH o i j with
 |none=>rw[q]at e;cases e
 |some z=>
  rw[q]at e;cases e;obtain⟨h1,rfl⟩:=HK q;exact .inl ⟨i,j,rfl,rfl,h1,aL.here k r (.int _)⟩
 .rename_i xs ys
  obtain⟨e,rfl⟩:=of_ok e;cases q:HJ o xs ys with
  |none=>rw[q]at e;cases e
  |some zs=>
   rw[q]at e;cases e;cases o<;>simp only[HJ]at q;split at q;rename_i hc;cases q;cases qv with
   |tup qa ra=>
    cases qu with
    |tup qb rb=>
     rename_i a va b vb;have hl:=k9 hc;cases xs with
     |nil=>
      cases ra;exact .inr (.inr (.inl ⟨a,b,vb,rfl,rfl,qa,qb,aL.here k r (.tup qb rb)⟩))
     |cons x0 xs0=>
      refine .inr (.inl ⟨a,b,va,vb,rfl,rfl,qa,qb,λz=>?_,by rw[ra.length,rb.length];exact hl,λz=>?_,λ_ p hp=>aL.tuple k r (ra.append rb) hp⟩);subst z;cases ra;subst z;cases rb;rw[nP]at k;exact aL.here k r (.tup qa ra)
   cases q
   all_goals cases q
 rename_i xs kk;obtain⟨e,rfl⟩:=of_ok e;cases q:rF o xs kk with
 |none=>rw[q]at e;cases e
 |some zs=>
  rw[q]at e;cases e;obtain⟨rfl,⟨k1,k2⟩,hz,rfl⟩:=Ue q;cases qu;cases qv with
  |tup qa ra=>
   rename_i a va;refine .inr ⟨a,kk,va,rfl,rfl,qa,k1,k2,by rw[ra.length];exact hz,λz=>?_,λz p hp=>aL.tuple k r (ra.rep _) hp⟩;rw[Ug ra]at z;rw[Uh z]at k;exact aL.here k r (.tup qa ra)
 .rename_i i j
  split at e
  .rename_i xs ys hx hy
   split at e
   .rename_i zs q
    cases e;cases o<;>simp only[AH]at q;split at q;rename_i hc;cases q;obtain⟨va,pa,ra⟩:=r.lst hx;obtain⟨vb,pb,rb⟩:=r.lst hy;cases qv;cases qu;exact .inr (.inr (.inr ⟨m i,m j,va,vb,rfl,rfl,pa,pb,by rw[ra.length,rb.length];exact k9 hc,λp hp=>aL.list k r (ra.append rb) hp⟩));cases q
    all_goals cases q
   cases e
  cases e
 cases e
end
section
variable{K:aK}{m:Nat->ah}{h:VH}{H:Hp}
theorem AW{f:W->Option aA}(ih:∀(w:W) (d:aA) (v:V),f w=aB d->aJ K m h.n H v w->Rp K (λ_=>False) H v d):∀{ws:List W} {ds:List aA} {vs:List V},aT f ws=aB ds->aF K m h.n H vs ws->mX K (λ_=>False) H vs ds
 |[],ds,_,e,.nil=>by cases e;exact .nil
 |w::ws,ds,_,e,.cons q r=>by
  unfold aT at e;split at e;rename_i d hd;split at e;rename_i bs hb;cases e;exact .cons (ih w d _ hd q) (AW ih hb r);cases e;cases e
theorem iP(r:Rel K m h H):∀(n:Nat) (w:W) (d:aA) (v:V),toD h n w=aB d->aJ K m h.n H v w->Rp K (λ_=>False) H v d
 |0,_,_,_,e,_=>by cases e
 |n+1,w,d,v,e,q=>by
  cases q with
  |aQ=>cases e;exact .aQ
  |bl b=>cases e;exact .bl b
  |int b=>cases e;exact .int b
  |str b=>cases e;exact .str b
  | @tup a vs ws sq rs=>
   simp only[toD]at e;cases z:aT (toD h n) ws with|none=>rw[z]at e;cases e|some ds=>rw[z]at e;cases e;exact .tup sq (λz=>z) (AW (iP r n) z rs)
  | @fz a vs ws sq rs=>
   simp only[toD]at e;cases z:aT (toD h n) ws with|none=>rw[z]at e;cases e|some ds=>rw[z]at e;cases e;exact .lst sq.sq (λz=>z) (AW (iP r n) z rs)
  | @ref i hi=>
   simp only[toD]at e;cases g:h.get i with
   |none=>rw[g]at e;cases e
   |some o=>
    rw[g]at e;cases o with
    |dk _=>cases e
    |dm _=>cases e
    |dt _ _=>cases e
    |lst ws=>
     obtain⟨vs,h1,h2⟩:=r.lst g;simp only at e;cases z:aT (toD h n) ws with|none=>rw[z]at e;cases e|some ds=>rw[z]at e;cases e;exact .lst (cZ.of h1) (λz=>z) (AW (iP r n) z h2)
theorem Mq(r:Rel K m h H){x y:W}{v u:V}{b:Bool}(e:dj h x y=aB b)(qv:aJ K m h.n H v x)(qu:aJ K m h.n H u y) :
 ∃d e',Rp K (λ_=>False) H v d/\Rp K (λ_=>False) H u e'/\SeqAt.shaped d=true/\SeqAt.shaped e'=true/\b=PyData.eqv d e':=by
 unfold dj at e;split at e;rename_i d e' h1 h2;split at e;rename_i hc;cases e;rw[bY]at hc;exact⟨d,e',iP r _ _ _ _ h1 qv,iP r _ _ _ _ h2 qu,hc.1,hc.2,rfl⟩;cases e;cases e
end
theorem yj{K:aK}{m:Nat->ah}{h:VH}{H:Hp}{v:V}{w:W}{ws:List W}(r:Rel K m h H)(q:aJ K m h.n H v w)(e:aV h w=aB ws):∃p vs,v=.ref p/\(cZ K H p vs\/cH K H p vs)/\aF K m h.n H vs ws:=by
 cases q<;>try cases e
 exact⟨_,_,rfl,.inr ‹_›,‹_›⟩;rename_i q _;exact⟨_,_,rfl,.inl q.sq,‹_›⟩;rename_i i hi;simp only[aV]at e;cases g:h.get i with
 |none=>rw[g]at e;cases e
 |some o=>
  rw[g]at e;cases o with
  |dk _=>cases e
  |dm _=>cases e
  |dt _ _=>cases e
  |lst ws=>
   cases e;obtain⟨vs,h1,h2⟩:=r.lst g;exact⟨_,vs,rfl,.inl (cZ.of h1),h2⟩
theorem HL{K:aK}{m:Nat->ah}{n:Nat}{H:Hp}:∀{vs:List V} {ws:List W} {is:List Int},aF K m n H vs ws->aT intD ws=aB is->vs=is.map .int
 |_,_,_,.nil,e=>by cases e;rfl
 |_,_,_,.cons (w:=w) q r,e=>by
  simp only[aT]at e;cases q<;>try cases e
  rename_i i _ ws _;simp only[intD]at e;cases z:aT intD ws with|none=>rw[z]at e;cases e|some js=>rw[z]at e;cases e;rw[dH,HL r z]
theorem AX{K:aK}{m:Nat->ah}{n:Nat}{H:Hp}{v:V}{w:W}{k:DK}(q:aJ K m n H v w)(e:fB w=aB k):∃b,v=.ref b/\di K H k b:=by
 unfold fB at e;split at e;rename_i ws;cases z:aT intD ws with
 |none=>rw[z]at e;cases e
 |some is=>
  rw[z]at e;cases e;cases q with
  | @tup b vs _ sq rs=>
   cases rs with
   |cons q1 rs=>
    cases rs with
    |cons q2 rs=>
     cases rs;cases q2;cases q1 with
     | @tup c us _ HM HN=>
      refine⟨b,rfl,c,sq,?_⟩;rw[<-HL HN z];exact HM
 rename_i ws i;cases z:aT intD ws with
 |none=>rw[z]at e;cases e
 |some is=>
  rw[z]at e;cases e;cases q with
  | @tup b vs _ sq rs=>
   cases rs with
   |cons q1 rs=>
    cases rs with
    |cons q2 rs=>
     cases rs;cases q2;cases q1 with
     | @tup c us _ HM HN=>
      refine⟨b,rfl,c,sq,?_⟩;rw[<-HL HN z];exact HM
 cases e
theorem tZ{K:aK}{m:Nat->ah}{n:Nat}{H:Hp}:∀{xs:DX} {ks:List W},aT fB ks=aB (xs.map (·.1))->aF K m n H (xs.map λx=>.ref x.2.1) ks->∀p∈xs,di K H p.1 p.2.1
 |[],_,_,_,p,hp=>nomatch hp
 |x::xs,ks,e,r,p,hp=>by
  rw[dH]at r;obtain⟨w,ks,rfl,q,r⟩:∃w ks',ks=w::ks'/\aJ K m n H (.ref x.2.1) w/\aF K m n H (xs.map λx=>.ref x.2.1) ks':=by cases r with|cons q r=>exact⟨_,_,rfl,q,r⟩
  simp only[aT]at e;cases z:fB w with
  |none=>rw[z]at e;cases e
  |some k=>
   rw[z]at e;simp only at e;cases z2:aT fB ks with
   |none=>rw[z2]at e;cases e
   |some js=>
    rw[z2]at e;simp only[dH,u6,List.cons.injEq]at e;rcases fV.mp hp with rfl|hp
    obtain⟨b,e1,e2⟩:=AX q z;cases e1;rw[<-e.1];exact e2;exact tZ (by rw[z2,e.2]) r p hp
theorem kF{K:aK}{m:Nat->ah}{n:Nat}{H:Hp}{a:ah}{xs:DX}{ks:List W}(h:H a=aB (nU xs a)\/(xs=[]/\H a=aB (.dK [])))(e:aT fB ks=aB (xs.map (·.1)))(q:aF K m n H (xs.map λx=>.ref x.2.1) ks):DT K H a xs:=
 h.imp (λz=>⟨z,tZ e q⟩) λ⟨z,y⟩=>⟨z,.inl y⟩
theorem Es{K:aK}{m:Nat->ah}{n:Nat}{H:Hp}:∀{xs:DX} {ks ws:List W} (k:DK),aT fB ks=aB (xs.map (·.1))->aF K m n H (xs.map λx=>x.2.2) ws->(bP xs k=aC/\ie ks ws k=aC)\/∃p w,bP xs k=aB p/\ie ks ws k=aB w/\aJ K m n H p.2 w
 |[],ks,ws,k,e,r=>by
  cases ks with
  |nil=>exact .inl ⟨rfl,by unfold ie;rfl⟩
  |cons c ks=>
   simp only[aT]at e;split at e;split at e<;>cases e;cases e
 |x::xs,ks,ws,k,e,r=>by
  rw[dH]at r;obtain⟨w,ws,rfl,q,r⟩:∃w AY,ws=w::AY/\aJ K m n H x.2.2 w/\aF K m n H (xs.map λx=>x.2.2) AY:=by cases r with|cons q r=>exact⟨_,_,rfl,q,r⟩
  cases ks with
  |nil=>cases e
  |cons c ks=>
   simp only[aT]at e;cases z:fB c with
   |none=>rw[z]at e;cases e
   |some k'=>
    rw[z]at e;simp only at e;cases z2:aT fB ks with
    |none=>rw[z2]at e;cases e
    |some js=>
     rw[z2]at e;simp only[dH,u6,List.cons.injEq]at e;unfold ie;rw[z,e.1];by_cases y:x.1=k;rw[if_pos (by rw[y])];exact .inr ⟨x.2,w,by simp[bP,j0,y],rfl,q⟩;rw[if_neg (λz=>y (lT z))];have:bP (x::xs) k=bP xs k:=by simp[bP,j0,y]
     rw[this];exact Es k (by rw[z2,e.2]) r
theorem Mr{K:aK}{m:Nat->ah}{h:VH}{H:Hp}(r:Rel K m h H){x y:W}{v u:V}{b:Bool}(e:inD h x y=aB b)(qv:aJ K m h.n H v x)(qu:aJ K m h.n H u y) :
 ∃a c xs k,u=.ref a/\v=.ref c/\DT K H a xs/\di K H k c/\b=(bP xs k).isSome:=by
 unfold inD at e;split at e;rename_i i;split at e;rename_i ks ws k g hk;cases e;cases qu;obtain⟨xs,p1,p2,p3,p4⟩:=r.dt g;obtain⟨c,rfl,kk⟩:=AX qv hk;refine⟨m i,c,xs,k,rfl,rfl,kF p1 p2 p3,kk,?_⟩;rcases Es k p2 p4 with⟨z1,z2⟩|⟨p,w,z1,z2,_⟩<;> (rw[z1,z2];rfl)
 cases e;cases e
theorem Ms{K:aK}{m:Nat->ah}{h:VH}{H:Hp}(r:Rel K m h H){x y:W}{v u:V}{b:Bool}(e:AJ h x y=aB b)(qv:aJ K m h.n H v x)(qu:aJ K m h.n H u y) :
 (∃p vs ds d,u=.ref p/\(cZ K H p vs\/cH K H p vs)/\mX K (λ_=>False) H vs ds/\Rp K (λ_=>False) H v d/\ds.all SeqAt.shaped=true/\SeqAt.shaped d=true/\b=ia ds d)\/inD h x y=aB b:=by
 unfold AJ at e;split at e;rename_i ws d h1 h2;split at e;rename_i ds h3;split at e;rename_i hc;cases e;rw[bY]at hc;obtain⟨p,vs,rfl,h4,h5⟩:=yj r qu h1;exact .inl ⟨p,vs,ds,d,rfl,h4,AW (iP r 24) h3 h5,iP r _ _ _ _ h2 qv,hc.1,hc.2,rfl⟩;cases e;cases e;exact .inr e
noncomputable def gP:CmpOp->Option Cp|.Eq=>aB .eq|.NotEq=>aB .ne|.Lt=>aB .lt|.LtE=>aB .le|.Gt=>aB .gt|.GtE=>aB .ge|.Is=>aB .yb|.IsNot=>aB .vK|.In=>aB .kY|.NotIn=>aB .HF
noncomputable def rC(K:aK):Cp->R2|.eq=>Ae K|.ne=>Af K|.lt=>mU λi j=>.bl (decide (i<j))|.le=>mU λi j=>.bl (decide (i<=j))|.gt=>mU λi j=>.bl (decide (j<i))|.ge=>mU λi j=>.bl (decide (j<=i))|.yb=>λx y H Q=>(y=.aQ/\Q (.bl (decide (x=.aQ))) H)\/∃c b,x=.bl c/\y=.bl b/\Q (.bl (c==b)) H|.vK=>λx y H Q=>(y=.aQ/\Q (.bl (!decide (x=.aQ))) H)\/∃c b,x=.bl c/\y=.bl b/\Q (.bl (!(c==b))) H|.kY=>λx y H Q=>rm K false x y H Q\/rE K false x y H Q|.HF=>λx y H Q=>rm K true x y H Q\/rE K true x y H Q
noncomputable def qc:ao->Bool|.Set ..=>false|_=>true
theorem HP{op:CmpOp}{b:ao}(h:qc b):behindInMarks op b=false:=by cases b<;>first|rfl|cases h
section
variable{X:Cx}{a b c e:ao}{es:List ao}{fa fb fc:FE}{pos:Pos}
theorem Uj:dD X (compareOp .Is) (λx y H Q=>∃c b,x=.bl c/\y=.bl b/\Q (.bl (c==b)) H):=by intro pins s σ H x y v u Q I rx ry h;obtain⟨c,b,rfl,rfl,q⟩:=h;cases rx;cases ry;exact wpAny_is_plain rfl (DN I q (by cases c<;>cases b<;>rfl))
theorem Uk:dD X (compareOp .IsNot) (λx y H Q=>∃c b,x=.bl c/\y=.bl b/\Q (.bl (!(c==b))) H):=by intro pins s σ H x y v u Q I rx ry h;obtain⟨c,b,rfl,rfl,q⟩:=h;cases rx;cases ry;exact wpAny_isNot_plain rfl (DN I q (by cases c<;>cases b<;>rfl))
theorem yk(hu:X.A.units+65<cLine){O:CmpOp}{c:Cp}(e:gP O=aB c):dD X (compareOp O) (rC X.K c):=by cases O<;>cases e;exact RY (by lia);exact RZ (by lia);exact zH;exact zI;exact zJ;exact zK;exact QT.or Uj;exact zs2.or Uk;exact(Sz (by show X.A.units+1+64<cLine;lia)).or (TV (by lia));exact(SD (by show X.A.units+1+64<cLine;lia)).or (TX (by lia))
theorem Et{K:aK}{m:Nat->ah}{n:Nat}{H:Hp}{v:V}{w:W}(q:aJ K m n H v w):fF w=decide (v=.aQ):=by cases q<;>simp[fF]
theorem Eu{K:aK}(c:Cp):AR K (rC K c) (λx y h=>.of ((bJ c h x y).map .bl) h):=by
 intro m h H v u x y w h' Q r qv qu e k;obtain⟨e,rfl⟩:=of_ok e;cases z:bJ c h' x y with
 |none=>rw[z]at e;cases e
 |some b=>
  rw[z]at e;cases e;have fin:Q (.bl b) H:=aL.here k r (.bl b);unfold bJ at z;split at z;rcases Ms r z qv qu with⟨p,vs,ds,d,h1,h2,h3,h4,h5,h6,rfl⟩|z3
  exact .inl ⟨p,vs,ds,d,h1,h2,h3,h4,h5,h6,fin⟩;obtain⟨a,c,xs,dk,h1,h2,h3,h4,rfl⟩:=Mr r z3 qv qu;exact .inr ⟨a,c,xs,dk,h1,h2,h3,h4,fin⟩;cases z2:AJ h' x y with
  |none=>rw[z2]at z;cases z
  |some b2=>
   rw[z2]at z;cases z;rcases Ms r z2 qv qu with⟨p,vs,ds,d,h1,h2,h3,h4,h5,h6,rfl⟩|z3
   exact .inl ⟨p,vs,ds,d,h1,h2,h3,h4,h5,h6,fin⟩;obtain⟨a,c,xs,dk,h1,h2,h3,h4,rfl⟩:=Mr r z3 qv qu;exact .inr ⟨a,c,xs,dk,h1,h2,h3,h4,fin⟩
  obtain⟨d,e',h1,h2,h3,h4,rfl⟩:=Mq r z qv qu;exact⟨d,e',h1,h2,h3,h4,fin⟩;cases z2:dj h' x y with
  |none=>rw[z2]at z;cases z
  |some b2=>
   rw[z2]at z;cases z;obtain⟨d,e',h1,h2,h3,h4,rfl⟩:=Mq r z2 qv qu;exact⟨d,e',h1,h2,h3,h4,fin⟩
  split at z;rename_i hn;cases z;have:=Et qu;rw[hn]at this;refine .inl ⟨k7 this.symm,?_⟩;rw[<-Et qv];exact fin;unfold AK at z;split at z;rename_i c b;cases z;cases qv;cases qu;exact .inr ⟨_,_,rfl,rfl,fin⟩;cases z;split at z;rename_i hn;cases z;have:=Et qu;rw[hn]at this;refine .inl ⟨k7 this.symm,?_⟩;rw[<-Et qv];exact fin;cases z2:AK x y with
  |none=>rw[z2]at z;cases z
  |some b2=>
   rw[z2]at z;cases z;unfold AK at z2;split at z2;rename_i c b;cases z2;cases qv;cases qu;exact .inr ⟨_,_,rfl,rfl,fin⟩;cases z2
  split at z;rename_i i j;cases qv;cases qu;cases c<;>simp only[kC]at z<;>cases z<;>exact⟨i,j,rfl,rfl,fin⟩;cases z
theorem Ul(hu:X.A.units+65<cLine){O:CmpOp}{c:Cp}(e:gP O=aB c)(hs:qc b)(ha:SE X a fa)(hb:SE X b fb) :
 SE X (.Compare a [O] [b] pos) (λρ h=>(fa ρ h).bind λx h=>(fb ρ h).bind λy h=>.of ((bJ c h x y).map .bl) h):=
 (QU (yk hu e) ha hb (HP hs)).imp λσ H Q q=>Ep (G:=rC X.K c) (Eu c) q
theorem Um(hu:X.A.units+65<cLine){O:CmpOp}{c:Cp}(e:gP O=aB c)(hs:qc b)(ha:SE X a fa)(hb:SE X b fb) :
 ST X (.Compare a [O] [b] pos) (λρ h=>(fa ρ h).bind λx h=>(fb ρ h).bind λy h=>.of ((bJ c h x y).map .bl) h):=
 (QV (yk hu e) ha hb (HP hs)).imp λσ H Q q=>Ep (G:=rC X.K c) (Eu c) (Mm q)
theorem Mu{O O':CmpOp}{a b:ao}(h:qc b):lastMarks [O,O'] [a,b]=false:=HP h
theorem Mv{K:aK}{c1 c2:Cp}{σ:L2.St}{H:Hp}{Q:VK}
 (q:eF K (λρ h=>(fa ρ h).bind λx h=>(fb ρ h).bind λy h=>match bJ c1 h x y with
   |some true=>(fc ρ h).bind λz h=>.of ((bJ c2 h y z).map .bl) h
   |some false=>.ok (.bl false) h
   |none=>.no) σ H Q):Gw (rC K c1) (rC K c2) (eF K fa) (eF K fb) (eF K fc) σ H Q:=by
 refine q.el λρ h m w h' f r e k=>?_;refine bK e λx h1 e1 e2=>?_;refine bK e2 λy h2 e3 e4=>?_;refine(.mk f r e1 λv H1 m1 s1 r1 q1=>(.mk (f.stp s1) r1 e3 λu H2 m2 s2 r2 q2=>?_));have f2:=(f.stp s1).stp s2;have k2:aL K m2 h2.n H2 w h' Q:=λv' H' m' s' r' q'=>k v' H' m' ((s1.trans s2).trans s') r' q';cases z:bJ c1 h2 x y with
 |none=>rw[z]at e4;cases e4
 |some b=>
  rw[z]at e4;refine Eu c1 m2 h2 H2 v u x y (.bl b) h2 _ r2 (q1.stp s2) q2 (by show Res.of ((bJ c1 h2 x y).map W.bl) h2=_;rw[z];rfl) λv3 H3 m3 s3 r3 q3=>?_;cases q3;refine⟨b,rfl,?_⟩;cases b with
  |true=>
   refine bK e4 λz' h4 e5 e6=>?_;rw[if_pos rfl];refine⟨ρ,h2,m3,z',h4,f2.stp s3,r3,e5,λv4 H4 m4 s4 r4 q4=>?_⟩;exact Eu c2 m4 h4 H4 u v4 y z' w h' Q r4 ((q2.stp s3).stp s4) q4 e6 λv' H' m' s' r' q'=>k2 v' H' m' ((s3.trans s4).trans s') r' q'
  |false=>
   cases e4;simp only[dW,dg];exact k2 _ H3 m3 s3 r3 (.bl false)
theorem Uo(hu:X.A.units+65<cLine){O O':CmpOp}{c1 c2:Cp}(e:gP O=aB c1)(e':gP O'=aB c2)(hs:qc c)(ha:SE X a fa)(hb:SE X b fb)(hc:SE X c fc) :
 SE X (.Compare a [O,O'] [b,c] pos) (λρ h=>(fa ρ h).bind λx h=>(fb ρ h).bind λy h=>match bJ c1 h x y with|some true=>(fc ρ h).bind λz h=>.of ((bJ c2 h y z).map .bl) h|some false=>.ok (.bl false) h|none=>.no):=(QW (yk hu e) (yk hu e') ha hb hc (Mu hs)).imp λσ H Q q=>Mv q
theorem Up(hu:X.A.units+65<cLine){O O':CmpOp}{c1 c2:Cp}(e:gP O=aB c1)(e':gP O'=aB c2)(hs:qc c)(ha:SE X a fa)(hb:SE X b fb)(hc:SE X c fc) :
 ST X (.Compare a [O,O'] [b,c] pos) (λρ h=>(fa ρ h).bind λx h=>(fb ρ h).bind λy h=>match bJ c1 h x y with|some true=>(fc ρ h).bind λz h=>.of ((bJ c2 h y z).map .bl) h|some false=>.ok (.bl false) h|none=>.no):=(QX (yk hu e) (yk hu e') ha hb hc (Mu hs)).imp λσ H Q q=>Mv (Mm q)
noncomputable abbrev AZ(fa:FE):FE:=λρ h=>(fa ρ h).bind λx h=>match x with|.bl b=>.ok (.bl (!b)) h|_=>.no
noncomputable abbrev A0(fa fb:FE):FE:=λρ h=>(fa ρ h).bind λx h=>match x with|.bl true=>fb ρ h|.bl false=>.ok (.bl false) h|_=>.no
noncomputable abbrev Mw(fa fb:FE):FE:=λρ h=>(fa ρ h).bind λx h=>match x with|.bl true=>.ok (.bl true) h|.bl false=>fb ρ h|_=>.no
noncomputable abbrev HQ(fa fb fc:FE):FE:=λρ h=>(fa ρ h).bind λx h=>match x with|.bl true=>fb ρ h|.bl false=>fc ρ h|_=>.no
variable{rest:List ao}
theorem Uq(ha:ST X a fa):ST X (.UnaryOp .Not a pos) (AZ fa):=(P7 ha).imp λσ H Q z9=>z9.el λρ h m b h' f r e k=>by
 refine bK e λx h1 e1 e2=>?_;cases x<;>try cases e2
 rename_i b;exact(.mk f r e1 λH' m' s' r'=>k H' m' s' r')
theorem Ur(ha:SE X a fa):SE X (.UnaryOp .Not a pos) (AZ fa):=(Qa ha).imp λσ H Q z9=>z9.el λρ h m b h' f r e k=>by
 refine bK e λx h1 e1 e2=>?_;cases x<;>try cases e2
 rename_i b;exact(.mk f r e1 λv H' m' s' r' q=>by cases q;exact⟨b,rfl,k _ H' m' s' r' (.bl _)⟩)
theorem Mx{op:BoolOp}(ha:ST X a fa):SW X (.BoolOp op [a] pos) fa:=by cases op;exact P4 ha;exact P5 ha
theorem Us(ha:ST X a fa)(hb:SW X (.BoolOp .And (b::rest) pos) fb):SW X (.BoolOp .And (a::b::rest) pos) (A0 fa fb):=(P6 ha hb).imp λσ H Q z9=>z9.el λρ h m b h' f r e k=>by
 refine bK e λx h1 e1 e2=>?_;cases x<;>try cases e2
 rename_i c;refine(.mk f r e1 λH1 m1 s1 r1=>?_);cases c with|true=>rw[if_pos rfl];exact(.mk (f.stp s1) r1 e2 λH' m' s' r'=>k H' m' (s1.trans s') r')|false=>cases e2;simp only[dW,dg];exact k H1 m1 s1 r1
theorem A1(ha:ST X a fa)(hb:SW X (.BoolOp .Or (b::rest) pos) fb):SW X (.BoolOp .Or (a::b::rest) pos) (Mw fa fb):=(pw_or ha hb).imp λσ H Q z9=>z9.el λρ h m b h' f r e k=>by
 refine bK e λx h1 e1 e2=>?_;cases x<;>try cases e2
 rename_i c;refine(.mk f r e1 λH1 m1 s1 r1=>?_);cases c with|true=>cases e2;rw[if_pos rfl];exact k H1 m1 s1 r1|false=>simp only[dW,dg];exact(.mk (f.stp s1) r1 e2 λH' m' s' r'=>k H' m' (s1.trans s') r')
theorem My{op:BoolOp}(ha:SE X a fa):SE X (.BoolOp op [a] pos) fa:=P8 ha
theorem Ut(ha:SE X a fa)(hb:SE X (.BoolOp .And (b::rest) pos) fb):SE X (.BoolOp .And (a::b::rest) pos) (A0 fa fb):=(P9 ha hb).imp λσ H Q z9=>z9.el λρ h m w h' f r e k=>by
 refine bK e λx h1 e1 e2=>?_;cases x<;>try cases e2
 rename_i c;refine(.mk f r e1 λv H1 m1 s1 r1 q1=>?_);cases q1;refine⟨c,rfl,?_⟩;cases c with|true=>rw[if_pos rfl];exact(.mk (f.stp s1) r1 e2 λv H' m' s' r' q'=>k v H' m' (s1.trans s') r' q')|false=>cases e2;simp only[dW,dg];exact k _ H1 m1 s1 r1 (.bl false)
theorem A2(ha:SE X a fa)(hb:SE X (.BoolOp .Or (b::rest) pos) fb):SE X (.BoolOp .Or (a::b::rest) pos) (Mw fa fb):=(zm ha hb).imp λσ H Q z9=>z9.el λρ h m w h' f r e k=>by
 refine bK e λx h1 e1 e2=>?_;cases x<;>try cases e2
 rename_i c;refine(.mk f r e1 λv H1 m1 s1 r1 q1=>?_);cases q1;refine⟨c,rfl,?_⟩;cases c with|true=>cases e2;rw[if_pos rfl];exact k _ H1 m1 s1 r1 (.bl true)|false=>simp only[dW,dg];exact(.mk (f.stp s1) r1 e2 λv H' m' s' r' q'=>k v H' m' (s1.trans s') r' q')
theorem Uu(hc:ST X c fc)(ha:SE X a fa)(hb:SE X b fb):SE X (.IfExp c a b pos) (HQ fc fa fb):=(Qd hc ha hb).imp λσ H Q z9=>z9.el λρ h m w h' f r e k=>by
 refine bK e λx h1 e1 e2=>?_;cases x<;>try cases e2
 rename_i c;refine(.mk f r e1 λH1 m1 s1 r1=>?_);cases c with|true=>rw[if_pos rfl];exact(.mk (f.stp s1) r1 e2 λv H' m' s' r' q'=>k v H' m' (s1.trans s') r' q')|false=>simp only[dW,dg];exact(.mk (f.stp s1) r1 e2 λv H' m' s' r' q'=>k v H' m' (s1.trans s') r' q')
theorem Mz{K:aK}{m:Nat->ah}{n:Nat}{H:Hp}{vs:List V}{ws:List W}(q:aF K m n H vs ws):vs.isEmpty=ws.isEmpty:=by cases q<;>rfl
theorem Uv{K:aK}{m:Nat->ah}{h:VH}{H:Hp}{v:V}{w:W}{b:Bool}(r:Rel K m h H)(q:aJ K m h.n H v w)(e:ng h w=aB b):vp K v H b:=by
 cases q with
 |aQ=>cases e;rfl
 |bl x=>cases e;rfl
 |int i=>cases e;rfl
 |str x=>cases e
 |fz _ _=>cases e
 |tup sq rs=>cases e;exact .inr (.inl ⟨_,sq,by rw[Mz rs]⟩)
 | @ref i hi=>
  simp only[ng]at e;cases g:h.get i with
  |none=>rw[g]at e;cases e
  |some o=>
   rw[g]at e;cases o with
   |dk _=>cases e
   |dm _=>cases e
   |dt _ _=>cases e
   |lst ws=>
    cases e;obtain⟨vs,h1,h2⟩:=r.lst g;exact .inl ⟨vs,cZ.of h1,by rw[Mz h2]⟩
theorem HR(ha:SE X a fa)(he:∀whole,isTrue a X.env whole=(do let v <-whole;standAt a.pos;holding [v] (truthy v))) :
 ST X a (λρ h=>(fa ρ h).bind λx h=>.of ((ng h x).map .bl) h):=(Q0 ha he).imp λσ H Q z9=>z9.el λρ h m b h' f r e k=>by
 refine bK e λx h1 e1 e2=>?_;obtain⟨e2,rfl⟩:=of_ok e2;cases z:ng h' x with
 |none=>rw[z]at e2;cases e2
 |some c=>
  rw[z]at e2;cases e2;exact(.mk f r e1 λv H' m' s' r' q=>⟨b,Uv r' q z,k H' m' s' r'⟩)
theorem Uw(ha:SE X a fa):SE X (.UnaryOp .USub a pos) (λρ h=>(fa ρ h).bind λx h=>match x with|.int i=>.ok (.int (-i)) h|_=>.no):=
 (zF QS ha).imp λσ H Q q=>Ml (g:=λx h=>match x with|.int i=>.ok (.int (-i)) h|_=>.no) (G:=rU λi=>.int (-i)) (λm h H v x w h' Q r q e k=>by
   cases q<;>try cases e
   rename_i i;exact⟨i,rfl,aL.here k r (.int _)⟩) q
end
section
variable{K:aK}{m m0:Nat->ah}{n n0:Nat}{h:VH}{H H0:Hp}
theorem Rel.adopt(r:Rel K m h H){p:ah}{o:VO}{u u0:HO}(hp:∀i,i<h.n->m i≠p)(hu:H p=aB u0)(ht:∀t,u0≠.tup t)(hf:∀o t,u0≠.bF o t)(s:bZ m0 n0 H0 m h.n H)(h0:H0 p=aC)
 (ho:bZ m h.n H (λi=>if i=h.n then p else m i) (h.n+1) (upd H p u)\/True->(∀{v:V}{w:W},aJ K m h.n H v w->aJ K (λi=>if i=h.n then p else m i) (h.n+1) (upd H p u) v w)->fM K (λi=>if i=h.n then p else m i) (h.n+1) (upd H p u) p o) :
 bZ m0 n0 H0 (λi=>if i=h.n then p else m i) (h.n+1) (upd H p u)/\Rel K (λi=>if i=h.n then p else m i) (h.new o) (upd H p u):=by
 have kt:∀b vs,H b=aB (.tup vs)->upd H p u b=aB (.tup vs):=λb vs q=>by rw[b9 (cJ q hu λz=>ht vs z.symm)];exact q
 have kf:∀b o t,H b=aB (.bF o t)->upd H p u b=aB (.bF o t):=λb o t q=>by rw[b9 (cJ q hu λz=>hf o t z.symm)];exact q
 have mv:∀{v:V}{w:W},aJ K m h.n H v w->aJ K (λi=>if i=h.n then p else m i) (h.n+1) (upd H p u) v w:=by
  intro v w q;have st:bZ m h.n (λb=>if b=p then aC else H b) (λi=>if i=h.n then p else m i) (h.n+1) (upd H p u):=by
   refine⟨qK _,λi hi=>by simp only[if_neg (gB hi)],λi hi hi2=>?_,λi j hi hi2 hj=>?_,λb vs q=>?_,λb o t q=>?_,λb o _ q=>?_⟩;have:i=h.n:=by lia
   subst this;simp only[cC];have:i=h.n:=by lia
   subst this;simp only[cC,if_neg (gB hj)];exact(hp j hj).symm;split at q;cases q;exact kt b vs q;split at q;cases q;exact kf b o t q;split at q;cases q;rename_i z;rw[b9 z];exact q
  refine aJ.stp st ?_;have back:∀{a vs},cH K H a vs->cH K (λb=>if b=p then aC else H b) a vs:=by
   intro a vs q;rcases q with(q|⟨o,q⟩)|q
   exact .inl (.inl (by simp only[if_neg (cJ q hu λz=>ht vs z.symm)];exact q));exact .inl (.inr ⟨o,by simp only[if_neg (cJ q hu λz=>hf o _ z.symm)];exact q⟩);exact .inr q
  have A3:∀{a vs},Fz K H a vs->Fz K (λb=>if b=p then aC else H b) a vs:=by
   intro a vs q;rcases q with⟨o,q⟩|q
   exact .inl ⟨o,by simp only[if_neg (cJ q hu λz=>hf o _ z.symm)];exact q⟩;exact .inr q
  exact(aJ.rec (K:=K) (m:=m) (n:=h.n) (H:=H) (motive_1:=λv w _=>aJ K m h.n (λb=>if b=p then aC else H b) v w) (motive_2:=λvs ws _=>aF K m h.n (λb=>if b=p then aC else H b) vs ws)
   .aQ .bl .int .str (λsq _ ih=>.tup (back sq) ih) (λsq _ ih=>.fz (A3 sq) ih) (λhi=>.ref hi) .nil (λ_ _ i1 i2=>.cons i1 i2) q)
 refine⟨⟨Nat.le_succ_of_le s.le,λi hi=>?_,λi hi hi2=>?_,λi j hi hi2 hj=>?_,λb vs q=>kt b vs (s.tup b vs q),λb o t q=>kf b o t (s.bF b o t q),λb o nb q=>?_⟩,⟨λi hi=>?_,λi j hi hj z=>?_,?_⟩⟩;have:=s.le;simp only[if_neg (show i≠h.n by lia)];exact s.same i hi;by_cases e:i=h.n;subst e;simp only[cC];exact h0;simp only[if_neg e];exact s.new i hi (by lia);have:=s.le;simp only[if_neg (show j≠h.n by lia)];by_cases e:i=h.n;subst e;simp only[cC];exact(hp j (by lia)).symm;simp only[if_neg e];exact s.apart i j hi (by lia) hj;rw[b9 (iD q h0)];exact s.keep b o nb q;have hi:i<h.n+1:=hi;by_cases e:i=h.n;subst e;exact⟨o,dS,by simp only[cC];exact ho (.inr trivial) mv⟩;have hl:i<h.n:=by lia
 obtain⟨o',h1,h2⟩:=r.obj i hl;refine⟨o',(ig hl).trans h1,?_⟩;simp only[if_neg e];have eq:upd H p u (m i)=H (m i):=b9 (hp i hl);cases o' with
 |lst ws=>
  obtain⟨vs,q1,q2⟩:=h2;exact⟨vs,eq.trans q1,aF.rec (K:=K) (m:=m) (n:=h.n) (H:=H) (motive_1:=λv w _=>aJ K m h.n H v w) (motive_2:=λvs ws _=>aF K (λi=>if i=h.n then p else m i) (h.n+1) (upd H p u) vs ws)
   .aQ .bl .int .str (λsq q _=>.tup sq q) (λsq q _=>.fz sq q) (λhi=>.ref hi) .nil (λq _ _ i2=>.cons (mv q) i2) q2⟩
 |dk ws=>
  obtain⟨vs,q1,q2⟩:=h2;have go:∀{vs:List (Key×V)}{ws:List (Key×W)},aN K m h.n H vs ws->aN K (λi=>if i=h.n then p else m i) (h.n+1) (upd H p u) vs ws:=by
   intro vs ws q2;induction q2 with|nil=>exact .nil|cons q _ ih=>exact .cons (mv q) ih
  exact⟨vs,q1.imp (λz=>eq.trans z) λ⟨o,z⟩=>⟨o,eq.trans z⟩,go q2⟩
 |dm ws=>
  obtain⟨vs,q1,q2⟩:=h2;have go:∀{vs:List (Key×V)}{ws:List (Key×W)},aN K m h.n H vs ws->aN K (λi=>if i=h.n then p else m i) (h.n+1) (upd H p u) vs ws:=by
   intro vs ws q2;induction q2 with|nil=>exact .nil|cons q _ ih=>exact .cons (mv q) ih
  exact⟨vs,eq.trans q1,go q2⟩
 |dt ks ws=>
  obtain⟨xs,q1,q0,q2,q3⟩:=h2;have go:∀{vs:List V}{ws:List W},aF K m h.n H vs ws->aF K (λi=>if i=h.n then p else m i) (h.n+1) (upd H p u) vs ws:=λq2=>
   aF.rec (K:=K) (m:=m) (n:=h.n) (H:=H) (motive_1:=λv w _=>aJ K m h.n H v w) (motive_2:=λvs ws _=>aF K (λi=>if i=h.n then p else m i) (h.n+1) (upd H p u) vs ws)
    .aQ .bl .int .str (λsq q _=>.tup sq q) (λsq q _=>.fz sq q) (λhi=>.ref hi) .nil (λq _ _ i2=>.cons (mv q) i2) q2
  exact⟨xs,q1.imp (λz=>eq.trans z) λ⟨o,z⟩=>⟨o,eq.trans z⟩,q0,go q2,go q3⟩
 have hi:i<h.n+1:=hi;have hj:j<h.n+1:=hj;by_cases e:i=h.n;by_cases e2:j=h.n;lia;simp only[if_pos e,if_neg e2]at z;exact absurd z.symm (hp j (by lia));by_cases e2:j=h.n;simp only[if_neg e,if_pos e2]at z;exact absurd z (hp i (by lia));simp only[if_neg e,if_neg e2]at z;exact r.inj i j (by lia) (by lia) z;show(o::h.os).length=h.n+1;rw[cY,r.len]
theorem aF.map{m':Nat->ah}{n':Nat}{H':Hp}(mv:∀{v:V} {w:W},aJ K m n H v w->aJ K m' n' H' v w):∀{vs:List V} {ws:List W},aF K m n H vs ws->aF K m' n' H' vs ws|_,_,.nil=>.nil|_,_,.cons q r=>.cons (mv q) (aF.map mv r)
theorem aN.map{m':Nat->ah}{n':Nat}{H':Hp}(mv:∀{v:V} {w:W},aJ K m n H v w->aJ K m' n' H' v w):∀{vs:List (Key×V)} {ws:List (Key×W)},aN K m n H vs ws->aN K m' n' H' vs ws|_,_,.nil=>.nil|_,_,.cons q r=>.cons (mv q) (aN.map mv r)
theorem aN.look(k:Key):∀{vs:List (Key×V)} {ws:List (Key×W)},aN K m n H vs ws->(fm vs k=aC/\aP ws k=aC)\/∃v w,fm vs k=aB v/\aP ws k=aB w/\aJ K m n H v w
 |_,_,.nil=>.inl ⟨rfl,rfl⟩
 |_,_,.cons (k:=k') (v:=v) (w:=w) q r=>by
  by_cases e:k'=k;refine .inr ⟨v,w,DZ (p:=(k',v)) e,?_,q⟩;unfold aP;rw[j0];simp[e];rcases aN.look k r with⟨a,b⟩|⟨v',w',a,b,c⟩
  refine .inl ⟨(Ag (p:=(k',v)) e).trans a,?_⟩;unfold aP at b ⊢;rw[j0];simp only[iX e];exact b;refine .inr ⟨v',w',(Ag (p:=(k',v)) e).trans a,?_,c⟩;unfold aP at b ⊢;rw[j0];simp only[iX e];exact b
theorem aN.any(k:Key):∀{vs:List (Key×V)} {ws:List (Key×W)},aN K m n H vs ws->(vs.any λkv=>decide (kv.1=k))=(ws.any λkv=>decide (kv.1=k))|_,_,.nil=>rfl|_,_,.cons q r=>by rw[xH,xH,aN.any k r]
theorem aN.repl{v:V}{w:W}(q:aJ K m n H v w)(k:Key):∀{vs:List (Key×V)} {ws:List (Key×W)},aN K m n H vs ws->aN K m n H (vs.map λkv=>if kv.1=k then(kv.1,v)else kv) (ws.map λkv=>if kv.1=k then(kv.1,w)else kv)
 |_,_,.nil=>.nil
 |_,_,.cons (k:=k') p r=>by
  rw[dH,dH];by_cases e:k'=k;simp only[if_pos e];exact .cons q (aN.repl q k r);simp only[if_neg e];exact .cons p (aN.repl q k r)
theorem aN.snoc{v:V}{w:W}(q:aJ K m n H v w)(k:Key):∀{vs:List (Key×V)} {ws:List (Key×W)},aN K m n H vs ws->aN K m n H (vs++[(k,v)]) (ws++[(k,w)])|_,_,.nil=>.cons q .nil|_,_,.cons p r=>.cons p (aN.snoc q k r)
theorem aN.put{v:V}{w:W}(q:aJ K m n H v w)(k:Key){vs:List (Key×V)}{ws:List (Key×W)}(r:aN K m n H vs ws):aN K m n H (putK vs k v) (bD ws k w):=by unfold putK bD;rw[r.any k];split;exact r.repl q k;exact r.snoc q k
theorem aN.merge{vs:List (Key×V)}{ws:List (Key×W)}(q:aN K m n H vs ws):∀{va:List (Key×V)} {wa:List (Key×W)},aN K m n H va wa->aN K m n H (p5 va vs) (yf wa ws):=by
 induction q with|nil=>exact λa=>a|cons q r ih=>exact λa=>ih (a.put q _)
theorem aN.length:∀{vs:List (Key×V)} {ws:List (Key×W)},aN K m n H vs ws->vs.length=ws.length|_,_,.nil=>rfl|_,_,.cons _ r=>by rw[cY,cY,aN.length r]
theorem yl{v:V}{w:W}{k:Key}(q:aJ K m n H v w)(e:lB w=aB k):v=kV k:=by cases q<;>cases e<;>rfl
theorem HS{vs:List V}{ws:List W}{i:Int}{w:W}(q:aF K m n H vs ws)(e:fE ws i=aB w):∃v,fE vs i=aB v/\aJ K m n H v w:=by
 unfold fE at e ⊢;rw[q.length];cases z:i8 ws.length i with
 |none=>rw[z]at e;cases e
 |some j=>
  rw[z]at e;exact q.get e
end
noncomputable def vR(K:aK):R2:=λx y H Q=>zU K x y H Q\/zV K x y H Q\/(∃a v,x=.ref a/\mZ H a y (aB v)/\Q v H)\/AA K x y H Q
section
variable{X:Cx}{a b c e o:ao}{es:List ao}{fa fb fc fo:FE}{pos:Pos}
theorem Ux(hu:X.A.units+1<cLine):pZ X (λx y H Q=>∃a v,x=.ref a/\mZ H a y (aB v)/\Q v H):=by intro value slice pins s σ H x y v u Q I rx ry q hs;obtain⟨a,v',rfl,g,q⟩:=q;obtain rfl:v=Value.ref a:=rx;exact tail_any (R9 I g) PySem.F.slot_dict_getitem.lookup (R7 hu I g ry λw' s3 I3 rw'=>⟨v',H,I3,rw',q⟩) hs
theorem A4(hu:X.A.units+2<cLine):pZ X (vR X.K):=Rt.or (Ru.or ((Ux (by lia)).or (AB hu)))
theorem Uy{K:aK}:AR K (vR K) (λx y h=>.of (bR h x y) h):=by
 intro m h H v u x y w h' Q r qv qu e0 k;obtain⟨e,e1⟩:=of_ok e0;clear e0;subst e1;unfold bR at e;split at e;cases qv with
 |tup sq rs=>
  cases qu;obtain⟨v',h1,h2⟩:=HS rs e;exact .inr (.inl ⟨_,_,_,v',rfl,rfl,sq,h1,aL.here k r h2⟩)
 cases qv with
 |fz sq rs=>
  cases qu;obtain⟨v',h1,h2⟩:=HS rs e;exact .inl ⟨_,_,_,v',rfl,rfl,sq.sq,h1,aL.here k r h2⟩
 rename_i i j;cases qv;cases qu;cases g:h'.get i with
 |none=>rw[g]at e;cases e
 |some ob=>
  rw[g]at e;cases ob with
  |lst ws=>
   obtain⟨vs,p1,p2⟩:=r.lst g;obtain⟨v',h1,h2⟩:=HS p2 e;exact .inl ⟨_,_,_,v',rfl,rfl,cZ.of p1,h1,aL.here k r h2⟩
  |dk ws=>
   have e:aP ws (.inl j)=aB w:=e;obtain⟨vs,p1,p2⟩:=r.dk g;rcases p2.look (.inl j)with⟨_,z⟩|⟨v',w',z1,z2,z3⟩
   rw[z]at e;cases e;rw[z2]at e;cases e;exact .inr (.inr (.inl ⟨_,v',rfl,by rw[<-z1];exact .inl ⟨vs,.inl j,p1,rfl,rfl⟩,aL.here k r z3⟩))
  |dm ws=>
   have e:aP ws (.inl j)=aB w:=e;obtain⟨vs,p1,p2⟩:=r.dm g;rcases p2.look (.inl j)with⟨_,z⟩|⟨v',w',z1,z2,z3⟩
   rw[z]at e;cases e;rw[z2]at e;cases e;exact .inr (.inr (.inl ⟨_,v',rfl,by rw[<-z1];exact .inl ⟨vs,.inl j,.inl p1,rfl,rfl⟩,aL.here k r z3⟩))
  |dt _ _=>cases e
 rename_i i j;cases qv;cases qu;cases g:h'.get i with
 |none=>rw[g]at e;cases e
 |some ob=>
  rw[g]at e;cases ob with
  |lst ws=>cases e
  |dk ws=>
   have e:aP ws (.inr j)=aB w:=e;obtain⟨vs,p1,p2⟩:=r.dk g;rcases p2.look (.inr j)with⟨_,z⟩|⟨v',w',z1,z2,z3⟩
   rw[z]at e;cases e;rw[z2]at e;cases e;exact .inr (.inr (.inl ⟨_,v',rfl,by rw[<-z1];exact .inl ⟨vs,.inr j,p1,rfl,rfl⟩,aL.here k r z3⟩))
  |dm _=>cases e
  |dt _ _=>cases e
 rename_i i _ _;cases qv;unfold AI at e;split at e;rename_i ks ws dk g hk;obtain⟨xs,p1,p2,p3,p4⟩:=r.dt g;obtain⟨c,rfl,kk⟩:=AX qu hk;rcases Es dk p2 p4 with⟨_,z2⟩|⟨p,w',z1,z2,z3⟩
 rw[z2]at e;cases e;rw[z2]at e;cases e;exact .inr (.inr (.inr ⟨_,c,xs,dk,p,rfl,rfl,kF p1 p2 p3,kk,z1,aL.here k r z3⟩));cases e;cases e
theorem Uz(hu:X.A.units+2<cLine)(ha:SE X a fa)(hb:SE X b fb)(hs:GF b):SE X (.Subscript a b pos) (λρ h=>(fa ρ h).bind λx h=>(fb ρ h).bind λy h=>.of (bR h x y) h):=
 (zT (A4 hu) ha hb hs).imp λσ H Q q=>Ep (G:=vR X.K) Uy q
noncomputable def jg(K:aK)(b:Bool)(f:FE):TO:=λσ H Q=>∃ρ h m w o h',Fr K m h.n H σ ρ/\Rel K m h H/\f ρ h=.ok w h'/\gh b w=aB o/\∀H' m',bZ m h.n H m' h'.n H'->Rel K m' h' H'->Q o H'
theorem jg.el{K:aK}{σ:L2.St}{H:Hp}{P:Prop}{b:Bool}{fa:FE}{Q:Option Int->Hp->Prop}(q:jg K b fa σ H Q)(k:∀ρ h m w o h',Fr K m h.n H σ ρ->Rel K m h H->fa ρ h=.ok w h'->gh b w=aB o->(∀H' m',bZ m h.n H m' h'.n H'->Rel K m' h' H'->Q o H')->P):P:=by obtain⟨ρ,h,m,w,o,h',f,r,e,ep,k'⟩:=q;exact k ρ h m w o h' f r e ep k'
theorem jg.mk{K:aK}{σ:L2.St}{H:Hp}{m:Nat->ah}{ρ:En}{h h':VH}{w:W}{o:Option Int}{b:Bool}{fa:FE}{Q:Option Int->Hp->Prop}(f:Fr K m h.n H σ ρ)(r:Rel K m h H)(e:fa ρ h=.ok w h')(ep:gh b w=aB o)(k:∀H' m',bZ m h.n H m' h'.n H'->Rel K m' h' H'->Q o H'):jg K b fa σ H Q:=⟨ρ,h,m,w,o,h',f,r,e,ep,k⟩
theorem UA{w:W}:PO X aC (jg X.K false (λ_ h=>.ok w h)):=λpins s σ H Q I z9=>z9.el λρ h m w o h' f r e ep k=>by
 cases e;have:o=aC:=by unfold gh at ep;cases ep;rfl
 subst this;exact Rl pins s σ H Q I (k H m .refl r)
theorem MA(ha:SE X e fa):PO X (aB e) (jg X.K true fa):=λpins s σ H Q I z9=>z9.el λρ h m w o h' f r e ep k=>by
 refine Rm ha pins s σ H Q I (.mk f r e λv H' m' s' r' q=>?_);cases q<;>cases ep;exact⟨_,rfl,k H' m' s' r'⟩
theorem MB{K:aK}{m:Nat->ah}{n:Nat}{H:Hp}{vs:List V}{ws:List W}(q:aF K m n H vs ws)(lo hi:Option Int):aF K m n H (kc vs lo hi) (je ws lo hi):=by unfold kc je;rw[q.length];exact(q.drop _).take _
theorem UB{ws:List W}{lo hi:Option Int}(h:HT.bT ws.length 0 lo=0/\HT.bT ws.length ws.length hi=ws.length):je ws lo hi=ws:=by unfold je;rw[h.1,h.2];simp
theorem UC{lo hi:Option ao}{fl fh:FE}{p2:Pos}{bl bh:Bool}(ha:SE X a fa)(hl:PO X lo (jg X.K bl fl))(hh:PO X hi (jg X.K bh fh)) :
 SE X (.Subscript a (.Slice lo hi aC p2) pos) (λρ h=>(fa ρ h).bind λx h=>(fl ρ h).bind λl h=>(fh ρ h).bind λu h=>match gh bl l,gh bh u with|some l,aB u=>kD x l u h|_,_=>.no):=
 (Ro SH ha hl hh).imp λσ H Q z9=>z9.el λρ h m w h' f r e k=>by
   refine bK e λx h1 e1 e2=>?_;refine bK e2 λl h2 e3 e4=>?_;refine bK e4 λu h3 e5 e6=>?_;split at e6;rename_i l' u' pl pu;refine(.mk f r e1 λv H1 m1 s1 r1 q1=>(.mk (f.stp s1) r1 e3 pl λH2 m2 s2 r2=>(.mk ((f.stp s1).stp s2) r2 e5 pu λH3 m3 s3 r3=>?_)));have q3:=(q1.stp s2).stp s3;have kk:aL X.K m3 h3.n H3 w h' Q:=λv' H' m' s' r' q'=>k v' H' m' (((s1.trans s2).trans s3).trans s') r' q';unfold kD at e6;split at e6;rename_i ws;cases e6;cases q3 with
   | @tup a vs _ sq rs=>
    by_cases hw:HT.bT vs.length 0 l'=0/\HT.bT vs.length vs.length u'=vs.length;refine .inl (.inr ⟨_,_,rfl,sq,hw,?_⟩);have MC:=hw;rw[rs.length]at MC;rw[UB MC]at kk;exact aL.here kk r3 (.tup sq rs);exact .inl (.inl ⟨_,_,rfl,sq,hw,λp hp=>aL.tuple kk r3 (MB rs l' u') hp⟩)
   rename_i i;cases q3;cases g:h3.get i with
   |none=>rw[g]at e6;cases e6
   |some ob=>
    rw[g]at e6;cases ob with
    |lst ws=>
     cases e6;obtain⟨vs,p1,p2⟩:=r3.lst g;exact .inr ⟨_,_,rfl,cZ.of p1,λp hp=>aL.list kk r3 (MB p2 l' u') hp⟩
    |dk ws=>cases e6
    |dm _=>cases e6
    |dt _ _=>cases e6
   cases e6;cases e6
end
noncomputable def gQ:ao->Bool|.Starred ..=>false|_=>true
theorem fN{e:ao}{es:List ao}{env:Env}(h:gQ e):starEach (e::es) env=(false,eval e env)::starEach es env:=by cases e<;>first|rfl|cases h
theorem A5{pos:Pos}{env:Env}:∀{es:List ao},es.all gQ=true->(backTo pos (starEach es env)).any (·.1)=false
 |[],_=>rfl
 |e::es,h=>by
  rw[sY,bY]at h;rw[fN h.1];show(false|| (backTo pos (starEach es env)).any (·.1))=false;rw[A5 h.2];rfl
noncomputable abbrev lD:FE:=λ_ h=>.ok (.tup []) h
noncomputable abbrev iQ(fa fb:FE):FE:=λρ h=>(fa ρ h).bind λx h=>(fb ρ h).bind λy h=>match y with|.tup ys=>.ok (.tup (x::ys)) h|_=>.no
section
variable{X:Cx}{a b c e o:ao}{es:List ao}{fa fb fc fo:FE}{pos p:Pos}{x:Str}
noncomputable abbrev jL(fa:FE)(g:List W->VH->Res W):FE:=λρ h=>(fa ρ h).bind λy h=>match y with|.tup ys=>g ys h|_=>.no
noncomputable def fG(K:aK)(r:List V->Hp->VK->Prop)(g:List W->VH->Res W):Prop:=∀(m:Nat->ah) (h:VH) (H:Hp) (vs:List V) (xs:List W) (w:W) (h':VH) (Q:VK),Rel K m h H->aF K m h.n H vs xs->g xs h=.ok w h'->aL K m h.n H w h' Q->r vs H Q
theorem A6{id:String}{r:List V->Hp->VK->Prop}{g:List W->VH->Res W}(hc:cu X (.builtin id) r)(hv:fG X.K r g)(hg:Gl X x)(hm:X.mg x=aC)(hb:bootBuiltins x=aB (.builtin id))(ha:SA X (e::es) fa)(hs:(e::es).all gQ=true)
 (hn:x≠"__name__") (hdb:(x==("__debug__" : Str))=false):SE X (.Call (.Name x p) (e::es) [] pos) (jL fa g):=by
 rw[sY,bY]at hs;exact(Lh hc hg hm hb ha hn hdb (fN hs.1) (A5 hs.2)).imp λσ H Q q=>yg hv q
theorem HU{T:String}{r:List V->Hp->VK->Prop}{g:List W->VH->Res W}(hc:cu X (.type T) r)(hv:fG X.K r g)(hg:Gl X x)(hm:X.mg x=aC)(hb:bootBuiltins x=aB (.type T))(ha:SA X (e::es) fa)(hs:(e::es).all gQ=true)
 (hn:x≠"__name__") (hdb:(x==("__debug__" : Str))=false):SE X (.Call (.Name x p) (e::es) [] pos) (jL fa g):=by
 rw[sY,bY]at hs;exact(Rf hc hg hm hb ha hn hdb (fN hs.1) (A5 hs.2)).imp λσ H Q q=>yg hv q
theorem fH{K:aK}{m:Nat->ah}{n:Nat}{H:Hp}{vs:List V}{w:W}(q:aF K m n H vs [w]):∃v,vs=[v]/\aJ K m n H v w:=by cases q with|cons q r=>cases r;exact⟨_,rfl,q⟩
theorem UD{K:aK}:fG K (λxs H Q=>(∃p ys,xs=[.ref p]/\(cZ K H p ys\/cH K H p ys)/\Q (.int ys.length) H)\/∃a ys,xs=[.ref a]/\DT K H a ys/\Q (.int ys.length) H) jf:=by
 intro m h H vs xs w h' Q r q e k;unfold jf at e;split at e<;>try cases e
 rename_i x;obtain⟨v,rfl,q1⟩:=fH q;obtain⟨e,rfl⟩:=of_ok e;cases z:aV h' x with
 |none=>
  rw[z]at e;simp only[l9]at e;cases q1<;>try cases e
  rename_i i _ _;cases g:h'.get i with
  |none=>simp[g]at e
  |some ob=>
   cases ob with
   |lst _=>simp[g]at e
   |dk _=>simp[g]at e
   |dm _=>simp[g]at e
   |dt ks ws=>
    simp only[g,iC,u6]at e;subst e;obtain⟨xs,p1,p2,p3,p4⟩:=r.dt g;have:=p3.length;rw[bG]at this;exact .inr ⟨_,xs,rfl,kF p1 p2 p3,by rw[this];exact aL.here k r (.int _)⟩
 |some ws=>
  rw[z]at e;cases e;obtain⟨p,us,rfl,h1,h2⟩:=yj r q1 z;exact .inl ⟨p,us,rfl,h1,by rw[h2.length];exact aL.here k r (.int _)⟩
theorem UE{K:aK}:fG K (λxs H Q=>∃p ys,xs=[.ref p]/\(cZ K H p ys\/cH K H p ys)/\∀l,H l=aC->Q (.ref l) (upd H l (.lst ys))) iO:=by
 intro m h H vs xs w h' Q r q e k;unfold iO at e;split at e<;>try cases e
 rename_i x;obtain⟨v,rfl,q1⟩:=fH q;cases z:aV h x with
 |none=>rw[z]at e;cases e
 |some ws=>
  rw[z]at e;cases e;obtain⟨p,us,rfl,h1,h2⟩:=yj r q1 z;exact⟨p,us,rfl,h1,λl hl=>aL.list k r h2 hl⟩
theorem UG{K:aK}:fG K (λxs H Q=>(∃p ys,xs=[.ref p]/\((cZ K H p ys/\∀l,H l=aC->Q (.ref l) (upd H l (.tup ys)))\/(cH K H p ys/\Q (.ref p) H)))\/∃a ys,xs=[.ref a]/\DT K H a ys/\∀l,H l=aC->Q (.ref l) (upd H l (.tup (ys.map λp=>.ref p.2.1)))) vN:=by
 intro m h H vs xs w h' Q r q e k;unfold vN at e;split at e<;>try cases e
 rename_i x;obtain⟨v,rfl,q1⟩:=fH q;obtain⟨e,rfl⟩:=of_ok e;cases z:aV h' x with
 |none=>
  rw[z]at e;simp only[l9]at e;cases q1<;>try cases e
  rename_i i _ _;cases g:h'.get i with
  |none=>simp[g]at e
  |some ob=>
   cases ob with
   |lst _=>simp[g]at e
   |dk _=>simp[g]at e
   |dm _=>simp[g]at e
   |dt ks ws=>
    simp only[g,iC,u6]at e;subst e;obtain⟨xs,p1,p2,p3,p4⟩:=r.dt g;exact .inr ⟨_,xs,rfl,kF p1 p2 p3,λl hl=>aL.tuple k r p3 hl⟩
 |some ws=>
  rw[z]at e;cases e;obtain⟨p,us,rfl,h1,h2⟩:=yj r q1 z;rcases h1 with h1|h1
  exact .inl ⟨p,us,rfl,.inl ⟨h1,λl hl=>aL.tuple k r h2 hl⟩⟩;exact .inl ⟨p,us,rfl,.inr ⟨h1,aL.here k r (.tup h1 h2)⟩⟩
theorem UH{K:aK}:fG K (λxs H Q=>(∃i,xs=[.int i]/\Q (.int i) H)\/∃k,xs=[.bl k]/\Q (.int (if k then 1 else 0)) H) nh:=by
 intro m h H vs xs w h' Q r q e k;unfold nh at e;split at e<;>try cases e
 obtain⟨v,rfl,q1⟩:=fH q;cases q1;exact .inl ⟨_,rfl,aL.here k r (.int _)⟩;obtain⟨v,rfl,q1⟩:=fH q;cases q1;exact .inr ⟨_,rfl,aL.here k r (.int _)⟩
theorem UI{K:aK}:fG K (λxs H Q=>∃i,xs=[.int i]/\Q (.int (if i<0 then -i else i)) H) lC:=by
 intro m h H vs xs w h' Q r q e k;unfold lC at e;split at e<;>try cases e
 obtain⟨v,rfl,q1⟩:=fH q;cases q1;exact⟨_,rfl,aL.here k r (.int _)⟩
theorem kG{K:aK}{m:Nat->ah}{n:Nat}{H:Hp}{vs:List V}{w z:W}(q:aF K m n H vs [w,z]):∃v u,vs=[v,u]/\aJ K m n H v w/\aJ K m n H u z:=by cases q with|cons q r=>obtain⟨u,rfl,h⟩:=fH r;exact⟨_,_,rfl,q,h⟩
theorem MD{K:aK}{m:Nat->ah}{n:Nat}{H:Hp}:∀{vs:List V} {ws:List W} {is:List Int},aF K m n H vs ws->aT iZ ws=aB is->vs=is.map .int
 |_,_,_,.nil,e=>by cases e;rfl
 |_,_,_,.cons (w:=w) (ws:=ws) q r,e=>by
  unfold aT at e;cases z:iZ w with
  |none=>rw[z]at e;cases e
  |some b=>
   rw[z]at e;cases z2:aT iZ ws with
   |none=>rw[z2]at e;cases e
   |some cs=>
    rw[z2]at e;cases e;unfold iZ at z;split at z<;>cases z;cases q;rw[MD r z2];rfl
theorem ME:∀(r:List Int) (x:Int),x<=dO x r/\∀y∈r,y<=dO x r
 |[],x=>⟨Int.le_refl _,λ_ h=>nomatch h⟩
 |y::r,x=>by
  have h:=ME r (if y>x then y else x);by_cases q:y>x;rw[if_pos q]at h;have e:dO x (y::r)=dO y r:=by show dO (if y>x then y else x) r=_;rw[if_pos q]
  rw[e];refine⟨by have:=h.1;lia,λz hz=>?_⟩;rcases fV.mp hz with rfl|hz
  exact h.1;exact h.2 z hz;rw[if_neg q]at h;have e:dO x (y::r)=dO x r:=by show dO (if y>x then y else x) r=_;rw[if_neg q]
  rw[e];refine⟨h.1,λz hz=>?_⟩;rcases fV.mp hz with rfl|hz
  have:=h.1;lia;exact h.2 z hz
theorem MF:∀(r:List Int) (x:Int),dO x r∈x::r
 |[],x=>eX
 |y::r,x=>by
  have h:=MF r (if y>x then y else x);by_cases q:y>x;rw[if_pos q]at h;have e:dO x (y::r)=dO y r:=by show dO (if y>x then y else x) r=_;rw[if_pos q]
  rw[e];exact eW _ h;rw[if_neg q]at h;have e:dO x (y::r)=dO x r:=by show dO (if y>x then y else x) r=_;rw[if_neg q]
  rw[e];rcases fV.mp h with h|h
  rw[h];exact eX;exact eW _ (eW _ h)
theorem UJ{K:aK}:fG K (λxs H Q=>(∃i j,xs=[.int i,.int j]/\Q (.int (if j>i then j else i)) H)\/∃(p:ah) (ns:List Int),xs=[.ref p]/\cZ K H p (ns.map .int)/\0<ns.length/\∀M,M∈ns->(∀a∈ns,a<=M)->Q (.int M) H) ni:=by
 intro m h H vs xs w h' Q r q e k;unfold ni at e;split at e<;>try cases e
 obtain⟨v,u,rfl,q1,q2⟩:=kG q;cases q1;cases q2;exact .inl ⟨_,_,rfl,aL.here k r (.int _)⟩;rename_i i;split at e<;>try cases e
 rename_i ws g;split at e<;>try cases e
 rename_i x rs z;obtain⟨v,rfl,q1⟩:=fH q;cases q1;obtain⟨us,p1,p2⟩:=r.lst g;refine .inr ⟨_,x::rs,rfl,?_,Nat.succ_pos _,λM h1 h2=>?_⟩;rw[<-MD p2 z];exact .inl (.inl p1);have l1:=ME rs x;have hM:M=dO x rs:=by
  have a1:M<=dO x rs:=by rcases fV.mp h1 with rfl|h1;exact l1.1;exact l1.2 M h1
  have a2:=h2 _ (MF rs x);lia
 rw[hM];exact aL.here k r (.int _)
theorem UK{K:aK}:fG K (λxs H Q=>∃i j,xs=[.int i,.int j]/\Q (.int (if j<i then j else i)) H) rG:=by
 intro m h H vs xs w h' Q r q e k;unfold rG at e;split at e<;>try cases e
 obtain⟨v,u,rfl,q1,q2⟩:=kG q;cases q1;cases q2;exact⟨_,_,rfl,aL.here k r (.int _)⟩
theorem MG{K:aK}{m:Nat->ah}{n:Nat}{H:Hp}:∀{vs:List V} {ws:List W} {bs:List Bool},aF K m n H vs ws->aT tW ws=aB bs->vs=bs.map .bl
 |_,_,bs,.nil,e=>by cases e;rfl
 |_,_,bs,.cons (w:=w) (ws:=ws) q r,e=>by
  unfold aT at e;cases z:tW w with
  |none=>rw[z]at e;cases e
  |some b=>
   rw[z]at e;cases z2:aT tW ws with
   |none=>rw[z2]at e;cases e
   |some cs=>
    rw[z2]at e;cases e;unfold tW at z;split at z<;>cases z;cases q;rw[MG r z2];rfl
theorem UL{K:aK}:fG K (λxs H Q=>∃(p:ah) (bs:List Bool),xs=[.ref p]/\cZ K H p (bs.map .bl)/\Q (.bl (bs.all id)) H) nj:=by
 intro m h H vs xs w h' Q r q e k;unfold nj at e;split at e<;>try cases e
 rename_i i;split at e<;>try cases e
 rename_i ws g;obtain⟨v,rfl,q1⟩:=fH q;obtain⟨e,rfl⟩:=of_ok e;cases z:aT tW ws with
 |none=>rw[z]at e;cases e
 |some bs=>
  rw[z]at e;cases e;cases q1;obtain⟨us,p1,p2⟩:=r.lst g;refine⟨_,bs,rfl,?_,aL.here k r (.bl _)⟩;rw[<-MG p2 z];exact .inl (.inl p1)
noncomputable def rK:Ty->String|.int=>"int" |.bool=>"bool" |.tuple=>"tuple" |.list=>"list" |.str=>"str" |.dict=>"dict"
noncomputable def A7(K:aK)(n:String):List V->Hp->VK->Prop:=λxs H Q=>∃x b,xs=[x,.ty n]/\((∃t,f7 K H x t/\PySem.W.kitOne K t (.type n)=aB b)\/(∃a vs,x=.ref a/\cH K H a vs/\PySem.W.kitOne K (.type "tuple") (.type n)=aB b)\/∃a kvs,x=.ref a/\Rd H a (.dK kvs)/\PySem.W.kitOne K (.type "dict") (.type n)=aB b)/\Q (.bl b) H
theorem UM(n:String):cu X (.builtin "isinstance") (A7 X.K n):=by
 intro pins s σ H xs us Q I r h;obtain⟨x,b,rfl,hi,q⟩:=h;obtain⟨u,u2,rfl,rx,rc⟩:=vals2 r;obtain rfl:u2=Value.type n:=rc;rcases hi with⟨t,ty,e⟩|⟨a,vs,rfl,sq,e⟩|⟨a,kvs,rfl,rd,e⟩
 exact Q8 I rx ty e λtk=>⟨.bl b,H,I.tok _,rfl,q⟩
 obtain rfl:u=Value.ref a:=rx;obtain⟨its,_,p,_⟩:=I.tuple sq;obtain⟨o,h1,h2,_⟩:=p;exact mR PySem.W.kitx_tuple I.jt ⟨o,h1,h2⟩ e (λz=>nomatch z) λtk=>⟨.bl b,H,I.tok _,rfl,q⟩
 obtain rfl:u=Value.ref a:=rx;obtain⟨_,_,_,_,o,_,_,h1,h2,_⟩:=iM I.hok rd;exact mR PySem.W.kitx_dict I.jt ⟨o,h1,h2.1⟩ e (λz=>nomatch z) λtk=>⟨.bl b,H,I.tok _,rfl,q⟩
theorem UN{K:aK}(t:Ty){m:Nat->ah}{h:VH}{H:Hp}{v:V}{x:W}{b:Bool}(r:Rel K m h H)(q:aJ K m h.n H v x)(e:dN t h x=aB b) :
 (∃t',f7 K H v t'/\PySem.W.kitOne K t' (.type (rK t))=aB b)\/(∃a vs,v=.ref a/\cH K H a vs/\PySem.W.kitOne K (.type "tuple") (.type (rK t))=aB b)\/∃a kvs,v=.ref a/\Rd H a (.dK kvs)/\PySem.W.kitOne K (.type "dict") (.type (rK t))=aB b:=by
 cases q with
 |aQ=>cases e;refine .inl ⟨_,.aQ,?_⟩;cases t<;>rfl
 |bl x=>cases e;refine .inl ⟨_,.bl x,?_⟩;cases t<;>rfl
 |int x=>cases e;refine .inl ⟨_,.int x,?_⟩;cases t<;>rfl
 |str x=>cases e;refine .inl ⟨_,.str x,?_⟩;cases t<;>rfl
 |tup sq rs=>cases e;refine .inr (.inl ⟨_,_,rfl,sq,?_⟩);cases t<;>rfl
 |fz _ _=>cases e
 | @ref i hi=>
  simp only[dN]at e;cases g:h.get i with
  |none=>rw[g]at e;cases e
  |some o=>
   rw[g]at e;cases o with
   |lst ws=>
    cases e;obtain⟨vs,h1,h2⟩:=r.lst g;refine .inl ⟨_,.lst h1,?_⟩;cases t<;>rfl
   |dk ws=>
    cases e;obtain⟨vs,h1,h2⟩:=r.dk g;refine .inr (.inr ⟨_,_,rfl,h1,?_⟩);cases t<;>rfl
   |dm _=>cases e
   |dt _ _=>cases e
theorem UO(t:Ty){T:Str}{p2:Pos}(ha:SE X e fa)(hs:gQ e)(hg:Gl X "isinstance")(hm:X.mg "isinstance" = aC)(UP:Gl X T)(UQ:X.mg T=aC)(UR:bootBuiltins T=aB (.type (rK t)))(hn:T≠"__name__")(hd:(T==("__debug__" : Str))=false) :
 SE X (.Call (.Name "isinstance" p) [e,.Name T p2] [] pos) (λρ h=>(fa ρ h).bind λx h=>.of ((dN t h x).map .bl) h):=by
 have hT:PE X (.Name T p2) (tC (.ty (rK t))):=PZ UP UQ UR rfl hn hd;refine(Lh (UM (rK t)) hg hm PyProof.Rows.boot_isinstance (xX ha (xX hT zO) (fN hs)) (by decide) (by decide) (fN hs) rfl).imp λσ H Q q=>?_;refine Ml (g:=λx h=>.of ((dN t h x).map .bl) h) (G:=λv H1 Q=>A7 X.K (rK t) [v,.ty (rK t)] H1 Q) (λm h H v x w h' Q r q e k=>?_) q;obtain⟨e,rfl⟩:=of_ok e;cases z:dN t h' x with
 |none=>rw[z]at e;cases e
 |some b=>
  rw[z]at e;cases e;exact⟨v,b,rfl,UN t r q z,aL.here k r (.bl b)⟩
noncomputable def A8:ao->Bool|.Name .. |.Subscript ..=>true|_=>false
theorem HV{o:ao}{m:Str}{env:Env}(h:A8 o):attributeBase o m env (eval o env)=eval o env:=by cases o<;>first|rfl|cases h
noncomputable abbrev HW(m:Mt)(fo fa:FE):FE:=λρ h=>(fo ρ h).bind λx h=>if kE m h x then(fa ρ h).bind λy h=>match y with|.tup ys=>jV m x ys h|_=>.no else .no
theorem US{apos:Pos}(ho:SE X o fo)(he:SE X e fa)(hb:A8 o)(hs:gQ e)(hl:(apos.endLine==pos.line)) :
 SE X (.Call (.Attribute o "append" apos) [e] [] pos) (HW .append fo (iQ fa lD)):=by
 refine(tO (X:=X) PySem.F.plainAttrs_list PySem.F.slot_list_append PySem.F.type_list_append GI ho (xX he zO (fN hs)) (HV hb) ?_ hl (fN hs) rfl).imp λσ H Q z9=>z9.el λρ h m w h' f r e k=>?_;rw[fN hs];rfl;refine bK e λx h1 e1 e2=>?_;split at e2;rename_i hk;refine bK e2 λy h2 e3 e4=>?_;refine bK e3 λz h3 e5 e6=>?_;cases e6;refine(.mk f r e1 λv H1 m1 s1 r1 q1=>?_);cases x<;>try cases hk
 rename_i i;simp only[kE]at hk;cases g:h1.get i with
 |none=>rw[g]at hk;cases hk
 |some ob=>
  rw[g]at hk;cases ob with
  |dk _=>cases hk
  |dm _=>cases hk
  |dt _ _=>cases hk
  |lst HE=>
   cases q1;obtain⟨tV,p1,_⟩:=r1.lst g;refine⟨.inl ⟨rfl,tV,cZ.of p1⟩,ρ,h1,m1,z,h2,f.stp s1,r1,e5,λv2 H2 m2 s2 r2 q2=>?_⟩;simp only[jV]at e4;cases g2:h2.get i with
   |none=>rw[g2]at e4;cases e4
   |some ob=>
    rw[g2]at e4;cases ob with
    |dk _=>cases e4
    |dm _=>cases e4
    |dt _ _=>cases e4
    |lst ws=>
     simp only at e4;split at e4;rename_i hz;cases e4;obtain⟨vs,p2,p3⟩:=r2.lst g2;have hmi:m1 i=m2 i:=(s2.same i (cg g)).symm;refine⟨m1 i,vs,v2,rfl,rfl,by rw[hmi];exact p2,by rw[p3.length];exact gO.mp hz,?_⟩;obtain⟨st,r'⟩:=r2.write (i:=i) (o:=.lst (ws++[z])) (u:=.lst (vs++[v2])) (cg g2) p2 (λ_ z=>nomatch z) (λ_ _ z=>nomatch z) λst=>⟨vs++[v2],eS,(p3.stp st).append (.cons (q2.stp st) .nil)⟩
     rw[hmi];exact k .aQ _ m2 ((s1.trans s2).trans st) r' .aQ;cases e4
 cases e2
theorem UT{apos:Pos}(hu:X.A.units+1<cLine)(ho:SE X o fo)(ha:SE X a fa)(GJ:SE X b fb)(hb:A8 o)(hs:gQ a)(hs2:gQ b)(hl:(apos.endLine==pos.line)) :
 SE X (.Call (.Attribute o "get" apos) [a,b] [] pos) (HW .get fo (iQ fa (iQ fb lD))):=by
 have tr:backTo pos (starEach [a,b] X.env)=[(false,eval a X.env),(false,eval b X.env)]:=by rw[fN hs,fN hs2];rfl
 refine(Sj hu ho ha GJ ⟨HV hb,by rw[tr];rfl,hl,tr⟩).imp λσ H Q z9=>z9.el λρ h m w h' f r e k=>?_;refine bK e λx h1 e1 e2=>?_;split at e2;rename_i hk;refine bK e2 λy h2 e3 e4=>?_;refine bK e3 λz h3 e5 e6=>?_;refine bK e6 λy2 h4 e7 e8=>?_;refine bK e7 λz2 h5 e9 vS=>?_;cases vS;cases e8;refine(.mk f r e1 λv H1 m1 s1 r1 q1=>?_);cases x<;>try cases hk
 rename_i i;simp only[kE]at hk;cases g:h1.get i with
 |none=>rw[g]at hk;cases hk
 |some ob=>
  rw[g]at hk;cases ob with
  |lst _=>cases hk
  |dt _ _=>cases hk
  |dk HE=>
   cases q1;obtain⟨tV,p1,_⟩:=r1.dk g;refine⟨m1 i,rfl,.inl ⟨tV,p1⟩,ρ,h1,m1,z,h3,f.stp s1,r1,e5,λv2 H2 m2 s2 r2 q2=>(.mk ((f.stp s1).stp s2) r2 e9 λv3 H3 m3 s3 r3 q3=>?_)⟩;simp only[jV]at e4;split at e4;rename_i kvs kk g2 hkk;cases e4;obtain⟨vs,p2,p3⟩:=r3.dk g2;have hmi:m1 i=m3 i:=((s3.same i (dI (cg g) s2.le)).trans (s2.same i (cg g))).symm;have hv:=yl (q2.stp s3) hkk;subst hv;refine⟨fm vs kk,by rw[hmi];exact .inl ⟨vs,kk,p2,rfl,rfl⟩,?_⟩;have oO:=(s1.trans s2).trans s3;rcases p3.look kk with⟨z1,z2⟩|⟨v',w',z1,z2,z3⟩
   rw[z1];rw[z2]at k;exact k _ H3 m3 oO r3 q3;rw[z1];rw[z2]at k;exact k _ H3 m3 oO r3 z3;rename_i kvs kk g2 hkk;cases e4;obtain⟨vs,p2,p3⟩:=r3.dm g2;have hmi:m1 i=m3 i:=((s3.same i (dI (cg g) s2.le)).trans (s2.same i (cg g))).symm;have hv:=yl (q2.stp s3) hkk;subst hv;refine⟨fm vs kk,by rw[hmi];exact .inl ⟨vs,kk,.inl p2,rfl,rfl⟩,?_⟩;have oO:=(s1.trans s2).trans s3;rcases p3.look kk with⟨z1,z2⟩|⟨v',w',z1,z2,z3⟩
   rw[z1];rw[z2]at k;exact k _ H3 m3 oO r3 q3;rw[z1];rw[z2]at k;exact k _ H3 m3 oO r3 z3;cases e4
  |dm HE=>
   cases q1;obtain⟨tV,p1,_⟩:=r1.dm g;refine⟨m1 i,rfl,.inl ⟨tV,.inl p1⟩,ρ,h1,m1,z,h3,f.stp s1,r1,e5,λv2 H2 m2 s2 r2 q2=>(.mk ((f.stp s1).stp s2) r2 e9 λv3 H3 m3 s3 r3 q3=>?_)⟩;simp only[jV]at e4;split at e4;rename_i kvs kk g2 hkk;cases e4;obtain⟨vs,p2,p3⟩:=r3.dk g2;have hmi:m1 i=m3 i:=((s3.same i (dI (cg g) s2.le)).trans (s2.same i (cg g))).symm;have hv:=yl (q2.stp s3) hkk;subst hv;refine⟨fm vs kk,by rw[hmi];exact .inl ⟨vs,kk,p2,rfl,rfl⟩,?_⟩;have oO:=(s1.trans s2).trans s3;rcases p3.look kk with⟨z1,z2⟩|⟨v',w',z1,z2,z3⟩
   rw[z1];rw[z2]at k;exact k _ H3 m3 oO r3 q3;rw[z1];rw[z2]at k;exact k _ H3 m3 oO r3 z3;rename_i kvs kk g2 hkk;cases e4;obtain⟨vs,p2,p3⟩:=r3.dm g2;have hmi:m1 i=m3 i:=((s3.same i (dI (cg g) s2.le)).trans (s2.same i (cg g))).symm;have hv:=yl (q2.stp s3) hkk;subst hv;refine⟨fm vs kk,by rw[hmi];exact .inl ⟨vs,kk,.inl p2,rfl,rfl⟩,?_⟩;have oO:=(s1.trans s2).trans s3;rcases p3.look kk with⟨z1,z2⟩|⟨v',w',z1,z2,z3⟩
   rw[z1];rw[z2]at k;exact k _ H3 m3 oO r3 q3;rw[z1];rw[z2]at k;exact k _ H3 m3 oO r3 z3;cases e4
 cases e2
end
section
variable{K:aK}{m m' m1:Nat->ah}{n n' n1:Nat}{h h':VH}{H H' H1:Hp}
mutual
theorem aJ.mono(hn:n<=n')(hm:∀i,i<n->m' i=m i)(kt:∀b vs,H b=aB (.tup vs)->H' b=aB (.tup vs))(kf:∀b o u,H b=aB (.bF o u)->H' b=aB (.bF o u)):∀{v:V} {w:W},aJ K m n H v w->aJ K m' n' H' v w
 |_,_,.aQ=>.aQ
 |_,_,.bl b=>.bl b
 |_,_,.int b=>.int b
 |_,_,.str b=>.str b
 |_,_,.tup q r=>.tup (by
  rcases q with(q|⟨o,q⟩)|q;exact .inl (.inl (kt _ _ q));exact .inl (.inr ⟨o,kf _ _ _ q⟩);exact .inr q) (aF.mono hn hm kt kf r)
 |_,_,.fz q r=>.fz (by
  rcases q with⟨o,q⟩|q;exact .inl ⟨o,kf _ _ _ q⟩;exact .inr q) (aF.mono hn hm kt kf r)
 |_,_,.ref (i:=i) q=>by rw[<-hm i q];exact .ref (dI q hn)
theorem aF.mono(hn:n<=n')(hm:∀i,i<n->m' i=m i)(kt:∀b vs,H b=aB (.tup vs)->H' b=aB (.tup vs))(kf:∀b o u,H b=aB (.bF o u)->H' b=aB (.bF o u)):∀{vs:List V} {ws:List W},aF K m n H vs ws->aF K m' n' H' vs ws|_,_,.nil=>.nil|_,_,.cons q r=>.cons (aJ.mono hn hm kt kf q) (aF.mono hn hm kt kf r)
end
theorem Rel.side(r:Rel K m h H){D:ah}{u u0:HO}(hu:H D=aB u0)(ht:∀t,u0≠.tup t)(hf:∀o t,u0≠.bF o t)(ho:∀i,i<h.n->m i≠D)(s:bZ m1 n1 H1 m h.n H)(h0:H1 D=aC) :
 bZ m1 n1 H1 m h.n (upd H D u)/\Rel K m h (upd H D u)/\∀{v:V}{w:W},aJ K m h.n H v w->aJ K m h.n (upd H D u) v w:=by
 have kt:∀b vs,H b=aB (.tup vs)->upd H D u b=aB (.tup vs):=λb vs q=>by rw[b9 (cJ q hu λz=>ht vs z.symm)];exact q
 have kf:∀b o t,H b=aB (.bF o t)->upd H D u b=aB (.bF o t):=λb o t q=>by rw[b9 (cJ q hu λz=>hf o t z.symm)];exact q
 have mv:∀{v:V}{w:W},aJ K m h.n H v w->aJ K m h.n (upd H D u) v w:=λq=>q.mono (bg _) (λ_ _=>rfl) kt kf;refine⟨⟨s.le,s.same,s.new,s.apart,λb vs q=>kt b vs (s.tup b vs q),λb o t q=>kf b o t (s.bF b o t q),λb o nb q=>by rw[b9 (iD q h0)];exact s.keep b o nb q⟩,⟨λi hi=>?_,r.inj,r.len⟩,mv⟩;obtain⟨o,h1,h2⟩:=r.obj i hi;have eq:upd H D u (m i)=H (m i):=b9 (ho i hi);refine⟨o,h1,?_⟩;cases o with|lst ws=>obtain⟨vs,q1,q2⟩:=h2;exact⟨vs,eq.trans q1,q2.map mv⟩|dk ws=>obtain⟨vs,q1,q2⟩:=h2;exact⟨vs,q1.imp (λz=>eq.trans z) λ⟨o,z⟩=>⟨o,eq.trans z⟩,q2.map mv⟩|dm ws=>obtain⟨vs,q1,q2⟩:=h2;exact⟨vs,eq.trans q1,q2.map mv⟩|dt ks ws=>obtain⟨xs,q1,q0,q2,q3⟩:=h2;exact⟨xs,q1.imp (λz=>eq.trans z) λ⟨o,z⟩=>⟨o,eq.trans z⟩,q0,q2.map mv,q3.map mv⟩
theorem Rel.out(r:Rel K m h H){p:ah}(hp:H p=aC):∀i,i<h.n->m i≠p:=λi hi z=>by
 obtain⟨o',_,h2⟩:=r.obj i hi;obtain⟨u',h3⟩:=h2.some;rw[z,hp]at h3;cases h3
theorem bZ.out(s:bZ m n H m' n' H'){p:ah}{u:HO}(hp:∀i,i<n->m i≠p)(hu:H p=aB u):∀i,i<n'->m' i≠p:=λi hi z=>by
 by_cases hl:i<n;exact hp i hl ((s.same i hl).symm.trans z);have:=s.new i (jF.mp hl) hi;rw[z,hu]at this;cases this
end
inductive ir(K:aK)(m:Nat->ah)(n:Nat)(H:Hp):List (V×V)->List W->Prop
 |nil:ir K m n H [] []
 |cons {k v:V} {a b:W} {ps:List (V×V)} {ws:List W}:aJ K m n H k a->aJ K m n H v b->ir K m n H ps ws->ir K m n H ((k,v)::ps) (a::b::ws)
noncomputable def oQ(K:aK)(f:FE)(σ:L2.St)(H:Hp)(Q:List (V×V)->Hp->Prop):Prop:=∃ρ h m ws h',Fr K m h.n H σ ρ/\Rel K m h H/\f ρ h=.ok (.tup ws) h'/\
 ∀ps H' m',bZ m h.n H m' h'.n H'->Rel K m' h' H'->ir K m' h'.n H' ps ws->Q ps H'
theorem oQ.el{K:aK}{σ:L2.St}{H:Hp}{P:Prop}{fa:FE}{Q:List (V×V)->Hp->Prop}(q:oQ K fa σ H Q)(k:∀ρ h m ws h',Fr K m h.n H σ ρ->Rel K m h H->fa ρ h=.ok (.tup ws) h'->(∀ps H' m',bZ m h.n H m' h'.n H'->Rel K m' h' H'->ir K m' h'.n H' ps ws->Q ps H')->P):P:=by obtain⟨ρ,h,m,w,h',f,r,e,k'⟩:=q;exact k ρ h m w h' f r e k'
theorem oQ.mk{K:aK}{σ:L2.St}{H:Hp}{m:Nat->ah}{ρ:En}{h h':VH}{ws:List W}{fa:FE}{Q:List (V×V)->Hp->Prop}(f:Fr K m h.n H σ ρ)(r:Rel K m h H)(e:fa ρ h=.ok (.tup ws) h')(k:∀ps H' m',bZ m h.n H m' h'.n H'->Rel K m' h' H'->ir K m' h'.n H' ps ws->Q ps H'):oQ K fa σ H Q:=⟨ρ,h,m,ws,h',f,r,e,k⟩
noncomputable def A9(X:Cx)(pos:Pos)(keys:List (Option ao))(values:List ao)(f:FE):Prop:=∃l5,Ai X pos keys values l5/\∀σ H Q,oQ X.K f σ H Q->Eb l5 σ H Q
section
variable{X:Cx}{a b c e o:ao}{es:List ao}{fa fb fc fo fr:FE}{pos p:Pos}{x:Str}
theorem UU:A9 X pos [] [] lD:=⟨[],Se,λσ H Q z9=>z9.el λρ h m ws h' f r e k=>by cases e;exact k [] H m .refl r .nil⟩
theorem UW{ks:List (Option ao)}{vs:List ao}(ha:SE X a fa)(hb:SE X b fb)(hr:A9 X pos ks vs fr):A9 X pos (aB a::ks) (b::vs) (iQ fa (iQ fb fr)):=by
 obtain⟨l5,h1,h2⟩:=hr;refine⟨_,Sf ha hb h1,λσ H Q z9=>z9.el λρ h m ws h' f r e k=>?_⟩;refine bK e λx h3 e1 e2=>?_;refine bK e2 λy h4 e3 e4=>?_;refine bK e3 λx2 h5 e5 e6=>?_;refine bK e6 λy2 h6 e7 e8=>?_;cases y2<;>try cases e8
 cases e4;rename_i ys;exact(.mk f r e1 λv H1 m1 s1 r1 q1=>(.mk (f.stp s1) r1 e5 λv2 H2 m2 s2 r2 q2=>h2 σ H2 _ (.mk ((f.stp s1).stp s2) r2 e7 λps H3 m3 s3 r3 q3=>
  k _ H3 m3 ((s1.trans s2).trans s3) r3 (.cons ((q1.stp s2).stp s3) (q2.stp s3) q3))))
theorem MH{K:aK}{m:Nat->ah}{n:Nat}{H:Hp}:∀{ps:List (V×V)} {ws:List W} {kws:List (Key×W)},ir K m n H ps ws->tY ws=aB kws->∃kvs:List (Key×V),ps=kvs.map (λkv=>(kV kv.1,kv.2))/\aN K m n H kvs kws
 |_,_,_,.nil,e=>by cases e;exact⟨[],rfl,.nil⟩
 |_,_,_,.cons (a:=a) (v:=v) q1 q2 r,e=>by
  simp only[tY]at e;split at e;rename_i k hk;split at e;rename_i kvs hp;cases e;obtain⟨kv,rfl,r'⟩:=MH r hp;refine⟨(k,v)::kv,?_,.cons q2 r'⟩;rw[dH,yl q1 hk];cases e;cases e
noncomputable abbrev HX(f:FE):FE:=λρ h=>(f ρ h).bind λy h=>match y with
 |.tup ys=>(match tY ys with
  |some kvs=>if Nat.ble kvs.length 15 then .ok (.ref h.n) (h.new (AN kvs))else .no
  |none=>nt ys h)
 |_=>.no
theorem UX{K:aK}{m:Nat->ah}{n:Nat}{H:Hp}{ps:List (V×V)}{a b:W}(q:ir K m n H ps [a,b]):∃k v,ps=[(k,v)]/\aJ K m n H k a/\aJ K m n H v b:=by cases q with|cons q1 q2 r=>cases r;exact⟨_,_,rfl,q1,q2⟩
theorem UY(hu:X.A.units+2<cLine){keys:List (Option ao)}{values:List ao}(hp:A9 X pos keys values fa)(hall:keys.all (·.isSome))(hl:keys.length=values.length)(h0:keys≠[])(HC:keys.length<=15):SE X (.Dict keys values pos) (HX fa):=by
 obtain⟨l5,h1,h2⟩:=hp;refine(T5 hu h1 hall hl h0 HC).imp λσ H Q z9 p hp=>z9.el λρ h m w h' f r e k=>?_;refine bK e λy h3 e1 e2=>?_;cases y<;>try cases e2
 rename_i ys;obtain⟨i9,r0⟩:=r.more (u:=.dK []) hp;refine h2 σ _ _ (.mk (f.stp i9) r0 e1 λps H2 m2 s2 r2 q2=>?_);have hout:=s2.out (r.out hp) eS;have hD:H2 p=aB (.dK []):=s2.keep p _ (r.out hp) eS;refine⟨hD,?_⟩;have e2:(match tY ys with|some kvs=>if Nat.ble kvs.length 15 then Res.ok (W.ref h3.n) (h3.new (AN kvs))else .no|none=>nt ys h3)=.ok w h':=e2
 cases hk:tY ys with
 |none=>
  rw[hk]at e2;have e5:nt ys h3=.ok w h':=e2;clear e2
  try(rename_i UZ;clear UZ)
  unfold nt at e5;split at e5;rename_i kw vw;split at e5;rename_i dk hd;cases e5;obtain⟨kv,vv,rfl,q3,q4⟩:=UX q2;obtain⟨b,rfl,kk⟩:=AX q3 hd;refine .inr ⟨b,dk,vv,rfl,kk,?_⟩;obtain⟨st,r'⟩:=r2.adopt (o:=.dt [kw] [vw]) (u:=nU [(dk,b,vv)] p) hout hD (λ_ z=>nomatch z) (λ_ _ z=>nomatch z) (i9.trans s2) hp λ_ mv=>⟨[(dk,b,vv)],.inl eS,by simp[aT,hd],.cons (mv q3) .nil,.cons (mv q4) .nil⟩
  refine k _ _ _ st r' ?_;have:aJ X.K (λi=>if i=h3.n then p else m2 i) (h3.n+1) (upd H2 p (nU [(dk,b,vv)] p)) (.ref ((λi=>if i=h3.n then p else m2 i) h3.n)) (.ref h3.n):=.ref (fY _);simp only[cC]at this;exact this;cases e5;cases e5
 |some kws=>
  rw[hk]at e2;have e2:(if Nat.ble kws.length 15 then Res.ok (W.ref h3.n) (h3.new (AN kws))else .no)=.ok w h':=e2;by_cases hz:Nat.ble kws.length 15=true;rw[if_pos hz]at e2;cases e2;obtain⟨kvs,e3,q3⟩:=MH q2 hk;refine .inl ⟨kvs,e3,by rw[q3.length];exact k9 hz,?_⟩;obtain⟨st,r'⟩:=r2.adopt (o:=AN kws) (u:=.dK (p5 [] kvs)) hout hD (λ_ z=>nomatch z) (λ_ _ z=>nomatch z) (i9.trans s2) hp λ_ mv=>by
   cases kws with|nil=>cases q3;exact⟨[],.inr ⟨rfl,eS⟩,rfl,.nil,.nil⟩|cons k1 kws=>exact⟨_,.inl eS,(q3.merge .nil).map mv⟩
  refine k _ _ _ st r' ?_;have:aJ X.K (λi=>if i=h3.n then p else m2 i) (h3.n+1) (upd H2 p (.dK (p5 [] kvs))) (.ref ((λi=>if i=h3.n then p else m2 i) h3.n)) (.ref h3.n):=.ref (fY _);simp only[cC]at this;exact this;rw[if_neg hz]at e2;cases e2
noncomputable def oR(K:aK)(np:Nat)(g:List W->VH->Res W):Sp:=λvs H Q _=>vs.length=np/\∃h m ws w h',Rel K m h H/\aF K m h.n H vs ws/\g ws h=.ok w h'/\aL K m h.n H w h' Q
theorem U0{k:Nat}{f:ah}{fd:au}{ps:List Str}{g:List W->VH->Res W}(F:fK X.prog X.w X.K X.mg X.base lY k f fd ps (oR X.K ps.length g))(hr:dF k X.A)(hg:Gl X x)(hm:X.mg x=aB (.ref f))(hk:PySem.W.keepIn X.K (.ref f)=true)
 (hb:Binds X.K fd ps []) (ha:SA X (e::es) fa) (hs:(e::es).all gQ) (hdb:(x==("__debug__" : Str))=false) (hn:∀ws h w h',g ws h=.ok w h'->ws.length=ps.length):SE X (.Call (.Name x p) (e::es) [] pos) (jL fa g):=by
 rw[sY,bY]at hs;refine(K8 F hr hg hm hk hb .nil oF ha hdb (fN hs.1) (A5 hs.2)).imp λσ H Q q=>yg (G:=λvs H1 Q=>oR X.K ps.length g (vs++[]) H1 Q E0) (λm h H vs xs w h' Q r q e k=>?_) q;rw[nP];exact⟨by rw[q.length];exact hn _ _ _ _ e,h,m,xs,w,h',r,q,e,k⟩
theorem U1{k:Nat}{f:ah}{fd:au}{ps:List Str}{g:List W->VH->Res W}(F:fK X.prog X.w X.K X.mg X.base lY k f fd ps (oR X.K ps.length g))(hr:dF k X.A)(hg:Gl X x)(hm:X.mg x=aB (.ref f))(hk:PySem.W.keepIn X.K (.ref f)=true)
 (hb:Binds X.K fd ps []) (hdb:(x==("__debug__" : Str))=false) (hn:∀ws h w h',g ws h=.ok w h'->ws.length=ps.length):SE X (.Call (.Name x p) [] [] pos) (jL lD g):=by
 refine(Rb F hr hg hm hk hb .nil oF hdb).imp λσ H Q z9=>z9.el λρ h m w h' f r e k=>?_;exact⟨hn _ _ _ _ e,h,m,[],w,h',r,.nil,e,k⟩
theorem U3{k:Nat}{f:ah}{fd:au}{ps:List Str}{g:List W->VH->Res W}(F:fK X.prog X.w X.K X.mg X.base lY k f fd ps (oR X.K ps.length g))(hr:dF k X.A)(hg:Gl X x)(hm:X.mg x=aB (.ref f))(hk:PySem.W.keepIn X.K (.ref f)=true)
 (hb:Binds X.K fd ps [.none]) (ha:SA X (e::es) fa) (hs:(e::es).all gQ) (hdb:(x==("__debug__" : Str))=false) (hn:∀ws h w h',g ws h=.ok w h'->ws.length=ps.length):SE X (.Call (.Name x p) (e::es) [] pos) (jL fa λws h=>g (ws++[.aQ]) h):=by
 rw[sY,bY]at hs;refine(K8 F hr hg hm hk hb (oA:=[V.aQ]) (.cons rfl .nil) oF ha hdb (fN hs.1) (A5 hs.2)).imp λσ H Q q=>yg (G:=λvs H1 Q=>oR X.K ps.length g (vs++[V.aQ]) H1 Q E0) (λm h H vs xs w h' Q r q e k=>?_) q;have q':aF X.K m h.n H (vs++[V.aQ]) (xs++[W.aQ]):=q.append (.cons .aQ .nil);exact⟨by rw[q'.length];exact hn _ _ _ _ e,h,m,xs++[W.aQ],w,h',r,q',e,k⟩
noncomputable def iR(K:aK)(nx:Nat->VH->Option (Option W))(J:It)(P:(Nat->ah)->Nat->Hp->Prop):Prop:=
 (∀m n H m' n' H',n<=n'->(∀i,i<n->m' i=m i)->(∀b vs,H b=aB (.tup vs)->H' b=aB (.tup vs))->(∀b o u,H b=aB (.bF o u)->H' b=aB (.bF o u))->P m n H->P m' n' H')/\
 ∀m h H,Rel K m h H->P m h.n H->∀i,(∀w,nx i h=aB (aB w)->J.go i H/\∀y H3,J.tK i H y H3->bZ m h.n H m h.n H3/\Rel K m h H3/\aJ K m h.n H3 y w)/\(nx i h=aB aC->J.stop i H)
noncomputable def ck(K:aK)(kd:Kd)(f:FE):TI:=λσ H R=>∃ρ h m x h',Fr K m h.n H σ ρ/\Rel K m h H/\f ρ h=.ok x h'/\(∃o,aZ kd x 0 h'=aB o)/\
 ∀J P H' m',bZ m h.n H m' h'.n H'->Rel K m' h' H'->iR K (aZ kd x) J P->P m' h'.n H'->R J H'
theorem ck.el{K:aK}{σ:L2.St}{H:Hp}{P:Prop}{kd:Kd}{fa:FE}{R}(q:ck K kd fa σ H R)(k:∀ρ h m x h',Fr K m h.n H σ ρ->Rel K m h H->fa ρ h=.ok x h'->∀o,aZ kd x 0 h'=aB o->(∀J P H' m',bZ m h.n H m' h'.n H'->Rel K m' h' H'->iR K (aZ kd x) J P->P m' h'.n H'->R J H')->P):P:=by obtain⟨ρ,h,m,w,h',f,r,e,⟨o,eo⟩,k'⟩:=q;exact k ρ h m w h' f r e o eo k'
theorem ck.mk{K:aK}{σ:L2.St}{H:Hp}{m:Nat->ah}{ρ:En}{h h':VH}{x:W}{kd:Kd}{fa:FE}{R}(f:Fr K m h.n H σ ρ)(r:Rel K m h H)(e:fa ρ h=.ok x h')(eo:∃o,aZ kd x 0 h'=aB o)(k:∀J P H' m',bZ m h.n H m' h'.n H'->Rel K m' h' H'->iR K (aZ kd x) J P->P m' h'.n H'->R J H'):ck K kd fa σ H R:=⟨ρ,h,m,x,h',f,r,e,eo,k⟩
theorem Ew{K:aK}{H H':Hp}{a:ah}{vs:List V}(kt:∀b vs,H b=aB (.tup vs)->H' b=aB (.tup vs))(kf:∀b o u,H b=aB (.bF o u)->H' b=aB (.bF o u))(q:cH K H a vs):cH K H' a vs:=by rcases q with(q|⟨o,q⟩)|q;exact .inl (.inl (kt _ _ q));exact .inl (.inr ⟨o,kf _ _ _ q⟩);exact .inr q
theorem MI{K:aK}{H H':Hp}{a:ah}{vs:List V}(kf:∀b o u,H b=aB (.bF o u)->H' b=aB (.bF o u))(q:Fz K H a vs):Fz K H' a vs:=by rcases q with⟨o,q⟩|q;exact .inl ⟨o,kf _ _ _ q⟩;exact .inr q
theorem ym{ws:List W}{h:VH}{x:W}{i:Nat}{o:Option W}(e:aV h x=aB ws)(q:aZ .seq x i h=aB o):ws[i]?=o:=by simp only[aZ,e]at q;cases q;rfl
theorem U4{K:aK}{a:ah}{vs:List V}{ws:List W}:iR K (aZ .seq (.tup ws)) (Gp K a) (λm n H=>cH K H a vs/\aF K m n H vs ws):=by refine⟨λm n H m' n' H' hn hm kt kf ⟨q1,q2⟩=>⟨Ew kt kf q1,q2.mono hn hm kt kf⟩,λm h H r ⟨q1,q2⟩ i=>⟨λw e=>?_,λe=>?_⟩⟩;have e:=ym (ws:=ws) rfl e;obtain⟨v,h1,h2⟩:=q2.get e;refine⟨⟨vs,v,q1,h1⟩,λy H3 ⟨e3,y3⟩=>?_⟩;subst e3;have:=y3 vs q1;rw[h1]at this;cases this;exact⟨.refl,r,h2⟩;have e:=ym (ws:=ws) rfl e;exact⟨vs,q1,by rw[q2.length];exact nM.mp e⟩
theorem Ba{K:aK}{a:ah}{vs:List V}{ws:List W}:iR K (aZ .seq (.fz ws)) (DL K a) (λm n H=>Fz K H a vs/\aF K m n H vs ws):=by refine⟨λm n H m' n' H' hn hm kt kf ⟨q1,q2⟩=>⟨MI kf q1,q2.mono hn hm kt kf⟩,λm h H r ⟨q1,q2⟩ i=>⟨λw e=>?_,λe=>?_⟩⟩;have e:=ym (ws:=ws) rfl e;obtain⟨v,h1,h2⟩:=q2.get e;refine⟨⟨vs,v,q1.sq,h1⟩,λy H3 ⟨e3,y3⟩=>?_⟩;subst e3;have:=y3 vs q1.sq;rw[h1]at this;cases this;exact⟨.refl,r,h2⟩;have e:=ym (ws:=ws) rfl e;exact⟨vs,q1.sq,by rw[q2.length];exact nM.mp e⟩
theorem U5{K:aK}{a:ah}{l:Nat}:iR K (aZ .seq (.ref l)) (DL K a) (λm n H=>l<n/\a=m l):=by
 refine⟨λm n H m' n' H' hn hm kt kf ⟨q1,q2⟩=>⟨dI q1 hn,by rw[hm l q1];exact q2⟩,λm h H r ⟨q1,q2⟩ i=>?_⟩;subst q2;cases g:h.get l with
 |none=>exact⟨λw e=>by simp[aZ,aV,g]at e,λe=>by simp[aZ,aV,g]at e⟩
 |some o=>
  cases o with
  |dk _=>exact⟨λw e=>by simp[aZ,aV,g]at e,λe=>by simp[aZ,aV,g]at e⟩
  |dm _=>exact⟨λw e=>by simp[aZ,aV,g]at e,λe=>by simp[aZ,aV,g]at e⟩
  |dt _ _=>exact⟨λw e=>by simp[aZ,aV,g]at e,λe=>by simp[aZ,aV,g]at e⟩
  |lst ws=>
   have hs:aV h (.ref l)=aB ws:=by simp[aV,g]
   obtain⟨vs,p1,p2⟩:=r.lst g;refine⟨λw e=>?_,λe=>?_⟩;have e:=ym hs e;obtain⟨v,h1,h2⟩:=p2.get e;refine⟨⟨vs,v,cZ.of p1,h1⟩,λy H3 ⟨e3,y3⟩=>?_⟩;subst e3;have:=y3 vs (cZ.of p1);rw[h1]at this;cases this;exact⟨.refl,r,h2⟩;have e:=ym hs e;exact⟨vs,cZ.of p1,by rw[p2.length];exact nM.mp e⟩
theorem MJ{K:aK}{kd:Kd}{x:W}{lo:Int}{k:Nat}(hx:∀i h,aZ kd x i h=aB (if i<k then aB (.int (lo+i))else aC)):iR K (aZ kd x) (zy lo k) (λ_ _ _=>True):=by refine⟨λ_ _ _ _ _ _ _ _ _ _ _=>trivial,λm h H r _ i=>⟨λw e=>?_,λe=>?_⟩⟩;rw[hx]at e;split at e;rename_i hi;cases e;refine⟨hi,λy H3 ⟨e3,y3⟩=>?_⟩;subst e3 y3;exact⟨.refl,r,.int _⟩;cases e;rw[hx]at e;split at e;cases e;rename_i hi;exact jF.mp hi
theorem HY{tg:ao}(ha:SE X e fa):PI X tg e (ck X.K .seq fa):=λpins s σ H R I z9=>z9.el λρ h m x h' f r ee o en k=>by
 have hs:∃ws,aV h' x=aB ws:=by
  cases z:aV h' x with|none=>simp[aZ,z]at en|some ws=>exact⟨ws,rfl⟩
 obtain⟨ws,hs⟩:=hs;cases x<;>try cases hs
 exact QA ha pins s σ H R I (.mk f r ee λv H' m' s' r' q=>by
  cases q with|tup sq rs=>exact⟨_,rfl,⟨_,sq⟩,k _ _ H' m' s' r' U4 ⟨sq,rs⟩⟩)
 exact K0 ha pins s σ H R I (.mk f r ee λv H' m' s' r' q=>by
  cases q with|fz sq rs=>exact⟨_,rfl,⟨_,sq.sq⟩,k _ _ H' m' s' r' Ba ⟨sq,rs⟩⟩)
 rename_i l;exact K0 ha pins s σ H R I (.mk f r ee λv H' m' s' r' q=>by
  obtain⟨p,vs,e1,e2,e3⟩:=yj r' q hs;cases q with
  |ref hi=>
   cases g:h'.get l with
   |none=>simp[aV,g]at hs
   |some ob=>
    cases ob with
    |dk _=>simp[aV,g]at hs
    |dm _=>simp[aV,g]at hs
    |dt _ _=>simp[aV,g]at hs
    |lst AY=>
     obtain⟨vs',p1,_⟩:=r'.lst g;exact⟨_,rfl,⟨_,cZ.of p1⟩,k _ _ H' m' s' r' U5 ⟨hi,rfl⟩⟩)
theorem U6{tg:ao}(ha:SA X [e] fa)(hs:gQ e)(hg:Gl X "range")(hm:X.mg "range" = aC):PI X tg (.Call (.Name "range" p) [e] [] pos) (ck X.K .cD fa):=λpins s σ H R I z9=>z9.el λρ h m x h' f r ee o en k=>by
 simp only[aZ]at en;split at en;rename_i j;split at en;rename_i hf;refine QB hg hm ha (fN hs) pins s σ H R I (.mk f r ee λvs H' m' s' r' q=>?_);obtain⟨v,rfl,q1⟩:=fH q;cases q1;refine⟨_,rfl,(vQ hf).1,(vQ hf).2,k _ _ H' m' s' r' (MJ λi h=>?_) trivial⟩;simp only[aZ,hf,cC];split<;>split<;>first|rfl|(exfalso;simp at *;lia)
 cases en;cases en
theorem U7{tg:ao}(ha:SA X [a,b] fa)(hs:gQ a)(hs2:gQ b)(hg:Gl X "range")(hm:X.mg "range" = aC):PI X tg (.Call (.Name "range" p) [a,b] [] pos) (ck X.K .gK fa):=λpins s σ H R I z9=>z9.el λρ h m x h' f r ee o en k=>by
 simp only[aZ]at en;split at en;rename_i i j;split at en;rename_i hf;refine QC hg hm ha (by rw[fN hs,fN hs2];rfl) (fN hs2) pins s σ H R I (.mk f r ee λvs H' m' s' r' q=>?_);obtain⟨v,u,rfl,q1,q2⟩:=kG q;cases q1;cases q2;have hf2:=hf;rw[bY]at hf2;refine⟨_,_,rfl,⟨(vQ hf2.1).1,(vQ hf2.1).2,(vQ hf2.2).1,(vQ hf2.2).2⟩,k _ _ H' m' s' r' (MJ λi h=>?_) trivial⟩;simp only[aZ,hf,cC];split<;>split<;>first|rfl|(exfalso;simp at *;lia)
 cases en;cases en
noncomputable def U8(tl:TE):TI:=λσ H R=>tl σ H λx H1=>∃a kvs,x=.ref a/\((∃ob,H1 a=aB (.bF ob (.dK kvs))/\R (Aw a ob kvs) H1)\/(H1 a=aB (.dK kvs)/\∀ob,R (Aw a ob kvs) (upd H1 a (.bF ob (.dK kvs)))))
theorem U9{tg l:ao}{tl:TE}(hl:PE X l tl):PI X tg l (U8 tl):=by
 intro pins s σ H R I h;refine bq (hl pins s σ H _ I h) λv s1 bW=>?_;obtain⟨x,H1,I1,r1,q1⟩:=bW;obtain⟨a,kvs,e,q⟩:=q1;subst e;cases r1;have key:∀(H2:Hp)(ob:Obj),Inv X pins σ H2 s1->H2 a=aB (.bF ob (.dK kvs))->R (Aw a ob kvs) H2->wpAny (model X.prog X.w) X.A (pyIter (.ref a)) (λitv s2=>zx X pins σ tg R itv s2) X.xe s1:=by
  intro H2 ob I2 e0 q2;obtain⟨e1,z,y,vs,r,o',es,ep,e2,c1,c2,c3,c4,c5⟩:=(show bw X.prog X.w H2 s1.heap a (.bF ob (.dK kvs))from I2.hok a _ e0)
  rw[e1]at e2;cases e2;refine wpAny_pyIter_dict (knd:=iH X.prog X.w) y ⟨ob,es,e1,c1,c2,c3,c4,c5⟩ ?_;have hlen:=r.length;refine⟨s1.heap.objs.size,[s1.heap.objs.size],_,_,H2,rfl,I2.kept (t':=s1.toks) λb o e=>cQ _ e,S7 (kvs:=kvs) c2 (gB (dB e1)),⟨_,fX _ rfl,rfl,by rw[hlen];rfl⟩,λb hb=>?_,q2⟩;have e:b=s1.heap.objs.size:=by simpa using hb
  subst e;exact I2.jH (bg _) (I2.hok.fresh (bg _))
 rcases q with⟨ob,e0,q⟩|⟨e0,q⟩;exact key H1 ob I1 e0 q;obtain⟨ob,I2⟩:=I1.freeze e0;exact key _ ob I2 eS (q ob)
theorem aN.key{K:aK}{m:Nat->ah}{n:Nat}{H:Hp}:∀{vs:List (Key×V)} {ws:List (Key×W)} (i:Nat),aN K m n H vs ws->(vs[i]?).map (·.1)=(ws[i]?).map (·.1)|_,_,_,.nil=>rfl|_,_,0,.cons _ _=>rfl|_,_,i+1,.cons _ r=>by simpa using aN.key i r
theorem U'{K:aK}{m:Nat->ah}{n:Nat}{H:Hp}(k:Key):aJ K m n H (kV k) (vP k):=by cases k;exact .int _;exact .str _
theorem MK{K:aK}{a:ah}{l:Nat}{ob:Obj}{kv:List (Key×V)}:iR K (aZ .keys (.ref l)) (Aw a ob kv) (λm n H=>l<n/\a=m l/\H a=aB (.bF ob (.dK kv))):=by
 refine⟨λm n H m' n' H' hn hm kt kf ⟨q1,q2,q3⟩=>⟨dI q1 hn,by rw[hm l q1];exact q2,kf _ _ _ q3⟩,λm h H r ⟨q1,q2,q3⟩ i=>?_⟩;subst q2;cases g:h.get l with
 |none=>exact⟨λw e=>by simp[aZ,g]at e,λe=>by simp[aZ,g]at e⟩
 |some o=>
  cases o with
  |lst _=>exact⟨λw e=>by simp[aZ,g]at e,λe=>by simp[aZ,g]at e⟩
  |dt _ _=>exact⟨λw e=>by simp[aZ,g]at e,λe=>by simp[aZ,g]at e⟩
  |dm _=>exact⟨λw e=>by simp[aZ,g]at e,λe=>by simp[aZ,g]at e⟩
  |dk ws=>
   obtain⟨vs,p1,p2⟩:=r.dk g;have hv:vs=kv:=by rcases p1 with p1|⟨o,p1⟩;rw[q3]at p1;cases p1;rw[q3]at p1;cases p1;rfl
   subst hv;have hk:=p2.key i;refine⟨λw e=>?_,λe=>?_⟩;simp only[aZ,g]at e;cases z:ws[i]? with
   |none=>
    rw[z]at e;simp only at e;split at e<;>cases e
   |some p=>
    rw[z]at e hk;simp only[iC,u6]at e hk;subst e;cases z2:vs[i]? with
    |none=>rw[z2]at hk;cases hk
    |some q=>
     rw[z2]at hk;simp only[iC,u6]at hk;refine⟨⟨q3,(gA.mp z2).1⟩,λy H3 ⟨e3,k3,v3,e4,e5⟩=>?_⟩;subst e3 e5;rw[z2]at e4;cases e4;rw[<-hk];exact⟨.refl,r,U' _⟩
   simp only[aZ,g]at e;cases z:ws[i]? with
   |some p=>rw[z]at e;cases e
   |none=>
    rw[z]at e;simp only at e;split at e;rename_i hb;exact⟨q3,by rw[p2.length];exact yT hb⟩;cases e
theorem Rel.frozen{K:aK}{m:Nat->ah}{h:VH}{H:Hp}(r:Rel K m h H){i:Nat}{o:VO}{u u0:HO}(hi:h.get i=aB o)(h0:H (m i)=aB u0)(hn:∀t,u0≠.tup t)(hf:∀o t,u0≠.bF o t)
 (ho:bZ m h.n H m h.n (upd H (m i) u)->fM K m h.n (upd H (m i) u) (m i) o) :
 bZ m h.n H m h.n (upd H (m i) u)/\Rel K m h (upd H (m i) u):=by
 have st:bZ m h.n H m h.n (upd H (m i) u):=by refine⟨bg _,λ_ _=>rfl,λj a b=>absurd b (jF.mpr a),λj k a b=>absurd b (jF.mpr a),λb vs q=>?_,λb o t q=>?_,λb o nb q=>?_⟩;rw[b9 (cJ q h0 (λz=>hn vs z.symm))];exact q;rw[b9 (cJ q h0 (λz=>hf o t z.symm))];exact q;rw[b9 (nb i (cg hi)).symm];exact q
 refine⟨st,⟨λj hj=>?_,r.inj,r.len⟩⟩;by_cases e:j=i;subst e;exact⟨o,hi,ho st⟩;obtain⟨o',h1,h2⟩:=r.obj j hj;exact⟨o',h1,fM.stp st (b9 λz=>e (r.inj j i hj (cg hi) z)) h2⟩
theorem Va{tg:ao}(ha:SE X e fa):PI X tg e (ck X.K .keys fa):=λpins s σ H R I z9=>z9.el λρ h m x h' f r ee o en k=>by
 have hs:∃l kvs,x=.ref l/\h'.get l=aB (.dk kvs):=by simp only[aZ]at en;split at en;rename_i l;split at en;exact⟨_,_,rfl,by assumption⟩;cases en;cases en
 obtain⟨l,kvs,rfl,g⟩:=hs;refine U9 ha pins s σ H R I (.mk f r ee λv H' m' s' r' q=>?_);cases q with
 |ref hi=>
  obtain⟨vs,p1,p2⟩:=r'.dk g;refine⟨m' l,vs,rfl,?_⟩;rcases p1 with p1|⟨ob,p1⟩;refine .inr ⟨p1,λob=>?_⟩;obtain⟨st,r2⟩:=r'.frozen (u:=.bF ob (.dK vs)) g p1 (λ_ z=>nomatch z) (λ_ _ z=>nomatch z) λst=>⟨vs,.inr ⟨ob,eS⟩,p2.stp st⟩
  exact k _ _ _ m' (s'.trans st) r2 MK ⟨hi,rfl,eS⟩;exact .inl ⟨ob,p1,k _ _ H' m' s' r' MK ⟨hi,rfl,p1⟩⟩
theorem Vb{elts:List ao}{kx:Nat}{tp:Pos}{l:ao}{ta:TA}(hg:Gl X "enumerate")(hm:X.mg "enumerate" = aC)(hv:bootBuiltins "enumerate" = aB (.type "enumerate"))(ha:PA X [l] ta)(hs:starEach [l] X.env=[(false,eval l X.env)]) :
 PI X (.Tuple elts kx tp) (.Call (.Name "enumerate" p) [l] [] pos) (λσ H R=>ta σ H λvs H1=>∃a,vs=[.ref a]/\(∃xs,cH X.K H1 a xs)/\R (vG X.K a) H1):=by
 intro pins s σ H R I h;refine Call_ (tG I hg hm hv (xM (bq (ha pos pins s σ H _ I h) λus s1 ⟨vs,H1,I1,r1,q1⟩=>?_) hs rfl));obtain⟨a,e,⟨xs,hq⟩,q⟩:=q1;subst e;obtain⟨u,rfl,ru⟩:=vals1 r1;cases ru;obtain⟨its,rv,pl,hz⟩:=I1.tuple hq;have pl:s1.heap.IsTuple a its.toArray:=pl;have hlt:a<s1.heap.objs.size:=by obtain⟨o,q,_⟩:=pl;exact dB q
 refine R3 pl λh' he hit hsz kk=>wpAny_pyIter_enum he ?_;have hf:∀b,s1.heap.objs.size<=b->dX X pins H1 b:=λb hb=>I1.jH hb (I1.hok.fresh hb);refine⟨s1.heap.objs.size+1,[s1.heap.objs.size+1,s1.heap.objs.size],_,_,H1,rfl,I1.kept (t':=s1.toks) kk,R4 a _ _ (tu (fY _)) (gB (xJ hlt)) (gB hlt),⟨⟨_,he⟩,hit⟩,λb hb=>hf b ?_,q⟩;rcases fV.mp hb with rfl|hb
 exact qK _;have e':b=s1.heap.objs.size:=by simpa using hb
 rw[e'];exact bg _
theorem ML{ws:List W}{h:VH}{i:Nat}{o:Option W}(q:aZ .lA (.tup ws) i h=aB o):o=(ws[i]?).map λw=>.tup [.int i,w]:=by cases q;rfl
theorem Vc{K:aK}{a:ah}{vs:List V}{ws:List W}:iR K (aZ .lA (.tup ws)) (vG K a) (λm n H=>cH K H a vs/\aF K m n H vs ws):=by
 refine⟨λm n H m' n' H' hn hm kt kf ⟨q1,q2⟩=>⟨Ew kt kf q1,q2.mono hn hm kt kf⟩,λm h H r ⟨q1,q2⟩ i=>⟨λw e=>?_,λe=>?_⟩⟩;have e:=ML (ws:=ws) e;cases z:ws[i]? with
 |none=>rw[z]at e;cases e
 |some w0=>
  rw[z]at e;cases e;obtain⟨v,h1,h2⟩:=q2.get z;refine⟨⟨vs,v,q1,h1⟩,λy H3 ⟨T,v3,e1,e2,e3,y3⟩=>?_⟩;subst e1 e3;have:=y3 vs q1;rw[h1]at this;cases this;obtain⟨st,r'⟩:=r.more (u:=.tup [.int i,v]) e2;exact⟨st,r',.tup (cH.of eS) (.cons (.int _) (.cons (h2.stp st) .nil))⟩
 have e:=ML (ws:=ws) e;cases z:ws[i]? with|some w0=>rw[z]at e;cases e|none=>exact⟨vs,q1,by rw[q2.length];exact nM.mp z⟩
theorem Vd:bootBuiltins "enumerate" = aB (.type "enumerate"):=by decide +kernel
theorem MM(ha:SE X e fa)(hs:gQ e):PA X [e] (λσ H Q=>eF X.K fa σ H λv H1=>Q [v] H1):=λp pins s σ H Q I q=>by
 refine xX ha zO (fN hs) p pins s σ H Q I ?_;refine q.el λρ h m w h' f r ee k=>?_;exact(.mk f r ee λv H' m' s' r' q'=>k v H' m' s' r' q')
theorem Ve{elts:List ao}{kx:Nat}{tp:Pos}(ha:SE X e fa)(hs0:gQ e)(hg:Gl X "enumerate")(hm:X.mg "enumerate" = aC):PI X (.Tuple elts kx tp) (.Call (.Name "enumerate" p) [e] [] pos) (ck X.K .lA fa):=λpins s σ H R I z9=>z9.el λρ h m x h' f r ee o en k=>by
 cases x with
 |tup ws=>exact Vb hg hm Vd (MM ha hs0) (fN hs0) pins s σ H R I ⟨ρ,h,m,_,h',f,r,ee,λv H' m' s' r' q=>by
  cases q with|tup sq rs=>exact⟨_,rfl,⟨_,sq⟩,k _ _ H' m' s' r' Vc ⟨sq,rs⟩⟩⟩
 |_=>cases en
theorem Vf{elts:List ao}{kx:Nat}{tp:Pos}{l l2:ao}{ta:TA}(hg:Gl X "zip")(hm:X.mg "zip" = aC)(ha:PA X [l,l2] ta)(hs:starEach [l,l2] X.env=[(false,eval l X.env),(false,eval l2 X.env)])(hs2:starEach [l2] X.env=[(false,eval l2 X.env)]) :
 PI X (.Tuple elts kx tp) (.Call (.Name "zip" p) [l,l2] [] pos) (λσ H R=>ta σ H λvs H1=>∃b c a1 a2,vs=[.ref a1,.ref a2]/\(∃xs,m9 b X.K H1 a1 xs)/\(∃ys,m9 c X.K H1 a2 ys)/\R (vJ X.K b c a1 a2) H1):=by
 intro pins s σ H R I h;refine Call_ (tG I hg hm PyProof.Rows.boot_zip (xM (bq (ha pos pins s σ H _ I h) λus s1 ⟨vs,H1,I1,r1,q1⟩=>?_) (by rw[hs,hs2]) (by rw[hs2];rfl)));obtain⟨b,c,a1,a2,e,⟨xs,hq⟩,⟨ys,hr⟩,q⟩:=q1;subst e;cases r1 with
 |cons r rr=>
  cases rr with
  |cons r' rr=>
   cases rr;cases r;cases r';obtain⟨its,_,pl,_⟩:=ya I1 hq;obtain⟨L4,_,MN,_⟩:=ya I1 hr;refine S1 pl MN λh' e1 e2 e3 e4 e5 hsz kk=>wpAny_pyIter_zip e1 ?_;have hf:∀b,s1.heap.objs.size<=b->dX X pins H1 b:=λb hb=>I1.jH hb (I1.hok.fresh hb);refine⟨s1.heap.objs.size+4,_,_,_,H1,rfl,I1.kept (t':=s1.toks) kk,S2 a1 a2 _ _ _ _ _ (SI pl.lt MN.lt),⟨e1,e2,⟨_,_,e3⟩,e4,e5⟩,λb hb=>hf b ?_,q⟩;simp only[fV,De,or_false]at hb;rcases hb with rfl|rfl|rfl|rfl|rfl
   exact Dj _ _;exact Dj _ _;exact Dj _ _;exact bg _;exact Dj _ _
noncomputable def Src(K:aK)(b:Bool)(a:ah)(u:W)(P:(Nat->ah)->Nat->Hp->Prop):Prop:=
 (∀m n H m' n' H',n<=n'->(∀i,i<n->m' i=m i)->(∀b vs,H b=aB (.tup vs)->H' b=aB (.tup vs))->(∀b o u,H b=aB (.bF o u)->H' b=aB (.bF o u))->P m n H->P m' n' H')/\
 ∀m h H ws,Rel K m h H->P m h.n H->aV h u=aB ws->∃vs,m9 b K H a vs/\aF K m h.n H vs ws
theorem MO{K:aK}{m:Nat->ah}{h:VH}{H:Hp}{v:V}{u:W}{ws:List W}(r:Rel K m h H)(q:aJ K m h.n H v u)(e:aV h u=aB ws):∃b a P,v=.ref a/\Src K b a u P/\P m h.n H/\∃xs,m9 b K H a xs:=by
 cases q with
 |aQ=>cases e
 |bl b=>cases e
 |int b=>cases e
 |str b=>cases e
 |tup sq rs=>exact⟨true,_,λm n H=>cH K H _ _/\aF K m n H _ _,rfl,⟨λm n H m' n' H' hn hm kt kf ⟨q1,q2⟩=>⟨Ew kt kf q1,q2.mono hn hm kt kf⟩,λm h H ws _ ⟨q1,q2⟩ z=>by cases z;exact⟨_,q1,q2⟩⟩,⟨sq,rs⟩,_,sq⟩
 |fz sq rs=>exact⟨false,_,λm n H=>Fz K H _ _/\aF K m n H _ _,rfl,⟨λm n H m' n' H' hn hm kt kf ⟨q1,q2⟩=>⟨MI kf q1,q2.mono hn hm kt kf⟩,λm h H ws _ ⟨q1,q2⟩ z=>by cases z;exact⟨_,q1.sq,q2⟩⟩,⟨sq,rs⟩,_,sq.sq⟩
 |ref hi=>
  rename_i l;have key:∀m (h:VH) H ws,Rel K m h H->aV h (.ref l)=aB ws->∃vs,H (m l)=aB (.lst vs)/\aF K m h.n H vs ws:=λm h H ws r z=>by
   cases g:h.get l with
   |none=>simp[aV,g]at z
   |some o=>
    cases o with
    |dk _=>simp[aV,g]at z
    |dm _=>simp[aV,g]at z
    |dt _ _=>simp[aV,g]at z
    |lst AY=>
     have:AY=ws:=by simpa[aV,g]using z
     subst this;exact r.lst g
  obtain⟨vs,p1,_⟩:=key m h H ws r e;refine⟨false,_,λm' n _=>l<n/\m l=m' l,rfl,⟨λm1 n H m' n' H' hn hm kt kf ⟨q1,q2⟩=>⟨dI q1 hn,by rw[hm l q1];exact q2⟩,λm1 h H ws r' ⟨q1,q2⟩ z=>?_⟩,⟨hi,rfl⟩,vs,cZ.of p1⟩;obtain⟨vs,g1,g2⟩:=key m1 h H ws r' z;rw[q2];exact⟨vs,cZ.of g1,g2⟩
theorem HZ{u v:W}{h:VH}{i:Nat}{o:Option W}(q:aZ .zip (.tup [u,v]) i h=aB o):∃ws zs,aV h u=aB ws/\aV h v=aB zs/\o=(match ws[i]?,zs[i]? with|some a,aB b=>aB (.tup [a,b])|_,_=>aC):=by simp only[aZ]at q;split at q;rename_i ws zs h1 h2;cases q;exact⟨ws,zs,h1,h2,rfl⟩;cases q
theorem Vg{K:aK}{b c:Bool}{a1 a2:ah}{u v:W}{P1 P2:(Nat->ah)->Nat->Hp->Prop}(s1:Src K b a1 u P1)(s2:Src K c a2 v P2):iR K (aZ .zip (.tup [u,v])) (vJ K b c a1 a2) (λm n H=>P1 m n H/\P2 m n H):=by
 refine⟨λm n H m' n' H' hn hm kt kf ⟨q1,q2⟩=>⟨s1.1 m n H m' n' H' hn hm kt kf q1,s2.1 m n H m' n' H' hn hm kt kf q2⟩,λm h H r ⟨q1,q2⟩ i=>⟨λw e=>?_,λe=>?_⟩⟩;obtain⟨ws,zs,e1,e2,e3⟩:=HZ e;obtain⟨xs,g1,g2⟩:=s1.2 m h H ws r q1 e1;obtain⟨ys,g3,g4⟩:=s2.2 m h H zs r q2 e2;cases z1:ws[i]? with
 |none=>rw[z1]at e3;cases e3
 |some w1=>
  cases z2:zs[i]? with
  |none=>rw[z1,z2]at e3;cases e3
  |some w2=>
   rw[z1,z2]at e3;cases e3;obtain⟨v1,k1,k2⟩:=g2.get z1;obtain⟨v2,k3,k4⟩:=g4.get z2;refine⟨⟨xs,ys,v1,v2,g1,g3,k1,k3⟩,λy H3 ⟨T,x3,y3,f1,f2,f3,f4,f5⟩=>?_⟩;subst f1 f3;have t1:=f4 xs g1;have t2:=f5 ys g3;rw[k1]at t1;cases t1;rw[k3]at t2;cases t2;obtain⟨st,r'⟩:=r.more (u:=.tup [v1,v2]) f2;exact⟨st,r',.tup (cH.of eS) (.cons (k2.stp st) (.cons (k4.stp st) .nil))⟩
 obtain⟨ws,zs,e1,e2,e3⟩:=HZ e;obtain⟨xs,g1,g2⟩:=s1.2 m h H ws r q1 e1;obtain⟨ys,g3,g4⟩:=s2.2 m h H zs r q2 e2;refine⟨xs,ys,g1,g3,?_⟩;cases z1:ws[i]? with
 |none=>exact .inl (by rw[g2.length];exact nM.mp z1)
 |some w1=>
  cases z2:zs[i]? with|none=>exact .inr (by rw[g4.length];exact nM.mp z2)|some w2=>rw[z1,z2]at e3;cases e3
theorem Vh{elts:List ao}{kx:Nat}{tp:Pos}(ha:SA X [a,b] fa)(hs:gQ a)(hs2:gQ b)(hg:Gl X "zip")(hm:X.mg "zip" = aC):PI X (.Tuple elts kx tp) (.Call (.Name "zip" p) [a,b] [] pos) (ck X.K .zip fa):=λpins s σ H R I z9=>z9.el λρ h m x h' f r ee o en k=>by
 have hx:∃u v,x=.tup [u,v]:=by simp only[aZ]at en;split at en;exact⟨_,_,rfl⟩;cases en
 obtain⟨u,v,rfl⟩:=hx;obtain⟨ws,zs,e1,e2,_⟩:=HZ en;refine Vf hg hm ha (by rw[fN hs,fN hs2];rfl) (fN hs2) pins s σ H R I (.mk f r ee λvs H' m' s' r' q=>?_);obtain⟨v1,v2,rfl,q1,q2⟩:=kG q;obtain⟨b1,a1,P1,rfl,o1,p1,x1⟩:=MO r' q1 e1;obtain⟨b2,a2,P2,rfl,o2,p2,x2⟩:=MO r' q2 e2;exact⟨b1,b2,a1,a2,rfl,x1,x2,k _ _ H' m' s' r' (Vg o1 o2) ⟨p1,p2⟩⟩
end
section
variable{X:Cx}{a b c e o:ao}{es:List ao}{fa fb fc fo fr:FE}{pos p:Pos}{x:Str}
noncomputable def cK(K:aK)(t:Tg):TG:=λv σ H Q=>∃ρ h m w ρ',Fr K m h.n H σ ρ/\Rel K m h H/\aJ K m h.n H v w/\bL t w h ρ=aB ρ'/\∀σ',Fr K m h.n H σ' ρ'->Q σ' H
theorem cK.el{K:aK}{v:V}{σ:L2.St}{H:Hp}{P:Prop}{tg:Tg}{Q}(q:cK K tg v σ H Q)(k:∀ρ h m w ρ',Fr K m h.n H σ ρ->Rel K m h H->aJ K m h.n H v w->bL tg w h ρ=aB ρ'->(∀σ',Fr K m h.n H σ' ρ'->Q σ' H)->P):P:=by obtain⟨ρ,h,m,w,h',f,r,e,eo,k'⟩:=q;exact k ρ h m w h' f r e eo k'
theorem cK.mk{K:aK}{v:V}{σ:L2.St}{H:Hp}{m:Nat->ah}{ρ ρ':En}{h:VH}{w:W}{tg:Tg}{Q}(f:Fr K m h.n H σ ρ)(r:Rel K m h H)(e:aJ K m h.n H v w)(eo:bL tg w h ρ=aB ρ')(k:∀σ',Fr K m h.n H σ' ρ'->Q σ' H):cK K tg v σ H Q:=⟨ρ,h,m,w,ρ',f,r,e,eo,k⟩
theorem MP{i:Nat}(hN:X.N.Nodup)(hi:X.N[i]?=aB x)(hx:Loc X.env.scope x)(hf:X.fn x=true\/X.env.scope.names.lookup x=aB .local):PG X (.Name x pos) (cK X.K (.one i)):=λpins s σ H v u Q I ru z9=>z9.el λρ h m w ρ' f r q e k=>by
 cases e;exact KU hN hi hx hf pins s σ H v u Q I ru (k _ (f.set q i))
noncomputable def lE(X:Cx)(e:ao)(i:Nat):Prop:=∃x p,e=.Name x p/\X.N[i]?=aB x/\Loc X.env.scope x/\(X.fn x=true\/X.env.scope.names.lookup x=aB .local)
noncomputable def Bb(K:aK)(is:List Nat):qP:=λvs σ H Q=>∃ρ m n ws ρ',Fr K m n H σ ρ/\aF K m n H vs ws/\rJ is ws ρ=aB ρ'/\∀σ',Fr K m n H σ' ρ'->Q σ' H
theorem MQ(hN:X.N.Nodup):∀{es:List ao} {is:List Nat},Paired (lE X) es is->xV X es (Bb X.K is)/\(assignEach es X.env).length=es.length/\(assignEach es X.env).findIdx? (·.1)=aC
 |_,_,.nil=>by
  refine⟨λpins s σ H vs us Q I ru ⟨ρ,m,n,ws,ρ',f,q,e,k⟩=>?_,rfl,rfl⟩;cases ws with|nil=>cases e;cases q;exact KW pins s σ H [] us Q I ru ⟨rfl,k _ f⟩|cons _ _=>cases e
 |e::es,i::is,.cons ⟨x,p,he,hi,hx,hf⟩ t=>by
  subst he;obtain⟨h1,h2,h3⟩:=MQ hN t;refine⟨λpins s σ H vs us Q I ru ⟨ρ,m,n,ws,ρ',f,q,e,k⟩=>?_,?_,?_⟩;cases q with
  |nil=>cases e
  |cons q qs=>
   exact Gi (KU hN hi hx hf) h1 rfl pins s σ H _ us Q I ru ⟨_,_,rfl,ρ.set i (aB _),m,n,_,ρ',f.set q i,qs,e,k⟩
  show(assignEach es X.env).length+1=es.length+1;rw[h2];show List.findIdx? _ ((false,_)::assignEach es X.env)=aC;rw[List.findIdx?_cons,h3];rfl
theorem MR:∀{is:List Nat} {ws:List W} {ρ ρ':En},rJ is ws ρ=aB ρ'->ws.length=is.length
 |[],[],_,_,_=>rfl
 |[],_::_,_,_,e=>by cases e
 |_::_,[],_,_,e=>by cases e
 |_::_,_::_,_,_,e=>by
  rw[cY,cY,MR (by simpa only[rJ]using e)]
theorem Vi{t:qP}{n k:Nat}(hc:X.calm)(h:xV X es t)(hn:(assignEach es X.env).length=n)(hst:(assignEach es X.env).findIdx? (·.1)=aC) :
 PG X (.Tuple es k pos) (λv σ H Q=>∃a xs,v=.ref a/\cZ X.K H a xs/\xs.length=n/\t xs σ H Q):=by
 intro pins s σ H v u Q I r hw;obtain⟨a,xs,rfl,hq,hl,hw⟩:=hw;cases r;obtain⟨its,rv,ht,hz⟩:=I.list hq;rw[assign_Tuple];refine aG (mO ?_);unfold unpack;have hsz:(assignEach es X.env).length=its.toArray.size:=by rw[hn,<-hl,rv.length,dQ]
 rw[hst,hsz];refine aG (mL (PySem.W.kun_itemsOf (I.ok.hd hc) ht.isList λh' hx=>?_));have I1:Inv X pins σ H {s with heap:=h'}:=I.kept (t':=s.toks) λb o e=>hx b o (gB (dB e)) e;exact h pins _ σ H xs _ Q I1 (by simpa using rv) hw
theorem Ia{is:List Nat}{k:Nat}(hc:X.calm)(hN:X.N.Nodup)(hs:Paired (lE X) es is):PG X (.Tuple es k pos) (cK X.K (.many is)):=λpins s σ H v u Q I ru z9=>z9.el λρ h m w ρ' f r q e k=>by
 obtain⟨h1,h2,h3⟩:=MQ hN hs;simp only[bL]at e;cases z:aV h w with
 |none=>rw[z]at e;cases e
 |some ws=>
  rw[z]at e;have e:rJ is ws ρ=aB ρ':=e;obtain⟨p,vs,rfl,hq,qs⟩:=yj r q z;have hl:vs.length=es.length:=by rw[qs.length,MR e,hs.length]
  rcases hq with hq|hq;exact Vi hc h1 h2 h3 pins s σ H _ u Q I ru ⟨p,vs,rfl,hq,hl,ρ,m,h.n,ws,ρ',f,qs,e,k⟩;exact KY hc h1 h2 h3 pins s σ H _ u Q I ru ⟨p,vs,rfl,hq,hl,ρ,m,h.n,ws,ρ',f,qs,e,k⟩
theorem Vj{is:List Nat}{j k k':Nat}{p':Pos}{en:ao}(hc:X.calm)(hN:X.N.Nodup)(hs:Paired (lE X) es is)(hj:lE X en j):PG X (.Tuple [en,.Tuple es k' p'] k pos) (cK X.K (.AE j is)):=λpins s σ H v u Q I ru z9=>z9.el λρ h m w ρ' f r q e kk=>by
 obtain⟨x,px,rfl,g1,g2,g3⟩:=hj;simp only[bL]at e;split at e;rename_i wa wb;cases z:aV h wb with
 |none=>rw[z]at e;cases e
 |some ws=>
  rw[z]at e;cases q with
  |tup s1 s2=>
   obtain⟨va,vb,rfl,q1,q2⟩:=kG s2;refine KY hc (Gi (MP hN g1 g2 g3) (Gi (Ia hc hN hs) KW)) rfl rfl pins s σ H _ u Q I ru ⟨_,_,rfl,s1,rfl,va,[vb],rfl,?_⟩;refine .mk f r q1 rfl λσ1 f1=>?_;refine⟨vb,[],rfl,.mk f1 r q2 (show bL (.many is) wb h _=aB ρ' by simp only[bL,z];exact e) λσ2 f2=>?_⟩;exact⟨rfl,kk σ2 f2⟩
 cases e
theorem Ib{K:aK}{m:Nat->ah}{n:Nat}{H:Hp}{σ:L2.St}{ρ:En}{ow fr:List Str}{ix:List Nat}(f:Fr K m n H σ ρ):Fr K m n H (ju ow fr ix σ) (inner ow.length ix ρ):=by
 unfold ju inner;refine⟨by simp,λi w e=>?_⟩;by_cases hi:i<ow.length;rw[pS (by simpa using hi)]at e;rw[C5]at e;split at e<;>cases e;rw[lR (by simpa using jF.mp hi)]at e;rw[lR (by simpa using jF.mp hi)];simp only[uU,bG]at e ⊢;rw[dG]at e ⊢;cases z:ix[i-ow.length]? with
 |none=>rw[z]at e;cases e
 |some j=>
  rw[z]at e;simp only[iC,u6]at e ⊢;have e3:ρ[j]?=aB (aB w):=by
   cases q:ρ[j]? with|none=>rw[q]at e;cases e|some o=>rw[q]at e;rw[<-e];rfl
  obtain⟨v,h1,h2⟩:=f.val j w e3;exact⟨v,by rw[h1];rfl,h2⟩
theorem Ic{nx:Nat->VH->Option (Option W)}{tg:W->VH->En->Option En}{c e:FE}:∀{f i:Nat} {ρ:En} {h:VH} {acc ys:List W} {h':VH},gC nx tg c e f i ρ h acc=.ok ys h'->acc.length<=ys.length
 |0,_,_,_,_,_,_,q=>by cases q
 |f+1,i,ρ,h,acc,ys,h',q=>by
  simp only[gC]at q;split at q;cases q;cases q;simp;split at q;cases q;refine bK q λb h1 e1 e2=>?_;split at e2;refine bK e2 λy h2 e3 e4=>?_;have:=Ic e4;rw[cY]at this;lia;exact Ic e2;cases e2
theorem Vk{nx:Nat->VH->Option (Option W)}{tg:W->VH->En->Option En}{c e:FE}{f i:Nat}{ρ:En}{h:VH}{acc ys:List W}{h':VH}(q:gC nx tg c e (f+1) i ρ h acc=.ok ys h'):∃o,nx i h=aB o:=by simp only[gC]at q;split at q;cases q;exact⟨_,by assumption⟩;exact⟨_,by assumption⟩
theorem Ie{H:Hp}{a:ah}{o:HO}(h:H a=aB o):upd H a o=H:=by funext b;unfold upd;split;rename_i e;rw[e,h];rfl
noncomputable abbrev Ig(kd:Kd)(fa:FE)(t:Tg)(ow:Nat)(ix:List Nat)(fc fe:FE):FE:=λρ h=>(fa ρ h).bind λx h=>(gC (aZ kd x) (bL t) fc fe fuel 0 (inner ow ix ρ) h []).bind λys h=>if Nat.ble ys.length big then .ok (.ref h.n) (h.new (.lst ys))else .no
theorem t6{K:aK}{kd:Kd}{t:Tg}{ow fr:List Str}{ix:List Nat}{fe:FE}{σ:L2.St}{H:Hp}{Q:VK}(q:eF K (Ig kd fa t ow.length ix fc fe) σ H Q):GZ K (ju ow fr ix) (ck K kd fa) (cK K t) (cV K fc) (eF K fe) σ H Q:=by
 refine q.el λρ h m w h' f r e k=>?_;refine bK e λx h1 e1 e2=>?_;refine bK e2 λys h2 e3 e4=>?_;split at e4
 case isFalse=>cases e4
 rename_i hz;cases e4;have hz:=k9 hz;refine(.mk f r e1 ?_ λJ P H1 m1 s1 r1 J1 p1 D hD hK=>?_);exact Vk (f:=999999) e3;obtain⟨i9,r0⟩:=r1.more (u:=.lst []) hD;have p0:=J1.1 m1 h1.n H1 m1 h1.n (upd H1 D (.lst [])) (bg _) (λ_ _=>rfl) (λb vs q=>i9.tup b vs q) (λb o u q=>i9.bF b o u q) p1;refine⟨λi fl σ' H' vs=>∃ρ' h3 m3 acc,gC (aZ kd x) (bL t) fc fe fl i ρ' h3 acc=.ok ys h2/\Fr K m3 h3.n H' σ' ρ'/\Rel K m3 h3 H'/\H' D=aB (.lst vs)/\aF K m3 h3.n H' vs acc.reverse/\(∀i,i<h3.n->m3 i≠D)/\bZ m1 h1.n H1 m3 h3.n H'/\P m3 h3.n H',
  ⟨fuel,inner ow.length ix ρ,h1,m1,[],e3,Ib ((f.stp s1).stp i9),r0,eS,.nil,r1.out hD,i9,p0⟩,?_⟩
 rintro i fl σ' H' vs ⟨ρ',h3,m3,acc,e5,f3,r3,d3,q3,o3,s3,p3⟩;refine⟨d3,?_⟩;cases fl with
 |zero=>cases e5
 |succ fl=>
  simp only[gC]at e5;obtain⟨j1,j2⟩:=J1.2 m3 h3 H' r3 p3 i;split at e5;cases e5;rename_i hn;cases e5;refine .inl ⟨j2 hn,?_⟩;obtain⟨st,r'⟩:=r3.adopt (o:=.lst acc.reverse) (u:=.lst vs) o3 d3 (λ_ z=>nomatch z) (λ_ _ z=>nomatch z) (s1.trans s3) (by
   cases z:H D with
   |none=>rfl
   |some o=>
    have:=s1.keep D o (λi hi z2=>(r1.out hD) i (dI hi s1.le) ((s1.same i hi).trans z2)) z;rw[hD]at this;cases this) λ_ mv=>⟨_,eS,q3.map mv⟩
  rw[Ie d3]at st r';refine k _ _ _ st r' ?_;have:aJ K (λi=>if i=h2.n then D else m3 i) (h2.n+1) H' (.ref ((λi=>if i=h2.n then D else m3 i) h2.n)) (.ref h2.n):=.ref (fY _);simp only[cC]at this;exact this;rename_i w hn;obtain⟨j3,j4⟩:=j1 w hn;refine .inr ⟨j3,λy H4 hy=>?_⟩;obtain⟨s4,r4,q4⟩:=j4 y H4 hy;split at e5;cases e5;rename_i jy ht;refine⟨ρ',h3,m3,w,jy,f3.stp s4,r4,q4,ht,λkh f5=>?_⟩;refine bK e5 λbv h6 e6 e7=>?_;have d4:H4 D=aB (.lst vs):=s4.keep D _ o3 d3;have t7:=s3.trans s4;have p4:=J1.1 m3 h3.n H' m3 h3.n H4 (bg _) (λ_ _=>rfl) (λb vs q=>s4.tup b vs q) (λb o u q=>s4.bF b o u q) p3;cases bv<;>try cases e7
  rename_i bb;refine⟨jy,h3,m3,bb,h6,f5,r4,e6,λH6 m6 s6 r6=>?_⟩;have o6:=s6.out o3 d4;have d6:H6 D=aB (.lst vs):=s6.keep D _ o3 d4;have p6:=J1.1 m3 h3.n H4 m6 h6.n H6 s6.le s6.same (λb vs q=>s6.tup b vs q) (λb o u q=>s6.bF b o u q) p4;cases bb with
  |false=>
   simp only[dW,dg];exact⟨fl,fY _,jy,h6,m6,acc,e7,f5.stp s6,r6,d6,(q3.stp s4).stp s6,o6,t7.trans s6,p6⟩
  |true=>
   simp only[cC];refine bK e7 λy7 h7 e8 e9=>?_;refine⟨jy,h6,m6,y7,h7,f5.stp s6,r6,e8,λv7 H7 m7 s7 r7 q7=>?_⟩;have o7:=s7.out o6 d6;have d7:H7 D=aB (.lst vs):=s7.keep D _ o6 d6;have p7:=J1.1 m6 h6.n H6 m7 h7.n H7 s7.le s7.same (λb vs q=>s7.tup b vs q) (λb o u q=>s7.bF b o u q) p6;have MS:=((q3.stp s4).stp s6).stp s7;have hlen:=Ic e9;rw[cY]at hlen;refine⟨d7,?_,fl,fY _,jy,h7,m7,y7::acc,e9,?_⟩;rw[MS.length,yO];have:big=sizeLine:=rfl;lia;obtain⟨Bc,r8,mv⟩:=r7.side (u:=.lst (vs++[v7])) d7 (λ_ z=>nomatch z) (λ_ _ z=>nomatch z) o7 ((t7.trans s6).trans s7) hD;have kt:∀b us,H7 b=aB (.tup us)->upd H7 D (.lst (vs++[v7])) b=aB (.tup us):=λb us q=>by rw[b9 (cJ q d7 λz=>nomatch z)];exact q
   have kf:∀b o u,H7 b=aB (.bF o u)->upd H7 D (.lst (vs++[v7])) b=aB (.bF o u):=λb o u q=>by rw[b9 (cJ q d7 λz=>nomatch z)];exact q
   refine⟨⟨(f5.stp s6).len,λi w e=>let⟨v,h1,h2⟩:=((f5.stp s6).stp s7).val i w e;⟨v,h1,mv h2⟩⟩,r8,eS,?_,o7,Bc,J1.1 m7 h7.n H7 m7 h7.n _ (bg _) (λ_ _=>rfl) kt kf p7⟩;rw[List.reverse_cons];exact(MS.map mv).append (.cons (mv q7) .nil)
theorem Ex{nx:Nat->VH->Option (Option W)}{tg:W->VH->En->Option En}{c e:FE}:∀{f i:Nat} {ρ:En} {h:VH} {acc:List W} {p:En×List W} {h':VH},jx nx tg c e f i ρ h acc=.ok p h'->acc.length<=p.2.length
 |0,_,_,_,_,_,_,q=>by cases q
 |f+1,i,ρ,h,acc,ys,h',q=>by
  simp only[jx]at q;split at q;cases q;cases q;exact bg _;split at q;cases q;refine bK q λb h1 e1 e2=>?_;split at e2;refine bK e2 λy h2 e3 e4=>?_;have:=Ex e4;rw[cY]at this;lia;exact Ex e2;cases e2
theorem Ih{nx:Nat->VH->Option (Option W)}{tg:W->VH->En->Option En}{c:FE}{kY:En->VH->List W->Res (En×List W)}(hi:∀{ρ h acc p h'},kY ρ h acc=.ok p h'->acc.length<=p.2.length):∀{f i:Nat} {ρ:En} {h:VH} {acc ys:List W} {h':VH},kZ nx tg c kY f i ρ h acc=.ok ys h'->acc.length<=ys.length
 |0,_,_,_,_,_,_,q=>by cases q
 |f+1,i,ρ,h,acc,ys,h',q=>by
  simp only[kZ]at q;split at q;cases q;cases q;simp;split at q;cases q;refine bK q λb h1 e1 e2=>?_;split at e2;refine bK e2 λy h2 e3 e4=>?_;exact gF (hi e3) (Ih hi e4);exact Ih hi e2;cases e2
theorem Vl{nx:Nat->VH->Option (Option W)}{tg:W->VH->En->Option En}{c:FE}{kY:En->VH->List W->Res (En×List W)}{f i:Nat}{ρ:En}{h:VH}{acc ys:List W}{h':VH}(q:kZ nx tg c kY (f+1) i ρ h acc=.ok ys h'):∃o,nx i h=aB o:=by simp only[kZ]at q;split at q;cases q;exact⟨_,by assumption⟩;exact⟨_,by assumption⟩
theorem Vm{nx:Nat->VH->Option (Option W)}{tg:W->VH->En->Option En}{c e:FE}{f i:Nat}{ρ:En}{h:VH}{acc:List W}{p:En×List W}{h':VH}(q:jx nx tg c e (f+1) i ρ h acc=.ok p h'):∃o,nx i h=aB o:=by simp only[jx]at q;split at q;cases q;exact⟨_,by assumption⟩;exact⟨_,by assumption⟩
noncomputable abbrev vU(kd:Kd)(fa:FE)(t:Tg)(ow:Nat)(ix:List Nat)(fc:FE)(iS:Kd)(nW:FE)(t2:Tg)(nv fe:FE):FE:=λρ h=>(fa ρ h).bind λx h=>(kZ (aZ kd x) (bL t) fc (λρ h acc=>(nW ρ h).bind λy h=>jx (aZ iS y) (bL t2) nv fe fuel 0 ρ h acc) fuel 0 (inner ow ix ρ) h []).bind λys h=>if Nat.ble ys.length big then .ok (.ref h.n) (h.new (.lst ys))else .no
theorem MT{K:aK}{kd iS:Kd}{t t2:Tg}{ow fr:List Str}{ix:List Nat}{nW nv fe:FE}{σ:L2.St}{H:Hp}{Q:VK}(q:eF K (vU kd fa t ow.length ix fc iS nW t2 nv fe) σ H Q) :
 Ec K (ju ow fr ix) (ck K kd fa) (cK K t) (cV K fc) (λD=>L8 (ck K iS nW) (cK K t2) (cV K nv) (Hy (eF K fe) D)) (.lst []) σ H Q:=by
 refine q.el λρ h m w h' f r e k=>?_;refine bK e λx h1 e1 e2=>?_;refine bK e2 λys h2 e3 e4=>?_;split at e4
 case isFalse=>cases e4
 rename_i hz;cases e4;have hz:=k9 hz;have il:∀{ρ h acc p h'},(nW ρ h).bind (λy h=>jx (aZ iS y) (bL t2) nv fe fuel 0 ρ h acc)=.ok p h'->acc.length<=p.2.length:=λq=>by
  refine bK q λy h1 e1 e2=>?_;exact Ex e2
 refine(.mk f r e1 ?_ λJ P H1 m1 s1 r1 J1 p1 D hD hK=>?_);exact Vl (f:=999999) e3;obtain⟨i9,r0⟩:=r1.more (u:=.lst []) hD;have p0:=J1.1 m1 h1.n H1 m1 h1.n (upd H1 D (.lst [])) (bg _) (λ_ _=>rfl) (λb vs q=>i9.tup b vs q) (λb o u q=>i9.bF b o u q) p1;refine⟨λi fl σ' H'=>∃ρ' h3 m3 acc vs,kZ (aZ kd x) (bL t) fc (λρ h acc=>(nW ρ h).bind λy h=>jx (aZ iS y) (bL t2) nv fe fuel 0 ρ h acc) fl i ρ' h3 acc=.ok ys h2/\Fr K m3 h3.n H' σ' ρ'/\Rel K m3 h3 H'/\H' D=aB (.lst vs)/\aF K m3 h3.n H' vs acc.reverse/\(∀i,i<h3.n->m3 i≠D)/\bZ m1 h1.n H1 m3 h3.n H'/\P m3 h3.n H',
  ⟨fuel,inner ow.length ix ρ,h1,m1,[],[],e3,Ib ((f.stp s1).stp i9),r0,eS,.nil,r1.out hD,i9,p0⟩,?_⟩
 rintro i fl σ' H' ⟨ρ',h3,m3,acc,vs,e5,f3,r3,d3,q3,o3,s3,p3⟩;cases fl with
 |zero=>cases e5
 |succ fl=>
  simp only[kZ]at e5;obtain⟨j1,j2⟩:=J1.2 m3 h3 H' r3 p3 i;split at e5;cases e5;rename_i hn;cases e5;refine .inl ⟨j2 hn,?_⟩;obtain⟨st,r'⟩:=r3.adopt (o:=.lst acc.reverse) (u:=.lst vs) o3 d3 (λ_ z=>nomatch z) (λ_ _ z=>nomatch z) (s1.trans s3) (by
   cases z:H D with
   |none=>rfl
   |some o=>
    have:=s1.keep D o (λi hi z2=>(r1.out hD) i (dI hi s1.le) ((s1.same i hi).trans z2)) z;rw[hD]at this;cases this) λ_ mv=>⟨_,eS,q3.map mv⟩
  rw[Ie d3]at st r';refine k _ _ _ st r' ?_;have:aJ K (λi=>if i=h2.n then D else m3 i) (h2.n+1) H' (.ref ((λi=>if i=h2.n then D else m3 i) h2.n)) (.ref h2.n):=.ref (fY _);simp only[cC]at this;exact this;rename_i w hn;obtain⟨j3,j4⟩:=j1 w hn;refine .inr ⟨j3,λy H4 hy=>?_⟩;obtain⟨s4,r4,q4⟩:=j4 y H4 hy;split at e5;cases e5;rename_i jy ht;refine⟨ρ',h3,m3,w,jy,f3.stp s4,r4,q4,ht,λkh f5=>?_⟩;refine bK e5 λbv h6 e6 e7=>?_;have d4:H4 D=aB (.lst vs):=s4.keep D _ o3 d3;have t7:=s3.trans s4;have p4:=J1.1 m3 h3.n H' m3 h3.n H4 (bg _) (λ_ _=>rfl) (λb vs q=>s4.tup b vs q) (λb o u q=>s4.bF b o u q) p3;cases bv<;>try cases e7
  rename_i bb;refine⟨jy,h3,m3,bb,h6,f5,r4,e6,λH6 m6 s6 r6=>?_⟩;have o6:=s6.out o3 d4;have d6:H6 D=aB (.lst vs):=s6.keep D _ o3 d4;have p6:=J1.1 m3 h3.n H4 m6 h6.n H6 s6.le s6.same (λb vs q=>s6.tup b vs q) (λb o u q=>s6.bF b o u q) p4;cases bb with
  |false=>
   simp only[dW,dg];exact⟨fl,fY _,jy,h6,m6,acc,vs,e7,f5.stp s6,r6,d6,(q3.stp s4).stp s6,o6,t7.trans s6,p6⟩
  |true=>
   simp only[cC];obtain⟨⟨MU,rL⟩,h9,e8,e9⟩:=Mk e7;refine bK e8 λy7 h7 vS nT=>?_;have Be:=Ih il e9;refine⟨jy,h6,m6,y7,h7,f5.stp s6,r6,vS,Vm (f:=999999) nT,λJ2 P2 H8 m8 s8 r8 Bf p8=>?_⟩;have o8:=s8.out o6 d6;have d8:H8 D=aB (.lst vs):=s8.keep D _ o6 d6;have Vn:=J1.1 m6 h6.n H6 m8 h7.n H8 s8.le s8.same (λb vs q=>s8.tup b vs q) (λb o u q=>s8.bF b o u q) p6;refine⟨λj gl σ' H'=>∃Ey ha ma ny va,jx (aZ iS y7) (bL t2) nv fe gl j Ey ha ny=.ok (MU,rL) h9/\Fr K ma ha.n H' σ' Ey/\Rel K ma ha H'/\H' D=aB (.lst va)/\aF K ma ha.n H' va ny.reverse/\(∀i,i<ha.n->ma i≠D)/\bZ m1 h1.n H1 ma ha.n H'/\P ma ha.n H'/\P2 ma ha.n H',
    ⟨fuel,jy,h7,m8,acc,vs,nT,(f5.stp s6).stp s8,r8,d8,((q3.stp s4).stp s6).stp s8,o8,(t7.trans s6).trans s8,Vn,p8⟩,?_⟩
   rintro j gl σa Ha ⟨Ey,ha,ma,ny,va,ea,MV,ra,da,qa,oa,sa,pa,pb⟩;cases gl with
   |zero=>cases ea
   |succ gl=>
    simp only[jx]at ea;obtain⟨b1,b2⟩:=Bf.2 ma ha Ha ra pb j;split at ea;cases ea;rename_i hn2;cases ea;exact .inl ⟨b2 hn2,fl,fY _,MU,h9,ma,rL,va,e9,MV,ra,da,qa,oa,sa,pa⟩;rename_i w2 hn2;obtain⟨b3,b4⟩:=b1 w2 hn2;refine .inr ⟨b3,λy2 Hb Vo=>?_⟩;obtain⟨sb,rb,qb⟩:=b4 y2 Hb Vo;split at ea;cases ea;rename_i Bg Bh;refine⟨Ey,ha,ma,w2,Bg,MV.stp sb,rb,qb,Bh,λσb fb=>?_⟩;refine bK ea λVp hc2 ec ed=>?_;have db:Hb D=aB (.lst va):=sb.keep D _ oa da;have Vq:=J1.1 ma ha.n Ha ma ha.n Hb (bg _) (λ_ _=>rfl) (λb vs q=>sb.tup b vs q) (λb o u q=>sb.bF b o u q) pa;have Vr:=Bf.1 ma ha.n Ha ma ha.n Hb (bg _) (λ_ _=>rfl) (λb vs q=>sb.tup b vs q) (λb o u q=>sb.bF b o u q) pb;cases Vp<;>try cases ed
    rename_i MW;refine⟨Bg,ha,ma,MW,hc2,fb,rb,ec,λHc mc sc rc=>?_⟩;have oc:=sc.out oa db;have dc:Hc D=aB (.lst va):=sc.keep D _ oa db;have MX:=J1.1 ma ha.n Hb mc hc2.n Hc sc.le sc.same (λb vs q=>sc.tup b vs q) (λb o u q=>sc.bF b o u q) Vq;have MY:=Bf.1 ma ha.n Hb mc hc2.n Hc sc.le sc.same (λb vs q=>sc.tup b vs q) (λb o u q=>sc.bF b o u q) Vr;cases MW with
    |false=>
     simp only[dW,dg];exact⟨gl,fY _,Bg,hc2,mc,ny,va,ed,fb.stp sc,rc,dc,(qa.stp sb).stp sc,oc,(sa.trans sb).trans sc,MX,MY⟩
    |true=>
     simp only[cC];refine bK ed λyv hd2 ef eg=>?_;refine⟨Bg,hc2,mc,yv,hd2,fb.stp sc,rc,ef,λvd Hd md sd rd qd=>?_⟩;have od:=sd.out oc dc;have dd:Hd D=aB (.lst va):=sd.keep D _ oc dc;have pad:=J1.1 mc hc2.n Hc md hd2.n Hd sd.le sd.same (λb vs q=>sd.tup b vs q) (λb o u q=>sd.bF b o u q) MX;have Vs:=Bf.1 mc hc2.n Hc md hd2.n Hd sd.le sd.same (λb vs q=>sd.tup b vs q) (λb o u q=>sd.bF b o u q) MY;have MZ:=((qa.stp sb).stp sc).stp sd;have hlen:=Ex eg;rw[cY]at hlen;refine⟨va,dd,?_,gl,fY _,Bg,hd2,md,yv::ny,va++[vd],eg,?_⟩;rw[MZ.length,yO];have:big=sizeLine:=rfl;have hl2:rL.length<=ys.length:=Be;have hl3:ny.length+1<=rL.length:=hlen;lia;obtain⟨Bc,r9,mv⟩:=rd.side (u:=.lst (va++[vd])) dd (λ_ z=>nomatch z) (λ_ _ z=>nomatch z) od (((sa.trans sb).trans sc).trans sd) hD;have kt:∀b us,Hd b=aB (.tup us)->upd Hd D (.lst (va++[vd])) b=aB (.tup us):=λb us q=>by rw[b9 (cJ q dd λz=>nomatch z)];exact q
     have kf:∀b o u,Hd b=aB (.bF o u)->upd Hd D (.lst (va++[vd])) b=aB (.bF o u):=λb o u q=>by rw[b9 (cJ q dd λz=>nomatch z)];exact q
     refine⟨⟨(fb.stp sc).len,λi w e=>let⟨v,h1,h2⟩:=((fb.stp sc).stp sd).val i w e;⟨v,h1,mv h2⟩⟩,r9,eS,?_,od,Bc,J1.1 md hd2.n Hd md hd2.n _ (bg _) (λ_ _=>rfl) kt kf pad,Bf.1 md hd2.n Hd md hd2.n _ (bg _) (λ_ _=>rfl) kt kf Vs⟩;rw[List.reverse_cons];exact(MZ.map mv).append (.cons (mv qd) .nil)
theorem Vt{nx:Nat->VH->Option (Option W)}{tg:W->VH->En->Option En}{c e v:FE}{f i:Nat}{ρ:En}{h:VH}{acc ys:List (Key×W)}{h':VH}(q:jK nx tg c e v (f+1) i ρ h acc=.ok ys h'):∃o,nx i h=aB o:=by simp only[jK]at q;split at q;cases q;exact⟨_,by assumption⟩;exact⟨_,by assumption⟩
noncomputable abbrev Ii(kd:Kd)(fa:FE)(t:Tg)(ow:Nat)(ix:List Nat)(fc fe fv:FE):FE:=λρ h=>(fa ρ h).bind λx h=>(jK (aZ kd x) (bL t) fc fe fv fuel 0 (inner ow ix ρ) h []).bind λkvs h=>.ok (.ref h.n) (h.new (.dm kvs))
theorem t8{K:aK}{kd:Kd}{t:Tg}{ow fr:List Str}{ix:List Nat}{fe fv:FE}{σ:L2.St}{H:Hp}{Q:VK}(q:eF K (Ii kd fa t ow.length ix fc fe fv) σ H Q):Ec K (ju ow fr ix) (ck K kd fa) (cK K t) (cV K fc) (L6 (eF K fe) (eF K fv)) (.dK []) σ H Q:=by
 refine q.el λρ h m w h' f r e k=>?_;refine bK e λx h1 e1 e2=>?_;refine bK e2 λys h2 e3 e4=>?_;cases e4;refine(.mk f r e1 ?_ λJ P H1 m1 s1 r1 J1 p1 D hD hK=>?_);exact Vt (f:=999999) e3;obtain⟨i9,r0⟩:=r1.more (u:=.dK []) hD;have p0:=J1.1 m1 h1.n H1 m1 h1.n (upd H1 D (.dK [])) (bg _) (λ_ _=>rfl) (λb vs q=>i9.tup b vs q) (λb o u q=>i9.bF b o u q) p1;refine⟨λi fl σ' H'=>∃ρ' h3 m3 acc vs,jK (aZ kd x) (bL t) fc fe fv fl i ρ' h3 acc=.ok ys h2/\Fr K m3 h3.n H' σ' ρ'/\Rel K m3 h3 H'/\H' D=aB (.dK vs)/\aN K m3 h3.n H' vs acc/\(∀i,i<h3.n->m3 i≠D)/\bZ m1 h1.n H1 m3 h3.n H'/\P m3 h3.n H',
  ⟨fuel,inner ow.length ix ρ,h1,m1,[],[],e3,Ib ((f.stp s1).stp i9),r0,eS,.nil,r1.out hD,i9,p0⟩,?_⟩
 rintro i fl σ' H' ⟨ρ',h3,m3,acc,vs,e5,f3,r3,d3,q3,o3,s3,p3⟩;cases fl with
 |zero=>cases e5
 |succ fl=>
  simp only[jK]at e5;obtain⟨j1,j2⟩:=J1.2 m3 h3 H' r3 p3 i;split at e5;cases e5;rename_i hn;cases e5;refine .inl ⟨j2 hn,?_⟩;obtain⟨st,r'⟩:=r3.adopt (o:=.dm ys) (u:=.dK vs) o3 d3 (λ_ z=>nomatch z) (λ_ _ z=>nomatch z) (s1.trans s3) (by
   cases z:H D with
   |none=>rfl
   |some o=>
    have:=s1.keep D o (λi hi z2=>(r1.out hD) i (dI hi s1.le) ((s1.same i hi).trans z2)) z;rw[hD]at this;cases this) λ_ mv=>⟨_,eS,q3.map mv⟩
  rw[Ie d3]at st r';refine k _ _ _ st r' ?_;have:aJ K (λi=>if i=h2.n then D else m3 i) (h2.n+1) H' (.ref ((λi=>if i=h2.n then D else m3 i) h2.n)) (.ref h2.n):=.ref (fY _);simp only[cC]at this;exact this;rename_i w hn;obtain⟨j3,j4⟩:=j1 w hn;refine .inr ⟨j3,λy H4 hy=>?_⟩;obtain⟨s4,r4,q4⟩:=j4 y H4 hy;split at e5;cases e5;rename_i jy ht;refine⟨ρ',h3,m3,w,jy,f3.stp s4,r4,q4,ht,λkh f5=>?_⟩;refine bK e5 λbv h6 e6 e7=>?_;have d4:H4 D=aB (.dK vs):=s4.keep D _ o3 d3;have t7:=s3.trans s4;have p4:=J1.1 m3 h3.n H' m3 h3.n H4 (bg _) (λ_ _=>rfl) (λb vs q=>s4.tup b vs q) (λb o u q=>s4.bF b o u q) p3;cases bv<;>try cases e7
  rename_i bb;refine⟨jy,h3,m3,bb,h6,f5,r4,e6,λH6 m6 s6 r6=>?_⟩;have o6:=s6.out o3 d4;have d6:H6 D=aB (.dK vs):=s6.keep D _ o3 d4;have p6:=J1.1 m3 h3.n H4 m6 h6.n H6 s6.le s6.same (λb vs q=>s6.tup b vs q) (λb o u q=>s6.bF b o u q) p4;cases bb with
  |false=>
   simp only[dW,dg];exact⟨fl,fY _,jy,h6,m6,acc,vs,e7,f5.stp s6,r6,d6,(q3.stp s4).stp s6,o6,t7.trans s6,p6⟩
  |true=>
   simp only[cC];refine bK e7 λy7 h7 e8 e9=>?_;refine bK e9 λy8 h8 vS nT=>?_;refine⟨jy,h6,m6,y7,h7,f5.stp s6,r6,e8,λv7 H7 m7 s7 r7 q7=>⟨jy,h7,m7,y8,h8,(f5.stp s6).stp s7,r7,vS,λv8 H8 m8 s8 r8 q8=>?_⟩⟩;have o7:=s7.out o6 d6;have d7:H7 D=aB (.dK vs):=s7.keep D _ o6 d6;have o8:=s8.out o7 d7;have d8:H8 D=aB (.dK vs):=s8.keep D _ o7 d7;have vV:=s7.trans s8;have p8:=J1.1 m6 h6.n H6 m8 h8.n H8 vV.le vV.same (λb vs q=>vV.tup b vs q) (λb o u q=>vV.bF b o u q) p6;have M1:=((q3.stp s4).stp s6).stp vV;split at nT;rename_i kk hk;split at nT;rename_i hz;refine⟨vs,kk,d8,yl (q7.stp s8) hk,?_,fl,fY _,jy,h8,m8,bD acc kk y8,putK vs kk v8,nT,?_⟩;rw[M1.length];exact gO.mp hz;obtain⟨Bc,r9,mv⟩:=r8.side (u:=.dK (putK vs kk v8)) d8 (λ_ z=>nomatch z) (λ_ _ z=>nomatch z) o8 ((t7.trans s6).trans vV) hD;have kt:∀b us,H8 b=aB (.tup us)->upd H8 D (.dK (putK vs kk v8)) b=aB (.tup us):=λb us q=>by rw[b9 (cJ q d8 λz=>nomatch z)];exact q
   have kf:∀b o u,H8 b=aB (.bF o u)->upd H8 D (.dK (putK vs kk v8)) b=aB (.bF o u):=λb o u q=>by rw[b9 (cJ q d8 λz=>nomatch z)];exact q
   exact⟨⟨(f5.stp s6).len,λi w e=>let⟨v,h1,h2⟩:=((f5.stp s6).stp vV).val i w e;⟨v,h1,mv h2⟩⟩,r9,eS,(M1.put q8 kk).map mv,o8,Bc,J1.1 m8 h8.n H8 m8 h8.n _ (bg _) (λ_ _=>rfl) kt kf p8⟩;cases nT;cases nT
end
noncomputable def fO(h h':VH):Prop:=h.n<=h'.n/\h'.lo<=h.lo/\∀i,i<h.n->i<h'.lo->h'.get i=h.get i
theorem fO.refl{h:VH}:fO h h:=⟨bg _,bg _,λ_ _ _=>rfl⟩
theorem fO.trans{h h1 h2:VH}(a:fO h h1)(b:fO h1 h2):fO h h2:=⟨gF a.1 b.1,gF b.2.1 a.2.1,λi hi hl=>(b.2.2 i (dI hi a.1) hl).trans (a.2.2 i hi (dI hl b.2.1))⟩
theorem fO.new{h:VH}{o:VO}:fO h (h.new o):=⟨qK _,bg _,λi hi _=>ig hi⟩
theorem fO.set{h:VH}{i:Nat}{o:VO}(hi:i<h.n):fO h (h.set i o):=by refine⟨bg _,?_,λj hj hl=>nV hi ?_⟩;show(if Nat.blt i h.lo then i else h.lo)<=h.lo;split;rename_i q;exact sZ (gO.mp q);exact bg _;have hl:j< (if Nat.blt i h.lo then i else h.lo):=hl;split at hl;lia;rename_i q;intro z;rw[z]at hl;exact q (gO.mpr hl)
noncomputable def Gr{α:Type}(r:Res α)(h:VH):Prop:=∀a h',r=.ok a h'->fO h h'
section
variable{α β:Type}{h:VH}
theorem Gr.ok{a:α}:Gr (Res.ok a h) h:=λ_ _ e=>by cases e;exact .refl
theorem Gr.no:Gr (Res.no:Res α) h:=λ_ _ e=>by cases e
theorem Gr.of{o:Option α}:Gr (Res.of o h) h:=λ_ _ e=>by cases o with|none=>cases e|some a=>cases e;exact .refl
theorem Gr.new{a:α}{o:VO}:Gr (Res.ok a (h.new o)) h:=λ_ _ e=>by cases e;exact .new
theorem Gr.set{a:α}{o o':VO}{i:Nat}(g:h.get i=aB o'):Gr (Res.ok a (h.set i o)) h:=λ_ _ e=>by cases e;exact .set (cg g)
theorem Gr.bind{r:Res α}{f:α->VH->Res β}(a:Gr r h)(b:∀x h1,Gr (f x h1) h1):Gr (r.bind f) h:=λy h' e=>by
 cases r with|ok x h1=>exact(a x h1 rfl).trans (b x h1 y h' e)|ex _ _=>cases e|no=>cases e
end
theorem Bj{o:Op}{x y:W}{h:VH}:Gr (iE o x y h) h:=by unfold iE;split;exact .of;exact .of;exact .of;split;split;exact .new;exact .no;exact .no;exact .no
theorem Bk{o:Op}{x y:W}{h:VH}:Gr (vM o x y h) h:=by unfold vM;split;split;exact .ok;exact .ok;exact .of;exact .of;exact .no;split;split;rename_i g _ _;exact .set g;exact .no;exact .no;split;split;exact .ok;exact .no;exact .no;exact .no
theorem Vu{x:W}{l u:Option Int}{h:VH}:Gr (kD x l u h) h:=by unfold kD;split;exact .ok;split;exact .new;exact .no;exact .no
theorem Bl{b:Bi}{xs:List W}{h:VH}:Gr (mh b xs h) h:=by
 cases b<;>simp only[mh];unfold jf;split<;>first|exact .of|exact .no
 unfold iO;split;split;exact .new;exact .no;exact .no;unfold vN;split<;>first|exact .of|exact .no
 unfold nh;split<;>first|exact .ok|exact .no
 unfold lC;split<;>first|exact .ok|exact .no
 unfold ni;split;exact .ok;split;split;exact .ok;exact .no;exact .no;exact .no;unfold rG;split<;>first|exact .ok|exact .no
 unfold nj;split;split;exact .of;exact .no;exact .no;unfold tX;split;split;exact .new;exact .no;exact .no;unfold vO;split;exact .new;exact .no;unfold nk;split;split;rename_i g;exact .set g;exact .no;exact .no;unfold nq;split;split;split;exact .new;exact .no;exact .no;exact .no
theorem Bm{m:Mt}{o:W}{xs:List W}{h:VH}:Gr (jV m o xs h) h:=by unfold jV;split;unfold oM;split;split;exact .no;split;rename_i g _ _ _;exact .set g;exact .no;exact .no;split;split;rename_i g _;exact .set g;exact .no;exact .no;split;exact .ok;exact .ok;exact .no;exact .no
theorem Ij{nx:Nat->VH->Option (Option W)}{tg:W->VH->En->Option En}{c e:En->VH->Res W}(hc:∀ρ h,Gr (c ρ h) h)(he:∀ρ h,Gr (e ρ h) h):∀(f i:Nat) (ρ:En) (h:VH) (acc:List W),Gr (jx nx tg c e f i ρ h acc) h
 |0,_,_,_,_=>.no
 |f+1,i,ρ,h,acc=>by
  simp only[jx];split;exact .no;exact .ok;split;exact .no;refine .bind (hc _ _) λb h1=>?_;split;exact .bind (he _ _) λy h2=>Ij hc he f _ _ _ _;exact Ij hc he f _ _ _ _;exact .no
theorem Ik{nx:Nat->VH->Option (Option W)}{tg:W->VH->En->Option En}{c:En->VH->Res W}{e:En->VH->List W->Res (En×List W)}(hc:∀ρ h,Gr (c ρ h) h)(he:∀ρ h acc,Gr (e ρ h acc) h):∀(f i:Nat) (ρ:En) (h:VH) (acc:List W),Gr (kZ nx tg c e f i ρ h acc) h
 |0,_,_,_,_=>.no
 |f+1,i,ρ,h,acc=>by
  simp only[kZ];split;exact .no;exact .ok;split;exact .no;refine .bind (hc _ _) λb h1=>?_;split;exact .bind (he _ _ _) λy h2=>Ik hc he f _ _ _ _;exact Ik hc he f _ _ _ _;exact .no
theorem oS{nx:Nat->VH->Option (Option W)}{tg:W->VH->En->Option En}{c e:En->VH->Res W}(hc:∀ρ h,Gr (c ρ h) h)(he:∀ρ h,Gr (e ρ h) h):∀(f i:Nat) (ρ:En) (h:VH) (acc:List W),Gr (gC nx tg c e f i ρ h acc) h
 |0,_,_,_,_=>.no
 |f+1,i,ρ,h,acc=>by
  simp only[gC];split;exact .no;exact .ok;split;exact .no;refine .bind (hc _ _) λb h1=>?_;split;exact .bind (he _ _) λy h2=>oS hc he f _ _ _ _;exact oS hc he f _ _ _ _;exact .no
theorem oU{nx:Nat->VH->Option (Option W)}{tg:W->VH->En->Option En}{c e v:En->VH->Res W}(hc:∀ρ h,Gr (c ρ h) h)(he:∀ρ h,Gr (e ρ h) h)(hv:∀ρ h,Gr (v ρ h) h):∀(f i:Nat) (ρ:En) (h:VH) (acc:List (L2.Key×W)),Gr (jK nx tg c e v f i ρ h acc) h
 |0,_,_,_,_=>.no
 |f+1,i,ρ,h,acc=>by
  simp only[jK];split;exact .no;exact .ok;split;exact .no;refine .bind (hc _ _) λb h1=>?_;split;refine .bind (he _ _) λy h2=>.bind (hv _ _) λz h3=>?_;split;split;exact oU hc he hv f _ _ _ _;exact .no;exact .no;exact oU hc he hv f _ _ _ _;exact .no
theorem Il{nx:Nat->VH->Option (Option W)}{tg:W->VH->En->Option En}{b:En->VH->Res Fl}(hb:∀ρ h,Gr (b ρ h) h):∀(f i:Nat) (ρ:En) (h:VH),Gr (eE nx tg b f i ρ h) h
 |0,_,_,_=>.no
 |f+1,i,ρ,h=>by
  simp only[eE];split;exact .no;exact .ok;split;exact .no;refine .bind (hb _ _) λfl h1=>?_;split;exact Il hb f _ _ _;exact Il hb f _ _ _;exact .ok;exact .ok
theorem Im{c:En->VH->Res W}{b:En->VH->Res Fl}(hc:∀ρ h,Gr (c ρ h) h)(hb:∀ρ h,Gr (b ρ h) h):∀(f:Nat) (ρ:En) (h:VH),Gr (dY c b f ρ h) h
 |0,_,_=>.no
 |f+1,ρ,h=>by
  simp only[dY];refine .bind (hc _ _) λt h1=>?_;split;exact .ok;refine .bind (hb _ _) λfl h2=>?_;split;exact Im hc hb f _ _;exact Im hc hb f _ _;exact .ok;exact .ok;exact .no
section
variable{cl:Call}
theorem Bo(hcl:∀f ws h,Gr (cl f ws h) h):∀(e:E) (ρ:En) (h:VH),Gr (ev cl e ρ h) h:=by
 intro e;induction e with
 |var i=>intro ρ h;exact .of
 |cst w=>intro ρ h;exact .ok
 |nil=>intro ρ h;exact .ok
 |cons a r i1 i2=>intro ρ h;simp only[ev];refine .bind (i1 _ _) λx h1=>.bind (i2 _ _) λy h2=>?_;split<;>first|exact .ok|exact .no
 |tup a i1=>intro ρ h;simp only[ev];refine .bind (i1 _ _) λx h1=>?_;split<;>first|(split<;>first|exact .ok|exact .no)|exact .no
 |lst a i1=>intro ρ h;simp only[ev];refine .bind (i1 _ _) λx h1=>?_;split<;>first|(split<;>first|exact .new|exact .no)|exact .no
 |AF a i1=>
  intro ρ h;simp only[ev];refine .bind (i1 _ _) λx h1=>?_;split;split;split;exact .new;exact .no;unfold nt;split;split;exact .new;exact .no;exact .no;exact .no
 |op o a b i1 i2=>intro ρ h;simp only[ev];exact .bind (i1 _ _) λx h1=>.bind (i2 _ _) λy h2=>Bj
 |neg a i1=>intro ρ h;simp only[ev];refine .bind (i1 _ _) λx h1=>?_;split<;>first|exact .ok|exact .no
 |cmp c a b i1 i2=>intro ρ h;simp only[ev];exact .bind (i1 _ _) λx h1=>.bind (i2 _ _) λy h2=>.of
 |yc c d a b e i1 i2 i3=>
  intro ρ h;simp only[ev];refine .bind (i1 _ _) λx h1=>.bind (i2 _ _) λy h2=>?_;split;exact .bind (i3 _ _) λz h3=>.of;exact .ok;exact .no
 |not a i1=>intro ρ h;simp only[ev];refine .bind (i1 _ _) λx h1=>?_;split<;>first|exact .ok|exact .no
 |and a b i1 i2=>intro ρ h;simp only[ev];refine .bind (i1 _ _) λx h1=>?_;split<;>first|exact i2 _ _|exact .ok|exact .no
 |or a b i1 i2=>intro ρ h;simp only[ev];refine .bind (i1 _ _) λx h1=>?_;split<;>first|exact i2 _ _|exact .ok|exact .no
 |p9 a i1=>intro ρ h;simp only[ev];exact .bind (i1 _ _) λx h1=>.of
 |ite c a b i1 i2 i3=>
  intro ρ h;simp only[ev];refine .bind (i1 _ _) λx h1=>?_;split;exact i2 _ _;exact i3 _ _;exact .no
 |idx a b i1 i2=>intro ρ h;simp only[ev];exact .bind (i1 _ _) λx h1=>.bind (i2 _ _) λy h2=>.of
 |slc a bl lo bh hi i1 i2 i3=>
  intro ρ h;simp only[ev];refine .bind (i1 _ _) λx h1=>.bind (i2 _ _) λy h2=>.bind (i3 _ _) λz h3=>?_;split;exact Vu;exact .no
 |call f a i1=>intro ρ h;simp only[ev];refine .bind (i1 _ _) λx h1=>?_;split<;>first|exact hcl _ _ _|exact .no
 |bi b a i1=>intro ρ h;simp only[ev];refine .bind (i1 _ _) λx h1=>?_;split<;>first|exact Bl|exact .no
 |vL t a i1=>intro ρ h;simp only[ev];exact .bind (i1 _ _) λx h1=>.of
 |mt m o a i1 i2=>
  intro ρ h;simp only[ev];refine .bind (i1 _ _) λx h1=>?_;split;refine .bind (i2 _ _) λy h2=>?_;split<;>first|exact Bm|exact .no
  exact .no
 |lc k a t ow ix c e i1 i2 i3=>
  intro ρ h;simp only[ev];refine .bind (i1 _ _) λx h1=>.bind (oS i2 i3 _ _ _ _ _) λys h2=>?_;split;exact .new;exact .no
 |yd k a t ow ix c k2 a2 t2 c2 e i1 i2 i3 i4 i5=>
  intro ρ h;simp only[ev];refine .bind (i1 _ _) λx h1=>.bind (Ik i2 (λρ h acc=>.bind (i3 _ _) λy h2=>Ij i4 i5 _ _ _ _ _) _ _ _ _ _) λys h2=>?_;split;exact .new;exact .no
 |dc k a t ow ix c e v i1 i2 i3 i4=>
  intro ρ h;simp only[ev];exact .bind (i1 _ _) λx h1=>.bind (oU i2 i3 i4 _ _ _ _ _) λys h2=>.new
theorem Io(hcl:∀f ws h,Gr (cl f ws h) h):∀(s:S) (ρ:En) (h:VH),Gr (exs cl s ρ h) h:=by
 have ge:=Bo hcl;intro s;induction s with
 |skip=>intro ρ h;exact .ok
 |seq a b i1 i2=>intro ρ h;simp only[exs];refine .bind (i1 _ _) λfl h1=>?_;split<;>first|exact i2 _ _|exact .ok
 |set i e=>intro ρ h;simp only[exs];exact .bind (ge _ _ _) λw h1=>.ok
 |ye is e=>intro ρ h;simp only[exs];exact .bind (ge _ _ _) λw h1=>.of
 |aug i o e=>
  intro ρ h;simp only[exs];split;exact .bind (ge _ _ _) λy h1=>.bind Bk λz h2=>.ok;exact .no
 |put o i v=>
  intro ρ h;simp only[exs];refine .bind (ge _ _ _) λw h1=>.bind (ge _ _ _) λx h2=>.bind (ge _ _ _) λy h3=>?_;split;split;split;rename_i g _ _ _;exact .set g;exact .no;unfold oN;split;split;rename_i g _;exact .set g;exact .no;exact .no;unfold putD;split;split;rename_i g _ _;exact .set g;exact .no;exact .no;exact .no
 |ite c a b i1 i2=>
  intro ρ h;simp only[exs];refine .bind (ge _ _ _) λx h1=>?_;split;exact i1 _ _;exact i2 _ _;exact .no
 |ret e=>intro ρ h;simp only[exs];exact .bind (ge _ _ _) λw h1=>.ok
 |expr e=>intro ρ h;simp only[exs];exact .bind (ge _ _ _) λw h1=>.ok
 |brk=>intro ρ h;exact .ok
 |cnt=>intro ρ h;exact .ok
 | «for» k a t b i1=>intro ρ h;simp only[exs];exact .bind (ge _ _ _) λx h1=>Il i1 _ _ _ _
 |AG c b i1=>intro ρ h;simp only[exs];exact Im (ge c) i1 _ _ _
 |no=>intro ρ h;exact .no
end
theorem Ip(F:Nat->Option Fn):∀(k f:Nat) (ws:List W) (h:VH),Gr (run F k f ws h) h
 |0,_,_,_=>.no
 |k+1,f,ws,h=>by
  intro a h' e;simp only[run]at e;split at e;rename_i fn hf;split at e;rename_i hl;generalize hr:exs (run F k) fn.body (ws.map aB++bV (fn.n-fn.ps) aC) ⟨h.n,h.n,h.os⟩=r at e;have g:=Io (Ip F k) fn.body (ws.map aB++bV (fn.n-fn.ps) aC) ⟨h.n,h.n,h.os⟩;rw[hr]at g;have lv:∀w h1,fO ⟨h.n,h.n,h.os⟩ h1->leave h w h1=.ok a h'->fO h h':=by
   intro w h1 g1 e1;unfold leave at e1;split at e1;cases e1;exact .refl;cases e1;refine⟨g1.1,?_,λi hi hlo=>?_⟩;show(if Nat.ble h.lo h1.lo then h.lo else h1.lo)<=h.lo;split;exact bg _;rename_i q;exact Nat.le_of_not_le λz=>q (qL.mpr z);have hlo:i< (if Nat.ble h.lo h1.lo then h.lo else h1.lo):=hlo;have hh:i<h1.lo:=by split at hlo;rename_i q;exact dI hlo (k9 q);exact hlo
   exact g1.2.2 i hi hh
  cases r with
  |no=>cases e
  |ex _ _=>cases e
  |ok fl h1=>
   have g1:=g fl h1 rfl;simp only[Res.bind]at e;split at e;exact lv _ _ g1 e;exact lv _ _ g1 e;cases e
  cases e;cases e
end RF
namespace HT
open PySem PySem.Spec PyProof.Rows
theorem oV{prog:ai}{w:aj}{A:ak}{E:aa->af->Prop}{s:af}{t b:ah}{vs ws:List aa}{Q:aa->af->Prop}(ht:IsTup s.heap t vs.toArray)(hb:IsTup s.heap b ws.toArray)(hv:vs≠[])
 (h1:ws=[]->Q (.ref t) s) (h2:ws≠[]->Q (.ref s.heap.objs.size) {s with heap:=s.heap.push {cls:=.type "tuple",data:=.seq (vs++ws).toArray}})
 (hsz:vs.length+ws.length<=sizeLine):wpAny (model prog w) A (inplaceOp .Add (.ref t) (.ref b)) Q E s:=by
 obtain⟨⟨cls,dd,data,sl⟩,ho,hc,n,hd⟩:=id ht;obtain⟨⟨GC,dd2,data2,sl2⟩,ho2,hc2,n2,hd2⟩:=id hb;simp only at hc hd hc2 hd2;subst hc hd hc2 hd2;have e:vs.toArray++ws.toArray=(vs++ws).toArray:=by simp
 have hno:typeLookup (.type "tuple") (dunderI "add")=pure aC:=by rfl
 by_cases hw:ws=[]
 exact wpAny_inplaceOp_concat ⟨_,ho,rfl⟩ ⟨_,ho2,rfl⟩ hno yI yJ (qz yY ⟨_,ho,rfl⟩ yX (yW _ _)
  (tuple_addW1 t b vs.toArray ws.toArray n n2 dd dd2 sl sl2 (by simpa using hv) (by simp[hw])) ⟨ho,ho2,h1 hw⟩)
 refine wpAny_inplaceOp_concat ⟨_,ho,rfl⟩ ⟨_,ho2,rfl⟩ hno yI yJ (qz yY ⟨_,ho,rfl⟩ yX (yW _ _)
  (tuple_addW2 t b vs.toArray ws.toArray n n2 dd dd2 sl sl2 (by simpa using hv) (by simpa using hw) (by rw[dQ,dQ];exact hsz)) ⟨ho,ho2,?_⟩)
 rw[e];exact h2 hw
end HT
namespace L2
open PySem PySem.Spec PyProof.Rows
variable{X:Cx}
theorem Vv:xW X .Add (lX X.K):=by intro pins s σ H x y v u Q I rx ry h;obtain⟨a,b,xs,ys,rfl,rfl,ha,hb,hx,hz,q1,q2⟩:=h;cases rx;cases ry;obtain⟨its,r1,p1,_⟩:=I.tuple ha;obtain⟨its2,r2,p2,_⟩:=I.tuple hb;refine HT.oV p1 p2 (λz=>hx (r1.eU.mp z)) (λz=>⟨.ref a,H,I,rfl,q1 (r2.eU.mp z)⟩) (λz=>?_) (by rw[<-r1.length,<-r2.length];exact hz);refine⟨.ref s.heap.objs.size,_,I.laid (t':=s.toks) (o:=.tup (xs++ys)) (λb ob q=>cQ _ q) (bg _) ?_,rfl,q2 (λw=>z (r2.eU.mpr w)) _ (I.hok.fresh (bg _))⟩;exact⟨by rw[eY];exact hz,_,r1.append r2,kU.new _ _⟩
end L2
namespace RF
open PySem PySem.Spec PyProof.Rows L2
noncomputable def vW(K:aK)(m:Nat->ah)(n:Nat)(H:Hp)(D:Ends):Fl->Prop|.nx ρ=>∀σ,Fr K m n H σ ρ->D.nx σ H|.bk ρ=>∀σ,Fr K m n H σ ρ->D.bk σ H|.ct ρ=>∀σ,Fr K m n H σ ρ->D.ct σ H|.rt w=>∀v,aJ K m n H v w->D.rt v H
noncomputable def jM(K:aK)(f:FS):TS:=λD σ H=>∃ρ h m fl h',Fr K m h.n H σ ρ/\Rel K m h H/\f ρ h=.ok fl h'/\∀H' m',bZ m h.n H m' h'.n H'->Rel K m' h' H'->vW K m' h'.n H' D fl
theorem jM.el{K:aK}{D:Ends}{σ:L2.St}{H:Hp}{P:Prop}{fa:FS}(q:jM K fa D σ H)(k:∀ρ h m fl h',Fr K m h.n H σ ρ->Rel K m h H->fa ρ h=.ok fl h'->(∀H' m',bZ m h.n H m' h'.n H'->Rel K m' h' H'->vW K m' h'.n H' D fl)->P):P:=by obtain⟨ρ,h,m,w,h',f,r,e,k'⟩:=q;exact k ρ h m w h' f r e k'
theorem jM.mk{K:aK}{D:Ends}{σ:L2.St}{H:Hp}{m:Nat->ah}{ρ:En}{h h':VH}{fl:Fl}{fa:FS}(f:Fr K m h.n H σ ρ)(r:Rel K m h H)(e:fa ρ h=.ok fl h')(k:∀H' m',bZ m h.n H m' h'.n H'->Rel K m' h' H'->vW K m' h'.n H' D fl):jM K fa D σ H:=⟨ρ,h,m,fl,h',f,r,e,k⟩
noncomputable abbrev SS(X:Cx)(st:aq)(f:FS):Prop:=PS X st (jM X.K f)
noncomputable abbrev rM(X:Cx)(st:List aq)(f:FS):Prop:=kW X st (jM X.K f)
section
variable{X:Cx}{a b c e o:ao}{es:List ao}{fa fb fc fo fr:FE}{pos p:Pos}{x:Str}{st:aq}{sts:List aq}{ga gb:FS}
noncomputable abbrev t9:FS:=λρ h=>.ok (.nx ρ) h
noncomputable abbrev Iq(ga gb:FS):FS:=λρ h=>(ga ρ h).bind λfl h=>match fl with|.nx ρ=>gb ρ h|fl=>.ok fl h
theorem Vw:rM X [] t9:=Qe.imp λD σ H z9=>z9.el λρ h m fl h' f r e k=>by cases e;exact k H m .refl r σ f
theorem Vx:SS X (.Pass pos) t9:=Qh.imp λD σ H z9=>z9.el λρ h m fl h' f r e k=>by cases e;exact k H m .refl r σ f
theorem Vy:SS X (.Break pos) (λρ h=>.ok (.bk ρ) h):=Qi.imp λD σ H z9=>z9.el λρ h m fl h' f r e k=>by cases e;exact k H m .refl r σ f
theorem Vz:SS X (.Continue pos) (λρ h=>.ok (.ct ρ) h):=Qj.imp λD σ H z9=>z9.el λρ h m fl h' f r e k=>by cases e;exact k H m .refl r σ f
theorem VA(h1:SS X st ga)(h2:rM X sts gb):rM X (st::sts) (Iq ga gb):=(Qf h1 h2).imp λD σ H z9=>z9.el λρ h m fl h' f r e k=>by
 refine bK e λVB h1 e1 e2=>?_;refine(.mk f r e1 λH1 m1 s1 r1=>?_);cases VB with|nx dZ=>exact λσ1 f1=>⟨dZ,h1,m1,fl,h',f1,r1,e2,λH' m' s' r'=>k H' m' (s1.trans s') r'⟩|bk dZ=>cases e2;exact k H1 m1 s1 r1|ct dZ=>cases e2;exact k H1 m1 s1 r1|rt w=>cases e2;exact k H1 m1 s1 r1
theorem Bp:SS X st (λ_ _=>.no):=Qo.imp λD σ H z9=>z9.el λρ h m fl h' f r e k=>by cases e
noncomputable def Ez:ao->Bool|.ListComp .. |.SetComp .. |.DictComp ..=>false|_=>true
theorem M3{e:ao}{t:Option ao}{l:Nat}{env:Env}(h:Ez e):swapsWith e t l env=pure false:=by cases e<;>first|rfl|cases h
theorem VC(he:SE X e fa)(hs:Ez e):SS X (.Expr e pos) (λρ h=>(fa ρ h).bind λ_ h=>.ok (.nx ρ) h):=(Qk he (M3 hs)).imp λD σ H z9=>z9.el λρ h m fl h' f r e k=>by
 refine bK e λw h1 e1 e2=>?_;cases e2;exact(.mk f r e1 λv H1 m1 s1 r1 q1=>k H1 m1 s1 r1 σ (f.stp s1))
theorem VD(he:SE X e fa):SS X (.Return (aB e) pos) (λρ h=>(fa ρ h).bind λw h=>.ok (.rt w) h):=(Ql he).imp λD σ H z9=>z9.el λρ h m fl h' f r e k=>by
 refine bK e λw h1 e1 e2=>?_;cases e2;exact(.mk f r e1 λv H1 m1 s1 r1 q1=>k H1 m1 s1 r1 v q1)
theorem VE:SS X (.Return aC pos) (λρ h=>(Res.ok W.aQ h).bind λw h=>.ok (.rt w) h):=Qm.imp λD σ H z9=>z9.el λρ h m fl h' f r e k=>by
 cases e;exact k H m .refl r .aQ .aQ
noncomputable abbrev oW(i:Nat)(fa:FE):FS:=λρ h=>(fa ρ h).bind λw h=>.ok (.nx (ρ.set i (aB w))) h
theorem EA{K:aK}{i:Nat}{D:Ends}{σ:L2.St}{H:Hp}(q:jM K (oW i fa) D σ H):eF K fa σ H λv H1=>iK i v σ H1 D.nx:=by refine q.el λρ h m fl h' f r e k=>?_;refine bK e λw h1 e1 e2=>?_;cases e2;exact(.mk f r e1 λv H1 m1 s1 r1 q1=>k H1 m1 s1 r1 _ ((f.stp s1).set q1 i))
theorem Ir{i:Nat}{pos':Pos}(hN:X.N.Nodup)(hi:X.N[i]?=aB x)(hx:Loc X.env.scope x)(hf:X.fn x=true\/X.env.scope.names.lookup x=aB .local)(he:SE X e fa)
 (hs:swapsWith e (aB (.Name x pos')) pos.line X.env=pure false):SS X (.Assign [.Name x pos'] e pos) (oW i fa):=(Qq hN hi hx he hs hf).imp λD σ H q=>EA q
theorem VF{i:Nat}{pos' lp:Pos}{ow fr:List Str}{ix:List Nat}{scope:ay}{tg iter elt:ao}{ifs:List ao}{kd:Kd}{t:Tg}{fe:FE}(hN:X.N.Nodup)(hi:X.N[i]?=aB x)(hx:Loc X.env.scope x)(hf:X.fn x=true\/X.env.scope.names.lookup x=aB .local)
 (S:aY X ow fr ix scope) (hc:X.calm) (hI:PI X tg iter (ck X.K kd fa)) (hg:∀C s₀ H₀ ex,PG (X.comp (ow++fr) scope C s₀ H₀ ex) tg (cK X.K t)) (ht:∀C s₀ H₀ ex,iL (X.comp (ow++fr) scope C s₀ H₀ ex) ifs (cV X.K fc))
 (he:∀C s₀ H₀ ex,PE (X.comp (ow++fr) scope C s₀ H₀ ex) elt (eF X.K fe)) (hsw:swapsWith (.ListComp elt [⟨tg,iter,ifs,0⟩] scope lp) (aB (.Name x pos')) pos.line X.env=pure true) (hs:∀x,foldedSetIterable iter X.env x=pure x) :
 SS X (.Assign [.Name x pos'] (.ListComp elt [⟨tg,iter,ifs,0⟩] scope lp) pos) (oW i (Ig kd fa t ow.length ix fc fe)):=
 (RX hN hi hx S hc hI hg ht he hsw hf hs).imp λD σ H q=>t6 (EA q)
theorem Bq{lp:Pos}{ow fr:List Str}{ix:List Nat}{scope:ay}{tg iter elt:ao}{ifs:List ao}{kd:Kd}{t:Tg}{fe:FE}
 (S:aY X ow fr ix scope) (hc:X.calm) (hI:PI X tg iter (ck X.K kd fa)) (hg:∀C s₀ H₀ ex,PG (X.comp (ow++fr) scope C s₀ H₀ ex) tg (cK X.K t)) (ht:∀C s₀ H₀ ex,iL (X.comp (ow++fr) scope C s₀ H₀ ex) ifs (cV X.K fc))
 (he:∀C s₀ H₀ ex,PE (X.comp (ow++fr) scope C s₀ H₀ ex) elt (eF X.K fe)) (hs:∀x,foldedSetIterable iter X.env x=pure x) :
 SE X (.ListComp elt [⟨tg,iter,ifs,0⟩] scope lp) (Ig kd fa t ow.length ix fc fe):=(Ad S hc hI hg ht he hs).imp λσ H Q q=>t6 q
theorem VG{lp:Pos}{ow fr:List Str}{ix:List Nat}{scope:ay}{tg iter elt gJ bC:ao}{ifs dM:List ao}{kd iS:Kd}{t t2:Tg}{fe nW nv:FE}
 (S:aY X ow fr ix scope) (hc:X.calm) (hI:PI X tg iter (ck X.K kd fa)) (hg:∀C s₀ H₀ ex,PG (X.comp (ow++fr) scope C s₀ H₀ ex) tg (cK X.K t)) (ht:∀C s₀ H₀ ex,iL (X.comp (ow++fr) scope C s₀ H₀ ex) ifs (cV X.K fc))
 (lF:∀C s₀ H₀ ex,PI (X.comp (ow++fr) scope C s₀ H₀ ex) gJ bC (ck X.K iS nW)) (vX:∀C s₀ H₀ ex,PG (X.comp (ow++fr) scope C s₀ H₀ ex) gJ (cK X.K t2)) (Bh:∀C s₀ H₀ ex,iL (X.comp (ow++fr) scope C s₀ H₀ ex) dM (cV X.K nv))
 (he:∀C s₀ H₀ ex,PE (X.comp (ow++fr) scope C s₀ H₀ ex) elt (eF X.K fe)) (hs:∀x,foldedSetIterable iter X.env x=pure x) (hs2:∀C s₀ H₀ ex x,foldedSetIterable bC (X.comp (ow++fr) scope C s₀ H₀ ex).env x=pure x) :
 SE X (.ListComp elt [⟨tg,iter,ifs,0⟩,⟨gJ,bC,dM,0⟩] scope lp) (vU kd fa t ow.length ix fc iS nW t2 nv fe):=
 (tR Mb rfl S hc hI hg ht (λC s₀ H₀ ex D=>Ma (X:=X.comp (ow++fr) scope C s₀ H₀ ex) hc rfl (lF C s₀ H₀ ex) (vX C s₀ H₀ ex) (Bh C s₀ H₀ ex) (he C s₀ H₀ ex) (hs2 C s₀ H₀ ex) D) hs).imp λσ H Q q=>MT q
theorem VI{i:Nat}{pos' lp:Pos}{ow fr:List Str}{ix:List Nat}{scope:ay}{tg iter elt gJ bC:ao}{ifs dM:List ao}{kd iS:Kd}{t t2:Tg}{fe nW nv:FE}(hN:X.N.Nodup)(hi:X.N[i]?=aB x)(hx:Loc X.env.scope x)(hf:X.fn x=true\/X.env.scope.names.lookup x=aB .local)
 (S:aY X ow fr ix scope) (hc:X.calm) (hI:PI X tg iter (ck X.K kd fa)) (hg:∀C s₀ H₀ ex,PG (X.comp (ow++fr) scope C s₀ H₀ ex) tg (cK X.K t)) (ht:∀C s₀ H₀ ex,iL (X.comp (ow++fr) scope C s₀ H₀ ex) ifs (cV X.K fc))
 (lF:∀C s₀ H₀ ex,PI (X.comp (ow++fr) scope C s₀ H₀ ex) gJ bC (ck X.K iS nW)) (vX:∀C s₀ H₀ ex,PG (X.comp (ow++fr) scope C s₀ H₀ ex) gJ (cK X.K t2)) (Bh:∀C s₀ H₀ ex,iL (X.comp (ow++fr) scope C s₀ H₀ ex) dM (cV X.K nv))
 (he:∀C s₀ H₀ ex,PE (X.comp (ow++fr) scope C s₀ H₀ ex) elt (eF X.K fe)) (hsw:swapsWith (.ListComp elt [⟨tg,iter,ifs,0⟩,⟨gJ,bC,dM,0⟩] scope lp) (aB (.Name x pos')) pos.line X.env=pure true) (hs:∀x,foldedSetIterable iter X.env x=pure x) (hs2:∀C s₀ H₀ ex x,foldedSetIterable bC (X.comp (ow++fr) scope C s₀ H₀ ex).env x=pure x) :
 SS X (.Assign [.Name x pos'] (.ListComp elt [⟨tg,iter,ifs,0⟩,⟨gJ,bC,dM,0⟩] scope lp) pos) (oW i (vU kd fa t ow.length ix fc iS nW t2 nv fe)):=
 (LX Mb (λ_=>rfl) hN hi hx S hc hI hg ht (λC s₀ H₀ ex D=>Ma (X:=X.comp (ow++fr) scope C s₀ H₀ ex) hc rfl (lF C s₀ H₀ ex) (vX C s₀ H₀ ex) (Bh C s₀ H₀ ex) (he C s₀ H₀ ex) (hs2 C s₀ H₀ ex) D) hsw hf hs).imp λD σ H q=>MT (EA q)
theorem Br{lp:Pos}{ow fr:List Str}{ix:List Nat}{scope:ay}{tg iter ek nA:ao}{ifs:List ao}{kd:Kd}{t:Tg}{fe fv:FE}
 (S:aY X ow fr ix scope) (hc:X.calm) (hI:PI X tg iter (ck X.K kd fa)) (hg:∀C s₀ H₀ ex,PG (X.comp (ow++fr) scope C s₀ H₀ ex) tg (cK X.K t)) (ht:∀C s₀ H₀ ex,iL (X.comp (ow++fr) scope C s₀ H₀ ex) ifs (cV X.K fc))
 (he:∀C s₀ H₀ ex,PE (X.comp (ow++fr) scope C s₀ H₀ ex) ek (eF X.K fe)) (hv:∀C s₀ H₀ ex,PE (X.comp (ow++fr) scope C s₀ H₀ ex) nA (eF X.K fv)) (hs:∀x,foldedSetIterable iter X.env x=pure x) :
 SE X (.DictComp ek nA [⟨tg,iter,ifs,0⟩] scope lp) (Ii kd fa t ow.length ix fc fe fv):=
 (tR L5 rfl S hc hI hg ht (λC s₀ H₀ ex D=>L7 (he C s₀ H₀ ex) (hv C s₀ H₀ ex) D) hs).imp λσ H Q q=>t8 q
theorem VJ{i:Nat}{pos' lp:Pos}{ow fr:List Str}{ix:List Nat}{scope:ay}{tg iter ek nA:ao}{ifs:List ao}{kd:Kd}{t:Tg}{fe fv:FE}(hN:X.N.Nodup)(hi:X.N[i]?=aB x)(hx:Loc X.env.scope x)(hf:X.fn x=true\/X.env.scope.names.lookup x=aB .local)
 (S:aY X ow fr ix scope) (hc:X.calm) (hI:PI X tg iter (ck X.K kd fa)) (hg:∀C s₀ H₀ ex,PG (X.comp (ow++fr) scope C s₀ H₀ ex) tg (cK X.K t)) (ht:∀C s₀ H₀ ex,iL (X.comp (ow++fr) scope C s₀ H₀ ex) ifs (cV X.K fc))
 (he:∀C s₀ H₀ ex,PE (X.comp (ow++fr) scope C s₀ H₀ ex) ek (eF X.K fe)) (hv:∀C s₀ H₀ ex,PE (X.comp (ow++fr) scope C s₀ H₀ ex) nA (eF X.K fv)) (hsw:swapsWith (.DictComp ek nA [⟨tg,iter,ifs,0⟩] scope lp) (aB (.Name x pos')) pos.line X.env=pure true) (hs:∀x,foldedSetIterable iter X.env x=pure x) :
 SS X (.Assign [.Name x pos'] (.DictComp ek nA [⟨tg,iter,ifs,0⟩] scope lp) pos) (oW i (Ii kd fa t ow.length ix fc fe fv)):=
 (LX L5 (λ_=>rfl) hN hi hx S hc hI hg ht (λC s₀ H₀ ex D=>L7 (he C s₀ H₀ ex) (hv C s₀ H₀ ex) D) hsw hf hs).imp λD σ H q=>t8 (EA q)
noncomputable def oX:ao->Bool|.Tuple ..=>false|_=>true
theorem VL{es:List ao}{k:Nat}{e:ao}{l:Nat}{p:Pos}{env:Env}:swapsWithSole [.Tuple es k p] e l env=pure false:=by cases e<;>rfl
theorem VM{es:List ao}{k:Nat}{p:Pos}{e:ao}{env:Env}(h:oX e):swappedStores [.Tuple es k p] e env=pure aC:=by cases e<;>first|rfl|cases h
theorem VN{is:List Nat}{k:Nat}(hc:X.calm)(hN:X.N.Nodup)(hs:Paired (lE X) es is)(he:SE X e fa)(ht:oX e) :
 SS X (.Assign [.Tuple es k p] e pos) (λρ h=>(fa ρ h).bind λw h=>.of ((bL (.many is) w h ρ).map .nx) h):=(KZ he (Ia hc hN hs) VL (VM ht) rfl).imp λD σ H z9=>z9.el λρ h m fl h' f r e k=>by
 refine bK e λw h1 e1 e2=>?_;obtain⟨e2,e3⟩:=of_ok e2;subst e3;cases z:bL (.many is) w h' ρ with
 |none=>rw[z]at e2;cases e2
 |some ρ'=>
  rw[z]at e2;cases e2;exact(.mk f r e1 λv H1 m1 s1 r1 q1=>(.mk (f.stp s1) r1 q1 z λσ' f'=>k H1 m1 s1 r1 σ' f'))
noncomputable def zev:ao->Bool|.Slice ..=>false|_=>true
theorem VP{o i:ao}{p:Pos}{env:Env}(h:zev i)(v:aa):assign (.Subscript o i p) env v=(do
 let ov <-holding [v] (eval o env);let iv <-holding [v,ov] (eval i env)
 standAt p
 holding [v,ov,iv] (setItem ov iv v)
 release [v,ov,iv] []):=by
 cases i<;>first|rfl|cases h
noncomputable abbrev Iu(fo fi fv:FE):FS:=λρ h=>(fv ρ h).bind λw h=>(fo ρ h).bind λx h=>(fi ρ h).bind λy h=>match x,y with
 |.ref a,.int j=>(match h.get a with
  |some (.lst ws)=>(match L2.i8 ws.length j with
   |some k=>.ok (.nx ρ) (h.set a (.lst (ws.set k w)))
   |none=>.no)
  |_=>oN ρ a j w h)
 |.ref a,y=>putD ρ a y w h
 |_,_=>.no
theorem VQ{o i e:ao}{l:Nat}{p:Pos}{env:Env}:swapsWithSole [.Subscript o i p] e l env=pure false:=by cases e<;>rfl
theorem VR{o i e:ao}{p:Pos}{env:Env}:swappedStores [.Subscript o i p] e env=pure aC:=by cases e<;>rfl
theorem M4{α β:Type}{f:α->Option β}:∀{as:List α} {bs:List β} {a:α} {b:β},aT f as=aB bs->f a=aB b->aT f (as++[a])=aB (bs++[b])
 |[],_,_,_,e,h=>by cases e;simp[aT,h]
 |x::as,bs,a,b,e,h=>by
  simp only[aT]at e;cases z:f x with
  |none=>rw[z]at e;cases e
  |some y=>
   rw[z]at e;simp only at e;cases z2:aT f as with
   |none=>rw[z2]at e;cases e
   |some ys=>
    rw[z2]at e;cases e;rw[nN];simp only[aT,z,M4 z2 h,nN]
noncomputable def Bs:V->V->V->Hp->(Hp->Prop)->Prop:=λo i v H Q=>∃a kvs j,o=.ref a/\i=.int j/\H a=aB (.dK kvs)/\kvs.length<sizeLine/\Q (upd H a (.dK (putK kvs (.inl j) v)))
theorem VS(hu:X.A.units+2<cLine):j7 X Bs:=by intro pins s σ H o i v ov iv u Q I ro ri rv h;obtain⟨a,kvs,j,rfl,rfl,e,hl,q⟩:=h;cases ro;exact R8 (Nat.lt_of_succ_lt hu) I (rj.k (k:=.inl j) e hl) ri rv λs' I'=>⟨_,I',q⟩
theorem VT(hu:X.A.units+2<cLine)(ho:SE X o fo)(hi:SE X a fa)(hv:SE X e fb)(hs:zev a):SS X (.Assign [.Subscript o a p] e pos) (Iu fo fa fb):=
 (KZ hv (Qp ho hi (Rw.or ((TY hu).or (VS hu))) (VP hs)) VQ VR rfl).imp λD σ H z9=>z9.el λρ h m fl h' f r e k=>by
   refine bK e λw h1 e1 e2=>?_;refine bK e2 λx h2 e3 e4=>?_;refine bK e4 λy h3 e5 e6=>?_;refine(.mk f r e1 λv H1 m1 s1 r1 q1=>(.mk (f.stp s1) r1 e3 λvo H2 m2 s2 r2 q2=>(.mk ((f.stp s1).stp s2) r2 e5 λvi H3 m3 s3 r3 q3=>?_)));split at e6;rename_i l j;split at e6;rename_i ws g;split at e6;rename_i kk hk;cases e6;cases q3;have Bt:=q2.stp s3;cases Bt;obtain⟨vs,p1,p2⟩:=r3.lst g;refine .inl ⟨m3 l,vs,j,kk,rfl,rfl,p1,by rw[p2.length];exact hk,?_⟩;have qv:=((q1.stp s2).stp s3)
   obtain⟨st,r'⟩:=r3.write (i:=l) (o:=.lst (ws.set kk w)) (u:=.lst (vs.set kk v)) (cg g) p1 (λ_ z=>nomatch z) (λ_ _ z=>nomatch z) λst=>⟨_,eS,aF.set (qv.stp st) kk (p2.stp st)⟩
   exact k _ m3 (((s1.trans s2).trans s3).trans st) r' σ ((((f.stp s1).stp s2).stp s3).stp st);cases e6;unfold oN at e6;split at e6;rename_i kvs g;split at e6;rename_i hb;cases e6;cases q3;have Bt:=q2.stp s3;cases Bt;obtain⟨vs,p1,p2⟩:=r3.dm g;have hlt:vs.length<sizeLine:=by rw[p2.length,qy];exact gO.mp hb
   refine .inr <| .inr ⟨m3 l,vs,j,rfl,rfl,p1,hlt,?_⟩
   have qv:=((q1.stp s2).stp s3)
   obtain⟨st,r'⟩:=r3.write (i:=l) (o:=.dm (bD kvs (.inl j) w)) (u:=.dK (putK vs (.inl j) v)) (cg g) p1 (λ_ z=>nomatch z) (λ_ _ z=>nomatch z) λst=>⟨_,eS,aN.put (qv.stp st) _ (p2.stp st)⟩
   exact k _ m3 (((s1.trans s2).trans s3).trans st) r' σ ((((f.stp s1).stp s2).stp s3).stp st);cases e6;cases e6;rename_i l _;unfold putD at e6;split at e6;rename_i ks ws dk g hd;split at e6;rename_i hc;cases e6;rw[bY]at hc;have Bt:=q2.stp s3;cases Bt;obtain⟨xs,p1,p2,p3,p4⟩:=r3.dt g;obtain⟨b,rfl,kk⟩:=AX q3 hd;have hl:=p3.length;rw[bG]at hl;have hlt:xs.length<sizeLine:=by rw[hl,qy];exact gO.mp hc.2
   have qv:=((q1.stp s2).stp s3)
   have hf:bP xs dk=aC:=by rcases Es dk p2 p4 with⟨z,_⟩|⟨p,w',z,z2,_⟩;exact z;rw[z2]at hc;exact absurd hc.1 (by simp)
   have hp:iN xs dk b v=xs++[(dk,b,v)]:=by unfold iN;rw[hf];rfl
   obtain⟨u0,M5,hn,VU,VW⟩:∃u0:HO,H3 (m3 l)=aB u0/\(∀t,u0≠HO.tup t)/\(∀o t,u0≠HO.bF o t)/\tD (aB u0):=by rcases p1 with p1|⟨_,p1⟩;exact⟨_,p1,(λ_ z=>nomatch z),(λ_ _ z=>nomatch z),True.intro⟩;exact⟨_,p1,(λ_ z=>nomatch z),(λ_ _ z=>nomatch z),True.intro⟩
   refine .inr <| .inl ⟨m3 l,b,xs,dk,rfl,rfl,kF p1 p2 p3,by rw[M5];exact VW,kk,hlt,?_⟩
   obtain⟨st,r'⟩:=r3.write (i:=l) (o:=.dt (ks++[y]) (ws++[w])) (u:=nU (iN xs dk b v) (m3 l)) (cg g) M5 hn VU λst=>by
    rw[hp]at st ⊢;refine⟨xs++[(dk,b,v)],.inl eS,?_,?_,?_⟩;rw[fZ,M4 p2 hd];rfl;rw[fZ];exact(p3.stp st).append (.cons (q3.stp st) .nil);rw[fZ];exact(p4.stp st).append (.cons (qv.stp st) .nil)
   exact k _ m3 (((s1.trans s2).trans s3).trans st) r' σ ((((f.stp s1).stp s2).stp s3).stp st);cases e6;cases e6;cases e6
theorem VX{M:Model}{A:ak}{E:aa->af->Prop}{s:af}{a b:aa}{T id:String}{Q:aa->af->Prop}(ha:s.TypeIs a T)(hb:s.TypeIs b T)
 (hI:typeLookup (.type T) (dunderI "add")=pure (aB (.builtin id))) (hq:isSeqSlot (aB (.builtin id))) (hfill:fillsNumberSlot (.type T) "add" = pure false) (hc:wpAny M A (call (.builtin id) [a,b]) Q E s):wpAny M A (inplaceOp .Add a b) Q E s:=by
 unfold inplaceOp;refine mL ?_;have h1:fillsInplaceSlot (.type T) "add" (Operator.Add == .Add)=pure false:=by unfold fillsInplaceSlot;show(typeLookup (.type T) (dunderI "add") >>= λfi=>pure (fi.isSome && !isSeqSlot fi))=_;rw[hI,qN,hq];rfl
 have h2:seqSlot? (.type T) (dunderI "add")=pure (aB (.builtin id)):=by unfold seqSlot?;rw[hI,qN,hq];rfl
 refine aG (yK ha (aG (n6 h1 ?_)));show wpAny M A (if false=true then _ else _) Q E s;rw[if_neg mQ];refine aG (binaryOp1_none (nm:="add") ha hb hfill ?_);refine aG (n6 h2 ?_);exact aG (nL hc)
noncomputable def ua:R2:=λx y H Q=>∃l b xs zs,x=.ref l/\y=.ref b/\H l=aB (.lst xs)/\H b=aB (.lst zs)/\xs.length+zs.length<=sizeLine/\Q (.ref l) (upd H l (.lst (xs++zs)))
theorem VY:xW X .Add ua:=by
 intro pins s σ H x y v u Q I rx ry h;obtain⟨l,b,xs,zs,rfl,rfl,hH,hB,hz,q⟩:=h;cases rx;cases ry;obtain⟨z,its,n,r,hl,e⟩:=I.fk hH;obtain⟨z2,its2,n2,r2,hl2,e2⟩:=I.fk hB;have hsz:its.toArray.size+its2.toArray.size<=sizeLine:=by rw[dQ,dQ];lia
 have oE:¬(!its.toArray.isEmpty&&Builtin.List.listTooLong (its.toArray.size+its2.toArray.size))=true:=by rw[Lr hsz,Bool.and_false];exact mQ
 refine VX (T:="list") (id:="list.__iadd__") ⟨_,e,rfl⟩ ⟨_,e2,rfl⟩ PySem.F.slot_list_iadd.lookup (by decide +kernel) noFill_list_add ?_;refine qz PySem.F.slot_list_iadd ⟨_,e,rfl⟩ PySem.F.entry_list_iadd (PySem.F.args_list_iadd_2 _ _)
  (AutoSeq1.list___iadd___list_list_0 l its.toArray n b its2.toArray n2 oE (by rw[dQ];lia) (by lia)) ⟨e,e2,?_⟩
 refine⟨.ref l,_,I.vA (its':=its++its2) hH e (by simp) (r.append r2) ?_,rfl,q⟩;rw[eY];lia
noncomputable def rN:Operator->Option Op|.Add=>aB .add|.Sub=>aB .sub|.Mult=>aB .mul|.FloorDiv=>aB .fdiv|_=>aC
noncomputable def M6(K:aK):Op->R2|.mul=>rI mV λi j=>.int (i*j)|.fdiv=>rI qV λi j=>.int (i/j)|.add=>λx y H Q=>DJ (λi j=>i+j) x y H Q\/ua x y H Q\/lX K x y H Q|.sub=>DJ λi j=>i-j|_=>λ_ _ _ _=>False
theorem Bu{O:Operator}{o:Op}(e:rN O=aB o):xW X O (M6 X.K o):=by
 cases O<;>cases e;intro pins s σ H x y v u Q I rx ry q;rcases q with q|q|q
 exact Qt pins s σ H x y v u Q I rx ry q;exact VY pins s σ H x y v u Q I rx ry q;exact Vv pins s σ H x y v u Q I rx ry q;exact Qu;exact QM;exact QN
theorem VZ{K:aK}{O:Operator}{o:Op}(e:rN O=aB o):AR K (M6 K o) (vM o):=by
 intro m h H v u x y w h' Q r qv qu e2 k;unfold vM at e2;split at e2;rename_i i j;cases qv;cases qu;split at e2;cases e2;exact .inl ⟨i,j,rfl,rfl,aL.here k r (.int _)⟩;cases e2;exact⟨i,j,rfl,rfl,aL.here k r (.int _)⟩;obtain⟨e2,rfl⟩:=of_ok e2;cases z:gH .mul i j with
 |none=>rw[z]at e2;cases e2
 |some t=>
  rw[z]at e2;cases e2;obtain⟨c1,rfl⟩:=HK z;exact⟨i,j,rfl,rfl,c1,aL.here k r (.int _)⟩
 obtain⟨e2,rfl⟩:=of_ok e2;cases z:gH .fdiv i j with
 |none=>rw[z]at e2;cases e2
 |some t=>
  rw[z]at e2;cases e2;obtain⟨c1,rfl⟩:=HK z;exact⟨i,j,rfl,rfl,c1,aL.here k r (.int _)⟩
 cases e2;rename_i i j;split at e2;rename_i xs ys g1 g2;split at e2;rename_i hz;cases e2;cases qv;cases qu;obtain⟨vs,p1,p2⟩:=r.lst g1;obtain⟨us,p3,p4⟩:=r.lst g2;refine .inr (.inl ⟨m i,m j,vs,us,rfl,rfl,p1,p3,by rw[p2.length,p4.length];exact k9 hz,?_⟩);obtain⟨st,r'⟩:=r.write (i:=i) (o:=.lst (xs++ys)) (u:=.lst (vs++us)) (cg g1) p1 (λ_ z=>nomatch z) (λ_ _ z=>nomatch z) λst=>⟨_,eS,(p2.stp st).append (p4.stp st)⟩
 exact k _ _ m st r' (.ref (show i<h.n from cg g1));cases e2;cases e2;rename_i x xs ys;split at e2;split at e2;rename_i hz;cases e2;cases qv with
 |tup qa ra=>
  cases qu with
  |tup qb rb=>
   rename_i a va b vb;refine .inr (.inr ⟨a,b,va,vb,rfl,rfl,qa,qb,λz=>?_,by rw[ra.length,rb.length];exact k9 hz,λz=>?_,λ_ p hp=>aL.tuple k r (ra.append rb) hp⟩);subst z;cases ra;subst z;cases rb;rw[nP]at k;exact aL.here k r (.tup qa ra)
 cases e2;cases e2;cases e2
noncomputable abbrev vY(i:Nat)(o:Op)(fa:FE):FS:=λρ h=>match(ρ[i]?).join with|some x=>(fa ρ h).bind λy h=>(vM o x y h).bind λz h=>.ok (.nx (ρ.set i (aB z))) h|none=>.no
theorem V0{i:Nat}{pos':Pos}{O:Operator}{o:Op}(eo:rN O=aB o)(hN:X.N.Nodup)(hi:X.N[i]?=aB x)(hx:Loc X.env.scope x)(hf:X.fn x=true\/X.env.scope.names.lookup x=aB .local)(he:SE X e fa) :
 SS X (.AugAssign (.Name x pos') O e pos) (vY i o fa):=(Qs hN hi hx he (Bu eo) hf).imp λD σ H z9=>z9.el λρ h m fl h' f r e k=>by
 have e:vY i o fa ρ h=.ok fl h':=e;simp only[vY]at e;cases z:(ρ[i]?).join with
 |none=>rw[z]at e;cases e
 |some x=>
  rw[z]at e;simp only at e;refine bK e λy h1 e1 e2=>?_;refine bK e2 λw h2 e3 e4=>?_;cases e4;have e5:ρ[i]?=aB (aB x):=by
   cases q:ρ[i]? with|none=>rw[q]at z;cases z|some o=>rw[q]at z;rw[<-z];rfl
  obtain⟨v,p1,p2⟩:=f.val i x e5;refine⟨v,p1,ρ,h,m,y,h1,f,r,e1,λu H1 m1 s1 r1 q1=>VZ eo m1 h1 H1 v u x y w h' _ r1 (p2.stp s1) q1 e3 λv' H' m' s' r' q'=>?_⟩;exact k H' m' (s1.trans s') r' _ (((f.stp s1).stp s').set q' i)
noncomputable abbrev V1(fc:FE)(ga gb:FS):FS:=λρ h=>(fc ρ h).bind λx h=>match x with|.bl true=>ga ρ h|.bl false=>gb ρ h|_=>.no
variable{sa sb:List aq}
theorem V2(hc:ST X c fc)(ha:rM X sa ga)(hb:rM X sb gb):SS X (.If c sa sb pos) (V1 fc ga gb):=(zu hc ha hb).imp λD σ H z9=>z9.el λρ h m fl h' f r e k=>by
 refine bK e λx h1 e1 e2=>?_;cases x<;>try cases e2
 rename_i c;refine(.mk f r e1 λH1 m1 s1 r1=>?_);cases c with|true=>rw[if_pos rfl];exact(.mk (f.stp s1) r1 e2 λH' m' s' r'=>k H' m' (s1.trans s') r')|false=>simp only[dW,dg];exact(.mk (f.stp s1) r1 e2 λH' m' s' r'=>k H' m' (s1.trans s') r')
theorem V3{nx:Nat->VH->Option (Option W)}{tg:W->VH->En->Option En}{g:FS}{f i:Nat}{ρ:En}{h:VH}{fl:Fl}{h':VH}(q:eE nx tg g (f+1) i ρ h=.ok fl h'):∃o,nx i h=aB o:=by simp only[eE]at q;split at q;cases q;exact⟨_,by assumption⟩;exact⟨_,by assumption⟩
noncomputable abbrev Bv(kd:Kd)(fa:FE)(t:Tg)(g:FS):FS:=λρ h=>(fa ρ h).bind λx h=>eE (aZ kd x) (bL t) g fuel 0 ρ h
theorem V4{K:aK}{kd:Kd}{t:Tg}{D:Ends}{σ:L2.St}{H:Hp}(q:jM K (Bv kd fa t ga) D σ H):zC (ck K kd fa) (cK K t) (jM K ga) D σ H:=by
 refine q.el λρ h m fl h' f r e k=>?_;refine bK e λx h1 e1 e2=>?_;refine(.mk f r e1 (V3 (f:=999999) e2) λJ P H1 m1 s1 r1 J1 p1=>?_);refine⟨λi fu σ' H'=>∃ρ' h3 m3,eE (aZ kd x) (bL t) ga fu i ρ' h3=.ok fl h'/\Fr K m3 h3.n H' σ' ρ'/\Rel K m3 h3 H'/\bZ m1 h1.n H1 m3 h3.n H'/\P m3 h3.n H',⟨fuel,ρ,h1,m1,e2,f.stp s1,r1,.refl,p1⟩,?_⟩;rintro i fu σ' H' ⟨ρ',h3,m3,e3,f3,r3,s3,p3⟩;cases fu with
 |zero=>cases e3
 |succ fu=>
  simp only[eE]at e3;obtain⟨j1,j2⟩:=J1.2 m3 h3 H' r3 p3 i;split at e3;cases e3;rename_i hn;cases e3;exact .inl ⟨j2 hn,k H' m3 (s1.trans s3) r3 σ' f3⟩;rename_i w hn;obtain⟨j3,j4⟩:=j1 w hn;split at e3;cases e3;rename_i EB ht;refine bK e3 λBw h5 e5 e6=>?_;refine .inr ⟨j3,λjT H6=>∃jN m6,eE (aZ kd x) (bL t) ga fu (i+1) jN h5=.ok fl h'/\Fr K m6 h5.n H6 jT jN/\Rel K m6 h5 H6/\bZ m1 h1.n H1 m6 h5.n H6/\P m6 h5.n H6,λjT H6 ⟨jN,m6,a1,a2,a3,a4,a5⟩=>⟨fu,fY _,jN,h5,m6,a1,a2,a3,a4,a5⟩,λy H4 hy=>?_⟩;obtain⟨s4,r4,q4⟩:=j4 y H4 hy;refine⟨ρ',h3,m3,w,EB,f3.stp s4,r4,q4,ht,λkh f5=>⟨EB,h3,m3,Bw,h5,f5,r4,e5,λH6 m6 s6 r6=>?_⟩⟩;have p4:=J1.1 m3 h3.n H' m3 h3.n H4 (bg _) (λ_ _=>rfl) (λb vs q=>s4.tup b vs q) (λb o u q=>s4.bF b o u q) p3;have p6:=J1.1 m3 h3.n H4 m6 h5.n H6 s6.le s6.same (λb vs q=>s6.tup b vs q) (λb o u q=>s6.bF b o u q) p4;have iz:=(s3.trans s4).trans s6;cases Bw with|nx jN=>exact λjT f6=>⟨jN,m6,e6,f6,r6,iz,p6⟩|ct jN=>exact λjT f6=>⟨jN,m6,e6,f6,r6,iz,p6⟩|bk jN=>cases e6;exact λjT f6=>k H6 m6 (s1.trans iz) r6 jT f6|rt w6=>cases e6;exact λv6 q6=>k H6 m6 (s1.trans iz) r6 v6 q6
theorem V5{kd:Kd}{t:Tg}{tg iter:ao}(hp:PassesOwn (model X.prog X.w) X.A X.env X.xe)(hc:X.calm)(hI:PI X tg iter (ck X.K kd fa))(hg:PG X tg (cK X.K t))(hb:rM X sa ga)(hs:∀x,foldedSetIterable iter X.env x=pure x) :
 SS X (.For tg iter sa [] pos) (Bv kd fa t ga):=(QE hp hc hI hg hb hs).imp λD σ H q=>V4 q
theorem V6(hp:PassesOwn (model X.prog X.w) X.A X.env X.xe)(hc:ST X c fc)(hb:rM X sa ga):SS X (.While c sa [] pos) (λρ h=>dY fc ga fuel ρ h):=(Qw hp hc hb).imp λD σ H z9=>z9.el λρ h m fl h' f r e k=>by
 refine⟨λfu σ' H'=>∃ρ' h3 m3,dY fc ga fu ρ' h3=.ok fl h'/\Fr X.K m3 h3.n H' σ' ρ'/\Rel X.K m3 h3 H'/\bZ m h.n H m3 h3.n H',⟨fuel,ρ,h,m,e,f,r,.refl⟩,?_⟩;rintro fu σ' H' ⟨ρ',h3,m3,e3,f3,r3,s3⟩;cases fu with
 |zero=>cases e3
 |succ fu=>
  simp only[dY]at e3;refine bK e3 λx h4 e4 e5=>?_;cases x<;>try cases e5
  rename_i b;refine⟨ρ',h3,m3,b,h4,f3,r3,e4,λH4 m4 s4 r4=>?_⟩;cases b with
  |false=>cases e5;simp only[dW,dg];exact k H4 m4 (s3.trans s4) r4 σ' (f3.stp s4)
  |true=>
   simp only[cC];refine bK e5 λBw h5 e6 e7=>?_;refine⟨λjT H6=>∃jN m6,dY fc ga fu jN h5=.ok fl h'/\Fr X.K m6 h5.n H6 jT jN/\Rel X.K m6 h5 H6/\bZ m h.n H m6 h5.n H6,λjT H6 ⟨jN,m6,a1,a2,a3,a4⟩=>⟨fu,fY _,jN,h5,m6,a1,a2,a3,a4⟩,?_⟩;refine⟨ρ',h4,m4,Bw,h5,f3.stp s4,r4,e6,λH6 m6 s6 r6=>?_⟩;have iz:=(s3.trans s4).trans s6;cases Bw with|nx jN=>exact λjT f6=>⟨jN,m6,e7,f6,r6,iz⟩|ct jN=>exact λjT f6=>⟨jN,m6,e7,f6,r6,iz⟩|bk jN=>cases e7;exact λjT f6=>k H6 m6 iz r6 jT f6|rt w6=>cases e7;exact λv6 q6=>k H6 m6 iz r6 v6 q6
end
theorem Bx{n:Str}:∀{ps:List Str} {us:List aa},us.length=ps.length->n∈ps->((ps.zip us).lookup n).isSome=true
 |[],_,_,h=>by cases h
 |p::ps,[],hl,_=>by cases hl
 |p::ps,u::us,hl,h=>by
  rw[qH,gE];by_cases e:(n==p)=true;rw[e];rfl;have e':(n==p)=false:=by simpa using e
  rw[e'];refine Bx (by simpa using hl) ?_;rcases fV.mp h with z|z
  rw[z]at e';simp at e';exact z
theorem V7{n:Str}{u:aa}{p:Str}{ps:List Str}{us:List aa}(h:n≠p):((p,u)::ps.zip us).lookup n=(ps.zip us).lookup n:=by
 rw[gE];have e':(n==p)=false:=by simpa using h
 rw[e']
theorem M7{α β:Type}{f g:α->Option β}:∀{l:List α},(∀a∈l,f a=g a)->l.filterMap f=l.filterMap g
 |[],_=>rfl
 |a::r,h=>by
  rw[vcs,vcs,h a eX,M7 λb hb=>h b (eW _ hb)]
theorem EC:∀{ps:List Str} {us:List aa},us.length=ps.length->ps.Nodup->ps.filterMap (λn=>((ps.zip us).lookup n).map (n,·))=ps.zip us
 |[],_,_,_=>rfl
 |p::ps,[],hl,_=>by cases hl
 |p::ps,u::us,hl,hn=>by
  obtain⟨h1,h2⟩:=sW.mp hn;rw[qH,vcs];have e:((p,u)::ps.zip us).lookup p=aB u:=by rw[gE];simp
  rw[e];simp only[iC];congr 1;have ih:=EC (ps:=ps) (us:=us) (by simpa using hl) h2;refine Eq.trans ?_ ih;exact M7 λn hn'=>by
   have hne:n≠p:=λz=>h1 (by rw[<-z];exact hn');rw[V7 hne]
theorem M8{x qual:Str}{args:List Arg}{body:List aq}{sc:ay}{kV doc pm:aa}{an:Option ah}{cdv ct:aa}{us:List aa}{df:List ao}(hl:us.length=(args.map (·.arg)).length)(hn:(args.map (·.arg)).Nodup) :
 bindArgs (PySem.W.fnOf x qual ⟨[],args,aC,[],[],aC,df⟩ body sc .none kV doc pm an cdv ct) ⟨us,[]⟩=pure ((args.map (·.arg)).zip us):=by
 have hs:seqItems? Value.none=pure aC:=rfl;have hm:((args.map (·.arg)).filter λn=>(((args.map (·.arg)).zip us).lookup n).isNone)=[]:=by
  rw[List.filter_eq_nil_iff];intro n hn';have:=Bx hl hn';cases q:((args.map (·.arg)).zip us).lookup n with|none=>rw[q]at this;cases this|some v=>simp
 unfold bindArgs;simp only[PySem.W.fnOf,uZ,xF,nP,hs,qN];have hg:¬(us.length> (args.map (·.arg)).length):=by lia
 have h0:(#[]:Array aa).toList=[]:=rfl;simp only[Option.getD_none,h0,uY,qN,List.drop_nil,yR,Nat.sub_zero,nO,hm,List.isEmpty_nil,om,List.drop_length,List.zip_nil_right,List.zip_nil_left,iX hg,vec,dW,dg,EC hl hn]
theorem M9{z:Str}:∀{qs:List Str} {us:List aa},us.length=qs.length->(qs++[z]).zip us=qs.zip us
 |[],[],_=>rfl
 |[],_::_,h=>by cases h
 |_::_,[],h=>by cases h
 |q::qs,u::us,h=>by
  rw[nN,qH,qH,M9 (by simpa using h)]
theorem Iv{z:Str}{v:aa}:∀{qs:List Str} {us:List aa},us.length=qs.length->(qs++[z]).zip (us++[v])=qs.zip us++[(z,v)]
 |[],[],_=>rfl
 |[],_::_,h=>by cases h
 |_::_,[],h=>by cases h
 |q::qs,u::us,h=>by
  rw[nN,nN,qH,qH,Iv (by simpa using h),nN]
theorem Na{z:Str}:∀{qs:List Str} {us:List aa},z∉qs->(qs.zip us).lookup z=aC
 |[],_,_=>rfl
 |_::_,[],_=>rfl
 |q::qs,u::us,h=>by
  rw[qH,gE];have e':(z==q)=false:=by simpa using(λe=>h (by rw[e];exact eX))
  rw[e'];exact Na λe=>h (eW _ e)
section
variable{x qual:Str}{args:List Arg}{df:List ao}{body:List aq}{sc:ay}{kV doc pm:aa}{an:Option ah}{cdv ct:aa}{t:ah}{o:Obj}{n:Nat}{s:af}{us:List aa}{qs:List Str}{z:Str}
theorem Nb(qs:List Str)(z:Str):List.drop ([Value.none].length- (qs++[z]).length) [Value.none]=[Value.none]:=by rw[eY,yN,yN,show 1- (qs.length+1)=0 by lia];rfl
theorem uc(qs:List Str)(z:Str):(qs++[z]).length - [Value.none].length=qs.length:=by simp
theorem V8(ha:args.map (·.arg)=qs++[z])(hn:(qs++[z]).Nodup)(ho:s.heap.get? t=aB o)(hd:o.data=.seq #[.none] n)(hl:us.length=(qs++[z]).length) :
 BindsTo s (PySem.W.fnOf x qual ⟨[],args,aC,[],[],aC,df⟩ body sc (.ref t) kV doc pm an cdv ct) ⟨us,[]⟩ ((qs++[z]).zip us):=by
 apply BindsTo.of_defaults (items:=#[.none]) (n:=n) rfl ho hd;unfold bindArgs;simp only[PySem.W.fnOf,uZ,xF,nP,uY,qN,ha];rfl;have hm:(qs.filter λn=>(((qs++[z]).zip us).lookup n).isNone)=[]:=by
  rw[List.filter_eq_nil_iff];intro n hn';have:=Bx (n:=n) hl (C7 _ hn');cases q:((qs++[z]).zip us).lookup n with|none=>rw[q]at this;cases this|some v=>simp
 have hz:(((qs++[z]).zip us).lookup z).isNone=false:=by
  have:=Bx (n:=z) hl (jo _ (pT.mpr rfl));cases q:((qs++[z]).zip us).lookup z with|none=>rw[q]at this;cases this|some v=>rfl
 have hg:¬(us.length> (qs++[z]).length):=by lia
 simp only[Dp,Nb,uc,List.take_left',List.take_left,List.drop_left,List.drop_left',hm,iX hg,vec,dW,dg,List.isEmpty_nil,om,qH,List.zip_nil_right,xE,uY,hz,qN,EC hl hn]
theorem V9(ha:args.map (·.arg)=qs++[z])(hn:(qs++[z]).Nodup)(ho:s.heap.get? t=aB o)(hd:o.data=.seq #[.none] n)(hl:us.length=qs.length) :
 BindsTo s (PySem.W.fnOf x qual ⟨[],args,aC,[],[],aC,df⟩ body sc (.ref t) kV doc pm an cdv ct) ⟨us,[]⟩ ((qs++[z]).zip (us++[.none])):=by
 apply BindsTo.of_defaults (items:=#[.none]) (n:=n) rfl ho hd;unfold bindArgs;simp only[PySem.W.fnOf,uZ,xF,nP,uY,qN,ha];rfl;have hm:(qs.filter λn=>((qs.zip us).lookup n).isNone)=[]:=by
  rw[List.filter_eq_nil_iff];intro n hn';have:=Bx (n:=n) hl hn';cases q:(qs.zip us).lookup n with|none=>rw[q]at this;cases this|some v=>simp
 have Wa:z∉qs:=λh=>(List.nodup_append.mp hn).2.2 z h z (pT.mpr rfl) rfl;have hz:((qs.zip us).lookup z).isNone=true:=by rw[Na Wa];rfl
 have hg:¬(us.length> (qs++[z]).length):=by rw[eY];lia
 have hl2:(us++[Value.none]).length=(qs++[z]).length:=by rw[eY,eY,hl];rfl
 have ha2:=EC hl2 hn;rw[Iv hl]at ha2;simp only[Dp,Nb,uc,M9 hl,Iv hl,List.take_left',List.take_left,List.drop_left,List.drop_left',hm,iX hg,vec,dW,dg,List.isEmpty_nil,om,qH,List.zip_nil_right,xE,uY,hz,cC,qN,ha2]
end
structure oY(K:aK)(x qual:Str)(st:aq)(f:ah)(fd:au):Prop where
 ex:∃(oc:aa) (od:Option ah) (dV kV doc pm:aa) (an:Option ah) (cdv ct:aa) (osl:Array (Option aa)),fd=PySem.W.fnOf x qual (RO st) (z0 st) (jI st) dV kV doc pm an cdv ct/\K.lookup f=aB ⟨oc,od,.func fd,osl⟩/\PySem.W.codeIn K cdv qual=true
 kp:PySem.W.keepIn K (.ref f)=true
theorem oY.ok{P:ai}{w:aj}{K:aK}{mg:Str->Option aa}{base:az}{x qual:Str}{st:aq}{f:ah}{fd:au}{N ps:List Str}{k:Nat}{sp:Sp}(F:oY K x qual st f fd)(S:dJ N ps (jI st))(len:∀vs H Q E,sp vs H Q E->vs.length=ps.length)
 (hbody:∀(cdv:aa)(A:ak)(outer:List Env)(s:af)(H:Hp)(vs:List V)(Q:VK)(E:XK),dF k (A.deeper (envOfC qual (jI st) s.heap.objs.size f cdv))->sp vs H Q E->∃t,kW (j9 lY P w K mg base N qual (jI st) f cdv A outer s H E).xU (z0 st) t/\t {nx:=λ_ H'=>Q .aQ H',rt:=Q} (start N vs) H):fK P w K mg base lY (k+1) f fd ps sp:=
 let⟨_,_,_,_,_,_,_,cdv,_,_,e,lk,hcd⟩:=F.ex
 by subst e;exact zQ lk hcd S len λA outer s H vs Q E hr pY=>let⟨t,h,q⟩:=hbody cdv A outer s H vs Q E hr pY;⟨t,h.xU,q⟩
section
variable{K:aK}{m m':Nat->ah}{n n':Nat}{h h':VH}{H H':Hp}
mutual
theorem aJ.eu:∀{v:V} {w:W},aJ K m n H v w->W.lt n w=true|_,_,.aQ=>rfl|_,_,.bl _=>rfl|_,_,.int _=>rfl|_,_,.str _=>rfl|_,_,.tup _ r=>aF.eu r|_,_,.fz _ r=>aF.eu r|_,_,.ref q=>gO.mpr q
theorem aF.eu:∀{vs:List V} {ws:List W},aF K m n H vs ws->W.l8 n ws=true
 |_,_,.nil=>rfl
 |_,_,.cons q r=>by
  show(W.lt n _&&W.l8 n _)=true;rw[aJ.eu q,aF.eu r];rfl
end
mutual
theorem aJ.cut:∀{v:V} {w:W},aJ K m n' H v w->W.lt n w=true->aJ K m n H v w|_,_,.aQ,_=>.aQ|_,_,.bl b,_=>.bl b|_,_,.int b,_=>.int b|_,_,.str b,_=>.str b|_,_,.tup q r,e=>.tup q (aF.cut r e)|_,_,.fz q r,e=>.fz q (aF.cut r e)|_,_,.ref q,e=>.ref (gO.mp e)
theorem aF.cut:∀{vs:List V} {ws:List W},aF K m n' H vs ws->W.l8 n ws=true->aF K m n H vs ws
 |_,_,.nil,_=>.nil
 |_,_,.cons q r,e=>by
  have e:(W.lt n _&&W.l8 n _)=true:=e;rw[bY]at e;exact .cons (aJ.cut q e.1) (aF.cut r e.2)
end
theorem aN.cut{m':Nat->ah}{n1:Nat}{H':Hp}:∀{vs us:List (Key×V)} {ws:List (Key×W)},aN K m n' H vs ws->aN K m' n H' us ws->aN K m n H vs ws|_,_,_,.nil,_=>.nil|_,_,_,.cons q r,.cons q2 r2=>.cons (q.cut q2.eu) (aN.cut (n1:=n1) r r2)
theorem Nc{lo:Nat}(r:Rel K m h H):Rel K m ⟨h.n,lo,h.os⟩ H:=⟨r.obj,r.inj,r.len⟩
theorem Nd{w w2:W}{h1 h2:VH}{v:V}{Q:VK}(r:Rel K m h H)(s:bZ m h.n H m' h1.n H')(r1:Rel K m' h1 H')(q:aJ K m' h1.n H' v w)(g:fO ⟨h.n,h.n,h.os⟩ h1)(e:leave h w h1=.ok w2 h2)(k:aL K m h.n H w2 h2 Q):Q v H':=by
 unfold leave at e;split at e;rename_i hc;cases e;rw[bY]at hc;have hlo:=k9 hc.1;refine k v H' m' ⟨bg _,s.same,λi a b=>absurd b (jF.mpr a),λi j a b=>absurd b (jF.mpr a),s.tup,s.bF,s.keep⟩ ⟨λi hi=>?_,λi j hi hj=>r1.inj i j (dI hi s.le) (dI hj s.le),r.len⟩ (q.cut hc.2);have hg:h1.get i=h.get i:=g.2.2 i hi (dI hi hlo);obtain⟨o,p1,p2⟩:=r1.obj i (dI hi s.le);rw[hg]at p1;refine⟨o,p1,?_⟩;have p3:=r.at_ p1;cases o with
 |lst ws=>
  obtain⟨vs,a1,a2⟩:=p2;obtain⟨us,b1,b2⟩:=p3;exact⟨vs,a1,a2.cut b2.eu⟩
 |dk ws=>
  obtain⟨vs,a1,a2⟩:=p2;obtain⟨us,b1,b2⟩:=p3;exact⟨vs,a1,aN.cut (n1:=0) a2 b2⟩
 |dm ws=>
  obtain⟨vs,a1,a2⟩:=p2;obtain⟨us,b1,b2⟩:=p3;exact⟨vs,a1,aN.cut (n1:=0) a2 b2⟩
 |dt ks ws=>
  obtain⟨xs,a1,a0,a2,a3⟩:=p2;obtain⟨us,b1,b0,b2,b3⟩:=p3;exact⟨xs,a1,a0,a2.cut b2.eu,a3.cut b3.eu⟩
 cases e;exact k v H' m' s (Nc r1) q
theorem Wb{N:List Str}{vs:List V}{ws:List W}(q:aF K m n H vs ws):Fr K m n H (L2.start N vs) (ws.map aB++bV (N.length-ws.length) aC):=by
 unfold L2.start;refine⟨by simp[q.length],λi w e=>?_⟩;by_cases hi:i<ws.length;rw[pS (by simpa using hi)]at e;rw[pS (by simpa[q.length]using hi)];rw[dG]at e ⊢;cases z:ws[i]? with
 |none=>rw[z]at e;cases e
 |some w'=>
  rw[z]at e;cases e;obtain⟨v,h1,h2⟩:=q.get z;exact⟨v,by rw[h1];rfl,h2⟩
 rw[lR (by simpa using jF.mp hi)]at e;rw[C5]at e;split at e<;>cases e
end
theorem Iw{F:Nat->Option Fn}{k idx:Nat}{ws:List W}{h h':VH}{w:W}{fn:Fn}(hF:F idx=aB fn)(e:run F k idx ws h=.ok w h'):ws.length=fn.ps:=by
 cases k with
 |zero=>cases e
 |succ k=>
  simp only[run,hF]at e;split at e;rename_i hl;exact yT hl;cases e
theorem Nf{P:ai}{w:aj}{K:aK}{mg:Str->Option aa}{base:az}{F:Nat->Option Fn}{k idx:Nat}{fn:Fn}{x qual:Str}{st:aq}{f:ah}{fd:au}{N ps:List Str}(hF:F idx=aB fn)(Fu:oY K x qual st f fd)(S:dJ N ps (jI st))
 (hn:fn.n=N.length) (hp:fn.ps=ps.length)
 (hbody:∀(cdv:aa)(A:ak)(outer:List Env)(s:af)(H:Hp)(E:XK),dF k (A.deeper (envOfC qual (jI st) s.heap.objs.size f cdv))->rM (j9 lY P w K mg base N qual (jI st) f cdv A outer s H E).xU (z0 st) (exs (run F k) fn.body)) :
 fK P w K mg base lY (k+1) f fd ps (oR K ps.length (run F (k+1) idx)):=by
 refine Fu.ok S (λvs H Q E h=>h.1) λcdv A outer s H vs Q E hr pY=>?_;refine⟨_,hbody cdv A outer s H E hr,?_⟩;obtain⟨hl,h,m,ws,w2,h2,r,q,e,k2⟩:=pY;have hws:=Iw hF e;simp only[run,hF]at e;split at e;refine bK e λfl h1 e1 e2=>?_;have g:=Io (Ip F k) _ _ _ _ _ e1;have hN:fn.n-fn.ps=N.length-ws.length:=by rw[hn,hws]
 rw[hN]at e1;refine⟨_,⟨h.n,h.n,h.os⟩,m,fl,h1,Wb q,Nc r,e1,λH' m' s' r'=>?_⟩;cases fl with|nx ρ=>exact λσ' f'=>Nd r s' r' .aQ g e2 k2|rt w3=>exact λv q3=>Nd r s' r' q3 g e2 k2|bk _=>cases e2|ct _=>cases e2
 cases e
theorem Ng{P:ai}{w:aj}{K:aK}{mg:Str->Option aa}{base:az}{F:Nat->Option Fn}{idx:Nat}{f:ah}{fd:au}{ps:List Str}:fK P w K mg base lY 0 f fd ps (oR K ps.length (run F 0 idx)):=
 ⟨λvs H Q E h=>h.1,λA outer s H args us vs Q E hr he hb hv hs=>by obtain⟨_,h,m,ws,w2,h2,r,q,e,k2⟩:=hs;cases e⟩
noncomputable def gp(K:aK)(x:Str):Option ah:=(match PySem.W.nsIn K mainGlobals x with|some (aB (.ref f))=>aB f|_=>aC)
theorem Nh{K:aK}{x:Str}{f:ah}(h:gp K x=aB f):PySem.W.nsIn K mainGlobals x=aB (aB (.ref f)):=by unfold gp at h;split at h;rename_i g e;cases h;exact e;cases h
end RF
namespace L2
open PySem PySem.Spec PyProof.Rows
theorem Ni:∀{vs:List V} {us:List aa},Vals vs us->Vals (cU vs) (cU us)|_,_,.nil=>.nil|_,_,.cons p .nil=>.cons p .nil|_,_,.cons p (.cons _ r)=>.cons p (Ni r)
theorem Nj{α β:Type}{f:α->Option β}{g:α->β}:∀{l:List α},(∀x∈l,f x=aB (g x))->l.filterMap f=l.map g
 |[],_=>rfl
 |x::r,h=>by
  rw[vcs,h x eX,dH,Nj λy hy=>h y (eW _ hy)]
theorem By(us:List aa)(c:Nat)(hc:c<=1){lo:Option Int}(hlo:lo=if c=0 then aC else aB 1):slicePick us.toArray lo aC (aB 2)=(cU (us.drop c)).toArray:=by
 have hb:sliceBounds lo aC (aB 2) us.length=(((min c us.length:Nat):Int),(us.length:Int),2):=by
  subst hlo;match c,hc with|0,_=>simp[sliceBounds]|1,_=>simp[sliceBounds];lia
 unfold slicePick;rw[dQ,hb];congr 1;have hr:sliceRange ((min c us.length:Nat):Int) (us.length:Int) 2=(List.range ((us.length-c+1)/2)).map λ(k:Nat)=>c+2*k:=by
  unfold sliceRange;have Iz:(if(2:Int)>0 then(if((min c us.length:Nat):Int)< (us.length:Int)then((us.length:Int)- ((min c us.length:Nat):Int)+2-1)/2 else 0)else(if((min c us.length:Nat):Int)> (us.length:Int)then(((min c us.length:Nat):Int)- (us.length:Int)-2-1)/ (-2)else 0)).toNat=(us.length-c+1)/2:=by rw[if_pos (by decide)];split<;>lia
  show(List.range (if(2:Int)>0 then(if((min c us.length:Nat):Int)< (us.length:Int)then((us.length:Int)- ((min c us.length:Nat):Int)+2-1)/2 else 0)else(if((min c us.length:Nat):Int)> (us.length:Int)then(((min c us.length:Nat):Int)- (us.length:Int)-2-1)/ (-2)else 0)).toNat).map _=_;rw[Iz];refine List.map_congr_left λk hk=>?_;have:=nQ.mp hk;lia
 rw[hr,List.filterMap_map];have hlen:(us.drop c).length=us.length-c:=sV;refine C8 λi=>?_;rw[Eo,yP];rw[Nj (g:=λk=>us.getD (c+2*k) .none) λk hk=>by
  have:=nQ.mp hk;show us.toArray[c+2*k]?=_;rw[List.getElem?_toArray,jS,cN (by lia)];rfl]
 rw[dG];by_cases hi:i< (us.length-c+1)/2;rw[uV hi,iC,jS,cN (by lia)];rfl;rw[iY (by rw[oj];lia),iY (by lia)];rfl
section
variable{X:Cx}{e k:ao}{lo:Option ao}{te:TE}{tl tk:TO}{pos p2:Pos}
theorem Wc(he:PE X e te)(hl:PO X lo tl)(hk:PO X (aB k) tk):PE X (.Subscript e (.Slice lo aC (aB k) p2) pos) (λσ H Q=>te σ H λx H1=>tl σ H1 λl H2=>tk σ H2 λo H3=>∃a xs c,x=.ref a/\c<=1/\l=(if c=0 then aC else aB 1)/\o=aB 2/\cZ X.K H3 a xs/\∀p,H3 p=aC->Q (.ref p) (upd H3 p (.lst (cU (xs.drop c))))):=by intro pins s σ H Q I h;refine Subscript_ (bq (he pins s σ H _ I h) λv s1 z9=>z9.el λx H1 I1 r1 q1=>?_);refine wpAny_Slice ?_;refine bq (hl pins s1 σ H1 _ I1 q1) λvl s2 bW=>?_;obtain⟨l,H2,I2,pl,q2⟩:=bW;rw[evalPart_none];refine aX ?_;refine bq (hk pins s2 σ H2 _ I2 q2) λvk s3 bW=>?_;obtain⟨o,H3,I3,pk,q3⟩:=bW;obtain⟨a,xs,c,rfl,hc,rfl,rfl,hx,q⟩:=q3;cases r1;have I4:Inv X pins σ H3 {s3 with heap:=s3.heap.push {cls:=.type "slice",data:=.fields #[vl,.none,vk]}}:=I3.kept (t':=s3.toks) λb ob q=>cQ _ q;obtain⟨its,r,ht,hz⟩:=I4.list hx;have hlen:=r.length;show wpAny (model X.prog X.w) X.A (subscriptTail e (.Slice lo aC (aB k) p2) (.ref a) (.ref s3.heap.objs.size)) (EP X pins σ Q) X.xe {s3 with heap:=s3.heap.push {cls:=.type "slice",data:=.fields #[vl,.none,vk]}};refine tail_any (ops:=[.ref a,.ref s3.heap.objs.size]) ht.isList.typeIs slot_list_getitem.lookup ?_ (by with_unfolding_all rfl);refine wpAny_getItem_list_slice ht.isList (Heap.IsSliceOf.new ..) pl .none pk (by decide) ?_ (by rw[dQ]<;>lia);rw[By its c hc rfl];refine⟨.ref _,_,I4.laid (t':=s3.toks) (o:=.lst (cU (xs.drop c))) (λb ob q=>cQ _ q) (bg _) ?_,rfl,q _ (I4.hok.fresh (bg _))⟩;refine⟨?_,_,0,Ni (r.drop c),fX _ rfl⟩;rw[Mj,sV];lia
end
theorem Nk:∀{ls:List Int} {us:List aa},Vals (ls.map .int) us->IntsAre us ls|[],_,.nil=>.nil|x::r,_,.cons ⟨t,e⟩ h=>by subst e;exact .cons x t (Nk h)
section
variable{X:Cx}
noncomputable def Wd:V->List V->Hp->VK->Prop:=λx vs H Q=>∃a b kvs more,x=.ref a/\vs=[.ref b]/\a≠b/\H a=aB (.dK kvs)/\H b=aB (.dK more)/\kvs.length+more.length<=sizeLine/\Q .aQ (upd H a (.dK (p5 kvs more)))
theorem We:GG X "dict.update" Wd:=by intro pins s σ H x vs v us Q I rx rv h;obtain⟨a,b,kvs,more,rfl,rfl,hne,hA,hB,hz,q⟩:=h;cases rx;obtain⟨u,rfl,ru⟩:=rv.one;cases ru;obtain⟨z1,hd1,Wf,BA,Nl⟩:=kj I.hok hA;obtain⟨z2,hd2,Wg,BB,dd2⟩:=kj I.hok hB;refine C2 PySem.F.slot_dict_update Nl.typeIs PySem.F.entry_dict_update (PySem.F.args_dict_update_2 _ _) (meets_dict_update (iH X.prog X.w) a b hne hd2) ⟨Wf,Wg,Nl,dd2,by rw[<-qM BA,<-qM BB];exact hz,λh' kq _ hs=>?_⟩;have he:∃q,h'.get? a=aB q:=let⟨q,_,_,hq,_⟩:=kq;⟨q,hq⟩;exact⟨.aQ,_,vH I (by rw[hA];exact True.intro) hs he (Ea (gF (Ho more kvs) hz) hd1 (KV.merge BB BA) kq),rfl,q⟩
end
section
variable{X:Cx}
theorem Wh(hc:X.calm):cu X (.builtin "max") (λxs H Q=>∃(p:ah) (ns:List Int),xs=[.ref p]/\cZ X.K H p (ns.map .int)/\0<ns.length/\∀M,M∈ns->(∀a∈ns,a<=M)->Q (.int M) H):=by
 intro pins s σ H xs us Q I r h;obtain⟨p,ns,rfl,hq,hne,q⟩:=h;obtain⟨u,rfl,ru⟩:=vals1 r;cases ru;obtain⟨its,rv,pl,hz⟩:=I.list hq;have hL:s.heap.IsList p its.toArray:=pl.isList;have hi:=Nk rv;obtain⟨ys,hx⟩:=hi.allInts.items;have hl':s.heap.IsList p (intItems ys):=hx▸hL;have hns:ns=ys.toList.map (·.1):=by rw[<-nums_intItems,<-hx];exact(show numsOf its.toArray.toList=ns from hi.numsOf).symm
 have hsz:0<ys.size:=by rw[hns,bG,u7]at hne;exact hne
 refine max_intList (I.ok.hd hc) hl' hsz λv h' tk hv hk=>?_;obtain⟨t,rfl⟩:=intItems_at hv;obtain⟨h1,h2⟩:=argBest_gt (numAt ys) (ys.size-1);refine⟨.int _,H,I.kept (t':=tk) hk,⟨_,rfl⟩,q _ ?_ λa ha=>?_⟩;rw[hns,numAt_eq];exact getD_mem (by rw[bG,u7];lia);rw[hns]at ha;obtain⟨j,hj,rfl⟩:=mem_getD ha;rw[bG,u7]at hj;rw[<-numAt_eq];exact h2 j (by lia)
end
end L2
namespace RF
open PySem PySem.Spec PyProof.Rows L2
section
variable{K:aK}{m:Nat->ah}{h:VH}{H:Hp}
theorem Wi{a:ah}{u:HO}(e:H a=aB u):upd H a u=H:=by funext b;by_cases z:b=a;subst z;rw[eS,e];rw[b9 z]
theorem Rel.IA(r:Rel K m h H){i:Nat}{kvs:List (Key×W)}(g:h.get i=aB (.dm kvs)):Rel K m (h.set i (.dk kvs)) H:=by
 obtain⟨vs,p1,p2⟩:=r.dm g;obtain⟨_,r'⟩:=r.write (i:=i) (o:=.dk kvs) (u:=.dK vs) (cg g) p1 (λ_ z=>nomatch z) (λ_ _ z=>nomatch z) λst=>⟨vs,.inl eS,p2.stp st⟩
 rw[Wi p1]at r';exact r'
theorem aL.BC{Q:VK}(k:aL K m h.n H (.ref h.n) (h.new (.dm [])) Q)(r:Rel K m h H){p:ah}(hp:H p=aC):Q (.ref p) (upd H p (.dK [])):=by obtain⟨st,r'⟩:=r.alloc (o:=.dm []) (u:=.dK []) hp (λ_ z=>nomatch z) (λst=>⟨[],eS,.nil⟩);refine k _ _ _ st r' ?_;have:aJ K (λi=>if i=h.n then p else m i) (h.n+1) (upd H p (.dK [])) (.ref ((λi=>if i=h.n then p else m i) h.n)) (.ref h.n):=.ref (fY _);simp only[cC]at this;exact this
end
section
variable{X:Cx}{e o a k:ao}{lo:Option ao}{fa fo:FE}{pos p2:Pos}
theorem Wj:SE X (.Dict [] [] pos) (jL lD vO):=Sb.imp λσ H Q z9 p hp=>z9.el λρ h m w h' f r e k=>by
 cases e;exact aL.BC k r hp
theorem Wk(he:SE X e fa):SE X e (jL (iQ fa lD) nk):=he.imp λσ H Q z9=>z9.el λρ h m w h' f r e k=>by
 refine bK e λy h1 e1 e2=>?_;refine bK e1 λx h2 e3 e4=>?_;cases e4;refine(.mk f r e3 λv H1 m1 s1 r1 q1=>?_);dsimp only at e2;unfold nk at e2;split at e2;rename_i i heq;cases heq;split at e2;rename_i kvs g;cases e2;exact k v H1 m1 s1 (r1.IA g) q1;cases e2;cases e2
theorem Wl{apos:Pos}(ho:SE X o fo)(he:SE X e fa)(hb:A8 o)(hs:gQ e)(hl:(apos.endLine==pos.line)) :
 SE X (.Call (.Attribute o "update" apos) [e] [] pos) (HW .update fo (iQ fa lD)):=by
 refine(tO (X:=X) PySem.F.plainAttrs_dict PySem.F.slot_dict_update PySem.F.type_dict_update We ho (xX he zO (fN hs)) (HV hb) ?_ hl (fN hs) rfl).imp λσ H Q z9=>z9.el λρ h m w h' f r e k=>?_;rw[fN hs];rfl;refine bK e λx h1 e1 e2=>?_;split at e2;rename_i hk;refine bK e2 λy h2 e3 e4=>?_;refine bK e3 λz h3 e5 e6=>?_;cases e6;refine(.mk f r e1 λv H1 m1 s1 r1 q1=>?_);cases x<;>try cases hk
 rename_i i;simp only[kE]at hk;split at hk;rename_i Wm g;cases q1;obtain⟨tV,p1,_⟩:=r1.dm g;refine⟨.inr (.inr (.inl ⟨rfl,.inl ⟨tV,p1⟩⟩)),ρ,h1,m1,z,h2,f.stp s1,r1,e5,λv2 H2 m2 s2 r2 q2=>?_⟩;cases z<;>try cases e4
 rename_i j;simp only[jV]at e4;unfold oM at e4;split at e4;rename_i kvs more ga gb;split at e4;cases e4;rename_i hab;split at e4;rename_i hz;cases e4;cases q2;obtain⟨va,a1,a2⟩:=r2.dm ga;obtain⟨vb,b1,b2⟩:=r2.dm gb;have hne:m2 i≠m2 j:=λz=>hab (by rw[r2.inj _ _ (cg ga) (cg gb) z];exact Nat.beq_refl _);have hmi:m1 i=m2 i:=(s2.same i (cg g)).symm;have hz':va.length+vb.length<=sizeLine:=by rw[a2.length,b2.length,qy];have:=qL.mp hz;lia
 refine⟨m1 i,m2 j,va,vb,rfl,rfl,by rw[hmi];exact hne,by rw[hmi];exact a1,b1,hz',?_⟩;obtain⟨st,r'⟩:=r2.write (i:=i) (o:=.dm (yf kvs more)) (u:=.dK (p5 va vb)) (cg ga) a1 (λ_ z=>nomatch z) (λ_ _ z=>nomatch z) λst=>⟨_,eS,aN.merge (b2.stp st) (a2.stp st)⟩
 rw[hmi];exact k _ _ _ ((s1.trans s2).trans st) r' .aQ;cases e4;cases e4;cases hk;cases e2
theorem aF.cU{K:aK}{m:Nat->ah}{n:Nat}{H:Hp}:∀{vs:List V} {ws:List W},aF K m n H vs ws->aF K m n H (L2.cU vs) (L2.cU ws)|_,_,.nil=>.nil|_,_,.cons q .nil=>.cons q .nil|_,_,.cons q (.cons _ r)=>.cons q r.cU
theorem aF.ud{K:aK}{m:Nat->ah}{n:Nat}{H:Hp}:∀(c:Nat) {vs:List V} {ws:List W},aF K m n H vs ws->aF K m n H (vs.drop c) (ws.drop c)|0,_,_,q=>q|c+1,_,_,.nil=>.nil|c+1,_,_,.cons _ r=>r.ud c
theorem Wn{w:W}{c:Nat}(h:rH w=aB c):c<=1/\((w=.aQ/\c=0)\/(w=.int 1/\c=1)):=by unfold rH at h;split at h;cases h;exact⟨by decide,.inl ⟨rfl,rfl⟩⟩;split at h;rename_i q;cases h;subst q;exact⟨by decide,.inr ⟨rfl,rfl⟩⟩;cases h;cases h
end
section
variable{X:Cx}{a k:ao}{lo:Option ao}{x y z:E}{bl:Bool}{cl:Call}{pos p2:Pos}
theorem Wo(ha:SE X a (ev cl x))(hl:PO X lo (jg X.K bl (ev cl y)))(hk:SE X k (ev cl z))(hy:(bl=false/\y=.cst .aQ)\/(bl=true/\y=.cst (.int 1))):SE X (.Subscript a (.Slice lo aC (aB k) p2) pos) (ev cl (.bi .st2 (.cons x (.cons y (.cons z .nil))))):=
 (Wc ha hl (MA hk)).imp λσ H Q z9=>z9.el λρ h m w h' f r e k=>by
   refine bK e λw0 h1 e1 e2=>?_;refine bK e1 λw1 h2 e3 e4=>?_;refine bK e4 λw2 h3 e5 e6=>?_;refine bK e5 λw3 h4 e7 e8=>?_;refine bK e8 λw4 h5 e9 vS=>?_;refine bK e9 λw5 h6 nT Wq=>?_;refine bK Wq λw6 h7 Wr Ws=>?_;cases Wr;cases Ws;cases vS;cases e6;have ue:nq [w1,w3,w5] h1=.ok w h':=e2;clear e2;unfold nq at ue;split at ue;rename_i i l kk heq;cases heq;split at ue;rename_i ws c g hc;split at ue;rename_i hk2;subst hk2;cases ue;obtain⟨hc1,hc2⟩:=Wn hc;refine .mk f r e3 λv1 H1 m1 s1 r1 q1=>?_;have hp:gh bl w3=aB (if c=0 then aC else aB 1):=by rcases hy with⟨rfl,rfl⟩|⟨rfl,rfl⟩;cases e7;rcases hc2 with⟨_,rfl⟩|⟨z,_⟩;rfl;cases z;cases e7;rcases hc2 with⟨z,_⟩|⟨_,rfl⟩;cases z;rfl
   refine .mk (f.stp s1) r1 e7 hp λH2 m2 s2 r2=>?_;refine .mk ((f.stp s1).stp s2) r2 nT rfl λH3 m3 s3 r3=>?_;cases(q1.stp s2).stp s3;obtain⟨vs,g1,g2⟩:=r3.lst g;refine⟨_,vs,c,rfl,hc1,rfl,rfl,cZ.of g1,λp hp=>?_⟩;exact aL.list (λv' H' m' s' r' q'=>k v' H' m' (((s1.trans s2).trans s3).trans s') r' q') r3 (g2.ud c).cU hp;cases ue;cases ue;cases ue
end
set_option genInjectivity false in
structure CC where
 N:List Str
 names:List (Str×NameKind)
 uf:Bool
noncomputable def oZ:List Str->Str->Nat->Option Nat|[],_,_=>aC|y::r,x,i=>if y==x then aB i else oZ r x (i+1)
theorem Nm:∀{N:List Str} {x:Str} {k i:Nat},oZ N x k=aB i->∃j,i=k+j/\N[j]?=aB x
 |[],_,_,_,e=>by cases e
 |y::r,x,k,i,e=>by
  unfold oZ at e;split at e;rename_i h;cases e;exact⟨0,rfl,by simpa using h⟩;obtain⟨j,h1,h2⟩:=Nm e;exact⟨j+1,by lia,by simpa using h2⟩
theorem IB{N:List Str}{x:Str}{i:Nat}(e:oZ N x 0=aB i):N[i]?=aB x:=by obtain⟨j,h1,h2⟩:=Nm e;rw[show i=j by lia];exact h2
noncomputable def rO:Option NameKind->Bool|some .local|some .cell|some .free=>true|_=>false
noncomputable def rP(all:Bool):Option NameKind->Bool|some .local=>true|some .cell=>all|_=>false
noncomputable def okN(x:Str):Bool:=!(x==("__debug__" : Str)) && !(x==("__classdict__" : Str)) && !(x==("__name__" : Str)) && !(x==("" : Str))
theorem Wt{x:Str}(h:okN x):x≠"":=by unfold okN at h;simp only[bY,u5]at h;exact λz=>by rw[z]at h;simp at h
theorem yo{x:Str}(h:okN x):(x==("__debug__" : Str))=false/\(x==("__classdict__" : Str))=false/\x≠"__name__":=by unfold okN at h;simp only[bY,u5]at h;exact⟨h.1.1.1,h.1.1.2,λz=>by rw[z]at h;simp at h⟩
noncomputable def o9(K:aK):Nat->aa->Option W
 |0,_=>aC
 |n+1,v=>match v with
  |.none=>aB .aQ
  |.bool b=>aB (.bl b)
  |.int i _=>aB (.int i)
  |.str x _=>aB (.str x)
  |.ref a=>(match K.lookup a with
   |some o=>(match o.cls,o.dict,o.data with
    |.type t,aC,.seq its _=>if t == "tuple" && Nat.ble its.size 1000 then(aT (o9 K n) its.toList).map .tup else aC
    |_,_,_=>aC)
   |none=>aC)
  |_=>aC
theorem Nn{K:aK}{f:aa->Option W}(ih:∀v w,f v=aB w->∃x,RelV x v/\∀m n H,aJ K m n H x w):∀{us:List aa} {ws:List W},aT f us=aB ws->∃xs,Vals xs us/\∀m n H,aF K m n H xs ws
 |[],_,e=>by cases e;exact⟨[],.nil,λ_ _ _=>.nil⟩
 |u::us,ws,e=>by
  unfold aT at e;split at e;rename_i b hb;split at e;rename_i bs BD;cases e;obtain⟨x,h1,h2⟩:=ih u b hb;obtain⟨xs,h3,h4⟩:=Nn ih BD;exact⟨x::xs,.cons h1 h3,λm n H=>.cons (h2 m n H) (h4 m n H)⟩;cases e;cases e
theorem Np{K:aK}:∀(n:Nat) (v:aa) (w:W),o9 K n v=aB w->∃x,RelV x v/\∀m n H,aJ K m n H x w
 |0,_,_,e=>by cases e
 |n+1,v,w,e=>by
  unfold o9 at e;split at e;cases e;exact⟨.aQ,rfl,λ_ _ _=>.aQ⟩;cases e;exact⟨.bl _,rfl,λ_ _ _=>.bl _⟩;cases e;exact⟨.int _,⟨_,rfl⟩,λ_ _ _=>.int _⟩;cases e;exact⟨.str _,⟨_,rfl⟩,λ_ _ _=>.str _⟩;rename_i a;split at e;rename_i o ho;split at e;rename_i t its nn hc Em hd;split at e;rename_i hz;rw[bY]at hz;have ht:t = "tuple":=by simpa using hz.1
  subst ht;cases z:aT (o9 K n) its.toList with
  |none=>rw[z]at e;cases e
  |some ws=>
   rw[z]at e;cases e;obtain⟨xs,h3,h4⟩:=Nn (Np n) z;exact⟨.ref a,rfl,λm n H=>.tup (.inr ⟨o,its,nn,ho,hc,Em,hd,sZ (Ly (k9 hz.2)),h3⟩) (h4 m n H)⟩
  cases e;cases e;cases e;cases e
noncomputable def cL(f:ao->Option E):List ao->Option E
 |[]=>aB .nil
 |e::es=>match f e,cL f es with
  |some a,aB r=>aB (.cons a r)
  |_,_=>aC
noncomputable def fnAt(K:aK)(x:Str):Option (ah×Obj×au):=match gp K x with
 |some f=>(match K.lookup f with
  |some o=>(match o.data with
   |.func fd=>aB (f,o,fd)
   |_=>aC)
  |none=>aC)
 |none=>aC
noncomputable def vZ:Arguments->Option (List Arg)|⟨[],args,aC,[],[],aC,_⟩=>aB args|_=>aC
noncomputable def isNone:aa->Bool|.none=>true|_=>false
noncomputable def ED:Data->Bool
 |.seq xs _=>(match xs.toList with
  |[v]=>isNone v
  |_=>false)
 |_=>false
noncomputable def gu(K:aK):aa->Bool
 |.ref t=>(match K.lookup t with
  |some o=>ED o.data
  |none=>false)
 |_=>false
noncomputable def IC(K:aK)(x:Str)(n:Nat):Bool:=match fnAt K x with|some (_,_,fd)=>gu K fd.defaults&&Nat.beq (n+1) fd.params.args.length|none=>false
noncomputable def gS(K:aK)(x:Str):Bool:=match fnAt K x with|some (_,_,fd)=>gu K fd.defaults|none=>false
theorem Wu{K:aK}{x:Str}{n:Nat}(h:IC K x n):gS K x=true:=by unfold IC at h;unfold gS;split at h;rw[bY]at h;exact h.1;cases h
noncomputable def nB:E->E|.nil=>.cons (.cst .aQ) .nil|.cons a r=>.cons a (nB r)|e=>e
noncomputable def mj:E->Bool|.nil=>true|.cons _ r=>mj r|_=>false
theorem Wv{cl:Call}:∀{a:E},mj a=true->∀(ρ:En) (h:VH),ev cl (nB a) ρ h=(ev cl a ρ h).bind λy h=>match y with|.tup ys=>.ok (.tup (ys++[.aQ])) h|_=>.no:=by
 intro a;induction a with
 |nil=>intro _ ρ h;rfl
 |cons x r _ ih=>
  intro ha ρ h;have ih:=ih ha;simp only[nB,ev];cases ev cl x ρ h with
  |no=>rfl
  |ex _ _=>rfl
  |ok w h1=>
   show Res.bind (ev cl (nB r) ρ h1) _=Res.bind (Res.bind (ev cl r ρ h1) _) _;rw[ih];cases ev cl r ρ h1 with|no=>rfl|ex _ _=>rfl|ok y h2=>cases y<;>rfl
 |_=>intro ha;cases ha
theorem Nq{f:ao->Option E}:∀{es:List ao} {a:E},cL f es=aB a->mj a=true
 |[],_,h=>by cases h;rfl
 |e::es,a,h=>by
  unfold cL at h;split at h;rename_i x r h1 h2;cases h;show mj r=true;exact Nq h2;cases h
noncomputable def EE(f:ao->Option E):List (Option ao)->List ao->Option E
 |[],[]=>aB .nil
 |some k::ks,v::vs=>match f k,f v,EE f ks vs with
  |some a,aB b,aB r=>aB (.cons a (.cons b r))
  |_,_,_=>aC
 |_,_=>aC
noncomputable def cB(and:Bool)(f:ao->Option E):List ao->Option E
 |[]=>aC
 |[a]=>f a
 |a::b::r=>match f a,cB and f (b::r)with
  |some x,aB y=>aB (if and then .and x y else .or x y)
  |_,_=>aC
noncomputable def cO(f:ao->Option E):Option ao->Option (Bool×E)|none=>aB (false,.cst .aQ)|some e=>(f e).map λc=>(true,c)
noncomputable def v9(K:aK)(C:CC)(x:Str):Bool:=C.names.lookup x==aB .globalImplicit&& (match PySem.W.nsIn K mainGlobals x with|some aC=>true|_=>false)
noncomputable def wc(x:Str):Option Ty:=
 if x==("int" : Str)then aB .int else if x==("bool" : Str)then aB .bool else if x==("tuple" : Str)then aB .tuple else if x==("list" : Str)then aB .list else if x==("str" : Str)then aB .str else if x==("dict" : Str)then aB .dict else aC
noncomputable def Ww(f:Str)(args:List ao):Option ao:=if f==("list" : Str)then(match args with|[.Call (.Name g _) [a] [] _]=>if g==("range" : Str)then aB a else aC|_=>aC)else aC
noncomputable def we(x:Str):Option Bi:=
 if x==("len" : Str)then aB .len else if x==("list" : Str)then aB .list else if x==("tuple" : Str)then aB .tuple else if x==("int" : Str)then aB .int else if x==("abs" : Str)then aB .abs else if x==("max" : Str)then aB .max else if x==("min" : Str)then aB .min else if x==("all" : Str)then aB .all else aC
noncomputable def Nr:ao->Bool|.Tuple ..=>true|_=>false
noncomputable def wg:Kd->ao->Bool|.lA,t=>Nr t|.zip,t=>Nr t|_,_=>true
noncomputable def gT(C:CC):ao->Option Nat|.Name x _=>if okN x&&rP C.uf (C.names.lookup x)then oZ C.N x 0 else aC|_=>aC
noncomputable def wj(C:CC):ao->Option Tg
 |.Name x p=>(gT C (.Name x p)).map .one
 |.Tuple [e,.Tuple es _ _] _ _=>(match aT (gT C) es,gT C e with
  |some is,aB j=>aB (.AE j is)
  |_,_=>aC)
 |.Tuple es _ _=>(aT (gT C) es).map .many
 |_=>aC
noncomputable def ownOf(sc:ay):List Str:=(sc.names.filter λy=>(y.2 == .local||y.2 == .cell) && !(y.1==(".0" : Str))).map (·.1)
noncomputable def eV(sc:ay):List Str:=(sc.names.filter λy=>y.2 == .free).map (·.1)
noncomputable def pe(C:CC)(sc:ay)(ix:List Nat):Bool:=
 decide (sc.kind=.function)&&sc.names.all (λy=>decide (y.2=.cell->sc.names.lookup y.1=aB .cell))&&sc.names.all (λy=>decide (y.2=.free->sc.names.lookup y.1=aB .free))&&sc.names.all (λy=>decide (y.2=.local->sc.names.lookup y.1=aB .local)) &&
 (ownOf sc).all (λx=>decide (sc.names.lookup x=aB .local\/sc.names.lookup x=aB .cell))&&sc.names.all (λy=>decide (y.2=.free->C.names.lookup y.1=aB .cell\/C.names.lookup y.1=aB .free))&&decide (ix.length=(eV sc).length) &&
 ((List.range (eV sc).length).all λk=>match(eV sc)[k]?,ix[k]? with|some x,aB j=>decide (C.N[j]?=aB x)&&decide (sc.names.lookup x=aB .free)|_,_=>false)&&decide (ownOf sc++eV sc).Nodup
noncomputable def jh(sc:ay):CC:=⟨ownOf sc++eV sc,sc.names,true⟩
noncomputable def wk(bl:Bool)(l:E):Bool:=match l with
 |.cst w=>(match w with
  |.aQ=>!bl
  |.int i=>bl&&decide (i=1)
  |_=>false)
 |_=>false
theorem Wx{bl:Bool}{l:E}(h:wk bl l):(bl=false/\l=.cst .aQ)\/(bl=true/\l=.cst (.int 1)):=by unfold wk at h;split at h;split at h;exact .inl ⟨by simpa using h,rfl⟩;rw[bY,iB]at h;obtain⟨h1,rfl⟩:=h;exact .inr ⟨h1,rfl⟩;cases h;cases h
noncomputable def Wy(x:Str):Bool:=x==("rockers" : Str)
noncomputable def Nt(C:CC)(x:Str):Bool:=Wy x&& (oZ C.N ("doors" : Str) 0).isNone
mutual
noncomputable def cE(K:aK)(T:List Str):Nat->CC->ao->Option E
 |0,_,_=>aC
 |n+1,C,e=>match e with
  |.Name x _=>if okN x then(if rO (C.names.lookup x)then(oZ C.N x 0).map .var
   else if C.names.lookup x==aB .globalImplicit then(match PySem.W.nsIn K mainGlobals x with|some (aB v)=>(o9 K 8 v).map .cst|_=>aC)else aC)else aC
  |.Constant c _ _=>(match c with
   |.int i=>aB (.cst (.int i))
   |.bool b=>aB (.cst (.bl b))
   |.none=>aB (.cst .aQ)
   |.str x=>aB (.cst (.str x))
   |_=>aC)
  |.Tuple es _ _=>(cL (cE K T n C) es).map .tup
  |.List es _=>(cL (cE K T n C) es).map .lst
  |.Dict ks vs _=>(match ks with
   |[]=>(match vs with
    |[]=>aB (.bi .HH .nil)
    |_::_=>aC)
   |k::ks=>if Nat.ble (k::ks).length 15&&Nat.beq (k::ks).length vs.length&& (k::ks).all (·.isSome)then(EE (cE K T n C) (k::ks) vs).map .AF else aC)
  |.BinOp a O b _=>(match AU O,cE K T n C a,cE K T n C b with
   |some o,aB x,aB y=>aB (.op o x y)
   |_,_,_=>aC)
  |.UnaryOp o a _=>(match o with
   |.Not=>(cE K T n C a).map .not
   |.USub=>(cE K T n C a).map .neg
   |_=>aC)
  |.BoolOp o es _=>(match o with
   |.And=>cB true (cE K T n C) es
   |.Or=>cB false (cE K T n C) es)
  |.Compare a Os bs _=>(match Os,bs with
   |[O],[b]=>if qc b then(match gP O,cE K T n C a,cE K T n C b with
   |some c,aB x,aB y=>aB (.cmp c x y)
   |_,_,_=>aC)else aC
   |[O,O'],[b,c]=>if qc c then(match gP O,gP O',cE K T n C a,cE K T n C b,cE K T n C c with
   |some o,aB o',aB x,aB y,aB z=>aB (.yc o o' x y z)
   |_,_,_,_,_=>aC)else aC
   |_,_=>aC)
  |.IfExp c a b _=>(match cT K T n C c,cE K T n C a,cE K T n C b with
   |some z,aB x,aB y=>aB (.ite z x y)
   |_,_,_=>aC)
  |.Subscript a b _=>(match b with
   |.Slice lo hi st _=>(match st with
    |none=>(match cE K T n C a,cO (cE K T n C) lo,cO (cE K T n C) hi with
   |some x,aB (bl,l),aB (bh,u)=>aB (.slc x bl l bh u)
   |_,_,_=>aC)
    |some s=>(match hi with
     |none=>(match cE K T n C a,cO (cE K T n C) lo,cE K T n C s with
      |some x,aB (bl,l),aB y=>if wk bl l then aB (.bi .st2 (.cons x (.cons l (.cons y .nil))))else aC
      |_,_,_=>aC)
     |some _=>aC))
   |b=>if zev b then(match cE K T n C a,cE K T n C b with
   |some x,aB y=>aB (.idx x y)
   |_,_=>aC)else aC)
  |.Call fn args kw pos=>(match kw with
   |[]=>(match fn with
    |.Name f _=>if okN f&&C.names.lookup f==aB .globalImplicit then(match PySem.W.nsIn K mainGlobals f with
     |some aC=>if f==("isinstance" : Str)then(match args with
      |[a,.Name t _]=>(match wc t,cE K T n C a with
       |some ty,aB x=>if okN t&&v9 K C t then aB (.vL ty x)else aC
       |_,_=>aC)
      |_=>aC)
      else(match we f,args with|some b,_::_=>(cL (cE K T n C) args).map (.bi b)|_,_=>aC)
     |some (aB _)=>(match oZ T f 0 with
      |some i=>if IC K f args.length && !args.isEmpty then(cL (cE K T n C) args).map (λa=>.call i (nB a))else(cL (cE K T n C) args).map (.call i)
      |none=>aC)
     |none=>aC)else aC
    |.Attribute o ID ap=>if A8 o&& (ap.endLine==pos.line)then(match cE K T n C o,args with
     |some x,[a]=>if ID==("append" : Str)then(cE K T n C a).map λy=>.mt .append x (.cons y .nil)else if ID==("update" : Str)then(cE K T n C a).map λy=>.mt .update x (.cons y .nil)else aC
     |some x,[a,b]=>if ID==("get" : Str)then(match cE K T n C a,cE K T n C b with
      |some y,aB z=>aB (.mt .get x (.cons y (.cons z .nil)))
      |_,_=>aC)else aC
     |_,_=>aC)else aC
    |_=>aC)
   |_=>aC)
  |.ListComp elt gs sc _=>(match gs with
   |[g]=>(match g with
    |⟨tg,iter,ifs,0⟩=>(match aT (λx=>oZ C.N x 0) (eV sc)with
     |some ix=>if pe C sc ix then(match cW K T n C iter,wj (jh sc) tg,(match ifs with|[]=>aB (.cst (.bl true))|[c]=>cT K T n (jh sc) c|_=>aC),cE K T n (jh sc) elt with
      |some (kd,a),aB t,aB c,aB e=>if wg kd tg then aB (.lc kd a t (ownOf sc).length ix c e)else aC
      |_,_,_,_=>aC)else aC
     |none=>aC)
    |_=>aC)
   |[g,g2]=>(match g with
    |⟨tg,iter,ifs,0⟩=>(match g2 with
     |⟨gJ,bC,dM,0⟩=>(match aT (λx=>oZ C.N x 0) (eV sc)with
      |some ix=>if pe C sc ix then(match cW K T n C iter,wj (jh sc) tg,(match ifs with|[]=>aB (E.cst (.bl true))|[c]=>cT K T n (jh sc) c|_=>aC),cE K T n (jh sc) elt with
       |some (kd,a),aB t,aB c,aB e=>if wg kd tg then(match cW K T n (jh sc) bC,wj (jh sc) gJ,(match dM with|[]=>aB (E.cst (.bl true))|[c]=>cT K T n (jh sc) c|_=>aC)with
        |some (iS,a2),aB t2,aB c2=>if wg iS gJ then aB (.yd kd a t (ownOf sc).length ix c iS a2 t2 c2 e)else aC
        |_,_,_=>aC)else aC
       |_,_,_,_=>aC)else aC
      |none=>aC)
     |_=>aC)
    |_=>aC)
   |_=>aC)
  |.DictComp ek nA gs sc _=>(match gs with
   |[g]=>(match g with
    |⟨tg,iter,ifs,0⟩=>(match aT (λx=>oZ C.N x 0) (eV sc)with
     |some ix=>if pe C sc ix then(match cW K T n C iter,wj (jh sc) tg,(match ifs with|[]=>aB (.cst (.bl true))|[c]=>cT K T n (jh sc) c|_=>aC),cE K T n (jh sc) ek,cE K T n (jh sc) nA with
      |some (kd,a),aB t,aB c,aB e,aB v=>if wg kd tg then aB (.dc kd a t (ownOf sc).length ix c e v)else aC
      |_,_,_,_,_=>aC)else aC
     |none=>aC)
    |_=>aC)
   |_=>aC)
  |_=>aC
noncomputable def cT(K:aK)(T:List Str):Nat->CC->ao->Option E
 |0,_,_=>aC
 |n+1,C,e=>match e with
  |.Compare a Os bs _=>(match Os,bs with
   |[O],[b]=>if qc b then(match gP O,cE K T n C a,cE K T n C b with
   |some c,aB x,aB y=>aB (.cmp c x y)
   |_,_,_=>aC)else aC
   |[O,O'],[b,c]=>if qc c then(match gP O,gP O',cE K T n C a,cE K T n C b,cE K T n C c with
   |some o,aB o',aB x,aB y,aB z=>aB (.yc o o' x y z)
   |_,_,_,_,_=>aC)else aC
   |_,_=>aC)
  |.UnaryOp o a _=>(match o with
   |.Not=>(cT K T n C a).map .not
   |_=>aC)
  |.BoolOp o es _=>(match o with
   |.And=>cB true (cT K T n C) es
   |.Or=>cB false (cT K T n C) es)
  |.Name x p=>(cE K T n C (.Name x p)).map .p9
  |.Call f as ks p=>(cE K T n C (.Call f as ks p)).map .p9
  |.Subscript a b p=>(cE K T n C (.Subscript a b p)).map .p9
  |_=>aC
noncomputable def cW(K:aK)(T:List Str):Nat->CC->ao->Option (Kd×E)
 |0,_,_=>aC
 |n+1,C,e=>match e with
  |.Call (.Name f p) args [] pos=>if f==("range" : Str)then(if v9 K C f then(match args with
   |[a]=>(cE K T n C a).map λx=>(.cD,.cons x .nil)
   |[a,b]=>(match cE K T n C a,cE K T n C b with
    |some x,aB y=>aB (.gK,.cons x (.cons y .nil))
    |_,_=>aC)
   |_=>aC)else aC)
   else if f==("enumerate" : Str)then(if v9 K C f then(match args with|[a]=>(cE K T n C a).map λx=>(.lA,x)|_=>aC)else aC)
   else if f==("reversed" : Str)then(if v9 K C f then(match args with|[a]=>(cE K T n C a).map λx=>(.rev,x)|_=>aC)else aC)
   else if f==("zip" : Str)then(if v9 K C f then(match args with
    |[a,b]=>(match cE K T n C a,cE K T n C b with
     |some x,aB y=>aB (.zip,.cons x (.cons y .nil))
     |_,_=>aC)
    |_=>aC)else aC)
   else(cE K T n C (.Call (.Name f p) args [] pos)).map λx=>(.seq,x)
  |.Set ..=>aC
  |.Name x p=>(cE K T n C (.Name x p)).map λc=>if Nt C x then(.keys,.bi .bF (.cons c .nil))else(.seq,c)
  |e=>(cE K T n C e).map λx=>(.seq,x)
end
noncomputable def pq(f:aq->Option S):List aq->Option S
 |[]=>aB .skip
 |s::r=>match f s,pq f r with
  |some a,aB b=>aB (.seq a b)
  |_,_=>aC
noncomputable def cS(K:aK)(T:List Str)(d:Nat):Nat->CC->aq->Option S
 |0,_,_=>aC
 |n+1,C,s=>match s with
  |.Pass _=>aB .skip
  |.Break _=>aB .brk
  |.Continue _=>aB .cnt
  |.Raise ..=>aB .no
  |.Return r _=>(match r with
   |none=>aB (.ret (.cst .aQ))
   |some e=>(cE K T d C e).map .ret)
  |.Expr e _=>if Ez e then(cE K T d C e).map .expr else aC
  |.Assign l e _=>(match l with
   |[t]=>(match t with
    |.Name x p=>(match gT C (.Name x p),cE K T d C e with
    |some i,aB c=>aB (.set i c)
    |_,_=>aC)
    |.Tuple ts _ _=>if oX e then(match aT (gT C) ts,cE K T d C e with
    |some is,aB c=>aB (.ye is c)
    |_,_=>aC)else aC
    |.Subscript o i _=>if zev i then(match cE K T d C o,cE K T d C i,cE K T d C e with
    |some x,aB y,aB z=>aB (.put x y z)
    |_,_,_=>aC)else aC
    |_=>aC)
   |_=>aC)
  |.AugAssign t O e _=>(match t with
   |.Name x p=>(match gT C (.Name x p),rN O,cE K T d C e with
    |some i,aB o,aB c=>aB (.aug i o c)
    |_,_,_=>aC)
   |_=>aC)
  |.If c a b _=>(match cT K T d C c,pq (cS K T d n C) a,pq (cS K T d n C) b with
   |some z,aB x,aB y=>aB (.ite z x y)
   |_,_,_=>aC)
  |.For tg it b el _=>(match el with
   |[]=>(match cW K T d C it,wj C tg,pq (cS K T d n C) b with
    |some (kd,a),aB t,aB x=>if wg kd tg then aB (.for kd a t x)else aC
    |_,_,_=>aC)
   |_=>aC)
  |.While c b el _=>(match el with
   |[]=>(match cT K T d C c,pq (cS K T d n C) b with
    |some z,aB x=>aB (.AG z x)
    |_,_=>aC)
   |_=>aC)
  |_=>aC
structure iu(X:Cx)(C:CC)(T:List Str)(F:Nat->Option Fn)(k:Nat):Prop where
 hN:X.N=C.N
 nd:C.N.Nodup
 vis:∀x,rO (C.names.lookup x)=true->xR X.env.scope x
 loc:∀x,rP C.uf (C.names.lookup x)=true->Loc X.env.scope x/\(X.fn x=true\/X.env.scope.names.lookup x=aB .local)
 gl:∀x,C.names.lookup x=aB .globalImplicit->Gl X x
 cf:∀x,(C.names.lookup x=aB .cell\/C.names.lookup x=aB .free)->X.env.kindOf x=aB .cell\/X.env.kindOf x=aB .free
 calm:X.calm=true
 room:dF k X.A
 xe:X.xe=λ_ _=>False
 Nu:X.env.scope.kind=.function
 BE:∀x v,PySem.W.nsIn X.K mainGlobals x=aB (aB v)->X.mg x=aB v
 IE:∀x,PySem.W.nsIn X.K mainGlobals x=aB aC->X.mg x=aC
 fns:∀(i:Nat)(x:Str),T[i]?=aB x->x≠""->∃f fd ps fn,gp X.K x=aB f/\fK X.prog X.w X.K X.mg X.base lY k f fd ps (oR X.K ps.length (run F k i))/\PySem.W.keepIn X.K (.ref f)=true/\Binds X.K fd ps []/\F i=aB fn/\fn.ps=ps.length/\(gS X.K x=true->Binds X.K fd ps [.none])
section
variable{X:Cx}{C:CC}{T:List Str}{F:Nat->Option Fn}{k:Nat}
theorem iu.EF(O:iu X C T F k):X.A.units+65<cLine:=by have:=O.room.un;lia
theorem iu.u2(O:iu X C T F k):X.A.units+2<cLine:=Dg (Nat.add_le_add_left (by decide:2<=64) _) O.room.units
theorem iu.u1(O:iu X C T F k):X.A.units+1<cLine:=Dg (Nat.add_le_add_left (by decide:1<=64) _) O.room.units
theorem BF(O:iu X C T F k){x:Str}(h:v9 X.K C x):Gl X x/\X.mg x=aC:=by unfold v9 at h;rw[bY]at h;refine⟨O.gl x (by simpa using h.1),O.IE x ?_⟩;have h2:=h.2;split at h2;assumption;cases h2
theorem kH(O:iu X C T F k){e:ao}{i:Nat}(h:gT C e=aB i):lE X e i:=by unfold gT at h;split at h;split at h;rename_i hc;rw[bY]at hc;obtain⟨h1,h2⟩:=O.loc _ hc.2;exact⟨_,_,rfl,by rw[O.hN];exact IB h,h1,h2⟩;cases h;cases h
theorem EG(O:iu X C T F k):∀{es:List ao} {is:List Nat},aT (gT C) es=aB is->Paired (lE X) es is
 |[],_,h=>by cases h;exact .nil
 |e::es,is,h=>by
  unfold aT at h;split at h;rename_i b hb;split at h;rename_i bs BD;cases h;exact .cons (kH O hb) (EG O BD);cases h;cases h
theorem kI(O:iu X C T F k){e:ao}{t:Tg}(h:wj C e=aB t):PG X e (cK X.K t):=by
 unfold wj at h;split at h;rename_i x p;cases z:gT C (.Name x p)with
 |none=>rw[z]at h;cases h
 |some i=>
  rw[z]at h;cases h;obtain⟨x',p',e,h1,h2,h3⟩:=kH O z;cases e;exact MP (O.hN▸O.nd) h1 h2 h3
 split at h;rename_i is j z z2;cases h;obtain⟨x',p',e,h1,h2,h3⟩:=kH O z2;exact Vj O.calm (O.hN▸O.nd) (EG O z) ⟨x',p',e,h1,h2,h3⟩;cases h;rename_i es kx p _;cases z:aT (gT C) es with|none=>rw[z]at h;cases h|some is=>rw[z]at h;cases h;exact Ia O.calm (O.hN▸O.nd) (EG O z)
 cases h
theorem jz{f:ao->Option E}{cl:Call}(ih:∀e c,f e=aB c->SE X e (ev cl c)/\gQ e):∀{es:List ao} {c:E},cL f es=aB c->SA X es (ev cl c)/\es.all gQ=true
 |[],_,h=>by cases h;exact⟨Er,rfl⟩
 |e::es,c,h=>by
  unfold cL at h;split at h;rename_i a r ha hr;cases h;obtain⟨h1,h2⟩:=ih e a ha;obtain⟨h3,h4⟩:=jz ih hr;exact⟨yh h1 h3 (fN h2),by rw[sY,h2,h4];rfl⟩;cases h
theorem Nv{f:ao->Option E}{cl:Call}{pos:Pos}(ih:∀e c,f e=aB c->SE X e (ev cl c)/\gQ e):∀{ks:List (Option ao)} {vs:List ao} {c:E},EE f ks vs=aB c->A9 X pos ks vs (ev cl c)
 |[],[],_,h=>by cases h;exact UU
 |[],_::_,_,h=>by cases h
 |none::_,_,_,h=>by cases h
 |some _::_,[],_,h=>by cases h
 |some a::ks,v::vs,c,h=>by
  unfold EE at h;split at h;rename_i x y r hx hy hr;cases h;exact UW (ih _ _ hx).1 (ih _ _ hy).1 (Nv ih hr);cases h
theorem mq{f:ao->Option E}{cl:Call}{pos:Pos}(ih:∀e c,f e=aB c->SE X e (ev cl c)/\gQ e):∀{es:List ao} {c:E},(cB true f es=aB c->SE X (.BoolOp .And es pos) (ev cl c))/\(cB false f es=aB c->SE X (.BoolOp .Or es pos) (ev cl c))
 |[],_=>⟨(λh=>nomatch h),(λh=>nomatch h)⟩
 |[a],c=>⟨λh=>My (ih a c h).1,λh=>My (ih a c h).1⟩
 |a::b::r,c=>by
  refine⟨λh=>?_,λh=>?_⟩;unfold cB at h;split at h;rename_i x y hx hy;cases h;exact Ut (ih a x hx).1 ((mq ih).1 hy);cases h;unfold cB at h;split at h;rename_i x y hx hy;cases h;exact A2 (ih a x hx).1 ((mq ih).2 hy);cases h
theorem EH{f:ao->Option E}{cl:Call}{pos:Pos}(ih:∀e c,f e=aB c->ST X e (ev cl c)):∀{es:List ao} {c:E},(cB true f es=aB c->SW X (.BoolOp .And es pos) (ev cl c))/\(cB false f es=aB c->SW X (.BoolOp .Or es pos) (ev cl c))
 |[],_=>⟨(λh=>nomatch h),(λh=>nomatch h)⟩
 |[a],c=>⟨λh=>Mx (ih a c h),λh=>Mx (ih a c h)⟩
 |a::b::r,c=>by
  refine⟨λh=>?_,λh=>?_⟩;unfold cB at h;split at h;rename_i x y hx hy;cases h;exact Us (ih a x hx) ((EH ih).1 hy);cases h;unfold cB at h;split at h;rename_i x y hx hy;cases h;exact A1 (ih a x hx) ((EH ih).2 hy);cases h
theorem pA{f:ao->Option E}{cl:Call}(ih:∀e c,f e=aB c->SE X e (ev cl c)/\gQ e){o:Option ao}{b:Bool}{c:E}(h:cO f o=aB (b,c)):PO X o (jg X.K b (ev cl c)):=by
 unfold cO at h;split at h;cases h;exact UA;rename_i e;cases z:f e with|none=>rw[z]at h;cases h|some c'=>rw[z]at h;cases h;exact MA (ih _ _ z).1
theorem Wz{x:Str}{t:Ty}(h:wc x=aB t):bootBuiltins x=aB (.type (rK t)):=by unfold wc at h;split at h;rename_i e;cases h;rw[show x = "int" by simpa using e];exact PyProof.Rows.boot_int;split at h;rename_i e;cases h;rw[show x = "bool" by simpa using e];decide +kernel;split at h;rename_i e;cases h;rw[show x = "tuple" by simpa using e];exact PyProof.Rows.boot_tuple;split at h;rename_i e;cases h;rw[show x = "list" by simpa using e];exact PyProof.Rows.boot_list;split at h;rename_i e;cases h;rw[show x = "str" by simpa using e];decide +kernel;split at h;rename_i e;cases h;rw[show x = "dict" by simpa using e];decide +kernel;cases h
theorem BG{x:Str}{b:Bi}{e:ao}{es:List ao}{fa:FE}{p pos:Pos}(h:we x=aB b)(hg:Gl X x)(hm:X.mg x=aC)(hn:okN x)(hc:X.calm)(ha:SA X (e::es) fa)(hs:(e::es).all gQ):SE X (.Call (.Name x p) (e::es) [] pos) (jL fa (mh b)):=by
 obtain⟨n1,_,n2⟩:=yo hn;unfold we at h;split at h;rename_i z;cases h;have z:x = "len":=by simpa using z
 subst z;exact A6 (RA.or TZ) UD hg hm PySem.boot_len ha hs n2 n1;split at h;rename_i z;cases h;have z:x = "list":=by simpa using z
 subst z;exact HU RB UE hg hm PyProof.Rows.boot_list ha hs n2 n1;split at h;rename_i z;cases h;have z:x = "tuple":=by simpa using z
 subst z;exact HU (RC.or (T3 hc)) UG hg hm PyProof.Rows.boot_tuple ha hs n2 n1;split at h;rename_i z;cases h;have z:x = "int":=by simpa using z
 subst z;exact HU Q5 UH hg hm PyProof.Rows.boot_int ha hs n2 n1;split at h;rename_i z;cases h;have z:x = "abs":=by simpa using z
 subst z;exact A6 Q2 UI hg hm (by decide +kernel) ha hs n2 n1;split at h;rename_i z;cases h;have z:x = "max":=by simpa using z
 subst z;exact A6 ((Q3 hc).or (Wh hc)) UJ hg hm (by decide +kernel) ha hs n2 n1;split at h;rename_i z;cases h;have z:x = "min":=by simpa using z
 subst z;exact A6 (Q4 hc) UK hg hm (by decide +kernel) ha hs n2 n1;split at h;rename_i z;cases h;have z:x = "all":=by simpa using z
 subst z;exact A6 (S6 hc) UL hg hm (by decide +kernel) ha hs n2 n1;cases h
theorem WA{b:ao}(h:zev b):GF b:=λo i=>by cases b<;>first|rfl|cases h
end
section
variable{X:Cx}{C:CC}{T:List Str}{F:Nat->Option Fn}{k:Nat}
theorem ug{env:Env}{kd:NameKind}(hk:kd≠.free):∀{l:List (Str×NameKind)} {x:Str},l.lookup x=aB kd->
 (l.map λ(n,k)=>if(k==NameKind.free&&env.scope.kind == .function&&env.kindOf n==aB .cell)then(n,NameKind.cell)else(n,k)).lookup x=aB kd
 |[],_,h=>by cases h
 |(n,j)::r,x,h=>by
  rw[dH];simp only[gE]at h;by_cases hx:(x==n)=true;simp only[hx]at h;cases h;have:(kd==NameKind.free)=false:=by simpa using hk
  simp only[this,vec,dW,dg,gE,hx];have hx':(x==n)=false:=by simpa using hx
  simp only[hx']at h;have ih:=ug (env:=env) hk (l:=r) (x:=x) h;by_cases hc':(j==NameKind.free&&env.scope.kind == .function&&env.kindOf n==aB .cell)=true;simp only[hc',cC,gE,hx'];exact ih;have hcf:(j==NameKind.free&&env.scope.kind == .function&&env.kindOf n==aB .cell)=false:=by simpa using hc'
  simp only[hcf,dW,dg,gE,hx'];exact ih
theorem EJ(O:iu X C T F k){sc:ay}{ix:List Nat}(h:pe C sc ix):aY X (ownOf sc) (eV sc) ix sc/\(ownOf sc++eV sc).Nodup:=by
 unfold pe at h;simp only[bY,iB,i6]at h;obtain⟨⟨⟨⟨⟨⟨⟨⟨h1,h2⟩,h2'⟩,h3⟩,h4⟩,h5⟩,h6⟩,h7⟩,h8⟩:=h;refine⟨⟨h1,h2,h3,h4,h2',λy hy e=>O.cf _ (h5 y hy e),λq x e=>?_,h6⟩,h8⟩;have hk:q< (eV sc).length:=(gA.mp e).1;have:=h7 q (nQ.mpr hk);rw[e]at this;cases z:ix[q]? with
 |none=>rw[z]at this;cases this
 |some j=>
  rw[z]at this;simp only[bY,iB]at this;exact⟨j,rfl,by rw[O.hN];exact this.1,this.2⟩
theorem uh(O:iu X C T F k){sc:ay}{ix:List Nat}(h:pe C sc ix)(D:ah)(s₀:af)(H₀:Hp)(ex:List ah):iu (X.comp (ownOf sc++eV sc) sc D s₀ H₀ ex) (jh sc) T F k:=by
 obtain⟨S,nd⟩:=EJ O h;refine⟨rfl,nd,λx hx=>?_,λx hx=>?_,λx hx=>?_,λx hx=>?_,O.calm,O.room,rfl,S.kind,O.BE,O.IE,O.fns⟩;have hx:rO (sc.names.lookup x)=true:=hx;cases z:sc.names.lookup x with
 |none=>rw[z]at hx;cases hx
 |some kd=>
  cases kd with
  | «local»=>exact .inl (ug (by decide) z)
  |cell=>exact .inr (.inl (ug (by decide) z))
  |free=>
   have:=DV (env:=X.env) O.Nu z;by_cases hc:X.env.kindOf x=aB .cell;rw[if_pos hc]at this;exact .inr (.inl this);rw[if_neg hc]at this;exact .inr (.inr this)
  |globalExplicit=>rw[z]at hx;cases hx
  |globalImplicit=>rw[z]at hx;cases hx
 have hx:rP true (sc.names.lookup x)=true:=hx;cases z:sc.names.lookup x with
 |none=>rw[z]at hx;cases hx
 |some kd=>
  cases kd with| «local»=>exact⟨.inl (ug (by decide) z),.inr (ug (by decide) z)⟩|cell=>exact⟨.inr (ug (by decide) z),.inl (by show(sc.names.lookup x==aB NameKind.cell)=true;rw[z];rfl)⟩|free=>rw[z]at hx;cases hx|globalExplicit=>rw[z]at hx;cases hx|globalImplicit=>rw[z]at hx;cases hx
 exact ug (by decide) hx;have hx:sc.names.lookup x=aB .cell\/sc.names.lookup x=aB .free:=hx;rcases hx with z|z
 exact .inl (ug (by decide) z);have:=DV (env:=X.env) O.Nu z;by_cases hc:X.env.kindOf x=aB .cell;rw[if_pos hc]at this;exact .inl this;rw[if_neg hc]at this;exact .inr this
end
end RF
namespace L2
open PySem PySem.Spec PyProof.Rows
theorem BH:Slot "reversed" "__next__" "reversed.__next__":=
 .of (owner:="reversed") (n:="__next__") (by rw[CY,CU];kernel_rfl) (by decide +kernel) (by decide +kernel) (by decide +kernel)
  (by first|exact .inl (by decide +kernel)|exact .inr (by decide +kernel)) (by rw[CZ];kernel_rfl)
theorem Nx:Slot "reversed" "__iter__" "reversed.__iter__":=
 .of (owner:="reversed") (n:="__iter__") (by rw[CY,CU];kernel_rfl) (by decide +kernel) (by decide +kernel) (by decide +kernel)
  (by first|exact .inl (by decide +kernel)|exact .inr (by decide +kernel)) (by rw[CZ];kernel_rfl)
theorem WB:Slot "reversed" "__init__" "object.__init__":=
 .of (owner:="object") (n:="__init__") (by rw[CY,CU];kernel_rfl) (by decide +kernel) (by decide +kernel) (by decide +kernel)
  (by first|exact .inl (by decide +kernel)|exact .inr (by decide +kernel)) (by rw[CZ];kernel_rfl)
theorem Ny:Manifest.owners.lookup (String.ofList ['d','e','s','r','e','v','e','r'].reverse)=aB Manifest.sig_reversed:=by kernel_rfl
theorem Nz(a:aa):argsOk "reversed.__next__" ⟨[a],[]⟩:=by unfold argsOk;rw[signature?_of (id:="reversed.__next__") (n:=['_','_','t','x','e','n','_','_']) (o:=['d','e','s','r','e','v','e','r']) (by kernel_rfl) Ny];kernel_rfl
theorem WC(a:aa):argsOk "reversed.__iter__" ⟨[a],[]⟩:=by unfold argsOk;rw[signature?_of (id:="reversed.__iter__") (n:=['_','_','r','e','t','i','_','_']) (o:=['d','e','s','r','e','v','e','r']) (by kernel_rfl) Ny];kernel_rfl
theorem NB:entryFor table "reversed.__next__" = aB Builtin.«reversed.__next__»:=entryFor_of_tree (by kernel_rfl)
theorem WD:entryFor table "reversed.__iter__" = aB Builtin.«dict_keyiterator.__iter__»:=
 entryFor_alias (id':="dict_keyiterator.__iter__") (by kernel_rfl) (by first|rfl|decide +kernel|(unfold String.splitOn;simp +decide [String.splitOnAux])) (by decide +kernel) (by kernel_rfl)
theorem WE:TypeCalled "reversed" "reversed.__new__" "object.__init__":=
 ⟨by decide +kernel,by decide +kernel,⟨_,_,F.mro_reversed⟩,F.made_reversed,by decide +kernel,by rw[CZ];kernel_rfl,WB⟩
theorem WG:typeLookup (.type "tuple") "__reversed__" = pure aC:=by rw[CY,CU];kernel_rfl
noncomputable def ji(h:az)(I t:ah)(i:Int):Prop:=∃o,h.get? I=aB o/\o.cls=.type "reversed"/\o.data=.fields #[.ref t,rawInt i]
noncomputable def um(t:ah)(i:Int):Obj:={cls:=.type "reversed",data:=.fields #[.ref t,rawInt i]}
section
variable{prog:ai}{w:aj}{A:ak}{E:aa->af->Prop}{s:af}
theorem ji.typeIs{I t:ah}{i:Int}(x:ji s.heap I t i):s.TypeIs (.ref I) "reversed":=let⟨o,ho,hc,_⟩:=x;⟨o,ho,hc⟩
theorem ji.mv{h h':az}{I t:ah}{i:Int}(x:ji h I t i)(e:∀o,h.get? I=aB o->h'.get? I=aB o):ji h' I t i:=let⟨o,ho,r⟩:=x;⟨o,e _ ho,r⟩
theorem NC{I t:ah}{i:Int}{Q:aa->af->Prop}(hi:ji s.heap I t i)(h:Q (.ref I) s):wpAny (model prog w) A (pyIter (.ref I)) Q E s:=by refine wpAny_pyIter_slot hi.typeIs Nx (lQ Nx hi.typeIs WD ?_ (WC _));show wpAny _ _ (ret (.ref I)) _ _ s;exact aX ⟨_,rfl,"reversed",_,hi.typeIs,BH.lookup,h⟩
theorem WH{I t:ah}{i:Nat}{its:Array aa}{x:aa}{Q:Option aa->af->Prop}(hi:ji s.heap I t (i:Int))(ht:IsTup s.heap t its)(hx:its[i]?=aB x)(hf:(its.size:Int)<2 ^ 63)
 (hQ:∀h' tk,ji h' I t ((i:Int)-1)->Heap.SameBut I s.heap h'->Q (aB x) {s with heap:=h',toks:=tk}):wpAny (model prog w) A (pyNext (.ref I)) Q E s:=by
 obtain⟨o,ho,hc,hd⟩:=id hi;have hlt:i<its.size:=by rcases Nat.lt_or_ge i its.size with h|h;exact h;rw[Array.getElem?_eq_none h]at hx;cases hx
 unfold pyNext;refine aG (xA (pP (name:=Str.ofString "__next__") hi.typeIs BH
  (lQ BH hi.typeIs NB ?_ (Nz _))))
 unfold Builtin.«reversed.__next__»;refine aG (n6 (a:=(Value.ref I,[])) rfl ?_)
 try dsimp only
 refine aG (jn ho hd (x:=.ref t) rfl ?_);refine aG (jn ho hd (x:=rawInt (i:Int)) rfl ?_);show wpAny _ _ (if(i:Int)<0 then _ else _) _ _ s;rw[if_neg (by lia)];refine aG (qx ht.typeIs slot_tuple_getitem.lookup ?_);rw[if_neg (by exact mQ)];refine aG (wpAny_mkInt ?_);refine aG (xA (getItem_tuple (s:={s with toks:=s.toks+1}) ht (by lia) (by lia) (C3 (by lia) (by lia)) (by simpa using hx) ?_))
 try dsimp only
 refine aG (jn ho hd (x:=rawInt (i:Int)) rfl ?_);refine aG (uS ho hd (by simp) ?_);first
 |refine aX ⟨x,rfl,aX (hQ _ _ ?_ (tw ..))⟩
 |refine aG (aX (aX ⟨x,rfl,aX (hQ _ _ ?_ (tw ..))⟩))
 exact⟨_,yS _ ho (Du (tB hd _)),(Obj.cls_mapFields ..).trans hc,by
  rw[tB hd];simp⟩
theorem WI{I t:ah}{i:Int}{Q:Option aa->af->Prop}(hA:A.handled=aC)(hi:ji s.heap I t i)(hn:i<0)
 (hQ:∀h',Heap.ExtBut I s.heap h'->Q aC {s with heap:=h'}):wpAny (model prog w) A (pyNext (.ref I)) Q E s:=by
 obtain⟨o,ho,hc,hd⟩:=id hi;unfold pyNext;refine aG (xA (pP (name:=Str.ofString "__next__") hi.typeIs BH
  (lQ BH hi.typeIs NB ?_ (Nz _))))
 unfold Builtin.«reversed.__next__»;refine aG (n6 (a:=(Value.ref I,[])) rfl ?_)
 try dsimp only
 refine aG (jn ho hd (x:=.ref t) rfl ?_);refine aG (jn ho hd (x:=rawInt i) rfl ?_);show wpAny _ _ (if i<0 then _ else _) _ _ s;rw[if_pos hn];refine aG (nL ?_);refine aG ?_;show wpAny _ _ (setField (.ref I) 1 (rawInt (-1)) >>= _) _ _ _;have o1:=yS (h:=s.heap) (Obj.mapFields (·.setIfInBounds 1 (rawInt (-1)))) ho (Du (tB hd _));refine aG (uS ho hd (by simp) ?_);refine uS o1 (tB hd _) (by simp) ?_;first
 |show wpAny _ _ (newExc (.type "StopIteration") [] >>= _) _ _ _
 |(refine aG ?_;show wpAny _ _ (newExc (.type "StopIteration") [] >>= _) _ _ _)
 refine aG ?_;simp only[newExc,newTuple];refine aG (kP ?_ (by size_fits));refine aG (m:=firstArgMember _ _) (n6 (a:=Value.none) (by first|rfl|(simp only[firstArgMember];rfl)) ?_);refine kP ?_ (by size_fits);simp only[raiseNew];refine aG (wpAny_handled ?_);first|rw[show A.in1.handled=aC from hA]|rw[hA]
 refine aG (aX (wpAny_throw ?_));refine aG (uQ (T:="StopIteration") (b:=true) ⟨_,fX _ rfl,rfl⟩ isSubtype_stop ?_);refine aX (hQ _ ?_);refine Heap.ExtBut.push (Heap.ExtBut.push ?_ _) _;intro b ob hb e;exact(tw ..).extBut b ob hb ((tw ..).extBut b ob hb e)
theorem WJ(l:ah)(its:Array aa)(n:Nat)(dc:Option ah)(sl:Array (Option aa))(hf:(its.size:Int)<2 ^ 63) :
 Meets (Builtin.«reversed.__new__» ⟨[.type "reversed",.ref l],[]⟩) (λ_ R s=>s.heap.get? l=aB {cls:=.type "tuple",dict:=dc,data:=.seq its n,slots:=sl}/\
  ∀tk,R (.ok (.ret (.ref s.heap.objs.size))) {s with heap:=s.heap.push (um l ((its.size:Int)-1)),toks:=tk}):=
 .of_wp λprog w A R s h=>by
  obtain⟨e,h⟩:=h;have hl:IsTup s.heap l its:=⟨_,e,rfl,n,rfl⟩
  unfold Builtin.«reversed.__new__»;refine aG (n6 (newClass_reversed _) ?_)
  try dsimp only
  refine aG (n6 (a:=()) (by first|rfl|kernel_rfl) ?_);refine aG (n6 (a:=()) (by first|rfl|kernel_rfl) ?_)
  try dsimp only
  refine aG (qx hl.typeIs WG ?_)
  try dsimp only
  refine aG ?_;show wpAny _ _ (isInstance (.ref l) (.type "dict") >>= _) _ _ _;refine aG (uQ hl.typeIs F.sub_tuple_dict ?_)
  try dsimp only
  refine aG (qx hl.typeIs slot_tuple_getitem.lookup ?_)
  try dsimp only
  rw[if_pos (by decide)];refine aX ?_;rw[if_neg (show ¬((!true)=true)from mQ)];refine aG (len_tuple hl hf ?_);refine aG (n6 (a:=aB (its.size:Int)) rfl ?_)
  try dsimp only
  refine aG ?_;show wpAny _ _ (newObj (.type "reversed") (.fields #[.ref l,rawInt ((its.size:Int)-1)])) _ _ _;exact kP (aX ⟨_,rfl,h _⟩)
theorem WK{l:ah}{its:Array aa}{Q:aa->af->Prop}(hL:s.heap.IsTuple l its)(hf:(its.size:Int)<2 ^ 63)
 (h:∀tk,Q (.ref s.heap.objs.size) {s with heap:=s.heap.push (um l ((its.size:Int)-1)),toks:=tk}) :
 wpAny (model prog w) A (call (.type "reversed") [.ref l]) Q E s:=by
 obtain⟨⟨c,dc,dt,sl⟩,e1,e2,n,e3⟩:=hL
 replace e2:c=.type "tuple":=e2
 replace e3:dt=.seq its n:=e3;subst e2 e3;refine C1 WE (by decide) (F.typeCall_reversed_1 _) (F.newCall_reversed_1 _) (λobj=>F.args_object_init_2 obj _) F.entry_reversed_new (WJ l its n dc sl hf) ⟨e1,λtk=>?_⟩;exact⟨⟨_,fX _ rfl,rfl⟩,h tk⟩
end
noncomputable def IF(K:aK)(a:ah)(n:Nat):It:=
 ⟨λi H=>∃xs x,cH K H a xs/\xs.length=n/\xs.reverse[i]?=aB x,λi H x H'=>H'=H/\∀xs,cH K H a xs->xs.reverse[i]?=aB x,λi _=>n<=i⟩
theorem WL{P:ai}{w:aj}{K:aK}{tg:ao}(a it:ah)(n:Nat)(hn:(n:Int)<2 ^ 63):Turn P w K tg (IF K a n) [it] it (λi h=>ji h it a ((n:Int)-1- (i:Nat)))where
 mem:=by simp
 obj:=λi h st b hb=>by
  have e:b=it:=by simpa using hb
  subst e;obtain⟨o,e,c,d⟩:=st;exact⟨o,e,λv z=>by rw[d]at z;cases z⟩
 keep:=λi h h' st k=>st.mv λo e=>k it (by simp) o e
 item:=by
  intro X hP hw hK hc i pins s σ H E I hf st hg;subst hP hw hK;obtain⟨xs,x,hq,hl,hx⟩:=hg;obtain⟨its,rv,p,hz⟩:=I.tuple hq;have hlt:i<xs.length:=by
   have:=gA.mp hx;obtain⟨h1,_⟩:=this
   rwa [yO]at h1
  rw[C6 hlt]at hx;obtain⟨u,hu,ru⟩:=rv.get hx;obtain⟨f0,f1,f2,f3,f4,f5⟩:=hf it (by simp);have ei:(n:Int)-1- (i:Int)=((xs.length-1-i:Nat):Int):=by lia
  rw[ei]at st;have hsz:its.toArray.size=xs.length:=by rw[dQ];exact rv.length.symm
  refine WH st (show IsTup s.heap a its.toArray from p) (x:=u) (by simpa using hu) (by rw[hsz,hl];exact hn) λh' tk st' sb=>?_;have I1:Inv X pins σ H {s with heap:=h',toks:=tk}:=I.turned (t':=tk) (λb o hb e=>(sb.2 b hb).trans e) f0 f1 f3 f4 f5;obtain⟨o,e,c,d⟩:=id st';have ej:((xs.length-1-i:Nat):Int)-1=(n:Int)-1- ((i+1:Nat):Int):=by lia
  rw[ej]at st';exact⟨u,rfl,j8 (s:={s with heap:=h',toks:=tk}) e c d (by decide) ⟨x,H,I1,ru,⟨rfl,λys hy=>by rw[I.eT hy hq,C6 hlt];exact hx⟩,st',λb hb=>(hf b hb).1⟩⟩
 done:=by intro X hP hw hK hc i pins s σ H E I hf st hg;subst hP hw hK;have hg:n<=i:=hg;obtain⟨f0,f1,f2,f3,f4,f5⟩:=hf it (by simp);exact WI (I.ok.hd hc) st (by lia) λh' eb=>⟨rfl,I.turned (t':=s.toks) (λb o hb e=>eb b o hb e) f0 f1 f3 f4 f5⟩
 self:=λ_ _ _ _ _ st h=>NC st h
end L2
namespace RF
open PySem PySem.Spec PyProof.Rows L2
section
variable{X:Cx}{e:ao}{fa:FE}{p pos:Pos}
theorem WM{tg l:ao}{ta:TA}(hg:Gl X "reversed")(hm:X.mg "reversed" = aC)(ha:PA X [l] ta)(hs:starEach [l] X.env=[(false,eval l X.env)]) :
 PI X tg (.Call (.Name "reversed" p) [l] [] pos) (λσ H R=>ta σ H λvs H1=>∃a xs,vs=[.ref a]/\cH X.K H1 a xs/\R (IF X.K a xs.length) H1):=by
 intro pins s σ H R I h;refine Call_ (tG I hg hm PyProof.Rows.boot_reversed (xM (bq (ha pos pins s σ H _ I h) λus s1 ⟨vs,H1,I1,r1,q1⟩=>?_) hs rfl));obtain⟨a,xs,e,hq,q⟩:=q1;subst e;obtain⟨u,rfl,ru⟩:=vals1 r1;cases ru;obtain⟨its,rv,pl,hz⟩:=I1.tuple hq;have pl:s1.heap.IsTuple a its.toArray:=pl;have hlen:its.toArray.size=xs.length:=by rw[dQ];exact rv.length.symm
 have hfit:(xs.length:Int)<2 ^ 63:=by
  have:sizeLine<2 ^ 63:=by decide
  lia
 refine WK pl (by rw[hlen];exact hfit) λtk=>NC (i:=(xs.length:Int)-1) ⟨_,fX _ rfl,rfl,by rw[<-hlen];rfl⟩ ?_;have hf:∀b,s1.heap.objs.size<=b->dX X pins H1 b:=λb hb=>I1.jH hb (I1.hok.fresh hb);refine⟨s1.heap.objs.size,_,_,_,H1,rfl,I1.kept (t':=tk) λb o e=>cQ _ e,WL a _ xs.length hfit,⟨_,fX _ rfl,rfl,by rw[<-hlen];show _=Data.fields #[.ref a,rawInt (_-1- ((0:Nat):Int))];rw[show(its.toArray.size:Int)-1- ((0:Nat):Int)=(its.toArray.size:Int)-1 from by lia];rfl⟩,λb hb=>hf b ?_,q⟩;have e':b=s1.heap.objs.size:=by simpa using hb
 rw[e'];exact bg _
theorem ND{ws:List W}{h:VH}{i:Nat}{o:Option W}(q:aZ .rev (.tup ws) i h=aB o):o=ws.reverse[i]?:=by simp only[aZ]at q;cases q;rfl
theorem aF.rev{K:aK}{m:Nat->ah}{n:Nat}{H:Hp}:∀{vs:List V} {ws:List W} {i:Nat} {w:W},aF K m n H vs ws->ws.reverse[i]?=aB w->∃v,vs.reverse[i]?=aB v/\aJ K m n H v w:=by
 intro vs ws i w q e;have hlt:i<ws.length:=by
  obtain⟨h1,_⟩:=gA.mp e
  rwa [yO]at h1
 rw[C6 hlt]at e;obtain⟨v,h1,h2⟩:=q.get e;exact⟨v,by rw[C6 (by rw[q.length];exact hlt),q.length];exact h1,h2⟩
theorem WN{K:aK}{a:ah}{vs:List V}{ws:List W}:iR K (aZ .rev (.tup ws)) (IF K a vs.length) (λm n H=>cH K H a vs/\aF K m n H vs ws):=by refine⟨λm n H m' n' H' hn hm kt kf ⟨q1,q2⟩=>⟨Ew kt kf q1,q2.mono hn hm kt kf⟩,λm h H r ⟨q1,q2⟩ i=>⟨λw e=>?_,λe=>?_⟩⟩;have e:=(ND e).symm;obtain⟨v,h1,h2⟩:=q2.rev e;refine⟨⟨vs,v,q1,rfl,h1⟩,λy H3 ⟨e3,y3⟩=>?_⟩;subst e3;have:=y3 vs q1;rw[h1]at this;cases this;exact⟨.refl,r,h2⟩;have e:=(ND e).symm;have:=nM.mp e;rw[yO]at this;show vs.length<=i;rw[q2.length];exact this
theorem WO{tg:ao}(ha:SE X e fa)(hs0:gQ e)(hg:Gl X "reversed")(hm:X.mg "reversed" = aC):PI X tg (.Call (.Name "reversed" p) [e] [] pos) (ck X.K .rev fa):=λpins s σ H R I z9=>z9.el λρ h m x h' f r ee o en k=>by
 have hx:∃ws,x=.tup ws:=by simp only[aZ]at en;split at en;exact⟨_,rfl⟩;cases en
 obtain⟨ws,rfl⟩:=hx;exact WM hg hm (MM ha hs0) (fN hs0) pins s σ H R I (.mk f r ee λv H' m' s' r' q=>by
  cases q with|tup sq rs=>exact⟨_,_,rfl,sq,k _ _ H' m' s' r' WN ⟨sq,rs⟩⟩)
end
theorem map_some{α β:Type}{o:Option α}{f:α->β}{b:β}(h:o.map f=aB b):∃a,o=aB a/\b=f a:=by
 cases o with|none=>cases h|some a=>cases h;exact⟨a,rfl,rfl⟩
structure lG(X:Cx)(C:CC)(T:List Str)(F:Nat->Option Fn)(k n:Nat):Prop where
 e:∀e c,cE X.K T n C e=aB c->SE X e (ev (run F k) c)/\gQ e=true
 t:∀e c,cT X.K T n C e=aB c->ST X e (ev (run F k) c)
 w:∀e kd c tg,cW X.K T n C e=aB (kd,c)->wg kd tg=true->PI X tg e (ck X.K kd (ev (run F k) c))/\∀x,foldedSetIterable e X.env x=pure x
section
variable{X:Cx}{C:CC}{T:List Str}{F:Nat->Option Fn}{k n:Nat}
theorem BI(O:iu X C T F k)(ih:lG X C T F k n)(e:ao)(c:E)(h:cT X.K T (n+1) C e=aB c):ST X e (ev (run F k) c):=by unfold cT at h;split at h;split at h;split at h;rename_i hs;split at h;rename_i h1 h2 h3;cases h;exact Um O.EF h1 hs (ih.e _ _ h2).1 (ih.e _ _ h3).1;cases h;cases h;split at h;rename_i hs;split at h;rename_i h1 h2 h3 h4 h5;cases h;exact Up O.EF h1 h2 hs (ih.e _ _ h3).1 (ih.e _ _ h4).1 (ih.e _ _ h5).1;cases h;cases h;cases h;split at h;obtain⟨a,h1,rfl⟩:=map_some h;exact Uq (ih.t _ _ h1);cases h;split at h;exact((EH ih.t).1 h).pt;exact((EH ih.t).2 h).pt;obtain⟨a,h1,rfl⟩:=map_some h;exact HR (ih.e _ _ h1).1 λ_=>rfl;obtain⟨a,h1,rfl⟩:=map_some h;exact HR (ih.e _ _ h1).1 λ_=>rfl;obtain⟨a,h1,rfl⟩:=map_some h;exact HR (ih.e _ _ h1).1 λ_=>rfl;cases h
theorem BJ{e:ao}(h:∀a b c,e≠.Set a b c){env:Env}:∀x,foldedSetIterable e env x=pure x:=by intro x;cases e<;>first|rfl|exact absurd rfl (h _ _ _)
theorem BK(O:iu X C T F k)(ih:lG X C T F k n)(e:ao)(kd:Kd)(c:E)(tg:ao)(h:cW X.K T (n+1) C e=aB (kd,c))(hw:wg kd tg):PI X tg e (ck X.K kd (ev (run F k) c))/\∀x,foldedSetIterable e X.env x=pure x:=by
 unfold cW at h;split at h;rename_i f p args pos;refine⟨?_,λx=>rfl⟩;split at h;rename_i hf;have hf:f = "range":=by simpa using hf
 subst hf;split at h;rename_i ha;obtain⟨g1,g2⟩:=BF O ha;split at h;rename_i a;obtain⟨x,h1,h2⟩:=map_some h;cases h2;obtain⟨h3,h4⟩:=ih.e _ _ h1;exact U6 (yh h3 Er (fN h4)) h4 g1 g2;rename_i a b;split at h;rename_i x y h1 h2;cases h;obtain⟨h3,h4⟩:=ih.e _ _ h1;obtain⟨h5,h6⟩:=ih.e _ _ h2;exact U7 (yh h3 (yh h5 Er (fN h6)) (fN h4)) h4 h6 g1 g2;cases h;cases h;cases h;split at h;rename_i hf;have hf:f = "enumerate":=by simpa using hf
 subst hf;split at h;rename_i ha;obtain⟨g1,g2⟩:=BF O ha;split at h;rename_i a;obtain⟨x,h1,h2⟩:=map_some h;cases h2;obtain⟨h3,h4⟩:=ih.e _ _ h1;cases tg<;>first|exact Ve h3 h4 g1 g2|cases hw
 cases h;cases h;split at h;rename_i hf;have hf:f = "reversed":=by simpa using hf
 subst hf;split at h;rename_i ha;obtain⟨g1,g2⟩:=BF O ha;split at h;rename_i a;obtain⟨x,h1,h2⟩:=map_some h;cases h2;obtain⟨h3,h4⟩:=ih.e _ _ h1;exact WO h3 h4 g1 g2;cases h;cases h;split at h;rename_i hf;have hf:f = "zip":=by simpa using hf
 subst hf;split at h;rename_i ha;obtain⟨g1,g2⟩:=BF O ha;split at h;rename_i a b;split at h;rename_i x y h1 h2;cases h;obtain⟨h3,h4⟩:=ih.e _ _ h1;obtain⟨h5,h6⟩:=ih.e _ _ h2;cases tg<;>first|exact Vh (yh h3 (yh h5 Er (fN h6)) (fN h4)) h4 h6 g1 g2|cases hw
 cases h;cases h;cases h;obtain⟨x,h1,h2⟩:=map_some h;cases h2;exact HY (ih.e _ _ h1).1;cases h;rename_i nm _;obtain⟨x,h1,h2⟩:=map_some h;by_cases hcn:Nt C nm=true;simp only[hcn,cC]at h2;cases h2;exact⟨Va (Wk (ih.e _ _ h1).1),λx=>rfl⟩;simp only[hcn,dg]at h2;cases h2;exact⟨HY (ih.e _ _ h1).1,λx=>rfl⟩;rename_i hns hnm;obtain⟨x,h1,h2⟩:=map_some h;cases h2;exact⟨HY (ih.e _ _ h1).1,BJ (by first|exact hns|(intro a b c z;exact hns a b c z))⟩
end
section
variable{X:Cx}{C:CC}{T:List Str}{F:Nat->Option Fn}{k n:Nat}
theorem WQ(O:iu X C T F k){x:Str}{p:Pos}{c:E}(h:cE X.K T (n+1) C (.Name x p)=aB c):SE X (.Name x p) (ev (run F k) c):=by simp only[cE]at h;split at h;rename_i hn;obtain⟨n1,n2,n3⟩:=yo hn;split at h;rename_i hv;obtain⟨i,h1,rfl⟩:=map_some h;exact T8 (by rw[O.hN];exact IB h1) (O.vis x hv) n1 n2;split at h;rename_i hg;split at h;rename_i v hv;obtain⟨w,h1,rfl⟩:=map_some h;obtain⟨y,h2,h3⟩:=Np 8 v w h1;exact AO (PY (O.gl x (by simpa using hg)) (O.BE x v hv) h2 n1) h3;cases h;cases h;cases h
theorem WR(O:iu X C T F k)(ih:lG X C T F k n){f:Str}{p pos:Pos}{args:List ao}{c:E}(h:cE X.K T (n+1) C (.Call (.Name f p) args [] pos)=aB c):SE X (.Call (.Name f p) args [] pos) (ev (run F k) c):=by
 simp only[cE]at h;split at h;rename_i hn;rw[bY]at hn;have hg:=O.gl f (by simpa using hn.2);split at h;rename_i hm;have hm:=O.IE f hm;split at h;rename_i hf;have hf:f = "isinstance":=by simpa using hf
 subst hf;split at h;rename_i a t pt;split at h;rename_i ty x h1 h2;split at h;rename_i hc;cases h;rw[bY]at hc;obtain⟨g1,g2⟩:=BF O hc.2;obtain⟨h3,h4⟩:=ih.e _ _ h2;obtain⟨n1,n2,n3⟩:=yo hc.1;exact UO ty h3 h4 hg hm g1 g2 (Wz h1) n3 n1;cases h;cases h;cases h;split at h;rename_i b e es hb;obtain⟨a,h1,rfl⟩:=map_some h;obtain⟨h2,h3⟩:=jz ih.e h1;exact BG hb hg hm hn.1 O.calm h2 h3;cases h;rename_i v hv;split at h;rename_i i hi;obtain⟨fa,fd,ps,fn,q1,q2,q3,q4,q5,q6,q7⟩:=O.fns i f (IB hi) (Wt hn.1);have q1:=Nh q1;split at h;rename_i IG;rw[bY]at IG;obtain⟨a,h1,rfl⟩:=map_some h;obtain⟨h2,h3⟩:=jz ih.e h1;have hl:∀ws h w h',run F k i ws h=.ok w h'->ws.length=ps.length:=λws h w h' e=>by rw[Iw q5 e,q6]
 have hev:ev (run F k) (.call i (nB a))=jL (ev (run F k) a) (λws h=>run F k i (ws++[.aQ]) h):=by
  funext ρ h;simp only[ev,Wv (Nq h1)];show Res.bind (Res.bind (ev (run F k) a ρ h) _) _=Res.bind (ev (run F k) a ρ h) _;cases ev (run F k) a ρ h with|no=>rfl|ex _ _=>rfl|ok y h2=>cases y<;>rfl
 rw[hev];cases args with|nil=>cases IG.2|cons e es=>exact U3 q2 O.room hg (O.BE f _ q1) q3 (q7 (Wu IG.1)) h2 h3 (yo hn.1).1 hl
 obtain⟨a,h1,rfl⟩:=map_some h;obtain⟨h2,h3⟩:=jz ih.e h1;have hl:∀ws h w h',run F k i ws h=.ok w h'->ws.length=ps.length:=λws h w h' e=>by rw[Iw q5 e,q6]
 cases args with
 |nil=>
  simp only[cL]at h1;cases h1;exact U1 q2 O.room hg (O.BE f _ q1) q3 q4 (yo hn.1).1 hl
 |cons e es=>exact U0 q2 O.room hg (O.BE f _ q1) q3 q4 h2 h3 (yo hn.1).1 hl
 cases h;cases h;cases h
theorem WS(O:iu X C T F k)(ih:lG X C T F k n){o:ao}{m:Str}{ap pos:Pos}{args:List ao}{c:E}(h:cE X.K T (n+1) C (.Call (.Attribute o m ap) args [] pos)=aB c):SE X (.Call (.Attribute o m ap) args [] pos) (ev (run F k) c):=by
 simp only[cE]at h;split at h;rename_i hn;rw[bY]at hn;split at h;rename_i x a hx;split at h;rename_i hm;have hm:m = "append":=by simpa using hm
 subst hm;obtain⟨y,h1,rfl⟩:=map_some h;obtain⟨h2,h3⟩:=ih.e _ _ h1;exact US (ih.e _ _ hx).1 h2 hn.1 h3 hn.2;split at h;rename_i hm;have hm:m = "update":=by simpa using hm
 subst hm;obtain⟨y,h1,rfl⟩:=map_some h;obtain⟨h2,h3⟩:=ih.e _ _ h1;exact Wl (ih.e _ _ hx).1 h2 hn.1 h3 hn.2;cases h;rename_i x a b hx;split at h;rename_i hm;have hm:m = "get":=by simpa using hm
 subst hm;split at h;rename_i y z h1 h2;cases h;obtain⟨h3,h4⟩:=ih.e _ _ h1;obtain⟨h5,h6⟩:=ih.e _ _ h2;exact UT O.u1 (ih.e _ _ hx).1 h3 h5 hn.1 h4 h6 hn.2;cases h;cases h;cases h;cases h
theorem EK{ow fr:List Str}{sc:ay}{ifs:List ao}{c:E}(O:∀D s₀ H₀ ex,lG (X.comp (ow++fr) sc D s₀ H₀ ex) (jh sc) T F k n)
 (h:(match ifs with|[]=>aB (E.cst (.bl true))|[c]=>cT X.K T n (jh sc) c|_=>aC)=aB c) (D:ah) (s₀:af) (H₀:Hp) (ex:List ah):iL (X.comp (ow++fr) sc D s₀ H₀ ex) ifs (cV X.K (ev (run F k) c)):=by
 split at h;cases h;exact λpins s σ H Q I z9=>z9.el λρ h m b h' f r e q=>by
  cases e;exact RU pins s σ H Q I (q H m .refl r)
 exact RV ((O D s₀ H₀ ex).t _ _ h);cases h
theorem NF(O:iu X C T F k)(ih:lG X C T F k n)(jW:∀{sc:ay} {ix:List Nat},pe C sc ix=true->∀D s₀ H₀ ex,lG (X.comp (ownOf sc++eV sc) sc D s₀ H₀ ex) (jh sc) T F k n)
 {elt tg iter:ao} {ifs:List ao} {sc:ay} {pos:Pos} {c:E} (h:cE X.K T (n+1) C (.ListComp elt [⟨tg,iter,ifs,0⟩] sc pos)=aB c) :
 ∃kd a t ix cc ce,c=.lc kd a t (ownOf sc).length ix cc ce/\aY X (ownOf sc) (eV sc) ix sc/\PI X tg iter (ck X.K kd (ev (run F k) a))/\(∀D s₀ H₀ ex,PG (X.comp (ownOf sc++eV sc) sc D s₀ H₀ ex) tg (cK X.K t))/\
  (∀D s₀ H₀ ex,iL (X.comp (ownOf sc++eV sc) sc D s₀ H₀ ex) ifs (cV X.K (ev (run F k) cc)))/\(∀D s₀ H₀ ex,PE (X.comp (ownOf sc++eV sc) sc D s₀ H₀ ex) elt (eF X.K (ev (run F k) ce)))/\∀x,foldedSetIterable iter X.env x=pure x:=by
 simp only[cE]at h;split at h
 .rename_i ix hix
  split at h
  .rename_i hc
   split at h
   .rename_i kd a t cc ce h1 h2 h3 h4
    split at h
    case isFalse=>cases h
    rename_i hw;cases h;obtain⟨w1,w2⟩:=ih.w _ _ _ tg h1 hw;exact⟨kd,a,t,ix,cc,ce,rfl,(EJ O hc).1,w1,λD s₀ H₀ ex=>kI (uh O hc D s₀ H₀ ex) h2,EK (jW hc) h3,λD s₀ H₀ ex=>((jW hc D s₀ H₀ ex).e _ _ h4).1,w2⟩
   cases h
  cases h
 cases h
theorem NG(O:iu X C T F k)(ih:lG X C T F k n)(jW:∀{sc:ay} {ix:List Nat},pe C sc ix=true->∀D s₀ H₀ ex,lG (X.comp (ownOf sc++eV sc) sc D s₀ H₀ ex) (jh sc) T F k n)
 {elt tg iter gJ bC:ao} {ifs dM:List ao} {sc:ay} {pos:Pos} {c:E} (h:cE X.K T (n+1) C (.ListComp elt [⟨tg,iter,ifs,0⟩,⟨gJ,bC,dM,0⟩] sc pos)=aB c) :
 ∃kd a t ix cc iS a2 t2 yp ce,c=.yd kd a t (ownOf sc).length ix cc iS a2 t2 yp ce/\aY X (ownOf sc) (eV sc) ix sc/\PI X tg iter (ck X.K kd (ev (run F k) a))/\(∀D s₀ H₀ ex,PG (X.comp (ownOf sc++eV sc) sc D s₀ H₀ ex) tg (cK X.K t))/\
  (∀D s₀ H₀ ex,iL (X.comp (ownOf sc++eV sc) sc D s₀ H₀ ex) ifs (cV X.K (ev (run F k) cc)))/\
  (∀D s₀ H₀ ex,PI (X.comp (ownOf sc++eV sc) sc D s₀ H₀ ex) gJ bC (ck X.K iS (ev (run F k) a2)))/\(∀D s₀ H₀ ex,PG (X.comp (ownOf sc++eV sc) sc D s₀ H₀ ex) gJ (cK X.K t2))/\
  (∀D s₀ H₀ ex,iL (X.comp (ownOf sc++eV sc) sc D s₀ H₀ ex) dM (cV X.K (ev (run F k) yp)))/\(∀D s₀ H₀ ex,PE (X.comp (ownOf sc++eV sc) sc D s₀ H₀ ex) elt (eF X.K (ev (run F k) ce)))/\
  (∀x,foldedSetIterable iter X.env x=pure x)/\∀D s₀ H₀ ex x,foldedSetIterable bC (X.comp (ownOf sc++eV sc) sc D s₀ H₀ ex).env x=pure x:=by
 simp only[cE]at h;split at h
 .rename_i ix hix
  split at h
  .rename_i hc
   split at h
   .rename_i kd a t cc ce h1 h2 h3 h4
    split at h
    case isFalse=>cases h
    rename_i hw;split at h
    .rename_i iS a2 t2 yp h5 h6 h7
     split at h
     case isFalse=>cases h
     rename_i NH;cases h;obtain⟨w1,w2⟩:=ih.w _ _ _ tg h1 hw;exact⟨kd,a,t,ix,cc,iS,a2,t2,yp,ce,rfl,(EJ O hc).1,w1,λD s₀ H₀ ex=>kI (uh O hc D s₀ H₀ ex) h2,EK (jW hc) h3,λD s₀ H₀ ex=>((jW hc D s₀ H₀ ex).w _ _ _ gJ h5 NH).1,λD s₀ H₀ ex=>kI (uh O hc D s₀ H₀ ex) h6,EK (jW hc) h7,
      λD s₀ H₀ ex=>((jW hc D s₀ H₀ ex).e _ _ h4).1,w2,λD s₀ H₀ ex=>((jW hc D s₀ H₀ ex).w _ _ _ gJ h5 NH).2⟩
    cases h
   cases h
  cases h
 cases h
theorem NI(O:iu X C T F k)(ih:lG X C T F k n)(jW:∀{sc:ay} {ix:List Nat},pe C sc ix=true->∀D s₀ H₀ ex,lG (X.comp (ownOf sc++eV sc) sc D s₀ H₀ ex) (jh sc) T F k n)
 {ek nA tg iter:ao} {ifs:List ao} {sc:ay} {pos:Pos} {c:E} (h:cE X.K T (n+1) C (.DictComp ek nA [⟨tg,iter,ifs,0⟩] sc pos)=aB c) :
 ∃kd a t ix cc ce cv,c=.dc kd a t (ownOf sc).length ix cc ce cv/\aY X (ownOf sc) (eV sc) ix sc/\PI X tg iter (ck X.K kd (ev (run F k) a))/\(∀D s₀ H₀ ex,PG (X.comp (ownOf sc++eV sc) sc D s₀ H₀ ex) tg (cK X.K t))/\
  (∀D s₀ H₀ ex,iL (X.comp (ownOf sc++eV sc) sc D s₀ H₀ ex) ifs (cV X.K (ev (run F k) cc)))/\(∀D s₀ H₀ ex,PE (X.comp (ownOf sc++eV sc) sc D s₀ H₀ ex) ek (eF X.K (ev (run F k) ce)))/\
  (∀D s₀ H₀ ex,PE (X.comp (ownOf sc++eV sc) sc D s₀ H₀ ex) nA (eF X.K (ev (run F k) cv)))/\∀x,foldedSetIterable iter X.env x=pure x:=by
 simp only[cE]at h;split at h
 .rename_i ix hix
  split at h
  .rename_i hc
   split at h
   .rename_i kd a t cc ce cv h1 h2 h3 h4 h5
    split at h
    case isFalse=>cases h
    rename_i hw;cases h;obtain⟨w1,w2⟩:=ih.w _ _ _ tg h1 hw;exact⟨kd,a,t,ix,cc,ce,cv,rfl,(EJ O hc).1,w1,λD s₀ H₀ ex=>kI (uh O hc D s₀ H₀ ex) h2,EK (jW hc) h3,λD s₀ H₀ ex=>((jW hc D s₀ H₀ ex).e _ _ h4).1,λD s₀ H₀ ex=>((jW hc D s₀ H₀ ex).e _ _ h5).1,w2⟩
   cases h
  cases h
 cases h
theorem BL(O:iu X C T F k)(ih:lG X C T F k n)(jW:∀{sc:ay} {ix:List Nat},pe C sc ix=true->∀D s₀ H₀ ex,lG (X.comp (ownOf sc++eV sc) sc D s₀ H₀ ex) (jh sc) T F k n)
 (e:ao) (c:E) (h:cE X.K T (n+1) C e=aB c):SE X e (ev (run F k) c)/\gQ e=true:=by
 have h0:=h;unfold cE at h;split at h;exact⟨WQ O h0,rfl⟩;refine⟨?_,rfl⟩;split at h;cases h;exact T9;cases h;exact AQ;cases h;exact Ua;cases h;exact Ub;cases h;obtain⟨a,h1,rfl⟩:=map_some h;exact⟨Uc (jz ih.e h1).1,rfl⟩;obtain⟨a,h1,rfl⟩:=map_some h;exact⟨Ud (jz ih.e h1).1,rfl⟩;refine⟨?_,rfl⟩;split at h;split at h;cases h;exact Wj;cases h;split at h;rename_i hc;simp only[bY]at hc;obtain⟨a,h1,rfl⟩:=map_some h;exact UY O.u2 (Nv ih.e h1) hc.2 (yT hc.1.2) (by simp) (k9 hc.1.1);cases h;refine⟨?_,rfl⟩;split at h;rename_i h1 h2 h3;cases h;exact AS (AV h1) (Ui _) (ih.e _ _ h2).1 (ih.e _ _ h3).1;cases h;split at h;obtain⟨a,h1,rfl⟩:=map_some h;exact⟨Ur (ih.e _ _ h1).1,rfl⟩;obtain⟨a,h1,rfl⟩:=map_some h;exact⟨Uw (ih.e _ _ h1).1,rfl⟩;cases h;split at h;exact⟨(mq ih.e).1 h,rfl⟩;exact⟨(mq ih.e).2 h,rfl⟩;split at h;refine⟨?_,rfl⟩;split at h;rename_i hs;split at h;rename_i h1 h2 h3;cases h;exact Ul O.EF h1 hs (ih.e _ _ h2).1 (ih.e _ _ h3).1;cases h;cases h;refine⟨?_,rfl⟩;split at h;rename_i hs;split at h;rename_i h1 h2 h3 h4 h5;cases h;exact Uo O.EF h1 h2 hs (ih.e _ _ h3).1 (ih.e _ _ h4).1 (ih.e _ _ h5).1;cases h;cases h;cases h;refine⟨?_,rfl⟩;split at h;rename_i h1 h2 h3;cases h;exact Uu (ih.t _ _ h1) (ih.e _ _ h2).1 (ih.e _ _ h3).1;cases h;split at h;split at h;refine⟨?_,rfl⟩;split at h;rename_i h1 h2 h3;cases h;exact UC (ih.e _ _ h1).1 (pA ih.e h2) (pA ih.e h3);cases h;split at h;refine⟨?_,rfl⟩;split at h;rename_i x bl l y h1 h2 h3;split at h;rename_i hb;cases h;exact Wo (ih.e _ _ h1).1 (pA ih.e h2) (ih.e _ _ h3).1 (Wx hb);cases h;cases h;cases h;refine⟨?_,rfl⟩;split at h;rename_i hs;split at h;rename_i h1 h2;cases h;exact Uz O.u2 (ih.e _ _ h1).1 (ih.e _ _ h2).1 (WA hs);cases h;cases h;split at h;split at h;exact⟨WR O ih h0,rfl⟩;exact⟨WS O ih h0,rfl⟩;cases h;cases h;split at h;split at h;refine⟨?_,rfl⟩;obtain⟨kd,a,t,ix,cc,ce,rfl,S,w1,w2,w3,w4,w5⟩:=NF O ih jW h0;exact Bq S O.calm w1 w2 w3 w4 w5;cases h;split at h;split at h;refine⟨?_,rfl⟩;obtain⟨kd,a,t,ix,cc,iS,a2,t2,yp,ce,rfl,S,w1,w2,w3,v1,v2,v3,w4,w5,v5⟩:=NG O ih jW h0;exact VG S O.calm w1 w2 w3 v1 v2 v3 w4 w5 v5;cases h;cases h;cases h;split at h;split at h;refine⟨?_,rfl⟩;obtain⟨kd,a,t,ix,cc,ce,cv,rfl,S,w1,w2,w3,w4,w6,w5⟩:=NI O ih jW h0;exact Br S O.calm w1 w2 w3 w4 w6 w5;cases h;cases h;cases h
end
theorem qe{T:List Str}{F:Nat->Option Fn}{k:Nat}:∀(n:Nat) {X:Cx} {C:CC},iu X C T F k->lG X C T F k n
 |0,_,_,_=>⟨(λe c h=>nomatch h),(λe c h=>nomatch h),(λe kd c tg h _=>nomatch h)⟩
 |n+1,X,C,O=>by
  have ih:=qe n O;have jW:∀{sc:ay}{ix:List Nat},pe C sc ix=true->∀D s₀ H₀ ex,lG (X.comp (ownOf sc++eV sc) sc D s₀ H₀ ex) (jh sc) T F k n:=λhc D s₀ H₀ ex=>qe n (uh O hc D s₀ H₀ ex);exact⟨BL O ih jW,BI O ih,BK O ih⟩
section
variable{X:Cx}{C:CC}{T:List Str}{F:Nat->Option Fn}{k d:Nat}
theorem wm{f:aq->Option S}{cl:Call}(ih:∀st c,f st=aB c->SS X st (exs cl c)):∀{sts:List aq} {c:S},pq f sts=aB c->rM X sts (exs cl c)
 |[],_,h=>by cases h;exact Vw
 |s::r,c,h=>by
  unfold pq at h;split at h;rename_i a b ha hb;cases h;exact VA (ih s a ha) (wm ih hb);cases h
theorem WT{K:aK}{T:List Str}{n:Nat}{C:CC}{elt:ao}{gs:List Comprehension}{sc:ay}{lp:Pos}{c:E}(h:cE K T (n+1) C (.ListComp elt gs sc lp)=aB c):(∃tg iter ifs,gs=[⟨tg,iter,ifs,0⟩])\/∃tg iter ifs gJ bC dM,gs=[⟨tg,iter,ifs,0⟩,⟨gJ,bC,dM,0⟩]:=by simp only[cE]at h;split at h;rename_i g;split at h;exact .inl ⟨_,_,_,rfl⟩;cases h;rename_i g g2;split at h;split at h;exact .inr ⟨_,_,_,_,_,_,rfl⟩;cases h;cases h;cases h
theorem WU{K:aK}{T:List Str}{n:Nat}{C:CC}{ek ev:ao}{gs:List Comprehension}{sc:ay}{lp:Pos}{c:E}(h:cE K T (n+1) C (.DictComp ek ev gs sc lp)=aB c):∃tg iter ifs,gs=[⟨tg,iter,ifs,0⟩]:=by simp only[cE]at h;split at h;rename_i g;split at h;exact⟨_,_,_,rfl⟩;cases h;cases h
theorem WV(O:iu X C T F k){x:Str}{p pos:Pos}{e:ao}{i:Nat}{c:E}(hi:gT C (.Name x p)=aB i)(h:cE X.K T d C e=aB c):SS X (.Assign [.Name x p] e pos) (exs (run F k) (.set i c)):=by
 obtain⟨x',p',ex,h1,h2,h3⟩:=kH O hi;cases ex;have nd:X.N.Nodup:=O.hN▸O.nd;have Sd:=qe (T:=T) (F:=F) (k:=k) d O;by_cases hc:Ez e=true;exact Ir nd h1 h2 h3 (Sd.e _ _ h).1 (M3 hc);cases d with
 |zero=>cases h
 |succ n=>
  cases e with
  |ListComp elt gs sc lp=>
   have sw:∃b:Bool,swapsWith (.ListComp elt gs sc lp) (aB (.Name x p)) pos.line X.env=pure b:=⟨_,rfl⟩
   obtain⟨b,hb⟩:=sw;cases b with
   |false=>exact Ir nd h1 h2 h3 (Sd.e _ _ h).1 hb
   |true=>
    rcases WT h with⟨tg,iter,ifs,rfl⟩|⟨tg,iter,ifs,gJ,bC,dM,rfl⟩;obtain⟨kd,a,t,ix,cc,ce,rfl,S,w1,w2,w3,w4,w5⟩:=NF O (qe n O) (λhc D s₀ H₀ ex=>qe n (uh O hc D s₀ H₀ ex)) h;exact VF nd h1 h2 h3 S O.calm w1 w2 w3 w4 hb w5;obtain⟨kd,a,t,ix,cc,iS,a2,t2,yp,ce,rfl,S,w1,w2,w3,v1,v2,v3,w4,w5,v5⟩:=NG O (qe n O) (λhc D s₀ H₀ ex=>qe n (uh O hc D s₀ H₀ ex)) h;exact VI nd h1 h2 h3 S O.calm w1 w2 w3 v1 v2 v3 w4 hb w5 v5
  |SetComp _ _ _ _=>unfold cE at h;cases h
  |DictComp ek nA gs sc lp=>
   have sw:∃b:Bool,swapsWith (.DictComp ek nA gs sc lp) (aB (.Name x p)) pos.line X.env=pure b:=⟨_,rfl⟩
   obtain⟨b,hb⟩:=sw;cases b with
   |false=>exact Ir nd h1 h2 h3 (Sd.e _ _ h).1 hb
   |true=>
    obtain⟨tg,iter,ifs,rfl⟩:=WU h;obtain⟨kd,a,t,ix,cc,ce,cv,rfl,S,w1,w2,w3,w4,w6,w5⟩:=NI O (qe n O) (λhc D s₀ H₀ ex=>qe n (uh O hc D s₀ H₀ ex)) h;exact VJ nd h1 h2 h3 S O.calm w1 w2 w3 w4 w6 hb w5
  |_=>exact absurd rfl hc
theorem pB(O:iu X C T F k):∀(n:Nat) (st:aq) (c:S),cS X.K T d n C st=aB c->SS X st (exs (run F k) c)
 |0,_,_,h=>by cases h
 |n+1,st,c,h=>by
  have nd:X.N.Nodup:=O.hN▸O.nd;have Sd:=qe (T:=T) (F:=F) (k:=k) d O;have ih:=pB O n;have hp:PassesOwn (model X.prog X.w) X.A X.env X.xe:=by rw[O.xe];exact PassesOwn.never
  unfold cS at h;split at h;cases h;exact Vx;cases h;exact Vy;cases h;exact Vz;cases h;exact Bp;split at h;cases h;exact VE;obtain⟨a,h1,rfl⟩:=map_some h;exact VD (Sd.e _ _ h1).1;split at h;rename_i hc;obtain⟨a,h1,rfl⟩:=map_some h;exact VC (Sd.e _ _ h1).1 hc;cases h;split at h;split at h;split at h;rename_i i a h1 h2;cases h;exact WV O h1 h2;cases h;split at h;rename_i ht;split at h;rename_i h1 h2;cases h;exact VN O.calm nd (EG O h1) (Sd.e _ _ h2).1 ht;cases h;cases h;split at h;rename_i hs;split at h;rename_i h1 h2 h3;cases h;exact VT O.u2 (Sd.e _ _ h1).1 (Sd.e _ _ h2).1 (Sd.e _ _ h3).1 hs;cases h;cases h;cases h;cases h;split at h;split at h;rename_i h1 h2 h3;cases h;obtain⟨x',p',ex,a1,a2,a3⟩:=kH O h1;cases ex;exact V0 h2 nd a1 a2 a3 (Sd.e _ _ h3).1;cases h;cases h;split at h;rename_i h1 h2 h3;cases h;exact V2 (Sd.t _ _ h1) (wm ih h2) (wm ih h3);cases h
  .rename_i tg it b el pos
   split at h
   .split at h
    .rename_i h1 h2 h3
     split at h
     case isFalse=>cases h
     rename_i hw;cases h;obtain⟨w1,w2⟩:=Sd.w _ _ _ tg h1 hw;exact V5 hp O.calm w1 (kI O h2) (wm ih h3) w2
    cases h
   cases h
  split at h;split at h;rename_i h1 h2;cases h;exact V6 hp (Sd.t _ _ h1) (wm ih h2);cases h;cases h;cases h
end
noncomputable def II:FuncBody->Option (List aq)|.stmts b=>aB b|_=>aC
theorem WW{d:Data}(h:ED d):∃n,d=.seq #[.none] n:=by
 cases d with
 |seq xs n=>
  obtain⟨l⟩:=xs;unfold ED at h;simp only[]at h;split at h;rename_i v;cases v<;>first|exact⟨n,rfl⟩|cases h
  cases h
 |_=>cases h
theorem WX{K:aK}{v:aa}(h:gu K v):∃t o n,v=.ref t/\K.lookup t=aB o/\o.data=.seq #[.none] n:=by
 cases v with
 |ref t=>
  have h:(match K.lookup t with|some o=>ED o.data|none=>false)=true:=h;cases e:K.lookup t with
  |none=>rw[e]at h;cases h
  |some o=>
   rw[e]at h;obtain⟨n,q⟩:=WW h;exact⟨t,o,n,rfl,e,q⟩
 |_=>cases h
noncomputable def wo(ps:List Str)(sc:ay):List Str:=ps++(sc.names.filter λy=>(y.2 == .local||y.2 == .cell) && !(ps.contains y.1)).map (·.1)
noncomputable def EL(N ps:List Str)(sc:ay):Bool:=
 decide (sc.kind=.function) && !sc.isCoroutine && !sc.isGenerator&&decide N.Nodup&&decide (N.take ps.length=ps)&&ps.all (λx=>decide (sc.names.lookup x=aB .local\/sc.names.lookup x=aB .cell))&&sc.names.all (λy=>decide (y.2≠.free))&&decide ps.Nodup
theorem WY{N ps:List Str}{sc:ay}(h:EL N ps sc):dJ N ps sc/\ps.Nodup:=by unfold EL at h;simp only[bY,iB,i6,u5]at h;obtain⟨⟨⟨⟨⟨⟨⟨h1,h2⟩,h3⟩,h4⟩,h5⟩,h6⟩,h7⟩,h8⟩:=h;exact⟨⟨h1,h2,h3,h4,h5,h6,h7⟩,h8⟩
noncomputable def jj(x:Str):Str:=x
noncomputable def cF(K:aK)(T:List Str)(d n:Nat)(x:Str):Option Fn:=match fnAt K x with
 |some (f,o,fd)=>(match vZ fd.params,II fd.body with
  |some args,aB body=>if fd.name==jj x&&fd.qualname==x&&Nat.beq fd.globals mainGlobals&&fd.closure.isEmpty&& (isNone fd.defaults||gu K fd.defaults && !args.isEmpty)&&Nat.beq fd.builtins builtinsNs&&PySem.W.codeIn K fd.code x&&PySem.W.keepIn K (.ref f) &&
   EL (wo (args.map (·.arg)) fd.scope) (args.map (·.arg)) fd.scope then
   (pq (cS K T d n ⟨wo (args.map (·.arg)) fd.scope,fd.scope.names,true⟩) body).map λb=>⟨(args.map (·.arg)).length,(wo (args.map (·.arg)) fd.scope).length,b⟩
   else aC
  |_,_=>aC)
 |none=>aC
theorem WZ{fd:au}{x:Str}{args:List Arg}{body:List aq}(c1:(fd.name==jj x))(c2:(fd.qualname==x))(c3:Nat.beq fd.globals mainGlobals)(c4:fd.closure.isEmpty)(c6:Nat.beq fd.builtins builtinsNs)(ha:vZ fd.params=aB args)(hb:II fd.body=aB body) :
 ∃dx,fd=PySem.W.fnOf (jj x) x ⟨[],args,aC,[],[],aC,dx⟩ body fd.scope fd.defaults fd.kwdefaults fd.doc fd.pyModule fd.annotations fd.code fd.closureTuple:=by
 obtain⟨nm,qn,pr,bd,sc,gl,cl,df,kd,dc,pm,an,cdv,ct,bu⟩:=fd;have e1:nm=jj x:=by simpa using c1
 have e2:qn=x:=by simpa using c2
 have e3:gl=mainGlobals:=yT c3;have e4:cl=[]:=by simpa using c4
 have e6:bu=builtinsNs:=yT c6;have e7:bd=.stmts body:=by
  cases bd with|stmts b'=>cases hb;rfl|expr _=>cases hb
 obtain⟨dx,e8⟩:∃dx,pr=⟨[],args,aC,[],[],aC,dx⟩:=by unfold vZ at ha;split at ha;cases ha;rename_i z;exact⟨_,z⟩;cases ha
 exact⟨dx,by rw[e1,e2,e3,e4,e6,e7,e8]⟩
theorem W0{K:aK}{x:Str}{fd:au}{args:List Arg}{body:List aq}{dx:List ao}{sc:ay}{df kd dc pm:aa}{an:Option ah}{cdv ct:aa}{b:Bool}(e:fd=PySem.W.fnOf (jj x) x ⟨[],args,aC,[],[],aC,dx⟩ body sc df kd dc pm an cdv ct)(nd:(args.map (·.arg)).Nodup)
 (hb:b=gu K df) (c5:(isNone df||gu K df && !args.isEmpty)):Binds K fd (args.map (·.arg)) []/\(b=true->Binds K fd (args.map (·.arg)) [.none])/\(b=false->∀us:List aa,us.length=(args.map (·.arg)).length->bindArgs fd ⟨us,[]⟩=pure ((args.map (·.arg)).zip us)):=by
 subst e hb;rw[pU,bY]at c5;rcases c5 with c5|⟨c5,c0⟩
 have e5:df=.none:=by cases df<;>first|rfl|cases c5
 subst e5;exact⟨.all λus hl=>M8 hl nd,(λz=>nomatch z),λ_ us hl=>M8 hl nd⟩;obtain⟨t,o,n,rfl,hk,hd⟩:=WX c5;rw[c5];obtain⟨qs,z,BN⟩:∃qs z,args.map (·.arg)=qs++[z]:=by rcases List.eq_nil_or_concat (args.map (·.arg))with q|⟨l,b,q⟩;rw[List.map_eq_nil_iff.mp q]at c0;cases c0;exact⟨l,b,by rw[q,List.concat_eq_append]⟩
 have IJ:=nd;rw[BN]at IJ;refine⟨λs us hK hl=>?_,λ_ s us hK hl=>?_,λz=>nomatch z⟩;rw[nP]at hl ⊢;rw[BN]at hl ⊢;exact V8 BN IJ (hK _ _ hk) hd hl;rw[BN]at hl ⊢;exact V9 BN IJ (hK _ _ hk) hd (by rw[eY,eY]at hl;simpa using hl)
theorem W2{K:aK}{x:Str}{f:ah}{o:Obj}{fd:au}(h:fnAt K x=aB (f,o,fd)):gp K x=aB f/\∃oc od sl,K.lookup f=aB ⟨oc,od,.func fd,sl⟩:=by unfold fnAt at h;split at h;rename_i f' hn;split at h;rename_i o' ho;split at h;rename_i fd' hd;cases h;refine⟨hn,o.cls,o.dict,o.slots,?_⟩;rw[<-hd];exact ho;cases h;cases h;cases h
theorem W3{K:aK}{T:List Str}{d n:Nat}{x:Str}{fn:Fn}:∀(f:ah) (o:Obj) (fd:au) (args:List Arg) (body:List aq) (b:S),fnAt K x=aB (f,o,fd)->vZ fd.params=aB args->II fd.body=aB body->(fd.name==jj x&&fd.qualname==x&&Nat.beq fd.globals mainGlobals&&fd.closure.isEmpty&& (isNone fd.defaults||gu K fd.defaults && !args.isEmpty)&&Nat.beq fd.builtins builtinsNs&&PySem.W.codeIn K fd.code x&&PySem.W.keepIn K (.ref f) &&
 EL (wo (args.map (·.arg)) fd.scope) (args.map (·.arg)) fd.scope)=true->pq (cS K T d n ⟨wo (args.map (·.arg)) fd.scope,fd.scope.names,true⟩) body=aB b->fn=⟨(args.map (·.arg)).length,(wo (args.map (·.arg)) fd.scope).length,b⟩->∃f fd st ps N,gp K x=aB f/\oY K (jj x) x st f fd/\dJ N ps (jI st)/\fn.n=N.length/\fn.ps=ps.length/\(Binds K fd ps []/\(gS K x=true->Binds K fd ps [.none])/\(gS K x=false->∀us:List aa,us.length=ps.length->bindArgs fd ⟨us,[]⟩=pure (ps.zip us)))/\
 pq (cS K T d n ⟨N,(jI st).names,true⟩) (z0 st)=aB fn.body/\∃o' fd' args,fnAt K x=aB (f,o',fd')/\vZ fd'.params=aB args/\ps=args.map (·.arg):=by
 intro f o fd args body b hf ha hb hc h1 e;rw[bY,bY,bY,bY,bY,bY,bY,bY]at hc;obtain⟨⟨⟨⟨⟨⟨⟨⟨c1,c2⟩,c3⟩,c4⟩,c5⟩,c6⟩,c7⟩,c8⟩,c9⟩:=hc;obtain⟨S,nd⟩:=WY c9;obtain⟨hn,oc,od,sl,lk⟩:=W2 hf;obtain⟨dx,ef⟩:=WZ c1 c2 c3 c4 c6 ha hb;have hh:gS K x=gu K fd.defaults:=by unfold gS;rw[hf]
 exact⟨f,fd,.FunctionDef (jj x) ⟨[],args,aC,[],[],aC,dx⟩ body [] aC [] fd.scope aC (jj x) ⟨0,0,0,0⟩,args.map (·.arg),wo (args.map (·.arg)) fd.scope,hn,⟨⟨oc,od,_,_,_,_,_,fd.code,_,sl,ef,lk,c7⟩,c8⟩,S,by rw[e],by rw[e],W0 ef nd hh c5,by rw[e];exact h1,o,fd,args,hf,ha,rfl⟩
theorem pC{K:aK}{T:List Str}{d n:Nat}{x:Str}{fn:Fn}(h:cF K T d n x=aB fn):∃f fd st ps N,gp K x=aB f/\oY K (jj x) x st f fd/\dJ N ps (jI st)/\fn.n=N.length/\fn.ps=ps.length/\(Binds K fd ps []/\(gS K x=true->Binds K fd ps [.none])/\(gS K x=false->∀us:List aa,us.length=ps.length->bindArgs fd ⟨us,[]⟩=pure (ps.zip us)))/\
 pq (cS K T d n ⟨N,(jI st).names,true⟩) (z0 st)=aB fn.body/\∃o' fd' args,fnAt K x=aB (f,o',fd')/\vZ fd'.params=aB args/\ps=args.map (·.arg):=by
 unfold cF at h;split at h;rename_i f o fd hf;split at h;rename_i args body ha hb;split at h;rename_i hc;obtain⟨b,h1,e⟩:=map_some h;exact W3 f o fd args body b hf ha hb hc h1 e;cases h;cases h;cases h
theorem EM{α β:Type}{f:α->Option β}:∀{l:List α} {r:List β},aT f l=aB r->∀(i:Nat) (a:α),l[i]?=aB a->∃b,r[i]?=aB b/\f a=aB b
 |[],_,_,i,a,e=>by simp at e
 |x::l,r,h,i,a,e=>by
  unfold aT at h;split at h;rename_i b hb;split at h;rename_i bs BD;cases h;cases i with
  |zero=>simp at e;subst e;exact⟨b,rfl,hb⟩
  |succ i=>
   obtain⟨c,h1,h2⟩:=EM BD i a (by simpa using e);exact⟨c,by simpa using h1,h2⟩
  cases h;cases h
noncomputable def IK(K:aK)(T:List Str)(d n:Nat)(x:Str):Option Fn:=if x==("" : Str)then aB ⟨0,0,.no⟩else cF K T d n x
theorem IL{K:aK}{T:List Str}{d n:Nat}{x:Str}{fn:Fn}(h:IK K T d n x=aB fn)(hx:x≠""):cF K T d n x=aB fn:=by unfold IK at h;rw[if_neg (by simpa using hx)]at h;exact h
noncomputable def jA(K:aK)(T:List Str)(d n:Nat):Option (List Fn):=aT (IK K T d n) T
theorem NJ{P:ai}{w:aj}{K:aK}{mg:Str->Option aa}{base:az}{T:List Str}{Fs:List Fn}{k:Nat}(KX:K.In base)(G:base.Ns mainGlobals mg){x:Str}{st:aq}{f:ah}{N ps:List Str}(S:dJ N ps (jI st))
 (H0:∀(i:Nat)(x:Str),T[i]?=aB x->x≠""->∃f fd ps fn,gp K x=aB f/\fK P w K mg base lY k f fd ps (oR K ps.length (run (λi=>Fs[i]?) k i))/\PySem.W.keepIn K (.ref f)=true/\Binds K fd ps []/\Fs[i]?=aB fn/\fn.ps=ps.length/\(gS K x=true->Binds K fd ps [.none]))
 (cdv:aa) (A:ak) (outer:List Env) (s:af) (H:Hp) (E:XK) (hr:dF k (A.deeper (envOfC x (jI st) s.heap.objs.size f cdv))):iu (j9 lY P w K mg base N x (jI st) f cdv A outer s H E).xU ⟨N,(jI st).names,true⟩ T (λi=>Fs[i]?) k:=by
 refine⟨rfl,S.nd,λy hy=>?_,λy hy=>?_,λy hy=>hy,λy hy=>hy,rfl,hr,rfl,S.kind,λy v hv=>PySem.W.mg_of KX G hv,λy hv=>PySem.W.mg_none_of KX G hv,H0⟩;have hy:rO ((jI st).names.lookup y)=true:=hy;cases z:(jI st).names.lookup y with
 |none=>rw[z]at hy;cases hy
 |some kd=>cases kd<;>first|exact .inl z|exact .inr (.inl z)|exact .inr (.inr z)|(rw[z]at hy;cases hy)
 have hy:rP true ((jI st).names.lookup y)=true:=hy;cases z:(jI st).names.lookup y with
 |none=>rw[z]at hy;cases hy
 |some kd=>cases kd<;>first|exact⟨.inl z,.inl rfl⟩|exact⟨.inr z,.inl rfl⟩|(rw[z]at hy;cases hy)
theorem W4{P:ai}{w:aj}{K:aK}{mg:Str->Option aa}{base:az}{T:List Str}{d n:Nat}{Fs:List Fn}(hP:jA K T d n=aB Fs)(KX:K.In base)(G:base.Ns mainGlobals mg)(k:Nat):∀(j:Nat),j<=k->∀(i:Nat) (x:Str),T[i]?=aB x->x≠""->
 ∃f fd ps fn,gp K x=aB f/\fK P w K mg base lY j f fd ps (oR K ps.length (run (λi=>Fs[i]?) j i))/\PySem.W.keepIn K (.ref f)=true/\Binds K fd ps []/\Fs[i]?=aB fn/\fn.ps=ps.length/\(gS K x=true->Binds K fd ps [.none]):=by
 induction k with
 |zero=>
  intro j hj i x e hx;have:j=0:=Nat.le_zero.mp hj;subst this;obtain⟨fn,h1,h2⟩:=EM hP i x e;obtain⟨f,fd,st,ps,N,a1,a2,a3,a4,a5,a6,a7,_⟩:=pC (IL h2 hx);exact⟨f,fd,ps,fn,a1,Ng,a2.kp,a6.1,h1,a5,a6.2.1⟩
 |succ k ih=>
  intro j hj i x e hx;by_cases hjk:j<=k;exact ih j hjk i x e hx;have:j=k+1:=by lia
  subst this;obtain⟨fn,h1,h2⟩:=EM hP i x e;obtain⟨f,fd,st,ps,N,a1,a2,a3,a4,a5,a6,a7,_⟩:=pC (IL h2 hx);exact⟨f,fd,ps,fn,a1,Nf (F:=λi=>Fs[i]?) h1 a2 a3 a4 a5 λcdv A outer s H E hr=>wm (pB (NJ KX G a3 (λj y hj hy=>ih k (bg _) j y hj hy) cdv A outer s H E hr) n) a7,a2.kp,a6.1,h1,a5,a6.2.1⟩
noncomputable def yq:Res W->Bool|.ok (.bl true) _=>true|_=>false
noncomputable def says(K:aK)(T:List Str)(d n k i:Nat)(ns:List Int):Bool:=match jA K T d n with|some Fs=>yq (run (λi=>Fs[i]?) k i [.fz (ns.map .int)] ⟨0,0,[]⟩)|none=>false
theorem W5{r:Res W}(h:yq r):∃h',r=.ok (.bl true) h':=by
 cases r with
 |no=>cases h
 |ex _ _=>cases h
 |ok w h'=>cases w<;>first|(rename_i b;cases b<;>first|exact⟨h',rfl⟩|cases h)|cases h
theorem NK{K:aK}{m:Nat->ah}{n:Nat}{H:Hp}:∀(ns:List Int),aF K m n H (ns.map V.int) (ns.map W.int)|[]=>.nil|i::r=>.cons (.int i) (NK r)
theorem NL{K:aK}{T:List Str}{d n k i:Nat}{ns:List Int}(h:says K T d n k i ns):∃Fs h',jA K T d n=aB Fs/\run (λi=>Fs[i]?) k i [.fz (ns.map .int)] ⟨0,0,[]⟩=.ok (.bl true) h':=by unfold says at h;split at h;rename_i Fs hF;obtain⟨h',e⟩:=W5 h;exact⟨Fs,h',hF,e⟩;cases h
theorem W6{K:aK}{T:List Str}{d n k i:Nat}{ns:List Int}{Fs:List Fn}(hP:jA K T d n=aB Fs)(h:yq (run (λi=>Fs[i]?) k i [.fz (ns.map .int)] ⟨0,0,[]⟩)):says K T d n k i ns=true:=by unfold says;rw[hP];exact h
noncomputable def pD(K:aK)(x:Str):Bool:=match fnAt K x with
 |some (_,_,fd)=>(match vZ fd.params with
  |some [a]=>a.arg==("_law_script" : Str) && !(gu K fd.defaults)
  |_=>false)
 |none=>false
theorem W7{l:PySem.W.OpenLaw}{q:ai}{loose:List Str}{XP:(Str->Option aa)->az->Prop}{YP:aj->az->Prop}{dr:DefRec}{K:Params->aK}(T:List Str)(d n k i:Nat)(hn:l.most=aB 63)(hdf:dr.params.defaults=[])(hr:dF k callerA)
 (hY:∀(w:aj)(h:az),YP w h->(K w.params).In h) (hT:T[i]?=aB dr.name) (hne:dr.name≠"") (hS:∀(w:aj)(ns:List Int),ns.length<=63->says (K w.params) T d n k i ns) (hL:∀w:aj,pD (K w.params) dr.name) :
 PySem.W.WalkO q loose XP YP l.row.toRowW dr [] (λf vs=>PySem.call f vs):=by
 have any:∀w:aj,∃Fs,jA (K w.params) T d n=aB Fs:=λw=>let⟨Fs,_,h,_⟩:=NL (hS w [] (kT _));⟨Fs,h⟩;refine L2.RN (n:=63) (k:=k) (x:="_law_script") (CX:=λ_=>lY) (sp:=λw=>oR (K w.params) 1 (run (λj=>(Classical.choose (any w))[j]?) k i)) hn (by decide) hdf hr hY ?_ ?_ λ_ _ _ _ _ z=>z;intro w mg fa h KX G hmg;have hP:=Classical.choose_spec (any w);obtain⟨fn',h1,h2⟩:=EM hP i _ hT;obtain⟨f',fd',st,ps',N,a1,a2,a3,a4,a5,a6,a7,o',W8,args,a8,a9,IM⟩:=pC (IL h2 hne);have hps:ps'=[("_law_script" : Str)]:=by
  have hl:=hL w;unfold pD at hl;rw[a8]at hl;simp only[a9]at hl;cases args with
  |nil=>cases hl
  |cons z zs=>
   cases zs with
   |nil=>
    rw[bY]at hl;have hl:z.arg = "_law_script":=by simpa using hl.1
    rw[IM,dH,hl];rfl
   |cons _ _=>cases hl
 have hnd:gS (K w.params) dr.name=false:=by have hl:=hL w;unfold pD at hl;rw[a8]at hl;unfold gS;rw[a8];simp only[a9]at hl;split at hl;rw[bY]at hl;simpa using hl.2;cases hl
 have e:=PySem.W.mg_of KX G (Nh a1);rw[hmg]at e;cases e;subst hps;refine⟨fd',λs u=>.of_eq (a6.2.2 hnd [u] rfl),λbase KB GB=>?_⟩;cases k with|zero=>exact Ng|succ k=>exact Nf (F:=λj=>(Classical.choose (any w))[j]?) h1 a2 a3 a4 a5 λcdv A outer s H E hr=>wm (pB (NJ KB GB a3 (λj y hj hy=>W4 hP KB GB k k (bg _) j y hj hy) cdv A outer s H E hr) n) a7
 intro w H a ns hl hO hQ;obtain⟨Fs,h',e1,e2⟩:=NL (hS w ns hl);have hP:=Classical.choose_spec (any w);rw[hP]at e1;cases e1;refine⟨rfl,⟨0,0,[]⟩,λ_=>0,_,_,h',⟨λi hi=>absurd hi (yU _),λi j hi=>absurd hi (yU _),rfl⟩,.cons (.fz ?_ (NK ns)) .nil,e2,λv H' m' _ _ q=>by cases q;rfl⟩;rcases hQ with(q|⟨o,q⟩)|q
 rcases hO a with z|⟨o,xs,z⟩;rw[z]at q;cases q;rw[z]at q;cases q;exact .inl ⟨o,q⟩;exact .inr q
section
open E renaming var->v,cons->c,cst->k,nil->n,call->f,idx->x,cmp->p,bi->b,op->o,not->z,and->a,or->r,p9->t,vL->i,slc->l,lst->m,lc->u,neg->y,mt->w
open S renaming seq->q,skip->s,ret->e,set->d,ye->g,expr->h,put->j
noncomputable def EN:Fn:=⟨1,1,(q (e (a (i .int (v 0)) (z (i .bool (v 0))))) s)⟩
noncomputable def IP:Fn:=⟨3,3,(q (e (a (f 0 (c (v 0) n)) (.yc .le .le (v 1) (v 0) (v 2)))) s)⟩
noncomputable def EO:Fn:=⟨2,2,(q (.ite (p .eq (b .len (c (v 0) n)) (k (.int 0))) (q (e (o .add (o .mul (k (.int 7)) (v 1)) (k (.int 3)))) s) s) (q (e (b .abs (c (x (v 0) (o .mod (v 1) (b .len (c (v 0) n)))) n))) s))⟩
noncomputable def zdt:E:=(p .ge (b .abs (c (v 0) n)) (o .pow (k (.int 10)) (k (.int 18))))
noncomputable def uo:E:=(b .abs (c (v 0) n))
noncomputable def BO:Fn:=⟨1,1,(q (e (m (c (v 0) (c (u .seq (v 0) (.one 0) 1 [] zdt uo) (c (k (.int 0)) (c (k (.int 0)) n)))))) s)⟩
noncomputable def IQ:Fn:=⟨3,4,(q (d 3 (o .mod (o .pow (o .add (o .mul (o .add (o .mod (f 2 (c (v 0) (c (v 1) n))) (k (.int 1000003))) (k (.int 5))) (o .add (v 1) (k (.int 2)))) (o .mul (k (.int 7919)) (v 1))) (k (.int 5))) (k (.int 2147483647)))) (q (e (o .mod (o .fdiv (v 3) (k (.int 13))) (v 2))) s))⟩
noncomputable def BP:E:=(p .lt (x (v 0) (k (.int 2))) (b .len (c (x (v 0) (k (.int 1))) n)))
noncomputable def wu:S:=(q (d 2 (x (x (v 0) (k (.int 1))) (x (v 0) (k (.int 2))))) (q (.ite (p .gt (v 2) (k (.int 0))) (q (j (x (v 0) (k (.int 1))) (x (v 0) (k (.int 2))) (o .fdiv (v 2) (v 1))) (q (e (o .mod (v 2) (v 1))) s)) s) (q (j (v 0) (k (.int 2)) (o .add (x (v 0) (k (.int 2))) (k (.int 1)))) s)))
noncomputable def rQ:Fn:=⟨2,3,(q (.AG BP wu) (q (j (v 0) (k (.int 3)) (o .add (x (v 0) (k (.int 3))) (k (.int 1)))) (q (e (f 4 (c (x (v 0) (k (.int 0))) (c (x (v 0) (k (.int 3))) (c (v 1) n))))) s)))⟩
noncomputable def BQ:Fn:=⟨3,3,(q (e (a (i .tuple (v 0)) (.yc .le .le (v 1) (b .len (c (v 0) n)) (v 2)))) s)⟩
noncomputable def uq:E:=(p .lt (v 3) (v 0))
noncomputable def ER:S:=(q (.aug 2 .add (k (.int 1))) (q (.aug 3 .mul (k (.int 2))) s))
noncomputable def wz:Fn:=⟨2,4,(q (.ite (r (z (t (f 1 (c (v 0) (c (k (.int 1)) (c (k (.int 1000000000)) n)))))) (z (t (f 1 (c (v 1) (c (k (.int 1)) (c (k (.int 4)) n))))))) (q .no s) s) (q (d 2 (k (.int 0))) (q (d 3 (v 1)) (q (.AG uq ER) (q (e (v 2)) s)))))⟩
noncomputable def ES:E:=(w .get (v 1) (c (v 0) (c (k (.str (cj "."))) n)))
noncomputable def rR:Fn:=⟨2,2,(q (e (b .tuple (c (u .cD (c (v 0) n) (.one 0) 1 [1] (k (.bl true)) ES) n))) s)⟩
noncomputable def wA:Fn:=⟨2,2,(q (e (m (c (f 33 (c (v 0) (c (v 1) n))) (c (f 33 (c (v 0) (c (.dc .keys (b .bF (c (v 1) n)) (.one 0) 1 [] (k (.bl true)) (o .add (v 0) (k (.int 1))) (k (.str (cj "<")))) n))) n)))) s)⟩
noncomputable def IS:S:=(q (h (w .append (v 2) (c (o .mod (v 0) (k (.int 2))) n))) (q (.aug 0 .fdiv (k (.int 2))) s))
noncomputable def rS:Fn:=⟨2,4,(q (d 2 (m n)) (q (.«for» .cD (c (v 1) n) (.one 3) IS) (q (e (b .tuple (c (v 2) n))) s)))⟩
noncomputable def ET:E:=(b .max (c (o .sub (v 1) (v 0)) (c (o .sub (v 2) (v 1)) n)))
noncomputable def IT:S:=(q (d 5 (.dc .seq (v 2) (.many [0,1,2]) 3 [4] (p .gt (o .sub (v 1) (v 3)) (v 0)) (o .sub (v 1) (v 3)) (k (.str (cj "<"))))) (q (h (w .update (v 5) (c (.dc .seq (v 2) (.many [0,1,2]) 3 [4] (p .lt (o .add (v 1) (v 3)) (v 2)) (o .add (v 1) (v 3)) (k (.str (cj ">")))) n))) (q (h (w .append (v 3) (c (f 33 (c (v 0) (c (v 5) n))) n))) s)))
noncomputable def wB:Fn:=⟨3,6,(q (d 3 (m (c (f 33 (c (v 0) (c (.dc .seq (v 2) (.many [0,1,2]) 3 [1] (k (.bl true)) (v 1) (.tup (c (v 3) (c (k (.int 0)) n)))) n))) n))) (q (.«for» .gK (c (k (.int 1)) (c (b .max (c (u .seq (v 2) (.many [0,1,2]) 3 [] (k (.bl true)) ET) n)) n)) (.one 4) IT) (q (e (v 3)) s)))⟩
noncomputable def NN:E:=(.tup (c (v 0) (c (o .fdiv (o .add (v 0) (v 1)) (k (.int 2))) (c (v 1) n))))
noncomputable def wC:Fn:=⟨1,1,(q (e (u .zip (c (b .st2 (c (v 0) (c (k .aQ) (c (k (.int 2)) n)))) (c (b .st2 (c (v 0) (c (k (.int 1)) (c (k (.int 2)) n)))) n)) (.many [0,1]) 2 [] (k (.bl true)) NN)) s)⟩
noncomputable def NO:E:=(f 71 (c (v 0) (c (v 1) (c (v 2) n))))
noncomputable def rT:Fn:=⟨1,3,(q (.ite (r (z (t (f 6 (c (v 0) (c (k (.int 1)) (c (k (.int 16)) n)))))) (z (t (f 6 (c (x (v 0) (k (.int 0))) (c (k (.int 1)) (c (k (.int 4)) n))))))) (q (e (k (.bl false))) s) s) (q (d 1 (b .len (c (v 0) n))) (q (d 2 (b .len (c (x (v 0) (k (.int 0))) n))) (q (e (a (p .le (o .mul (v 1) (v 2)) (k (.int 16))) (b .all (c (u .seq (v 0) (.one 0) 1 [2,1] (k (.bl true)) NO) n)))) s))))⟩
noncomputable def rV:Fn:=⟨2,4,(q (.ite (z (t (f 6 (c (v 0) (c (k (.int 2)) (c (k (.int 2)) n)))))) (q (e (k (.bl false))) s) s) (q (g [2,3] (v 0)) (q (e (a (f 1 (c (v 2) (c (k (.int 0)) (c (k (.int 99)) n)))) (f 1 (c (v 3) (c (k (.int 0)) (c (o .sub (v 1) (k (.int 1))) n)))))) s)))⟩
noncomputable def NP:E:=(f 70 (c (v 0) (c (v 1) n)))
noncomputable def rW:Fn:=⟨3,3,(q (e (a (f 6 (c (v 0) (c (v 1) (c (v 1) n)))) (b .all (c (u .seq (v 0) (.one 0) 1 [2] (k (.bl true)) NP) n)))) s)⟩
noncomputable def NQ:E:=(v 1)
noncomputable def wD:Fn:=⟨2,2,(q (e (o .add (u .seq (v 1) (.many [0,1,2]) 3 [] (k (.bl true)) NQ) (l (v 0) true (o .mul (k (.int 2)) (b .len (c (v 1) n))) false (k .aQ)))) s)⟩
noncomputable def NR:E:=(o .add (o .mul (k (.int 2)) (o .add (o .mul (v 1) (v 2)) (v 0))) (k (.int 1)))
noncomputable def IU:E:=(u .cD (c (v 1) n) (.one 0) 1 [0,1] (k (.bl true)) NR)
noncomputable def IV:E:=(f 68 (c (v 0) n))
noncomputable def wF:E:=(v 0)
noncomputable def yr:E:=(v 1)
noncomputable def IW:E:=(f 72 (c (v 0) (c (v 1) n)))
noncomputable def BR:S:=(q (d 7 (u .seq (v 4) (.one 0) 1 [] (k (.bl true)) IV)) (q (d 5 (o .add (f 67 (c (v 3) (c (v 6) (c (.yd .seq (v 7) (.one 0) 2 [] (k (.bl true)) .seq wF (.one 1) (k (.bl true)) yr) n)))) (v 5))) (q (d 4 (u .zip (c (v 4) (c (v 7) n)) (.many [0,1]) 2 [] (k (.bl true)) IW)) s)))
noncomputable def NS:E:=(x (v 0) (k (.int 0)))
noncomputable def rY:Fn:=⟨2,9,(q (d 2 (f 32 (c (v 0) (c (k (.int 1)) n)))) (q (d 3 (o .add (o .mul (o .mul (k (.int 2)) (v 0)) (v 1)) (k (.int 1)))) (q (d 4 (u .cD (c (v 1) n) (.one 0) 1 [0] (k (.bl true)) IU)) (q (d 5 (m n)) (q (.«for» .cD (c (v 2) n) (.one 6) BR) (q (d 8 (b .tuple (c (u .seq (v 4) (.one 0) 1 [] (k (.bl true)) NS) n))) (q (e (.tup (c (v 3) (c (v 2) (c (b .tuple (c (v 5) n)) (c (v 8) (c (o .mul (.tup (c (k (.tup [(.int 0),(.int 0)])) n)) (v 3)) n))))))) s)))))))⟩
noncomputable def EU:E:=(p .le (o .mul (v 1) (v 0)) (k (.int 16)))
noncomputable def IX:E:=(.tup (c (v 1) (c (v 0) n)))
noncomputable def EV:S:=(q (d 1 (o .add (v 1) (u .gK (c (k (.int 1)) (c (k (.int 5)) n)) (.one 0) 1 [2] EU IX))) s)
noncomputable def IY:E:=(.tup (c (f 5 (c (v 1) (c (v 2) n))) (c (f 5 (c (v 1) (c (v 3) n))) n)))
noncomputable def IZ:S:=(q (h (w .append (v 5) (c (b .tuple (c (u .cD (c (v 3) n) (.one 0) 1 [0,4,2] (k (.bl true)) IY) n)) n))) s)
noncomputable def pF:Fn:=⟨1,7,(q (d 1 (m n)) (q (.«for» .gK (c (k (.int 1)) (c (k (.int 17)) n)) (.one 2) EV) (q (g [2,3] (x (v 1) (f 5 (c (v 0) (c (b .len (c (v 1) n)) n))))) (q (d 4 (x (m (c (k (.int 2)) (c (k (.int 3)) (c (k (.int 100)) n)))) (f 5 (c (v 0) (c (k (.int 3)) n))))) (q (d 5 (m n)) (q (.«for» .cD (c (v 2) n) (.one 6) IZ) (q (e (b .tuple (c (v 5) n))) s)))))))⟩
noncomputable def BS:S:=(q (d 6 (x (v 5) (v 3))) (q (.ite (p .eq (v 6) (k (.str (cj "s")))) (q (e (k .aQ)) s) s) (q (.ite (r (p .eq (v 6) (k (.str (cj ".")))) (r (p .eq (v 6) (k (.str (cj "<")))) (p .eq (v 6) (k (.str (cj ">")))))) (q (d 4 (x (.AF (c (k (.str (cj "."))) (c (k (.int 0)) (c (k (.str (cj "<"))) (c (y (k (.int 1))) (c (k (.str (cj ">"))) (c (k (.int 1)) n))))))) (v 6))) s) (q (.ite (p .ne (v 6) (k (.str (cj "x")))) (q (d 4 (o .sub (k (.int 1)) (o .mul (k (.int 2)) (b .int (c (p .eq (x (v 1) (x (v 6) (k (.int 0)))) (x (v 6) (k (.int 1)))) n))))) (q (j (v 1) (x (v 6) (k (.int 0))) (o .sub (k (.int 1)) (x (v 1) (x (v 6) (k (.int 0)))))) s)) s) s)) (q (d 3 (o .add (v 3) (v 4))) s))))
noncomputable def pG:Fn:=⟨3,7,(q (d 3 (x (x (v 0) (k (.int 3))) (v 2))) (q (d 1 (b .list (c (v 1) n))) (q (d 4 (k (.int 0))) (q (.«for» .seq (x (v 0) (k (.int 2))) (.one 5) BS) (q (e (m (c (v 3) (c (b .tuple (c (v 1) n)) n)))) s)))))⟩
noncomputable def eL:Fn:=⟨4,7,(q (.ite (t (i .tuple (v 0))) (q (g [4,5] (v 0)) (q (d 6 (x (v 2) (v 4))) (q (.ite (p .ne (v 4) (v 3)) (q (j (v 2) (v 4) (o .sub (k (.int 1)) (v 6))) s) s) (q (e (.ite (p .eq (v 6) (v 5)) (k (.int (-1))) (k (.int 1)))) s)))) s) (q (.ite (p .eq (v 0) (k (.str (cj "s")))) (q (e (k .aQ)) s) s) (q (.ite (p .eq (v 0) (k (.str (cj "x")))) (q (e (v 1)) s) s) (q (.ite (p .eq (v 0) (k (.str (cj ".")))) (q (e (k (.int 0))) s) s) (q (e (.ite (p .eq (v 0) (k (.str (cj "<")))) (k (.int (-1))) (k (.int 1)))) s)))))⟩
noncomputable def BU:S:=(q (d 10 (x (v 9) (v 4))) (q (d 8 (f 173 (c (v 10) (c (v 8) (c (v 7) (c (v 3) n)))))) (q (.ite (p .yb (v 8) (k .aQ)) (q .brk s) s) (q (.ite (a (t (i .tuple (v 10))) (p .ne (x (v 10) (k (.int 0))) (v 3))) (q (h (w .append (v 6) (c (x (v 10) (k (.int 0))) n))) s) s) (q (.aug 4 .add (v 8)) (q (h (w .append (v 5) (c (v 4) n))) s))))))
noncomputable def mw:Fn:=⟨4,11,(q (d 4 (x (x (v 0) (k (.int 3))) (v 2))) (q (d 5 (m (c (v 4) n))) (q (d 6 (m n)) (q (d 7 (b .list (c (v 1) n))) (q (d 8 (k (.int 0))) (q (.«for» .seq (x (v 0) (k (.int 2))) (.one 9) BU) (q (e (.tup (c (b .tuple (c (v 5) n)) (c (b .tuple (c (v 6) n)) (c (b .tuple (c (v 7) n)) n))))) s)))))))⟩
noncomputable def I0:E:=(f 41 (c (v 0) (c (v 1) n)))
noncomputable def Ja:E:=(k (.tup [(.int 0),(.int 0)]))
noncomputable def EW:E:=(b .HH n)
noncomputable def EX:S:=(q (.ite (p .ne (v 19) (x (x (v 6) (v 15)) (v 9))) (q (j (x (v 10) (v 9)) (v 7) (.tup (c (v 9) (c (o .sub (k (.int 1)) (v 19)) n)))) s) s) s)
noncomputable def EY:S:=(q (g [16,17,18] (f 174 (c (v 1) (c (v 11) (c (v 13) (c (k .aQ) n)))))) (q (d 7 (x (v 16) (y (k (.int 1))))) (q (j (v 8) (v 7) (.tup (c (v 14) (c (k (.int 0)) n)))) (q (.«for» .lA (v 18) (.many [9,19]) EX) s))))
noncomputable def BV:S:=(q (.«for» .lA (v 12) (.AE 13 [14,15]) EY) s)
noncomputable def EZ:S:=(q (.aug 4 .add (b .tuple (c (f 36 (c (v 2) (c (v 20) n))) n))) s)
noncomputable def mz:Fn:=⟨1,21,(q (.ite (z (t (f 69 (c (v 0) n)))) (q .no s) s) (q (d 1 (f 77 (c (b .len (c (v 0) n)) (c (b .len (c (x (v 0) (k (.int 0))) n)) n)))) (q (g [2,3,4,5] (l (v 1) false (k .aQ) true (k (.int 4)))) (q (d 6 (b .tuple (c (u .cD (c (b .len (c (v 0) n)) n) (.one 0) 1 [3] (k (.bl true)) I0) n))) (q (d 8 (u .cD (c (v 2) n) (.one 0) 1 [] (k (.bl true)) Ja)) (q (d 10 (u .cD (c (v 3) n) (.one 0) 1 [] (k (.bl true)) EW)) (q (.«for» .zip (c (v 6) (c (v 0) n)) (.many [11,12]) BV) (q (.«for» .seq (v 10) (.one 20) EZ) (q (e (.tup (c (.tup (c (v 2) (c (v 3) (c (v 4) (c (v 5) (c (b .tuple (c (v 8) n)) n)))))) (c (v 6) n)))) s)))))))))⟩
noncomputable abbrev rZ:E:=.AF (c (k (.str (cj "."))) (c (k (.int 0)) (c (k (.str (cj "<"))) (c (y (k (.int 1))) (c (k (.str (cj ">"))) (c (k (.int 1)) n))))))
noncomputable abbrev sE:E:=k (.str (cj "s"))
noncomputable def wG:S:=(.ite (r (p .eq (v 6) (k (.str (cj ".")))) (r (p .eq (v 6) (k (.str (cj "<")))) (p .eq (v 6) (k (.str (cj ">")))))) (q (d 4 (x rZ (v 6))) s) (q (.ite (p .ne (v 6) (k (.str (cj "x")))) (q (d 4 (o .sub (k (.int 1)) (o .mul (k (.int 2)) (b .int (c (p .eq (x (v 1) (x (v 6) (k (.int 0)))) (x (v 6) (k (.int 1)))) n))))) (q (j (v 1) (x (v 6) (k (.int 0))) (o .sub (k (.int 1)) (x (v 1) (x (v 6) (k (.int 0)))))) s)) s) s))
noncomputable def E1:S:=(q (d 9 (f 147 (c (v 3) (c (x (v 4) (v 5)) (c (v 7) n))))) (q (.ite (r (p .yb (v 9) (k .aQ)) (r (p .ne (x (x (x (v 3) (k (.int 4))) (x (v 9) (k (.int 0)))) (k (.int 0))) (x (v 8) (k (.int 0)))) (p .ne (x (v 9) (k (.int 1))) (x (v 4) (x (v 8) (k (.int 1))))))) (q (e (k (.bl false))) s) s) s))
noncomputable def Jb:S:=(q (.«for» .lA (v 6) (.many [7,8]) E1) s)
noncomputable def BW:Fn:=⟨1,10,(q (d 1 (f 3 (c (v 0) n))) (q (d 2 (f 113 (c (v 1) n))) (q (g [3,4] (f 187 (c (v 2) n))) (q (.«for» .lA (v 2) (.many [5,6]) Jb) (q (e (k (.bl true))) s)))))⟩
noncomputable def jk:Fn:=⟨0,0,.no⟩
end
noncomputable def fin(h:VH)(r:Res Fl):Res W:=r.bind λfl h'=>match fl with|.nx _=>leave h .aQ h'|.rt w=>leave h w h'|_=>.no
theorem iF{F:Nat->Option Fn}{k f:Nat}{fn:Fn}{ws:List W}{h:VH}(hF:F f=aB fn)(hl:ws.length=fn.ps) :
 run F (k+1) f ws h=fin h (exs (run F k) fn.body (ws.map aB++bV (fn.n-fn.ps) aC) ⟨h.n,h.n,h.os⟩):=by
 simp only[run,hF];rw[if_pos (by rw[hl];exact Nat.beq_refl _)];rfl
theorem W9{h:VH}{w:W}{h':VH}(h1:h.n<=h'.lo)(h2:W.lt h.n w):leave h w h'=.ok w h:=by unfold leave;rw[if_pos (by rw[bY];exact⟨qL.mpr h1,h2⟩)]
theorem jl{h h':VH}{w:W}(h1:h.n<=h'.lo)(h2:W.lt h.n w):fin h (.ok (.rt w) h')=.ok w h:=W9 h1 h2
@[simp] theorem aD {α β:Type} {a:α} {h:VH} {f:α->VH->Res β}:(Res.ok a h).bind f=f a h:=rfl
@[simp] theorem Jc {α β:Type} {f:α->VH->Res β}:(Res.no:Res α).bind f=.no:=rfl
@[simp] theorem bO {α:Type} {a:α} {h:VH}:Res.of (aB a) h=.ok a h:=rfl
@[simp] theorem Jd {α:Type} {h:VH}:Res.of (aC:Option α) h=.no:=rfl
@[simp] theorem Je {n:Nat}:W.lt n .aQ=true:=by simp only[W.lt]
@[simp] theorem NT {n:Nat} {b:Bool}:W.lt n (.bl b)=true:=by simp only[W.lt]
@[simp] theorem lt_int {n:Nat} {b:Int}:W.lt n (.int b)=true:=by simp only[W.lt]
@[simp] theorem lt_str {n:Nat} {b:Str}:W.lt n (.str b)=true:=by simp only[W.lt]
@[simp] theorem lH {n:Nat} {b:List W}:W.lt n (.tup b)=W.l8 n b:=by simp only[W.lt]
@[simp] theorem E2 {n:Nat}:W.l8 n []=true:=by simp only[W.l8]
@[simp] theorem iT {n:Nat} {b:W} {r:List W}:W.l8 n (b::r)=(W.lt n b&&W.l8 n r):=by simp only[W.l8]
@[simp] theorem wH:((Ty.int==Ty.int):Bool)=true:=rfl
@[simp] theorem ur:((Ty.int==Ty.bool):Bool)=false:=rfl
@[simp] theorem se:((Ty.int==Ty.tuple):Bool)=false:=rfl
@[simp] theorem uu:((Ty.int==Ty.list):Bool)=false:=rfl
@[simp] theorem wI:((Ty.int==Ty.str):Bool)=false:=rfl
@[simp] theorem uv:((Ty.int==Ty.dict):Bool)=false:=rfl
@[simp] theorem uw:((Ty.bool==Ty.int):Bool)=false:=rfl
@[simp] theorem sf:((Ty.bool==Ty.bool):Bool)=true:=rfl
@[simp] theorem qf:((Ty.bool==Ty.tuple):Bool)=false:=rfl
@[simp] theorem sj:((Ty.bool==Ty.list):Bool)=false:=rfl
@[simp] theorem ux:((Ty.bool==Ty.str):Bool)=false:=rfl
@[simp] theorem sr:((Ty.bool==Ty.dict):Bool)=false:=rfl
@[simp] theorem su:((Ty.tuple==Ty.int):Bool)=false:=rfl
@[simp] theorem qg:((Ty.tuple==Ty.bool):Bool)=false:=rfl
@[simp] theorem eN:((Ty.tuple==Ty.tuple):Bool)=true:=rfl
@[simp] theorem qh:((Ty.tuple==Ty.list):Bool)=false:=rfl
@[simp] theorem sy:((Ty.tuple==Ty.str):Bool)=false:=rfl
@[simp] theorem qi:((Ty.tuple==Ty.dict):Bool)=false:=rfl
@[simp] theorem uy:((Ty.list==Ty.int):Bool)=false:=rfl
@[simp] theorem sA:((Ty.list==Ty.bool):Bool)=false:=rfl
@[simp] theorem qj:((Ty.list==Ty.tuple):Bool)=false:=rfl
@[simp] theorem sC:((Ty.list==Ty.list):Bool)=true:=rfl
@[simp] theorem uz:((Ty.list==Ty.str):Bool)=false:=rfl
@[simp] theorem sD:((Ty.list==Ty.dict):Bool)=false:=rfl
@[simp] theorem wJ:((Ty.str==Ty.int):Bool)=false:=rfl
@[simp] theorem uA:((Ty.str==Ty.bool):Bool)=false:=rfl
@[simp] theorem sF:((Ty.str==Ty.tuple):Bool)=false:=rfl
@[simp] theorem uB:((Ty.str==Ty.list):Bool)=false:=rfl
@[simp] theorem wK:((Ty.str==Ty.str):Bool)=true:=rfl
@[simp] theorem uC:((Ty.str==Ty.dict):Bool)=false:=rfl
@[simp] theorem uD:((Ty.dict==Ty.int):Bool)=false:=rfl
@[simp] theorem sG:((Ty.dict==Ty.bool):Bool)=false:=rfl
@[simp] theorem qk:((Ty.dict==Ty.tuple):Bool)=false:=rfl
@[simp] theorem sH:((Ty.dict==Ty.list):Bool)=false:=rfl
@[simp] theorem uE:((Ty.dict==Ty.str):Bool)=false:=rfl
@[simp] theorem sI:((Ty.dict==Ty.dict):Bool)=true:=rfl
@[simp] theorem E3 {t:Ty} {h:VH}:dN t h .aQ=aB false:=rfl
@[simp] theorem Jf {t:Ty} {h:VH} {b:Bool}:dN t h (.bl b)=aB (t == .int||t == .bool):=rfl
@[simp] theorem E4 {t:Ty} {h:VH} {i:Int}:dN t h (.int i)=aB (t == .int):=rfl
@[simp] theorem E5 {t:Ty} {h:VH} {x:Str}:dN t h (.str x)=aB (t == .str):=rfl
@[simp] theorem mC {t:Ty} {h:VH} {x:List W}:dN t h (.tup x)=aB (t == .tuple):=rfl
@[simp] theorem dw {h:VH} {l i:Nat}:VH.get ⟨h.n,l,h.os⟩ i=h.get i:=by unfold VH.get;rfl
@[simp] theorem pH {h:VH} {b:Bool}:ng h (.bl b)=aB b:=rfl
noncomputable def forL(tg:W->VH->En->Option En)(b:FS):List W->En->VH->Res Fl
 |[],ρ,h=>.ok (.nx ρ) h
 |w::r,ρ,h=>match tg w h ρ with
  |none=>.no
  |some ρ=>(b ρ h).bind λfl h=>match fl with
   |.nx ρ=>forL tg b r ρ h
   |.ct ρ=>forL tg b r ρ h
   |.bk ρ=>.ok (.nx ρ) h
   |.rt w=>.ok (.rt w) h
noncomputable def uF(tg:W->VH->En->Option En)(c e:FE):List W->En->VH->Res (List W)
 |[],_,h=>.ok [] h
 |w::r,ρ,h=>match tg w h ρ with
  |none=>.no
  |some ρ=>(c ρ h).bind λb h=>match b with
   |.bl true=>(e ρ h).bind λy h=>(uF tg c e r ρ h).bind λys h=>.ok (y::ys) h
   |.bl false=>uF tg c e r ρ h
   |_=>.no
theorem bind_assoc{α β γ:Type}{r:Res α}{f:α->VH->Res β}{g:β->VH->Res γ}:(r.bind f).bind g=r.bind λa h=>(f a h).bind g:=by cases r<;>rfl
theorem NU{nx:Nat->VH->Option (Option W)}{tg:W->VH->En->Option En}{b:FS}{ws:List W}(hx:∀i h,nx i h=aB ws[i]?):∀(fu i:Nat) (ρ:En) (h:VH),i<=ws.length->ws.length<fu+i->eE nx tg b fu i ρ h=forL tg b (ws.drop i) ρ h
 |0,i,ρ,h,hi,hl=>by lia
 |fu+1,i,ρ,h,hi,hl=>by
  simp only[eE,hx];cases q:ws[i]? with
  |none=>
   rw[yM (nM.mp q)];rfl
  |some w=>
   obtain⟨hi,e⟩:=gA.mp q;rw[yL hi,e];simp only[forL];cases tg w h ρ with
   |none=>rfl
   |some ρ'=>
    simp only;congr 1;funext fl h1;cases fl<;>simp only[NU hx fu (i+1) _ _ hi (by lia)]
theorem Jg{nx:Nat->VH->Option (Option W)}{tg:W->VH->En->Option En}{c e:FE}{ws:List W}(hx:∀i h,nx i h=aB ws[i]?):∀(fu i:Nat) (ρ:En) (h:VH) (acc:List W),i<=ws.length->ws.length<fu+i->
 gC nx tg c e fu i ρ h acc=(uF tg c e (ws.drop i) ρ h).bind λys h=>.ok (acc.reverse++ys) h
 |0,i,ρ,h,acc,hi,hl=>by lia
 |fu+1,i,ρ,h,acc,hi,hl=>by
  simp only[gC,hx];cases q:ws[i]? with
  |none=>
   rw[yM (nM.mp q)];simp[uF]
  |some w=>
   obtain⟨hi,ee⟩:=gA.mp q;rw[yL hi,ee];simp only[uF];cases tg w h ρ with
   |none=>rfl
   |some ρ'=>
    simp only[bind_assoc];congr 1;funext bv h1;cases bv<;>try rfl
    rename_i bb;cases bb with
    |true=>
     simp only[bind_assoc];congr 1;funext y h2;rw[Jg hx fu (i+1) _ _ _ hi (by lia)];congr 1;funext ys h3;simp
    |false=>simp only[Jg hx fu (i+1) _ _ _ hi (by lia)]
theorem NV{ws:List W}{tg:W->VH->En->Option En}{b:FS}{ρ:En}{h:VH}(hl:ws.length<1000000):eE (aZ .seq (.tup ws)) tg b fuel 0 ρ h=forL tg b ws ρ h:=by have:=NU (nx:=aZ .seq (.tup ws)) (tg:=tg) (b:=b) (ws:=ws) (λi h=>rfl) fuel 0 ρ h (kT _) (by simpa[fuel]using hl);simpa using this
noncomputable def isInt:W->Bool|.int _=>true|_=>false
noncomputable def Kn(h:VH)(w:W):Prop:=dN .int h w≠aC
theorem BX{h:VH}{l:Nat}{w:W}:Kn ⟨h.n,l,h.os⟩ w↔Kn h w:=by unfold Kn;cases w<;>simp[dN]
section
variable{F:Nat->Option Fn}
noncomputable def within(w:W)(lo hi:Int):Bool:=match w with|.int i=>decide (lo<=i)&&decide (i<=hi)|_=>false
noncomputable def pI(w:W)(lo hi:Int):Bool:=match w with|.tup ws=>decide (lo<=ws.length)&&decide ((ws.length:Int)<=hi)|_=>false
end
noncomputable def gv:Nat->W->Bool
 |0,_=>false
 |n+1,w=>match w with
  |.aQ=>true
  |.bl _=>true
  |.int _=>true
  |.str x=>PyData.strOk x
  |.tup ws=>ws.all (gv n)
  |_=>false
theorem NW{f:W->Option aA}{p:W->Bool}{n:Nat}(h:∀w,p w=true->∃d,f w=aB d/\d.canLay0=true/\d.depth<=n):∀ws:List W,ws.all p=true->∃ds,aT f ws=aB ds/\PyData.canLayAll0 ds=true/\PyData.depthAll ds<=n
 |[],_=>⟨[],rfl,rfl,kT _⟩
 |w::r,e=>by
  rw[sY,bY]at e;obtain⟨d,h1,h2,h3⟩:=h w e.1;obtain⟨ds,h4,h5,h6⟩:=NW h r e.2;refine⟨d::ds,by simp[aT,h1,h4],?_,?_⟩;show(d.canLay0&&PyData.canLayAll0 ds)=true;rw[h2,h5];rfl;show max d.depth (PyData.depthAll ds)<=n;lia
theorem E6(h:VH):∀(n:Nat) (w:W),gv n w=true->∃d,toD h n w=aB d/\d.canLay0=true/\d.depth<=n
 |0,_,e=>by cases e
 |n+1,w,e=>by
  cases w<;>simp only[gv]at e<;>try(cases e;done)
  exact⟨.none,rfl,rfl,kT _⟩;exact⟨.bool _,rfl,rfl,kT _⟩;exact⟨.int _,rfl,rfl,kT _⟩;exact⟨.str _,rfl,e,kT _⟩;obtain⟨ds,h1,h2,h3⟩:=NW (E6 h n) _ e;exact⟨.tuple ds,by simp[toD,h1],h2,by show PyData.depthAll ds+1<=n+1;lia⟩
mutual
theorem NX:∀d:aA,d.canLay0=true->PyData.eqv d d=true
 |.none,_=>rfl
 |.bool b,_=>by simp[PyData.eqv]
 |.int i,_=>by simp[PyData.eqv]
 |.str x,_=>by simp[PyData.eqv]
 |.list xs,h=>by
  simp only[PyData.eqv];exact Jh xs h
 |.tuple xs,h=>by
  simp only[PyData.eqv];exact Jh xs h
 |.dict _,h=>by cases h
theorem Jh:∀ds:List aA,PyData.canLayAll0 ds=true->PyData.eqvAll ds ds=true
 |[],_=>rfl
 |d::ds,h=>by
  have h:(d.canLay0&&PyData.canLayAll0 ds)=true:=h;rw[bY]at h;simp only[PyData.eqvAll,NX d h.1,Jh ds h.2,Bool.and_self]
end
theorem zzk{h:VH}{w:W}(p:gv 24 w):dj h w w=aB true:=by
 obtain⟨d,h1,h2,h3⟩:=E6 h 24 w p;have hs:SeqAt.shaped d=true:=by unfold SeqAt.shaped;rw[h2,Bool.true_and,iB];lia
 unfold dj;rw[h1];simp[hs,NX d h2]
noncomputable def mD(w:W)(x:Str):Bool:=match w with|.str y=>y==x|_=>false
theorem NY{h:VH}{w:W}{x:Str}(p:gv 24 w)(hx:PyData.strOk x):dj h w (.str x)=aB (mD w x):=by
 obtain⟨d,h1,h2,h3⟩:=E6 h 24 w p;have hs:SeqAt.shaped d=true:=by unfold SeqAt.shaped;rw[h2,Bool.true_and,iB];lia
 have hs2:SeqAt.shaped (.str x)=true:=by unfold SeqAt.shaped;show(PyData.strOk x&&_)=true;rw[hx];rfl
 unfold dj;rw[h1];have h4:toD h 24 (.str x)=aB (.str x):=rfl;rw[h4];simp only[hs,hs2,Bool.and_self,cC];cases w<;>simp only[toD]at h1<;>try(cases h1;done)
 cases h1;simp[mD,PyData.eqv];cases h1;simp[mD,PyData.eqv];cases h1;simp[mD,PyData.eqv];cases h1;simp[mD,PyData.eqv];obtain⟨ds,h5,h6⟩:=Option.map_eq_some_iff.mp h1;subst h6;simp[mD,PyData.eqv];simp[gv]at p;simp[gv]at p
theorem E7{n:Nat}{ws:List W}:gv (n+1) (.tup ws)=ws.all (gv n):=rfl
theorem zyw:fF .aQ=true:=rfl
noncomputable def E8(w:W)(n:Int):Bool:=fF w||within w 0 (n-1)
noncomputable def door(w:W)(n:Int):Bool:=match w with|.tup [a,b]=>within a 0 99&&E8 b n|_=>false
noncomputable def wL(w:W)(g:Int):Bool:=match w with|.tup [a,b]=>within a 0 (g-1)&&within b 0 1|_=>false
noncomputable def jX(w:W)(c wd g:Int):Bool:=
 if mD w "x" || wL w g then decide (0<c)&&decide (c<wd-1)else if mD w "<"then decide (0<c)else if mD w ">"then decide (c<wd-1)else mD w "." || mD w "s"
section
variable{F:Nat->Option Fn}
theorem Xa:PyData.strOk (Str.ofString "x")=true:=by decide +kernel
theorem Xb:PyData.strOk (Str.ofString "<")=true:=by decide +kernel
theorem Xc:PyData.strOk (Str.ofString ">")=true:=by decide +kernel
theorem Xd:PyData.strOk (Str.ofString ".")=true:=by decide +kernel
theorem Xe:PyData.strOk (Str.ofString "s")=true:=by decide +kernel
end
structure Bd where
 wd:Int
 gr:Int
 rows:List (List W)
 fd:List W
 dr:List W
noncomputable def Bd.w(B:Bd):W:=.tup [.int B.wd,.int B.gr,.tup (B.rows.map .tup),.tup B.fd,.tup B.dr]
noncomputable def dz(wd g:Int):Int->List W->Prop|_,[]=>True|c,w::r=>jX w c wd g=true/\dz wd g (c+1) r
structure Bd.Ok(B:Bd):Prop where
 w1:1<=B.wd
 w2:B.wd<=40
 g1:0<=B.gr
 g2:B.gr<=8
 r1:B.rows.length<=60
 r2:∀r∈B.rows,(r.length:Int)=B.wd/\dz B.wd B.gr 0 r
 f1:1<=B.fd.length
 f2:B.fd.length<=4
 f3:∀f∈B.fd,within f 0 (B.wd-1)=true
 d1:(B.dr.length:Int)=B.wd
 d2:∀d∈B.dr,door d B.fd.length=true
theorem Xf{w:W}{g:Int}(h:wL w g)(n:Nat):gv (n+2) w=true:=by
 cases w<;>simp only[wL]at h<;>try(cases h;done)
 rename_i us;rcases us with _|⟨a,_|⟨b,_|_⟩⟩<;>simp at h
 obtain⟨h1,h2⟩:=h;cases a<;>simp[within]at h1;cases b<;>simp[within]at h2;rfl
theorem yt{w:W}{x:Str}(h:mD w x):w=.str x:=by cases w<;>simp[mD]at h;rw[h]
theorem Xg{w:W}{c wd g:Int}(h:jX w c wd g)(n:Nat):gv (n+2) w=true:=by
 have st:∀x:Str,PyData.strOk x=true->mD w x=true->gv (n+2) w=true:=λx hx e=>by rw[yt e];exact hx
 unfold jX at h;split at h;rename_i q;rw[pU]at q;rcases q with q|q
 exact st _ (by decide +kernel) q;exact Xf q n;split at h;rename_i q;exact st _ (by decide +kernel) q;split at h;rename_i q;exact st _ (by decide +kernel) q;rw[pU]at h;rcases h with q|q
 exact st _ (by decide +kernel) q;exact st _ (by decide +kernel) q
structure kJ(F:Nat->Option Fn):Prop where
 f2:F 2=aB EO
 f3:F 3=aB BO
 f4:F 4=aB IQ
 f5:F 5=aB rQ
theorem uG{h:VH}{i j:Int}:dj h (.int i) (.int j)=aB (decide (i=j)):=by unfold dj;simp only[toD];show aB (i==j)=_;by_cases q:i=j<;>simp[q]
theorem Ji{i:Int}(h1:-(2 ^ 63)<=i)(h2:i<2 ^ 63):jU i=true:=by unfold jU;simp only[bY,iB];lia
theorem nX{h:VH}{i:Nat}{o o0:VO}(g:h.get i=aB o0):(h.set i o).get i=aB o:=by have hi:=cg g;unfold VH.get at g;rw[if_pos (gO.mpr hi)]at g;have hl:=(gA.mp g).1;unfold VH.get VH.set;simp only[if_pos (gO.mpr hi)];rw[uT hl]
theorem yu{h:VH}{i j:Nat}{o o0:VO}(g:h.get i=aB o0)(hj:j≠i):(h.set i o).get j=h.get j:=nV (cg g) hj
structure Dk(h:VH)(d c:Nat)(b:Nat):Prop where
 ne:d≠c
 st:∃(ns cells:List Int) (p q:Int),h.get d=aB (.lst [.fz (ns.map .int),.ref c,.int p,.int q])/\h.get c=aB (.lst (cells.map .int))/\(∀x∈cells,(0:Int)<=x)/\0<=p/\0<=q/\q<=b/\cells.length<=63
theorem Dk.mono{h:VH}{d c b b':Nat}(D:Dk h d c b)(hb:b<=b'):Dk h d c b':=by obtain⟨ne,ns,cells,p,q,a1,a2,a3,a4,a5,a6,a7⟩:=D;exact⟨ne,ns,cells,p,q,a1,a2,a3,a4,a5,by lia,a7⟩
structure BY(h h':VH)(d c:Nat):Prop where
 le:h.n<=h'.n
 get:∀i o,i≠d->i≠c->h.get i=aB o->h'.get i=aB o
theorem Jj(i:Int):(if i<0 then -i else i)=(i.natAbs:Int):=by split<;>lia
section
variable{F:Nat->Option Fn}(C:kJ F)
include C
theorem cell{k:Nat}{h:VH}{ns:List Int}{j:Int}(hj:0<=j):∃r,run F (k+1) 2 [.fz (ns.map .int),.int j] h=.ok (.int r) h/\0<=r:=by
 rw[iF C.f2 rfl];cases ns with
 |nil=>
  refine⟨7*j+3,?_,by lia⟩;simp[EO,exs,ev,mh,jf,aV,bJ,uG,iE,gH,Ji,jl]
 |cons n0 sJ=>
  have hl:(0:Int)< ((n0::sJ).length:Int):=by simp only[cY];lia
  have hm1:=Dr j (show((n0::sJ).length:Int)≠0 by lia);have hm2:=Dq j hl;obtain⟨m,hm⟩:=xN hm1;have hml:m< (n0::sJ).length:=by lia
  have ha:fE (List.map W.int (n0::sJ)) (j % ((n0::sJ).length:Int))=aB (.int ((n0::sJ)[m])):=by rw[hm];exact lu (by rw[dG,cN hml];rfl)
  have hb:¬(((sJ.length:Int)+1)=0):=by lia
  have hp:(0:Int)< (sJ.length:Int)+1:=by lia
  refine⟨(((n0::sJ)[m]).natAbs:Int),?_,by lia⟩;simp only[cY,Int.natCast_add,Int.cast_ofNat_Int,dH]at ha;simp[EO,exs,ev,mh,jf,aV,bJ,uG,iE,gH,jl,bR,lC,hb,hp,ha,Jj]
theorem mixed{k:Nat}{h:VH}{ns:List Int}{j m:Int}(hj:0<=j)(hj2:j<=1000000000)(hm:0<m):∃r,run F (k+2) 4 [.fz (ns.map .int),.int j,.int m] h=.ok (.int r) h/\0<=r/\r<m:=by
 rw[iF C.f4 rfl];obtain⟨c,e1,hc⟩:=cell C (k:=k) (h:=⟨h.n,h.n,h.os⟩) (ns:=ns) hj;have h1:=Dr c (show(1000003:Int)≠0 by decide);have h2:=Dq c (show(0:Int)<1000003 by decide);generalize hx:c % 1000003=x at h1 h2;have s1:jU (x+5)=true:=Ji (by lia) (by lia);have s2:jU 7919=true:=Ji (by decide) (by decide);have hb:(x+5)* (j+2)<=1000008*1000000002:=Int.mul_le_mul (by lia) (by lia) (by lia) (by lia);have hb0:0<=(x+5)* (j+2):=Int.mul_nonneg (by lia) (by lia);generalize hy:(x+5)* (j+2)=y at hb hb0;have hn:(y+7919*j).natAbs<2 ^ 64:=by lia
 refine⟨(y+7919*j) ^ 5 % 2147483647/13 % m,?_,Dr _ (by lia),Dq _ hm⟩;have hn':(y+7919*j).natAbs<18446744073709551616:=by lia
 simp[IQ,exs,ev,e1,iE,gH,hx,s1,s2,hy,hn',hm,jl]
theorem NZ{k:Nat}{d c:Nat}{m q:Int}{ns:List Int}(hdc:d≠c)(hm:0<m)(hm2:m<1073741824):∀(n f:Nat) (g:VH) (x:Option W) (cells:List Int) (p:Int),n<f->(cells.length:Int)-p<=n->0<=p->(∀y∈cells,(0:Int)<=y)->
 g.get d=aB (.lst [.fz (ns.map .int),.ref c,.int p,.int q])->g.get c=aB (.lst (cells.map .int))->
 ∃(g':VH) (cells':List Int) (p':Int),0<=p'/\(∀y∈cells',(0:Int)<=y)/\cells'.length=cells.length/\g'.get d=aB (.lst [.fz (ns.map .int),.ref c,.int p',.int q])/\g'.get c=aB (.lst (cells'.map .int))/\g'.n=g.n/\(∀i,i≠d->i≠c->g'.get i=g.get i)/\
  ((∃r,dY (ev (run F (k+2)) BP) (exs (run F (k+2)) wu) f [aB (.ref d),aB (.int m),x] g=.ok (.rt (.int r)) g'/\0<=r/\r<m)\/∃y,dY (ev (run F (k+2)) BP) (exs (run F (k+2)) wu) f [aB (.ref d),aB (.int m),x] g=.ok (.nx [aB (.ref d),aB (.int m),y]) g')
 |n,0,g,x,cells,p,hf,_,_,_,_,_=>by lia
 |n,f+1,g,x,cells,p,hf,hn,hp,hnn,gd,gc=>by
  have ec:ev (run F (k+2)) BP [aB (.ref d),aB (.int m),x] g=.ok (.bl (decide (p<cells.length))) g:=by simp[BP,ev,bR,gd,fE,i8,mh,jf,aV,gc,bJ,kC]
  by_cases hlt:p<cells.length;obtain⟨pn,rfl⟩:=xN hp;have hpl:pn<cells.length:=by lia
  have hat:fE (cells.map W.int) (pn:Int)=aB (.int cells[pn]):=lu (by rw[dG,cN hpl];rfl);by_cases hpos:0<cells[pn];refine⟨g.set c (.lst ((cells.set pn (cells[pn]/m)).map .int)),cells.set pn (cells[pn]/m),pn,hp,?_,by simp,?_,nX gc,rfl,λi _ hi=>yu gc hi,.inl ⟨cells[pn] % m,?_,Dr _ (by lia),Dq _ hm⟩⟩;intro y hy;rcases List.mem_or_eq_of_mem_set hy with hy|rfl
  exact hnn y hy;exact Int.ediv_nonneg (by lia) (by lia);rw[yu gc hdc];exact gd;have hix:i8 (cells.map W.int).length (pn:Int)=aB pn:=by unfold i8;rw[if_pos (by lia),if_pos (by rw[bG];lia)];simp
  have eb:exs (run F (k+2)) wu [aB (.ref d),aB (.int m),x] g=.ok (.rt (.int (cells[pn] % m))) (g.set c (.lst ((cells.set pn (cells[pn]/m)).map .int))):=by have h2:fE [W.fz (ns.map .int),.ref c,.int pn,.int q] 2=aB (.int pn):=rfl;have h1:fE [W.fz (ns.map .int),.ref c,.int pn,.int q] 1=aB (.ref c):=rfl;simp[wu,exs,ev,bR,gd,h1,h2,gc,hat,bJ,kC,hpos,iE,gH,hm,hm2]at hix ⊢;simp[hix,hm,List.map_set]
  simp[dY,ec,hlt,eb];have gs:(g.set d (.lst [.fz (ns.map .int),.ref c,.int ((pn:Int)+1),.int q])).get c=aB (.lst (cells.map .int)):=by rw[yu gd (eZ hdc)];exact gc
  cases n with
  |zero=>lia
  |succ n=>
   obtain⟨g',cells',p',a1,a2,a3,a4,a5,a6,a7,a8⟩:=NZ (k:=k) hdc hm hm2 n f (g.set d (.lst [.fz (ns.map .int),.ref c,.int ((pn:Int)+1),.int q])) (aB (.int cells[pn])) cells (pn+1) (by lia) (by lia) (by lia) hnn (nX gd) gs;have eb:exs (run F (k+2)) wu [aB (.ref d),aB (.int m),x] g=.ok (.nx [aB (.ref d),aB (.int m),aB (.int cells[pn])]) (g.set d (.lst [.fz (ns.map .int),.ref c,.int ((pn:Int)+1),.int q])):=by have h2:fE [W.fz (ns.map .int),.ref c,.int pn,.int q] 2=aB (.int pn):=rfl;have h1:fE [W.fz (ns.map .int),.ref c,.int pn,.int q] 1=aB (.ref c):=rfl;have h3:i8 4 2=aB 2:=rfl;simp[wu,exs,ev,bR,gd,h1,h2,h3,gc,hat,bJ,kC,hpos,iE,gH]
   refine⟨g',cells',p',a1,a2,a3,a4,a5,a6,λi h1 h2=>by rw[a7 i h1 h2,yu gd h1],?_⟩;rcases a8 with⟨r,e,h3⟩|⟨y,e⟩
   exact .inl ⟨r,by simp[dY,ec,hlt,eb,e],h3⟩;exact .inr ⟨y,by simp[dY,ec,hlt,eb,e]⟩
  exact⟨g,cells,p,hp,hnn,rfl,gd,gc,rfl,λ_ _ _=>rfl,.inr ⟨x,by simp[dY,ec,hlt]⟩⟩
omit C in
theorem Xh{h h':VH}{w:W}(g:fO ⟨h.n,h.n,h.os⟩ h'):∃h2,leave h w h'=.ok w h2/\h.n<=h2.n/\∀i,i<h.n->h2.get i=h'.get i:=by
 unfold leave;split;rename_i q;rw[bY]at q;have hlo:=k9 q.1;exact⟨h,rfl,bg _,λi hi=>by
  rw[g.2.2 i hi (dI hi hlo)];exact dw.symm⟩
 exact⟨_,rfl,g.1,λi hi=>dw⟩
theorem take{k:Nat}{h:VH}{d c b:Nat}{m:Int}(D:Dk h d c b)(hb:b<1000000000)(hm:0<m)(hm2:m<1073741824):∃r h',run F (k+3) 5 [.ref d,.int m] h=.ok (.int r) h'/\0<=r/\r<m/\Dk h' d c (b+1)/\BY h h' d c:=by
 rw[iF C.f5 rfl];obtain⟨hne,ns,cells,p,q,gd,gc,hnn,hp,hq,hqb,hl⟩:=D;have Xi:VH.get ⟨h.n,h.n,h.os⟩ d=aB (.lst [.fz (ns.map .int),.ref c,.int p,.int q]):=by rw[dw];exact gd
 have Xj:VH.get ⟨h.n,h.n,h.os⟩ c=aB (.lst (cells.map .int)):=by rw[dw];exact gc
 obtain⟨g',cells',p',a1,a2,a3,a4,a5,a6,a7,a8⟩:=NZ C (k:=k) hne hm hm2 63 fuel ⟨h.n,h.n,h.os⟩ aC cells p (by decide) (by lia) hp hnn Xi Xj;have key:∀(g2:VH)(r:Int)(iU:List Int)(p2 q2:Int),exs (run F (k+2)) rQ.body [aB (.ref d),aB (.int m),aC] ⟨h.n,h.n,h.os⟩=.ok (.rt (.int r)) g2->0<=r->r<m->0<=p2->0<=q2->q2<=b+1->iU.length<=63->(∀y∈iU,(0:Int)<=y)->
  g2.get d=aB (.lst [.fz (ns.map .int),.ref c,.int p2,.int q2])->g2.get c=aB (.lst (iU.map .int))->(∀i,i<h.n->i≠d->i≠c->g2.get i=h.get i)->
  ∃r h',fin h (exs (run F (k+2)) rQ.body ([W.ref d,W.int m].map aB++bV (rQ.n-rQ.ps) aC) ⟨h.n,h.n,h.os⟩)=.ok (.int r) h'/\0<=r/\r<m/\Dk h' d c (b+1)/\BY h h' d c:=by
  intro g2 r iU p2 q2 e r1 r2 b1 b2 b3 b4 b5 b6 b7 b8;obtain⟨h2,e2,hn2,vX⟩:=Xh (w:=.int r) (Io (Ip F (k+2)) _ _ _ _ _ e);refine⟨r,h2,?_,r1,r2,⟨hne,ns,iU,p2,q2,?_,?_,b5,b1,b2,by lia,b4⟩,⟨hn2,λi o h1 h3 e3=>?_⟩⟩;show fin h (exs (run F (k+2)) rQ.body [aB (.ref d),aB (.int m),aC] ⟨h.n,h.n,h.os⟩)=_;rw[e];exact e2;rw[vX d (cg gd)];exact b6;rw[vX c (cg gc)];exact b7;rw[vX i (cg e3),b8 i (cg e3) h1 h3];exact e3
 rcases a8 with⟨r,e,r1,r2⟩|⟨y,e⟩;refine key g' r cells' p' q ?_ r1 r2 a1 hq (by lia) (by lia) a2 a4 a5 λi hi h1 h2=>by rw[a7 i h1 h2,dw]
 simp[rQ,exs,e];obtain⟨r,e2,r1,r2⟩:=mixed C (k:=k) (h:=g'.set d (.lst [.fz (ns.map .int),.ref c,.int p',.int (q+1)])) (ns:=ns) (j:=q+1) (m:=m) (by lia) (by lia) hm;refine key (g'.set d (.lst [.fz (ns.map .int),.ref c,.int p',.int (q+1)])) r cells' p' (q+1) ?_ r1 r2 a1 (by lia) (by lia) (by lia) a2 (nX a4) (by rw[yu a4 (eZ hne)];exact a5) λi hi h1 h2=>by rw[yu a4 h1,a7 i h1 h2,dw]
 have h3:fE [W.fz (ns.map .int),.ref c,.int p',.int q] 3=aB (.int q):=rfl;have h30:fE [W.fz (ns.map .int),.ref c,.int p',.int (q+1)] 3=aB (.int (q+1)):=rfl;have Xk:fE [W.fz (ns.map .int),.ref c,.int p',.int (q+1)] 0=aB (.fz (ns.map .int)):=rfl;have Xl:i8 4 3=aB 3:=rfl;have hs:=nX (o:=.lst [.fz (ns.map .int),.ref c,.int p',.int (q+1)]) a4;simp[rQ,exs,e,ev,bR,a4,h3,iE,gH,Xl,hs,h30,Xk,e2]
end
theorem bE{cl:Call}{a b:S}{ρ ρ':En}{h h':VH}(e:exs cl a ρ h=.ok (.nx ρ') h'):exs cl (.seq a b) ρ h=exs cl b ρ' h':=by simp only[exs,e,aD]
theorem k6{cl:Call}{a b:S}{ρ:En}{w:W}{h h':VH}(e:exs cl a ρ h=.ok (.rt w) h'):exs cl (.seq a b) ρ h=.ok (.rt w) h':=by simp only[exs,e,aD]
@[simp] theorem BZ {cl:Call} {ρ:En} {h:VH}:exs cl .skip ρ h=.ok (.nx ρ) h:=rfl
theorem Dk.new{h:VH}{d c b:Nat}{o:VO}(D:Dk h d c b):Dk (h.new o) d c b:=by obtain⟨ne,ns,cells,p,q,a1,a2,a3⟩:=D;exact⟨ne,ns,cells,p,q,by rw[ig (cg a1)];exact a1,by rw[ig (cg a2)];exact a2,a3⟩
theorem Dk.lo{h:VH}{d c b l:Nat}(D:Dk h d c b):Dk ⟨h.n,l,h.os⟩ d c b:=by obtain⟨ne,ns,cells,p,q,a1,a2,a3⟩:=D;exact⟨ne,ns,cells,p,q,by rw[dw];exact a1,by rw[dw];exact a2,a3⟩
theorem Jk{cl:Call}{a b:E}{ρ:En}{h:VH}{x y:Bool}(ea:ev cl a ρ h=.ok (.bl x) h)(eb:ev cl b ρ h=.ok (.bl y) h):ev cl (.or a b) ρ h=.ok (.bl (x||y)) h:=by rw[ev,ea,aD];cases x;exact eb;rfl
noncomputable abbrev dU:Str:=Str.ofString "."
noncomputable abbrev fJ:Str:=Str.ofString "<"
noncomputable abbrev jY:Str:=Str.ofString ">"
noncomputable abbrev sX:Str:=Str.ofString "x"
noncomputable abbrev sS:Str:=Str.ofString "s"
theorem wM{cl:Call}:ev cl (.cst (.bl true))=λ_ h=>.ok (.bl true) h:=rfl
theorem nC{n:Nat}(h:n<=1000000):Nat.ble n big=true:=qL.mpr (gF h (by decide))
theorem wN{n:Nat}(h:n<=1000000):Nat.blt n big=true:=gO.mpr (Dg h (by decide))
theorem N1{cl:Call}{i l:Nat}{x:E}{ρ:En}{h h1:VH}{w:W}{acc wO:List W}(lI:ρ[i]?=aB (aB (.ref l)))(g0:h.get l=aB (.lst wO))(e:ev cl x ρ h=.ok w h1)(g:h1.get l=aB (.lst acc))(hl:acc.length<=1000000) :
 ev cl (.mt .append (.var i) (.cons x .nil)) ρ h=.ok .aQ (h1.set l (.lst (acc++[w]))):=by
 have hk:kE .append h (.ref l)=true:=by simp only[kE,g0]
 have hm:jV .append (.ref l) [w] h1=.ok .aQ (h1.set l (.lst (acc++[w]))):=by simp only[jV,g];rw[if_pos (wN hl)]
 simp only[ev,lI,nR,bO,aD,hk,cC,e,hm]
theorem Xm{w:W}{g:Int}(h:wL w g):∃a b:Int,w=.tup [.int a,.int b]/\0<=a/\a<g/\0<=b/\b<2:=by
 cases w<;>simp only[wL]at h<;>try(cases h;done)
 rename_i us;rcases us with _|⟨a,_|⟨b,_|_⟩⟩<;>simp at h
 obtain⟨h1,h2⟩:=h;cases a<;>simp[within]at h1;cases b<;>simp[within]at h2;exact⟨_,_,rfl,by lia,by lia,by lia,by lia⟩
theorem Xn{wd g g':Int}{f:W->W}(hf:∀w c,jX w c wd g=true->jX (f w) c wd g'):∀{ws:List W} {c:Int},dz wd g c ws->dz wd g' c (ws.map f)|[],_,_=>trivial|_::_,_,⟨h1,h2⟩=>⟨hf _ _ h1,Xn hf h2⟩
theorem Xo{w:W}{n:Int}(h:door w n):∃(a:Int) (b:W),w=.tup [.int a,b]/\0<=a/\a<=99/\(b=.aQ\/∃i:Int,b=.int i/\0<=i/\i<n):=by
 cases w<;>simp only[door]at h<;>try(cases h;done)
 rename_i us;rcases us with _|⟨a,_|⟨b,_|_⟩⟩<;>simp at h
 obtain⟨h1,h2⟩:=h;cases a<;>simp[within]at h1;unfold E8 at h2;cases b<;>simp[within,fF]at h2;exact⟨_,_,rfl,h1.1,h1.2,.inl rfl⟩;exact⟨_,_,rfl,h1.1,h1.2,.inr ⟨_,rfl,by lia,by lia⟩⟩
theorem N2{wd g:Int}{n:Nat}:∀{ws:List W} {c:Int},dz wd g c ws->ws.all (gv (n+2))=true|[],_,_=>rfl|_::_,_,⟨h1,h2⟩=>by rw[sY,Xg h1,N2 h2];rfl
theorem Xp{B:Bd}(b:B.Ok):gv 24 B.w=true:=by
 have h1:(B.rows.map W.tup).all (gv 22)=true:=by rw[i6];intro w hw;obtain⟨r,hr,rfl⟩:=jb.mp hw;exact N2 (n:=19) (b.r2 r hr).2
 have h2:B.fd.all (gv 22)=true:=by rw[i6];intro w hw;have:=b.f3 w hw;cases w<;>simp[within]at this;rfl
 have h3:B.dr.all (gv 22)=true:=by rw[i6];intro w hw;obtain⟨a,c,rfl,_,_,h⟩:=Xo (b.d2 w hw);rcases h with rfl|⟨i,rfl,_⟩<;>rfl
 show(gv 23 (.int B.wd)&& (gv 23 (.int B.gr)&& (gv 23 (.tup (B.rows.map .tup))&& (gv 23 (.tup B.fd)&& (gv 23 (.tup B.dr)&&true)))))=true;rw[E7,E7,E7,h1,h2,h3];rfl
noncomputable def bM(w:W)(hd:Int)(ls:List Int):Option (Int×List Int×List Int):=match w with|.tup [.int g,.int s]=>aB (if ls.getD g.toNat 0=s then -1 else 1,[g],ls.set g.toNat (1-ls.getD g.toNat 0))|.str x=>if x==sS then aC else if x==sX then aB (hd,[],ls)else if x==dU then aB (0,[],ls)else aB (if x==fJ then -1 else 1,[],ls)|_=>aC
noncomputable def bA(r:List W)(c:Int):W:=(r[c.toNat]?).getD .aQ
structure Fa where
 cs:List Int
 ts:List Int
 ls:List Int
 st:Bool
noncomputable def aH:List (List W)->Int->Int->List Int->Fa
 |[],_,_,ls=>⟨[],[],ls,false⟩
 |r::rs,c,hd,ls=>match bM (bA r c) hd ls with
  |none=>⟨[],[],ls,true⟩
  |some (d,t,l)=>⟨(c+d):: (aH rs (c+d) d l).cs,t++(aH rs (c+d) d l).ts,(aH rs (c+d) d l).ls,(aH rs (c+d) d l).st⟩
noncomputable def bH:Int->List Int->Int|c,[]=>c|_,x::r=>bH x r
noncomputable def fC(ls:List Int):Prop:=∀x∈ls,x=0\/x=1
theorem B0{w:W}{c wd g:Int}(h:jX w c wd g):(w=.str sX/\0<c/\c<wd-1)\/(w=.str fJ/\0<c)\/(w=.str jY/\c<wd-1)\/w=.str dU\/w=.str sS\/∃a b:Nat,w=.tup [.int a,.int b]/\(a:Int)<g/\b<2/\0<c/\c<wd-1:=by
 unfold jX at h;split at h;rename_i q;rw[bY,iB,iB]at h;rw[pU]at q;rcases q with q|q
 exact .inl ⟨yt q,h⟩;obtain⟨a,b,rfl,h1,h2,h3,h4⟩:=Xm q;obtain⟨a,rfl⟩:=xN h1;obtain⟨b,rfl⟩:=xN h3;exact .inr (.inr (.inr (.inr (.inr ⟨a,b,rfl,h2,by lia,h⟩))));split at h;rename_i q;exact .inr (.inl ⟨yt q,by simpa using h⟩);split at h;rename_i q;exact .inr (.inr (.inl ⟨yt q,by simpa using h⟩));rw[pU]at h;rcases h with q|q
 exact .inr (.inr (.inr (.inl (yt q))));exact .inr (.inr (.inr (.inr (.inl (yt q)))))
theorem E9{hd:Int}{ls:List Int}:bM (.str sX) hd ls=aB (hd,[],ls):=rfl
theorem Fb{hd:Int}{ls:List Int}:bM (.str fJ) hd ls=aB (-1,[],ls):=rfl
theorem Fc{hd:Int}{ls:List Int}:bM (.str jY) hd ls=aB (1,[],ls):=rfl
theorem Fd{hd:Int}{ls:List Int}:bM (.str dU) hd ls=aB (0,[],ls):=rfl
theorem Fe{hd:Int}{ls:List Int}:bM (.str sS) hd ls=aC:=rfl
theorem Ff{hd:Int}{ls:List Int}{a b:Nat}:bM (.tup [.int a,.int b]) hd ls=aB (if ls.getD a 0=b then -1 else 1,[(a:Int)],ls.set a (1-ls.getD a 0)):=rfl
theorem Xq{ls:List Int}(h:fC ls)(a:Nat):ls.getD a 0=0\/ls.getD a 0=1:=by
 rw[jS];cases q:ls[a]? with|none=>exact .inl rfl|some x=>exact h x (kQ q)
theorem Jl{w:W}{c wd g hd:Int}{ls:List Int}(h:jX w c wd g)(c0:0<=c)(c1:c<wd)(h1:-1<=hd)(h2:hd<=1)(b:fC ls){d:Int}{t l:List Int}(e:bM w hd ls=aB (d,t,l)):-1<=d/\d<=1/\0<=c+d/\c+d<wd/\l.length=ls.length/\fC l/\t.length<=1:=by rcases B0 h with⟨rfl,h3,h4⟩|⟨rfl,h3⟩|⟨rfl,h3⟩|rfl|rfl|⟨p,q,rfl,h3,h4,h5,h6⟩;rw[E9]at e;cases e;exact⟨h1,h2,by lia,by lia,rfl,b,by simp⟩;rw[Fb]at e;cases e;exact⟨by lia,by lia,by lia,by lia,rfl,b,by simp⟩;rw[Fc]at e;cases e;exact⟨by lia,by lia,by lia,by lia,rfl,b,by simp⟩;rw[Fd]at e;cases e;exact⟨by lia,by lia,by lia,by lia,rfl,b,by simp⟩;rw[Fe]at e;cases e;rw[Ff]at e;cases e;refine⟨by split<;>lia,by split<;>lia,by split<;>lia,by split<;>lia,by simp,λx hx=>?_,by simp⟩;rcases List.mem_or_eq_of_mem_set hx with hx|rfl;exact b x hx;rcases Xq b p with q|q<;>rw[q]<;>lia
noncomputable def uH(wd g:Int)(rs:List (List W)):Prop:=∀r∈rs,(r.length:Int)=wd/\dz wd g 0 r
theorem Jm{wd g:Int}:∀{ws:List W} {c:Int} (i:Nat) {w:W},dz wd g c ws->ws[i]?=aB w->jX w (c+i) wd g=true
 |[],_,_,_,_,e=>by simp at e
 |x::r,c,0,w,⟨h1,h2⟩,e=>by
  simp at e;subst e;simpa using h1
 |x::r,c,i+1,w,⟨h1,h2⟩,e=>by
  have:=Jm i h2 (by simpa using e);rw[show c+ ((i+1:Nat):Int)=c+1+i by push_cast;lia];exact this
theorem yw{wd g c:Int}{r:List W}(h:(r.length:Int)=wd/\dz wd g 0 r)(c0:0<=c)(c1:c<wd):r[c.toNat]?=aB (bA r c)/\jX (bA r c) c wd g=true:=by
 obtain⟨n,rfl⟩:=xN c0;have hn:n<r.length:=by lia
 have e:r[n]?=aB r[n]:=cN hn;have e2:bA r n=r[n]:=by unfold bA;rw[pV,e];rfl
 rw[e2,pV];refine⟨e,?_⟩;have:=Jm n h.2 e;simpa using this
structure Fa.Ok(q:Fa)(wd:Int)(c:Int)(m n:Nat):Prop where
 l1:q.ls.length=n
 l2:fC q.ls
 c1:∀x∈q.cs,0<=x/\x<wd
 c2:q.cs.length<=m
 c3:q.st=false->q.cs.length=m
 c5:q.st=true->q.cs.length<m
 c4:0<=bH c q.cs/\bH c q.cs<wd
 t1:q.ts.length<=m
theorem N3{wd g:Int}:∀(rs:List (List W)) (c hd:Int) (ls:List Int),uH wd g rs->0<=c->c<wd->-1<=hd->hd<=1->fC ls->(aH rs c hd ls).Ok wd c rs.length ls.length
 |[],c,hd,ls,_,c0,c1,_,_,b=>⟨rfl,b,by simp[aH],by simp[aH],by simp[aH],by simp[aH],⟨c0,c1⟩,by simp[aH]⟩
 |r::rs,c,hd,ls,ok,c0,c1,h1,h2,b=>by
  obtain⟨_,hm⟩:=yw (ok r eX) c0 c1;unfold aH;cases e:bM (bA r c) hd ls with
  |none=>exact⟨rfl,b,by simp,by simp,by simp,by simp,⟨c0,c1⟩,by simp⟩
  |some q=>
   obtain⟨d,t,l⟩:=q;obtain⟨a1,a2,a3,a4,a5,a6,a7⟩:=Jl hm c0 c1 h1 h2 b e;have ih:=N3 rs (c+d) d l (λr hr=>ok r (eW _ hr)) a3 a4 a1 a2 a6;refine⟨ih.l1.trans a5,ih.l2,λx hx=>?_,?_,λh=>?_,λh=>?_,ih.c4,?_⟩;rcases fV.mp hx with rfl|hx;exact⟨a3,a4⟩;exact ih.c1 x hx;simp only[cY];have:=ih.c2;lia;simp only[cY];have:=ih.c3 h;lia;simp only[cY];have:=ih.c5 h;lia;simp only[cY,eY];have:=ih.t1;lia
theorem Xr{r:List W}{rs:List (List W)}{c hd:Int}{ls:List Int}(e:bM (bA r c) hd ls=aC):aH (r::rs) c hd ls=⟨[],[],ls,true⟩:=by unfold aH;rw[e]
theorem Xs{r:List W}{rs:List (List W)}{c hd d:Int}{ls t l:List Int}(e:bM (bA r c) hd ls=aB (d,t,l)):aH (r::rs) c hd ls=⟨(c+d):: (aH rs (c+d) d l).cs,t++(aH rs (c+d) d l).ts,(aH rs (c+d) d l).ls,(aH rs (c+d) d l).st⟩:=by rw[aH,e]
noncomputable def st3(h:VH)(gs:List VO)(c t l:List W):VH:=⟨h.n+3+gs.length,h.n,gs++(.lst l :: .lst t :: .lst c::h.os)⟩
theorem wQ{h:VH}{gs:List VO}{c t l:List W}:(st3 h gs c t l).get h.n=aB (.lst c):=by unfold st3 VH.get;rw[if_pos (gO.mpr (by show h.n<h.n+3+gs.length;lia))];show(gs++(.lst l :: .lst t :: .lst c::h.os))[h.n+3+gs.length-1-h.n]?=_;rw[lR (by lia),show h.n+3+gs.length-1-h.n-gs.length=2 by lia];rfl
theorem wR{h:VH}{gs:List VO}{c t l:List W}:(st3 h gs c t l).get (h.n+1)=aB (.lst t):=by unfold st3 VH.get;rw[if_pos (gO.mpr (by show h.n+1<h.n+3+gs.length;lia))];show(gs++(.lst l :: .lst t :: .lst c::h.os))[h.n+3+gs.length-1- (h.n+1)]?=_;rw[lR (by lia),show h.n+3+gs.length-1- (h.n+1)-gs.length=1 by lia];rfl
theorem B3{h:VH}{gs:List VO}{c t l:List W}:(st3 h gs c t l).get (h.n+2)=aB (.lst l):=by unfold st3 VH.get;rw[if_pos (gO.mpr (by show h.n+2<h.n+3+gs.length;lia))];show(gs++(.lst l :: .lst t :: .lst c::h.os))[h.n+3+gs.length-1- (h.n+2)]?=_;rw[lR (by lia),show h.n+3+gs.length-1- (h.n+2)-gs.length=0 by lia];rfl
theorem N4{a b:Nat}(h:b<=a):Nat.blt a b=false:=by
 cases q:Nat.blt a b with|false=>rfl|true=>have:=gO.mp q;lia
theorem Xu{h:VH}{gs:List VO}{c t l c':List W}:(st3 h gs c t l).set h.n (.lst c')=st3 h gs c' t l:=by unfold st3 VH.set;simp only[N4 (bg h.n)];rw[List.set_append_right _ _ (by lia),show h.n+3+gs.length-1-h.n-gs.length=2 by lia];rfl
theorem Xv{h:VH}{gs:List VO}{c t l t':List W}:(st3 h gs c t l).set (h.n+1) (.lst t')=st3 h gs c t' l:=by unfold st3 VH.set;simp only[N4 (qK h.n)];rw[List.set_append_right _ _ (by lia),show h.n+3+gs.length-1- (h.n+1)-gs.length=1 by lia];rfl
theorem iA{h:VH}{x y:Str}(hx:PyData.strOk x)(hy:PyData.strOk y):dj h (.str x) (.str y)=aB (x==y):=by rw[NY (x:=y) (by exact hx) hy];rfl
@[simp] theorem Jo {h:VH}:dj h (.str sX) (.str (cj "x"))=aB true:=(iA (by decide +kernel) (by decide +kernel)).trans (by decide +kernel)
@[simp] theorem Fg {h:VH}:dj h (.str sX) (.str (cj "<"))=aB false:=(iA (by decide +kernel) (by decide +kernel)).trans (by decide +kernel)
@[simp] theorem Fi {h:VH}:dj h (.str sX) (.str (cj ">"))=aB false:=(iA (by decide +kernel) (by decide +kernel)).trans (by decide +kernel)
@[simp] theorem B4 {h:VH}:dj h (.str sX) (.str (cj "."))=aB false:=(iA (by decide +kernel) (by decide +kernel)).trans (by decide +kernel)
@[simp] theorem wU {h:VH}:dj h (.str sX) (.str (cj "s"))=aB false:=(iA (by decide +kernel) (by decide +kernel)).trans (by decide +kernel)
@[simp] theorem Fj {h:VH}:dj h (.str fJ) (.str (cj "x"))=aB false:=(iA (by decide +kernel) (by decide +kernel)).trans (by decide +kernel)
@[simp] theorem B5 {h:VH}:dj h (.str fJ) (.str (cj "<"))=aB true:=(iA (by decide +kernel) (by decide +kernel)).trans (by decide +kernel)
@[simp] theorem B6 {h:VH}:dj h (.str fJ) (.str (cj ">"))=aB false:=(iA (by decide +kernel) (by decide +kernel)).trans (by decide +kernel)
@[simp] theorem yx {h:VH}:dj h (.str fJ) (.str (cj "."))=aB false:=(iA (by decide +kernel) (by decide +kernel)).trans (by decide +kernel)
@[simp] theorem sL {h:VH}:dj h (.str fJ) (.str (cj "s"))=aB false:=(iA (by decide +kernel) (by decide +kernel)).trans (by decide +kernel)
@[simp] theorem Fo {h:VH}:dj h (.str jY) (.str (cj "x"))=aB false:=(iA (by decide +kernel) (by decide +kernel)).trans (by decide +kernel)
@[simp] theorem B7 {h:VH}:dj h (.str jY) (.str (cj "<"))=aB false:=(iA (by decide +kernel) (by decide +kernel)).trans (by decide +kernel)
@[simp] theorem B8 {h:VH}:dj h (.str jY) (.str (cj ">"))=aB true:=(iA (by decide +kernel) (by decide +kernel)).trans (by decide +kernel)
@[simp] theorem yy {h:VH}:dj h (.str jY) (.str (cj "."))=aB false:=(iA (by decide +kernel) (by decide +kernel)).trans (by decide +kernel)
@[simp] theorem sM {h:VH}:dj h (.str jY) (.str (cj "s"))=aB false:=(iA (by decide +kernel) (by decide +kernel)).trans (by decide +kernel)
@[simp] theorem B9 {h:VH}:dj h (.str dU) (.str (cj "x"))=aB false:=(iA (by decide +kernel) (by decide +kernel)).trans (by decide +kernel)
@[simp] theorem yz {h:VH}:dj h (.str dU) (.str (cj "<"))=aB false:=(iA (by decide +kernel) (by decide +kernel)).trans (by decide +kernel)
@[simp] theorem yC {h:VH}:dj h (.str dU) (.str (cj ">"))=aB false:=(iA (by decide +kernel) (by decide +kernel)).trans (by decide +kernel)
@[simp] theorem wV {h:VH}:dj h (.str dU) (.str (cj "."))=aB true:=(iA (by decide +kernel) (by decide +kernel)).trans (by decide +kernel)
@[simp] theorem pJ {h:VH}:dj h (.str dU) (.str (cj "s"))=aB false:=(iA (by decide +kernel) (by decide +kernel)).trans (by decide +kernel)
@[simp] theorem Jp {h:VH}:dj h (.str sS) (.str (cj "x"))=aB false:=(iA (by decide +kernel) (by decide +kernel)).trans (by decide +kernel)
@[simp] theorem Fp {h:VH}:dj h (.str sS) (.str (cj "<"))=aB false:=(iA (by decide +kernel) (by decide +kernel)).trans (by decide +kernel)
@[simp] theorem Fq {h:VH}:dj h (.str sS) (.str (cj ">"))=aB false:=(iA (by decide +kernel) (by decide +kernel)).trans (by decide +kernel)
@[simp] theorem Ca {h:VH}:dj h (.str sS) (.str (cj "."))=aB false:=(iA (by decide +kernel) (by decide +kernel)).trans (by decide +kernel)
@[simp] theorem wW {h:VH}:dj h (.str sS) (.str (cj "s"))=aB true:=(iA (by decide +kernel) (by decide +kernel)).trans (by decide +kernel)
theorem Xw{h0:VH}{gs:List VO}{c t l l':List W}{w:W}:leave (st3 h0 gs c t l) w (VH.set ⟨(st3 h0 gs c t l).n,(st3 h0 gs c t l).n,(st3 h0 gs c t l).os⟩ (h0.n+2) (.lst l'))=.ok w (st3 h0 gs c t l'):=by
 have hb:Nat.blt (h0.n+2) (h0.n+3+gs.length)=true:=gO.mpr (by lia);have hn:Nat.ble (h0.n+3+gs.length) (h0.n+2)=false:=by
  cases q:Nat.ble (h0.n+3+gs.length) (h0.n+2)with|false=>rfl|true=>have:=k9 q;lia
 have hl:Nat.ble h0.n (h0.n+2)=true:=qL.mpr (by lia);unfold leave VH.set st3;simp only[hb,cC,hn,vec,hl];rw[if_neg (by simp),List.set_append_right _ _ (by lia),show h0.n+3+gs.length-1- (h0.n+2)-gs.length=0 by lia];rfl
theorem N5{ls:List Int}{a:Nat}(h:a<ls.length):fE (ls.map W.int) (a:Int)=aB (.int (ls.getD a 0)):=
 lu (by rw[dG,cN h,jS,cN h];rfl)
theorem Jq{n a:Nat}(h:a<n):i8 n (a:Int)=aB a:=by unfold i8;rw[if_pos (by lia),if_pos (by lia)];simp
theorem Xx{cl:Call}{a b:S}{ρ ρ':En}{h h':VH}(e:exs cl a ρ h=.ok (.bk ρ') h'):exs cl (.seq a b) ρ h=.ok (.bk ρ') h':=by simp only[exs,e,aD]
theorem N6{wd g c:Int}{r:List W}(ok:(r.length:Int)=wd/\dz wd g 0 r)(c0:0<=c)(c1:c<wd):fE r c=aB (bA r c):=by have:=(yw ok c0 c1).1;obtain⟨n,rfl⟩:=xN c0;rw[pV]at this;exact lu this
noncomputable def iW(ls:List Int):W:=.tup (ls.map .int)
theorem Cb{n:Nat}{ls:List Int}:W.lt n (iW ls)=true:=by
 unfold iW;rw[lH];induction ls with|nil=>simp|cons x r ih=>rw[dH,iT,ih,lt_int];rfl
theorem Bd.Ok.wX{B:Bd}(b:B.Ok){f:Nat}(hf:f<B.fd.length):∃c:Int,B.fd[f]?=aB (.int c)/\0<=c/\c<B.wd:=by
 have h:=b.f3 _ (kR hf);have e:B.fd[f]?=aB B.fd[f]:=cN hf;generalize B.fd[f]=w at h e;cases w<;>simp only[within]at h<;>try(cases h;done)
 rename_i c;rw[bY,iB,iB]at h;exact⟨c,e,h.1,by lia⟩
noncomputable def Bd.col(B:Bd)(f:Nat):Int:=match B.fd[f]? with|some (.int c)=>c|_=>0
theorem Bd.Ok.col{B:Bd}(b:B.Ok){f:Nat}(hf:f<B.fd.length):B.fd[f]?=aB (.int (B.col f))/\0<=B.col f/\B.col f<B.wd:=by
 obtain⟨c,e,h⟩:=b.wX hf;have:B.col f=c:=by unfold Bd.col;rw[e]
 rw[this];exact⟨e,h⟩
noncomputable def Bd.dP(B:Bd)(ls:List Int)(f:Nat):Fa:=aH B.rows (B.col f) 0 ls
theorem Bd.Ok.rows{B:Bd}(b:B.Ok){ls:List Int}(hl:(ls.length:Int)=B.gr):uH B.wd (ls.length:Int) B.rows:=by rw[hl];exact b.r2
theorem Bd.Ok.dP{B:Bd}(b:B.Ok){ls:List Int}{f:Nat}(hf:f<B.fd.length)(hl:(ls.length:Int)=B.gr)(bi:fC ls):(B.dP ls f).Ok B.wd (B.col f) B.rows.length ls.length:=
 N3 _ _ _ _ (b.rows hl) (b.col hf).2.1 (b.col hf).2.2 (by decide) (by decide) bi
noncomputable def sN(B:Bd)(ls:List Int)(f:Nat):W:=.tup [iW (B.col f:: (B.dP ls f).cs),iW (B.dP ls f).ts,iW (B.dP ls f).ls]
theorem Xy{B:Bd}{ls:List Int}{f n:Nat}:W.lt n (sN B ls f)=true:=by unfold sN;simp[Cb]
theorem Jr{cl:Call}{i l:Nat}{ρ:En}{h:VH}{ws:List W}(lI:ρ[i]?=aB (aB (.ref l)))(g:h.get l=aB (.lst ws)):ev cl (.bi .tuple (.cons (.var i) .nil)) ρ h=.ok (.tup ws) h:=by simp only[ev,lI,nR,bO,aD,mh,vN,aV,g,iC]
theorem Js{cl:Call}{a b c:E}{ρ:En}{h:VH}{x y z:W}(ea:ev cl a ρ h=.ok x h)(eb:ev cl b ρ h=.ok y h)(ec:ev cl c ρ h=.ok z h):ev cl (.tup (.cons a (.cons b (.cons c .nil)))) ρ h=.ok (.tup [x,y,z]) h:=by rw[ev,ev,ea,aD,ev,eb,aD,ev,ec,aD,ev];rfl
theorem N7:∀(cs:List Int) (c:Int),(c::cs)[cs.length]?=aB (bH c cs)
 |[],c=>rfl
 |x::r,c=>by
  rw[cY,lS];exact N7 r x
theorem Xz{cs:List Int}{c:Int}:fE ((c::cs).map W.int) (-1)=aB (.int (bH c cs)):=by
 have e:i8 ((c::cs).map W.int).length (-1)=aB cs.length:=by unfold i8;rw[if_neg (by decide),bG,cY,if_pos (by lia)];congr 1;lia
 unfold fE;rw[e,Option.bind_some,dG,N7];rfl
noncomputable def jO:List (Key×W):=[(.inr dU,.int 0),(.inr fJ,.int (-1)),(.inr jY,.int 1)]
theorem XA:yf [] [(.inr dU,.int 0),(.inr fJ,.int (-1)),(.inr jY,.int 1)]=jO:=by rfl
theorem XC:aP jO (.inr dU)=aB (.int 0):=by rfl
theorem XD:aP jO (.inr fJ)=aB (.int (-1)):=by rfl
theorem XE:aP jO (.inr jY)=aB (.int 1):=by rfl
theorem XF{cl:Call}{ρ:En}{h:VH}:ev cl rZ ρ h=.ok (.ref h.n) (h.new (.dk jO)):=by simp only[rZ,ev,aD,tY,lB];rw[if_pos (by decide)];show Res.ok _ (h.new (.dk (yf [] _)))=_;rw[XA]
theorem XG{h:VH}{o:VO}:(h.new o).get h.n=aB o:=by unfold VH.get VH.new;rw[if_pos (gO.mpr (by show h.n<h.n+1;lia))];show(o::h.os)[h.n+1-1-h.n]?=_;rw[show h.n+1-1-h.n=0 by lia];rfl
theorem Cc{h:VH}{p q:Int}{x:Str}(hx:PyData.strOk x):dj h (.tup [.int p,.int q]) (.str x)=aB false:=by rw[NY (x:=x) rfl hx];rfl
noncomputable abbrev Kv:=List (L2.Key×W)
noncomputable def bX(w:Nat)(kvs:Kv):List W:=(List.range w).map λ(i:Nat)=>(aP kvs (.inl (i:Int))).getD (.str dU)
noncomputable def fP:List Int->List (Int×Int×Int)|a::b::r=>(a,(a+b)/2,b)::fP r|_=>[]
noncomputable def nY(cs:List Int)(aO:List (Int×Int×Int)):List Int:=aO.map (λf=>f.2.1)++cs.drop (2*aO.length)
noncomputable def pK(g:Int)(aO:List (Int×Int×Int)):Kv:=aO.foldl (λkv f=>bD kv (.inl f.2.1) (.tup [.int g,.int 0])) []
noncomputable def ql(s:Int)(aO:List (Int×Int×Int)):Kv:=aO.foldl (λkv f=>if f.1<f.2.1-s then bD kv (.inl (f.2.1-s)) (.str fJ)else kv) []
noncomputable def uI(s:Int)(aO:List (Int×Int×Int)):Kv:=aO.foldl (λkv f=>if f.2.1+s<f.2.2 then bD kv (.inl (f.2.1+s)) (.str jY)else kv) []
noncomputable def yD(kvs more:Kv):Kv:=more.foldl (λacc kv=>bD acc kv.1 kv.2) kvs
noncomputable def gap(f:Int×Int×Int):Int:=if f.2.2-f.2.1>f.2.1-f.1 then f.2.2-f.2.1 else f.2.1-f.1
noncomputable def sO:Int->List Int->Int|x,[]=>x|x,y::r=>sO (if y>x then y else x) r
noncomputable def gU:List (Int×Int×Int)->Int|[]=>0|f::r=>sO (gap f) (r.map gap)
noncomputable def Cd(w:Nat)(aO:List (Int×Int×Int))(i:Nat):List W:=bX w (yD (ql ((i:Int)+1) aO) (uI ((i:Int)+1) aO))
noncomputable def Ce(w:Nat)(g:Int)(aO:List (Int×Int×Int)):List (List W):=bX w (pK g aO):: (List.range (gU aO-1).toNat).map λi=>Cd w aO i
noncomputable def jB(w:Nat):Nat->Nat->List (List Int)->List (List W)->List (List W)×List (List Int)|0,_,lanes,rows=>(rows,lanes)|n+1,g,lanes,rows=>jB w n (g+1) (List.zipWith nY lanes (lanes.map fP)) (Ce w g (lanes.map fP).flatten++rows)
noncomputable def mE(S P:Nat):List (List Int):=(List.range P).map λ(f:Nat)=>(List.range S).map λ(s:Nat)=>2* ((f:Int)*S+s)+1
noncomputable def aU(S:Nat):Nat:=if S<=1 then 0 else if S<=2 then 1 else if S<=4 then 2 else if S<=8 then 3 else 4
noncomputable def bz(S P:Nat):Nat:=2*S*P+1
noncomputable def aR(S P:Nat):List (List W):=(jB (bz S P) (aU S) 0 (mE S P) []).1
noncomputable def kK:List Int->Int|x::_=>x|[]=>0
noncomputable def bf(S P:Nat):List Int:=(jB (bz S P) (aU S) 0 (mE S P) []).2.map kK
noncomputable def aM(S P:Nat):Bd:=⟨bz S P,aU S,aR S P,(bf S P).map .int,bV (bz S P) (.tup [.int 0,.int 0])⟩
noncomputable def aI:Int->Nat->List Int|_,0=>[]|z,n+1=>z % 2::aI (z/2) n
noncomputable def gV(S f s:Nat):Int:=2* ((f:Int)*S+s)+1
noncomputable def Ft(wd g:Int):Int->List W->Bool|_,[]=>true|c,w::r=>jX w c wd g&&Ft wd g (c+1) r
theorem N8{wd g:Int}:∀{c:Int} {r:List W},Ft wd g c r=true->dz wd g c r
 |_,[],_=>trivial
 |c,w::r,h=>by
  simp only[Ft,bY]at h;exact⟨h.1,N8 h.2⟩
noncomputable def wY:Nat->List (List Int)->Bool|0,lanes=>lanes.all λl=>!l.isEmpty|n+1,lanes=>!(lanes.map fP).flatten.isEmpty&&wY n (List.zipWith nY lanes (lanes.map fP))
noncomputable def Cf(S P:Nat):Bool:=
 (aR S P).length<=60&& (aR S P).all (λr=>r.length==bz S P&&Ft (bz S P) (aU S) 0 r)
 && (bf S P).length==P&& (bf S P).all (λc=>decide (0<=c)&&decide (c<=(bz S P:Int)-1))&&wY (aU S) (mE S P)
noncomputable def jP(S P:Nat):Bool:=(List.range P).all λf=>(List.range S).all λs=>
 match aH (aR S P) ((bf S P).getD f 0) 0 (aI s (aU S))with|⟨cs,_,_,st⟩=>!st&&cs.length==(aR S P).length&&bH ((bf S P).getD f 0) cs==gV S f s
noncomputable def mF:List (Nat×Nat):=(List.range 16).flatMap λs=>((List.range 4).filter λp=>decide ((s+1)* (p+1)<=16)).map λp=>(s+1,p+1)
theorem XH:(mF.all λx=>Cf x.1 x.2)=true:=by decide +kernel
theorem XI:(mF.all λx=>jP x.1 x.2)=true:=by decide +kernel
theorem Fv{S P:Nat}(s1:1<=S)(p1:1<=P)(p4:P<=4)(sp:S*P<=16):(S,P)∈mF:=by
 have iz:S<=16:=gF (by calc S=S*1:=(Nat.mul_one S).symm
  _<=S*P:=Nat.mul_le_mul_left _ p1) sp
 refine List.mem_flatMap.mpr ⟨S-1,nQ.mpr (by lia),jb.mpr ⟨P-1,List.mem_filter.mpr ⟨nQ.mpr (by lia),?_⟩,?_⟩⟩;rw[Dh s1,Dh p1];exact kO sp;rw[Dh s1,Dh p1]
structure Shape(S P:Nat):Prop where
 s1:1<=S
 p1:1<=P
 p4:P<=4
 sp:S*P<=16
section
variable{S P:Nat}
theorem Shape.Cf(h:Shape S P):Cf S P=true:=i6.mp XH _ (Fv h.s1 h.p1 h.p4 h.sp)
theorem Shape.jP(h:Shape S P):jP S P=true:=i6.mp XI _ (Fv h.s1 h.p1 h.p4 h.sp)
theorem Shape.iz(h:Shape S P):S<=16:=gF (by calc S=S*1:=(Nat.mul_one S).symm
 _<=S*P:=Nat.mul_le_mul_left _ h.p1) h.sp
theorem Shape.wd(h:Shape S P):bz S P<=33:=by have:=h.sp;unfold bz;rw[Dm];lia
theorem uJ:aU S<=4:=by unfold aU;split<;> (try split)<;> (try split)<;> (try split)<;>lia
theorem Shape.rows(h:Shape S P):uH (bz S P) (aU S) (aR S P)/\(aR S P).length<=60/\(bf S P).length=P/\(∀c∈bf S P,0<=c/\c<=(bz S P:Int)-1)/\wY (aU S) (mE S P)=true:=by have q:=h.Cf;simp only[RF.Cf,bY,iB,i6,xw]at q;obtain⟨⟨⟨⟨q1,q2⟩,q3⟩,q4⟩,q5⟩:=q;refine⟨λr hr=>⟨by rw[(q2 r hr).1],N8 (q2 r hr).2⟩,q1,q3,λc hc=>?_,q5⟩;exact q4 c hc
theorem Shape.ok(h:Shape S P):(aM S P).Ok:=by
 obtain⟨r,r1,f1,f2,_⟩:=h.rows;have w:=h.wd;refine⟨?_,?_,?_,?_,r1,r,?_,?_,?_,?_,?_⟩;show(1:Int)<=(bz S P:Nat)
 unfold bz;lia;show((bz S P:Nat):Int)<=40;lia;exact Int.natCast_nonneg _;have:=uJ (S:=S);show((aU S:Nat):Int)<=8;lia;show 1<=((bf S P).map W.int).length;rw[bG,f1];exact h.p1;show((bf S P).map W.int).length<=4;rw[bG,f1];exact h.p4;intro f hf;obtain⟨c,hc,rfl⟩:=jb.mp hf;have:=f2 c hc;show(decide (0<=c)&&decide (c<=(bz S P:Int)-1))=true;rw[kO this.1,kO this.2];rfl;show((bV (bz S P) _).length:Int)=_;rw[uU];rfl;intro d hd;rw[List.eq_of_mem_replicate hd];show(within (.int 0) 0 99&&E8 (.int 0) _)=true;have:1<=(aM S P).fd.length:=by show 1<=((bf S P).map W.int).length;rw[bG,f1];exact h.p1
 simp only[within,E8,bY,iB,fF];simp;lia
theorem qm:∀{z:Int} {n:Nat},(aI z n).length=n|_,0=>rfl|z,n+1=>by rw[aI,cY,qm]
theorem yE:∀{n:Nat} {z:Int},fC (aI z n)
 |0,_=>λx h=>by cases h
 |n+1,z=>λx h=>by
  rcases fV.mp h with rfl|h;exact Int.emod_two_eq z;exact yE x h
theorem Shape.col(h:Shape S P){f:Nat}(hf:f<P):(aM S P).col f=(bf S P).getD f 0:=by
 have l:=h.rows.2.2.1;have e:(bf S P)[f]?=aB ((bf S P)[f]'(by rw[l];exact hf)):=cN _;unfold Bd.col;show(match((bf S P).map W.int)[f]? with|some (.int c)=>c|_=>0)=_
 rw[dG,e,jS,e];rfl
theorem Shape.dP(h:Shape S P){f s:Nat}(hf:f<P)(hs:s<S):((aM S P).dP (aI s (aU S)) f).st=false/\((aM S P).dP (aI s (aU S)) f).cs.length=(aR S P).length/\
 bH ((aM S P).col f) ((aM S P).dP (aI s (aU S)) f).cs=gV S f s:=by
 have q:=i6.mp (i6.mp h.jP f (nQ.mpr hf)) s (nQ.mpr hs);unfold Bd.dP;rw[h.col hf];show(aH (aR S P) ((bf S P).getD f 0) 0 (aI s (aU S))).st=false/\(aH (aR S P) ((bf S P).getD f 0) 0 (aI s (aU S))).cs.length=_/\bH _ (aH (aR S P) ((bf S P).getD f 0) 0 (aI s (aU S))).cs=_;generalize aH (aR S P) ((bf S P).getD f 0) 0 (aI s (aU S))=Fa at q;obtain⟨cs,ts,ls,st⟩:=Fa;simp only[bY,u5,xw]at q;exact⟨q.1.1,q.1.2,q.2⟩
end
theorem N9{k k':L2.Key}{w:W}:∀{kv:Kv},aP (kv.map λx=>if x.1=k then(x.1,w)else x) k'=if k'=k then(if(kv.any λx=>decide (x.1=k))=true then aB w else aC)else aP kv k'
 |[]=>by simp[aP]
 |x::r=>by
  have ih:=N9 (k:=k) (k':=k') (w:=w) (kv:=r);unfold aP at ih ⊢;rw[dH,j0,j0,xH];by_cases e:x.1=k;by_cases e':k'=k;subst e';simp[e];have:¬x.1=k':=λq=>e' (by rw[<-q,e]);rw[if_neg e']at ih;simp[e,e',this];simp at ih;have h2:¬k=k':=λq=>e' q.symm;simpa[e,h2]using ih;by_cases e':k'=k;subst e';have e3:decide (x.1=k')=false:=iX e;rw[e3,Bool.false_or,if_neg e];rw[if_pos rfl]at ih ⊢;rw[<-ih];simp only[e3];rw[if_neg e']at ih;by_cases e2:x.1=k';simp[e,e2,e'];simp[e,e2,e'];simpa using ih
theorem XJ{k k':L2.Key}{w:W}{kv:Kv}(h:¬(kv.any λx=>decide (x.1=k))):aP (kv++[(k,w)]) k'=if k'=k then aB w else aP kv k':=by
 unfold aP;rw[List.find?_append];by_cases e:k'=k;subst e;have:kv.find? (λx=>decide (x.1=k'))=aC:=by rw[List.find?_eq_none];intro x hx q;exact h (Dd.mpr ⟨x,hx,q⟩)
 rw[this];simp;have h2:¬k=k':=λq=>e q.symm;rw[if_neg e];simp[h2]
theorem Jt{k k':L2.Key}{w:W}{kv:Kv}:aP (bD kv k w) k'=if k'=k then aB w else aP kv k':=by unfold bD;split;rename_i h;rw[N9,if_pos h];rename_i h;exact XJ h
theorem Ay{k:L2.Key}{w:W}{kv:Kv}:(bD kv k w).length<=kv.length+1:=by unfold bD;split;rw[bG];exact qK _;rw[eY];exact bg _
structure Ev where
 c:Int
 n:Int
 b:List Int
 t:List Int
noncomputable def bS(g:Nat)(kv:Kv)(e:Ev):Kv:=if e.b.getD g 0=e.t.getD g 0 then kv else bD kv (.inl e.c) (.tup [.int g,.int (1-e.b.getD g 0)])
noncomputable def cy(g:Nat)(es:List Ev):Kv:=es.foldl (bS g) []
noncomputable def cG(d:List W)(e:Ev):List W:=d.set e.c.toNat (.tup [.int e.n,.int 0])
theorem Oa{g:Nat}{kv:Kv}{e:Ev}{c:Int}(h:e.c≠c):aP (bS g kv e) (.inl c)=aP kv (.inl c):=by unfold bS;split;rfl;rw[Jt,if_neg];intro q;exact h (DC q).symm
theorem Ju{g:Nat}{c:Int}:∀{es:List Ev} {kv:Kv},(∀e∈es,e.c≠c)->aP (es.foldl (bS g) kv) (.inl c)=aP kv (.inl c)
 |[],_,_=>rfl
 |e::r,kv,h=>by
  rw[k8,Ju λx hx=>h x (eW _ hx),Oa (h e eX)]
theorem Ob{g:Nat}{e:Ev}:∀{es:List Ev} {kv:Kv},e∈es->(es.map Ev.c).Nodup->aP kv (.inl e.c)=aC->aP (es.foldl (bS g) kv) (.inl e.c)=if e.b.getD g 0=e.t.getD g 0 then aC else aB (.tup [.int g,.int (1-e.b.getD g 0)])
 |x::r,kv,h,nd,q=>by
  rw[dH,sW]at nd;rw[k8];rcases fV.mp h with rfl|h
  rw[Ju λy hy q=>nd.1 (jb.mpr ⟨y,hy,q⟩)];unfold bS;split;exact q;rw[Jt,if_pos rfl];have:x.c≠e.c:=λq=>nd.1 (jb.mpr ⟨e,h,q.symm⟩);exact Ob h nd.2 (by rw[Oa this];exact q)
theorem Oc:∀{es:List Ev} {d:List W},(es.foldl cG d).length=d.length|[],_=>rfl|e::r,d=>by rw[k8,Oc,cG,uX]
theorem Od{i:Nat}:∀{es:List Ev} {d:List W},(∀e∈es,e.c.toNat≠i)->(es.foldl cG d)[i]?=d[i]?
 |[],_,_=>rfl
 |e::r,d,h=>by
  rw[k8,Od λx hx=>h x (eW _ hx),cG,xC (h e eX)]
theorem Oe{e:Ev}:∀{es:List Ev} {d:List W},e∈es->(es.map Ev.c).Nodup->(∀x∈es,0<=x.c/\x.c.toNat<d.length)->(es.foldl cG d)[e.c.toNat]?=aB (.tup [.int e.n,.int 0])
 |x::r,d,h,nd,q=>by
  rw[dH,sW]at nd;rw[k8];rcases fV.mp h with rfl|h
  rw[Od λy hy z=>nd.1 (jb.mpr ⟨y,hy,by
   have h1:=q y (eW _ hy);have h2:=q e eX;lia⟩)]
  rw[cG,uT (q e eX).2];exact Oe h nd.2 λy hy=>by
   have:=q y (eW _ hy);rw[cG,uX];exact this
noncomputable def iV(kv:Kv):Kv:=kv.foldl (λacc x=>match x.1 with|.inl i=>bD acc (.inl (i+1)) (.str fJ)|.inr _=>acc) []
noncomputable def keyed(kv:Kv)(c:Int):Bool:=kv.any λx=>decide (x.1=.inl c)
theorem XM{kv:Kv}{c:Int}:(aP kv (.inl c)).isSome=keyed kv c:=by unfold aP keyed;rw[Option.isSome_map,Bool.eq_iff_iff,List.find?_isSome,Dd]
theorem Jv{c:Int}:∀{kv acc:Kv},aP (kv.foldl (λacc x=>match x.1 with
 |.inl i=>bD acc (.inl (i+1)) (.str fJ)
 |.inr _=>acc) acc) (.inl c)=if keyed kv (c-1)=true then aB (.str fJ)else aP acc (.inl c)
 |[],acc=>rfl
 |(.inl i,w)::r,acc=>by
  rw[k8,Jv];have hk:keyed ((.inl i,w)::r) (c-1)=(decide ((.inl i:L2.Key)=.inl (c-1))||keyed r (c-1)):=rfl;rw[hk];show(if keyed r (c-1)=true then aB (W.str fJ)else aP (bD acc (.inl (i+1)) (.str fJ)) (.inl c))=_;rw[Jt];by_cases h:keyed r (c-1)=true;simp[h];by_cases h2:i=c-1;subst h2;simp[h];have h3:¬(c=i+1):=by lia
  have h4:¬(.inl c:L2.Key)=.inl (i+1):=λq=>h3 (DC q);have h5:¬(.inl i:L2.Key)=.inl (c-1):=λq=>h2 (DC q);rw[if_neg h,if_neg h4];simp[h,h5]
 |(.inr s,w)::r,acc=>by
  rw[k8,Jv];have hk:keyed ((.inr s,w)::r) (c-1)=(decide ((.inr s:L2.Key)=.inl (c-1))||keyed r (c-1)):=rfl;rw[hk];have:¬(.inr s:L2.Key)=.inl (c-1):=λq=>nomatch q
  simp[this]
theorem Jw{kv:Kv}{c:Int}:aP (iV kv) (.inl c)=if(aP kv (.inl (c-1))).isSome=true then aB (.str fJ)else aC:=by unfold iV;rw[Jv,XM];rfl
theorem XN{kv:Kv}:(iV kv).length<=kv.length:=by
 have:∀(kv acc:Kv),(kv.foldl (λacc x=>match x.1 with
  |.inl i=>bD acc (.inl (i+1)) (.str fJ)
  |.inr _=>acc) acc).length<=acc.length+kv.length:=by
  intro kv;induction kv with
  |nil=>intro acc;exact bg _
  |cons x r ih=>
   intro acc;rw[k8,cY];refine gF (ih _) ?_;obtain⟨k,w⟩:=x;cases k with
   |inl i=>
    have:=Ay (k:=.inl (i+1)) (w:=.str fJ) (kv:=acc);show(bD acc _ _).length+_<=_;lia
   |inr s=>show acc.length+_<=_;lia
 refine gF (this kv []) ?_;simp
theorem Fw{w:Nat}{kv:Kv}{c:Int}(c0:0<=c)(c1:c<w):bA (bX w kv) c=(aP kv (.inl c)).getD (.str dU):=by unfold bA bX;rw[dG,uV (by lia)];show(aP kv (.inl ((c.toNat:Nat):Int))).getD _=_;rw[Int.toNat_of_nonneg c0]
theorem Cg{w:Nat}{kv:Kv}:(bX w kv).length=w:=by unfold bX;rw[bG,oj]
theorem Of{wd g:Int}:∀{ws:List W} {c:Int},(∀i (hi:i<ws.length),jX ws[i] (c+i) wd g=true)->dz wd g c ws
 |[],_,_=>trivial
 |x::r,c,h=>⟨by have:=h 0 (Nat.succ_pos _);rw[show c+ ((0:Nat):Int)=c from Int.add_zero c]at this;exact this,Of λi hi=>by
  have:=h (i+1) (by simpa using hi);rw[show c+1+ (i:Int)=c+ ((i+1:Nat):Int) by push_cast;lia];simpa using this⟩
theorem Og{w:Nat}{g:Int}{kv:Kv}(h:∀c:Int,0<=c->c<w->jX ((aP kv (.inl c)).getD (.str dU)) c w g):dz w g 0 (bX w kv):=by
 refine Of λi hi=>?_;rw[Cg]at hi;have:(bX w kv)[i]'(by rw[Cg];exact hi)=(aP kv (.inl (i:Int))).getD (.str dU):=by simp[bX]
 rw[this,Int.zero_add];exact h _ (Int.natCast_nonneg _) (by lia)
theorem uK{r:List W}{rs:List (List W)}{c hd d:Int}{ls t l:List Int}(e:bM (bA r c) hd ls=aB (d,t,l)):aH (r::rs) c hd ls=⟨(c+d):: (aH rs (c+d) d l).cs,t++(aH rs (c+d) d l).ts,(aH rs (c+d) d l).ls,(aH rs (c+d) d l).st⟩:=by rw[aH,e]
theorem Oh{r:List W}{rs:List (List W)}{c hd:Int}{ls:List Int}(e:bM (bA r c) hd ls=aC):aH (r::rs) c hd ls=⟨[],[],ls,true⟩:=by rw[aH,e]
theorem Oi:∀(r1 r2:List (List W)) (c hd:Int) (ls:List Int),(aH r1 c hd ls).st=false->
 ∃hd' ts,aH (r1++r2) c hd ls=⟨(aH r1 c hd ls).cs++(aH r2 (bH c (aH r1 c hd ls).cs) hd' (aH r1 c hd ls).ls).cs,ts,(aH r2 (bH c (aH r1 c hd ls).cs) hd' (aH r1 c hd ls).ls).ls,(aH r2 (bH c (aH r1 c hd ls).cs) hd' (aH r1 c hd ls).ls).st⟩
 |[],r2,c,hd,ls,_=>⟨hd,(aH r2 c hd ls).ts,rfl⟩
 |r::rs,r2,c,hd,ls,h=>by
  rw[nN];cases e:bM (bA r c) hd ls with
  |none=>rw[Oh e]at h;cases h
  |some q=>
   obtain⟨d,t,l⟩:=q;rw[uK e]at h;obtain⟨hd',ts,q⟩:=Oi rs r2 (c+d) d l h;refine⟨hd',t++ts,?_⟩;rw[uK e,uK e,q];rfl
theorem Jx:∀(c:Int) (xs ys:List Int),bH c (xs++ys)=bH (bH c xs) ys|_,[],_=>rfl|_,x::r,ys=>Jx x r ys
structure fQ(N G:Nat)(es:List Ev):Prop where
 nd:(es.map Ev.c).Nodup
 odd:∀e∈es,∃i:Nat,i<N/\e.c=2* (i:Int)+1
 bl:∀e∈es,e.b.length=G
 tl:∀e∈es,e.t.length=G
 bb:∀e∈es,fC e.b
 tb:∀e∈es,fC e.t
section
variable{N G:Nat}{es:List Ev}
theorem fQ.look(h:fQ N G es){e:Ev}(he:e∈es)(g:Nat):aP (cy g es) (.inl e.c)=if e.b.getD g 0=e.t.getD g 0 then aC else aB (.tup [.int g,.int (1-e.b.getD g 0)]):=Ob he h.nd rfl
theorem fQ.wZ(h:fQ N G es){c:Int}(hc:∀e∈es,e.c≠c)(g:Nat):aP (cy g es) (.inl c)=aC:=by unfold cy;rw[Ju hc];rfl
theorem fQ.before(h:fQ N G es){e:Ev}(he:e∈es)(g:Nat):aP (cy g es) (.inl (e.c-1))=aC:=h.wZ (λx hx q=>by
 obtain⟨i,_,e1⟩:=h.odd e he;obtain⟨j,_,e2⟩:=h.odd x hx;lia) g
noncomputable def bU(w:Nat)(es:List Ev)(g:Nat):List (List W):=[bX w (cy g es),bX w (iV (cy g es))]
noncomputable def cM(b t:List Int)(j:Nat):List Int:=t.take j++b.drop j
theorem Oj{b t:List Int}{j:Nat}(l:b.length=t.length)(hj:j<b.length):(cM b t j).getD j 0=b.getD j 0:=by unfold cM;rw[jS,jS,lR (by rw[jq];lia),jq,yP];rw[show j+ (j-min j t.length)=j by lia]
theorem Ol{b t:List Int}{j:Nat}(l:b.length=t.length)(hj:j<b.length):(cM b t j).set j (t.getD j 0)=cM b t (j+1):=by apply C8;intro i;unfold cM;rw[List.getElem?_set,eY,jq,sV,jS];by_cases e:j=i;subst e;rw[if_pos rfl,if_pos (by lia),pS (by rw[jq];lia),List.getElem?_take,if_pos (fY _),cN (by lia)];rfl;rw[if_neg e];by_cases e2:i<j;rw[pS (by rw[jq];lia),pS (by rw[jq];lia),List.getElem?_take,List.getElem?_take,if_pos e2,if_pos (by lia)];rw[lR (by rw[jq];lia),lR (by rw[jq];lia),yP,yP,jq,jq];congr 1;lia
theorem XO{b t:List Int}{j:Nat}(l:b.length=t.length)(hj:j<b.length)(e:b.getD j 0=t.getD j 0):cM b t (j+1)=cM b t j:=by
 rw[<-Ol l hj,<-e];apply C8;intro i;rw[List.getElem?_set];by_cases q:j=i;subst q;rw[if_pos rfl];have:=Oj l hj;rw[jS]at this;have hl:j< (cM b t j).length:=by unfold cM;rw[eY,jq,sV];lia
 rw[if_pos hl,cN hl];rw[cN hl]at this;rw[<-this];rfl;rw[if_neg q]
theorem XQ{b t:List Int}(l:b.length=t.length):cM b t b.length=t:=by unfold cM;rw[l,nO,<-l,List.drop_length,nP]
theorem XR{b t:List Int}{j:Nat}(hb:fC b)(ht:fC t)(l:b.length=t.length)(hj:j<b.length)(e:¬b.getD j 0=t.getD j 0):1-b.getD j 0=t.getD j 0/\b.getD j 0≠1-b.getD j 0:=by have h1:=hb _ (kR hj);have h2:=ht _ (kR (l▸hj));rw[jS,jS,cN hj,cN (l▸hj)]at *;simp only[Dp]at *;constructor<;>rcases h1 with h1|h1<;>rcases h2 with h2|h2<;>lia
theorem fQ.turn(h:fQ N G es){w:Nat}(hw:w=2*N+1){e:Ev}(he:e∈es){g:Nat}(hg:g<G)(hd:Int)(rest:List (List W)) :
 ∃hd' cs ts,aH (bU w es g++rest) e.c hd (cM e.b e.t g)=⟨cs++(aH rest e.c hd' (cM e.b e.t (g+1))).cs,ts,(aH rest e.c hd' (cM e.b e.t (g+1))).ls,(aH rest e.c hd' (cM e.b e.t (g+1))).st⟩/\bH e.c cs=e.c:=by
 obtain⟨i,hi,ec⟩:=h.odd e he;have l:e.b.length=e.t.length:=by rw[h.bl e he,h.tl e he]
 have hj:g<e.b.length:=by rw[h.bl e he];exact hg
 have c0:0<=e.c:=by lia
 have c1:e.c<w:=by lia
 have c2:e.c+1<w:=by lia
 have la:=h.look he g;show ∃hd' cs ts,aH (bX w (cy g es)::bX w (iV (cy g es))::rest) e.c hd (cM e.b e.t g)=_/\_;by_cases q:e.b.getD g 0=e.t.getD g 0;rw[if_pos q]at la;have s1:∀hd ls,bM (bA (bX w (cy g es)) e.c) hd ls=aB (0,[],ls):=λhd ls=>by
  rw[Fw c0 c1,la];rfl
 have lb:aP (iV (cy g es)) (.inl e.c)=aC:=by rw[Jw,h.before he];rfl
 have s2:∀hd ls,bM (bA (bX w (iV (cy g es))) e.c) hd ls=aB (0,[],ls):=λhd ls=>by
  rw[Fw c0 c1,lb];rfl
 refine⟨0,[e.c,e.c],(aH rest e.c 0 (cM e.b e.t (g+1))).ts,?_,rfl⟩;rw[uK (s1 hd _),Int.add_zero,uK (s2 0 _),Int.add_zero,XO l hj q];rfl;rw[if_neg q]at la;obtain⟨f1,f2⟩:=XR (h.bb e he) (h.tb e he) l hj q;have s1:∀hd,bM (bA (bX w (cy g es)) e.c) hd (cM e.b e.t g)=aB (1,[(g:Int)],cM e.b e.t (g+1)):=λhd=>by
  rw[Fw c0 c1,la];show aB ((if(cM e.b e.t g).getD ((g:Int).toNat) 0=1-e.b.getD g 0 then(-1:Int)else 1),[(g:Int)],(cM e.b e.t g).set ((g:Int).toNat) (1- (cM e.b e.t g).getD ((g:Int).toNat) 0))=_;rw[pV,Oj l hj,if_neg f2,f1,Ol l hj]
 have lb:aP (iV (cy g es)) (.inl (e.c+1))=aB (.str fJ):=by rw[Jw,Int.add_sub_cancel,la];rfl
 have s2:∀hd ls,bM (bA (bX w (iV (cy g es))) (e.c+1)) hd ls=aB (-1,[],ls):=λhd ls=>by
  rw[Fw (by lia) c2,lb];rfl
 refine⟨-1,[e.c+1,e.c],[(g:Int)]++(aH rest e.c (-1) (cM e.b e.t (g+1))).ts,?_,rfl⟩;rw[uK (s1 hd),uK (s2 1 _),show e.c+1 + -1=e.c by lia];rfl
theorem fQ.turns(h:fQ N G es){w:Nat}(hw:w=2*N+1){e:Ev}(he:e∈es):∀(n g:Nat) (hd:Int),g+n=G->
 ∃cs ts,aH ((List.range' g n).flatMap (bU w es)) e.c hd (cM e.b e.t g)=⟨cs,ts,e.t,false⟩/\bH e.c cs=e.c
 |0,g,hd,hg=>by
  have l:e.b.length=e.t.length:=by rw[h.bl e he,h.tl e he]
  refine⟨[],[],?_,rfl⟩;rw[show g=e.b.length by rw[h.bl e he];exact hg,XQ l];rfl
 |n+1,g,hd,hg=>by
  rw[List.range'_succ,List.flatMap_cons];obtain⟨hd',cs,ts,e1,l1⟩:=h.turn hw he (g:=g) (by lia) hd ((List.range' (g+1) n).flatMap (bU w es));obtain⟨XS,XT,e2,l2⟩:=h.turns hw he n (g+1) hd' (by lia);rw[e1,e2];exact⟨_,_,rfl,by rw[Jx,l1,l2]⟩
theorem Jy{c wd g:Int}:jX (.str dU) c wd g=true:=rfl
theorem fQ.xg(h:fQ N G es){w:Nat}(hw:w=2*N+1):uH w G ((List.range' 0 G).flatMap (bU w es)):=by
 intro r hr;obtain⟨g,hg,hr⟩:=List.mem_flatMap.mp hr;have hg:=(C9.mp hg).2;rcases fV.mp hr with rfl|hr
 refine⟨by rw[Cg],Og λc c0 c1=>?_⟩;by_cases q:∃e∈es,e.c=c;obtain⟨e,he,rfl⟩:=q;obtain⟨i,hi,ec⟩:=h.odd e he;rw[h.look he];split;exact Jy;have hb:=h.bb e he _ (kR (show g<e.b.length by rw[h.bl e he];lia));have hb2:e.b.getD g 0=e.b[g]'(by rw[h.bl e he];lia):=by rw[jS,cN (by rw[h.bl e he];lia)];rfl
 rw[<-hb2]at hb;have hrk:wL (.tup [.int g,.int (1-e.b.getD g 0)]) G=true:=by simp only[wL,within,bY,iB];lia
 show jX (.tup [.int g,.int (1-e.b.getD g 0)]) e.c w G=true;unfold jX;rw[hrk,Bool.or_true,if_pos rfl,kO (show 0<e.c by lia),kO (show e.c< (w:Int)-1 by lia)];rfl;rw[h.wZ λe he z=>q ⟨e,he,z⟩];exact Jy;rw[pT.mp hr];refine⟨by rw[Cg],Og λc c0 c1=>?_⟩;rw[Jw];split;rename_i z;by_cases q:∃e∈es,e.c=c-1;obtain⟨e,he,ec⟩:=q;obtain⟨i,hi,e2⟩:=h.odd e he;show decide (0<c)=true;exact kO (by lia);rw[h.wZ λe he z=>q ⟨e,he,z⟩]at z;cases z;exact Jy
noncomputable def kL(S P:Nat)(es:List Ev):List (List W):=aR S P++(List.range' 0 (aU S)).flatMap (bU (bz S P) es)
theorem Om{S P:Nat}(sh:Shape S P)(h:fQ (S*P) (aU S) es):uH (bz S P) (aU S) (kL S P es):=by
 intro r hr;rcases uW.mp hr with hr|hr
 exact sh.rows.1 r hr;exact h.xg (by unfold bz;rw[Dm]) r hr
theorem XU{S P:Nat}(sh:Shape S P)(h:fQ (S*P) (aU S) es){f s:Nat}(hf:f<P)(hs:s<S){e:Ev}(he:e∈es)(ec:e.c=gV S f s)(eb:e.b=((aM S P).dP (aI s (aU S)) f).ls) :
 ∃cs ts,aH (kL S P es) ((aM S P).col f) 0 (aI s (aU S))=⟨cs,ts,e.t,false⟩/\bH ((aM S P).col f) cs=e.c:=by
 obtain⟨p1,_,p3⟩:=sh.dP hf hs;obtain⟨hd',ts,e1⟩:=Oi (aR S P) ((List.range' 0 (aU S)).flatMap (bU (bz S P) es)) ((aM S P).col f) 0 (aI s (aU S)) p1;obtain⟨XS,XT,e2,l2⟩:=h.turns (w:=bz S P) (by unfold bz;rw[Dm]) he (aU S) 0 hd' (i7 _);have e3:bH ((aM S P).col f) (aH (aR S P) ((aM S P).col f) 0 (aI s (aU S))).cs=e.c:=by rw[ec];exact p3
 have e4:(aH (aR S P) ((aM S P).col f) 0 (aI s (aU S))).ls=cM e.b e.t 0:=by unfold cM;rw[List.take_zero,Df,eb];rfl
 unfold kL;rw[e1,e3,e4,e2];exact⟨_,_,rfl,by rw[Jx,e3,l2]⟩
end
structure xh(S P:Nat)(M:List (List (Int×Int))):Prop where
 l:M.length=S
 r:∀row∈M,row.length=P
 p:∀row∈M,∀x∈row,0<=x.1/\x.1<=99/\0<=x.2/\x.2<S
noncomputable def jQ(S P s f:Nat)(x:Int×Int):Ev:=⟨gV S f s,x.1,((aM S P).dP (aI s (aU S)) f).ls,aI x.2 (aU S)⟩
noncomputable def cR(S P s:Nat):Nat->List (Int×Int)->List Ev|_,[]=>[]|f,x::r=>jQ S P s f x::cR S P s (f+1) r
noncomputable def bQ(S P:Nat):Nat->List (List (Int×Int))->List Ev|_,[]=>[]|s,x::r=>cR S P s 0 x++bQ S P (s+1) r
section
variable{S P:Nat}
theorem Fx{s:Nat}{e:Ev}:∀{f:Nat} {row:List (Int×Int)},e∈cR S P s f row->∃i x,row[i]?=aB x/\e=jQ S P s (f+i) x
 |f,x::r,h=>by
  rcases fV.mp h with rfl|h;exact⟨0,x,rfl,rfl⟩;obtain⟨i,y,h1,h2⟩:=Fx h;exact⟨i+1,y,h1,by rw[h2,show f+1+i=f+ (i+1) by lia]⟩
theorem Oo{s:Nat}{x:Int×Int}:∀{f i:Nat} {row:List (Int×Int)},row[i]?=aB x->jQ S P s (f+i) x∈cR S P s f row
 |f,0,y::r,h=>by
  obtain rfl:y=x:=by simpa using h
  exact eX
 |f,i+1,y::r,h=>by
  rw[show f+ (i+1)=f+1+i by lia];exact eW _ (Oo (by simpa using h))
theorem Jz{e:Ev}:∀{s:Nat} {M:List (List (Int×Int))},e∈bQ S P s M->∃j i row x,M[j]?=aB row/\row[i]?=aB x/\e=jQ S P (s+j) i x
 |s,row::M,h=>by
  rcases uW.mp h with h|h;obtain⟨i,x,h1,h2⟩:=Fx h;exact⟨0,i,row,x,rfl,h1,by rw[h2,i7];rfl⟩;obtain⟨j,i,JA,x,h0,h1,h2⟩:=Jz h;exact⟨j+1,i,JA,x,h0,h1,by rw[h2,show s+1+j=s+ (j+1) by lia]⟩
theorem Oq{x:Int×Int}{row:List (Int×Int)}{i:Nat}:∀{s j:Nat} {M:List (List (Int×Int))},M[j]?=aB row->row[i]?=aB x->jQ S P (s+j) i x∈bQ S P s M
 |s,0,y::M,h,h1=>by
  obtain rfl:y=row:=by simpa using h
  refine C7 _ ?_;have:=Oo (S:=S) (P:=P) (s:=s) (f:=0) h1;rw[i7]at this;exact this
 |s,j+1,y::M,h,h1=>by
  rw[show s+ (j+1)=s+1+j by lia];exact jo _ (Oq (by simpa using h) h1)
theorem Ot{f f' s s':Nat}(h:s<S)(h':s'<S)(e:gV S f s=gV S f' s'):f=f'/\s=s':=by
 unfold gV at e;have e2:S*f+s=S*f'+s':=by
  have:((S*f+s:Nat):Int)=((S*f'+s':Nat):Int):=by push_cast;rw[Ds (S:Int) f,Ds (S:Int) f'];lia
  lia
 have a:(S*f+s) % S=s:=by rw[Nat.mul_add_mod,Nat.mod_eq_of_lt h]
 have b:(S*f'+s') % S=s':=by rw[Nat.mul_add_mod,Nat.mod_eq_of_lt h']
 have es:s=s':=by rw[<-a,e2,b]
 subst es;refine⟨?_,rfl⟩;have:S*f=S*f':=by lia
 exact Nat.eq_of_mul_eq_mul_left (by lia) this
theorem Ou{s:Nat}(hs:s<S):∀{f:Nat} {row:List (Int×Int)},((cR S P s f row).map Ev.c).Nodup
 |_,[]=>List.nodup_nil
 |f,x::r=>by
  rw[cR,dH,sW];refine⟨λh=>?_,Ou hs⟩;obtain⟨e,he,ec⟩:=jb.mp h;obtain⟨i,y,h1,rfl⟩:=Fx he;have:=(Ot hs hs ec).1;lia
theorem Ov:∀{s:Nat} {M:List (List (Int×Int))},s+M.length<=S->((bQ S P s M).map Ev.c).Nodup
 |_,[],_=>List.nodup_nil
 |s,row::M,h=>by
  rw[cY]at h;rw[bQ,fZ,List.nodup_append];refine⟨Ou (by lia),Ov (by lia),λa ha b hb ab=>?_⟩;obtain⟨e,he,rfl⟩:=jb.mp ha;obtain⟨e2,Hj,rfl⟩:=jb.mp hb;obtain⟨i,y,h1,rfl⟩:=Fx he;obtain⟨j,i2,r2,y2,h2,h3,rfl⟩:=Jz Hj;have hj:j<M.length:=(gA.mp h2).1;have:=(Ot (by lia) (by lia) ab).2;lia
theorem JB{M:List (List (Int×Int))}(sh:Shape S P)(m:xh S P M):fQ (S*P) (aU S) (bQ S P 0 M):=by
 have key:∀e∈bQ S P 0 M,∃s f x,s<S/\f<P/\e=jQ S P s f x:=λe he=>by
  obtain⟨j,i,row,x,h1,h2,h3⟩:=Jz he;have hj:=(gA.mp h1).1;have hi:=(gA.mp h2).1;rw[m.l]at hj;rw[m.r row (kQ h1)]at hi;exact⟨j,i,x,hj,hi,by rw[h3,i7]⟩
 have Ow:∀s f,s<S->f<P->((aM S P).dP (aI s (aU S)) f).ls.length=aU S/\fC ((aM S P).dP (aI s (aU S)) f).ls:=λs f hs hf=>by
  have hf':f< (aM S P).fd.length:=by show f< ((bf S P).map W.int).length;rw[bG,sh.rows.2.2.1];exact hf
  have q:=sh.ok.dP (ls:=aI s (aU S)) (f:=f) hf' (by rw[qm];rfl) yE;exact⟨by rw[q.l1,qm],q.l2⟩
 refine⟨Ov (by rw[m.l];lia),λe he=>?_,λe he=>?_,λe he=>?_,λe he=>?_,λe he=>?_⟩;obtain⟨s,f,x,hs,hf,rfl⟩:=key e he;refine⟨f*S+s,?_,?_⟩;calc f*S+s<f*S+S:=by lia
  _=(f+1)*S:=by rw[Nat.add_mul,Nat.one_mul]
  _<=P*S:=Nat.mul_le_mul_right _ hf
  _=S*P:=Nat.mul_comm _ _
 show gV S f s=_;unfold gV
 push_cast;rfl;obtain⟨s,f,x,hs,hf,rfl⟩:=key e he;exact(Ow s f hs hf).1;obtain⟨s,f,x,hs,hf,rfl⟩:=key e he;exact qm;obtain⟨s,f,x,hs,hf,rfl⟩:=key e he;exact(Ow s f hs hf).2;obtain⟨s,f,x,hs,hf,rfl⟩:=key e he;exact yE
noncomputable def Ci(S P:Nat)(M:List (List (Int×Int))):List W:=(bQ S P 0 M).foldl cG (bV (bz S P) (.tup [.int 0,.int 0]))
noncomputable def bI(S P:Nat)(M:List (List (Int×Int))):Bd:=⟨bz S P,aU S,kL S P (bQ S P 0 M),(bf S P).map .int,Ci S P M⟩
theorem XW{M:List (List (Int×Int))}(sh:Shape S P)(m:xh S P M){s f:Nat}{row:List (Int×Int)}{x:Int×Int}(h1:M[s]?=aB row)(h2:row[f]?=aB x) :
 ∃cs ts,aH (bI S P M).rows ((aM S P).col f) 0 (aI s (aU S))=⟨cs,ts,aI x.2 (aU S),false⟩/\(bI S P M).dr[(bH ((aM S P).col f) cs).toNat]?=aB (.tup [.int x.1,.int 0])/\0<=bH ((aM S P).col f) cs/\bH ((aM S P).col f) cs<bz S P:=by
 have hs:=(gA.mp h1).1;have hf:=(gA.mp h2).1;rw[m.l]at hs;rw[m.r row (kQ h1)]at hf;have he:=Oq (S:=S) (P:=P) (s:=0) h1 h2;rw[i7]at he;have ok:=JB sh m;obtain⟨cs,ts,e1,l1⟩:=XU sh ok hf hs he rfl rfl;have bound:∀e∈bQ S P 0 M,0<=e.c/\e.c<bz S P:=λe h=>by
  obtain⟨i,hi,ec⟩:=ok.odd e h;unfold bz;rw[Dm];lia
 refine⟨cs,ts,e1,?_,?_⟩;rw[l1];refine Oe he ok.nd λe h=>?_;have:=bound e h;rw[uU];lia;rw[l1];exact bound _ he
end
structure fR(F:Nat->Option Fn):Prop where
 JC:F 173=aB eL
 JD:F 174=aB mw
theorem uL{cl:Call}{i:Nat}{ρ:En}{h:VH}{x:W}(e:ρ[i]?=aB (aB x)):ev cl (.var i) ρ h=.ok x h:=by rw[ev,e];rfl
theorem Cj{cl:Call}{a b:E}{ρ:En}{h h1 h2:VH}{x y z:W}(ea:ev cl a ρ h=.ok x h1)(eb:ev cl b ρ h1=.ok y h2)(e:bR h2 x y=aB z):ev cl (.idx a b) ρ h=.ok z h2:=by rw[ev,ea,aD,eb,aD,e];rfl
theorem Ck{cl:Call}{i:Nat}{a:E}{ρ:En}{h h1:VH}{x:W}(ea:ev cl a ρ h=.ok x h1):exs cl (.set i a) ρ h=.ok (.nx (ρ.set i (aB x))) h1:=by rw[exs,ea];rfl
theorem JE{h:VH}{x:W}{r:List W}:bR h (.tup (x::r)) (.int 0)=aB x:=lu (j:=0) (xs:=x::r) rfl
theorem JF{h:VH}{i:Int}:dj h (.int i) .aQ=aB false:=rfl
section
variable{F:Nat->Option Fn}(C:fR F)
include C
theorem XX{k:Nat}{h0:VH}{gs:List VO}{cs ts:List W}{ls:List Int}{w:W}{c wd hd:Int}(hm:jX w c wd (ls.length:Int)) :
 run F (k+1) 173 [w,.int hd,.ref (h0.n+2),.aQ] (st3 h0 gs cs ts (ls.map .int))=match bM w hd ls with
  |none=>.ok .aQ (st3 h0 gs cs ts (ls.map .int))
  |some (d,_,l)=>.ok (.int d) (st3 h0 gs cs ts (l.map .int)):=by
 rw[iF C.JC rfl];rcases B0 hm with⟨rfl,h3,h4⟩|⟨rfl,h3⟩|⟨rfl,h3⟩|rfl|rfl|⟨p,q,rfl,h3,h4,h5,h6⟩
 rw[E9];simp[eL,exs,ev,bJ,jl];rw[Fb];simp[eL,exs,ev,bJ,jl];rw[Fc];simp[eL,exs,ev,bJ,jl];rw[Fd];simp[eL,exs,ev,bJ,jl];rw[Fe];simp[eL,exs,ev,bJ,jl];rw[Ff];have hp:p<ls.length:=by lia
 have e1:=N5 hp;have g:VH.get ⟨(st3 h0 gs cs ts (ls.map .int)).n,(st3 h0 gs cs ts (ls.map .int)).n,(st3 h0 gs cs ts (ls.map .int)).os⟩ (h0.n+2)=aB (.lst (ls.map .int)):=by rw[dw];exact B3
 have e2:i8 (ls.map W.int).length (p:Int)=aB p:=Jq (by rw[bG];exact hp);have e3:exs (run F k) eL.body [aB (.tup [.int p,.int q]),aB (.int hd),aB (.ref (h0.n+2)),aB .aQ,aC,aC,aC] ⟨(st3 h0 gs cs ts (ls.map .int)).n,(st3 h0 gs cs ts (ls.map .int)).n,(st3 h0 gs cs ts (ls.map .int)).os⟩=.ok (.rt (.int (if ls.getD p 0=q then -1 else 1))) (VH.set ⟨(st3 h0 gs cs ts (ls.map .int)).n,(st3 h0 gs cs ts (ls.map .int)).n,(st3 h0 gs cs ts (ls.map .int)).os⟩ (h0.n+2) (.lst ((ls.set p (1-ls.getD p 0)).map .int))):=by
  rw[List.map_set];generalize ls.getD p 0=y at e1 ⊢;by_cases z:y=(q:Int)
  simp only[eL,exs,ev,bL,aV,rJ,nR,lS,n9,bO,aD,mC,iC,pH,eN,oh,mP,bR,g,e1,iE,gH,e2,bJ,uG,JF,Dn,z,yG,cC];simp only[eL,exs,ev,bL,aV,rJ,nR,lS,n9,bO,aD,mC,iC,pH,eN,oh,mP,bR,g,e1,iE,gH,e2,bJ,uG,JF,Dn,z,decide_false,dg]
 show fin _ (exs (run F k) eL.body [aB (.tup [.int p,.int q]),aB (.int hd),aB (.ref (h0.n+2)),aB .aQ,aC,aC,aC] _)=_;rw[e3];exact Xw
theorem XY{k:Nat}{h0:VH}{b l f:W}{r:List W}{c wd hd:Int}{cs ts:List W}{ls:List Int}{y:Option W}(ok:(r.length:Int)=wd/\dz wd (ls.length:Int) 0 r)(c0:0<=c)(c1:c<wd)(hc:cs.length<=1000)(ht:ts.length<=1000) :
 exs (run F (k+1)) BU [aB b,aB l,aB f,aB .aQ,aB (.int c),aB (.ref h0.n),aB (.ref (h0.n+1)),aB (.ref (h0.n+2)),aB (.int hd),aB (.tup r),y] (st3 h0 [] cs ts (ls.map .int))=match bM (bA r c) hd ls with
  |none=>.ok (.bk [aB b,aB l,aB f,aB .aQ,aB (.int c),aB (.ref h0.n),aB (.ref (h0.n+1)),aB (.ref (h0.n+2)),aB .aQ,aB (.tup r),aB (bA r c)]) (st3 h0 [] cs ts (ls.map .int))
  |some (d,t,l')=>.ok (.nx [aB b,aB l,aB f,aB .aQ,aB (.int (c+d)),aB (.ref h0.n),aB (.ref (h0.n+1)),aB (.ref (h0.n+2)),aB (.int d),aB (.tup r),aB (bA r c)]) (st3 h0 [] (cs++[.int (c+d)]) (ts++t.map .int) (l'.map .int)):=by
 obtain⟨_,hm⟩:=yw ok c0 c1;have e0:=N6 ok c0 c1;generalize bA r c=w at hm e0 ⊢;have e1:=XX C (k:=k) (h0:=h0) (gs:=[]) (cs:=cs) (ts:=ts) (hd:=hd) hm;unfold BU;rw[bE (ρ':=[aB b,aB l,aB f,aB .aQ,aB (.int c),aB (.ref h0.n),aB (.ref (h0.n+1)),aB (.ref (h0.n+2)),aB (.int hd),aB (.tup r),aB w]) (h':=st3 h0 [] cs ts (ls.map .int)) (Ck (Cj (x:=.tup r) (y:=.int c) (uL rfl) (uL rfl) e0))];have key:∀(d:Int)(l':List Int)(t:List Int),bM w hd ls=aB (d,t,l')->exs (run F (k+1)) (.seq (.ite (.and (.p9 (.vL .tuple (.var 10))) (.cmp .ne (.idx (.var 10) (.cst (.int (0)))) (.var 3))) (.seq (.expr (.mt .append (.var 6) (.cons (.idx (.var 10) (.cst (.int (0)))) .nil))) .skip) .skip) (.seq (.aug 4 .add (.var 8)) (.seq (.expr (.mt .append (.var 5) (.cons (.var 4) .nil))) .skip))) [aB b,aB l,aB f,aB .aQ,aB (.int c),aB (.ref h0.n),aB (.ref (h0.n+1)),aB (.ref (h0.n+2)),aB (.int d),aB (.tup r),aB w] (st3 h0 [] cs ts (l'.map .int))=.ok (.nx [aB b,aB l,aB f,aB .aQ,aB (.int (c+d)),aB (.ref h0.n),aB (.ref (h0.n+1)),aB (.ref (h0.n+2)),aB (.int d),aB (.tup r),aB w]) (st3 h0 [] (cs++[.int (c+d)]) (ts++t.map .int) (l'.map .int)):=by
  intro d l' t es;have fin:∀ts':List W,exs (run F (k+1)) (.seq (.aug 4 .add (.var 8)) (.seq (.expr (.mt .append (.var 5) (.cons (.var 4) .nil))) .skip)) [aB b,aB l,aB f,aB .aQ,aB (.int c),aB (.ref h0.n),aB (.ref (h0.n+1)),aB (.ref (h0.n+2)),aB (.int d),aB (.tup r),aB w] (st3 h0 [] cs ts' (l'.map .int))=.ok (.nx [aB b,aB l,aB f,aB .aQ,aB (.int (c+d)),aB (.ref h0.n),aB (.ref (h0.n+1)),aB (.ref (h0.n+2)),aB (.int d),aB (.tup r),aB w]) (st3 h0 [] (cs++[.int (c+d)]) ts' (l'.map .int)):=by intro ts';rw[bE (ρ':=[aB b,aB l,aB f,aB .aQ,aB (.int (c+d)),aB (.ref h0.n),aB (.ref (h0.n+1)),aB (.ref (h0.n+2)),aB (.int d),aB (.tup r),aB w]) (h':=st3 h0 [] cs ts' (l'.map .int)) rfl];have ea:=N1 (cl:=run F (k+1)) (i:=5) (l:=h0.n) (x:=.var 4) (ρ:=[aB b,aB l,aB f,aB .aQ,aB (.int (c+d)),aB (.ref h0.n),aB (.ref (h0.n+1)),aB (.ref (h0.n+2)),aB (.int d),aB (.tup r),aB w]) (h:=st3 h0 [] cs ts' (l'.map .int)) (h1:=st3 h0 [] cs ts' (l'.map .int)) (w:=.int (c+d)) (acc:=cs) (wO:=cs) rfl wQ (by simp[ev]) wQ (by lia);rw[Xu]at ea;simp only[exs,ea,aD]
  rcases B0 hm with⟨rfl,h3,h4⟩|⟨rfl,h3⟩|⟨rfl,h3⟩|rfl|rfl|⟨p,q,rfl,h3,h4,h5,h6⟩;rw[E9]at es;cases es;rw[bE (ρ':=[aB b,aB l,aB f,aB .aQ,aB (.int c),aB (.ref h0.n),aB (.ref (h0.n+1)),aB (.ref (h0.n+2)),aB (.int hd),aB (.tup r),aB (.str sX)]) (h':=st3 h0 [] cs ts (ls.map .int)) rfl,fin];simp;rw[Fb]at es;cases es;rw[bE (ρ':=[aB b,aB l,aB f,aB .aQ,aB (.int c),aB (.ref h0.n),aB (.ref (h0.n+1)),aB (.ref (h0.n+2)),aB (.int (-1)),aB (.tup r),aB (.str fJ)]) (h':=st3 h0 [] cs ts (ls.map .int)) rfl,fin];simp;rw[Fc]at es;cases es;rw[bE (ρ':=[aB b,aB l,aB f,aB .aQ,aB (.int c),aB (.ref h0.n),aB (.ref (h0.n+1)),aB (.ref (h0.n+2)),aB (.int 1),aB (.tup r),aB (.str jY)]) (h':=st3 h0 [] cs ts (ls.map .int)) rfl,fin];simp;rw[Fd]at es;cases es;rw[bE (ρ':=[aB b,aB l,aB f,aB .aQ,aB (.int c),aB (.ref h0.n),aB (.ref (h0.n+1)),aB (.ref (h0.n+2)),aB (.int 0),aB (.tup r),aB (.str dU)]) (h':=st3 h0 [] cs ts (ls.map .int)) rfl,fin];simp;rw[Fe]at es;cases es;rw[Ff]at es;cases es;have ea:=N1 (cl:=run F (k+1)) (i:=6) (l:=h0.n+1) (x:=.idx (.var 10) (.cst (.int 0))) (ρ:=[aB b,aB l,aB f,aB .aQ,aB (.int c),aB (.ref h0.n),aB (.ref (h0.n+1)),aB (.ref (h0.n+2)),aB (.int (if ls.getD p 0=q then -1 else 1)),aB (.tup r),aB (.tup [.int p,.int q])]) (h:=st3 h0 [] cs ts ((ls.set p (1-ls.getD p 0)).map .int)) (h1:=st3 h0 [] cs ts ((ls.set p (1-ls.getD p 0)).map .int)) (w:=.int p) (acc:=ts) (wO:=ts) rfl wR (by simp[ev,bR];rfl) wR (by lia);rw[Xv]at ea;have eb:exs (run F (k+1)) (.ite (.and (.p9 (.vL .tuple (.var 10))) (.cmp .ne (.idx (.var 10) (.cst (.int (0)))) (.var 3))) (.seq (.expr (.mt .append (.var 6) (.cons (.idx (.var 10) (.cst (.int (0)))) .nil))) .skip) .skip) [aB b,aB l,aB f,aB .aQ,aB (.int c),aB (.ref h0.n),aB (.ref (h0.n+1)),aB (.ref (h0.n+2)),aB (.int (if ls.getD p 0=q then -1 else 1)),aB (.tup r),aB (.tup [.int p,.int q])] (st3 h0 [] cs ts ((ls.set p (1-ls.getD p 0)).map .int))=.ok (.nx [aB b,aB l,aB f,aB .aQ,aB (.int c),aB (.ref h0.n),aB (.ref (h0.n+1)),aB (.ref (h0.n+2)),aB (.int (if ls.getD p 0=q then -1 else 1)),aB (.tup r),aB (.tup [.int p,.int q])]) (st3 h0 [] cs (ts++[.int p]) ((ls.set p (1-ls.getD p 0)).map .int)):=by
   rw[exs];have e5:ev (run F (k+1)) (.and (.p9 (.vL .tuple (.var 10))) (.cmp .ne (.idx (.var 10) (.cst (.int (0)))) (.var 3))) [aB b,aB l,aB f,aB .aQ,aB (.int c),aB (.ref h0.n),aB (.ref (h0.n+1)),aB (.ref (h0.n+2)),aB (.int (if ls.getD p 0=q then -1 else 1)),aB (.tup r),aB (.tup [.int p,.int q])] (st3 h0 [] cs ts ((ls.set p (1-ls.getD p 0)).map .int))=.ok (.bl true) (st3 h0 [] cs ts ((ls.set p (1-ls.getD p 0)).map .int)):=by simp[ev,JE,bJ,JF]
   rw[e5,aD];simp only[exs,ea,aD]
  rw[bE eb,fin];rfl
 cases es:bM w hd ls with
 |none=>
  rw[es]at e1;rw[bE (ρ':=[aB b,aB l,aB f,aB .aQ,aB (.int c),aB (.ref h0.n),aB (.ref (h0.n+1)),aB (.ref (h0.n+2)),aB .aQ,aB (.tup r),aB w]) (h':=st3 h0 [] cs ts (ls.map .int)) (by simp only[exs,ev,nR,lS,n9,bO,aD,e1,oh,mP])];exact Xx rfl
 |some q=>
  obtain⟨d,t,l'⟩:=q;rw[es]at e1;rw[bE (ρ':=[aB b,aB l,aB f,aB .aQ,aB (.int c),aB (.ref h0.n),aB (.ref (h0.n+1)),aB (.ref (h0.n+2)),aB (.int d),aB (.tup r),aB w]) (h':=st3 h0 [] cs ts (l'.map .int)) (by simp only[exs,ev,nR,lS,n9,bO,aD,e1,oh,mP])];rw[bE (ρ':=[aB b,aB l,aB f,aB .aQ,aB (.int c),aB (.ref h0.n),aB (.ref (h0.n+1)),aB (.ref (h0.n+2)),aB (.int d),aB (.tup r),aB w]) (h':=st3 h0 [] cs ts (l'.map .int)) rfl];exact key d l' t es
theorem Ox{k:Nat}{h0:VH}{b l f:W}{wd:Int}:∀(rs:List (List W)) (c hd:Int) (cs ts:List W) (ls:List Int) (x y:Option W),uH wd (ls.length:Int) rs->0<=c->c<wd->-1<=hd->hd<=1->fC ls->cs.length+rs.length<=1000->ts.length+rs.length<=1000->
 ∃c' hd' x' y',forL (bL (.one 9)) (exs (run F (k+1)) BU) (rs.map .tup) [aB b,aB l,aB f,aB .aQ,aB (.int c),aB (.ref h0.n),aB (.ref (h0.n+1)),aB (.ref (h0.n+2)),aB (.int hd),x,y] (st3 h0 [] cs ts (ls.map .int)) =
  .ok (.nx [aB b,aB l,aB f,aB .aQ,c',aB (.ref h0.n),aB (.ref (h0.n+1)),aB (.ref (h0.n+2)),hd',x',y']) (st3 h0 [] (cs++(aH rs c hd ls).cs.map .int) (ts++(aH rs c hd ls).ts.map .int) ((aH rs c hd ls).ls.map .int))
 |[],c,hd,cs,ts,ls,x,y,_,_,_,_,_,_,_,_=>⟨aB (.int c),aB (.int hd),x,y,by simp[forL,aH]⟩
 |r::rs,c,hd,cs,ts,ls,x,y,ok,c0,c1,h1,h2,bi,hc,ht=>by
  have hc':cs.length+rs.length+1<=1000:=by rw[cY]at hc;lia
  have ht':ts.length+rs.length+1<=1000:=by rw[cY]at ht;lia
  have eb:=XY C (k:=k) (h0:=h0) (b:=b) (l:=l) (f:=f) (hd:=hd) (cs:=cs) (ts:=ts) (y:=y) (ok r eX) c0 c1 (by lia) (by lia);obtain⟨_,hm⟩:=yw (ok r eX) c0 c1;cases e:bM (bA r c) hd ls with
  |none=>
   rw[e]at eb;rw[Xr e];refine⟨aB (.int c),aB .aQ,aB (.tup r),aB (bA r c),?_⟩;simp only[dH,forL,bL,oh,mP,eb,aD,uZ,nP]
  |some q=>
   obtain⟨d,t,l'⟩:=q;rw[e]at eb;obtain⟨a1,a2,a3,a4,a5,a6,a7⟩:=Jl hm c0 c1 h1 h2 bi e;obtain⟨c',hd',x',y',ih⟩:=Ox (k:=k) (h0:=h0) (b:=b) (l:=l) (f:=f) rs (c+d) d (cs++[.int (c+d)]) (ts++t.map .int) l' (aB (.tup r)) (aB (bA r c)) (λr hr=>by rw[a5];exact ok r (eW _ hr)) a3 a4 a1 a2 a6 (by simp only[eY,yN];lia) (by simp only[eY,bG];lia);rw[Xs e];refine⟨c',hd',x',y',?_⟩;simp only[dH,forL,bL,oh,mP,eb,aD,ih,fZ,yQ,List.singleton_append]
theorem XZ{k:Nat}{h:VH}{B:Bd}{ls:List Int}{f:Nat}(b:B.Ok)(hf:f<B.fd.length)(hl:(ls.length:Int)=B.gr)(bi:fC ls):run F (k+2) 174 [B.w,iW ls,.int f,.aQ] h=.ok (sN B ls f) h:=by
 rw[iF C.JD rfl];obtain⟨e0,c0,c1⟩:=b.col hf;have hr:=b.r1;obtain⟨c',hd',x',y',el⟩:=Ox C (k:=k) (h0:=h) (b:=B.w) (l:=iW ls) (f:=.int f) B.rows (B.col f) 0 [.int (B.col f)] [] ls aC aC (b.rows hl) c0 c1 (by decide) (by decide) bi (by rw[yN];lia) (by rw[yR];lia);have e1:fE B.fd (f:Int)=aB (.int (B.col f)):=lu e0;have i3:fE [W.int B.wd,.int B.gr,.tup (B.rows.map .tup),.tup B.fd,.tup B.dr] 3=aB (.tup B.fd):=rfl;have i2:fE [W.int B.wd,.int B.gr,.tup (B.rows.map .tup),.tup B.fd,.tup B.dr] 2=aB (.tup (B.rows.map .tup)):=rfl;have hz:(B.rows.map W.tup).length<1000000:=by rw[bG];lia
 have eb:exs (run F (k+1)) mw.body [aB B.w,aB (iW ls),aB (.int f),aB .aQ,aC,aC,aC,aC,aC,aC,aC] ⟨h.n,h.n,h.os⟩=.ok (.rt (sN B ls f)) (st3 h [] (([.int (B.col f)]:List W)++(aH B.rows (B.col f) 0 ls).cs.map .int) (([]:List W)++(aH B.rows (B.col f) 0 ls).ts.map .int) ((aH B.rows (B.col f) 0 ls).ls.map .int)):=by
  show exs (run F (k+1)) (.seq _ _) _ _=_;rw[bE (ρ':=[aB B.w,aB (iW ls),aB (.int f),aB .aQ,aB (.int (B.col f)),aC,aC,aC,aC,aC,aC]) (h':=⟨h.n,h.n,h.os⟩) (by unfold Bd.w;simp[exs,ev,bR,i3,e1])];rw[bE (ρ':=[aB B.w,aB (iW ls),aB (.int f),aB .aQ,aB (.int (B.col f)),aB (.ref h.n),aC,aC,aC,aC,aC]) (h':=VH.new ⟨h.n,h.n,h.os⟩ (.lst [.int (B.col f)])) (by simp[exs,ev])];rw[bE (ρ':=[aB B.w,aB (iW ls),aB (.int f),aB .aQ,aB (.int (B.col f)),aB (.ref h.n),aB (.ref (h.n+1)),aC,aC,aC,aC]) (h':=VH.new (VH.new ⟨h.n,h.n,h.os⟩ (.lst [.int (B.col f)])) (.lst [])) (by simp[exs,ev,VH.new])];rw[bE (ρ':=[aB B.w,aB (iW ls),aB (.int f),aB .aQ,aB (.int (B.col f)),aB (.ref h.n),aB (.ref (h.n+1)),aB (.ref (h.n+2)),aC,aC,aC]) (h':=st3 h [] [.int (B.col f)] [] (ls.map .int)) (by unfold iW;simp[exs,ev,VH.new,mh,iO,aV,st3])];rw[bE (ρ':=[aB B.w,aB (iW ls),aB (.int f),aB .aQ,aB (.int (B.col f)),aB (.ref h.n),aB (.ref (h.n+1)),aB (.ref (h.n+2)),aB (.int 0),aC,aC]) (h':=st3 h [] [.int (B.col f)] [] (ls.map .int)) (by simp[exs,ev])];have ei:ev (run F (k+1)) (.idx (.var 0) (.cst (.int (2)))) [aB B.w,aB (iW ls),aB (.int f),aB .aQ,aB (.int (B.col f)),aB (.ref h.n),aB (.ref (h.n+1)),aB (.ref (h.n+2)),aB (.int 0),aC,aC] (st3 h [] [.int (B.col f)] [] (ls.map .int))=.ok (.tup (B.rows.map .tup)) (st3 h [] [.int (B.col f)] [] (ls.map .int)):=by unfold Bd.w;simp[ev,bR,i2]
  have ef:=NV (tg:=bL (.one 9)) (b:=exs (run F (k+1)) BU) (ρ:=[aB B.w,aB (iW ls),aB (.int f),aB .aQ,aB (.int (B.col f)),aB (.ref h.n),aB (.ref (h.n+1)),aB (.ref (h.n+2)),aB (.int 0),aC,aC]) (h:=st3 h [] [.int (B.col f)] [] (ls.map .int)) hz;rw[el]at ef;refine(bE (by rw[exs,ei,aD,ef])).trans ?_;have et:=Js (cl:=run F (k+1)) (Jr (i:=5) (ρ:=[aB B.w,aB (iW ls),aB (.int f),aB .aQ,c',aB (.ref h.n),aB (.ref (h.n+1)),aB (.ref (h.n+2)),hd',x',y']) rfl (wQ (h:=h) (gs:=[]) (c:=([.int (B.col f)]:List W)++(aH B.rows (B.col f) 0 ls).cs.map .int) (t:=([]:List W)++(aH B.rows (B.col f) 0 ls).ts.map .int) (l:=(aH B.rows (B.col f) 0 ls).ls.map .int))) (Jr (i:=6) rfl wR) (Jr (i:=7) rfl B3);simp only[exs,et,aD];rfl
 show fin h (exs (run F (k+1)) mw.body [aB B.w,aB (iW ls),aB (.int f),aB .aQ,aC,aC,aC,aC,aC,aC,aC] ⟨h.n,h.n,h.os⟩)=_;rw[eb];exact jl (bg _) Xy
end
theorem Oz{n:Nat}:∀{ws:List W},(∀w∈ws,W.lt n w=true)->W.l8 n ws=true|[],_=>by simp|w::r,h=>by rw[iT,h w eX,Oz λw hw=>h w (eW _ hw)];rfl
section
variable{F:Nat->Option Fn}
theorem OA{m:Nat}:∀(n:Nat) (w:W),gv n w=true->W.lt m w=true
 |0,_,e=>by cases e
 |n+1,w,e=>by
  cases w<;>simp only[gv]at e<;>try(cases e;done)
  simp;simp;simp;simp;rw[lH];exact Oz λw hw=>OA n w (i6.mp e w hw)
end
section
variable{F:Nat->Option Fn}(C:kJ F)
include C
theorem OB{k:Nat}:∀(ns:List Int) (x:Option W) (h:VH),∃cells:List Int,uF (bL (.one 0)) (ev (run F k) zdt) (ev (run F k) uo) (ns.map .int) [x] h=.ok (cells.map .int) h/\(∀y∈cells,(0:Int)<=y)/\cells.length<=ns.length
 |[],x,h=>⟨[],rfl,(λy hy=>by cases hy),bg _⟩
 |n::ns,x,h=>by
  obtain⟨cells,e,h1,h2⟩:=OB (k:=k) ns (aB (.int n)) h;have G4:((10:Int).natAbs<2 ^ 64):=by decide
  have ec:ev (run F k) zdt [aB (.int n)] h=.ok (.bl (decide (1000000000000000000<=(n.natAbs:Int)))) h:=by simp[zdt,ev,mh,lC,iE,gH,bJ,kC,Jj]
  have ee:ev (run F k) uo [aB (.int n)] h=.ok (.int (n.natAbs:Int)) h:=by simp[uo,ev,mh,lC,Jj]
  by_cases q:1000000000000000000<=(n.natAbs:Int)
  refine⟨(n.natAbs:Int)::cells,?_,λy hy=>?_,by rw[cY,cY];lia⟩;simp only[uF,dH,bL,List.set,ec,aD,q,yG,ee,e];rcases fV.mp hy with rfl|hy
  lia;exact h1 y hy;refine⟨cells,?_,h1,by rw[cY];lia⟩;simp only[uF,dH,bL,List.set,ec,aD,q,decide_false,e]
theorem JG{k:Nat}{h:VH}{ns:List Int}(hl:ns.length<=63):∃h',run F (k+1) 3 [.fz (ns.map .int)] h=.ok (.ref (h.n+1)) h'/\Dk h' (h.n+1) h.n 0:=by
 rw[iF C.f3 rfl];obtain⟨cells,e,h1,h2⟩:=OB C (k:=k) ns aC ⟨h.n,h.n,h.os⟩;have l:=Jg (nx:=aZ .seq (.fz (ns.map .int))) (tg:=bL (.one 0)) (c:=ev (run F k) zdt) (e:=ev (run F k) uo) (ws:=ns.map .int) (λi h=>rfl) fuel 0 [aC] ⟨h.n,h.n,h.os⟩ [] (kT _) (by rw[bG];unfold fuel;lia);rw[Df,e]at l;have l:gC (aZ .seq (.fz (ns.map .int))) (bL (.one 0)) (ev (run F k) zdt) (ev (run F k) uo) fuel 0 [aC] ⟨h.n,h.n,h.os⟩ []=.ok (cells.map .int) ⟨h.n,h.n,h.os⟩:=l;have q:ev (run F k) (.lc .seq (.var 0) (.one 0) 1 [] zdt uo) [aB (.fz (ns.map .int))] ⟨h.n,h.n,h.os⟩=.ok (.ref h.n) (VH.new ⟨h.n,h.n,h.os⟩ (.lst (cells.map .int))):=by rw[ev];have:ev (run F k) (.var 0) [aB (.fz (ns.map .int))] ⟨h.n,h.n,h.os⟩=.ok (.fz (ns.map .int)) ⟨h.n,h.n,h.os⟩:=rfl;rw[this,aD];show(gC (aZ .seq (.fz (ns.map .int))) (bL (.one 0)) (ev (run F k) zdt) (ev (run F k) uo) fuel 0 [aC] ⟨h.n,h.n,h.os⟩ []).bind _=_;rw[l,aD,if_pos (nC (by rw[bG];lia))]
 let sP:VH:=VH.new ⟨h.n,h.n,h.os⟩ (.lst (cells.map .int));let o:VO:=.lst [.fz (ns.map .int),.ref h.n,.int 0,.int 0];have eb:exs (run F k) BO.body [aB (.fz (ns.map .int))] ⟨h.n,h.n,h.os⟩=.ok (.rt (.ref (h.n+1))) (sP.new o):=by simp only[BO,exs,ev,aD,bO,n9,nR]at q ⊢;rw[q];rfl
 refine⟨⟨h.n+2,if Nat.ble h.lo h.n then h.lo else h.n,(sP.new o).os⟩,?_,?_⟩;show fin h (exs (run F k) BO.body [aB (.fz (ns.map .int))] ⟨h.n,h.n,h.os⟩)=_;rw[eb];show leave h (.ref (h.n+1)) (sP.new o)=_;unfold leave;rw[if_neg (by
  rw[bY];intro z;have:=z.2;simp only[W.lt]at this;have:=gO.mp this;lia)]
 rfl;refine⟨by lia,ns,cells,0,0,?_,?_,h1,by lia,by lia,by lia,by lia⟩;show VH.get ⟨(sP.new o).n,_,(sP.new o).os⟩ (h.n+1)=_;rw[dw];exact dS (h:=sP);show VH.get ⟨(sP.new o).n,_,(sP.new o).os⟩ h.n=_;rw[dw,ig (h:=sP) (by show h.n<h.n+1;lia)];exact dS (h:=⟨h.n,h.n,h.os⟩)
end
theorem gW{cl:Call}{o:Op}{a b:E}{ρ:En}{h h1 h2:VH}{x y:W}{r:Res W}(ea:ev cl a ρ h=.ok x h1)(eb:ev cl b ρ h1=.ok y h2)(e:iE o x y h2=r):ev cl (.op o a b) ρ h=r:=by rw[ev,ea,aD,eb,aD,e]
theorem fS{cl:Call}{a:E}{ρ:En}{h h1:VH}{x:W}(ea:ev cl a ρ h=.ok x h1):exs cl (.ret a) ρ h=.ok (.rt x) h1:=by rw[exs,ea,aD]
theorem cA{cl:Call}{i:Nat}{a:E}{ρ:En}{h h1:VH}{x:W}(ea:ev cl a ρ h=.ok x h1):exs cl (.set i a) ρ h=.ok (.nx (ρ.set i (aB x))) h1:=by rw[exs,ea,aD]
theorem aE{cl:Call}{i:Nat}{ρ:En}{h:VH}{x:W}(e:ρ[i]?=aB (aB x)):ev cl (.var i) ρ h=.ok x h:=by rw[ev,e];rfl
theorem cX{cl:Call}{a b:E}{ρ:En}{h h1 h2:VH}{x y z:W}(ea:ev cl a ρ h=.ok x h1)(eb:ev cl b ρ h1=.ok y h2)(e:bR h2 x y=aB z):ev cl (.idx a b) ρ h=.ok z h2:=by rw[ev,ea,aD,eb,aD,e];rfl
theorem lJ{cl:Call}{a:E}{ρ:En}{h h1:VH}{x:W}{ws:List W}(ea:ev cl a ρ h=.ok x h1)(e:aV h1 x=aB ws):ev cl (.bi .len (.cons a .nil)) ρ h=.ok (.int ws.length) h1:=by rw[ev,ev,ea,aD,ev,aD];show jf [x] h1=_;simp only[jf,e,bO]
theorem Cm{cl:Call}{ρ:En}{h h1 h':VH}{n:Nat}{a:E}{x w:W}(ea:ev cl a ρ h=.ok x h1)(e:cl n [x] h1=.ok w h'):ev cl (.call n (.cons a .nil)) ρ h=.ok w h':=by rw[ev,ev,ea,aD,ev];exact e
theorem mG{cl:Call}{ρ:En}{h h1 h2 h':VH}{n:Nat}{a b:E}{x y w:W}(ea:ev cl a ρ h=.ok x h1)(eb:ev cl b ρ h1=.ok y h2)(e:cl n [x,y] h2=.ok w h'):ev cl (.call n (.cons a (.cons b .nil))) ρ h=.ok w h':=by rw[ev,ev,ea,aD,ev,eb,aD,ev];exact e
theorem sQ{cl:Call}{ρ:En}{h h1 h2 h3 h':VH}{n:Nat}{a b c:E}{x y z w:W}(ea:ev cl a ρ h=.ok x h1)(eb:ev cl b ρ h1=.ok y h2)(ec:ev cl c ρ h2=.ok z h3)(e:cl n [x,y,z] h3=.ok w h'):ev cl (.call n (.cons a (.cons b (.cons c .nil)))) ρ h=.ok w h':=by rw[ev,ev,ea,aD,ev,eb,aD,ev,ec,aD,ev];exact e
theorem X0{cl:Call}{ρ:En}{h h1 h2 h3 h4 h':VH}{n:Nat}{a b c d:E}{x y z u w:W}(ea:ev cl a ρ h=.ok x h1)(eb:ev cl b ρ h1=.ok y h2)(ec:ev cl c ρ h2=.ok z h3)(ed:ev cl d ρ h3=.ok u h4)(e:cl n [x,y,z,u] h4=.ok w h'):ev cl (.call n (.cons a (.cons b (.cons c (.cons d .nil))))) ρ h=.ok w h':=by rw[ev,ev,ea,aD,ev,eb,aD,ev,ec,aD,ev,ed,aD,ev];exact e
theorem jC{cl:Call}{a b:E}{ρ:En}{h h1 h2:VH}{x y:W}(ea:ev cl a ρ h=.ok x h1)(eb:ev cl b ρ h1=.ok y h2):ev cl (.tup (.cons a (.cons b .nil))) ρ h=.ok (.tup [x,y]) h2:=by rw[ev,ev,ea,aD,ev,eb,aD,ev];rfl
theorem Cn{cl:Call}{a b c:E}{ρ:En}{h h1 h2 h3:VH}{x y z:W}(ea:ev cl a ρ h=.ok x h1)(eb:ev cl b ρ h1=.ok y h2)(ec:ev cl c ρ h2=.ok z h3):ev cl (.tup (.cons a (.cons b (.cons c .nil)))) ρ h=.ok (.tup [x,y,z]) h3:=by rw[ev,ev,ea,aD,ev,eb,aD,ev,ec,aD,ev];rfl
theorem uM{cl:Call}{a b c d e:E}{ρ:En}{h h1 h2 h3 h4 h5:VH}{x y z u v:W}(ea:ev cl a ρ h=.ok x h1)(eb:ev cl b ρ h1=.ok y h2)(ec:ev cl c ρ h2=.ok z h3)(ed:ev cl d ρ h3=.ok u h4)(ee:ev cl e ρ h4=.ok v h5):ev cl (.tup (.cons a (.cons b (.cons c (.cons d (.cons e .nil)))))) ρ h=.ok (.tup [x,y,z,u,v]) h5:=by rw[ev,ev,ea,aD,ev,eb,aD,ev,ec,aD,ev,ed,aD,ev,ee,aD,ev];rfl
theorem nZ{nx:Nat->VH->Option (Option W)}{tg:W->VH->En->Option En}{b:FS}{n:Nat}{I:Nat->En->VH->Prop}
 (go:∀i ρ h,i<n->I i ρ h->∃w dZ pL h2,nx i h=aB (aB w)/\tg w h ρ=aB dZ/\b dZ h=.ok (.nx pL) h2/\I (i+1) pL h2)
 (stop:∀ρ h,I n ρ h->nx n h=aB aC) :
 ∀(m i fu:Nat)(ρ:En)(h:VH),i+m=n->m<fu->I i ρ h->∃ρ' h',eE nx tg b fu i ρ h=.ok (.nx ρ') h'/\I n ρ' h'
 |_,_,0,_,_,_,hf,_=>by lia
 |0,i,fu+1,ρ,h,hi,_,hI=>by
  obtain rfl:i=n:=by lia
  refine⟨ρ,h,?_,hI⟩;simp only[eE,stop ρ h hI]
 |m+1,i,fu+1,ρ,h,hi,hf,hI=>by
  obtain⟨w,dZ,pL,h2,e1,e2,e3,lF⟩:=go i ρ h (by lia) hI;obtain⟨ρ',h',e4,xj⟩:=nZ go stop m (i+1) fu pL h2 (by lia) (by lia) lF;refine⟨ρ',h',?_,xj⟩;simp only[eE,e1,e2,e3,aD,e4]
theorem OC{nx:Nat->VH->Option (Option W)}{tg:W->VH->En->Option En}{e:FE}{n:Nat}{I:Nat->En->VH->List W->Prop}
 (go:∀i ρ h acc,i<n->I i ρ h acc->∃w dZ y h2,nx i h=aB (aB w)/\tg w h ρ=aB dZ/\e dZ h=.ok y h2/\I (i+1) dZ h2 (acc++[y]))
 (stop:∀ρ h acc,I n ρ h acc->nx n h=aB aC) :
 ∀(m i fu:Nat)(ρ:En)(h:VH)(acc:List W),i+m=n->m<fu->I i ρ h acc->∃ys ρ' h',gC nx tg (λ_ h=>.ok (.bl true) h) e fu i ρ h acc.reverse=.ok ys h'/\I n ρ' h' ys
 |_,_,0,_,_,_,_,hf,_=>by lia
 |0,i,fu+1,ρ,h,acc,hi,_,hI=>by
  obtain rfl:i=n:=by lia
  refine⟨acc,ρ,h,?_,hI⟩;simp only[gC,stop ρ h acc hI,List.reverse_reverse]
 |m+1,i,fu+1,ρ,h,acc,hi,hf,hI=>by
  obtain⟨w,dZ,y,h2,e1,e2,e3,lF⟩:=go i ρ h acc (by lia) hI;obtain⟨ys,ρ',h',e4,xj⟩:=OC go stop m (i+1) fu dZ h2 (acc++[y]) (by lia) (by lia) lF;refine⟨ys,ρ',h',?_,xj⟩;rw[List.reverse_append]at e4;simp only[gC,e1,e2,aD,e3];exact e4
theorem Fy{nx:Nat->VH->Option (Option W)}{tg:W->VH->En->Option En}{c e v:FE}{n:Nat}{I:Nat->En->VH->Kv->Prop}
 (go:∀i ρ h acc,i<n->I i ρ h acc->∃w dZ t h1,nx i h=aB (aB w)/\tg w h ρ=aB dZ/\c dZ h=.ok (.bl t) h1/\
   ((t=true/\∃x k y h2 h3,e dZ h1=.ok x h2/\v dZ h2=.ok y h3/\lB x=aB k/\Nat.blt acc.length big=true/\I (i+1) dZ h3 (bD acc k y))\/(t=false/\I (i+1) dZ h1 acc)))
 (stop:∀ρ h acc,I n ρ h acc->nx n h=aB aC) :
 ∀(m i fu:Nat)(ρ:En)(h:VH)(acc:Kv),i+m=n->m<fu->I i ρ h acc->∃ys ρ' h',jK nx tg c e v fu i ρ h acc=.ok ys h'/\I n ρ' h' ys
 |_,_,0,_,_,_,_,hf,_=>by lia
 |0,i,fu+1,ρ,h,acc,hi,_,hI=>by
  obtain rfl:i=n:=by lia
  refine⟨acc,ρ,h,?_,hI⟩;simp only[jK,stop ρ h acc hI]
 |m+1,i,fu+1,ρ,h,acc,hi,hf,hI=>by
  obtain⟨w,dZ,t,h1,e1,e2,e3,q⟩:=go i ρ h acc (by lia) hI;rcases q with⟨rfl,x,k,y,h2,h3,e4,e5,e6,e7,lF⟩|⟨rfl,lF⟩
  .obtain⟨ys,ρ',h',e8,xj⟩:=Fy go stop m (i+1) fu dZ h3 _ (by lia) (by lia) lF
   refine⟨ys,ρ',h',?_,xj⟩;simp only[jK,e1,e2,e3,aD,e4,e5,e6,e7,cC,e8]
  .obtain⟨ys,ρ',h',e8,xj⟩:=Fy go stop m (i+1) fu dZ h1 _ (by lia) (by lia) lF
   refine⟨ys,ρ',h',?_,xj⟩;simp only[jK,e1,e2,e3,aD,e8]
theorem mH{nx:Nat->VH->Option (Option W)}{tg:W->VH->En->Option En}{e:FE}{n:Nat}{I:Nat->En->VH->List W->Prop}
 (go:∀i ρ h acc,i<n->I i ρ h acc->∃w dZ y h2,nx i h=aB (aB w)/\tg w h ρ=aB dZ/\e dZ h=.ok y h2/\I (i+1) dZ h2 (acc++[y]))
 (stop:∀ρ h acc,I n ρ h acc->nx n h=aB aC) {ρ:En} {h:VH} (hn:n<1000000) (hI:I 0 ρ h []):∃ys ρ' h',gC nx tg (λ_ h=>.ok (.bl true) h) e fuel 0 ρ h []=.ok ys h'/\I n ρ' h' ys:=
 OC go stop n 0 fuel ρ h [] (i7 _) hn hI
theorem jD{n i:Nat}{h:VH}(hn:n<1000000):aZ .cD (.tup [.int n]) i h=aB (if i<n then aB (.int (i:Int))else aC):=by
 have hf:fits (n:Int)=true:=by unfold fits;simp;lia
 show(if fits (n:Int)then aB (if decide ((i:Int)<n)then aB (W.int (0+i))else aC)else aC)=_;rw[if_pos hf,Int.zero_add];by_cases q:i<n;rw[if_pos q,kO (by lia)];rfl;rw[if_neg q,iX (by lia)];rfl
theorem OD{h h':VH}{w:W}(hw:W.lt h.n w=false):∃h2,fin h (.ok (.rt w) h')=.ok w h2/\h2.n=h'.n/\(∀i,h2.get i=h'.get i)/\h2.lo=min h.lo h'.lo:=by refine⟨⟨h'.n,if Nat.ble h.lo h'.lo then h.lo else h'.lo,h'.os⟩,?_,rfl,λi=>rfl,?_⟩;show leave h w h'=_;unfold leave;rw[hw,Bool.and_false];rfl;show(if Nat.ble h.lo h'.lo then h.lo else h'.lo)=_;by_cases q:h.lo<=h'.lo;rw[if_pos (qL.mpr q)];lia;rw[if_neg (λz=>q (qL.mp z))];lia
theorem Co{i n:Nat}(h:n<=i):W.lt n (.ref i)=false:=by show Nat.blt i n=false;rw[<-Bool.not_eq_true,gO];lia
section
variable{cl:Call}{ρ:En}{h h1 h2 h3 h':VH}{a b r:E}
theorem aS{x:W}{xs:List W}(ea:ev cl a ρ h=.ok x h1)(er:ev cl r ρ h1=.ok (.tup xs) h2):ev cl (.cons a r) ρ h=.ok (.tup (x::xs)) h2:=by rw[ev,ea,aD,er];rfl
theorem bN:ev cl .nil ρ h=.ok (.tup []) h:=by rw[ev]
theorem aW{w:W}:ev cl (.cst w) ρ h=.ok w h:=by rw[ev]
theorem fk{ys:List W}(ea:ev cl a ρ h=.ok (.tup ys) h1)(hl:Nat.ble ys.length 1000):ev cl (.lst a) ρ h=.ok (.ref h1.n) (h1.new (.lst ys)):=by rw[ev,ea,aD];show(if Nat.ble ys.length 1000=true then _ else _)=_;rw[if_pos hl]
theorem JH{ys:List W}(ea:ev cl a ρ h=.ok (.tup ys) h1)(hl:Nat.ble ys.length 1000):ev cl (.tup a) ρ h=.ok (.tup ys) h1:=by rw[ev,ea,aD];show(if Nat.ble ys.length 1000=true then _ else _)=_;rw[if_pos hl]
theorem Cq{x:W}{ws:List W}(ea:ev cl a ρ h=.ok x h1)(e:aV h1 x=aB ws):ev cl (.bi .list (.cons a .nil)) ρ h=.ok (.ref h1.n) (h1.new (.lst ws)):=by rw[ev,aS ea bN,aD];show iO [x] h1=_;simp only[iO,e]
theorem qo{x:W}{ws:List W}(ea:ev cl a ρ h=.ok x h1)(e:aV h1 x=aB ws):ev cl (.bi .tuple (.cons a .nil)) ρ h=.ok (.tup ws) h1:=by rw[ev,aS ea bN,aD];show vN [x] h1=_;simp only[vN,e,bO]
theorem qp{k:Kd}{t:Tg}{ow:Nat}{ix:List Nat}{x:W}{ys:List W}(ea:ev cl a ρ h=.ok x h1)(el:gC (aZ k x) (bL t) (λ_ h=>.ok (.bl true) h) (ev cl b) fuel 0 (inner ow ix ρ) h1 []=.ok ys h2)(hy:ys.length<=1000000) :
 ev cl (.lc k a t ow ix (.cst (.bl true)) b) ρ h=.ok (.ref h2.n) (h2.new (.lst ys)):=by
 rw[ev,ea,aD,wM,el,aD,if_pos (nC hy)]
theorem ez{k:Kd}{t:Tg}{x:W}{s:S}(ea:ev cl a ρ h=.ok x h1):exs cl (.«for» k a t s) ρ h=eE (aZ k x) (bL t) (exs cl s) fuel 0 ρ h1:=by rw[exs,ea,aD]
end
noncomputable def Pv(w:W):Prop:=∀n,W.lt n w=true
theorem Pv.tup{ws:List W}(h:∀w∈ws,Pv w):Pv (.tup ws):=λn=>by
 rw[lH];induction ws with
 |nil=>rfl
 |cons a r ih=>
  rw[iT,h a (eX ..),ih λw hw=>h w (eW _ hw)];rfl
theorem Pv.int{i:Int}:Pv (.int i):=λ_=>lt_int
theorem Pv.str{i:Str}:Pv (.str i):=λ_=>lt_str
structure fT(F:Nat->Option Fn):Prop where
 f0:F 0=aB EN
 f1:F 1=aB IP
 f6:F 6=aB BQ
section
variable{F:Nat->Option Fn}(C:fT F)
include C
theorem X3{k:Nat}{h:VH}{w:W}(hw:Kn h w):run F (k+1) 0 [w] h=.ok (.bl (isInt w)) h:=by
 rw[iF C.f0 rfl];cases w<;>try(simp[EN,exs,ev,isInt,jl];done)
 exact absurd rfl hw;rename_i i;unfold Kn at hw;simp only[dN]at hw;cases g:h.get i with
 |none=>rw[g]at hw;exact absurd rfl hw
 |some o=>cases o<;>first|(simp[EN,exs,ev,isInt,jl,dN,g];done)|(simp[g]at hw)
theorem FA{k:Nat}{h:VH}{w:W}{lo hi:Int}(hw:Kn h w):run F (k+2) 1 [w,.int lo,.int hi] h=.ok (.bl (within w lo hi)) h:=by rw[iF C.f1 rfl];have e:=X3 C (k:=k) (h:=⟨h.n,h.n,h.os⟩) (w:=w) (BX.mpr hw);cases w<;>simp[IP,exs,ev,e,isInt,within,jl,bJ,kC];rename_i i;by_cases h1:lo<=i<;>simp[h1,jl]
theorem FD{k:Nat}{h:VH}{w:W}{lo hi:Int}(hw:Kn h w):run F (k+1) 6 [w,.int lo,.int hi] h=.ok (.bl (pI w lo hi)) h:=by
 rw[iF C.f6 rfl];cases w<;>try(simp[BQ,exs,ev,pI,jl];done)
 rename_i ws;simp[BQ,exs,ev,pI,jl,bJ,kC,mh,jf,aV];by_cases h1:lo<=ws.length<;>simp[h1,jl];exact absurd rfl hw;rename_i i;unfold Kn at hw;simp only[dN]at hw;cases g:h.get i with
 |none=>rw[g]at hw;exact absurd rfl hw
 |some o=>cases o<;>first|(simp[BQ,exs,ev,pI,jl,dN,g];done)|(simp[g]at hw)
end
structure lK(F:Nat->Option Fn):Prop where
 f32:F 32=aB wz
 X4:F 33=aB rR
 X5:F 36=aB wA
 X6:F 41=aB rS
 X7:F 67=aB wB
 X8:F 68=aB wC
 Yb:F 69=aB rT
 Yc:F 70=aB rV
 Yd:F 71=aB rW
 Ye:F 72=aB wD
 Yg:F 77=aB rY
 JI:F 113=aB pF
 JJ:F 147=aB pG
 JK:F 187=aB mz
noncomputable def Yh(h:VH)(p:Nat)(kvs:Kv):Prop:=h.get p=aB (.dm kvs)\/h.get p=aB (.dk kvs)
section
variable{F:Nat->Option Fn}(C:lK F)
include C
theorem mJ{k p n:Nat}{h:VH}{kvs:Kv}(g:Yh h p kvs)(hv:∀kv∈kvs,Pv kv.2)(hn:n<1000):run F (k+1) 33 [.int n,.ref p] h=.ok (.tup (bX n kvs)) h:=by
 have look:∀i:Int,ev (run F k) ES [aB (.int i),aB (.ref p)] ⟨h.n,h.n,h.os⟩=.ok ((aP kvs (.inl i)).getD (.str dU)) ⟨h.n,h.n,h.os⟩:=λi=>by
  have hk:kE .get ⟨h.n,h.n,h.os⟩ (.ref p)=true:=by rcases g with g|g<;> (have g1:VH.get ⟨h.n,h.n,h.os⟩ p=_:=g)<;>simp only[kE,g1]
  have hm:jV .get (.ref p) [.int i,.str (cj ".")] ⟨h.n,h.n,h.os⟩=.ok ((aP kvs (.inl i)).getD (.str (cj "."))) ⟨h.n,h.n,h.os⟩:=by rcases g with g|g<;> (have g1:VH.get ⟨h.n,h.n,h.os⟩ p=_:=g)<;>simp only[jV,g1,lB]
  unfold ES;rw[ev,aE (x:=.ref p) rfl,aD,if_pos hk,aS (aE (x:=.int i) rfl) (aS aW bN),aD];exact hm
 obtain⟨ys,ρ',h',e1,hI⟩:=mH (nx:=aZ .cD (.tup [.int n])) (tg:=bL (.one 0)) (e:=ev (run F k) ES) (n:=n)
  (I:=λi ρ h1 acc=>(∃x,ρ=[x,aB (.ref p)])/\h1=⟨h.n,h.n,h.os⟩/\acc=(List.range i).map λ(i:Nat)=>(aP kvs (.inl (i:Int))).getD (.str dU))
  (λi ρ h1 acc hi hI=>by
    obtain⟨⟨x,rfl⟩,rfl,rfl⟩:=hI;refine⟨.int (i:Int),[aB (.int i),aB (.ref p)],_,_,?_,rfl,look i,⟨_,rfl⟩,rfl,?_⟩;rw[jD (by lia),if_pos hi];rw[xG,fZ];rfl)
  (λρ h1 acc hI=>by rw[jD (by lia),if_neg (gZ _)])
  (ρ:=inner 1 [1] [aB (.int n),aB (.ref p)]) (h:=⟨h.n,h.n,h.os⟩) (by lia) ⟨⟨aC,rfl⟩,rfl,rfl⟩
 obtain⟨_,rfl,rfl⟩:=hI;rw[iF C.X4 rfl];have eb:exs (run F k) rR.body [aB (.int n),aB (.ref p)] ⟨h.n,h.n,h.os⟩=.ok (.rt (.tup (bX n kvs))) (VH.new ⟨h.n,h.n,h.os⟩ (.lst (bX n kvs))):=by
  refine k6 (fS (qo (qp (aS (aE (x:=.int n) rfl) bN) e1 ?_) ?_));rw[Cg];lia;show(match VH.get _ _ with|some (.lst ws)=>aB ws|_=>aC)=_
  rw[dS]
 show fin h (exs (run F k) rR.body [aB (.int n),aB (.ref p)] ⟨h.n,h.n,h.os⟩)=_;rw[eb];refine jl (bg _) (Pv.tup (λw hw=>?_) _);obtain⟨i,_,rfl⟩:=jb.mp hw;cases q:aP kvs (.inl (i:Int))with
 |none=>exact Pv.str
 |some v=>
  unfold aP at q;obtain⟨kv,q1,rfl⟩:=Option.map_eq_some_iff.mp q;exact hv kv (List.mem_of_find?_eq_some q1)
end
noncomputable def jm(kvs:Kv):Prop:=∀kv∈kvs,(∃i,kv.1=.inl i)/\Pv kv.2
theorem jm.put{kvs:Kv}{i:Int}{w:W}(h:jm kvs)(p:Pv w):jm (bD kvs (.inl i) w):=by
 unfold bD;split;intro kv hk;obtain⟨x,hx,rfl⟩:=jb.mp hk;split;exact⟨(h x hx).1,p⟩;exact h x hx;intro kv hk;rcases uW.mp hk with hk|hk
 exact h kv hk;rw[pT.mp hk];exact⟨⟨i,rfl⟩,p⟩
theorem jm.nil:jm []:=λ_ h=>by cases h
theorem jm.v{kvs:Kv}(h:jm kvs):∀kv∈kvs,Pv kv.2:=λkv hk=>(h kv hk).2
theorem Yi{kvs:Kv}:jm (iV kvs):=by
 have:∀(kv acc:Kv),jm acc->jm (kv.foldl (λacc x=>match x.1 with
  |.inl i=>bD acc (.inl (i+1)) (.str fJ)
  |.inr _=>acc) acc):=by
  intro kv;induction kv with
  |nil=>intro acc h;exact h
  |cons x r ih=>
   intro acc h;rw[k8];refine ih _ ?_;obtain⟨k,w⟩:=x;cases k with|inl i=>exact h.put Pv.str|inr s=>exact h
 exact this kvs [] .nil
theorem Yj{kvs:Kv}{i:Int}{w:W}:iV (kvs++[(.inl i,w)])=bD (iV kvs) (.inl (i+1)) (.str fJ):=by unfold iV;rw[Dc];rfl
section
variable{F:Nat->Option Fn}(C:lK F)
include C
theorem Yk{k p n:Nat}{h:VH}{kvs:Kv}(g:h.get p=aB (.dm kvs))(ok:jm kvs)(hl:kvs.length<=1000)(hn:n<1000) :
 ∃i h',run F (k+2) 36 [.int n,.ref p] h=.ok (.ref i) h'/\h'.get i=aB (.lst [.tup (bX n kvs),.tup (bX n (iV kvs))])/\h.n<=i/\h.n<=h'.n/\(∀j,j<h.n->j≠p->h'.get j=h.get j)/\min h.lo p<=h'.lo:=by
 have g0:VH.get ⟨h.n,h.n,h.os⟩ p=aB (.dm kvs):=g;have hp:p<h.n:=cg g;have eA:=mJ C (k:=k) (p:=p) (n:=n) (h:=⟨h.n,h.n,h.os⟩) (.inl g0) ok.v hn;generalize hk1:VH.set ⟨h.n,h.n,h.os⟩ p (.dk kvs)=k1;have g1:k1.get p=aB (.dk kvs):=by rw[<-hk1];exact nX g0
 have n1:k1.n=h.n:=by rw[<-hk1];rfl
 obtain⟨ys,ρ',h',e1,hI⟩:=Fy (nx:=aZ .keys (.ref p)) (tg:=bL (.one 0)) (c:=λ_ h=>.ok (.bl true) h) (e:=ev (run F (k+1)) (.op .add (.var 0) (.cst (.int (1))))) (v:=ev (run F (k+1)) (.cst (.str fJ))) (n:=kvs.length)
  (I:=λi ρ h1 acc=>(∃x,ρ=[x])/\h1=k1/\acc=iV (kvs.take i))
  (λi ρ h1 acc hi hI=>by
    obtain⟨⟨x,rfl⟩,rfl,rfl⟩:=hI;have hx:=cN hi;obtain⟨⟨j,hj⟩,_⟩:=ok _ (kR hi);refine⟨.int j,[aB (.int j)],true,h1,?_,rfl,rfl,.inl ⟨rfl,.int (j+1),.inl (j+1),.str fJ,h1,h1,?_,aW,rfl,?_,⟨_,rfl⟩,rfl,?_⟩⟩;simp only[aZ,g1,hx,hj,vP];exact gW (aE rfl) aW rfl;have:=XN (kv:=kvs.take i);rw[jq]at this;exact wN (by lia);rw[qI,hx];have e5:kvs[i]=(.inl j,kvs[i].2):=by rw[<-hj]
    show _=iV (kvs.take i++[kvs[i]]);rw[e5,Yj])
  (λρ h1 acc hI=>by
    obtain⟨_,rfl,rfl⟩:=hI;simp only[aZ,g1,iY (bg _),Nat.beq_refl,cC])
  kvs.length 0 fuel [aC] k1 [] (i7 _) (show _<1000000 by lia) ⟨⟨aC,rfl⟩,rfl,rfl⟩
 obtain⟨_,rfl,rfl⟩:=hI;rw[nO]at e1;have eB:=mJ C (k:=k) (p:=h'.n) (n:=n) (h:=h'.new (.dm (iV kvs))) (.inl dS) Yi.v hn;have Yl:ev (run F (k+1)) (.bi .bF (.cons (.var 1) .nil)) [aB (.int n),aB (.ref p)] ⟨h.n,h.n,h.os⟩=.ok (.ref p) h':=by rw[ev,aS (aE (x:=.ref p) rfl) bN,aD];show nk [.ref p] _=_;simp only[nk,g0,hk1]
 have JL:ev (run F (k+1)) (.dc .keys (.bi .bF (.cons (.var 1) .nil)) (.one 0) 1 [] (.cst (.bl true)) (.op .add (.var 0) (.cst (.int (1)))) (.cst (.str fJ))) [aB (.int n),aB (.ref p)] ⟨h.n,h.n,h.os⟩=.ok (.ref h'.n) (h'.new (.dm (iV kvs))):=by rw[ev,Yl,aD,wM];show((jK _ _ _ _ _ fuel 0 [aC] h' []).bind _)=_;rw[e1,aD]
 have eb:exs (run F (k+1)) wA.body [aB (.int n),aB (.ref p)] ⟨h.n,h.n,h.os⟩=.ok (.rt (.ref (h'.n+1))) ((h'.new (.dm (iV kvs))).new (.lst [.tup (bX n kvs),.tup (bX n (iV kvs))])):=
  k6 (fS (fk (aS (mG (aE rfl) (aE rfl) eA) (aS (mG (aE rfl) JL eB) bN)) rfl))
 rw[iF C.X5 rfl];obtain⟨h2,e2,n2,G,lo2⟩:=OD (h:=h) (h':=(h'.new (.dm (iV kvs))).new (.lst [.tup (bX n kvs),.tup (bX n (iV kvs))])) (w:=.ref (h'.n+1)) (Co (by lia));refine⟨h'.n+1,h2,?_,?_,by lia,?_,λj hj hne=>?_,?_⟩;rw[<-e2];exact lP (fin h) eb;rw[G];exact dS;rw[n2];show h.n<=h'.n+1+1;lia;rw[G,ig (show j< (h'.new (.dm (iV kvs))).n by show j<h'.n+1;lia),ig (by lia),<-hk1];exact nV (h:=⟨h.n,h.n,h.os⟩) hp hne;rw[lo2];show _<=min h.lo h'.lo;rw[<-hk1];show _<=min h.lo (if Nat.blt p h.n then p else h.n);rw[if_pos (gO.mpr hp)];exact bg _
end
structure Gm(h h':VH):Prop where
 le:h.n<=h'.n
 lo:min h.lo h.n<=h'.lo
 get:∀j,j<h.n->h'.get j=h.get j
theorem Gm.refl{h:VH}:Gm h h:=⟨bg _,Nat.min_le_left _ _,λ_ _=>rfl⟩
theorem Gm.trans{a b c:VH}(x:Gm a b)(y:Gm b c):Gm a c:=⟨gF x.le y.le,by
 have:=x.lo;have:=y.lo;have:=x.le;lia,λj hj=>by rw[y.get j (dI hj x.le),x.get j hj]⟩
theorem Gm.new{h h':VH}{o:VO}(x:Gm h h'):Gm h (h'.new o):=⟨Nat.le_succ_of_le x.le,x.lo,λj hj=>by rw[ig (dI hj x.le),x.get j hj]⟩
theorem Gm.set{h h':VH}{o:VO}{a:Nat}(x:Gm h h')(ha:h.n<=a)(hb:a<h'.n):Gm h (h'.set a o):=⟨x.le,by
 have:=x.lo;show _<=if Nat.blt a h'.lo then a else h'.lo
 split<;>lia,λj hj=>by rw[nV hb (by lia),x.get j hj]⟩
theorem FF{h h':VH}{w:W}(hw:W.lt h.n w=false)(x:Gm ⟨h.n,h.n,h.os⟩ h'):∃h2,fin h (.ok (.rt w) h')=.ok w h2/\Gm h h2/\∀i,h2.get i=h'.get i:=by obtain⟨h2,e,n2,G,l2⟩:=OD (h':=h') hw;refine⟨h2,e,⟨by rw[n2];exact x.le,?_,λj hj=>by rw[G,x.get j hj];rfl⟩,G⟩;have:=x.lo;have e2:(⟨h.n,h.n,h.os⟩:VH).lo=h.n:=rfl;have e3:(⟨h.n,h.n,h.os⟩:VH).n=h.n:=rfl;rw[l2];rw[e2,e3]at this;lia
theorem Cr{h h':VH}{w:W}(p:Pv w)(x:Gm ⟨h.n,h.n,h.os⟩ h'):fin h (.ok (.rt w) h')=.ok w h:=jl (by
 have:=x.lo;have e2:(⟨h.n,h.n,h.os⟩:VH).lo=h.n:=rfl;have e3:(⟨h.n,h.n,h.os⟩:VH).n=h.n:=rfl;rw[e2,e3]at this;lia) (p _)
theorem uN{a i:Nat}{h:VH}{ws:List W}(g:h.get a=aB (.lst ws)):aZ .seq (.ref a) i h=aB ws[i]?:=by simp only[aZ,aV,g,iC]
theorem nD{a:Nat}{h:VH}{ws:List W}(g:h.get a=aB (.lst ws)):aV h (.ref a)=aB ws:=by simp only[aV,g]
noncomputable def fW(f:Int×Int×Int):W:=.tup [.int f.1,.int f.2.1,.int f.2.2]
section
variable{F:Nat->Option Fn}(C:lK F)
include C
theorem Ym{k s:Nat}{h:VH}{z:Int}(hs:s<1000):run F (k+1) 41 [.int z,.int s] h=.ok (iW (aI z s)) h:=by
 have half:∀(i:Nat)(y:Int),aI y (i+1)=aI y i++[(y/2 ^ i) % 2]:=by
  intro i;induction i with
  |zero=>intro y;simp[aI]
  |succ n ih=>
   intro y;rw[aI,ih (y/2),aI,nN];rw[Int.ediv_ediv_of_nonneg (by decide:(0:Int)<=2),show(2:Int)*2 ^ n=2 ^ (n+1) by rw[Int.pow_succ,Ds]]
 obtain⟨ρ',h',e1,hI⟩:=nZ (nx:=aZ .cD (.tup [.int s])) (tg:=bL (.one 3)) (b:=exs (run F k) IS) (n:=s)
  (I:=λi ρ h1=>(∃x,ρ=[aB (.int (z/2 ^ i)),aB (.int s),aB (.ref h.n),x])/\Gm ⟨h.n,h.n,h.os⟩ h1/\h1.get h.n=aB (.lst ((aI z i).map .int)))
  (λi ρ h1 hi hI=>by
    obtain⟨⟨x,rfl⟩,w1,g1⟩:=hI;have hlt:=cg g1;refine⟨.int (i:Int),[aB (.int (z/2 ^ i)),aB (.int s),aB (.ref h.n),aB (.int (i:Int))],[aB (.int (z/2 ^ (i+1))),aB (.int s),aB (.ref h.n),aB (.int (i:Int))],h1.set h.n (.lst ((aI z (i+1)).map .int)),?_,rfl,?_,⟨_,rfl⟩,w1.set (bg _) hlt,nX g1⟩;rw[jD (by lia),if_pos hi];unfold IS;have ea:ev (run F k) (.mt .append (.var 2) (.cons (.op .mod (.var 0) (.cst (.int 2))) .nil)) [aB (.int (z/2 ^ i)),aB (.int s),aB (.ref h.n),aB (.int (i:Int))] h1=.ok .aQ (h1.set h.n (.lst ((aI z (i+1)).map .int))):=by
     have hk:kE .append h1 (.ref h.n)=true:=by simp only[kE,g1]
     rw[ev,aE (x:=.ref h.n) rfl,aD,if_pos hk,aS (gW (r:=.ok (.int ((z/2 ^ i) % 2)) h1) (aE rfl) aW rfl) bN,aD];show jV .append (.ref h.n) [.int ((z/2 ^ i) % 2)] h1=_;simp only[jV,g1];rw[if_pos (wN (by rw[bG,qm];lia)),half,fZ];rfl
    refine(bE (ρ':=[aB (.int (z/2 ^ i)),aB (.int s),aB (.ref h.n),aB (.int (i:Int))]) (h':=h1.set h.n (.lst ((aI z (i+1)).map .int))) (by rw[exs,ea,aD])).trans ?_;refine(bE (ρ':=[aB (.int (z/2 ^ (i+1))),aB (.int s),aB (.ref h.n),aB (.int (i:Int))]) (h':=h1.set h.n (.lst ((aI z (i+1)).map .int))) ?_).trans (by rw[exs]);rw[exs];show((ev (run F k) (.cst (.int 2)) _ _).bind _)=_;rw[aW,aD];show Res.ok (Fl.nx [aB (.int (z/2 ^ i/2)),aB (.int s),aB (.ref h.n),aB (.int (i:Int))]) _=_;rw[Int.ediv_ediv_of_nonneg (Int.pow_nonneg (by decide)),show(2:Int) ^ i*2=2 ^ (i+1)from(Int.pow_succ 2 i).symm])
  (λρ h1 hI=>by rw[jD (by lia),if_neg (gZ _)])
  s 0 fuel [aB (.int z),aB (.int s),aB (.ref h.n),aC] (VH.new ⟨h.n,h.n,h.os⟩ (.lst [])) (i7 _) (show _<1000000 by lia)
  ⟨⟨aC,by simp⟩,Gm.refl.new,dS⟩
 obtain⟨⟨x,rfl⟩,w1,g1⟩:=hI;rw[iF C.X6 rfl];have eb:exs (run F k) rS.body [aB (.int z),aB (.int s),aC,aC] ⟨h.n,h.n,h.os⟩=.ok (.rt (iW (aI z s))) h':=by refine(bE (cA (x:=.ref h.n) (h1:=VH.new ⟨h.n,h.n,h.os⟩ (.lst [])) (fk bN rfl))).trans ?_;refine(bE ((ez (aS (aE (x:=.int s) rfl) bN)).trans e1)).trans ?_;exact k6 (fS (qo (aE rfl) (nD g1)))
 show fin h (exs (run F k) rS.body [aB (.int z),aB (.int s),aC,aC] ⟨h.n,h.n,h.os⟩)=_;rw[eb];refine Cr (Pv.tup λw hw=>?_) w1;obtain⟨i,_,rfl⟩:=jb.mp hw;exact Pv.int
end
theorem Yn{ws:List W}{k:Nat}(h:k<=ws.length):je ws (aB (k:Int)) aC=ws.drop k:=by unfold je;rw[HT.oB,HT.qY,Nat.min_eq_left h];exact List.take_of_length_le (by rw[sV];lia)
noncomputable def FG(cs:List Int)(i:Nat):Int×Int×Int:=(cs.getD (2*i) 0,(cs.getD (2*i) 0+cs.getD (2*i+1) 0)/2,cs.getD (2*i+1) 0)
theorem FH:∀cs:List Int,(fP cs).length=cs.length/2
 |[]=>rfl
 |[_]=>by simp[fP]
 |a::b::r=>by
  rw[fP,cY,FH r,cY,cY];lia
theorem OE:∀(cs:List Int) (i:Nat),i<cs.length/2->(fP cs)[i]?=aB (FG cs i)
 |[],i,h=>by simp at h
 |[_],i,h=>by simp at h
 |a::b::r,0,h=>rfl
 |a::b::r,i+1,h=>by
  have:=OE r i (by rw[cY,cY]at h;lia);rw[fP,lS,this];unfold FG;rw[show 2* (i+1)=2*i+1+1 by lia];rfl
theorem Yo{cs:List Int}{i:Nat}(h:i<cs.length/2):(fP cs).take (i+1)=(fP cs).take i++[FG cs i]:=by rw[qI,OE cs i h];rfl
section
variable{F:Nat->Option Fn}(C:lK F)
include C
theorem Yp{k a:Nat}{h:VH}{cs:List Int}(g:h.get a=aB (.lst (cs.map .int)))(hl:cs.length<1000) :
 ∃i h',run F (k+1) 68 [.ref a] h=.ok (.ref i) h'/\h'.get i=aB (.lst ((fP cs).map fW))/\h.n<=i/\Gm h h':=by
 have ha:=cg g;let k0:VH:=⟨h.n,h.n,h.os⟩
 have g0:k0.get a=aB (.lst (cs.map .int)):=g;let k1:=k0.new (.lst (cU (cs.map W.int)));have g1:k1.get a=aB (.lst (cs.map .int)):=by rw[show k1.get a=k0.get a from ig ha];exact g0
 let k2:=k1.new (.lst (cU ((cs.map W.int).drop 1)));have ga:k2.get h.n=aB (.lst (cU (cs.map W.int))):=by rw[show k2.get h.n=k1.get h.n from ig (fY _)];exact dS (h:=k0)
 have gb:k2.get (h.n+1)=aB (.lst (cU ((cs.map W.int).drop 1))):=dS (h:=k1);have nx:∀i:Nat,aZ .zip (.tup [.ref h.n,.ref (h.n+1)]) i k2=aB (if i<cs.length/2 then aB (.tup [.int (cs.getD (2*i) 0),.int (cs.getD (2*i+1) 0)])else aC):=λi=>by
  simp only[aZ,aV,ga,gb];rw[Eo,Eo,yP,dG,dG,Nat.add_comm 1];by_cases q:i<cs.length/2;rw[if_pos q,cN (show 2*i<cs.length by lia),cN (show 2*i+1<cs.length by lia),jS,jS,cN (show 2*i<cs.length by lia),cN (show 2*i+1<cs.length by lia)];rfl;rw[if_neg q,iY (show cs.length<=2*i+1 by lia)];cases(Option.map W.int cs[2*i]?)<;>rfl
 obtain⟨ys,ρ',h',e1,hI⟩:=mH (nx:=aZ .zip (.tup [.ref h.n,.ref (h.n+1)])) (tg:=bL (.many [0,1])) (e:=ev (run F k) NN) (n:=cs.length/2)
  (I:=λi ρ h1 acc=>(∃x y,ρ=[x,y])/\h1=k2/\acc=((fP cs).take i).map fW)
  (λi ρ h1 acc hi hI=>by
    obtain⟨⟨x,y,rfl⟩,rfl,rfl⟩:=hI;refine⟨.tup [.int (cs.getD (2*i) 0),.int (cs.getD (2*i+1) 0)],[aB (.int (cs.getD (2*i) 0)),aB (.int (cs.getD (2*i+1) 0))],fW (FG cs i),_,?_,rfl,?_,⟨_,_,rfl⟩,rfl,?_⟩;rw[nx,if_pos hi];exact Cn (aE rfl) (gW (gW (aE rfl) (aE rfl) rfl) aW rfl) (aE rfl);rw[Yo hi,fZ];rfl)
  (λρ h1 acc hI=>by rw[hI.2.1,nx,if_neg (gZ _)])
  (ρ:=inner 2 [] [aB (.ref a)]) (h:=k2) (by lia) ⟨⟨aC,aC,rfl⟩,rfl,rfl⟩
 obtain⟨_,rfl,rfl⟩:=hI;rw[<-FH,nO]at e1;have es:∀(e:E)(l:W)(c:Nat)(hh:VH)(q:hh.get a=aB (.lst (cs.map .int))),ev (run F k) e [aB (.ref a)] hh=.ok l hh->rH l=aB c->ev (run F k) (.bi .st2 (.cons (.var 0) (.cons e (.cons (.cst (.int 2)) .nil)))) [aB (.ref a)] hh=.ok (.ref hh.n) (hh.new (.lst (cU ((cs.map W.int).drop c)))):=λe l c hh q e1 e2=>by
  rw[ev,aS (aE (x:=.ref a) rfl) (aS e1 (aS aW bN)),aD];show nq [.ref a,l,.int 2] hh=_;simp only[nq,q,e2,cC]
 rw[iF C.X8 rfl];have eb:exs (run F k) wC.body [aB (.ref a)] ⟨h.n,h.n,h.os⟩=.ok (.rt (.ref k2.n)) (k2.new (.lst ((fP cs).map fW))):=by refine k6 (fS (qp (aS (h1:=k1) (es _ .aQ 0 k0 g0 aW rfl) (aS (h1:=k2) (es _ (.int 1) 1 k1 g1 aW rfl) bN)) e1 ?_));rw[bG,FH];lia
 obtain⟨h2,e2,w2,G⟩:=FF (h:=h) (h':=k2.new (.lst ((fP cs).map fW))) (w:=.ref k2.n) (Co (show h.n<=h.n+1+1 by lia)) (((Gm.refl.new).new).new);refine⟨k2.n,h2,?_,by rw[G];exact dS,show h.n<=h.n+1+1 by lia,w2⟩;rw[<-e2];exact lP (fin h) eb
theorem Yq{k a f:Nat}{h:VH}{cs:List Int}{aO:List (Int×Int×Int)}(g:h.get a=aB (.lst (cs.map .int)))(gf:h.get f=aB (.lst (aO.map fW)))(hl:cs.length<1000)(hf:aO.length<1000)(hfc:2*aO.length<=cs.length) :
 ∃i h',run F (k+1) 72 [.ref a,.ref f] h=.ok (.ref i) h'/\h'.get i=aB (.lst ((nY cs aO).map .int))/\h.n<=i/\Gm h h':=by
 have ha:=cg g;have hf':=cg gf;let k0:VH:=⟨h.n,h.n,h.os⟩
 have g0:k0.get f=aB (.lst (aO.map fW)):=gf;obtain⟨ys,ρ',h',e1,hI⟩:=mH (nx:=aZ .seq (.ref f)) (tg:=bL (.many [0,1,2])) (e:=ev (run F k) NQ) (n:=aO.length)
  (I:=λi ρ h1 acc=>(∃x y z,ρ=[x,y,z])/\h1=k0/\acc=(aO.take i).map λq=>W.int q.2.1)
  (λi ρ h1 acc hi hI=>by
    obtain⟨⟨x,y,z,rfl⟩,rfl,rfl⟩:=hI;have hx:=cN hi;refine⟨fW aO[i],[aB (.int aO[i].1),aB (.int aO[i].2.1),aB (.int aO[i].2.2)],.int aO[i].2.1,k0,?_,rfl,aE rfl,⟨_,_,_,rfl⟩,rfl,?_⟩;rw[uN g0,dG,hx];rfl;rw[qI,hx,fZ];rfl)
  (λρ h1 acc hI=>by rw[hI.2.1,uN g0,iY (by rw[bG];exact bg _)])
  (ρ:=inner 3 [] [aB (.ref a),aB (.ref f)]) (h:=k0) (by lia) ⟨⟨aC,aC,aC,rfl⟩,rfl,rfl⟩
 obtain⟨_,rfl,rfl⟩:=hI;rw[nO]at e1;let k1:=k0.new (.lst (aO.map λq=>W.int q.2.1));have ga:k1.get a=aB (.lst (cs.map .int)):=by rw[show k1.get a=k0.get a from ig ha];exact g
 have Cs:k1.get f=aB (.lst (aO.map fW)):=by rw[show k1.get f=k0.get f from ig hf'];exact g0
 let k2:=k1.new (.lst ((cs.map W.int).drop (2*aO.length)));have JM:ev (run F k) (.slc (.var 0) true (.op .mul (.cst (.int 2)) (.bi .len (.cons (.var 1) .nil))) false (.cst .aQ)) [aB (.ref a),aB (.ref f)] k1=.ok (.ref k1.n) k2:=by rw[ev,aE (x:=.ref a) rfl,aD,gW (r:=.ok (.int (2* (aO.length:Int))) k1) aW (lJ (aE (x:=.ref f) rfl) (nD Cs)) (by rw[bG];rfl),aD,aW,aD];show kD (.ref a) (aB (2* (aO.length:Int))) aC k1=_;simp only[kD,ga];show Res.ok (W.ref k1.n) (k1.new (.lst (je (cs.map W.int) (aB (2* (aO.length:Int))) aC)))=_;rw[show(2* (aO.length:Int))=((2*aO.length:Nat):Int) by push_cast;rfl,Yn (by rw[bG];exact hfc)]
 rw[iF C.Ye rfl];have eb:exs (run F k) wD.body [aB (.ref a),aB (.ref f)] ⟨h.n,h.n,h.os⟩=.ok (.rt (.ref k2.n)) (k2.new (.lst ((nY cs aO).map .int))):=by
  refine k6 (fS (gW (h1:=k1) (h2:=k2) (x:=.ref h.n) (y:=.ref k1.n) (qp (aE (x:=.ref f) rfl) e1 (by rw[bG];lia)) JM ?_));have g3:k2.get h.n=aB (.lst (aO.map λq=>W.int q.2.1)):=by rw[show k2.get h.n=k1.get h.n from ig (fY _)];exact dS (h:=k0)
  have g4:k2.get k1.n=aB (.lst ((cs.map W.int).drop (2*aO.length))):=dS (h:=k1);have:nY cs aO=(aO.map λq=>q.2.1)++cs.drop (2*aO.length):=rfl;rw[this,fZ,List.map_map,List.map_drop];simp only[iE,g3,g4,AH];rw[if_pos (nC (by rw[bG,sV,bG];lia))];rfl
 obtain⟨h2,e2,w2,G⟩:=FF (h:=h) (h':=k2.new (.lst ((nY cs aO).map .int))) (w:=.ref k2.n) (Co (show h.n<=h.n+1+1 by lia)) (((Gm.refl.new).new).new);refine⟨k2.n,h2,?_,by rw[G];exact dS,show h.n<=h.n+1+1 by lia,w2⟩;rw[<-e2];exact lP (fin h) eb
end
theorem OF:∀ls:List Int,aT iZ (ls.map .int)=aB ls|[]=>rfl|x::r=>by simp only[dH,aT,iZ,OF r]
noncomputable def lN(p:Int×Int×Int->Bool)(kk:Int×Int×Int->Int)(w:W)(aO:List (Int×Int×Int)):Kv:=aO.foldl (λkv x=>if p x=true then bD kv (.inl (kk x)) w else kv) []
theorem OG{p:Int×Int×Int->Bool}{kk:Int×Int×Int->Int}{w:W}{aO:List (Int×Int×Int)}{x:Int×Int×Int}:lN p kk w (aO++[x])=if p x=true then bD (lN p kk w aO) (.inl (kk x)) w else lN p kk w aO:=by unfold lN;rw[Dc];rfl
theorem FI{p:Int×Int×Int->Bool}{kk:Int×Int×Int->Int}{w:W}(pw:Pv w)(aO:List (Int×Int×Int)):jm (lN p kk w aO)/\(lN p kk w aO).length<=aO.length:=by
 have:∀(l:List (Int×Int×Int))(acc:Kv),jm acc->jm (l.foldl (λkv x=>if p x=true then bD kv (.inl (kk x)) w else kv) acc)/\(l.foldl (λkv x=>if p x=true then bD kv (.inl (kk x)) w else kv) acc).length<=acc.length+l.length:=by
  intro l;induction l with
  |nil=>intro acc h;exact⟨h,bg _⟩
  |cons x r ih=>
   intro acc h;rw[k8,cY];by_cases q:p x=true;rw[if_pos q];obtain⟨h1,h2⟩:=ih _ (h.put (i:=kk x) pw);have:=Ay (k:=.inl (kk x)) (w:=w) (kv:=acc);exact⟨h1,gF h2 (by rw[<-Dl,Nat.add_right_comm];exact Nat.add_le_add_right this _)⟩;rw[if_neg q];obtain⟨h1,h2⟩:=ih _ h;exact⟨h1,gF h2 (Nat.add_le_add_left (qK _) _)⟩
 obtain⟨h1,h2⟩:=this aO [] .nil;exact⟨h1,by simpa[lN]using h2⟩
theorem OH{g:Int}{aO:List (Int×Int×Int)}:pK g aO=lN (λ_=>true) (λx=>x.2.1) (.tup [.int g,.int 0]) aO:=by unfold pK lN;simp
theorem OI{s:Int}{aO:List (Int×Int×Int)}:ql s aO=lN (λx=>decide (x.1<x.2.1-s)) (λx=>x.2.1-s) (.str fJ) aO:=by unfold ql lN;simp
theorem OJ{s:Int}{aO:List (Int×Int×Int)}:uI s aO=lN (λx=>decide (x.2.1+s<x.2.2)) (λx=>x.2.1+s) (.str jY) aO:=by unfold uI lN;simp
theorem OL:∀{b a:Kv},jm a->jm b->jm (yD a b)
 |[],a,h,_=>h
 |x::r,a,h,h2=>by
  obtain⟨⟨i,hi⟩,p⟩:=h2 x eX;unfold yD;rw[k8,hi];exact OL (h.put p) λy hy=>h2 y (eW _ hy)
theorem OM:∀(r:List Int) (x:Int),dO x r=sO x r|[],_=>rfl|y::r,x=>by rw[dO,sO,OM r]
theorem JN{cl:Call}{c e v:E}{f:Nat}{h:VH}{s:Option W}{aO:List (Int×Int×Int)}(g:h.get f=aB (.lst (aO.map fW)))(hl:aO.length<=1000){p:Int×Int×Int->Bool}{kk:Int×Int×Int->Int}{w:W}(pw:Pv w)
 (hc:∀x:Int×Int×Int,ev cl c [aB (.int x.1),aB (.int x.2.1),aB (.int x.2.2),s] h=.ok (.bl (p x)) h)
 (he:∀x:Int×Int×Int,ev cl e [aB (.int x.1),aB (.int x.2.1),aB (.int x.2.2),s] h=.ok (.int (kk x)) h)
 (hv:∀x:Int×Int×Int,ev cl v [aB (.int x.1),aB (.int x.2.1),aB (.int x.2.2),s] h=.ok w h) :
 jK (aZ .seq (.ref f)) (bL (.many [0,1,2])) (ev cl c) (ev cl e) (ev cl v) fuel 0 [aC,aC,aC,s] h []=.ok (lN p kk w aO) h:=by
 obtain⟨ys,ρ',h',e1,hI⟩:=Fy (nx:=aZ .seq (.ref f)) (tg:=bL (.many [0,1,2])) (c:=ev cl c) (e:=ev cl e) (v:=ev cl v) (n:=aO.length)
  (I:=λi ρ h1 acc=>(∃x y z,ρ=[x,y,z,s])/\h1=h/\acc=lN p kk w (aO.take i))
  (λi ρ h1 acc hi hI=>by
    obtain⟨⟨x,y,z,rfl⟩,rfl,rfl⟩:=hI;have hx:=cN hi;have ht:aO.take (i+1)=aO.take i++[aO[i]]:=by rw[qI,hx];rfl
    refine⟨fW aO[i],[aB (.int aO[i].1),aB (.int aO[i].2.1),aB (.int aO[i].2.2),s],p aO[i],h1,?_,rfl,hc _,?_⟩;rw[uN g,dG,hx];rfl;cases q:p aO[i]with
    |true=>
     refine .inl ⟨rfl,.int (kk aO[i]),.inl (kk aO[i]),w,h1,h1,he _,hv _,rfl,?_,⟨_,_,_,rfl⟩,rfl,?_⟩;have:=(FI (p:=p) (kk:=kk) pw (aO.take i)).2;rw[jq]at this;exact wN (by lia);rw[ht,OG,if_pos q]
    |false=>
     refine .inr ⟨rfl,⟨_,_,_,rfl⟩,rfl,?_⟩;rw[ht,OG,if_neg (by rw[q];exact mQ)])
  (λρ h1 acc hI=>by rw[hI.2.1,uN g,iY (by rw[bG];exact bg _)])
  aO.length 0 fuel [aC,aC,aC,s] h [] (i7 _) (show _<1000000 by lia) ⟨⟨aC,aC,aC,rfl⟩,rfl,rfl⟩
 obtain⟨_,rfl,rfl⟩:=hI;rw[nO]at e1;exact e1
theorem Ct{b:Int}{i:Nat}{h:VH}(h0:1<=b)(h1:b<=1000000):aZ .gK (.tup [.int 1,.int b]) i h=aB (if i< (b-1).toNat then aB (.int (1+ (i:Int)))else aC):=by
 have hf:(fits 1&&fits b)=true:=by unfold fits;simp;lia
 show(if fits 1&&fits b then aB (if decide ((i:Int)<b-1)then aB (W.int (1+i))else aC)else aC)=_;rw[if_pos hf];by_cases q:i< (b-1).toNat
 rw[if_pos q,kO (by lia)];rfl;rw[if_neg q,iX (by lia)];rfl
section
variable{F:Nat->Option Fn}(C:lK F)
include C
theorem Yr{k f n:Nat}{g:Int}{h:VH}{aO:List (Int×Int×Int)}(gf:h.get f=aB (.lst (aO.map fW)))(hl:aO.length<=400)(hne:aO≠[])(hn:n<1000)(m1:1<=gU aO)(m2:gU aO<=400) :
 ∃i h',run F (k+2) 67 [.int n,.int g,.ref f] h=.ok (.ref i) h'/\h'.get i=aB (.lst ((Ce n g aO).map .tup))/\h.n<=i/\Gm h h':=by
 have hf':=cg gf;let k0:VH:=⟨h.n,h.n,h.os⟩
 have g0:k0.get f=aB (.lst (aO.map fW)):=gf;let k1:=k0.new (.dm (pK g aO));have pM:Pv (.tup [.int g,.int 0]):=Pv.tup λw hw=>by
  rcases fV.mp hw with rfl|hw;exact Pv.int;rw[pT.mp hw];exact Pv.int
 have e1:ev (run F (k+1)) (.dc .seq (.var 2) (.many [0,1,2]) 3 [1] (.cst (.bl true)) (.var 1) (.tup (.cons (.var 3) (.cons (.cst (.int (0))) .nil)))) [aB (.int n),aB (.int g),aB (.ref f),aC,aC,aC] k0=.ok (.ref h.n) k1:=by rw[ev,aE (x:=.ref f) rfl,aD];show((jK _ _ _ _ _ fuel 0 [aC,aC,aC,aB (.int g)] k0 []).bind _)=_;rw[JN (p:=λ_=>true) (kk:=λx=>x.2.1) (w:=.tup [.int g,.int 0]) g0 (by lia) pM (λx=>aW) (λx=>aE rfl) (λx=>jC (aE rfl) aW),aD,<-OH]
 have FJ:jm (pK g aO):=by rw[OH];exact(FI pM aO).1
 have r1:=mJ C (k:=k) (p:=h.n) (n:=n) (h:=k1) (.inl dS) FJ.v hn;let k2:=k1.new (.lst [.tup (bX n (pK g aO))]);have w2:Gm k0 k2:=(Gm.refl.new).new;have ON:k2.get f=aB (.lst (aO.map fW)):=by rw[w2.get f hf'];exact g0
 obtain⟨ys,ρ',h',e3,hI⟩:=mH (nx:=aZ .seq (.ref f)) (tg:=bL (.many [0,1,2])) (e:=ev (run F (k+1)) ET) (n:=aO.length)
  (I:=λi ρ h1 acc=>(∃x y z,ρ=[x,y,z])/\h1=k2/\acc=(aO.take i).map λq=>W.int (gap q))
  (λi ρ h1 acc hi hI=>by
    obtain⟨⟨x,y,z,rfl⟩,rfl,rfl⟩:=hI;have hx:=cN hi;refine⟨fW aO[i],[aB (.int aO[i].1),aB (.int aO[i].2.1),aB (.int aO[i].2.2)],.int (gap aO[i]),k2,?_,rfl,?_,⟨_,_,_,rfl⟩,rfl,?_⟩;rw[uN ON,dG,hx];rfl;unfold ET;rw[ev,aS (gW (r:=.ok (.int (aO[i].2.1-aO[i].1)) k2) (aE rfl) (aE rfl) rfl) (aS (gW (r:=.ok (.int (aO[i].2.2-aO[i].2.1)) k2) (aE rfl) (aE rfl) rfl) bN),aD];rfl;rw[qI,hx,fZ];rfl)
  (λρ h1 acc hI=>by rw[hI.2.1,uN ON,iY (by rw[bG];exact bg _)])
  (ρ:=inner 3 [] [aB (.int n),aB (.int g),aB (.ref f),aB (.ref k1.n),aC,aC]) (h:=k2) (by lia) ⟨⟨aC,aC,aC,rfl⟩,rfl,rfl⟩
 obtain⟨_,rfl,rfl⟩:=hI;rw[nO]at e3;let k3:=k2.new (.lst (aO.map λq=>W.int (gap q)));have g3:k3.get k2.n=aB (.lst (aO.map λq=>W.int (gap q))):=dS;have Ys:ev (run F (k+1)) (.bi .max (.cons (.lc .seq (.var 2) (.many [0,1,2]) 3 [] (.cst (.bl true)) ET) .nil)) [aB (.int n),aB (.int g),aB (.ref f),aB (.ref k1.n),aC,aC] k2=.ok (.int (gU aO)) k3:=by
  rw[ev,aS (qp (aE (x:=.ref f) rfl) e3 (by rw[bG];lia)) bN,aD];show ni [.ref k2.n] k3=_;obtain⟨x,r,rfl⟩:∃x r,aO=x::r:=by
   cases aO with|nil=>exact absurd rfl hne|cons x r=>exact⟨x,r,rfl⟩
  have:(x::r).map (λq=>W.int (gap q))=(gap x::r.map gap).map W.int:=by simp
  rw[this]at g3;have hm:aT iZ ((gap x::r.map gap).map W.int)=aB (gap x::r.map gap):=OF _;simp only[ni,g3,hm];rw[OM];rfl
 have w3:Gm k0 k3:=w2.new;have JO:k3.get k1.n=aB (.lst ([bX n (pK g aO)].map .tup)):=by rw[show k3.get k1.n=k2.get k1.n from ig (fY _)];exact dS (h:=k1)
 obtain⟨EB,k4,e4,hI⟩:=nZ (nx:=aZ .gK (.tup [.int 1,.int (gU aO)])) (tg:=bL (.one 4)) (b:=exs (run F (k+1)) IT) (n:=(gU aO-1).toNat)
  (I:=λi ρ h1=>(∃x y,ρ=[aB (.int n),aB (.int g),aB (.ref f),aB (.ref k1.n),x,y])/\Gm k0 h1/\h1.get k1.n=aB (.lst ((bX n (pK g aO):: (List.range i).map λi=>Cd n aO i).map .tup)))
  (λi ρ h1 hi hI=>by
    obtain⟨⟨x,y,rfl⟩,w1,g1⟩:=hI;have hlt:=cg g1;have Cs:h1.get f=aB (.lst (aO.map fW)):=by rw[w1.get f hf'];exact g0
    have OO:=FI (p:=λx=>decide (x.1<x.2.1- (1+ (i:Int)))) (kk:=λx=>x.2.1- (1+ (i:Int))) (w:=.str fJ) Pv.str aO;have OP:=FI (p:=λx=>decide (x.2.1+ (1+ (i:Int))<x.2.2)) (kk:=λx=>x.2.1+ (1+ (i:Int))) (w:=.str jY) Pv.str aO;rw[<-OI]at OO;rw[<-OJ]at OP;let a1:=h1.new (.dm (ql (1+ (i:Int)) aO));let a2:=a1.new (.dm (uI (1+ (i:Int)) aO));let a3:=a2.set h1.n (.dm (yD (ql (1+ (i:Int)) aO) (uI (1+ (i:Int)) aO)));have Yt:a1.get f=aB (.lst (aO.map fW)):=by rw[show a1.get f=h1.get f from ig (cg Cs)];exact Cs
    have d1:exs (run F (k+1)) (.set 5 (.dc .seq (.var 2) (.many [0,1,2]) 3 [4] (.cmp .gt (.op .sub (.var 1) (.var 3)) (.var 0)) (.op .sub (.var 1) (.var 3)) (.cst (.str fJ)))) [aB (.int n),aB (.int g),aB (.ref f),aB (.ref k1.n),aB (.int (1+ (i:Int))),y] h1=.ok (.nx [aB (.int n),aB (.int g),aB (.ref f),aB (.ref k1.n),aB (.int (1+ (i:Int))),aB (.ref h1.n)]) a1:=by refine(cA (x:=.ref h1.n) (h1:=a1) ?_);rw[ev,aE (x:=.ref f) rfl,aD];show((jK _ _ _ _ _ fuel 0 [aC,aC,aC,aB (.int (1+ (i:Int)))] h1 []).bind _)=_;rw[JN (p:=λx=>decide (x.1<x.2.1- (1+ (i:Int)))) (kk:=λx=>x.2.1- (1+ (i:Int))) (w:=.str fJ) Cs (by lia) Pv.str (λx=>?_) (λx=>gW (aE rfl) (aE rfl) rfl) (λx=>aW),aD,<-OI];rw[ev,gW (r:=.ok (.int (x.2.1- (1+ (i:Int)))) h1) (aE rfl) (aE rfl) rfl,aD,aE (x:=.int x.1) rfl,aD];rfl
    have d2:ev (run F (k+1)) (.mt .update (.var 5) (.cons (.dc .seq (.var 2) (.many [0,1,2]) 3 [4] (.cmp .lt (.op .add (.var 1) (.var 3)) (.var 2)) (.op .add (.var 1) (.var 3)) (.cst (.str jY))) .nil)) [aB (.int n),aB (.int g),aB (.ref f),aB (.ref k1.n),aB (.int (1+ (i:Int))),aB (.ref h1.n)] a1=.ok .aQ a3:=by
     have ga:a1.get h1.n=aB (.dm (ql (1+ (i:Int)) aO)):=dS;have hk:kE .update a1 (.ref h1.n)=true:=by simp only[kE,ga]
     have JL:ev (run F (k+1)) (.dc .seq (.var 2) (.many [0,1,2]) 3 [4] (.cmp .lt (.op .add (.var 1) (.var 3)) (.var 2)) (.op .add (.var 1) (.var 3)) (.cst (.str jY))) [aB (.int n),aB (.int g),aB (.ref f),aB (.ref k1.n),aB (.int (1+ (i:Int))),aB (.ref h1.n)] a1=.ok (.ref a1.n) a2:=by rw[ev,aE (x:=.ref f) rfl,aD];show((jK _ _ _ _ _ fuel 0 [aC,aC,aC,aB (.int (1+ (i:Int)))] a1 []).bind _)=_;rw[JN (p:=λx=>decide (x.2.1+ (1+ (i:Int))<x.2.2)) (kk:=λx=>x.2.1+ (1+ (i:Int))) (w:=.str jY) Yt (by lia) Pv.str (λx=>?_) (λx=>gW (aE rfl) (aE rfl) rfl) (λx=>aW),aD,<-OJ];rw[ev,gW (r:=.ok (.int (x.2.1+ (1+ (i:Int)))) a1) (aE rfl) (aE rfl) rfl,aD,aE (x:=.int x.2.2) rfl,aD];rfl
     rw[ev,aE (x:=.ref h1.n) rfl,aD,if_pos hk,aS JL bN,aD];show oM h1.n a1.n a2=_;have gx:a2.get h1.n=aB (.dm (ql (1+ (i:Int)) aO)):=by rw[show a2.get h1.n=a1.get h1.n from ig (fY _)];exact ga
     have gy:a2.get a1.n=aB (.dm (uI (1+ (i:Int)) aO)):=dS;have nb:Nat.beq h1.n a1.n=false:=by rw[<-Bool.not_eq_true,Nat.beq_eq];show ¬h1.n=h1.n+1;lia
     simp only[oM,gx,gy,nb];rw[if_neg mQ,if_pos (qL.mpr (by lia))];rfl
    have FL:a3.get h1.n=aB (.dm (yD (ql (1+ (i:Int)) aO) (uI (1+ (i:Int)) aO))):=by refine nX (o0:=.dm (ql (1+ (i:Int)) aO)) ?_;rw[show a2.get h1.n=a1.get h1.n from ig (fY _)];exact dS
    have r4:=mJ C (k:=k) (p:=h1.n) (n:=n) (h:=a3) (.inl FL) (OL OO.1 OP.1).v hn;have wa:Gm h1 a3:=((Gm.refl.new).new).set (bg _) (show h1.n<h1.n+1+1 by lia);have JP:a3.get k1.n=aB (.lst ((bX n (pK g aO):: (List.range i).map λi=>Cd n aO i).map .tup)):=by rw[wa.get _ hlt];exact g1
    refine⟨.int (1+ (i:Int)),[aB (.int n),aB (.int g),aB (.ref f),aB (.ref k1.n),aB (.int (1+ (i:Int))),y],[aB (.int n),aB (.int g),aB (.ref f),aB (.ref k1.n),aB (.int (1+ (i:Int))),aB (.ref h1.n)],a3.set k1.n (.lst ((bX n (pK g aO):: (List.range (i+1)).map λi=>Cd n aO i).map .tup)),?_,rfl,?_,⟨_,_,rfl⟩,?_,nX JP⟩;rw[Ct m1 (by lia),if_pos hi];unfold IT;refine(bE d1).trans ?_;refine(bE (ρ':=[aB (.int n),aB (.int g),aB (.ref f),aB (.ref k1.n),aB (.int (1+ (i:Int))),aB (.ref h1.n)]) (h':=a3) (by rw[exs,d2,aD])).trans ?_;refine(bE (ρ':=[aB (.int n),aB (.int g),aB (.ref f),aB (.ref k1.n),aB (.int (1+ (i:Int))),aB (.ref h1.n)]) (h':=a3.set k1.n (.lst ((bX n (pK g aO):: (List.range (i+1)).map λi=>Cd n aO i).map .tup))) ?_).trans (by rw[exs]);have hk:kE .append a3 (.ref k1.n)=true:=by simp only[kE,JP]
    rw[exs,ev,aE (x:=.ref k1.n) rfl,aD,if_pos hk,aS (mG (aE rfl) (aE rfl) r4) bN,aD];show((jV .append (.ref k1.n) [.tup (bX n (yD (ql (1+ (i:Int)) aO) (uI (1+ (i:Int)) aO)))] a3).bind _)=_;simp only[jV,JP];rw[if_pos (wN (by simp;lia)),aD,xG,fZ,<-nN,fZ];rw[show(1:Int)+i=(i:Int)+1 from yV _ _];rfl;exact(w1.trans wa).set (show h.n<=h.n+1 from qK _) (dI hlt wa.le))
  (λρ h1 hI=>by rw[Ct m1 (by lia),if_neg (gZ _)])
  (gU aO-1).toNat 0 fuel [aB (.int n),aB (.int g),aB (.ref f),aB (.ref k1.n),aC,aC] k3 (i7 _) (show _<1000000 by lia) ⟨⟨_,_,rfl⟩,w3,JO⟩
 obtain⟨⟨x4,x5,rfl⟩,w4,g4⟩:=hI;rw[iF C.X7 rfl];have eb:exs (run F (k+1)) wB.body [aB (.int n),aB (.int g),aB (.ref f),aC,aC,aC] ⟨h.n,h.n,h.os⟩=.ok (.rt (.ref k1.n)) k4:=by refine(bE (cA (x:=.ref k1.n) (h1:=k2) (fk (aS (mG (aE rfl) e1 r1) bN) rfl))).trans ?_;refine(bE ((ez (aS aW (aS Ys bN))).trans e4)).trans ?_;exact k6 (fS (aE rfl))
 obtain⟨h2,e5,w5,G⟩:=FF (h:=h) (h':=k4) (w:=.ref k1.n) (Co (show h.n<=h.n+1 by lia)) w4;refine⟨k1.n,h2,?_,by rw[G];exact g4,show h.n<=h.n+1 by lia,w5⟩;rw[<-e5];exact lP (fin h) eb
end
theorem Yu{w:W}(h:gv 24 w):Pv w:=λn=>OA 24 _ h
theorem Cu{B:Bd}(b:B.Ok):Pv B.w:=Yu (Xp b)
structure LL{X:Type}(enc:X->W)(h:VH)(rs:List Nat)(ls:List (List X)):Prop where
 len:rs.length=ls.length
 at_:∀(i r:Nat)(l:List X),rs[i]?=aB r->ls[i]?=aB l->h.get r=aB (.lst (l.map enc))
theorem LL.gm{X:Type}{enc:X->W}{h h':VH}{rs:List Nat}{ls:List (List X)}(L:LL enc h rs ls)(g:Gm h h'):LL enc h' rs ls:=⟨L.len,λi r l h1 h2=>by
 have:=L.at_ i r l h1 h2;rw[g.get r (cg this)];exact this⟩
theorem LL.nil{X:Type}{enc:X->W}{h:VH}:LL enc h [] ([]:List (List X)):=⟨rfl,λi r l h1 _=>by cases h1⟩
theorem LL.snoc{X:Type}{enc:X->W}{h:VH}{rs:List Nat}{ls:List (List X)}{r:Nat}{l:List X}(L:LL enc h rs ls)(g:h.get r=aB (.lst (l.map enc))):LL enc h (rs++[r]) (ls++[l]):=⟨by rw[eY,eY,L.len];rfl,λi q m h1 h2=>by
 by_cases hi:i<rs.length;rw[pS hi]at h1;rw[pS (by rw[<-L.len];exact hi)]at h2;exact L.at_ i q m h1 h2;rw[lR (by lia)]at h1;rw[lR (by rw[<-L.len];lia),<-L.len]at h2;cases z:i-rs.length with
 |zero=>
  rw[z]at h1 h2;cases h1;cases h2;exact g
 |succ n=>rw[z]at h1;cases h1⟩
theorem yF{h:VH}{a i:Nat}{rs:List Nat}(g:h.get a=aB (.lst (rs.map .ref))):aZ .seq (.ref a) i h=aB ((rs[i]?).map .ref):=by rw[uN g,dG]
noncomputable def uO:Nat->Nat->List (List Int)->Bool
 |0,nr,lanes=>(lanes.all λl=>!l.isEmpty)&&decide (nr<=1000)
 |n+1,nr,lanes=>!(lanes.map fP).flatten.isEmpty&&decide (1<=gU (lanes.map fP).flatten)&&decide (gU (lanes.map fP).flatten<=400)&&decide ((lanes.map fP).flatten.length<=400)
  && (lanes.all λl=>decide (l.length<1000))&&decide (nr<=1000)&&uO n (nr+1+ (gU (lanes.map fP).flatten-1).toNat) (List.zipWith nY lanes (lanes.map fP))
theorem Yv:(mF.all λx=>uO (aU x.1) 0 (mE x.1 x.2))=true:=by decide +kernel
theorem Shape.uO{S P:Nat}(h:Shape S P):uO (aU S) 0 (mE S P)=true:=i6.mp Yv _ (Fv h.s1 h.p1 h.p4 h.sp)
noncomputable def nF(s:Int):Nat->Int->Int->Int|0,_,g=>g|n+1,r,g=>if r<s then nF s n (r*2) (g+1)else g
theorem Yw:((List.range 17).all λS=>decide (nF (S:Int) 5 1 0=(aU S:Int))&&decide (S<=2 ^ 5))=true:=by decide +kernel
theorem OQ{cl:Call}{s ff:Int}{h:VH}:∀(n fu:Nat) (r g:Int),s<=r*2 ^ n->n<fu->∃r',dY (ev cl uq) (exs cl ER) fu [aB (.int s),aB (.int ff),aB (.int g),aB (.int r)] h=.ok (.nx [aB (.int s),aB (.int ff),aB (.int (nF s n r g)),aB (.int r')]) h
 |0,fu+1,r,g,hs,_=>by
  refine⟨r,?_⟩;have ec:ev cl uq [aB (.int s),aB (.int ff),aB (.int g),aB (.int r)] h=.ok (.bl false) h:=by unfold uq;rw[ev,aE (x:=.int r) rfl,aD,aE (x:=.int s) rfl,aD];show Res.ok (W.bl (decide (r<s))) h=_;rw[iX (by simp at hs;lia)]
  simp only[dY,ec,aD,nF]
 |n+1,fu+1,r,g,hs,hf=>by
  by_cases q:r<s;have ec:ev cl uq [aB (.int s),aB (.int ff),aB (.int g),aB (.int r)] h=.ok (.bl true) h:=by unfold uq;rw[ev,aE (x:=.int r) rfl,aD,aE (x:=.int s) rfl,aD];show Res.ok (W.bl (decide (r<s))) h=_;rw[kO q]
  have eb:exs cl ER [aB (.int s),aB (.int ff),aB (.int g),aB (.int r)] h=.ok (.nx [aB (.int s),aB (.int ff),aB (.int (g+1)),aB (.int (r*2))]) h:=by unfold ER;refine(bE (ρ':=[aB (.int s),aB (.int ff),aB (.int (g+1)),aB (.int r)]) (h':=h) ?_).trans ?_;rw[exs];rfl;refine(bE (ρ':=[aB (.int s),aB (.int ff),aB (.int (g+1)),aB (.int (r*2))]) (h':=h) ?_).trans (by rw[exs]);rw[exs];show(((Res.of ((if jU r||jU 2 then aB (r*2)else aC).map W.int) h)).bind _)=_;rw[if_pos (by rw[show jU 2=true from by decide,Bool.or_true])];rfl
  obtain⟨r',e⟩:=OQ (cl:=cl) (s:=s) (ff:=ff) (h:=h) n fu (r*2) (g+1) (by rw[Int.mul_assoc,show(2:Int)*2 ^ n=2 ^ (n+1) by rw[Int.pow_succ,Ds]];exact hs) (by lia);refine⟨r',?_⟩;simp only[dY,ec,aD,eb,e,nF,if_pos q];refine⟨r,?_⟩;have ec:ev cl uq [aB (.int s),aB (.int ff),aB (.int g),aB (.int r)] h=.ok (.bl false) h:=by unfold uq;rw[ev,aE (x:=.int r) rfl,aD,aE (x:=.int s) rfl,aD];show Res.ok (W.bl (decide (r<s))) h=_;rw[iX q]
  simp only[dY,ec,aD,nF,if_neg q]
theorem Yx{F:Nat->Option Fn}(A:fT F)(C:lK F){k S:Nat}{h:VH}(h1:1<=S)(h2:S<=16):run F (k+3) 32 [.int S,.int 1] h=.ok (.int (aU S:Int)) h:=by
 rw[iF C.f32 rfl];have e1:=FA A (k:=k) (h:=⟨h.n,h.n,h.os⟩) (w:=.int S) (lo:=1) (hi:=1000000000) (by simp[Kn,dN]);have e2:=FA A (k:=k) (h:=⟨h.n,h.n,h.os⟩) (w:=.int 1) (lo:=1) (hi:=4) (by simp[Kn,dN]);have w1:within (.int S) 1 1000000000=true:=by simp[within];lia
 have w2:within (.int 1) 1 4=true:=by decide
 rw[w1]at e1;rw[w2]at e2;have hq:=i6.mp Yw S (nQ.mpr (by lia));rw[bY,iB,iB]at hq;obtain⟨r',e3⟩:=OQ (cl:=run F (k+2)) (s:=S) (ff:=1) (h:=⟨h.n,h.n,h.os⟩) 5 fuel 1 0 (by lia) (by decide);rw[hq.1]at e3;simp[wz,exs,ev,e1,e2,e3,jl]
theorem OR{n:Nat}{ls:List Int}:gv (n+2) (iW ls)=true:=by unfold iW;rw[E7,i6];intro w hw;obtain⟨x,_,rfl⟩:=jb.mp hw;rfl
theorem OS{nx:Nat->VH->Option (Option W)}{e:FE}{h:VH}{ws:List W}{x:W}{tl:En}{f:W->W}(hx:∀i,nx i h=aB ws[i]?)(he:∀w∈ws,e (aB x::aB w::tl) h=.ok (f w) h) :
 ∀(fu i:Nat)(b:Option W)(acc:List W),i<=ws.length->ws.length<fu+i->∃b',jx nx (bL (.one 1)) (λ_ h=>.ok (.bl true) h) e fu i (aB x::b::tl) h acc=.ok (aB x::b'::tl,((ws.drop i).map f).reverse++acc) h
 |0,i,b,acc,hi,hl=>by lia
 |fu+1,i,b,acc,hi,hl=>by
  cases q:ws[i]? with
  |none=>
   rw[yM (nM.mp q)];exact⟨b,by simp only[jx,hx,q];rfl⟩
  |some w=>
   obtain⟨hi,ee⟩:=gA.mp q;obtain⟨b',ih⟩:=OS hx he fu (i+1) (aB w) (f w::acc) hi (by lia);refine⟨b',?_⟩;simp only[jx,hx,q,bL,oh,mP,aD,he w (kQ q),ih];rw[yL hi,ee];simp
theorem OT{nx:Nat->VH->Option (Option W)}{kY:En->VH->List W->Res (En×List W)}{h:VH}{ws:List W}{tl:En}{g:W->List W}(hx:∀i,nx i h=aB ws[i]?)
 (hi:∀x∈ws,∀(b:Option W)(acc:List W),∃b',kY (aB x::b::tl) h acc=.ok (aB x::b'::tl,(g x).reverse++acc) h) :
 ∀(fu i:Nat)(a b:Option W)(acc:List W),i<=ws.length->ws.length<fu+i->kZ nx (bL (.one 0)) (λ_ h=>.ok (.bl true) h) kY fu i (a::b::tl) h acc=.ok (acc.reverse++(ws.drop i).flatMap g) h
 |0,i,a,b,acc,hi,hl=>by lia
 |fu+1,i,a,b,acc,hi',hl=>by
  cases q:ws[i]? with
  |none=>
   rw[yM (nM.mp q)];simp only[kZ,hx,q];simp
  |some w=>
   obtain⟨hil,ee⟩:=gA.mp q;obtain⟨b',e1⟩:=hi w (kQ q) b acc;simp only[kZ,hx,q,bL,mP,aD,e1];rw[OT hx hi fu (i+1) (aB w) b' ((g w).reverse++acc) hil (by lia),yL hil,ee];simp
theorem JQ{nx:Nat->VH->Option (Option W)}{c e:FE}{h:VH}{ws:List W}{tl:En}{p:W->Bool}{f:W->W}(hx:∀i,nx i h=aB ws[i]?)(hc:∀w∈ws,c (aB w::tl) h=.ok (.bl (p w)) h)(he:∀w∈ws,e (aB w::tl) h=.ok (f w) h) :
 ∀(fu i:Nat)(a:Option W)(acc:List W),i<=ws.length->ws.length<fu+i->gC nx (bL (.one 0)) c e fu i (a::tl) h acc=.ok (acc.reverse++((ws.drop i).filter p).map f) h
 |0,i,a,acc,hi,hl=>by lia
 |fu+1,i,a,acc,hi,hl=>by
  cases q:ws[i]? with
  |none=>
   rw[yM (nM.mp q)];simp only[gC,hx,q];simp
  |some w=>
   obtain⟨hi,ee⟩:=gA.mp q;have hm:=kQ q;simp only[gC,hx,q,bL,mP,hc w hm,aD];rw[yL hi,ee];cases z:p w with
   |true=>
    simp only[he w hm,aD];rw[JQ hx hc he fu (i+1) (aB w) (f w::acc) hi (by lia)];simp[z]
   |false=>
    rw[JQ hx hc he fu (i+1) (aB w) acc hi (by lia)];simp[z]
theorem OU{h:VH}{n:Nat}:∀ls:List Int,aT (toD h (n+1)) (ls.map W.int)=aB (ls.map PyData.int)|[]=>rfl|x::r=>by simp only[dH,aT,OU r];rfl
theorem Yy{h:VH}{n:Nat}{ws:List W}:toD h (n+1) (.tup ws)=(aT (toD h n) ws).map .tuple:=rfl
theorem OV{h:VH}{n:Nat}{ls:List Int}:toD h (n+2) (iW ls)=aB (.tuple (ls.map .int)):=by unfold iW;rw[Yy,OU,iC]
theorem OW:∀ls ms:List Int,PyData.eqvAll (ls.map .int) (ms.map .int)=decide (ls=ms)
 |[],[]=>rfl
 |[],_::_=>rfl
 |_::_,[]=>rfl
 |x::r,y::s=>by
  simp only[dH,PyData.eqvAll,PyData.eqv,OW r s];by_cases a:x=y<;>by_cases b:r=s<;>simp[a,b]
theorem OX{h:VH}{w:W}{d:aA}(p:gv 24 w)(e:toD h 24 w=aB d):SeqAt.shaped d=true:=by obtain⟨d',h1,h2,h3⟩:=E6 h 24 w p;rw[e]at h1;cases h1;unfold SeqAt.shaped;rw[h2,Bool.true_and,iB];lia
theorem Yz{h:VH}{w w':W}{d d':aA}(p:gv 24 w)(p':gv 24 w')(e:toD h 24 w=aB d)(e':toD h 24 w'=aB d'):dj h w w'=aB (PyData.eqv d d'):=by unfold dj;rw[e,e'];simp[OX p e,OX p' e']
theorem YA{h:VH}{a b:List Int}:dj h (iW a) (iW b)=aB (decide (a=b)):=by rw[Yz OR OR OV OV];simp only[PyData.eqv,OW]
theorem FN{n:Nat}(h:n<=100000):jU (n:Int)=true:=by unfold jU;simp;lia
theorem nG{h:VH}{i:Int}{j:Int}(s:jU i=true\/jU j):iE .mul (.int i) (.int j) h=.ok (.int (i*j)) h:=by show Res.of ((if jU i||jU j then aB (i*j)else aC).map W.int) h=_;rw[if_pos (by rcases s with s|s<;>rw[s]<;>simp)];rfl
theorem LL.take_snoc{X:Type}{enc:X->W}{h:VH}{rs:List Nat}{ls:List (List X)}{r i:Nat}{l:List X}(L:LL enc h rs (ls.take i))(hl:ls[i]?=aB l)(g:h.get r=aB (.lst (l.map enc))):LL enc h (rs++[r]) (ls.take (i+1)):=by rw[qI,hl];exact L.snoc g
section
variable{F:Nat->Option Fn}(C:lK F)
include C
omit C in
theorem YB{cl:Call}{S P:Nat}{h:VH}{r2 r3 r4 r5 r6 r7 r8:Option W}(hS:S<=16)(hP:P<=4) :
 ∃a h' rs,ev cl (.lc .cD (.cons (.var 1) .nil) (.one 0) 1 [0] (.cst (.bl true)) IU) [aB (.int S),aB (.int P),r2,r3,r4,r5,r6,r7,r8] h=.ok (.ref a) h'/\h.n<=a/\Gm h h'/\h'.get a=aB (.lst (rs.map .ref))/\LL W.int h' rs (mE S P):=by
 have hlen:(mE S P).length=P:=by unfold mE;rw[bG,oj]
 obtain⟨ys,ρ',h',e1,hI⟩:=mH (nx:=aZ .cD (.tup [.int P])) (tg:=bL (.one 0)) (e:=ev cl IU) (n:=P)
  (I:=λi ρ h1 acc=>(∃x,ρ=[x,aB (.int S)])/\Gm h h1/\∃rs,acc=rs.map W.ref/\LL W.int h1 rs ((mE S P).take i))
  (λi ρ h1 acc hi hI=>by
    obtain⟨⟨x,rfl⟩,w1,rs,rfl,L⟩:=hI;obtain⟨ys,pL,h2,e2,lF⟩:=mH (nx:=aZ .cD (.tup [.int S])) (tg:=bL (.one 0)) (e:=ev cl NR) (n:=S)
     (I:=λj ρ h2 acc=>(∃x,ρ=[x,aB (.int (i:Int)),aB (.int S)])/\h2=h1/\acc=((List.range j).map λ(s:Nat)=>(2* ((i:Int)*S+s)+1)).map W.int)
     (λj ρ h2 acc hj hI=>by
       obtain⟨⟨x,rfl⟩,rfl,rfl⟩:=hI;refine⟨.int (j:Int),[aB (.int (j:Int)),aB (.int (i:Int)),aB (.int S)],.int (2* ((i:Int)*S+j)+1),h2,?_,rfl,?_,⟨_,rfl⟩,rfl,?_⟩;rw[jD (by lia),if_pos hj];exact gW (gW aW (gW (gW (aE rfl) (aE rfl) (nG (.inl (FN (by lia))))) (aE rfl) rfl) (nG (.inl (by decide)))) aW rfl;rw[xG,fZ,fZ];rfl)
     (λρ h2 acc hI=>by rw[jD (by lia),if_neg (gZ _)])
     (ρ:=inner 1 [0,1] [aB (.int (i:Int)),aB (.int S)]) (h:=h1) (by lia) ⟨⟨aC,rfl⟩,rfl,rfl⟩
    obtain⟨_,rfl,rfl⟩:=lF;refine⟨.int (i:Int),[aB (.int (i:Int)),aB (.int S)],.ref h2.n,_,?_,rfl,qp (aS (aE rfl) bN) e2 (by simp;lia),⟨_,rfl⟩,w1.new,rs++[h2.n],by rw[fZ];rfl,?_⟩;rw[jD (by lia),if_pos hi];refine(L.gm Gm.refl.new).take_snoc (l:=(List.range S).map λ(s:Nat)=>2* ((i:Int)*S+s)+1) ?_ dS;unfold mE;rw[dG,uV hi];rfl)
  (λρ h1 acc hI=>by rw[jD (by lia),if_neg (gZ _)])
  (ρ:=inner 1 [0] [aB (.int S),aB (.int P),r2,r3,r4,r5,r6,r7,r8]) (h:=h) (by lia) ⟨⟨aC,rfl⟩,.refl,[],rfl,LL.nil⟩
 obtain⟨_,w1,rs,rfl,L⟩:=hI;rw[List.take_of_length_le (Nat.le_of_eq hlen)]at L;have hl2:=L.len;exact⟨h'.n,_,rs,qp (aS (aE rfl) bN) e1 (by rw[bG];lia),w1.le,w1.new,dS,L.gm Gm.refl.new⟩
theorem YC{k a:Nat}{h:VH}{rs:List Nat}{lanes:List (List Int)}{ρ:En}(ga:h.get a=aB (.lst (rs.map .ref)))(L:LL W.int h rs lanes)(hl:lanes.length<=4)(hs:∀l∈lanes,l.length<1000)(lI:ρ[4]?=aB (aB (.ref a))) :
 ∃b h' fs,ev (run F (k+1)) (.lc .seq (.var 4) (.one 0) 1 [] (.cst (.bl true)) IV) ρ h=.ok (.ref b) h'/\h.n<=b/\Gm h h'/\h'.get b=aB (.lst (fs.map .ref))/\LL fW h' fs (lanes.map fP):=by
 have hlen:=L.len;obtain⟨ys,ρ',h',e1,hI⟩:=mH (nx:=aZ .seq (.ref a)) (tg:=bL (.one 0)) (e:=ev (run F (k+1)) IV) (n:=lanes.length)
  (I:=λi ρ h1 acc=>(∃x,ρ=[x])/\Gm h h1/\∃fs,acc=fs.map W.ref/\LL fW h1 fs ((lanes.map fP).take i))
  (λi ρ h1 acc hi hI=>by
    obtain⟨⟨x,rfl⟩,w1,fs,rfl,Lf⟩:=hI;have hr:=cN (show i<rs.length by lia);have hx:=cN hi;have gr:=L.at_ i _ _ hr hx;have JR:h1.get rs[i]=aB (.lst (lanes[i].map .int)):=by rw[w1.get _ (cg gr)];exact gr
    obtain⟨j,h2,e2,g2,_,w2⟩:=Yp C (k:=k) JR (hs _ (kR hi));refine⟨.ref rs[i],[aB (.ref rs[i])],.ref j,h2,?_,rfl,Cm (aE rfl) e2,⟨_,rfl⟩,w1.trans w2,fs++[j],by rw[fZ];rfl,?_⟩;rw[yF (by rw[w1.get _ (cg ga)];exact ga),hr];rfl;exact(Lf.gm w2).take_snoc (by rw[dG,hx];rfl) g2)
  (λρ h1 acc hI=>by rw[yF (by rw[hI.2.1.get _ (cg ga)];exact ga),iY (by lia)];rfl)
  (ρ:=inner 1 [] ρ) (h:=h) (by lia) ⟨⟨aC,rfl⟩,.refl,[],rfl,LL.nil⟩
 obtain⟨_,w1,fs,rfl,Lf⟩:=hI;rw[show(lanes.map fP).take lanes.length=lanes.map fP by rw[<-bG (f:=fP),nO]]at Lf;have hl2:=Lf.len;rw[bG]at hl2;exact⟨h'.n,_,fs,qp (aE lI) e1 (by rw[bG];lia),w1.le,w1.new,dS,Lf.gm Gm.refl.new⟩
omit C in
theorem YD{cl:Call}{b:Nat}{h:VH}{fs:List Nat}{aO:List (List (Int×Int×Int))}{ρ:En}(gb:h.get b=aB (.lst (fs.map .ref)))(L:LL fW h fs aO)(hl:aO.length<=4)(hs:aO.flatten.length<=400)(lI:ρ[7]?=aB (aB (.ref b))) :
 ev cl (.yd .seq (.var 7) (.one 0) 2 [] (.cst (.bl true)) .seq wF (.one 1) (.cst (.bl true)) yr) ρ h=.ok (.ref h.n) (h.new (.lst (aO.flatten.map fW))):=by
 have hlen:=L.len;have hg:∀i,(hi:i<fs.length)->aV h (.ref fs[i])=aB ((aO[i]'(by lia)).map fW):=λi hi=>nD (L.at_ i _ _ (cN hi) (cN (by lia)));have hin:∀x∈fs.map W.ref,∀(bb:Option W)(acc:List W),∃b',(λρ h acc=>(ev cl wF ρ h).bind λy h=>jx (aZ .seq y) (bL (.one 1)) (λ_ h=>.ok (.bl true) h) (ev cl yr) fuel 0 ρ h acc) (aB x::bb :: []) h acc=.ok (aB x::b' :: [],((aV h x).getD []).reverse++acc) h:=λx hx bb acc=>by
  obtain⟨r,hr,rfl⟩:=jb.mp hx;obtain⟨i,hi,rfl⟩:=List.getElem_of_mem hr;have e:=hg i hi;have hlt:((aO[i]'(by lia)).map fW).length<1000000:=by have:(aO[i]'(by lia)).length<=aO.flatten.length:=(List.sublist_flatten_of_mem (kR (by lia))).length_le;rw[bG];lia
  obtain⟨b',e2⟩:=OS (nx:=aZ .seq (.ref fs[i])) (e:=ev cl yr) (h:=h) (ws:=(aO[i]'(by lia)).map fW) (x:=.ref fs[i]) (tl:=[]) (f:=id) (λj=>by simp only[aZ,e,iC]) (λw hw=>aE rfl) fuel 0 bb acc (kT _) hlt;refine⟨b',?_⟩;show((ev cl wF [aB (.ref fs[i]),bb] h).bind _)=_;rw[show ev cl wF [aB (.ref fs[i]),bb] h=.ok (.ref fs[i]) h from aE rfl,aD,e2,e];simp
 have eo:=OT (kY:=λρ h acc=>(ev cl wF ρ h).bind λy h=>jx (aZ .seq y) (bL (.one 1)) (λ_ h=>.ok (.bl true) h) (ev cl yr) fuel 0 ρ h acc) (nx:=aZ .seq (.ref b)) (tl:=[]) (g:=λx=>(aV h x).getD []) (ws:=fs.map W.ref) (h:=h) (λi=>uN gb) hin fuel 0 aC aC [] (kT _) (by rw[bG];show _<1000000;lia);have Cv:∀(fs:List Nat)(aO:List (List (Int×Int×Int))),LL fW h fs aO->(fs.map W.ref).flatMap (λx=>(aV h x).getD [])=aO.flatten.map fW:=by
  intro fs;induction fs with
  |nil=>
   intro aO L;have:=L.len;cases aO with|nil=>rfl|cons x r=>simp at this
  |cons x r ih=>
   intro aO L;cases aO with
   |nil=>have:=L.len;simp at this
   |cons y s=>
    have:=L.at_ 0 x y rfl rfl;rw[dH,List.flatMap_cons,sU,fZ,nD this,ih s ⟨by have:=L.len;simpa using this,λi r l h1 h2=>L.at_ (i+1) r l (by simpa using h1) (by simpa using h2)⟩];rfl
 rw[Df,List.reverse_nil,xF,Cv fs aO L]at eo;rw[ev,aE lI,aD,wM];show((kZ (aZ .seq (.ref b)) (bL (.one 0)) (λ_ h=>.ok (.bl true) h) (λρ h acc=>(ev cl wF ρ h).bind λy h=>jx (aZ .seq y) (bL (.one 1)) (λ_ h=>.ok (.bl true) h) (ev cl yr) fuel 0 ρ h acc) fuel 0 [aC,aC] h []).bind _)=_;rw[eo,aD,if_pos (nC (by rw[bG];lia))]
theorem YE{k a b:Nat}{h:VH}{rs fs:List Nat}{lanes:List (List Int)}{aO:List (List (Int×Int×Int))}{ρ:En}(ga:h.get a=aB (.lst (rs.map .ref)))(gb:h.get b=aB (.lst (fs.map .ref)))(L:LL W.int h rs lanes)(Lf:LL fW h fs aO)(hl:lanes.length<=4)(hlf:aO.length=lanes.length)(hs:∀l∈lanes,l.length<1000)(hf:∀i (h1:i<lanes.length),2* (aO[i]'(by lia)).length<=lanes[i].length)(lI:ρ[4]?=aB (aB (.ref a)))(JS:ρ[7]?=aB (aB (.ref b))) :
 ∃c h' ss,ev (run F (k+1)) (.lc .zip (.cons (.var 4) (.cons (.var 7) .nil)) (.many [0,1]) 2 [] (.cst (.bl true)) IW) ρ h=.ok (.ref c) h'/\h.n<=c/\Gm h h'/\h'.get c=aB (.lst (ss.map .ref))/\LL W.int h' ss (List.zipWith nY lanes aO):=by
 have hlen:=L.len;have hlen2:=Lf.len;have hz:(List.zipWith nY lanes aO).length=lanes.length:=by rw[List.length_zipWith];lia
 have nx:∀(i:Nat)(h1:VH),Gm h h1->aZ .zip (.tup [.ref a,.ref b]) i h1=aB (match rs[i]?,fs[i]? with
  |some x,aB y=>aB (.tup [.ref x,.ref y])
  |_,_=>aC):=λi h1 w1=>by
  have g1:h1.get a=aB (.lst (rs.map .ref)):=by rw[w1.get _ (cg ga)];exact ga
  have g2:h1.get b=aB (.lst (fs.map .ref)):=by rw[w1.get _ (cg gb)];exact gb
  simp only[aZ,aV,g1,g2,dG];cases rs[i]?<;>cases fs[i]?<;>rfl
 obtain⟨ys,ρ',h',e1,hI⟩:=mH (nx:=aZ .zip (.tup [.ref a,.ref b])) (tg:=bL (.many [0,1])) (e:=ev (run F (k+1)) IW) (n:=lanes.length)
  (I:=λi ρ h1 acc=>(∃x y,ρ=[x,y])/\Gm h h1/\∃ss,acc=ss.map W.ref/\LL W.int h1 ss ((List.zipWith nY lanes aO).take i))
  (λi ρ h1 acc hi hI=>by
    obtain⟨⟨x,y,rfl⟩,w1,ss,rfl,Ls⟩:=hI;have hr:=cN (show i<rs.length by lia);have hq:=cN (show i<fs.length by lia);have hx:=cN hi;have hy:=cN (show i<aO.length by lia);have gr:=L.at_ i _ _ hr hx;have gq:=Lf.at_ i _ _ hq hy;have JR:h1.get rs[i]=aB (.lst (lanes[i].map .int)):=by rw[w1.get _ (cg gr)];exact gr
    have YF:h1.get fs[i]=aB (.lst (aO[i].map fW)):=by rw[w1.get _ (cg gq)];exact gq
    have hs1:=hs _ (kR hi);have hf1:=hf i hi;obtain⟨j,h2,e2,g2,_,w2⟩:=Yq C (k:=k) JR YF hs1 (by lia) hf1;refine⟨.tup [.ref rs[i],.ref fs[i]],[aB (.ref rs[i]),aB (.ref fs[i])],.ref j,h2,?_,rfl,mG (aE rfl) (aE rfl) e2,⟨_,_,rfl⟩,w1.trans w2,ss++[j],by rw[fZ];rfl,?_⟩;rw[nx i h1 w1,hr,hq];refine(Ls.gm w2).take_snoc ?_ g2;rw[List.getElem?_zipWith,hx,hy])
  (λρ h1 acc hI=>by rw[nx _ h1 hI.2.1,iY (by lia)])
  (ρ:=inner 2 [] ρ) (h:=h) (by lia) ⟨⟨aC,aC,rfl⟩,.refl,[],rfl,LL.nil⟩
 obtain⟨_,w1,ss,rfl,Ls⟩:=hI;rw[show(List.zipWith nY lanes aO).take lanes.length=List.zipWith nY lanes aO by rw[<-hz,nO]]at Ls;have hl2:=Ls.len;exact⟨h'.n,_,ss,qp (aS (aE lI) (aS (aE JS) bN)) e1 (by rw[bG];lia),w1.le,w1.new,dS,Ls.gm Gm.refl.new⟩
end
structure xm(w G:Nat)(k0:VH)(S P:Nat)(i:Nat)(ρ:En)(h:VH):Prop where
 ex:∃(a r:Nat) (rs:List Nat) (lanes:List (List Int)) (rows:List (List W)) (x6 x7:Option W),
  ρ=[aB (.int S),aB (.int P),aB (.int G),aB (.int w),aB (.ref a),aB (.ref r),x6,x7,aC]/\Gm k0 h/\h.get a=aB (.lst (rs.map .ref))/\LL W.int h rs lanes/\
  h.get r=aB (.lst (rows.map .tup))/\lanes.length=P/\uO (G-i) rows.length lanes=true/\jB w (G-i) i lanes rows=jB w G 0 (mE S P) []
theorem Cw{x:W}{n:Nat}{h:VH}(hn:n<=1000):iE .mul (.tup [x]) (.int n) h=.ok (.tup (bV n x)) h:=by
 have hf:(fits (n:Int)&&Nat.ble ([x].length* ((n:Nat):Int).toNat) big)=true:=by rw[bY];refine⟨?_,nC ?_⟩;unfold fits;simp;lia;simp;lia
 show Res.of ((if(fits (n:Int)&&Nat.ble ([x].length* ((n:Nat):Int).toNat) big)=true then aB (bV ((n:Nat):Int).toNat [x]).flatten else aC).map W.tup) h=_;rw[if_pos hf,pV,List.flatten_replicate_singleton];rfl
theorem OY{w:Nat}{g:Int}{aO:List (Int×Int×Int)}:(Ce w g aO).length=1+ (gU aO-1).toNat:=by unfold Ce;rw[cY,bG,oj];lia
section
variable{F:Nat->Option Fn}(A:fT F)(C:lK F)
include C
theorem YG{k w G S P:Nat}{k0:VH}(hw:w<1000)(hP:P<=4){i:Nat}{ρ:En}{h:VH}(hi:i<G)(I:xm w G k0 S P i ρ h) :
 ∃pL h2,exs (run F (k+2)) BR (ρ.set 6 (aB (.int (i:Int)))) h=.ok (.nx pL) h2/\xm w G k0 S P (i+1) pL h2:=by
 obtain⟨a,r,rs,lanes,rows,x6,x7,rfl,w0,ga,L,gr,hl,ok,hp⟩:=I;rw[show G-i=(G- (i+1))+1 by lia]at ok hp;simp only[uO,bY,iB,i6,u5,List.isEmpty_eq_false_iff]at ok;obtain⟨⟨⟨⟨⟨⟨o1,o2⟩,o3⟩,o4⟩,o5⟩,o6⟩,o7⟩:=ok;rw[jB]at hp;show ∃pL h2,exs (run F (k+2)) BR [aB (.int S),aB (.int P),aB (.int G),aB (.int w),aB (.ref a),aB (.ref r),aB (.int (i:Int)),x7,aC] h=_/\_;obtain⟨b,h1,fs,e1,hb,w1,gb,Lf⟩:=YC C (k:=k+1) (ρ:=[aB (.int S),aB (.int P),aB (.int G),aB (.int w),aB (.ref a),aB (.ref r),aB (.int (i:Int)),x7,aC]) ga L (by lia) o5 rfl;have e2:=YD (cl:=run F (k+2)) (ρ:=[aB (.int S),aB (.int P),aB (.int G),aB (.int w),aB (.ref a),aB (.ref r),aB (.int (i:Int)),aB (.ref b),aC]) gb Lf (by rw[bG];lia) o4 rfl;obtain⟨d,h3,e3,g3,hd,w3⟩:=Yr C (k:=k) (g:=(i:Int)) (h:=h1.new (.lst ((lanes.map fP).flatten.map fW))) (f:=h1.n) dS o4 o1 hw o2 o3;have OZ:Gm h h3:=w1.new.trans w3;have FO:h3.get r=aB (.lst (rows.map .tup)):=by rw[OZ.get _ (cg gr)];exact gr
 let h4:=h3.new (.lst ((Ce w i (lanes.map fP).flatten++rows).map .tup));have JT:Gm h h4:=OZ.new;have YH:h4.get a=aB (.lst (rs.map .ref)):=by rw[JT.get _ (cg ga)];exact ga
 have O0:Gm h1 h4:=(Gm.refl.new.trans w3).new;have YI:h4.get b=aB (.lst (fs.map .ref)):=by rw[O0.get _ (cg gb)];exact gb
 obtain⟨c,h5,ss,e5,hc,w5,gc,Ls⟩:=YE C (k:=k+1) (ρ:=[aB (.int S),aB (.int P),aB (.int G),aB (.int w),aB (.ref a),aB (.ref h3.n),aB (.int (i:Int)),aB (.ref b),aC]) YH YI (L.gm JT) (Lf.gm O0) (by lia) (by rw[bG]) o5 (λj hj=>by rw[List.getElem_map,FH];lia) rfl rfl;refine⟨[aB (.int S),aB (.int P),aB (.int G),aB (.int w),aB (.ref c),aB (.ref h3.n),aB (.int (i:Int)),aB (.ref b),aC],h5,?_,⟨c,h3.n,ss,_,_,_,_,rfl,w0.trans (JT.trans w5),gc,Ls,?_,?_,?_,hp⟩⟩;unfold BR;refine(bE (cA e1)).trans ?_;refine(bE (ρ':=[aB (.int S),aB (.int P),aB (.int G),aB (.int w),aB (.ref a),aB (.ref h3.n),aB (.int (i:Int)),aB (.ref b),aC]) (h':=h4) ?_).trans ?_;refine cA (x:=.ref h3.n) (h1:=h4) (gW (sQ (aE rfl) (aE rfl) e2 e3) (aE rfl) ?_);simp only[iE,g3,FO,AH];rw[if_pos (nC (by rw[bG,bG,OY];lia)),<-fZ];exact(bE (cA e5)).trans (by rw[exs];rfl);rw[w5.get _ (show h3.n<h3.n+1 from fY _)];exact dS;rw[List.length_zipWith,bG];lia;rw[eY,OY,show 1+ (gU (lanes.map fP).flatten-1).toNat+rows.length=rows.length+1+ (gU (lanes.map fP).flatten-1).toNat by lia];exact o7
include A
theorem YJ{k S P:Nat}{h:VH}(sh:Shape S P):run F (k+5) 77 [.int S,.int P] h=.ok (aM S P).w h:=by
 have iz:=sh.iz;have YK:=sh.wd;have YL:=Yx A C (k:=k+1) (h:=⟨h.n,h.n,h.os⟩) sh.s1 iz;obtain⟨a,k1,rs,e4,ha,w1,ga,L⟩:=YB (cl:=run F (k+4)) (S:=S) (P:=P) (h:=⟨h.n,h.n,h.os⟩) (r2:=aB (.int (aU S:Int))) (r3:=aB (.int (bz S P:Int))) (r4:=aC) (r5:=aC) (r6:=aC) (r7:=aC) (r8:=aC) iz sh.p4;let k2:=k1.new (.lst []);obtain⟨ρ3,k3,e5,I⟩:=nZ (nx:=aZ .cD (.tup [.int (aU S)])) (tg:=bL (.one 6)) (b:=exs (run F (k+4)) BR) (n:=aU S)
  (I:=xm (bz S P) (aU S) ⟨h.n,h.n,h.os⟩ S P)
  (λi ρ h1 hi hI=>by
    obtain⟨pL,h2,e,lF⟩:=YG C (k:=k+2) (by lia) sh.p4 hi hI;refine⟨.int (i:Int),_,pL,h2,?_,rfl,e,lF⟩;rw[jD (by have:=uJ (S:=S);lia),if_pos hi])
  (λρ h1 hI=>by rw[jD (by have:=uJ (S:=S);lia),if_neg (gZ _)])
  (aU S) 0 fuel [aB (.int S),aB (.int P),aB (.int (aU S:Int)),aB (.int (bz S P:Int)),aB (.ref a),aB (.ref k1.n),aC,aC,aC] k2 (i7 _) (show _<1000000 by have:=uJ (S:=S);lia)
  ⟨a,k1.n,rs,mE S P,[],aC,aC,rfl,w1.new,by rw[show k2.get a=k1.get a from ig (cg ga)];exact ga,L.gm Gm.refl.new,dS,by unfold mE;rw[bG,oj],sh.uO,rfl⟩
 obtain⟨a2,r2,JU,lanes,rows,x6,x7,rfl,w3,FL,L3,FO,hl3,JV,hp3⟩:=I;rw[Nat.sub_self]at JV hp3;simp only[uO,bY,iB,i6,u5,List.isEmpty_eq_false_iff]at JV;have hR:aR S P=rows:=by unfold aR;rw[<-hp3];rfl
 have hF:bf S P=lanes.map kK:=by unfold bf;rw[<-hp3];rfl
 have hlen:=L3.len;have p4:=sh.p4;obtain⟨ys,ρ',h',e6,hI⟩:=mH (nx:=aZ .seq (.ref a2)) (tg:=bL (.one 0)) (e:=ev (run F (k+4)) NS) (n:=lanes.length)
  (I:=λi ρ h1 acc=>(∃x,ρ=[x])/\h1=k3/\acc=((lanes.map kK).take i).map W.int)
  (λi ρ h1 acc hi hI=>by
    obtain⟨⟨x,rfl⟩,rfl,rfl⟩:=hI;have hr:=cN (show i<JU.length by lia);have hx:=cN hi;have gr:=L3.at_ i _ _ hr hx;have hne:=JV.1 _ (kR hi);refine⟨.ref JU[i],[aB (.ref JU[i])],.int (kK lanes[i]),h1,?_,rfl,?_,⟨_,rfl⟩,rfl,?_⟩;rw[yF FL,hr];rfl;refine cX (aE rfl) aW ?_;generalize lanes[i]=l at gr hne;obtain⟨x,r,rfl⟩:∃x r,l=x::r:=by
     cases l with|nil=>exact absurd rfl hne|cons x r=>exact⟨x,r,rfl⟩
    simp only[bR,gr];exact lu (j:=0) rfl;rw[qI,dG,hx,fZ];rfl)
  (λρ h1 acc hI=>by rw[hI.2.1,yF FL,iY (by lia)];rfl)
  (ρ:=inner 1 [] [aB (.int S),aB (.int P),aB (.int (aU S:Int)),aB (.int (bz S P:Int)),aB (.ref a2),aB (.ref r2),x6,x7,aC]) (h:=k3) (by lia) ⟨⟨aC,rfl⟩,rfl,rfl⟩
 obtain⟨_,rfl,rfl⟩:=hI;rw[<-bG (f:=kK),nO,<-hF]at e6;have O1:(h'.new (.lst ((bf S P).map W.int))).get r2=aB (.lst (rows.map .tup)):=by rw[ig (cg FO)];exact FO
 rw[<-hR]at O1;have hbody:exs (run F (k+4)) rY.body [aB (.int S),aB (.int P),aC,aC,aC,aC,aC,aC,aC] ⟨h.n,h.n,h.os⟩=.ok (.rt (aM S P).w) (h'.new (.lst ((bf S P).map W.int))):=by
  refine(bE (cA (mG (aE rfl) aW YL))).trans ?_;refine(bE (cA (x:=.int (bz S P:Int)) (h1:=⟨h.n,h.n,h.os⟩) (gW (gW (gW aW (aE rfl) (nG (.inl (by decide)))) (aE rfl) (nG (.inr (FN (by lia))))) aW ?_))).trans ?_;show Res.ok (W.int (2* (S:Int)*P+1)) _=_;unfold bz
  push_cast;rfl;refine(bE (cA e4)).trans ?_;refine(bE (cA (x:=.ref k1.n) (h1:=k2) (fk bN rfl))).trans ?_;refine(bE ((ez (aS (aE rfl) bN)).trans e5)).trans ?_;refine(bE (cA (x:=.tup ((bf S P).map W.int)) (qo (qp (aE rfl) e6 (by rw[bG,hF,bG];lia)) (nD dS)))).trans ?_;refine k6 (fS (uM (aE rfl) (aE rfl) (qo (aE rfl) (nD O1)) (aE rfl) (gW (JH (aS aW bN) rfl) (aE rfl) ?_)));exact Cw (by lia)
 rw[iF C.Yg rfl];show fin h (exs (run F (k+4)) rY.body [aB (.int S),aB (.int P),aC,aC,aC,aC,aC,aC,aC] ⟨h.n,h.n,h.os⟩)=_;rw[hbody];exact Cr (Cu sh.ok) w3.new
end
noncomputable def br(x:Int×Int):W:=.tup [.int x.1,.int x.2]
noncomputable def bx(r:List (Int×Int)):W:=.tup (r.map br)
noncomputable def mW(M:List (List (Int×Int))):W:=.tup (M.map bx)
theorem FP{x:Int×Int}:Pv (br x):=Pv.tup λw hw=>by
 rcases fV.mp hw with rfl|hw;exact Pv.int;rw[pT.mp hw];exact Pv.int
theorem FQ{h:VH}{ws:List W}:Kn h (.tup ws):=by simp[Kn,dN]
theorem O2{h:VH}{i:Int}:Kn h (.int i):=by simp[Kn,dN]
theorem O3:∀n,aT tW (bV n (W.bl true))=aB (bV n true)|0=>rfl|n+1=>by simp only[qA,aT,tW,O3 n]
theorem O4{cl:Call}{ρ:En}{h:VH}{ws:List W}{x:W}{a e:E}{ix:List Nat}{tl:En}(ea:ev cl a ρ h=.ok (.tup ws) h)(hl:ws.length<1000)(hin:inner 1 ix ρ=aC::tl)
 (he:∀w∈ws,ev cl e (aB w::tl) h=.ok (.bl true) h):∃h',ev cl (.bi .all (.cons (.lc .seq a (.one 0) 1 ix (.cst (.bl true)) e) .nil)) ρ h=.ok (.bl true) h'/\Gm h h':=by
 obtain⟨ys,ρ',h',e1,hI⟩:=mH (nx:=aZ .seq (.tup ws)) (tg:=bL (.one 0)) (e:=ev cl e) (n:=ws.length)
  (I:=λi ρ h1 acc=>(∃x,ρ=x::tl)/\h1=h/\acc=bV i (W.bl true))
  (λi ρ h1 acc hi hI=>by
    obtain⟨⟨x,rfl⟩,rfl,rfl⟩:=hI;have hx:=cN hi;refine⟨ws[i],aB ws[i]::tl,.bl true,h1,?_,rfl,he _ (kR hi),⟨_,rfl⟩,rfl,?_⟩;simp only[aZ,aV,iC,hx];rw[<-List.replicate_succ'])
  (λρ h1 acc hI=>by simp only[aZ,aV,iC,iY (bg _)])
  (ρ:=inner 1 ix ρ) (h:=h) (by lia) ⟨⟨aC,hin⟩,rfl,rfl⟩
 obtain⟨_,rfl,rfl⟩:=hI;refine⟨_,?_,Gm.refl.new (o:=.lst (bV ws.length (W.bl true)))⟩;rw[ev,aS (qp ea e1 (by rw[uU];lia)) bN,aD];show nj [.ref h'.n] _=_;have g:(h'.new (.lst (bV ws.length (W.bl true)))).get h'.n=aB (.lst (bV ws.length (W.bl true))):=dS;simp only[nj,g,O3,iC,bO];have ha:(bV ws.length true).all id=true:=i6.mpr λb hb=>List.eq_of_mem_replicate hb;rw[ha]
theorem FT{cl:Call}{ρ:En}{h h1:VH}{a:E}{b:Bool}(ea:ev cl a ρ h=.ok (.bl b) h1):ev cl (.not (.p9 a)) ρ h=.ok (.bl (!b)) h1:=by rw[ev,ev,ea,aD];cases b<;>rfl
section
variable{F:Nat->Option Fn}(A:fT F)(C:lK F)
include A C
theorem YM{k S:Nat}{h:VH}{x:Int×Int}(h1:0<=x.1/\x.1<=99)(h2:0<=x.2/\x.2<S):run F (k+3) 70 [br x,.int S] h=.ok (.bl true) h:=by
 have e6:=FD A (k:=k+1) (h:=⟨h.n,h.n,h.os⟩) (w:=br x) (lo:=2) (hi:=2) FQ;have e1:=FA A (k:=k) (h:=⟨h.n,h.n,h.os⟩) (w:=.int x.1) (lo:=0) (hi:=99) O2;have e2:=FA A (k:=k) (h:=⟨h.n,h.n,h.os⟩) (w:=.int x.2) (lo:=0) (hi:=(S:Int)-1) O2;rw[show pI (br x) 2 2=true from rfl]at e6;rw[show within (.int x.1) 0 99=true by simp[within];lia]at e1;rw[show within (.int x.2) 0 ((S:Int)-1)=true by simp[within];lia]at e2;rw[iF C.Yc rfl];have eb:exs (run F (k+2)) rV.body [aB (br x),aB (.int S),aC,aC] ⟨h.n,h.n,h.os⟩=.ok (.rt (.bl true)) ⟨h.n,h.n,h.os⟩:=by refine(bE (ρ':=[aB (br x),aB (.int S),aC,aC]) (h':=⟨h.n,h.n,h.os⟩) ?_).trans ?_;rw[exs,FT (sQ (aE rfl) aW aW e6),aD];show exs _ .skip _ _=_;rw[exs];refine(bE (ρ':=[aB (br x),aB (.int S),aB (.int x.1),aB (.int x.2)]) (h':=⟨h.n,h.n,h.os⟩) ?_).trans ?_;rw[exs,aE (x:=br x) rfl,aD];rfl;refine k6 (fS ?_);rw[ev,sQ (aE rfl) aW aW e1,aD];exact sQ (aE rfl) aW (gW (aE rfl) aW rfl) e2
 show fin h (exs (run F (k+2)) rV.body [aB (br x),aB (.int S),aC,aC] ⟨h.n,h.n,h.os⟩)=_;rw[eb];exact jl (bg _) rfl
theorem YN{k S P:Nat}{h:VH}{r:List (Int×Int)}(hl:r.length=P)(hP:P<=4)(hx:∀x∈r,0<=x.1/\x.1<=99/\0<=x.2/\x.2<S):run F (k+4) 71 [bx r,.int P,.int S] h=.ok (.bl true) h:=by
 have e6:=FD A (k:=k+2) (h:=⟨h.n,h.n,h.os⟩) (w:=bx r) (lo:=P) (hi:=P) FQ;rw[show pI (bx r) P P=true by simp[pI,bx,hl]]at e6;obtain⟨h',e7,w7⟩:=O4 (cl:=run F (k+3)) (ρ:=[aB (bx r),aB (.int P),aB (.int S)]) (h:=⟨h.n,h.n,h.os⟩) (ws:=r.map br) (x:=.aQ) (a:=.var 0) (e:=NP) (ix:=[2]) (tl:=[aB (.int S)]) (aE rfl) (by rw[bG];lia) rfl (λw hw=>by
  obtain⟨x,hm,rfl⟩:=jb.mp hw;obtain⟨a1,a2,a3,a4⟩:=hx x hm;exact mG (aE rfl) (aE rfl) (YM A C ⟨a1,a2⟩ ⟨a3,a4⟩))
 rw[iF C.Yd rfl];have eb:exs (run F (k+3)) rW.body [aB (bx r),aB (.int P),aB (.int S)] ⟨h.n,h.n,h.os⟩=.ok (.rt (.bl true)) h':=by refine k6 (fS ?_);rw[ev,sQ (aE rfl) (aE rfl) (aE rfl) e6,aD];exact e7
 show fin h (exs (run F (k+3)) rW.body [aB (bx r),aB (.int P),aB (.int S)] ⟨h.n,h.n,h.os⟩)=_;rw[eb];exact Cr (λ_=>rfl) w7
theorem YO{k S P:Nat}{h:VH}{M:List (List (Int×Int))}(sh:Shape S P)(m:xh S P M):run F (k+5) 69 [mW M] h=.ok (.bl true) h:=by
 have iz:=sh.iz;have p4:=sh.p4;have sp:=sh.sp;have s1:=sh.s1;have p1:=sh.p1;obtain⟨r0,M',rfl⟩:∃r M',M=r::M':=by
  cases M with|nil=>have:=m.l;simp at this;lia|cons r M'=>exact⟨r,M',rfl⟩
 have l0:=m.r r0 eX;have lM:=m.l;have e6:=FD A (k:=k+3) (h:=⟨h.n,h.n,h.os⟩) (w:=mW (r0::M')) (lo:=1) (hi:=16) FQ;have e7:=FD A (k:=k+3) (h:=⟨h.n,h.n,h.os⟩) (w:=bx r0) (lo:=1) (hi:=4) FQ;rw[show pI (mW (r0::M')) 1 16=true by simp[pI,mW];simp at lM;lia]at e6;rw[show pI (bx r0) 1 4=true by simp[pI,bx];lia]at e7;have i0:∀g:VH,bR g (mW (r0::M')) (.int 0)=aB (bx r0):=λg=>JE;obtain⟨h',e8,w8⟩:=O4 (cl:=run F (k+4)) (ρ:=[aB (mW (r0::M')),aB (.int S),aB (.int P)]) (h:=⟨h.n,h.n,h.os⟩) (ws:=(r0::M').map bx) (x:=.aQ) (a:=.var 0) (e:=NO) (ix:=[2,1]) (tl:=[aB (.int P),aB (.int S)]) (aE rfl) (by rw[bG];lia) rfl (λw hw=>by
  obtain⟨x,hm,rfl⟩:=jb.mp hw;exact sQ (aE rfl) (aE rfl) (aE rfl) (YN A C (m.r x hm) p4 (m.p x hm)))
 rw[iF C.Yb rfl];have eb:exs (run F (k+4)) rT.body [aB (mW (r0::M')),aC,aC] ⟨h.n,h.n,h.os⟩=.ok (.rt (.bl true)) h':=by
  refine(bE (ρ':=[aB (mW (r0::M')),aC,aC]) (h':=⟨h.n,h.n,h.os⟩) ?_).trans ?_;rw[exs,Jk (x:=false) (y:=false) (FT (sQ (aE rfl) aW aW e6)) (FT (sQ (cX (aE rfl) aW (i0 _)) aW aW e7)),aD];show exs _ .skip _ _=_;rw[exs];refine(bE (cA (x:=.int (S:Int)) (lJ (ws:=(r0::M').map bx) (aE rfl) rfl |>.trans (by rw[bG,lM])))).trans ?_;refine(bE (cA (x:=.int (P:Int)) (lJ (ws:=r0.map br) (cX (aE rfl) aW (i0 _)) rfl |>.trans (by rw[bG,l0])))).trans ?_;refine k6 (fS ?_);have ec:ev (run F (k+4)) (.cmp .le (.op .mul (.var 1) (.var 2)) (.cst (.int (16)))) [aB (mW (r0::M')),aB (.int S),aB (.int P)] ⟨h.n,h.n,h.os⟩=.ok (.bl true) ⟨h.n,h.n,h.os⟩:=by rw[ev,gW (aE rfl) (aE rfl) (nG (.inl (FN (by lia)))),aD,aW,aD];show Res.ok (W.bl (decide ((S:Int)* (P:Int)<=16))) _=_;rw[kO (by have:=Int.ofNat_le.mpr sp;rwa [Int.natCast_mul]at this)]
  show ev (run F (k+4)) (.and _ _) [aB (mW (r0::M')),aB (.int S),aB (.int P)] ⟨h.n,h.n,h.os⟩=_;rw[ev,ec,aD];exact e8
 show fin h (exs (run F (k+4)) rT.body [aB (mW (r0::M')),aC,aC] ⟨h.n,h.n,h.os⟩)=_;rw[eb];exact Cr (λ_=>rfl) w8
end
theorem YQ:BS=.seq (.set 6 (.idx (.var 5) (.var 3))) (.seq (.ite (.cmp .eq (.var 6) sE) (.seq (.ret (.cst .aQ)) .skip) .skip) (.seq wG (.seq (.set 3 (.op .add (.var 3) (.var 4))) .skip))):=rfl
theorem YR{cl:Call}{ρ:En}{h:VH}{x:Str}{d:Int}{i:Nat}(lI:ρ[i]?=aB (aB (.str x)))(e:aP jO (.inr x)=aB (.int d)):ev cl (.idx rZ (.var i)) ρ h=.ok (.int d) (h.new (.dk jO)):=by refine cX XF (aE lI) ?_;unfold bR;simp only[XG,e]
section
variable{cl:Call}{k0 h:VH}{b f:W}{l:Nat}{r:W}{c hd:Int}{ls:List Int}
theorem JW{d:Int}{x:Str}(e1:(.str x:W)=.str dU\/(.str x:W)=.str fJ\/(.str x:W)=.str jY)(e:aP jO (.inr x)=aB (.int d)) :
 exs cl wG [aB b,aB (.ref l),aB f,aB (.int c),aB (.int hd),aB r,aB (.str x)] h=.ok (.nx [aB b,aB (.ref l),aB f,aB (.int c),aB (.int d),aB r,aB (.str x)]) (h.new (.dk jO)):=by
 have ed:=YR (cl:=cl) (i:=6) (ρ:=[aB b,aB (.ref l),aB f,aB (.int c),aB (.int hd),aB r,aB (.str x)]) (h:=h) rfl e;have ec:ev cl (.or (.cmp .eq (.var 6) (.cst (.str (cj ".")))) (.or (.cmp .eq (.var 6) (.cst (.str (cj "<")))) (.cmp .eq (.var 6) (.cst (.str (cj ">")))))) [aB b,aB (.ref l),aB f,aB (.int c),aB (.int hd),aB r,aB (.str x)] h=.ok (.bl true) h:=by rcases e1 with e1|e1|e1<;>rw[e1]<;>simp[ev,bJ]
 unfold wG;rw[exs,ec,aD];simp only[exs,ed,aD,oh,mP]
theorem YS:exs cl wG [aB b,aB (.ref l),aB f,aB (.int c),aB (.int hd),aB r,aB (.str sX)] h=.ok (.nx [aB b,aB (.ref l),aB f,aB (.int c),aB (.int hd),aB r,aB (.str sX)]) h:=by simp[wG,exs,ev,bJ]
theorem YT{p q:Nat}(hp:p<ls.length)(g:h.get l=aB (.lst (ls.map .int))) :
 exs cl wG [aB b,aB (.ref l),aB f,aB (.int c),aB (.int hd),aB r,aB (.tup [.int p,.int q])] h=.ok (.nx [aB b,aB (.ref l),aB f,aB (.int c),aB (.int (if ls.getD p 0=q then -1 else 1)),aB r,aB (.tup [.int p,.int q])]) (h.set l (.lst ((ls.set p (1-ls.getD p 0)).map .int))):=by
 have e1:=N5 hp;have e2:i8 (ls.map W.int).length (p:Int)=aB p:=Jq (by rw[bG];exact hp);have i0:fE [W.int p,.int q] 0=aB (.int p):=rfl;have i1:fE [W.int p,.int q] 1=aB (.int q):=rfl;have n1:∀h,dj h (.tup [.int (p:Int),.int (q:Int)]) (.str (cj "."))=aB false:=λh=>Cc (by decide +kernel);have n2:∀h,dj h (.tup [.int (p:Int),.int (q:Int)]) (.str (cj "<"))=aB false:=λh=>Cc (by decide +kernel);have n3:∀h,dj h (.tup [.int (p:Int),.int (q:Int)]) (.str (cj ">"))=aB false:=λh=>Cc (by decide +kernel);have n4:∀h,dj h (.tup [.int (p:Int),.int (q:Int)]) (.str (cj "x"))=aB false:=λh=>Cc (by decide +kernel);have s1:exs cl (.set 4 (.op .sub (.cst (.int (1))) (.op .mul (.cst (.int (2))) (.bi .int (.cons (.cmp .eq (.idx (.var 1) (.idx (.var 6) (.cst (.int (0))))) (.idx (.var 6) (.cst (.int (1))))) .nil))))) [aB b,aB (.ref l),aB f,aB (.int c),aB (.int hd),aB r,aB (.tup [.int p,.int q])] h=.ok (.nx [aB b,aB (.ref l),aB f,aB (.int c),aB (.int (if ls.getD p 0=q then -1 else 1)),aB r,aB (.tup [.int p,.int q])]) h:=by
  generalize ls.getD p 0=y at e1 ⊢;have sm:jU 2=true:=by decide
  by_cases z:y=(q:Int)
  simp only[exs,ev,nR,lS,n9,bO,aD,bR,i0,i1,g,e1,bJ,uG,z,yG,cC,iC,mh,nh,iE,gH,sm,Bool.true_or,oh,mP];rfl;simp only[exs,ev,nR,lS,n9,bO,aD,bR,i0,i1,g,e1,bJ,uG,z,decide_false,dg,iC,mh,nh,iE,gH,sm,Bool.true_or,oh,mP];rfl
 generalize hy:(if ls.getD p 0=(q:Int)then(-1:Int)else 1)=dd at s1 ⊢;have s3:exs cl (.put (.var 1) (.idx (.var 6) (.cst (.int (0)))) (.op .sub (.cst (.int (1))) (.idx (.var 1) (.idx (.var 6) (.cst (.int (0))))))) [aB b,aB (.ref l),aB f,aB (.int c),aB (.int dd),aB r,aB (.tup [.int p,.int q])] h=.ok (.nx [aB b,aB (.ref l),aB f,aB (.int c),aB (.int dd),aB r,aB (.tup [.int p,.int q])]) (h.set l (.lst ((ls.set p (1-ls.getD p 0)).map .int))):=by simp only[exs,ev,nR,lS,n9,bO,aD,bR,i0,g,e1,iE,gH,iC,e2,List.map_set]
 have ec:ev cl (.or (.cmp .eq (.var 6) (.cst (.str (cj ".")))) (.or (.cmp .eq (.var 6) (.cst (.str (cj "<")))) (.cmp .eq (.var 6) (.cst (.str (cj ">")))))) [aB b,aB (.ref l),aB f,aB (.int c),aB (.int hd),aB r,aB (.tup [.int p,.int q])] h=.ok (.bl false) h:=by simp[ev,bJ,n1,n2,n3]
 have ed:ev cl (.cmp .ne (.var 6) (.cst (.str (cj "x")))) [aB b,aB (.ref l),aB f,aB (.int c),aB (.int hd),aB r,aB (.tup [.int p,.int q])] h=.ok (.bl true) h:=by simp[ev,bJ,n4]
 unfold wG;rw[exs,ec,aD];simp only;refine(bE (ρ':=[aB b,aB (.ref l),aB f,aB (.int c),aB (.int dd),aB r,aB (.tup [.int p,.int q])]) (h':=h.set l (.lst ((ls.set p (1-ls.getD p 0)).map .int))) ?_).trans (by rw[exs]);rw[exs,ed,aD];simp only;rw[bE s1,bE s3,exs]
end
theorem YU{cl:Call}{k0 h:VH}{b f:W}{l:Nat}{r:List W}{c wd hd:Int}{ls:List Int}{y:Option W}(ok:(r.length:Int)=wd/\dz wd (ls.length:Int) 0 r)(c0:0<=c)(c1:c<wd)(w0:Gm k0 h)(xY:k0.n<=l)(g:h.get l=aB (.lst (ls.map .int))) :
 (bM (bA r c) hd ls=aC->exs cl BS [aB b,aB (.ref l),aB f,aB (.int c),aB (.int hd),aB (.tup r),y] h=.ok (.rt .aQ) h)/\
 (∀d t l',bM (bA r c) hd ls=aB (d,t,l')->∃h',exs cl BS [aB b,aB (.ref l),aB f,aB (.int c),aB (.int hd),aB (.tup r),y] h=.ok (.nx [aB b,aB (.ref l),aB f,aB (.int (c+d)),aB (.int d),aB (.tup r),aB (bA r c)]) h'/\Gm k0 h'/\h'.get l=aB (.lst (l'.map .int))):=by
 obtain⟨_,hm⟩:=yw ok c0 c1;have e0:=N6 ok c0 c1;generalize bA r c=w at hm e0 ⊢;have hlt:=cg g;have s1:exs cl (.set 6 (.idx (.var 5) (.var 3))) [aB b,aB (.ref l),aB f,aB (.int c),aB (.int hd),aB (.tup r),y] h=.ok (.nx [aB b,aB (.ref l),aB f,aB (.int c),aB (.int hd),aB (.tup r),aB w]) h:=cA (cX (x:=.tup r) (y:=.int c) (aE rfl) (aE rfl) e0);have no:dj h w (.str sS)=aB false->exs cl (.ite (.cmp .eq (.var 6) sE) (.seq (.ret (.cst .aQ)) .skip) .skip) [aB b,aB (.ref l),aB f,aB (.int c),aB (.int hd),aB (.tup r),aB w] h=.ok (.nx [aB b,aB (.ref l),aB f,aB (.int c),aB (.int hd),aB (.tup r),aB w]) h:=by intro e;simp only[exs,ev,nR,lS,n9,bO,aD,bJ,e,iC]
 have tl:∀(d:Int)(h':VH),exs cl (.seq (.set 3 (.op .add (.var 3) (.var 4))) .skip) [aB b,aB (.ref l),aB f,aB (.int c),aB (.int d),aB (.tup r),aB w] h'=.ok (.nx [aB b,aB (.ref l),aB f,aB (.int (c+d)),aB (.int d),aB (.tup r),aB w]) h':=λd h'=>
  (bE (cA (gW (aE rfl) (aE rfl) rfl))).trans (by rw[exs];rfl)
 have gn:∀o,(h.new o).get l=aB (.lst (ls.map .int)):=λo=>by rw[ig hlt];exact g
 rw[YQ,bE s1];rcases B0 hm with⟨rfl,h3,h4⟩|⟨rfl,h3⟩|⟨rfl,h3⟩|rfl|rfl|⟨p,q,rfl,h3,h4,h5,h6⟩
 rw[E9];refine⟨(λz=>nomatch z),λd t l' z=>?_⟩;cases z;rw[bE (no wU),bE YS,tl];exact⟨h,rfl,w0,g⟩;rw[Fb];refine⟨(λz=>nomatch z),λd t l' z=>?_⟩;cases z;rw[bE (no sL),bE (JW (.inr (.inl rfl)) XD),tl];exact⟨_,rfl,w0.new,gn _⟩;rw[Fc];refine⟨(λz=>nomatch z),λd t l' z=>?_⟩;cases z;rw[bE (no sM),bE (JW (.inr (.inr rfl)) XE),tl];exact⟨_,rfl,w0.new,gn _⟩;rw[Fd];refine⟨(λz=>nomatch z),λd t l' z=>?_⟩;cases z;rw[bE (no pJ),bE (JW (.inl rfl) XC),tl];exact⟨_,rfl,w0.new,gn _⟩;rw[Fe];refine⟨λ_=>?_,λd t l' z=>nomatch z⟩;refine k6 ?_;have ec:ev cl (.cmp .eq (.var 6) sE) [aB b,aB (.ref l),aB f,aB (.int c),aB (.int hd),aB (.tup r),aB (.str sS)] h=.ok (.bl true) h:=by simp only[ev,nR,lS,n9,bO,aD,bJ,wW,iC]
 rw[exs,ec,aD];exact k6 (fS aW);rw[Ff];refine⟨(λz=>nomatch z),λd t l' z=>?_⟩;cases z;rw[bE (no (Cc (by decide +kernel))),bE (YT (by lia) g),tl];exact⟨_,rfl,w0.set xY hlt,nX g⟩
theorem O5{cl:Call}{k0:VH}{b f:W}{l:Nat}{wd:Int}(xY:k0.n<=l):∀(rs:List (List W)) (c hd:Int) (h:VH) (ls:List Int) (x y:Option W),uH wd (ls.length:Int) rs->0<=c->c<wd->-1<=hd->hd<=1->fC ls->Gm k0 h->h.get l=aB (.lst (ls.map .int))->(aH rs c hd ls).st=false->
 ∃hd' x' y' h',forL (bL (.one 5)) (exs cl BS) (rs.map .tup) [aB b,aB (.ref l),aB f,aB (.int c),aB (.int hd),x,y] h=.ok (.nx [aB b,aB (.ref l),aB f,aB (.int (bH c (aH rs c hd ls).cs)),hd',x',y']) h'/\Gm k0 h'/\h'.get l=aB (.lst ((aH rs c hd ls).ls.map .int))
 |[],c,hd,h,ls,x,y,_,_,_,_,_,_,w0,g,_=>⟨aB (.int hd),x,y,h,rfl,w0,g⟩
 |r::rs,c,hd,h,ls,x,y,ok,c0,c1,h1,h2,bi,w0,g,st=>by
  obtain⟨bn,bs⟩:=YU (cl:=cl) (b:=b) (f:=f) (y:=y) (hd:=hd) (ok r eX) c0 c1 w0 xY g;obtain⟨_,hm⟩:=yw (ok r eX) c0 c1;cases e:bM (bA r c) hd ls with
  |none=>rw[Oh e]at st;cases st
  |some q=>
   obtain⟨d,t,l'⟩:=q;obtain⟨h3,eb,w3,g3⟩:=bs d t l' e;obtain⟨a1,a2,a3,a4,a5,a6,a7⟩:=Jl hm c0 c1 h1 h2 bi e;rw[uK e]at st ⊢;obtain⟨hd',x',y',h',ih,w',g'⟩:=O5 (cl:=cl) (b:=b) (f:=f) xY rs (c+d) d h3 l' (aB (.tup r)) (aB (bA r c)) (λr hr=>by rw[a5];exact ok r (eW _ hr)) a3 a4 a1 a2 a6 w3 g3 st;refine⟨hd',x',y',h',?_,w',g'⟩;simp only[dH,forL,bL,oh,mP,eb,aD,ih,bH]
theorem YV{F:Nat->Option Fn}(C:lK F){k f:Nat}{h:VH}{B:Bd}{ls:List Int}{c:Int}{cs ts l':List Int}(hr:uH B.wd (ls.length:Int) B.rows)(hn:B.rows.length<1000000)(hf:B.fd[f]?=aB (.int c))(c0:0<=c)(c1:c<B.wd)(bi:fC ls)(e:aH B.rows c 0 ls=⟨cs,ts,l',false⟩) :
 ∃i h',run F (k+1) 147 [B.w,iW ls,.int f] h=.ok (.ref i) h'/\h'.get i=aB (.lst [.int (bH c cs),iW l'])/\Gm h h':=by
 let k1:VH:=VH.new ⟨h.n,h.n,h.os⟩ (.lst (ls.map .int));obtain⟨hd',x',y',h3,e3,w3,g3⟩:=O5 (cl:=run F k) (k0:=⟨h.n,h.n,h.os⟩) (b:=B.w) (f:=.int f) (l:=h.n) (wd:=B.wd) (bg _) B.rows c 0 k1 ls aC aC hr c0 c1 (by decide) (by decide) bi Gm.refl.new dS (by rw[e]);rw[e]at e3 g3;have i3:∀g:VH,bR g B.w (.int 3)=aB (.tup B.fd):=λg=>rfl;have i2:∀g:VH,bR g B.w (.int 2)=aB (.tup (B.rows.map .tup)):=λg=>rfl;have JX:∀g:VH,bR g (.tup B.fd) (.int f)=aB (.int c):=λg=>lu hf;have eb:exs (run F k) pG.body [aB B.w,aB (iW ls),aB (.int f),aC,aC,aC,aC] ⟨h.n,h.n,h.os⟩=.ok (.rt (.ref h3.n)) (h3.new (.lst [.int (bH c cs),iW l'])):=by refine(bE (cA (cX (cX (aE rfl) aW (i3 _)) (aE rfl) (JX _)))).trans ?_;refine(bE (cA (x:=.ref h.n) (h1:=k1) (Cq (aE (x:=iW ls) rfl) rfl))).trans ?_;refine(bE (cA aW)).trans ?_;refine(bE ((ez (cX (aE (x:=B.w) rfl) aW (i2 _))).trans ((NV (by rw[bG];exact hn)).trans e3))).trans ?_;exact k6 (fS (fk (aS (aE rfl) (aS (qo (aE rfl) (nD g3)) bN)) rfl))
 rw[iF C.JJ rfl];obtain⟨h2,e2,w2,G⟩:=FF (h:=h) (h':=h3.new (.lst [.int (bH c cs),iW l'])) (w:=.ref h3.n) (Co (by have:=w3.le;exact this)) w3.new;refine⟨h3.n,h2,?_,by rw[G];exact dS,w2⟩;rw[<-e2];exact lP (fin h) eb
structure St(k0:VH)(D R:Nat)(rs:List Nat):Prop where
 d:k0.n<=D
 r:k0.n<=R
 ro:∀x∈rs,k0.n<=x
 dr:D≠R
 dn:D∉rs
 rn:R∉rs
 nd:rs.Nodup
structure DI(k0:VH)(D R:Nat)(rs:List Nat)(ds:List W)(K:Nat->Kv)(h:VH):Prop where
 gm:Gm k0 h
 d:h.get D=aB (.lst ds)
 r:h.get R=aB (.lst (rs.map .ref))
 k:∀(g r:Nat),rs[g]?=aB r->h.get r=aB (.dm (K g))
section
variable{k0 h:VH}{D R:Nat}{rs:List Nat}{ds:List W}{K:Nat->Kv}
theorem DI.door(s:St k0 D R rs)(I:DI k0 D R rs ds K h)(ds':List W):DI k0 D R rs ds' K (h.set D (.lst ds')):=by have hD:=cg I.d;refine⟨I.gm.set s.d hD,nX I.d,?_,λg r e=>?_⟩;rw[nV hD (eZ s.dr)];exact I.r;rw[nV hD (λz=>s.dn (z▸kQ e))];exact I.k g r e
theorem DI.put(s:St k0 D R rs)(I:DI k0 D R rs ds K h){g r:Nat}(e:rs[g]?=aB r)(kv:Kv):DI k0 D R rs ds (λj=>if j=g then kv else K j) (h.set r (.dm kv)):=by have hr:=cg (I.k g r e);have hm:=kQ e;refine⟨I.gm.set (s.ro r hm) hr,?_,?_,λj q e2=>?_⟩;rw[nV hr (λz=>s.dn (by rw[z];exact hm))];exact I.d;rw[nV hr (λz=>s.rn (by rw[z];exact hm))];exact I.r;by_cases z:j=g;subst z;rw[e]at e2;cases e2;rw[if_pos rfl];exact nX (I.k j r e);rw[if_neg z,nV hr (λy=>z ?_)];exact I.k j q e2;obtain⟨h1,h2⟩:=gA.mp e;obtain⟨h3,h4⟩:=gA.mp e2;exact(List.getElem_inj s.nd).mp (by rw[h4,h2,y])
theorem DI.same(I:DI k0 D R rs ds K h){K':Nat->Kv}(e:∀g,g<rs.length->K g=K' g):DI k0 D R rs ds K' h:=⟨I.gm,I.d,I.r,λg r q=>by rw[<-e g (gA.mp q).1];exact I.k g r q⟩
noncomputable abbrev cP(m p w g rows fd st:W)(x7:Option W)(D:Nat)(x9:Option W)(R:Nat)(jE gX iw iy jR gw gz ja fU iG:Option W):En:=
 [aB m,aB p,aB w,aB g,aB rows,aB fd,aB st,x7,aB (.ref D),x9,aB (.ref R),jE,gX,iw,iy,jR,gw,gz,ja,fU,iG]
theorem YW{cl:Call}{m p w gg rows fd:W}{x9 jE gX iw iy gw gz fU iG:Option W}{G:Nat}{sts:List (List Int)}{e:Ev}{nx:Nat}(s:St k0 D R rs)(I:DI k0 D R rs ds K h)(hrs:rs.length=G)(hbl:e.b.length=G)(htl:e.t.length=G)(hst:sts[nx]?=aB e.t)(hK:∀g,(K g).length<=500)(hG:G<=8) :
 ∃YX JY h',exs cl (.«for» .lA (.var 18) (.many [9,19]) EX) (cP m p w gg rows fd (.tup (sts.map iW)) (aB (.int e.c)) D x9 R jE gX iw iy (aB (.int nx)) gw gz (aB (iW e.b)) fU iG) h=.ok (.nx (cP m p w gg rows fd (.tup (sts.map iW)) (aB (.int e.c)) D YX R jE gX iw iy (aB (.int nx)) gw gz (aB (iW e.b)) JY iG)) h'/\DI k0 D R rs ds (λg=>bS g (K g) e) h':=by
 obtain⟨ρ',h',e1,hI⟩:=nZ (nx:=aZ .lA (iW e.b)) (tg:=bL (.many [9,19])) (b:=exs cl EX) (n:=G)
  (I:=λi ρ h1=>(∃x9 fU,ρ=cP m p w gg rows fd (.tup (sts.map iW)) (aB (.int e.c)) D x9 R jE gX iw iy (aB (.int nx)) gw gz (aB (iW e.b)) fU iG)/\DI k0 D R rs ds (λg=>if g<i then bS g (K g) e else K g) h1)
  (λi ρ h1 hi hI=>by
    obtain⟨⟨y9,jZ,rfl⟩,I1⟩:=hI;have hb:=cN (show i<e.b.length by lia);have ht:=cN (show i<e.t.length by lia);have hr:=cN (show i<rs.length by lia);have gr:=I1.k i _ hr;rw[if_neg (gZ _)]at gr;have db:e.b.getD i 0=e.b[i]:=by rw[jS,hb];rfl
    have dt:e.t.getD i 0=e.t[i]:=by rw[jS,ht];rfl
    let dZ:=cP m p w gg rows fd (.tup (sts.map iW)) (aB (.int e.c)) D (aB (.int (i:Int))) R jE gX iw iy (aB (.int nx)) gw gz (aB (iW e.b)) (aB (.int e.b[i])) iG;have ec:ev cl (.cmp .ne (.var 19) (.idx (.idx (.var 6) (.var 15)) (.var 9))) dZ h1=.ok (.bl (!decide (e.b[i]=e.t[i]))) h1:=by
     have q1:ev cl (.idx (.idx (.var 6) (.var 15)) (.var 9)) dZ h1=.ok (.int e.t[i]) h1:=by refine cX (cX (z:=iW e.t) (aE (x:=.tup (sts.map iW)) rfl) (aE (x:=.int nx) rfl) ?_) (aE (x:=.int (i:Int)) rfl) ?_;exact lu (by rw[dG,hst];rfl);exact lu (by rw[dG,ht];rfl)
     rw[ev,aE (x:=.int e.b[i]) rfl,aD,q1,aD];simp only[bJ,uG,iC,bO]
    refine⟨.tup [.int (i:Int),.int e.b[i]],dZ,dZ,if e.b[i]=e.t[i]then h1 else h1.set rs[i] (.dm (bS i (K i) e)),?_,rfl,?_,⟨_,_,rfl⟩,?_⟩;show aB (((e.b.map W.int)[i]?).map λw=>W.tup [.int i,w])=_;rw[dG,hb];rfl;unfold EX;by_cases q:e.b[i]=e.t[i];rw[if_pos q];rw[kO q]at ec;refine(bE (ρ':=dZ) (h':=h1) ?_).trans (by rw[exs]);rw[exs,ec,aD];show exs cl .skip dZ h1=_;rw[exs];rw[if_neg q];rw[iX q]at ec;refine(bE (ρ':=dZ) (h':=h1.set rs[i] (.dm (bS i (K i) e))) ?_).trans (by rw[exs]);rw[exs,ec,aD];show exs cl (.seq (.put (.idx (.var 10) (.var 9)) (.var 7) (.tup (.cons (.var 9) (.cons (.op .sub (.cst (.int (1))) (.var 19)) .nil)))) .skip) dZ h1=_;refine(bE (ρ':=dZ) (h':=h1.set rs[i] (.dm (bS i (K i) e))) ?_).trans (by rw[exs]);have JZ:ev cl (.tup (.cons (.var 9) (.cons (.op .sub (.cst (.int (1))) (.var 19)) .nil))) dZ h1=.ok (.tup [.int (i:Int),.int (1-e.b[i])]) h1:=jC (aE rfl) (gW aW (aE rfl) rfl);have YY:ev cl (.idx (.var 10) (.var 9)) dZ h1=.ok (.ref rs[i]) h1:=by refine cX (aE (x:=.ref R) rfl) (aE (x:=.int (i:Int)) rfl) ?_;simp only[bR,I1.r];exact lu (by rw[dG,hr];rfl)
    rw[exs,JZ,aD,YY,aD,aE (x:=.int e.c) rfl,aD];simp only[gr,oN];rw[if_pos (wN (by have:=hK i;lia))];congr 2;unfold bS;rw[db,dt,if_neg q];by_cases q:e.b[i]=e.t[i];rw[if_pos q];refine I1.same λg hg=>?_;by_cases z:g<i;rw[if_pos z,if_pos (by lia)];rw[if_neg z];by_cases z2:g=i;subst z2;rw[if_pos (fY _)];unfold bS;rw[db,dt,if_pos q];rw[if_neg (by lia)];rw[if_neg q];refine(I1.put s hr (bS i (K i) e)).same λg hg=>?_;by_cases z2:g=i;subst z2;rw[if_pos rfl,if_pos (fY _)];rw[if_neg z2];by_cases z:g<i;rw[if_pos z,if_pos (by lia)];rw[if_neg z,if_neg (by lia)])
  (λρ h1 hI=>by
    show aB (((e.b.map W.int)[G]?).map λw=>W.tup [.int G,w])=_;rw[iY (by rw[bG];lia)];rfl)
  G 0 fuel (cP m p w gg rows fd (.tup (sts.map iW)) (aB (.int e.c)) D x9 R jE gX iw iy (aB (.int nx)) gw gz (aB (iW e.b)) fU iG) h (i7 _) (show _<1000000 by lia) ⟨⟨_,_,rfl⟩,I.same λg _=>by rw[if_neg (yU _)]⟩
 obtain⟨⟨y9,jZ,rfl⟩,I2⟩:=hI;refine⟨y9,jZ,h',(ez (aE rfl)).trans e1,I2.same λg hg=>?_⟩;rw[if_pos (by lia)]
end
theorem YZ{g:Nat}{kv:Kv}{e:Ev}:(bS g kv e).length<=kv.length+1:=by unfold bS;split;exact qK _;exact Ay
theorem J0{g:Nat}:∀{es:List Ev} {kv:Kv},(es.foldl (bS g) kv).length<=kv.length+es.length
 |[],_=>bg _
 |e::r,kv=>by
  rw[k8,cY];have h1:=J0 (g:=g) (es:=r) (kv:=bS g kv e);have h2:=YZ (g:=g) (kv:=kv) (e:=e);exact gF h1 (by rw[<-Dl,Nat.add_right_comm];exact Nat.add_le_add_right h2 _)
theorem Y0{g:Nat}{es:List Ev}{e:Ev}:cy g (es++[e])=bS g (cy g es) e:=by unfold cy;rw[Dc];rfl
theorem Y3{es:List Ev}{e:Ev}{d:List W}:(es++[e]).foldl cG d=cG (es.foldl cG d) e:=by rw[Dc];rfl
theorem O6{S P s:Nat}{x:Int×Int}:∀{f:Nat} {A:List (Int×Int)},cR S P s f (A++[x])=cR S P s f A++[jQ S P s (f+A.length) x]
 |f,[]=>rfl
 |f,y::A=>by
  rw[nN,cR,cR,O6,cY,nN,show f+1+A.length=f+ (A.length+1) by lia]
theorem O7{S P:Nat}{x:List (Int×Int)}:∀{s:Nat} {A:List (List (Int×Int))},bQ S P s (A++[x])=bQ S P s A++cR S P (s+A.length) 0 x
 |s,[]=>by simp[bQ]
 |s,y::A=>by
  rw[nN,bQ,bQ,O7,cY,yQ,show s+1+A.length=s+ (A.length+1) by lia]
theorem J4{S P s:Nat}:∀{f:Nat} {A:List (Int×Int)},(cR S P s f A).length=A.length|_,[]=>rfl|f,x::r=>by rw[cR,cY,J4,cY]
theorem J5{S P:Nat}:∀{s:Nat} {A:List (List (Int×Int))},(∀r∈A,r.length=P)->(bQ S P s A).length=A.length*P
 |_,[],_=>by simp[bQ]
 |s,x::r,h=>by
  rw[bQ,eY,J4,J5 λy hy=>h y (eW _ hy),h x eX,cY,Nat.add_mul];lia
noncomputable def EI(k0:VH)(D R:Nat)(rs:List Nat)(w:Nat)(es:List Ev)(h:VH):Prop:=DI k0 D R rs (es.foldl cG (bV w (.tup [.int 0,.int 0]))) (λg=>cy g es) h
section
variable{F:Nat->Option Fn}(Y:fR F)
include Y
theorem Y4{k:Nat}{k0 h:VH}{D R:Nat}{rs:List Nat}{S P:Nat}{es:List Ev}{m fd:W}{x7 x9 gX gw gz ja fU iG:Option W}{s f:Nat}{x:Int×Int}(sh:Shape S P)(st:St k0 D R rs)(hrs:rs.length=aU S)(hs:s<S)(hf:f<P)(hx:0<=x.2/\x.2<S)(hes:es.length<=400)(I:EI k0 D R rs (bz S P) es h) :
 ∃y7 y9 nH nI nJ jZ h',exs (run F (k+2)) EY (cP m (aM S P).w (.int (bz S P)) (.int (aU S)) (.tup ((aR S P).map .tup)) fd (.tup (((List.range S).map λ(s:Nat)=>aI s (aU S)).map iW)) x7 D x9 R (aB (iW (aI s (aU S)))) gX (aB (.int f)) (aB (.int x.1)) (aB (.int x.2)) gw gz ja fU iG) h =
  .ok (.nx (cP m (aM S P).w (.int (bz S P)) (.int (aU S)) (.tup ((aR S P).map .tup)) fd (.tup (((List.range S).map λ(s:Nat)=>aI s (aU S)).map iW)) y7 D y9 R (aB (iW (aI s (aU S)))) gX (aB (.int f)) (aB (.int x.1)) (aB (.int x.2)) nH nI nJ jZ iG)) h'/\EI k0 D R rs (bz S P) (es++[jQ S P s f x]) h':=by
 have hf':f< (aM S P).fd.length:=by show f< ((bf S P).map W.int).length;rw[bG,sh.rows.2.2.1];exact hf
 obtain⟨p1,p2,p3⟩:=sh.dP hf hs;have q:=sh.ok.dP (ls:=aI s (aU S)) (f:=f) hf' (by rw[qm];rfl) yE;have wd:=sh.wd;have hG:=uJ (S:=S);have pN:0<=gV S f s/\gV S f s<bz S P:=by have:=q.c4;rw[p3]at this;exact this
 let e:=jQ S P s f x;have J6:=XZ Y (k:=k) (h:=h) sh.ok hf' (by rw[qm];rfl) (yE (n:=aU S) (z:=s));let cs:=((aM S P).dP (aI s (aU S)) f).cs;let ts:=((aM S P).dP (aI s (aU S)) f).ts;have hl:((aM S P).dP (aI s (aU S)) f).ls.length=aU S:=by rw[q.l1,qm]
 let ds:=es.foldl cG (bV (bz S P) (W.tup [.int 0,.int 0]));have hdl:ds.length=bz S P:=by show(es.foldl cG _).length=_;rw[Oc,uU]
 have I1:=DI.door st I (cG ds e);obtain⟨nx,FU⟩:∃nx:Nat,x.2=nx:=⟨x.2.toNat,by lia⟩
 have hst:((List.range S).map λ(s:Nat)=>aI s (aU S))[nx]?=aB e.t:=by rw[dG,uV (by lia)];show aB (aI (nx:Int) (aU S))=aB (aI x.2 (aU S));rw[FU]
 obtain⟨y9,jZ,h',e5,I2⟩:=YW (cl:=run F (k+2)) (m:=m) (p:=(aM S P).w) (w:=.int (bz S P)) (gg:=.int (aU S)) (rows:=.tup ((aR S P).map .tup)) (fd:=fd) (x9:=x9) (jE:=aB (iW (aI s (aU S)))) (gX:=gX) (iw:=aB (.int f)) (iy:=aB (.int x.1)) (gw:=aB (iW ((aM S P).col f::cs))) (gz:=aB (iW ts)) (fU:=fU) (iG:=iG) (e:=e) (nx:=nx) st I1 hrs hl qm hst (λg=>by
  have:=J0 (g:=g) (es:=es) (kv:=[]);show(es.foldl (bS g) []).length<=500;have h0:([]:Kv).length=0:=rfl;lia) (by lia)
 rw[<-FU]at e5;refine⟨aB (.int e.c),y9,aB (iW ((aM S P).col f::cs)),aB (iW ts),aB (iW e.b),jZ,h',?_,?_⟩;unfold EY;refine(bE (ρ':=cP m (aM S P).w (.int (bz S P)) (.int (aU S)) (.tup ((aR S P).map .tup)) fd (.tup (((List.range S).map λ(s:Nat)=>aI s (aU S)).map iW)) x7 D x9 R (aB (iW (aI s (aU S)))) gX (aB (.int f)) (aB (.int x.1)) (aB (.int x.2)) (aB (iW ((aM S P).col f::cs))) (aB (iW ts)) (aB (iW e.b)) fU iG) (h':=h) ?_).trans ?_;rw[exs,X0 (aE rfl) (aE rfl) (aE rfl) aW J6,aD];rfl;refine(bE (cA (x:=.int e.c) (h1:=h) (cX (aE rfl) (y:=.int (-1)) (h2:=h) (by rw[ev,aW,aD]) ?_))).trans ?_;show fE (((aM S P).col f::cs).map W.int) (-1)=_;rw[Xz];show aB (W.int (bH _ _))=aB (W.int (gV S f s));rw[p3];refine(bE (ρ':=cP m (aM S P).w (.int (bz S P)) (.int (aU S)) (.tup ((aR S P).map .tup)) fd (.tup (((List.range S).map λ(s:Nat)=>aI s (aU S)).map iW)) (aB (.int e.c)) D x9 R (aB (iW (aI s (aU S)))) gX (aB (.int f)) (aB (.int x.1)) (aB (.int x.2)) (aB (iW ((aM S P).col f::cs))) (aB (iW ts)) (aB (iW e.b)) fU iG) (h':=h.set D (.lst (cG ds e))) ?_).trans ?_;have JZ:∀ρ:En,ρ[14]?=aB (aB (.int x.1))->ev (run F (k+2)) (.tup (.cons (.var 14) (.cons (.cst (.int (0))) .nil))) ρ h=.ok (.tup [.int x.1,.int 0]) h:=λρ lI=>jC (aE lI) aW;have hix:i8 ds.length e.c=aB e.c.toNat:=by have:e.c=((e.c.toNat:Nat):Int):=(Int.toNat_of_nonneg pN.1).symm;rw[this,Jq (by rw[hdl];have:=pN.2;have h9:e.c=gV S f s:=rfl;lia)];rfl
 have gD:h.get D=aB (.lst ds):=I.d;rw[exs,JZ _ rfl,aD,aE (x:=.ref D) rfl,aD,aE (x:=.int e.c) rfl,aD];simp only[gD,hix];rfl;exact(bE e5).trans (by rw[exs]);unfold EI;rw[Y3];refine I2.same λg _=>?_;rw[Y0]
end
noncomputable def bB(S:Nat):List (List Int):=(List.range S).map λ(s:Nat)=>aI s (aU S)
section
variable{F:Nat->Option Fn}(Y:fR F)
include Y
theorem Y5{k:Nat}{k0 h:VH}{D R:Nat}{rs:List Nat}{S P:Nat}{es:List Ev}{m fd:W}{row:List (Int×Int)}{x7 x9 iw iy jR gw gz ja fU iG:Option W}{s:Nat}(sh:Shape S P)(st:St k0 D R rs)(hrs:rs.length=aU S)(hs:s<S)(nK:row.length=P)(hx:∀x∈row,0<=x.2/\x.2<S)(hes:es.length<=300)(I:EI k0 D R rs (bz S P) es h) :
 ∃y7 y9 qq qt qw nH nI nJ jZ h',exs (run F (k+2)) BV (cP m (aM S P).w (.int (bz S P)) (.int (aU S)) (.tup ((aR S P).map .tup)) fd (.tup ((bB S).map iW)) x7 D x9 R (aB (iW (aI s (aU S)))) (aB (bx row)) iw iy jR gw gz ja fU iG) h =
  .ok (.nx (cP m (aM S P).w (.int (bz S P)) (.int (aU S)) (.tup ((aR S P).map .tup)) fd (.tup ((bB S).map iW)) y7 D y9 R (aB (iW (aI s (aU S)))) (aB (bx row)) qq qt qw nH nI nJ jZ iG)) h'/\EI k0 D R rs (bz S P) (es++cR S P s 0 row) h':=by
 have p4:=sh.p4;obtain⟨ρ',h',e1,hI⟩:=nZ (nx:=aZ .lA (bx row)) (tg:=bL (.AE 13 [14,15])) (b:=exs (run F (k+2)) EY) (n:=row.length)
  (I:=λj ρ h1=>(∃x7 x9 iw iy jR gw gz ja fU,ρ=cP m (aM S P).w (.int (bz S P)) (.int (aU S)) (.tup ((aR S P).map .tup)) fd (.tup ((bB S).map iW)) x7 D x9 R (aB (iW (aI s (aU S)))) (aB (bx row)) iw iy jR gw gz ja fU iG)/\EI k0 D R rs (bz S P) (es++cR S P s 0 (row.take j)) h1)
  (λj ρ h1 hj hI=>by
    obtain⟨⟨z7,z9,O8,O9,Pa,J7,J8,J9,J',rfl⟩,I1⟩:=hI;have Pb:=cN hj;have ht:row.take (j+1)=row.take j++[row[j]]:=by rw[qI,Pb];rfl
    obtain⟨y7,y9,nH,nI,nJ,jZ,h2,e2,I2⟩:=Y4 Y (k:=k) (m:=m) (fd:=fd) (x7:=z7) (x9:=z9) (gX:=aB (bx row)) (gw:=J7) (gz:=J8) (ja:=J9) (fU:=J') (iG:=iG) (f:=j) (x:=row[j]) sh st hrs hs (by lia) (hx _ (kR hj)) (by
     rw[eY,J4,jq];lia) I1
    refine⟨.tup [.int j,br row[j]],_,_,h2,?_,rfl,e2,⟨_,_,_,_,_,_,_,_,_,rfl⟩,?_⟩;show aB (((row.map br)[j]?).map λw=>W.tup [.int j,w])=_;rw[dG,Pb];rfl;rw[ht,O6,<-yQ,jq,i7,Nat.min_eq_left (sZ hj)];exact I2)
  (λρ h1 hI=>by
    show aB (((row.map br)[row.length]?).map λw=>W.tup [.int row.length,w])=_;rw[iY (by rw[bG];exact bg _)];rfl)
  row.length 0 fuel (cP m (aM S P).w (.int (bz S P)) (.int (aU S)) (.tup ((aR S P).map .tup)) fd (.tup ((bB S).map iW)) x7 D x9 R (aB (iW (aI s (aU S)))) (aB (bx row)) iw iy jR gw gz ja fU iG) h (i7 _) (show _<1000000 by lia)
  ⟨⟨_,_,_,_,_,_,_,_,_,rfl⟩,by rw[List.take_zero,cR,nP];exact I⟩
 obtain⟨⟨y7,y9,qq,qt,qw,nH,nI,nJ,jZ,rfl⟩,I2⟩:=hI;rw[nO]at I2;refine⟨y7,y9,qq,qt,qw,nH,nI,nJ,jZ,h',?_,I2⟩;unfold BV;exact(bE ((ez (aE rfl)).trans e1)).trans (by rw[exs])
theorem Y6{k:Nat}{k0 h:VH}{D R:Nat}{rs:List Nat}{S P:Nat}{fd:W}{M:List (List (Int×Int))}(sh:Shape S P)(mo:xh S P M)(st:St k0 D R rs)(hrs:rs.length=aU S)(I:EI k0 D R rs (bz S P) [] h) :
 ∃y7 y9 Cy Cz qq qt qw nH nI nJ jZ h',exs (run F (k+2)) (.«for» .zip (.cons (.var 6) (.cons (.var 0) .nil)) (.many [11,12]) BV) (cP (mW M) (aM S P).w (.int (bz S P)) (.int (aU S)) (.tup ((aR S P).map .tup)) fd (.tup ((bB S).map iW)) aC D aC R aC aC aC aC aC aC aC aC aC aC) h =
  .ok (.nx (cP (mW M) (aM S P).w (.int (bz S P)) (.int (aU S)) (.tup ((aR S P).map .tup)) fd (.tup ((bB S).map iW)) y7 D y9 R Cy Cz qq qt qw nH nI nJ jZ aC)) h'/\EI k0 D R rs (bz S P) (bQ S P 0 M) h':=by
 have iz:=sh.iz;have lM:=mo.l;have sp:=sh.sp;have nx:∀(i:Nat)(h:VH),aZ .zip (.tup [.tup ((bB S).map iW),mW M]) i h=aB (match(bB S)[i]?,M[i]? with
  |some a,aB b=>aB (.tup [iW a,bx b])
  |_,_=>aC):=λi h=>by
  show aB (match((bB S).map iW)[i]?,(M.map bx)[i]? with|some a,aB b=>aB (W.tup [a,b])|_,_=>aC)=_
  rw[dG,dG];cases(bB S)[i]?<;>cases M[i]?<;>rfl
 have hst:∀i,i<S->(bB S)[i]?=aB (aI i (aU S)):=λi hi=>by
  unfold bB;rw[dG,uV hi];rfl
 obtain⟨ρ',h',e1,hI⟩:=nZ (nx:=aZ .zip (.tup [.tup ((bB S).map iW),mW M])) (tg:=bL (.many [11,12])) (b:=exs (run F (k+2)) BV) (n:=S)
  (I:=λi ρ h1=>(∃x7 x9 jE gX iw iy jR gw gz ja fU,ρ=cP (mW M) (aM S P).w (.int (bz S P)) (.int (aU S)) (.tup ((aR S P).map .tup)) fd (.tup ((bB S).map iW)) x7 D x9 R jE gX iw iy jR gw gz ja fU aC)/\EI k0 D R rs (bz S P) (bQ S P 0 (M.take i)) h1)
  (λi ρ h1 hi hI=>by
    obtain⟨⟨z7,z9,z11,z12,O8,O9,Pa,J7,J8,J9,J',rfl⟩,I1⟩:=hI;have hm:=cN (show i<M.length by lia);have ht:M.take (i+1)=M.take i++[M[i]]:=by rw[qI,hm];rfl
    have hmem:M[i]∈M:=kR _;have hlen:(bQ S P 0 (M.take i)).length<=300:=by rw[J5 (P:=P) λr hr=>mo.r r (List.mem_of_mem_take hr),jq];have:min i M.length*P<=S*P:=Nat.mul_le_mul_right _ (by lia);lia
    obtain⟨y7,y9,qq,qt,qw,nH,nI,nJ,jZ,h2,e2,I2⟩:=Y5 Y (k:=k) (m:=mW M) (fd:=fd) (row:=M[i]) (x7:=z7) (x9:=z9) (iw:=O8) (iy:=O9) (jR:=Pa) (gw:=J7) (gz:=J8) (ja:=J9) (fU:=J') (iG:=aC) sh st hrs hi (mo.r _ hmem) (λx hx=>(mo.p _ hmem x hx).2.2) hlen I1;refine⟨.tup [iW (aI i (aU S)),bx M[i]],_,_,h2,?_,rfl,e2,⟨_,_,_,_,_,_,_,_,_,_,_,rfl⟩,?_⟩;rw[nx,hst i hi,hm];rw[ht,O7,jq,i7,Nat.min_eq_left (by lia)];exact I2)
  (λρ h1 hI=>by
    rw[nx,iY (show M.length<=S by lia)];cases(bB S)[S]?<;>rfl)
  S 0 fuel (cP (mW M) (aM S P).w (.int (bz S P)) (.int (aU S)) (.tup ((aR S P).map .tup)) fd (.tup ((bB S).map iW)) aC D aC R aC aC aC aC aC aC aC aC aC aC) h (i7 _) (show _<1000000 by lia)
  ⟨⟨_,_,_,_,_,_,_,_,_,_,_,rfl⟩,by rw[List.take_zero];exact I⟩
 obtain⟨⟨y7,y9,Cy,Cz,qq,qt,qw,nH,nI,nJ,jZ,rfl⟩,I2⟩:=hI;rw[show M.take S=M by rw[<-lM,nO]]at I2;exact⟨y7,y9,Cy,Cz,qq,qt,qw,nH,nI,nJ,jZ,h',(ez (aS (aE rfl) (aS (aE rfl) bN))).trans e1,I2⟩
end
theorem Y7{xs ys:List W}{h:VH}(hne:xs≠[])(hl:xs.length+ys.length<=1000000):vM .add (.tup xs) (.tup ys) h=.ok (.tup (xs++ys)) h:=by
 cases xs with
 |nil=>exact absurd rfl hne
 |cons x r=>
  show(if Nat.ble ((x::r).length+ys.length) big=true then Res.ok (W.tup (x::r++ys)) h else .no)=_;rw[if_pos (nC hl)]
theorem Y8:(mF.all λx=>(aU x.1==0) || !(aR x.1 x.2).isEmpty)=true:=by decide +kernel
theorem Y9{g:Nat}{es:List Ev}:jm (cy g es):=by
 have:∀(es:List Ev)(kv:Kv),jm kv->jm (es.foldl (bS g) kv):=by
  intro es;induction es with
  |nil=>intro kv h;exact h
  |cons e r ih=>
   intro kv h;rw[k8];refine ih _ ?_;unfold bS;split;exact h;exact h.put (FP (x:=((g:Int),1-e.b.getD g 0)))
 exact this es [] .nil
theorem Za{w:W}{c wd g:Int}(h:jX w c wd g):Pv w:=by rcases B0 h with⟨rfl,_⟩|⟨rfl,_⟩|⟨rfl,_⟩|rfl|rfl|⟨a,b,rfl,_⟩;exact Pv.str;exact Pv.str;exact Pv.str;exact Pv.str;exact Pv.str;exact FP (x:=((a:Int),(b:Int)))
theorem Zb{wd g:Int}{c:Int}{r:List W}(h:dz wd g c r):Pv (.tup r):=Pv.tup λw hw=>by
 obtain⟨i,hi,rfl⟩:=List.getElem_of_mem hw;exact Za (Jm i h (cN hi))
section
variable{F:Nat->Option Fn}(C:lK F)(Y:fR F)
include C
theorem Zc{k:Nat}{k0 h:VH}{D R:Nat}{rs:List Nat}{S P:Nat}{es:List Ev}{m p fd sv:W}{x7 x9 jE gX iw iy jR gw gz ja fU:Option W}(sh:Shape S P)(st:St k0 D R rs)(hrs:rs.length=aU S)(hes:es.length<=400)(I:EI k0 D R rs (bz S P) es h) :
 ∃FW h',exs (run F (k+2)) (.«for» .seq (.var 10) (.one 20) EZ) (cP m p (.int (bz S P)) (.int (aU S)) (.tup ((aR S P).map .tup)) fd sv x7 D x9 R jE gX iw iy jR gw gz ja fU aC) h =
  .ok (.nx (cP m p (.int (bz S P)) (.int (aU S)) (.tup ((kL S P es).map .tup)) fd sv x7 D x9 R jE gX iw iy jR gw gz ja fU FW)) h'/\Gm k0 h'/\h'.get D=aB (.lst (es.foldl cG (bV (bz S P) (.tup [.int 0,.int 0])))):=by
 have wd:=sh.wd;have hG:=uJ (S:=S);have Ka:=sh.rows.2.1;obtain⟨ρ',h',e1,hI⟩:=nZ (nx:=aZ .seq (.ref R)) (tg:=bL (.one 20)) (b:=exs (run F (k+2)) EZ) (n:=aU S)
  (I:=λi ρ h1=>(∃iG,ρ=cP m p (.int (bz S P)) (.int (aU S)) (.tup ((aR S P++(List.range' 0 i).flatMap (bU (bz S P) es)).map .tup)) fd sv x7 D x9 R jE gX iw iy jR gw gz ja fU iG)/\Gm k0 h1/\
    h1.get D=aB (.lst (es.foldl cG (bV (bz S P) (.tup [.int 0,.int 0]))))/\h1.get R=aB (.lst (rs.map .ref))/\∀(g r:Nat),i<=g->rs[g]?=aB r->h1.get r=aB (.dm (cy g es)))
  (λi ρ h1 hi hI=>by
    obtain⟨⟨z20,rfl⟩,w1,gD,gR,gk⟩:=hI;have hr:=cN (show i<rs.length by lia);have hm:rs[i]∈rs:=kR _;have gi:=gk i _ (bg _) hr;have hlen:=J0 (g:=i) (es:=es) (kv:=[]);have h0:([]:Kv).length=0:=rfl;obtain⟨j,h2,e2,g2,hj,n2,o2,lo2⟩:=Yk C (k:=k) (n:=bz S P) (h:=h1) (p:=rs[i]) gi Y9 (show(es.foldl (bS i) []).length<=1000 by lia) (by lia);have hD:=cg gD;have hR:=cg gR;have hne:(aR S P++(List.range' 0 i).flatMap (bU (bz S P) es)).map W.tup≠[]:=by
     have:=i6.mp Y8 _ (Fv sh.s1 sh.p1 sh.p4 sh.sp);simp only[pU,xw,u5,List.isEmpty_eq_false_iff]at this;rcases this with this|this
     exact absurd this (by show ¬aU S=0;lia);intro z;rw[List.map_eq_nil_iff,List.append_eq_nil_iff]at z;exact this z.1
    have hle:((aR S P++(List.range' 0 i).flatMap (bU (bz S P) es)).map W.tup).length<=1000:=by
     rw[bG,eY];have:((List.range' 0 i).flatMap (bU (bz S P) es)).length=i*2:=by
      rw[List.length_flatMap];have:(List.range' 0 i).map (λg=>(bU (bz S P) es g).length)=bV i 2:=by apply C8;intro j;rw[dG,C5];by_cases q:j<i;rw[if_pos q,List.getElem?_range' q];rfl;rw[if_neg q,iY (by rw[xD];lia)];rfl
      rw[this,List.sum_replicate_nat]
     lia
    have nK:aR S P++(List.range' 0 (i+1)).flatMap (bU (bz S P) es)=(aR S P++(List.range' 0 i).flatMap (bU (bz S P) es))++bU (bz S P) es i:=by rw[List.range'_concat,List.flatMap_append,<-yQ];simp
    refine⟨.ref rs[i],cP m p (.int (bz S P)) (.int (aU S)) (.tup ((aR S P++(List.range' 0 i).flatMap (bU (bz S P) es)).map .tup)) fd sv x7 D x9 R jE gX iw iy jR gw gz ja fU (aB (.ref rs[i])),cP m p (.int (bz S P)) (.int (aU S)) (.tup ((aR S P++(List.range' 0 (i+1)).flatMap (bU (bz S P) es)).map .tup)) fd sv x7 D x9 R jE gX iw iy jR gw gz ja fU (aB (.ref rs[i])),h2,?_,rfl,?_,⟨_,rfl⟩,?_,?_,?_,?_⟩;rw[yF gR,hr];rfl;unfold EZ;refine(bE (ρ':=cP m p (.int (bz S P)) (.int (aU S)) (.tup ((aR S P++(List.range' 0 (i+1)).flatMap (bU (bz S P) es)).map .tup)) fd sv x7 D x9 R jE gX iw iy jR gw gz ja fU (aB (.ref rs[i]))) (h':=h2) ?_).trans (by rw[exs]);have et:ev (run F (k+2)) (.bi .tuple (.cons (.call 36 (.cons (.var 2) (.cons (.var 20) .nil))) .nil)) (cP m p (.int (bz S P)) (.int (aU S)) (.tup ((aR S P++(List.range' 0 i).flatMap (bU (bz S P) es)).map .tup)) fd sv x7 D x9 R jE gX iw iy jR gw gz ja fU (aB (.ref rs[i]))) h1=.ok (.tup ((bU (bz S P) es i).map .tup)) h2:=
     qo (mG (aE rfl) (aE rfl) e2) (nD g2)
    rw[exs];show((ev (run F (k+2)) (.bi .tuple (.cons (.call 36 (.cons (.var 2) (.cons (.var 20) .nil))) .nil)) _ h1).bind _)=_;rw[et,aD,Y7 hne (by rw[bG (as:=bU (bz S P) es i)];show _+2<=_;lia),aD,<-fZ,<-nK];rfl;refine⟨gF w1.le n2,?_,λq hq=>?_⟩;have:=w1.lo;have:=st.ro _ hm;lia;rw[o2 q (dI hq w1.le) (λz=>by have:=st.ro _ hm;lia),w1.get q hq];rw[o2 D hD (λz=>st.dn (by rw[z];exact hm))];exact gD;rw[o2 R hR (λz=>st.rn (by rw[z];exact hm))];exact gR;intro g r hg hgr;have gg:=gk g r (by lia) hgr;rw[o2 r (cg gg) (λz=>?_)];exact gg;obtain⟨q1,q2⟩:=gA.mp hgr;have:=(List.getElem_inj st.nd (h₀:=q1) (h₁:=show i<rs.length by lia)).mp (by rw[q2,z]);lia)
  (λρ h1 hI=>by rw[yF hI.2.2.2.1,iY (by lia)];rfl)
  (aU S) 0 fuel (cP m p (.int (bz S P)) (.int (aU S)) (.tup ((aR S P).map .tup)) fd sv x7 D x9 R jE gX iw iy jR gw gz ja fU aC) h (i7 _) (show _<1000000 by lia)
  ⟨⟨aC,by rw[show List.range' 0 0=[]from rfl,List.flatMap_nil,nP]⟩,I.gm,I.d,I.r,λg r _ e=>I.k g r e⟩
 obtain⟨⟨FW,rfl⟩,w2,gD,_,_⟩:=hI;exact⟨FW,h',(ez (aE rfl)).trans e1,w2,gD⟩
end
section
variable{F:Nat->Option Fn}(A:fT F)(C:lK F)(Y:fR F)
include A C Y
theorem Zd{k S P:Nat}{h:VH}{M:List (List (Int×Int))}(sh:Shape S P)(mo:xh S P M):run F (k+6) 187 [mW M] h=.ok (.tup [(bI S P M).w,.tup ((bB S).map iW)]) h:=by
 have iz:=sh.iz;have s1:=sh.s1;have p1:=sh.p1;have p4:=sh.p4;have sp:=sh.sp;have wd:=sh.wd;have hG:=uJ (S:=S);obtain⟨r0,M',rfl⟩:∃r M',M=r::M':=by
  cases M with|nil=>have:=mo.l;simp at this;lia|cons r M'=>exact⟨r,M',rfl⟩
 generalize hM:r0::M'=M at mo;have l0:r0.length=P:=mo.r r0 (hM▸eX);have lM:=mo.l;have i0:∀g:VH,bR g (mW M) (.int 0)=aB (bx r0):=λg=>by rw[<-hM];exact JE
 let k0:VH:=⟨h.n,h.n,h.os⟩
 have Ze:=YO A C (k:=k) (h:=k0) sh mo;have Zf:=YJ A C (k:=k) (h:=k0) sh;obtain⟨ys,ρ',h',e1,hI⟩:=mH (nx:=aZ .cD (.tup [.int S])) (tg:=bL (.one 0)) (e:=ev (run F (k+5)) I0) (n:=S)
  (I:=λi ρ h1 acc=>(∃x,ρ=[x,aB (.int (aU S))])/\h1=k0/\acc=((List.range i).map λ(s:Nat)=>aI s (aU S)).map iW)
  (λi ρ h1 acc hi hI=>by
    obtain⟨⟨x,rfl⟩,rfl,rfl⟩:=hI;refine⟨.int (i:Int),[aB (.int (i:Int)),aB (.int (aU S))],iW (aI i (aU S)),_,?_,rfl,mG (aE rfl) (aE rfl) (Ym C (k:=k+4) (by lia)),⟨_,rfl⟩,rfl,?_⟩;rw[jD (by lia),if_pos hi];rw[xG,fZ,fZ];rfl)
  (λρ h1 acc hI=>by rw[jD (by lia),if_neg (gZ _)])
  (ρ:=[aC,aB (.int (aU S))]) (h:=k0) (by lia) ⟨⟨aC,rfl⟩,rfl,rfl⟩
 obtain⟨_,rfl,rfl⟩:=hI;let k1:=k0.new (.lst ((bB S).map iW));obtain⟨ys,ρ',h',e2,hI⟩:=mH (nx:=aZ .cD (.tup [.int (bz S P)])) (tg:=bL (.one 0)) (e:=ev (run F (k+5)) Ja) (n:=bz S P)
  (I:=λi ρ h1 acc=>(∃x,ρ=[x])/\h1=k1/\acc=bV i (W.tup [.int 0,.int 0]))
  (λi ρ h1 acc hi hI=>by
    obtain⟨⟨x,rfl⟩,rfl,rfl⟩:=hI;refine⟨.int (i:Int),[aB (.int (i:Int))],.tup [.int 0,.int 0],_,?_,rfl,aW,⟨_,rfl⟩,rfl,?_⟩;rw[jD (by lia),if_pos hi];rw[<-List.replicate_succ'])
  (λρ h1 acc hI=>by rw[jD (by lia),if_neg (gZ _)])
  (ρ:=[aC]) (h:=k1) (by lia) ⟨⟨aC,rfl⟩,rfl,rfl⟩
 obtain⟨_,rfl,rfl⟩:=hI;let k2:=k1.new (.lst (bV (bz S P) (W.tup [.int 0,.int 0])));obtain⟨ys,ρ',h',e3,hI⟩:=mH (nx:=aZ .cD (.tup [.int (aU S)])) (tg:=bL (.one 0)) (e:=ev (run F (k+5)) EW) (n:=aU S)
  (I:=λi ρ h1 acc=>(∃x,ρ=[x])/\Gm k2 h1/\h1.n=k2.n+i/\acc=(List.range' k2.n i).map W.ref/\∀j,j<i->h1.get (k2.n+j)=aB (.dm []))
  (λi ρ h1 acc hi hI=>by
    obtain⟨⟨x,rfl⟩,w1,n1,rfl,g1⟩:=hI;refine⟨.int (i:Int),[aB (.int (i:Int))],.ref h1.n,h1.new (.dm []),?_,rfl,?_,⟨_,rfl⟩,w1.new,?_,?_,λj hj=>?_⟩;rw[jD (by lia),if_pos hi];unfold EW;rw[ev,bN,aD];rfl;show h1.n+1=_;lia;rw[List.range'_concat,fZ,n1,Nat.one_mul];rfl;by_cases q:j=i;subst q;rw[<-n1];exact dS;rw[ig (by lia)];exact g1 j (by lia))
  (λρ h1 acc hI=>by rw[jD (by lia),if_neg (gZ _)])
  (ρ:=[aC]) (h:=k2) (by lia) ⟨⟨aC,rfl⟩,.refl,rfl,rfl,λj hj=>absurd hj (yU _)⟩
 obtain⟨_,w3,n3,rfl,g3⟩:=hI;let k3:=h'.new (.lst ((List.range' k2.n (aU S)).map W.ref));have hn2:k2.n=h.n+1+1:=rfl;have st:St k0 k1.n h'.n (List.range' k2.n (aU S)):=by have hk1:k1.n=h.n+1:=rfl;have hk0:k0.n=h.n:=rfl;refine⟨by lia,by lia,λx hx=>?_,by lia,λz=>?_,λz=>?_,List.nodup_range'⟩;have:=(C9.mp hx).1;lia;have:=(C9.mp z).1;lia;have:=(C9.mp z).2;lia
 have Zg:Gm k0 k2:=(Gm.refl.new).new;have gD:k3.get k1.n=aB (.lst (bV (bz S P) (W.tup [.int 0,.int 0]))):=by rw[show k3.get k1.n=h'.get k1.n from ig (by have hk1:k1.n=h.n+1:=rfl;lia),w3.get k1.n (fY _)];exact dS (h:=k1)
 have I:EI k0 k1.n h'.n (List.range' k2.n (aU S)) (bz S P) [] k3:=by
  refine⟨(Zg.trans w3).new,gD,dS,λg r e=>?_⟩;have hg:g<aU S:=by have:=(gA.mp e).1;rw[xD]at this;exact this
  rw[List.getElem?_range' hg]at e;cases e;rw[Nat.one_mul,show k3.get (k2.n+g)=h'.get (k2.n+g)from ig (by lia)];exact g3 g hg
 have hev:(bQ S P 0 M).length<=400:=by rw[J5 mo.r,lM];lia
 obtain⟨y7,y9,Cy,Cz,qq,qt,qw,nH,nI,nJ,jZ,k4,e4,I4⟩:=Y6 Y (k:=k+3) (fd:=.tup ((bf S P).map .int)) sh mo st (by rw[xD]) I;obtain⟨FW,k5,e5,w5,Zh⟩:=Zc C (k:=k+3) (m:=mW M) (p:=(aM S P).w) (fd:=.tup ((bf S P).map .int)) (sv:=.tup ((bB S).map iW)) (x7:=y7) (x9:=y9) (jE:=Cy) (gX:=Cz) (iw:=qq) (iy:=qt) (jR:=qw) (gw:=nH) (gz:=nI) (ja:=nJ) (fU:=jZ) sh st (by rw[xD]) hev I4;have els:ev (run F (k+5)) (.lc .cD (.cons (.bi .len (.cons (.var 0) .nil)) .nil) (.one 0) 1 [3] (.cst (.bl true)) I0) [aB (mW M),aB (aM S P).w,aB (.int (bz S P)),aB (.int (aU S)),aB (.tup ((aR S P).map .tup)),aB (.tup ((bf S P).map .int)),aC,aC,aC,aC,aC,aC,aC,aC,aC,aC,aC,aC,aC,aC,aC] k0=.ok (.ref k0.n) k1:=by
  have xo:ev (run F (k+5)) (.bi .len (.cons (.var 0) .nil)) [aB (mW M),aB (aM S P).w,aB (.int (bz S P)),aB (.int (aU S)),aB (.tup ((aR S P).map .tup)),aB (.tup ((bf S P).map .int)),aC,aC,aC,aC,aC,aC,aC,aC,aC,aC,aC,aC,aC,aC,aC] k0=.ok (.int S) k0:=
   lJ (ws:=M.map bx) (aE (x:=mW M) rfl) rfl |>.trans (by rw[bG,lM])
  rw[ev,aS xo bN,aD,wM];show((gC _ _ _ _ fuel 0 [aC,aB (.int (aU S))] k0 []).bind _)=_;rw[e1,aD,if_pos (nC (by rw[bG,bG,oj];lia))];rfl
 have Zi:ev (run F (k+5)) (.lc .cD (.cons (.var 2) .nil) (.one 0) 1 [] (.cst (.bl true)) Ja) [aB (mW M),aB (aM S P).w,aB (.int (bz S P)),aB (.int (aU S)),aB (.tup ((aR S P).map .tup)),aB (.tup ((bf S P).map .int)),aB (.tup ((bB S).map iW)),aC,aC,aC,aC,aC,aC,aC,aC,aC,aC,aC,aC,aC,aC] k1=.ok (.ref k1.n) k2:=by rw[ev,aS (aE (x:=.int (bz S P)) rfl) bN,aD,wM];show((gC _ _ _ _ fuel 0 [aC] k1 []).bind _)=_;rw[e2,aD,if_pos (nC (by rw[uU];lia))]
 have Zj:ev (run F (k+5)) (.lc .cD (.cons (.var 3) .nil) (.one 0) 1 [] (.cst (.bl true)) EW) [aB (mW M),aB (aM S P).w,aB (.int (bz S P)),aB (.int (aU S)),aB (.tup ((aR S P).map .tup)),aB (.tup ((bf S P).map .int)),aB (.tup ((bB S).map iW)),aC,aB (.ref k1.n),aC,aC,aC,aC,aC,aC,aC,aC,aC,aC,aC,aC] k2=.ok (.ref h'.n) k3:=by rw[ev,aS (aE (x:=.int (aU S)) rfl) bN,aD,wM];show((gC _ _ _ _ fuel 0 [aC] k2 []).bind _)=_;rw[e3,aD,if_pos (nC (by rw[bG,xD];lia))]
 have eb:exs (run F (k+5)) mz.body [aB (mW M),aC,aC,aC,aC,aC,aC,aC,aC,aC,aC,aC,aC,aC,aC,aC,aC,aC,aC,aC,aC] ⟨h.n,h.n,h.os⟩=.ok (.rt (.tup [(bI S P M).w,.tup ((bB S).map iW)])) k5:=by
  refine(bE (ρ':=[aB (mW M),aC,aC,aC,aC,aC,aC,aC,aC,aC,aC,aC,aC,aC,aC,aC,aC,aC,aC,aC,aC]) (h':=k0) ?_).trans ?_;rw[exs,FT (Cm (aE rfl) Ze),aD];show exs _ .skip _ _=_;rw[exs];refine(bE (cA (x:=(aM S P).w) (h1:=k0) (mG (x:=.int S) (y:=.int P) (h1:=k0) (h2:=k0) ?_ ?_ Zf))).trans ?_;exact lJ (ws:=M.map bx) (aE (x:=mW M) rfl) rfl |>.trans (by rw[bG,lM])
  exact lJ (ws:=r0.map br) (cX (aE (x:=mW M) rfl) aW (i0 _)) rfl |>.trans (by rw[bG,l0])
  refine(bE (ρ':=[aB (mW M),aB (aM S P).w,aB (.int (bz S P)),aB (.int (aU S)),aB (.tup ((aR S P).map .tup)),aB (.tup ((bf S P).map .int)),aC,aC,aC,aC,aC,aC,aC,aC,aC,aC,aC,aC,aC,aC,aC]) (h':=k0) ?_).trans ?_;have JM:ev (run F (k+5)) (.slc (.var 1) false (.cst .aQ) true (.cst (.int (4)))) [aB (mW M),aB (aM S P).w,aC,aC,aC,aC,aC,aC,aC,aC,aC,aC,aC,aC,aC,aC,aC,aC,aC,aC,aC] k0=.ok (.tup [.int (bz S P),.int (aU S),.tup ((aR S P).map .tup),.tup ((bf S P).map .int)]) k0:=by rw[ev,aE (x:=(aM S P).w) rfl,aD,aW,aD,aW,aD];rfl
  show exs (run F (k+5)) (.ye [2,3,4,5] _) [aB (mW M),aB (aM S P).w,aC,aC,aC,aC,aC,aC,aC,aC,aC,aC,aC,aC,aC,aC,aC,aC,aC,aC,aC] k0=_;rw[exs,JM,aD];rfl;refine(bE (cA (x:=.tup ((bB S).map iW)) (h1:=k1) (qo (x:=.ref k0.n) (h1:=k1) els (nD dS)))).trans ?_;refine(bE (cA (x:=.ref k1.n) (h1:=k2) Zi)).trans ?_;refine(bE (cA (x:=.ref h'.n) (h1:=k3) Zj)).trans ?_;refine(bE e4).trans ?_;refine(bE e5).trans ?_;refine k6 (fS (jC (uM (aE rfl) (aE rfl) (aE rfl) (aE rfl) (qo (aE rfl) (nD Zh))) (aE rfl)))
 have ok:=JB sh mo;have pv:Pv (.tup [(bI S P M).w,.tup ((bB S).map iW)]):=by
  refine Pv.tup λw hw=>?_;rcases fV.mp hw with rfl|hw
  refine Pv.tup λw hw=>?_;simp only[fV,De,or_false]at hw;rcases hw with rfl|rfl|rfl|rfl|rfl
  exact Pv.int;exact Pv.int;refine Pv.tup λw hw=>?_;obtain⟨r,hr,rfl⟩:=jb.mp hw;exact Zb (Om sh ok r hr).2;refine Pv.tup λw hw=>?_;obtain⟨r,hr,rfl⟩:=jb.mp hw;exact Pv.int;refine Pv.tup λw hw=>?_;have:∀(es:List Ev)(d:List W),(∀w∈d,Pv w)->∀w∈es.foldl cG d,Pv w:=by
   intro es;induction es with
   |nil=>intro d h;exact h
   |cons e r ih=>
    intro d h;rw[k8];refine ih _ λw hw=>?_;rcases List.mem_or_eq_of_mem_set hw with hw|rfl
    exact h w hw;exact FP (x:=(e.n,0))
  exact this _ _ (λw hw=>by rw[List.eq_of_mem_replicate hw];exact FP (x:=(0,0))) w hw;rw[pT.mp hw];refine Pv.tup λw hw=>?_;obtain⟨r,hr,rfl⟩:=jb.mp hw;refine Pv.tup λw hw=>?_;obtain⟨r,hr,rfl⟩:=jb.mp hw;exact Pv.int
 rw[iF C.JK rfl];show fin h (exs (run F (k+5)) mz.body [aB (mW M),aC,aC,aC,aC,aC,aC,aC,aC,aC,aC,aC,aC,aC,aC,aC,aC,aC,aC,aC,aC] ⟨h.n,h.n,h.os⟩)=_;rw[eb];exact Cr pv w5
end
noncomputable def kM(x:Nat×Nat):W:=.tup [.int x.1,.int x.2]
noncomputable def cz(i:Nat):List (Nat×Nat):=((List.range 4).filter λp=>decide ((i+1)* (p+1)<=16)).map λp=>(i+1,p+1)
theorem Zk:mF=(List.range 16).flatMap cz:=rfl
theorem Zl:(mF.all λx=>decide (1<=x.1)&&decide (1<=x.2)&&decide (x.2<=4)&&decide (x.1*x.2<=16))=true:=by decide +kernel
theorem Pc:mF.length=33:=by decide +kernel
theorem Zm{x:Nat×Nat}(h:x∈mF):Shape x.1 x.2:=by have:=i6.mp Zl x h;simp only[bY,iB]at this;exact⟨this.1.1.1,this.1.1.2,this.1.2,this.2⟩
theorem Pd{h h':VH}{w:W}:∃h2,fin h (.ok (.rt w) h')=.ok w h2:=by show ∃h2,leave h w h'=.ok w h2;unfold leave;split<;>exact⟨_,rfl⟩
theorem Zn{cl:Call}{ρ:En}{h:VH}{i:Nat}(hi:i<16)(lI:inner 1 [2] ρ=[aC,aB (.int (1+ (i:Int)))]) :
 ev cl (.lc .gK (.cons (.cst (.int (1))) (.cons (.cst (.int (5))) .nil)) (.one 0) 1 [2] EU IX) ρ h=.ok (.ref h.n) (h.new (.lst ((cz i).map kM))):=by
 have nx:∀j,aZ .gK (.tup [.int 1,.int 5]) j h=aB (((List.range 4).map λ(p:Nat)=>W.int (1+ (p:Int)))[j]?):=λj=>by
  rw[Ct (by decide) (by decide),dG];by_cases q:j<4;rw[if_pos (by show j<4;exact q),uV q];rfl;rw[if_neg (by show ¬j<4;exact q),iY (by rw[oj];lia)];rfl
 have Kc:∀p:Nat,p<4->ev cl (.op .mul (.var 1) (.var 0)) [aB (.int (1+ (p:Int))),aB (.int (1+ (i:Int)))] h=.ok (.int ((1+ (i:Int))* (1+ (p:Int)))) h:=λp hp=>
  gW (aE rfl) (aE rfl) (nG (.inl (by rw[show(1:Int)+i=((1+i:Nat):Int) by push_cast;rfl];exact FN (by lia))))
 have e:=JQ (nx:=aZ .gK (.tup [.int 1,.int 5])) (c:=ev cl EU) (e:=ev cl IX) (h:=h) (ws:=(List.range 4).map λ(p:Nat)=>W.int (1+ (p:Int))) (tl:=[aB (.int (1+ (i:Int)))])
  (p:=λw=>match w with|.int p=>decide ((1+ (i:Int))*p<=16)|_=>false) (f:=λw=>.tup [.int (1+ (i:Int)),w]) nx
  (λw hw=>by
    obtain⟨p,hp,rfl⟩:=jb.mp hw;unfold EU;rw[ev,Kc p (nQ.mp hp),aD,aW,aD];rfl)
  (λw hw=>by
    exact jC (aE rfl) (aE rfl)) fuel 0 aC [] (kT _) (by rw[bG,oj];decide)
 rw[ev,aS aW (aS aW bN),aD,lI];rw[e,aD];have nK:([]:List W).reverse++((((List.range 4).map λ(p:Nat)=>W.int (1+ (p:Int))).drop 0).filter (λw=>match w with
  |.int p=>decide ((1+ (i:Int))*p<=16)
  |_=>false)).map (λw=>W.tup [.int (1+ (i:Int)),w])=(cz i).map kM:=by
  rw[List.reverse_nil,xF,Df,List.filter_map,List.map_map];unfold cz;rw[List.map_map];have hf:(List.range 4).filter ((λw=>match w with
   |W.int p=>decide ((1+ (i:Int))*p<=16)
   |_=>false)∘λ(p:Nat)=>W.int (1+ (p:Int)))=(List.range 4).filter λp=>decide ((i+1)* (p+1)<=16):=by
   refine List.filter_congr λp _=>?_;show decide ((1+ (i:Int))* (1+ (p:Int))<=16)=decide ((i+1)* (p+1)<=16);rw[show(1+ (i:Int))* (1+ (p:Int))=(((i+1)* (p+1):Nat):Int) by push_cast;rw[yV 1 (i:Int),yV 1 (p:Int)]];exact decide_eq_decide.mpr (by lia)
  rw[hf];refine List.map_congr_left λp _=>?_;show W.tup [.int (1+ (i:Int)),.int (1+ (p:Int))]=W.tup [.int ((i+1:Nat):Int),.int ((p+1:Nat):Int)]
  push_cast;rw[yV 1 (i:Int),yV 1 (p:Int)]
 rw[nK,if_pos (nC ?_)];unfold cz;rw[bG,bG];refine gF (List.length_filter_le _ _) ?_;rw[oj];decide
theorem CA(n:Nat):(cz n).length<=4:=by unfold cz;rw[bG];refine gF (List.length_filter_le _ _) ?_;rw[oj];exact bg _
theorem Pe:∀i,((List.range i).map λj=>(cz j).length).sum<=i*4
 |0=>bg _
 |n+1=>by
  have ih:=Pe n;have:=CA n;rw[xG,fZ,List.sum_append];simp;lia
theorem Ke{xs ys:List W}{h:VH}{i j:Nat}(gi:h.get i=aB (.lst xs))(gj:h.get j=aB (.lst ys))(hl:xs.length+ys.length<=1000000):iE .add (.ref i) (.ref j) h=.ok (.ref h.n) (h.new (.lst (xs++ys))):=by simp only[iE,gi,gj,AH];rw[if_pos (nC hl)]
theorem mK{h:VH}{d c b:Nat}(D:Dk h d c b):d<h.n/\c<h.n:=by obtain⟨_,ns,cells,p,q,a1,a2,_⟩:=D;exact⟨cg a1,cg a2⟩
theorem Zo{h:VH}{d c b:Nat}{x:Nat}{o:VO}(D:Dk h d c b)(hx:x<h.n)(h1:x≠d)(h2:x≠c):Dk (h.set x o) d c b:=by obtain⟨ne,ns,cells,p,q,a1,a2,a3⟩:=D;exact⟨ne,ns,cells,p,q,by rw[nV hx (eZ h1)];exact a1,by rw[nV hx (eZ h2)];exact a2,a3⟩
section
variable{F:Nat->Option Fn}(T:kJ F)(C:lK F)
include C
omit C in
theorem Zp{cl:Call}{d c b:Nat}{h:VH}(D:Dk h d c b):∃a x2 h',exs cl (.«for» .gK (.cons (.cst (.int (1))) (.cons (.cst (.int (17))) .nil)) (.one 2) EV) [aB (.ref d),aB (.ref h.n),aC,aC,aC,aC,aC] (h.new (.lst []))=.ok (.nx [aB (.ref d),aB (.ref a),x2,aC,aC,aC,aC]) h'/\h'.get a=aB (.lst (mF.map kM))/\a≠d/\a≠c/\Dk h' d c b:=by
 obtain⟨l1,l2⟩:=mK D;obtain⟨ρ',h',e1,hI⟩:=nZ (nx:=aZ .gK (.tup [.int 1,.int 17])) (tg:=bL (.one 2)) (b:=exs cl EV) (n:=16)
  (I:=λi ρ h1=>∃a x2,ρ=[aB (.ref d),aB (.ref a),x2,aC,aC,aC,aC]/\h1.get a=aB (.lst (((List.range i).flatMap cz).map kM))/\a≠d/\a≠c/\Dk h1 d c b)
  (λi ρ h1 hi hI=>by
    obtain⟨a,x2,rfl,g1,n1,n2,D1⟩:=hI;obtain⟨m1,m2⟩:=mK D1;let h2:=h1.new (.lst ((cz i).map kM));have g2:h2.get a=aB (.lst (((List.range i).flatMap cz).map kM)):=by rw[show h2.get a=h1.get a from ig (cg g1)];exact g1
    have g3:h2.get h1.n=aB (.lst ((cz i).map kM)):=dS;have hle:(((List.range i).flatMap cz).map kM).length<=500:=by rw[bG,List.length_flatMap];have:=Pe i;lia
    have Zq:((cz i).map kM).length<=4:=by unfold cz;rw[bG,bG];refine gF (List.length_filter_le _ _) ?_;rw[oj];exact bg _
    refine⟨.int (1+ (i:Int)),[aB (.ref d),aB (.ref a),aB (.int (1+ (i:Int))),aC,aC,aC,aC],[aB (.ref d),aB (.ref h2.n),aB (.int (1+ (i:Int))),aC,aC,aC,aC],h2.new (.lst (((List.range (i+1)).flatMap cz).map kM)),?_,rfl,?_,⟨h2.n,_,rfl,dS,?_,?_,D1.new.new⟩⟩;rw[Ct (by decide) (by decide),if_pos (by show i<16;exact hi)];unfold EV;refine(bE (cA (x:=.ref h2.n) (h1:=h2.new (.lst (((List.range (i+1)).flatMap cz).map kM))) (gW (aE (x:=.ref a) rfl) (Zn hi rfl) ?_))).trans (by rw[exs];rfl);have nK:((List.range (i+1)).flatMap cz).map kM=((List.range i).flatMap cz).map kM++(cz i).map kM:=by rw[xG,List.flatMap_append,fZ];simp
    rw[nK];exact Ke g2 g3 (by lia);show h1.n+1≠d;lia;show h1.n+1≠c;lia)
  (λρ h1 hI=>by rw[Ct (by decide) (by decide),if_neg (by show ¬16<16;lia)])
  16 0 fuel [aB (.ref d),aB (.ref h.n),aC,aC,aC,aC,aC] (h.new (.lst [])) (i7 _) (by decide) ⟨h.n,aC,rfl,dS,by lia,by lia,D.new⟩
 obtain⟨a,x2,rfl,g,n1,n2,D2⟩:=hI;rw[<-Zk]at g;exact⟨a,x2,h',(ez (aS aW (aS aW bN))).trans e1,g,n1,n2,D2⟩
include T
theorem Zr{k d c b:Nat}{h:VH}(D:Dk h d c b)(hb:b<1000):∃S P M h',run F (k+4) 113 [.ref d] h=.ok (mW M) h'/\Shape S P/\xh S P M:=by
 have D0:Dk ⟨h.n,h.n,h.os⟩ d c b:=D.lo;obtain⟨a,x2,h1,e1,ga,na,nc,D1⟩:=Zp (cl:=run F (k+3)) D0;obtain⟨r,h2,e2,r0,r1,D2,K2⟩:=take T (k:=k) (m:=33) D1 (by lia) (by decide) (by decide);have Zs:h2.get a=aB (.lst (mF.map kM)):=K2.get a _ na nc ga;obtain⟨rn,rfl⟩:∃n:Nat,r=n:=⟨r.toNat,by lia⟩
 have Zt:rn<mF.length:=by rw[Pc];lia
 obtain⟨⟨S,P⟩,hx⟩:∃x,mF[rn]?=aB x:=⟨_,cN Zt⟩
 have sh:Shape S P:=Zm (kQ hx);have iz:=sh.iz;have s1:=sh.s1;have p1:=sh.p1;have p4:=sh.p4;let h2':=h2.new (.lst [.int 2,.int 3,.int 100]);obtain⟨r',h3,e3,q0,q1,D3,K3⟩:=take T (k:=k) (m:=3) (h:=h2') D2.new (by lia) (by decide) (by decide);obtain⟨l1,l2⟩:=mK D2;have gn:h3.get h2.n=aB (.lst [.int 2,.int 3,.int 100]):=K3.get h2.n _ (by lia) (by lia) dS;obtain⟨nm,en,n0,n1⟩:∃nm:Int,bR h3 (.ref h2.n) (.int r')=aB (.int nm)/\1<=nm/\nm<=100:=by
  simp only[bR,gn];have:r'=0\/r'=1\/r'=2:=by lia
  rcases this with rfl|rfl|rfl;exact⟨2,rfl,by decide,by decide⟩;exact⟨3,rfl,by decide,by decide⟩;exact⟨100,rfl,by decide,by decide⟩
 obtain⟨l3,l4⟩:=mK D3;obtain⟨EB,h4,e4,hI⟩:=nZ (nx:=aZ .cD (.tup [.int S])) (tg:=bL (.one 6)) (b:=exs (run F (k+3)) IZ) (n:=S)
  (I:=λi ρ h'=>∃x6 Mi,ρ=[aB (.ref d),aB (.ref a),aB (.int S),aB (.int P),aB (.int nm),aB (.ref h3.n),x6]/\h'.get h3.n=aB (.lst (Mi.map bx))/\Mi.length=i/\(∀row∈Mi,row.length=P/\∀x∈row,0<=x.1/\x.1<=99/\0<=x.2/\x.2< (S:Int))/\Dk h' d c (b+2+8*i))
  (λi ρ h' hi hI=>by
    obtain⟨x6,Mi,rfl,g1,li,ok,D4⟩:=hI;obtain⟨ys,jy,h5,e5,Kf⟩:=mH (nx:=aZ .cD (.tup [.int P])) (tg:=bL (.one 0)) (e:=ev (run F (k+3)) IY) (n:=P)
     (I:=λj ρ h5 acc=>∃x row,ρ=[x,aB (.ref d),aB (.int nm),aB (.int S)]/\acc=row.map br/\row.length=j/\(∀x∈row,0<=x.1/\x.1<=99/\0<=x.2/\x.2< (S:Int))/\h5.get h3.n=aB (.lst (Mi.map bx))/\Dk h5 d c (b+2+8*i+2*j))
     (λj ρ h5 acc hj hI=>by
       obtain⟨x,row,rfl,rfl,lj,Kg,g5,D5⟩:=hI;obtain⟨u,h6,e6,u0,u1,D6,K6⟩:=take T (k:=k) (m:=nm) (h:=h5) D5 (by lia) (by lia) (by lia);obtain⟨v,h7,e7,v0,v1,D7,K7⟩:=take T (k:=k) (m:=(S:Int)) (h:=h6) D6 (by lia) (by lia) (by lia);refine⟨.int (j:Int),[aB (.int (j:Int)),aB (.ref d),aB (.int nm),aB (.int S)],br (u,v),h7,?_,rfl,jC (mG (aE rfl) (aE rfl) e6) (mG (aE rfl) (aE rfl) e7),_,row++[(u,v)],rfl,by rw[fZ];rfl,by rw[eY,lj];rfl,λy hy=>?_,K7.get _ _ (by lia) (by lia) (K6.get _ _ (by lia) (by lia) g5),?_⟩;rw[jD (by lia),if_pos hj];rcases uW.mp hy with hy|hy;exact Kg y hy;rw[pT.mp hy];exact⟨u0,by show u<=99;lia,v0,v1⟩;exact D7.mono (by lia))
     (λρ h5 acc hI=>by rw[jD (by lia),if_neg (gZ _)])
     (ρ:=[aC,aB (.ref d),aB (.int nm),aB (.int S)]) (h:=h') (by lia) ⟨aC,[],rfl,rfl,rfl,λ_ h=>(by cases h),g1,D4.mono (by lia)⟩
    obtain⟨_,row,rfl,rfl,lr,Kg,g5,D5⟩:=Kf;let h6:=h5.new (.lst (row.map br));have g6:h6.get h3.n=aB (.lst (Mi.map bx)):=by rw[show h6.get h3.n=h5.get h3.n from ig (cg g5)];exact g5
    refine⟨.int (i:Int),[aB (.ref d),aB (.ref a),aB (.int S),aB (.int P),aB (.int nm),aB (.ref h3.n),aB (.int (i:Int))],[aB (.ref d),aB (.ref a),aB (.int S),aB (.int P),aB (.int nm),aB (.ref h3.n),aB (.int (i:Int))],h6.set h3.n (.lst ((Mi++[row]).map bx)),?_,rfl,?_,_,Mi++[row],rfl,nX g6,by rw[eY,li];rfl,λy hy=>?_,?_⟩;rw[jD (by lia),if_pos hi];unfold IZ;refine(bE (ρ':=[aB (.ref d),aB (.ref a),aB (.int S),aB (.int P),aB (.int nm),aB (.ref h3.n),aB (.int (i:Int))]) (h':=h6.set h3.n (.lst ((Mi++[row]).map bx))) ?_).trans (by rw[exs]);have Zu:ev (run F (k+3)) (.lc .cD (.cons (.var 3) .nil) (.one 0) 1 [0,4,2] (.cst (.bl true)) IY) [aB (.ref d),aB (.ref a),aB (.int S),aB (.int P),aB (.int nm),aB (.ref h3.n),aB (.int (i:Int))] h'=.ok (.ref h5.n) h6:=by rw[ev,aS (aE (x:=.int P) rfl) bN,aD,wM];show((gC _ _ _ _ fuel 0 [aC,aB (.ref d),aB (.int nm),aB (.int S)] h' []).bind _)=_;rw[e5,aD,if_pos (nC (by rw[bG];lia))]
    have hk:kE .append h' (.ref h3.n)=true:=by simp only[kE,g1]
    rw[exs,ev,aE (x:=.ref h3.n) rfl,aD,if_pos hk,aS (qo Zu (nD dS)) bN,aD];show((jV .append (.ref h3.n) [.tup (row.map br)] h6).bind _)=_;simp only[jV,g6];rw[if_pos (wN (by rw[bG];lia)),aD,fZ];rfl;rcases uW.mp hy with hy|hy
    exact ok y hy;rw[pT.mp hy];exact⟨lr,Kg⟩;exact(Zo D5.new (cg g6) (by lia) (by lia)).mono (by lia))
  (λρ h' hI=>by rw[jD (by lia),if_neg (gZ _)])
  S 0 fuel [aB (.ref d),aB (.ref a),aB (.int S),aB (.int P),aB (.int nm),aB (.ref h3.n),aC] (h3.new (.lst [])) (i7 _) (show _<1000000 by lia) ⟨aC,[],rfl,dS,rfl,λ_ h=>(by cases h),D3.new.mono (by lia)⟩
 obtain⟨x6,M,rfl,gM,lM,FJ,D4⟩:=hI;have eb:exs (run F (k+3)) pF.body [aB (.ref d),aC,aC,aC,aC,aC,aC] ⟨h.n,h.n,h.os⟩=.ok (.rt (mW M)) h4:=by
  refine(bE (cA (x:=.ref h.n) (h1:=VH.new ⟨h.n,h.n,h.os⟩ (.lst [])) (fk bN rfl))).trans ?_;refine(bE e1).trans ?_;refine(bE (ρ':=[aB (.ref d),aB (.ref a),aB (.int S),aB (.int P),aC,aC,aC]) (h':=h2) ?_).trans ?_;have xo:ev (run F (k+3)) (.bi .len (.cons (.var 1) .nil)) [aB (.ref d),aB (.ref a),x2,aC,aC,aC,aC] h1=.ok (.int 33) h1:=
   lJ (ws:=mF.map kM) (aE (x:=.ref a) rfl) (nD ga) |>.trans (by rw[bG,Pc];rfl)
  have Kh:ev (run F (k+3)) (.idx (.var 1) (.call 5 (.cons (.var 0) (.cons (.bi .len (.cons (.var 1) .nil)) .nil)))) [aB (.ref d),aB (.ref a),x2,aC,aC,aC,aC] h1=.ok (kM (S,P)) h2:=by refine cX (aE (x:=.ref a) rfl) (mG (aE (x:=.ref d) rfl) xo e2) ?_;simp only[bR,Zs];exact lu (by rw[dG,hx];rfl)
  rw[exs,Kh,aD];rfl;refine(bE (cA (x:=.int nm) (h1:=h3) (cX (x:=.ref h2.n) (y:=.int r') (fk (aS aW (aS aW (aS aW bN))) rfl) (mG (aE (x:=.ref d) rfl) aW e3) en))).trans ?_;refine(bE (cA (x:=.ref h3.n) (h1:=h3.new (.lst [])) (fk bN rfl))).trans ?_;refine(bE ((ez (aS (aE (x:=.int S) rfl) bN)).trans e4)).trans ?_;exact k6 (fS (qo (aE rfl) (nD gM)))
 rw[iF C.JI rfl];obtain⟨h5,e5⟩:=Pd (h:=h) (h':=h4) (w:=mW M);refine⟨S,P,M,h5,?_,sh,lM,λrow hr=>(FJ row hr).1,λrow hr=>(FJ row hr).2⟩;rw[<-e5];exact lP (fin h) eb
end
section
variable{F:Nat->Option Fn}(A:fT F)(C:lK F)(Y:fR F)(T:kJ F)(sR:F 700=aB BW)
noncomputable abbrev eO(sc dk m b s:W)(x5 x6 x7 x8 x9:Option W):En:=[aB sc,aB dk,aB m,aB b,aB s,x5,x6,x7,x8,x9]
include C in
theorem Zv{k S P:Nat}{h:VH}{M:List (List (Int×Int))}{sc dk m:W}{x9:Option W}(sh:Shape S P)(mo:xh S P M){s f:Nat}{row:List (Int×Int)}{x:Int×Int}(h1:M[s]?=aB row)(h2:row[f]?=aB x) :
 ∃y9 h',exs (run F (k+1)) E1 (eO sc dk m (bI S P M).w (.tup ((bB S).map iW)) (aB (.int s)) (aB (bx row)) (aB (.int f)) (aB (br x)) x9) h=.ok (.nx (eO sc dk m (bI S P M).w (.tup ((bB S).map iW)) (aB (.int s)) (aB (bx row)) (aB (.int f)) (aB (br x)) y9)) h':=by
 have hs:=(gA.mp h1).1;have hf:=(gA.mp h2).1;rw[mo.l]at hs;rw[mo.r row (kQ h1)]at hf;have hx:=mo.p row (kQ h1) x (kQ h2);obtain⟨cs,ts,e1,d1,c0,c1⟩:=XW sh mo h1 h2;have hlen:=sh.rows.2.2.1;have pN:=sh.col hf;have hfd:(bI S P M).fd[f]?=aB (.int ((aM S P).col f)):=by show((bf S P).map W.int)[f]?=_;rw[dG,pN,jS,cN (by lia)];rfl
 have hc2:=sh.rows.2.2.2.1 ((bf S P).getD f 0) (by
  rw[jS,cN (show f< (bf S P).length by lia)];exact kR _)
 rw[<-pN]at hc2;have ok:=JB sh mo;have Ka:=sh.rows.2.1;have hG:=uJ (S:=S);have hmr:(bI S P M).rows.length<1000000:=by
  show(aR S P++(List.range' 0 (aU S)).flatMap (bU (bz S P) (bQ S P 0 M))).length<1000000;rw[eY,List.length_flatMap];have:∀l:List Nat,(l.map λg=>(bU (bz S P) (bQ S P 0 M) g).length).sum=l.length*2:=by
   intro l;induction l with|nil=>rfl|cons a r ih=>rw[dH,List.sum_cons,ih,cY];show 2+_=_;lia
  rw[this,xD];lia
 obtain⟨i,h',e2,g2,w2⟩:=YV C (k:=k) (h:=h) (B:=bI S P M) (f:=f) (ls:=aI s (aU S)) (by rw[qm];exact Om sh ok) hmr hfd hc2.1 (by show _< ((bz S P:Nat):Int);lia) yE e1;have hst:∀j:Nat,j<S->(bB S)[j]?=aB (aI j (aU S)):=λj hj=>by
  unfold bB;rw[dG,uV hj];rfl
 obtain⟨nx,FU⟩:∃nx:Nat,x.2=nx:=⟨x.2.toNat,by lia⟩
 obtain⟨cl,hcl⟩:∃cl:Nat,bH ((aM S P).col f) cs=cl:=⟨(bH ((aM S P).col f) cs).toNat,by lia⟩
 rw[hcl]at d1 g2;rw[pV]at d1;have i0:∀(g:VH),g.get i=aB (.lst [.int (cl:Int),iW (aI x.2 (aU S))])->bR g (.ref i) (.int 0)=aB (.int (cl:Int)):=λg q=>by
  simp only[bR,q];rfl
 have i1:∀(g:VH),g.get i=aB (.lst [.int (cl:Int),iW (aI x.2 (aU S))])->bR g (.ref i) (.int 1)=aB (iW (aI x.2 (aU S))):=λg q=>by
  simp only[bR,q];rfl
 refine⟨aB (.ref i),h',?_⟩;unfold E1;refine(bE (cA (x:=.ref i) (h1:=h') (sQ (x:=(bI S P M).w) (y:=iW (aI s (aU S))) (z:=.int f) (aE rfl) (cX (aE (x:=.tup ((bB S).map iW)) rfl) (aE (x:=.int s) rfl) ?_) (aE rfl) e2))).trans ?_;exact lu (by rw[dG,hst s hs];rfl);have c1:ev (run F (k+1)) (.cmp .yb (.var 9) (.cst .aQ)) (eO sc dk m (bI S P M).w (.tup ((bB S).map iW)) (aB (.int s)) (aB (bx row)) (aB (.int f)) (aB (br x)) (aB (.ref i))) h'=.ok (.bl false) h':=by rw[ev,aE (x:=.ref i) rfl,aD,aW,aD];rfl
 have c2:ev (run F (k+1)) (.cmp .ne (.idx (.idx (.idx (.var 3) (.cst (.int (4)))) (.idx (.var 9) (.cst (.int (0))))) (.cst (.int (0)))) (.idx (.var 8) (.cst (.int (0))))) (eO sc dk m (bI S P M).w (.tup ((bB S).map iW)) (aB (.int s)) (aB (bx row)) (aB (.int f)) (aB (br x)) (aB (.ref i))) h'=.ok (.bl false) h':=by
  have q1:ev (run F (k+1)) (.idx (.idx (.idx (.var 3) (.cst (.int (4)))) (.idx (.var 9) (.cst (.int (0))))) (.cst (.int (0)))) (eO sc dk m (bI S P M).w (.tup ((bB S).map iW)) (aB (.int s)) (aB (bx row)) (aB (.int f)) (aB (br x)) (aB (.ref i))) h'=.ok (.int x.1) h':=by refine cX (x:=.tup [.int x.1,.int 0]) (cX (x:=.tup (bI S P M).dr) (cX (aE (x:=(bI S P M).w) rfl) aW rfl) (cX (aE (x:=.ref i) rfl) aW (i0 _ g2)) ?_) aW rfl;exact lu d1
  have q2:ev (run F (k+1)) (.idx (.var 8) (.cst (.int (0)))) (eO sc dk m (bI S P M).w (.tup ((bB S).map iW)) (aB (.int s)) (aB (bx row)) (aB (.int f)) (aB (br x)) (aB (.ref i))) h'=.ok (.int x.1) h':=
   cX (aE (x:=br x) rfl) aW rfl
  rw[ev,q1,aD,q2,aD];simp only[bJ,uG,yG,iC,bO];rfl
 have c3:ev (run F (k+1)) (.cmp .ne (.idx (.var 9) (.cst (.int (1)))) (.idx (.var 4) (.idx (.var 8) (.cst (.int (1)))))) (eO sc dk m (bI S P M).w (.tup ((bB S).map iW)) (aB (.int s)) (aB (bx row)) (aB (.int f)) (aB (br x)) (aB (.ref i))) h'=.ok (.bl false) h':=by
  have q1:ev (run F (k+1)) (.idx (.var 9) (.cst (.int (1)))) (eO sc dk m (bI S P M).w (.tup ((bB S).map iW)) (aB (.int s)) (aB (bx row)) (aB (.int f)) (aB (br x)) (aB (.ref i))) h'=.ok (iW (aI x.2 (aU S))) h':=
   cX (aE (x:=.ref i) rfl) aW (i1 _ g2)
  have q2:ev (run F (k+1)) (.idx (.var 4) (.idx (.var 8) (.cst (.int (1))))) (eO sc dk m (bI S P M).w (.tup ((bB S).map iW)) (aB (.int s)) (aB (bx row)) (aB (.int f)) (aB (br x)) (aB (.ref i))) h'=.ok (iW (aI x.2 (aU S))) h':=by refine cX (aE (x:=.tup ((bB S).map iW)) rfl) (cX (z:=.int x.2) (aE (x:=br x) rfl) aW rfl) ?_;rw[FU];exact lu (by rw[dG,hst nx (by lia)];rfl)
  rw[ev,q1,aD,q2,aD];simp only[bJ,YA,yG,iC,bO];rfl
 refine(bE (ρ':=eO sc dk m (bI S P M).w (.tup ((bB S).map iW)) (aB (.int s)) (aB (bx row)) (aB (.int f)) (aB (br x)) (aB (.ref i))) (h':=h') ?_).trans (by rw[exs]);show exs (run F (k+1)) _ (eO sc dk m (bI S P M).w (.tup ((bB S).map iW)) (aB (.int s)) (aB (bx row)) (aB (.int f)) (aB (br x)) (aB (.ref i))) h'=_;rw[exs,Jk c1 (Jk c2 c3),aD];show exs _ .skip _ _=_;rw[exs]
include A C Y T sR in
theorem CB{ns:List Int}(hl:ns.length<=63):yq (run F 30 700 [.fz (ns.map .int)] ⟨0,0,[]⟩)=true:=by
 rw[show(30:Nat)=29+1 from rfl,iF sR rfl];obtain⟨h1,e1,D1⟩:=JG T (k:=28) (h:=⟨0,0,[]⟩) hl;generalize hsc:W.fz (ns.map .int)=sc at *;obtain⟨S,P,M,h2,e2,sh,mo⟩:=Zr T C (k:=25) D1 (by decide);have e3:=Zd A C Y (k:=23) (h:=h2) sh mo;have iz:=sh.iz;have p4:=sh.p4;have lM:=mo.l;obtain⟨ρ',h',e4,hI⟩:=nZ (nx:=aZ .lA (mW M)) (tg:=bL (.many [5,6])) (b:=exs (run F 29) Jb) (n:=S)
  (I:=λi ρ h=>∃x5 x6 x7 x8 x9,ρ=eO sc (.ref (0+1)) (mW M) (bI S P M).w (.tup ((bB S).map iW)) x5 x6 x7 x8 x9)
  (λi ρ h hi hI=>by
    obtain⟨x5,x6,x7,x8,x9,rfl⟩:=hI;have hm:=cN (show i<M.length by lia);have lr:=mo.r _ (kQ hm);obtain⟨jy,h5,e5,Kf⟩:=nZ (nx:=aZ .lA (bx M[i])) (tg:=bL (.many [7,8])) (b:=exs (run F 29) E1) (n:=P)
     (I:=λj ρ h=>∃x7 x8 x9,ρ=eO sc (.ref (0+1)) (mW M) (bI S P M).w (.tup ((bB S).map iW)) (aB (.int (i:Int))) (aB (bx M[i])) x7 x8 x9)
     (λj ρ h hj hI=>by
       obtain⟨x7,x8,x9,rfl⟩:=hI;have hx:=cN (show j< (M[i]).length by lia);obtain⟨y9,h6,e6⟩:=Zv C (k:=28) (h:=h) (sc:=sc) (dk:=.ref (0+1)) (m:=mW M) (x9:=x9) sh mo hm hx;refine⟨.tup [.int (j:Int),br (M[i])[j]],_,_,h6,?_,rfl,e6,⟨_,_,_,rfl⟩⟩;show aB (((M[i].map br)[j]?).map λw=>W.tup [.int j,w])=_;rw[dG,hx];rfl)
     (λρ h hI=>by
       show aB (((M[i].map br)[P]?).map λw=>W.tup [.int P,w])=_;rw[iY (by rw[bG];lia)];rfl)
     P 0 fuel (eO sc (.ref (0+1)) (mW M) (bI S P M).w (.tup ((bB S).map iW)) (aB (.int (i:Int))) (aB (bx M[i])) x7 x8 x9) h (i7 _) (show _<1000000 by lia) ⟨_,_,_,rfl⟩
    obtain⟨y7,y8,y9,rfl⟩:=Kf;refine⟨.tup [.int (i:Int),bx M[i]],_,eO sc (.ref (0+1)) (mW M) (bI S P M).w (.tup ((bB S).map iW)) (aB (.int (i:Int))) (aB (bx M[i])) y7 y8 y9,h5,?_,rfl,?_,⟨_,_,_,_,_,rfl⟩⟩;show aB (((M.map bx)[i]?).map λw=>W.tup [.int i,w])=_;rw[dG,hm];rfl;unfold Jb;exact(bE ((ez (aE rfl)).trans e5)).trans (by rw[exs]))
  (λρ h hI=>by
    show aB (((M.map bx)[S]?).map λw=>W.tup [.int S,w])=_;rw[iY (by rw[bG];lia)];rfl)
  S 0 fuel (eO sc (.ref (0+1)) (mW M) (bI S P M).w (.tup ((bB S).map iW)) aC aC aC aC aC) h2 (i7 _) (show _<1000000 by lia) ⟨_,_,_,_,_,rfl⟩
 obtain⟨x5,x6,x7,x8,x9,rfl⟩:=hI;have eb:exs (run F 29) BW.body [aB sc,aC,aC,aC,aC,aC,aC,aC,aC,aC] ⟨0,0,[]⟩=.ok (.rt (.bl true)) h':=by refine(bE (cA (h1:=h1) (x:=.ref (0+1)) (Cm (aE rfl) e1))).trans ?_;refine(bE (cA (h1:=h2) (x:=mW M) (Cm (aE rfl) e2))).trans ?_;refine(bE (ρ':=eO sc (.ref (0+1)) (mW M) (bI S P M).w (.tup ((bB S).map iW)) aC aC aC aC aC) (h':=h2) ?_).trans ?_;have ec:ev (run F 29) (.call 187 (.cons (.var 2) .nil)) [aB sc,aB (.ref (0+1)),aB (mW M),aC,aC,aC,aC,aC,aC,aC] h2=.ok (.tup [(bI S P M).w,.tup ((bB S).map iW)]) h2:=Cm (aE rfl) e3;show exs (run F 29) (.ye [3,4] _) [aB sc,aB (.ref (0+1)),aB (mW M),aC,aC,aC,aC,aC,aC,aC] h2=_;rw[exs,ec,aD];rfl;refine(bE ((ez (aE rfl)).trans e4)).trans ?_;exact k6 (fS aW)
 show yq (fin ⟨0,0,[]⟩ (exs (run F 29) BW.body [aB sc,aC,aC,aC,aC,aC,aC,aC,aC,aC] ⟨0,0,[]⟩))=true;rw[eb];obtain⟨h9,e9⟩:=Pd (h:=⟨0,0,[]⟩) (h':=h') (w:=.bl true);rw[e9];rfl
end
structure CD(F:Nat->Option Fn):Prop where
 a:fT F
 c:lK F
 y:fR F
 t:kJ F
 sR:F 700=aB BW
theorem Zw{F:Nat->Option Fn}(C:CD F){ns:List Int}(hl:ns.length<=63):yq (run F 30 700 [.fz (ns.map .int)] ⟨0,0,[]⟩)=true:=CB C.a C.c C.y C.t C.sR hl
end RF
namespace HD
open PySem PySem.W PySem.Calls PyProof.Rows
noncomputable section
noncomputable def p:ai:=PySem.Challenge.pw_ballrockers_k53_machine_balls
noncomputable abbrev S(x:String):Str:=Str.ofString x
noncomputable abbrev U(x:String)(t:Tok):aa:=Value.str (S x) t
noncomputable abbrev R(a:ah):aa:=Value.ref a
noncomputable abbrev I(i:Int)(t:Tok):aa:=Value.int i t
noncomputable abbrev E(P:Params)(x:String)(t:Tok)(v:aa):DictEntry:=DictEntry.mk (PyData.keyHash P (S x)) (Value.str (S x) t) v
noncomputable abbrev N(o:Obj)(l r:BT):BT:=BT.node o l r
noncomputable abbrev Z:BT:=BT.nil
noncomputable abbrev L(o:Obj):BT:=BT.node o Z Z
noncomputable abbrev Y(c:String)(d:Data):Obj:=Obj.mk (Value.type c) aC d #[]
noncomputable abbrev X(d:Data):Obj:=Obj.mk Value.none aC d #[]
noncomputable def xq(l:List aq)(i:Nat):aq:=l.getD i (Stmt.Pass ⟨0,0,0,0⟩)
noncomputable def Pf:aq->List aq|.FunctionDef _ _ b _ _ _ _ _ _ _=>b|.ClassDef _ _ _ b _ _ _ _ _ _ _=>b|_=>[]
noncomputable def Pg:aq->Arguments|.FunctionDef _ a _ _ _ _ _ _ _ _=>a|_=>⟨[],[],aC,[],[],aC,[]⟩
noncomputable def Ph:aq->ay|.FunctionDef _ _ _ _ _ _ s _ _ _=>s|_=>p.main.scope
noncomputable def fb(i:Nat):List aq:=Pf (xq p.main.body i)
noncomputable def fa(i:Nat):Arguments:=Pg (xq p.main.body i)
noncomputable def fs(i:Nat):ay:=Ph (xq p.main.body i)
noncomputable def cb(i j:Nat):List aq:=Pf (xq (fb i) j)
noncomputable def ca(i j:Nat):Arguments:=Pg (xq (fb i) j)
noncomputable def cs(i j:Nat):ay:=Ph (xq (fb i) j)
noncomputable abbrev O:aa:=Value.none
noncomputable abbrev J(i:Int):aa:=Value.int i 0
noncomputable abbrev V(t:Tok):aa:=Value.str (S "/claim/cut.py") t
noncomputable abbrev A(l:Array aa):Data:=Data.fields l
noncomputable abbrev B(f:au):Data:=Data.func f
noncomputable abbrev G(x:String)(i:Nat)(g:ah)(c:List (Str×ah))(d k o m:aa)(n:Option ah)(cd ct:aa)(b:ah):au:=FuncData.mk (S x) (S x) (fa i) (FuncBody.stmts (fb i)) (fs i) g c d k o m n cd ct b
section
variable(P:Params)
noncomputable def N0:Nat:=3096
noncomputable def lo:List Str:=[S "MOST_STANDS",S "fallen",S "heading_behind"]
noncomputable def keep:List Nat:=[1,2,3,5,6,7,8,9,11,12,14,15,16,18,19,20,24,25,26,27,28,29,30,31,32,33,34,36,37,38,39,40,41,42]
noncomputable def life:Life:=(Life.mk [] [] [] 0 [] [] false #[] [] 0 false false false 0 [2000,10,10] false 0 true [] [] 0 false)
noncomputable def m0:Nat:=11
noncomputable def ann:Option aa:=(aB (R 6))
noncomputable def env:Env:={scope:=p.main.scope,locals:=mainNs,globals:=mainNs,cells:=[],code:=(R 13),frame:=aB 14}
noncomputable def bd:List aq:=behindTheImports p
noncomputable def cd:Code:=Code.body bd env
noncomputable def fr:List Frame:=[topFrame (Pos.mk 0 0 0 0)]
noncomputable abbrev qC(n:String)(t:Nat)(l k:Int)(r m:Nat):Obj:=Y "code" (A #[U n t,U n (t+1),V (t+2),J l,J k,J 0,J 0,J 3,R r,Value.bool true,J 181,R (r+1),O,R (r+2),R (r+3),R (r+4),J (Int.ofNat m),J l,V (m+1)])
noncomputable abbrev qD(n:String)(t:Nat)(l k:Int)(r m:Nat):Obj:=Y "code" (A #[U n t,U n (t+1),V (t+2),J l,J k,J 0,J 0,J 3,R r,Value.bool true,J 181,R (r+1),O,O,O,R (r+2),J (Int.ofNat m),J l,V (m+1)])
noncomputable def qU:Nat->List String->List aa|_,[]=>[]|t,x::r=>U x t::qU (t+1) r
noncomputable abbrev qT(t:Nat)(l:List String):Obj:=Y "tuple" (Data.seq (qU t l).toArray 0)
noncomputable abbrev qF(n:String)(i:Nat)(u:aa)(r:ah):Obj:=Y "function" (B (G n i 3 [] O O O u aC (R r) O 0))
noncomputable abbrev qG(n:String)(i:Nat):Obj:=X (B (G n i 0 [] O O O O aC O O 0))
noncomputable def qJ:List (Int×Nat)->List aa|[]=>[]|(a,b)::r=>J a::J 0::R b::qJ r
noncomputable def qO:List Obj->List Obj|x::_::r=>x::qO r|x=>x
noncomputable def qE:List Obj->List Obj|_::y::r=>y::qE r|_=>[]
noncomputable def qB:Nat->List Obj->BT|f+1,x::r=>N x (qB f (qO r)) (qB f (qE r))|_,_=>Z
 def a0:=(Y "tuple" (Data.seq #[] 0))
 def a1:=(X (A #[]))
 def a2:=(Y "code" (A #[(U "<module>" 182),(U "<module>" 183),(V 184),(J 1),(J 0),(J 0),(J 0),(J 0),(R 11),(Value.bool false),(J 181),(R 12),O,O,O,O,(J 185),(J 1),(V 186)]))
 def a3:=(Obj.mk (Value.type "frame") aC Data.plain #[(aB (R 13)),(aB (R 3)),(aB (R 3)),aC,(aB (U "__main__" 164)),aC,(aB (R 0))])
 def ha:az:=Heap.mk (Array.mk [(boot_o_0 P),(boot_o_1 P),(boot_o_2 P),(boot_o_3 P),(boot_o_4 P),(boot_o_5 P),(boot_o_6 P),(boot_o_7 P),(boot_o_8 P),(boot_o_9 P),(boot_o_10 P),a0,a1,a2,a3]) (Life.mk [] [] [] 0 [] [] false #[] [] 0 false false false 0 [2000,10,10] false 0 true [] [] 0 false)
noncomputable def sa(w:aj)(os:av):af:=⟨ha w.params,(Array.mk []),(Drawn.mk 0 0 0 0),187,os⟩
theorem CF{w:aj}{n:Nat}{s s':SharedT}{l:List aq}{pos pos':Pos}(h:PySem.W.Fast.tw10110043849684766642 PySem.W.Fast.tw14364793385576792824 p w m0 ann 1 n s (piecesOf l env cd pos fr)=aB (.next,s',cd,pos')) :
 segRun treeTable p w m0 ann 1 n s.abs (piecesOf l env cd pos fr)=aB (.next,s'.abs,cd,pos'):=
 segRun_of (by rw[PySem.W.Fast.te10110043849684766642,Dt];exact h)
theorem CG{w:aj}{n:Nat}{s s':af}{pos:Pos}(h:PySem.W.Fast.tw15667345088766844465 PySem.W.Fast.tw14364793385576792824 p w m0 ann n s (topStub p)=aB (s',⟨PySem.W.Fast.tw11892475500146522536 PySem.W.Fast.tw14364793385576792824 cd,cd,pos,fr⟩)) :
 topGo treeTable p w m0 ann n s (topStub p)=aB (s',⟨denote treeTable cd,cd,pos,fr⟩):=by
 rw[PySem.W.Fast.te15667345088766844465,Dt,PySem.W.Fast.te11892475500146522536];exact h
theorem Zx{w:aj}{n:Nat}{s s':af}{pos pos':Pos}(h:PySem.W.Fast.tw14374325043358763698 PySem.W.Fast.tw14364793385576792824 p w m0 ann 1 n s (blockOf bd env cd pos fr)=aB (.next,s',cd,pos')) :
 segRun treeTable p w m0 ann 1 n s (blockOf bd env cd pos fr)=aB (.next,s',cd,pos'):=by
 rw[PySem.W.Fast.te14374325043358763698,Dt];exact h
theorem CH{w:aj}{n:Nat}{s s':af}{pos:Pos}(h:PySem.W.Fast.tw14082659384304107361 PySem.W.Fast.tw14364793385576792824 p w m0 ann n s ⟨doneF .next,cd,pos,fr⟩=aB s') :
 topRun treeTable p w m0 ann n s ⟨doneF .next,cd,pos,fr⟩=aB s':=by
 rw[PySem.W.Fast.te14082659384304107361,Dt];exact h
set_option maxHeartbeats 0 in
theorem pre(w:aj)(os:av):topGo treeTable p w m0 ann 12 ⟨boot_heap w.params,Array.mk [],boot_drawn,boot_toks,os⟩ (topStub p)=aB (sa w os,⟨denote treeTable cd,cd,(Pos.mk 0 0 0 0),fr⟩):=CG (by kernel_rfl)
 def Pj:List Obj:=[(boot_o_0 P),(boot_o_1 P),(boot_o_2 P),(boot_o_3 P),(boot_o_4 P),(boot_o_5 P),(boot_o_6 P),(boot_o_7 P),(boot_o_8 P),(boot_o_9 P),(boot_o_10 P),a0,a1,a2,a3]
 def tb:=qB 20 (Pj P)
noncomputable def sb(w:aj)(os:av):SharedT:=⟨tb w.params,15,life,(Array.mk []),(Drawn.mk 0 0 0 0),187,os⟩
set_option maxHeartbeats 0 in
theorem block(w:aj)(os:av):segRun treeTable p w m0 ann 1 1 (sa w os) (blockOf bd env cd (Pos.mk 0 0 0 0) fr)=aB (.next,(sb w os).abs,cd,(Pos.mk 0 0 0 0)):=Zx (by kernel_rfl)
 def Zy:=[(E P "__doc__" 166 O),(E P "__package__" 167 O),(E P "__loader__" 168 (Value.builtin "__main__.__loader__#opaque")),(E P "__spec__" 169 O),(E P "__annotations__" 170 (R 6)),(E P "__builtins__" 171 (R 4)),(E P "__file__" 173 (V 172)),(E P "__cached__" 174 O),(E P "BoardError" 206 (R 24)),(E P "NoNumber" 222 (R 37)),(E P "NoMachine" 238 (R 49)),(E P "is_whole" 247 (R 58)),(E P "is_whole_within" 256 (R 65)),(E P "is_tuple_within" 265 (R 72)),(E P "MOST_FEEDERS" 267 (I 4 266)),(E P "MOST_NAME" 269 (I 99 268)),(E P "MOST_STANDS" 275 (I 1000000000 274)),(E P "least_groups" 285 (R 79)),(E P "row_of" 293 (R 84)),(E P "turning_rows" 299 (R 89)),(E P "binary" 309 (R 96)),(E P "LEFT" 314 (I (-1) 313)),(E P "STRAIGHT" 316 (I 0 315)),(E P "RIGHT" 318 (I 1 317)),(E P "fallen" 335 (R 104)),(E P "heading_behind" 348 (R 112)),(E P "MOST_STATES" 352 (I 16 351)),(E P "MOST_TOGETHER" 354 (I 16 353)),(E P "PLAIN_DOOR" 357 (R 113)),(E P "machine_board" 363 (R 118)),(E P "is_machine" 369 (R 123)),(E P "is_state" 375 (R 128)),(E P "is_pair" 385 (R 135)),(E P "parting_board" 391 (R 140)),(E P "forks_of" 397 (R 145)),(E P "joined_columns" 403 (R 150)),(E P "fork_rows" 409 (R 155)),(E P "_law_cell" 419 (R 162)),(E P "_law_mixed" 429 (R 169)),(E P "_law_deck" 435 (R 174)),(E P "_law_take" 444 (R 181)),(E P "_law_machine" 450 (R 186)),(E P "_law_fall" 463 (R 193)),(E P "law" 479 (R 200))]
 def a4:=Y "dict" (Data.dict ((E P "__name__" 165 (U "law_ballrockers_k53_machine_balls" 410))::Zy P).toArray 45)
 def Zz:List (Int×Nat):=[(2,20),(4,33),(6,45),(9,57),(11,64),(13,71),(19,78),(29,83),(31,88),(33,95),(43,103),(59,111),(77,117),(96,122),(102,127),(104,134),(109,139),(120,144),(122,149),(124,154),(132,161),(136,168),(139,173),(141,180),(150,185),(160,192),(175,199)]
 def a5:=X (A (qJ Zz).toArray)
 def a6:=(Y "tuple" (Data.seq #[(Value.type "ValueError")] 0))
 def a7:=(Y "builtin_function_or_method" (A #[(Value.builtin "type.__prepare__"),(Value.type "type")]))
 def a8:=(Y "dict" (Data.dict #[(E P "__module__" 196 (U "ballrockers.errors" 187)),(E P "__qualname__" 198 (U "BoardError" 197)),(E P "__firstlineno__" 200 (I 2 199)),(E P "__static_attributes__" 201 (R 22))] 4))
 def a9:=(Y "code" (A #[(U "BoardError" 191),(U "BoardError" 192),(V 193),(J 2),(J 0),(J 0),(J 0),(J 0),(R 18),(Value.bool false),(J 181),(R 19),O,O,O,O,(J 194),(J 2),(V 195)]))
 def IM:=(Obj.mk (Value.type "frame") aC Data.plain #[(aB (R 20)),(aB (R 3)),(aB (R 17)),aC,(aB (U "ballrockers.errors" 187)),aC,(aB (R 0))])
 def ZC:=(Y "dict" (Data.dict #[(E P "__module__" 196 (U "ballrockers.errors" 187)),(E P "__firstlineno__" 200 (I 2 199)),(E P "__static_attributes__" 201 (R 22)),(E P "__weakref__" 203 (R 25)),(E P "__doc__" 204 O)] 3))
 def ZD:=(Obj.mk (Value.type "type") aC (Data.cls (ClassData.mk (S "BoardError") [(Value.type "ValueError")] [(R 24),(Value.type "ValueError"),(Value.type "Exception"),(Value.type "BaseException"),(Value.type "object")] 23 (S "BoardError") true [] [(R 37),(R 49)] false aC false)) #[(aB (R 15)),aC,(aB (U "BoardError" 189)),(aB (U "BoardError" 197)),(aB (Value.builtin "ValueError.__new__")),(aB (Value.bool true))])
 def ZE:=(Y "getset_descriptor" (A #[(U "__weakref__" 202),(R 24),(Value.builtin "ExceptionGroup.__weakref__"),O]))
 def ZF:=(Y "super" (A #[(R 24),(R 24),(R 24)]))
 def ZG:=(Y "builtin_function_or_method" (A #[(Value.builtin "object.__init_subclass__"),(R 24)]))
 def Pk:=(Y "tuple" (Data.seq #[(R 24)] 0))
 def ZH:=(Y "dict" (Data.dict #[(E P "__module__" 214 (U "ballrockers.errors" 187)),(E P "__qualname__" 216 (U "NoNumber" 215)),(E P "__firstlineno__" 218 (I 4 217)),(E P "__static_attributes__" 219 (R 35))] 4))
 def ZJ:=(Y "code" (A #[(U "NoNumber" 209),(U "NoNumber" 210),(V 211),(J 4),(J 0),(J 0),(J 0),(J 0),(R 31),(Value.bool false),(J 181),(R 32),O,O,O,O,(J 212),(J 4),(V 213)]))
 def ZK:=(Obj.mk (Value.type "frame") aC Data.plain #[(aB (R 33)),(aB (R 3)),(aB (R 30)),aC,(aB (U "ballrockers.errors" 187)),aC,(aB (R 0))])
 def ZL:=(Y "dict" (Data.dict #[(E P "__module__" 214 (U "ballrockers.errors" 187)),(E P "__firstlineno__" 218 (I 4 217)),(E P "__static_attributes__" 219 (R 35)),(E P "__doc__" 220 O)] 2))
 def ZM:=(Obj.mk (Value.type "type") aC (Data.cls (ClassData.mk (S "NoNumber") [(R 24)] [(R 37),(R 24),(Value.type "ValueError"),(Value.type "Exception"),(Value.type "BaseException"),(Value.type "object")] 36 (S "NoNumber") true [] [] false aC false)) #[(aB (R 28)),aC,(aB (U "NoNumber" 207)),(aB (U "NoNumber" 215)),(aB (Value.builtin "ValueError.__new__")),(aB (Value.bool true))])
 def ZN:=(Y "super" (A #[(R 37),(R 37),(R 37)]))
 def ZO:=(Y "builtin_function_or_method" (A #[(Value.builtin "object.__init_subclass__"),(R 37)]))
 def ZP:=(Y "dict" (Data.dict #[(E P "__module__" 230 (U "ballrockers.errors" 187)),(E P "__qualname__" 232 (U "NoMachine" 231)),(E P "__firstlineno__" 234 (I 6 233)),(E P "__static_attributes__" 235 (R 47))] 4))
 def ZQ:=(Y "code" (A #[(U "NoMachine" 225),(U "NoMachine" 226),(V 227),(J 6),(J 0),(J 0),(J 0),(J 0),(R 43),(Value.bool false),(J 181),(R 44),O,O,O,O,(J 228),(J 6),(V 229)]))
 def ZR:=(Obj.mk (Value.type "frame") aC Data.plain #[(aB (R 45)),(aB (R 3)),(aB (R 42)),aC,(aB (U "ballrockers.errors" 187)),aC,(aB (R 0))])
 def ZT:=(Y "dict" (Data.dict #[(E P "__module__" 230 (U "ballrockers.errors" 187)),(E P "__firstlineno__" 234 (I 6 233)),(E P "__static_attributes__" 235 (R 47)),(E P "__doc__" 236 O)] 2))
 def ZU:=(Obj.mk (Value.type "type") aC (Data.cls (ClassData.mk (S "NoMachine") [(R 24)] [(R 49),(R 24),(Value.type "ValueError"),(Value.type "Exception"),(Value.type "BaseException"),(Value.type "object")] 48 (S "NoMachine") true [] [] false aC false)) #[(aB (R 40)),aC,(aB (U "NoMachine" 223)),(aB (U "NoMachine" 231)),(aB (Value.builtin "ValueError.__new__")),(aB (Value.bool true))])
 def ZV:=(Y "super" (A #[(R 49),(R 49),(R 49)]))
 def ZW:=(Y "builtin_function_or_method" (A #[(Value.builtin "object.__init_subclass__"),(R 49)]))
 def ZX:=qT 244 ["thing"]
 def a32:=qG "is_whole" 5
 def ZY:=qC "is_whole" 241 9 1 52 245
 def xr:=U "ballrockers.whole" 239
 def ZZ:=qF "is_whole" 5 xr 57
 def Z0:=qT 251 ["thing","low","high"]
 def Z1:=qG "is_whole_within" 6
 def Z2:=qC "is_whole_within" 248 11 3 59 254
 def Z3:=qF "is_whole_within" 6 xr 64
 def Z4:=qT 260 ["thing","fewest","most"]
 def Z5:=qG "is_tuple_within" 7
 def Z6:=qC "is_tuple_within" 257 13 3 66 263
 def Z7:=qF "is_tuple_within" 7 xr 71
 def Z8:=qT 279 ["stands","feeders","groups","reached"]
 def Z9:=qG "least_groups" 12
 def a45:=qC "least_groups" 276 19 2 73 283
 def a46:=qF "least_groups" 12 (U "ballrockers.groups" 270) 78
 def a47:=qG "row_of" 14
 def a48:=qD "row_of" 288 29 2 80 291
 def xu:=U "ballrockers.making" 286
 def a49:=qF "row_of" 14 xu 83
 def a50:=qG "turning_rows" 15
 def a51:=qD "turning_rows" 294 31 2 85 297
 def a52:=qF "turning_rows" 15 xu 88
 def a53:=qT 303 ["number","size","found","at"]
 def a54:=qG "binary" 16
 def a55:=qC "binary" 300 33 2 90 307
 def a56:=qF "binary" 16 xu 95
 def Pn:=(Y "tuple" (Data.seq #[O] 0))
 def a58:=qT 322 ["board","leans","feeder","fault","column","columns","turned","leaning","heading","places","piece"]
 def a59:=qG "fallen" 21
 def a60:=qC "fallen" 319 43 4 98 333
 def a61:=(Y "function" (B (G "fallen" 21 3 [] (R 97) O O (U "ballrockers.ways" 310) aC (R 103) O 0)))
 def a62:=qT 339 ["piece","heading","leaning","fault","group","side","lean"]
 def a63:=qG "heading_behind" 22
 def a64:=qC "heading_behind" 336 59 4 106 346
 def a65:=(Y "function" (B (G "heading_behind" 22 3 [] (R 105) O O (U "ballrockers.ways" 310) aC (R 111) O 0)))
 def a66:=(Y "tuple" (Data.seq #[(I 0 355),(I 0 356)] 0))
 def a67:=qG "machine_board" 27
 def a68:=qD "machine_board" 358 77 1 114 361
 def kN:=U "ballrockers.machines" 349
 def a69:=qF "machine_board" 27 kN 117
 def a70:=qG "is_machine" 28
 def a71:=qD "is_machine" 364 96 1 119 367
 def a72:=qF "is_machine" 28 kN 122
 def a73:=qG "is_state" 29
 def a74:=qD "is_state" 370 102 3 124 373
 def a75:=qF "is_state" 29 kN 127
 def a76:=qT 379 ["thing","states","name","following"]
 def a77:=qG "is_pair" 30
 def a78:=qC "is_pair" 376 104 2 129 383
 def a79:=qF "is_pair" 30 kN 134
 def a80:=qG "parting_board" 31
 def a81:=qD "parting_board" 386 109 2 136 389
 def a82:=qF "parting_board" 31 kN 139
 def a83:=qG "forks_of" 32
 def a84:=qD "forks_of" 392 120 1 141 395
 def a85:=qF "forks_of" 32 kN 144
 def a86:=qG "joined_columns" 33
 def a87:=qD "joined_columns" 398 122 2 146 401
 def a88:=qF "joined_columns" 33 kN 149
 def a89:=qG "fork_rows" 34
 def a90:=qD "fork_rows" 404 124 3 151 407
 def a91:=qF "fork_rows" 34 kN 154
 def a92:=qT 415 ["_law_script","_law_k"]
 def a93:=qG "_law_cell" 36
 def a94:=qC "_law_cell" 412 132 2 156 417
 def lO:=U "law_ballrockers_k53_machine_balls" 410
 def a95:=qF "_law_cell" 36 lO 161
 def a96:=qT 423 ["_law_script","_law_k","_law_many","_law_number"]
 def a97:=qG "_law_mixed" 37
 def a98:=qC "_law_mixed" 420 136 3 163 427
 def a99:=qF "_law_mixed" 37 lO 168
 def Kl:=qG "_law_deck" 38
 def Km:=qD "_law_deck" 430 139 1 170 433
 def Ko:=qF "_law_deck" 38 lO 173
 def Kp:=qT 439 ["_law_deck_here","_law_many","_law_cell_here"]
 def Kq:=qG "_law_take" 39
 def Kr:=qC "_law_take" 436 141 2 175 442
 def Ks:=qF "_law_take" 39 lO 180
 def Ku:=qG "_law_machine" 40
 def Kw:=qD "_law_machine" 445 150 1 182 448
 def Ky:=qF "_law_machine" 40 lO 185
 def Kz:=qT 454 ["_law_board","_law_leans","_law_feeder","_law_column","_law_came","_law_row","_law_piece"]
 def KA:=qG "_law_fall" 41
 def KC:=qC "_law_fall" 451 160 3 187 461
 def KD:=qF "_law_fall" 41 lO 192
 def KG:=qT 467 ["_law_script","_law_deck_here","_law_machine_here","_law_board","_law_states","_law_state","_law_pairs","_law_feeder","_law_pair","_law_fallen"]
 def KH:=qG "law" 42
 def KI:=qC "law" 464 175 1 194 477
 def KJ:=qF "law" 42 lO 199
 def KL:List Obj:=((Pj P).set 3 (a4 P)).set 12 a5++[a6,a7,(a8 P),a0,a1,a9,IM,a0,(ZC P),ZD,ZE,ZF,ZG,Pk,a7,(ZH P),a0,a1,ZJ,ZK,a0,(ZL P),ZM,ZN,ZO,Pk,a7,(ZP P),a0,a1,ZQ,ZR,a0,(ZT P),ZU,ZV,ZW,a0,a1,ZX,a0,a32,ZY,ZZ,a0,a1,Z0,a0,Z1,Z2,Z3,a0,a1,Z4,a0,Z5,Z6,Z7,a0,a1,Z8,a0,Z9,a45,a46,a0,a1,a47,a48,a49,a0,a1,a50,a51,a52,a0,a1,a53,a0,a54,a55,a56,Pn,a0,a1,a58,a0,a59,a60,a61,Pn,a0,a1,a62,a0,a63,a64,a65,a66,a0,a1,a67,a68,a69,a0,a1,a70,a71,a72,a0,a1,a73,a74,a75,a0,a1,a76,a0,a77,a78,a79,a0,a1,a80,a81,a82,a0,a1,a83,a84,a85,a0,a1,a86,a87,a88,a0,a1,a89,a90,a91,a0,a1,a92,a0,a93,a94,a95,a0,a1,a96,a0,a97,a98,a99,a0,a1,Kl,Km,Ko,a0,a1,Kp,a0,Kq,Kr,Ks,a0,a1,Ku,Kw,Ky,a0,a1,Kz,a0,KA,KC,KD,a0,a1,KG,a0,KH,KI,KJ]
 def t0:=qB 20 (KL P)
noncomputable def s0(w:aj)(os:av):SharedT:=⟨t0 w.params,201,life,(Array.mk []),(Drawn.mk 0 0 0 0),480,os⟩
noncomputable def i9:List aq:=(bd.drop 0).take 43
set_option maxHeartbeats 0 in
theorem KN(w:aj)(os:av):segRun treeTable p w m0 ann 1 1486 (sb w os).abs (piecesOf i9 env cd (Pos.mk 0 0 0 0) fr)=aB (.next,(s0 w os).abs,cd,(Pos.mk 175 0 184 15)):=CF (by kernel_rfl)
 def hz:az:=Heap.mk (Array.mk (KL P)) (Life.mk [] [] [] 0 [] [] false #[] [] 0 false false false 0 [2000,10,10] false 0 true [] [] 0 false)
noncomputable def sz(w:aj)(os:av):af:=⟨hz w.params,(Array.mk []),(Drawn.mk 0 0 0 0),480,os⟩
set_option maxHeartbeats 0 in
theorem fin(w:aj)(os:av):topRun treeTable p w m0 ann 2 (s0 w os).abs ⟨doneF .next,cd,(Pos.mk 175 0 184 15),fr⟩=aB (sz w os):=CH (by kernel_rfl)
 def as:List ah:=[2,3,15,22,23,24,25,28,35,36,37,40,47,48,49,52,54,55,57,58,59,61,62,64,65,66,68,69,71,72,73,75,76,78,79,80,83,84,85,88,89,90,92,93,95,96,97,98,100,101,103,104,105,106,108,109,111,112,113,114,117,118,119,122,123,124,127,128,129,131,132,134,135,136,139,140,141,144,145,146,149,150,151,154,155,156,158,159,161,162,163,165,166,168,169,170,173,174,175,177,178,180,181,182,185,186,187,189,190,192,193,194,196,197,199,200]
 def K:Frag:=as.map λi=>(i,(KL P).getD i a0)
noncomputable def M0:Nat:=(12+ (1+ (1486+2)))
theorem CI:bd=i9++([]):=by kernel_rfl
theorem rest(w:aj)(os:av):topRun treeTable p w m0 ann (1486+ (2)) (sb w os).abs (restOf bd env cd (Pos.mk 0 0 0 0) fr)=aB (sz w os):=by rw[show restOf bd env cd (Pos.mk 0 0 0 0) fr=restOf (i9++([])) env cd (Pos.mk 0 0 0 0) fr from lP (λb=>restOf b env cd (Pos.mk 0 0 0 0) fr) CI];exact(piece_app (KN w os) (piece_nil (fin w os)))
theorem run(w:aj)(os:av):topRun treeTable p w m0 ann M0 ⟨boot_heap w.params,Array.mk [],boot_drawn,boot_toks,os⟩ (topStub p)=aB (sz w os):=
 go_top (pre w os) (piece_block (block w os) (rest w os))
noncomputable def pO:Nat:=42
noncomputable def zzd:Pos:=(Pos.mk 175 0 184 15)
noncomputable def q:ai:={p with main:={p.main with body:=keep.map (xq p.main.body)}}
theorem CJ:∀P,as=(K P).map (·.1):=λ_=>by kernel_rfl
noncomputable def H:Hook:=kHook K as CJ
noncomputable def Xt(s:af):Bool:=xlAt q [] s&&recOk [] s
theorem zze(w:aj)(os:av):(staticsOk (importedModules p.main.body) (boot_heap w.params) (hz w.params)&&namesBound p (hz w.params)&&gensDone (sz w os)&&laidKept (boot_heap w.params) (hz w.params))=true:=by rw[PySem.W.Fast.te5923862056798008813];kernel_rfl
theorem zzf(w:aj)(os:av):seen ((recsOf q).map (·.name)) (ownsOf q) [] {sz w os with gens:=#[]}=expectedOf q:=by rw[PySem.W.Fast.te5160383126252970620,PySem.W.R.mapR_eq,PySem.W.Fast.te3399658132070893891,PySem.W.Fast.te5991557255702980513];kernel_rfl
theorem CL(w:aj)(os:av):(sz w os).heap.bltView=bltViewBooted:=by kernel_rfl
theorem zzg(w:aj)(os:av):((sz w os).heap.keysOk (looseW q lo) ((recsOf q).map (·.name)) ((litsOf q).map (·.1)) ((clssOf q (looseW q lo)).map (·.name))&& (sz w os).heap.accountedOkI (importedModules p.main.body)&& (sz w os).heap.isNs mainGlobals&& (sz w os).heap.isNs builtinsNs&&tablesOk q (sz w os).heap&&Xt (sz w os)&& (if true=true then(sz w os).gens.size==0 else !leftWithCleanup (sz w os).gens))=true:=by rw[PySem.W.Fast.te10880121769531294198,PySem.W.Fast.te821141287760084731,PySem.W.R.mapR_eq,PySem.W.Fast.te3399658132070893891,PySem.W.Fast.te7409074990110511671,PySem.W.Fast.te13664370479719496447,PySem.W.Fast.te14722251495701143533,PySem.W.Fast.te10994771534591457954,PySem.W.Fast.te5923862056798008813];kernel_rfl
theorem zzh(w:aj)(os:av):tabsOk q (sz w os)=true:=by rw[PySem.W.Fast.te479339242167458305];kernel_rfl
theorem CM(w:aj)(os:av):pinSeenD q (drecsOf q) (sz w os)=pinGoodD (drecsOf q):=by rw[PySem.W.Fast.te16090120013241838585,PySem.W.Fast.te3247288618530077131];kernel_rfl
theorem CN(w:aj)(os:av):plainSeenE q (looseW q lo) (sz w os)=plainGoodE q (looseW q lo):=by rw[PySem.W.Fast.te2386780881361962483,PySem.W.Fast.te821141287760084731];kernel_rfl
theorem CO(w:aj)(os:av):plainSeenD q lo (sz w os)=plainGoodD q lo:=by rw[PySem.W.Fast.te11698064438423848299];kernel_rfl
theorem zzi(w:aj)(os:av):wideSeen q (sz w os)=wideGood q:=by rw[PySem.W.Fast.te7317090234206586261];kernel_rfl
theorem CP(w:aj)(os:av):clsSeenW q lo (sz w os)=clsGoodW q lo:=by rw[PySem.W.Fast.te7369524293546568484];kernel_rfl
theorem zzj(w:aj)(os:av):as.map (sz w os).heap.get?=(K w.params).map λp=>aB p.2:=by kernel_rfl
theorem left:LeftO p q lo Xt (Hook.obs H) (Hook.val H) N0 true:=
 LeftO.of_pieces (H₀:=boot_heap) (H₁:=hz) (boot_open (by kernel_rfl) (by kernel_rfl) (λs=>by kernel_rfl)) (λw=>by kernel_rfl) run (by kernel_rfl)
  (λw=>funext λos=>looks_pair (zze w os) (looks_pair
    (looks_pair (zzf w os) (looks_pair (CL w os) (looks_pair (zzg w os) (looks_pair (zzh w os) (looks_pair (CM w os) (looks_pair (CN w os) (looks_pair (CO w os) (looks_pair (zzi w os) (CP w os)))))))))
    (zzj w os)))
noncomputable def df:DefRec:=⟨S "law",fa pO,fb pO,fs pO,zzd⟩
theorem CQ:defOf q (S "law")=aB (df,[]):=by kernel_rfl
theorem holds(l:OpenLaw)(hp:l.prog=p)(hn:l.name=S "law")(ok:l.wellSaid)(hch:(chainsOk q&&opensWell p&& (frees l.row.toRowW&&l.row.within.isEmpty)))(hb:l.row.toRowW.prog.bare)(hw:l.row.toRowW.promised)
 (hwr:(!l.row.writes||l.row.records.isEmpty)) (hk:p.theDef (S "law")=aB (df.params,df.body,df.scope)) (hkw:kwWritten? df.params.kwonlyargs df.params.kw_defaults=aB [])
 (call:WalkO q lo (XL q []) (Hook.says H) l.row.toRowW df [] λf vs=>PySem.call f vs):l.Holds:=
 holds_law ok λsaid=>PySem.W.holds_open (q:=q) (loose:=lo) (Xt:=Xt) (XP:=XL q []) (Yf:=Hook.obs H) (Ya:=Hook.val H) (YP:=Hook.says H) (N:=N0) (r:=l.row) (by have h:l.row.toRowW.prog=p:=hp;show LeftO l.row.toRowW.prog q lo Xt (Hook.obs H) (Hook.val H) N0 true;rw[h];exact left) (Hook.of H) (Hook.keeps H) (λs e=>xl_of s (Bool.and_eq_true_iff.mp e).1) XL.keeps
  (by show defOf q l.name=_;rw[hn];exact CQ) (by show l.prog.theDef l.name=_;rw[hp,hn];exact hk) hkw (λs e=>recFacts_of (Bool.and_eq_true_iff.mp e).2) hwr said (by have h:l.row.toRowW.prog=p:=hp;rw[h];exact hch) hb hw call
end
end
end HD
namespace RF
noncomputable def Po:List PySem.Str:=(["is_whole","is_whole_within","_law_cell","_law_deck","_law_mixed","_law_take","is_tuple_within"]++bV 25 "" ++ ["least_groups","row_of"]++bV 2 "" ++ ["turning_rows"]++bV 4 "" ++ ["binary"]++bV 25 "" ++ ["fork_rows","forks_of","is_machine","is_pair","is_state","joined_columns"]++bV 4 "" ++ ["parting_board"]++bV 35 "" ++ ["_law_machine"]++bV 33 "" ++ ["_law_fall"]++bV 25 "" ++ ["heading_behind","fallen"]++bV 12 "" ++ ["machine_board"]++bV 512 "" ++ ["law"]).map cj
noncomputable def Pp:List Fn:=[EN,IP,EO,BO,IQ,rQ,BQ]++bV 25 jk++[wz,rR]++bV 2 jk++[wA]++bV 4 jk++[rS]++bV 25 jk++[wB,wC,rT,rV,rW,wD]++bV 4 jk++[rY]++bV 35 jk++[pF]++bV 33 jk++[pG]++bV 25 jk++[eL,mw]++bV 12 jk++[mz]++bV 512 jk++[BW]
theorem c53:CD λi=>Pp[i]?:=by repeat' (first|rfl|constructor)
end RF
set_option maxHeartbeats 0 in
theorem RF.KO(P:PySem.Params):RF.jA (HD.K P) RF.Po 60 60=aB RF.Pp:=by kernel_rfl
open PySem PySem.W PyProof.Rows
set_option maxRecDepth 100000 in
set_option maxHeartbeats 0 in
theorem PySem.Challenge.cw_ballrockers_k53_machine_balls_holds : PySem.Challenge.rw_ballrockers_k53_machine_balls.Holds := by
 refine HD.holds _ rfl rfl RF.pa53 (by kernel_rfl) ⟨rfl,rfl,rfl,rfl,rfl,by decide +kernel⟩ ?hw rfl (by kernel_rfl) (by kernel_rfl) ?call
 (case hw=>w_witness2)
 refine RF.W7 RF.Po 60 60 30 700 rfl (by kernel_rfl) ⟨rfl,by decide,by decide⟩ (λw h Y=>PySem.W.kIn_of Y) (by kernel_rfl) (by decide +kernel) ?b ?c
 (case c=>intro w;kernel_rfl)
 (case b=>
   intro w ns hl
   exact RF.W6 (RF.KO _) (RF.Zw RF.c53 hl))
