import PyProof.Rows.All
import Wide.All
import OpenK.AllK
import Wide.FinOn
import Lean
import PyProof.EqAt
import PyProof.EqKinds
import PyProof.TupleCall
import KE.KUnpack
import PySem.Challenge.RW_ballrockers_k07_told
set_option Elab.async false
set_option linter.all false
set_option genSizeOf false
set_option bootstrap.genMatcherCode false
set_option compiler.extract_closed false
set_option maxRecDepth 100000
set_option maxHeartbeats 0 in
theorem RF.pa07:PySem.Challenge.rw_ballrockers_k07_told.wellSaid=true:=by kernel_rfl
def gH:=@decide_eq_true_eq
def bX:=@if_true
def dg:=@if_false
def jP:=@decide_eq_false
def k7:=@of_decide_eq_true
def zb:=@decide_eq_false_iff_not
def jY:=@beq_iff_eq
def wG:=@beq_eq_false_iff_ne
def uG:=@decide_eq_true
def k8:=@congrArg
def wH:=@decide_true
def wI:=@eq_iff_iff
def wJ:=@iff_false
def wK:=@or_false
open PySem renaming wpAny_bind->aK,wpAny_pure->br,wpAny_mono->iF,wpAny_standAt->kT,wpAny_truthy_bool->oH,wpAny_field->jy,wpAny_holding->mh,wpAny_loadPart_at->qP,wpAny_Call_Name_kw->rQ,wpAny_callSpecial?_slot->zc,wpAny_call_entry->rR,wpAny_newObj_type->uH,wpAny_isSubtype_exc->vcs,wpAny_seqItems->qQ,wpAny_pyIter_tuple->wL,wpAny_setField_rec->zd,wpAny_passesOwn->wM,wpAny_pyIter_list->ze,mem_of_lookup->Az,wpAny_execs_nil->zf,sizeLine_eq->rS,codeAny_mono->uI,wpAny_specialOf->zg,wpAny_call->qS,call_meets->uJ,wpAny_setField->AA,wpAny_isInstance->E5,wpAny_forIn_list->E6,wpAny_loadPart->E7,wpAny_rule->zh,wpAny_attempt->E8,wpAny_onRaise->E9,wpAny_of_eq->Fb
open PySem renaming Value->aa,Shared->af,Addr->ah,Program->ai,World->aj,Around->ak,Expr->ao,Stmt->aq,FuncData->au,OsState->av,Scope->ay,Heap->az,PyData->aA
open Option renaming some->aB,none->aC
open PySem.W renaming Frag->aI
open PySem.Str renaming ofString->bf
open List renaming replicate->bI
open Bool renaming and_eq_true->aY,false_eq_true->eT,false_ne_true->iZ,not_true->k9,and_eq_false_iff->wN,false_and->qV,or_eq_true->rT,eq_iff_iff->AB,not_eq_true'->Fc,not_false->vec,and_true->AD,true_and->AE,and_self->Fd,or_true->Fe
open PySem.Heap renaming get?_push_of_some->cu,lt_size->cF,get?_push_size->i6,size_push->mj,get?_update_other->wO,get?_update_self->zj
open Nat renaming le_refl->bq,lt_of_lt_of_le->ff,ne_of_lt->fj,le_trans->fS,le_of_ble_eq_true->kU,lt_succ_self->lg,zero_le->i8,ne_of_gt->kW,eq_of_beq_eq_true->uK,lt_of_le_of_lt->rV,lt_irrefl->nq,not_lt->jQ,le_succ->oq,le_add_right->zk,add_le_add_left->Ff,le_of_lt->wQ,ble_eq->rW,lt_succ_of_lt->Fg,le_of_eq->Fi
open List renaming length_map->bV,mem_cons_of_mem->eU,length_cons->dh,mem_cons_self->fy,map_cons->cP,size_toArray->fL,length_append->gh,getElem?_cons_succ->i9,getElem?_eq_some_iff->jR,getElem?_cons_zero->jz,getElem?_eq_getElem->jS,length_singleton->jA,lookup_cons->ig,mem_cons->gq,set_cons_zero->jT,append_nil->i7,getElem?_append_right->oJ,set_cons_succ->kX,all_eq_true->jZ,replicate_succ->nt,mem_append_right->oK,getElem?_eq_none_iff->rY,getElem?_set_self->qW,getElem?_map->nu,find?_cons->lq,all_cons->j0,zip_cons_cons->rZ,mem_map->lu,getElem?_append_left->zl,cons_append->qX,length_nil->qY,map_append->qZ,getElem?_set_ne->wR,filterMap_cons->wU,flatten_cons->uL,singleton_append->zm,mem_of_getElem?->zo,nil_append->uM,length_drop->wV,not_mem_nil->wW,length_replicate->AG,mem_singleton->zp,mem_append->wX,append_assoc->zq,length_take->zu,getElem_mem->zw,forIn_nil->wY,length_set->zx,map_nil->uN,forIn_cons->zy,set_append_right->Fj,nodup_cons->AH,of_mem_zip->Fo,mem_range->Fp,drop_zero->Fq,any_cons->Ft
open Option renaming map_some->gR,join_some->ja,bind_some->zz
open Int renaming eq_ofNat_of_zero_le->ly,toNat_natCast->rj,emod_lt_of_pos->Fv,emod_nonneg->Fw,ofNat_le->AI
open PySem.AutoSeq1 renaming wpAny_loadPart'->oM
open Option.some renaming inj->lz
open PySem.W renaming kia_one->mq,callWith_K->zA,mg_of->AJ
open PyProof.Rows renaming slot_tuple_getitem->zB,callWith_type1->Fx
open Ne renaming symm->dU
open Array renaming getElem?_eq_some_iff->zC,length_toList->Fy
open PySem.W.Fast renaming te14364793385576792824->FA
open PySem.F renaming slot_tuple_iterator_next->FD,slot_NoneType_hash->FF,slot_tuple_mul->AK,slot_tuple_hash->FG,slot_zip_next->FH,slot_tuple_eq->FI
open PySem.SeqAt renaming canLay_of_shaped->FJ
open PySem.Code renaming quiet_builtin->FL
open PySem.Paired renaming length->AL
open LawfulMonad renaming pure_bind->zD
namespace L2
theorem aR(h:True:=by rfl):True:=h
theorem aD(h:True:=by decide):True:=h
theorem aF(h:True:=by first|exact .inl rfl|exact .inr rfl|assumption):True:=h
end L2
namespace L2
open PySem PySem.Spec PyProof.Rows
noncomputable abbrev Key:=Sum Int Str
noncomputable def jj:Key->aa->Bool|.inl k,v=>Value.isInt k v|.inr x,v=>Value.isStrOf x v
noncomputable def Hz(w:aj):Key->Int|.inl k=>hashInt k|.inr x=>hashStr w x
theorem r9:∀{k:Key} {v:aa},jj k v=true->(∃i t,k=Sum.inl i/\v=Value.int i t)\/(∃x t,k=Sum.inr x/\v=Value.str x t)
 |.inl i,v,h=>by
  obtain⟨t,e⟩:=Value.isInt_shape (k:=i) (v:=v) h;exact .inl ⟨i,t,rfl,e⟩
 |.inr x,v,h=>by
  obtain⟨t,e⟩:=Value.isStrOf_shape (x:=x) (v:=v) h;exact .inr ⟨x,t,rfl,e⟩
theorem SO(i:Int)(t:Tok):jj (.inl i) (.int i t)=true:=by simp[jj,Value.isInt]
theorem SV(x:Str)(t:Tok):jj (.inr x) (.str x t)=true:=by simp[jj,Value.isStrOf]
theorem SY(a b:Int):decide ((Sum.inl a:Key)=Sum.inl b)=(a==b):=by
 by_cases e:a=b;subst e;simp;have h:¬(Sum.inl a:Key)=Sum.inl b:=λq=>e (Sum.inl.inj q);rw[jP h];exact(wG.mpr e).symm
theorem S0(a b:Str):decide ((Sum.inr a:Key)=Sum.inr b)=decide (a=b):=by
 by_cases e:a=b;subst e;simp;have h:¬(Sum.inr a:Key)=Sum.inr b:=λq=>e (Sum.inr.inj q);rw[jP h,jP e]
theorem S3(a:Int)(b:Str):decide ((Sum.inl a:Key)=Sum.inr b)=false:=jP (λq=>nomatch q)
theorem S4(a:Str)(b:Int):decide ((Sum.inr a:Key)=Sum.inl b)=false:=jP (λq=>nomatch q)
noncomputable def lA(prog:ai)(w:aj):PySem.KeyKind prog w Key where
 is:=jj
 hash:=Hz w
 inj:=λv a b ha hb=>by
  rcases r9 ha with⟨i,t,rfl,rfl⟩|⟨x,t,rfl,rfl⟩
  .rcases r9 hb with⟨j,u,rfl,e⟩|⟨y,u,rfl,e⟩
   .injection e with e1 _;rw[e1]
   .exact nomatch e
  .rcases r9 hb with⟨j,u,rfl,e⟩|⟨y,u,rfl,e⟩
   .exact nomatch e
   .injection e with e1 _;rw[e1]
 byValue:=λk v h=>by
  rcases r9 h with⟨i,t,rfl,rfl⟩|⟨x,t,rfl,rfl⟩<;>rfl
 pyHash:=λhv h=>by
  rcases r9 hv with⟨i,t,rfl,rfl⟩|⟨x,t,rfl,rfl⟩
  .exact wpAny_pyHash_int h
  .exact wpAny_pyHash_str h
 eqBool:=λhu hv h=>by
  rcases r9 hu with⟨i,t,rfl,rfl⟩|⟨x,t,rfl,rfl⟩
  .rcases r9 hv with⟨j,u,rfl,rfl⟩|⟨y,u,rfl,rfl⟩
   .rw[SY]at h;exact wpAny_eqBool_int h
   .rw[S3]at h;exact SeqAt.EqAt.int_str i t y u _ _ _ _ h
  .rcases r9 hv with⟨j,u,rfl,rfl⟩|⟨y,u,rfl,rfl⟩
   .rw[S4]at h;exact SeqAt.EqAt.str_int x t j u _ _ _ _ h
   .rw[S0]at h;exact wpAny_eqBool_str h
 «strs»:=λk x t v h=>by
  rcases r9 h with⟨i,u,rfl,e⟩|⟨y,u,rfl,e⟩
  .exact nomatch e
  .injection e with e1 _
   subst e1
   cases v<;>rfl
theorem S5(prog:ai)(w:aj)(i:Int)(t:Tok):(lA prog w).is (.inl i) (.int i t)=true:=SO i t
theorem S6(prog:ai)(w:aj)(x:Str)(t:Tok):(lA prog w).is (.inr x) (.str x t)=true:=SV x t
inductive V where
 |aG|bl (b:Bool)|int (i:Int)|str (x:Str)|mz (b:Array UInt8)|wZ (b:UInt64)|ref (a:ah)|ty (n:String)
 deriving DecidableEq
noncomputable def RelV:V->aa->Prop|.aG,u=>u=Value.none|.bl b,u=>u=Value.bool b|.int i,u=>∃t,u=Value.int i t|.str x,u=>∃t,u=Value.str x t|.mz b,u=>∃t,u=Value.bytes b t|.wZ b,u=>∃t,u=Value.float b t|.ref a,u=>u=Value.ref a|.ty n,u=>u=Value.type n
noncomputable abbrev Vals:List V->List aa->Prop:=Paired RelV
theorem Vals.length(r:Vals xs us):xs.length=us.length:=AL r
theorem Vals.get:∀{xs:List V} {us:List aa} {i:Nat} {x:V},Vals xs us->xs[i]?=aB x->∃u,us[i]?=aB u/\RelV x u
 |_,_,_,_,.nil,e=>by simp at e
 |_,_,0,_,.cons r _,e=>by simp at e;subst e;exact⟨_,rfl,r⟩
 |_,_,i+1,x,.cons _ t,e=>by
  obtain⟨u,h1,h2⟩:=Vals.get (i:=i) (x:=x) t (by simpa using e);exact⟨u,by simpa using h1,h2⟩
theorem Vals.set(r:RelV x u):∀{xs:List V} {us:List aa} (i:Nat),Vals xs us->Vals (xs.set i x) (us.set i u)|_,_,_,.nil=>.nil|_,_,0,.cons _ t=>.cons r t|_,_,i+1,.cons q t=>.cons q (Vals.set r i t)
theorem Vals.append:∀{xs ys:List V} {us ws:List aa},Vals xs us->Vals ys ws->Vals (xs++ys) (us++ws)|_,_,_,_,.nil,s=>s|_,_,_,_,.cons r t,s=>.cons r (Vals.append t s)
theorem Vals.take:∀{xs:List V} {us:List aa} (n:Nat),Vals xs us->Vals (xs.take n) (us.take n)|_,_,0,_=>.nil|_,_,_+1,.nil=>.nil|_,_,n+1,.cons r t=>.cons r (Vals.take n t)
theorem Vals.drop:∀{xs:List V} {us:List aa} (n:Nat),Vals xs us->Vals (xs.drop n) (us.drop n)|_,_,0,r=>r|_,_,_+1,.nil=>.nil|_,_,n+1,.cons _ t=>Vals.drop n t
noncomputable def eG:Option V->Option aa->Prop|some v,aB u=>RelV v u|none,aC=>True|_,_=>False
noncomputable def KV{κ:Type}:List (κ×V)->List (κ×aa)->Prop:=Paired λ(p:κ×V) (q:κ×aa)=>p.1=q.1/\RelV p.2 q.2
noncomputable def kV:Key->V|.inl i=>.int i|.inr x=>.str x
inductive HO where
 /-- a list -/
 |lst (xs:List V)
 /-- a tuple (never changes) -/
 |tup (xs:List V)
 /-- a dict AM keys are ints and texts;one AM keys are tuples of ints and texts (zE empty one is both) -/
 |dK (kvs:List (Key×V))|dT (kvs:List (List Key×V))
 /-- a set of ints: its members,its size -/
 |set (S:Int->Bool) (n:Nat)
 /-- an instance of zE class at C,its dict at dx,its attributes -/
 |ins (C dx:ah) (fs:List (Str×V))
 /-- zE dict of zE instance at x -/
 |own (x:ah)
 /-- zE dict of an exception -/
 |xd (fs:List (Str×V))
 /-- a bound method,f of x -/
 |met (f x:ah)
 /-- a range object lo,lo+1,.. below hi -/
 |HA (lo hi:Int)
 /-- a thing S7 is known to zE object (zE script;a dict while a loop walks it): read,never written while it is so -/
 |cG (o:Obj) (u:HO)
 /-- a code AN table -/
 |xg (ps:Array aa)
 /-- any other thing,by what is true of its one object (a def of Na own: S8 a S n:=HO.ext λh=>..) -/
 |ext (φ:az->Prop)
noncomputable abbrev Hp:=ah->Option HO
noncomputable def upd(H:Hp)(a:ah)(o:HO):Hp:=λb=>if b=a then aB o else H b
theorem eV{a:ah}:upd H a o a=aB o:=by unfold upd;rw[if_pos rfl]
theorem bR{a b:ah}(h:b≠a):upd H a o b=H b:=by unfold upd;rw[if_neg h]
theorem fB{H:Hp}{a b:ah}{o u:HO}(h:H a=aB o)(h':H b=aB u)(d:o≠u):a≠b:=by
 intro e;subst e;rw[h]at h';exact d (lz h')
theorem ir{H:Hp}{a b:ah}{o:HO}(h:H a=aB o)(h':H b=aC):a≠b:=by
 intro e;subst e;rw[h]at h';cases h'
noncomputable def mC(h:az)(a:ah)(items:Array aa):Prop:=∃o,h.get? a=aB o/\o.cls=.type "tuple"/\(∃n,o.data=.seq items n)/\o.dict=aC
theorem mC.tup{a:ah}{items:Array aa}(x:mC h a items):IsTup h a items:=let⟨o,e,c,d,_⟩:=x;⟨o,e,c,d⟩
theorem mC.lt{a:ah}{items:Array aa}(x:mC h a items):a<h.objs.size:=x.tup.lt
theorem mC.new(h:az)(items:Array aa):mC (h.push {cls:=.type "tuple",data:=.seq items}) h.objs.size items:=⟨_,i6 _ rfl,rfl,⟨_,rfl⟩,rfl⟩
section
variable(P:ai)(w:aj)
noncomputable def bx(H:Hp)(h:az)(a:ah):HO->Prop
 |.lst xs=>xs.length<=sizeLine/\∃(its:List aa) (n:Nat),Vals xs its/\h.get? a=aB {cls:=.type "list",data:=.seq its.toArray n}
 |.tup xs=>xs.length<=sizeLine/\∃its:List aa,Vals xs its/\mC h a its.toArray
 |.dK kvs=>kvs.length<=sizeLine/\(a==sysModules)=false/\∃vs,KV kvs vs/\h.DictOf (lA P w) a vs
 |.dT kvs=>kvs.length<=sizeLine/\(a==sysModules)=false/\∃xs:List (List Key×ah×aa),
  Paired (λ(p:List Key×V)(q:List Key×ah×aa)=>p.1=q.1/\H q.2.1=aB (.tup (p.1.map kV))/\RelV p.2 q.2.2) kvs xs/\
  ∃o es ep,h.get? a=aB o/\o.ExactDict/\o.data=.dict es ep/\es.toList=xs.map (entryOfKey (tupleKind (lA P w)))/\(xs.map (·.1)).Nodup
 |.set S n=>h.SetOf (intKind P w) a S n
 |.ins C dx fs=>H dx=aB (.own a)/\fs.length<=1000/\dx≠a/\h.get? a=aB (PySem.W.instObj C dx)/\
  ∃mA,h.Ns1 dx mA/\(∀f,eG (fs.lookup f) (mA f))/\PySem.Within mA (fs.map (·.1))
 |.own _=>∃o,h.get? a=aB o
 |.xd fs=>∃mA,h.Ns1 a mA/\∀f,eG (fs.lookup f) (mA f)
 |.HA lo hi=>∃t u v,h.get? a=aB {cls:=.type "range",data:=.fields #[.int lo t,.int hi u,.int 1 v]}
 |.cG o u=>h.get? a=aB o/\bx H h a u
 |.xg ps=>h.get? a=aB {cls:=.none,data:=.fields ps}
 |.met f x=>h.get? a=aB (PySem.W.methodObj (.ref f) (.ref x))
 |.ext φ=>φ h/\(∃o,h.get? a=aB o)/\∀h1 h2:az,φ h1->(∀o,h1.get? a=aB o->h2.get? a=aB o)->φ h2
noncomputable def eF(H:Hp)(h:az):Prop:=∀a o,H a=aB o->bx P w H h a o
end
section
variable{P:ai}{w:aj}{H H':Hp}{h h':az}{a:ah}{o:HO}
theorem bx.lt(x:bx P w H h a o):a<h.objs.size:=by
 cases o with|lst xs=>obtain⟨_,_,_,_,e⟩:=x;exact cF e|tup xs=>obtain⟨_,_,_,p⟩:=x;exact p.lt|dK kvs=>obtain⟨_,_,_,_,o,_,_,e,_⟩:=x;exact cF e|dT kvs=>obtain⟨_,_,_,_,o,_,_,e,_⟩:=x;exact cF e|set S n=>obtain⟨o,_,_,_,e,_⟩:=x;exact cF e|ins C dx fs=>obtain⟨_,_,_,e,_⟩:=x;exact cF e|own y=>obtain⟨_,e⟩:=x;exact cF e|xd fs=>obtain⟨_,⟨_,_,_,e,_⟩,_⟩:=x;exact cF e|HA lo hi=>obtain⟨_,_,_,e⟩:=x;exact cF e|cG ob u=>obtain⟨e,_⟩:=x;exact cF e|xg ps=>exact cF (show h.get? a=aB _ from x)|met f y=>exact cF (show h.get? a=aB _ from x)|ext φ=>obtain⟨_,⟨_,e⟩,_⟩:=x;exact cF e
theorem Paired.AO{α β:Type}{F G:α->β->Prop}:∀{l₁:List α} {l₂:List β},Paired F l₁ l₂->(∀a b,F a b->G a b)->Paired G l₁ l₂|_,_,.nil,_=>.nil|_,_,.cons r t,f=>.cons (f _ _ r) (Paired.AO t f)
theorem bx.stay(x:bx P w H h a o)(k:∀b u,(b=a\/H b=aB (.own a))->h.get? b=aB u->h'.get? b=aB u)
 (ho:∀b,H b=aB (.own a)->H' b=aB (.own a)) (ht:∀b xs,H b=aB (.tup xs)->H' b=aB (.tup xs)):bx P w H' h' a o:=by
 induction o with
 |lst xs=>obtain⟨z,its,n,r,e⟩:=x;exact⟨z,its,n,r,k _ _ (.inl rfl) e⟩
 |tup xs=>obtain⟨z,its,r,ob,e,c⟩:=x;exact⟨z,its,r,ob,k _ _ (.inl rfl) e,c⟩
 |dK kvs=>obtain⟨z,y,vs,r,ob,es,ep,e,c⟩:=x;exact⟨z,y,vs,r,ob,es,ep,k _ _ (.inl rfl) e,c⟩
 |dT kvs=>
  obtain⟨z,y,xs,r,ob,es,ep,e,c⟩:=x;exact⟨z,y,xs,Paired.AO r λp q z=>⟨z.1,ht _ _ z.2.1,z.2.2⟩,ob,es,ep,k _ _ (.inl rfl) e,c⟩
 |set S n=>obtain⟨ob,es,ep,t,e,c⟩:=x;exact⟨ob,es,ep,t,k _ _ (.inl rfl) e,c⟩
 |ins C dx fs=>
  obtain⟨d,z,ne,e,mA,⟨od,es,ep,e2,c⟩,r⟩:=x;exact⟨ho _ d,z,ne,k _ _ (.inl rfl) e,mA,⟨od,es,ep,k _ _ (.inr d) e2,c⟩,r⟩
 |own y=>obtain⟨ob,e⟩:=x;exact⟨ob,k _ _ (.inl rfl) e⟩
 |xd fs=>obtain⟨mA,⟨od,es,ep,e,c⟩,r⟩:=x;exact⟨mA,⟨od,es,ep,k _ _ (.inl rfl) e,c⟩,r⟩
 |HA lo hi=>obtain⟨t,u,v,e⟩:=x;exact⟨t,u,v,k _ _ (.inl rfl) e⟩
 |cG ob u ih=>obtain⟨e,q⟩:=x;exact⟨k _ _ (.inl rfl) e,ih q⟩
 |xg ps=>
  have e:h.get? a=aB {cls:=.none,data:=.fields ps}:=x;show h'.get? a=aB {cls:=.none,data:=.fields ps};exact k a _ (.inl rfl) e
 |met f y=>
  have e:h.get? a=aB (PySem.W.methodObj (.ref f) (.ref y)):=x;show h'.get? a=aB (PySem.W.methodObj (.ref f) (.ref y));exact k a _ (.inl rfl) e
 |ext φ=>obtain⟨p,⟨o,e⟩,st⟩:=x;exact⟨st _ _ p λo q=>k _ _ (.inl rfl) q,⟨o,k _ _ (.inl rfl) e⟩,st⟩
theorem eF.lt(x:eF P w H h)(e:H a=aB o):a<h.objs.size:=(x a o e).lt
theorem eF.fresh(x:eF P w H h)(e:h.objs.size<=a):H a=aC:=by
 cases q:H a with|none=>rfl|some u=>exact absurd (ff (x.lt q) e) (nq _)
theorem eF.kept(x:eF P w H h)(k:∀b u,h.get? b=aB u->h'.get? b=aB u):eF P w H h':=λa o e=>
 (x a o e).stay (λb u _ q=>k b u q) (λ_ q=>q) λ_ _ q=>q
theorem eF.laid(x:eF P w H h)(k:∀b u,h.get? b=aB u->h'.get? b=aB u)(hp:h.objs.size<=a)(new:bx P w (upd H a o) h' a o):eF P w (upd H a o) h':=λb u e=>by
 have hn:=x.fresh hp;by_cases hb:b=a;subst hb;rw[eV]at e;cases e;exact new;rw[bR hb]at e;exact(x b u e).stay (λc v _ q=>k c v q) (λc q=>by rw[bR (ir q hn)];exact q) λc xs q=>by rw[bR (ir q hn)];exact q
end
noncomputable def Rd(H:Hp)(a:ah)(u:HO):Prop:=H a=aB u\/∃o,H a=aB (.cG o u)
theorem Rd.ok{a:ah}(r:Rd H a u)(x:eF P w H h):bx P w H h a u:=by
 rcases r with r|⟨o,r⟩;exact x a u r;obtain⟨_,q⟩:=x a _ r;exact q
noncomputable def uO:Option HO->Prop|some (.lst _)=>True|some (.dK _)=>True|some (.dT _)=>True|some (.set _ _)=>True|some (.ins _ _ _)=>True|some (.ext _)=>True|_=>False
section
variable{P:ai}{w:aj}{H:Hp}{h h':az}{x e:ah}{o':HO}
theorem eF.write(ok:eF P w H h)(mu:uO (H x))(he:e=x\/H e=aB (.own x))(k:∀b u,b≠e->h.get? b=aB u->h'.get? b=aB u)(zF:∃u,h'.get? e=aB u)
 (new:bx P w (upd H x o') h' x o'):eF P w (upd H x o') h':=λb u q=>by
 have AQ:∀c y,H c=aB (.own y)->c≠x:=λc y r z=>by subst z;rw[r]at mu;exact mu
 have HB:∀c xs,H c=aB (.tup xs)->c≠x:=λc xs r z=>by subst z;rw[r]at mu;exact mu
 by_cases hb:b=x;subst hb;rw[eV]at q;cases q;exact new;rw[bR hb]at q;by_cases xh:b=e;have q':H b=aB (.own x):=by
  rcases he with z|z;exact absurd (xh.trans z) hb;rw[xh];exact z
 rw[q]at q';cases q';obtain⟨v,hv⟩:=zF;exact⟨v,by rw[xh];exact hv⟩;refine(ok b u q).stay (λc v hc r=>k c v ?_ r) (λc r=>by rw[bR (AQ c b r)];exact r) λc xs r=>by rw[bR (HB c xs r)];exact r
 rcases hc with rfl|hc;exact xh;rintro rfl;rcases he with z|z;exact AQ c b hc z;rw[hc]at z;cases z;exact hb rfl
end
structure Un(fs ex:List ah)(H H':Hp)(h h':az):Prop where
 keep:∀b o,h.get? b=aB o->H b=aC->b∉fs->b∉ex->h'.get? b=aB o
 slot:∀b o,h.get? b=aB o->H b=aC->b∈fs->b∉ex->∃sl,h'.get? b=aB {o with slots:=sl}
 free:∀b o,h.get? b=aB o->H b=aC->b∉ex->H' b=aC
 there:∀b o,h.get? b=aB o->b∉ex->∃o',h'.get? b=aB o'
 tups:∀b xs,H b=aB (.tup xs)->H' b=aB (.tup xs)
 iu:∀b o u,H b=aB (.cG o u)->H' b=aB (.cG o u)
 iI:∀b ps,H b=aB (.xg ps)->∃more,H' b=aB (.xg (ps++more))
section
variable{fs fs' ex ex':List ah}{H H1 H2:Hp}{h h1 h2 h':az}{a x e:ah}{o:HO}
theorem Un.any(u:Un fs ex H H1 h h1){b:ah}(q:h.get? b=aB ob)(n:H b=aC)(hx:b∉ex):∃sl,h1.get? b=aB {ob with slots:=sl}:=by
 by_cases hb:b∈fs;exact u.slot b ob q n hb hx;exact⟨ob.slots,u.keep b ob q n hb hx⟩
theorem Un.kept(k:∀b u,h.get? b=aB u->h'.get? b=aB u):Un fs ex H H h h':=
 ⟨λb ob q _ _ _=>k b ob q,λb ob q _ _ _=>⟨ob.slots,k b ob q⟩,λ_ _ _ n _=>n,λb ob q _=>⟨ob,k b ob q⟩,λ_ _ q=>q,λ_ _ _ q=>q,λ_ ps q=>⟨#[],by rw[q];simp⟩⟩
theorem Un.refl:Un fs ex H H h h:=Un.kept λ_ _ q=>q
theorem Un.laid(k:∀b u,h.get? b=aB u->h'.get? b=aB u)(hp:h.objs.size<=a)(hn:H a=aC):Un fs ex H (upd H a o) h h' where
 keep:=λb u q _ _ _=>k b u q
 slot:=λb u q _ _ _=>⟨u.slots,k b u q⟩
 free:=λb u q n _=>by rw[bR (fj (ff (cF q) hp))];exact n
 there:=λb u q _=>⟨u,k b u q⟩
 tups:=λb xs q=>by rw[bR (ir q hn)];exact q
 iu:=λb u xs q=>by rw[bR (ir q hn)];exact q
 iI:=λb ps q=>⟨#[],by rw[bR (ir q hn),q];simp⟩
theorem Un.write(mu:uO (H x))(he:e=x\/H e=aB (.own x))(k:∀b u,b≠e->h.get? b=aB u->h'.get? b=aB u)(zF:∃u,h'.get? e=aB u):Un fs ex H (upd H x o) h h':=by
 have hx:∀b,H b=aC->b≠x:=λb n z=>by subst z;rw[n]at mu;exact mu
 have hb:∀b,H b=aC->b≠e:=λb n z=>by
  subst z;rcases he with r|r
  exact hx b n r;rw[n]at r;cases r
 have hm:∀b u,H b=aB u->¬uO (aB u)->b≠x:=λb u q nm z=>by subst z;rw[q]at mu;exact nm mu
 refine⟨λb u q n _ _=>k b u (hb b n) q,λb u q n _ _=>⟨u.slots,k b u (hb b n) q⟩,λb u q n _=>by rw[bR (hx b n)];exact n,λb u q _=>?_,
  λb xs q=>by rw[bR (hm b _ q λz=>z)];exact q,λb u xs q=>by rw[bR (hm b _ q λz=>z)];exact q,λb ps q=>⟨#[],by rw[bR (hm b _ q λz=>z),q];simp⟩⟩
 by_cases xh:b=e;subst xh;exact zF;exact⟨u,k b u xh q⟩
end
noncomputable def FN(h:az)(H:Hp):List ah:=(List.range h.objs.size).filter λa=>(H a).isSome
noncomputable def jB(h:az)(H:Hp):az:=PySem.W.hideAll h (FN h H)
theorem S9(h:az)(H:Hp):(jB h H).objs.size=h.objs.size:=PySem.W.hideAll_size _ _
theorem Tc{b:ah}(e:h.get? b=aB o)(n:H b=aC):(jB h H).get? b=aB o:=
 PySem.W.hideAll_get _ e λhm=>by
  have q:(H b).isSome=true:=(List.mem_filter.mp hm).2;rw[n]at q;simp at q
theorem Td{b:ah}(e:(jB h H).get? b=aB o):h.get? b=aB o/\H b=aC:=by
 have e':h.get? b=aB o:=PySem.W.of_hideAll (FN h H) e;refine⟨e',?_⟩;cases q:H b with
 |none=>rfl
 |some x=>
  have hm:b∈FN h H:=List.mem_filter.mpr ⟨Fp.mpr (cF e'),by simp[q]⟩;have z:(jB h H).get? b=aC:=PySem.W.hideAll_none (FN h H) hm;rw[z]at e;cases e
structure Mod(K:aI)(mg:Str->Option aa)(base:az):Prop where
 se:K.In base
 glob:base.Ns mainGlobals mg
 blt:∃mb,base.Ns builtinsNs mb/\∀x:Str,x≠"__name__"->mb x=bootBuiltins x
 nolimit:base.NoLimit
set_option genInjectivity false in
structure Cx where
 prog:ai
 w:aj
 K:aI
 mg:Str->Option aa
 base:az
 A:ak
 N:List Str
 s₀:af
 H₀:Hp
 env:Env
 outer:List Env
 stack:List Env
 ex:List ah
 fn:Str->Bool
 calm:Bool
 pn:List (ah×Obj)
 xe:aa->af->Prop
noncomputable def frs(l:List Env):List ah:=l.filterMap (·.frame)
noncomputable abbrev Cx.fs(X:Cx):List ah:=frs X.outer
noncomputable def oN(sc:ay)(x:Str):Prop:=sc.names.lookup x=aB .local\/sc.names.lookup x=aB .cell\/sc.names.lookup x=aB .free
noncomputable def Loc(sc:ay)(x:Str):Prop:=sc.names.lookup x=aB .local\/sc.names.lookup x=aB .cell
noncomputable def Look(env:Env)(h:az)(m:Str->Option aa)(x:Str)(u:aa):Prop:=
 (env.kindOf x=aB .local/\m x=aB u)\/((env.kindOf x=aB .cell\/env.kindOf x=aB .free)/\∃c,env.cells.lookup x=aB c/\h.IsCell c (aB u))
structure Cx.Ok(X:Cx):Prop where
 mod:Mod X.K X.mg X.base
 kind:X.env.scope.kind=.function
 glob:X.env.globals=mainGlobals
 blt:X.env.builtins=builtinsNs
 above:X.s₀.heap.objs.size<=X.env.locals
 inj:∀x y c,X.env.cells.lookup x=aB c->X.env.cells.lookup y=aB c->x=y
 has:∀x,(X.env.kindOf x=aB .cell\/X.env.kindOf x=aB .free)->∃c,X.env.cells.lookup x=aB c
 xj:∀x c,X.fn x=true->X.env.cells.lookup x=aB c->X.s₀.heap.objs.size<=c
 hd:X.calm=true->X.A.handled=aC
 frames:X.A.frames=aB X.stack
 stk:X.stack=X.outer\/(X.stack=X.env::X.outer/\X.env.frame=aB X.env.locals)
 zG:∀b∈X.ex,b≠X.env.locals/\∀x c,X.env.cells.lookup x=aB c->c≠b
 bs:∀b o,X.base.get? b=aB o->X.s₀.heap.get? b=aB o/\X.H₀ b=aC
 oO:X.base.objs.size<=X.s₀.heap.objs.size
 lB:∀b o,X.base.get? b=aB o->b∉X.ex
 lC:∀b∈X.ex,b∉X.fs
 gk:X.s₀.heap.FunFrames X.base X.outer
 rm:∀b∈X.fs,X.H₀ b=aC
structure Inv(X:Cx)(pins:List (ah×Obj))(σ:List (Option V))(H:Hp)(s:af):Prop where
 ok:X.Ok
 os:s.os=X.s₀.os
 bare:AllBare s.gens
 base:Un X.fs X.ex X.H₀ H X.s₀.heap s.heap
 loc:∃m,s.heap.Ns X.env.locals m/\∀(i:Nat)(x:Str)(v:V),X.N[i]?=aB x->σ[i]?=aB (aB v)->oN X.env.scope x->∃u,RelV v u/\Look X.env s.heap m x u
 cell:∀x c,X.env.cells.lookup x=aB c->∃v,s.heap.IsCell c v
 free:H X.env.locals=aC
 dD:∀x c,X.env.cells.lookup x=aB c->H c=aC
 pin:∀p∈X.pn++pins,s.heap.get? p.1=aB p.2/\H p.1=aC/\p.1≠X.env.locals/\p.1∉X.fs/\∀v,p.2.data≠.cell v
 hok:eF X.prog X.w H s.heap
 len:σ.length=X.N.length
section
variable{X:Cx}{pins:List (ah×Obj)}{σ:List (Option V)}{H H':Hp}{s:af}{h':az}
theorem Cx.Ok.j5(ok:X.Ok){b:ah}(e:X.base.get? b=aB o):b∉X.fs:=λhb=>by
 have:=(ok.gk.mem hb).1;rw[e]at this;cases this
theorem Inv.bs(I:Inv X pins σ H s):∀b o,X.base.get? b=aB o->s.heap.get? b=aB o/\H b=aC:=λb o e=>
 ⟨I.base.keep b o (I.ok.bs b o e).1 (I.ok.bs b o e).2 (I.ok.j5 e) (I.ok.lB b o e),I.base.free b o (I.ok.bs b o e).1 (I.ok.bs b o e).2 (I.ok.lB b o e)⟩
theorem Inv.bk(I:Inv X pins σ H s):∀b o,X.base.get? b=aB o->s.heap.get? b=aB o:=λb o e=>(I.bs b o e).1
theorem Inv.mod(I:Inv X pins σ H s):Mod X.K X.mg X.base:=I.ok.mod
theorem Inv.dM(I:Inv X pins σ H s):X.K.In s.heap:=I.ok.mod.se.keeps I.bk
theorem Inv.lt(I:Inv X pins σ H s):X.env.locals<s.heap.objs.size:=let⟨_,hn,_⟩:=I.loc;hn.lt
theorem Inv.sz(I:Inv X pins σ H s):X.s₀.heap.objs.size<=s.heap.objs.size:=fS I.ok.above (wQ I.lt)
theorem Inv.HE(I:Inv X pins σ H s){a:ah}(h:s.heap.objs.size<=a):a∉X.fs:=λhb=>by
 obtain⟨_,o,ho,_⟩:=I.ok.gk.mem hb;exact absurd (ff (cF ho) (fS I.sz h)) (nq _)
theorem Inv.sf(I:Inv X pins σ H s):∀x c,X.env.cells.lookup x=aB c->c≠X.env.locals:=λx c e z=>by
 obtain⟨v,o,ho,hd⟩:=I.cell x c e;obtain⟨m,⟨o',es,ep,ho',hd',_⟩,_⟩:=I.loc;rw[z,ho']at ho;cases ho;rw[hd']at hd;cases hd
theorem Inv.gk(I:Inv X pins σ H s):s.heap.FunFrames X.base X.outer:=by
 have all:∀(l:List Env),(∀b∈frs l,b∈X.fs)->X.s₀.heap.FunFrames X.base l->s.heap.FunFrames X.base l:=by
  intro l;induction l with
  |nil=>intro _ _;trivial
  |cons env r ih=>
   intro hs hl;obtain⟨hk,⟨L,o,hf,hn,ho,hd⟩,hr⟩:=hl;have hL:L∈X.fs:=hs L (by unfold frs;rw[wU,hf];exact fy);obtain⟨sl,e⟩:=I.base.slot L o ho (I.ok.rm L hL) hL λz=>I.ok.lC L z hL;exact⟨hk,⟨L,_,hf,hn,e,hd⟩,ih (λb hb=>hs b (by unfold frs;rw[wU,hf];exact eU _ hb)) hr⟩
 exact all X.outer (λ_ hb=>hb) I.ok.gk
theorem Inv.stack(I:Inv X pins σ H s):s.heap.FunFrames X.base X.stack:=by
 rcases I.ok.stk with e|⟨e,hf⟩;rw[e];exact I.gk;rw[e];obtain⟨m,hn,_⟩:=I.loc;refine .cons (by rw[I.ok.kind];decide) hf hn ?_ I.gk;exact Heap.get?_none_of_le (fS I.ok.oO I.ok.above)
theorem Inv.jC(I:Inv X pins σ H s):∀b∈frs X.stack,b∈X.env.locals::X.fs:=λb hb=>by
 rcases I.ok.stk with e|⟨e,hf⟩;rw[e]at hb;exact eU _ hb;rw[e]at hb;unfold frs at hb;rw[wU,hf]at hb;exact hb
theorem Inv.iG(I:Inv X pins σ H s):∀b∈frs X.stack,H b=aC:=λb hb=>by
 rcases gq.mp (I.jC b hb)with e|hb;rw[e];exact I.free;obtain⟨_,o,ho,_⟩:=I.ok.gk.mem hb;exact I.base.free b o ho (I.ok.rm b hb) λz=>I.ok.lC b z hb
theorem Inv.step{g':Array GenState}{t':Nat}{d':Drawn}{ch:List ah}(I:Inv X pins σ H s)
 (hch:∀b∈ch,(b∈X.ex\/X.s₀.heap.objs.size<=b)/\b≠X.env.locals/\(∀x c,X.env.cells.lookup x=aB c->c≠b)/\∀p∈X.pn++pins,p.1≠b)
 (keep:∀b o,b≠X.env.locals->b∉X.fs->b∉ch->s.heap.get? b=aB o->H b=aC->h'.get? b=aB o)
 (slot:∀b o,b≠X.env.locals->b∈X.fs->b∉ch->s.heap.get? b=aB o->H b=aC->∃sl,h'.get? b=aB {o with slots:=sl}) (free:∀b o,b∉ch->s.heap.get? b=aB o->H b=aC->H' b=aC)
 (there:∀b o,b∉ch->s.heap.get? b=aB o->∃o',h'.get? b=aB o')
 (tups:∀b xs,H b=aB (.tup xs)->H' b=aB (.tup xs)) (iu:∀b o u,H b=aB (.cG o u)->H' b=aB (.cG o u)) (iI:∀b ps,H b=aB (.xg ps)->∃more,H' b=aB (.xg (ps++more)))
 (ns:∀m,s.heap.Ns X.env.locals m->h'.Ns X.env.locals m) (hok:eF X.prog X.w H' h') (hg:AllBare g') :
 Inv X pins σ H' {s with heap:=h',gens:=g',drawn:=d',toks:=t'}:=by
 have Nb:∀b o,X.s₀.heap.get? b=aB o->b≠X.env.locals:=λb o e=>fj (ff (cF e) I.ok.above);have uP:∀b o,X.s₀.heap.get? b=aB o->b∉X.ex->b∉ch:=λb o e hx hb=>by
  rcases(hch b hb).1 with z|z;exact hx z;exact absurd (ff (cF e) z) (nq _)
 have cellK:∀x c,X.env.cells.lookup x=aB c->∀v,s.heap.IsCell c v->h'.IsCell c v:=λx c e v cR=>by
  obtain⟨o,ho,hd⟩:=cR;have AS:c∉ch:=λz=>(hch c z).2.2.1 x c e rfl;by_cases hc:c∈X.fs;obtain⟨sl,q⟩:=slot c o (I.sf x c e) hc AS ho (I.dD x c e);exact⟨_,q,hd⟩;exact⟨o,keep c o (I.sf x c e) hc AS ho (I.dD x c e),hd⟩
 refine⟨I.ok,I.os,hg,⟨λb o e n hb hx=>?_,λb o e n hb hx=>?_,λb o e n hx=>?_,λb o e hx=>?_,λb xs e=>tups b xs (I.base.tups b xs e),λb o xs e=>iu b o xs (I.base.iu b o xs e),λb ps e=>?_⟩,?_,λx c e=>?_,?_,λx c e=>?_,λp hp=>?_,hok,I.len⟩;exact keep b o (Nb b o e) hb (uP b o e hx) (I.base.keep b o e n hb hx) (I.base.free b o e n hx);obtain⟨sl,e1⟩:=I.base.slot b o e n hb hx;obtain⟨HF,e2⟩:=slot b _ (Nb b o e) hb (uP b o e hx) e1 (I.base.free b o e n hx);exact⟨HF,e2⟩;obtain⟨o',e1⟩:=I.base.there b o e hx;exact free b o' (uP b o e hx) e1 (I.base.free b o e n hx);obtain⟨o',e1⟩:=I.base.there b o e hx;exact there b o' (uP b o e hx) e1;obtain⟨m1,e1⟩:=I.base.iI b ps e;obtain⟨m2,e2⟩:=iI b _ e1;exact⟨m1++m2,by rw[e2,Array.append_assoc]⟩;obtain⟨m,hn,hl⟩:=I.loc;refine⟨m,ns m hn,λi x v e1 e2 e3=>?_⟩;obtain⟨u,r,l⟩:=hl i x v e1 e2 e3;refine⟨u,r,?_⟩;rcases l with l|⟨k,c,e,z⟩
 exact .inl l;exact .inr ⟨k,c,e,cellK x c e _ z⟩;obtain⟨v,z⟩:=I.cell x c e;exact⟨v,cellK x c e v z⟩;obtain⟨m,⟨o,_,_,ho,_⟩,_⟩:=I.loc;exact free _ o (λz=>(hch _ z).2.1 rfl) ho I.free;obtain⟨v,o,ho,hd⟩:=I.cell x c e;exact free c o (λz=>(hch c z).2.2.1 x c e rfl) ho (I.dD x c e);obtain⟨e,n,ne,nf,d⟩:=I.pin p hp;have AS:p.1∉ch:=λz=>(hch p.1 z).2.2.2 p hp rfl;exact⟨keep p.1 p.2 ne nf AS e n,free p.1 p.2 AS e n,ne,nf,d⟩
theorem Inv.un{t':Nat}(I:Inv X pins σ H s)(u:Un X.fs [] H H' s.heap h')(hok:eF X.prog X.w H' h'):Inv X pins σ H' {s with heap:=h',toks:=t'}:=by
 obtain⟨m,⟨o,es,ep,ho,r⟩,_⟩:=id I.loc;obtain⟨sl,hL⟩:=u.any ho I.free (by simp);exact I.step (g':=s.gens) (d':=s.drawn) (ch:=[]) (λ_ z=>nomatch z) (λb o _ hb _ e n=>u.keep b o e n hb (by simp)) (λb o _ hb _ e n=>u.slot b o e n hb (by simp)) (λb o _ e n=>u.free b o e n (by simp)) (λb o _ e=>u.there b o e (by simp)) u.tups u.iu u.iI (λm' hm=>by
  obtain⟨o',es',HG,ho',r'⟩:=hm;rw[ho]at ho';cases ho';exact⟨_,es',HG,hL,r'⟩) hok I.bare
theorem Inv.call{g':Array GenState}{t':Nat}{d':Drawn}{ch:List ah}(I:Inv X pins σ H s)(u:Un (frs X.stack) ch H H' s.heap h')(hok:eF X.prog X.w H' h')(hg:AllBare g')
 (hch:∀b∈ch,(b∈X.ex\/X.s₀.heap.objs.size<=b)/\b≠X.env.locals/\(∀x c,X.env.cells.lookup x=aB c->c≠b)/\∀p∈X.pn++pins,p.1≠b) :
 Inv X pins σ H' {s with heap:=h',gens:=g',drawn:=d',toks:=t'}:=by
 obtain⟨m,⟨o,es,ep,ho,r⟩,_⟩:=id I.loc;obtain⟨sl,hL⟩:=u.any ho I.free λz=>(hch _ z).2.1 rfl;exact I.step (ch:=ch) hch (λb o hL hb hc e n=>u.keep b o e n (λz=>(gq.mp (I.jC b z)).elim hL hb) hc) (λb o _ _ hc e n=>u.any e n hc) (λb o hc e n=>u.free b o e n hc) (λb o hc e=>u.there b o e hc) u.tups u.iu u.iI (λm' hm=>by
  obtain⟨o',es',HG,ho',r'⟩:=hm;rw[ho]at ho';cases ho';exact⟨_,es',HG,hL,r'⟩) hok hg
theorem Inv.turned{t':Nat}{it:ah}(I:Inv X pins σ H s)(k:∀b o,b≠it->s.heap.get? b=aB o->h'.get? b=aB o)(hn:H it=aC)(hL:it≠X.env.locals)
 (h1:it∈X.ex\/X.s₀.heap.objs.size<=it) (h2:∀x c,X.env.cells.lookup x=aB c->c≠it) (h3:∀p∈X.pn++pins,p.1≠it):Inv X pins σ H {s with heap:=h',toks:=t'}:=by
 have Nc:∀b u,H b=aB u->b≠it:=λb u e z=>by rw[z,hn]at e;cases e
 refine I.step (g':=s.gens) (d':=s.drawn) (ch:=[it]) (λb hb=>?_) (λb o _ _ hc e _=>k b o (λz=>hc (by simp[z])) e) (λb o _ _ hc e _=>⟨o.slots,k b o (λz=>hc (by simp[z])) e⟩) (λ_ _ _ _ n=>n)
  (λb o hc e=>⟨o,k b o (λz=>hc (by simp[z])) e⟩) (λ_ _ e=>e) (λ_ _ _ e=>e) (λb ps e=>⟨#[],by rw[e];simp⟩) (λm hm=>?_) (λb u e=>?_) I.bare
 have e:b=it:=by simpa using hb
 subst e;exact⟨h1,hL,h2,h3⟩;obtain⟨o,es,ep,ho,r⟩:=hm;exact⟨o,es,ep,k _ o (dU hL) ho,r⟩;refine(I.hok b u e).stay (λc v hc q=>k c v ?_ q) (λ_ q=>q) λ_ _ q=>q;rcases hc with z|z
 rw[z];exact Nc b u e;exact Nc c _ z
theorem Inv.tok(I:Inv X pins σ H s)(t:Nat):Inv X pins σ H {s with toks:=t}:=I.un (h':=s.heap) (t':=t) Un.refl I.hok
theorem Inv.kept{t':Nat}(I:Inv X pins σ H s)(k:∀b u,s.heap.get? b=aB u->h'.get? b=aB u):Inv X pins σ H {s with heap:=h',toks:=t'}:=I.un (Un.kept k) (I.hok.kept k)
theorem Inv.laid{a:ah}{t':Nat}(I:Inv X pins σ H s)(k:∀b u,s.heap.get? b=aB u->h'.get? b=aB u)(hp:s.heap.objs.size<=a)(new:bx X.prog X.w (upd H a o) h' a o) :
 Inv X pins σ (upd H a o) {s with heap:=h',toks:=t'}:=I.un (Un.laid k hp (I.hok.fresh hp)) (I.hok.laid k hp new)
theorem Inv.write{x e:ah}{o:HO}{t':Nat}(I:Inv X pins σ H s)(mu:uO (H x))(he:e=x\/H e=aB (.own x))(k:∀b u,b≠e->s.heap.get? b=aB u->h'.get? b=aB u)(zF:∃u,h'.get? e=aB u)
 (new:bx X.prog X.w (upd H x o) h' x o):Inv X pins σ (upd H x o) {s with heap:=h',toks:=t'}:=I.un (Un.write mu he k zF) (I.hok.write mu he k zF new)
theorem Inv.mD(I:Inv X pins σ H s)(h:∀p∈AU,s.heap.get? p.1=aB p.2/\H p.1=aC/\p.1≠X.env.locals/\p.1∉X.fs/\∀v,p.2.data≠.cell v):Inv X AU σ H s:=
 ⟨I.ok,I.os,I.bare,I.base,I.loc,I.cell,I.free,I.dD,λp hp=>(wX.mp hp).elim (λz=>I.pin p (List.mem_append_left _ z)) (h p),I.hok,I.len⟩
theorem HH{N:List Str}(hN:N.Nodup){i j:Nat}{x:Str}(a:N[i]?=aB x)(b:N[j]?=aB x):i=j:=by
 obtain⟨h1,e1⟩:=jR.mp a;obtain⟨h2,e2⟩:=jR.mp b;exact(List.getElem_inj hN).mp (e1.trans e2.symm)
theorem Nd{M:Model}{A:ak}{E:aa->af->Prop}{i:Nat}{x:Str}{Q:Unit->af->Prop}(I:Inv X pins σ H s)(hN:X.N.Nodup)(hi:X.N[i]?=aB x)(hx:Loc X.env.scope x)(r:RelV v u)
 (h:∀s',Inv X pins (σ.set i (aB v)) H s'->(∃a,Heap.SameBut a s.heap s'.heap/\(a=X.env.locals\/X.env.cells.lookup x=aB a))->Q () s') (hf:autoParam (X.fn x=true\/X.env.scope.names.lookup x=aB .local) L2.aF._auto_1):wpAny M A (storeName X.env x u) Q E s:=by
 obtain⟨m,hn,hl⟩:=id I.loc;have hcls:(X.env.scope.kind == .class|| (X.env.scope.kind == .module&&X.env.locals != X.env.globals))=false:=by rw[I.ok.kind];rfl
 have sj:i<σ.length:=by rw[I.len];exact(jR.mp hi).1
 have sf:=I.sf;have tracked:∀{a:ah}{h':az},(∃o,s.heap.get? a=aB o/\H a=aC)->Heap.SameBut a s.heap h'->eF X.prog X.w H h':=λ{a h'} ha hs b ob e=>by
  obtain⟨_,_,hfree⟩:=ha;refine(I.hok b ob e).stay (λc w' hc q=>(hs.2 c ?_).trans q) (λ_ q=>q) λ_ _ q=>q;rintro rfl;rcases hc with rfl|hc;rw[hfree]at e;cases e;rw[hfree]at hc;cases hc
 rcases hx with hk|hk;refine wpAny_storeName_local hk hn (λh' hn' hs=>?_) hcls;obtain⟨oL,_,_,Te,_⟩:=id hn;refine h _ ⟨I.ok,I.os,I.bare,⟨λb o e n hb hx=>?_,λb o e n hb hx=>?_,I.base.free,λb o e hx=>?_,I.base.tups,I.base.iu,I.base.iI⟩,⟨_,hn',λj y v' e1 e2 e3=>?_⟩,λy c e=>?_,I.free,I.dD,λp hp=>?_,tracked ⟨oL,Te,I.free⟩ hs,by simpa using I.len⟩ ⟨_,hs,.inl rfl⟩;exact(hs.2 b (fj (ff (cF e) I.ok.above))).trans (I.base.keep b o e n hb hx);obtain⟨sl,e1⟩:=I.base.slot b o e n hb hx;exact⟨sl,(hs.2 b (fj (ff (cF e) I.ok.above))).trans e1⟩;obtain⟨o',e1⟩:=I.base.there b o e hx;exact⟨o',(hs.2 b (fj (ff (cF e) I.ok.above))).trans e1⟩;by_cases hj:j=i;subst hj;rw[hi]at e1;cases e1;rw[qW sj]at e2;cases e2;exact⟨u,r,.inl ⟨hk,by simp⟩⟩;rw[wR (dU hj)]at e2;obtain⟨u',r',q⟩:=hl j y v' e1 e2 e3;refine⟨u',r',?_⟩;rcases q with⟨k,e⟩|⟨k,c,e,z⟩;refine .inl ⟨k,?_⟩;have:y≠x:=λe=>hj (HH hN e1 (e▸hi));simp[this,e];exact .inr ⟨k,c,e,z.sameBut hs (sf y c e)⟩;obtain⟨w',z⟩:=I.cell y c e;exact⟨w',z.sameBut hs (sf y c e)⟩;obtain⟨e,n,ne,nf,d⟩:=I.pin p hp;exact⟨(hs.2 p.1 ne).trans e,n,ne,nf,d⟩;have hfn:X.fn x=true:=by
  rcases hf with z|z;exact z;rw[z]at hk;cases hk
 obtain⟨c,hc⟩:=I.ok.has x (.inl hk);obtain⟨w',z⟩:=I.cell x c hc;refine wpAny_storeName_cell I.ok.kind hk hc z (λh' hc' hs=>?_);obtain⟨oc,hoc,HJ⟩:=id z;refine h {s with heap:=h'} ⟨I.ok,I.os,I.bare,⟨λb o e n hb hx=>?_,λb o e n hb hx=>?_,I.base.free,λb o e hx=>?_,I.base.tups,I.base.iu,I.base.iI⟩,⟨m,hn.sameBut hs (dU (sf x c hc)),λj y v' e1 e2 e3=>?_⟩,λy c' e=>?_,I.free,I.dD,λp hp=>?_,tracked ⟨oc,hoc,I.dD x c hc⟩ hs,by simpa using I.len⟩ ⟨c,hs,.inr hc⟩;exact(hs.2 b (fj (ff (cF e) (I.ok.xj x c hfn hc)))).trans (I.base.keep b o e n hb hx);obtain⟨sl,e1⟩:=I.base.slot b o e n hb hx;exact⟨sl,(hs.2 b (fj (ff (cF e) (I.ok.xj x c hfn hc)))).trans e1⟩;obtain⟨o',e1⟩:=I.base.there b o e hx;exact⟨o',(hs.2 b (fj (ff (cF e) (I.ok.xj x c hfn hc)))).trans e1⟩;by_cases hj:j=i;subst hj;rw[hi]at e1;cases e1;rw[qW sj]at e2;cases e2;exact⟨u,r,.inr ⟨.inl hk,c,hc,hc'⟩⟩;rw[wR (dU hj)]at e2;obtain⟨u',r',q⟩:=hl j y v' e1 e2 e3;refine⟨u',r',?_⟩;rcases q with q|⟨k,c',e,z'⟩;exact .inl q;refine .inr ⟨k,c',e,z'.sameBut hs ?_⟩;rintro rfl;exact hj (HH hN e1 (I.ok.inj _ _ _ e hc▸hi));by_cases hcc:c'=c;subst hcc;exact⟨_,hc'⟩;obtain⟨w2,z2⟩:=I.cell y c' e;exact⟨w2,z2.sameBut hs hcc⟩;obtain⟨e,n,ne,nf,d⟩:=I.pin p hp;refine⟨(hs.2 p.1 ?_).trans e,n,ne,nf,d⟩;intro q;rw[q,hoc]at e;have q':oc=p.2:=lz e;exact d w' (by rw[<-q'];exact HJ)
theorem FP{M:Model}{A:ak}{E:aa->af->Prop}{i:Nat}{x:Str}{Q:Unit->af->Prop}(I:Inv X pins σ H s)(hN:X.N.Nodup)(hi:X.N[i]?=aB x)(hx:Loc X.env.scope x)(r:RelV v u)
 (h:∀s',Inv X pins (σ.set i (aB v)) H s'->Q () s') (hf:autoParam (X.fn x=true\/X.env.scope.names.lookup x=aB .local) L2.aF._auto_1):wpAny M A (storeName X.env x u) Q E s:=
 Nd I hN hi hx r (λs' I' _=>h s' I') hf
theorem Inv.AV{ch:List ah}(I:Inv X pins σ H s)(ho:s'.os=s.os)(u:Un (frs X.stack) ch H H' s.heap s'.heap)(hok:eF X.prog X.w H' s'.heap)(hg:AllBare s'.gens)
 (hch:∀b∈ch,(b∈X.ex\/X.s₀.heap.objs.size<=b)/\b≠X.env.locals/\(∀x c,X.env.cells.lookup x=aB c->c≠b)/\∀p∈X.pn++pins,p.1≠b):Inv X pins σ H' s':=by
 obtain⟨h',g',d',t',o'⟩:=s';have e:o'=s.os:=ho;subst e;exact I.call (g':=g') (t':=t') (d':=d') u hok hg hch
end
noncomputable abbrev XK:=aa->Option ah->Hp->Prop
noncomputable abbrev St:=List (Option V)
noncomputable abbrev VK:=V->Hp->Prop
noncomputable abbrev TE:=St->Hp->VK->Prop
noncomputable abbrev TT:=St->Hp->(Bool->Hp->Prop)->Prop
noncomputable abbrev TA:=St->Hp->(List V->Hp->Prop)->Prop
set_option genInjectivity false in
structure Ends where
 nx:St->Hp->Prop
 rt:VK
 bk:St->Hp->Prop:=λ_ _=>False
 ct:St->Hp->Prop:=λ_ _=>False
noncomputable abbrev TS:=Ends->St->Hp->Prop
noncomputable def EP(X:Cx)(pins:List (ah×Obj))(σ:St)(Q:VK)(u:aa)(s':af):Prop:=∃v H',Inv X pins σ H' s'/\RelV v u/\Q v H'
noncomputable def TP(X:Cx)(pins:List (ah×Obj))(σ:St)(Q:Bool->Hp->Prop)(b:Bool)(s':af):Prop:=∃H',Inv X pins σ H' s'/\Q b H'
noncomputable def AP(X:Cx)(pins:List (ah×Obj))(σ:St)(Q:List V->Hp->Prop)(us:List aa)(s':af):Prop:=∃vs H',Inv X pins σ H' s'/\Vals vs us/\Q vs H'
theorem EP.el{σ:St}{P:Prop}(q:EP X pins σ Q u s')(k:∀v H',Inv X pins σ H' s'->RelV v u->Q v H'->P):P:=by
 obtain⟨v,H',a,b,c⟩:=q;exact k v H' a b c
theorem TP.el{σ:St}{Q:Bool->Hp->Prop}{b:Bool}{P:Prop}(q:TP X pins σ Q b s')(k:∀H',Inv X pins σ H' s'->Q b H'->P):P:=by
 obtain⟨H',a,c⟩:=q;exact k H' a c
theorem AP.el{σ:St}{Q:List V->Hp->Prop}{P:Prop}(q:AP X pins σ Q us s')(k:∀vs H',Inv X pins σ H' s'->Vals vs us->Q vs H'->P):P:=by
 obtain⟨v,H',a,b,c⟩:=q;exact k v H' a b c
noncomputable def SP(X:Cx)(pins:List (ah×Obj))(D:Ends)(f:Flow)(s':af):Prop:=
 match f with|.next=>∃σ' H',Inv X pins σ' H' s'/\D.nx σ' H'|.brk=>∃σ' H',Inv X pins σ' H' s'/\D.bk σ' H'|.cont=>∃σ' H',Inv X pins σ' H' s'/\D.ct σ' H'|.ret u=>∃v σ' H',Inv X pins σ' H' s'/\RelV v u/\D.rt v H'
noncomputable def PE(X:Cx)(e:ao)(t:TE):Prop:=
 ∀(pins:List (ah×Obj))(s:af)(σ:St)(H:Hp)(Q:VK),Inv X pins σ H s->t σ H Q->wpAny (model X.prog X.w) X.A (eval e X.env) (EP X pins σ Q) X.xe s
noncomputable def PT(X:Cx)(e:ao)(t:TT):Prop:=
 ∀(pins:List (ah×Obj))(s:af)(σ:St)(H:Hp)(Q:Bool->Hp->Prop),Inv X pins σ H s->t σ H Q->wpAny (model X.prog X.w) X.A (isTrue e X.env (eval e X.env)) (TP X pins σ Q) X.xe s
noncomputable def PW(X:Cx)(e:ao)(t:TT):Prop:=
 ∀(whole:Sem aa)(pins:List (ah×Obj))(s:af)(σ:St)(H:Hp)(Q:Bool->Hp->Prop),Inv X pins σ H s->t σ H Q->wpAny (model X.prog X.w) X.A (isTrue e X.env whole) (TP X pins σ Q) X.xe s
theorem PW.pt(h:PW X e t):PT X e t:=h _
noncomputable def PA(X:Cx)(es:List ao)(t:TA):Prop:=
 ∀(pos:Pos)(pins:List (ah×Obj))(s:af)(σ:St)(H:Hp)(Q:List V->Hp->Prop),Inv X pins σ H s->t σ H Q->wpAny (model X.prog X.w) X.A (spliced (backTo pos (starEach es X.env))) (AP X pins σ Q) X.xe s
noncomputable def PS(X:Cx)(st:aq)(t:TS):Prop:=
 ∀(pins:List (ah×Obj))(s:af)(σ:St)(H:Hp)(D:Ends),Inv X pins σ H s->t D σ H->wpAny (model X.prog X.w) X.A (exec st X.env) (SP X pins D) X.xe s
noncomputable def gu(X:Cx)(st:List aq)(t:TS):Prop:=
 ∀(pins:List (ah×Obj))(s:af)(σ:St)(H:Hp)(D:Ends),Inv X pins σ H s->t D σ H->wpAny (model X.prog X.w) X.A (execs st X.env) (SP X pins D) X.xe s
theorem bw{α:Type}{t:Sem α}{Q Q':α->af->Prop}{M:Model}(h:wpAny M A t Q E s)(hQ:∀a s,Q a s->Q' a s):wpAny M A t Q' E s:=iF h hQ λ_ _ x=>x
section
variable{X:Cx}
noncomputable def AW(i:Nat):TE:=λσ H Q=>∃v,σ[i]?=aB (aB v)/\Q v H
noncomputable def tC(v:V):TE:=λ_ H Q=>Q v H
theorem FQ{i:Nat}{x:Str}(hN:X.N[i]?=aB x)(hv:oN X.env.scope x)(hd:autoParam ((x==("__debug__" : Str))=false) L2.aD._auto_1)(hcd:autoParam ((x==("__classdict__" : Str))=false) L2.aD._auto_1):PE X (.Name x pos) (AW i):=by
 intro pins s σ H Q I h;obtain⟨v,e,h⟩:=h;obtain⟨m,hn,hl⟩:=I.loc;obtain⟨u,r,l⟩:=hl i x v hN e hv;have fin:EP X pins σ Q u s:=⟨v,H,I,r,h⟩
 rcases l with⟨hk,hm⟩|⟨hk,c,hc,hcell⟩;exact wpAny_Name (wpAny_loadName_local I.ok.kind hk hn hm fin) hd;rcases hk with hk|hk;exact wpAny_Name (wpAny_loadName_cell I.ok.kind hk hc hcell fin) hd;exact wpAny_Name (wpAny_loadName_free I.ok.kind hk hc hcell fin hcd) hd
theorem Nf{i j pos}:PE X (.Constant (.int i) j pos) (tC (.int i)):=λ_ _ _ H _ I h=>wpAny_Constant_int ⟨.int i,H,I.tok _,⟨_,rfl⟩,h⟩
theorem uQ{b j pos}:PE X (.Constant (.bool b) j pos) (tC (.bl b)):=λ_ _ _ H _ I h=>Constant_bool ⟨.bl b,H,I,rfl,h⟩
theorem Tf{j pos}:PE X (.Constant .none j pos) (tC .aG):=λ_ _ _ H _ I h=>Constant_none ⟨.aG,H,I,rfl,h⟩
theorem HK{x j pos}:PE X (.Constant (.str x) j pos) (tC (.str x)):=λ_ _ _ H _ I h=>Calls.Constant_str ⟨.str x,H,I.tok _,⟨_,rfl⟩,h⟩
noncomputable def Gl(X:Cx)(x:Str):Prop:=X.env.kindOf x=aB .globalImplicit
theorem sr{E:aa->af->Prop}{σ:St}{x:Str}{pos:Pos}(I:Inv X pins σ H s)(hg:Gl X x)(hm:X.mg x=aB u)(h:Q u s)
 (hd:autoParam ((x==("__debug__" : Str))=false) L2.aD._auto_1):wpAny (model X.prog X.w) X.A (eval (.Name x pos) X.env) Q E s:=
 Calls.Name_function_global I.ok.kind hg (Calls.loadGlobal_global (by rw[I.ok.glob];exact I.mod.glob.keeps I.bk) hm h) hd
theorem zH{E:aa->af->Prop}{σ:St}{x:Str}{pos:Pos}(I:Inv X pins σ H s)(hg:Gl X x)(hm:X.mg x=aC)(hv:bootBuiltins x=aB u)(h:Q u s)
 (hn:autoParam (x≠"__name__") L2.aD._auto_1) (hd:autoParam ((x==("__debug__" : Str))=false) L2.aD._auto_1):wpAny (model X.prog X.w) X.A (eval (.Name x pos) X.env) Q E s:=by
 obtain⟨mb,h1,h2⟩:=I.mod.blt;exact Calls.Name_function_global I.ok.kind hg (Calls.loadGlobal_builtin (by rw[I.ok.glob];exact I.mod.glob.keeps I.bk) hm (by rw[I.ok.blt];exact h1.keeps I.bk) ((h2 x hn).trans hv) h) hd
theorem Ng{x:Str}(hg:Gl X x)(hm:X.mg x=aB u)(r:RelV v u)(hd:autoParam ((x==("__debug__" : Str))=false) L2.aD._auto_1):PE X (.Name x pos) (tC v):=
 λ_ _ _ H _ I h=>sr I hg hm ⟨v,H,I,r,h⟩ hd
theorem Nh{x:Str}(hg:Gl X x)(hm:X.mg x=aC)(hv:bootBuiltins x=aB u)(r:RelV v u)(hn:autoParam (x≠"__name__") L2.aD._auto_1)(hd:autoParam ((x==("__debug__" : Str))=false) L2.aD._auto_1):PE X (.Name x pos) (tC v):=
 λ_ _ _ H _ I h=>zH I hg hm hv ⟨v,H,I,r,h⟩ hn hd
variable{a b:ao}{ta tb:TE}{pos:Pos}
noncomputable def tB(t:TE):TT:=λσ H Q=>t σ H λx H1=>∃c,x=.bl c/\Q c H1
theorem Ni(h:PE X e t)(he:∀whole,isTrue e X.env whole=(do let v <-whole;standAt e.pos;holding [v] (truthy v)):=by intro _;rfl):PT X e (tB t):=by
 intro pins s σ H Q I hw;refine isTrue_plain (bw (h pins s σ H _ I hw) λv s1 z9=>z9.el λx H1 I1 r1 q1=>?_) (he _);obtain⟨d,rfl,q⟩:=q1;cases r1;exact oH ⟨H1,I1,q⟩
variable{tA FT:TT}{rest:List ao}
noncomputable def HL(t u:TT):TT:=λσ H Q=>t σ H λc H1=>if c=true then u σ H1 Q else Q false H1
noncomputable def Th(t u:TT):TT:=λσ H Q=>t σ H λc H1=>if c=true then Q true H1 else u σ H1 Q
noncomputable def HM(t:TT):TT:=λσ H Q=>t σ H λc H1=>Q (!c) H1
theorem Ti(ha:PT X a tA):PW X (.BoolOp .And [a] pos) tA:=by
 intro wh pins s σ H Q I h;refine isTrue_and (bw (ha pins s σ H Q I h) λc s1 e=>?_);cases c with|true=>exact isTrue_and_nil e|false=>exact e
theorem Nj(ha:PT X a tA):PW X (.BoolOp .Or [a] pos) tA:=by
 intro wh pins s σ H Q I h;refine isTrue_or (bw (ha pins s σ H Q I h) λc s1 e=>?_);cases c with|false=>exact isTrue_or_nil e|true=>exact e
theorem Tj(ha:PT X a tA)(hb:PW X (.BoolOp .And (b::rest) pos) FT):PW X (.BoolOp .And (a::b::rest) pos) (HL tA FT):=by
 intro wh pins s σ H Q I h;refine isTrue_and (bw (ha pins s σ H _ I h) λc s1 z9=>z9.el λH1 I1 q1=>?_);cases c with|true=>exact hb wh pins s1 σ H1 Q I1 q1|false=>exact⟨H1,I1,q1⟩
theorem pw_or(ha:PT X a tA)(hb:PW X (.BoolOp .Or (b::rest) pos) FT):PW X (.BoolOp .Or (a::b::rest) pos) (Th tA FT):=by
 intro wh pins s σ H Q I h;refine isTrue_or (bw (ha pins s σ H _ I h) λc s1 z9=>z9.el λH1 I1 q1=>?_);cases c with|true=>exact⟨H1,I1,q1⟩|false=>exact hb wh pins s1 σ H1 Q I1 q1
theorem HN(ha:PT X a tA):PT X (.UnaryOp .Not a pos) (HM tA):=by
 intro pins s σ H Q I h;exact isTrue_not (ha pins s σ H (λc H1=>Q (!c) H1) I h)
noncomputable def AX(ta tb:TE):TE:=λσ H Q=>ta σ H λx H1=>∃c,x=.bl c/\if c=true then tb σ H1 Q else Q (.bl false) H1
noncomputable def HP(ta tb:TE):TE:=λσ H Q=>ta σ H λx H1=>∃c,x=.bl c/\if c=true then Q (.bl true) H1 else tb σ H1 Q
noncomputable def AY(ta:TE):TE:=λσ H Q=>ta σ H λx H1=>∃c,x=.bl c/\Q (.bl (!c)) H1
theorem Tn{op}(h:PE X a t):PE X (.BoolOp op [a] pos) t:=λpins s σ H Q I hw=>BoolOp_one (h pins s σ H Q I hw)
theorem To(ha:PE X a ta)(hb:PE X (.BoolOp .And (b::rest) pos) tb):PE X (.BoolOp .And (a::b::rest) pos) (AX ta tb):=by
 intro pins s σ H Q I h;refine BoolOp_and (bw (ha pins s σ H _ I h) λv s1 z9=>z9.el λx H1 I1 r1 q1=>?_);obtain⟨c,rfl,q1⟩:=q1;cases r1;refine oH ?_;cases c with|true=>exact hb pins s1 σ H1 Q I1 q1|false=>exact⟨.bl false,H1,I1,rfl,q1⟩
theorem AZ(ha:PE X a ta)(hb:PE X (.BoolOp .Or (b::rest) pos) tb):PE X (.BoolOp .Or (a::b::rest) pos) (HP ta tb):=by
 intro pins s σ H Q I h;refine BoolOp_or (bw (ha pins s σ H _ I h) λv s1 z9=>z9.el λx H1 I1 r1 q1=>?_);obtain⟨c,rfl,q1⟩:=q1;cases r1;refine oH ?_;cases c with|false=>exact hb pins s1 σ H1 Q I1 q1|true=>exact⟨.bl true,H1,I1,rfl,q1⟩
theorem Tp(ha:PE X a ta):PE X (.UnaryOp .Not a pos) (AY ta):=by
 intro pins s σ H Q I h;refine UnaryOp_ (bw (ha pins s σ H _ I h) λv s1 z9=>z9.el λx H1 I1 r1 q1=>?_);obtain⟨c,rfl,q1⟩:=q1;cases r1;exact not_of (oH ⟨.bl (!c),H1,I1,rfl,q1⟩)
noncomputable def Tq(t:TT)(ta tb:TE):TE:=λσ H Q=>t σ H λc H1=>if c=true then ta σ H1 Q else tb σ H1 Q
theorem Tr(hc:PT X c tA)(ha:PE X a ta)(hb:PE X b tb):PE X (.IfExp c a b pos) (Tq tA ta tb):=by
 intro pins s σ H Q I h;refine wpAny_IfExp (bw (hc pins s σ H _ I h) λd s1 z9=>z9.el λH1 I1 q1=>?_);cases d with|true=>exact ha pins s1 σ H1 Q I1 q1|false=>exact hb pins s1 σ H1 Q I1 q1
end
noncomputable def cM(K:aI)(H:Hp)(a:ah)(xs:List V):Prop:=
 Rd H a (.lst xs)\/
  ∃(o:Obj) (its:Array aa) (n:Nat),K.lookup a=aB o/\o.cls=.type "list"/\o.dict=aC/\o.data=.seq its n/\its.size<=sizeLine/\Vals xs its.toList
noncomputable def cD(K:aI)(H:Hp)(a:ah)(xs:List V):Prop:=
 Rd H a (.tup xs)\/
  ∃(o:Obj) (its:Array aa) (n:Nat),K.lookup a=aB o/\o.cls=.type "tuple"/\o.dict=aC/\o.data=.seq its n/\its.size<=sizeLine/\Vals xs its.toList
noncomputable def HQ:aa->Option V|.none=>aB .aG|.bool b=>aB (.bl b)|.int i _=>aB (.int i)|.str x _=>aB (.str x)|.bytes b _=>aB (.mz b)|.float b _=>aB (.wZ b)|.ref a=>aB (.ref a)|.type n=>aB (.ty n)|_=>aC
theorem RelV.abs(r:RelV x u):HQ u=aB x:=by
 cases x with|aG=>cases r;rfl|bl _=>cases r;rfl|int _=>obtain⟨t,rfl⟩:=r;rfl|str _=>obtain⟨t,rfl⟩:=r;rfl|mz _=>obtain⟨t,rfl⟩:=r;rfl|wZ _=>obtain⟨t,rfl⟩:=r;rfl|ref _=>cases r;rfl|ty _=>cases r;rfl
theorem RelV.inj(r:RelV x u)(q:RelV y u):x=y:=lz (r.abs.symm.trans q.abs)
theorem Vals.inj:∀{xs ys:List V} {us:List aa},Vals xs us->Vals ys us->xs=ys|_,_,_,.nil,.nil=>rfl|_,_,_,.cons r t,.cons r' t'=>by rw[r.inj r',Vals.inj t t']
section
variable{X:Cx}{pins:List (ah×Obj)}{σ:St}{H:Hp}{s:af}{a:ah}{xs ys:List V}
theorem cM.of{K:aI}(h:H a=aB (.lst xs)):cM K H a xs:=.inl (.inl h)
theorem cD.of{K:aI}(h:H a=aB (.tup xs)):cD K H a xs:=.inl (.inl h)
theorem Inv.list(I:Inv X pins σ H s)(h:cM X.K H a xs):∃its:List aa,Vals xs its/\PlainL s.heap a its.toArray/\xs.length<=sizeLine:=by
 rcases h with h|⟨o,its,n,hk,hc,hd,hs,hz,r⟩;obtain⟨z,its,n,r,e⟩:=h.ok I.hok;exact⟨its,r,⟨_,n,e,rfl,rfl,rfl⟩,z⟩;refine⟨its.toList,r,⟨o,n,I.dM a o hk,hc,hd,by simpa using hs⟩,?_⟩;have e:=r.length;simp only[Fy]at e;lia
theorem Inv.oQ(I:Inv X pins σ H s)(h:cD X.K H a xs):∃its:List aa,Vals xs its/\mC s.heap a its.toArray/\xs.length<=sizeLine:=by
 rcases h with h|⟨o,its,n,hk,hc,hd,hs,hz,r⟩;obtain⟨z,its,r,p⟩:=h.ok I.hok;exact⟨its,r,p,z⟩;refine⟨its.toList,r,⟨o,I.dM a o hk,hc,⟨n,by simpa using hs⟩,hd⟩,?_⟩;have e:=r.length;simp only[Fy]at e;lia
theorem Inv.tuple(I:Inv X pins σ H s)(h:cD X.K H a xs):∃its:List aa,Vals xs its/\IsTup s.heap a its.toArray/\xs.length<=sizeLine:=by
 obtain⟨its,r,p,z⟩:=I.oQ h;exact⟨its,r,p.tup,z⟩
theorem Inv.j6(I:Inv X pins σ H s)(h:cM X.K H a xs)(h':cM X.K H a ys):xs=ys:=by
 obtain⟨its,r,⟨o,n,e,_,_,d⟩,_⟩:=I.list h;obtain⟨its',r',⟨o',n',e',_,_,d'⟩,_⟩:=I.list h';rw[e]at e';cases e';rw[d]at d';injection d' with d1 _;have:its=its':=by simpa using k8 Array.toList d1
 subst this;exact r.inj r'
theorem Inv.gJ(I:Inv X pins σ H s)(h:cD X.K H a xs)(h':cD X.K H a ys):xs=ys:=by
 obtain⟨its,r,⟨o,e,_,n,d⟩,_⟩:=I.tuple h;obtain⟨its',r',⟨o',e',_,n',d'⟩,_⟩:=I.tuple h';rw[e]at e';cases e';rw[d]at d';injection d' with d1 _;have:its=its':=by simpa using k8 Array.toList d1
 subst this;exact r.inj r'
end
noncomputable abbrev Cx.cU(X:Cx)(E:aa->af->Prop):Cx:={X with xe:=E}
noncomputable abbrev Cx.eH(X:Cx):Cx:=X.cU λ_ _=>False
theorem Cx.Ok.cU{X:Cx}(ok:X.Ok)(E:aa->af->Prop):(X.cU E).Ok:=
 ⟨ok.mod,ok.kind,ok.glob,ok.blt,ok.above,ok.inj,ok.has,ok.xj,ok.hd,ok.frames,ok.stk,ok.zG,ok.bs,ok.oO,ok.lB,ok.lC,ok.gk,ok.rm⟩
theorem Cx.Ok.bz{X:Cx}{E:aa->af->Prop}(ok:(X.cU E).Ok):X.Ok:=
 ⟨ok.mod,ok.kind,ok.glob,ok.blt,ok.above,ok.inj,ok.has,ok.xj,ok.hd,ok.frames,ok.stk,ok.zG,ok.bs,ok.oO,ok.lB,ok.lC,ok.gk,ok.rm⟩
section
variable{X:Cx}{pins:List (ah×Obj)}{σ:St}{H:Hp}{s:af}{E:aa->af->Prop}
theorem Inv.cU(I:Inv X pins σ H s)(E:aa->af->Prop):Inv (X.cU E) pins σ H s:=⟨I.ok.cU E,I.os,I.bare,I.base,I.loc,I.cell,I.free,I.dD,I.pin,I.hok,I.len⟩
theorem Inv.bz(I:Inv (X.cU E) pins σ H s):Inv X pins σ H s:=⟨I.ok.bz,I.os,I.bare,I.base,I.loc,I.cell,I.free,I.dD,I.pin,I.hok,I.len⟩
theorem SP.bz{D:Ends}{f:Flow}(h:SP (X.cU E) pins D f s'):SP X pins D f s':=by
 cases f with|next=>obtain⟨σ',H',I,q⟩:=h;exact⟨σ',H',I.bz,q⟩|brk=>obtain⟨σ',H',I,q⟩:=h;exact⟨σ',H',I.bz,q⟩|cont=>obtain⟨σ',H',I,q⟩:=h;exact⟨σ',H',I.bz,q⟩|ret u=>obtain⟨v,σ',H',I,r,q⟩:=h;exact⟨v,σ',H',I.bz,r,q⟩
theorem PE.eH(h:PE X.eH e t):PE X e t:=λpins s σ H Q I hw=>
 iF (h pins s σ H Q (I.cU _) hw) (λ_ _ ⟨v,H',I',r,q⟩=>⟨v,H',I'.bz,r,q⟩) λ_ _ z=>False.elim z
theorem PT.eH(h:PT X.eH e t):PT X e t:=λpins s σ H Q I hw=>
 iF (h pins s σ H Q (I.cU _) hw) (λ_ _ ⟨H',I',q⟩=>⟨H',I'.bz,q⟩) λ_ _ z=>False.elim z
theorem gu.eH{st:List aq}{t:TS}(h:gu X.eH st t):gu X st t:=λpins s σ H D I hw=>
 iF (h pins s σ H D (I.cU _) hw) (λ_ _ q=>q.bz) λ_ _ z=>False.elim z
end
section
variable{X:Cx}{st:aq}{rest:List aq}{t u:TS}{e:ao}{te:TE}{pos:Pos}
noncomputable def uR:TS:=λD σ H=>D.nx σ H
noncomputable def HS(t u:TS):TS:=λD σ H=>t {D with nx:=u D} σ H
theorem Nk:gu X [] uR:=λ_ _ σ H _ I h=>zf ⟨σ,H,I,h⟩
theorem FU(h1:PS X st t)(h2:gu X rest u):gu X (st::rest) (HS t u):=by
 intro pins s σ H D I h;refine wpAny_execs_cons (bw (h1 pins s σ H {D with nx:=u D} I h) λf s1 q=>?_);cases f with
 |next=>
  obtain⟨σ',H',I',q⟩:=q;exact h2 pins s1 σ' H' D I' q
 |ret v=>exact q
 |brk=>exact q
 |cont=>exact q
theorem FW(h1:PS X st t):gu X [st] t:=by
 intro pins s σ H D I h;refine wpAny_execs_cons (bw (h1 pins s σ H D I h) λf s1 q=>?_);cases f with|next=>exact zf q|ret v=>exact q|brk=>exact q|cont=>exact q
noncomputable def Tt:TS:=λD σ H=>D.bk σ H
noncomputable def A0:TS:=λD σ H=>D.ct σ H
theorem Tu:PS X (.Pass pos) uR:=λ_ _ σ H _ I h=>wpAny_Pass ⟨σ,H,I,h⟩
theorem Tv:PS X (.Break pos) Tt:=λ_ _ σ H _ I h=>wpAny_Break ⟨σ,H,I,h⟩
theorem Tw:PS X (.Continue pos) A0:=λ_ _ σ H _ I h=>wpAny_Continue ⟨σ,H,I,h⟩
theorem Inv.quiet{σ:St}(I:Inv X pins σ H s):interactive X.env=false:=by simp[interactive,I.ok.kind]
noncomputable def A3(te:TE):TS:=λD σ H=>te σ H λ_ H1=>D.nx σ H1
theorem Nl(he:PE X e te)(hs:autoParam (swapsWith e aC pos.line X.env=pure false) L2.aR._auto_1):PS X (.Expr e pos) (A3 te):=by
 intro pins s σ H D I h;exact wpAny_Expr_any (bw (he pins s σ H _ I h) λv s1 z9=>z9.el λx H1 I1 r1 q1=>⟨σ,H1,I1,q1⟩) I.quiet hs
noncomputable def HU(te:TE):TS:=λD σ H=>te σ H D.rt
theorem A4(he:PE X e te):PS X (.Return (aB e) pos) (HU te):=by
 intro pins s σ H D I h;exact wpAny_Return_some (bw (he pins s σ H _ I h) λv s1 z9=>z9.el λx H1 I1 r1 q1=>⟨x,σ,H1,I1,r1,q1⟩)
noncomputable def A5:TS:=λD _ H=>D.rt .aG H
theorem Tz:PS X (.Return aC pos) A5:=λ_ _ σ H _ I h=>wpAny_Return_none ⟨.aG,σ,H,I,rfl,h⟩
noncomputable def HV(c:TT)(t u:TS):TS:=λD σ H=>c σ H λb H1=>if b=true then t D σ H1 else u D σ H1
theorem oR(hc:PT X c tc)(ha:gu X a t)(hb:gu X b u):PS X (.If c a b pos) (HV tc t u):=by
 intro pins s σ H D I h;refine wpAny_If (bw (hc pins s σ H _ I h) λd s1 z9=>z9.el λH1 I1 q1=>?_);cases d with|true=>exact ha pins s1 σ H1 D I1 q1|false=>exact hb pins s1 σ H1 D I1 q1
noncomputable def TF:TS:=λ_ _ _=>False
theorem TH:PS X st TF:=λ_ _ _ _ _ _ h=>h.elim
end
noncomputable abbrev TG:=V->St->Hp->(St->Hp->Prop)->Prop
noncomputable abbrev zI:=List V->St->Hp->(St->Hp->Prop)->Prop
noncomputable def PG(X:Cx)(target:ao)(t:TG):Prop:=
 ∀(pins:List (ah×Obj))(s:af)(σ:St)(H:Hp)(v:V)(u:aa)(Q:St->Hp->Prop),Inv X pins σ H s->RelV v u->t v σ H Q->
  wpAny (model X.prog X.w) X.A (assign target X.env u) (λ_ s'=>∃σ' H',Inv X pins σ' H' s'/\Q σ' H') X.xe s
noncomputable def zJ(X:Cx)(ts:List ao)(t:zI):Prop:=
 ∀(pins:List (ah×Obj))(s:af)(σ:St)(H:Hp)(vs:List V)(us:List aa)(Q:St->Hp->Prop),Inv X pins σ H s->Vals vs us->t vs σ H Q->
  wpAny (model X.prog X.w) X.A (assignInOrder ((assignEach ts X.env).map (·.2)) us) (λ_ s'=>∃σ' H',Inv X pins σ' H' s'/\Q σ' H') X.xe s
noncomputable abbrev xm:=V->V->V->Hp->(Hp->Prop)->Prop
noncomputable def lD(X:Cx)(t:xm):Prop:=
 ∀(pins:List (ah×Obj))(s:af)(σ:St)(H:Hp)(o i v:V)(ov iv u:aa)(Q:Hp->Prop),Inv X pins σ H s->RelV o ov->RelV i iv->RelV v u->t o i v H Q->
  wpAny (model X.prog X.w) X.A (setItem ov iv u) (λ_ s'=>∃H',Inv X pins σ H' s'/\Q H') X.xe s
noncomputable abbrev FY:=V->V->Hp->VK->Prop
noncomputable def HX(X:Cx)(op:Operator)(t:FY):Prop:=
 ∀(pins:List (ah×Obj))(s:af)(σ:St)(H:Hp)(x y:V)(v u:aa)(Q:VK),Inv X pins σ H s->RelV x v->RelV y u->t x y H Q->
  wpAny (model X.prog X.w) X.A (inplaceOp op v u) (EP X pins σ Q) X.xe s
section
variable{X:Cx}{pos:Pos}
noncomputable def j7(i:Nat):TG:=λv σ H Q=>Q (σ.set i (aB v)) H
theorem Nm{i:Nat}{x:Str}(hN:X.N.Nodup)(hi:X.N[i]?=aB x)(hx:Loc X.env.scope x)(hf:autoParam (X.fn x=true\/X.env.scope.names.lookup x=aB .local) L2.aF._auto_1):PG X (.Name x pos) (j7 i):=by
 intro pins s σ H v u Q I r h;exact wpAny_assign_Name (FP I hN hi hx r (λs' I'=>⟨_,H,I',h⟩) hf)
noncomputable def HY:zI:=λvs σ H Q=>vs=[]/\Q σ H
noncomputable def A6(t:TG)(u:zI):zI:=λvs σ H Q=>∃v r,vs=v::r/\t v σ H λσ' H'=>u r σ' H' Q
theorem TJ:zJ X [] HY:=by
 intro pins s σ H vs us Q I r h;obtain⟨e,h⟩:=h;subst e;cases r;exact assignInOrder_nil ⟨σ,H,I,h⟩
theorem TL(h1:PG X e t)(h2:zJ X es u)
 (hs:autoParam ((assignEach (e::es) X.env).map (·.2)=assign e X.env:: (assignEach es X.env).map (·.2)) L2.aR._auto_1):zJ X (e::es) (A6 t u):=by
 intro pins s σ H vs us Q I r h;obtain⟨v,vr,e1,h⟩:=h;subst e1;cases r with
 |cons r rr=>
  rw[hs];refine assignInOrder_cons (bw (h1 pins s σ H _ _ _ I r h) λ_ s1 cR=>?_);obtain⟨σ1,H1,I1,q1⟩:=cR;exact h2 pins s1 σ1 H1 _ _ Q I1 rr q1
noncomputable def HZ(K:aI)(n:Nat)(t:zI):TG:=λv σ H Q=>∃a xs,v=.ref a/\cD K H a xs/\xs.length=n/\t xs σ H Q
theorem TM{k:Nat}{n:Nat}(hc:X.calm)(h:zJ X es t)
 (hn:autoParam ((assignEach es X.env).length=n) L2.aR._auto_1) (hst:autoParam ((assignEach es X.env).findIdx? (·.1)=aC) L2.aR._auto_1):PG X (.Tuple es k pos) (HZ X.K n t):=by
 intro pins s σ H v u Q I r hw;obtain⟨a,xs,e1,hq,hl,hw⟩:=hw;subst e1;cases r;obtain⟨its,rv,ht,hz⟩:=I.tuple hq;refine assign_Tuple_tuple (I.ok.hd hc) ht (by simp[hn,<-hl,rv.length]) hst λh' hx=>?_;have I1:Inv X pins σ H {s with heap:=h'}:=I.kept (t':=s.toks) λb o e=>hx b o (fj (cF e)) e;exact h pins _ σ H xs _ Q I1 (by simpa using rv) hw
noncomputable def Ia(to ti:TE)(t:xm):TG:=λv σ H Q=>to σ H λo H1=>ti σ H1 λi H2=>t o i v H2 λH3=>Q σ H3
theorem TN{t:xm}(ho:PE X o to)(hi:PE X i ti)(hs:lD X t)
 (ha:∀v,assign (.Subscript o i pos) X.env v=(do
   let ov <-holding [v] (eval o X.env);let iv <-holding [v,ov] (eval i X.env)
   standAt pos
   holding [v,ov,iv] (setItem ov iv v)
   release [v,ov,iv] []):=by intro _;rfl):PG X (.Subscript o i pos) (Ia to ti t):=by
 intro pins s σ H v u Q I r h;rw[ha];refine aK (mh (bw (ho pins s σ H _ I h) λov s1 z9=>z9.el λx H1 I1 r1 q1=>?_));refine aK (mh (bw (hi pins s1 σ H1 _ I1 q1) λiv s2 z9=>z9.el λy H2 I2 r2 q2=>?_));refine aK (kT (aK (mh (bw (hs pins s2 σ H2 x y v ov iv u _ I2 r1 r2 r q2) λ_ s3 cR=>?_))));obtain⟨H3,I3,q3⟩:=cR;exact wpAny_release ⟨σ,H3,I3,q3⟩
noncomputable def xo(te:TE)(g:TG):TS:=λD σ H=>te σ H λx H1=>g x σ H1 D.nx
theorem Nn(he:PE X e te)(hg:PG X tg g)(hs:autoParam (swapsWithSole [tg] e pos.line X.env=pure false) L2.aR._auto_1)(hw:autoParam (swappedStores [tg] e X.env=pure aC) L2.aR._auto_1)
 (h1:autoParam ((assignEach [tg] X.env).map (·.2)=[assign tg X.env]) L2.aR._auto_1):PS X (.Assign [tg] e pos) (xo te g):=by
 intro pins s σ H D I h;refine wpAny_Assign_stores (bw (he pins s σ H _ I h) λv s1 z9=>z9.el λx H1 I1 r1 q1=>?_) hs hw;rw[h1];exact bw (hg pins s1 σ H1 x v _ I1 r1 q1) λ_ s2 q=>q
theorem Np{i:Nat}{x:Str}(hN:X.N.Nodup)(hi:X.N[i]?=aB x)(hx:Loc X.env.scope x)(he:PE X e te)(hs:autoParam (swapsWith e (aB (.Name x pos')) pos.line X.env=pure false) L2.aR._auto_1)(hf:autoParam (X.fn x=true\/X.env.scope.names.lookup x=aB .local) L2.aF._auto_1) :
 PS X (.Assign [.Name x pos'] e pos) (xo te (j7 i)):=by
 intro pins s σ H D I h;refine wpAny_Assign_Name (bw (he pins s σ H _ I h) λv s1 z9=>z9.el λy H1 I1 r1 q1=>?_) hs;exact FP I1 hN hi hx r1 (λs2 I2=>⟨_,H1,I2,q1⟩) hf
noncomputable def Ib(i:Nat)(te:TE)(ti:FY):TS:=λD σ H=>∃x,σ[i]?=aB (aB x)/\te σ H λy H1=>ti x y H1 λz H2=>D.nx (σ.set i (aB z)) H2
theorem TQ{i:Nat}{x:Str}{op:Operator}{ti:FY}{pos':Pos}(hN:X.N.Nodup)(hi:X.N[i]?=aB x)(hx:Loc X.env.scope x)(he:PE X e te)(ho:HX X op ti)(hf:autoParam (X.fn x=true\/X.env.scope.names.lookup x=aB .local) L2.aF._auto_1) :
 PS X (.AugAssign (.Name x pos') op e pos) (Ib i te ti):=by
 intro pins s σ H D I h;obtain⟨v,e1,h⟩:=h;obtain⟨m,hn,hl⟩:=I.loc;have vis:oN X.env.scope x:=by rcases hx with k|k;exact .inl k;exact .inr (.inl k)
 obtain⟨u,r,l⟩:=hl i x v hi e1 vis;refine wpAny_AugAssign_Name ?_;have go:wpAny (model X.prog X.w) X.A (eval e X.env) (λw s₂=>wpAny (model X.prog X.w) X.A (inplaceOp op u w) (λr s₃=>wpAny (model X.prog X.w) X.A (storeName X.env x r) (λ_=>SP X pins D .next) X.xe s₃) X.xe s₂) X.xe s:=by
  refine bw (he pins s σ H _ I h) λw s1 z9=>z9.el λy H1 I1 r1 q1=>?_;refine bw (ho pins s1 σ H1 v y u w _ I1 r r1 q1) λz s2 z9=>z9.el λzv H2 I2 r2 q2=>?_;exact FP I2 hN hi hx r2 (λs3 I3=>⟨_,H2,I3,q2⟩) hf
 rcases l with⟨hk,hm⟩|⟨hk,c,hc,hcell⟩;exact wpAny_loadName_local I.ok.kind hk hn hm go;rcases hk with hk|hk;exact wpAny_loadName_cell I.ok.kind hk hc hcell go;rcases hx with k|k;have:X.env.scope.names.lookup x=aB .free:=hk;rw[k]at this;cases this;have:X.env.scope.names.lookup x=aB .free:=hk;rw[k]at this;cases this
noncomputable def Nq(f:Int->Int->Int):FY:=λx y H Q=>∃i j,x=.int i/\y=.int j/\Q (.int (f i j)) H
theorem TU:HX X .Add (Nq λi j=>i+j):=by
 intro pins s σ H x y v u Q I r1 r2 h;obtain⟨i,j,e1,e2,q⟩:=h;subst e1;subst e2;obtain⟨t,rfl⟩:=r1;obtain⟨t',rfl⟩:=r2;exact iadd_int ⟨.int _,H,I.tok _,⟨_,rfl⟩,q⟩
end
section
variable{X:Cx}{pos:Pos}
noncomputable def TV(c:TT)(tb:TS):TS:=λD σ H=>∃W:Nat->St->Hp->Prop,(∃m,W m σ H)/\∀m σ H,W m σ H->
 c σ H λb H1=>if b=true then ∃N:St->Hp->Prop,(∀σ' H',N σ' H'->∃m',m'<m/\W m' σ' H')/\tb {D with nx:=N,ct:=N,bk:=D.nx} σ H1 else D.nx σ H1
theorem TX(hp:PassesOwn (model X.prog X.w) X.A X.env X.xe)(hc:PT X c tc)(hb:gu X body tb):PS X (.While c body [] pos) (TV tc tb):=by
 intro pins s σ H D I h;obtain⟨W,⟨m0,w0⟩,turn⟩:=h;refine wpAny_While (codeAny_whileLoop (λn s'=>∃σ' H',Inv X pins σ' H' s'/\W n σ' H') ?_ m0 ⟨σ,H,I,w0⟩);rintro n s1 ⟨σ1,H1,I1,w1⟩;refine wM hp (bw (hc pins s1 σ1 H1 _ I1 (turn n σ1 H1 w1)) λb s2 z9=>z9.el λH2 I2 q2=>?_);cases b with
 |true=>
  obtain⟨N,hN,q2⟩:=q2;rw[if_pos rfl];refine wM hp (bw (hb pins s2 σ1 H2 _ I2 q2) λf s3 q3=>?_);cases f with
  |next=>
   obtain⟨σ3,H3,I3,n3⟩:=q3;obtain⟨m',hm,w3⟩:=hN σ3 H3 n3;exact⟨m',hm,σ3,H3,I3,w3⟩
  |cont=>
   obtain⟨σ3,H3,I3,n3⟩:=q3;obtain⟨m',hm,w3⟩:=hN σ3 H3 n3;exact⟨m',hm,σ3,H3,I3,w3⟩
  |brk=>exact q3
  |ret v=>exact q3
 |false=>
  rw[if_neg iZ];exact zf ⟨σ1,H2,I2,q2⟩
end
set_option genInjectivity false in
structure It where
 go:Nat->Hp->Prop
 A7:Nat->Hp->V->Hp->Prop
 stop:Nat->Hp->Prop
noncomputable def gv(X:Cx)(pins:List (ah×Obj))(H:Hp)(b:ah):Prop:=
 H b=aC/\b≠X.env.locals/\b∉X.fs/\(b∈X.ex\/X.s₀.heap.objs.size<=b)/\(∀x c,X.env.cells.lookup x=aB c->c≠b)/\∀p∈X.pn++pins,p.1≠b
theorem Inv.nv{σ:St}{b:ah}(I:Inv X pins σ H s)(hb:s.heap.objs.size<=b)(hn:H' b=aC):gv X pins H' b:=by
 refine⟨hn,kW (ff I.lt hb),I.HE hb,.inr (fS I.sz hb),λx c e z=>?_,λp hp z=>?_⟩;obtain⟨v,q⟩:=I.cell x c e;exact absurd (ff q.lt (by rw[z];exact hb)) (nq _);exact absurd (ff (cF (I.pin p hp).1) (by rw[z];exact hb)) (nq _)
structure Turn(P:ai)(w:aj)(K:aI)(tg:ao)(J:It)(fp:List ah)(it:ah)(tn:Nat->az->Prop):Prop where
 mem:it∈fp
 obj:∀i h,tn i h->∀b∈fp,∃o,h.get? b=aB o/\∀v,o.data≠.cell v
 keep:∀i h h',tn i h->(∀b∈fp,∀o,h.get? b=aB o->h'.get? b=aB o)->tn i h'
 item:∀(X:Cx),X.prog=P->X.w=w->X.K=K->X.calm=true->∀(i:Nat)(pins:List (ah×Obj))(s:af)(σ:St)(H:Hp)(E:aa->af->Prop),Inv X pins σ H s->(∀b∈fp,gv X pins H b)->tn i s.heap->J.go i H->
  wpAny (model P w) X.A (pyNext (.ref it)) (λr s1=>∃u,r=aB u/\
   wpAny (model P w) X.A (letOwnedTupleGo tg (.ref it) u) (λ_ s2=>∃x H',Inv X pins σ H' s2/\RelV x u/\J.A7 i H x H'/\tn (i+1) s2.heap/\∀b∈fp,H' b=aC) E s1) E s
 done:∀(X:Cx),X.prog=P->X.w=w->X.K=K->X.calm=true->∀(i:Nat)(pins:List (ah×Obj))(s:af)(σ:St)(H:Hp)(E:aa->af->Prop),Inv X pins σ H s->(∀b∈fp,gv X pins H b)->tn i s.heap->J.stop i H->
  wpAny (model P w) X.A (pyNext (.ref it)) (λr s1=>r=aC/\Inv X pins σ H s1) E s
 self:∀(A:ak)(i:Nat)(s:af)(Q:aa->af->Prop)(E:aa->af->Prop),tn i s.heap->Q (.ref it) s->wpAny (model P w) A (pyIter (.ref it)) Q E s
noncomputable abbrev TI:=St->Hp->(It->Hp->Prop)->Prop
noncomputable def Ic(X:Cx)(pins:List (ah×Obj))(σ:St)(tg:ao)(R:It->Hp->Prop)(itv:aa)(s2:af):Prop:=
 ∃(it:ah) (fp:List ah) (tn:Nat->az->Prop) (J:It) (H':Hp),itv=.ref it/\Inv X pins σ H' s2/\Turn X.prog X.w X.K tg J fp it tn/\tn 0 s2.heap/\(∀b∈fp,gv X pins H' b)/\R J H'
noncomputable def PI(X:Cx)(tg iter:ao)(wi:TI):Prop:=
 ∀(pins:List (ah×Obj))(s:af)(σ:St)(H:Hp)(R:It->Hp->Prop),Inv X pins σ H s->wi σ H R->
  wpAny (model X.prog X.w) X.A (eval iter X.env) (λv s1=>wpAny (model X.prog X.w) X.A (pyIter v) (Ic X pins σ tg R) X.xe s1) X.xe s
theorem oS{M:Model}{A:ak}{E:aa->af->Prop}{tg:ao}{it:ah}{u:aa}{n:String}{vs:Array aa}{Q:Unit->af->Prop}(ho:s.heap.get? it=aB o)(hc:o.cls=.type n)(hd:o.data=.fields vs)
 (hn:["enumerate","zip","dict_itemiterator","dict_reverseitemiterator","odict_iterator","itertools.zip_longest","itertools.pairwise"].contains n=false) (hQ:Q () s):wpAny M A (letOwnedTupleGo tg (.ref it) u) Q E s:=by
 unfold letOwnedTupleGo;cases tg<;>first
  |exact br hQ
  |(cases u<;>first
     |exact br hQ
     |(refine aK (wpAny_load ho ?_)
       rw[hc,hd];show wpAny M A (if(["enumerate","zip","dict_itemiterator","dict_reverseitemiterator","odict_iterator","itertools.zip_longest","itertools.pairwise"].contains n&&vs[0]? == aB (rawInt _))=true then _ else _) Q E s;rw[if_neg (by intro h;rw[hn,qV]at h;cases h)];exact br hQ))
noncomputable def FZ(K:aI)(a:ah):It:=
 ⟨λi H=>∃xs x,cM K H a xs/\xs[i]?=aB x,λi H x H'=>H'=H/\∀xs,cM K H a xs->xs[i]?=aB x,λi H=>∃xs,cM K H a xs/\xs.length<=i⟩
noncomputable def Ie(K:aI)(a:ah):It:=
 ⟨λi H=>∃xs x,cD K H a xs/\xs[i]?=aB x,λi H x H'=>H'=H/\∀xs,cD K H a xs->xs[i]?=aB x,λi H=>∃xs,cD K H a xs/\xs.length<=i⟩
noncomputable def F0(lo:Int)(n:Nat):It:=⟨λi _=>i<n,λi H x H'=>H'=H/\x=.int (lo+i),λi _=>n<=i⟩
theorem TY{P:ai}{w:aj}{K:aI}{tg:ao}(a it:ah):Turn P w K tg (FZ K a) [it] it (λi h=>h.IsListIter it a i)where
 mem:=by simp
 obj:=λi h st b hb=>by
  have e:b=it:=by simpa using hb
  subst e;obtain⟨o,e,c,d⟩:=st;exact⟨o,e,λv z=>by rw[d]at z;cases z⟩
 keep:=λi h h' st k=>st.at λo e=>k it (by simp) o e
 item:=by
  intro X hP hw hK hc i pins s σ H E I hf st hg;subst hP hw hK;obtain⟨xs,x,hq,hx⟩:=hg;obtain⟨its,rv,p,hz⟩:=I.list hq;obtain⟨u,hu,ru⟩:=rv.get hx;obtain⟨f0,f1,f2,f3,f4,f5⟩:=hf it (by simp);refine wpAny_pyNext_list_item st p.isList (x:=u) (by simpa using hu) λh' st' sb=>?_;have I1:Inv X pins σ H {s with heap:=h'}:=I.turned (t':=s.toks) (λb o hb e=>(sb.2 b hb).trans e) f0 f1 f3 f4 f5;obtain⟨o,e,c,d⟩:=id st';exact⟨u,rfl,oS (s:={s with heap:=h'}) e c d (by decide) ⟨x,H,I1,ru,⟨rfl,λys hy=>by rw[I.j6 hy hq];exact hx⟩,st',λb hb=>(hf b hb).1⟩⟩
 done:=by
  intro X hP hw hK hc i pins s σ H E I hf st hg;subst hP hw hK;obtain⟨xs,hq,hx⟩:=hg;obtain⟨its,rv,p,hz⟩:=I.list hq;obtain⟨f0,f1,f2,f3,f4,f5⟩:=hf it (by simp);have hl:=rv.length;exact wpAny_pyNext_list_end (I.ok.hd hc) st p.isList (by simp;lia) λh' eb=>⟨rfl,I.turned (t':=s.toks) (λb o hb e=>eb b o hb e) f0 f1 f3 f4 f5⟩
 self:=λ_ _ _ _ _ st h=>wpAny_pyIter_listiter st h
theorem TZ{P:ai}{w:aj}{K:aI}{tg:ao}(a it:ah):Turn P w K tg (Ie K a) [it] it (λi h=>h.IsTupleIter it a i)where
 mem:=by simp
 obj:=λi h st b hb=>by
  have e:b=it:=by simpa using hb
  subst e;obtain⟨o,e,c,d⟩:=st;exact⟨o,e,λv z=>by rw[d]at z;cases z⟩
 keep:=λi h h' st k=>st.at λo e=>k it (by simp) o e
 item:=by
  intro X hP hw hK hc i pins s σ H E I hf st hg;subst hP hw hK;obtain⟨xs,x,hq,hx⟩:=hg;obtain⟨its,rv,p,hz⟩:=I.tuple hq;obtain⟨u,hu,ru⟩:=rv.get hx;obtain⟨f0,f1,f2,f3,f4,f5⟩:=hf it (by simp);refine wpAny_pyNext_tuple_item st (show s.heap.IsTuple a its.toArray from p) (x:=u) (by simpa using hu) λh' st' sb=>?_;have I1:Inv X pins σ H {s with heap:=h'}:=I.turned (t':=s.toks) (λb o hb e=>(sb.2 b hb).trans e) f0 f1 f3 f4 f5;obtain⟨o,e,c,d⟩:=id st';exact⟨u,rfl,oS (s:={s with heap:=h'}) e c d (by decide) ⟨x,H,I1,ru,⟨rfl,λys hy=>by rw[I.gJ hy hq];exact hx⟩,st',λb hb=>(hf b hb).1⟩⟩
 done:=by
  intro X hP hw hK hc i pins s σ H E I hf st hg;subst hP hw hK;obtain⟨xs,hq,hx⟩:=hg;obtain⟨its,rv,p,hz⟩:=I.tuple hq;obtain⟨f0,f1,f2,f3,f4,f5⟩:=hf it (by simp);have hl:=rv.length;exact wpAny_pyNext_tuple_end (I.ok.hd hc) st (show s.heap.IsTuple a its.toArray from p) (by simp;lia) λh' eb=>⟨rfl,I.turned (t':=s.toks) (λb o hb e=>eb b o hb e) f0 f1 f3 f4 f5⟩
 self:=λ_ _ _ _ _ st h=>wpAny_pyIter_tupleiter st h
theorem T3{P:ai}{w:aj}{K:aI}{tg:ao}(it:ah)(lo:Int)(n:Nat):Turn P w K tg (F0 lo n) [it] it (λi h=>IsRangeIter h it (lo+ (i:Nat)*1) ((n:Int)- (i:Nat)) 1)where
 mem:=by simp
 obj:=λi h st b hb=>by
  have e:b=it:=by simpa using hb
  subst e;exact⟨_,st,λv z=>by
   have z':Data.fields _=Data.cell v:=z;cases z'⟩
 keep:=λi h h' st k=>k it (by simp) _ st
 item:=by
  intro X hP hw hK hc i pins s σ H E I hf st hg;subst hP hw hK;obtain⟨f0,f1,f2,f3,f4,f5⟩:=hf it (by simp);have W:=Walks.range (prog:=X.prog) (w:=X.w) (I.ok.hd hc) it lo 1 n;refine W.item i s _ _ hg st λv h' tk hv st' kk=>?_;obtain⟨t,rfl⟩:=hv;have I1:Inv X pins σ H {s with heap:=h',toks:=tk}:=I.turned (λb o hb e=>kk b o (by simpa using hb) e) f0 f1 f3 f4 f5;refine⟨_,rfl,oS (s:={s with heap:=h',toks:=tk}) (n:="range_iterator") st' rfl rfl (by decide) ⟨.int (lo+i),H,I1,⟨t,?_⟩,⟨rfl,rfl⟩,st',λb hb=>(hf b hb).1⟩⟩;rw[Int.mul_one]
 done:=by
  intro X hP hw hK hc i pins s σ H E I hf st hg;subst hP hw hK;obtain⟨f0,f1,f2,f3,f4,f5⟩:=hf it (by simp);exact wpAny_pyNext_range_end (I.ok.hd hc) st (by have:n<=i:=hg;lia) λh' eb=>⟨rfl,I.turned (t':=s.toks) (λb o hb e=>eb b o hb e) f0 f1 f3 f4 f5⟩
 self:=λ_ _ _ _ _ st h=>wpAny_pyIter_rangeiter st h
section
variable{X:Cx}{tg:ao}
noncomputable def A8(K:aI)(tl:TE):TI:=λσ H R=>tl σ H λx H1=>∃a,x=.ref a/\(∃xs,cM K H1 a xs)/\R (FZ K a) H1
noncomputable def Ig(K:aI)(tl:TE):TI:=λσ H R=>tl σ H λx H1=>∃a,x=.ref a/\(∃xs,cD K H1 a xs)/\R (Ie K a) H1
theorem Nr{l:ao}{tl:TE}(hl:PE X l tl):PI X tg l (A8 X.K tl):=by
 intro pins s σ H R I h;refine bw (hl pins s σ H _ I h) λv s1 z9=>z9.el λx H1 I1 r1 q1=>?_;obtain⟨a,e,⟨xs,hq⟩,q⟩:=q1;subst e;cases r1;obtain⟨its,rv,p,hz⟩:=I1.list hq;refine ze p.isList ?_;refine⟨s1.heap.objs.size,[s1.heap.objs.size],_,_,H1,rfl,I1.kept (t':=s1.toks) λb o e=>cu _ e,TY a _,⟨_,i6 _ rfl,rfl,rfl⟩,λb hb=>?_,q⟩;have e:b=s1.heap.objs.size:=by simpa using hb
 subst e;exact I1.nv (bq _) (I1.hok.fresh (bq _))
theorem T4{l:ao}{tl:TE}(hl:PE X l tl):PI X tg l (Ig X.K tl):=by
 intro pins s σ H R I h;refine bw (hl pins s σ H _ I h) λv s1 z9=>z9.el λx H1 I1 r1 q1=>?_;obtain⟨a,e,⟨xs,hq⟩,q⟩:=q1;subst e;cases r1;obtain⟨its,rv,p,hz⟩:=I1.tuple hq;refine wL (show s1.heap.IsTuple a its.toArray from p) ?_;refine⟨s1.heap.objs.size,[s1.heap.objs.size],_,_,H1,rfl,I1.kept (t':=s1.toks) λb o e=>cu _ e,TZ a _,⟨_,i6 _ rfl,rfl,rfl⟩,λb hb=>?_,q⟩;have e:b=s1.heap.objs.size:=by simpa using hb
 subst e;exact I1.nv (bq _) (I1.hok.fresh (bq _))
theorem T5{σ:St}{R:It->Hp->Prop}{E:aa->af->Prop}{lo hi:Int}{t u v:Tok}{tk:Nat}(I:Inv X pins σ H s)(h1:-(2 ^ 62)<=lo)(h2:lo<2 ^ 62)(h3:-(2 ^ 62)<=hi)(h4:hi<2 ^ 62)
 (q:R (F0 lo (hi-lo).toNat) H):wpAny (model X.prog X.w) X.A (pyIter (.ref s.heap.objs.size)) (Ic X pins σ tg R) E {s with heap:=s.heap.push {cls:=.type "range",data:=.fields #[.int lo t,.int hi u,.int 1 v]},toks:=tk}:=by
 refine wpAny_pyIter_range (IsRange.new ..) (small_one h1 h2 h3 h4) ?_;have I1:Inv X pins σ H {s with heap:=s.heap.push {cls:=.type "range",data:=.fields #[.int lo t,.int hi u,.int 1 v]},toks:=tk}:=I.kept λb o e=>cu _ e;refine⟨(s.heap.push {cls:=.type "range",data:=.fields #[.int lo t,.int hi u,.int 1 v]}).objs.size,[(s.heap.push {cls:=.type "range",data:=.fields #[.int lo t,.int hi u,.int 1 v]}).objs.size],_,_,H,rfl,
  I1.kept (t':=tk) λb o e=>cu _ e,T3 _ lo (hi-lo).toNat,?_,λb hb=>?_,q⟩
 have e1:lo+ ((0:Nat):Int)*1=lo:=by simp
 have e2:(((hi-lo).toNat:Nat):Int)- ((0:Nat):Int)=Builtin.Range.rangeSize lo hi 1:=by rw[rangeSize_one];split<;>lia
 show IsRangeIter _ _ (lo+ ((0:Nat):Int)*1) ((((hi-lo).toNat:Nat):Int)- ((0:Nat):Int)) 1;rw[e1,e2];exact i6 _ rfl;have e:b=(s.heap.push {cls:=.type "range",data:=.fields #[.int lo t,.int hi u,.int 1 v]}).objs.size:=by simpa using hb
 subst e;exact I1.nv (bq _) (I1.hok.fresh (bq _))
noncomputable def A9(ta:TA):TI:=λσ H R=>ta σ H λvs H1=>∃j:Int,vs=[.int j]/\-(2 ^ 62)<=j/\j<2 ^ 62/\R (F0 0 j.toNat) H1
theorem T6(hg:Gl X "range")(hm:X.mg "range" = aC)(ha:PA X [a] ta)(hs:autoParam (starEach [a] X.env=[(false,eval a X.env)]) L2.aR._auto_1):PI X tg (.Call (.Name "range" p) [a] [] pos) (A9 ta):=by
 intro pins s σ H R I h;refine Call_ (zH I hg hm boot_range (Fx (bw (ha pos pins s σ H _ I h) λus s1 z9=>z9.el λvs H1 I1 r1 q1=>?_) hs rfl));obtain⟨j,e,q1,q2,q⟩:=q1;subst e;cases r1 with
 |cons r rr=>
  cases rr;obtain⟨t,rfl⟩:=r;exact call_range_1 (T5 I1 (by lia) (by lia) q1 q2 (by simpa using q))
noncomputable def Ba(wi:TI)(g:TG)(tb:TS):TS:=λD σ H=>wi σ H λJ H1=>∃W:Nat->Nat->St->Hp->Prop,(∃m,W 0 m σ H1)/\∀i m σ H,W i m σ H->
 (J.stop i H/\D.nx σ H)\/(J.go i H/\∃N:St->Hp->Prop,(∀σ' H',N σ' H'->∃m',m'<m/\W (i+1) m' σ' H')/\∀x H',J.A7 i H x H'->g x σ H' λσ2 H2=>tb {D with nx:=N,ct:=N,bk:=D.nx} σ2 H2)
noncomputable def Bb(fp:List ah)(h:az):List (ah×Obj):=fp.filterMap λb=>(h.get? b).map λo=>(b,o)
theorem F1{fp:List ah}{b:ah}(hb:b∈fp)(e:h.get? b=aB o):(b,o)∈Bb fp h:=List.mem_filterMap.mpr ⟨b,hb,by rw[e];rfl⟩
theorem T7{fp:List ah}{p:ah×Obj}(hp:p∈Bb fp h):p.1∈fp/\h.get? p.1=aB p.2:=by
 obtain⟨b,hb,e⟩:=List.mem_filterMap.mp hp;cases q:h.get? b with
 |none=>rw[q]at e;cases e
 |some o=>
  rw[q]at e;have e':(b,o)=p:=lz e;subst e';exact⟨hb,q⟩
theorem Inv.pinned{σ:St}{fp:List ah}(I:Inv X pins σ H s)(hf:∀b∈fp,gv X pins H b)(ho:∀b∈fp,∃o,s.heap.get? b=aB o/\∀v,o.data≠.cell v):Inv X (pins++Bb fp s.heap) σ H s:=
 I.mD λp hp=>(wX.mp hp).elim (λz=>I.pin p (oK _ z)) λz=>by
  obtain⟨hb,e⟩:=T7 z;obtain⟨f0,f1,f2,_⟩:=hf p.1 hb;obtain⟨o,e',d⟩:=ho p.1 hb;rw[e]at e';cases e';exact⟨e,f0,f1,f2,d⟩
theorem Inv.gw{σ:St}(I:Inv X (pins++pl) σ H s):Inv X pins σ H s:=I.mD λp hp=>I.pin p (oK _ (List.mem_append_left _ hp))
theorem T8{wi:TI}{pos:Pos}(hp:PassesOwn (model X.prog X.w) X.A X.env X.xe)(hc:X.calm)(hi:PI X tg iter wi)(hg:PG X tg g)(hb:gu X body tb)
 (hs:∀x,foldedSetIterable iter X.env x=pure x:=by intro _;rfl):PS X (.For tg iter body [] pos) (Ba wi g tb):=by
 intro pins s σ H D I h;refine wpAny_For (bw (hi pins s σ H _ I h) λv s1 h1=>bw h1 λitv s2 h2=>?_) hs;obtain⟨it,fp,tn,J,H2,e,I2,T,st2,f2,W,⟨m0,w0⟩,turn⟩:=h2;subst e;have xq:∀{H':Hp},(∀b∈fp,H' b=aC)->∀b∈fp,gv X pins H' b:=λhn b hb=>⟨hn b hb,(f2 b hb).2⟩
 refine codeAny_forLoop_any (λn s'=>∃i σ' H',Inv X pins σ' H' s'/\tn i s'.heap/\(∀b∈fp,H' b=aC)/\W i n σ' H') ?_ m0 ⟨0,σ,H2,I2,st2,λb hb=>(f2 b hb).1,w0⟩;rintro n s3 ⟨i,σ3,H3,I3,st3,Nu,w3⟩;rcases turn i n σ3 H3 w3 with⟨stop,qn⟩|⟨go,N,hN,step⟩
 .refine wM hp (bw (T.done X rfl rfl rfl hc i pins s3 σ3 H3 X.xe I3 (xq Nu) st3 stop) λr s4 cR=>?_)
  obtain⟨hr,I4⟩:=cR;subst hr;exact zf ⟨σ3,H3,I4,qn⟩
 .refine wM hp (bw (T.item X rfl rfl rfl hc i pins s3 σ3 H3 X.xe I3 (xq Nu) st3 go) λr s4 cR=>?_)
  obtain⟨u,hr,h4⟩:=cR;subst hr;refine wM hp (bw h4 λ_ s5 cR=>?_);obtain⟨x,H5,I5,r5,y5,zK,F2⟩:=cR;have T9:=I5.pinned (xq F2) (T.obj _ _ zK);refine wM hp (bw (hg _ s5 σ3 H5 x u _ T9 r5 (step x H5 y5)) λ_ s6 cR=>?_);obtain⟨lE,H6,I6,q6⟩:=cR;refine wM hp (bw (hb _ s6 lE H6 _ I6 q6) λf s7 q7=>?_);have again:∀{oU:St}{H7:Hp},Inv X (pins++Bb fp s5.heap) oU H7 s7->N oU H7->∃m,m<n/\∃i σ' H',Inv X pins σ' H' s7/\tn i s7.heap/\(∀b∈fp,H' b=aC)/\W i m σ' H':=λ{oU H7} I7 n7=>by
   obtain⟨m',hm,w7⟩:=hN oU H7 n7;refine⟨m',hm,i+1,oU,H7,I7.gw,T.keep _ _ _ zK λb hb o e=>(I7.pin (b,o) (oK _ (oK _ (F1 hb e)))).1,λb hb=>?_,w7⟩;obtain⟨o,e,d⟩:=T.obj _ _ zK b hb;exact(I7.pin (b,o) (oK _ (oK _ (F1 hb e)))).2.1
  cases f with|next=>obtain⟨oU,H7,I7,n7⟩:=q7;exact again I7 n7|cont=>obtain⟨oU,H7,I7,n7⟩:=q7;exact again I7 n7|brk=>obtain⟨oU,H7,I7,q7⟩:=q7;exact⟨oU,H7,I7.gw,q7⟩|ret v=>obtain⟨x7,oU,H7,I7,r7,q7⟩:=q7;exact⟨x7,oU,H7,I7.gw,r7,q7⟩
end
noncomputable abbrev R2:=V->V->Hp->VK->Prop
noncomputable def dN(X:Cx)(f:aa->aa->Sem aa)(r:R2):Prop:=
 ∀(pins:List (ah×Obj))(s:af)(σ:St)(H:Hp)(x y:V)(v u:aa)(Q:VK),Inv X pins σ H s->RelV x v->RelV y u->r x y H Q->
  wpAny (model X.prog X.w) X.A (f v u) (EP X pins σ Q) X.xe s
noncomputable def Ih(X:Cx)(f:aa->Sem aa)(r:V->Hp->VK->Prop):Prop:=
 ∀(pins:List (ah×Obj))(s:af)(σ:St)(H:Hp)(x:V)(v:aa)(Q:VK),Inv X pins σ H s->RelV x v->r x H Q->
  wpAny (model X.prog X.w) X.A (f v) (EP X pins σ Q) X.xe s
noncomputable def dF(X:Cx)(f:aa)(r:List V->Hp->VK->Prop):Prop:=
 ∀(pins:List (ah×Obj))(s:af)(σ:St)(H:Hp)(xs:List V)(us:List aa)(Q:VK),Inv X pins σ H s->Vals xs us->r xs H Q->
  wpAny (model X.prog X.w) X.A (call f us) (EP X pins σ Q) X.xe s
noncomputable def Ii(X:Cx)(r:V->Hp->(Bool->Hp->Prop)->Prop):Prop:=
 ∀(pins:List (ah×Obj))(s:af)(σ:St)(H:Hp)(x:V)(v:aa)(Q:Bool->Hp->Prop),Inv X pins σ H s->RelV x v->r x H Q->
  wpAny (model X.prog X.w) X.A (truthy v) (TP X pins σ Q) X.xe s
noncomputable def F3(r:R2)(ta tb:TE):TE:=λσ H Q=>ta σ H λx H1=>tb σ H1 λy H2=>r x y H2 Q
noncomputable def Ua(r:V->Hp->VK->Prop)(ta:TE):TE:=λσ H Q=>ta σ H λx H1=>r x H1 Q
noncomputable def rI(C:Int->Int->Prop)(g:Int->Int->V):R2:=λx y H Q=>∃i j,x=.int i/\y=.int j/\C i j/\Q (g i j) H
noncomputable def ny(g:Int->Int->V):R2:=λx y H Q=>∃i j,x=.int i/\y=.int j/\Q (g i j) H
noncomputable def rU(g:Int->V):V->Hp->VK->Prop:=λx H Q=>∃i,x=.int i/\Q (g i) H
section
variable{X:Cx}{a b c:ao}{ta tb tc:TE}{pos:Pos}
theorem xr(ha:PE X a ta)(hb:PE X b tb){σ:St}{R:V->V->Hp->Prop}(I:Inv X pins σ H s)
 (h:ta σ H λx H1=>tb σ H1 λy H2=>R x y H2) {Q:aa->af->Prop} {f:aa->aa->Sem aa}
 (hf:∀v u s2 x y H2,Inv X pins σ H2 s2->RelV x v->RelV y u->R x y H2->wpAny (model X.prog X.w) X.A (f v u) Q X.xe s2) :
 wpAny (model X.prog X.w) X.A (eval a X.env) (λv s₁=>wpAny (model X.prog X.w) X.A (eval b X.env) (λu s₂=>wpAny (model X.prog X.w) X.A (f v u) Q X.xe s₂) X.xe s₁) X.xe s:=by
 refine bw (ha pins s σ H _ I h) λv s1 z9=>z9.el λx H1 I1 r1 q1=>?_;refine bw (hb pins s1 σ H1 _ I1 q1) λu s2 z9=>z9.el λy H2 I2 r2 q2=>?_;exact hf v u s2 x y H2 I2 r1 r2 q2
theorem oV{op:Operator}{r:R2}(ho:dN X (binaryOp op) r)(ha:PE X a ta)(hb:PE X b tb):PE X (.BinOp a op b pos) (F3 r ta tb):=by
 intro pins s σ H Q I h;exact wpAny_BinOp (xr ha hb I h λv u s2 x y H2 I2 rx ry q=>ho pins s2 σ H2 x y v u Q I2 rx ry q)
theorem Bc{op:UnaryOp}{r:V->Hp->VK->Prop}(ho:Ih X (unaryOp op) r)(ha:PE X a ta):PE X (.UnaryOp op a pos) (Ua r ta):=by
 intro pins s σ H Q I h;exact UnaryOp_ (bw (ha pins s σ H _ I h) λv s1 z9=>z9.el λx H1 I1 r1 q1=>ho pins s1 σ H1 x v Q I1 r1 q1)
theorem fM{f:aa->aa->Sem aa}{C:Int->Int->Prop}{g:Int->Int->Int}
 (rule:∀(i j:Int)(t u:Tok)(s:af)(Q:aa->af->Prop)(E:aa->af->Prop),C i j->Q (.int (g i j) s.toks) {s with toks:=s.toks+1}->wpAny (model X.prog X.w) X.A (f (.int i t) (.int j u)) Q E s) :
 dN X f (rI C λi j=>.int (g i j)):=by
 intro pins s σ H x y v u Q I rx ry h;obtain⟨i,j,rfl,rfl,hc,q⟩:=h;obtain⟨t,rfl⟩:=rx;obtain⟨t',rfl⟩:=ry;exact rule i j t t' s _ _ hc ⟨.int (g i j),H,I.tok _,⟨_,rfl⟩,q⟩
theorem Be{f:aa->aa->Sem aa}{g:Int->Int->Int}
 (rule:∀(i j:Int)(t u:Tok)(s:af)(Q:aa->af->Prop)(E:aa->af->Prop),Q (.int (g i j) s.toks) {s with toks:=s.toks+1}->wpAny (model X.prog X.w) X.A (f (.int i t) (.int j u)) Q E s) :
 dN X f (ny λi j=>.int (g i j)):=by
 intro pins s σ H x y v u Q I rx ry h;obtain⟨i,j,rfl,rfl,q⟩:=h;obtain⟨t,rfl⟩:=rx;obtain⟨t',rfl⟩:=ry;exact rule i j t t' s _ _ ⟨.int (g i j),H,I.tok _,⟨_,rfl⟩,q⟩
theorem su{f:aa->aa->Sem aa}{g:Int->Int->Bool}
 (rule:∀(i j:Int)(t u:Tok)(s:af)(Q:aa->af->Prop)(E:aa->af->Prop),Q (.bool (g i j)) s->wpAny (model X.prog X.w) X.A (f (.int i t) (.int j u)) Q E s) :
 dN X f (ny λi j=>.bl (g i j)):=by
 intro pins s σ H x y v u Q I rx ry h;obtain⟨i,j,rfl,rfl,q⟩:=h;obtain⟨t,rfl⟩:=rx;obtain⟨t',rfl⟩:=ry;exact rule i j t t' s _ _ ⟨.bl (g i j),H,I,rfl,q⟩
noncomputable def Bf(i j:Int):Prop:=0<j/\j<1073741824
noncomputable def xu(i j:Int):Prop:=0<=j/\j<=1000000/\i.natAbs<2 ^ 64
noncomputable def sA(i j:Int):Prop:=(-(2 ^ 64)<i/\i<2 ^ 64)\/(-(2 ^ 64)<j/\j<2 ^ 64)
theorem sA.ok{i j:Int}(h:sA i j):IntMulOk i j:=by
 rcases h with⟨h1,h2⟩|⟨h1,h2⟩;exact .of_left (intBits_le_64 h1 h2);exact .of_right (intBits_le_64 h1 h2)
theorem Ub:dN X (binaryOp .Add) (ny λi j=>.int (i+j)):=Be λ_ _ _ _ _ _ _ q=>add_int q
theorem Uc:dN X (binaryOp .Sub) (ny λi j=>.int (i-j)):=Be λ_ _ _ _ _ _ _ q=>sub_int q
theorem Ud:dN X (binaryOp .Mult) (rI sA λi j=>.int (i*j)):=fM λ_ _ _ _ _ _ _ hc q=>mul_int q hc.ok
theorem Ue:dN X (binaryOp .FloorDiv) (rI Bf λi j=>.int (i/j)):=fM λi j _ _ _ _ _ hc q=>by
 have h1:(0:Int)<j:=hc.1;have h2:j<1073741824:=hc.2;exact floordiv_int (by lia) (by rw[Int.fdiv_eq_ediv_of_nonneg i (by lia)];exact q) (.inl (PyProof.noPylong_small (by lia)))
theorem Ug:dN X (binaryOp .Mod) (rI (λ_ j=>0<j) λi j=>.int (i % j)):=fM λi j _ _ _ _ _ hc q=>by
 have h1:(0:Int)<j:=hc;exact mod_int' (by lia) (by rw[Int.fmod_eq_emod_of_nonneg i (by lia)];exact q)
theorem Uh:dN X (binaryOp .Pow) (rI xu λi j=>.int (i ^ j.toNat)):=fM λ_ _ _ _ _ _ _ hc q=>pow_int_small hc.1 hc.2.1 hc.2.2 q
theorem Ui{f:aa->Sem aa}{g:Int->Int}
 (rule:∀(i:Int)(t:Tok)(s:af)(Q:aa->af->Prop)(E:aa->af->Prop),Q (.int (g i) s.toks) {s with toks:=s.toks+1}->wpAny (model X.prog X.w) X.A (f (.int i t)) Q E s) :
 Ih X f (rU λi=>.int (g i)):=by
 intro pins s σ H x v Q I rx h;obtain⟨i,rfl,q⟩:=h;obtain⟨t,rfl⟩:=rx;exact rule i t s _ _ ⟨.int (g i),H,I.tok _,⟨_,rfl⟩,q⟩
theorem Uj:Ih X (unaryOp .USub) (rU λi=>.int (-i)):=Ui λ_ _ _ _ _ q=>neg_int q
end
noncomputable def Bg:V->V->Bool|.aG,.aG=>true|.aG,.int _=>true|.int _,.aG=>true|.aG,.bl _=>true|.bl _,.aG=>true|.aG,.str _=>true|.str _,.aG=>true|.int _,.int _=>true|.bl _,.bl _=>true|.str _,.str _=>true|.mz _,.mz _=>true|.int _,.str _=>true|.str _,.int _=>true|.bl _,.str _=>true|.str _,.bl _=>true|_,_=>false
noncomputable def Uk:R2:=λx y H Q=>Bg x y=true/\Q (.bl (decide (x=y))) H
noncomputable def Ul:R2:=λx y H Q=>Bg x y=true/\Q (.bl (!decide (x=y))) H
theorem Nv{i j:Int}:decide (V.int i=V.int j)=(i==j):=by
 rw[AB];simp
theorem Nx{i j:Bool}:decide (V.bl i=V.bl j)=(i==j):=by
 rw[AB];simp
theorem Ny{i j:Str}:decide (V.str i=V.str j)=(i==j):=by
 rw[AB];simp
theorem Nz{i j:Array UInt8}:decide (V.mz i=V.mz j)=(i.toList==j.toList):=by
 rw[AB];cases i;cases j;simp
section
variable{X:Cx}{a b c:ao}{ta tb tc:TE}{pos:Pos}
theorem fT{σ:St}{k k':Bool}(I:Inv X pins σ H s)(q:Q (.bl k) H)(e:k=k'):EP X pins σ Q (.bool k') s:=by
 subst e;exact⟨.bl k,H,I,rfl,q⟩
theorem Bh:dN X (compareOp .Eq) Uk:=by
 intro pins s σ H x y v u Q I rx ry h;obtain⟨hs,q⟩:=h;cases x with
 |aG=>
  cases rx;cases y with|aG=>cases ry;exact PySem.EqNone.eq_none_none (fT I q (by simp))|bl j=>cases ry;exact PySem.EqNone.eq_none_bool (fT I q (by simp))|int j=>obtain⟨t',rfl⟩:=ry;exact PySem.EqNone.eq_none_int (fT I q (by simp))|str j=>obtain⟨t',rfl⟩:=ry;exact PySem.EqNone.eq_none_str (fT I q (by simp))|_=>exact absurd (show false=true from hs) iZ
 |bl i=>
  cases rx;cases y with|aG=>cases ry;exact PySem.EqNone.eq_bool_none (fT I q (by simp))|bl j=>cases ry;exact eq_bool (fT I q Nx)|str j=>obtain⟨t',rfl⟩:=ry;exact PySem.EqMixed.eq_bool_str (fT I q (by simp))|_=>exact absurd (show false=true from hs) iZ
 |int i=>
  obtain⟨t,rfl⟩:=rx;cases y with|aG=>cases ry;exact PySem.EqNone.eq_int_none (fT I q (by simp))|int j=>obtain⟨t',rfl⟩:=ry;exact eq_int (fT I q Nv)|str j=>obtain⟨t',rfl⟩:=ry;exact PySem.EqMixed.eq_int_str (fT I q (by simp))|_=>exact absurd (show false=true from hs) iZ
 |str i=>
  obtain⟨t,rfl⟩:=rx;cases y with|aG=>cases ry;exact PySem.EqNone.eq_str_none (fT I q (by simp))|bl j=>cases ry;exact PySem.EqMixed.eq_str_bool (fT I q (by simp))|int j=>obtain⟨t',rfl⟩:=ry;exact PySem.EqMixed.eq_str_int (fT I q (by simp))|str j=>obtain⟨t',rfl⟩:=ry;exact eq_str (fT I q Ny)|_=>exact absurd (show false=true from hs) iZ
 |mz i=>
  obtain⟨t,rfl⟩:=rx;cases y with|mz j=>obtain⟨t',rfl⟩:=ry;exact PySem.W.eq_bytes (fT I q Nz)|_=>exact absurd (show false=true from hs) iZ
 |_=>cases y<;>exact absurd (show false=true from hs) iZ
theorem Bj:dN X (compareOp .NotEq) Ul:=by
 intro pins s σ H x y v u Q I rx ry h;obtain⟨hs,q⟩:=h;cases x with
 |aG=>
  cases rx;cases y with|aG=>cases ry;exact PySem.EqNone.ne_none_none (fT I q (by simp))|bl j=>cases ry;exact PySem.EqNone.ne_none_bool (fT I q (by simp))|int j=>obtain⟨t',rfl⟩:=ry;exact PySem.EqNone.ne_none_int (fT I q (by simp))|str j=>obtain⟨t',rfl⟩:=ry;exact PySem.EqNone.ne_none_str (fT I q (by simp))|_=>exact absurd (show false=true from hs) iZ
 |bl i=>
  cases rx;cases y with|aG=>cases ry;exact PySem.EqNone.ne_bool_none (fT I q (by simp))|bl j=>cases ry;exact ne_bool (fT I q (k8 not Nx))|str j=>obtain⟨t',rfl⟩:=ry;exact PySem.EqMixed.ne_bool_str (fT I q (by simp))|_=>exact absurd (show false=true from hs) iZ
 |int i=>
  obtain⟨t,rfl⟩:=rx;cases y with|aG=>cases ry;exact PySem.EqNone.ne_int_none (fT I q (by simp))|int j=>obtain⟨t',rfl⟩:=ry;exact ne_int (fT I q (k8 not Nv))|str j=>obtain⟨t',rfl⟩:=ry;exact PySem.EqMixed.ne_int_str (fT I q (by simp))|_=>exact absurd (show false=true from hs) iZ
 |str i=>
  obtain⟨t,rfl⟩:=rx;cases y with|aG=>cases ry;exact PySem.EqNone.ne_str_none (fT I q (by simp))|bl j=>cases ry;exact PySem.EqMixed.ne_str_bool (fT I q (by simp))|int j=>obtain⟨t',rfl⟩:=ry;exact PySem.EqMixed.ne_str_int (fT I q (by simp))|str j=>obtain⟨t',rfl⟩:=ry;exact ne_str (fT I q (k8 not Ny))|_=>exact absurd (show false=true from hs) iZ
 |mz i=>
  obtain⟨t,rfl⟩:=rx;cases y with|mz j=>obtain⟨t',rfl⟩:=ry;exact PySem.W.ne_bytes (fT I q (k8 not Nz))|_=>exact absurd (show false=true from hs) iZ
 |_=>cases y<;>exact absurd (show false=true from hs) iZ
theorem Bk:dN X (compareOp .Lt) (ny λi j=>.bl (decide (i<j))):=su λ_ _ _ _ _ _ _ q=>lt_int q
theorem Bl:dN X (compareOp .LtE) (ny λi j=>.bl (decide (i<=j))):=su λ_ _ _ _ _ _ _ q=>le_int q
theorem Bm:dN X (compareOp .Gt) (ny λi j=>.bl (decide (j<i))):=su λ_ _ _ _ _ _ _ q=>gt_int q
theorem Bo:dN X (compareOp .GtE) (ny λi j=>.bl (decide (j<=i))):=su λ_ _ _ _ _ _ _ q=>ge_int q
theorem Um:dN X (compareOp .Is) (λx y H Q=>y=.aG/\Q (.bl (decide (x=.aG))) H):=by
 intro pins s σ H x y v u Q I rx ry h;obtain⟨rfl,q⟩:=h;cases ry;refine is_none_gen (fT I q ?_);cases x<;>first
  |(cases rx;rfl)
  |(obtain⟨t,rfl⟩:=rx;rfl)
theorem Uo:dN X (compareOp .IsNot) (λx y H Q=>y=.aG/\Q (.bl (!decide (x=.aG))) H):=by
 intro pins s σ H x y v u Q I rx ry h;obtain⟨rfl,q⟩:=h;cases ry;refine isnot_none_gen (fT I q ?_);cases x<;>first
  |(cases rx;rfl)
  |(obtain⟨t,rfl⟩:=rx;rfl)
theorem dN.or{f:aa->aa->Sem aa}{r r':R2}(h:dN X f r)(h':dN X f r'):dN X f (λx y H Q=>r x y H Q\/r' x y H Q):=by
 intro pins s σ H x y v u Q I rx ry q;rcases q with q|q
 exact h pins s σ H x y v u Q I rx ry q;exact h' pins s σ H x y v u Q I rx ry q
theorem NB{op:CmpOp}{r:R2}(ho:dN X (compareOp op) r)(ha:PE X a ta)(hb:PE X b tb)(hm:behindInMarks op b=false):PE X (.Compare a [op] [b] pos) (F3 r ta tb):=by
 intro pins s σ H Q I h;exact wpAny_Compare1 (xr ha hb I h λv u s2 x y H2 I2 rx ry q=>ho pins s2 σ H2 x y v u Q I2 rx ry q) hm
noncomputable def uS(t:TE):TT:=λσ H Q=>t σ H λx H'=>∃k,x=.bl k/\Q k H'
theorem NC{op:CmpOp}{r:R2}(ho:dN X (compareOp op) r)(ha:PE X a ta)(hb:PE X b tb)(hm:behindInMarks op b=false):PT X (.Compare a [op] [b] pos) (uS (F3 r ta tb)):=by
 intro pins s σ H Q I h;refine wpAny_isTrue_Compare1 (bw (ha pins s σ H _ I h) λv s1 z9=>z9.el λx H1 I1 r1 q1=>bw (hb pins s1 σ H1 _ I1 q1) λu s2 z9=>z9.el λy H2 I2 r2 q2=>
  bw (ho pins s2 σ H2 x y v u _ I2 r1 r2 q2) λc s3 z9=>z9.el λz H3 I3 r3 ⟨k,e,q3⟩=>?_) hm
 subst e;cases r3;exact oH ⟨H3,I3,q3⟩
noncomputable def Ij(r r':R2)(ta tb tc:TE):TE:=λσ H Q=>ta σ H λx H1=>tb σ H1 λy H2=>r x y H2 λz H3=>∃k,z=.bl k/\
 (if k=true then tc σ H3 λw' H4=>r' y w' H4 Q else Q (.bl false) H3)
theorem Up{op op':CmpOp}{r r':R2}(ho:dN X (compareOp op) r)(ho':dN X (compareOp op') r')(ha:PE X a ta)(hb:PE X b tb)(hc:PE X c tc)
 (hm:lastMarks [op,op'] [b,c]=false:=by with_unfolding_all rfl):PE X (.Compare a [op,op'] [b,c] pos) (Ij r r' ta tb tc):=by
 intro pins s σ H Q I h;refine Compare_chain (bw (ha pins s σ H _ I h) λv s1 z9=>z9.el λx H1 I1 r1 q1=>chain_link (bw (hb pins s1 σ H1 _ I1 q1) λu s2 z9=>z9.el λy H2 I2 r2 q2=>
  bw (ho pins s2 σ H2 x y v u _ I2 r1 r2 q2) λd s3 z9=>z9.el λz H3 I3 r3 ⟨k,e,q3⟩=>?_)) hm
 subst e;cases r3;refine oH ?_;cases k with|false=>exact ite_ff ⟨.bl false,H3,I3,rfl,q3⟩|true=>exact ite_tt (chain_last (bw (hc pins s3 σ H3 _ I3 q3) λw' s4 z9=>z9.el λz' H4 I4 r4 q4=>ho' pins s4 σ H4 y z' u w' Q I4 r2 r4 q4))
theorem Uq{op op':CmpOp}{r r':R2}(ho:dN X (compareOp op) r)(ho':dN X (compareOp op') r')(ha:PE X a ta)(hb:PE X b tb)(hc:PE X c tc)
 (hm:lastMarks [op,op'] [b,c]=false:=by with_unfolding_all rfl):PT X (.Compare a [op,op'] [b,c] pos) (uS (Ij r r' ta tb tc)):=by
 intro pins s σ H Q I h;refine isTrue_chain (bw (ha pins s σ H _ I h) λv s1 z9=>z9.el λx H1 I1 r1 q1=>test_link (bw (hb pins s1 σ H1 _ I1 q1) λu s2 z9=>z9.el λy H2 I2 r2 q2=>
  bw (ho pins s2 σ H2 x y v u _ I2 r1 r2 q2) λd s3 z9=>z9.el λz H3 I3 r3 ⟨k,e,q3⟩=>?_)) hm
 subst e;cases r3;refine oH ?_;cases k with
 |false=>
  obtain⟨k',e',q'⟩:=q3;cases e';exact ite_ff ⟨H3,I3,q'⟩
 |true=>
  refine ite_tt (test_last (bw (hc pins s3 σ H3 _ I3 q3) λw' s4 z9=>z9.el λz' H4 I4 r4 q4=>bw (ho' pins s4 σ H4 y z' u w' _ I4 r2 r4 q4) λd' s5 z9=>z9.el λz2 H5 I5 r5 cR=>?_));obtain⟨k2,e2,q5⟩:=cR;subst e2;cases r5;exact oH ⟨H5,I5,q5⟩
noncomputable def xw(K:aI)(x:V)(H:Hp)(k:Bool):Prop:=
 match x with|.aG=>k=false|.bl b=>k=b|.int i=>k=(i != 0)|.str y=>y.length<=sizeLine/\k=((y.length:Int) != 0)|.mz y=>y.size<=sizeLine/\k=((y.size:Int) != 0)|.ref p=>(∃xs,cM K H p xs/\k=!xs.isEmpty)\/(∃xs,cD K H p xs/\k=!xs.isEmpty)\/∃kvs,H p=aB (.dK kvs)/\k=!kvs.isEmpty|_=>False
theorem Ur{κ:Type}{kvs:List (κ×V)}{vs:List (κ×aa)}(r:KV kvs vs):(!vs.isEmpty)=!kvs.isEmpty:=by
 cases r<;>rfl
theorem ND(r:Vals xs its):(!its.toArray.isEmpty)=!xs.isEmpty:=by
 cases r<;>simp
theorem Bp:(sizeLine:Nat)<2 ^ 63:=by rw[rS];decide
theorem Us:Ii X (λx H Q=>∃k,xw X.K x H k/\Q k H):=by
 intro pins s σ H x v Q I rx h;obtain⟨k,e,q⟩:=h;have hl:=Bp;have hs:sizeLine=16777216:=rS;cases x with
 |aG=>
  cases rx;have e':k=false:=e;subst e';exact truthy_none ⟨H,I,q⟩
 |bl b=>
  cases rx;have e':k=b:=e;subst e';exact oH ⟨H,I,q⟩
 |int i=>
  obtain⟨t,rfl⟩:=rx;have e':k=(i != 0):=e;subst e';exact PySem.P.truthy_int ⟨H,I,q⟩
 |str y=>
  obtain⟨t,rfl⟩:=rx;obtain⟨hy,e'⟩:y.length<=sizeLine/\k=((y.length:Int) != 0):=e;subst e';exact PySem.P.truthy_str (by lia) ⟨H,I.tok _,q⟩
 |mz y=>
  obtain⟨t,rfl⟩:=rx;obtain⟨hy,e'⟩:y.size<=sizeLine/\k=((y.size:Int) != 0):=e;subst e';exact PySem.W.truthy_bytes (by lia) ⟨H,I.tok _,q⟩
 |ref p=>
  cases rx;have e':(∃xs,cM X.K H p xs/\k=!xs.isEmpty)\/(∃xs,cD X.K H p xs/\k=!xs.isEmpty)\/∃kvs,H p=aB (.dK kvs)/\k=!kvs.isEmpty:=e;rcases e' with⟨xs,hx,e'⟩|⟨xs,hx,e'⟩|⟨kvs,hx,e'⟩
  subst e';obtain⟨its,r,pl,hz⟩:=I.list hx;have hlen:=r.length;exact wpAny_truthy_list pl.isList (by simp only[fL];lia) ⟨H,I.tok _,by rw[ND r];exact q⟩;subst e';obtain⟨its,r,pl,hz⟩:=I.tuple hx;have hlen:=r.length;exact truthy_tuple pl (by simp only[fL];lia) ⟨H,I.tok _,by rw[ND r];exact q⟩;subst e';obtain⟨hz,hS,vs,r,m⟩:kvs.length<=sizeLine/\(p==sysModules)=false/\∃vs,KV kvs vs/\s.heap.DictOf (lA X.prog X.w) p vs:=I.hok p _ hx;have hlen:kvs.length=vs.length:=AL r;exact wpAny_truthy_dict hS m (by lia) ⟨H,I.tok _,by rw[Ur r];exact q⟩
 |_=>exact(show False from e).elim
theorem Ut(ha:PE X a ta)(he:∀whole,isTrue a X.env whole=(do let v <-whole;standAt a.pos;holding [v] (truthy v))) :
 PT X a (λσ H Q=>ta σ H λx H'=>∃k,xw X.K x H' k/\Q k H'):=by
 intro pins s σ H Q I h;exact isTrue_plain (bw (ha pins s σ H _ I h) λv s1 z9=>z9.el λx H1 I1 r1 q1=>Us pins s1 σ H1 x v Q I1 r1 q1) (he _)
theorem vals1(r:Vals [x] us):∃u,us=[u]/\RelV x u:=by
 cases r with|cons r1 r2=>cases r2;exact⟨_,rfl,r1⟩
theorem vals2(r:Vals [x,y] us):∃u w',us=[u,w']/\RelV x u/\RelV y w':=by
 cases r with
 |cons r1 r2=>
  cases r2 with|cons r3 r4=>cases r4;exact⟨_,_,rfl,r1,r3⟩
theorem Uu:dF X (.builtin "abs") (λxs H Q=>∃i,xs=[.int i]/\Q (.int (if i<0 then -i else i)) H):=by
 intro pins s σ H xs us Q I r h;obtain⟨i,rfl,q⟩:=h;obtain⟨u,rfl,t,rfl⟩:=vals1 r;exact call_abs_int λu tk=>⟨.int (if i<0 then -i else i),H,I.tok _,⟨_,rfl⟩,q⟩
theorem Uv(hc:X.calm):dF X (.builtin "max") (λxs H Q=>∃i j,xs=[.int i,.int j]/\Q (.int (if j>i then j else i)) H):=by
 intro pins s σ H xs us Q I r h;obtain⟨i,j,rfl,q⟩:=h;obtain⟨u,w',rfl,⟨t,rfl⟩,⟨t',rfl⟩⟩:=vals2 r;refine max_two_ints (I.ok.hd hc) λh' tk k=>⟨_,H,I.kept k,?_,q⟩
 by_cases hj:j>i;rw[if_pos hj,if_pos hj];exact⟨_,rfl⟩;rw[if_neg hj,if_neg hj];exact⟨_,rfl⟩
theorem Uw(hc:X.calm):dF X (.builtin "min") (λxs H Q=>∃i j,xs=[.int i,.int j]/\Q (.int (if j<i then j else i)) H):=by
 intro pins s σ H xs us Q I r h;obtain⟨i,j,rfl,q⟩:=h;obtain⟨u,w',rfl,⟨t,rfl⟩,⟨t',rfl⟩⟩:=vals2 r;refine min_two_ints (I.ok.hd hc) λh' tk k=>⟨_,H,I.kept k,?_,q⟩
 by_cases hj:j<i;rw[if_pos hj,if_pos hj];exact⟨_,rfl⟩;rw[if_neg hj,if_neg hj];exact⟨_,rfl⟩
theorem Ux:dF X (.type "int") (λxs H Q=>(∃i,xs=[.int i]/\Q (.int i) H)\/∃k,xs=[.bl k]/\Q (.int (if k then 1 else 0)) H):=by
 intro pins s σ H xs us Q I r h;rcases h with⟨i,rfl,q⟩|⟨k,rfl,q⟩
 obtain⟨u,rfl,t,rfl⟩:=vals1 r;exact call_int_int ⟨.int i,H,I,⟨_,rfl⟩,q⟩;obtain⟨u,rfl,r1⟩:=vals1 r;cases r1;exact call_int_bool ⟨.int (if k then 1 else 0),H,I.tok _,⟨_,rfl⟩,q⟩
end
structure lF(h:az)(x dx C:ah)(mA:Str->Option aa):Prop where
 obj:h.get? x=aB (PySem.W.instObj C dx)
 ns:h.Ns1 dx mA
 ne:dx≠x
theorem Ik{h:az}{dx:ah}{mA:Str->Option aa}(n:h.Ns1 dx mA):∃od,h.get? dx=aB od/\∀name,PySem.W.lookIn name od=aB (mA name):=by
 obtain⟨o,es,ep,ho,hd,hk,_,hm⟩:=n;refine⟨o,ho,λname=>?_⟩;have e:=hm name;unfold nsFind findBy at e;rw[<-Array.find?_toList]at e;unfold PySem.W.lookIn;rw[hd];dsimp only;split;rename_i y q;rw[q]at e;exact k8 aB e;rename_i q;rw[q]at e;have a:es.toList.any (·.refKey)=false:=by
  rw[List.any_eq_false];intro y hy;obtain⟨z,t,hkey⟩:=hk y (Array.mem_toList_iff.mp hy);simp[DictEntry.refKey,hkey]
 have a':¬es.toList.any (·.refKey)=true:=by rw[a];exact iZ
 rw[if_neg a'];exact k8 aB e
theorem lF.look{x dx C:ah}{mA:Str->Option aa}(I:lF h x dx C mA):∃od,PySem.W.InstAt h x (PySem.W.instObj C dx) C (aB od)/\∀name,PySem.W.lookIn name od=aB (mA name):=
 let⟨od,ho,hl⟩:=Ik I.ns
 ⟨od,⟨I.obj,rfl,rfl,ho⟩,hl⟩
section
variable{prog:ai}{w:aj}{A:ak}{E:aa->af->Prop}{s:af}{K:aI}{x dx C f:ah}{mA:Str->Option aa}{name:Str}{v:aa}
theorem Uy{expr:Bool}{Q:aa->af->Prop}(X:K.In s.heap)(I:lF s.heap x dx C mA)(hg:PySem.W.plainGet K C name)(hh:PySem.W.hasDictIn K C=true)
 (ha:PySem.W.findIn K (.ref C) name=aB aC) (hv:mA name=aB v) (hv':PySem.W.handedIn v) (h:Q v {s with toks:=s.toks+1}) :
 wpAny (model prog w) A (getAttr (.ref x) name expr) Q E s:=by
 obtain⟨od,J,hl⟩:=I.look;exact PySem.W.get_value X J (PySem.W.plainGet_of hg).1 (PySem.W.findObj_own hh ha rfl (by rw[hl,hv])) hv' h
theorem Uz{pl:Sem Bool}{Q:aa×List aa->af->Prop}(X:K.In s.heap)(I:lF s.heap x dx C mA)(hg:PySem.W.plainGet K C name=true)
 (hf:PySem.W.findIn K (.ref C) name=aB (aB (.ref f))) (ht:PySem.W.isFn K (.ref f)) (hv:mA name=aC) (h:Q (.ref f,[.ref x]) s) :
 wpAny (model prog w) A (getMethod (.ref x) name pl) Q E s:=by
 obtain⟨od,J,hl⟩:=I.look;exact PySem.W.method_fn X J (PySem.W.plainGet_of hg).1 (PySem.W.plainGet_of hg).2 hf (jY.mp ht) (by show(PySem.W.lookIn name od).map (·.isSome)=aB false;rw[hl,hv];rfl) h
theorem UA{ns:List Str}{Q:Unit->af->Prop}(X:K.In s.heap)(I:lF s.heap x dx C mA)
 (hs:PySem.W.findIn K (.ref C) "__setattr__" = aB (aB (.builtin "object.__setattr__"))) (hp:PySem.W.plainOver K C) (ht:PySem.W.takerIn K C name=aB aC) (hh:PySem.W.hasDictIn K C=true)
 (hw:PySem.Within mA ns) (hsz:ns.length<=sizeLine)
 (h:∀h',lF h' x dx C (λy=>if y=name then aB v else mA y)->Heap.SameBut dx s.heap h'->Q () {s with heap:=h',toks:=s.toks+2}) :
 wpAny (model prog w) A (setAttr (.ref x) name v) Q E s:=by
 obtain⟨od,J,hl⟩:=I.look;refine PySem.W.set_plain X J hs (PySem.W.osa_open (s:={s with toks:=s.toks+1}) (r:=aC) X J hp ht λb=>?_);obtain⟨cd,hc,hd'⟩:=PySem.W.any_some hh;have hx:s.heap.get? x=aB ⟨.ref C,aB dx,.plain,#[]⟩:=I.obj;refine aK (br (aK (aK (E7 hx (aK (PySem.W.Looks.here (s:={s with toks:=s.toks+1}) (PySem.W.looks_clsIn X hc) ?_))))));rw[hd'];refine br (a:=aB dx) (aK (br (aK ?_)));refine wpAny_nsSet1 (s:={s with toks:=s.toks+1}) I.ns λh' hn2 hs2=>?_;obtain⟨oD,esD,NF,Br,Bs,nA⟩:=hn2.count (PySem.Within.cons name v hw);refine aK (wpAny_lookBehind Br (by rw[Bs];exact pastItsLine_dict (fS nA (by rw[dh];lia))) ?_);exact br (h _ ⟨(hs2.2 _ (dU I.ne)).trans I.obj,hn2,I.ne⟩ hs2)
theorem UB{R:Result->af->Prop}{vs:List aa}{kw:List (Str×aa)}(X:K.In s.heap)(hm:PySem.W.makesIn K C=true)
 (hi:PySem.W.findIn K (.ref C) "__init__" = aB (aB (.ref f))) (hf:PySem.W.typeIn K (.ref f)=aB (.type "function"))
 (h:codeAny (model prog w) (A.under (.builtin "type.__call__" ⟨.ref C::vs,kw⟩)) (.call (.ref f) ⟨.ref (s.heap.objs.size+1)::vs,kw⟩) (PySem.W.InitBack (s.heap.objs.size+1) R)
   {s with heap:=(s.heap.push PySem.W.emptyDict).push (PySem.W.instObj C s.heap.objs.size)}) :
 codeAny (model prog w) A (.call (.ref C) ⟨vs,kw⟩) R s:=by
 obtain⟨hh,g,d,t,os⟩:=s;exact PySem.W.make_core (PySem.W.makes_of X hm) (PySem.W.looks_findIn X hi) (λself=>PySem.W.bind_fn X self hf) (.inl rfl) h
end
noncomputable def cV(f:Str)(v:V):List (Str×V)->List (Str×V)|[]=>[(f,v)]|(g,x)::r=>if g=f then(g,v)::r else(g,x)::cV f v r
theorem Il(f g:Str)(v:V):∀fs:List (Str×V),(cV f v fs).lookup g=if g=f then aB v else fs.lookup g
 |[]=>by
  show List.lookup g [(f,v)]=_;by_cases h:g=f;have hb:(g==f)=true:=jY.mpr h;simp only[List.lookup,hb,if_pos h];have hb:(g==f)=false:=wG.mpr h;simp only[List.lookup,hb,if_neg h]
 |(k,x)::r=>by
  have ih:=Il f g v r;rw[show cV f v ((k,x)::r)=(if k=f then(k,v)::r else(k,x)::cV f v r)from rfl];by_cases hk:k=f;rw[if_pos hk];by_cases h:g=k;have hb:(g==k)=true:=jY.mpr h;simp only[List.lookup,hb,if_pos (h.trans hk)];have hb:(g==k)=false:=wG.mpr h;simp only[List.lookup,hb,if_neg (λe:g=f=>h (e.trans hk.symm))];rw[if_neg hk];by_cases h:g=k;have hb:(g==k)=true:=jY.mpr h;simp only[List.lookup,hb,if_neg (λe:g=f=>hk (h.symm.trans e))];have hb:(g==k)=false:=wG.mpr h;simp only[List.lookup,hb];exact ih
theorem Bt(f:Str)(v:V):∀fs:List (Str×V),f∈(cV f v fs).map (·.1)/\∀g,g∈fs.map (·.1)->g∈(cV f v fs).map (·.1)
 |[]=>⟨by simp[cV],λg h=>by simp at h⟩
 |(k,x)::r=>by
  obtain⟨i1,i2⟩:=Bt f v r;rw[show cV f v ((k,x)::r)=(if k=f then(k,v)::r else(k,x)::cV f v r)from rfl];by_cases hk:k=f;rw[if_pos hk];subst hk;exact⟨by simp,λg h=>by simpa using h⟩;rw[if_neg hk];refine⟨?_,λg h=>?_⟩;rw[cP];exact eU _ i1;rw[cP]at h ⊢;rcases gq.mp h with e|e;exact gq.mpr (.inl e);exact eU _ (i2 g e)
theorem Im(f:Str)(v:V):∀fs:List (Str×V),(cV f v fs).length<=fs.length+1
 |[]=>by simp[cV]
 |(k,x)::r=>by
  have ih:=Im f v r;rw[show cV f v ((k,x)::r)=(if k=f then(k,v)::r else(k,x)::cV f v r)from rfl];by_cases hk:k=f;rw[if_pos hk,dh,dh];lia;rw[if_neg hk,dh,dh];lia
theorem eG.some_of{o:Option aa}(r:eG (aB v) o):∃u,o=aB u/\RelV v u:=by
 cases o with|none=>exact(show False from r).elim|some u=>exact⟨u,rfl,r⟩
theorem eG.none_of{o:Option aa}(r:eG aC o):o=aC:=by
 cases o with|none=>rfl|some u=>exact(show False from r).elim
theorem UC(r:RelV v u):PySem.W.handedIn u=true:=by
 cases v with|aG=>cases(show u=Value.none from r);rfl|bl b=>cases(show u=Value.bool b from r);rfl|int i=>obtain⟨t,e⟩:=(show ∃t,u=Value.int i t from r);cases e;rfl|str x=>obtain⟨t,e⟩:=(show ∃t,u=Value.str x t from r);cases e;rfl|mz b=>obtain⟨t,e⟩:=(show ∃t,u=Value.bytes b t from r);cases e;rfl|wZ b=>obtain⟨t,e⟩:=(show ∃t,u=Value.float b t from r);cases e;rfl|ref a=>cases(show u=Value.ref a from r);rfl|ty n=>cases(show u=Value.type n from r);rfl
section
variable{P:ai}{w:aj}{H H':Hp}{h h':az}{a C dx:ah}{fs fs':List (Str×V)}
theorem F4(hok:eF P w H h)(e:H a=aB (.ins C dx fs)):∃mA,lF h a dx C mA/\(∀f,eG (fs.lookup f) (mA f))/\PySem.Within mA (fs.map (·.1))/\fs.length<=1000/\H dx=aB (.own a):=by
 obtain⟨d,z,ne,ob,mA,n,r,q⟩:=(show bx P w H h a (.ins C dx fs)from hok a _ e)
 exact⟨mA,⟨ob,n,ne⟩,r,q,z,d⟩
end
structure lG(K:aI)(C:ah):Prop where
 pg:PySem.W.plainGet K C Str.empty=true
 hd:PySem.W.hasDictIn K C=true
 po:PySem.W.plainOver K C=true
 sa:PySem.W.findIn K (.ref C) "__setattr__" = aB (aB (.builtin "object.__setattr__"))
theorem lG.get{K:aI}{C:ah}(c:lG K C)(f:Str):PySem.W.plainGet K C f=true:=c.pg
noncomputable def rq(K:aI)(C:ah)(f:Str):Prop:=PySem.W.findIn K (.ref C) f=aB aC
theorem rq.Bu{K:aI}{C:ah}{f:Str}(n:rq K C f):PySem.W.takerIn K C f=aB aC:=by
 unfold PySem.W.takerIn;rw[show PySem.W.findIn K (.ref C) f=aB aC from n];rfl
structure Meth(K:aI)(C:ah)(m:Str)(f:ah):Prop where
 at_:PySem.W.findIn K (.ref C) m=aB (aB (.ref f))
 fn:PySem.W.isFn K (.ref f)=true
 kp:PySem.W.keepIn K (.ref f)=true
section
variable{X:Cx}{pins:List (ah×Obj)}{σ:St}{H:Hp}{s:af}{a C dx:ah}{fs:List (Str×V)}{f:Str}{v:V}{A:ak}{E:aa->af->Prop}
theorem UD{b:Bool}{Q:aa->af->Prop}(I:Inv X pins σ H s)(e:H a=aB (.ins C dx fs))(c:lG X.K C)(n:rq X.K C f)(l:fs.lookup f=aB v)
 (h:∀u s',Inv X pins σ H s'->RelV v u->Q u s'):wpAny (model X.prog X.w) A (getAttr (.ref a) f b) Q E s:=by
 obtain⟨mA,O,r,_,_,_⟩:=F4 I.hok e;obtain⟨u,hu,ru⟩:=eG.some_of (v:=v) (o:=mA f) (by rw[<-l];exact r f);exact Uy I.dM O (c.get f) c.hd n hu (UC ru) (h u _ (I.tok _) ru)
theorem NG{m:Str}{g:ah}{pl:Sem Bool}{Q:aa×List aa->af->Prop}(I:Inv X pins σ H s)(e:H a=aB (.ins C dx fs))(c:lG X.K C)(k:Meth X.K C m g)(l:fs.lookup m=aC)
 (h:Q (.ref g,[.ref a]) s):wpAny (model X.prog X.w) A (getMethod (.ref a) m pl) Q E s:=by
 obtain⟨mA,O,r,_,_,_⟩:=F4 I.hok e;have hn:mA m=aC:=eG.none_of (by rw[<-l];exact r m);exact Uz I.dM O (c.get m) k.at_ k.fn hn h
theorem UE{Q:Unit->af->Prop}(I:Inv X pins σ H s)(e:H a=aB (.ins C dx fs))(c:lG X.K C)(n:rq X.K C f)(hl:fs.length<1000)(ry:RelV y u)
 (h:∀s',Inv X pins σ (upd H a (.ins C dx (cV f y fs))) s'->Q () s'):wpAny (model X.prog X.w) A (setAttr (.ref a) f u) Q E s:=by
 obtain⟨mA,O,r,wi,_,ho⟩:=F4 I.hok e;have hz:(fs.map (·.1)).length<=sizeLine:=by rw[bV,rS];lia
 refine UA I.dM O c.sa c.po n.Bu c.hd wi hz λh' O' sb=>h _ ?_;have hd:∃o,h'.get? dx=aB o:=let⟨o,_,_,e',_⟩:=O'.ns;⟨o,e'⟩;refine I.write (x:=a) (e:=dx) (by rw[e];exact True.intro) (.inr ho) (λb q hb z=>(sb.2 b hb).trans z) hd ?_;refine⟨by rw[bR O.ne];exact ho,?_,O.ne,O'.obj,_,O'.ns,λg=>?_,λg hg=>?_⟩;have:=Im f y fs;lia;show eG ((cV f y fs).lookup g) (if g=f then aB u else mA g);rw[Il];by_cases q:g=f;rw[if_pos q,if_pos q];exact ry;rw[if_neg q,if_neg q];exact r g;by_cases q:g=f;rw[q];exact(Bt f y fs).1;refine(Bt f y fs).2 g (wi g λz=>hg ?_);show(if g=f then aB u else mA g)=aC;rw[if_neg q];exact z
theorem Inv.made(I:Inv X pins σ H s):Inv X pins σ (upd (upd H s.heap.objs.size (.own (s.heap.objs.size+1))) (s.heap.objs.size+1) (.ins C s.heap.objs.size []))
 {s with heap:=(s.heap.push PySem.W.emptyDict).push (PySem.W.instObj C s.heap.objs.size)}:=by
 have e1:(s.heap.push PySem.W.emptyDict).get? s.heap.objs.size=aB PySem.W.emptyDict:=i6 s.heap rfl;have e2:((s.heap.push PySem.W.emptyDict).push (PySem.W.instObj C s.heap.objs.size)).get? (s.heap.objs.size+1)=aB (PySem.W.instObj C s.heap.objs.size):=by
  have:=i6 (s.heap.push PySem.W.emptyDict) (o:=PySem.W.instObj C s.heap.objs.size) rfl
  rwa [mj]at this
 have e3:(s.heap.push PySem.W.emptyDict).Ns s.heap.objs.size (λ_=>aC):=⟨PySem.W.emptyDict,#[],_,e1,rfl,(λe he=>absurd he (by simp)),λ_=>rfl⟩
 have I1:=I.laid (a:=s.heap.objs.size) (o:=.own (s.heap.objs.size+1)) (h':=s.heap.push PySem.W.emptyDict) (t':=s.toks) (λb u q=>cu _ q) (bq _) ⟨_,e1⟩;refine I1.laid (a:=s.heap.objs.size+1) (o:=.ins C s.heap.objs.size []) (t':=s.toks) (λb u q=>cu _ q) (Fi (mj _ _)) ?_;have ne:s.heap.objs.size≠s.heap.objs.size+1:=fj (lg _);refine⟨by rw[bR ne,eV],i8 _,ne,e2,λ_=>aC,(Heap.Ns1.of_empty e3).at λo q=>cu _ q,λ_=>True.intro,λy hy=>absurd rfl hy⟩
theorem UG{prog:ai}{w:aj}{f:Str}{pos:Pos}{s:af}{Q:aa->af->Prop}(hb:attributeBase e f env (eval e env)=eval e env)
 (h:wpAny (model prog w) A (eval e env) (λo s₁=>wpAny (model prog w) A (getAttr o f true) Q E s₁) E s):wpAny (model prog w) A (eval (.Attribute e f pos) env) Q E s:=
 Attribute_any_ h (by rw[arm_eval_Attribute,hb])
end
noncomputable def Io(K:aI)(ta:TE)(f:Str):TE:=λσ H Q=>ta σ H λx H1=>∃a C dx fs v,x=.ref a/\H1 a=aB (.ins C dx fs)/\lG K C/\rq K C f/\fs.lookup f=aB v/\Q v H1
noncomputable def Ip(K:aI)(ta tv:TE)(f:Str):TS:=λD σ H=>tv σ H λy H1=>ta σ H1 λx H2=>∃a C dx fs,x=.ref a/\H2 a=aB (.ins C dx fs)/\lG K C/\rq K C f/\fs.length<1000/\
 D.nx σ (upd H2 a (.ins C dx (cV f y fs)))
section
variable{X:Cx}{o e value:ao}{f:Str}{pos pos' tpos:Pos}{ta tv:TE}
theorem UH(he:PE X e ta)(hb:attributeBase e f X.env (eval e X.env)=eval e X.env):PE X (.Attribute e f pos) (Io X.K ta f):=by
 intro pins s σ H Q I h;refine UG hb (bw (he pins s σ H _ I h) λu s1 z9=>z9.el λx H1 I1 rx cR=>?_);obtain⟨a,C,dx,fs,v,ex,ea,c,n,l,q⟩:=cR;subst ex;obtain rfl:u=Value.ref a:=rx;exact UD I1 ea c n l λu' s2 I2 ru=>⟨v,H1,I2,ru,q⟩
theorem UI(ha:PE X o ta)(hv:PE X value tv)(hs:swapsWith value (aB (.Attribute o f pos')) pos.line X.env=pure false):PS X (.Assign [.Attribute o f pos'] value pos) (Ip X.K ta tv f):=by
 intro pins s σ H D I h;refine plainObj_wpAny_Assign_Attribute (bw (hv pins s σ H _ I h) λu s1 z9=>z9.el λy H1 I1 ry q=>bw (ha pins s1 σ H1 _ I1 q) λov s2 z9=>z9.el λx H2 I2 rx ⟨a,C,dx,fs,ex,ea,c,n,l,q2⟩=>?_) hs;subst ex;obtain rfl:ov=Value.ref a:=rx;exact UE I2 ea c n l ry λs3 I3=>⟨σ,_,I3,q2⟩
theorem ztd{pl:Sem Bool}{m:Str}{apos:Pos}{args:List ao}{σ:St}{Q:aa->af->Prop}(he:PE X e te)(I:Inv X pins σ H s)
 (h:te σ H λx H1=>∃a C dx fs g,x=.ref a/\H1 a=aB (.ins C dx fs)/\lG X.K C/\Meth X.K C m g/\fs.lookup m=aC/\
   ∀s1,Inv X pins σ H1 s1->wpAny (model X.prog X.w) X.A (callWith pos (.ref g) [.ref a] (backTo pos (starEach args X.env)) (backToKw pos (keywordEach [] X.env))) Q X.xe s1)
 (ht:eval (.Call (.Attribute e m apos) args [] pos) X.env=(do
   let ov <-eval e X.env
   standAt apos.atName;let (f,first) <-holding [ov] (getMethod ov m pl)
   callWith pos f first (backTo pos (starEach args X.env)) (backToKw pos (keywordEach [] X.env)))) :
 wpAny (model X.prog X.w) X.A (eval (.Call (.Attribute e m apos) args [] pos) X.env) Q X.xe s:=by
 refine PySem.W.methodCall_KW (pl:=pl) (bw (he pins s σ H _ I h) λu s1 z9=>z9.el λx H1 I1 rx ⟨a,C,dx,fs,g,ex,ea,c,k,l,q⟩=>?_) ht;subst ex;obtain rfl:u=Value.ref a:=rx;exact NG I1 ea c k l (q s1 I1)
end
section
variable{X:Cx}{pins:List (ah×Obj)}{σ:St}{H:Hp}{s:af}{A:ak}{E:aa->af->Prop}{Q:aa->af->Prop}{c:aa}{b:Bool}
inductive gx(K:aI)(H:Hp):V->aa->Prop where
 |aG:gx K H .aG (.type "NoneType")
 |bl (x:Bool):gx K H (.bl x) (.type "bool")
 |int (i:Int):gx K H (.int i) (.type "int")
 |str (x:Str):gx K H (.str x) (.type "str")
 |wZ (x:UInt64):gx K H (.wZ x) (.type "float")
 |lst {a:ah} {xs:List V} (e:H a=aB (.lst xs)):gx K H (.ref a) (.type "list")
 |cG {a:ah} {o:Obj} {xs:List V} (e:H a=aB (.cG o (.lst xs))):gx K H (.ref a) (.type "list")
 |tup {a:ah} {xs:List V} (e:H a=aB (.tup xs)):gx K H (.ref a) (.type "tuple")
 |dK {a:ah} {kvs:List (Key×V)} (e:H a=aB (.dK kvs)):gx K H (.ref a) (.type "dict")
 |dT {a:ah} {kvs:List (List Key×V)} (e:H a=aB (.dT kvs)):gx K H (.ref a) (.type "dict")
 |ins {a C dx:ah} {fs:List (Str×V)} (e:H a=aB (.ins C dx fs)) (cl:lG K C) (ha:PySem.W.findIn K (.ref C) "__class__" = aB (aB (.builtin "object.__class__")))
   (hn:PySem.W.specialIn K (.builtin "object.__class__") "__get__" = aB (aB (.builtin "getset_descriptor.__get__"))) (htk:PySem.W.takesIn K (.builtin "object.__class__")=aB true)
   (hm:PySem.W.mroIn K C (.type "object")=aB true):gx K H (.ref a) (.ref C)
theorem UJ(I:Inv X pins σ H s)(rx:RelV x u)(ty:gx X.K H x t)(e:PySem.W.kitOne X.K t c=aB b)(h:∀tk,Q (.bool b) {s with toks:=tk}) :
 wpAny (model X.prog X.w) A (call (.builtin "isinstance") [u,c]) Q E s:=by
 cases ty with
 |aG=>cases(show u=Value.none from rx);exact mq PySem.W.kitx_none I.dM True.intro e (λz=>nomatch z) h
 |bl y=>cases(show u=Value.bool y from rx);exact mq PySem.W.kitx_bool I.dM True.intro e (λz=>nomatch z) h
 |int i=>obtain⟨t,q⟩:=(show ∃t,u=Value.int i t from rx);cases q;exact mq PySem.W.kitx_int I.dM True.intro e (λz=>nomatch z) h
 |str y=>obtain⟨t,q⟩:=(show ∃t,u=Value.str y t from rx);cases q;exact mq PySem.W.kitx_str I.dM True.intro e (λz=>nomatch z) h
 |wZ y=>obtain⟨t,q⟩:=(show ∃t,u=Value.float y t from rx);cases q;exact mq PySem.W.kitx_float I.dM True.intro e (λz=>nomatch z) h
 | @lst a xs ea=>
  cases(show u=Value.ref a from rx);obtain⟨_,_,n,_,h1⟩:=(show bx X.prog X.w H s.heap a (.lst xs)from I.hok a _ ea)
  exact mq PySem.W.kitx_list I.dM ⟨_,h1,rfl⟩ e (λz=>nomatch z) h
 | @cG a ob xs ea=>
  cases(show u=Value.ref a from rx);obtain⟨_,_,_,n,_,h1⟩:=(show bx X.prog X.w H s.heap a (.cG ob (.lst xs))from I.hok a _ ea)
  exact mq PySem.W.kitx_list I.dM ⟨_,h1,rfl⟩ e (λz=>nomatch z) h
 | @tup a xs ea=>
  cases(show u=Value.ref a from rx);obtain⟨_,_,_,p⟩:=(show bx X.prog X.w H s.heap a (.tup xs)from I.hok a _ ea)
  obtain⟨o,h1,h2,_⟩:=p;exact mq PySem.W.kitx_tuple I.dM ⟨o,h1,h2⟩ e (λz=>nomatch z) h
 | @dK a kvs ea=>
  cases(show u=Value.ref a from rx);obtain⟨_,_,vs,_,p⟩:=(show bx X.prog X.w H s.heap a (.dK kvs)from I.hok a _ ea)
  obtain⟨o,es,ep,h1,h2,_⟩:=p;exact mq PySem.W.kitx_dict I.dM ⟨o,h1,h2.1⟩ e (λz=>nomatch z) h
 | @dT a kvs ea=>
  cases(show u=Value.ref a from rx);obtain⟨_,_,xs,_,o,es,ep,h1,h2,_⟩:=(show bx X.prog X.w H s.heap a (.dT kvs)from I.hok a _ ea)
  exact mq PySem.W.kitx_dict I.dM ⟨o,h1,h2.1⟩ e (λz=>nomatch z) h
 | @ins a C dx fs ea cl ha hn htk hm=>
  cases(show u=Value.ref a from rx);obtain⟨mA,O,_⟩:=F4 I.hok ea;obtain⟨od,J,_⟩:=O.look;exact mq (PySem.W.kitx_own (cl.get _) cl.hd ha hn htk hm) I.dM J e (λz=>nomatch z) h
end
structure bG(k:Nat)(A:ak):Prop where
 hd:A.handled=aC
 dp:A.depth+3*k+5<recursionLimit
 un:A.units+16*k+200<cLine
theorem bG.deeper{k:Nat}(r:bG (k+1) A)(env:Env):bG k (A.deeper env):=
 ⟨r.hd,by have:=r.dp;show A.depth+1+3*k+5<_;lia,by have:=r.un;show A.units+3+16*k+200<_;lia⟩
theorem NH{A:ak}{C:ah}{us:List aa}{kw:List (Str×aa)}:(A.under (.builtin "type.__call__" ⟨.ref C::us,kw⟩)).depth=A.depth+1:=by
 first|rfl|simp[Around.under,Code.weight,Code.isCreation,Code.isGuard,Code.isCaller,Code.frames,Code.isFrame,guardIds]
theorem NI{A:ak}{C:ah}{us:List aa}{kw:List (Str×aa)}:(A.under (.builtin "type.__call__" ⟨.ref C::us,kw⟩)).units=A.units+1:=by
 first|rfl|simp[Around.under,Code.cUnits,Code.frames,Code.isFrame]
theorem bG.make{k:Nat}(r:bG (k+1) A)(C:ah)(us:List aa)(kw:List (Str×aa)):bG k (A.under (.builtin "type.__call__" ⟨.ref C::us,kw⟩)):=
 ⟨r.hd,by have:=r.dp;rw[NH];lia,by have:=r.un;rw[NI];lia⟩
theorem bG.depth{k:Nat}(r:bG k A):A.depth<recursionLimit:=by have:=r.dp;lia
theorem bG.units{k:Nat}(r:bG k A):A.units+64<cLine:=by have:=r.un;lia
noncomputable def Bv:TA:=λ_ H Q=>Q [] H
noncomputable def Bw(ta:TE)(tr:TA):TA:=λσ H Q=>ta σ H λx H1=>tr σ H1 λxs H2=>Q (x::xs) H2
section
variable{X:Cx}{e:ao}{es:List ao}{te:TE}{t:TA}{pos:Pos}
theorem rz:PA X [] Bv:=λ_ _ _ _ H Q I h=>Calls.spliced_nil ⟨[],H,I,.nil,h⟩
theorem ou(ha:PE X e te)(hr:PA X es t)(hs:autoParam (starEach (e::es) X.env=(false,eval e X.env)::starEach es X.env) L2.aR._auto_1):PA X (e::es) (Bw te t):=by
 intro pos pins s σ H Q I h;rw[hs];show wpAny _ _ (spliced ((false,eval e X.env)::backTo pos (starEach es X.env))) _ _ s;refine Calls.spliced_cons (bw (ha pins s σ H _ I h) λu s1 z9=>z9.el λx H1 I1 r1 q1=>?_);exact bw (hr pos pins s1 σ H1 _ I1 q1) λus s2 z9=>z9.el λxs H2 I2 r2 q2=>⟨x::xs,H2,I2,.cons r1 r2,q2⟩
noncomputable def Iq(t:TA):TE:=λσ H Q=>t σ H λxs H1=>xs.length<=sizeLine/\∀p,H1 p=aC->Q (.ref p) (upd H1 p (.tup xs))
noncomputable def Ir(t:TA):TE:=λσ H Q=>t σ H λxs H1=>xs.length<=sizeLine/\∀p,H1 p=aC->Q (.ref p) (upd H1 p (.lst xs))
theorem UK{x1}(h:PA X es t):PE X (.Tuple es x1 pos) (Iq t):=by
 intro pins s σ H Q I hq;refine wpAny_Tuple_spliced (bw (h pos pins s σ H _ I hq) λus s1 z9=>z9.el λxs H1 I1 r ⟨z,q⟩=>⟨by rw[<-r.length];exact z,?_⟩);have hf:H1 s1.heap.objs.size=aC:=I1.hok.fresh (bq _);refine⟨.ref s1.heap.objs.size,upd H1 s1.heap.objs.size (.tup xs),I1.laid (t':=s1.toks) (λb u e=>cu _ e) (bq _) ?_,rfl,q _ hf⟩;exact⟨z,us,r,mC.new _ _⟩
theorem Iu(h:PA X es t):PE X (.List es pos) (Ir t):=by
 intro pins s σ H Q I hq;refine wpAny_List_spliced (bw (h pos pins s σ H _ I hq) λus s1 z9=>z9.el λxs H1 I1 r ⟨z,q⟩=>⟨by rw[<-r.length];exact z,?_⟩);have hf:H1 s1.heap.objs.size=aC:=I1.hok.fresh (bq _);refine⟨.ref s1.heap.objs.size,upd H1 s1.heap.objs.size (.lst xs),I1.laid (t':=s1.toks) (λb u e=>cu _ e) (bq _) ?_,rfl,q _ hf⟩;exact⟨z,us,0,r,i6 _ rfl⟩
end
noncomputable abbrev Sp:=List V->Hp->VK->XK->Prop
noncomputable abbrev nB:=List Env->Hp->af->XK->aa->af->Prop
structure j8(P:ai)(w:aj)(K:aI)(mg:Str->Option aa)(base:az)(A:ak)(outer:List Env)(s:af)(H:Hp):Prop where
 frames:A.frames=aB outer
 mod:Mod K mg base
 bs:∀b o,base.get? b=aB o->s.heap.get? b=aB o/\H b=aC
 oO:base.objs.size<=s.heap.objs.size
 gk:s.heap.FunFrames base outer
 rm:∀b∈frs outer,H b=aC
 hok:eF P w H s.heap
 bare:AllBare s.gens
noncomputable def CE(outer:List Env)(P:ai)(w:aj)(H:Hp)(s:af)(Q:VK)(u:aa)(s':af):Prop:=
 ∃v H',s'.os=s.os/\AllBare s'.gens/\Un (frs outer) [] H H' s.heap s'.heap/\eF P w H' s'.heap/\RelV v u/\Q v H'
noncomputable def CR(CX:nB)(outer:List Env)(P:ai)(w:aj)(H:Hp)(s:af)(Q:VK)(E:XK)(r:Result)(s':af):Prop:=
 match r with|.ok (.ret u)=>CE outer P w H s Q u s'|.ok _=>False|.error e=>CX outer H s E e s'
structure bU(P:ai)(w:aj)(K:aI)(mg:Str->Option aa)(base:az)(CX:nB)(k:Nat)(f:ah)(fd:au)(ps:List Str)(sp:Sp):Prop where
 len:∀vs H Q E,sp vs H Q E->vs.length=ps.length
 run:∀(A:ak)(outer:List Env)(s:af)(H:Hp)(args:Args)(us:List aa)(vs:List V)(Q:VK)(E:XK),bG k A->j8 P w K mg base A outer s H->BindsTo s fd args (ps.zip us)->Vals vs us->sp vs H Q E->
  codeAny (model P w) A (.call (.ref f) args) (CR CX outer P w H s Q E) s
theorem j8.make{P:ai}{w:aj}{K:aI}{mg:Str->Option aa}{base:az}{A:ak}{outer:List Env}{s:af}{H:Hp}(e:j8 P w K mg base A outer s H)(C:ah)(us:List aa)(kw:List (Str×aa)) :
 j8 P w K mg base (A.under (.builtin "type.__call__" ⟨.ref C::us,kw⟩)) outer s H:=⟨by first|exact e.frames|(simpa[Around.under,Code.envs,Code.isFrame,pushEnvs]using e.frames),e.mod,e.bs,e.oO,e.gk,e.rm,e.hok,e.bare⟩
section
variable{X:Cx}{pins:List (ah×Obj)}{σ:St}{H:Hp}{s s':af}
theorem Inv.oW(I:Inv X pins σ H s):j8 X.prog X.w X.K X.mg X.base X.A X.stack s H:=
 ⟨I.ok.frames,I.ok.mod,I.bs,fS I.ok.oO I.sz,I.stack,I.iG,I.hok,I.bare⟩
theorem Inv.after(I:Inv X pins σ H s)(h:CE X.stack X.prog X.w H s Q u s'):EP X pins σ Q u s':=by
 obtain⟨v,H',os,bare,un,hok,r,q⟩:=h;obtain⟨hh,g,d,t,os'⟩:=s';obtain rfl:os'=s.os:=os;exact⟨v,H',I.call (h':=hh) (g':=g) (d':=d) (t':=t) (ch:=[]) un hok bare (λb z=>absurd z (by simp)),r,q⟩
end
noncomputable def uT(sp:Sp)(iJ:List V)(E:XK)(t:TA):TE:=λσ H Q=>t σ H λvs H1=>sp (vs++iJ) H1 Q E
noncomputable def Bx(C:ah)(m:Str)(sp:Sp)(iJ:List V)(E:XK)(ta:TE)(t:TA):TE:=λσ H Q=>ta σ H λx H1=>∃a dx fs,x=.ref a/\H1 a=aB (.ins C dx fs)/\fs.lookup m=aC/\
 t σ H1 λvs H2=>sp (x:: (vs++iJ)) H2 Q E
noncomputable def By(C:ah)(sp:Sp)(iJ:List V)(E:XK)(t:TA):TE:=λσ H Q=>t σ H λvs H1=>∀x dx,H1 x=aC->H1 dx=aC->dx≠x->
 sp (.ref x:: (vs++iJ)) (upd (upd H1 dx (.own x)) x (.ins C dx [])) (λv H2=>v=.aG/\Q (.ref x) H2) E
noncomputable def Binds(K:aI)(fd:au)(ps:List Str)(ds:List aa):Prop:=
 ∀(s:af)(us:List aa),K.In s.heap->(us++ds).length=ps.length->BindsTo s fd ⟨us,[]⟩ (ps.zip (us++ds))
theorem Binds.all{K:aI}{fd:au}{ps:List Str}(h:∀us:List aa,us.length=ps.length->bindArgs fd ⟨us,[]⟩=pure (ps.zip us)):Binds K fd ps []:=λs us _ hl=>by
 rw[i7]at hl ⊢;exact .of_eq (h us hl)
noncomputable def sC(CX:nB)(X:Cx)(E:XK):Prop:=∀(pins:List (ah×Obj)) (σ:St) (H:Hp) (s:af) (e:aa) (s':af),Inv X pins σ H s->CX X.stack H s E e s'->X.xe e s'
section
variable{X:Cx}{CX:nB}{k:Nat}{f C:ah}{fd:au}{ps:List Str}{sp:Sp}{iJ:List V}{ds:List aa}{E:XK}{x m:Str}{p pos apos:Pos}{e o:ao}{es:List ao}{ta:TE}{t:TA}
theorem Iv{pins:List (ah×Obj)}{σ:St}{H:Hp}{s:af}{Q:VK}{us:List aa}{vs:List V}(F:bU X.prog X.w X.K X.mg X.base CX k f fd ps sp)(hr:bG k X.A)(hb:Binds X.K fd ps ds)(hd:Vals iJ ds)(hx:sC CX X E)
 (I:Inv X pins σ H s) (r:Vals vs us) (h:sp (vs++iJ) H Q E):wpAny (model X.prog X.w) X.A (call (.ref f) us) (EP X pins σ Q) X.xe s:=by
 have r2:Vals (vs++iJ) (us++ds):=r.append hd;have hl:(us++ds).length=ps.length:=by rw[<-r2.length];exact F.len _ _ _ _ h
 refine qS (uI (F.run X.A X.stack s H ⟨us,[]⟩ (us++ds) (vs++iJ) Q E hr I.oW (hb s us I.dM hl) r2 h) λr s' hq=>?_);cases r with
 |error e=>exact hx pins σ H s e s' I hq
 |ok fl=>
  cases fl with|ret u=>exact I.after hq|next=>exact False.elim hq|brk=>exact False.elim hq|cont=>exact False.elim hq
theorem F5(F:bU X.prog X.w X.K X.mg X.base CX k f fd ps sp)(hr:bG k X.A)(hg:Gl X x)(hm:X.mg x=aB (.ref f))(hk:PySem.W.keepIn X.K (.ref f))(hb:Binds X.K fd ps ds)(hd:Vals iJ ds)(hx:sC CX X E)
 (ha:PA X (e::es) t) (hdb:autoParam ((x==("__debug__" : Str))=false) L2.aD._auto_1) (he:autoParam (starEach (e::es) X.env=(false,eval e X.env)::starEach es X.env) L2.aR._auto_1) (hpl:autoParam ((backTo pos (starEach es X.env)).any (·.1)=false) L2.aR._auto_1) :
 PE X (.Call (.Name x p) (e::es) [] pos) (uT sp iJ E t):=by
 intro pins s σ H Q I h;refine rQ (sr I hg hm ?_ hdb);refine zA (h₀:=X.base) I.ok.mod.se hk (bw (ha pos pins s σ H _ I h) λus s1 z9=>z9.el λvs H1 I1 r q=>⟨I1.dM,?_⟩) he hpl;exact Iv F hr hb hd hx I1 r q
theorem UL(F:bU X.prog X.w X.K X.mg X.base CX k f fd ps sp)(hr:bG k X.A)(hg:Gl X x)(hm:X.mg x=aB (.ref f))(hk:PySem.W.keepIn X.K (.ref f))(hb:Binds X.K fd ps ds)(hd:Vals iJ ds)(hx:sC CX X E)
 (hdb:autoParam ((x==("__debug__" : Str))=false) L2.aD._auto_1):PE X (.Call (.Name x p) [] [] pos) (uT sp iJ E Bv):=by
 intro pins s σ H Q I h;refine rQ (sr I hg hm ?_ hdb);exact PySem.W.callWith_K0 I.dM hk (Iv (us:=[]) F hr hb hd hx I .nil h)
theorem UM{pl:Sem Bool}(he:PE X o ta)(c:lG X.K C)(hm:Meth X.K C m f)(F:bU X.prog X.w X.K X.mg X.base CX k f fd ps sp)(hr:bG k X.A)(hb:Binds X.K fd ps ds)(hd:Vals iJ ds)(hx:sC CX X E)(ha:PA X (e::es) t)
 (hst:autoParam (starEach (e::es) X.env=(false,eval e X.env)::starEach es X.env) L2.aR._auto_1) (hpl:autoParam ((backTo pos (starEach es X.env)).any (·.1)=false) L2.aR._auto_1)
 (ht:autoParam (eval (.Call (.Attribute o m apos) (e::es) [] pos) X.env=(do
   let ov <-eval o X.env
   standAt apos.atName;let (f,first) <-holding [ov] (getMethod ov m pl)
   callWith pos f first (backTo pos (starEach (e::es) X.env)) (backToKw pos (keywordEach [] X.env)))) L2.aR._auto_1) :
 PE X (.Call (.Attribute o m apos) (e::es) [] pos) (Bx C m sp iJ E ta t):=by
 intro pins s σ H Q I h;refine PySem.W.methodCall_KW (pl:=pl) (bw (he pins s σ H _ I h) λu s1 z9=>z9.el λx H1 I1 rx ⟨a,dx,fs,ex,ea,l,q⟩=>?_) ht;subst ex;obtain rfl:u=Value.ref a:=rx;refine NG I1 ea c hm l ?_;refine zA (first:=[.ref a]) (h₀:=X.base) I.ok.mod.se hm.kp (bw (ha pos pins s1 σ H1 _ I1 q) λus s2 z9=>z9.el λvs H2 I2 r q2=>⟨I2.dM,?_⟩) hst hpl;exact Iv (us:=.ref a::us) (vs:=.ref a::vs) F hr hb hd hx I2 (.cons rfl r) q2
structure Mk(K:aI)(C f:ah):Prop where
 makes:PySem.W.makesIn K C=true
 init:PySem.W.findIn K (.ref C) "__init__" = aB (aB (.ref f))
 fn:PySem.W.isFn K (.ref f)=true
 kp:PySem.W.keepIn K (.ref C)=true
theorem UN{pins:List (ah×Obj)}{σ:St}{H:Hp}{s:af}{Q:VK}{us:List aa}{vs:List V}(M:Mk X.K C f)(F:bU X.prog X.w X.K X.mg X.base CX k f fd ps sp)(hr:bG (k+1) X.A)(hb:Binds X.K fd ps ds)(hd:Vals iJ ds)
 (hx:sC CX X E) (I:Inv X pins σ H s) (r:Vals vs us)
 (h:∀x dx,H x=aC->H dx=aC->dx≠x->sp (.ref x:: (vs++iJ)) (upd (upd H dx (.own x)) x (.ins C dx [])) (λv H2=>v=.aG/\Q (.ref x) H2) E) :
 wpAny (model X.prog X.w) X.A (call (.ref C) us) (EP X pins σ Q) X.xe s:=by
 have hq:=h (s.heap.objs.size+1) s.heap.objs.size (I.hok.fresh (oq _)) (I.hok.fresh (bq _)) (fj (lg _));have I2:=Inv.made (C:=C) I;have r2:Vals (V.ref (s.heap.objs.size+1):: (vs++iJ)) (Value.ref (s.heap.objs.size+1):: (us++ds)):=.cons rfl (r.append hd);have hl:(Value.ref (s.heap.objs.size+1)::us++ds).length=ps.length:=by
  have e:=r2.length;rw[F.len _ _ _ _ hq]at e;exact e.symm
 refine qS (UB (f:=f) I.dM M.makes M.init (jY.mp M.fn) (uI (F.run _ X.stack _ _ ⟨Value.ref (s.heap.objs.size+1)::us,[]⟩ (Value.ref (s.heap.objs.size+1):: (us++ds)) _ _ E (hr.make C us [])
  (I2.oW.make C us []) (hb _ (Value.ref (s.heap.objs.size+1)::us) I2.dM hl) r2 hq) λr s' hq'=>?_))
 cases r with
 |error e=>exact hx pins σ _ _ e s' I2 hq'
 |ok fl=>
  cases fl with
  |ret u=>
   obtain⟨v,H',I3,rv,ev,q3⟩:=I2.after hq';subst ev;exact⟨rv,⟨V.ref (s.heap.objs.size+1),H',I3,rfl,q3⟩⟩
  |next=>exact False.elim hq'
  |brk=>exact False.elim hq'
  |cont=>exact False.elim hq'
theorem NJ(M:Mk X.K C f)(F:bU X.prog X.w X.K X.mg X.base CX k f fd ps sp)(hr:bG (k+1) X.A)(hg:Gl X x)(hm:X.mg x=aB (.ref C))(hb:Binds X.K fd ps ds)(hd:Vals iJ ds)(hx:sC CX X E)
 (ha:PA X (e::es) t) (hdb:autoParam ((x==("__debug__" : Str))=false) L2.aD._auto_1) (he:autoParam (starEach (e::es) X.env=(false,eval e X.env)::starEach es X.env) L2.aR._auto_1) (hpl:autoParam ((backTo pos (starEach es X.env)).any (·.1)=false) L2.aR._auto_1) :
 PE X (.Call (.Name x p) (e::es) [] pos) (By C sp iJ E t):=by
 intro pins s σ H Q I h;refine rQ (sr I hg hm ?_ hdb);refine zA (h₀:=X.base) I.ok.mod.se M.kp (bw (ha pos pins s σ H _ I h) λus s1 z9=>z9.el λvs H1 I1 r q=>⟨I1.dM,?_⟩) he hpl;exact UN M F hr hb hd hx I1 r q
end
structure bY(N P:List Str)(sc:ay):Prop where
 kind:sc.kind=.function
 co:sc.isCoroutine=false
 gen:sc.isGenerator=false
 nd:N.Nodup
 pre:N.take P.length=P
 par:∀x∈P,sc.names.lookup x=aB .local\/sc.names.lookup x=aB .cell
 xx:∀y∈sc.names,y.2≠.free
theorem NK{kindOf:Str->Option NameKind}{x:Str}:∀{binds:List (Str×aa)} {m:Str->Option aa},(∀v,(x,v)∉binds)->bindL kindOf binds m x=m x
 |[],_,_=>rfl
 |(n,v)::r,m,h=>by
  unfold bindL;rw[NK λw hw=>h w (eU _ hw)];split;have:x≠n:=by rintro rfl;exact h v fy
  simp[this];rfl
theorem NL{kindOf:Str->Option NameKind}{x:Str}:∀{binds:List (Str×aa)} {m:Str->Option aa},(∀v,(x,v)∉binds)->bindC kindOf binds m x=m x
 |[],_,_=>rfl
 |(n,v)::r,m,h=>by
  unfold bindC;rw[NL λw hw=>h w (eU _ hw)];split;rfl;have:x≠n:=by rintro rfl;exact h v fy
  simp[this]
theorem NN{kindOf:Str->Option NameKind}{x:Str}:∀{P:List Str} {vs:List aa} {i:Nat} {m:Str->Option aa},P.Nodup->P[i]?=aB x->vs[i]?=aB v->kindOf x=aB .local->
 bindL kindOf (P.zip vs) m x=aB v
 |[],_,_,_,_,h,_,_=>by simp at h
 |_::_,[],_,_,_,_,h,_=>by simp at h
 |p::P,w::vs,0,m,nd,h1,h2,hk=>by
  simp at h1 h2;subst h1;subst h2;show bindL kindOf ((p,w)::P.zip vs) m p=_;unfold bindL;rw[NK λv hv=>(AH.mp nd).1 (Fo hv).1,if_pos hk];simp
 |p::P,w::vs,i+1,m,nd,h1,h2,hk=>by
  show bindL kindOf ((p,w)::P.zip vs) m x=_;unfold bindL;exact NN (i:=i) (AH.mp nd).2 (by simpa using h1) (by simpa using h2) hk
theorem NO{kindOf:Str->Option NameKind}{x:Str}:∀{P:List Str} {vs:List aa} {i:Nat} {m:Str->Option aa},P.Nodup->P[i]?=aB x->vs[i]?=aB v->kindOf x≠aB .local->
 bindC kindOf (P.zip vs) m x=aB v
 |[],_,_,_,_,h,_,_=>by simp at h
 |_::_,[],_,_,_,_,h,_=>by simp at h
 |p::P,w::vs,0,m,nd,h1,h2,hk=>by
  simp at h1 h2;subst h1;subst h2;show bindC kindOf ((p,w)::P.zip vs) m p=_;unfold bindC;rw[NL λv hv=>(AH.mp nd).1 (Fo hv).1,if_neg hk];simp
 |p::P,w::vs,i+1,m,nd,h1,h2,hk=>by
  show bindC kindOf ((p,w)::P.zip vs) m x=_;unfold bindC;exact NO (i:=i) (AH.mp nd).2 (by simpa using h1) (by simpa using h2) hk
noncomputable def start(N:List Str)(vs:List V):St:=vs.map aB++bI (N.length-vs.length) aC
noncomputable def gK(CX:nB)(P:ai)(w:aj)(K:aI)(mg:Str->Option aa)(base:az)(N:List Str)(qual:Str)(scope:ay)(f:ah)(cd:aa)(A:ak)(outer:List Env)(s:af)(H:Hp)(E:XK):Cx where
 prog:=P
 w:=w
 K:=K
 mg:=mg
 base:=base
 A:=A.deeper (envOfC qual scope s.heap.objs.size f cd)
 N:=N
 s₀:=s
 H₀:=H
 env:=envOfC qual scope s.heap.objs.size f cd
 outer:=outer
 stack:=envOfC qual scope s.heap.objs.size f cd::outer
 ex:=[]
 calm:=true
 fn:=λ_=>true
 pn:=[]
 xe:=λe s'=>wpAny (model P w) (A.deeper (envOfC qual scope s.heap.objs.size f cd)) (leaving (envOfC qual scope s.heap.objs.size f cd) e) (λ_ s''=>CX outer H s E e s'') (λe' s''=>CX outer H s E e' s'') s'
theorem NP{sc:ay}{n:Nat}{x:Str}(h:sc.names.lookup x=aB .cell):∃c,(cellsFrom n sc.names []).lookup x=aB c:=by
 have q:=PySem.W.cellsFrom_some sc.names n [] (.inl h);exact Option.isSome_iff_exists.mp q
theorem NQ{CX:nB}{P:ai}{w:aj}{K:aI}{mg:Str->Option aa}{base:az}{N ps:List Str}{qual:Str}{scope:ay}{f:ah}{cd:aa}{A:ak}{outer:List Env}{s s1:af}{H:Hp}{E:XK}{us:List aa}{vs:List V}
 (S:bY N ps scope) (hd:A.handled=aC) (e0:j8 P w K mg base A outer s H) (hl:vs.length=ps.length) (r:Vals vs us)
 (x:InCallC s s.heap.objs.size (bindL (envOfC qual scope s.heap.objs.size f cd).kindOf (ps.zip us) λ_=>aC) (cellsFrom (s.heap.objs.size+1) scope.names []) (bindC (envOfC qual scope s.heap.objs.size f cd).kindOf (ps.zip us) λ_=>aC) s1) :
 Inv (gK CX P w K mg base N qual scope f cd A outer s H E) [] (start N vs) H s1:=by
 have hpl:ps.length<=N.length:=by have:=k8 List.length S.pre;rw[zu]at this;lia
 obtain⟨h1,tk,rfl,hk⟩:=x.done;have BA:∀b:ah,b∉(gK CX P w K mg base N qual scope f cd A outer s H E).ex:=λb z=>absurd (show b∈([]:List ah)from z) (by simp);refine⟨⟨e0.mod,S.kind,rfl,rfl,bq _,λy z c h1 h2=>?_,λy hy=>?_,λy c _ h=>?_,λ_=>hd,Around.frames_deeper e0.frames,.inr ⟨rfl,rfl⟩,λb z=>absurd z (BA b),e0.bs,e0.oO,λb _ _=>BA b,λb z=>absurd z (BA b),e0.gk,e0.rm⟩,
  rfl,e0.bare,Un.kept hk,⟨_,x.toInCall.ns,λi y v h1 h2 h3=>?_⟩,λy c h=>⟨_,x.cell y c h⟩,e0.hok.fresh (bq _),λy c h=>?_,λp hp=>absurd (show p∈([]:List (ah×Obj))from hp) (by simp),e0.hok.kept hk,?_⟩
 exact name_of_addr x.apart (Az h1) (Az h2);have hy:scope.names.lookup y=aB .cell\/scope.names.lookup y=aB .free:=hy;rcases hy with hy|hy
 exact NP hy;exact absurd rfl (S.xx _ (Az hy));exact wQ (x.above y c (Az h));have hi:i<vs.length:=by
  unfold start at h2;by_cases hi:i<vs.length;exact hi;rw[oJ (by simpa using hi)]at h2;rw[List.getElem?_replicate]at h2;split at h2<;>cases h2
 have ha:vs[i]?=aB v:=by
  unfold start at h2;rw[zl (by simpa using hi),nu]at h2;cases e:vs[i]? with|none=>rw[e]at h2;cases h2|some a=>rw[e]at h2;cases h2;rfl
 obtain⟨u,hu,rv⟩:=r.get ha;have hp:ps[i]?=aB y:=by
  rw[<-S.pre,List.getElem?_take_of_lt (by lia)];exact h1
 have NR:ps.Nodup:=by rw[<-S.pre];exact S.nd.sublist (List.take_sublist _ _)
 refine⟨u,rv,?_⟩;rcases S.par y (zo hp)with k|k
 exact .inl ⟨k,NN NR hp hu k⟩;obtain⟨c,e⟩:=NP (n:=s.heap.objs.size+1) k;refine .inr ⟨.inl k,c,e,?_⟩;have q:=x.cell y c e;rw[NO NR hp hu (by show scope.names.lookup y≠_;rw[k];decide)]at q;exact q;exact e0.hok.fresh (wQ (x.above y c (Az h)));unfold start;show _=N.length;rw[gh,bV,AG];lia
theorem uU{CX:nB}{P:ai}{w:aj}{K:aI}{mg:Str->Option aa}{base:az}{k:Nat}{f:ah}{name qual:Str}{params:Arguments}{body:List aq}{scope:ay}{dV kV doc pm cdv ct oc:aa}{an od:Option ah}
 {osl:Array (Option aa)} {N ps:List Str} {sp:Sp} (lk:K.lookup f=aB ⟨oc,od,.func (PySem.W.fnOf name qual params body scope dV kV doc pm an cdv ct),osl⟩) (hcd:PySem.W.codeIn K cdv qual) (S:bY N ps scope)
 (len:∀vs H Q E,sp vs H Q E->vs.length=ps.length)
 (hbody:∀(A:ak)(outer:List Env)(s:af)(H:Hp)(vs:List V)(Q:VK)(E:XK),bG k (A.deeper (envOfC qual scope s.heap.objs.size f cdv))->sp vs H Q E->
   ∃t,gu (gK CX P w K mg base N qual scope f cdv A outer s H E) body t/\t {nx:=λ_ H'=>Q .aG H',rt:=Q} (start N vs) H) :
 bU P w K mg base CX (k+1) f (PySem.W.fnOf name qual params body scope dV kV doc pm an cdv ct) ps sp:=by
 refine⟨len,λA outer s H args us vs Q E hr e0 hb r j9=>?_⟩;have hl:=len _ _ _ _ j9;have KX:K.In s.heap:=e0.mod.se.keeps λb o e=>(e0.bs b o e).1;have lim:s.heap.NoLimit:=e0.mod.nolimit.keeps λb o e=>(e0.bs b o e).1;have hkind:∀y∈ps.zip us,scope.names.lookup y.1=aB .local\/(scope.names.lookup y.1=aB .cell/\((cellsFrom (s.heap.objs.size+1) scope.names []).lookup y.1).isSome):=λcR hy=>by
  obtain⟨n,v⟩:=cR;rcases S.par n (Fo hy).1 with q|q;exact .inl q;exact .inr ⟨q,PySem.W.cellsFrom_some _ _ _ (.inl q)⟩
 refine codeAny_call_function hr.depth (KX _ _ lk) rfl S.co S.gen rfl (PySem.W.codeRec_of KX hcd) (hb _ _ _ _ ?_);refine wpAny_newFunctionEnv_cells S.kind hkind λenv he s1 x=>?_;subst he;refine⟨lim.keeps x.toInCall.keep,codeAny_func ?_⟩;obtain⟨t,ht,hq⟩:=hbody A outer s H vs Q E (hr.deeper _) j9;have I:Inv (gK CX P w K mg base N qual scope f cdv A outer s H E) [] (start N vs) H s1:=NQ S hr.hd e0 hl r x;refine iF (ht [] s1 (start N vs) H _ I hq) (λfl s' hs=>?_) λe s' hs=>hs;have fin:∀{σ':St}{H':Hp}{v:V}{u:aa},Inv (gK CX P w K mg base N qual scope f cdv A outer s H E) [] σ' H' s'->RelV v u->Q v H'->CE outer P w H s Q u s':=
  λ{σ' H' v u} J rv q=>⟨v,H',J.os,J.bare,J.base,J.hok,rv,q⟩
 cases fl with
 |ret u=>
  obtain⟨v,σ',H',J,rv,q⟩:=hs;exact fin J rv q
 |next=>
  obtain⟨σ',H',J,q⟩:=hs;exact fin (v:=V.aG) (u:=Value.none) J rfl q
 |brk=>
  obtain⟨_,_,_,q⟩:=hs;exact False.elim q
 |cont=>
  obtain⟨_,_,_,q⟩:=hs;exact False.elim q
section
variable{X:Cx}{x:Str}{p pos:Pos}{e:ao}{es:List ao}{t:TA}{id T:String}{r:List V->Hp->VK->Prop}
noncomputable def NS(r:List V->Hp->VK->Prop)(t:TA):TE:=λσ H Q=>t σ H λvs H1=>r vs H1 Q
theorem Iw(hc:dF X (.builtin id) r)(hg:Gl X x)(hm:X.mg x=aC)(hv:bootBuiltins x=aB (.builtin id))(ha:PA X (e::es) t)(hn:autoParam (x≠"__name__") L2.aD._auto_1)(hdb:autoParam ((x==("__debug__" : Str))=false) L2.aD._auto_1)
 (he:autoParam (starEach (e::es) X.env=(false,eval e X.env)::starEach es X.env) L2.aR._auto_1) (hpl:autoParam ((backTo pos (starEach es X.env)).any (·.1)=false) L2.aR._auto_1):PE X (.Call (.Name x p) (e::es) [] pos) (NS r t):=by
 intro pins s σ H Q I h;refine rQ (zH I hg hm hv ?_ hn hdb);exact PyProof.Rows.callWith_builtin1 (bw (ha pos pins s σ H _ I h) λus s1 z9=>z9.el λvs H1 I1 r1 q1=>hc pins s1 σ H1 vs us Q I1 r1 q1) he hpl
theorem UO(hc:dF X (.type T) r)(hg:Gl X x)(hm:X.mg x=aC)(hv:bootBuiltins x=aB (.type T))(ha:PA X (e::es) t)(hn:autoParam (x≠"__name__") L2.aD._auto_1)(hdb:autoParam ((x==("__debug__" : Str))=false) L2.aD._auto_1)
 (he:autoParam (starEach (e::es) X.env=(false,eval e X.env)::starEach es X.env) L2.aR._auto_1) (hpl:autoParam ((backTo pos (starEach es X.env)).any (·.1)=false) L2.aR._auto_1):PE X (.Call (.Name x p) (e::es) [] pos) (NS r t):=by
 intro pins s σ H Q I h;refine rQ (zH I hg hm hv ?_ hn hdb);exact Fx (bw (ha pos pins s σ H _ I h) λus s1 z9=>z9.el λvs H1 I1 r1 q1=>hc pins s1 σ H1 vs us Q I1 r1 q1) he hpl
end
end L2
namespace HT
open PySem PyProof.Rows
section
variable{prog:ai}{w:aj}{A:ak}{E:aa->af->Prop}{s:af}
theorem sD{t b:ah}{Q:aa->af->Prop}(ht:IsTup s.heap t vs.toArray)(hb:IsTup s.heap b ws.toArray)(hv:vs≠[])
 (h1:ws=[]->Q (.ref t) s) (h2:ws≠[]->Q (.ref s.heap.objs.size) {s with heap:=s.heap.push {cls:=.type "tuple",data:=.seq (vs++ws).toArray}})
 (hsz:vs.length+ws.length<=sizeLine):wpAny (model prog w) A (binaryOp .Add (.ref t) (.ref b)) Q E s:=by
 obtain⟨⟨cls,dd,data,sl⟩,ho,hc,n,hd⟩:=id ht;obtain⟨⟨UP,dd2,data2,sl2⟩,ho2,hc2,n2,hd2⟩:=id hb;simp only at hc hd hc2 hd2;subst hc hd hc2 hd2;have e:vs.toArray++ws.toArray=(vs++ws).toArray:=by simp
 by_cases hw:ws=[]
 exact concat_meets ⟨_,ho,rfl⟩ ⟨_,ho2,rfl⟩ noFill_tuple_add seq_tuple_add PySem.F.slot_tuple_add PySem.F.entry_tuple_add (PySem.F.args_tuple_add_2 _ _)
  (tuple_addW1 t b vs.toArray ws.toArray n n2 dd dd2 sl sl2 (by simpa using hv) (by simp[hw])) ⟨ho,ho2,h1 hw⟩
 refine concat_meets ⟨_,ho,rfl⟩ ⟨_,ho2,rfl⟩ noFill_tuple_add seq_tuple_add PySem.F.slot_tuple_add PySem.F.entry_tuple_add (PySem.F.args_tuple_add_2 _ _)
  (tuple_addW2 t b vs.toArray ws.toArray n n2 dd dd2 sl sl2 (by simpa using hv) (by simpa using hw) (by rw[fL,fL];exact hsz)) ⟨ho,ho2,?_⟩
 rw[e];exact h2 hw
noncomputable def bM(n d:Nat):Option Int->Nat|none=>d|some v=>if v<0 then(v+ (n:Int)).toNat else min v.toNat n
theorem iK(n d:Nat):bM n d aC=d:=rfl
theorem iH(n d k:Nat):bM n d (aB (k:Int))=min k n:=by
 show(if(k:Int)<0 then((k:Int)+ (n:Int)).toNat else min (k:Int).toNat n)=min k n;rw[if_neg (by lia),rj]
theorem UQ(n d:Nat)(hd:d<=n)(o:Option Int):bM n d o<=n:=by
 cases o with
 |none=>exact hd
 |some v=>
  show(if v<0 then(v+ (n:Int)).toNat else min v.toNat n)<=n;by_cases hv:v<0;rw[if_pos hv];lia;rw[if_neg hv];exact Nat.min_le_right _ _
theorem NT(v:Int)(n d:Nat):(if v<0 then max (v+ (n:Int)) 0 else min v (n:Int))=((bM n d (aB v):Nat):Int):=by
 show(if v<0 then max (v+ (n:Int)) 0 else min v (n:Int))=(((if v<0 then(v+ (n:Int)).toNat else min v.toNat n):Nat):Int)
 by_cases hv:v<0;simp only[if_pos hv];lia;simp only[if_neg hv];lia
theorem UR(lo hi:Option Int)(n:Nat):Builtin.Slice.sliceAdjust lo hi 1 (n:Int)=(((bM n 0 lo:Nat):Int),((bM n n hi:Nat):Int)):=by
 have h1:¬((1:Int)<0):=by lia
 unfold Builtin.Slice.sliceAdjust;simp only[h1,dg];refine Prod.ext ?_ ?_;cases lo with|none=>rfl|some v=>exact NT v n 0
 cases hi with|none=>rfl|some v=>exact NT v n n
theorem US(i j:Nat):Builtin.Slice.slicePlaces (i:Int) (j:Int) 1=j-i:=by
 unfold Builtin.Slice.slicePlaces;have h1:(1:Int)>0:=by lia
 simp only[h1,bX,Int.ediv_one];split<;>lia
theorem NU{o:Option Int}{Q:Option Int->af->Prop}(p:IsPart v o)(h:Q o s):wpAny (model prog w) A (Builtin.Slice.slicePartIndex v) Q E s:=by
 cases p with|none=>exact slicePart_none h|int i t=>exact slicePart_int h
theorem NV{sl:ah}{lo hi:Option Int}{n:Nat}{Q:Int×Int×Nat->af->Prop}(hs:s.heap.IsSliceOf sl vl vu .none)(pl:IsPart vl lo)(pu:IsPart vu hi)
 (h:Q (((bM n 0 lo:Nat):Int),1,bM n n hi-bM n 0 lo) s):wpAny (model prog w) A (Builtin.Slice.sliceApplied (.ref sl) (pure (n:Int))) Q E s:=by
 obtain⟨os,hos,hcs,hds⟩:=id hs;unfold Builtin.Slice.sliceApplied Builtin.Slice.sliceFields;refine aK (aK (jy hos hds (x:=vl) rfl (aK (jy hos hds (x:=vu) rfl (aK (jy hos hds (x:=.none) rfl (br ?_)))))));refine aK (slicePart_none ?_);show wpAny _ _ (if((1:Int)==0)=true then _ else _) _ _ s;rw[if_neg (by decide)];refine aK (NU pl (aK (NU pu (aK (br ?_)))));show wpAny _ _ (match Builtin.Slice.sliceAdjust lo hi 1 (n:Int)with|(lo,hi)=>pure (lo,(1:Int),Builtin.Slice.slicePlaces lo hi 1)) _ _ s;rw[UR lo hi n];show wpAny _ _ (pure (((bM n 0 lo:Nat):Int),(1:Int),Builtin.Slice.slicePlaces ((bM n 0 lo:Nat):Int) ((bM n n hi:Nat):Int) 1)) _ _ s;rw[US];exact br h
theorem UT(xs:Array aa)(i k:Nat):((List.range k).filterMap λ(m:Nat)=>xs[((i:Int)+ (m:Int)*1).toNat]?).toArray=((xs.toList.drop i).take k).toArray:=by
 have e:(λ(m:Nat)=>xs[((i:Int)+ (m:Int)*1).toNat]?)=λm=>xs[i+m]?:=by
  funext m;have:((i:Int)+ (m:Int)*1).toNat=i+m:=by lia
  rw[this]
 rw[e];have:=pick_run xs i k;rw[List.filterMap_map]at this;have e2:((λx=>xs[x]?)∘λx=>i+x)=λm=>xs[i+m]?:=rfl;rw[e2]at this;rw[this]
theorem gy{t sl:ah}{items:Array aa}{lo hi:Option Int}{Q:aa->af->Prop}(ht:IsTup s.heap t items)(hs:s.heap.IsSliceOf sl vl vu .none)(pl:IsPart vl lo)(pu:IsPart vu hi)
 (hw:¬(bM items.size 0 lo=0/\bM items.size items.size hi=items.size))
 (h:Q (.ref s.heap.objs.size) {s with heap:=s.heap.push {cls:=.type "tuple",data:=.seq ((items.toList.drop (bM items.size 0 lo)).take (bM items.size items.size hi-bM items.size 0 lo)).toArray}})
 (hsz:items.size<=sizeLine):wpAny (model prog w) A (getItem (.ref t) (.ref sl)) Q E s:=by
 have mE:sizeOk (.seq ((items.toList.drop (bM items.size 0 lo)).take (bM items.size items.size hi-bM items.size 0 lo)).toArray):=by
  show((items.toList.drop (bM items.size 0 lo)).take (bM items.size items.size hi-bM items.size 0 lo)).toArray.size<=sizeLine;rw[fL,zu,wV,Fy];lia
 have hj:bM items.size items.size hi<=items.size:=UQ _ _ (bq _) hi;obtain⟨os,hos,hcs,hds⟩:=id hs;have Iz:s.TypeIs (.ref sl) "slice":=⟨os,hos,hcs⟩
 unfold getItem
 try with_reducible refine mh ?_
 first|refine aK (br ?_)|skip
 refine aK (wpAny_sequenceKey ht.typeIs (by decide) ?_);refine aK (zc (name:=Str.ofString "__getitem__") ht.typeIs zB
  (rR zB ht.typeIs entry_tuple_getitem ?_ (args_tuple_getitem _ _)))
 show wpAny _ _ (Builtin.Tuple.tupleItemsOf (.ref t) >>= _) _ _ s;refine aK (tupleItemsOf_ ht ?_);refine aK (wpAny_typeOf Iz ?_);rw[if_pos (by decide)];refine aK (NV hs pl pu ?_);have hno:¬((((bM items.size 0 lo:Nat):Int)==0&& (1:Int)==1&& (bM items.size items.size hi-bM items.size 0 lo)==items.size)):=by
  intro q;rw[aY,aY]at q;have q1:((bM items.size 0 lo:Nat):Int)=0:=eq_of_beq q.1.1;have q2:bM items.size items.size hi-bM items.size 0 lo=items.size:=eq_of_beq q.2;exact hw ⟨by lia,by lia⟩
 show wpAny _ _ (if(((bM items.size 0 lo:Nat):Int)==0&& (1:Int)==1&& (bM items.size items.size hi-bM items.size 0 lo)==items.size)=true then _ else _) _ _ s;rw[if_neg hno,UT];first
  |exact aK (m:=Builtin.Tuple.tupleExact _) (uH (br ⟨_,rfl,br h⟩) mE)
  |exact aK (m:=Builtin.Tuple.tupleExact _) (uH (aK (br (br ⟨_,rfl,br h⟩))) mE)
  |exact aK (aK (m:=Builtin.Tuple.tupleExact _) (uH (br (br ⟨_,rfl,br h⟩)) mE))
  |exact aK (aK (m:=Builtin.Tuple.tupleExact _) (uH (br ⟨_,rfl,br h⟩) mE))
end
end HT
namespace L2
open PySem PySem.Spec PyProof.Rows
noncomputable abbrev TO:=St->Hp->(Option Int->Hp->Prop)->Prop
noncomputable def PO(X:Cx)(e:Option ao)(t:TO):Prop:=
 ∀(pins:List (ah×Obj))(s:af)(σ:St)(H:Hp)(Q:Option Int->Hp->Prop),Inv X pins σ H s->t σ H Q->
  wpAny (model X.prog X.w) X.A (evalPart e X.env) (λu s'=>∃o H',Inv X pins σ H' s'/\IsPart u o/\Q o H') X.xe s
noncomputable def UU:TO:=λ_ H Q=>Q aC H
noncomputable def BB(t:TE):TO:=λσ H Q=>t σ H λx H1=>∃i,x=.int i/\Q (aB i) H1
section
variable{X:Cx}{e:ao}{te:TE}{lo hi:Option ao}{tl th:TO}{pos p2:Pos}
theorem UW:PO X aC UU:=by
 intro pins s σ H Q I h;rw[evalPart_none];exact br ⟨aC,H,I,.none,h⟩
theorem UX(h:PE X e te):PO X (aB e) (BB te):=by
 intro pins s σ H Q I hw;rw[evalPart_some];refine bw (h pins s σ H _ I hw) λu s1 z9=>z9.el λx H1 I1 r1 q1=>?_;obtain⟨i,rfl,q⟩:=q1;obtain⟨t,rfl⟩:=r1;exact⟨aB i,H1,I1,.int i t,q⟩
noncomputable def sF(X:Cx)(r:V->Option Int->Option Int->Hp->VK->Prop):Prop:=
 ∀(pins:List (ah×Obj))(s:af)(σ:St)(H:Hp)(x:V)(v vl vu:aa)(lo hi:Option Int)(sl:ah)(Q:VK),Inv X pins σ H s->RelV x v->s.heap.IsSliceOf sl vl vu .none->IsPart vl lo->IsPart vu hi->r x lo hi H Q->
  ∃T id,typeLookup (.type T) "__getitem__" = pure (aB (.builtin id))/\s.TypeIs v T/\wpAny (model X.prog X.w) X.A (getItem v (.ref sl)) (EP X pins σ Q) X.xe s
theorem sF.or{r r':V->Option Int->Option Int->Hp->VK->Prop}(h:sF X r)(h':sF X r'):sF X (λx lo hi H Q=>r x lo hi H Q\/r' x lo hi H Q):=by
 intro pins s σ H x v vl vu lo hi sl Q I rx hs pl pu q;rcases q with q|q
 exact h pins s σ H x v vl vu lo hi sl Q I rx hs pl pu q;exact h' pins s σ H x v vl vu lo hi sl Q I rx hs pl pu q
noncomputable def UY(r:V->Option Int->Option Int->Hp->VK->Prop)(te:TE)(tl th:TO):TE:=λσ H Q=>te σ H λx H1=>tl σ H1 λl H2=>th σ H2 λu H3=>r x l u H3 Q
theorem UZ{r:V->Option Int->Option Int->Hp->VK->Prop}(hr:sF X r)(he:PE X e te)(hl:PO X lo tl)(hu:PO X hi th):PE X (.Subscript e (.Slice lo hi aC p2) pos) (UY r te tl th):=by
 intro pins s σ H Q I h;refine Subscript_ (bw (he pins s σ H _ I h) λv s1 z9=>z9.el λx H1 I1 r1 q1=>?_);refine wpAny_Slice (bw (hl pins s1 σ H1 _ I1 q1) λvl s2 ⟨l,H2,I2,pl,q2⟩=>bw (hu pins s2 σ H2 _ I2 q2) λvu s3 cR=>?_);obtain⟨u,H3,I3,pu,q3⟩:=cR;rw[evalPart_none];refine br ?_;have I4:Inv X pins σ H3 {s3 with heap:=s3.heap.push {cls:=.type "slice",data:=.fields #[vl,vu,.none]}}:=I3.kept (t':=s3.toks) λb ob q=>cu _ q;obtain⟨T,id,hT,ht,hg⟩:=hr pins {s3 with heap:=s3.heap.push {cls:=.type "slice",data:=.fields #[vl,vu,.none]}} σ H3 x v vl vu l u s3.heap.objs.size Q I4 r1 (Heap.IsSliceOf.new ..) pl pu q3;show wpAny (model X.prog X.w) X.A (subscriptTail e (.Slice lo hi aC p2) v (.ref s3.heap.objs.size)) (EP X pins σ Q) X.xe {s3 with heap:=s3.heap.push {cls:=.type "slice",data:=.fields #[vl,vu,.none]}};exact tail_any (ops:=[.ref s3.heap.objs.size,v]) ht hT hg (by with_unfolding_all rfl)
noncomputable def kc(xs:List V)(lo hi:Option Int):List V:=(xs.drop (HT.bM xs.length 0 lo)).take (HT.bM xs.length xs.length hi-HT.bM xs.length 0 lo)
theorem NW(xs:List V)(lo hi:Option Int):(kc xs lo hi).length<=xs.length:=by
 unfold kc;rw[zu,wV];lia
noncomputable def BC(K:aI):V->Option Int->Option Int->Hp->VK->Prop:=λx lo hi H Q=>∃a xs,x=.ref a/\cD K H a xs/\
 ¬(HT.bM xs.length 0 lo=0/\HT.bM xs.length xs.length hi=xs.length)/\∀p,H p=aC->Q (.ref p) (upd H p (.tup (kc xs lo hi)))
theorem U0:sF X (BC X.K):=by
 intro pins s σ H x v vl vu lo hi sl Q I rx hs pl pu h;obtain⟨a,xs,rfl,hx,hw,q⟩:=h;cases rx;obtain⟨its,r,ht,hz⟩:=I.tuple hx;have hlen:its.toArray.size=xs.length:=by rw[fL];exact r.length.symm
 refine⟨"tuple",_,zB.lookup,ht.typeIs,?_⟩;refine HT.gy ht hs pl pu (by rw[hlen];exact hw) ?_ (by rw[hlen];exact hz);rw[hlen];refine⟨.ref s.heap.objs.size,_,I.laid (t':=s.toks) (o:=.tup (kc xs lo hi)) (λb ob q=>cu _ q) (bq _) ?_,rfl,q _ (I.hok.fresh (bq _))⟩;exact⟨fS (NW xs lo hi) hz,_,(r.drop (HT.bM xs.length 0 lo)).take (HT.bM xs.length xs.length hi-HT.bM xs.length 0 lo),mC.new _ _⟩
noncomputable def uV(K:aI):R2:=λx y H Q=>∃a b xs ys,x=.ref a/\y=.ref b/\cD K H a xs/\cD K H b ys/\xs≠[]/\xs.length+ys.length<=sizeLine/\
 (ys=[]->Q (.ref a) H)/\(ys≠[]->∀p,H p=aC->Q (.ref p) (upd H p (.tup (xs++ys))))
theorem Vals.jD(r:Vals xs us):us=[]↔xs=[]:=by
 cases r with|nil=>simp|cons _ _=>simp
theorem U1:dN X (binaryOp .Add) (uV X.K):=by
 intro pins s σ H x y v u Q I rx ry h;obtain⟨a,b,xs,ys,rfl,rfl,ha,hb,hx,hz,q1,q2⟩:=h;cases rx;cases ry;obtain⟨its,r1,p1,_⟩:=I.tuple ha;obtain⟨its2,r2,p2,_⟩:=I.tuple hb;refine HT.sD p1 p2 (λz=>hx (r1.jD.mp z)) (λz=>⟨.ref a,H,I,rfl,q1 (r2.jD.mp z)⟩) (λz=>?_) (by rw[<-r1.length,<-r2.length];exact hz);refine⟨.ref s.heap.objs.size,_,I.laid (t':=s.toks) (o:=.tup (xs++ys)) (λb ob q=>cu _ q) (bq _) ?_,rfl,q2 (λw=>z (r2.jD.mpr w)) _ (I.hok.fresh (bq _))⟩;exact⟨by rw[gh];exact hz,_,r1.append r2,mC.new _ _⟩
end
noncomputable def iw(n:Nat)(i:Int):Option Nat:=if 0<=i then(if i<n then aB i.toNat else aC)else if -(n:Int)<=i then aB (i+n).toNat else aC
noncomputable def cy{α:Type}(xs:List α)(i:Int):Option α:=(iw xs.length i).bind λj=>xs[j]?
theorem NX{n:Nat}{i:Int}{j:Nat}(h:iw n i=aB j):seqIndex? i n=aB j/\j<n/\-(n:Int)<=i/\i<n:=by
 unfold iw at h;by_cases h0:0<=i;rw[if_pos h0]at h;by_cases h1:i<n;rw[if_pos h1]at h;have e:i.toNat=j:=lz h;exact⟨by rw[seqIndex_of h0 h1,e],by lia,by lia,h1⟩;rw[if_neg h1]at h;cases h;rw[if_neg h0]at h;by_cases h1:-(n:Int)<=i;rw[if_pos h1]at h;have e:(i+n).toNat=j:=lz h;exact⟨by rw[seqIndex_neg (by lia) h1,e],by lia,h1,by lia⟩;rw[if_neg h1]at h;cases h
theorem NY{α:Type}{xs:List α}{i:Int}{v:α}(h:cy xs i=aB v):∃j,seqIndex? i xs.length=aB j/\xs[j]?=aB v/\j<xs.length/\-(xs.length:Int)<=i/\i<xs.length:=by
 unfold cy at h;cases e:iw xs.length i with
 |none=>rw[e]at h;cases h
 |some j=>
  rw[e]at h;obtain⟨h1,h2,h3,h4⟩:=NX e;exact⟨j,h1,h,h2,h3,h4⟩
theorem oz{α:Type}{xs:List α}{j:Nat}{v:α}(h:xs[j]?=aB v):cy xs (j:Int)=aB v:=by
 have hj:j<xs.length:=(jR.mp h).1;have e:iw xs.length (j:Int)=aB j:=by
  unfold iw;rw[if_pos (by lia),if_pos (by lia)];simp
 unfold cy;rw[e];exact h
theorem U3{α:Type}(xs:List α)(v:α):cy (xs++[v]) (-1)=aB v:=by
 have hl:(xs++[v]).length=xs.length+1:=by simp
 have e:iw (xs++[v]).length (-1)=aB xs.length:=by
  unfold iw;rw[hl,if_neg (by decide),if_pos (by lia)];congr 1;lia
 unfold cy;rw[e];show(xs++[v])[xs.length]?=aB v;simp
noncomputable def F6(b:ao):Prop:=∀o i,subscripted b false o i=operate [o,i] (getItem o i)
noncomputable def rA(X:Cx)(r:R2):Prop:=
 ∀(value slice:ao)(pins:List (ah×Obj))(s:af)(σ:St)(H:Hp)(x y:V)(v u:aa)(Q:VK),Inv X pins σ H s->RelV x v->RelV y u->r x y H Q->
  subscripted slice false v u=operate [v,u] (getItem v u)->wpAny (model X.prog X.w) X.A (subscriptTail value slice v u) (EP X pins σ Q) X.xe s
noncomputable def F7(X:Cx)(id:String)(r:V->List V->Hp->VK->Prop):Prop:=
 ∀(pins:List (ah×Obj))(s:af)(σ:St)(H:Hp)(x:V)(xs:List V)(v:aa)(us:List aa)(Q:VK),Inv X pins σ H s->RelV x v->Vals xs us->r x xs H Q->
  wpAny (model X.prog X.w) X.A (call (.builtin id) (v::us)) (EP X pins σ Q) X.xe s
section
variable{X:Cx}{a b:ao}{ta tb:TE}{pos:Pos}
theorem rA.or{r r':R2}(h:rA X r)(h':rA X r'):rA X (λx y H Q=>r x y H Q\/r' x y H Q):=by
 intro value slice pins s σ H x y v u Q I rx ry q hs;rcases q with q|q
 exact h value slice pins s σ H x y v u Q I rx ry q hs;exact h' value slice pins s σ H x y v u Q I rx ry q hs
theorem uW{r:R2}(hr:rA X r)(ha:PE X a ta)(hb:PE X b tb)(hs:F6 b):PE X (.Subscript a b pos) (F3 r ta tb):=by
 intro pins s σ H Q I h;exact Subscript_ (xr ha hb I h λv u s2 x y H2 I2 rx ry q=>hr a b pins s2 σ H2 x y v u Q I2 rx ry q (hs _ _))
noncomputable def BD(K:aI):R2:=λx y H Q=>∃p xs i v,x=.ref p/\y=.int i/\cM K H p xs/\cy xs i=aB v/\Q v H
noncomputable def BE(K:aI):R2:=λx y H Q=>∃p xs i v,x=.ref p/\y=.int i/\cD K H p xs/\cy xs i=aB v/\Q v H
theorem NZ:rA X (BD X.K):=by
 intro value slice pins s σ H x y v u Q I rx ry h hs;obtain⟨p,xs,i,z,rfl,rfl,hq,he,q⟩:=h;cases rx;obtain⟨t,rfl⟩:=ry;obtain⟨its,r,pl,hz⟩:=I.list hq;obtain⟨j,h1,h2,h3,h4,h5⟩:=NY he;obtain⟨w,ew,rw'⟩:=r.get h2;have hl:=r.length;have hn:=Bp;have fin:EP X pins σ Q w s:=⟨z,H,I,rw',q⟩
 by_cases h0:0<=i;have hj:i.toNat=j:=by
  rw[seqIndex_of h0 h5]at h1;exact lz h1
 exact item_listR pl.isList h0 (by lia) (by rw[hj];simpa using ew) fin hs;have hj:(i+ (its.toArray.size:Int)).toNat=j:=by
  rw[seqIndex_neg (by lia) h4]at h1;rw[fL,<-hl];exact lz h1
 exact subscriptTail_builtinR (x:=w) pl.isList.typeIs slot_list_getitem.lookup
  (wpAny_getItem_list_neg (Q:=λr s'=>r=w/\EP X pins σ Q r s') pl.isList (by lia) (by rw[fL]<;>lia) (by lia) (by rw[hj];simpa using ew) ⟨rfl,fin⟩) hs
theorem U4:rA X (BE X.K):=by
 intro value slice pins s σ H x y v u Q I rx ry h hs;obtain⟨p,xs,i,z,rfl,rfl,hq,he,q⟩:=h;cases rx;obtain⟨t,rfl⟩:=ry;obtain⟨its,r,pl,hz⟩:=I.tuple hq;obtain⟨j,h1,h2,h3,h4,h5⟩:=NY he;obtain⟨w,ew,rw'⟩:=r.get h2;have hl:=r.length;have hn:=Bp;have fin:EP X pins σ Q w s:=⟨z,H,I,rw',q⟩
 exact subscriptTail_builtinR (x:=w) pl.typeIs slot_tuple_getitem.lookup
  (getItem_tuple (j:=j) (Q:=λr s'=>r=w/\EP X pins σ Q r s') pl (by lia) (by lia) (by rw[fL,<-hl];exact h1) (by simpa using ew) ⟨rfl,fin⟩) hs
theorem U5(its:List aa)(n j:Nat)(u:aa):Obj.mapSeq (·.setIfInBounds j u) {cls:=.type "list",data:=.seq its.toArray n} ={cls:=.type "list",data:=.seq (its.set j u).toArray n}:=by
 simp[Obj.mapSeq]
theorem Inv.lst{σ:St}{p:ah}(I:Inv X pins σ H s)(h:H p=aB (.lst xs)) :
 ∃(its:List aa) (n:Nat),Vals xs its/\s.heap.get? p=aB {cls:=.type "list",data:=.seq its.toArray n}/\xs.length<=sizeLine:=by
 obtain⟨z,its,n,r,e⟩:=I.hok p _ h;exact⟨its,n,r,e,z⟩
theorem Inv.xy{σ:St}{p:ah}{xs ys:List V}{its its':List aa}{n n':Nat}{f:Obj->Obj}(I:Inv X pins σ H s)(h:H p=aB (.lst xs))
 (ho:s.heap.get? p=aB {cls:=.type "list",data:=.seq its.toArray n}) (hf:f {cls:=.type "list",data:=.seq its.toArray n} ={cls:=.type "list",data:=.seq its'.toArray n'}) (r:Vals ys its') (hz:ys.length<=sizeLine) (t:Nat) :
 Inv X pins σ (upd H p (.lst ys)) {s with heap:=s.heap.update p f,toks:=t}:=by
 have e:(s.heap.update p f).get? p=aB {cls:=.type "list",data:=.seq its'.toArray n'}:=by
  rw[zj f ho (by rw[hf]<;>rfl),hf]
 refine I.write (x:=p) (e:=p) (by rw[h];trivial) (.inl rfl) (λb u hb q=>(wO _ _ (dU hb)).trans q) ⟨_,e⟩ ?_;exact⟨hz,its',n',r,e⟩
noncomputable def BF:V->V->V->Hp->(Hp->Prop)->Prop:=λo i v H Q=>∃p xs k j,o=.ref p/\i=.int k/\H p=aB (.lst xs)/\iw xs.length k=aB j/\Q (upd H p (.lst (xs.set j v)))
theorem U6:lD X BF:=by
 intro pins s σ H o i v ov iv u Q I ro ri rv h;obtain⟨p,xs,k,j,rfl,rfl,hp,hj,q⟩:=h;cases ro;obtain⟨t,rfl⟩:=ri;obtain⟨its,n,r,ho,hz⟩:=I.lst hp;obtain⟨h1,h2,h3,h4⟩:=NX hj;have hl:=r.length;have hn:=Bp;have I':Inv X pins σ (upd H p (.lst (xs.set j v))) {s with heap:=s.heap.update p (Obj.mapSeq (·.setIfInBounds j u))}:=
  I.xy hp ho (U5 its n j u) (r.set rv j) (by rw[zx];exact hz) s.toks
 by_cases h0:0<=k;have hk:k.toNat=j:=by
  rw[seqIndex_of h0 h4]at h1;exact lz h1
 exact PySem.W.ki_setAt ho h0 (by lia) (by rw[fL,<-hl];exact h4) (by rw[hk];exact⟨_,I',q⟩);have hk:(k+ (its.toArray.size:Int)).toNat=j:=by
  rw[seqIndex_neg (by lia) h3]at h1;rw[fL,<-hl];exact lz h1
 exact PySem.W.ki_setBack ho (by lia) (by rw[fL,<-hl];exact h3) (by lia) (by rw[hk];exact⟨_,I',q⟩)
theorem U7(lo hi:Option Int)(n:Nat):(sliceBounds lo hi aC n).1=((HT.bM n 0 lo:Nat):Int)/\(sliceBounds lo hi aC n).2.1=((HT.bM n n hi:Nat):Int)/\(sliceBounds lo hi aC n).2.2=1:=by
 refine⟨?_,?_,rfl⟩;cases lo with
 |none=>simp[sliceBounds,HT.bM]
 |some i=>
  simp only[sliceBounds,HT.bM,Option.getD_none,show(1:Int)>0 by decide,bX];by_cases h:i<0;simp only[h,bX]<;>lia;simp only[h,dg]<;>lia
 cases hi with
 |none=>simp[sliceBounds,HT.bM]
 |some i=>
  simp only[sliceBounds,HT.bM,Option.getD_none,show(1:Int)>0 by decide,bX];by_cases h:i<0;simp only[h,bX]<;>lia;simp only[h,dg]<;>lia
theorem U8(its:List aa)(lo hi:Option Int):slicePick its.toArray lo hi aC=((its.drop (HT.bM its.length 0 lo)).take (HT.bM its.length its.length hi-HT.bM its.length 0 lo)).toArray:=by
 obtain⟨h1,h2,h3⟩:=U7 lo hi its.toArray.size;unfold slicePick;rw[h1,h2,h3];simp only[sliceRange_one,pick_run,fL]<;>rfl
noncomputable def BG(K:aI):V->Option Int->Option Int->Hp->VK->Prop:=λx lo hi H Q=>∃a xs,x=.ref a/\cM K H a xs/\∀p,H p=aC->Q (.ref p) (upd H p (.lst (kc xs lo hi)))
theorem U9:sF X (BG X.K):=by
 intro pins s σ H x v vl vu lo hi sl Q I rx hs pl pu h;obtain⟨a,xs,rfl,hx,q⟩:=h;cases rx;obtain⟨its,r,ht,hz⟩:=I.list hx;have hlen:=r.length;refine⟨"list",_,slot_list_getitem.lookup,ht.isList.typeIs,?_⟩;refine wpAny_getItem_list_slice ht.isList hs pl pu .none (by simp) ?_ (by rw[fL]<;>lia);rw[U8,<-hlen];refine⟨.ref s.heap.objs.size,_,I.laid (t':=s.toks) (o:=.lst (kc xs lo hi)) (λb ob q=>cu _ q) (bq _) ?_,rfl,q _ (I.hok.fresh (bq _))⟩;exact⟨fS (NW xs lo hi) hz,_,0,(r.drop (HT.bM xs.length 0 lo)).take (HT.bM xs.length xs.length hi-HT.bM xs.length 0 lo),i6 _ rfl⟩
theorem U':dF X (.builtin "len") (λxs H Q=>∃p ys,xs=[.ref p]/\(cM X.K H p ys\/cD X.K H p ys)/\Q (.int ys.length) H):=by
 intro pins s σ H xs us Q I r h;obtain⟨p,ys,rfl,hq,q⟩:=h;obtain⟨u,rfl,rx⟩:=vals1 r;cases rx;have hn:=Bp;rcases hq with hq|hq
 obtain⟨its,r',pl,hz⟩:=I.list hq;have hlen:=r'.length;exact Calls.call_len_list pl.isList (by simp only[fL]<;>lia) ⟨.int ys.length,H,I.tok _,⟨s.toks+1,by rw[fL,hlen]⟩,q⟩;obtain⟨its,r',pl,hz⟩:=I.tuple hq;have hlen:=r'.length;exact len_tuple pl (by simp only[fL]<;>lia) ⟨.int ys.length,H,I.tok _,⟨s.toks+1,by rw[fL,hlen]⟩,q⟩
theorem Va:dF X (.type "list") (λxs H Q=>∃p ys,xs=[.ref p]/\(cM X.K H p ys\/cD X.K H p ys)/\∀l,H l=aC->Q (.ref l) (upd H l (.lst ys))):=by
 intro pins s σ H xs us Q I r h;obtain⟨p,ys,rfl,hq,q⟩:=h;obtain⟨u,rfl,rx⟩:=vals1 r;cases rx;have fin:∀(its:List aa),Vals ys its->ys.length<=sizeLine->∀(h':az)(c':Nat),(∀b o',s.heap.get? b=aB o'->h'.get? b=aB o')->
  h'.get? s.heap.objs.size=aB {cls:=.type "list",dict:=aC,data:=.seq its.toArray c',slots:=#[]}->EP X pins σ Q (.ref s.heap.objs.size) {s with heap:=h'}:=λits r' hz h' c' kp e=>
  ⟨.ref s.heap.objs.size,_,I.laid (t':=s.toks) kp (bq _) (show bx X.prog X.w _ h' _ (.lst ys)from⟨hz,its,c',r',e⟩),rfl,q _ (I.hok.fresh (bq _))⟩
 rcases hq with hq|hq;obtain⟨its,r',pl,hz⟩:=I.list hq;have hlen:=r'.length;obtain⟨o,ho,hc,n,hd⟩:=pl.isList;exact call_list_seq p (.inl rfl) ho hc hd (λh' c' kp e=>fin its r' hz h' c' kp e) (by simp only[fL]<;>lia);obtain⟨its,r',pl,hz⟩:=I.tuple hq;have hlen:=r'.length;obtain⟨o,ho,hc,n,hd⟩:=pl;exact call_list_seq p (.inr rfl) ho hc hd (λh' c' kp e=>fin its r' hz h' c' kp e) (by simp only[fL]<;>lia)
theorem Vb:dF X (.type "tuple") (λxs H Q=>∃p ys,xs=[.ref p]/\((cM X.K H p ys/\∀l,H l=aC->Q (.ref l) (upd H l (.tup ys)))\/(cD X.K H p ys/\Q (.ref p) H))):=by
 intro pins s σ H xs us Q I r h;obtain⟨p,ys,rfl,h⟩:=h;obtain⟨u,rfl,rx⟩:=vals1 r;cases rx;rcases h with⟨hq,q⟩|⟨hq,q⟩
 obtain⟨its,r',pl,hz⟩:=I.list hq;have hlen:=r'.length;refine call_tuple_list pl.isList (λh' kp=>?_) (by simp only[fL]<;>lia);have I1:Inv X pins σ H {s with heap:=h'}:=I.kept (t':=s.toks) kp;have I2:Inv X pins σ (upd H h'.objs.size (.tup ys)) {s with heap:=h'.push {cls:=.type "tuple",data:=.seq its.toArray}}:=
  I1.laid (t':=s.toks) (λb o e=>cu _ e) (bq _) (show bx X.prog X.w _ _ _ (.tup ys)from⟨hz,its,r',mC.new _ _⟩)
 exact⟨.ref h'.objs.size,_,I2,rfl,q _ (I1.hok.fresh (bq _))⟩;obtain⟨its,r',pl,hz⟩:=I.tuple hq;exact call_tuple_same pl ⟨.ref p,H,I,rfl,q⟩
noncomputable def N1(K:aI)(T:String)(x:V)(H:Hp):Prop:=match x with
 |.str _=>T = "str"
 |.int _=>T = "int"
 |.ref p=>(T = "list"/\∃xs,cM K H p xs)\/(T = "tuple"/\∃xs,cD K H p xs)\/
  (T = "dict"/\((∃kvs,H p=aB (.dK kvs))\/∃kvs,H p=aB (.dT kvs)))\/(T = "set"/\∃S n,H p=aB (.set S n))
 |_=>False
theorem Vc{σ:St}{T:String}(I:Inv X pins σ H s)(r:RelV x v)(ty:N1 X.K T x H) :
 s.TypeIs v T/\∀a,v=.ref a->∃ob,s.heap.get? a=aB ob/\ob.dict=aC:=by
 cases x with
 |str z=>
  obtain⟨t,rfl⟩:=r;cases(show T = "str"from ty);exact⟨typeIs_str s z t,λ_ e=>nomatch e⟩
 |int i=>
  obtain⟨t,rfl⟩:=r;cases(show T = "int"from ty);exact⟨typeIs_int s i t,λ_ e=>nomatch e⟩
 |ref p=>
  cases r;rcases ty with⟨rfl,xs,hq⟩|⟨rfl,xs,hq⟩|⟨rfl,hk⟩|⟨rfl,S,n,hk⟩
  obtain⟨its,_,pl,_⟩:=I.list hq;refine⟨pl.isList.typeIs,λa e=>?_⟩;cases e;obtain⟨o,n,e,c,hd,_⟩:=pl;exact⟨o,e,hd⟩;obtain⟨its,_,⟨o,h1,h2,_,h3⟩,_⟩:=I.oQ hq;refine⟨⟨o,h1,h2⟩,λa e=>?_⟩;cases e;exact⟨o,h1,h3⟩;have z:∃o,s.heap.get? p=aB o/\o.ExactDict:=by
   rcases hk with⟨kvs,hk⟩|⟨kvs,hk⟩;obtain⟨_,_,_,_,o,_,_,e,ex,_⟩:=I.hok p _ hk;exact⟨o,e,ex⟩;obtain⟨_,_,_,_,o,_,_,e,ex,_⟩:=I.hok p _ hk;exact⟨o,e,ex⟩
  obtain⟨o,e,ex⟩:=z;refine⟨⟨o,e,ex.1⟩,λa e2=>?_⟩;cases e2;exact⟨o,e,ex.2.1⟩;obtain⟨o,_,_,_,e,ex,_⟩:=I.hok p _ hk;refine⟨⟨o,e,ex.1⟩,λa e2=>?_⟩;cases e2;exact⟨o,e,ex.2.1⟩
 |_=>exact False.elim ty
noncomputable def Vd(K:aI)(T:String)(r:V->List V->Hp->VK->Prop)(to:TE)(t:TA):TE:=λσ H Q=>to σ H λx H1=>N1 K T x H1/\t σ H1 λxs H2=>r x xs H2 Q
variable{o e:ao}{es:List ao}{to:TE}{t:TA}{name:Str}{apos cpos:Pos}{T id:String}{r:V->List V->Hp->VK->Prop}
theorem oX(pa:PlainAttrs T)(slot:Slot T name id)(hty:typeOf (.builtin id)=pure (.type "method_descriptor"))(hm:F7 X id r)(ho:PE X o to)(ha:PA X (e::es) t)
 (hbase:autoParam (attributeBase o name X.env (eval o X.env)=eval o X.env) L2.aR._auto_1)
 (hfew:autoParam (((backTo cpos (starEach (e::es) X.env)).all (λx=>!x.1)&& (backToKw cpos (keywordEach [] X.env)).all (λx=>x.1.isSome)
   && decide ((e::es).length+ ([]:List Keyword).length+ (if([]:List Keyword).isEmpty then 0 else 1)<30))=true) L2.aR._auto_1)
 (hline:autoParam ((apos.endLine==cpos.line)=true) L2.aR._auto_1) (hs:autoParam (starEach (e::es) X.env=(false,eval e X.env)::starEach es X.env) L2.aR._auto_1) (hplain:autoParam ((backTo cpos (starEach es X.env)).any (·.1)=false) L2.aR._auto_1) :
 PE X (.Call (.Attribute o name apos) (e::es) [] cpos) (Vd X.K T r to t):=by
 intro pins s σ H Q I h;refine wpAny_Call_method_late hbase hfew hline rfl (bw (ho pins s σ H _ I h) λv s1 z9=>z9.el λx H1 I1 r1 cR=>?_);obtain⟨ty,q1⟩:=cR;obtain⟨h1,h2⟩:=Vc I1 r1 ty;refine⟨T,id,pa,slot,hty,h1,h2,?_⟩;have hA:=ha cpos pins s1 σ H1 _ I1 q1;rw[hs]at hA ⊢;refine Calls.callWith_builtin (by show(false|| (backTo cpos (starEach es X.env)).any (·.1))=false;rw[hplain]<;>rfl) (Calls.evalArgs_plain ?_);exact bw hA λus s2 z9=>z9.el λvs H2 I2 r2 q2=>hm pins s2 σ H2 x vs v us Q I2 r1 r2 q2
/- xs.append(e),list.index on a BH tuple .. are F7 facts of 06m -/
end
noncomputable def N2(X:Cx)(id:String)(r:V->List V->Hp->VK->Prop):Prop:=
 ∀(pins:List (ah×Obj))(s:af)(σ:St)(H:Hp)(x:V)(xs:List V)(v:aa)(us:List aa)(Q:VK),Inv X pins σ H s->RelV x v->Vals xs us->r x xs H Q->
  wpAny (model X.prog X.w) X.A (call (.builtin id) (v::us)) (EP X pins σ Q) X.xe s
theorem Vals.one:∀{x:V} {us:List aa},Vals [x] us->∃u,us=[u]/\RelV x u|_,_,.cons r .nil=>⟨_,rfl,r⟩
theorem Vals.rep(h:Vals xs us):∀k:Nat,Vals (bI k xs).flatten (bI k us).flatten
 |0=>.nil
 |k+1=>by
  rw[nt,nt,uL,uL];exact Vals.append h (Vals.rep h k)
theorem N3(its:List aa):∀(k:Nat) (acc:List aa),
 List.foldl (λx1 x2=>x1++x2) acc.toArray (bI k its.toArray)=(acc++(bI k its).flatten).toArray
 |0,acc=>by simp
 |k+1,acc=>by
  have e:acc.toArray++its.toArray=(acc++its).toArray:=by simp
  have e2:(acc++its)++(bI k its).flatten=acc++(bI (k+1) its).flatten:=by
   rw[nt,uL,zq]
  rw[<-e2,<-N3 its k (acc++its),<-e,nt,List.foldl_cons]
section
variable{X:Cx}{pins:List (ah×Obj)}{σ:St}{H:Hp}{s:af}{l b:ah}{xs ys zs:List V}
theorem Inv.BI{its its':List aa}{n:Nat}{f:Array aa->Array aa}{t':Nat}(I:Inv X pins σ H s)(hH:H l=aB (.lst xs))
 (e:s.heap.get? l=aB {cls:=.type "list",data:=.seq its.toArray n}) (hf:f its.toArray=its'.toArray) (hv:Vals ys its') (hz:ys.length<=sizeLine) :
 Inv X pins σ (upd H l (.lst ys)) {s with heap:=s.heap.update l (Obj.mapSeq f),toks:=t'}:=by
 have q:=PySem.IsL.update e f;rw[hf]at q;refine I.write (x:=l) (e:=l) (by rw[hH];exact trivial) (.inl rfl) (λb' u hb hu=>(wO s.heap (Obj.mapSeq f) (dU hb)).trans hu) ⟨_,q⟩ ?_;exact⟨hz,its',_,hv,q⟩
theorem Inv.IA{t':Nat}(I:Inv X pins σ H s)(hv:Vals ys its)(hz:ys.length<=sizeLine) :
 Inv X pins σ (upd H s.heap.objs.size (.lst ys)) {s with heap:=s.heap.push {cls:=.type "list",data:=.seq its.toArray},toks:=t'}:=
 I.laid (λ_ _ q=>cu _ q) (bq _) ⟨hz,its,0,hv,i6 _ rfl⟩
theorem Inv.fresh(I:Inv X pins σ H s):H s.heap.objs.size=aC:=I.hok.fresh (bq _)
theorem Inv.oY(I:Inv X pins σ H s)(hH:H l=aB (.lst xs)):xs.length<=sizeLine/\∃(its:List aa) (n:Nat),Vals xs its/\xs.length=its.length/\s.heap.get? l=aB {cls:=.type "list",data:=.seq its.toArray n}:=by
 obtain⟨z,its,n,r,e⟩:=I.hok l _ hH;exact⟨z,its,n,r,r.length,e⟩
theorem Ve{n:Nat}(h:n<=sizeLine):Builtin.List.listTooLong n=false:=by
 unfold Builtin.List.listTooLong;exact jP (by lia)
end
section
variable{X:Cx}
noncomputable def Vf:V->List V->Hp->VK->Prop:=λx vs H Q=>∃l xs y,x=.ref l/\vs=[y]/\H l=aB (.lst xs)/\xs.length<sizeLine/\Q .aG (upd H l (.lst (xs++[y])))
theorem N4:N2 X "list.append" Vf:=by
 intro pins s σ H x vs v us Q I rx rv h;obtain⟨l,xs,y,rfl,rfl,hH,hz,q⟩:=h;cases rx;obtain⟨u,rfl,ru⟩:=rv.one;obtain⟨z,its,n,r,hl,e⟩:=I.oY hH;refine uJ F.slot_list_append ⟨_,e,rfl⟩ F.entry_list_append (F.args_list_append_2 _ _) (PySem.list_append l its.toArray n u (by rw[fL];lia)) ⟨e,?_⟩;refine⟨.aG,_,I.BI (its':=its++[u]) hH e (by simp) (r.append (.cons ru .nil)) ?_,rfl,q⟩;rw[gh,jA];lia
noncomputable def Vg:V->List V->Hp->VK->Prop:=λx vs H Q=>∃l b xs zs,x=.ref l/\vs=[.ref b]/\H l=aB (.lst xs)/\H b=aB (.lst zs)/\xs.length+zs.length<=sizeLine/\Q .aG (upd H l (.lst (xs++zs)))
theorem zwm:N2 X "list.extend" Vg:=by
 intro pins s σ H x vs v us Q I rx rv h;obtain⟨l,b,xs,zs,rfl,rfl,hH,hB,hz,q⟩:=h;cases rx;obtain⟨u,rfl,ru⟩:=rv.one;cases ru;obtain⟨z,its,n,r,hl,e⟩:=I.oY hH;obtain⟨z2,its2,n2,r2,hl2,e2⟩:=I.oY hB;have hsz:its.toArray.size+its2.toArray.size<=sizeLine:=by rw[fL,fL];lia
 have BJ:¬(!its.toArray.isEmpty&&Builtin.List.listTooLong (its.toArray.size+its2.toArray.size))=true:=by
  rw[Ve hsz,Bool.and_false];exact iZ
 refine uJ F.slot_list_extend ⟨_,e,rfl⟩ F.entry_list_extend (F.args_list_extend_2 _ _)
  (AutoSeq1.list_extend_list_list_0 l its.toArray n b its2.toArray n2 BJ (by rw[fL];lia) (by lia)) ⟨e,e2,?_⟩
 refine⟨.aG,_,I.BI (its':=its++its2) hH e (by simp) (r.append r2) ?_,rfl,q⟩;rw[gh];lia
noncomputable def BK:R2:=λx y H Q=>∃l b xs zs,x=.ref l/\y=.ref b/\H l=aB (.lst xs)/\H b=aB (.lst zs)/\xs.length+zs.length<=sizeLine/\∀p,H p=aC->Q (.ref p) (upd H p (.lst (xs++zs)))
theorem IB:dN X (binaryOp .Add) BK:=by
 intro pins s σ H x y v u Q I rx ry h;obtain⟨l,b,xs,zs,rfl,rfl,hH,hB,hz,q⟩:=h;cases rx;cases ry;obtain⟨z,its,n,r,hl,e⟩:=I.oY hH;obtain⟨z2,its2,n2,r2,hl2,e2⟩:=I.oY hB;refine PySem.P.add_list e e2 ?_ (by rw[fL,fL];lia);have ea:its.toArray++its2.toArray=(its++its2).toArray:=by simp
 rw[ea];exact⟨.ref _,_,I.IA (t':=s.toks) (r.append r2) (by rw[gh];lia),rfl,q _ I.fresh⟩
theorem N5{α:Type}(xs:List α)(k:Nat):(bI k xs).flatten.length=k*xs.length:=by
 induction k with|zero=>simp|succ k ih=>rw[nt,uL,gh,ih,Nat.succ_mul,Nat.add_comm]
end
end L2
namespace N7
open PySem PySem.W PySem.Calls PyProof.Rows
theorem Vh{P:Params}:∀(ns:List Int) (vs:List aa),WellAll P h vs (ns.map WData.int)->IntsAre vs ns:=by
 intro ns;induction ns with
 |nil=>
  intro vs w;rw[uN]at w;cases w;exact .nil
 |cons n ns ih=>
  intro vs w;rw[cP]at w;cases w with
  |cons a b=>
   cases a;exact .cons _ _ (ih _ b)
theorem Vi{l:OpenLaw}{n:Nat}(hn:l.most=aB n){P:Params}{h:az}{args:List WData}{vals:List aa}
 (hpre:l.row.toRowW.claim.pre args) (hwl:WellAll P h vals args) :
 ∃a vs ns,vals=[Value.ref a]/\args=[WData.list (ns.map WData.int)]/\h.get? a=aB {cls:=.type "list",data:=.seq vs.toArray}/\IntsAre vs ns/\ns.length<=n:=by
 have hsh:WShape.hasAll [] args [.list .int]=true:=(pre_splitW hpre).1;have hc:l.pre.holds [] {args:=args}=true:=(pre_splitW hpre).2;obtain⟨d,r,rfl,h1,h2⟩:=hasAllW_cons hsh;obtain rfl:=hasAllW_nil h2;obtain⟨xs,rfl,h3⟩:=hasW_list h1;obtain⟨ns,rfl⟩:=items_int h3;have hlen:ns.length<=n:=by
  unfold OpenLaw.pre at hc;have h4:(WTm.not (.lt (.lit (.int (n:Int))) (.len (.arg 0)))).holds [] {args:=[.list (ns.map .int)]}=true:=by
   have h4:=(holds_andW hc).1;rw[hn]at h4;exact h4
  have h5:=condW_of h4 (w_not (w_lt w_lit (w_len_list (w_arg rfl))));rw[bV]at h5;refine Nat.le_of_not_lt λq=>?_;have q':(n:Int)< ((ns.length:Nat):Int):=by lia
  first
   |(rw[uG q']at h5;exact absurd h5 (by decide))
   |(simp at h5;lia)
 cases hwl with
 |cons w1 w2=>
  cases w2;cases w1 with|list ho hall=>exact⟨_,_,ns,rfl,rfl,ho,Vh ns _ hall,hlen⟩
theorem Vj(l:OpenLaw)(args:List WData):l.row.toRowW.claim.post args (.bool true) args=true:=
 postW_of (r:=l.row.toRowW) (X:=(true==true))
  (show WShape.has [] (.bool true) .bool=true by first|rfl|decide|simp[WShape.has,WShape.arms,WShape.armsAll])
  (show(WTm.eq .res (.lit (.bool true))).value [] {args:=args,res:=aB (.bool true),after:=args}=aB (.bool (true==true))from w_eq_bool (w_res rfl) w_lit) rfl
theorem kg{l:OpenLaw}{n:Nat}{q:ai}{loose:List Str}{XP:(Str->Option aa)->az->Prop}{YP:aj->az->Prop}{d:DefRec}
 (hn:l.most=aB n) (hdf:d.params.defaults=[])
 (call:∀(w:aj)(s₀ s₁:af)(mg mb:Str->Option aa)(fa:ah)(o:Obj)(pm cd doc:aa)(a:ah)(vs:List aa)(ns:List Int),
   Ground q loose [] XP w s₀ mg mb s₁.heap->YP w s₁.heap->
   s₁.heap.get? fa=aB o->o.data=.func (docDef d.name d.params d.body d.scope pm cd doc)->s₁.heap.CodeRec cd d.name->mg d.name=aB (.ref fa)->
   s₁.heap.get? a=aB {cls:=.type "list",data:=.seq vs.toArray}->IntsAre vs ns->ns.length<=n->s₁.gens = #[]->
   codeAny (model l.prog w) callerA (.call (.ref fa) ⟨[.ref a],[]⟩) (λr s'=>r=.ok (.ret (.bool true))/\OldK s₁.heap s'.heap/\s'.os=s₁.os/\AllBare s'.gens) s₁) :
 WalkO q loose XP YP l.row.toRowW d [] (λf vs=>PySem.call f vs):=by
 intro w s₀ s₁ mg mb G Y fa o pm cd doc dV kV ho hd hcd hD hmg hg args vals as hpre hlay hrd hwl hlo;obtain rfl:dV=.none:=Dflts.none hD hdf;obtain rfl:kV=.none:=Dflts.noKw hD;obtain⟨a,vs,ns,rfl,rfl,hobj,hints,hlen⟩:=Vi hn hpre hwl;refine enter_call (uI (call w s₀ s₁ mg mb fa o pm cd doc a vs ns G Y ho (fd_plain hd) hcd hmg hobj hints hlen hg) λr s' hq=>?_);obtain⟨rfl,h2,h3,h4⟩:=hq;exact⟨.inl ⟨.bool true,.bool true,[],rfl,λ_=>rfl,.bool true,Vj l _,λ_=>⟨List.Pairwise.nil,λ_ hm=>(nomatch hm)⟩⟩,h2,h3,h4⟩
end N7
namespace L2
open PySem PySem.Spec PyProof.Rows
theorem N8:∀{vs:List aa} {ns:List Int},IntsAre vs ns->Vals (ns.map V.int) vs|_,_,.nil=>.nil|_,_,.cons n t h=>.cons ⟨t,rfl⟩ (N8 h)
noncomputable def xA(H:Hp):Prop:=∀b,H b=aC\/∃o xs,H b=aB (.cG o (.lst xs))
theorem Vk{P:ai}{w:aj}{K:aI}{mg mb:Str->Option aa}{CX:nB}{k:Nat}{fa a:ah}{fd:au}{x:Str}{sp:Sp}{s₁:af}{vs:List aa}{ns:List Int}
 (KX:K.In s₁.heap) (hns:s₁.heap.Ns mainGlobals mg) (hb:s₁.heap.Ns builtinsNs mb) (IC:∀x:Str,x≠"__name__"->mb x=bootBuiltins x) (hlim:s₁.heap.NoLimit) (hg:s₁.gens = #[])
 (ha:s₁.heap.get? a=aB {cls:=.type "list",data:=.seq vs.toArray}) (hi:IntsAre vs ns) (hl:ns.length<=sizeLine) (hr:bG k callerA)
 (F:∀base:az,K.In base->base.Ns mainGlobals mg->bU P w K mg base CX k fa fd [x] sp) (hbind:∀(s:af)(u:aa),BindsTo s fd ⟨[u],[]⟩ [(x,u)])
 (j9:∀H:Hp,xA H->cM K H a (ns.map V.int)->sp [.ref a] H (λv _=>v=.bl true) λ_ _ _=>False)
 (ID:∀H e s',CX [] H s₁ (λ_ _ _=>False) e s'->False) :
 codeAny (model P w) callerA (.call (.ref fa) ⟨[.ref a],[]⟩) (λr s'=>r=.ok (.ret (.bool true))/\OldK s₁.heap s'.heap/\s'.os=s₁.os/\AllBare s'.gens) s₁:=by
 have rv:=N8 hi;have IE:=hi.length;have core:∀H:Hp,xA H->cM K H a (ns.map V.int)->eF P w H s₁.heap->(∀b,H b≠aC->b=a)->(H a≠aC->K.lookup a=aC)->
  codeAny (model P w) callerA (.call (.ref fa) ⟨[.ref a],[]⟩) (λr s'=>r=.ok (.ret (.bool true))/\OldK s₁.heap s'.heap/\s'.os=s₁.os/\AllBare s'.gens) s₁:=by
  intro H hO hS hok hA hK;have base_of:∀{b:ah}{o:Obj},s₁.heap.get? b=aB o->H b=aC->(jB s₁.heap H).get? b=aB o:=λe n=>Tc e n;have BA:∀{b:ah}{o:Obj}{es:Array DictEntry}{ep:Nat},s₁.heap.get? b=aB o->o.data=.dict es ep->H b=aC:=λ{b o es ep} e d=>by
   cases q:H b with
   |none=>rfl
   |some u=>
    have e':b=a:=hA b (by rw[q];simp);subst e';rw[ha]at e;cases e;have d':Data.seq vs.toArray _=Data.dict es ep:=d;cases d'
  have F8:∀{b:ah}{m:Str->Option aa},s₁.heap.Ns b m->(jB s₁.heap H).Ns b m:=λ{b m}⟨o,es,ep,e,d,r⟩=>⟨o,es,ep,base_of e (BA e d),d,r⟩
  have N9:K.In (jB s₁.heap H):=λb o e=>base_of (KX b o e) (by
   cases q:H b with
   |none=>rfl
   |some u=>
    have e':b=a:=hA b (by rw[q];simp);subst e';rw[hK (by rw[q];simp)]at e;cases e)
  have hM:Mod K mg (jB s₁.heap H):=⟨N9,F8 hns,⟨mb,F8 hb,IC⟩,let⟨mc,h1,h2⟩:=hlim;⟨mc,F8 h1,h2⟩⟩
  have e0:j8 P w K mg (jB s₁.heap H) callerA [] s₁ H:=⟨rfl,hM,λb o e=>Td e,Fi (S9 _ _),trivial,λb hb=>absurd (show b∈([]:List ah)from hb) (by simp),hok,.of_eq hg⟩
  refine uI ((F _ N9 (F8 hns)).run callerA [] s₁ H ⟨[.ref a],[]⟩ [.ref a] [.ref a] _ _ hr e0 (hbind s₁ (.ref a)) (.cons rfl .nil) (j9 H hO hS)) λr s' h=>?_;cases r with
  |error e=>exact(ID H e s' h).elim
  |ok fl=>
   cases fl with
   |next=>exact False.elim h
   |brk=>exact False.elim h
   |cont=>exact False.elim h
   |ret u=>
    obtain⟨v,H',os,bare,un,IF,r',q⟩:=h;have q':v=.bl true:=q;subst q';obtain rfl:u=Value.bool true:=r';refine⟨rfl,OldK.of_keep λb o e=>?_,os,bare⟩;cases q:H b with
    |none=>exact un.keep b o e q (by intro z;exact absurd (show b∈([]:List ah)from z) (by simp)) (by simp)
    |some u=>
     rcases hO b with z|⟨ob,xs,z⟩;rw[q]at z;cases z;have z2:=un.iu b ob _ z;obtain⟨e1,_⟩:=hok b _ z;obtain⟨e2,_⟩:=IF b _ z2;rw[e]at e1;cases e1;exact e2
 cases hk:K.lookup a with
 |some o=>
  have e:=KX a o hk;rw[ha]at e;cases e;refine core (λ_=>aC) (λ_=>.inl rfl) (.inr ⟨_,vs.toArray,_,hk,rfl,rfl,rfl,by rw[fL,IE];exact hl,by simpa using rv⟩) (λb u z=>by have z':(aC:Option HO)=aB u:=z;cases z') (λb z=>absurd rfl z) λz=>absurd rfl z
 |none=>
  refine core (λb=>if b=a then aB (.cG {cls:=.type "list",data:=.seq vs.toArray} (.lst (ns.map V.int)))else aC) (λb=>?_) (.inl (.inr ⟨{cls:=.type "list",data:=.seq vs.toArray},if_pos rfl⟩)) (λb u z=>?_) (λb z=>?_) λ_=>hk;by_cases hb:b=a;exact .inr ⟨_,_,if_pos hb⟩;exact .inl (if_neg hb);by_cases hb:b=a;have z':=(if_pos hb).symm.trans z;cases z';subst hb;exact⟨ha,by rw[bV];exact hl,vs,_,rv,ha⟩;have z':=(if_neg hb).symm.trans z;cases z';by_cases hb:b=a;exact hb;exact absurd (if_neg hb) z
theorem Vl{l:PySem.W.OpenLaw}{n k:Nat}{q:ai}{loose:List Str}{XP:(Str->Option aa)->az->Prop}{YP:aj->az->Prop}{d:DefRec}{K:Params->aI}{CX:aj->nB}{sp:aj->Sp}{x:Str}
 (hn:l.most=aB n) (hn2:n<=sizeLine) (hdf:d.params.defaults=[]) (hr:bG k callerA)
 (hY:∀(w:aj)(h:az),YP w h->(K w.params).In h)
 (F:∀(w:aj)(mg:Str->Option aa)(fa:ah)(h:az),(K w.params).In h->h.Ns mainGlobals mg->mg d.name=aB (.ref fa)->
   ∃fd:au,(∀(s:af)(u:aa),BindsTo s fd ⟨[u],[]⟩ [(x,u)])/\
    ∀base:az,(K w.params).In base->base.Ns mainGlobals mg->bU l.prog w (K w.params) mg base (CX w) k fa fd [x] (sp w))
 (j9:∀(w:aj)(H:Hp)(a:ah)(ns:List Int),ns.length<=n->xA H->cM (K w.params) H a (ns.map V.int)->sp w [.ref a] H (λv _=>v=.bl true) λ_ _ _=>False)
 (ID:∀(w:aj)(H:Hp)(s:af)(e:aa)(s':af),CX w [] H s (λ_ _ _=>False) e s'->False) :
 PySem.W.WalkO q loose XP YP l.row.toRowW d [] (λf vs=>PySem.call f vs):=by
 refine N7.kg hn hdf λw s₀ s₁ mg mb fa o pm cd doc a vs ns G Y ho hd hcd hmg hobj hints hlen hg=>?_;have KX:=hY w _ Y;obtain⟨fd,hb,hF⟩:=F w mg fa _ KX G.T.g hmg;exact Vk KX G.T.g G.T.b G.T.builtins G.T.nolimit hg hobj hints (fS hlen hn2) hr hF hb (λH hO hS=>j9 w H a ns hlen hO hS) λH e s'=>ID w H s₁ e s'
noncomputable def Vm(s:aq):Arguments:=match s with|.FunctionDef _ a _ _ _ _ _ _ _ _=>a|_=>{posonlyargs:=[],args:=[],vararg:=aC,kwonlyargs:=[],kw_defaults:=[],kwarg:=aC,defaults:=[]}
noncomputable def zL(s:aq):List aq:=match s with|.FunctionDef _ _ b _ _ _ _ _ _ _=>b|_=>[]
noncomputable def iy(s:aq):ay:=match s with|.FunctionDef _ _ _ _ _ _ sc _ _ _=>sc|_=>{kind:=.function,names:=[],isGenerator:=false,isCoroutine:=false}
noncomputable abbrev jb:nB:=λ_ _ _ _ _ _=>False
noncomputable abbrev E0:XK:=λ_ _ _=>False
theorem jk:sC jb X E0:=λ_ _ _ _ _ _ _ h=>h.elim
theorem IG{n:Nat}(h:n<=1000):n<sizeLine:=rV h (by decide)
theorem fO{A B:Prop}(h:B):if false=true then A else B:=by
 rw[if_neg iZ];exact h
noncomputable def oZ(cells:List (Str×ah)):List (Str×NameKind)->List (Str×ah)->List (Str×ah)|[],cs=>cs|(n,k)::r,cs=>oZ cells r (if k == .free then(match cells.lookup n with|some c=>(n,c)::cs|none=>cs)else cs)
theorem Oa(hf:∀y∈scope.names,y.2=.free->∃c,env.cells.lookup y.1=aB c):closureFor scope env=pure (oZ env.cells scope.names []):=by
 have go:∀(l:List (Str×NameKind))(cs:List (Str×ah)),(∀y∈l,y.2=.free->∃c,env.cells.lookup y.1=aB c)->
  (forIn l cs λ(x:Str×NameKind)(r:List (Str×ah))=>(match x with
    |(name,kind)=>if(kind==NameKind.free)=true then(do let a <-cellOf env name;pure (ForInStep.yield ((name,a)::r)))else pure (ForInStep.yield r):Sem (ForInStep (List (Str×ah)))))=(pure (oZ env.cells l cs):Sem (List (Str×ah))):=by
  intro l;induction l with
  |nil=>intro cs _;rfl
  |cons x r ih=>
   intro cs h;obtain⟨n,k⟩:=x;rw[zy];by_cases hk:(k==NameKind.free)=true;have hk':k=.free:=by simpa using hk
   obtain⟨c,hc⟩:=h (n,k) fy hk';have hc':env.cells.lookup n=aB c:=hc;simp only[hk,bX,cellOf,hc',oZ];exact ih _ λy hy=>h y (eU _ hy);have hk':(k==NameKind.free)=false:=by simpa using hk
   simp only[hk',eT,dg,oZ];exact ih _ λy hy=>h y (eU _ hy)
 have e:=go scope.names [] hf;unfold closureFor;refine Eq.trans (k8 (λt=>t >>= λcs=>pure cs) e) ?_;rfl
theorem Ob{cells:List (Str×ah)}:∀(l:List (Str×NameKind)) (cs:List (Str×ah)),(∀x c,cs.lookup x=aB c->cells.lookup x=aB c)->∀x c,(oZ cells l cs).lookup x=aB c->cells.lookup x=aB c
 |[],cs,h=>h
 |(n,k)::r,cs,h=>Ob r _ λx c e=>by
  by_cases hk:(k==NameKind.free)=true;simp only[hk,bX]at e;cases hc:cells.lookup n with
  |none=>rw[hc]at e;exact h x c e
  |some d=>
   rw[hc]at e;simp only[ig]at e;by_cases hx:(x==n)=true;simp only[hx]at e;cases e;rw[show x=n by simpa using hx];exact hc;have hx':(x==n)=false:=by simpa using hx
   simp only[hx']at e;exact h x c e
  have hk':(k==NameKind.free)=false:=by simpa using hk
  simp only[hk',eT,dg]at e;exact h x c e
theorem Oc{cells:List (Str×ah)}{x:Str}{c:ah}(hc:cells.lookup x=aB c):∀(l:List (Str×NameKind)) (cs:List (Str×ah)),cs.lookup x=aB c->(oZ cells l cs).lookup x=aB c
 |[],cs,h=>h
 |(n,k)::r,cs,h=>Oc hc r _ (by
  by_cases hk:(k==NameKind.free)=true;simp only[hk,bX];cases hn:cells.lookup n with
  |none=>exact h
  |some d=>
   simp only[ig];by_cases hx:(x==n)=true;have:x=n:=by simpa using hx
   subst this;rw[hc]at hn;cases hn;simp;have hx':(x==n)=false:=by simpa using hx
   simp only[hx'];exact h
  have hk':(k==NameKind.free)=false:=by simpa using hk
  simp only[hk',eT,dg];exact h)
theorem II{cells:List (Str×ah)}{x:Str}{c:ah}(hc:cells.lookup x=aB c):∀(l:List (Str×NameKind)) (cs:List (Str×ah)),(x,NameKind.free)∈l->(oZ cells l cs).lookup x=aB c
 |[],cs,h=>by cases h
 |(n,k)::r,cs,h=>by
  rcases gq.mp h with e|e;cases e;refine Oc hc r _ ?_;rw[hc];simp[ig];exact II hc r _ e
noncomputable abbrev Cx.comp(X:Cx)(N:List Str)(scope:ay)(C:ah)(s₀:af)(H₀:Hp)(ex:List ah):Cx:=
 {X with N:=N,s₀:=s₀,H₀:=H₀,env:=compEnvC scope (oZ X.env.cells scope.names []) C X.env,outer:=X.stack,stack:=X.stack,ex:=ex,fn:=λ_=>false,pn:=[],xe:=λ_ _=>False}
structure bW(X:Cx)(ow fr:List Str)(ix:List Nat)(scope:ay):Prop where
 kind:scope.kind=.function
 lH:∀y∈scope.names,y.2≠.cell
 names:∀y∈scope.names,y.2=.local->scope.names.lookup y.1=aB .local
 own:∀x∈ow,scope.names.lookup x=aB .local
 free:∀y∈scope.names,y.2=.free->X.env.kindOf y.1=aB .cell\/X.env.kindOf y.1=aB .free
 at_:∀(k:Nat)(x:Str),fr[k]?=aB x->∃j,ix[k]?=aB j/\X.N[j]?=aB x/\scope.names.lookup x=aB .free
 len:ix.length=fr.length
noncomputable def nC(ow fr:List Str)(ix:List Nat)(σ:St):St:=ow.map (λ_=>aC)++ix.map λj=>(σ[j]?).join
theorem Od{x:Str}{k:NameKind}:∀{l:List (Str×NameKind)},l.lookup x=aB k->(x,k)∈l
 |[],h=>by cases h
 |(n,j)::r,h=>by
  simp only[ig]at h;by_cases hx:(x==n)=true;simp only[hx]at h;cases h;rw[show x=n by simpa using hx];exact fy;have hx':(x==n)=false:=by simpa using hx
  simp only[hx']at h;exact eU _ (Od h)
theorem IJ{env:Env}:∀{l:List (Str×NameKind)} {x:Str} {k:NameKind},
 (l.map λ(n,k)=>if(k==NameKind.free&&env.scope.kind == .function&&env.kindOf n==aB .cell)then(n,NameKind.cell)else(n,k)).lookup x=aB k->k≠.local->(∀y∈l,y.2≠.cell)->k=.cell\/k=.free->(x,NameKind.free)∈l
 |[],x,k,h,_,_,_=>by cases h
 |(n,j)::r,x,k,h,hk,hc,hh=>by
  have ih:=@IJ env r x k;rw[cP]at h;by_cases hc':(j==NameKind.free&&env.scope.kind == .function&&env.kindOf n==aB .cell)=true;simp only[hc',bX,ig]at h;have hj:j=.free:=by
   simp only[aY,jY]at hc';exact hc'.1.1
  by_cases hx:(x==n)=true;rw[show x=n by simpa using hx,hj];exact fy;have hx':(x==n)=false:=by simpa using hx
  simp only[hx']at h;exact eU _ (ih h hk (λy hy=>hc y (eU _ hy)) hh);have hcf:(j==NameKind.free&&env.scope.kind == .function&&env.kindOf n==aB .cell)=false:=by simpa using hc'
  simp only[hcf,eT,dg,ig]at h;by_cases hx:(x==n)=true;simp only[hx]at h;cases h;rcases hh with z|z
  exact absurd z (hc _ fy);rw[show x=n by simpa using hx,z];exact fy;have hx':(x==n)=false:=by simpa using hx
  simp only[hx']at h;exact eU _ (ih h hk (λy hy=>hc y (eU _ hy)) hh)
theorem F9{env:Env}(hkf:env.scope.kind=.function):∀{l:List (Str×NameKind)} {x:Str},l.lookup x=aB .free->
 (l.map λ(n,k)=>if(k==NameKind.free&&env.scope.kind == .function&&env.kindOf n==aB .cell)then(n,NameKind.cell)else(n,k)).lookup x=aB (if env.kindOf x=aB .cell then .cell else .free)
 |[],x,h=>by cases h
 |(n,j)::r,x,h=>by
  have ih:=@F9 env hkf r x;rw[cP];simp only[ig]at h;by_cases hx:(x==n)=true;simp only[hx]at h;cases h;have e:x=n:=by simpa using hx
  subst e;by_cases hq:env.kindOf x=aB .cell;simp[hkf,hq,ig];simp[hq,ig];have hx':(x==n)=false:=by simpa using hx
  simp only[hx']at h;by_cases hc':(j==NameKind.free&&env.scope.kind == .function&&env.kindOf n==aB .cell)=true;simp only[hc',bX,ig,hx'];exact ih h;have hcf:(j==NameKind.free&&env.scope.kind == .function&&env.kindOf n==aB .cell)=false:=by simpa using hc'
  simp only[hcf,eT,dg,ig,hx'];exact ih h
section
variable{X:Cx}{pins:List (ah×Obj)}{σ:St}{H:Hp}{s:af}{ow fr:List Str}{ix:List Nat}{scope:ay}{fp:List ah}
theorem Vn(S:bW X ow fr ix scope)(I:Inv X pins σ H s)(hfp:∀b∈fp,gv X pins H b)(hlt:∀b∈fp,b<s.heap.objs.size){h':az}{tk:Nat}{m:Str->Option aa}(hn:h'.Ns s.heap.objs.size m)(hk:∀b o,s.heap.get? b=aB o->h'.get? b=aB o) :
 Inv (X.comp (ow++fr) scope s.heap.objs.size s H fp) [] (nC ow fr ix σ) H {s with heap:=h',toks:=tk}:=by
 have sub:=Ob (cells:=X.env.cells) scope.names [] (λx c e=>by cases e);have kf:=I.ok.kind;have Oe:∀x c,X.env.cells.lookup x=aB c->c≠s.heap.objs.size:=λx c e z=>by
  obtain⟨v,q⟩:=I.cell x c e;exact absurd q.lt (by rw[z];exact nq _)
 have IK:∀x,(x,NameKind.free)∈scope.names->∃c,(oZ X.env.cells scope.names []).lookup x=aB c/\X.env.cells.lookup x=aB c:=λx hx=>by
  obtain⟨c,hc⟩:=I.ok.has x (S.free _ hx rfl);exact⟨c,II hc _ _ hx,hc⟩
 refine⟨⟨I.ok.mod,?_,I.ok.glob,I.ok.blt,bq _,λx y c a b=>I.ok.inj x y c (sub x c a) (sub y c b),λx hx=>?_,λx c e=>?_,I.ok.hd,I.ok.frames,.inl rfl,λb hb=>?_,λb o e=>?_,?_,λb o e hb=>?_,λb hb hz=>?_,I.stack,λb hb=>I.iG b hb⟩,
  rfl,I.bare,Un.kept hk,⟨m,hn,λi x v e1 e2 e3=>?_⟩,λx c e=>?_,I.hok.fresh (bq _),λx c e=>I.dD x c (sub x c e),λp hp=>?_,I.hok.kept hk,?_⟩
 exact S.kind;have hx':(relabel scope X.env).names.lookup x=aB .cell\/(relabel scope X.env).names.lookup x=aB .free:=hx;have hm:(x,NameKind.free)∈scope.names:=by
  rcases hx' with z|z;exact IJ (env:=X.env) z (by decide) S.lH (.inl rfl);exact IJ (env:=X.env) z (by decide) S.lH (.inr rfl)
 obtain⟨c,hc,_⟩:=IK x hm;exact⟨c,hc⟩;cases e;obtain⟨f0,f1,f2,f3,f4,f5⟩:=hfp b hb;refine⟨λz=>?_,λx c e=>f4 x c (sub x c e)⟩;have q:=hlt b hb;rw[z]at q;exact absurd q (nq _);exact⟨(I.bs b o e).1,(I.bs b o e).2⟩;exact fS I.ok.oO I.sz;obtain⟨f0,f1,f2,f3,f4,f5⟩:=hfp b hb;rcases f3 with z|z;exact I.ok.lB b o e z;exact absurd (ff (cF (I.ok.bs b o e).1) z) (nq _);obtain⟨f0,f1,f2,f3,f4,f5⟩:=hfp b hb;rcases gq.mp (I.jC b hz)with z|z;exact f1 z;exact f2 z;have hlen:ow.length<=i:=by
  by_cases hi:i<ow.length;unfold nC at e2;rw[zl (by simpa using hi),nu]at e2;cases q:ow[i]? with|none=>rw[q]at e2;cases e2|some y=>rw[q]at e2;cases e2
  lia
 have Vo:fr[i-ow.length]?=aB x:=by
  have e1:(ow++fr)[i]?=aB x:=e1;rw[oJ hlen]at e1;exact e1
 have Of:(ix.map λj=>(σ[j]?).join)[i-ow.length]?=aB (aB v):=by
  unfold nC at e2;rw[oJ (by simpa using hlen)]at e2;simpa using e2
 obtain⟨j,hj,hN,hl⟩:=S.at_ _ _ Vo;rw[nu,hj]at Of;have o4:(σ[j]?).join=aB v:=lz Of;have hσ:σ[j]?=aB (aB v):=by
  cases q:σ[j]? with
  |none=>rw[q]at o4;cases o4
  |some o=>rw[q]at o4;cases o with
   |none=>cases o4
   |some w=>cases o4;rfl
 obtain⟨m0,hm0,Vp⟩:=I.loc;have hmem:=Od hl;have hkf:=S.free _ hmem rfl;have IL:oN X.env.scope x:=hkf.elim (λz=>.inr (.inl z)) λz=>.inr (.inr z);obtain⟨u,ru,lk⟩:=Vp j x v hN hσ IL;refine⟨u,ru,.inr ?_⟩;have hcell:∃c,X.env.cells.lookup x=aB c/\s.heap.IsCell c (aB u):=by
  rcases lk with⟨z,_⟩|⟨_,c,e,z⟩;rcases hkf with q|q;rw[show X.env.kindOf x=aB .local from z]at q;cases q;rw[show X.env.kindOf x=aB .local from z]at q;cases q;exact⟨c,e,z⟩
 obtain⟨c,hc,o,ho,hd⟩:=hcell;refine⟨?_,c,II hc _ _ hmem,o,hk _ _ ho,hd⟩;show(relabel scope X.env).names.lookup x=aB .cell\/(relabel scope X.env).names.lookup x=aB .free;have q:=F9 (env:=X.env) kf hl;by_cases z:X.env.kindOf x=aB .cell;rw[if_pos z]at q;exact .inl q;rw[if_neg z]at q;exact .inr q;obtain⟨v,q⟩:=I.cell x c (sub x c e);obtain⟨o,ho,hd⟩:=q;exact⟨v,o,hk _ _ ho,hd⟩;cases(show p∈([]:List (ah×Obj))from hp);show(nC ow fr ix σ).length=(ow++fr).length;unfold nC;rw[gh,bV,bV,gh,S.len]
end
theorem Vq{α:Type}{M:Model}{t:Sem α}{Q:α->af->Prop}(h:wpAny M A t Q (λ_ _=>False) s):wpAny M A t Q E s:=iF h (λ_ _ q=>q) λ_ _ z=>z.elim
noncomputable abbrev uX:aa->af->Prop:=λ_ _=>False
noncomputable abbrev Og(ifs:List ao)(env:Env):Sem Bool:=forIn ifs true λc r=>if r=true then do let ok <-isTrue c env (eval c env);pure (ForInStep.yield ok)else pure (ForInStep.yield r)
theorem Vr{prog:ai}{w:aj}{A:ak}{R:Result->af->Prop}{s:af}{elt target iter:ao}{ifs:List ao}{scope:ay}{pos:Pos}{it acc:aa}{env:Env}(I:Nat->af->Prop)
 (turn:∀n s,I n s->wpAny (model prog w) A (pyNext it) (λr s₁=>match r with
   |none=>R (.ok .next) s₁
   |some v=>wpAny (model prog w) A (letOwnedTupleGo target it v) (λ_ s₀=>wpAny (model prog w) A (assign target env v) (λ_ s₂=>
    wpAny (model prog w) A (Og ifs env) (λok s₃=>
     if ok=true then wpAny (model prog w) A (eval elt env) (λx s₄=>
      wpAny (model prog w) A (call (.builtin "list.append") [acc,x]) (λ_ s₅=>∃m,m<n/\I m s₅) uX s₄) uX s₃
     else ∃m,m<n/\I m s₃) uX s₂) uX s₀) uX s₁) uX s)
 (n:Nat) (h:I n s) :
 codeAny (model prog w) A (.compLoop (.ListComp elt [⟨target,iter,ifs,0⟩] scope pos) 0 it acc env) R s:=by
 refine codeAny_loop rfl I (λn s hI=>?_) n h;show wpAny _ A ((compTurn (.ListComp elt [⟨target,iter,ifs,0⟩] scope pos) 0 it acc env).onRaise (λx=>do noteFrame x env;theTreesLotGoes x)) _ _ s;refine wpAny_noted (Vq ?_);rw[compTurn_list];refine aK (kT (aK (iF (turn n s hI) (λr s₁ h₁=>?_) λ_ _ h'=>h')));cases r with
 |none=>exact br h₁
 |some v=>
  refine aK (iF h₁ (λ_ s₀ h₀=>?_) λ_ _ h'=>h');refine aK (iF h₀ (λ_ s₂ h₂=>aK (iF h₂ (λok s₃ h₃=>?_) λ_ _ h'=>h')) λ_ _ h'=>h');cases ok with
  |true=>
   simp only[bX]at h₃ ⊢;exact aK (aK (iF h₃ (λx s₄ h₄=>aK (iF h₄ (λ_ s₅ h₅=>br (br ⟨rfl,h₅⟩)) λ_ _ h'=>h')) λ_ _ h'=>h'))
  |false=>
   simp only[eT,dg]at h₃ ⊢;exact br ⟨rfl,h₃⟩
noncomputable def sG(X:Cx)(ifs:List ao)(t:TT):Prop:=
 ∀(pins:List (ah×Obj))(s:af)(σ:St)(H:Hp)(Q:Bool->Hp->Prop),Inv X pins σ H s->t σ H Q->wpAny (model X.prog X.w) X.A (Og ifs X.env) (TP X pins σ Q) X.xe s
noncomputable def IM:TT:=λ_ H Q=>Q true H
theorem Vs:sG X [] IM:=λpins s σ H Q I h=>wpAny_tests_nil ⟨H,I,h⟩
theorem Vt(h:PT X c t):sG X [c] t:=λpins s σ H Q I q=>wpAny_tests_one (h pins s σ H Q I q)
noncomputable def IP(K:aI)(f:St->St)(wi:TI)(g:TG)(tc:TT)(te:TE):TE:=λσ H Q=>wi σ H λJ H1=>∀D,H1 D=aC->K.lookup D=aC->
 ∃W:Nat->Nat->St->Hp->List V->Prop,(∃m,W 0 m (f σ) (upd H1 D (.lst [])) [])/\∀i m σ' H' ys,W i m σ' H' ys->H' D=aB (.lst ys)/\
  ((J.stop i H'/\Q (.ref D) H')\/(J.go i H'/\∀x H2,J.A7 i H' x H2->g x σ' H2 λσ2 H3=>tc σ2 H3 λb H4=>
    if b=true then te σ2 H4 λy H5=>H5 D=aB (.lst ys)/\ys.length<sizeLine/\∃m',m'<m/\W (i+1) m' σ2 (upd H5 D (.lst (ys++[y]))) (ys++[y])
    else ∃m',m'<m/\W (i+1) m' σ2 H4 ys))
section
variable{X:Cx}{ow fr:List Str}{ix:List Nat}{scope:ay}{tg iter elt:ao}{ifs:List ao}{pos:Pos}{wi:TI}{g:TG}{tc:TT}{te:TE}
theorem Oh{pins:List (ah×Obj)}{s:af}{σ:St}{Q:VK}{RR:aa->ah->Result->af->Prop}(S:bW X ow fr ix scope)(hc:X.calm=true)
 (hg:∀C s₀ H₀ ex,PG (X.comp (ow++fr) scope C s₀ H₀ ex) tg g) (ht:∀C s₀ H₀ ex,sG (X.comp (ow++fr) scope C s₀ H₀ ex) ifs tc) (he:∀C s₀ H₀ ex,PE (X.comp (ow++fr) scope C s₀ H₀ ex) elt te)
 {itv:aa} {E:aa->af->Prop}
 (h:Ic X pins σ tg (λJ H1=>∀D,H1 D=aC->X.K.lookup D=aC->
   ∃W:Nat->Nat->St->Hp->List V->Prop,(∃m,W 0 m (nC ow fr ix σ) (upd H1 D (.lst [])) [])/\∀i m σ' H' ys,W i m σ' H' ys->H' D=aB (.lst ys)/\
    ((J.stop i H'/\Q (.ref D) H')\/(J.go i H'/\∀x H2,J.A7 i H' x H2->g x σ' H2 λσ2 H3=>tc σ2 H3 λb H4=>
      if b=true then te σ2 H4 λy H5=>H5 D=aB (.lst ys)/\ys.length<sizeLine/\∃m',m'<m/\W (i+1) m' σ2 (upd H5 D (.lst (ys++[y]))) (ys++[y])
      else ∃m',m'<m/\W (i+1) m' σ2 H4 ys))) itv s)
 (fin:∀D C H' s' m,gv X pins H' C->s'.heap.Ns C m->(∀h'',Heap.SameBut C s'.heap h''->Inv X pins σ H' {s' with heap:=h''})->Q (.ref D) H'->RR (.ref D) C (.ok .next) s') :
 wpAny (model X.prog X.w) X.A (newList []) (λacc s₃=>wpAny (model X.prog X.w) X.A (newFunctionEnv scope X.env.globals (oZ X.env.cells scope.names []) [] X.env.qual aC .none (aB X.env)) (λcenv s₄=>
  codeAny (model X.prog X.w) X.A (.compStart (.ListComp elt [⟨tg,iter,ifs,0⟩] scope pos) 0 itv acc {cenv with scope:=relabel scope X.env}) (RR acc cenv.locals) s₄) E s₃) E s:=by
 obtain⟨it,fp,tn,J,H1,e,I1,T,st1,f1,hq⟩:=h;subst e;have hD:H1 s.heap.objs.size=aC:=I1.hok.fresh (bq _);have Vu:X.K.lookup s.heap.objs.size=aC:=by
  cases e:X.K.lookup s.heap.objs.size with|none=>rfl|some o=>exact absurd (cF (I1.dM _ _ e)) (nq _)
 obtain⟨W,⟨m0,w0⟩,turn⟩:=hq _ hD Vu;have I3:Inv X pins σ (upd H1 s.heap.objs.size (.lst [])) {s with heap:=s.heap.push {cls:=.type "list",dict:=aC,data:=.seq ([]:List aa).toArray}}:=
  I1.laid (t':=s.toks) (o:=.lst []) (λb u q=>cu _ q) (bq _) ⟨i8 _,[],0,.nil,i6 _ rfl⟩
 have BN:∀b∈fp,b<s.heap.objs.size:=λb hb=>by
  obtain⟨o,ho,_⟩:=T.obj _ _ st1 b hb;exact cF ho
 have f3:∀b∈fp,gv X pins (upd H1 s.heap.objs.size (.lst [])) b:=λb hb=>⟨by rw[bR (fj (BN b hb))];exact(f1 b hb).1,(f1 b hb).2⟩
 refine uH (wpAny_newFunctionEnv S.lH (by intro y hy;simp at hy) (λh₁ hns xB=>?_) S.kind);dsimp only at hns xB ⊢;generalize Oi:({s with heap:=s.heap.push {cls:=.type "list",dict:=aC,data:=.seq ([]:List aa).toArray}}:af)=s3 at I3;have IQ:s3.heap=s.heap.push {cls:=.type "list",dict:=aC,data:=.seq ([]:List aa).toArray}:=by rw[<-Oi]
 rw[<-IQ]at hns xB ⊢;have hk:∀b o,s3.heap.get? b=aB o->h₁.get? b=aB o:=λb o e=>xB.extBut b o (fj (cF e)) (cu _ e);have IS:∀b∈fp,b<s3.heap.objs.size:=λb hb=>by rw[IQ,mj];exact Fg (BN b hb)
 have J3:=Vn S I3 f3 IS (tk:=s.toks) hns hk;have st3:tn 0 h₁:=T.keep _ _ _ st1 λb hb o e=>hk b o (by rw[IQ];exact cu _ e);have IT:∀b∈fp,(X.comp (ow++fr) scope s3.heap.objs.size s3 (upd H1 s.heap.objs.size (.lst [])) fp).Ok->∀{H':Hp},H' b=aC->gv (X.comp (ow++fr) scope s3.heap.objs.size s3 (upd H1 s.heap.objs.size (.lst [])) fp) [] H' b:=λb hb ok H' hn=>
  ⟨hn,(ok.zG b hb).1,ok.lC b hb,.inl hb,(ok.zG b hb).2,λp hp=>by cases(show p∈([]:List (ah×Obj))from hp)⟩
 have back:∀{σ':St}{H':Hp}{s':af},Inv (X.comp (ow++fr) scope s3.heap.objs.size s3 (upd H1 s.heap.objs.size (.lst [])) fp) [] σ' H' s'->∀h'',Heap.SameBut s3.heap.objs.size s'.heap h''->Inv X pins σ H' {s' with heap:=h''}:=λ{σ' H' s'} I' h'' hs=>by
  have uP:∀b o,s3.heap.get? b=aB o->b≠s3.heap.objs.size:=λb o e=>fj (cF e);have un:Un (frs X.stack) fp (upd H1 s.heap.objs.size (.lst [])) H' s3.heap h'':=
   ⟨λb o e n hb hx=>(hs.2 b (uP b o e)).trans (I'.base.keep b o e n hb hx),λb o e n hb hx=>by
    obtain⟨sl,q⟩:=I'.base.slot b o e n hb hx;exact⟨sl,(hs.2 b (uP b o e)).trans q⟩,I'.base.free,λb o e hx=>by
    obtain⟨o',q⟩:=I'.base.there b o e hx;exact⟨o',(hs.2 b (uP b o e)).trans q⟩,I'.base.tups,I'.base.iu,I'.base.iI⟩
  have hok:eF X.prog X.w H' h'':=λb ob e=>by
   refine(I'.hok b ob e).stay (λc w' hcc q=>(hs.2 c ?_).trans q) (λ_ q=>q) λ_ _ q=>q;rintro rfl;have hfree:=I'.free;rcases hcc with rfl|hcc
   rw[show H' s3.heap.objs.size=aC from hfree]at e;cases e;rw[show H' s3.heap.objs.size=aC from hfree]at hcc;cases hcc
  have hos:s'.os=s3.os:=I'.os;exact I3.AV (s':={s' with heap:=h''}) (ch:=fp) hos un hok I'.bare λb hb=>by
   obtain⟨_,a1,a2,a3,a4,a5⟩:=f1 b hb;exact⟨a3,a1,a4,a5⟩
 have loop:∀s4:af,Inv (X.comp (ow++fr) scope s3.heap.objs.size s3 (upd H1 s.heap.objs.size (.lst [])) fp) [] (nC ow fr ix σ) (upd H1 s.heap.objs.size (.lst [])) s4->tn 0 s4.heap->
  codeAny (model X.prog X.w) X.A (.compLoop (.ListComp elt [⟨tg,iter,ifs,0⟩] scope pos) 0 (.ref it) (.ref s.heap.objs.size) (X.comp (ow++fr) scope s3.heap.objs.size s3 (upd H1 s.heap.objs.size (.lst [])) fp).env)
   (RR (.ref s.heap.objs.size) s3.heap.objs.size) s4:=by
  intro s4 I4 Vv;refine Vr (λn s'=>∃i σ' H' ys,Inv (X.comp (ow++fr) scope s3.heap.objs.size s3 (upd H1 s.heap.objs.size (.lst [])) fp) [] σ' H' s'/\tn i s'.heap/\(∀b∈fp,H' b=aC)/\W i n σ' H' ys) ?_ m0 ⟨0,_,_,[],I4,Vv,λb hb=>(f3 b hb).1,w0⟩;rintro n s5 ⟨i,zM,H5,ys,I5,zK,F2,w5⟩;obtain⟨hDl,alt⟩:=turn i n zM H5 ys w5;rcases alt with⟨stop,q⟩|⟨go,step⟩
  .refine bw (T.done (X.comp (ow++fr) scope s3.heap.objs.size s3 (upd H1 s.heap.objs.size (.lst [])) fp) rfl rfl rfl hc i [] s5 zM H5 uX I5 (λb hb=>IT b hb I5.ok (F2 b hb)) zK stop) λr s6 cR=>?_
   obtain⟨hr,I6⟩:=cR;subst hr;obtain⟨m6,Vw,_⟩:=I6.loc;exact fin _ _ H5 s6 m6 (I3.nv (bq _) I6.free) Vw (back I6) q
  refine bw (T.item (X.comp (ow++fr) scope s3.heap.objs.size s3 (upd H1 s.heap.objs.size (.lst [])) fp) rfl rfl rfl hc i [] s5 zM H5 uX I5 (λb hb=>IT b hb I5.ok (F2 b hb)) zK go) λr s6 cR=>?_;obtain⟨u,hr,h6⟩:=cR;subst hr;refine bw h6 λ_ s7 cR=>?_;obtain⟨x,H7,I7,r7,y7,IU,Vx⟩:=cR;have Vy:=I7.pinned (λb hb=>IT b hb I7.ok (Vx b hb)) (T.obj _ _ IU);have again:∀{uY:St}{H8:Hp}{s8:af}{zs:List V}{m':Nat},Inv (X.comp (ow++fr) scope s3.heap.objs.size s3 (upd H1 s.heap.objs.size (.lst [])) fp) ([]++Bb fp s7.heap) uY H8 s8->m'<n->W (i+1) m' uY H8 zs->
   ∃m,m<n/\∃i σ' H' ys,Inv (X.comp (ow++fr) scope s3.heap.objs.size s3 (upd H1 s.heap.objs.size (.lst [])) fp) [] σ' H' s8/\tn i s8.heap/\(∀b∈fp,H' b=aC)/\W i m σ' H' ys:=λ{uY H8 s8 zs m'} I8 hm w8=>by
   refine⟨m',hm,i+1,uY,H8,zs,I8.gw,T.keep _ _ _ IU λb hb o e=>(I8.pin (b,o) (oK _ (oK _ (F1 hb e)))).1,λb hb=>?_,w8⟩;obtain⟨o,e,d⟩:=T.obj _ _ IU b hb;exact(I8.pin (b,o) (oK _ (oK _ (F1 hb e)))).2.1
  refine bw (hg _ _ _ _ _ s7 zM H7 x u _ Vy r7 (step x H7 y7)) λ_ s8 cR=>?_;obtain⟨uY,H8,I8,q8⟩:=cR;refine bw (ht _ _ _ _ _ s8 uY H8 _ I8 q8) λok s9 z9=>z9.el λH9 I9 q9=>?_;cases ok with
  |false=>
   simp only[eT,dg]at q9 ⊢;obtain⟨m',hm,w9⟩:=q9;exact again I9 hm w9
  |true=>
   simp only[bX]at q9 ⊢;refine bw (he _ _ _ _ _ s9 uY H9 _ I9 q9) λy Oj cR=>?_;obtain⟨vy,Ol,Vz,ry,IV,hz,m',hm,VA⟩:=cR;refine bw (N4 _ Oj uY Ol (.ref s.heap.objs.size) [vy] (.ref s.heap.objs.size) [y] (λv H'=>H'=upd Ol s.heap.objs.size (.lst (ys++[vy]))) Vz rfl (.cons ry .nil) ⟨_,ys,vy,rfl,rfl,IV,hz,rfl⟩) λ_ s11 cR=>?_;obtain⟨v11,H11,VB,_,VC⟩:=cR;subst VC;exact again VB hm VA
 have Om:Inv (X.comp (ow++fr) scope s3.heap.objs.size s3 (upd H1 s.heap.objs.size (.lst [])) fp) [] (nC ow fr ix σ) (upd H1 s.heap.objs.size (.lst [])) {s with heap:=h₁,toks:=s.toks}:=by
  rw[<-Oi]at J3 ⊢;exact J3
 exact codeAny_compStart_list (loop _ Om st3) (T.self _ 0 _ _ _ st3 (loop _ Om st3))
theorem BO(S:bW X ow fr ix scope)(hc:X.calm)(hi:PI X tg iter wi)
 (hg:∀C s₀ H₀ ex,PG (X.comp (ow++fr) scope C s₀ H₀ ex) tg g) (ht:∀C s₀ H₀ ex,sG (X.comp (ow++fr) scope C s₀ H₀ ex) ifs tc) (he:∀C s₀ H₀ ex,PE (X.comp (ow++fr) scope C s₀ H₀ ex) elt te)
 (hs:∀x,foldedSetIterable iter X.env x=pure x:=by intro _;rfl):PE X (.ListComp elt [⟨tg,iter,ifs,0⟩] scope pos) (IP X.K (nC ow fr ix) wi g tc te):=by
 intro pins s σ H Q I h;rw[eval_ListComp];refine wpAny_comprehension_free (use:=aC) rfl hs (Oa λy hy e=>I.ok.has _ (S.free y hy e)) S.kind S.names (bw (hi pins s σ H _ I h) λv s1 h1=>bw h1 λitv s2 h2=>?_);exact Oh (RR:=λacc C=>compPost (model X.prog X.w) X.A X.xe aC (EP X pins σ Q) acc C) S hc hg ht he h2 λD C H' s' m _ hn hI q=>⟨m,hn,λh'' xC=>⟨.ref D,H',hI h'' xC,rfl,q⟩⟩
theorem VD{i:Nat}{y:Str}{py spos:Pos}(hN:X.N.Nodup)(VE:X.N[i]?=aB y)(hy:Loc X.env.scope y)(S:bW X ow fr ix scope)(hc:X.calm)(hi:PI X tg iter wi)
 (hg:∀C s₀ H₀ ex,PG (X.comp (ow++fr) scope C s₀ H₀ ex) tg g) (ht:∀C s₀ H₀ ex,sG (X.comp (ow++fr) scope C s₀ H₀ ex) ifs tc) (he:∀C s₀ H₀ ex,PE (X.comp (ow++fr) scope C s₀ H₀ ex) elt te)
 (hsw:autoParam (swapsWith (.ListComp elt [⟨tg,iter,ifs,0⟩] scope pos) (aB (.Name y py)) spos.line X.env=pure true) L2.aR._auto_1)
 (hf:autoParam (X.fn y=true\/X.env.scope.names.lookup y=aB .local) L2.aF._auto_1)
 (hs:∀x,foldedSetIterable iter X.env x=pure x:=by intro _;rfl):PS X (.Assign [.Name y py] (.ListComp elt [⟨tg,iter,ifs,0⟩] scope pos) spos) (xo (IP X.K (nC ow fr ix) wi g tc te) (j7 i)):=by
 intro pins s σ H D I h;rw[exec_Assign_Name_used _ _ _ _ hsw];refine aK (kT (aK ?_));show wpAny _ X.A (do let _ <-comprehension (.ListComp elt [⟨tg,iter,ifs,0⟩] scope pos) scope X.env _ (newList []) false (eval iter X.env) (aB (assign (.Name y py) X.env))) _ _ s;refine aK (iF (wpAny_comprehension_free (use:=aB (assign (.Name y py) X.env)) (Q:=λ_ s'=>SP X pins D .next s') rfl hs (Oa λy hy e=>I.ok.has _ (S.free y hy e)) S.kind S.names
  (bw (hi pins s σ H _ I h) λv s1 h1=>bw h1 λitv s2 h2=>?_)) (λ_ s' hq=>br (br hq)) λ_ _ e=>e)
 refine Oh (Q:=λx H1=>j7 i x σ H1 D.nx) (RR:=λacc C=>compPost (model X.prog X.w) X.A X.xe (aB (assign (.Name y py) X.env)) (λ_ s'=>SP X pins D .next s') acc C) S hc hg ht he h2 λd C H' s' m hC hn hI q=>?_;show wpAny _ X.A (assign (.Name y py) X.env (.ref d)) _ _ _;have I':Inv X pins σ H' s':=by
  have z:=hI s'.heap (.refl ..);exact z
 refine wpAny_assign_Name (Nd I' hN VE hy (v:=.ref d) rfl (λs'' VF ⟨a,xB,ha⟩=>?_) hf);obtain⟨c0,c1,c2,c3,c4,c5⟩:=hC;have VG:C≠a:=by
  rcases ha with rfl|ha;exact c1;exact λz=>c4 _ _ ha z.symm
 refine⟨m,hn.sameBut xB VG,λh'' xC=>⟨_,H',VF.turned (t':=s''.toks) (it:=C) (λb o hb e=>(xC.2 b hb).trans e) c0 c1 c3 c4 c5,q⟩⟩
end
end L2
set_option maxHeartbeats 4000000
namespace XL
open PySem PySem.W PySem.Spec PyProof.Rows
noncomputable def eK:List aa->Bool|[.type a,.type b,.type c,.type d]=>a == "ValueError" && b == "Exception" && c == "BaseException" && d == "object"|.ref _::r=>eK r|_=>false
theorem Oo{n:String}(h:eK (.type n::l)):Value.type n::l=[.type "ValueError",.type "Exception",.type "BaseException",.type "object"]:=by
 unfold eK at h;split at h;rename_i a b c d e;cases e;simp only[aY,jY]at h;obtain⟨⟨⟨rfl,rfl⟩,rfl⟩,rfl⟩:=h;rfl;rename_i e;cases e;cases h
theorem Oq(self:aa):∀{l:List aa},eK l=true->refuseLoop self "__setattr__" l=pure ()|.ref c::r,e=>by rw[refuseLoop_ref];exact Oq self (by unfold eK at e;exact e)|.type n::r,e=>by rw[Oo e];exact PySem.F.store_ValueError.passes self
theorem IW{T:String}(hT:([.type "ValueError",.type "Exception",.type "BaseException",.type "object"]:List aa).contains (.type T)):∀{l:List aa},eK l=true->l.contains (.type T)=true|.ref c::r,e=>by rw[List.contains_cons,IW hT (l:=r) (by unfold eK at e;exact e),Fe]|.type n::r,e=>by rw[Oo e];exact hT
structure ExcK(K:Frag)(C:ah):Prop where
 ov:(clsIn K C).any (λcd=>eK cd.mro)=true
 ga:findIn K (.ref C) "__getattribute__" = aB (aB (.builtin "BaseException.__getattribute__"))
 gt:findIn K (.ref C) "__getattr__" = aB aC
 sa:findIn K (.ref C) "__setattr__" = aB (aB (.builtin "object.__setattr__"))
 hd:hasDictIn K C=true
section
variable{prog:ai}{w:aj}{A:ak}{E:aa->af->Prop}{s:af}{K:Frag}{x C:ah}{ox:Obj}{od:Option Obj}{name:Str}{expr:Bool}
theorem Ot(k:ExcK K C)(X:K.In s.heap)(I:InstAt s.heap x ox C od){T:String}(hT:([.type "ValueError",.type "Exception",.type "BaseException",.type "object"]:List aa).contains (.type T)) :
 Looks (model prog w) s.heap (isInstance (.ref x) (.type T)) true:=by
 obtain⟨cd,hc,ho⟩:=any_some k.ov;have ne:cd.mro.isEmpty=false:=by cases q:cd.mro with|nil=>rw[q]at ho;cases ho|cons _ _=>rfl
 exact I.type.andThen (looks_mroIn X (by unfold mroIn;rw[hc,zz,if_neg (by rw[ne];decide),IW hT ho]))
theorem Ou{R:Result->af->Prop}{tk:Tok}{v:aa}(k:ExcK K C)(X:K.In s.heap)(I:InstAt s.heap x ox C od)(ha:findIn K (.ref C) name=aB aC)
 (h:∀b,wpAny (model prog w) A.in1 (Builtin.ObjectAttr.storeInOwnDict (.ref x) (.ref C) (.str name tk) name v b)
   (λfin s'=>match fin with|.done f=>R (.ok f) s'|.again c'=>c'.quiet=true/\codeAny (model prog w) A c' R s') (λe s'=>R (.error e) s') s) :
 codeAny (model prog w) A (.call (.builtin "object.__setattr__") ⟨[.ref x,.str name tk,v],[]⟩) R s:=by
 have SF:=PySem.F.store_object;obtain⟨cd,hc,ho⟩:=any_some k.ov;refine codeAny_call_builtin SF.slot.plain SF.entry (@check_slot (model prog w) _ _ s "object.__setattr__" "object" "__setattr__" (.ref x) [.str name tk,v] [] _ SF.kind SF.split (Ot k X I (by decide +kernel)) (SF.args (.ref x) (.str name tk) v) ?_);have hm:Looks (model prog w) s.heap (mroOf (.ref C)) cd.mro:=(looks_clsIn X hc).andThen .now;rw[osa_eq,refuse_eq];refine aK (aK (I.type.here (aK (hm.here ?_))));rw[Oq _ ho];refine br (aK (I.type.here (aK ((looks_findIn X ha).here (aK ?_)))));exact br (h _)
theorem o5{v:aa}{vs:Array aa}{sl:Array (Option aa)}{Q:Unit->af->Prop}(k:ExcK K C)(X:K.In s.heap)(ho:s.heap.get? x=aB ⟨.ref C,aC,.fields vs,sl⟩)(ha:findIn K (.ref C) name=aB aC)
 (h:∀h' tk,h'.get? x=aB ⟨.ref C,aB s.heap.objs.size,.fields vs,sl⟩->h'.Ns1 s.heap.objs.size (λy=>if y=name then aB v else aC)->(∀b o,b≠x->s.heap.get? b=aB o->h'.get? b=aB o)->Q () {s with heap:=h',toks:=tk}) :
 wpAny (model prog w) A (setAttr (.ref x) name v) Q E s:=by
 have I:InstAt s.heap x ⟨.ref C,aC,.fields vs,sl⟩ C aC:=⟨ho,rfl,rfl,trivial⟩
 obtain⟨cd,hc,hd'⟩:=any_some k.hd;refine set_plain X I k.sa (Ou (s:={s with toks:=s.toks+1}) k X I ha λb=>?_);refine aK (br (aK (aK (E7 ho (aK (Looks.here (s:={s with toks:=s.toks+1}) (looks_clsIn X hc) ?_))))));rw[hd'];show wpAny (model prog w) A.in1 (do
  let d <-alloc {cls:=Value.type "dict",data:=Data.dict #[]}
  update x λo=>{cls:=o.cls,dict:=aB d,data:=o.data,slots:=o.slots}
  dictMade (.ref C) x d) _ _ _
 have uZ:(s.heap.push {cls:=.type "dict",data:=.dict #[]}).get? x=aB ⟨.ref C,aC,.fields vs,sl⟩:=cu _ ho;have hxs:x≠s.heap.objs.size:=fj (cF ho);refine aK (wpAny_alloc ?_);refine aK (wpAny_update uZ ?_);refine br (a:=aB s.heap.objs.size) ?_;dsimp only;generalize hH:((s.heap.push {cls:=Value.type "dict",data:=Data.dict #[]}).update x λo=>{cls:=o.cls,dict:=aB s.heap.objs.size,data:=o.data,slots:=o.slots})=H1;have hgd:H1.get? s.heap.objs.size=aB {cls:=.type "dict",data:=.dict #[]}:=by
  rw[<-hH];exact(Heap.get?_update_ne _ _ _ _ hxs.symm).trans (Heap.get?_push_at rfl rfl)
 have VI:H1.get? x=aB ⟨.ref C,aB s.heap.objs.size,.fields vs,sl⟩:=by
  rw[<-hH];exact zj _ uZ rfl
 have VJ:∀b o,b≠x->s.heap.get? b=aB o->H1.get? b=aB o:=λb o hb e=>by
  rw[<-hH];exact(Heap.get?_update_ne _ _ _ _ hb).trans (cu _ e)
 have hnd:H1.Ns s.heap.objs.size (λ_=>aC):=⟨_,#[],_,hgd,rfl,λe he=>absurd he (by simp),λ_=>rfl⟩
 show wpAny _ _ (Builtin.ObjectAttr.storeInDict s.heap.objs.size (.str name s.toks) name v) _ _ _;unfold Builtin.ObjectAttr.storeInDict Builtin.ObjectAttr.newKeyGuard;refine aK (br (aK (wpAny_nsSet1 (Heap.Ns1.of_empty hnd) λh' hn' hs=>?_)));obtain⟨oD,esD,NF,Br,Bs,nA⟩:=hn'.count (Within.cons name v Within.nil);refine aK (wpAny_lookBehind Br (by rw[Bs];exact pastItsLine_dict (fS nA (by rw[dh,qY,rS];lia))) ?_);refine br ?_;exact h h' _ ((hs.2 x hxs).trans VI) hn' λb o hb e=>(hs.2 b (fj (cF e))).trans (VJ b o hb e)
theorem o8{v:aa}{vs:Array aa}{sl:Array (Option aa)}{dx:ah}{mA:Str->Option aa}{ns:List Str}{Q:Unit->af->Prop}(k:ExcK K C)(X:K.In s.heap)(ho:s.heap.get? x=aB ⟨.ref C,aB dx,.fields vs,sl⟩)
 (hn:s.heap.Ns1 dx mA) (hw:Within mA ns) (hz:ns.length<=1000) (ha:findIn K (.ref C) name=aB aC)
 (h:∀h' tk,h'.Ns1 dx (λy=>if y=name then aB v else mA y)->Heap.SameBut dx s.heap h'->Q () {s with heap:=h',toks:=tk}) :
 wpAny (model prog w) A (setAttr (.ref x) name v) Q E s:=by
 obtain⟨od,hod,_⟩:=L2.Ik hn;have I:InstAt s.heap x ⟨.ref C,aB dx,.fields vs,sl⟩ C (aB od):=⟨ho,rfl,rfl,hod⟩
 obtain⟨cd,hc,hd'⟩:=any_some k.hd;refine set_plain X I k.sa (Ou (s:={s with toks:=s.toks+1}) k X I ha λb=>?_);refine aK (br (aK (aK (E7 ho (aK (Looks.here (s:={s with toks:=s.toks+1}) (looks_clsIn X hc) ?_))))));rw[hd'];refine br (a:=aB dx) ?_;show wpAny _ _ (Builtin.ObjectAttr.storeInDict dx (.str name s.toks) name v) _ _ _;unfold Builtin.ObjectAttr.storeInDict Builtin.ObjectAttr.newKeyGuard;refine aK (br (aK (wpAny_nsSet1 (s:={s with toks:=s.toks+1}) hn λh' hn' hs=>?_)));obtain⟨oD,esD,NF,Br,Bs,nA⟩:=hn'.count (Within.cons name v hw);refine aK (wpAny_lookBehind Br (by rw[Bs];exact pastItsLine_dict (fS nA (by rw[dh,rS];lia))) ?_);exact br (h h' _ hn' hs)
end
end XL
namespace XL
open PySem PySem.W PySem.Spec PyProof.Rows
noncomputable abbrev Ov:List aa:=[.type "ValueError",.type "Exception",.type "BaseException",.type "object"]
noncomputable abbrev bg(C:ah)(dx:Option ah)(t:ah):Obj:={cls:=.ref C,dict:=dx,data:=.fields #[.ref t,.none,.none,.none,.bool false,.none]}
noncomputable def di(K:Frag)(C:ah):Bool:=match K.lookup C with
 |some ⟨.type "type",_,.cls cd,sl⟩=>(match cd.mro,sl.toList with
  |.ref C'::bm,[_,_,_,_,aB (.builtin n),_]=>C'==C&&n == "ValueError.__new__" && !cd.hasDel&&tailIn K Ov bm
  |_,_=>false)
 |_=>false
theorem cZ{K:Frag}{C:ah}(X:K.In h)(q:di K C) :
 ∃nm qn N bs bm hd sn sub ab col dd k0 k1 k2 k3 k5,h.get? C=aB (excClassObj nm qn C N bs bm hd sn sub ab col dd k0 k1 k2 k3 k5 "ValueError.__new__")/\OwnTail h Ov bm:=by
 unfold di at q;split at q;rename_i dd cd sl ho;split at q;rename_i C' bm k0 k1 k2 k3 n k5 hm hs;simp only[aY,jY,Fc]at q;obtain⟨⟨⟨rfl,rfl⟩,BP⟩,ht⟩:=q;obtain⟨nm,bs,mro,ns,qn,hd,sn,sub,ab,col,del⟩:=cd;dsimp only at hm BP;subst hm BP;have hsl:sl = #[k0,k1,k2,k3,aB (.builtin "ValueError.__new__"),k5]:=by
  obtain⟨l⟩:=sl;simp only at hs;rw[hs]
 subst hsl;exact⟨nm,qn,ns,bs,bm,hd,sn,sub,ab,col,dd,k0,k1,k2,k3,k5,X _ _ ho,tail_of_in X ht⟩;cases q;cases q
section
variable{prog:ai}{w:aj}{A:ak}{s:af}{K:Frag}{C f:ah}{rest:List aa}{R:Result->af->Prop}
theorem nD(X:K.In s.heap)(hc:di K C)(hi:findIn K (.ref C) "__init__" = aB (aB (.ref f)))(hf:typeIn K (.ref f)=aB (.type "function"))(hz:rest.length<=sizeLine)
 (hq:codeAny (model prog w) (A.under (.builtin "type.__call__" ⟨.ref C::rest,[]⟩)) (.call (.ref f) ⟨.ref (s.heap.objs.size+1)::rest,[]⟩) (InitBack (s.heap.objs.size+1) R)
   {s with heap:=(s.heap.push {cls:=.type "tuple",data:=.seq rest.toArray}).push (bg C aC s.heap.objs.size)}) :
 codeAny (model prog w) A (.call (.ref C) ⟨rest,[]⟩) R s:=by
 obtain⟨h,g,d,t,os⟩:=s;obtain⟨nm,qn,N,bs,bm,IX,sn,sub,ab,col,dd,k0,k1,k2,k3,k5,hC,T⟩:=cZ X hc;have F:=PySem.F.excBase_ValueError;have f1:=tc_lookup;have f2:=tc_bind (.ref C);have hT:(⟨h,g,d,t,os⟩:af).TypeIs (.ref C) "type":=⟨_,hC,rfl⟩
 refine codeAny_of_tree ?_;show wpAny _ _ (callAny (.ref C) _) _ _ _
 repeat(any_goals (first|assumption|with_reducible refine qP hC ?_|wp_step))
 refine⟨rfl,?_⟩;refine codeAny_call_builtin_at (FL _ (by decide +kernel)) entry_typeCall (wpAny_check_type_call_sub hC ?_)
 repeat(first|with_reducible refine qP hC ?_|with_reducible refine wpAny_madeBy_exc hC ?_|wp_step)
 refine codeAny_call_builtin_code (FL _ F.quiet) (wpAny_check_new_subT F T hC ?_);refine codeAny_exc_new_subT F T hC ?_ hz;have kk:∀b o,h.get? b=aB o->((h.push {cls:=.type "tuple",data:=.seq rest.toArray}).push (bg C aC h.objs.size)).get? b=aB o:=λb o e=>cu _ (cu _ e);have i1:=(looks_findIn (M:=model prog w) X hi).keeps kk;have b1:=(bind_fn (M:=model prog w) X (.ref (h.objs.size+1)) hf).keeps kk;have zN:=kk _ _ hC;have hget:((h.push {cls:=.type "tuple",data:=.seq rest.toArray}).push (bg C aC h.objs.size)).get? (h.objs.size+1)=aB (bg C aC h.objs.size):=by heap_get
 have hcC:(Value.ref C::bm).contains (.ref C)=true:=by simp
 show wpAny _ _ _ _ _ _;unfold isInstance
 repeat(first|with_reducible refine qP hget ?_|(with_reducible refine vcs zN ?_;rw[hcC])|wp_step)
 have t1:Looks (model prog w) ((h.push {cls:=.type "tuple",data:=.seq rest.toArray}).push (bg C aC h.objs.size)) (typeOf (.ref (h.objs.size+1))) (.ref C):=(Looks.ld hget).andThen .now;refine vcs (h:=(h.push {cls:=.type "tuple",data:=.seq rest.toArray}).push (bg C aC h.objs.size)) zN ?_;rw[hcC];simp only[k9,eT,dg];refine aK (mh ?_);unfold callSpecial? specialOf;refine aK (aK (t1.at (i1.at (mh ?_))));refine aK (b1.at (aK (qS (uI hq λr s' z=>?_))));rcases r with e|(v|_|_|_)<;>first|exact z|exact z.elim|skip
 obtain⟨e,z⟩:=z;subst e;exact br (br z)
theorem nF{Q:aa->af->Prop}{E:aa->af->Prop}(X:K.In s.heap)(hc:di K C)(hi:findIn K (.ref C) "__init__" = aB (aB (.builtin "ValueError.__init__")))(hz:rest.length<=sizeLine)
 (hq:∀h' t,(∀b o,s.heap.get? b=aB o->h'.get? b=aB o)->h'.get? (s.heap.objs.size+1)=aB (bg C aC t)->Q (.ref (s.heap.objs.size+1)) {s with heap:=h'}) :
 wpAny (model prog w) A (call (.ref C) rest) Q E s:=by
 refine qS ?_;obtain⟨h,g,d,t,os⟩:=s;obtain⟨nm,qn,N,bs,bm,IX,sn,sub,ab,col,dd,k0,k1,k2,k3,k5,hC,T⟩:=cZ X hc;have F:=PySem.F.excBase_ValueError;have f1:=tc_lookup;have f2:=tc_bind (.ref C);have hT:(⟨h,g,d,t,os⟩:af).TypeIs (.ref C) "type":=⟨_,hC,rfl⟩
 refine codeAny_of_tree ?_;show wpAny _ _ (callAny (.ref C) _) _ _ _
 repeat(any_goals (first|assumption|with_reducible refine qP hC ?_|wp_step))
 refine⟨rfl,?_⟩;refine codeAny_call_builtin_at (FL _ (by decide +kernel)) entry_typeCall (wpAny_check_type_call_sub hC ?_)
 repeat(first|with_reducible refine qP hC ?_|with_reducible refine wpAny_madeBy_exc hC ?_|wp_step)
 refine codeAny_call_builtin_code (FL _ F.quiet) (wpAny_check_new_subT F T hC ?_);refine codeAny_exc_new_subT F T hC ?_ hz;have kk:∀b o,h.get? b=aB o->((h.push {cls:=.type "tuple",data:=.seq rest.toArray}).push (bg C aC h.objs.size)).get? b=aB o:=λb o e=>cu _ (cu _ e);have i1:=(looks_findIn (M:=model prog w) X hi).keeps kk;have zN:=kk _ _ hC;have hget:((h.push {cls:=.type "tuple",data:=.seq rest.toArray}).push (bg C aC h.objs.size)).get? (h.objs.size+1)=aB (bg C aC h.objs.size):=by heap_get
 have hcC:(Value.ref C::bm).contains (.ref C)=true:=by simp
 show wpAny _ _ _ _ _ _;unfold isInstance
 repeat(first|with_reducible refine qP hget ?_|(with_reducible refine vcs zN ?_;rw[hcC])|wp_step)
 have t1:Looks (model prog w) ((h.push {cls:=.type "tuple",data:=.seq rest.toArray}).push (bg C aC h.objs.size)) (typeOf (.ref (h.objs.size+1))) (.ref C):=(Looks.ld hget).andThen .now;refine vcs (h:=(h.push {cls:=.type "tuple",data:=.seq rest.toArray}).push (bg C aC h.objs.size)) zN ?_;rw[hcC];simp only[k9,eT,dg];refine aK (mh ?_);unfold callSpecial? specialOf;refine aK (aK (t1.at (i1.at (mh ?_))));refine aK (Fb (F.init.bind _) ?_);refine aK (qS (codeAny_call_builtin F.init.plain F.initEntry (wpAny_check_init_subT F (T.keeps kk) zN hget rfl ?_)))
 wp_walk;refine hq _ (h.objs.size+2) (λb o hb=>?_) ?_;rw[wO _ _ (kW (Fg (cF hb)))];exact cu _ (kk b o hb);rw[zj _ (cu _ hget) rfl];simp only[mj];rfl
end
end XL
namespace XL
open PySem PySem.W PySem.Spec PyProof.Rows
structure jE(K:Frag)(C:ah):Prop extends ExcK K C where
 ca:findIn K (.ref C) "__class__" = aB (aB (.builtin "object.__class__"))
 hn:specialIn K (.builtin "object.__class__") "__get__" = aB (aB (.builtin "getset_descriptor.__get__"))
 htk:takesIn K (.builtin "object.__class__")=aB true
section
variable{prog:ai}{w:aj}{A:ak}{E:aa->af->Prop}{s:af}{K:Frag}{x C:ah}{ox:Obj}{od:Option Obj}{name:Str}{expr:Bool}
theorem jE.mro(k:jE K C):mroIn K C (.type "object")=aB true:=by
 obtain⟨cd,hc,ho⟩:=any_some k.ov;have ne:cd.mro.isEmpty=false:=by cases q:cd.mro with|nil=>rw[q]at ho;cases ho|cons _ _=>rfl
 unfold mroIn;rw[hc,zz,if_neg (by rw[ne];decide),IW (by decide +kernel) ho]
theorem VL{Q:Option aa->af->Prop}(k:jE K C)(X:K.In s.heap)(I:InstAt s.heap x ox C od)(h:Q (aB (.ref C)) {s with toks:=s.toks+1}):wpAny (model prog w) A (getAttr? (.ref x) "__class__") Q E s:=by
 have hf:findObj K C od "__class__" = aB (.bind (.builtin "getset_descriptor.__get__") (.builtin "object.__class__")):=by
  obtain⟨cd,hc,_⟩:=any_some k.hd;unfold findObj;rw[hc,zz,k.ca,zz];simp only[k.hn,k.htk,zz]
 have S:=Ot (prog:=prog) (w:=w) k.toExcK X I (T:="BaseException") (by decide +kernel);obtain⟨h0,g,d,t,os⟩:=s;have L0:=I.type (M:=model prog w);have L1:=looks_findIn (M:=model prog w) X k.ga;have L2:=looks_findIn (M:=model prog w) X k.gt;have L3:=looks_find (M:=model prog w) X I hf;have VM:(onTheHeap (Value.ref C)&&Value.builtin "BaseException.__getattribute__" == Value.builtin "object.__getattribute__")=false:=by
  rw[show(Value.builtin "BaseException.__getattribute__" == Value.builtin "object.__getattribute__")=false from by decide +kernel];rfl
 unfold getAttr?;refine aK (wpAny_mkText ?_);unfold getAttrBy?;refine aK (E8 ?_);unfold getAttrBy;refine mh (aK (L0.at (aK (L1.at ?_))));dsimp only;rw[VM];simp only[eT,dg];unfold getAttrByItsOwn hookBefore;refine aK ?_;rw[if_pos (show onTheHeap (Value.ref C)=true from rfl)];refine L2.at ?_;refine aK (E8 (mh ?_));unfold callGetattribute;simp only[qV,eT,dg];unfold boundAndCalled;rw[PySem.F.excAttr_ValueError.ga.bind (.ref x)];refine aK (br ?_);show wpAny (model prog w) A (call (.builtin "BaseException.__getattribute__") [.ref x,.str "__class__" t]) _ _ _;have hk:builtinKind "BaseException.__getattribute__" = aB .slot:=by decide +kernel
 have j9:splitId "BaseException.__getattribute__" = aB ("BaseException","__getattribute__"):=by decide +kernel
 refine qS (codeAny_call_builtin PySem.F.excAttr_ValueError.ga.plain PySem.F.entry_bexc_ga ?_);refine @check_slot (model prog w) _ _ ⟨h0,g,d,t+1,os⟩ "BaseException.__getattribute__" "BaseException" "__getattribute__" (.ref x) [.str "__class__" t] [] _ hk j9 S (PySem.F.args_bexc_ga _ _) ?_;unfold Builtin.«object.__getattribute__»;refine aK (Fb (a:=(Value.ref x,[Value.str "__class__" t])) rfl ?_);dsimp only;refine aK (Fb (a:=("__class__" : Str)) rfl ?_);refine aK (L0.at (aK (L3.at ?_)));dsimp only;show wpAny _ _ (holding [.builtin "object.__class__"] (call (.builtin "getset_descriptor.__get__") [.builtin "object.__class__",.ref x,.ref C]) >>= ret) _ _ _;refine aK (mh (qS (class_get (s:=⟨h0,g,d,t+1,os⟩) (ox:=ox) (od:=od) X I k.mro ?_)));dsimp only;refine br ?_;dsimp only;exact handed_on rfl (br h)
theorem o9(k:jE K C):KitX K (.ref x) (.ref C) (λh=>InstAt h x ox C od)where
 ty:=λ_ _ _ I=>I.type
 it:=λ_ _ X _=>by
  obtain⟨cdD,nA,_⟩:=any_some k.hd;unfold clsIn at nA;split at nA;rename_i c' d' VN HF ho;intro A' Q' E' s' kk q;unfold isType loadHead;exact aK (E7 (kk _ _ (X _ _ ho)) (br q));cases nA
 ne:=λh tp dd its n sl X htp=>by
  obtain⟨cdD,nA,_⟩:=any_some k.hd;refine Bool.eq_false_iff.mpr λq=>?_;have e:C=tp:=Value.ref.inj (jY.mp q);subst e;unfold clsIn at nA;split at nA;rename_i c' d' VN HF ho;have z:=(X _ _ ho).symm.trans htp;cases z;cases nA
 ca:=λX I q=>VL k X I q
end
end XL
namespace L2
open PySem PySem.Spec PyProof.Rows
noncomputable def iz(C:ah)(dx:Option ah)(a:ah):HO:=.ext λh=>∃t,h.get? a=aB (XL.bg C dx t)
noncomputable def rD(fs:List (Str×V))(dx:ah):HO:=.ext λh=>∃mA,h.Ns1 dx mA/\(∀f,eG (fs.lookup f) (mA f))/\PySem.Within mA (fs.map (·.1))/\fs.length<=1000
section
variable{P:ai}{w:aj}{H:Hp}{h:az}{a C dx:ah}{o:Option ah}{t:ah}{fs:List (Str×V)}
theorem Ow(e:h.get? a=aB (XL.bg C o t)):bx P w H h a (iz C o a):=⟨⟨t,e⟩,⟨_,e⟩,λ_ _ ⟨t',q⟩ k=>⟨t',k _ q⟩⟩
theorem IY(ok:eF P w H h)(e:H a=aB (iz C o a)):∃t,h.get? a=aB (XL.bg C o t):=(ok a _ e).1
theorem Ox{mA:Str->Option aa}(n:h.Ns1 dx mA)(r:∀f,eG (fs.lookup f) (mA f))(wi:PySem.Within mA (fs.map (·.1)))(l:fs.length<=1000):bx P w H h dx (rD fs dx):=by
 refine⟨⟨mA,n,r,wi,l⟩,let⟨o,_,_,e,_⟩:=n;⟨o,e⟩,?_⟩;rintro h1 h2 ⟨m,n1,r1,w1,l1⟩ k;exact⟨m,n1.at λo q=>k o q,r1,w1,l1⟩
theorem Oz(ok:eF P w H h)(e:H dx=aB (rD fs dx)):∃mA,h.Ns1 dx mA/\(∀f,eG (fs.lookup f) (mA f))/\PySem.Within mA (fs.map (·.1))/\fs.length<=1000:=(ok dx _ e).1
end
section
variable{X:Cx}{CX:nB}{k:Nat}{f C:ah}{fd:au}{ps:List Str}{sp:Sp}{E:XK}{x:Str}{p pos:Pos}{e:ao}{es:List ao}{t:TA}
structure IZ(K:aI)(C:ah):Prop where
 cls:XL.di K C=true
 init:PySem.W.findIn K (.ref C) "__init__" = aB (aB (.builtin "ValueError.__init__"))
 kp:PySem.W.keepIn K (.ref C)=true
structure I0(K:aI)(C f:ah):Prop where
 cls:XL.di K C=true
 init:PySem.W.findIn K (.ref C) "__init__" = aB (aB (.ref f))
 fn:PySem.W.isFn K (.ref f)=true
 kp:PySem.W.keepIn K (.ref C)=true
end
section
variable{X:Cx}{o e value:ao}{f:Str}{pos pos':Pos}{ta tv:TE}
noncomputable def BQ(K:aI)(ta tv:TE)(f:Str):TS:=λD σ H=>tv σ H λy H1=>ta σ H1 λx H2=>∃a C,x=.ref a/\XL.ExcK K C/\rq K C f/\
 ((H2 a=aB (iz C aC a)/\∀dx,H2 dx=aC->D.nx σ (upd (upd H2 dx (rD [(f,y)] dx)) a (iz C (aB dx) a)))\/
  ∃dx fs,H2 a=aB (iz C (aB dx) a)/\H2 dx=aB (rD fs dx)/\fs.length<1000/\D.nx σ (upd H2 dx (rD (cV f y fs) dx)))
theorem OA(ha:PE X o ta)(hv:PE X value tv)(hs:swapsWith value (aB (.Attribute o f pos')) pos.line X.env=pure false):PS X (.Assign [.Attribute o f pos'] value pos) (BQ X.K ta tv f):=by
 intro pins s σ H D I h;refine plainObj_wpAny_Assign_Attribute (bw (hv pins s σ H _ I h) λu s1 z9=>z9.el λy H1 I1 ry q=>bw (ha pins s1 σ H1 _ I1 q) λov s2 z9=>z9.el λx H2 I2 rx ⟨a,C,ex,kk,n,alt⟩=>?_) hs;subst ex;obtain rfl:ov=Value.ref a:=rx;rcases alt with⟨ea,q2⟩|⟨dx,fs,ea,ed,hl,q2⟩
 obtain⟨t,ht⟩:=IY I2.hok ea;refine XL.o5 kk I2.dM ht n λh' tk hx hn kp=>⟨σ,_,?_,q2 s2.heap.objs.size (I2.hok.fresh (bq _))⟩
 have hne:a≠s2.heap.objs.size:=fj (cF ht);have hself:(h'.update a λ_=>XL.bg C aC t).get? a=aB (XL.bg C aC t):=zj _ hx rfl;have lI:∀b,b≠a->(h'.update a λ_=>XL.bg C aC t).get? b=h'.get? b:=λb hb=>Heap.get?_update_ne _ _ _ _ hb;have hn1:(h'.update a λ_=>XL.bg C aC t).Ns1 s2.heap.objs.size (λg=>if g=f then aB u else aC):=hn.at λo q=>(lI _ (dU hne)).trans q;have I3:=I2.laid (h':=h'.update a λ_=>XL.bg C aC t) (t':=tk) (o:=rD [(f,y)] s2.heap.objs.size) (λb q z=>by
  by_cases hb:b=a;subst hb;rw[ht]at z;cases z;exact hself;exact(lI b hb).trans (kp b q hb z)) (bq _) (Ox hn1 (λg=>by
  show eG (List.lookup g [(f,y)]) (if g=f then aB u else aC);by_cases q:g=f;subst q;simp only[ig,beq_self_eq_true,bX];exact ry;have q':(g==f)=false:=by simpa using q
  simp only[ig,q',List.lookup_nil,q,dg];trivial) (λg hg=>by
  by_cases q:g=f;simp[q];exact absurd (if_neg q) hg) (by simp))
 exact I3.write (h':=h') (t':=tk) (x:=a) (e:=a) (by rw[bR hne,ea];exact True.intro) (.inl rfl) (λb q hb z=>(lI b hb).symm.trans z) ⟨_,hx⟩ (Ow hx);obtain⟨t,ht⟩:=IY I2.hok ea;obtain⟨mA,n1,r1,w1,l1⟩:=Oz I2.hok ed;refine XL.o8 kk I2.dM ht n1 w1 (by rw[bV];exact l1) n λh' tk hn hs'=>⟨σ,_,?_,q2⟩
 refine I2.write (x:=dx) (e:=dx) (by rw[ed];exact True.intro) (.inl rfl) (λb q hb z=>(hs'.2 b hb).trans z) (let⟨o,_,_,e',_⟩:=hn;⟨o,e'⟩) (Ox hn (λg=>?_) (λg hg=>?_) ?_);show eG ((cV f y fs).lookup g) (if g=f then aB u else mA g);rw[Il];by_cases q:g=f;rw[if_pos q,if_pos q];exact ry;rw[if_neg q,if_neg q];exact r1 g;by_cases q:g=f;rw[q];exact(Bt f y fs).1;refine(Bt f y fs).2 g (w1 g λz=>hg ?_);show(if g=f then aB u else mA g)=aC;rw[if_neg q];exact z;have:=Im f y fs;lia
noncomputable def pq:V->Option aa|.ty n=>aB (.type n)|.ref a=>aB (.ref a)|_=>aC
end
mutual
inductive Rp(K:aI)(M:ah->Prop)(H:Hp):V->aA->Prop
 |aG:Rp K M H .aG .none
 |bl (b:Bool):Rp K M H (.bl b) (.bool b)
 |int (i:Int):Rp K M H (.int i) (.int i)
 |str (x:Str):Rp K M H (.str x) (.str x)
 |tup {a:ah} {xs:List V} {ds:List aA}:cD K H a xs->¬M a->kY K M H xs ds->Rp K M H (.ref a) (.tuple ds)
 |lst {a:ah} {xs:List V} {ds:List aA}:cM K H a xs->¬M a->kY K M H xs ds->Rp K M H (.ref a) (.list ds)
inductive kY(K:aI)(M:ah->Prop)(H:Hp):List V->List aA->Prop
 |nil:kY K M H [] []
 |cons {x:V} {d:aA} {xs:List V} {ds:List aA}:Rp K M H x d->kY K M H xs ds->kY K M H (x::xs) (d::ds)
end
section
variable{X:Cx}{pins:List (ah×Obj)}{σ:St}{H:Hp}{s:af}{M:ah->Prop}
mutual
theorem Rp.reads(I:Inv X pins σ H s):∀{x:V} {d:aA} {u:aa},Rp X.K M H x d->RelV x u->∃as,Reads s.heap u d as
 |_,_,_,.aG,r=>by cases r;exact⟨_,.none⟩
 |_,_,_,.bl b,r=>by cases r;exact⟨_,.bool b⟩
 |_,_,_,.int i,r=>by obtain⟨t,rfl⟩:=r;exact⟨_,.int i t⟩
 |_,_,_,.str x,r=>by obtain⟨t,rfl⟩:=r;exact⟨_,.str x t⟩
 |_,_,_,.tup h n rr,r=>by
  cases r;obtain⟨its,rv,p,_⟩:=I.tuple h;obtain⟨o,ho,hc,m,hd⟩:=p;obtain⟨as,ra⟩:=kY.reads I rr rv;exact⟨_,.tuple ho hc hd (by simpa using ra)⟩
 |_,_,_,.lst h n rr,r=>by
  cases r;obtain⟨its,rv,p,_⟩:=I.list h;obtain⟨o,m,ho,hc,_,hd⟩:=p;obtain⟨as,ra⟩:=kY.reads I rr rv;exact⟨_,.list ho hc hd (by simpa using ra)⟩
theorem kY.reads(I:Inv X pins σ H s):∀{xs:List V} {ds:List aA} {us:List aa},kY X.K M H xs ds->Vals xs us->∃as,ReadsAll s.heap us ds as
 |_,_,_,.nil,.nil=>⟨_,.nil⟩
 |_,_,_,.cons r t,.cons q v=>by
  obtain⟨as,h1⟩:=Rp.reads I r q;obtain⟨bs,h2⟩:=kY.reads I t v;exact⟨_,.cons h1 h2⟩
end
noncomputable def BR(K:aI):R2:=λx y H Q=>∃d e,Rp K (λ_=>False) H x d/\Rp K (λ_=>False) H y e/\SeqAt.shaped d=true/\SeqAt.shaped e=true/\Q (.bl (PyData.eqv d e)) H
noncomputable def BS(K:aI):R2:=λx y H Q=>∃d e,Rp K (λ_=>False) H x d/\Rp K (λ_=>False) H y e/\SeqAt.shaped d=true/\SeqAt.shaped e=true/\Q (.bl (!PyData.eqv d e)) H
theorem VP(hu:X.A.units+64<cLine):dN X (compareOp .Eq) (BR X.K):=by
 intro pins s σ H x y v u Q I rx ry h;obtain⟨d,e,r1,r2,s1,s2,q⟩:=h;obtain⟨as,ra⟩:=r1.reads I rx;obtain⟨bs,rb⟩:=r2.reads I ry;exact PyProof.Rows.eq_dataH ra rb s1 s2 hu ⟨.bl _,H,I,rfl,q⟩
theorem VQ(hu:X.A.units+64<cLine):dN X (compareOp .NotEq) (BS X.K):=by
 intro pins s σ H x y v u Q I rx ry h;obtain⟨d,e,r1,r2,s1,s2,q⟩:=h;obtain⟨as,ra⟩:=r1.reads I rx;obtain⟨bs,rb⟩:=r2.reads I ry;exact PyProof.Rows.ne_dataH ra rb s1 s2 hu ⟨.bl _,H,I,rfl,q⟩
end
section
variable{prog:ai}{w:aj}{A:ak}{E:aa->af->Prop}{s:af}
theorem OB{I t:ah}{k:Nat}{its:Array aa}{Q:aa->af->Prop}(hi:s.heap.IsTupleIter I t k)(ht:s.heap.IsTuple t its)(hy:its[k]?=aB y)
 (q:∀g,g.IsTupleIter I t (k+1)->Heap.SameBut I s.heap g->Q y {s with heap:=g}):wpAny (model prog w) A (Builtin.SmallTypes.nextOf (.ref I)) Q E s:=by
 obtain⟨oi,e1,e2,e3⟩:=id hi;obtain⟨ot,e4,_,kt,e5⟩:=ht;unfold Builtin.SmallTypes.nextOf;refine aK (zc (name:=Str.ofString "__next__") hi.typeIs FD (rR FD hi.typeIs F.entry_tuple_iterator_next ?_ (F.args_tuple_iterator_next_1 _)));show wpAny _ _ (field (.ref I) 0 >>= _) _ _ s;refine aK (jy e1 e3 (x:=.ref t) rfl ?_);show wpAny _ _ (if(Value.ref t==Value.none)=true then _ else _) _ _ s;rw[if_neg (show ¬((Value.ref t==Value.none)=true)from λz=>nomatch z)];show wpAny _ _ (field (.ref I) 1 >>= _) _ _ s;refine aK (jy e1 e3 (x:=.int k 0) rfl ?_);show wpAny _ _ (seqItems? (.ref t) >>= _) _ _ s;refine aK (qQ e4 e5 ?_);simp only[rj,hy];refine aK (AA e1 e3 (by simp) (br ⟨y,rfl,br (q _ ?_ (Heap.SameBut.update ..))⟩));refine⟨_,zj _ e1 (Obj.isFreed_of_fields (Obj.data_mapFields e3 _)),(Obj.cls_mapFields ..).trans e2,?_⟩;rw[Obj.data_mapFields e3];simp[rawInt]
theorem Ja{I t:ah}{k:Nat}{its:Array aa}{Q:aa->af->Prop}(hA:A.handled=aC)(hi:s.heap.IsTupleIter I t k)(ht:s.heap.IsTuple t its)(hy:its[k]?=aC)
 (q:∀g e,Heap.ExtBut I s.heap g->(∃o,g.get? e=aB o/\o.cls=.type "StopIteration")->E (.ref e) {s with heap:=g}):wpAny (model prog w) A (Builtin.SmallTypes.nextOf (.ref I)) Q E s:=by
 obtain⟨oi,e1,e2,e3⟩:=id hi;obtain⟨ot,e4,_,kt,e5⟩:=ht;unfold Builtin.SmallTypes.nextOf;refine aK (zc (name:=Str.ofString "__next__") hi.typeIs FD (rR FD hi.typeIs F.entry_tuple_iterator_next ?_ (F.args_tuple_iterator_next_1 _)));show wpAny _ _ (field (.ref I) 0 >>= _) _ _ s;refine aK (jy e1 e3 (x:=.ref t) rfl ?_);show wpAny _ _ (if(Value.ref t==Value.none)=true then _ else _) _ _ s;rw[if_neg (show ¬((Value.ref t==Value.none)=true)from λz=>nomatch z)];show wpAny _ _ (field (.ref I) 1 >>= _) _ _ s;refine aK (jy e1 e3 (x:=.int k 0) rfl ?_);show wpAny _ _ (seqItems? (.ref t) >>= _) _ _ s;refine aK (qQ e4 e5 ?_);simp only[rj,hy];refine aK (zh (aK (AA e1 e3 (by simp) ?_)));show wpAny _ _ (newExc (.type "StopIteration") [] >>= _) _ _ _;refine aK ?_;simp only[newExc,newTuple];refine aK (uH ?_ (by size_fits));refine aK (m:=firstArgMember _ _) (Fb (a:=Value.none) (by first|rfl|(simp only[firstArgMember];rfl)) ?_);refine uH ?_ (by size_fits);simp only[raiseNew];refine aK (wpAny_handled ?_);first|rw[show A.in1.handled=aC from hA]|rw[hA]
 refine aK (br (wpAny_throw ?_));exact q _ _ (((Heap.SameBut.update ..).extBut.push _).push _) ⟨_,i6 _ rfl,rfl⟩
end
theorem OC{h h':az}{a:ah}{its:Array aa}(x:h.IsTuple a its)(e:∀o,h.get? a=aB o->h'.get? a=aB o):h'.IsTuple a its:=let⟨o,ho,r⟩:=x;⟨o,e _ ho,r⟩
theorem VR{prog:ai}{w:aj}{A:ak}(hA:A.handled=aC)(I t:ah)(hne:t≠I)(its:Array aa) :
 Draws prog w A I [I,t] its.size (λi v=>its[i]?=aB v) (λi h=>h.IsTupleIter I t i/\h.IsTuple t its)where
 live:=λ_ _ st=>let⟨o,ho,_⟩:=st.1;⟨o,ho⟩
 frame:=λ_ _ _ st hk=>⟨st.1.at λo e=>hk I (by simp) o e,OC st.2 λo e=>hk t (by simp) o e⟩
 item:=λi s Q E hi st q=>OB st.1 st.2 (y:=its[i]) (by simp[hi]) λg a b=>q _ g s.toks (by simp[hi]) ⟨a,st.2.extBut b.extBut hne⟩ b
 done:=λs Q E st q=>Ja hA st.1 st.2 (by simp) q
theorem VS(l:ah)(its:Array aa)(n:Nat)(dc:Option ah)(sl:Array (Option aa)) :
 Meets (Builtin.«enumerate.__new__» ⟨[.type "enumerate",.ref l],[]⟩) (λ_ R s=>s.heap.get? l=aB {cls:=.type "tuple",dict:=dc,data:=.seq its n,slots:=sl}/\
  R (.ok (.ret (.ref (s.heap.push {cls:=.type "tuple_iterator",data:=.fields #[.ref l,.int 0 0]}).objs.size)))
   {s with heap:=(s.heap.push {cls:=.type "tuple_iterator",data:=.fields #[.ref l,.int 0 0]}).push {cls:=.type "enumerate",data:=.fields #[.none,.bool false,.ref s.heap.objs.size,rawInt 0,.none,.none]}}):=
 .of_wp λprog w A R s h=>by
  obtain⟨hp,g,d,tk,os⟩:=s;obtain⟨e,h⟩:=h;have hsub:=sub_enumerate;have hT:Heap.IsTuple (Shared.heap ⟨hp,g,d,tk,os⟩) l its:=⟨_,e,rfl,n,rfl⟩
  wp_walk using oM e;refine wpAny_stack_any λst=>br ?_;split;rename_i c _ _ _ _ _;cases(c==Value.type "enumerate")<;> (wp_walk using oM e,wL hT;exact⟨_,rfl,h⟩)
  .wp_walk using oM e,wL hT
   exact⟨_,rfl,h⟩
theorem VT{prog:ai}{w:aj}{A:ak}{E:aa->af->Prop}{l:ah}{its:Array aa}{Q:aa->af->Prop}(hL:s.heap.IsTuple l its)
 (h:∀g,IsEnum g (s.heap.objs.size+1) s.heap.objs.size 0 .none->g.IsTupleIter s.heap.objs.size l 0->g.objs.size=s.heap.objs.size+2->(∀b o,s.heap.get? b=aB o->g.get? b=aB o)->Q (.ref (s.heap.objs.size+1)) {s with heap:=g}) :
 wpAny (model prog w) A (call (.type "enumerate") [.ref l]) Q E s:=by
 obtain⟨⟨c,dc,dt,sl⟩,e1,e2,n,e3⟩:=hL
 replace e2:c=.type "tuple":=e2
 replace e3:dt=.seq its n:=e3;subst e2 e3;refine callType_new F.called_enumerate (by decide) (F.typeCall_enumerate_1 _) (F.newCall_enumerate_1 _) (λobj=>F.args_object_init_2 obj _) F.entry_enumerate_new (VS l its n dc sl) ⟨e1,?_⟩;have hz:(s.heap.push {cls:=.type "tuple_iterator",data:=.fields #[.ref l,.int 0 0]}).objs.size=s.heap.objs.size+1:=mj ..;show _/\_;rw[hz];have he:IsEnum ((s.heap.push {cls:=.type "tuple_iterator",data:=.fields #[.ref l,.int 0 0]}).push {cls:=.type "enumerate",data:=.fields #[.none,.bool false,.ref s.heap.objs.size,rawInt 0,.none,.none]}) (s.heap.objs.size+1) s.heap.objs.size 0 .none:=by
  rw[<-hz];exact i6 _ rfl
 exact⟨⟨_,he,rfl⟩,h _ he ⟨_,cu _ (i6 _ rfl),rfl,rfl⟩ (by rw[mj,hz]) λb o x=>cu _ (cu _ x)⟩
noncomputable def xD(K:aI)(a:ah):It:=
 ⟨λi H=>∃xs x,cD K H a xs/\xs[i]?=aB x,λi H x H'=>∃T v,x=.ref T/\H T=aC/\H'=upd H T (.tup [.int i,v])/\∀xs,cD K H a xs->xs[i]?=aB v,λi H=>∃xs,cD K H a xs/\xs.length<=i⟩
theorem VU{P:ai}{w:aj}{K:aI}{elts:List ao}{kx:Nat}{tp:Pos}(a e it:ah)(hei:e≠it)(VW:a≠e)(hai:a≠it) :
 Turn P w K (.Tuple elts kx tp) (xD K a) [e,it] e (λi h=>(∃old,IsEnum h e it i old)/\h.IsTupleIter it a i)where
 mem:=by simp
 obj:=λi h st b hb=>by
  obtain⟨⟨old,he⟩,o,ho,hc,hd⟩:=st;rcases gq.mp hb with rfl|hb;exact⟨_,he,λv z=>by
   have z':Data.fields _=Data.cell v:=z;cases z'⟩
  have e':b=it:=by simpa using hb
  subst e';exact⟨o,ho,λv z=>by rw[hd]at z;cases z⟩
 keep:=λi h h' st k=>by
  obtain⟨⟨old,he⟩,st⟩:=st;exact⟨⟨old,k e (by simp) _ he⟩,st.at λo q=>k it (by simp) o q⟩
 item:=by
  intro X hP hw hK hc i pins s σ H E I hf st hg;subst hP hw hK;obtain⟨xs,x,hq,hx⟩:=hg;obtain⟨⟨old,he⟩,st⟩:=st;obtain⟨its,rv,p,hz⟩:=I.tuple hq;obtain⟨u,hu,ru⟩:=rv.get hx;have hd:X.A.in1.handled=aC:=I.ok.hd hc;have p:s.heap.IsTuple a its.toArray:=p;refine wpAny_pyNext_enum_itemD (VR hd it a hai its.toArray) he ⟨st,p⟩ (by
   have:i<its.length:=by
    rw[<-rv.length];exact(jR.mp hx).1
   simpa using this) hei (by simp[hei,dU VW]) λx' h1 tk hx' ho hit hT hsz hk=>?_
  obtain rfl:u=x':=by
   have:its[i]?=aB x':=by simpa using hx'
   rw[hu]at this;cases this;rfl
  refine⟨_,rfl,wpAny_letOwnedTupleGo_enum ho λh2 VX hs2=>?_⟩;have mF:H s.heap.objs.size=aC:=I.hok.fresh (bq _);have OD:s.heap.objs.size≠e:=kW (cF he);have VY:s.heap.objs.size≠it:=by
   obtain⟨o,q,_⟩:=st;exact kW (cF q)
  have hs2:Heap.SameBut e h1 h2:=hs2;have kk:∀b o,b≠e->b≠it->s.heap.get? b=aB o->h2.get? b=aB o:=λb o h1 h2 q=>(hs2.2 b h1).trans (hk b o h1 h2 q);have f0:=λb hb=>(hf b hb).1;have nE:∀b o,H b=aB o->b≠e/\b≠it:=λb o q=>⟨λz=>(by rw[z,f0 e (by simp)]at q;cases q),λz=>(by rw[z,f0 it (by simp)]at q;cases q)⟩
  have hT2:h2.get? s.heap.objs.size=aB {cls:=.type "tuple",data:=.seq #[.int i tk,u]}:=(hs2.2 _ OD).trans hT;have I2:Inv X pins σ (upd H s.heap.objs.size (.tup [.int i,x])) {s with heap:=h2,gens:=s.gens,drawn:=s.drawn,toks:=tk+1}:=by
   refine I.step (ch:=[e,it]) (λb hb=>?_) (λb o _ _ hc e1 _=>kk b o (λz=>hc (by simp[z])) (λz=>hc (by simp[z])) e1) (λb o _ _ hc e1 _=>⟨o.slots,kk b o (λz=>hc (by simp[z])) (λz=>hc (by simp[z])) e1⟩)
    (λb o hc e1 n=>by rw[bR (fj (cF e1))];exact n) (λb o hc e1=>⟨o,kk b o (λz=>hc (by simp[z])) (λz=>hc (by simp[z])) e1⟩)
    (λb ys q=>by rw[bR (ir q mF)];exact q) (λb o u q=>by rw[bR (ir q mF)];exact q) (λb ps q=>⟨#[],by rw[bR (ir q mF),q];simp⟩) (λm hm=>?_) (λb ob q=>?_) I.bare
   obtain⟨_,a1,a2,a3,a4,a5⟩:=hf b hb;exact⟨a3,a1,a4,a5⟩;obtain⟨o,es,ep,ho',r⟩:=hm;exact⟨o,es,ep,kk _ o (dU (hf e (by simp)).2.1) (dU (hf it (by simp)).2.1) ho',r⟩;by_cases hb:b=s.heap.objs.size;subst hb;rw[eV]at q;cases q;exact⟨by show 2<=sizeLine;decide,[.int i tk,u],.cons ⟨_,rfl⟩ (.cons ru .nil),⟨_,hT2,rfl,⟨_,rfl⟩,rfl⟩⟩;rw[bR hb]at q;refine(I.hok b ob q).stay (λc v hc z=>kk c v ?_ ?_ z) (λc z=>by rw[bR (ir z mF)];exact z) λc ys z=>by rw[bR (ir z mF)];exact z
   rcases hc with rfl|hc;exact(nE c ob q).1;exact(nE c _ hc).1;rcases hc with rfl|hc;exact(nE c ob q).2;exact(nE c _ hc).2
  refine⟨.ref s.heap.objs.size,_,I2,rfl,⟨_,x,rfl,mF,rfl,λys hy=>by rw[I.gJ hy hq];exact hx⟩,⟨⟨u,by simpa using VX⟩,hit.1.at λo q=>(hs2.2 it (dU hei)).trans q⟩,λb hb=>?_⟩;rw[bR ?_];exact f0 b hb;rcases gq.mp hb with rfl|hb
  exact dU OD;have e':b=it:=by simpa using hb
  subst e';exact dU VY
 done:=by
  intro X hP hw hK hc i pins s σ H E I hf st hg;subst hP hw hK;obtain⟨xs,hq,hx⟩:=hg;obtain⟨⟨old,he⟩,st⟩:=st;obtain⟨its,rv,p,hz⟩:=I.tuple hq;obtain⟨f0,f1,f2,f3,f4,f5⟩:=hf it (by simp);have hl:=rv.length;have hd:X.A.in1.handled=aC:=I.ok.hd hc;have p:s.heap.IsTuple a its.toArray:=p;refine PySem.wpAny_pyNext_enum_endD (n:=0) (P:=λ_ _=>True) (St:=λ_ h=>h.IsTupleIter it a i/\h.IsTuple a its.toArray) (fp:=[it,a]) ⟨?_,?_,?_,?_⟩ he ⟨st,p⟩ λh' eb=>⟨rfl,I.turned (t':=s.toks) (λb o hb q=>eb b o hb q) f0 f1 f3 f4 f5⟩
  exact λ_ _ st=>let⟨o,ho,_⟩:=st.1;⟨o,ho⟩;exact λ_ _ _ st hk=>⟨st.1.at λo e=>hk it (by simp) o e,OC st.2 λo e=>hk a (by simp) o e⟩
  exact λj s' Q' E' hj=>absurd hj (Nat.not_lt_zero _);exact λs' Q' E' st' q'=>Ja hd st'.1 st'.2 (by simp;lia) q'
 self:=λ_ _ _ _ _ st h=>by
  obtain⟨⟨old,he⟩,_⟩:=st;exact wpAny_pyIter_enum he h
section
variable{κ:Type}[DecidableEq κ]
noncomputable def iL(kvs:List (κ×V))(k:κ):Option V:=(kvs.find? λkv=>decide (kv.1=k)).map (·.2)
noncomputable def putK(kvs:List (κ×V))(k:κ)(v:V):List (κ×V):=
 if(kvs.any λkv=>decide (kv.1=k))=true then kvs.map (λkv=>if kv.1=k then(kv.1,v)else kv)else kvs++[(k,v)]
theorem Jb{p:κ×V}{r:List (κ×V)}{k:κ}(e:p.1=k):iL (p::r) k=aB p.2:=by simp[iL,lq,e]
theorem Ga{p:κ×V}{r:List (κ×V)}{k:κ}(e:¬p.1=k):iL (p::r) k=iL r k:=by simp[iL,lq,e]
theorem VZ(kvs:List (κ×V))(k:κ)(v:V):(putK kvs k v).length<=kvs.length+1:=by
 unfold putK;split;rw[bV];lia;rw[gh,dh,qY];lia
theorem KV.val{kvs:List (κ×V)}{vs:List (κ×aa)}(r:KV kvs vs)(k:κ):eG (iL kvs k) (valueAt vs k):=by
 unfold KV at r;induction r with
 |nil=>exact True.intro
 | @cons p q ps qs h t ih=>
  obtain⟨h1,h2⟩:=h;by_cases e:p.1=k;have e':q.1=k:=h1.symm.trans e;have b:valueAt (q::qs) k=aB q.2:=by simp[valueAt,lq,e']
  rw[Jb e,b];exact h2;have e':¬q.1=k:=λz=>e (h1.trans z);have b:valueAt (q::qs) k=valueAt qs k:=by simp[valueAt,lq,e']
  rw[Ga e,b];exact ih
theorem KV.any{kvs:List (κ×V)}{vs:List (κ×aa)}(r:KV kvs vs)(k:κ):(kvs.any λkv=>decide (kv.1=k))=vs.any λkv=>decide (kv.1=k):=by
 unfold KV at r;induction r with|nil=>rfl|cons h t ih=>rw[Ft,Ft,ih,h.1]
theorem KV.repl{kvs:List (κ×V)}{vs:List (κ×aa)}(r:KV kvs vs)(k:κ)(ry:RelV y u) :
 KV (kvs.map λkv=>if kv.1=k then(kv.1,y)else kv) (vs.map λkv=>if kv.1=k then(kv.1,u)else kv):=by
 unfold KV at r ⊢;induction r with
 |nil=>exact .nil
 | @cons p q ps qs h t ih=>
  rw[cP,cP];refine .cons ?_ ih;obtain⟨h1,h2⟩:=h;by_cases e:p.1=k;rw[if_pos e,if_pos (h1.symm.trans e)];exact⟨h1,ry⟩;rw[if_neg e,if_neg (λz=>e (h1.trans z))];exact⟨h1,h2⟩
theorem KV.put{kvs:List (κ×V)}{vs:List (κ×aa)}(r:KV kvs vs)(k:κ)(ry:RelV y u):KV (putK kvs k y) (stored vs k u):=by
 unfold putK stored;rw[r.any k];by_cases e:(vs.any λkv=>decide (kv.1=k))=true;rw[if_pos e,if_pos e];exact r.repl k ry;rw[if_neg e,if_neg e];exact Paired.snoc r ⟨rfl,ry⟩
end
theorem pA{k:Key}(r:RelV (kV k) u):(lA P w).is k u=true:=by
 cases k with|inl i=>obtain⟨t,e⟩:=(show ∃t,u=Value.int i t from r);subst e;exact S5 P w i t|inr x=>obtain⟨t,e⟩:=(show ∃t,u=Value.str x t from r);subst e;exact S6 P w x t
theorem OE:∀{ks:List Key} {us:List aa},Vals (ks.map kV) us->ItemsAre (lA P w) ks us
 |[],_,r=>by rw[uN]at r;cases r;exact .nil
 |k::ks,_,r=>by
  rw[cP]at r;cases r with|cons h t=>exact .cons (pA h) (OE t)
noncomputable abbrev KT(H:Hp):List (List Key×V)->List (List Key×ah×aa)->Prop:=Paired λp q=>p.1=q.1/\H q.2.1=aB (.tup (p.1.map kV))/\RelV p.2 q.2.2
theorem KT.val{kvs:List (List Key×V)}{xs:List (List Key×ah×aa)}(r:KT H kvs xs)(k:List Key):eG (iL kvs k) ((atKey xs k).map (·.2)):=by
 induction r with
 |nil=>exact True.intro
 | @cons p q ps qs h t ih=>
  obtain⟨h1,_,h2⟩:=h;by_cases e:p.1=k;have e':q.1=k:=h1.symm.trans e;have b:atKey (q::qs) k=aB q.2:=by simp[atKey,lq,e']
  rw[Jb e,b];exact h2;have e':¬q.1=k:=λz=>e (h1.trans z);have b:atKey (q::qs) k=atKey qs k:=by simp[atKey,lq,e']
  rw[Ga e,b];exact ih
section
variable{P:ai}{w:aj}{H:Hp}{h:az}{a:ah}
theorem u5(ok:eF P w H h)(e:Rd H a u):bx P w H h a u:=e.ok ok
theorem kh{kvs:List (Key×V)}(ok:eF P w H h)(e:Rd H a (.dK kvs)):kvs.length<=sizeLine/\(a==sysModules)=false/\∃vs,KV kvs vs/\h.DictOf (lA P w) a vs:=
 show bx P w H h a (.dK kvs)from u5 ok e
theorem BU{kvs:List (Key×V)}(ok:eF P w H h)(e:H a=aB (.dK kvs)):kvs.length<=sizeLine/\(a==sysModules)=false/\∃vs,KV kvs vs/\h.DictOf (lA P w) a vs:=kh ok (.inl e)
theorem OF{ks:List Key}(ok:eF P w H h)(e:H a=aB (.tup (ks.map kV))):(tupleKind (lA P w)).is h ks a:=by
 obtain⟨_,its,r,o,h1,h2,⟨n,h3⟩,_⟩:=(show bx P w H h a (.tup (ks.map kV))from ok a _ e)
 exact⟨o,its.toArray,n,h1,h2,h3,by simpa using OE r⟩
theorem u6{kvs:List (List Key×V)}(ok:eF P w H h)(e:Rd H a (.dT kvs)):kvs.length<=sizeLine/\(a==sysModules)=false/\
 ∃xs,KT H kvs xs/\h.DictOfH (tupleKind (lA P w)) a xs:=by
 obtain⟨z,y,xs,r,o,es,ep,h1,h2,h3,h4,h5⟩:=(show bx P w H h a (.dT kvs)from u5 ok e)
 refine⟨z,y,xs,r,o,es,ep,h1,h2,h3,h4,λx hx=>?_,h5⟩;have all:∀{l:List (List Key×V)}{m:List (List Key×ah×aa)},KT H l m->∀x∈m,(tupleKind (lA P w)).is h x.1 x.2.1:=by
  intro l m q;induction q with
  |nil=>intro x hx;exact nomatch hx
  | @cons p q ps qs hq t ih=>
   intro x hx;rcases gq.mp hx with e|hx
   subst e;exact OF ok (by rw[<-hq.1];exact hq.2.1);exact ih x hx
 exact all r x hx
end
noncomputable def sH(H:Hp)(a:ah)(y:V)(r:Option V):Prop:=
 (∃kvs k,Rd H a (.dK kvs)/\y=kV k/\r=iL kvs k)\/∃kvs k b,Rd H a (.dT kvs)/\y=.ref b/\H b=aB (.tup (k.map kV))/\r=iL kvs k
section
variable{X:Cx}{pins:List (ah×Obj)}{σ:St}{H:Hp}{s:af}{a:ah}{y v:V}{u r:aa}{o:Option V}{A:ak}{E:aa->af->Prop}
theorem Inv.big(I:Inv X pins σ H s):sysModules<s.heap.objs.size:=by
 have h:mainGlobals<s.heap.objs.size:=(I.mod.glob.keeps I.bk).lt;exact Nat.lt_trans (by decide) h
theorem V0(hu:A.units+1<cLine)(I:Inv X pins σ H s)(g:sH H a y (aB v))(ry:RelV y u)(h:∀w' s',Inv X pins σ H s'->RelV v w'->Q w' s') :
 wpAny (model X.prog X.w) A (getItem (.ref a) u) Q E s:=by
 rcases g with⟨kvs,k,e,ey,l⟩|⟨kvs,k,b,e,ey,eb,l⟩;subst ey;obtain⟨z,hd,vs,rel,dd⟩:=kh I.hok e;obtain⟨w',hw,rw'⟩:=eG.some_of (v:=v) (o:=valueAt vs k) (by rw[l];exact rel.val k);exact wpAny_getItem_of (pA ry) dd.mapOf hw (h w' _ (I.tok _) rw');subst ey;cases(show u=Value.ref b from ry);obtain⟨z,hd,xs,rel,dd⟩:=u6 I.hok e;obtain⟨w',hw,rw'⟩:=eG.some_of (v:=v) (o:=(atKey xs k).map (·.2)) (by rw[l];exact rel.val k);obtain⟨p,hp,hp2⟩:=Option.map_eq_some_iff.mp hw;refine wpAny_getItem_heap (tupleKind_room_in1 hu) (OF I.hok eb) dd hp ?_;rw[hp2];exact h w' _ (I.tok _) rw'
theorem Jc{t':Nat}(I:Inv X pins σ H s)(mu:uO (H a))(hs:Heap.SameBut a s.heap h')(he:∃q,h'.get? a=aB q)(new:bx X.prog X.w (upd H a ob) h' a ob) :
 Inv X pins σ (upd H a ob) {s with heap:=h',toks:=t'}:=
 I.write (x:=a) (e:=a) mu (.inl rfl) (λb q hb z=>(hs.2 b hb).trans z) he new
theorem V1{H':Hp}{kvs:List (Key×V)}{vs:List (Key×aa)}(z:kvs.length<=sizeLine)(hd:(a==sysModules)=false)(rel:KV kvs vs)(dd:h'.DictOf (lA P w) a vs) :
 bx P w H' h' a (.dK kvs):=⟨z,hd,vs,rel,dd⟩
end
theorem V2{σ:St}{a:ah}{o:Option V}(I:Inv X pins σ H s)(g:sH H a y o):s.TypeIs (.ref a) "dict":=by
 rcases g with⟨kvs,k,e,_,_⟩|⟨kvs,k,b,e,_,_,_⟩;obtain⟨_,_,vs,_,dd⟩:=kh I.hok e;exact dd.typeIs;obtain⟨_,_,xs,_,dd⟩:=u6 I.hok e;exact dd.typeIs
theorem OG(h:az)(hb:sysModules<h.objs.size):bx P w H (h.push {cls:=.type "dict",data:=.dict #[]}) h.objs.size (.dK []):=
 ⟨i8 _,wG.mpr (dU (fj hb)),[],.nil,Heap.DictOf.new h⟩
noncomputable def V3:TE:=λ_ H Q=>∀p,H p=aC->Q (.ref p) (upd H p (.dK []))
section
variable{X:Cx}{pos:Pos}
theorem V4:PE X (.Dict [] [] pos) V3:=λpins s σ H Q I h=>
 wpAny_Dict_empty ⟨.ref s.heap.objs.size,_,I.laid (a:=s.heap.objs.size) (o:=.dK []) (t':=s.toks) (λ_ _ q=>cu _ q) (bq _) (OG s.heap I.big),rfl,h _ (I.hok.fresh (bq _))⟩
end
noncomputable def Gb:List (TE×TE)->St->Hp->(List (V×V)->Hp->Prop)->Prop|[],_,H,Q=>Q [] H|(tk,tv)::r,σ,H,Q=>tk σ H λx H1=>tv σ H1 λy H2=>Gb r σ H2 λps H3=>Q ((x,y)::ps) H3
noncomputable abbrev VV:List (V×V)->List (aa×aa)->Prop:=Paired λp q=>RelV p.1 q.1/\RelV p.2 q.2
noncomputable def BV(X:Cx)(pos:Pos)(keys:List (Option ao))(values:List ao)(mG:List (TE×TE)):Prop:=
 ∀(pins:List (ah×Obj))(s:af)(σ:St)(H:Hp)(Q:List (V×V)->Hp->Prop),Inv X pins σ H s->Gb mG σ H Q->
  wpAny (model X.prog X.w) X.A (evalPairs (pairTrees keys values X.env pos)) (λvs s'=>∃ps H',Inv X pins σ H' s'/\VV ps vs/\Q ps H') X.xe s
theorem V5:BV X pos [] [] []:=λpins s σ H Q I h=>pairTrees_nil_walk ⟨[],H,I,.nil,h⟩
theorem V6{ks:List (Option ao)}{mG:List (TE×TE)}(hk:PE X k tk)(hv:PE X v tv)(hr:BV X pos ks vs mG) :
 BV X pos (aB k::ks) (v::vs) ((tk,tv)::mG):=λpins s σ H Q I h=>
 pairTrees_cons_walk (bw (hk pins s σ H _ I h) λu s1 z9=>z9.el λx H1 I1 rx q1=>bw (hv pins s1 σ H1 _ I1 q1) λw2 s2 z9=>z9.el λy H2 I2 ry q2=>
  bw (hr pins s2 σ H2 _ I2 q2) λws s3 ⟨ps,H3,I3,rel,q3⟩=>⟨(x,y)::ps,H3,I3,.cons ⟨rx,ry⟩ rel,q3⟩)
noncomputable def u7(kvs more:List (Key×V)):List (Key×V):=more.foldl (λacc kv=>putK acc kv.1 kv.2) kvs
theorem KV.merge:∀{more:List (Key×V)} {rs:List (Key×aa)} {kvs:List (Key×V)} {vs:List (Key×aa)},KV more rs->KV kvs vs->KV (u7 kvs more) (merged vs rs):=by
 intro more rs kvs vs r;unfold KV at r;induction r generalizing kvs vs with
 |nil=>intro q;exact q
 | @cons p q ps qs h t ih=>
  intro r0;have e:KV (putK kvs p.1 p.2) (stored vs q.1 q.2):=by
   have:=r0.put p.1 h.2;rw[<-h.1];exact this
  exact ih e
theorem OH:∀(more kvs:List (Key×V)),(u7 kvs more).length<=kvs.length+more.length
 |[],kvs=>by show kvs.length<=kvs.length+0;lia
 |p::r,kvs=>by
  have h1:=OH r (putK kvs p.1 p.2);have h2:=VZ kvs p.1 p.2;show(u7 (putK kvs p.1 p.2) r).length<=_;rw[dh];lia
theorem OI:∀{kvs:List (Key×V)} {ws:List (aa×aa)},VV (kvs.map λkv=>(kV kv.1,kv.2)) ws->∃rs,Carries (lA P w) ws rs/\KV kvs rs
 |[],_,r=>by rw[uN]at r;cases r;exact⟨[],True.intro,.nil⟩
 |p::kvs,_,r=>by
  rw[cP]at r;cases r with
  | @cons a b as bs h t=>
   obtain⟨rs,c,q⟩:=OI (P:=P) (w:=w) t;obtain⟨b1,b2⟩:=b;exact⟨(p.1,b2)::rs,⟨pA h.1,rfl,c⟩,.cons ⟨rfl,h.2⟩ q⟩
theorem V7:fillsNumberSlot (.type "tuple") "mul" = pure false:=
 PySem.fillsNumberSlot_seq (id:="tuple.__mul__") (r:=aB (.builtin "tuple.__rmul__")) AK.lookup (by decide +kernel) F.slot_tuple_rmul.lookup (by decide +kernel)
theorem V8:seqRepeat? (.type "tuple")=pure (aB (.builtin "tuple.__mul__")):=by
 unfold seqRepeat?;rw[PySem.seqSlot_of (T:="tuple") (name:="__mul__") (id:="tuple.__mul__") AK.lookup (by decide +kernel),PySem.seqSlot_of (T:="tuple") (name:="__rmul__") (id:="tuple.__rmul__") F.slot_tuple_rmul.lookup (by decide +kernel)];rfl
theorem V9(k:Int)(t:Tok)(l:ah)(its:Array aa)(n:Nat)(dd:Option ah)(sl:Array (Option aa)) :
 Meets (Builtin.«int.__rmul__» ⟨[.int k t,.ref l],[]⟩) (λ_ R s=>s.heap.get? l=aB {cls:=.type "tuple",dict:=dd,data:=.seq its n,slots:=sl}/\R (.ok (.ret Value.notImplemented)) s):=
 .of_wp λprog w A R s h=>by
  obtain⟨hp,g,d,tk,os⟩:=s;obtain⟨e,h⟩:=h
  wp_walk using oM e;exact⟨_,rfl,h⟩
theorem Wa(l:ah)(its:Array aa)(n:Nat)(dd:Option ah)(sl:Array (Option aa))(k:Int)(t:Tok)(h1:¬(decide (k < -(2 ^ 63))||decide (k>=2 ^ 63)))(h2:(its.isEmpty||k==1)) :
 Meets (Builtin.«tuple.__mul__» ⟨[.ref l,.int k t],[]⟩) (λ_ R s=>s.heap.get? l=aB {cls:=.type "tuple",dict:=dd,data:=.seq its n,slots:=sl}/\R (.ok (.ret (.ref l))) s):=
 .of_wp λprog w A R s h=>by
  obtain⟨hp,g,d,tk,os⟩:=s;obtain⟨e,h⟩:=h;have f1:=AutoSeq1.idx_int
  wp_walk using oM e;refine wpAny_ite ?_;rw[if_neg h1]
  wp_walk using oM e;exact⟨_,rfl,h⟩
theorem Wb(l:ah)(its:Array aa)(n:Nat)(dd:Option ah)(sl:Array (Option aa))(k:Int)(t:Tok)(h1:¬(decide (k < -(2 ^ 63))||decide (k>=2 ^ 63)))(h2:¬(its.isEmpty||k==1))(h3:(decide (k<=0)||its.isEmpty)) :
 Meets (Builtin.«tuple.__mul__» ⟨[.ref l,.int k t],[]⟩) (λ_ R s=>s.heap.get? l=aB {cls:=.type "tuple",dict:=dd,data:=.seq its n,slots:=sl}/\R (.ok (.ret (.ref s.heap.objs.size))) {s with heap:=s.heap.push {cls:=.type "tuple",data:=.seq #[]}}):=
 .of_wp λprog w A R s h=>by
  obtain⟨hp,g,d,tk,os⟩:=s;obtain⟨e,h⟩:=h;have f1:=AutoSeq1.idx_int
  wp_walk using oM e;refine wpAny_ite ?_;rw[if_neg h1]
  wp_walk using oM e;exact⟨_,rfl,h⟩
theorem Wc(l:ah)(its:Array aa)(n:Nat)(dd:Option ah)(sl:Array (Option aa))(k:Int)(t:Tok)(h1:¬(decide (k < -(2 ^ 63))||decide (k>=2 ^ 63)))(h2:¬(its.isEmpty||k==1))(h3:¬(decide (k<=0)||its.isEmpty)=true)
 (h4:¬(its.size*k> (2 ^ 63-1)/8)) (h5:¬Builtin.Tuple.tupleTooMany (its.size*k)) (h6:((bI k.toNat its).foldl (· ++ ·) #[]).size<=sizeLine) :
 Meets (Builtin.«tuple.__mul__» ⟨[.ref l,.int k t],[]⟩) (λ_ R s=>s.heap.get? l=aB {cls:=.type "tuple",dict:=dd,data:=.seq its n,slots:=sl}/\R (.ok (.ret (.ref s.heap.objs.size))) {s with heap:=s.heap.push {cls:=.type "tuple",data:=.seq ((bI k.toNat its).foldl (· ++ ·) #[])}}):=
 .of_wp λprog w A R s h=>by
  obtain⟨hp,g,d,tk,os⟩:=s;obtain⟨e,h⟩:=h;have f1:=AutoSeq1.idx_int
  wp_walk using oM e;refine wpAny_ite ?_;rw[if_neg h1]
  wp_walk using oM e;refine wpAny_ite ?_;rw[if_neg h4]
  wp_walk using oM e;exact⟨_,rfl,h⟩
section
variable{X:Cx}
noncomputable def u9(K:aI):R2:=λx y H Q=>∃a k xs,x=.ref a/\y=.int k/\cD K H a xs/\-(2 ^ 62)<=k/\k<2 ^ 62/\xs.length*k.toNat<=sizeLine/\
 ((xs.isEmpty||k==1)=true->Q (.ref a) H)/\((xs.isEmpty||k==1)=false->∀p,H p=aC->Q (.ref p) (upd H p (.tup (bI k.toNat xs).flatten)))
theorem OJ(r:Vals xs us):us.toArray.isEmpty=xs.isEmpty:=by
 cases r<;>rfl
theorem We:dN X (binaryOp .Mult) (u9 X.K):=by
 intro pins s σ H x y v u Q I rx ry h;obtain⟨a,k,xs,rfl,rfl,ha,k1,k2,hz,q1,q2⟩:=h;cases rx;obtain⟨t,rfl⟩:=ry;obtain⟨its,r,p,_⟩:=I.tuple ha;obtain⟨⟨c,dd,dt,sl⟩,e1,e2,n,e3⟩:=p
 replace e2:c=.type "tuple":=e2
 replace e3:dt=.seq its.toArray n:=e3;subst e2 e3;have hl:xs.length=its.length:=r.length;have h1:¬(decide (k < -(2 ^ 63))||decide (k>=2 ^ 63))=true:=by
  simp only[rT,gH];lia
 refine wpAny_binaryOp_repeat_ref (T:="tuple") (U:="int") (by decide) ⟨_,e1,rfl⟩ (λs'=>typeIs_int s' k t) V7 F.fills_int_mul F.slot_int_rmul V8 F.slot_int_index.lookup
  (uJ F.slot_int_rmul (typeIs_int s k t) F.entry_int_rmul (F.args_int_rmul_2 _ _) (V9 k t a its.toArray n dd sl) ⟨e1,rfl,⟨_,e1,rfl⟩,?_⟩)
 by_cases h2:(its.toArray.isEmpty||k==1)=true;refine uJ AK ⟨_,e1,rfl⟩ F.entry_tuple_mul (F.args_tuple_mul_2 _ _) (Wa a its.toArray n dd sl k t h1 h2) ⟨e1,?_⟩;exact⟨.ref a,H,I,rfl,q1 (by rw[<-OJ r];exact h2)⟩;have q2:=q2 (by rw[<-OJ r];simpa using h2);by_cases h3:(decide (k<=0)||its.toArray.isEmpty)=true;have hk:k.toNat=0:=by
  have:its.toArray.isEmpty=false:=by
   cases q:its.toArray.isEmpty with|false=>rfl|true=>rw[q]at h2;exact absurd rfl h2
  rw[this,Bool.or_false,gH]at h3;lia
 refine uJ AK ⟨_,e1,rfl⟩ F.entry_tuple_mul (F.args_tuple_mul_2 _ _) (Wb a its.toArray n dd sl k t h1 h2 h3) ⟨e1,?_⟩;rw[hk]at q2;exact⟨.ref s.heap.objs.size,_,I.laid (t':=s.toks) (o:=.tup []) (λb ob q=>cu _ q) (bq _) ⟨i8 _,[],.nil,mC.new _ _⟩,rfl,q2 _ (I.hok.fresh (bq _))⟩;have hk:0<k:=by
  simp only[rT,gH,not_or]at h3;lia
 have hkn:((k.toNat:Nat):Int)=k:=Int.toNat_of_nonneg (by lia);have hmul:(its.toArray.size:Int)*k=((xs.length*k.toNat:Nat):Int):=by
  rw[fL,<-hl,Int.natCast_mul,hkn]
 have hsl:(sizeLine:Nat)=16777216:=rfl;have fl:(bI k.toNat its.toArray).foldl (· ++ ·) #[]=(bI k.toNat its).flatten.toArray:=by
  have:=N3 its k.toNat []
  rw[uM]at this;exact this
 refine uJ AK ⟨_,e1,rfl⟩ F.entry_tuple_mul (F.args_tuple_mul_2 _ _) (Wc a its.toArray n dd sl k t h1 h2 h3 (by rw[hmul];lia) (by
  unfold Builtin.Tuple.tupleTooMany;rw[hmul,gH];lia) (by rw[fl,fL,N5,Nat.mul_comm,<-hl];exact hz)) ⟨e1,?_⟩
 rw[fl];exact⟨.ref s.heap.objs.size,_,I.laid (t':=s.toks) (o:=.tup (bI k.toNat xs).flatten) (λb ob q=>cu _ q) (bq _) ⟨by rw[N5,Nat.mul_comm];exact hz,_,r.rep k.toNat,mC.new _ _⟩,rfl,q2 _ (I.hok.fresh (bq _))⟩
noncomputable def OL(K:aI):R2:=λx y H Q=>∃a b ys,x=.ref a/\y=.ref b/\cD K H a []/\cD K H b ys/\Q (.ref b) H
theorem Wf:dN X (binaryOp .Add) (OL X.K):=by
 intro pins s σ H x y v u Q I rx ry h;obtain⟨a,b,ys,rfl,rfl,ha,hb,q⟩:=h;cases rx;cases ry;obtain⟨its,r1,p1,_⟩:=I.tuple ha;obtain⟨its2,r2,p2,_⟩:=I.tuple hb;cases r1;obtain⟨⟨c,dd,dt,sl⟩,e1,e2,n,e3⟩:=p1;obtain⟨⟨c2,dd2,Wg,sl2⟩,f1,f2,n2,f3⟩:=p2
 replace e2:c=.type "tuple":=e2
 replace e3:dt=.seq ([]:List aa).toArray n:=e3
 replace f2:c2=.type "tuple":=f2
 replace f3:Wg=.seq its2.toArray n2:=f3;subst e2 e3 f2 f3;exact concat_meets ⟨_,e1,rfl⟩ ⟨_,f1,rfl⟩ noFill_tuple_add seq_tuple_add PySem.F.slot_tuple_add PySem.F.entry_tuple_add (PySem.F.args_tuple_add_2 _ _) (tuple_addW0 a b ([]:List aa).toArray its2.toArray n n2 dd dd2 sl sl2 rfl) ⟨e1,f1,⟨.ref b,H,I,rfl,q⟩⟩
noncomputable def fU(ds:List aA)(d:aA):Bool:=ds.any λe=>PyData.eqv e d
noncomputable def sI(K:aI)(neg:Bool):R2:=λx y H Q=>∃p xs ds d,y=.ref p/\(cM K H p xs\/cD K H p xs)/\kY K (λ_=>False) H xs ds/\Rp K (λ_=>False) H x d/\ds.all SeqAt.shaped=true/\SeqAt.shaped d=true/\Q (.bl (if neg then !fU ds d else fU ds d)) H
theorem BW:∀{us:List aa} {ds:List aA} {as:List ah} {i:Nat} {u:aa},ReadsAll h us ds as->us[i]?=aB u->∃d bs,ds[i]?=aB d/\Reads h u d bs
 |_,_,_,i,u,.nil,e=>by simp at e
 |_,_,_,0,u,.cons r _,e=>by simp at e;subst e;exact⟨_,_,rfl,r⟩
 |_,_,_,i+1,u,.cons _ rs,e=>by
  obtain⟨d,bs,h1,h2⟩:=BW rs (by simpa using e);exact⟨d,bs,by simpa using h1,h2⟩
open Classical in
noncomputable def dO(us:List aa)(ds:List aA)(d:aA)(u:aa):Bool:=decide (∃(i:Nat) (e:aA),us[i]?=aB u/\ds[i]?=aB e/\PyData.eqv e d=true)
open Classical in
theorem zO:dO us ds d u=true↔∃(i:Nat) (e:aA),us[i]?=aB u/\ds[i]?=aB e/\PyData.eqv e d=true:=by
 unfold dO;exact decide_eq_true_iff
theorem Gd{us:List aa}{ds:List aA}{d:aA}(hl:us.length=ds.length):us.any (dO us ds d)=fU ds d:=by
 cases q:fU ds d with
 |true=>
  unfold fU at q;rw[List.any_eq_true]at q;obtain⟨e,h1,h2⟩:=q;obtain⟨i,hi,h3⟩:=List.mem_iff_getElem.mp h1;rw[List.any_eq_true];refine⟨us[i]'(by lia),zw _,?_⟩;rw[zO];exact⟨i,e,by simp,by rw[jS hi,h3],h2⟩
 |false=>
  unfold fU at q;rw[List.any_eq_false]at q ⊢;intro u hu z;rw[zO]at z;obtain⟨i,e,h1,h2,h3⟩:=z;exact q e (zo h2) h3
theorem xE:∀{us:List aa} {ds:List aA} {as:List ah},ReadsAll h us ds as->us.length=ds.length|_,_,_,.nil=>rfl|_,_,_,.cons _ r=>by rw[dh,dh,xE r]
theorem zP{as bs:List ah}(hu:A.units+64<cLine)(ra:ReadsAll s.heap us ds as)(rb:Reads s.heap v d bs)(s1:ds.all SeqAt.shaped)(s2:SeqAt.shaped d) :
 ∀u∈us,SeqAt.EqAt A s u v (dO us ds d u):=by
 intro u hm;have sh:∀(i:Nat)(e:aA),ds[i]?=aB e->SeqAt.shaped e=true:=λi e q=>jZ.mp s1 e (zo q);cases q:dO us ds d u with
 |true=>
  rw[zO]at q;obtain⟨i,e,h1,h2,h3⟩:=q;obtain⟨e',cs,h4,h5⟩:=BW ra h1;rw[h2]at h4;cases h4;have:=SeqAt.eqAt_reads e d A s u v cs bs h5 rb (FJ (sh i e h2)) (FJ s2) (SeqAt.room_of_shaped (sh i e h2) hu);rw[h3]at this;exact this
 |false=>
  obtain⟨i,hi,h1⟩:=List.mem_iff_getElem.mp hm;have h1:us[i]?=aB u:=by rw[jS hi,h1]
  obtain⟨e,cs,h4,h5⟩:=BW ra h1;have h3:PyData.eqv e d=false:=by
   cases z:PyData.eqv e d with
   |false=>rfl
   |true=>
    rw[zO.mpr ⟨i,e,h1,h4,z⟩]at q;cases q
  have:=SeqAt.eqAt_reads e d A s u v cs bs h5 rb (FJ (sh i e h4)) (FJ s2) (SeqAt.room_of_shaped (sh i e h4) hu);rw[h3]at this;exact this
theorem Wh(hu:X.A.in1.units+64<cLine):dN X (compareOp .In) (sI X.K false):=by
 intro pins s σ H x y v u Q I rx ry h;obtain⟨p,xs,ds,d,rfl,hq,r1,r2,s1,s2,q⟩:=h;cases ry;obtain⟨bs,rb⟩:=r2.reads I rx;rcases hq with hq|hq
 obtain⟨its,r,pl,hz⟩:=I.list hq;obtain⟨as,ra⟩:=r1.reads I r;refine SeqAt.in_listAt (dO its ds d) pl.isList (λw hw=>zP hu ra rb s1 s2 w (by simpa using hw)) ⟨.bl _,H,I,rfl,?_⟩;rw[show its.toArray.any (dO its ds d)=its.any (dO its ds d) by simp,Gd (xE ra)];exact q;obtain⟨its,r,pl,hz⟩:=I.tuple hq;obtain⟨as,ra⟩:=r1.reads I r;refine SeqAt.in_tupleAt (dO its ds d) pl (λw hw=>zP hu ra rb s1 s2 w (by simpa using hw)) ⟨.bl _,H,I,rfl,?_⟩;rw[show its.toArray.any (dO its ds d)=its.any (dO its ds d) by simp,Gd (xE ra)];exact q
theorem Wi(hu:X.A.in1.units+64<cLine):dN X (compareOp .NotIn) (sI X.K true):=by
 intro pins s σ H x y v u Q I rx ry h;obtain⟨p,xs,ds,d,rfl,hq,r1,r2,s1,s2,q⟩:=h;cases ry;obtain⟨bs,rb⟩:=r2.reads I rx;rcases hq with hq|hq
 obtain⟨its,r,pl,hz⟩:=I.list hq;obtain⟨as,ra⟩:=r1.reads I r;refine SeqAt.notIn_listAt (dO its ds d) pl.isList (λw hw=>zP hu ra rb s1 s2 w (by simpa using hw)) ⟨.bl _,H,I,rfl,?_⟩;rw[show its.toArray.any (dO its ds d)=its.any (dO its ds d) by simp,Gd (xE ra)];exact q;obtain⟨its,r,pl,hz⟩:=I.tuple hq;obtain⟨as,ra⟩:=r1.reads I r;refine SeqAt.notIn_tupleAt (dO its ds d) pl (λw hw=>zP hu ra rb s1 s2 w (by simpa using hw)) ⟨.bl _,H,I,rfl,?_⟩;rw[show its.toArray.any (dO its ds d)=its.any (dO its ds d) by simp,Gd (xE ra)];exact q
end
end L2
namespace HT
open PySem PySem.Spec PyProof.Rows
section
variable{prog:ai}{w:aj}{A:ak}{E:aa->af->Prop}{s:af}
theorem fP{t sl:ah}{items:Array aa}{lo hi:Option Int}{Q:aa->af->Prop}(ht:IsTup s.heap t items)(hs:s.heap.IsSliceOf sl vl vu .none)(pl:IsPart vl lo)(pu:IsPart vu hi)
 (hw:bM items.size 0 lo=0/\bM items.size items.size hi=items.size)
 (h:Q (.ref t) s):wpAny (model prog w) A (getItem (.ref t) (.ref sl)) Q E s:=by
 obtain⟨os,hos,hcs,hds⟩:=id hs;have Iz:s.TypeIs (.ref sl) "slice":=⟨os,hos,hcs⟩
 unfold getItem
 try with_reducible refine mh ?_
 first|refine aK (br ?_)|skip
 refine aK (wpAny_sequenceKey ht.typeIs (by decide) ?_);refine aK (zc (name:=Str.ofString "__getitem__") ht.typeIs zB
  (rR zB ht.typeIs entry_tuple_getitem ?_ (args_tuple_getitem _ _)))
 show wpAny _ _ (Builtin.Tuple.tupleItemsOf (.ref t) >>= _) _ _ s;refine aK (tupleItemsOf_ ht ?_);refine aK (wpAny_typeOf Iz ?_);rw[if_pos (by decide)];refine aK (NV hs pl pu ?_);have hyes:((((bM items.size 0 lo:Nat):Int)==0&& (1:Int)==1&& (bM items.size items.size hi-bM items.size 0 lo)==items.size)):=by
  rw[hw.1,hw.2];simp
 show wpAny _ _ (if(((bM items.size 0 lo:Nat):Int)==0&& (1:Int)==1&& (bM items.size items.size hi-bM items.size 0 lo)==items.size)=true then _ else _) _ _ s;rw[if_pos hyes];unfold Builtin.Tuple.tupleIsExact;refine aK (aK (wpAny_typeOf ht.typeIs (br ?_)));rw[if_pos (by decide)];refine aK (zh ?_);exact br ⟨_,rfl,br h⟩
end
end HT
namespace L2
open PySem PySem.Spec PyProof.Rows
variable{X:Cx}
noncomputable def BX(K:aI):V->Option Int->Option Int->Hp->VK->Prop:=λx lo hi H Q=>∃a xs,x=.ref a/\cD K H a xs/\
 (HT.bM xs.length 0 lo=0/\HT.bM xs.length xs.length hi=xs.length)/\Q (.ref a) H
theorem Wj:sF X (BX X.K):=by
 intro pins s σ H x v vl vu lo hi sl Q I rx hs pl pu h;obtain⟨a,xs,rfl,hx,hw,q⟩:=h;cases rx;obtain⟨its,r,ht,hz⟩:=I.tuple hx;have hlen:its.toArray.size=xs.length:=by rw[fL];exact r.length.symm
 refine⟨"tuple",_,zB.lookup,ht.typeIs,?_⟩;refine HT.fP ht hs pl pu (by rw[hlen];exact hw) ?_;exact⟨.ref a,_,I,rfl,q⟩
noncomputable def Jd(K:aI):V->Option Int->Option Int->Hp->VK->Prop:=λx lo hi H Q=>(BC K x lo hi H Q\/BX K x lo hi H Q)\/BG K x lo hi H Q
theorem Wk:sF X (Jd X.K):=(U0.or Wj).or U9
noncomputable def ZI(b:Bool)(h:az)(I l:ah)(k:Nat):Prop:=match b with|true=>h.IsTupleIter I l k|false=>h.IsListIter I l k
noncomputable def ZS(b:Bool)(h:az)(l:ah)(xs:Array aa):Prop:=match b with|true=>h.IsTuple l xs|false=>h.IsList l xs
noncomputable def BY(b:Bool):String:=match b with|true=>"tuple_iterator" |false=>"list_iterator"
noncomputable def Ge(b:Bool)(l:ah):Obj:={cls:=.type (BY b),data:=.fields #[.ref l,.int 0 0]}
theorem ZI.ex{b:Bool}{I l c:ah}{k:Nat}(x:ZI b h I l k)(s:Heap.ExtBut c h h')(n:I≠c):ZI b h' I l k:=by
 cases b;exact Heap.IsListIter.extBut x s n;exact Heap.IsTupleIter.extBut x s n
theorem ZS.ex{b:Bool}{l c:ah}{xs:Array aa}(x:ZS b h l xs)(s:Heap.ExtBut c h h')(n:l≠c):ZS b h' l xs:=by
 cases b;exact Heap.IsList.extBut x s n;exact Heap.IsTuple.extBut x s n
theorem ZI.mv{b:Bool}{I l:ah}{k:Nat}(x:ZI b h I l k)(e:∀o,h.get? I=aB o->h'.get? I=aB o):ZI b h' I l k:=by
 cases b;exact Heap.IsListIter.at x e;exact Heap.IsTupleIter.at x e
theorem ZI.ob{b:Bool}{I l:ah}{k:Nat}(x:ZI b h I l k):∃o,h.get? I=aB o/\∀v,o.data≠.cell v:=by
 cases b;obtain⟨o,h1,h2,h3⟩:=x;exact⟨o,h1,λv z=>by rw[h3]at z;cases z⟩;obtain⟨o,h1,h2,h3⟩:=x;exact⟨o,h1,λv z=>by rw[h3]at z;cases z⟩
theorem ZS.lt{b:Bool}{l:ah}{xs:Array aa}(x:ZS b h l xs):l<h.objs.size:=by
 cases b<;> (obtain⟨o,h1,_⟩:=x;exact cF h1)
theorem ZS.push{b:Bool}{l:ah}{xs:Array aa}(x:ZS b h l xs)(o:Obj):ZS b (h.push o) l xs:=by
 cases b;exact Heap.IsList.push x o;exact Heap.IsTuple.push x o
section
variable{prog:ai}{w:aj}{A:ak}{E:aa->af->Prop}{s:af}
theorem Je{b:Bool}{I l:ah}{k:Nat}{xs:Array aa}{Q:aa->af->Prop}(hi:ZI b s.heap I l k)(hl:ZS b s.heap l xs)(hy:xs[k]?=aB y)
 (q:∀g,ZI b g I l (k+1)->Heap.SameBut I s.heap g->Q y {s with heap:=g}):wpAny (model prog w) A (Builtin.SmallTypes.nextOf (.ref I)) Q E s:=by
 cases b;exact wpAny_nextOf_list_item hi hl hy q;exact OB hi hl hy q
theorem z_end{b:Bool}{I l:ah}{k:Nat}{xs:Array aa}{Q:aa->af->Prop}(hA:A.handled=aC)(hi:ZI b s.heap I l k)(hl:ZS b s.heap l xs)(hy:xs[k]?=aC)
 (q:∀g e,Heap.ExtBut I s.heap g->(∃o,g.get? e=aB o/\o.cls=.type "StopIteration")->E (.ref e) {s with heap:=g}):wpAny (model prog w) A (Builtin.SmallTypes.nextOf (.ref I)) Q E s:=by
 cases b;exact wpAny_nextOf_list_end hA hi hl hy q;exact Ja hA hi hl hy q
structure ZA(z TI TO i1 i2 l1 l2:ah):Prop where
 a1:TI≠z/\TO≠z/\i1≠z/\i2≠z
 a2:TI≠TO/\TI≠i1/\TI≠i2/\TO≠i1/\TO≠i2/\i1≠i2
 a3:l1≠z/\l1≠TO/\l1≠i1/\l1≠i2
 a4:l2≠z/\l2≠TO/\l2≠i1/\l2≠i2
theorem Wl{n l1 l2:Nat}(h1:l1<n)(h2:l2<n):ZA (n+4) (n+2) (n+3) n (n+1) l1 l2:=by
 have e:∀{a b:Nat},(a<b\/b<a)->a≠b:=λh=>h.elim fj kW;refine⟨⟨?_,?_,?_,?_⟩,⟨?_,?_,?_,?_,?_,?_⟩,⟨?_,?_,?_,?_⟩,?_,?_,?_,?_⟩<;>exact e (by lia)
theorem Wm{b c:Bool}{z TI TO i1 i2 l1 l2:ah}{k:Nat}{xs ys:Array aa}{x y p q:aa}{Q:aa->af->Prop}(D:ZA z TI TO i1 i2 l1 l2)
 (hz:IsZip s.heap z TI TO .none) (hTI:IsPair s.heap TI (.ref i1) (.ref i2)) (hTO:IsPair s.heap TO p q)
 (h1:ZI b s.heap i1 l1 k) (h2:ZI c s.heap i2 l2 k) (hl1:ZS b s.heap l1 xs) (hl2:ZS c s.heap l2 ys) (hx:xs[k]?=aB x) (hy:ys[k]?=aB y)
 (hQ:∀h',IsZip h' z TI TO (rawInt s.heap.objs.size)->IsPair h' TO x y->ZI b h' i1 l1 (k+1)->ZI c h' i2 l2 (k+1)->IsPair h' s.heap.objs.size x y->h'.objs.size=s.heap.objs.size+1->
   (∀c o,c≠z->c≠TO->c≠i1->c≠i2->s.heap.get? c=aB o->h'.get? c=aB o)->Q (.ref s.heap.objs.size) {s with heap:=h'}) :
 wpAny (model prog w) A (Builtin.«zip.__next__» ⟨[.ref z],[]⟩) (λfin s'=>∃v,fin=.done (.ret v)/\Q v s') E s:=by
 obtain⟨⟨d1,d2,d3,d4⟩,⟨d5,d6,d7,d8,d9,BZ⟩,⟨Gf,Wn,Wo,Wq⟩,Jf,Jg,Jh,Ws⟩:=D;show wpAny _ _ (field (.ref z) 2 >>= _) _ _ _;refine aK (jy hz rfl (x:=.bool false) rfl ?_);show wpAny _ _ (field (.ref z) 3 >>= _) _ _ _;refine aK (jy hz rfl (x:=.ref TI) rfl (aK (qQ hTI rfl ?_)));show wpAny _ _ (Builtin.SmallTypes.ownedTupleIsFree (.ref z) >>= _) _ _ _;refine aK ?_;unfold Builtin.SmallTypes.ownedTupleIsFree;refine aK (jy hz rfl (x:=.none) rfl (br ?_));simp only[bX];refine aK (zh (aK (jy hz rfl (x:=.ref TO) rfl (aK (zd hz (by simp) λg1 z1 s1=>?_)))))
 replace z1:IsZip g1 z TI TO .ellipsis:=z1;refine aK ?_;simp only[List.zipIdx_cons,List.zipIdx_nil,zy,wY];refine aK (aK (E9 ?_));show wpAny _ _ (Builtin.SmallTypes.nextOf (.ref i1) >>= _) _ _ _;refine aK (Je (h1.ex s1.extBut d3) (hl1.ex s1.extBut Gf) hx λg2 y1 s2=>br ?_);have t2:IsPair g2 TO p q:=s2.extBut _ _ d8 (s1.extBut _ _ d2 hTO);refine aK (qQ t2 rfl (aK (wpAny_updateSeq_pair t2 λg3 t3 s3=>?_)))
 replace t3:IsPair g3 TO x q:=t3;refine aK (wpAny_letGo (br (aK (aK (E9 ?_)))));show wpAny _ _ (Builtin.SmallTypes.nextOf (.ref i2) >>= _) _ _ _;refine aK (Je (((h2.ex s1.extBut d4).ex s2.extBut (dU BZ)).ex s3.extBut (dU d9)) (((hl2.ex s1.extBut Jf).ex s2.extBut Jh).ex s3.extBut Jg) hy λg4 y2 s4=>br ?_);have t4:IsPair g4 TO x q:=s4.extBut _ _ d9 t3;refine aK (qQ t4 rfl (aK (wpAny_updateSeq_pair t4 λg5 t5 s5=>?_)))
 replace t5:IsPair g5 TO x y:=t5;refine aK (wpAny_letGo (br (br (aK (qQ t5 rfl (aK (wpAny_newTuple ?_)))))));have hsz:g5.objs.size=s.heap.objs.size:=by rw[s5.1,s4.1,s3.1,s2.1,s1.1]
 have z5:IsZip g5 z TI TO .ellipsis:=s5.extBut _ _ (dU d2) (s4.extBut _ _ (dU d4) (s3.extBut _ _ (dU d2) (s2.extBut _ _ (dU d3) z1)));have k5:∀c o,c≠z->c≠TO->c≠i1->c≠i2->s.heap.get? c=aB o->g5.get? c=aB o:=λc o c1 c2 c3 c4 e=>s5.extBut _ _ c2 (s4.extBut _ _ c4 (s3.extBut _ _ c2 (s2.extBut _ _ c3 (s1.extBut _ _ c1 e))));have Wt:ZI b g5 i1 l1 (k+1):=((y1.ex s3.extBut (dU d8)).ex s4.extBut BZ).ex s5.extBut (dU d8);have Wu:ZI c g5 i2 l2 (k+1):=y2.ex s5.extBut (dU d9);have Gg:z<g5.objs.size:=cF z5;show wpAny _ _ (Builtin.SmallTypes.ownedTupleHandOut (.ref z) (.ref g5.objs.size) >>= _) _ _ _;refine aK ?_;unfold Builtin.SmallTypes.ownedTupleHandOut;have z6:IsZip (g5.push {cls:=.type "tuple",data:=.seq #[x,y]}) z TI TO .ellipsis:=cu _ z5;refine aK (zd z6 (by simp) λg7 z7 s7=>?_)
 replace z7:IsZip g7 z TI TO (rawInt g5.objs.size):=z7;refine zd z7 (by simp) λg8 z8 s8=>?_
 replace z8:IsZip g8 z TI TO (rawInt g5.objs.size):=z8;have up:∀c o,c≠z->g5.get? c=aB o->g8.get? c=aB o:=λc o c1 e=>s8.extBut _ _ c1 (s7.extBut _ _ c1 (cu _ e));have p8:IsPair g8 g5.objs.size x y:=s8.extBut _ _ (kW Gg) (s7.extBut _ _ (kW Gg) (i6 _ rfl));have n8:g8.objs.size=g5.objs.size+1:=by rw[s8.1,s7.1,mj]
 rw[hsz]at z8 p8 n8;refine br ⟨_,rfl,?_⟩;show Q (.ref g5.objs.size) _;rw[hsz];exact hQ g8 z8 (up _ _ d2 t5) (Wt.mv λo e=>up _ o d3 e) (Wu.mv λo e=>up _ o d4 e) p8 n8 λc o c1 c2 c3 c4 e=>up c o c1 (k5 c o c1 c2 c3 c4 e)
theorem Wv{b c:Bool}{z TI TO i1 i2 l1 l2:ah}{k:Nat}{xs ys:Array aa}{p q:aa}{Q:Fin->af->Prop}(hA:A.handled=aC)(D:ZA z TI TO i1 i2 l1 l2)
 (hz:IsZip s.heap z TI TO .none) (hTI:IsPair s.heap TI (.ref i1) (.ref i2)) (hTO:IsPair s.heap TO p q)
 (h1:ZI b s.heap i1 l1 k) (h2:ZI c s.heap i2 l2 k) (hl1:ZS b s.heap l1 xs) (hl2:ZS c s.heap l2 ys) (he:xs[k]?=aC\/ys[k]?=aC)
 (hE:∀h' e,(∀c o,c≠z->c≠TO->c≠i1->c≠i2->s.heap.get? c=aB o->h'.get? c=aB o)->(∃o,h'.get? e=aB o/\o.cls=.type "StopIteration")->E (.ref e) {s with heap:=h'}) :
 wpAny (model prog w) A (Builtin.«zip.__next__» ⟨[.ref z],[]⟩) Q E s:=by
 obtain⟨⟨d1,d2,d3,d4⟩,⟨d5,d6,d7,d8,d9,BZ⟩,⟨Gf,Wn,Wo,Wq⟩,Jf,Jg,Jh,Ws⟩:=D;show wpAny _ _ (field (.ref z) 2 >>= _) _ _ _;refine aK (jy hz rfl (x:=.bool false) rfl ?_);show wpAny _ _ (field (.ref z) 3 >>= _) _ _ _;refine aK (jy hz rfl (x:=.ref TI) rfl (aK (qQ hTI rfl ?_)));show wpAny _ _ (Builtin.SmallTypes.ownedTupleIsFree (.ref z) >>= _) _ _ _;refine aK ?_;unfold Builtin.SmallTypes.ownedTupleIsFree;refine aK (jy hz rfl (x:=.none) rfl (br ?_));simp only[bX];refine aK (zh (aK (jy hz rfl (x:=.ref TO) rfl (aK (zd hz (by simp) λg1 z1 s1=>?_)))))
 replace z1:IsZip g1 z TI TO .ellipsis:=z1;refine aK ?_;simp only[List.zipIdx_cons,List.zipIdx_nil,zy,wY];refine aK (aK (E9 ?_));show wpAny _ _ (Builtin.SmallTypes.nextOf (.ref i1) >>= _) _ _ _;cases hx:xs[k]? with
 |none=>
  refine aK (z_end hA (h1.ex s1.extBut d3) (hl1.ex s1.extBut Gf) hx λg2 e s2 hs=>?_);obtain⟨oe,xF,hce⟩:=hs;have z2:IsZip g2 z TI TO .ellipsis:=s2 _ _ (dU d3) z1;have Ji:e≠z:=λx=>by subst x;rw[z2]at xF;cases xF;simp at hce
  exact zd z2 (by simp) λg3 _ s3=>hE g3 e (λc o c1 _ c3 _ x=>s3.extBut _ _ c1 (s2 _ _ c3 (s1.extBut _ _ c1 x))) ⟨oe,s3.extBut _ _ Ji xF,hce⟩
 |some x=>
  have hy:ys[k]?=aC:=by rcases he with h|h;rw[hx]at h;cases h;exact h
  refine aK (Je (h1.ex s1.extBut d3) (hl1.ex s1.extBut Gf) hx λg2 y1 s2=>br ?_);have t2:IsPair g2 TO p q:=s2.extBut _ _ d8 (s1.extBut _ _ d2 hTO);refine aK (qQ t2 rfl (aK (wpAny_updateSeq_pair t2 λg3 t3 s3=>?_)));refine aK (wpAny_letGo (br (aK (aK (E9 ?_)))));show wpAny _ _ (Builtin.SmallTypes.nextOf (.ref i2) >>= _) _ _ _;refine aK (z_end hA (((h2.ex s1.extBut d4).ex s2.extBut (dU BZ)).ex s3.extBut (dU d9)) (((hl2.ex s1.extBut Jf).ex s2.extBut Jh).ex s3.extBut Jg) hy λg4 e s4 hs=>?_);obtain⟨oe,xF,hce⟩:=hs;have z4:IsZip g4 z TI TO .ellipsis:=s4 _ _ (dU d4) (s3.extBut _ _ (dU d2) (s2.extBut _ _ (dU d3) z1));have Ji:e≠z:=λx=>by subst x;rw[z4]at xF;cases xF;simp at hce
  exact zd z4 (by simp) λg5 _ s5=>hE g5 e (λc o c1 c2 c3 c4 x=>s5.extBut _ _ c1 (s4 _ _ c4 (s3.extBut _ _ c2 (s2.extBut _ _ c3 (s1.extBut _ _ c1 x))))) ⟨oe,s5.extBut _ _ Ji xF,hce⟩
theorem Ww{b c:Bool}{z TI TO i1 i2 l1 l2:ah}{k:Nat}{xs ys:Array aa}{x y p q:aa}{Q:Option aa->af->Prop}(D:ZA z TI TO i1 i2 l1 l2)
 (hz:IsZip s.heap z TI TO .none) (hTI:IsPair s.heap TI (.ref i1) (.ref i2)) (hTO:IsPair s.heap TO p q)
 (h1:ZI b s.heap i1 l1 k) (h2:ZI c s.heap i2 l2 k) (hl1:ZS b s.heap l1 xs) (hl2:ZS c s.heap l2 ys) (hx:xs[k]?=aB x) (hy:ys[k]?=aB y)
 (hQ:∀h',IsZip h' z TI TO (rawInt s.heap.objs.size)->IsPair h' TO x y->ZI b h' i1 l1 (k+1)->ZI c h' i2 l2 (k+1)->IsPair h' s.heap.objs.size x y->h'.objs.size=s.heap.objs.size+1->
   (∀c o,c≠z->c≠TO->c≠i1->c≠i2->s.heap.get? c=aB o->h'.get? c=aB o)->Q (aB (.ref s.heap.objs.size)) {s with heap:=h'}):wpAny (model prog w) A (pyNext (.ref z)) Q E s:=by
 have hT:s.TypeIs (.ref z) "zip":=⟨_,hz,rfl⟩
 unfold pyNext;exact aK (E8 (zc (name:=Str.ofString "__next__") hT FH (rR FH hT F.entry_zip_next (Wm D hz hTI hTO h1 h2 hl1 hl2 hx hy λh' a1 a2 a3 a4 a5 a6 a7=>br (hQ h' a1 a2 a3 a4 a5 a6 a7)) (F.args_zip_next_1 _))))
theorem Wx{b c:Bool}{z TI TO i1 i2 l1 l2:ah}{k:Nat}{xs ys:Array aa}{p q:aa}{Q:Option aa->af->Prop}(hA:A.in1.handled=aC)(D:ZA z TI TO i1 i2 l1 l2)
 (hz:IsZip s.heap z TI TO .none) (hTI:IsPair s.heap TI (.ref i1) (.ref i2)) (hTO:IsPair s.heap TO p q)
 (h1:ZI b s.heap i1 l1 k) (h2:ZI c s.heap i2 l2 k) (hl1:ZS b s.heap l1 xs) (hl2:ZS c s.heap l2 ys) (he:xs[k]?=aC\/ys[k]?=aC)
 (hQ:∀h',(∀c o,c≠z->c≠TO->c≠i1->c≠i2->s.heap.get? c=aB o->h'.get? c=aB o)->Q aC {s with heap:=h'}):wpAny (model prog w) A (pyNext (.ref z)) Q E s:=by
 have hT:s.TypeIs (.ref z) "zip":=⟨_,hz,rfl⟩
 unfold pyNext;refine aK (E8 (zc (name:=Str.ofString "__next__") hT FH (rR FH hT F.entry_zip_next (Wv hA D hz hTI hTO h1 h2 hl1 hl2 he λh' e hk hs=>?_) (F.args_zip_next_1 _))));obtain⟨o,ho,hc⟩:=hs;exact aK (E5 (T:="StopIteration") (b:=true) ⟨o,ho,hc⟩ isSubtype_stop (br (hQ _ hk)))
noncomputable def Gh(h:az)(b:Bool)(l1:ah):az:=h.push (Ge b l1)
noncomputable def B0(h:az)(b c:Bool)(l1 l2:ah):az:=(Gh h b l1).push (Ge c l2)
noncomputable def B3(h:az)(b c:Bool)(l1 l2:ah):az:=(B0 h b c l1 l2).push {cls:=.type "tuple",data:=.seq #[.ref h.objs.size,.ref (Gh h b l1).objs.size]}
noncomputable def B4(h:az)(b c:Bool)(l1 l2:ah):az:=(B3 h b c l1 l2).push {cls:=.type "tuple",data:=.seq #[.none,.none]}
noncomputable def vc(h:az)(b c:Bool)(l1 l2:ah):az:=(B4 h b c l1 l2).push {cls:=.type "zip",data:=.fields #[.none,.bool false,.bool false,.ref (B0 h b c l1 l2).objs.size,.ref (B3 h b c l1 l2).objs.size]}
theorem Wy(b c:Bool)(l1 l2:ah)(xs ys:Array aa):Meets (Builtin.«zip.__new__» ⟨[.type "zip",.ref l1,.ref l2],[]⟩) (λ_ R s=>ZS b s.heap l1 xs/\ZS c s.heap l2 ys/\
 R (.ok (.ret (.ref (B4 s.heap b c l1 l2).objs.size))) {s with heap:=vc s.heap b c l1 l2}):=
 .of_wp λprog w A R s h=>by
  obtain⟨hp,g,d,tk,os⟩:=s;obtain⟨m1,m2,h⟩:=h;have hsub:=sub_zip;have e1:ZS b (Shared.heap ⟨hp,g,d,tk,os⟩) l1 xs:=m1;have e2:ZS c (Shared.heap ⟨hp.push (Ge b l1),g,d,tk,os⟩) l2 ys:=m2.push _;cases b<;>cases c;have q1:Heap.IsList (Shared.heap ⟨hp,g,d,tk,os⟩) l1 xs:=e1;have q2:Heap.IsList (Shared.heap ⟨hp.push {cls:=.type "list_iterator",data:=.fields #[.ref l1,.int 0 0]},g,d,tk,os⟩) l2 ys:=e2
  wp_walk using ze q1,ze q2;exact⟨_,rfl,h⟩;have q1:Heap.IsList (Shared.heap ⟨hp,g,d,tk,os⟩) l1 xs:=e1;have q2:Heap.IsTuple (Shared.heap ⟨hp.push {cls:=.type "list_iterator",data:=.fields #[.ref l1,.int 0 0]},g,d,tk,os⟩) l2 ys:=e2
  wp_walk using ze q1,wL q2;exact⟨_,rfl,h⟩;have q1:Heap.IsTuple (Shared.heap ⟨hp,g,d,tk,os⟩) l1 xs:=e1;have q2:Heap.IsList (Shared.heap ⟨hp.push {cls:=.type "tuple_iterator",data:=.fields #[.ref l1,.int 0 0]},g,d,tk,os⟩) l2 ys:=e2
  wp_walk using wL q1,ze q2;exact⟨_,rfl,h⟩;have q1:Heap.IsTuple (Shared.heap ⟨hp,g,d,tk,os⟩) l1 xs:=e1;have q2:Heap.IsTuple (Shared.heap ⟨hp.push {cls:=.type "tuple_iterator",data:=.fields #[.ref l1,.int 0 0]},g,d,tk,os⟩) l2 ys:=e2
  wp_walk using wL q1,wL q2;exact⟨_,rfl,h⟩
theorem OM{b:Bool}{l:ah}{a:ah}(e:h.get? a=aB (Ge b l)):ZI b h a l 0:=by
 cases b<;>exact⟨_,e,rfl,rfl⟩
theorem Wz{b c:Bool}{l1 l2:ah}{xs ys:Array aa}{Q:aa->af->Prop}(m1:ZS b s.heap l1 xs)(m2:ZS c s.heap l2 ys)
 (h:∀h',IsZip h' (s.heap.objs.size+4) (s.heap.objs.size+2) (s.heap.objs.size+3) .none->IsPair h' (s.heap.objs.size+2) (.ref s.heap.objs.size) (.ref (s.heap.objs.size+1))->
   IsPair h' (s.heap.objs.size+3) .none .none->ZI b h' s.heap.objs.size l1 0->ZI c h' (s.heap.objs.size+1) l2 0->h'.objs.size=s.heap.objs.size+5->
   (∀c o,s.heap.get? c=aB o->h'.get? c=aB o)->Q (.ref (s.heap.objs.size+4)) {s with heap:=h'}):wpAny (model prog w) A (call (.type "zip") [.ref l1,.ref l2]) Q E s:=by
 refine callType_new F.called_zip (by decide) (F.typeCall_zip_2 _ _) (F.newCall_zip_2 _ _) (λobj=>F.args_object_init_3 obj _ _) F.entry_zip_new (Wy b c l1 l2 xs ys) ⟨m1,m2,?_⟩;have n1:(Gh s.heap b l1).objs.size=s.heap.objs.size+1:=mj ..;have n2:(B0 s.heap b c l1 l2).objs.size=s.heap.objs.size+2:=by unfold B0;rw[mj,n1]
 have n3:(B3 s.heap b c l1 l2).objs.size=s.heap.objs.size+3:=by unfold B3;rw[mj,n2]
 have n4:(B4 s.heap b c l1 l2).objs.size=s.heap.objs.size+4:=by unfold B4;rw[mj,n3]
 have n5:(vc s.heap b c l1 l2).objs.size=s.heap.objs.size+5:=by unfold vc;rw[mj,n4]
 have g5:(vc s.heap b c l1 l2).get? (B4 s.heap b c l1 l2).objs.size=aB _:=i6 _ rfl;have g4:(vc s.heap b c l1 l2).get? (B3 s.heap b c l1 l2).objs.size=aB _:=cu _ (i6 _ rfl);have g3:(vc s.heap b c l1 l2).get? (B0 s.heap b c l1 l2).objs.size=aB _:=cu _ (cu _ (i6 _ rfl));have g2:(vc s.heap b c l1 l2).get? (Gh s.heap b l1).objs.size=aB _:=cu _ (cu _ (cu _ (i6 _ rfl)));have g1:(vc s.heap b c l1 l2).get? s.heap.objs.size=aB _:=cu _ (cu _ (cu _ (cu _ (i6 _ rfl))));show _/\_;rw[n2,n3,n4]at g5;rw[n1,n2]at g3;rw[n3]at g4;rw[n1]at g2;rw[n4];exact⟨⟨_,g5,rfl⟩,h _ g5 g3 g4 (OM g1) (OM g2) n5 λc o x=>cu _ (cu _ (cu _ (cu _ (cu _ x))))⟩
end
noncomputable def nG(b:Bool)(K:aI)(H:Hp)(a:ah)(xs:List V):Prop:=match b with|true=>cD K H a xs|false=>cM K H a xs
theorem zQ{b:Bool}{σ:St}{a:ah}(I:Inv X pins σ H s)(h:nG b X.K H a xs):∃its:List aa,Vals xs its/\ZS b s.heap a its.toArray/\xs.length<=sizeLine:=by
 cases b;obtain⟨its,r,p,z⟩:=I.list h;exact⟨its,r,p.isList,z⟩;exact I.tuple h
theorem ON{b:Bool}{σ:St}{a:ah}(I:Inv X pins σ H s)(h:nG b X.K H a xs)(h':nG b X.K H a ys):xs=ys:=by
 cases b;exact I.j6 h h';exact I.gJ h h'
noncomputable def xG(K:aI)(b c:Bool)(a1 a2:ah):It:=
 ⟨λi H=>∃xs ys x y,nG b K H a1 xs/\nG c K H a2 ys/\xs[i]?=aB x/\ys[i]?=aB y,
  λi H v H'=>∃T x y,v=.ref T/\H T=aC/\H'=upd H T (.tup [x,y])/\(∀xs,nG b K H a1 xs->xs[i]?=aB x)/\∀ys,nG c K H a2 ys->ys[i]?=aB y,
  λi H=>∃xs ys,nG b K H a1 xs/\nG c K H a2 ys/\(xs.length<=i\/ys.length<=i)⟩
theorem Inv.sJ{σ:St}{t':Nat}{fp:List ah}(I:Inv X pins σ H s)(hf:∀b∈fp,gv X pins H b)(kk:∀b o,b∉fp->s.heap.get? b=aB o->h2.get? b=aB o) :
 Inv X pins σ H {s with heap:=h2,toks:=t'}:=by
 have f0:=λb hb=>(hf b hb).1;have nE:∀b o,H b=aB o->b∉fp:=λb o q z=>by rw[f0 b z]at q;cases q
 refine I.step (g':=s.gens) (d':=s.drawn) (ch:=fp) (λb hb=>?_) (λb o _ _ hc e1 _=>kk b o hc e1) (λb o _ _ hc e1 _=>⟨o.slots,kk b o hc e1⟩) (λ_ _ _ _ n=>n) (λb o hc e1=>⟨o,kk b o hc e1⟩)
  (λ_ _ q=>q) (λ_ _ _ q=>q) (λb ps q=>⟨#[],by rw[q];simp⟩) (λm hm=>?_) (λb ob q=>?_) I.bare
 obtain⟨_,a1,a2,a3,a4,a5⟩:=hf b hb;exact⟨a3,a1,a4,a5⟩;obtain⟨o,es,ep,ho',r⟩:=hm;exact⟨o,es,ep,kk _ o (λz=>(hf _ z).2.1 rfl) ho',r⟩;refine(I.hok b ob q).stay (λc v hc z=>kk c v ?_ z) (λ_ z=>z) λ_ _ z=>z;rcases hc with rfl|hc;exact nE c ob q;exact nE c _ hc
theorem Inv.sL{σ:St}{fp:List ah}{xs:List V}{us:List aa}(I:Inv X pins σ H s)(hf:∀b∈fp,gv X pins H b)(kk:∀b o,b∉fp->s.heap.get? b=aB o->h2.get? b=aB o)
 (hT:h2.get? s.heap.objs.size=aB {cls:=.type "tuple",data:=.seq us.toArray}) (hv:Vals xs us) (hz:xs.length<=sizeLine):Inv X pins σ (upd H s.heap.objs.size (.tup xs)) {s with heap:=h2}:=by
 have mF:H s.heap.objs.size=aC:=I.hok.fresh (bq _);have f0:=λb hb=>(hf b hb).1;have nE:∀b o,H b=aB o->b∉fp:=λb o q z=>by rw[f0 b z]at q;cases q
 refine I.step (g':=s.gens) (d':=s.drawn) (ch:=fp) (λb hb=>?_) (λb o _ _ hc e1 _=>kk b o hc e1) (λb o _ _ hc e1 _=>⟨o.slots,kk b o hc e1⟩) (λb o hc e1 n=>by rw[bR (fj (cF e1))];exact n) (λb o hc e1=>⟨o,kk b o hc e1⟩)
  (λb ys q=>by rw[bR (ir q mF)];exact q) (λb o u q=>by rw[bR (ir q mF)];exact q) (λb ps q=>⟨#[],by rw[bR (ir q mF),q];simp⟩) (λm hm=>?_) (λb ob q=>?_) I.bare
 obtain⟨_,a1,a2,a3,a4,a5⟩:=hf b hb;exact⟨a3,a1,a4,a5⟩;obtain⟨o,es,ep,ho',r⟩:=hm;exact⟨o,es,ep,kk _ o (λz=>(hf _ z).2.1 rfl) ho',r⟩;by_cases hb:b=s.heap.objs.size;subst hb;rw[eV]at q;cases q;exact⟨hz,us,hv,⟨_,hT,rfl,⟨_,rfl⟩,rfl⟩⟩;rw[bR hb]at q;refine(I.hok b ob q).stay (λc v hc z=>kk c v ?_ z) (λc z=>by rw[bR (ir z mF)];exact z) λc ys z=>by rw[bR (ir z mF)];exact z
 rcases hc with rfl|hc;exact nE c ob q;exact nE c _ hc
theorem WA{P:ai}{w:aj}{K:aI}{elts:List ao}{kx:Nat}{tp:Pos}{b c:Bool}(a1 a2 z TI TO i1 i2:ah)(D:ZA z TI TO i1 i2 a1 a2) :
 Turn P w K (.Tuple elts kx tp) (xG K b c a1 a2) [z,TI,TO,i1,i2] z (λi h=>IsZip h z TI TO .none/\IsPair h TI (.ref i1) (.ref i2)/\(∃p q,IsPair h TO p q)/\ZI b h i1 a1 i/\ZI c h i2 a2 i)where
 mem:=by simp
 obj:=λi h st d hd=>by
  obtain⟨hz,hTI,⟨p,q,hTO⟩,h1,h2⟩:=st;simp only[gq,wW,wK]at hd;rcases hd with rfl|rfl|rfl|rfl|rfl;exact⟨_,hz,λv z=>by
   have z':Data.fields _=Data.cell v:=z;cases z'⟩
  exact⟨_,hTI,λv z=>by
   have z':Data.seq _ _=Data.cell v:=z;cases z'⟩
  exact⟨_,hTO,λv z=>by
   have z':Data.seq _ _=Data.cell v:=z;cases z'⟩
  exact h1.ob;exact h2.ob
 keep:=λi h h' st k=>by
  obtain⟨hz,hTI,⟨p,q,hTO⟩,h1,h2⟩:=st;exact⟨k z (by simp) _ hz,k TI (by simp) _ hTI,⟨p,q,k TO (by simp) _ hTO⟩,h1.mv λo e=>k i1 (by simp) o e,h2.mv λo e=>k i2 (by simp) o e⟩
 item:=by
  intro X hP hw hK hc i pins s σ H E I hf st hg;subst hP hw hK;obtain⟨xs,ys,x,y,q1,q2,hx,hy⟩:=hg;obtain⟨hz,hTI,⟨p,q,hTO⟩,h1,h2⟩:=st;obtain⟨its,rv,m1,_⟩:=zQ I q1;obtain⟨OO,rw',m2,_⟩:=zQ I q2;obtain⟨u,hu,ru⟩:=rv.get hx;obtain⟨v,hv,WB⟩:=rw'.get hy;refine Ww D hz hTI hTO h1 h2 m1 m2 (x:=u) (y:=v) (by simpa using hu) (by simpa using hv) λg b1 b2 b3 b4 b5 b6 b7=>⟨_,rfl,wpAny_letOwnedTupleGo_zip b1 λg2 c1 c2=>?_⟩
  obtain⟨⟨d1,d2,d3,d4⟩,⟨d5,d6,d7,d8,d9,BZ⟩,_,_⟩:=D;have c2:Heap.SameBut z g g2:=c2;have Gg:s.heap.objs.size≠z:=kW (cF hz);have kk:∀d o,d∉[z,TI,TO,i1,i2]->s.heap.get? d=aB o->g2.get? d=aB o:=λd o hd e=>(c2.2 d λx=>hd (by simp[x])).trans (b7 d o (λx=>hd (by simp[x])) (λx=>hd (by simp[x])) (λx=>hd (by simp[x])) (λx=>hd (by simp[x])) e);have hT:g2.get? s.heap.objs.size=aB {cls:=.type "tuple",data:=.seq [u,v].toArray}:=(c2.2 _ Gg).trans b5;have I2:=Inv.sL (xs:=[x,y]) I hf kk hT (.cons ru (.cons WB .nil)) (by show 2<=sizeLine;decide);have mF:H s.heap.objs.size=aC:=I.hok.fresh (bq _);refine⟨.ref s.heap.objs.size,_,I2,rfl,⟨_,x,y,rfl,mF,rfl,λzs hzs=>by rw[ON I hzs q1];exact hx,λzs hzs=>by rw[ON I hzs q2];exact hy⟩,
   ⟨c1,(c2.2 TI d1).trans (b7 TI _ d1 d5 d6 d7 hTI),⟨u,v,(c2.2 TO d2).trans b2⟩,b3.mv λo e=>(c2.2 i1 d3).trans e,b4.mv λo e=>(c2.2 i2 d4).trans e⟩,λd hd=>?_⟩
  rw[bR ?_];exact(hf d hd).1;intro e;obtain⟨o,ho⟩:∃o,s.heap.get? d=aB o:=by
   simp only[gq,wW,wK]at hd;rcases hd with rfl|rfl|rfl|rfl|rfl
   exact⟨_,hz⟩;exact⟨_,hTI⟩;exact⟨_,hTO⟩;exact let⟨o,h,_⟩:=h1.ob;⟨o,h⟩;exact let⟨o,h,_⟩:=h2.ob;⟨o,h⟩
  exact fj (cF ho) e
 done:=by
  intro X hP hw hK hc i pins s σ H E I hf st hg;subst hP hw hK;obtain⟨xs,ys,q1,q2,hl⟩:=hg;obtain⟨hz,hTI,⟨p,q,hTO⟩,h1,h2⟩:=st;obtain⟨its,rv,m1,_⟩:=zQ I q1;obtain⟨OO,rw',m2,_⟩:=zQ I q2;have l1:=rv.length;have l2:=rw'.length;exact Wx (I.ok.hd hc) D hz hTI hTO h1 h2 m1 m2 (hl.imp (λh=>by simp;lia) λh=>by simp;lia) λg hk=>⟨rfl,Inv.sJ (t':=s.toks) I hf λd o hd e=>hk d o (λx=>hd (by simp[x])) (λx=>hd (by simp[x])) (λx=>hd (by simp[x])) (λx=>hd (by simp[x])) e⟩
 self:=λ_ _ _ _ _ st h=>wpAny_pyIter_zip st.1 h
theorem WC{bs:List Bool}(r:Vals (bs.map .bl) its)(i:Nat)(h:its[i]?=aB v):∃b,bs[i]?=aB b/\v=.bool b:=by
 have hl:=r.length;rw[bV]at hl;obtain⟨hi,_⟩:=jR.mp h;have hb:bs[i]?=aB bs[i]:=jS (by lia);obtain⟨u,hu,ru⟩:=r.get (i:=i) (x:=.bl bs[i]) (by rw[nu,hb];rfl);rw[h]at hu;cases hu;exact⟨_,hb,ru⟩
theorem WD(bs:List Bool):((List.range bs.length).all λi=>(bs[i]?).getD true)=bs.all id:=by
 rw[AB,jZ,jZ];refine⟨λh b hb=>?_,λh i hi=>?_⟩;obtain⟨i,hi,rfl⟩:=List.getElem_of_mem hb;have:=h i (Fp.mpr hi);rw[jS hi]at this;exact this;have hi':=Fp.mp hi;rw[jS hi'];exact h _ (zw hi')
section
variable{X:Cx}
theorem WE(hc:X.calm):dF X (.builtin "all") (λxs H Q=>∃(p:ah) (bs:List Bool),xs=[.ref p]/\cM X.K H p (bs.map .bl)/\Q (.bl (bs.all id)) H):=by
 intro pins s σ H xs us Q I r h;obtain⟨p,bs,rfl,hq,q⟩:=h;obtain⟨u,rfl,ru⟩:=vals1 r;cases ru;obtain⟨its,rv,pl,hz⟩:=I.list hq;have hL:s.heap.IsList p its.toArray:=pl.isList;have hlt:p<s.heap.objs.size:=by obtain⟨_,e,_⟩:=hL;exact cF e
 have hd:X.A.in1.handled=aC:=I.ok.hd hc;have hlen:its.toArray.size=bs.length:=by rw[fL,<-rv.length,bV]
 refine call_all_walk (ze hL ⟨s.heap.objs.size,[s.heap.objs.size,p],[s.heap.objs.size],its.toArray.size,_,_,λi=>(bs[i]?).getD true,rfl,Walks.list (A:=X.A.in1) hd _ p (fj hlt) its.toArray,?_,?_,?_⟩);exact⟨⟨_,i6 _ rfl,rfl,rfl⟩,hL.push _⟩;intro i v s' Q' E' hP hQ;obtain⟨b,e,rfl⟩:=WC rv i (by simpa using hP);simp only[e,Option.getD_some]at hQ;exact oH hQ;intro h' tk hk;rw[hlen,WD];refine⟨.bl (bs.all id),H,I.kept (t':=tk) λb o e=>hk b o (λhm=>?_) (cu _ e),rfl,q⟩;rw[zp.mp hm]at e;exact nq _ (cF e)
end
theorem Jj{as:List ah}{i:Nat}(ra:ReadsAll h us ds as)(s1:ds.all SeqAt.shaped)(h1:us[i]?=aB u)(h2:ds[i]?=aB e):dO us ds d u=PyData.eqv e d:=by
 cases q:PyData.eqv e d with
 |true=>exact zO.mpr ⟨i,e,h1,h2,q⟩
 |false=>
  refine Bool.eq_false_iff.mpr λz=>?_;obtain⟨j,e',h3,h4,h5⟩:=zO.mp z;obtain⟨e1,cs1,g1,g2⟩:=BW ra h1;obtain⟨e2,cs2,g3,g4⟩:=BW ra h3;rw[h2]at g1;cases g1;rw[h4]at g3;cases g3;have:e=e':=(Reads.unique g2 _ _ g4).1;subst this;rw[q]at h5;cases h5
theorem OP{α β:Type}{p:α->Bool}{q:β->Bool}:∀{us:List α} {ds:List β},us.length=ds.length->(∀(i:Nat) (u:α) (e:β),us[i]?=aB u->ds[i]?=aB e->p u=q e)->us.countP p=ds.countP q
 |[],[],_,_=>rfl
 |[],_::_,h,_=>by cases h
 |_::_,[],h,_=>by cases h
 |u::us,e::ds,h,k=>by
  rw[List.countP_cons,List.countP_cons,k 0 u e rfl rfl,OP (us:=us) (ds:=ds) (by simpa using h) λi u e h1 h2=>k (i+1) u e (by simpa using h1) (by simpa using h2)]
theorem WG{as:List ah}(ra:ReadsAll h us ds as)(s1:ds.all SeqAt.shaped):us.countP (dO us ds d)=ds.countP λe=>PyData.eqv e d:=
 OP (xE ra) λi u e h1 h2=>Jj ra s1 h1 h2
section
variable{X:Cx}
noncomputable def WH(K:aI)(tup:Bool):V->List V->Hp->VK->Prop:=λx vs H Q=>∃p xs y ds d,x=.ref p/\vs=[y]/\(if tup then cD K H p xs else cM K H p xs)/\kY K (λ_=>False) H xs ds/\Rp K (λ_=>False) H y d/\ds.all SeqAt.shaped=true/\SeqAt.shaped d=true/\
 Q (.int (ds.countP λe=>PyData.eqv e d:Nat)) H
theorem WI(hu:X.A.in1.units+64<cLine):F7 X "list.count" (WH X.K false):=by
 intro pins s σ H x vs v us Q I rx rv h;obtain⟨p,xs,y,ds,d,rfl,rfl,hq,r1,r2,s1,s2,q⟩:=h;cases rx;obtain⟨u,rfl,ru⟩:=rv.one;obtain⟨bs,rb⟩:=r2.reads I ru;simp only[eT,dg]at hq;obtain⟨its,r,pl,hz⟩:=I.list hq;obtain⟨as,ra⟩:=r1.reads I r;obtain⟨⟨c,dd,dt,sl⟩,n,e1,e2,e4,e3⟩:=pl
 replace e2:c=.type "list":=e2
 replace e3:dt=.seq its.toArray n:=e3;subst e2 e3;refine uJ PySem.F.slot_list_count ⟨_,e1,rfl⟩ PySem.F.entry_list_count (PySem.F.args_list_count_2 _ _) (SeqAt.list_countAt p its.toArray n dd sl u (dO its ds d)) ⟨e1,λw hw=>zP ?_ ra rb s1 s2 w (by simpa using hw),?_⟩;exact hu;refine⟨.int _,H,I.tok _,⟨_,rfl⟩,?_⟩;rw[show its.toArray.toList=its from rfl,WG ra s1];exact q
end
noncomputable def Jk:Option Int->aa->Bool|none,.none=>true|some i,v=>Value.isInt i v|none,_=>false
noncomputable def gT:Option Int->Int|none=>0xFCA86420|some i=>hashInt i
theorem sM:∀{k:Option Int} {v:aa},Jk k v=true->(k=aC/\v=.none)\/∃i t,k=aB i/\v=.int i t
 |none,v,h=>by cases v<;>first|exact .inl ⟨rfl,rfl⟩|cases h
 |some i,v,h=>by
  obtain⟨t,e⟩:=Value.isInt_shape (k:=i) (v:=v) h;exact .inr ⟨i,t,rfl,e⟩
theorem WJ{Q:Int->af->Prop}(h:Q 0xFCA86420 {s with toks:=s.toks+1}):wpAny (model prog w) A (PySem.pyHash .none) Q E s:=by
 have hT:s.TypeIs .none "NoneType":=rfl;unfold pyHash;refine aK (wpAny_cRoomFor_or (.inl rfl) ?_);refine aK (zg hT FF.lookup ?_);show wpAny _ _ (if(aB (Value.builtin "NoneType.__hash__")==aB Value.none)=true then _ else _) Q E s;rw[if_neg (by rw[beq_builtin_none];exact iZ)];refine aK (zg hT FF.lookup ?_);show wpAny _ _ (callSpecialIfBoundUnlessNone? .none "__hash__" _ >>= _) Q E s;refine aK (wpAny_callSpecialIfBoundUnlessNone?_slot hT FF
  (rR FF hT F.entry_NoneType_hash
    (show wpAny _ _ (do ret (<-mkInt 0xFCA86420)) _ _ s from wpAny_ret_mkInt ?_) (F.args_NoneType_hash_1 _)))
 show wpAny _ _ (if(decide (-(2:Int) ^ 63<=0xFCA86420)&&decide ((0xFCA86420:Int)<2 ^ 63))=true then _ else _) Q E _;rw[if_pos (by decide)];exact br h
noncomputable def mH(prog:ai)(w:aj):KeyKind prog w (Option Int)where
 is:=Jk
 hash:=gT
 inj:=λv a b ha hb=>by
  rcases sM ha with⟨rfl,rfl⟩|⟨i,t,rfl,rfl⟩
  .rcases sM hb with⟨rfl,_⟩|⟨j,u,rfl,e⟩
   .rfl
   .cases e
  .rcases sM hb with⟨rfl,e⟩|⟨j,u,rfl,e⟩
   .cases e
   .cases e;rfl
 byValue:=λk v h=>by
  rcases sM h with⟨rfl,rfl⟩|⟨i,t,rfl,rfl⟩<;>rfl
 pyHash:=λhv h=>by
  rcases sM hv with⟨rfl,rfl⟩|⟨i,t,rfl,rfl⟩
  .exact WJ h
  .exact wpAny_pyHash_int h
 eqBool:=λ{A E s a b u v Q} hu hv h=>by
  rcases sM hu with⟨rfl,rfl⟩|⟨i,t,rfl,rfl⟩
  .rcases sM hv with⟨rfl,rfl⟩|⟨j,u,rfl,rfl⟩
   .exact SeqAt.EqAt.same (A:=A) (s:=s) .none prog w E Q (by simpa using h)
   .exact SeqAt.EqAt.none_int (A:=A) (s:=s) j u prog w E Q (by simpa using h)
  .rcases sM hv with⟨rfl,rfl⟩|⟨j,u,rfl,rfl⟩
   .exact SeqAt.EqAt.int_none (A:=A) (s:=s) i t prog w E Q (by simpa using h)
   .refine wpAny_eqBool_int ?_
    by_cases e:i=j
    .subst e;simpa using h
    .have e':(i==j)=false:=by simpa using e
     rw[e'];simpa[e]using h
 «strs»:=λk x t v h=>by
  rcases sM h with⟨_,e⟩|⟨i,t,_,e⟩<;>cases e
noncomputable abbrev DK:=List Int×Option Int
section
variable(prog:ai)(w:aj)
noncomputable def fQ(h:az)(k:DK)(a:ah):Prop:=∃o n b v,h.get? a=aB o/\o.cls=.type "tuple"/\o.data=.seq #[.ref b,v] n/\IsTupleKey (intKind prog w) h k.1 b/\Jk k.2 v=true
noncomputable def Jl(k:DK):Int:=reduceHash (Builtin.Tuple.tupleHashOf [tupleKeyHash (intKind prog w) k.1,gT k.2])
variable{prog w}
theorem fQ.typeIs{s:af}{k:DK}{a:ah}(x:fQ prog w s.heap k a):s.TypeIs (.ref a) "tuple":=let⟨o,_,_,_,ho,hc,_⟩:=x;⟨o,ho,hc⟩
theorem fQ.inj{a:ah}{x y:DK}(hx:fQ prog w h x a)(hy:fQ prog w h y a):x=y:=by
 obtain⟨o,n,b,v,ho,_,hd,hi,hv⟩:=hx;obtain⟨o',n',b',v',ho',_,hd',hi',hv'⟩:=hy;obtain rfl:o=o':=lz (ho.symm.trans ho');rw[hd]at hd';injection hd' with h1 _;have h2:=k8 Array.toList h1;simp only[List.cons.injEq,and_true,Value.ref.injEq]at h2;obtain⟨rfl,rfl⟩:=h2;exact Prod.ext (hi.inj hi') ((mH prog w).inj _ _ _ hv hv')
theorem fQ.keeps{k:DK}{a d:ah}{es ep}(x:fQ prog w h k a)(ho:h.get? d=aB o)(hd:o.data=.dict es ep)(hs:Heap.SameBut d h h'):fQ prog w h' k a:=by
 obtain⟨o',n,b,v,ho',hc,hd',hi,hv⟩:=x;have hne:a≠d:=by
  rintro rfl;obtain rfl:o'=o:=lz (ho'.symm.trans ho);rw[hd]at hd';exact nomatch hd'
 exact⟨o',n,b,v,(hs.2 a hne).trans ho',hc,hd',hi.keeps ho hd hs,hv⟩
variable{A:ak}{E:aa->af->Prop}{s:af}
theorem WK{k:DK}{a:ah}{Q:Int->af->Prop}(hu:A.units+1<cLine)(hk:fQ prog w s.heap k a)(h:Q (Jl prog w k) {s with toks:=s.toks+ (k.1.length+3)}) :
 wpAny (model prog w) A (pyHash (.ref a)) Q E s:=by
 have hT:=hk.typeIs;obtain⟨o,n,b,v,ho,_,hd,hi,hv⟩:=hk;unfold pyHash;refine aK (wpAny_cRoomFor_or (.inr (by lia)) ?_);refine aK (zg hT FG.lookup ?_);show wpAny _ _ (if(aB (Value.builtin "tuple.__hash__")==aB Value.none)=true then _ else _) Q E s;rw[if_neg (by rw[beq_builtin_none];exact iZ)];refine aK (zg hT FG.lookup ?_);show wpAny _ _ (callSpecialIfBoundUnlessNone? (.ref a) "__hash__" _ >>= _) Q E s;refine aK (wpAny_callSpecialIfBoundUnlessNone?_slot hT FG (rR FG hT F.entry_tuple_hash ?_ (F.args_tuple_hash_1 _)));show wpAny _ _ (Builtin.Tuple.tupleItemsOf (.ref a) >>= _) _ _ s;refine aK (wpAny_tupleItemsOf ho hd ?_);refine aK ?_;rw[<-Array.forIn_toList];refine E6 _
  (λrest (acc:Array Int) s'=>(rest=[.ref b,v]/\acc.toList=[]/\s'=s)\/(rest=[v]/\acc.toList=[tupleKeyHash (intKind prog w) k.1]/\s' ={s with toks:=s.toks+ (k.1.length+1)})\/(rest=[]/\acc.toList=[tupleKeyHash (intKind prog w) k.1,gT k.2]/\s' ={s with toks:=s.toks+ (k.1.length+1)+1}))
  _ ?_ ?_ _ _ (.inl ⟨rfl,rfl,rfl⟩)
 rintro x rest acc s' (⟨e,ha,rfl⟩|⟨e,ha,rfl⟩|⟨e,_⟩);cases e;refine aK (wpAny_pyHash_tuple hu hi ?_);first
  |exact br (.inr (.inl ⟨rfl,by simp[ha],rfl⟩))
  |exact aK (br (br (.inr (.inl ⟨rfl,by simp[ha],rfl⟩))))
 cases e;refine aK ((mH prog w).pyHash (k:=k.2) hv ?_);first
  |exact br (.inr (.inr ⟨rfl,by simp[ha];rfl,rfl⟩))
  |exact aK (br (br (.inr (.inr ⟨rfl,by simp[ha];rfl,rfl⟩))))
 cases e;rintro acc s' (⟨e,_⟩|⟨e,_⟩|⟨_,ha,rfl⟩);cases e;cases e;show wpAny _ _ (retInt (Builtin.Tuple.tupleHashOf acc.toList)) _ _ _;rw[ha];refine wpAny_ret_mkInt ?_;show wpAny _ _ (if(decide (-(2:Int) ^ 63<=Builtin.Tuple.tupleHashOf [tupleKeyHash (intKind prog w) k.1,gT k.2])&&decide (Builtin.Tuple.tupleHashOf [tupleKeyHash (intKind prog w) k.1,gT k.2]<2 ^ 63))=true then _ else _) Q E _;unfold Jl reduceHash at h;by_cases hr:(decide (-(2:Int) ^ 63<=Builtin.Tuple.tupleHashOf [tupleKeyHash (intKind prog w) k.1,gT k.2])&&decide (Builtin.Tuple.tupleHashOf [tupleKeyHash (intKind prog w) k.1,gT k.2]<2 ^ 63))=true;rw[if_pos hr];rw[if_pos hr]at h;exact br (by simpa[Nat.add_assoc]using h);rw[if_neg hr];rw[if_neg hr]at h;exact aK (zh (br (by simpa[Nat.add_assoc]using h)))
theorem WL{x y:DK}{a b:ah}{P:Fin->af->Prop}(hu:A.units<cLine)(hx:fQ prog w s.heap x a)(hy:fQ prog w s.heap y b)(h:P (.done (.ret (.bool (decide (x=y))))) s) :
 wpAny (model prog w) A (Builtin.«tuple.__eq__» ⟨[.ref a,.ref b],[]⟩) P E s:=by
 have hTb:=hy.typeIs;obtain⟨oa,na,a1,v1,hoa,_,hda,WM,WN⟩:=hx;obtain⟨ob,nb,b1,v2,hob,_,hdb,hib,WO⟩:=hy;show wpAny _ _ (isInstance (.ref b) (.type "tuple") >>= _) _ _ s;refine aK (E5 hTb isSubtype_tuple_tuple ?_);simp only[k9,eT,dg];refine aK (wpAny_tupleItemsOf hoa hda ?_);refine aK (wpAny_tupleItemsOf hob hdb ?_);refine aK ?_;refine E6 _
  (λrest r s'=>r.1=aC/\s'=s/\((rest=[(Value.ref a1,Value.ref b1),(v1,v2)])\/(rest=[(v1,v2)]/\x.1=y.1)\/(rest=[]/\x=y)))
  _ ?_ ?_ _ _ ⟨rfl,rfl,.inl rfl⟩
 rintro⟨u,v⟩ rest r s' ⟨hr,rfl,e|⟨e,hxy⟩|⟨e,_⟩⟩;cases e;refine aK (wpAny_eqBool_tuple hu WM hib ?_);by_cases hk:x.1=y.1;rw[uG hk];simp only[k9,eT,dg];exact br ⟨rfl,rfl,.inr (.inl ⟨(by first|rfl|trivial),hk⟩)⟩;rw[jP hk];simp only[vec,bX];have hf:decide (x=y)=false:=jP λz=>hk (by rw[z]);rw[hf]at h;exact aK (br (br (br h)));cases e;refine aK ((mH prog w).eqBool (a:=x.2) (b:=y.2) WN WO ?_);by_cases hk:x.2=y.2;rw[uG hk];simp only[k9,eT,dg];exact br ⟨rfl,rfl,.inr (.inr ⟨(by first|rfl|trivial),Prod.ext hxy hk⟩)⟩;rw[jP hk];simp only[vec,bX];have hf:decide (x=y)=false:=jP λz=>hk (by rw[z]);rw[hf]at h;exact aK (br (br (br h)));cases e;rintro⟨r1,r2⟩ s' ⟨hr,rfl,e|⟨e,_⟩|⟨_,e⟩⟩;cases e;cases e;simp only at hr;subst hr;refine br ?_;rw[uG e]at h;exact h
theorem WQ{x y:DK}{a b:ah}{Q:Bool->af->Prop}(hu:A.units+1<cLine)(hx:fQ prog w s.heap x a)(hy:fQ prog w s.heap y b)(h:Q (decide (x=y)) s) :
 wpAny (model prog w) A (eqBool (.ref a) (.ref b)) Q E s:=by
 unfold eqBool
 try with_reducible refine mh ?_
 show wpAny _ _ (if(Value.ref a==Value.ref b)=true then _ else _) Q E s;by_cases hab:(Value.ref a==Value.ref b)=true;rw[if_pos hab];have e:a=b:=by have:=eq_of_beq hab;injection this
 subst e;obtain rfl:=hx.inj hy;exact aK (zh (br (by simpa using h)));rw[if_neg hab];exact aK (wpAny_richCompare_same_room (op:=.Eq) hx.typeIs hy.typeIs FI
  (rR FI hx.typeIs F.entry_tuple_eq (WL hu hx hy ⟨_,rfl,(λe=>nomatch e),oH h⟩) (F.args_tuple_eq_2 _ _)) (by lia))
theorem WR{n:Nat}{a:ah}{Q:Bool->af->Prop}(hk:IsTupleKey (intKind prog w) s.heap ks a)(h:Q true s):wpAny (model prog w) A (eqIsQuiet (n+1) (.ref a)) Q E s:=by
 have hT:=hk.typeIs;obtain⟨o,items,m,ho,_,hd,hi⟩:=hk;unfold eqIsQuiet;refine aK (zg hT FI.lookup ?_);show wpAny _ _ (isInstance (.ref a) (.type "tuple") >>= _) _ _ s;refine aK (E5 hT isSubtype_tuple_tuple ?_);simp only[k9,eT,dg];refine aK (qQ ho hd ?_);refine aK ?_;show wpAny _ _ (forIn items _ _) _ _ s;rw[<-Array.forIn_toList];refine E6 _ (λrest r s'=>r.1=aC/\s'=s/\∀v∈rest,carriedByValue v=true) _ ?_ ?_ _ _ ⟨rfl,rfl,hi.byValue⟩;rintro v rest r s' ⟨hr,rfl,hall⟩;rw[eqIsQuiet_byValue _ (hall v fy)];refine aK (br ?_);simp only[k9,eT,dg];exact br ⟨rfl,rfl,λu WS=>hall u (eU _ WS)⟩;rintro⟨r1,r2⟩ s' ⟨hr,rfl,_⟩;simp only at hr;subst hr;exact br h
theorem WT{k:DK}{a:ah}{Q:Bool->af->Prop}(hk:fQ prog w s.heap k a)(h:Q true s):wpAny (model prog w) A (eqIsQuiet 8 (.ref a)) Q E s:=by
 have hT:=hk.typeIs;obtain⟨o,n,b,v,ho,_,hd,hi,hv⟩:=hk;unfold eqIsQuiet;refine aK (zg hT FI.lookup ?_);show wpAny _ _ (isInstance (.ref a) (.type "tuple") >>= _) _ _ s;refine aK (E5 hT isSubtype_tuple_tuple ?_);simp only[k9,eT,dg];refine aK (qQ ho hd ?_);refine aK ?_;show wpAny _ _ (forIn #[.ref b,v] _ _) _ _ s;rw[<-Array.forIn_toList];refine E6 _ (λrest r s'=>r.1=aC/\s'=s/\(rest=[.ref b,v]\/rest=[v]\/rest=[])) _ ?_ ?_ _ _ ⟨rfl,rfl,.inl rfl⟩;rintro u rest r s' ⟨hr,rfl,e|e|e⟩;cases e;refine aK (WR hi ?_);simp only[k9,eT,dg];exact br ⟨rfl,rfl,.inr (.inl (by first|rfl|trivial))⟩;cases e;rw[eqIsQuiet_byValue _ ((mH prog w).byValue _ _ hv)];refine aK (br ?_);simp only[k9,eT,dg];exact br ⟨rfl,rfl,.inr (.inr (by first|rfl|trivial))⟩;cases e;rintro⟨r1,r2⟩ s' ⟨hr,rfl,_⟩;simp only at hr;subst hr;exact br h
end
noncomputable def jl(prog:ai)(w:aj):HeapKind prog w DK where
 is:=fQ prog w
 hash:=Jl prog w
 draws:=λk=>k.1.length+3
 room:=λA=>A.units+1<cLine
 inj:=λhx hy=>hx.inj hy
 keeps:=λx ho hd hs=>x.keeps ho hd hs
 pyHash:=λhu hk h=>WK hu hk h
 eqBool:=λhu hx hy h=>WQ hu hx hy h
 quiet:=λhk h=>WT hk h
noncomputable def OQ(k:DK):Int:=reduceHash (Builtin.Tuple.tupleHashOf [reduceHash (Builtin.Tuple.tupleHashOf (k.1.map hashInt)),gT k.2])
noncomputable def WU:Option Int->V|none=>.aG|some i=>.int i
noncomputable abbrev DX:=List (DK×ah×V)
noncomputable abbrev B5(xs:DX)(us:List (DK×ah×aa)):Prop:=Paired (λ(p:DK×ah×V) (q:DK×ah×aa)=>p.1=q.1/\p.2.1=q.2.1/\RelV p.2.2 q.2.2) xs us
noncomputable def Jm(xs:DX)(a:ah)(h:az):Prop:=xs.length<=sizeLine/\(a==sysModules)=false/\(xs.map (·.1)).Nodup/\∃us,B5 xs us/\∃o es ep,h.get? a=aB o/\o.ExactDict/\o.data=.dict es ep/\es.toList=us.map λx=>⟨OQ x.1,.ref x.2.1,x.2.2⟩
noncomputable def lJ(xs:DX)(a:ah):HO:=.ext (Jm xs a)
theorem OR{a:ah}(e:Jm xs a h):bx P w H h a (lJ xs a):=by
 refine⟨e,?_,?_⟩;obtain⟨_,_,_,us,_,o,_,_,h1,_⟩:=e;exact⟨o,h1⟩;rintro h1 h2 ⟨a1,a2,a3,us,a4,o,es,ep,b1,b2⟩ k;exact⟨a1,a2,a3,us,a4,o,es,ep,k o b1,b2⟩
theorem OS{a:ah}(ok:eF P w H h)(e:H a=aB (lJ xs a)):Jm xs a h:=(ok a _ e).1
noncomputable def dj(K:aI)(H:Hp)(k:DK)(b:ah):Prop:=∃c,cD K H b [.ref c,WU k.2]/\cD K H c (k.1.map .int)
noncomputable def DT(K:aI)(H:Hp)(a:ah)(xs:DX):Prop:=(H a=aB (lJ xs a)/\∀p∈xs,dj K H p.1 p.2.1)\/(xs=[]/\Rd H a (.dK []))
noncomputable def bN(xs:DX)(k:DK):Option (ah×V):=(xs.find? λx=>decide (x.1=k)).map (·.2)
noncomputable def iM(xs:DX)(k:DK)(b:ah)(v:V):DX:=if(bN xs k).isSome then xs.map (λx=>if x.1=k then(x.1,x.2.1,v)else x)else xs++[(k,b,v)]
theorem Gi{us:List (DK×ah×aa)}(r:B5 xs us)(k:DK):(bN xs k=aC/\atKey us k=aC)\/∃p q,bN xs k=aB p/\atKey us k=aB q/\RelV p.2 q.2:=by
 induction r with
 |nil=>exact .inl ⟨rfl,rfl⟩
 | @cons p q ps qs h t ih=>
  obtain⟨h1,h2,h3⟩:=h;by_cases e:p.1=k;refine .inr ⟨p.2,q.2,?_,?_,h3⟩;simp[bN,lq,e];simp[atKey,lq,h1.symm.trans e];have e':¬q.1=k:=λz=>e (h1.trans z);have b1:bN (p::ps) k=bN ps k:=by simp[bN,lq,e]
  have b2:atKey (q::qs) k=atKey qs k:=by simp[atKey,lq,e']
  rw[b1,b2];exact ih
theorem WV{us:List (DK×ah×aa)}(r:B5 xs us)(k:DK)(b:ah)(rv:RelV v u):B5 (iM xs k b v) (storedH us k b u):=by
 unfold iM storedH;have e:(bN xs k).isSome=(atKey us k).isSome:=by
  rcases Gi r k with⟨h1,h2⟩|⟨p,q,h1,h2,_⟩<;> (rw[h1,h2];rfl)
 rw[e];by_cases z:(atKey us k).isSome=true;rw[if_pos z,if_pos z];clear e z;induction r with
 |nil=>exact .nil
 | @cons p q ps qs h t ih=>
  rw[cP,cP];refine .cons ?_ ih;obtain⟨h1,h2,h3⟩:=h;unfold putAt;by_cases e:p.1=k;rw[if_pos e,if_pos (h1.symm.trans e)];exact⟨h1,h2,rv⟩;rw[if_neg e,if_neg (λz=>e (h1.trans z))];exact⟨h1,h2,h3⟩
 rw[if_neg z,if_neg z];exact Paired.snoc r ⟨rfl,rfl,rv⟩
theorem WW(xs:DX)(k:DK)(b:ah)(v:V):(iM xs k b v).length<=xs.length+1:=by
 unfold iM;split;rw[bV];lia;rw[gh];exact bq _
section
variable{X:Cx}{pins:List (ah×Obj)}{σ:St}{H:Hp}{s:af}{a b:ah}{k:DK}{xs:DX}{v:V}{r:aa}{A:ak}{E:aa->af->Prop}
theorem OT:∀{ls:List Int} {us:List aa},Vals (ls.map .int) us->ItemsAre (intKind X.prog X.w) ls us
 |[],_,.nil=>.nil
 |x::ls,_,.cons h t=>by
  obtain⟨t',rfl⟩:=h;exact .cons (by show Value.isInt x (.int x t')=true;simp[Value.isInt]) (OT t)
theorem dj.is(I:Inv X pins σ H s)(h:dj X.K H k b):fQ X.prog X.w s.heap k b:=by
 obtain⟨c,h1,h2⟩:=h;obtain⟨its,r1,⟨o,e1,e2,n,e3⟩,_⟩:=I.tuple h1;obtain⟨its2,r2,⟨o2,f1,f2,n2,f3⟩,_⟩:=I.tuple h2;cases r1 with
 | @cons _ u0 _ us0 q1 q2=>
  cases q2 with
  | @cons _ u1 _ us1 q3 q4=>
   cases q4;have q1:u0=.ref c:=q1;subst q1;refine⟨o,n,c,u1,e1,e2,e3,⟨o2,its2.toArray,n2,f1,f2,f3,OT r2⟩,?_⟩;cases z:k.2 with|none=>rw[z]at q3;cases q3;rfl|some i=>rw[z]at q3;obtain⟨t,rfl⟩:=q3;show Value.isInt i (.int i t)=true;simp[Value.isInt]
theorem DT.dict(I:Inv X pins σ H s)(h:DT X.K H a xs):xs.length<=sizeLine/\(a==sysModules)=false/\∃us,B5 xs us/\s.heap.DictOfH (jl X.prog X.w) a us:=by
 rcases h with⟨e,hk⟩|⟨rfl,e⟩;obtain⟨a1,a2,a3,us,a4,o,es,ep,b1,b2,b3,b4⟩:=OS I.hok e;refine⟨a1,a2,us,a4,o,es,ep,b1,b2,b3,b4,?_,?_⟩;intro x hx;have:∃p∈xs,p.1=x.1/\p.2.1=x.2.1:=by
  clear a1 a3 b4 hk e;induction a4 with
  |nil=>cases hx
  | @cons p q ps qs h t ih=>
   rcases gq.mp hx with rfl|hx;exact⟨p,fy,h.1,h.2.1⟩;obtain⟨p',h1,h2⟩:=ih hx;exact⟨p',eU _ h1,h2⟩
 obtain⟨p,hp,h1,h2⟩:=this;have:=dj.is I (hk p hp);rw[h1,h2]at this;exact this;have:us.map (·.1)=xs.map (·.1):=by
  clear a1 a3 b4 hk e;induction a4 with|nil=>rfl| @cons p q ps qs h t ih=>rw[cP,cP,ih,h.1]
 rw[this];exact a3;obtain⟨z,y,vs,r,o,es,ep,b1,b2,b3,b4,b5,b6⟩:=kh I.hok e;cases r;refine⟨i8 _,y,[],.nil,o,es,ep,b1,b2,b3,?_,(λx hx=>nomatch hx),List.nodup_nil⟩;generalize es.toList=l at b5 ⊢;cases b5;rfl
theorem WX{p:ah×V}(hu:A.units+2<cLine)(I:Inv X pins σ H s)(d:DT X.K H a xs)(kk:dj X.K H k b)(g:bN xs k=aB p)(h:∀w' s',Inv X pins σ H s'->RelV p.2 w'->Q w' s') :
 wpAny (model X.prog X.w) A (getItem (.ref a) (.ref b)) Q E s:=by
 obtain⟨_,_,us,r,dd⟩:=d.dict I;rcases Gi r k with⟨h1,_⟩|⟨p',q,h1,h2,h3⟩;rw[g]at h1;cases h1;rw[g]at h1;cases h1;exact wpAny_getItem_heap (knd:=jl X.prog X.w) (by show A.in1.units+1<cLine;exact hu) (kk.is I) dd h2 (h _ _ (I.tok _) h3)
theorem B6(hu:A.units+2<cLine)(I:Inv X pins σ H s)(d:DT X.K H a xs)(kk:dj X.K H k b)(h:∀s',Inv X pins σ H s'->Q (.bool (bN xs k).isSome) s') :
 wpAny (model X.prog X.w) A (compareOp .In (.ref b) (.ref a)) Q E s:=by
 obtain⟨_,y,us,r,dd⟩:=d.dict I;have e:(bN xs k).isSome=(atKey us k).isSome:=by
  rcases Gi r k with⟨h1,h2⟩|⟨p,q,h1,h2,_⟩<;> (rw[h1,h2];rfl)
 refine wpAny_in_heap (knd:=jl X.prog X.w) (by show A.in1.units+1<cLine;exact hu) (kk.is I) y dd ?_;rw[<-e];exact h _ (I.tok _)
theorem WY(hu:A.units+2<cLine)(I:Inv X pins σ H s)(d:DT X.K H a xs)(kk:dj X.K H k b)(h:∀s',Inv X pins σ H s'->Q (.bool (!(bN xs k).isSome)) s') :
 wpAny (model X.prog X.w) A (compareOp .NotIn (.ref b) (.ref a)) Q E s:=by
 obtain⟨_,y,us,r,dd⟩:=d.dict I;have e:(bN xs k).isSome=(atKey us k).isSome:=by
  rcases Gi r k with⟨h1,h2⟩|⟨p,q,h1,h2,_⟩<;> (rw[h1,h2];rfl)
 refine wpAny_notIn_heap (knd:=jl X.prog X.w) (by show A.in1.units+1<cLine;exact hu) (kk.is I) y dd ?_;rw[<-e];exact h _ (I.tok _)
theorem WZ{Q:Unit->af->Prop}(hu:A.units+2<cLine)(I:Inv X pins σ H s)(d:DT X.K H a xs)(mu:uO (H a))(kk:dj X.K H k b)(hz:xs.length<sizeLine)(rv:RelV v r)(h:∀s',Inv X pins σ (upd H a (lJ (iM xs k b v) a)) s'->Q () s') :
 wpAny (model X.prog X.w) A (setItem (.ref a) (.ref b) r) Q E s:=by
 obtain⟨_,y,us,rl,dd⟩:=d.dict I;refine wpAny_setItem_heap (knd:=jl X.prog X.w) (hsz:=by rw[<-AL rl];lia) (by show A.in1.units+1<cLine;exact hu) (kk.is I) dd λh' xH hs=>h _ ?_;obtain⟨q,es,ep,hq,h2,h3,h4,_,h5⟩:=xH;have pr:=WV rl k b rv;refine Jc I mu hs ⟨q,hq⟩ (OR ⟨?_,y,?_,_,pr,q,es,ep,hq,h2,h3,h4⟩);have:=WW xs k b v;lia;have:(iM xs k b v).map (·.1)=(storedH us k b r).map (·.1):=by
  generalize iM xs k b v=ys at pr;generalize storedH us k b r=zs at pr;clear h4 h5;induction pr with|nil=>rfl| @cons p q ps qs h t ih=>rw[cP,cP,ih,h.1]
 rw[this];exact h5
end
end L2
namespace L2
open PySem PySem.Spec PyProof.Rows PySem.W
open AutoSeq1 (wpAny_loadPart')
noncomputable def DE(h:az)(d:ah)(es:Array DictEntry)(ep:Nat):Prop:=∃o,h.get? d=aB o/\o.ExactDict/\o.data=.dict es ep
theorem DE.ty{s:af}{d:ah}{es:Array DictEntry}{ep:Nat}(x:DE s.heap d es ep):s.TypeIs (.ref d) "dict":=let⟨o,a,b,_⟩:=x;⟨o,a,b.1⟩
end L2
namespace L2
open PySem PySem.Spec PyProof.Rows PySem.W
section
variable{X:Cx}{pins:List (ah×Obj)}{σ:St}{H:Hp}{s:af}{a b:ah}{k:DK}{xs:DX}
theorem DT.de(I:Inv X pins σ H s)(h:DT X.K H a xs):∃(es:Array DictEntry) (ep:Nat),DE s.heap a es ep/\es.size=xs.length/\∀(i:Nat) (p:DK×ah×V),xs[i]?=aB p->∃e:DictEntry,es[i]?=aB e/\e.key=Value.ref p.2.1:=by
 obtain⟨g1,_,us,r,o,es,ep,b1,b2,b3,b4,g2⟩:=h.dict I;clear h g1 g2;refine⟨es,ep,⟨o,b1,b2,b3⟩,?_,λi p hp=>?_⟩;rw[<-Fy,b4,bV,AL r];have:∃q,us[i]?=aB q/\p.2.1=q.2.1:=by
  clear b4;revert i;induction r with
  |nil=>intro i hp;simp at hp
  | @cons p0 q0 ps qs h t ih=>
   intro i hp;cases i with|zero=>simp at hp;subst hp;exact⟨q0,rfl,h.2.1⟩|succ i=>exact ih i (by simpa using hp)
 obtain⟨q,h1,h2⟩:=this;refine⟨⟨OQ q.1,.ref q.2.1,q.2.2⟩,?_,by rw[h2]⟩;rw[<-Array.getElem?_toList,b4,nu,h1];rfl
noncomputable def sN(K:aI)(neg:Bool):R2:=λx y H Q=>∃a b xs k,y=.ref a/\x=.ref b/\DT K H a xs/\dj K H k b/\Q (.bl (if neg then !(bN xs k).isSome else(bN xs k).isSome)) H
theorem W0(hu:X.A.units+2<cLine):dN X (compareOp .In) (sN X.K false):=by
 intro pins s σ H x y v u Q I rx ry h;obtain⟨a,b,xs,k,rfl,rfl,d,kk,q⟩:=h;cases rx;cases ry;exact B6 hu I d kk λs' I'=>⟨.bl _,H,I',rfl,q⟩
theorem W2(hu:X.A.units+2<cLine):dN X (compareOp .NotIn) (sN X.K true):=by
 intro pins s σ H x y v u Q I rx ry h;obtain⟨a,b,xs,k,rfl,rfl,d,kk,q⟩:=h;cases rx;cases ry;exact WY hu I d kk λs' I'=>⟨.bl _,H,I',rfl,q⟩
theorem DT.typeIs(I:Inv X pins σ H s)(h:DT X.K H a xs):s.TypeIs (.ref a) "dict":=let⟨_,_,d,_⟩:=h.de I;d.ty
noncomputable def B7(K:aI):R2:=λx y H Q=>∃a b xs k p,x=.ref a/\y=.ref b/\DT K H a xs/\dj K H k b/\bN xs k=aB p/\Q p.2 H
theorem B8(hu:X.A.units+2<cLine):rA X (B7 X.K):=by
 intro value slice pins s σ H x y v u Q I rx ry q hs;obtain⟨a,b,xs,k,p,rfl,rfl,d,kk,g,q⟩:=q;cases rx;cases ry;exact tail_any (d.typeIs I) PySem.F.slot_dict_getitem.lookup (WX hu I d kk g λw' s3 I3 rw'=>⟨p.2,H,I3,rw',q⟩) hs
noncomputable def B9(K:aI):V->V->V->Hp->(Hp->Prop)->Prop:=λo i v H Q=>∃a b xs k,o=.ref a/\i=.ref b/\DT K H a xs/\uO (H a)/\dj K H k b/\xs.length<sizeLine/\Q (upd H a (lJ (iM xs k b v) a))
theorem W3(hu:X.A.units+2<cLine):lD X (B9 X.K):=by
 intro pins s σ H o i v ov iv u Q I ro ri rv h;obtain⟨a,b,xs,k,rfl,rfl,d,mu,kk,hz,q⟩:=h;cases ro;cases ri;exact WZ hu I d mu kk hz rv λs' I'=>⟨_,I',q⟩
theorem lD.or{t t':V->V->V->Hp->(Hp->Prop)->Prop}(h:lD X t)(h':lD X t'):lD X (λo i v H Q=>t o i v H Q\/t' o i v H Q):=by
 intro pins s σ H o i v ov iv u Q I ro ri rv q;rcases q with q|q
 exact h pins s σ H o i v ov iv u Q I ro ri rv q;exact h' pins s σ H o i v ov iv u Q I ro ri rv q
noncomputable def W4(K:aI)(mG:List (TE×TE)):TE:=λσ H Q=>∀p,H p=aC->Gb mG σ (upd H p (.dK [])) λps H2=>H2 p=aB (.dK [])/\((∃kvs:List (Key×V),ps=kvs.map (λkv=>(kV kv.1,kv.2))/\kvs.length<=15/\Q (.ref p) (upd H2 p (.dK (u7 [] kvs))))\/
 ∃b k v,ps=[(.ref b,v)]/\dj K H2 k b/\Q (.ref p) (upd H2 p (lJ [(k,b,v)] p)))
theorem W5{keys:List (Option ao)}{mG:List (TE×TE)}(hu:X.A.units+2<cLine)(h:BV X pos keys values mG)(hall:keys.all (·.isSome))(hl:keys.length=values.length)(h0:keys≠[])
 (Jo:keys.length<=15):PE X (.Dict keys values pos) (W4 X.K mG):=by
 intro pins s σ H Q I q;have hn:=I.hok.fresh (bq s.heap.objs.size);have I1:=I.laid (a:=s.heap.objs.size) (o:=.dK []) (h':=s.heap.push {cls:=.type "dict",data:=.dict #[]}) (t':=s.toks) (λ_ _ q=>cu _ q) (bq _) (OG s.heap I.big);refine wpAny_Dict_any hall hl h0 Jo (bw (h pins _ σ _ _ I1 (q _ hn)) λws s2 cR=>?_);obtain⟨ps,H2,I2,rel,e,q2⟩:=cR;unfold storeAll;rcases q2 with⟨kvs,ep,lk,q2⟩|⟨b,k,v,ep,kk,q2⟩
 subst ep;obtain⟨rs,c,rk⟩:=OI (P:=X.prog) (w:=X.w) rel;obtain⟨z,hd,Jp,r0,dd⟩:=BU I2.hok e;cases r0;have hr:rs.length=kvs.length:=(AL rk).symm;refine wpAny_storeAll (knd:=lA X.prog X.w) ws rs [] s2 _ c dd (by rw[qY,rS];lia) λh' xH hs=>⟨.ref s.heap.objs.size,_,?_,rfl,q2⟩
 have hz:(u7 [] kvs).length<=sizeLine:=by
  have h1:=OH kvs [];rw[qY]at h1;rw[rS];lia
 have he:∃q,h'.get? s.heap.objs.size=aB q:=let⟨q,_,_,hq,_⟩:=xH;⟨q,hq⟩;exact Jc I2 (by rw[e];exact True.intro) hs he (V1 hz hd (rk.merge .nil) xH);subst ep;cases rel with
 | @cons p0 w0 ps0 W6 rp rr=>
  cases rr;obtain⟨w1,w2⟩:=w0;obtain⟨r1,r2⟩:=rp;cases r1;have d:DT X.K H2 s.heap.objs.size []:=.inr ⟨rfl,.inl e⟩;obtain⟨_,y,us,rl,dd⟩:=d.dict I2;cases rl;rw[zy];refine aK (aK (wpAny_dictSet_heap (knd:=jl X.prog X.w) (hsz:=by simp) (by show X.A.units+1<cLine;lia) (kk.is I2) dd λh' xH hs=>br ?_));show wpAny _ _ (pure _) _ _ _;refine br ⟨.ref s.heap.objs.size,_,?_,rfl,q2⟩;obtain⟨q,es,ep,hq,h2,h3,h4,_,h5⟩:=xH;refine Jc I2 (by rw[e];exact True.intro) hs ⟨q,hq⟩ (OR ⟨by rw[rS];exact Nat.le_add_left 1 16777215,y,by simp,[(k,b,w2)],.cons ⟨rfl,rfl,r2⟩ .nil,q,es,ep,hq,h2,h3,h4⟩)
end
end L2
namespace RF
open PySem
inductive W where
 |aG|bl (b:Bool)|int (i:Int)|str (x:Str)|tup (ws:List W)|fz (ws:List W)|ref (i:Nat)
mutual
noncomputable def W.lt(n:Nat):W->Bool|.tup ws=>W.jU n ws|.fz ws=>W.jU n ws|.ref i=>Nat.blt i n|_=>true
noncomputable def W.jU(n:Nat):List W->Bool|[]=>true|w::ws=>W.lt n w&&W.jU n ws
end
inductive VO where
 |lst (ws:List W)|dk (kvs:List (L2.Key×W))|dt (ks ws:List W)|ins (C:ah) (xs:List Str) (ws:List W)
structure VH where
 n:Nat
 lo:Nat
 os:List VO
noncomputable def VH.get(h:VH)(i:Nat):Option VO:=if Nat.blt i h.n then h.os[h.n-1-i]? else aC
noncomputable def VH.set(h:VH)(i:Nat)(o:VO):VH:=⟨h.n,if Nat.blt i h.lo then i else h.lo,h.os.set (h.n-1-i) o⟩
noncomputable def VH.new(h:VH)(o:VO):VH:=⟨h.n+1,h.lo,o::h.os⟩
inductive Res(α:Type)where
 |ok (a:α) (h:VH)|ex (x:W) (h:VH)|no
noncomputable def Res.bind{α β:Type}(r:Res α)(f:α->VH->Res β):Res β:=match r with|.ok a h=>f a h|.ex x h=>.ex x h|.no=>.no
noncomputable def Res.of{α:Type}(o:Option α)(h:VH):Res α:=match o with|some a=>.ok a h|none=>.no
inductive Op where
 |add|sub|mul|fdiv|mod|shl|pow
 deriving DecidableEq
inductive Cp where
 |eq|ne|lt|le|gt|ge|vd|pB|Jq|sO
 deriving DecidableEq
inductive Ty where
 |int|bool|tuple|list|str|dict
 deriving DecidableEq
inductive Bi where
 |len|list|tuple|int|abs|max|min|all|Jr
 deriving DecidableEq
inductive Mt where
 |append
 deriving DecidableEq
inductive Kd where
 |seq|eL|nH|zip
 deriving DecidableEq
inductive Tg where
 |one (i:Nat)|many (is:List Nat)
 deriving DecidableEq
inductive E where
 |var (i:Nat)|cst (w:W)
 |nil|cons (a r:E)
 |tup (a:E)|lst (a:E)|rE (a:E)
 |op (o:Op) (a b:E)|neg (a:E)
 |cmp (c:Cp) (a b:E)|xJ (c d:Cp) (a b e:E)
 |not (a:E)|and (a b:E)|or (a b:E)|kZ (a:E)|ite (c a b:E)
 |idx (a b:E)|slc (a:E) (bl:Bool) (lo:E) (bh:Bool) (hi:E)
 |call (f:Nat) (a:E)|bi (b:Bi) (a:E)|rF (t:Ty) (a:E)|mt (m:Mt) (o a:E)
 |lc (k:Kd) (a:E) (t:Tg) (ow:Nat) (ix:List Nat) (c e:E)
 |k6 (C:ah) (x:Str) (a:E)
 |mk (C:ah) (f:Nat) (a:E)|jm (C:ah) (mt:Str) (f:Nat) (o a:E)
inductive S where
 |skip|seq (a b:S)|set (i:Nat) (e:E)|oA (is:List Nat) (e:E)|aug (i:Nat) (o:Op) (e:E)
 |sat (C:ah) (x:Str) (o v:E)|put (o i v:E)|ite (c:E) (a b:S)|ret (e:E)|expr (e:E)|brk|cnt
 |for (k:Kd) (a:E) (t:Tg) (b:S)|zR (c:E) (b:S)|nI (f:Nat) (a:E) (tb:List (Nat×W))|jc (f:Nat) (a:E) (b:Bool) (s t:S)|no
noncomputable abbrev En:=List (Option W)
inductive Fl where
 |nx (ρ:En)|rt (w:W)|bk (ρ:En)|ct (ρ:En)
noncomputable def aW{α β:Type}(f:α->Option β):List α->Option (List β)
 |[]=>aB []
 |a::r=>match f a with
  |some b=>(match aW f r with
   |some bs=>aB (b::bs)
   |none=>aC)
  |none=>aC
noncomputable def toD(h:VH):Nat->W->Option aA
 |0,_=>aC
 |n+1,w=>match w with
  |.aG=>aB .none
  |.bl b=>aB (.bool b)
  |.int i=>aB (.int i)
  |.str x=>aB (.str x)
  |.tup ws=>(aW (toD h n) ws).map .tuple
  |.fz ws=>(aW (toD h n) ws).map .list
  |.ref i=>match h.get i with
   |some (.lst ws)=>(aW (toD h n) ws).map .list
   |_=>aC
noncomputable def dG(h:VH)(x y:W):Option Bool:=
 match toD h 24 x,toD h 24 y with|some d,aB e=>if SeqAt.shaped d&&SeqAt.shaped e then aB (PyData.eqv d e)else aC|_,_=>aC
noncomputable def big:Nat:=16777216
noncomputable def rG(i:Int):Bool:=decide (-(2 ^ 64)<i)&&decide (i<2 ^ 64)
noncomputable def fM:Op->Int->Int->Option Int|.add,i,j=>aB (i+j)|.sub,i,j=>aB (i-j)|.mul,i,j=>if rG i||rG j then aB (i*j)else aC|.fdiv,i,j=>if decide (0<j)&&decide (j<1073741824)then aB (i/j)else aC|.mod,i,j=>if decide (0<j)then aB (i % j)else aC|.shl,i,j=>if decide (0<=j)&&decide (j<=1000000)&&decide (i.natAbs<2 ^ 64)then aB (i*2 ^ j.toNat)else aC|.pow,i,j=>if decide (0<=j)&&decide (j<=1000000)&&decide (i.natAbs<2 ^ 64)then aB (i ^ j.toNat)else aC
noncomputable def Gj:Op->List W->List W->Option (List W)|.add,xs,ys=>if Nat.ble (xs.length+ys.length) big then aB (xs++ys)else aC|_,_,_=>aC
noncomputable def Js:Op->List W->List W->Option (List W)|.add,xs,ys=>if Nat.ble (xs.length+ys.length) big then aB (xs++ys)else aC|_,_,_=>aC
noncomputable def fits(i:Int):Bool:=decide (-(2 ^ 62)<=i)&&decide (i<2 ^ 62)
noncomputable def kj(o:Op)(xs:List W)(k:Int):Option (List W):=match o with|.mul=>if fits k&&Nat.ble (xs.length*k.toNat) big then aB (bI k.toNat xs).flatten else aC|_=>aC
noncomputable def fk(o:Op)(x y:W)(h:VH):Res W:=match x,y with
 |.int i,.int j=>.of ((fM o i j).map .int) h
 |.tup xs,.tup ys=>.of ((Gj o xs ys).map .tup) h
 |.tup xs,.int k=>.of ((kj o xs k).map .tup) h
 |.ref i,.ref j=>match h.get i,h.get j with
  |some (.lst xs),aB (.lst ys)=>(match Js o xs ys with
   |some zs=>.ok (.ref h.n) (h.new (.lst zs))
   |none=>.no)
  |_,_=>.no
 |_,_=>.no
noncomputable def zS(o:Op)(x y:W)(h:VH):Res W:=match x,y with
 |.int i,.int j=>(match o with
  |.add=>.ok (.int (i+j)) h
  |_=>.no)
 |_,_=>.no
noncomputable def gm:Cp->Int->Int->Option Bool|.lt,i,j=>aB (decide (i<j))|.le,i,j=>aB (decide (i<=j))|.gt,i,j=>aB (decide (j<i))|.ge,i,j=>aB (decide (j<=i))|_,_,_=>aC
noncomputable def cQ:W->Bool|.aG=>true|_=>false
noncomputable def aO(h:VH):W->Option (List W)
 |.tup ws=>aB ws
 |.fz ws=>aB ws
 |.ref i=>match h.get i with
  |some (.lst ws)=>aB ws
  |_=>aC
 |_=>aC
noncomputable def intD:W->Option Int|.int i=>aB i|_=>aC
noncomputable def dW:W->Option L2.DK|.tup [.tup ws,.aG]=>(aW intD ws).map λis=>(is,aC)|.tup [.tup ws,.int i]=>(aW intD ws).map λis=>(is,aB i)|_=>aC
noncomputable def fC:List W->List W->L2.DK->Option W|k::ks,w::ws,d=>if dW k=aB d then aB w else fC ks ws d|_,_,_=>aC
noncomputable def inD(h:VH)(x y:W):Option Bool:=match y with
 |.ref a=>(match h.get a,dW x with
  |some (.dt ks ws),aB k=>aB (fC ks ws k).isSome
  |_,_=>aC)
 |_=>aC
noncomputable def sP(h:VH)(a:Nat)(y:W):Option W:=match h.get a,dW y with|some (.dt ks ws),aB k=>fC ks ws k|_,_=>aC
noncomputable def ko(h:VH)(x y:W):Option Bool:=match aO h y,toD h 24 x with
 |some ws,aB d=>(match aW (toD h 24) ws with
  |some ds=>if ds.all SeqAt.shaped&&SeqAt.shaped d then aB (L2.fU ds d)else aC
  |none=>aC)
 |_,_=>inD h x y
noncomputable def aV(c:Cp)(h:VH)(x y:W):Option Bool:=match c with
 |.Jq=>ko h x y
 |.sO=>(ko h x y).map (!·)
 |.eq=>dG h x y
 |.ne=>(dG h x y).map (!·)
 |.vd=>if cQ y then aB (cQ x)else aC
 |.pB=>if cQ y then aB (!cQ x)else aC
 |c=>match x,y with
  |.int i,.int j=>gm c i j
  |_,_=>aC
noncomputable def nJ(h:VH):W->Option Bool
 |.bl b=>aB b
 |.int i=>aB (i != 0)
 |.aG=>aB false
 |.tup ws=>aB (!ws.isEmpty)
 |.ref i=>match h.get i with
  |some (.lst ws)=>aB (!ws.isEmpty)
  |_=>aC
 |_=>aC
noncomputable def xK:W->Option L2.Key|.int i=>aB (.inl i)|.str x=>aB (.inr x)|_=>aC
noncomputable def dH(kvs:List (L2.Key×W))(k:L2.Key):Option W:=(kvs.find? λkv=>decide (kv.1=k)).map (·.2)
noncomputable def pC(kvs:List (L2.Key×W))(k:L2.Key)(w:W):List (L2.Key×W):=
 if(kvs.any λkv=>decide (kv.1=k))=true then kvs.map (λkv=>if kv.1=k then(kv.1,w)else kv)else kvs++[(k,w)]
noncomputable def aZ(h:VH)(x y:W):Option W:=match x,y with
 |.tup ws,.int i=>L2.cy ws i
 |.fz ws,.int i=>L2.cy ws i
 |.ref a,.int i=>(match h.get a with
  |some (.lst ws)=>L2.cy ws i
  |some (.dk kvs)=>dH kvs (.inl i)
  |_=>aC)
 |.ref a,.str x=>(match h.get a with
  |some (.dk kvs)=>dH kvs (.inr x)
  |_=>aC)
 |.ref a,y=>sP h a y
 |_,_=>aC
noncomputable def fD(b:Bool)(w:W):Option (Option Int):=match b,w with|false,_=>aB aC|true,.int i=>aB (aB i)|_,_=>aC
noncomputable def cY(ws:List W)(lo hi:Option Int):List W:=(ws.drop (HT.bM ws.length 0 lo)).take (HT.bM ws.length ws.length hi-HT.bM ws.length 0 lo)
noncomputable def lK(x:W)(l u:Option Int)(h:VH):Res W:=match x with
 |.tup ws=>.ok (.tup (cY ws l u)) h
 |.ref i=>(match h.get i with
  |some (.lst ws)=>.ok (.ref h.n) (h.new (.lst (cY ws l u)))
  |_=>.no)
 |_=>.no
@[simp] theorem dX {ws:List W} {l u:Option Int} {h:VH}:lK (.tup ws) l u h=.ok (.tup (cY ws l u)) h:=rfl
noncomputable def dP:Ty->VH->W->Option Bool
 |t,_,.aG=>aB false
 |t,_,.bl _=>aB (t == .int||t == .bool)
 |t,_,.int _=>aB (t == .int)
 |t,_,.str _=>aB (t == .str)
 |t,_,.tup _=>aB (t == .tuple)
 |_,_,.fz _=>aC
 |t,h,.ref i=>match h.get i with
  |some (.lst _)=>aB (t == .list)
  |some (.dk _)=>aB (t == .dict)
  |some (.dt _ _)=>aB (t == .dict)
  |_=>aC
noncomputable def gz(xs:List W)(h:VH):Res W:=match xs with
 |[x]=>.of (match aO h x with
  |some ws=>aB (.int ws.length)
  |none=>aC) h
 |_=>.no
noncomputable def gU(xs:List W)(h:VH):Res W:=match xs with
 |[x]=>(match aO h x with
  |some ws=>.ok (.ref h.n) (h.new (.lst ws))
  |none=>.no)
 |_=>.no
noncomputable def xM(xs:List W)(h:VH):Res W:=match xs with
 |[x]=>.of (match aO h x with
  |some ws=>aB (.tup ws)
  |none=>aC) h
 |_=>.no
noncomputable def jF(xs:List W)(h:VH):Res W:=match xs with|[.int i]=>.ok (.int i) h|[.bl b]=>.ok (.int (if b then 1 else 0)) h|_=>.no
noncomputable def lM(xs:List W)(h:VH):Res W:=match xs with|[.int i]=>.ok (.int (if i<0 then -i else i)) h|_=>.no
noncomputable def sQ(xs:List W)(h:VH):Res W:=match xs with|[.int i,.int j]=>.ok (.int (if j>i then j else i)) h|_=>.no
noncomputable def lN(xs:List W)(h:VH):Res W:=match xs with|[.int i,.int j]=>.ok (.int (if j<i then j else i)) h|_=>.no
noncomputable def ve:W->Option Bool|.bl b=>aB b|_=>aC
noncomputable def nK(xs:List W)(h:VH):Res W:=match xs with
 |[.ref i]=>(match h.get i with
  |some (.lst ws)=>.of ((aW ve ws).map λbs=>.bl (bs.all id)) h
  |_=>.no)
 |_=>.no
noncomputable def Ca(j:Nat):List W:=(List.range' 0 j).map λ(i:Nat)=>W.int (0+ (i:Int))
noncomputable def vf(xs:List W)(h:VH):Res W:=match xs with|[.int i]=>if decide (0<=i)&&Nat.ble i.toNat big then .ok (.ref h.n) (h.new (.lst (Ca i.toNat)))else .no|_=>.no
noncomputable def gV(b:Bi)(xs:List W)(h:VH):Res W:=match b with|.abs=>lM xs h|.max=>sQ xs h|.min=>lN xs h|.all=>nK xs h|.Jr=>vf xs h|.len=>gz xs h|.list=>gU xs h|.tuple=>xM xs h|.int=>jF xs h
noncomputable def xN(m:Mt)(o:W)(xs:List W)(h:VH):Res W:=match m,o,xs with
 |.append,.ref i,[x]=>(match h.get i with
  |some (.lst ws)=>if Nat.blt ws.length big then .ok .aG (h.set i (.lst (ws++[x])))else .no
  |_=>.no)
 |_,_,_=>.no
noncomputable def Cb(m:Mt)(h:VH)(o:W):Bool:=match m,o with
 |.append,.ref i=>(match h.get i with
  |some (.lst _)=>true
  |_=>false)
 |_,_=>false
noncomputable def bZ(k:Kd)(x:W)(i:Nat)(h:VH):Option (Option W):=match k with
 |.seq=>(aO h x).map λws=>ws[i]?
 |.nH=>(match x with
  |.tup ws=>aB ((ws[i]?).map λw=>.tup [.int i,w])
  |_=>aC)
 |.zip=>(match x with
  |.tup [u,v]=>(match aO h u,aO h v with
   |some ws,aB zs=>aB (match ws[i]?,zs[i]? with
    |some a,aB b=>aB (.tup [a,b])
    |_,_=>aC)
   |_,_=>aC)
  |_=>aC)
 |.eL=>(match x with
  |.tup [.int j]=>if fits j then aB (if decide ((i:Int)<j)then aB (.int (0+i))else aC)else aC
  |_=>aC)
noncomputable def jn:List Nat->List W->En->Option En|[],[],ρ=>aB ρ|i::is,w::ws,ρ=>jn is ws (ρ.set i (aB w))|_,_,_=>aC
noncomputable def bJ(t:Tg)(w:W)(h:VH)(ρ:En):Option En:=match t with
 |.one i=>aB (ρ.set i (aB w))
 |.many is=>match aO h w with
  |some ws=>jn is ws ρ
  |none=>aC
noncomputable def fuel:Nat:=1000000
noncomputable def inner(ow:Nat)(ix:List Nat)(ρ:En):En:=bI ow aC++ix.map λj=>(ρ[j]?).join
noncomputable def iN(nx:Nat->VH->Option (Option W))(tg:W->VH->En->Option En)(c:En->VH->Res W)(e:En->VH->Res W):Nat->Nat->En->VH->List W->Res (List W)
 |0,_,_,_,_=>.no
 |f+1,i,ρ,h,acc=>match nx i h with
  |none=>.no
  |some aC=>.ok acc.reverse h
  |some (aB w)=>match tg w h ρ with
   |none=>.no
   |some ρ=>(c ρ h).bind λb h=>match b with
    |.bl true=>(e ρ h).bind λy h=>iN nx tg c e f (i+1) ρ h (y::acc)
    |.bl false=>iN nx tg c e f (i+1) ρ h acc
    |_=>.no
noncomputable def fm(nx:Nat->VH->Option (Option W))(tg:W->VH->En->Option En)(b:En->VH->Res Fl):Nat->Nat->En->VH->Res Fl
 |0,_,_,_=>.no
 |f+1,i,ρ,h=>match nx i h with
  |none=>.no
  |some aC=>.ok (.nx ρ) h
  |some (aB w)=>match tg w h ρ with
   |none=>.no
   |some ρ=>(b ρ h).bind λfl h=>match fl with
    |.nx ρ=>fm nx tg b f (i+1) ρ h
    |.ct ρ=>fm nx tg b f (i+1) ρ h
    |.bk ρ=>.ok (.nx ρ) h
    |.rt w=>.ok (.rt w) h
noncomputable def fE(c:En->VH->Res W)(b:En->VH->Res Fl):Nat->En->VH->Res Fl
 |0,_,_=>.no
 |f+1,ρ,h=>(c ρ h).bind λt h=>match t with
  |.bl false=>.ok (.nx ρ) h
  |.bl true=>(b ρ h).bind λfl h=>match fl with
   |.nx ρ=>fE c b f ρ h
   |.ct ρ=>fE c b f ρ h
   |.bk ρ=>.ok (.nx ρ) h
   |.rt w=>.ok (.rt w) h
  |_=>.no
noncomputable def vg:List W->Option (List (L2.Key×W))
 |[]=>aB []
 |k::v::r=>match xK k with
  |some k=>(match vg r with
   |some kvs=>aB ((k,v)::kvs)
   |none=>aC)
  |none=>aC
 |_=>aC
noncomputable def Gk(kvs more:List (L2.Key×W)):List (L2.Key×W):=more.foldl (λacc kv=>pC acc kv.1 kv.2) kvs
noncomputable def Cc:List (L2.Key×W)->VO|[]=>.dt [] []|kvs=>.dk (Gk [] kvs)
noncomputable def nM(ys:List W)(h:VH):Res W:=match ys with
 |[k,w]=>(match dW k with
  |some _=>.ok (.ref h.n) (h.new (.dt [k] [w]))
  |none=>.no)
 |_=>.no
noncomputable def putD(ρ:En)(a:Nat)(y w:W)(h:VH):Res Fl:=match h.get a,dW y with|some (.dt ks ws),aB k=>if(fC ks ws k).isNone&&Nat.blt ks.length big then .ok (.nx ρ) (h.set a (.dt (ks++[y]) (ws++[w])))else .no|_,_=>.no
noncomputable def dY(x:Str):List Str->List W->Option W|y::ys,w::ws=>if y=x then aB w else dY x ys ws|_,_=>aC
noncomputable def putN(x:Str):List Str->List Str|[]=>[x]|y::ys=>if y=x then y::ys else y::putN x ys
noncomputable def kq(x:Str)(w:W):List Str->List W->List W|y::ys,v::vs=>if y=x then w::vs else v::kq x w ys vs|_,_=>[w]
noncomputable def nN(C:ah)(x:Str)(o:W)(h:VH):Option W:=match o with
 |.ref i=>(match h.get i with
  |some (.ins D xs ws)=>if D=C then dY x xs ws else aC
  |_=>aC)
 |_=>aC
noncomputable def kr(ρ:En)(C:ah)(x:Str)(o w:W)(h:VH):Res Fl:=match o with
 |.ref i=>(match h.get i with
  |some (.ins D xs ws)=>if D=C&&Nat.blt xs.length 1000 then .ok (.nx ρ) (h.set i (.ins D (putN x xs) (kq x w xs ws)))else .no
  |_=>.no)
 |_=>.no
noncomputable def iO(C:ah)(m:Str)(h:VH)(x:W):Bool:=match x with
 |.ref i=>(match h.get i with
  |some (.ins D xs ws)=>decide (D=C)&& (dY m xs ws).isNone
  |_=>false)
 |_=>false
noncomputable abbrev Call:=Nat->List W->VH->Res W
noncomputable abbrev Gm(C:ah)(g:List W->VH->Res W):List W->VH->Res W:=λys h=>(g (.ref h.n::ys) (h.new (.ins C [] []))).bind λv h'=>if cQ v then .ok (.ref h.n) h' else .no
noncomputable def ev(cl:Call):E->En->VH->Res W
 |.var i,ρ,h=>.of (ρ[i]?).join h
 |.cst w,_,h=>.ok w h
 |.nil,_,h=>.ok (.tup []) h
 |.cons a r,ρ,h=>(ev cl a ρ h).bind λx h=>(ev cl r ρ h).bind λy h=>match y with
  |.tup ys=>.ok (.tup (x::ys)) h
  |_=>.no
 |.tup a,ρ,h=>(ev cl a ρ h).bind λy h=>match y with
  |.tup ys=>if Nat.ble ys.length 1000 then .ok (.tup ys) h else .no
  |_=>.no
 |.lst a,ρ,h=>(ev cl a ρ h).bind λy h=>match y with
  |.tup ys=>if Nat.ble ys.length 1000 then .ok (.ref h.n) (h.new (.lst ys))else .no
  |_=>.no
 |.rE a,ρ,h=>(ev cl a ρ h).bind λy h=>match y with
  |.tup ys=>(match vg ys with
   |some kvs=>if Nat.ble kvs.length 15 then .ok (.ref h.n) (h.new (Cc kvs))else .no
   |none=>nM ys h)
  |_=>.no
 |.op o a b,ρ,h=>(ev cl a ρ h).bind λx h=>(ev cl b ρ h).bind λy h=>fk o x y h
 |.neg a,ρ,h=>(ev cl a ρ h).bind λx h=>match x with
  |.int i=>.ok (.int (-i)) h
  |_=>.no
 |.cmp c a b,ρ,h=>(ev cl a ρ h).bind λx h=>(ev cl b ρ h).bind λy h=>.of ((aV c h x y).map .bl) h
 |.xJ c d a b e,ρ,h=>(ev cl a ρ h).bind λx h=>(ev cl b ρ h).bind λy h=>match aV c h x y with
  |some true=>(ev cl e ρ h).bind λz h=>.of ((aV d h y z).map .bl) h
  |some false=>.ok (.bl false) h
  |none=>.no
 |.not a,ρ,h=>(ev cl a ρ h).bind λx h=>match x with
  |.bl b=>.ok (.bl (!b)) h
  |_=>.no
 |.and a b,ρ,h=>(ev cl a ρ h).bind λx h=>match x with
  |.bl true=>ev cl b ρ h
  |.bl false=>.ok (.bl false) h
  |_=>.no
 |.or a b,ρ,h=>(ev cl a ρ h).bind λx h=>match x with
  |.bl true=>.ok (.bl true) h
  |.bl false=>ev cl b ρ h
  |_=>.no
 |.kZ a,ρ,h=>(ev cl a ρ h).bind λx h=>.of ((nJ h x).map .bl) h
 |.ite c a b,ρ,h=>(ev cl c ρ h).bind λx h=>match x with
  |.bl true=>ev cl a ρ h
  |.bl false=>ev cl b ρ h
  |_=>.no
 |.idx a b,ρ,h=>(ev cl a ρ h).bind λx h=>(ev cl b ρ h).bind λy h=>.of (aZ h x y) h
 |.slc a bl lo bh hi,ρ,h=>(ev cl a ρ h).bind λx h=>(ev cl lo ρ h).bind λl h=>(ev cl hi ρ h).bind λu h=>match fD bl l,fD bh u with
  |some l,aB u=>lK x l u h
  |_,_=>.no
 |.call f a,ρ,h=>(ev cl a ρ h).bind λy h=>match y with
  |.tup ys=>cl f ys h
  |_=>.no
 |.bi b a,ρ,h=>(ev cl a ρ h).bind λy h=>match y with
  |.tup ys=>gV b ys h
  |_=>.no
 |.rF t a,ρ,h=>(ev cl a ρ h).bind λx h=>.of ((dP t h x).map .bl) h
 |.mt m o a,ρ,h=>(ev cl o ρ h).bind λx h=>if Cb m h x then(ev cl a ρ h).bind λy h=>match y with
  |.tup ys=>xN m x ys h
  |_=>.no
  else .no
 |.lc k a t ow ix c e,ρ,h=>(ev cl a ρ h).bind λx h=>(iN (bZ k x) (bJ t) (ev cl c) (ev cl e) fuel 0 (inner ow ix ρ) h []).bind λys h=>if Nat.ble ys.length big then .ok (.ref h.n) (h.new (.lst ys))else .no
 |.mk C f a,ρ,h=>(ev cl a ρ h).bind λy h=>match y with
  |.tup ys=>Gm C (cl f) ys h
  |_=>.no
 |.jm C mt f o a,ρ,h=>(ev cl o ρ h).bind λx h=>if iO C mt h x then(ev cl a ρ h).bind λy h=>match y with
  |.tup ys=>cl f (x::ys) h
  |_=>.no
  else .no
 |.k6 C x a,ρ,h=>(ev cl a ρ h).bind λo h=>.of (nN C x o h) h
noncomputable def pD(tb:List (Nat×W))(ρ:En)(w:W)(h:VH):Res Fl:=match w with
 |.tup [_]=>.ok (.nx ρ) h
 |.int i=>(match tb.lookup i.toNat with
  |some w=>.ok (.rt w) h
  |none=>.no)
 |_=>.no
noncomputable def nO(b:Bool)(s t:En->VH->Res Fl)(ρ:En)(w:W)(h:VH):Res Fl:=match w with
 |.tup [x]=>if b then(match x with
  |.bl true=>t ρ h
  |.bl false=>s ρ h
  |_=>.no)else s ρ h
 |.int i=>.ok (.rt (.int i)) h
 |_=>.no
noncomputable def exs(cl:Call):S->En->VH->Res Fl
 |.skip,ρ,h=>.ok (.nx ρ) h
 |.seq a b,ρ,h=>(exs cl a ρ h).bind λfl h=>match fl with
  |.nx ρ=>exs cl b ρ h
  |fl=>.ok fl h
 |.set i e,ρ,h=>(ev cl e ρ h).bind λw h=>.ok (.nx (ρ.set i (aB w))) h
 |.oA is e,ρ,h=>(ev cl e ρ h).bind λw h=>.of ((bJ (.many is) w h ρ).map .nx) h
 |.aug i o e,ρ,h=>match(ρ[i]?).join with
  |some x=>(ev cl e ρ h).bind λy h=>(zS o x y h).bind λz h=>.ok (.nx (ρ.set i (aB z))) h
  |none=>.no
 |.sat C x o v,ρ,h=>(ev cl v ρ h).bind λw h=>(ev cl o ρ h).bind λo h=>kr ρ C x o w h
 |.put o i v,ρ,h=>(ev cl v ρ h).bind λw h=>(ev cl o ρ h).bind λx h=>(ev cl i ρ h).bind λy h=>match x,y with
  |.ref a,.int j=>(match h.get a with
   |some (.lst ws)=>(match L2.iw ws.length j with
    |some k=>.ok (.nx ρ) (h.set a (.lst (ws.set k w)))
    |none=>.no)
   |_=>.no)
  |.ref a,y=>putD ρ a y w h
  |_,_=>.no
 |.ite c a b,ρ,h=>(ev cl c ρ h).bind λx h=>match x with
  |.bl true=>exs cl a ρ h
  |.bl false=>exs cl b ρ h
  |_=>.no
 |.ret e,ρ,h=>(ev cl e ρ h).bind λw h=>.ok (.rt w) h
 |.expr e,ρ,h=>(ev cl e ρ h).bind λ_ h=>.ok (.nx ρ) h
 |.brk,ρ,h=>.ok (.bk ρ) h
 |.cnt,ρ,h=>.ok (.ct ρ) h
 |.for k a t b,ρ,h=>(ev cl a ρ h).bind λx h=>fm (bZ k x) (bJ t) (exs cl b) fuel 0 ρ h
 |.zR c b,ρ,h=>fE (ev cl c) (exs cl b) fuel ρ h
 |.nI f a tb,ρ,h=>(ev cl a ρ h).bind λy h=>match y with
  |.tup ys=>(cl f ys h).bind λw h=>pD tb ρ w h
  |_=>.no
 |.jc f a b s t,ρ,h=>(ev cl a ρ h).bind λy h=>match y with
  |.tup ys=>(cl f ys h).bind λw h=>nO b (exs cl s) (exs cl t) ρ w h
  |_=>.no
 |.no,_,_=>.no
structure Fn where
 ps:Nat
 n:Nat
 body:S
noncomputable def leave(h:VH)(w:W)(h':VH):Res W:=
 if Nat.ble h.n h'.lo&&W.lt h.n w then .ok w h else .ok w ⟨h'.n,if Nat.ble h.lo h'.lo then h.lo else h'.lo,h'.os⟩
noncomputable def run(F:Nat->Option Fn):Nat->Call
 |0,_,_,_=>.no
 |k+1,f,ws,h=>match F f with
  |some fn=>if Nat.beq ws.length fn.ps then
   (exs (run F k) fn.body (ws.map aB++bI (fn.n-fn.ps) aC) ⟨h.n,h.n,h.os⟩).bind λfl h'=>match fl with|.nx _=>leave h .aG h'|.rt w=>leave h w h'|_=>.no
   else .no
  |none=>.no
open L2 PyProof.Rows PySem.Spec
noncomputable def Fz(K:aI)(H:Hp)(a:ah)(xs:List V):Prop:=
 (∃o,H a=aB (.cG o (.lst xs)))\/∃(o:Obj) (its:Array aa) (n:Nat),K.lookup a=aB o/\o.cls=.type "list"/\o.dict=aC/\o.data=.seq its n/\its.size<=sizeLine/\Vals xs its.toList
theorem Fz.sq{K:aI}{H:Hp}{a:ah}{xs:List V}(h:Fz K H a xs):cM K H a xs:=h.elim (λ⟨o,q⟩=>.inl (.inr ⟨o,q⟩)) .inr
mutual
inductive aL(K:aI)(m:Nat->ah)(n:Nat)(H:Hp):V->W->Prop
 |aG:aL K m n H .aG .aG
 |bl (b:Bool):aL K m n H (.bl b) (.bl b)
 |int (i:Int):aL K m n H (.int i) (.int i)
 |str (x:Str):aL K m n H (.str x) (.str x)
 |tup {a:ah} {vs:List V} {ws:List W}:cD K H a vs->aE K m n H vs ws->aL K m n H (.ref a) (.tup ws)
 |fz {a:ah} {vs:List V} {ws:List W}:Fz K H a vs->aE K m n H vs ws->aL K m n H (.ref a) (.fz ws)
 |ref {i:Nat}:i<n->aL K m n H (.ref (m i)) (.ref i)
inductive aE(K:aI)(m:Nat->ah)(n:Nat)(H:Hp):List V->List W->Prop
 |nil:aE K m n H [] []
 |cons {v:V} {w:W} {vs:List V} {ws:List W}:aL K m n H v w->aE K m n H vs ws->aE K m n H (v::vs) (w::ws)
end
inductive aU(K:aI)(m:Nat->ah)(n:Nat)(H:Hp):List (Key×V)->List (Key×W)->Prop
 |nil:aU K m n H [] []
 |cons {k:Key} {v:V} {w:W} {vs:List (Key×V)} {ws:List (Key×W)}:aL K m n H v w->aU K m n H vs ws->aU K m n H ((k,v)::vs) ((k,w)::ws)
noncomputable def gA(K:aI)(m:Nat->ah)(n:Nat)(H:Hp)(a:ah):VO->Prop|.lst ws=>∃vs,H a=aB (.lst vs)/\aE K m n H vs ws|.dk kvs=>∃kv,Rd H a (.dK kv)/\aU K m n H kv kvs|.dt ks ws=>∃xs:DX,(H a=aB (lJ xs a)\/(xs=[]/\H a=aB (.dK [])))/\aW dW ks=aB (xs.map (·.1))/\aE K m n H (xs.map λx=>.ref x.2.1) ks/\aE K m n H (xs.map λx=>x.2.2) ws|.ins C xs ws=>∃dx vs,H a=aB (.ins C dx vs)/\vs.map (·.1)=xs/\aE K m n H (vs.map (·.2)) ws
structure Rel(K:aI)(m:Nat->ah)(h:VH)(H:Hp):Prop where
 obj:∀i,i<h.n->∃o,h.get i=aB o/\gA K m h.n H (m i) o
 inj:∀i j,i<h.n->j<h.n->m i=m j->i=j
 len:h.os.length=h.n
structure bS(m:Nat->ah)(n:Nat)(H:Hp)(m':Nat->ah)(n':Nat)(H':Hp):Prop where
 le:n<=n'
 same:∀i,i<n->m' i=m i
 new:∀i,n<=i->i<n'->H (m' i)=aC
 apart:∀i j,n<=i->i<n'->j<n->m' i≠m' j
 tup:∀b vs,H b=aB (.tup vs)->H' b=aB (.tup vs)
 cG:∀b o u,H b=aB (.cG o u)->H' b=aB (.cG o u)
 keep:∀b o,(∀i,i<n->m i≠b)->H b=aB o->H' b=aB o
section
variable{K:aI}{m m' m1 m2:Nat->ah}{n n' n1 n2:Nat}{h h':VH}{H H' H1 H2:Hp}
theorem bS.refl:bS m n H m n H:=⟨bq _,λ_ _=>rfl,λi a b=>absurd b (jQ.mpr a),λi j a b=>absurd b (jQ.mpr a),λ_ _ q=>q,λ_ _ _ q=>q,λ_ _ _ q=>q⟩
theorem bS.trans(a:bS m n H m1 n1 H1)(b:bS m1 n1 H1 m2 n2 H2):bS m n H m2 n2 H2 where
 le:=fS a.le b.le
 same:=λi hi=>(b.same i (ff hi a.le)).trans (a.same i hi)
 new:=λi hi hi2=>by
  by_cases hc:i<n1;rw[b.same i hc];exact a.new i hi hc;have hc:=jQ.mp hc;cases q:H (m2 i)with
  |none=>rfl
  |some o=>
   have q1:H1 (m2 i)=aC:=b.new i hc hi2;rw[a.keep _ o (λj hj z=>b.apart i j hc hi2 (ff hj a.le) ((b.same j (ff hj a.le)).trans ((a.same j hj).trans z)).symm) q]at q1;cases q1
 apart:=λi j hi hi2 hj=>by
  by_cases hc:i<n1;rw[b.same i hc,b.same j (ff hj a.le)];exact a.apart i j hi hc hj;exact b.apart i j (jQ.mp hc) hi2 (ff hj a.le)
 tup:=λc vs q=>b.tup c vs (a.tup c vs q)
 cG:=λc o u q=>b.cG c o u (a.cG c o u q)
 keep:=λc o hc q=>b.keep c o (λi hi=>by
  by_cases hl:i<n;rw[a.same i hl];exact hc i hl;intro z;have:=a.new i (jQ.mp hl) hi;rw[z,q]at this;cases this) (a.keep c o hc q)
theorem bS.W7{a:ah}(s:bS m n H m' n' H')(q:cD K H a vs):cD K H' a vs:=by
 rcases q with(q|⟨o,q⟩)|q;exact .inl (.inl (s.tup _ _ q));exact .inl (.inr ⟨o,s.cG _ _ _ q⟩);exact .inr q
theorem bS.fz{a:ah}(s:bS m n H m' n' H')(q:Fz K H a vs):Fz K H' a vs:=by
 rcases q with⟨o,q⟩|q;exact .inl ⟨o,s.cG _ _ _ q⟩;exact .inr q
mutual
theorem aL.stp(s:bS m n H m' n' H'):∀{v:V} {w:W},aL K m n H v w->aL K m' n' H' v w|_,_,.aG=>.aG|_,_,.bl b=>.bl b|_,_,.int b=>.int b|_,_,.str b=>.str b|_,_,.tup q r=>.tup (s.W7 q) (aE.stp s r)|_,_,.fz q r=>.fz (s.fz q) (aE.stp s r)|_,_,.ref (i:=i) q=>by rw[<-s.same i q];exact .ref (ff q s.le)
theorem aE.stp(s:bS m n H m' n' H'):∀{vs:List V} {ws:List W},aE K m n H vs ws->aE K m' n' H' vs ws|_,_,.nil=>.nil|_,_,.cons q r=>.cons (aL.stp s q) (aE.stp s r)
end
theorem aU.stp(s:bS m n H m' n' H'):∀{vs:List (Key×V)} {ws:List (Key×W)},aU K m n H vs ws->aU K m' n' H' vs ws|_,_,.nil=>.nil|_,_,.cons q r=>.cons (q.stp s) (aU.stp s r)
theorem aE.length:∀{vs:List V} {ws:List W},aE K m n H vs ws->vs.length=ws.length|_,_,.nil=>rfl|_,_,.cons _ r=>by rw[dh,dh,aE.length r]
theorem aE.get:∀{vs:List V} {ws:List W} {i:Nat} {w:W},aE K m n H vs ws->ws[i]?=aB w->∃v,vs[i]?=aB v/\aL K m n H v w
 |_,_,_,_,.nil,e=>by simp at e
 |_,_,0,_,.cons q _,e=>by simp at e;subst e;exact⟨_,rfl,q⟩
 |_,_,i+1,w,.cons _ r,e=>by
  obtain⟨v,h1,h2⟩:=aE.get (i:=i) (w:=w) r (by simpa using e);exact⟨v,by simpa using h1,h2⟩
theorem aE.append:∀{vs us:List V} {ws zs:List W},aE K m n H vs ws->aE K m n H us zs->aE K m n H (vs++us) (ws++zs)|_,_,_,_,.nil,r=>r|_,_,_,_,.cons q r,t=>.cons q (aE.append r t)
theorem aE.drop:∀(k:Nat) {vs:List V} {ws:List W},aE K m n H vs ws->aE K m n H (vs.drop k) (ws.drop k)|0,_,_,r=>r|_+1,_,_,.nil=>.nil|k+1,_,_,.cons _ r=>aE.drop k r
theorem aE.take:∀(k:Nat) {vs:List V} {ws:List W},aE K m n H vs ws->aE K m n H (vs.take k) (ws.take k)|0,_,_,r=>.nil|_+1,_,_,.nil=>.nil|k+1,_,_,.cons q r=>.cons q (aE.take k r)
theorem aE.set(q:aL K m n H v w):∀(k:Nat) {vs:List V} {ws:List W},aE K m n H vs ws->aE K m n H (vs.set k v) (ws.set k w)|_,_,_,.nil=>.nil|0,_,_,.cons _ r=>.cons q r|k+1,_,_,.cons p r=>.cons p (aE.set q k r)
theorem gA.stp{a:ah}(s:bS m n H m' n' H')(e:H' a=H a)(q:gA K m n H a o):gA K m' n' H' a o:=by
 cases o with|lst ws=>obtain⟨vs,h1,h2⟩:=q;exact⟨vs,e.trans h1,h2.stp s⟩|dk ws=>obtain⟨vs,h1,h2⟩:=q;exact⟨vs,h1.imp (λz=>e.trans z) λ⟨o,z⟩=>⟨o,e.trans z⟩,h2.stp s⟩|dt ks ws=>obtain⟨xs,h1,h0,h2,h3⟩:=q;exact⟨xs,h1.imp (λz=>e.trans z) λ⟨o,z⟩=>⟨o,e.trans z⟩,h0,h2.stp s,h3.stp s⟩|ins C xs ws=>obtain⟨dx,vs,h1,h0,h2⟩:=q;exact⟨dx,vs,e.trans h1,h0,h2.stp s⟩
theorem gA.some{a:ah}(q:gA K m n H a o):∃u,H a=aB u:=by
 cases o with
 |lst ws=>obtain⟨vs,h1,h2⟩:=q;exact⟨_,h1⟩
 |dk ws=>
  obtain⟨vs,h1,h2⟩:=q;rcases h1 with h1|⟨o,h1⟩<;>exact⟨_,h1⟩
 |dt ks ws=>
  obtain⟨xs,h1,_⟩:=q;rcases h1 with h1|⟨_,h1⟩<;>exact⟨_,h1⟩
 |ins C xs ws=>obtain⟨dx,vs,h1,_⟩:=q;exact⟨_,h1⟩
theorem fN{i j:Nat}:Nat.blt i j=true↔i<j:=by
 unfold Nat.blt;rw[rW];exact Iff.rfl
theorem fV{i:Nat}(q:h.get i=aB o):i<h.n:=by
 unfold VH.get at q;split at q;rename_i z;exact fN.mp z;cases q
theorem Rel.at_(r:Rel K m h H){i:Nat}(q:h.get i=aB o):gA K m h.n H (m i) o:=by
 obtain⟨o',h1,h2⟩:=r.obj i (fV q);rw[q]at h1;cases h1;exact h2
theorem Rel.lst(r:Rel K m h H){i:Nat}(q:h.get i=aB (.lst ws)):∃vs,H (m i)=aB (.lst vs)/\aE K m h.n H vs ws:=r.at_ q
theorem Rel.dk(r:Rel K m h H){i:Nat}{ws:List (Key×W)}(q:h.get i=aB (.dk ws)):∃vs,Rd H (m i) (.dK vs)/\aU K m h.n H vs ws:=r.at_ q
theorem Rel.dt(r:Rel K m h H){i:Nat}(q:h.get i=aB (.dt ks ws)):∃xs:DX,(H (m i)=aB (lJ xs (m i))\/(xs=[]/\H (m i)=aB (.dK [])))/\aW dW ks=aB (xs.map (·.1))/\aE K m h.n H (xs.map λx=>.ref x.2.1) ks/\aE K m h.n H (xs.map λx=>x.2.2) ws:=r.at_ q
theorem Rel.ins(r:Rel K m h H){i:Nat}{C:ah}{xs:List Str}(q:h.get i=aB (.ins C xs ws)):∃dx vs,H (m i)=aB (.ins C dx vs)/\vs.map (·.1)=xs/\aE K m h.n H (vs.map (·.2)) ws:=r.at_ q
theorem jV{i:Nat}(hi:i<h.n):(h.new o).get i=h.get i:=by
 unfold VH.get VH.new;have h1:Nat.blt i (h.n+1)=true:=fN.mpr (Fg hi);have h2:Nat.blt i h.n=true:=fN.mpr hi;simp only[h1,h2,bX];have:h.n+1-1-i=(h.n-1-i)+1:=by lia
 rw[this];rfl
theorem gW:(h.new o).get h.n=aB o:=by
 unfold VH.get VH.new;have h1:Nat.blt h.n (h.n+1)=true:=fN.mpr (lg _);simp only[h1,bX];have:h.n+1-1-h.n=0:=by lia
 rw[this];rfl
theorem Rel.alloc(r:Rel K m h H){p:ah}{o:VO}(hp:H p=aC)(hu:∀t,u≠.tup t)
 (ho:bS m h.n H (λi=>if i=h.n then p else m i) (h.n+1) (upd H p u)->gA K (λi=>if i=h.n then p else m i) (h.n+1) (upd H p u) p o) :
 bS m h.n H (λi=>if i=h.n then p else m i) (h.n+1) (upd H p u)/\Rel K (λi=>if i=h.n then p else m i) (h.new o) (upd H p u):=by
 have tr:∀i,i<h.n->m i≠p:=λi hi z=>by
  obtain⟨o',_,h2⟩:=r.obj i hi;obtain⟨u',h3⟩:=h2.some;rw[z,hp]at h3;cases h3
 have st:bS m h.n H (λi=>if i=h.n then p else m i) (h.n+1) (upd H p u):=by
  refine⟨oq _,λi hi=>by simp only[if_neg (fj hi)],λi hi hi2=>?_,λi j hi hi2 hj=>?_,λb vs q=>?_,λb o u q=>?_,λb o _ q=>?_⟩;have:i=h.n:=by lia
  subst this;simp only[bX];exact hp;have:i=h.n:=by lia
  subst this;simp only[bX,if_neg (fj hj)];exact(tr j hj).symm;rw[bR (ir q hp)];exact q;rw[bR (ir q hp)];exact q;rw[bR (ir q hp)];exact q
 refine⟨st,⟨λi hi=>?_,λi j hi hj z=>?_,?_⟩⟩;have hi:i<h.n+1:=hi;by_cases e:i=h.n;subst e;exact⟨o,gW,by simp only[bX];exact ho st⟩;have hl:i<h.n:=by lia
 obtain⟨o',h1,h2⟩:=r.obj i hl;refine⟨o',(jV hl).trans h1,?_⟩;simp only[if_neg e];exact gA.stp st (bR (tr i hl)) h2;have hi:i<h.n+1:=hi;have hj:j<h.n+1:=hj;by_cases e:i=h.n;by_cases e2:j=h.n;lia;simp only[if_pos e,if_neg e2]at z;exact absurd z.symm (tr j (by lia));by_cases e2:j=h.n;simp only[if_neg e,if_pos e2]at z;exact absurd z (tr i (by lia));simp only[if_neg e,if_neg e2]at z;exact r.inj i j (by lia) (by lia) z;show(o::h.os).length=h.n+1;rw[dh,r.len]
theorem W8(r:Rel K m h H){i:Nat}(hi:i<h.n):(h.set i o).get i=aB o:=by
 unfold VH.get VH.set;have h1:Nat.blt i h.n=true:=fN.mpr hi;simp only[h1,bX];rw[qW];rw[r.len];lia
theorem Jt{i j:Nat}(hi:i<h.n)(hj:j≠i):(h.set i o).get j=h.get j:=by
 unfold VH.get VH.set;by_cases h1:j<h.n;have h2:Nat.blt j h.n=true:=fN.mpr h1;simp only[h2,bX];rw[wR];lia;have h2:Nat.blt j h.n=false:=by
  cases q:Nat.blt j h.n with|false=>rfl|true=>exact absurd (fN.mp q) h1
 simp only[h2,eT,dg]
theorem Rel.write(r:Rel K m h H){i:Nat}{u u0:HO}(hi:i<h.n)(h0:H (m i)=aB u0)(hn:∀t,u0≠.tup t)(hf:∀o t,u0≠.cG o t)
 (ho:bS m h.n H m h.n (upd H (m i) u)->gA K m h.n (upd H (m i) u) (m i) o) :
 bS m h.n H m h.n (upd H (m i) u)/\Rel K m (h.set i o) (upd H (m i) u):=by
 have st:bS m h.n H m h.n (upd H (m i) u):=by
  refine⟨bq _,λ_ _=>rfl,λj a b=>absurd b (jQ.mpr a),λj k a b=>absurd b (jQ.mpr a),λb vs q=>?_,λb o t q=>?_,λb o nb q=>?_⟩;rw[bR (fB q h0 (λz=>hn vs z.symm))];exact q;rw[bR (fB q h0 (λz=>hf o t z.symm))];exact q;rw[bR (nb i hi).symm];exact q
 refine⟨st,⟨λj hj=>?_,λa b ha hb=>r.inj a b ha hb,?_⟩⟩;have hj:j<h.n:=hj;by_cases e:j=i;subst e;exact⟨o,W8 r hj,ho st⟩;obtain⟨o',h1,h2⟩:=r.obj j hj;exact⟨o',(Jt hi e).trans h1,gA.stp st (bR λz=>e (r.inj j i hj hi z)) h2⟩;show(h.os.set _ o).length=h.n;rw[zx,r.len]
theorem Rel.more(r:Rel K m h H){p:ah}(hp:H p=aC):bS m h.n H m h.n (upd H p u)/\Rel K m h (upd H p u):=by
 have st:bS m h.n H m h.n (upd H p u):=by
  refine⟨bq _,λ_ _=>rfl,λj a b=>absurd b (jQ.mpr a),λj k a b=>absurd b (jQ.mpr a),λb vs q=>?_,λb o t q=>?_,λb o nb q=>?_⟩;rw[bR (ir q hp)];exact q;rw[bR (ir q hp)];exact q;rw[bR (ir q hp)];exact q
 refine⟨st,⟨λj hj=>?_,r.inj,r.len⟩⟩;obtain⟨o',h1,h2⟩:=r.obj j hj;obtain⟨u',h3⟩:=h2.some;exact⟨o',h1,gA.stp st (bR (ir h3 hp)) h2⟩
end
theorem W9{α β:Type}{r:Res α}{f:α->VH->Res β}{b:β}(q:r.bind f=.ok b h'):∃a h1,r=.ok a h1/\f a h1=.ok b h':=by
 cases r with|ok a h=>exact⟨a,h,rfl,q⟩|ex x h=>cases q|no=>cases q
theorem bO{α β:Type}{r:Res α}{f:α->VH->Res β}{w:β}{P:Prop}(e:r.bind f=.ok w h')(k:∀x h1,r=.ok x h1->f x h1=.ok w h'->P):P:=by
 obtain⟨x,h1,a,b⟩:=W9 e;exact k x h1 a b
theorem of_ok{α:Type}{o:Option α}{a:α}(q:Res.of o h=.ok a h'):o=aB a/\h'=h:=by
 cases o with|none=>cases q|some b=>cases q;exact⟨rfl,rfl⟩
structure Fr(K:aI)(m:Nat->ah)(n:Nat)(H:Hp)(σ:L2.St)(ρ:En):Prop where
 len:σ.length=ρ.length
 val:∀(i:Nat)(w:W),ρ[i]?=aB (aB w)->∃v,σ[i]?=aB (aB v)/\aL K m n H v w
noncomputable abbrev FE:=En->VH->Res W
noncomputable abbrev FS:=En->VH->Res Fl
noncomputable def iP(K:aI)(f:FE):TE:=λσ H Q=>∃ρ h m w h',Fr K m h.n H σ ρ/\Rel K m h H/\f ρ h=.ok w h'/\
 ∀v H' m',bS m h.n H m' h'.n H'->Rel K m' h' H'->aL K m' h'.n H' v w->Q v H'
noncomputable def iA(K:aI)(f:FE):TT:=λσ H Q=>∃ρ h m b h',Fr K m h.n H σ ρ/\Rel K m h H/\f ρ h=.ok (.bl b) h'/\
 ∀H' m',bS m h.n H m' h'.n H'->Rel K m' h' H'->Q b H'
noncomputable def jd(K:aI)(f:FE):TA:=λσ H Q=>∃ρ h m ws h',Fr K m h.n H σ ρ/\Rel K m h H/\f ρ h=.ok (.tup ws) h'/\
 ∀vs H' m',bS m h.n H m' h'.n H'->Rel K m' h' H'->aE K m' h'.n H' vs ws->Q vs H'
section
variable{K:aI}{m:Nat->ah}{σ:L2.St}{H:Hp}{P:Prop}{fa:FE}{ρ:En}{h h':VH}
theorem iP.el(q:iP K fa σ H Q)(k:∀ρ h m w h',Fr K m h.n H σ ρ->Rel K m h H->fa ρ h=.ok w h'->(∀v H' m',bS m h.n H m' h'.n H'->Rel K m' h' H'->aL K m' h'.n H' v w->Q v H')->P):P:=by
 obtain⟨ρ,h,m,w,h',f,r,e,k'⟩:=q;exact k ρ h m w h' f r e k'
theorem iP.mk(f:Fr K m h.n H σ ρ)(r:Rel K m h H)(e:fa ρ h=.ok w h')(k:∀v H' m',bS m h.n H m' h'.n H'->Rel K m' h' H'->aL K m' h'.n H' v w->Q v H'):iP K fa σ H Q:=⟨ρ,h,m,w,h',f,r,e,k⟩
theorem iA.el{Q:Bool->Hp->Prop}(q:iA K fa σ H Q)(k:∀ρ h m b h',Fr K m h.n H σ ρ->Rel K m h H->fa ρ h=.ok (.bl b) h'->(∀H' m',bS m h.n H m' h'.n H'->Rel K m' h' H'->Q b H')->P):P:=by
 obtain⟨ρ,h,m,w,h',f,r,e,k'⟩:=q;exact k ρ h m w h' f r e k'
theorem iA.mk{Q:Bool->Hp->Prop}{b:Bool}(f:Fr K m h.n H σ ρ)(r:Rel K m h H)(e:fa ρ h=.ok (.bl b) h')(k:∀H' m',bS m h.n H m' h'.n H'->Rel K m' h' H'->Q b H'):iA K fa σ H Q:=⟨ρ,h,m,b,h',f,r,e,k⟩
theorem jd.el{Q:List V->Hp->Prop}(q:jd K fa σ H Q)(k:∀ρ h m ws h',Fr K m h.n H σ ρ->Rel K m h H->fa ρ h=.ok (.tup ws) h'->(∀vs H' m',bS m h.n H m' h'.n H'->Rel K m' h' H'->aE K m' h'.n H' vs ws->Q vs H')->P):P:=by
 obtain⟨ρ,h,m,w,h',f,r,e,k'⟩:=q;exact k ρ h m w h' f r e k'
theorem jd.mk{Q:List V->Hp->Prop}(f:Fr K m h.n H σ ρ)(r:Rel K m h H)(e:fa ρ h=.ok (.tup ws) h')(k:∀vs H' m',bS m h.n H m' h'.n H'->Rel K m' h' H'->aE K m' h'.n H' vs ws->Q vs H'):jd K fa σ H Q:=⟨ρ,h,m,ws,h',f,r,e,k⟩
end
noncomputable abbrev SE(X:Cx)(e:ao)(f:FE):Prop:=PE X e (iP X.K f)
noncomputable abbrev ST(X:Cx)(e:ao)(f:FE):Prop:=PT X e (iA X.K f)
noncomputable abbrev SW(X:Cx)(e:ao)(f:FE):Prop:=PW X e (iA X.K f)
noncomputable abbrev SA(X:Cx)(es:List ao)(f:FE):Prop:=PA X es (jd X.K f)
theorem _root_.L2.PE.imp(h:PE X e t)(k:∀σ H Q,t' σ H Q->t σ H Q):PE X e t':=λpins s σ H Q I q=>h pins s σ H Q I (k σ H Q q)
theorem _root_.L2.PT.imp(h:PT X e t)(k:∀σ H Q,t' σ H Q->t σ H Q):PT X e t':=λpins s σ H Q I q=>h pins s σ H Q I (k σ H Q q)
theorem _root_.L2.PW.imp(h:PW X e t)(k:∀σ H Q,t' σ H Q->t σ H Q):PW X e t':=λwh pins s σ H Q I q=>h wh pins s σ H Q I (k σ H Q q)
theorem _root_.L2.PA.imp(h:PA X es t)(k:∀σ H Q,t' σ H Q->t σ H Q):PA X es t':=λp pins s σ H Q I q=>h p pins s σ H Q I (k σ H Q q)
theorem _root_.L2.PS.imp{st:aq}(h:PS X st t)(k:∀D σ H,t' D σ H->t D σ H):PS X st t':=λpins s σ H D I q=>h pins s σ H D I (k D σ H q)
theorem _root_.L2.gu.imp{X:Cx}{st:List aq}{t t':TS}(h:gu X st t)(k:∀D σ H,t' D σ H->t D σ H):gu X st t':=λpins s σ H D I q=>h pins s σ H D I (k D σ H q)
section
variable{K:aI}{m m':Nat->ah}{n n':Nat}{h h':VH}{H H':Hp}{σ:L2.St}{ρ:En}
theorem Fr.stp(f:Fr K m n H σ ρ)(s:bS m n H m' n' H'):Fr K m' n' H' σ ρ:=⟨f.len,λi w e=>let⟨v,h1,h2⟩:=f.val i w e;⟨v,h1,h2.stp s⟩⟩
theorem Fr.set(f:Fr K m n H σ ρ)(q:aL K m n H v w)(i:Nat):Fr K m n H (σ.set i (aB v)) (ρ.set i (aB w)):=by
 refine⟨by rw[zx,zx];exact f.len,λj w' e=>?_⟩;by_cases hj:i=j;subst hj;by_cases hl:i<ρ.length;rw[qW hl]at e;cases e;exact⟨v,by rw[qW (by rw[f.len];exact hl)],q⟩;rw[List.getElem?_eq_none (by rw[zx];lia)]at e;cases e;rw[wR hj]at e;obtain⟨v',h1,h2⟩:=f.val j w' e;exact⟨v',by rw[wR hj];exact h1,h2⟩
noncomputable def aR(K:aI)(m:Nat->ah)(n:Nat)(H:Hp)(w:W)(h':VH)(Q:VK):Prop:=∀v H' m',bS m n H m' h'.n H'->Rel K m' h' H'->aL K m' h'.n H' v w->Q v H'
theorem aR.here(k:aR K m h.n H w h Q)(r:Rel K m h H)(q:aL K m h.n H v w):Q v H:=k v H m .refl r q
theorem aR.list(k:aR K m h.n H (.ref h.n) (h.new (.lst ws)) Q)(r:Rel K m h H)(q:aE K m h.n H vs ws){p:ah}(hp:H p=aC):Q (.ref p) (upd H p (.lst vs)):=by
 obtain⟨st,r'⟩:=r.alloc (o:=.lst ws) (u:=.lst vs) hp (λ_ z=>nomatch z) (λst=>⟨vs,eV,q.stp st⟩);refine k _ _ _ st r' ?_;have:aL K (λi=>if i=h.n then p else m i) (h.n+1) (upd H p (.lst vs)) (.ref ((λi=>if i=h.n then p else m i) h.n)) (.ref h.n):=.ref (lg _);simp only[bX]at this;exact this
theorem aR.Cd(k:aR K m h.n H (.ref h.n) (h.new (.dt ks ws)) Q)(r:Rel K m h H){p:ah}(hp:H p=aC)(hu:u=lJ xs p\/(xs=[]/\u=.dK []))(q0:aW dW ks=aB (xs.map (·.1)))(q1:aE K m h.n H (xs.map λx=>.ref x.2.1) ks)(q2:aE K m h.n H (xs.map λx=>x.2.2) ws):Q (.ref p) (upd H p u):=by
 obtain⟨st,r'⟩:=r.alloc (o:=.dt ks ws) (u:=u) hp (λt z=>by rcases hu with e|⟨_,e⟩<;> (rw[e]at z;exact nomatch z)) (λst=>⟨xs,hu.imp (λe=>by rw[eV,e]) λ⟨a,e⟩=>⟨a,by rw[eV,e]⟩,q0,q1.stp st,q2.stp st⟩);refine k _ _ _ st r' ?_;have:aL K (λi=>if i=h.n then p else m i) (h.n+1) (upd H p u) (.ref ((λi=>if i=h.n then p else m i) h.n)) (.ref h.n):=.ref (lg _);simp only[bX]at this;exact this
theorem aR.tuple(k:aR K m h.n H (.tup ws) h Q)(r:Rel K m h H)(q:aE K m h.n H vs ws){p:ah}(hp:H p=aC):Q (.ref p) (upd H p (.tup vs)):=by
 obtain⟨st,r'⟩:=r.more (u:=.tup vs) hp;exact k _ _ _ st r' (.tup (cD.of eV) (q.stp st))
theorem OU{fa:FE}{g:W->VH->Res W}{G:V->Hp->VK->Prop}
 (hG:∀(m:Nat->ah)(h:VH)(H:Hp)(v:V)(x w:W)(h':VH)(Q:VK),Rel K m h H->aL K m h.n H v x->g x h=.ok w h'->aR K m h.n H w h' Q->G v H Q) {Q:VK}
 (q:iP K (λρ h=>(fa ρ h).bind λx h=>g x h) σ H Q):iP K fa σ H λv H1=>G v H1 Q:=by
 refine q.el λρ h m w h' f r e k=>?_;refine bO e λx h1 e1 e2=>?_;exact(.mk f r e1 λv H1 m1 s1 r1 q1=>hG m1 h1 H1 v x w h' Q r1 q1 e2 λv' H' m' s' r' q'=>k v' H' m' (s1.trans s') r' q')
theorem Gn{fa fb:FE}{g:W->W->VH->Res W}{G:V->V->Hp->VK->Prop}
 (hG:∀(m:Nat->ah)(h:VH)(H:Hp)(v u:V)(x y w:W)(h':VH)(Q:VK),Rel K m h H->aL K m h.n H v x->aL K m h.n H u y->g x y h=.ok w h'->aR K m h.n H w h' Q->G v u H Q) {Q:VK}
 (q:iP K (λρ h=>(fa ρ h).bind λx h=>(fb ρ h).bind λy h=>g x y h) σ H Q):iP K fa σ H λv H1=>iP K fb σ H1 λu H2=>G v u H2 Q:=by
 refine q.el λρ h m w h' f r e k=>?_;refine bO e λx h1 e1 e2=>?_;refine bO e2 λy h2 e3 e4=>?_;refine(.mk f r e1 λv H1 m1 s1 r1 q1=>(.mk (f.stp s1) r1 e3 λu H2 m2 s2 r2 q2=>?_));exact hG m2 h2 H2 v u x y w h' Q r2 (q1.stp s2) q2 e4 λv' H' m' s' r' q'=>k v' H' m' ((s1.trans s2).trans s') r' q'
theorem vh{fa:FE}{g:List W->VH->Res W}{G:List V->Hp->VK->Prop}
 (hG:∀(m:Nat->ah)(h:VH)(H:Hp)(vs:List V)(xs:List W)(w:W)(h':VH)(Q:VK),Rel K m h H->aE K m h.n H vs xs->g xs h=.ok w h'->aR K m h.n H w h' Q->G vs H Q) {Q:VK}
 (q:iP K (λρ h=>(fa ρ h).bind λy h=>match y with|.tup ys=>g ys h|_=>.no) σ H Q):jd K fa σ H λvs H1=>G vs H1 Q:=by
 refine q.el λρ h m w h' f r e k=>?_;refine bO e λx h1 e1 e2=>?_;cases x with|tup ys=>exact(.mk f r e1 λvs H1 m1 s1 r1 q1=>hG m1 h1 H1 vs ys w h' Q r1 q1 e2 λv' H' m' s' r' q'=>k v' H' m' (s1.trans s') r' q')|_=>cases e2
theorem OV{Q:Bool->Hp->Prop}(q:iA K f σ H Q):iP K f σ H λx H'=>∃k,x=.bl k/\Q k H':=by
 refine q.el λρ h m b h' f r e k=>?_;exact(.mk f r e λv H' m' s' r' q'=>by cases q';exact⟨b,rfl,k H' m' s' r'⟩)
end
section
variable{X:Cx}{a b c e:ao}{es:List ao}{fa fb fc:FE}{pos:Pos}
theorem Xa{i:Nat}{x:Str}(hN:X.N[i]?=aB x)(hv:oN X.env.scope x)(hd:(x==("__debug__" : Str))=false)(hcd:(x==("__classdict__" : Str))=false):SE X (.Name x pos) (λρ h=>.of (ρ[i]?).join h):=
 (FQ hN hv hd hcd).imp λσ H Q z9=>z9.el λρ h m w h' f r e k=>by
   obtain⟨e1,e2⟩:=of_ok e;subst e2;have e3:ρ[i]?=aB (aB w):=by
    cases q:ρ[i]? with|none=>rw[q]at e1;cases e1|some o=>rw[q]at e1;rw[<-e1];rfl
   obtain⟨v,h1,h2⟩:=f.val i w e3;exact⟨v,h1,k v H m .refl r h2⟩
theorem Ce(h:PE X e (tC v))(hv:∀m n H,aL X.K m n H v w):SE X e (λ_ h=>.ok w h):=
 h.imp λσ H Q z9=>z9.el λρ h m w h' f r e k=>by cases e;exact k v H m .refl r (hv m h.n H)
theorem Xb{i j pos}:SE X (.Constant (.int i) j pos) (λ_ h=>.ok (.int i) h):=Ce Nf λ_ _ _=>.int i
theorem Cf{i j pos}:SE X (.Constant (.bool i) j pos) (λ_ h=>.ok (.bl i) h):=Ce uQ λ_ _ _=>.bl i
theorem Xc{j pos}:SE X (.Constant .none j pos) (λ_ h=>.ok .aG h):=Ce Tf λ_ _ _=>.aG
theorem Xd{i j pos}:SE X (.Constant (.str i) j pos) (λ_ h=>.ok (.str i) h):=Ce HK λ_ _ _=>.str i
theorem Ju:SA X [] (λ_ h=>.ok (.tup []) h):=rz.imp λσ H Q z9=>z9.el λρ h m ws h' f r e k=>by cases e;exact k [] H m .refl r .nil
theorem Gp(ha:SE X e fa)(hr:SA X es fb)(hs:starEach (e::es) X.env=(false,eval e X.env)::starEach es X.env) :
 SA X (e::es) (λρ h=>(fa ρ h).bind λx h=>(fb ρ h).bind λy h=>match y with|.tup ys=>.ok (.tup (x::ys)) h|_=>.no):=
 (ou ha hr hs).imp λσ H Q z9=>z9.el λρ h m ws h' f r e k=>by
   refine bO e λx h1 e1 e2=>?_;refine bO e2 λy h2 e3 e4=>?_;cases y with
   |tup ys=>
    cases e4;exact(.mk f r e1 λv H1 m1 s1 r1 q1=>(.mk (f.stp s1) r1 e3 λvs H2 m2 s2 r2 q2=>k _ H2 m2 (s1.trans s2) r2 (.cons (q1.stp s2) q2)))
   |_=>cases e4
theorem OW{k:Nat}(h:Nat.ble k 1000):k<=sizeLine:=wQ (IG (kU h))
theorem Xe{x1:Nat}(ha:SA X es fa):SE X (.Tuple es x1 pos) (λρ h=>(fa ρ h).bind λy h=>match y with|.tup ys=>(if Nat.ble ys.length 1000 then .ok (.tup ys) h else .no)|_=>.no):=
 (UK ha).imp λσ H Q q=>vh (g:=λys h=>if Nat.ble ys.length 1000 then .ok (.tup ys) h else .no) (G:=λxs H1 Q=>xs.length<=sizeLine/\∀p,H1 p=aC->Q (.ref p) (upd H1 p (.tup xs)))
   (λm h H vs xs w h' Q r q e k=>by
     split at e;rename_i hl;cases e;exact⟨by rw[q.length];exact OW hl,λp hp=>aR.tuple k r q hp⟩;cases e) q
theorem Xf(ha:SA X es fa):SE X (.List es pos) (λρ h=>(fa ρ h).bind λy h=>match y with|.tup ys=>(if Nat.ble ys.length 1000 then .ok (.ref h.n) (h.new (.lst ys))else .no)|_=>.no):=
 (Iu ha).imp λσ H Q q=>vh (g:=λys h=>if Nat.ble ys.length 1000 then .ok (.ref h.n) (h.new (.lst ys))else .no) (G:=λxs H1 Q=>xs.length<=sizeLine/\∀p,H1 p=aC->Q (.ref p) (upd H1 p (.lst xs)))
   (λm h H vs xs w h' Q r q e k=>by
     split at e;rename_i hl;cases e;exact⟨by rw[q.length];exact OW hl,λp hp=>aR.list k r q hp⟩;cases e) q
noncomputable def Cg(K:aI)(r:R2)(g:W->W->VH->Res W):Prop:=∀(m:Nat->ah) (h:VH) (H:Hp) (v u:V) (x y w:W) (h':VH) (Q:VK),Rel K m h H->aL K m h.n H v x->aL K m h.n H u y->g x y h=.ok w h'->aR K m h.n H w h' Q->r v u H Q
theorem Ci{O:Operator}{r:R2}{g:W->W->VH->Res W}(ho:dN X (binaryOp O) r)(hg:Cg X.K r g)(ha:SE X a fa)(hb:SE X b fb):SE X (.BinOp a O b pos) (λρ h=>(fa ρ h).bind λx h=>(fb ρ h).bind λy h=>g x y h):=
 (oV ho ha hb).imp λσ H Q q=>Gn (G:=r) hg q
noncomputable def Cj:Operator->Option Op|.Add=>aB .add|.Sub=>aB .sub|.Mult=>aB .mul|.FloorDiv=>aB .fdiv|.Mod=>aB .mod|.Pow=>aB .pow|_=>aC
noncomputable def cI:Op->Int->Int->Prop|.mul=>sA|.fdiv=>Bf|.mod=>λ_ j=>0<j|.shl=>xu|.pow=>xu|_=>λ_ _=>True
noncomputable def gI:Op->Int->Int->Int|.add=>(· + ·)|.sub=>(· - ·)|.mul=>(· * ·)|.fdiv=>(· / ·)|.mod=>(· % ·)|.shl=>λi j=>i*2 ^ j.toNat|.pow=>λi j=>i ^ j.toNat
noncomputable def rX(K:aI):Op->R2|.add=>λx y H Q=>uV K x y H Q\/OL K x y H Q\/BK x y H Q|.mul=>λx y H Q=>u9 K x y H Q|_=>λ_ _ _ _=>False
noncomputable def rB(K:aI)(o:Op):R2:=λx y H Q=>rI (cI o) (λi j=>.int (gI o i j)) x y H Q\/rX K o x y H Q
theorem zT{f:aa->aa->Sem aa}{r r':R2}(h:dN X f r)(k:∀x y H Q,r' x y H Q->r x y H Q):dN X f r':=λpins s σ H x y v u Q I rx ry q=>h pins s σ H x y v u Q I rx ry (k _ _ _ _ q)
theorem Ck{O:Operator}(e:Cj O=aB o):dN X (binaryOp O) (rB X.K o):=by
 have tr:∀{g:Int->Int->V}{x y H Q},rI (λ_ _=>True) g x y H Q->ny g x y H Q:=λ⟨i,j,h1,h2,_,h3⟩=>⟨i,j,h1,h2,h3⟩
 cases O<;>cases e;exact zT (Ub.or (U1.or (Wf.or IB))) λx y H Q q=>q.elim (λz=>.inl (tr z)) .inr;exact zT Uc λx y H Q q=>q.elim (λz=>tr z) λz=>z.elim;exact zT (Ud.or We) λx y H Q q=>q;exact zT Ug λx y H Q q=>q.elim id λz=>z.elim;exact zT Uh λx y H Q q=>q.elim id λz=>z.elim;exact zT Ue λx y H Q q=>q.elim id λz=>z.elim
theorem OX{i:Int}(h:rG i):-(2 ^ 64)<i/\i<2 ^ 64:=by
 unfold rG at h;rw[aY]at h;exact⟨k7 h.1,k7 h.2⟩
theorem Xg{i j z:Int}(e:fM o i j=aB z):cI o i j/\z=gI o i j:=by
 cases o<;>simp only[fM]at e;cases e;exact⟨trivial,rfl⟩;cases e;exact⟨trivial,rfl⟩;split at e;rename_i hc;cases e;rw[rT]at hc;exact⟨hc.elim (λq=>.inl (OX q)) (λq=>.inr (OX q)),rfl⟩;cases e;split at e;rename_i hc;cases e;rw[aY]at hc;exact⟨⟨k7 hc.1,k7 hc.2⟩,rfl⟩;cases e;split at e;rename_i hc;cases e;exact⟨(k7 hc:0<j),rfl⟩;cases e;split at e;rename_i hc;cases e;rw[aY,aY]at hc;exact⟨⟨k7 hc.1.1,k7 hc.1.2,k7 hc.2⟩,rfl⟩;cases e;split at e;rename_i hc;cases e;rw[aY,aY]at hc;exact⟨⟨k7 hc.1.1,k7 hc.1.2,k7 hc.2⟩,rfl⟩;cases e
theorem Jv{i:Int}(h:fits i):-(2 ^ 62)<=i/\i<2 ^ 62:=by
 unfold fits at h;rw[aY]at h;exact⟨k7 h.1,k7 h.2⟩
theorem Xh{k:Int}(e:kj o xs k=aB zs):o=.mul/\(-(2 ^ 62)<=k/\k<2 ^ 62)/\xs.length*k.toNat<=sizeLine/\zs=(bI k.toNat xs).flatten:=by
 unfold kj at e;split at e;split at e;rename_i hc;cases e;rw[aY]at hc;exact⟨rfl,Jv hc.1,kU hc.2,rfl⟩;cases e;cases e
theorem aE.rep{K:aI}{m:Nat->ah}{n:Nat}{H:Hp}{vs:List V}{ws:List W}(q:aE K m n H vs ws):∀k:Nat,aE K m n H (bI k vs).flatten (bI k ws).flatten
 |0=>.nil
 |k+1=>by
  rw[nt,nt,uL,uL];exact q.append (aE.rep q k)
theorem Xi{K:aI}{m:Nat->ah}{n:Nat}{H:Hp}{vs:List V}{ws:List W}(q:aE K m n H vs ws):vs.isEmpty=ws.isEmpty:=by cases q<;>rfl
theorem Xj{k:Int}(h:(ws.isEmpty||k==1)):(bI k.toNat ws).flatten=ws:=by
 rw[rT]at h;rcases h with h|h
 have:ws=[]:=by simpa using h
 subst this;induction k.toNat with|zero=>rfl|succ j ih=>rw[nt,uL,ih];rfl
 have:k=1:=by simpa using h
 subst this;show(bI 1 ws).flatten=ws;simp
theorem Xk{K:aI}(o:Op):Cg K (rB K o) (fk o):=by
 intro m h H v u x y w h' Q r qv qu e k;unfold fk at e;split at e;rename_i i j;obtain⟨e,rfl⟩:=of_ok e;cases qv;cases qu;cases q:fM o i j with
 |none=>rw[q]at e;cases e
 |some z=>
  rw[q]at e;cases e;obtain⟨h1,rfl⟩:=Xg q;exact .inl ⟨i,j,rfl,rfl,h1,aR.here k r (.int _)⟩
 .rename_i xs ys
  obtain⟨e,rfl⟩:=of_ok e;cases q:Gj o xs ys with
  |none=>rw[q]at e;cases e
  |some zs=>
   rw[q]at e;cases e;cases o<;>simp only[Gj]at q;split at q;rename_i hc;cases q;cases qv with
   |tup qa ra=>
    cases qu with
    |tup qb rb=>
     rename_i a va b vb;have hl:=kU hc;cases xs with
     |nil=>
      cases ra;exact .inr (.inr (.inl ⟨a,b,vb,rfl,rfl,qa,qb,aR.here k r (.tup qb rb)⟩))
     |cons x0 xs0=>
      refine .inr (.inl ⟨a,b,va,vb,rfl,rfl,qa,qb,λz=>?_,by rw[ra.length,rb.length];exact hl,λz=>?_,λ_ p hp=>aR.tuple k r (ra.append rb) hp⟩);subst z;cases ra;subst z;cases rb;rw[i7]at k;exact aR.here k r (.tup qa ra)
   cases q
   all_goals cases q
 rename_i xs kk;obtain⟨e,rfl⟩:=of_ok e;cases q:kj o xs kk with
 |none=>rw[q]at e;cases e
 |some zs=>
  rw[q]at e;cases e;obtain⟨rfl,⟨k1,k2⟩,hz,rfl⟩:=Xh q;cases qu;cases qv with
  |tup qa ra=>
   rename_i a va;refine .inr ⟨a,kk,va,rfl,rfl,qa,k1,k2,by rw[ra.length];exact hz,λz=>?_,λz p hp=>aR.tuple k r (ra.rep _) hp⟩;rw[Xi ra]at z;rw[Xj z]at k;exact aR.here k r (.tup qa ra)
 .rename_i i j
  split at e
  .rename_i xs ys hx hy
   split at e
   .rename_i zs q
    cases e;cases o<;>simp only[Js]at q;split at q;rename_i hc;cases q;obtain⟨va,pa,ra⟩:=r.lst hx;obtain⟨vb,pb,rb⟩:=r.lst hy;cases qv;cases qu;exact .inr (.inr (.inr ⟨m i,m j,va,vb,rfl,rfl,pa,pb,by rw[ra.length,rb.length];exact kU hc,λp hp=>aR.list k r (ra.append rb) hp⟩));cases q
    all_goals cases q
   cases e
  cases e
 cases e
end
section
variable{K:aI}{m:Nat->ah}{h:VH}{H:Hp}
theorem Cm{f:W->Option aA}(ih:∀(w:W) (d:aA) (v:V),f w=aB d->aL K m h.n H v w->Rp K (λ_=>False) H v d):∀{ws:List W} {ds:List aA} {vs:List V},aW f ws=aB ds->aE K m h.n H vs ws->kY K (λ_=>False) H vs ds
 |[],ds,_,e,.nil=>by cases e;exact .nil
 |w::ws,ds,_,e,.cons q r=>by
  unfold aW at e;split at e;rename_i d hd;split at e;rename_i bs hb;cases e;exact .cons (ih w d _ hd q) (Cm ih hb r);cases e;cases e
theorem iQ(r:Rel K m h H):∀(n:Nat) (w:W) (d:aA) (v:V),toD h n w=aB d->aL K m h.n H v w->Rp K (λ_=>False) H v d
 |0,_,_,_,e,_=>by cases e
 |n+1,w,d,v,e,q=>by
  cases q with
  |aG=>cases e;exact .aG
  |bl b=>cases e;exact .bl b
  |int b=>cases e;exact .int b
  |str b=>cases e;exact .str b
  | @tup a vs ws sq rs=>
   simp only[toD]at e;cases z:aW (toD h n) ws with|none=>rw[z]at e;cases e|some ds=>rw[z]at e;cases e;exact .tup sq (λz=>z) (Cm (iQ r n) z rs)
  | @fz a vs ws sq rs=>
   simp only[toD]at e;cases z:aW (toD h n) ws with|none=>rw[z]at e;cases e|some ds=>rw[z]at e;cases e;exact .lst sq.sq (λz=>z) (Cm (iQ r n) z rs)
  | @ref i hi=>
   simp only[toD]at e;cases g:h.get i with
   |none=>rw[g]at e;cases e
   |some o=>
    rw[g]at e;cases o with
    |dk _=>cases e
    |dt _ _=>cases e
    |ins _ _ _=>cases e
    |lst ws=>
     obtain⟨vs,h1,h2⟩:=r.lst g;simp only at e;cases z:aW (toD h n) ws with|none=>rw[z]at e;cases e|some ds=>rw[z]at e;cases e;exact .lst (cM.of h1) (λz=>z) (Cm (iQ r n) z h2)
theorem OY(r:Rel K m h H){b:Bool}(e:dG h x y=aB b)(qv:aL K m h.n H v x)(qu:aL K m h.n H u y) :
 ∃d e',Rp K (λ_=>False) H v d/\Rp K (λ_=>False) H u e'/\SeqAt.shaped d=true/\SeqAt.shaped e'=true/\b=PyData.eqv d e':=by
 unfold dG at e;split at e;rename_i d e' h1 h2;split at e;rename_i hc;cases e;rw[aY]at hc;exact⟨d,e',iQ r _ _ _ _ h1 qv,iQ r _ _ _ _ h2 qu,hc.1,hc.2,rfl⟩;cases e;cases e
end
theorem zU{K:aI}{m:Nat->ah}{h:VH}{H:Hp}{v:V}{w:W}{ws:List W}(r:Rel K m h H)(q:aL K m h.n H v w)(e:aO h w=aB ws):∃p vs,v=.ref p/\(cM K H p vs\/cD K H p vs)/\aE K m h.n H vs ws:=by
 cases q<;>try cases e
 exact⟨_,_,rfl,.inr ‹_›,‹_›⟩;rename_i q _;exact⟨_,_,rfl,.inl q.sq,‹_›⟩;rename_i i hi;simp only[aO]at e;cases g:h.get i with
 |none=>rw[g]at e;cases e
 |some o=>
  rw[g]at e;cases o with
  |dk _=>cases e
  |dt _ _=>cases e
  |ins _ _ _=>cases e
  |lst ws=>
   cases e;obtain⟨vs,h1,h2⟩:=r.lst g;exact⟨_,vs,rfl,.inl (cM.of h1),h2⟩
theorem Jw{K:aI}{m:Nat->ah}{n:Nat}{H:Hp}:∀{vs:List V} {ws:List W} {is:List Int},aE K m n H vs ws->aW intD ws=aB is->vs=is.map .int
 |_,_,_,.nil,e=>by cases e;rfl
 |_,_,_,.cons (w:=w) q r,e=>by
  simp only[aW]at e;cases q<;>try cases e
  rename_i i _ ws _;simp only[intD]at e;cases z:aW intD ws with|none=>rw[z]at e;cases e|some js=>rw[z]at e;cases e;rw[cP,Jw r z]
theorem Cn{K:aI}{m:Nat->ah}{n:Nat}{H:Hp}{v:V}{w:W}{k:DK}(q:aL K m n H v w)(e:dW w=aB k):∃b,v=.ref b/\dj K H k b:=by
 unfold dW at e;split at e;rename_i ws;cases z:aW intD ws with
 |none=>rw[z]at e;cases e
 |some is=>
  rw[z]at e;cases e;cases q with
  | @tup b vs _ sq rs=>
   cases rs with
   |cons q1 rs=>
    cases rs with
    |cons q2 rs=>
     cases rs;cases q2;cases q1 with
     | @tup c us _ Jx Jy=>
      refine⟨b,rfl,c,sq,?_⟩;rw[<-Jw Jy z];exact Jx
 rename_i ws i;cases z:aW intD ws with
 |none=>rw[z]at e;cases e
 |some is=>
  rw[z]at e;cases e;cases q with
  | @tup b vs _ sq rs=>
   cases rs with
   |cons q1 rs=>
    cases rs with
    |cons q2 rs=>
     cases rs;cases q2;cases q1 with
     | @tup c us _ Jx Jy=>
      refine⟨b,rfl,c,sq,?_⟩;rw[<-Jw Jy z];exact Jx
 cases e
theorem vj{K:aI}{m:Nat->ah}{n:Nat}{H:Hp}:∀{xs:DX} {ks:List W},aW dW ks=aB (xs.map (·.1))->aE K m n H (xs.map λx=>.ref x.2.1) ks->∀p∈xs,dj K H p.1 p.2.1
 |[],_,_,_,p,hp=>nomatch hp
 |x::xs,ks,e,r,p,hp=>by
  rw[cP]at r;obtain⟨w,ks,rfl,q,r⟩:∃w ks',ks=w::ks'/\aL K m n H (.ref x.2.1) w/\aE K m n H (xs.map λx=>.ref x.2.1) ks':=by cases r with|cons q r=>exact⟨_,_,rfl,q,r⟩
  simp only[aW]at e;cases z:dW w with
  |none=>rw[z]at e;cases e
  |some k=>
   rw[z]at e;simp only at e;cases z2:aW dW ks with
   |none=>rw[z2]at e;cases e
   |some js=>
    rw[z2]at e;simp only[cP,Option.some.injEq,List.cons.injEq]at e;rcases gq.mp hp with rfl|hp
    obtain⟨b,e1,e2⟩:=Cn q z;cases e1;rw[<-e.1];exact e2;exact vj (by rw[z2,e.2]) r p hp
theorem pF{K:aI}{m:Nat->ah}{n:Nat}{H:Hp}{a:ah}{xs:DX}{ks:List W}(h:H a=aB (lJ xs a)\/(xs=[]/\H a=aB (.dK [])))(e:aW dW ks=aB (xs.map (·.1)))(q:aE K m n H (xs.map λx=>.ref x.2.1) ks):DT K H a xs:=
 h.imp (λz=>⟨z,vj e q⟩) λ⟨z,y⟩=>⟨z,.inl y⟩
theorem Gq{K:aI}{m:Nat->ah}{n:Nat}{H:Hp}:∀{xs:DX} {ks ws:List W} (k:DK),aW dW ks=aB (xs.map (·.1))->aE K m n H (xs.map λx=>x.2.2) ws->(bN xs k=aC/\fC ks ws k=aC)\/∃p w,bN xs k=aB p/\fC ks ws k=aB w/\aL K m n H p.2 w
 |[],ks,ws,k,e,r=>by
  cases ks with
  |nil=>exact .inl ⟨rfl,by unfold fC;rfl⟩
  |cons c ks=>
   simp only[aW]at e;split at e;split at e<;>cases e;cases e
 |x::xs,ks,ws,k,e,r=>by
  rw[cP]at r;obtain⟨w,ws,rfl,q,r⟩:∃w pG,ws=w::pG/\aL K m n H x.2.2 w/\aE K m n H (xs.map λx=>x.2.2) pG:=by cases r with|cons q r=>exact⟨_,_,rfl,q,r⟩
  cases ks with
  |nil=>cases e
  |cons c ks=>
   simp only[aW]at e;cases z:dW c with
   |none=>rw[z]at e;cases e
   |some k'=>
    rw[z]at e;simp only at e;cases z2:aW dW ks with
    |none=>rw[z2]at e;cases e
    |some js=>
     rw[z2]at e;simp only[cP,Option.some.injEq,List.cons.injEq]at e;unfold fC;rw[z,e.1];by_cases y:x.1=k;rw[if_pos (by rw[y])];exact .inr ⟨x.2,w,by simp[bN,lq,y],rfl,q⟩;rw[if_neg (λz=>y (lz z))];have:bN (x::xs) k=bN xs k:=by simp[bN,lq,y]
     rw[this];exact Gq k (by rw[z2,e.2]) r
theorem OZ{K:aI}{m:Nat->ah}{h:VH}{H:Hp}(r:Rel K m h H){x y:W}{v u:V}{b:Bool}(e:inD h x y=aB b)(qv:aL K m h.n H v x)(qu:aL K m h.n H u y) :
 ∃a c xs k,u=.ref a/\v=.ref c/\DT K H a xs/\dj K H k c/\b=(bN xs k).isSome:=by
 unfold inD at e;split at e;rename_i i;split at e;rename_i ks ws k g hk;cases e;cases qu;obtain⟨xs,p1,p2,p3,p4⟩:=r.dt g;obtain⟨c,rfl,kk⟩:=Cn qv hk;refine⟨m i,c,xs,k,rfl,rfl,pF p1 p2 p3,kk,?_⟩;rcases Gq k p2 p4 with⟨z1,z2⟩|⟨p,w,z1,z2,_⟩<;> (rw[z1,z2];rfl)
 cases e;cases e
theorem O0{K:aI}{m:Nat->ah}{h:VH}{H:Hp}(r:Rel K m h H){x y:W}{v u:V}{b:Bool}(e:ko h x y=aB b)(qv:aL K m h.n H v x)(qu:aL K m h.n H u y) :
 (∃p vs ds d,u=.ref p/\(cM K H p vs\/cD K H p vs)/\kY K (λ_=>False) H vs ds/\Rp K (λ_=>False) H v d/\ds.all SeqAt.shaped=true/\SeqAt.shaped d=true/\b=fU ds d)\/inD h x y=aB b:=by
 unfold ko at e;split at e;rename_i ws d h1 h2;split at e;rename_i ds h3;split at e;rename_i hc;cases e;rw[aY]at hc;obtain⟨p,vs,rfl,h4,h5⟩:=zU r qu h1;exact .inl ⟨p,vs,ds,d,rfl,h4,Cm (iQ r 24) h3 h5,iQ r _ _ _ _ h2 qv,hc.1,hc.2,rfl⟩;cases e;cases e;exact .inr e
noncomputable def gM:CmpOp->Option Cp|.Eq=>aB .eq|.NotEq=>aB .ne|.Lt=>aB .lt|.LtE=>aB .le|.Gt=>aB .gt|.GtE=>aB .ge|.Is=>aB .vd|.IsNot=>aB .pB|.In=>aB .Jq|.NotIn=>aB .sO
noncomputable def rC(K:aI):Cp->R2|.eq=>BR K|.ne=>BS K|.lt=>ny λi j=>.bl (decide (i<j))|.le=>ny λi j=>.bl (decide (i<=j))|.gt=>ny λi j=>.bl (decide (j<i))|.ge=>ny λi j=>.bl (decide (j<=i))|.vd=>λx y H Q=>y=.aG/\Q (.bl (decide (x=.aG))) H|.pB=>λx y H Q=>y=.aG/\Q (.bl (!decide (x=.aG))) H|.Jq=>λx y H Q=>sI K false x y H Q\/sN K false x y H Q|.sO=>λx y H Q=>sI K true x y H Q\/sN K true x y H Q
noncomputable def rH:ao->Bool|.Set ..=>false|_=>true
theorem Jz{op:CmpOp}(h:rH b):behindInMarks op b=false:=by
 cases b<;>first|rfl|cases h
section
variable{X:Cx}{a b c e:ao}{es:List ao}{fa fb fc:FE}{pos:Pos}
theorem zV(hu:X.A.units+65<cLine){O:CmpOp}{c:Cp}(e:gM O=aB c):dN X (compareOp O) (rC X.K c):=by
 cases O<;>cases e;exact VP (by lia);exact VQ (by lia);exact Bk;exact Bl;exact Bm;exact Bo;exact Um;exact Uo;exact(Wh (by show X.A.units+1+64<cLine;lia)).or (W0 (by lia));exact(Wi (by show X.A.units+1+64<cLine;lia)).or (W2 (by lia))
theorem Gs{K:aI}{m:Nat->ah}{n:Nat}{H:Hp}{v:V}{w:W}(q:aL K m n H v w):cQ w=decide (v=.aG):=by
 cases q<;>simp[cQ]
theorem Gu{K:aI}(c:Cp):Cg K (rC K c) (λx y h=>.of ((aV c h x y).map .bl) h):=by
 intro m h H v u x y w h' Q r qv qu e k;obtain⟨e,rfl⟩:=of_ok e;cases z:aV c h' x y with
 |none=>rw[z]at e;cases e
 |some b=>
  rw[z]at e;cases e;have fin:Q (.bl b) H:=aR.here k r (.bl b);unfold aV at z;split at z;rcases O0 r z qv qu with⟨p,vs,ds,d,h1,h2,h3,h4,h5,h6,rfl⟩|z3
  exact .inl ⟨p,vs,ds,d,h1,h2,h3,h4,h5,h6,fin⟩;obtain⟨a,c,xs,dk,h1,h2,h3,h4,rfl⟩:=OZ r z3 qv qu;exact .inr ⟨a,c,xs,dk,h1,h2,h3,h4,fin⟩;cases z2:ko h' x y with
  |none=>rw[z2]at z;cases z
  |some b2=>
   rw[z2]at z;cases z;rcases O0 r z2 qv qu with⟨p,vs,ds,d,h1,h2,h3,h4,h5,h6,rfl⟩|z3
   exact .inl ⟨p,vs,ds,d,h1,h2,h3,h4,h5,h6,fin⟩;obtain⟨a,c,xs,dk,h1,h2,h3,h4,rfl⟩:=OZ r z3 qv qu;exact .inr ⟨a,c,xs,dk,h1,h2,h3,h4,fin⟩
  obtain⟨d,e',h1,h2,h3,h4,rfl⟩:=OY r z qv qu;exact⟨d,e',h1,h2,h3,h4,fin⟩;cases z2:dG h' x y with
  |none=>rw[z2]at z;cases z
  |some b2=>
   rw[z2]at z;cases z;obtain⟨d,e',h1,h2,h3,h4,rfl⟩:=OY r z2 qv qu;exact⟨d,e',h1,h2,h3,h4,fin⟩
  split at z;rename_i hn;cases z;have:=Gs qu;rw[hn]at this;refine⟨k7 this.symm,?_⟩;rw[<-Gs qv];exact fin;cases z;split at z;rename_i hn;cases z;have:=Gs qu;rw[hn]at this;refine⟨k7 this.symm,?_⟩;rw[<-Gs qv];exact fin;cases z;split at z;rename_i i j;cases qv;cases qu;cases c<;>simp only[gm]at z<;>cases z<;>exact⟨i,j,rfl,rfl,fin⟩;cases z
theorem Xl(hu:X.A.units+65<cLine){O:CmpOp}{c:Cp}(e:gM O=aB c)(hs:rH b)(ha:SE X a fa)(hb:SE X b fb) :
 SE X (.Compare a [O] [b] pos) (λρ h=>(fa ρ h).bind λx h=>(fb ρ h).bind λy h=>.of ((aV c h x y).map .bl) h):=
 (NB (zV hu e) ha hb (Jz hs)).imp λσ H Q q=>Gn (G:=rC X.K c) (Gu c) q
theorem Xm(hu:X.A.units+65<cLine){O:CmpOp}{c:Cp}(e:gM O=aB c)(hs:rH b)(ha:SE X a fa)(hb:SE X b fb) :
 ST X (.Compare a [O] [b] pos) (λρ h=>(fa ρ h).bind λx h=>(fb ρ h).bind λy h=>.of ((aV c h x y).map .bl) h):=
 (NC (zV hu e) ha hb (Jz hs)).imp λσ H Q q=>Gn (G:=rC X.K c) (Gu c) (OV q)
theorem O1{O O':CmpOp}(h:rH b):lastMarks [O,O'] [a,b]=false:=Jz h
theorem O2{K:aI}{c1 c2:Cp}{σ:L2.St}{H:Hp}{Q:VK}
 (q:iP K (λρ h=>(fa ρ h).bind λx h=>(fb ρ h).bind λy h=>match aV c1 h x y with
   |some true=>(fc ρ h).bind λz h=>.of ((aV c2 h y z).map .bl) h
   |some false=>.ok (.bl false) h
   |none=>.no) σ H Q):Ij (rC K c1) (rC K c2) (iP K fa) (iP K fb) (iP K fc) σ H Q:=by
 refine q.el λρ h m w h' f r e k=>?_;refine bO e λx h1 e1 e2=>?_;refine bO e2 λy h2 e3 e4=>?_;refine(.mk f r e1 λv H1 m1 s1 r1 q1=>(.mk (f.stp s1) r1 e3 λu H2 m2 s2 r2 q2=>?_));have f2:=(f.stp s1).stp s2;have k2:aR K m2 h2.n H2 w h' Q:=λv' H' m' s' r' q'=>k v' H' m' ((s1.trans s2).trans s') r' q';cases z:aV c1 h2 x y with
 |none=>rw[z]at e4;cases e4
 |some b=>
  rw[z]at e4;refine Gu c1 m2 h2 H2 v u x y (.bl b) h2 _ r2 (q1.stp s2) q2 (by show Res.of ((aV c1 h2 x y).map W.bl) h2=_;rw[z];rfl) λv3 H3 m3 s3 r3 q3=>?_;cases q3;refine⟨b,rfl,?_⟩;cases b with
  |true=>
   refine bO e4 λz' h4 e5 e6=>?_;rw[if_pos rfl];refine⟨ρ,h2,m3,z',h4,f2.stp s3,r3,e5,λv4 H4 m4 s4 r4 q4=>?_⟩;exact Gu c2 m4 h4 H4 u v4 y z' w h' Q r4 ((q2.stp s3).stp s4) q4 e6 λv' H' m' s' r' q'=>k2 v' H' m' ((s3.trans s4).trans s') r' q'
  |false=>
   cases e4;simp only[eT,dg];exact k2 _ H3 m3 s3 r3 (.bl false)
theorem Xn(hu:X.A.units+65<cLine){O O':CmpOp}(e:gM O=aB c1)(e':gM O'=aB c2)(hs:rH c)(ha:SE X a fa)(hb:SE X b fb)(hc:SE X c fc) :
 SE X (.Compare a [O,O'] [b,c] pos) (λρ h=>(fa ρ h).bind λx h=>(fb ρ h).bind λy h=>match aV c1 h x y with|some true=>(fc ρ h).bind λz h=>.of ((aV c2 h y z).map .bl) h|some false=>.ok (.bl false) h|none=>.no):=(Up (zV hu e) (zV hu e') ha hb hc (O1 hs)).imp λσ H Q q=>O2 q
theorem Xo(hu:X.A.units+65<cLine){O O':CmpOp}(e:gM O=aB c1)(e':gM O'=aB c2)(hs:rH c)(ha:SE X a fa)(hb:SE X b fb)(hc:SE X c fc) :
 ST X (.Compare a [O,O'] [b,c] pos) (λρ h=>(fa ρ h).bind λx h=>(fb ρ h).bind λy h=>match aV c1 h x y with|some true=>(fc ρ h).bind λz h=>.of ((aV c2 h y z).map .bl) h|some false=>.ok (.bl false) h|none=>.no):=(Uq (zV hu e) (zV hu e') ha hb hc (O1 hs)).imp λσ H Q q=>O2 (OV q)
noncomputable abbrev Co(fa:FE):FE:=λρ h=>(fa ρ h).bind λx h=>match x with|.bl b=>.ok (.bl (!b)) h|_=>.no
noncomputable abbrev Cq(fa fb:FE):FE:=λρ h=>(fa ρ h).bind λx h=>match x with|.bl true=>fb ρ h|.bl false=>.ok (.bl false) h|_=>.no
noncomputable abbrev O3(fa fb:FE):FE:=λρ h=>(fa ρ h).bind λx h=>match x with|.bl true=>.ok (.bl true) h|.bl false=>fb ρ h|_=>.no
noncomputable abbrev JA(fa fb fc:FE):FE:=λρ h=>(fa ρ h).bind λx h=>match x with|.bl true=>fb ρ h|.bl false=>fc ρ h|_=>.no
variable{rest:List ao}
theorem Xp(ha:ST X a fa):ST X (.UnaryOp .Not a pos) (Co fa):=(HN ha).imp λσ H Q z9=>z9.el λρ h m b h' f r e k=>by
 refine bO e λx h1 e1 e2=>?_;cases x<;>try cases e2
 rename_i b;exact(.mk f r e1 λH' m' s' r'=>k H' m' s' r')
theorem Xq(ha:SE X a fa):SE X (.UnaryOp .Not a pos) (Co fa):=(Tp ha).imp λσ H Q z9=>z9.el λρ h m b h' f r e k=>by
 refine bO e λx h1 e1 e2=>?_;cases x<;>try cases e2
 rename_i b;exact(.mk f r e1 λv H' m' s' r' q=>by cases q;exact⟨b,rfl,k _ H' m' s' r' (.bl _)⟩)
theorem O4{op:BoolOp}(ha:ST X a fa):SW X (.BoolOp op [a] pos) fa:=by
 cases op;exact Ti ha;exact Nj ha
theorem Xr(ha:ST X a fa)(hb:SW X (.BoolOp .And (b::rest) pos) fb):SW X (.BoolOp .And (a::b::rest) pos) (Cq fa fb):=(Tj ha hb).imp λσ H Q z9=>z9.el λρ h m b h' f r e k=>by
 refine bO e λx h1 e1 e2=>?_;cases x<;>try cases e2
 rename_i c;refine(.mk f r e1 λH1 m1 s1 r1=>?_);cases c with|true=>rw[if_pos rfl];exact(.mk (f.stp s1) r1 e2 λH' m' s' r'=>k H' m' (s1.trans s') r')|false=>cases e2;simp only[eT,dg];exact k H1 m1 s1 r1
theorem Cr(ha:ST X a fa)(hb:SW X (.BoolOp .Or (b::rest) pos) fb):SW X (.BoolOp .Or (a::b::rest) pos) (O3 fa fb):=(pw_or ha hb).imp λσ H Q z9=>z9.el λρ h m b h' f r e k=>by
 refine bO e λx h1 e1 e2=>?_;cases x<;>try cases e2
 rename_i c;refine(.mk f r e1 λH1 m1 s1 r1=>?_);cases c with|true=>cases e2;rw[if_pos rfl];exact k H1 m1 s1 r1|false=>simp only[eT,dg];exact(.mk (f.stp s1) r1 e2 λH' m' s' r'=>k H' m' (s1.trans s') r')
theorem O5{op:BoolOp}(ha:SE X a fa):SE X (.BoolOp op [a] pos) fa:=Tn ha
theorem Xs(ha:SE X a fa)(hb:SE X (.BoolOp .And (b::rest) pos) fb):SE X (.BoolOp .And (a::b::rest) pos) (Cq fa fb):=(To ha hb).imp λσ H Q z9=>z9.el λρ h m w h' f r e k=>by
 refine bO e λx h1 e1 e2=>?_;cases x<;>try cases e2
 rename_i c;refine(.mk f r e1 λv H1 m1 s1 r1 q1=>?_);cases q1;refine⟨c,rfl,?_⟩;cases c with|true=>rw[if_pos rfl];exact(.mk (f.stp s1) r1 e2 λv H' m' s' r' q'=>k v H' m' (s1.trans s') r' q')|false=>cases e2;simp only[eT,dg];exact k _ H1 m1 s1 r1 (.bl false)
theorem Cs(ha:SE X a fa)(hb:SE X (.BoolOp .Or (b::rest) pos) fb):SE X (.BoolOp .Or (a::b::rest) pos) (O3 fa fb):=(AZ ha hb).imp λσ H Q z9=>z9.el λρ h m w h' f r e k=>by
 refine bO e λx h1 e1 e2=>?_;cases x<;>try cases e2
 rename_i c;refine(.mk f r e1 λv H1 m1 s1 r1 q1=>?_);cases q1;refine⟨c,rfl,?_⟩;cases c with|true=>cases e2;rw[if_pos rfl];exact k _ H1 m1 s1 r1 (.bl true)|false=>simp only[eT,dg];exact(.mk (f.stp s1) r1 e2 λv H' m' s' r' q'=>k v H' m' (s1.trans s') r' q')
theorem Xu(hc:ST X c fc)(ha:SE X a fa)(hb:SE X b fb):SE X (.IfExp c a b pos) (JA fc fa fb):=(Tr hc ha hb).imp λσ H Q z9=>z9.el λρ h m w h' f r e k=>by
 refine bO e λx h1 e1 e2=>?_;cases x<;>try cases e2
 rename_i c;refine(.mk f r e1 λH1 m1 s1 r1=>?_);cases c with|true=>rw[if_pos rfl];exact(.mk (f.stp s1) r1 e2 λv H' m' s' r' q'=>k v H' m' (s1.trans s') r' q')|false=>simp only[eT,dg];exact(.mk (f.stp s1) r1 e2 λv H' m' s' r' q'=>k v H' m' (s1.trans s') r' q')
theorem O6{K:aI}{m:Nat->ah}{n:Nat}{H:Hp}{vs:List V}{ws:List W}(q:aE K m n H vs ws):vs.isEmpty=ws.isEmpty:=by cases q<;>rfl
theorem Xv{K:aI}{m:Nat->ah}{h:VH}{H:Hp}{v:V}{w:W}{b:Bool}(r:Rel K m h H)(q:aL K m h.n H v w)(e:nJ h w=aB b):xw K v H b:=by
 cases q with
 |aG=>cases e;rfl
 |bl x=>cases e;rfl
 |int i=>cases e;rfl
 |str x=>cases e
 |fz _ _=>cases e
 |tup sq rs=>cases e;exact .inr (.inl ⟨_,sq,by rw[O6 rs]⟩)
 | @ref i hi=>
  simp only[nJ]at e;cases g:h.get i with
  |none=>rw[g]at e;cases e
  |some o=>
   rw[g]at e;cases o with
   |dk _=>cases e
   |dt _ _=>cases e
   |ins _ _ _=>cases e
   |lst ws=>
    cases e;obtain⟨vs,h1,h2⟩:=r.lst g;exact .inl ⟨vs,cM.of h1,by rw[O6 h2]⟩
theorem JB(ha:SE X a fa)(he:∀whole,isTrue a X.env whole=(do let v <-whole;standAt a.pos;holding [v] (truthy v))) :
 ST X a (λρ h=>(fa ρ h).bind λx h=>.of ((nJ h x).map .bl) h):=(Ut ha he).imp λσ H Q z9=>z9.el λρ h m b h' f r e k=>by
 refine bO e λx h1 e1 e2=>?_;obtain⟨e2,rfl⟩:=of_ok e2;cases z:nJ h' x with
 |none=>rw[z]at e2;cases e2
 |some c=>
  rw[z]at e2;cases e2;exact(.mk f r e1 λv H' m' s' r' q=>⟨b,Xv r' q z,k H' m' s' r'⟩)
theorem Xw(ha:SE X a fa):SE X (.UnaryOp .USub a pos) (λρ h=>(fa ρ h).bind λx h=>match x with|.int i=>.ok (.int (-i)) h|_=>.no):=
 (Bc Uj ha).imp λσ H Q q=>OU (g:=λx h=>match x with|.int i=>.ok (.int (-i)) h|_=>.no) (G:=rU λi=>.int (-i)) (λm h H v x w h' Q r q e k=>by
   cases q<;>try cases e
   rename_i i;exact⟨i,rfl,aR.here k r (.int _)⟩) q
end
section
variable{K:aI}{m m0:Nat->ah}{n n0:Nat}{h:VH}{H H0:Hp}
theorem Rel.adopt(r:Rel K m h H){p:ah}{u u0:HO}(hp:∀i,i<h.n->m i≠p)(hu:H p=aB u0)(ht:∀t,u0≠.tup t)(hf:∀o t,u0≠.cG o t)(s:bS m0 n0 H0 m h.n H)(h0:H0 p=aC)
 (ho:bS m h.n H (λi=>if i=h.n then p else m i) (h.n+1) (upd H p u)\/True->(∀{v:V}{w:W},aL K m h.n H v w->aL K (λi=>if i=h.n then p else m i) (h.n+1) (upd H p u) v w)->gA K (λi=>if i=h.n then p else m i) (h.n+1) (upd H p u) p o) :
 bS m0 n0 H0 (λi=>if i=h.n then p else m i) (h.n+1) (upd H p u)/\Rel K (λi=>if i=h.n then p else m i) (h.new o) (upd H p u):=by
 have kt:∀b vs,H b=aB (.tup vs)->upd H p u b=aB (.tup vs):=λb vs q=>by rw[bR (fB q hu λz=>ht vs z.symm)];exact q
 have kf:∀b o t,H b=aB (.cG o t)->upd H p u b=aB (.cG o t):=λb o t q=>by rw[bR (fB q hu λz=>hf o t z.symm)];exact q
 have mv:∀{v:V}{w:W},aL K m h.n H v w->aL K (λi=>if i=h.n then p else m i) (h.n+1) (upd H p u) v w:=by
  intro v w q;have st:bS m h.n (λb=>if b=p then aC else H b) (λi=>if i=h.n then p else m i) (h.n+1) (upd H p u):=by
   refine⟨oq _,λi hi=>by simp only[if_neg (fj hi)],λi hi hi2=>?_,λi j hi hi2 hj=>?_,λb vs q=>?_,λb o t q=>?_,λb o _ q=>?_⟩;have:i=h.n:=by lia
   subst this;simp only[bX];have:i=h.n:=by lia
   subst this;simp only[bX,if_neg (fj hj)];exact(hp j hj).symm;split at q;cases q;exact kt b vs q;split at q;cases q;exact kf b o t q;split at q;cases q;rename_i z;rw[bR z];exact q
  refine aL.stp st ?_;have back:∀{a vs},cD K H a vs->cD K (λb=>if b=p then aC else H b) a vs:=by
   intro a vs q;rcases q with(q|⟨o,q⟩)|q
   exact .inl (.inl (by simp only[if_neg (fB q hu λz=>ht vs z.symm)];exact q));exact .inl (.inr ⟨o,by simp only[if_neg (fB q hu λz=>hf o _ z.symm)];exact q⟩);exact .inr q
  have Ct:∀{a vs},Fz K H a vs->Fz K (λb=>if b=p then aC else H b) a vs:=by
   intro a vs q;rcases q with⟨o,q⟩|q
   exact .inl ⟨o,by simp only[if_neg (fB q hu λz=>hf o _ z.symm)];exact q⟩;exact .inr q
  exact(aL.rec (K:=K) (m:=m) (n:=h.n) (H:=H) (motive_1:=λv w _=>aL K m h.n (λb=>if b=p then aC else H b) v w) (motive_2:=λvs ws _=>aE K m h.n (λb=>if b=p then aC else H b) vs ws)
   .aG .bl .int .str (λsq _ ih=>.tup (back sq) ih) (λsq _ ih=>.fz (Ct sq) ih) (λhi=>.ref hi) .nil (λ_ _ i1 i2=>.cons i1 i2) q)
 refine⟨⟨Nat.le_succ_of_le s.le,λi hi=>?_,λi hi hi2=>?_,λi j hi hi2 hj=>?_,λb vs q=>kt b vs (s.tup b vs q),λb o t q=>kf b o t (s.cG b o t q),λb o nb q=>?_⟩,⟨λi hi=>?_,λi j hi hj z=>?_,?_⟩⟩;have:=s.le;simp only[if_neg (show i≠h.n by lia)];exact s.same i hi;by_cases e:i=h.n;subst e;simp only[bX];exact h0;simp only[if_neg e];exact s.new i hi (by lia);have:=s.le;simp only[if_neg (show j≠h.n by lia)];by_cases e:i=h.n;subst e;simp only[bX];exact(hp j (by lia)).symm;simp only[if_neg e];exact s.apart i j hi (by lia) hj;rw[bR (ir q h0)];exact s.keep b o nb q;have hi:i<h.n+1:=hi;by_cases e:i=h.n;subst e;exact⟨o,gW,by simp only[bX];exact ho (.inr trivial) mv⟩;have hl:i<h.n:=by lia
 obtain⟨o',h1,h2⟩:=r.obj i hl;refine⟨o',(jV hl).trans h1,?_⟩;simp only[if_neg e];have eq:upd H p u (m i)=H (m i):=bR (hp i hl);cases o' with
 |lst ws=>
  obtain⟨vs,q1,q2⟩:=h2;exact⟨vs,eq.trans q1,aE.rec (K:=K) (m:=m) (n:=h.n) (H:=H) (motive_1:=λv w _=>aL K m h.n H v w) (motive_2:=λvs ws _=>aE K (λi=>if i=h.n then p else m i) (h.n+1) (upd H p u) vs ws)
   .aG .bl .int .str (λsq q _=>.tup sq q) (λsq q _=>.fz sq q) (λhi=>.ref hi) .nil (λq _ _ i2=>.cons (mv q) i2) q2⟩
 |dk ws=>
  obtain⟨vs,q1,q2⟩:=h2;have go:∀{vs:List (Key×V)}{ws:List (Key×W)},aU K m h.n H vs ws->aU K (λi=>if i=h.n then p else m i) (h.n+1) (upd H p u) vs ws:=by
   intro vs ws q2;induction q2 with|nil=>exact .nil|cons q _ ih=>exact .cons (mv q) ih
  exact⟨vs,q1.imp (λz=>eq.trans z) λ⟨o,z⟩=>⟨o,eq.trans z⟩,go q2⟩
 |dt ks ws=>
  obtain⟨xs,q1,q0,q2,q3⟩:=h2;have go:∀{vs:List V}{ws:List W},aE K m h.n H vs ws->aE K (λi=>if i=h.n then p else m i) (h.n+1) (upd H p u) vs ws:=λq2=>
   aE.rec (K:=K) (m:=m) (n:=h.n) (H:=H) (motive_1:=λv w _=>aL K m h.n H v w) (motive_2:=λvs ws _=>aE K (λi=>if i=h.n then p else m i) (h.n+1) (upd H p u) vs ws)
    .aG .bl .int .str (λsq q _=>.tup sq q) (λsq q _=>.fz sq q) (λhi=>.ref hi) .nil (λq _ _ i2=>.cons (mv q) i2) q2
  exact⟨xs,q1.imp (λz=>eq.trans z) λ⟨o,z⟩=>⟨o,eq.trans z⟩,q0,go q2,go q3⟩
 |ins C xs ws=>
  obtain⟨dx,vs,q1,q0,q2⟩:=h2;have go:∀{vs:List V}{ws:List W},aE K m h.n H vs ws->aE K (λi=>if i=h.n then p else m i) (h.n+1) (upd H p u) vs ws:=λq2=>
   aE.rec (K:=K) (m:=m) (n:=h.n) (H:=H) (motive_1:=λv w _=>aL K m h.n H v w) (motive_2:=λvs ws _=>aE K (λi=>if i=h.n then p else m i) (h.n+1) (upd H p u) vs ws)
    .aG .bl .int .str (λsq q _=>.tup sq q) (λsq q _=>.fz sq q) (λhi=>.ref hi) .nil (λq _ _ i2=>.cons (mv q) i2) q2
  exact⟨dx,vs,eq.trans q1,q0,go q2⟩
 have hi:i<h.n+1:=hi;have hj:j<h.n+1:=hj;by_cases e:i=h.n;by_cases e2:j=h.n;lia;simp only[if_pos e,if_neg e2]at z;exact absurd z.symm (hp j (by lia));by_cases e2:j=h.n;simp only[if_neg e,if_pos e2]at z;exact absurd z (hp i (by lia));simp only[if_neg e,if_neg e2]at z;exact r.inj i j (by lia) (by lia) z;show(o::h.os).length=h.n+1;rw[dh,r.len]
theorem aE.map{m':Nat->ah}{n':Nat}{H':Hp}(mv:∀{v:V} {w:W},aL K m n H v w->aL K m' n' H' v w):∀{vs:List V} {ws:List W},aE K m n H vs ws->aE K m' n' H' vs ws|_,_,.nil=>.nil|_,_,.cons q r=>.cons (mv q) (aE.map mv r)
theorem aU.map{m':Nat->ah}{n':Nat}{H':Hp}(mv:∀{v:V} {w:W},aL K m n H v w->aL K m' n' H' v w):∀{vs:List (Key×V)} {ws:List (Key×W)},aU K m n H vs ws->aU K m' n' H' vs ws|_,_,.nil=>.nil|_,_,.cons q r=>.cons (mv q) (aU.map mv r)
theorem aU.look(k:Key):∀{vs:List (Key×V)} {ws:List (Key×W)},aU K m n H vs ws->(iL vs k=aC/\dH ws k=aC)\/∃v w,iL vs k=aB v/\dH ws k=aB w/\aL K m n H v w
 |_,_,.nil=>.inl ⟨rfl,rfl⟩
 |_,_,.cons (k:=k') (v:=v) (w:=w) q r=>by
  by_cases e:k'=k;refine .inr ⟨v,w,Jb (p:=(k',v)) e,?_,q⟩;unfold dH;rw[lq];simp[e];rcases aU.look k r with⟨a,b⟩|⟨v',w',a,b,c⟩
  refine .inl ⟨(Ga (p:=(k',v)) e).trans a,?_⟩;unfold dH at b ⊢;rw[lq];simp only[jP e];exact b;refine .inr ⟨v',w',(Ga (p:=(k',v)) e).trans a,?_,c⟩;unfold dH at b ⊢;rw[lq];simp only[jP e];exact b
theorem aU.any(k:Key):∀{vs:List (Key×V)} {ws:List (Key×W)},aU K m n H vs ws->(vs.any λkv=>decide (kv.1=k))=(ws.any λkv=>decide (kv.1=k))|_,_,.nil=>rfl|_,_,.cons q r=>by rw[Ft,Ft,aU.any k r]
theorem aU.repl(q:aL K m n H v w)(k:Key):∀{vs:List (Key×V)} {ws:List (Key×W)},aU K m n H vs ws->aU K m n H (vs.map λkv=>if kv.1=k then(kv.1,v)else kv) (ws.map λkv=>if kv.1=k then(kv.1,w)else kv)
 |_,_,.nil=>.nil
 |_,_,.cons (k:=k') p r=>by
  rw[cP,cP];by_cases e:k'=k;simp only[if_pos e];exact .cons q (aU.repl q k r);simp only[if_neg e];exact .cons p (aU.repl q k r)
theorem aU.snoc(q:aL K m n H v w)(k:Key):∀{vs:List (Key×V)} {ws:List (Key×W)},aU K m n H vs ws->aU K m n H (vs++[(k,v)]) (ws++[(k,w)])|_,_,.nil=>.cons q .nil|_,_,.cons p r=>.cons p (aU.snoc q k r)
theorem aU.put(q:aL K m n H v w)(k:Key){vs:List (Key×V)}{ws:List (Key×W)}(r:aU K m n H vs ws):aU K m n H (putK vs k v) (pC ws k w):=by
 unfold putK pC;rw[r.any k];split;exact r.repl q k;exact r.snoc q k
theorem aU.merge{vs:List (Key×V)}{ws:List (Key×W)}(q:aU K m n H vs ws):∀{va:List (Key×V)} {wa:List (Key×W)},aU K m n H va wa->aU K m n H (u7 va vs) (Gk wa ws):=by
 induction q with|nil=>exact λa=>a|cons q r ih=>exact λa=>ih (a.put q _)
theorem aU.length:∀{vs:List (Key×V)} {ws:List (Key×W)},aU K m n H vs ws->vs.length=ws.length|_,_,.nil=>rfl|_,_,.cons _ r=>by rw[dh,dh,aU.length r]
theorem Xx{k:Key}(q:aL K m n H v w)(e:xK w=aB k):v=kV k:=by
 cases q<;>cases e<;>rfl
theorem JC{i:Int}(q:aE K m n H vs ws)(e:cy ws i=aB w):∃v,cy vs i=aB v/\aL K m n H v w:=by
 unfold cy at e ⊢;rw[q.length];cases z:iw ws.length i with
 |none=>rw[z]at e;cases e
 |some j=>
  rw[z]at e;exact q.get e
end
noncomputable def xO(K:aI):R2:=λx y H Q=>BD K x y H Q\/BE K x y H Q\/(∃a v,x=.ref a/\sH H a y (aB v)/\Q v H)\/B7 K x y H Q
section
variable{X:Cx}{a b c e o:ao}{es:List ao}{fa fb fc fo:FE}{pos:Pos}
theorem Xy(hu:X.A.units+1<cLine):rA X (λx y H Q=>∃a v,x=.ref a/\sH H a y (aB v)/\Q v H):=by
 intro value slice pins s σ H x y v u Q I rx ry q hs;obtain⟨a,v',rfl,g,q⟩:=q;obtain rfl:v=Value.ref a:=rx;exact tail_any (V2 I g) PySem.F.slot_dict_getitem.lookup (V0 hu I g ry λw' s3 I3 rw'=>⟨v',H,I3,rw',q⟩) hs
theorem Cu(hu:X.A.units+2<cLine):rA X (xO X.K):=NZ.or (U4.or ((Xy (by lia)).or (B8 hu)))
theorem Xz{K:aI}:Cg K (xO K) (λx y h=>.of (aZ h x y) h):=by
 intro m h H v u x y w h' Q r qv qu e0 k;obtain⟨e,e1⟩:=of_ok e0;clear e0;subst e1;unfold aZ at e;split at e;cases qv with
 |tup sq rs=>
  cases qu;obtain⟨v',h1,h2⟩:=JC rs e;exact .inr (.inl ⟨_,_,_,v',rfl,rfl,sq,h1,aR.here k r h2⟩)
 cases qv with
 |fz sq rs=>
  cases qu;obtain⟨v',h1,h2⟩:=JC rs e;exact .inl ⟨_,_,_,v',rfl,rfl,sq.sq,h1,aR.here k r h2⟩
 rename_i i j;cases qv;cases qu;cases g:h'.get i with
 |none=>rw[g]at e;cases e
 |some ob=>
  rw[g]at e;cases ob with
  |lst ws=>
   obtain⟨vs,p1,p2⟩:=r.lst g;obtain⟨v',h1,h2⟩:=JC p2 e;exact .inl ⟨_,_,_,v',rfl,rfl,cM.of p1,h1,aR.here k r h2⟩
  |dk ws=>
   have e:dH ws (.inl j)=aB w:=e;obtain⟨vs,p1,p2⟩:=r.dk g;rcases p2.look (.inl j)with⟨_,z⟩|⟨v',w',z1,z2,z3⟩
   rw[z]at e;cases e;rw[z2]at e;cases e;exact .inr (.inr (.inl ⟨_,v',rfl,by rw[<-z1];exact .inl ⟨vs,.inl j,p1,rfl,rfl⟩,aR.here k r z3⟩))
  |dt _ _=>cases e
  |ins _ _ _=>cases e
 rename_i i j;cases qv;cases qu;cases g:h'.get i with
 |none=>rw[g]at e;cases e
 |some ob=>
  rw[g]at e;cases ob with
  |lst ws=>cases e
  |dk ws=>
   have e:dH ws (.inr j)=aB w:=e;obtain⟨vs,p1,p2⟩:=r.dk g;rcases p2.look (.inr j)with⟨_,z⟩|⟨v',w',z1,z2,z3⟩
   rw[z]at e;cases e;rw[z2]at e;cases e;exact .inr (.inr (.inl ⟨_,v',rfl,by rw[<-z1];exact .inl ⟨vs,.inr j,p1,rfl,rfl⟩,aR.here k r z3⟩))
  |dt _ _=>cases e
  |ins _ _ _=>cases e
 rename_i i _ _;cases qv;unfold sP at e;split at e;rename_i ks ws dk g hk;obtain⟨xs,p1,p2,p3,p4⟩:=r.dt g;obtain⟨c,rfl,kk⟩:=Cn qu hk;rcases Gq dk p2 p4 with⟨_,z2⟩|⟨p,w',z1,z2,z3⟩
 rw[z2]at e;cases e;rw[z2]at e;cases e;exact .inr (.inr (.inr ⟨_,c,xs,dk,p,rfl,rfl,pF p1 p2 p3,kk,z1,aR.here k r z3⟩));cases e;cases e
theorem XA(hu:X.A.units+2<cLine)(ha:SE X a fa)(hb:SE X b fb)(hs:F6 b):SE X (.Subscript a b pos) (λρ h=>(fa ρ h).bind λx h=>(fb ρ h).bind λy h=>.of (aZ h x y) h):=
 (uW (Cu hu) ha hb hs).imp λσ H Q q=>Gn (G:=xO X.K) Xz q
noncomputable def jG(K:aI)(b:Bool)(f:FE):TO:=λσ H Q=>∃ρ h m w o h',Fr K m h.n H σ ρ/\Rel K m h H/\f ρ h=.ok w h'/\fD b w=aB o/\∀H' m',bS m h.n H m' h'.n H'->Rel K m' h' H'->Q o H'
theorem jG.el{K:aI}{σ:L2.St}{H:Hp}{P:Prop}{b:Bool}{fa:FE}{Q:Option Int->Hp->Prop}(q:jG K b fa σ H Q)(k:∀ρ h m w o h',Fr K m h.n H σ ρ->Rel K m h H->fa ρ h=.ok w h'->fD b w=aB o->(∀H' m',bS m h.n H m' h'.n H'->Rel K m' h' H'->Q o H')->P):P:=by
 obtain⟨ρ,h,m,w,o,h',f,r,e,ep,k'⟩:=q;exact k ρ h m w o h' f r e ep k'
theorem jG.mk{K:aI}{σ:L2.St}{H:Hp}{m:Nat->ah}{ρ:En}{h h':VH}{w:W}{o:Option Int}{b:Bool}{fa:FE}{Q:Option Int->Hp->Prop}(f:Fr K m h.n H σ ρ)(r:Rel K m h H)(e:fa ρ h=.ok w h')(ep:fD b w=aB o)(k:∀H' m',bS m h.n H m' h'.n H'->Rel K m' h' H'->Q o H'):jG K b fa σ H Q:=⟨ρ,h,m,w,o,h',f,r,e,ep,k⟩
theorem XC{w:W}:PO X aC (jG X.K false (λ_ h=>.ok w h)):=λpins s σ H Q I z9=>z9.el λρ h m w o h' f r e ep k=>by
 cases e;have:o=aC:=by
  unfold fD at ep;cases ep;rfl
 subst this;exact UW pins s σ H Q I (k H m .refl r)
theorem XD(ha:SE X e fa):PO X (aB e) (jG X.K true fa):=λpins s σ H Q I z9=>z9.el λρ h m w o h' f r e ep k=>by
 refine UX ha pins s σ H Q I (.mk f r e λv H' m' s' r' q=>?_);cases q<;>cases ep;exact⟨_,rfl,k H' m' s' r'⟩
theorem O7{K:aI}{m:Nat->ah}{n:Nat}{H:Hp}{vs:List V}{ws:List W}(q:aE K m n H vs ws)(lo hi:Option Int):aE K m n H (kc vs lo hi) (cY ws lo hi):=by
 unfold kc cY;rw[q.length];exact(q.drop _).take _
theorem XE{lo hi:Option Int}(h:HT.bM ws.length 0 lo=0/\HT.bM ws.length ws.length hi=ws.length):cY ws lo hi=ws:=by
 unfold cY;rw[h.1,h.2];simp
theorem XF{lo hi:Option ao}{fl fh:FE}{p2:Pos}{bl bh:Bool}(ha:SE X a fa)(hl:PO X lo (jG X.K bl fl))(hh:PO X hi (jG X.K bh fh)) :
 SE X (.Subscript a (.Slice lo hi aC p2) pos) (λρ h=>(fa ρ h).bind λx h=>(fl ρ h).bind λl h=>(fh ρ h).bind λu h=>match fD bl l,fD bh u with|some l,aB u=>lK x l u h|_,_=>.no):=
 (UZ Wk ha hl hh).imp λσ H Q z9=>z9.el λρ h m w h' f r e k=>by
   refine bO e λx h1 e1 e2=>?_;refine bO e2 λl h2 e3 e4=>?_;refine bO e4 λu h3 e5 e6=>?_;split at e6;rename_i l' u' pl pu;refine(.mk f r e1 λv H1 m1 s1 r1 q1=>(.mk (f.stp s1) r1 e3 pl λH2 m2 s2 r2=>(.mk ((f.stp s1).stp s2) r2 e5 pu λH3 m3 s3 r3=>?_)));have q3:=(q1.stp s2).stp s3;have kk:aR X.K m3 h3.n H3 w h' Q:=λv' H' m' s' r' q'=>k v' H' m' (((s1.trans s2).trans s3).trans s') r' q';unfold lK at e6;split at e6;rename_i ws;cases e6;cases q3 with
   | @tup a vs _ sq rs=>
    by_cases hw:HT.bM vs.length 0 l'=0/\HT.bM vs.length vs.length u'=vs.length;refine .inl (.inr ⟨_,_,rfl,sq,hw,?_⟩);have O8:=hw;rw[rs.length]at O8;rw[XE O8]at kk;exact aR.here kk r3 (.tup sq rs);exact .inl (.inl ⟨_,_,rfl,sq,hw,λp hp=>aR.tuple kk r3 (O7 rs l' u') hp⟩)
   rename_i i;cases q3;cases g:h3.get i with
   |none=>rw[g]at e6;cases e6
   |some ob=>
    rw[g]at e6;cases ob with
    |lst ws=>
     cases e6;obtain⟨vs,p1,p2⟩:=r3.lst g;exact .inr ⟨_,_,rfl,cM.of p1,λp hp=>aR.list kk r3 (O7 p2 l' u') hp⟩
    |dk ws=>cases e6
    |dt _ _=>cases e6
    |ins _ _ _=>cases e6
   cases e6;cases e6
end
noncomputable def fq:ao->Bool|.Starred ..=>false|_=>true
theorem eW(h:fq e):starEach (e::es) env=(false,eval e env)::starEach es env:=by
 cases e<;>first|rfl|cases h
theorem nP:∀{es:List ao},es.all fq=true->(backTo pos (starEach es env)).any (·.1)=false
 |[],_=>rfl
 |e::es,h=>by
  rw[j0,aY]at h;rw[eW h.1];show(false|| (backTo pos (starEach es env)).any (·.1))=false;rw[nP h.2];rfl
noncomputable abbrev sR:FE:=λ_ h=>.ok (.tup []) h
noncomputable abbrev pH(fa fb:FE):FE:=λρ h=>(fa ρ h).bind λx h=>(fb ρ h).bind λy h=>match y with|.tup ys=>.ok (.tup (x::ys)) h|_=>.no
section
variable{X:Cx}{a b c e o:ao}{es:List ao}{fa fb fc fo:FE}{pos p:Pos}{x:Str}
noncomputable abbrev je(fa:FE)(g:List W->VH->Res W):FE:=λρ h=>(fa ρ h).bind λy h=>match y with|.tup ys=>g ys h|_=>.no
noncomputable def fW(K:aI)(r:List V->Hp->VK->Prop)(g:List W->VH->Res W):Prop:=∀(m:Nat->ah) (h:VH) (H:Hp) (vs:List V) (xs:List W) (w:W) (h':VH) (Q:VK),Rel K m h H->aE K m h.n H vs xs->g xs h=.ok w h'->aR K m h.n H w h' Q->r vs H Q
theorem Cv{id:String}{r:List V->Hp->VK->Prop}{g:List W->VH->Res W}(hc:dF X (.builtin id) r)(hv:fW X.K r g)(hg:Gl X x)(hm:X.mg x=aC)(hb:bootBuiltins x=aB (.builtin id))(ha:SA X (e::es) fa)(hs:(e::es).all fq=true)
 (hn:x≠"__name__") (hdb:(x==("__debug__" : Str))=false):SE X (.Call (.Name x p) (e::es) [] pos) (je fa g):=by
 rw[j0,aY]at hs;exact(Iw hc hg hm hb ha hn hdb (eW hs.1) (nP hs.2)).imp λσ H Q q=>vh hv q
theorem zev{T:String}{r:List V->Hp->VK->Prop}{g:List W->VH->Res W}(hc:dF X (.type T) r)(hv:fW X.K r g)(hg:Gl X x)(hm:X.mg x=aC)(hb:bootBuiltins x=aB (.type T))(ha:SA X (e::es) fa)(hs:(e::es).all fq=true)
 (hn:x≠"__name__") (hdb:(x==("__debug__" : Str))=false):SE X (.Call (.Name x p) (e::es) [] pos) (je fa g):=by
 rw[j0,aY]at hs;exact(UO hc hg hm hb ha hn hdb (eW hs.1) (nP hs.2)).imp λσ H Q q=>vh hv q
theorem gB{K:aI}{m:Nat->ah}{n:Nat}{H:Hp}{vs:List V}{w:W}(q:aE K m n H vs [w]):∃v,vs=[v]/\aL K m n H v w:=by
 cases q with|cons q r=>cases r;exact⟨_,rfl,q⟩
theorem XG{K:aI}:fW K (λxs H Q=>∃p ys,xs=[.ref p]/\(cM K H p ys\/cD K H p ys)/\Q (.int ys.length) H) gz:=by
 intro m h H vs xs w h' Q r q e k;unfold gz at e;split at e<;>try cases e
 rename_i x;obtain⟨v,rfl,q1⟩:=gB q;obtain⟨e,rfl⟩:=of_ok e;cases z:aO h' x with
 |none=>rw[z]at e;cases e
 |some ws=>
  rw[z]at e;cases e;obtain⟨p,us,rfl,h1,h2⟩:=zU r q1 z;exact⟨p,us,rfl,h1,by rw[h2.length];exact aR.here k r (.int _)⟩
theorem XI{K:aI}:fW K (λxs H Q=>∃p ys,xs=[.ref p]/\(cM K H p ys\/cD K H p ys)/\∀l,H l=aC->Q (.ref l) (upd H l (.lst ys))) gU:=by
 intro m h H vs xs w h' Q r q e k;unfold gU at e;split at e<;>try cases e
 rename_i x;obtain⟨v,rfl,q1⟩:=gB q;cases z:aO h x with
 |none=>rw[z]at e;cases e
 |some ws=>
  rw[z]at e;cases e;obtain⟨p,us,rfl,h1,h2⟩:=zU r q1 z;exact⟨p,us,rfl,h1,λl hl=>aR.list k r h2 hl⟩
theorem XJ{K:aI}:fW K (λxs H Q=>∃p ys,xs=[.ref p]/\((cM K H p ys/\∀l,H l=aC->Q (.ref l) (upd H l (.tup ys)))\/(cD K H p ys/\Q (.ref p) H))) xM:=by
 intro m h H vs xs w h' Q r q e k;unfold xM at e;split at e<;>try cases e
 rename_i x;obtain⟨v,rfl,q1⟩:=gB q;obtain⟨e,rfl⟩:=of_ok e;cases z:aO h' x with
 |none=>rw[z]at e;cases e
 |some ws=>
  rw[z]at e;cases e;obtain⟨p,us,rfl,h1,h2⟩:=zU r q1 z;rcases h1 with h1|h1
  exact⟨p,us,rfl,.inl ⟨h1,λl hl=>aR.tuple k r h2 hl⟩⟩;exact⟨p,us,rfl,.inr ⟨h1,aR.here k r (.tup h1 h2)⟩⟩
theorem XM{K:aI}:fW K (λxs H Q=>(∃i,xs=[.int i]/\Q (.int i) H)\/∃k,xs=[.bl k]/\Q (.int (if k then 1 else 0)) H) jF:=by
 intro m h H vs xs w h' Q r q e k;unfold jF at e;split at e<;>try cases e
 obtain⟨v,rfl,q1⟩:=gB q;cases q1;exact .inl ⟨_,rfl,aR.here k r (.int _)⟩;obtain⟨v,rfl,q1⟩:=gB q;cases q1;exact .inr ⟨_,rfl,aR.here k r (.int _)⟩
theorem XN{K:aI}:fW K (λxs H Q=>∃i,xs=[.int i]/\Q (.int (if i<0 then -i else i)) H) lM:=by
 intro m h H vs xs w h' Q r q e k;unfold lM at e;split at e<;>try cases e
 obtain⟨v,rfl,q1⟩:=gB q;cases q1;exact⟨_,rfl,aR.here k r (.int _)⟩
theorem pI{K:aI}{m:Nat->ah}{n:Nat}{H:Hp}{vs:List V}{w z:W}(q:aE K m n H vs [w,z]):∃v u,vs=[v,u]/\aL K m n H v w/\aL K m n H u z:=by
 cases q with|cons q r=>obtain⟨u,rfl,h⟩:=gB r;exact⟨_,_,rfl,q,h⟩
theorem XO{K:aI}:fW K (λxs H Q=>∃i j,xs=[.int i,.int j]/\Q (.int (if j>i then j else i)) H) sQ:=by
 intro m h H vs xs w h' Q r q e k;unfold sQ at e;split at e<;>try cases e
 obtain⟨v,u,rfl,q1,q2⟩:=pI q;cases q1;cases q2;exact⟨_,_,rfl,aR.here k r (.int _)⟩
theorem XQ{K:aI}:fW K (λxs H Q=>∃i j,xs=[.int i,.int j]/\Q (.int (if j<i then j else i)) H) lN:=by
 intro m h H vs xs w h' Q r q e k;unfold lN at e;split at e<;>try cases e
 obtain⟨v,u,rfl,q1,q2⟩:=pI q;cases q1;cases q2;exact⟨_,_,rfl,aR.here k r (.int _)⟩
theorem O9{K:aI}{m:Nat->ah}{n:Nat}{H:Hp}:∀{vs:List V} {ws:List W} {bs:List Bool},aE K m n H vs ws->aW ve ws=aB bs->vs=bs.map .bl
 |_,_,bs,.nil,e=>by cases e;rfl
 |_,_,bs,.cons (w:=w) (ws:=ws) q r,e=>by
  unfold aW at e;cases z:ve w with
  |none=>rw[z]at e;cases e
  |some b=>
   rw[z]at e;cases z2:aW ve ws with
   |none=>rw[z2]at e;cases e
   |some cs=>
    rw[z2]at e;cases e;unfold ve at z;split at z<;>cases z;cases q;rw[O9 r z2];rfl
theorem XS{K:aI}:fW K (λxs H Q=>∃(p:ah) (bs:List Bool),xs=[.ref p]/\cM K H p (bs.map .bl)/\Q (.bl (bs.all id)) H) nK:=by
 intro m h H vs xs w h' Q r q e k;unfold nK at e;split at e<;>try cases e
 rename_i i;split at e<;>try cases e
 rename_i ws g;obtain⟨v,rfl,q1⟩:=gB q;obtain⟨e,rfl⟩:=of_ok e;cases z:aW ve ws with
 |none=>rw[z]at e;cases e
 |some bs=>
  rw[z]at e;cases e;cases q1;obtain⟨us,p1,p2⟩:=r.lst g;refine⟨_,bs,rfl,?_,aR.here k r (.bl _)⟩;rw[<-O9 p2 z];exact .inl (.inl p1)
noncomputable def sU:Ty->String|.int=>"int" |.bool=>"bool" |.tuple=>"tuple" |.list=>"list" |.str=>"str" |.dict=>"dict"
noncomputable def Cw(K:aI)(n:String):List V->Hp->VK->Prop:=λxs H Q=>∃x b,xs=[x,.ty n]/\((∃t,gx K H x t/\PySem.W.kitOne K t (.type n)=aB b)\/(∃a vs,x=.ref a/\cD K H a vs/\PySem.W.kitOne K (.type "tuple") (.type n)=aB b)\/∃a,x=.ref a/\((∃kvs,Rd H a (.dK kvs))\/∃xs,H a=aB (lJ xs a))/\PySem.W.kitOne K (.type "dict") (.type n)=aB b)/\Q (.bl b) H
theorem XT(n:String):dF X (.builtin "isinstance") (Cw X.K n):=by
 intro pins s σ H xs us Q I r h;obtain⟨x,b,rfl,hi,q⟩:=h;obtain⟨u,u2,rfl,rx,rc⟩:=vals2 r;obtain rfl:u2=Value.type n:=rc;rcases hi with⟨t,ty,e⟩|⟨a,vs,rfl,sq,e⟩|⟨a,rfl,rd,e⟩
 exact UJ I rx ty e λtk=>⟨.bl b,H,I.tok _,rfl,q⟩
 obtain rfl:u=Value.ref a:=rx;obtain⟨its,_,p,_⟩:=I.tuple sq;obtain⟨o,h1,h2,_⟩:=p;exact mq PySem.W.kitx_tuple I.dM ⟨o,h1,h2⟩ e (λz=>nomatch z) λtk=>⟨.bl b,H,I.tok _,rfl,q⟩
 obtain rfl:u=Value.ref a:=rx;obtain⟨o,h1,h2⟩:∃o,s.heap.get? a=aB o/\o.ExactDict:=by
  rcases rd with⟨kvs,rd⟩|⟨xs,rd⟩;obtain⟨_,_,_,_,o,_,_,h1,h2,_⟩:=kh I.hok rd;exact⟨o,h1,h2⟩;obtain⟨_,_,_,_,_,o,_,_,h1,h2,_⟩:=OS I.hok rd;exact⟨o,h1,h2⟩
 exact mq PySem.W.kitx_dict I.dM ⟨o,h1,h2.1⟩ e (λz=>nomatch z) λtk=>⟨.bl b,H,I.tok _,rfl,q⟩
theorem XU{K:aI}(t:Ty){m:Nat->ah}{h:VH}{H:Hp}{v:V}{x:W}{b:Bool}(r:Rel K m h H)(q:aL K m h.n H v x)(e:dP t h x=aB b) :
 (∃t',gx K H v t'/\PySem.W.kitOne K t' (.type (sU t))=aB b)\/(∃a vs,v=.ref a/\cD K H a vs/\PySem.W.kitOne K (.type "tuple") (.type (sU t))=aB b)\/∃a,v=.ref a/\((∃kvs,Rd H a (.dK kvs))\/∃xs,H a=aB (lJ xs a))/\PySem.W.kitOne K (.type "dict") (.type (sU t))=aB b:=by
 cases q with
 |aG=>cases e;refine .inl ⟨_,.aG,?_⟩;cases t<;>rfl
 |bl x=>cases e;refine .inl ⟨_,.bl x,?_⟩;cases t<;>rfl
 |int x=>cases e;refine .inl ⟨_,.int x,?_⟩;cases t<;>rfl
 |str x=>cases e;refine .inl ⟨_,.str x,?_⟩;cases t<;>rfl
 |tup sq rs=>cases e;refine .inr (.inl ⟨_,_,rfl,sq,?_⟩);cases t<;>rfl
 |fz _ _=>cases e
 | @ref i hi=>
  simp only[dP]at e;cases g:h.get i with
  |none=>rw[g]at e;cases e
  |some o=>
   rw[g]at e;cases o with
   |lst ws=>
    cases e;obtain⟨vs,h1,h2⟩:=r.lst g;refine .inl ⟨_,.lst h1,?_⟩;cases t<;>rfl
   |dk ws=>
    cases e;obtain⟨vs,h1,h2⟩:=r.dk g;refine .inr (.inr ⟨_,rfl,.inl ⟨_,h1⟩,?_⟩);cases t<;>rfl
   |dt ks ws=>
    cases e;obtain⟨xs,h1,_⟩:=r.dt g;refine .inr (.inr ⟨_,rfl,?_,?_⟩);rcases h1 with h1|⟨_,h1⟩
    exact .inr ⟨xs,h1⟩;exact .inl ⟨_,.inl h1⟩;cases t<;>rfl
   |ins _ _ _=>cases e
theorem XW(t:Ty){T:Str}{p2:Pos}(ha:SE X e fa)(hs:fq e)(hg:Gl X "isinstance")(hm:X.mg "isinstance" = aC)(XX:Gl X T)(XY:X.mg T=aC)(XZ:bootBuiltins T=aB (.type (sU t)))(hn:T≠"__name__")(hd:(T==("__debug__" : Str))=false) :
 SE X (.Call (.Name "isinstance" p) [e,.Name T p2] [] pos) (λρ h=>(fa ρ h).bind λx h=>.of ((dP t h x).map .bl) h):=by
 have hT:PE X (.Name T p2) (tC (.ty (sU t))):=Nh XX XY XZ rfl hn hd;refine(Iw (XT (sU t)) hg hm PyProof.Rows.boot_isinstance (ou ha (ou hT rz) (eW hs)) (by decide) (by decide) (eW hs) rfl).imp λσ H Q q=>?_;refine OU (g:=λx h=>.of ((dP t h x).map .bl) h) (G:=λv H1 Q=>Cw X.K (sU t) [v,.ty (sU t)] H1 Q) (λm h H v x w h' Q r q e k=>?_) q;obtain⟨e,rfl⟩:=of_ok e;cases z:dP t h' x with
 |none=>rw[z]at e;cases e
 |some b=>
  rw[z]at e;cases e;exact⟨v,b,rfl,XU t r q z,aR.here k r (.bl b)⟩
noncomputable def Cy:ao->Bool|.Name .. |.Subscript ..=>true|_=>false
theorem JD{m:Str}(h:Cy o):attributeBase o m env (eval o env)=eval o env:=by
 cases o<;>first|rfl|cases h
noncomputable abbrev X0(m:Mt)(fo fa:FE):FE:=λρ h=>(fo ρ h).bind λx h=>if Cb m h x then(fa ρ h).bind λy h=>match y with|.tup ys=>xN m x ys h|_=>.no else .no
theorem X3(ho:SE X o fo)(he:SE X e fa)(hb:Cy o)(hs:fq e)(hl:(apos.endLine==pos.line)) :
 SE X (.Call (.Attribute o "append" apos) [e] [] pos) (X0 .append fo (pH fa sR)):=by
 refine(oX (X:=X) PySem.F.plainAttrs_list PySem.F.slot_list_append PySem.F.type_list_append N4 ho (ou he rz (eW hs)) (JD hb) ?_ hl (eW hs) rfl).imp λσ H Q z9=>z9.el λρ h m w h' f r e k=>?_;rw[eW hs];rfl;refine bO e λx h1 e1 e2=>?_;split at e2;rename_i hk;refine bO e2 λy h2 e3 e4=>?_;refine bO e3 λz h3 e5 e6=>?_;cases e6;refine(.mk f r e1 λv H1 m1 s1 r1 q1=>?_);cases x<;>try cases hk
 rename_i i;simp only[Cb]at hk;cases g:h1.get i with
 |none=>rw[g]at hk;cases hk
 |some ob=>
  rw[g]at hk;cases ob with
  |dk _=>cases hk
  |dt _ _=>cases hk
  |ins _ _ _=>cases hk
  |lst W6=>
   cases q1;obtain⟨Jp,p1,_⟩:=r1.lst g;refine⟨.inl ⟨rfl,Jp,cM.of p1⟩,ρ,h1,m1,z,h2,f.stp s1,r1,e5,λv2 H2 m2 s2 r2 q2=>?_⟩;simp only[xN]at e4;cases g2:h2.get i with
   |none=>rw[g2]at e4;cases e4
   |some ob=>
    rw[g2]at e4;cases ob with
    |dk _=>cases e4
    |dt _ _=>cases e4
    |ins _ _ _=>cases e4
    |lst ws=>
     simp only at e4;split at e4;rename_i hz;cases e4;obtain⟨vs,p2,p3⟩:=r2.lst g2;have hmi:m1 i=m2 i:=(s2.same i (fV g)).symm;refine⟨m1 i,vs,v2,rfl,rfl,by rw[hmi];exact p2,by rw[p3.length];exact fN.mp hz,?_⟩;obtain⟨st,r'⟩:=r2.write (i:=i) (o:=.lst (ws++[z])) (u:=.lst (vs++[v2])) (fV g2) p2 (λ_ z=>nomatch z) (λ_ _ z=>nomatch z) λst=>⟨vs++[v2],eV,(p3.stp st).append (.cons (q2.stp st) .nil)⟩
     rw[hmi];exact k .aG _ m2 ((s1.trans s2).trans st) r' .aG;cases e4
 cases e2
end
section
variable{K:aI}{m m' m1:Nat->ah}{n n' n1:Nat}{h h':VH}{H H' H1:Hp}
mutual
theorem aL.mono(hn:n<=n')(hm:∀i,i<n->m' i=m i)(kt:∀b vs,H b=aB (.tup vs)->H' b=aB (.tup vs))(kf:∀b o u,H b=aB (.cG o u)->H' b=aB (.cG o u)):∀{v:V} {w:W},aL K m n H v w->aL K m' n' H' v w
 |_,_,.aG=>.aG
 |_,_,.bl b=>.bl b
 |_,_,.int b=>.int b
 |_,_,.str b=>.str b
 |_,_,.tup q r=>.tup (by
  rcases q with(q|⟨o,q⟩)|q;exact .inl (.inl (kt _ _ q));exact .inl (.inr ⟨o,kf _ _ _ q⟩);exact .inr q) (aE.mono hn hm kt kf r)
 |_,_,.fz q r=>.fz (by
  rcases q with⟨o,q⟩|q;exact .inl ⟨o,kf _ _ _ q⟩;exact .inr q) (aE.mono hn hm kt kf r)
 |_,_,.ref (i:=i) q=>by rw[<-hm i q];exact .ref (ff q hn)
theorem aE.mono(hn:n<=n')(hm:∀i,i<n->m' i=m i)(kt:∀b vs,H b=aB (.tup vs)->H' b=aB (.tup vs))(kf:∀b o u,H b=aB (.cG o u)->H' b=aB (.cG o u)):∀{vs:List V} {ws:List W},aE K m n H vs ws->aE K m' n' H' vs ws|_,_,.nil=>.nil|_,_,.cons q r=>.cons (aL.mono hn hm kt kf q) (aE.mono hn hm kt kf r)
end
theorem Rel.side(r:Rel K m h H){D:ah}{u u0:HO}(hu:H D=aB u0)(ht:∀t,u0≠.tup t)(hf:∀o t,u0≠.cG o t)(ho:∀i,i<h.n->m i≠D)(s:bS m1 n1 H1 m h.n H)(h0:H1 D=aC) :
 bS m1 n1 H1 m h.n (upd H D u)/\Rel K m h (upd H D u)/\∀{v:V}{w:W},aL K m h.n H v w->aL K m h.n (upd H D u) v w:=by
 have kt:∀b vs,H b=aB (.tup vs)->upd H D u b=aB (.tup vs):=λb vs q=>by rw[bR (fB q hu λz=>ht vs z.symm)];exact q
 have kf:∀b o t,H b=aB (.cG o t)->upd H D u b=aB (.cG o t):=λb o t q=>by rw[bR (fB q hu λz=>hf o t z.symm)];exact q
 have mv:∀{v:V}{w:W},aL K m h.n H v w->aL K m h.n (upd H D u) v w:=λq=>q.mono (bq _) (λ_ _=>rfl) kt kf;refine⟨⟨s.le,s.same,s.new,s.apart,λb vs q=>kt b vs (s.tup b vs q),λb o t q=>kf b o t (s.cG b o t q),λb o nb q=>by rw[bR (ir q h0)];exact s.keep b o nb q⟩,⟨λi hi=>?_,r.inj,r.len⟩,mv⟩;obtain⟨o,h1,h2⟩:=r.obj i hi;have eq:upd H D u (m i)=H (m i):=bR (ho i hi);refine⟨o,h1,?_⟩;cases o with|lst ws=>obtain⟨vs,q1,q2⟩:=h2;exact⟨vs,eq.trans q1,q2.map mv⟩|dk ws=>obtain⟨vs,q1,q2⟩:=h2;exact⟨vs,q1.imp (λz=>eq.trans z) λ⟨o,z⟩=>⟨o,eq.trans z⟩,q2.map mv⟩|dt ks ws=>obtain⟨xs,q1,q0,q2,q3⟩:=h2;exact⟨xs,q1.imp (λz=>eq.trans z) λ⟨o,z⟩=>⟨o,eq.trans z⟩,q0,q2.map mv,q3.map mv⟩|ins C xs ws=>obtain⟨dx,vs,q1,q0,q2⟩:=h2;exact⟨dx,vs,eq.trans q1,q0,q2.map mv⟩
theorem Rel.out(r:Rel K m h H){p:ah}(hp:H p=aC):∀i,i<h.n->m i≠p:=λi hi z=>by
 obtain⟨o',_,h2⟩:=r.obj i hi;obtain⟨u',h3⟩:=h2.some;rw[z,hp]at h3;cases h3
theorem bS.out(s:bS m n H m' n' H'){p:ah}(hp:∀i,i<n->m i≠p)(hu:H p=aB u):∀i,i<n'->m' i≠p:=λi hi z=>by
 by_cases hl:i<n;exact hp i hl ((s.same i hl).symm.trans z);have:=s.new i (jQ.mp hl) hi;rw[z,hu]at this;cases this
end
inductive gY(K:aI)(m:Nat->ah)(n:Nat)(H:Hp):List (V×V)->List W->Prop
 |nil:gY K m n H [] []
 |cons {k v:V} {a b:W} {ps:List (V×V)} {ws:List W}:aL K m n H k a->aL K m n H v b->gY K m n H ps ws->gY K m n H ((k,v)::ps) (a::b::ws)
noncomputable def pJ(K:aI)(f:FE)(σ:L2.St)(H:Hp)(Q:List (V×V)->Hp->Prop):Prop:=∃ρ h m ws h',Fr K m h.n H σ ρ/\Rel K m h H/\f ρ h=.ok (.tup ws) h'/\
 ∀ps H' m',bS m h.n H m' h'.n H'->Rel K m' h' H'->gY K m' h'.n H' ps ws->Q ps H'
theorem pJ.el{K:aI}{σ:L2.St}{H:Hp}{P:Prop}{fa:FE}{Q:List (V×V)->Hp->Prop}(q:pJ K fa σ H Q)(k:∀ρ h m ws h',Fr K m h.n H σ ρ->Rel K m h H->fa ρ h=.ok (.tup ws) h'->(∀ps H' m',bS m h.n H m' h'.n H'->Rel K m' h' H'->gY K m' h'.n H' ps ws->Q ps H')->P):P:=by
 obtain⟨ρ,h,m,w,h',f,r,e,k'⟩:=q;exact k ρ h m w h' f r e k'
theorem pJ.mk{K:aI}{σ:L2.St}{H:Hp}{m:Nat->ah}{ρ:En}{h h':VH}{ws:List W}{fa:FE}{Q:List (V×V)->Hp->Prop}(f:Fr K m h.n H σ ρ)(r:Rel K m h H)(e:fa ρ h=.ok (.tup ws) h')(k:∀ps H' m',bS m h.n H m' h'.n H'->Rel K m' h' H'->gY K m' h'.n H' ps ws->Q ps H'):pJ K fa σ H Q:=⟨ρ,h,m,ws,h',f,r,e,k⟩
noncomputable def Cz(X:Cx)(pos:Pos)(keys:List (Option ao))(values:List ao)(f:FE):Prop:=∃mG,BV X pos keys values mG/\∀σ H Q,pJ X.K f σ H Q->Gb mG σ H Q
section
variable{X:Cx}{a b c e o:ao}{es:List ao}{fa fb fc fo fr:FE}{pos p:Pos}{x:Str}
theorem X4:Cz X pos [] [] sR:=⟨[],V5,λσ H Q z9=>z9.el λρ h m ws h' f r e k=>by cases e;exact k [] H m .refl r .nil⟩
theorem X5{ks:List (Option ao)}{vs:List ao}(ha:SE X a fa)(hb:SE X b fb)(hr:Cz X pos ks vs fr):Cz X pos (aB a::ks) (b::vs) (pH fa (pH fb fr)):=by
 obtain⟨mG,h1,h2⟩:=hr;refine⟨_,V6 ha hb h1,λσ H Q z9=>z9.el λρ h m ws h' f r e k=>?_⟩;refine bO e λx h3 e1 e2=>?_;refine bO e2 λy h4 e3 e4=>?_;refine bO e3 λx2 h5 e5 e6=>?_;refine bO e6 λy2 h6 e7 e8=>?_;cases y2<;>try cases e8
 cases e4;rename_i ys;exact(.mk f r e1 λv H1 m1 s1 r1 q1=>(.mk (f.stp s1) r1 e5 λv2 H2 m2 s2 r2 q2=>h2 σ H2 _ (.mk ((f.stp s1).stp s2) r2 e7 λps H3 m3 s3 r3 q3=>
  k _ H3 m3 ((s1.trans s2).trans s3) r3 (.cons ((q1.stp s2).stp s3) (q2.stp s3) q3))))
theorem Pa{K:aI}{m:Nat->ah}{n:Nat}{H:Hp}:∀{ps:List (V×V)} {ws:List W} {kws:List (Key×W)},gY K m n H ps ws->vg ws=aB kws->∃kvs:List (Key×V),ps=kvs.map (λkv=>(kV kv.1,kv.2))/\aU K m n H kvs kws
 |_,_,_,.nil,e=>by cases e;exact⟨[],rfl,.nil⟩
 |_,_,_,.cons (a:=a) (v:=v) q1 q2 r,e=>by
  simp only[vg]at e;split at e;rename_i k hk;split at e;rename_i kvs hp;cases e;obtain⟨kv,rfl,r'⟩:=Pa r hp;refine⟨(k,v)::kv,?_,.cons q2 r'⟩;rw[cP,Xx q1 hk];cases e;cases e
noncomputable abbrev CA(f:FE):FE:=λρ h=>(f ρ h).bind λy h=>match y with
 |.tup ys=>(match vg ys with
  |some kvs=>if Nat.ble kvs.length 15 then .ok (.ref h.n) (h.new (Cc kvs))else .no
  |none=>nM ys h)
 |_=>.no
theorem X6{K:aI}{m:Nat->ah}{n:Nat}{H:Hp}{ps:List (V×V)}{a b:W}(q:gY K m n H ps [a,b]):∃k v,ps=[(k,v)]/\aL K m n H k a/\aL K m n H v b:=by
 cases q with|cons q1 q2 r=>cases r;exact⟨_,_,rfl,q1,q2⟩
theorem X7(hu:X.A.units+2<cLine){keys:List (Option ao)}{values:List ao}(hp:Cz X pos keys values fa)(hall:keys.all (·.isSome))(hl:keys.length=values.length)(h0:keys≠[])(Jo:keys.length<=15):SE X (.Dict keys values pos) (CA fa):=by
 obtain⟨mG,h1,h2⟩:=hp;refine(W5 hu h1 hall hl h0 Jo).imp λσ H Q z9 p hp=>z9.el λρ h m w h' f r e k=>?_;refine bO e λy h3 e1 e2=>?_;cases y<;>try cases e2
 rename_i ys;obtain⟨mJ,r0⟩:=r.more (u:=.dK []) hp;refine h2 σ _ _ (.mk (f.stp mJ) r0 e1 λps H2 m2 s2 r2 q2=>?_);have hout:=s2.out (r.out hp) eV;have hD:H2 p=aB (.dK []):=s2.keep p _ (r.out hp) eV;refine⟨hD,?_⟩;have e2:(match vg ys with|some kvs=>if Nat.ble kvs.length 15 then Res.ok (W.ref h3.n) (h3.new (Cc kvs))else .no|none=>nM ys h3)=.ok w h':=e2
 cases hk:vg ys with
 |none=>
  rw[hk]at e2;have e5:nM ys h3=.ok w h':=e2;clear e2
  try(rename_i X8;clear X8)
  unfold nM at e5;split at e5;rename_i kw vw;split at e5;rename_i dk hd;cases e5;obtain⟨kv,vv,rfl,q3,q4⟩:=X6 q2;obtain⟨b,rfl,kk⟩:=Cn q3 hd;refine .inr ⟨b,dk,vv,rfl,kk,?_⟩;obtain⟨st,r'⟩:=r2.adopt (o:=.dt [kw] [vw]) (u:=lJ [(dk,b,vv)] p) hout hD (λ_ z=>nomatch z) (λ_ _ z=>nomatch z) (mJ.trans s2) hp λ_ mv=>⟨[(dk,b,vv)],.inl eV,by simp[aW,hd],.cons (mv q3) .nil,.cons (mv q4) .nil⟩
  refine k _ _ _ st r' ?_;have:aL X.K (λi=>if i=h3.n then p else m2 i) (h3.n+1) (upd H2 p (lJ [(dk,b,vv)] p)) (.ref ((λi=>if i=h3.n then p else m2 i) h3.n)) (.ref h3.n):=.ref (lg _);simp only[bX]at this;exact this;cases e5;cases e5
 |some kws=>
  rw[hk]at e2;have e2:(if Nat.ble kws.length 15 then Res.ok (W.ref h3.n) (h3.new (Cc kws))else .no)=.ok w h':=e2;by_cases hz:Nat.ble kws.length 15=true;rw[if_pos hz]at e2;cases e2;obtain⟨kvs,e3,q3⟩:=Pa q2 hk;refine .inl ⟨kvs,e3,by rw[q3.length];exact kU hz,?_⟩;obtain⟨st,r'⟩:=r2.adopt (o:=Cc kws) (u:=.dK (u7 [] kvs)) hout hD (λ_ z=>nomatch z) (λ_ _ z=>nomatch z) (mJ.trans s2) hp λ_ mv=>by
   cases kws with|nil=>cases q3;exact⟨[],.inr ⟨rfl,eV⟩,rfl,.nil,.nil⟩|cons k1 kws=>exact⟨_,.inl eV,(q3.merge .nil).map mv⟩
  refine k _ _ _ st r' ?_;have:aL X.K (λi=>if i=h3.n then p else m2 i) (h3.n+1) (upd H2 p (.dK (u7 [] kvs))) (.ref ((λi=>if i=h3.n then p else m2 i) h3.n)) (.ref h3.n):=.ref (lg _);simp only[bX]at this;exact this;rw[if_neg hz]at e2;cases e2
theorem Yb:SE X (.Dict [] [] pos) (CA sR):=V4.imp λσ H Q z9 p hp=>z9.el λρ h m w h' f r e k=>by
 cases e;exact aR.Cd (ks:=[]) (ws:=[]) (xs:=[]) k r hp (.inr ⟨rfl,rfl⟩) rfl .nil .nil
noncomputable def jo(K:aI)(np:Nat)(g:List W->VH->Res W):Sp:=λvs H Q _=>vs.length=np/\∃h m ws w h',Rel K m h H/\aE K m h.n H vs ws/\g ws h=.ok w h'/\aR K m h.n H w h' Q
theorem Yc{k:Nat}{f:ah}{ps:List Str}{g:List W->VH->Res W}(F:bU X.prog X.w X.K X.mg X.base jb k f fd ps (jo X.K ps.length g))(hr:bG k X.A)(hg:Gl X x)(hm:X.mg x=aB (.ref f))(hk:PySem.W.keepIn X.K (.ref f)=true)
 (hb:Binds X.K fd ps []) (ha:SA X (e::es) fa) (hs:(e::es).all fq) (hdb:(x==("__debug__" : Str))=false) (hn:∀ws h w h',g ws h=.ok w h'->ws.length=ps.length):SE X (.Call (.Name x p) (e::es) [] pos) (je fa g):=by
 rw[j0,aY]at hs;refine(F5 F hr hg hm hk hb .nil jk ha hdb (eW hs.1) (nP hs.2)).imp λσ H Q q=>vh (G:=λvs H1 Q=>jo X.K ps.length g (vs++[]) H1 Q E0) (λm h H vs xs w h' Q r q e k=>?_) q;rw[i7];exact⟨by rw[q.length];exact hn _ _ _ _ e,h,m,xs,w,h',r,q,e,k⟩
theorem Yd{k:Nat}{f:ah}{ps:List Str}{g:List W->VH->Res W}(F:bU X.prog X.w X.K X.mg X.base jb k f fd ps (jo X.K ps.length g))(hr:bG k X.A)(hg:Gl X x)(hm:X.mg x=aB (.ref f))(hk:PySem.W.keepIn X.K (.ref f)=true)
 (hb:Binds X.K fd ps []) (hdb:(x==("__debug__" : Str))=false) (hn:∀ws h w h',g ws h=.ok w h'->ws.length=ps.length):SE X (.Call (.Name x p) [] [] pos) (je sR g):=by
 refine(UL F hr hg hm hk hb .nil jk hdb).imp λσ H Q z9=>z9.el λρ h m w h' f r e k=>?_;exact⟨hn _ _ _ _ e,h,m,[],w,h',r,.nil,e,k⟩
theorem Ye{k:Nat}{f:ah}{ps:List Str}{g:List W->VH->Res W}(F:bU X.prog X.w X.K X.mg X.base jb k f fd ps (jo X.K ps.length g))(hr:bG k X.A)(hg:Gl X x)(hm:X.mg x=aB (.ref f))(hk:PySem.W.keepIn X.K (.ref f)=true)
 (hb:Binds X.K fd ps [.none]) (ha:SA X (e::es) fa) (hs:(e::es).all fq) (hdb:(x==("__debug__" : Str))=false) (hn:∀ws h w h',g ws h=.ok w h'->ws.length=ps.length):SE X (.Call (.Name x p) (e::es) [] pos) (je fa λws h=>g (ws++[.aG]) h):=by
 rw[j0,aY]at hs;refine(F5 F hr hg hm hk hb (iJ:=[V.aG]) (.cons rfl .nil) jk ha hdb (eW hs.1) (nP hs.2)).imp λσ H Q q=>vh (G:=λvs H1 Q=>jo X.K ps.length g (vs++[V.aG]) H1 Q E0) (λm h H vs xs w h' Q r q e k=>?_) q;have q':aE X.K m h.n H (vs++[V.aG]) (xs++[W.aG]):=q.append (.cons .aG .nil);exact⟨by rw[q'.length];exact hn _ _ _ _ e,h,m,xs++[W.aG],w,h',r,q',e,k⟩
noncomputable def jH(K:aI)(nx:Nat->VH->Option (Option W))(J:It)(P:(Nat->ah)->Nat->Hp->Prop):Prop:=
 (∀m n H m' n' H',n<=n'->(∀i,i<n->m' i=m i)->(∀b vs,H b=aB (.tup vs)->H' b=aB (.tup vs))->(∀b o u,H b=aB (.cG o u)->H' b=aB (.cG o u))->P m n H->P m' n' H')/\
 ∀m h H,Rel K m h H->P m h.n H->∀i,(∀w,nx i h=aB (aB w)->J.go i H/\∀y H3,J.A7 i H y H3->bS m h.n H m h.n H3/\Rel K m h H3/\aL K m h.n H3 y w)/\(nx i h=aB aC->J.stop i H)
noncomputable def fR(K:aI)(kd:Kd)(f:FE):TI:=λσ H R=>∃ρ h m x h',Fr K m h.n H σ ρ/\Rel K m h H/\f ρ h=.ok x h'/\(∃o,bZ kd x 0 h'=aB o)/\
 ∀J P H' m',bS m h.n H m' h'.n H'->Rel K m' h' H'->jH K (bZ kd x) J P->P m' h'.n H'->R J H'
theorem fR.el{K:aI}{σ:L2.St}{H:Hp}{P:Prop}{kd:Kd}{fa:FE}{R}(q:fR K kd fa σ H R)(k:∀ρ h m x h',Fr K m h.n H σ ρ->Rel K m h H->fa ρ h=.ok x h'->∀o,bZ kd x 0 h'=aB o->(∀J P H' m',bS m h.n H m' h'.n H'->Rel K m' h' H'->jH K (bZ kd x) J P->P m' h'.n H'->R J H')->P):P:=by
 obtain⟨ρ,h,m,w,h',f,r,e,⟨o,eo⟩,k'⟩:=q;exact k ρ h m w h' f r e o eo k'
theorem fR.mk{K:aI}{σ:L2.St}{H:Hp}{m:Nat->ah}{ρ:En}{h h':VH}{x:W}{kd:Kd}{fa:FE}{R}(f:Fr K m h.n H σ ρ)(r:Rel K m h H)(e:fa ρ h=.ok x h')(eo:∃o,bZ kd x 0 h'=aB o)(k:∀J P H' m',bS m h.n H m' h'.n H'->Rel K m' h' H'->jH K (bZ kd x) J P->P m' h'.n H'->R J H'):fR K kd fa σ H R:=⟨ρ,h,m,x,h',f,r,e,eo,k⟩
theorem JE{K:aI}{H H':Hp}{a:ah}{vs:List V}(kt:∀b vs,H b=aB (.tup vs)->H' b=aB (.tup vs))(kf:∀b o u,H b=aB (.cG o u)->H' b=aB (.cG o u))(q:cD K H a vs):cD K H' a vs:=by
 rcases q with(q|⟨o,q⟩)|q;exact .inl (.inl (kt _ _ q));exact .inl (.inr ⟨o,kf _ _ _ q⟩);exact .inr q
theorem Pb{K:aI}{H H':Hp}{a:ah}{vs:List V}(kf:∀b o u,H b=aB (.cG o u)->H' b=aB (.cG o u))(q:Fz K H a vs):Fz K H' a vs:=by
 rcases q with⟨o,q⟩|q;exact .inl ⟨o,kf _ _ _ q⟩;exact .inr q
theorem zW{ws:List W}{h:VH}{x:W}{i:Nat}{o:Option W}(e:aO h x=aB ws)(q:bZ .seq x i h=aB o):ws[i]?=o:=by
 simp only[bZ,e]at q;cases q;rfl
theorem Yg{K:aI}{a:ah}{vs:List V}{ws:List W}:jH K (bZ .seq (.tup ws)) (Ie K a) (λm n H=>cD K H a vs/\aE K m n H vs ws):=by
 refine⟨λm n H m' n' H' hn hm kt kf ⟨q1,q2⟩=>⟨JE kt kf q1,q2.mono hn hm kt kf⟩,λm h H r ⟨q1,q2⟩ i=>⟨λw e=>?_,λe=>?_⟩⟩;have e:=zW (ws:=ws) rfl e;obtain⟨v,h1,h2⟩:=q2.get e;refine⟨⟨vs,v,q1,h1⟩,λy H3 ⟨e3,y3⟩=>?_⟩;subst e3;have:=y3 vs q1;rw[h1]at this;cases this;exact⟨.refl,r,h2⟩;have e:=zW (ws:=ws) rfl e;exact⟨vs,q1,by rw[q2.length];exact rY.mp e⟩
theorem CB{K:aI}{a:ah}{vs:List V}{ws:List W}:jH K (bZ .seq (.fz ws)) (FZ K a) (λm n H=>Fz K H a vs/\aE K m n H vs ws):=by
 refine⟨λm n H m' n' H' hn hm kt kf ⟨q1,q2⟩=>⟨Pb kf q1,q2.mono hn hm kt kf⟩,λm h H r ⟨q1,q2⟩ i=>⟨λw e=>?_,λe=>?_⟩⟩;have e:=zW (ws:=ws) rfl e;obtain⟨v,h1,h2⟩:=q2.get e;refine⟨⟨vs,v,q1.sq,h1⟩,λy H3 ⟨e3,y3⟩=>?_⟩;subst e3;have:=y3 vs q1.sq;rw[h1]at this;cases this;exact⟨.refl,r,h2⟩;have e:=zW (ws:=ws) rfl e;exact⟨vs,q1.sq,by rw[q2.length];exact rY.mp e⟩
theorem Yh{K:aI}{a:ah}{l:Nat}:jH K (bZ .seq (.ref l)) (FZ K a) (λm n H=>l<n/\a=m l):=by
 refine⟨λm n H m' n' H' hn hm kt kf ⟨q1,q2⟩=>⟨ff q1 hn,by rw[hm l q1];exact q2⟩,λm h H r ⟨q1,q2⟩ i=>?_⟩;subst q2;cases g:h.get l with
 |none=>exact⟨λw e=>by simp[bZ,aO,g]at e,λe=>by simp[bZ,aO,g]at e⟩
 |some o=>
  cases o with
  |dk _=>exact⟨λw e=>by simp[bZ,aO,g]at e,λe=>by simp[bZ,aO,g]at e⟩
  |dt _ _=>exact⟨λw e=>by simp[bZ,aO,g]at e,λe=>by simp[bZ,aO,g]at e⟩
  |ins _ _ _=>exact⟨λw e=>by simp[bZ,aO,g]at e,λe=>by simp[bZ,aO,g]at e⟩
  |lst ws=>
   have hs:aO h (.ref l)=aB ws:=by simp[aO,g]
   obtain⟨vs,p1,p2⟩:=r.lst g;refine⟨λw e=>?_,λe=>?_⟩;have e:=zW hs e;obtain⟨v,h1,h2⟩:=p2.get e;refine⟨⟨vs,v,cM.of p1,h1⟩,λy H3 ⟨e3,y3⟩=>?_⟩;subst e3;have:=y3 vs (cM.of p1);rw[h1]at this;cases this;exact⟨.refl,r,h2⟩;have e:=zW hs e;exact⟨vs,cM.of p1,by rw[p2.length];exact rY.mp e⟩
theorem Yi{K:aI}{kd:Kd}{x:W}{lo:Int}{k:Nat}(hx:∀i h,bZ kd x i h=aB (if i<k then aB (.int (lo+i))else aC)):jH K (bZ kd x) (F0 lo k) (λ_ _ _=>True):=by
 refine⟨λ_ _ _ _ _ _ _ _ _ _ _=>trivial,λm h H r _ i=>⟨λw e=>?_,λe=>?_⟩⟩;rw[hx]at e;split at e;rename_i hi;cases e;refine⟨hi,λy H3 ⟨e3,y3⟩=>?_⟩;subst e3 y3;exact⟨.refl,r,.int _⟩;cases e;rw[hx]at e;split at e;cases e;rename_i hi;exact jQ.mp hi
theorem Pc{tg:ao}(ha:SE X e fa):PI X tg e (fR X.K .seq fa):=λpins s σ H R I z9=>z9.el λρ h m x h' f r ee o en k=>by
 have hs:∃ws,aO h' x=aB ws:=by
  cases z:aO h' x with|none=>simp[bZ,z]at en|some ws=>exact⟨ws,rfl⟩
 obtain⟨ws,hs⟩:=hs;cases x<;>try cases hs
 exact T4 ha pins s σ H R I (.mk f r ee λv H' m' s' r' q=>by
  cases q with|tup sq rs=>exact⟨_,rfl,⟨_,sq⟩,k _ _ H' m' s' r' Yg ⟨sq,rs⟩⟩)
 exact Nr ha pins s σ H R I (.mk f r ee λv H' m' s' r' q=>by
  cases q with|fz sq rs=>exact⟨_,rfl,⟨_,sq.sq⟩,k _ _ H' m' s' r' CB ⟨sq,rs⟩⟩)
 rename_i l;exact Nr ha pins s σ H R I (.mk f r ee λv H' m' s' r' q=>by
  obtain⟨p,vs,e1,e2,e3⟩:=zU r' q hs;cases q with
  |ref hi=>
   cases g:h'.get l with
   |none=>simp[aO,g]at hs
   |some ob=>
    cases ob with
    |dk _=>simp[aO,g]at hs
    |dt _ _=>simp[aO,g]at hs
    |ins _ _ _=>simp[aO,g]at hs
    |lst pG=>
     obtain⟨vs',p1,_⟩:=r'.lst g;exact⟨_,rfl,⟨_,cM.of p1⟩,k _ _ H' m' s' r' Yh ⟨hi,rfl⟩⟩)
theorem Yj{tg:ao}(ha:SA X [e] fa)(hs:fq e)(hg:Gl X "range")(hm:X.mg "range" = aC):PI X tg (.Call (.Name "range" p) [e] [] pos) (fR X.K .eL fa):=λpins s σ H R I z9=>z9.el λρ h m x h' f r ee o en k=>by
 simp only[bZ]at en;split at en;rename_i j;split at en;rename_i hf;refine T6 hg hm ha (eW hs) pins s σ H R I (.mk f r ee λvs H' m' s' r' q=>?_);obtain⟨v,rfl,q1⟩:=gB q;cases q1;refine⟨_,rfl,(Jv hf).1,(Jv hf).2,k _ _ H' m' s' r' (Yi λi h=>?_) trivial⟩;simp only[bZ,hf,bX];split<;>split<;>first|rfl|(exfalso;simp at *;lia)
 cases en;cases en
theorem Yk{elts:List ao}{kx:Nat}{tp:Pos}(hg:Gl X "enumerate")(hm:X.mg "enumerate" = aC)(hv:bootBuiltins "enumerate" = aB (.type "enumerate"))(ha:PA X [l] ta)(hs:starEach [l] X.env=[(false,eval l X.env)]) :
 PI X (.Tuple elts kx tp) (.Call (.Name "enumerate" p) [l] [] pos) (λσ H R=>ta σ H λvs H1=>∃a,vs=[.ref a]/\(∃xs,cD X.K H1 a xs)/\R (xD X.K a) H1):=by
 intro pins s σ H R I h;refine Call_ (zH I hg hm hv (Fx (bw (ha pos pins s σ H _ I h) λus s1 ⟨vs,H1,I1,r1,q1⟩=>?_) hs rfl));obtain⟨a,e,⟨xs,hq⟩,q⟩:=q1;subst e;obtain⟨u,rfl,ru⟩:=vals1 r1;cases ru;obtain⟨its,rv,pl,hz⟩:=I1.tuple hq;have pl:s1.heap.IsTuple a its.toArray:=pl;have hlt:a<s1.heap.objs.size:=by obtain⟨o,q,_⟩:=pl;exact cF q
 refine VT pl λh' he hit hsz kk=>wpAny_pyIter_enum he ?_;have hf:∀b,s1.heap.objs.size<=b->gv X pins H1 b:=λb hb=>I1.nv hb (I1.hok.fresh hb);refine⟨s1.heap.objs.size+1,[s1.heap.objs.size+1,s1.heap.objs.size],_,_,H1,rfl,I1.kept (t':=s1.toks) kk,VU a _ _ (kW (lg _)) (fj (Fg hlt)) (fj hlt),⟨⟨_,he⟩,hit⟩,λb hb=>hf b ?_,q⟩;rcases gq.mp hb with rfl|hb
 exact oq _;have e':b=s1.heap.objs.size:=by simpa using hb
 rw[e'];exact bq _
theorem Pd{ws:List W}{h:VH}{i:Nat}{o:Option W}(q:bZ .nH (.tup ws) i h=aB o):o=(ws[i]?).map λw=>.tup [.int i,w]:=by
 cases q;rfl
theorem Yl{K:aI}{a:ah}{vs:List V}{ws:List W}:jH K (bZ .nH (.tup ws)) (xD K a) (λm n H=>cD K H a vs/\aE K m n H vs ws):=by
 refine⟨λm n H m' n' H' hn hm kt kf ⟨q1,q2⟩=>⟨JE kt kf q1,q2.mono hn hm kt kf⟩,λm h H r ⟨q1,q2⟩ i=>⟨λw e=>?_,λe=>?_⟩⟩;have e:=Pd (ws:=ws) e;cases z:ws[i]? with
 |none=>rw[z]at e;cases e
 |some w0=>
  rw[z]at e;cases e;obtain⟨v,h1,h2⟩:=q2.get z;refine⟨⟨vs,v,q1,h1⟩,λy H3 ⟨T,v3,e1,e2,e3,y3⟩=>?_⟩;subst e1 e3;have:=y3 vs q1;rw[h1]at this;cases this;obtain⟨st,r'⟩:=r.more (u:=.tup [.int i,v]) e2;exact⟨st,r',.tup (cD.of eV) (.cons (.int _) (.cons (h2.stp st) .nil))⟩
 have e:=Pd (ws:=ws) e;cases z:ws[i]? with|some w0=>rw[z]at e;cases e|none=>exact⟨vs,q1,by rw[q2.length];exact rY.mp z⟩
theorem Ym:bootBuiltins "enumerate" = aB (.type "enumerate"):=by decide +kernel
theorem Yn(ha:SE X e fa)(hs:fq e):PA X [e] (λσ H Q=>iP X.K fa σ H λv H1=>Q [v] H1):=λp pins s σ H Q I q=>by
 refine ou ha rz (eW hs) p pins s σ H Q I ?_;refine q.el λρ h m w h' f r ee k=>?_;exact(.mk f r ee λv H' m' s' r' q'=>k v H' m' s' r' q')
theorem Yo{elts:List ao}{kx:Nat}{tp:Pos}(ha:SE X e fa)(hs0:fq e)(hg:Gl X "enumerate")(hm:X.mg "enumerate" = aC):PI X (.Tuple elts kx tp) (.Call (.Name "enumerate" p) [e] [] pos) (fR X.K .nH fa):=λpins s σ H R I z9=>z9.el λρ h m x h' f r ee o en k=>by
 cases x with
 |tup ws=>exact Yk hg hm Ym (Yn ha hs0) (eW hs0) pins s σ H R I ⟨ρ,h,m,_,h',f,r,ee,λv H' m' s' r' q=>by
  cases q with|tup sq rs=>exact⟨_,rfl,⟨_,sq⟩,k _ _ H' m' s' r' Yl ⟨sq,rs⟩⟩⟩
 |_=>cases en
theorem Yp{elts:List ao}{kx:Nat}{tp:Pos}(hg:Gl X "zip")(hm:X.mg "zip" = aC)(ha:PA X [l,l2] ta)(hs:starEach [l,l2] X.env=[(false,eval l X.env),(false,eval l2 X.env)])(hs2:starEach [l2] X.env=[(false,eval l2 X.env)]) :
 PI X (.Tuple elts kx tp) (.Call (.Name "zip" p) [l,l2] [] pos) (λσ H R=>ta σ H λvs H1=>∃b c a1 a2,vs=[.ref a1,.ref a2]/\(∃xs,nG b X.K H1 a1 xs)/\(∃ys,nG c X.K H1 a2 ys)/\R (xG X.K b c a1 a2) H1):=by
 intro pins s σ H R I h;refine Call_ (zH I hg hm PyProof.Rows.boot_zip (Fx (bw (ha pos pins s σ H _ I h) λus s1 ⟨vs,H1,I1,r1,q1⟩=>?_) (by rw[hs,hs2]) (by rw[hs2];rfl)));obtain⟨b,c,a1,a2,e,⟨xs,hq⟩,⟨ys,hr⟩,q⟩:=q1;subst e;cases r1 with
 |cons r rr=>
  cases rr with
  |cons r' rr=>
   cases rr;cases r;cases r';obtain⟨its,_,pl,_⟩:=zQ I1 hq;obtain⟨OO,_,Pe,_⟩:=zQ I1 hr;refine Wz pl Pe λh' e1 e2 e3 e4 e5 hsz kk=>wpAny_pyIter_zip e1 ?_;have hf:∀b,s1.heap.objs.size<=b->gv X pins H1 b:=λb hb=>I1.nv hb (I1.hok.fresh hb);refine⟨s1.heap.objs.size+4,_,_,_,H1,rfl,I1.kept (t':=s1.toks) kk,WA a1 a2 _ _ _ _ _ (Wl pl.lt Pe.lt),⟨e1,e2,⟨_,_,e3⟩,e4,e5⟩,λb hb=>hf b ?_,q⟩;simp only[gq,wW,wK]at hb;rcases hb with rfl|rfl|rfl|rfl|rfl
   exact zk _ _;exact zk _ _;exact zk _ _;exact bq _;exact zk _ _
noncomputable def Src(K:aI)(b:Bool)(a:ah)(u:W)(P:(Nat->ah)->Nat->Hp->Prop):Prop:=
 (∀m n H m' n' H',n<=n'->(∀i,i<n->m' i=m i)->(∀b vs,H b=aB (.tup vs)->H' b=aB (.tup vs))->(∀b o u,H b=aB (.cG o u)->H' b=aB (.cG o u))->P m n H->P m' n' H')/\
 ∀m h H ws,Rel K m h H->P m h.n H->aO h u=aB ws->∃vs,nG b K H a vs/\aE K m h.n H vs ws
theorem Pf{K:aI}{m:Nat->ah}{h:VH}{H:Hp}{v:V}{u:W}{ws:List W}(r:Rel K m h H)(q:aL K m h.n H v u)(e:aO h u=aB ws):∃b a P,v=.ref a/\Src K b a u P/\P m h.n H/\∃xs,nG b K H a xs:=by
 cases q with
 |aG=>cases e
 |bl b=>cases e
 |int b=>cases e
 |str b=>cases e
 |tup sq rs=>exact⟨true,_,λm n H=>cD K H _ _/\aE K m n H _ _,rfl,⟨λm n H m' n' H' hn hm kt kf ⟨q1,q2⟩=>⟨JE kt kf q1,q2.mono hn hm kt kf⟩,λm h H ws _ ⟨q1,q2⟩ z=>by cases z;exact⟨_,q1,q2⟩⟩,⟨sq,rs⟩,_,sq⟩
 |fz sq rs=>exact⟨false,_,λm n H=>Fz K H _ _/\aE K m n H _ _,rfl,⟨λm n H m' n' H' hn hm kt kf ⟨q1,q2⟩=>⟨Pb kf q1,q2.mono hn hm kt kf⟩,λm h H ws _ ⟨q1,q2⟩ z=>by cases z;exact⟨_,q1.sq,q2⟩⟩,⟨sq,rs⟩,_,sq.sq⟩
 |ref hi=>
  rename_i l;have key:∀m (h:VH) H ws,Rel K m h H->aO h (.ref l)=aB ws->∃vs,H (m l)=aB (.lst vs)/\aE K m h.n H vs ws:=λm h H ws r z=>by
   cases g:h.get l with
   |none=>simp[aO,g]at z
   |some o=>
    cases o with
    |dk _=>simp[aO,g]at z
    |dt _ _=>simp[aO,g]at z
    |ins _ _ _=>simp[aO,g]at z
    |lst pG=>
     have:pG=ws:=by simpa[aO,g]using z
     subst this;exact r.lst g
  obtain⟨vs,p1,_⟩:=key m h H ws r e;refine⟨false,_,λm' n _=>l<n/\m l=m' l,rfl,⟨λm1 n H m' n' H' hn hm kt kf ⟨q1,q2⟩=>⟨ff q1 hn,by rw[hm l q1];exact q2⟩,λm1 h H ws r' ⟨q1,q2⟩ z=>?_⟩,⟨hi,rfl⟩,vs,cM.of p1⟩;obtain⟨vs,g1,g2⟩:=key m1 h H ws r' z;rw[q2];exact⟨vs,cM.of g1,g2⟩
theorem JF{u v:W}{h:VH}{i:Nat}{o:Option W}(q:bZ .zip (.tup [u,v]) i h=aB o):∃ws zs,aO h u=aB ws/\aO h v=aB zs/\o=(match ws[i]?,zs[i]? with|some a,aB b=>aB (.tup [a,b])|_,_=>aC):=by
 simp only[bZ]at q;split at q;rename_i ws zs h1 h2;cases q;exact⟨ws,zs,h1,h2,rfl⟩;cases q
theorem Yq{K:aI}{b c:Bool}{a1 a2:ah}{u v:W}{P1 P2:(Nat->ah)->Nat->Hp->Prop}(s1:Src K b a1 u P1)(s2:Src K c a2 v P2):jH K (bZ .zip (.tup [u,v])) (xG K b c a1 a2) (λm n H=>P1 m n H/\P2 m n H):=by
 refine⟨λm n H m' n' H' hn hm kt kf ⟨q1,q2⟩=>⟨s1.1 m n H m' n' H' hn hm kt kf q1,s2.1 m n H m' n' H' hn hm kt kf q2⟩,λm h H r ⟨q1,q2⟩ i=>⟨λw e=>?_,λe=>?_⟩⟩;obtain⟨ws,zs,e1,e2,e3⟩:=JF e;obtain⟨xs,g1,g2⟩:=s1.2 m h H ws r q1 e1;obtain⟨ys,g3,g4⟩:=s2.2 m h H zs r q2 e2;cases z1:ws[i]? with
 |none=>rw[z1]at e3;cases e3
 |some w1=>
  cases z2:zs[i]? with
  |none=>rw[z1,z2]at e3;cases e3
  |some w2=>
   rw[z1,z2]at e3;cases e3;obtain⟨v1,k1,k2⟩:=g2.get z1;obtain⟨v2,k3,k4⟩:=g4.get z2;refine⟨⟨xs,ys,v1,v2,g1,g3,k1,k3⟩,λy H3 ⟨T,x3,y3,f1,f2,f3,f4,f5⟩=>?_⟩;subst f1 f3;have t1:=f4 xs g1;have t2:=f5 ys g3;rw[k1]at t1;cases t1;rw[k3]at t2;cases t2;obtain⟨st,r'⟩:=r.more (u:=.tup [v1,v2]) f2;exact⟨st,r',.tup (cD.of eV) (.cons (k2.stp st) (.cons (k4.stp st) .nil))⟩
 obtain⟨ws,zs,e1,e2,e3⟩:=JF e;obtain⟨xs,g1,g2⟩:=s1.2 m h H ws r q1 e1;obtain⟨ys,g3,g4⟩:=s2.2 m h H zs r q2 e2;refine⟨xs,ys,g1,g3,?_⟩;cases z1:ws[i]? with
 |none=>exact .inl (by rw[g2.length];exact rY.mp z1)
 |some w1=>
  cases z2:zs[i]? with|none=>exact .inr (by rw[g4.length];exact rY.mp z2)|some w2=>rw[z1,z2]at e3;cases e3
theorem Yr{elts:List ao}{kx:Nat}{tp:Pos}(ha:SA X [a,b] fa)(hs:fq a)(hs2:fq b)(hg:Gl X "zip")(hm:X.mg "zip" = aC):PI X (.Tuple elts kx tp) (.Call (.Name "zip" p) [a,b] [] pos) (fR X.K .zip fa):=λpins s σ H R I z9=>z9.el λρ h m x h' f r ee o en k=>by
 have hx:∃u v,x=.tup [u,v]:=by
  simp only[bZ]at en;split at en;exact⟨_,_,rfl⟩;cases en
 obtain⟨u,v,rfl⟩:=hx;obtain⟨ws,zs,e1,e2,_⟩:=JF en;refine Yp hg hm ha (by rw[eW hs,eW hs2];rfl) (eW hs2) pins s σ H R I (.mk f r ee λvs H' m' s' r' q=>?_);obtain⟨v1,v2,rfl,q1,q2⟩:=pI q;obtain⟨b1,a1,P1,rfl,o1,p1,x1⟩:=Pf r' q1 e1;obtain⟨b2,a2,P2,rfl,o2,p2,x2⟩:=Pf r' q2 e2;exact⟨b1,b2,a1,a2,rfl,x1,x2,k _ _ H' m' s' r' (Yq o1 o2) ⟨p1,p2⟩⟩
end
section
variable{X:Cx}{a b c e o:ao}{es:List ao}{fa fb fc fo fr:FE}{pos p:Pos}{x:Str}
noncomputable def gO(K:aI)(t:Tg):TG:=λv σ H Q=>∃ρ h m w ρ',Fr K m h.n H σ ρ/\Rel K m h H/\aL K m h.n H v w/\bJ t w h ρ=aB ρ'/\∀σ',Fr K m h.n H σ' ρ'->Q σ' H
theorem gO.el{K:aI}{v:V}{σ:L2.St}{H:Hp}{P:Prop}{tg:Tg}{Q}(q:gO K tg v σ H Q)(k:∀ρ h m w ρ',Fr K m h.n H σ ρ->Rel K m h H->aL K m h.n H v w->bJ tg w h ρ=aB ρ'->(∀σ',Fr K m h.n H σ' ρ'->Q σ' H)->P):P:=by
 obtain⟨ρ,h,m,w,h',f,r,e,eo,k'⟩:=q;exact k ρ h m w h' f r e eo k'
theorem gO.mk{K:aI}{v:V}{σ:L2.St}{H:Hp}{m:Nat->ah}{ρ ρ':En}{h:VH}{w:W}{tg:Tg}{Q}(f:Fr K m h.n H σ ρ)(r:Rel K m h H)(e:aL K m h.n H v w)(eo:bJ tg w h ρ=aB ρ')(k:∀σ',Fr K m h.n H σ' ρ'->Q σ' H):gO K tg v σ H Q:=⟨ρ,h,m,w,ρ',f,r,e,eo,k⟩
theorem Ys{i:Nat}(hN:X.N.Nodup)(hi:X.N[i]?=aB x)(hx:Loc X.env.scope x)(hf:X.fn x=true\/X.env.scope.names.lookup x=aB .local):PG X (.Name x pos) (gO X.K (.one i)):=λpins s σ H v u Q I ru z9=>z9.el λρ h m w ρ' f r q e k=>by
 cases e;exact Nm hN hi hx hf pins s σ H v u Q I ru (k _ (f.set q i))
noncomputable def pK(X:Cx)(e:ao)(i:Nat):Prop:=∃x p,e=.Name x p/\X.N[i]?=aB x/\Loc X.env.scope x/\(X.fn x=true\/X.env.scope.names.lookup x=aB .local)
noncomputable def CF(K:aI)(is:List Nat):zI:=λvs σ H Q=>∃ρ m n ws ρ',Fr K m n H σ ρ/\aE K m n H vs ws/\jn is ws ρ=aB ρ'/\∀σ',Fr K m n H σ' ρ'->Q σ' H
theorem Pg(hN:X.N.Nodup):∀{es:List ao} {is:List Nat},Paired (pK X) es is->zJ X es (CF X.K is)/\(assignEach es X.env).length=es.length/\(assignEach es X.env).findIdx? (·.1)=aC
 |_,_,.nil=>by
  refine⟨λpins s σ H vs us Q I ru ⟨ρ,m,n,ws,ρ',f,q,e,k⟩=>?_,rfl,rfl⟩;cases ws with|nil=>cases e;cases q;exact TJ pins s σ H [] us Q I ru ⟨rfl,k _ f⟩|cons _ _=>cases e
 |e::es,i::is,.cons ⟨x,p,he,hi,hx,hf⟩ t=>by
  subst he;obtain⟨h1,h2,h3⟩:=Pg hN t;refine⟨λpins s σ H vs us Q I ru ⟨ρ,m,n,ws,ρ',f,q,e,k⟩=>?_,?_,?_⟩;cases q with
  |nil=>cases e
  |cons q qs=>
   exact TL (Nm hN hi hx hf) h1 rfl pins s σ H _ us Q I ru ⟨_,_,rfl,ρ.set i (aB _),m,n,_,ρ',f.set q i,qs,e,k⟩
  show(assignEach es X.env).length+1=es.length+1;rw[h2];show List.findIdx? _ ((false,_)::assignEach es X.env)=aC;rw[List.findIdx?_cons,h3];rfl
theorem Ph:∀{is:List Nat} {ws:List W} {ρ ρ':En},jn is ws ρ=aB ρ'->ws.length=is.length
 |[],[],_,_,_=>rfl
 |[],_::_,_,_,e=>by cases e
 |_::_,[],_,_,e=>by cases e
 |_::_,_::_,_,_,e=>by
  rw[dh,dh,Ph (by simpa only[jn]using e)]
theorem Yt{n k:Nat}(hc:X.calm)(h:zJ X es t)(hn:(assignEach es X.env).length=n)(hst:(assignEach es X.env).findIdx? (·.1)=aC) :
 PG X (.Tuple es k pos) (λv σ H Q=>∃a xs,v=.ref a/\cM X.K H a xs/\xs.length=n/\t xs σ H Q):=by
 intro pins s σ H v u Q I r hw;obtain⟨a,xs,rfl,hq,hl,hw⟩:=hw;cases r;obtain⟨its,rv,ht,hz⟩:=I.list hq;rw[assign_Tuple];refine aK (kT ?_);unfold unpack;have hsz:(assignEach es X.env).length=its.toArray.size:=by rw[hn,<-hl,rv.length,fL]
 rw[hst,hsz];refine aK (mh (PySem.W.kun_itemsOf (I.ok.hd hc) ht.isList λh' hx=>?_));have I1:Inv X pins σ H {s with heap:=h'}:=I.kept (t':=s.toks) λb o e=>hx b o (fj (cF e)) e;exact h pins _ σ H xs _ Q I1 (by simpa using rv) hw
theorem Pj{is:List Nat}{k:Nat}(hc:X.calm)(hN:X.N.Nodup)(hs:Paired (pK X) es is):PG X (.Tuple es k pos) (gO X.K (.many is)):=λpins s σ H v u Q I ru z9=>z9.el λρ h m w ρ' f r q e k=>by
 obtain⟨h1,h2,h3⟩:=Pg hN hs;simp only[bJ]at e;cases z:aO h w with
 |none=>rw[z]at e;cases e
 |some ws=>
  rw[z]at e;have e:jn is ws ρ=aB ρ':=e;obtain⟨p,vs,rfl,hq,qs⟩:=zU r q z;have hl:vs.length=es.length:=by rw[qs.length,Ph e,hs.length]
  rcases hq with hq|hq;exact Yt hc h1 h2 h3 pins s σ H _ u Q I ru ⟨p,vs,rfl,hq,hl,ρ,m,h.n,ws,ρ',f,qs,e,k⟩;exact TM hc h1 h2 h3 pins s σ H _ u Q I ru ⟨p,vs,rfl,hq,hl,ρ,m,h.n,ws,ρ',f,qs,e,k⟩
theorem Yu{K:aI}{m:Nat->ah}{n:Nat}{H:Hp}{σ:L2.St}{ρ:En}{ow fr:List Str}{ix:List Nat}(f:Fr K m n H σ ρ):Fr K m n H (nC ow fr ix σ) (inner ow.length ix ρ):=by
 unfold nC inner;refine⟨by simp,λi w e=>?_⟩;by_cases hi:i<ow.length;rw[zl (by simpa using hi)]at e;rw[List.getElem?_replicate]at e;split at e<;>cases e;rw[oJ (by simpa using jQ.mp hi)]at e;rw[oJ (by simpa using jQ.mp hi)];simp only[AG,bV]at e ⊢;rw[nu]at e ⊢;cases z:ix[i-ow.length]? with
 |none=>rw[z]at e;cases e
 |some j=>
  rw[z]at e;simp only[gR,Option.some.injEq]at e ⊢;have e3:ρ[j]?=aB (aB w):=by
   cases q:ρ[j]? with|none=>rw[q]at e;cases e|some o=>rw[q]at e;rw[<-e];rfl
  obtain⟨v,h1,h2⟩:=f.val j w e3;exact⟨v,by rw[h1];rfl,h2⟩
theorem JG{nx:Nat->VH->Option (Option W)}{tg:W->VH->En->Option En}{c e:FE}:∀{f i:Nat} {ρ:En} {h:VH} {acc ys:List W} {h':VH},iN nx tg c e f i ρ h acc=.ok ys h'->acc.length<=ys.length
 |0,_,_,_,_,_,_,q=>by cases q
 |f+1,i,ρ,h,acc,ys,h',q=>by
  simp only[iN]at q;split at q;cases q;cases q;simp;split at q;cases q;refine bO q λb h1 e1 e2=>?_;split at e2;refine bO e2 λy h2 e3 e4=>?_;have:=JG e4;rw[dh]at this;lia;exact JG e2;cases e2
theorem Yv{nx:Nat->VH->Option (Option W)}{tg:W->VH->En->Option En}{c e:FE}{f i:Nat}{ρ:En}{h:VH}{acc ys:List W}{h':VH}(q:iN nx tg c e (f+1) i ρ h acc=.ok ys h'):∃o,nx i h=aB o:=by
 simp only[iN]at q;split at q;cases q;exact⟨_,by assumption⟩;exact⟨_,by assumption⟩
theorem Yw{H:Hp}{a:ah}{o:HO}(h:H a=aB o):upd H a o=H:=by
 funext b;unfold upd;split;rename_i e;rw[e,h];rfl
noncomputable abbrev JH(kd:Kd)(fa:FE)(t:Tg)(ow:Nat)(ix:List Nat)(fc fe:FE):FE:=λρ h=>(fa ρ h).bind λx h=>(iN (bZ kd x) (bJ t) fc fe fuel 0 (inner ow ix ρ) h []).bind λys h=>if Nat.ble ys.length big then .ok (.ref h.n) (h.new (.lst ys))else .no
theorem vm{K:aI}{kd:Kd}{t:Tg}{ow fr:List Str}{ix:List Nat}{fe:FE}{σ:L2.St}{H:Hp}{Q:VK}(q:iP K (JH kd fa t ow.length ix fc fe) σ H Q):IP K (nC ow fr ix) (fR K kd fa) (gO K t) (iA K fc) (iP K fe) σ H Q:=by
 refine q.el λρ h m w h' f r e k=>?_;refine bO e λx h1 e1 e2=>?_;refine bO e2 λys h2 e3 e4=>?_;split at e4
 case isFalse=>cases e4
 rename_i hz;cases e4;have hz:=kU hz;refine(.mk f r e1 ?_ λJ P H1 m1 s1 r1 J1 p1 D hD hK=>?_);exact Yv (f:=999999) e3;obtain⟨mJ,r0⟩:=r1.more (u:=.lst []) hD;have p0:=J1.1 m1 h1.n H1 m1 h1.n (upd H1 D (.lst [])) (bq _) (λ_ _=>rfl) (λb vs q=>mJ.tup b vs q) (λb o u q=>mJ.cG b o u q) p1;refine⟨λi fl σ' H' vs=>∃ρ' h3 m3 acc,iN (bZ kd x) (bJ t) fc fe fl i ρ' h3 acc=.ok ys h2/\Fr K m3 h3.n H' σ' ρ'/\Rel K m3 h3 H'/\H' D=aB (.lst vs)/\aE K m3 h3.n H' vs acc.reverse/\(∀i,i<h3.n->m3 i≠D)/\bS m1 h1.n H1 m3 h3.n H'/\P m3 h3.n H',
  ⟨fuel,inner ow.length ix ρ,h1,m1,[],e3,Yu ((f.stp s1).stp mJ),r0,eV,.nil,r1.out hD,mJ,p0⟩,?_⟩
 rintro i fl σ' H' vs ⟨ρ',h3,m3,acc,e5,f3,r3,d3,q3,o3,s3,p3⟩;refine⟨d3,?_⟩;cases fl with
 |zero=>cases e5
 |succ fl=>
  simp only[iN]at e5;obtain⟨j1,j2⟩:=J1.2 m3 h3 H' r3 p3 i;split at e5;cases e5;rename_i hn;cases e5;refine .inl ⟨j2 hn,?_⟩;obtain⟨st,r'⟩:=r3.adopt (o:=.lst acc.reverse) (u:=.lst vs) o3 d3 (λ_ z=>nomatch z) (λ_ _ z=>nomatch z) (s1.trans s3) (by
   cases z:H D with
   |none=>rfl
   |some o=>
    have:=s1.keep D o (λi hi z2=>(r1.out hD) i (ff hi s1.le) ((s1.same i hi).trans z2)) z;rw[hD]at this;cases this) λ_ mv=>⟨_,eV,q3.map mv⟩
  rw[Yw d3]at st r';refine k _ _ _ st r' ?_;have:aL K (λi=>if i=h2.n then D else m3 i) (h2.n+1) H' (.ref ((λi=>if i=h2.n then D else m3 i) h2.n)) (.ref h2.n):=.ref (lg _);simp only[bX]at this;exact this;rename_i w hn;obtain⟨j3,j4⟩:=j1 w hn;refine .inr ⟨j3,λy H4 hy=>?_⟩;obtain⟨s4,r4,q4⟩:=j4 y H4 hy;split at e5;cases e5;rename_i CG ht;refine⟨ρ',h3,m3,w,CG,f3.stp s4,r4,q4,ht,λzM f5=>?_⟩;refine bO e5 λbv h6 e6 e7=>?_;have d4:H4 D=aB (.lst vs):=s4.keep D _ o3 d3;have Pk:=s3.trans s4;have p4:=J1.1 m3 h3.n H' m3 h3.n H4 (bq _) (λ_ _=>rfl) (λb vs q=>s4.tup b vs q) (λb o u q=>s4.cG b o u q) p3;cases bv<;>try cases e7
  rename_i bb;refine⟨CG,h3,m3,bb,h6,f5,r4,e6,λH6 m6 s6 r6=>?_⟩;have o6:=s6.out o3 d4;have d6:H6 D=aB (.lst vs):=s6.keep D _ o3 d4;have p6:=J1.1 m3 h3.n H4 m6 h6.n H6 s6.le s6.same (λb vs q=>s6.tup b vs q) (λb o u q=>s6.cG b o u q) p4;cases bb with
  |false=>
   simp only[eT,dg];exact⟨fl,lg _,CG,h6,m6,acc,e7,f5.stp s6,r6,d6,(q3.stp s4).stp s6,o6,Pk.trans s6,p6⟩
  |true=>
   simp only[bX];refine bO e7 λy7 h7 e8 e9=>?_;refine⟨CG,h6,m6,y7,h7,f5.stp s6,r6,e8,λv7 H7 m7 s7 r7 q7=>?_⟩;have o7:=s7.out o6 d6;have d7:H7 D=aB (.lst vs):=s7.keep D _ o6 d6;have p7:=J1.1 m6 h6.n H6 m7 h7.n H7 s7.le s7.same (λb vs q=>s7.tup b vs q) (λb o u q=>s7.cG b o u q) p6;have Pn:=((q3.stp s4).stp s6).stp s7;have hlen:=JG e9;rw[dh]at hlen;refine⟨d7,?_,fl,lg _,CG,h7,m7,y7::acc,e9,?_⟩;rw[Pn.length,List.length_reverse];have:big=sizeLine:=rfl;lia;obtain⟨Yx,r8,mv⟩:=r7.side (u:=.lst (vs++[v7])) d7 (λ_ z=>nomatch z) (λ_ _ z=>nomatch z) o7 ((Pk.trans s6).trans s7) hD;have kt:∀b us,H7 b=aB (.tup us)->upd H7 D (.lst (vs++[v7])) b=aB (.tup us):=λb us q=>by rw[bR (fB q d7 λz=>nomatch z)];exact q
   have kf:∀b o u,H7 b=aB (.cG o u)->upd H7 D (.lst (vs++[v7])) b=aB (.cG o u):=λb o u q=>by rw[bR (fB q d7 λz=>nomatch z)];exact q
   refine⟨⟨(f5.stp s6).len,λi w e=>let⟨v,h1,h2⟩:=((f5.stp s6).stp s7).val i w e;⟨v,h1,mv h2⟩⟩,r8,eV,?_,o7,Yx,J1.1 m7 h7.n H7 m7 h7.n _ (bq _) (λ_ _=>rfl) kt kf p7⟩;rw[List.reverse_cons];exact(Pn.map mv).append (.cons (mv q7) .nil)
end
noncomputable def fF(h h':VH):Prop:=h.n<=h'.n/\h'.lo<=h.lo/\∀i,i<h.n->i<h'.lo->h'.get i=h.get i
theorem fF.refl:fF h h:=⟨bq _,bq _,λ_ _ _=>rfl⟩
theorem fF.trans(a:fF h h1)(b:fF h1 h2):fF h h2:=⟨fS a.1 b.1,fS b.2.1 a.2.1,λi hi hl=>(b.2.2 i (ff hi a.1) hl).trans (a.2.2 i hi (ff hl b.2.1))⟩
theorem fF.new:fF h (h.new o):=⟨oq _,bq _,λi hi _=>jV hi⟩
theorem fF.set{i:Nat}(hi:i<h.n):fF h (h.set i o):=by
 refine⟨bq _,?_,λj hj hl=>Jt hi ?_⟩;show(if Nat.blt i h.lo then i else h.lo)<=h.lo;split;rename_i q;exact wQ (fN.mp q);exact bq _;have hl:j< (if Nat.blt i h.lo then i else h.lo):=hl;split at hl;lia;rename_i q;intro z;rw[z]at hl;exact q (fN.mpr hl)
noncomputable def Gr{α:Type}(r:Res α)(h:VH):Prop:=∀a h',r=.ok a h'->fF h h'
section
variable{α β:Type}{h:VH}
theorem Gr.ok{a:α}:Gr (Res.ok a h) h:=λ_ _ e=>by cases e;exact .refl
theorem Gr.no:Gr (Res.no:Res α) h:=λ_ _ e=>by cases e
theorem Gr.of{o:Option α}:Gr (Res.of o h) h:=λ_ _ e=>by cases o with|none=>cases e|some a=>cases e;exact .refl
theorem Gr.new{a:α}:Gr (Res.ok a (h.new o)) h:=λ_ _ e=>by cases e;exact .new
theorem Gr.set{a:α}{i:Nat}(g:h.get i=aB o'):Gr (Res.ok a (h.set i o)) h:=λ_ _ e=>by cases e;exact .set (fV g)
theorem Gr.bind{r:Res α}{f:α->VH->Res β}(a:Gr r h)(b:∀x h1,Gr (f x h1) h1):Gr (r.bind f) h:=λy h' e=>by
 cases r with|ok x h1=>exact(a x h1 rfl).trans (b x h1 y h' e)|ex _ _=>cases e|no=>cases e
end
theorem CH:Gr (fk o x y h) h:=by
 unfold fk;split;exact .of;exact .of;exact .of;split;split;exact .new;exact .no;exact .no;exact .no
theorem CI:Gr (zS o x y h) h:=by
 unfold zS;split;split;exact .ok;exact .no;exact .no
theorem Yy{l u:Option Int}:Gr (lK x l u h) h:=by
 unfold lK;split;exact .ok;split;exact .new;exact .no;exact .no
theorem CJ{b:Bi}:Gr (gV b xs h) h:=by
 cases b<;>simp only[gV];unfold gz;split<;>first|exact .of|exact .no
 unfold gU;split;split;exact .new;exact .no;exact .no;unfold xM;split<;>first|exact .of|exact .no
 unfold jF;split<;>first|exact .ok|exact .no
 unfold lM;split<;>first|exact .ok|exact .no
 unfold sQ;split<;>first|exact .ok|exact .no
 unfold lN;split<;>first|exact .ok|exact .no
 unfold nK;split;split;exact .of;exact .no;exact .no;unfold vf;split;split;exact .new;exact .no;exact .no
theorem CK{m:Mt}:Gr (xN m o xs h) h:=by
 unfold xN;split;split;split;rename_i g _;exact .set g;exact .no;exact .no;exact .no
theorem pL{nx:Nat->VH->Option (Option W)}{tg:W->VH->En->Option En}{c e:En->VH->Res W}(hc:∀ρ h,Gr (c ρ h) h)(he:∀ρ h,Gr (e ρ h) h):∀(f i:Nat) (ρ:En) (h:VH) (acc:List W),Gr (iN nx tg c e f i ρ h acc) h
 |0,_,_,_,_=>.no
 |f+1,i,ρ,h,acc=>by
  simp only[iN];split;exact .no;exact .ok;split;exact .no;refine .bind (hc _ _) λb h1=>?_;split;exact .bind (he _ _) λy h2=>pL hc he f _ _ _ _;exact pL hc he f _ _ _ _;exact .no
theorem JI{nx:Nat->VH->Option (Option W)}{tg:W->VH->En->Option En}{b:En->VH->Res Fl}(hb:∀ρ h,Gr (b ρ h) h):∀(f i:Nat) (ρ:En) (h:VH),Gr (fm nx tg b f i ρ h) h
 |0,_,_,_=>.no
 |f+1,i,ρ,h=>by
  simp only[fm];split;exact .no;exact .ok;split;exact .no;refine .bind (hb _ _) λfl h1=>?_;split;exact JI hb f _ _ _;exact JI hb f _ _ _;exact .ok;exact .ok
theorem JJ{c:En->VH->Res W}{b:En->VH->Res Fl}(hc:∀ρ h,Gr (c ρ h) h)(hb:∀ρ h,Gr (b ρ h) h):∀(f:Nat) (ρ:En) (h:VH),Gr (fE c b f ρ h) h
 |0,_,_=>.no
 |f+1,ρ,h=>by
  simp only[fE];refine .bind (hc _ _) λt h1=>?_;split;exact .ok;refine .bind (hb _ _) λfl h2=>?_;split;exact JJ hc hb f _ _;exact JJ hc hb f _ _;exact .ok;exact .ok;exact .no
section
variable{cl:Call}
theorem CL(hcl:∀f ws h,Gr (cl f ws h) h):∀(e:E) (ρ:En) (h:VH),Gr (ev cl e ρ h) h:=by
 intro e;induction e with
 |var i=>intro ρ h;exact .of
 |cst w=>intro ρ h;exact .ok
 |nil=>intro ρ h;exact .ok
 |cons a r i1 i2=>intro ρ h;simp only[ev];refine .bind (i1 _ _) λx h1=>.bind (i2 _ _) λy h2=>?_;split<;>first|exact .ok|exact .no
 |tup a i1=>intro ρ h;simp only[ev];refine .bind (i1 _ _) λx h1=>?_;split<;>first|(split<;>first|exact .ok|exact .no)|exact .no
 |lst a i1=>intro ρ h;simp only[ev];refine .bind (i1 _ _) λx h1=>?_;split<;>first|(split<;>first|exact .new|exact .no)|exact .no
 |rE a i1=>
  intro ρ h;simp only[ev];refine .bind (i1 _ _) λx h1=>?_;split;split;split;exact .new;exact .no;unfold nM;split;split;exact .new;exact .no;exact .no;exact .no
 |op o a b i1 i2=>intro ρ h;simp only[ev];exact .bind (i1 _ _) λx h1=>.bind (i2 _ _) λy h2=>CH
 |neg a i1=>intro ρ h;simp only[ev];refine .bind (i1 _ _) λx h1=>?_;split<;>first|exact .ok|exact .no
 |cmp c a b i1 i2=>intro ρ h;simp only[ev];exact .bind (i1 _ _) λx h1=>.bind (i2 _ _) λy h2=>.of
 |xJ c d a b e i1 i2 i3=>
  intro ρ h;simp only[ev];refine .bind (i1 _ _) λx h1=>.bind (i2 _ _) λy h2=>?_;split;exact .bind (i3 _ _) λz h3=>.of;exact .ok;exact .no
 |not a i1=>intro ρ h;simp only[ev];refine .bind (i1 _ _) λx h1=>?_;split<;>first|exact .ok|exact .no
 |and a b i1 i2=>intro ρ h;simp only[ev];refine .bind (i1 _ _) λx h1=>?_;split<;>first|exact i2 _ _|exact .ok|exact .no
 |or a b i1 i2=>intro ρ h;simp only[ev];refine .bind (i1 _ _) λx h1=>?_;split<;>first|exact i2 _ _|exact .ok|exact .no
 |kZ a i1=>intro ρ h;simp only[ev];exact .bind (i1 _ _) λx h1=>.of
 |ite c a b i1 i2 i3=>
  intro ρ h;simp only[ev];refine .bind (i1 _ _) λx h1=>?_;split;exact i2 _ _;exact i3 _ _;exact .no
 |idx a b i1 i2=>intro ρ h;simp only[ev];exact .bind (i1 _ _) λx h1=>.bind (i2 _ _) λy h2=>.of
 |slc a bl lo bh hi i1 i2 i3=>
  intro ρ h;simp only[ev];refine .bind (i1 _ _) λx h1=>.bind (i2 _ _) λy h2=>.bind (i3 _ _) λz h3=>?_;split;exact Yy;exact .no
 |call f a i1=>intro ρ h;simp only[ev];refine .bind (i1 _ _) λx h1=>?_;split<;>first|exact hcl _ _ _|exact .no
 |bi b a i1=>intro ρ h;simp only[ev];refine .bind (i1 _ _) λx h1=>?_;split<;>first|exact CJ|exact .no
 |rF t a i1=>intro ρ h;simp only[ev];exact .bind (i1 _ _) λx h1=>.of
 |mt m o a i1 i2=>
  intro ρ h;simp only[ev];refine .bind (i1 _ _) λx h1=>?_;split;refine .bind (i2 _ _) λy h2=>?_;split<;>first|exact CK|exact .no
  exact .no
 |lc k a t ow ix c e i1 i2 i3=>
  intro ρ h;simp only[ev];refine .bind (i1 _ _) λx h1=>.bind (pL i2 i3 _ _ _ _ _) λys h2=>?_;split;exact .new;exact .no
 |mk C f a i1=>
  intro ρ h;simp only[ev];refine .bind (i1 _ _) λy h1=>?_;split;intro b h' e;refine fF.new.trans (Gr.bind (hcl _ _ _) (λv h2=>?_) b h' e);split;exact .ok;exact .no;exact .no
 |jm C mt f o a i1 i2=>
  intro ρ h;simp only[ev];refine .bind (i1 _ _) λx h1=>?_;split;refine .bind (i2 _ _) λy h2=>?_;split;exact hcl _ _ _;exact .no;exact .no
 |k6 C x a i1=>intro ρ h;simp only[ev];exact .bind (i1 _ _) λx h1=>.of
theorem CM(hcl:∀f ws h,Gr (cl f ws h) h):∀(s:S) (ρ:En) (h:VH),Gr (exs cl s ρ h) h:=by
 have ge:=CL hcl;intro s;induction s with
 |skip=>intro ρ h;exact .ok
 |seq a b i1 i2=>intro ρ h;simp only[exs];refine .bind (i1 _ _) λfl h1=>?_;split<;>first|exact i2 _ _|exact .ok
 |set i e=>intro ρ h;simp only[exs];exact .bind (ge _ _ _) λw h1=>.ok
 |oA is e=>intro ρ h;simp only[exs];exact .bind (ge _ _ _) λw h1=>.of
 |aug i o e=>
  intro ρ h;simp only[exs];split;exact .bind (ge _ _ _) λy h1=>.bind CI λz h2=>.ok;exact .no
 |sat C x o v=>
  intro ρ h;simp only[exs];refine .bind (ge _ _ _) λw h1=>.bind (ge _ _ _) λo h2=>?_;unfold kr;split;split;split;rename_i g _;exact .set g;exact .no;exact .no;exact .no
 |put o i v=>
  intro ρ h;simp only[exs];refine .bind (ge _ _ _) λw h1=>.bind (ge _ _ _) λx h2=>.bind (ge _ _ _) λy h3=>?_;split;split;split;rename_i g _ _ _;exact .set g;exact .no;exact .no;unfold putD;split;split;rename_i g _ _;exact .set g;exact .no;exact .no;exact .no
 |ite c a b i1 i2=>
  intro ρ h;simp only[exs];refine .bind (ge _ _ _) λx h1=>?_;split;exact i1 _ _;exact i2 _ _;exact .no
 |ret e=>intro ρ h;simp only[exs];exact .bind (ge _ _ _) λw h1=>.ok
 |expr e=>intro ρ h;simp only[exs];exact .bind (ge _ _ _) λw h1=>.ok
 |brk=>intro ρ h;exact .ok
 |cnt=>intro ρ h;exact .ok
 | «for» k a t b i1=>intro ρ h;simp only[exs];exact .bind (ge _ _ _) λx h1=>JI i1 _ _ _ _
 |zR c b i1=>intro ρ h;simp only[exs];exact JJ (ge c) i1 _ _ _
 |nI f a tb=>
  intro ρ h;simp only[exs];refine .bind (ge _ _ _) λy h1=>?_;split;refine .bind (hcl _ _ _) λw h2=>?_;unfold pD;split;exact .ok;split;exact .ok;exact .no;exact .no;exact .no
 |jc f a b s t i1 i2=>
  intro ρ h;simp only[exs];refine .bind (ge _ _ _) λy h1=>?_;split;refine .bind (hcl _ _ _) λw h2=>?_;unfold nO;split;split;split;exact i2 _ _;exact i1 _ _;exact .no;exact i1 _ _;exact .ok;exact .no;exact .no
 |no=>intro ρ h;exact .no
end
theorem CN(F:Nat->Option Fn):∀(k f:Nat) (ws:List W) (h:VH),Gr (run F k f ws h) h
 |0,_,_,_=>.no
 |k+1,f,ws,h=>by
  intro a h' e;simp only[run]at e;split at e;rename_i fn hf;split at e;rename_i hl;generalize hr:exs (run F k) fn.body (ws.map aB++bI (fn.n-fn.ps) aC) ⟨h.n,h.n,h.os⟩=r at e;have g:=CM (CN F k) fn.body (ws.map aB++bI (fn.n-fn.ps) aC) ⟨h.n,h.n,h.os⟩;rw[hr]at g;have lv:∀w h1,fF ⟨h.n,h.n,h.os⟩ h1->leave h w h1=.ok a h'->fF h h':=by
   intro w h1 g1 e1;unfold leave at e1;split at e1;cases e1;exact .refl;cases e1;refine⟨g1.1,?_,λi hi hlo=>?_⟩;show(if Nat.ble h.lo h1.lo then h.lo else h1.lo)<=h.lo;split;exact bq _;rename_i q;exact Nat.le_of_not_le λz=>q (rW.mpr z);have hlo:i< (if Nat.ble h.lo h1.lo then h.lo else h1.lo):=hlo;have hh:i<h1.lo:=by
    split at hlo;rename_i q;exact ff hlo (kU q);exact hlo
   exact g1.2.2 i hi hh
  cases r with
  |no=>cases e
  |ex _ _=>cases e
  |ok fl h1=>
   have g1:=g fl h1 rfl;simp only[Res.bind]at e;split at e;exact lv _ _ g1 e;exact lv _ _ g1 e;cases e
  cases e;cases e
noncomputable abbrev sV:=(Nat->ah)->Nat->Hp->VK->W->Prop
noncomputable abbrev Rr(K:aI):sV:=λm n H Q w=>∀v,aL K m n H v w->Q v H
noncomputable def sW(K:aI)(R:sV)(m:Nat->ah)(n:Nat)(H:Hp)(D:Ends):Fl->Prop|.nx ρ=>∀σ,Fr K m n H σ ρ->D.nx σ H|.bk ρ=>∀σ,Fr K m n H σ ρ->D.bk σ H|.ct ρ=>∀σ,Fr K m n H σ ρ->D.ct σ H|.rt w=>R m n H D.rt w
noncomputable def jI(K:aI)(R:sV)(f:FS):TS:=λD σ H=>∃ρ h m fl h',Fr K m h.n H σ ρ/\Rel K m h H/\f ρ h=.ok fl h'/\∀H' m',bS m h.n H m' h'.n H'->Rel K m' h' H'->sW K R m' h'.n H' D fl
theorem jI.el{K:aI}{R:sV}{D:Ends}{σ:L2.St}{H:Hp}{P:Prop}{fa:FS}(q:jI K R fa D σ H)(k:∀ρ h m fl h',Fr K m h.n H σ ρ->Rel K m h H->fa ρ h=.ok fl h'->(∀H' m',bS m h.n H m' h'.n H'->Rel K m' h' H'->sW K R m' h'.n H' D fl)->P):P:=by
 obtain⟨ρ,h,m,w,h',f,r,e,k'⟩:=q;exact k ρ h m w h' f r e k'
theorem jI.mk{K:aI}{R:sV}{D:Ends}{σ:L2.St}{H:Hp}{m:Nat->ah}{ρ:En}{h h':VH}{fl:Fl}{fa:FS}(f:Fr K m h.n H σ ρ)(r:Rel K m h H)(e:fa ρ h=.ok fl h')(k:∀H' m',bS m h.n H m' h'.n H'->Rel K m' h' H'->sW K R m' h'.n H' D fl):jI K R fa D σ H:=⟨ρ,h,m,fl,h',f,r,e,k⟩
noncomputable abbrev SR(X:Cx)(R:sV)(st:aq)(f:FS):Prop:=PS X st (jI X.K R f)
noncomputable abbrev vn(X:Cx)(R:sV)(st:List aq)(f:FS):Prop:=gu X st (jI X.K R f)
noncomputable abbrev SS(X:Cx)(st:aq)(f:FS):Prop:=SR X (Rr X.K) st f
noncomputable abbrev JK(X:Cx)(st:List aq)(f:FS):Prop:=vn X (Rr X.K) st f
section
variable{X:Cx}{a b c e o:ao}{es:List ao}{fa fb fc fo fr:FE}{pos p:Pos}{x:Str}{st:aq}{sts:List aq}{ga gb:FS}{R:sV}
noncomputable abbrev mK:FS:=λρ h=>.ok (.nx ρ) h
noncomputable abbrev JL(ga gb:FS):FS:=λρ h=>(ga ρ h).bind λfl h=>match fl with|.nx ρ=>gb ρ h|fl=>.ok fl h
theorem Po:vn X R [] mK:=Nk.imp λD σ H z9=>z9.el λρ h m fl h' f r e k=>by cases e;exact k H m .refl r σ f
theorem Yz:SS X (.Pass pos) mK:=Tu.imp λD σ H z9=>z9.el λρ h m fl h' f r e k=>by cases e;exact k H m .refl r σ f
theorem YA:SS X (.Break pos) (λρ h=>.ok (.bk ρ) h):=Tv.imp λD σ H z9=>z9.el λρ h m fl h' f r e k=>by cases e;exact k H m .refl r σ f
theorem YB:SS X (.Continue pos) (λρ h=>.ok (.ct ρ) h):=Tw.imp λD σ H z9=>z9.el λρ h m fl h' f r e k=>by cases e;exact k H m .refl r σ f
theorem Pp(h1:SR X R st ga)(h2:vn X R sts gb):vn X R (st::sts) (JL ga gb):=(FU h1 h2).imp λD σ H z9=>z9.el λρ h m fl h' f r e k=>by
 refine bO e λnQ h1 e1 e2=>?_;refine(.mk f r e1 λH1 m1 s1 r1=>?_);cases nQ with|nx mL=>exact λσ1 f1=>⟨mL,h1,m1,fl,h',f1,r1,e2,λH' m' s' r'=>k H' m' (s1.trans s') r'⟩|bk mL=>cases e2;exact k H1 m1 s1 r1|ct mL=>cases e2;exact k H1 m1 s1 r1|rt w=>cases e2;exact k H1 m1 s1 r1
theorem CO:SS X st (λ_ _=>.no):=TH.imp λD σ H z9=>z9.el λρ h m fl h' f r e k=>by cases e
noncomputable def xP:ao->Bool|.ListComp .. |.SetComp .. |.DictComp ..=>false|_=>true
theorem Gv{t:Option ao}{l:Nat}(h:xP e):swapsWith e t l env=pure false:=by
 cases e<;>first|rfl|cases h
theorem Pq(he:SE X e fa)(hs:xP e):SS X (.Expr e pos) (λρ h=>(fa ρ h).bind λ_ h=>.ok (.nx ρ) h):=(Nl he (Gv hs)).imp λD σ H z9=>z9.el λρ h m fl h' f r e k=>by
 refine bO e λw h1 e1 e2=>?_;cases e2;exact(.mk f r e1 λv H1 m1 s1 r1 q1=>k H1 m1 s1 r1 σ (f.stp s1))
theorem YC(he:SE X e fa):SS X (.Return (aB e) pos) (λρ h=>(fa ρ h).bind λw h=>.ok (.rt w) h):=(A4 he).imp λD σ H z9=>z9.el λρ h m fl h' f r e k=>by
 refine bO e λw h1 e1 e2=>?_;cases e2;exact(.mk f r e1 λv H1 m1 s1 r1 q1=>k H1 m1 s1 r1 v q1)
theorem YD:SS X (.Return aC pos) (λρ h=>(Res.ok W.aG h).bind λw h=>.ok (.rt w) h):=Tz.imp λD σ H z9=>z9.el λρ h m fl h' f r e k=>by
 cases e;exact k H m .refl r .aG .aG
noncomputable abbrev xQ(i:Nat)(fa:FE):FS:=λρ h=>(fa ρ h).bind λw h=>.ok (.nx (ρ.set i (aB w))) h
theorem Pr{K:aI}{i:Nat}{D:Ends}{σ:L2.St}{H:Hp}(q:jI K R (xQ i fa) D σ H):iP K fa σ H λv H1=>j7 i v σ H1 D.nx:=by
 refine q.el λρ h m fl h' f r e k=>?_;refine bO e λw h1 e1 e2=>?_;cases e2;exact(.mk f r e1 λv H1 m1 s1 r1 q1=>k H1 m1 s1 r1 _ ((f.stp s1).set q1 i))
theorem Pu{i:Nat}{pos':Pos}(hN:X.N.Nodup)(hi:X.N[i]?=aB x)(hx:Loc X.env.scope x)(hf:X.fn x=true\/X.env.scope.names.lookup x=aB .local)(he:SE X e fa)
 (hs:swapsWith e (aB (.Name x pos')) pos.line X.env=pure false):SS X (.Assign [.Name x pos'] e pos) (xQ i fa):=(Np hN hi hx he hs hf).imp λD σ H q=>Pr q
theorem YE{i:Nat}{pos' lp:Pos}{ow fr:List Str}{ix:List Nat}{scope:ay}{tg iter elt:ao}{ifs:List ao}{kd:Kd}{t:Tg}{fe:FE}(hN:X.N.Nodup)(hi:X.N[i]?=aB x)(hx:Loc X.env.scope x)(hf:X.fn x=true\/X.env.scope.names.lookup x=aB .local)
 (S:bW X ow fr ix scope) (hc:X.calm) (hI:PI X tg iter (fR X.K kd fa)) (hg:∀C s₀ H₀ ex,PG (X.comp (ow++fr) scope C s₀ H₀ ex) tg (gO X.K t)) (ht:∀C s₀ H₀ ex,sG (X.comp (ow++fr) scope C s₀ H₀ ex) ifs (iA X.K fc))
 (he:∀C s₀ H₀ ex,PE (X.comp (ow++fr) scope C s₀ H₀ ex) elt (iP X.K fe)) (hsw:swapsWith (.ListComp elt [⟨tg,iter,ifs,0⟩] scope lp) (aB (.Name x pos')) pos.line X.env=pure true) (hs:∀x,foldedSetIterable iter X.env x=pure x) :
 SS X (.Assign [.Name x pos'] (.ListComp elt [⟨tg,iter,ifs,0⟩] scope lp) pos) (xQ i (JH kd fa t ow.length ix fc fe)):=
 (VD hN hi hx S hc hI hg ht he hsw hf hs).imp λD σ H q=>vm (Pr q)
theorem CP{lp:Pos}{ow fr:List Str}{ix:List Nat}{scope:ay}{tg iter elt:ao}{ifs:List ao}{kd:Kd}{t:Tg}{fe:FE}
 (S:bW X ow fr ix scope) (hc:X.calm) (hI:PI X tg iter (fR X.K kd fa)) (hg:∀C s₀ H₀ ex,PG (X.comp (ow++fr) scope C s₀ H₀ ex) tg (gO X.K t)) (ht:∀C s₀ H₀ ex,sG (X.comp (ow++fr) scope C s₀ H₀ ex) ifs (iA X.K fc))
 (he:∀C s₀ H₀ ex,PE (X.comp (ow++fr) scope C s₀ H₀ ex) elt (iP X.K fe)) (hs:∀x,foldedSetIterable iter X.env x=pure x) :
 SE X (.ListComp elt [⟨tg,iter,ifs,0⟩] scope lp) (JH kd fa t ow.length ix fc fe):=(BO S hc hI hg ht he hs).imp λσ H Q q=>vm q
noncomputable def pM:ao->Bool|.Tuple ..=>false|_=>true
theorem YF{k:Nat}{l:Nat}:swapsWithSole [.Tuple es k p] e l env=pure false:=by
 cases e<;>rfl
theorem YG{k:Nat}(h:pM e):swappedStores [.Tuple es k p] e env=pure aC:=by
 cases e<;>first|rfl|cases h
theorem YH{is:List Nat}{k:Nat}(hc:X.calm)(hN:X.N.Nodup)(hs:Paired (pK X) es is)(he:SE X e fa)(ht:pM e) :
 SS X (.Assign [.Tuple es k p] e pos) (λρ h=>(fa ρ h).bind λw h=>.of ((bJ (.many is) w h ρ).map .nx) h):=(Nn he (Pj hc hN hs) YF (YG ht) rfl).imp λD σ H z9=>z9.el λρ h m fl h' f r e k=>by
 refine bO e λw h1 e1 e2=>?_;obtain⟨e2,e3⟩:=of_ok e2;subst e3;cases z:bJ (.many is) w h' ρ with
 |none=>rw[z]at e2;cases e2
 |some ρ'=>
  rw[z]at e2;cases e2;exact(.mk f r e1 λv H1 m1 s1 r1 q1=>(.mk (f.stp s1) r1 q1 z λσ' f'=>k H1 m1 s1 r1 σ' f'))
noncomputable def zX:ao->Bool|.Slice ..=>false|_=>true
theorem YI(h:zX i)(v:aa):assign (.Subscript o i p) env v=(do
 let ov <-holding [v] (eval o env);let iv <-holding [v,ov] (eval i env)
 standAt p
 holding [v,ov,iv] (setItem ov iv v)
 release [v,ov,iv] []):=by
 cases i<;>first|rfl|cases h
noncomputable abbrev JM(fo fi fv:FE):FS:=λρ h=>(fv ρ h).bind λw h=>(fo ρ h).bind λx h=>(fi ρ h).bind λy h=>match x,y with
 |.ref a,.int j=>(match h.get a with
  |some (.lst ws)=>(match L2.iw ws.length j with
   |some k=>.ok (.nx ρ) (h.set a (.lst (ws.set k w)))
   |none=>.no)
  |_=>.no)
 |.ref a,y=>putD ρ a y w h
 |_,_=>.no
theorem YJ{l:Nat}:swapsWithSole [.Subscript o i p] e l env=pure false:=by
 cases e<;>rfl
theorem YK:swappedStores [.Subscript o i p] e env=pure aC:=by
 cases e<;>rfl
theorem Pw{K:aI}{m:Nat->ah}{n:Nat}{H:Hp}{x:Str}{w:W}:∀{vs:List (Str×V)} {ws:List W},aE K m n H (vs.map (·.2)) ws->dY x (vs.map (·.1)) ws=aB w->∃v,vs.lookup x=aB v/\aL K m n H v w
 |[],_,_,e=>by unfold dY at e;cases e
 |(y,v)::vs,ws,q,e=>by
  rw[cP]at q e;obtain⟨w0,ws,rfl,q1,q2⟩:∃w' pG,ws=w'::pG/\aL K m n H v w'/\aE K m n H (vs.map (·.2)) pG:=by cases q with|cons a b=>exact⟨_,_,rfl,a,b⟩
  unfold dY at e;by_cases z:y=x;rw[if_pos z]at e;cases e;exact⟨v,by rw[ig,z,beq_self_eq_true],q1⟩;rw[if_neg z]at e;obtain⟨v',h1,h2⟩:=Pw q2 e;exact⟨v',by rw[ig,wG.mpr (dU z)];exact h1,h2⟩
theorem Px{x:Str}:∀(vs:List (Str×V)),(cV x v vs).map (·.1)=putN x (vs.map (·.1))
 |[]=>rfl
 |(y,u)::vs=>by
  unfold cV;rw[cP];unfold putN;by_cases z:y=x;rw[if_pos z,if_pos z];rfl;rw[if_neg z,if_neg z,cP,Px vs]
theorem Py{K:aI}{m:Nat->ah}{n:Nat}{H:Hp}{x:Str}{v:V}{w:W}(q:aL K m n H v w):∀{vs:List (Str×V)} {ws:List W},aE K m n H (vs.map (·.2)) ws->aE K m n H ((cV x v vs).map (·.2)) (kq x w (vs.map (·.1)) ws)
 |[],_,r=>by cases r;exact .cons q .nil
 |(y,u)::vs,ws,r=>by
  rw[cP]at r;obtain⟨w0,ws,rfl,q1,q2⟩:∃w' pG,ws=w'::pG/\aL K m n H u w'/\aE K m n H (vs.map (·.2)) pG:=by cases r with|cons a b=>exact⟨_,_,rfl,a,b⟩
  unfold cV;rw[cP];unfold kq;by_cases z:y=x;rw[if_pos z,if_pos z];exact .cons q q2;rw[if_neg z,if_neg z];exact .cons q1 (Py q q2)
theorem YL{C:ah}{x:Str}(c:lG X.K C)(na:rq X.K C x)(he:SE X e fa)(hb:attributeBase e x X.env (eval e X.env)=eval e X.env):SE X (.Attribute e x pos) (λρ h=>(fa ρ h).bind λo h=>.of (nN C x o h) h):=
 (UH he hb).imp λσ H Q z9=>z9.el λρ h m w h' f r e k=>by
   refine bO e λo h1 e1 e2=>?_;obtain⟨e2,e3⟩:=of_ok e2;subst e3;refine(.mk f r e1 λv H1 m1 s1 r1 q1=>?_);unfold nN at e2;split at e2;rename_i i;split at e2;rename_i D xs ws g;split at e2;rename_i hD;subst hD;cases q1;obtain⟨dx,vs,p1,p0,p2⟩:=r1.ins g;rw[<-p0]at e2;obtain⟨v',h2,h3⟩:=Pw p2 e2;exact⟨_,_,dx,vs,v',rfl,p1,c,na,h2,k v' H1 m1 s1 r1 h3⟩;cases e2;cases e2;cases e2
theorem YM{C:ah}{x:Str}(c:lG X.K C)(na:rq X.K C x)(ho:SE X o fo)(hv:SE X e fb)(hs:swapsWith e (aB (.Attribute o x pos')) pos.line X.env=pure false):SS X (.Assign [.Attribute o x pos'] e pos) (λρ h=>(fb ρ h).bind λw h=>(fo ρ h).bind λo h=>kr ρ C x o w h):=
 (UI ho hv hs).imp λD σ H z9=>z9.el λρ h m fl h' f r e k=>by
   refine bO e λw h1 e1 e2=>?_;refine bO e2 λow h2 e3 e4=>?_;refine(.mk f r e1 λv H1 m1 s1 r1 q1=>(.mk (f.stp s1) r1 e3 λvo H2 m2 s2 r2 q2=>?_));unfold kr at e4;split at e4;rename_i i;split at e4;rename_i D' xs ws g;split at e4;rename_i hc;cases e4;rw[aY,gH]at hc;obtain⟨hD,hl⟩:=hc;subst hD;cases q2;obtain⟨dx,vs,p1,p0,p2⟩:=r2.ins g;have hl':vs.length<1000:=by
    have:=fN.mp hl;rw[<-p0,bV]at this;exact this
   refine⟨m2 i,_,dx,vs,rfl,p1,c,na,hl',?_⟩;have qv:=q1.stp s2;obtain⟨st,r'⟩:=r2.write (i:=i) (o:=.ins D' (putN x xs) (kq x w xs ws)) (u:=.ins D' dx (cV x v vs)) (fV g) p1 (λ_ z=>nomatch z) (λ_ _ z=>nomatch z) λst=>⟨dx,cV x v vs,eV,by rw[Px,p0],by rw[<-p0];exact Py (qv.stp st) (p2.stp st)⟩
   exact k _ m2 ((s1.trans s2).trans st) r' σ (((f.stp s1).stp s2).stp st);cases e4;cases e4;cases e4
theorem Pz{α β:Type}{f:α->Option β}:∀{as:List α} {bs:List β} {a:α} {b:β},aW f as=aB bs->f a=aB b->aW f (as++[a])=aB (bs++[b])
 |[],_,_,_,e,h=>by cases e;simp[aW,h]
 |x::as,bs,a,b,e,h=>by
  simp only[aW]at e;cases z:f x with
  |none=>rw[z]at e;cases e
  |some y=>
   rw[z]at e;simp only at e;cases z2:aW f as with
   |none=>rw[z2]at e;cases e
   |some ys=>
    rw[z2]at e;cases e;rw[qX];simp only[aW,z,Pz z2 h,qX]
theorem YN(hu:X.A.units+2<cLine)(ho:SE X o fo)(hi:SE X a fa)(hv:SE X e fb)(hs:zX a):SS X (.Assign [.Subscript o a p] e pos) (JM fo fa fb):=
 (Nn hv (TN ho hi (U6.or (W3 hu)) (YI hs)) YJ YK rfl).imp λD σ H z9=>z9.el λρ h m fl h' f r e k=>by
   refine bO e λw h1 e1 e2=>?_;refine bO e2 λx h2 e3 e4=>?_;refine bO e4 λy h3 e5 e6=>?_;refine(.mk f r e1 λv H1 m1 s1 r1 q1=>(.mk (f.stp s1) r1 e3 λvo H2 m2 s2 r2 q2=>(.mk ((f.stp s1).stp s2) r2 e5 λvi H3 m3 s3 r3 q3=>?_)));split at e6;rename_i l j;split at e6;rename_i ws g;split at e6;rename_i kk hk;cases e6;cases q3;have JN:=q2.stp s3;cases JN;obtain⟨vs,p1,p2⟩:=r3.lst g;refine .inl ⟨m3 l,vs,j,kk,rfl,rfl,p1,by rw[p2.length];exact hk,?_⟩;have qv:=((q1.stp s2).stp s3)
   obtain⟨st,r'⟩:=r3.write (i:=l) (o:=.lst (ws.set kk w)) (u:=.lst (vs.set kk v)) (fV g) p1 (λ_ z=>nomatch z) (λ_ _ z=>nomatch z) λst=>⟨_,eV,aE.set (qv.stp st) kk (p2.stp st)⟩
   exact k _ m3 (((s1.trans s2).trans s3).trans st) r' σ ((((f.stp s1).stp s2).stp s3).stp st);cases e6;cases e6;rename_i l _;unfold putD at e6;split at e6;rename_i ks ws dk g hd;split at e6;rename_i hc;cases e6;rw[aY]at hc;have JN:=q2.stp s3;cases JN;obtain⟨xs,p1,p2,p3,p4⟩:=r3.dt g;obtain⟨b,rfl,kk⟩:=Cn q3 hd;have hl:=p3.length;rw[bV]at hl;have hlt:xs.length<sizeLine:=by rw[hl,rS];exact fN.mp hc.2
   have qv:=((q1.stp s2).stp s3)
   have hf:bN xs dk=aC:=by
    rcases Gq dk p2 p4 with⟨z,_⟩|⟨p,w',z,z2,_⟩;exact z;rw[z2]at hc;exact absurd hc.1 (by simp)
   have hp:iM xs dk b v=xs++[(dk,b,v)]:=by unfold iM;rw[hf];rfl
   obtain⟨u0,PB,hn,YO,YQ⟩:∃u0:HO,H3 (m3 l)=aB u0/\(∀t,u0≠HO.tup t)/\(∀o t,u0≠HO.cG o t)/\uO (aB u0):=by
    rcases p1 with p1|⟨_,p1⟩;exact⟨_,p1,(λ_ z=>nomatch z),(λ_ _ z=>nomatch z),True.intro⟩;exact⟨_,p1,(λ_ z=>nomatch z),(λ_ _ z=>nomatch z),True.intro⟩
   refine .inr ⟨m3 l,b,xs,dk,rfl,rfl,pF p1 p2 p3,by rw[PB];exact YQ,kk,hlt,?_⟩;obtain⟨st,r'⟩:=r3.write (i:=l) (o:=.dt (ks++[y]) (ws++[w])) (u:=lJ (iM xs dk b v) (m3 l)) (fV g) PB hn YO λst=>by
    rw[hp]at st ⊢;refine⟨xs++[(dk,b,v)],.inl eV,?_,?_,?_⟩;rw[qZ,Pz p2 hd];rfl;rw[qZ];exact(p3.stp st).append (.cons (q3.stp st) .nil);rw[qZ];exact(p4.stp st).append (.cons (qv.stp st) .nil)
   exact k _ m3 (((s1.trans s2).trans s3).trans st) r' σ ((((f.stp s1).stp s2).stp s3).stp st);cases e6;cases e6;cases e6
noncomputable def sY:Operator->Option Op|.Add=>aB .add|_=>aC
noncomputable def PC:Op->R2|.add=>Nq λi j=>i+j|_=>λ_ _ _ _=>False
theorem CQ{O:Operator}{o:Op}(e:sY O=aB o):HX X O (PC o):=by
 cases O<;>cases e;exact TU
theorem YR{K:aI}{O:Operator}{o:Op}(e:sY O=aB o):Cg K (PC o) (zS o):=by
 intro m h H v u x y w h' Q r qv qu e2 k;unfold zS at e2;split at e2;rename_i i j;cases qv;cases qu;split at e2;cases e2;exact⟨i,j,rfl,rfl,aR.here k r (.int _)⟩;cases e2;cases e2
noncomputable abbrev xR(i:Nat)(o:Op)(fa:FE):FS:=λρ h=>match(ρ[i]?).join with|some x=>(fa ρ h).bind λy h=>(zS o x y h).bind λz h=>.ok (.nx (ρ.set i (aB z))) h|none=>.no
theorem YS{i:Nat}{pos':Pos}{O:Operator}{o:Op}(eo:sY O=aB o)(hN:X.N.Nodup)(hi:X.N[i]?=aB x)(hx:Loc X.env.scope x)(hf:X.fn x=true\/X.env.scope.names.lookup x=aB .local)(he:SE X e fa) :
 SS X (.AugAssign (.Name x pos') O e pos) (xR i o fa):=(TQ hN hi hx he (CQ eo) hf).imp λD σ H z9=>z9.el λρ h m fl h' f r e k=>by
 have e:xR i o fa ρ h=.ok fl h':=e;simp only[xR]at e;cases z:(ρ[i]?).join with
 |none=>rw[z]at e;cases e
 |some x=>
  rw[z]at e;simp only at e;refine bO e λy h1 e1 e2=>?_;refine bO e2 λw h2 e3 e4=>?_;cases e4;have e5:ρ[i]?=aB (aB x):=by
   cases q:ρ[i]? with|none=>rw[q]at z;cases z|some o=>rw[q]at z;rw[<-z];rfl
  obtain⟨v,p1,p2⟩:=f.val i x e5;refine⟨v,p1,ρ,h,m,y,h1,f,r,e1,λu H1 m1 s1 r1 q1=>YR eo m1 h1 H1 v u x y w h' _ r1 (p2.stp s1) q1 e3 λv' H' m' s' r' q'=>?_⟩;exact k H' m' (s1.trans s') r' _ (((f.stp s1).stp s').set q' i)
noncomputable abbrev YT(fc:FE)(ga gb:FS):FS:=λρ h=>(fc ρ h).bind λx h=>match x with|.bl true=>ga ρ h|.bl false=>gb ρ h|_=>.no
variable{sa sb:List aq}
theorem PD(hc:ST X c fc)(ha:vn X R sa ga)(hb:vn X R sb gb):SR X R (.If c sa sb pos) (YT fc ga gb):=(oR hc ha hb).imp λD σ H z9=>z9.el λρ h m fl h' f r e k=>by
 refine bO e λx h1 e1 e2=>?_;cases x<;>try cases e2
 rename_i c;refine(.mk f r e1 λH1 m1 s1 r1=>?_);cases c with|true=>rw[if_pos rfl];exact(.mk (f.stp s1) r1 e2 λH' m' s' r'=>k H' m' (s1.trans s') r')|false=>simp only[eT,dg];exact(.mk (f.stp s1) r1 e2 λH' m' s' r'=>k H' m' (s1.trans s') r')
theorem YU{nx:Nat->VH->Option (Option W)}{tg:W->VH->En->Option En}{f i:Nat}{ρ:En}{fl:Fl}(q:fm nx tg g (f+1) i ρ h=.ok fl h'):∃o,nx i h=aB o:=by
 simp only[fm]at q;split at q;cases q;exact⟨_,by assumption⟩;exact⟨_,by assumption⟩
noncomputable abbrev CS(kd:Kd)(fa:FE)(t:Tg)(g:FS):FS:=λρ h=>(fa ρ h).bind λx h=>fm (bZ kd x) (bJ t) g fuel 0 ρ h
theorem YV{K:aI}{kd:Kd}{t:Tg}{D:Ends}{σ:L2.St}{H:Hp}(q:jI K R (CS kd fa t ga) D σ H):Ba (fR K kd fa) (gO K t) (jI K R ga) D σ H:=by
 refine q.el λρ h m fl h' f r e k=>?_;refine bO e λx h1 e1 e2=>?_;refine(.mk f r e1 (YU (f:=999999) e2) λJ P H1 m1 s1 r1 J1 p1=>?_);refine⟨λi fu σ' H'=>∃ρ' h3 m3,fm (bZ kd x) (bJ t) ga fu i ρ' h3=.ok fl h'/\Fr K m3 h3.n H' σ' ρ'/\Rel K m3 h3 H'/\bS m1 h1.n H1 m3 h3.n H'/\P m3 h3.n H',⟨fuel,ρ,h1,m1,e2,f.stp s1,r1,.refl,p1⟩,?_⟩;rintro i fu σ' H' ⟨ρ',h3,m3,e3,f3,r3,s3,p3⟩;cases fu with
 |zero=>cases e3
 |succ fu=>
  simp only[fm]at e3;obtain⟨j1,j2⟩:=J1.2 m3 h3 H' r3 p3 i;split at e3;cases e3;rename_i hn;cases e3;exact .inl ⟨j2 hn,k H' m3 (s1.trans s3) r3 σ' f3⟩;rename_i w hn;obtain⟨j3,j4⟩:=j1 w hn;split at e3;cases e3;rename_i PF ht;refine bO e3 λCT h5 e5 e6=>?_;refine .inr ⟨j3,λlE H6=>∃jJ m6,fm (bZ kd x) (bJ t) ga fu (i+1) jJ h5=.ok fl h'/\Fr K m6 h5.n H6 lE jJ/\Rel K m6 h5 H6/\bS m1 h1.n H1 m6 h5.n H6/\P m6 h5.n H6,λlE H6 ⟨jJ,m6,a1,a2,a3,a4,a5⟩=>⟨fu,lg _,jJ,h5,m6,a1,a2,a3,a4,a5⟩,λy H4 hy=>?_⟩;obtain⟨s4,r4,q4⟩:=j4 y H4 hy;refine⟨ρ',h3,m3,w,PF,f3.stp s4,r4,q4,ht,λzM f5=>⟨PF,h3,m3,CT,h5,f5,r4,e5,λH6 m6 s6 r6=>?_⟩⟩;have p4:=J1.1 m3 h3.n H' m3 h3.n H4 (bq _) (λ_ _=>rfl) (λb vs q=>s4.tup b vs q) (λb o u q=>s4.cG b o u q) p3;have p6:=J1.1 m3 h3.n H4 m6 h5.n H6 s6.le s6.same (λb vs q=>s6.tup b vs q) (λb o u q=>s6.cG b o u q) p4;have sZ:=(s3.trans s4).trans s6;cases CT with|nx jJ=>exact λlE f6=>⟨jJ,m6,e6,f6,r6,sZ,p6⟩|ct jJ=>exact λlE f6=>⟨jJ,m6,e6,f6,r6,sZ,p6⟩|bk jJ=>cases e6;exact λlE f6=>k H6 m6 (s1.trans sZ) r6 lE f6|rt w6=>cases e6;exact k H6 m6 (s1.trans sZ) r6
theorem PJ(hp:PassesOwn (model X.prog X.w) X.A X.env X.xe)(hc:X.calm)(hI:PI X tg iter (fR X.K kd fa))(hg:PG X tg (gO X.K t))(hb:vn X R sa ga)(hs:∀x,foldedSetIterable iter X.env x=pure x) :
 SR X R (.For tg iter sa [] pos) (CS kd fa t ga):=(T8 hp hc hI hg hb hs).imp λD σ H q=>YV q
theorem YW(hp:PassesOwn (model X.prog X.w) X.A X.env X.xe)(hc:ST X c fc)(hb:JK X sa ga):SS X (.While c sa [] pos) (λρ h=>fE fc ga fuel ρ h):=(TX hp hc hb).imp λD σ H z9=>z9.el λρ h m fl h' f r e k=>by
 refine⟨λfu σ' H'=>∃ρ' h3 m3,fE fc ga fu ρ' h3=.ok fl h'/\Fr X.K m3 h3.n H' σ' ρ'/\Rel X.K m3 h3 H'/\bS m h.n H m3 h3.n H',⟨fuel,ρ,h,m,e,f,r,.refl⟩,?_⟩;rintro fu σ' H' ⟨ρ',h3,m3,e3,f3,r3,s3⟩;cases fu with
 |zero=>cases e3
 |succ fu=>
  simp only[fE]at e3;refine bO e3 λx h4 e4 e5=>?_;cases x<;>try cases e5
  rename_i b;refine⟨ρ',h3,m3,b,h4,f3,r3,e4,λH4 m4 s4 r4=>?_⟩;cases b with
  |false=>cases e5;simp only[eT,dg];exact k H4 m4 (s3.trans s4) r4 σ' (f3.stp s4)
  |true=>
   simp only[bX];refine bO e5 λCT h5 e6 e7=>?_;refine⟨λlE H6=>∃jJ m6,fE fc ga fu jJ h5=.ok fl h'/\Fr X.K m6 h5.n H6 lE jJ/\Rel X.K m6 h5 H6/\bS m h.n H m6 h5.n H6,λlE H6 ⟨jJ,m6,a1,a2,a3,a4⟩=>⟨fu,lg _,jJ,h5,m6,a1,a2,a3,a4⟩,?_⟩;refine⟨ρ',h4,m4,CT,h5,f3.stp s4,r4,e6,λH6 m6 s6 r6=>?_⟩;have sZ:=(s3.trans s4).trans s6;cases CT with|nx jJ=>exact λlE f6=>⟨jJ,m6,e7,f6,r6,sZ⟩|ct jJ=>exact λlE f6=>⟨jJ,m6,e7,f6,r6,sZ⟩|bk jJ=>cases e7;exact λlE f6=>k H6 m6 sZ r6 lE f6|rt w6=>cases e7;exact λv6 q6=>k H6 m6 sZ r6 v6 q6
end
theorem CU{n:Str}:∀{ps:List Str} {us:List aa},us.length=ps.length->n∈ps->((ps.zip us).lookup n).isSome=true
 |[],_,_,h=>by cases h
 |p::ps,[],hl,_=>by cases hl
 |p::ps,u::us,hl,h=>by
  rw[rZ,ig];by_cases e:(n==p)=true;rw[e];rfl;have e':(n==p)=false:=by simpa using e
  rw[e'];refine CU (by simpa using hl) ?_;rcases gq.mp h with z|z
  rw[z]at e';simp at e';exact z
theorem YX{n:Str}{p:Str}{ps:List Str}(h:n≠p):((p,u)::ps.zip us).lookup n=(ps.zip us).lookup n:=by
 rw[ig];have e':(n==p)=false:=by simpa using h
 rw[e']
theorem PK{α β:Type}{f g:α->Option β}:∀{l:List α},(∀a∈l,f a=g a)->l.filterMap f=l.filterMap g
 |[],_=>rfl
 |a::r,h=>by
  rw[wU,wU,h a fy,PK λb hb=>h b (eU _ hb)]
theorem Gx:∀{ps:List Str} {us:List aa},us.length=ps.length->ps.Nodup->ps.filterMap (λn=>((ps.zip us).lookup n).map (n,·))=ps.zip us
 |[],_,_,_=>rfl
 |p::ps,[],hl,_=>by cases hl
 |p::ps,u::us,hl,hn=>by
  obtain⟨h1,h2⟩:=AH.mp hn;rw[rZ,wU];have e:((p,u)::ps.zip us).lookup p=aB u:=by rw[ig];simp
  rw[e];simp only[gR];congr 1;have ih:=Gx (ps:=ps) (us:=us) (by simpa using hl) h2;refine Eq.trans ?_ ih;exact PK λn hn'=>by
   have hne:n≠p:=λz=>h1 (by rw[<-z];exact hn');rw[YX hne]
theorem PL{x qual:Str}{args:List Arg}{body:List aq}{sc:ay}{kV doc pm:aa}{an:Option ah}{cdv ct:aa}{df:List ao}(hl:us.length=(args.map (·.arg)).length)(hn:(args.map (·.arg)).Nodup) :
 bindArgs (PySem.W.fnOf x qual ⟨[],args,aC,[],[],aC,df⟩ body sc .none kV doc pm an cdv ct) ⟨us,[]⟩=pure ((args.map (·.arg)).zip us):=by
 have hs:seqItems? Value.none=pure aC:=rfl;have hm:((args.map (·.arg)).filter λn=>(((args.map (·.arg)).zip us).lookup n).isNone)=[]:=by
  rw[List.filter_eq_nil_iff];intro n hn';have:=CU hl hn';cases q:((args.map (·.arg)).zip us).lookup n with|none=>rw[q]at this;cases this|some v=>simp
 unfold bindArgs;simp only[PySem.W.fnOf,uN,uM,i7,hs,zD];have hg:¬(us.length> (args.map (·.arg)).length):=by lia
 have h0:(#[]:Array aa).toList=[]:=rfl;simp only[Option.getD_none,h0,wY,zD,List.drop_nil,qY,Nat.sub_zero,List.take_length,hm,List.isEmpty_nil,k9,List.drop_length,List.zip_nil_right,List.zip_nil_left,jP hg,qV,eT,dg,Gx hl hn]
theorem PM{z:Str}:∀{qs:List Str} {us:List aa},us.length=qs.length->(qs++[z]).zip us=qs.zip us
 |[],[],_=>rfl
 |[],_::_,h=>by cases h
 |_::_,[],h=>by cases h
 |q::qs,u::us,h=>by
  rw[qX,rZ,rZ,PM (by simpa using h)]
theorem JO{z:Str}:∀{qs:List Str} {us:List aa},us.length=qs.length->(qs++[z]).zip (us++[v])=qs.zip us++[(z,v)]
 |[],[],_=>rfl
 |[],_::_,h=>by cases h
 |_::_,[],h=>by cases h
 |q::qs,u::us,h=>by
  rw[qX,qX,rZ,rZ,JO (by simpa using h),qX]
theorem PN{z:Str}:∀{qs:List Str} {us:List aa},z∉qs->(qs.zip us).lookup z=aC
 |[],_,_=>rfl
 |_::_,[],_=>rfl
 |q::qs,u::us,h=>by
  rw[rZ,ig];have e':(z==q)=false:=by simpa using(λe=>h (by rw[e];exact fy))
  rw[e'];exact PN λe=>h (eU _ e)
section
variable{x qual:Str}{args:List Arg}{df:List ao}{body:List aq}{sc:ay}{kV doc pm:aa}{an:Option ah}{cdv ct:aa}{t:ah}{o:Obj}{n:Nat}{s:af}{us:List aa}{qs:List Str}{z:Str}
theorem PR(qs:List Str)(z:Str):List.drop ([Value.none].length- (qs++[z]).length) [Value.none]=[Value.none]:=by
 rw[gh,jA,jA,show 1- (qs.length+1)=0 by lia];rfl
theorem vp(qs:List Str)(z:Str):(qs++[z]).length - [Value.none].length=qs.length:=by simp
theorem YY(ha:args.map (·.arg)=qs++[z])(hn:(qs++[z]).Nodup)(ho:s.heap.get? t=aB o)(hd:o.data=.seq #[.none] n)(hl:us.length=(qs++[z]).length) :
 BindsTo s (PySem.W.fnOf x qual ⟨[],args,aC,[],[],aC,df⟩ body sc (.ref t) kV doc pm an cdv ct) ⟨us,[]⟩ ((qs++[z]).zip us):=by
 apply BindsTo.of_defaults (items:=#[.none]) (n:=n) rfl ho hd;unfold bindArgs;simp only[PySem.W.fnOf,uN,uM,i7,wY,zD,ha];rfl;have hm:(qs.filter λn=>(((qs++[z]).zip us).lookup n).isNone)=[]:=by
  rw[List.filter_eq_nil_iff];intro n hn';have:=CU (n:=n) hl (List.mem_append_left _ hn');cases q:((qs++[z]).zip us).lookup n with|none=>rw[q]at this;cases this|some v=>simp
 have hz:(((qs++[z]).zip us).lookup z).isNone=false:=by
  have:=CU (n:=z) hl (oK _ (zp.mpr rfl));cases q:((qs++[z]).zip us).lookup z with|none=>rw[q]at this;cases this|some v=>rfl
 have hg:¬(us.length> (qs++[z]).length):=by lia
 simp only[Option.getD_some,PR,vp,List.take_left',List.take_left,List.drop_left,List.drop_left',hm,jP hg,qV,eT,dg,List.isEmpty_nil,k9,rZ,List.zip_nil_right,zy,wY,hz,zD,Gx hl hn]
theorem YZ(ha:args.map (·.arg)=qs++[z])(hn:(qs++[z]).Nodup)(ho:s.heap.get? t=aB o)(hd:o.data=.seq #[.none] n)(hl:us.length=qs.length) :
 BindsTo s (PySem.W.fnOf x qual ⟨[],args,aC,[],[],aC,df⟩ body sc (.ref t) kV doc pm an cdv ct) ⟨us,[]⟩ ((qs++[z]).zip (us++[.none])):=by
 apply BindsTo.of_defaults (items:=#[.none]) (n:=n) rfl ho hd;unfold bindArgs;simp only[PySem.W.fnOf,uN,uM,i7,wY,zD,ha];rfl;have hm:(qs.filter λn=>((qs.zip us).lookup n).isNone)=[]:=by
  rw[List.filter_eq_nil_iff];intro n hn';have:=CU (n:=n) hl hn';cases q:(qs.zip us).lookup n with|none=>rw[q]at this;cases this|some v=>simp
 have Y0:z∉qs:=λh=>(List.nodup_append.mp hn).2.2 z h z (zp.mpr rfl) rfl;have hz:((qs.zip us).lookup z).isNone=true:=by rw[PN Y0];rfl
 have hg:¬(us.length> (qs++[z]).length):=by rw[gh];lia
 have hl2:(us++[Value.none]).length=(qs++[z]).length:=by rw[gh,gh,hl];rfl
 have ha2:=Gx hl2 hn;rw[JO hl]at ha2;simp only[Option.getD_some,PR,vp,PM hl,JO hl,List.take_left',List.take_left,List.drop_left,List.drop_left',hm,jP hg,qV,eT,dg,List.isEmpty_nil,k9,rZ,List.zip_nil_right,zy,wY,hz,bX,zD,ha2]
end
structure nR(K:aI)(x qual:Str)(st:aq)(f:ah)(fd:au):Prop where
 ex:∃(oc:aa) (od:Option ah) (dV kV doc pm:aa) (an:Option ah) (cdv ct:aa) (osl:Array (Option aa)),fd=PySem.W.fnOf x qual (Vm st) (zL st) (iy st) dV kV doc pm an cdv ct/\K.lookup f=aB ⟨oc,od,.func fd,osl⟩/\PySem.W.codeIn K cdv qual=true
 kp:PySem.W.keepIn K (.ref f)=true
theorem nR.ok{P:ai}{w:aj}{K:aI}{mg:Str->Option aa}{base:az}{x qual:Str}{st:aq}{f:ah}{fd:au}{N ps:List Str}{k:Nat}{sp:Sp}(F:nR K x qual st f fd)(S:bY N ps (iy st))(len:∀vs H Q E,sp vs H Q E->vs.length=ps.length)
 (hbody:∀(cdv:aa)(A:ak)(outer:List Env)(s:af)(H:Hp)(vs:List V)(Q:VK)(E:XK),bG k (A.deeper (envOfC qual (iy st) s.heap.objs.size f cdv))->sp vs H Q E->∃t,gu (gK jb P w K mg base N qual (iy st) f cdv A outer s H E).eH (zL st) t/\t {nx:=λ_ H'=>Q .aG H',rt:=Q} (start N vs) H):bU P w K mg base jb (k+1) f fd ps sp:=
 let⟨_,_,_,_,_,_,_,cdv,_,_,e,lk,hcd⟩:=F.ex
 by subst e;exact uU lk hcd S len λA outer s H vs Q E hr j9=>let⟨t,h,q⟩:=hbody cdv A outer s H vs Q E hr j9;⟨t,h.eH,q⟩
section
variable{K:aI}{m m':Nat->ah}{n n':Nat}{h h':VH}{H H':Hp}
mutual
theorem aL.dQ:∀{v:V} {w:W},aL K m n H v w->W.lt n w=true|_,_,.aG=>rfl|_,_,.bl _=>rfl|_,_,.int _=>rfl|_,_,.str _=>rfl|_,_,.tup _ r=>aE.dQ r|_,_,.fz _ r=>aE.dQ r|_,_,.ref q=>fN.mpr q
theorem aE.dQ:∀{vs:List V} {ws:List W},aE K m n H vs ws->W.jU n ws=true
 |_,_,.nil=>rfl
 |_,_,.cons q r=>by
  show(W.lt n _&&W.jU n _)=true;rw[aL.dQ q,aE.dQ r];rfl
end
mutual
theorem aL.cut:∀{v:V} {w:W},aL K m n' H v w->W.lt n w=true->aL K m n H v w|_,_,.aG,_=>.aG|_,_,.bl b,_=>.bl b|_,_,.int b,_=>.int b|_,_,.str b,_=>.str b|_,_,.tup q r,e=>.tup q (aE.cut r e)|_,_,.fz q r,e=>.fz q (aE.cut r e)|_,_,.ref q,e=>.ref (fN.mp e)
theorem aE.cut:∀{vs:List V} {ws:List W},aE K m n' H vs ws->W.jU n ws=true->aE K m n H vs ws
 |_,_,.nil,_=>.nil
 |_,_,.cons q r,e=>by
  have e:(W.lt n _&&W.jU n _)=true:=e;rw[aY]at e;exact .cons (aL.cut q e.1) (aE.cut r e.2)
end
theorem aU.cut{m':Nat->ah}{n1:Nat}:∀{vs us:List (Key×V)} {ws:List (Key×W)},aU K m n' H vs ws->aU K m' n H' us ws->aU K m n H vs ws|_,_,_,.nil,_=>.nil|_,_,_,.cons q r,.cons q2 r2=>.cons (q.cut q2.dQ) (aU.cut (n1:=n1) r r2)
theorem CV{lo:Nat}(r:Rel K m h H):Rel K m ⟨h.n,lo,h.os⟩ H:=⟨r.obj,r.inj,r.len⟩
theorem Gy(r:Rel K m h H)(s:bS m h.n H m' h1.n H')(r1:Rel K m' h1 H')(q:aL K m' h1.n H' v w)(g:fF ⟨h.n,h.n,h.os⟩ h1)(e:leave h w h1=.ok w2 h2)(k:aR K m h.n H w2 h2 Q):Q v H':=by
 unfold leave at e;split at e;rename_i hc;cases e;rw[aY]at hc;have hlo:=kU hc.1;refine k v H' m' ⟨bq _,s.same,λi a b=>absurd b (jQ.mpr a),λi j a b=>absurd b (jQ.mpr a),s.tup,s.cG,s.keep⟩ ⟨λi hi=>?_,λi j hi hj=>r1.inj i j (ff hi s.le) (ff hj s.le),r.len⟩ (q.cut hc.2);have hg:h1.get i=h.get i:=g.2.2 i hi (ff hi hlo);obtain⟨o,p1,p2⟩:=r1.obj i (ff hi s.le);rw[hg]at p1;refine⟨o,p1,?_⟩;have p3:=r.at_ p1;cases o with
 |lst ws=>
  obtain⟨vs,a1,a2⟩:=p2;obtain⟨us,b1,b2⟩:=p3;exact⟨vs,a1,a2.cut b2.dQ⟩
 |dk ws=>
  obtain⟨vs,a1,a2⟩:=p2;obtain⟨us,b1,b2⟩:=p3;exact⟨vs,a1,aU.cut (n1:=0) a2 b2⟩
 |dt ks ws=>
  obtain⟨xs,a1,a0,a2,a3⟩:=p2;obtain⟨us,b1,b0,b2,b3⟩:=p3;exact⟨xs,a1,a0,a2.cut b2.dQ,a3.cut b3.dQ⟩
 |ins C xs ws=>
  obtain⟨dx,vs,a1,a0,a2⟩:=p2;obtain⟨dx',us,b1,b0,b2⟩:=p3;exact⟨dx,vs,a1,a0,a2.cut b2.dQ⟩
 cases e;exact k v H' m' s (CV r1) q
theorem PU{N:List Str}(q:aE K m n H vs ws):Fr K m n H (L2.start N vs) (ws.map aB++bI (N.length-ws.length) aC):=by
 unfold L2.start;refine⟨by simp[q.length],λi w e=>?_⟩;by_cases hi:i<ws.length;rw[zl (by simpa using hi)]at e;rw[zl (by simpa[q.length]using hi)];rw[nu]at e ⊢;cases z:ws[i]? with
 |none=>rw[z]at e;cases e
 |some w'=>
  rw[z]at e;cases e;obtain⟨v,h1,h2⟩:=q.get z;exact⟨v,by rw[h1];rfl,h2⟩
 rw[oJ (by simpa using jQ.mp hi)]at e;rw[List.getElem?_replicate]at e;split at e<;>cases e
end
theorem tu{k idx:Nat}(hF:F idx=aB fn)(e:run F k idx ws h=.ok w h'):ws.length=fn.ps:=by
 cases k with
 |zero=>cases e
 |succ k=>
  simp only[run,hF]at e;split at e;rename_i hl;exact uK hl;cases e
theorem PV{P:ai}{w:aj}{K:aI}{mg:Str->Option aa}{base:az}{F:Nat->Option Fn}{k idx:Nat}{fn:Fn}{x qual:Str}{st:aq}{f:ah}{fd:au}{N ps:List Str}(hF:F idx=aB fn)(Fu:nR K x qual st f fd)(S:bY N ps (iy st))
 (hn:fn.n=N.length) (hp:fn.ps=ps.length)
 (hbody:∀(cdv:aa)(A:ak)(outer:List Env)(s:af)(H:Hp)(E:XK),bG k (A.deeper (envOfC qual (iy st) s.heap.objs.size f cdv))->JK (gK jb P w K mg base N qual (iy st) f cdv A outer s H E).eH (zL st) (exs (run F k) fn.body)) :
 bU P w K mg base jb (k+1) f fd ps (jo K ps.length (run F (k+1) idx)):=by
 refine Fu.ok S (λvs H Q E h=>h.1) λcdv A outer s H vs Q E hr j9=>?_;refine⟨_,hbody cdv A outer s H E hr,?_⟩;obtain⟨hl,h,m,ws,w2,h2,r,q,e,k2⟩:=j9;have hws:=tu hF e;simp only[run,hF]at e;split at e;refine bO e λfl h1 e1 e2=>?_;have g:=CM (CN F k) _ _ _ _ _ e1;have hN:fn.n-fn.ps=N.length-ws.length:=by rw[hn,hws]
 rw[hN]at e1;refine⟨_,⟨h.n,h.n,h.os⟩,m,fl,h1,PU q,CV r,e1,λH' m' s' r'=>?_⟩;cases fl with|nx ρ=>exact λσ' f'=>Gy r s' r' .aG g e2 k2|rt w3=>exact λv q3=>Gy r s' r' q3 g e2 k2|bk _=>cases e2|ct _=>cases e2
 cases e
theorem PX{P:ai}{w:aj}{K:aI}{mg:Str->Option aa}{base:az}{F:Nat->Option Fn}{idx:Nat}{f:ah}{fd:au}{ps:List Str}:bU P w K mg base jb 0 f fd ps (jo K ps.length (run F 0 idx)):=
 ⟨λvs H Q E h=>h.1,λA outer s H args us vs Q E hr he hb hv hs=>by obtain⟨_,h,m,ws,w2,h2,r,q,e,k2⟩:=hs;cases e⟩
theorem PY{x:Str}:∀{vs:List (Str×V)} {ws:List W},vs.length=ws.length->dY x (vs.map (·.1)) ws=aC->vs.lookup x=aC
 |[],_,_,_=>rfl
 |(y,v)::vs,[],hl,_=>by cases hl
 |(y,v)::vs,w::ws,hl,e=>by
  rw[cP]at e;unfold dY at e;by_cases z:y=x;rw[if_pos z]at e;cases e;rw[if_neg z]at e;rw[ig,wG.mpr (dU z)];exact PY (by simpa using hl) e
theorem Y3{K:aI}{m:Nat->ah}{h:VH}{H:Hp}{C:ah}{x:Str}{v:V}{o:W}(r:Rel K m h H)(q:aL K m h.n H v o)(e:iO C x h o):∃a dx fs,v=.ref a/\H a=aB (.ins C dx fs)/\fs.lookup x=aC:=by
 unfold iO at e;split at e;rename_i i;split at e;rename_i D xs ws g;rw[aY,gH]at e;obtain⟨rfl,e⟩:=e;cases q;obtain⟨dx,vs,p1,p0,p2⟩:=r.ins g;have hl:=p2.length;rw[bV]at hl;refine⟨_,dx,vs,rfl,p1,PY hl ?_⟩;rw[p0];simpa using e;cases e;cases e
noncomputable abbrev Y4(C:ah)(mt:Str)(fo fa:FE)(g:List W->VH->Res W):FE:=λρ h=>(fo ρ h).bind λx h=>if iO C mt h x then(fa ρ h).bind λy h=>match y with|.tup ys=>g (x::ys) h|_=>.no else .no
section
variable{X:Cx}{a b c e o:ao}{es:List ao}{fa fb fc fo:FE}{pos p:Pos}{x:Str}
theorem Y5{k:Nat}{C f:ah}{fd:au}{ps:List Str}{mt:Str}{apos:Pos}{pl:Sem Bool}{g:List W->VH->Res W}(c:lG X.K C)(hm:Meth X.K C mt f)(F:bU X.prog X.w X.K X.mg X.base jb k f fd ps (jo X.K ps.length g))(hr:bG k X.A)(hb:Binds X.K fd ps [])
 (ho:SE X o fo) (ha:SA X (e::es) fa) (hs:(e::es).all fq) (hn:∀ws h w h',g ws h=.ok w h'->ws.length=ps.length)
 (ht:eval (.Call (.Attribute o mt apos) (e::es) [] pos) X.env=(do
   let ov <-eval o X.env
   standAt apos.atName;let (f,first) <-holding [ov] (getMethod ov mt pl)
   callWith pos f first (backTo pos (starEach (e::es) X.env)) (backToKw pos (keywordEach [] X.env)))) :
 SE X (.Call (.Attribute o mt apos) (e::es) [] pos) (Y4 C mt fo fa g):=by
 rw[j0,aY]at hs;refine(UM (pl:=pl) ho c hm F hr hb .nil jk ha (eW hs.1) (nP hs.2) ht).imp λσ H Q z9=>z9.el λρ h m w h' f r e k=>?_;refine bO e λx h1 e1 e2=>?_;refine(.mk f r e1 λv H1 m1 s1 r1 q1=>?_);split at e2;rename_i hi;refine bO e2 λy h2 e3 e4=>?_;cases y with
 |tup ys=>
  obtain⟨a,dx,fs,hv,ea,hl⟩:=Y3 r1 q1 hi;refine⟨a,dx,fs,hv,ea,hl,ρ,h1,m1,ys,h2,f.stp s1,r1,e3,λvs H2 m2 s2 r2 q2=>?_⟩;show jo X.K ps.length g (v:: (vs++[])) H2 Q E0;rw[i7];have q3:aE X.K m2 h2.n H2 (v::vs) (x::ys):=.cons (q1.stp s2) q2;exact⟨by rw[q3.length];exact hn _ _ _ _ e4,h2,m2,x::ys,w,h',r2,q3,e4,λv' H' m' s' r' q'=>k v' H' m' ((s1.trans s2).trans s') r' q'⟩
 |_=>cases e4
 cases e2
theorem Y6{K:aI}{np:Nat}{C:ah}{g:List W->VH->Res W}{dw:List W}{dv:List V}(hd:∀m n H,aE K m n H dv dw)(hn:∀ws h w h',g ws h=.ok w h'->ws.length=np){m:Nat->ah}{h:VH}{H:Hp}{vs:List V}{xs:List W}{w:W}{h':VH}{Q:VK}
 (r:Rel K m h H) (q:aE K m h.n H vs xs) (e:Gm C g (xs++dw) h=.ok w h') (k:aR K m h.n H w h' Q) :
 ∀x dx,H x=aC->H dx=aC->dx≠x->jo K np g (.ref x:: (vs++dv)) (upd (upd H dx (.own x)) x (.ins C dx [])) (λv H2=>v=.aG/\Q (.ref x) H2) E0:=by
 intro px dx hpx hdx hne;refine bO e λv h2 e1 e2=>?_;split at e2;rename_i hv;cases e2;have hv:v=.aG:=by cases v<;>first|rfl|cases hv
 subst hv;obtain⟨mJ,r0⟩:=r.more (u:=.own px) hdx;have JP:upd H dx (.own px) px=aC:=by rw[bR (dU hne)];exact hpx
 obtain⟨st1,r1⟩:=r0.alloc (o:=.ins C [] []) (u:=.ins C dx []) JP (λ_ z=>nomatch z) (λst=>⟨dx,[],eV,rfl,.nil⟩);have st:=mJ.trans st1;have q1:aE K (λi=>if i=h.n then px else m i) (h.n+1) (upd (upd H dx (.own px)) px (.ins C dx [])) (.ref px:: (vs++dv)) (.ref h.n:: (xs++dw)):=by
  have:aL K (λi=>if i=h.n then px else m i) (h.n+1) (upd (upd H dx (.own px)) px (.ins C dx [])) (.ref ((λi=>if i=h.n then px else m i) h.n)) (.ref h.n):=.ref (lg _);simp only[bX]at this;exact .cons this ((q.stp st).append (hd _ _ _))
 refine⟨by rw[q1.length];exact hn _ _ _ _ e1,h.new (.ins C [] []),_,_,.aG,h',r1,q1,e1,λv' H' m' s' r' q'=>?_⟩;cases q';refine⟨rfl,?_⟩;have hm:m' h.n=px:=by
  have:=s'.same h.n (show h.n<h.n+1 by lia);simp only[bX]at this;exact this
 have q2:aL K m' h'.n H' (.ref (m' h.n)) (.ref h.n):=.ref (ff (show h.n<h.n+1 by lia) s'.le);rw[hm]at q2;exact k _ H' m' (st.trans s') r' q2;cases e2
end
noncomputable def iR(i:Nat):Nat->E|0=>.nil|n+1=>.cons (.var i) (iR (i+1) n)
noncomputable def fX(C:ah)(ii np:Nat):Fn:=⟨np,np,.seq (.ret (.mk C ii (iR 0 np))) .skip⟩
theorem PZ:∀(ys zs:List W),ev cl (iR zs.length ys.length) ((zs++ys).map aB) h=.ok (.tup ys) h
 |[],_=>rfl
 |y::ys,zs=>by
  have ih:=PZ (cl:=cl) (h:=h) ys (zs++[y]);rw[gh,jA,zq,zm]at ih;have hv:ev cl (.var zs.length) ((zs++y::ys).map aB) h=.ok y h:=by
   rw[ev];have:((zs++y::ys).map aB)[zs.length]?=aB (aB y):=by simp
   rw[this];rfl
  rw[dh,iR,ev,hv];show(ev cl (iR (zs.length+1) ys.length) ((zs++y::ys).map aB) h).bind _=_;rw[ih];rfl
theorem Y7{C:ah}{ci ii np k:Nat}(hF:F ci=aB (fX C ii np))(e:run F (k+1) ci ys h=.ok w h') :
 ∃h2 lo,Gm C (run F k ii) ys ⟨h.n,h.n,h.os⟩=.ok (.ref h.n) h2/\w=.ref h.n/\h'=⟨h2.n,lo,h2.os⟩:=by
 have hl:ys.length=np:=tu hF e;have hv:=PZ (cl:=run F k) (h:=⟨h.n,h.n,h.os⟩) ys [];rw[uM,qY,hl]at hv;rw[run,hF]at e;simp only at e;rw[if_pos (by show Nat.beq ys.length np=true;rw[hl];exact Nat.beq_refl np)]at e;have hz:(fX C ii np).n- (fX C ii np).ps=0:=Nat.sub_self np;rw[hz,List.replicate_zero,i7]at e;refine bO e λfl h1 e1 e2=>?_;have e1:exs (run F k) (.seq (.ret (.mk C ii (iR 0 np))) .skip) (ys.map aB) ⟨h.n,h.n,h.os⟩=.ok fl h1:=e1;have hm:ev (run F k) (.mk C ii (iR 0 np)) (ys.map aB) ⟨h.n,h.n,h.os⟩=Gm C (run F k ii) ys ⟨h.n,h.n,h.os⟩:=by
  rw[ev,hv];rfl
 rw[exs,exs,hm]at e1;refine bO e1 λf2 h3 e3 e4=>?_;refine bO e3 λw2 h4 e5 e6=>?_;cases e6;cases e4;have hw:w2=.ref h.n:=by
  refine bO e5 λv h5 _ e7=>?_;split at e7;cases e7;rfl;cases e7
 subst hw;have e2:leave h (.ref h.n) h1=.ok w h':=e2;have hlt:W.lt h.n (.ref h.n)=false:=by
  show Nat.blt h.n h.n=false;cases z:Nat.blt h.n h.n with|false=>rfl|true=>exact absurd (fN.mp z) (nq _)
 unfold leave at e2;rw[hlt,Bool.and_false]at e2;cases e2;exact⟨h1,_,e5,rfl,rfl⟩
section
variable{X:Cx}{e:ao}{es:List ao}{fa:FE}{pos p:Pos}{x:Str}
theorem P0{K:aI}{F:Nat->Option Fn}{np k ci ii na:Nat}{C:ah}{dw:List W}{dv:List V}(hF:F ci=aB (fX C ii na))(hd:∀m n H,aE K m n H dv dw)(hn:∀ws h w h',run F k ii ws h=.ok w h'->ws.length=np){m:Nat->ah}{h:VH}{H:Hp}{vs:List V}{xs:List W}{w:W}{h':VH}{Q:VK}
 (r:Rel K m h H) (q:aE K m h.n H vs xs) (e:run F (k+1) ci (xs++dw) h=.ok w h') (kk:aR K m h.n H w h' Q) :
 ∀x dx,H x=aC->H dx=aC->dx≠x->jo K np (run F k ii) (.ref x:: (vs++dv)) (upd (upd H dx (.own x)) x (.ins C dx [])) (λv H2=>v=.aG/\Q (.ref x) H2) E0:=by
 obtain⟨h2,lo,e1,rfl,rfl⟩:=Y7 hF e;exact Y6 (h:=⟨h.n,h.n,h.os⟩) hd hn (CV r) q e1 λv H' m' s' r' q'=>kk v H' m' s' (CV r') q'
theorem Y8{k ci ii na:Nat}{C f:ah}{ps:List Str}(hF:F ci=aB (fX C ii na))(M:Mk X.K C f)(FO:bU X.prog X.w X.K X.mg X.base jb k f fd ps (jo X.K ps.length (run F k ii)))(hr:bG (k+1) X.A)(hg:Gl X x)(hm:X.mg x=aB (.ref C))(hb:Binds X.K fd ps [])
 (ha:SA X (e::es) fa) (hs:(e::es).all fq) (hdb:(x==("__debug__" : Str))=false) (hn:∀ws h w h',run F k ii ws h=.ok w h'->ws.length=ps.length):SE X (.Call (.Name x p) (e::es) [] pos) (je fa (run F (k+1) ci)):=by
 rw[j0,aY]at hs;refine(NJ M FO hr hg hm hb .nil jk ha hdb (eW hs.1) (nP hs.2)).imp λσ H Q q=>vh (G:=λvs H1 Q=>∀x dx,H1 x=aC->H1 dx=aC->dx≠x->jo X.K ps.length (run F k ii) (.ref x:: (vs++[])) (upd (upd H1 dx (.own x)) x (.ins C dx [])) (λv H2=>v=.aG/\Q (.ref x) H2) E0) (λm h H vs xs w h' Q r q e kk=>?_) q;exact P0 (dw:=[]) (dv:=[]) hF (λ_ _ _=>.nil) hn r q (by rw[i7];exact e) kk
theorem Y9{k ci ii na:Nat}{C f:ah}{ps:List Str}(hF:F ci=aB (fX C ii na))(M:Mk X.K C f)(FO:bU X.prog X.w X.K X.mg X.base jb k f fd ps (jo X.K ps.length (run F k ii)))(hr:bG (k+1) X.A)(hg:Gl X x)(hm:X.mg x=aB (.ref C))(hb:Binds X.K fd ps [.none])
 (ha:SA X (e::es) fa) (hs:(e::es).all fq) (hdb:(x==("__debug__" : Str))=false) (hn:∀ws h w h',run F k ii ws h=.ok w h'->ws.length=ps.length):SE X (.Call (.Name x p) (e::es) [] pos) (je fa λws h=>run F (k+1) ci (ws++[.aG]) h):=by
 rw[j0,aY]at hs;refine(NJ M FO hr hg hm hb (iJ:=[V.aG]) (.cons rfl .nil) jk ha hdb (eW hs.1) (nP hs.2)).imp λσ H Q q=>vh (G:=λvs H1 Q=>∀x dx,H1 x=aC->H1 dx=aC->dx≠x->jo X.K ps.length (run F k ii) (.ref x:: (vs++[V.aG])) (upd (upd H1 dx (.own x)) x (.ins C dx [])) (λv H2=>v=.aG/\Q (.ref x) H2) E0) (λm h H vs xs w h' Q r q e kk=>?_) q;exact P0 (dw:=[.aG]) (dv:=[V.aG]) hF (λ_ _ _=>.cons .aG .nil) hn r q e kk
end
noncomputable def xS(K:aI)(C:ah):Bool:=PySem.W.plainGet K C Str.empty&&PySem.W.hasDictIn K C&&PySem.W.plainOver K C&& (match PySem.W.findIn K (.ref C) "__setattr__"with|some (aB (.builtin s))=>s == "object.__setattr__"|_=>false)
theorem Za{K:aI}{C:ah}(h:xS K C):lG K C:=by
 unfold xS at h;simp only[aY]at h;obtain⟨⟨⟨h1,h2⟩,h3⟩,h4⟩:=h;refine⟨h1,h2,h3,?_⟩;split at h4;rename_i s e;rw[e,show s = "object.__setattr__" by simpa using h4];cases h4
noncomputable def xT(K:aI)(C:ah)(f:Str):Bool:=match PySem.W.findIn K (.ref C) f with|some aC=>true|_=>false
theorem CW{K:aI}{C:ah}{f:Str}(h:xT K C f):rq K C f:=by
 unfold xT at h;split at h;rename_i e;exact e;cases h
noncomputable def JQ(K:aI)(C:ah)(m:Str):Option ah:=match PySem.W.findIn K (.ref C) m with|some (aB (.ref f))=>if PySem.W.isFn K (.ref f)&&PySem.W.keepIn K (.ref f)then aB f else aC|_=>aC
theorem Zb{K:aI}{C f:ah}{m:Str}(h:JQ K C m=aB f):Meth K C m f:=by
 unfold JQ at h;split at h;rename_i g e;split at h;rename_i hc;rw[aY]at hc;cases h;exact⟨e,hc.1,hc.2⟩;cases h;cases h
noncomputable def JR(K:aI)(C f:ah):Bool:=PySem.W.makesIn K C&&PySem.W.keepIn K (.ref C)&&PySem.W.isFn K (.ref f)&& (match PySem.W.findIn K (.ref C) "__init__"with|some (aB (.ref g))=>Nat.beq g f|_=>false)
theorem Zc{K:aI}{C f:ah}(h:JR K C f):Mk K C f:=by
 unfold JR at h;simp only[aY]at h;obtain⟨⟨⟨h1,h2⟩,h3⟩,h4⟩:=h;split at h4;rename_i g e;have:g=f:=uK h4;subst this;exact⟨h1,e,h3,h2⟩;cases h4
theorem Zd(hs:es.all fq)(hn:Nat.blt es.length 30):methodCallForm (es.length+ ([]:List Keyword).length) (backTo pos (starEach es env)) (backToKw pos (keywordEach [] env))=true:=by
 have h:=nP (env:=env) (pos:=pos) hs;unfold methodCallForm;have h1:((backTo pos (starEach es env)).all (!·.1))=true:=by
  rw[jZ];intro x hx;cases q:x.1 with
  |false=>rfl
  |true=>
   have:(backTo pos (starEach es env)).any (·.1)=true:=List.any_eq_true.mpr ⟨x,hx,q⟩;rw[h]at this;cases this
 rw[h1];show(true&&true&&decide (es.length+0+0<30))=true;rw[uG (by have:=fN.mp hn;lia)];rfl
theorem Ze{mt:Str}{env:Env}(hb:Cy o)(hl:(apos.endLine==pos.line))(hs:(e::es).all fq)(hn:Nat.blt (e::es).length 30) :
 eval (.Call (.Attribute o mt apos) (e::es) [] pos) env=(do
  let ov <-eval o env
  standAt apos.atName;let (f,first) <-holding [ov] (getMethod ov mt (do return (<-importBound o env).getD true))
  callWith pos f first (backTo pos (starEach (e::es) env)) (backToKw pos (keywordEach [] env))):=by
 rw[arm_eval_Call,JD hb];unfold methodCall calleeOf methodCallPos;rw[Zd hs hn];simp only[bX,k9,Bool.false_or,hl];rfl
noncomputable def nS(x:Str):Bool:=x==("Balls" : Str)
noncomputable def fY(x:Str):Option Str:=if x==("Balls.fall" : Str)then aB "fall"else if x==("Balls.__init__" : Str)then aB "__init__"else if x==("Fault.__init__" : Str)then aB "__init__"else aC
noncomputable def pN(m:Str):Option Str:=if m==("fall" : Str)then aB "Balls.fall"else aC
theorem Zf{m x:Str}(h:pN m=aB x):fY x=aB m/\x≠""/\nS x=false:=by
 unfold pN at h;split at h;rename_i z;cases h;have z:m = "fall":=by simpa using z
 subst z;exact⟨by decide +kernel,by decide +kernel,by decide +kernel⟩;cases h
noncomputable def clsAt(K:aI):Option ah:=match PySem.W.nsIn K mainGlobals "Balls"with|some (aB (.ref C))=>if xS K C then aB C else aC|_=>aC
theorem Gz{K:aI}{C:ah}(h:clsAt K=aB C):PySem.W.nsIn K mainGlobals "Balls" = aB (aB (.ref C))/\lG K C:=by
 unfold clsAt at h;split at h;rename_i C' e;split at h;rename_i hc;cases h;exact⟨e,Za hc⟩;cases h;cases h
noncomputable def dI(K:aI)(x:Str):Option ah:=match fY x with
 |some m=>(match clsAt K with
  |some C=>JQ K C m
  |none=>aC)
 |none=>(match PySem.W.nsIn K mainGlobals x with
  |some (aB (.ref f))=>aB f
  |_=>aC)
theorem zY{K:aI}{x:Str}{f:ah}(h:dI K x=aB f)(hm:fY x=aC):PySem.W.nsIn K mainGlobals x=aB (aB (.ref f)):=by
 unfold dI at h;rw[hm]at h;simp only at h;split at h;rename_i g e;cases h;exact e;cases h
theorem Zg{K:aI}{x m:Str}{f C:ah}(h:dI K x=aB f)(hm:fY x=aB m)(hc:clsAt K=aB C):Meth K C m f:=by
 unfold dI at h;rw[hm]at h;simp only[hc]at h;exact Zb h
end RF
namespace XR
open PySem PySem.Spec PyProof.Rows
section
variable{M:Model}{A:ak}{E:aa->af->Prop}{s:af}{base:az}{env:Env}{outer:List Env}{L e:ah}{c:aa}{dx:Option ah}{vs:Array aa}{sl:Array (Option aa)}
structure Nt(fs ts:List ah)(h h':az):Prop where
 keep:∀b o,h.get? b=aB o->b∉fs->b∉ts->h'.get? b=aB o
 slot:∀b o,h.get? b=aB o->b∈fs->b∉ts->∃sl,h'.get? b=aB {o with slots:=sl}
 size:h.objs.size<=h'.objs.size
theorem Nt.trans{fs ts:List ah}(a:Nt fs ts h h1)(b:Nt fs ts h1 h2):Nt fs ts h h2:=
 ⟨λx o q n m=>b.keep x o (a.keep x o q n m) n m,λx o q n m=>by
  obtain⟨s1,q1⟩:=a.slot x o q n m;obtain⟨s2,q2⟩:=b.slot x _ q1 n m;exact⟨s2,q2⟩,fS a.size b.size⟩
theorem Nt.mono{fs ts ts':List ah}(a:Nt fs ts h h')(k:∀b∈ts,b∈ts'):Nt fs ts' h h':=
 ⟨λx o q n m=>a.keep x o q n λz=>m (k x z),λx o q n m=>a.slot x o q n λz=>m (k x z),a.size⟩
theorem Nt.upd{fs:List ah}{b:ah}{f:Obj->Obj}:Nt fs [b] h (h.update b f):=by
 have k:∀x,x∉[b]->(h.update b f).get? x=h.get? x:=λx m=>wO _ _ λz=>m (by simp[z]);exact⟨λx o q _ m=>(k x m).trans q,λx o q _ m=>⟨o.slots,(k x m).trans q⟩,Fi (Heap.size_after_update ..).symm⟩
theorem Nt.push{fs ts:List ah}(a:Nt fs ts h h'):Nt fs ts h (h'.push o):=
 ⟨λx ob q n m=>cu _ (a.keep x ob q n m),λx ob q n m=>by
  obtain⟨s1,q1⟩:=a.slot x ob q n m;exact⟨s1,cu _ q1⟩,by rw[mj];exact Nat.le_succ_of_le a.size⟩
theorem P4{h:az}{b:ah}{c:aa}{dx:Option ah}{vs:Array aa}{sl:Array (Option aa)}{f:Array aa->Array aa}(q:h.get? b=aB ⟨c,dx,.fields vs,sl⟩) :
 (h.update b (Obj.mapFields f)).get? b=aB ⟨c,dx,.fields (f vs),sl⟩:=zj (Obj.mapFields f) q rfl
theorem P5{hd:aa}{more:Bool}{Q:Unit->af->Prop}(hfr:A.frames=aB (env::outer))(hl:s.heap.FunFrames base (env::outer))(hf:env.frame=aB L)
 (he:s.heap.get? e=aB ⟨c,dx,.fields vs,sl⟩) (hne:e∉(env::outer).filterMap (·.frame)) (hz:1<vs.size)
 (h:∀h' ts,Nt ((env::outer).filterMap (·.frame)) [e] s.heap h'->h'.get? e=aB ⟨c,dx,.fields (vs.setIfInBounds 1 (.ref s.heap.objs.size)),sl⟩->h'.get? s.heap.objs.size=aB ⟨.type "traceback",aC,.fields ts,#[]⟩->ts[3]?=aB (rawInt L)->Q () {s with heap:=h'}) :
 wpAny M A (do let a <-frameOf env;let pl <-entryPlaceOf L more;let b <-EntryCells.newEntry hd a .none (rawInt L) .none pl;setField (.ref e) 1 b) Q E s:=by
 refine aK (wpAny_frameOf_fun hfr hl hf λh1 so=>aK (wpAny_entryPlaceOf λpl hpl=>?_));have n1:Nt ((env::outer).filterMap (·.frame)) [e] s.heap h1:=⟨λb o q n _=>(so.2.1 b n).trans q,λb o q _ _=>so.2.2 b o q,Fi so.1.symm⟩
 have e1:h1.get? e=aB ⟨c,dx,.fields vs,sl⟩:=(so.2.1 e hne).trans he;unfold EntryCells.newEntry newFields;refine aK (uH ?_ (hpl.sizeOk5 _ _ _ _ _));refine AA (cu _ e1) rfl hz ?_;have hsz:h1.objs.size=s.heap.objs.size:=so.1;have hlt:e<h1.objs.size:=cF e1;rw[hsz];refine h _ ([hd,.ref L,.none,rawInt L,.none]++(if pl.isEmpty then bI 6 Value.none else pl)).toArray (n1.push.trans Nt.upd) (P4 (cu _ e1)) ?_ ?_;rw[wO _ _ (by rw[<-hsz];exact fj hlt),<-hsz];exact i6 _ rfl;first|(simp;done)|(rcases hpl with rfl|⟨_,_,_,_,_,_,_,rfl⟩<;>simp)
structure Ex(h:az)(e T C:ah)(dx:Option ah)(fl:Option aa):Prop where
 ex:∃vs sl,h.get? e=aB ⟨.ref C,dx,.fields vs,sl⟩/\match fl with|none=>vs[1]?=aB .none|some f=>vs[1]?=aB (.ref T)/\T≠e/\∃ts,h.get? T=aB ⟨.type "traceback",aC,.fields ts,#[]⟩/\ts[3]?=aB f
theorem note{C T:ah}{fl:Option aa}{Q:Unit->af->Prop}(hfr:A.frames=aB (env::outer))(hl:s.heap.FunFrames base (env::outer))(hf:env.frame=aB L)
 (x:Ex s.heap e T C dx fl) (hne:e∉(env::outer).filterMap (·.frame)) (hnt:T∉(env::outer).filterMap (·.frame)) (hfl:fl=aC\/fl=aB .none)
 (h:∀h',Nt ((env::outer).filterMap (·.frame)) [e,T] s.heap h'->Ex h' e s.heap.objs.size C dx (aB (rawInt L))->Q () {s with heap:=h'}):wpAny M A (noteFrame (.ref e) env) Q E s:=by
 obtain⟨vs,sl,he,hx⟩:=x.ex;unfold noteFrame;simp only[hf];rcases hfl with rfl|rfl;have h1:vs[1]?=aB .none:=hx;refine aK (jy he rfl h1 ?_);rw[if_neg (by decide)];refine P5 hfr hl hf he hne (zC.mp h1).1 λh' ts n q1 q2 q3=>h h' (n.mono λb z=>by simp at z;simp[z]) ⟨_,_,q1,?_,?_,_,q2,q3⟩;rw[Array.getElem?_setIfInBounds_self_of_lt (zC.mp h1).1];exact kW (cF he);obtain⟨h1,GA,ts,ht,h3⟩:=(show vs[1]?=aB (.ref T)/\T≠e/\∃ts,s.heap.get? T=aB ⟨.type "traceback",aC,.fields ts,#[]⟩/\ts[3]?=aB Value.none from hx)
 refine aK (jy he rfl h1 ?_);rw[if_pos (show(Value.ref T != Value.none)=true from by simp)];refine aK (jy ht rfl h3 ?_);rw[if_neg (show ¬((Value.none==rawInt L)=true)from by simp[rawInt])];refine aK (AA ht rfl (zC.mp h3).1 ?_);have n0:Nt ((env::outer).filterMap (·.frame)) [T] s.heap (s.heap.update T (Obj.mapFields (·.setIfInBounds 3 .none))):=Nt.upd;have sz:(s.heap.update T (Obj.mapFields (·.setIfInBounds 3 .none))).objs.size=s.heap.objs.size:=Heap.size_after_update ..;refine P5 (base:=base) hfr (hl.of_keeps λb o q nf=>?_) hf (n0.keep e _ he hne (by simpa using dU GA)) hne (zC.mp h1).1 λh' ts' n q1 q2 q3=>?_;by_cases hb:b=T;subst hb;rw[ht]at q;cases q;exact absurd rfl (nf ts);exact⟨o,(wO _ _ (dU hb)).trans q,rfl⟩;rw[sz]at q1 q2;refine h h' ((n0.mono λb z=>by simp at z;simp[z]).trans (n.mono λb z=>by simp at z;simp[z])) ⟨_,_,q1,?_,?_,_,q2,q3⟩;rw[Array.getElem?_setIfInBounds_self_of_lt (zC.mp h1).1];exact kW (cF he)
theorem land{C T:ah}{f:aa}{fs:List ah}{Q:Unit->af->Prop}(x:Ex s.heap e T C dx (aB f))(h:∀h',Nt fs [T] s.heap h'->Ex h' e T C dx (aB .none)->Q () {s with heap:=h'}):wpAny M A (setFlight (.ref e) aC) Q E s:=by
 obtain⟨vs,sl,he,h1,GA,ts,ht,h3⟩:=x.ex;unfold setFlight;refine aK (jy he rfl h1 ?_);rw[if_pos (show(Value.ref T != Value.none)=true from by simp)];have l3:=(zC.mp h3).1;refine AA ht rfl l3 (h _ Nt.upd ⟨vs,sl,(wO _ _ GA).trans he,h1,GA,_,P4 ht,?_⟩);rw[Array.getElem?_setIfInBounds_self_of_lt l3];rfl
theorem leave{C T:ah}{fl:Option aa}{Q:Unit->af->Prop}(hfr:A.frames=aB (env::outer))(hl:s.heap.FunFrames base (env::outer))(hf:env.frame=aB L)
 (x:Ex s.heap e T C dx fl) (hne:e∉(env::outer).filterMap (·.frame)) (hnt:T∉(env::outer).filterMap (·.frame)) (hfl:fl=aC\/fl=aB .none)
 (h:∀h',Nt ((env::outer).filterMap (·.frame)) [e,T,s.heap.objs.size] s.heap h'->Ex h' e s.heap.objs.size C dx (aB .none)->Q () {s with heap:=h'}):wpAny M A (leaving env (.ref e)) Q E s:=by
 unfold leaving;refine aK (note hfr hl hf x hne hnt hfl λh1 n1 x1=>land (fs:=(env::outer).filterMap (·.frame)) x1 λh2 n2 x2=>h h2 ((n1.mono λb z=>?_).trans (n2.mono λb z=>?_)) x2);simp at z;rcases z with z|z<;>simp[z]
 simp at z;simp[z]
end
end XR
namespace L2
open PySem PySem.Spec PyProof.Rows
noncomputable def iB(C:ah)(dx:Option ah)(a:ah):HO:=.ext λh=>∃vs sl,h.get? a=aB ⟨.ref C,dx,.fields vs,sl⟩
section
variable{P:ai}{w:aj}{H:Hp}{h:az}{a C:ah}{dx:Option ah}{vs:Array aa}{sl:Array (Option aa)}
theorem JS(e:h.get? a=aB ⟨.ref C,dx,.fields vs,sl⟩):bx P w H h a (iB C dx a):=⟨⟨vs,sl,e⟩,⟨_,e⟩,λ_ _ ⟨v',s',q⟩ k=>⟨v',s',k _ q⟩⟩
theorem Zh(ok:eF P w H h)(e:H a=aB (iB C dx a)):∃vs sl,h.get? a=aB ⟨.ref C,dx,.fields vs,sl⟩:=(ok a _ e).1
end
noncomputable def lO(P:ai)(w:aj):nB:=λouter H s E e s'=>∃x T C dx H',e=.ref x/\s'.os=s.os/\AllBare s'.gens/\Un (frs outer) [] H H' s.heap s'.heap/\eF P w H' s'.heap/\XR.Ex s'.heap x T C dx (aB .none)/\
 s.heap.objs.size<=x/\s.heap.objs.size<=T/\H' x=aB (iB C dx x)/\H' T=aC/\E (.ref C) dx H'
noncomputable def dZ(X:Cx)(E:XK)(e:aa)(s':af):Prop:=∃x T C dx fl pins σ H',e=.ref x/\Inv X pins σ H' s'/\XR.Ex s'.heap x T C dx fl/\((fl=aC/\T=x)\/(fl=aB .none/\H' T=aC))/\
 X.s₀.heap.objs.size<=x/\X.s₀.heap.objs.size<=T/\H' x=aB (iB C dx x)/\E (.ref C) dx H'
section
variable{X:Cx}{E:XK}{pins:List (ah×Obj)}{σ:St}{H:Hp}{s:af}
theorem Inv.j5{b:ah}{d:Option ah}{vs:Array aa}{sl:Array (Option aa)}(I:Inv X pins σ H s)(e:s.heap.get? b=aB ⟨c,d,.fields vs,sl⟩):b∉frs X.stack:=λhb=>by
 obtain⟨_,o,ho,nf⟩:=I.stack.mem hb;rw[e]at ho;cases ho;exact nf vs rfl
theorem Ex.j5{x T C:ah}{dx:Option ah}{fl:Option aa}(I:Inv X pins σ H s)(q:XR.Ex s.heap x T C dx fl)(h:(fl=aC/\T=x)\/(fl=aB .none/\H T=aC)):x∉frs X.stack/\T∉frs X.stack:=by
 obtain⟨vs,sl,he,r⟩:=q.ex;refine⟨I.j5 he,?_⟩;rcases h with⟨_,rfl⟩|⟨rfl,_⟩;exact I.j5 he;obtain⟨_,_,ts,ht,_⟩:=r;exact I.j5 ht
theorem eF.noted{fs ts:List ah}{x C:ah}{dx:Option ah}{vs:Array aa}{sl:Array (Option aa)}(ok:eF P w H s.heap)(n:XR.Nt fs ts s.heap h')(hf:∀b∈fs,H b=aC)(ht:∀b∈ts,b=x\/H b=aC)
 (hx:H x=aB (iB C dx x)) (e:h'.get? x=aB ⟨.ref C,dx,.fields vs,sl⟩):eF P w H h':=λb u q=>by
 by_cases hb:b=x;subst hb;rw[hx]at q;cases q;exact JS e;refine(ok b u q).stay (λc v hc k=>n.keep c v k ?_ ?_) (λ_ z=>z) λ_ _ z=>z;intro z;have:=hf c z;rcases hc with rfl|hc
 rw[q]at this;cases this;rw[hc]at this;cases this;intro z;rcases ht c z with rfl|z
 rcases hc with rfl|hc;exact hb rfl;rw[hx]at hc;cases hc;rcases hc with rfl|hc;rw[q]at z;cases z;rw[hc]at z;cases z
theorem Zi{Er:aa->af->Prop}(hs:X.stack=X.env::X.outer)(hf:X.env.frame=aB X.env.locals)(Zj:X.ex=[])(q:dZ X E e s') :
 wpAny (model X.prog X.w) X.A (leaving X.env e) (λ_ s''=>lO X.prog X.w X.outer X.H₀ X.s₀ E e s'') Er s':=by
 obtain⟨x,T,C,dx,fl,pins,σ,H',rfl,I,ex,hfl,lx,lT,hx,hE⟩:=q;obtain⟨nx,nT⟩:=Ex.j5 I ex hfl;have P6:=I.iG;have stk:=I.stack;have sub:=I.jC;rw[hs]at nx nT P6 stk sub;refine XR.leave (base:=X.base) (L:=X.env.locals) (by rw[I.ok.frames,hs]) stk hf ex nx nT (hfl.elim (λz=>.inl z.1) λz=>.inr z.1) λh' n ex'=>?_;have P7:∀b o,X.s₀.heap.get? b=aB o->b<X.s₀.heap.objs.size:=λb o q=>cF q;have sz:=I.sz;have GC:∀b o,X.s₀.heap.get? b=aB o->b∉[x,T,s'.heap.objs.size]:=λb o q z=>by
  have:=P7 b o q;simp at z;rcases z with z|z|z<;>rw[z]at this
  exact absurd lx (Nat.not_le.mpr this);exact absurd lT (Nat.not_le.mpr this);exact absurd sz (Nat.not_le.mpr this)
 have nL:∀b o,X.s₀.heap.get? b=aB o->b≠X.env.locals:=λb o q=>fj (ff (P7 b o q) I.ok.above);obtain⟨vs,sl,he,r⟩:=ex'.ex;have hb:=I.base;rw[Zj]at hb;refine⟨x,s'.heap.objs.size,C,dx,H',rfl,I.os,I.bare,⟨λb o q z hb1 hb2=>?_,λb o q z hb1 hb2=>?_,hb.free,λb o q hb2=>?_,hb.tups,hb.iu,hb.iI⟩,eF.noted I.hok n P6 (λb z=>?_) hx he,ex',lx,sz,hx,I.hok.fresh (bq _),hE⟩;refine n.keep b o (hb.keep b o q z hb1 hb2) (λm=>?_) (GC b o q);rcases gq.mp (sub b m)with m|m
 exact nL b o q m;exact hb1 m;obtain⟨s1,q1⟩:=hb.slot b o q z hb1 hb2;obtain⟨s2,q2⟩:=n.slot b _ q1 (by show b∈(X.env::X.outer).filterMap (·.frame);rw[wU,hf];exact eU _ hb1) (GC b o q);exact⟨s2,q2⟩;obtain⟨o',q1⟩:=hb.there b o q hb2;by_cases m:b∈(X.env::X.outer).filterMap (·.frame);obtain⟨s2,q2⟩:=n.slot b o' q1 m (GC b o q);exact⟨_,q2⟩;exact⟨o',n.keep b o' q1 m (GC b o q)⟩;simp at z;rcases z with rfl|rfl|rfl
 exact .inl rfl;rcases hfl with⟨_,z⟩|⟨_,z⟩
 exact .inl z;exact .inr z;exact .inr (I.hok.fresh (bq _))
theorem CY:sC (lO X.prog X.w) (X.cU (dZ X E)) E:=by
 intro pins σ H s e s' I q;obtain⟨x,T,C,dx,H',rfl,os,bare,un,hok,ex,lx,lT,hx,hT,hE⟩:=q;have I:=I.bz;obtain⟨hh,g,d,t,os'⟩:=s';obtain rfl:os'=s.os:=os;exact⟨x,T,C,dx,aB .none,pins,σ,H',rfl,I.call (h':=hh) (g':=g) (d':=d) (t':=t) (ch:=[]) un hok bare (λb z=>absurd z (by simp)),ex,.inr ⟨rfl,hT⟩,fS I.sz lx,fS I.sz lT,hx,hE⟩
theorem Zk{C:ah}{x:Str}{p cpos pos:Pos}(M:IZ X.K C)(hc:X.calm)(hg:Gl X x)(hm:X.mg x=aB (.ref C))(hdb:autoParam ((x==("__debug__" : Str))=false) L2.aD._auto_1) :
 PS (X.cU (dZ X E)) (.Raise (aB (.Call (.Name x p) [] [] cpos)) aC pos) (λ_ _ H=>∀a,H a=aC->E (.ref C) aC (upd H a (iB C aC a))):=by
 intro pins s σ H D I h;have I:=I.bz;obtain⟨nm,qn,N,bs,bm,hd,sn,sub,ab,col,dd,k0,k1,k2,k3,k5,hC,T⟩:=XL.cZ I.dM M.cls;have hb:bm.contains (.type "BaseException")=true:=T.hasType (by decide +kernel);have ev:wpAny (model X.prog X.w) X.A (eval (.Call (.Name x p) [] [] cpos) X.env) (λv s1=>∃e t,v=.ref e/\s1.heap.get? C=aB (excClassObj nm qn C N bs bm hd sn sub ab col dd k0 k1 k2 k3 k5 "ValueError.__new__")/\s1.heap.get? e=aB (XL.bg C aC t)/\dZ X E (.ref e) s1) (dZ X E) s:=by
  refine rQ (sr I hg hm ?_ hdb);refine PySem.W.callWith_K0 I.dM M.kp (XL.nF I.dM M.cls M.init (i8 _) λh' t kk he=>?_);have hle:s.heap.objs.size<=s.heap.objs.size+1:=oq _;exact⟨_,t,rfl,kk _ _ hC,he,_,_,C,aC,aC,pins,σ,_,rfl,I.laid (t':=s.toks) kk hle (JS he),⟨_,_,he,rfl⟩,.inl ⟨rfl,rfl⟩,fS I.sz hle,fS I.sz hle,eV,h _ (I.hok.fresh hle)⟩
 show wpAny (model X.prog X.w) X.A (exec (.Raise (aB (.Call (.Name x p) [] [] cpos)) aC pos) X.env) _ (dZ X E) s;rw[arm_exec_Raise];first
  |exact aK (kT (wpAny_raiseStmt_made_sub (C:=C) hb (I.ok.hd hc) (aK (bw ev λv s1 q=>aK (kT (br q))))))
  |(simp only[evalOpt,Option.map];exact aK (kT (wpAny_raiseStmt_made_sub (C:=C) hb (I.ok.hd hc) (aK (bw ev λv s1 q=>aK (kT (br q)))))))
  |(show wpAny _ _ (do standAt pos;raiseStmt X.env (aB (do let v <-eval (.Call (.Name x p) [] [] cpos) X.env;standAt pos;pure v)) aC) _ _ s;exact aK (kT (wpAny_raiseStmt_made_sub (C:=C) hb (I.ok.hd hc) (aK (bw ev λv s1 q=>aK (kT (br q)))))))
end
structure At(X:Cx)(pins:List (ah×Obj))(σ:St)(H:Hp)(s:af)(x T C:ah)(dx:Option ah)(f:aa):Prop where
 I:Inv X pins σ H s
 ex:XR.Ex s.heap x T C dx (aB f)
 hx:H x=aB (iB C dx x)
 hT:H T=aC
 lx:X.s₀.heap.objs.size<=x
 lT:X.s₀.heap.objs.size<=T
 pT:∀p∈X.pn++pins,p.1≠T
section
variable{X:Cx}{pins:List (ah×Obj)}{σ:St}{H:Hp}{s:af}{x T C:ah}{dx:Option ah}{f f':aa}
theorem Inv.mO{b:ah}{d:Option ah}{vs:Array aa}{sl:Array (Option aa)}(I:Inv X pins σ H s)(e:s.heap.get? b=aB ⟨c,d,.fields vs,sl⟩):b≠X.env.locals/\∀y c,X.env.cells.lookup y=aB c->c≠b:=by
 refine⟨?_,?_⟩;rintro rfl;obtain⟨m,⟨o,es,ep,ho,hd,_⟩,_⟩:=I.loc;rw[e]at ho;cases ho;cases hd;rintro y c' hc rfl;obtain⟨v,o,ho,hd⟩:=I.cell y c' hc;rw[e]at ho;cases ho;cases hd
theorem At.step{ts:List ah}{T':ah}(a:At X pins σ H s x T C dx f)(n:XR.Nt (frs X.stack) ts s.heap h')(hts:∀b∈ts,b=x\/b=T\/b=s.heap.objs.size)(JT:T'=T\/T'=s.heap.objs.size)
 (ex':XR.Ex h' x T' C dx (aB f')):At X pins σ H {s with heap:=h'} x T' C dx f':=by
 obtain⟨vs,sl,he,_⟩:=ex'.ex;obtain⟨Jp,sl0,P8,_,_,ts0,ht0,_⟩:=a.ex.ex;have I:=a.I;have fr:∀b,s.heap.objs.size<=b->H b=aC:=λb z=>I.hok.fresh z;have np:∀p∈X.pn++pins,p.1<s.heap.objs.size:=λp hp=>cF (I.pin p hp).1;have fx:∀b,H b=aC->b≠x:=λb z q=>by rw[q,a.hx]at z;cases z
 have un:∀b∈ts,b≠x->H b=aC:=λb hb q=>by
  rcases hts b hb with z|z|z;exact absurd z q;rw[z];exact a.hT;rw[z];exact fr _ (bq _)
 have I':Inv X pins σ H {s with heap:=h'}:=by
  refine I.call (h':=h') (g':=s.gens) (d':=s.drawn) (t':=s.toks) (ch:=ts) ⟨λb o q z hb hc=>n.keep b o q hb hc,λb o q z hb hc=>n.slot b o q hb hc,λb o q z _=>z,λb o q hc=>?_,λ_ _ q=>q,λ_ _ _ q=>q,λb ps q=>⟨#[],by rw[q];simp⟩⟩
   (eF.noted I.hok n I.iG (λb z=>?_) a.hx he) I.bare λb hb=>?_
  by_cases m:b∈frs X.stack;obtain⟨s2,q2⟩:=n.slot b o q m hc;exact⟨_,q2⟩;exact⟨o,n.keep b o q m hc⟩;by_cases q:b=x;exact .inl q;exact .inr (un b z q);rcases hts b hb with rfl|rfl|rfl
  exact⟨.inr a.lx,(I.mO P8).1,(I.mO P8).2,λp hp q=>by have:=(I.pin p hp).2.1;rw[q,a.hx]at this;cases this⟩;exact⟨.inr a.lT,(I.mO ht0).1,(I.mO ht0).2,a.pT⟩;refine⟨.inr I.sz,kW I.lt,λy c hc=>?_,λp hp=>fj (np p hp)⟩;obtain⟨v,o,ho,_⟩:=I.cell y c hc;exact fj (cF ho)
 refine⟨I',ex',a.hx,?_,a.lx,?_,?_⟩;rcases JT with rfl|rfl
 exact a.hT;exact fr _ (bq _);rcases JT with rfl|rfl
 exact a.lT;exact I.sz;rcases JT with rfl|rfl
 exact a.pT;exact λp hp=>fj (np p hp)
theorem At.noted{E:aa->af->Prop}{Q:Unit->af->Prop}(a:At X pins σ H s x T C dx .none)(hs:X.stack=X.env::X.outer)(hf:X.env.frame=aB X.env.locals)(h:∀s' T',At X pins σ H s' x T' C dx (rawInt X.env.locals)->Q () s') :
 wpAny (model X.prog X.w) X.A (noteFrame (.ref x) X.env) Q E s:=by
 obtain⟨n1,n2⟩:=Ex.j5 a.I a.ex (.inr ⟨rfl,a.hT⟩);have stk:=a.I.stack;rw[hs]at n1 n2 stk;refine XR.note (base:=X.base) (by rw[a.I.ok.frames,hs]) stk hf a.ex n1 n2 (.inr rfl) λh' n ex'=>h _ s.heap.objs.size (a.step (by rw[hs];exact n) (λb z=>?_) (.inr rfl) ex');simp at z;rcases z with z|z;exact .inl z;exact .inr (.inl z)
theorem At.lands{M:Model}{Q:Unit->af->Prop}(a:At X pins σ H s x T C dx f)(h:∀s',At X pins σ H s' x T C dx .none->Q () s'):wpAny M A (setFlight (.ref x) aC) Q E s:=
 XR.land (fs:=frs X.stack) a.ex λh' n ex'=>h _ (a.step n (λb z=>by simp at z;exact .inr (.inl z)) (.inl rfl) ex')
theorem At.of{E:XK}(I:Inv X pins σ H s)(q:lO X.prog X.w X.stack H s E e s'):∃x T C dx H',e=.ref x/\At X pins σ H' s' x T C dx .none/\E (.ref C) dx H':=by
 obtain⟨x,T,C,dx,H',rfl,os,bare,un,hok,ex,lx,lT,hx,hT,hE⟩:=q;obtain⟨hh,g,d,t,os'⟩:=s';obtain rfl:os'=s.os:=os;exact⟨x,T,C,dx,H',rfl,⟨I.call (h':=hh) (g':=g) (d':=d) (t':=t) (ch:=[]) un hok bare (λb z=>absurd z (by simp)),ex,hx,hT,fS I.sz lx,fS I.sz lT,λp hp=>fj (ff (cF (I.pin p hp).1) lT)⟩,hE⟩
noncomputable abbrev _root_.L2.Cx.hand(X:Cx)(x:ah):Cx:={X with A:=X.A.mark (aB (.ref x)),calm:=false,xe:=λ_ _=>False}
theorem Cx.Ok.hand(ok:X.Ok)(x:ah):(X.hand x).Ok:=
 ⟨ok.mod,ok.kind,ok.glob,ok.blt,ok.above,ok.inj,ok.has,ok.xj,(λz=>nomatch z),ok.frames,ok.stk,ok.zG,ok.bs,ok.oO,ok.lB,ok.lC,ok.gk,ok.rm⟩
theorem Inv.hand(I:Inv X pins σ H s)(x:ah):Inv (X.hand x) pins σ H s:=⟨I.ok.hand x,I.os,I.bare,I.base,I.loc,I.cell,I.free,I.dD,I.pin,I.hok,I.len⟩
theorem Inv.jK(ok:X.Ok)(I:Inv (X.hand x) pins σ H s):Inv X pins σ H s:=⟨ok,I.os,I.bare,I.base,I.loc,I.cell,I.free,I.dD,I.pin,I.hok,I.len⟩
theorem Inv.gone{M:Model}{A:ak}{E:aa->af->Prop}{i:Nat}{y:Str}{pos:Pos}{Q:Unit->af->Prop}(I:Inv X pins σ H s)(hN:X.N.Nodup)(hi:X.N[i]?=aB y)(hk:X.env.kindOf y=aB .local)
 (h:∀s',Inv X pins (σ.set i aC) H s'->Q () s'):wpAny M A (do bindName X.env y .none;unbindBehindTheSuite X.env y pos) Q E s:=by
 obtain⟨m,hn,hl⟩:=I.loc;have hcls:(X.env.scope.kind == .class|| (X.env.scope.kind == .module&&X.env.locals != X.env.globals))=false:=by rw[I.ok.kind];rfl
 have sj:i<σ.length:=by rw[I.len];exact(jR.mp hi).1
 refine wpAny_nameGoes_keeps hk hn hcls λh' v hn' hs=>h _ ?_;have low:∀b o,X.s₀.heap.get? b=aB o->b≠X.env.locals:=λb o e=>fj (ff (cF e) I.ok.above);refine⟨I.ok,I.os,I.bare,⟨λb o e n hb hx=>(hs.2 b (low b o e)).trans (I.base.keep b o e n hb hx),λb o e n hb hx=>?_,I.base.free,λb o e hx=>?_,I.base.tups,I.base.iu,I.base.iI⟩,⟨_,hn',λj z v' e1 e2 e3=>?_⟩,λz c e=>?_,I.free,I.dD,λp hp=>?_,λb u e=>?_,by simpa using I.len⟩;obtain⟨sl,e1⟩:=I.base.slot b o e n hb hx;exact⟨sl,(hs.2 b (low b o e)).trans e1⟩;obtain⟨o',e1⟩:=I.base.there b o e hx;exact⟨o',(hs.2 b (low b o e)).trans e1⟩;by_cases hj:j=i;subst hj;rw[qW sj]at e2;cases e2;rw[wR (dU hj)]at e2;obtain⟨u',r',q⟩:=hl j z v' e1 e2 e3;refine⟨u',r',?_⟩;rcases q with⟨k,e⟩|⟨k,c,e,w⟩
 have:z≠y:=λe=>hj (HH hN e1 (e▸hi));exact .inl ⟨k,by simp[this,e]⟩;exact .inr ⟨k,c,e,w.sameBut hs (I.sf z c e)⟩;obtain⟨w',z⟩:=I.cell z c e;exact⟨w',z.sameBut hs (I.sf _ c e)⟩;obtain⟨e,n,ne,nf,d⟩:=I.pin p hp;exact⟨(hs.2 p.1 ne).trans e,n,ne,nf,d⟩;refine(I.hok b u e).stay (λc w' hc q=>(hs.2 c ?_).trans q) (λ_ q=>q) λ_ _ q=>q;rintro rfl;have fl:=I.free;rcases hc with rfl|hc
 rw[fl]at e;cases e;rw[fl]at hc;cases hc
end
noncomputable def pO(K:aI)(C D:ah):Bool:=XL.di K C&&XL.di K D&&match K.lookup C with
 |some o=>(match o.data with
  |.cls cd=>cd.mro.contains (.ref D)
  |_=>false)
 |none=>false
section
variable{M:Model}{A:ak}{E:aa->af->Prop}{s:af}{K:aI}{C D x:ah}{oe:Obj}
theorem Zl{Q:Bool->af->Prop}(X:K.In s.heap)(hs:pO K C D)(he:s.heap.get? x=aB oe)(hc:oe.cls=.ref C)(h:Q true s):wpAny M A (excMatches (.ref x) (.ref D)) Q E s:=by
 unfold pO at hs;rw[aY,aY]at hs;obtain⟨⟨hC,hD⟩,hm⟩:=hs;obtain⟨nm,qn,N,bs,bm,hd,sn,sub,ab,col,dd,k0,k1,k2,k3,k5,oC,T⟩:=XL.cZ X hC;obtain⟨nm',qn',N',bs',bm',hd',sn',sub',ab',col',xH,k0',k1',k2',k3',k5',oD,T'⟩:=XL.cZ X hD;have c1:(Value.ref D::bm').contains (.type "BaseException")=true:=by rw[List.contains_cons,T'.hasType (X:="BaseException") (b:=true) (by decide +kernel),Fe]
 have c2:(Value.ref C::bm).contains (.ref D)=true:=by
  cases q:K.lookup C with
  |none=>rw[q]at hm;cases hm
  |some o=>
   rw[q]at hm;have:=X C o q;rw[oC]at this;cases this;exact hm
 have f:=tc_notTuple;obtain⟨hp,g,d,tk,os⟩:=s;unfold excMatches
 repeat(first
  |(with_reducible refine qP he ?_;rw[hc])
  |with_reducible refine qP oD ?_
  |(with_reducible refine vcs oD ?_;rw[c1])
  |(with_reducible refine vcs oC ?_;rw[c2])
  |wp_step)
 exact h
end
noncomputable def xU(K:aI)(D:ah)(i:Nat)(th:TS)(D0:Ends)(σ:St):XK:=λc dx H2=>∃C,c=.ref C/\pO K C D=true/\
 ∀x,H2 x=aB (iB C dx x)->th {nx:=λσ' H'=>D0.nx (σ'.set i aC) H',rt:=D0.rt,bk:=λσ' H'=>D0.bk (σ'.set i aC) H',ct:=λσ' H'=>D0.ct (σ'.set i aC) H'} (σ.set i (aB (.ref x))) H2
noncomputable def JU(K:aI)(D:ah)(i:Nat)(sp:Sp)(ta:TA)(th:TS):TS:=λD0 σ H=>ta σ H λvs H1=>sp vs H1 (λ_ H2=>D0.nx σ H2) (xU K D i th D0 σ)
section
variable{X:Cx}
theorem Zm{k i:Nat}{fa D:ah}{fd:au}{ps:List Str}{sp:Sp}{f xb n:Str}{p cpos epos tp hpos pos:Pos}{e:ao}{es:List ao}{b0:aq}{suite:List aq}{ta:TA}{th:TS}
 (hs:X.stack=X.env::X.outer) (hf:X.env.frame=aB X.env.locals) (F:bU X.prog X.w X.K X.mg X.base (lO X.prog X.w) k fa fd ps sp) (hr:bG k X.A) (hg:Gl X f) (hm:X.mg f=aB (.ref fa)) (hk:PySem.W.keepIn X.K (.ref fa)) (hb:Binds X.K fd ps [])
 (ha:PA X.eH (e::es) ta) (JV:Gl X xb) (hmb:X.mg xb=aB (.ref D)) (hN:X.N.Nodup) (hi:X.N[i]?=aB n) (hl:X.env.kindOf n=aB .local) (hx:Loc X.env.scope n) (hfn:X.fn n=true)
 (hh:∀x,gu (X.hand x) (b0::suite) th) (hdb:autoParam ((f==("__debug__" : Str))=false) L2.aD._auto_1) (xV:autoParam ((xb==("__debug__" : Str))=false) L2.aD._auto_1)
 (he:autoParam (starEach (e::es) X.env=(false,eval e X.env)::starEach es X.env) L2.aR._auto_1) (hpl:autoParam ((backTo cpos (starEach es X.env)).any (·.1)=false) L2.aR._auto_1) (hsw:autoParam (swapsWith (.Call (.Name f p) (e::es) [] cpos) aC epos.line X.env=pure false) L2.aR._auto_1) :
 PS X (.Try [.Expr (.Call (.Name f p) (e::es) [] cpos) epos] [.ExceptHandler (aB (.Name xb tp)) (aB n) (b0::suite) hpos] [] [] pos) (JU X.K D i sp ta th):=by
 intro pins s σ H D0 I h;refine wpAny_Try_except (wpAny_execs_cons (wpAny_Expr_any ?_ I.quiet hsw));refine rQ (sr I hg hm ?_ hdb);refine zA (h₀:=X.base) I.ok.mod.se hk (iF (ha cpos pins s σ H _ (I.cU _) h) (λus s1 z9=>z9.el λvs H1 I1 r q=>?_) λ_ _ z=>z.elim) he hpl;have I1:=I1.bz;refine⟨I1.dM,?_⟩;have len:us.length=ps.length:=by rw[<-r.length];exact F.len _ _ _ _ q
 have hb1:=hb s1 us I1.dM (by rw[i7];exact len);rw[i7]at hb1;refine qS (uI (F.run X.A X.stack s1 H1 ⟨us,[]⟩ us vs (λ_ H2=>D0.nx σ H2) (xU X.K D i th D0 σ) hr I1.oW hb1 r q) λres s' hq=>?_);cases res with
 |ok fl=>
  cases fl with
  |ret u=>
   obtain⟨v,H2,I2,_,q2⟩:=I1.after hq;exact zf (zf ⟨σ,H2,I2,q2⟩)
  |next=>exact False.elim hq
  |brk=>exact False.elim hq
  |cont=>exact False.elim hq
 |error er=>
  obtain⟨x,T,C,dx,H2,rfl,a,C',hc',sb,Zn⟩:=At.of (E:=xU X.K D i th D0 σ) I1 hq;cases hc';refine a.noted hs hf λs2 T2 a2=>a2.lands λs3 a3=>?_;refine wpAny_handleBy_cons (codeAny_handlers_test ?_) (by intro z;cases z);have I3:=a3.I.hand x;refine sr (X:=X.hand x) I3 JV hmb ?_ xV;obtain⟨vs3,sl3,Zo,_⟩:=a3.ex.ex;refine Zl a3.I.dM sb Zo rfl ?_;refine codeAny_handlers_suite_as (a3.lands λs4 a4=>?_);refine FP (X:=X.hand x) (a4.I.hand x) hN hi hx (v:=.ref x) rfl (λs5 I5=>?_) (.inl hfn);refine iF (hh x pins s5 _ H2 _ I5 (Zn x a4.hx)) (λfl s6 q6=>?_) λ_ _ z=>z.elim;cases fl with
  |next=>
   obtain⟨σ',H',I',q'⟩:=q6;exact(I'.jK I.ok).gone hN hi hl λs7 I7=>⟨_,H',I7,q'⟩
  |brk=>
   obtain⟨σ',H',I',q'⟩:=q6;exact(I'.jK I.ok).gone hN hi hl λs7 I7=>⟨_,H',I7,q'⟩
  |cont=>
   obtain⟨σ',H',I',q'⟩:=q6;exact(I'.jK I.ok).gone hN hi hl λs7 I7=>⟨_,H',I7,q'⟩
  |ret u=>
   obtain⟨v,σ',H',I',r',q'⟩:=q6;exact(I'.jK I.ok).gone hN hi hl λs7 I7=>⟨v,_,H',I7,r',q'⟩
end
structure cg(k:Nat)(A:ak):Prop where
 dp:A.depth+k+2<recursionLimit
 un:A.units+4*k+100<cLine
theorem bG.h2{k:Nat}(r:bG k A):cg 2 A:=⟨by have:=r.dp;lia,by have:=r.un;lia⟩
theorem bG.h{k:Nat}{v:Option aa}(r:bG k A):cg 2 (A.mark v):=⟨r.h2.dp,r.h2.un⟩
noncomputable abbrev CZ(A:ak):ak:={A with handled:=aC}
theorem cg.depth{k:Nat}(r:cg k A):A.depth<recursionLimit:=by have:=r.dp;lia
theorem cg.deeper{k:Nat}(r:cg (k+1) A)(env:Env):cg k (A.deeper env):=
 ⟨by have:=r.dp;show A.depth+1+k+2<_;lia,by have:=r.un;show A.units+3+4*k+100<_;lia⟩
structure eg(P:ai)(w:aj)(K:aI)(mg:Str->Option aa)(base:az)(k:Nat)(f:ah)(fd:au)(ps:List Str)(sp:List V->Hp->VK->Prop):Prop where
 len:∀vs H Q,sp vs H Q->vs.length=ps.length
 run:∀(A:ak)(outer:List Env)(s:af)(H:Hp)(args:Args)(us:List aa)(vs:List V)(Q:VK),cg k A->j8 P w K mg base A outer s H->BindsTo s fd args (ps.zip us)->Vals vs us->sp vs H Q->
  codeAny (model P w) A (.call (.ref f) args) (CR jb outer P w H s Q E0) s
noncomputable abbrev C0(P:ai)(w:aj)(K:aI)(mg:Str->Option aa)(base:az)(N:List Str)(qual:Str)(scope:ay)(f:ah)(cd:aa)(A:ak)(outer:List Env)(s:af)(H:Hp):Cx:=
 {gK jb P w K mg base N qual scope f cd A outer s H E0 with calm:=false,xe:=λ_ _=>False}
theorem P9{P:ai}{w:aj}{K:aI}{mg:Str->Option aa}{base:az}{k:Nat}{f:ah}{name qual:Str}{params:Arguments}{body:List aq}{scope:ay}{dV kV doc pm cdv ct oc:aa}{an od:Option ah}
 {osl:Array (Option aa)} {N ps:List Str} {sp:List V->Hp->VK->Prop} (lk:K.lookup f=aB ⟨oc,od,.func (PySem.W.fnOf name qual params body scope dV kV doc pm an cdv ct),osl⟩) (hcd:PySem.W.codeIn K cdv qual) (S:bY N ps scope)
 (len:∀vs H Q,sp vs H Q->vs.length=ps.length)
 (hbody:∀(A:ak)(outer:List Env)(s:af)(H:Hp)(vs:List V)(Q:VK),cg k (A.deeper (envOfC qual scope s.heap.objs.size f cdv))->sp vs H Q->
   ∃t,gu (C0 P w K mg base N qual scope f cdv A outer s H) body t/\t {nx:=λ_ H'=>Q .aG H',rt:=Q} (start N vs) H) :
 eg P w K mg base (k+1) f (PySem.W.fnOf name qual params body scope dV kV doc pm an cdv ct) ps sp:=by
 refine⟨len,λA outer s H args us vs Q hr e0 hb r j9=>?_⟩;have hl:=len _ _ _ j9;have KX:K.In s.heap:=e0.mod.se.keeps λb o e=>(e0.bs b o e).1;have lim:s.heap.NoLimit:=e0.mod.nolimit.keeps λb o e=>(e0.bs b o e).1;have hkind:∀y∈ps.zip us,scope.names.lookup y.1=aB .local\/(scope.names.lookup y.1=aB .cell/\((cellsFrom (s.heap.objs.size+1) scope.names []).lookup y.1).isSome):=λcR hy=>by
  obtain⟨n,v⟩:=cR;rcases S.par n (Fo hy).1 with q|q;exact .inl q;exact .inr ⟨q,PySem.W.cellsFrom_some _ _ _ (.inl q)⟩
 refine codeAny_call_function hr.depth (KX _ _ lk) rfl S.co S.gen rfl (PySem.W.codeRec_of KX hcd) (hb _ _ _ _ ?_);refine wpAny_newFunctionEnv_cells S.kind hkind λenv he s1 x=>?_;subst he;refine⟨lim.keeps x.toInCall.keep,codeAny_func ?_⟩;obtain⟨t,ht,hq⟩:=hbody A outer s H vs Q (hr.deeper _) j9;have J:Inv (gK jb P w K mg base N qual scope f cdv (CZ A) outer s H E0) [] (start N vs) H s1:=NQ S rfl ⟨e0.frames,e0.mod,e0.bs,e0.oO,e0.gk,e0.rm,e0.hok,e0.bare⟩ hl r x;have ok:=J.ok;have I:Inv (C0 P w K mg base N qual scope f cdv A outer s H) [] (start N vs) H s1:=
  ⟨⟨ok.mod,ok.kind,ok.glob,ok.blt,ok.above,ok.inj,ok.has,ok.xj,(λz=>nomatch z),ok.frames,ok.stk,ok.zG,ok.bs,ok.oO,ok.lB,ok.lC,ok.gk,ok.rm⟩,J.os,J.bare,J.base,J.loc,J.cell,J.free,J.dD,J.pin,J.hok,J.len⟩
 refine iF (ht [] s1 (start N vs) H _ I hq) (λfl s' hs=>?_) λe s' hs=>hs.elim;have fin:∀{σ':St}{H':Hp}{v:V}{u:aa},Inv (C0 P w K mg base N qual scope f cdv A outer s H) [] σ' H' s'->RelV v u->Q v H'->CE outer P w H s Q u s':=
  λ{σ' H' v u} J rv q=>⟨v,H',J.os,J.bare,J.base,J.hok,rv,q⟩
 cases fl with
 |ret u=>
  obtain⟨v,σ',H',J,rv,q⟩:=hs;exact fin J rv q
 |next=>
  obtain⟨σ',H',J,q⟩:=hs;exact fin (v:=V.aG) (u:=Value.none) J rfl q
 |brk=>
  obtain⟨_,_,_,q⟩:=hs;exact False.elim q
 |cont=>
  obtain⟨_,_,_,q⟩:=hs;exact False.elim q
section
variable{X:Cx}{k:Nat}{f:ah}{fd:au}{ps:List Str}{sp:List V->Hp->VK->Prop}{x:Str}{p pos:Pos}{e:ao}{es:List ao}{t:TA}
theorem Qa(F:eg X.prog X.w X.K X.mg X.base k f fd ps sp)(hr:cg k X.A)(hg:Gl X x)(hm:X.mg x=aB (.ref f))(hk:PySem.W.keepIn X.K (.ref f))(hb:Binds X.K fd ps [])
 (ha:PA X (e::es) t) (hdb:autoParam ((x==("__debug__" : Str))=false) L2.aD._auto_1) (he:autoParam (starEach (e::es) X.env=(false,eval e X.env)::starEach es X.env) L2.aR._auto_1) (hpl:autoParam ((backTo pos (starEach es X.env)).any (·.1)=false) L2.aR._auto_1) :
 PE X (.Call (.Name x p) (e::es) [] pos) (λσ H Q=>t σ H λvs H1=>sp vs H1 Q):=by
 intro pins s σ H Q I h;refine rQ (sr I hg hm ?_ hdb);refine zA (h₀:=X.base) I.ok.mod.se hk (bw (ha pos pins s σ H _ I h) λus s1 z9=>z9.el λvs H1 I1 r q=>⟨I1.dM,?_⟩) he hpl;have len:us.length=ps.length:=by rw[<-r.length];exact F.len _ _ _ q
 have hb1:=hb s1 us I1.dM (by rw[i7];exact len);rw[i7]at hb1;refine qS (uI (F.run X.A X.stack s1 H1 ⟨us,[]⟩ us vs Q hr I1.oW hb1 r q) λres s' hq=>?_);cases res with
 |error er=>exact False.elim hq
 |ok fl=>
  cases fl with|ret u=>exact I1.after hq|next=>exact False.elim hq|brk=>exact False.elim hq|cont=>exact False.elim hq
end
end L2
namespace RF
open PySem PySem.Spec PyProof.Rows L2
noncomputable def Hx(H H':Hp):Prop:=∀a o,H a=aB o->H' a=aB o
theorem Hx.refl:Hx H H:=λ_ _ q=>q
theorem Hx.trans(a:Hx H H1)(b:Hx H1 H2):Hx H H2:=λx o q=>b x o (a x o q)
theorem Hx.new{p:ah}(hp:H p=aC):Hx H (upd H p o):=λa u q=>by
 rw[bR (λz=>by rw[z,hp]at q;cases q)];exact q
end RF
namespace L2
open PySem PySem.Spec PyProof.Rows
noncomputable def C1(dx:Option ah)(H:Hp):Prop:=∀d,dx=aB d->∃fs,H d=aB (rD fs d)
noncomputable def tw(C a:ah)(H:Hp):Prop:=∃dx,H a=aB (iB C dx a)/\C1 dx H
theorem tw.mono{C a:ah}(h:tw C a H)(k:RF.Hx H H'):tw C a H':=by
 obtain⟨dx,q,d⟩:=h;exact⟨dx,k _ _ q,λe z=>let⟨fs,y⟩:=d e z;⟨fs,k _ _ y⟩⟩
noncomputable def xW(C:ah)(E:XK)(H:Hp):Prop:=∀H' dx a,RF.Hx H H'->H' a=aB (iB C dx a)->C1 dx H'->E (.ref C) dx H'
theorem xW.plain{C:ah}{E:XK}(h:xW C E H):∀a,H a=aC->E (.ref C) aC (upd H a (iB C aC a)):=λa ha=>h _ aC a (.new ha) eV λ_ z=>nomatch z
section
variable{M:Model}{A:ak}{E:aa->af->Prop}{env:Env}{s:af}
variable{nm q:Str}{C N:ah}{bs bm:List aa}{hdct:Bool}{sn:List Str}{sub:List aa}{ab:Bool}{col:Option Bool}{dd:Option ah}{k0 k1 k2 k3 k5:Option aa}{nw:String}
theorem JW{x:Sem aa}{Q:Flow->af->Prop}(hb:bm.contains (.type "BaseException"))(hh:A.handled=aC)
 (h:wpAny M A x (λv z=>∃e t dx,v=.ref e/\z.heap.get? C=aB (excClassObj nm q C N bs bm hdct sn sub ab col dd k0 k1 k2 k3 k5 nw)/\z.heap.get? e=aB (XL.bg C dx t)/\E (.ref e) z) E s) :
 wpAny M A (raiseStmt env (aB x) aC) Q E s:=by
 have hB:(Value.ref C::bm).contains (.type "BaseException")=true:=by rw[List.contains_cons,hb,Fe]
 unfold raiseStmt;refine aK (iF h (λv z y=>?_) λ_ _ y=>y);obtain⟨e,t,dx,rfl,hC,he,hE⟩:=y;obtain⟨hp,g,d,tk,os⟩:=z;unfold XL.bg at he
 repeat(first
  |with_reducible refine qP he ?_
  |with_reducible refine qP hC ?_
  |(with_reducible refine vcs hC ?_;rw[hB])
  |wp_step)
 exact wpAny_raiseNew_none hh hE
end
noncomputable def GD(C:ah):List V->Hp->VK->Prop:=λvs H Q=>∃a x y,vs=[.ref a,x,y]/\H a=aB (iz C aC a)/\
 ∀dx fs H',H dx=aC->H' a=aB (iz C (aB dx) a)->H' dx=aB (rD fs dx)->(∀b o,b≠a->H b=aB o->H' b=aB o)->Q .aG H'
theorem cg.make{k:Nat}(r:cg (k+1) A)(C:ah)(us:List aa):cg k (A.under (.builtin "type.__call__" ⟨.ref C::us,[]⟩)):=
 ⟨by have:=r.dp;rw[NH];lia,by have:=r.un;rw[NI];lia⟩
section
variable{X:Cx}{E:XK}{C f:ah}{fd:au}{ps:List Str}{x:Str}{p cpos pos:Pos}{e:ao}{es:List ao}{t:TA}
theorem Zp(M:I0 X.K C f)(F:eg X.prog X.w X.K X.mg X.base 1 f fd ps (GD C))(hr:cg 2 X.A)(hb:Binds X.K fd ps [])(hc:X.calm)(hg:Gl X x)(hm:X.mg x=aB (.ref C))(ha:PA X.eH (e::es) t)
 (hdb:(x==("__debug__" : Str))=false) (he:starEach (e::es) X.env=(false,eval e X.env)::starEach es X.env) (hpl:(backTo cpos (starEach es X.env)).any (·.1)=false) :
 PS (X.cU (dZ X E)) (.Raise (aB (.Call (.Name x p) (e::es) [] cpos)) aC pos) (λ_ σ H=>t σ H λvs H1=>vs.length=2/\xW C E H1):=by
 intro pins s σ H D I h;have I:=I.bz;obtain⟨nm,qn,N,bs,bm,hd,sn,sub,ab,col,dd,k0,k1,k2,k3,k5,hC,T⟩:=XL.cZ I.dM M.cls;have hB:bm.contains (.type "BaseException")=true:=T.hasType (by decide +kernel);obtain⟨oC,hK⟩:∃o,X.K.lookup C=aB o:=by
  cases z:X.K.lookup C with
  |some o=>exact⟨o,rfl⟩
  |none=>
   have:=M.cls;unfold XL.di at this;simp[z]at this
 have eC:oC=excClassObj nm qn C N bs bm hd sn sub ab col dd k0 k1 k2 k3 k5 "ValueError.__new__":=by
  have:=I.dM C oC hK;rw[hC]at this;cases this;rfl
 subst eC;have ev:wpAny (model X.prog X.w) X.A (eval (.Call (.Name x p) (e::es) [] cpos) X.env) (λv s1=>∃e t dx,v=.ref e/\s1.heap.get? C=aB (excClassObj nm qn C N bs bm hd sn sub ab col dd k0 k1 k2 k3 k5 "ValueError.__new__")/\s1.heap.get? e=aB (XL.bg C dx t)/\dZ X E (.ref e) s1) (dZ X E) s:=by
  refine rQ (sr I hg hm ?_ hdb);refine zA (h₀:=X.base) I.ok.mod.se M.kp (iF (ha cpos pins s σ H _ (I.cU _) h) (λus s1 z9=>z9.el λvs H1 I1 r ⟨hz,q⟩=>?_) λ_ _ z=>z.elim) he hpl;have I1:=I1.bz;refine⟨I1.dM,?_⟩;have hle:s1.heap.objs.size<=s1.heap.objs.size+1:=oq _;have hfr:H1 (s1.heap.objs.size+1)=aC:=I1.hok.fresh hle;have e2:((s1.heap.push {cls:=.type "tuple",data:=.seq us.toArray}).push (XL.bg C aC s1.heap.objs.size)).get? (s1.heap.objs.size+1)=aB (XL.bg C aC s1.heap.objs.size):=by
   have:=i6 (s1.heap.push {cls:=.type "tuple",data:=.seq us.toArray}) (o:=XL.bg C aC s1.heap.objs.size) rfl
   rwa [mj]at this
  have I2:Inv X pins σ (upd H1 (s1.heap.objs.size+1) (iz C aC (s1.heap.objs.size+1))) {s1 with heap:=(s1.heap.push {cls:=.type "tuple",data:=.seq us.toArray}).push (XL.bg C aC s1.heap.objs.size)}:=
   I1.laid (t':=s1.toks) (λb u q=>cu _ (cu _ q)) hle (Ow e2)
  have r2:Vals (V.ref (s1.heap.objs.size+1)::vs) (Value.ref (s1.heap.objs.size+1)::us):=.cons rfl r;obtain⟨v1,v2,rfl⟩:∃v1 v2,vs=[v1,v2]:=by
   match vs,hz with|[a,b],_=>exact⟨a,b,rfl⟩
  have hq:GD C [.ref (s1.heap.objs.size+1),v1,v2] (upd H1 (s1.heap.objs.size+1) (iz C aC (s1.heap.objs.size+1))) (λv H2=>v=.aG/\∃dx fs,H1 dx=aC/\dx≠s1.heap.objs.size+1/\H2 (s1.heap.objs.size+1)=aB (iz C (aB dx) (s1.heap.objs.size+1))/\H2 dx=aB (rD fs dx)/\RF.Hx H1 H2):=
   ⟨_,v1,v2,rfl,eV,λdx fs H' d1 d2 d3 d4=>by
    have hne:dx≠s1.heap.objs.size+1:=λz=>by rw[z,eV]at d1;cases d1
    rw[bR hne]at d1;exact⟨rfl,dx,fs,d1,hne,d2,d3,λb o z=>by
     have hbn:b≠s1.heap.objs.size+1:=λy=>by rw[y,hfr]at z;cases z
     exact d4 b o hbn (by rw[bR hbn];exact z)⟩⟩
  have hl:(Value.ref (s1.heap.objs.size+1)::us++[]).length=ps.length:=by
   rw[i7,<-r2.length];exact F.len _ _ _ hq
  have hb2:=hb _ (Value.ref (s1.heap.objs.size+1)::us) I2.dM hl;rw[i7]at hb2;refine qS (XL.nD I1.dM M.cls M.init (jY.mp M.fn) (by show us.length<=sizeLine;rw[<-r.length];show 2<=sizeLine;decide) (uI (F.run _ X.stack _ _ ⟨Value.ref (s1.heap.objs.size+1)::us,[]⟩ (Value.ref (s1.heap.objs.size+1)::us) _ _ (hr.make C us)
   (I2.oW.make C us []) hb2 r2 hq) λr s' hq'=>?_))
  cases r with
  |error e=>exact False.elim hq'
  |ok fl=>
   cases fl with
   |ret u=>
    obtain⟨v,H',I3,rv,ev,dx,fs,g1,g2,g3,g4,g5⟩:=I2.after hq';subst ev;obtain⟨tt,ht⟩:=IY I3.hok g3;have I4:Inv X pins σ (upd H' (s1.heap.objs.size+1) (iB C (aB dx) (s1.heap.objs.size+1))) s':=
     I3.write (h':=s'.heap) (t':=s'.toks) (x:=s1.heap.objs.size+1) (e:=s1.heap.objs.size+1) (by rw[g3];exact True.intro) (.inl rfl) (λb u _ z=>z) ⟨_,ht⟩ (JS ht)
    refine⟨rv,_,tt,aB dx,rfl,I3.dM _ _ hK,ht,_,_,C,aB dx,aC,pins,σ,_,rfl,I4,⟨_,_,ht,rfl⟩,.inl ⟨rfl,rfl⟩,fS I1.sz hle,fS I1.sz hle,eV,?_⟩;refine q _ (aB dx) _ (λb o z=>?_) eV λd hd=>?_;have hbn:b≠s1.heap.objs.size+1:=λy=>by rw[y,hfr]at z;cases z
    rw[bR hbn];exact g5 b o z;cases hd;exact⟨fs,by rw[bR g2];exact g4⟩
   |next=>exact False.elim hq'
   |brk=>exact False.elim hq'
   |cont=>exact False.elim hq'
 show wpAny (model X.prog X.w) X.A (exec (.Raise (aB (.Call (.Name x p) (e::es) [] cpos)) aC pos) X.env) _ (dZ X E) s;rw[arm_exec_Raise];first
  |exact aK (kT (JW (C:=C) hB (I.ok.hd hc) (aK (bw ev λv s1 q=>aK (kT (br q))))))
  |(simp only[evalOpt,Option.map];exact aK (kT (JW (C:=C) hB (I.ok.hd hc) (aK (bw ev λv s1 q=>aK (kT (br q)))))))
  |(show wpAny _ _ (do standAt pos;raiseStmt X.env (aB (do let v <-eval (.Call (.Name x p) (e::es) [] cpos) X.env;standAt pos;pure v)) aC) _ _ s;exact aK (kT (JW (C:=C) hB (I.ok.hd hc) (aK (bw ev λv s1 q=>aK (kT (br q)))))))
end
theorem PS.zZ{E:XK}{st:aq}(h:PS (X.cU (dZ X E)) st t)(k:∀e s,dZ X E e s->X.xe e s):PS X st t:=λpins s σ H D I hw=>
 iF (h pins s σ H D (I.cU _) hw) (λ_ _ z=>SP.bz z) k
theorem PI.eH{t:TI}(h:PI X.eH tg it t):PI X tg it t:=λpins s σ H R I hw=>
 iF (h pins s σ H R (I.cU _) hw) (λv s1 q=>iF q (λitv s2 ⟨i,fp,tn,J,H',e,I',T,t0,f0,r⟩=>⟨i,fp,tn,J,H',e,I'.bz,T,t0,f0,r⟩) λ_ _ z=>z.elim) λ_ _ z=>z.elim
theorem PG.eH(h:PG X.eH tg t):PG X tg t:=λpins s σ H v u Q I r hw=>
 iF (h pins s σ H v u Q (I.cU _) r hw) (λ_ _ ⟨σ',H',I',q⟩=>⟨σ',H',I'.bz,q⟩) λ_ _ z=>z.elim
theorem PA.eH(h:PA X.eH es t):PA X es t:=λpos pins s σ H Q I hw=>
 iF (h pos pins s σ H Q (I.cU _) hw) (λ_ _ ⟨vs,H',I',r,q⟩=>⟨vs,H',I'.bz,r,q⟩) λ_ _ z=>z.elim
section
variable{X:Cx}
noncomputable def Zq(K:aI):V->List V->Hp->VK->Prop:=λx vs H Q=>∃p xs y ds d j e,x=.ref p/\vs=[y]/\cM K H p xs/\kY K (λ_=>False) H xs ds/\Rp K (λ_=>False) H y d/\ds.all SeqAt.shaped=true/\SeqAt.shaped d=true/\
 ds[j]?=aB e/\PyData.eqv e d=true/\(∀(m:Nat)(e:aA),m<j->ds[m]?=aB e->PyData.eqv e d=false)/\(j:Int)<2 ^ 63-1/\Q (.int (j:Nat)) H
theorem Zr(hu:X.A.in1.units+64<cLine):F7 X "list.index" (Zq X.K):=by
 intro pins s σ H x vs v us Q I rx rv h;obtain⟨p,xs,y,ds,d,j,ej,rfl,rfl,hq,r1,r2,s1,s2,hj,Zs,Zt,hsm,q⟩:=h;cases rx;obtain⟨u,rfl,ru⟩:=rv.one;obtain⟨bs,rb⟩:=r2.reads I ru;obtain⟨its,r,pl,hz⟩:=I.list hq;obtain⟨as,ra⟩:=r1.reads I r;obtain⟨⟨c,dd,dt,sl⟩,n,e1,e2,e4,e3⟩:=pl
 replace e2:c=.type "list":=e2
 replace e3:dt=.seq its.toArray n:=e3;subst e2 e3;have len:its.length=ds.length:=xE ra;have hjl:j<its.toArray.size:=by rw[fL,len];exact(jR.mp hj).1
 have at':∀(m:Nat)(hm:m<its.toArray.size),its[m]?=aB its.toArray[m]:=λm hm=>by
  rw[jS (by simpa using hm)];rfl
 refine uJ PySem.F.slot_list_index ⟨_,e1,rfl⟩ PySem.F.entry_list_index (PySem.F.args_list_index_2 _ _) (SeqAt.list_indexAt p its.toArray n dd sl u (dO its ds d) j hjl hsm ?_ λm hm hlt=>?_) ⟨e1,λw hw=>zP ?_ ra rb s1 s2 w (by simpa using hw),?_⟩;rw[Jj ra s1 (at' j hjl) hj];exact Zs;have hm':m<ds.length:=by rw[<-len];simpa using hm
 rw[Jj ra s1 (at' m hm) (jS hm')];exact Zt m _ hlt (jS hm');exact hu;exact⟨.int _,H,I.tok _,⟨_,rfl⟩,q⟩
noncomputable def JX(K:aI)(c:aa)(cv:V):List V->Hp->VK->Prop:=λxs H Q=>∃a C b,xs=[.ref a,cv]/\tw C a H/\XL.jE K C/\PySem.W.kitOne K (.ref C) c=aB b/\Q (.bl b) H
theorem Zu(hc:pq cv=aB c):dF X (.builtin "isinstance") (JX X.K c cv):=by
 intro pins s σ H xs us Q I r h;obtain⟨a,C,b,rfl,ea,kk,e,q⟩:=h;obtain⟨u,u2,rfl,rx,rc⟩:=vals2 r;have e2:u2=c:=by
  cases cv with|ty n=>cases hc;exact rc|ref a=>cases hc;exact rc|_=>cases hc
 subst e2;obtain rfl:u=Value.ref a:=rx;obtain⟨dx,ea,hd⟩:=ea;obtain⟨vs,sl,ht⟩:=Zh I.hok ea;have hin:∃od,PySem.W.InstAt s.heap a ⟨.ref C,dx,.fields vs,sl⟩ C od:=by
  cases dx with
  |none=>exact⟨aC,ht,rfl,rfl,trivial⟩
  |some d=>
   obtain⟨fs,ed⟩:=hd d rfl;obtain⟨mA,n1,_⟩:=Oz I.hok ed;obtain⟨od,hod,_⟩:=Ik n1;exact⟨aB od,ht,rfl,rfl,hod⟩
 obtain⟨od,hin⟩:=hin;exact mq (XL.o9 (od:=od) kk) I.dM hin e (λz=>nomatch z) λtk=>⟨.bl b,H,I.tok _,rfl,q⟩
end
end L2
namespace RF
open PySem PySem.Spec PyProof.Rows L2
noncomputable def C2(C:ah)(z:Str):List V->Hp->VK->Prop:=λvs H Q=>∃a,vs=[.ref a]/\tw C a H/\∀H',Hx H H'->Q (.str z) H'
section
variable{K:aI}{m m':Nat->ah}{n:Nat}{h h':VH}{H H':Hp}
theorem Rel.hx(r:Rel K m h H)(k:Hx H H'):bS m h.n H m h.n H'/\Rel K m h H':=by
 have st:bS m h.n H m h.n H':=⟨bq _,λ_ _=>rfl,λj a b=>absurd b (jQ.mpr a),λj k a b=>absurd b (jQ.mpr a),λb vs q=>k _ _ q,λb o t q=>k _ _ q,λb o nb q=>k _ _ q⟩
 refine⟨st,⟨λj hj=>?_,r.inj,r.len⟩⟩;obtain⟨o',h1,h2⟩:=r.obj j hj;obtain⟨u',h3⟩:=h2.some;exact⟨o',h1,gA.stp st (by rw[h3];exact k _ _ h3) h2⟩
noncomputable def JY(K:aI)(m:Nat->ah)(n:Nat)(H:Hp)(C:ah)(h':VH)(E:XK):Prop:=∀H' m',bS m n H m' h'.n H'->Rel K m' h' H'->xW C E H'
noncomputable def tD(K:aI)(m:Nat->ah)(n:Nat)(H:Hp)(w:W)(h':VH)(Q:VK)(E:XK):Prop:=match w with|.tup [x]=>aR K m n H x h' Q|.int i=>JY K m n H i.toNat h' E|_=>False
noncomputable def tE(K:aI)(np:Nat)(g:List W->VH->Res W):Sp:=λvs H Q E=>vs.length=np/\∃h m ws w h',Rel K m h H/\aE K m h.n H vs ws/\g ws h=.ok w h'/\tD K m h.n H w h' Q E
noncomputable def JZ(K:aI)(m:Nat->ah)(n:Nat)(H:Hp)(Q:VK)(E:XK)(w:W):Prop:=match w with|.tup [x]=>∀v,aL K m n H v x->Q v H|.int i=>xW i.toNat E H|_=>False
noncomputable abbrev Rx(K:aI)(E:XK):sV:=λm n H Q w=>JZ K m n H Q E w
end
noncomputable def fG:S->Bool|.seq a b=>fG a&&fG b|.ite _ a b=>fG a&&fG b|.for _ _ _ b=>fG b|.zR _ b=>fG b|.ret _=>false|.nI _ _ _=>false|.jc ..=>false|_=>true
noncomputable def J0:Fl->Bool|.rt _=>true|_=>false
noncomputable def gC(r:Res Fl):Prop:=∀fl h',r=.ok fl h'->J0 fl=false
theorem gC.bind{α:Type}{r:Res α}{f:α->VH->Res Fl}(k:∀a h,gC (f a h)):gC (r.bind f):=λfl h' e=>bO e λa h1 _ e2=>k a h1 fl h' e2
theorem gC.no:gC .no:=λ_ _ e=>nomatch e
theorem gC.of{o:Option En}:gC (.of (o.map .nx) h):=λfl h' e=>by
 obtain⟨e,_⟩:=of_ok e;cases o with|none=>cases e|some ρ=>cases e;rfl
theorem gC.nx{ρ:En}:gC (.ok (.nx ρ) h):=λ_ _ e=>by cases e;rfl
theorem J2{nx:Nat->VH->Option (Option W)}{tg:W->VH->En->Option En}{b:En->VH->Res Fl}(hb:∀ρ h,gC (b ρ h)):∀(f i:Nat) (ρ:En) (h:VH),gC (fm nx tg b f i ρ h)
 |0,_,_,_=>.no
 |f+1,i,ρ,h=>by
  simp only[fm];split;exact .no;exact .nx;split;exact .no;intro fl h' e;refine bO e λnQ h1 e1 e2=>?_;have:=hb _ _ nQ h1 e1;cases nQ with|nx ρ=>exact J2 hb f _ _ _ fl h' e2|ct ρ=>exact J2 hb f _ _ _ fl h' e2|bk ρ=>cases e2;rfl|rt w=>cases this
theorem J4{c:En->VH->Res W}{b:En->VH->Res Fl}(hb:∀ρ h,gC (b ρ h)):∀(f:Nat) (ρ:En) (h:VH),gC (fE c b f ρ h)
 |0,_,_=>.no
 |f+1,ρ,h=>by
  simp only[fE];refine .bind λt h1=>?_;split;exact .nx;intro fl h' e;refine bO e λnQ h1 e1 e2=>?_;have:=hb _ _ nQ h1 e1;cases nQ with|nx ρ=>exact J4 hb f _ _ fl h' e2|ct ρ=>exact J4 hb f _ _ fl h' e2|bk ρ=>cases e2;rfl|rt w=>cases this
  exact .no
theorem J5:∀(s:S),fG s=true->∀(ρ:En) (h:VH),gC (exs cl s ρ h):=by
 intro s;induction s with
 |skip=>intro _ ρ h;exact .nx
 |seq a b i1 i2=>
  intro hs ρ h;simp only[fG,aY]at hs;intro fl h' e;simp only[exs]at e;refine bO e λnQ h1 e1 e2=>?_;have:=i1 hs.1 _ _ nQ h1 e1;cases nQ with|nx mL=>exact i2 hs.2 _ _ fl h' e2|bk _=>cases e2;rfl|ct _=>cases e2;rfl|rt _=>cases this
 |set i e=>intro _ ρ h;simp only[exs];exact .bind λw h1=>.nx
 |oA is e=>intro _ ρ h;simp only[exs];exact .bind λw h1=>.of
 |aug i o e=>
  intro _ ρ h;simp only[exs];split;exact .bind λy h1=>.bind λz h2=>.nx;exact .no
 |sat C x o v=>
  intro _ ρ h;simp only[exs];refine .bind λw h1=>.bind λo h2=>?_;unfold kr;split;split;split;exact .nx;exact .no;exact .no;exact .no
 |put o i v=>
  intro _ ρ h;simp only[exs];refine .bind λw h1=>.bind λx h2=>.bind λy h3=>?_;split;split;split;exact .nx;exact .no;exact .no;unfold putD;split;split;exact .nx;exact .no;exact .no;exact .no
 |ite c a b i1 i2=>
  intro hs ρ h;simp only[fG,aY]at hs;simp only[exs];refine .bind λx h1=>?_;split;exact i1 hs.1 _ _;exact i2 hs.2 _ _;exact .no
 |ret e=>intro hs;cases hs
 |expr e=>intro _ ρ h;simp only[exs];exact .bind λw h1=>.nx
 |brk=>intro _ ρ h fl h' e;cases e;rfl
 |cnt=>intro _ ρ h fl h' e;cases e;rfl
 | «for» k a t b i1=>intro hs ρ h;simp only[exs];exact .bind λx h1=>J2 (i1 hs) _ _ _ _
 |zR c b i1=>intro hs ρ h;simp only[exs];exact J4 (i1 hs) _ _ _
 |nI f a tb=>intro hs;cases hs
 |jc f a b s t=>intro hs;cases hs
 |no=>intro _ ρ h;exact .no
theorem _root_.L2.PS.eH{st:aq}(h:PS X.eH st t):PS X st t:=λpins s σ H D I hw=>iF (h pins s σ H D (I.cU _) hw) (λ_ _ z=>SP.bz z) λ_ _ z=>z.elim
section
variable{X:Cx}{E:XK}{c e:ao}{fa fc:FE}{pos p:Pos}{x:Str}{st:aq}{sts sa sb:List aq}{gs gt:FS}
noncomputable abbrev SX(X:Cx)(E:XK)(st:aq)(f:FS):Prop:=SR X (Rx X.K E) st f
noncomputable abbrev GF(X:Cx)(E:XK)(st:List aq)(f:FS):Prop:=vn X (Rx X.K E) st f
structure xX(X:Cx)(E:XK):Prop where
 zZ:∀e s,dZ X E e s->X.xe e s
 own:PassesOwn (model X.prog X.w) X.A X.env X.xe
theorem Qc(h:SS X.eH st (exs cl s))(hs:fG s):SX X E st (exs cl s):=(PS.eH h).imp λD σ H z9=>z9.el λρ h m fl h' f r e k=>.mk f r e λH' m' s' r'=>by
 have n:=J5 s hs ρ h fl h' e;have:=k H' m' s' r';cases fl with|nx _=>exact this|bk _=>exact this|ct _=>exact this|rt _=>cases n
theorem Zv(he:SE X.eH e fa):SX X E (.Return (aB e) pos) (λρ h=>(fa ρ h).bind λw h=>.ok (.rt (.tup [w])) h):=(A4 (PE.eH he)).imp λD σ H z9=>z9.el λρ h m fl h' f r e k=>by
 refine bO e λw h1 e1 e2=>?_;cases e2;exact(.mk f r e1 λv H1 m1 s1 r1 q1=>k H1 m1 s1 r1 v q1)
theorem Zw{C:ah}{cpos:Pos}(F:xX X E)(M:IZ X.K C)(hc:X.calm)(hg:Gl X x)(hm:X.mg x=aB (.ref C))(hdb:(x==("__debug__" : Str))=false) :
 SX X E (.Raise (aB (.Call (.Name x p) [] [] cpos)) aC pos) (λ_ h=>.ok (.rt (.int C)) h):=((Zk M hc hg hm hdb).zZ F.zZ).imp λD σ H z9=>z9.el λρ h m fl h' f r e k=>by
 cases e;exact xW.plain (k H m .refl r)
theorem Zx{C g:ah}{ps:List Str}{es:List ao}{cpos:Pos}{ga:FE}(F:xX X E)(M:I0 X.K C g)(G:eg X.prog X.w X.K X.mg X.base 1 g fd ps (GD C))(hr:cg 2 X.A)(hb:Binds X.K fd ps [])(hc:X.calm)(hg:Gl X x)(hm:X.mg x=aB (.ref C))(hdb:(x==("__debug__" : Str))=false)
 (ha:SA X.eH (e::es) ga) (hst:(e::es).all fq):SX X E (.Raise (aB (.Call (.Name x p) (e::es) [] cpos)) aC pos) (λρ h=>(ga ρ h).bind λy h=>match y with|.tup [_,_]=>.ok (.rt (.int C)) h|_=>.no):=by
 rw[j0,aY]at hst;refine((Zp M G hr hb hc hg hm ha hdb (eW hst.1) (nP hst.2)).zZ F.zZ).imp λD σ H z9=>z9.el λρ h m fl h' f r e k=>?_;refine bO e λy h1 e1 e2=>?_;split at e2;rename_i a b;cases e2;exact jd.mk f r e1 λvs H1 m1 s1 r1 q1=>⟨q1.length,k H1 m1 s1 r1⟩
 cases e2
noncomputable abbrev xY(g:List W->VH->Res W)(fa:FE)(b:Bool)(s t:FS):FS:=λρ h=>(fa ρ h).bind λy h=>match y with|.tup ys=>(g ys h).bind λw h=>nO b s t ρ w h|_=>.no
section
variable{k:Nat}{g:ah}{fd:au}{ps:List Str}{rn:List W->VH->Res W}{es:List ao}{ga:FE}{cpos p2:Pos}
theorem Qd(F:xX X E):sC (lO X.prog X.w) X E:=λpins σ H s e s' I q=>F.zZ _ _ (CY pins σ H s e s' (I.cU _) q)
theorem Qe{b:Bool}{Q:VK}{σ:L2.St}{ρ:En}{m:Nat->ah}{fl:Fl}{D:Ends}(hlen:∀ws h w h',rn ws h=.ok w h'->ws.length=ps.length)(f:Fr X.K m h.n H σ ρ)(r:Rel X.K m h H)(e:xY rn ga b gs gt ρ h=.ok fl h')
 (k:∀H' m',bS m h.n H m' h'.n H'->Rel X.K m' h' H'->sW X.K (Rx X.K E) m' h'.n H' D fl)
 (kv:∀x h2,nO b gs gt ρ (.tup [x]) h2=.ok fl h'->∀v H' m',bS m h.n H m' h2.n H'->Rel X.K m' h2 H'->aL X.K m' h2.n H' v x->Q v H') :
 jd X.K ga σ H λvs H1=>tE X.K ps.length rn (vs++[]) H1 Q E:=by
 refine bO e λy h1 e1 e2=>?_;cases y with
 |tup ys=>
  refine bO e2 λw h2 e3 e4=>?_;refine jd.mk f r e1 λvs H1 m1 s1 r1 q1=>⟨by rw[i7,q1.length,hlen _ _ _ _ e3],h1,m1,ys,w,h2,r1,by rw[i7];exact q1,e3,?_⟩
  unfold tD;split;rename_i x;exact λv H' m' s' r' q'=>kv x h2 e4 v H' m' (s1.trans s') r' q';rename_i i;cases e4;exact λH' m' s' r'=>k H' m' (s1.trans s') r';rename_i n1 n2;unfold nO at e4;split at e4;exact(n1 _ rfl).elim;exact(n2 _ rfl).elim;cases e4
 |_=>cases e2
theorem Zy(F:xX X E)(G:bU X.prog X.w X.K X.mg X.base (lO X.prog X.w) k g fd ps (tE X.K ps.length rn))(hr:bG k X.A)(hg:Gl X x)(hm:X.mg x=aB (.ref g))(hk:PySem.W.keepIn X.K (.ref g))(hb:Binds X.K fd ps [])
 (hlen:∀ws h w h',rn ws h=.ok w h'->ws.length=ps.length) (ha:SA X.eH (e::es) ga) (hst:(e::es).all fq) (hdb:(x==("__debug__" : Str))=false) :
 SX X E (.Expr (.Call (.Name x p) (e::es) [] cpos) pos) (xY rn ga false mK mK):=by
 rw[j0,aY]at hst;refine(Nl (F5 (E:=E) G hr hg hm hk hb .nil (Qd F) (PA.eH ha) hdb (eW hst.1) (nP hst.2)) (by rfl)).imp λD σ H z9=>z9.el λρ h m fl h' f r e k=>?_;refine Qe (D:=D) hlen f r e k λx h2 e4 v H' m' s' r' q'=>?_;cases e4;exact k H' m' s' r' σ (f.stp s')
theorem Zz(F:xX X E)(G:bU X.prog X.w X.K X.mg X.base (lO X.prog X.w) k g fd ps (tE X.K ps.length rn))(hr:bG k X.A)(hg:Gl X x)(hm:X.mg x=aB (.ref g))(hk:PySem.W.keepIn X.K (.ref g))(hb:Binds X.K fd ps [])
 (hlen:∀ws h w h',rn ws h=.ok w h'->ws.length=ps.length) (ha:SA X.eH (e::es) ga) (hst:(e::es).all fq) (hdb:(x==("__debug__" : Str))=false) (ZC:GF X E sa gs) (xB:GF X E sb gt) :
 SX X E (.If (.UnaryOp .Not (.Call (.Name x p) (e::es) [] cpos) p2) sa sb pos) (xY rn ga true gs gt):=by
 rw[j0,aY]at hst;refine(oR (HN (Ni (F5 (E:=E) G hr hg hm hk hb .nil (Qd F) (PA.eH ha) hdb (eW hst.1) (nP hst.2)) λ_=>rfl)) ZC xB).imp λD σ H z9=>z9.el λρ h m fl h' f r e k=>?_;refine Qe (D:=D) hlen f r e k λx h2 e4 v H' m' s' r' q'=>?_;unfold nO at e4;simp only[bX]at e4;split at e4;cases q';exact⟨_,rfl,.mk (f.stp s') r' e4 λH3 m3 s3 r3=>k H3 m3 (s'.trans s3) r3⟩;cases q';exact⟨_,rfl,.mk (f.stp s') r' e4 λH3 m3 s3 r3=>k H3 m3 (s'.trans s3) r3⟩;cases e4
end
end
section
variable{K:aI}{m m':Nat->ah}{h h1 h2:VH}{H H':Hp}
theorem ZD(e:leave h w h1=.ok w2 h2):w2=w:=by
 unfold leave at e;split at e<;>cases e<;>rfl
theorem ZE(e:leave h (.tup [x]) h1=.ok (.tup [x]) h2):leave h x h1=.ok x h2:=by
 unfold leave at e ⊢;have hl:W.lt h.n (.tup [x])=W.lt h.n x:=by simp only[W.lt,W.jU,AD]
 rw[hl]at e;split at e;rename_i z;cases e;rw[if_pos z];rename_i z;cases e;rw[if_neg z]
theorem Qf{E:XK}(r:Rel K m h H)(s:bS m h.n H m' h1.n H')(r1:Rel K m' h1 H')(g:fF ⟨h.n,h.n,h.os⟩ h1)(e:leave h w h1=.ok w2 h2)(k:tD K m h.n H w2 h2 Q E):JZ K m' h1.n H' Q E w:=by
 obtain rfl:=ZD e;unfold tD at k;unfold JZ;split at k;rename_i x;exact λv hv=>Gy r s r1 hv g (ZE e) k;rename_i i;exact Gy (v:=.int i) (Q:=λ_ H'=>xW i.toNat E H') r s r1 (.int i) g e (λv H' m' s r _=>k H' m' s r);cases k
end
theorem ZF{P:ai}{w:aj}{K:aI}{mg:Str->Option aa}{base:az}{F:Nat->Option Fn}{k idx:Nat}{fn:Fn}{x qual:Str}{st:aq}{f:ah}{fd:au}{N ps:List Str}{b:S}(hF:F idx=aB fn)(Fu:nR K x qual st f fd)(S:bY N ps (iy st))
 (hn:fn.n=N.length) (hp:fn.ps=ps.length) (hb:fn.body=.seq b (.ret (.cst (.tup [.aG]))))
 (hbody:∀(cdv:aa)(A:ak)(outer:List Env)(s:af)(H:Hp)(E:XK),bG k (A.deeper (envOfC qual (iy st) s.heap.objs.size f cdv))->GF (gK (lO P w) P w K mg base N qual (iy st) f cdv A outer s H E) E (zL st) (exs (run F k) b)) :
 bU P w K mg base (lO P w) (k+1) f fd ps (tE K ps.length (run F (k+1) idx)):=by
 obtain⟨_,_,_,_,_,_,_,cdv,_,_,e,lk,hcd⟩:=Fu.ex;subst e;refine uU lk hcd S (λvs H Q E h=>h.1) λA outer s H vs Q E hr j9=>?_;refine⟨_,hbody cdv A outer s H E hr,?_⟩;obtain⟨hl,h,m,ws,w2,h2,r,q,e,k2⟩:=j9;have hws:=tu hF e;simp only[run,hF]at e;split at e;refine bO e λfl h1 e1 e2=>?_;have g:=CM (CN F k) _ _ _ _ _ e1;have hN:fn.n-fn.ps=N.length-ws.length:=by rw[hn,hws]
 rw[hN,hb]at e1;simp only[exs]at e1;refine bO e1 λnQ h3 e3 e4=>?_;refine⟨_,⟨h.n,h.n,h.os⟩,m,nQ,h3,PU q,CV r,e3,λH' m' s' r'=>?_⟩;cases nQ with
 |nx ρ=>
  cases e4;have:=Qf (K:=K) (m:=m) (m':=m') (H:=H) (H':=H') (h:=h) (Q:=Q) (E:=E) r s' r' g e2 k2;exact λσ' f'=>this .aG .aG
 |rt w3=>cases e4;exact Qf r s' r' g e2 k2
 |bk _=>cases e4;cases e2
 |ct _=>cases e4;cases e2
 cases e
theorem ZG{P:ai}{w:aj}{K:aI}{mg:Str->Option aa}{base:az}{F:Nat->Option Fn}{idx:Nat}{f:ah}{fd:au}{ps:List Str}:bU P w K mg base (lO P w) 0 f fd ps (tE K ps.length (run F 0 idx)):=
 ⟨λvs H Q E h=>h.1,λA outer s H args us vs Q E hr he hb hv hs=>by obtain⟨_,h,m,ws,w2,h2,r,q,e,k2⟩:=hs;cases e⟩
noncomputable def oneOf{α:Type}:List α->Option α|[a]=>aB a|_=>aC
theorem xZ{α:Type}{l:List α}{a:α}(h:oneOf l=aB a):l=[a]:=by
 unfold oneOf at h;split at h;cases h;rfl;cases h
noncomputable def ya:ao->Option (Str×Pos)|.Name x p=>aB (x,p)|_=>aC
theorem C3{q:Str×Pos}(h:ya e=aB q):e=.Name q.1 q.2:=by
 unfold ya at h;split at h;cases h;rfl;cases h
structure gD where
 f:Str
 p:Pos
 args:List ao
 cp:Pos
noncomputable def yb:ao->Option gD|.Call g args [] cp=>(ya g).map λq=>⟨q.1,q.2,args,cp⟩|_=>aC
theorem lP{α β:Type}{o:Option α}{f:α->β}{b:β}(h:o.map f=aB b):∃a,o=aB a/\f a=b:=by
 cases o with|none=>cases h|some a=>cases h;exact⟨a,rfl,rfl⟩
theorem fZ{α β:Type}{o:Option α}{f:α->Option β}{b:β}(h:o.bind f=aB b):∃a,o=aB a/\f a=aB b:=by
 cases o with|none=>cases h|some a=>exact⟨a,rfl,h⟩
theorem C4{q:gD}(h:yb e=aB q):e=.Call (.Name q.f q.p) q.args [] q.cp:=by
 unfold yb at h;split at h;obtain⟨z,h1,rfl⟩:=lP h;rw[C3 h1];cases h
noncomputable def J6:aq->Option (ao×Pos)|.Expr e p=>aB (e,p)|_=>aC
theorem ZH{s:aq}{q:ao×Pos}(h:J6 s=aB q):s=.Expr q.1 q.2:=by
 unfold J6 at h;split at h;cases h;rfl;cases h
noncomputable def J7:aq->Option (ao×Pos)|.Return o p=>o.map λe=>(e,p)|_=>aC
theorem ZJ{s:aq}{q:ao×Pos}(h:J7 s=aB q):s=.Return (aB q.1) q.2:=by
 unfold J7 at h;split at h;obtain⟨e,h1,rfl⟩:=lP h;rw[h1];cases h
noncomputable def tF(n:Str)(q:gD):Bool:=q.f==("_law_word" : Str)&& (match(oneOf q.args).bind ya with|some y=>y.1==n|none=>false)
theorem Qg{n:Str}{q:gD}(h:tF n q):q.f = "_law_word"/\∃yp,q.args=[.Name n yp]:=by
 unfold tF at h;rw[aY,jY]at h;obtain⟨h1,h2⟩:=h;split at h2;rename_i y hy;obtain⟨a,e1,e2⟩:=fZ hy;rw[jY]at h2;exact⟨h1,y.2,by rw[xZ e1,C3 e2,h2]⟩;cases h2
noncomputable def tG:ao->Option (Str×Nat×Pos)
 |.Constant c k p=>(match c with
  |.str t=>aB (t,k,p)
  |_=>aC)
 |_=>aC
theorem Qh{q:Str×Nat×Pos}(h:tG e=aB q):e=.Constant (.str q.1) q.2.1 q.2.2:=by
 unfold tG at h;split at h;split at h;cases h;rfl;cases h;cases h
noncomputable def isEq:CmpOp->Bool|.Eq=>true|_=>false
noncomputable def ku(n:Str):ao->Option (Option Str)
 |.Compare a ops cs _=>(match(oneOf ops).map isEq,(oneOf cs).bind tG,yb a with
  |some true,aB t,aB q=>if tF n q then aB (aB t.1)else aC
  |_,_,_=>aC)
 |e=>(match yb e with
  |some q=>if tF n q then aB aC else aC
  |none=>aC)
theorem ZK{n:Str}{o:Option Str}(h:ku n e=aB o):∃wp yp cp,(o=aC/\e=.Call (.Name "_law_word" wp) [.Name n yp] [] cp)\/∃t k kp pos,o=aB t/\e=.Compare (.Call (.Name "_law_word" wp) [.Name n yp] [] cp) [.Eq] [.Constant (.str t) k kp] pos:=by
 unfold ku at h;split at h;split at h;rename_i t q h1 h2 h3;split at h;rename_i hw;cases h;obtain⟨w1,yp,w2⟩:=Qg hw;obtain⟨op,g1,g2⟩:=lP h1;obtain⟨c,g3,g4⟩:=fZ h2;have g5:op=.Eq:=by cases op<;>first|rfl|cases g2
 have g6:=C4 h3;rw[w1,w2]at g6;exact⟨q.p,yp,q.cp,.inr ⟨_,_,_,_,rfl,by rw[xZ g1,g5,xZ g3,Qh g4,g6]⟩⟩;cases h;cases h;split at h;rename_i q h3;split at h;rename_i hw;cases h;obtain⟨w1,yp,w2⟩:=Qg hw;have g6:=C4 h3;rw[w1,w2]at g6;exact⟨q.p,yp,q.cp,.inl ⟨rfl,g6⟩⟩;cases h;cases h
noncomputable def hV(o:Option Str)(z:Str):V:=match o with|none=>.str z|some t=>.bl (decide (V.str z=V.str t))
noncomputable def hW(o:Option Str)(z:Str):W:=match o with|none=>.str z|some t=>.bl (decide (V.str z=V.str t))
theorem ZL{K:aI}{m:Nat->ah}{n:Nat}{H:Hp}(o:Option Str)(z:Str):aL K m n H (hV o z) (hW o z):=by
 cases o with|none=>exact .str z|some t=>exact .bl _
noncomputable def vq(tb:List (Nat×Str))(o:Option Str)(i:Nat):TS:=λD σ H=>∃C z x,(C,z)∈tb/\(i<σ.length->σ[i]?=aB (aB (.ref x)))/\tw C x H/\∀H',Hx H H'->D.rt (hV o z) H'
noncomputable abbrev J8(g:List W->VH->Res W)(fa:FE)(tb:List (Nat×W)):FS:=λρ h=>(fa ρ h).bind λy h=>match y with|.tup ys=>(g ys h).bind λw h=>pD tb ρ w h|_=>.no
noncomputable def yc(X:Cx)(C:Nat)(z:Str):Prop:=∃f fd ps,X.mg "_law_word" = aB (.ref f)/\eg X.prog X.w X.K X.mg X.base 2 f fd ps (C2 C z)/\PySem.W.keepIn X.K (.ref f)=true/\Binds X.K fd ps []
theorem Qi{o:Option Str}:∀{tb:List (Nat×Str)} {c:Nat} {w:W},(tb.map λp=>(p.1,hW o p.2)).lookup c=aB w->∃z,(c,z)∈tb/\w=hW o z
 |[],_,_,e=>by cases e
 |(d,z)::r,c,w,e=>by
  rw[cP,ig]at e;by_cases h:(c==d)=true;rw[h]at e;cases e;exact⟨z,by rw[show c=d by simpa using h];exact fy ..,rfl⟩;rw[show(c==d)=false by simpa using h]at e;obtain⟨z',h1,h2⟩:=Qi e;exact⟨z',eU _ h1,h2⟩
section
variable{X:Cx}{tb:List (Nat×Str)}{n:Str}{i:Nat}
theorem ZM{o:Option Str}{rp:Pos}{x:ah}(hf:ku n hb=aB o)(hr:cg 2 (X.hand x).A)(hw:∀C z,(C,z)∈tb->yc X C z)(J9:Gl X "_law_word")(hi:X.N[i]?=aB n)(hv:oN X.env.scope n)(hd:(n==("__debug__" : Str))=false)(hcd:(n==("__classdict__" : Str))=false) :
 gu (X.hand x) [.Return (aB hb) rp] (vq tb o i):=by
 intro pins s σ H D I ⟨C,z,y,hm,hσ,hx,k⟩;have hl:i<σ.length:=by rw[I.len];exact(jR.mp hi).1
 obtain⟨f,fd,ps,w1,w2,w3,w4⟩:=hw C z hm;have pe:∀wp yp cp,PE (X.hand x) (.Call (.Name "_law_word" wp) [.Name n yp] [] cp) _:=λwp yp cp=>Qa (X:=X.hand x) (p:=wp) (pos:=cp) w2 hr J9 w1 w3 w4 (ou (FQ (X:=X.hand x) (pos:=yp) hi hv hd hcd) rz);obtain⟨wp,yp,cp,⟨rfl,rfl⟩|⟨t,kk,kp,pos,rfl,rfl⟩⟩:=ZK hf;exact(FW (A4 (pe _ _ _))) pins s σ H D I ⟨_,hσ hl,y,rfl,hx,λH' h=>k H' h⟩;exact(FW (A4 (NB Bh (pe _ _ _) HK rfl))) pins s σ H D I ⟨_,hσ hl,y,rfl,hx,λH' h=>⟨rfl,k H' h⟩⟩
theorem ZN{k:Nat}{fa D:ah}{fd:au}{ps:List Str}{g:List W->VH->Res W}{f xb:Str}{p cpos epos tp hpos pos rp:Pos}{e hb:ao}{es:List ao}{ga:FE}{o:Option Str}
 (hs:X.stack=X.env::X.outer) (hf:X.env.frame=aB X.env.locals) (F:bU X.prog X.w X.K X.mg X.base (lO X.prog X.w) k fa fd ps (tE X.K ps.length g)) (hr:bG k X.A) (hr2:∀x,cg 2 (X.hand x).A) (hg:Gl X f) (hm:X.mg f=aB (.ref fa)) (hk:PySem.W.keepIn X.K (.ref fa)) (hbd:Binds X.K fd ps [])
 (hlen:∀ws h w h',g ws h=.ok w h'->ws.length=ps.length) (ha:SA X.eH (e::es) ga) (hst:(e::es).all fq) (JV:Gl X xb) (hmb:X.mg xb=aB (.ref D)) (hN:X.N.Nodup) (hi:X.N[i]?=aB n) (hl:X.env.kindOf n=aB .local) (hx:Loc X.env.scope n) (hv:oN X.env.scope n) (hfn:X.fn n=true)
 (hfo:ku n hb=aB o) (hw:∀C z,(C,z)∈tb->yc X C z) (J9:Gl X "_law_word") (hsub:∀C z,(C,z)∈tb->pO X.K C D=true)
 (hdb:(f==("__debug__" : Str))=false) (xV:(xb==("__debug__" : Str))=false) (J':(n==("__debug__" : Str))=false) (hcd:(n==("__classdict__" : Str))=false) :
 SS X (.Try [.Expr (.Call (.Name f p) (e::es) [] cpos) epos] [.ExceptHandler (aB (.Name xb tp)) (aB n) [.Return (aB hb) rp] hpos] [] [] pos) (J8 g ga (tb.map λc=>(c.1,hW o c.2))):=by
 rw[j0,aY]at hst;refine(Zm (i:=i) (th:=vq tb o i) hs hf F hr hg hm hk hbd ha JV hmb hN hi hl hx hfn (λx=>ZM hfo (hr2 x) hw J9 hi hv J' hcd) hdb xV (eW hst.1) (nP hst.2) rfl).imp λD0 σ H z9=>z9.el λρ h m fl h' f r e kk=>?_;refine bO e λy h1 e1 e2=>?_;cases y with
 |tup ys=>
  refine bO e2 λw h2 e3 e4=>?_;refine jd.mk f r e1 λvs H1 m1 s1 r1 q1=>⟨by rw[q1.length,hlen _ _ _ _ e3],h1,m1,ys,w,h2,r1,q1,e3,?_⟩
  unfold pD at e4;split at e4;cases e4;exact λv H' m' s' r' _=>kk H' m' (s1.trans s') r' σ (f.stp (s1.trans s'));rename_i ii;split at e4;rename_i w' hlk;cases e4;obtain⟨z,hmem,rfl⟩:=Qi hlk;intro H' m' s' r' H2 dx a hk hx2 hd2;refine⟨ii.toNat,rfl,hsub _ _ hmem,λx hx'=>⟨ii.toNat,z,x,hmem,λhl'=>qW (by rwa [zx]at hl'),⟨dx,hx',hd2⟩,λZO hh=>?_⟩⟩;obtain⟨st,r''⟩:=r'.hx (hk.trans hh);exact kk ZO m' ((s1.trans s').trans st) r'' _ (ZL o z);cases e4;cases e4
 |_=>cases e2
end
set_option genInjectivity false in
structure CC where
 N:List Str
 names:List (Str×NameKind)
 mP:Bool
noncomputable def kB:List Str->Str->Nat->Option Nat|[],_,_=>aC|y::r,x,i=>if y==x then aB i else kB r x (i+1)
theorem Qj:∀{N:List Str} {x:Str} {k i:Nat},kB N x k=aB i->∃j,i=k+j/\N[j]?=aB x
 |[],_,_,_,e=>by cases e
 |y::r,x,k,i,e=>by
  unfold kB at e;split at e;rename_i h;cases e;exact⟨0,rfl,by simpa using h⟩;obtain⟨j,h1,h2⟩:=Qj e;exact⟨j+1,by lia,by simpa using h2⟩
theorem oB{N:List Str}{x:Str}{i:Nat}(e:kB N x 0=aB i):N[i]?=aB x:=by
 obtain⟨j,h1,h2⟩:=Qj e;rw[show i=j by lia];exact h2
noncomputable def kC:Option NameKind->Bool|some .local|some .cell|some .free=>true|_=>false
noncomputable def lQ(all:Bool):Option NameKind->Bool|some .local=>true|some .cell=>all|_=>false
noncomputable def okN(x:Str):Bool:=!(x==("__debug__" : Str)) && !(x==("__classdict__" : Str)) && !(x==("__name__" : Str)) && !(x==("" : Str))
theorem ZP{x:Str}(h:okN x):x≠"":=by
 unfold okN at h;simp only[aY,Fc]at h;exact λz=>by rw[z]at h;simp at h
theorem jL{x:Str}(h:okN x):(x==("__debug__" : Str))=false/\(x==("__classdict__" : Str))=false/\x≠"__name__":=by
 unfold okN at h;simp only[aY,Fc]at h;exact⟨h.1.1.1,h.1.1.2,λz=>by rw[z]at h;simp at h⟩
noncomputable def pP(K:aI):Nat->aa->Option W
 |0,_=>aC
 |n+1,v=>match v with
  |.none=>aB .aG
  |.bool b=>aB (.bl b)
  |.int i _=>aB (.int i)
  |.str x _=>aB (.str x)
  |.ref a=>(match K.lookup a with
   |some o=>(match o.cls,o.dict,o.data with
    |.type t,aC,.seq its _=>if t == "tuple" && Nat.ble its.size 1000 then(aW (pP K n) its.toList).map .tup else aC
    |_,_,_=>aC)
   |none=>aC)
  |_=>aC
theorem Qk{K:aI}{f:aa->Option W}(ih:∀v w,f v=aB w->∃x,RelV x v/\∀m n H,aL K m n H x w):∀{us:List aa} {ws:List W},aW f us=aB ws->∃xs,Vals xs us/\∀m n H,aE K m n H xs ws
 |[],_,e=>by cases e;exact⟨[],.nil,λ_ _ _=>.nil⟩
 |u::us,ws,e=>by
  unfold aW at e;split at e;rename_i b hb;split at e;rename_i bs yd;cases e;obtain⟨x,h1,h2⟩:=ih u b hb;obtain⟨xs,h3,h4⟩:=Qk ih yd;exact⟨x::xs,.cons h1 h3,λm n H=>.cons (h2 m n H) (h4 m n H)⟩;cases e;cases e
theorem Ql{K:aI}:∀(n:Nat) (v:aa) (w:W),pP K n v=aB w->∃x,RelV x v/\∀m n H,aL K m n H x w
 |0,_,_,e=>by cases e
 |n+1,v,w,e=>by
  unfold pP at e;split at e;cases e;exact⟨.aG,rfl,λ_ _ _=>.aG⟩;cases e;exact⟨.bl _,rfl,λ_ _ _=>.bl _⟩;cases e;exact⟨.int _,⟨_,rfl⟩,λ_ _ _=>.int _⟩;cases e;exact⟨.str _,⟨_,rfl⟩,λ_ _ _=>.str _⟩;rename_i a;split at e;rename_i o ho;split at e;rename_i t its nn hc IX hd;split at e;rename_i hz;rw[aY]at hz;have ht:t = "tuple":=by simpa using hz.1
  subst ht;cases z:aW (pP K n) its.toList with
  |none=>rw[z]at e;cases e
  |some ws=>
   rw[z]at e;cases e;obtain⟨xs,h3,h4⟩:=Qk (Ql n) z;exact⟨.ref a,rfl,λm n H=>.tup (.inr ⟨o,its,nn,ho,hc,IX,hd,wQ (IG (kU hz.2)),h3⟩) (h4 m n H)⟩
  cases e;cases e;cases e;cases e
noncomputable def cL(f:ao->Option E):List ao->Option E
 |[]=>aB .nil
 |e::es=>match f e,cL f es with
  |some a,aB r=>aB (.cons a r)
  |_,_=>aC
noncomputable def fnAt(K:aI)(x:Str):Option (ah×Obj×au):=match dI K x with
 |some f=>(match K.lookup f with
  |some o=>(match o.data with
   |.func fd=>aB (f,o,fd)
   |_=>aC)
  |none=>aC)
 |none=>aC
noncomputable def tH:Arguments->Option (List Arg)|⟨[],args,aC,[],[],aC,_⟩=>aB args|_=>aC
noncomputable def isNone:aa->Bool|.none=>true|_=>false
noncomputable def GG:Data->Bool
 |.seq xs _=>(match xs.toList with
  |[v]=>isNone v
  |_=>false)
 |_=>false
noncomputable def fH(K:aI):aa->Bool
 |.ref t=>(match K.lookup t with
  |some o=>GG o.data
  |none=>false)
 |_=>false
noncomputable def C5(K:aI)(x:Str)(n:Nat):Bool:=match fnAt K x with|some (_,_,fd)=>fH K fd.defaults&&Nat.beq (n+1) fd.params.args.length|none=>false
noncomputable def gE(K:aI)(x:Str):Bool:=match fnAt K x with|some (_,_,fd)=>fH K fd.defaults|none=>false
theorem Qm{K:aI}{x:Str}{n:Nat}(h:C5 K x n):gE K x=true:=by
 unfold C5 at h;unfold gE;split at h;rw[aY]at h;exact h.1;cases h
noncomputable def jM:E->E|.nil=>.cons (.cst .aG) .nil|.cons a r=>.cons a (jM r)|e=>e
noncomputable def kD:E->Bool|.nil=>true|.cons _ r=>kD r|_=>false
theorem Qn:∀{a:E},kD a=true->∀(ρ:En) (h:VH),ev cl (jM a) ρ h=(ev cl a ρ h).bind λy h=>match y with|.tup ys=>.ok (.tup (ys++[.aG])) h|_=>.no:=by
 intro a;induction a with
 |nil=>intro _ ρ h;rfl
 |cons x r _ ih=>
  intro ha ρ h;have ih:=ih ha;simp only[jM,ev];cases ev cl x ρ h with
  |no=>rfl
  |ex _ _=>rfl
  |ok w h1=>
   show Res.bind (ev cl (jM r) ρ h1) _=Res.bind (Res.bind (ev cl r ρ h1) _) _;rw[ih];cases ev cl r ρ h1 with|no=>rfl|ex _ _=>rfl|ok y h2=>cases y<;>rfl
 |_=>intro ha;cases ha
theorem Ka{f:ao->Option E}:∀{es:List ao} {a:E},cL f es=aB a->kD a=true
 |[],_,h=>by cases h;rfl
 |e::es,a,h=>by
  unfold cL at h;split at h;rename_i x r h1 h2;cases h;show kD r=true;exact Ka h2;cases h
noncomputable def C6(f:ao->Option E):List (Option ao)->List ao->Option E
 |[],[]=>aB .nil
 |some k::ks,v::vs=>match f k,f v,C6 f ks vs with
  |some a,aB b,aB r=>aB (.cons a (.cons b r))
  |_,_,_=>aC
 |_,_=>aC
noncomputable def cB(and:Bool)(f:ao->Option E):List ao->Option E
 |[]=>aC
 |[a]=>f a
 |a::b::r=>match f a,cB and f (b::r)with
  |some x,aB y=>aB (if and then .and x y else .or x y)
  |_,_=>aC
noncomputable def cO(f:ao->Option E):Option ao->Option (Bool×E)|none=>aB (false,.cst .aG)|some e=>(f e).map λc=>(true,c)
noncomputable def vt(K:aI)(C:CC)(x:Str):Bool:=C.names.lookup x==aB .globalImplicit&& (match PySem.W.nsIn K mainGlobals x with|some aC=>true|_=>false)
noncomputable def ye(x:Str):Option Ty:=
 if x==("int" : Str)then aB .int else if x==("bool" : Str)then aB .bool else if x==("tuple" : Str)then aB .tuple else if x==("list" : Str)then aB .list else if x==("str" : Str)then aB .str else if x==("dict" : Str)then aB .dict else aC
noncomputable def ZQ(f:Str)(args:List ao):Option ao:=if f==("list" : Str)then(match args with|[.Call (.Name g _) [a] [] _]=>if g==("range" : Str)then aB a else aC|_=>aC)else aC
noncomputable def yf(x:Str):Option Bi:=
 if x==("len" : Str)then aB .len else if x==("list" : Str)then aB .list else if x==("tuple" : Str)then aB .tuple else if x==("int" : Str)then aB .int else if x==("abs" : Str)then aB .abs else if x==("max" : Str)then aB .max else if x==("min" : Str)then aB .min else if x==("all" : Str)then aB .all else aC
noncomputable def Qo:ao->Bool|.Tuple ..=>true|_=>false
noncomputable def C7:Kd->ao->Bool|.nH,t=>Qo t|.zip,t=>Qo t|_,_=>true
noncomputable def iS(C:CC):ao->Option Nat|.Name x _=>if okN x&&lQ C.mP (C.names.lookup x)then kB C.N x 0 else aC|_=>aC
noncomputable def C8(C:CC):ao->Option Tg|.Name x p=>(iS C (.Name x p)).map .one|.Tuple es _ _=>(aW (iS C) es).map .many|_=>aC
noncomputable def ownOf(sc:ay):List Str:=(sc.names.filter λy=>y.2 == .local && !(y.1==(".0" : Str))).map (·.1)
noncomputable def kE(sc:ay):List Str:=(sc.names.filter λy=>y.2 == .free).map (·.1)
noncomputable def yg(C:CC)(sc:ay)(ix:List Nat):Bool:=
 decide (sc.kind=.function)&&sc.names.all (λy=>decide (y.2≠.cell))&&sc.names.all (λy=>decide (y.2=.local->sc.names.lookup y.1=aB .local)) &&
 (ownOf sc).all (λx=>decide (sc.names.lookup x=aB .local))&&sc.names.all (λy=>decide (y.2=.free->C.names.lookup y.1=aB .cell\/C.names.lookup y.1=aB .free))&&decide (ix.length=(kE sc).length) &&
 ((List.range (kE sc).length).all λk=>match(kE sc)[k]?,ix[k]? with|some x,aB j=>decide (C.N[j]?=aB x)&&decide (sc.names.lookup x=aB .free)|_,_=>false)&&decide (ownOf sc++kE sc).Nodup
noncomputable def tK(sc:ay):CC:=⟨ownOf sc++kE sc,sc.names,false⟩
mutual
noncomputable def cE(K:aI)(T:List Str):Nat->CC->ao->Option E
 |0,_,_=>aC
 |n+1,C,e=>match e with
  |.Name x _=>if okN x then(if kC (C.names.lookup x)then(kB C.N x 0).map .var
   else if C.names.lookup x==aB .globalImplicit then(match PySem.W.nsIn K mainGlobals x with|some (aB v)=>(pP K 8 v).map .cst|_=>aC)else aC)else aC
  |.Constant c _ _=>(match c with
   |.int i=>aB (.cst (.int i))
   |.bool b=>aB (.cst (.bl b))
   |.none=>aB (.cst .aG)
   |.str x=>aB (.cst (.str x))
   |_=>aC)
  |.Tuple es _ _=>(cL (cE K T n C) es).map .tup
  |.List es _=>(cL (cE K T n C) es).map .lst
  |.Dict ks vs _=>if Nat.ble ks.length 15&&Nat.beq ks.length vs.length&&ks.all (·.isSome)then(C6 (cE K T n C) ks vs).map .rE else aC
  |.BinOp a O b _=>(match Cj O,cE K T n C a,cE K T n C b with
   |some o,aB x,aB y=>aB (.op o x y)
   |_,_,_=>aC)
  |.UnaryOp o a _=>(match o with
   |.Not=>(cE K T n C a).map .not
   |.USub=>(cE K T n C a).map .neg
   |_=>aC)
  |.BoolOp o es _=>(match o with
   |.And=>cB true (cE K T n C) es
   |.Or=>cB false (cE K T n C) es)
  |.Compare a Os bs _=>(match Os,bs with
   |[O],[b]=>if rH b then(match gM O,cE K T n C a,cE K T n C b with
   |some c,aB x,aB y=>aB (.cmp c x y)
   |_,_,_=>aC)else aC
   |[O,O'],[b,c]=>if rH c then(match gM O,gM O',cE K T n C a,cE K T n C b,cE K T n C c with
   |some o,aB o',aB x,aB y,aB z=>aB (.xJ o o' x y z)
   |_,_,_,_,_=>aC)else aC
   |_,_=>aC)
  |.IfExp c a b _=>(match cT K T n C c,cE K T n C a,cE K T n C b with
   |some z,aB x,aB y=>aB (.ite z x y)
   |_,_,_=>aC)
  |.Subscript a b _=>(match b with
   |.Slice lo hi st _=>(match st with
    |none=>(match cE K T n C a,cO (cE K T n C) lo,cO (cE K T n C) hi with
   |some x,aB (bl,l),aB (bh,u)=>aB (.slc x bl l bh u)
   |_,_,_=>aC)
    |some _=>aC)
   |b=>if zX b then(match cE K T n C a,cE K T n C b with
   |some x,aB y=>aB (.idx x y)
   |_,_=>aC)else aC)
  |.Call fn args kw pos=>(match kw with
   |[]=>(match fn with
    |.Name f _=>if okN f&&C.names.lookup f==aB .globalImplicit then(match PySem.W.nsIn K mainGlobals f with
     |some aC=>if f==("isinstance" : Str)then(match args with
      |[a,.Name t _]=>(match ye t,cE K T n C a with
       |some ty,aB x=>if okN t&&vt K C t then aB (.rF ty x)else aC
       |_,_=>aC)
      |_=>aC)
      else(match yf f,args with|some b,_::_=>(cL (cE K T n C) args).map (.bi b)|_,_=>aC)
     |some (aB _)=>if nS f then(match kB T f 0,args with
      |some i,_::_=>if C5 K "Balls.__init__" (args.length+1)then(cL (cE K T n C) args).map (λa=>.call i (jM a))else(cL (cE K T n C) args).map (.call i)
      |_,_=>aC)else if(fY f).isSome then aC else(match kB T f 0 with
      |some i=>if C5 K f args.length && !args.isEmpty then(cL (cE K T n C) args).map (λa=>.call i (jM a))else(cL (cE K T n C) args).map (.call i)
      |none=>aC)
     |none=>aC)else aC
    |.Attribute o Kc ap=>if Cy o&& (ap.endLine==pos.line)then(match pN Kc with
   |some y=>(match clsAt K,kB T y 0,cE K T n C o,args with
    |some D,aB i,aB x,_::_=>if Nat.blt args.length 30 then(cL (cE K T n C) args).map (λz=>.jm D Kc i x z)else aC
    |_,_,_,_=>aC)
   |none=>match cE K T n C o,args with
    |some x,[a]=>if Kc==("append" : Str)then(cE K T n C a).map λy=>.mt .append x (.cons y .nil)else aC
    |_,_=>aC)else aC
    |_=>aC)
   |_=>aC)
  |.Attribute o x _=>if Cy o then(match clsAt K,cE K T n C o with
   |some D,aB a=>if xT K D x then aB (.k6 D x a)else aC
   |_,_=>aC)else aC
  |.ListComp elt gs sc _=>(match gs with
   |[⟨tg,iter,ifs,0⟩]=>(match aW (λx=>kB C.N x 0) (kE sc)with
    |some ix=>if yg C sc ix then(match cW K T n C iter,C8 (tK sc) tg,(match ifs with|[]=>aB (.cst (.bl true))|[c]=>cT K T n (tK sc) c|_=>aC),cE K T n (tK sc) elt with
     |some (kd,a),aB t,aB c,aB e=>if C7 kd tg then aB (.lc kd a t (ownOf sc).length ix c e)else aC
     |_,_,_,_=>aC)else aC
    |none=>aC)
   |_=>aC)
  |_=>aC
noncomputable def cT(K:aI)(T:List Str):Nat->CC->ao->Option E
 |0,_,_=>aC
 |n+1,C,e=>match e with
  |.Compare a Os bs _=>(match Os,bs with
   |[O],[b]=>if rH b then(match gM O,cE K T n C a,cE K T n C b with
   |some c,aB x,aB y=>aB (.cmp c x y)
   |_,_,_=>aC)else aC
   |[O,O'],[b,c]=>if rH c then(match gM O,gM O',cE K T n C a,cE K T n C b,cE K T n C c with
   |some o,aB o',aB x,aB y,aB z=>aB (.xJ o o' x y z)
   |_,_,_,_,_=>aC)else aC
   |_,_=>aC)
  |.UnaryOp o a _=>(match o with
   |.Not=>(cT K T n C a).map .not
   |_=>aC)
  |.BoolOp o es _=>(match o with
   |.And=>cB true (cT K T n C) es
   |.Or=>cB false (cT K T n C) es)
  |.Name x p=>(cE K T n C (.Name x p)).map .kZ
  |.Call f as ks p=>(cE K T n C (.Call f as ks p)).map .kZ
  |.Subscript a b p=>(cE K T n C (.Subscript a b p)).map .kZ
  |_=>aC
noncomputable def cW(K:aI)(T:List Str):Nat->CC->ao->Option (Kd×E)
 |0,_,_=>aC
 |n+1,C,e=>match e with
  |.Call (.Name f p) args [] pos=>if f==("range" : Str)then(if vt K C f then(match args with
   |[a]=>(cE K T n C a).map λx=>(.eL,.cons x .nil)
   |_=>aC)else aC)
   else if f==("enumerate" : Str)then(if vt K C f then(match args with|[a]=>(cE K T n C a).map λx=>(.nH,x)|_=>aC)else aC)
   else if f==("zip" : Str)then(if vt K C f then(match args with
    |[a,b]=>(match cE K T n C a,cE K T n C b with
     |some x,aB y=>aB (.zip,.cons x (.cons y .nil))
     |_,_=>aC)
    |_=>aC)else aC)
   else(cE K T n C (.Call (.Name f p) args [] pos)).map λx=>(.seq,x)
  |.Set ..=>aC
  |e=>(cE K T n C e).map λx=>(.seq,x)
end
noncomputable def lR(f:aq->Option S):List aq->Option S
 |[]=>aB .skip
 |s::r=>match f s,lR f r with
  |some a,aB b=>aB (.seq a b)
  |_,_=>aC
structure RX where
 jc:List Str
 at_:Nat
 tb:List (Nat×Str)
structure C9 where
 c:gD
 ep:Pos
 xb:Str×Pos
 nm:Str
 hb:ao
 rp:Pos
 hp:Pos
noncomputable def pQ(b:List aq)(hs:List ExceptHandler):Option C9:=match((oneOf b).bind J6).bind λe=>(yb e.1).map λq=>(q,e.2),oneOf hs with
 |some q,aB (.ExceptHandler t n hb hp)=>(match t.bind ya,n,(oneOf hb).bind J7 with
  |some x,aB nm,aB r=>aB ⟨q.1,q.2,x,nm,r.1,r.2,hp⟩
  |_,_,_=>aC)
 |_,_=>aC
theorem ZR{hs:List ExceptHandler}{q:C9}(h:pQ b hs=aB q):b=[.Expr (.Call (.Name q.c.f q.c.p) q.c.args [] q.c.cp) q.ep]/\hs=[.ExceptHandler (aB (.Name q.xb.1 q.xb.2)) (aB q.nm) [.Return (aB q.hb) q.rp] q.hp]:=by
 unfold pQ at h;split at h;rename_i qq t n hb hp h1 h2;split at h;rename_i x nm r h3 h4;cases h;obtain⟨s,h5,h6⟩:=fZ h1;obtain⟨z,h7,h8⟩:=lP h6;obtain⟨s1,h9,ZT⟩:=fZ h5;obtain⟨te,h11,h12⟩:=fZ h3;obtain⟨s2,ZU,ZV⟩:=fZ h4;cases h8;rw[xZ h9,ZH ZT,C4 h7,xZ h2,h11,C3 h12,xZ ZU,ZJ ZV];exact⟨rfl,rfl⟩;cases h;cases h
noncomputable def yh(K:aI)(T:List Str)(R:RX)(d:Nat)(C:CC)(f:Str)(args:List ao)(xb nm:Str)(hb:ao):Option S:=
 if okN f&&C.names.lookup f==aB .globalImplicit&& (fY f).isNone&&okN xb&&C.names.lookup xb==aB .globalImplicit&&okN nm&&C.names.lookup nm==aB .local&&C.names.lookup ("_law_word" : Str)==aB .globalImplicit then
  (match kB R.jc f 0,PySem.W.nsIn K mainGlobals xb,kB C.N nm 0,ku nm hb,cL (cE K T d C) args with|some j,aB (aB (.ref D)),aB _,aB o,aB a=>if R.tb.all λc=>pO K c.1 D then aB (.nI (R.at_+j) a (R.tb.map λc=>(c.1,hW o c.2)))else aC|_,_,_,_,_=>aC)
 else aC
noncomputable def cS(K:aI)(T:List Str)(R:RX)(d:Nat):Nat->CC->aq->Option S
 |0,_,_=>aC
 |n+1,C,s=>match s with
  |.Pass _=>aB .skip
  |.Break _=>aB .brk
  |.Continue _=>aB .cnt
  |.Raise ..=>aB .no
  |.Return r _=>(match r with
   |none=>aB (.ret (.cst .aG))
   |some e=>(cE K T d C e).map .ret)
  |.Expr e _=>if xP e then(cE K T d C e).map .expr else aC
  |.Assign l e _=>(match l with
   |[t]=>(match t with
    |.Name x p=>(match iS C (.Name x p),cE K T d C e with
    |some i,aB c=>aB (.set i c)
    |_,_=>aC)
    |.Tuple ts _ _=>if pM e then(match aW (iS C) ts,cE K T d C e with
    |some is,aB c=>aB (.oA is c)
    |_,_=>aC)else aC
    |.Subscript o i _=>if zX i then(match cE K T d C o,cE K T d C i,cE K T d C e with
    |some x,aB y,aB z=>aB (.put x y z)
    |_,_,_=>aC)else aC
    |.Attribute o x _=>if xP e then(match clsAt K,cE K T d C o,cE K T d C e with
    |some D,aB a,aB b=>if xT K D x then aB (.sat D x a b)else aC
    |_,_,_=>aC)else aC
    |_=>aC)
   |_=>aC)
  |.AugAssign t O e _=>(match t with
   |.Name x p=>(match iS C (.Name x p),sY O,cE K T d C e with
    |some i,aB o,aB c=>aB (.aug i o c)
    |_,_,_=>aC)
   |_=>aC)
  |.If c a b _=>(match cT K T d C c,lR (cS K T R d n C) a,lR (cS K T R d n C) b with
   |some z,aB x,aB y=>aB (.ite z x y)
   |_,_,_=>aC)
  |.For tg it b el _=>(match el with
   |[]=>(match cW K T d C it,C8 C tg,lR (cS K T R d n C) b with
    |some (kd,a),aB t,aB x=>if C7 kd tg then aB (.for kd a t x)else aC
    |_,_,_=>aC)
   |_=>aC)
  |.While c b el _=>(match el with
   |[]=>(match cT K T d C c,lR (cS K T R d n C) b with
    |some z,aB x=>aB (.zR z x)
    |_,_=>aC)
   |_=>aC)
  |.Try b hs el fb _=>(match el,fb with
   |[],[]=>(match pQ b hs with
    |some q=>if q.c.args.isEmpty then aC else yh K T R d C q.c.f q.c.args q.xb.1 q.nm q.hb
    |none=>aC)
   |_,_=>aC)
  |_=>aC
structure gP(X:Cx)(C:CC)(T:List Str)(R:RX)(F:Nat->Option Fn)(k:Nat):Prop where
 hN:X.N=C.N
 nd:C.N.Nodup
 vis:∀x,kC (C.names.lookup x)=true->oN X.env.scope x
 loc:∀x,lQ C.mP (C.names.lookup x)=true->Loc X.env.scope x/\(X.fn x=true\/X.env.scope.names.lookup x=aB .local)
 gl:∀x,C.names.lookup x=aB .globalImplicit->Gl X x
 cf:∀x,(C.names.lookup x=aB .cell\/C.names.lookup x=aB .free)->X.env.kindOf x=aB .cell\/X.env.kindOf x=aB .free
 calm:X.calm=true
 room:bG k X.A
 xe:X.xe=λ_ _=>False
 Qp:X.env.scope.kind=.function
 nU:∀x v,PySem.W.nsIn X.K mainGlobals x=aB (aB v)->X.mg x=aB v
 z0:∀x,PySem.W.nsIn X.K mainGlobals x=aB aC->X.mg x=aC
 fns:∀(i:Nat)(x:Str),T[i]?=aB x->x≠""->nS x=false->∃f fd ps fn,dI X.K x=aB f/\bU X.prog X.w X.K X.mg X.base jb k f fd ps (jo X.K ps.length (run F k i))/\PySem.W.keepIn X.K (.ref f)=true/\Binds X.K fd ps []/\F i=aB fn/\fn.ps=ps.length/\(gE X.K x=true->Binds X.K fd ps [.none])
 cls:∀(ci:Nat)(x:Str),T[ci]?=aB x->nS x=true->∀k',k=k'+1->∃D f fd ps ii na,clsAt X.K=aB D/\F ci=aB (fX D ii na)/\Mk X.K D f/\bU X.prog X.w X.K X.mg X.base jb k' f fd ps (jo X.K ps.length (run F k' ii))/\Binds X.K fd ps []/\(gE X.K "Balls.__init__" = true->Binds X.K fd ps [.none])/\∀ws h w h',run F k' ii ws h=.ok w h'->ws.length=ps.length
 rs:∀(j:Nat)(x:Str),R.jc[j]?=aB x->∃f fd ps fn,dI X.K x=aB f/\bU X.prog X.w X.K X.mg X.base (lO X.prog X.w) k f fd ps (tE X.K ps.length (run F k (R.at_+j)))/\PySem.W.keepIn X.K (.ref f)=true/\Binds X.K fd ps []/\F (R.at_+j)=aB fn/\fn.ps=ps.length
 wd:∀C z,(C,z)∈R.tb->yc X C z
section
variable{X:Cx}{C:CC}{T:List Str}{R:RX}{F:Nat->Option Fn}{k:Nat}
theorem gP.GH(O:gP X C T R F k):X.A.units+65<cLine:=by have:=O.room.un;lia
theorem gP.u2(O:gP X C T R F k):X.A.units+2<cLine:=rV (Ff (by decide:2<=64) _) O.room.units
theorem GI(O:gP X C T R F k){x:Str}(h:vt X.K C x):Gl X x/\X.mg x=aC:=by
 unfold vt at h;rw[aY]at h;refine⟨O.gl x (by simpa using h.1),O.z0 x ?_⟩;have h2:=h.2;split at h2;assumption;cases h2
theorem mQ(O:gP X C T R F k){i:Nat}(h:iS C e=aB i):pK X e i:=by
 unfold iS at h;split at h;split at h;rename_i hc;rw[aY]at hc;obtain⟨h1,h2⟩:=O.loc _ hc.2;exact⟨_,_,rfl,by rw[O.hN];exact oB h,h1,h2⟩;cases h;cases h
theorem Ke(O:gP X C T R F k):∀{es:List ao} {is:List Nat},aW (iS C) es=aB is->Paired (pK X) es is
 |[],_,h=>by cases h;exact .nil
 |e::es,is,h=>by
  unfold aW at h;split at h;rename_i b hb;split at h;rename_i bs yd;cases h;exact .cons (mQ O hb) (Ke O yd);cases h;cases h
theorem pR(O:gP X C T R F k)(h:C8 C e=aB t):PG X e (gO X.K t):=by
 unfold C8 at h;split at h;rename_i x p;cases z:iS C (.Name x p)with
 |none=>rw[z]at h;cases h
 |some i=>
  rw[z]at h;cases h;obtain⟨x',p',e,h1,h2,h3⟩:=mQ O z;cases e;exact Ys (O.hN▸O.nd) h1 h2 h3
 rename_i es kx p;cases z:aW (iS C) es with|none=>rw[z]at h;cases h|some is=>rw[z]at h;cases h;exact Pj O.calm (O.hN▸O.nd) (Ke O z)
 cases h
theorem ek{f:ao->Option E}(ih:∀e c,f e=aB c->SE X e (ev cl c)/\fq e):∀{es:List ao} {c:E},cL f es=aB c->SA X es (ev cl c)/\es.all fq=true
 |[],_,h=>by cases h;exact⟨Ju,rfl⟩
 |e::es,c,h=>by
  unfold cL at h;split at h;rename_i a r ha hr;cases h;obtain⟨h1,h2⟩:=ih e a ha;obtain⟨h3,h4⟩:=ek ih hr;exact⟨Gp h1 h3 (eW h2),by rw[j0,h2,h4];rfl⟩;cases h
theorem Qq{f:ao->Option E}(ih:∀e c,f e=aB c->SE X e (ev cl c)/\fq e):∀{ks:List (Option ao)} {vs:List ao} {c:E},C6 f ks vs=aB c->Cz X pos ks vs (ev cl c)
 |[],[],_,h=>by cases h;exact X4
 |[],_::_,_,h=>by cases h
 |none::_,_,_,h=>by cases h
 |some _::_,[],_,h=>by cases h
 |some a::ks,v::vs,c,h=>by
  unfold C6 at h;split at h;rename_i x y r hx hy hr;cases h;exact X5 (ih _ _ hx).1 (ih _ _ hy).1 (Qq ih hr);cases h
theorem mR{f:ao->Option E}(ih:∀e c,f e=aB c->SE X e (ev cl c)/\fq e):∀{es:List ao} {c:E},(cB true f es=aB c->SE X (.BoolOp .And es pos) (ev cl c))/\(cB false f es=aB c->SE X (.BoolOp .Or es pos) (ev cl c))
 |[],_=>⟨(λh=>nomatch h),(λh=>nomatch h)⟩
 |[a],c=>⟨λh=>O5 (ih a c h).1,λh=>O5 (ih a c h).1⟩
 |a::b::r,c=>by
  refine⟨λh=>?_,λh=>?_⟩;unfold cB at h;split at h;rename_i x y hx hy;cases h;exact Xs (ih a x hx).1 ((mR ih).1 hy);cases h;unfold cB at h;split at h;rename_i x y hx hy;cases h;exact Cs (ih a x hx).1 ((mR ih).2 hy);cases h
theorem GJ{f:ao->Option E}(ih:∀e c,f e=aB c->ST X e (ev cl c)):∀{es:List ao} {c:E},(cB true f es=aB c->SW X (.BoolOp .And es pos) (ev cl c))/\(cB false f es=aB c->SW X (.BoolOp .Or es pos) (ev cl c))
 |[],_=>⟨(λh=>nomatch h),(λh=>nomatch h)⟩
 |[a],c=>⟨λh=>O4 (ih a c h),λh=>O4 (ih a c h)⟩
 |a::b::r,c=>by
  refine⟨λh=>?_,λh=>?_⟩;unfold cB at h;split at h;rename_i x y hx hy;cases h;exact Xr (ih a x hx) ((GJ ih).1 hy);cases h;unfold cB at h;split at h;rename_i x y hx hy;cases h;exact Cr (ih a x hx) ((GJ ih).2 hy);cases h
theorem vz{f:ao->Option E}(ih:∀e c,f e=aB c->SE X e (ev cl c)/\fq e){o:Option ao}{b:Bool}(h:cO f o=aB (b,c)):PO X o (jG X.K b (ev cl c)):=by
 unfold cO at h;split at h;cases h;exact XC;rename_i e;cases z:f e with|none=>rw[z]at h;cases h|some c'=>rw[z]at h;cases h;exact XD (ih _ _ z).1
theorem ZW{x:Str}{t:Ty}(h:ye x=aB t):bootBuiltins x=aB (.type (sU t)):=by
 unfold ye at h;split at h;rename_i e;cases h;rw[show x = "int" by simpa using e];exact PyProof.Rows.boot_int;split at h;rename_i e;cases h;rw[show x = "bool" by simpa using e];decide +kernel;split at h;rename_i e;cases h;rw[show x = "tuple" by simpa using e];exact PyProof.Rows.boot_tuple;split at h;rename_i e;cases h;rw[show x = "list" by simpa using e];exact PyProof.Rows.boot_list;split at h;rename_i e;cases h;rw[show x = "str" by simpa using e];decide +kernel;split at h;rename_i e;cases h;rw[show x = "dict" by simpa using e];decide +kernel;cases h
theorem Dc{x:Str}{b:Bi}(h:yf x=aB b)(hg:Gl X x)(hm:X.mg x=aC)(hn:okN x)(hc:X.calm)(ha:SA X (e::es) fa)(hs:(e::es).all fq):SE X (.Call (.Name x p) (e::es) [] pos) (je fa (gV b)):=by
 obtain⟨n1,_,n2⟩:=jL hn;unfold yf at h;split at h;rename_i z;cases h;have z:x = "len":=by simpa using z
 subst z;exact Cv U' XG hg hm PySem.boot_len ha hs n2 n1;split at h;rename_i z;cases h;have z:x = "list":=by simpa using z
 subst z;exact zev Va XI hg hm PyProof.Rows.boot_list ha hs n2 n1;split at h;rename_i z;cases h;have z:x = "tuple":=by simpa using z
 subst z;exact zev Vb XJ hg hm PyProof.Rows.boot_tuple ha hs n2 n1;split at h;rename_i z;cases h;have z:x = "int":=by simpa using z
 subst z;exact zev Ux XM hg hm PyProof.Rows.boot_int ha hs n2 n1;split at h;rename_i z;cases h;have z:x = "abs":=by simpa using z
 subst z;exact Cv Uu XN hg hm (by decide +kernel) ha hs n2 n1;split at h;rename_i z;cases h;have z:x = "max":=by simpa using z
 subst z;exact Cv (Uv hc) XO hg hm (by decide +kernel) ha hs n2 n1;split at h;rename_i z;cases h;have z:x = "min":=by simpa using z
 subst z;exact Cv (Uw hc) XQ hg hm (by decide +kernel) ha hs n2 n1;split at h;rename_i z;cases h;have z:x = "all":=by simpa using z
 subst z;exact Cv (WE hc) XS hg hm (by decide +kernel) ha hs n2 n1;cases h
theorem Qs(h:zX b):F6 b:=λo i=>by cases b<;>first|rfl|cases h
end
section
variable{X:Cx}{C:CC}{T:List Str}{R:RX}{F:Nat->Option Fn}{k:Nat}
theorem yi{env:Env}{kd:NameKind}(hk:kd≠.free):∀{l:List (Str×NameKind)} {x:Str},l.lookup x=aB kd->
 (l.map λ(n,k)=>if(k==NameKind.free&&env.scope.kind == .function&&env.kindOf n==aB .cell)then(n,NameKind.cell)else(n,k)).lookup x=aB kd
 |[],_,h=>by cases h
 |(n,j)::r,x,h=>by
  rw[cP];simp only[ig]at h;by_cases hx:(x==n)=true;simp only[hx]at h;cases h;have:(kd==NameKind.free)=false:=by simpa using hk
  simp only[this,qV,eT,dg,ig,hx];have hx':(x==n)=false:=by simpa using hx
  simp only[hx']at h;have ih:=yi (env:=env) hk (l:=r) (x:=x) h;by_cases hc':(j==NameKind.free&&env.scope.kind == .function&&env.kindOf n==aB .cell)=true;simp only[hc',bX,ig,hx'];exact ih;have hcf:(j==NameKind.free&&env.scope.kind == .function&&env.kindOf n==aB .cell)=false:=by simpa using hc'
  simp only[hcf,eT,dg,ig,hx'];exact ih
theorem Qt(O:gP X C T R F k){ix:List Nat}(h:yg C sc ix):bW X (ownOf sc) (kE sc) ix sc/\(ownOf sc++kE sc).Nodup:=by
 unfold yg at h;simp only[aY,gH,jZ]at h;obtain⟨⟨⟨⟨⟨⟨⟨h1,h2⟩,h3⟩,h4⟩,h5⟩,h6⟩,h7⟩,h8⟩:=h;refine⟨⟨h1,h2,h3,h4,λy hy e=>O.cf _ (h5 y hy e),λq x e=>?_,h6⟩,h8⟩;have hk:q< (kE sc).length:=(jR.mp e).1;have:=h7 q (Fp.mpr hk);rw[e]at this;cases z:ix[q]? with
 |none=>rw[z]at this;cases this
 |some j=>
  rw[z]at this;simp only[aY,gH]at this;exact⟨j,rfl,by rw[O.hN];exact this.1,this.2⟩
theorem Kf(O:gP X C T R F k){ix:List Nat}(h:yg C sc ix)(D:ah)(s₀:af)(H₀:Hp)(ex:List ah):gP (X.comp (ownOf sc++kE sc) sc D s₀ H₀ ex) (tK sc) T R F k:=by
 obtain⟨S,nd⟩:=Qt O h;refine⟨rfl,nd,λx hx=>?_,λx hx=>?_,λx hx=>?_,λx hx=>?_,O.calm,O.room,rfl,S.kind,O.nU,O.z0,O.fns,O.cls,O.rs,O.wd⟩;have hx:kC (sc.names.lookup x)=true:=hx;cases z:sc.names.lookup x with
 |none=>rw[z]at hx;cases hx
 |some kd=>
  cases kd with
  | «local»=>exact .inl (yi (by decide) z)
  |cell=>exact .inr (.inl (yi (by decide) z))
  |free=>
   have:=F9 (env:=X.env) O.Qp z;by_cases hc:X.env.kindOf x=aB .cell;rw[if_pos hc]at this;exact .inr (.inl this);rw[if_neg hc]at this;exact .inr (.inr this)
  |globalExplicit=>rw[z]at hx;cases hx
  |globalImplicit=>rw[z]at hx;cases hx
 have hx:lQ false (sc.names.lookup x)=true:=hx;cases z:sc.names.lookup x with
 |none=>rw[z]at hx;cases hx
 |some kd=>
  cases kd with| «local»=>exact⟨.inl (yi (by decide) z),.inr (yi (by decide) z)⟩|cell=>rw[z]at hx;cases hx|free=>rw[z]at hx;cases hx|globalExplicit=>rw[z]at hx;cases hx|globalImplicit=>rw[z]at hx;cases hx
 exact yi (by decide) hx;have hx:sc.names.lookup x=aB .cell\/sc.names.lookup x=aB .free:=hx;rcases hx with z|z
 exact .inl (yi (by decide) z);have:=F9 (env:=X.env) O.Qp z;by_cases hc:X.env.kindOf x=aB .cell;rw[if_pos hc]at this;exact .inl this;rw[if_neg hc]at this;exact .inr this
end
theorem map_some{α β:Type}{o:Option α}{f:α->β}{b:β}(h:o.map f=aB b):∃a,o=aB a/\b=f a:=by
 cases o with|none=>cases h|some a=>cases h;exact⟨a,rfl,rfl⟩
structure oE(X:Cx)(C:CC)(T:List Str)(F:Nat->Option Fn)(k n:Nat):Prop where
 e:∀e c,cE X.K T n C e=aB c->SE X e (ev (run F k) c)/\fq e=true
 t:∀e c,cT X.K T n C e=aB c->ST X e (ev (run F k) c)
 w:∀e kd c tg,cW X.K T n C e=aB (kd,c)->C7 kd tg=true->PI X tg e (fR X.K kd (ev (run F k) c))/\∀x,foldedSetIterable e X.env x=pure x
section
variable{X:Cx}{C:CC}{T:List Str}{R:RX}{F:Nat->Option Fn}{k n:Nat}
theorem Dd(O:gP X C T R F k)(ih:oE X C T F k n)(e:ao)(c:E)(h:cT X.K T (n+1) C e=aB c):ST X e (ev (run F k) c):=by
 unfold cT at h;split at h;split at h;split at h;rename_i hs;split at h;rename_i h1 h2 h3;cases h;exact Xm O.GH h1 hs (ih.e _ _ h2).1 (ih.e _ _ h3).1;cases h;cases h;split at h;rename_i hs;split at h;rename_i h1 h2 h3 h4 h5;cases h;exact Xo O.GH h1 h2 hs (ih.e _ _ h3).1 (ih.e _ _ h4).1 (ih.e _ _ h5).1;cases h;cases h;cases h;split at h;obtain⟨a,h1,rfl⟩:=map_some h;exact Xp (ih.t _ _ h1);cases h;split at h;exact((GJ ih.t).1 h).pt;exact((GJ ih.t).2 h).pt;obtain⟨a,h1,rfl⟩:=map_some h;exact JB (ih.e _ _ h1).1 λ_=>rfl;obtain⟨a,h1,rfl⟩:=map_some h;exact JB (ih.e _ _ h1).1 λ_=>rfl;obtain⟨a,h1,rfl⟩:=map_some h;exact JB (ih.e _ _ h1).1 λ_=>rfl;cases h
theorem De(h:∀a b c,e≠.Set a b c):∀x,foldedSetIterable e env x=pure x:=by
 intro x;cases e<;>first|rfl|exact absurd rfl (h _ _ _)
theorem Dg(O:gP X C T R F k)(ih:oE X C T F k n)(e:ao)(kd:Kd)(c:E)(tg:ao)(h:cW X.K T (n+1) C e=aB (kd,c))(hw:C7 kd tg):PI X tg e (fR X.K kd (ev (run F k) c))/\∀x,foldedSetIterable e X.env x=pure x:=by
 unfold cW at h;split at h;rename_i f p args pos;refine⟨?_,λx=>rfl⟩;split at h;rename_i hf;have hf:f = "range":=by simpa using hf
 subst hf;split at h;rename_i ha;obtain⟨g1,g2⟩:=GI O ha;split at h;rename_i a;obtain⟨x,h1,h2⟩:=map_some h;cases h2;obtain⟨h3,h4⟩:=ih.e _ _ h1;exact Yj (Gp h3 Ju (eW h4)) h4 g1 g2;cases h;cases h;split at h;rename_i hf;have hf:f = "enumerate":=by simpa using hf
 subst hf;split at h;rename_i ha;obtain⟨g1,g2⟩:=GI O ha;split at h;rename_i a;obtain⟨x,h1,h2⟩:=map_some h;cases h2;obtain⟨h3,h4⟩:=ih.e _ _ h1;cases tg<;>first|exact Yo h3 h4 g1 g2|cases hw
 cases h;cases h;split at h;rename_i hf;have hf:f = "zip":=by simpa using hf
 subst hf;split at h;rename_i ha;obtain⟨g1,g2⟩:=GI O ha;split at h;rename_i a b;split at h;rename_i x y h1 h2;cases h;obtain⟨h3,h4⟩:=ih.e _ _ h1;obtain⟨h5,h6⟩:=ih.e _ _ h2;cases tg<;>first|exact Yr (Gp h3 (Gp h5 Ju (eW h6)) (eW h4)) h4 h6 g1 g2|cases hw
 cases h;cases h;cases h;obtain⟨x,h1,h2⟩:=map_some h;cases h2;exact Pc (ih.e _ _ h1).1;cases h;rename_i hns;obtain⟨x,h1,h2⟩:=map_some h;cases h2;exact⟨Pc (ih.e _ _ h1).1,De (by first|exact hns|(intro a b c z;exact hns a b c z))⟩
end
section
variable{X:Cx}{C:CC}{T:List Str}{R:RX}{F:Nat->Option Fn}{k n:Nat}
theorem ZX(O:gP X C T R F k){x:Str}(h:cE X.K T (n+1) C (.Name x p)=aB c):SE X (.Name x p) (ev (run F k) c):=by
 simp only[cE]at h;split at h;rename_i hn;obtain⟨n1,n2,n3⟩:=jL hn;split at h;rename_i hv;obtain⟨i,h1,rfl⟩:=map_some h;exact Xa (by rw[O.hN];exact oB h1) (O.vis x hv) n1 n2;split at h;rename_i hg;split at h;rename_i v hv;obtain⟨w,h1,rfl⟩:=map_some h;obtain⟨y,h2,h3⟩:=Ql 8 v w h1;exact Ce (Ng (O.gl x (by simpa using hg)) (O.nU x v hv) h2 n1) h3;cases h;cases h;cases h
theorem ZY{i:Nat}(h:kD a):ev cl (.call i (jM a))=je (ev cl a) (λws h=>cl i (ws++[.aG]) h):=by
 funext ρ h1;simp only[ev,Qn h];show Res.bind (Res.bind (ev cl a ρ h1) _) _=Res.bind (ev cl a ρ h1) _;cases ev cl a ρ h1 with|no=>rfl|ex _ _=>rfl|ok y h2=>cases y<;>rfl
theorem ZZ(O:gP X C T R F k)(ih:oE X C T F k n){f:Str}{p pos:Pos}{args:List ao}{c:E}(hcl:nS f)(hn:okN f)(hg:Gl X f)
 (h:(match kB T f 0,args with
      |some i,_::_=>if C5 X.K "Balls.__init__" (args.length+1)=true then(cL (cE X.K T n C) args).map (λa=>.call i (jM a))else(cL (cE X.K T n C) args).map (.call i)
      |_,_=>aC)=aB c):SE X (.Call (.Name f p) args [] pos) (ev (run F k) c):=by
 split at h;rename_i i e es hi;have hx:f = "Balls":=by unfold nS at hcl;simpa using hcl
 cases k with
 |zero=>
  have Qu:∀(a:E)(ρ:En)(h1:VH)(w:W)(h':VH),ev (run F 0) (.call i a) ρ h1≠.ok w h':=λa ρ h1 w h' q=>by
   simp only[ev]at q;refine bO q λy h2 _ e2=>?_;cases y<;>cases e2
  intro pins s σ H Q I ⟨ρ,h1,m,w,h',_,_,q,_⟩;split at h;obtain⟨a,_,rfl⟩:=map_some h;exact absurd q (Qu _ _ _ _ _);obtain⟨a,_,rfl⟩:=map_some h;exact absurd q (Qu _ _ _ _ _)
 |succ k=>
  obtain⟨D,g,fd,ps,ii,na,a1,a2,a3,a4,a5,a6,a7⟩:=O.cls i f (oB hi) hcl k rfl;have hm:X.mg f=aB (.ref D):=by rw[hx];exact O.nU _ _ (Gz a1).1
  split at h;rename_i Dh;obtain⟨a,h1,rfl⟩:=map_some h;obtain⟨h2,h3⟩:=ek ih.e h1;rw[ZY (Ka h1)];exact Y9 a2 a3 a4 O.room hg hm (a6 (Qm Dh)) h2 h3 (jL hn).1 a7;obtain⟨a,h1,rfl⟩:=map_some h;obtain⟨h2,h3⟩:=ek ih.e h1;exact Y8 a2 a3 a4 O.room hg hm a5 h2 h3 (jL hn).1 a7
 cases h
theorem Z0(O:gP X C T R F k)(ih:oE X C T F k n){f:Str}(h:cE X.K T (n+1) C (.Call (.Name f p) args [] pos)=aB c):SE X (.Call (.Name f p) args [] pos) (ev (run F k) c):=by
 simp only[cE]at h;split at h;rename_i hn;rw[aY]at hn;have hg:=O.gl f (by simpa using hn.2);split at h;rename_i hm;have hm:=O.z0 f hm;split at h;rename_i hf;have hf:f = "isinstance":=by simpa using hf
 subst hf;split at h;rename_i a t pt;split at h;rename_i ty x h1 h2;split at h;rename_i hc;cases h;rw[aY]at hc;obtain⟨g1,g2⟩:=GI O hc.2;obtain⟨h3,h4⟩:=ih.e _ _ h2;obtain⟨n1,n2,n3⟩:=jL hc.1;exact XW ty h3 h4 hg hm g1 g2 (ZW h1) n3 n1;cases h;cases h;cases h;split at h;rename_i b e es hb;obtain⟨a,h1,rfl⟩:=map_some h;obtain⟨h2,h3⟩:=ek ih.e h1;exact Dc hb hg hm hn.1 O.calm h2 h3;cases h;rename_i v hv;split at h;rename_i hcl;exact ZZ O ih (hcl:=hcl) hn.1 hg h;rename_i Kg;split at h;cases h;rename_i hnm;have hnm:fY f=aC:=by simpa using hnm
 split at h;rename_i i hi;obtain⟨fa,fd,ps,fn,q1,q2,q3,q4,q5,q6,q7⟩:=O.fns i f (oB hi) (ZP hn.1) (by simpa using Kg);have q1:=zY q1 hnm;split at h;rename_i Dh;rw[aY]at Dh;obtain⟨a,h1,rfl⟩:=map_some h;obtain⟨h2,h3⟩:=ek ih.e h1;have hl:∀ws h w h',run F k i ws h=.ok w h'->ws.length=ps.length:=λws h w h' e=>by rw[tu q5 e,q6]
 have hev:ev (run F k) (.call i (jM a))=je (ev (run F k) a) (λws h=>run F k i (ws++[.aG]) h):=by
  funext ρ h;simp only[ev,Qn (Ka h1)];show Res.bind (Res.bind (ev (run F k) a ρ h) _) _=Res.bind (ev (run F k) a ρ h) _;cases ev (run F k) a ρ h with|no=>rfl|ex _ _=>rfl|ok y h2=>cases y<;>rfl
 rw[hev];cases args with|nil=>cases Dh.2|cons e es=>exact Ye q2 O.room hg (O.nU f _ q1) q3 (q7 (Qm Dh.1)) h2 h3 (jL hn.1).1 hl
 obtain⟨a,h1,rfl⟩:=map_some h;obtain⟨h2,h3⟩:=ek ih.e h1;have hl:∀ws h w h',run F k i ws h=.ok w h'->ws.length=ps.length:=λws h w h' e=>by rw[tu q5 e,q6]
 cases args with
 |nil=>
  simp only[cL]at h1;cases h1;exact Yd q2 O.room hg (O.nU f _ q1) q3 q4 (jL hn.1).1 hl
 |cons e es=>exact Yc q2 O.room hg (O.nU f _ q1) q3 q4 h2 h3 (jL hn.1).1 hl
 cases h;cases h;cases h
theorem Z1(O:gP X C T R F k)(ih:oE X C T F k n){m:Str}(h:cE X.K T (n+1) C (.Call (.Attribute o m ap) args [] pos)=aB c):SE X (.Call (.Attribute o m ap) args [] pos) (ev (run F k) c):=by
 simp only[cE]at h;split at h;rename_i hn;rw[aY]at hn;split at h;rename_i y hy;obtain⟨y1,y2,y3⟩:=Zf hy;split at h;rename_i D i x e es hD hi hx;split at h;rename_i hlt;obtain⟨z,h1,rfl⟩:=map_some h;obtain⟨h2,h3⟩:=ek ih.e h1;obtain⟨fa,fd,ps,fn,q1,q2,q3,q4,q5,q6,q7⟩:=O.fns i y (oB hi) y2 y3;have hl:∀ws h w h',run F k i ws h=.ok w h'->ws.length=ps.length:=λws h w h' e=>by rw[tu q5 e,q6]
 exact Y5 (Gz hD).2 (Zg q1 y1 hD) q2 O.room q4 (ih.e _ _ hx).1 h2 h3 hl (Ze hn.1 hn.2 h3 hlt);cases h;cases h;split at h;rename_i x a hx;split at h;rename_i hm;have hm:m = "append":=by simpa using hm
 subst hm;obtain⟨y,h1,rfl⟩:=map_some h;obtain⟨h2,h3⟩:=ih.e _ _ h1;exact X3 (ih.e _ _ hx).1 h2 hn.1 h3 hn.2;cases h;cases h;cases h
theorem Z2{ow fr:List Str}{ifs:List ao}{c:E}(O:∀D s₀ H₀ ex,oE (X.comp (ow++fr) sc D s₀ H₀ ex) (tK sc) T F k n)
 (h:(match ifs with|[]=>aB (E.cst (.bl true))|[c]=>cT X.K T n (tK sc) c|_=>aC)=aB c) (D:ah) (s₀:af) (H₀:Hp) (ex:List ah):sG (X.comp (ow++fr) sc D s₀ H₀ ex) ifs (iA X.K (ev (run F k) c)):=by
 split at h;cases h;exact λpins s σ H Q I z9=>z9.el λρ h m b h' f r e q=>by
  cases e;exact Vs pins s σ H Q I (q H m .refl r)
 exact Vt ((O D s₀ H₀ ex).t _ _ h);cases h
theorem Qv(O:gP X C T R F k)(ih:oE X C T F k n)(Aa:∀{sc:ay} {ix:List Nat},yg C sc ix=true->∀D s₀ H₀ ex,oE (X.comp (ownOf sc++kE sc) sc D s₀ H₀ ex) (tK sc) T F k n)
 {elt tg iter:ao} {ifs:List ao} {sc:ay} {pos:Pos} {c:E} (h:cE X.K T (n+1) C (.ListComp elt [⟨tg,iter,ifs,0⟩] sc pos)=aB c) :
 ∃kd a t ix cc ce,c=.lc kd a t (ownOf sc).length ix cc ce/\bW X (ownOf sc) (kE sc) ix sc/\PI X tg iter (fR X.K kd (ev (run F k) a))/\(∀D s₀ H₀ ex,PG (X.comp (ownOf sc++kE sc) sc D s₀ H₀ ex) tg (gO X.K t))/\
  (∀D s₀ H₀ ex,sG (X.comp (ownOf sc++kE sc) sc D s₀ H₀ ex) ifs (iA X.K (ev (run F k) cc)))/\(∀D s₀ H₀ ex,PE (X.comp (ownOf sc++kE sc) sc D s₀ H₀ ex) elt (iP X.K (ev (run F k) ce)))/\∀x,foldedSetIterable iter X.env x=pure x:=by
 simp only[cE]at h;split at h
 .rename_i ix hix
  split at h
  .rename_i hc
   split at h
   .rename_i kd a t cc ce h1 h2 h3 h4
    split at h
    case isFalse=>cases h
    rename_i hw;cases h;obtain⟨w1,w2⟩:=ih.w _ _ _ tg h1 hw;exact⟨kd,a,t,ix,cc,ce,rfl,(Qt O hc).1,w1,λD s₀ H₀ ex=>pR (Kf O hc D s₀ H₀ ex) h2,Z2 (Aa hc) h3,λD s₀ H₀ ex=>((Aa hc D s₀ H₀ ex).e _ _ h4).1,w2⟩
   cases h
  cases h
 cases h
theorem Di(O:gP X C T R F k)(ih:oE X C T F k n)(Aa:∀{sc:ay} {ix:List Nat},yg C sc ix=true->∀D s₀ H₀ ex,oE (X.comp (ownOf sc++kE sc) sc D s₀ H₀ ex) (tK sc) T F k n)
 (e:ao) (c:E) (h:cE X.K T (n+1) C e=aB c):SE X e (ev (run F k) c)/\fq e=true:=by
 have h0:=h;unfold cE at h;split at h;exact⟨ZX O h0,rfl⟩;refine⟨?_,rfl⟩;split at h;cases h;exact Xb;cases h;exact Cf;cases h;exact Xc;cases h;exact Xd;cases h;obtain⟨a,h1,rfl⟩:=map_some h;exact⟨Xe (ek ih.e h1).1,rfl⟩;obtain⟨a,h1,rfl⟩:=map_some h;exact⟨Xf (ek ih.e h1).1,rfl⟩;refine⟨?_,rfl⟩;rename_i ks vs pos;split at h;rename_i hc;simp only[aY]at hc;obtain⟨a,h1,rfl⟩:=map_some h;cases ks with
 |nil=>
  cases vs with|nil=>simp only[C6]at h1;cases h1;exact Yb|cons _ _=>cases h1
 |cons q ks=>exact X7 O.u2 (Qq ih.e h1) hc.2 (uK hc.1.2) (by simp) (kU hc.1.1)
 cases h;refine⟨?_,rfl⟩;split at h;rename_i h1 h2 h3;cases h;exact Ci (Ck h1) (Xk _) (ih.e _ _ h2).1 (ih.e _ _ h3).1;cases h;split at h;obtain⟨a,h1,rfl⟩:=map_some h;exact⟨Xq (ih.e _ _ h1).1,rfl⟩;obtain⟨a,h1,rfl⟩:=map_some h;exact⟨Xw (ih.e _ _ h1).1,rfl⟩;cases h;split at h;exact⟨(mR ih.e).1 h,rfl⟩;exact⟨(mR ih.e).2 h,rfl⟩;split at h;refine⟨?_,rfl⟩;split at h;rename_i hs;split at h;rename_i h1 h2 h3;cases h;exact Xl O.GH h1 hs (ih.e _ _ h2).1 (ih.e _ _ h3).1;cases h;cases h;refine⟨?_,rfl⟩;split at h;rename_i hs;split at h;rename_i h1 h2 h3 h4 h5;cases h;exact Xn O.GH h1 h2 hs (ih.e _ _ h3).1 (ih.e _ _ h4).1 (ih.e _ _ h5).1;cases h;cases h;cases h;refine⟨?_,rfl⟩;split at h;rename_i h1 h2 h3;cases h;exact Xu (ih.t _ _ h1) (ih.e _ _ h2).1 (ih.e _ _ h3).1;cases h;split at h;split at h;refine⟨?_,rfl⟩;split at h;rename_i h1 h2 h3;cases h;exact XF (ih.e _ _ h1).1 (vz ih.e h2) (vz ih.e h3);cases h;cases h;refine⟨?_,rfl⟩;split at h;rename_i hs;split at h;rename_i h1 h2;cases h;exact XA O.u2 (ih.e _ _ h1).1 (ih.e _ _ h2).1 (Qs hs);cases h;cases h;split at h;split at h;exact⟨Z0 O ih h0,rfl⟩;exact⟨Z1 O ih h0,rfl⟩;cases h;cases h;refine⟨?_,rfl⟩;split at h;rename_i hpl;split at h;rename_i D a hD ha;split at h;rename_i hna;cases h;exact YL (Gz hD).2 (CW hna) (ih.e _ _ ha).1 (JD hpl);cases h;cases h;cases h;split at h;refine⟨?_,rfl⟩;obtain⟨kd,a,t,ix,cc,ce,rfl,S,w1,w2,w3,w4,w5⟩:=Qv O ih Aa h0;exact CP S O.calm w1 w2 w3 w4 w5;cases h;cases h
end
theorem tN{T:List Str}{R:RX}{F:Nat->Option Fn}{k:Nat}:∀(n:Nat) {X:Cx} {C:CC},gP X C T R F k->oE X C T F k n
 |0,_,_,_=>⟨(λe c h=>nomatch h),(λe c h=>nomatch h),(λe kd c tg h _=>nomatch h)⟩
 |n+1,X,C,O=>by
  have ih:=tN n O;have Aa:∀{sc:ay}{ix:List Nat},yg C sc ix=true->∀D s₀ H₀ ex,oE (X.comp (ownOf sc++kE sc) sc D s₀ H₀ ex) (tK sc) T F k n:=λhc D s₀ H₀ ex=>tN n (Kf O hc D s₀ H₀ ex);exact⟨Di O ih Aa,Dd O ih,Dg O ih⟩
section
variable{X:Cx}{C:CC}{T:List Str}{R:RX}{F:Nat->Option Fn}{k d:Nat}
theorem yj{f:aq->Option S}(ih:∀st c,f st=aB c->SS X st (exs cl c)):∀{sts:List aq} {c:S},lR f sts=aB c->JK X sts (exs cl c)
 |[],_,h=>by cases h;exact Po
 |s::r,c,h=>by
  unfold lR at h;split at h;rename_i a b ha hb;cases h;exact Pp (ih s a ha) (yj ih hb);cases h
theorem Z3{K:aI}{T:List Str}{n:Nat}{C:CC}{elt:ao}{gs:List Comprehension}{sc:ay}{lp:Pos}{c:E}(h:cE K T (n+1) C (.ListComp elt gs sc lp)=aB c):∃tg iter ifs,gs=[⟨tg,iter,ifs,0⟩]:=by
 match gs,h with|[],h=>cases(show(aC:Option E)=aB c from h)|[⟨tg,iter,ifs,0⟩],_=>exact⟨tg,iter,ifs,rfl⟩|[⟨_,_,_,.ofNat (k+1)⟩],h=>cases(show(aC:Option E)=aB c from h)|[⟨_,_,_,.negSucc k⟩],h=>cases(show(aC:Option E)=aB c from h)|⟨_,_,_,0⟩::_::_,h=>cases(show(aC:Option E)=aB c from h)|⟨_,_,_,.ofNat (k+1)⟩::_::_,h=>cases(show(aC:Option E)=aB c from h)|⟨_,_,_,.negSucc k⟩::_::_,h=>cases(show(aC:Option E)=aB c from h)
theorem Z4(O:gP X C T R F k){x:Str}{p pos:Pos}{e:ao}{i:Nat}{c:E}(hi:iS C (.Name x p)=aB i)(h:cE X.K T d C e=aB c):SS X (.Assign [.Name x p] e pos) (exs (run F k) (.set i c)):=by
 obtain⟨x',p',ex,h1,h2,h3⟩:=mQ O hi;cases ex;have nd:X.N.Nodup:=O.hN▸O.nd;have Sd:=tN (T:=T) (F:=F) (k:=k) d O;by_cases hc:xP e=true;exact Pu nd h1 h2 h3 (Sd.e _ _ h).1 (Gv hc);cases d with
 |zero=>cases h
 |succ n=>
  cases e with
  |ListComp elt gs sc lp=>
   have sw:∃b:Bool,swapsWith (.ListComp elt gs sc lp) (aB (.Name x p)) pos.line X.env=pure b:=⟨_,rfl⟩
   obtain⟨b,hb⟩:=sw;cases b with
   |false=>exact Pu nd h1 h2 h3 (Sd.e _ _ h).1 hb
   |true=>
    obtain⟨tg,iter,ifs,rfl⟩:=Z3 h;obtain⟨kd,a,t,ix,cc,ce,rfl,S,w1,w2,w3,w4,w5⟩:=Qv O (tN n O) (λhc D s₀ H₀ ex=>tN n (Kf O hc D s₀ H₀ ex)) h;exact YE nd h1 h2 h3 S O.calm w1 w2 w3 w4 hb w5
  |SetComp _ _ _ _=>unfold cE at h;cases h
  |DictComp _ _ _ _ _=>unfold cE at h;cases h
  |_=>exact absurd rfl hc
structure tO(X:Cx)(C:CC):Prop where
 stk:X.stack=X.env::X.outer
 fr:X.env.frame=aB X.env.locals
 fn:∀x,X.fn x=true
 lc:∀x,C.names.lookup x=aB .local->X.env.kindOf x=aB .local/\Loc X.env.scope x/\oN X.env.scope x
theorem Z5(O:gP X C T R F k)(tp:tO X C){f xb nm:Str}{p cpos epos t2 hpos pos rp:Pos}(h:yh X.K T R d C f (e::es) xb nm hb=aB c) :
 SS X (.Try [.Expr (.Call (.Name f p) (e::es) [] cpos) epos] [.ExceptHandler (aB (.Name xb t2)) (aB nm) [.Return (aB hb) rp] hpos] [] [] pos) (exs (run F k) c):=by
 unfold yh at h;split at h
 case isFalse=>cases h
 rename_i hc;simp only[aY,jY]at hc;obtain⟨⟨⟨⟨⟨⟨⟨c1,c2⟩,c3⟩,c4⟩,c5⟩,c6⟩,c7⟩,c8⟩:=hc;split at h
 case h_2=>cases h
 rename_i j D i o a hj hD hi ho ha;split at h
 case isFalse=>cases h
 rename_i hs;cases h;obtain⟨fa,fd,ps,fn,q1,q2,q3,q4,q5,q6⟩:=O.rs j f (oB hj);have Sd:=tN (T:=T) (F:=F) (k:=k) d O;obtain⟨h2,h3⟩:=ek Sd.e ha;obtain⟨l1,l2,l3⟩:=tp.lc nm c7;refine ZN (tb:=R.tb) tp.stk tp.fr q2 O.room (λx=>O.room.h) (O.gl f c2) (O.nU f _ (zY q1 (by simpa using c3))) q3 q4 (λws h w h' e=>by rw[tu q5 e,q6]) (by
  have e:X.eH=X:=by
   have:=O.xe;obtain⟨⟩:=X;cases this;rfl
  rw[e];exact h2) h3 (O.gl xb c5) (O.nU xb _ hD) (O.hN▸O.nd) (by rw[O.hN];exact oB hi) l1 l2 l3 (tp.fn nm) ho O.wd (O.gl _ c8) (λC z hm=>?_) (jL c1).1 (jL c4).1 (jL c6).1 (jL c6).2.1
 exact(jZ.mp hs) _ hm
theorem mS(O:gP X C T R F k)(tp:tO X C):∀(n:Nat) (st:aq) (c:S),cS X.K T R d n C st=aB c->SS X st (exs (run F k) c)
 |0,_,_,h=>by cases h
 |n+1,st,c,h=>by
  have nd:X.N.Nodup:=O.hN▸O.nd;have Sd:=tN (T:=T) (F:=F) (k:=k) d O;have ih:=mS O tp n;have hp:PassesOwn (model X.prog X.w) X.A X.env X.xe:=by rw[O.xe];exact PassesOwn.never
  unfold cS at h;split at h;cases h;exact Yz;cases h;exact YA;cases h;exact YB;cases h;exact CO;split at h;cases h;exact YD;obtain⟨a,h1,rfl⟩:=map_some h;exact YC (Sd.e _ _ h1).1;split at h;rename_i hc;obtain⟨a,h1,rfl⟩:=map_some h;exact Pq (Sd.e _ _ h1).1 hc;cases h;split at h;split at h;split at h;rename_i i a h1 h2;cases h;exact Z4 O h1 h2;cases h;split at h;rename_i ht;split at h;rename_i h1 h2;cases h;exact YH O.calm nd (Ke O h1) (Sd.e _ _ h2).1 ht;cases h;cases h;split at h;rename_i hs;split at h;rename_i h1 h2 h3;cases h;exact YN O.u2 (Sd.e _ _ h1).1 (Sd.e _ _ h2).1 (Sd.e _ _ h3).1 hs;cases h;cases h;split at h;rename_i hs;split at h;rename_i D a b hD ha hb;split at h;rename_i hna;cases h;exact YM (Gz hD).2 (CW hna) (Sd.e _ _ ha).1 (Sd.e _ _ hb).1 (Gv hs);cases h;cases h;cases h;cases h;cases h;split at h;split at h;rename_i h1 h2 h3;cases h;obtain⟨x',p',ex,a1,a2,a3⟩:=mQ O h1;cases ex;exact YS h2 nd a1 a2 a3 (Sd.e _ _ h3).1;cases h;cases h;split at h;rename_i h1 h2 h3;cases h;exact PD (Sd.t _ _ h1) (yj ih h2) (yj ih h3);cases h
  .rename_i tg it b el pos
   split at h
   .split at h
    .rename_i h1 h2 h3
     split at h
     case isFalse=>cases h
     rename_i hw;cases h;obtain⟨w1,w2⟩:=Sd.w _ _ _ tg h1 hw;exact PJ hp O.calm w1 (pR O h2) (yj ih h3) w2
    cases h
   cases h
  split at h;split at h;rename_i h1 h2;cases h;exact YW hp (Sd.t _ _ h1) (yj ih h2);cases h;cases h;split at h;split at h;rename_i q hq;split at h;cases h;rename_i hne;obtain⟨rfl,rfl⟩:=ZR hq;generalize q.c.args=as at h hne ⊢;cases as with|nil=>exact absurd rfl hne|cons e es=>exact Z5 O tp h
  cases h;cases h;cases h
end
noncomputable def Dj:FuncBody->Option (List aq)|.stmts b=>aB b|_=>aC
theorem Z6{d:Data}(h:GG d):∃n,d=.seq #[.none] n:=by
 cases d with
 |seq xs n=>
  obtain⟨l⟩:=xs;unfold GG at h;simp only[]at h;split at h;rename_i v;cases v<;>first|exact⟨n,rfl⟩|cases h
  cases h
 |_=>cases h
theorem Z7{K:aI}{v:aa}(h:fH K v):∃t o n,v=.ref t/\K.lookup t=aB o/\o.data=.seq #[.none] n:=by
 cases v with
 |ref t=>
  have h:(match K.lookup t with|some o=>GG o.data|none=>false)=true:=h;cases e:K.lookup t with
  |none=>rw[e]at h;cases h
  |some o=>
   rw[e]at h;obtain⟨n,q⟩:=Z6 h;exact⟨t,o,n,rfl,e,q⟩
 |_=>cases h
noncomputable def lS(ps:List Str)(sc:ay):List Str:=ps++(sc.names.filter λy=>(y.2 == .local||y.2 == .cell) && !(ps.contains y.1)).map (·.1)
noncomputable def Ab(N ps:List Str)(sc:ay):Bool:=
 decide (sc.kind=.function) && !sc.isCoroutine && !sc.isGenerator&&decide N.Nodup&&decide (N.take ps.length=ps)&&ps.all (λx=>decide (sc.names.lookup x=aB .local\/sc.names.lookup x=aB .cell))&&sc.names.all (λy=>decide (y.2≠.free))&&decide ps.Nodup
theorem Kh{N ps:List Str}(h:Ab N ps sc):bY N ps sc/\ps.Nodup:=by
 unfold Ab at h;simp only[aY,gH,jZ,Fc]at h;obtain⟨⟨⟨⟨⟨⟨⟨h1,h2⟩,h3⟩,h4⟩,h5⟩,h6⟩,h7⟩,h8⟩:=h;exact⟨⟨h1,h2,h3,h4,h5,h6,h7⟩,h8⟩
noncomputable def iC(x:Str):Str:=(fY x).getD x
noncomputable def Ac(K:aI)(g:CC->List aq->Option S)(x:Str):Option Fn:=match fnAt K x with
 |some (f,o,fd)=>(match tH fd.params,Dj fd.body with
  |some args,aB body=>if fd.name==iC x&&fd.qualname==x&&Nat.beq fd.globals mainGlobals&&fd.closure.isEmpty&& (isNone fd.defaults||fH K fd.defaults && !args.isEmpty)&&Nat.beq fd.builtins builtinsNs&&PySem.W.codeIn K fd.code x&&PySem.W.keepIn K (.ref f) &&
   Ab (lS (args.map (·.arg)) fd.scope) (args.map (·.arg)) fd.scope then
   (g ⟨lS (args.map (·.arg)) fd.scope,fd.scope.names,true⟩ body).map λb=>⟨(args.map (·.arg)).length,(lS (args.map (·.arg)) fd.scope).length,b⟩
   else aC
  |_,_=>aC)
 |none=>aC
theorem Kl{x:Str}{args:List Arg}(c1:(fd.name==iC x))(c2:(fd.qualname==x))(c3:Nat.beq fd.globals mainGlobals)(c4:fd.closure.isEmpty)(c6:Nat.beq fd.builtins builtinsNs)(ha:tH fd.params=aB args)(hb:Dj fd.body=aB body) :
 ∃dx,fd=PySem.W.fnOf (iC x) x ⟨[],args,aC,[],[],aC,dx⟩ body fd.scope fd.defaults fd.kwdefaults fd.doc fd.pyModule fd.annotations fd.code fd.closureTuple:=by
 obtain⟨nm,qn,pr,bd,sc,gl,cl,df,kd,dc,pm,an,cdv,ct,bu⟩:=fd;have e1:nm=iC x:=by simpa using c1
 have e2:qn=x:=by simpa using c2
 have e3:gl=mainGlobals:=uK c3;have e4:cl=[]:=by simpa using c4
 have e6:bu=builtinsNs:=uK c6;have e7:bd=.stmts body:=by
  cases bd with|stmts b'=>cases hb;rfl|expr _=>cases hb
 obtain⟨dx,e8⟩:∃dx,pr=⟨[],args,aC,[],[],aC,dx⟩:=by
  unfold tH at ha;split at ha;cases ha;rename_i z;exact⟨_,z⟩;cases ha
 exact⟨dx,by rw[e1,e2,e3,e4,e6,e7,e8]⟩
theorem Km{K:aI}{x:Str}{fd:au}{args:List Arg}{body:List aq}{dx:List ao}{sc:ay}{df kd dc pm:aa}{an:Option ah}{cdv ct:aa}{b:Bool}(e:fd=PySem.W.fnOf (iC x) x ⟨[],args,aC,[],[],aC,dx⟩ body sc df kd dc pm an cdv ct)(nd:(args.map (·.arg)).Nodup)
 (hb:b=fH K df) (c5:(isNone df||fH K df && !args.isEmpty)):Binds K fd (args.map (·.arg)) []/\(b=true->Binds K fd (args.map (·.arg)) [.none])/\(b=false->∀us:List aa,us.length=(args.map (·.arg)).length->bindArgs fd ⟨us,[]⟩=pure ((args.map (·.arg)).zip us)):=by
 subst e hb;rw[rT,aY]at c5;rcases c5 with c5|⟨c5,c0⟩
 have e5:df=.none:=by cases df<;>first|rfl|cases c5
 subst e5;exact⟨.all λus hl=>PL hl nd,(λz=>nomatch z),λ_ us hl=>PL hl nd⟩;obtain⟨t,o,n,rfl,hk,hd⟩:=Z7 c5;rw[c5];obtain⟨qs,z,Dl⟩:∃qs z,args.map (·.arg)=qs++[z]:=by
  rcases List.eq_nil_or_concat (args.map (·.arg))with q|⟨l,b,q⟩;rw[List.map_eq_nil_iff.mp q]at c0;cases c0;exact⟨l,b,by rw[q,List.concat_eq_append]⟩
 have Ko:=nd;rw[Dl]at Ko;refine⟨λs us hK hl=>?_,λ_ s us hK hl=>?_,λz=>nomatch z⟩;rw[i7]at hl ⊢;rw[Dl]at hl ⊢;exact YY Dl Ko (hK _ _ hk) hd hl;rw[Dl]at hl ⊢;exact YZ Dl Ko (hK _ _ hk) hd (by rw[gh,gh]at hl;simpa using hl)
theorem Qw{K:aI}{x:Str}{f:ah}{o:Obj}{fd:au}(h:fnAt K x=aB (f,o,fd)):dI K x=aB f/\∃oc od sl,K.lookup f=aB ⟨oc,od,.func fd,sl⟩:=by
 unfold fnAt at h;split at h;rename_i f' hn;split at h;rename_i o' ho;split at h;rename_i fd' hd;cases h;refine⟨hn,o.cls,o.dict,o.slots,?_⟩;rw[<-hd];exact ho;cases h;cases h;cases h
theorem Z8{K:aI}{g:CC->List aq->Option S}{x:Str}{fn:Fn}:∀(f:ah) (o:Obj) (fd:au) (args:List Arg) (body:List aq) (b:S),fnAt K x=aB (f,o,fd)->tH fd.params=aB args->Dj fd.body=aB body->(fd.name==iC x&&fd.qualname==x&&Nat.beq fd.globals mainGlobals&&fd.closure.isEmpty&& (isNone fd.defaults||fH K fd.defaults && !args.isEmpty)&&Nat.beq fd.builtins builtinsNs&&PySem.W.codeIn K fd.code x&&PySem.W.keepIn K (.ref f) &&
 Ab (lS (args.map (·.arg)) fd.scope) (args.map (·.arg)) fd.scope)=true->g ⟨lS (args.map (·.arg)) fd.scope,fd.scope.names,true⟩ body=aB b->fn=⟨(args.map (·.arg)).length,(lS (args.map (·.arg)) fd.scope).length,b⟩->∃f fd st ps N,dI K x=aB f/\nR K (iC x) x st f fd/\bY N ps (iy st)/\fn.n=N.length/\fn.ps=ps.length/\(Binds K fd ps []/\(gE K x=true->Binds K fd ps [.none])/\(gE K x=false->∀us:List aa,us.length=ps.length->bindArgs fd ⟨us,[]⟩=pure (ps.zip us)))/\
 g ⟨N,(iy st).names,true⟩ (zL st)=aB fn.body/\∃o' fd' args,fnAt K x=aB (f,o',fd')/\tH fd'.params=aB args/\ps=args.map (·.arg):=by
 intro f o fd args body b hf ha hb hc h1 e;rw[aY,aY,aY,aY,aY,aY,aY,aY]at hc;obtain⟨⟨⟨⟨⟨⟨⟨⟨c1,c2⟩,c3⟩,c4⟩,c5⟩,c6⟩,c7⟩,c8⟩,c9⟩:=hc;obtain⟨S,nd⟩:=Kh c9;obtain⟨hn,oc,od,sl,lk⟩:=Qw hf;obtain⟨dx,ef⟩:=Kl c1 c2 c3 c4 c6 ha hb;have hh:gE K x=fH K fd.defaults:=by unfold gE;rw[hf]
 exact⟨f,fd,.FunctionDef (iC x) ⟨[],args,aC,[],[],aC,dx⟩ body [] aC [] fd.scope aC (iC x) ⟨0,0,0,0⟩,args.map (·.arg),lS (args.map (·.arg)) fd.scope,hn,⟨⟨oc,od,_,_,_,_,_,fd.code,_,sl,ef,lk,c7⟩,c8⟩,S,by rw[e],by rw[e],Km ef nd hh c5,by rw[e];exact h1,o,fd,args,hf,ha,rfl⟩
theorem kF{K:aI}{g:CC->List aq->Option S}{x:Str}{fn:Fn}(h:Ac K g x=aB fn):∃f fd st ps N,dI K x=aB f/\nR K (iC x) x st f fd/\bY N ps (iy st)/\fn.n=N.length/\fn.ps=ps.length/\(Binds K fd ps []/\(gE K x=true->Binds K fd ps [.none])/\(gE K x=false->∀us:List aa,us.length=ps.length->bindArgs fd ⟨us,[]⟩=pure (ps.zip us)))/\
 g ⟨N,(iy st).names,true⟩ (zL st)=aB fn.body/\∃o' fd' args,fnAt K x=aB (f,o',fd')/\tH fd'.params=aB args/\ps=args.map (·.arg):=by
 unfold Ac at h;split at h;rename_i f o fd hf;split at h;rename_i args body ha hb;split at h;rename_i hc;obtain⟨b,h1,e⟩:=map_some h;exact Z8 f o fd args body b hf ha hb hc h1 e;cases h;cases h;cases h
theorem Kp{α β:Type}{f:α->Option β}:∀{l:List α} {r:List β},aW f l=aB r->∀(i:Nat) (a:α),l[i]?=aB a->∃b,r[i]?=aB b/\f a=aB b
 |[],_,_,i,a,e=>by simp at e
 |x::l,r,h,i,a,e=>by
  unfold aW at h;split at h;rename_i b hb;split at h;rename_i bs yd;cases h;cases i with
  |zero=>simp at e;subst e;exact⟨b,rfl,hb⟩
  |succ i=>
   obtain⟨c,h1,h2⟩:=Kp yd i a (by simpa using e);exact⟨c,by simpa using h1,h2⟩
  cases h;cases h
inductive MV where
 |exc|oF (bs:List Bool)|sts (xs:List Str)|bl (b:Bool)|int (i:Int)|str (x:Str)
noncomputable def jf(C:ah)(H:Hp)(v:V):MV->Prop|.exc=>∃a,v=.ref a/\tw C a H|.oF bs=>∃l,v=.ref l/\H l=aB (.lst (bs.map .bl))|.sts xs=>∃l,v=.ref l/\H l=aB (.lst (xs.map .str))|.bl b=>v=.bl b|.int i=>v=.int i|.str x=>v=.str x
theorem jf.mono{C:ah}{m:MV}(h:jf C H v m)(k:Hx H H'):jf C H' v m:=by
 cases m with|exc=>obtain⟨a,e,q⟩:=h;exact⟨a,e,q.mono k⟩|oF bs=>obtain⟨a,e,q⟩:=h;exact⟨a,e,k _ _ q⟩|sts bs=>obtain⟨a,e,q⟩:=h;exact⟨a,e,k _ _ q⟩|bl b=>exact h|int i=>exact h|str x=>exact h
noncomputable def mT(C:ah)(H:Hp):List V->List MV->Prop|[],[]=>True|v::vs,m::ms=>jf C H v m/\mT C H vs ms|_,_=>False
noncomputable def jg(C:ah)(H:Hp)(σ:L2.St)(ρ:List (Option MV)):Prop:=∀(i:Nat) (m:MV),ρ[i]?=aB (aB m)->∃v,σ[i]?=aB (aB v)/\jf C H v m
theorem jg.mono{C:ah}{σ:L2.St}{ρ:List (Option MV)}(h:jg C H σ ρ)(k:Hx H H'):jg C H' σ ρ:=λi m e=>let⟨v,a,b⟩:=h i m e;⟨v,a,b.mono k⟩
noncomputable def tM(C:ah)(ρ:List (Option MV))(m:MV):TE:=λσ H Q=>jg C H σ ρ/\∀v H',Hx H H'->jf C H' v m->Q v H'
noncomputable def Ad(C:ah)(ρ:List (Option MV))(ms:List MV):TA:=λσ H Q=>jg C H σ ρ/\∀vs H',Hx H H'->mT C H' vs ms->Q vs H'
noncomputable def oG(C:ah)(ρ:List (Option MV))(b:Bool):TT:=λσ H Q=>jg C H σ ρ/\∀H',Hx H H'->Q b H'
section
variable{X:Cx}{C:ah}{ρ:List (Option MV)}{a b e:ao}{es:List ao}{pos:Pos}
theorem Dm{i:Nat}{x:Str}{m:MV}(hN:X.N[i]?=aB x)(hv:oN X.env.scope x)(hd:(x==("__debug__" : Str))=false)(hcd:(x==("__classdict__" : Str))=false)(hi:ρ[i]?=aB (aB m)):PE X (.Name x pos) (tM C ρ m):=
 (FQ hN hv hd hcd).imp λσ H Q ⟨en,k⟩=>let⟨v,e,r⟩:=en i m hi;⟨v,e,k v H .refl r⟩
theorem Ae:PA X [] (Ad C ρ []):=rz.imp λσ H Q ⟨_,k⟩=>k [] H .refl trivial
theorem kG{m:MV}{ms:List MV}(ha:PE X e (tM C ρ m))(hr:PA X es (Ad C ρ ms))(hs:fq e):PA X (e::es) (Ad C ρ (m::ms)):=
 (ou ha hr (eW hs)).imp λσ H Q ⟨en,k⟩=>⟨en,λv H1 k1 r1=>⟨en.mono k1,λvs H2 k2 r2=>k (v::vs) H2 (k1.trans k2) ⟨r1.mono k2,r2⟩⟩⟩
theorem Qx:∀{vs:List V} {bs:List Bool},mT C H vs (bs.map .bl)->vs=bs.map .bl|[],[],_=>rfl|v::vs,b::bs,h=>by rw[cP,Qx (vs:=vs) (bs:=bs) h.2,show v=.bl b from h.1]|[],_::_,h=>h.elim|_::_,[],h=>h.elim
theorem Qy:∀{vs:List V} {bs:List Str},mT C H vs (bs.map .str)->vs=bs.map .str|[],[],_=>rfl|v::vs,b::bs,h=>by rw[cP,Qy (vs:=vs) (bs:=bs) h.2,show v=.str b from h.1]|[],_::_,h=>h.elim|_::_,[],h=>h.elim
theorem kH{bs:List Bool}(ha:PA X es (Ad C ρ (bs.map .bl)))(hz:bs.length<=sizeLine):PE X (.List es pos) (tM C ρ (.oF bs)):=
 (Iu ha).imp λσ H Q ⟨en,k⟩=>⟨en,λvs H1 k1 r=>by
   have e:=Qx r;subst e;exact⟨by rw[bV];exact hz,λp hp=>k _ _ (k1.trans (.new hp)) ⟨p,rfl,eV⟩⟩⟩
theorem Dn{bs:List Str}(ha:PA X es (Ad C ρ (bs.map .str)))(hz:bs.length<=sizeLine):PE X (.List es pos) (tM C ρ (.sts bs)):=
 (Iu ha).imp λσ H Q ⟨en,k⟩=>⟨en,λvs H1 k1 r=>by
   have e:=Qy r;subst e;exact⟨by rw[bV];exact hz,λp hp=>k _ _ (k1.trans (.new hp)) ⟨p,rfl,eV⟩⟩⟩
theorem mU{x y:List Bool}(ha:PE X a (tM C ρ (.oF x)))(hb:PE X b (tM C ρ (.oF y)))(hz:x.length+y.length<=sizeLine):PE X (.BinOp a .Add b pos) (tM C ρ (.oF (x++y))):=
 (oV IB ha hb).imp λσ H Q ⟨en,k⟩=>⟨en,λv H1 k1 ⟨l,e1,q1⟩=>⟨en.mono k1,λu H2 k2 ⟨l2,e2,q2⟩=>⟨l,l2,_,_,e1,e2,k2 _ _ q1,q2,by rw[bV,bV];exact hz,λp hp=>k _ _ ((k1.trans k2).trans (.new hp)) ⟨p,rfl,by rw[eV,qZ]⟩⟩⟩⟩
theorem Z9{x y:List Str}(ha:PE X a (tM C ρ (.sts x)))(hb:PE X b (tM C ρ (.sts y)))(hz:x.length+y.length<=sizeLine):PE X (.BinOp a .Add b pos) (tM C ρ (.sts (x++y))):=
 (oV IB ha hb).imp λσ H Q ⟨en,k⟩=>⟨en,λv H1 k1 ⟨l,e1,q1⟩=>⟨en.mono k1,λu H2 k2 ⟨l2,e2,q2⟩=>⟨l,l2,_,_,e1,e2,k2 _ _ q1,q2,by rw[bV,bV];exact hz,λp hp=>k _ _ ((k1.trans k2).trans (.new hp)) ⟨p,rfl,by rw[eV,qZ]⟩⟩⟩⟩
theorem Dp{t:Str}{p p2:Pos}{r:Bool}(hc:pq cv=aB c)(hT:PE X (.Name t p2) (tC cv))(ha:PE X a (tM C ρ .exc))(hs:fq a)(hg:Gl X "isinstance")(hm:X.mg "isinstance" = aC)(kk:XL.jE X.K C)(e:PySem.W.kitOne X.K (.ref C) c=aB r) :
 PE X (.Call (.Name "isinstance" p) [a,.Name t p2] [] pos) (tM C ρ (.bl r)):=
 (Iw (Zu hc) hg hm PyProof.Rows.boot_isinstance (ou ha (ou hT rz) (eW hs)) (by decide) (by decide) (eW hs) rfl).imp λσ H Q ⟨en,k⟩=>⟨en,λv H1 k1 ⟨x,e1,q1⟩=>⟨x,C,r,by rw[e1],q1,kk,e,k _ H1 k1 rfl⟩⟩
theorem Kq{K:aI}{M:ah->Prop}{H:Hp}:∀bs:List Bool,kY K M H (bs.map .bl) (bs.map .bool)|[]=>.nil|b::r=>.cons (.bl b) (Kq r)
theorem Kr:∀bs:List Bool,(bs.map PyData.bool).all SeqAt.shaped=true|[]=>rfl|_::r=>by rw[cP,j0,Kr r];rfl
noncomputable def lU(e:aA):Bool:=PyData.eqv e (.bool true)
theorem Dq{bs:List Bool}(hu:X.A.in1.units+64<cLine)(ho:PE X o (tM C ρ (.oF bs)))(ha:PE X a (tM C ρ (.bl true)))(hs:fq a)(hb:attributeBase o "count" X.env (eval o X.env)=eval o X.env)(hl:(ap.endLine==pos.line)) :
 PE X (.Call (.Attribute o "count" ap) [a] [] pos) (tM C ρ (.int ((bs.map PyData.bool).countP lU:Nat))):=
 (oX (X:=X) PySem.F.plainAttrs_list PySem.F.slot_list_count PySem.F.type_list_count (WI hu) ho (ou ha rz (eW hs)) hb (by rw[eW hs];rfl) hl (eW hs) rfl).imp λσ H Q ⟨en,k⟩=>
   ⟨en,λv H1 k1 ⟨l,e1,q1⟩=>⟨by subst e1;exact .inl ⟨rfl,_,cM.of q1⟩,en.mono k1,λu H2 k2 r2=>⟨l,_,u,_,.bool true,e1,rfl,cM.of (k2 _ _ q1),Kq bs,by rw[show u=.bl true from r2];exact .bl true,Kr bs,rfl,k _ H2 (k1.trans k2) rfl⟩⟩⟩
theorem Dr{bs:List Bool}{j:Nat}(hu:X.A.in1.units+64<cLine)(ho:PE X o (tM C ρ (.oF bs)))(ha:PE X a (tM C ρ (.bl true)))(hs:fq a)(hb:attributeBase o "index" X.env (eval o X.env)=eval o X.env)(hl:(ap.endLine==pos.line)=true)
 (hj:(bs.map PyData.bool).findIdx? lU=aB j) (hz:(j:Int)<2 ^ 63-1):PE X (.Call (.Attribute o "index" ap) [a] [] pos) (tM C ρ (.int (j:Nat))):=by
 obtain⟨hlt,h1,h2⟩:=List.findIdx?_eq_some_iff_getElem.mp hj;refine(oX (X:=X) PySem.F.plainAttrs_list PySem.F.slot_list_index PySem.F.type_list_index (Zr hu) ho (ou ha rz (eW hs)) hb (by rw[eW hs];rfl) hl (eW hs) rfl).imp λσ H Q ⟨en,k⟩=>
  ⟨en,λv H1 k1 ⟨l,e1,q1⟩=>⟨by subst e1;exact .inl ⟨rfl,_,cM.of q1⟩,en.mono k1,λu H2 k2 r2=>⟨l,_,u,_,.bool true,j,_,e1,rfl,cM.of (k2 _ _ q1),Kq bs,by rw[show u=.bl true from r2];exact .bl true,Kr bs,rfl,jS hlt,h1,λm e hm q=>?_,hz,k _ H2 (k1.trans k2) rfl⟩⟩⟩
 have:=h2 m hm;obtain⟨hq,rfl⟩:=jR.mp q;simpa[lU]using this
theorem zuy{α β:Type}{f:α->β}{xs:List α}{i:Int}{v:α}(h:cy xs i=aB v):cy (xs.map f) i=aB (f v):=by
 unfold cy at h ⊢;rw[bV];cases e:iw xs.length i with
 |none=>rw[e]at h;cases h
 |some j=>
  rw[e]at h;show(xs.map f)[j]?=_;rw[nu,show xs[j]?=aB v from h];rfl
theorem Ds{xs:List Str}{i:Int}{z:Str}(ha:PE X a (tM C ρ (.sts xs)))(hb:PE X b (tM C ρ (.int i)))(hs:F6 b)(hi:cy xs i=aB z):PE X (.Subscript a b pos) (tM C ρ (.str z)):=
 (uW NZ ha hb hs).imp λσ H Q ⟨en,k⟩=>⟨en,λv H1 k1 ⟨l,e1,q1⟩=>⟨en.mono k1,λu H2 k2 r2=>⟨l,_,i,.str z,e1,r2,cM.of (k2 _ _ q1),zuy hi,k _ H2 (k1.trans k2) rfl⟩⟩⟩
theorem Qz{r:Bool}(ha:PT X a (oG C ρ r)):PT X (.UnaryOp .Not a pos) (oG C ρ (!r)):=λpins s σ H Q I ⟨en,k⟩=>HN ha pins s σ H Q I ⟨en,λH1 k1=>k H1 k1⟩
theorem QA{r:Bool}(ha:PE X a (tM C ρ (.bl r)))(he:∀whole,isTrue a X.env whole=(do let v <-whole;standAt a.pos;holding [v] (truthy v))):PT X a (oG C ρ r):=λpins s σ H Q I ⟨en,k⟩=>
 Ni ha he pins s σ H Q I ⟨en,λv H1 k1 e=>⟨r,e,k H1 k1⟩⟩
theorem Dt{i j:Int}(ha:PE X a (tM C ρ (.int i)))(hb:PE X b (tM C ρ (.int j)))(hm:behindInMarks .NotEq b=false):PT X (.Compare a [.NotEq] [b] pos) (oG C ρ (!decide (V.int i=V.int j))):=λpins s σ H Q I ⟨en,k⟩=>
 NC Bj ha hb hm pins s σ H Q I ⟨en,λv H1 k1 e1=>⟨en.mono k1,λu H2 k2 e2=>by
  have e1:v=.int i:=e1;have e2:u=.int j:=e2;subst e1 e2;exact⟨rfl,_,rfl,k H2 (k1.trans k2)⟩⟩⟩
theorem vA{rest:List ao}{r r':Bool}(ha:PT X a (oG C ρ r))(hb:PW X (.BoolOp .Or (b::rest) pos) (oG C ρ r')):PW X (.BoolOp .Or (a::b::rest) pos) (oG C ρ (r||r')):=λwh pins s σ H Q I ⟨en,k⟩=>
 pw_or ha hb wh pins s σ H Q I ⟨en,λH1 k1=>by
  cases r with|true=>rw[if_pos rfl];exact k H1 k1|false=>rw[if_neg iZ];exact⟨en.mono k1,λH2 k2=>k H2 (k1.trans k2)⟩⟩
theorem zyy{r:Bool}(ha:PT X a (oG C ρ r)):PW X (.BoolOp .Or [a] pos) (oG C ρ r):=Nj ha
noncomputable def pS(C:ah)(ρ:List (Option MV))(m:MV):TS:=λD σ H=>jg C H σ ρ/\∀v H',Hx H H'->jf C H' v m->D.rt v H'
theorem _root_.L2.gu.imp'{st:List aq}{t t':TS}(h:gu X st t)(k:∀D σ H,t' D σ H->t D σ H):gu X st t':=λpins s σ H D I q=>h pins s σ H D I (k D σ H q)
theorem zyz{m:MV}(he:PE X e (tM C ρ m)):gu X [.Return (aB e) pos] (pS C ρ m):=(FW (A4 he)).imp' λD σ H q=>q
theorem jg.set{σ:L2.St}{i:Nat}{m:MV}(en:jg C H σ ρ)(hl:i<σ.length)(hi:i<ρ.length)(r:jf C H v m):jg C H (σ.set i (aB v)) (ρ.set i (aB m)):=λj m' e=>by
 by_cases h:j=i;subst h;rw[qW hi]at e;cases e;exact⟨v,qW hl,r⟩;rw[wR (dU h)]at e ⊢;exact en j m' e
end
structure XH(X:Cx)(c:CC):Prop where
 hN:X.N=c.N
 nd:c.N.Nodup
 vis:∀x,kC (c.names.lookup x)=true->oN X.env.scope x
 loc:∀x,lQ c.mP (c.names.lookup x)=true->Loc X.env.scope x/\(X.fn x=true\/X.env.scope.names.lookup x=aB .local)
 gl:∀x,c.names.lookup x=aB .globalImplicit->Gl X x
 nU:∀x v,PySem.W.nsIn X.K mainGlobals x=aB (aB v)->X.mg x=aB v
 z0:∀x,PySem.W.nsIn X.K mainGlobals x=aB aC->X.mg x=aC
 un:X.A.units+70<cLine
noncomputable def tP(K:aI)(c:CC)(t:Str):Option (aa×V):=if okN t&&c.names.lookup t==aB .globalImplicit then(match PySem.W.nsIn K mainGlobals t with|some (aB (.ref D))=>aB (.ref D,.ref D)|some aC=>if t==("ValueError" : Str)then aB (.type "ValueError",.ty "ValueError")else aC|_=>aC)else aC
noncomputable def kI(K:aI)(C:ah)(c:CC)(tab:List (Str×Bool)):Bool:=vt K c "isinstance" && tab.all λq=>match tP K c q.1 with|some v=>PySem.W.kitOne K (.ref C) v.1==aB q.2|none=>false
noncomputable def QB(C:ah)(bs:List Bool):List V->Hp->VK->Prop:=λvs H Q=>∃a,vs=[.ref a]/\tw C a H/\∀v H',Hx H H'->jf C H' v (.oF bs)->Q v H'
structure pU(X:Cx)(C:ah)(c:CC)(tab:List (Str×Bool))(kb:List Bool)(k:Nat):Prop where
 hx:XH X c
 ex:XL.jE X.K C
 tab:kI X.K C c tab=true
 kinds:k=0\/∃f fd ps,X.mg "_law_kinds" = aB (.ref f)/\eg X.prog X.w X.K X.mg X.base k f fd ps (QB C kb)/\PySem.W.keepIn X.K (.ref f)=true/\Binds X.K fd ps []/\cg k X.A
section
variable{X:Cx}{C:ah}{kb:List Bool}{c:CC}{k:Nat}{tab:List (Str×Bool)}{ρ:List (Option MV)}{p pos:Pos}{a:ao}
noncomputable def tQ(c:CC)(x:Str)(i:Nat):Bool:=okN x&&kC (c.names.lookup x)&& (kB c.N x 0==aB i)
theorem mV(O:pU X C c tab kb k){x:Str}(i:Nat){m:MV}(h:tQ c x i)(hi:ρ[i]?=aB (aB m)):PE X (.Name x pos) (tM C ρ m):=by
 unfold tQ at h;rw[aY,aY]at h;obtain⟨n1,n2,n3⟩:=jL h.1.1;exact Dm (by rw[O.hx.hN];exact oB (by simpa using h.2)) (O.hx.vis x h.1.2) n1 n2 hi
theorem zuz(O:XH X c){t:Str}{v:aa×V}(h:tP X.K c t=aB v):pq v.2=aB v.1/\PE X (.Name t p) (tC v.2):=by
 unfold tP at h;split at h;rename_i hc;rw[aY]at hc;obtain⟨n1,n2,n3⟩:=jL hc.1;have hg:Gl X t:=O.gl t (by simpa using hc.2);split at h;rename_i D hD;cases h;exact⟨rfl,Ng hg (O.nU t _ hD) rfl n1⟩;rename_i hD;split at h;rename_i ht;cases h;have ht:t = "ValueError":=by simpa using ht
 subst ht;exact⟨rfl,Nh hg (O.z0 _ hD) (u:=.type "ValueError") (by first|rfl|decide +kernel) rfl n3 n1⟩;cases h;cases h;cases h
theorem pV(O:pU X C c tab kb k){t:Str}{b:Bool}(ha:PE X a (tM C ρ .exc))(hs:fq a){i:Nat}(hm:tab[i]?=aB (t,b)):PE X (.Call (.Name "isinstance" p) [a,.Name t p2] [] pos) (tM C ρ (.bl b)):=by
 have h:=O.tab;unfold kI at h;rw[aY]at h;have h2:=jZ.mp h.2 _ (zo hm);have hab:=h.1;unfold vt at hab;rw[aY]at hab;cases hv:tP X.K c t with
 |none=>simp only[hv]at h2;cases h2
 |some v=>
  simp only[hv]at h2;obtain⟨c1,c2⟩:=zuz (p:=p2) O.hx hv;refine Dp c1 c2 ha hs (O.hx.gl _ (by simpa using hab.1)) (O.hx.z0 _ ?_) O.ex (by simpa using h2);have h3:=hab.2;split at h3;assumption;cases h3
theorem vB(O:pU X C c tab kb (k+1))(ha:PE X a (tM C ρ .exc))(hs:fq a)(hl:c.names.lookup ("_law_kinds" : Str)=aB .globalImplicit):PE X (.Call (.Name "_law_kinds" p) [a] [] pos) (tM C ρ (.oF kb)):=by
 rcases O.kinds with h|⟨fa,fd,ps,g1,g2,g3,g4,g5⟩;cases h;exact(Qa g2 g5 (O.hx.gl _ hl) g1 g3 g4 (ou ha rz (eW hs)) (by decide +kernel) (eW hs) rfl).imp λσ H Q ⟨en,k⟩=>⟨en,λv H1 k1 ⟨x,e1,q1⟩=>⟨x,by rw[e1],q1,λw H2 k2 r2=>k w H2 (k1.trans k2) r2⟩⟩
theorem pW{n:Nat}(h:Nat.ble n 1000):n<=sizeLine:=wQ (IG (kU h))
theorem pU.QC(O:pU X C c tab kb k):X.A.in1.units+64<cLine:=by have:=O.hx.un;show X.A.units+1+64<_;lia
theorem Du{b:Bool}{q:Nat}:PE X (.Constant (.bool b) q pos) (tM C ρ (.bl b)):=uQ.imp λσ H Q ⟨_,k⟩=>k _ H .refl rfl
theorem Dv{b:Int}{q:Nat}:PE X (.Constant (.int b) q pos) (tM C ρ (.int b)):=Nf.imp λσ H Q ⟨_,k⟩=>k _ H .refl rfl
theorem Dw{b:Str}{q:Nat}:PE X (.Constant (.str b) q pos) (tM C ρ (.str b)):=HK.imp λσ H Q ⟨_,k⟩=>k _ H .refl rfl
@[irreducible] def EQ (X:Cx) (e:ao) (t:TE):Prop:=PE X e t
theorem EQ.out(h:EQ X e t):PE X e t:=by unfold EQ at h;exact h
theorem EQ.mk(h:PE X e t):EQ X e t:=by unfold EQ;exact h
noncomputable def Ks:List ao->Option (List Str)|[]=>aB []|e::es=>(tG e).bind λz=>(Ks es).map (z.1 :: ·)
theorem QD:∀{es:List ao} {xs:List Str},Ks es=aB xs->PA X es (Ad C ρ (xs.map .str))
 |[],_,h=>by cases h;exact Ae
 |e::es,xs,h=>by
  obtain⟨z,h1,h2⟩:=fZ h;obtain⟨ys,h3,rfl⟩:=lP h2;rw[Qh h1];exact kG Dw (QD h3) rfl
theorem vC{xs:List Str}(h:Ks es=aB xs)(hz:Nat.ble xs.length 1000):EQ X (.List es pos) (tM C ρ (.sts xs)):=.mk (Dn (QD h) (pW hz))
theorem zy0{x y:List Str}(ha:PE X a (tM C ρ (.sts x)))(hb:EQ X b (tM C ρ (.sts y)))(hz:Nat.ble (x.length+y.length) 1000):EQ X (.BinOp a .Add b pos) (tM C ρ (.sts (x++y))):=.mk (Z9 ha hb.out (pW hz))
theorem Dy{xs:List Str}{i:Int}{z:Str}(ha:EQ X a (tM C ρ (.sts xs)))(hb:PE X b (tM C ρ (.int i)))(hs:zX b)(hi:cy xs i=aB z):EQ X (.Subscript a b pos) (tM C ρ (.str z)):=.mk (Ds ha.out hb (Qs hs) hi)
@[irreducible] def SQ (X:Cx) (st:List aq) (t:TS):Prop:=gu X st t
theorem SQ.out{st:List aq}{t:TS}(h:SQ X st t):gu X st t:=by unfold SQ at h;exact h
theorem SQ.mk{st:List aq}{t:TS}(h:gu X st t):SQ X st t:=by unfold SQ;exact h
theorem vD{m:MV}(he:EQ X e (tM C ρ m)):SQ X [.Return (aB e) pos] (pS C ρ m):=.mk (zyz he.out)
theorem kJ(O:pU X C c tab kb k){x:Str}{e:ao}{rest:List aq}{m m':MV}(i:Nat)(h:(tQ c x i&&lQ c.mP (c.names.lookup x)))(he:EQ X e (tM C ρ m))(hr:Nat.blt i ρ.length)(hs:xP e)(h2:SQ X rest (pS C (ρ.set i (aB m)) m')) :
 SQ X (.Assign [.Name x p] e pos::rest) (pS C ρ m'):=by
 unfold tQ at h;rw[aY,aY]at h;obtain⟨l1,l2⟩:=O.hx.loc _ h.2;have hi:X.N[i]?=aB x:=by rw[O.hx.hN];exact oB (by simpa using h.1.2)
 refine .mk λpins s σ H D I cR=>?_;obtain⟨en,k⟩:=cR;exact FU (Np (by rw[O.hx.hN];exact O.hx.nd) hi l1 he.out (Gv hs) l2) h2.out pins s σ H D I ⟨en,λv H1 k1 r1=>⟨(en.mono k1).set (by rw[I.len];exact(jR.mp hi).1) (fN.mp hr) r1,λw H2 k2 r2=>k w H2 (k1.trans k2) r2⟩⟩
theorem zy1:gu X l (λ_ _ _=>False):=λ_ _ _ _ _ _ h=>h.elim
theorem Ku{e:ao}{m:MV}{b rest:List aq}(hc:PT X e (oG C ρ false))(h:SQ X rest (pS C ρ m)):SQ X (.If e b [] pos::rest) (pS C ρ m):=
 .mk<|(FU (oR hc (zy1 (l:=b)) Nk) h.out).imp' λD σ H ⟨en,k⟩=>⟨en,λH1 k1=>L2.fO ⟨en.mono k1,λv H2 k2 r=>k v H2 (k1.trans k2) r⟩⟩
end
noncomputable def spM(C:ah)(m:MV):List V->Hp->VK->Prop:=λvs H Q=>∃a,vs=[.ref a]/\tw C a H/\∀v H',Hx H H'->jf C H' v m->Q v H'
noncomputable def Af(K:aI)(x:Str):Option (CC×List aq):=match fnAt K x with
 |some (f,o,fd)=>(match tH fd.params,Dj fd.body with
  |some args,aB body=>if(fd.name==iC x&&fd.qualname==x&&Nat.beq fd.globals mainGlobals&&fd.closure.isEmpty&& (isNone fd.defaults||fH K fd.defaults && !args.isEmpty)&&Nat.beq fd.builtins builtinsNs&&PySem.W.codeIn K fd.code x&&PySem.W.keepIn K (.ref f) &&
   Ab (lS (args.map (·.arg)) fd.scope) (args.map (·.arg)) fd.scope)&&Nat.beq args.length 1 then
   aB (⟨lS (args.map (·.arg)) fd.scope,fd.scope.names,true⟩,body)
   else aC
  |_,_=>aC)
 |none=>aC
theorem vE{P:ai}{w:aj}{K:aI}{mg:Str->Option aa}{base:az}{k:Nat}(KX:K.In base)(G:base.Ns mainGlobals mg){x:Str}{sc:ay}{f:ah}{N ps:List Str}(S:bY N ps sc)
 (cdv:aa) (A:ak) (outer:List Env) (s:af) (H:Hp) (hr:cg k (A.deeper (envOfC x sc s.heap.objs.size f cdv))):XH (C0 P w K mg base N x sc f cdv A outer s H) ⟨N,sc.names,true⟩:=by
 refine⟨rfl,S.nd,λy hy=>?_,λy hy=>?_,λy hy=>hy,λy v hv=>AJ KX G hv,λy hv=>PySem.W.mg_none_of KX G hv,?_⟩;have hy:kC (sc.names.lookup y)=true:=hy;cases z:sc.names.lookup y with
 |none=>rw[z]at hy;cases hy
 |some kd=>cases kd<;>first|exact .inl z|exact .inr (.inl z)|exact .inr (.inr z)|(rw[z]at hy;cases hy)
 have hy:lQ true (sc.names.lookup y)=true:=hy;cases z:sc.names.lookup y with
 |none=>rw[z]at hy;cases hy
 |some kd=>cases kd<;>first|exact⟨.inl z,.inl rfl⟩|exact⟨.inr z,.inl rfl⟩|(rw[z]at hy;cases hy)
 have:=hr.un;show(A.deeper (envOfC x sc s.heap.objs.size f cdv)).units+70<cLine;lia
theorem QE{P:ai}{w:aj}{K:aI}{mg:Str->Option aa}{base:az}{C:ah}{kb:List Bool}{k:Nat}{x:Str}{m:MV}{c:CC}{body:List aq}{tab:List (Str×Bool)}(KX:K.In base)(G:base.Ns mainGlobals mg)(h:Af K x=aB (c,body))(ex:XL.jE K C)(ht:kI K C c tab=true)
 (hk:k=0\/∃f fd ps,mg "_law_kinds" = aB (.ref f)/\eg P w K mg base k f fd ps (QB C kb)/\PySem.W.keepIn K (.ref f)=true/\Binds K fd ps []) (hb:∀X:Cx,pU X C c tab kb k->SQ X body (pS C [aB .exc,aC] m)) :
 ∃f fd ps,dI K x=aB f/\eg P w K mg base (k+1) f fd ps (spM C m)/\PySem.W.keepIn K (.ref f)=true/\Binds K fd ps []:=by
 unfold Af at h;split at h;rename_i f o fd hf;split at h;rename_i args body ha hbd;split at h;rename_i hc;cases h;rw[aY]at hc;obtain⟨hc,h1⟩:=hc;rw[aY,aY,aY,aY,aY,aY,aY,aY]at hc;obtain⟨⟨⟨⟨⟨⟨⟨⟨c1,c2⟩,c3⟩,c4⟩,c5⟩,c6⟩,c7⟩,c8⟩,c9⟩:=hc;obtain⟨S,nd⟩:=Kh c9;obtain⟨hn,oc,od,sl,lk⟩:=Qw hf;obtain⟨dx,ef⟩:=Kl c1 c2 c3 c4 c6 ha hbd;have hl:(args.map (·.arg)).length=1:=by rw[bV];exact uK h1
 have Dz:=lk;rw[ef]at Dz;refine⟨f,fd,args.map (·.arg),hn,?_,c8,(Km ef nd rfl c5).1⟩;rw[ef];refine P9 (K:=K) (N:=lS (args.map (·.arg)) fd.scope) Dz c7 S (λvs H Q ⟨a,e,_⟩=>by rw[e,hl];rfl) λA outer s H vs Q hr cR=>?_;obtain⟨a,e,q1,q2⟩:=cR;refine⟨_,(hb (C0 P w K mg base (lS (args.map (·.arg)) fd.scope) x fd.scope f fd.code A outer s H) ⟨vE KX G S fd.code A outer s H hr,ex,ht,hk.imp id λ⟨g,gd,qs,a1,a2,a3,a4⟩=>⟨g,gd,qs,a1,a2,a3,a4,hr⟩⟩).out,?_,q2⟩;subst e;intro i mv hi;cases i with
 |zero=>
  cases hi;exact⟨.ref a,by unfold L2.start;rfl,a,rfl,q1⟩
 |succ i=>
  cases i with|zero=>cases hi|succ i=>cases hi
 cases h;cases h;cases h
theorem oz{α:Type}{xs:List α}{j:Nat}{z:α}(h:xs[j]?=aB z):cy xs (j:Int)=aB z:=by
 unfold cy iw;rw[if_pos (Int.natCast_nonneg j),rj,if_pos (Int.ofNat_lt.mpr (jR.mp h).1)];exact h
noncomputable def jq(C:CC):ao->Option Nat|.Name x _=>if okN x&&kC (C.names.lookup x)then kB C.N x 0 else aC|_=>aC
theorem GK(O:XH X c){x:Str}{i:Nat}(h:jq c (.Name x p)=aB i):PE X (.Name x p) (AW i):=by
 unfold jq at h;simp only at h;split at h;rename_i hc;rw[aY]at hc;exact FQ (by rw[O.hN];exact oB h) (O.vis _ hc.2) (jL hc.1).1 (jL hc.1).2.1;cases h
structure DA where
 a:Str×Pos
 f:Str
 fp:Pos
 b:Str×Pos
 p:Pos
noncomputable def yk:ao->Option (ao×Str×Pos)|.Attribute o f p=>aB (o,f,p)|_=>aC
theorem zu0{q:ao×Str×Pos}(h:yk e=aB q):e=.Attribute q.1 q.2.1 q.2.2:=by
 unfold yk at h;split at h;cases h;rfl;cases h
noncomputable def mW:aq->Option DA
 |.Assign ts e p=>(match(oneOf ts).bind yk,ya e with
  |some t,aB b=>(ya t.1).map λa=>⟨a,t.2.1,t.2.2,b,p⟩
  |_,_=>aC)
 |_=>aC
theorem QF{s:aq}{q:DA}(h:mW s=aB q):s=.Assign [.Attribute (.Name q.a.1 q.a.2) q.f q.fp] (.Name q.b.1 q.b.2) q.p:=by
 unfold mW at h;split at h;split at h;rename_i t b h1 h2;obtain⟨a,h3,rfl⟩:=lP h;obtain⟨z,h4,h5⟩:=fZ h1;rw[xZ h4,zu0 h5,C3 h3,C3 h2];cases h;cases h
noncomputable def yl(K:aI)(D:ah)(C:CC):List aq->Bool
 |[s,t]=>(match mW s,mW t with
  |some x,aB y=>jq C (.Name x.a.1 x.a.2)==aB 0&&jq C (.Name x.b.1 x.b.2)==aB 1&&jq C (.Name y.a.1 y.a.2)==aB 0&&jq C (.Name y.b.1 y.b.2)==aB 2&&xT K D x.f&&xT K D y.f
  |_,_=>false)
 |_=>false
noncomputable def tS(o:Option (Option aa))(s:String):Bool:=match o with|some (aB (.builtin b))=>b==s|_=>false
theorem QG{o:Option (Option aa)}{s:String}(h:tS o s):o=aB (aB (.builtin s)):=by
 unfold tS at h;split at h;rename_i b;rw[show b=s by simpa using h];cases h
noncomputable def pX(K:aI)(C:ah):Bool:=(PySem.W.clsIn K C).any (λcd=>XL.eK cd.mro)&&tS (PySem.W.findIn K (.ref C) "__getattribute__") "BaseException.__getattribute__" && xT K C "__getattr__" && tS (PySem.W.findIn K (.ref C) "__setattr__") "object.__setattr__" && PySem.W.hasDictIn K C
theorem zq3{K:aI}{C:ah}(h:pX K C):XL.ExcK K C:=by
 unfold pX at h;simp only[aY]at h;obtain⟨⟨⟨⟨h1,h2⟩,h3⟩,h4⟩,h5⟩:=h;exact⟨h1,QG h2,CW h3,QG h4,h5⟩
noncomputable abbrev tU:Str:="Fault.__init__"
noncomputable def vF(K:aI)(D f:ah)(fd:au):Bool:=match tH fd.params,Dj fd.body with
 |some args,aB body=>(fd.name==iC tU&&fd.qualname==tU&&Nat.beq fd.globals mainGlobals&&fd.closure.isEmpty&& (isNone fd.defaults||fH K fd.defaults && !args.isEmpty)&&Nat.beq fd.builtins builtinsNs&&PySem.W.codeIn K fd.code tU&&PySem.W.keepIn K (.ref f) &&
  Ab (lS (args.map (·.arg)) fd.scope) (args.map (·.arg)) fd.scope)&& (Nat.beq args.length 3&&yl K D ⟨lS (args.map (·.arg)) fd.scope,fd.scope.names,true⟩ body)
 |_,_=>false
noncomputable def kK(K:aI)(D:ah):Option ah:=match PySem.W.findIn K (.ref D) "__init__"with
 |some (aB (.ref f))=>(match K.lookup f with
  |some o=>(match o.data with
   |.func fd=>if vF K D f fd&&XL.di K D&&PySem.W.isFn K (.ref f)&&PySem.W.keepIn K (.ref D)&&pX K D then aB f else aC
   |_=>aC)
  |none=>aC)
 |_=>aC
noncomputable abbrev Kv(P:ai)(w:aj)(K:aI)(mg:Str->Option aa)(base:az)(D f:ah):Prop:=∃fd ps,I0 K D f/\eg P w K mg base 1 f fd ps (GD D)/\Binds K fd ps []
theorem zq4{D:ah}{a:ah}{x y:V}{Q:VK}{r:L2.St}(O:XH X c)(ex:XL.ExcK X.K D)(h:yl X.K D c body)(ha:H a=aB (iz D aC a))
 (k:∀dx fs H',H dx=aC->H' a=aB (iz D (aB dx) a)->H' dx=aB (rD fs dx)->(∀b o,b≠a->H b=aB o->H' b=aB o)->Q .aG H') :
 ∃t,gu X body t/\t {nx:=λ_ H'=>Q .aG H',rt:=Q} (aB (.ref a)::aB x::aB y::r) H:=by
 unfold yl at h;split at h
 case h_2=>cases h
 split at h;rename_i q1 q2;rw[QF q1,QF q2];simp only[aY,jY]at h;obtain⟨⟨⟨⟨⟨h1,h2⟩,h3⟩,h4⟩,h5⟩,h6⟩:=h;refine⟨_,FU (OA (GK O h1) (GK O h2) rfl) (FW (OA (GK O h3) (GK O h4) rfl)),?_⟩;refine⟨x,rfl,_,rfl,a,D,rfl,ex,CW h5,.inl ⟨ha,λdx hdx=>?_⟩⟩;have hne:dx≠a:=λz=>by rw[z,ha]at hdx;cases hdx
 refine⟨y,rfl,_,rfl,a,D,rfl,ex,CW h6,.inr ⟨dx,_,eV,(by rw[bR hne,eV]),(by show 1<1000;decide),?_⟩⟩;refine k dx _ _ hdx (by rw[bR (dU hne),eV]) eV λb o hb e=>?_;have hbd:b≠dx:=ir e hdx;rw[bR hbd,bR hb,bR hbd];exact e;cases h
theorem zy2{P:ai}{w:aj}{K:aI}{mg:Str->Option aa}{base:az}{D f:ah}(KX:K.In base)(G:base.Ns mainGlobals mg)(h:kK K D=aB f):Kv P w K mg base D f:=by
 unfold kK at h;split at h
 case h_2=>cases h
 rename_i g hi;split at h
 case h_2=>cases h
 rename_i o ho;split at h
 case h_2=>cases h
 rename_i fd hd;split at h
 case isFalse=>cases h
 rename_i hc;cases h;simp only[aY]at hc;obtain⟨⟨⟨⟨hq,h1⟩,h2⟩,h3⟩,h4⟩:=hc;unfold vF at hq;split at hq
 case h_2=>cases hq
 rename_i args body ha hb;rw[aY]at hq;rw[aY (Nat.beq _ _)]at hq;obtain⟨hc,hl,hB⟩:=hq;rw[aY,aY,aY,aY,aY,aY,aY,aY]at hc;obtain⟨⟨⟨⟨⟨⟨⟨⟨c1,c2⟩,c3⟩,c4⟩,c5⟩,c6⟩,c7⟩,c8⟩,c9⟩:=hc;obtain⟨S,nd⟩:=Kh c9;obtain⟨dx,ef⟩:=Kl c1 c2 c3 c4 c6 ha hb;have hl:(args.map (·.arg)).length=3:=by rw[bV];exact uK hl
 have Dz:K.lookup f=aB ⟨o.cls,o.dict,.func fd,o.slots⟩:=by rw[<-hd];exact ho
 rw[ef]at Dz;refine⟨fd,args.map (·.arg),⟨h1,hi,h2,h3⟩,?_,(Km ef nd rfl c5).1⟩;rw[ef];refine P9 (K:=K) (N:=lS (args.map (·.arg)) fd.scope) Dz c7 S (λvs H Q ⟨a,x,y,e,_⟩=>by rw[e,hl];rfl) λA outer s H vs Q hr cR=>?_;obtain⟨a,x,y,e,q1,q2⟩:=cR;have O:=vE (P:=P) (w:=w) (mg:=mg) (base:=base) KX G (x:=tU) (f:=f) S fd.code A outer s H hr;subst e;exact zq4 O (zq3 h4) hB q1 q2
noncomputable def ym(K:aI)(D:ah):Bool:=XL.di K D&& (match PySem.W.findIn K (.ref D) "__init__"with|some (aB (.builtin b))=>b == "ValueError.__init__"|_=>false)&&PySem.W.keepIn K (.ref D)
theorem zu1{K:aI}{D:ah}(h:ym K D):IZ K D:=by
 unfold ym at h;rw[aY,aY]at h;obtain⟨⟨h1,h2⟩,h3⟩:=h;refine⟨h1,?_,h3⟩;split at h2;rename_i b e;rw[e,show b = "ValueError.__init__" by simpa using h2];cases h2
noncomputable def excAt(K:aI)(C:CC)(x:Str):Option ah:=if okN x&&C.names.lookup x==aB .globalImplicit then(match PySem.W.nsIn K mainGlobals x with|some (aB (.ref D))=>if ym K D then aB D else aC|_=>aC)else aC
noncomputable def vG(K:aI)(C:CC)(x:Str):Option (ah×ah):=if okN x&&C.names.lookup x==aB .globalImplicit then(match PySem.W.nsIn K mainGlobals x with|some (aB (.ref D))=>(kK K D).map λf=>(D,f)|_=>aC)else aC
noncomputable def mX(R:RX)(C:CC)(x:Str):Option Nat:=if okN x&&C.names.lookup x==aB .globalImplicit&& (fY x).isNone then kB R.jc x 0 else aC
noncomputable def mY(R:RX)(C:CC)(e:ao):Option (gD×Nat):=match yb e with|some q=>if q.args.isEmpty then aC else(mX R C q.f).map λj=>(q,j)|none=>aC
theorem QH{R:RX}{q:gD×Nat}(h:mY R C e=aB q):mX R C q.1.f=aB q.2/\∃a as,q.1.args=a::as/\e=.Call (.Name q.1.f q.1.p) (a::as) [] q.1.cp:=by
 unfold mY at h;split at h;rename_i c hc;split at h;cases h;rename_i hne;obtain⟨j,h1,rfl⟩:=lP h;have g:=C4 hc;cases ha:c.args with|nil=>rw[ha]at hne;exact absurd rfl hne|cons a as=>rw[ha]at g;exact⟨h1,a,as,rfl,g⟩
 cases h
noncomputable def pY:ao->Option (ao×Pos)
 |.UnaryOp o e p=>(match o with
  |.Not=>aB (e,p)
  |_=>aC)
 |_=>aC
theorem zq5{q:ao×Pos}(h:pY e=aB q):e=.UnaryOp .Not q.1 q.2:=by
 unfold pY at h;split at h;split at h;cases h;rfl;cases h;cases h
noncomputable def Kw(K:aI)(T:List Str)(d:Nat)(C:CC)(q:gD):Option S:=match q.args with
 |[]=>(excAt K C q.f).map λD=>.ret (.cst (.int (D:Nat)))
 |[e1,e2]=>(match vG K C q.f,cE K T d C e1,cE K T d C e2 with
  |some Df,aB a,aB b=>aB (.seq (.expr (.cons a (.cons b .nil))) (.ret (.cst (.int (Df.1:Nat)))))
  |_,_,_=>aC)
 |_=>aC
noncomputable def cX(K:aI)(T:List Str)(R:RX)(d:Nat):Nat->CC->aq->Option S
 |0,_,_=>aC
 |n+1,C,s=>match s with
  |.Raise x aC _=>(match x.bind yb with
   |some q=>Kw K T d C q
   |none=>aC)
  |.Return (aB e) _=>(cE K T d C e).map λa=>.ret (.tup (.cons a .nil))
  |.If c a b _=>(match lR (cX K T R d n C) a,lR (cX K T R d n C) b with
   |some x,aB y=>(match(pY c).bind λq=>mY R C q.1 with
    |some q=>(cL (cE K T d C) q.1.args).map λz=>.jc (R.at_+q.2) z true x y
    |none=>(cT K T d C c).map λz=>.ite z x y)
   |_,_=>aC)
  |.Expr e _=>(match mY R C e with
   |some q=>(cL (cE K T d C) q.1.args).map λa=>.jc (R.at_+q.2) a false .skip .skip
   |none=>if xP e then(cE K T d C e).map .expr else aC)
  |.For tg it b [] _=>(match cW K T d C it,C8 C tg,lR (cX K T R d n C) b with
   |some (kd,a),aB t,aB x=>if C7 kd tg then aB (.for kd a t x)else aC
   |_,_,_=>aC)
  |s=>(match cS K T R d (n+1) C s with
   |some c=>if fG c then aB c else aC
   |none=>aC)
theorem zq6:exs cl (.ret (.tup (.cons a .nil)))=λρ h=>(ev cl a ρ h).bind λw h=>.ok (.rt (.tup [w])) h:=by
 funext ρ h;simp only[exs,ev];cases ev cl a ρ h<;>rfl
theorem zu2{D:Nat}:exs cl (.seq (.expr (.cons a (.cons b .nil))) (.ret (.cst (.int D))))=λρ h=>(ev cl (.cons a (.cons b .nil)) ρ h).bind λy h=>match y with|.tup [_,_]=>.ok (.rt (.int D)) h|_=>.no:=by
 funext ρ h;simp only[exs,ev];cases ev cl a ρ h with
 |ok x h1=>
  simp only[Res.bind];cases ev cl b ρ h1<;>rfl
 |_=>rfl
section
variable{X:Cx}{E:XK}{C:CC}{T:List Str}{R:RX}{F:Nat->Option Fn}{k d:Nat}
theorem yo{f:aq->Option S}(ih:∀st c,f st=aB c->SX X E st (exs cl c)):∀{sts:List aq} {c:S},lR f sts=aB c->GF X E sts (exs cl c)
 |[],_,h=>by cases h;exact Po
 |s::r,c,h=>by
  unfold lR at h;split at h;rename_i a b ha hb;cases h;exact Pp (ih s a ha) (yo ih hb);cases h
theorem QI(O:gP X.eH C T R F k){x:Str}{j:Nat}(h:mX R C x=aB j):∃g fd ps,bU X.prog X.w X.K X.mg X.base (lO X.prog X.w) k g fd ps (tE X.K ps.length (run F k (R.at_+j)))/\Gl X x/\X.mg x=aB (.ref g)/\PySem.W.keepIn X.K (.ref g)=true/\Binds X.K fd ps []/\(∀ws h w h',run F k (R.at_+j) ws h=.ok w h'->ws.length=ps.length)/\(x==("__debug__" : Str))=false:=by
 unfold mX at h;split at h;rename_i hc;simp only[aY,jY]at hc;obtain⟨⟨c1,c2⟩,c3⟩:=hc;obtain⟨g,fd,ps,fn,q1,q2,q3,q4,q5,q6⟩:=O.rs j x (oB h);exact⟨g,fd,ps,q2,O.gl x c2,O.nU x _ (zY q1 (by simpa using c3)),q3,q4,λws h w h' e=>by rw[tu q5 e,q6],(jL c1).1⟩;cases h
theorem zn9(O:gP X.eH C T R F k)(fl:xX X E)(hi:∀D f,kK X.K D=aB f->Kv X.prog X.w X.K X.mg X.base D f){q:gD}(h:Kw X.K T d C q=aB c):SX X E (.Raise (aB (.Call (.Name q.f q.p) q.args [] q.cp)) aC pos) (exs (run F k) c):=by
 have Sd:=tN (T:=T) (F:=F) (k:=k) d O;unfold Kw at h;split at h;rename_i hq;rw[hq];obtain⟨D,h1,rfl⟩:=map_some h;unfold excAt at h1;split at h1;rename_i hc;rw[aY,jY]at hc;split at h1;rename_i D' hD;split at h1;rename_i hm;cases h1;exact Zw fl (zu1 hm) O.calm (O.gl q.f hc.2) (O.nU q.f _ hD) (jL hc.1).1;cases h1;cases h1;cases h1
 .rename_i e1 e2 hq
  rw[hq];split at h
  case h_2=>cases h
  rename_i Df a b hf ha hb;cases h;obtain⟨D,f⟩:=Df;unfold vG at hf;split at hf
  case isFalse=>cases hf
  rename_i hc;rw[aY,jY]at hc;split at hf
  case h_2=>cases hf
  rename_i D' hD;obtain⟨f',h1,h2⟩:=map_some hf;cases h2;obtain⟨fd,ps,M,G,hbd⟩:=hi _ _ h1;obtain⟨g1,g2⟩:=ek (es:=[e1,e2]) (c:=.cons a (.cons b .nil)) Sd.e (by simp only[cL,ha,hb]);rw[zu2];exact Zx fl M G (bG.h2 (k:=k) O.room) hbd O.calm (O.gl q.f hc.2) (O.nU q.f _ hD) (jL hc.1).1 g1 g2
 cases h
theorem vH(O:gP X.eH C T R F k)(tp:tO X.eH C)(fl:xX X E)(hi:∀D f,kK X.K D=aB f->Kv X.prog X.w X.K X.mg X.base D f):∀(n:Nat) (st:aq) (c:S),cX X.K T R d n C st=aB c->SX X E st (exs (run F k) c)
 |0,_,_,h=>by cases h
 |n+1,st,c,h=>by
  have Sd:=tN (T:=T) (F:=F) (k:=k) d O;have ih:=vH O tp fl hi n;unfold cX at h;split at h;split at h;rename_i q hq;obtain⟨e,h1,h2⟩:=fZ hq;rw[h1,C4 h2];exact zn9 O fl hi h;cases h;obtain⟨a,h1,rfl⟩:=map_some h;rw[zq6];exact Zv (Sd.e _ _ h1).1
  .split at h
   case h_2=>cases h
   rename_i x y h2 h3;split at h;rename_i q hq;obtain⟨z,h4,rfl⟩:=map_some h;obtain⟨e,h5,h6⟩:=fZ hq;obtain⟨hj,a,as,ha,he⟩:=QH h6;rw[zq5 h5,he];rw[ha]at h4;obtain⟨g,fd,ps,q1,q2,q3,q4,q5,q6,q7⟩:=QI O hj;obtain⟨g1,g2⟩:=ek Sd.e h4;exact Zz fl q1 O.room q2 q3 q4 q5 q6 g1 g2 q7 (yo ih h2) (yo ih h3);obtain⟨z,h4,rfl⟩:=map_some h;exact PD (PT.eH (Sd.t _ _ h4)) (yo ih h2) (yo ih h3)
  split at h;rename_i q hq;obtain⟨z,h4,rfl⟩:=map_some h;obtain⟨hj,a,as,ha,he⟩:=QH hq;rw[he];rw[ha]at h4;obtain⟨g,fd,ps,q1,q2,q3,q4,q5,q6,q7⟩:=QI O hj;obtain⟨g1,g2⟩:=ek Sd.e h4;exact Zy fl q1 O.room q2 q3 q4 q5 q6 g1 g2 q7;split at h;rename_i hn;obtain⟨a,h1,rfl⟩:=map_some h;exact Qc (Pq (Sd.e _ _ h1).1 hn) rfl;cases h
  .rename_i tg it b pos
   split at h
   .rename_i h1 h2 h3
    split at h
    case isFalse=>cases h
    rename_i hw;cases h;obtain⟨w1,w2⟩:=Sd.w _ _ _ tg h1 hw;exact PJ fl.own O.calm (PI.eH w1) (PG.eH (pR O h2)) (yo ih h3) w2
   cases h
  split at h;rename_i c' hc;split at h;rename_i hn;cases h;exact Qc (mS O tp (n+1) _ _ hc) hn;cases h;cases h
end
noncomputable abbrev gS(K:aI)(T:List Str)(R:RX)(d n:Nat):CC->List aq->Option S:=λC b=>lR (cS K T R d n C) b
noncomputable abbrev gX(K:aI)(T:List Str)(R:RX)(d n:Nat):CC->List aq->Option S:=λC b=>(lR (cX K T R d n C) b).map λb=>.seq b (.ret (.cst (.tup [.aG])))
noncomputable def cC(K:aI)(T:List Str):Option Fn:=match clsAt K,kB T "Balls.__init__" 0,fnAt K "Balls.__init__"with|some D,aB ii,aB (f,_,fd)=>if JR K D f then aB (fX D ii (fd.params.args.length-1))else aC|_,_,_=>aC
noncomputable def Ag(K:aI)(T:List Str)(R:RX)(d n:Nat)(x:Str):Option Fn:=if x==("" : Str)then aB ⟨0,0,.no⟩else if nS x then cC K T else Ac K (gS K T R d n) x
theorem Ky{K:aI}{T:List Str}{R:RX}{d n:Nat}{x:Str}{fn:Fn}(h:Ag K T R d n x=aB fn)(hx:x≠"")(hc:nS x=false):Ac K (gS K T R d n) x=aB fn:=by
 unfold Ag at h;rw[if_neg (by simpa using hx),hc]at h;exact h
theorem DB{K:aI}{T:List Str}{R:RX}{d n:Nat}{x:Str}{fn:Fn}(h:Ag K T R d n x=aB fn)(hc:nS x):∃D ii na f,clsAt K=aB D/\fn=fX D ii na/\T[ii]?=aB "Balls.__init__"/\Mk K D f/\dI K "Balls.__init__" = aB f:=by
 unfold Ag at h;have hx:x = "Balls":=by unfold nS at hc;simpa using hc
 rw[if_neg (by rw[hx];decide +kernel),hc]at h;simp only[bX]at h;unfold cC at h;split at h;rename_i D ii f o fd h1 h2 h3;split at h;rename_i hm;cases h;refine⟨D,ii,_,f,h1,rfl,oB h2,Zc hm,?_⟩;unfold fnAt at h3;split at h3;rename_i g hg;split at h3;split at h3;cases h3;exact hg;cases h3;cases h3;cases h3;cases h;cases h
noncomputable def gF(K:aI)(T:List Str)(R:RX)(d n:Nat):Option (List Fn):=match aW (Ag K T R d n) T,aW (Ac K (gX K T R d n)) R.jc with|some a,aB b=>if Nat.beq R.at_ T.length then aB (a++b)else aC|_,_=>aC
theorem QJ{α β:Type}{f:α->Option β}:∀{l:List α} {r:List β},aW f l=aB r->r.length=l.length
 |[],_,h=>by cases h;rfl
 |x::l,r,h=>by
  unfold aW at h;split at h;split at h;rename_i bs yd;cases h;rw[dh,dh,QJ yd];cases h;cases h
section
variable{K:aI}{T:List Str}{R:RX}{d n:Nat}{Fs:List Fn}
theorem Ah(hP:gF K T R d n=aB Fs):(∀(i:Nat) (x:Str),T[i]?=aB x->∃fn,Fs[i]?=aB fn/\Ag K T R d n x=aB fn)/\∀(j:Nat) (x:Str),R.jc[j]?=aB x->∃fn,Fs[R.at_+j]?=aB fn/\Ac K (gX K T R d n) x=aB fn:=by
 unfold gF at hP;split at hP;rename_i a b ha hb;split at hP;rename_i hz;cases hP;have hl:=QJ ha;have hz:R.at_=T.length:=uK hz;refine⟨λi x e=>?_,λj x e=>?_⟩;obtain⟨fn,h1,h2⟩:=Kp ha i x e;exact⟨fn,by rw[zl (jR.mp h1).1];exact h1,h2⟩;obtain⟨fn,h1,h2⟩:=Kp hb j x e;exact⟨fn,by rw[oJ (by lia),hz,hl,Nat.add_sub_cancel_left];exact h1,h2⟩;cases hP;cases hP
end
theorem DC{K:aI}{T:List Str}{R:RX}{d n:Nat}{C:CC}{b:List aq}{s:S}(h:gX K T R d n C b=aB s):∃c,lR (cX K T R d n C) b=aB c/\s=.seq c (.ret (.cst (.tup [.aG]))):=by
 obtain⟨c,h1,h2⟩:=map_some h;exact⟨c,h1,h2⟩
noncomputable def Wd(P:ai)(w:aj)(K:aI)(mg:Str->Option aa)(base:az)(C:Nat)(z:Str):Prop:=∃f fd ps,mg "_law_word" = aB (.ref f)/\eg P w K mg base 2 f fd ps (C2 C z)/\PySem.W.keepIn K (.ref f)=true/\Binds K fd ps []
theorem _root_.L2.eg.imp{P:ai}{w:aj}{K:aI}{mg:Str->Option aa}{base:az}{k:Nat}{f:ah}{fd:au}{ps:List Str}{sp QK:List V->Hp->VK->Prop}(F:eg P w K mg base k f fd ps sp)(h:∀vs H Q,QK vs H Q->sp vs H Q):eg P w K mg base k f fd ps QK:=
 ⟨λvs H Q q=>F.len _ _ _ (h _ _ _ q),λA o s H args us vs Q hr e hb r q=>F.run A o s H args us vs Q hr e hb r (h _ _ _ q)⟩
theorem mZ{P:ai}{w:aj}{K:aI}{mg:Str->Option aa}{base:az}{C:Nat}{z:Str}{c1 c2:CC}{b1 b2:List aq}{t1 t2:List (Str×Bool)}{kb:List Bool}(h1:Af K "_law_kinds" = aB (c1,b1))(h2:Af K "_law_word" = aB (c2,b2))(KX:K.In base)(G:base.Ns mainGlobals mg)(ex:XL.jE K C)
 (ht1:kI K C c1 t1) (ht2:kI K C c2 t2) (k1:∀X:Cx,pU X C c1 t1 [] 0->SQ X b1 (pS C [aB .exc,aC] (.oF kb))) (k2:∀X:Cx,pU X C c2 t2 kb 1->SQ X b2 (pS C [aB .exc,aC] (.str z))):Wd P w K mg base C z:=by
 obtain⟨f1,fd1,ps1,a1,a2,a3,a4⟩:=QE (P:=P) (w:=w) (k:=0) KX G h1 ex ht1 (.inl rfl) k1;obtain⟨f2,fd2,ps2,b1,b2,b3,b4⟩:=QE (P:=P) (w:=w) (k:=1) KX G h2 ex ht2 (.inr ⟨f1,fd1,ps1,AJ KX G (zY a1 (by decide +kernel)),a2,a3,a4⟩) k2;exact⟨f2,fd2,ps2,AJ KX G (zY b1 (by decide +kernel)),b2.imp λvs H Q ⟨a,q1,q2,q3⟩=>⟨a,q1,q2,λv H' k r=>by rw[show v=.str z from r];exact q3 H' k⟩,b3,b4⟩
noncomputable abbrev AF(P:ai)(w:aj)(K:aI)(mg:Str->Option aa)(base:az)(T:List Str)(Fs:List Fn)(k:Nat):Prop:=∀(i:Nat) (x:Str),T[i]?=aB x->x≠""->nS x=false->∃f fd ps fn,dI K x=aB f/\bU P w K mg base jb k f fd ps (jo K ps.length (run (λi=>Fs[i]?) k i))/\PySem.W.keepIn K (.ref f)=true/\Binds K fd ps []/\Fs[i]?=aB fn/\fn.ps=ps.length/\(gE K x=true->Binds K fd ps [.none])
noncomputable abbrev AR(P:ai)(w:aj)(K:aI)(mg:Str->Option aa)(base:az)(R:RX)(Fs:List Fn)(k:Nat):Prop:=∀(j:Nat) (x:Str),R.jc[j]?=aB x->∃f fd ps fn,dI K x=aB f/\bU P w K mg base (lO P w) k f fd ps (tE K ps.length (run (λi=>Fs[i]?) k (R.at_+j)))/\PySem.W.keepIn K (.ref f)=true/\Binds K fd ps []/\Fs[R.at_+j]?=aB fn/\fn.ps=ps.length
noncomputable abbrev AC(P:ai)(w:aj)(K:aI)(mg:Str->Option aa)(base:az)(T:List Str)(Fs:List Fn)(k:Nat):Prop:=∀(ci:Nat) (x:Str),T[ci]?=aB x->nS x=true->∀k',k=k'+1->∃D f fd ps ii na,clsAt K=aB D/\Fs[ci]?=aB (fX D ii na)/\Mk K D f/\bU P w K mg base jb k' f fd ps (jo K ps.length (run (λi=>Fs[i]?) k' ii))/\Binds K fd ps []/\(gE K "Balls.__init__" = true->Binds K fd ps [.none])/\∀ws h w h',run (λi=>Fs[i]?) k' ii ws h=.ok w h'->ws.length=ps.length
section
variable{P:ai}{w:aj}{K:aI}{mg:Str->Option aa}{base:az}{T:List Str}{R:RX}{Fs:List Fn}{k d n:Nat}
theorem Kz(KX:K.In base)(G:base.Ns mainGlobals mg){x:Str}{st:aq}{f:ah}{N ps:List Str}(S:bY N ps (iy st))(H0:AF P w K mg base T Fs k)(HC:AC P w K mg base T Fs k)(HR:AR P w K mg base R Fs k)(HW:∀C z,(C,z)∈R.tb->Wd P w K mg base C z)
 (cdv:aa) (A:ak) (outer:List Env) (s:af) (H:Hp) (E:XK) (hr:bG k (A.deeper (envOfC x (iy st) s.heap.objs.size f cdv))):gP (gK jb P w K mg base N x (iy st) f cdv A outer s H E).eH ⟨N,(iy st).names,true⟩ T R (λi=>Fs[i]?) k:=by
 refine⟨rfl,S.nd,λy hy=>?_,λy hy=>?_,λy hy=>hy,λy hy=>hy,rfl,hr,rfl,S.kind,λy v hv=>AJ KX G hv,λy hv=>PySem.W.mg_none_of KX G hv,H0,HC,HR,HW⟩;have hy:kC ((iy st).names.lookup y)=true:=hy;cases z:(iy st).names.lookup y with
 |none=>rw[z]at hy;cases hy
 |some kd=>cases kd<;>first|exact .inl z|exact .inr (.inl z)|exact .inr (.inr z)|(rw[z]at hy;cases hy)
 have hy:lQ true ((iy st).names.lookup y)=true:=hy;cases z:(iy st).names.lookup y with
 |none=>rw[z]at hy;cases hy
 |some kd=>cases kd<;>first|exact⟨.inl z,.inl rfl⟩|exact⟨.inr z,.inl rfl⟩|(rw[z]at hy;cases hy)
theorem KA{CX:nB}{x:Str}{st:aq}{f:ah}{N:List Str}(cdv:aa)(A:ak)(outer:List Env)(s:af)(H:Hp)(E:XK):tO (gK CX P w K mg base N x (iy st) f cdv A outer s H E).eH ⟨N,(iy st).names,true⟩:=
 ⟨rfl,rfl,λ_=>rfl,λy hy=>⟨hy,.inl hy,.inl hy⟩⟩
theorem KC(hP:gF K T R d n=aB Fs)(ih:∀(j:Nat),j<=k->AF P w K mg base T Fs j/\AR P w K mg base R Fs j):AC P w K mg base T Fs k:=by
 intro ci x e hc k' hk;obtain⟨fn,h1,h2⟩:=(Ah hP).1 ci x e;obtain⟨D,ii,na,f,c1,rfl,c3,c4,c5⟩:=DB h2 hc;obtain⟨f',fd,ps,fn',q1,q2,q3,q4,q5,q6,q7⟩:=(ih k' (by lia)).1 ii "Balls.__init__" c3 (by decide +kernel) (by decide +kernel);rw[c5]at q1;cases q1;exact⟨D,f,fd,ps,ii,na,c1,h1,c4,q2,q4,q7,λws h w h' e=>by rw[tu (F:=λi=>Fs[i]?) q5 e,q6]⟩
theorem KD(hP:gF K T R d n=aB Fs)(KX:K.In base)(G:base.Ns mainGlobals mg)(HW:∀C z,(C,z)∈R.tb->Wd P w K mg base C z)(k:Nat):∀(j:Nat),j<=k->AF P w K mg base T Fs j/\AR P w K mg base R Fs j:=by
 induction k with
 |zero=>
  intro j hj;have:j=0:=Nat.le_zero.mp hj;subst this;refine⟨λi x e hx hc=>?_,λi x e=>?_⟩;obtain⟨fn,h1,h2⟩:=(Ah hP).1 i x e;obtain⟨f,fd,st,ps,N,a1,a2,a3,a4,a5,a6,a7,_⟩:=kF (Ky h2 hx hc);exact⟨f,fd,ps,fn,a1,PX,a2.kp,a6.1,h1,a5,a6.2.1⟩;obtain⟨fn,h1,h2⟩:=(Ah hP).2 i x e;obtain⟨f,fd,st,ps,N,a1,a2,a3,a4,a5,a6,a7,_⟩:=kF h2;exact⟨f,fd,ps,fn,a1,ZG,a2.kp,a6.1,h1,a5⟩
 |succ k ih=>
  intro j hj;by_cases hjk:j<=k;exact ih j hjk;have:j=k+1:=by lia
  subst this;refine⟨λi x e hx hc=>?_,λi x e=>?_⟩;obtain⟨fn,h1,h2⟩:=(Ah hP).1 i x e;obtain⟨f,fd,st,ps,N,a1,a2,a3,a4,a5,a6,a7,_⟩:=kF (Ky h2 hx hc);exact⟨f,fd,ps,fn,a1,PV (F:=λi=>Fs[i]?) h1 a2 a3 a4 a5 λcdv A outer s H E hr=>yj (mS (Kz KX G a3 (ih k (bq _)).1 (KC hP ih) (ih k (bq _)).2 HW cdv A outer s H E hr) (KA cdv A outer s H E) n) a7,a2.kp,a6.1,h1,a5,a6.2.1⟩;obtain⟨fn,h1,h2⟩:=(Ah hP).2 i x e;obtain⟨f,fd,st,ps,N,a1,a2,a3,a4,a5,a6,a7,_⟩:=kF h2;obtain⟨c,b1,b2⟩:=DC a7;exact⟨f,fd,ps,fn,a1,ZF (F:=λi=>Fs[i]?) h1 a2 a3 a4 a5 b2 λcdv A outer s H E hr=>yo (vH (X:=gK (lO P w) P w K mg base N x (iy st) f cdv A outer s H E) (Kz KX G a3 (ih k (bq _)).1 (KC hP ih) (ih k (bq _)).2 HW cdv A outer s H E hr) (KA cdv A outer s H E) ⟨λe s' z=>Zi rfl rfl rfl z,PassesOwn.leaving⟩ (λD f h=>zy2 KX G h) n) b1,a2.kp,a6.1,h1,a5⟩
end
noncomputable def DF:Res W->Bool|.ok (.bl true) _=>true|_=>false
noncomputable def says(K:aI)(T:List Str)(R:RX)(d n k i:Nat)(ns:List Int):Bool:=match gF K T R d n with|some Fs=>DF (run (λi=>Fs[i]?) k i [.fz (ns.map .int)] ⟨0,0,[]⟩)|none=>false
theorem zjp{r:Res W}(h:DF r):∃h',r=.ok (.bl true) h':=by
 cases r with
 |no=>cases h
 |ex _ _=>cases h
 |ok w h'=>cases w<;>first|(rename_i b;cases b<;>first|exact⟨h',rfl⟩|cases h)|cases h
theorem QL{K:aI}{m:Nat->ah}{n:Nat}{H:Hp}:∀(ns:List Int),aE K m n H (ns.map V.int) (ns.map W.int)|[]=>.nil|i::r=>.cons (.int i) (QL r)
theorem QM{K:aI}{T:List Str}{R:RX}{d n k i:Nat}{ns:List Int}(h:says K T R d n k i ns):∃Fs h',gF K T R d n=aB Fs/\run (λi=>Fs[i]?) k i [.fz (ns.map .int)] ⟨0,0,[]⟩=.ok (.bl true) h':=by
 unfold says at h;split at h;rename_i Fs hF;obtain⟨h',e⟩:=zjp h;exact⟨Fs,h',hF,e⟩;cases h
theorem zu3{K:aI}{T:List Str}{R:RX}{d n k i:Nat}{ns:List Int}{Fs:List Fn}(hP:gF K T R d n=aB Fs)(h:DF (run (λi=>Fs[i]?) k i [.fz (ns.map .int)] ⟨0,0,[]⟩)):says K T R d n k i ns=true:=by
 unfold says;rw[hP];exact h
noncomputable def pZ(K:aI)(x:Str):Bool:=match fnAt K x with
 |some (_,_,fd)=>(match tH fd.params with
  |some [a]=>a.arg==("_law_script" : Str) && !(fH K fd.defaults)
  |_=>false)
 |none=>false
theorem zq7{l:PySem.W.OpenLaw}{q:ai}{loose:List Str}{XP:(Str->Option aa)->az->Prop}{YP:aj->az->Prop}{dr:DefRec}{K:Params->aI}(T:List Str)(R:RX)(d n k i:Nat)(hn:l.most=aB 63)(hdf:dr.params.defaults=[])(hr:bG k callerA)
 (hY:∀(w:aj)(h:az),YP w h->(K w.params).In h) (hT:T[i]?=aB dr.name) (hne:dr.name≠""/\nS dr.name=false/\fY dr.name=aC) (hS:∀(w:aj)(ns:List Int),ns.length<=63->says (K w.params) T R d n k i ns) (hL:∀w:aj,pZ (K w.params) dr.name) (hW:∀(w:aj)(mg:Str->Option aa)(base:az),(K w.params).In base->base.Ns mainGlobals mg->∀C z,(C,z)∈R.tb->Wd l.prog w (K w.params) mg base C z) :
 PySem.W.WalkO q loose XP YP l.row.toRowW dr [] (λf vs=>PySem.call f vs):=by
 have any:∀w:aj,∃Fs,gF (K w.params) T R d n=aB Fs:=λw=>let⟨Fs,_,h,_⟩:=QM (hS w [] (i8 _));⟨Fs,h⟩;refine L2.Vl (n:=63) (k:=k) (x:="_law_script") (CX:=λ_=>jb) (sp:=λw=>jo (K w.params) 1 (run (λj=>(Classical.choose (any w))[j]?) k i)) hn (by decide) hdf hr hY ?_ ?_ λ_ _ _ _ _ z=>z;intro w mg fa h KX G hmg;have hP:=Classical.choose_spec (any w);obtain⟨fn',h1,h2⟩:=(Ah hP).1 i _ hT;obtain⟨f',fd',st,ps',N,a1,a2,a3,a4,a5,a6,a7,o',fd'',args,a8,a9,KG⟩:=kF (Ky h2 hne.1 hne.2.1);have hps:ps'=[("_law_script" : Str)]:=by
  have hl:=hL w;unfold pZ at hl;rw[a8]at hl;simp only[a9]at hl;cases args with
  |nil=>cases hl
  |cons z zs=>
   cases zs with
   |nil=>
    rw[aY]at hl;have hl:z.arg = "_law_script":=by simpa using hl.1
    rw[KG,cP,hl];rfl
   |cons _ _=>cases hl
 have hnd:gE (K w.params) dr.name=false:=by
  have hl:=hL w;unfold pZ at hl;rw[a8]at hl;unfold gE;rw[a8];simp only[a9]at hl;split at hl;rw[aY]at hl;simpa using hl.2;cases hl
 have e:=AJ KX G (zY a1 hne.2.2);rw[hmg]at e;cases e;subst hps;refine⟨fd',λs u=>.of_eq (a6.2.2 hnd [u] rfl),λbase KB GB=>?_⟩;have HW:∀C z,(C,z)∈R.tb->Wd l.prog w (K w.params) mg base C z:=hW w mg base KB GB;cases k with|zero=>exact PX|succ k=>exact PV (F:=λj=>(Classical.choose (any w))[j]?) h1 a2 a3 a4 a5 λcdv A outer s H E hr=>yj (mS (Kz KB GB a3 (KD hP KB GB HW k k (bq _)).1 (KC hP (KD hP KB GB HW k)) (KD hP KB GB HW k k (bq _)).2 HW cdv A outer s H E hr) (KA cdv A outer s H E) n) a7
 intro w H a ns hl hO hQ;obtain⟨Fs,h',e1,e2⟩:=QM (hS w ns hl);have hP:=Classical.choose_spec (any w);rw[hP]at e1;cases e1;refine⟨rfl,⟨0,0,[]⟩,λ_=>0,_,_,h',⟨λi hi=>absurd hi (Nat.not_lt_zero _),λi j hi=>absurd hi (Nat.not_lt_zero _),rfl⟩,.cons (.fz ?_ (QL ns)) .nil,e2,λv H' m' _ _ q=>by cases q;rfl⟩;rcases hQ with(q|⟨o,q⟩)|q
 rcases hO a with z|⟨o,xs,z⟩;rw[z]at q;cases q;rw[z]at q;cases q;exact .inl ⟨o,q⟩;exact .inr q
section
open E renaming var->v,cons->c,cst->k,nil->n,call->f,idx->x,cmp->p,bi->b,op->o,not->z,and->a,or->r,kZ->t,rF->i,slc->l,lst->m,lc->u,neg->y,mt->w
open S renaming seq->q,skip->s,ret->e,set->d,oA->g,expr->h,put->j
noncomputable def GL:Fn:=⟨1,1,(q (e (a (i .int (v 0)) (z (i .bool (v 0))))) s)⟩
noncomputable def KH:Fn:=⟨3,3,(q (e (a (f 0 (c (v 0) n)) (.xJ .le .le (v 1) (v 0) (v 2)))) s)⟩
noncomputable def GN:Fn:=⟨2,2,(q (.ite (p .eq (b .len (c (v 0) n)) (k (.int 0))) (q (e (o .add (o .mul (k (.int 7)) (v 1)) (k (.int 3)))) s) s) (q (e (b .abs (c (x (v 0) (o .mod (v 1) (b .len (c (v 0) n)))) n))) s))⟩
noncomputable def vI:E:=(p .ge (b .abs (c (v 0) n)) (o .pow (k (.int 10)) (k (.int 18))))
noncomputable def vJ:E:=(b .abs (c (v 0) n))
noncomputable def DG:Fn:=⟨1,1,(q (e (m (c (v 0) (c (u .seq (v 0) (.one 0) 1 [] vI vJ) (c (k (.int 0)) (c (k (.int 0)) n)))))) s)⟩
noncomputable def KI:Fn:=⟨3,4,(q (d 3 (o .mod (o .pow (o .add (o .mul (o .add (o .mod (f 2 (c (v 0) (c (v 1) n))) (k (.int 1000003))) (k (.int 5))) (o .add (v 1) (k (.int 2)))) (o .mul (k (.int 7919)) (v 1))) (k (.int 5))) (k (.int 2147483647)))) (q (e (o .mod (o .fdiv (v 3) (k (.int 13))) (v 2))) s))⟩
noncomputable def DH:E:=(p .lt (x (v 0) (k (.int 2))) (b .len (c (x (v 0) (k (.int 1))) n)))
noncomputable def yq:S:=(q (d 2 (x (x (v 0) (k (.int 1))) (x (v 0) (k (.int 2))))) (q (.ite (p .gt (v 2) (k (.int 0))) (q (j (x (v 0) (k (.int 1))) (x (v 0) (k (.int 2))) (o .fdiv (v 2) (v 1))) (q (e (o .mod (v 2) (v 1))) s)) s) (q (j (v 0) (k (.int 2)) (o .add (x (v 0) (k (.int 2))) (k (.int 1)))) s)))
noncomputable def tV:Fn:=⟨2,3,(q (.zR DH yq) (q (j (v 0) (k (.int 3)) (o .add (x (v 0) (k (.int 3))) (k (.int 1)))) (q (e (f 4 (c (x (v 0) (k (.int 0))) (c (x (v 0) (k (.int 3))) (c (v 1) n))))) s)))⟩
noncomputable def DI:Fn:=⟨3,3,(q (e (a (i .tuple (v 0)) (.xJ .le .le (v 1) (b .len (c (v 0) n)) (v 2)))) s)⟩
noncomputable def GO:S:=(q (.ite (z (t (f 1 (c (v 5) (c (v 3) (c (v 4) n)))))) (q (e (k (.bl false))) s) s) s)
noncomputable def DJ:Fn:=⟨5,6,(q (.ite (z (t (f 6 (c (v 0) (c (v 1) (c (v 2) n)))))) (q (e (k (.bl false))) s) s) (q (.«for» .seq (v 0) (.one 5) GO) (q (e (k (.bl true))) s)))⟩
noncomputable def GP:S:=(q (.ite (z (t (f 11 (c (v 3) (c (v 2) n))))) (q (e (k (.bl false))) s) s) s)
noncomputable def KJ:Fn:=⟨3,4,(q (.ite (z (t (f 6 (c (v 0) (c (v 1) (c (v 1) n)))))) (q (e (k (.bl false))) s) s) (q (.«for» .seq (v 0) (.one 3) GP) (q (e (k (.bl true))) s)))⟩
noncomputable def GQ:S:=(q (.ite (z (t (f 6 (c (v 2) (c (v 1) (c (v 1) n)))))) (q (e (k (.bl false))) s) s) s)
noncomputable def KL:Fn:=⟨2,3,(q (.ite (z (t (f 6 (c (v 0) (c (k (.int 0)) (c (k (.int 60)) n)))))) (q (e (k (.bl false))) s) s) (q (.«for» .seq (v 0) (.one 2) GQ) (q (e (k (.bl true))) s)))⟩
noncomputable def p9:Fn:=⟨1,6,(q (.ite (z (t (f 6 (c (v 0) (c (k (.int 5)) (c (k (.int 5)) n)))))) (q (e (k (.bl false))) s) s) (q (g [1,2,3,4,5] (v 0)) (q (.ite (r (z (t (f 1 (c (v 1) (c (k (.int 1)) (c (k (.int 40)) n)))))) (z (t (f 1 (c (v 2) (c (k (.int 0)) (c (k (.int 8)) n))))))) (q (e (k (.bl false))) s) s) (q (.ite (z (t (f 7 (c (v 4) (c (k (.int 1)) (c (k (.int 4)) (c (k (.int 0)) (c (o .sub (v 1) (k (.int 1))) n)))))))) (q (e (k (.bl false))) s) s) (q (e (a (f 9 (c (v 3) (c (v 1) n))) (f 8 (c (v 5) (c (v 1) (c (b .len (c (v 4) n)) n)))))) s)))))⟩
noncomputable def tW:Fn:=⟨2,4,(q (.ite (z (t (f 6 (c (v 0) (c (k (.int 2)) (c (k (.int 2)) n)))))) (q (e (k (.bl false))) s) s) (q (g [2,3] (v 0)) (q (e (a (f 1 (c (v 2) (c (k (.int 0)) (c (k (.int 99)) n)))) (f 12 (c (v 3) (c (v 1) n))))) s)))⟩
noncomputable def yr:Fn:=⟨2,2,(q (e (r (p .vd (v 0) (k .aG)) (f 1 (c (v 0) (c (k (.int 0)) (c (o .sub (v 1) (k (.int 1))) n)))))) s)⟩
noncomputable def tX:Fn:=⟨2,4,(q (.ite (z (t (f 6 (c (v 0) (c (k (.int 2)) (c (k (.int 2)) n)))))) (q (e (k (.bl false))) s) s) (q (g [2,3] (v 0)) (q (e (a (f 1 (c (v 2) (c (k (.int 0)) (c (o .sub (v 1) (k (.int 1))) n)))) (f 1 (c (v 3) (c (k (.int 0)) (c (k (.int 1)) n)))))) s)))⟩
noncomputable def GR:S:=(q (.ite (z (t (f 15 (c (v 7) (c (v 6) (c (v 1) (c (v 2) n))))))) (q .no s) s) s)
noncomputable def GS:S:=(q (.«for» .nH (v 5) (.many [6,7]) GR) s)
noncomputable def yt:Fn:=⟨1,8,(q (.ite (z (t (f 10 (c (v 0) n)))) (q .no s) s) (q (g [1,2,3] (l (v 0) false (k .aG) true (k (.int 3)))) (q (.«for» .nH (v 3) (.many [4,5]) GS) s)))⟩
noncomputable def yu:Fn:=⟨4,4,(q (.ite (r (p .eq (v 0) (k (.str (bf "x")))) (t (f 13 (c (v 0) (c (v 3) n))))) (q (e (.xJ .lt .lt (k (.int 0)) (v 1) (o .sub (v 2) (k (.int 1))))) s) s) (q (.ite (p .eq (v 0) (k (.str (bf "<")))) (q (e (p .gt (v 1) (k (.int 0)))) s) s) (q (.ite (p .eq (v 0) (k (.str (bf ">")))) (q (e (p .lt (v 1) (o .sub (v 2) (k (.int 1))))) s) s) (q (e (r (p .eq (v 0) (k (.str (bf ".")))) (p .eq (v 0) (k (.str (bf "s")))))) s))))⟩
noncomputable def qc:Fn:=⟨4,6,(q (d 4 (f 5 (c (v 0) (c (k (.int 10)) n)))) (q (d 5 (x (m (c (k (.str (bf "."))) (c (k (.str (bf "<"))) (c (k (.str (bf ">"))) (c (k (.str (bf "x"))) (c (k (.str (bf "."))) (c (k (.str (bf "."))) n))))))) (b .min (c (v 4) (c (k (.int 5)) n))))) (q (.ite (a (p .gt (v 4) (k (.int 4))) (p .gt (v 3) (k (.int 0)))) (q (d 5 (.tup (c (f 5 (c (v 0) (c (v 3) n))) (c (f 5 (c (v 0) (c (k (.int 2)) n))) n)))) s) s) (q (.ite (a (p .eq (v 4) (k (.int 4))) (p .eq (f 5 (c (v 0) (c (k (.int 4)) n))) (k (.int 0)))) (q (e (k (.str (bf "s")))) s) s) (q (.ite (r (a (p .eq (v 1) (k (.int 0))) (p .sO (v 5) (.tup (c (k (.str (bf "."))) (c (k (.str (bf ">"))) n))))) (a (p .eq (v 1) (o .sub (v 2) (k (.int 1)))) (p .sO (v 5) (.tup (c (k (.str (bf "."))) (c (k (.str (bf "<"))) n)))))) (q (e (x (m (c (k (.str (bf ">"))) (c (k (.str (bf "<"))) (c (k (.str (bf "."))) n)))) (b .min (c (o .add (b .int (c (p .gt (v 1) (k (.int 0))) n)) (o .mul (k (.int 2)) (b .int (c (p .eq (v 2) (k (.int 1))) n)))) (c (k (.int 2)) n))))) s) s) (q (e (v 5)) s))))))⟩
noncomputable def yv:Fn:=⟨2,4,(q (d 2 (x (m (c (f 5 (c (v 0) (c (k (.int 3)) n))) (c (f 5 (c (v 0) (c (k (.int 100)) n))) n))) (b .int (c (p .eq (f 5 (c (v 0) (c (k (.int 4)) n))) (k (.int 0))) n)))) (q (d 3 (f 5 (c (v 0) (c (v 1) n)))) (q (.ite (p .eq (f 5 (c (v 0) (c (k (.int 8)) n))) (k (.int 0))) (q (e (.tup (c (v 2) (c (k .aG) n)))) s) s) (q (e (.tup (c (v 2) (c (v 3) n)))) s))))⟩
noncomputable def GU:E:=(f 21 (c (v 1) (c (v 0) (c (v 3) (c (v 2) n)))))
noncomputable def tY:Fn:=⟨3,3,(q (e (b .tuple (c (u .eL (c (v 1) n) (.one 0) 1 [0,2,1] (k (.bl true)) GU) n))) s)⟩
noncomputable def QN:E:=(f 25 (c (v 1) (c (v 3) (c (v 2) n))))
noncomputable def QO:E:=(f 5 (c (v 1) (c (v 2) n)))
noncomputable def QS:E:=(f 23 (c (v 1) (c (b .len (c (v 2) n)) n)))
noncomputable def yw:Fn:=⟨4,9,(q (d 4 (o .add (k (.int 1)) (f 5 (c (v 0) (c (v 1) n))))) (q (d 5 (f 5 (c (v 0) (c (o .add (v 3) (k (.int 1))) n)))) (q (d 6 (u .eL (c (f 5 (c (v 0) (c (o .add (v 2) (k (.int 1))) n))) n) (.one 0) 1 [0,5,4] (k (.bl true)) QN)) (q (d 7 (b .tuple (c (u .eL (c (o .add (k (.int 1)) (f 5 (c (v 0) (c (k (.int 4)) n)))) n) (.one 0) 1 [0,4] (k (.bl true)) QO) n))) (q (d 8 (b .tuple (c (u .eL (c (v 4) n) (.one 0) 1 [0,7] (k (.bl true)) QS) n))) (q (e (.tup (c (v 4) (c (v 5) (c (b .tuple (c (v 6) n)) (c (v 7) (c (v 8) n))))))) s))))))⟩
noncomputable def nW:Fn:=⟨2,2,(q (e (f 7 (c (v 0) (c (v 1) (c (v 1) (c (k (.int 0)) (c (k (.int 1)) n))))))) s)⟩
noncomputable def GV:E:=(f 5 (c (v 1) (c (k (.int 2)) n)))
noncomputable def qd:Fn:=⟨2,2,(q (e (b .tuple (c (u .eL (c (v 1) n) (.one 0) 1 [0] (k (.bl true)) GV) n))) s)⟩
noncomputable def yx:Fn:=⟨2,2,(q (h (f 14 (c (v 0) n))) (q (e (f 17 (c (v 1) (c (x (v 0) (k (.int 1))) n)))) s))⟩
noncomputable def yy:Fn:=⟨2,2,(q (.ite (z (t (f 22 (c (v 0) (c (v 1) n))))) (q .no s) s) s)⟩
noncomputable def qe:Fn:=⟨3,3,(q (e (f 7 (c (v 0) (c (k (.int 0)) (c (v 2) (c (k (.int 0)) (c (o .sub (v 1) (k (.int 1))) n))))))) s)⟩
noncomputable def Ai:S:=(q (d 8 (x (v 7) (x (v 4) (y (k (.int 1)))))) (q (.ite (p .eq (v 8) (k (.str (bf "s")))) (q (e (m (c (b .tuple (c (v 4) n)) (c (b .tuple (c (v 5) n)) (c (b .tuple (c (v 1) n)) (c (k (.bl true)) n)))))) s) s) (q (.ite (r (p .eq (v 8) (k (.str (bf ".")))) (r (p .eq (v 8) (k (.str (bf "<")))) (p .eq (v 8) (k (.str (bf ">")))))) (q (d 6 (x (.rE (c (k (.str (bf "."))) (c (k (.int 0)) (c (k (.str (bf "<"))) (c (y (k (.int 1))) (c (k (.str (bf ">"))) (c (k (.int 1)) n))))))) (v 8))) s) (q (.ite (p .ne (v 8) (k (.str (bf "x")))) (q (d 6 (o .sub (k (.int 1)) (o .mul (k (.int 2)) (b .int (c (p .eq (x (v 1) (x (v 8) (k (.int 0)))) (x (v 8) (k (.int 1)))) n))))) (q (h (w .append (v 5) (c (x (v 8) (k (.int 0))) n))) (q (j (v 1) (x (v 8) (k (.int 0))) (o .sub (k (.int 1)) (x (v 1) (x (v 8) (k (.int 0)))))) s))) s) s)) (q (h (w .append (v 4) (c (o .add (x (v 4) (y (k (.int 1)))) (v 6)) n))) s))))
noncomputable def qg:Fn:=⟨3,9,(q (d 3 (x (x (v 0) (k (.int 3))) (v 2))) (q (d 4 (m (c (v 3) n))) (q (d 5 (m n)) (q (d 1 (b .list (c (v 1) n))) (q (d 6 (k (.int 0))) (q (.«for» .seq (x (v 0) (k (.int 2))) (.one 7) Ai) (q (e (m (c (b .tuple (c (v 4) n)) (c (b .tuple (c (v 5) n)) (c (b .tuple (c (v 1) n)) (c (k (.bl false)) n)))))) s)))))))⟩
noncomputable def qh:Fn:=⟨2,2,(q (e (a (i .int (v 0)) (a (z (i .bool (v 0))) (p .eq (v 0) (v 1))))) s)⟩
noncomputable def eZ:Fn:=⟨4,7,(q (.ite (t (i .tuple (v 0))) (q (g [4,5] (v 0)) (q (d 6 (x (v 2) (v 4))) (q (.ite (p .ne (v 4) (v 3)) (q (j (v 2) (v 4) (o .sub (k (.int 1)) (v 6))) s) s) (q (e (.ite (p .eq (v 6) (v 5)) (k (.int (-1))) (k (.int 1)))) s)))) s) (q (.ite (p .eq (v 0) (k (.str (bf "s")))) (q (e (k .aG)) s) s) (q (.ite (p .eq (v 0) (k (.str (bf "x")))) (q (e (v 1)) s) s) (q (.ite (p .eq (v 0) (k (.str (bf ".")))) (q (e (k (.int 0))) s) s) (q (e (.ite (p .eq (v 0) (k (.str (bf "<")))) (k (.int (-1))) (k (.int 1)))) s)))))⟩
noncomputable def DL:S:=(q (d 10 (x (v 9) (v 4))) (q (d 8 (f 173 (c (v 10) (c (v 8) (c (v 7) (c (v 3) n)))))) (q (.ite (p .vd (v 8) (k .aG)) (q .brk s) s) (q (.ite (a (t (i .tuple (v 10))) (p .ne (x (v 10) (k (.int 0))) (v 3))) (q (h (w .append (v 6) (c (x (v 10) (k (.int 0))) n))) s) s) (q (.aug 4 .add (v 8)) (q (h (w .append (v 5) (c (v 4) n))) s))))))
noncomputable def kL:Fn:=⟨4,11,(q (d 4 (x (x (v 0) (k (.int 3))) (v 2))) (q (d 5 (m (c (v 4) n))) (q (d 6 (m n)) (q (d 7 (b .list (c (v 1) n))) (q (d 8 (k (.int 0))) (q (.«for» .seq (x (v 0) (k (.int 2))) (.one 9) DL) (q (e (.tup (c (b .tuple (c (v 5) n)) (c (b .tuple (c (v 6) n)) (c (b .tuple (c (v 7) n)) n))))) s)))))))⟩
noncomputable def vK:Fn:=⟨4,8,(q (g [4,5,6] (f 174 (c (v 0) (c (v 1) (c (v 2) (c (v 3) n)))))) (q (d 7 (.ite (p .gt (b .len (c (v 4) n)) (b .len (c (x (v 0) (k (.int 2))) n))) (x (v 4) (y (k (.int 1)))) (k .aG))) (q (e (.tup (c (v 7) (c (v 6) n)))) s)))⟩
noncomputable def kM:Fn:=⟨4,7,(q (g [4,5] (f 175 (c (v 0) (c (v 1) (c (v 2) (c (v 3) n)))))) (q (d 6 (.ite (p .vd (v 4) (k .aG)) (k (.tup [.aG,.aG])) (x (x (v 0) (k (.int 4))) (v 4)))) (q (e (.tup (c (v 6) (c (v 5) n)))) s)))⟩
noncomputable abbrev tZ:E:=.rE (c (k (.str (bf "."))) (c (k (.int 0)) (c (k (.str (bf "<"))) (c (y (k (.int 1))) (c (k (.str (bf ">"))) (c (k (.int 1)) n))))))
noncomputable abbrev sE:E:=k (.str (bf "s"))
noncomputable def lV:S:=(.ite (r (p .eq (v 8) (k (.str (bf ".")))) (r (p .eq (v 8) (k (.str (bf "<")))) (p .eq (v 8) (k (.str (bf ">")))))) (q (d 6 (x tZ (v 8))) s) (q (.ite (p .ne (v 8) (k (.str (bf "x")))) (q (d 6 (o .sub (k (.int 1)) (o .mul (k (.int 2)) (b .int (c (p .eq (x (v 1) (x (v 8) (k (.int 0)))) (x (v 8) (k (.int 1)))) n))))) (q (h (w .append (v 5) (c (x (v 8) (k (.int 0))) n))) (q (j (v 1) (x (v 8) (k (.int 0))) (o .sub (k (.int 1)) (x (v 1) (x (v 8) (k (.int 0)))))) s))) s) s))
noncomputable def QT:E:=(f 39 (c (v 0) (c (v 1) n)))
noncomputable def kN:Fn:=⟨2,2,(q (.ite (r (z (t (i .tuple (v 0)))) (p .ne (b .len (c (v 0) n)) (b .len (c (v 1) n)))) (q (e (k (.bl false))) s) s) (q (e (b .all (c (u .zip (c (v 0) (c (v 1) n)) (.many [0,1]) 2 [] (k (.bl true)) QT) n))) s))⟩
noncomputable def qi:Fn:=⟨2,2,(q (.ite (z (t (f 28 (c (v 1) (c (b .len (c (x (v 0) (k (.int 3))) n)) (c (k (.int 2000)) n)))))) (q .no s) s) s)⟩
noncomputable def kO:Fn:=⟨3,3,(q (h (f 24 (c (v 0) (c (v 1) n)))) (q (h (f 180 (c (v 0) (c (v 2) n)))) (q (e (f 179 (c (f 347 (c (v 0) (c (k .aG) n))) (c (v 1) (c (v 2) n))))) s)))⟩
noncomputable def KN:E:=(c (b .len (c (x (v 1) (k (.int 3))) n)) (c (y (k (.int 1))) (c (k (.bl true)) (c (k .aG) (c (k (.str (bf "0"))) (c (.tup (c (k (.int 0)) n)) (c (o .pow (k (.int 10)) (k (.int 30))) n)))))))
noncomputable def KO:E:=(c (o .add (o .add (l (v 3) false (k .aG) true (v 4)) (.tup (c (v 5) n))) (l (v 3) true (v 4) false (k .aG))) (c (b .list (c (v 3) n)) (c (k .aG) (c (k (.str (bf "0"))) (c (.rE n) (c (o .mul (.tup (c (k (.int 0)) n)) (k (.int 2001))) (c (k (.int 0)) n)))))))
noncomputable def KP:E:=(c (x (v 1) (k (.int 0))) (c (x (v 1) (k (.int 1))) (c (o .add (.tup (c (o .mul (.tup (c (k (.int 7)) n)) (x (v 1) (k (.int 0)))) n)) (l (x (v 1) (k (.int 2))) true (k (.int 1)) false (k .aG))) (c (x (v 1) (k (.int 3))) (c (x (v 1) (k (.int 4))) n)))))
noncomputable def QU:E:=(p .eq (f 703 (c (v 0) (c (v 1) (c (v 2) n)))) (v 3))
noncomputable def DM:Fn:=⟨4,10,(q (d 4 (f 5 (c (v 0) (c (o .add (b .len (c (v 3) n)) (k (.int 1))) n)))) (q (d 5 (x (m KN) (f 5 (c (v 0) (c (k (.int 7)) n))))) (q (d 6 (x (m KO) (f 5 (c (v 0) (c (k (.int 7)) n))))) (q (d 7 (.tup KP)) (q (d 8 (o .add (v 2) (.tup (c (k (.int 0)) n)))) (q (d 9 (m (c (.tup (c (b .list (c (v 1) n)) (c (v 8) (c (v 6) (c (k (.str (bf "board"))) n))))) (c (.tup (c (v 7) (c (v 8) (c (v 6) (c (k (.str (bf "fault"))) n))))) (c (.tup (c (v 1) (c (v 8) (c (v 6) (c (k (.str (bf "leans"))) n))))) n))))) (q (d 9 (o .add (v 9) (m (c (.tup (c (v 1) (c (v 2) (c (v 6) (c (k (.str (bf "row"))) n))))) (c (.tup (c (v 1) (c (v 8) (c (v 3) (c (k (.str (bf "leans"))) n))))) (c (.tup (c (v 1) (c (v 2) (c (v 3) (c (k (.str (bf "told"))) n))))) n)))))) (q (e (b .all (c (u .seq (v 9) (.many [0,1,2,3]) 4 [] (k (.bl true)) QU) n))) s))))))))⟩
noncomputable def vL:S:=(q (.ite (r (a (p .vd (v 7) (k .aG)) (p .pB (v 6) (k .aG))) (a (p .pB (v 7) (k .aG)) (z (t (f 39 (c (v 6) (c (v 7) n))))))) (q (e (k (.bl false))) s) s) s)
noncomputable def DN:Fn:=⟨3,8,(q (d 3 (f 183 (c (v 0) (c (v 1) (c (v 2) n))))) (q (g [4,5] (f 702 (c (v 0) (c (v 1) (c (v 2) n))))) (q (.ite (r (z (t (i .tuple (v 3)))) (r (p .ne (b .len (c (v 3) n)) (k (.int 2))) (z (t (f 114 (c (x (v 3) (k (.int 1))) (c (v 5) n))))))) (q (e (k (.bl false))) s) s) (q (.ite (r (z (t (i .tuple (x (v 3) (k (.int 0)))))) (p .ne (b .len (c (x (v 3) (k (.int 0))) n)) (b .len (c (v 4) n)))) (q (e (k (.bl false))) s) s) (q (.«for» .zip (c (x (v 3) (k (.int 0))) (c (v 4) n)) (.many [6,7]) vL) (q (e (k (.bl true))) s))))))⟩
noncomputable def yz:S:=(q (g [5,6,1,7] (f 38 (c (v 0) (c (v 1) (c (v 4) n))))) (q (h (w .append (v 3) (c (.ite (t (v 7)) (k .aG) (x (x (x (v 0) (k (.int 4))) (x (v 5) (y (k (.int 1))))) (k (.int 0)))) n))) s))
noncomputable def DO:Fn:=⟨3,8,(q (d 3 (m n)) (q (.«for» .seq (v 2) (.one 4) yz) (q (e (.tup (c (b .tuple (c (v 3) n)) (c (v 1) n)))) s)))⟩
noncomputable def Aj:Fn:=⟨3,4,(q (.nI 709 (c (v 0) (c (v 1) (c (v 2) n))) [(.mk 37 (.str (bf "board"))),(.mk 56 (.str (bf "fault"))),(.mk 68 (.str (bf "leans"))),(.mk 104 (.str (bf "row")))]) (q (e (k (.str (bf "told")))) s))⟩
noncomputable def KQ:E:=(f 5 (c (v 2) (c (b .len (c (x (v 1) (k (.int 3))) n)) n)))
noncomputable def DP:Fn:=⟨1,10,(q (d 1 (f 3 (c (v 0) n))) (q (d 2 (f 5 (c (v 1) (c (k (.int 12)) n)))) (q (d 3 (f 26 (c (v 1) (c (k (.int 9)) (c (x (m (c (k (.int 10)) (c (k (.int 60)) (c (k (.int 4)) n)))) (b .max (c (k (.int 0)) (c (o .sub (v 2) (k (.int 9))) n)))) (c (k (.int 8)) n)))))) (q (d 4 (f 20 (c (v 1) (c (x (v 3) (k (.int 1))) n)))) (q (d 5 (b .tuple (c (u .eL (c (f 5 (c (v 1) (c (k (.int 13)) n))) n) (.one 0) 1 [3,1] (k (.bl true)) KQ) n))) (q (.ite (p .eq (v 2) (k (.int 11))) (q (d 5 (l (o .mul (o .add (v 5) (.tup (c (k (.int 0)) n))) (k (.int 2000))) false (k .aG) true (k (.int 2000)))) s) s) (q (.ite (r (z (t (f 701 (c (v 3) (c (v 4) (c (v 5) n)))))) (z (t (f 701 (c (v 3) (c (v 4) (c (.tup n) n))))))) (q (e (k (.bl false))) s) s) (q (d 6 (f 5 (c (v 1) (c (o .add (b .len (c (v 5) n)) (k (.int 1))) n)))) (q (d 7 (f 183 (c (v 3) (c (v 4) (c (l (v 5) false (k .aG) true (v 6)) n))))) (q (d 8 (f 183 (c (v 3) (c (x (v 7) (k (.int 1))) (c (l (v 5) true (v 6) false (k .aG)) n))))) (q (d 9 (f 183 (c (v 3) (c (v 4) (c (v 5) n))))) (q (.ite (r (p .ne (o .add (x (v 7) (k (.int 0))) (x (v 8) (k (.int 0)))) (x (v 9) (k (.int 0)))) (p .ne (x (v 8) (k (.int 1))) (x (v 9) (k (.int 1))))) (q (e (k (.bl false))) s) s) (q (e (f 700 (c (v 1) (c (v 3) (c (v 4) (c (l (v 5) false (k .aG) true (k (.int 12))) n)))))) s)))))))))))))⟩
noncomputable def iT:Fn:=⟨0,0,.no⟩
end
noncomputable def fin(h:VH)(r:Res Fl):Res W:=r.bind λfl h'=>match fl with|.nx _=>leave h .aG h'|.rt w=>leave h w h'|_=>.no
theorem cz{k f:Nat}{h:VH}(hF:F f=aB fn)(hl:ws.length=fn.ps) :
 run F (k+1) f ws h=fin h (exs (run F k) fn.body (ws.map aB++bI (fn.n-fn.ps) aC) ⟨h.n,h.n,h.os⟩):=by
 simp only[run,hF];rw[if_pos (by rw[hl];exact Nat.beq_refl _)];rfl
theorem QV(h1:h.n<=h'.lo)(h2:W.lt h.n w):leave h w h'=.ok w h:=by
 unfold leave;rw[if_pos (by rw[aY];exact⟨rW.mpr h1,h2⟩)]
theorem cj(h1:h.n<=h'.lo)(h2:W.lt h.n w):fin h (.ok (.rt w) h')=.ok w h:=QV h1 h2
theorem KR{ρ:En}(h1:h.n<=h'.lo):fin h (.ok (.nx ρ) h')=.ok .aG h:=QV h1 (by simp only[W.lt])
@[simp] theorem aD {α β:Type} {a:α} {h:VH} {f:α->VH->Res β}:(Res.ok a h).bind f=f a h:=rfl
@[simp] theorem KS {α β:Type} {f:α->VH->Res β}:(Res.no:Res α).bind f=.no:=rfl
@[simp] theorem aT {α:Type} {a:α} {h:VH}:Res.of (aB a) h=.ok a h:=rfl
@[simp] theorem KU {α:Type} {h:VH}:Res.of (aC:Option α) h=.no:=rfl
@[simp] theorem lW {n:Nat}:W.lt n .aG=true:=by simp only[W.lt]
@[simp] theorem jr {n:Nat} {b:Bool}:W.lt n (.bl b)=true:=by simp only[W.lt]
@[simp] theorem lt_int {n:Nat} {b:Int}:W.lt n (.int b)=true:=by simp only[W.lt]
@[simp] theorem lt_str {n:Nat} {b:Str}:W.lt n (.str b)=true:=by simp only[W.lt]
@[simp] theorem eN {n:Nat} {b:List W}:W.lt n (.tup b)=W.jU n b:=by simp only[W.lt]
@[simp] theorem dJ {n:Nat}:W.jU n []=true:=by simp only[W.jU]
@[simp] theorem bK {n:Nat} {b:W} {r:List W}:W.jU n (b::r)=(W.lt n b&&W.jU n r):=by simp only[W.jU]
@[simp] theorem yC:((Ty.int==Ty.int):Bool)=true:=rfl
@[simp] theorem vM:((Ty.int==Ty.bool):Bool)=false:=rfl
@[simp] theorem t6:((Ty.int==Ty.tuple):Bool)=false:=rfl
@[simp] theorem vN:((Ty.int==Ty.list):Bool)=false:=rfl
@[simp] theorem yD:((Ty.int==Ty.str):Bool)=false:=rfl
@[simp] theorem vO:((Ty.int==Ty.dict):Bool)=false:=rfl
@[simp] theorem vP:((Ty.bool==Ty.int):Bool)=false:=rfl
@[simp] theorem t7:((Ty.bool==Ty.bool):Bool)=true:=rfl
@[simp] theorem rJ:((Ty.bool==Ty.tuple):Bool)=false:=rfl
@[simp] theorem t8:((Ty.bool==Ty.list):Bool)=false:=rfl
@[simp] theorem vQ:((Ty.bool==Ty.str):Bool)=false:=rfl
@[simp] theorem t9:((Ty.bool==Ty.dict):Bool)=false:=rfl
@[simp] theorem ua:((Ty.tuple==Ty.int):Bool)=false:=rfl
@[simp] theorem rK:((Ty.tuple==Ty.bool):Bool)=false:=rfl
@[simp] theorem fJ:((Ty.tuple==Ty.tuple):Bool)=true:=rfl
@[simp] theorem rL:((Ty.tuple==Ty.list):Bool)=false:=rfl
@[simp] theorem uc:((Ty.tuple==Ty.str):Bool)=false:=rfl
@[simp] theorem rM:((Ty.tuple==Ty.dict):Bool)=false:=rfl
@[simp] theorem vS:((Ty.list==Ty.int):Bool)=false:=rfl
@[simp] theorem ud:((Ty.list==Ty.bool):Bool)=false:=rfl
@[simp] theorem rN:((Ty.list==Ty.tuple):Bool)=false:=rfl
@[simp] theorem ue:((Ty.list==Ty.list):Bool)=true:=rfl
@[simp] theorem vU:((Ty.list==Ty.str):Bool)=false:=rfl
@[simp] theorem uf:((Ty.list==Ty.dict):Bool)=false:=rfl
@[simp] theorem yE:((Ty.str==Ty.int):Bool)=false:=rfl
@[simp] theorem vV:((Ty.str==Ty.bool):Bool)=false:=rfl
@[simp] theorem ug:((Ty.str==Ty.tuple):Bool)=false:=rfl
@[simp] theorem vW:((Ty.str==Ty.list):Bool)=false:=rfl
@[simp] theorem yF:((Ty.str==Ty.str):Bool)=true:=rfl
@[simp] theorem vX:((Ty.str==Ty.dict):Bool)=false:=rfl
@[simp] theorem vY:((Ty.dict==Ty.int):Bool)=false:=rfl
@[simp] theorem uh:((Ty.dict==Ty.bool):Bool)=false:=rfl
@[simp] theorem rO:((Ty.dict==Ty.tuple):Bool)=false:=rfl
@[simp] theorem um:((Ty.dict==Ty.list):Bool)=false:=rfl
@[simp] theorem vZ:((Ty.dict==Ty.str):Bool)=false:=rfl
@[simp] theorem uo:((Ty.dict==Ty.dict):Bool)=true:=rfl
@[simp] theorem GW {t:Ty} {h:VH}:dP t h .aG=aB false:=rfl
@[simp] theorem KW {t:Ty} {h:VH} {b:Bool}:dP t h (.bl b)=aB (t == .int||t == .bool):=rfl
@[simp] theorem GX {t:Ty} {h:VH} {i:Int}:dP t h (.int i)=aB (t == .int):=rfl
@[simp] theorem GY {t:Ty} {h:VH} {x:Str}:dP t h (.str x)=aB (t == .str):=rfl
@[simp] theorem m5 {t:Ty} {h:VH} {x:List W}:dP t h (.tup x)=aB (t == .tuple):=rfl
@[simp] theorem ck {h:VH} {l i:Nat}:VH.get ⟨h.n,l,h.os⟩ i=h.get i:=by unfold VH.get;rfl
@[simp] theorem qj {h:VH} {b:Bool}:nJ h (.bl b)=aB b:=rfl
noncomputable def forL(tg:W->VH->En->Option En)(b:FS):List W->En->VH->Res Fl
 |[],ρ,h=>.ok (.nx ρ) h
 |w::r,ρ,h=>match tg w h ρ with
  |none=>.no
  |some ρ=>(b ρ h).bind λfl h=>match fl with
   |.nx ρ=>forL tg b r ρ h
   |.ct ρ=>forL tg b r ρ h
   |.bk ρ=>.ok (.nx ρ) h
   |.rt w=>.ok (.rt w) h
noncomputable def kP(tg:W->VH->En->Option En)(c e:FE):List W->En->VH->Res (List W)
 |[],_,h=>.ok [] h
 |w::r,ρ,h=>match tg w h ρ with
  |none=>.no
  |some ρ=>(c ρ h).bind λb h=>match b with
   |.bl true=>(e ρ h).bind λy h=>(kP tg c e r ρ h).bind λys h=>.ok (y::ys) h
   |.bl false=>kP tg c e r ρ h
   |_=>.no
theorem QW{α β γ:Type}{r:Res α}{f:α->VH->Res β}{g:β->VH->Res γ}:(r.bind f).bind g=r.bind λa h=>(f a h).bind g:=by cases r<;>rfl
theorem DQ{nx:Nat->VH->Option (Option W)}{tg:W->VH->En->Option En}{b:FS}{ws:List W}(hx:∀i h,nx i h=aB ws[i]?):∀(fu i:Nat) (ρ:En) (h:VH),i<=ws.length->ws.length<fu+i->fm nx tg b fu i ρ h=forL tg b (ws.drop i) ρ h
 |0,i,ρ,h,hi,hl=>by lia
 |fu+1,i,ρ,h,hi,hl=>by
  simp only[fm,hx];cases q:ws[i]? with
  |none=>
   rw[List.drop_eq_nil_of_le (rY.mp q)];rfl
  |some w=>
   obtain⟨hi,e⟩:=jR.mp q;rw[List.drop_eq_getElem_cons hi,e];simp only[forL];cases tg w h ρ with
   |none=>rfl
   |some ρ'=>
    simp only;congr 1;funext fl h1;cases fl<;>simp only[DQ hx fu (i+1) _ _ hi (by lia)]
theorem GZ{nx:Nat->VH->Option (Option W)}{tg:W->VH->En->Option En}{c e:FE}{ws:List W}(hx:∀i h,nx i h=aB ws[i]?):∀(fu i:Nat) (ρ:En) (h:VH) (acc:List W),i<=ws.length->ws.length<fu+i->
 iN nx tg c e fu i ρ h acc=(kP tg c e (ws.drop i) ρ h).bind λys h=>.ok (acc.reverse++ys) h
 |0,i,ρ,h,acc,hi,hl=>by lia
 |fu+1,i,ρ,h,acc,hi,hl=>by
  simp only[iN,hx];cases q:ws[i]? with
  |none=>
   rw[List.drop_eq_nil_of_le (rY.mp q)];simp[kP]
  |some w=>
   obtain⟨hi,ee⟩:=jR.mp q;rw[List.drop_eq_getElem_cons hi,ee];simp only[kP];cases tg w h ρ with
   |none=>rfl
   |some ρ'=>
    simp only[QW];congr 1;funext bv h1;cases bv<;>try rfl
    rename_i bb;cases bb with
    |true=>
     simp only[QW];congr 1;funext y h2;rw[GZ hx fu (i+1) _ _ _ hi (by lia)];congr 1;funext ys h3;simp
    |false=>simp only[GZ hx fu (i+1) _ _ _ hi (by lia)]
theorem v8{ws:List W}{tg:W->VH->En->Option En}{b:FS}{ρ:En}{h:VH}(hl:ws.length<1000000):fm (bZ .seq (.tup ws)) tg b fuel 0 ρ h=forL tg b ws ρ h:=by
 have:=DQ (nx:=bZ .seq (.tup ws)) (tg:=tg) (b:=b) (ws:=ws) (λi h=>rfl) fuel 0 ρ h (i8 _) (by simpa[fuel]using hl);simpa using this
noncomputable def bL:Nat->List W->List W|_,[]=>[]|i,w::r=>.tup [.int i,w]::bL (i+1) r
theorem QX:∀(ws:List W) (i j:Nat),(bL j ws)[i]?=(ws[i]?).map λw=>.tup [.int ((j+i:Nat):Int),w]
 |[],i,j=>by simp[bL]
 |w::r,0,j=>by simp[bL]
 |w::r,i+1,j=>by
  simp only[bL,i9];rw[QX r i (j+1)];congr 1;funext w;rw[show j+1+i=j+ (i+1) by lia]
theorem QY:∀(ws:List W) (j:Nat),(bL j ws).length=ws.length|[],_=>rfl|_::r,j=>by simp[bL,QY r]
theorem DR{ws:List W}{tg:W->VH->En->Option En}{b:FS}{ρ:En}{h:VH}(hl:ws.length<1000000):fm (bZ .nH (.tup ws)) tg b fuel 0 ρ h=forL tg b (bL 0 ws) ρ h:=by
 have:=DQ (nx:=bZ .nH (.tup ws)) (tg:=tg) (b:=b) (ws:=bL 0 ws) (λi h=>by rw[QX];simp[bZ,aO]) fuel 0 ρ h (i8 _) (by simpa[fuel,QY]using hl);simpa using this
noncomputable def jN(a:Int):Nat->List W|0=>[]|n+1=>.int a::jN (a+1) n
theorem zdt:∀(n i:Nat) (a:Int),(jN a n)[i]?=if i<n then aB (.int (a+i))else aC
 |0,i,a=>by simp[jN]
 |n+1,0,a=>by simp[jN]
 |n+1,i+1,a=>by
  simp only[jN,i9];rw[zdt n i (a+1)];by_cases q:i<n;rw[if_pos q,if_pos (by lia)];congr 2
  push_cast;lia;rw[if_neg q,if_neg (by lia)]
theorem KY:∀(n:Nat) (a:Int),(jN a n).length=n|0,_=>rfl|n+1,a=>by simp[jN,KY n]
theorem zzw{n:Nat}{tg:W->VH->En->Option En}{b:FS}{ρ:En}{h:VH}(hl:n<1000000):fm (bZ .eL (.tup [.int n])) tg b fuel 0 ρ h=forL tg b (jN 0 n) ρ h:=by
 have hf:fits (n:Int)=true:=by simp[fits];lia
 have:=DQ (nx:=bZ .eL (.tup [.int n])) (tg:=tg) (b:=b) (ws:=jN 0 n) (λi h=>by rw[zdt];simp[bZ,hf]) fuel 0 ρ h (i8 _) (by simpa[fuel,KY]using hl);simpa using this
theorem zy3{n:Nat}{tg:W->VH->En->Option En}{c e:FE}{ρ:En}{h:VH}(hl:n<1000000):iN (bZ .eL (.tup [.int n])) tg c e fuel 0 ρ h []=kP tg c e (jN 0 n) ρ h:=by
 have hf:fits (n:Int)=true:=by simp[fits];lia
 have:=GZ (nx:=bZ .eL (.tup [.int n])) (tg:=tg) (c:=c) (e:=e) (ws:=jN 0 n) (λi h=>by rw[zdt];simp[bZ,hf]) fuel 0 ρ h [] (i8 _) (by simpa[fuel,KY]using hl);rw[this];simp only[Fq,List.reverse_nil,uM];cases kP tg c e (jN 0 n) ρ h<;>rfl
noncomputable def isInt:W->Bool|.int _=>true|_=>false
noncomputable def Kn(h:VH)(w:W):Prop:=dP .int h w≠aC
theorem dm{l:Nat}:Kn ⟨h.n,l,h.os⟩ w↔Kn h w:=by
 unfold Kn;cases w<;>simp[dP]
structure CoreA(F:Nat->Option Fn):Prop where
 f0:F 0=aB GL
 f1:F 1=aB KH
 f6:F 6=aB DI
 f7:F 7=aB DJ
section
variable{F:Nat->Option Fn}(C:CoreA F)
include C
theorem zq8{k:Nat}(hw:Kn h w):run F (k+1) 0 [w] h=.ok (.bl (isInt w)) h:=by
 rw[cz C.f0 rfl];cases w<;>try(simp[GL,exs,ev,isInt,cj];done)
 exact absurd rfl hw;rename_i i;unfold Kn at hw;simp only[dP]at hw;cases g:h.get i with
 |none=>rw[g]at hw;exact absurd rfl hw
 |some o=>cases o<;>first|(simp[GL,exs,ev,isInt,cj,dP,g];done)|(simp[g]at hw)
noncomputable def within(w:W)(lo hi:Int):Bool:=match w with|.int i=>decide (lo<=i)&&decide (i<=hi)|_=>false
theorem yG{k:Nat}{lo hi:Int}(hw:Kn h w):run F (k+2) 1 [w,.int lo,.int hi] h=.ok (.bl (within w lo hi)) h:=by
 rw[cz C.f1 rfl];have e:=zq8 C (k:=k) (h:=⟨h.n,h.n,h.os⟩) (w:=w) (dm.mpr hw);cases w<;>simp[KH,exs,ev,e,isInt,within,cj,aV,gm];rename_i i;by_cases h1:lo<=i<;>simp[h1,cj]
noncomputable def gp(w:W)(lo hi:Int):Bool:=match w with|.tup ws=>decide (lo<=ws.length)&&decide ((ws.length:Int)<=hi)|_=>false
theorem v9{k:Nat}{lo hi:Int}(hw:Kn h w):run F (k+1) 6 [w,.int lo,.int hi] h=.ok (.bl (gp w lo hi)) h:=by
 rw[cz C.f6 rfl];cases w<;>try(simp[DI,exs,ev,gp,cj];done)
 rename_i ws;simp[DI,exs,ev,gp,cj,aV,gm,gV,gz,aO];by_cases h1:lo<=ws.length<;>simp[h1,cj];exact absurd rfl hw;rename_i i;unfold Kn at hw;simp only[dP]at hw;cases g:h.get i with
 |none=>rw[g]at hw;exact absurd rfl hw
 |some o=>cases o<;>first|(simp[DI,exs,ev,gp,cj,dP,g];done)|(simp[g]at hw)
theorem wc{k:Nat}{lo hi:Int}:∀(ws:List W) (x:Option W),(∀w∈ws,Kn h w)->∃y,forL (bJ (.one 5)) (exs (run F (k+2)) GO) ws [aB t,aB a,aB b,aB (.int lo),aB (.int hi),x] h =
 if ws.all (within · lo hi)then .ok (.nx [aB t,aB a,aB b,aB (.int lo),aB (.int hi),y]) h else .ok (.rt (.bl false)) h
 |[],x,_=>⟨x,by simp[forL]⟩
 |w::r,x,hk=>by
  obtain⟨y,e⟩:=wc (t:=t) (a:=a) (b:=b) (k:=k) (lo:=lo) (hi:=hi) r (aB w) λz hz=>hk z (eU _ hz);refine⟨y,?_⟩;have e1:=yG C (k:=k) (lo:=lo) (hi:=hi) (hk w fy);have eb:exs (run F (k+2)) GO [aB t,aB a,aB b,aB (.int lo),aB (.int hi),aB w] h=if within w lo hi then .ok (.nx [aB t,aB a,aB b,aB (.int lo),aB (.int hi),aB w]) h else .ok (.rt (.bl false)) h:=by
   cases q:within w lo hi<;>simp[GO,exs,ev,e1,q]
  simp only[forL,bJ,List.set,eb];cases q:within w lo hi<;>simp[q,e]
noncomputable def fK(w:W)(a b lo hi:Int):Bool:=match w with|.tup ws=>gp w a b&&ws.all (within · lo hi)|_=>false
theorem DS{k:Nat}{a b lo hi:Int}(hw:Kn h w)(hp:∀ws,w=.tup ws->ws.length<1000000/\∀x∈ws,Kn h x):run F (k+3) 7 [w,.int a,.int b,.int lo,.int hi] h=.ok (.bl (fK w a b lo hi)) h:=by
 rw[cz C.f7 rfl];have e1:=v9 C (k:=k+1) (h:=⟨h.n,h.n,h.os⟩) (w:=w) (lo:=a) (hi:=b) (dm.mpr hw);cases q:gp w a b with
 |false=>
  have:fK w a b lo hi=false:=by cases w<;>simp[fK,q]
  simp[DJ,exs,ev,e1,q,this,cj]
 |true=>
  cases w<;>try(simp[gp]at q;done)
  rename_i ws;obtain⟨hl,hk⟩:=hp ws rfl;obtain⟨y,e2⟩:=wc C (k:=k) (h:=⟨h.n,h.n,h.os⟩) (t:=.tup ws) (a:=.int a) (b:=.int b) (lo:=lo) (hi:=hi) ws aC λx hx=>dm.mpr (hk x hx);have e3:fK (.tup ws) a b lo hi=ws.all (within · lo hi):=by simp[fK,q]
  rw[e3];cases q2:ws.all (within · lo hi)with|true=>simp[DJ,exs,ev,e1,q,v8 hl,e2,q2,cj]|false=>simp[DJ,exs,ev,e1,q,v8 hl,e2,q2,cj]
end
noncomputable def jh:Nat->W->Bool
 |0,_=>false
 |n+1,w=>match w with
  |.aG=>true
  |.bl _=>true
  |.int _=>true
  |.str x=>PyData.strOk x
  |.tup ws=>ws.all (jh n)
  |_=>false
theorem QZ{f:W->Option aA}{p:W->Bool}{n:Nat}(h:∀w,p w=true->∃d,f w=aB d/\d.canLay0=true/\d.depth<=n):∀ws:List W,ws.all p=true->∃ds,aW f ws=aB ds/\PyData.canLayAll0 ds=true/\PyData.depthAll ds<=n
 |[],_=>⟨[],rfl,rfl,i8 _⟩
 |w::r,e=>by
  rw[j0,aY]at e;obtain⟨d,h1,h2,h3⟩:=h w e.1;obtain⟨ds,h4,h5,h6⟩:=QZ h r e.2;refine⟨d::ds,by simp[aW,h1,h4],?_,?_⟩;show(d.canLay0&&PyData.canLayAll0 ds)=true;rw[h2,h5];rfl;show max d.depth (PyData.depthAll ds)<=n;lia
theorem KZ(h:VH):∀(n:Nat) (w:W),jh n w=true->∃d,toD h n w=aB d/\d.canLay0=true/\d.depth<=n
 |0,_,e=>by cases e
 |n+1,w,e=>by
  cases w<;>simp only[jh]at e<;>try(cases e;done)
  exact⟨.none,rfl,rfl,i8 _⟩;exact⟨.bool _,rfl,rfl,i8 _⟩;exact⟨.int _,rfl,rfl,i8 _⟩;exact⟨.str _,rfl,e,i8 _⟩;obtain⟨ds,h1,h2,h3⟩:=QZ (KZ h n) _ e;exact⟨.tuple ds,by simp[toD,h1],h2,by show PyData.depthAll ds+1<=n+1;lia⟩
mutual
theorem Q0:∀d:aA,d.canLay0=true->PyData.eqv d d=true
 |.none,_=>rfl
 |.bool b,_=>by simp[PyData.eqv]
 |.int i,_=>by simp[PyData.eqv]
 |.str x,_=>by simp[PyData.eqv]
 |.list xs,h=>by
  simp only[PyData.eqv];exact K0 xs h
 |.tuple xs,h=>by
  simp only[PyData.eqv];exact K0 xs h
 |.dict _,h=>by cases h
theorem K0:∀ds:List aA,PyData.canLayAll0 ds=true->PyData.eqvAll ds ds=true
 |[],_=>rfl
 |d::ds,h=>by
  have h:(d.canLay0&&PyData.canLayAll0 ds)=true:=h;rw[aY]at h;simp only[PyData.eqvAll,Q0 d h.1,K0 ds h.2,Fd]
end
theorem Q2(p:jh 24 w):dG h w w=aB true:=by
 obtain⟨d,h1,h2,h3⟩:=KZ h 24 w p;have hs:SeqAt.shaped d=true:=by
  unfold SeqAt.shaped;rw[h2,AE,gH];lia
 unfold dG;rw[h1];simp[hs,Q0 d h2]
noncomputable def jW(w:W)(x:Str):Bool:=match w with|.str y=>y==x|_=>false
theorem yH{x:Str}(p:jh 24 w)(hx:PyData.strOk x):dG h w (.str x)=aB (jW w x):=by
 obtain⟨d,h1,h2,h3⟩:=KZ h 24 w p;have hs:SeqAt.shaped d=true:=by
  unfold SeqAt.shaped;rw[h2,AE,gH];lia
 have hs2:SeqAt.shaped (.str x)=true:=by
  unfold SeqAt.shaped;show(PyData.strOk x&&_)=true;rw[hx];rfl
 unfold dG;rw[h1];have h4:toD h 24 (.str x)=aB (.str x):=rfl;rw[h4];simp only[hs,hs2,Fd,bX];cases w<;>simp only[toD]at h1<;>try(cases h1;done)
 cases h1;simp[jW,PyData.eqv];cases h1;simp[jW,PyData.eqv];cases h1;simp[jW,PyData.eqv];cases h1;simp[jW,PyData.eqv];obtain⟨ds,h5,h6⟩:=Option.map_eq_some_iff.mp h1;subst h6;simp[jW,PyData.eqv];simp[jh]at p;simp[jh]at p
theorem La{n:Nat}:jh (n+1) (.tup ws)=ws.all (jh n):=rfl
theorem Lb{n:Nat}(p:jh n w):Kn h w:=by
 unfold Kn;cases n with|zero=>cases p|succ n=>cases w<;>simp[jh,dP]at p ⊢
structure gZ(F:Nat->Option Fn):Prop extends CoreA F where
 f8:F 8=aB KJ
 f9:F 9=aB KL
 Q3:F 10=aB p9
 f11:F 11=aB tW
 f12:F 12=aB yr
 f13:F 13=aB tX
 f14:F 14=aB yt
 f15:F 15=aB yu
theorem zoh:cQ .aG=true:=rfl
noncomputable def yI(w:W)(n:Int):Bool:=cQ w||within w 0 (n-1)
noncomputable def door(w:W)(n:Int):Bool:=match w with|.tup [a,b]=>within a 0 99&&yI b n|_=>false
noncomputable def nX(w:W)(g:Int):Bool:=match w with|.tup [a,b]=>within a 0 (g-1)&&within b 0 1|_=>false
noncomputable def gf(w:W)(c wd g:Int):Bool:=
 if jW w "x" || nX w g then decide (0<c)&&decide (c<wd-1)else if jW w "<"then decide (0<c)else if jW w ">"then decide (c<wd-1)else jW w "." || jW w "s"
section
variable{F:Nat->Option Fn}(C:gZ F)
include C
theorem zdv{k:Nat}{n:Int}(hw:Kn h w):run F (k+3) 12 [w,.int n] h=.ok (.bl (yI w n)) h:=by
 rw[cz C.f12 rfl];have e:=yG C.toCoreA (k:=k) (h:=⟨h.n,h.n,h.os⟩) (w:=w) (lo:=0) (hi:=n-1) (dm.mpr hw);cases q:cQ w<;>simp[yr,exs,ev,e,aV,zoh,q,yI,cj,fk,fM]
theorem zu4{k:Nat}{n:Int}(hw:Kn h w)(hp:∀a b,w=.tup [a,b]->Kn h a/\Kn h b):run F (k+4) 11 [w,.int n] h=.ok (.bl (door w n)) h:=by
 rw[cz C.f11 rfl];have e1:=v9 C.toCoreA (k:=k+2) (h:=⟨h.n,h.n,h.os⟩) (w:=w) (lo:=2) (hi:=2) (dm.mpr hw);cases q:gp w 2 2 with
 |false=>
  have:door w n=false:=by
   cases w<;>simp[door];rename_i ws;rcases ws with _|⟨a,_|⟨b,_|_⟩⟩<;>simp[gp]at q ⊢
  simp[tW,exs,ev,e1,q,this,cj]
 |true=>
  cases w<;>try(simp[gp]at q;done)
  rename_i ws;have hl:ws.length=2:=by simp[gp]at q;lia
  rcases ws with _|⟨a,_|⟨b,_|_⟩⟩<;>simp at hl;obtain⟨ka,kb⟩:=hp a b rfl;have e2:=yG C.toCoreA (k:=k+1) (h:=⟨h.n,h.n,h.os⟩) (w:=a) (lo:=0) (hi:=99) (dm.mpr ka);have e3:=zdv C (k:=k) (h:=⟨h.n,h.n,h.os⟩) (w:=b) (n:=n) (dm.mpr kb);cases q2:within a 0 99<;>simp[tW,exs,ev,e1,q,e2,e3,q2,door,cj,bJ,aO,jn]
theorem zoi{k:Nat}{n:Int}(hw:Kn h w)(hp:∀a b,w=.tup [a,b]->Kn h a/\Kn h b):run F (k+3) 13 [w,.int n] h=.ok (.bl (nX w n)) h:=by
 rw[cz C.f13 rfl];have e1:=v9 C.toCoreA (k:=k+1) (h:=⟨h.n,h.n,h.os⟩) (w:=w) (lo:=2) (hi:=2) (dm.mpr hw);cases q:gp w 2 2 with
 |false=>
  have:nX w n=false:=by
   cases w<;>simp[nX];rename_i ws;rcases ws with _|⟨a,_|⟨b,_|_⟩⟩<;>simp[gp]at q ⊢
  simp[tX,exs,ev,e1,q,this,cj]
 |true=>
  cases w<;>try(simp[gp]at q;done)
  rename_i ws;have hl:ws.length=2:=by simp[gp]at q;lia
  rcases ws with _|⟨a,_|⟨b,_|_⟩⟩<;>simp at hl;obtain⟨ka,kb⟩:=hp a b rfl;have e2:=yG C.toCoreA (k:=k) (h:=⟨h.n,h.n,h.os⟩) (w:=a) (lo:=0) (hi:=n-1) (dm.mpr ka);have e3:=yG C.toCoreA (k:=k) (h:=⟨h.n,h.n,h.os⟩) (w:=b) (lo:=0) (hi:=1) (dm.mpr kb);cases q2:within a 0 (n-1)<;>simp[tX,exs,ev,e1,q,e2,e3,q2,nX,cj,bJ,aO,jn,fk,fM]
theorem Lc{k:Nat}{c wd g:Int}(p:jh 24 w):run F (k+4) 15 [w,.int c,.int wd,.int g] h=.ok (.bl (gf w c wd g)) h:=by
 rw[cz C.f15 rfl];have hp:∀a b,w=.tup [a,b]->Kn ⟨h.n,h.n,h.os⟩ a/\Kn ⟨h.n,h.n,h.os⟩ b:=λa b e=>by
  subst e;have p:jh (23+1) (.tup [a,b])=true:=p;rw[La,j0,j0,aY,aY]at p;exact⟨Lb p.1,Lb p.2.1⟩
 have e1:=zoi C (k:=k) (h:=⟨h.n,h.n,h.os⟩) (w:=w) (n:=g) (Lb p) hp;have sx:=yH (h:=⟨h.n,h.n,h.os⟩) (x:=Str.ofString "x") p (by decide +kernel);have sl:=yH (h:=⟨h.n,h.n,h.os⟩) (x:=Str.ofString "<") p (by decide +kernel);have sg:=yH (h:=⟨h.n,h.n,h.os⟩) (x:=Str.ofString ">") p (by decide +kernel);have sd:=yH (h:=⟨h.n,h.n,h.os⟩) (x:=Str.ofString ".") p (by decide +kernel);have ss:=yH (h:=⟨h.n,h.n,h.os⟩) (x:=Str.ofString "s") p (by decide +kernel);unfold gf;cases q1:jW w (Str.ofString "x")<;>cases q2:nX w g<;>cases q3:jW w (Str.ofString "<")<;>cases q4:jW w (Str.ofString ">")<;>cases q5:jW w (Str.ofString ".")<;>by_cases h1:0<c<;>
  simp[yu,exs,ev,aV,gm,sx,sl,sg,sd,ss,e1,fk,fM,q1,q2,q3,q4,q5,h1,cj]
theorem Q4{k:Nat}{n:Int}:∀(ws:List W) (x:Option W),(∀w∈ws,Kn h w/\∀a b,w=.tup [a,b]->Kn h a/\Kn h b)->∃y,forL (bJ (.one 3)) (exs (run F (k+4)) GP) ws [aB t,aB a,aB (.int n),x] h =
 if ws.all (door · n)then .ok (.nx [aB t,aB a,aB (.int n),y]) h else .ok (.rt (.bl false)) h
 |[],x,_=>⟨x,by simp[forL]⟩
 |w::r,x,hk=>by
  obtain⟨y,e⟩:=Q4 (t:=t) (a:=a) (k:=k) (n:=n) r (aB w) λz hz=>hk z (eU _ hz);refine⟨y,?_⟩;obtain⟨k1,k2⟩:=hk w fy;have e1:=zu4 C (k:=k) (n:=n) k1 k2;have eb:exs (run F (k+4)) GP [aB t,aB a,aB (.int n),aB w] h=if door w n then .ok (.nx [aB t,aB a,aB (.int n),aB w]) h else .ok (.rt (.bl false)) h:=by
   cases q:door w n<;>simp[GP,exs,ev,e1,q]
  simp only[forL,bJ,List.set,eb];cases q:door w n<;>simp[q,e]
theorem zoj{k:Nat}{wd n:Int}(hl:ws.length=wd)(hz:ws.length<1000000)(hd:∀w∈ws,door w n):run F (k+5) 8 [.tup ws,.int wd,.int n] h=.ok (.bl true) h:=by
 rw[cz C.f8 rfl];have e1:=v9 C.toCoreA (k:=k+3) (h:=⟨h.n,h.n,h.os⟩) (w:=.tup ws) (lo:=wd) (hi:=wd) (by unfold Kn;simp);have q:gp (.tup ws) wd wd=true:=by simp[gp,hl]
 have kn:∀w∈ws,Kn ⟨h.n,h.n,h.os⟩ w/\∀a b,w=.tup [a,b]->Kn ⟨h.n,h.n,h.os⟩ a/\Kn ⟨h.n,h.n,h.os⟩ b:=λw hw=>by
  have:=hd w hw;cases w<;>simp only[door]at this<;>try(cases this;done)
  rename_i us;refine⟨by unfold Kn;simp,λa b e=>?_⟩;cases e;simp only[aY]at this;obtain⟨h1,h2⟩:=this;refine⟨?_,?_⟩;cases a<;>simp[within]at h1;unfold Kn;simp;unfold yI at h2;cases b<;>simp[within,cQ]at h2;unfold Kn;simp;unfold Kn;simp
 obtain⟨y,e2⟩:=Q4 C (k:=k) (h:=⟨h.n,h.n,h.os⟩) (t:=.tup ws) (a:=.int wd) (n:=n) ws aC kn;have ha:ws.all (door · n)=true:=jZ.mpr hd;simp[KJ,exs,ev,e1,q,v8 hz,e2,ha,cj]
theorem Q5{k:Nat}{wd:Int}:∀(ws:List W) (x:Option W),(∀w∈ws,∃us,w=.tup us/\us.length=wd)->∃y,forL (bJ (.one 2)) (exs (run F (k+1)) GQ) ws [aB t,aB (.int wd),x] h=.ok (.nx [aB t,aB (.int wd),y]) h
 |[],x,_=>⟨x,by simp[forL]⟩
 |w::r,x,hk=>by
  obtain⟨y,e⟩:=Q5 (h:=h) (t:=t) (k:=k) (wd:=wd) r (aB w) λz hz=>hk z (eU _ hz);refine⟨y,?_⟩;obtain⟨us,rfl,hl⟩:=hk w fy;have e1:=v9 C.toCoreA (k:=k) (h:=h) (w:=.tup us) (lo:=wd) (hi:=wd) (by unfold Kn;simp);have q:gp (.tup us) wd wd=true:=by simp[gp,hl]
  have eb:exs (run F (k+1)) GQ [aB t,aB (.int wd),aB (.tup us)] h=.ok (.nx [aB t,aB (.int wd),aB (.tup us)]) h:=by
   simp[GQ,exs,ev,e1,q]
  simp only[forL,bJ,List.set,eb,aD,e]
theorem zq9{k:Nat}{wd:Int}(hl:ws.length<=60)(hd:∀w∈ws,∃us,w=.tup us/\us.length=wd):run F (k+2) 9 [.tup ws,.int wd] h=.ok (.bl true) h:=by
 rw[cz C.f9 rfl];have e1:=v9 C.toCoreA (k:=k) (h:=⟨h.n,h.n,h.os⟩) (w:=.tup ws) (lo:=0) (hi:=60) (by unfold Kn;simp);have q:gp (.tup ws) 0 60=true:=by simp[gp];lia
 obtain⟨y,e2⟩:=Q5 C (k:=k) (h:=⟨h.n,h.n,h.os⟩) (t:=.tup ws) (wd:=wd) ws aC hd;simp[KL,exs,ev,e1,q,v8 (show ws.length<1000000 by lia),e2,cj]
end
structure Bd where
 wd:Int
 gr:Int
 rows:List (List W)
 fd:List W
 dr:List W
noncomputable def Bd.w(B:Bd):W:=.tup [.int B.wd,.int B.gr,.tup (B.rows.map .tup),.tup B.fd,.tup B.dr]
noncomputable def cH(wd g:Int):Int->List W->Prop|_,[]=>True|c,w::r=>gf w c wd g=true/\cH wd g (c+1) r
structure Bd.Ok(B:Bd):Prop where
 w1:1<=B.wd
 w2:B.wd<=40
 g1:0<=B.gr
 g2:B.gr<=8
 r1:B.rows.length<=60
 r2:∀r∈B.rows,(r.length:Int)=B.wd/\cH B.wd B.gr 0 r
 f1:1<=B.fd.length
 f2:B.fd.length<=4
 f3:∀f∈B.fd,within f 0 (B.wd-1)=true
 d1:(B.dr.length:Int)=B.wd
 d2:∀d∈B.dr,door d B.fd.length=true
structure Bd.DU(B:Bd):Prop where
 w1:1<=B.wd
 w2:B.wd<=40
 g1:0<=B.gr
 g2:B.gr<=8
 r1:B.rows.length<=60
 r2:∀r∈B.rows,(r.length:Int)=B.wd
 f1:1<=B.fd.length
 f2:B.fd.length<=4
 f3:∀f∈B.fd,within f 0 (B.wd-1)=true
 d1:(B.dr.length:Int)=B.wd
 d2:∀d∈B.dr,door d B.fd.length=true
theorem Bd.Ok.Q6{B:Bd}(b:B.Ok):B.DU:=⟨b.w1,b.w2,b.g1,b.g2,b.r1,λr hr=>(b.r2 r hr).1,b.f1,b.f2,b.f3,b.d1,b.d2⟩
theorem zii{g:Int}(h:nX w g)(n:Nat):jh (n+2) w=true:=by
 cases w<;>simp only[nX]at h<;>try(cases h;done)
 rename_i us;rcases us with _|⟨a,_|⟨b,_|_⟩⟩<;>simp at h
 obtain⟨h1,h2⟩:=h;cases a<;>simp[within]at h1;cases b<;>simp[within]at h2;rfl
theorem Ak{x:Str}(h:jW w x):w=.str x:=by
 cases w<;>simp[jW]at h;rw[h]
theorem Q7{c wd g:Int}(h:gf w c wd g)(n:Nat):jh (n+2) w=true:=by
 have st:∀x:Str,PyData.strOk x=true->jW w x=true->jh (n+2) w=true:=λx hx e=>by rw[Ak e];exact hx
 unfold gf at h;split at h;rename_i q;rw[rT]at q;rcases q with q|q
 exact st _ (by decide +kernel) q;exact zii q n;split at h;rename_i q;exact st _ (by decide +kernel) q;split at h;rename_i q;exact st _ (by decide +kernel) q;rw[rT]at h;rcases h with q|q
 exact st _ (by decide +kernel) q;exact st _ (by decide +kernel) q
section
variable{F:Nat->Option Fn}(C:gZ F)
include C
theorem Q8{k:Nat}{h:VH}{B:Bd}(b:B.DU):run F (k+6) 10 [B.w] h=.ok (.bl true) h:=by
 rw[cz C.Q3 rfl];have e1:=v9 C.toCoreA (k:=k+4) (h:=⟨h.n,h.n,h.os⟩) (w:=B.w) (lo:=5) (hi:=5) (by unfold Kn Bd.w;simp);have q1:gp B.w 5 5=true:=by simp[gp,Bd.w]
 have e2:=yG C.toCoreA (k:=k+3) (h:=⟨h.n,h.n,h.os⟩) (w:=.int B.wd) (lo:=1) (hi:=40) (by unfold Kn;simp);have q2:within (.int B.wd) 1 40=true:=by simp[within,b.w1,b.w2]
 have e3:=yG C.toCoreA (k:=k+3) (h:=⟨h.n,h.n,h.os⟩) (w:=.int B.gr) (lo:=0) (hi:=8) (by unfold Kn;simp);have q3:within (.int B.gr) 0 8=true:=by simp[within,b.g1,b.g2]
 have kf:∀x∈B.fd,Kn ⟨h.n,h.n,h.os⟩ x:=λx hx=>by
  have:=b.f3 x hx;cases x<;>simp[within]at this;unfold Kn;simp
 have hf:=b.f2;have e4:=DS C.toCoreA (k:=k+2) (h:=⟨h.n,h.n,h.os⟩) (w:=.tup B.fd) (a:=1) (b:=4) (lo:=0) (hi:=B.wd-1) (by unfold Kn;simp) (λws e=>by cases e;exact⟨by lia,kf⟩);have q4:fK (.tup B.fd) 1 4 0 (B.wd-1)=true:=by
  have h1:=b.f1;simp only[fK,gp,aY,gH];exact⟨⟨by lia,by lia⟩,jZ.mpr b.f3⟩
 have e5:=zq9 C (k:=k+3) (h:=⟨h.n,h.n,h.os⟩) (ws:=B.rows.map .tup) (wd:=B.wd) (by rw[bV];exact b.r1) (λw hw=>by
  obtain⟨r,hr,e⟩:=lu.mp hw;exact⟨r,e.symm,b.r2 r hr⟩)
 have hd:=b.d1;have Ld:=b.w2;have e6:=zoj C (k:=k) (h:=⟨h.n,h.n,h.os⟩) (ws:=B.dr) (wd:=B.wd) (n:=B.fd.length) hd (by lia) b.d2;unfold Bd.w at e1 q1 ⊢;simp[p9,exs,ev,e1,q1,e2,q2,e3,q3,e4,q4,e5,e6,cj,bJ,aO,jn,fk,fM,gV,gz]
theorem zra{k:Nat}{h:VH}{B:Bd}(b:B.Ok):run F (k+6) 10 [B.w] h=.ok (.bl true) h:=Q8 C b.Q6
theorem Q9{k:Nat}{wd g r0:Int}:∀(ws:List W) (c:Int) (j:Nat) (x y:Option W),c=j->cH wd g c ws->∃x' y',forL (bJ (.many [6,7])) (exs (run F (k+4)) GR) (bL j ws) [aB t,aB (.int wd),aB (.int g),aB rs,aB (.int r0),aB pl,x,y] h =
 .ok (.nx [aB t,aB (.int wd),aB (.int g),aB rs,aB (.int r0),aB pl,x',y']) h
 |[],c,j,x,y,_,_=>⟨x,y,by simp[forL,bL]⟩
 |w::r,c,j,x,y,hc,ho=>by
  obtain⟨h1,h2⟩:=ho;obtain⟨x',y',e⟩:=Q9 (h:=h) (t:=t) (rs:=rs) (pl:=pl) (k:=k) (wd:=wd) (g:=g) (r0:=r0) r (c+1) (j+1) (aB (.int j)) (aB w) (by rw[hc];push_cast;rfl) h2;refine⟨x',y',?_⟩;have e1:=Lc C (k:=k) (h:=h) (c:=j) (wd:=wd) (g:=g) (Q7 h1 22);rw[<-hc,h1]at e1;have eb:exs (run F (k+4)) GR [aB t,aB (.int wd),aB (.int g),aB rs,aB (.int r0),aB pl,aB (.int j),aB w] h=.ok (.nx [aB t,aB (.int wd),aB (.int g),aB rs,aB (.int r0),aB pl,aB (.int j),aB w]) h:=by
   rw[hc]at e1;simp[GR,exs,ev,e1]
  simp only[forL,bL,bJ,aO,jn,List.set,eb,aD,e]
theorem Ra{k:Nat}{wd g:Int}:∀(ws:List (List W)) (j:Nat) (x y z u:Option W),(∀r∈ws,(r.length:Int)<1000000/\cH wd g 0 r)->∃x' y' z' u',forL (bJ (.many [4,5])) (exs (run F (k+4)) GS) (bL j (ws.map .tup)) [aB t,aB (.int wd),aB (.int g),aB rs,x,y,z,u] h =
 .ok (.nx [aB t,aB (.int wd),aB (.int g),aB rs,x',y',z',u']) h
 |[],j,x,y,z,u,_=>⟨x,y,z,u,by simp[forL,bL]⟩
 |w::r,j,x,y,z,u,ho=>by
  obtain⟨h1,h2⟩:=ho w fy;obtain⟨z1,u1,e1⟩:=Q9 C (k:=k) (h:=h) (t:=t) (rs:=rs) (pl:=.tup w) (wd:=wd) (g:=g) (r0:=j) w 0 0 z u rfl h2;obtain⟨x',y',z',u',e⟩:=Ra (h:=h) (t:=t) (rs:=rs) (k:=k) (wd:=wd) (g:=g) r (j+1) (aB (.int j)) (aB (.tup w)) z1 u1 λq hq=>ho q (eU _ hq);refine⟨x',y',z',u',?_⟩;have eb:exs (run F (k+4)) GS [aB t,aB (.int wd),aB (.int g),aB rs,aB (.int j),aB (.tup w),z,u] h=.ok (.nx [aB t,aB (.int wd),aB (.int g),aB rs,aB (.int j),aB (.tup w),z1,u1]) h:=by
   simp[GS,exs,ev,DR (show w.length<1000000 by lia),e1]
  simp only[forL,cP,bL,bJ,aO,jn,List.set,eb,aD,e]
theorem zg4{k:Nat}{h:VH}{B:Bd}(b:B.Ok):run F (k+7) 14 [B.w] h=.ok .aG h:=by
 rw[cz C.f14 rfl];have e1:=zra C (k:=k) (h:=⟨h.n,h.n,h.os⟩) b;have Ld:=b.w2;have Le:=b.r1;obtain⟨x',y',z',u',e2⟩:=Ra C (k:=k+2) (h:=⟨h.n,h.n,h.os⟩) (t:=B.w) (rs:=.tup (B.rows.map .tup)) (wd:=B.wd) (g:=B.gr) B.rows 0 aC aC aC aC λr hr=>⟨by have:=(b.r2 r hr).1;lia,(b.r2 r hr).2⟩
 unfold Bd.w at e1 e2 ⊢;simp[yt,exs,ev,e1,KR,bJ,aO,jn,fD,cY,HT.bM,DR (show(B.rows.map W.tup).length<1000000 by rw[bV];lia),e2]
end
structure CoreD(F:Nat->Option Fn):Prop where
 f2:F 2=aB GN
 f3:F 3=aB DG
 f4:F 4=aB KI
 f5:F 5=aB tV
theorem jt{i j:Int}:dG h (.int i) (.int j)=aB (decide (i=j)):=by
 unfold dG;simp only[toD];show aB (i==j)=_;by_cases q:i=j<;>simp[q]
theorem G0{i:Int}(h1:-(2 ^ 63)<=i)(h2:i<2 ^ 63):rG i=true:=by
 unfold rG;simp only[aY,gH];lia
theorem yJ{h:VH}{i:Nat}{o o0:VO}(g:h.get i=aB o0):(h.set i o).get i=aB o:=by
 have hi:=fV g;unfold VH.get at g;rw[if_pos (fN.mpr hi)]at g;have hl:=(jR.mp g).1;unfold VH.get VH.set;simp only[if_pos (fN.mpr hi)];rw[qW hl]
theorem rP{h:VH}{i j:Nat}{o o0:VO}(g:h.get i=aB o0)(hj:j≠i):(h.set i o).get j=h.get j:=Jt (fV g) hj
structure Dk(h:VH)(d c:Nat)(b:Nat):Prop where
 ne:d≠c
 st:∃(ns cells:List Int) (p q:Int),h.get d=aB (.lst [.fz (ns.map .int),.ref c,.int p,.int q])/\h.get c=aB (.lst (cells.map .int))/\(∀x∈cells,(0:Int)<=x)/\0<=p/\0<=q/\q<=b/\cells.length<=63
theorem Dk.mono{d c b b':Nat}(D:Dk h d c b)(hb:b<=b'):Dk h d c b':=by
 obtain⟨ne,ns,cells,p,q,a1,a2,a3,a4,a5,a6,a7⟩:=D;exact⟨ne,ns,cells,p,q,a1,a2,a3,a4,a5,by lia,a7⟩
structure bP(h h':VH)(d c:Nat):Prop where
 le:h.n<=h'.n
 get:∀i o,i≠d->i≠c->h.get i=aB o->h'.get i=aB o
theorem bP.refl{d c:Nat}:bP h h d c:=⟨bq _,λ_ _ _ _ e=>e⟩
theorem bP.trans{d c:Nat}(a:bP h h1 d c)(b:bP h1 h2 d c):bP h h2 d c:=⟨fS a.le b.le,λi o h1 h2 e=>b.get i o h1 h2 (a.get i o h1 h2 e)⟩
theorem Lf(i:Int):(if i<0 then -i else i)=(i.natAbs:Int):=by
 split<;>lia
section
variable{F:Nat->Option Fn}(C:CoreD F)
include C
theorem cell{k:Nat}{h:VH}{ns:List Int}{j:Int}(hj:0<=j):∃r,run F (k+1) 2 [.fz (ns.map .int),.int j] h=.ok (.int r) h/\0<=r:=by
 rw[cz C.f2 rfl];cases ns with
 |nil=>
  refine⟨7*j+3,?_,by lia⟩;simp[GN,exs,ev,gV,gz,aO,aV,jt,fk,fM,G0,cj]
 |cons n0 uq=>
  have hl:(0:Int)< ((n0::uq).length:Int):=by simp only[dh];lia
  have hm1:=Fw j (show((n0::uq).length:Int)≠0 by lia);have hm2:=Fv j hl;obtain⟨m,hm⟩:=ly hm1;have hml:m< (n0::uq).length:=by lia
  have ha:cy (List.map W.int (n0::uq)) (j % ((n0::uq).length:Int))=aB (.int ((n0::uq)[m])):=by
   rw[hm];exact oz (by rw[nu,jS hml];rfl)
  have hb:¬(((uq.length:Int)+1)=0):=by lia
  have hp:(0:Int)< (uq.length:Int)+1:=by lia
  refine⟨(((n0::uq)[m]).natAbs:Int),?_,by lia⟩;simp only[dh,Int.natCast_add,Int.cast_ofNat_Int,cP]at ha;simp[GN,exs,ev,gV,gz,aO,aV,jt,fk,fM,cj,aZ,lM,hb,hp,ha,Lf]
theorem mixed{k:Nat}{h:VH}{ns:List Int}{j m:Int}(hj:0<=j)(hj2:j<=1000000000)(hm:0<m):∃r,run F (k+2) 4 [.fz (ns.map .int),.int j,.int m] h=.ok (.int r) h/\0<=r/\r<m:=by
 rw[cz C.f4 rfl];obtain⟨c,e1,hc⟩:=cell C (k:=k) (h:=⟨h.n,h.n,h.os⟩) (ns:=ns) hj;have h1:=Fw c (show(1000003:Int)≠0 by decide);have h2:=Fv c (show(0:Int)<1000003 by decide);generalize hx:c % 1000003=x at h1 h2;have s1:rG (x+5)=true:=G0 (by lia) (by lia);have s2:rG 7919=true:=G0 (by decide) (by decide);have hb:(x+5)* (j+2)<=1000008*1000000002:=Int.mul_le_mul (by lia) (by lia) (by lia) (by lia);have hb0:0<=(x+5)* (j+2):=Int.mul_nonneg (by lia) (by lia);generalize hy:(x+5)* (j+2)=y at hb hb0;have hn:(y+7919*j).natAbs<2 ^ 64:=by lia
 refine⟨(y+7919*j) ^ 5 % 2147483647/13 % m,?_,Fw _ (by lia),Fv _ hm⟩;have hn':(y+7919*j).natAbs<18446744073709551616:=by lia
 simp[KI,exs,ev,e1,fk,fM,hx,s1,s2,hy,hn',hm,cj]
theorem Rb{k:Nat}{d c:Nat}{m q:Int}{ns:List Int}(hdc:d≠c)(hm:0<m)(hm2:m<1073741824):∀(n f:Nat) (g:VH) (x:Option W) (cells:List Int) (p:Int),n<f->(cells.length:Int)-p<=n->0<=p->(∀y∈cells,(0:Int)<=y)->
 g.get d=aB (.lst [.fz (ns.map .int),.ref c,.int p,.int q])->g.get c=aB (.lst (cells.map .int))->
 ∃(g':VH) (cells':List Int) (p':Int),0<=p'/\(∀y∈cells',(0:Int)<=y)/\cells'.length=cells.length/\g'.get d=aB (.lst [.fz (ns.map .int),.ref c,.int p',.int q])/\g'.get c=aB (.lst (cells'.map .int))/\g'.n=g.n/\(∀i,i≠d->i≠c->g'.get i=g.get i)/\
  ((∃r,fE (ev (run F (k+2)) DH) (exs (run F (k+2)) yq) f [aB (.ref d),aB (.int m),x] g=.ok (.rt (.int r)) g'/\0<=r/\r<m)\/∃y,fE (ev (run F (k+2)) DH) (exs (run F (k+2)) yq) f [aB (.ref d),aB (.int m),x] g=.ok (.nx [aB (.ref d),aB (.int m),y]) g')
 |n,0,g,x,cells,p,hf,_,_,_,_,_=>by lia
 |n,f+1,g,x,cells,p,hf,hn,hp,hnn,gd,gc=>by
  have ec:ev (run F (k+2)) DH [aB (.ref d),aB (.int m),x] g=.ok (.bl (decide (p<cells.length))) g:=by
   simp[DH,ev,aZ,gd,cy,iw,gV,gz,aO,gc,aV,gm]
  by_cases hlt:p<cells.length;obtain⟨pn,rfl⟩:=ly hp;have hpl:pn<cells.length:=by lia
  have hat:cy (cells.map W.int) (pn:Int)=aB (.int cells[pn]):=oz (by rw[nu,jS hpl];rfl);by_cases hpos:0<cells[pn];refine⟨g.set c (.lst ((cells.set pn (cells[pn]/m)).map .int)),cells.set pn (cells[pn]/m),pn,hp,?_,by simp,?_,yJ gc,rfl,λi _ hi=>rP gc hi,.inl ⟨cells[pn] % m,?_,Fw _ (by lia),Fv _ hm⟩⟩;intro y hy;rcases List.mem_or_eq_of_mem_set hy with hy|rfl
  exact hnn y hy;exact Int.ediv_nonneg (by lia) (by lia);rw[rP gc hdc];exact gd;have hix:iw (cells.map W.int).length (pn:Int)=aB pn:=by
   unfold iw;rw[if_pos (by lia),if_pos (by rw[bV];lia)];simp
  have eb:exs (run F (k+2)) yq [aB (.ref d),aB (.int m),x] g=.ok (.rt (.int (cells[pn] % m))) (g.set c (.lst ((cells.set pn (cells[pn]/m)).map .int))):=by
   have h2:cy [W.fz (ns.map .int),.ref c,.int pn,.int q] 2=aB (.int pn):=rfl;have h1:cy [W.fz (ns.map .int),.ref c,.int pn,.int q] 1=aB (.ref c):=rfl;simp[yq,exs,ev,aZ,gd,h1,h2,gc,hat,aV,gm,hpos,fk,fM,hm,hm2]at hix ⊢;simp[hix,hm,List.map_set]
  simp[fE,ec,hlt,eb];have gs:(g.set d (.lst [.fz (ns.map .int),.ref c,.int ((pn:Int)+1),.int q])).get c=aB (.lst (cells.map .int)):=by rw[rP gd (dU hdc)];exact gc
  cases n with
  |zero=>lia
  |succ n=>
   obtain⟨g',cells',p',a1,a2,a3,a4,a5,a6,a7,a8⟩:=Rb (k:=k) hdc hm hm2 n f (g.set d (.lst [.fz (ns.map .int),.ref c,.int ((pn:Int)+1),.int q])) (aB (.int cells[pn])) cells (pn+1) (by lia) (by lia) (by lia) hnn (yJ gd) gs;have eb:exs (run F (k+2)) yq [aB (.ref d),aB (.int m),x] g=.ok (.nx [aB (.ref d),aB (.int m),aB (.int cells[pn])]) (g.set d (.lst [.fz (ns.map .int),.ref c,.int ((pn:Int)+1),.int q])):=by
    have h2:cy [W.fz (ns.map .int),.ref c,.int pn,.int q] 2=aB (.int pn):=rfl;have h1:cy [W.fz (ns.map .int),.ref c,.int pn,.int q] 1=aB (.ref c):=rfl;have h3:iw 4 2=aB 2:=rfl;simp[yq,exs,ev,aZ,gd,h1,h2,h3,gc,hat,aV,gm,hpos,fk,fM]
   refine⟨g',cells',p',a1,a2,a3,a4,a5,a6,λi h1 h2=>by rw[a7 i h1 h2,rP gd h1],?_⟩;rcases a8 with⟨r,e,h3⟩|⟨y,e⟩
   exact .inl ⟨r,by simp[fE,ec,hlt,eb,e],h3⟩;exact .inr ⟨y,by simp[fE,ec,hlt,eb,e]⟩
  exact⟨g,cells,p,hp,hnn,rfl,gd,gc,rfl,λ_ _ _=>rfl,.inr ⟨x,by simp[fE,ec,hlt]⟩⟩
omit C in
theorem Rc(g:fF ⟨h.n,h.n,h.os⟩ h'):∃h2,leave h w h'=.ok w h2/\h.n<=h2.n/\∀i,i<h.n->h2.get i=h'.get i:=by
 unfold leave;split;rename_i q;rw[aY]at q;have hlo:=kU q.1;exact⟨h,rfl,bq _,λi hi=>by
  rw[g.2.2 i hi (ff hi hlo)];exact ck.symm⟩
 exact⟨_,rfl,g.1,λi hi=>ck⟩
theorem take{k:Nat}{h:VH}{d c b:Nat}{m:Int}(D:Dk h d c b)(hb:b<1000000000)(hm:0<m)(hm2:m<1073741824):∃r h',run F (k+3) 5 [.ref d,.int m] h=.ok (.int r) h'/\0<=r/\r<m/\Dk h' d c (b+1)/\bP h h' d c:=by
 rw[cz C.f5 rfl];obtain⟨hne,ns,cells,p,q,gd,gc,hnn,hp,hq,hqb,hl⟩:=D;have gd0:VH.get ⟨h.n,h.n,h.os⟩ d=aB (.lst [.fz (ns.map .int),.ref c,.int p,.int q]):=by rw[ck];exact gd
 have gc0:VH.get ⟨h.n,h.n,h.os⟩ c=aB (.lst (cells.map .int)):=by rw[ck];exact gc
 obtain⟨g',cells',p',a1,a2,a3,a4,a5,a6,a7,a8⟩:=Rb C (k:=k) hne hm hm2 63 fuel ⟨h.n,h.n,h.os⟩ aC cells p (by decide) (by lia) hp hnn gd0 gc0;have key:∀(g2:VH)(r:Int)(iU:List Int)(p2 q2:Int),exs (run F (k+2)) tV.body [aB (.ref d),aB (.int m),aC] ⟨h.n,h.n,h.os⟩=.ok (.rt (.int r)) g2->0<=r->r<m->0<=p2->0<=q2->q2<=b+1->iU.length<=63->(∀y∈iU,(0:Int)<=y)->
  g2.get d=aB (.lst [.fz (ns.map .int),.ref c,.int p2,.int q2])->g2.get c=aB (.lst (iU.map .int))->(∀i,i<h.n->i≠d->i≠c->g2.get i=h.get i)->
  ∃r h',fin h (exs (run F (k+2)) tV.body ([W.ref d,W.int m].map aB++bI (tV.n-tV.ps) aC) ⟨h.n,h.n,h.os⟩)=.ok (.int r) h'/\0<=r/\r<m/\Dk h' d c (b+1)/\bP h h' d c:=by
  intro g2 r iU p2 q2 e r1 r2 b1 b2 b3 b4 b5 b6 b7 b8;obtain⟨h2,e2,hn2,yK⟩:=Rc (w:=.int r) (CM (CN F (k+2)) _ _ _ _ _ e);refine⟨r,h2,?_,r1,r2,⟨hne,ns,iU,p2,q2,?_,?_,b5,b1,b2,by lia,b4⟩,⟨hn2,λi o h1 h3 e3=>?_⟩⟩;show fin h (exs (run F (k+2)) tV.body [aB (.ref d),aB (.int m),aC] ⟨h.n,h.n,h.os⟩)=_;rw[e];exact e2;rw[yK d (fV gd)];exact b6;rw[yK c (fV gc)];exact b7;rw[yK i (fV e3),b8 i (fV e3) h1 h3];exact e3
 rcases a8 with⟨r,e,r1,r2⟩|⟨y,e⟩;refine key g' r cells' p' q ?_ r1 r2 a1 hq (by lia) (by lia) a2 a4 a5 λi hi h1 h2=>by rw[a7 i h1 h2,ck]
 simp[tV,exs,e];obtain⟨r,e2,r1,r2⟩:=mixed C (k:=k) (h:=g'.set d (.lst [.fz (ns.map .int),.ref c,.int p',.int (q+1)])) (ns:=ns) (j:=q+1) (m:=m) (by lia) (by lia) hm;refine key (g'.set d (.lst [.fz (ns.map .int),.ref c,.int p',.int (q+1)])) r cells' p' (q+1) ?_ r1 r2 a1 (by lia) (by lia) (by lia) a2 (yJ a4) (by rw[rP a4 (dU hne)];exact a5) λi hi h1 h2=>by rw[rP a4 h1,a7 i h1 h2,ck]
 have h3:cy [W.fz (ns.map .int),.ref c,.int p',.int q] 3=aB (.int q):=rfl;have h30:cy [W.fz (ns.map .int),.ref c,.int p',.int (q+1)] 3=aB (.int (q+1)):=rfl;have h00:cy [W.fz (ns.map .int),.ref c,.int p',.int (q+1)] 0=aB (.fz (ns.map .int)):=rfl;have h33:iw 4 3=aB 3:=rfl;have hs:=yJ (o:=.lst [.fz (ns.map .int),.ref c,.int p',.int (q+1)]) a4;simp[tV,exs,e,ev,aZ,a4,h3,fk,fM,h33,hs,h30,h00,e2]
end
theorem aX{ρ ρ':En}(e:exs cl a ρ h=.ok (.nx ρ') h'):exs cl (.seq a b) ρ h=exs cl b ρ' h':=by
 simp only[exs,e,aD]
theorem dB{ρ:En}(e:exs cl a ρ h=.ok (.rt w) h'):exs cl (.seq a b) ρ h=.ok (.rt w) h':=by
 simp only[exs,e,aD]
@[simp] theorem DV {cl:Call} {ρ:En} {h:VH}:exs cl .skip ρ h=.ok (.nx ρ) h:=rfl
theorem Dk.new{d c b:Nat}(D:Dk h d c b):Dk (h.new o) d c b:=by
 obtain⟨ne,ns,cells,p,q,a1,a2,a3⟩:=D;exact⟨ne,ns,cells,p,q,by rw[jV (fV a1)];exact a1,by rw[jV (fV a2)];exact a2,a3⟩
theorem bP.new{d c:Nat}(K:bP h h' d c):bP h (h'.new o) d c:=⟨Nat.le_succ_of_le K.le,λi o' h1 h2 e=>by
 have:=K.get i o' h1 h2 e;rw[jV (fV this)];exact this⟩
theorem Dk.lo{d c b l:Nat}(D:Dk h d c b):Dk ⟨h.n,l,h.os⟩ d c b:=by
 obtain⟨ne,ns,cells,p,q,a1,a2,a3⟩:=D;exact⟨ne,ns,cells,p,q,by rw[ck];exact a1,by rw[ck];exact a2,a3⟩
theorem Al{cl:Call}{d c b:Nat}{fl:Fl}{ρ:En}{k:Nat}(e:exs (run F k) body ρ ⟨h.n,h.n,h.os⟩=.ok (.rt w) h')(D0:Dk h d c 0\/∃b,Dk h d c b)(D:Dk h' d c b)(K:bP ⟨h.n,h.n,h.os⟩ h' d c) :
 ∃h2,fin h (exs (run F k) body ρ ⟨h.n,h.n,h.os⟩)=.ok w h2/\Dk h2 d c b/\bP h h2 d c:=by
 obtain⟨h2,e2,hn2,yK⟩:=Rc (w:=w) (CM (CN F k) _ _ _ _ _ e);have hd:d<h.n/\c<h.n:=by
  rcases D0 with⟨_,ns,cells,p,q,a1,a2,_⟩|⟨b,_,ns,cells,p,q,a1,a2,_⟩<;>exact⟨fV a1,fV a2⟩
 refine⟨h2,by rw[e];exact e2,?_,⟨hn2,λi o h1 h3 e3=>?_⟩⟩;obtain⟨ne,ns,cells,p,q,a1,a2,a3⟩:=D;exact⟨ne,ns,cells,p,q,by rw[yK d hd.1];exact a1,by rw[yK c hd.2];exact a2,a3⟩;rw[yK i (fV e3)];exact K.get i o h1 h3 (by rw[ck];exact e3)
theorem DW{ρ:En}{x y:Bool}(ea:ev cl a ρ h=.ok (.bl x) h)(eb:ev cl b ρ h=.ok (.bl y) h):ev cl (.and a b) ρ h=.ok (.bl (x&&y)) h:=by
 rw[ev,ea,aD];cases x;rfl;exact eb
theorem orB{ρ:En}{x y:Bool}(ea:ev cl a ρ h=.ok (.bl x) h)(eb:ev cl b ρ h=.ok (.bl y) h):ev cl (.or a b) ρ h=.ok (.bl (x||y)) h:=by
 rw[ev,ea,aD];cases x;exact eb;rfl
structure CoreP(F:Nat->Option Fn):Prop extends CoreD F where
 f21:F 21=aB qc
 f23:F 23=aB yv
 f25:F 25=aB tY
noncomputable abbrev aN:Str:=Str.ofString "."
noncomputable abbrev cJ:Str:=Str.ofString "<"
noncomputable abbrev cK:Str:=Str.ofString ">"
noncomputable abbrev sX:Str:=Str.ofString "x"
noncomputable abbrev sS:Str:=Str.ofString "s"
theorem Rf{c wd g:Int}:gf (.str aN) c wd g=true:=rfl
theorem DY{c wd g:Int}:gf (.str sS) c wd g=true:=rfl
theorem Rg{c wd g:Int}(h:0<c):gf (.str cJ) c wd g=true:=by
 have:gf (.str cJ) c wd g=decide (0<c):=rfl;rw[this];simpa using h
theorem Rh{c wd g:Int}(h:c<wd-1):gf (.str cK) c wd g=true:=by
 have:gf (.str cK) c wd g=decide (c<wd-1):=rfl;rw[this];simpa using h
theorem DZ{c wd g:Int}(h:0<c)(h2:c<wd-1):gf (.str sX) c wd g=true:=by
 have:gf (.str sX) c wd g=(decide (0<c)&&decide (c<wd-1)):=rfl;rw[this];simp[h,h2]
theorem zy4{c wd g a b:Int}(a0:0<=a)(a1:a<g)(b0:0<=b)(b1:b<2)(h:0<c)(h2:c<wd-1):gf (.tup [.int a,.int b]) c wd g=true:=by
 have h3:nX (.tup [.int a,.int b]) g=true:=by
  simp only[nX,within,aY,gH];lia
 unfold gf;rw[h3,Fe,if_pos rfl];simp[h,h2]
inductive Raw(g:Int):W->Prop
 |dot:Raw g (.str aN)
 |lt:Raw g (.str cJ)
 |gt:Raw g (.str cK)
 |x:Raw g (.str sX)
 |rk {a b:Int}:0<=a->a<g->0<=b->b<2->Raw g (.tup [.int a,.int b])
theorem m8{x y z:Str}(hx:PyData.strOk x)(hy:PyData.strOk y)(hz:PyData.strOk z):ko h (.str x) (.tup [.str y,.str z])=aB (y==x||z==x):=by
 have sx:SeqAt.shaped (.str x)=true:=by unfold SeqAt.shaped;show(PyData.strOk x&&_)=true;rw[hx];rfl
 have sy:SeqAt.shaped (.str y)=true:=by unfold SeqAt.shaped;show(PyData.strOk y&&_)=true;rw[hy];rfl
 have sz:SeqAt.shaped (.str z)=true:=by unfold SeqAt.shaped;show(PyData.strOk z&&_)=true;rw[hz];rfl
 simp[ko,aO,toD,aW,sx,sy,sz,fU,PyData.eqv]
theorem G1{a b:Int}{y z:Str}(hy:PyData.strOk y)(hz:PyData.strOk z):ko h (.tup [.int a,.int b]) (.tup [.str y,.str z])=aB false:=by
 have sy:SeqAt.shaped (.str y)=true:=by unfold SeqAt.shaped;show(PyData.strOk y&&_)=true;rw[hy];rfl
 have sz:SeqAt.shaped (.str z)=true:=by unfold SeqAt.shaped;show(PyData.strOk z&&_)=true;rw[hz];rfl
 have st:SeqAt.shaped (.tuple [.int a,.int b])=true:=rfl;simp[ko,aO,toD,aW,sy,sz,st,fU,PyData.eqv]
noncomputable def qk:E:=(.or (.and (.cmp .eq (.var 1) (.cst (.int (0)))) (.cmp .sO (.var 5) (.tup (.cons (.cst (.str aN)) (.cons (.cst (.str cK)) .nil))))) (.and (.cmp .eq (.var 1) (.op .sub (.var 2) (.cst (.int (1))))) (.cmp .sO (.var 5) (.tup (.cons (.cst (.str aN)) (.cons (.cst (.str cJ)) .nil))))))
noncomputable def ur:E:=(.idx (.lst (.cons (.cst (.str cK)) (.cons (.cst (.str cJ)) (.cons (.cst (.str aN)) .nil)))) (.bi .min (.cons (.op .add (.bi .int (.cons (.cmp .gt (.var 1) (.cst (.int (0)))) .nil)) (.op .mul (.cst (.int (2))) (.bi .int (.cons (.cmp .eq (.var 2) (.cst (.int (1)))) .nil)))) (.cons (.cst (.int (2))) .nil))))
noncomputable def iV:S:=(.seq (.ite qk (.seq (.ret ur) .skip) .skip) (.seq (.ret (.var 5)) .skip))
section
variable{F:Nat->Option Fn}(C:CoreP F)
include C
theorem piece{k:Nat}{d c b:Nat}{co wd g:Int}(D:Dk h d c b)(hb:b+5<1000000000)(h0:0<=co)(h1:co<wd)(g0:0<=g)(g1:g<=8) :
 ∃w h',run F (k+4) 21 [.ref d,.int co,.int wd,.int g] h=.ok w h'/\gf w co wd g=true/\Dk h' d c (b+5)/\bP h h' d c:=by
 rw[cz C.f21 rfl];have D0:Dk ⟨h.n,h.n,h.os⟩ d c b:=D.lo;have tail:∀(w5:W)(eO:Int)(h3:VH),Raw g w5->∃w h4,exs (run F (k+3)) iV
  [aB (.ref d),aB (.int co),aB (.int wd),aB (.int g),aB (.int eO),aB w5] h3=.ok (.rt w) h4/\gf w co wd g=true/\(h4=h3\/∃o,h4=h3.new o):=by
  intro w5 eO h3 R;have two:rG 2=true:=G0 (by decide) (by decide);have i0:cy [W.str cK,.str cJ,.str aN] 0=aB (.str cK):=rfl;have i1:cy [W.str cK,.str cJ,.str aN] 1=aB (.str cJ):=rfl;have i2:cy [W.str cK,.str cJ,.str aN] 2=aB (.str aN):=rfl;have eC:∀(b1 b2:Bool),ko h3 w5 (.tup [.str aN,.str cK])=aB b1->ko h3 w5 (.tup [.str aN,.str cJ])=aB b2->ev (run F (k+3)) qk [aB (.ref d),aB (.int co),aB (.int wd),aB (.int g),aB (.int eO),aB w5] h3=.ok (.bl ((decide (co=0) && !b1)|| (decide (co=wd-1) && !b2))) h3:=by
   intro b1 b2 n1 n2;refine orB (DW ?_ ?_) (DW ?_ ?_);simp only[ev,ja,i9,jz,aT,aD,aV,jt,gR];simp[ev,aV,n1];simp only[ev,ja,i9,jz,aT,aD,aV,jt,gR,fk,fM];simp[ev,aV,n2]
  have ql:∀(b1 b2:Bool),ko h3 w5 (.tup [.str aN,.str cK])=aB b1->ko h3 w5 (.tup [.str aN,.str cJ])=aB b2->(co≠0\/b1=true)->(co≠wd-1\/b2=true)->gf w5 co wd g=true->∃w h4,exs (run F (k+3)) iV
   [aB (.ref d),aB (.int co),aB (.int wd),aB (.int g),aB (.int eO),aB w5] h3=.ok (.rt w) h4/\gf w co wd g=true/\(h4=h3\/∃o,h4=h3.new o):=by
   intro b1 b2 n1 n2 o1 o2 hm;refine⟨w5,h3,?_,hm,.inl rfl⟩;have cond:=eC b1 b2 n1 n2;rw[show((decide (co=0) && !b1)|| (decide (co=wd-1) && !b2))=false by rcases o1 with z|z<;>rcases o2 with z'|z'<;>simp[z,z']]at cond;unfold iV;rw[exs,exs,cond,aD];simp[exs,ev]
  have uu:∀(b1 b2:Bool),ko h3 w5 (.tup [.str aN,.str cK])=aB b1->ko h3 w5 (.tup [.str aN,.str cJ])=aB b2->((co=0/\b1=false)\/(co=wd-1/\b2=false))->∃w h4,exs (run F (k+3)) iV
   [aB (.ref d),aB (.int co),aB (.int wd),aB (.int g),aB (.int eO),aB w5] h3=.ok (.rt w) h4/\gf w co wd g=true/\(h4=h3\/∃o,h4=h3.new o):=by
   intro b1 b2 n1 n2 o;have cond:ev (run F (k+3)) qk [aB (.ref d),aB (.int co),aB (.int wd),aB (.int g),aB (.int eO),aB w5] h3=.ok (.bl true) h3:=by
    rw[eC b1 b2 n1 n2,show((decide (co=0) && !b1)|| (decide (co=wd-1) && !b2))=true by rcases o with⟨z,z'⟩|⟨z,z'⟩<;>simp[z,z']]
   have r1:∀(x:Str)(j:Int),(if(2:Int)< (if 0<co then 1 else 0)+2* (if wd=1 then 1 else 0)then 2 else(if 0<co then 1 else 0)+2* (if wd=1 then 1 else 0))=j->cy [W.str cK,.str cJ,.str aN] j=aB (.str x)->ev (run F (k+3)) ur [aB (.ref d),aB (.int co),aB (.int wd),aB (.int g),aB (.int eO),aB w5] h3=.ok (.str x) (h3.new (.lst [W.str cK,.str cJ,.str aN])):=by
    intro x j hj ha;have hg:=gW (h:=h3) (o:=.lst [W.str cK,.str cJ,.str aN]);by_cases c0:0<co<;>by_cases c1:wd=1<;>simp[c0,c1]at hj<;>subst hj<;>simp[ur,ev,aV,gm,jt,fk,fM,two,gV,jF,lN,aZ,hg,ha,c0,c1]
   have fin:∀x:Str,ev (run F (k+3)) ur [aB (.ref d),aB (.int co),aB (.int wd),aB (.int g),aB (.int eO),aB w5] h3=.ok (.str x) (h3.new (.lst [W.str cK,.str cJ,.str aN]))->gf (.str x) co wd g=true->
    ∃w h4,exs (run F (k+3)) iV [aB (.ref d),aB (.int co),aB (.int wd),aB (.int g),aB (.int eO),aB w5] h3=.ok (.rt w) h4/\gf w co wd g=true/\(h4=h3\/∃o,h4=h3.new o):=
    λx e hm=>⟨.str x,h3.new (.lst [W.str cK,.str cJ,.str aN]),by simp only[iV,exs,cond,aD,e],hm,.inr ⟨_,rfl⟩⟩
   by_cases w1:wd=1;exact fin aN (r1 aN 2 (by rw[if_neg (by lia:¬0<co)];simp[w1]) i2) Rf;by_cases c0:co=0;exact fin cK (r1 cK 0 (by rw[if_neg (by lia:¬0<co)];simp[w1]) i0) (Rh (by lia));exact fin cJ (r1 cJ 1 (by rw[if_pos (by lia:0<co)];simp[w1]) i1) (Rg (by lia))
  have d1:(aN==cJ)=false:=by decide +kernel
  have d2:(cK==cJ)=false:=by decide +kernel
  have d3:(aN==cK)=false:=by decide +kernel
  have d4:(cJ==cK)=false:=by decide +kernel
  have d5:(aN==sX)=false:=by decide +kernel
  have d6:(cK==sX)=false:=by decide +kernel
  have d7:(cJ==sX)=false:=by decide +kernel
  have k1:PyData.strOk aN=true:=by decide +kernel
  have k2:PyData.strOk cJ=true:=by decide +kernel
  have k3:PyData.strOk cK=true:=by decide +kernel
  have k4:PyData.strOk sX=true:=by decide +kernel
  cases R with
  |dot=>exact ql true true (by rw[m8 k1 k1 k3];simp) (by rw[m8 k1 k1 k2];simp) (.inr rfl) (.inr rfl) Rf
  |lt=>
   by_cases c0:co=0;exact uu false true (by rw[m8 k2 k1 k3,d1,d2];rfl) (by rw[m8 k2 k1 k2];simp) (.inl ⟨c0,rfl⟩);exact ql false true (by rw[m8 k2 k1 k3,d1,d2];rfl) (by rw[m8 k2 k1 k2];simp) (.inl c0) (.inr rfl) (Rg (by lia))
  |gt=>
   by_cases c0:co=wd-1;exact uu true false (by rw[m8 k3 k1 k3];simp) (by rw[m8 k3 k1 k2,d3,d4];rfl) (.inr ⟨c0,rfl⟩);exact ql true false (by rw[m8 k3 k1 k3];simp) (by rw[m8 k3 k1 k2,d3,d4];rfl) (.inr rfl) (.inl c0) (Rh (by lia))
  |x=>
   by_cases c0:co=0\/co=wd-1;exact uu false false (by rw[m8 k4 k1 k3,d5,d6];rfl) (by rw[m8 k4 k1 k2,d5,d7];rfl) (c0.elim (λz=>.inl ⟨z,rfl⟩) λz=>.inr ⟨z,rfl⟩);exact ql false false (by rw[m8 k4 k1 k3,d5,d6];rfl) (by rw[m8 k4 k1 k2,d5,d7];rfl) (.inl (by lia)) (.inl (by lia)) (DZ (by lia) (by lia))
  |rk a0 a1 b0 b1=>
   by_cases c0:co=0\/co=wd-1;exact uu false false (G1 k1 k3) (G1 k1 k2) (c0.elim (λz=>.inl ⟨z,rfl⟩) λz=>.inr ⟨z,rfl⟩);exact ql false false (G1 k1 k3) (G1 k1 k2) (.inl (by lia)) (.inl (by lia)) (zy4 a0 a1 b0 b1 (by lia) (by lia))
 obtain⟨eO,ju,e1,l0,l1,D1,K1⟩:=take C.toCoreD (k:=k) (m:=10) D0 (by lia) (by decide) (by decide);have done:∀(w5:W)(h3:VH),Raw g w5->Dk h3 d c (b+5)->bP ⟨h.n,h.n,h.os⟩ h3 d c->exs (run F (k+3)) qc.body [aB (.ref d),aB (.int co),aB (.int wd),aB (.int g),aC,aC] ⟨h.n,h.n,h.os⟩=exs (run F (k+3)) iV [aB (.ref d),aB (.int co),aB (.int wd),aB (.int g),aB (.int eO),aB w5] h3->
  ∃w h',fin h (exs (run F (k+3)) qc.body [aB (.ref d),aB (.int co),aB (.int wd),aB (.int g),aC,aC] ⟨h.n,h.n,h.os⟩)=.ok w h'/\gf w co wd g=true/\Dk h' d c (b+5)/\bP h h' d c:=by
  intro w5 h3 R D3 K3 e;obtain⟨w,h4,e4,hm,hh⟩:=tail w5 eO h3 R;have D4:Dk h4 d c (b+5)/\bP ⟨h.n,h.n,h.os⟩ h4 d c:=by
   rcases hh with rfl|⟨o,rfl⟩;exact⟨D3,K3⟩;exact⟨D3.new,K3.new⟩
  obtain⟨h5,e5,D5,K5⟩:=Al (cl:=run F (k+3)) (fl:=.nx []) (e.trans e4) (.inr ⟨b,D⟩) D4.1 D4.2;exact⟨w,h5,e5,hm,D5,K5⟩
 have Ri:=gW (h:=ju) (o:=.lst [W.str aN,.str cJ,.str cK,.str sX,.str aN,.str aN]);have two:∀(x:Str)(j:Int),(if(5:Int)<eO then 5 else eO)=j->cy [W.str aN,.str cJ,.str cK,.str sX,.str aN,.str aN] j=aB (.str x)->∀rest:S,exs (run F (k+3)) (.seq (.set 4 (.call 5 (.cons (.var 0) (.cons (.cst (.int (10))) .nil)))) (.seq (.set 5 (.idx (.lst (.cons (.cst (.str aN)) (.cons (.cst (.str cJ)) (.cons (.cst (.str cK)) (.cons (.cst (.str sX)) (.cons (.cst (.str aN)) (.cons (.cst (.str aN)) .nil))))))) (.bi .min (.cons (.var 4) (.cons (.cst (.int (5))) .nil))))) rest)) [aB (.ref d),aB (.int co),aB (.int wd),aB (.int g),aC,aC] ⟨h.n,h.n,h.os⟩ =
  exs (run F (k+3)) rest [aB (.ref d),aB (.int co),aB (.int wd),aB (.int g),aB (.int eO),aB (.str x)] (ju.new (.lst [W.str aN,.str cJ,.str cK,.str sX,.str aN,.str aN])):=by
  intro x j hj ha rest;refine(aX (ρ':=[aB (.ref d),aB (.int co),aB (.int wd),aB (.int g),aB (.int eO),aC]) (h':=ju) (by simp[exs,ev,e1])).trans ?_;refine aX ?_;by_cases q:(5:Int)<eO;rw[if_pos q]at hj;subst hj;simp[exs,ev,gV,lN,q,aZ,Ri,ha];rw[if_neg q]at hj;subst hj;simp[exs,ev,gV,lN,q,aZ,Ri,ha]
 have low:∀(x:Str),eO<=3->cy [W.str aN,.str cJ,.str cK,.str sX,.str aN,.str aN] eO=aB (.str x)->Raw g (.str x)->_:=λx hl ha R=>done (.str x) (ju.new (.lst [W.str aN,.str cJ,.str cK,.str sX,.str aN,.str aN])) R (D1.new.mono (by lia)) K1.new (by
  refine(two x eO (if_neg (by lia)) ha _).trans ?_;have n1:¬(4<eO):=by lia
  have n2:¬(eO=4):=by lia
  refine(aX (ρ':=[aB (.ref d),aB (.int co),aB (.int wd),aB (.int g),aB (.int eO),aB (.str x)]) (h':=ju.new (.lst [W.str aN,.str cJ,.str cK,.str sX,.str aN,.str aN])) (by simp[exs,ev,aV,gm,n1])).trans ?_;refine(aX (ρ':=[aB (.ref d),aB (.int co),aB (.int wd),aB (.int g),aB (.int eO),aB (.str x)]) (h':=ju.new (.lst [W.str aN,.str cJ,.str cK,.str sX,.str aN,.str aN])) (by simp[exs,ev,aV,jt,n2])).trans ?_;rfl)
 by_cases l4:eO<=3;have:eO=0\/eO=1\/eO=2\/eO=3:=by lia
 rcases this with z|z|z|z;exact low aN l4 (by rw[z];rfl) .dot;exact low cJ l4 (by rw[z];rfl) .lt;exact low cK l4 (by rw[z];rfl) .gt;exact low sX l4 (by rw[z];rfl) .x;by_cases l5:eO=4
 ·-- a blind place,or nothing
  obtain⟨r4,h4,e4,_,_,D4,K4⟩:=take C.toCoreD (k:=k) (m:=4) (D1.new (o:=.lst [W.str aN,.str cJ,.str cK,.str sX,.str aN,.str aN])) (by lia) (by decide) (by decide);have n1:¬(4<eO):=by lia
  have s3:∀rest:S,exs (run F (k+3)) (.seq (.ite (.and (.cmp .gt (.var 4) (.cst (.int (4)))) (.cmp .gt (.var 3) (.cst (.int (0))))) (.seq (.set 5 (.tup (.cons (.call 5 (.cons (.var 0) (.cons (.var 3) .nil))) (.cons (.call 5 (.cons (.var 0) (.cons (.cst (.int (2))) .nil))) .nil)))) .skip) .skip) rest) [aB (.ref d),aB (.int co),aB (.int wd),aB (.int g),aB (.int eO),aB (.str aN)] (ju.new (.lst [W.str aN,.str cJ,.str cK,.str sX,.str aN,.str aN]))=exs (run F (k+3)) rest [aB (.ref d),aB (.int co),aB (.int wd),aB (.int g),aB (.int eO),aB (.str aN)] (ju.new (.lst [W.str aN,.str cJ,.str cK,.str sX,.str aN,.str aN])):=λrest=>aX (by simp[exs,ev,aV,gm,n1]);by_cases r0:r4=0;obtain⟨h5,e5,D5,K5⟩:=Al (cl:=run F (k+3)) (fl:=.nx []) (w:=.str sS) (body:=qc.body) (ρ:=[aB (.ref d),aB (.int co),aB (.int wd),aB (.int g),aC,aC]) (F:=F) (k:=k+3) (h:=h) (h':=h4) (b:=b+5) ((two aN 4 (by rw[l5];rfl) rfl _).trans ((s3 _).trans (dB (by simp[exs,ev,aV,jt,l5,e4,r0])))) (.inr ⟨b,D⟩) (D4.mono (by lia)) (K1.new.trans K4);exact⟨_,h5,e5,DY,D5,K5⟩;exact done (.str aN) h4 .dot (D4.mono (by lia)) (K1.new.trans K4) ((two aN 4 (by rw[l5];rfl) rfl _).trans ((s3 _).trans (aX (by simp[exs,ev,aV,jt,l5,e4,r0]))))
 ·-- a nX,if there are groups
  have n1:4<eO:=by lia
  have n2:¬(eO=4):=by lia
  have ha:∃j:Int,(if(5:Int)<eO then 5 else eO)=j/\cy [W.str aN,.str cJ,.str cK,.str sX,.str aN,.str aN] j=aB (.str aN):=⟨5,by split<;>lia,rfl⟩
  obtain⟨j,hj,ha⟩:=ha;by_cases hg:0<g;obtain⟨ra,h4,e4,a0,a1,D4,K4⟩:=take C.toCoreD (k:=k) (m:=g) (D1.new (o:=.lst [W.str aN,.str cJ,.str cK,.str sX,.str aN,.str aN])) (by lia) hg (by lia);obtain⟨rb,h5,e5,b0,b1,D5,K5⟩:=take C.toCoreD (k:=k) (m:=2) D4 (by lia) (by decide) (by decide);exact done (.tup [.int ra,.int rb]) h5 (.rk a0 a1 b0 b1) (D5.mono (by lia)) ((K1.new.trans K4).trans K5) ((two aN j hj ha _).trans ((aX (ρ':=[aB (.ref d),aB (.int co),aB (.int wd),aB (.int g),aB (.int eO),aB (.tup [.int ra,.int rb])]) (h':=h5) (by simp[exs,ev,aV,gm,n1,hg,e4,e5])).trans (aX (by simp[exs,ev,aV,jt,n2]))));exact done (.str aN) (ju.new (.lst [W.str aN,.str cJ,.str cK,.str sX,.str aN,.str aN])) .dot (D1.new.mono (by lia)) K1.new ((two aN j hj ha _).trans ((aX (ρ':=[aB (.ref d),aB (.int co),aB (.int wd),aB (.int g),aB (.int eO),aB (.str aN)]) (h':=ju.new (.lst [W.str aN,.str cJ,.str cK,.str sX,.str aN,.str aN])) (by simp[exs,ev,aV,gm,n1,hg])).trans (aX (by simp[exs,ev,aV,jt,n2]))))
end
noncomputable def uv(P:Int->W->Prop):Int->List W->Prop|_,[]=>True|a,w::r=>P a w/\uv P (a+1) r
theorem Am{P:W->Prop}:∀{ws:List W} {a:Int},uv (λ_ w=>P w) a ws->∀w∈ws,P w
 |[],_,_,w,h=>by cases h
 |x::r,a,⟨h1,h2⟩,w,h=>by
  rcases gq.mp h with rfl|h;exact h1;exact Am h2 w h
theorem yL{P:Int->W->Prop}{d c m lim:Nat}(hs:∀(i:Int) (h:VH) (b:Nat),0<=i->i<lim->Dk h d c b->b+m<1000000000->∃w h',ev cl e (aB (.int i)::tl) h=.ok w h'/\P i w/\Dk h' d c (b+m)/\bP h h' d c) :
 ∀(n:Nat)(a:Int)(x:Option W)(h:VH)(b:Nat),0<=a->a+n<=lim->Dk h d c b->b+m*n<1000000000->
  ∃ws h',kP (bJ (.one 0)) (λ_ h=>.ok (.bl true) h) (ev cl e) (jN a n) (x::tl) h=.ok ws h'/\uv P a ws/\ws.length=n/\Dk h' d c (b+m*n)/\bP h h' d c
 |0,a,x,h,b,_,_,D,_=>⟨[],h,rfl,trivial,rfl,by simpa using D,.refl⟩
 |n+1,a,x,h,b,ha,hl,D,hb=>by
  have e1:m* (n+1)=m*n+m:=Nat.mul_succ m n;obtain⟨w,h1,e2,p1,D1,K1⟩:=hs a h b ha (by lia) D (by lia);obtain⟨ws,h2,e3,p2,l2,D2,K2⟩:=yL hs n (a+1) (aB (.int a)) h1 (b+m) (by lia) (by lia) D1 (by lia);refine⟨w::ws,h2,?_,⟨p1,p2⟩,by rw[dh,l2],D2.mono (by lia),K1.trans K2⟩;simp only[jN,kP,bJ,List.set,ev,aD,e2,e3]
theorem yM{n:Nat}(h:n<=1000000):Nat.ble n big=true:=rW.mpr (fS h (by decide))
theorem Rj{ρ:En}{n ow:Nat}{ix:List Nat}(ea:ev cl a ρ h=.ok (.tup [.int n]) h1)(hn:n<1000000)(el:kP (bJ (.one 0)) (λ_ h=>.ok (.bl true) h) (ev cl e) (jN 0 n) (inner ow ix ρ) h1=.ok ys h2)(hy:ys.length<=1000000) :
 ev cl (.lc .eL a (.one 0) ow ix (.cst (.bl true)) e) ρ h=.ok (.ref h2.n) (h2.new (.lst ys)):=by
 have l:=zy3 (n:=n) (tg:=bJ (.one 0)) (c:=λ_ h=>.ok (.bl true) h) (e:=ev cl e) (ρ:=inner ow ix ρ) (h:=h1) hn;rw[el]at l;have q:ev cl (.lc .eL a (.one 0) ow ix (.cst (.bl true)) e) ρ h=(ev cl a ρ h).bind λx h=>(iN (bZ .eL x) (bJ (.one 0)) (ev cl (.cst (.bl true))) (ev cl e) fuel 0 (inner ow ix ρ) h []).bind λys h=>if Nat.ble ys.length big then .ok (.ref h.n) (h.new (.lst ys))else .no:=by rw[ev]
 rw[q,ea,aD];show(iN (bZ .eL (.tup [.int n])) (bJ (.one 0)) (λ_ h=>.ok (.bl true) h) (ev cl e) fuel 0 (inner ow ix ρ) h1 []).bind _=_;rw[l,aD,if_pos (yM hy)]
theorem zy5{ρ:En}{i:Nat}(e:ev cl x ρ h=.ok (.ref i) h1)(g:h1.get i=aB (.lst ys)):ev cl (.bi .tuple (.cons x .nil)) ρ h=.ok (.tup ys) h1:=by
 simp only[ev,e,aD,gV,xM,aO,g,gR,aT]
theorem D9{ρ:En}{n ow:Nat}{ix:List Nat}(ea:ev cl a ρ h=.ok (.tup [.int n]) h1)(hn:n<1000000)(el:kP (bJ (.one 0)) (λ_ h=>.ok (.bl true) h) (ev cl e) (jN 0 n) (inner ow ix ρ) h1=.ok ys h2)(hy:ys.length<=1000000) :
 ev cl (.bi .tuple (.cons (.lc .eL a (.one 0) ow ix (.cst (.bl true)) e) .nil)) ρ h=.ok (.tup ys) (h2.new (.lst ys)):=zy5 (Rj ea hn el hy) gW
theorem Rk{wd g:Int}:∀{ws:List W} {c:Int},uv (λi w=>gf w i wd g=true) c ws->cH wd g c ws|[],_,_=>trivial|_::_,_,⟨h1,h2⟩=>⟨h1,Rk h2⟩
section
variable{F:Nat->Option Fn}(C:CoreP F)
include C
theorem row{k:Nat}{d c b:Nat}{wd:Nat}{g:Int}(D:Dk h d c b)(hb:b+200<1000000000)(h1:wd<=40)(g0:0<=g)(g1:g<=8) :
 ∃ws h',run F (k+5) 25 [.ref d,.int wd,.int g] h=.ok (.tup ws) h'/\ws.length=wd/\cH wd g 0 ws/\Dk h' d c (b+200)/\bP h h' d c:=by
 rw[cz C.f25 rfl];have D0:Dk ⟨h.n,h.n,h.os⟩ d c b:=D.lo;obtain⟨ws,h2,e2,p2,l2,D2,K2⟩:=yL (cl:=run F (k+4)) (P:=λi w=>gf w i wd g) (e:=GU) (tl:=[aB (.ref d),aB (.int g),aB (.int wd)]) (m:=5) (lim:=wd) (λi h b h0 hl D hb=>by
  obtain⟨w,h',e,a1,a2,a3⟩:=piece C (k:=k) (co:=i) (wd:=wd) (g:=g) D hb h0 hl g0 g1;exact⟨w,h',by simp[GU,ev,e],a1,a2,a3⟩) wd 0 aC ⟨h.n,h.n,h.os⟩ b (by lia) (by lia) D0 (by lia)
 have e3:=D9 (cl:=run F (k+4)) (a:=.cons (.var 1) .nil) (ρ:=[aB (.ref d),aB (.int wd),aB (.int g)]) (h:=⟨h.n,h.n,h.os⟩) (ow:=1) (ix:=[0,2,1]) (e:=GU) (by simp[ev]) (by lia) e2 (by lia);obtain⟨h5,e5,D5,K5⟩:=Al (cl:=run F (k+4)) (fl:=.nx []) (w:=.tup ws) (body:=tY.body) (ρ:=[aB (.ref d),aB (.int wd),aB (.int g)]) (F:=F) (k:=k+4) (h:=h) (h':=h2.new (.lst ws)) (by simp only[tY,exs,e3,aD]) (.inr ⟨b,D⟩) (D2.new.mono (show _<=b+200 by lia)) K2.new;exact⟨ws,h5,e5,l2,Rk p2,D5,K5⟩
theorem zlk{k:Nat}{d c b:Nat}{nf:Int}(D:Dk h d c b)(hb:b+5<1000000000)(n0:1<=nf)(n1:nf<=4) :
 ∃w h',run F (k+4) 23 [.ref d,.int nf] h=.ok w h'/\door w nf=true/\Dk h' d c (b+5)/\bP h h' d c:=by
 rw[cz C.f23 rfl];have D0:Dk ⟨h.n,h.n,h.os⟩ d c b:=D.lo;obtain⟨r1,h1,e1,a1,b1,D1,K1⟩:=take C.toCoreD (k:=k) (m:=3) D0 (by lia) (by decide) (by decide);obtain⟨r2,h2,e2,a2,b2,D2,K2⟩:=take C.toCoreD (k:=k) (m:=100) D1 (by lia) (by decide) (by decide);have hg:=gW (h:=h2) (o:=.lst [.int r1,.int r2]);obtain⟨r3,h3,e3,a3,b3,D3,K3⟩:=take C.toCoreD (k:=k) (m:=4) (D2.new (o:=.lst [.int r1,.int r2])) (by lia) (by decide) (by decide);obtain⟨r4,h4,e4,a4,b4,D4,K4⟩:=take C.toCoreD (k:=k) (m:=nf) D3 (by lia) (by lia) (by lia);obtain⟨r5,h5,e5,a5,b5,D5,K5⟩:=take C.toCoreD (k:=k) (m:=8) D4 (by lia) (by decide) (by decide);obtain⟨_,ns,cells,p,q,gd,gc,_⟩:=D2;have Rl:h3.get h2.n=aB (.lst [.int r1,.int r2]):=K3.get _ _ (kW (fV gd)) (kW (fV gc)) hg;have KK:bP ⟨h.n,h.n,h.os⟩ h5 d c:=((((K1.trans K2).new (o:=.lst [.int r1,.int r2])).trans K3).trans K4).trans K5;have nm:∃x:Int,0<=x/\x<=99/\exs (run F (k+3)) (.set 2 (.idx (.lst (.cons (.call 5 (.cons (.var 0) (.cons (.cst (.int (3))) .nil))) (.cons (.call 5 (.cons (.var 0) (.cons (.cst (.int (100))) .nil))) .nil))) (.bi .int (.cons (.cmp .eq (.call 5 (.cons (.var 0) (.cons (.cst (.int (4))) .nil))) (.cst (.int (0)))) .nil)))) [aB (.ref d),aB (.int nf),aC,aC] ⟨h.n,h.n,h.os⟩=.ok (.nx [aB (.ref d),aB (.int nf),aB (.int x),aC]) h3:=by
  have i0:cy [W.int r1,.int r2] 0=aB (.int r1):=rfl;have i1:cy [W.int r1,.int r2] 1=aB (.int r2):=rfl;by_cases z:r3=0;exact⟨r2,a2,by lia,by simp[exs,ev,e1,e2,e3,aV,jt,z,gV,jF,aZ,Rl,i1]⟩;exact⟨r1,a1,by lia,by simp[exs,ev,e1,e2,e3,aV,jt,z,gV,jF,aZ,Rl,i0]⟩
 obtain⟨x,x0,x1,ex⟩:=nm;have e6:exs (run F (k+3)) (.set 3 (.call 5 (.cons (.var 0) (.cons (.var 1) .nil)))) [aB (.ref d),aB (.int nf),aB (.int x),aC] h3=.ok (.nx [aB (.ref d),aB (.int nf),aB (.int x),aB (.int r4)]) h4:=by simp[exs,ev,e4]
 have hd:∀w:W,w=.tup [.int x,.aG]\/w=.tup [.int x,.int r4]->door w nf=true:=by
  intro w hw;rcases hw with rfl|rfl
  simp[door,within,yI,cQ,x0,x1];simp only[door,within,yI,cQ,aY,gH,Bool.false_or];lia
 have body:∃w,exs (run F (k+3)) yv.body [aB (.ref d),aB (.int nf),aC,aC] ⟨h.n,h.n,h.os⟩=.ok (.rt w) h5/\door w nf=true:=by
  by_cases z:r5=0;exact⟨.tup [.int x,.aG],(aX ex).trans ((aX e6).trans (by simp[exs,ev,e5,aV,jt,z])),hd _ (.inl rfl)⟩;exact⟨.tup [.int x,.int r4],(aX ex).trans ((aX e6).trans (by simp[exs,ev,e5,aV,jt,z])),hd _ (.inr rfl)⟩
 obtain⟨w,eb,hw⟩:=body;obtain⟨h6,e7,D6,K6⟩:=Al (cl:=run F (k+3)) (fl:=.nx []) eb (.inr ⟨b,D⟩) (D5.mono (show _<=b+5 by lia)) KK;exact⟨w,h6,e7,hw,D6,K6⟩
theorem zu5{k:Nat}{d c wd n b:Nat}{g:Int}{x:Option W}(D:Dk h d c b)(hb:b+200*n<1000000000)(h1:wd<=40)(g0:0<=g)(g1:g<=8) :
 ∃(rs:List (List W)) (h':VH),kP (bJ (.one 0)) (λ_ h=>.ok (.bl true) h) (ev (run F (k+5)) (.call 25 (.cons (.var 1) (.cons (.var 3) (.cons (.var 2) .nil))))) (jN 0 n) [x,aB (.ref d),aB (.int g),aB (.int wd)] h=.ok (rs.map .tup) h'/\rs.length=n/\(∀r∈rs,(r.length:Int)=wd/\cH wd g 0 r)/\Dk h' d c (b+200*n)/\bP h h' d c:=by
 obtain⟨ws,h',e,p,l,D',K'⟩:=yL (cl:=run F (k+5)) (P:=λ_ w=>∃r,w=.tup r/\(r.length:Int)=wd/\cH wd g 0 r) (e:=.call 25 (.cons (.var 1) (.cons (.var 3) (.cons (.var 2) .nil)))) (tl:=[aB (.ref d),aB (.int g),aB (.int wd)]) (m:=200) (lim:=n) (λi h b _ _ D hb=>by
  obtain⟨ws,h',e,a1,a2,a3,a4⟩:=row C (k:=k) (wd:=wd) (g:=g) D hb h1 g0 g1;exact⟨.tup ws,h',by simp[ev,e],⟨ws,rfl,by lia,a2⟩,a3,a4⟩) n 0 x h b (by lia) (by lia) D hb
 replace p:=Am p;have hr:∃rs:List (List W),ws=rs.map .tup/\∀r∈rs,(r.length:Int)=wd/\cH wd g 0 r:=by
  clear e l;induction ws with
  |nil=>exact⟨[],rfl,λr hr=>by cases hr⟩
  |cons w ws ih=>
   obtain⟨rs,e1,e2⟩:=ih λw hw=>p w (eU _ hw);obtain⟨r,e3,e4⟩:=p w fy;refine⟨r::rs,by rw[e3,e1];rfl,λq hq=>?_⟩;rcases gq.mp hq with rfl|hq;exact e4;exact e2 q hq
 obtain⟨rs,rfl,hrs⟩:=hr;exact⟨rs,h',e,by rw[<-l,bV],hrs,D',K'⟩
theorem zll{k:Nat}{d c wd n b:Nat}{x:Option W}(D:Dk h d c b)(hb:b+1*n<1000000000)(h0:1<=wd)(h1:wd<=40) :
 ∃(fs:List W) (h':VH),kP (bJ (.one 0)) (λ_ h=>.ok (.bl true) h) (ev (run F (k+3)) (.call 5 (.cons (.var 1) (.cons (.var 2) .nil)))) (jN 0 n) [x,aB (.ref d),aB (.int wd)] h=.ok fs h'/\fs.length=n/\(∀f∈fs,within f 0 ((wd:Int)-1)=true)/\Dk h' d c (b+1*n)/\bP h h' d c:=by
 obtain⟨ws,h',e,p,l,D',K'⟩:=yL (cl:=run F (k+3)) (P:=λ_ w=>within w 0 ((wd:Int)-1)) (e:=.call 5 (.cons (.var 1) (.cons (.var 2) .nil))) (tl:=[aB (.ref d),aB (.int wd)]) (m:=1) (lim:=n) (λi h b _ _ D hb=>by
  obtain⟨r,h',e,a1,a2,a3,a4⟩:=take C.toCoreD (k:=k) (m:=wd) D (by lia) (by lia) (by lia);exact⟨.int r,h',by simp[ev,e],by simp only[within,aY,gH];lia,a3,a4⟩) n 0 x h b (by lia) (by lia) D hb
 exact⟨ws,h',e,l,Am p,D',K'⟩
theorem zrb{k:Nat}{d c n b:Nat}{x:Option W}(D:Dk h d c b)(hb:b+5*n<1000000000)(h0:1<=fs.length)(h1:fs.length<=4) :
 ∃(ds:List W) (h':VH),kP (bJ (.one 0)) (λ_ h=>.ok (.bl true) h) (ev (run F (k+4)) (.call 23 (.cons (.var 1) (.cons (.bi .len (.cons (.var 2) .nil)) .nil)))) (jN 0 n) [x,aB (.ref d),aB (.tup fs)] h=.ok ds h'/\ds.length=n/\(∀w∈ds,door w fs.length=true)/\Dk h' d c (b+5*n)/\bP h h' d c:=by
 obtain⟨ws,h',e,p,l,D',K'⟩:=yL (cl:=run F (k+4)) (P:=λ_ w=>door w fs.length) (e:=.call 23 (.cons (.var 1) (.cons (.bi .len (.cons (.var 2) .nil)) .nil))) (tl:=[aB (.ref d),aB (.tup fs)]) (m:=5) (lim:=n) (λi h b _ _ D hb=>by
  obtain⟨w,h',e,a1,a2,a3⟩:=zlk C (k:=k) (nf:=fs.length) D hb (by lia) (by lia);exact⟨w,h',by simp[ev,e,gV,gz,aO],a1,a2,a3⟩) n 0 x h b (by lia) (by lia) D hb
 exact⟨ws,h',e,l,Am p,D',K'⟩
end
structure we(F:Nat->Option Fn):Prop extends CoreP F where
 f26:F 26=aB yw
theorem lb{b n k:Nat}(hb:b+n<1000000000)(h:k<=n):b+k<1000000000:=by lia
theorem Rm{m:Int}(h:m<=60):m+1<1073741824:=by lia
theorem Rn{t m:Int}(a:0<=t)(b:t<m)(h:m<=40):∃n:Nat,1+t=n/\1<=n/\n<=40/\(n:Int)<=m:=⟨(1+t).toNat,by lia,by lia,by lia,by lia⟩
theorem An{b c n k m:Nat}(h:n<=m):b+c+k*n<=b+ (c+k*m):=by
 rw[Nat.add_assoc];exact Ff (Ff (Nat.mul_le_mul_left k h) c) b
section
variable{F:Nat->Option Fn}(C:we F)
include C
theorem zjq{k:Nat}{d c b:Nat}{mw mr mg:Int}(D:Dk h d c b)(hb:b+13000<1000000000)(w0:1<=mw)(w1:mw<=40)(r0:0<=mr)(r1:mr<=60)(g0:0<=mg)(g1:mg<=8) :
 ∃B h',run F (k+6) 26 [.ref d,.int mw,.int mr,.int mg] h=.ok (Bd.w B) h'/\B.Ok/\B.wd<=mw/\B.gr<=mg/\(B.rows.length:Int)<=mr/\Dk h' d c (b+13000)/\bP h h' d c:=by
 rw[cz C.f26 rfl];have D0:Dk ⟨h.n,h.n,h.os⟩ d c b:=D.lo;obtain⟨t1,h1,e1,a1,b1,D1,K1⟩:=take C.toCoreD (k:=k+2) (m:=mw) D0 (lb (k:=0) hb (by decide)) (Int.lt_of_lt_of_le (by decide) w0) (Int.lt_of_le_of_lt w1 (by decide));obtain⟨wd,hwd,Ro,yN,wd3⟩:=Rn a1 b1 w1;obtain⟨gr,h2,e2,a2,b2,D2,K2⟩:=take C.toCoreD (k:=k+2) (m:=mg+1) D1 (lb (k:=1) hb (by decide)) (Int.lt_add_one_of_le g0) (Rm (Int.le_trans g1 (by decide)));have b2:=Int.le_of_lt_add_one b2;have g2:=Int.le_trans b2 g1;obtain⟨t3,h3,e3,a3,b3,D3,K3⟩:=take C.toCoreD (k:=k+2) (m:=mr+1) D2 (lb (k:=2) hb (by decide)) (Int.lt_add_one_of_le r0) (Rm r1);obtain⟨nr,hnr⟩:=ly a3;have Rq:(nr:Int)<=mr:=hnr▸Int.le_of_lt_add_one b3;have Ea:nr<=60:=AI.mp (Int.le_trans Rq r1);obtain⟨rs,h4,e4,l4,p4,D4,K4⟩:=zu5 C.toCoreP (k:=k) (n:=nr) (wd:=wd) (g:=gr) (x:=aC) D3 (rV (An (c:=3) Ea) (lb hb (by decide))) yN a2 g2;have D4:=D4.mono (An (c:=3) Ea);have D4':=D4.new (o:=.lst (rs.map .tup));obtain⟨t5,h5,e5,a5,b5,D5,K5⟩:=take C.toCoreD (k:=k+2) (m:=4) D4' (lb hb (by decide)) (by decide) (by decide);obtain⟨nf,hnf,Rt,_,wg⟩:=Rn a5 b5 (by decide);have wg:=AI.mp wg;obtain⟨fs,h6,e6,l6,p6,D6,K6⟩:=zll C.toCoreP (k:=k+2) (n:=nf) (wd:=wd) (x:=aC) D5 (rV (An (c:=12004) wg) (lb hb (by decide))) Ro yN;have D6:=D6.mono (An (c:=12004) wg);have D6':=D6.new (o:=.lst fs);obtain⟨ds,h7,e7,l7,p7,D7,K7⟩:=zrb C.toCoreP (k:=k+1) (n:=wd) (fs:=fs) (x:=aC) D6' (rV (An (c:=12008) yN) (lb hb (by decide))) (l6▸Rt) (l6▸wg);obtain⟨hne,ns,cells,p,q,gd,gc,_⟩:=D4;have gl:(h7.new (.lst ds)).get h4.n=aB (.lst (rs.map .tup)):=by
  have n1:h4.n≠d:=kW (fV gd);have n2:h4.n≠c:=kW (fV gc);have q1:=K5.get h4.n _ n1 n2 gW;have q2:=K6.get h4.n _ n1 n2 q1;have q3:(h6.new (.lst fs)).get h4.n=aB (.lst (rs.map .tup)):=by rw[jV (fV q2)];exact q2
  have q4:=K7.get h4.n _ n1 n2 q3;rw[jV (fV q4)];exact q4
 have s1:exs (run F (k+5)) (.set 4 (.op .add (.cst (.int (1))) (.call 5 (.cons (.var 0) (.cons (.var 1) .nil))))) [aB (.ref d),aB (.int mw),aB (.int mr),aB (.int mg),aC,aC,aC,aC,aC] ⟨h.n,h.n,h.os⟩=.ok (.nx [aB (.ref d),aB (.int mw),aB (.int mr),aB (.int mg),aB (.int wd),aC,aC,aC,aC]) h1:=by
  simp[exs,ev,e1,fk,fM,hwd]
 have s2:exs (run F (k+5)) (.set 5 (.call 5 (.cons (.var 0) (.cons (.op .add (.var 3) (.cst (.int (1)))) .nil)))) [aB (.ref d),aB (.int mw),aB (.int mr),aB (.int mg),aB (.int wd),aC,aC,aC,aC] h1=.ok (.nx [aB (.ref d),aB (.int mw),aB (.int mr),aB (.int mg),aB (.int wd),aB (.int gr),aC,aC,aC]) h2:=by
  simp[exs,ev,e2,fk,fM]
 have s3:=Rj (cl:=run F (k+5)) (a:=.cons (.call 5 (.cons (.var 0) (.cons (.op .add (.var 2) (.cst (.int (1)))) .nil))) .nil) (ρ:=[aB (.ref d),aB (.int mw),aB (.int mr),aB (.int mg),aB (.int wd),aB (.int gr),aC,aC,aC]) (h:=h2) (h1:=h3) (n:=nr) (ow:=1) (ix:=[0,5,4]) (by simp[ev,fk,fM,e3,hnr]) (rV Ea (by decide)) e4 (by rw[bV,l4];exact fS Ea (by decide));have s4:=D9 (cl:=run F (k+5)) (a:=.cons (.op .add (.cst (.int (1))) (.call 5 (.cons (.var 0) (.cons (.cst (.int (4))) .nil)))) .nil) (ρ:=[aB (.ref d),aB (.int mw),aB (.int mr),aB (.int mg),aB (.int wd),aB (.int gr),aB (.ref h4.n),aC,aC]) (h:=h4.new (.lst (rs.map .tup))) (h1:=h5) (n:=nf) (ow:=1) (ix:=[0,4]) (by simp[ev,fk,fM,e5,hnf]) (rV wg (by decide)) e6 (by rw[l6];exact fS wg (by decide));have s5:=D9 (cl:=run F (k+5)) (a:=.cons (.var 4) .nil) (ρ:=[aB (.ref d),aB (.int mw),aB (.int mr),aB (.int mg),aB (.int wd),aB (.int gr),aB (.ref h4.n),aB (.tup fs),aC]) (h:=h6.new (.lst fs)) (h1:=h6.new (.lst fs)) (n:=wd) (ow:=1) (ix:=[0,7]) (by simp[ev]) (rV yN (by decide)) e7 (by rw[l7];exact fS yN (by decide));have body:exs (run F (k+5)) yw.body [aB (.ref d),aB (.int mw),aB (.int mr),aB (.int mg),aC,aC,aC,aC,aC] ⟨h.n,h.n,h.os⟩=.ok (.rt (Bd.w ⟨wd,gr,rs,fs,ds⟩)) (h7.new (.lst ds)):=by
  refine(aX s1).trans ((aX s2).trans ?_);refine(aX (ρ':=[aB (.ref d),aB (.int mw),aB (.int mr),aB (.int mg),aB (.int wd),aB (.int gr),aB (.ref h4.n),aC,aC]) (h':=h4.new (.lst (rs.map .tup))) (by unfold QN;simp only[exs,s3,aD];rfl)).trans ?_;refine(aX (ρ':=[aB (.ref d),aB (.int mw),aB (.int mr),aB (.int mg),aB (.int wd),aB (.int gr),aB (.ref h4.n),aB (.tup fs),aC]) (h':=h6.new (.lst fs)) (by unfold QO;simp only[exs,s4,aD];rfl)).trans ?_;refine(aX (ρ':=[aB (.ref d),aB (.int mw),aB (.int mr),aB (.int mg),aB (.int wd),aB (.int gr),aB (.ref h4.n),aB (.tup fs),aB (.tup ds)]) (h':=h7.new (.lst ds)) (by unfold QS;simp only[exs,s5,aD];rfl)).trans ?_;simp[exs,ev,gV,xM,aO,gl,Bd.w]
 have KK:bP ⟨h.n,h.n,h.os⟩ (h7.new (.lst ds)) d c:=((((((K1.trans K2).trans K3).trans K4).new.trans K5).trans K6).new.trans K7).new;obtain⟨h8,e8,D8,K8⟩:=Al (cl:=run F (k+5)) (fl:=.nx []) body (.inr ⟨b,D⟩) (D7.new.mono (fS (An (c:=12008) yN) (Ff (show _<=13000 by decide) b))) KK;refine⟨⟨wd,gr,rs,fs,ds⟩,h8,e8,⟨AI.mpr Ro,AI.mpr yN,a2,g2,by show rs.length<=60;rw[l4];exact Ea,p4,by show 1<=fs.length;rw[l6];exact Rt,by show fs.length<=4;rw[l6];exact wg,p6,k8 _ l7,p7⟩,wd3,b2,by show(rs.length:Int)<=mr;rw[l4];exact Rq,D8,K8⟩
end
structure Gw(h h':VH):Prop where
 le:h.n<=h'.n
 lo:h'.lo=h.lo
 get:∀i o,h.get i=aB o->h'.get i=aB o
theorem Ru{n:Nat}(h:n<=1000000):Nat.blt n big=true:=fN.mpr (rV h (by decide))
theorem rep1:∀n:Nat,(bI n [w]).flatten=bI n w|0=>rfl|n+1=>by rw[nt,uL,rep1 n,nt];rfl
theorem Rv{n:Nat}(hn:n<=1000000):fk .mul (.tup [w]) (.int n) h=.ok (.tup (bI n w)) h:=by
 have hf:fits (n:Int)=true:=by unfold fits;rw[aY,gH,gH];lia
 have:kj .mul [w] n=aB (bI n w):=by
  unfold kj;rw[if_pos (by
   rw[aY];exact⟨hf,yM (by rw[jA,Nat.one_mul,rj];exact hn)⟩)]
  rw[rj,rep1]
 simp only[fk,this,gR,aT]
theorem Ao{i l:Nat}{ρ:En}(lZ:ρ[i]?=aB (aB (.ref l)))(g0:h.get l=aB (.lst qm))(e:ev cl x ρ h=.ok w h1)(g:h1.get l=aB (.lst acc))(hl:acc.length<=1000000) :
 ev cl (.mt .append (.var i) (.cons x .nil)) ρ h=.ok .aG (h1.set l (.lst (acc++[w]))):=by
 have hk:Cb .append h (.ref l)=true:=by simp only[Cb,g0]
 have hm:xN .append (.ref l) [w] h1=.ok .aG (h1.set l (.lst (acc++[w]))):=by
  simp only[xN,g];rw[if_pos (Ru hl)]
 simp only[ev,lZ,ja,aT,aD,hk,bX,e,hm]
theorem zjr{g:Int}(h:nX w g):∃a b:Int,w=.tup [.int a,.int b]/\0<=a/\a<g/\0<=b/\b<2:=by
 cases w<;>simp only[nX]at h<;>try(cases h;done)
 rename_i us;rcases us with _|⟨a,_|⟨b,_|_⟩⟩<;>simp at h
 obtain⟨h1,h2⟩:=h;cases a<;>simp[within]at h1;cases b<;>simp[within]at h2;exact⟨_,_,rfl,by lia,by lia,by lia,by lia⟩
theorem Rw{n:Int}(h:door w n):∃(a:Int) (b:W),w=.tup [.int a,b]/\0<=a/\a<=99/\(b=.aG\/∃i:Int,b=.int i/\0<=i/\i<n):=by
 cases w<;>simp only[door]at h<;>try(cases h;done)
 rename_i us;rcases us with _|⟨a,_|⟨b,_|_⟩⟩<;>simp at h
 obtain⟨h1,h2⟩:=h;cases a<;>simp[within]at h1;unfold yI at h2;cases b<;>simp[within,cQ]at h2;exact⟨_,_,rfl,h1.1,h1.2,.inl rfl⟩;exact⟨_,_,rfl,h1.1,h1.2,.inr ⟨_,rfl,by lia,by lia⟩⟩
noncomputable def cA(w:W)(hd:Int)(ls:List Int):Option (Int×List Int×List Int):=match w with|.tup [.int g,.int s]=>aB (if ls.getD g.toNat 0=s then -1 else 1,[g],ls.set g.toNat (1-ls.getD g.toNat 0))|.str x=>if x==sS then aC else if x==sX then aB (hd,[],ls)else if x==aN then aB (0,[],ls)else aB (if x==cJ then -1 else 1,[],ls)|_=>aC
noncomputable def bT(r:List W)(c:Int):W:=(r[c.toNat]?).getD .aG
structure Fa where
 cs:List Int
 ts:List Int
 ls:List Int
 st:Bool
noncomputable def aM:List (List W)->Int->Int->List Int->Fa
 |[],_,_,ls=>⟨[],[],ls,false⟩
 |r::rs,c,hd,ls=>match cA (bT r c) hd ls with
  |none=>⟨[],[],ls,true⟩
  |some (d,t,l)=>⟨(c+d):: (aM rs (c+d) d l).cs,t++(aM rs (c+d) d l).ts,(aM rs (c+d) d l).ls,(aM rs (c+d) d l).st⟩
noncomputable def eB:Int->List Int->Int|c,[]=>c|_,x::r=>eB x r
noncomputable def bQ(ls:List Int):Prop:=∀x∈ls,x=0\/x=1
theorem G2{c wd g:Int}(h:gf w c wd g):(w=.str sX/\0<c/\c<wd-1)\/(w=.str cJ/\0<c)\/(w=.str cK/\c<wd-1)\/w=.str aN\/w=.str sS\/∃a b:Nat,w=.tup [.int a,.int b]/\(a:Int)<g/\b<2/\0<c/\c<wd-1:=by
 unfold gf at h;split at h;rename_i q;rw[aY,gH,gH]at h;rw[rT]at q;rcases q with q|q
 exact .inl ⟨Ak q,h⟩;obtain⟨a,b,rfl,h1,h2,h3,h4⟩:=zjr q;obtain⟨a,rfl⟩:=ly h1;obtain⟨b,rfl⟩:=ly h3;exact .inr (.inr (.inr (.inr (.inr ⟨a,b,rfl,h2,by lia,h⟩))));split at h;rename_i q;exact .inr (.inl ⟨Ak q,by simpa using h⟩);split at h;rename_i q;exact .inr (.inr (.inl ⟨Ak q,by simpa using h⟩));rw[rT]at h;rcases h with q|q
 exact .inr (.inr (.inr (.inl (Ak q))));exact .inr (.inr (.inr (.inr (.inl (Ak q)))))
theorem G3{hd:Int}:cA (.str sX) hd ls=aB (hd,[],ls):=rfl
theorem G4{hd:Int}:cA (.str cJ) hd ls=aB (-1,[],ls):=rfl
theorem G5{hd:Int}:cA (.str cK) hd ls=aB (1,[],ls):=rfl
theorem G6{hd:Int}:cA (.str aN) hd ls=aB (0,[],ls):=rfl
theorem G7{hd:Int}:cA (.str sS) hd ls=aC:=rfl
theorem G8{hd:Int}{a b:Nat}:cA (.tup [.int a,.int b]) hd ls=aB (if ls.getD a 0=b then -1 else 1,[(a:Int)],ls.set a (1-ls.getD a 0)):=rfl
theorem zrc(h:bQ ls)(a:Nat):ls.getD a 0=0\/ls.getD a 0=1:=by
 rw[List.getD_eq_getElem?_getD];cases q:ls[a]? with|none=>exact .inl rfl|some x=>exact h x (zo q)
theorem Lg{c wd g hd:Int}(h:gf w c wd g)(c0:0<=c)(c1:c<wd)(h1:-1<=hd)(h2:hd<=1)(b:bQ ls){d:Int}(e:cA w hd ls=aB (d,t,l)):-1<=d/\d<=1/\0<=c+d/\c+d<wd/\l.length=ls.length/\bQ l/\t.length<=1:=by
 rcases G2 h with⟨rfl,h3,h4⟩|⟨rfl,h3⟩|⟨rfl,h3⟩|rfl|rfl|⟨p,q,rfl,h3,h4,h5,h6⟩;rw[G3]at e;cases e;exact⟨h1,h2,by lia,by lia,rfl,b,by simp⟩;rw[G4]at e;cases e;exact⟨by lia,by lia,by lia,by lia,rfl,b,by simp⟩;rw[G5]at e;cases e;exact⟨by lia,by lia,by lia,by lia,rfl,b,by simp⟩;rw[G6]at e;cases e;exact⟨by lia,by lia,by lia,by lia,rfl,b,by simp⟩;rw[G7]at e;cases e;rw[G8]at e;cases e;refine⟨by split<;>lia,by split<;>lia,by split<;>lia,by split<;>lia,by simp,λx hx=>?_,by simp⟩;rcases List.mem_or_eq_of_mem_set hx with hx|rfl;exact b x hx;rcases zrc b p with q|q<;>rw[q]<;>lia
noncomputable def Eb(wd g:Int)(rs:List (List W)):Prop:=∀r∈rs,(r.length:Int)=wd/\cH wd g 0 r
theorem Ry{wd g:Int}:∀{ws:List W} {c:Int} (i:Nat) {w:W},cH wd g c ws->ws[i]?=aB w->gf w (c+i) wd g=true
 |[],_,_,_,_,e=>by simp at e
 |x::r,c,0,w,⟨h1,h2⟩,e=>by
  simp at e;subst e;simpa using h1
 |x::r,c,i+1,w,⟨h1,h2⟩,e=>by
  have:=Ry i h2 (by simpa using e);rw[show c+ ((i+1:Nat):Int)=c+1+i by push_cast;lia];exact this
theorem Aq{wd g c:Int}(h:(r.length:Int)=wd/\cH wd g 0 r)(c0:0<=c)(c1:c<wd):r[c.toNat]?=aB (bT r c)/\gf (bT r c) c wd g=true:=by
 obtain⟨n,rfl⟩:=ly c0;have hn:n<r.length:=by lia
 have e:r[n]?=aB r[n]:=jS hn;have e2:bT r n=r[n]:=by
  unfold bT;rw[rj,e];rfl
 rw[e2,rj];refine⟨e,?_⟩;have:=Ry n h.2 e;simpa using this
structure Fa.Ok(q:Fa)(wd:Int)(c:Int)(m n:Nat):Prop where
 l1:q.ls.length=n
 l2:bQ q.ls
 c1:∀x∈q.cs,0<=x/\x<wd
 c2:q.cs.length<=m
 c3:q.st=false->q.cs.length=m
 c5:q.st=true->q.cs.length<m
 c4:0<=eB c q.cs/\eB c q.cs<wd
 t1:q.ts.length<=m
theorem Rz{wd g:Int}:∀(rs:List (List W)) (c hd:Int) (ls:List Int),Eb wd g rs->0<=c->c<wd->-1<=hd->hd<=1->bQ ls->(aM rs c hd ls).Ok wd c rs.length ls.length
 |[],c,hd,ls,_,c0,c1,_,_,b=>⟨rfl,b,by simp[aM],by simp[aM],by simp[aM],by simp[aM],⟨c0,c1⟩,by simp[aM]⟩
 |r::rs,c,hd,ls,ok,c0,c1,h1,h2,b=>by
  obtain⟨_,hm⟩:=Aq (ok r fy) c0 c1;unfold aM;cases e:cA (bT r c) hd ls with
  |none=>exact⟨rfl,b,by simp,by simp,by simp,by simp,⟨c0,c1⟩,by simp⟩
  |some q=>
   obtain⟨d,t,l⟩:=q;obtain⟨a1,a2,a3,a4,a5,a6,a7⟩:=Lg hm c0 c1 h1 h2 b e;have ih:=Rz rs (c+d) d l (λr hr=>ok r (eU _ hr)) a3 a4 a1 a2 a6;refine⟨ih.l1.trans a5,ih.l2,λx hx=>?_,?_,λh=>?_,λh=>?_,ih.c4,?_⟩;rcases gq.mp hx with rfl|hx;exact⟨a3,a4⟩;exact ih.c1 x hx;simp only[dh];have:=ih.c2;lia;simp only[dh];have:=ih.c3 h;lia;simp only[dh];have:=ih.c5 h;lia;simp only[dh,gh];have:=ih.t1;lia
theorem RA{rs:List (List W)}{c hd:Int}(e:cA (bT r c) hd ls=aC):aM (r::rs) c hd ls=⟨[],[],ls,true⟩:=by
 unfold aM;rw[e]
theorem RB{rs:List (List W)}{c hd d:Int}(e:cA (bT r c) hd ls=aB (d,t,l)):aM (r::rs) c hd ls=⟨(c+d):: (aM rs (c+d) d l).cs,t++(aM rs (c+d) d l).ts,(aM rs (c+d) d l).ls,(aM rs (c+d) d l).st⟩:=by
 rw[aM,e]
noncomputable def st3(h:VH)(gs:List VO)(c t l:List W):VH:=⟨h.n+3+gs.length,h.n,gs++(.lst l :: .lst t :: .lst c::h.os)⟩
theorem nY:(st3 h gs c t l).get h.n=aB (.lst c):=by
 unfold st3 VH.get;rw[if_pos (fN.mpr (by show h.n<h.n+3+gs.length;lia))];show(gs++(.lst l :: .lst t :: .lst c::h.os))[h.n+3+gs.length-1-h.n]?=_;rw[oJ (by lia),show h.n+3+gs.length-1-h.n-gs.length=2 by lia];rfl
theorem nZ:(st3 h gs c t l).get (h.n+1)=aB (.lst t):=by
 unfold st3 VH.get;rw[if_pos (fN.mpr (by show h.n+1<h.n+3+gs.length;lia))];show(gs++(.lst l :: .lst t :: .lst c::h.os))[h.n+3+gs.length-1- (h.n+1)]?=_;rw[oJ (by lia),show h.n+3+gs.length-1- (h.n+1)-gs.length=1 by lia];rfl
theorem qo:(st3 h gs c t l).get (h.n+2)=aB (.lst l):=by
 unfold st3 VH.get;rw[if_pos (fN.mpr (by show h.n+2<h.n+3+gs.length;lia))];show(gs++(.lst l :: .lst t :: .lst c::h.os))[h.n+3+gs.length-1- (h.n+2)]?=_;rw[oJ (by lia),show h.n+3+gs.length-1- (h.n+2)-gs.length=0 by lia];rfl
theorem G9{a b:Nat}(h:b<=a):Nat.blt a b=false:=by
 cases q:Nat.blt a b with|false=>rfl|true=>have:=fN.mp q;lia
theorem RC:(st3 h gs c t l).set h.n (.lst c')=st3 h gs c' t l:=by
 unfold st3 VH.set;simp only[G9 (bq h.n)];rw[Fj _ _ (by lia),show h.n+3+gs.length-1-h.n-gs.length=2 by lia];rfl
theorem RD:(st3 h gs c t l).set (h.n+1) (.lst t')=st3 h gs c t' l:=by
 unfold st3 VH.set;simp only[G9 (oq h.n)];rw[Fj _ _ (by lia),show h.n+3+gs.length-1- (h.n+1)-gs.length=1 by lia];rfl
theorem zu6:(st3 h gs c t l).set (h.n+2) (.lst l')=st3 h gs c t l':=by
 unfold st3 VH.set;simp only[G9 (show h.n<=h.n+2 by lia)];rw[Fj _ _ (by lia),show h.n+3+gs.length-1- (h.n+2)-gs.length=0 by lia];rfl
theorem Lh:(st3 h gs c t l).new o=st3 h (o::gs) c t l:=by
 unfold st3 VH.new;simp only[dh,qX];rw[show h.n+3+gs.length+1=h.n+3+ (gs.length+1) by lia]
theorem iD{x y:Str}(hx:PyData.strOk x)(hy:PyData.strOk y):dG h (.str x) (.str y)=aB (x==y):=by
 rw[yH (x:=y) (by exact hx) hy];rfl
@[simp] theorem Li {h:VH}:dG h (.str sX) (.str (bf "x"))=aB true:=(iD (by decide +kernel) (by decide +kernel)).trans (by decide +kernel)
@[simp] theorem Hf {h:VH}:dG h (.str sX) (.str (bf "<"))=aB false:=(iD (by decide +kernel) (by decide +kernel)).trans (by decide +kernel)
@[simp] theorem Hg {h:VH}:dG h (.str sX) (.str (bf ">"))=aB false:=(iD (by decide +kernel) (by decide +kernel)).trans (by decide +kernel)
@[simp] theorem Ec {h:VH}:dG h (.str sX) (.str (bf "."))=aB false:=(iD (by decide +kernel) (by decide +kernel)).trans (by decide +kernel)
@[simp] theorem yO {h:VH}:dG h (.str sX) (.str (bf "s"))=aB false:=(iD (by decide +kernel) (by decide +kernel)).trans (by decide +kernel)
@[simp] theorem Hh {h:VH}:dG h (.str cJ) (.str (bf "x"))=aB false:=(iD (by decide +kernel) (by decide +kernel)).trans (by decide +kernel)
@[simp] theorem Ed {h:VH}:dG h (.str cJ) (.str (bf "<"))=aB true:=(iD (by decide +kernel) (by decide +kernel)).trans (by decide +kernel)
@[simp] theorem Ef {h:VH}:dG h (.str cJ) (.str (bf ">"))=aB false:=(iD (by decide +kernel) (by decide +kernel)).trans (by decide +kernel)
@[simp] theorem Ar {h:VH}:dG h (.str cJ) (.str (bf "."))=aB false:=(iD (by decide +kernel) (by decide +kernel)).trans (by decide +kernel)
@[simp] theorem uw {h:VH}:dG h (.str cJ) (.str (bf "s"))=aB false:=(iD (by decide +kernel) (by decide +kernel)).trans (by decide +kernel)
@[simp] theorem Hi {h:VH}:dG h (.str cK) (.str (bf "x"))=aB false:=(iD (by decide +kernel) (by decide +kernel)).trans (by decide +kernel)
@[simp] theorem Eg {h:VH}:dG h (.str cK) (.str (bf "<"))=aB false:=(iD (by decide +kernel) (by decide +kernel)).trans (by decide +kernel)
@[simp] theorem Eh {h:VH}:dG h (.str cK) (.str (bf ">"))=aB true:=(iD (by decide +kernel) (by decide +kernel)).trans (by decide +kernel)
@[simp] theorem As {h:VH}:dG h (.str cK) (.str (bf "."))=aB false:=(iD (by decide +kernel) (by decide +kernel)).trans (by decide +kernel)
@[simp] theorem ux {h:VH}:dG h (.str cK) (.str (bf "s"))=aB false:=(iD (by decide +kernel) (by decide +kernel)).trans (by decide +kernel)
@[simp] theorem Ei {h:VH}:dG h (.str aN) (.str (bf "x"))=aB false:=(iD (by decide +kernel) (by decide +kernel)).trans (by decide +kernel)
@[simp] theorem Au {h:VH}:dG h (.str aN) (.str (bf "<"))=aB false:=(iD (by decide +kernel) (by decide +kernel)).trans (by decide +kernel)
@[simp] theorem Av {h:VH}:dG h (.str aN) (.str (bf ">"))=aB false:=(iD (by decide +kernel) (by decide +kernel)).trans (by decide +kernel)
@[simp] theorem yP {h:VH}:dG h (.str aN) (.str (bf "."))=aB true:=(iD (by decide +kernel) (by decide +kernel)).trans (by decide +kernel)
@[simp] theorem qp {h:VH}:dG h (.str aN) (.str (bf "s"))=aB false:=(iD (by decide +kernel) (by decide +kernel)).trans (by decide +kernel)
@[simp] theorem Lj {h:VH}:dG h (.str sS) (.str (bf "x"))=aB false:=(iD (by decide +kernel) (by decide +kernel)).trans (by decide +kernel)
@[simp] theorem Hj {h:VH}:dG h (.str sS) (.str (bf "<"))=aB false:=(iD (by decide +kernel) (by decide +kernel)).trans (by decide +kernel)
@[simp] theorem Hl {h:VH}:dG h (.str sS) (.str (bf ">"))=aB false:=(iD (by decide +kernel) (by decide +kernel)).trans (by decide +kernel)
@[simp] theorem Ej {h:VH}:dG h (.str sS) (.str (bf "."))=aB false:=(iD (by decide +kernel) (by decide +kernel)).trans (by decide +kernel)
@[simp] theorem yQ {h:VH}:dG h (.str sS) (.str (bf "s"))=aB true:=(iD (by decide +kernel) (by decide +kernel)).trans (by decide +kernel)
theorem zrd:leave (st3 h0 gs c t l) w (VH.set ⟨(st3 h0 gs c t l).n,(st3 h0 gs c t l).n,(st3 h0 gs c t l).os⟩ (h0.n+2) (.lst l'))=.ok w (st3 h0 gs c t l'):=by
 have hb:Nat.blt (h0.n+2) (h0.n+3+gs.length)=true:=fN.mpr (by lia);have hn:Nat.ble (h0.n+3+gs.length) (h0.n+2)=false:=by
  cases q:Nat.ble (h0.n+3+gs.length) (h0.n+2)with|false=>rfl|true=>have:=kU q;lia
 have hl:Nat.ble h0.n (h0.n+2)=true:=rW.mpr (by lia);unfold leave VH.set st3;simp only[hb,bX,hn,qV,hl];rw[if_neg (by simp),Fj _ _ (by lia),show h0.n+3+gs.length-1- (h0.n+2)-gs.length=0 by lia];rfl
theorem RE{ls:List Int}{a:Nat}(h:a<ls.length):cy (ls.map W.int) (a:Int)=aB (.int (ls.getD a 0)):=
 oz (by rw[nu,jS h,List.getD_eq_getElem?_getD,jS h];rfl)
theorem RG{n a:Nat}(h:a<n):iw n (a:Int)=aB a:=by
 unfold iw;rw[if_pos (by lia),if_pos (by lia)];simp
theorem Lk{ρ ρ':En}(e:exs cl a ρ h=.ok (.bk ρ') h'):exs cl (.seq a b) ρ h=.ok (.bk ρ') h':=by
 simp only[exs,e,aD]
theorem RH{wd g c:Int}(ok:(r.length:Int)=wd/\cH wd g 0 r)(c0:0<=c)(c1:c<wd):cy r c=aB (bT r c):=by
 have:=(Aq ok c0 c1).1;obtain⟨n,rfl⟩:=ly c0;rw[rj]at this;exact oz this
noncomputable def iW(ls:List Int):W:=.tup (ls.map .int)
theorem g9{n:Nat}:W.lt n (iW ls)=true:=by
 unfold iW;rw[eN];induction ls with|nil=>simp|cons x r ih=>rw[cP,bK,ih,lt_int];rfl
theorem Bd.Ok.yR{B:Bd}(b:B.Ok){f:Nat}(hf:f<B.fd.length):∃c:Int,B.fd[f]?=aB (.int c)/\0<=c/\c<B.wd:=by
 have h:=b.f3 _ (zw hf);have e:B.fd[f]?=aB B.fd[f]:=jS hf;generalize B.fd[f]=w at h e;cases w<;>simp only[within]at h<;>try(cases h;done)
 rename_i c;rw[aY,gH,gH]at h;exact⟨c,e,h.1,by lia⟩
noncomputable def Bd.col(B:Bd)(f:Nat):Int:=match B.fd[f]? with|some (.int c)=>c|_=>0
theorem Bd.Ok.col{B:Bd}(b:B.Ok){f:Nat}(hf:f<B.fd.length):B.fd[f]?=aB (.int (B.col f))/\0<=B.col f/\B.col f<B.wd:=by
 obtain⟨c,e,h⟩:=b.yR hf;have:B.col f=c:=by unfold Bd.col;rw[e]
 rw[this];exact⟨e,h⟩
noncomputable def Bd.aS(B:Bd)(ls:List Int)(f:Nat):Fa:=aM B.rows (B.col f) 0 ls
theorem Bd.Ok.rows{B:Bd}(b:B.Ok){ls:List Int}(hl:(ls.length:Int)=B.gr):Eb B.wd (ls.length:Int) B.rows:=by
 rw[hl];exact b.r2
theorem Bd.Ok.aS{B:Bd}(b:B.Ok){ls:List Int}{f:Nat}(hf:f<B.fd.length)(hl:(ls.length:Int)=B.gr)(bi:bQ ls):(B.aS ls f).Ok B.wd (B.col f) B.rows.length ls.length:=
 Rz _ _ _ _ (b.rows hl) (b.col hf).2.1 (b.col hf).2.2 (by decide) (by decide) bi
noncomputable def n6(B:Bd)(ls:List Int)(f:Nat):W:=.tup [iW (B.col f:: (B.aS ls f).cs),iW (B.aS ls f).ts,iW (B.aS ls f).ls]
theorem zu7{f n:Nat}:W.lt n (n6 B ls f)=true:=by
 unfold n6;simp[g9]
theorem wj{i l:Nat}{ρ:En}(lZ:ρ[i]?=aB (aB (.ref l)))(g:h.get l=aB (.lst ws)):ev cl (.bi .tuple (.cons (.var i) .nil)) ρ h=.ok (.tup ws) h:=by
 simp only[ev,lZ,ja,aT,aD,gV,xM,aO,g,gR]
theorem Ll{ρ:En}(ea:ev cl a ρ h=.ok x h)(eb:ev cl b ρ h=.ok y h)(ec:ev cl c ρ h=.ok z h):ev cl (.tup (.cons a (.cons b (.cons c .nil)))) ρ h=.ok (.tup [x,y,z]) h:=by
 rw[ev,ev,ea,aD,ev,eb,aD,ev,ec,aD,ev];rfl
theorem RI:∀(cs:List Int) (c:Int),(c::cs)[cs.length]?=aB (eB c cs)
 |[],c=>rfl
 |x::r,c=>by
  rw[dh,i9];exact RI r x
theorem RJ{c:Int}:cy ((c::cs).map W.int) (-1)=aB (.int (eB c cs)):=by
 have e:iw ((c::cs).map W.int).length (-1)=aB cs.length:=by
  unfold iw;rw[if_neg (by decide),bV,dh,if_pos (by lia)];congr 1;lia
 unfold cy;rw[e,zz,nu,RI];rfl
noncomputable def Bd.door(B:Bd)(c:Int):W:=(B.dr[c.toNat]?).getD .aG
theorem Bd.Ok.door{B:Bd}(b:B.Ok){c:Int}(c0:0<=c)(c1:c<B.wd):cy B.dr c=aB (B.door c)/\RF.door (B.door c) B.fd.length=true:=by
 obtain⟨n,rfl⟩:=ly c0;have hd:=b.d1;have hn:n<B.dr.length:=by lia
 have e:B.dr[n]?=aB B.dr[n]:=jS hn;have e2:B.door n=B.dr[n]:=by
  unfold Bd.door;rw[rj,e];rfl
 rw[e2];exact⟨oz e,b.d2 _ (zw hn)⟩
noncomputable def outD(B:Bd)(ls:List Int)(f:Nat):W:=if(B.aS ls f).st then .tup [.aG,.aG]else B.door (eB (B.col f) (B.aS ls f).cs)
theorem Lm{ρ:En}(ea:ev cl a ρ h=.ok x h)(eb:ev cl b ρ h=.ok y h):ev cl (.tup (.cons a (.cons b .nil))) ρ h=.ok (.tup [x,y]) h:=by
 rw[ev,ev,ea,aD,ev,eb,aD,ev];rfl
theorem Ln{g:Int}(hl:(ls.length:Int)=g)(b:bQ ls):fK (iW ls) g g 0 1=true:=by
 unfold iW fK gp;simp only[bV,aY,gH,jZ];refine⟨⟨by lia,by lia⟩,λw hw=>?_⟩;obtain⟨x,hx,rfl⟩:=lu.mp hw;rcases b x hx with rfl|rfl<;>rfl
noncomputable def aJ(r:List Nat):List W:=r.map λ(f:Nat)=>W.int (f:Int)
noncomputable def zy6(w:W):W:=match w with|.tup [n,_]=>n|_=>.aG
noncomputable def nameP(B:Bd)(ls:List Int)(f:Nat):W:=zy6 (outD B ls f)
noncomputable def aQ(B:Bd):List Nat->List Int->List W×List Int|[],ls=>([],ls)|f::r,ls=>(nameP B ls f:: (aQ B r (B.aS ls f).ls).1,(aQ B r (B.aS ls f).ls).2)
theorem Ho{f:Nat}(b:B.Ok)(hf:f<B.fd.length)(hl:(ls.length:Int)=B.gr)(bi:bQ ls):∃y,outD B ls f=.tup [nameP B ls f,y]/\(nameP B ls f=.aG\/∃i:Int,nameP B ls f=.int i):=by
 unfold nameP outD;cases z:(B.aS ls f).st with
 |true=>exact⟨.aG,rfl,.inl rfl⟩
 |false=>
  have q:=b.aS hf hl bi;obtain⟨a1,a2⟩:=b.door q.c4.1 q.c4.2;obtain⟨a,y,e,_,_,_⟩:=Rw a2;refine⟨y,?_,.inr ⟨a,?_⟩⟩;rw[if_neg (by simp),e];rfl;rw[if_neg (by simp),e];rfl
theorem RK{f:Nat}(b:B.Ok)(hf:f<B.fd.length)(hl:(ls.length:Int)=B.gr)(bi:bQ ls)(n:Nat):W.lt n (nameP B ls f)=true:=by
 obtain⟨_,_,e|⟨i,e⟩⟩:=Ho b hf hl bi<;>rw[e]<;>simp
theorem wk(b:B.Ok):∀(r:List Nat) (ls:List Int),(∀f∈r,f<B.fd.length)->(ls.length:Int)=B.gr->bQ ls->(((aQ B r ls).2.length:Int)=B.gr/\bQ (aQ B r ls).2)/\(aQ B r ls).1.length=r.length/\∀w∈(aQ B r ls).1,w=.aG\/∃i:Int,w=.int i
 |[],ls,_,hl,bi=>⟨⟨hl,bi⟩,rfl,by simp[aQ]⟩
 |f::r,ls,hr,hl,bi=>by
  have hf:=hr f fy;have q:=b.aS hf hl bi;obtain⟨h1,h2,h3⟩:=wk b r (B.aS ls f).ls (λg hg=>hr g (eU _ hg)) (by rw[q.l1];exact hl) q.l2;refine⟨h1,by simp only[aQ,dh,h2],λw hw=>?_⟩;rcases gq.mp hw with rfl|hw
  obtain⟨_,_,e⟩:=Ho b hf hl bi;exact e;exact h3 w hw
structure yS(F:Nat->Option Fn):Prop where
 yT:F 173=aB eZ
 yU:F 174=aB kL
structure CoreY0(F:Nat->Option Fn):Prop where
 yT:F 173=aB eZ
 yU:F 174=aB kL
 Lo:F 175=aB vK
theorem wm{i:Nat}{ρ:En}(e:ρ[i]?=aB (aB x)):ev cl (.var i) ρ h=.ok x h:=by
 rw[ev,e];rfl
theorem Ek{ρ:En}(ea:ev cl a ρ h=.ok x h1)(eb:ev cl b ρ h1=.ok y h2)(e:aZ h2 x y=aB z):ev cl (.idx a b) ρ h=.ok z h2:=by
 rw[ev,ea,aD,eb,aD,e];rfl
theorem El{i:Nat}{ρ:En}(ea:ev cl a ρ h=.ok x h1):exs cl (.set i a) ρ h=.ok (.nx (ρ.set i (aB x))) h1:=by
 rw[exs,ea];rfl
theorem zov:aZ h (.tup (x::r)) (.int 0)=aB x:=oz (j:=0) (xs:=x::r) rfl
theorem Lp{i:Int}:dG h (.int i) .aG=aB false:=rfl
section
variable{F:Nat->Option Fn}(C:yS F)
include C
theorem zre{k:Nat}{h0:VH}{gs:List VO}{cs ts:List W}{c wd hd:Int}(hm:gf w c wd (ls.length:Int)) :
 run F (k+1) 173 [w,.int hd,.ref (h0.n+2),.aG] (st3 h0 gs cs ts (ls.map .int))=match cA w hd ls with
  |none=>.ok .aG (st3 h0 gs cs ts (ls.map .int))
  |some (d,_,l)=>.ok (.int d) (st3 h0 gs cs ts (l.map .int)):=by
 rw[cz C.yT rfl];rcases G2 hm with⟨rfl,h3,h4⟩|⟨rfl,h3⟩|⟨rfl,h3⟩|rfl|rfl|⟨p,q,rfl,h3,h4,h5,h6⟩
 rw[G3];simp[eZ,exs,ev,aV,cj];rw[G4];simp[eZ,exs,ev,aV,cj];rw[G5];simp[eZ,exs,ev,aV,cj];rw[G6];simp[eZ,exs,ev,aV,cj];rw[G7];simp[eZ,exs,ev,aV,cj];rw[G8];have hp:p<ls.length:=by lia
 have e1:=RE hp;have g:VH.get ⟨(st3 h0 gs cs ts (ls.map .int)).n,(st3 h0 gs cs ts (ls.map .int)).n,(st3 h0 gs cs ts (ls.map .int)).os⟩ (h0.n+2)=aB (.lst (ls.map .int)):=by rw[ck];exact qo
 have e2:iw (ls.map W.int).length (p:Int)=aB p:=RG (by rw[bV];exact hp);have e3:exs (run F k) eZ.body [aB (.tup [.int p,.int q]),aB (.int hd),aB (.ref (h0.n+2)),aB .aG,aC,aC,aC] ⟨(st3 h0 gs cs ts (ls.map .int)).n,(st3 h0 gs cs ts (ls.map .int)).n,(st3 h0 gs cs ts (ls.map .int)).os⟩=.ok (.rt (.int (if ls.getD p 0=q then -1 else 1))) (VH.set ⟨(st3 h0 gs cs ts (ls.map .int)).n,(st3 h0 gs cs ts (ls.map .int)).n,(st3 h0 gs cs ts (ls.map .int)).os⟩ (h0.n+2) (.lst ((ls.set p (1-ls.getD p 0)).map .int))):=by
  rw[List.map_set];generalize ls.getD p 0=y at e1 ⊢;by_cases z:y=(q:Int)
  simp only[eZ,exs,ev,bJ,aO,jn,ja,i9,jz,aT,aD,m5,gR,qj,fJ,kX,jT,aZ,g,e1,fk,fM,e2,aV,jt,Lp,vec,z,wH,bX];simp only[eZ,exs,ev,bJ,aO,jn,ja,i9,jz,aT,aD,m5,gR,qj,fJ,kX,jT,aZ,g,e1,fk,fM,e2,aV,jt,Lp,vec,z,decide_false,dg]
 show fin _ (exs (run F k) eZ.body [aB (.tup [.int p,.int q]),aB (.int hd),aB (.ref (h0.n+2)),aB .aG,aC,aC,aC] _)=_;rw[e3];exact zrd
theorem zu8{k:Nat}{h0:VH}{b l f:W}{c wd hd:Int}{y:Option W}(ok:(r.length:Int)=wd/\cH wd (ls.length:Int) 0 r)(c0:0<=c)(c1:c<wd)(hc:cs.length<=1000)(ht:ts.length<=1000) :
 exs (run F (k+1)) DL [aB b,aB l,aB f,aB .aG,aB (.int c),aB (.ref h0.n),aB (.ref (h0.n+1)),aB (.ref (h0.n+2)),aB (.int hd),aB (.tup r),y] (st3 h0 [] cs ts (ls.map .int))=match cA (bT r c) hd ls with
  |none=>.ok (.bk [aB b,aB l,aB f,aB .aG,aB (.int c),aB (.ref h0.n),aB (.ref (h0.n+1)),aB (.ref (h0.n+2)),aB .aG,aB (.tup r),aB (bT r c)]) (st3 h0 [] cs ts (ls.map .int))
  |some (d,t,l')=>.ok (.nx [aB b,aB l,aB f,aB .aG,aB (.int (c+d)),aB (.ref h0.n),aB (.ref (h0.n+1)),aB (.ref (h0.n+2)),aB (.int d),aB (.tup r),aB (bT r c)]) (st3 h0 [] (cs++[.int (c+d)]) (ts++t.map .int) (l'.map .int)):=by
 obtain⟨_,hm⟩:=Aq ok c0 c1;have e0:=RH ok c0 c1;generalize bT r c=w at hm e0 ⊢;have e1:=zre C (k:=k) (h0:=h0) (gs:=[]) (cs:=cs) (ts:=ts) (hd:=hd) hm;unfold DL;rw[aX (ρ':=[aB b,aB l,aB f,aB .aG,aB (.int c),aB (.ref h0.n),aB (.ref (h0.n+1)),aB (.ref (h0.n+2)),aB (.int hd),aB (.tup r),aB w]) (h':=st3 h0 [] cs ts (ls.map .int)) (El (Ek (x:=.tup r) (y:=.int c) (wm rfl) (wm rfl) e0))];have key:∀(d:Int)(l':List Int)(t:List Int),cA w hd ls=aB (d,t,l')->exs (run F (k+1)) (.seq (.ite (.and (.kZ (.rF .tuple (.var 10))) (.cmp .ne (.idx (.var 10) (.cst (.int (0)))) (.var 3))) (.seq (.expr (.mt .append (.var 6) (.cons (.idx (.var 10) (.cst (.int (0)))) .nil))) .skip) .skip) (.seq (.aug 4 .add (.var 8)) (.seq (.expr (.mt .append (.var 5) (.cons (.var 4) .nil))) .skip))) [aB b,aB l,aB f,aB .aG,aB (.int c),aB (.ref h0.n),aB (.ref (h0.n+1)),aB (.ref (h0.n+2)),aB (.int d),aB (.tup r),aB w] (st3 h0 [] cs ts (l'.map .int))=.ok (.nx [aB b,aB l,aB f,aB .aG,aB (.int (c+d)),aB (.ref h0.n),aB (.ref (h0.n+1)),aB (.ref (h0.n+2)),aB (.int d),aB (.tup r),aB w]) (st3 h0 [] (cs++[.int (c+d)]) (ts++t.map .int) (l'.map .int)):=by
  intro d l' t es;have fin:∀ts':List W,exs (run F (k+1)) (.seq (.aug 4 .add (.var 8)) (.seq (.expr (.mt .append (.var 5) (.cons (.var 4) .nil))) .skip)) [aB b,aB l,aB f,aB .aG,aB (.int c),aB (.ref h0.n),aB (.ref (h0.n+1)),aB (.ref (h0.n+2)),aB (.int d),aB (.tup r),aB w] (st3 h0 [] cs ts' (l'.map .int))=.ok (.nx [aB b,aB l,aB f,aB .aG,aB (.int (c+d)),aB (.ref h0.n),aB (.ref (h0.n+1)),aB (.ref (h0.n+2)),aB (.int d),aB (.tup r),aB w]) (st3 h0 [] (cs++[.int (c+d)]) ts' (l'.map .int)):=by
   intro ts';rw[aX (ρ':=[aB b,aB l,aB f,aB .aG,aB (.int (c+d)),aB (.ref h0.n),aB (.ref (h0.n+1)),aB (.ref (h0.n+2)),aB (.int d),aB (.tup r),aB w]) (h':=st3 h0 [] cs ts' (l'.map .int)) rfl];have ea:=Ao (cl:=run F (k+1)) (i:=5) (l:=h0.n) (x:=.var 4) (ρ:=[aB b,aB l,aB f,aB .aG,aB (.int (c+d)),aB (.ref h0.n),aB (.ref (h0.n+1)),aB (.ref (h0.n+2)),aB (.int d),aB (.tup r),aB w]) (h:=st3 h0 [] cs ts' (l'.map .int)) (h1:=st3 h0 [] cs ts' (l'.map .int)) (w:=.int (c+d)) (acc:=cs) (qm:=cs) rfl nY (by simp[ev]) nY (by lia);rw[RC]at ea;simp only[exs,ea,aD]
  rcases G2 hm with⟨rfl,h3,h4⟩|⟨rfl,h3⟩|⟨rfl,h3⟩|rfl|rfl|⟨p,q,rfl,h3,h4,h5,h6⟩;rw[G3]at es;cases es;rw[aX (ρ':=[aB b,aB l,aB f,aB .aG,aB (.int c),aB (.ref h0.n),aB (.ref (h0.n+1)),aB (.ref (h0.n+2)),aB (.int hd),aB (.tup r),aB (.str sX)]) (h':=st3 h0 [] cs ts (ls.map .int)) rfl,fin];simp;rw[G4]at es;cases es;rw[aX (ρ':=[aB b,aB l,aB f,aB .aG,aB (.int c),aB (.ref h0.n),aB (.ref (h0.n+1)),aB (.ref (h0.n+2)),aB (.int (-1)),aB (.tup r),aB (.str cJ)]) (h':=st3 h0 [] cs ts (ls.map .int)) rfl,fin];simp;rw[G5]at es;cases es;rw[aX (ρ':=[aB b,aB l,aB f,aB .aG,aB (.int c),aB (.ref h0.n),aB (.ref (h0.n+1)),aB (.ref (h0.n+2)),aB (.int 1),aB (.tup r),aB (.str cK)]) (h':=st3 h0 [] cs ts (ls.map .int)) rfl,fin];simp;rw[G6]at es;cases es;rw[aX (ρ':=[aB b,aB l,aB f,aB .aG,aB (.int c),aB (.ref h0.n),aB (.ref (h0.n+1)),aB (.ref (h0.n+2)),aB (.int 0),aB (.tup r),aB (.str aN)]) (h':=st3 h0 [] cs ts (ls.map .int)) rfl,fin];simp;rw[G7]at es;cases es;rw[G8]at es;cases es;have ea:=Ao (cl:=run F (k+1)) (i:=6) (l:=h0.n+1) (x:=.idx (.var 10) (.cst (.int 0))) (ρ:=[aB b,aB l,aB f,aB .aG,aB (.int c),aB (.ref h0.n),aB (.ref (h0.n+1)),aB (.ref (h0.n+2)),aB (.int (if ls.getD p 0=q then -1 else 1)),aB (.tup r),aB (.tup [.int p,.int q])]) (h:=st3 h0 [] cs ts ((ls.set p (1-ls.getD p 0)).map .int)) (h1:=st3 h0 [] cs ts ((ls.set p (1-ls.getD p 0)).map .int)) (w:=.int p) (acc:=ts) (qm:=ts) rfl nZ (by simp[ev,aZ];rfl) nZ (by lia);rw[RD]at ea;have eb:exs (run F (k+1)) (.ite (.and (.kZ (.rF .tuple (.var 10))) (.cmp .ne (.idx (.var 10) (.cst (.int (0)))) (.var 3))) (.seq (.expr (.mt .append (.var 6) (.cons (.idx (.var 10) (.cst (.int (0)))) .nil))) .skip) .skip) [aB b,aB l,aB f,aB .aG,aB (.int c),aB (.ref h0.n),aB (.ref (h0.n+1)),aB (.ref (h0.n+2)),aB (.int (if ls.getD p 0=q then -1 else 1)),aB (.tup r),aB (.tup [.int p,.int q])] (st3 h0 [] cs ts ((ls.set p (1-ls.getD p 0)).map .int))=.ok (.nx [aB b,aB l,aB f,aB .aG,aB (.int c),aB (.ref h0.n),aB (.ref (h0.n+1)),aB (.ref (h0.n+2)),aB (.int (if ls.getD p 0=q then -1 else 1)),aB (.tup r),aB (.tup [.int p,.int q])]) (st3 h0 [] cs (ts++[.int p]) ((ls.set p (1-ls.getD p 0)).map .int)):=by
   rw[exs];have e5:ev (run F (k+1)) (.and (.kZ (.rF .tuple (.var 10))) (.cmp .ne (.idx (.var 10) (.cst (.int (0)))) (.var 3))) [aB b,aB l,aB f,aB .aG,aB (.int c),aB (.ref h0.n),aB (.ref (h0.n+1)),aB (.ref (h0.n+2)),aB (.int (if ls.getD p 0=q then -1 else 1)),aB (.tup r),aB (.tup [.int p,.int q])] (st3 h0 [] cs ts ((ls.set p (1-ls.getD p 0)).map .int))=.ok (.bl true) (st3 h0 [] cs ts ((ls.set p (1-ls.getD p 0)).map .int)):=by simp[ev,zov,aV,Lp]
   rw[e5,aD];simp only[exs,ea,aD]
  rw[aX eb,fin];rfl
 cases es:cA w hd ls with
 |none=>
  rw[es]at e1;rw[aX (ρ':=[aB b,aB l,aB f,aB .aG,aB (.int c),aB (.ref h0.n),aB (.ref (h0.n+1)),aB (.ref (h0.n+2)),aB .aG,aB (.tup r),aB w]) (h':=st3 h0 [] cs ts (ls.map .int)) (by simp only[exs,ev,ja,i9,jz,aT,aD,e1,kX,jT])];exact Lk rfl
 |some q=>
  obtain⟨d,t,l'⟩:=q;rw[es]at e1;rw[aX (ρ':=[aB b,aB l,aB f,aB .aG,aB (.int c),aB (.ref h0.n),aB (.ref (h0.n+1)),aB (.ref (h0.n+2)),aB (.int d),aB (.tup r),aB w]) (h':=st3 h0 [] cs ts (l'.map .int)) (by simp only[exs,ev,ja,i9,jz,aT,aD,e1,kX,jT])];rw[aX (ρ':=[aB b,aB l,aB f,aB .aG,aB (.int c),aB (.ref h0.n),aB (.ref (h0.n+1)),aB (.ref (h0.n+2)),aB (.int d),aB (.tup r),aB w]) (h':=st3 h0 [] cs ts (l'.map .int)) rfl];exact key d l' t es
theorem RL{k:Nat}{h0:VH}{b l f:W}{wd:Int}:∀(rs:List (List W)) (c hd:Int) (cs ts:List W) (ls:List Int) (x y:Option W),Eb wd (ls.length:Int) rs->0<=c->c<wd->-1<=hd->hd<=1->bQ ls->cs.length+rs.length<=1000->ts.length+rs.length<=1000->
 ∃c' hd' x' y',forL (bJ (.one 9)) (exs (run F (k+1)) DL) (rs.map .tup) [aB b,aB l,aB f,aB .aG,aB (.int c),aB (.ref h0.n),aB (.ref (h0.n+1)),aB (.ref (h0.n+2)),aB (.int hd),x,y] (st3 h0 [] cs ts (ls.map .int)) =
  .ok (.nx [aB b,aB l,aB f,aB .aG,c',aB (.ref h0.n),aB (.ref (h0.n+1)),aB (.ref (h0.n+2)),hd',x',y']) (st3 h0 [] (cs++(aM rs c hd ls).cs.map .int) (ts++(aM rs c hd ls).ts.map .int) ((aM rs c hd ls).ls.map .int))
 |[],c,hd,cs,ts,ls,x,y,_,_,_,_,_,_,_,_=>⟨aB (.int c),aB (.int hd),x,y,by simp[forL,aM]⟩
 |r::rs,c,hd,cs,ts,ls,x,y,ok,c0,c1,h1,h2,bi,hc,ht=>by
  have hc':cs.length+rs.length+1<=1000:=by rw[dh]at hc;lia
  have ht':ts.length+rs.length+1<=1000:=by rw[dh]at ht;lia
  have eb:=zu8 C (k:=k) (h0:=h0) (b:=b) (l:=l) (f:=f) (hd:=hd) (cs:=cs) (ts:=ts) (y:=y) (ok r fy) c0 c1 (by lia) (by lia);obtain⟨_,hm⟩:=Aq (ok r fy) c0 c1;cases e:cA (bT r c) hd ls with
  |none=>
   rw[e]at eb;rw[RA e];refine⟨aB (.int c),aB .aG,aB (.tup r),aB (bT r c),?_⟩;simp only[cP,forL,bJ,kX,jT,eb,aD,uN,i7]
  |some q=>
   obtain⟨d,t,l'⟩:=q;rw[e]at eb;obtain⟨a1,a2,a3,a4,a5,a6,a7⟩:=Lg hm c0 c1 h1 h2 bi e;obtain⟨c',hd',x',y',ih⟩:=RL (k:=k) (h0:=h0) (b:=b) (l:=l) (f:=f) rs (c+d) d (cs++[.int (c+d)]) (ts++t.map .int) l' (aB (.tup r)) (aB (bT r c)) (λr hr=>by rw[a5];exact ok r (eU _ hr)) a3 a4 a1 a2 a6 (by simp only[gh,jA];lia) (by simp only[gh,bV];lia);rw[RB e];refine⟨c',hd',x',y',?_⟩;simp only[cP,forL,bJ,kX,jT,eb,aD,ih,qZ,zq,zm]
theorem zu9{k:Nat}{f:Nat}(b:B.Ok)(hf:f<B.fd.length)(hl:(ls.length:Int)=B.gr)(bi:bQ ls):run F (k+2) 174 [B.w,iW ls,.int f,.aG] h=.ok (n6 B ls f) h:=by
 rw[cz C.yU rfl];obtain⟨e0,c0,c1⟩:=b.col hf;have hr:=b.r1;obtain⟨c',hd',x',y',el⟩:=RL C (k:=k) (h0:=h) (b:=B.w) (l:=iW ls) (f:=.int f) B.rows (B.col f) 0 [.int (B.col f)] [] ls aC aC (b.rows hl) c0 c1 (by decide) (by decide) bi (by rw[jA];lia) (by rw[qY];lia);have e1:cy B.fd (f:Int)=aB (.int (B.col f)):=oz e0;have i3:cy [W.int B.wd,.int B.gr,.tup (B.rows.map .tup),.tup B.fd,.tup B.dr] 3=aB (.tup B.fd):=rfl;have i2:cy [W.int B.wd,.int B.gr,.tup (B.rows.map .tup),.tup B.fd,.tup B.dr] 2=aB (.tup (B.rows.map .tup)):=rfl;have hz:(B.rows.map W.tup).length<1000000:=by rw[bV];lia
 have eb:exs (run F (k+1)) kL.body [aB B.w,aB (iW ls),aB (.int f),aB .aG,aC,aC,aC,aC,aC,aC,aC] ⟨h.n,h.n,h.os⟩=.ok (.rt (n6 B ls f)) (st3 h [] (([.int (B.col f)]:List W)++(aM B.rows (B.col f) 0 ls).cs.map .int) (([]:List W)++(aM B.rows (B.col f) 0 ls).ts.map .int) ((aM B.rows (B.col f) 0 ls).ls.map .int)):=by
  show exs (run F (k+1)) (.seq _ _) _ _=_;rw[aX (ρ':=[aB B.w,aB (iW ls),aB (.int f),aB .aG,aB (.int (B.col f)),aC,aC,aC,aC,aC,aC]) (h':=⟨h.n,h.n,h.os⟩) (by unfold Bd.w;simp[exs,ev,aZ,i3,e1])];rw[aX (ρ':=[aB B.w,aB (iW ls),aB (.int f),aB .aG,aB (.int (B.col f)),aB (.ref h.n),aC,aC,aC,aC,aC]) (h':=VH.new ⟨h.n,h.n,h.os⟩ (.lst [.int (B.col f)])) (by simp[exs,ev])];rw[aX (ρ':=[aB B.w,aB (iW ls),aB (.int f),aB .aG,aB (.int (B.col f)),aB (.ref h.n),aB (.ref (h.n+1)),aC,aC,aC,aC]) (h':=VH.new (VH.new ⟨h.n,h.n,h.os⟩ (.lst [.int (B.col f)])) (.lst [])) (by simp[exs,ev,VH.new])];rw[aX (ρ':=[aB B.w,aB (iW ls),aB (.int f),aB .aG,aB (.int (B.col f)),aB (.ref h.n),aB (.ref (h.n+1)),aB (.ref (h.n+2)),aC,aC,aC]) (h':=st3 h [] [.int (B.col f)] [] (ls.map .int)) (by unfold iW;simp[exs,ev,VH.new,gV,gU,aO,st3])];rw[aX (ρ':=[aB B.w,aB (iW ls),aB (.int f),aB .aG,aB (.int (B.col f)),aB (.ref h.n),aB (.ref (h.n+1)),aB (.ref (h.n+2)),aB (.int 0),aC,aC]) (h':=st3 h [] [.int (B.col f)] [] (ls.map .int)) (by simp[exs,ev])];have ei:ev (run F (k+1)) (.idx (.var 0) (.cst (.int (2)))) [aB B.w,aB (iW ls),aB (.int f),aB .aG,aB (.int (B.col f)),aB (.ref h.n),aB (.ref (h.n+1)),aB (.ref (h.n+2)),aB (.int 0),aC,aC] (st3 h [] [.int (B.col f)] [] (ls.map .int))=.ok (.tup (B.rows.map .tup)) (st3 h [] [.int (B.col f)] [] (ls.map .int)):=by
   unfold Bd.w;simp[ev,aZ,i2]
  have ef:=v8 (tg:=bJ (.one 9)) (b:=exs (run F (k+1)) DL) (ρ:=[aB B.w,aB (iW ls),aB (.int f),aB .aG,aB (.int (B.col f)),aB (.ref h.n),aB (.ref (h.n+1)),aB (.ref (h.n+2)),aB (.int 0),aC,aC]) (h:=st3 h [] [.int (B.col f)] [] (ls.map .int)) hz;rw[el]at ef;refine(aX (by rw[exs,ei,aD,ef])).trans ?_;have et:=Ll (cl:=run F (k+1)) (wj (i:=5) (ρ:=[aB B.w,aB (iW ls),aB (.int f),aB .aG,c',aB (.ref h.n),aB (.ref (h.n+1)),aB (.ref (h.n+2)),hd',x',y']) rfl (nY (h:=h) (gs:=[]) (c:=([.int (B.col f)]:List W)++(aM B.rows (B.col f) 0 ls).cs.map .int) (t:=([]:List W)++(aM B.rows (B.col f) 0 ls).ts.map .int) (l:=(aM B.rows (B.col f) 0 ls).ls.map .int))) (wj (i:=6) rfl nZ) (wj (i:=7) rfl qo);simp only[exs,et,aD];rfl
 show fin h (exs (run F (k+1)) kL.body [aB B.w,aB (iW ls),aB (.int f),aB .aG,aC,aC,aC,aC,aC,aC,aC] ⟨h.n,h.n,h.os⟩)=_;rw[eb];exact cj (bq _) zu7
end
section
variable{F:Nat->Option Fn}(C:CoreY0 F)
include C
theorem zva{k:Nat}{f:Nat}(b:B.Ok)(hf:f<B.fd.length)(hl:(ls.length:Int)=B.gr)(bi:bQ ls):run F (k+2) 174 [B.w,iW ls,.int f,.aG] h=.ok (n6 B ls f) h:=zu9 ⟨C.yT,C.yU⟩ b hf hl bi
noncomputable def ia(B:Bd)(ls:List Int)(f:Nat):W:=if(B.aS ls f).st then .aG else .int (eB (B.col f) (B.aS ls f).cs)
theorem zlm{k:Nat}{f:Nat}(b:B.Ok)(hf:f<B.fd.length)(hl:(ls.length:Int)=B.gr)(bi:bQ ls):run F (k+3) 175 [B.w,iW ls,.int f,.aG] h=.ok (.tup [ia B ls f,iW (B.aS ls f).ls]) h:=by
 rw[cz C.Lo rfl];have e1:=zva C (k:=k) (h:=⟨h.n,h.n,h.os⟩) b hf hl bi;have q:=b.aS hf hl bi;have i2:cy [W.int B.wd,.int B.gr,.tup (B.rows.map .tup),.tup B.fd,.tup B.dr] 2=aB (.tup (B.rows.map .tup)):=rfl;have e2:exs (run F (k+2)) (.oA [4,5,6] (.call 174 (.cons (.var 0) (.cons (.var 1) (.cons (.var 2) (.cons (.var 3) .nil)))))) [aB B.w,aB (iW ls),aB (.int f),aB .aG,aC,aC,aC,aC] ⟨h.n,h.n,h.os⟩=.ok (.nx [aB B.w,aB (iW ls),aB (.int f),aB .aG,aB (iW (B.col f:: (B.aS ls f).cs)),aB (iW (B.aS ls f).ts),aB (iW (B.aS ls f).ls),aC]) ⟨h.n,h.n,h.os⟩:=by
  simp only[exs,ev,ja,i9,jz,aT,aD,e1,n6,bJ,aO,jn,kX,jT,gR]
 have e3:ev (run F (k+2)) (.cmp .gt (.bi .len (.cons (.var 4) .nil)) (.bi .len (.cons (.idx (.var 0) (.cst (.int (2)))) .nil))) [aB B.w,aB (iW ls),aB (.int f),aB .aG,aB (iW (B.col f:: (B.aS ls f).cs)),aB (iW (B.aS ls f).ts),aB (iW (B.aS ls f).ls),aC] ⟨h.n,h.n,h.os⟩=.ok (.bl (!(B.aS ls f).st)) ⟨h.n,h.n,h.os⟩:=by
  have:decide ((B.rows.length:Int)< ((B.aS ls f).cs.length:Int)+1)=!(B.aS ls f).st:=by
   cases z:(B.aS ls f).st with|true=>have:=q.c5 z;exact jP (by lia)|false=>have:=q.c3 z;exact uG (by lia)
  unfold Bd.w iW;simp[ev,gV,gz,aO,aZ,i2,aV,gm,this]
 have el:=RJ (cs:=(B.aS ls f).cs) (c:=B.col f);show fin h (exs (run F (k+2)) (.seq (.oA [4,5,6] (.call 174 (.cons (.var 0) (.cons (.var 1) (.cons (.var 2) (.cons (.var 3) .nil)))))) _) [aB B.w,aB (iW ls),aB (.int f),aB .aG,aC,aC,aC,aC] ⟨h.n,h.n,h.os⟩)=_;rw[aX e2];have e4:ev (run F (k+2)) (.idx (.var 4) (.neg (.cst (.int (1))))) [aB B.w,aB (iW ls),aB (.int f),aB .aG,aB (iW (B.col f:: (B.aS ls f).cs)),aB (iW (B.aS ls f).ts),aB (iW (B.aS ls f).ls),aC] ⟨h.n,h.n,h.os⟩=.ok (.int (eB (B.col f) (B.aS ls f).cs)) ⟨h.n,h.n,h.os⟩:=by
  unfold iW;simp only[ev,ja,i9,jz,aT,aD,aZ,el]
 have e5:exs (run F (k+2)) (.set 7 (.ite (.cmp .gt (.bi .len (.cons (.var 4) .nil)) (.bi .len (.cons (.idx (.var 0) (.cst (.int (2)))) .nil))) (.idx (.var 4) (.neg (.cst (.int (1))))) (.cst .aG))) [aB B.w,aB (iW ls),aB (.int f),aB .aG,aB (iW (B.col f:: (B.aS ls f).cs)),aB (iW (B.aS ls f).ts),aB (iW (B.aS ls f).ls),aC] ⟨h.n,h.n,h.os⟩=.ok (.nx [aB B.w,aB (iW ls),aB (.int f),aB .aG,aB (iW (B.col f:: (B.aS ls f).cs)),aB (iW (B.aS ls f).ts),aB (iW (B.aS ls f).ls),aB (ia B ls f)]) ⟨h.n,h.n,h.os⟩:=by
  unfold ia;rw[exs,ev,e3];cases z:(B.aS ls f).st with|true=>rfl|false=>simp only[vec,aD,e4];rfl
 rw[aX e5];simp only[exs];rw[Lm (x:=ia B ls f) (y:=iW (B.aS ls f).ls) rfl rfl];refine cj (bq _) ?_;unfold ia;split<;>simp[g9]
end
noncomputable def gG:List (Key×W):=[(.inr aN,.int 0),(.inr cJ,.int (-1)),(.inr cK,.int 1)]
theorem zow:Gk [] [(.inr aN,.int 0),(.inr cJ,.int (-1)),(.inr cK,.int 1)]=gG:=by rfl
theorem zvb:dH gG (.inr aN)=aB (.int 0):=by rfl
theorem zy7:dH gG (.inr cJ)=aB (.int (-1)):=by rfl
theorem zy8:dH gG (.inr cK)=aB (.int 1):=by rfl
theorem zy9{ρ:En}:ev cl tZ ρ h=.ok (.ref h.n) (h.new (.dk gG)):=by
 simp only[tZ,ev,aD,vg,xK];rw[if_pos (by decide)];show Res.ok _ (h.new (.dk (Gk [] _)))=_;rw[zow]
theorem RM{h:VH}{o:VO}:(h.new o).get h.n=aB o:=by
 unfold VH.get VH.new;rw[if_pos (fN.mpr (by show h.n<h.n+1;lia))];show(o::h.os)[h.n+1-1-h.n]?=_;rw[show h.n+1-1-h.n=0 by lia];rfl
theorem zza{cl:Call}{ρ:En}{h:VH}{x:Str}{d:Int}(lZ:ρ[8]?=aB (aB (.str x)))(e:dH gG (.inr x)=aB (.int d)):ev cl (.idx tZ (.var 8)) ρ h=.ok (.int d) (h.new (.dk gG)):=by
 rw[ev,zy9,aD,ev,lZ];show(Res.of (aZ (h.new (.dk gG)) (.ref h.n) (.str x)) (h.new (.dk gG)))=_;unfold aZ;simp only[RM,e];rfl
theorem Em{p q:Int}{x:Str}(hx:PyData.strOk x):dG h (.tup [.int p,.int q]) (.str x)=aB false:=by
 rw[yH (x:=x) rfl hx];rfl
noncomputable def qt(st:Bool):E:=.lst (.cons (.bi .tuple (.cons (.var 4) .nil)) (.cons (.bi .tuple (.cons (.var 5) .nil)) (.cons (.bi .tuple (.cons (.var 1) .nil)) (.cons (.cst (.bl st)) .nil))))
theorem RN{cl:Call}{st:Bool}{ρ:En}{gs:List VO}{cs ts ls:List W}(r4:ρ[4]?=aB (aB (.ref h0.n)))(r5:ρ[5]?=aB (aB (.ref (h0.n+1))))(r1:ρ[1]?=aB (aB (.ref (h0.n+2)))) :
 ev cl (qt st) ρ (st3 h0 gs cs ts ls)=.ok (.ref (h0.n+3+gs.length)) (st3 h0 (.lst [.tup cs,.tup ts,.tup ls,.bl st]::gs) cs ts ls):=by
 unfold qt;rw[ev,ev,wj r4 nY,aD,ev,wj r5 nZ,aD,ev,wj r1 qo,aD,ev,ev,aD,ev];simp only[aD];rw[if_pos (by rfl),Lh];rfl
theorem Eo{cl:Call}{h0:VH}{gs:List VO}{cs ts ls:List W}{b l f:W}{a r:W}{w:W}{c d:Int}(hc:cy cs (-1)=aB (.int c))(hl:cs.length<=1000000) :
 exs cl (.seq (.expr (.mt .append (.var 4) (.cons (.op .add (.idx (.var 4) (.neg (.cst (.int (1))))) (.var 6)) .nil))) .skip) [aB b,aB l,aB f,aB a,aB (.ref h0.n),aB (.ref (h0.n+1)),aB (.int d),aB r,aB w] (st3 h0 gs cs ts ls)=.ok (.nx [aB b,aB l,aB f,aB a,aB (.ref h0.n),aB (.ref (h0.n+1)),aB (.int d),aB r,aB w]) (st3 h0 gs (cs++[.int (c+d)]) ts ls):=by
 have g:=nY (h:=h0) (gs:=gs) (c:=cs) (t:=ts) (l:=ls);have ea:=Ao (cl:=cl) (i:=4) (l:=h0.n) (x:=.op .add (.idx (.var 4) (.neg (.cst (.int (1))))) (.var 6)) (ρ:=[aB b,aB l,aB f,aB a,aB (.ref h0.n),aB (.ref (h0.n+1)),aB (.int d),aB r,aB w]) (h:=st3 h0 gs cs ts ls) (h1:=st3 h0 gs cs ts ls) (w:=.int (c+d)) (acc:=cs) (qm:=cs) rfl g (by simp only[ev,ja,i9,jz,aT,aD,aZ,g,hc,fk,fM,gR]) g hl;rw[RC]at ea;simp only[exs,ea,aD]
theorem Lq{cl:Call}{h0:VH}{gs:List VO}{cs ts ls:List W}{b l f a r:W}{hd d:Int}{x:Str}(e1:(.str x:W)=.str aN\/(.str x:W)=.str cJ\/(.str x:W)=.str cK)(e:dH gG (.inr x)=aB (.int d)) :
 exs cl lV [aB b,aB l,aB f,aB a,aB (.ref h0.n),aB (.ref (h0.n+1)),aB (.int hd),aB r,aB (.str x)] (st3 h0 gs cs ts ls)=.ok (.nx [aB b,aB l,aB f,aB a,aB (.ref h0.n),aB (.ref (h0.n+1)),aB (.int d),aB r,aB (.str x)]) (st3 h0 (.dk gG::gs) cs ts ls):=by
 have ed:=zza (cl:=cl) (ρ:=[aB b,aB l,aB f,aB a,aB (.ref h0.n),aB (.ref (h0.n+1)),aB (.int hd),aB r,aB (.str x)]) (h:=st3 h0 gs cs ts ls) rfl e;rw[Lh]at ed;have ec:ev cl (.or (.cmp .eq (.var 8) (.cst (.str (bf ".")))) (.or (.cmp .eq (.var 8) (.cst (.str (bf "<")))) (.cmp .eq (.var 8) (.cst (.str (bf ">")))))) [aB b,aB l,aB f,aB a,aB (.ref h0.n),aB (.ref (h0.n+1)),aB (.int hd),aB r,aB (.str x)] (st3 h0 gs cs ts ls)=.ok (.bl true) (st3 h0 gs cs ts ls):=by
  rcases e1 with e1|e1|e1<;>rw[e1]<;>simp[ev,aV]
 unfold lV;rw[exs,ec,aD];simp only[exs,ed,aD,kX,jT]
theorem Ep{cl:Call}{h0:VH}{gs:List VO}{cs ts ls:List W}{b l f a r:W}{hd:Int} :
 exs cl lV [aB b,aB l,aB f,aB a,aB (.ref h0.n),aB (.ref (h0.n+1)),aB (.int hd),aB r,aB (.str sX)] (st3 h0 gs cs ts ls)=.ok (.nx [aB b,aB l,aB f,aB a,aB (.ref h0.n),aB (.ref (h0.n+1)),aB (.int hd),aB r,aB (.str sX)]) (st3 h0 gs cs ts ls):=by
 simp[lV,exs,ev,aV]
theorem zzb{cl:Call}{h0:VH}{gs:List VO}{cs ts:List W}{ls:List Int}{b f a r:W}{hd:Int}{p q:Nat}(hp:p<ls.length)(ht:ts.length<=1000000) :
 exs cl lV [aB b,aB (.ref (h0.n+2)),aB f,aB a,aB (.ref h0.n),aB (.ref (h0.n+1)),aB (.int hd),aB r,aB (.tup [.int p,.int q])] (st3 h0 gs cs ts (ls.map .int))=.ok (.nx [aB b,aB (.ref (h0.n+2)),aB f,aB a,aB (.ref h0.n),aB (.ref (h0.n+1)),aB (.int (if ls.getD p 0=q then -1 else 1)),aB r,aB (.tup [.int p,.int q])]) (st3 h0 gs cs (ts++[.int p]) ((ls.set p (1-ls.getD p 0)).map .int)):=by
 have e1:=RE hp;have e2:iw (ls.map W.int).length (p:Int)=aB p:=RG (by rw[bV];exact hp);have i0:cy [W.int p,.int q] 0=aB (.int p):=rfl;have i1:cy [W.int p,.int q] 1=aB (.int q):=rfl;have n1:∀h,dG h (.tup [.int (p:Int),.int (q:Int)]) (.str (bf "."))=aB false:=λh=>Em (by decide +kernel);have n2:∀h,dG h (.tup [.int (p:Int),.int (q:Int)]) (.str (bf "<"))=aB false:=λh=>Em (by decide +kernel);have n3:∀h,dG h (.tup [.int (p:Int),.int (q:Int)]) (.str (bf ">"))=aB false:=λh=>Em (by decide +kernel);have n4:∀h,dG h (.tup [.int (p:Int),.int (q:Int)]) (.str (bf "x"))=aB false:=λh=>Em (by decide +kernel);have g:=qo (h:=h0) (gs:=gs) (c:=cs) (t:=ts) (l:=ls.map .int);have s1:exs cl (.set 6 (.op .sub (.cst (.int (1))) (.op .mul (.cst (.int (2))) (.bi .int (.cons (.cmp .eq (.idx (.var 1) (.idx (.var 8) (.cst (.int (0))))) (.idx (.var 8) (.cst (.int (1))))) .nil))))) [aB b,aB (.ref (h0.n+2)),aB f,aB a,aB (.ref h0.n),aB (.ref (h0.n+1)),aB (.int hd),aB r,aB (.tup [.int p,.int q])] (st3 h0 gs cs ts (ls.map .int))=.ok (.nx [aB b,aB (.ref (h0.n+2)),aB f,aB a,aB (.ref h0.n),aB (.ref (h0.n+1)),aB (.int (if ls.getD p 0=q then -1 else 1)),aB r,aB (.tup [.int p,.int q])]) (st3 h0 gs cs ts (ls.map .int)):=by
  generalize ls.getD p 0=y at e1 ⊢;have sm:rG 2=true:=by decide
  by_cases z:y=(q:Int)
  simp only[exs,ev,ja,i9,jz,aT,aD,aZ,i0,i1,g,e1,aV,jt,z,wH,bX,gR,gV,jF,fk,fM,sm,Bool.true_or,kX,jT];rfl;simp only[exs,ev,ja,i9,jz,aT,aD,aZ,i0,i1,g,e1,aV,jt,z,decide_false,dg,gR,gV,jF,fk,fM,sm,Bool.true_or,kX,jT];rfl
 generalize hy:(if ls.getD p 0=(q:Int)then(-1:Int)else 1)=dd at s1 ⊢;have ea:=Ao (cl:=cl) (i:=5) (l:=h0.n+1) (x:=.idx (.var 8) (.cst (.int 0))) (ρ:=[aB b,aB (.ref (h0.n+2)),aB f,aB a,aB (.ref h0.n),aB (.ref (h0.n+1)),aB (.int dd),aB r,aB (.tup [.int p,.int q])]) (h:=st3 h0 gs cs ts (ls.map .int)) (h1:=st3 h0 gs cs ts (ls.map .int)) (w:=.int p) (acc:=ts) (qm:=ts) rfl nZ (by simp only[ev,ja,i9,jz,aT,aD,aZ,i0]) nZ ht;rw[RD]at ea;have g2:=qo (h:=h0) (gs:=gs) (c:=cs) (t:=ts++[.int p]) (l:=ls.map .int);have s3:exs cl (.put (.var 1) (.idx (.var 8) (.cst (.int (0)))) (.op .sub (.cst (.int (1))) (.idx (.var 1) (.idx (.var 8) (.cst (.int (0))))))) [aB b,aB (.ref (h0.n+2)),aB f,aB a,aB (.ref h0.n),aB (.ref (h0.n+1)),aB (.int dd),aB r,aB (.tup [.int p,.int q])] (st3 h0 gs cs (ts++[.int p]) (ls.map .int))=.ok (.nx [aB b,aB (.ref (h0.n+2)),aB f,aB a,aB (.ref h0.n),aB (.ref (h0.n+1)),aB (.int dd),aB r,aB (.tup [.int p,.int q])]) (st3 h0 gs cs (ts++[.int p]) ((ls.set p (1-ls.getD p 0)).map .int)):=by
  simp only[exs,ev,ja,i9,jz,aT,aD,aZ,i0,g2,e1,fk,fM,gR,e2,zu6,List.map_set]
 unfold lV;have ec:ev cl (.or (.cmp .eq (.var 8) (.cst (.str (bf ".")))) (.or (.cmp .eq (.var 8) (.cst (.str (bf "<")))) (.cmp .eq (.var 8) (.cst (.str (bf ">")))))) [aB b,aB (.ref (h0.n+2)),aB f,aB a,aB (.ref h0.n),aB (.ref (h0.n+1)),aB (.int hd),aB r,aB (.tup [.int p,.int q])] (st3 h0 gs cs ts (ls.map .int))=.ok (.bl false) (st3 h0 gs cs ts (ls.map .int)):=by
  simp[ev,aV,n1,n2,n3]
 have ed:ev cl (.cmp .ne (.var 8) (.cst (.str (bf "x")))) [aB b,aB (.ref (h0.n+2)),aB f,aB a,aB (.ref h0.n),aB (.ref (h0.n+1)),aB (.int hd),aB r,aB (.tup [.int p,.int q])] (st3 h0 gs cs ts (ls.map .int))=.ok (.bl true) (st3 h0 gs cs ts (ls.map .int)):=by
  simp[ev,aV,n4]
 rw[exs,ec,aD];simp only;have s0:exs cl (.ite (.cmp .ne (.var 8) (.cst (.str (bf "x")))) (.seq (.set 6 (.op .sub (.cst (.int (1))) (.op .mul (.cst (.int (2))) (.bi .int (.cons (.cmp .eq (.idx (.var 1) (.idx (.var 8) (.cst (.int (0))))) (.idx (.var 8) (.cst (.int (1))))) .nil))))) (.seq (.expr (.mt .append (.var 5) (.cons (.idx (.var 8) (.cst (.int (0)))) .nil))) (.seq (.put (.var 1) (.idx (.var 8) (.cst (.int (0)))) (.op .sub (.cst (.int (1))) (.idx (.var 1) (.idx (.var 8) (.cst (.int (0))))))) .skip))) .skip) [aB b,aB (.ref (h0.n+2)),aB f,aB a,aB (.ref h0.n),aB (.ref (h0.n+1)),aB (.int hd),aB r,aB (.tup [.int p,.int q])] (st3 h0 gs cs ts (ls.map .int))=.ok (.nx [aB b,aB (.ref (h0.n+2)),aB f,aB a,aB (.ref h0.n),aB (.ref (h0.n+1)),aB (.int dd),aB r,aB (.tup [.int p,.int q])]) (st3 h0 gs cs (ts++[.int p]) ((ls.set p (1-ls.getD p 0)).map .int)):=by
  rw[exs,ed,aD];simp only;rw[aX s1,aX (ρ':=[aB b,aB (.ref (h0.n+2)),aB f,aB a,aB (.ref h0.n),aB (.ref (h0.n+1)),aB (.int dd),aB r,aB (.tup [.int p,.int q])]) (h':=st3 h0 gs cs (ts++[.int p]) (ls.map .int)) (by rw[exs,ea,aD]),aX s3];rfl
 rw[aX s0];rfl
structure wo(F:Nat->Option Fn):Prop where
 f38:F 38=aB qg
theorem zln:Ai=.seq (.set 8 (.idx (.var 7) (.idx (.var 4) (.neg (.cst (.int (1))))))) (.seq (.ite (.cmp .eq (.var 8) sE) (.seq (.ret (qt true)) .skip) .skip) (.seq lV (.seq (.expr (.mt .append (.var 4) (.cons (.op .add (.idx (.var 4) (.neg (.cst (.int (1))))) (.var 6)) .nil))) .skip))):=rfl
theorem zvc:qg=⟨3,9,.seq (.set 3 (.idx (.idx (.var 0) (.cst (.int (3)))) (.var 2))) (.seq (.set 4 (.lst (.cons (.var 3) .nil))) (.seq (.set 5 (.lst .nil)) (.seq (.set 1 (.bi .list (.cons (.var 1) .nil))) (.seq (.set 6 (.cst (.int (0)))) (.seq (.«for» .seq (.idx (.var 0) (.cst (.int (2)))) (.one 7) Ai) (.seq (.ret (qt false)) .skip))))))⟩:=rfl
theorem zzc{cl:Call}{h0:VH}{gs:List VO}{b f a:W}{c wd hd:Int}{y:Option W}(ok:(r.length:Int)=wd/\cH wd (ls.length:Int) 0 r)(c0:0<=c)(c1:c<wd)(hc:cs.length<=1000)(ht:ts.length<=1000)(ic:cy cs (-1)=aB (.int c)) :
 ∃gs',exs cl Ai [aB b,aB (.ref (h0.n+2)),aB f,aB a,aB (.ref h0.n),aB (.ref (h0.n+1)),aB (.int hd),aB (.tup r),y] (st3 h0 gs cs ts (ls.map .int))=match cA (bT r c) hd ls with
  |none=>.ok (.rt (.ref (h0.n+3+gs.length))) (st3 h0 (.lst [.tup cs,.tup ts,iW ls,.bl true]::gs) cs ts (ls.map .int))
  |some (d,t,l')=>.ok (.nx [aB b,aB (.ref (h0.n+2)),aB f,aB a,aB (.ref h0.n),aB (.ref (h0.n+1)),aB (.int d),aB (.tup r),aB (bT r c)]) (st3 h0 gs' (cs++[.int (c+d)]) (ts++t.map .int) (l'.map .int)):=by
 obtain⟨_,hm⟩:=Aq ok c0 c1;have e0:=RH ok c0 c1;generalize bT r c=w at hm e0 ⊢;have g:=nY (h:=h0) (gs:=gs) (c:=cs) (t:=ts) (l:=ls.map .int);have s1:exs cl (.set 8 (.idx (.var 7) (.idx (.var 4) (.neg (.cst (.int (1))))))) [aB b,aB (.ref (h0.n+2)),aB f,aB a,aB (.ref h0.n),aB (.ref (h0.n+1)),aB (.int hd),aB (.tup r),y] (st3 h0 gs cs ts (ls.map .int))=.ok (.nx [aB b,aB (.ref (h0.n+2)),aB f,aB a,aB (.ref h0.n),aB (.ref (h0.n+1)),aB (.int hd),aB (.tup r),aB w]) (st3 h0 gs cs ts (ls.map .int)):=by
  simp only[exs,ev,ja,i9,jz,aT,aD,aZ,g,ic,e0,kX,jT]
 have no:∀_:Unit,dG (st3 h0 gs cs ts (ls.map .int)) w (.str sS)=aB false->exs cl (.ite (.cmp .eq (.var 8) sE) (.seq (.ret (qt true)) .skip) .skip) [aB b,aB (.ref (h0.n+2)),aB f,aB a,aB (.ref h0.n),aB (.ref (h0.n+1)),aB (.int hd),aB (.tup r),aB w] (st3 h0 gs cs ts (ls.map .int))=.ok (.nx [aB b,aB (.ref (h0.n+2)),aB f,aB a,aB (.ref h0.n),aB (.ref (h0.n+1)),aB (.int hd),aB (.tup r),aB w]) (st3 h0 gs cs ts (ls.map .int)):=by
  intro _ e;simp only[exs,ev,ja,i9,jz,aT,aD,aV,e,gR]
 rw[zln,aX s1];rcases G2 hm with⟨rfl,h3,h4⟩|⟨rfl,h3⟩|⟨rfl,h3⟩|rfl|rfl|⟨p,q,rfl,h3,h4,h5,h6⟩
 refine⟨gs,?_⟩;rw[G3,aX (no () yO),aX Ep,Eo ic (by lia)];simp;refine⟨.dk gG::gs,?_⟩;rw[G4,aX (no () uw),aX (Lq (.inr (.inl rfl)) zy7),Eo ic (by lia)];simp;refine⟨.dk gG::gs,?_⟩;rw[G5,aX (no () ux),aX (Lq (.inr (.inr rfl)) zy8),Eo ic (by lia)];simp;refine⟨.dk gG::gs,?_⟩;rw[G6,aX (no () qp),aX (Lq (.inl rfl) zvb),Eo ic (by lia)];simp;refine⟨gs,?_⟩;rw[G7];have ee:=RN (cl:=cl) (st:=true) (ρ:=[aB b,aB (.ref (h0.n+2)),aB f,aB a,aB (.ref h0.n),aB (.ref (h0.n+1)),aB (.int hd),aB (.tup r),aB (.str sS)]) (h0:=h0) (gs:=gs) (cs:=cs) (ts:=ts) (ls:=ls.map .int) rfl rfl rfl;refine dB ?_;have ec:ev cl (.cmp .eq (.var 8) sE) [aB b,aB (.ref (h0.n+2)),aB f,aB a,aB (.ref h0.n),aB (.ref (h0.n+1)),aB (.int hd),aB (.tup r),aB (.str sS)] (st3 h0 gs cs ts (ls.map .int))=.ok (.bl true) (st3 h0 gs cs ts (ls.map .int)):=by
  simp only[ev,ja,i9,jz,aT,aD,aV,yQ,gR]
 rw[exs,ec,aD];simp only[exs,ee,aD];rfl;refine⟨gs,?_⟩;rw[G8,aX (no () (Em (by decide +kernel))),aX (zzb (by lia) (by lia)),Eo ic (by lia)];rfl
theorem RO{cl:Call}{h0:VH}{b f a:W}{wd:Int}:∀(rs:List (List W)) (c hd:Int) (gs:List VO) (cs ts:List W) (ls:List Int) (x y:Option W),Eb wd (ls.length:Int) rs->0<=c->c<wd->-1<=hd->hd<=1->bQ ls->cs.length+rs.length<=1000->ts.length+rs.length<=1000->cy cs (-1)=aB (.int c)->
 ∃gs' hd' x' y',forL (bJ (.one 7)) (exs cl Ai) (rs.map .tup) [aB b,aB (.ref (h0.n+2)),aB f,aB a,aB (.ref h0.n),aB (.ref (h0.n+1)),aB (.int hd),x,y] (st3 h0 gs cs ts (ls.map .int)) =
  if(aM rs c hd ls).st then .ok (.rt (.ref (h0.n+3+gs'.length))) (st3 h0 (.lst [.tup (cs++(aM rs c hd ls).cs.map .int),.tup (ts++(aM rs c hd ls).ts.map .int),iW (aM rs c hd ls).ls,.bl true]::gs') (cs++(aM rs c hd ls).cs.map .int) (ts++(aM rs c hd ls).ts.map .int) ((aM rs c hd ls).ls.map .int))
  else .ok (.nx [aB b,aB (.ref (h0.n+2)),aB f,aB a,aB (.ref h0.n),aB (.ref (h0.n+1)),hd',x',y']) (st3 h0 gs' (cs++(aM rs c hd ls).cs.map .int) (ts++(aM rs c hd ls).ts.map .int) ((aM rs c hd ls).ls.map .int))
 |[],c,hd,gs,cs,ts,ls,x,y,_,_,_,_,_,_,_,_,_=>⟨gs,aB (.int hd),x,y,by simp[forL,aM]⟩
 |r::rs,c,hd,gs,cs,ts,ls,x,y,ok,c0,c1,h1,h2,bi,hc,ht,ic=>by
  have hc':cs.length+rs.length+1<=1000:=by rw[dh]at hc;lia
  have ht':ts.length+rs.length+1<=1000:=by rw[dh]at ht;lia
  obtain⟨gs1,eb⟩:=zzc (cl:=cl) (h0:=h0) (gs:=gs) (b:=b) (f:=f) (a:=a) (hd:=hd) (cs:=cs) (ts:=ts) (y:=y) (ok r fy) c0 c1 (by lia) (by lia) ic;obtain⟨_,hm⟩:=Aq (ok r fy) c0 c1;cases e:cA (bT r c) hd ls with
  |none=>
   rw[e]at eb;rw[RA e];refine⟨gs,aB (.int hd),x,y,?_⟩;simp only[cP,forL,bJ,kX,jT,eb,aD,uN,i7,bX]
  |some q=>
   obtain⟨d,t,l'⟩:=q;rw[e]at eb;obtain⟨a1,a2,a3,a4,a5,a6,a7⟩:=Lg hm c0 c1 h1 h2 bi e;obtain⟨gs',hd',x',y',ih⟩:=RO (cl:=cl) (h0:=h0) (b:=b) (f:=f) (a:=a) rs (c+d) d gs1 (cs++[.int (c+d)]) (ts++t.map .int) l' (aB (.tup r)) (aB (bT r c)) (λr hr=>by rw[a5];exact ok r (eU _ hr)) a3 a4 a1 a2 a6 (by simp only[gh,jA];lia) (by simp only[gh,bV];lia) (U3 _ _);rw[RB e];refine⟨gs',hd',x',y',?_⟩;simp only[cP,forL,bJ,kX,jT,eb,aD,ih,qZ,zq,zm]
theorem zzd{i:Nat}(hi:i<h.n):(st3 h gs c t l).get i=h.get i:=by
 unfold st3 VH.get;rw[if_pos (fN.mpr (by show i<h.n+3+gs.length;lia)),if_pos (fN.mpr hi)];show(gs++(.lst l :: .lst t :: .lst c::h.os))[h.n+3+gs.length-1-i]?=_;rw[oJ (by lia),show h.n+3+gs.length-1-i-gs.length=(h.n-1-i)+3 by lia];rfl
theorem zze:(st3 h (o::gs) c t l).get (h.n+3+gs.length)=aB o:=by
 rw[<-Lh];exact RM
section
variable{F:Nat->Option Fn}(C:wo F)
include C
theorem zrf{k:Nat}{h:VH}{B:Bd}{ls:List Int}{f:Nat}{c:Int}(hlo:h.lo<=h.n)(hf:B.fd[f]?=aB (.int c))(c0:0<=c)(c1:c<B.wd)(hr:Eb B.wd (ls.length:Int) B.rows)(Le:B.rows.length<=60)(bi:bQ ls) :
 ∃i h',run F (k+1) 38 [B.w,iW ls,.int f] h=.ok (.ref i) h'/\h'.get i=aB (.lst [iW (c:: (aM B.rows c 0 ls).cs),iW (aM B.rows c 0 ls).ts,iW (aM B.rows c 0 ls).ls,.bl (aM B.rows c 0 ls).st])/\Gw h h':=by
 rw[cz C.f38 rfl];have e1:cy B.fd (f:Int)=aB (.int c):=oz hf;have i3:cy [W.int B.wd,.int B.gr,.tup (B.rows.map .tup),.tup B.fd,.tup B.dr] 3=aB (.tup B.fd):=rfl;have i2:cy [W.int B.wd,.int B.gr,.tup (B.rows.map .tup),.tup B.fd,.tup B.dr] 2=aB (.tup (B.rows.map .tup)):=rfl;have hz:(B.rows.map W.tup).length<1000000:=by rw[bV];lia
 obtain⟨gs,hd',x',y',el⟩:=RO (cl:=run F k) (h0:=h) (b:=B.w) (f:=.int f) (a:=.int c) B.rows c 0 [] [.int c] [] ls aC aC hr c0 c1 (by decide) (by decide) bi (by rw[jA];lia) (by rw[qY];lia) rfl;have key:exs (run F k) qg.body [aB B.w,aB (iW ls),aB (.int f),aC,aC,aC,aC,aC,aC] ⟨h.n,h.n,h.os⟩=.ok (.rt (.ref (h.n+3+gs.length))) (st3 h (.lst [iW (c:: (aM B.rows c 0 ls).cs),iW (aM B.rows c 0 ls).ts,iW (aM B.rows c 0 ls).ls,.bl (aM B.rows c 0 ls).st]::gs) (([.int c]:List W)++(aM B.rows c 0 ls).cs.map .int) (([]:List W)++(aM B.rows c 0 ls).ts.map .int) ((aM B.rows c 0 ls).ls.map .int)):=by
  rw[zvc];show exs (run F k) (.seq _ _) _ _=_;rw[aX (ρ':=[aB B.w,aB (iW ls),aB (.int f),aB (.int c),aC,aC,aC,aC,aC]) (h':=⟨h.n,h.n,h.os⟩) (by unfold Bd.w;simp[exs,ev,aZ,i3,e1])];rw[aX (ρ':=[aB B.w,aB (iW ls),aB (.int f),aB (.int c),aB (.ref h.n),aC,aC,aC,aC]) (h':=VH.new ⟨h.n,h.n,h.os⟩ (.lst [.int c])) (by simp[exs,ev])];rw[aX (ρ':=[aB B.w,aB (iW ls),aB (.int f),aB (.int c),aB (.ref h.n),aB (.ref (h.n+1)),aC,aC,aC]) (h':=VH.new (VH.new ⟨h.n,h.n,h.os⟩ (.lst [.int c])) (.lst [])) (by simp[exs,ev,VH.new])];rw[aX (ρ':=[aB B.w,aB (.ref (h.n+2)),aB (.int f),aB (.int c),aB (.ref h.n),aB (.ref (h.n+1)),aC,aC,aC]) (h':=st3 h [] [.int c] [] (ls.map .int)) (by unfold iW;simp[exs,ev,VH.new,gV,gU,aO,st3])];rw[aX (ρ':=[aB B.w,aB (.ref (h.n+2)),aB (.int f),aB (.int c),aB (.ref h.n),aB (.ref (h.n+1)),aB (.int 0),aC,aC]) (h':=st3 h [] [.int c] [] (ls.map .int)) (by simp[exs,ev])];have ei:ev (run F k) (.idx (.var 0) (.cst (.int (2)))) [aB B.w,aB (.ref (h.n+2)),aB (.int f),aB (.int c),aB (.ref h.n),aB (.ref (h.n+1)),aB (.int 0),aC,aC] (st3 h [] [.int c] [] (ls.map .int))=.ok (.tup (B.rows.map .tup)) (st3 h [] [.int c] [] (ls.map .int)):=by
   unfold Bd.w;simp[ev,aZ,i2]
  have ef:=v8 (tg:=bJ (.one 7)) (b:=exs (run F k) Ai) (ρ:=[aB B.w,aB (.ref (h.n+2)),aB (.int f),aB (.int c),aB (.ref h.n),aB (.ref (h.n+1)),aB (.int 0),aC,aC]) (h:=st3 h [] [.int c] [] (ls.map .int)) hz;rw[el]at ef;cases z:(aM B.rows c 0 ls).st with
  |true=>
   rw[z]at ef;refine(dB (by rw[exs,ei,aD,ef];rfl)).trans ?_;rfl
  |false=>
   rw[z]at ef;refine(aX (by rw[exs,ei,aD,ef];rfl)).trans ?_;have ee:=RN (cl:=run F k) (st:=false) (ρ:=[aB B.w,aB (.ref (h.n+2)),aB (.int f),aB (.int c),aB (.ref h.n),aB (.ref (h.n+1)),hd',x',y']) (h0:=h) (gs:=gs) (cs:=([.int c]:List W)++(aM B.rows c 0 ls).cs.map .int) (ts:=([]:List W)++(aM B.rows c 0 ls).ts.map .int) (ls:=(aM B.rows c 0 ls).ls.map .int) rfl rfl rfl;simp only[exs,ee,aD];rfl
 show ∃i h',fin h (exs (run F k) qg.body [aB B.w,aB (iW ls),aB (.int f),aC,aC,aC,aC,aC,aC] ⟨h.n,h.n,h.os⟩)=.ok (.ref i) h'/\_/\_;rw[key];generalize (([.int c]:List W)++(aM B.rows c 0 ls).cs.map .int)=Es;generalize (([]:List W)++(aM B.rows c 0 ls).ts.map .int)=t1';generalize ((aM B.rows c 0 ls).ls.map W.int)=Lr;generalize W.bl (aM B.rows c 0 ls).st=s1';refine⟨h.n+3+gs.length,⟨h.n+3+ (gs.length+1),h.lo,(.lst [iW (c:: (aM B.rows c 0 ls).cs),iW (aM B.rows c 0 ls).ts,iW (aM B.rows c 0 ls).ls,s1']::gs)++(.lst Lr :: .lst t1' :: .lst Es::h.os)⟩,?_,?_,?_,rfl,?_⟩;show leave _ _ _=_;unfold leave;rw[if_neg (by rw[W.lt,G9 (by lia)];simp)];show Res.ok _ ⟨_,if Nat.ble h.lo h.n then h.lo else h.n,_⟩=_;rw[if_pos (rW.mpr hlo)];rfl;exact(ck (h:=st3 h (.lst [iW (c:: (aM B.rows c 0 ls).cs),iW (aM B.rows c 0 ls).ts,iW (aM B.rows c 0 ls).ls,s1']::gs) Es t1' Lr)).trans zze;show h.n<=h.n+3+ (gs.length+1);lia;intro i o e;exact((ck (h:=st3 h (.lst [iW (c:: (aM B.rows c 0 ls).cs),iW (aM B.rows c 0 ls).ts,iW (aM B.rows c 0 ls).ls,s1']::gs) Es t1' Lr)).trans (zzd (fV e))).trans e
end
theorem RP{n:Nat}:∀{ws:List W},(∀w∈ws,W.lt n w=true)->W.jU n ws=true|[],_=>by simp|w::r,h=>by rw[bK,h w fy,RP λw hw=>h w (eU _ hw)];rfl
section
variable{F:Nat->Option Fn}(C:CoreD F)
include C
theorem RQ{k:Nat}:∀(ns:List Int) (x:Option W) (h:VH),∃cells:List Int,kP (bJ (.one 0)) (ev (run F k) vI) (ev (run F k) vJ) (ns.map .int) [x] h=.ok (cells.map .int) h/\(∀y∈cells,(0:Int)<=y)/\cells.length<=ns.length
 |[],x,h=>⟨[],rfl,(λy hy=>by cases hy),bq _⟩
 |n::ns,x,h=>by
  obtain⟨cells,e,h1,h2⟩:=RQ (k:=k) ns (aB (.int n)) h;have Oj:((10:Int).natAbs<2 ^ 64):=by decide
  have ec:ev (run F k) vI [aB (.int n)] h=.ok (.bl (decide (1000000000000000000<=(n.natAbs:Int)))) h:=by
   simp[vI,ev,gV,lM,fk,fM,aV,gm,Lf]
  have ee:ev (run F k) vJ [aB (.int n)] h=.ok (.int (n.natAbs:Int)) h:=by
   simp[vJ,ev,gV,lM,Lf]
  by_cases q:1000000000000000000<=(n.natAbs:Int)
  refine⟨(n.natAbs:Int)::cells,?_,λy hy=>?_,by rw[dh,dh];lia⟩;simp only[kP,cP,bJ,List.set,ec,aD,q,wH,ee,e];rcases gq.mp hy with rfl|hy
  lia;exact h1 y hy;refine⟨cells,?_,h1,by rw[dh];lia⟩;simp only[kP,cP,bJ,List.set,ec,aD,q,decide_false,e]
theorem Ls{k:Nat}{h:VH}{ns:List Int}(hl:ns.length<=63):∃h',run F (k+1) 3 [.fz (ns.map .int)] h=.ok (.ref (h.n+1)) h'/\Dk h' (h.n+1) h.n 0:=by
 rw[cz C.f3 rfl];obtain⟨cells,e,h1,h2⟩:=RQ C (k:=k) ns aC ⟨h.n,h.n,h.os⟩;have l:=GZ (nx:=bZ .seq (.fz (ns.map .int))) (tg:=bJ (.one 0)) (c:=ev (run F k) vI) (e:=ev (run F k) vJ) (ws:=ns.map .int) (λi h=>rfl) fuel 0 [aC] ⟨h.n,h.n,h.os⟩ [] (i8 _) (by rw[bV];unfold fuel;lia);rw[Fq,e]at l;have l:iN (bZ .seq (.fz (ns.map .int))) (bJ (.one 0)) (ev (run F k) vI) (ev (run F k) vJ) fuel 0 [aC] ⟨h.n,h.n,h.os⟩ []=.ok (cells.map .int) ⟨h.n,h.n,h.os⟩:=l;have q:ev (run F k) (.lc .seq (.var 0) (.one 0) 1 [] vI vJ) [aB (.fz (ns.map .int))] ⟨h.n,h.n,h.os⟩=.ok (.ref h.n) (VH.new ⟨h.n,h.n,h.os⟩ (.lst (cells.map .int))):=by
  rw[ev];have:ev (run F k) (.var 0) [aB (.fz (ns.map .int))] ⟨h.n,h.n,h.os⟩=.ok (.fz (ns.map .int)) ⟨h.n,h.n,h.os⟩:=rfl;rw[this,aD];show(iN (bZ .seq (.fz (ns.map .int))) (bJ (.one 0)) (ev (run F k) vI) (ev (run F k) vJ) fuel 0 [aC] ⟨h.n,h.n,h.os⟩ []).bind _=_;rw[l,aD,if_pos (yM (by rw[bV];lia))]
 let ju:VH:=VH.new ⟨h.n,h.n,h.os⟩ (.lst (cells.map .int));let o:VO:=.lst [.fz (ns.map .int),.ref h.n,.int 0,.int 0];have eb:exs (run F k) DG.body [aB (.fz (ns.map .int))] ⟨h.n,h.n,h.os⟩=.ok (.rt (.ref (h.n+1))) (ju.new o):=by
  simp only[DG,exs,ev,aD,aT,jz,ja]at q ⊢;rw[q];rfl
 refine⟨⟨h.n+2,if Nat.ble h.lo h.n then h.lo else h.n,(ju.new o).os⟩,?_,?_⟩;show fin h (exs (run F k) DG.body [aB (.fz (ns.map .int))] ⟨h.n,h.n,h.os⟩)=_;rw[eb];show leave h (.ref (h.n+1)) (ju.new o)=_;unfold leave;rw[if_neg (by
  rw[aY];intro z;have:=z.2;simp only[W.lt]at this;have:=fN.mp this;lia)]
 rfl;refine⟨by lia,ns,cells,0,0,?_,?_,h1,by lia,by lia,by lia,by lia⟩;show VH.get ⟨(ju.new o).n,_,(ju.new o).os⟩ (h.n+1)=_;rw[ck];exact gW (h:=ju);show VH.get ⟨(ju.new o).n,_,(ju.new o).os⟩ h.n=_;rw[ck,jV (h:=ju) (by show h.n<h.n+1;lia)];exact gW (h:=⟨h.n,h.n,h.os⟩)
end
theorem l8{ρ:En}{r:Res W}(ea:ev cl a ρ h=.ok x h1)(eb:ev cl b ρ h1=.ok y h2)(e:fk o x y h2=r):ev cl (.op o a b) ρ h=r:=by
 rw[ev,ea,aD,eb,aD,e]
theorem dz{ρ:En}(ea:ev cl a ρ h=.ok x h1):exs cl (.ret a) ρ h=.ok (.rt x) h1:=by
 rw[exs,ea,aD]
theorem dR{i:Nat}{ρ:En}(ea:ev cl a ρ h=.ok x h1):exs cl (.set i a) ρ h=.ok (.nx (ρ.set i (aB x))) h1:=by
 rw[exs,ea,aD]
theorem aF{i:Nat}{ρ:En}(e:ρ[i]?=aB (aB x)):ev cl (.var i) ρ h=.ok x h:=by
 rw[ev,e];rfl
theorem cN{ρ:En}(ea:ev cl a ρ h=.ok x h1)(eb:ev cl b ρ h1=.ok y h2)(e:aZ h2 x y=aB z):ev cl (.idx a b) ρ h=.ok z h2:=by
 rw[ev,ea,aD,eb,aD,e];rfl
theorem jO{ρ:En}(ea:ev cl a ρ h=.ok x h1)(e:aO h1 x=aB ws):ev cl (.bi .len (.cons a .nil)) ρ h=.ok (.int ws.length) h1:=by
 rw[ev,ev,ea,aD,ev,aD];show gz [x] h1=_;simp only[gz,e,aT]
theorem Aw{ρ:En}{n:Nat}(ea:ev cl a ρ h=.ok x h1)(e:cl n [x] h1=.ok w h'):ev cl (.call n (.cons a .nil)) ρ h=.ok w h':=by
 rw[ev,ev,ea,aD,ev];exact e
theorem qw{ρ:En}{n:Nat}(ea:ev cl a ρ h=.ok x h1)(eb:ev cl b ρ h1=.ok y h2)(e:cl n [x,y] h2=.ok w h'):ev cl (.call n (.cons a (.cons b .nil))) ρ h=.ok w h':=by
 rw[ev,ev,ea,aD,ev,eb,aD,ev];exact e
theorem qx{ρ:En}{n:Nat}(ea:ev cl a ρ h=.ok x h1)(eb:ev cl b ρ h1=.ok y h2)(ec:ev cl c ρ h2=.ok z h3)(e:cl n [x,y,z] h3=.ok w h'):ev cl (.call n (.cons a (.cons b (.cons c .nil)))) ρ h=.ok w h':=by
 rw[ev,ev,ea,aD,ev,eb,aD,ev,ec,aD,ev];exact e
theorem Hq{ρ:En}{n:Nat}(ea:ev cl a ρ h=.ok x h1)(eb:ev cl b ρ h1=.ok y h2)(ec:ev cl c ρ h2=.ok z h3)(ed:ev cl d ρ h3=.ok u h4)(e:cl n [x,y,z,u] h4=.ok w h'):ev cl (.call n (.cons a (.cons b (.cons c (.cons d .nil))))) ρ h=.ok w h':=by
 rw[ev,ev,ea,aD,ev,eb,aD,ev,ec,aD,ev,ed,aD,ev];exact e
theorem qy{ρ:En}(ea:ev cl a ρ h=.ok x h1)(eb:ev cl b ρ h1=.ok y h2):ev cl (.tup (.cons a (.cons b .nil))) ρ h=.ok (.tup [x,y]) h2:=by
 rw[ev,ev,ea,aD,ev,eb,aD,ev];rfl
noncomputable def n9:Option Nat->W|none=>.aG|some f=>.int f
noncomputable def qz(B:Bd)(ls:List Int)(f:Nat):Option Nat:=match outD B ls f with|.tup [_,.int i]=>aB i.toNat|_=>aC
theorem RS{f:Nat}(b:B.Ok)(hf:f<B.fd.length)(hl:(ls.length:Int)=B.gr)(bi:bQ ls):outD B ls f=.tup [nameP B ls f,n9 (qz B ls f)]/\∀g,qz B ls f=aB g->g<B.fd.length:=by
 have q:=b.aS hf hl bi;unfold qz nameP;by_cases z:(B.aS ls f).st=true;have:outD B ls f=.tup [.aG,.aG]:=by unfold outD;rw[if_pos z]
 rw[this];exact⟨rfl,λg h=>by cases h⟩;have e:outD B ls f=B.door (eB (B.col f) (B.aS ls f).cs):=by unfold outD;rw[if_neg z]
 obtain⟨_,d2⟩:=b.door q.c4.1 q.c4.2;obtain⟨x,y,de,_,_,hy⟩:=Rw d2;rw[e,de];rcases hy with rfl|⟨i,rfl,i0,i1⟩;exact⟨rfl,λg h=>by cases h⟩;refine⟨?_,λg h=>?_⟩;show W.tup [.int x,.int i]=.tup [.int x,.int (i.toNat:Int)];rw[Int.toNat_of_nonneg i0];have h:aB i.toNat=aB g:=h;cases h;lia
theorem RT(n:Nat)(h:∀w∈ws,w=.aG\/∃i:Int,w=.int i):W.jU n ws=true:=RP λw hw=>by
 rcases h w hw with rfl|⟨i,rfl⟩<;>simp
theorem RU{n:Nat}{fo:Option Nat}:W.lt n (n9 fo)=true:=by cases fo<;>simp[n9]
theorem l9{lo:E}{bl bh:Bool}{ρ:En}{l' u':Option Int}(ea:ev cl a ρ h=.ok x h1)(el:ev cl lo ρ h1=.ok l h2)(eu:ev cl hi ρ h2=.ok u h3)(pl:fD bl l=aB l')(pu:fD bh u=aB u')(e:lK x l' u' h3=.ok w h4):ev cl (.slc a bl lo bh hi) ρ h=.ok w h4:=by
 rw[ev,ea,aD,el,aD,eu,aD,pl,pu];exact e
theorem fO{ρ:En}(e:ev cl c ρ h=.ok (.bl false) h1):exs cl (.ite c a b) ρ h=exs cl b ρ h1:=by
 rw[exs,e];rfl
theorem oh{ρ:En}(e:ev cl c ρ h=.ok (.bl true) h1):exs cl (.ite c a b) ρ h=exs cl a ρ h1:=by
 rw[exs,e];rfl
theorem yV{ρ:En}{b:Bool}(e:ev cl a ρ h=.ok (.bl b) h1):ev cl (.kZ a) ρ h=.ok (.bl b) h1:=by
 rw[ev,e,aD];rfl
theorem wu{ρ:En}(ea:ev cl a ρ h=.ok x h1):exs cl (.expr a) ρ h=.ok (.nx ρ) h1:=by
 rw[exs,ea,aD]
theorem zrg{n:Nat}:jh (n+2) (iW ls)=true:=by
 unfold iW;rw[La,jZ];intro w hw;obtain⟨x,_,rfl⟩:=lu.mp hw;rfl
theorem RV{P:Int->Prop}:∀{ws:List W},(∀w∈ws,∃x:Int,w=.int x/\P x)->∃xs:List Int,ws=xs.map .int/\∀x∈xs,P x
 |[],_=>⟨[],rfl,by simp⟩
 |w::r,h=>by
  obtain⟨x,rfl,hx⟩:=h w fy;obtain⟨xs,rfl,hs⟩:=RV λw hw=>h w (eU _ hw);refine⟨x::xs,rfl,λy hy=>?_⟩;rcases gq.mp hy with rfl|hy;exact hx;exact hs y hy
theorem Hr{P:Nat->Prop}:∀{ws:List W},(∀w∈ws,∃x:Nat,w=.int x/\P x)->∃xs:List Nat,ws=aJ xs/\∀x∈xs,P x
 |[],_=>⟨[],rfl,by simp⟩
 |w::r,h=>by
  obtain⟨x,rfl,hx⟩:=h w fy;obtain⟨xs,rfl,hs⟩:=Hr λw hw=>h w (eU _ hw);refine⟨x::xs,rfl,λy hy=>?_⟩;rcases gq.mp hy with rfl|hy;exact hx;exact hs y hy
section
variable{F:Nat->Option Fn}(C:CoreD F)
include C
theorem zju{k:Nat}{d c b g:Nat}(Lu:F 20=aB qd)(D:Dk h d c b)(hb:b+10<1000000000)(hg:g<=8) :
 ∃ls h',run F (k+4) 20 [.ref d,.int g] h=.ok (iW ls) h'/\ls.length=g/\bQ ls/\Dk h' d c (b+10)/\bP h h' d c:=by
 rw[cz Lu rfl];have D0:Dk ⟨h.n,h.n,h.os⟩ d c b:=D.lo;obtain⟨ws,h2,e2,p2,l2,D2,K2⟩:=yL (cl:=run F (k+3)) (P:=λ_ w=>∃x:Int,w=.int x/\(x=0\/x=1)) (e:=GV) (tl:=[aB (.ref d)]) (m:=1) (lim:=g) (λi h b h0 hl D hb=>by
  obtain⟨r,h',e,r0,r1,D',K'⟩:=take C (k:=k) (m:=2) D (by lia) (by decide) (by decide);exact⟨.int r,h',by simp[GV,ev,e],⟨r,rfl,by lia⟩,D',K'⟩) g 0 aC ⟨h.n,h.n,h.os⟩ b (by lia) (by lia) D0 (by lia)
 obtain⟨ls,rfl,Et⟩:=RV (Am p2);have e3:=D9 (cl:=run F (k+3)) (a:=.cons (.var 1) .nil) (ρ:=[aB (.ref d),aB (.int g)]) (h:=⟨h.n,h.n,h.os⟩) (ow:=1) (ix:=[0]) (e:=GV) (by simp[ev]) (by lia) e2 (by rw[l2];lia);obtain⟨h5,e5,D5,K5⟩:=Al (cl:=run F (k+3)) (fl:=.nx []) (w:=iW ls) (body:=qd.body) (ρ:=[aB (.ref d),aB (.int g)]) (F:=F) (k:=k+3) (h:=h) (h':=h2.new (.lst (ls.map .int))) (by simp only[qd,exs,e3,aD];rfl) (.inr ⟨b,D⟩) (D2.new.mono (show _<=b+10 by lia)) K2.new;exact⟨ls,h5,e5,by rw[bV]at l2;exact l2,Et,D5,K5⟩
end
theorem eqT{ρ:En}(ea:ev cl a ρ h=.ok w h1)(eb:ev cl b ρ h1=.ok w h2)(p:jh 24 w):ev cl (.cmp .eq a b) ρ h=.ok (.bl true) h2:=by
 rw[ev,ea,aD,eb,aD];simp only[aV,Q2 p,gR,aT]
theorem Eu{ρ:En}(ea:ev cl a ρ h=.ok w h1)(eb:ev cl b ρ h1=.ok w h2)(p:jh 24 w):ev cl (.cmp .ne a b) ρ h=.ok (.bl false) h2:=by
 rw[ev,ea,aD,eb,aD];simp only[aV,Q2 p,gR,aT,k9]
theorem gn{ρ:En}{b:Bool}(ea:ev cl a ρ h=.ok (.bl b) h1):ev cl (.not (.kZ a)) ρ h=.ok (.bl (!b)) h1:=by
 rw[ev,yV ea,aD]
theorem yW{ρ:En}{r:Bool}(ea:ev cl a ρ h=.ok (.bl false) h1)(eb:ev cl b ρ h1=.ok (.bl r) h2):ev cl (.or a b) ρ h=.ok (.bl r) h2:=by
 rw[ev,ea,aD];exact eb
theorem Lv{ρ:En}{r:Bool}(ea:ev cl a ρ h=.ok (.bl true) h1)(eb:ev cl b ρ h1=.ok (.bl r) h2):ev cl (.and a b) ρ h=.ok (.bl r) h2:=by
 rw[ev,ea,aD];exact eb
section
variable{cl:Call}{ρ:En}{h h1 h2 h3 h':VH}{a b r:E}
theorem aH(ea:ev cl a ρ h=.ok x h1)(er:ev cl r ρ h1=.ok (.tup xs) h2):ev cl (.cons a r) ρ h=.ok (.tup (x::xs)) h2:=by
 rw[ev,ea,aD,er];rfl
theorem bH:ev cl .nil ρ h=.ok (.tup []) h:=by rw[ev]
theorem aP:ev cl (.cst w) ρ h=.ok w h:=by rw[ev]
theorem qA(ea:ev cl a ρ h=.ok (.tup ys) h1)(hl:Nat.ble ys.length 1000):ev cl (.lst a) ρ h=.ok (.ref h1.n) (h1.new (.lst ys)):=by
 rw[ev,ea,aD];show(if Nat.ble ys.length 1000=true then _ else _)=_;rw[if_pos hl]
theorem gQ(ea:ev cl a ρ h=.ok (.tup ys) h1)(hl:Nat.ble ys.length 1000):ev cl (.tup a) ρ h=.ok (.tup ys) h1:=by
 rw[ev,ea,aD];show(if Nat.ble ys.length 1000=true then _ else _)=_;rw[if_pos hl]
theorem listE(ea:ev cl a ρ h=.ok x h1)(e:aO h1 x=aB ws):ev cl (.bi .list (.cons a .nil)) ρ h=.ok (.ref h1.n) (h1.new (.lst ws)):=by
 rw[ev,aH ea bH,aD];show gU [x] h1=_;simp only[gU,e]
theorem Hs{n:Nat}(ea:ev cl a ρ h=.ok (.tup ys) h1)(e:cl n ys h1=.ok w h'):ev cl (.call n a) ρ h=.ok w h':=by
 rw[ev,ea,aD];exact e
variable{f:Nat}{ys:List W}{s t:S}{c:Bool}
theorem uy{i:Int}(ea:ev cl a ρ h=.ok (.tup ys) h1)(ec:cl f ys h1=.ok (.int i) h2):exs cl (.jc f a c s t) ρ h=.ok (.rt (.int i)) h2:=by
 rw[exs,ea,aD];show(cl f ys h1).bind _=_;rw[ec];rfl
theorem uz(ea:ev cl a ρ h=.ok (.tup ys) h1)(ec:cl f ys h1=.ok (.tup [x]) h2):exs cl (.jc f a false s t) ρ h=exs cl s ρ h2:=by
 rw[exs,ea,aD];show(cl f ys h1).bind _=_;rw[ec];rfl
theorem Lw(ea:ev cl a ρ h=.ok (.tup ys) h1)(ec:cl f ys h1=.ok (.tup [.bl false]) h2):exs cl (.jc f a true s t) ρ h=exs cl s ρ h2:=by
 rw[exs,ea,aD];show(cl f ys h1).bind _=_;rw[ec];rfl
theorem Lx(ea:ev cl a ρ h=.ok (.tup ys) h1)(ec:cl f ys h1=.ok (.tup [.bl true]) h2):exs cl (.jc f a true s t) ρ h=exs cl t ρ h2:=by
 rw[exs,ea,aD];show(cl f ys h1).bind _=_;rw[ec];rfl
end
noncomputable def m9(ft:Int):S:=(.seq (.ite (.not (.kZ (.call 15 (.cons (.var 7) (.cons (.var 6) (.cons (.var 1) (.cons (.var 2) .nil))))))) (.seq (.seq (.expr (.cons (.var 4) (.cons (.var 6) .nil))) (.ret (.cst (.int ft)))) .skip) .skip) .skip)
noncomputable def iX(ft:Int):S:=(.seq (.«for» .nH (.var 5) (.many [6,7]) (m9 ft)) .skip)
noncomputable def tB(nb ft:Int):Fn:=⟨1,8,(.seq (.seq (.ite (.not (.kZ (.call 10 (.cons (.var 0) .nil)))) (.seq (.ret (.cst (.int nb))) .skip) .skip) (.seq (.oA [1,2,3] (.slc (.var 0) false (.cst .aG) true (.cst (.int (3))))) (.seq (.«for» .nH (.var 3) (.many [4,5]) (iX ft)) .skip))) (.ret (.cst (.tup [.aG]))))⟩
noncomputable def tI(a:Nat):Fn:=⟨2,2,(.seq (.seq (.jc a (.cons (.var 0) .nil) false .skip .skip) (.seq (.ret (.tup (.cons (.call 17 (.cons (.var 1) (.cons (.idx (.var 0) (.cst (.int (1)))) .nil))) .nil))) .skip)) (.ret (.cst (.tup [.aG]))))⟩
noncomputable def tL(a:Nat)(nl:Int):Fn:=⟨2,2,(.seq (.seq (.jc a (.cons (.var 0) (.cons (.var 1) .nil)) true (.seq (.ret (.cst (.int nl))) .skip) .skip) .skip) (.ret (.cst (.tup [.aG]))))⟩
structure Ew(F:Nat->Option Fn)(a:Nat)(nb ft nl:Int):Prop where
 t0:F a=aB (tB nb ft)
 t1:F (a+1)=aB (tI a)
 t2:F (a+2)=aB (tL (a+1) nl)
noncomputable def jX(h:VH)(l:W):Prop:=Kn h l/\∀ws,l=.tup ws->ws.length<1000000/\∀x∈ws,Kn h x
theorem jX.lo(k:jX h l):jX ⟨h.n,h.n,h.os⟩ l:=⟨dm.mpr k.1,λws e=>⟨(k.2 ws e).1,λx hx=>dm.mpr ((k.2 ws e).2 x hx)⟩⟩
section
variable{F:Nat->Option Fn}{a:Nat}{nb ft:Int}(B':gZ F)(t0:F a=aB (tB nb ft))
include B' t0
omit B' in
theorem ziv{k:Nat}(e1:run F (k+6) 10 [w] ⟨h.n,h.n,h.os⟩=.ok (.bl false) ⟨h.n,h.n,h.os⟩):run F (k+7) a [w] h=.ok (.int nb) h:=by
 rw[cz t0 rfl];show fin h (exs (run F (k+6)) (tB nb ft).body [aB w,aC,aC,aC,aC,aC,aC,aC] ⟨h.n,h.n,h.os⟩)=_;rw[show exs (run F (k+6)) (tB nb ft).body [aB w,aC,aC,aC,aC,aC,aC,aC] ⟨h.n,h.n,h.os⟩=.ok (.rt (.int nb)) ⟨h.n,h.n,h.os⟩from dB (dB ((oh (gn (Aw (aF rfl) e1))).trans (dB (dz aP))))];exact cj (bq _) lt_int
omit t0 in
theorem RW{k:Nat}{wd g r0:Int}:∀(ws:List W) (c:Int) (j:Nat) (x y:Option W),c=j->cH wd g c ws->∃x' y',forL (bJ (.many [6,7])) (exs (run F (k+4)) (m9 ft)) (bL j ws) [aB t,aB (.int wd),aB (.int g),aB rs,aB (.int r0),aB pl,x,y] h =
 .ok (.nx [aB t,aB (.int wd),aB (.int g),aB rs,aB (.int r0),aB pl,x',y']) h
 |[],c,j,x,y,_,_=>⟨x,y,by simp[forL,bL]⟩
 |w::r,c,j,x,y,hc,ho=>by
  obtain⟨h1,h2⟩:=ho;obtain⟨x',y',e⟩:=RW (h:=h) (t:=t) (rs:=rs) (pl:=pl) (k:=k) (wd:=wd) (g:=g) (r0:=r0) r (c+1) (j+1) (aB (.int j)) (aB w) (by rw[hc];push_cast;rfl) h2;refine⟨x',y',?_⟩;have e1:=Lc B' (k:=k) (h:=h) (c:=j) (wd:=wd) (g:=g) (Q7 h1 22);rw[<-hc,h1,hc]at e1;have eb:exs (run F (k+4)) (m9 ft) [aB t,aB (.int wd),aB (.int g),aB rs,aB (.int r0),aB pl,aB (.int j),aB w] h=.ok (.nx [aB t,aB (.int wd),aB (.int g),aB rs,aB (.int r0),aB pl,aB (.int j),aB w]) h:=
   (aX ((fO (gn (Hq (aF rfl) (aF rfl) (aF rfl) (aF rfl) e1))).trans rfl)).trans rfl
  simp only[forL,bL,bJ,aO,jn,List.set,eb,aD,e]
omit t0 in
theorem RY{k:Nat}{wd g:Int}:∀(ws:List (List W)) (j:Nat) (x y z u:Option W),(∀r∈ws,(r.length:Int)<1000000/\cH wd g 0 r)->∃x' y' z' u',forL (bJ (.many [4,5])) (exs (run F (k+4)) (iX ft)) (bL j (ws.map .tup)) [aB t,aB (.int wd),aB (.int g),aB rs,x,y,z,u] h =
 .ok (.nx [aB t,aB (.int wd),aB (.int g),aB rs,x',y',z',u']) h
 |[],j,x,y,z,u,_=>⟨x,y,z,u,by simp[forL,bL]⟩
 |w::r,j,x,y,z,u,ho=>by
  obtain⟨h1,h2⟩:=ho w fy;obtain⟨z1,u1,e1⟩:=RW B' (ft:=ft) (k:=k) (h:=h) (t:=t) (rs:=rs) (pl:=.tup w) (wd:=wd) (g:=g) (r0:=j) w 0 0 z u rfl h2;obtain⟨x',y',z',u',e⟩:=RY (h:=h) (t:=t) (rs:=rs) (k:=k) (wd:=wd) (g:=g) r (j+1) (aB (.int j)) (aB (.tup w)) z1 u1 λq hq=>ho q (eU _ hq);refine⟨x',y',z',u',?_⟩;have eb:exs (run F (k+4)) (iX ft) [aB t,aB (.int wd),aB (.int g),aB rs,aB (.int j),aB (.tup w),z,u] h=.ok (.nx [aB t,aB (.int wd),aB (.int g),aB rs,aB (.int j),aB (.tup w),z1,u1]) h:=by
   refine(aX (h':=h) ?_).trans rfl;rw[exs,aF (x:=.tup w) rfl,aD,DR (show w.length<1000000 by lia)];exact e1
  simp only[forL,cP,bL,bJ,aO,jn,List.set,eb,aD,e]
theorem RZ{k:Nat}{h:VH}{B:Bd}{fl:Fl}(b:B.DU)(e2:forL (bJ (.many [4,5])) (exs (run F (k+6)) (iX ft)) (bL 0 (B.rows.map .tup)) [aB B.w,aB (.int B.wd),aB (.int B.gr),aB (.tup (B.rows.map .tup)),aC,aC,aC,aC] ⟨h.n,h.n,h.os⟩=.ok fl ⟨h.n,h.n,h.os⟩) :
 run F (k+7) a [B.w] h=fin h ((exs (run F (k+6)) .skip [] ⟨h.n,h.n,h.os⟩).bind λ_ h=>match fl with|.nx ρ=>.ok (.rt (.tup [.aG])) h|fl=>.ok fl h):=by
 rw[cz t0 rfl];have e1:=Q8 B' (k:=k) (h:=⟨h.n,h.n,h.os⟩) b;have Le:=b.r1;show fin h (exs (run F (k+6)) (tB nb ft).body [aB B.w,aC,aC,aC,aC,aC,aC,aC] ⟨h.n,h.n,h.os⟩)=_;have ef:exs (run F (k+6)) (.«for» .nH (.var 3) (.many [4,5]) (iX ft)) [aB B.w,aB (.int B.wd),aB (.int B.gr),aB (.tup (B.rows.map .tup)),aC,aC,aC,aC] ⟨h.n,h.n,h.os⟩=.ok fl ⟨h.n,h.n,h.os⟩:=by
  rw[exs,aF (x:=.tup (B.rows.map .tup)) rfl,aD,DR (by rw[bV];lia)];exact e2
 have eu:exs (run F (k+6)) (.oA [1,2,3] (.slc (.var 0) false (.cst .aG) true (.cst (.int (3))))) [aB B.w,aC,aC,aC,aC,aC,aC,aC] ⟨h.n,h.n,h.os⟩=.ok (.nx [aB B.w,aB (.int B.wd),aB (.int B.gr),aB (.tup (B.rows.map .tup)),aC,aC,aC,aC]) ⟨h.n,h.n,h.os⟩:=rfl;unfold tB;cases fl with
 |nx ρ=>
  rw[aX ((aX ((fO (gn (Aw (aF rfl) e1))).trans rfl)).trans ((aX eu).trans ((aX ef).trans rfl)))];rfl
 |rt w=>
  rw[dB ((aX ((fO (gn (Aw (aF rfl) e1))).trans rfl)).trans ((aX eu).trans (dB ef)))];rfl
 |bk ρ=>
  rw[Lk ((aX ((fO (gn (Aw (aF rfl) e1))).trans rfl)).trans ((aX eu).trans (Lk ef)))];rfl
 |ct ρ=>
  have:∀{cl:Call}{a b:S}{ρ ρ':En}{h h':VH},exs cl a ρ h=.ok (.ct ρ') h'->exs cl (.seq a b) ρ h=.ok (.ct ρ') h':=λe=>by rw[exs,e];rfl
  rw[this ((aX ((fO (gn (Aw (aF rfl) e1))).trans rfl)).trans ((aX eu).trans (this ef)))];rfl
theorem zo1{k:Nat}{h:VH}{B:Bd}(b:B.Ok):run F (k+7) a [B.w] h=.ok (.tup [.aG]) h:=by
 have Ld:=b.w2;obtain⟨x',y',z',u',e2⟩:=RY B' (ft:=ft) (k:=k+2) (h:=⟨h.n,h.n,h.os⟩) (t:=B.w) (rs:=.tup (B.rows.map .tup)) (wd:=B.wd) (g:=B.gr) B.rows 0 aC aC aC aC λr hr=>⟨by have:=(b.r2 r hr).1;lia,(b.r2 r hr).2⟩
 rw[RZ B' t0 b.Q6 e2];exact cj (bq _) (by rw[eN,bK,lW,dJ];rfl)
theorem ziw{k:Nat}{h:VH}{B:Bd}{x:W}{r:List W}{rs:List (List W)}(b:B.DU)(hr:B.rows=(x::r)::rs)(hp:jh 24 x)(hm:gf x 0 B.wd B.gr=false):run F (k+7) a [B.w] h=.ok (.int ft) h:=by
 have hl:=b.r2 (x::r) (by rw[hr];exact fy);have Ld:=b.w2;have e1:=Lc B' (k:=k+2) (h:=⟨h.n,h.n,h.os⟩) (c:=(0:Nat)) (wd:=B.wd) (g:=B.gr) hp;rw[show((0:Nat):Int)=0 from rfl,hm]at e1;have e0:exs (run F (k+6)) (m9 ft) [aB B.w,aB (.int B.wd),aB (.int B.gr),aB (.tup (B.rows.map .tup)),aB (.int 0),aB (.tup (x::r)),aB (.int 0),aB x] ⟨h.n,h.n,h.os⟩=.ok (.rt (.int ft)) ⟨h.n,h.n,h.os⟩:=
  dB ((oh (gn (Hq (aF rfl) (aF rfl) (aF rfl) (aF rfl) e1))).trans (dB ((aX (wu (aH (aF rfl) (aH (aF rfl) bH)))).trans (dz aP))))
 have e3:exs (run F (k+6)) (iX ft) [aB B.w,aB (.int B.wd),aB (.int B.gr),aB (.tup (B.rows.map .tup)),aB (.int 0),aB (.tup (x::r)),aC,aC] ⟨h.n,h.n,h.os⟩=.ok (.rt (.int ft)) ⟨h.n,h.n,h.os⟩:=by
  refine dB ?_;rw[exs,aF (x:=.tup (x::r)) rfl,aD,DR (by lia)];simp only[forL,bL,bJ,aO,jn,List.set];rw[show((0:Nat):Int)=0 from rfl,e0];rfl
 have e2:forL (bJ (.many [4,5])) (exs (run F (k+6)) (iX ft)) (bL 0 (B.rows.map .tup)) [aB B.w,aB (.int B.wd),aB (.int B.gr),aB (.tup (B.rows.map .tup)),aC,aC,aC,aC] ⟨h.n,h.n,h.os⟩=.ok (.rt (.int ft)) ⟨h.n,h.n,h.os⟩:=by
  generalize hR:(.tup (B.rows.map .tup):W)=R at e3;rw[hr,cP];simp only[forL,bL,bJ,aO,jn,List.set];rw[show((0:Nat):Int)=0 from rfl,e3];rfl
 rw[RZ B' t0 b e2];exact cj (bq _) lt_int
end
section
variable{F:Nat->Option Fn}{a:Nat}{nb ft nl:Int}(B':gZ F)(T:Ew F a nb ft nl)(uA:F 17=aB nW)
include B' T
omit B' in
theorem zo2{k:Nat}{C:Int}(e:run F (k+7) a [w] ⟨h.n,h.n,h.os⟩=.ok (.int C) ⟨h.n,h.n,h.os⟩):run F (k+8) (a+1) [w,l] h=.ok (.int C) h:=by
 rw[cz T.t1 rfl];show fin h (exs (run F (k+7)) (tI a).body [aB w,aB l] ⟨h.n,h.n,h.os⟩)=_;rw[show exs (run F (k+7)) (tI a).body [aB w,aB l] ⟨h.n,h.n,h.os⟩=.ok (.rt (.int C)) ⟨h.n,h.n,h.os⟩from dB (dB (uy (aH (aF rfl) bH) e))];exact cj (bq _) lt_int
include uA in
theorem zzf{k:Nat}{h:VH}{B:Bd}{l:W}(b:B.Ok)(hl:jX h l):run F (k+8) (a+1) [B.w,l] h=.ok (.tup [.bl (fK l B.gr B.gr 0 1)]) h:=by
 rw[cz T.t1 rfl];have e1:=zo1 B' T.t0 (k:=k) (h:=⟨h.n,h.n,h.os⟩) b;have e2:∀h,jX h l->run F (k+7) 17 [l,.int B.gr] h=.ok (.bl (fK l B.gr B.gr 0 1)) h:=by
  intro h hl;rw[cz uA rfl];have e:=DS B'.toCoreA (k:=k+3) (h:=⟨h.n,h.n,h.os⟩) (w:=l) (a:=B.gr) (b:=B.gr) (lo:=0) (hi:=1) hl.lo.1 hl.lo.2;show fin h (exs (run F (k+6)) nW.body [aB l,aB (.int B.gr)] ⟨h.n,h.n,h.os⟩)=_;rw[show exs (run F (k+6)) nW.body [aB l,aB (.int B.gr)] ⟨h.n,h.n,h.os⟩=.ok (.rt (.bl (fK l B.gr B.gr 0 1))) ⟨h.n,h.n,h.os⟩from dB (dz (Hs (aH (aF rfl) (aH (aF rfl) (aH (aF rfl) (aH aP (aH aP bH))))) e))];exact cj (bq _) jr
 show fin h (exs (run F (k+7)) (tI a).body [aB B.w,aB l] ⟨h.n,h.n,h.os⟩)=_;rw[show exs (run F (k+7)) (tI a).body [aB B.w,aB l] ⟨h.n,h.n,h.os⟩=.ok (.rt (.tup [.bl (fK l B.gr B.gr 0 1)])) ⟨h.n,h.n,h.os⟩from
  dB ((aX ((uz (aH (aF rfl) bH) e1).trans rfl)).trans (dB (dz (gQ (aH (qw (aF rfl) (cN (aF rfl) aP (show aZ _ B.w (.int 1)=aB (.int B.gr)from rfl)) (e2 _ hl.lo)) bH) rfl))))]
 exact cj (bq _) (by rw[eN,bK,jr,dJ];rfl)
omit B' in
theorem zix{k:Nat}{C:Int}(e:run F (k+7) a [w] ⟨h.n,h.n,h.os⟩=.ok (.int C) ⟨h.n,h.n,h.os⟩):run F (k+9) (a+2) [w,l] h=.ok (.int C) h:=by
 rw[cz T.t2 rfl];show fin h (exs (run F (k+8)) (tL (a+1) nl).body [aB w,aB l] ⟨h.n,h.n,h.os⟩)=_;rw[show exs (run F (k+8)) (tL (a+1) nl).body [aB w,aB l] ⟨h.n,h.n,h.os⟩=.ok (.rt (.int C)) ⟨h.n,h.n,h.os⟩from dB (dB (uy (aH (aF rfl) (aH (aF rfl) bH)) (zo2 (h:=⟨h.n,h.n,h.os⟩) T e)))];exact cj (bq _) lt_int
include uA in
theorem Ly{k:Nat}{h:VH}{B:Bd}{l:W}(b:B.Ok)(hl:jX h l):run F (k+9) (a+2) [B.w,l] h=.ok (if fK l B.gr B.gr 0 1 then .tup [.aG]else .int nl) h:=by
 rw[cz T.t2 rfl];have e1:=zzf B' T uA (k:=k) (h:=⟨h.n,h.n,h.os⟩) b hl.lo;show fin h (exs (run F (k+8)) (tL (a+1) nl).body [aB B.w,aB l] ⟨h.n,h.n,h.os⟩)=_;cases q:fK l B.gr B.gr 0 1 with
 |true=>
  rw[q]at e1;rw[show exs (run F (k+8)) (tL (a+1) nl).body [aB B.w,aB l] ⟨h.n,h.n,h.os⟩=.ok (.rt (.tup [.aG])) ⟨h.n,h.n,h.os⟩from(aX ((aX ((Lx (aH (aF rfl) (aH (aF rfl) bH)) e1).trans rfl)).trans rfl)).trans (dz aP)];exact cj (bq _) (by rw[eN,bK,lW,dJ];rfl)
 |false=>
  rw[q]at e1;rw[show exs (run F (k+8)) (tL (a+1) nl).body [aB B.w,aB l] ⟨h.n,h.n,h.os⟩=.ok (.rt (.int nl)) ⟨h.n,h.n,h.os⟩from dB (dB ((Lw (aH (aF rfl) (aH (aF rfl) bH)) e1).trans (dB (dz aP))))];exact cj (bq _) lt_int
end
section
variable{F:Nat->Option Fn}(B':gZ F)
include B'
theorem zo3{k:Nat}(hk:Kn h w)(q:gp w 5 5=false):run F (k+6) 10 [w] h=.ok (.bl false) h:=by
 rw[cz B'.Q3 rfl];have e1:=v9 B'.toCoreA (k:=k+4) (h:=⟨h.n,h.n,h.os⟩) (w:=w) (lo:=5) (hi:=5) (dm.mpr hk);rw[q]at e1;show fin h (exs (run F (k+5)) p9.body [aB w,aC,aC,aC,aC,aC] ⟨h.n,h.n,h.os⟩)=_;rw[show exs (run F (k+5)) p9.body [aB w,aC,aC,aC,aC,aC] ⟨h.n,h.n,h.os⟩=.ok (.rt (.bl false)) ⟨h.n,h.n,h.os⟩from dB ((oh (gn (qx (aF rfl) aP aP e1))).trans (dB (dz aP)))];exact cj (bq _) jr
end
theorem Dk.Lz{d c b:Nat}(D:Dk h d c b):d<h.n/\c<h.n:=by
 obtain⟨ne,ns,cells,p,q,a1,a2,a3⟩:=D;exact⟨fV a1,fV a2⟩
theorem draw(C:CoreD F){k:Nat}{ρ:En}{m:Int}{i d c b:Nat}(e0:ρ[i]?=aB (aB (.ref d)))(ea:ev (run F (k+3)) e ρ h=.ok (.tup ys) h1)(hl:(ys.length:Int)=m)(hm:0<m)(hm2:m<=1000)(D:Dk h1 d c b)(hb:b<1000000000) :
 ∃w h',ev (run F (k+3)) (.idx (.lst e) (.call 5 (.cons (.var i) (.cons (.cst (.int m)) .nil)))) ρ h=.ok w h'/\w∈ys/\Dk h' d c (b+1)/\bP h1 h' d c:=by
 have l1:=D.Lz;obtain⟨r,h',e1,a1,b1,D1,K1⟩:=take C (k:=k) (m:=m) (D.new (o:=.lst ys)) hb hm (by lia);obtain⟨j,rfl⟩:=ly a1;have hj:j<ys.length:=by lia
 have g:h'.get h1.n=aB (.lst ys):=K1.get _ _ (by lia) (by lia) gW;refine⟨ys[j],h',cN (qA ea (rW.mpr (by lia))) (qw (aF e0) aP e1) ?_,zw hj,D1,(bP.refl.new).trans K1⟩;simp only[aZ,g];exact oz (jS hj)
theorem LA{ρ:En}{j:Nat}{n:Nat}(ea:ev cl a ρ h=.ok (.ref j) h1)(g:h1.get j=aB (.lst (bI n (.bl true)))):ev cl (.bi .all (.cons a .nil)) ρ h=.ok (.bl true) h1:=by
 have hm:aW ve (bI n (W.bl true))=aB (bI n true):=by
  clear g;induction n with|zero=>rfl|succ n ih=>simp only[nt,aW,ve,ih]
 have ha:(bI n true).all id=true:=by
  rw[jZ];intro x hx;exact(List.mem_replicate.mp hx).2
 rw[ev,aH ea bH,aD];show nK [.ref j] h1=_;simp only[nK,g,hm,gR,ha,aT]
theorem wz{cl:Call}{nx:Nat->VH->Option (Option W)}{tg:W->VH->En->Option En}{e:E}{h:VH}{ws:List W}(hx:∀i,nx i h=aB ws[i]?)(P:En->Prop)(he:∀w∈ws,∀ρ,P ρ->∃mL,tg w h ρ=aB mL/\ev cl e mL h=.ok (.bl true) h/\P mL) :
 ∀(fu i:Nat)(ρ:En)(acc:List W),i<=ws.length->ws.length<fu+i->P ρ->iN nx tg (λ_ h=>.ok (.bl true) h) (ev cl e) fu i ρ h acc=.ok (acc.reverse++bI (ws.length-i) (.bl true)) h
 |0,i,ρ,acc,hi,hl,hP=>by lia
 |fu+1,i,ρ,acc,hi,hl,hP=>by
  cases q:ws[i]? with
  |none=>
   have:=rY.mp q;rw[iN,hx,q,show ws.length-i=0 by lia];simp
  |some w=>
   obtain⟨hi',_⟩:=jR.mp q;obtain⟨mL,e1,e2,P1⟩:=he w (zo q) ρ hP;have ih:=wz hx P he fu (i+1) mL (.bl true::acc) hi' (by lia) P1;rw[iN,hx,q];simp only[e1,aD,e2];rw[ih,show ws.length-i=(ws.length- (i+1))+1 by lia,nt];simp
theorem wA{cl:Call}{kd:Kd}{a e:E}{t:Tg}{ow:Nat}{ρ:En}{h h1:VH}{x:W}{ws:List W}(ea:ev cl a ρ h=.ok x h1)(hx:∀i,bZ kd x i h1=aB ws[i]?)(hw:ws.length<=100000)(P:En->Prop)(hP:P (bI ow aC))(he:∀w∈ws,∀ρ,P ρ->∃mL,bJ t w h1 ρ=aB mL/\ev cl e mL h1=.ok (.bl true) h1/\P mL) :
 ev cl (.bi .all (.cons (.lc kd a t ow [] (.cst (.bl true)) e) .nil)) ρ h=.ok (.bl true) (h1.new (.lst (bI ws.length (.bl true)))):=by
 have e1:=wz (cl:=cl) (tg:=bJ t) (e:=e) hx P he fuel 0 (bI ow aC) [] (i8 _) (by have hf:fuel=1000000:=rfl;lia) hP;refine LA (j:=h1.n) (n:=ws.length) ?_ gW;rw[ev,ea,aD];show(iN (bZ kd x) (bJ t) (λ_ h=>.ok (.bl true) h) (ev cl e) fuel 0 (bI ow aC++[]) h1 []).bind _=_;rw[i7,e1,aD,if_pos (yM (by simp;lia))];rfl
theorem R0(hu:aO h u=aB ws)(hv:aO h v=aB ws)(i:Nat):bZ .zip (.tup [u,v]) i h=aB (ws.map λa=>.tup [a,a])[i]?:=by
 simp only[bZ,hu,hv,nu];cases ws[i]?<;>rfl
theorem Ey{cl:Call}{a b e:E}{ρ:En}{u v:W}{ws:List W}{h h1 h2:VH}(ea:ev cl a ρ h=.ok u h1)(eb:ev cl b ρ h1=.ok v h2)(hu:aO h2 u=aB ws)(hv:aO h2 v=aB ws)(hw:ws.length<=100000)(he:∀w∈ws,ev cl e [aB w,aB w] h2=.ok (.bl true) h2) :
 ev cl (.bi .all (.cons (.lc .zip (.cons a (.cons b .nil)) (.many [0,1]) 2 [] (.cst (.bl true)) e) .nil)) ρ h=.ok (.bl true) (h2.new (.lst (bI (ws.map λa=>W.tup [a,a]).length (.bl true)))):=
 wA (aH ea (aH eb bH)) (R0 hu hv) (by rw[bV];exact hw) (λρ=>∃x y,ρ=[x,y]) ⟨_,_,rfl⟩ λw hw ρ cR=>by
  obtain⟨x,y,lZ⟩:=cR;obtain⟨z,hz,rfl⟩:=lu.mp hw;subst lZ;exact⟨_,rfl,he z hz,_,_,rfl⟩
theorem Ht{l u:Option Int}(h:w∈cY ws l u):w∈ws:=by
 unfold cY at h;exact List.mem_of_mem_drop (List.mem_of_mem_take h)
theorem LB{l u:Option Int}:(cY ws l u).length<=ws.length:=by
 unfold cY;rw[zu,wV];lia
theorem zzg:cY ws (aB 1) aC=ws.drop 1:=by
 show(ws.drop (HT.bM ws.length 0 (aB ((1:Nat):Int)))).take (HT.bM ws.length ws.length aC-HT.bM ws.length 0 (aB ((1:Nat):Int)))=_;rw[HT.iH,HT.iK];cases ws with
 |nil=>rfl
 |cons x r=>
  rw[show min 1 (x::r).length=1 by rw[dh];lia];exact List.take_of_length_le (by simp)
theorem oj(hl:xs.length+ys.length<=1000000):fk .add (.tup xs) (.tup ys) h=.ok (.tup (xs++ys)) h:=by
 simp only[fk,Gj,yM hl,bX,gR,aT]
theorem Ez{ρ:En}{i:Int}(ea:ev cl a ρ h=.ok (.int i) h1):ev cl (.neg a) ρ h=.ok (.int (-i)) h1:=by
 rw[ev,ea];rfl
theorem zo5{a b lo hi:Int}(hw:w∈ws)(h:within w lo hi=false):fK (.tup ws) a b lo hi=false:=by
 unfold fK;rw[wN];refine .inr (Bool.eq_false_iff.mpr λz=>?_);have:=jZ.mp z w hw;rw[h]at this;cases this
theorem zzh{a lo hi:Int}(h:(ws.length:Int)≠a):fK (.tup ws) a a lo hi=false:=by
 unfold fK gp;rw[wN,wN,zb,zb];exact .inl (by lia)
theorem EA(hl:ws.length<1000000)(hk:∀x∈ws,Kn h x):jX h (.tup ws):=⟨by simp[Kn],λus e=>by cases e;exact⟨hl,hk⟩⟩
theorem zvd{i:Nat}(g:h.get i=aB (.lst ws)):jX h (.ref i):=⟨by simp[Kn,dP,g],λus e=>nomatch e⟩
theorem R1:∃h2,fin h (.ok (.rt w) h')=.ok w h2:=by
 show ∃h2,leave h w h'=.ok w h2;unfold leave;split;exact⟨_,rfl⟩;exact⟨_,rfl⟩
theorem LC{ρ:En}{i j z:Int}(e:fM .pow i j=aB z):ev cl (.op .pow (.cst (.int i)) (.cst (.int j))) ρ h=.ok (.int z) h:=
 l8 aP aP (by simp only[fk,e,gR,aT])
noncomputable def EB(B:Bd):Bd:=⟨B.wd,B.gr,bI B.wd.toNat (.int 7)::B.rows.drop 1,B.fd,B.dr⟩
theorem zrh(b:B.Ok):(EB B).DU:=⟨b.w1,b.w2,b.g1,b.g2,by
 have:=b.r1;show(bI B.wd.toNat (W.int 7)::B.rows.drop 1).length<=60;rw[dh,wV];lia,λr hr=>by
 have w1:=b.w1;rcases gq.mp hr with rfl|hr
 show((bI B.wd.toNat (W.int 7)).length:Int)=B.wd;rw[AG];lia;exact(b.r2 r (List.mem_of_mem_drop hr)).1,b.f1,b.f2,b.f3,b.d1,b.d2⟩
theorem zo7(b:B.Ok):∃r,(EB B).rows=(.int 7::r)::B.rows.drop 1:=by
 have w1:=b.w1;obtain⟨n,hn⟩:∃n,B.wd.toNat=n+1:=⟨B.wd.toNat-1,by lia⟩
 exact⟨bI n (.int 7),by show bI B.wd.toNat (W.int 7)::_=_;rw[hn,nt]⟩
theorem jv{ρ:En}(ea:ev cl a ρ h=.ok x h1)(eb:ev cl b ρ h1=.ok y h2)(ec:ev cl c ρ h2=.ok z h3)(ed:ev cl d ρ h3=.ok u h4):ev cl (.tup (.cons a (.cons b (.cons c (.cons d .nil))))) ρ h=.ok (.tup [x,y,z,u]) h4:=
 gQ (aH ea (aH eb (aH ec (aH ed bH)))) rfl
theorem LD{i j:Nat}(gi:h.get i=aB (.lst xs))(gj:h.get j=aB (.lst ys))(hl:xs.length+ys.length<=1000000):fk .add (.ref i) (.ref j) h=.ok (.ref h.n) (h.new (.lst (xs++ys))):=by
 simp only[fk,gi,gj,Js,yM hl,bX]
noncomputable abbrev nc:=List Int×Option Nat
noncomputable def ie(s:nc):W:=.tup [iW s.1,n9 s.2]
noncomputable def yX(s:nc):DK:=(s.1,s.2.map λ(f:Nat)=>(f:Int))
theorem LF:∀ls:List Int,aW intD (ls.map .int)=aB ls
 |[]=>rfl
 |x::ls=>by
  have h:=LF ls;rw[cP];unfold aW;simp only[intD,h]
theorem EC(s:nc):dW (ie s)=aB (yX s):=by
 obtain⟨ls,fo⟩:=s;cases fo with|none=>simp[ie,iW,n9,dW,LF,yX]|some f=>simp[ie,iW,n9,dW,LF,yX]
theorem zve(h:yX s=yX t):s=t:=by
 obtain⟨ls,fo⟩:=s;obtain⟨ms,go⟩:=t;unfold yX at h;have h1:=k8 Prod.fst h;have h2:=k8 Prod.snd h;simp only at h1 h2;subst h1;cases fo<;>cases go<;>simp at h2 ⊢;lia
noncomputable def ji:Str:=bf "board"
noncomputable def kQ:Str:=bf "fault"
noncomputable def iY:Str:=bf "outcomes"
noncomputable def ng(C:ah):Fn:=⟨3,3,(.seq (.sat C ji (.var 0) (.var 1)) (.seq (.sat C kQ (.var 0) (.var 2)) (.seq (.sat C iY (.var 0) (.rE .nil)) .skip)))⟩
noncomputable def jw(C:ah):Fn:=⟨3,4,(.seq (.set 3 (.tup (.cons (.var 1) (.cons (.var 2) .nil)))) (.seq (.ite (.cmp .sO (.var 3) (.k6 C iY (.var 0))) (.seq (.put (.k6 C iY (.var 0)) (.var 3) (.call 176 (.cons (.k6 C ji (.var 0)) (.cons (.var 1) (.cons (.var 2) (.cons (.k6 C kQ (.var 0)) .nil)))))) .skip) .skip) (.seq (.ret (.idx (.k6 C iY (.var 0)) (.var 3))) .skip)))⟩
noncomputable def nh(C:ah):Fn:=⟨2,2,(.seq (.ret (.mk C 344 (.cons (.var 0) (.cons (.var 1) .nil)))) .skip)⟩
noncomputable def yY(C:ah):S:=(.seq (.oA [5,1] (.jm C (bf "fall") 345 (.var 0) (.cons (.var 1) (.cons (.var 4) .nil)))) (.seq (.expr (.mt .append (.var 3) (.cons (.idx (.var 5) (.cst (.int (0)))) .nil))) .skip))
noncomputable def kR(C:ah):Fn:=⟨3,6,(.seq (.set 3 (.lst .nil)) (.seq (.«for» .seq (.var 2) (.one 4) (yY C)) (.seq (.ret (.tup (.cons (.bi .tuple (.cons (.var 3) .nil)) (.cons (.var 1) .nil)))) .skip)))⟩
structure jx(F:Nat->Option Fn)(c:ah):Prop extends CoreY0 F where
 uB:F 176=aB kM
 LG:F 344=aB (ng c)
 LH:F 345=aB (jw c)
 LI:F 347=aB (nh c)
 LJ:F 179=aB (kR c)
noncomputable def eE(B:Bd)(s:nc):W:=match s.2 with|some f=>.tup [outD B s.1 f,iW (B.aS s.1 f).ls]|none=>.aG
theorem Hu:∀(xs:List nc),fC (xs.map ie) (xs.map (eE B)) (yX s)=if s∈xs then aB (eE B s)else aC
 |[]=>by simp[fC]
 |x::xs=>by
  have ih:=Hu (B:=B) (s:=s) xs;rw[cP,cP];unfold fC;by_cases e:x=s;subst e;rw[if_pos (EC x),if_pos fy];rw[if_neg (by rw[EC];intro z;exact e (zve (lz z))),ih];by_cases hm:s∈xs;rw[if_pos hm,if_pos (eU _ hm)];rw[if_neg hm,if_neg (by simp[hm,dU e])]
noncomputable def dS:List Str:=[ji,kQ,iY]
structure Bq(c:ah)(B:Bd)(h:VH)(o d:Nat)(xs:List nc):Prop where
 ins:h.get o=aB (.ins c dS [B.w,.aG,.ref d])
 dct:h.get d=aB (.dt (xs.map ie) (xs.map (eE B)))
theorem Bq.ne{c:ah}{o d:Nat}(b:Bq c B h o d xs):o≠d:=λz=>by
 have:=b.ins;rw[z,b.dct]at this;cases this
theorem Bq.lo{c:ah}{o d l:Nat}(b:Bq c B h o d xs):Bq c B ⟨h.n,l,h.os⟩ o d xs:=⟨b.ins,b.dct⟩
theorem sBF:(kQ=ji)=False:=by simp only[wI,wJ];decide +kernel
theorem R3:(ji=iY)=False:=by simp only[wI,wJ];decide +kernel
theorem R4:(kQ=iY)=False:=by simp only[wI,wJ];decide +kernel
theorem ED:(ji=kQ)=False:=by simp only[wI,wJ];decide +kernel
section
variable{c:ah}{B:Bd}{h:VH}{o d:Nat}{xs:List nc}{cl:Call}{ρ:En}{i:Nat}
theorem ni(b:Bq c B h o d xs)(lZ:ρ[i]?=aB (aB (.ref o))):ev cl (.k6 c iY (.var i)) ρ h=.ok (.ref d) h:=by
 rw[ev,aF lZ,aD];simp only[nN,b.ins,bX,dS,dY,R3,R4,dg,aT]
theorem EE(b:Bq c B h o d xs)(lZ:ρ[i]?=aB (aB (.ref o))):ev cl (.k6 c ji (.var i)) ρ h=.ok B.w h:=by
 rw[ev,aF lZ,aD];simp only[nN,b.ins,bX,dS,dY,aT]
theorem EF(b:Bq c B h o d xs)(lZ:ρ[i]?=aB (aB (.ref o))):ev cl (.k6 c kQ (.var i)) ρ h=.ok .aG h:=by
 rw[ev,aF lZ,aD];simp only[nN,b.ins,bX,dS,dY,ED,dg,aT]
end
theorem zzi{h:VH}{a:Nat}{B:Bd}{xs:List nc}{s:nc}(g:h.get a=aB (.dt (xs.map ie) (xs.map (eE B)))):ko h (ie s) (.ref a)=aB (decide (s∈xs)):=by
 have e:aO h (.ref a)=aC:=by simp[aO,g]
 unfold ko;rw[e];simp only[inD,g,EC,Hu];by_cases hm:s∈xs<;>simp[hm]
theorem R5{h:VH}{a:Nat}{B:Bd}{xs:List nc}{s:nc}(g:h.get a=aB (.dt (xs.map ie) (xs.map (eE B))))(hm:s∈xs):aZ h (.ref a) (ie s)=aB (eE B s):=by
 show sP h a (ie s)=_;simp only[sP,g,EC,Hu,if_pos hm]
theorem LK{cl:Call}{o i v:E}{ρ:En}{h h1 h2 h3:VH}{a:Nat}{B:Bd}{w:W}{xs:List nc}{s:nc}(LL:ev cl v ρ h=.ok w h1)(ev2:ev cl o ρ h1=.ok (.ref a) h2)(ev3:ev cl i ρ h2=.ok (ie s) h3)(g:h3.get a=aB (.dt (xs.map ie) (xs.map (eE B))))(hn:s∉xs)(hl:xs.length<=100000) :
 exs cl (.put o i v) ρ h=.ok (.nx ρ) (h3.set a (.dt (xs.map ie++[ie s]) (xs.map (eE B)++[w]))):=by
 rw[exs,LL,aD,ev2,aD,ev3,aD];show putD ρ a (ie s) w h3=_;have hb:Nat.blt (xs.map ie).length big=true:=Ru (by rw[bV];lia);simp only[putD,g,EC,Hu,if_neg hn,hb];rfl
section
variable{F:Nat->Option Fn}(Y:CoreY0 F)(uB:F 176=aB kM)
include Y uB
theorem zo9{k:Nat}{f:Nat}(b:B.Ok)(hf:f<B.fd.length)(hl:(ls.length:Int)=B.gr)(bi:bQ ls):run F (k+4) 176 [B.w,iW ls,.int f,.aG] h=.ok (.tup [outD B ls f,iW (B.aS ls f).ls]) h:=by
 rw[cz uB rfl];have e1:=zlm Y (k:=k) (h:=⟨h.n,h.n,h.os⟩) b hf hl bi;have q:=b.aS hf hl bi;obtain⟨a1,a2⟩:=b.door q.c4.1 q.c4.2;have e2:exs (run F (k+3)) (.oA [4,5] (.call 175 (.cons (.var 0) (.cons (.var 1) (.cons (.var 2) (.cons (.var 3) .nil)))))) [aB B.w,aB (iW ls),aB (.int f),aB .aG,aC,aC,aC] ⟨h.n,h.n,h.os⟩=.ok (.nx [aB B.w,aB (iW ls),aB (.int f),aB .aG,aB (ia B ls f),aB (iW (B.aS ls f).ls),aC]) ⟨h.n,h.n,h.os⟩:=by
  simp only[exs,ev,ja,i9,jz,aT,aD,e1,bJ,aO,jn,kX,jT,gR]
 have i4:aZ ⟨h.n,h.n,h.os⟩ B.w (.int 4)=aB (.tup B.dr):=rfl;have e3:ev (run F (k+3)) (.ite (.cmp .vd (.var 4) (.cst .aG)) (.cst (.tup [.aG,.aG])) (.idx (.idx (.var 0) (.cst (.int (4)))) (.var 4))) [aB B.w,aB (iW ls),aB (.int f),aB .aG,aB (ia B ls f),aB (iW (B.aS ls f).ls),aC] ⟨h.n,h.n,h.os⟩=.ok (outD B ls f) ⟨h.n,h.n,h.os⟩:=by
  unfold ia outD;cases z:(B.aS ls f).st with
  |true=>simp[ev,aV,cQ]
  |false=>
   have i5:aZ ⟨h.n,h.n,h.os⟩ (.tup B.dr) (.int (eB (B.col f) (B.aS ls f).cs))=aB (B.door (eB (B.col f) (B.aS ls f).cs)):=a1;simp[ev,aV,cQ,i4,i5]
 show fin h (exs (run F (k+3)) kM.body [aB B.w,aB (iW ls),aB (.int f),aB .aG,aC,aC,aC] ⟨h.n,h.n,h.os⟩)=_;have eb:exs (run F (k+3)) kM.body [aB B.w,aB (iW ls),aB (.int f),aB .aG,aC,aC,aC] ⟨h.n,h.n,h.os⟩=.ok (.rt (.tup [outD B ls f,iW (B.aS ls f).ls])) ⟨h.n,h.n,h.os⟩:=by
  refine(aX e2).trans ?_;refine(aX (dR e3)).trans ?_;exact dB (dz (qy (aF rfl) (aF rfl)))
 rw[eb];refine cj (bq _) ?_;obtain⟨oe,_⟩:=RS b hf hl bi;rw[oe];simp[g9,RU,RK b hf hl bi]
end
theorem zpa{c:ah}(C:jx F c){k:Nat}{f:Nat}(b:B.Ok)(hf:f<B.fd.length)(hl:(ls.length:Int)=B.gr)(bi:bQ ls):run F (k+4) 176 [B.w,iW ls,.int f,.aG] h=.ok (.tup [outD B ls f,iW (B.aS ls f).ls]) h:=zo9 C.toCoreY0 C.uB b hf hl bi
theorem zvf{f n:Nat}(b:B.Ok)(hf:f<B.fd.length)(hl:(ls.length:Int)=B.gr)(bi:bQ ls):W.lt n (eE B (ls,aB f))=true:=by
 obtain⟨oe,_⟩:=RS b hf hl bi;show W.lt n (.tup [outD B ls f,iW (B.aS ls f).ls])=true;rw[oe];simp[g9,RU,RK b hf hl bi]
theorem Bq.put{c:ah}{o d:Nat}(q:Bq c B h o d xs):Bq c B (h.set d (.dt (xs.map ie++[ie s]) (xs.map (eE B)++[eE B s]))) o d (xs++[s]):=by
 refine⟨?_,?_⟩;rw[rP q.dct q.ne];exact q.ins;rw[yJ q.dct,qZ,qZ];rfl
theorem Bq.other{c:ah}{o d l:Nat}(q:Bq c B h o d xs)(g:h.get l=aB (.lst ns)):Bq c B (h.set l (.lst ms)) o d xs:=by
 refine⟨?_,?_⟩;rw[rP g λz=>by subst z;rw[q.ins]at g;cases g];exact q.ins;rw[rP g λz=>by subst z;rw[q.dct]at g;cases g];exact q.dct
theorem R6{h:VH}{i b:Nat}{o:VO}(h1:b<=h.lo)(h2:b<=i):b<=(h.set i o).lo:=by
 unfold VH.set;simp only;split<;>assumption
section
variable{F:Nat->Option Fn}{c:ah}(C:jx F c)
include C
theorem EG{k:Nat}{f o d:Nat}(b:B.Ok)(hf:f<B.fd.length)(hl:(ls.length:Int)=B.gr)(bi:bQ ls)(q:Bq c B h o d xs)(hx:xs.length<=100000) :
 ∃h' xs',run F (k+5) 345 [.ref o,iW ls,.int f] h=.ok (eE B (ls,aB f)) h'/\Bq c B h' o d xs'/\h'.n=h.n/\(∀z,z<=h.lo->z<=d->z<=h'.lo)/\(∀i,i≠d->h'.get i=h.get i)/\xs'.length<=xs.length+1:=by
 have q0:Bq c B ⟨h.n,h.n,h.os⟩ o d xs:=q.lo;have s1:exs (run F (k+4)) (.set 3 (.tup (.cons (.var 1) (.cons (.var 2) .nil)))) [aB (.ref o),aB (iW ls),aB (.int f),aC] ⟨h.n,h.n,h.os⟩=.ok (.nx [aB (.ref o),aB (iW ls),aB (.int f),aB (ie (ls,aB f))]) ⟨h.n,h.n,h.os⟩:=dR (qy (aF rfl) (aF rfl));have ec:ev (run F (k+4)) (.cmp .sO (.var 3) (.k6 c iY (.var 0))) [aB (.ref o),aB (iW ls),aB (.int f),aB (ie (ls,aB f))] ⟨h.n,h.n,h.os⟩=.ok (.bl (!decide ((ls,aB f)∈xs))) ⟨h.n,h.n,h.os⟩:=by
  rw[ev,aF rfl,aD,ni q0 rfl,aD];simp only[aV,zzi q0.dct,gR,aT]
 rw[cz C.LH rfl];by_cases hm:(ls,aB f)∈xs;refine⟨h,xs,?_,q,rfl,λz h1 _=>h1,λ_ _=>rfl,oq _⟩;rw[uG hm]at ec;have eb:exs (run F (k+4)) (jw c).body [aB (.ref o),aB (iW ls),aB (.int f),aC] ⟨h.n,h.n,h.os⟩=.ok (.rt (eE B (ls,aB f))) ⟨h.n,h.n,h.os⟩:=by
  refine(aX s1).trans ?_;refine(aX (b:=_) ((fO ec).trans rfl)).trans ?_;refine dB (dz ?_);rw[ev,ni q0 rfl,aD,aF rfl,aD,R5 q0.dct hm,aT]
 show fin h (exs (run F (k+4)) (jw c).body [aB (.ref o),aB (iW ls),aB (.int f),aC] ⟨h.n,h.n,h.os⟩)=_;rw[eb];exact cj (bq _) (zvf b hf hl bi);rw[jP hm]at ec;have e1:=zpa C (k:=k) (h:=⟨h.n,h.n,h.os⟩) b hf hl bi;have LL:ev (run F (k+4)) (.call 176 (.cons (.k6 c ji (.var 0)) (.cons (.var 1) (.cons (.var 2) (.cons (.k6 c kQ (.var 0)) .nil))))) [aB (.ref o),aB (iW ls),aB (.int f),aB (ie (ls,aB f))] ⟨h.n,h.n,h.os⟩=.ok (eE B (ls,aB f)) ⟨h.n,h.n,h.os⟩:=by
  have:ev (run F (k+4)) (.cons (.k6 c ji (.var 0)) (.cons (.var 1) (.cons (.var 2) (.cons (.k6 c kQ (.var 0)) .nil)))) [aB (.ref o),aB (iW ls),aB (.int f),aB (ie (ls,aB f))] ⟨h.n,h.n,h.os⟩=.ok (.tup [B.w,iW ls,.int f,.aG]) ⟨h.n,h.n,h.os⟩:=by
   rw[ev,EE q0 rfl,aD,ev,aF rfl,aD,ev,aF rfl,aD,ev,EF q0 rfl,aD,ev];rfl
  rw[ev,this,aD];exact e1
 have e2:=LK (s:=(ls,aB f)) (i:=.var 3) LL (ni (i:=0) q0 rfl) (aF rfl) q0.dct hm hx;have q1:=q0.put (s:=(ls,aB f));have hd:d<h.n:=fV q.dct;refine⟨⟨h.n,if Nat.ble h.lo d then h.lo else d,h.os.set (h.n-1-d) (.dt (xs.map ie++[ie (ls,aB f)]) (xs.map (eE B)++[eE B (ls,aB f)]))⟩,xs++[(ls,aB f)],?_,⟨q1.ins,q1.dct⟩,rfl,λz h1 h2=>?_,λi hi=>rP (h:=⟨h.n,h.n,h.os⟩) q0.dct hi,by simp⟩;have eb:exs (run F (k+4)) (jw c).body [aB (.ref o),aB (iW ls),aB (.int f),aC] ⟨h.n,h.n,h.os⟩=.ok (.rt (eE B (ls,aB f))) ((VH.mk h.n h.n h.os).set d (.dt (xs.map ie++[ie (ls,aB f)]) (xs.map (eE B)++[eE B (ls,aB f)]))):=by
  refine(aX s1).trans ?_;refine(aX (b:=_) ((oh ec).trans ((aX e2).trans rfl))).trans ?_;refine dB (dz ?_);rw[ev,ni q1 rfl,aD,aF rfl,aD,R5 q1.dct (by simp),aT]
 show fin h (exs (run F (k+4)) (jw c).body [aB (.ref o),aB (iW ls),aB (.int f),aC] ⟨h.n,h.n,h.os⟩)=_;rw[eb];show leave h _ _=_;unfold leave VH.set;have h1:Nat.blt d h.n=true:=fN.mpr hd;have h2:Nat.ble h.n d=false:=by
  cases z:Nat.ble h.n d with|false=>rfl|true=>exact absurd (kU z) (by lia)
 simp only[h1,bX,h2,qV,eT,dg];show z<=(if Nat.ble h.lo d then h.lo else d)
 split<;>assumption
end
theorem zvg:dY (bf "fall") dS [a,b,e]=aC:=by
 have h1:(ji=bf "fall")=False:=by simp only[wI,wJ];decide +kernel
 have h2:(kQ=bf "fall")=False:=by simp only[wI,wJ];decide +kernel
 have h3:(iY=bf "fall")=False:=by simp only[wI,wJ];decide +kernel
 simp only[dS,dY,h1,h2,h3,dg]
section
variable{F:Nat->Option Fn}{c:ah}(C:jx F c)
include C
theorem R7{k:Nat}{row:W}{o d l:Nat}(b:B.Ok):∀(r:List Nat) (ls:List Int) (ns:List W) (xs:List nc) (g:VH) (x y:Option W),(∀f∈r,f<B.fd.length)->(ls.length:Int)=B.gr->bQ ls->ns.length+r.length<=100000->xs.length+r.length<=100000->Bq c B g o d xs->g.get l=aB (.lst ns)->
 ∃g' xs' x' y',forL (bJ (.one 4)) (exs (run F (k+5)) (yY c)) (aJ r) [aB (.ref o),aB (iW ls),aB row,aB (.ref l),x,y] g=.ok (.nx [aB (.ref o),aB (iW (aQ B r ls).2),aB row,aB (.ref l),x',y']) g'/\Bq c B g' o d xs'/\g'.get l=aB (.lst (ns++(aQ B r ls).1))/\xs'.length<=xs.length+r.length/\∀z,z<=g.lo->z<=d->z<=l->z<=g'.lo
 |[],ls,ns,xs,g,x,y,_,_,_,_,_,q,gl=>⟨g,xs,x,y,by simp[forL,aJ,aQ],q,by simpa[aQ]using gl,zk _ _,λz h _ _=>h⟩
 |f::r,ls,ns,xs,g,x,y,hr,hl,bi,hn,hx,q,gl=>by
  have hf:=hr f fy;have qf:=b.aS hf hl bi;obtain⟨z,ez,_⟩:=Ho b hf hl bi;rw[dh]at hn hx;obtain⟨g1,xs1,e1,q1,n1,lo1,o1,l1⟩:=EG C (k:=k) b hf hl bi q (by lia);have uC:g1.get l=aB (.lst ns):=by
   rw[o1 l λz=>by subst z;rw[q.dct]at gl;cases gl];exact gl
  have em:ev (run F (k+5)) (.jm c (bf "fall") 345 (.var 0) (.cons (.var 1) (.cons (.var 4) .nil))) [aB (.ref o),aB (iW ls),aB row,aB (.ref l),aB (.int f),y] g=.ok (eE B (ls,aB f)) g1:=by
   have ea:ev (run F (k+5)) (.cons (.var 1) (.cons (.var 4) .nil)) [aB (.ref o),aB (iW ls),aB row,aB (.ref l),aB (.int f),y] g=.ok (.tup [iW ls,.int f]) g:=by
    rw[ev,aF rfl,aD,ev,aF rfl,aD,ev];rfl
   have hi:iO c (bf "fall") g (.ref o)=true:=by
    simp only[iO,q.ins,zvg,wH,Option.isNone_none,Fd]
   rw[ev,aF rfl,aD];show(if iO c (bf "fall") g (.ref o)=true then _ else _)=_;rw[if_pos hi,ea,aD];exact e1
  have e2:exs (run F (k+5)) (.oA [5,1] (.jm c (bf "fall") 345 (.var 0) (.cons (.var 1) (.cons (.var 4) .nil)))) [aB (.ref o),aB (iW ls),aB row,aB (.ref l),aB (.int f),y] g=.ok (.nx [aB (.ref o),aB (iW (B.aS ls f).ls),aB row,aB (.ref l),aB (.int f),aB (outD B ls f)]) g1:=by
   rw[exs,em,aD];rfl
  have ea:=Ao (cl:=run F (k+5)) (i:=3) (l:=l) (x:=.idx (.var 5) (.cst (.int 0))) (ρ:=[aB (.ref o),aB (iW (B.aS ls f).ls),aB row,aB (.ref l),aB (.int f),aB (outD B ls f)]) (h:=g1) (h1:=g1) (w:=nameP B ls f) (acc:=ns) (qm:=ns) rfl uC (by rw[ez];simp only[ev,ja,i9,jz,aT,aD,aZ];rfl) uC (by lia);obtain⟨g',xs',x',y',ih,iq,il,R8,ilo⟩:=R7 (k:=k) (row:=row) b r (B.aS ls f).ls (ns++[nameP B ls f]) xs1 (g1.set l (.lst (ns++[nameP B ls f]))) (aB (.int f)) (aB (outD B ls f)) (λg hg=>hr g (eU _ hg)) (by rw[qf.l1];exact hl) qf.l2 (by rw[gh,jA];lia) (by lia) (q1.other uC) (yJ uC);refine⟨g',xs',x',y',?_,iq,by rw[il];simp only[aQ,zq,zm],by rw[dh];lia,λz h1 h2 h3=>ilo z (R6 (lo1 z h1 h2) h3) h2 h3⟩;have eb:exs (run F (k+5)) (yY c) [aB (.ref o),aB (iW ls),aB row,aB (.ref l),aB (.int f),y] g=.ok (.nx [aB (.ref o),aB (iW (B.aS ls f).ls),aB row,aB (.ref l),aB (.int f),aB (outD B ls f)]) (g1.set l (.lst (ns++[nameP B ls f]))):=by
   unfold yY;rw[aX e2];simp only[exs,ea,aD]
  show forL (bJ (.one 4)) (exs (run F (k+5)) (yY c)) (.int f::aJ r) _ _=_;simp only[forL,bJ,kX,jT,eb,aD,ih,aQ]
end
section
variable{F:Nat->Option Fn}{c:ah}(C:jx F c)
include C
theorem EH{k:Nat}{h:VH}{w1 w2:W}:run F (k+1) 344 [.ref h.n,w1,w2] (h.new (.ins c [] []))=.ok .aG ⟨h.n+2,if Nat.ble h.lo h.n then h.lo else h.n,.dt [] [] :: .ins c dS [w1,w2,.ref (h.n+1)]::h.os⟩:=by
 rw[cz C.LG rfl];have b1:Nat.blt h.n (h.n+1)=true:=fN.mpr (by lia);have b2:Nat.blt h.n (h.n+2)=true:=fN.mpr (by lia);have b3:Nat.blt h.n h.n=false:=by
  cases z:Nat.blt h.n h.n with|false=>rfl|true=>exact absurd (fN.mp z) (nq _)
 have b4:Nat.ble (h.n+1) h.n=false:=by
  cases z:Nat.ble (h.n+1) h.n with|false=>rfl|true=>exact absurd (kU z) (by lia)
 have s1:exs (run F k) (.sat c ji (.var 0) (.var 1)) [aB (.ref h.n),aB w1,aB w2] ⟨h.n+1,h.n+1,.ins c [] []::h.os⟩=.ok (.nx [aB (.ref h.n),aB w1,aB w2]) ⟨h.n+1,h.n,.ins c [ji] [w1]::h.os⟩:=by
  have g:(VH.mk (h.n+1) (h.n+1) (.ins c [] []::h.os)).get h.n=aB (.ins c [] []):=gW (h:=⟨h.n,h.n+1,h.os⟩);rw[exs,aF rfl,aD,aF rfl,aD];simp only[kr,g,wH,AE];rw[if_pos (by decide)];unfold VH.set;simp only[b1,bX,show h.n+1-1-h.n=0 by lia,jT,putN,kq]
 have s2:exs (run F k) (.sat c kQ (.var 0) (.var 2)) [aB (.ref h.n),aB w1,aB w2] ⟨h.n+1,h.n,.ins c [ji] [w1]::h.os⟩=.ok (.nx [aB (.ref h.n),aB w1,aB w2]) ⟨h.n+1,h.n,.ins c [ji,kQ] [w1,w2]::h.os⟩:=by
  have g:(VH.mk (h.n+1) h.n (.ins c [ji] [w1]::h.os)).get h.n=aB (.ins c [ji] [w1]):=gW (h:=⟨h.n,h.n,h.os⟩);rw[exs,aF rfl,aD,aF rfl,aD];simp only[kr,g,wH,AE];rw[if_pos (by decide)];unfold VH.set;simp only[b3,eT,dg,show h.n+1-1-h.n=0 by lia,jT,putN,kq,ED]
 have s3:exs (run F k) (.sat c iY (.var 0) (.rE .nil)) [aB (.ref h.n),aB w1,aB w2] ⟨h.n+1,h.n,.ins c [ji,kQ] [w1,w2]::h.os⟩=.ok (.nx [aB (.ref h.n),aB w1,aB w2]) ⟨h.n+2,h.n,.dt [] [] :: .ins c dS [w1,w2,.ref (h.n+1)]::h.os⟩:=by
  have ed:ev (run F k) (.rE .nil) [aB (.ref h.n),aB w1,aB w2] ⟨h.n+1,h.n,.ins c [ji,kQ] [w1,w2]::h.os⟩=.ok (.ref (h.n+1)) ⟨h.n+2,h.n,.dt [] [] :: .ins c [ji,kQ] [w1,w2]::h.os⟩:=rfl;have g:(VH.mk (h.n+2) h.n (.dt [] [] :: .ins c [ji,kQ] [w1,w2]::h.os)).get h.n=aB (.ins c [ji,kQ] [w1,w2]):=by
   unfold VH.get;simp only[b2,bX,show h.n+2-1-h.n=1 by lia];rfl
  rw[exs,ed,aD,aF rfl,aD];simp only[kr,g,wH,AE];rw[if_pos (by decide)];unfold VH.set;simp only[b3,eT,dg,show h.n+2-1-h.n=1 by lia,jT,kX,putN,kq,R3,R4,dS]
 have eb:exs (run F k) (ng c).body [aB (.ref h.n),aB w1,aB w2] ⟨h.n+1,h.n+1,.ins c [] []::h.os⟩=.ok (.nx [aB (.ref h.n),aB w1,aB w2]) ⟨h.n+2,h.n,.dt [] [] :: .ins c dS [w1,w2,.ref (h.n+1)]::h.os⟩:=(aX s1).trans ((aX s2).trans ((aX s3).trans rfl));show fin (h.new (.ins c [] [])) (exs (run F k) (ng c).body [aB (.ref h.n),aB w1,aB w2] ⟨h.n+1,h.n+1,.ins c [] []::h.os⟩)=_;rw[eb];show leave (h.new (.ins c [] [])) .aG _=_;unfold leave;show(if(Nat.ble (h.n+1) h.n&&_)=true then _ else _)=_;rw[b4,qV,if_neg iZ];rfl
theorem R9{k:Nat}{h:VH}{w1 w2:W}:∃lo,run F (k+2) 347 [w1,w2] h=.ok (.ref h.n) ⟨h.n+2,lo,.dt [] [] :: .ins c dS [w1,w2,.ref (h.n+1)]::h.os⟩/\∀z,z<=h.lo->z<=h.n->z<=lo:=by
 rw[cz C.LI rfl];have e:=EH C (k:=k) (h:=⟨h.n,h.n,h.os⟩) (w1:=w1) (w2:=w2);have IC:Nat.ble h.n h.n=true:=rW.mpr (bq _);have ea:ev (run F (k+1)) (.cons (.var 0) (.cons (.var 1) .nil)) [aB w1,aB w2] ⟨h.n,h.n,h.os⟩=.ok (.tup [w1,w2]) ⟨h.n,h.n,h.os⟩:=by
  rw[ev,aF rfl,aD,ev,aF rfl,aD,ev];rfl
 have em:ev (run F (k+1)) (.mk c 344 (.cons (.var 0) (.cons (.var 1) .nil))) [aB w1,aB w2] ⟨h.n,h.n,h.os⟩=.ok (.ref h.n) ⟨h.n+2,h.n,.dt [] [] :: .ins c dS [w1,w2,.ref (h.n+1)]::h.os⟩:=by
  rw[ev,ea,aD];show(run F (k+1) 344 [.ref h.n,w1,w2] _).bind _=_;rw[e,aD];simp only[IC,bX];rfl
 have eb:exs (run F (k+1)) (nh c).body [aB w1,aB w2] ⟨h.n,h.n,h.os⟩=.ok (.rt (.ref h.n)) ⟨h.n+2,h.n,.dt [] [] :: .ins c dS [w1,w2,.ref (h.n+1)]::h.os⟩:=dB (dz em);refine⟨if Nat.ble h.lo h.n then h.lo else h.n,?_,λz h1 h2=>by split<;>assumption⟩;show fin h (exs (run F (k+1)) (nh c).body [aB w1,aB w2] ⟨h.n,h.n,h.os⟩)=_;rw[eb];show leave h (.ref h.n) _=_;have hlt:W.lt h.n (.ref h.n)=false:=by
  show Nat.blt h.n h.n=false;cases z:Nat.blt h.n h.n with|false=>rfl|true=>exact absurd (fN.mp z) (nq _)
 unfold leave;rw[hlt,Bool.and_false,if_neg iZ]
omit C in
theorem Bq.new{o d:Nat}(q:Bq c B h o d xs):Bq c B (h.new v) o d xs:=
 ⟨(jV (fV q.ins)).trans q.ins,(jV (fV q.dct)).trans q.dct⟩
theorem Sa{k:Nat}{r:List Nat}{o d:Nat}(b:B.Ok)(hr:r.length<=2000)(hf:∀f∈r,f<B.fd.length)(hl:(ls.length:Int)=B.gr)(bi:bQ ls)(q:Bq c B h o d xs)(hx:xs.length<=90000) :
 ∃h',run F (k+6) 179 [.ref o,iW ls,.tup (aJ r)] h=.ok (.tup [.tup (aQ B r ls).1,iW (aQ B r ls).2]) h'/\(∃xs',Bq c B h' o d xs'/\xs'.length<=xs.length+r.length)/\∀z,z<=h.lo->z<=d->z<=h.n->z<=h'.lo:=by
 have q0:Bq c B ((VH.mk h.n h.n h.os).new (.lst [])) o d xs:=q.lo.new;have g0:((VH.mk h.n h.n h.os).new (.lst [])).get h.n=aB (.lst []):=gW (h:=⟨h.n,h.n,h.os⟩);obtain⟨g,xs',x,y,e3,iq,il,R8,ilo⟩:=R7 C (k:=k) (row:=.tup (aJ r)) b r ls [] xs _ aC aC hf hl bi (by rw[qY];lia) (by lia) q0 g0;have hz:(aJ r).length<1000000:=by unfold aJ;rw[bV];lia
 have s3:exs (run F (k+5)) (.set 3 (.lst .nil)) [aB (.ref o),aB (iW ls),aB (.tup (aJ r)),aC,aC,aC] ⟨h.n,h.n,h.os⟩=.ok (.nx [aB (.ref o),aB (iW ls),aB (.tup (aJ r)),aB (.ref h.n),aC,aC]) ((VH.mk h.n h.n h.os).new (.lst [])):=rfl;have s4:exs (run F (k+5)) (.«for» .seq (.var 2) (.one 4) (yY c)) [aB (.ref o),aB (iW ls),aB (.tup (aJ r)),aB (.ref h.n),aC,aC] ((VH.mk h.n h.n h.os).new (.lst []))=.ok (.nx [aB (.ref o),aB (iW (aQ B r ls).2),aB (.tup (aJ r)),aB (.ref h.n),x,y]) g:=by
  have ef:=v8 (tg:=bJ (.one 4)) (b:=exs (run F (k+5)) (yY c)) (ρ:=[aB (.ref o),aB (iW ls),aB (.tup (aJ r)),aB (.ref h.n),aC,aC]) (h:=(VH.mk h.n h.n h.os).new (.lst [])) hz;rw[e3]at ef;rw[exs,aF rfl,aD,ef]
 have eb:exs (run F (k+5)) (kR c).body [aB (.ref o),aB (iW ls),aB (.tup (aJ r)),aC,aC,aC] ⟨h.n,h.n,h.os⟩=.ok (.rt (.tup [.tup (aQ B r ls).1,iW (aQ B r ls).2])) g:=by
  refine(aX s3).trans ((aX s4).trans (dB (dz (qy (wj rfl ?_) (aF rfl)))));rw[il];rfl
 have hlt:W.lt h.n (.tup [.tup (aQ B r ls).1,iW (aQ B r ls).2])=true:=by
  obtain⟨_,_,hn⟩:=wk b r ls hf hl bi;simp only[eN,bK,dJ,g9,AD];have:∀ws:List W,(∀w∈ws,w=.aG\/∃i:Int,w=.int i)->W.jU h.n ws=true:=by
   intro ws;induction ws with
   |nil=>intro _;simp
   |cons w r ih=>
    intro hw;rw[bK,ih λw h=>hw w (eU _ h)];rcases hw w fy with rfl|⟨i,rfl⟩<;>simp
  exact this _ hn
 have LM:∀z,z<=d->z<=h.n->z<=g.lo:=λz h1 h2=>ilo z h2 h1 h2;rw[cz C.LJ rfl];by_cases hc:h.n<=g.lo;refine⟨h,?_,⟨xs,q,zk _ _⟩,λz h1 _ _=>h1⟩;show fin h (exs (run F (k+5)) (kR c).body [aB (.ref o),aB (iW ls),aB (.tup (aJ r)),aC,aC,aC] ⟨h.n,h.n,h.os⟩)=_;rw[eb];exact cj hc hlt;refine⟨⟨g.n,if Nat.ble h.lo g.lo then h.lo else g.lo,g.os⟩,?_,⟨xs',iq.lo,R8⟩,λz h1 h2 h3=>?_⟩;show fin h (exs (run F (k+5)) (kR c).body [aB (.ref o),aB (iW ls),aB (.tup (aJ r)),aC,aC,aC] ⟨h.n,h.n,h.os⟩)=_;rw[eb];show leave h _ g=_;unfold leave;have h2:Nat.ble h.n g.lo=false:=by
  cases z:Nat.ble h.n g.lo with|false=>rfl|true=>exact absurd (kU z) hc
 rw[h2,qV,if_neg iZ];have:=LM z h2 h3;show z<=(if Nat.ble h.lo g.lo then h.lo else g.lo)
 split<;>assumption
end
structure CoreLn(F:Nat->Option Fn):Prop where
 uA:F 17=aB nW
 f22:F 22=aB yx
 f24:F 24=aB yy
structure qH(F:Nat->Option Fn):Prop extends CoreLn F where
 Sb:F 28=aB qe
 LN:F 180=aB qi
section
variable{F:Nat->Option Fn}(L:CoreLn F)(B':gZ F)
include L B'
theorem zfe{k:Nat}{h:VH}{B:Bd}{ls:List Int}(b:B.Ok)(hl:(ls.length:Int)=B.gr)(bi:bQ ls):run F (k+9) 24 [B.w,iW ls] h=.ok .aG h:=by
 have hg:=b.g2;have w0:∀h:VH,run F (k+7) 17 [iW ls,.int B.gr] h=.ok (.bl true) h:=by
  intro h;rw[cz L.uA rfl];have e:=DS B'.toCoreA (k:=k+3) (h:=⟨h.n,h.n,h.os⟩) (w:=iW ls) (a:=B.gr) (b:=B.gr) (lo:=0) (hi:=1) (by unfold Kn iW;simp) (λws e=>by
   cases e;refine⟨by rw[bV];lia,λx hx=>?_⟩;obtain⟨y,_,rfl⟩:=lu.mp hx;unfold Kn;simp)
  rw[Ln hl bi]at e;simp[nW,exs,ev,e,cj]
 have w1:∀h:VH,run F (k+8) 22 [B.w,iW ls] h=.ok (.bl true) h:=by
  intro h;rw[cz L.f22 rfl];have e:=zg4 B' (k:=k) (h:=⟨h.n,h.n,h.os⟩) b;have i0:aZ ⟨h.n,h.n,h.os⟩ B.w (.int 1)=aB (.int B.gr):=rfl;have e2:=w0 ⟨h.n,h.n,h.os⟩;simp[yx,exs,ev,e,i0,e2,cj]
 rw[cz L.f24 rfl];simp[yy,exs,ev,w1,KR]
end
section
variable{F:Nat->Option Fn}{c:ah}(C:jx F c)(R:qH F)(B':gZ F)
include R B'
theorem zi0{k:Nat}{h:VH}{B:Bd}{r:List Nat}(hr:r.length<=2000)(hf:∀f∈r,f<B.fd.length):run F (k+5) 180 [B.w,.tup (aJ r)] h=.ok .aG h:=by
 have e:∀h:VH,run F (k+4) 28 [.tup (aJ r),.int B.fd.length,.int 2000] h=.ok (.bl true) h:=by
  intro h;rw[cz R.Sb rfl];have e:=DS B'.toCoreA (k:=k) (h:=⟨h.n,h.n,h.os⟩) (w:=.tup (aJ r)) (a:=0) (b:=2000) (lo:=0) (hi:=B.fd.length-1) (by unfold Kn;simp) (λws e=>by
   cases e;unfold aJ;refine⟨by rw[bV];lia,λx hx=>?_⟩;obtain⟨y,_,rfl⟩:=lu.mp hx;unfold Kn;simp)
  have e2:fK (.tup (aJ r)) 0 2000 0 (B.fd.length-1)=true:=by
   unfold aJ fK gp;simp only[bV,aY,gH,jZ];refine⟨⟨by lia,by lia⟩,λw hw=>?_⟩;obtain⟨x,hx,rfl⟩:=lu.mp hw;have:=hf x hx;simp only[within,aY,gH];lia
  rw[e2]at e;simp[qe,exs,ev,fk,fM,e,cj]
 rw[cz R.LN rfl];have i3:aZ ⟨h.n,h.n,h.os⟩ B.w (.int 3)=aB (.tup B.fd):=rfl;simp[qi,exs,ev,i3,gV,gz,aO,e,KR]
include C
theorem nj{k:Nat}{h:VH}{B:Bd}{ls:List Int}{r:List Nat}(om:F 183=aB kO)(b:B.Ok)(hr:r.length<=2000)(hf:∀f∈r,f<B.fd.length)(hl:(ls.length:Int)=B.gr)(bi:bQ ls):run F (k+10) 183 [B.w,iW ls,.tup (aJ r)] h=.ok (.tup [.tup (aQ B r ls).1,iW (aQ B r ls).2]) h:=by
 rw[cz om rfl];have e1:=zfe R.toCoreLn B' (k:=k) (h:=⟨h.n,h.n,h.os⟩) b hl bi;have e2:=zi0 R B' (k:=k+4) (h:=⟨h.n,h.n,h.os⟩) (B:=B) hr hf;obtain⟨lo,e3,hlo⟩:=R9 C (k:=k+7) (h:=⟨h.n,h.n,h.os⟩) (w1:=B.w) (w2:=.aG);have q:Bq c B ⟨h.n+2,lo,.dt [] [] :: .ins c dS [B.w,.aG,.ref (h.n+1)]::h.os⟩ h.n (h.n+1) []:=by
  refine⟨?_,gW (h:=⟨h.n+1,lo,.ins c dS [B.w,.aG,.ref (h.n+1)]::h.os⟩)⟩;exact(jV (h:=⟨h.n+1,lo,.ins c dS [B.w,.aG,.ref (h.n+1)]::h.os⟩) (o:=.dt [] []) (by show h.n<h.n+1;lia)).trans (gW (h:=⟨h.n,lo,h.os⟩))
 obtain⟨h',e4,_,lo'⟩:=Sa C (k:=k+3) b hr hf hl bi q (i8 _);have s1:exs (run F (k+9)) (.expr (.call 24 (.cons (.var 0) (.cons (.var 1) .nil)))) [aB B.w,aB (iW ls),aB (.tup (aJ r))] ⟨h.n,h.n,h.os⟩=.ok (.nx [aB B.w,aB (iW ls),aB (.tup (aJ r))]) ⟨h.n,h.n,h.os⟩:=by
  simp[exs,ev,e1]
 have s2:exs (run F (k+9)) (.expr (.call 180 (.cons (.var 0) (.cons (.var 2) .nil)))) [aB B.w,aB (iW ls),aB (.tup (aJ r))] ⟨h.n,h.n,h.os⟩=.ok (.nx [aB B.w,aB (iW ls),aB (.tup (aJ r))]) ⟨h.n,h.n,h.os⟩:=by
  simp[exs,ev,e2]
 have ec:ev (run F (k+9)) (.call 347 (.cons (.var 0) (.cons (.cst .aG) .nil))) [aB B.w,aB (iW ls),aB (.tup (aJ r))] ⟨h.n,h.n,h.os⟩=.ok (.ref h.n) ⟨h.n+2,lo,.dt [] [] :: .ins c dS [B.w,.aG,.ref (h.n+1)]::h.os⟩:=by
  have:ev (run F (k+9)) (.cons (.var 0) (.cons (.cst .aG) .nil)) [aB B.w,aB (iW ls),aB (.tup (aJ r))] ⟨h.n,h.n,h.os⟩=.ok (.tup [B.w,.aG]) ⟨h.n,h.n,h.os⟩:=rfl;rw[ev,this,aD];exact e3
 have er:ev (run F (k+9)) (.call 179 (.cons (.call 347 (.cons (.var 0) (.cons (.cst .aG) .nil))) (.cons (.var 1) (.cons (.var 2) .nil)))) [aB B.w,aB (iW ls),aB (.tup (aJ r))] ⟨h.n,h.n,h.os⟩=.ok (.tup [.tup (aQ B r ls).1,iW (aQ B r ls).2]) h':=by
  have:ev (run F (k+9)) (.cons (.call 347 (.cons (.var 0) (.cons (.cst .aG) .nil))) (.cons (.var 1) (.cons (.var 2) .nil))) [aB B.w,aB (iW ls),aB (.tup (aJ r))] ⟨h.n,h.n,h.os⟩=.ok (.tup [.ref h.n,iW ls,.tup (aJ r)]) ⟨h.n+2,lo,.dt [] [] :: .ins c dS [B.w,.aG,.ref (h.n+1)]::h.os⟩:=by
   rw[ev,ec,aD,ev,aF rfl,aD,ev,aF rfl,aD,ev];rfl
  rw[ev,this,aD];exact e4
 have eb:exs (run F (k+9)) kO.body [aB B.w,aB (iW ls),aB (.tup (aJ r))] ⟨h.n,h.n,h.os⟩=.ok (.rt (.tup [.tup (aQ B r ls).1,iW (aQ B r ls).2])) h':=(aX s1).trans ((aX s2).trans (dB (dz er)));show fin h (exs (run F (k+9)) kO.body [aB B.w,aB (iW ls),aB (.tup (aJ r))] ⟨h.n,h.n,h.os⟩)=_;rw[eb];refine cj (lo' h.n (hlo h.n (bq _) (bq _)) (oq _) (by show h.n<=h.n+2;lia)) ?_;obtain⟨_,_,hn⟩:=wk b r ls hf hl bi;simp only[eN,bK,dJ,g9,AD];have:∀ws:List W,(∀w∈ws,w=.aG\/∃i:Int,w=.int i)->W.jU h.n ws=true:=by
  intro ws;induction ws with
  |nil=>intro _;simp
  |cons w r ih=>
   intro hw;rw[bK,ih λw h=>hw w (eU _ h)];rcases hw w fy with rfl|⟨i,rfl⟩<;>simp
 exact this _ hn
end
noncomputable def tR(nr:Int):Fn:=⟨2,2,(.seq (.seq (.ite (.not (.kZ (.call 28 (.cons (.var 1) (.cons (.bi .len (.cons (.idx (.var 0) (.cst (.int (3)))) .nil)) (.cons (.cst (.int (2000))) .nil)))))) (.seq (.ret (.cst (.int nr))) .skip) .skip) .skip) (.ret (.cst (.tup [.aG]))))⟩
noncomputable def tT(a:Nat):Fn:=⟨3,3,(.seq (.seq (.jc a (.cons (.var 0) (.cons (.var 1) .nil)) false .skip .skip) (.seq (.jc (a+1) (.cons (.var 0) (.cons (.var 2) .nil)) false .skip .skip) (.seq (.ret (.tup (.cons (.call 179 (.cons (.call 347 (.cons (.var 0) (.cons (.cst .aG) .nil))) (.cons (.var 1) (.cons (.var 2) .nil)))) .nil))) .skip))) (.ret (.cst (.tup [.aG]))))⟩
structure Ax(F:Nat->Option Fn)(c:ah):Prop where
 q:we F
 b:gZ F
 o:jx F c
 r:qH F
 l:wo F
 Lu:F 20=aB qd
 Ay:F 39=aB qh
 yZ:F 114=aB kN
 om:F 183=aB kO
 LO:F 700=aB DM
 LP:F 701=aB DN
 LQ:F 702=aB DO
 EI:F 703=aB Aj
 LR:F 704=aB DP
 t:Ew F 705 37 56 68
 t3:F 708=aB (tR 104)
 t4:F 709=aB (tT 707)
theorem Se(hl:ls.length<=1000):jX h (iW ls):=EA (by rw[bV];lia) λz hz=>by
 obtain⟨i,_,rfl⟩:=lu.mp hz;simp[Kn]
theorem zvh{r:List Nat}(hl:r.length<=5000):jX h (.tup (aJ r)):=EA (by unfold aJ;rw[bV];lia) λz hz=>by
 obtain⟨i,_,rfl⟩:=lu.mp hz;simp[Kn]
theorem zvi{n:Nat}{r:List Nat}(hr:r.length<=2000)(hf:∀f∈r,f<n):fK (.tup (aJ r)) 0 2000 0 ((n:Int)-1)=true:=by
 unfold aJ fK gp;simp only[bV,aY,gH,jZ];refine⟨⟨by lia,by lia⟩,λw hw=>?_⟩;obtain⟨x,hx,rfl⟩:=lu.mp hw;have:=hf x hx;simp only[within,aY,gH];lia
section
variable{F:Nat->Option Fn}{c:ah}(C:Ax F c)
include C
theorem Sf{k:Nat}{h:VH}{B:Bd}{w:W}(hw:jX h w):run F (k+5) 708 [B.w,w] h=.ok (if fK w 0 2000 0 ((B.fd.length:Int)-1)then .tup [.aG]else .int 104) h:=by
 rw[cz C.t3 rfl];have e1:run F (k+4) 28 [w,.int B.fd.length,.int 2000] ⟨h.n,h.n,h.os⟩=.ok (.bl (fK w 0 2000 0 ((B.fd.length:Int)-1))) ⟨h.n,h.n,h.os⟩:=by
  rw[cz C.r.Sb rfl];have e:=DS C.b.toCoreA (k:=k) (h:=⟨h.n,h.n,h.os⟩) (w:=w) (a:=0) (b:=2000) (lo:=0) (hi:=(B.fd.length:Int)-1) hw.lo.1 hw.lo.2;show fin ⟨h.n,h.n,h.os⟩ (exs (run F (k+3)) qe.body [aB w,aB (.int B.fd.length),aB (.int 2000)] ⟨h.n,h.n,h.os⟩)=_;rw[show exs (run F (k+3)) qe.body [aB w,aB (.int B.fd.length),aB (.int 2000)] ⟨h.n,h.n,h.os⟩=.ok (.rt (.bl (fK w 0 2000 0 ((B.fd.length:Int)-1)))) ⟨h.n,h.n,h.os⟩from dB (dz (Hs (aH (aF rfl) (aH aP (aH (aF rfl) (aH aP (aH (l8 (aF rfl) aP rfl) bH))))) e))];exact cj (bq _) jr
 have e2:ev (run F (k+4)) (.call 28 (.cons (.var 1) (.cons (.bi .len (.cons (.idx (.var 0) (.cst (.int (3)))) .nil)) (.cons (.cst (.int (2000))) .nil)))) [aB B.w,aB w] ⟨h.n,h.n,h.os⟩=.ok (.bl (fK w 0 2000 0 ((B.fd.length:Int)-1))) ⟨h.n,h.n,h.os⟩:=qx (aF rfl) (jO (cN (aF rfl) aP (show aZ _ B.w (.int 3)=aB (.tup B.fd)from rfl)) rfl) aP e1;show fin h (exs (run F (k+4)) (tR 104).body [aB B.w,aB w] ⟨h.n,h.n,h.os⟩)=_;cases q:fK w 0 2000 0 ((B.fd.length:Int)-1)with
 |true=>
  rw[q]at e2;rw[show exs (run F (k+4)) (tR 104).body [aB B.w,aB w] ⟨h.n,h.n,h.os⟩=.ok (.rt (.tup [.aG])) ⟨h.n,h.n,h.os⟩from(aX ((aX ((fO (gn e2)).trans rfl)).trans rfl)).trans (dz aP)];exact cj (bq _) (by rw[eN,bK,lW,dJ];rfl)
 |false=>
  rw[q]at e2;rw[show exs (run F (k+4)) (tR 104).body [aB B.w,aB w] ⟨h.n,h.n,h.os⟩=.ok (.rt (.int 104)) ⟨h.n,h.n,h.os⟩from dB (dB ((oh (gn e2)).trans (dB (dz aP))))];exact cj (bq _) lt_int
theorem Sg{k:Nat}{i:Int}(e:run F (k+9) 707 [w,l] ⟨h.n,h.n,h.os⟩=.ok (.int i) ⟨h.n,h.n,h.os⟩):run F (k+10) 709 [w,l,r] h=.ok (.int i) h:=by
 rw[cz C.t4 rfl];show fin h (exs (run F (k+9)) (tT 707).body [aB w,aB l,aB r] ⟨h.n,h.n,h.os⟩)=_;rw[show exs (run F (k+9)) (tT 707).body [aB w,aB l,aB r] ⟨h.n,h.n,h.os⟩=.ok (.rt (.int i)) ⟨h.n,h.n,h.os⟩from dB (dB (uy (aH (aF rfl) (aH (aF rfl) bH)) e))];exact cj (bq _) lt_int
theorem zi1{k:Nat}{h:VH}{B:Bd}{ls:List Int}{r:W}(b:B.Ok)(hl:(ls.length:Int)=B.gr)(bi:bQ ls)(hr:jX h r)(hw:fK r 0 2000 0 ((B.fd.length:Int)-1)=false):run F (k+10) 709 [B.w,iW ls,r] h=.ok (.int 104) h:=by
 rw[cz C.t4 rfl];have g2:=b.g2;have e1:=Ly C.b C.t C.r.uA (k:=k) (h:=⟨h.n,h.n,h.os⟩) (l:=iW ls) b (Se (by lia));rw[Ln hl bi,if_pos rfl]at e1;have e2:=Sf C (k:=k+4) (h:=⟨h.n,h.n,h.os⟩) (B:=B) hr.lo;rw[hw,if_neg (by decide)]at e2;show fin h (exs (run F (k+9)) (tT 707).body [aB B.w,aB (iW ls),aB r] ⟨h.n,h.n,h.os⟩)=_;rw[show exs (run F (k+9)) (tT 707).body [aB B.w,aB (iW ls),aB r] ⟨h.n,h.n,h.os⟩=.ok (.rt (.int 104)) ⟨h.n,h.n,h.os⟩from dB ((aX ((uz (aH (aF rfl) (aH (aF rfl) bH)) e1).trans rfl)).trans (dB (uy (aH (aF rfl) (aH (aF rfl) bH)) e2)))];exact cj (bq _) lt_int
theorem zri{k:Nat}{h:VH}{B:Bd}{ls:List Int}{r:List Nat}(b:B.Ok)(hr:r.length<=2000)(hf:∀f∈r,f<B.fd.length)(hl:(ls.length:Int)=B.gr)(bi:bQ ls):∃w,run F (k+10) 709 [B.w,iW ls,.tup (aJ r)] h=.ok (.tup [w]) h:=by
 rw[cz C.t4 rfl];have g2:=b.g2;have e1:=Ly C.b C.t C.r.uA (k:=k) (h:=⟨h.n,h.n,h.os⟩) (l:=iW ls) b (Se (by lia));rw[Ln hl bi,if_pos rfl]at e1;have e2:=Sf C (k:=k+4) (h:=⟨h.n,h.n,h.os⟩) (B:=B) (w:=.tup (aJ r)) (zvh (by lia));rw[zvi hr hf,if_pos rfl]at e2;obtain⟨lo,e3,hlo⟩:=R9 C.o (k:=k+7) (h:=⟨h.n,h.n,h.os⟩) (w1:=B.w) (w2:=.aG);have q:Bq c B ⟨h.n+2,lo,.dt [] [] :: .ins c dS [B.w,.aG,.ref (h.n+1)]::h.os⟩ h.n (h.n+1) []:=by
  refine⟨?_,gW (h:=⟨h.n+1,lo,.ins c dS [B.w,.aG,.ref (h.n+1)]::h.os⟩)⟩;exact(jV (h:=⟨h.n+1,lo,.ins c dS [B.w,.aG,.ref (h.n+1)]::h.os⟩) (o:=.dt [] []) (by show h.n<h.n+1;lia)).trans (gW (h:=⟨h.n,lo,h.os⟩))
 obtain⟨h',e4,_,lo'⟩:=Sa C.o (k:=k+3) b hr hf hl bi q (i8 _);have er:ev (run F (k+9)) (.call 179 (.cons (.call 347 (.cons (.var 0) (.cons (.cst .aG) .nil))) (.cons (.var 1) (.cons (.var 2) .nil)))) [aB B.w,aB (iW ls),aB (.tup (aJ r))] ⟨h.n,h.n,h.os⟩=.ok (.tup [.tup (aQ B r ls).1,iW (aQ B r ls).2]) h':=
  Hs (aH (Hs (aH (aF rfl) (aH aP bH)) e3) (aH (aF rfl) (aH (aF rfl) bH))) e4
 refine⟨.tup [.tup (aQ B r ls).1,iW (aQ B r ls).2],?_⟩;show fin h (exs (run F (k+9)) (tT 707).body [aB B.w,aB (iW ls),aB (.tup (aJ r))] ⟨h.n,h.n,h.os⟩)=_;rw[show exs (run F (k+9)) (tT 707).body [aB B.w,aB (iW ls),aB (.tup (aJ r))] ⟨h.n,h.n,h.os⟩=.ok (.rt (.tup [.tup [.tup (aQ B r ls).1,iW (aQ B r ls).2]])) h' from dB ((aX ((uz (aH (aF rfl) (aH (aF rfl) bH)) e1).trans rfl)).trans ((aX ((uz (aH (aF rfl) (aH (aF rfl) bH)) e2).trans rfl)).trans (dB (dz (gQ (aH er bH) rfl)))))];refine cj (lo' h.n (hlo h.n (bq _) (bq _)) (oq _) (by show h.n<=h.n+2;lia)) ?_;obtain⟨_,_,hn⟩:=wk b r ls hf hl bi;simp only[eN,bK,dJ,g9,AD];exact RT _ hn
end
theorem Sh(Ay:F 39=aB qh){k:Nat}{i:Int}:run F (k+1) 39 [.int i,.int i] h=.ok (.bl true) h:=by
 rw[cz Ay rfl];simp[qh,exs,ev,aV,jt,cj]
theorem zvj(Ay:F 39=aB qh)(yZ:F 114=aB kN){k:Nat}(ha:a.length<=1000):run F (k+2) 114 [iW a,iW a] h=.ok (.bl true) h:=by
 rw[cz yZ rfl];have el:∀i,[aB (iW a),aB (iW a)][i]?=aB (aB (iW a))->ev (run F (k+1)) (.bi .len (.cons (.var i) .nil)) [aB (iW a),aB (iW a)] ⟨h.n,h.n,h.os⟩=.ok (.int a.length) ⟨h.n,h.n,h.os⟩:=λi hi=>by
  rw[jO (aF hi) (show aO _ (iW a)=aB (a.map .int)from rfl),bV]
 have e4:ev (run F (k+1)) (.or (.not (.kZ (.rF .tuple (.var 0)))) (.cmp .ne (.bi .len (.cons (.var 0) .nil)) (.bi .len (.cons (.var 1) .nil)))) [aB (iW a),aB (iW a)] ⟨h.n,h.n,h.os⟩=.ok (.bl false) ⟨h.n,h.n,h.os⟩:=yW (h1:=⟨h.n,h.n,h.os⟩) rfl (Eu (el 0 rfl) (el 1 rfl) rfl);have e3:=Ey (cl:=run F (k+1)) (a:=.var 0) (b:=.var 1) (e:=QT) (ρ:=[aB (iW a),aB (iW a)]) (h:=⟨h.n,h.n,h.os⟩) (ws:=a.map .int) (aF rfl) (aF rfl) rfl rfl (by rw[bV];lia) λw hw=>by
  obtain⟨i,_,rfl⟩:=lu.mp hw;exact qw (aF rfl) (aF rfl) (Sh Ay)
 show fin h (exs (run F (k+1)) kN.body [aB (iW a),aB (iW a)] ⟨h.n,h.n,h.os⟩)=_;unfold kN;rw[(aX ((fO e4).trans rfl)).trans (dB (dz e3))];exact cj (bq _) jr
section
variable{F:Nat->Option Fn}{c:ah}(C:Ax F c)
include C
theorem Si{k:Nat}{row:W}{l:Nat}(b:B.Ok):∀(r:List Nat) (ls:List Int) (ns:List W) (g:VH) (x4 x5 x6 x7:Option W),(∀f∈r,f<B.fd.length)->(ls.length:Int)=B.gr->bQ ls->ns.length+r.length<=100000->g.get l=aB (.lst ns)->l<=g.lo->g.lo<=g.n->
 ∃y4 y5 y6 y7 g',forL (bJ (.one 4)) (exs (run F (k+1)) yz) (aJ r) [aB B.w,aB (iW ls),aB row,aB (.ref l),x4,x5,x6,x7] g=.ok (.nx [aB B.w,aB (iW (aQ B r ls).2),aB row,aB (.ref l),y4,y5,y6,y7]) g'/\
  g'.get l=aB (.lst (ns++(aQ B r ls).1))/\l<=g'.lo
 |[],ls,ns,g,x4,x5,x6,x7,_,_,_,_,gl,lo1,_=>⟨x4,x5,x6,x7,g,rfl,by simp only[aQ,i7];exact gl,lo1⟩
 |f::r,ls,ns,g,x4,x5,x6,x7,hr,hl,bi,hn,gl,lo1,lo2=>by
  have hf:=hr f fy;rw[dh]at hn;have q:=b.aS hf hl bi;obtain⟨y,oe,_⟩:=Ho b hf hl bi;obtain⟨a1,a2⟩:=b.door q.c4.1 q.c4.2;obtain⟨e0,c0',Es⟩:=b.col hf;obtain⟨i,g1,e1,w1,G⟩:=zrf C.l (k:=k) (h:=g) (B:=B) (ls:=ls) (f:=f) lo2 e0 c0' Es (b.rows hl) b.r1 bi;have uC:=G.get l _ gl;have el:=RJ (cs:=(B.aS ls f).cs) (c:=B.col f);obtain⟨g2,eb,gl2,lo3,lo4⟩:∃g2,exs (run F (k+1)) yz [aB B.w,aB (iW ls),aB row,aB (.ref l),aB (.int f),x5,x6,x7] g=.ok (.nx [aB B.w,aB (iW (B.aS ls f).ls),aB row,aB (.ref l),aB (.int f),aB (iW (B.col f:: (B.aS ls f).cs)),aB (iW (B.aS ls f).ts),aB (.bl (B.aS ls f).st)]) g2/\g2.get l=aB (.lst (ns++[nameP B ls f]))/\l<=g2.lo/\g2.lo<=g2.n:=by
   refine⟨g1.set l (.lst (ns++[nameP B ls f])),?_,yJ uC,R6 (by rw[G.lo];exact lo1) (bq _),?_⟩;unfold yz;refine(aX (ρ':=[aB B.w,aB (iW (B.aS ls f).ls),aB row,aB (.ref l),aB (.int f),aB (iW (B.col f:: (B.aS ls f).cs)),aB (iW (B.aS ls f).ts),aB (.bl (B.aS ls f).st)]) (h':=g1) ?_).trans ?_;rw[exs,qx (aF rfl) (aF rfl) (aF rfl) e1,aD];simp only[bJ,aO,w1];rfl;refine(aX (wu (Ao (l:=l) (w:=nameP B ls f) (h1:=g1) rfl uC ?_ uC (by lia)))).trans rfl;cases z:(B.aS ls f).st with
   |true=>
    have o1:outD B ls f=.tup [.aG,.aG]:=by unfold outD;rw[z];rfl
    rw[o1]at oe;have n1:nameP B ls f=.aG:=by injection oe with oe;injection oe with x1 x2;exact x1.symm
    rw[n1,ev,yV (b:=true) (aF rfl),aD];exact aP
   |false=>
    have o1:outD B ls f=B.door (eB (B.col f) (B.aS ls f).cs):=by unfold outD;rw[z];rfl
    have i1:∀gg:VH,aZ gg (.tup B.dr) (.int (eB (B.col f) (B.aS ls f).cs))=aB (.tup [nameP B ls f,y]):=λgg=>by rw[<-oe,o1];exact a1
    rw[ev,yV (b:=false) (aF rfl),aD];exact cN (cN (cN (aF rfl) aP (show aZ _ B.w (.int 4)=aB (.tup B.dr)from rfl)) (cN (aF rfl) (Ez aP) (show aZ g1 (iW (B.col f:: (B.aS ls f).cs)) (.int (-1))=aB _ from el)) (i1 g1)) aP rfl
   show(if Nat.blt l g1.lo then l else g1.lo)<=g1.n;have:=G.le;have:=G.lo;have hl1:=fV uC;split<;>lia
  obtain⟨y4,y5,y6,y7,g',ih,gl',lo'⟩:=Si (k:=k) (row:=row) (l:=l) b r (B.aS ls f).ls (ns++[nameP B ls f]) g2 (aB (.int f)) (aB (iW (B.col f:: (B.aS ls f).cs))) (aB (iW (B.aS ls f).ts)) (aB (.bl (B.aS ls f).st)) (λz hz=>hr z (eU _ hz)) (by rw[q.l1];exact hl) q.l2 (by rw[gh,jA];lia) gl2 lo3 lo4;refine⟨y4,y5,y6,y7,g',?_,by rw[gl'];simp only[aQ,zq,zm],lo'⟩;show forL (bJ (.one 4)) (exs (run F (k+1)) yz) (.int f::aJ r) _ g=_;rw[forL];show(exs (run F (k+1)) yz [aB B.w,aB (iW ls),aB row,aB (.ref l),aB (.int f),x5,x6,x7] g).bind _=_;rw[eb,aD];exact ih
theorem EJ{k:Nat}{h:VH}{r:List Nat}(b:B.Ok)(hr:r.length<=2000)(hf:∀f∈r,f<B.fd.length)(hl:(ls.length:Int)=B.gr)(bi:bQ ls) :
 run F (k+2) 702 [B.w,iW ls,.tup (aJ r)] h=.ok (.tup [.tup (aQ B r ls).1,iW (aQ B r ls).2]) h:=by
 rw[cz C.LQ rfl];obtain⟨y4,y5,y6,y7,g',e,gl,lo⟩:=Si C (k:=k) (B:=B) (row:=.tup (aJ r)) (l:=h.n) b r ls [] (VH.new ⟨h.n,h.n,h.os⟩ (.lst [])) aC aC aC aC hf hl bi (by rw[qY];lia) (gW (h:=⟨h.n,h.n,h.os⟩)) (bq _) (oq _);rw[uM]at gl;have hz:(aJ r).length<1000000:=by unfold aJ;rw[bV];lia
 have eb:exs (run F (k+1)) DO.body [aB B.w,aB (iW ls),aB (.tup (aJ r)),aC,aC,aC,aC,aC] ⟨h.n,h.n,h.os⟩=.ok (.rt (.tup [.tup (aQ B r ls).1,iW (aQ B r ls).2])) g':=by
  unfold DO;refine(aX (dR (qA bH rfl))).trans ?_;refine(aX (ρ':=[aB B.w,aB (iW (aQ B r ls).2),aB (.tup (aJ r)),aB (.ref h.n),y4,y5,y6,y7]) (h':=g') ?_).trans ?_;have ei:ev (run F (k+1)) (.var 2) [aB B.w,aB (iW ls),aB (.tup (aJ r)),aB (.ref h.n),aC,aC,aC,aC] (VH.new ⟨h.n,h.n,h.os⟩ (.lst []))=.ok (.tup (aJ r)) (VH.new ⟨h.n,h.n,h.os⟩ (.lst [])):=aF rfl;show exs (run F (k+1)) (.«for» .seq (.var 2) (.one 4) yz) [aB B.w,aB (iW ls),aB (.tup (aJ r)),aB (.ref h.n),aC,aC,aC,aC] (VH.new ⟨h.n,h.n,h.os⟩ (.lst []))=_;rw[exs,ei,aD];exact(v8 hz).trans e;exact dB (dz (gQ (aH (wj (i:=3) rfl gl) (aH (aF rfl) bH)) rfl))
 show fin h (exs (run F (k+1)) DO.body [aB B.w,aB (iW ls),aB (.tup (aJ r)),aC,aC,aC,aC,aC] ⟨h.n,h.n,h.os⟩)=_;rw[eb];refine cj lo ?_;obtain⟨_,_,hn⟩:=wk b r ls hf hl bi;simp only[eN,bK,dJ,g9,AD,RT _ hn]
theorem Sj{k:Nat}{h:VH}{x0 x1 x2 x3 x4 x5:Option W}:∀(ws:List W) (x6 x7:Option W),(∀w∈ws,w=.aG\/∃i:Int,w=.int i)->
 ∃y6 y7,forL (bJ (.many [6,7])) (exs (run F (k+1)) vL) (ws.map λa=>.tup [a,a]) [x0,x1,x2,x3,x4,x5,x6,x7] h=.ok (.nx [x0,x1,x2,x3,x4,x5,y6,y7]) h
 |[],x6,x7,_=>⟨x6,x7,rfl⟩
 |w::ws,x6,x7,hw=>by
  obtain⟨y6,y7,ih⟩:=Sj (k:=k) (h:=h) (x0:=x0) (x1:=x1) (x2:=x2) (x3:=x3) (x4:=x4) (x5:=x5) ws (aB w) (aB w) λz hz=>hw z (eU _ hz);refine⟨y6,y7,?_⟩;have eb:exs (run F (k+1)) vL [x0,x1,x2,x3,x4,x5,aB w,aB w] h=.ok (.nx [x0,x1,x2,x3,x4,x5,aB w,aB w]) h:=by
   unfold vL;rcases hw w fy with rfl|⟨i,rfl⟩
   rfl;refine(aX ((fO (yW (h1:=h) rfl (Lv (h1:=h) rfl (gn (qw (aF rfl) (aF rfl) (Sh C.Ay)))))).trans rfl)).trans rfl
  show forL (bJ (.many [6,7])) (exs (run F (k+1)) vL) (.tup [w,w]::ws.map λa=>.tup [a,a]) _ h=_;rw[forL];show(exs (run F (k+1)) vL [x0,x1,x2,x3,x4,x5,aB w,aB w] h).bind _=_;rw[eb,aD];exact ih
theorem Sk{k:Nat}{h:VH}{B:Bd}{ls:List Int}{r:List Nat}(b:B.Ok)(hr:r.length<=2000)(hf:∀f∈r,f<B.fd.length)(hl:(ls.length:Int)=B.gr)(bi:bQ ls) :
 run F (k+11) 701 [B.w,iW ls,.tup (aJ r)] h=.ok (.bl true) h:=by
 rw[cz C.LP rfl];have e1:=nj C.o C.r C.b (k:=k) (h:=⟨h.n,h.n,h.os⟩) C.om b hr hf hl bi;have e2:=EJ C (k:=k+8) (h:=⟨h.n,h.n,h.os⟩) b hr hf hl bi;obtain⟨⟨l1,_⟩,ln,hn⟩:=wk b r ls hf hl bi;have g2:=b.g2;generalize (aQ B r ls).2=S at e1 e2 l1;generalize (aQ B r ls).1=A at e1 e2 hn ln;obtain⟨y6,y7,e3⟩:=Sj C (k:=k+9) (h:=⟨h.n,h.n,h.os⟩) (x0:=aB B.w) (x1:=aB (iW ls)) (x2:=aB (.tup (aJ r))) (x3:=aB (.tup [.tup A,iW S])) (x4:=aB (.tup A)) (x5:=aB (iW S)) A aC aC hn;generalize hr:[aB B.w,aB (iW ls),aB (.tup (aJ r)),aB (.tup [.tup A,iW S]),aB (.tup A),aB (iW S),aC,aC]=ρ at e3;have v3:ev (run F (k+10)) (.var 3) ρ ⟨h.n,h.n,h.os⟩=.ok (.tup [.tup A,iW S]) ⟨h.n,h.n,h.os⟩:=by rw[<-hr];exact aF rfl
 have v4:ev (run F (k+10)) (.var 4) ρ ⟨h.n,h.n,h.os⟩=.ok (.tup A) ⟨h.n,h.n,h.os⟩:=by rw[<-hr];exact aF rfl
 have v5:ev (run F (k+10)) (.var 5) ρ ⟨h.n,h.n,h.os⟩=.ok (iW S) ⟨h.n,h.n,h.os⟩:=by rw[<-hr];exact aF rfl
 have i0:ev (run F (k+10)) (.idx (.var 3) (.cst (.int (0)))) ρ ⟨h.n,h.n,h.os⟩=.ok (.tup A) ⟨h.n,h.n,h.os⟩:=cN v3 aP rfl;have i1:ev (run F (k+10)) (.idx (.var 3) (.cst (.int (1)))) ρ ⟨h.n,h.n,h.os⟩=.ok (iW S) ⟨h.n,h.n,h.os⟩:=cN v3 aP rfl;have Sl:∀{a:E}{ws:List W},ev (run F (k+10)) a ρ ⟨h.n,h.n,h.os⟩=.ok (.tup ws) ⟨h.n,h.n,h.os⟩->ev (run F (k+10)) (.not (.kZ (.rF .tuple a))) ρ ⟨h.n,h.n,h.os⟩=.ok (.bl false) ⟨h.n,h.n,h.os⟩:=λ{a ws} e=>gn (show ev (run F (k+10)) (.rF .tuple a) ρ ⟨h.n,h.n,h.os⟩=.ok (.bl true) ⟨h.n,h.n,h.os⟩ by rw[ev,e];rfl);have e4:exs (run F (k+10)) (.«for» .zip (.cons (.idx (.var 3) (.cst (.int (0)))) (.cons (.var 4) .nil)) (.many [6,7]) vL) ρ ⟨h.n,h.n,h.os⟩=.ok (.nx [aB B.w,aB (iW ls),aB (.tup (aJ r)),aB (.tup [.tup A,iW S]),aB (.tup A),aB (iW S),y6,y7]) ⟨h.n,h.n,h.os⟩:=by
  rw[exs,aH i0 (aH v4 bH),aD];have ef:=DQ (nx:=bZ .zip (.tup [.tup A,.tup A])) (tg:=bJ (.many [6,7])) (b:=exs (run F (k+10)) vL) (ws:=A.map λa=>.tup [a,a]) (λi h=>R0 rfl rfl i) fuel 0 ρ ⟨h.n,h.n,h.os⟩ (i8 _) (by have hfu:fuel=1000000:=rfl;rw[bV];lia);rw[Fq]at ef;exact ef.trans e3
 show fin h (exs (run F (k+10)) DN.body [aB B.w,aB (iW ls),aB (.tup (aJ r)),aC,aC,aC,aC,aC] ⟨h.n,h.n,h.os⟩)=_;have eb:exs (run F (k+10)) DN.body [aB B.w,aB (iW ls),aB (.tup (aJ r)),aC,aC,aC,aC,aC] ⟨h.n,h.n,h.os⟩=.ok (.rt (.bl true)) ⟨h.n,h.n,h.os⟩:=by
  unfold DN;refine(aX (dR (qx (aF rfl) (aF rfl) (aF rfl) e1))).trans ?_;refine(aX (ρ':=ρ) (h':=⟨h.n,h.n,h.os⟩) (by
   rw[exs,qx (aF rfl) (aF rfl) (aF rfl) e2,aD,<-hr];rfl)).trans ?_
  refine(aX ((fO (yW (Sl v3) (yW (Eu (jO v3 rfl) aP rfl) (gn (qw i1 v5 (zvj C.Ay C.yZ (k:=k+8) (by lia))))))).trans rfl)).trans ?_;refine(aX ((fO (yW (Sl i0) (Eu (jO i0 rfl) (jO v4 rfl) rfl))).trans rfl)).trans ?_;exact(aX e4).trans (dB (dz aP))
 rw[eb];exact cj (bq _) jr
end
noncomputable def NoR(h:VH)(d c:Nat)(n:Nat)(w:W):Prop:=fK w 0 2000 0 ((n:Int)-1)=false/\∀h',bP h h' d c->jX h' w
theorem zzj{i:Nat}(g:h.get i=aB (.dt a b)):jX h (.ref i):=⟨by simp[Kn,dP,g],λus e=>nomatch e⟩
theorem zvk{lo hi:Int}(h:2000<ws.length):fK (.tup ws) 0 2000 lo hi=false:=by
 unfold fK gp;rw[wN,wN,zb,zb];exact .inl (by lia)
section
variable{F:Nat->Option Fn}{c:ah}(C:Ax F c)
include C
theorem LS{k:Nat}{i:Int}{z:Str}(e:run F (k+10) 709 [w,l,r] ⟨h.n,h.n,h.os⟩=.ok (.int i) ⟨h.n,h.n,h.os⟩)(hz:[(37,W.str (Str.ofString "board")),(56,.str (Str.ofString "fault")),(68,.str (Str.ofString "leans")),(104,.str (Str.ofString "row"))].lookup i.toNat=aB (.str z)):run F (k+11) 703 [w,l,r] h=.ok (.str z) h:=by
 rw[cz C.EI rfl];show fin h (exs (run F (k+10)) Aj.body [aB w,aB l,aB r,aC] ⟨h.n,h.n,h.os⟩)=_;unfold Aj;rw[dB (w:=.str z) (h':=⟨h.n,h.n,h.os⟩) (by
  rw[exs,aH (aF rfl) (aH (aF rfl) (aH (aF rfl) bH)),aD];show(run F (k+10) 709 [w,l,r] ⟨h.n,h.n,h.os⟩).bind _=_;rw[e,aD];unfold pD;simp only[hz])]
 exact cj (bq _) lt_str
theorem zzk{k:Nat}{h:VH}{B:Bd}{ls:List Int}{r:List Nat}(b:B.Ok)(hr:r.length<=2000)(hf:∀f∈r,f<B.fd.length)(hl:(ls.length:Int)=B.gr)(bi:bQ ls):run F (k+11) 703 [B.w,iW ls,.tup (aJ r)] h=.ok (.str (Str.ofString "told")) h:=by
 rw[cz C.EI rfl];obtain⟨v,e⟩:=zri C (k:=k) (h:=⟨h.n,h.n,h.os⟩) b hr hf hl bi;generalize W.tup (aJ r)=R at e;show fin h (exs (run F (k+10)) Aj.body [aB B.w,aB (iW ls),aB R,aC] ⟨h.n,h.n,h.os⟩)=_;unfold Aj;rw[aX (ρ':=[aB B.w,aB (iW ls),aB R,aC]) (h':=⟨h.n,h.n,h.os⟩) (by
  rw[exs,aH (aF rfl) (aH (aF rfl) (aH (aF rfl) bH)),aD];show(run F (k+10) 709 [B.w,iW ls,R] ⟨h.n,h.n,h.os⟩).bind _=_;rw[e];rfl),dB (dz aP)]
 exact cj (bq _) lt_str
theorem Sm{k:Nat}{i:Int}{z:Str}(e:run F (k+7) 705 [w] ⟨h.n,h.n,h.os⟩=.ok (.int i) ⟨h.n,h.n,h.os⟩)(hz:[(37,W.str (Str.ofString "board")),(56,.str (Str.ofString "fault")),(68,.str (Str.ofString "leans")),(104,.str (Str.ofString "row"))].lookup i.toNat=aB (.str z)):run F (k+11) 703 [w,l,r] h=.ok (.str z) h:=
 LS C (Sg C (h:=⟨h.n,h.n,h.os⟩) (zix (h:=⟨h.n,h.n,h.os⟩) C.t e)) hz
theorem Sn{k:Nat}{h:VH}{B:Bd}{l r:W}(b:B.Ok)(hl:jX h l)(hw:fK l B.gr B.gr 0 1=false):run F (k+11) 703 [B.w,l,r] h=.ok (.str (Str.ofString "leans")) h:=by
 have e:=Ly C.b C.t C.r.uA (k:=k) (h:=⟨h.n,h.n,h.os⟩) b hl.lo;rw[hw,if_neg (by decide)]at e;exact LS C (Sg C (h:=⟨h.n,h.n,h.os⟩) e) rfl
theorem zlo{k:Nat}{h:VH}{B:Bd}{ls:List Int}{r:W}(b:B.Ok)(hl:(ls.length:Int)=B.gr)(bi:bQ ls)(hr:jX h r)(hw:fK r 0 2000 0 ((B.fd.length:Int)-1)=false):run F (k+11) 703 [B.w,iW ls,r] h=.ok (.str (Str.ofString "row")) h:=
 LS C (zi1 C (h:=⟨h.n,h.n,h.os⟩) b hl bi hr.lo hw) rfl
noncomputable def wB(F:Nat->Option Fn)(h:VH)(w:W):Prop:=∃a b c z,w=.tup [a,b,c,.str z]/\PyData.strOk z=true/\run F 28 703 [a,b,c] h=.ok (.str z) h
omit C in
theorem zzl{ρ:En}{i r:Nat}(e0:ρ[i]?=aB (aB (.ref r)))(g:h.get r=aB (.lst L))(hl:L.length<=100000)(hr:∀w∈L,wB F h w) :
 ev (run F 28) (.bi .all (.cons (.lc .seq (.var i) (.many [0,1,2,3]) 4 [] (.cst (.bl true)) QU) .nil)) ρ h=.ok (.bl true) (h.new (.lst (bI L.length (.bl true)))):=
 wA (aF e0) (λj=>by simp only[bZ,aO,g,gR]) hl (λρ=>∃x y z u,ρ=[x,y,z,u]) ⟨_,_,_,_,rfl⟩ λw hw ρ cR=>by
  obtain⟨x,y,z,u,lZ⟩:=cR;obtain⟨a,b,c,s,rfl,hs,e⟩:=hr w hw;subst lZ;exact⟨_,rfl,eqT (qx (aF rfl) (aF rfl) (aF rfl) e) (aF rfl) hs,_,_,_,_,rfl⟩
theorem EK{h:VH}{d c' b:Nat}{ρ:En}{B:Bd}(D:Dk h d c' b)(hb:b+10<1000000000)(bo:B.Ok)(e0:ρ[0]?=aB (aB (.ref d)))(e1:ρ[1]?=aB (aB B.w)) :
 ∃w h',ev (run F 28) (.idx (.lst KN) (.call 5 (.cons (.var 0) (.cons (.cst (.int (7))) .nil)))) ρ h=.ok w h'/\(within w 0 ((B.fd.length:Int)-1)=false/\∀h,Kn h w)/\Dk h' d c' (b+1):=by
 have f2:=bo.f2;obtain⟨w,h',e,hm,D',K'⟩:=draw C.q.toCoreD (k:=25) (i:=0) (e:=KN) (ρ:=ρ) (h:=h) (h1:=h) (ys:=[W.int B.fd.length,W.int (-1),W.bl true,W.aG,W.str (bf "0"),W.tup [W.int 0],W.int 1000000000000000000000000000000]) (m:=7) e0
  (aH (jO (cN (aF e1) aP (show aZ _ B.w (.int 3)=aB (.tup B.fd)from rfl)) rfl) (aH (Ez aP) (aH aP (aH aP (aH aP (aH (gQ (aH aP bH) rfl) (aH (LC (by decide)) bH))))))) rfl (by decide) (by decide) D (by lia)
 refine⟨w,h',e,?_,D'⟩;simp only[gq,wW,wK]at hm;rcases hm with rfl|rfl|rfl|rfl|rfl|rfl|rfl
 exact⟨by simp only[within,wN,zb];exact .inr (by lia),λ_=>by simp[Kn]⟩;exact⟨rfl,λ_=>by simp[Kn]⟩;exact⟨rfl,λ_=>by simp[Kn]⟩;exact⟨rfl,λ_=>by simp[Kn]⟩;exact⟨rfl,λ_=>by simp[Kn]⟩;exact⟨rfl,λ_=>by simp[Kn]⟩;exact⟨by simp only[within,wN,zb];exact .inr (by lia),λ_=>by simp[Kn]⟩
theorem zvl{d c' b:Nat}{ρ:En}{n:Nat}{r:List Nat}{at':Int}(D:Dk h d c' b)(hb:b+10<1000000000)(hl:r.length<=2000)(h5:within w5 0 ((n:Int)-1)=false)(k5:∀h,Kn h w5)(e0:ρ[0]?=aB (aB (.ref d)))(e3:ρ[3]?=aB (aB (.tup (aJ r))))(e4:ρ[4]?=aB (aB (.int at')))(e5:ρ[5]?=aB (aB w5)) :
 ∃w h',ev (run F 28) (.idx (.lst KO) (.call 5 (.cons (.var 0) (.cons (.cst (.int (7))) .nil)))) ρ h=.ok w h'/\NoR h' d c' n w/\Dk h' d c' (b+1):=by
 have ln:(aJ r).length<=2000:=by unfold aJ;rw[bV];exact hl
 have l1:=D.Lz;have ki:∀h,∀z∈aJ r,Kn h z:=λh z hz=>by
  unfold aJ at hz;obtain⟨i,_,rfl⟩:=lu.mp hz;simp[Kn]
 generalize hX:cY (aJ r) aC (aB at')=X;generalize hY:cY (aJ r) (aB at') aC=Y;have lX:X.length<=2000:=by rw[<-hX];exact fS LB ln
 have lY:Y.length<=2000:=by rw[<-hY];exact fS LB ln
 have eX:∀hh,ev (run F 28) (.slc (.var 3) false (.cst .aG) true (.var 4)) ρ hh=.ok (.tup X) hh:=λhh=>by
  rw[<-hX];exact l9 (l':=aC) (u':=aB at') (aF e3) aP (aF e4) rfl rfl dX
 have eY:∀hh,ev (run F 28) (.slc (.var 3) true (.var 4) false (.cst .aG)) ρ hh=.ok (.tup Y) hh:=λhh=>by
  rw[<-hY];exact l9 (l':=aB at') (u':=aC) (aF e3) (aF e4) aP rfl rfl dX
 have ed:∀hh:VH,ev (run F 28) (.rE .nil) ρ hh=.ok (.ref hh.n) (hh.new (.dt [] [])):=λhh=>rfl;obtain⟨w,h',e,hm,D',K'⟩:=draw C.q.toCoreD (k:=25) (i:=0) (e:=KO) (ρ:=ρ) (h:=h) (h1:=(h.new (.lst (aJ r))).new (.dt [] []))
  (ys:=[W.tup ((X++[w5])++Y),W.ref h.n,W.aG,W.str (bf "0"),W.ref (h.n+1),W.tup (bI 2001 (.int 0)),W.int 0]) (m:=7) e0
  (aH (l8 (l8 (eX _) (gQ (aH (aF e5) bH) rfl) (oj (by rw[jA];lia))) (eY _) (oj (by rw[gh,jA];lia))) (aH (listE (aF e3) rfl) (aH aP (aH aP (aH (ed _) (aH (l8 (gQ (aH aP bH) rfl) aP (Rv (n:=2001) (by decide))) (aH aP bH))))))) rfl (by decide) (by decide) D.new.new (by lia)
 refine⟨w,h',e,?_,D'⟩;simp only[gq,wW,wK]at hm;have r1:((h.new (.lst (aJ r))).new (.dt [] [])).get h.n=aB (.lst (aJ r)):=(jV (lg _)).trans gW;have r2:((h.new (.lst (aJ r))).new (.dt [] [])).get (h.n+1)=aB (.dt [] []):=gW (h:=h.new (.lst (aJ r)));rcases hm with rfl|rfl|rfl|rfl|rfl|rfl|rfl
 refine⟨zo5 (w:=w5) (by simp) h5,λh2 _=>EA (by rw[gh,gh,jA];lia) λz hz=>?_⟩;rcases wX.mp hz with hz|hz
 rcases wX.mp hz with hz|hz;rw[<-hX]at hz;exact ki h2 z (Ht hz);rw[zp.mp hz];exact k5 h2;rw[<-hY]at hz;exact ki h2 z (Ht hz);exact⟨rfl,λh2 K2=>zvd (K2.get _ _ (by lia) (by lia) (K'.get _ _ (by lia) (by lia) r1))⟩;exact⟨rfl,λh2 _=>⟨by simp[Kn],λus e=>nomatch e⟩⟩;exact⟨rfl,λh2 _=>⟨by simp[Kn],λus e=>nomatch e⟩⟩;exact⟨rfl,λh2 K2=>zzj (K2.get _ _ (by lia) (by lia) (K'.get _ _ (by lia) (by lia) r2))⟩;refine⟨?_,λh2 _=>EA (by rw[AG];decide) λz hz=>by rw[(List.mem_replicate.mp hz).2];simp[Kn]⟩;exact zvk (by rw[AG];decide);exact⟨rfl,λh2 _=>⟨by simp[Kn],λus e=>nomatch e⟩⟩
end
section
variable{F:Nat->Option Fn}{c:ah}(C:Ax F c)
include C
theorem zvm{ρ:En}(b:B.Ok)(e1:ρ[1]?=aB (aB B.w)):ev (run F 28) (.tup KP) ρ h=.ok (EB B).w h:=by
 have w1:=b.w1;have w2:=b.w2;have Le:=b.r1;obtain⟨n,hn⟩:=ly (show 0<=B.wd by lia);have er:ev (run F 28) (.op .mul (.tup (.cons (.cst (.int (7))) .nil)) (.idx (.var 1) (.cst (.int (0))))) ρ h=.ok (.tup (bI n (.int 7))) h:=
  l8 (gQ (aH aP bH) rfl) (cN (aF e1) aP (show aZ _ B.w (.int 0)=aB (.int (n:Int)) by rw[<-hn];rfl)) (Rv (by lia))
 have es:ev (run F 28) (.slc (.idx (.var 1) (.cst (.int (2)))) true (.cst (.int (1))) false (.cst .aG)) ρ h=.ok (.tup ((B.rows.map .tup).drop 1)) h:=by
  rw[<-zzg];exact l9 (l':=aB 1) (u':=aC) (cN (aF e1) aP (show aZ _ B.w (.int 2)=aB (.tup (B.rows.map .tup))from rfl)) aP aP rfl rfl rfl
 have ea:ev (run F 28) KP ρ h=.ok (.tup [.int B.wd,.int B.gr,.tup ([.tup (bI n (.int 7))]++(B.rows.map .tup).drop 1),.tup B.fd,.tup B.dr]) h:=
  aH (cN (aF e1) aP (show aZ _ B.w (.int 0)=aB (.int B.wd)from rfl)) (aH (cN (aF e1) aP (show aZ _ B.w (.int 1)=aB (.int B.gr)from rfl)) (aH (l8 (gQ (aH er bH) rfl) es (oj (by rw[jA,wV,bV];lia))) (aH (cN (aF e1) aP (show aZ _ B.w (.int 3)=aB (.tup B.fd)from rfl)) (aH (cN (aF e1) aP (show aZ _ B.w (.int 4)=aB (.tup B.dr)from rfl)) bH))))
 rw[gQ ea rfl];unfold EB Bd.w;simp only[cP,List.map_drop,zm];rw[show B.wd.toNat=n by rw[hn];rfl]
theorem zlp{h:VH}{d c' b:Nat}{B:Bd}{ls:List Int}{r:List Nat}(D:Dk h d c' b)(hb:b+100<1000000000)(bo:B.Ok)(hr:r.length<=2000)(hf:∀f∈r,f<B.fd.length)(hl:(ls.length:Int)=B.gr)(bi:bQ ls):∃h',run F 29 700 [.ref d,B.w,iW ls,.tup (aJ r)] h=.ok (.bl true) h':=by
 rw[show(29:Nat)=28+1 from rfl,cz C.LO rfl];have g2:=bo.g2;have D0:Dk ⟨h.n,h.n,h.os⟩ d c' b:=D.lo;have lr:(aJ r).length=r.length:=by unfold aJ;rw[bV]
 obtain⟨r4,h1,e4,a4,b4,D1,K1⟩:=take C.q.toCoreD (k:=25) (m:=((aJ r).length:Int)+1) D0 (by lia) (by lia) (by lia);generalize hR:W.tup (aJ r)=R;have vR:∀hh,aO hh R=aB (aJ r):=λhh=>by rw[<-hR];rfl
 obtain⟨w5,h2,e5,⟨p5,k5⟩,D2⟩:=EK C (B:=B) (ρ:=[aB (.ref d),aB B.w,aB (iW ls),aB R,aB (.int r4),aC,aC,aC,aC,aC]) D1 (by lia) bo rfl rfl;obtain⟨w6,h3,e6,N6,D3⟩:=zvl C (n:=B.fd.length) (r:=r) (at':=r4) (w5:=w5) (ρ:=[aB (.ref d),aB B.w,aB (iW ls),aB R,aB (.int r4),aB w5,aC,aC,aC,aC]) D2 (by lia) hr p5 k5 rfl (by rw[<-hR];rfl) rfl rfl;have e7:=zvm C (h:=h3) (ρ:=[aB (.ref d),aB B.w,aB (iW ls),aB R,aB (.int r4),aB w5,aB w6,aC,aC,aC]) bo rfl;generalize hWr:(EB B).w=Wr at e7;generalize hV:W.tup (ls.map W.int++[W.int 0])=V;generalize hBL:[W.int B.wd,W.int B.gr,W.tup (B.rows.map W.tup),W.tup B.fd,W.tup B.dr]=BL;generalize LU:[W.tup [.ref h3.n,V,w6,.str (Str.ofString "board")],W.tup [Wr,V,w6,.str (Str.ofString "fault")],W.tup [B.w,V,w6,.str (Str.ofString "leans")]]=L1;generalize LV:[W.tup [B.w,iW ls,w6,.str (Str.ofString "row")],W.tup [B.w,V,R,.str (Str.ofString "leans")],W.tup [B.w,iW ls,R,.str (Str.ofString "told")]]=L2;have l3:=D3.Lz;have z1:L1.length=3:=by rw[<-LU];rfl
 have z2:L2.length=3:=by rw[<-LV];rfl
 have q0:(h3.new (.lst BL)).get h3.n=aB (.lst BL):=gW;have K3:bP h3 (h3.new (.lst BL)) d c':=bP.refl.new;generalize So:h3.new (.lst BL)=h3' at q0 K3;have n3:h3'.n=h3.n+1:=by rw[<-So];rfl
 have q1:(h3'.new (.lst L1)).get h3'.n=aB (.lst L1):=gW;have Sq:(h3'.new (.lst L1)).get h3.n=aB (.lst BL):=(jV (by lia)).trans q0;have K4:bP h3 (h3'.new (.lst L1)) d c':=K3.new;generalize Ss:h3'.new (.lst L1)=h4 at q1 Sq K4;have n4:h4.n=h3'.n+1:=by rw[<-Ss];rfl
 have q3:(h4.new (.lst L2)).get h3'.n=aB (.lst L1):=(jV (by lia)).trans q1;have q4:((h4.new (.lst L2)).new (.lst (L1++L2))).get (h4.n+1)=aB (.lst (L1++L2)):=gW (h:=h4.new (.lst L2));have Su:((h4.new (.lst L2)).new (.lst (L1++L2))).get h3.n=aB (.lst BL):=(jV (by show h3.n<h4.n+1;lia)).trans ((jV (by lia)).trans Sq);have K9:bP h3 ((h4.new (.lst L2)).new (.lst (L1++L2))) d c':=K4.new.new;generalize h9e:(h4.new (.lst L2)).new (.lst (L1++L2))=h9 at q4 Su K9;have lk6:jX h9 w6:=N6.2 _ K9;have Sv:jX h9 V:=by
  rw[<-hV];refine EA (by rw[gh,jA,bV];lia) λz hz=>?_;rcases wX.mp hz with hz|hz
  obtain⟨i,_,rfl⟩:=lu.mp hz;simp[Kn];rw[zp.mp hz];simp[Kn]
 have nV:fK V B.gr B.gr 0 1=false:=by
  rw[<-hV];exact zzh (by rw[gh,bV,jA];push_cast;lia)
 obtain⟨r0,hr0⟩:=zo7 bo;have y9:∀w∈L1++L2,wB F h9 w:=by
  rw[<-LU,<-LV];intro w hw;simp only[qX,uM,gq,wW,wK]at hw;rcases hw with rfl|rfl|rfl|rfl|rfl|rfl
  exact⟨_,_,_,_,rfl,by decide +kernel,Sm C (k:=17) (ziv C.t.t0 (h:=⟨h9.n,h9.n,h9.os⟩) (zo3 C.b (by rw[dm,dm];simp[Kn,dP,Su]) rfl)) rfl⟩;exact⟨_,_,_,_,rfl,by decide +kernel,by rw[<-hWr];exact Sm C (k:=17) (ziw C.b C.t.t0 (k:=17) (zrh bo) hr0 rfl rfl) rfl⟩;exact⟨_,_,_,_,rfl,by decide +kernel,Sn C (k:=17) bo Sv nV⟩;exact⟨_,_,_,_,rfl,by decide +kernel,zlo C (k:=17) bo hl bi lk6 N6.1⟩;exact⟨_,_,_,_,rfl,by decide +kernel,Sn C (k:=17) bo Sv nV⟩;exact⟨_,_,_,_,rfl,by decide +kernel,by rw[<-hR];exact zzk C (k:=17) bo hr hf hl bi⟩
 have eR:=zzl (F:=F) (i:=9) (ρ:=[aB (.ref d),aB B.w,aB (iW ls),aB R,aB (.int r4),aB w5,aB w6,aB Wr,aB V,aB (.ref (h4.n+1))]) rfl q4 (by rw[gh,z1,z2];decide) y9;show ∃h',fin h (exs (run F 28) DM.body [aB (.ref d),aB B.w,aB (iW ls),aB R,aC,aC,aC,aC,aC,aC] ⟨h.n,h.n,h.os⟩)=.ok (.bl true) h'
 suffices hs:∃hz,exs (run F 28) DM.body [aB (.ref d),aB B.w,aB (iW ls),aB R,aC,aC,aC,aC,aC,aC] ⟨h.n,h.n,h.os⟩=.ok (.rt (.bl true)) hz by
  obtain⟨hz,ez⟩:=hs;rw[ez];exact R1
 refine⟨h9.new (.lst (bI (L1++L2).length (.bl true))),?_⟩;unfold DM;refine(aX (dR (qw (aF rfl) (l8 (jO (aF rfl) (vR _)) aP rfl) e4))).trans ?_;refine(aX (dR e5)).trans ?_;refine(aX (dR e6)).trans ?_;refine(aX (dR e7)).trans ?_;refine(aX (dR (x:=V) (h1:=h3) (l8 (aF (x:=iW ls) rfl) (gQ (aH aP bH) rfl) (by rw[<-hV];exact oj (xs:=ls.map W.int) (ys:=[W.int 0]) (by rw[jA,bV];lia))))).trans ?_;refine(aX (dR (x:=.ref h3'.n) (h1:=h4) (by
  rw[<-Ss,<-LU];exact qA (aH (jv (by rw[<-So];exact listE (aF (x:=B.w) rfl) (show aO _ B.w=aB BL by rw[<-hBL];rfl)) (aF rfl) (aF rfl) aP) (aH (jv (aF rfl) (aF rfl) (aF rfl) aP) (aH (jv (aF rfl) (aF rfl) (aF rfl) aP) bH))) rfl))).trans ?_
 refine(aX (dR (x:=.ref (h4.n+1)) (h1:=h9) (l8 (x:=.ref h3'.n) (y:=.ref h4.n) (h1:=h4) (h2:=h4.new (.lst L2)) (aF rfl) (by
  rw[<-LV];exact qA (aH (jv (aF rfl) (aF rfl) (aF rfl) aP) (aH (jv (aF rfl) (aF rfl) (aF rfl) aP) (aH (jv (aF rfl) (aF rfl) (aF rfl) aP) bH))) rfl) (by
  rw[<-h9e];exact LD q3 gW (by lia))))).trans ?_
 exact dB (dz eR)
end
theorem zzm{k:Nat}(h:k<=ws.length):cY ws aC (aB (k:Int))=ws.take k:=by
 unfold cY;rw[HT.iK,HT.iH,Fq,Nat.min_eq_left h,Nat.sub_zero]
theorem zzn{k:Nat}(h:k<=ws.length):cY ws (aB (k:Int)) aC=ws.drop k:=by
 unfold cY;rw[HT.iK,HT.iH,Nat.min_eq_left h];exact List.take_of_length_le (by rw[wV];lia)
theorem zrj:(cY ws aC (aB 2000)).length<=2000:=by
 unfold cY;rw[zu];have:HT.bM ws.length ws.length (aB 2000)=min 2000 ws.length:=HT.iH _ _ 2000;rw[this];show min (min 2000 ws.length-0) _<=2000;lia
theorem wC{r:List Nat}:(aJ r).length=r.length:=bV _
theorem zvn{r:List Nat}{n:Nat}{l u:Option Int}(hr:r.length<=2000)(hf:∀f∈r,f<n):∃r',cY (aJ r) l u=aJ r'/\r'.length<=2000/\∀f∈r',f<n:=by
 obtain⟨r',e,h⟩:=Hr (P:=λx=>x<n) (ws:=cY (aJ r) l u) λw hw=>by
  have:=Ht hw;unfold aJ at this;obtain⟨x,hx,rfl⟩:=lu.mp this;exact⟨x,rfl,hf x hx⟩
 refine⟨r',e,?_,h⟩;have:=LB (ws:=aJ r) (l:=l) (u:=u);rw[e,wC,wC]at this;lia
theorem Sw:∀(r1 r2:List Nat) (ls:List Int),aQ B (r1++r2) ls=((aQ B r1 ls).1++(aQ B r2 (aQ B r1 ls).2).1,(aQ B r2 (aQ B r1 ls).2).2)
 |[],r2,ls=>rfl
 |f::r1,r2,ls=>by
  rw[qX];simp only[aQ,Sw r1 r2,qX]
theorem EL{ρ:En}{j:Nat}(ea:ev cl e ρ h=.ok (.tup ys) h1)(hl:ys.length<=1000)(ei:ev cl x ρ (h1.new (.lst ys))=.ok (.int j) h2)(hg:h2.get h1.n=aB (.lst ys))(hj:j<ys.length):ev cl (.idx (.lst e) x) ρ h=.ok ys[j] h2:=
 cN (qA ea (rW.mpr hl)) ei (by
  simp only[aZ,hg];exact oz (jS hj))
theorem EM{ρ:En}{i j:Int}(ea:ev cl a ρ h=.ok (.int i) h1)(eb:ev cl b ρ h1=.ok (.int j) h2):ev cl (.bi .max (.cons a (.cons b .nil))) ρ h=.ok (.int (if j>i then j else i)) h2:=by
 rw[ev,aH ea (aH eb bH)];rfl
theorem LW{j:Nat}(h:(j:Int)<12):∃m:Nat,(if(j:Int)-9>0 then(j:Int)-9 else 0)=m/\m<3:=⟨j-9,by split<;>lia,by lia⟩
section
variable{F:Nat->Option Fn}{c:ah}(C:Ax F c)
include C
omit C in
theorem zzo{B:Bd}{x0 x1 x3 x4 x6 x7 x8 x9:Option W}{kd:Int}{r:List Nat}{h:VH}(ok:B.Ok)(hr:r.length<=12)(hf:∀f∈r,f<B.fd.length) :
 ∃r',exs (run F 29) (.ite (.cmp .eq (.var 2) (.cst (.int (11)))) (.seq (.set 5 (.slc (.op .mul (.op .add (.var 5) (.tup (.cons (.cst (.int (0))) .nil))) (.cst (.int (2000)))) false (.cst .aG) true (.cst (.int (2000))))) .skip) .skip) [x0,x1,aB (.int kd),x3,x4,aB (.tup (aJ r)),x6,x7,x8,x9] h=.ok (.nx [x0,x1,aB (.int kd),x3,x4,aB (.tup (aJ r')),x6,x7,x8,x9]) h/\r'.length<=2000/\∀f∈r',f<B.fd.length:=by
 have ec:ev (run F 29) (.cmp .eq (.var 2) (.cst (.int (11)))) [x0,x1,aB (.int kd),x3,x4,aB (.tup (aJ r)),x6,x7,x8,x9] h=.ok (.bl (decide (kd=11))) h:=by
  rw[ev,aF rfl,aD,ev,aD];simp only[aV,jt,gR,aT]
 by_cases z:kd=11;rw[uG z]at ec;have fa1:=ok.f1;have hlen:(aJ (r++[0])).length=r.length+1:=by rw[wC,gh];rfl
 have y9:aJ r++[W.int 0]=aJ (r++[0]):=by unfold aJ;rw[qZ];rfl
 have t1:ev (run F 29) (.op .add (.var 5) (.tup (.cons (.cst (.int (0))) .nil))) [x0,x1,aB (.int kd),x3,x4,aB (.tup (aJ r)),x6,x7,x8,x9] h=.ok (.tup (aJ (r++[0]))) h:=by
  rw[<-y9];exact l8 (aF rfl) (gQ (aH aP bH) rfl) (oj (by rw[wC,jA];lia))
 have t2:ev (run F 29) (.op .mul (.op .add (.var 5) (.tup (.cons (.cst (.int (0))) .nil))) (.cst (.int (2000)))) [x0,x1,aB (.int kd),x3,x4,aB (.tup (aJ r)),x6,x7,x8,x9] h=.ok (.tup (bI 2000 (aJ (r++[0]))).flatten) h:=by
  refine l8 t1 aP ?_;show Res.of ((kj .mul (aJ (r++[0])) 2000).map W.tup) h=_;have hft:fits 2000=true:=by decide
  have hb2:Nat.ble ((aJ (r++[0])).length* (2000:Int).toNat) big=true:=yM (by rw[hlen];show(r.length+1)*2000<=_;lia);simp only[kj,hft,hb2,Fd,bX,gR,aT];rfl
 have hmem:∀w∈cY (bI 2000 (aJ (r++[0]))).flatten aC (aB 2000),∃x:Nat,w=.int x/\x<B.fd.length:=λw hw=>by
  obtain⟨xs,h1,h2⟩:=List.mem_flatten.mp (Ht hw);rw[(List.mem_replicate.mp h1).2]at h2;unfold aJ at h2;obtain⟨x,hx,rfl⟩:=lu.mp h2;refine⟨x,rfl,?_⟩;rcases wX.mp hx with hx|hx;exact hf x hx;rw[zp.mp hx];lia
 obtain⟨r',hr',hf'⟩:=Hr hmem;refine⟨r',?_,?_,hf'⟩;rw[oh ec];refine(aX (dR (i:=5) (l9 (l':=aC) (u':=aB 2000) t2 aP aP rfl rfl dX))).trans ?_;rw[hr'];rfl;have:=zrj (ws:=(bI 2000 (aJ (r++[0]))).flatten);rw[hr',wC]at this;exact this;rw[jP z]at ec;exact⟨r,(fO ec).trans rfl,by lia,hf⟩
theorem EN{ns:List Int}(hl:ns.length<=63):DF (run F 30 704 [.fz (ns.map .int)] ⟨0,0,[]⟩)=true:=by
 rw[show(30:Nat)=29+1 from rfl,cz C.LR rfl];have CD:=C.q.toCoreD;obtain⟨h1,e1,D1⟩:=Ls (F:=F) CD (k:=28) (h:=⟨0,0,[]⟩) hl;obtain⟨s,hs⟩:∃s:W,s=.fz (ns.map .int):=⟨_,rfl⟩
 rw[<-hs]at e1 ⊢;obtain⟨r2,h2,e2,a2,b2,D2,K2⟩:=take CD (k:=26) (m:=12) D1 (by decide) (by decide) (by decide);obtain⟨j,rfl⟩:=ly a2;generalize LX:[W.int 10,W.int 60,W.int 4]=Y1;have z1:Y1.length=3:=by rw[<-LX];rfl
 obtain⟨m,hm,hm2⟩:=LW b2;rw[<-z1]at hm2;obtain⟨mr,r1,r3,r4⟩:∃mr:Int,Y1[m]'hm2=.int mr/\0<=mr/\mr<=60:=by
  have:=zw (l:=Y1) (n:=m) hm2;generalize Y1[m]'hm2=y at this;rw[<-LX]at this;simp only[gq,wW,wK]at this;rcases this with rfl|rfl|rfl<;>exact⟨_,rfl,by decide,by decide⟩
 obtain⟨B,h3,e3,bo,_,_,_,D3,K3⟩:=zjq C.q (k:=23) (mw:=9) (mr:=mr) (mg:=8) (D2.new (o:=.lst Y1)) (by decide) (by decide) (by decide) r3 r4 (by decide) (by decide);have i3:ev (run F 29) (.idx (.lst (.cons (.cst (.int (10))) (.cons (.cst (.int (60))) (.cons (.cst (.int (4))) .nil)))) (.bi .max (.cons (.cst (.int (0))) (.cons (.op .sub (.var 2) (.cst (.int (9)))) .nil)))) [aB s,aB (.ref 1),aB (.int j),aC,aC,aC,aC,aC,aC,aC] h2=.ok (.int mr) (h2.new (.lst Y1)):=by
  rw[<-r1];refine EL (h1:=h2) (j:=m) (by rw[<-LX];exact aH aP (aH aP (aH aP bH))) (by rw[z1];decide) ?_ gW hm2;rw[<-hm];exact EM aP (l8 (aF rfl) aP rfl)
 obtain⟨g,hg⟩:=ly bo.g1;have g2:=bo.g2;have f1:=bo.f1;have f2:=bo.f2;obtain⟨ls,h4,e4,l4,bi,D4,K4⟩:=zju CD (k:=25) (g:=g) C.Lu D3 (by decide) (AI.mp (hg▸g2));have hls:(ls.length:Int)=B.gr:=by rw[l4,hg]
 obtain⟨n5,h5,e5,a5,b5,D5,K5⟩:=take CD (k:=26) (m:=13) D4 (by decide) (by decide) (by decide);obtain⟨n,rfl⟩:=ly a5;have q3:∀h:VH,aZ h B.w (.int 3)=aB (.tup B.fd):=λh=>rfl;obtain⟨ws,h6,e6,p6,l6,D6,K6⟩:=yL (cl:=run F 29) (P:=λ_ w=>∃x:Nat,w=.int x/\x<B.fd.length) (e:=KQ) (tl:=[aB B.w,aB (.ref 1)]) (m:=1) (lim:=12) (λi h b h0 hl D hb=>by
  obtain⟨r,h',e,r0,r1,D',K'⟩:=take CD (k:=26) (m:=(B.fd.length:Int)) D (by lia) (by lia) (by lia);obtain⟨rn,rfl⟩:=ly r0;exact⟨.int rn,h',qw (aF rfl) (jO (cN (aF rfl) rfl (q3 _)) rfl) e,⟨rn,rfl,by lia⟩,D',K'⟩) n 0 aC h5 _ (by lia) (by lia) D5 (by lia)
 obtain⟨r,rfl,hrf⟩:=Hr (Am p6);have hrl:r.length=n:=by rw[wC]at l6;exact l6
 have D7:=D6.new (o:=.lst (aJ r));have s5:exs (run F 29) (.set 5 (.bi .tuple (.cons (.lc .eL (.cons (.call 5 (.cons (.var 1) (.cons (.cst (.int (13))) .nil))) .nil) (.one 0) 1 [3,1] (.cst (.bl true)) KQ) .nil))) [aB s,aB (.ref 1),aB (.int j),aB B.w,aB (iW ls),aC,aC,aC,aC,aC] h4=.ok (.nx [aB s,aB (.ref 1),aB (.int j),aB B.w,aB (iW ls),aB (.tup (aJ r)),aC,aC,aC,aC]) (h6.new (.lst (aJ r))):=by
  have ea:ev (run F 29) (.cons (.call 5 (.cons (.var 1) (.cons (.cst (.int (13))) .nil))) .nil) [aB s,aB (.ref 1),aB (.int j),aB B.w,aB (iW ls),aC,aC,aC,aC,aC] h4=.ok (.tup [.int n]) h5:=by
   rw[ev,qw (aF rfl) rfl e5,aD];rfl
  exact dR (D9 ea (by lia) e6 (by rw[l6];lia))
 obtain⟨h7,hh7⟩:∃h7,h7=h6.new (.lst (aJ r)):=⟨_,rfl⟩
 rw[<-hh7]at D7 s5;obtain⟨R,s6,hR,hRf⟩:=zzo (F:=F) (x0:=aB s) (x1:=aB (.ref 1)) (x3:=aB B.w) (x4:=aB (iW ls)) (x6:=aC) (x7:=aC) (x8:=aC) (x9:=aC) (kd:=j) (h:=h7) bo (by lia) hrf;have w1:=Sk C (k:=18) (h:=h7) bo hR hRf hls bi;have w2:=Sk C (k:=18) (h:=h7) (r:=[]) bo (by decide) (λ_ h=>nomatch h) hls bi;obtain⟨r8,h8,e8,a8,b8,D8,K8⟩:=take CD (k:=26) (m:=((aJ R).length:Int)+1) D7 (by lia) (by lia) (by rw[wC];lia);obtain⟨a,rfl⟩:=ly a8;have ha:a<=(aJ R).length:=by lia
 have ha2:=ha;rw[wC]at ha2;have k1:=zzm ha;have k2:=zzn ha;have m1:(aJ R).take a=aJ (R.take a):=by unfold aJ;rw[List.map_take]
 have m2:(aJ R).drop a=aJ (R.drop a):=by unfold aJ;rw[List.map_drop]
 rw[m1]at k1;rw[m2]at k2;have f3:∀f∈R.take a,f<B.fd.length:=λf h=>hRf f (List.mem_of_mem_take h);have f4:∀f∈R.drop a,f<B.fd.length:=λf h=>hRf f (List.mem_of_mem_drop h);have l3:(R.take a).length<=2000:=by rw[zu];lia
 have l4:(R.drop a).length<=2000:=by rw[wV];lia
 have c1:=nj C.o C.r C.b (k:=19) (h:=h8) C.om bo l3 f3 hls bi;obtain⟨⟨t1,t2⟩,t3,t4⟩:=wk bo (R.take a) ls f3 hls bi;have c2:=nj C.o C.r C.b (k:=19) (h:=h8) C.om bo l4 f4 t1 t2;obtain⟨_,u3,u4⟩:=wk bo (R.drop a) _ f4 t1 t2;have c3:=nj C.o C.r C.b (k:=19) (h:=h8) C.om bo hR hRf hls bi;have ad:=Sw (B:=B) (R.take a) (R.drop a) ls;rw[List.take_append_drop]at ad;rw[ad]at c3;obtain⟨R',k3,hR',LY⟩:=zvn (l:=aC) (u:=aB 12) hR hRf;obtain⟨h9,e9⟩:=zlp C (h:=h8) (B:=B) (ls:=ls) (r:=R') D8 (by lia) bo hR' LY hls bi;generalize hA1:(aQ B (R.take a) ls).1=A1 at c1 c2 c3 t3 t4;generalize hS1:(aQ B (R.take a) ls).2=S1 at c1 c2 c3 u3 u4;generalize hA2:(aQ B (R.drop a) S1).1=A2 at c2 c3 u3 u4;generalize hS2:(aQ B (R.drop a) S1).2=S2 at c2 c3;generalize hT1:W.tup (aJ (R.take a))=T1 at c1;generalize hT2:W.tup (aJ (R.drop a))=T2 at c2;generalize Hv:W.tup (aJ R)=TR at s6 w1 c3;generalize LZ:W.tup (aJ R')=TR' at e9;have p1:jh 24 (.tup (A1++A2))=true:=by
  rw[La,jZ];intro w hw;have:w=.aG\/∃i:Int,w=.int i:=by
   rcases wX.mp hw with hw|hw;exact t4 w hw;exact u4 w hw
  rcases this with rfl|⟨i,rfl⟩<;>rfl
 have i1:aZ h3 B.w (.int 1)=aB (.int g):=by rw[show(W.int g)=.int B.gr by rw[hg]];rfl
 have eb:exs (run F 29) DP.body [aB s,aC,aC,aC,aC,aC,aC,aC,aC,aC] ⟨0,0,[]⟩=.ok (.rt (.bl true)) h9:=by
  unfold DP;refine(aX (dR (Aw (aF rfl) e1))).trans ?_;refine(aX (dR (qw (aF rfl) aP e2))).trans ?_;refine(aX (dR (Hq (aF rfl) aP i3 aP e3))).trans ?_;refine(aX (dR (qw (aF rfl) (cN (aF rfl) aP i1) e4))).trans ?_;refine(aX s5).trans ?_;refine(aX s6).trans ?_;refine(aX ((fO (yW (gn (qx (aF rfl) (aF rfl) (aF rfl) w1)) (gn (qx (aF rfl) (aF rfl) (gQ bH rfl) w2)))).trans rfl)).trans ?_;refine(aX (dR (qw (aF rfl) (l8 (jO (aF rfl) (show aO _ TR=aB (aJ R) by rw[<-Hv];rfl)) aP rfl) e8))).trans ?_;refine(aX (dR (qx (aF rfl) (aF rfl) (l9 (l':=aC) (u':=aB (a:Int)) (aF (x:=TR) rfl) aP (aF (x:=.int a) rfl) rfl rfl (by rw[<-Hv,<-hT1,<-k1];exact dX)) c1))).trans ?_;refine(aX (dR (qx (aF rfl) (cN (aF rfl) aP (show aZ _ (.tup [.tup A1,iW S1]) (.int 1)=aB (iW S1)from rfl)) (l9 (l':=aB (a:Int)) (u':=aC) (aF (x:=TR) rfl) (aF (x:=.int a) rfl) aP rfl rfl (by rw[<-Hv,<-hT2,<-k2];exact dX)) c2))).trans ?_;refine(aX (dR (qx (aF rfl) (aF rfl) (aF rfl) c3))).trans ?_;refine(aX ((fO (yW (Eu (w:=.tup (A1++A2)) (l8 (cN (aF rfl) aP (show aZ _ (.tup [.tup A1,iW S1]) (.int 0)=aB (.tup A1)from rfl)) (cN (aF rfl) aP (show aZ _ (.tup [.tup A2,iW S2]) (.int 0)=aB (.tup A2)from rfl)) (oj (by lia))) (cN (aF rfl) aP (show aZ _ (.tup [.tup (A1++A2),iW S2]) (.int 0)=aB (.tup (A1++A2))from rfl)) p1) (Eu (w:=iW S2) (cN (aF rfl) aP rfl) (cN (aF rfl) aP rfl) zrg))).trans rfl)).trans ?_;exact dB (dz (Hq (aF rfl) (aF rfl) (aF rfl) (l9 (l':=aC) (u':=aB 12) (aF (x:=TR) rfl) aP aP rfl rfl (by rw[<-Hv,<-LZ,<-k3];exact dX)) e9))
 show DF (fin ⟨0,0,[]⟩ (exs (run F 29) DP.body [aB s,aC,aC,aC,aC,aC,aC,aC,aC,aC] ⟨0,0,[]⟩))=true;rw[eb];obtain⟨hz,ez⟩:=R1 (h:=⟨0,0,[]⟩) (h':=h9) (w:=.bl true);rw[ez];rfl
end
end RF
namespace HD
open PySem PySem.W PySem.Calls PyProof.Rows
noncomputable section
noncomputable def p:ai:=PySem.Challenge.pw_ballrockers_k07_told
noncomputable abbrev S(x:String):Str:=Str.ofString x
noncomputable abbrev U(x:String)(t:Tok):aa:=Value.str (S x) t
noncomputable abbrev R(a:ah):aa:=Value.ref a
noncomputable abbrev I(i:Int)(t:Tok):aa:=Value.int i t
noncomputable abbrev E(P:Params)(x:String)(t:Tok)(v:aa):DictEntry:=DictEntry.mk (PyData.keyHash P (S x)) (Value.str (S x) t) v
noncomputable abbrev N(o:Obj)(l r:BT):BT:=BT.node o l r
noncomputable abbrev Z:BT:=BT.nil
noncomputable abbrev L(o:Obj):BT:=BT.node o Z Z
noncomputable abbrev Y(c:String)(d:Data):Obj:=Obj.mk (Value.type c) aC d #[]
noncomputable abbrev X(d:Data):Obj:=Obj.mk Value.none aC d #[]
noncomputable def za(l:List aq)(i:Nat):aq:=l.getD i (Stmt.Pass ⟨0,0,0,0⟩)
noncomputable def Sx:aq->List aq|.FunctionDef _ _ b _ _ _ _ _ _ _=>b|.ClassDef _ _ _ b _ _ _ _ _ _ _=>b|_=>[]
noncomputable def Sy:aq->Arguments|.FunctionDef _ a _ _ _ _ _ _ _ _=>a|_=>⟨[],[],aC,[],[],aC,[]⟩
noncomputable def Sz:aq->ay|.FunctionDef _ _ _ _ _ _ s _ _ _=>s|_=>p.main.scope
noncomputable def fb(i:Nat):List aq:=Sx (za p.main.body i)
noncomputable def fa(i:Nat):Arguments:=Sy (za p.main.body i)
noncomputable def fs(i:Nat):ay:=Sz (za p.main.body i)
noncomputable def cb(i j:Nat):List aq:=Sx (za (fb i) j)
noncomputable def ca(i j:Nat):Arguments:=Sy (za (fb i) j)
noncomputable def cs(i j:Nat):ay:=Sz (za (fb i) j)
noncomputable abbrev O:aa:=Value.none
noncomputable abbrev J(i:Int):aa:=Value.int i 0
noncomputable abbrev V(t:Tok):aa:=Value.str (S "/claim/cut.py") t
noncomputable abbrev A(l:Array aa):Data:=Data.fields l
noncomputable abbrev B(f:au):Data:=Data.func f
noncomputable abbrev G(x:String)(i:Nat)(g:ah)(c:List (Str×ah))(d k o m:aa)(n:Option ah)(cd ct:aa)(b:ah):au:=FuncData.mk (S x) (S x) (fa i) (FuncBody.stmts (fb i)) (fs i) g c d k o m n cd ct b
section
variable(P:Params)
noncomputable def N0:Nat:=10862
noncomputable def lo:List Str:=[S "fallen",S "heading_behind",S "come_down",S "come_out"]
noncomputable def keep:List Nat:=[1,2,3,4,5,6,7,8,9,10,11,12,13,14,15,16,17,19,20,21,22,24,25,26,27,28,29,30,31,32,33,34,35,36,37,38,39,40,42,43,44,45,51,52,54,55,56,58,59,60,61,62,63,64,65,66,67,68,69,70,71,72,73,74,75,76]
noncomputable def life:Life:=(Life.mk [] [] [] 0 [] [] false #[] [] 0 false false false 0 [2000,10,10] false 0 true [] [] 0 false)
noncomputable def m0:Nat:=11
noncomputable def ann:Option aa:=(aB (R 6))
noncomputable def env:Env:={scope:=p.main.scope,locals:=mainNs,globals:=mainNs,cells:=[],code:=(R 13),frame:=aB 14}
noncomputable def bd:List aq:=behindTheImports p
noncomputable def cd:Code:=Code.body bd env
noncomputable def fr:List Frame:=[topFrame (Pos.mk 0 0 0 0)]
noncomputable abbrev qC(n:String)(t:Nat)(l k:Int)(r m:Nat):Obj:=Y "code" (A #[U n t,U n (t+1),V (t+2),J l,J k,J 0,J 0,J 3,R r,Value.bool true,J 181,R (r+1),O,R (r+2),R (r+3),R (r+4),J (Int.ofNat m),J l,V (m+1)])
noncomputable abbrev qD(n:String)(t:Nat)(l k:Int)(r m:Nat):Obj:=Y "code" (A #[U n t,U n (t+1),V (t+2),J l,J k,J 0,J 0,J 3,R r,Value.bool true,J 181,R (r+1),O,O,O,R (r+2),J (Int.ofNat m),J l,V (m+1)])
noncomputable def qU:Nat->List String->List aa|_,[]=>[]|t,x::r=>U x t::qU (t+1) r
noncomputable abbrev qT(t:Nat)(l:List String):Obj:=Y "tuple" (Data.seq (qU t l).toArray 0)
noncomputable abbrev qF(n:String)(i:Nat)(u:aa)(r:ah):Obj:=Y "function" (B (G n i 3 [] O O O u aC (R r) O 0))
noncomputable abbrev qG(n:String)(i:Nat):Obj:=X (B (G n i 0 [] O O O O aC O O 0))
noncomputable def qJ:List (Int×Nat)->List aa|[]=>[]|(a,b)::r=>J a::J 0::R b::qJ r
noncomputable def qO:List Obj->List Obj|x::_::r=>x::qO r|x=>x
noncomputable def qE:List Obj->List Obj|_::y::r=>y::qE r|_=>[]
noncomputable def qB:Nat->List Obj->BT|f+1,x::r=>N x (qB f (qO r)) (qB f (qE r))|_,_=>Z
 def a0:=(Y "tuple" (Data.seq #[] 0))
 def a1:=(X (A #[]))
 abbrev qN(n:String)(i t:Nat)(l k:Int)(r:Nat)(u:aa):List Obj:=[a0,a1,qG n i,qD n t l k r (t+3),qF n i u (r+3)]
 abbrev qM(n:String)(i t:Nat)(s:List String)(l k:Int)(r:Nat)(u:aa):List Obj:=[a0,a1,qT (t+3) s,a0,qG n i,qC n t l k r (t+3+s.length),qF n i u (r+5)]
 def a2:=(Y "code" (A #[(U "<module>" 182),(U "<module>" 183),(V 184),(J 1),(J 0),(J 0),(J 0),(J 0),(R 11),(Value.bool false),(J 181),(R 12),O,O,O,O,(J 185),(J 1),(V 186)]))
 def a3:=(Obj.mk (Value.type "frame") aC Data.plain #[(aB (R 13)),(aB (R 3)),(aB (R 3)),aC,(aB (U "__main__" 164)),aC,(aB (R 0))])
 def ha:az:=Heap.mk (Array.mk [(boot_o_0 P),(boot_o_1 P),(boot_o_2 P),(boot_o_3 P),(boot_o_4 P),(boot_o_5 P),(boot_o_6 P),(boot_o_7 P),(boot_o_8 P),(boot_o_9 P),(boot_o_10 P),a0,a1,a2,a3]) (Life.mk [] [] [] 0 [] [] false #[] [] 0 false false false 0 [2000,10,10] false 0 true [] [] 0 false)
noncomputable def sa(w:aj)(os:av):af:=⟨ha w.params,(Array.mk []),(Drawn.mk 0 0 0 0),187,os⟩
theorem nk{w:aj}{n:Nat}{s s':SharedT}{l:List aq}{pos pos':Pos}(h:PySem.W.Fast.tw10110043849684766642 PySem.W.Fast.tw14364793385576792824 p w m0 ann 1 n s (piecesOf l env cd pos fr)=aB (.next,s',cd,pos')) :
 segRun treeTable p w m0 ann 1 n s.abs (piecesOf l env cd pos fr)=aB (.next,s'.abs,cd,pos'):=
 segRun_of (by rw[PySem.W.Fast.te10110043849684766642,FA];exact h)
theorem EO{w:aj}{n:Nat}{s s':af}{pos:Pos}(h:PySem.W.Fast.tw15667345088766844465 PySem.W.Fast.tw14364793385576792824 p w m0 ann n s (topStub p)=aB (s',⟨PySem.W.Fast.tw11892475500146522536 PySem.W.Fast.tw14364793385576792824 cd,cd,pos,fr⟩)) :
 topGo treeTable p w m0 ann n s (topStub p)=aB (s',⟨denote treeTable cd,cd,pos,fr⟩):=by
 rw[PySem.W.Fast.te15667345088766844465,FA,PySem.W.Fast.te11892475500146522536];exact h
theorem zvo{w:aj}{n:Nat}{s s':af}{pos pos':Pos}(h:PySem.W.Fast.tw14374325043358763698 PySem.W.Fast.tw14364793385576792824 p w m0 ann 1 n s (blockOf bd env cd pos fr)=aB (.next,s',cd,pos')) :
 segRun treeTable p w m0 ann 1 n s (blockOf bd env cd pos fr)=aB (.next,s',cd,pos'):=by
 rw[PySem.W.Fast.te14374325043358763698,FA];exact h
theorem ER{w:aj}{n:Nat}{s s':af}{pos:Pos}(h:PySem.W.Fast.tw14082659384304107361 PySem.W.Fast.tw14364793385576792824 p w m0 ann n s ⟨doneF .next,cd,pos,fr⟩=aB s') :
 topRun treeTable p w m0 ann n s ⟨doneF .next,cd,pos,fr⟩=aB s':=by
 rw[PySem.W.Fast.te14082659384304107361,FA];exact h
set_option maxHeartbeats 0 in
theorem pre(w:aj)(os:av):topGo treeTable p w m0 ann 12 ⟨boot_heap w.params,Array.mk [],boot_drawn,boot_toks,os⟩ (topStub p)=aB (sa w os,⟨denote treeTable cd,cd,(Pos.mk 0 0 0 0),fr⟩):=EO (by kernel_rfl)
 def SD:List Obj:=[(boot_o_0 P),(boot_o_1 P),(boot_o_2 P),(boot_o_3 P),(boot_o_4 P),(boot_o_5 P),(boot_o_6 P),(boot_o_7 P),(boot_o_8 P),(boot_o_9 P),(boot_o_10 P),a0,a1,a2,a3]
 def tb:=qB 20 (SD P)
noncomputable def sb(w:aj)(os:av):SharedT:=⟨tb w.params,15,life,(Array.mk []),(Drawn.mk 0 0 0 0),187,os⟩
set_option maxHeartbeats 0 in
theorem block(w:aj)(os:av):segRun treeTable p w m0 ann 1 1 (sa w os) (blockOf bd env cd (Pos.mk 0 0 0 0) fr)=aB (.next,(sb w os).abs,cd,(Pos.mk 0 0 0 0)):=zvo (by kernel_rfl)
 def SG:=[(E P "__doc__" 166 O),(E P "__package__" 167 O),(E P "__loader__" 168 (Value.builtin "__main__.__loader__#opaque")),(E P "__spec__" 169 O),(E P "__annotations__" 170 (R 6)),(E P "__builtins__" 171 (R 4)),(E P "__file__" 173 (V 172)),(E P "__cached__" 174 O),(E P "BoardError" 206 (R 24)),(E P "NoBoard" 222 (R 37)),(E P "Fault" 249 (R 56)),(E P "NoLeans" 265 (R 68)),(E P "NoStand" 281 (R 80)),(E P "NoFeeder" 297 (R 92))]
 def a4:=Y "dict" (Data.dict ((E P "__name__" 165 (U "ballrockers.errors" 187))::SG P).toArray 15)
 def SH:List (Int×Nat):=[(2,20),(4,33),(6,45),(11,64),(13,76),(15,88)]
 def a5:=X (A (qJ SH).toArray)
 def a6:=(Y "tuple" (Data.seq #[(Value.type "ValueError")] 0))
 def a7:=(Y "builtin_function_or_method" (A #[(Value.builtin "type.__prepare__"),(Value.type "type")]))
 def a8:=(Y "dict" (Data.dict #[(E P "__module__" 196 (U "ballrockers.errors" 187)),(E P "__qualname__" 198 (U "BoardError" 197)),(E P "__firstlineno__" 200 (I 2 199)),(E P "__static_attributes__" 201 (R 22))] 4))
 def a9:=(Y "code" (A #[(U "BoardError" 191),(U "BoardError" 192),(V 193),(J 2),(J 0),(J 0),(J 0),(J 0),(R 18),(Value.bool false),(J 181),(R 19),O,O,O,O,(J 194),(J 2),(V 195)]))
 def KG:=(Obj.mk (Value.type "frame") aC Data.plain #[(aB (R 20)),(aB (R 3)),(aB (R 17)),aC,(aB (U "ballrockers.errors" 187)),aC,(aB (R 0))])
 def a11:=(Y "dict" (Data.dict #[(E P "__module__" 196 (U "ballrockers.errors" 187)),(E P "__firstlineno__" 200 (I 2 199)),(E P "__static_attributes__" 201 (R 22)),(E P "__weakref__" 203 (R 25)),(E P "__doc__" 204 O)] 3))
 def qR(l:List Nat):Obj:=(Obj.mk (Value.type "type") aC (Data.cls (ClassData.mk (S "BoardError") [(Value.type "ValueError")] [(R 24),(Value.type "ValueError"),(Value.type "Exception"),(Value.type "BaseException"),(Value.type "object")] 23 (S "BoardError") true [] (l.map λi=>R i) false aC false)) #[(aB (R 15)),aC,(aB (U "BoardError" 189)),(aB (U "BoardError" 197)),(aB (Value.builtin "ValueError.__new__")),(aB (Value.bool true))])
 def a12:=qR [37,56,68,80,92]
 def a13:=(Y "getset_descriptor" (A #[(U "__weakref__" 202),(R 24),(Value.builtin "ExceptionGroup.__weakref__"),O]))
 def a14:=(Y "super" (A #[(R 24),(R 24),(R 24)]))
 def a15:=(Y "builtin_function_or_method" (A #[(Value.builtin "object.__init_subclass__"),(R 24)]))
 def SI:=(Y "tuple" (Data.seq #[(R 24)] 0))
 def a24:=(Y "dict" (Data.dict #[(E P "__module__" 230 (U "ballrockers.errors" 187)),(E P "__qualname__" 232 (U "Fault" 231)),(E P "__firstlineno__" 234 (I 6 233)),(E P "__init__" 243 (R 53)),(E P "__static_attributes__" 246 (R 54))] 5))
 def a25:=(X (A #[(J 8),(J 4),(R 52)]))
 def a26:=(Y "code" (A #[(U "Fault" 225),(U "Fault" 226),(V 227),(J 6),(J 0),(J 0),(J 0),(J 0),(R 43),(Value.bool false),(J 181),(R 44),O,O,O,O,(J 228),(J 6),(V 229)]))
 def a27:=(Obj.mk (Value.type "frame") aC Data.plain #[(aB (R 45)),(aB (R 3)),(aB (R 42)),aC,(aB (U "ballrockers.errors" 187)),aC,(aB (R 0))])
 def a28:=qT 238 ["self","row","column"]
 def a29:=(X (B (FuncData.mk (S "__init__") (S "Fault.__init__") (ca 3 0) (FuncBody.stmts (cb 3 0)) (cs 3 0) 0 [] O O O O aC O O 0)))
 def a30:=(Y "code" (A #[(U "__init__" 235),(U "Fault.__init__" 236),(V 237),(J 8),(J 3),(J 0),(J 0),(J 3),(R 47),(Value.bool true),(J 181),(R 48),O,(R 49),(R 50),(R 51),(J 241),(J 8),(V 242)]))
 def a31:=(Y "function" (B (FuncData.mk (S "__init__") (S "Fault.__init__") (ca 3 0) (FuncBody.stmts (cb 3 0)) (cs 3 0) 3 [] O O O (U "ballrockers.errors" 187) aC (R 52) O 0)))
 def a32:=qT 244 ["column","row"]
 def a33:=(Y "dict" (Data.dict #[(E P "__module__" 230 (U "ballrockers.errors" 187)),(E P "__firstlineno__" 234 (I 6 233)),(E P "__init__" 243 (R 53)),(E P "__static_attributes__" 246 (R 54)),(E P "__doc__" 247 O)] 2))
 def a34:=(Obj.mk (Value.type "type") aC (Data.cls (ClassData.mk (S "Fault") [(R 24)] [(R 56),(R 24),(Value.type "ValueError"),(Value.type "Exception"),(Value.type "BaseException"),(Value.type "object")] 55 (S "Fault") true [] [] false aC false)) #[(aB (R 40)),aC,(aB (U "Fault" 223)),(aB (U "Fault" 231)),(aB (Value.builtin "ValueError.__new__")),(aB (Value.bool true))])
 def a35:=(Y "super" (A #[(R 56),(R 56),(R 56)]))
 def a36:=(Y "builtin_function_or_method" (A #[(Value.builtin "object.__init_subclass__"),(R 56)]))
 def qK(n:String)(t:Nat)(l:Int)(b:Nat):List Obj:=[SI,a7,Y "dict" (Data.dict #[E P "__module__" (t+7) (U "ballrockers.errors" 187),E P "__qualname__" (t+9) (U n (t+8)),E P "__firstlineno__" (t+11) (I l (t+10)),E P "__static_attributes__" (t+12) (R (b+7))] 4),a0,a1,Y "code" (A #[U n (t+2),U n (t+3),V (t+4),J l,J 0,J 0,J 0,J 0,R (b+3),Value.bool false,J 181,R (b+4),O,O,O,O,J (Int.ofNat (t+5)),J l,V (t+6)]),Obj.mk (Value.type "frame") aC Data.plain #[aB (R (b+5)),aB (R 3),aB (R (b+2)),aC,aB (U "ballrockers.errors" 187),aC,aB (R 0)],a0,Y "dict" (Data.dict #[E P "__module__" (t+7) (U "ballrockers.errors" 187),E P "__firstlineno__" (t+11) (I l (t+10)),E P "__static_attributes__" (t+12) (R (b+7)),E P "__doc__" (t+13) O] 2),Obj.mk (Value.type "type") aC (Data.cls (ClassData.mk (S n) [R 24] [R (b+9),R 24,Value.type "ValueError",Value.type "Exception",Value.type "BaseException",Value.type "object"] (b+8) (S n) true [] [] false aC false)) #[aB (R b),aC,aB (U n t),aB (U n (t+8)),aB (Value.builtin "ValueError.__new__"),aB (Value.bool true)],Y "super" (A #[R (b+9),R (b+9),R (b+9)]),Y "builtin_function_or_method" (A #[Value.builtin "object.__init_subclass__",R (b+9)])]
 def SJ:List Obj:=((SD P).set 3 (a4 P)).set 12 a5++([a6,a7,(a8 P),a0,a1,a9,KG,a0,(a11 P),a12,a13,a14,a15]++(qK P "NoBoard" 207 4 28++([SI,a7,(a24 P),a0,a25,a26,a27,a0,a1,a28,a0,a29,a30,a31,a32,(a33 P),a34,a35,a36]++(qK P "NoLeans" 250 11 59++(qK P "NoStand" 266 13 71++(qK P "NoFeeder" 282 15 83))))))
 def t0:=qB 20 (SJ P)
noncomputable def s0(w:aj)(os:av):SharedT:=⟨t0 w.params,95,life,(Array.mk []),(Drawn.mk 0 0 0 0),298,os⟩
noncomputable def mJ:List aq:=(bd.drop 0).take 7
set_option maxHeartbeats 0 in
theorem L4(w:aj)(os:av):segRun treeTable p w m0 ann 1 1295 (sb w os).abs (piecesOf mJ env cd (Pos.mk 0 0 0 0) fr)=aB (.next,(s0 w os).abs,cd,(Pos.mk 15 0 16 8)):=nk (by kernel_rfl)
 def ES:=(SG P++[(E P "NoRow" 313 (R 104)),(E P "NoNumber" 329 (R 116)),(E P "NoFit" 345 (R 128)),(E P "TooGreat" 361 (R 140)),(E P "NoMachine" 377 (R 152)),(E P "NoWord" 393 (R 164)),(E P "NoFault" 409 (R 176))])
 def a58:=Y "dict" (Data.dict ((E P "__name__" 165 (U "ballrockers.errors" 187))::ES P).toArray 22)
 def ET:List (Int×Nat):=SH++[(17,100),(19,112),(21,124),(23,136),(25,148),(27,160),(29,172)]
 def a59:=X (A (qJ ET).toArray)
 def a60:=qR [37,56,68,80,92,104,116,128,140,152,164,176]
 def SK:List Obj:=(((SJ P).set 3 (a58 P)).set 12 a59).set 24 a60++(qK P "NoRow" 298 17 95++(qK P "NoNumber" 314 19 107++(qK P "NoFit" 330 21 119++(qK P "TooGreat" 346 23 131++(qK P "NoMachine" 362 25 143++(qK P "NoWord" 378 27 155++(qK P "NoFault" 394 29 167)))))))
 def t1:=qB 20 (SK P)
noncomputable def s1(w:aj)(os:av):SharedT:=⟨t1 w.params,179,life,(Array.mk []),(Drawn.mk 0 0 0 0),410,os⟩
noncomputable def st1:List aq:=(bd.drop 7).take 7
set_option maxHeartbeats 0 in
theorem L5(w:aj)(os:av):segRun treeTable p w m0 ann 1 1492 (s0 w os).abs (piecesOf st1 env cd (Pos.mk 15 0 16 8) fr)=aB (.next,(s1 w os).abs,cd,(Pos.mk 29 0 30 8)):=nk (by kernel_rfl)
 def wD:=(ES P++[(E P "NoNames" 425 (R 188)),(E P "NoText" 441 (R 200)),(E P "NoSaying" 457 (R 212)),(E P "NoName" 473 (R 224)),(E P "is_whole" 482 (R 233)),(E P "is_whole_within" 491 (R 240)),(E P "is_tuple_within" 500 (R 247)),(E P "are_wholes_within" 512 (R 254)),(E P "MOST_COLUMNS" 516 (I 40 515)),(E P "MOST_ROWS" 518 (I 60 517)),(E P "MOST_GROUPS" 520 (I 8 519)),(E P "MOST_FEEDERS" 522 (I 4 521)),(E P "MOST_NAME" 524 (I 99 523)),(E P "look_at_board" 538 (R 261)),(E P "is_leans" 546 (R 268)),(E P "look_at_leans" 554 (R 275)),(E P "is_row" 563 (R 282)),(E P "is_board_but_for_places" 575 (R 289)),(E P "are_rows" 584 (R 296)),(E P "are_doors" 594 (R 303)),(E P "is_door" 604 (R 310)),(E P "is_feeder_or_none" 612 (R 317)),(E P "may_stand" 622 (R 324)),(E P "is_rocker" 632 (R 331)),(E P "are_leans" 640 (R 338)),(E P "LEFT" 645 (I (-1) 644)),(E P "STRAIGHT" 647 (I 0 646)),(E P "RIGHT" 649 (I 1 648)),(E P "NO_DOOR" 650 (R 339))])
 def L6:=Y "dict" (Data.dict ((E P "__name__" 165 (U "ballrockers.ways" 641))::wD P).toArray 51)
 def wF:List (Int×Nat):=ET++[(31,184),(33,196),(35,208),(37,220),(40,232),(42,239),(44,246),(46,253),(59,260),(67,267),(70,274),(73,281),(75,288),(84,295),(91,302),(98,309),(103,316),(105,323),(113,330),(118,337)]
 def L7:=X (A (qJ wF).toArray)
 def L8:=qR [37,56,68,80,92,104,116,128,140,152,164,176,188,200,212,224]
 def uD:=U "ballrockers.whole" 474
 def iE:=U "ballrockers.boards" 513
 def Ma:=(Y "tuple" (Data.seq #[O,O] 0))
 def SM:List Obj:=(((SK P).set 3 (L6 P)).set 12 L7).set 24 L8++(qK P "NoNames" 410 31 179++(qK P "NoText" 426 33 191++(qK P "NoSaying" 442 35 203++(qK P "NoName" 458 37 215++(qM "is_whole" 19 476 ["thing"] 40 1 227 uD++(qM "is_whole_within" 20 483 ["thing","low","high"] 42 3 234 uD++(qM "is_tuple_within" 21 492 ["thing","fewest","most"] 44 3 241 uD++(qM "are_wholes_within" 22 501 ["thing","fewest","most","low","high","number"] 46 5 248 uD++(qM "look_at_board" 29 525 ["board","width","groups","rows","row","places","column","piece"] 59 1 255 iE++(qM "is_leans" 30 539 ["board","thing"] 67 2 262 iE++(qM "look_at_leans" 31 547 ["board","thing"] 70 2 269 iE++(qM "is_row" 32 555 ["thing","feeders","most"] 73 3 276 iE++(qM "is_board_but_for_places" 33 564 ["board","width","groups","rows","feeders","doors"] 75 1 283 iE++(qM "are_rows" 34 576 ["thing","width","places"] 84 2 290 iE++(qM "are_doors" 35 585 ["thing","width","feeders","door"] 91 3 297 iE++(qM "is_door" 36 595 ["thing","feeders","name","call"] 98 2 304 iE++(qM "is_feeder_or_none" 37 605 ["thing","feeders"] 103 2 311 iE++(qM "may_stand" 38 613 ["piece","column","width","groups"] 105 4 318 iE++(qM "is_rocker" 39 623 ["thing","groups","group","side"] 113 2 325 iE++(qM "are_leans" 40 633 ["thing","groups"] 118 2 332 iE++([Ma])))))))))))))))))))))
 def t2:=qB 20 (SM P)
noncomputable def s2(w:aj)(os:av):SharedT:=⟨t2 w.params,340,life,(Array.mk []),(Drawn.mk 0 0 0 0),651,os⟩
noncomputable def st2:List aq:=(bd.drop 14).take 32
set_option maxHeartbeats 0 in
theorem Mb(w:aj)(os:av):segRun treeTable p w m0 ann 1 1472 (s1 w os).abs (piecesOf st2 env cd (Pos.mk 29 0 30 8) fr)=aB (.next,(s2 w os).abs,cd,(Pos.mk 124 0 124 7)):=nk (by kernel_rfl)
 def EU:=(wD P++[(E P "fallen" 667 (R 347)),(E P "heading_behind" 680 (R 355)),(E P "come_down" 694 (R 363)),(E P "come_out" 707 (R 371)),(E P "Balls" 751 (R 396)),(E P "told_by" 763 (R 407)),(E P "MOST_BALLS" 767 (I 2000 766)),(E P "told" 776 (R 414)),(E P "look_at_row" 784 (R 421)),(E P "_law_cell" 794 (R 428)),(E P "_law_mixed" 804 (R 435)),(E P "_law_deck" 810 (R 440)),(E P "_law_take" 819 (R 447)),(E P "_law_piece" 831 (R 454)),(E P "_law_row" 837 (R 459)),(E P "_law_door" 847 (R 466)),(E P "_law_board" 853 (R 471)),(E P "_law_leans" 859 (R 476)),(E P "_law_fall" 874 (R 483)),(E P "_law_number" 882 (R 490)),(E P "_law_numbers" 888 (R 495)),(E P "_law_kinds" 896 (R 502)),(E P "_law_word" 904 (R 509)),(E P "_law_run" 918 (R 516)),(E P "_law_right" 932 (R 523)),(E P "_law_told" 942 (R 530)),(E P "_law_refusals_right" 948 (R 535)),(E P "law" 954 (R 540))])
 def Mc:=Y "dict" (Data.dict ((E P "__name__" 165 (U "law_ballrockers_k07_told" 785))::EU P).toArray 79)
 def EV:List (Int×Nat):=wF++[(125,346),(141,354),(155,362),(159,370),(164,377),(176,406),(184,413),(188,420),(192,427),(196,434),(199,439),(201,446),(210,453),(220,458),(222,465),(228,470),(235,475),(237,482),(255,489),(257,494),(261,501),(267,508),(272,515),(278,522),(289,529),(295,534),(304,539)]
 def Me:=X (A (qJ EV).toArray)
 def qI:=(Y "tuple" (Data.seq #[O] 0))
 def Mf:=qT 654 ["board","leans","feeder","fault","column","columns","turned","leaning","heading","places","piece"]
 def Mg:=qG "fallen" 46
 def Mh:=qC "fallen" 651 125 4 341 665
 def Mi:=(Y "function" (B (G "fallen" 46 3 [] (R 340) O O (U "ballrockers.ways" 641) aC (R 346) O 0)))
 def Mj:=qT 671 ["piece","heading","leaning","fault","group","side","lean"]
 def Ml:=qG "heading_behind" 47
 def Mm:=qC "heading_behind" 668 141 4 349 678
 def Mn:=(Y "function" (B (G "heading_behind" 47 3 [] (R 348) O O (U "ballrockers.ways" 641) aC (R 354) O 0)))
 def Mp:=qT 684 ["board","leans","feeder","fault","columns","turned","behind","column"]
 def Mq:=qG "come_down" 48
 def Mr:=qC "come_down" 681 155 4 357 692
 def Ms:=(Y "function" (B (G "come_down" 48 3 [] (R 356) O O (U "ballrockers.ways" 641) aC (R 362) O 0)))
 def Mu:=qT 698 ["board","leans","feeder","fault","column","behind","door"]
 def Mv:=qG "come_out" 49
 def Mw:=qC "come_out" 695 159 4 365 705
 def Mx:=(Y "function" (B (G "come_out" 49 3 [] (R 364) O O (U "ballrockers.ways" 641) aC (R 370) O 0)))
 def My:=(Y "dict" (Data.dict #[(E P "__module__" 717 (U "ballrockers.balls" 708)),(E P "__qualname__" 719 (U "Balls" 718)),(E P "__firstlineno__" 721 (I 164 720)),(E P "__init__" 730 (R 386)),(E P "fall" 740 (R 393)),(E P "__static_attributes__" 744 (R 394))] 6))
 def Mz:=(X (A #[(J 166),(J 4),(R 385),(J 171),(J 4),(R 392)]))
 def MA:=(Y "code" (A #[(U "Balls" 712),(U "Balls" 713),(V 714),(J 164),(J 0),(J 0),(J 0),(J 0),(R 375),(Value.bool false),(J 181),(R 376),O,O,O,O,(J 715),(J 164),(V 716)]))
 def MB:=(Obj.mk (Value.type "frame") aC Data.plain #[(aB (R 377)),(aB (R 3)),(aB (R 374)),aC,(aB (U "ballrockers.balls" 708)),aC,(aB (R 0))])
 def MC:=qT 725 ["self","board","fault"]
 def MD:=(X (B (FuncData.mk (S "__init__") (S "Balls.__init__") (ca 51 0) (FuncBody.stmts (cb 51 0)) (cs 51 0) 0 [] O O O O aC O O 0)))
 def ME:=(Y "code" (A #[(U "__init__" 722),(U "Balls.__init__" 723),(V 724),(J 166),(J 3),(J 0),(J 0),(J 3),(R 380),(Value.bool true),(J 181),(R 381),O,(R 382),(R 383),(R 384),(J 728),(J 166),(V 729)]))
 def MF:=(Y "function" (B (FuncData.mk (S "__init__") (S "Balls.__init__") (ca 51 0) (FuncBody.stmts (cb 51 0)) (cs 51 0) 3 [] (R 379) O O (U "ballrockers.balls" 708) aC (R 385) O 0)))
 def MG:=qT 734 ["self","leans","feeder","ball"]
 def MH:=(X (B (FuncData.mk (S "fall") (S "Balls.fall") (ca 51 1) (FuncBody.stmts (cb 51 1)) (cs 51 1) 0 [] O O O O aC O O 0)))
 def MI:=(Y "code" (A #[(U "fall" 731),(U "Balls.fall" 732),(V 733),(J 171),(J 3),(J 0),(J 0),(J 3),(R 387),(Value.bool true),(J 181),(R 388),O,(R 389),(R 390),(R 391),(J 738),(J 171),(V 739)]))
 def MJ:=(Y "function" (B (FuncData.mk (S "fall") (S "Balls.fall") (ca 51 1) (FuncBody.stmts (cb 51 1)) (cs 51 1) 3 [] O O O (U "ballrockers.balls" 708) aC (R 392) O 0)))
 def MK:=qT 741 ["board","fault","outcomes"]
 def ML:=(Y "dict" (Data.dict #[(E P "__module__" 717 (U "ballrockers.balls" 708)),(E P "__firstlineno__" 721 (I 164 720)),(E P "__init__" 730 (R 386)),(E P "fall" 740 (R 393)),(E P "__static_attributes__" 744 (R 394)),(E P "__dict__" 746 (R 397)),(E P "__weakref__" 748 (R 398)),(E P "__doc__" 749 O)] 4))
 def MM:=(Obj.mk (Value.type "type") aC (Data.cls (ClassData.mk (S "Balls") [(Value.type "object")] [(R 396),(Value.type "object")] 395 (S "Balls") true [] [] false aC false)) #[aC,aC,(aB (U "Balls" 710)),(aB (U "Balls" 718)),(aB (Value.builtin "object.__new__")),(aB (Value.bool true))])
 def MN:=(Y "getset_descriptor" (A #[(U "__dict__" 745),(R 396),(Value.builtin "function.__dict__"),(Value.builtin "function.__dict__#set")]))
 def MO:=(Y "getset_descriptor" (A #[(U "__weakref__" 747),(R 396),(Value.builtin "ExceptionGroup.__weakref__"),O]))
 def MP:=(Y "super" (A #[(R 396),(R 396),(R 396)]))
 def MQ:=(Y "builtin_function_or_method" (A #[(Value.builtin "object.__init_subclass__"),(R 396)]))
 def MR:=qT 755 ["balls","leans","row","names","feeder","door"]
 def MS:=qG "told_by" 52
 def MT:=qC "told_by" 752 176 3 401 761
 def MU:=qF "told_by" 52 (U "ballrockers.balls" 708) 406
 def MW:=qT 771 ["board","leans","row"]
 def MX:=qG "told" 55
 def MY:=qC "told" 768 184 3 408 774
 def MZ:=qF "told" 55 (U "ballrockers.runs" 764) 413
 def M1:=qT 780 ["board","thing"]
 def M3:=qG "look_at_row" 56
 def M4:=qC "look_at_row" 777 188 2 415 782
 def M5:=qF "look_at_row" 56 (U "ballrockers.runs" 764) 420
 def eS:=U "law_ballrockers_k07_told" 785
 def M6:List Obj:=((SM P).set 3 (Mc P)).set 12 Me++([qI,a0,a1,Mf,a0,Mg,Mh,Mi,qI,a0,a1,Mj,a0,Ml,Mm,Mn,qI,a0,a1,Mp,a0,Mq,Mr,Ms,qI,a0,a1,Mu,a0,Mv,Mw,Mx,a0,a7,(My P),a0,Mz,MA,MB,qI,a0,a1,MC,a0,MD,ME,MF,a0,a1,MG,a0,MH,MI,MJ,MK,(ML P),MM,MN,MO,MP,MQ,a0,a1,MR,a0,MS,MT,MU,a0,a1,MW,a0,MX,MY,MZ,a0,a1,M1,a0,M3,M4,M5]++(qM "_law_cell" 58 787 ["_law_script","_law_k"] 192 2 422 eS++(qM "_law_mixed" 59 795 ["_law_script","_law_k","_law_many","_law_number_here"] 196 3 429 eS++(qN "_law_deck" 60 805 199 1 436 eS++(qM "_law_take" 61 811 ["_law_deck_here","_law_many","_law_cell_here"] 201 2 441 eS++(qM "_law_piece" 62 820 ["_law_deck_here","_law_column","_law_width","_law_groups","_law_kind","_law_piece_here"] 210 4 448 eS++(qN "_law_row" 63 832 220 3 455 eS++(qM "_law_door" 64 838 ["_law_deck_here","_law_feeders","_law_name","_law_call"] 222 2 460 eS++(qN "_law_board" 65 848 228 4 467 eS++(qN "_law_leans" 66 854 235 2 472 eS)++(qM "_law_fall" 67 860 ["_law_board_here","_law_leans_here","_law_feeder","_law_column","_law_columns","_law_turned","_law_came","_law_row_here","_law_piece_here"] 237 3 477 eS++(qM "_law_number" 68 875 ["_law_found","_law_due"] 255 2 484 eS++(qN "_law_numbers" 69 883 257 2 491 eS++(qM "_law_kinds" 70 889 ["_law_e","_law_found"] 261 1 496 eS++(qM "_law_word" 71 897 ["_law_e","_law_words"] 267 1 503 eS++(qM "_law_run" 72 905 ["_law_board_here","_law_leans_here","_law_row_here","_law_names","_law_feeder","_law_columns","_law_turned","_law_is_stuck"] 272 3 510 eS++(qM "_law_right" 73 919 ["_law_board_here","_law_leans_here","_law_row_here","_law_found","_law_names","_law_behind","_law_name","_law_due"] 278 3 517 eS++(qM "_law_told" 74 933 ["_law_board_here","_law_leans_here","_law_row_here","_law_e"] 289 3 524 eS++(qN "_law_refusals_right" 75 943 295 4 531 eS++(qN "law" 76 949 304 1 536 eS)))))))))))))))))))
 def t3:=qB 20 (M6 P)
noncomputable def s3(w:aj)(os:av):SharedT:=⟨t3 w.params,541,life,(Array.mk []),(Drawn.mk 0 0 0 0),955,os⟩
noncomputable def st3:List aq:=(bd.drop 46).take 31
set_option maxHeartbeats 0 in
theorem M7(w:aj)(os:av):segRun treeTable p w m0 ann 1 1113 (s2 w os).abs (piecesOf st3 env cd (Pos.mk 124 0 124 7) fr)=aB (.next,(s3 w os).abs,cd,(Pos.mk 304 0 320 100)):=nk (by kernel_rfl)
 def hz:az:=Heap.mk (Array.mk (M6 P)) (Life.mk [] [] [] 0 [] [] false #[] [] 0 false false false 0 [2000,10,10] false 0 true [] [] 0 false)
noncomputable def sz(w:aj)(os:av):af:=⟨hz w.params,(Array.mk []),(Drawn.mk 0 0 0 0),955,os⟩
set_option maxHeartbeats 0 in
theorem fin(w:aj)(os:av):topRun treeTable p w m0 ann 2 (s3 w os).abs ⟨doneF .next,cd,(Pos.mk 304 0 320 100),fr⟩=aB (sz w os):=ER (by kernel_rfl)
 def as:List ah:=[2,3,15,22,23,24,25,28,35,36,37,40,47,49,50,52,53,54,55,56,59,66,67,68,71,78,79,80,83,90,91,92,95,102,103,104,107,114,115,116,119,126,127,128,131,138,139,140,143,150,151,152,155,162,163,164,167,174,175,176,179,186,187,188,191,198,199,200,203,210,211,212,215,222,223,224,227,229,230,232,233,234,236,237,239,240,241,243,244,246,247,248,250,251,253,254,255,257,258,260,261,262,264,265,267,268,269,271,272,274,275,276,278,279,281,282,283,285,286,288,289,290,292,293,295,296,297,299,300,302,303,304,306,307,309,310,311,313,314,316,317,318,320,321,323,324,325,327,328,330,331,332,334,335,337,338,339,340,341,343,344,346,347,348,349,351,352,354,355,356,357,359,360,362,363,364,365,367,368,370,371,379,380,382,383,385,386,387,389,390,392,393,394,395,396,397,398,401,403,404,406,407,408,410,411,413,414,415,417,418,420,421,422,424,425,427,428,429,431,432,434,435,436,439,440,441,443,444,446,447,448,450,451,453,454,455,458,459,460,462,463,465,466,467,470,471,472,475,476,477,479,480,482,483,484,486,487,489,490,491,494,495,496,498,499,501,502,503,505,506,508,509,510,512,513,515,516,517,519,520,522,523,524,526,527,529,530,531,534,535,536,539,540]
 def K:Frag:=as.map λi=>(i,(M6 P).getD i a0)
noncomputable def M0:Nat:=(12+ (1+ (1295+ (1492+ (1472+ (1113+2))))))
theorem EW:bd=mJ++(st1++(st2++(st3++([])))):=by kernel_rfl
theorem rest(w:aj)(os:av):topRun treeTable p w m0 ann (1295+ (1492+ (1472+ (1113+ (2))))) (sb w os).abs (restOf bd env cd (Pos.mk 0 0 0 0) fr)=aB (sz w os):=by
 rw[show restOf bd env cd (Pos.mk 0 0 0 0) fr=restOf (mJ++(st1++(st2++(st3++([]))))) env cd (Pos.mk 0 0 0 0) fr from k8 (λb=>restOf b env cd (Pos.mk 0 0 0 0) fr) EW];exact(piece_app (L4 w os) (piece_app (L5 w os) (piece_app (Mb w os) (piece_app (M7 w os) (piece_nil (fin w os))))))
theorem run(w:aj)(os:av):topRun treeTable p w m0 ann M0 ⟨boot_heap w.params,Array.mk [],boot_drawn,boot_toks,os⟩ (topStub p)=aB (sz w os):=
 go_top (pre w os) (piece_block (block w os) (rest w os))
noncomputable def qL:Nat:=76
noncomputable def zzp:Pos:=(Pos.mk 304 0 320 100)
noncomputable def q:ai:={p with main:={p.main with body:=keep.map (za p.main.body)}}
theorem EX:∀P,as=(K P).map (·.1):=λ_=>by kernel_rfl
noncomputable def H:Hook:=kHook K as EX
noncomputable def Xt(s:af):Bool:=xlAt q [] s&&recOk [] s
theorem zzq(w:aj)(os:av):(staticsOk (importedModules p.main.body) (boot_heap w.params) (hz w.params)&&namesBound p (hz w.params)&&gensDone (sz w os)&&laidKept (boot_heap w.params) (hz w.params))=true:=by
 rw[PySem.W.Fast.te5923862056798008813];kernel_rfl
theorem zzr(w:aj)(os:av):seen ((recsOf q).map (·.name)) (ownsOf q) [] {sz w os with gens:=#[]}=expectedOf q:=by
 rw[PySem.W.Fast.te5160383126252970620,PySem.W.R.mapR_eq,PySem.W.Fast.te3399658132070893891,PySem.W.Fast.te5991557255702980513];kernel_rfl
theorem EY(w:aj)(os:av):(sz w os).heap.bltView=bltViewBooted:=by kernel_rfl
theorem zzs(w:aj)(os:av):((sz w os).heap.keysOk (looseW q lo) ((recsOf q).map (·.name)) ((litsOf q).map (·.1)) ((clssOf q (looseW q lo)).map (·.name))&& (sz w os).heap.accountedOkI (importedModules p.main.body)&& (sz w os).heap.isNs mainGlobals&& (sz w os).heap.isNs builtinsNs&&tablesOk q (sz w os).heap&&Xt (sz w os)&& (if true=true then(sz w os).gens.size==0 else !leftWithCleanup (sz w os).gens))=true:=by
 rw[PySem.W.Fast.te10880121769531294198,PySem.W.Fast.te821141287760084731,PySem.W.R.mapR_eq,PySem.W.Fast.te3399658132070893891,PySem.W.Fast.te7409074990110511671,PySem.W.Fast.te13664370479719496447,PySem.W.Fast.te14722251495701143533,PySem.W.Fast.te10994771534591457954,PySem.W.Fast.te5923862056798008813];kernel_rfl
theorem zzt(w:aj)(os:av):tabsOk q (sz w os)=true:=by rw[PySem.W.Fast.te479339242167458305];kernel_rfl
theorem EZ(w:aj)(os:av):pinSeenD q (drecsOf q) (sz w os)=pinGoodD (drecsOf q):=by rw[PySem.W.Fast.te16090120013241838585,PySem.W.Fast.te3247288618530077131];kernel_rfl
theorem E1(w:aj)(os:av):plainSeenE q (looseW q lo) (sz w os)=plainGoodE q (looseW q lo):=by rw[PySem.W.Fast.te2386780881361962483,PySem.W.Fast.te821141287760084731];kernel_rfl
theorem E2(w:aj)(os:av):plainSeenD q lo (sz w os)=plainGoodD q lo:=by rw[PySem.W.Fast.te11698064438423848299];kernel_rfl
theorem zzu(w:aj)(os:av):wideSeen q (sz w os)=wideGood q:=by rw[PySem.W.Fast.te7317090234206586261];kernel_rfl
theorem E3(w:aj)(os:av):clsSeenW q lo (sz w os)=clsGoodW q lo:=by rw[PySem.W.Fast.te7369524293546568484];kernel_rfl
theorem zzv(w:aj)(os:av):as.map (sz w os).heap.get?=(K w.params).map λp=>aB p.2:=by kernel_rfl
theorem left:LeftO p q lo Xt (Hook.obs H) (Hook.val H) N0 true:=
 LeftO.of_pieces (H₀:=boot_heap) (H₁:=hz) (boot_open (by kernel_rfl) (by kernel_rfl) (λs=>by kernel_rfl)) (λw=>by kernel_rfl) run (by kernel_rfl)
  (λw=>funext λos=>looks_pair (zzq w os) (looks_pair
    (looks_pair (zzr w os) (looks_pair (EY w os) (looks_pair (zzs w os) (looks_pair (zzt w os) (looks_pair (EZ w os) (looks_pair (E1 w os) (looks_pair (E2 w os) (looks_pair (zzu w os) (E3 w os)))))))))
    (zzv w os)))
noncomputable def df:DefRec:=⟨S "law",fa qL,fb qL,fs qL,zzp⟩
theorem E4:defOf q (S "law")=aB (df,[]):=by kernel_rfl
theorem holds(l:OpenLaw)(hp:l.prog=p)(hn:l.name=S "law")(ok:l.wellSaid)(hch:(chainsOk q&&opensWell p&& (frees l.row.toRowW&&l.row.within.isEmpty)))(hb:l.row.toRowW.prog.bare)(hw:l.row.toRowW.promised)
 (hwr:(!l.row.writes||l.row.records.isEmpty)) (hk:p.theDef (S "law")=aB (df.params,df.body,df.scope)) (hkw:kwWritten? df.params.kwonlyargs df.params.kw_defaults=aB [])
 (call:WalkO q lo (XL q []) (Hook.says H) l.row.toRowW df [] λf vs=>PySem.call f vs):l.Holds:=
 holds_law ok λsaid=>PySem.W.holds_open (q:=q) (loose:=lo) (Xt:=Xt) (XP:=XL q []) (Yf:=Hook.obs H) (Ya:=Hook.val H) (YP:=Hook.says H) (N:=N0) (r:=l.row) (by have h:l.row.toRowW.prog=p:=hp;show LeftO l.row.toRowW.prog q lo Xt (Hook.obs H) (Hook.val H) N0 true;rw[h];exact left) (Hook.of H) (Hook.keeps H) (λs e=>xl_of s (Bool.and_eq_true_iff.mp e).1) XL.keeps
  (by show defOf q l.name=_;rw[hn];exact E4) (by show l.prog.theDef l.name=_;rw[hp,hn];exact hk) hkw (λs e=>recFacts_of (Bool.and_eq_true_iff.mp e).2) hwr said (by have h:l.row.toRowW.prog=p:=hp;rw[h];exact hch) hb hw call
end
end
end HD
namespace RF
noncomputable def SN:List PySem.Str:=(["is_whole","is_whole_within","_law_cell","_law_deck","_law_mixed","_law_take","is_tuple_within","are_wholes_within","are_doors","are_rows","is_board_but_for_places","is_door","is_feeder_or_none","is_rocker","look_at_board","may_stand"]++bI 1 "" ++ ["are_leans"]++bI 2 "" ++ ["_law_leans","_law_piece","is_leans","_law_door","look_at_leans","_law_row","_law_board"]++bI 1 "" ++ ["is_row"]++bI 9 "" ++ ["_law_fall","_law_number"]++bI 74 "" ++ ["_law_numbers"]++bI 58 "" ++ ["heading_behind","fallen","come_down","come_out"]++bI 2 "" ++ ["told_by","look_at_row"]++bI 2 "" ++ ["told"]++bI 160 "" ++ ["Balls.__init__","Balls.fall"]++bI 1 "" ++ ["Balls"]++bI 352 "" ++ ["_law_refusals_right","_law_right","_law_run","_law_told","law"]).map bf
noncomputable def zs2:List Fn:=[GL,KH,GN,DG,KI,tV,DI,DJ,KJ,KL,p9,tW,yr,tX,yt,yu]++bI 1 iT++[nW]++bI 2 iT++[qd,qc,yx,yv,yy,tY,yw]++bI 1 iT++[qe]++bI 9 iT++[qg,qh]++bI 74 iT++[kN]++bI 58 iT++[eZ,kL,vK,kM]++bI 2 iT++[kR 396,qi]++bI 2 iT++[kO]++bI 160 iT++[ng 396,jw 396]++bI 1 iT++[nh 396]++bI 352 iT++[DM,DN,DO,Aj,DP,tB 37 56,tI 705,tL 706 68,tR 104,tT 707]
noncomputable def M8:RX:=⟨[bf "look_at_board",bf "is_leans",bf "look_at_leans",bf "look_at_row",bf "told"],705,[(37,bf "board"),(56,bf "fault"),(68,bf "leans"),(104,bf "row")]⟩
theorem c07:Ax (λi=>zs2[i]?) 396:=by repeat' (first|rfl|constructor)
open PySem L2
section
noncomputable def cc(i:Nat):CC:=⟨lS ["_law_e"] (HD.fs i),(HD.fs i).names,true⟩
noncomputable def kn(l:List Bool):List (Str×Bool):=List.zip ["NoBoard","Fault","NoLeans","NoStand","NoFeeder","NoRow","NoNumber","NoFit","TooGreat","NoMachine","NoWord","NoFault","NoNames","NoText","NoSaying","NoName"] l
variable{X:Cx}{C:ah}{kb:List Bool}{k:Nat}
theorem Hw{b0 b1 b2 b3 b4 b5 b6 b7 b8 b9 bA bB bC bD bE bF:Bool}(O:pU X C (cc 70) (kn [b0,b1,b2,b3,b4,b5,b6,b7,b8,b9,bA,bB,bC,bD,bE,bF]) kb k):SQ X (HD.fb 70) (pS C [aB .exc,aC] (.oF [b0,b1,b2,b3,b4,b5,b6,b7,b8,b9,bA,bB,bC,bD,bE,bF])):=by
 have v:∀{ρ:List (Option MV)}{p:Pos}{m:MV},PE X (.Name "_law_e" p) (tM C (aB m::ρ) m):=mV O 0 (by decide +kernel) rfl;have w:∀{m n:MV}{p:Pos},PE X (.Name "_law_found" p) (tM C [aB m,aB n] n):=mV O 1 (by decide +kernel) rfl;have q:∀(i:Nat){t:Str}{b:Bool}{p p1 p2 pos:Pos}{ρ:List (Option MV)},(kn [b0,b1,b2,b3,b4,b5,b6,b7,b8,b9,bA,bB,bC,bD,bE,bF])[i]?=aB (t,b)->PE X (.Call (.Name "isinstance" p) [.Name "_law_e" p1,.Name t p2] [] pos) (tM C (aB .exc::ρ) (.bl b)):=λi _ _ _ _ _ _ _ h=>pV O v rfl h;exact kJ O 1 (by decide +kernel) (.mk (kH (bs:=[b0,b1,b2,b3]) (kG (q 0 rfl) (kG (q 1 rfl) (kG (q 2 rfl) (kG (q 3 rfl) Ae rfl) rfl) rfl) rfl) (pW rfl))) rfl rfl (kJ O 1 (by decide +kernel) (.mk (mU w (kH (bs:=[b4,b5,b6]) (kG (q 4 rfl) (kG (q 5 rfl) (kG (q 6 rfl) Ae rfl) rfl) rfl) (pW rfl)) (pW rfl))) rfl rfl (kJ O 1 (by decide +kernel) (.mk (mU w (kH (bs:=[b7,b8,b9]) (kG (q 7 rfl) (kG (q 8 rfl) (kG (q 9 rfl) Ae rfl) rfl) rfl) (pW rfl)) (pW rfl))) rfl rfl (kJ O 1 (by decide +kernel) (.mk (mU w (kH (bs:=[bA,bB,bC]) (kG (q 10 rfl) (kG (q 11 rfl) (kG (q 12 rfl) Ae rfl) rfl) rfl) (pW rfl)) (pW rfl))) rfl rfl (vD (.mk (mU w (kH (bs:=[bD,bE,bF]) (kG (q 13 rfl) (kG (q 14 rfl) (kG (q 15 rfl) Ae rfl) rfl) rfl) (pW rfl)) (pW rfl)))))))
theorem Hy{j:Nat}{z:Str}(O:pU X C (cc 71) [("BoardError",true),("ValueError",true)] kb (k+1))(hc:(kb.map PyData.bool).countP lU=1)(hj:(kb.map PyData.bool).findIdx? lU=aB j)(hz:((["board","fault","leans","stand","feeder","row","number","fit","great","machine","word"]:List Str)++(["broken","names","text","saying","name"]:List Str))[j]?=aB z)(hi:(j:Int)<2 ^ 63-1):SQ X (HD.fb 71) (pS C [aB .exc,aC] (.str z)):=by
 have v:∀{ρ:List (Option MV)}{p:Pos}{m:MV},PE X (.Name "_law_e" p) (tM C (aB m::ρ) m):=mV O 0 (by decide +kernel) rfl;have w:∀{m n:MV}{p:Pos},PE X (.Name "_law_words" p) (tM C [aB m,aB n] n):=mV O 1 (by decide +kernel) rfl;have e:(!decide (V.int (((kb.map PyData.bool).countP lU:Nat):Int)=V.int 1))=false:=by rw[hc];rfl
 have A1:∀{x}(h:PT X x (oG C [aB .exc,aC] (!decide (V.int (((kb.map PyData.bool).countP lU:Nat):Int)=V.int 1)))),PT X x (oG C [aB .exc,aC] false):=λh=>e▸h;exact Ku (vA (Qz (QA (pV O v rfl (rfl:_[0]?=_)) λ_=>rfl)) (vA (Qz (QA (pV O v rfl (rfl:_[1]?=_)) λ_=>rfl)) (zyy (A1 (Dt (Dq O.QC (vB O v rfl (by decide +kernel)) Du rfl rfl rfl) Dv rfl))))).pt
  (kJ O 1 (by decide +kernel) (vC rfl rfl) rfl rfl (vD (Dy (zy0 w (vC rfl rfl) rfl) (Dr O.QC (vB O v rfl (by decide +kernel)) Du rfl rfl rfl hj hi) rfl (oz hz))))
end
end RF
theorem RF.uE(P:PySem.Params):RF.Af (HD.K P) "_law_kinds" = aB (RF.cc 70,HD.fb 70):=by kernel_rfl
theorem RF.uF(P:PySem.Params):RF.Af (HD.K P) "_law_word" = aB (RF.cc 71,HD.fb 71):=by kernel_rfl
set_option maxHeartbeats 0 in
theorem RF.M9(P:PySem.Params):RF.gF (HD.K P) RF.SN RF.M8 60 60=aB RF.zs2:=by kernel_rfl
open PySem PySem.W PyProof.Rows
set_option maxRecDepth 100000 in
set_option maxHeartbeats 0 in
theorem PySem.Challenge.cw_ballrockers_k07_told_holds : PySem.Challenge.rw_ballrockers_k07_told.Holds := by
 refine HD.holds _ rfl rfl RF.pa07 (by kernel_rfl) ⟨rfl,rfl,rfl,rfl,rfl,by decide +kernel⟩ ?hw rfl (by kernel_rfl) (by kernel_rfl) ?call
 (case hw=>w_witness2)
 refine RF.zq7 RF.SN RF.M8 60 60 30 704 rfl (by kernel_rfl) ⟨rfl,by decide,by decide⟩ (λw h Y=>PySem.W.kIn_of Y) (by kernel_rfl) ⟨by decide +kernel,by decide +kernel,by decide +kernel⟩ ?b ?c ?d
 (case c=>intro w;kernel_rfl)
 (case d=>
   intro w mg base KX G C z hm
   have e:C=37/\z=bf "board"\/C=56/\z=bf "fault"\/C=68/\z=bf "leans"\/C=104/\z=bf "row":=by simpa[RF.M8]using hm
   rcases e with⟨rfl,rfl⟩|⟨rfl,rfl⟩|⟨rfl,rfl⟩|⟨rfl,rfl⟩
   .exact RF.mZ (t1:=RF.kn (.replicate 0 false++true :: .replicate 15 false)) (RF.uE _) (RF.uF _) KX G (by repeat' (first|kernel_rfl|rfl|decide|constructor)) (by kernel_rfl) (by kernel_rfl) (λX O=>RF.Hw O) λX O=>RF.Hy (j:=0) O rfl rfl rfl (by decide)
   .exact RF.mZ (t1:=RF.kn (.replicate 1 false++true :: .replicate 14 false)) (RF.uE _) (RF.uF _) KX G (by repeat' (first|kernel_rfl|rfl|decide|constructor)) (by kernel_rfl) (by kernel_rfl) (λX O=>RF.Hw O) λX O=>RF.Hy (j:=1) O rfl rfl rfl (by decide)
   .exact RF.mZ (t1:=RF.kn (.replicate 2 false++true :: .replicate 13 false)) (RF.uE _) (RF.uF _) KX G (by repeat' (first|kernel_rfl|rfl|decide|constructor)) (by kernel_rfl) (by kernel_rfl) (λX O=>RF.Hw O) λX O=>RF.Hy (j:=2) O rfl rfl rfl (by decide)
   .exact RF.mZ (t1:=RF.kn (.replicate 5 false++true :: .replicate 10 false)) (RF.uE _) (RF.uF _) KX G (by repeat' (first|kernel_rfl|rfl|decide|constructor)) (by kernel_rfl) (by kernel_rfl) (λX O=>RF.Hw O) λX O=>RF.Hy (j:=5) O rfl rfl rfl (by decide))
 (case b=>
   intro w ns hl
   exact RF.zu3 (RF.M9 _) (RF.EN RF.c07 hl))
