import PyProof.Rows.All
import Wide.All
import OpenK.AllK
import Wide.FinOn
import Lean
import PyProof.EqAt
import PyProof.EqKinds
import PyProof.TupleCall
import KE.KUnpack
import PySem.Challenge.RW_ballrockers_k14_joined_refused
set_option Elab.async false
set_option linter.all false
set_option genSizeOf false
set_option bootstrap.genMatcherCode false
set_option compiler.extract_closed false
set_option maxRecDepth 100000
set_option maxHeartbeats 0 in
theorem RF.pa14:PySem.Challenge.rw_ballrockers_k14_joined_refused.wellSaid=true:=by kernel_rfl
def fF:=@decide_eq_true_eq
def gq:=@decide_eq_false
def kF:=@of_decide_eq_true
def jD:=@decide_eq_true
def dH:=@if_true
def fy:=@if_false
def i6:=@beq_iff_eq
def vC:=@beq_eq_false_iff_ne
def zH:=@beq_self_eq_true
def nk:=@congrArg
open PySem renaming Value->aa,Shared->ah,Addr->ai,Program->aj,World->ak,Around->ao,Expr->aq,Stmt->au,FuncData->av,OsState->ay,Scope->az,Heap->aA,PyData->aB
open Option renaming some->aC,none->aD
open PySem.W renaming Frag->aI
open PySem.Str renaming ofString->bK
open List renaming replicate->aR
open Bool renaming and_eq_true->aS,false_eq_true->fS,false_ne_true->ic,or_eq_true->k8,not_eq_true'->zI,false_and->ym,eq_false_iff->Ea,not_true->zJ,eq_iff_iff->Eb,or_true->Ec
open PySem renaming wpAny_bind->aJ,wpAny_pure->bJ,wpAny_holding->jE,wpAny_standAt->jF,wpAny_field->iP,wpAny_mono->gQ,wpAny_callSpecial?_slot->vD,wpAny_loadPart_at->pQ,wpAny_Call_Name_kw->qz,wpAny_truthy_bool->qA,wpAny_newObj_type->qH,wpAny_isSubtype_exc->vE,wpAny_seqItems->pR,wpAny_pyIter_tuple->vF,wpAny_call_entry->vG,wpAny_setField_rec->yo,wpAny_passesOwn->vH,mem_of_lookup->zK,call_meets->nJ,wpAny_execs_nil->yq,wpAny_pyIter_list->zL,wpAny_call->qI,codeAny_mono->vI,wpAny_of_eq->vJ,wpAny_setField->zM,wpAny_typeOf->yr,wpAny_rule->vK,sizeLine_eq->zN,wpAny_attempt->Ed,wpAny_onRaise->Ef,typeIs_int->zO,wpAny_letGo->Eg
open PySem.Heap renaming get?_push_of_some->cC,lt_size->cF,get?_push_size->ji,get?_update_other->vL,size_push->nq,get?_update_self->yt
open List renaming length_map->bQ,mem_cons_of_mem->eH,length_append->dY,size_toArray->dR,length_cons->eK,mem_cons_self->fQ,length_replicate->iw,length_singleton->iR,getElem?_eq_some_iff->ku,map_cons->eS,lookup_cons->iy,getElem?_eq_getElem->k9,append_nil->jj,mem_cons->iQ,mem_append_right->nt,getElem?_set_self->pS,mem_map->iS,getElem?_map->mz,getElem?_eq_none_iff->tT,all_eq_true->mC,getElem?_append_right->vM,replicate_succ->pU,all_cons->kB,nil_append->mD,getElem?_eq_none->tU,getElem?_cons_succ->vN,zip_cons_cons->qL,getElem?_append_left->yu,filterMap_cons->tV,mem_append->pV,getElem?_cons_zero->yv,getElem?_set_ne->vO,flatten_cons->tW,map_nil->nu,find?_cons->qP,length_nil->tX,map_append->vP,eq_of_mem_replicate->Eh,getElem?_replicate->Ei,length_take->yw,cons_append->yx,forIn_nil->vQ,take_of_length_le->Ej,length_set->yy,mem_append_left->Ek,mem_of_getElem?->El,length_drop->zP,mem_filterMap->Em,nodup_cons->zQ,forIn_cons->zR,mem_singleton->Eo,drop_zero->zS,getElem_mem->Ep,not_mem_nil->Es,of_mem_zip->Et,any_cons->Eu
open Nat renaming le_refl->aZ,lt_of_lt_of_le->eN,ne_of_lt->eB,le_of_ble_eq_true->kG,le_trans->gu,zero_le->jG,eq_of_beq_eq_true->tY,lt_succ_self->pW,ne_of_gt->lg,not_lt->jH,lt_irrefl->qQ,le_succ_of_le->zT,le_add_right->zU,le_of_lt->vR,lt_succ_of_lt->Ew,le_succ->vec,ble_eq->zV
open Int renaming eq_ofNat_of_zero_le->nv,toNat_natCast->pX,emod_lt_of_pos->Ey,emod_nonneg->Ez
open PySem.AutoSeq1 renaming wpAny_loadPart'->nK
open Option renaming join_some->mE,map_some->qS,bind_some->zW
open PySem.W renaming kia_one->lu,callWith_K->zX,mg_of->zY
open PyProof.Rows renaming slot_tuple_getitem->yz,callWith_type1->vcs
open Ne renaming symm->eE
open Option.some renaming inj->ny
open Array renaming getElem?_eq_some_iff->yC
open PySem.W.Fast renaming te14364793385576792824->EA
open PySem.F renaming slot_tuple_iterator_next->EB,slot_tuple_mul->zZ,slot_int_rmul->EC,slot_zip_next->ED
open PySem.SeqAt renaming canLay_of_shaped->EE
open PySem.Code renaming quiet_builtin->EF
open LawfulMonad renaming pure_bind->tZ
namespace L2
theorem aR1(h:True:=by rfl):True:=h
theorem aD1(h:True:=by decide):True:=h
theorem aF1(h:True:=by first|exact .inl rfl|exact .inr rfl|assumption):True:=h
end L2
namespace L2
open PySem PySem.Spec PyProof.Rows
noncomputable abbrev Key:=Sum Int Str
noncomputable def i7:Key->aa->Bool|.inl k,v=>Value.isInt k v|.inr x,v=>Value.isStrOf x v
noncomputable def Gy(w:ak):Key->Int|.inl k=>hashInt k|.inr x=>hashStr w x
theorem qV:∀{k:Key} {v:aa},i7 k v=true->(∃i t,k=Sum.inl i/\v=Value.int i t)\/(∃x t,k=Sum.inr x/\v=Value.str x t)
 |.inl i,v,h=>by
  obtain⟨t,e⟩:=Value.isInt_shape (k:=i) (v:=v) h;exact .inl ⟨i,t,rfl,e⟩
 |.inr x,v,h=>by
  obtain⟨t,e⟩:=Value.isStrOf_shape (x:=x) (v:=v) h;exact .inr ⟨x,t,rfl,e⟩
theorem Qs(i:Int)(t:Tok):i7 (.inl i) (.int i t)=true:=by simp[i7,Value.isInt]
theorem Qt(x:Str)(t:Tok):i7 (.inr x) (.str x t)=true:=by simp[i7,Value.isStrOf]
theorem Qu(a b:Int):decide ((Sum.inl a:Key)=Sum.inl b)=(a==b):=by by_cases e:a=b;subst e;simp;have h:¬(Sum.inl a:Key)=Sum.inl b:=λq=>e (Sum.inl.inj q);rw[gq h];exact(vC.mpr e).symm
theorem Qv(a b:Str):decide ((Sum.inr a:Key)=Sum.inr b)=decide (a=b):=by by_cases e:a=b;subst e;simp;have h:¬(Sum.inr a:Key)=Sum.inr b:=λq=>e (Sum.inr.inj q);rw[gq h,gq e]
theorem Qw(a:Int)(b:Str):decide ((Sum.inl a:Key)=Sum.inr b)=false:=gq (λq=>nomatch q)
theorem Qx(a:Str)(b:Int):decide ((Sum.inr a:Key)=Sum.inl b)=false:=gq (λq=>nomatch q)
noncomputable def kH(prog:aj)(w:ak):PySem.KeyKind prog w Key where
 is:=i7
 hash:=Gy w
 inj:=λv a b ha hb=>by
  rcases qV ha with⟨i,t,rfl,rfl⟩|⟨x,t,rfl,rfl⟩
  .rcases qV hb with⟨j,u,rfl,e⟩|⟨y,u,rfl,e⟩
   .injection e with e1 _;rw[e1]
   .exact nomatch e
  .rcases qV hb with⟨j,u,rfl,e⟩|⟨y,u,rfl,e⟩
   .exact nomatch e
   .injection e with e1 _;rw[e1]
 byValue:=λk v h=>by
  rcases qV h with⟨i,t,rfl,rfl⟩|⟨x,t,rfl,rfl⟩<;>rfl
 pyHash:=λhv h=>by
  rcases qV hv with⟨i,t,rfl,rfl⟩|⟨x,t,rfl,rfl⟩
  .exact wpAny_pyHash_int h
  .exact wpAny_pyHash_str h
 eqBool:=λhu hv h=>by
  rcases qV hu with⟨i,t,rfl,rfl⟩|⟨x,t,rfl,rfl⟩
  .rcases qV hv with⟨j,u,rfl,rfl⟩|⟨y,u,rfl,rfl⟩
   .rw[Qu]at h;exact wpAny_eqBool_int h
   .rw[Qw]at h;exact SeqAt.EqAt.int_str i t y u _ _ _ _ h
  .rcases qV hv with⟨j,u,rfl,rfl⟩|⟨y,u,rfl,rfl⟩
   .rw[Qx]at h;exact SeqAt.EqAt.str_int x t j u _ _ _ _ h
   .rw[Qv]at h;exact wpAny_eqBool_str h
 «strs»:=λk x t v h=>by
  rcases qV h with⟨i,u,rfl,e⟩|⟨y,u,rfl,e⟩
  .exact nomatch e
  .injection e with e1 _
   subst e1
   cases v<;>rfl
theorem Qy(prog:aj)(w:ak)(i:Int)(t:Tok):(kH prog w).is (.inl i) (.int i t)=true:=Qs i t
theorem Qz(prog:aj)(w:ak)(x:Str)(t:Tok):(kH prog w).is (.inr x) (.str x t)=true:=Qt x t
inductive V where
 |aN|bl (b:Bool)|int (i:Int)|str (x:Str)|mF (b:Array UInt8)|yD (b:UInt64)|ref (a:ai)|ty (n:String)
 deriving DecidableEq
noncomputable def RelV:V->aa->Prop|.aN,u=>u=Value.none|.bl b,u=>u=Value.bool b|.int i,u=>∃t,u=Value.int i t|.str x,u=>∃t,u=Value.str x t|.mF b,u=>∃t,u=Value.bytes b t|.yD b,u=>∃t,u=Value.float b t|.ref a,u=>u=Value.ref a|.ty n,u=>u=Value.type n
noncomputable abbrev Vals:List V->List aa->Prop:=Paired RelV
theorem Vals.length{xs:List V}{us:List aa}(r:Vals xs us):xs.length=us.length:=Paired.length r
theorem Vals.get:∀{xs:List V} {us:List aa} {i:Nat} {x:V},Vals xs us->xs[i]?=aC x->∃u,us[i]?=aC u/\RelV x u
 |_,_,_,_,.nil,e=>by simp at e
 |_,_,0,_,.cons r _,e=>by simp at e;subst e;exact⟨_,rfl,r⟩
 |_,_,i+1,x,.cons _ t,e=>by
  obtain⟨u,h1,h2⟩:=Vals.get (i:=i) (x:=x) t (by simpa using e);exact⟨u,by simpa using h1,h2⟩
theorem Vals.set{x:V}{u:aa}(r:RelV x u):∀{xs:List V} {us:List aa} (i:Nat),Vals xs us->Vals (xs.set i x) (us.set i u)|_,_,_,.nil=>.nil|_,_,0,.cons _ t=>.cons r t|_,_,i+1,.cons q t=>.cons q (Vals.set r i t)
theorem Vals.append:∀{xs ys:List V} {us ws:List aa},Vals xs us->Vals ys ws->Vals (xs++ys) (us++ws)|_,_,_,_,.nil,s=>s|_,_,_,_,.cons r t,s=>.cons r (Vals.append t s)
theorem Vals.take:∀{xs:List V} {us:List aa} (n:Nat),Vals xs us->Vals (xs.take n) (us.take n)|_,_,0,_=>.nil|_,_,_+1,.nil=>.nil|_,_,n+1,.cons r t=>.cons r (Vals.take n t)
theorem Vals.drop:∀{xs:List V} {us:List aa} (n:Nat),Vals xs us->Vals (xs.drop n) (us.drop n)|_,_,0,r=>r|_,_,_+1,.nil=>.nil|_,_,n+1,.cons _ t=>Vals.drop n t
noncomputable def fT:Option V->Option aa->Prop|some v,aC u=>RelV v u|none,aD=>True|_,_=>False
noncomputable def KV{κ:Type}:List (κ×V)->List (κ×aa)->Prop:=Paired λ(p:κ×V) (q:κ×aa)=>p.1=q.1/\RelV p.2 q.2
noncomputable def kV:Key->V|.inl i=>.int i|.inr x=>.str x
inductive HO where
 /-- a list -/
 |lst (xs:List V)
 /-- a tuple (never changes) -/
 |tup (xs:List V)
 /-- a dict Aa keys are ints and texts;one Aa keys are tuples of ints and texts (yE empty one is both) -/
 |dK (kvs:List (Key×V))|dT (kvs:List (List Key×V))
 /-- a set of ints: its members,its size -/
 |set (S:Int->Bool) (n:Nat)
 /-- an instance of yE class at C,its dict at dx,its attributes -/
 |ins (C dx:ai) (fs:List (Str×V))
 /-- yE dict of yE instance at x -/
 |own (x:ai)
 /-- yE dict of an exception -/
 |xd (fs:List (Str×V))
 /-- a bound method,f of x -/
 |met (f x:ai)
 /-- a range object lo,lo+1,.. below hi -/
 |Gz (lo hi:Int)
 /-- a thing QA is known to yE object (yE script;a dict while a loop walks it): read,never written while it is so -/
 |cG (o:Obj) (u:HO)
 /-- a code Ab table -/
 |vS (ps:Array aa)
 /-- any other thing,by what is true of its one object (a def of Lw own: QB a S n:=HO.ext λh=>..) -/
 |ext (φ:aA->Prop)
noncomputable abbrev Hp:=ai->Option HO
noncomputable def upd(H:Hp)(a:ai)(o:HO):Hp:=λb=>if b=a then aC o else H b
theorem fB{H:Hp}{a:ai}{o:HO}:upd H a o a=aC o:=by unfold upd;rw[if_pos rfl]
theorem bX{H:Hp}{a b:ai}{o:HO}(h:b≠a):upd H a o b=H b:=by unfold upd;rw[if_neg h]
theorem eT{H:Hp}{a b:ai}{o u:HO}(h:H a=aC o)(h':H b=aC u)(d:o≠u):a≠b:=by intro e;subst e;rw[h]at h';exact d (ny h')
theorem gR{H:Hp}{a b:ai}{o:HO}(h:H a=aC o)(h':H b=aD):a≠b:=by intro e;subst e;rw[h]at h';cases h'
noncomputable def ly(h:aA)(a:ai)(items:Array aa):Prop:=∃o,h.get? a=aC o/\o.cls=.type "tuple"/\(∃n,o.data=.seq items n)/\o.dict=aD
theorem ly.tup{h:aA}{a:ai}{items:Array aa}(x:ly h a items):IsTup h a items:=let⟨o,e,c,d,_⟩:=x;⟨o,e,c,d⟩
theorem ly.lt{h:aA}{a:ai}{items:Array aa}(x:ly h a items):a<h.objs.size:=x.tup.lt
theorem ly.new(h:aA)(items:Array aa):ly (h.push {cls:=.type "tuple",data:=.seq items}) h.objs.size items:=⟨_,ji _ rfl,rfl,⟨_,rfl⟩,rfl⟩
section
variable(P:aj)(w:ak)
noncomputable def bf(H:Hp)(h:aA)(a:ai):HO->Prop
 |.lst xs=>xs.length<=sizeLine/\∃(its:List aa) (n:Nat),Vals xs its/\h.get? a=aC {cls:=.type "list",data:=.seq its.toArray n}
 |.tup xs=>xs.length<=sizeLine/\∃its:List aa,Vals xs its/\ly h a its.toArray
 |.dK kvs=>kvs.length<=sizeLine/\(a==sysModules)=false/\∃vs,KV kvs vs/\h.DictOf (kH P w) a vs
 |.dT kvs=>kvs.length<=sizeLine/\(a==sysModules)=false/\∃xs:List (List Key×ai×aa),
  Paired (λ(p:List Key×V)(q:List Key×ai×aa)=>p.1=q.1/\H q.2.1=aC (.tup (p.1.map kV))/\RelV p.2 q.2.2) kvs xs/\
  ∃o es ep,h.get? a=aC o/\o.ExactDict/\o.data=.dict es ep/\es.toList=xs.map (entryOfKey (tupleKind (kH P w)))/\(xs.map (·.1)).Nodup
 |.set S n=>h.SetOf (intKind P w) a S n
 |.ins C dx fs=>H dx=aC (.own a)/\fs.length<=1000/\dx≠a/\h.get? a=aC (PySem.W.instObj C dx)/\
  ∃mA,h.Ns1 dx mA/\(∀f,fT (fs.lookup f) (mA f))/\PySem.Within mA (fs.map (·.1))
 |.own _=>∃o,h.get? a=aC o
 |.xd fs=>∃mA,h.Ns1 a mA/\∀f,fT (fs.lookup f) (mA f)
 |.Gz lo hi=>∃t u v,h.get? a=aC {cls:=.type "range",data:=.fields #[.int lo t,.int hi u,.int 1 v]}
 |.cG o u=>h.get? a=aC o/\bf H h a u
 |.vS ps=>h.get? a=aC {cls:=.none,data:=.fields ps}
 |.met f x=>h.get? a=aC (PySem.W.methodObj (.ref f) (.ref x))
 |.ext φ=>φ h/\(∃o,h.get? a=aC o)/\∀h1 h2:aA,φ h1->(∀o,h1.get? a=aC o->h2.get? a=aC o)->φ h2
noncomputable def dS(H:Hp)(h:aA):Prop:=∀a o,H a=aC o->bf P w H h a o
end
section
variable{P:aj}{w:ak}{H H':Hp}{h h':aA}{a:ai}{o:HO}
theorem bf.lt(x:bf P w H h a o):a<h.objs.size:=by
 cases o with|lst xs=>obtain⟨_,_,_,_,e⟩:=x;exact cF e|tup xs=>obtain⟨_,_,_,p⟩:=x;exact p.lt|dK kvs=>obtain⟨_,_,_,_,o,_,_,e,_⟩:=x;exact cF e|dT kvs=>obtain⟨_,_,_,_,o,_,_,e,_⟩:=x;exact cF e|set S n=>obtain⟨o,_,_,_,e,_⟩:=x;exact cF e|ins C dx fs=>obtain⟨_,_,_,e,_⟩:=x;exact cF e|own y=>obtain⟨_,e⟩:=x;exact cF e|xd fs=>obtain⟨_,⟨_,_,_,e,_⟩,_⟩:=x;exact cF e|Gz lo hi=>obtain⟨_,_,_,e⟩:=x;exact cF e|cG ob u=>obtain⟨e,_⟩:=x;exact cF e|vS ps=>exact cF (show h.get? a=aC _ from x)|met f y=>exact cF (show h.get? a=aC _ from x)|ext φ=>obtain⟨_,⟨_,e⟩,_⟩:=x;exact cF e
theorem Paired.Ac{α β:Type}{F G:α->β->Prop}:∀{l₁:List α} {l₂:List β},Paired F l₁ l₂->(∀a b,F a b->G a b)->Paired G l₁ l₂|_,_,.nil,_=>.nil|_,_,.cons r t,f=>.cons (f _ _ r) (Paired.Ac t f)
theorem bf.stay(x:bf P w H h a o)(k:∀b u,(b=a\/H b=aC (.own a))->h.get? b=aC u->h'.get? b=aC u)
 (ho:∀b,H b=aC (.own a)->H' b=aC (.own a)) (ht:∀b xs,H b=aC (.tup xs)->H' b=aC (.tup xs)):bf P w H' h' a o:=by
 induction o with
 |lst xs=>obtain⟨z,its,n,r,e⟩:=x;exact⟨z,its,n,r,k _ _ (.inl rfl) e⟩
 |tup xs=>obtain⟨z,its,r,ob,e,c⟩:=x;exact⟨z,its,r,ob,k _ _ (.inl rfl) e,c⟩
 |dK kvs=>obtain⟨z,y,vs,r,ob,es,ep,e,c⟩:=x;exact⟨z,y,vs,r,ob,es,ep,k _ _ (.inl rfl) e,c⟩
 |dT kvs=>
  obtain⟨z,y,xs,r,ob,es,ep,e,c⟩:=x;exact⟨z,y,xs,Paired.Ac r λp q z=>⟨z.1,ht _ _ z.2.1,z.2.2⟩,ob,es,ep,k _ _ (.inl rfl) e,c⟩
 |set S n=>obtain⟨ob,es,ep,t,e,c⟩:=x;exact⟨ob,es,ep,t,k _ _ (.inl rfl) e,c⟩
 |ins C dx fs=>
  obtain⟨d,z,ne,e,mA,⟨od,es,ep,e2,c⟩,r⟩:=x;exact⟨ho _ d,z,ne,k _ _ (.inl rfl) e,mA,⟨od,es,ep,k _ _ (.inr d) e2,c⟩,r⟩
 |own y=>obtain⟨ob,e⟩:=x;exact⟨ob,k _ _ (.inl rfl) e⟩
 |xd fs=>obtain⟨mA,⟨od,es,ep,e,c⟩,r⟩:=x;exact⟨mA,⟨od,es,ep,k _ _ (.inl rfl) e,c⟩,r⟩
 |Gz lo hi=>obtain⟨t,u,v,e⟩:=x;exact⟨t,u,v,k _ _ (.inl rfl) e⟩
 |cG ob u ih=>obtain⟨e,q⟩:=x;exact⟨k _ _ (.inl rfl) e,ih q⟩
 |vS ps=>
  have e:h.get? a=aC {cls:=.none,data:=.fields ps}:=x;show h'.get? a=aC {cls:=.none,data:=.fields ps};exact k a _ (.inl rfl) e
 |met f y=>
  have e:h.get? a=aC (PySem.W.methodObj (.ref f) (.ref y)):=x;show h'.get? a=aC (PySem.W.methodObj (.ref f) (.ref y));exact k a _ (.inl rfl) e
 |ext φ=>obtain⟨p,⟨o,e⟩,st⟩:=x;exact⟨st _ _ p λo q=>k _ _ (.inl rfl) q,⟨o,k _ _ (.inl rfl) e⟩,st⟩
theorem dS.lt(x:dS P w H h)(e:H a=aC o):a<h.objs.size:=(x a o e).lt
theorem dS.fresh(x:dS P w H h)(e:h.objs.size<=a):H a=aD:=by
 cases q:H a with|none=>rfl|some u=>exact absurd (eN (x.lt q) e) (qQ _)
theorem dS.kept(x:dS P w H h)(k:∀b u,h.get? b=aC u->h'.get? b=aC u):dS P w H h':=λa o e=>
 (x a o e).stay (λb u _ q=>k b u q) (λ_ q=>q) λ_ _ q=>q
theorem dS.laid(x:dS P w H h)(k:∀b u,h.get? b=aC u->h'.get? b=aC u)(hp:h.objs.size<=a)(new:bf P w (upd H a o) h' a o):dS P w (upd H a o) h':=λb u e=>by
 have hn:=x.fresh hp;by_cases hb:b=a;subst hb;rw[fB]at e;cases e;exact new;rw[bX hb]at e;exact(x b u e).stay (λc v _ q=>k c v q) (λc q=>by rw[bX (gR q hn)];exact q) λc xs q=>by rw[bX (gR q hn)];exact q
end
noncomputable def Rd(H:Hp)(a:ai)(u:HO):Prop:=H a=aC u\/∃o,H a=aC (.cG o u)
theorem Rd.ok{P:aj}{w:ak}{H:Hp}{h:aA}{a:ai}{u:HO}(r:Rd H a u)(x:dS P w H h):bf P w H h a u:=by rcases r with r|⟨o,r⟩;exact x a u r;obtain⟨_,q⟩:=x a _ r;exact q
noncomputable def Ad:Option HO->Prop|some (.lst _)=>True|some (.dK _)=>True|some (.dT _)=>True|some (.set _ _)=>True|some (.ins _ _ _)=>True|some (.ext _)=>True|_=>False
section
variable{P:aj}{w:ak}{H:Hp}{h h':aA}{x e:ai}{o':HO}
theorem dS.write(ok:dS P w H h)(mu:Ad (H x))(he:e=x\/H e=aC (.own x))(k:∀b u,b≠e->h.get? b=aC u->h'.get? b=aC u)(yF:∃u,h'.get? e=aC u)
 (new:bf P w (upd H x o') h' x o'):dS P w (upd H x o') h':=λb u q=>by
 have Ae:∀c y,H c=aC (.own y)->c≠x:=λc y r z=>by subst z;rw[r]at mu;exact mu
 have GA:∀c xs,H c=aC (.tup xs)->c≠x:=λc xs r z=>by subst z;rw[r]at mu;exact mu
 by_cases hb:b=x;subst hb;rw[fB]at q;cases q;exact new;rw[bX hb]at q;by_cases vU:b=e;have q':H b=aC (.own x):=by rcases he with z|z;exact absurd (vU.trans z) hb;rw[vU];exact z
 rw[q]at q';cases q';obtain⟨v,hv⟩:=yF;exact⟨v,by rw[vU];exact hv⟩;refine(ok b u q).stay (λc v hc r=>k c v ?_ r) (λc r=>by rw[bX (Ae c b r)];exact r) λc xs r=>by rw[bX (GA c xs r)];exact r
 rcases hc with rfl|hc;exact vU;rintro rfl;rcases he with z|z;exact Ae c b hc z;rw[hc]at z;cases z;exact hb rfl
end
structure Un(fs ex:List ai)(H H':Hp)(h h':aA):Prop where
 keep:∀b o,h.get? b=aC o->H b=aD->b∉fs->b∉ex->h'.get? b=aC o
 slot:∀b o,h.get? b=aC o->H b=aD->b∈fs->b∉ex->∃sl,h'.get? b=aC {o with slots:=sl}
 free:∀b o,h.get? b=aC o->H b=aD->b∉ex->H' b=aD
 there:∀b o,h.get? b=aC o->b∉ex->∃o',h'.get? b=aC o'
 tups:∀b xs,H b=aC (.tup xs)->H' b=aC (.tup xs)
 gT:∀b o u,H b=aC (.cG o u)->H' b=aC (.cG o u)
 iz:∀b ps,H b=aC (.vS ps)->∃more,H' b=aC (.vS (ps++more))
section
variable{fs fs' ex ex':List ai}{H H1 H2:Hp}{h h1 h2 h':aA}{a x e:ai}{o:HO}
theorem Un.any(u:Un fs ex H H1 h h1){b:ai}{ob:Obj}(q:h.get? b=aC ob)(n:H b=aD)(hx:b∉ex):∃sl,h1.get? b=aC {ob with slots:=sl}:=by by_cases hb:b∈fs;exact u.slot b ob q n hb hx;exact⟨ob.slots,u.keep b ob q n hb hx⟩
theorem Un.kept(k:∀b u,h.get? b=aC u->h'.get? b=aC u):Un fs ex H H h h':=
 ⟨λb ob q _ _ _=>k b ob q,λb ob q _ _ _=>⟨ob.slots,k b ob q⟩,λ_ _ _ n _=>n,λb ob q _=>⟨ob,k b ob q⟩,λ_ _ q=>q,λ_ _ _ q=>q,λ_ ps q=>⟨#[],by rw[q];simp⟩⟩
theorem Un.refl:Un fs ex H H h h:=Un.kept λ_ _ q=>q
theorem Un.laid(k:∀b u,h.get? b=aC u->h'.get? b=aC u)(hp:h.objs.size<=a)(hn:H a=aD):Un fs ex H (upd H a o) h h' where
 keep:=λb u q _ _ _=>k b u q
 slot:=λb u q _ _ _=>⟨u.slots,k b u q⟩
 free:=λb u q n _=>by rw[bX (eB (eN (cF q) hp))];exact n
 there:=λb u q _=>⟨u,k b u q⟩
 tups:=λb xs q=>by rw[bX (gR q hn)];exact q
 gT:=λb u xs q=>by rw[bX (gR q hn)];exact q
 iz:=λb ps q=>⟨#[],by rw[bX (gR q hn),q];simp⟩
theorem Un.write(mu:Ad (H x))(he:e=x\/H e=aC (.own x))(k:∀b u,b≠e->h.get? b=aC u->h'.get? b=aC u)(yF:∃u,h'.get? e=aC u):Un fs ex H (upd H x o) h h':=by
 have hx:∀b,H b=aD->b≠x:=λb n z=>by subst z;rw[n]at mu;exact mu
 have hb:∀b,H b=aD->b≠e:=λb n z=>by
  subst z;rcases he with r|r
  exact hx b n r;rw[n]at r;cases r
 have hm:∀b u,H b=aC u->¬Ad (aC u)->b≠x:=λb u q nm z=>by subst z;rw[q]at mu;exact nm mu
 refine⟨λb u q n _ _=>k b u (hb b n) q,λb u q n _ _=>⟨u.slots,k b u (hb b n) q⟩,λb u q n _=>by rw[bX (hx b n)];exact n,λb u q _=>?_,
  λb xs q=>by rw[bX (hm b _ q λz=>z)];exact q,λb u xs q=>by rw[bX (hm b _ q λz=>z)];exact q,λb ps q=>⟨#[],by rw[bX (hm b _ q λz=>z),q];simp⟩⟩
 by_cases vU:b=e;subst vU;exact yF;exact⟨u,k b u vU q⟩
end
noncomputable def EG(h:aA)(H:Hp):List ai:=(List.range h.objs.size).filter λa=>(H a).isSome
noncomputable def jk(h:aA)(H:Hp):aA:=PySem.W.hideAll h (EG h H)
theorem QC(h:aA)(H:Hp):(jk h H).objs.size=h.objs.size:=PySem.W.hideAll_size _ _
theorem QD{h:aA}{H:Hp}{b:ai}{o:Obj}(e:h.get? b=aC o)(n:H b=aD):(jk h H).get? b=aC o:=
 PySem.W.hideAll_get _ e λhm=>by
  have q:(H b).isSome=true:=(List.mem_filter.mp hm).2;rw[n]at q;simp at q
theorem QE{h:aA}{H:Hp}{b:ai}{o:Obj}(e:(jk h H).get? b=aC o):h.get? b=aC o/\H b=aD:=by
 have e':h.get? b=aC o:=PySem.W.of_hideAll (EG h H) e;refine⟨e',?_⟩;cases q:H b with
 |none=>rfl
 |some x=>
  have hm:b∈EG h H:=List.mem_filter.mpr ⟨List.mem_range.mpr (cF e'),by simp[q]⟩;have z:(jk h H).get? b=aD:=PySem.W.hideAll_none (EG h H) hm;rw[z]at e;cases e
structure Mod(K:aI)(mg:Str->Option aa)(base:aA):Prop where
 t7:K.In base
 glob:base.Ns mainGlobals mg
 blt:∃mb,base.Ns builtinsNs mb/\∀x:Str,x≠"__name__"->mb x=bootBuiltins x
 nolimit:base.NoLimit
set_option genInjectivity false in
structure Cx where
 prog:aj
 w:ak
 K:aI
 mg:Str->Option aa
 base:aA
 A:ao
 N:List Str
 s₀:ah
 H₀:Hp
 env:Env
 outer:List Env
 stack:List Env
 ex:List ai
 fn:Str->Bool
 calm:Bool
 pn:List (ai×Obj)
 xe:aa->ah->Prop
noncomputable def frs(l:List Env):List ai:=l.filterMap (·.frame)
noncomputable abbrev Cx.fs(X:Cx):List ai:=frs X.outer
noncomputable def kI(sc:az)(x:Str):Prop:=sc.names.lookup x=aC .local\/sc.names.lookup x=aC .cell\/sc.names.lookup x=aC .free
noncomputable def Loc(sc:az)(x:Str):Prop:=sc.names.lookup x=aC .local\/sc.names.lookup x=aC .cell
noncomputable def Look(env:Env)(h:aA)(m:Str->Option aa)(x:Str)(u:aa):Prop:=
 (env.kindOf x=aC .local/\m x=aC u)\/((env.kindOf x=aC .cell\/env.kindOf x=aC .free)/\∃c,env.cells.lookup x=aC c/\h.IsCell c (aC u))
structure Cx.Ok(X:Cx):Prop where
 mod:Mod X.K X.mg X.base
 kind:X.env.scope.kind=.function
 glob:X.env.globals=mainGlobals
 blt:X.env.builtins=builtinsNs
 above:X.s₀.heap.objs.size<=X.env.locals
 inj:∀x y c,X.env.cells.lookup x=aC c->X.env.cells.lookup y=aC c->x=y
 has:∀x,(X.env.kindOf x=aC .cell\/X.env.kindOf x=aC .free)->∃c,X.env.cells.lookup x=aC c
 vV:∀x c,X.fn x=true->X.env.cells.lookup x=aC c->X.s₀.heap.objs.size<=c
 hd:X.calm=true->X.A.handled=aD
 frames:X.A.frames=aC X.stack
 stk:X.stack=X.outer\/(X.stack=X.env::X.outer/\X.env.frame=aC X.env.locals)
 yG:∀b∈X.ex,b≠X.env.locals/\∀x c,X.env.cells.lookup x=aC c->c≠b
 bs:∀b o,X.base.get? b=aC o->X.s₀.heap.get? b=aC o/\X.H₀ b=aD
 nM:X.base.objs.size<=X.s₀.heap.objs.size
 kJ:∀b o,X.base.get? b=aC o->b∉X.ex
 kK:∀b∈X.ex,b∉X.fs
 fM:X.s₀.heap.FunFrames X.base X.outer
 pY:∀b∈X.fs,X.H₀ b=aD
structure Inv(X:Cx)(pins:List (ai×Obj))(σ:List (Option V))(H:Hp)(s:ah):Prop where
 ok:X.Ok
 os:s.os=X.s₀.os
 bare:AllBare s.gens
 base:Un X.fs X.ex X.H₀ H X.s₀.heap s.heap
 loc:∃m,s.heap.Ns X.env.locals m/\∀(i:Nat)(x:Str)(v:V),X.N[i]?=aC x->σ[i]?=aC (aC v)->kI X.env.scope x->∃u,RelV v u/\Look X.env s.heap m x u
 cell:∀x c,X.env.cells.lookup x=aC c->∃v,s.heap.IsCell c v
 free:H X.env.locals=aD
 dz:∀x c,X.env.cells.lookup x=aC c->H c=aD
 pin:∀p∈X.pn++pins,s.heap.get? p.1=aC p.2/\H p.1=aD/\p.1≠X.env.locals/\p.1∉X.fs/\∀v,p.2.data≠.cell v
 hok:dS X.prog X.w H s.heap
 len:σ.length=X.N.length
section
variable{X:Cx}{pins:List (ai×Obj)}{σ:List (Option V)}{H H':Hp}{s:ah}{h':aA}
theorem Cx.Ok.jN(ok:X.Ok){b:ai}{o:Obj}(e:X.base.get? b=aC o):b∉X.fs:=λhb=>by
 have:=(ok.fM.mem hb).1;rw[e]at this;cases this
theorem Inv.bs(I:Inv X pins σ H s):∀b o,X.base.get? b=aC o->s.heap.get? b=aC o/\H b=aD:=λb o e=>
 ⟨I.base.keep b o (I.ok.bs b o e).1 (I.ok.bs b o e).2 (I.ok.jN e) (I.ok.kJ b o e),I.base.free b o (I.ok.bs b o e).1 (I.ok.bs b o e).2 (I.ok.kJ b o e)⟩
theorem Inv.bk(I:Inv X pins σ H s):∀b o,X.base.get? b=aC o->s.heap.get? b=aC o:=λb o e=>(I.bs b o e).1
theorem Inv.mod(I:Inv X pins σ H s):Mod X.K X.mg X.base:=I.ok.mod
theorem Inv.eF(I:Inv X pins σ H s):X.K.In s.heap:=I.ok.mod.t7.keeps I.bk
theorem Inv.lt(I:Inv X pins σ H s):X.env.locals<s.heap.objs.size:=let⟨_,hn,_⟩:=I.loc;hn.lt
theorem Inv.sz(I:Inv X pins σ H s):X.s₀.heap.objs.size<=s.heap.objs.size:=gu I.ok.above (vR I.lt)
theorem Inv.GC(I:Inv X pins σ H s){a:ai}(h:s.heap.objs.size<=a):a∉X.fs:=λhb=>by
 obtain⟨_,o,ho,_⟩:=I.ok.fM.mem hb;exact absurd (eN (cF ho) (gu I.sz h)) (qQ _)
theorem Inv.qW(I:Inv X pins σ H s):∀x c,X.env.cells.lookup x=aC c->c≠X.env.locals:=λx c e z=>by
 obtain⟨v,o,ho,hd⟩:=I.cell x c e;obtain⟨m,⟨o',es,ep,ho',hd',_⟩,_⟩:=I.loc;rw[z,ho']at ho;cases ho;rw[hd']at hd;cases hd
theorem Inv.fM(I:Inv X pins σ H s):s.heap.FunFrames X.base X.outer:=by
 have all:∀(l:List Env),(∀b∈frs l,b∈X.fs)->X.s₀.heap.FunFrames X.base l->s.heap.FunFrames X.base l:=by
  intro l;induction l with
  |nil=>intro _ _;trivial
  |cons env r ih=>
   intro hs hl;obtain⟨hk,⟨L,o,hf,hn,ho,hd⟩,hr⟩:=hl;have hL:L∈X.fs:=hs L (by unfold frs;rw[tV,hf];exact fQ);obtain⟨sl,e⟩:=I.base.slot L o ho (I.ok.pY L hL) hL λz=>I.ok.kK L z hL;exact⟨hk,⟨L,_,hf,hn,e,hd⟩,ih (λb hb=>hs b (by unfold frs;rw[tV,hf];exact eH _ hb)) hr⟩
 exact all X.outer (λ_ hb=>hb) I.ok.fM
theorem Inv.stack(I:Inv X pins σ H s):s.heap.FunFrames X.base X.stack:=by rcases I.ok.stk with e|⟨e,hf⟩;rw[e];exact I.fM;rw[e];obtain⟨m,hn,_⟩:=I.loc;refine .cons (by rw[I.ok.kind];decide) hf hn ?_ I.fM;exact Heap.get?_none_of_le (gu I.ok.nM I.ok.above)
theorem Inv.jl(I:Inv X pins σ H s):∀b∈frs X.stack,b∈X.env.locals::X.fs:=λb hb=>by
 rcases I.ok.stk with e|⟨e,hf⟩;rw[e]at hb;exact eH _ hb;rw[e]at hb;unfold frs at hb;rw[tV,hf]at hb;exact hb
theorem Inv.ie(I:Inv X pins σ H s):∀b∈frs X.stack,H b=aD:=λb hb=>by
 rcases iQ.mp (I.jl b hb)with e|hb;rw[e];exact I.free;obtain⟨_,o,ho,_⟩:=I.ok.fM.mem hb;exact I.base.free b o ho (I.ok.pY b hb) λz=>I.ok.kK b z hb
theorem Inv.step{g':Array GenState}{t':Nat}{d':Drawn}{ch:List ai}(I:Inv X pins σ H s)
 (hch:∀b∈ch,(b∈X.ex\/X.s₀.heap.objs.size<=b)/\b≠X.env.locals/\(∀x c,X.env.cells.lookup x=aC c->c≠b)/\∀p∈X.pn++pins,p.1≠b)
 (keep:∀b o,b≠X.env.locals->b∉X.fs->b∉ch->s.heap.get? b=aC o->H b=aD->h'.get? b=aC o)
 (slot:∀b o,b≠X.env.locals->b∈X.fs->b∉ch->s.heap.get? b=aC o->H b=aD->∃sl,h'.get? b=aC {o with slots:=sl}) (free:∀b o,b∉ch->s.heap.get? b=aC o->H b=aD->H' b=aD)
 (there:∀b o,b∉ch->s.heap.get? b=aC o->∃o',h'.get? b=aC o')
 (tups:∀b xs,H b=aC (.tup xs)->H' b=aC (.tup xs)) (gT:∀b o u,H b=aC (.cG o u)->H' b=aC (.cG o u)) (iz:∀b ps,H b=aC (.vS ps)->∃more,H' b=aC (.vS (ps++more)))
 (ns:∀m,s.heap.Ns X.env.locals m->h'.Ns X.env.locals m) (hok:dS X.prog X.w H' h') (hg:AllBare g') :
 Inv X pins σ H' {s with heap:=h',gens:=g',drawn:=d',toks:=t'}:=by
 have Lx:∀b o,X.s₀.heap.get? b=aC o->b≠X.env.locals:=λb o e=>eB (eN (cF e) I.ok.above);have t8:∀b o,X.s₀.heap.get? b=aC o->b∉X.ex->b∉ch:=λb o e hx hb=>by
  rcases(hch b hb).1 with z|z;exact hx z;exact absurd (eN (cF e) z) (qQ _)
 have cellK:∀x c,X.env.cells.lookup x=aC c->∀v,s.heap.IsCell c v->h'.IsCell c v:=λx c e v di=>by
  obtain⟨o,ho,hd⟩:=di;have Af:c∉ch:=λz=>(hch c z).2.2.1 x c e rfl;by_cases hc:c∈X.fs;obtain⟨sl,q⟩:=slot c o (I.qW x c e) hc Af ho (I.dz x c e);exact⟨_,q,hd⟩;exact⟨o,keep c o (I.qW x c e) hc Af ho (I.dz x c e),hd⟩
 refine⟨I.ok,I.os,hg,⟨λb o e n hb hx=>?_,λb o e n hb hx=>?_,λb o e n hx=>?_,λb o e hx=>?_,λb xs e=>tups b xs (I.base.tups b xs e),λb o xs e=>gT b o xs (I.base.gT b o xs e),λb ps e=>?_⟩,?_,λx c e=>?_,?_,λx c e=>?_,λp hp=>?_,hok,I.len⟩;exact keep b o (Lx b o e) hb (t8 b o e hx) (I.base.keep b o e n hb hx) (I.base.free b o e n hx);obtain⟨sl,e1⟩:=I.base.slot b o e n hb hx;obtain⟨GD,e2⟩:=slot b _ (Lx b o e) hb (t8 b o e hx) e1 (I.base.free b o e n hx);exact⟨GD,e2⟩;obtain⟨o',e1⟩:=I.base.there b o e hx;exact free b o' (t8 b o e hx) e1 (I.base.free b o e n hx);obtain⟨o',e1⟩:=I.base.there b o e hx;exact there b o' (t8 b o e hx) e1;obtain⟨m1,e1⟩:=I.base.iz b ps e;obtain⟨m2,e2⟩:=iz b _ e1;exact⟨m1++m2,by rw[e2,Array.append_assoc]⟩;obtain⟨m,hn,hl⟩:=I.loc;refine⟨m,ns m hn,λi x v e1 e2 e3=>?_⟩;obtain⟨u,r,l⟩:=hl i x v e1 e2 e3;refine⟨u,r,?_⟩;rcases l with l|⟨k,c,e,z⟩
 exact .inl l;exact .inr ⟨k,c,e,cellK x c e _ z⟩;obtain⟨v,z⟩:=I.cell x c e;exact⟨v,cellK x c e v z⟩;obtain⟨m,⟨o,_,_,ho,_⟩,_⟩:=I.loc;exact free _ o (λz=>(hch _ z).2.1 rfl) ho I.free;obtain⟨v,o,ho,hd⟩:=I.cell x c e;exact free c o (λz=>(hch c z).2.2.1 x c e rfl) ho (I.dz x c e);obtain⟨e,n,ne,nf,d⟩:=I.pin p hp;have Af:p.1∉ch:=λz=>(hch p.1 z).2.2.2 p hp rfl;exact⟨keep p.1 p.2 ne nf Af e n,free p.1 p.2 Af e n,ne,nf,d⟩
theorem Inv.un{t':Nat}(I:Inv X pins σ H s)(u:Un X.fs [] H H' s.heap h')(hok:dS X.prog X.w H' h'):Inv X pins σ H' {s with heap:=h',toks:=t'}:=by
 obtain⟨m,⟨o,es,ep,ho,r⟩,_⟩:=id I.loc;obtain⟨sl,hL⟩:=u.any ho I.free (by simp);exact I.step (g':=s.gens) (d':=s.drawn) (ch:=[]) (λ_ z=>nomatch z) (λb o _ hb _ e n=>u.keep b o e n hb (by simp)) (λb o _ hb _ e n=>u.slot b o e n hb (by simp)) (λb o _ e n=>u.free b o e n (by simp)) (λb o _ e=>u.there b o e (by simp)) u.tups u.gT u.iz (λm' hm=>by
  obtain⟨o',es',GF,ho',r'⟩:=hm;rw[ho]at ho';cases ho';exact⟨_,es',GF,hL,r'⟩) hok I.bare
theorem Inv.call{g':Array GenState}{t':Nat}{d':Drawn}{ch:List ai}(I:Inv X pins σ H s)(u:Un (frs X.stack) ch H H' s.heap h')(hok:dS X.prog X.w H' h')(hg:AllBare g')
 (hch:∀b∈ch,(b∈X.ex\/X.s₀.heap.objs.size<=b)/\b≠X.env.locals/\(∀x c,X.env.cells.lookup x=aC c->c≠b)/\∀p∈X.pn++pins,p.1≠b) :
 Inv X pins σ H' {s with heap:=h',gens:=g',drawn:=d',toks:=t'}:=by
 obtain⟨m,⟨o,es,ep,ho,r⟩,_⟩:=id I.loc;obtain⟨sl,hL⟩:=u.any ho I.free λz=>(hch _ z).2.1 rfl;exact I.step (ch:=ch) hch (λb o hL hb hc e n=>u.keep b o e n (λz=>(iQ.mp (I.jl b z)).elim hL hb) hc) (λb o _ _ hc e n=>u.any e n hc) (λb o hc e n=>u.free b o e n hc) (λb o hc e=>u.there b o e hc) u.tups u.gT u.iz (λm' hm=>by
  obtain⟨o',es',GF,ho',r'⟩:=hm;rw[ho]at ho';cases ho';exact⟨_,es',GF,hL,r'⟩) hok hg
theorem Inv.turned{t':Nat}{it:ai}(I:Inv X pins σ H s)(k:∀b o,b≠it->s.heap.get? b=aC o->h'.get? b=aC o)(hn:H it=aD)(hL:it≠X.env.locals)
 (h1:it∈X.ex\/X.s₀.heap.objs.size<=it) (h2:∀x c,X.env.cells.lookup x=aC c->c≠it) (h3:∀p∈X.pn++pins,p.1≠it):Inv X pins σ H {s with heap:=h',toks:=t'}:=by
 have Ly:∀b u,H b=aC u->b≠it:=λb u e z=>by rw[z,hn]at e;cases e
 refine I.step (g':=s.gens) (d':=s.drawn) (ch:=[it]) (λb hb=>?_) (λb o _ _ hc e _=>k b o (λz=>hc (by simp[z])) e) (λb o _ _ hc e _=>⟨o.slots,k b o (λz=>hc (by simp[z])) e⟩) (λ_ _ _ _ n=>n)
  (λb o hc e=>⟨o,k b o (λz=>hc (by simp[z])) e⟩) (λ_ _ e=>e) (λ_ _ _ e=>e) (λb ps e=>⟨#[],by rw[e];simp⟩) (λm hm=>?_) (λb u e=>?_) I.bare
 have e:b=it:=by simpa using hb
 subst e;exact⟨h1,hL,h2,h3⟩;obtain⟨o,es,ep,ho,r⟩:=hm;exact⟨o,es,ep,k _ o (eE hL) ho,r⟩;refine(I.hok b u e).stay (λc v hc q=>k c v ?_ q) (λ_ q=>q) λ_ _ q=>q;rcases hc with z|z
 rw[z];exact Ly b u e;exact Ly c _ z
theorem Inv.tok(I:Inv X pins σ H s)(t:Nat):Inv X pins σ H {s with toks:=t}:=I.un (h':=s.heap) (t':=t) Un.refl I.hok
theorem Inv.kept{t':Nat}(I:Inv X pins σ H s)(k:∀b u,s.heap.get? b=aC u->h'.get? b=aC u):Inv X pins σ H {s with heap:=h',toks:=t'}:=I.un (Un.kept k) (I.hok.kept k)
theorem Inv.laid{a:ai}{o:HO}{t':Nat}(I:Inv X pins σ H s)(k:∀b u,s.heap.get? b=aC u->h'.get? b=aC u)(hp:s.heap.objs.size<=a)(new:bf X.prog X.w (upd H a o) h' a o) :
 Inv X pins σ (upd H a o) {s with heap:=h',toks:=t'}:=I.un (Un.laid k hp (I.hok.fresh hp)) (I.hok.laid k hp new)
theorem Inv.write{x e:ai}{o:HO}{t':Nat}(I:Inv X pins σ H s)(mu:Ad (H x))(he:e=x\/H e=aC (.own x))(k:∀b u,b≠e->s.heap.get? b=aC u->h'.get? b=aC u)(yF:∃u,h'.get? e=aC u)
 (new:bf X.prog X.w (upd H x o) h' x o):Inv X pins σ (upd H x o) {s with heap:=h',toks:=t'}:=I.un (Un.write mu he k yF) (I.hok.write mu he k yF new)
theorem Inv.lA{ua:List (ai×Obj)}(I:Inv X pins σ H s)(h:∀p∈ua,s.heap.get? p.1=aC p.2/\H p.1=aD/\p.1≠X.env.locals/\p.1∉X.fs/\∀v,p.2.data≠.cell v):Inv X ua σ H s:=
 ⟨I.ok,I.os,I.bare,I.base,I.loc,I.cell,I.free,I.dz,λp hp=>(pV.mp hp).elim (λz=>I.pin p (Ek _ z)) (h p),I.hok,I.len⟩
theorem GG{N:List Str}(hN:N.Nodup){i j:Nat}{x:Str}(a:N[i]?=aC x)(b:N[j]?=aC x):i=j:=by obtain⟨h1,e1⟩:=ku.mp a;obtain⟨h2,e2⟩:=ku.mp b;exact(List.getElem_inj hN).mp (e1.trans e2.symm)
theorem Lz{M:Model}{A:ao}{E:aa->ah->Prop}{i:Nat}{x:Str}{v:V}{u:aa}{Q:Unit->ah->Prop}(I:Inv X pins σ H s)(hN:X.N.Nodup)(hi:X.N[i]?=aC x)(hx:Loc X.env.scope x)(r:RelV v u)
 (h:∀s',Inv X pins (σ.set i (aC v)) H s'->(∃a,Heap.SameBut a s.heap s'.heap/\(a=X.env.locals\/X.env.cells.lookup x=aC a))->Q () s') (hf:autoParam (X.fn x=true\/X.env.scope.names.lookup x=aC .local) L2.aF1._auto_1):wpAny M A (storeName X.env x u) Q E s:=by
 obtain⟨m,hn,hl⟩:=id I.loc;have hcls:(X.env.scope.kind == .class|| (X.env.scope.kind == .module&&X.env.locals != X.env.globals))=false:=by rw[I.ok.kind];rfl
 have qX:i<σ.length:=by rw[I.len];exact(ku.mp hi).1
 have qW:=I.qW;have tracked:∀{a:ai}{h':aA},(∃o,s.heap.get? a=aC o/\H a=aD)->Heap.SameBut a s.heap h'->dS X.prog X.w H h':=λ{a h'} ha hs b ob e=>by
  obtain⟨_,_,hfree⟩:=ha;refine(I.hok b ob e).stay (λc w' hc q=>(hs.2 c ?_).trans q) (λ_ q=>q) λ_ _ q=>q;rintro rfl;rcases hc with rfl|hc;rw[hfree]at e;cases e;rw[hfree]at hc;cases hc
 rcases hx with hk|hk;refine wpAny_storeName_local hk hn (λh' hn' hs=>?_) hcls;obtain⟨oL,_,_,QF,_⟩:=id hn;refine h _ ⟨I.ok,I.os,I.bare,⟨λb o e n hb hx=>?_,λb o e n hb hx=>?_,I.base.free,λb o e hx=>?_,I.base.tups,I.base.gT,I.base.iz⟩,⟨_,hn',λj y v' e1 e2 e3=>?_⟩,λy c e=>?_,I.free,I.dz,λp hp=>?_,tracked ⟨oL,QF,I.free⟩ hs,by simpa using I.len⟩ ⟨_,hs,.inl rfl⟩;exact(hs.2 b (eB (eN (cF e) I.ok.above))).trans (I.base.keep b o e n hb hx);obtain⟨sl,e1⟩:=I.base.slot b o e n hb hx;exact⟨sl,(hs.2 b (eB (eN (cF e) I.ok.above))).trans e1⟩;obtain⟨o',e1⟩:=I.base.there b o e hx;exact⟨o',(hs.2 b (eB (eN (cF e) I.ok.above))).trans e1⟩;by_cases hj:j=i;subst hj;rw[hi]at e1;cases e1;rw[pS qX]at e2;cases e2;exact⟨u,r,.inl ⟨hk,by simp⟩⟩;rw[vO (eE hj)]at e2;obtain⟨u',r',q⟩:=hl j y v' e1 e2 e3;refine⟨u',r',?_⟩;rcases q with⟨k,e⟩|⟨k,c,e,z⟩;refine .inl ⟨k,?_⟩;have:y≠x:=λe=>hj (GG hN e1 (e▸hi));simp[this,e];exact .inr ⟨k,c,e,z.sameBut hs (qW y c e)⟩;obtain⟨w',z⟩:=I.cell y c e;exact⟨w',z.sameBut hs (qW y c e)⟩;obtain⟨e,n,ne,nf,d⟩:=I.pin p hp;exact⟨(hs.2 p.1 ne).trans e,n,ne,nf,d⟩;have hfn:X.fn x=true:=by rcases hf with z|z;exact z;rw[z]at hk;cases hk
 obtain⟨c,hc⟩:=I.ok.has x (.inl hk);obtain⟨w',z⟩:=I.cell x c hc;refine wpAny_storeName_cell I.ok.kind hk hc z (λh' hc' hs=>?_);obtain⟨oc,hoc,GH⟩:=id z;refine h {s with heap:=h'} ⟨I.ok,I.os,I.bare,⟨λb o e n hb hx=>?_,λb o e n hb hx=>?_,I.base.free,λb o e hx=>?_,I.base.tups,I.base.gT,I.base.iz⟩,⟨m,hn.sameBut hs (eE (qW x c hc)),λj y v' e1 e2 e3=>?_⟩,λy c' e=>?_,I.free,I.dz,λp hp=>?_,tracked ⟨oc,hoc,I.dz x c hc⟩ hs,by simpa using I.len⟩ ⟨c,hs,.inr hc⟩;exact(hs.2 b (eB (eN (cF e) (I.ok.vV x c hfn hc)))).trans (I.base.keep b o e n hb hx);obtain⟨sl,e1⟩:=I.base.slot b o e n hb hx;exact⟨sl,(hs.2 b (eB (eN (cF e) (I.ok.vV x c hfn hc)))).trans e1⟩;obtain⟨o',e1⟩:=I.base.there b o e hx;exact⟨o',(hs.2 b (eB (eN (cF e) (I.ok.vV x c hfn hc)))).trans e1⟩;by_cases hj:j=i;subst hj;rw[hi]at e1;cases e1;rw[pS qX]at e2;cases e2;exact⟨u,r,.inr ⟨.inl hk,c,hc,hc'⟩⟩;rw[vO (eE hj)]at e2;obtain⟨u',r',q⟩:=hl j y v' e1 e2 e3;refine⟨u',r',?_⟩;rcases q with q|⟨k,c',e,z'⟩;exact .inl q;refine .inr ⟨k,c',e,z'.sameBut hs ?_⟩;rintro rfl;exact hj (GG hN e1 (I.ok.inj _ _ _ e hc▸hi));by_cases hcc:c'=c;subst hcc;exact⟨_,hc'⟩;obtain⟨w2,z2⟩:=I.cell y c' e;exact⟨w2,z2.sameBut hs hcc⟩;obtain⟨e,n,ne,nf,d⟩:=I.pin p hp;refine⟨(hs.2 p.1 ?_).trans e,n,ne,nf,d⟩;intro q;rw[q,hoc]at e;have q':oc=p.2:=ny e;exact d w' (by rw[<-q'];exact GH)
theorem yH{M:Model}{A:ao}{E:aa->ah->Prop}{i:Nat}{x:Str}{v:V}{u:aa}{Q:Unit->ah->Prop}(I:Inv X pins σ H s)(hN:X.N.Nodup)(hi:X.N[i]?=aC x)(hx:Loc X.env.scope x)(r:RelV v u)
 (h:∀s',Inv X pins (σ.set i (aC v)) H s'->Q () s') (hf:autoParam (X.fn x=true\/X.env.scope.names.lookup x=aC .local) L2.aF1._auto_1):wpAny M A (storeName X.env x u) Q E s:=
 Lz I hN hi hx r (λs' I' _=>h s' I') hf
theorem Inv.Ag{s':ah}{ch:List ai}(I:Inv X pins σ H s)(ho:s'.os=s.os)(u:Un (frs X.stack) ch H H' s.heap s'.heap)(hok:dS X.prog X.w H' s'.heap)(hg:AllBare s'.gens)
 (hch:∀b∈ch,(b∈X.ex\/X.s₀.heap.objs.size<=b)/\b≠X.env.locals/\(∀x c,X.env.cells.lookup x=aC c->c≠b)/\∀p∈X.pn++pins,p.1≠b):Inv X pins σ H' s':=by
 obtain⟨h',g',d',t',o'⟩:=s';have e:o'=s.os:=ho;subst e;exact I.call (g':=g') (t':=t') (d':=d') u hok hg hch
end
noncomputable abbrev XK:=aa->Option ai->Hp->Prop
noncomputable abbrev St:=List (Option V)
noncomputable abbrev VK:=V->Hp->Prop
noncomputable abbrev TE:=St->Hp->VK->Prop
noncomputable abbrev TT:=St->Hp->(Bool->Hp->Prop)->Prop
noncomputable abbrev TA:=St->Hp->(List V->Hp->Prop)->Prop
set_option genInjectivity false in
structure Ends where
 nx:St->Hp->Prop
 rt:VK
 bk:St->Hp->Prop:=λ_ _=>False
 ct:St->Hp->Prop:=λ_ _=>False
noncomputable abbrev TS:=Ends->St->Hp->Prop
noncomputable def EP(X:Cx)(pins:List (ai×Obj))(σ:St)(Q:VK)(u:aa)(s':ah):Prop:=∃v H',Inv X pins σ H' s'/\RelV v u/\Q v H'
noncomputable def TP(X:Cx)(pins:List (ai×Obj))(σ:St)(Q:Bool->Hp->Prop)(b:Bool)(s':ah):Prop:=∃H',Inv X pins σ H' s'/\Q b H'
noncomputable def AP(X:Cx)(pins:List (ai×Obj))(σ:St)(Q:List V->Hp->Prop)(us:List aa)(s':ah):Prop:=∃vs H',Inv X pins σ H' s'/\Vals vs us/\Q vs H'
theorem EP.el{X:Cx}{pins:List (ai×Obj)}{σ:St}{Q:VK}{u:aa}{s':ah}{P:Prop}(q:EP X pins σ Q u s')(k:∀v H',Inv X pins σ H' s'->RelV v u->Q v H'->P):P:=by obtain⟨v,H',a,b,c⟩:=q;exact k v H' a b c
theorem TP.el{X:Cx}{pins:List (ai×Obj)}{σ:St}{Q:Bool->Hp->Prop}{b:Bool}{s':ah}{P:Prop}(q:TP X pins σ Q b s')(k:∀H',Inv X pins σ H' s'->Q b H'->P):P:=by obtain⟨H',a,c⟩:=q;exact k H' a c
theorem AP.el{X:Cx}{pins:List (ai×Obj)}{σ:St}{Q:List V->Hp->Prop}{us:List aa}{s':ah}{P:Prop}(q:AP X pins σ Q us s')(k:∀vs H',Inv X pins σ H' s'->Vals vs us->Q vs H'->P):P:=by obtain⟨v,H',a,b,c⟩:=q;exact k v H' a b c
noncomputable def SP(X:Cx)(pins:List (ai×Obj))(D:Ends)(f:Flow)(s':ah):Prop:=
 match f with|.next=>∃σ' H',Inv X pins σ' H' s'/\D.nx σ' H'|.brk=>∃σ' H',Inv X pins σ' H' s'/\D.bk σ' H'|.cont=>∃σ' H',Inv X pins σ' H' s'/\D.ct σ' H'|.ret u=>∃v σ' H',Inv X pins σ' H' s'/\RelV v u/\D.rt v H'
noncomputable def PE(X:Cx)(e:aq)(t:TE):Prop:=
 ∀(pins:List (ai×Obj))(s:ah)(σ:St)(H:Hp)(Q:VK),Inv X pins σ H s->t σ H Q->wpAny (model X.prog X.w) X.A (eval e X.env) (EP X pins σ Q) X.xe s
noncomputable def PT(X:Cx)(e:aq)(t:TT):Prop:=
 ∀(pins:List (ai×Obj))(s:ah)(σ:St)(H:Hp)(Q:Bool->Hp->Prop),Inv X pins σ H s->t σ H Q->wpAny (model X.prog X.w) X.A (isTrue e X.env (eval e X.env)) (TP X pins σ Q) X.xe s
noncomputable def PW(X:Cx)(e:aq)(t:TT):Prop:=
 ∀(whole:Sem aa)(pins:List (ai×Obj))(s:ah)(σ:St)(H:Hp)(Q:Bool->Hp->Prop),Inv X pins σ H s->t σ H Q->wpAny (model X.prog X.w) X.A (isTrue e X.env whole) (TP X pins σ Q) X.xe s
theorem PW.pt{X:Cx}{e:aq}{t:TT}(h:PW X e t):PT X e t:=h _
noncomputable def PA(X:Cx)(es:List aq)(t:TA):Prop:=
 ∀(pos:Pos)(pins:List (ai×Obj))(s:ah)(σ:St)(H:Hp)(Q:List V->Hp->Prop),Inv X pins σ H s->t σ H Q->wpAny (model X.prog X.w) X.A (spliced (backTo pos (starEach es X.env))) (AP X pins σ Q) X.xe s
noncomputable def PS(X:Cx)(st:au)(t:TS):Prop:=
 ∀(pins:List (ai×Obj))(s:ah)(σ:St)(H:Hp)(D:Ends),Inv X pins σ H s->t D σ H->wpAny (model X.prog X.w) X.A (exec st X.env) (SP X pins D) X.xe s
noncomputable def fU(X:Cx)(st:List au)(t:TS):Prop:=
 ∀(pins:List (ai×Obj))(s:ah)(σ:St)(H:Hp)(D:Ends),Inv X pins σ H s->t D σ H->wpAny (model X.prog X.w) X.A (execs st X.env) (SP X pins D) X.xe s
theorem aY{α:Type}{t:Sem α}{Q Q':α->ah->Prop}{M:Model}{A:ao}{E:aa->ah->Prop}{s:ah}(h:wpAny M A t Q E s)(hQ:∀a s,Q a s->Q' a s):wpAny M A t Q' E s:=gQ h hQ λ_ _ x=>x
section
variable{X:Cx}
noncomputable def Ah(i:Nat):TE:=λσ H Q=>∃v,σ[i]?=aC (aC v)/\Q v H
noncomputable def tC(v:V):TE:=λ_ H Q=>Q v H
theorem yI{i:Nat}{x:Str}{pos:Pos}(hN:X.N[i]?=aC x)(hv:kI X.env.scope x)(hd:autoParam ((x==("__debug__" : Str))=false) L2.aD1._auto_1)(hcd:autoParam ((x==("__classdict__" : Str))=false) L2.aD1._auto_1):PE X (.Name x pos) (Ah i):=by
 intro pins s σ H Q I h;obtain⟨v,e,h⟩:=h;obtain⟨m,hn,hl⟩:=I.loc;obtain⟨u,r,l⟩:=hl i x v hN e hv;have fin:EP X pins σ Q u s:=⟨v,H,I,r,h⟩
 rcases l with⟨hk,hm⟩|⟨hk,c,hc,hcell⟩;exact wpAny_Name (wpAny_loadName_local I.ok.kind hk hn hm fin) hd;rcases hk with hk|hk;exact wpAny_Name (wpAny_loadName_cell I.ok.kind hk hc hcell fin) hd;exact wpAny_Name (wpAny_loadName_free I.ok.kind hk hc hcell fin hcd) hd
theorem LA{i j pos}:PE X (.Constant (.int i) j pos) (tC (.int i)):=λ_ _ _ H _ I h=>wpAny_Constant_int ⟨.int i,H,I.tok _,⟨_,rfl⟩,h⟩
theorem uc{b j pos}:PE X (.Constant (.bool b) j pos) (tC (.bl b)):=λ_ _ _ H _ I h=>Constant_bool ⟨.bl b,H,I,rfl,h⟩
theorem QG{j pos}:PE X (.Constant .none j pos) (tC .aN):=λ_ _ _ H _ I h=>Constant_none ⟨.aN,H,I,rfl,h⟩
theorem GI{x j pos}:PE X (.Constant (.str x) j pos) (tC (.str x)):=λ_ _ _ H _ I h=>Calls.Constant_str ⟨.str x,H,I.tok _,⟨_,rfl⟩,h⟩
noncomputable def Gl(X:Cx)(x:Str):Prop:=X.env.kindOf x=aC .globalImplicit
theorem vW{E:aa->ah->Prop}{pins:List (ai×Obj)}{s:ah}{σ:St}{H:Hp}{x:Str}{u:aa}{pos:Pos}{Q:aa->ah->Prop}(I:Inv X pins σ H s)(hg:Gl X x)(hm:X.mg x=aC u)(h:Q u s)
 (hd:autoParam ((x==("__debug__" : Str))=false) L2.aD1._auto_1):wpAny (model X.prog X.w) X.A (eval (.Name x pos) X.env) Q E s:=
 Calls.Name_function_global I.ok.kind hg (Calls.loadGlobal_global (by rw[I.ok.glob];exact I.mod.glob.keeps I.bk) hm h) hd
theorem yJ{E:aa->ah->Prop}{pins:List (ai×Obj)}{s:ah}{σ:St}{H:Hp}{x:Str}{u:aa}{pos:Pos}{Q:aa->ah->Prop}(I:Inv X pins σ H s)(hg:Gl X x)(hm:X.mg x=aD)(hv:bootBuiltins x=aC u)(h:Q u s)
 (hn:autoParam (x≠"__name__") L2.aD1._auto_1) (hd:autoParam ((x==("__debug__" : Str))=false) L2.aD1._auto_1):wpAny (model X.prog X.w) X.A (eval (.Name x pos) X.env) Q E s:=by
 obtain⟨mb,h1,h2⟩:=I.mod.blt;exact Calls.Name_function_global I.ok.kind hg (Calls.loadGlobal_builtin (by rw[I.ok.glob];exact I.mod.glob.keeps I.bk) hm (by rw[I.ok.blt];exact h1.keeps I.bk) ((h2 x hn).trans hv) h) hd
theorem LB{x:Str}{v:V}{u:aa}{pos:Pos}(hg:Gl X x)(hm:X.mg x=aC u)(r:RelV v u)(hd:autoParam ((x==("__debug__" : Str))=false) L2.aD1._auto_1):PE X (.Name x pos) (tC v):=
 λ_ _ _ H _ I h=>vW I hg hm ⟨v,H,I,r,h⟩ hd
theorem LC{x:Str}{v:V}{u:aa}{pos:Pos}(hg:Gl X x)(hm:X.mg x=aD)(hv:bootBuiltins x=aC u)(r:RelV v u)(hn:autoParam (x≠"__name__") L2.aD1._auto_1)(hd:autoParam ((x==("__debug__" : Str))=false) L2.aD1._auto_1):PE X (.Name x pos) (tC v):=
 λ_ _ _ H _ I h=>yJ I hg hm hv ⟨v,H,I,r,h⟩ hn hd
variable{a b:aq}{ta tb:TE}{pos:Pos}
noncomputable def tB(t:TE):TT:=λσ H Q=>t σ H λx H1=>∃c,x=.bl c/\Q c H1
theorem LD{e:aq}{t:TE}(h:PE X e t)(he:∀whole,isTrue e X.env whole=(do let v <-whole;standAt e.pos;holding [v] (truthy v)):=by intro _;rfl):PT X e (tB t):=by intro pins s σ H Q I hw;refine isTrue_plain (aY (h pins s σ H _ I hw) λv s1 z9=>z9.el λx H1 I1 r1 q1=>?_) (he _);obtain⟨d,rfl,q⟩:=q1;cases r1;exact qA ⟨H1,I1,q⟩
variable{tA EH:TT}{rest:List aq}
noncomputable def GJ(t u:TT):TT:=λσ H Q=>t σ H λc H1=>if c=true then u σ H1 Q else Q false H1
noncomputable def QH(t u:TT):TT:=λσ H Q=>t σ H λc H1=>if c=true then Q true H1 else u σ H1 Q
noncomputable def GK(t:TT):TT:=λσ H Q=>t σ H λc H1=>Q (!c) H1
theorem QI(ha:PT X a tA):PW X (.BoolOp .And [a] pos) tA:=by
 intro wh pins s σ H Q I h;refine isTrue_and (aY (ha pins s σ H Q I h) λc s1 e=>?_);cases c with|true=>exact isTrue_and_nil e|false=>exact e
theorem LF(ha:PT X a tA):PW X (.BoolOp .Or [a] pos) tA:=by
 intro wh pins s σ H Q I h;refine isTrue_or (aY (ha pins s σ H Q I h) λc s1 e=>?_);cases c with|false=>exact isTrue_or_nil e|true=>exact e
theorem QJ(ha:PT X a tA)(hb:PW X (.BoolOp .And (b::rest) pos) EH):PW X (.BoolOp .And (a::b::rest) pos) (GJ tA EH):=by
 intro wh pins s σ H Q I h;refine isTrue_and (aY (ha pins s σ H _ I h) λc s1 z9=>z9.el λH1 I1 q1=>?_);cases c with|true=>exact hb wh pins s1 σ H1 Q I1 q1|false=>exact⟨H1,I1,q1⟩
theorem pw_or(ha:PT X a tA)(hb:PW X (.BoolOp .Or (b::rest) pos) EH):PW X (.BoolOp .Or (a::b::rest) pos) (QH tA EH):=by
 intro wh pins s σ H Q I h;refine isTrue_or (aY (ha pins s σ H _ I h) λc s1 z9=>z9.el λH1 I1 q1=>?_);cases c with|true=>exact⟨H1,I1,q1⟩|false=>exact hb wh pins s1 σ H1 Q I1 q1
theorem GL(ha:PT X a tA):PT X (.UnaryOp .Not a pos) (GK tA):=by intro pins s σ H Q I h;exact isTrue_not (ha pins s σ H (λc H1=>Q (!c) H1) I h)
noncomputable def Ai(ta tb:TE):TE:=λσ H Q=>ta σ H λx H1=>∃c,x=.bl c/\if c=true then tb σ H1 Q else Q (.bl false) H1
noncomputable def GN(ta tb:TE):TE:=λσ H Q=>ta σ H λx H1=>∃c,x=.bl c/\if c=true then Q (.bl true) H1 else tb σ H1 Q
noncomputable def Aj(ta:TE):TE:=λσ H Q=>ta σ H λx H1=>∃c,x=.bl c/\Q (.bl (!c)) H1
theorem QK{op}{t:TE}(h:PE X a t):PE X (.BoolOp op [a] pos) t:=λpins s σ H Q I hw=>BoolOp_one (h pins s σ H Q I hw)
theorem QL(ha:PE X a ta)(hb:PE X (.BoolOp .And (b::rest) pos) tb):PE X (.BoolOp .And (a::b::rest) pos) (Ai ta tb):=by
 intro pins s σ H Q I h;refine BoolOp_and (aY (ha pins s σ H _ I h) λv s1 z9=>z9.el λx H1 I1 r1 q1=>?_);obtain⟨c,rfl,q1⟩:=q1;cases r1;refine qA ?_;cases c with|true=>exact hb pins s1 σ H1 Q I1 q1|false=>exact⟨.bl false,H1,I1,rfl,q1⟩
theorem Ak(ha:PE X a ta)(hb:PE X (.BoolOp .Or (b::rest) pos) tb):PE X (.BoolOp .Or (a::b::rest) pos) (GN ta tb):=by
 intro pins s σ H Q I h;refine BoolOp_or (aY (ha pins s σ H _ I h) λv s1 z9=>z9.el λx H1 I1 r1 q1=>?_);obtain⟨c,rfl,q1⟩:=q1;cases r1;refine qA ?_;cases c with|false=>exact hb pins s1 σ H1 Q I1 q1|true=>exact⟨.bl true,H1,I1,rfl,q1⟩
theorem QM(ha:PE X a ta):PE X (.UnaryOp .Not a pos) (Aj ta):=by intro pins s σ H Q I h;refine UnaryOp_ (aY (ha pins s σ H _ I h) λv s1 z9=>z9.el λx H1 I1 r1 q1=>?_);obtain⟨c,rfl,q1⟩:=q1;cases r1;exact not_of (qA ⟨.bl (!c),H1,I1,rfl,q1⟩)
noncomputable def QN(t:TT)(ta tb:TE):TE:=λσ H Q=>t σ H λc H1=>if c=true then ta σ H1 Q else tb σ H1 Q
theorem QO{c:aq}(hc:PT X c tA)(ha:PE X a ta)(hb:PE X b tb):PE X (.IfExp c a b pos) (QN tA ta tb):=by
 intro pins s σ H Q I h;refine wpAny_IfExp (aY (hc pins s σ H _ I h) λd s1 z9=>z9.el λH1 I1 q1=>?_);cases d with|true=>exact ha pins s1 σ H1 Q I1 q1|false=>exact hb pins s1 σ H1 Q I1 q1
end
noncomputable def cN(K:aI)(H:Hp)(a:ai)(xs:List V):Prop:=
 Rd H a (.lst xs)\/
  ∃(o:Obj) (its:Array aa) (n:Nat),K.lookup a=aC o/\o.cls=.type "list"/\o.dict=aD/\o.data=.seq its n/\its.size<=sizeLine/\Vals xs its.toList
noncomputable def cH(K:aI)(H:Hp)(a:ai)(xs:List V):Prop:=
 Rd H a (.tup xs)\/
  ∃(o:Obj) (its:Array aa) (n:Nat),K.lookup a=aC o/\o.cls=.type "tuple"/\o.dict=aD/\o.data=.seq its n/\its.size<=sizeLine/\Vals xs its.toList
noncomputable def GO:aa->Option V|.none=>aC .aN|.bool b=>aC (.bl b)|.int i _=>aC (.int i)|.str x _=>aC (.str x)|.bytes b _=>aC (.mF b)|.float b _=>aC (.yD b)|.ref a=>aC (.ref a)|.type n=>aC (.ty n)|_=>aD
theorem RelV.abs{x:V}{u:aa}(r:RelV x u):GO u=aC x:=by
 cases x with|aN=>cases r;rfl|bl _=>cases r;rfl|int _=>obtain⟨t,rfl⟩:=r;rfl|str _=>obtain⟨t,rfl⟩:=r;rfl|mF _=>obtain⟨t,rfl⟩:=r;rfl|yD _=>obtain⟨t,rfl⟩:=r;rfl|ref _=>cases r;rfl|ty _=>cases r;rfl
theorem RelV.inj{x y:V}{u:aa}(r:RelV x u)(q:RelV y u):x=y:=ny (r.abs.symm.trans q.abs)
theorem Vals.inj:∀{xs ys:List V} {us:List aa},Vals xs us->Vals ys us->xs=ys|_,_,_,.nil,.nil=>rfl|_,_,_,.cons r t,.cons r' t'=>by rw[r.inj r',Vals.inj t t']
section
variable{X:Cx}{pins:List (ai×Obj)}{σ:St}{H:Hp}{s:ah}{a:ai}{xs ys:List V}
theorem cN.of{K:aI}(h:H a=aC (.lst xs)):cN K H a xs:=.inl (.inl h)
theorem cH.of{K:aI}(h:H a=aC (.tup xs)):cH K H a xs:=.inl (.inl h)
theorem Inv.list(I:Inv X pins σ H s)(h:cN X.K H a xs):∃its:List aa,Vals xs its/\PlainL s.heap a its.toArray/\xs.length<=sizeLine:=by rcases h with h|⟨o,its,n,hk,hc,hd,hs,hz,r⟩;obtain⟨z,its,n,r,e⟩:=h.ok I.hok;exact⟨its,r,⟨_,n,e,rfl,rfl,rfl⟩,z⟩;refine⟨its.toList,r,⟨o,n,I.eF a o hk,hc,hd,by simpa using hs⟩,?_⟩;have e:=r.length;simp only[Array.length_toList]at e;lia
theorem Inv.nN(I:Inv X pins σ H s)(h:cH X.K H a xs):∃its:List aa,Vals xs its/\ly s.heap a its.toArray/\xs.length<=sizeLine:=by rcases h with h|⟨o,its,n,hk,hc,hd,hs,hz,r⟩;obtain⟨z,its,r,p⟩:=h.ok I.hok;exact⟨its,r,p,z⟩;refine⟨its.toList,r,⟨o,I.eF a o hk,hc,⟨n,by simpa using hs⟩,hd⟩,?_⟩;have e:=r.length;simp only[Array.length_toList]at e;lia
theorem Inv.tuple(I:Inv X pins σ H s)(h:cH X.K H a xs):∃its:List aa,Vals xs its/\IsTup s.heap a its.toArray/\xs.length<=sizeLine:=by obtain⟨its,r,p,z⟩:=I.nN h;exact⟨its,r,p.tup,z⟩
theorem Inv.jO(I:Inv X pins σ H s)(h:cN X.K H a xs)(h':cN X.K H a ys):xs=ys:=by
 obtain⟨its,r,⟨o,n,e,_,_,d⟩,_⟩:=I.list h;obtain⟨its',r',⟨o',n',e',_,_,d'⟩,_⟩:=I.list h';rw[e]at e';cases e';rw[d]at d';injection d' with d1 _;have:its=its':=by simpa using nk Array.toList d1
 subst this;exact r.inj r'
theorem Inv.gw(I:Inv X pins σ H s)(h:cH X.K H a xs)(h':cH X.K H a ys):xs=ys:=by
 obtain⟨its,r,⟨o,e,_,n,d⟩,_⟩:=I.tuple h;obtain⟨its',r',⟨o',e',_,n',d'⟩,_⟩:=I.tuple h';rw[e]at e';cases e';rw[d]at d';injection d' with d1 _;have:its=its':=by simpa using nk Array.toList d1
 subst this;exact r.inj r'
end
noncomputable abbrev Cx.cK(X:Cx)(E:aa->ah->Prop):Cx:={X with xe:=E}
noncomputable abbrev Cx.dJ(X:Cx):Cx:=X.cK λ_ _=>False
theorem Cx.Ok.cK{X:Cx}(ok:X.Ok)(E:aa->ah->Prop):(X.cK E).Ok:=
 ⟨ok.mod,ok.kind,ok.glob,ok.blt,ok.above,ok.inj,ok.has,ok.vV,ok.hd,ok.frames,ok.stk,ok.yG,ok.bs,ok.nM,ok.kJ,ok.kK,ok.fM,ok.pY⟩
theorem Cx.Ok.bG{X:Cx}{E:aa->ah->Prop}(ok:(X.cK E).Ok):X.Ok:=
 ⟨ok.mod,ok.kind,ok.glob,ok.blt,ok.above,ok.inj,ok.has,ok.vV,ok.hd,ok.frames,ok.stk,ok.yG,ok.bs,ok.nM,ok.kJ,ok.kK,ok.fM,ok.pY⟩
section
variable{X:Cx}{pins:List (ai×Obj)}{σ:St}{H:Hp}{s:ah}{E:aa->ah->Prop}
theorem Inv.cK(I:Inv X pins σ H s)(E:aa->ah->Prop):Inv (X.cK E) pins σ H s:=⟨I.ok.cK E,I.os,I.bare,I.base,I.loc,I.cell,I.free,I.dz,I.pin,I.hok,I.len⟩
theorem Inv.bG(I:Inv (X.cK E) pins σ H s):Inv X pins σ H s:=⟨I.ok.bG,I.os,I.bare,I.base,I.loc,I.cell,I.free,I.dz,I.pin,I.hok,I.len⟩
theorem SP.bG{D:Ends}{f:Flow}{s':ah}(h:SP (X.cK E) pins D f s'):SP X pins D f s':=by
 cases f with|next=>obtain⟨σ',H',I,q⟩:=h;exact⟨σ',H',I.bG,q⟩|brk=>obtain⟨σ',H',I,q⟩:=h;exact⟨σ',H',I.bG,q⟩|cont=>obtain⟨σ',H',I,q⟩:=h;exact⟨σ',H',I.bG,q⟩|ret u=>obtain⟨v,σ',H',I,r,q⟩:=h;exact⟨v,σ',H',I.bG,r,q⟩
theorem PE.dJ{e:aq}{t:TE}(h:PE X.dJ e t):PE X e t:=λpins s σ H Q I hw=>
 gQ (h pins s σ H Q (I.cK _) hw) (λ_ _ ⟨v,H',I',r,q⟩=>⟨v,H',I'.bG,r,q⟩) λ_ _ z=>False.elim z
theorem PT.dJ{e:aq}{t:TT}(h:PT X.dJ e t):PT X e t:=λpins s σ H Q I hw=>
 gQ (h pins s σ H Q (I.cK _) hw) (λ_ _ ⟨H',I',q⟩=>⟨H',I'.bG,q⟩) λ_ _ z=>False.elim z
theorem fU.dJ{st:List au}{t:TS}(h:fU X.dJ st t):fU X st t:=λpins s σ H D I hw=>
 gQ (h pins s σ H D (I.cK _) hw) (λ_ _ q=>q.bG) λ_ _ z=>False.elim z
end
section
variable{X:Cx}{st:au}{rest:List au}{t u:TS}{e:aq}{te:TE}{pos:Pos}
noncomputable def ud:TS:=λD σ H=>D.nx σ H
noncomputable def GP(t u:TS):TS:=λD σ H=>t {D with nx:=u D} σ H
theorem LG:fU X [] ud:=λ_ _ σ H _ I h=>yq ⟨σ,H,I,h⟩
theorem EI(h1:PS X st t)(h2:fU X rest u):fU X (st::rest) (GP t u):=by
 intro pins s σ H D I h;refine wpAny_execs_cons (aY (h1 pins s σ H {D with nx:=u D} I h) λf s1 q=>?_);cases f with
 |next=>
  obtain⟨σ',H',I',q⟩:=q;exact h2 pins s1 σ' H' D I' q
 |ret v=>exact q
 |brk=>exact q
 |cont=>exact q
theorem EJ(h1:PS X st t):fU X [st] t:=by
 intro pins s σ H D I h;refine wpAny_execs_cons (aY (h1 pins s σ H D I h) λf s1 q=>?_);cases f with|next=>exact yq q|ret v=>exact q|brk=>exact q|cont=>exact q
noncomputable def QS:TS:=λD σ H=>D.bk σ H
noncomputable def Al:TS:=λD σ H=>D.ct σ H
theorem QT:PS X (.Pass pos) ud:=λ_ _ σ H _ I h=>wpAny_Pass ⟨σ,H,I,h⟩
theorem QU:PS X (.Break pos) QS:=λ_ _ σ H _ I h=>wpAny_Break ⟨σ,H,I,h⟩
theorem QV:PS X (.Continue pos) Al:=λ_ _ σ H _ I h=>wpAny_Continue ⟨σ,H,I,h⟩
theorem Inv.quiet{pins:List (ai×Obj)}{σ:St}{H:Hp}{s:ah}(I:Inv X pins σ H s):interactive X.env=false:=by simp[interactive,I.ok.kind]
noncomputable def Am(te:TE):TS:=λD σ H=>te σ H λ_ H1=>D.nx σ H1
theorem LH(he:PE X e te)(hs:autoParam (swapsWith e aD pos.line X.env=pure false) L2.aR1._auto_1):PS X (.Expr e pos) (Am te):=by intro pins s σ H D I h;exact wpAny_Expr_any (aY (he pins s σ H _ I h) λv s1 z9=>z9.el λx H1 I1 r1 q1=>⟨σ,H1,I1,q1⟩) I.quiet hs
noncomputable def GQ(te:TE):TS:=λD σ H=>te σ H D.rt
theorem An(he:PE X e te):PS X (.Return (aC e) pos) (GQ te):=by intro pins s σ H D I h;exact wpAny_Return_some (aY (he pins s σ H _ I h) λv s1 z9=>z9.el λx H1 I1 r1 q1=>⟨x,σ,H1,I1,r1,q1⟩)
noncomputable def Ao:TS:=λD _ H=>D.rt .aN H
theorem QW:PS X (.Return aD pos) Ao:=λ_ _ σ H _ I h=>wpAny_Return_none ⟨.aN,σ,H,I,rfl,h⟩
noncomputable def GR(c:TT)(t u:TS):TS:=λD σ H=>c σ H λb H1=>if b=true then t D σ H1 else u D σ H1
theorem nO{c:aq}{a b:List au}{tc:TT}(hc:PT X c tc)(ha:fU X a t)(hb:fU X b u):PS X (.If c a b pos) (GR tc t u):=by
 intro pins s σ H D I h;refine wpAny_If (aY (hc pins s σ H _ I h) λd s1 z9=>z9.el λH1 I1 q1=>?_);cases d with|true=>exact ha pins s1 σ H1 D I1 q1|false=>exact hb pins s1 σ H1 D I1 q1
noncomputable def QX:TS:=λ_ _ _=>False
theorem QY:PS X st QX:=λ_ _ _ _ _ _ h=>h.elim
end
noncomputable abbrev TG:=V->St->Hp->(St->Hp->Prop)->Prop
noncomputable abbrev qY:=List V->St->Hp->(St->Hp->Prop)->Prop
noncomputable def PG(X:Cx)(target:aq)(t:TG):Prop:=
 ∀(pins:List (ai×Obj))(s:ah)(σ:St)(H:Hp)(v:V)(u:aa)(Q:St->Hp->Prop),Inv X pins σ H s->RelV v u->t v σ H Q->
  wpAny (model X.prog X.w) X.A (assign target X.env u) (λ_ s'=>∃σ' H',Inv X pins σ' H' s'/\Q σ' H') X.xe s
noncomputable def yK(X:Cx)(ts:List aq)(t:qY):Prop:=
 ∀(pins:List (ai×Obj))(s:ah)(σ:St)(H:Hp)(vs:List V)(us:List aa)(Q:St->Hp->Prop),Inv X pins σ H s->Vals vs us->t vs σ H Q->
  wpAny (model X.prog X.w) X.A (assignInOrder ((assignEach ts X.env).map (·.2)) us) (λ_ s'=>∃σ' H',Inv X pins σ' H' s'/\Q σ' H') X.xe s
noncomputable abbrev vX:=V->V->V->Hp->(Hp->Prop)->Prop
noncomputable def Aq(X:Cx)(t:vX):Prop:=
 ∀(pins:List (ai×Obj))(s:ah)(σ:St)(H:Hp)(o i v:V)(ov iv u:aa)(Q:Hp->Prop),Inv X pins σ H s->RelV o ov->RelV i iv->RelV v u->t o i v H Q->
  wpAny (model X.prog X.w) X.A (setItem ov iv u) (λ_ s'=>∃H',Inv X pins σ H' s'/\Q H') X.xe s
noncomputable abbrev EK:=V->V->Hp->VK->Prop
noncomputable def Ar(X:Cx)(op:Operator)(t:EK):Prop:=
 ∀(pins:List (ai×Obj))(s:ah)(σ:St)(H:Hp)(x y:V)(v u:aa)(Q:VK),Inv X pins σ H s->RelV x v->RelV y u->t x y H Q->
  wpAny (model X.prog X.w) X.A (inplaceOp op v u) (EP X pins σ Q) X.xe s
section
variable{X:Cx}{pos:Pos}
noncomputable def jP(i:Nat):TG:=λv σ H Q=>Q (σ.set i (aC v)) H
theorem LI{i:Nat}{x:Str}(hN:X.N.Nodup)(hi:X.N[i]?=aC x)(hx:Loc X.env.scope x)(hf:autoParam (X.fn x=true\/X.env.scope.names.lookup x=aC .local) L2.aF1._auto_1):PG X (.Name x pos) (jP i):=by intro pins s σ H v u Q I r h;exact wpAny_assign_Name (yH I hN hi hx r (λs' I'=>⟨_,H,I',h⟩) hf)
noncomputable def GS:qY:=λvs σ H Q=>vs=[]/\Q σ H
noncomputable def As(t:TG)(u:qY):qY:=λvs σ H Q=>∃v r,vs=v::r/\t v σ H λσ' H'=>u r σ' H' Q
theorem QZ:yK X [] GS:=by intro pins s σ H vs us Q I r h;obtain⟨e,h⟩:=h;subst e;cases r;exact assignInOrder_nil ⟨σ,H,I,h⟩
theorem Q0{e:aq}{es:List aq}{t:TG}{u:qY}(h1:PG X e t)(h2:yK X es u)
 (hs:autoParam ((assignEach (e::es) X.env).map (·.2)=assign e X.env:: (assignEach es X.env).map (·.2)) L2.aR1._auto_1):yK X (e::es) (As t u):=by
 intro pins s σ H vs us Q I r h;obtain⟨v,vr,e1,h⟩:=h;subst e1;cases r with
 |cons r rr=>
  rw[hs];refine assignInOrder_cons (aY (h1 pins s σ H _ _ _ I r h) λ_ s1 di=>?_);obtain⟨σ1,H1,I1,q1⟩:=di;exact h2 pins s1 σ1 H1 _ _ Q I1 rr q1
noncomputable def GU(K:aI)(n:Nat)(t:qY):TG:=λv σ H Q=>∃a xs,v=.ref a/\cH K H a xs/\xs.length=n/\t xs σ H Q
theorem Q2{es:List aq}{k:Nat}{t:qY}{n:Nat}(hc:X.calm)(h:yK X es t)
 (hn:autoParam ((assignEach es X.env).length=n) L2.aR1._auto_1) (hst:autoParam ((assignEach es X.env).findIdx? (·.1)=aD) L2.aR1._auto_1):PG X (.Tuple es k pos) (GU X.K n t):=by
 intro pins s σ H v u Q I r hw;obtain⟨a,xs,e1,hq,hl,hw⟩:=hw;subst e1;cases r;obtain⟨its,rv,ht,hz⟩:=I.tuple hq;refine assign_Tuple_tuple (I.ok.hd hc) ht (by simp[hn,<-hl,rv.length]) hst λh' hx=>?_;have I1:Inv X pins σ H {s with heap:=h'}:=I.kept (t':=s.toks) λb o e=>hx b o (eB (cF e)) e;exact h pins _ σ H xs _ Q I1 (by simpa using rv) hw
noncomputable def GV(to ti:TE)(t:vX):TG:=λv σ H Q=>to σ H λo H1=>ti σ H1 λi H2=>t o i v H2 λH3=>Q σ H3
theorem Q3{o i:aq}{to ti:TE}{t:vX}(ho:PE X o to)(hi:PE X i ti)(hs:Aq X t)
 (ha:∀v,assign (.Subscript o i pos) X.env v=(do
   let ov <-holding [v] (eval o X.env);let iv <-holding [v,ov] (eval i X.env)
   standAt pos
   holding [v,ov,iv] (setItem ov iv v)
   release [v,ov,iv] []):=by intro _;rfl):PG X (.Subscript o i pos) (GV to ti t):=by
 intro pins s σ H v u Q I r h;rw[ha];refine aJ (jE (aY (ho pins s σ H _ I h) λov s1 z9=>z9.el λx H1 I1 r1 q1=>?_));refine aJ (jE (aY (hi pins s1 σ H1 _ I1 q1) λiv s2 z9=>z9.el λy H2 I2 r2 q2=>?_));refine aJ (jF (aJ (jE (aY (hs pins s2 σ H2 x y v ov iv u _ I2 r1 r2 r q2) λ_ s3 di=>?_))));obtain⟨H3,I3,q3⟩:=di;exact wpAny_release ⟨σ,H3,I3,q3⟩
noncomputable def vY(te:TE)(g:TG):TS:=λD σ H=>te σ H λx H1=>g x σ H1 D.nx
theorem GW{tg e:aq}{te:TE}{g:TG}(he:PE X e te)(hg:PG X tg g)(hs:autoParam (swapsWithSole [tg] e pos.line X.env=pure false) L2.aR1._auto_1)(hw:autoParam (swappedStores [tg] e X.env=pure aD) L2.aR1._auto_1)
 (h1:autoParam ((assignEach [tg] X.env).map (·.2)=[assign tg X.env]) L2.aR1._auto_1):PS X (.Assign [tg] e pos) (vY te g):=by
 intro pins s σ H D I h;refine wpAny_Assign_stores (aY (he pins s σ H _ I h) λv s1 z9=>z9.el λx H1 I1 r1 q1=>?_) hs hw;rw[h1];exact aY (hg pins s1 σ H1 x v _ I1 r1 q1) λ_ s2 q=>q
theorem LJ{i:Nat}{x:Str}{e:aq}{te:TE}{pos':Pos}(hN:X.N.Nodup)(hi:X.N[i]?=aC x)(hx:Loc X.env.scope x)(he:PE X e te)(hs:autoParam (swapsWith e (aC (.Name x pos')) pos.line X.env=pure false) L2.aR1._auto_1)(hf:autoParam (X.fn x=true\/X.env.scope.names.lookup x=aC .local) L2.aF1._auto_1) :
 PS X (.Assign [.Name x pos'] e pos) (vY te (jP i)):=by
 intro pins s σ H D I h;refine wpAny_Assign_Name (aY (he pins s σ H _ I h) λv s1 z9=>z9.el λy H1 I1 r1 q1=>?_) hs;exact yH I1 hN hi hx r1 (λs2 I2=>⟨_,H1,I2,q1⟩) hf
noncomputable def GX(i j:Nat)(ta:TA):TS:=λD σ H=>ta σ H λvs H1=>∃v w,vs=[v,w]/\D.nx ((σ.set i (aC v)).set j (aC w)) H1
theorem Q4{i j:Nat}{x y:Str}{a b:aq}{ta:TA}{px py pt:Pos}{kt k2 ue}(hc:X.calm)(hN:X.N.Nodup)(hi:X.N[i]?=aC x)(hj:X.N[j]?=aC y)(hij:i≠j)
 (hx:X.env.scope.names.lookup x=aC .local) (hy:X.env.scope.names.lookup y=aC .local) (ha:PA X [a,b] ta)
 (hw:swappedStores [.Tuple [.Name x px,.Name y py] kt pt] (.Tuple [a,b] k2 ue) X.env=pure (aC [x,y]))
 (hs:autoParam (swapsWithSole [.Tuple [.Name x px,.Name y py] kt pt] (.Tuple [a,b] k2 ue) pos.line X.env=pure false) L2.aR1._auto_1) :
 PS X (.Assign [.Tuple [.Name x px,.Name y py] kt pt] (.Tuple [a,b] k2 ue) pos) (GX i j ta):=by
 intro pins s σ H D I h;rw[exec_Assign_arm];refine aJ (jF ?_);rw[hs];refine aJ (bJ ?_);rw[if_neg (by decide)];refine aJ (Tuple_ (aY (ha _ pins s σ H _ I h) λus s1 z9=>z9.el λvs H1 I1 r1 q1=>?_));obtain⟨v,w,e1,q1⟩:=q1;subst e1;obtain⟨u1,u2,rfl,rv,rw'⟩:∃u1 u2,us=[u1,u2]/\RelV v u1/\RelV w u2:=by
  cases r1 with
  |cons p q=>
   cases q with
   |cons p' q'=>
    cases q';exact⟨_,_,rfl,p,p'⟩
 refine qH ?_ (by show 2<=sizeLine;decide);have I2:Inv X pins σ H1 {s1 with heap:=s1.heap.push {cls:=.type "tuple",data:=.seq [u1,u2].toArray}}:=I1.kept (t':=s1.toks) λb o e=>cC _ e;rw[hw];refine aJ (bJ ?_);show wpAny (model X.prog X.w) X.A (do rule "assign.swapped-stores";let items <-unpackItems (.ref s1.heap.objs.size) 2 aD;assignInOrder [λv=>bindName X.env y v,λv=>bindName X.env x v] items.reverse;pure Flow.next) _ _ _;refine aJ (vK (aJ (unpackItems_tuple (items:=#[u1,u2]) (I.ok.hd hc) (IsTup.new s1.heap _) λh' hx'=>?_)));have I3:=I2.kept (h':=h') (t':=s1.toks) λb o e=>hx' b o (eB (cF e)) e;show wpAny _ _ (assignInOrder [λv=>bindName X.env y v,λv=>bindName X.env x v] [u2,u1] >>= λ_=>pure Flow.next) _ _ _;refine aJ (assignInOrder_cons (wpAny_bindName (yH I3 hN hj (.inl hy) rw' (λs2 I4=>?_) (.inr hy))));refine assignInOrder_cons (wpAny_bindName (yH I4 hN hi (.inl hx) rv (λs3 I5=>assignInOrder_nil (bJ ?_)) (.inr hx)));rw[List.set_comm _ _ (eE hij)]at I5;exact⟨_,H1,I5,q1⟩
noncomputable def GY(i:Nat)(te:TE)(ti:EK):TS:=λD σ H=>∃x,σ[i]?=aC (aC x)/\te σ H λy H1=>ti x y H1 λz H2=>D.nx (σ.set i (aC z)) H2
theorem Q5{i:Nat}{x:Str}{e:aq}{te:TE}{op:Operator}{ti:EK}{pos':Pos}(hN:X.N.Nodup)(hi:X.N[i]?=aC x)(hx:Loc X.env.scope x)(he:PE X e te)(ho:Ar X op ti)(hf:autoParam (X.fn x=true\/X.env.scope.names.lookup x=aC .local) L2.aF1._auto_1) :
 PS X (.AugAssign (.Name x pos') op e pos) (GY i te ti):=by
 intro pins s σ H D I h;obtain⟨v,e1,h⟩:=h;obtain⟨m,hn,hl⟩:=I.loc;have vis:kI X.env.scope x:=by rcases hx with k|k;exact .inl k;exact .inr (.inl k)
 obtain⟨u,r,l⟩:=hl i x v hi e1 vis;refine wpAny_AugAssign_Name ?_;have go:wpAny (model X.prog X.w) X.A (eval e X.env) (λw s₂=>wpAny (model X.prog X.w) X.A (inplaceOp op u w) (λr s₃=>wpAny (model X.prog X.w) X.A (storeName X.env x r) (λ_=>SP X pins D .next) X.xe s₃) X.xe s₂) X.xe s:=by refine aY (he pins s σ H _ I h) λw s1 z9=>z9.el λy H1 I1 r1 q1=>?_;refine aY (ho pins s1 σ H1 v y u w _ I1 r r1 q1) λz s2 z9=>z9.el λzv H2 I2 r2 q2=>?_;exact yH I2 hN hi hx r2 (λs3 I3=>⟨_,H2,I3,q2⟩) hf
 rcases l with⟨hk,hm⟩|⟨hk,c,hc,hcell⟩;exact wpAny_loadName_local I.ok.kind hk hn hm go;rcases hk with hk|hk;exact wpAny_loadName_cell I.ok.kind hk hc hcell go;rcases hx with k|k;have:X.env.scope.names.lookup x=aC .free:=hk;rw[k]at this;cases this;have:X.env.scope.names.lookup x=aC .free:=hk;rw[k]at this;cases this
noncomputable def EL(f:Int->Int->Int):EK:=λx y H Q=>∃i j,x=.int i/\y=.int j/\Q (.int (f i j)) H
theorem Q6:Ar X .Add (EL λi j=>i+j):=by intro pins s σ H x y v u Q I r1 r2 h;obtain⟨i,j,e1,e2,q⟩:=h;subst e1;subst e2;obtain⟨t,rfl⟩:=r1;obtain⟨t',rfl⟩:=r2;exact iadd_int ⟨.int _,H,I.tok _,⟨_,rfl⟩,q⟩
theorem Q7:Ar X .Sub (EL λi j=>i-j):=by intro pins s σ H x y v u Q I r1 r2 h;obtain⟨i,j,e1,e2,q⟩:=h;subst e1;subst e2;obtain⟨t,rfl⟩:=r1;obtain⟨t',rfl⟩:=r2;exact isub_int ⟨.int _,H,I.tok _,⟨_,rfl⟩,q⟩
end
section
variable{X:Cx}{pos:Pos}
noncomputable def Q8(c:TT)(tb:TS):TS:=λD σ H=>∃W:Nat->St->Hp->Prop,(∃m,W m σ H)/\∀m σ H,W m σ H->
 c σ H λb H1=>if b=true then ∃N:St->Hp->Prop,(∀σ' H',N σ' H'->∃m',m'<m/\W m' σ' H')/\tb {D with nx:=N,ct:=N,bk:=D.nx} σ H1 else D.nx σ H1
theorem Q9{c:aq}{body:List au}{tc:TT}{tb:TS}(hp:PassesOwn (model X.prog X.w) X.A X.env X.xe)(hc:PT X c tc)(hb:fU X body tb):PS X (.While c body [] pos) (Q8 tc tb):=by
 intro pins s σ H D I h;obtain⟨W,⟨m0,w0⟩,turn⟩:=h;refine wpAny_While (codeAny_whileLoop (λn s'=>∃σ' H',Inv X pins σ' H' s'/\W n σ' H') ?_ m0 ⟨σ,H,I,w0⟩);rintro n s1 ⟨σ1,H1,I1,w1⟩;refine vH hp (aY (hc pins s1 σ1 H1 _ I1 (turn n σ1 H1 w1)) λb s2 z9=>z9.el λH2 I2 q2=>?_);cases b with
 |true=>
  obtain⟨N,hN,q2⟩:=q2;rw[if_pos rfl];refine vH hp (aY (hb pins s2 σ1 H2 _ I2 q2) λf s3 q3=>?_);cases f with
  |next=>
   obtain⟨σ3,H3,I3,n3⟩:=q3;obtain⟨m',hm,w3⟩:=hN σ3 H3 n3;exact⟨m',hm,σ3,H3,I3,w3⟩
  |cont=>
   obtain⟨σ3,H3,I3,n3⟩:=q3;obtain⟨m',hm,w3⟩:=hN σ3 H3 n3;exact⟨m',hm,σ3,H3,I3,w3⟩
  |brk=>exact q3
  |ret v=>exact q3
 |false=>
  rw[if_neg ic];exact yq ⟨σ1,H2,I2,q2⟩
end
set_option genInjectivity false in
structure It where
 go:Nat->Hp->Prop
 Au:Nat->Hp->V->Hp->Prop
 stop:Nat->Hp->Prop
noncomputable def fV(X:Cx)(pins:List (ai×Obj))(H:Hp)(b:ai):Prop:=
 H b=aD/\b≠X.env.locals/\b∉X.fs/\(b∈X.ex\/X.s₀.heap.objs.size<=b)/\(∀x c,X.env.cells.lookup x=aC c->c≠b)/\∀p∈X.pn++pins,p.1≠b
theorem Inv.mG{X:Cx}{pins:List (ai×Obj)}{σ:St}{H H':Hp}{s:ah}{b:ai}(I:Inv X pins σ H s)(hb:s.heap.objs.size<=b)(hn:H' b=aD):fV X pins H' b:=by refine⟨hn,lg (eN I.lt hb),I.GC hb,.inr (gu I.sz hb),λx c e z=>?_,λp hp z=>?_⟩;obtain⟨v,q⟩:=I.cell x c e;exact absurd (eN q.lt (by rw[z];exact hb)) (qQ _);exact absurd (eN (cF (I.pin p hp).1) (by rw[z];exact hb)) (qQ _)
structure Turn(P:aj)(w:ak)(K:aI)(tg:aq)(J:It)(fp:List ai)(it:ai)(tn:Nat->aA->Prop):Prop where
 mem:it∈fp
 obj:∀i h,tn i h->∀b∈fp,∃o,h.get? b=aC o/\∀v,o.data≠.cell v
 keep:∀i h h',tn i h->(∀b∈fp,∀o,h.get? b=aC o->h'.get? b=aC o)->tn i h'
 item:∀(X:Cx),X.prog=P->X.w=w->X.K=K->X.calm=true->∀(i:Nat)(pins:List (ai×Obj))(s:ah)(σ:St)(H:Hp)(E:aa->ah->Prop),Inv X pins σ H s->(∀b∈fp,fV X pins H b)->tn i s.heap->J.go i H->
  wpAny (model P w) X.A (pyNext (.ref it)) (λr s1=>∃u,r=aC u/\
   wpAny (model P w) X.A (letOwnedTupleGo tg (.ref it) u) (λ_ s2=>∃x H',Inv X pins σ H' s2/\RelV x u/\J.Au i H x H'/\tn (i+1) s2.heap/\∀b∈fp,H' b=aD) E s1) E s
 done:∀(X:Cx),X.prog=P->X.w=w->X.K=K->X.calm=true->∀(i:Nat)(pins:List (ai×Obj))(s:ah)(σ:St)(H:Hp)(E:aa->ah->Prop),Inv X pins σ H s->(∀b∈fp,fV X pins H b)->tn i s.heap->J.stop i H->
  wpAny (model P w) X.A (pyNext (.ref it)) (λr s1=>r=aD/\Inv X pins σ H s1) E s
 self:∀(A:ao)(i:Nat)(s:ah)(Q:aa->ah->Prop)(E:aa->ah->Prop),tn i s.heap->Q (.ref it) s->wpAny (model P w) A (pyIter (.ref it)) Q E s
noncomputable abbrev TI:=St->Hp->(It->Hp->Prop)->Prop
noncomputable def GZ(X:Cx)(pins:List (ai×Obj))(σ:St)(tg:aq)(R:It->Hp->Prop)(itv:aa)(s2:ah):Prop:=
 ∃(it:ai) (fp:List ai) (tn:Nat->aA->Prop) (J:It) (H':Hp),itv=.ref it/\Inv X pins σ H' s2/\Turn X.prog X.w X.K tg J fp it tn/\tn 0 s2.heap/\(∀b∈fp,fV X pins H' b)/\R J H'
noncomputable def PI(X:Cx)(tg iter:aq)(wi:TI):Prop:=
 ∀(pins:List (ai×Obj))(s:ah)(σ:St)(H:Hp)(R:It->Hp->Prop),Inv X pins σ H s->wi σ H R->
  wpAny (model X.prog X.w) X.A (eval iter X.env) (λv s1=>wpAny (model X.prog X.w) X.A (pyIter v) (GZ X pins σ tg R) X.xe s1) X.xe s
theorem nP{M:Model}{A:ao}{E:aa->ah->Prop}{s:ah}{tg:aq}{it:ai}{u:aa}{o:Obj}{n:String}{vs:Array aa}{Q:Unit->ah->Prop}(ho:s.heap.get? it=aC o)(hc:o.cls=.type n)(hd:o.data=.fields vs)
 (hn:["enumerate","zip","dict_itemiterator","dict_reverseitemiterator","odict_iterator","itertools.zip_longest","itertools.pairwise"].contains n=false) (hQ:Q () s):wpAny M A (letOwnedTupleGo tg (.ref it) u) Q E s:=by
 unfold letOwnedTupleGo;cases tg<;>first
  |exact bJ hQ
  |(cases u<;>first
     |exact bJ hQ
     |(refine aJ (wpAny_load ho ?_)
       rw[hc,hd];show wpAny M A (if(["enumerate","zip","dict_itemiterator","dict_reverseitemiterator","odict_iterator","itertools.zip_longest","itertools.pairwise"].contains n&&vs[0]? == aC (rawInt _))=true then _ else _) Q E s;rw[if_neg (by intro h;rw[hn,ym]at h;cases h)];exact bJ hQ))
noncomputable def EM(K:aI)(a:ai):It:=
 ⟨λi H=>∃xs x,cN K H a xs/\xs[i]?=aC x,λi H x H'=>H'=H/\∀xs,cN K H a xs->xs[i]?=aC x,λi H=>∃xs,cN K H a xs/\xs.length<=i⟩
noncomputable def G0(K:aI)(a:ai):It:=
 ⟨λi H=>∃xs x,cH K H a xs/\xs[i]?=aC x,λi H x H'=>H'=H/\∀xs,cH K H a xs->xs[i]?=aC x,λi H=>∃xs,cH K H a xs/\xs.length<=i⟩
noncomputable def EN(lo:Int)(n:Nat):It:=⟨λi _=>i<n,λi H x H'=>H'=H/\x=.int (lo+i),λi _=>n<=i⟩
theorem Ra{P:aj}{w:ak}{K:aI}{tg:aq}(a it:ai):Turn P w K tg (EM K a) [it] it (λi h=>h.IsListIter it a i)where
 mem:=by simp
 obj:=λi h st b hb=>by
  have e:b=it:=by simpa using hb
  subst e;obtain⟨o,e,c,d⟩:=st;exact⟨o,e,λv z=>by rw[d]at z;cases z⟩
 keep:=λi h h' st k=>st.at λo e=>k it (by simp) o e
 item:=by intro X hP hw hK hc i pins s σ H E I hf st hg;subst hP hw hK;obtain⟨xs,x,hq,hx⟩:=hg;obtain⟨its,rv,p,hz⟩:=I.list hq;obtain⟨u,hu,ru⟩:=rv.get hx;obtain⟨f0,f1,f2,f3,f4,f5⟩:=hf it (by simp);refine wpAny_pyNext_list_item st p.isList (x:=u) (by simpa using hu) λh' st' sb=>?_;have I1:Inv X pins σ H {s with heap:=h'}:=I.turned (t':=s.toks) (λb o hb e=>(sb.2 b hb).trans e) f0 f1 f3 f4 f5;obtain⟨o,e,c,d⟩:=id st';exact⟨u,rfl,nP (s:={s with heap:=h'}) e c d (by decide) ⟨x,H,I1,ru,⟨rfl,λys hy=>by rw[I.jO hy hq];exact hx⟩,st',λb hb=>(hf b hb).1⟩⟩
 done:=by intro X hP hw hK hc i pins s σ H E I hf st hg;subst hP hw hK;obtain⟨xs,hq,hx⟩:=hg;obtain⟨its,rv,p,hz⟩:=I.list hq;obtain⟨f0,f1,f2,f3,f4,f5⟩:=hf it (by simp);have hl:=rv.length;exact wpAny_pyNext_list_end (I.ok.hd hc) st p.isList (by simp;lia) λh' eb=>⟨rfl,I.turned (t':=s.toks) (λb o hb e=>eb b o hb e) f0 f1 f3 f4 f5⟩
 self:=λ_ _ _ _ _ st h=>wpAny_pyIter_listiter st h
theorem Rb{P:aj}{w:ak}{K:aI}{tg:aq}(a it:ai):Turn P w K tg (G0 K a) [it] it (λi h=>h.IsTupleIter it a i)where
 mem:=by simp
 obj:=λi h st b hb=>by
  have e:b=it:=by simpa using hb
  subst e;obtain⟨o,e,c,d⟩:=st;exact⟨o,e,λv z=>by rw[d]at z;cases z⟩
 keep:=λi h h' st k=>st.at λo e=>k it (by simp) o e
 item:=by intro X hP hw hK hc i pins s σ H E I hf st hg;subst hP hw hK;obtain⟨xs,x,hq,hx⟩:=hg;obtain⟨its,rv,p,hz⟩:=I.tuple hq;obtain⟨u,hu,ru⟩:=rv.get hx;obtain⟨f0,f1,f2,f3,f4,f5⟩:=hf it (by simp);refine wpAny_pyNext_tuple_item st (show s.heap.IsTuple a its.toArray from p) (x:=u) (by simpa using hu) λh' st' sb=>?_;have I1:Inv X pins σ H {s with heap:=h'}:=I.turned (t':=s.toks) (λb o hb e=>(sb.2 b hb).trans e) f0 f1 f3 f4 f5;obtain⟨o,e,c,d⟩:=id st';exact⟨u,rfl,nP (s:={s with heap:=h'}) e c d (by decide) ⟨x,H,I1,ru,⟨rfl,λys hy=>by rw[I.gw hy hq];exact hx⟩,st',λb hb=>(hf b hb).1⟩⟩
 done:=by intro X hP hw hK hc i pins s σ H E I hf st hg;subst hP hw hK;obtain⟨xs,hq,hx⟩:=hg;obtain⟨its,rv,p,hz⟩:=I.tuple hq;obtain⟨f0,f1,f2,f3,f4,f5⟩:=hf it (by simp);have hl:=rv.length;exact wpAny_pyNext_tuple_end (I.ok.hd hc) st (show s.heap.IsTuple a its.toArray from p) (by simp;lia) λh' eb=>⟨rfl,I.turned (t':=s.toks) (λb o hb e=>eb b o hb e) f0 f1 f3 f4 f5⟩
 self:=λ_ _ _ _ _ st h=>wpAny_pyIter_tupleiter st h
theorem Rc{P:aj}{w:ak}{K:aI}{tg:aq}(it:ai)(lo:Int)(n:Nat):Turn P w K tg (EN lo n) [it] it (λi h=>IsRangeIter h it (lo+ (i:Nat)*1) ((n:Int)- (i:Nat)) 1)where
 mem:=by simp
 obj:=λi h st b hb=>by
  have e:b=it:=by simpa using hb
  subst e;exact⟨_,st,λv z=>by
   have z':Data.fields _=Data.cell v:=z;cases z'⟩
 keep:=λi h h' st k=>k it (by simp) _ st
 item:=by intro X hP hw hK hc i pins s σ H E I hf st hg;subst hP hw hK;obtain⟨f0,f1,f2,f3,f4,f5⟩:=hf it (by simp);have W:=Walks.range (prog:=X.prog) (w:=X.w) (I.ok.hd hc) it lo 1 n;refine W.item i s _ _ hg st λv h' tk hv st' kk=>?_;obtain⟨t,rfl⟩:=hv;have I1:Inv X pins σ H {s with heap:=h',toks:=tk}:=I.turned (λb o hb e=>kk b o (by simpa using hb) e) f0 f1 f3 f4 f5;refine⟨_,rfl,nP (s:={s with heap:=h',toks:=tk}) (n:="range_iterator") st' rfl rfl (by decide) ⟨.int (lo+i),H,I1,⟨t,?_⟩,⟨rfl,rfl⟩,st',λb hb=>(hf b hb).1⟩⟩;rw[Int.mul_one]
 done:=by intro X hP hw hK hc i pins s σ H E I hf st hg;subst hP hw hK;obtain⟨f0,f1,f2,f3,f4,f5⟩:=hf it (by simp);exact wpAny_pyNext_range_end (I.ok.hd hc) st (by have:n<=i:=hg;lia) λh' eb=>⟨rfl,I.turned (t':=s.toks) (λb o hb e=>eb b o hb e) f0 f1 f3 f4 f5⟩
 self:=λ_ _ _ _ _ st h=>wpAny_pyIter_rangeiter st h
section
variable{X:Cx}{tg:aq}
noncomputable def Av(K:aI)(tl:TE):TI:=λσ H R=>tl σ H λx H1=>∃a,x=.ref a/\(∃xs,cN K H1 a xs)/\R (EM K a) H1
noncomputable def G9(K:aI)(tl:TE):TI:=λσ H R=>tl σ H λx H1=>∃a,x=.ref a/\(∃xs,cH K H1 a xs)/\R (G0 K a) H1
theorem LK{l:aq}{tl:TE}(hl:PE X l tl):PI X tg l (Av X.K tl):=by
 intro pins s σ H R I h;refine aY (hl pins s σ H _ I h) λv s1 z9=>z9.el λx H1 I1 r1 q1=>?_;obtain⟨a,e,⟨xs,hq⟩,q⟩:=q1;subst e;cases r1;obtain⟨its,rv,p,hz⟩:=I1.list hq;refine zL p.isList ?_;refine⟨s1.heap.objs.size,[s1.heap.objs.size],_,_,H1,rfl,I1.kept (t':=s1.toks) λb o e=>cC _ e,Ra a _,⟨_,ji _ rfl,rfl,rfl⟩,λb hb=>?_,q⟩;have e:b=s1.heap.objs.size:=by simpa using hb
 subst e;exact I1.mG (aZ _) (I1.hok.fresh (aZ _))
theorem Rf{l:aq}{tl:TE}(hl:PE X l tl):PI X tg l (G9 X.K tl):=by
 intro pins s σ H R I h;refine aY (hl pins s σ H _ I h) λv s1 z9=>z9.el λx H1 I1 r1 q1=>?_;obtain⟨a,e,⟨xs,hq⟩,q⟩:=q1;subst e;cases r1;obtain⟨its,rv,p,hz⟩:=I1.tuple hq;refine vF (show s1.heap.IsTuple a its.toArray from p) ?_;refine⟨s1.heap.objs.size,[s1.heap.objs.size],_,_,H1,rfl,I1.kept (t':=s1.toks) λb o e=>cC _ e,Rb a _,⟨_,ji _ rfl,rfl,rfl⟩,λb hb=>?_,q⟩;have e:b=s1.heap.objs.size:=by simpa using hb
 subst e;exact I1.mG (aZ _) (I1.hok.fresh (aZ _))
theorem Rg{pins:List (ai×Obj)}{σ:St}{H:Hp}{s:ah}{R:It->Hp->Prop}{E:aa->ah->Prop}{lo hi:Int}{t u v:Tok}{tk:Nat}(I:Inv X pins σ H s)(h1:-(2 ^ 62)<=lo)(h2:lo<2 ^ 62)(h3:-(2 ^ 62)<=hi)(h4:hi<2 ^ 62)
 (q:R (EN lo (hi-lo).toNat) H):wpAny (model X.prog X.w) X.A (pyIter (.ref s.heap.objs.size)) (GZ X pins σ tg R) E {s with heap:=s.heap.push {cls:=.type "range",data:=.fields #[.int lo t,.int hi u,.int 1 v]},toks:=tk}:=by
 refine wpAny_pyIter_range (IsRange.new ..) (small_one h1 h2 h3 h4) ?_;have I1:Inv X pins σ H {s with heap:=s.heap.push {cls:=.type "range",data:=.fields #[.int lo t,.int hi u,.int 1 v]},toks:=tk}:=I.kept λb o e=>cC _ e;refine⟨(s.heap.push {cls:=.type "range",data:=.fields #[.int lo t,.int hi u,.int 1 v]}).objs.size,[(s.heap.push {cls:=.type "range",data:=.fields #[.int lo t,.int hi u,.int 1 v]}).objs.size],_,_,H,rfl,
  I1.kept (t':=tk) λb o e=>cC _ e,Rc _ lo (hi-lo).toNat,?_,λb hb=>?_,q⟩
 have e1:lo+ ((0:Nat):Int)*1=lo:=by simp
 have e2:(((hi-lo).toNat:Nat):Int)- ((0:Nat):Int)=Builtin.Range.rangeSize lo hi 1:=by rw[rangeSize_one];split<;>lia
 show IsRangeIter _ _ (lo+ ((0:Nat):Int)*1) ((((hi-lo).toNat:Nat):Int)- ((0:Nat):Int)) 1;rw[e1,e2];exact ji _ rfl;have e:b=(s.heap.push {cls:=.type "range",data:=.fields #[.int lo t,.int hi u,.int 1 v]}).objs.size:=by simpa using hb
 subst e;exact I1.mG (aZ _) (I1.hok.fresh (aZ _))
noncomputable def Aw(ta:TA):TI:=λσ H R=>ta σ H λvs H1=>∃j:Int,vs=[.int j]/\-(2 ^ 62)<=j/\j<2 ^ 62/\R (EN 0 j.toNat) H1
theorem Rh{a:aq}{ta:TA}{p pos:Pos}(hg:Gl X "range")(hm:X.mg "range" = aD)(ha:PA X [a] ta)(hs:autoParam (starEach [a] X.env=[(false,eval a X.env)]) L2.aR1._auto_1):PI X tg (.Call (.Name "range" p) [a] [] pos) (Aw ta):=by
 intro pins s σ H R I h;refine Call_ (yJ I hg hm boot_range (vcs (aY (ha pos pins s σ H _ I h) λus s1 z9=>z9.el λvs H1 I1 r1 q1=>?_) hs rfl));obtain⟨j,e,q1,q2,q⟩:=q1;subst e;cases r1 with
 |cons r rr=>
  cases rr;obtain⟨t,rfl⟩:=r;exact call_range_1 (Rg I1 (by lia) (by lia) q1 q2 (by simpa using q))
noncomputable def Ax(wi:TI)(g:TG)(tb:TS):TS:=λD σ H=>wi σ H λJ H1=>∃W:Nat->Nat->St->Hp->Prop,(∃m,W 0 m σ H1)/\∀i m σ H,W i m σ H->
 (J.stop i H/\D.nx σ H)\/(J.go i H/\∃N:St->Hp->Prop,(∀σ' H',N σ' H'->∃m',m'<m/\W (i+1) m' σ' H')/\∀x H',J.Au i H x H'->g x σ H' λσ2 H2=>tb {D with nx:=N,ct:=N,bk:=D.nx} σ2 H2)
noncomputable def Ay(fp:List ai)(h:aA):List (ai×Obj):=fp.filterMap λb=>(h.get? b).map λo=>(b,o)
theorem EO{fp:List ai}{h:aA}{b:ai}{o:Obj}(hb:b∈fp)(e:h.get? b=aC o):(b,o)∈Ay fp h:=Em.mpr ⟨b,hb,by rw[e];rfl⟩
theorem Ri{fp:List ai}{h:aA}{p:ai×Obj}(hp:p∈Ay fp h):p.1∈fp/\h.get? p.1=aC p.2:=by
 obtain⟨b,hb,e⟩:=Em.mp hp;cases q:h.get? b with
 |none=>rw[q]at e;cases e
 |some o=>
  rw[q]at e;have e':(b,o)=p:=ny e;subst e';exact⟨hb,q⟩
theorem Inv.pinned{pins:List (ai×Obj)}{σ:St}{H:Hp}{s:ah}{fp:List ai}(I:Inv X pins σ H s)(hf:∀b∈fp,fV X pins H b)(ho:∀b∈fp,∃o,s.heap.get? b=aC o/\∀v,o.data≠.cell v):Inv X (pins++Ay fp s.heap) σ H s:=
 I.lA λp hp=>(pV.mp hp).elim (λz=>I.pin p (nt _ z)) λz=>by
  obtain⟨hb,e⟩:=Ri z;obtain⟨f0,f1,f2,_⟩:=hf p.1 hb;obtain⟨o,e',d⟩:=ho p.1 hb;rw[e]at e';cases e';exact⟨e,f0,f1,f2,d⟩
theorem Inv.fW{pins pl:List (ai×Obj)}{σ:St}{H:Hp}{s:ah}(I:Inv X (pins++pl) σ H s):Inv X pins σ H s:=I.lA λp hp=>I.pin p (nt _ (Ek _ hp))
theorem Rj{iter:aq}{body:List au}{wi:TI}{g:TG}{tb:TS}{pos:Pos}(hp:PassesOwn (model X.prog X.w) X.A X.env X.xe)(hc:X.calm)(hi:PI X tg iter wi)(hg:PG X tg g)(hb:fU X body tb)
 (hs:∀x,foldedSetIterable iter X.env x=pure x:=by intro _;rfl):PS X (.For tg iter body [] pos) (Ax wi g tb):=by
 intro pins s σ H D I h;refine wpAny_For (aY (hi pins s σ H _ I h) λv s1 h1=>aY h1 λitv s2 h2=>?_) hs;obtain⟨it,fp,tn,J,H2,e,I2,T,st2,f2,W,⟨m0,w0⟩,turn⟩:=h2;subst e;have vZ:∀{H':Hp},(∀b∈fp,H' b=aD)->∀b∈fp,fV X pins H' b:=λhn b hb=>⟨hn b hb,(f2 b hb).2⟩
 refine codeAny_forLoop_any (λn s'=>∃i σ' H',Inv X pins σ' H' s'/\tn i s'.heap/\(∀b∈fp,H' b=aD)/\W i n σ' H') ?_ m0 ⟨0,σ,H2,I2,st2,λb hb=>(f2 b hb).1,w0⟩;rintro n s3 ⟨i,σ3,H3,I3,st3,LL,w3⟩;rcases turn i n σ3 H3 w3 with⟨stop,qn⟩|⟨go,N,hN,step⟩
 .refine vH hp (aY (T.done X rfl rfl rfl hc i pins s3 σ3 H3 X.xe I3 (vZ LL) st3 stop) λr s4 di=>?_)
  obtain⟨hr,I4⟩:=di;subst hr;exact yq ⟨σ3,H3,I4,qn⟩
 .refine vH hp (aY (T.item X rfl rfl rfl hc i pins s3 σ3 H3 X.xe I3 (vZ LL) st3 go) λr s4 di=>?_)
  obtain⟨u,hr,h4⟩:=di;subst hr;refine vH hp (aY h4 λ_ s5 di=>?_);obtain⟨x,H5,I5,r5,y5,yL,ER⟩:=di;have Rk:=I5.pinned (vZ ER) (T.obj _ _ yL);refine vH hp (aY (hg _ s5 σ3 H5 x u _ Rk r5 (step x H5 y5)) λ_ s6 di=>?_);obtain⟨kL,H6,I6,q6⟩:=di;refine vH hp (aY (hb _ s6 kL H6 _ I6 q6) λf s7 q7=>?_);have again:∀{nQ:St}{H7:Hp},Inv X (pins++Ay fp s5.heap) nQ H7 s7->N nQ H7->∃m,m<n/\∃i σ' H',Inv X pins σ' H' s7/\tn i s7.heap/\(∀b∈fp,H' b=aD)/\W i m σ' H':=λ{nQ H7} I7 n7=>by
   obtain⟨m',hm,w7⟩:=hN nQ H7 n7;refine⟨m',hm,i+1,nQ,H7,I7.fW,T.keep _ _ _ yL λb hb o e=>(I7.pin (b,o) (nt _ (nt _ (EO hb e)))).1,λb hb=>?_,w7⟩;obtain⟨o,e,d⟩:=T.obj _ _ yL b hb;exact(I7.pin (b,o) (nt _ (nt _ (EO hb e)))).2.1
  cases f with|next=>obtain⟨nQ,H7,I7,n7⟩:=q7;exact again I7 n7|cont=>obtain⟨nQ,H7,I7,n7⟩:=q7;exact again I7 n7|brk=>obtain⟨nQ,H7,I7,q7⟩:=q7;exact⟨nQ,H7,I7.fW,q7⟩|ret v=>obtain⟨x7,nQ,H7,I7,r7,q7⟩:=q7;exact⟨x7,nQ,H7,I7.fW,r7,q7⟩
end
noncomputable abbrev R2:=V->V->Hp->VK->Prop
noncomputable def dh(X:Cx)(f:aa->aa->Sem aa)(r:R2):Prop:=
 ∀(pins:List (ai×Obj))(s:ah)(σ:St)(H:Hp)(x y:V)(v u:aa)(Q:VK),Inv X pins σ H s->RelV x v->RelV y u->r x y H Q->
  wpAny (model X.prog X.w) X.A (f v u) (EP X pins σ Q) X.xe s
noncomputable def Hf(X:Cx)(f:aa->Sem aa)(r:V->Hp->VK->Prop):Prop:=
 ∀(pins:List (ai×Obj))(s:ah)(σ:St)(H:Hp)(x:V)(v:aa)(Q:VK),Inv X pins σ H s->RelV x v->r x H Q->
  wpAny (model X.prog X.w) X.A (f v) (EP X pins σ Q) X.xe s
noncomputable def dM(X:Cx)(f:aa)(r:List V->Hp->VK->Prop):Prop:=
 ∀(pins:List (ai×Obj))(s:ah)(σ:St)(H:Hp)(xs:List V)(us:List aa)(Q:VK),Inv X pins σ H s->Vals xs us->r xs H Q->
  wpAny (model X.prog X.w) X.A (call f us) (EP X pins σ Q) X.xe s
noncomputable def Hg(X:Cx)(r:V->Hp->(Bool->Hp->Prop)->Prop):Prop:=
 ∀(pins:List (ai×Obj))(s:ah)(σ:St)(H:Hp)(x:V)(v:aa)(Q:Bool->Hp->Prop),Inv X pins σ H s->RelV x v->r x H Q->
  wpAny (model X.prog X.w) X.A (truthy v) (TP X pins σ Q) X.xe s
noncomputable def ES(r:R2)(ta tb:TE):TE:=λσ H Q=>ta σ H λx H1=>tb σ H1 λy H2=>r x y H2 Q
noncomputable def Rl(r:V->Hp->VK->Prop)(ta:TE):TE:=λσ H Q=>ta σ H λx H1=>r x H1 Q
noncomputable def rI(C:Int->Int->Prop)(g:Int->Int->V):R2:=λx y H Q=>∃i j,x=.int i/\y=.int j/\C i j/\Q (g i j) H
noncomputable def mH(g:Int->Int->V):R2:=λx y H Q=>∃i j,x=.int i/\y=.int j/\Q (g i j) H
noncomputable def rU(g:Int->V):V->Hp->VK->Prop:=λx H Q=>∃i,x=.int i/\Q (g i) H
section
variable{X:Cx}{a b c:aq}{ta tb tc:TE}{pos:Pos}
theorem v5(ha:PE X a ta)(hb:PE X b tb){pins:List (ai×Obj)}{s:ah}{σ:St}{H:Hp}{R:V->V->Hp->Prop}(I:Inv X pins σ H s)
 (h:ta σ H λx H1=>tb σ H1 λy H2=>R x y H2) {Q:aa->ah->Prop} {f:aa->aa->Sem aa}
 (hf:∀v u s2 x y H2,Inv X pins σ H2 s2->RelV x v->RelV y u->R x y H2->wpAny (model X.prog X.w) X.A (f v u) Q X.xe s2) :
 wpAny (model X.prog X.w) X.A (eval a X.env) (λv s₁=>wpAny (model X.prog X.w) X.A (eval b X.env) (λu s₂=>wpAny (model X.prog X.w) X.A (f v u) Q X.xe s₂) X.xe s₁) X.xe s:=by
 refine aY (ha pins s σ H _ I h) λv s1 z9=>z9.el λx H1 I1 r1 q1=>?_;refine aY (hb pins s1 σ H1 _ I1 q1) λu s2 z9=>z9.el λy H2 I2 r2 q2=>?_;exact hf v u s2 x y H2 I2 r1 r2 q2
theorem nR{op:Operator}{r:R2}(ho:dh X (binaryOp op) r)(ha:PE X a ta)(hb:PE X b tb):PE X (.BinOp a op b pos) (ES r ta tb):=by intro pins s σ H Q I h;exact wpAny_BinOp (v5 ha hb I h λv u s2 x y H2 I2 rx ry q=>ho pins s2 σ H2 x y v u Q I2 rx ry q)
theorem Az{op:UnaryOp}{r:V->Hp->VK->Prop}(ho:Hf X (unaryOp op) r)(ha:PE X a ta):PE X (.UnaryOp op a pos) (Rl r ta):=by intro pins s σ H Q I h;exact UnaryOp_ (aY (ha pins s σ H _ I h) λv s1 z9=>z9.el λx H1 I1 r1 q1=>ho pins s1 σ H1 x v Q I1 r1 q1)
theorem eU{f:aa->aa->Sem aa}{C:Int->Int->Prop}{g:Int->Int->Int}
 (rule:∀(i j:Int)(t u:Tok)(s:ah)(Q:aa->ah->Prop)(E:aa->ah->Prop),C i j->Q (.int (g i j) s.toks) {s with toks:=s.toks+1}->wpAny (model X.prog X.w) X.A (f (.int i t) (.int j u)) Q E s) :
 dh X f (rI C λi j=>.int (g i j)):=by
 intro pins s σ H x y v u Q I rx ry h;obtain⟨i,j,rfl,rfl,hc,q⟩:=h;obtain⟨t,rfl⟩:=rx;obtain⟨t',rfl⟩:=ry;exact rule i j t t' s _ _ hc ⟨.int (g i j),H,I.tok _,⟨_,rfl⟩,q⟩
theorem AA{f:aa->aa->Sem aa}{g:Int->Int->Int}
 (rule:∀(i j:Int)(t u:Tok)(s:ah)(Q:aa->ah->Prop)(E:aa->ah->Prop),Q (.int (g i j) s.toks) {s with toks:=s.toks+1}->wpAny (model X.prog X.w) X.A (f (.int i t) (.int j u)) Q E s) :
 dh X f (mH λi j=>.int (g i j)):=by
 intro pins s σ H x y v u Q I rx ry h;obtain⟨i,j,rfl,rfl,q⟩:=h;obtain⟨t,rfl⟩:=rx;obtain⟨t',rfl⟩:=ry;exact rule i j t t' s _ _ ⟨.int (g i j),H,I.tok _,⟨_,rfl⟩,q⟩
theorem qZ{f:aa->aa->Sem aa}{g:Int->Int->Bool}
 (rule:∀(i j:Int)(t u:Tok)(s:ah)(Q:aa->ah->Prop)(E:aa->ah->Prop),Q (.bool (g i j)) s->wpAny (model X.prog X.w) X.A (f (.int i t) (.int j u)) Q E s) :
 dh X f (mH λi j=>.bl (g i j)):=by
 intro pins s σ H x y v u Q I rx ry h;obtain⟨i,j,rfl,rfl,q⟩:=h;obtain⟨t,rfl⟩:=rx;obtain⟨t',rfl⟩:=ry;exact rule i j t t' s _ _ ⟨.bl (g i j),H,I,rfl,q⟩
noncomputable def rj(i j:Int):Prop:=0<j/\j<1073741824
noncomputable def v9(i j:Int):Prop:=0<=j/\j<=1000000/\i.natAbs<2 ^ 64
noncomputable def mJ(i j:Int):Prop:=(-(2 ^ 64)<i/\i<2 ^ 64)\/(-(2 ^ 64)<j/\j<2 ^ 64)
theorem mJ.ok{i j:Int}(h:mJ i j):IntMulOk i j:=by rcases h with⟨h1,h2⟩|⟨h1,h2⟩;exact .of_left (intBits_le_64 h1 h2);exact .of_right (intBits_le_64 h1 h2)
theorem Rm:dh X (binaryOp .Add) (mH λi j=>.int (i+j)):=AA λ_ _ _ _ _ _ _ q=>add_int q
theorem Rn:dh X (binaryOp .Sub) (mH λi j=>.int (i-j)):=AA λ_ _ _ _ _ _ _ q=>sub_int q
theorem Ro:dh X (binaryOp .Mult) (rI mJ λi j=>.int (i*j)):=eU λ_ _ _ _ _ _ _ hc q=>mul_int q hc.ok
theorem Rq:dh X (binaryOp .FloorDiv) (rI rj λi j=>.int (i/j)):=eU λi j _ _ _ _ _ hc q=>by
 have h1:(0:Int)<j:=hc.1;have h2:j<1073741824:=hc.2;exact floordiv_int (by lia) (by rw[Int.fdiv_eq_ediv_of_nonneg i (by lia)];exact q) (.inl (PyProof.noPylong_small (by lia)))
theorem Rt:dh X (binaryOp .Mod) (rI (λ_ j=>0<j) λi j=>.int (i % j)):=eU λi j _ _ _ _ _ hc q=>by
 have h1:(0:Int)<j:=hc;exact mod_int' (by lia) (by rw[Int.fmod_eq_emod_of_nonneg i (by lia)];exact q)
theorem Ru:dh X (binaryOp .Pow) (rI v9 λi j=>.int (i ^ j.toNat)):=eU λ_ _ _ _ _ _ _ hc q=>pow_int_small hc.1 hc.2.1 hc.2.2 q
theorem Rv:dh X (inplaceOp .Mult) (rI mJ λi j=>.int (i*j)):=eU λ_ _ _ _ _ _ _ hc q=>imul_int q hc.ok
theorem Rw:dh X (inplaceOp .FloorDiv) (rI rj λi j=>.int (i/j)):=eU λi j _ _ _ _ _ hc q=>by
 have h1:(0:Int)<j:=hc.1;have h2:j<1073741824:=hc.2;exact ifloordiv_int (by lia) (by rw[Int.fdiv_eq_ediv_of_nonneg i (by lia)];exact q) (.inl (PyProof.noPylong_small (by lia)))
theorem Ry{f:aa->Sem aa}{g:Int->Int}
 (rule:∀(i:Int)(t:Tok)(s:ah)(Q:aa->ah->Prop)(E:aa->ah->Prop),Q (.int (g i) s.toks) {s with toks:=s.toks+1}->wpAny (model X.prog X.w) X.A (f (.int i t)) Q E s) :
 Hf X f (rU λi=>.int (g i)):=by
 intro pins s σ H x v Q I rx h;obtain⟨i,rfl,q⟩:=h;obtain⟨t,rfl⟩:=rx;exact rule i t s _ _ ⟨.int (g i),H,I.tok _,⟨_,rfl⟩,q⟩
theorem Rz:Hf X (unaryOp .USub) (rU λi=>.int (-i)):=Ry λ_ _ _ _ _ q=>neg_int q
end
noncomputable def AB:V->V->Bool|.aN,.aN=>true|.aN,.int _=>true|.int _,.aN=>true|.aN,.bl _=>true|.bl _,.aN=>true|.aN,.str _=>true|.str _,.aN=>true|.int _,.int _=>true|.bl _,.bl _=>true|.str _,.str _=>true|.mF _,.mF _=>true|.int _,.str _=>true|.str _,.int _=>true|.bl _,.str _=>true|.str _,.bl _=>true|_,_=>false
noncomputable def RA:R2:=λx y H Q=>AB x y=true/\Q (.bl (decide (x=y))) H
noncomputable def RB:R2:=λx y H Q=>AB x y=true/\Q (.bl (!decide (x=y))) H
theorem LM{i j:Int}:decide (V.int i=V.int j)=(i==j):=by rw[Eb];simp
theorem LN{i j:Bool}:decide (V.bl i=V.bl j)=(i==j):=by rw[Eb];simp
theorem LO{i j:Str}:decide (V.str i=V.str j)=(i==j):=by rw[Eb];simp
theorem LP{i j:Array UInt8}:decide (V.mF i=V.mF j)=(i.toList==j.toList):=by rw[Eb];cases i;cases j;simp
section
variable{X:Cx}{a b c:aq}{ta tb tc:TE}{pos:Pos}
theorem fq{pins:List (ai×Obj)}{σ:St}{H:Hp}{s:ah}{Q:VK}{k k':Bool}(I:Inv X pins σ H s)(q:Q (.bl k) H)(e:k=k'):EP X pins σ Q (.bool k') s:=by subst e;exact⟨.bl k,H,I,rfl,q⟩
theorem AD:dh X (compareOp .Eq) RA:=by
 intro pins s σ H x y v u Q I rx ry h;obtain⟨hs,q⟩:=h;cases x with
 |aN=>
  cases rx;cases y with|aN=>cases ry;exact PySem.EqNone.eq_none_none (fq I q (by simp))|bl j=>cases ry;exact PySem.EqNone.eq_none_bool (fq I q (by simp))|int j=>obtain⟨t',rfl⟩:=ry;exact PySem.EqNone.eq_none_int (fq I q (by simp))|str j=>obtain⟨t',rfl⟩:=ry;exact PySem.EqNone.eq_none_str (fq I q (by simp))|_=>exact absurd (show false=true from hs) ic
 |bl i=>
  cases rx;cases y with|aN=>cases ry;exact PySem.EqNone.eq_bool_none (fq I q (by simp))|bl j=>cases ry;exact eq_bool (fq I q LN)|str j=>obtain⟨t',rfl⟩:=ry;exact PySem.EqMixed.eq_bool_str (fq I q (by simp))|_=>exact absurd (show false=true from hs) ic
 |int i=>
  obtain⟨t,rfl⟩:=rx;cases y with|aN=>cases ry;exact PySem.EqNone.eq_int_none (fq I q (by simp))|int j=>obtain⟨t',rfl⟩:=ry;exact eq_int (fq I q LM)|str j=>obtain⟨t',rfl⟩:=ry;exact PySem.EqMixed.eq_int_str (fq I q (by simp))|_=>exact absurd (show false=true from hs) ic
 |str i=>
  obtain⟨t,rfl⟩:=rx;cases y with|aN=>cases ry;exact PySem.EqNone.eq_str_none (fq I q (by simp))|bl j=>cases ry;exact PySem.EqMixed.eq_str_bool (fq I q (by simp))|int j=>obtain⟨t',rfl⟩:=ry;exact PySem.EqMixed.eq_str_int (fq I q (by simp))|str j=>obtain⟨t',rfl⟩:=ry;exact eq_str (fq I q LO)|_=>exact absurd (show false=true from hs) ic
 |mF i=>
  obtain⟨t,rfl⟩:=rx;cases y with|mF j=>obtain⟨t',rfl⟩:=ry;exact PySem.W.eq_bytes (fq I q LP)|_=>exact absurd (show false=true from hs) ic
 |_=>cases y<;>exact absurd (show false=true from hs) ic
theorem AE:dh X (compareOp .NotEq) RB:=by
 intro pins s σ H x y v u Q I rx ry h;obtain⟨hs,q⟩:=h;cases x with
 |aN=>
  cases rx;cases y with|aN=>cases ry;exact PySem.EqNone.ne_none_none (fq I q (by simp))|bl j=>cases ry;exact PySem.EqNone.ne_none_bool (fq I q (by simp))|int j=>obtain⟨t',rfl⟩:=ry;exact PySem.EqNone.ne_none_int (fq I q (by simp))|str j=>obtain⟨t',rfl⟩:=ry;exact PySem.EqNone.ne_none_str (fq I q (by simp))|_=>exact absurd (show false=true from hs) ic
 |bl i=>
  cases rx;cases y with|aN=>cases ry;exact PySem.EqNone.ne_bool_none (fq I q (by simp))|bl j=>cases ry;exact ne_bool (fq I q (nk not LN))|str j=>obtain⟨t',rfl⟩:=ry;exact PySem.EqMixed.ne_bool_str (fq I q (by simp))|_=>exact absurd (show false=true from hs) ic
 |int i=>
  obtain⟨t,rfl⟩:=rx;cases y with|aN=>cases ry;exact PySem.EqNone.ne_int_none (fq I q (by simp))|int j=>obtain⟨t',rfl⟩:=ry;exact ne_int (fq I q (nk not LM))|str j=>obtain⟨t',rfl⟩:=ry;exact PySem.EqMixed.ne_int_str (fq I q (by simp))|_=>exact absurd (show false=true from hs) ic
 |str i=>
  obtain⟨t,rfl⟩:=rx;cases y with|aN=>cases ry;exact PySem.EqNone.ne_str_none (fq I q (by simp))|bl j=>cases ry;exact PySem.EqMixed.ne_str_bool (fq I q (by simp))|int j=>obtain⟨t',rfl⟩:=ry;exact PySem.EqMixed.ne_str_int (fq I q (by simp))|str j=>obtain⟨t',rfl⟩:=ry;exact ne_str (fq I q (nk not LO))|_=>exact absurd (show false=true from hs) ic
 |mF i=>
  obtain⟨t,rfl⟩:=rx;cases y with|mF j=>obtain⟨t',rfl⟩:=ry;exact PySem.W.ne_bytes (fq I q (nk not LP))|_=>exact absurd (show false=true from hs) ic
 |_=>cases y<;>exact absurd (show false=true from hs) ic
theorem AG:dh X (compareOp .Lt) (mH λi j=>.bl (decide (i<j))):=qZ λ_ _ _ _ _ _ _ q=>lt_int q
theorem AH:dh X (compareOp .LtE) (mH λi j=>.bl (decide (i<=j))):=qZ λ_ _ _ _ _ _ _ q=>le_int q
theorem AI:dh X (compareOp .Gt) (mH λi j=>.bl (decide (j<i))):=qZ λ_ _ _ _ _ _ _ q=>gt_int q
theorem AJ:dh X (compareOp .GtE) (mH λi j=>.bl (decide (j<=i))):=qZ λ_ _ _ _ _ _ _ q=>ge_int q
theorem RC:dh X (compareOp .Is) (λx y H Q=>y=.aN/\Q (.bl (decide (x=.aN))) H):=by
 intro pins s σ H x y v u Q I rx ry h;obtain⟨rfl,q⟩:=h;cases ry;refine is_none_gen (fq I q ?_);cases x<;>first
  |(cases rx;rfl)
  |(obtain⟨t,rfl⟩:=rx;rfl)
theorem RD:dh X (compareOp .IsNot) (λx y H Q=>y=.aN/\Q (.bl (!decide (x=.aN))) H):=by
 intro pins s σ H x y v u Q I rx ry h;obtain⟨rfl,q⟩:=h;cases ry;refine isnot_none_gen (fq I q ?_);cases x<;>first
  |(cases rx;rfl)
  |(obtain⟨t,rfl⟩:=rx;rfl)
theorem dh.or{f:aa->aa->Sem aa}{r r':R2}(h:dh X f r)(h':dh X f r'):dh X f (λx y H Q=>r x y H Q\/r' x y H Q):=by
 intro pins s σ H x y v u Q I rx ry q;rcases q with q|q
 exact h pins s σ H x y v u Q I rx ry q;exact h' pins s σ H x y v u Q I rx ry q
theorem LQ{op:CmpOp}{r:R2}(ho:dh X (compareOp op) r)(ha:PE X a ta)(hb:PE X b tb)(hm:behindInMarks op b=false):PE X (.Compare a [op] [b] pos) (ES r ta tb):=by intro pins s σ H Q I h;exact wpAny_Compare1 (v5 ha hb I h λv u s2 x y H2 I2 rx ry q=>ho pins s2 σ H2 x y v u Q I2 rx ry q) hm
noncomputable def uf(t:TE):TT:=λσ H Q=>t σ H λx H'=>∃k,x=.bl k/\Q k H'
theorem LR{op:CmpOp}{r:R2}(ho:dh X (compareOp op) r)(ha:PE X a ta)(hb:PE X b tb)(hm:behindInMarks op b=false):PT X (.Compare a [op] [b] pos) (uf (ES r ta tb)):=by
 intro pins s σ H Q I h;refine wpAny_isTrue_Compare1 (aY (ha pins s σ H _ I h) λv s1 z9=>z9.el λx H1 I1 r1 q1=>aY (hb pins s1 σ H1 _ I1 q1) λu s2 z9=>z9.el λy H2 I2 r2 q2=>
  aY (ho pins s2 σ H2 x y v u _ I2 r1 r2 q2) λc s3 z9=>z9.el λz H3 I3 r3 ⟨k,e,q3⟩=>?_) hm
 subst e;cases r3;exact qA ⟨H3,I3,q3⟩
noncomputable def Hh(r r':R2)(ta tb tc:TE):TE:=λσ H Q=>ta σ H λx H1=>tb σ H1 λy H2=>r x y H2 λz H3=>∃k,z=.bl k/\
 (if k=true then tc σ H3 λw' H4=>r' y w' H4 Q else Q (.bl false) H3)
theorem RE{op op':CmpOp}{r r':R2}(ho:dh X (compareOp op) r)(ho':dh X (compareOp op') r')(ha:PE X a ta)(hb:PE X b tb)(hc:PE X c tc)
 (hm:lastMarks [op,op'] [b,c]=false:=by with_unfolding_all rfl):PE X (.Compare a [op,op'] [b,c] pos) (Hh r r' ta tb tc):=by
 intro pins s σ H Q I h;refine Compare_chain (aY (ha pins s σ H _ I h) λv s1 z9=>z9.el λx H1 I1 r1 q1=>chain_link (aY (hb pins s1 σ H1 _ I1 q1) λu s2 z9=>z9.el λy H2 I2 r2 q2=>
  aY (ho pins s2 σ H2 x y v u _ I2 r1 r2 q2) λd s3 z9=>z9.el λz H3 I3 r3 ⟨k,e,q3⟩=>?_)) hm
 subst e;cases r3;refine qA ?_;cases k with|false=>exact ite_ff ⟨.bl false,H3,I3,rfl,q3⟩|true=>exact ite_tt (chain_last (aY (hc pins s3 σ H3 _ I3 q3) λw' s4 z9=>z9.el λz' H4 I4 r4 q4=>ho' pins s4 σ H4 y z' u w' Q I4 r2 r4 q4))
theorem RG{op op':CmpOp}{r r':R2}(ho:dh X (compareOp op) r)(ho':dh X (compareOp op') r')(ha:PE X a ta)(hb:PE X b tb)(hc:PE X c tc)
 (hm:lastMarks [op,op'] [b,c]=false:=by with_unfolding_all rfl):PT X (.Compare a [op,op'] [b,c] pos) (uf (Hh r r' ta tb tc)):=by
 intro pins s σ H Q I h;refine isTrue_chain (aY (ha pins s σ H _ I h) λv s1 z9=>z9.el λx H1 I1 r1 q1=>test_link (aY (hb pins s1 σ H1 _ I1 q1) λu s2 z9=>z9.el λy H2 I2 r2 q2=>
  aY (ho pins s2 σ H2 x y v u _ I2 r1 r2 q2) λd s3 z9=>z9.el λz H3 I3 r3 ⟨k,e,q3⟩=>?_)) hm
 subst e;cases r3;refine qA ?_;cases k with
 |false=>
  obtain⟨k',e',q'⟩:=q3;cases e';exact ite_ff ⟨H3,I3,q'⟩
 |true=>
  refine ite_tt (test_last (aY (hc pins s3 σ H3 _ I3 q3) λw' s4 z9=>z9.el λz' H4 I4 r4 q4=>aY (ho' pins s4 σ H4 y z' u w' _ I4 r2 r4 q4) λd' s5 z9=>z9.el λz2 H5 I5 r5 di=>?_));obtain⟨k2,e2,q5⟩:=di;subst e2;cases r5;exact qA ⟨H5,I5,q5⟩
noncomputable def wc(K:aI)(x:V)(H:Hp)(k:Bool):Prop:=
 match x with|.aN=>k=false|.bl b=>k=b|.int i=>k=(i != 0)|.str y=>y.length<=sizeLine/\k=((y.length:Int) != 0)|.mF y=>y.size<=sizeLine/\k=((y.size:Int) != 0)|.ref p=>(∃xs,cN K H p xs/\k=!xs.isEmpty)\/(∃xs,cH K H p xs/\k=!xs.isEmpty)\/∃kvs,H p=aC (.dK kvs)/\k=!kvs.isEmpty|_=>False
theorem RH{κ:Type}{kvs:List (κ×V)}{vs:List (κ×aa)}(r:KV kvs vs):(!vs.isEmpty)=!kvs.isEmpty:=by cases r<;>rfl
theorem LS{xs:List V}{its:List aa}(r:Vals xs its):(!its.toArray.isEmpty)=!xs.isEmpty:=by cases r<;>simp
theorem AK:(sizeLine:Nat)<2 ^ 63:=by rw[zN];decide
theorem RI:Hg X (λx H Q=>∃k,wc X.K x H k/\Q k H):=by
 intro pins s σ H x v Q I rx h;obtain⟨k,e,q⟩:=h;have hl:=AK;have hs:sizeLine=16777216:=zN;cases x with
 |aN=>
  cases rx;have e':k=false:=e;subst e';exact truthy_none ⟨H,I,q⟩
 |bl b=>
  cases rx;have e':k=b:=e;subst e';exact qA ⟨H,I,q⟩
 |int i=>
  obtain⟨t,rfl⟩:=rx;have e':k=(i != 0):=e;subst e';exact PySem.P.truthy_int ⟨H,I,q⟩
 |str y=>
  obtain⟨t,rfl⟩:=rx;obtain⟨hy,e'⟩:y.length<=sizeLine/\k=((y.length:Int) != 0):=e;subst e';exact PySem.P.truthy_str (by lia) ⟨H,I.tok _,q⟩
 |mF y=>
  obtain⟨t,rfl⟩:=rx;obtain⟨hy,e'⟩:y.size<=sizeLine/\k=((y.size:Int) != 0):=e;subst e';exact PySem.W.truthy_bytes (by lia) ⟨H,I.tok _,q⟩
 |ref p=>
  cases rx;have e':(∃xs,cN X.K H p xs/\k=!xs.isEmpty)\/(∃xs,cH X.K H p xs/\k=!xs.isEmpty)\/∃kvs,H p=aC (.dK kvs)/\k=!kvs.isEmpty:=e;rcases e' with⟨xs,hx,e'⟩|⟨xs,hx,e'⟩|⟨kvs,hx,e'⟩
  subst e';obtain⟨its,r,pl,hz⟩:=I.list hx;have hlen:=r.length;exact wpAny_truthy_list pl.isList (by simp only[dR];lia) ⟨H,I.tok _,by rw[LS r];exact q⟩;subst e';obtain⟨its,r,pl,hz⟩:=I.tuple hx;have hlen:=r.length;exact truthy_tuple pl (by simp only[dR];lia) ⟨H,I.tok _,by rw[LS r];exact q⟩;subst e';obtain⟨hz,hS,vs,r,m⟩:kvs.length<=sizeLine/\(p==sysModules)=false/\∃vs,KV kvs vs/\s.heap.DictOf (kH X.prog X.w) p vs:=I.hok p _ hx;have hlen:kvs.length=vs.length:=Paired.length r;exact wpAny_truthy_dict hS m (by lia) ⟨H,I.tok _,by rw[RH r];exact q⟩
 |_=>exact(show False from e).elim
theorem RJ(ha:PE X a ta)(he:∀whole,isTrue a X.env whole=(do let v <-whole;standAt a.pos;holding [v] (truthy v))) :
 PT X a (λσ H Q=>ta σ H λx H'=>∃k,wc X.K x H' k/\Q k H'):=by
 intro pins s σ H Q I h;exact isTrue_plain (aY (ha pins s σ H _ I h) λv s1 z9=>z9.el λx H1 I1 r1 q1=>RI pins s1 σ H1 x v Q I1 r1 q1) (he _)
theorem vals1{x:V}{us:List aa}(r:Vals [x] us):∃u,us=[u]/\RelV x u:=by
 cases r with|cons r1 r2=>cases r2;exact⟨_,rfl,r1⟩
theorem vals2{x y:V}{us:List aa}(r:Vals [x,y] us):∃u w',us=[u,w']/\RelV x u/\RelV y w':=by
 cases r with
 |cons r1 r2=>
  cases r2 with|cons r3 r4=>cases r4;exact⟨_,_,rfl,r1,r3⟩
theorem RK:dM X (.builtin "abs") (λxs H Q=>∃i,xs=[.int i]/\Q (.int (if i<0 then -i else i)) H):=by intro pins s σ H xs us Q I r h;obtain⟨i,rfl,q⟩:=h;obtain⟨u,rfl,t,rfl⟩:=vals1 r;exact call_abs_int λu tk=>⟨.int (if i<0 then -i else i),H,I.tok _,⟨_,rfl⟩,q⟩
theorem RL(hc:X.calm):dM X (.builtin "max") (λxs H Q=>∃i j,xs=[.int i,.int j]/\Q (.int (if j>i then j else i)) H):=by
 intro pins s σ H xs us Q I r h;obtain⟨i,j,rfl,q⟩:=h;obtain⟨u,w',rfl,⟨t,rfl⟩,⟨t',rfl⟩⟩:=vals2 r;refine max_two_ints (I.ok.hd hc) λh' tk k=>⟨_,H,I.kept k,?_,q⟩
 by_cases hj:j>i;rw[if_pos hj,if_pos hj];exact⟨_,rfl⟩;rw[if_neg hj,if_neg hj];exact⟨_,rfl⟩
theorem RM(hc:X.calm):dM X (.builtin "min") (λxs H Q=>∃i j,xs=[.int i,.int j]/\Q (.int (if j<i then j else i)) H):=by
 intro pins s σ H xs us Q I r h;obtain⟨i,j,rfl,q⟩:=h;obtain⟨u,w',rfl,⟨t,rfl⟩,⟨t',rfl⟩⟩:=vals2 r;refine min_two_ints (I.ok.hd hc) λh' tk k=>⟨_,H,I.kept k,?_,q⟩
 by_cases hj:j<i;rw[if_pos hj,if_pos hj];exact⟨_,rfl⟩;rw[if_neg hj,if_neg hj];exact⟨_,rfl⟩
theorem RN:dM X (.type "int") (λxs H Q=>(∃i,xs=[.int i]/\Q (.int i) H)\/∃k,xs=[.bl k]/\Q (.int (if k then 1 else 0)) H):=by
 intro pins s σ H xs us Q I r h;rcases h with⟨i,rfl,q⟩|⟨k,rfl,q⟩
 obtain⟨u,rfl,t,rfl⟩:=vals1 r;exact call_int_int ⟨.int i,H,I,⟨_,rfl⟩,q⟩;obtain⟨u,rfl,r1⟩:=vals1 r;cases r1;exact call_int_bool ⟨.int (if k then 1 else 0),H,I.tok _,⟨_,rfl⟩,q⟩
end
structure we(h:aA)(x dx C:ai)(mA:Str->Option aa):Prop where
 obj:h.get? x=aC (PySem.W.instObj C dx)
 ns:h.Ns1 dx mA
 ne:dx≠x
theorem Hi{h:aA}{dx:ai}{mA:Str->Option aa}(n:h.Ns1 dx mA):∃od,h.get? dx=aC od/\∀name,PySem.W.lookIn name od=aC (mA name):=by
 obtain⟨o,es,ep,ho,hd,hk,_,hm⟩:=n;refine⟨o,ho,λname=>?_⟩;have e:=hm name;unfold nsFind findBy at e;rw[<-Array.find?_toList]at e;unfold PySem.W.lookIn;rw[hd];dsimp only;split;rename_i y q;rw[q]at e;exact nk aC e;rename_i q;rw[q]at e;have a:es.toList.any (·.refKey)=false:=by rw[List.any_eq_false];intro y hy;obtain⟨z,t,hkey⟩:=hk y (Array.mem_toList_iff.mp hy);simp[DictEntry.refKey,hkey]
 have a':¬es.toList.any (·.refKey)=true:=by rw[a];exact ic
 rw[if_neg a'];exact nk aC e
theorem we.look{h:aA}{x dx C:ai}{mA:Str->Option aa}(I:we h x dx C mA):∃od,PySem.W.InstAt h x (PySem.W.instObj C dx) C (aC od)/\∀name,PySem.W.lookIn name od=aC (mA name):=
 let⟨od,ho,hl⟩:=Hi I.ns
 ⟨od,⟨I.obj,rfl,rfl,ho⟩,hl⟩
noncomputable def fN(f:Str)(v:V):List (Str×V)->List (Str×V)|[]=>[(f,v)]|(g,x)::r=>if g=f then(g,v)::r else(g,x)::fN f v r
theorem LU(f g:Str)(v:V):∀fs:List (Str×V),(fN f v fs).lookup g=if g=f then aC v else fs.lookup g
 |[]=>by
  show List.lookup g [(f,v)]=_;by_cases h:g=f;have hb:(g==f)=true:=i6.mpr h;simp only[List.lookup,hb,if_pos h];have hb:(g==f)=false:=vC.mpr h;simp only[List.lookup,hb,if_neg h]
 |(k,x)::r=>by
  have ih:=LU f g v r;rw[show fN f v ((k,x)::r)=(if k=f then(k,v)::r else(k,x)::fN f v r)from rfl];by_cases hk:k=f;rw[if_pos hk];by_cases h:g=k;have hb:(g==k)=true:=i6.mpr h;simp only[List.lookup,hb,if_pos (h.trans hk)];have hb:(g==k)=false:=vC.mpr h;simp only[List.lookup,hb,if_neg (λe:g=f=>h (e.trans hk.symm))];rw[if_neg hk];by_cases h:g=k;have hb:(g==k)=true:=i6.mpr h;simp only[List.lookup,hb,if_neg (λe:g=f=>hk (h.symm.trans e))];have hb:(g==k)=false:=vC.mpr h;simp only[List.lookup,hb];exact ih
theorem Hj(f:Str)(v:V):∀fs:List (Str×V),f∈(fN f v fs).map (·.1)/\∀g,g∈fs.map (·.1)->g∈(fN f v fs).map (·.1)
 |[]=>⟨by simp[fN],λg h=>by simp at h⟩
 |(k,x)::r=>by
  obtain⟨i1,i2⟩:=Hj f v r;rw[show fN f v ((k,x)::r)=(if k=f then(k,v)::r else(k,x)::fN f v r)from rfl];by_cases hk:k=f;rw[if_pos hk];subst hk;exact⟨by simp,λg h=>by simpa using h⟩;rw[if_neg hk];refine⟨?_,λg h=>?_⟩;rw[eS];exact eH _ i1;rw[eS]at h ⊢;rcases iQ.mp h with e|e;exact iQ.mpr (.inl e);exact eH _ (i2 g e)
theorem LV(f:Str)(v:V):∀fs:List (Str×V),(fN f v fs).length<=fs.length+1
 |[]=>by simp[fN]
 |(k,x)::r=>by
  have ih:=LV f v r;rw[show fN f v ((k,x)::r)=(if k=f then(k,v)::r else(k,x)::fN f v r)from rfl];by_cases hk:k=f;rw[if_pos hk,eK,eK];lia;rw[if_neg hk,eK,eK];lia
theorem fT.some_of{v:V}{o:Option aa}(r:fT (aC v) o):∃u,o=aC u/\RelV v u:=by
 cases o with|none=>exact(show False from r).elim|some u=>exact⟨u,rfl,r⟩
section
variable{P:aj}{w:ak}{H H':Hp}{h h':aA}{a C dx:ai}{fs fs':List (Str×V)}
theorem RO(hok:dS P w H h)(e:H a=aC (.ins C dx fs)):∃mA,we h a dx C mA/\(∀f,fT (fs.lookup f) (mA f))/\PySem.Within mA (fs.map (·.1))/\fs.length<=1000/\H dx=aC (.own a):=by
 obtain⟨d,z,ne,ob,mA,n,r,q⟩:=(show bf P w H h a (.ins C dx fs)from hok a _ e)
 exact⟨mA,⟨ob,n,ne⟩,r,q,z,d⟩
end
structure Hl(K:aI)(C:ai):Prop where
 pg:PySem.W.plainGet K C Str.empty=true
 hd:PySem.W.hasDictIn K C=true
 po:PySem.W.plainOver K C=true
 sa:PySem.W.findIn K (.ref C) "__setattr__" = aC (aC (.builtin "object.__setattr__"))
theorem Hl.get{K:aI}{C:ai}(c:Hl K C)(f:Str):PySem.W.plainGet K C f=true:=c.pg
noncomputable def LW(K:aI)(C:ai)(f:Str):Prop:=PySem.W.findIn K (.ref C) f=aC aD
section
variable{X:Cx}{pins:List (ai×Obj)}{σ:St}{H:Hp}{s:ah}{A:ao}{E:aa->ah->Prop}{Q:aa->ah->Prop}{c:aa}{b:Bool}
inductive fX(K:aI)(H:Hp):V->aa->Prop where
 |aN:fX K H .aN (.type "NoneType")
 |bl (x:Bool):fX K H (.bl x) (.type "bool")
 |int (i:Int):fX K H (.int i) (.type "int")
 |str (x:Str):fX K H (.str x) (.type "str")
 |yD (x:UInt64):fX K H (.yD x) (.type "float")
 |lst {a:ai} {xs:List V} (e:H a=aC (.lst xs)):fX K H (.ref a) (.type "list")
 |cG {a:ai} {o:Obj} {xs:List V} (e:H a=aC (.cG o (.lst xs))):fX K H (.ref a) (.type "list")
 |tup {a:ai} {xs:List V} (e:H a=aC (.tup xs)):fX K H (.ref a) (.type "tuple")
 |dK {a:ai} {kvs:List (Key×V)} (e:H a=aC (.dK kvs)):fX K H (.ref a) (.type "dict")
 |dT {a:ai} {kvs:List (List Key×V)} (e:H a=aC (.dT kvs)):fX K H (.ref a) (.type "dict")
 |ins {a C dx:ai} {fs:List (Str×V)} (e:H a=aC (.ins C dx fs)) (cl:Hl K C) (ha:PySem.W.findIn K (.ref C) "__class__" = aC (aC (.builtin "object.__class__")))
   (hn:PySem.W.specialIn K (.builtin "object.__class__") "__get__" = aC (aC (.builtin "getset_descriptor.__get__"))) (htk:PySem.W.takesIn K (.builtin "object.__class__")=aC true)
   (hm:PySem.W.mroIn K C (.type "object")=aC true):fX K H (.ref a) (.ref C)
theorem RP{x:V}{u t:aa}(I:Inv X pins σ H s)(rx:RelV x u)(ty:fX X.K H x t)(e:PySem.W.kitOne X.K t c=aC b)(h:∀tk,Q (.bool b) {s with toks:=tk}) :
 wpAny (model X.prog X.w) A (call (.builtin "isinstance") [u,c]) Q E s:=by
 cases ty with
 |aN=>cases(show u=Value.none from rx);exact lu PySem.W.kitx_none I.eF True.intro e (λz=>nomatch z) h
 |bl y=>cases(show u=Value.bool y from rx);exact lu PySem.W.kitx_bool I.eF True.intro e (λz=>nomatch z) h
 |int i=>obtain⟨t,q⟩:=(show ∃t,u=Value.int i t from rx);cases q;exact lu PySem.W.kitx_int I.eF True.intro e (λz=>nomatch z) h
 |str y=>obtain⟨t,q⟩:=(show ∃t,u=Value.str y t from rx);cases q;exact lu PySem.W.kitx_str I.eF True.intro e (λz=>nomatch z) h
 |yD y=>obtain⟨t,q⟩:=(show ∃t,u=Value.float y t from rx);cases q;exact lu PySem.W.kitx_float I.eF True.intro e (λz=>nomatch z) h
 | @lst a xs ea=>
  cases(show u=Value.ref a from rx);obtain⟨_,_,n,_,h1⟩:=(show bf X.prog X.w H s.heap a (.lst xs)from I.hok a _ ea)
  exact lu PySem.W.kitx_list I.eF ⟨_,h1,rfl⟩ e (λz=>nomatch z) h
 | @cG a ob xs ea=>
  cases(show u=Value.ref a from rx);obtain⟨_,_,_,n,_,h1⟩:=(show bf X.prog X.w H s.heap a (.cG ob (.lst xs))from I.hok a _ ea)
  exact lu PySem.W.kitx_list I.eF ⟨_,h1,rfl⟩ e (λz=>nomatch z) h
 | @tup a xs ea=>
  cases(show u=Value.ref a from rx);obtain⟨_,_,_,p⟩:=(show bf X.prog X.w H s.heap a (.tup xs)from I.hok a _ ea)
  obtain⟨o,h1,h2,_⟩:=p;exact lu PySem.W.kitx_tuple I.eF ⟨o,h1,h2⟩ e (λz=>nomatch z) h
 | @dK a kvs ea=>
  cases(show u=Value.ref a from rx);obtain⟨_,_,vs,_,p⟩:=(show bf X.prog X.w H s.heap a (.dK kvs)from I.hok a _ ea)
  obtain⟨o,es,ep,h1,h2,_⟩:=p;exact lu PySem.W.kitx_dict I.eF ⟨o,h1,h2.1⟩ e (λz=>nomatch z) h
 | @dT a kvs ea=>
  cases(show u=Value.ref a from rx);obtain⟨_,_,xs,_,o,es,ep,h1,h2,_⟩:=(show bf X.prog X.w H s.heap a (.dT kvs)from I.hok a _ ea)
  exact lu PySem.W.kitx_dict I.eF ⟨o,h1,h2.1⟩ e (λz=>nomatch z) h
 | @ins a C dx fs ea cl ha hn htk hm=>
  cases(show u=Value.ref a from rx);obtain⟨mA,O,_⟩:=RO I.hok ea;obtain⟨od,J,_⟩:=O.look;exact lu (PySem.W.kitx_own (cl.get _) cl.hd ha hn htk hm) I.eF J e (λz=>nomatch z) h
end
structure bS(k:Nat)(A:ao):Prop where
 hd:A.handled=aD
 dp:A.depth+3*k+5<recursionLimit
 un:A.units+16*k+200<cLine
theorem bS.deeper{k:Nat}{A:ao}(r:bS (k+1) A)(env:Env):bS k (A.deeper env):=
 ⟨r.hd,by have:=r.dp;show A.depth+1+3*k+5<_;lia,by have:=r.un;show A.units+3+16*k+200<_;lia⟩
theorem RQ{A:ao}{C:ai}{us:List aa}{kw:List (Str×aa)}:(A.under (.builtin "type.__call__" ⟨.ref C::us,kw⟩)).depth=A.depth+1:=by first|rfl|simp[Around.under,Code.weight,Code.isCreation,Code.isGuard,Code.isCaller,Code.frames,Code.isFrame,guardIds]
theorem RS{A:ao}{C:ai}{us:List aa}{kw:List (Str×aa)}:(A.under (.builtin "type.__call__" ⟨.ref C::us,kw⟩)).units=A.units+1:=by first|rfl|simp[Around.under,Code.cUnits,Code.frames,Code.isFrame]
theorem bS.depth{k:Nat}{A:ao}(r:bS k A):A.depth<recursionLimit:=by have:=r.dp;lia
theorem bS.units{k:Nat}{A:ao}(r:bS k A):A.units+64<cLine:=by have:=r.un;lia
noncomputable def AL:TA:=λ_ H Q=>Q [] H
noncomputable def AM(ta:TE)(tr:TA):TA:=λσ H Q=>ta σ H λx H1=>tr σ H1 λxs H2=>Q (x::xs) H2
section
variable{X:Cx}{e:aq}{es:List aq}{te:TE}{t:TA}{pos:Pos}
theorem pZ:PA X [] AL:=λ_ _ _ _ H Q I h=>Calls.spliced_nil ⟨[],H,I,.nil,h⟩
theorem nA(ha:PE X e te)(hr:PA X es t)(hs:autoParam (starEach (e::es) X.env=(false,eval e X.env)::starEach es X.env) L2.aR1._auto_1):PA X (e::es) (AM te t):=by intro pos pins s σ H Q I h;rw[hs];show wpAny _ _ (spliced ((false,eval e X.env)::backTo pos (starEach es X.env))) _ _ s;refine Calls.spliced_cons (aY (ha pins s σ H _ I h) λu s1 z9=>z9.el λx H1 I1 r1 q1=>?_);exact aY (hr pos pins s1 σ H1 _ I1 q1) λus s2 z9=>z9.el λxs H2 I2 r2 q2=>⟨x::xs,H2,I2,.cons r1 r2,q2⟩
noncomputable def Ho(t:TA):TE:=λσ H Q=>t σ H λxs H1=>xs.length<=sizeLine/\∀p,H1 p=aD->Q (.ref p) (upd H1 p (.tup xs))
noncomputable def Hq(t:TA):TE:=λσ H Q=>t σ H λxs H1=>xs.length<=sizeLine/\∀p,H1 p=aD->Q (.ref p) (upd H1 p (.lst xs))
theorem RT{x1}(h:PA X es t):PE X (.Tuple es x1 pos) (Ho t):=by intro pins s σ H Q I hq;refine wpAny_Tuple_spliced (aY (h pos pins s σ H _ I hq) λus s1 z9=>z9.el λxs H1 I1 r ⟨z,q⟩=>⟨by rw[<-r.length];exact z,?_⟩);have hf:H1 s1.heap.objs.size=aD:=I1.hok.fresh (aZ _);refine⟨.ref s1.heap.objs.size,upd H1 s1.heap.objs.size (.tup xs),I1.laid (t':=s1.toks) (λb u e=>cC _ e) (aZ _) ?_,rfl,q _ hf⟩;exact⟨z,us,r,ly.new _ _⟩
theorem Hr(h:PA X es t):PE X (.List es pos) (Hq t):=by intro pins s σ H Q I hq;refine wpAny_List_spliced (aY (h pos pins s σ H _ I hq) λus s1 z9=>z9.el λxs H1 I1 r ⟨z,q⟩=>⟨by rw[<-r.length];exact z,?_⟩);have hf:H1 s1.heap.objs.size=aD:=I1.hok.fresh (aZ _);refine⟨.ref s1.heap.objs.size,upd H1 s1.heap.objs.size (.lst xs),I1.laid (t':=s1.toks) (λb u e=>cC _ e) (aZ _) ?_,rfl,q _ hf⟩;exact⟨z,us,0,r,ji _ rfl⟩
end
noncomputable abbrev Sp:=List V->Hp->VK->XK->Prop
noncomputable abbrev lB:=List Env->Hp->ah->XK->aa->ah->Prop
structure jQ(P:aj)(w:ak)(K:aI)(mg:Str->Option aa)(base:aA)(A:ao)(outer:List Env)(s:ah)(H:Hp):Prop where
 frames:A.frames=aC outer
 mod:Mod K mg base
 bs:∀b o,base.get? b=aC o->s.heap.get? b=aC o/\H b=aD
 nM:base.objs.size<=s.heap.objs.size
 fM:s.heap.FunFrames base outer
 pY:∀b∈frs outer,H b=aD
 hok:dS P w H s.heap
 bare:AllBare s.gens
noncomputable def CE(outer:List Env)(P:aj)(w:ak)(H:Hp)(s:ah)(Q:VK)(u:aa)(s':ah):Prop:=
 ∃v H',s'.os=s.os/\AllBare s'.gens/\Un (frs outer) [] H H' s.heap s'.heap/\dS P w H' s'.heap/\RelV v u/\Q v H'
noncomputable def CR(CX:lB)(outer:List Env)(P:aj)(w:ak)(H:Hp)(s:ah)(Q:VK)(E:XK)(r:Result)(s':ah):Prop:=
 match r with|.ok (.ret u)=>CE outer P w H s Q u s'|.ok _=>False|.error e=>CX outer H s E e s'
structure cD(P:aj)(w:ak)(K:aI)(mg:Str->Option aa)(base:aA)(CX:lB)(k:Nat)(f:ai)(fd:av)(ps:List Str)(sp:Sp):Prop where
 len:∀vs H Q E,sp vs H Q E->vs.length=ps.length
 run:∀(A:ao)(outer:List Env)(s:ah)(H:Hp)(args:Args)(us:List aa)(vs:List V)(Q:VK)(E:XK),bS k A->jQ P w K mg base A outer s H->BindsTo s fd args (ps.zip us)->Vals vs us->sp vs H Q E->
  codeAny (model P w) A (.call (.ref f) args) (CR CX outer P w H s Q E) s
theorem jQ.make{P:aj}{w:ak}{K:aI}{mg:Str->Option aa}{base:aA}{A:ao}{outer:List Env}{s:ah}{H:Hp}(e:jQ P w K mg base A outer s H)(C:ai)(us:List aa)(kw:List (Str×aa)) :
 jQ P w K mg base (A.under (.builtin "type.__call__" ⟨.ref C::us,kw⟩)) outer s H:=⟨by first|exact e.frames|(simpa[Around.under,Code.envs,Code.isFrame,pushEnvs]using e.frames),e.mod,e.bs,e.nM,e.fM,e.pY,e.hok,e.bare⟩
section
variable{X:Cx}{pins:List (ai×Obj)}{σ:St}{H:Hp}{s s':ah}
theorem Inv.rm(I:Inv X pins σ H s):jQ X.prog X.w X.K X.mg X.base X.A X.stack s H:=
 ⟨I.ok.frames,I.ok.mod,I.bs,gu I.ok.nM I.sz,I.stack,I.ie,I.hok,I.bare⟩
theorem Inv.after{Q:VK}{u:aa}(I:Inv X pins σ H s)(h:CE X.stack X.prog X.w H s Q u s'):EP X pins σ Q u s':=by obtain⟨v,H',os,bare,un,hok,r,q⟩:=h;obtain⟨hh,g,d,t,os'⟩:=s';obtain rfl:os'=s.os:=os;exact⟨v,H',I.call (h':=hh) (g':=g) (d':=d) (t':=t) (ch:=[]) un hok bare (λb z=>absurd z (by simp)),r,q⟩
end
noncomputable def nS(sp:Sp)(nU:List V)(E:XK)(t:TA):TE:=λσ H Q=>t σ H λvs H1=>sp (vs++nU) H1 Q E
noncomputable def Binds(K:aI)(fd:av)(ps:List Str)(ds:List aa):Prop:=
 ∀(s:ah)(us:List aa),K.In s.heap->(us++ds).length=ps.length->BindsTo s fd ⟨us,[]⟩ (ps.zip (us++ds))
theorem Binds.all{K:aI}{fd:av}{ps:List Str}(h:∀us:List aa,us.length=ps.length->bindArgs fd ⟨us,[]⟩=pure (ps.zip us)):Binds K fd ps []:=λs us _ hl=>by
 rw[jj]at hl ⊢;exact .of_eq (h us hl)
noncomputable def wg(CX:lB)(X:Cx)(E:XK):Prop:=∀(pins:List (ai×Obj)) (σ:St) (H:Hp) (s:ah) (e:aa) (s':ah),Inv X pins σ H s->CX X.stack H s E e s'->X.xe e s'
section
variable{X:Cx}{CX:lB}{k:Nat}{f C:ai}{fd:av}{ps:List Str}{sp:Sp}{nU:List V}{ds:List aa}{E:XK}{x m:Str}{p pos apos:Pos}{e o:aq}{es:List aq}{ta:TE}{t:TA}
theorem Hs{pins:List (ai×Obj)}{σ:St}{H:Hp}{s:ah}{Q:VK}{us:List aa}{vs:List V}(F:cD X.prog X.w X.K X.mg X.base CX k f fd ps sp)(hr:bS k X.A)(hb:Binds X.K fd ps ds)(hd:Vals nU ds)(hx:wg CX X E)
 (I:Inv X pins σ H s) (r:Vals vs us) (h:sp (vs++nU) H Q E):wpAny (model X.prog X.w) X.A (call (.ref f) us) (EP X pins σ Q) X.xe s:=by
 have r2:Vals (vs++nU) (us++ds):=r.append hd;have hl:(us++ds).length=ps.length:=by rw[<-r2.length];exact F.len _ _ _ _ h
 refine qI (vI (F.run X.A X.stack s H ⟨us,[]⟩ (us++ds) (vs++nU) Q E hr I.rm (hb s us I.eF hl) r2 h) λr s' hq=>?_);cases r with
 |error e=>exact hx pins σ H s e s' I hq
 |ok fl=>
  cases fl with|ret u=>exact I.after hq|next=>exact False.elim hq|brk=>exact False.elim hq|cont=>exact False.elim hq
theorem ET(F:cD X.prog X.w X.K X.mg X.base CX k f fd ps sp)(hr:bS k X.A)(hg:Gl X x)(hm:X.mg x=aC (.ref f))(hk:PySem.W.keepIn X.K (.ref f))(hb:Binds X.K fd ps ds)(hd:Vals nU ds)(hx:wg CX X E)
 (ha:PA X (e::es) t) (hdb:autoParam ((x==("__debug__" : Str))=false) L2.aD1._auto_1) (he:autoParam (starEach (e::es) X.env=(false,eval e X.env)::starEach es X.env) L2.aR1._auto_1) (hpl:autoParam ((backTo pos (starEach es X.env)).any (·.1)=false) L2.aR1._auto_1) :
 PE X (.Call (.Name x p) (e::es) [] pos) (nS sp nU E t):=by
 intro pins s σ H Q I h;refine qz (vW I hg hm ?_ hdb);refine zX (h₀:=X.base) I.ok.mod.t7 hk (aY (ha pos pins s σ H _ I h) λus s1 z9=>z9.el λvs H1 I1 r q=>⟨I1.eF,?_⟩) he hpl;exact Hs F hr hb hd hx I1 r q
theorem RU(F:cD X.prog X.w X.K X.mg X.base CX k f fd ps sp)(hr:bS k X.A)(hg:Gl X x)(hm:X.mg x=aC (.ref f))(hk:PySem.W.keepIn X.K (.ref f))(hb:Binds X.K fd ps ds)(hd:Vals nU ds)(hx:wg CX X E)
 (hdb:autoParam ((x==("__debug__" : Str))=false) L2.aD1._auto_1):PE X (.Call (.Name x p) [] [] pos) (nS sp nU E AL):=by
 intro pins s σ H Q I h;refine qz (vW I hg hm ?_ hdb);exact PySem.W.callWith_K0 I.eF hk (Hs (us:=[]) F hr hb hd hx I .nil h)
end
structure cu(N P:List Str)(sc:az):Prop where
 kind:sc.kind=.function
 co:sc.isCoroutine=false
 gen:sc.isGenerator=false
 nd:N.Nodup
 pre:N.take P.length=P
 par:∀x∈P,sc.names.lookup x=aC .local\/sc.names.lookup x=aC .cell
 wj:∀y∈sc.names,y.2≠.free
theorem LX{kindOf:Str->Option NameKind}{x:Str}:∀{binds:List (Str×aa)} {m:Str->Option aa},(∀v,(x,v)∉binds)->bindL kindOf binds m x=m x
 |[],_,_=>rfl
 |(n,v)::r,m,h=>by
  unfold bindL;rw[LX λw hw=>h w (eH _ hw)];split;have:x≠n:=by rintro rfl;exact h v fQ
  simp[this];rfl
theorem LY{kindOf:Str->Option NameKind}{x:Str}:∀{binds:List (Str×aa)} {m:Str->Option aa},(∀v,(x,v)∉binds)->bindC kindOf binds m x=m x
 |[],_,_=>rfl
 |(n,v)::r,m,h=>by
  unfold bindC;rw[LY λw hw=>h w (eH _ hw)];split;rfl;have:x≠n:=by rintro rfl;exact h v fQ
  simp[this]
theorem LZ{kindOf:Str->Option NameKind}{x:Str}{v:aa}:∀{P:List Str} {vs:List aa} {i:Nat} {m:Str->Option aa},P.Nodup->P[i]?=aC x->vs[i]?=aC v->kindOf x=aC .local->
 bindL kindOf (P.zip vs) m x=aC v
 |[],_,_,_,_,h,_,_=>by simp at h
 |_::_,[],_,_,_,_,h,_=>by simp at h
 |p::P,w::vs,0,m,nd,h1,h2,hk=>by
  simp at h1 h2;subst h1;subst h2;show bindL kindOf ((p,w)::P.zip vs) m p=_;unfold bindL;rw[LX λv hv=>(zQ.mp nd).1 (Et hv).1,if_pos hk];simp
 |p::P,w::vs,i+1,m,nd,h1,h2,hk=>by
  show bindL kindOf ((p,w)::P.zip vs) m x=_;unfold bindL;exact LZ (i:=i) (zQ.mp nd).2 (by simpa using h1) (by simpa using h2) hk
theorem L4{kindOf:Str->Option NameKind}{x:Str}{v:aa}:∀{P:List Str} {vs:List aa} {i:Nat} {m:Str->Option aa},P.Nodup->P[i]?=aC x->vs[i]?=aC v->kindOf x≠aC .local->
 bindC kindOf (P.zip vs) m x=aC v
 |[],_,_,_,_,h,_,_=>by simp at h
 |_::_,[],_,_,_,_,h,_=>by simp at h
 |p::P,w::vs,0,m,nd,h1,h2,hk=>by
  simp at h1 h2;subst h1;subst h2;show bindC kindOf ((p,w)::P.zip vs) m p=_;unfold bindC;rw[LY λv hv=>(zQ.mp nd).1 (Et hv).1,if_neg hk];simp
 |p::P,w::vs,i+1,m,nd,h1,h2,hk=>by
  show bindC kindOf ((p,w)::P.zip vs) m x=_;unfold bindC;exact L4 (i:=i) (zQ.mp nd).2 (by simpa using h1) (by simpa using h2) hk
noncomputable def start(N:List Str)(vs:List V):St:=vs.map aC++aR (N.length-vs.length) aD
noncomputable def gx(CX:lB)(P:aj)(w:ak)(K:aI)(mg:Str->Option aa)(base:aA)(N:List Str)(qual:Str)(scope:az)(f:ai)(cd:aa)(A:ao)(outer:List Env)(s:ah)(H:Hp)(E:XK):Cx where
 prog:=P
 w:=w
 K:=K
 mg:=mg
 base:=base
 A:=A.deeper (envOfC qual scope s.heap.objs.size f cd)
 N:=N
 s₀:=s
 H₀:=H
 env:=envOfC qual scope s.heap.objs.size f cd
 outer:=outer
 stack:=envOfC qual scope s.heap.objs.size f cd::outer
 ex:=[]
 calm:=true
 fn:=λ_=>true
 pn:=[]
 xe:=λe s'=>wpAny (model P w) (A.deeper (envOfC qual scope s.heap.objs.size f cd)) (leaving (envOfC qual scope s.heap.objs.size f cd) e) (λ_ s''=>CX outer H s E e s'') (λe' s''=>CX outer H s E e' s'') s'
theorem L5{sc:az}{n:Nat}{x:Str}(h:sc.names.lookup x=aC .cell):∃c,(cellsFrom n sc.names []).lookup x=aC c:=by have q:=PySem.W.cellsFrom_some sc.names n [] (.inl h);exact Option.isSome_iff_exists.mp q
theorem L6{CX:lB}{P:aj}{w:ak}{K:aI}{mg:Str->Option aa}{base:aA}{N ps:List Str}{qual:Str}{scope:az}{f:ai}{cd:aa}{A:ao}{outer:List Env}{s s1:ah}{H:Hp}{E:XK}{us:List aa}{vs:List V}
 (S:cu N ps scope) (hd:A.handled=aD) (e0:jQ P w K mg base A outer s H) (hl:vs.length=ps.length) (r:Vals vs us)
 (x:InCallC s s.heap.objs.size (bindL (envOfC qual scope s.heap.objs.size f cd).kindOf (ps.zip us) λ_=>aD) (cellsFrom (s.heap.objs.size+1) scope.names []) (bindC (envOfC qual scope s.heap.objs.size f cd).kindOf (ps.zip us) λ_=>aD) s1) :
 Inv (gx CX P w K mg base N qual scope f cd A outer s H E) [] (start N vs) H s1:=by
 have hpl:ps.length<=N.length:=by have:=nk List.length S.pre;rw[yw]at this;lia
 obtain⟨h1,tk,rfl,hk⟩:=x.done;have AN:∀b:ai,b∉(gx CX P w K mg base N qual scope f cd A outer s H E).ex:=λb z=>absurd (show b∈([]:List ai)from z) (by simp);refine⟨⟨e0.mod,S.kind,rfl,rfl,aZ _,λy z c h1 h2=>?_,λy hy=>?_,λy c _ h=>?_,λ_=>hd,Around.frames_deeper e0.frames,.inr ⟨rfl,rfl⟩,λb z=>absurd z (AN b),e0.bs,e0.nM,λb _ _=>AN b,λb z=>absurd z (AN b),e0.fM,e0.pY⟩,
  rfl,e0.bare,Un.kept hk,⟨_,x.toInCall.ns,λi y v h1 h2 h3=>?_⟩,λy c h=>⟨_,x.cell y c h⟩,e0.hok.fresh (aZ _),λy c h=>?_,λp hp=>absurd (show p∈([]:List (ai×Obj))from hp) (by simp),e0.hok.kept hk,?_⟩
 exact name_of_addr x.apart (zK h1) (zK h2);have hy:scope.names.lookup y=aC .cell\/scope.names.lookup y=aC .free:=hy;rcases hy with hy|hy
 exact L5 hy;exact absurd rfl (S.wj _ (zK hy));exact vR (x.above y c (zK h));have hi:i<vs.length:=by unfold start at h2;by_cases hi:i<vs.length;exact hi;rw[vM (by simpa using hi)]at h2;rw[Ei]at h2;split at h2<;>cases h2
 have ha:vs[i]?=aC v:=by
  unfold start at h2;rw[yu (by simpa using hi),mz]at h2;cases e:vs[i]? with|none=>rw[e]at h2;cases h2|some a=>rw[e]at h2;cases h2;rfl
 obtain⟨u,hu,rv⟩:=r.get ha;have hp:ps[i]?=aC y:=by rw[<-S.pre,List.getElem?_take_of_lt (by lia)];exact h1
 have L7:ps.Nodup:=by rw[<-S.pre];exact S.nd.sublist (List.take_sublist _ _)
 refine⟨u,rv,?_⟩;rcases S.par y (El hp)with k|k
 exact .inl ⟨k,LZ L7 hp hu k⟩;obtain⟨c,e⟩:=L5 (n:=s.heap.objs.size+1) k;refine .inr ⟨.inl k,c,e,?_⟩;have q:=x.cell y c e;rw[L4 L7 hp hu (by show scope.names.lookup y≠_;rw[k];decide)]at q;exact q;exact e0.hok.fresh (vR (x.above y c (zK h)));unfold start;show _=N.length;rw[dY,bQ,iw];lia
theorem ug{CX:lB}{P:aj}{w:ak}{K:aI}{mg:Str->Option aa}{base:aA}{k:Nat}{f:ai}{name qual:Str}{params:Arguments}{body:List au}{scope:az}{dV kV doc pm cdv ct oc:aa}{an od:Option ai}
 {osl:Array (Option aa)} {N ps:List Str} {sp:Sp} (lk:K.lookup f=aC ⟨oc,od,.func (PySem.W.fnOf name qual params body scope dV kV doc pm an cdv ct),osl⟩) (hcd:PySem.W.codeIn K cdv qual) (S:cu N ps scope)
 (len:∀vs H Q E,sp vs H Q E->vs.length=ps.length)
 (hbody:∀(A:ao)(outer:List Env)(s:ah)(H:Hp)(vs:List V)(Q:VK)(E:XK),bS k (A.deeper (envOfC qual scope s.heap.objs.size f cdv))->sp vs H Q E->
   ∃t,fU (gx CX P w K mg base N qual scope f cdv A outer s H E) body t/\t {nx:=λ_ H'=>Q .aN H',rt:=Q} (start N vs) H) :
 cD P w K mg base CX (k+1) f (PySem.W.fnOf name qual params body scope dV kV doc pm an cdv ct) ps sp:=by
 refine⟨len,λA outer s H args us vs Q E hr e0 hb r jR=>?_⟩;have hl:=len _ _ _ _ jR;have KX:K.In s.heap:=e0.mod.t7.keeps λb o e=>(e0.bs b o e).1;have lim:s.heap.NoLimit:=e0.mod.nolimit.keeps λb o e=>(e0.bs b o e).1;have hkind:∀y∈ps.zip us,scope.names.lookup y.1=aC .local\/(scope.names.lookup y.1=aC .cell/\((cellsFrom (s.heap.objs.size+1) scope.names []).lookup y.1).isSome):=λdi hy=>by
  obtain⟨n,v⟩:=di;rcases S.par n (Et hy).1 with q|q;exact .inl q;exact .inr ⟨q,PySem.W.cellsFrom_some _ _ _ (.inl q)⟩
 refine codeAny_call_function hr.depth (KX _ _ lk) rfl S.co S.gen rfl (PySem.W.codeRec_of KX hcd) (hb _ _ _ _ ?_);refine wpAny_newFunctionEnv_cells S.kind hkind λenv he s1 x=>?_;subst he;refine⟨lim.keeps x.toInCall.keep,codeAny_func ?_⟩;obtain⟨t,ht,hq⟩:=hbody A outer s H vs Q E (hr.deeper _) jR;have I:Inv (gx CX P w K mg base N qual scope f cdv A outer s H E) [] (start N vs) H s1:=L6 S hr.hd e0 hl r x;refine gQ (ht [] s1 (start N vs) H _ I hq) (λfl s' hs=>?_) λe s' hs=>hs;have fin:∀{σ':St}{H':Hp}{v:V}{u:aa},Inv (gx CX P w K mg base N qual scope f cdv A outer s H E) [] σ' H' s'->RelV v u->Q v H'->CE outer P w H s Q u s':=
  λ{σ' H' v u} J rv q=>⟨v,H',J.os,J.bare,J.base,J.hok,rv,q⟩
 cases fl with
 |ret u=>
  obtain⟨v,σ',H',J,rv,q⟩:=hs;exact fin J rv q
 |next=>
  obtain⟨σ',H',J,q⟩:=hs;exact fin (v:=V.aN) (u:=Value.none) J rfl q
 |brk=>
  obtain⟨_,_,_,q⟩:=hs;exact False.elim q
 |cont=>
  obtain⟨_,_,_,q⟩:=hs;exact False.elim q
section
variable{X:Cx}{x:Str}{p pos:Pos}{e:aq}{es:List aq}{t:TA}{id T:String}{r:List V->Hp->VK->Prop}
noncomputable def L8(r:List V->Hp->VK->Prop)(t:TA):TE:=λσ H Q=>t σ H λvs H1=>r vs H1 Q
theorem Ht(hc:dM X (.builtin id) r)(hg:Gl X x)(hm:X.mg x=aD)(hv:bootBuiltins x=aC (.builtin id))(ha:PA X (e::es) t)(hn:autoParam (x≠"__name__") L2.aD1._auto_1)(hdb:autoParam ((x==("__debug__" : Str))=false) L2.aD1._auto_1)
 (he:autoParam (starEach (e::es) X.env=(false,eval e X.env)::starEach es X.env) L2.aR1._auto_1) (hpl:autoParam ((backTo pos (starEach es X.env)).any (·.1)=false) L2.aR1._auto_1):PE X (.Call (.Name x p) (e::es) [] pos) (L8 r t):=by
 intro pins s σ H Q I h;refine qz (yJ I hg hm hv ?_ hn hdb);exact PyProof.Rows.callWith_builtin1 (aY (ha pos pins s σ H _ I h) λus s1 z9=>z9.el λvs H1 I1 r1 q1=>hc pins s1 σ H1 vs us Q I1 r1 q1) he hpl
theorem RV(hc:dM X (.type T) r)(hg:Gl X x)(hm:X.mg x=aD)(hv:bootBuiltins x=aC (.type T))(ha:PA X (e::es) t)(hn:autoParam (x≠"__name__") L2.aD1._auto_1)(hdb:autoParam ((x==("__debug__" : Str))=false) L2.aD1._auto_1)
 (he:autoParam (starEach (e::es) X.env=(false,eval e X.env)::starEach es X.env) L2.aR1._auto_1) (hpl:autoParam ((backTo pos (starEach es X.env)).any (·.1)=false) L2.aR1._auto_1):PE X (.Call (.Name x p) (e::es) [] pos) (L8 r t):=by
 intro pins s σ H Q I h;refine qz (yJ I hg hm hv ?_ hn hdb);exact vcs (aY (ha pos pins s σ H _ I h) λus s1 z9=>z9.el λvs H1 I1 r1 q1=>hc pins s1 σ H1 vs us Q I1 r1 q1) he hpl
end
end L2
namespace HT
open PySem PyProof.Rows
section
variable{prog:aj}{w:ak}{A:ao}{E:aa->ah->Prop}{s:ah}
theorem rq{t b:ai}{vs ws:List aa}{Q:aa->ah->Prop}(ht:IsTup s.heap t vs.toArray)(hb:IsTup s.heap b ws.toArray)(hv:vs≠[])
 (h1:ws=[]->Q (.ref t) s) (h2:ws≠[]->Q (.ref s.heap.objs.size) {s with heap:=s.heap.push {cls:=.type "tuple",data:=.seq (vs++ws).toArray}})
 (hsz:vs.length+ws.length<=sizeLine):wpAny (model prog w) A (binaryOp .Add (.ref t) (.ref b)) Q E s:=by
 obtain⟨⟨cls,dd,data,sl⟩,ho,hc,n,hd⟩:=id ht;obtain⟨⟨RW,dd2,data2,sl2⟩,ho2,hc2,n2,hd2⟩:=id hb;simp only at hc hd hc2 hd2;subst hc hd hc2 hd2;have e:vs.toArray++ws.toArray=(vs++ws).toArray:=by simp
 by_cases hw:ws=[]
 exact concat_meets ⟨_,ho,rfl⟩ ⟨_,ho2,rfl⟩ noFill_tuple_add seq_tuple_add PySem.F.slot_tuple_add PySem.F.entry_tuple_add (PySem.F.args_tuple_add_2 _ _)
  (tuple_addW1 t b vs.toArray ws.toArray n n2 dd dd2 sl sl2 (by simpa using hv) (by simp[hw])) ⟨ho,ho2,h1 hw⟩
 refine concat_meets ⟨_,ho,rfl⟩ ⟨_,ho2,rfl⟩ noFill_tuple_add seq_tuple_add PySem.F.slot_tuple_add PySem.F.entry_tuple_add (PySem.F.args_tuple_add_2 _ _)
  (tuple_addW2 t b vs.toArray ws.toArray n n2 dd dd2 sl sl2 (by simpa using hv) (by simpa using hw) (by rw[dR,dR];exact hsz)) ⟨ho,ho2,?_⟩
 rw[e];exact h2 hw
noncomputable def bz(n d:Nat):Option Int->Nat|none=>d|some v=>if v<0 then(v+ (n:Int)).toNat else min v.toNat n
theorem iA(n d:Nat):bz n d aD=d:=rfl
theorem ig(n d k:Nat):bz n d (aC (k:Int))=min k n:=by show(if(k:Int)<0 then((k:Int)+ (n:Int)).toNat else min (k:Int).toNat n)=min k n;rw[if_neg (by lia),pX]
theorem RY(n d:Nat)(hd:d<=n)(o:Option Int):bz n d o<=n:=by
 cases o with
 |none=>exact hd
 |some v=>
  show(if v<0 then(v+ (n:Int)).toNat else min v.toNat n)<=n;by_cases hv:v<0;rw[if_pos hv];lia;rw[if_neg hv];exact Nat.min_le_right _ _
theorem Ma(v:Int)(n d:Nat):(if v<0 then max (v+ (n:Int)) 0 else min v (n:Int))=((bz n d (aC v):Nat):Int):=by
 show(if v<0 then max (v+ (n:Int)) 0 else min v (n:Int))=(((if v<0 then(v+ (n:Int)).toNat else min v.toNat n):Nat):Int)
 by_cases hv:v<0;simp only[if_pos hv];lia;simp only[if_neg hv];lia
theorem RZ(lo hi:Option Int)(n:Nat):Builtin.Slice.sliceAdjust lo hi 1 (n:Int)=(((bz n 0 lo:Nat):Int),((bz n n hi:Nat):Int)):=by
 have h1:¬((1:Int)<0):=by lia
 unfold Builtin.Slice.sliceAdjust;simp only[h1,fy];refine Prod.ext ?_ ?_;cases lo with|none=>rfl|some v=>exact Ma v n 0
 cases hi with|none=>rfl|some v=>exact Ma v n n
theorem R1(i j:Nat):Builtin.Slice.slicePlaces (i:Int) (j:Int) 1=j-i:=by
 unfold Builtin.Slice.slicePlaces;have h1:(1:Int)>0:=by lia
 simp only[h1,dH,Int.ediv_one];split<;>lia
theorem Mb{v:aa}{o:Option Int}{Q:Option Int->ah->Prop}(p:IsPart v o)(h:Q o s):wpAny (model prog w) A (Builtin.Slice.slicePartIndex v) Q E s:=by
 cases p with|none=>exact slicePart_none h|int i t=>exact slicePart_int h
theorem Mc{sl:ai}{vl vu:aa}{lo hi:Option Int}{n:Nat}{Q:Int×Int×Nat->ah->Prop}(hs:s.heap.IsSliceOf sl vl vu .none)(pl:IsPart vl lo)(pu:IsPart vu hi)
 (h:Q (((bz n 0 lo:Nat):Int),1,bz n n hi-bz n 0 lo) s):wpAny (model prog w) A (Builtin.Slice.sliceApplied (.ref sl) (pure (n:Int))) Q E s:=by
 obtain⟨os,hos,hcs,hds⟩:=id hs;unfold Builtin.Slice.sliceApplied Builtin.Slice.sliceFields;refine aJ (aJ (iP hos hds (x:=vl) rfl (aJ (iP hos hds (x:=vu) rfl (aJ (iP hos hds (x:=.none) rfl (bJ ?_)))))));refine aJ (slicePart_none ?_);show wpAny _ _ (if((1:Int)==0)=true then _ else _) _ _ s;rw[if_neg (by decide)];refine aJ (Mb pl (aJ (Mb pu (aJ (bJ ?_)))));show wpAny _ _ (match Builtin.Slice.sliceAdjust lo hi 1 (n:Int)with|(lo,hi)=>pure (lo,(1:Int),Builtin.Slice.slicePlaces lo hi 1)) _ _ s;rw[RZ lo hi n];show wpAny _ _ (pure (((bz n 0 lo:Nat):Int),(1:Int),Builtin.Slice.slicePlaces ((bz n 0 lo:Nat):Int) ((bz n n hi:Nat):Int) 1)) _ _ s;rw[R1];exact bJ h
theorem R3(xs:Array aa)(i k:Nat):((List.range k).filterMap λ(m:Nat)=>xs[((i:Int)+ (m:Int)*1).toNat]?).toArray=((xs.toList.drop i).take k).toArray:=by
 have e:(λ(m:Nat)=>xs[((i:Int)+ (m:Int)*1).toNat]?)=λm=>xs[i+m]?:=by
  funext m;have:((i:Int)+ (m:Int)*1).toNat=i+m:=by lia
  rw[this]
 rw[e];have:=pick_run xs i k;rw[List.filterMap_map]at this;have e2:((λx=>xs[x]?)∘λx=>i+x)=λm=>xs[i+m]?:=rfl;rw[e2]at this;rw[this]
theorem fY{t sl:ai}{items:Array aa}{vl vu:aa}{lo hi:Option Int}{Q:aa->ah->Prop}(ht:IsTup s.heap t items)(hs:s.heap.IsSliceOf sl vl vu .none)(pl:IsPart vl lo)(pu:IsPart vu hi)
 (hw:¬(bz items.size 0 lo=0/\bz items.size items.size hi=items.size))
 (h:Q (.ref s.heap.objs.size) {s with heap:=s.heap.push {cls:=.type "tuple",data:=.seq ((items.toList.drop (bz items.size 0 lo)).take (bz items.size items.size hi-bz items.size 0 lo)).toArray}})
 (hsz:items.size<=sizeLine):wpAny (model prog w) A (getItem (.ref t) (.ref sl)) Q E s:=by
 have lC:sizeOk (.seq ((items.toList.drop (bz items.size 0 lo)).take (bz items.size items.size hi-bz items.size 0 lo)).toArray):=by show((items.toList.drop (bz items.size 0 lo)).take (bz items.size items.size hi-bz items.size 0 lo)).toArray.size<=sizeLine;rw[dR,yw,zP,Array.length_toList];lia
 have hj:bz items.size items.size hi<=items.size:=RY _ _ (aZ _) hi;obtain⟨os,hos,hcs,hds⟩:=id hs;have yM:s.TypeIs (.ref sl) "slice":=⟨os,hos,hcs⟩
 unfold getItem
 try with_reducible refine jE ?_
 first|refine aJ (bJ ?_)|skip
 refine aJ (wpAny_sequenceKey ht.typeIs (by decide) ?_);refine aJ (vD (name:=Str.ofString "__getitem__") ht.typeIs yz
  (vG yz ht.typeIs entry_tuple_getitem ?_ (args_tuple_getitem _ _)))
 show wpAny _ _ (Builtin.Tuple.tupleItemsOf (.ref t) >>= _) _ _ s;refine aJ (tupleItemsOf_ ht ?_);refine aJ (yr yM ?_);rw[if_pos (by decide)];refine aJ (Mc hs pl pu ?_);have hno:¬((((bz items.size 0 lo:Nat):Int)==0&& (1:Int)==1&& (bz items.size items.size hi-bz items.size 0 lo)==items.size)):=by intro q;rw[aS,aS]at q;have q1:((bz items.size 0 lo:Nat):Int)=0:=eq_of_beq q.1.1;have q2:bz items.size items.size hi-bz items.size 0 lo=items.size:=eq_of_beq q.2;exact hw ⟨by lia,by lia⟩
 show wpAny _ _ (if(((bz items.size 0 lo:Nat):Int)==0&& (1:Int)==1&& (bz items.size items.size hi-bz items.size 0 lo)==items.size)=true then _ else _) _ _ s;rw[if_neg hno,R3];first
  |exact aJ (m:=Builtin.Tuple.tupleExact _) (qH (bJ ⟨_,rfl,bJ h⟩) lC)
  |exact aJ (m:=Builtin.Tuple.tupleExact _) (qH (aJ (bJ (bJ ⟨_,rfl,bJ h⟩))) lC)
  |exact aJ (aJ (m:=Builtin.Tuple.tupleExact _) (qH (bJ (bJ ⟨_,rfl,bJ h⟩)) lC))
  |exact aJ (aJ (m:=Builtin.Tuple.tupleExact _) (qH (bJ ⟨_,rfl,bJ h⟩) lC))
end
end HT
namespace L2
open PySem PySem.Spec PyProof.Rows
noncomputable abbrev TO:=St->Hp->(Option Int->Hp->Prop)->Prop
noncomputable def PO(X:Cx)(e:Option aq)(t:TO):Prop:=
 ∀(pins:List (ai×Obj))(s:ah)(σ:St)(H:Hp)(Q:Option Int->Hp->Prop),Inv X pins σ H s->t σ H Q->
  wpAny (model X.prog X.w) X.A (evalPart e X.env) (λu s'=>∃o H',Inv X pins σ H' s'/\IsPart u o/\Q o H') X.xe s
noncomputable def R4:TO:=λ_ H Q=>Q aD H
noncomputable def AO(t:TE):TO:=λσ H Q=>t σ H λx H1=>∃i,x=.int i/\Q (aC i) H1
section
variable{X:Cx}{e:aq}{te:TE}{lo hi:Option aq}{tl th:TO}{pos p2:Pos}
theorem R5:PO X aD R4:=by intro pins s σ H Q I h;rw[evalPart_none];exact bJ ⟨aD,H,I,.none,h⟩
theorem R6(h:PE X e te):PO X (aC e) (AO te):=by intro pins s σ H Q I hw;rw[evalPart_some];refine aY (h pins s σ H _ I hw) λu s1 z9=>z9.el λx H1 I1 r1 q1=>?_;obtain⟨i,rfl,q⟩:=q1;obtain⟨t,rfl⟩:=r1;exact⟨aC i,H1,I1,.int i t,q⟩
noncomputable def rz(X:Cx)(r:V->Option Int->Option Int->Hp->VK->Prop):Prop:=
 ∀(pins:List (ai×Obj))(s:ah)(σ:St)(H:Hp)(x:V)(v vl vu:aa)(lo hi:Option Int)(sl:ai)(Q:VK),Inv X pins σ H s->RelV x v->s.heap.IsSliceOf sl vl vu .none->IsPart vl lo->IsPart vu hi->r x lo hi H Q->
  ∃T id,typeLookup (.type T) "__getitem__" = pure (aC (.builtin id))/\s.TypeIs v T/\wpAny (model X.prog X.w) X.A (getItem v (.ref sl)) (EP X pins σ Q) X.xe s
theorem rz.or{r r':V->Option Int->Option Int->Hp->VK->Prop}(h:rz X r)(h':rz X r'):rz X (λx lo hi H Q=>r x lo hi H Q\/r' x lo hi H Q):=by
 intro pins s σ H x v vl vu lo hi sl Q I rx hs pl pu q;rcases q with q|q
 exact h pins s σ H x v vl vu lo hi sl Q I rx hs pl pu q;exact h' pins s σ H x v vl vu lo hi sl Q I rx hs pl pu q
noncomputable def R7(r:V->Option Int->Option Int->Hp->VK->Prop)(te:TE)(tl th:TO):TE:=λσ H Q=>te σ H λx H1=>tl σ H1 λl H2=>th σ H2 λu H3=>r x l u H3 Q
theorem R8{r:V->Option Int->Option Int->Hp->VK->Prop}(hr:rz X r)(he:PE X e te)(hl:PO X lo tl)(hu:PO X hi th):PE X (.Subscript e (.Slice lo hi aD p2) pos) (R7 r te tl th):=by intro pins s σ H Q I h;refine Subscript_ (aY (he pins s σ H _ I h) λv s1 z9=>z9.el λx H1 I1 r1 q1=>?_);refine wpAny_Slice (aY (hl pins s1 σ H1 _ I1 q1) λvl s2 ⟨l,H2,I2,pl,q2⟩=>aY (hu pins s2 σ H2 _ I2 q2) λvu s3 di=>?_);obtain⟨u,H3,I3,pu,q3⟩:=di;rw[evalPart_none];refine bJ ?_;have I4:Inv X pins σ H3 {s3 with heap:=s3.heap.push {cls:=.type "slice",data:=.fields #[vl,vu,.none]}}:=I3.kept (t':=s3.toks) λb ob q=>cC _ q;obtain⟨T,id,hT,ht,hg⟩:=hr pins {s3 with heap:=s3.heap.push {cls:=.type "slice",data:=.fields #[vl,vu,.none]}} σ H3 x v vl vu l u s3.heap.objs.size Q I4 r1 (Heap.IsSliceOf.new ..) pl pu q3;show wpAny (model X.prog X.w) X.A (subscriptTail e (.Slice lo hi aD p2) v (.ref s3.heap.objs.size)) (EP X pins σ Q) X.xe {s3 with heap:=s3.heap.push {cls:=.type "slice",data:=.fields #[vl,vu,.none]}};exact tail_any (ops:=[.ref s3.heap.objs.size,v]) ht hT hg (by with_unfolding_all rfl)
noncomputable def jS(xs:List V)(lo hi:Option Int):List V:=(xs.drop (HT.bz xs.length 0 lo)).take (HT.bz xs.length xs.length hi-HT.bz xs.length 0 lo)
theorem Me(xs:List V)(lo hi:Option Int):(jS xs lo hi).length<=xs.length:=by unfold jS;rw[yw,zP];lia
noncomputable def AQ(K:aI):V->Option Int->Option Int->Hp->VK->Prop:=λx lo hi H Q=>∃a xs,x=.ref a/\cH K H a xs/\
 ¬(HT.bz xs.length 0 lo=0/\HT.bz xs.length xs.length hi=xs.length)/\∀p,H p=aD->Q (.ref p) (upd H p (.tup (jS xs lo hi)))
theorem R9:rz X (AQ X.K):=by
 intro pins s σ H x v vl vu lo hi sl Q I rx hs pl pu h;obtain⟨a,xs,rfl,hx,hw,q⟩:=h;cases rx;obtain⟨its,r,ht,hz⟩:=I.tuple hx;have hlen:its.toArray.size=xs.length:=by rw[dR];exact r.length.symm
 refine⟨"tuple",_,yz.lookup,ht.typeIs,?_⟩;refine HT.fY ht hs pl pu (by rw[hlen];exact hw) ?_ (by rw[hlen];exact hz);rw[hlen];refine⟨.ref s.heap.objs.size,_,I.laid (t':=s.toks) (o:=.tup (jS xs lo hi)) (λb ob q=>cC _ q) (aZ _) ?_,rfl,q _ (I.hok.fresh (aZ _))⟩;exact⟨gu (Me xs lo hi) hz,_,(r.drop (HT.bz xs.length 0 lo)).take (HT.bz xs.length xs.length hi-HT.bz xs.length 0 lo),ly.new _ _⟩
noncomputable def uh(K:aI):R2:=λx y H Q=>∃a b xs ys,x=.ref a/\y=.ref b/\cH K H a xs/\cH K H b ys/\xs≠[]/\xs.length+ys.length<=sizeLine/\
 (ys=[]->Q (.ref a) H)/\(ys≠[]->∀p,H p=aD->Q (.ref p) (upd H p (.tup (xs++ys))))
theorem Vals.jm{xs:List V}{us:List aa}(r:Vals xs us):us=[]↔xs=[]:=by
 cases r with|nil=>simp|cons _ _=>simp
theorem Sa:dh X (binaryOp .Add) (uh X.K):=by intro pins s σ H x y v u Q I rx ry h;obtain⟨a,b,xs,ys,rfl,rfl,ha,hb,hx,hz,q1,q2⟩:=h;cases rx;cases ry;obtain⟨its,r1,p1,_⟩:=I.tuple ha;obtain⟨its2,r2,p2,_⟩:=I.tuple hb;refine HT.rq p1 p2 (λz=>hx (r1.jm.mp z)) (λz=>⟨.ref a,H,I,rfl,q1 (r2.jm.mp z)⟩) (λz=>?_) (by rw[<-r1.length,<-r2.length];exact hz);refine⟨.ref s.heap.objs.size,_,I.laid (t':=s.toks) (o:=.tup (xs++ys)) (λb ob q=>cC _ q) (aZ _) ?_,rfl,q2 (λw=>z (r2.jm.mpr w)) _ (I.hok.fresh (aZ _))⟩;exact⟨by rw[dY];exact hz,_,r1.append r2,ly.new _ _⟩
end
noncomputable def jI(n:Nat)(i:Int):Option Nat:=if 0<=i then(if i<n then aC i.toNat else aD)else if -(n:Int)<=i then aC (i+n).toNat else aD
noncomputable def dZ{α:Type}(xs:List α)(i:Int):Option α:=(jI xs.length i).bind λj=>xs[j]?
theorem Mf{n:Nat}{i:Int}{j:Nat}(h:jI n i=aC j):seqIndex? i n=aC j/\j<n/\-(n:Int)<=i/\i<n:=by unfold jI at h;by_cases h0:0<=i;rw[if_pos h0]at h;by_cases h1:i<n;rw[if_pos h1]at h;have e:i.toNat=j:=ny h;exact⟨by rw[seqIndex_of h0 h1,e],by lia,by lia,h1⟩;rw[if_neg h1]at h;cases h;rw[if_neg h0]at h;by_cases h1:-(n:Int)<=i;rw[if_pos h1]at h;have e:(i+n).toNat=j:=ny h;exact⟨by rw[seqIndex_neg (by lia) h1,e],by lia,h1,by lia⟩;rw[if_neg h1]at h;cases h
theorem Mg{α:Type}{xs:List α}{i:Int}{v:α}(h:dZ xs i=aC v):∃j,seqIndex? i xs.length=aC j/\xs[j]?=aC v/\j<xs.length/\-(xs.length:Int)<=i/\i<xs.length:=by
 unfold dZ at h;cases e:jI xs.length i with
 |none=>rw[e]at h;cases h
 |some j=>
  rw[e]at h;obtain⟨h1,h2,h3,h4⟩:=Mf e;exact⟨j,h1,h,h2,h3,h4⟩
theorem wk{α:Type}{xs:List α}{j:Nat}{v:α}(h:xs[j]?=aC v):dZ xs (j:Int)=aC v:=by
 have hj:j<xs.length:=(ku.mp h).1;have e:jI xs.length (j:Int)=aC j:=by unfold jI;rw[if_pos (by lia),if_pos (by lia)];simp
 unfold dZ;rw[e];exact h
noncomputable def EU(b:aq):Prop:=∀o i,subscripted b false o i=operate [o,i] (getItem o i)
noncomputable def rA(X:Cx)(r:R2):Prop:=
 ∀(value slice:aq)(pins:List (ai×Obj))(s:ah)(σ:St)(H:Hp)(x y:V)(v u:aa)(Q:VK),Inv X pins σ H s->RelV x v->RelV y u->r x y H Q->
  subscripted slice false v u=operate [v,u] (getItem v u)->wpAny (model X.prog X.w) X.A (subscriptTail value slice v u) (EP X pins σ Q) X.xe s
noncomputable def EV(X:Cx)(id:String)(r:V->List V->Hp->VK->Prop):Prop:=
 ∀(pins:List (ai×Obj))(s:ah)(σ:St)(H:Hp)(x:V)(xs:List V)(v:aa)(us:List aa)(Q:VK),Inv X pins σ H s->RelV x v->Vals xs us->r x xs H Q->
  wpAny (model X.prog X.w) X.A (call (.builtin id) (v::us)) (EP X pins σ Q) X.xe s
section
variable{X:Cx}{a b:aq}{ta tb:TE}{pos:Pos}
theorem rA.or{r r':R2}(h:rA X r)(h':rA X r'):rA X (λx y H Q=>r x y H Q\/r' x y H Q):=by
 intro value slice pins s σ H x y v u Q I rx ry q hs;rcases q with q|q
 exact h value slice pins s σ H x y v u Q I rx ry q hs;exact h' value slice pins s σ H x y v u Q I rx ry q hs
theorem um{r:R2}(hr:rA X r)(ha:PE X a ta)(hb:PE X b tb)(hs:EU b):PE X (.Subscript a b pos) (ES r ta tb):=by intro pins s σ H Q I h;exact Subscript_ (v5 ha hb I h λv u s2 x y H2 I2 rx ry q=>hr a b pins s2 σ H2 x y v u Q I2 rx ry q (hs _ _))
noncomputable def AS(K:aI):R2:=λx y H Q=>∃p xs i v,x=.ref p/\y=.int i/\cN K H p xs/\dZ xs i=aC v/\Q v H
noncomputable def AU(K:aI):R2:=λx y H Q=>∃p xs i v,x=.ref p/\y=.int i/\cH K H p xs/\dZ xs i=aC v/\Q v H
theorem Mh:rA X (AS X.K):=by
 intro value slice pins s σ H x y v u Q I rx ry h hs;obtain⟨p,xs,i,z,rfl,rfl,hq,he,q⟩:=h;cases rx;obtain⟨t,rfl⟩:=ry;obtain⟨its,r,pl,hz⟩:=I.list hq;obtain⟨j,h1,h2,h3,h4,h5⟩:=Mg he;obtain⟨w,ew,rw'⟩:=r.get h2;have hl:=r.length;have hn:=AK;have fin:EP X pins σ Q w s:=⟨z,H,I,rw',q⟩
 by_cases h0:0<=i;have hj:i.toNat=j:=by rw[seqIndex_of h0 h5]at h1;exact ny h1
 exact item_listR pl.isList h0 (by lia) (by rw[hj];simpa using ew) fin hs;have hj:(i+ (its.toArray.size:Int)).toNat=j:=by rw[seqIndex_neg (by lia) h4]at h1;rw[dR,<-hl];exact ny h1
 exact subscriptTail_builtinR (x:=w) pl.isList.typeIs slot_list_getitem.lookup
  (wpAny_getItem_list_neg (Q:=λr s'=>r=w/\EP X pins σ Q r s') pl.isList (by lia) (by rw[dR]<;>lia) (by lia) (by rw[hj];simpa using ew) ⟨rfl,fin⟩) hs
theorem Sb:rA X (AU X.K):=by
 intro value slice pins s σ H x y v u Q I rx ry h hs;obtain⟨p,xs,i,z,rfl,rfl,hq,he,q⟩:=h;cases rx;obtain⟨t,rfl⟩:=ry;obtain⟨its,r,pl,hz⟩:=I.tuple hq;obtain⟨j,h1,h2,h3,h4,h5⟩:=Mg he;obtain⟨w,ew,rw'⟩:=r.get h2;have hl:=r.length;have hn:=AK;have fin:EP X pins σ Q w s:=⟨z,H,I,rw',q⟩
 exact subscriptTail_builtinR (x:=w) pl.typeIs slot_tuple_getitem.lookup
  (getItem_tuple (j:=j) (Q:=λr s'=>r=w/\EP X pins σ Q r s') pl (by lia) (by lia) (by rw[dR,<-hl];exact h1) (by simpa using ew) ⟨rfl,fin⟩) hs
theorem Se(its:List aa)(n j:Nat)(u:aa):Obj.mapSeq (·.setIfInBounds j u) {cls:=.type "list",data:=.seq its.toArray n} ={cls:=.type "list",data:=.seq (its.set j u).toArray n}:=by simp[Obj.mapSeq]
theorem Inv.lst{pins:List (ai×Obj)}{σ:St}{H:Hp}{s:ah}{p:ai}{xs:List V}(I:Inv X pins σ H s)(h:H p=aC (.lst xs)) :
 ∃(its:List aa) (n:Nat),Vals xs its/\s.heap.get? p=aC {cls:=.type "list",data:=.seq its.toArray n}/\xs.length<=sizeLine:=by
 obtain⟨z,its,n,r,e⟩:=I.hok p _ h;exact⟨its,n,r,e,z⟩
theorem Inv.wm{pins:List (ai×Obj)}{σ:St}{H:Hp}{s:ah}{p:ai}{xs ys:List V}{its its':List aa}{n n':Nat}{f:Obj->Obj}(I:Inv X pins σ H s)(h:H p=aC (.lst xs))
 (ho:s.heap.get? p=aC {cls:=.type "list",data:=.seq its.toArray n}) (hf:f {cls:=.type "list",data:=.seq its.toArray n} ={cls:=.type "list",data:=.seq its'.toArray n'}) (r:Vals ys its') (hz:ys.length<=sizeLine) (t:Nat) :
 Inv X pins σ (upd H p (.lst ys)) {s with heap:=s.heap.update p f,toks:=t}:=by
 have e:(s.heap.update p f).get? p=aC {cls:=.type "list",data:=.seq its'.toArray n'}:=by rw[yt f ho (by rw[hf]<;>rfl),hf]
 refine I.write (x:=p) (e:=p) (by rw[h];trivial) (.inl rfl) (λb u hb q=>(vL _ _ (eE hb)).trans q) ⟨_,e⟩ ?_;exact⟨hz,its',n',r,e⟩
noncomputable def AV:V->V->V->Hp->(Hp->Prop)->Prop:=λo i v H Q=>∃p xs k j,o=.ref p/\i=.int k/\H p=aC (.lst xs)/\jI xs.length k=aC j/\Q (upd H p (.lst (xs.set j v)))
theorem Sf:Aq X AV:=by
 intro pins s σ H o i v ov iv u Q I ro ri rv h;obtain⟨p,xs,k,j,rfl,rfl,hp,hj,q⟩:=h;cases ro;obtain⟨t,rfl⟩:=ri;obtain⟨its,n,r,ho,hz⟩:=I.lst hp;obtain⟨h1,h2,h3,h4⟩:=Mf hj;have hl:=r.length;have hn:=AK;have I':Inv X pins σ (upd H p (.lst (xs.set j v))) {s with heap:=s.heap.update p (Obj.mapSeq (·.setIfInBounds j u))}:=
  I.wm hp ho (Se its n j u) (r.set rv j) (by rw[yy];exact hz) s.toks
 by_cases h0:0<=k;have hk:k.toNat=j:=by rw[seqIndex_of h0 h4]at h1;exact ny h1
 exact PySem.W.ki_setAt ho h0 (by lia) (by rw[dR,<-hl];exact h4) (by rw[hk];exact⟨_,I',q⟩);have hk:(k+ (its.toArray.size:Int)).toNat=j:=by rw[seqIndex_neg (by lia) h3]at h1;rw[dR,<-hl];exact ny h1
 exact PySem.W.ki_setBack ho (by lia) (by rw[dR,<-hl];exact h3) (by lia) (by rw[hk];exact⟨_,I',q⟩)
theorem Mi(lo hi:Option Int)(n:Nat):(sliceBounds lo hi aD n).1=((HT.bz n 0 lo:Nat):Int)/\(sliceBounds lo hi aD n).2.1=((HT.bz n n hi:Nat):Int)/\(sliceBounds lo hi aD n).2.2=1:=by
 refine⟨?_,?_,rfl⟩;cases lo with
 |none=>simp[sliceBounds,HT.bz]
 |some i=>
  simp only[sliceBounds,HT.bz,Option.getD_none,show(1:Int)>0 by decide,dH];by_cases h:i<0;simp only[h,dH]<;>lia;simp only[h,fy]<;>lia
 cases hi with
 |none=>simp[sliceBounds,HT.bz]
 |some i=>
  simp only[sliceBounds,HT.bz,Option.getD_none,show(1:Int)>0 by decide,dH];by_cases h:i<0;simp only[h,dH]<;>lia;simp only[h,fy]<;>lia
theorem Sg(its:List aa)(lo hi:Option Int):slicePick its.toArray lo hi aD=((its.drop (HT.bz its.length 0 lo)).take (HT.bz its.length its.length hi-HT.bz its.length 0 lo)).toArray:=by obtain⟨h1,h2,h3⟩:=Mi lo hi its.toArray.size;unfold slicePick;rw[h1,h2,h3];simp only[sliceRange_one,pick_run,dR]<;>rfl
noncomputable def AW(K:aI):V->Option Int->Option Int->Hp->VK->Prop:=λx lo hi H Q=>∃a xs,x=.ref a/\cN K H a xs/\∀p,H p=aD->Q (.ref p) (upd H p (.lst (jS xs lo hi)))
theorem Sh:rz X (AW X.K):=by intro pins s σ H x v vl vu lo hi sl Q I rx hs pl pu h;obtain⟨a,xs,rfl,hx,q⟩:=h;cases rx;obtain⟨its,r,ht,hz⟩:=I.list hx;have hlen:=r.length;refine⟨"list",_,slot_list_getitem.lookup,ht.isList.typeIs,?_⟩;refine wpAny_getItem_list_slice ht.isList hs pl pu .none (by simp) ?_ (by rw[dR]<;>lia);rw[Sg,<-hlen];refine⟨.ref s.heap.objs.size,_,I.laid (t':=s.toks) (o:=.lst (jS xs lo hi)) (λb ob q=>cC _ q) (aZ _) ?_,rfl,q _ (I.hok.fresh (aZ _))⟩;exact⟨gu (Me xs lo hi) hz,_,0,(r.drop (HT.bz xs.length 0 lo)).take (HT.bz xs.length xs.length hi-HT.bz xs.length 0 lo),ji _ rfl⟩
theorem Si:dM X (.builtin "len") (λxs H Q=>∃p ys,xs=[.ref p]/\(cN X.K H p ys\/cH X.K H p ys)/\Q (.int ys.length) H):=by
 intro pins s σ H xs us Q I r h;obtain⟨p,ys,rfl,hq,q⟩:=h;obtain⟨u,rfl,rx⟩:=vals1 r;cases rx;have hn:=AK;rcases hq with hq|hq
 obtain⟨its,r',pl,hz⟩:=I.list hq;have hlen:=r'.length;exact Calls.call_len_list pl.isList (by simp only[dR]<;>lia) ⟨.int ys.length,H,I.tok _,⟨s.toks+1,by rw[dR,hlen]⟩,q⟩;obtain⟨its,r',pl,hz⟩:=I.tuple hq;have hlen:=r'.length;exact len_tuple pl (by simp only[dR]<;>lia) ⟨.int ys.length,H,I.tok _,⟨s.toks+1,by rw[dR,hlen]⟩,q⟩
theorem Sj:dM X (.type "list") (λxs H Q=>∃p ys,xs=[.ref p]/\(cN X.K H p ys\/cH X.K H p ys)/\∀l,H l=aD->Q (.ref l) (upd H l (.lst ys))):=by
 intro pins s σ H xs us Q I r h;obtain⟨p,ys,rfl,hq,q⟩:=h;obtain⟨u,rfl,rx⟩:=vals1 r;cases rx;have fin:∀(its:List aa),Vals ys its->ys.length<=sizeLine->∀(h':aA)(c':Nat),(∀b o',s.heap.get? b=aC o'->h'.get? b=aC o')->
  h'.get? s.heap.objs.size=aC {cls:=.type "list",dict:=aD,data:=.seq its.toArray c',slots:=#[]}->EP X pins σ Q (.ref s.heap.objs.size) {s with heap:=h'}:=λits r' hz h' c' kp e=>
  ⟨.ref s.heap.objs.size,_,I.laid (t':=s.toks) kp (aZ _) (show bf X.prog X.w _ h' _ (.lst ys)from⟨hz,its,c',r',e⟩),rfl,q _ (I.hok.fresh (aZ _))⟩
 rcases hq with hq|hq;obtain⟨its,r',pl,hz⟩:=I.list hq;have hlen:=r'.length;obtain⟨o,ho,hc,n,hd⟩:=pl.isList;exact call_list_seq p (.inl rfl) ho hc hd (λh' c' kp e=>fin its r' hz h' c' kp e) (by simp only[dR]<;>lia);obtain⟨its,r',pl,hz⟩:=I.tuple hq;have hlen:=r'.length;obtain⟨o,ho,hc,n,hd⟩:=pl;exact call_list_seq p (.inr rfl) ho hc hd (λh' c' kp e=>fin its r' hz h' c' kp e) (by simp only[dR]<;>lia)
theorem Sk:dM X (.type "tuple") (λxs H Q=>∃p ys,xs=[.ref p]/\((cN X.K H p ys/\∀l,H l=aD->Q (.ref l) (upd H l (.tup ys)))\/(cH X.K H p ys/\Q (.ref p) H))):=by
 intro pins s σ H xs us Q I r h;obtain⟨p,ys,rfl,h⟩:=h;obtain⟨u,rfl,rx⟩:=vals1 r;cases rx;rcases h with⟨hq,q⟩|⟨hq,q⟩
 obtain⟨its,r',pl,hz⟩:=I.list hq;have hlen:=r'.length;refine call_tuple_list pl.isList (λh' kp=>?_) (by simp only[dR]<;>lia);have I1:Inv X pins σ H {s with heap:=h'}:=I.kept (t':=s.toks) kp;have I2:Inv X pins σ (upd H h'.objs.size (.tup ys)) {s with heap:=h'.push {cls:=.type "tuple",data:=.seq its.toArray}}:=
  I1.laid (t':=s.toks) (λb o e=>cC _ e) (aZ _) (show bf X.prog X.w _ _ _ (.tup ys)from⟨hz,its,r',ly.new _ _⟩)
 exact⟨.ref h'.objs.size,_,I2,rfl,q _ (I1.hok.fresh (aZ _))⟩;obtain⟨its,r',pl,hz⟩:=I.tuple hq;exact call_tuple_same pl ⟨.ref p,H,I,rfl,q⟩
noncomputable def Mj(K:aI)(T:String)(x:V)(H:Hp):Prop:=match x with
 |.str _=>T = "str"
 |.int _=>T = "int"
 |.ref p=>(T = "list"/\∃xs,cN K H p xs)\/(T = "tuple"/\∃xs,cH K H p xs)\/
  (T = "dict"/\((∃kvs,H p=aC (.dK kvs))\/∃kvs,H p=aC (.dT kvs)))\/(T = "set"/\∃S n,H p=aC (.set S n))
 |_=>False
theorem Sl{pins:List (ai×Obj)}{σ:St}{H:Hp}{s:ah}{T:String}{x:V}{v:aa}(I:Inv X pins σ H s)(r:RelV x v)(ty:Mj X.K T x H) :
 s.TypeIs v T/\∀a,v=.ref a->∃ob,s.heap.get? a=aC ob/\ob.dict=aD:=by
 cases x with
 |str z=>
  obtain⟨t,rfl⟩:=r;cases(show T = "str"from ty);exact⟨typeIs_str s z t,λ_ e=>nomatch e⟩
 |int i=>
  obtain⟨t,rfl⟩:=r;cases(show T = "int"from ty);exact⟨zO s i t,λ_ e=>nomatch e⟩
 |ref p=>
  cases r;rcases ty with⟨rfl,xs,hq⟩|⟨rfl,xs,hq⟩|⟨rfl,hk⟩|⟨rfl,S,n,hk⟩
  obtain⟨its,_,pl,_⟩:=I.list hq;refine⟨pl.isList.typeIs,λa e=>?_⟩;cases e;obtain⟨o,n,e,c,hd,_⟩:=pl;exact⟨o,e,hd⟩;obtain⟨its,_,⟨o,h1,h2,_,h3⟩,_⟩:=I.nN hq;refine⟨⟨o,h1,h2⟩,λa e=>?_⟩;cases e;exact⟨o,h1,h3⟩;have z:∃o,s.heap.get? p=aC o/\o.ExactDict:=by rcases hk with⟨kvs,hk⟩|⟨kvs,hk⟩;obtain⟨_,_,_,_,o,_,_,e,ex,_⟩:=I.hok p _ hk;exact⟨o,e,ex⟩;obtain⟨_,_,_,_,o,_,_,e,ex,_⟩:=I.hok p _ hk;exact⟨o,e,ex⟩
  obtain⟨o,e,ex⟩:=z;refine⟨⟨o,e,ex.1⟩,λa e2=>?_⟩;cases e2;exact⟨o,e,ex.2.1⟩;obtain⟨o,_,_,_,e,ex,_⟩:=I.hok p _ hk;refine⟨⟨o,e,ex.1⟩,λa e2=>?_⟩;cases e2;exact⟨o,e,ex.2.1⟩
 |_=>exact False.elim ty
noncomputable def Sm(K:aI)(T:String)(r:V->List V->Hp->VK->Prop)(to:TE)(t:TA):TE:=λσ H Q=>to σ H λx H1=>Mj K T x H1/\t σ H1 λxs H2=>r x xs H2 Q
variable{o e:aq}{es:List aq}{to:TE}{t:TA}{name:Str}{apos cpos:Pos}{T id:String}{r:V->List V->Hp->VK->Prop}
theorem nV(pa:PlainAttrs T)(slot:Slot T name id)(hty:typeOf (.builtin id)=pure (.type "method_descriptor"))(hm:EV X id r)(ho:PE X o to)(ha:PA X (e::es) t)
 (hbase:autoParam (attributeBase o name X.env (eval o X.env)=eval o X.env) L2.aR1._auto_1)
 (hfew:autoParam (((backTo cpos (starEach (e::es) X.env)).all (λx=>!x.1)&& (backToKw cpos (keywordEach [] X.env)).all (λx=>x.1.isSome)
   && decide ((e::es).length+ ([]:List Keyword).length+ (if([]:List Keyword).isEmpty then 0 else 1)<30))=true) L2.aR1._auto_1)
 (hline:autoParam ((apos.endLine==cpos.line)=true) L2.aR1._auto_1) (hs:autoParam (starEach (e::es) X.env=(false,eval e X.env)::starEach es X.env) L2.aR1._auto_1) (hplain:autoParam ((backTo cpos (starEach es X.env)).any (·.1)=false) L2.aR1._auto_1) :
 PE X (.Call (.Attribute o name apos) (e::es) [] cpos) (Sm X.K T r to t):=by
 intro pins s σ H Q I h;refine wpAny_Call_method_late hbase hfew hline rfl (aY (ho pins s σ H _ I h) λv s1 z9=>z9.el λx H1 I1 r1 di=>?_);obtain⟨ty,q1⟩:=di;obtain⟨h1,h2⟩:=Sl I1 r1 ty;refine⟨T,id,pa,slot,hty,h1,h2,?_⟩;have hA:=ha cpos pins s1 σ H1 _ I1 q1;rw[hs]at hA ⊢;refine Calls.callWith_builtin (by show(false|| (backTo cpos (starEach es X.env)).any (·.1))=false;rw[hplain]<;>rfl) (Calls.evalArgs_plain ?_);exact aY hA λus s2 z9=>z9.el λvs H2 I2 r2 q2=>hm pins s2 σ H2 x vs v us Q I2 r1 r2 q2
/- xs.append(e),list.index on a AX tuple .. are EV facts of 06m -/
end
noncomputable def Mk(X:Cx)(id:String)(r:V->List V->Hp->VK->Prop):Prop:=
 ∀(pins:List (ai×Obj))(s:ah)(σ:St)(H:Hp)(x:V)(xs:List V)(v:aa)(us:List aa)(Q:VK),Inv X pins σ H s->RelV x v->Vals xs us->r x xs H Q->
  wpAny (model X.prog X.w) X.A (call (.builtin id) (v::us)) (EP X pins σ Q) X.xe s
theorem Vals.one:∀{x:V} {us:List aa},Vals [x] us->∃u,us=[u]/\RelV x u|_,_,.cons r .nil=>⟨_,rfl,r⟩
theorem Vals.rep{xs:List V}{us:List aa}(h:Vals xs us):∀k:Nat,Vals (aR k xs).flatten (aR k us).flatten
 |0=>.nil
 |k+1=>by
  rw[pU,pU,tW,tW];exact Vals.append h (Vals.rep h k)
theorem Hu(its:List aa):∀(k:Nat) (acc:List aa),
 List.foldl (λx1 x2=>x1++x2) acc.toArray (aR k its.toArray)=(acc++(aR k its).flatten).toArray
 |0,acc=>by simp
 |k+1,acc=>by
  have e:acc.toArray++its.toArray=(acc++its).toArray:=by simp
  have e2:(acc++its)++(aR k its).flatten=acc++(aR (k+1) its).flatten:=by rw[pU,tW,List.append_assoc]
  rw[<-e2,<-Hu its k (acc++its),<-e,pU,List.foldl_cons]
section
variable{X:Cx}{pins:List (ai×Obj)}{σ:St}{H:Hp}{s:ah}{l b:ai}{xs ys zs:List V}
theorem Inv.rD{its its':List aa}{n:Nat}{f:Array aa->Array aa}{t':Nat}(I:Inv X pins σ H s)(hH:H l=aC (.lst xs))
 (e:s.heap.get? l=aC {cls:=.type "list",data:=.seq its.toArray n}) (hf:f its.toArray=its'.toArray) (hv:Vals ys its') (hz:ys.length<=sizeLine) :
 Inv X pins σ (upd H l (.lst ys)) {s with heap:=s.heap.update l (Obj.mapSeq f),toks:=t'}:=by
 have q:=PySem.IsL.update e f;rw[hf]at q;refine I.write (x:=l) (e:=l) (by rw[hH];exact trivial) (.inl rfl) (λb' u hb hu=>(vL s.heap (Obj.mapSeq f) (eE hb)).trans hu) ⟨_,q⟩ ?_;exact⟨hz,its',_,hv,q⟩
theorem Inv.AY{its:List aa}{t':Nat}(I:Inv X pins σ H s)(hv:Vals ys its)(hz:ys.length<=sizeLine) :
 Inv X pins σ (upd H s.heap.objs.size (.lst ys)) {s with heap:=s.heap.push {cls:=.type "list",data:=.seq its.toArray},toks:=t'}:=
 I.laid (λ_ _ q=>cC _ q) (aZ _) ⟨hz,its,0,hv,ji _ rfl⟩
theorem Inv.fresh(I:Inv X pins σ H s):H s.heap.objs.size=aD:=I.hok.fresh (aZ _)
theorem Inv.iT(I:Inv X pins σ H s)(hH:H l=aC (.lst xs)):xs.length<=sizeLine/\∃(its:List aa) (n:Nat),Vals xs its/\xs.length=its.length/\s.heap.get? l=aC {cls:=.type "list",data:=.seq its.toArray n}:=by obtain⟨z,its,n,r,e⟩:=I.hok l _ hH;exact⟨z,its,n,r,r.length,e⟩
theorem AZ{n:Nat}(h:n<=sizeLine):Builtin.List.listTooLong n=false:=by unfold Builtin.List.listTooLong;exact gq (by lia)
end
section
variable{X:Cx}
noncomputable def Sn:V->List V->Hp->VK->Prop:=λx vs H Q=>∃l xs y,x=.ref l/\vs=[y]/\H l=aC (.lst xs)/\xs.length<sizeLine/\Q .aN (upd H l (.lst (xs++[y])))
theorem Ml:Mk X "list.append" Sn:=by intro pins s σ H x vs v us Q I rx rv h;obtain⟨l,xs,y,rfl,rfl,hH,hz,q⟩:=h;cases rx;obtain⟨u,rfl,ru⟩:=rv.one;obtain⟨z,its,n,r,hl,e⟩:=I.iT hH;refine nJ F.slot_list_append ⟨_,e,rfl⟩ F.entry_list_append (F.args_list_append_2 _ _) (PySem.list_append l its.toArray n u (by rw[dR];lia)) ⟨e,?_⟩;refine⟨.aN,_,I.rD (its':=its++[u]) hH e (by simp) (r.append (.cons ru .nil)) ?_,rfl,q⟩;rw[dY,iR];lia
noncomputable def So:V->List V->Hp->VK->Prop:=λx vs H Q=>∃l b xs zs,x=.ref l/\vs=[.ref b]/\H l=aC (.lst xs)/\H b=aC (.lst zs)/\xs.length+zs.length<=sizeLine/\Q .aN (upd H l (.lst (xs++zs)))
theorem zwi:Mk X "list.extend" So:=by
 intro pins s σ H x vs v us Q I rx rv h;obtain⟨l,b,xs,zs,rfl,rfl,hH,hB,hz,q⟩:=h;cases rx;obtain⟨u,rfl,ru⟩:=rv.one;cases ru;obtain⟨z,its,n,r,hl,e⟩:=I.iT hH;obtain⟨z2,its2,n2,r2,hl2,e2⟩:=I.iT hB;have hsz:its.toArray.size+its2.toArray.size<=sizeLine:=by rw[dR,dR];lia
 have jT:¬(!its.toArray.isEmpty&&Builtin.List.listTooLong (its.toArray.size+its2.toArray.size))=true:=by rw[AZ hsz,Bool.and_false];exact ic
 refine nJ F.slot_list_extend ⟨_,e,rfl⟩ F.entry_list_extend (F.args_list_extend_2 _ _)
  (AutoSeq1.list_extend_list_list_0 l its.toArray n b its2.toArray n2 jT (by rw[dR];lia) (by lia)) ⟨e,e2,?_⟩
 refine⟨.aN,_,I.rD (its':=its++its2) hH e (by simp) (r.append r2) ?_,rfl,q⟩;rw[dY];lia
noncomputable def A5:R2:=λx y H Q=>∃l b xs zs,x=.ref l/\y=.ref b/\H l=aC (.lst xs)/\H b=aC (.lst zs)/\xs.length+zs.length<=sizeLine/\∀p,H p=aD->Q (.ref p) (upd H p (.lst (xs++zs)))
theorem Hv:dh X (binaryOp .Add) A5:=by
 intro pins s σ H x y v u Q I rx ry h;obtain⟨l,b,xs,zs,rfl,rfl,hH,hB,hz,q⟩:=h;cases rx;cases ry;obtain⟨z,its,n,r,hl,e⟩:=I.iT hH;obtain⟨z2,its2,n2,r2,hl2,e2⟩:=I.iT hB;refine PySem.P.add_list e e2 ?_ (by rw[dR,dR];lia);have ea:its.toArray++its2.toArray=(its++its2).toArray:=by simp
 rw[ea];exact⟨.ref _,_,I.AY (t':=s.toks) (r.append r2) (by rw[dY];lia),rfl,q _ I.fresh⟩
noncomputable def A6:R2:=λx y H Q=>∃l k xs,x=.ref l/\y=.int k/\H l=aC (.lst xs)/\-(2 ^ 63)<=k/\k<2 ^ 63/\xs.length*k.toNat<=sizeLine/\
 ∀p,H p=aD->Q (.ref p) (upd H p (.lst (aR k.toNat xs).flatten))
theorem Hw{α:Type}(xs:List α)(k:Nat):(aR k xs).flatten.length=k*xs.length:=by
 induction k with|zero=>simp|succ k ih=>rw[pU,tW,dY,ih,Nat.succ_mul,Nat.add_comm]
theorem Sq:dh X (binaryOp .Mult) A6:=by
 intro pins s σ H x y v u Q I rx ry h;obtain⟨l,k,xs,rfl,rfl,hH,h1,h2,hz,q⟩:=h;cases rx;obtain⟨t,rfl⟩:=ry;obtain⟨z,its,n,r,hl,e⟩:=I.iT hH;have hlen:its.toArray.size*k.toNat<=sizeLine:=by rw[dR,<-hl];exact hz
 have hcap:¬its.toArray.size*k.toNat> (2 ^ 63-1)/8:=by
  have:(sizeLine:Nat)<=(2 ^ 63-1)/8:=by decide
  lia
 have hfit:¬(!Builtin.List.listFitsIndex k)=true:=by rw[fitsIndex_both h1 h2];exact ic
 have jT:¬Builtin.List.listTooLong (its.toArray.size*k.toNat)=true:=by rw[AZ hlen];exact ic
 have hnew:List.foldl (λx1 x2=>x1++x2) #[] (aR (if its.toArray.isEmpty=true then 0 else k.toNat) its.toArray)=(aR k.toNat its).flatten.toArray:=by
  have f0:∀m:Nat,List.foldl (λx1 x2=>x1++x2) #[] (aR m its.toArray)=(aR m its).flatten.toArray:=λm=>by
   have:=Hu its m [];rw[mD]at this;exact this
  rw[f0];cases its with|nil=>simp|cons a r'=>rw[if_neg (by simp)]
 refine wpAny_binaryOp_repeat_ref (T:="list") (U:="int") (by decide) ⟨_,e,rfl⟩ (λs'=>zO s' k t) noFill_list_mul F.fills_int_mul EC repeat_list F.slot_int_index.lookup
  (nJ EC (zO s k t) F.entry_int_rmul (F.args_int_rmul_2 _ _) (int___rmul___int_list k t l its.toArray n)
    ⟨e,rfl,⟨_,e,rfl⟩,nJ F.slot_list_mul ⟨_,e,rfl⟩ F.entry_list_mul (F.args_list_mul_2 _ _) (AutoListH.list___mul___list_int_3 l its.toArray n k t hfit hcap jT) ⟨e,?_⟩⟩)
 rw[hnew];exact⟨.ref _,_,I.AY (t':=s.toks) (r.rep k.toNat) (by rw[Hw,Nat.mul_comm];exact hz),rfl,q _ I.fresh⟩
end
section
variable{prog:aj}{w:ak}{A:ao}{E:aa->ah->Prop}{s:ah}
theorem Ss(its its2:List aa)(a c:Nat):its.toArray.extract 0 a++its2.toArray++its.toArray.extract c its.toArray.size=(its.take a++its2++its.drop c).toArray:=by
 apply Array.toList_inj.mp;first
  |(simp
    exact Ej (by simp))
  |simp[Ej]
  |simp
end
end L2
namespace Mm
open PySem PySem.W PySem.Calls PyProof.Rows
theorem Su{P:Params}{h:aA}:∀(ns:List Int) (vs:List aa),WellAll P h vs (ns.map WData.int)->IntsAre vs ns:=by
 intro ns;induction ns with
 |nil=>
  intro vs w;rw[nu]at w;cases w;exact .nil
 |cons n ns ih=>
  intro vs w;rw[eS]at w;cases w with
  |cons a b=>
   cases a;exact .cons _ _ (ih _ b)
theorem Sv{l:OpenLaw}{n:Nat}(hn:l.most=aC n){P:Params}{h:aA}{args:List WData}{vals:List aa}
 (hpre:l.row.toRowW.claim.pre args) (hwl:WellAll P h vals args) :
 ∃a vs ns,vals=[Value.ref a]/\args=[WData.list (ns.map WData.int)]/\h.get? a=aC {cls:=.type "list",data:=.seq vs.toArray}/\IntsAre vs ns/\ns.length<=n:=by
 have hsh:WShape.hasAll [] args [.list .int]=true:=(pre_splitW hpre).1;have hc:l.pre.holds [] {args:=args}=true:=(pre_splitW hpre).2;obtain⟨d,r,rfl,h1,h2⟩:=hasAllW_cons hsh;obtain rfl:=hasAllW_nil h2;obtain⟨xs,rfl,h3⟩:=hasW_list h1;obtain⟨ns,rfl⟩:=items_int h3;have hlen:ns.length<=n:=by
  unfold OpenLaw.pre at hc;have h4:(WTm.not (.lt (.lit (.int (n:Int))) (.len (.arg 0)))).holds [] {args:=[.list (ns.map .int)]}=true:=by have h4:=(holds_andW hc).1;rw[hn]at h4;exact h4
  have h5:=condW_of h4 (w_not (w_lt w_lit (w_len_list (w_arg rfl))));rw[bQ]at h5;refine Nat.le_of_not_lt λq=>?_;have q':(n:Int)< ((ns.length:Nat):Int):=by lia
  first
   |(rw[jD q']at h5;exact absurd h5 (by decide))
   |(simp at h5;lia)
 cases hwl with
 |cons w1 w2=>
  cases w2;cases w1 with|list ho hall=>exact⟨_,_,ns,rfl,rfl,ho,Su ns _ hall,hlen⟩
theorem Sw(l:OpenLaw)(args:List WData):l.row.toRowW.claim.post args (.bool true) args=true:=
 postW_of (r:=l.row.toRowW) (X:=(true==true))
  (show WShape.has [] (.bool true) .bool=true by first|rfl|decide|simp[WShape.has,WShape.arms,WShape.armsAll])
  (show(WTm.eq .res (.lit (.bool true))).value [] {args:=args,res:=aC (.bool true),after:=args}=aC (.bool (true==true))from w_eq_bool (w_res rfl) w_lit) rfl
theorem jU{l:OpenLaw}{n:Nat}{q:aj}{loose:List Str}{XP:(Str->Option aa)->aA->Prop}{YP:ak->aA->Prop}{d:DefRec}
 (hn:l.most=aC n) (hdf:d.params.defaults=[])
 (call:∀(w:ak)(s₀ s₁:ah)(mg mb:Str->Option aa)(fa:ai)(o:Obj)(pm cd doc:aa)(a:ai)(vs:List aa)(ns:List Int),
   Ground q loose [] XP w s₀ mg mb s₁.heap->YP w s₁.heap->
   s₁.heap.get? fa=aC o->o.data=.func (docDef d.name d.params d.body d.scope pm cd doc)->s₁.heap.CodeRec cd d.name->mg d.name=aC (.ref fa)->
   s₁.heap.get? a=aC {cls:=.type "list",data:=.seq vs.toArray}->IntsAre vs ns->ns.length<=n->s₁.gens = #[]->
   codeAny (model l.prog w) callerA (.call (.ref fa) ⟨[.ref a],[]⟩) (λr s'=>r=.ok (.ret (.bool true))/\OldK s₁.heap s'.heap/\s'.os=s₁.os/\AllBare s'.gens) s₁) :
 WalkO q loose XP YP l.row.toRowW d [] (λf vs=>PySem.call f vs):=by
 intro w s₀ s₁ mg mb G Y fa o pm cd doc dV kV ho hd hcd hD hmg hg args vals as hpre hlay hrd hwl hlo;obtain rfl:dV=.none:=Dflts.none hD hdf;obtain rfl:kV=.none:=Dflts.noKw hD;obtain⟨a,vs,ns,rfl,rfl,hobj,hints,hlen⟩:=Sv hn hpre hwl;refine enter_call (vI (call w s₀ s₁ mg mb fa o pm cd doc a vs ns G Y ho (fd_plain hd) hcd hmg hobj hints hlen hg) λr s' hq=>?_);obtain⟨rfl,h2,h3,h4⟩:=hq;exact⟨.inl ⟨.bool true,.bool true,[],rfl,λ_=>rfl,.bool true,Sw l _,λ_=>⟨List.Pairwise.nil,λ_ hm=>(nomatch hm)⟩⟩,h2,h3,h4⟩
end Mm
namespace L2
open PySem PySem.Spec PyProof.Rows
theorem Mn:∀{vs:List aa} {ns:List Int},IntsAre vs ns->Vals (ns.map V.int) vs|_,_,.nil=>.nil|_,_,.cons n t h=>.cons ⟨t,rfl⟩ (Mn h)
noncomputable def wo(H:Hp):Prop:=∀b,H b=aD\/∃o xs,H b=aC (.cG o (.lst xs))
theorem Sx{P:aj}{w:ak}{K:aI}{mg mb:Str->Option aa}{CX:lB}{k:Nat}{fa a:ai}{fd:av}{x:Str}{sp:Sp}{s₁:ah}{vs:List aa}{ns:List Int}
 (KX:K.In s₁.heap) (hns:s₁.heap.Ns mainGlobals mg) (hb:s₁.heap.Ns builtinsNs mb) (Sy:∀x:Str,x≠"__name__"->mb x=bootBuiltins x) (hlim:s₁.heap.NoLimit) (hg:s₁.gens = #[])
 (ha:s₁.heap.get? a=aC {cls:=.type "list",data:=.seq vs.toArray}) (hi:IntsAre vs ns) (hl:ns.length<=sizeLine) (hr:bS k callerA)
 (F:∀base:aA,K.In base->base.Ns mainGlobals mg->cD P w K mg base CX k fa fd [x] sp) (hbind:∀(s:ah)(u:aa),BindsTo s fd ⟨[u],[]⟩ [(x,u)])
 (jR:∀H:Hp,wo H->cN K H a (ns.map V.int)->sp [.ref a] H (λv _=>v=.bl true) λ_ _ _=>False)
 (Hy:∀H e s',CX [] H s₁ (λ_ _ _=>False) e s'->False) :
 codeAny (model P w) callerA (.call (.ref fa) ⟨[.ref a],[]⟩) (λr s'=>r=.ok (.ret (.bool true))/\OldK s₁.heap s'.heap/\s'.os=s₁.os/\AllBare s'.gens) s₁:=by
 have rv:=Mn hi;have Hz:=hi.length;have core:∀H:Hp,wo H->cN K H a (ns.map V.int)->dS P w H s₁.heap->(∀b,H b≠aD->b=a)->(H a≠aD->K.lookup a=aD)->
  codeAny (model P w) callerA (.call (.ref fa) ⟨[.ref a],[]⟩) (λr s'=>r=.ok (.ret (.bool true))/\OldK s₁.heap s'.heap/\s'.os=s₁.os/\AllBare s'.gens) s₁:=by
  intro H hO hS hok hA hK;have base_of:∀{b:ai}{o:Obj},s₁.heap.get? b=aC o->H b=aD->(jk s₁.heap H).get? b=aC o:=λe n=>QD e n;have AN:∀{b:ai}{o:Obj}{es:Array DictEntry}{ep:Nat},s₁.heap.get? b=aC o->o.data=.dict es ep->H b=aD:=λ{b o es ep} e d=>by
   cases q:H b with
   |none=>rfl
   |some u=>
    have e':b=a:=hA b (by rw[q];simp);subst e';rw[ha]at e;cases e;have d':Data.seq vs.toArray _=Data.dict es ep:=d;cases d'
  have EW:∀{b:ai}{m:Str->Option aa},s₁.heap.Ns b m->(jk s₁.heap H).Ns b m:=λ{b m}⟨o,es,ep,e,d,r⟩=>⟨o,es,ep,base_of e (AN e d),d,r⟩
  have Mp:K.In (jk s₁.heap H):=λb o e=>base_of (KX b o e) (by
   cases q:H b with
   |none=>rfl
   |some u=>
    have e':b=a:=hA b (by rw[q];simp);subst e';rw[hK (by rw[q];simp)]at e;cases e)
  have hM:Mod K mg (jk s₁.heap H):=⟨Mp,EW hns,⟨mb,EW hb,Sy⟩,let⟨mc,h1,h2⟩:=hlim;⟨mc,EW h1,h2⟩⟩
  have e0:jQ P w K mg (jk s₁.heap H) callerA [] s₁ H:=⟨rfl,hM,λb o e=>QE e,Nat.le_of_eq (QC _ _),trivial,λb hb=>absurd (show b∈([]:List ai)from hb) (by simp),hok,.of_eq hg⟩
  refine vI ((F _ Mp (EW hns)).run callerA [] s₁ H ⟨[.ref a],[]⟩ [.ref a] [.ref a] _ _ hr e0 (hbind s₁ (.ref a)) (.cons rfl .nil) (jR H hO hS)) λr s' h=>?_;cases r with
  |error e=>exact(Hy H e s' h).elim
  |ok fl=>
   cases fl with
   |next=>exact False.elim h
   |brk=>exact False.elim h
   |cont=>exact False.elim h
   |ret u=>
    obtain⟨v,H',os,bare,un,HA,r',q⟩:=h;have q':v=.bl true:=q;subst q';obtain rfl:u=Value.bool true:=r';refine⟨rfl,OldK.of_keep λb o e=>?_,os,bare⟩;cases q:H b with
    |none=>exact un.keep b o e q (by intro z;exact absurd (show b∈([]:List ai)from z) (by simp)) (by simp)
    |some u=>
     rcases hO b with z|⟨ob,xs,z⟩;rw[q]at z;cases z;have z2:=un.gT b ob _ z;obtain⟨e1,_⟩:=hok b _ z;obtain⟨e2,_⟩:=HA b _ z2;rw[e]at e1;cases e1;exact e2
 cases hk:K.lookup a with
 |some o=>
  have e:=KX a o hk;rw[ha]at e;cases e;refine core (λ_=>aD) (λ_=>.inl rfl) (.inr ⟨_,vs.toArray,_,hk,rfl,rfl,rfl,by rw[dR,Hz];exact hl,by simpa using rv⟩) (λb u z=>by have z':(aD:Option HO)=aC u:=z;cases z') (λb z=>absurd rfl z) λz=>absurd rfl z
 |none=>
  refine core (λb=>if b=a then aC (.cG {cls:=.type "list",data:=.seq vs.toArray} (.lst (ns.map V.int)))else aD) (λb=>?_) (.inl (.inr ⟨{cls:=.type "list",data:=.seq vs.toArray},if_pos rfl⟩)) (λb u z=>?_) (λb z=>?_) λ_=>hk;by_cases hb:b=a;exact .inr ⟨_,_,if_pos hb⟩;exact .inl (if_neg hb);by_cases hb:b=a;have z':=(if_pos hb).symm.trans z;cases z';subst hb;exact⟨ha,by rw[bQ];exact hl,vs,_,rv,ha⟩;have z':=(if_neg hb).symm.trans z;cases z';by_cases hb:b=a;exact hb;exact absurd (if_neg hb) z
theorem Sz{l:PySem.W.OpenLaw}{n k:Nat}{q:aj}{loose:List Str}{XP:(Str->Option aa)->aA->Prop}{YP:ak->aA->Prop}{d:DefRec}{K:Params->aI}{CX:ak->lB}{sp:ak->Sp}{x:Str}
 (hn:l.most=aC n) (hn2:n<=sizeLine) (hdf:d.params.defaults=[]) (hr:bS k callerA)
 (hY:∀(w:ak)(h:aA),YP w h->(K w.params).In h)
 (F:∀(w:ak)(mg:Str->Option aa)(fa:ai)(h:aA),(K w.params).In h->h.Ns mainGlobals mg->mg d.name=aC (.ref fa)->
   ∃fd:av,(∀(s:ah)(u:aa),BindsTo s fd ⟨[u],[]⟩ [(x,u)])/\
    ∀base:aA,(K w.params).In base->base.Ns mainGlobals mg->cD l.prog w (K w.params) mg base (CX w) k fa fd [x] (sp w))
 (jR:∀(w:ak)(H:Hp)(a:ai)(ns:List Int),ns.length<=n->wo H->cN (K w.params) H a (ns.map V.int)->sp w [.ref a] H (λv _=>v=.bl true) λ_ _ _=>False)
 (Hy:∀(w:ak)(H:Hp)(s:ah)(e:aa)(s':ah),CX w [] H s (λ_ _ _=>False) e s'->False) :
 PySem.W.WalkO q loose XP YP l.row.toRowW d [] (λf vs=>PySem.call f vs):=by
 refine Mm.jU hn hdf λw s₀ s₁ mg mb fa o pm cd doc a vs ns G Y ho hd hcd hmg hobj hints hlen hg=>?_;have KX:=hY w _ Y;obtain⟨fd,hb,hF⟩:=F w mg fa _ KX G.T.g hmg;exact Sx KX G.T.g G.T.b G.T.builtins G.T.nolimit hg hobj hints (gu hlen hn2) hr hF hb (λH hO hS=>jR w H a ns hlen hO hS) λH e s'=>Hy w H s₁ e s'
noncomputable def SD(s:au):Arguments:=match s with|.FunctionDef _ a _ _ _ _ _ _ _ _=>a|_=>{posonlyargs:=[],args:=[],vararg:=aD,kwonlyargs:=[],kw_defaults:=[],kwarg:=aD,defaults:=[]}
noncomputable def yN(s:au):List au:=match s with|.FunctionDef _ _ b _ _ _ _ _ _ _=>b|_=>[]
noncomputable def gU(s:au):az:=match s with|.FunctionDef _ _ _ _ _ _ sc _ _ _=>sc|_=>{kind:=.function,names:=[],isGenerator:=false,isCoroutine:=false}
noncomputable abbrev jJ:lB:=λ_ _ _ _ _ _=>False
noncomputable abbrev E0:XK:=λ_ _ _=>False
theorem lD{X:Cx}:wg jJ X E0:=λ_ _ _ _ _ _ _ h=>h.elim
theorem HB{n:Nat}(h:n<=1000):n<sizeLine:=Nat.lt_of_le_of_lt h (by decide)
theorem cP{A B:Prop}(h:B):if false=true then A else B:=by rw[if_neg ic];exact h
noncomputable def nW(cells:List (Str×ai)):List (Str×NameKind)->List (Str×ai)->List (Str×ai)|[],cs=>cs|(n,k)::r,cs=>nW cells r (if k == .free then(match cells.lookup n with|some c=>(n,c)::cs|none=>cs)else cs)
theorem Mq{scope:az}{env:Env}(hf:∀y∈scope.names,y.2=.free->∃c,env.cells.lookup y.1=aC c):closureFor scope env=pure (nW env.cells scope.names []):=by
 have go:∀(l:List (Str×NameKind))(cs:List (Str×ai)),(∀y∈l,y.2=.free->∃c,env.cells.lookup y.1=aC c)->
  (forIn l cs λ(x:Str×NameKind)(r:List (Str×ai))=>(match x with
    |(name,kind)=>if(kind==NameKind.free)=true then(do let a <-cellOf env name;pure (ForInStep.yield ((name,a)::r)))else pure (ForInStep.yield r):Sem (ForInStep (List (Str×ai)))))=(pure (nW env.cells l cs):Sem (List (Str×ai))):=by
  intro l;induction l with
  |nil=>intro cs _;rfl
  |cons x r ih=>
   intro cs h;obtain⟨n,k⟩:=x;rw[zR];by_cases hk:(k==NameKind.free)=true;have hk':k=.free:=by simpa using hk
   obtain⟨c,hc⟩:=h (n,k) fQ hk';have hc':env.cells.lookup n=aC c:=hc;simp only[hk,dH,cellOf,hc',nW];exact ih _ λy hy=>h y (eH _ hy);have hk':(k==NameKind.free)=false:=by simpa using hk
   simp only[hk',fS,fy,nW];exact ih _ λy hy=>h y (eH _ hy)
 have e:=go scope.names [] hf;unfold closureFor;refine Eq.trans (nk (λt=>t >>= λcs=>pure cs) e) ?_;rfl
theorem Mr{cells:List (Str×ai)}:∀(l:List (Str×NameKind)) (cs:List (Str×ai)),(∀x c,cs.lookup x=aC c->cells.lookup x=aC c)->∀x c,(nW cells l cs).lookup x=aC c->cells.lookup x=aC c
 |[],cs,h=>h
 |(n,k)::r,cs,h=>Mr r _ λx c e=>by
  by_cases hk:(k==NameKind.free)=true;simp only[hk,dH]at e;cases hc:cells.lookup n with
  |none=>rw[hc]at e;exact h x c e
  |some d=>
   rw[hc]at e;simp only[iy]at e;by_cases hx:(x==n)=true;simp only[hx]at e;cases e;rw[show x=n by simpa using hx];exact hc;have hx':(x==n)=false:=by simpa using hx
   simp only[hx']at e;exact h x c e
  have hk':(k==NameKind.free)=false:=by simpa using hk
  simp only[hk',fS,fy]at e;exact h x c e
theorem Ms{cells:List (Str×ai)}{x:Str}{c:ai}(hc:cells.lookup x=aC c):∀(l:List (Str×NameKind)) (cs:List (Str×ai)),cs.lookup x=aC c->(nW cells l cs).lookup x=aC c
 |[],cs,h=>h
 |(n,k)::r,cs,h=>Ms hc r _ (by
  by_cases hk:(k==NameKind.free)=true;simp only[hk,dH];cases hn:cells.lookup n with
  |none=>exact h
  |some d=>
   simp only[iy];by_cases hx:(x==n)=true;have:x=n:=by simpa using hx
   subst this;rw[hc]at hn;cases hn;simp;have hx':(x==n)=false:=by simpa using hx
   simp only[hx'];exact h
  have hk':(k==NameKind.free)=false:=by simpa using hk
  simp only[hk',fS,fy];exact h)
theorem HC{cells:List (Str×ai)}{x:Str}{c:ai}(hc:cells.lookup x=aC c):∀(l:List (Str×NameKind)) (cs:List (Str×ai)),(x,NameKind.free)∈l->(nW cells l cs).lookup x=aC c
 |[],cs,h=>by cases h
 |(n,k)::r,cs,h=>by
  rcases iQ.mp h with e|e;cases e;refine Ms hc r _ ?_;rw[hc];simp[iy];exact HC hc r _ e
noncomputable abbrev Cx.comp(X:Cx)(N:List Str)(scope:az)(C:ai)(s₀:ah)(H₀:Hp)(ex:List ai):Cx:=
 {X with N:=N,s₀:=s₀,H₀:=H₀,env:=compEnvC scope (nW X.env.cells scope.names []) C X.env,outer:=X.stack,stack:=X.stack,ex:=ex,fn:=λ_=>false,pn:=[],xe:=λ_ _=>False}
structure cj(X:Cx)(ow fr:List Str)(ix:List Nat)(scope:az):Prop where
 kind:scope.kind=.function
 kM:∀y∈scope.names,y.2≠.cell
 names:∀y∈scope.names,y.2=.local->scope.names.lookup y.1=aC .local
 own:∀x∈ow,scope.names.lookup x=aC .local
 free:∀y∈scope.names,y.2=.free->X.env.kindOf y.1=aC .cell\/X.env.kindOf y.1=aC .free
 at_:∀(k:Nat)(x:Str),fr[k]?=aC x->∃j,ix[k]?=aC j/\X.N[j]?=aC x/\scope.names.lookup x=aC .free
 len:ix.length=fr.length
noncomputable def mK(ow fr:List Str)(ix:List Nat)(σ:St):St:=ow.map (λ_=>aD)++ix.map λj=>(σ[j]?).join
theorem Mu{x:Str}{k:NameKind}:∀{l:List (Str×NameKind)},l.lookup x=aC k->(x,k)∈l
 |[],h=>by cases h
 |(n,j)::r,h=>by
  simp only[iy]at h;by_cases hx:(x==n)=true;simp only[hx]at h;cases h;rw[show x=n by simpa using hx];exact fQ;have hx':(x==n)=false:=by simpa using hx
  simp only[hx']at h;exact eH _ (Mu h)
theorem HE{env:Env}:∀{l:List (Str×NameKind)} {x:Str} {k:NameKind},
 (l.map λ(n,k)=>if(k==NameKind.free&&env.scope.kind == .function&&env.kindOf n==aC .cell)then(n,NameKind.cell)else(n,k)).lookup x=aC k->k≠.local->(∀y∈l,y.2≠.cell)->k=.cell\/k=.free->(x,NameKind.free)∈l
 |[],x,k,h,_,_,_=>by cases h
 |(n,j)::r,x,k,h,hk,hc,hh=>by
  have ih:=@HE env r x k;rw[eS]at h;by_cases hc':(j==NameKind.free&&env.scope.kind == .function&&env.kindOf n==aC .cell)=true;simp only[hc',dH,iy]at h;have hj:j=.free:=by simp only[aS,i6]at hc';exact hc'.1.1
  by_cases hx:(x==n)=true;rw[show x=n by simpa using hx,hj];exact fQ;have hx':(x==n)=false:=by simpa using hx
  simp only[hx']at h;exact eH _ (ih h hk (λy hy=>hc y (eH _ hy)) hh);have hcf:(j==NameKind.free&&env.scope.kind == .function&&env.kindOf n==aC .cell)=false:=by simpa using hc'
  simp only[hcf,fS,fy,iy]at h;by_cases hx:(x==n)=true;simp only[hx]at h;cases h;rcases hh with z|z
  exact absurd z (hc _ fQ);rw[show x=n by simpa using hx,z];exact fQ;have hx':(x==n)=false:=by simpa using hx
  simp only[hx']at h;exact eH _ (ih h hk (λy hy=>hc y (eH _ hy)) hh)
theorem EX{env:Env}(hkf:env.scope.kind=.function):∀{l:List (Str×NameKind)} {x:Str},l.lookup x=aC .free->
 (l.map λ(n,k)=>if(k==NameKind.free&&env.scope.kind == .function&&env.kindOf n==aC .cell)then(n,NameKind.cell)else(n,k)).lookup x=aC (if env.kindOf x=aC .cell then .cell else .free)
 |[],x,h=>by cases h
 |(n,j)::r,x,h=>by
  have ih:=@EX env hkf r x;rw[eS];simp only[iy]at h;by_cases hx:(x==n)=true;simp only[hx]at h;cases h;have e:x=n:=by simpa using hx
  subst e;by_cases hq:env.kindOf x=aC .cell;simp[hkf,hq,iy];simp[hq,iy];have hx':(x==n)=false:=by simpa using hx
  simp only[hx']at h;by_cases hc':(j==NameKind.free&&env.scope.kind == .function&&env.kindOf n==aC .cell)=true;simp only[hc',dH,iy,hx'];exact ih h;have hcf:(j==NameKind.free&&env.scope.kind == .function&&env.kindOf n==aC .cell)=false:=by simpa using hc'
  simp only[hcf,fS,fy,iy,hx'];exact ih h
section
variable{X:Cx}{pins:List (ai×Obj)}{σ:St}{H:Hp}{s:ah}{ow fr:List Str}{ix:List Nat}{scope:az}{fp:List ai}
theorem SG(S:cj X ow fr ix scope)(I:Inv X pins σ H s)(hfp:∀b∈fp,fV X pins H b)(hlt:∀b∈fp,b<s.heap.objs.size){h':aA}{tk:Nat}{m:Str->Option aa}(hn:h'.Ns s.heap.objs.size m)(hk:∀b o,s.heap.get? b=aC o->h'.get? b=aC o) :
 Inv (X.comp (ow++fr) scope s.heap.objs.size s H fp) [] (mK ow fr ix σ) H {s with heap:=h',toks:=tk}:=by
 have sub:=Mr (cells:=X.env.cells) scope.names [] (λx c e=>by cases e);have kf:=I.ok.kind;have Mv:∀x c,X.env.cells.lookup x=aC c->c≠s.heap.objs.size:=λx c e z=>by
  obtain⟨v,q⟩:=I.cell x c e;exact absurd q.lt (by rw[z];exact qQ _)
 have HF:∀x,(x,NameKind.free)∈scope.names->∃c,(nW X.env.cells scope.names []).lookup x=aC c/\X.env.cells.lookup x=aC c:=λx hx=>by
  obtain⟨c,hc⟩:=I.ok.has x (S.free _ hx rfl);exact⟨c,HC hc _ _ hx,hc⟩
 refine⟨⟨I.ok.mod,?_,I.ok.glob,I.ok.blt,aZ _,λx y c a b=>I.ok.inj x y c (sub x c a) (sub y c b),λx hx=>?_,λx c e=>?_,I.ok.hd,I.ok.frames,.inl rfl,λb hb=>?_,λb o e=>?_,?_,λb o e hb=>?_,λb hb hz=>?_,I.stack,λb hb=>I.ie b hb⟩,
  rfl,I.bare,Un.kept hk,⟨m,hn,λi x v e1 e2 e3=>?_⟩,λx c e=>?_,I.hok.fresh (aZ _),λx c e=>I.dz x c (sub x c e),λp hp=>?_,I.hok.kept hk,?_⟩
 exact S.kind;have hx':(relabel scope X.env).names.lookup x=aC .cell\/(relabel scope X.env).names.lookup x=aC .free:=hx;have hm:(x,NameKind.free)∈scope.names:=by rcases hx' with z|z;exact HE (env:=X.env) z (by decide) S.kM (.inl rfl);exact HE (env:=X.env) z (by decide) S.kM (.inr rfl)
 obtain⟨c,hc,_⟩:=HF x hm;exact⟨c,hc⟩;cases e;obtain⟨f0,f1,f2,f3,f4,f5⟩:=hfp b hb;refine⟨λz=>?_,λx c e=>f4 x c (sub x c e)⟩;have q:=hlt b hb;rw[z]at q;exact absurd q (qQ _);exact⟨(I.bs b o e).1,(I.bs b o e).2⟩;exact gu I.ok.nM I.sz;obtain⟨f0,f1,f2,f3,f4,f5⟩:=hfp b hb;rcases f3 with z|z;exact I.ok.kJ b o e z;exact absurd (eN (cF (I.ok.bs b o e).1) z) (qQ _);obtain⟨f0,f1,f2,f3,f4,f5⟩:=hfp b hb;rcases iQ.mp (I.jl b hz)with z|z;exact f1 z;exact f2 z;have hlen:ow.length<=i:=by
  by_cases hi:i<ow.length;unfold mK at e2;rw[yu (by simpa using hi),mz]at e2;cases q:ow[i]? with|none=>rw[q]at e2;cases e2|some y=>rw[q]at e2;cases e2
  lia
 have SH:fr[i-ow.length]?=aC x:=by have e1:(ow++fr)[i]?=aC x:=e1;rw[vM hlen]at e1;exact e1
 have Mw:(ix.map λj=>(σ[j]?).join)[i-ow.length]?=aC (aC v):=by unfold mK at e2;rw[vM (by simpa using hlen)]at e2;simpa using e2
 obtain⟨j,hj,hN,hl⟩:=S.at_ _ _ SH;rw[mz,hj]at Mw;have nX:(σ[j]?).join=aC v:=ny Mw;have hσ:σ[j]?=aC (aC v):=by
  cases q:σ[j]? with
  |none=>rw[q]at nX;cases nX
  |some o=>rw[q]at nX;cases o with
   |none=>cases nX
   |some w=>cases nX;rfl
 obtain⟨m0,hm0,SI⟩:=I.loc;have hmem:=Mu hl;have hkf:=S.free _ hmem rfl;have HG:kI X.env.scope x:=hkf.elim (λz=>.inr (.inl z)) λz=>.inr (.inr z);obtain⟨u,ru,lk⟩:=SI j x v hN hσ HG;refine⟨u,ru,.inr ?_⟩;have hcell:∃c,X.env.cells.lookup x=aC c/\s.heap.IsCell c (aC u):=by rcases lk with⟨z,_⟩|⟨_,c,e,z⟩;rcases hkf with q|q;rw[show X.env.kindOf x=aC .local from z]at q;cases q;rw[show X.env.kindOf x=aC .local from z]at q;cases q;exact⟨c,e,z⟩
 obtain⟨c,hc,o,ho,hd⟩:=hcell;refine⟨?_,c,HC hc _ _ hmem,o,hk _ _ ho,hd⟩;show(relabel scope X.env).names.lookup x=aC .cell\/(relabel scope X.env).names.lookup x=aC .free;have q:=EX (env:=X.env) kf hl;by_cases z:X.env.kindOf x=aC .cell;rw[if_pos z]at q;exact .inl q;rw[if_neg z]at q;exact .inr q;obtain⟨v,q⟩:=I.cell x c (sub x c e);obtain⟨o,ho,hd⟩:=q;exact⟨v,o,hk _ _ ho,hd⟩;cases(show p∈([]:List (ai×Obj))from hp);show(mK ow fr ix σ).length=(ow++fr).length;unfold mK;rw[dY,bQ,bQ,dY,S.len]
end
theorem SJ{α:Type}{M:Model}{A:ao}{t:Sem α}{Q:α->ah->Prop}{E:aa->ah->Prop}{s:ah}(h:wpAny M A t Q (λ_ _=>False) s):wpAny M A t Q E s:=gQ h (λ_ _ q=>q) λ_ _ z=>z.elim
noncomputable abbrev uo:aa->ah->Prop:=λ_ _=>False
noncomputable abbrev Mx(ifs:List aq)(env:Env):Sem Bool:=forIn ifs true λc r=>if r=true then do let ok <-isTrue c env (eval c env);pure (ForInStep.yield ok)else pure (ForInStep.yield r)
theorem SK{prog:aj}{w:ak}{A:ao}{R:Result->ah->Prop}{s:ah}{elt target iter:aq}{ifs:List aq}{scope:az}{pos:Pos}{it acc:aa}{env:Env}(I:Nat->ah->Prop)
 (turn:∀n s,I n s->wpAny (model prog w) A (pyNext it) (λr s₁=>match r with
   |none=>R (.ok .next) s₁
   |some v=>wpAny (model prog w) A (letOwnedTupleGo target it v) (λ_ s₀=>wpAny (model prog w) A (assign target env v) (λ_ s₂=>
    wpAny (model prog w) A (Mx ifs env) (λok s₃=>
     if ok=true then wpAny (model prog w) A (eval elt env) (λx s₄=>
      wpAny (model prog w) A (call (.builtin "list.append") [acc,x]) (λ_ s₅=>∃m,m<n/\I m s₅) uo s₄) uo s₃
     else ∃m,m<n/\I m s₃) uo s₂) uo s₀) uo s₁) uo s)
 (n:Nat) (h:I n s) :
 codeAny (model prog w) A (.compLoop (.ListComp elt [⟨target,iter,ifs,0⟩] scope pos) 0 it acc env) R s:=by
 refine codeAny_loop rfl I (λn s hI=>?_) n h;show wpAny _ A ((compTurn (.ListComp elt [⟨target,iter,ifs,0⟩] scope pos) 0 it acc env).onRaise (λx=>do noteFrame x env;theTreesLotGoes x)) _ _ s;refine wpAny_noted (SJ ?_);rw[compTurn_list];refine aJ (jF (aJ (gQ (turn n s hI) (λr s₁ h₁=>?_) λ_ _ h'=>h')));cases r with
 |none=>exact bJ h₁
 |some v=>
  refine aJ (gQ h₁ (λ_ s₀ h₀=>?_) λ_ _ h'=>h');refine aJ (gQ h₀ (λ_ s₂ h₂=>aJ (gQ h₂ (λok s₃ h₃=>?_) λ_ _ h'=>h')) λ_ _ h'=>h');cases ok with
  |true=>
   simp only[dH]at h₃ ⊢;exact aJ (aJ (gQ h₃ (λx s₄ h₄=>aJ (gQ h₄ (λ_ s₅ h₅=>bJ (bJ ⟨rfl,h₅⟩)) λ_ _ h'=>h')) λ_ _ h'=>h'))
  |false=>
   simp only[fS,fy]at h₃ ⊢;exact bJ ⟨rfl,h₃⟩
noncomputable def rE(X:Cx)(ifs:List aq)(t:TT):Prop:=
 ∀(pins:List (ai×Obj))(s:ah)(σ:St)(H:Hp)(Q:Bool->Hp->Prop),Inv X pins σ H s->t σ H Q->wpAny (model X.prog X.w) X.A (Mx ifs X.env) (TP X pins σ Q) X.xe s
noncomputable def HH:TT:=λ_ H Q=>Q true H
theorem SM{X:Cx}:rE X [] HH:=λpins s σ H Q I h=>wpAny_tests_nil ⟨H,I,h⟩
theorem SN{X:Cx}{c:aq}{t:TT}(h:PT X c t):rE X [c] t:=λpins s σ H Q I q=>wpAny_tests_one (h pins s σ H Q I q)
noncomputable def HJ(K:aI)(f:St->St)(wi:TI)(g:TG)(tc:TT)(te:TE):TE:=λσ H Q=>wi σ H λJ H1=>∀D,H1 D=aD->K.lookup D=aD->
 ∃W:Nat->Nat->St->Hp->List V->Prop,(∃m,W 0 m (f σ) (upd H1 D (.lst [])) [])/\∀i m σ' H' ys,W i m σ' H' ys->H' D=aC (.lst ys)/\
  ((J.stop i H'/\Q (.ref D) H')\/(J.go i H'/\∀x H2,J.Au i H' x H2->g x σ' H2 λσ2 H3=>tc σ2 H3 λb H4=>
    if b=true then te σ2 H4 λy H5=>H5 D=aC (.lst ys)/\ys.length<sizeLine/\∃m',m'<m/\W (i+1) m' σ2 (upd H5 D (.lst (ys++[y]))) (ys++[y])
    else ∃m',m'<m/\W (i+1) m' σ2 H4 ys))
section
variable{X:Cx}{ow fr:List Str}{ix:List Nat}{scope:az}{tg iter elt:aq}{ifs:List aq}{pos:Pos}{wi:TI}{g:TG}{tc:TT}{te:TE}
theorem My{pins:List (ai×Obj)}{s:ah}{σ:St}{Q:VK}{RR:aa->ai->Result->ah->Prop}(S:cj X ow fr ix scope)(hc:X.calm=true)
 (hg:∀C s₀ H₀ ex,PG (X.comp (ow++fr) scope C s₀ H₀ ex) tg g) (ht:∀C s₀ H₀ ex,rE (X.comp (ow++fr) scope C s₀ H₀ ex) ifs tc) (he:∀C s₀ H₀ ex,PE (X.comp (ow++fr) scope C s₀ H₀ ex) elt te)
 {itv:aa} {E:aa->ah->Prop}
 (h:GZ X pins σ tg (λJ H1=>∀D,H1 D=aD->X.K.lookup D=aD->
   ∃W:Nat->Nat->St->Hp->List V->Prop,(∃m,W 0 m (mK ow fr ix σ) (upd H1 D (.lst [])) [])/\∀i m σ' H' ys,W i m σ' H' ys->H' D=aC (.lst ys)/\
    ((J.stop i H'/\Q (.ref D) H')\/(J.go i H'/\∀x H2,J.Au i H' x H2->g x σ' H2 λσ2 H3=>tc σ2 H3 λb H4=>
      if b=true then te σ2 H4 λy H5=>H5 D=aC (.lst ys)/\ys.length<sizeLine/\∃m',m'<m/\W (i+1) m' σ2 (upd H5 D (.lst (ys++[y]))) (ys++[y])
      else ∃m',m'<m/\W (i+1) m' σ2 H4 ys))) itv s)
 (fin:∀D C H' s' m,fV X pins H' C->s'.heap.Ns C m->(∀h'',Heap.SameBut C s'.heap h''->Inv X pins σ H' {s' with heap:=h''})->Q (.ref D) H'->RR (.ref D) C (.ok .next) s') :
 wpAny (model X.prog X.w) X.A (newList []) (λacc s₃=>wpAny (model X.prog X.w) X.A (newFunctionEnv scope X.env.globals (nW X.env.cells scope.names []) [] X.env.qual aD .none (aC X.env)) (λcenv s₄=>
  codeAny (model X.prog X.w) X.A (.compStart (.ListComp elt [⟨tg,iter,ifs,0⟩] scope pos) 0 itv acc {cenv with scope:=relabel scope X.env}) (RR acc cenv.locals) s₄) E s₃) E s:=by
 obtain⟨it,fp,tn,J,H1,e,I1,T,st1,f1,hq⟩:=h;subst e;have hD:H1 s.heap.objs.size=aD:=I1.hok.fresh (aZ _);have SO:X.K.lookup s.heap.objs.size=aD:=by
  cases e:X.K.lookup s.heap.objs.size with|none=>rfl|some o=>exact absurd (cF (I1.eF _ _ e)) (qQ _)
 obtain⟨W,⟨m0,w0⟩,turn⟩:=hq _ hD SO;have I3:Inv X pins σ (upd H1 s.heap.objs.size (.lst [])) {s with heap:=s.heap.push {cls:=.type "list",dict:=aD,data:=.seq ([]:List aa).toArray}}:=
  I1.laid (t':=s.toks) (o:=.lst []) (λb u q=>cC _ q) (aZ _) ⟨jG _,[],0,.nil,ji _ rfl⟩
 have A7:∀b∈fp,b<s.heap.objs.size:=λb hb=>by
  obtain⟨o,ho,_⟩:=T.obj _ _ st1 b hb;exact cF ho
 have f3:∀b∈fp,fV X pins (upd H1 s.heap.objs.size (.lst [])) b:=λb hb=>⟨by rw[bX (eB (A7 b hb))];exact(f1 b hb).1,(f1 b hb).2⟩
 refine qH (wpAny_newFunctionEnv S.kM (by intro y hy;simp at hy) (λh₁ hns wu=>?_) S.kind);dsimp only at hns wu ⊢;generalize Mz:({s with heap:=s.heap.push {cls:=.type "list",dict:=aD,data:=.seq ([]:List aa).toArray}}:ah)=s3 at I3;have HK:s3.heap=s.heap.push {cls:=.type "list",dict:=aD,data:=.seq ([]:List aa).toArray}:=by rw[<-Mz]
 rw[<-HK]at hns wu ⊢;have hk:∀b o,s3.heap.get? b=aC o->h₁.get? b=aC o:=λb o e=>wu.extBut b o (eB (cF e)) (cC _ e);have HL:∀b∈fp,b<s3.heap.objs.size:=λb hb=>by rw[HK,nq];exact Ew (A7 b hb)
 have J3:=SG S I3 f3 HL (tk:=s.toks) hns hk;have st3:tn 0 h₁:=T.keep _ _ _ st1 λb hb o e=>hk b o (by rw[HK];exact cC _ e);have HM:∀b∈fp,(X.comp (ow++fr) scope s3.heap.objs.size s3 (upd H1 s.heap.objs.size (.lst [])) fp).Ok->∀{H':Hp},H' b=aD->fV (X.comp (ow++fr) scope s3.heap.objs.size s3 (upd H1 s.heap.objs.size (.lst [])) fp) [] H' b:=λb hb ok H' hn=>
  ⟨hn,(ok.yG b hb).1,ok.kK b hb,.inl hb,(ok.yG b hb).2,λp hp=>by cases(show p∈([]:List (ai×Obj))from hp)⟩
 have back:∀{σ':St}{H':Hp}{s':ah},Inv (X.comp (ow++fr) scope s3.heap.objs.size s3 (upd H1 s.heap.objs.size (.lst [])) fp) [] σ' H' s'->∀h'',Heap.SameBut s3.heap.objs.size s'.heap h''->Inv X pins σ H' {s' with heap:=h''}:=λ{σ' H' s'} I' h'' hs=>by
  have t8:∀b o,s3.heap.get? b=aC o->b≠s3.heap.objs.size:=λb o e=>eB (cF e);have un:Un (frs X.stack) fp (upd H1 s.heap.objs.size (.lst [])) H' s3.heap h'':=
   ⟨λb o e n hb hx=>(hs.2 b (t8 b o e)).trans (I'.base.keep b o e n hb hx),λb o e n hb hx=>by
    obtain⟨sl,q⟩:=I'.base.slot b o e n hb hx;exact⟨sl,(hs.2 b (t8 b o e)).trans q⟩,I'.base.free,λb o e hx=>by
    obtain⟨o',q⟩:=I'.base.there b o e hx;exact⟨o',(hs.2 b (t8 b o e)).trans q⟩,I'.base.tups,I'.base.gT,I'.base.iz⟩
  have hok:dS X.prog X.w H' h'':=λb ob e=>by
   refine(I'.hok b ob e).stay (λc w' hcc q=>(hs.2 c ?_).trans q) (λ_ q=>q) λ_ _ q=>q;rintro rfl;have hfree:=I'.free;rcases hcc with rfl|hcc
   rw[show H' s3.heap.objs.size=aD from hfree]at e;cases e;rw[show H' s3.heap.objs.size=aD from hfree]at hcc;cases hcc
  have hos:s'.os=s3.os:=I'.os;exact I3.Ag (s':={s' with heap:=h''}) (ch:=fp) hos un hok I'.bare λb hb=>by
   obtain⟨_,a1,a2,a3,a4,a5⟩:=f1 b hb;exact⟨a3,a1,a4,a5⟩
 have loop:∀s4:ah,Inv (X.comp (ow++fr) scope s3.heap.objs.size s3 (upd H1 s.heap.objs.size (.lst [])) fp) [] (mK ow fr ix σ) (upd H1 s.heap.objs.size (.lst [])) s4->tn 0 s4.heap->
  codeAny (model X.prog X.w) X.A (.compLoop (.ListComp elt [⟨tg,iter,ifs,0⟩] scope pos) 0 (.ref it) (.ref s.heap.objs.size) (X.comp (ow++fr) scope s3.heap.objs.size s3 (upd H1 s.heap.objs.size (.lst [])) fp).env)
   (RR (.ref s.heap.objs.size) s3.heap.objs.size) s4:=by
  intro s4 I4 SV;refine SK (λn s'=>∃i σ' H' ys,Inv (X.comp (ow++fr) scope s3.heap.objs.size s3 (upd H1 s.heap.objs.size (.lst [])) fp) [] σ' H' s'/\tn i s'.heap/\(∀b∈fp,H' b=aD)/\W i n σ' H' ys) ?_ m0 ⟨0,_,_,[],I4,SV,λb hb=>(f3 b hb).1,w0⟩;rintro n s5 ⟨i,yO,H5,ys,I5,yL,ER,w5⟩;obtain⟨hDl,alt⟩:=turn i n yO H5 ys w5;rcases alt with⟨stop,q⟩|⟨go,step⟩
  .refine aY (T.done (X.comp (ow++fr) scope s3.heap.objs.size s3 (upd H1 s.heap.objs.size (.lst [])) fp) rfl rfl rfl hc i [] s5 yO H5 uo I5 (λb hb=>HM b hb I5.ok (ER b hb)) yL stop) λr s6 di=>?_
   obtain⟨hr,I6⟩:=di;subst hr;obtain⟨m6,SY,_⟩:=I6.loc;exact fin _ _ H5 s6 m6 (I3.mG (aZ _) I6.free) SY (back I6) q
  refine aY (T.item (X.comp (ow++fr) scope s3.heap.objs.size s3 (upd H1 s.heap.objs.size (.lst [])) fp) rfl rfl rfl hc i [] s5 yO H5 uo I5 (λb hb=>HM b hb I5.ok (ER b hb)) yL go) λr s6 di=>?_;obtain⟨u,hr,h6⟩:=di;subst hr;refine aY h6 λ_ s7 di=>?_;obtain⟨x,H7,I7,r7,y7,HN,S0⟩:=di;have S1:=I7.pinned (λb hb=>HM b hb I7.ok (S0 b hb)) (T.obj _ _ HN);have again:∀{uq:St}{H8:Hp}{s8:ah}{zs:List V}{m':Nat},Inv (X.comp (ow++fr) scope s3.heap.objs.size s3 (upd H1 s.heap.objs.size (.lst [])) fp) ([]++Ay fp s7.heap) uq H8 s8->m'<n->W (i+1) m' uq H8 zs->
   ∃m,m<n/\∃i σ' H' ys,Inv (X.comp (ow++fr) scope s3.heap.objs.size s3 (upd H1 s.heap.objs.size (.lst [])) fp) [] σ' H' s8/\tn i s8.heap/\(∀b∈fp,H' b=aD)/\W i m σ' H' ys:=λ{uq H8 s8 zs m'} I8 hm w8=>by
   refine⟨m',hm,i+1,uq,H8,zs,I8.fW,T.keep _ _ _ HN λb hb o e=>(I8.pin (b,o) (nt _ (nt _ (EO hb e)))).1,λb hb=>?_,w8⟩;obtain⟨o,e,d⟩:=T.obj _ _ HN b hb;exact(I8.pin (b,o) (nt _ (nt _ (EO hb e)))).2.1
  refine aY (hg _ _ _ _ _ s7 yO H7 x u _ S1 r7 (step x H7 y7)) λ_ s8 di=>?_;obtain⟨uq,H8,I8,q8⟩:=di;refine aY (ht _ _ _ _ _ s8 uq H8 _ I8 q8) λok s9 z9=>z9.el λH9 I9 q9=>?_;cases ok with
  |false=>
   simp only[fS,fy]at q9 ⊢;obtain⟨m',hm,w9⟩:=q9;exact again I9 hm w9
  |true=>
   simp only[dH]at q9 ⊢;refine aY (he _ _ _ _ _ s9 uq H9 _ I9 q9) λy MA di=>?_;obtain⟨vy,MB,S2,ry,HP,hz,m',hm,S3⟩:=di;refine aY (Ml _ MA uq MB (.ref s.heap.objs.size) [vy] (.ref s.heap.objs.size) [y] (λv H'=>H'=upd MB s.heap.objs.size (.lst (ys++[vy]))) S2 rfl (.cons ry .nil) ⟨_,ys,vy,rfl,rfl,HP,hz,rfl⟩) λ_ s11 di=>?_;obtain⟨v11,H11,S4,_,S5⟩:=di;subst S5;exact again S4 hm S3
 have MC:Inv (X.comp (ow++fr) scope s3.heap.objs.size s3 (upd H1 s.heap.objs.size (.lst [])) fp) [] (mK ow fr ix σ) (upd H1 s.heap.objs.size (.lst [])) {s with heap:=h₁,toks:=s.toks}:=by rw[<-Mz]at J3 ⊢;exact J3
 exact codeAny_compStart_list (loop _ MC st3) (T.self _ 0 _ _ _ st3 (loop _ MC st3))
theorem A8(S:cj X ow fr ix scope)(hc:X.calm)(hi:PI X tg iter wi)
 (hg:∀C s₀ H₀ ex,PG (X.comp (ow++fr) scope C s₀ H₀ ex) tg g) (ht:∀C s₀ H₀ ex,rE (X.comp (ow++fr) scope C s₀ H₀ ex) ifs tc) (he:∀C s₀ H₀ ex,PE (X.comp (ow++fr) scope C s₀ H₀ ex) elt te)
 (hs:∀x,foldedSetIterable iter X.env x=pure x:=by intro _;rfl):PE X (.ListComp elt [⟨tg,iter,ifs,0⟩] scope pos) (HJ X.K (mK ow fr ix) wi g tc te):=by
 intro pins s σ H Q I h;rw[eval_ListComp];refine wpAny_comprehension_free (use:=aD) rfl hs (Mq λy hy e=>I.ok.has _ (S.free y hy e)) S.kind S.names (aY (hi pins s σ H _ I h) λv s1 h1=>aY h1 λitv s2 h2=>?_);exact My (RR:=λacc C=>compPost (model X.prog X.w) X.A X.xe aD (EP X pins σ Q) acc C) S hc hg ht he h2 λD C H' s' m _ hn hI q=>⟨m,hn,λh'' wz=>⟨.ref D,H',hI h'' wz,rfl,q⟩⟩
theorem S6{i:Nat}{y:Str}{py spos:Pos}(hN:X.N.Nodup)(S7:X.N[i]?=aC y)(hy:Loc X.env.scope y)(S:cj X ow fr ix scope)(hc:X.calm)(hi:PI X tg iter wi)
 (hg:∀C s₀ H₀ ex,PG (X.comp (ow++fr) scope C s₀ H₀ ex) tg g) (ht:∀C s₀ H₀ ex,rE (X.comp (ow++fr) scope C s₀ H₀ ex) ifs tc) (he:∀C s₀ H₀ ex,PE (X.comp (ow++fr) scope C s₀ H₀ ex) elt te)
 (hsw:autoParam (swapsWith (.ListComp elt [⟨tg,iter,ifs,0⟩] scope pos) (aC (.Name y py)) spos.line X.env=pure true) L2.aR1._auto_1)
 (hf:autoParam (X.fn y=true\/X.env.scope.names.lookup y=aC .local) L2.aF1._auto_1)
 (hs:∀x,foldedSetIterable iter X.env x=pure x:=by intro _;rfl):PS X (.Assign [.Name y py] (.ListComp elt [⟨tg,iter,ifs,0⟩] scope pos) spos) (vY (HJ X.K (mK ow fr ix) wi g tc te) (jP i)):=by
 intro pins s σ H D I h;rw[exec_Assign_Name_used _ _ _ _ hsw];refine aJ (jF (aJ ?_));show wpAny _ X.A (do let _ <-comprehension (.ListComp elt [⟨tg,iter,ifs,0⟩] scope pos) scope X.env _ (newList []) false (eval iter X.env) (aC (assign (.Name y py) X.env))) _ _ s;refine aJ (gQ (wpAny_comprehension_free (use:=aC (assign (.Name y py) X.env)) (Q:=λ_ s'=>SP X pins D .next s') rfl hs (Mq λy hy e=>I.ok.has _ (S.free y hy e)) S.kind S.names
  (aY (hi pins s σ H _ I h) λv s1 h1=>aY h1 λitv s2 h2=>?_)) (λ_ s' hq=>bJ (bJ hq)) λ_ _ e=>e)
 refine My (Q:=λx H1=>jP i x σ H1 D.nx) (RR:=λacc C=>compPost (model X.prog X.w) X.A X.xe (aC (assign (.Name y py) X.env)) (λ_ s'=>SP X pins D .next s') acc C) S hc hg ht he h2 λd C H' s' m hC hn hI q=>?_;show wpAny _ X.A (assign (.Name y py) X.env (.ref d)) _ _ _;have I':Inv X pins σ H' s':=by have z:=hI s'.heap (.refl ..);exact z
 refine wpAny_assign_Name (Lz I' hN S7 hy (v:=.ref d) rfl (λs'' S8 ⟨a,wu,ha⟩=>?_) hf);obtain⟨c0,c1,c2,c3,c4,c5⟩:=hC;have S9:C≠a:=by rcases ha with rfl|ha;exact c1;exact λz=>c4 _ _ ha z.symm
 refine⟨m,hn.sameBut wu S9,λh'' wz=>⟨_,H',S8.turned (t':=s''.toks) (it:=C) (λb o hb e=>(wz.2 b hb).trans e) c0 c1 c3 c4 c5,q⟩⟩
end
end L2
set_option maxHeartbeats 4000000
namespace XL
open PySem PySem.W PySem.Spec PyProof.Rows
noncomputable def nY:aa->Bool|.ref _=>true|_=>false
theorem Tc{v:aa}(h:nY v):∃a,v=.ref a:=by unfold nY at h;split at h;exact⟨_,rfl⟩;cases h
noncomputable def eV:List aa->Bool|[]=>false|v::r=>v::r ==[.type "ValueError",.type "Exception",.type "BaseException",.type "object"]||nY v&&eV r
theorem MD{v:aa}{r:List aa}(h:eV (v::r)):v::r=[.type "ValueError",.type "Exception",.type "BaseException",.type "object"]\/∃a,v=.ref a/\eV r=true:=by unfold eV at h;rw[k8,aS,i6]at h;exact h.imp id λz=>let⟨a,e⟩:=Tc z.1;⟨a,e,z.2⟩
theorem ME(self:aa):∀{l:List aa},eV l=true->refuseLoop self "__setattr__" l=pure ()
 |v::r,e=>by
  rcases MD e with z|⟨a,rfl,z⟩;rw[z];exact PySem.F.store_ValueError.passes self;rw[refuseLoop_ref];exact ME self z
theorem HQ{T:String}(hT:([.type "ValueError",.type "Exception",.type "BaseException",.type "object"]:List aa).contains (.type T)):∀{l:List aa},eV l=true->l.contains (.type T)=true
 |v::r,e=>by
  rcases MD e with z|⟨a,rfl,z⟩;rw[z];exact hT;rw[List.contains_cons,HQ hT (l:=r) z,Ec]
structure ExcK(K:Frag)(C:ai):Prop where
 ov:(clsIn K C).any (λcd=>eV cd.mro)=true
 ga:findIn K (.ref C) "__getattribute__" = aC (aC (.builtin "BaseException.__getattribute__"))
 gt:findIn K (.ref C) "__getattr__" = aC aD
 sa:findIn K (.ref C) "__setattr__" = aC (aC (.builtin "object.__setattr__"))
 hd:hasDictIn K C=true
section
variable{prog:aj}{w:ak}{A:ao}{E:aa->ah->Prop}{s:ah}{K:Frag}{x C:ai}{ox:Obj}{od:Option Obj}{name:Str}{expr:Bool}
theorem MF(k:ExcK K C)(X:K.In s.heap)(I:InstAt s.heap x ox C od){T:String}(hT:([.type "ValueError",.type "Exception",.type "BaseException",.type "object"]:List aa).contains (.type T)) :
 Looks (model prog w) s.heap (isInstance (.ref x) (.type T)) true:=by
 obtain⟨cd,hc,ho⟩:=any_some k.ov;have ne:cd.mro.isEmpty=false:=by cases q:cd.mro with|nil=>rw[q]at ho;cases ho|cons _ _=>rfl
 exact I.type.andThen (looks_mroIn X (by unfold mroIn;rw[hc,zW,if_neg (by rw[ne];decide),HQ hT ho]))
theorem MG{R:Result->ah->Prop}{tk:Tok}{v:aa}(k:ExcK K C)(X:K.In s.heap)(I:InstAt s.heap x ox C od)(ha:findIn K (.ref C) name=aC aD)
 (h:∀b,wpAny (model prog w) A.in1 (Builtin.ObjectAttr.storeInOwnDict (.ref x) (.ref C) (.str name tk) name v b)
   (λfin s'=>match fin with|.done f=>R (.ok f) s'|.again c'=>c'.quiet=true/\codeAny (model prog w) A c' R s') (λe s'=>R (.error e) s') s) :
 codeAny (model prog w) A (.call (.builtin "object.__setattr__") ⟨[.ref x,.str name tk,v],[]⟩) R s:=by
 have SF:=PySem.F.store_object;obtain⟨cd,hc,ho⟩:=any_some k.ov;refine codeAny_call_builtin SF.slot.plain SF.entry (@check_slot (model prog w) _ _ s "object.__setattr__" "object" "__setattr__" (.ref x) [.str name tk,v] [] _ SF.kind SF.split (MF k X I (by decide +kernel)) (SF.args (.ref x) (.str name tk) v) ?_);have hm:Looks (model prog w) s.heap (mroOf (.ref C)) cd.mro:=(looks_clsIn X hc).andThen .now;rw[osa_eq,refuse_eq];refine aJ (aJ (I.type.here (aJ (hm.here ?_))));rw[ME _ ho];refine bJ (aJ (I.type.here (aJ ((looks_findIn X ha).here (aJ ?_)))));exact bJ (h _)
theorem nZ{v:aa}{vs:Array aa}{sl:Array (Option aa)}{Q:Unit->ah->Prop}(k:ExcK K C)(X:K.In s.heap)(ho:s.heap.get? x=aC ⟨.ref C,aD,.fields vs,sl⟩)(ha:findIn K (.ref C) name=aC aD)
 (h:∀h' tk,h'.get? x=aC ⟨.ref C,aC s.heap.objs.size,.fields vs,sl⟩->h'.Ns1 s.heap.objs.size (λy=>if y=name then aC v else aD)->(∀b o,b≠x->s.heap.get? b=aC o->h'.get? b=aC o)->Q () {s with heap:=h',toks:=tk}) :
 wpAny (model prog w) A (setAttr (.ref x) name v) Q E s:=by
 have I:InstAt s.heap x ⟨.ref C,aD,.fields vs,sl⟩ C aD:=⟨ho,rfl,rfl,trivial⟩
 obtain⟨cd,hc,hd'⟩:=any_some k.hd;refine set_plain X I k.sa (MG (s:={s with toks:=s.toks+1}) k X I ha λb=>?_);refine aJ (bJ (aJ (aJ (wpAny_loadPart ho (aJ (Looks.here (s:={s with toks:=s.toks+1}) (looks_clsIn X hc) ?_))))));rw[hd'];show wpAny (model prog w) A.in1 (do
  let d <-alloc {cls:=Value.type "dict",data:=Data.dict #[]}
  update x λo=>{cls:=o.cls,dict:=aC d,data:=o.data,slots:=o.slots}
  dictMade (.ref C) x d) _ _ _
 have ur:(s.heap.push {cls:=.type "dict",data:=.dict #[]}).get? x=aC ⟨.ref C,aD,.fields vs,sl⟩:=cC _ ho;have hxs:x≠s.heap.objs.size:=eB (cF ho);refine aJ (wpAny_alloc ?_);refine aJ (wpAny_update ur ?_);refine bJ (a:=aC s.heap.objs.size) ?_;dsimp only;generalize hH:((s.heap.push {cls:=Value.type "dict",data:=Data.dict #[]}).update x λo=>{cls:=o.cls,dict:=aC s.heap.objs.size,data:=o.data,slots:=o.slots})=H1;have hgd:H1.get? s.heap.objs.size=aC {cls:=.type "dict",data:=.dict #[]}:=by rw[<-hH];exact(Heap.get?_update_ne _ _ _ _ hxs.symm).trans (Heap.get?_push_at rfl rfl)
 have Td:H1.get? x=aC ⟨.ref C,aC s.heap.objs.size,.fields vs,sl⟩:=by rw[<-hH];exact yt _ ur rfl
 have Te:∀b o,b≠x->s.heap.get? b=aC o->H1.get? b=aC o:=λb o hb e=>by
  rw[<-hH];exact(Heap.get?_update_ne _ _ _ _ hb).trans (cC _ e)
 have hnd:H1.Ns s.heap.objs.size (λ_=>aD):=⟨_,#[],_,hgd,rfl,λe he=>absurd he (by simp),λ_=>rfl⟩
 show wpAny _ _ (Builtin.ObjectAttr.storeInDict s.heap.objs.size (.str name s.toks) name v) _ _ _;unfold Builtin.ObjectAttr.storeInDict Builtin.ObjectAttr.newKeyGuard;refine aJ (bJ (aJ (wpAny_nsSet1 (Heap.Ns1.of_empty hnd) λh' hn' hs=>?_)));obtain⟨oD,esD,Tf,HS,HU,n6⟩:=hn'.count (Within.cons name v Within.nil);refine aJ (wpAny_lookBehind HS (by rw[HU];exact pastItsLine_dict (gu n6 (by rw[eK,tX,zN];lia))) ?_);refine bJ ?_;exact h h' _ ((hs.2 x hxs).trans Td) hn' λb o hb e=>(hs.2 b (eB (cF e))).trans (Te b o hb e)
theorem n9{v:aa}{vs:Array aa}{sl:Array (Option aa)}{dx:ai}{mA:Str->Option aa}{ns:List Str}{Q:Unit->ah->Prop}(k:ExcK K C)(X:K.In s.heap)(ho:s.heap.get? x=aC ⟨.ref C,aC dx,.fields vs,sl⟩)
 (hn:s.heap.Ns1 dx mA) (hw:Within mA ns) (hz:ns.length<=1000) (ha:findIn K (.ref C) name=aC aD)
 (h:∀h' tk,h'.Ns1 dx (λy=>if y=name then aC v else mA y)->Heap.SameBut dx s.heap h'->Q () {s with heap:=h',toks:=tk}) :
 wpAny (model prog w) A (setAttr (.ref x) name v) Q E s:=by
 obtain⟨od,hod,_⟩:=L2.Hi hn;have I:InstAt s.heap x ⟨.ref C,aC dx,.fields vs,sl⟩ C (aC od):=⟨ho,rfl,rfl,hod⟩
 obtain⟨cd,hc,hd'⟩:=any_some k.hd;refine set_plain X I k.sa (MG (s:={s with toks:=s.toks+1}) k X I ha λb=>?_);refine aJ (bJ (aJ (aJ (wpAny_loadPart ho (aJ (Looks.here (s:={s with toks:=s.toks+1}) (looks_clsIn X hc) ?_))))));rw[hd'];refine bJ (a:=aC dx) ?_;show wpAny _ _ (Builtin.ObjectAttr.storeInDict dx (.str name s.toks) name v) _ _ _;unfold Builtin.ObjectAttr.storeInDict Builtin.ObjectAttr.newKeyGuard;refine aJ (bJ (aJ (wpAny_nsSet1 (s:={s with toks:=s.toks+1}) hn λh' hn' hs=>?_)));obtain⟨oD,esD,Tf,HS,HU,n6⟩:=hn'.count (Within.cons name v hw);refine aJ (wpAny_lookBehind HS (by rw[HU];exact pastItsLine_dict (gu n6 (by rw[eK,zN];lia))) ?_);exact bJ (h h' _ hn' hs)
end
end XL
namespace XL
open PySem PySem.W PySem.Spec PyProof.Rows
noncomputable abbrev MH:List aa:=[.type "ValueError",.type "Exception",.type "BaseException",.type "object"]
noncomputable abbrev aT(C:ai)(dx:Option ai)(t:ai):Obj:={cls:=.ref C,dict:=dx,data:=.fields #[.ref t,.none,.none,.none,.bool false,.none]}
noncomputable def wA:aa->Bool|.builtin n=>n == "ValueError.__new__"|_=>false
theorem Th{v:aa}(h:wA v):v=.builtin "ValueError.__new__":=by unfold wA at h;split at h;rw[i6]at h;rw[h];cases h
noncomputable def MI:List (Option aa)->Bool|[_,_,_,_,aC v,_]=>wA v|_=>false
noncomputable def cV(K:Frag)(C:ai):Bool:=match K.lookup C with
 |some o=>(match o.cls with
  |.type t=>t == "type" && (match o.data with
   |.cls cd=>cd.mro.head? == aC (.ref C)&&MI o.slots.toList && !cd.hasDel&&tailIn K MH cd.mro.tail
   |_=>false)
  |_=>false)
 |none=>false
theorem cU{K:Frag}{C:ai}(X:K.In h)(q:cV K C) :
 ∃nm qn N bs bm hd sn sub ab col dd k0 k1 k2 k3 k5,h.get? C=aC (excClassObj nm qn C N bs bm hd sn sub ab col dd k0 k1 k2 k3 k5 "ValueError.__new__")/\OwnTail h MH bm:=by
 unfold cV at q;split at q;rename_i o ho;obtain⟨oc,dd,od,sl⟩:=o;dsimp only at q;split at q;rw[aS,i6]at q;obtain⟨rfl,q⟩:=q;split at q;rename_i cd;simp only[aS,i6,zI]at q;obtain⟨⟨⟨hm,hs⟩,A9⟩,ht⟩:=q;obtain⟨nm,bs,mro,ns,qn,hd,sn,sub,ab,col,del⟩:=cd;dsimp only at hm A9 ht;subst A9;cases mro with
 |nil=>cases hm
 |cons v bm=>
  cases hm;unfold MI at hs;split at hs;rename_i k0 k1 k2 k3 n k5 hl;have hsl:sl = #[k0,k1,k2,k3,aC (.builtin "ValueError.__new__"),k5]:=by obtain⟨l⟩:=sl;simp only at hl;rw[hl,Th hs]
  subst hsl;exact⟨nm,qn,ns,bs,bm,hd,sn,sub,ab,col,dd,k0,k1,k2,k3,k5,X _ _ ho,tail_of_in X ht⟩;cases hs
 cases q;cases q;cases q
section
variable{prog:aj}{w:ak}{A:ao}{s:ah}{K:Frag}{C f:ai}{rest:List aa}{R:Result->ah->Prop}
theorem mL(X:K.In s.heap)(hc:cV K C)(hi:findIn K (.ref C) "__init__" = aC (aC (.ref f)))(hf:typeIn K (.ref f)=aC (.type "function"))(hz:rest.length<=sizeLine)
 (hq:codeAny (model prog w) (A.under (.builtin "type.__call__" ⟨.ref C::rest,[]⟩)) (.call (.ref f) ⟨.ref (s.heap.objs.size+1)::rest,[]⟩) (InitBack (s.heap.objs.size+1) R)
   {s with heap:=(s.heap.push {cls:=.type "tuple",data:=.seq rest.toArray}).push (aT C aD s.heap.objs.size)}) :
 codeAny (model prog w) A (.call (.ref C) ⟨rest,[]⟩) R s:=by
 obtain⟨h,g,d,t,os⟩:=s;obtain⟨nm,qn,N,bs,bm,HV,sn,sub,ab,col,dd,k0,k1,k2,k3,k5,hC,T⟩:=cU X hc;have F:=PySem.F.excBase_ValueError;have f1:=tc_lookup;have f2:=tc_bind (.ref C);have hT:(⟨h,g,d,t,os⟩:ah).TypeIs (.ref C) "type":=⟨_,hC,rfl⟩
 refine codeAny_of_tree ?_;show wpAny _ _ (callAny (.ref C) _) _ _ _
 repeat(any_goals (first|assumption|with_reducible refine pQ hC ?_|wp_step))
 refine⟨rfl,?_⟩;refine codeAny_call_builtin_at (EF _ (by decide +kernel)) entry_typeCall (wpAny_check_type_call_sub hC ?_)
 repeat(first|with_reducible refine pQ hC ?_|with_reducible refine wpAny_madeBy_exc hC ?_|wp_step)
 refine codeAny_call_builtin_code (EF _ F.quiet) (wpAny_check_new_subT F T hC ?_);refine codeAny_exc_new_subT F T hC ?_ hz;have kk:∀b o,h.get? b=aC o->((h.push {cls:=.type "tuple",data:=.seq rest.toArray}).push (aT C aD h.objs.size)).get? b=aC o:=λb o e=>cC _ (cC _ e);have i1:=(looks_findIn (M:=model prog w) X hi).keeps kk;have b1:=(bind_fn (M:=model prog w) X (.ref (h.objs.size+1)) hf).keeps kk;have yP:=kk _ _ hC;have hget:((h.push {cls:=.type "tuple",data:=.seq rest.toArray}).push (aT C aD h.objs.size)).get? (h.objs.size+1)=aC (aT C aD h.objs.size):=by heap_get
 have hcC:(Value.ref C::bm).contains (.ref C)=true:=by simp
 show wpAny _ _ _ _ _ _;unfold isInstance
 repeat(first|with_reducible refine pQ hget ?_|(with_reducible refine vE yP ?_;rw[hcC])|wp_step)
 have t1:Looks (model prog w) ((h.push {cls:=.type "tuple",data:=.seq rest.toArray}).push (aT C aD h.objs.size)) (typeOf (.ref (h.objs.size+1))) (.ref C):=(Looks.ld hget).andThen .now;refine vE (h:=(h.push {cls:=.type "tuple",data:=.seq rest.toArray}).push (aT C aD h.objs.size)) yP ?_;rw[hcC];simp only[zJ,fS,fy];refine aJ (jE ?_);unfold callSpecial? specialOf;refine aJ (aJ (t1.at (i1.at (jE ?_))));refine aJ (b1.at (aJ (qI (vI hq λr s' z=>?_))));rcases r with e|(v|_|_|_)<;>first|exact z|exact z.elim|skip
 obtain⟨e,z⟩:=z;subst e;exact bJ (bJ z)
theorem mO{Q:aa->ah->Prop}{E:aa->ah->Prop}(X:K.In s.heap)(hc:cV K C)(hi:findIn K (.ref C) "__init__" = aC (aC (.builtin "ValueError.__init__")))(hz:rest.length<=sizeLine)
 (hq:∀h' t,(∀b o,s.heap.get? b=aC o->h'.get? b=aC o)->h'.get? (s.heap.objs.size+1)=aC (aT C aD t)->Q (.ref (s.heap.objs.size+1)) {s with heap:=h'}) :
 wpAny (model prog w) A (call (.ref C) rest) Q E s:=by
 refine qI ?_;obtain⟨h,g,d,t,os⟩:=s;obtain⟨nm,qn,N,bs,bm,HV,sn,sub,ab,col,dd,k0,k1,k2,k3,k5,hC,T⟩:=cU X hc;have F:=PySem.F.excBase_ValueError;have f1:=tc_lookup;have f2:=tc_bind (.ref C);have hT:(⟨h,g,d,t,os⟩:ah).TypeIs (.ref C) "type":=⟨_,hC,rfl⟩
 refine codeAny_of_tree ?_;show wpAny _ _ (callAny (.ref C) _) _ _ _
 repeat(any_goals (first|assumption|with_reducible refine pQ hC ?_|wp_step))
 refine⟨rfl,?_⟩;refine codeAny_call_builtin_at (EF _ (by decide +kernel)) entry_typeCall (wpAny_check_type_call_sub hC ?_)
 repeat(first|with_reducible refine pQ hC ?_|with_reducible refine wpAny_madeBy_exc hC ?_|wp_step)
 refine codeAny_call_builtin_code (EF _ F.quiet) (wpAny_check_new_subT F T hC ?_);refine codeAny_exc_new_subT F T hC ?_ hz;have kk:∀b o,h.get? b=aC o->((h.push {cls:=.type "tuple",data:=.seq rest.toArray}).push (aT C aD h.objs.size)).get? b=aC o:=λb o e=>cC _ (cC _ e);have i1:=(looks_findIn (M:=model prog w) X hi).keeps kk;have yP:=kk _ _ hC;have hget:((h.push {cls:=.type "tuple",data:=.seq rest.toArray}).push (aT C aD h.objs.size)).get? (h.objs.size+1)=aC (aT C aD h.objs.size):=by heap_get
 have hcC:(Value.ref C::bm).contains (.ref C)=true:=by simp
 show wpAny _ _ _ _ _ _;unfold isInstance
 repeat(first|with_reducible refine pQ hget ?_|(with_reducible refine vE yP ?_;rw[hcC])|wp_step)
 have t1:Looks (model prog w) ((h.push {cls:=.type "tuple",data:=.seq rest.toArray}).push (aT C aD h.objs.size)) (typeOf (.ref (h.objs.size+1))) (.ref C):=(Looks.ld hget).andThen .now;refine vE (h:=(h.push {cls:=.type "tuple",data:=.seq rest.toArray}).push (aT C aD h.objs.size)) yP ?_;rw[hcC];simp only[zJ,fS,fy];refine aJ (jE ?_);unfold callSpecial? specialOf;refine aJ (aJ (t1.at (i1.at (jE ?_))));refine aJ (vJ (F.init.bind _) ?_);refine aJ (qI (codeAny_call_builtin F.init.plain F.initEntry (wpAny_check_init_subT F (T.keeps kk) yP hget rfl ?_)))
 wp_walk;refine hq _ (h.objs.size+2) (λb o hb=>?_) ?_;rw[vL _ _ (lg (Ew (cF hb)))];exact cC _ (kk b o hb);rw[yt _ (cC _ hget) rfl];simp only[nq];rfl
end
end XL
namespace XL
open PySem PySem.W PySem.Spec PyProof.Rows
structure jn(K:Frag)(C:ai):Prop extends ExcK K C where
 ca:findIn K (.ref C) "__class__" = aC (aC (.builtin "object.__class__"))
 hn:specialIn K (.builtin "object.__class__") "__get__" = aC (aC (.builtin "getset_descriptor.__get__"))
 htk:takesIn K (.builtin "object.__class__")=aC true
section
variable{prog:aj}{w:ak}{A:ao}{E:aa->ah->Prop}{s:ah}{K:Frag}{x C:ai}{ox:Obj}{od:Option Obj}{name:Str}{expr:Bool}
theorem jn.mro(k:jn K C):mroIn K C (.type "object")=aC true:=by
 obtain⟨cd,hc,ho⟩:=any_some k.ov;have ne:cd.mro.isEmpty=false:=by cases q:cd.mro with|nil=>rw[q]at ho;cases ho|cons _ _=>rfl
 unfold mroIn;rw[hc,zW,if_neg (by rw[ne];decide),HQ (by decide +kernel) ho]
theorem Ti{Q:Option aa->ah->Prop}(k:jn K C)(X:K.In s.heap)(I:InstAt s.heap x ox C od)(h:Q (aC (.ref C)) {s with toks:=s.toks+1}):wpAny (model prog w) A (getAttr? (.ref x) "__class__") Q E s:=by
 have hf:findObj K C od "__class__" = aC (.bind (.builtin "getset_descriptor.__get__") (.builtin "object.__class__")):=by obtain⟨cd,hc,_⟩:=any_some k.hd;unfold findObj;rw[hc,zW,k.ca,zW];simp only[k.hn,k.htk,zW]
 have S:=MF (prog:=prog) (w:=w) k.toExcK X I (T:="BaseException") (by decide +kernel);obtain⟨h0,g,d,t,os⟩:=s;have L0:=I.type (M:=model prog w);have L1:=looks_findIn (M:=model prog w) X k.ga;have L2:=looks_findIn (M:=model prog w) X k.gt;have L3:=looks_find (M:=model prog w) X I hf;have Tj:(onTheHeap (Value.ref C)&&Value.builtin "BaseException.__getattribute__" == Value.builtin "object.__getattribute__")=false:=by rw[show(Value.builtin "BaseException.__getattribute__" == Value.builtin "object.__getattribute__")=false from by decide +kernel];rfl
 unfold getAttr?;refine aJ (wpAny_mkText ?_);unfold getAttrBy?;refine aJ (Ed ?_);unfold getAttrBy;refine jE (aJ (L0.at (aJ (L1.at ?_))));dsimp only;rw[Tj];simp only[fS,fy];unfold getAttrByItsOwn hookBefore;refine aJ ?_;rw[if_pos (show onTheHeap (Value.ref C)=true from rfl)];refine L2.at ?_;refine aJ (Ed (jE ?_));unfold callGetattribute;simp only[ym,fS,fy];unfold boundAndCalled;rw[PySem.F.excAttr_ValueError.ga.bind (.ref x)];refine aJ (bJ ?_);show wpAny (model prog w) A (call (.builtin "BaseException.__getattribute__") [.ref x,.str "__class__" t]) _ _ _;have hk:builtinKind "BaseException.__getattribute__" = aC .slot:=by decide +kernel
 have jR:splitId "BaseException.__getattribute__" = aC ("BaseException","__getattribute__"):=by decide +kernel
 refine qI (codeAny_call_builtin PySem.F.excAttr_ValueError.ga.plain PySem.F.entry_bexc_ga ?_);refine @check_slot (model prog w) _ _ ⟨h0,g,d,t+1,os⟩ "BaseException.__getattribute__" "BaseException" "__getattribute__" (.ref x) [.str "__class__" t] [] _ hk jR S (PySem.F.args_bexc_ga _ _) ?_;unfold Builtin.«object.__getattribute__»;refine aJ (vJ (a:=(Value.ref x,[Value.str "__class__" t])) rfl ?_);dsimp only;refine aJ (vJ (a:=("__class__" : Str)) rfl ?_);refine aJ (L0.at (aJ (L3.at ?_)));dsimp only;show wpAny _ _ (holding [.builtin "object.__class__"] (call (.builtin "getset_descriptor.__get__") [.builtin "object.__class__",.ref x,.ref C]) >>= ret) _ _ _;refine aJ (jE (qI (class_get (s:=⟨h0,g,d,t+1,os⟩) (ox:=ox) (od:=od) X I k.mro ?_)));dsimp only;refine bJ ?_;dsimp only;exact handed_on rfl (bJ h)
theorem oh(k:jn K C):KitX K (.ref x) (.ref C) (λh=>InstAt h x ox C od)where
 ty:=λ_ _ _ I=>I.type
 it:=λ_ _ X _=>by
  obtain⟨cdD,n6,_⟩:=any_some k.hd;unfold clsIn at n6;split at n6;rename_i c' d' Tn GD ho;intro A' Q' E' s' kk q;unfold isType loadHead;exact aJ (wpAny_loadPart (kk _ _ (X _ _ ho)) (bJ q));cases n6
 ne:=λh tp dd its n sl X htp=>by
  obtain⟨cdD,n6,_⟩:=any_some k.hd;refine Ea.mpr λq=>?_;have e:C=tp:=Value.ref.inj (i6.mp q);subst e;unfold clsIn at n6;split at n6;rename_i c' d' Tn GD ho;have z:=(X _ _ ho).symm.trans htp;cases z;cases n6
 ca:=λX I q=>Ti k X I q
end
end XL
namespace L2
open PySem PySem.Spec PyProof.Rows
noncomputable def gV(C:ai)(dx:Option ai)(a:ai):HO:=.ext λh=>∃t,h.get? a=aC (XL.aT C dx t)
noncomputable def p9(fs:List (Str×V))(dx:ai):HO:=.ext λh=>∃mA,h.Ns1 dx mA/\(∀f,fT (fs.lookup f) (mA f))/\PySem.Within mA (fs.map (·.1))/\fs.length<=1000
section
variable{P:aj}{w:ak}{H:Hp}{h:aA}{a C dx:ai}{o:Option ai}{t:ai}{fs:List (Str×V)}
theorem MJ(e:h.get? a=aC (XL.aT C o t)):bf P w H h a (gV C o a):=⟨⟨t,e⟩,⟨_,e⟩,λ_ _ ⟨t',q⟩ k=>⟨t',k _ q⟩⟩
theorem HX(ok:dS P w H h)(e:H a=aC (gV C o a)):∃t,h.get? a=aC (XL.aT C o t):=(ok a _ e).1
theorem MK{mA:Str->Option aa}(n:h.Ns1 dx mA)(r:∀f,fT (fs.lookup f) (mA f))(wi:PySem.Within mA (fs.map (·.1)))(l:fs.length<=1000):bf P w H h dx (p9 fs dx):=by refine⟨⟨mA,n,r,wi,l⟩,let⟨o,_,_,e,_⟩:=n;⟨o,e⟩,?_⟩;rintro h1 h2 ⟨m,n1,r1,w1,l1⟩ k;exact⟨m,n1.at λo q=>k o q,r1,w1,l1⟩
theorem ML(ok:dS P w H h)(e:H dx=aC (p9 fs dx)):∃mA,h.Ns1 dx mA/\(∀f,fT (fs.lookup f) (mA f))/\PySem.Within mA (fs.map (·.1))/\fs.length<=1000:=(ok dx _ e).1
end
section
variable{X:Cx}{CX:lB}{k:Nat}{f C:ai}{fd:av}{ps:List Str}{sp:Sp}{E:XK}{x:Str}{p pos:Pos}{e:aq}{es:List aq}{t:TA}
structure HY(K:aI)(C:ai):Prop where
 cls:XL.cV K C=true
 init:PySem.W.findIn K (.ref C) "__init__" = aC (aC (.builtin "ValueError.__init__"))
 kp:PySem.W.keepIn K (.ref C)=true
structure HZ(K:aI)(C f:ai):Prop where
 cls:XL.cV K C=true
 init:PySem.W.findIn K (.ref C) "__init__" = aC (aC (.ref f))
 fn:PySem.W.isFn K (.ref f)=true
 kp:PySem.W.keepIn K (.ref C)=true
end
section
variable{X:Cx}{o e value:aq}{f:Str}{pos pos':Pos}{ta tv:TE}
noncomputable def Ba(K:aI)(ta tv:TE)(f:Str):TS:=λD σ H=>tv σ H λy H1=>ta σ H1 λx H2=>∃a C,x=.ref a/\XL.ExcK K C/\LW K C f/\
 ((H2 a=aC (gV C aD a)/\∀dx,H2 dx=aD->D.nx σ (upd (upd H2 dx (p9 [(f,y)] dx)) a (gV C (aC dx) a)))\/
  ∃dx fs,H2 a=aC (gV C (aC dx) a)/\H2 dx=aC (p9 fs dx)/\fs.length<1000/\D.nx σ (upd H2 dx (p9 (fN f y fs) dx)))
theorem MM(ha:PE X o ta)(hv:PE X value tv)(hs:swapsWith value (aC (.Attribute o f pos')) pos.line X.env=pure false):PS X (.Assign [.Attribute o f pos'] value pos) (Ba X.K ta tv f):=by
 intro pins s σ H D I h;refine plainObj_wpAny_Assign_Attribute (aY (hv pins s σ H _ I h) λu s1 z9=>z9.el λy H1 I1 ry q=>aY (ha pins s1 σ H1 _ I1 q) λov s2 z9=>z9.el λx H2 I2 rx ⟨a,C,ex,kk,n,alt⟩=>?_) hs;subst ex;obtain rfl:ov=Value.ref a:=rx;rcases alt with⟨ea,q2⟩|⟨dx,fs,ea,ed,hl,q2⟩
 obtain⟨t,ht⟩:=HX I2.hok ea;refine XL.nZ kk I2.eF ht n λh' tk hx hn kp=>⟨σ,_,?_,q2 s2.heap.objs.size (I2.hok.fresh (aZ _))⟩
 have hne:a≠s2.heap.objs.size:=eB (cF ht);have hself:(h'.update a λ_=>XL.aT C aD t).get? a=aC (XL.aT C aD t):=yt _ hx rfl;have kN:∀b,b≠a->(h'.update a λ_=>XL.aT C aD t).get? b=h'.get? b:=λb hb=>Heap.get?_update_ne _ _ _ _ hb;have hn1:(h'.update a λ_=>XL.aT C aD t).Ns1 s2.heap.objs.size (λg=>if g=f then aC u else aD):=hn.at λo q=>(kN _ (eE hne)).trans q;have I3:=I2.laid (h':=h'.update a λ_=>XL.aT C aD t) (t':=tk) (o:=p9 [(f,y)] s2.heap.objs.size) (λb q z=>by
  by_cases hb:b=a;subst hb;rw[ht]at z;cases z;exact hself;exact(kN b hb).trans (kp b q hb z)) (aZ _) (MK hn1 (λg=>by
  show fT (List.lookup g [(f,y)]) (if g=f then aC u else aD);by_cases q:g=f;subst q;simp only[iy,zH,dH];exact ry;have q':(g==f)=false:=by simpa using q
  simp only[iy,q',List.lookup_nil,q,fy];trivial) (λg hg=>by
  by_cases q:g=f;simp[q];exact absurd (if_neg q) hg) (by simp))
 exact I3.write (h':=h') (t':=tk) (x:=a) (e:=a) (by rw[bX hne,ea];exact True.intro) (.inl rfl) (λb q hb z=>(kN b hb).symm.trans z) ⟨_,hx⟩ (MJ hx);obtain⟨t,ht⟩:=HX I2.hok ea;obtain⟨mA,n1,r1,w1,l1⟩:=ML I2.hok ed;refine XL.n9 kk I2.eF ht n1 w1 (by rw[bQ];exact l1) n λh' tk hn hs'=>⟨σ,_,?_,q2⟩
 refine I2.write (x:=dx) (e:=dx) (by rw[ed];exact True.intro) (.inl rfl) (λb q hb z=>(hs'.2 b hb).trans z) (let⟨o,_,_,e',_⟩:=hn;⟨o,e'⟩) (MK hn (λg=>?_) (λg hg=>?_) ?_);show fT ((fN f y fs).lookup g) (if g=f then aC u else mA g);rw[LU];by_cases q:g=f;rw[if_pos q,if_pos q];exact ry;rw[if_neg q,if_neg q];exact r1 g;by_cases q:g=f;rw[q];exact(Hj f y fs).1;refine(Hj f y fs).2 g (w1 g λz=>hg ?_);show(if g=f then aC u else mA g)=aD;rw[if_neg q];exact z;have:=LV f y fs;lia
noncomputable def oj:V->Option aa|.ty n=>aC (.type n)|.ref a=>aC (.ref a)|_=>aD
end
mutual
inductive Rp(K:aI)(M:ai->Prop)(H:Hp):V->aB->Prop
 |aN:Rp K M H .aN .none
 |bl (b:Bool):Rp K M H (.bl b) (.bool b)
 |int (i:Int):Rp K M H (.int i) (.int i)
 |str (x:Str):Rp K M H (.str x) (.str x)
 |tup {a:ai} {xs:List V} {ds:List aB}:cH K H a xs->¬M a->kC K M H xs ds->Rp K M H (.ref a) (.tuple ds)
 |lst {a:ai} {xs:List V} {ds:List aB}:cN K H a xs->¬M a->kC K M H xs ds->Rp K M H (.ref a) (.list ds)
inductive kC(K:aI)(M:ai->Prop)(H:Hp):List V->List aB->Prop
 |nil:kC K M H [] []
 |cons {x:V} {d:aB} {xs:List V} {ds:List aB}:Rp K M H x d->kC K M H xs ds->kC K M H (x::xs) (d::ds)
end
section
variable{X:Cx}{pins:List (ai×Obj)}{σ:St}{H:Hp}{s:ah}{M:ai->Prop}
mutual
theorem Rp.reads(I:Inv X pins σ H s):∀{x:V} {d:aB} {u:aa},Rp X.K M H x d->RelV x u->∃as,Reads s.heap u d as
 |_,_,_,.aN,r=>by cases r;exact⟨_,.none⟩
 |_,_,_,.bl b,r=>by cases r;exact⟨_,.bool b⟩
 |_,_,_,.int i,r=>by obtain⟨t,rfl⟩:=r;exact⟨_,.int i t⟩
 |_,_,_,.str x,r=>by obtain⟨t,rfl⟩:=r;exact⟨_,.str x t⟩
 |_,_,_,.tup h n rr,r=>by
  cases r;obtain⟨its,rv,p,_⟩:=I.tuple h;obtain⟨o,ho,hc,m,hd⟩:=p;obtain⟨as,ra⟩:=kC.reads I rr rv;exact⟨_,.tuple ho hc hd (by simpa using ra)⟩
 |_,_,_,.lst h n rr,r=>by
  cases r;obtain⟨its,rv,p,_⟩:=I.list h;obtain⟨o,m,ho,hc,_,hd⟩:=p;obtain⟨as,ra⟩:=kC.reads I rr rv;exact⟨_,.list ho hc hd (by simpa using ra)⟩
theorem kC.reads(I:Inv X pins σ H s):∀{xs:List V} {ds:List aB} {us:List aa},kC X.K M H xs ds->Vals xs us->∃as,ReadsAll s.heap us ds as
 |_,_,_,.nil,.nil=>⟨_,.nil⟩
 |_,_,_,.cons r t,.cons q v=>by
  obtain⟨as,h1⟩:=Rp.reads I r q;obtain⟨bs,h2⟩:=kC.reads I t v;exact⟨_,.cons h1 h2⟩
end
noncomputable def Bb(K:aI):R2:=λx y H Q=>∃d e,Rp K (λ_=>False) H x d/\Rp K (λ_=>False) H y e/\SeqAt.shaped d=true/\SeqAt.shaped e=true/\Q (.bl (PyData.eqv d e)) H
noncomputable def Bc(K:aI):R2:=λx y H Q=>∃d e,Rp K (λ_=>False) H x d/\Rp K (λ_=>False) H y e/\SeqAt.shaped d=true/\SeqAt.shaped e=true/\Q (.bl (!PyData.eqv d e)) H
theorem To(hu:X.A.units+64<cLine):dh X (compareOp .Eq) (Bb X.K):=by intro pins s σ H x y v u Q I rx ry h;obtain⟨d,e,r1,r2,s1,s2,q⟩:=h;obtain⟨as,ra⟩:=r1.reads I rx;obtain⟨bs,rb⟩:=r2.reads I ry;exact PyProof.Rows.eq_dataH ra rb s1 s2 hu ⟨.bl _,H,I,rfl,q⟩
theorem Tp(hu:X.A.units+64<cLine):dh X (compareOp .NotEq) (Bc X.K):=by intro pins s σ H x y v u Q I rx ry h;obtain⟨d,e,r1,r2,s1,s2,q⟩:=h;obtain⟨as,ra⟩:=r1.reads I rx;obtain⟨bs,rb⟩:=r2.reads I ry;exact PyProof.Rows.ne_dataH ra rb s1 s2 hu ⟨.bl _,H,I,rfl,q⟩
end
section
variable{prog:aj}{w:ak}{A:ao}{E:aa->ah->Prop}{s:ah}
theorem MN{I t:ai}{k:Nat}{its:Array aa}{y:aa}{Q:aa->ah->Prop}(hi:s.heap.IsTupleIter I t k)(ht:s.heap.IsTuple t its)(hy:its[k]?=aC y)
 (q:∀g,g.IsTupleIter I t (k+1)->Heap.SameBut I s.heap g->Q y {s with heap:=g}):wpAny (model prog w) A (Builtin.SmallTypes.nextOf (.ref I)) Q E s:=by
 obtain⟨oi,e1,e2,e3⟩:=id hi;obtain⟨ot,e4,_,kt,e5⟩:=ht;unfold Builtin.SmallTypes.nextOf;refine aJ (vD (name:=Str.ofString "__next__") hi.typeIs EB (vG EB hi.typeIs F.entry_tuple_iterator_next ?_ (F.args_tuple_iterator_next_1 _)));show wpAny _ _ (field (.ref I) 0 >>= _) _ _ s;refine aJ (iP e1 e3 (x:=.ref t) rfl ?_);show wpAny _ _ (if(Value.ref t==Value.none)=true then _ else _) _ _ s;rw[if_neg (show ¬((Value.ref t==Value.none)=true)from λz=>nomatch z)];show wpAny _ _ (field (.ref I) 1 >>= _) _ _ s;refine aJ (iP e1 e3 (x:=.int k 0) rfl ?_);show wpAny _ _ (seqItems? (.ref t) >>= _) _ _ s;refine aJ (pR e4 e5 ?_);simp only[pX,hy];refine aJ (zM e1 e3 (by simp) (bJ ⟨y,rfl,bJ (q _ ?_ (Heap.SameBut.update ..))⟩));refine⟨_,yt _ e1 (Obj.isFreed_of_fields (Obj.data_mapFields e3 _)),(Obj.cls_mapFields ..).trans e2,?_⟩;rw[Obj.data_mapFields e3];simp[rawInt]
theorem Ia{I t:ai}{k:Nat}{its:Array aa}{Q:aa->ah->Prop}(hA:A.handled=aD)(hi:s.heap.IsTupleIter I t k)(ht:s.heap.IsTuple t its)(hy:its[k]?=aD)
 (q:∀g e,Heap.ExtBut I s.heap g->(∃o,g.get? e=aC o/\o.cls=.type "StopIteration")->E (.ref e) {s with heap:=g}):wpAny (model prog w) A (Builtin.SmallTypes.nextOf (.ref I)) Q E s:=by
 obtain⟨oi,e1,e2,e3⟩:=id hi;obtain⟨ot,e4,_,kt,e5⟩:=ht;unfold Builtin.SmallTypes.nextOf;refine aJ (vD (name:=Str.ofString "__next__") hi.typeIs EB (vG EB hi.typeIs F.entry_tuple_iterator_next ?_ (F.args_tuple_iterator_next_1 _)));show wpAny _ _ (field (.ref I) 0 >>= _) _ _ s;refine aJ (iP e1 e3 (x:=.ref t) rfl ?_);show wpAny _ _ (if(Value.ref t==Value.none)=true then _ else _) _ _ s;rw[if_neg (show ¬((Value.ref t==Value.none)=true)from λz=>nomatch z)];show wpAny _ _ (field (.ref I) 1 >>= _) _ _ s;refine aJ (iP e1 e3 (x:=.int k 0) rfl ?_);show wpAny _ _ (seqItems? (.ref t) >>= _) _ _ s;refine aJ (pR e4 e5 ?_);simp only[pX,hy];refine aJ (vK (aJ (zM e1 e3 (by simp) ?_)));show wpAny _ _ (newExc (.type "StopIteration") [] >>= _) _ _ _;refine aJ ?_;simp only[newExc,newTuple];refine aJ (qH ?_ (by size_fits));refine aJ (m:=firstArgMember _ _) (vJ (a:=Value.none) (by first|rfl|(simp only[firstArgMember];rfl)) ?_);refine qH ?_ (by size_fits);simp only[raiseNew];refine aJ (wpAny_handled ?_);first|rw[show A.in1.handled=aD from hA]|rw[hA]
 refine aJ (bJ (wpAny_throw ?_));exact q _ _ (((Heap.SameBut.update ..).extBut.push _).push _) ⟨_,ji _ rfl,rfl⟩
end
theorem MO{h h':aA}{a:ai}{its:Array aa}(x:h.IsTuple a its)(e:∀o,h.get? a=aC o->h'.get? a=aC o):h'.IsTuple a its:=let⟨o,ho,r⟩:=x;⟨o,e _ ho,r⟩
theorem Tq{prog:aj}{w:ak}{A:ao}(hA:A.handled=aD)(I t:ai)(hne:t≠I)(its:Array aa) :
 Draws prog w A I [I,t] its.size (λi v=>its[i]?=aC v) (λi h=>h.IsTupleIter I t i/\h.IsTuple t its)where
 live:=λ_ _ st=>let⟨o,ho,_⟩:=st.1;⟨o,ho⟩
 frame:=λ_ _ _ st hk=>⟨st.1.at λo e=>hk I (by simp) o e,MO st.2 λo e=>hk t (by simp) o e⟩
 item:=λi s Q E hi st q=>MN st.1 st.2 (y:=its[i]) (by simp[hi]) λg a b=>q _ g s.toks (by simp[hi]) ⟨a,st.2.extBut b.extBut hne⟩ b
 done:=λs Q E st q=>Ia hA st.1 st.2 (by simp) q
theorem Tr(l:ai)(its:Array aa)(n:Nat)(dc:Option ai)(sl:Array (Option aa)) :
 Meets (Builtin.«enumerate.__new__» ⟨[.type "enumerate",.ref l],[]⟩) (λ_ R s=>s.heap.get? l=aC {cls:=.type "tuple",dict:=dc,data:=.seq its n,slots:=sl}/\
  R (.ok (.ret (.ref (s.heap.push {cls:=.type "tuple_iterator",data:=.fields #[.ref l,.int 0 0]}).objs.size)))
   {s with heap:=(s.heap.push {cls:=.type "tuple_iterator",data:=.fields #[.ref l,.int 0 0]}).push {cls:=.type "enumerate",data:=.fields #[.none,.bool false,.ref s.heap.objs.size,rawInt 0,.none,.none]}}):=
 .of_wp λprog w A R s h=>by
  obtain⟨hp,g,d,tk,os⟩:=s;obtain⟨e,h⟩:=h;have hsub:=sub_enumerate;have hT:Heap.IsTuple (Shared.heap ⟨hp,g,d,tk,os⟩) l its:=⟨_,e,rfl,n,rfl⟩
  wp_walk using nK e;refine wpAny_stack_any λst=>bJ ?_;split;rename_i c _ _ _ _ _;cases(c==Value.type "enumerate")<;> (wp_walk using nK e,vF hT;exact⟨_,rfl,h⟩)
  .wp_walk using nK e,vF hT
   exact⟨_,rfl,h⟩
theorem Tt{prog:aj}{w:ak}{A:ao}{E:aa->ah->Prop}{s:ah}{l:ai}{its:Array aa}{Q:aa->ah->Prop}(hL:s.heap.IsTuple l its)
 (h:∀g,IsEnum g (s.heap.objs.size+1) s.heap.objs.size 0 .none->g.IsTupleIter s.heap.objs.size l 0->g.objs.size=s.heap.objs.size+2->(∀b o,s.heap.get? b=aC o->g.get? b=aC o)->Q (.ref (s.heap.objs.size+1)) {s with heap:=g}) :
 wpAny (model prog w) A (call (.type "enumerate") [.ref l]) Q E s:=by
 obtain⟨⟨c,dc,dt,sl⟩,e1,e2,n,e3⟩:=hL
 replace e2:c=.type "tuple":=e2
 replace e3:dt=.seq its n:=e3;subst e2 e3;refine callType_new F.called_enumerate (by decide) (F.typeCall_enumerate_1 _) (F.newCall_enumerate_1 _) (λobj=>F.args_object_init_2 obj _) F.entry_enumerate_new (Tr l its n dc sl) ⟨e1,?_⟩;have hz:(s.heap.push {cls:=.type "tuple_iterator",data:=.fields #[.ref l,.int 0 0]}).objs.size=s.heap.objs.size+1:=nq ..;show _/\_;rw[hz];have he:IsEnum ((s.heap.push {cls:=.type "tuple_iterator",data:=.fields #[.ref l,.int 0 0]}).push {cls:=.type "enumerate",data:=.fields #[.none,.bool false,.ref s.heap.objs.size,rawInt 0,.none,.none]}) (s.heap.objs.size+1) s.heap.objs.size 0 .none:=by rw[<-hz];exact ji _ rfl
 exact⟨⟨_,he,rfl⟩,h _ he ⟨_,cC _ (ji _ rfl),rfl,rfl⟩ (by rw[nq,hz]) λb o x=>cC _ (cC _ x)⟩
noncomputable def wC(K:aI)(a:ai):It:=
 ⟨λi H=>∃xs x,cH K H a xs/\xs[i]?=aC x,λi H x H'=>∃T v,x=.ref T/\H T=aD/\H'=upd H T (.tup [.int i,v])/\∀xs,cH K H a xs->xs[i]?=aC v,λi H=>∃xs,cH K H a xs/\xs.length<=i⟩
theorem Tu{P:aj}{w:ak}{K:aI}{elts:List aq}{kx:Nat}{tp:Pos}(a e it:ai)(hei:e≠it)(Tv:a≠e)(hai:a≠it) :
 Turn P w K (.Tuple elts kx tp) (wC K a) [e,it] e (λi h=>(∃old,IsEnum h e it i old)/\h.IsTupleIter it a i)where
 mem:=by simp
 obj:=λi h st b hb=>by
  obtain⟨⟨old,he⟩,o,ho,hc,hd⟩:=st;rcases iQ.mp hb with rfl|hb;exact⟨_,he,λv z=>by
   have z':Data.fields _=Data.cell v:=z;cases z'⟩
  have e':b=it:=by simpa using hb
  subst e';exact⟨o,ho,λv z=>by rw[hd]at z;cases z⟩
 keep:=λi h h' st k=>by
  obtain⟨⟨old,he⟩,st⟩:=st;exact⟨⟨old,k e (by simp) _ he⟩,st.at λo q=>k it (by simp) o q⟩
 item:=by
  intro X hP hw hK hc i pins s σ H E I hf st hg;subst hP hw hK;obtain⟨xs,x,hq,hx⟩:=hg;obtain⟨⟨old,he⟩,st⟩:=st;obtain⟨its,rv,p,hz⟩:=I.tuple hq;obtain⟨u,hu,ru⟩:=rv.get hx;have hd:X.A.in1.handled=aD:=I.ok.hd hc;have p:s.heap.IsTuple a its.toArray:=p;refine wpAny_pyNext_enum_itemD (Tq hd it a hai its.toArray) he ⟨st,p⟩ (by
   have:i<its.length:=by rw[<-rv.length];exact(ku.mp hx).1
   simpa using this) hei (by simp[hei,eE Tv]) λx' h1 tk hx' ho hit hT hsz hk=>?_
  obtain rfl:u=x':=by
   have:its[i]?=aC x':=by simpa using hx'
   rw[hu]at this;cases this;rfl
  refine⟨_,rfl,wpAny_letOwnedTupleGo_enum ho λh2 Tw hs2=>?_⟩;have lE:H s.heap.objs.size=aD:=I.hok.fresh (aZ _);have MP:s.heap.objs.size≠e:=lg (cF he);have Tz:s.heap.objs.size≠it:=by obtain⟨o,q,_⟩:=st;exact lg (cF q)
  have hs2:Heap.SameBut e h1 h2:=hs2;have kk:∀b o,b≠e->b≠it->s.heap.get? b=aC o->h2.get? b=aC o:=λb o h1 h2 q=>(hs2.2 b h1).trans (hk b o h1 h2 q);have f0:=λb hb=>(hf b hb).1;have nE:∀b o,H b=aC o->b≠e/\b≠it:=λb o q=>⟨λz=>(by rw[z,f0 e (by simp)]at q;cases q),λz=>(by rw[z,f0 it (by simp)]at q;cases q)⟩
  have hT2:h2.get? s.heap.objs.size=aC {cls:=.type "tuple",data:=.seq #[.int i tk,u]}:=(hs2.2 _ MP).trans hT;have I2:Inv X pins σ (upd H s.heap.objs.size (.tup [.int i,x])) {s with heap:=h2,gens:=s.gens,drawn:=s.drawn,toks:=tk+1}:=by
   refine I.step (ch:=[e,it]) (λb hb=>?_) (λb o _ _ hc e1 _=>kk b o (λz=>hc (by simp[z])) (λz=>hc (by simp[z])) e1) (λb o _ _ hc e1 _=>⟨o.slots,kk b o (λz=>hc (by simp[z])) (λz=>hc (by simp[z])) e1⟩)
    (λb o hc e1 n=>by rw[bX (eB (cF e1))];exact n) (λb o hc e1=>⟨o,kk b o (λz=>hc (by simp[z])) (λz=>hc (by simp[z])) e1⟩)
    (λb ys q=>by rw[bX (gR q lE)];exact q) (λb o u q=>by rw[bX (gR q lE)];exact q) (λb ps q=>⟨#[],by rw[bX (gR q lE),q];simp⟩) (λm hm=>?_) (λb ob q=>?_) I.bare
   obtain⟨_,a1,a2,a3,a4,a5⟩:=hf b hb;exact⟨a3,a1,a4,a5⟩;obtain⟨o,es,ep,ho',r⟩:=hm;exact⟨o,es,ep,kk _ o (eE (hf e (by simp)).2.1) (eE (hf it (by simp)).2.1) ho',r⟩;by_cases hb:b=s.heap.objs.size;subst hb;rw[fB]at q;cases q;exact⟨by show 2<=sizeLine;decide,[.int i tk,u],.cons ⟨_,rfl⟩ (.cons ru .nil),⟨_,hT2,rfl,⟨_,rfl⟩,rfl⟩⟩;rw[bX hb]at q;refine(I.hok b ob q).stay (λc v hc z=>kk c v ?_ ?_ z) (λc z=>by rw[bX (gR z lE)];exact z) λc ys z=>by rw[bX (gR z lE)];exact z
   rcases hc with rfl|hc;exact(nE c ob q).1;exact(nE c _ hc).1;rcases hc with rfl|hc;exact(nE c ob q).2;exact(nE c _ hc).2
  refine⟨.ref s.heap.objs.size,_,I2,rfl,⟨_,x,rfl,lE,rfl,λys hy=>by rw[I.gw hy hq];exact hx⟩,⟨⟨u,by simpa using Tw⟩,hit.1.at λo q=>(hs2.2 it (eE hei)).trans q⟩,λb hb=>?_⟩;rw[bX ?_];exact f0 b hb;rcases iQ.mp hb with rfl|hb
  exact eE MP;have e':b=it:=by simpa using hb
  subst e';exact eE Tz
 done:=by
  intro X hP hw hK hc i pins s σ H E I hf st hg;subst hP hw hK;obtain⟨xs,hq,hx⟩:=hg;obtain⟨⟨old,he⟩,st⟩:=st;obtain⟨its,rv,p,hz⟩:=I.tuple hq;obtain⟨f0,f1,f2,f3,f4,f5⟩:=hf it (by simp);have hl:=rv.length;have hd:X.A.in1.handled=aD:=I.ok.hd hc;have p:s.heap.IsTuple a its.toArray:=p;refine PySem.wpAny_pyNext_enum_endD (n:=0) (P:=λ_ _=>True) (St:=λ_ h=>h.IsTupleIter it a i/\h.IsTuple a its.toArray) (fp:=[it,a]) ⟨?_,?_,?_,?_⟩ he ⟨st,p⟩ λh' eb=>⟨rfl,I.turned (t':=s.toks) (λb o hb q=>eb b o hb q) f0 f1 f3 f4 f5⟩
  exact λ_ _ st=>let⟨o,ho,_⟩:=st.1;⟨o,ho⟩;exact λ_ _ _ st hk=>⟨st.1.at λo e=>hk it (by simp) o e,MO st.2 λo e=>hk a (by simp) o e⟩
  exact λj s' Q' E' hj=>absurd hj (Nat.not_lt_zero _);exact λs' Q' E' st' q'=>Ia hd st'.1 st'.2 (by simp;lia) q'
 self:=λ_ _ _ _ _ st h=>by
  obtain⟨⟨old,he⟩,_⟩:=st;exact wpAny_pyIter_enum he h
section
variable{κ:Type}[DecidableEq κ]
noncomputable def iB(kvs:List (κ×V))(k:κ):Option V:=(kvs.find? λkv=>decide (kv.1=k)).map (·.2)
noncomputable def putK(kvs:List (κ×V))(k:κ)(v:V):List (κ×V):=
 if(kvs.any λkv=>decide (kv.1=k))=true then kvs.map (λkv=>if kv.1=k then(kv.1,v)else kv)else kvs++[(k,v)]
theorem Ib{p:κ×V}{r:List (κ×V)}{k:κ}(e:p.1=k):iB (p::r) k=aC p.2:=by simp[iB,qP,e]
theorem EY{p:κ×V}{r:List (κ×V)}{k:κ}(e:¬p.1=k):iB (p::r) k=iB r k:=by simp[iB,qP,e]
theorem TF(kvs:List (κ×V))(k:κ)(v:V):(putK kvs k v).length<=kvs.length+1:=by unfold putK;split;rw[bQ];lia;rw[dY,eK,tX];lia
theorem KV.val{kvs:List (κ×V)}{vs:List (κ×aa)}(r:KV kvs vs)(k:κ):fT (iB kvs k) (valueAt vs k):=by
 unfold KV at r;induction r with
 |nil=>exact True.intro
 | @cons p q ps qs h t ih=>
  obtain⟨h1,h2⟩:=h;by_cases e:p.1=k;have e':q.1=k:=h1.symm.trans e;have b:valueAt (q::qs) k=aC q.2:=by simp[valueAt,qP,e']
  rw[Ib e,b];exact h2;have e':¬q.1=k:=λz=>e (h1.trans z);have b:valueAt (q::qs) k=valueAt qs k:=by simp[valueAt,qP,e']
  rw[EY e,b];exact ih
theorem KV.any{kvs:List (κ×V)}{vs:List (κ×aa)}(r:KV kvs vs)(k:κ):(kvs.any λkv=>decide (kv.1=k))=vs.any λkv=>decide (kv.1=k):=by
 unfold KV at r;induction r with|nil=>rfl|cons h t ih=>rw[Eu,Eu,ih,h.1]
theorem KV.repl{kvs:List (κ×V)}{vs:List (κ×aa)}(r:KV kvs vs)(k:κ){y:V}{u:aa}(ry:RelV y u) :
 KV (kvs.map λkv=>if kv.1=k then(kv.1,y)else kv) (vs.map λkv=>if kv.1=k then(kv.1,u)else kv):=by
 unfold KV at r ⊢;induction r with
 |nil=>exact .nil
 | @cons p q ps qs h t ih=>
  rw[eS,eS];refine .cons ?_ ih;obtain⟨h1,h2⟩:=h;by_cases e:p.1=k;rw[if_pos e,if_pos (h1.symm.trans e)];exact⟨h1,ry⟩;rw[if_neg e,if_neg (λz=>e (h1.trans z))];exact⟨h1,h2⟩
theorem KV.put{kvs:List (κ×V)}{vs:List (κ×aa)}(r:KV kvs vs)(k:κ){y:V}{u:aa}(ry:RelV y u):KV (putK kvs k y) (stored vs k u):=by unfold putK stored;rw[r.any k];by_cases e:(vs.any λkv=>decide (kv.1=k))=true;rw[if_pos e,if_pos e];exact r.repl k ry;rw[if_neg e,if_neg e];exact Paired.snoc r ⟨rfl,ry⟩
end
theorem om{P:aj}{w:ak}{k:Key}{u:aa}(r:RelV (kV k) u):(kH P w).is k u=true:=by
 cases k with|inl i=>obtain⟨t,e⟩:=(show ∃t,u=Value.int i t from r);subst e;exact Qy P w i t|inr x=>obtain⟨t,e⟩:=(show ∃t,u=Value.str x t from r);subst e;exact Qz P w x t
theorem MQ{P:aj}{w:ak}:∀{ks:List Key} {us:List aa},Vals (ks.map kV) us->ItemsAre (kH P w) ks us
 |[],_,r=>by rw[nu]at r;cases r;exact .nil
 |k::ks,_,r=>by
  rw[eS]at r;cases r with|cons h t=>exact .cons (om h) (MQ t)
noncomputable abbrev KT(H:Hp):List (List Key×V)->List (List Key×ai×aa)->Prop:=Paired λp q=>p.1=q.1/\H q.2.1=aC (.tup (p.1.map kV))/\RelV p.2 q.2.2
theorem KT.val{H:Hp}{kvs:List (List Key×V)}{xs:List (List Key×ai×aa)}(r:KT H kvs xs)(k:List Key):fT (iB kvs k) ((atKey xs k).map (·.2)):=by
 induction r with
 |nil=>exact True.intro
 | @cons p q ps qs h t ih=>
  obtain⟨h1,_,h2⟩:=h;by_cases e:p.1=k;have e':q.1=k:=h1.symm.trans e;have b:atKey (q::qs) k=aC q.2:=by simp[atKey,qP,e']
  rw[Ib e,b];exact h2;have e':¬q.1=k:=λz=>e (h1.trans z);have b:atKey (q::qs) k=atKey qs k:=by simp[atKey,qP,e']
  rw[EY e,b];exact ih
section
variable{P:aj}{w:ak}{H:Hp}{h:aA}{a:ai}
theorem uu{u:HO}(ok:dS P w H h)(e:Rd H a u):bf P w H h a u:=e.ok ok
theorem lF{kvs:List (Key×V)}(ok:dS P w H h)(e:Rd H a (.dK kvs)):kvs.length<=sizeLine/\(a==sysModules)=false/\∃vs,KV kvs vs/\h.DictOf (kH P w) a vs:=
 show bf P w H h a (.dK kvs)from uu ok e
theorem Be{kvs:List (Key×V)}(ok:dS P w H h)(e:H a=aC (.dK kvs)):kvs.length<=sizeLine/\(a==sysModules)=false/\∃vs,KV kvs vs/\h.DictOf (kH P w) a vs:=lF ok (.inl e)
theorem MR{ks:List Key}(ok:dS P w H h)(e:H a=aC (.tup (ks.map kV))):(tupleKind (kH P w)).is h ks a:=by
 obtain⟨_,its,r,o,h1,h2,⟨n,h3⟩,_⟩:=(show bf P w H h a (.tup (ks.map kV))from ok a _ e)
 exact⟨o,its.toArray,n,h1,h2,h3,by simpa using MQ r⟩
theorem uv{kvs:List (List Key×V)}(ok:dS P w H h)(e:Rd H a (.dT kvs)):kvs.length<=sizeLine/\(a==sysModules)=false/\
 ∃xs,KT H kvs xs/\h.DictOfH (tupleKind (kH P w)) a xs:=by
 obtain⟨z,y,xs,r,o,es,ep,h1,h2,h3,h4,h5⟩:=(show bf P w H h a (.dT kvs)from uu ok e)
 refine⟨z,y,xs,r,o,es,ep,h1,h2,h3,h4,λx hx=>?_,h5⟩;have all:∀{l:List (List Key×V)}{m:List (List Key×ai×aa)},KT H l m->∀x∈m,(tupleKind (kH P w)).is h x.1 x.2.1:=by
  intro l m q;induction q with
  |nil=>intro x hx;exact nomatch hx
  | @cons p q ps qs hq t ih=>
   intro x hx;rcases iQ.mp hx with e|hx
   subst e;exact MR ok (by rw[<-hq.1];exact hq.2.1);exact ih x hx
 exact all r x hx
end
noncomputable def rF(H:Hp)(a:ai)(y:V)(r:Option V):Prop:=
 (∃kvs k,Rd H a (.dK kvs)/\y=kV k/\r=iB kvs k)\/∃kvs k b,Rd H a (.dT kvs)/\y=.ref b/\H b=aC (.tup (k.map kV))/\r=iB kvs k
section
variable{X:Cx}{pins:List (ai×Obj)}{σ:St}{H:Hp}{s:ah}{a:ai}{y v:V}{u r:aa}{o:Option V}{A:ao}{E:aa->ah->Prop}
theorem Inv.big(I:Inv X pins σ H s):sysModules<s.heap.objs.size:=by have h:mainGlobals<s.heap.objs.size:=(I.mod.glob.keeps I.bk).lt;exact Nat.lt_trans (by decide) h
theorem TH{Q:aa->ah->Prop}(hu:A.units+1<cLine)(I:Inv X pins σ H s)(g:rF H a y (aC v))(ry:RelV y u)(h:∀w' s',Inv X pins σ H s'->RelV v w'->Q w' s') :
 wpAny (model X.prog X.w) A (getItem (.ref a) u) Q E s:=by
 rcases g with⟨kvs,k,e,ey,l⟩|⟨kvs,k,b,e,ey,eb,l⟩;subst ey;obtain⟨z,hd,vs,rel,dd⟩:=lF I.hok e;obtain⟨w',hw,rw'⟩:=fT.some_of (v:=v) (o:=valueAt vs k) (by rw[l];exact rel.val k);exact wpAny_getItem_of (om ry) dd.mapOf hw (h w' _ (I.tok _) rw');subst ey;cases(show u=Value.ref b from ry);obtain⟨z,hd,xs,rel,dd⟩:=uv I.hok e;obtain⟨w',hw,rw'⟩:=fT.some_of (v:=v) (o:=(atKey xs k).map (·.2)) (by rw[l];exact rel.val k);obtain⟨p,hp,hp2⟩:=Option.map_eq_some_iff.mp hw;refine wpAny_getItem_heap (tupleKind_room_in1 hu) (MR I.hok eb) dd hp ?_;rw[hp2];exact h w' _ (I.tok _) rw'
theorem TJ{h':aA}{t':Nat}{ob:HO}(I:Inv X pins σ H s)(mu:Ad (H a))(hs:Heap.SameBut a s.heap h')(he:∃q,h'.get? a=aC q)(new:bf X.prog X.w (upd H a ob) h' a ob) :
 Inv X pins σ (upd H a ob) {s with heap:=h',toks:=t'}:=
 I.write (x:=a) (e:=a) mu (.inl rfl) (λb q hb z=>(hs.2 b hb).trans z) he new
theorem TL{P:aj}{w:ak}{H':Hp}{h':aA}{kvs:List (Key×V)}{vs:List (Key×aa)}(z:kvs.length<=sizeLine)(hd:(a==sysModules)=false)(rel:KV kvs vs)(dd:h'.DictOf (kH P w) a vs) :
 bf P w H' h' a (.dK kvs):=⟨z,hd,vs,rel,dd⟩
end
theorem TM{X:Cx}{pins:List (ai×Obj)}{σ:St}{H:Hp}{s:ah}{a:ai}{y:V}{o:Option V}(I:Inv X pins σ H s)(g:rF H a y o):s.TypeIs (.ref a) "dict":=by rcases g with⟨kvs,k,e,_,_⟩|⟨kvs,k,b,e,_,_,_⟩;obtain⟨_,_,vs,_,dd⟩:=lF I.hok e;exact dd.typeIs;obtain⟨_,_,xs,_,dd⟩:=uv I.hok e;exact dd.typeIs
theorem MS{P:aj}{w:ak}{H:Hp}(h:aA)(hb:sysModules<h.objs.size):bf P w H (h.push {cls:=.type "dict",data:=.dict #[]}) h.objs.size (.dK []):=
 ⟨jG _,vC.mpr (eE (eB hb)),[],.nil,Heap.DictOf.new h⟩
noncomputable def TN:TE:=λ_ H Q=>∀p,H p=aD->Q (.ref p) (upd H p (.dK []))
section
variable{X:Cx}{pos:Pos}
theorem TQ:PE X (.Dict [] [] pos) TN:=λpins s σ H Q I h=>
 wpAny_Dict_empty ⟨.ref s.heap.objs.size,_,I.laid (a:=s.heap.objs.size) (o:=.dK []) (t':=s.toks) (λ_ _ q=>cC _ q) (aZ _) (MS s.heap I.big),rfl,h _ (I.hok.fresh (aZ _))⟩
end
noncomputable def EZ:List (TE×TE)->St->Hp->(List (V×V)->Hp->Prop)->Prop|[],_,H,Q=>Q [] H|(tk,tv)::r,σ,H,Q=>tk σ H λx H1=>tv σ H1 λy H2=>EZ r σ H2 λps H3=>Q ((x,y)::ps) H3
noncomputable abbrev VV:List (V×V)->List (aa×aa)->Prop:=Paired λp q=>RelV p.1 q.1/\RelV p.2 q.2
noncomputable def Bf(X:Cx)(pos:Pos)(keys:List (Option aq))(values:List aq)(lG:List (TE×TE)):Prop:=
 ∀(pins:List (ai×Obj))(s:ah)(σ:St)(H:Hp)(Q:List (V×V)->Hp->Prop),Inv X pins σ H s->EZ lG σ H Q->
  wpAny (model X.prog X.w) X.A (evalPairs (pairTrees keys values X.env pos)) (λvs s'=>∃ps H',Inv X pins σ H' s'/\VV ps vs/\Q ps H') X.xe s
theorem TR{X:Cx}{pos:Pos}:Bf X pos [] [] []:=λpins s σ H Q I h=>pairTrees_nil_walk ⟨[],H,I,.nil,h⟩
theorem TU{X:Cx}{pos:Pos}{k v:aq}{ks:List (Option aq)}{vs:List aq}{tk tv:TE}{lG:List (TE×TE)}(hk:PE X k tk)(hv:PE X v tv)(hr:Bf X pos ks vs lG) :
 Bf X pos (aC k::ks) (v::vs) ((tk,tv)::lG):=λpins s σ H Q I h=>
 pairTrees_cons_walk (aY (hk pins s σ H _ I h) λu s1 z9=>z9.el λx H1 I1 rx q1=>aY (hv pins s1 σ H1 _ I1 q1) λw2 s2 z9=>z9.el λy H2 I2 ry q2=>
  aY (hr pins s2 σ H2 _ I2 q2) λws s3 ⟨ps,H3,I3,rel,q3⟩=>⟨(x,y)::ps,H3,I3,.cons ⟨rx,ry⟩ rel,q3⟩)
noncomputable def uw(kvs more:List (Key×V)):List (Key×V):=more.foldl (λacc kv=>putK acc kv.1 kv.2) kvs
theorem KV.merge:∀{more:List (Key×V)} {rs:List (Key×aa)} {kvs:List (Key×V)} {vs:List (Key×aa)},KV more rs->KV kvs vs->KV (uw kvs more) (merged vs rs):=by
 intro more rs kvs vs r;unfold KV at r;induction r generalizing kvs vs with
 |nil=>intro q;exact q
 | @cons p q ps qs h t ih=>
  intro r0;have e:KV (putK kvs p.1 p.2) (stored vs q.1 q.2):=by have:=r0.put p.1 h.2;rw[<-h.1];exact this
  exact ih e
theorem MT:∀(more kvs:List (Key×V)),(uw kvs more).length<=kvs.length+more.length
 |[],kvs=>by show kvs.length<=kvs.length+0;lia
 |p::r,kvs=>by
  have h1:=MT r (putK kvs p.1 p.2);have h2:=TF kvs p.1 p.2;show(uw (putK kvs p.1 p.2) r).length<=_;rw[eK];lia
theorem MU{P:aj}{w:ak}:∀{kvs:List (Key×V)} {ws:List (aa×aa)},VV (kvs.map λkv=>(kV kv.1,kv.2)) ws->∃rs,Carries (kH P w) ws rs/\KV kvs rs
 |[],_,r=>by rw[nu]at r;cases r;exact⟨[],True.intro,.nil⟩
 |p::kvs,_,r=>by
  rw[eS]at r;cases r with
  | @cons a b as bs h t=>
   obtain⟨rs,c,q⟩:=MU (P:=P) (w:=w) t;obtain⟨b1,b2⟩:=b;exact⟨(p.1,b2)::rs,⟨om h.1,rfl,c⟩,.cons ⟨rfl,h.2⟩ q⟩
noncomputable def Bg(lG:List (TE×TE)):TE:=λσ H Q=>∀p,H p=aD->EZ lG σ (upd H p (.dK [])) λps H2=>H2 p=aC (.dK [])/\∃kvs:List (Key×V),ps=kvs.map (λkv=>(kV kv.1,kv.2))/\kvs.length<=15/\Q (.ref p) (upd H2 p (.dK (uw [] kvs)))
theorem TV{X:Cx}{pos:Pos}{keys:List (Option aq)}{values:List aq}{lG:List (TE×TE)}(h:Bf X pos keys values lG)(hall:keys.all (·.isSome))(hl:keys.length=values.length)(h0:keys≠[])
 (Ic:keys.length<=15):PE X (.Dict keys values pos) (Bg lG):=by
 intro pins s σ H Q I q;have hn:=I.hok.fresh (aZ s.heap.objs.size);have I1:=I.laid (a:=s.heap.objs.size) (o:=.dK []) (h':=s.heap.push {cls:=.type "dict",data:=.dict #[]}) (t':=s.toks) (λ_ _ q=>cC _ q) (aZ _) (MS s.heap I.big);refine wpAny_Dict_walk (knd:=kH X.prog X.w) hall hl h0 Ic (aY (h pins _ σ _ _ I1 (q _ hn)) λws s2 di=>?_);obtain⟨ps,H2,I2,rel,e,kvs,ep,lk,q2⟩:=di;subst ep;obtain⟨rs,c,rk⟩:=MU (P:=X.prog) (w:=X.w) rel;obtain⟨z,hd,Ie,r0,dd⟩:=Be I2.hok e;cases r0;refine⟨rs,c,dd,λh' Ig hs=>⟨.ref s.heap.objs.size,_,?_,rfl,q2⟩⟩;have hz:(uw [] kvs).length<=sizeLine:=by have h1:=MT kvs [];rw[tX]at h1;rw[zN];lia
 have he:∃q,h'.get? s.heap.objs.size=aC q:=let⟨q,_,_,hq,_⟩:=Ig;⟨q,hq⟩;exact TJ I2 (by rw[e];exact True.intro) hs he (TL hz hd (rk.merge .nil) Ig)
theorem TX:fillsNumberSlot (.type "tuple") "mul" = pure false:=
 PySem.fillsNumberSlot_seq (id:="tuple.__mul__") (r:=aC (.builtin "tuple.__rmul__")) zZ.lookup (by decide +kernel) F.slot_tuple_rmul.lookup (by decide +kernel)
theorem TY:seqRepeat? (.type "tuple")=pure (aC (.builtin "tuple.__mul__")):=by unfold seqRepeat?;rw[PySem.seqSlot_of (T:="tuple") (name:="__mul__") (id:="tuple.__mul__") zZ.lookup (by decide +kernel),PySem.seqSlot_of (T:="tuple") (name:="__rmul__") (id:="tuple.__rmul__") F.slot_tuple_rmul.lookup (by decide +kernel)];rfl
theorem TZ(k:Int)(t:Tok)(l:ai)(its:Array aa)(n:Nat)(dd:Option ai)(sl:Array (Option aa)) :
 Meets (Builtin.«int.__rmul__» ⟨[.int k t,.ref l],[]⟩) (λ_ R s=>s.heap.get? l=aC {cls:=.type "tuple",dict:=dd,data:=.seq its n,slots:=sl}/\R (.ok (.ret Value.notImplemented)) s):=
 .of_wp λprog w A R s h=>by
  obtain⟨hp,g,d,tk,os⟩:=s;obtain⟨e,h⟩:=h
  wp_walk using nK e;exact⟨_,rfl,h⟩
theorem T3(l:ai)(its:Array aa)(n:Nat)(dd:Option ai)(sl:Array (Option aa))(k:Int)(t:Tok)(h1:¬(decide (k < -(2 ^ 63))||decide (k>=2 ^ 63)))(h2:(its.isEmpty||k==1)) :
 Meets (Builtin.«tuple.__mul__» ⟨[.ref l,.int k t],[]⟩) (λ_ R s=>s.heap.get? l=aC {cls:=.type "tuple",dict:=dd,data:=.seq its n,slots:=sl}/\R (.ok (.ret (.ref l))) s):=
 .of_wp λprog w A R s h=>by
  obtain⟨hp,g,d,tk,os⟩:=s;obtain⟨e,h⟩:=h;have f1:=AutoSeq1.idx_int
  wp_walk using nK e;refine wpAny_ite ?_;rw[if_neg h1]
  wp_walk using nK e;exact⟨_,rfl,h⟩
theorem T4(l:ai)(its:Array aa)(n:Nat)(dd:Option ai)(sl:Array (Option aa))(k:Int)(t:Tok)(h1:¬(decide (k < -(2 ^ 63))||decide (k>=2 ^ 63)))(h2:¬(its.isEmpty||k==1))(h3:(decide (k<=0)||its.isEmpty)) :
 Meets (Builtin.«tuple.__mul__» ⟨[.ref l,.int k t],[]⟩) (λ_ R s=>s.heap.get? l=aC {cls:=.type "tuple",dict:=dd,data:=.seq its n,slots:=sl}/\R (.ok (.ret (.ref s.heap.objs.size))) {s with heap:=s.heap.push {cls:=.type "tuple",data:=.seq #[]}}):=
 .of_wp λprog w A R s h=>by
  obtain⟨hp,g,d,tk,os⟩:=s;obtain⟨e,h⟩:=h;have f1:=AutoSeq1.idx_int
  wp_walk using nK e;refine wpAny_ite ?_;rw[if_neg h1]
  wp_walk using nK e;exact⟨_,rfl,h⟩
theorem T5(l:ai)(its:Array aa)(n:Nat)(dd:Option ai)(sl:Array (Option aa))(k:Int)(t:Tok)(h1:¬(decide (k < -(2 ^ 63))||decide (k>=2 ^ 63)))(h2:¬(its.isEmpty||k==1))(h3:¬(decide (k<=0)||its.isEmpty)=true)
 (h4:¬(its.size*k> (2 ^ 63-1)/8)) (h5:¬Builtin.Tuple.tupleTooMany (its.size*k)) (h6:((aR k.toNat its).foldl (· ++ ·) #[]).size<=sizeLine) :
 Meets (Builtin.«tuple.__mul__» ⟨[.ref l,.int k t],[]⟩) (λ_ R s=>s.heap.get? l=aC {cls:=.type "tuple",dict:=dd,data:=.seq its n,slots:=sl}/\R (.ok (.ret (.ref s.heap.objs.size))) {s with heap:=s.heap.push {cls:=.type "tuple",data:=.seq ((aR k.toNat its).foldl (· ++ ·) #[])}}):=
 .of_wp λprog w A R s h=>by
  obtain⟨hp,g,d,tk,os⟩:=s;obtain⟨e,h⟩:=h;have f1:=AutoSeq1.idx_int
  wp_walk using nK e;refine wpAny_ite ?_;rw[if_neg h1]
  wp_walk using nK e;refine wpAny_ite ?_;rw[if_neg h4]
  wp_walk using nK e;exact⟨_,rfl,h⟩
section
variable{X:Cx}
noncomputable def ux(K:aI):R2:=λx y H Q=>∃a k xs,x=.ref a/\y=.int k/\cH K H a xs/\-(2 ^ 62)<=k/\k<2 ^ 62/\xs.length*k.toNat<=sizeLine/\
 ((xs.isEmpty||k==1)=true->Q (.ref a) H)/\((xs.isEmpty||k==1)=false->∀p,H p=aD->Q (.ref p) (upd H p (.tup (aR k.toNat xs).flatten)))
theorem MW{xs:List V}{us:List aa}(r:Vals xs us):us.toArray.isEmpty=xs.isEmpty:=by cases r<;>rfl
theorem T6:dh X (binaryOp .Mult) (ux X.K):=by
 intro pins s σ H x y v u Q I rx ry h;obtain⟨a,k,xs,rfl,rfl,ha,k1,k2,hz,q1,q2⟩:=h;cases rx;obtain⟨t,rfl⟩:=ry;obtain⟨its,r,p,_⟩:=I.tuple ha;obtain⟨⟨c,dd,dt,sl⟩,e1,e2,n,e3⟩:=p
 replace e2:c=.type "tuple":=e2
 replace e3:dt=.seq its.toArray n:=e3;subst e2 e3;have hl:xs.length=its.length:=r.length;have h1:¬(decide (k < -(2 ^ 63))||decide (k>=2 ^ 63))=true:=by simp only[k8,fF];lia
 refine wpAny_binaryOp_repeat_ref (T:="tuple") (U:="int") (by decide) ⟨_,e1,rfl⟩ (λs'=>zO s' k t) TX F.fills_int_mul EC TY F.slot_int_index.lookup
  (nJ EC (zO s k t) F.entry_int_rmul (F.args_int_rmul_2 _ _) (TZ k t a its.toArray n dd sl) ⟨e1,rfl,⟨_,e1,rfl⟩,?_⟩)
 by_cases h2:(its.toArray.isEmpty||k==1)=true;refine nJ zZ ⟨_,e1,rfl⟩ F.entry_tuple_mul (F.args_tuple_mul_2 _ _) (T3 a its.toArray n dd sl k t h1 h2) ⟨e1,?_⟩;exact⟨.ref a,H,I,rfl,q1 (by rw[<-MW r];exact h2)⟩;have q2:=q2 (by rw[<-MW r];simpa using h2);by_cases h3:(decide (k<=0)||its.toArray.isEmpty)=true;have hk:k.toNat=0:=by
  have:its.toArray.isEmpty=false:=by
   cases q:its.toArray.isEmpty with|false=>rfl|true=>rw[q]at h2;exact absurd rfl h2
  rw[this,Bool.or_false,fF]at h3;lia
 refine nJ zZ ⟨_,e1,rfl⟩ F.entry_tuple_mul (F.args_tuple_mul_2 _ _) (T4 a its.toArray n dd sl k t h1 h2 h3) ⟨e1,?_⟩;rw[hk]at q2;exact⟨.ref s.heap.objs.size,_,I.laid (t':=s.toks) (o:=.tup []) (λb ob q=>cC _ q) (aZ _) ⟨jG _,[],.nil,ly.new _ _⟩,rfl,q2 _ (I.hok.fresh (aZ _))⟩;have hk:0<k:=by simp only[k8,fF,not_or]at h3;lia
 have hkn:((k.toNat:Nat):Int)=k:=Int.toNat_of_nonneg (by lia);have hmul:(its.toArray.size:Int)*k=((xs.length*k.toNat:Nat):Int):=by rw[dR,<-hl,Int.natCast_mul,hkn]
 have hsl:(sizeLine:Nat)=16777216:=rfl;have fl:(aR k.toNat its.toArray).foldl (· ++ ·) #[]=(aR k.toNat its).flatten.toArray:=by
  have:=Hu its k.toNat []
  rw[mD]at this;exact this
 refine nJ zZ ⟨_,e1,rfl⟩ F.entry_tuple_mul (F.args_tuple_mul_2 _ _) (T5 a its.toArray n dd sl k t h1 h2 h3 (by rw[hmul];lia) (by
  unfold Builtin.Tuple.tupleTooMany;rw[hmul,fF];lia) (by rw[fl,dR,Hw,Nat.mul_comm,<-hl];exact hz)) ⟨e1,?_⟩
 rw[fl];exact⟨.ref s.heap.objs.size,_,I.laid (t':=s.toks) (o:=.tup (aR k.toNat xs).flatten) (λb ob q=>cC _ q) (aZ _) ⟨by rw[Hw,Nat.mul_comm];exact hz,_,r.rep k.toNat,ly.new _ _⟩,rfl,q2 _ (I.hok.fresh (aZ _))⟩
noncomputable def MX(K:aI):R2:=λx y H Q=>∃a b ys,x=.ref a/\y=.ref b/\cH K H a []/\cH K H b ys/\Q (.ref b) H
theorem T7:dh X (binaryOp .Add) (MX X.K):=by
 intro pins s σ H x y v u Q I rx ry h;obtain⟨a,b,ys,rfl,rfl,ha,hb,q⟩:=h;cases rx;cases ry;obtain⟨its,r1,p1,_⟩:=I.tuple ha;obtain⟨its2,r2,p2,_⟩:=I.tuple hb;cases r1;obtain⟨⟨c,dd,dt,sl⟩,e1,e2,n,e3⟩:=p1;obtain⟨⟨c2,dd2,T8,sl2⟩,f1,f2,n2,f3⟩:=p2
 replace e2:c=.type "tuple":=e2
 replace e3:dt=.seq ([]:List aa).toArray n:=e3
 replace f2:c2=.type "tuple":=f2
 replace f3:T8=.seq its2.toArray n2:=f3;subst e2 e3 f2 f3;exact concat_meets ⟨_,e1,rfl⟩ ⟨_,f1,rfl⟩ noFill_tuple_add seq_tuple_add PySem.F.slot_tuple_add PySem.F.entry_tuple_add (PySem.F.args_tuple_add_2 _ _) (tuple_addW0 a b ([]:List aa).toArray its2.toArray n n2 dd dd2 sl sl2 rfl) ⟨e1,f1,⟨.ref b,H,I,rfl,q⟩⟩
noncomputable def fG(ds:List aB)(d:aB):Bool:=ds.any λe=>PyData.eqv e d
noncomputable def rG(K:aI)(neg:Bool):R2:=λx y H Q=>∃p xs ds d,y=.ref p/\(cN K H p xs\/cH K H p xs)/\kC K (λ_=>False) H xs ds/\Rp K (λ_=>False) H x d/\ds.all SeqAt.shaped=true/\SeqAt.shaped d=true/\Q (.bl (if neg then !fG ds d else fG ds d)) H
theorem Bh{h:aA}:∀{us:List aa} {ds:List aB} {as:List ai} {i:Nat} {u:aa},ReadsAll h us ds as->us[i]?=aC u->∃d bs,ds[i]?=aC d/\Reads h u d bs
 |_,_,_,i,u,.nil,e=>by simp at e
 |_,_,_,0,u,.cons r _,e=>by simp at e;subst e;exact⟨_,_,rfl,r⟩
 |_,_,_,i+1,u,.cons _ rs,e=>by
  obtain⟨d,bs,h1,h2⟩:=Bh rs (by simpa using e);exact⟨d,bs,by simpa using h1,h2⟩
open Classical in
noncomputable def dF(us:List aa)(ds:List aB)(d:aB)(u:aa):Bool:=decide (∃(i:Nat) (e:aB),us[i]?=aC u/\ds[i]?=aC e/\PyData.eqv e d=true)
open Classical in
theorem yQ{us:List aa}{ds:List aB}{d:aB}{u:aa}:dF us ds d u=true↔∃(i:Nat) (e:aB),us[i]?=aC u/\ds[i]?=aC e/\PyData.eqv e d=true:=by unfold dF;exact decide_eq_true_iff
theorem E1{us:List aa}{ds:List aB}{d:aB}(hl:us.length=ds.length):us.any (dF us ds d)=fG ds d:=by
 cases q:fG ds d with
 |true=>
  unfold fG at q;rw[List.any_eq_true]at q;obtain⟨e,h1,h2⟩:=q;obtain⟨i,hi,h3⟩:=List.mem_iff_getElem.mp h1;rw[List.any_eq_true];refine⟨us[i]'(by lia),Ep _,?_⟩;rw[yQ];exact⟨i,e,by simp,by rw[k9 hi,h3],h2⟩
 |false=>
  unfold fG at q;rw[List.any_eq_false]at q ⊢;intro u hu z;rw[yQ]at z;obtain⟨i,e,h1,h2,h3⟩:=z;exact q e (El h2) h3
theorem wD{h:aA}:∀{us:List aa} {ds:List aB} {as:List ai},ReadsAll h us ds as->us.length=ds.length|_,_,_,.nil=>rfl|_,_,_,.cons _ r=>by rw[eK,eK,wD r]
theorem yR{A:ao}{s:ah}{us:List aa}{ds:List aB}{as bs:List ai}{d:aB}{v:aa}(hu:A.units+64<cLine)(ra:ReadsAll s.heap us ds as)(rb:Reads s.heap v d bs)(s1:ds.all SeqAt.shaped)(s2:SeqAt.shaped d) :
 ∀u∈us,SeqAt.EqAt A s u v (dF us ds d u):=by
 intro u hm;have sh:∀(i:Nat)(e:aB),ds[i]?=aC e->SeqAt.shaped e=true:=λi e q=>mC.mp s1 e (El q);cases q:dF us ds d u with
 |true=>
  rw[yQ]at q;obtain⟨i,e,h1,h2,h3⟩:=q;obtain⟨e',cs,h4,h5⟩:=Bh ra h1;rw[h2]at h4;cases h4;have:=SeqAt.eqAt_reads e d A s u v cs bs h5 rb (EE (sh i e h2)) (EE s2) (SeqAt.room_of_shaped (sh i e h2) hu);rw[h3]at this;exact this
 |false=>
  obtain⟨i,hi,h1⟩:=List.mem_iff_getElem.mp hm;have h1:us[i]?=aC u:=by rw[k9 hi,h1]
  obtain⟨e,cs,h4,h5⟩:=Bh ra h1;have h3:PyData.eqv e d=false:=by
   cases z:PyData.eqv e d with
   |false=>rfl
   |true=>
    rw[yQ.mpr ⟨i,e,h1,h4,z⟩]at q;cases q
  have:=SeqAt.eqAt_reads e d A s u v cs bs h5 rb (EE (sh i e h4)) (EE s2) (SeqAt.room_of_shaped (sh i e h4) hu);rw[h3]at this;exact this
theorem T9(hu:X.A.in1.units+64<cLine):dh X (compareOp .In) (rG X.K false):=by
 intro pins s σ H x y v u Q I rx ry h;obtain⟨p,xs,ds,d,rfl,hq,r1,r2,s1,s2,q⟩:=h;cases ry;obtain⟨bs,rb⟩:=r2.reads I rx;rcases hq with hq|hq
 obtain⟨its,r,pl,hz⟩:=I.list hq;obtain⟨as,ra⟩:=r1.reads I r;refine SeqAt.in_listAt (dF its ds d) pl.isList (λw hw=>yR hu ra rb s1 s2 w (by simpa using hw)) ⟨.bl _,H,I,rfl,?_⟩;rw[show its.toArray.any (dF its ds d)=its.any (dF its ds d) by simp,E1 (wD ra)];exact q;obtain⟨its,r,pl,hz⟩:=I.tuple hq;obtain⟨as,ra⟩:=r1.reads I r;refine SeqAt.in_tupleAt (dF its ds d) pl (λw hw=>yR hu ra rb s1 s2 w (by simpa using hw)) ⟨.bl _,H,I,rfl,?_⟩;rw[show its.toArray.any (dF its ds d)=its.any (dF its ds d) by simp,E1 (wD ra)];exact q
theorem Ua(hu:X.A.in1.units+64<cLine):dh X (compareOp .NotIn) (rG X.K true):=by
 intro pins s σ H x y v u Q I rx ry h;obtain⟨p,xs,ds,d,rfl,hq,r1,r2,s1,s2,q⟩:=h;cases ry;obtain⟨bs,rb⟩:=r2.reads I rx;rcases hq with hq|hq
 obtain⟨its,r,pl,hz⟩:=I.list hq;obtain⟨as,ra⟩:=r1.reads I r;refine SeqAt.notIn_listAt (dF its ds d) pl.isList (λw hw=>yR hu ra rb s1 s2 w (by simpa using hw)) ⟨.bl _,H,I,rfl,?_⟩;rw[show its.toArray.any (dF its ds d)=its.any (dF its ds d) by simp,E1 (wD ra)];exact q;obtain⟨its,r,pl,hz⟩:=I.tuple hq;obtain⟨as,ra⟩:=r1.reads I r;refine SeqAt.notIn_tupleAt (dF its ds d) pl (λw hw=>yR hu ra rb s1 s2 w (by simpa using hw)) ⟨.bl _,H,I,rfl,?_⟩;rw[show its.toArray.any (dF its ds d)=its.any (dF its ds d) by simp,E1 (wD ra)];exact q
end
end L2
namespace HT
open PySem PySem.Spec PyProof.Rows
section
variable{prog:aj}{w:ak}{A:ao}{E:aa->ah->Prop}{s:ah}
theorem fC{t sl:ai}{items:Array aa}{vl vu:aa}{lo hi:Option Int}{Q:aa->ah->Prop}(ht:IsTup s.heap t items)(hs:s.heap.IsSliceOf sl vl vu .none)(pl:IsPart vl lo)(pu:IsPart vu hi)
 (hw:bz items.size 0 lo=0/\bz items.size items.size hi=items.size)
 (h:Q (.ref t) s):wpAny (model prog w) A (getItem (.ref t) (.ref sl)) Q E s:=by
 obtain⟨os,hos,hcs,hds⟩:=id hs;have yM:s.TypeIs (.ref sl) "slice":=⟨os,hos,hcs⟩
 unfold getItem
 try with_reducible refine jE ?_
 first|refine aJ (bJ ?_)|skip
 refine aJ (wpAny_sequenceKey ht.typeIs (by decide) ?_);refine aJ (vD (name:=Str.ofString "__getitem__") ht.typeIs yz
  (vG yz ht.typeIs entry_tuple_getitem ?_ (args_tuple_getitem _ _)))
 show wpAny _ _ (Builtin.Tuple.tupleItemsOf (.ref t) >>= _) _ _ s;refine aJ (tupleItemsOf_ ht ?_);refine aJ (yr yM ?_);rw[if_pos (by decide)];refine aJ (Mc hs pl pu ?_);have hyes:((((bz items.size 0 lo:Nat):Int)==0&& (1:Int)==1&& (bz items.size items.size hi-bz items.size 0 lo)==items.size)):=by rw[hw.1,hw.2];simp
 show wpAny _ _ (if(((bz items.size 0 lo:Nat):Int)==0&& (1:Int)==1&& (bz items.size items.size hi-bz items.size 0 lo)==items.size)=true then _ else _) _ _ s;rw[if_pos hyes];unfold Builtin.Tuple.tupleIsExact;refine aJ (aJ (yr ht.typeIs (bJ ?_)));rw[if_pos (by decide)];refine aJ (vK ?_);exact bJ ⟨_,rfl,bJ h⟩
end
end HT
namespace L2
open PySem PySem.Spec PyProof.Rows
variable{X:Cx}
noncomputable def Bj(K:aI):V->Option Int->Option Int->Hp->VK->Prop:=λx lo hi H Q=>∃a xs,x=.ref a/\cH K H a xs/\
 (HT.bz xs.length 0 lo=0/\HT.bz xs.length xs.length hi=xs.length)/\Q (.ref a) H
theorem Ub:rz X (Bj X.K):=by
 intro pins s σ H x v vl vu lo hi sl Q I rx hs pl pu h;obtain⟨a,xs,rfl,hx,hw,q⟩:=h;cases rx;obtain⟨its,r,ht,hz⟩:=I.tuple hx;have hlen:its.toArray.size=xs.length:=by rw[dR];exact r.length.symm
 refine⟨"tuple",_,yz.lookup,ht.typeIs,?_⟩;refine HT.fC ht hs pl pu (by rw[hlen];exact hw) ?_;exact⟨.ref a,_,I,rfl,q⟩
noncomputable def Ih(K:aI):V->Option Int->Option Int->Hp->VK->Prop:=λx lo hi H Q=>(AQ K x lo hi H Q\/Bj K x lo hi H Q)\/AW K x lo hi H Q
theorem Uc:rz X (Ih X.K):=(R9.or Ub).or Sh
noncomputable def ZI(b:Bool)(h:aA)(I l:ai)(k:Nat):Prop:=match b with|true=>h.IsTupleIter I l k|false=>h.IsListIter I l k
noncomputable def ZS(b:Bool)(h:aA)(l:ai)(xs:Array aa):Prop:=match b with|true=>h.IsTuple l xs|false=>h.IsList l xs
noncomputable def Bk(b:Bool):String:=match b with|true=>"tuple_iterator" |false=>"list_iterator"
noncomputable def E2(b:Bool)(l:ai):Obj:={cls:=.type (Bk b),data:=.fields #[.ref l,.int 0 0]}
theorem ZI.ex{b:Bool}{h h':aA}{I l c:ai}{k:Nat}(x:ZI b h I l k)(s:Heap.ExtBut c h h')(n:I≠c):ZI b h' I l k:=by cases b;exact Heap.IsListIter.extBut x s n;exact Heap.IsTupleIter.extBut x s n
theorem ZS.ex{b:Bool}{h h':aA}{l c:ai}{xs:Array aa}(x:ZS b h l xs)(s:Heap.ExtBut c h h')(n:l≠c):ZS b h' l xs:=by cases b;exact Heap.IsList.extBut x s n;exact Heap.IsTuple.extBut x s n
theorem ZI.mv{b:Bool}{h h':aA}{I l:ai}{k:Nat}(x:ZI b h I l k)(e:∀o,h.get? I=aC o->h'.get? I=aC o):ZI b h' I l k:=by cases b;exact Heap.IsListIter.at x e;exact Heap.IsTupleIter.at x e
theorem ZI.ob{b:Bool}{h:aA}{I l:ai}{k:Nat}(x:ZI b h I l k):∃o,h.get? I=aC o/\∀v,o.data≠.cell v:=by cases b;obtain⟨o,h1,h2,h3⟩:=x;exact⟨o,h1,λv z=>by rw[h3]at z;cases z⟩;obtain⟨o,h1,h2,h3⟩:=x;exact⟨o,h1,λv z=>by rw[h3]at z;cases z⟩
theorem ZS.lt{b:Bool}{h:aA}{l:ai}{xs:Array aa}(x:ZS b h l xs):l<h.objs.size:=by cases b<;> (obtain⟨o,h1,_⟩:=x;exact cF h1)
theorem ZS.push{b:Bool}{h:aA}{l:ai}{xs:Array aa}(x:ZS b h l xs)(o:Obj):ZS b (h.push o) l xs:=by cases b;exact Heap.IsList.push x o;exact Heap.IsTuple.push x o
section
variable{prog:aj}{w:ak}{A:ao}{E:aa->ah->Prop}{s:ah}
theorem Ii{b:Bool}{I l:ai}{k:Nat}{xs:Array aa}{y:aa}{Q:aa->ah->Prop}(hi:ZI b s.heap I l k)(hl:ZS b s.heap l xs)(hy:xs[k]?=aC y)
 (q:∀g,ZI b g I l (k+1)->Heap.SameBut I s.heap g->Q y {s with heap:=g}):wpAny (model prog w) A (Builtin.SmallTypes.nextOf (.ref I)) Q E s:=by
 cases b;exact wpAny_nextOf_list_item hi hl hy q;exact MN hi hl hy q
theorem z_end{b:Bool}{I l:ai}{k:Nat}{xs:Array aa}{Q:aa->ah->Prop}(hA:A.handled=aD)(hi:ZI b s.heap I l k)(hl:ZS b s.heap l xs)(hy:xs[k]?=aD)
 (q:∀g e,Heap.ExtBut I s.heap g->(∃o,g.get? e=aC o/\o.cls=.type "StopIteration")->E (.ref e) {s with heap:=g}):wpAny (model prog w) A (Builtin.SmallTypes.nextOf (.ref I)) Q E s:=by
 cases b;exact wpAny_nextOf_list_end hA hi hl hy q;exact Ia hA hi hl hy q
structure ZA(z TI TO i1 i2 l1 l2:ai):Prop where
 a1:TI≠z/\TO≠z/\i1≠z/\i2≠z
 a2:TI≠TO/\TI≠i1/\TI≠i2/\TO≠i1/\TO≠i2/\i1≠i2
 a3:l1≠z/\l1≠TO/\l1≠i1/\l1≠i2
 a4:l2≠z/\l2≠TO/\l2≠i1/\l2≠i2
theorem Ud{n l1 l2:Nat}(h1:l1<n)(h2:l2<n):ZA (n+4) (n+2) (n+3) n (n+1) l1 l2:=by have e:∀{a b:Nat},(a<b\/b<a)->a≠b:=λh=>h.elim eB lg;refine⟨⟨?_,?_,?_,?_⟩,⟨?_,?_,?_,?_,?_,?_⟩,⟨?_,?_,?_,?_⟩,?_,?_,?_,?_⟩<;>exact e (by lia)
theorem Ue{b c:Bool}{z TI TO i1 i2 l1 l2:ai}{k:Nat}{xs ys:Array aa}{x y p q:aa}{Q:aa->ah->Prop}(D:ZA z TI TO i1 i2 l1 l2)
 (hz:IsZip s.heap z TI TO .none) (hTI:IsPair s.heap TI (.ref i1) (.ref i2)) (hTO:IsPair s.heap TO p q)
 (h1:ZI b s.heap i1 l1 k) (h2:ZI c s.heap i2 l2 k) (hl1:ZS b s.heap l1 xs) (hl2:ZS c s.heap l2 ys) (hx:xs[k]?=aC x) (hy:ys[k]?=aC y)
 (hQ:∀h',IsZip h' z TI TO (rawInt s.heap.objs.size)->IsPair h' TO x y->ZI b h' i1 l1 (k+1)->ZI c h' i2 l2 (k+1)->IsPair h' s.heap.objs.size x y->h'.objs.size=s.heap.objs.size+1->
   (∀c o,c≠z->c≠TO->c≠i1->c≠i2->s.heap.get? c=aC o->h'.get? c=aC o)->Q (.ref s.heap.objs.size) {s with heap:=h'}) :
 wpAny (model prog w) A (Builtin.«zip.__next__» ⟨[.ref z],[]⟩) (λfin s'=>∃v,fin=.done (.ret v)/\Q v s') E s:=by
 obtain⟨⟨d1,d2,d3,d4⟩,⟨d5,d6,d7,d8,d9,Bl⟩,⟨E3,Ug,Uh,Ui⟩,Ij,Ik,Il,Uj⟩:=D;show wpAny _ _ (field (.ref z) 2 >>= _) _ _ _;refine aJ (iP hz rfl (x:=.bool false) rfl ?_);show wpAny _ _ (field (.ref z) 3 >>= _) _ _ _;refine aJ (iP hz rfl (x:=.ref TI) rfl (aJ (pR hTI rfl ?_)));show wpAny _ _ (Builtin.SmallTypes.ownedTupleIsFree (.ref z) >>= _) _ _ _;refine aJ ?_;unfold Builtin.SmallTypes.ownedTupleIsFree;refine aJ (iP hz rfl (x:=.none) rfl (bJ ?_));simp only[dH];refine aJ (vK (aJ (iP hz rfl (x:=.ref TO) rfl (aJ (yo hz (by simp) λg1 z1 s1=>?_)))))
 replace z1:IsZip g1 z TI TO .ellipsis:=z1;refine aJ ?_;simp only[List.zipIdx_cons,List.zipIdx_nil,zR,vQ];refine aJ (aJ (Ef ?_));show wpAny _ _ (Builtin.SmallTypes.nextOf (.ref i1) >>= _) _ _ _;refine aJ (Ii (h1.ex s1.extBut d3) (hl1.ex s1.extBut E3) hx λg2 y1 s2=>bJ ?_);have t2:IsPair g2 TO p q:=s2.extBut _ _ d8 (s1.extBut _ _ d2 hTO);refine aJ (pR t2 rfl (aJ (wpAny_updateSeq_pair t2 λg3 t3 s3=>?_)))
 replace t3:IsPair g3 TO x q:=t3;refine aJ (Eg (bJ (aJ (aJ (Ef ?_)))));show wpAny _ _ (Builtin.SmallTypes.nextOf (.ref i2) >>= _) _ _ _;refine aJ (Ii (((h2.ex s1.extBut d4).ex s2.extBut (eE Bl)).ex s3.extBut (eE d9)) (((hl2.ex s1.extBut Ij).ex s2.extBut Il).ex s3.extBut Ik) hy λg4 y2 s4=>bJ ?_);have t4:IsPair g4 TO x q:=s4.extBut _ _ d9 t3;refine aJ (pR t4 rfl (aJ (wpAny_updateSeq_pair t4 λg5 t5 s5=>?_)))
 replace t5:IsPair g5 TO x y:=t5;refine aJ (Eg (bJ (bJ (aJ (pR t5 rfl (aJ (wpAny_newTuple ?_)))))));have hsz:g5.objs.size=s.heap.objs.size:=by rw[s5.1,s4.1,s3.1,s2.1,s1.1]
 have z5:IsZip g5 z TI TO .ellipsis:=s5.extBut _ _ (eE d2) (s4.extBut _ _ (eE d4) (s3.extBut _ _ (eE d2) (s2.extBut _ _ (eE d3) z1)));have k5:∀c o,c≠z->c≠TO->c≠i1->c≠i2->s.heap.get? c=aC o->g5.get? c=aC o:=λc o c1 c2 c3 c4 e=>s5.extBut _ _ c2 (s4.extBut _ _ c4 (s3.extBut _ _ c2 (s2.extBut _ _ c3 (s1.extBut _ _ c1 e))));have Uk:ZI b g5 i1 l1 (k+1):=((y1.ex s3.extBut (eE d8)).ex s4.extBut Bl).ex s5.extBut (eE d8);have Ul:ZI c g5 i2 l2 (k+1):=y2.ex s5.extBut (eE d9);have E4:z<g5.objs.size:=cF z5;show wpAny _ _ (Builtin.SmallTypes.ownedTupleHandOut (.ref z) (.ref g5.objs.size) >>= _) _ _ _;refine aJ ?_;unfold Builtin.SmallTypes.ownedTupleHandOut;have z6:IsZip (g5.push {cls:=.type "tuple",data:=.seq #[x,y]}) z TI TO .ellipsis:=cC _ z5;refine aJ (yo z6 (by simp) λg7 z7 s7=>?_)
 replace z7:IsZip g7 z TI TO (rawInt g5.objs.size):=z7;refine yo z7 (by simp) λg8 z8 s8=>?_
 replace z8:IsZip g8 z TI TO (rawInt g5.objs.size):=z8;have up:∀c o,c≠z->g5.get? c=aC o->g8.get? c=aC o:=λc o c1 e=>s8.extBut _ _ c1 (s7.extBut _ _ c1 (cC _ e));have p8:IsPair g8 g5.objs.size x y:=s8.extBut _ _ (lg E4) (s7.extBut _ _ (lg E4) (ji _ rfl));have n8:g8.objs.size=g5.objs.size+1:=by rw[s8.1,s7.1,nq]
 rw[hsz]at z8 p8 n8;refine bJ ⟨_,rfl,?_⟩;show Q (.ref g5.objs.size) _;rw[hsz];exact hQ g8 z8 (up _ _ d2 t5) (Uk.mv λo e=>up _ o d3 e) (Ul.mv λo e=>up _ o d4 e) p8 n8 λc o c1 c2 c3 c4 e=>up c o c1 (k5 c o c1 c2 c3 c4 e)
theorem Um{b c:Bool}{z TI TO i1 i2 l1 l2:ai}{k:Nat}{xs ys:Array aa}{p q:aa}{Q:Fin->ah->Prop}(hA:A.handled=aD)(D:ZA z TI TO i1 i2 l1 l2)
 (hz:IsZip s.heap z TI TO .none) (hTI:IsPair s.heap TI (.ref i1) (.ref i2)) (hTO:IsPair s.heap TO p q)
 (h1:ZI b s.heap i1 l1 k) (h2:ZI c s.heap i2 l2 k) (hl1:ZS b s.heap l1 xs) (hl2:ZS c s.heap l2 ys) (he:xs[k]?=aD\/ys[k]?=aD)
 (hE:∀h' e,(∀c o,c≠z->c≠TO->c≠i1->c≠i2->s.heap.get? c=aC o->h'.get? c=aC o)->(∃o,h'.get? e=aC o/\o.cls=.type "StopIteration")->E (.ref e) {s with heap:=h'}) :
 wpAny (model prog w) A (Builtin.«zip.__next__» ⟨[.ref z],[]⟩) Q E s:=by
 obtain⟨⟨d1,d2,d3,d4⟩,⟨d5,d6,d7,d8,d9,Bl⟩,⟨E3,Ug,Uh,Ui⟩,Ij,Ik,Il,Uj⟩:=D;show wpAny _ _ (field (.ref z) 2 >>= _) _ _ _;refine aJ (iP hz rfl (x:=.bool false) rfl ?_);show wpAny _ _ (field (.ref z) 3 >>= _) _ _ _;refine aJ (iP hz rfl (x:=.ref TI) rfl (aJ (pR hTI rfl ?_)));show wpAny _ _ (Builtin.SmallTypes.ownedTupleIsFree (.ref z) >>= _) _ _ _;refine aJ ?_;unfold Builtin.SmallTypes.ownedTupleIsFree;refine aJ (iP hz rfl (x:=.none) rfl (bJ ?_));simp only[dH];refine aJ (vK (aJ (iP hz rfl (x:=.ref TO) rfl (aJ (yo hz (by simp) λg1 z1 s1=>?_)))))
 replace z1:IsZip g1 z TI TO .ellipsis:=z1;refine aJ ?_;simp only[List.zipIdx_cons,List.zipIdx_nil,zR,vQ];refine aJ (aJ (Ef ?_));show wpAny _ _ (Builtin.SmallTypes.nextOf (.ref i1) >>= _) _ _ _;cases hx:xs[k]? with
 |none=>
  refine aJ (z_end hA (h1.ex s1.extBut d3) (hl1.ex s1.extBut E3) hx λg2 e s2 hs=>?_);obtain⟨oe,wF,hce⟩:=hs;have z2:IsZip g2 z TI TO .ellipsis:=s2 _ _ (eE d3) z1;have Im:e≠z:=λx=>by subst x;rw[z2]at wF;cases wF;simp at hce
  exact yo z2 (by simp) λg3 _ s3=>hE g3 e (λc o c1 _ c3 _ x=>s3.extBut _ _ c1 (s2 _ _ c3 (s1.extBut _ _ c1 x))) ⟨oe,s3.extBut _ _ Im wF,hce⟩
 |some x=>
  have hy:ys[k]?=aD:=by rcases he with h|h;rw[hx]at h;cases h;exact h
  refine aJ (Ii (h1.ex s1.extBut d3) (hl1.ex s1.extBut E3) hx λg2 y1 s2=>bJ ?_);have t2:IsPair g2 TO p q:=s2.extBut _ _ d8 (s1.extBut _ _ d2 hTO);refine aJ (pR t2 rfl (aJ (wpAny_updateSeq_pair t2 λg3 t3 s3=>?_)));refine aJ (Eg (bJ (aJ (aJ (Ef ?_)))));show wpAny _ _ (Builtin.SmallTypes.nextOf (.ref i2) >>= _) _ _ _;refine aJ (z_end hA (((h2.ex s1.extBut d4).ex s2.extBut (eE Bl)).ex s3.extBut (eE d9)) (((hl2.ex s1.extBut Ij).ex s2.extBut Il).ex s3.extBut Ik) hy λg4 e s4 hs=>?_);obtain⟨oe,wF,hce⟩:=hs;have z4:IsZip g4 z TI TO .ellipsis:=s4 _ _ (eE d4) (s3.extBut _ _ (eE d2) (s2.extBut _ _ (eE d3) z1));have Im:e≠z:=λx=>by subst x;rw[z4]at wF;cases wF;simp at hce
  exact yo z4 (by simp) λg5 _ s5=>hE g5 e (λc o c1 c2 c3 c4 x=>s5.extBut _ _ c1 (s4 _ _ c4 (s3.extBut _ _ c2 (s2.extBut _ _ c3 (s1.extBut _ _ c1 x))))) ⟨oe,s5.extBut _ _ Im wF,hce⟩
theorem Uo{b c:Bool}{z TI TO i1 i2 l1 l2:ai}{k:Nat}{xs ys:Array aa}{x y p q:aa}{Q:Option aa->ah->Prop}(D:ZA z TI TO i1 i2 l1 l2)
 (hz:IsZip s.heap z TI TO .none) (hTI:IsPair s.heap TI (.ref i1) (.ref i2)) (hTO:IsPair s.heap TO p q)
 (h1:ZI b s.heap i1 l1 k) (h2:ZI c s.heap i2 l2 k) (hl1:ZS b s.heap l1 xs) (hl2:ZS c s.heap l2 ys) (hx:xs[k]?=aC x) (hy:ys[k]?=aC y)
 (hQ:∀h',IsZip h' z TI TO (rawInt s.heap.objs.size)->IsPair h' TO x y->ZI b h' i1 l1 (k+1)->ZI c h' i2 l2 (k+1)->IsPair h' s.heap.objs.size x y->h'.objs.size=s.heap.objs.size+1->
   (∀c o,c≠z->c≠TO->c≠i1->c≠i2->s.heap.get? c=aC o->h'.get? c=aC o)->Q (aC (.ref s.heap.objs.size)) {s with heap:=h'}):wpAny (model prog w) A (pyNext (.ref z)) Q E s:=by
 have hT:s.TypeIs (.ref z) "zip":=⟨_,hz,rfl⟩
 unfold pyNext;exact aJ (Ed (vD (name:=Str.ofString "__next__") hT ED (vG ED hT F.entry_zip_next (Ue D hz hTI hTO h1 h2 hl1 hl2 hx hy λh' a1 a2 a3 a4 a5 a6 a7=>bJ (hQ h' a1 a2 a3 a4 a5 a6 a7)) (F.args_zip_next_1 _))))
theorem Up{b c:Bool}{z TI TO i1 i2 l1 l2:ai}{k:Nat}{xs ys:Array aa}{p q:aa}{Q:Option aa->ah->Prop}(hA:A.in1.handled=aD)(D:ZA z TI TO i1 i2 l1 l2)
 (hz:IsZip s.heap z TI TO .none) (hTI:IsPair s.heap TI (.ref i1) (.ref i2)) (hTO:IsPair s.heap TO p q)
 (h1:ZI b s.heap i1 l1 k) (h2:ZI c s.heap i2 l2 k) (hl1:ZS b s.heap l1 xs) (hl2:ZS c s.heap l2 ys) (he:xs[k]?=aD\/ys[k]?=aD)
 (hQ:∀h',(∀c o,c≠z->c≠TO->c≠i1->c≠i2->s.heap.get? c=aC o->h'.get? c=aC o)->Q aD {s with heap:=h'}):wpAny (model prog w) A (pyNext (.ref z)) Q E s:=by
 have hT:s.TypeIs (.ref z) "zip":=⟨_,hz,rfl⟩
 unfold pyNext;refine aJ (Ed (vD (name:=Str.ofString "__next__") hT ED (vG ED hT F.entry_zip_next (Um hA D hz hTI hTO h1 h2 hl1 hl2 he λh' e hk hs=>?_) (F.args_zip_next_1 _))));obtain⟨o,ho,hc⟩:=hs;exact aJ (wpAny_isInstance (T:="StopIteration") (b:=true) ⟨o,ho,hc⟩ isSubtype_stop (bJ (hQ _ hk)))
noncomputable def E5(h:aA)(b:Bool)(l1:ai):aA:=h.push (E2 b l1)
noncomputable def Bm(h:aA)(b c:Bool)(l1 l2:ai):aA:=(E5 h b l1).push (E2 c l2)
noncomputable def Bo(h:aA)(b c:Bool)(l1 l2:ai):aA:=(Bm h b c l1 l2).push {cls:=.type "tuple",data:=.seq #[.ref h.objs.size,.ref (E5 h b l1).objs.size]}
noncomputable def Bp(h:aA)(b c:Bool)(l1 l2:ai):aA:=(Bo h b c l1 l2).push {cls:=.type "tuple",data:=.seq #[.none,.none]}
noncomputable def uy(h:aA)(b c:Bool)(l1 l2:ai):aA:=(Bp h b c l1 l2).push {cls:=.type "zip",data:=.fields #[.none,.bool false,.bool false,.ref (Bm h b c l1 l2).objs.size,.ref (Bo h b c l1 l2).objs.size]}
theorem Uq(b c:Bool)(l1 l2:ai)(xs ys:Array aa):Meets (Builtin.«zip.__new__» ⟨[.type "zip",.ref l1,.ref l2],[]⟩) (λ_ R s=>ZS b s.heap l1 xs/\ZS c s.heap l2 ys/\
 R (.ok (.ret (.ref (Bp s.heap b c l1 l2).objs.size))) {s with heap:=uy s.heap b c l1 l2}):=
 .of_wp λprog w A R s h=>by
  obtain⟨hp,g,d,tk,os⟩:=s;obtain⟨m1,m2,h⟩:=h;have hsub:=sub_zip;have e1:ZS b (Shared.heap ⟨hp,g,d,tk,os⟩) l1 xs:=m1;have e2:ZS c (Shared.heap ⟨hp.push (E2 b l1),g,d,tk,os⟩) l2 ys:=m2.push _;cases b<;>cases c;have q1:Heap.IsList (Shared.heap ⟨hp,g,d,tk,os⟩) l1 xs:=e1;have q2:Heap.IsList (Shared.heap ⟨hp.push {cls:=.type "list_iterator",data:=.fields #[.ref l1,.int 0 0]},g,d,tk,os⟩) l2 ys:=e2
  wp_walk using zL q1,zL q2;exact⟨_,rfl,h⟩;have q1:Heap.IsList (Shared.heap ⟨hp,g,d,tk,os⟩) l1 xs:=e1;have q2:Heap.IsTuple (Shared.heap ⟨hp.push {cls:=.type "list_iterator",data:=.fields #[.ref l1,.int 0 0]},g,d,tk,os⟩) l2 ys:=e2
  wp_walk using zL q1,vF q2;exact⟨_,rfl,h⟩;have q1:Heap.IsTuple (Shared.heap ⟨hp,g,d,tk,os⟩) l1 xs:=e1;have q2:Heap.IsList (Shared.heap ⟨hp.push {cls:=.type "tuple_iterator",data:=.fields #[.ref l1,.int 0 0]},g,d,tk,os⟩) l2 ys:=e2
  wp_walk using vF q1,zL q2;exact⟨_,rfl,h⟩;have q1:Heap.IsTuple (Shared.heap ⟨hp,g,d,tk,os⟩) l1 xs:=e1;have q2:Heap.IsTuple (Shared.heap ⟨hp.push {cls:=.type "tuple_iterator",data:=.fields #[.ref l1,.int 0 0]},g,d,tk,os⟩) l2 ys:=e2
  wp_walk using vF q1,vF q2;exact⟨_,rfl,h⟩
theorem MY{b:Bool}{h:aA}{l:ai}{a:ai}(e:h.get? a=aC (E2 b l)):ZI b h a l 0:=by cases b<;>exact⟨_,e,rfl,rfl⟩
theorem Ur{b c:Bool}{l1 l2:ai}{xs ys:Array aa}{Q:aa->ah->Prop}(m1:ZS b s.heap l1 xs)(m2:ZS c s.heap l2 ys)
 (h:∀h',IsZip h' (s.heap.objs.size+4) (s.heap.objs.size+2) (s.heap.objs.size+3) .none->IsPair h' (s.heap.objs.size+2) (.ref s.heap.objs.size) (.ref (s.heap.objs.size+1))->
   IsPair h' (s.heap.objs.size+3) .none .none->ZI b h' s.heap.objs.size l1 0->ZI c h' (s.heap.objs.size+1) l2 0->h'.objs.size=s.heap.objs.size+5->
   (∀c o,s.heap.get? c=aC o->h'.get? c=aC o)->Q (.ref (s.heap.objs.size+4)) {s with heap:=h'}):wpAny (model prog w) A (call (.type "zip") [.ref l1,.ref l2]) Q E s:=by
 refine callType_new F.called_zip (by decide) (F.typeCall_zip_2 _ _) (F.newCall_zip_2 _ _) (λobj=>F.args_object_init_3 obj _ _) F.entry_zip_new (Uq b c l1 l2 xs ys) ⟨m1,m2,?_⟩;have n1:(E5 s.heap b l1).objs.size=s.heap.objs.size+1:=nq ..;have n2:(Bm s.heap b c l1 l2).objs.size=s.heap.objs.size+2:=by unfold Bm;rw[nq,n1]
 have n3:(Bo s.heap b c l1 l2).objs.size=s.heap.objs.size+3:=by unfold Bo;rw[nq,n2]
 have n4:(Bp s.heap b c l1 l2).objs.size=s.heap.objs.size+4:=by unfold Bp;rw[nq,n3]
 have n5:(uy s.heap b c l1 l2).objs.size=s.heap.objs.size+5:=by unfold uy;rw[nq,n4]
 have g5:(uy s.heap b c l1 l2).get? (Bp s.heap b c l1 l2).objs.size=aC _:=ji _ rfl;have g4:(uy s.heap b c l1 l2).get? (Bo s.heap b c l1 l2).objs.size=aC _:=cC _ (ji _ rfl);have g3:(uy s.heap b c l1 l2).get? (Bm s.heap b c l1 l2).objs.size=aC _:=cC _ (cC _ (ji _ rfl));have g2:(uy s.heap b c l1 l2).get? (E5 s.heap b l1).objs.size=aC _:=cC _ (cC _ (cC _ (ji _ rfl)));have g1:(uy s.heap b c l1 l2).get? s.heap.objs.size=aC _:=cC _ (cC _ (cC _ (cC _ (ji _ rfl))));show _/\_;rw[n2,n3,n4]at g5;rw[n1,n2]at g3;rw[n3]at g4;rw[n1]at g2;rw[n4];exact⟨⟨_,g5,rfl⟩,h _ g5 g3 g4 (MY g1) (MY g2) n5 λc o x=>cC _ (cC _ (cC _ (cC _ (cC _ x))))⟩
end
noncomputable def mP(b:Bool)(K:aI)(H:Hp)(a:ai)(xs:List V):Prop:=match b with|true=>cH K H a xs|false=>cN K H a xs
theorem yS{b:Bool}{X:Cx}{pins:List (ai×Obj)}{σ:St}{H:Hp}{s:ah}{a:ai}{xs:List V}(I:Inv X pins σ H s)(h:mP b X.K H a xs):∃its:List aa,Vals xs its/\ZS b s.heap a its.toArray/\xs.length<=sizeLine:=by cases b;obtain⟨its,r,p,z⟩:=I.list h;exact⟨its,r,p.isList,z⟩;exact I.tuple h
theorem MZ{b:Bool}{X:Cx}{pins:List (ai×Obj)}{σ:St}{H:Hp}{s:ah}{a:ai}{xs ys:List V}(I:Inv X pins σ H s)(h:mP b X.K H a xs)(h':mP b X.K H a ys):xs=ys:=by cases b;exact I.jO h h';exact I.gw h h'
noncomputable def wG(K:aI)(b c:Bool)(a1 a2:ai):It:=
 ⟨λi H=>∃xs ys x y,mP b K H a1 xs/\mP c K H a2 ys/\xs[i]?=aC x/\ys[i]?=aC y,
  λi H v H'=>∃T x y,v=.ref T/\H T=aD/\H'=upd H T (.tup [x,y])/\(∀xs,mP b K H a1 xs->xs[i]?=aC x)/\∀ys,mP c K H a2 ys->ys[i]?=aC y,
  λi H=>∃xs ys,mP b K H a1 xs/\mP c K H a2 ys/\(xs.length<=i\/ys.length<=i)⟩
theorem Inv.rH{X:Cx}{pins:List (ai×Obj)}{σ:St}{H:Hp}{s:ah}{h2:aA}{t':Nat}{fp:List ai}(I:Inv X pins σ H s)(hf:∀b∈fp,fV X pins H b)(kk:∀b o,b∉fp->s.heap.get? b=aC o->h2.get? b=aC o) :
 Inv X pins σ H {s with heap:=h2,toks:=t'}:=by
 have f0:=λb hb=>(hf b hb).1;have nE:∀b o,H b=aC o->b∉fp:=λb o q z=>by rw[f0 b z]at q;cases q
 refine I.step (g':=s.gens) (d':=s.drawn) (ch:=fp) (λb hb=>?_) (λb o _ _ hc e1 _=>kk b o hc e1) (λb o _ _ hc e1 _=>⟨o.slots,kk b o hc e1⟩) (λ_ _ _ _ n=>n) (λb o hc e1=>⟨o,kk b o hc e1⟩)
  (λ_ _ q=>q) (λ_ _ _ q=>q) (λb ps q=>⟨#[],by rw[q];simp⟩) (λm hm=>?_) (λb ob q=>?_) I.bare
 obtain⟨_,a1,a2,a3,a4,a5⟩:=hf b hb;exact⟨a3,a1,a4,a5⟩;obtain⟨o,es,ep,ho',r⟩:=hm;exact⟨o,es,ep,kk _ o (λz=>(hf _ z).2.1 rfl) ho',r⟩;refine(I.hok b ob q).stay (λc v hc z=>kk c v ?_ z) (λ_ z=>z) λ_ _ z=>z;rcases hc with rfl|hc;exact nE c ob q;exact nE c _ hc
theorem Inv.rJ{X:Cx}{pins:List (ai×Obj)}{σ:St}{H:Hp}{s:ah}{h2:aA}{fp:List ai}{xs:List V}{us:List aa}(I:Inv X pins σ H s)(hf:∀b∈fp,fV X pins H b)(kk:∀b o,b∉fp->s.heap.get? b=aC o->h2.get? b=aC o)
 (hT:h2.get? s.heap.objs.size=aC {cls:=.type "tuple",data:=.seq us.toArray}) (hv:Vals xs us) (hz:xs.length<=sizeLine):Inv X pins σ (upd H s.heap.objs.size (.tup xs)) {s with heap:=h2}:=by
 have lE:H s.heap.objs.size=aD:=I.hok.fresh (aZ _);have f0:=λb hb=>(hf b hb).1;have nE:∀b o,H b=aC o->b∉fp:=λb o q z=>by rw[f0 b z]at q;cases q
 refine I.step (g':=s.gens) (d':=s.drawn) (ch:=fp) (λb hb=>?_) (λb o _ _ hc e1 _=>kk b o hc e1) (λb o _ _ hc e1 _=>⟨o.slots,kk b o hc e1⟩) (λb o hc e1 n=>by rw[bX (eB (cF e1))];exact n) (λb o hc e1=>⟨o,kk b o hc e1⟩)
  (λb ys q=>by rw[bX (gR q lE)];exact q) (λb o u q=>by rw[bX (gR q lE)];exact q) (λb ps q=>⟨#[],by rw[bX (gR q lE),q];simp⟩) (λm hm=>?_) (λb ob q=>?_) I.bare
 obtain⟨_,a1,a2,a3,a4,a5⟩:=hf b hb;exact⟨a3,a1,a4,a5⟩;obtain⟨o,es,ep,ho',r⟩:=hm;exact⟨o,es,ep,kk _ o (λz=>(hf _ z).2.1 rfl) ho',r⟩;by_cases hb:b=s.heap.objs.size;subst hb;rw[fB]at q;cases q;exact⟨hz,us,hv,⟨_,hT,rfl,⟨_,rfl⟩,rfl⟩⟩;rw[bX hb]at q;refine(I.hok b ob q).stay (λc v hc z=>kk c v ?_ z) (λc z=>by rw[bX (gR z lE)];exact z) λc ys z=>by rw[bX (gR z lE)];exact z
 rcases hc with rfl|hc;exact nE c ob q;exact nE c _ hc
theorem Us{P:aj}{w:ak}{K:aI}{elts:List aq}{kx:Nat}{tp:Pos}{b c:Bool}(a1 a2 z TI TO i1 i2:ai)(D:ZA z TI TO i1 i2 a1 a2) :
 Turn P w K (.Tuple elts kx tp) (wG K b c a1 a2) [z,TI,TO,i1,i2] z (λi h=>IsZip h z TI TO .none/\IsPair h TI (.ref i1) (.ref i2)/\(∃p q,IsPair h TO p q)/\ZI b h i1 a1 i/\ZI c h i2 a2 i)where
 mem:=by simp
 obj:=λi h st d hd=>by
  obtain⟨hz,hTI,⟨p,q,hTO⟩,h1,h2⟩:=st;simp only[iQ,Es,or_false]at hd;rcases hd with rfl|rfl|rfl|rfl|rfl;exact⟨_,hz,λv z=>by
   have z':Data.fields _=Data.cell v:=z;cases z'⟩
  exact⟨_,hTI,λv z=>by
   have z':Data.seq _ _=Data.cell v:=z;cases z'⟩
  exact⟨_,hTO,λv z=>by
   have z':Data.seq _ _=Data.cell v:=z;cases z'⟩
  exact h1.ob;exact h2.ob
 keep:=λi h h' st k=>by
  obtain⟨hz,hTI,⟨p,q,hTO⟩,h1,h2⟩:=st;exact⟨k z (by simp) _ hz,k TI (by simp) _ hTI,⟨p,q,k TO (by simp) _ hTO⟩,h1.mv λo e=>k i1 (by simp) o e,h2.mv λo e=>k i2 (by simp) o e⟩
 item:=by
  intro X hP hw hK hc i pins s σ H E I hf st hg;subst hP hw hK;obtain⟨xs,ys,x,y,q1,q2,hx,hy⟩:=hg;obtain⟨hz,hTI,⟨p,q,hTO⟩,h1,h2⟩:=st;obtain⟨its,rv,m1,_⟩:=yS I q1;obtain⟨M1,rw',m2,_⟩:=yS I q2;obtain⟨u,hu,ru⟩:=rv.get hx;obtain⟨v,hv,Ut⟩:=rw'.get hy;refine Uo D hz hTI hTO h1 h2 m1 m2 (x:=u) (y:=v) (by simpa using hu) (by simpa using hv) λg b1 b2 b3 b4 b5 b6 b7=>⟨_,rfl,wpAny_letOwnedTupleGo_zip b1 λg2 c1 c2=>?_⟩
  obtain⟨⟨d1,d2,d3,d4⟩,⟨d5,d6,d7,d8,d9,Bl⟩,_,_⟩:=D;have c2:Heap.SameBut z g g2:=c2;have E4:s.heap.objs.size≠z:=lg (cF hz);have kk:∀d o,d∉[z,TI,TO,i1,i2]->s.heap.get? d=aC o->g2.get? d=aC o:=λd o hd e=>(c2.2 d λx=>hd (by simp[x])).trans (b7 d o (λx=>hd (by simp[x])) (λx=>hd (by simp[x])) (λx=>hd (by simp[x])) (λx=>hd (by simp[x])) e);have hT:g2.get? s.heap.objs.size=aC {cls:=.type "tuple",data:=.seq [u,v].toArray}:=(c2.2 _ E4).trans b5;have I2:=Inv.rJ (xs:=[x,y]) I hf kk hT (.cons ru (.cons Ut .nil)) (by show 2<=sizeLine;decide);have lE:H s.heap.objs.size=aD:=I.hok.fresh (aZ _);refine⟨.ref s.heap.objs.size,_,I2,rfl,⟨_,x,y,rfl,lE,rfl,λzs hzs=>by rw[MZ I hzs q1];exact hx,λzs hzs=>by rw[MZ I hzs q2];exact hy⟩,
   ⟨c1,(c2.2 TI d1).trans (b7 TI _ d1 d5 d6 d7 hTI),⟨u,v,(c2.2 TO d2).trans b2⟩,b3.mv λo e=>(c2.2 i1 d3).trans e,b4.mv λo e=>(c2.2 i2 d4).trans e⟩,λd hd=>?_⟩
  rw[bX ?_];exact(hf d hd).1;intro e;obtain⟨o,ho⟩:∃o,s.heap.get? d=aC o:=by
   simp only[iQ,Es,or_false]at hd;rcases hd with rfl|rfl|rfl|rfl|rfl
   exact⟨_,hz⟩;exact⟨_,hTI⟩;exact⟨_,hTO⟩;exact let⟨o,h,_⟩:=h1.ob;⟨o,h⟩;exact let⟨o,h,_⟩:=h2.ob;⟨o,h⟩
  exact eB (cF ho) e
 done:=by intro X hP hw hK hc i pins s σ H E I hf st hg;subst hP hw hK;obtain⟨xs,ys,q1,q2,hl⟩:=hg;obtain⟨hz,hTI,⟨p,q,hTO⟩,h1,h2⟩:=st;obtain⟨its,rv,m1,_⟩:=yS I q1;obtain⟨M1,rw',m2,_⟩:=yS I q2;have l1:=rv.length;have l2:=rw'.length;exact Up (I.ok.hd hc) D hz hTI hTO h1 h2 m1 m2 (hl.imp (λh=>by simp;lia) λh=>by simp;lia) λg hk=>⟨rfl,Inv.rH (t':=s.toks) I hf λd o hd e=>hk d o (λx=>hd (by simp[x])) (λx=>hd (by simp[x])) (λx=>hd (by simp[x])) (λx=>hd (by simp[x])) e⟩
 self:=λ_ _ _ _ _ st h=>wpAny_pyIter_zip st.1 h
section
variable{prog:aj}{w:ak}{A:ao}{E:aa->ah->Prop}{s:ah}
theorem Uu{l b sl:ai}{items new:Array aa}{n n2:Nat}{vl vu:aa}{a c:Nat}{lo hi:Option Int}{Q:Unit->ah->Prop}
 (e:s.heap.get? l=aC {cls:=.type "list",data:=.seq items n}) (e2:s.heap.get? b=aC {cls:=.type "list",data:=.seq new n2}) (hne:l≠b)
 (hs:s.heap.IsSliceOf sl vl vu .none) (pl:IsPart vl lo) (pu:IsPart vu hi) (hbd:sliceBounds lo hi aD items.size=((a:Int),(c:Int),1)) (hac:a<=c) (hc:c<=items.size)
 (hsz:items.size+new.size<=sizeLine) (h:Q () {s with heap:=s.heap.update l (Obj.mapSeq λxs=>xs.extract 0 a++new++xs.extract c xs.size)}) :
 wpAny (model prog w) A (setItem (.ref l) (.ref sl) (.ref b)) Q E s:=by
 have hl:s.heap.IsList l items:=PySem.IsL.isList e;have hb:s.heap.IsList b new:=PySem.IsL.isList e2;obtain⟨os,hos,hcs,hds⟩:=id hs;have yM:s.TypeIs (.ref sl) "slice":=⟨os,hos,hcs⟩
 have hstep:¬((rawPart aD==rawInt 0)):=ic
 have hsame:Builtin.List.listSameRef (.ref l) (.ref b)=false:=by unfold Builtin.List.listSameRef;exact vC.mpr hne
 have Io:(max (a:Int) (c:Int)).toNat=c:=by lia
 have hz':((λxs:Array aa=>xs.extract 0 a++new++xs.extract c xs.size) items).size<=sizeLine+1:=by simp only[Array.size_append,Array.size_extract];lia
 unfold setItem
 try with_reducible refine jE ?_
 first|refine aJ (bJ ?_)|skip
 refine aJ (wpAny_sequenceKey hl.typeIs (by decide) ?_);refine aJ (vD (name:=Str.ofString "__setitem__") hl.typeIs slot_list_setitem
  (vG slot_list_setitem hl.typeIs entry_list_setitem ?_ (args_list_setitem _ _ _)))
 show wpAny _ _ (Builtin.List.listSubscript? (.ref sl) >>= _) _ _ s;refine aJ ?_;unfold Builtin.List.listSubscript?;refine aJ (wpAny_specialOf yM slice_no_index ?_);simp only[Option.isNone_none,dH];refine bJ ?_;show wpAny _ _ (typeOf (.ref sl) >>= _) _ _ s;refine aJ (yr yM ?_);first
  |rw[if_neg (by decide)]
  |refine PySem.W.KFB.if_not (by decide) ?_
 rw[listSliceParts_eq];refine aJ (aJ (iP hos hds (x:=.none) rfl (aJ (wpAny_listPart .none ?_))));rw[if_neg hstep];refine aJ (iP hos hds (x:=vl) rfl (aJ (wpAny_listPart pl ?_)));refine aJ (iP hos hds (x:=vu) rfl (aJ (wpAny_listPart pu (bJ ?_))));first
  |simp only[hsame,fS,fy]
  |refine PySem.W.KFB.if_not hsame ?_
  |(dsimp only
    rw[if_neg (by rw[hsame];exact ic)])
 refine aJ (m:=Builtin.List.listAllItems (.ref b) "must assign iterable to extended slice") ?_;unfold Builtin.List.listAllItems;refine aJ (yr hb.typeIs ?_);first
  |refine PySem.W.KFB.if_so (by decide) ?_
  |rw[if_pos (by decide)]
  |simp only[zH,Bool.true_or,dH]
 unfold Builtin.List.listItems;refine aJ (pR e2 rfl (bJ ?_));refine aJ (aJ (pR e rfl (bJ ?_)));refine aJ (vJ ((sliceIndices_raw lo hi aD items.size (by simp)).trans (nk (pure:Int×Int×Int->Sem (Int×Int×Int)) hbd)) ?_);show wpAny _ _ (if((1:Int)==1)=true then _ else _) _ _ s;rw[if_pos (by decide)];refine aJ (vK ?_);first
  |simp only[AZ hsz,fS,fy]
  |refine PySem.W.KFB.if_not (AZ hsz) ?_
 first|refine aJ (bJ ?_)|skip
 show wpAny _ _ (updateSeq l (λxs=>xs.extract 0 ((a:Int)).toNat++new++xs.extract (max (a:Int) (c:Int)).toNat xs.size) >>= _) _ _ s;rw[Io,pX];refine aJ (wpAny_updateSeq (hz:=gu (zU _ _) hsz) (_hz':=hz') e rfl ?_);refine aJ (Eg ?_);first
  |exact aJ (bJ (bJ ⟨.none,rfl,bJ h⟩))
  |exact bJ ⟨.none,rfl,bJ h⟩
end
section
variable{X:Cx}
noncomputable def Ip(to:TE)(tl th:TO):TG:=λv σ H Q=>to σ H λx H1=>tl σ H1 λl H2=>th σ H2 λu H3=>∃p b xs ys,x=.ref p/\v=.ref b/\p≠b/\H3 p=aC (.lst xs)/\H3 b=aC (.lst ys)/\
 HT.bz xs.length 0 l<=HT.bz xs.length xs.length u/\xs.length+ys.length<=sizeLine/\Q σ (upd H3 p (.lst (xs.take (HT.bz xs.length 0 l)++ys++xs.drop (HT.bz xs.length xs.length u))))
theorem M3{n d:Nat}(hd:d<=n)(o:Option Int):HT.bz n d o<=n:=by
 cases o with
 |none=>exact hd
 |some v=>
  show(if v<0 then(v+ (n:Int)).toNat else min v.toNat n)<=n;split<;>lia
theorem Uv{o:aq}{lo hi:Option aq}{to:TE}{tl th:TO}{p2 pos:Pos}(ho:PE X o to)(hl:PO X lo tl)(hu:PO X hi th):PG X (.Subscript o (.Slice lo hi aD p2) pos) (Ip to tl th):=by
 intro pins s σ H v u Q I r h;have ha:assign (.Subscript o (.Slice lo hi aD p2) pos) X.env u=(do
  let ov <-holding [u] (eval o X.env);let iv <-holding [u,ov] (eval (.Slice lo hi aD p2) X.env)
  standAt pos
  holding [u,ov,iv] (setItem ov iv u)
  release [iv,u,ov] []):=rfl
 rw[ha];refine aJ (jE (aY (ho pins s σ H _ I h) λov s1 z9=>z9.el λx H1 I1 r1 q1=>?_));refine aJ (jE (wpAny_Slice (aY (hl pins s1 σ H1 _ I1 q1) λvl s2 ⟨l,H2,I2,pl,q2⟩=>aY (hu pins s2 σ H2 _ I2 q2) λvu s3 di=>?_)));obtain⟨w,H3,I3,pu,q3⟩:=di;rw[evalPart_none];refine bJ ?_;have I4:Inv X pins σ H3 {s3 with heap:=s3.heap.push {cls:=.type "slice",data:=.fields #[vl,vu,.none]}}:=I3.kept (t':=s3.toks) λb ob q=>cC _ q;obtain⟨p,b,xs,ys,rfl,rfl,hne,hp,hb,hac,hz,q⟩:=q3;cases r1;cases r;obtain⟨z,its,n,rr,hl',e⟩:=I4.iT hp;obtain⟨z2,its2,n2,Uw,hl2,e2⟩:=I4.iT hb;obtain⟨b1,b2,b3⟩:=Mi l w its.toArray.size;have hsz:its.toArray.size=xs.length:=by rw[dR];exact hl'.symm
 refine aJ (jF (aJ (jE ?_)));refine Uu (a:=HT.bz xs.length 0 l) (c:=HT.bz xs.length xs.length w) (lo:=l) (hi:=w) e e2 hne (Heap.IsSliceOf.new ..) pl pu (by rw[<-hsz];exact Prod.ext b1 (Prod.ext b2 b3)) hac (by rw[hsz];exact M3 (aZ _) _) (by rw[hsz,dR];lia) ?_;refine wpAny_release ⟨σ,_,I4.rD (its':=its.take (HT.bz xs.length 0 l)++its2++its.drop (HT.bz xs.length xs.length w)) (t':=s3.toks) hp e (Ss its its2 _ _) (Vals.append (Vals.append (rr.take _) Uw) (rr.drop _)) ?_,q⟩;have h1:=M3 (jG xs.length) l;rw[dY,dY,yw,zP];lia
end
theorem Iq{h:aA}{us:List aa}{ds:List aB}{as:List ai}{d e:aB}{u:aa}{i:Nat}(ra:ReadsAll h us ds as)(s1:ds.all SeqAt.shaped)(h1:us[i]?=aC u)(h2:ds[i]?=aC e):dF us ds d u=PyData.eqv e d:=by
 cases q:PyData.eqv e d with
 |true=>exact yQ.mpr ⟨i,e,h1,h2,q⟩
 |false=>
  refine Ea.mpr λz=>?_;obtain⟨j,e',h3,h4,h5⟩:=yQ.mp z;obtain⟨e1,cs1,g1,g2⟩:=Bh ra h1;obtain⟨e2,cs2,g3,g4⟩:=Bh ra h3;rw[h2]at g1;cases g1;rw[h4]at g3;cases g3;have:e=e':=(Reads.unique g2 _ _ g4).1;subst this;rw[q]at h5;cases h5
theorem M4{α β:Type}{p:α->Bool}{q:β->Bool}:∀{us:List α} {ds:List β},us.length=ds.length->(∀(i:Nat) (u:α) (e:β),us[i]?=aC u->ds[i]?=aC e->p u=q e)->us.countP p=ds.countP q
 |[],[],_,_=>rfl
 |[],_::_,h,_=>by cases h
 |_::_,[],h,_=>by cases h
 |u::us,e::ds,h,k=>by
  rw[List.countP_cons,List.countP_cons,k 0 u e rfl rfl,M4 (us:=us) (ds:=ds) (by simpa using h) λi u e h1 h2=>k (i+1) u e (by simpa using h1) (by simpa using h2)]
theorem Ux{h:aA}{us:List aa}{ds:List aB}{as:List ai}{d:aB}(ra:ReadsAll h us ds as)(s1:ds.all SeqAt.shaped):us.countP (dF us ds d)=ds.countP λe=>PyData.eqv e d:=
 M4 (wD ra) λi u e h1 h2=>Iq ra s1 h1 h2
section
variable{X:Cx}
noncomputable def Uy(K:aI)(tup:Bool):V->List V->Hp->VK->Prop:=λx vs H Q=>∃p xs y ds d,x=.ref p/\vs=[y]/\(if tup then cH K H p xs else cN K H p xs)/\kC K (λ_=>False) H xs ds/\Rp K (λ_=>False) H y d/\ds.all SeqAt.shaped=true/\SeqAt.shaped d=true/\
 Q (.int (ds.countP λe=>PyData.eqv e d:Nat)) H
theorem Uz(hu:X.A.in1.units+64<cLine):EV X "list.count" (Uy X.K false):=by
 intro pins s σ H x vs v us Q I rx rv h;obtain⟨p,xs,y,ds,d,rfl,rfl,hq,r1,r2,s1,s2,q⟩:=h;cases rx;obtain⟨u,rfl,ru⟩:=rv.one;obtain⟨bs,rb⟩:=r2.reads I ru;simp only[fS,fy]at hq;obtain⟨its,r,pl,hz⟩:=I.list hq;obtain⟨as,ra⟩:=r1.reads I r;obtain⟨⟨c,dd,dt,sl⟩,n,e1,e2,e4,e3⟩:=pl
 replace e2:c=.type "list":=e2
 replace e3:dt=.seq its.toArray n:=e3;subst e2 e3;refine nJ PySem.F.slot_list_count ⟨_,e1,rfl⟩ PySem.F.entry_list_count (PySem.F.args_list_count_2 _ _) (SeqAt.list_countAt p its.toArray n dd sl u (dF its ds d)) ⟨e1,λw hw=>yR ?_ ra rb s1 s2 w (by simpa using hw),?_⟩;exact hu;refine⟨.int _,H,I.tok _,⟨_,rfl⟩,?_⟩;rw[show its.toArray.toList=its from rfl,Ux ra s1];exact q
end
end L2
namespace RF
open PySem
inductive W where
 |aN|bl (b:Bool)|int (i:Int)|str (x:Str)|tup (ws:List W)|fz (ws:List W)|ref (i:Nat)|bN (a:Nat)
mutual
noncomputable def W.lt(n:Nat):W->Bool|.tup ws=>W.jK n ws|.fz ws=>W.jK n ws|.ref i=>Nat.blt i n|_=>true
noncomputable def W.jK(n:Nat):List W->Bool|[]=>true|w::ws=>W.lt n w&&W.jK n ws
end
inductive VO where
 |lst (ws:List W)|dk (kvs:List (L2.Key×W))
structure VH where
 n:Nat
 lo:Nat
 os:List VO
noncomputable def VH.get(h:VH)(i:Nat):Option VO:=if Nat.blt i h.n then h.os[h.n-1-i]? else aD
noncomputable def VH.set(h:VH)(i:Nat)(o:VO):VH:=⟨h.n,if Nat.blt i h.lo then i else h.lo,h.os.set (h.n-1-i) o⟩
noncomputable def VH.new(h:VH)(o:VO):VH:=⟨h.n+1,h.lo,o::h.os⟩
inductive Res(α:Type)where
 |ok (a:α) (h:VH)|ex (x:W) (h:VH)|no
noncomputable def Res.bind{α β:Type}(r:Res α)(f:α->VH->Res β):Res β:=match r with|.ok a h=>f a h|.ex x h=>.ex x h|.no=>.no
noncomputable def Res.of{α:Type}(o:Option α)(h:VH):Res α:=match o with|some a=>.ok a h|none=>.no
inductive Op where
 |add|sub|mul|fdiv|mod|shl|pow
 deriving DecidableEq
inductive Cp where
 |eq|ne|lt|le|gt|ge|Bq|oq|wH|wI
 deriving DecidableEq
inductive Ty where
 |int|bool|tuple|list|str|dict
 deriving DecidableEq
inductive Bi where
 |len|list|tuple|int|abs|max|min|all|Ir
 deriving DecidableEq
inductive Mt where
 |append|get|count
 deriving DecidableEq
inductive Kd where
 |seq|eW|Iu|mQ|zip|keys
 deriving DecidableEq
inductive Tg where
 |one (i:Nat)|many (is:List Nat)
 deriving DecidableEq
inductive E where
 |var (i:Nat)|cst (w:W)
 |nil|cons (a r:E)
 |tup (a:E)|lst (a:E)|Iv (a:E)
 |op (o:Op) (a b:E)|neg (a:E)
 |cmp (c:Cp) (a b:E)|wJ (c d:Cp) (a b e:E)
 |not (a:E)|and (a b:E)|or (a b:E)|qc (a:E)|ite (c a b:E)
 |idx (a b:E)|slc (a:E) (bl:Bool) (lo:E) (bh:Bool) (hi:E)
 |call (f:Nat) (a:E)|bi (b:Bi) (a:E)|E6 (t:Ty) (a:E)|mt (m:Mt) (o a:E)
 |lc (k:Kd) (a:E) (t:Tg) (ow:Nat) (ix:List Nat) (c e:E)
 |M5 (k:Kd) (a:E) (t:Tg) (ow:Nat) (ix:List Nat) (c:E) (k2:Kd) (a2:E) (t2:Tg) (c2 e:E)
 |dc (k:Kd) (a:E) (t:Tg) (ow:Nat) (ix:List Nat) (c e v:E)
 |gD (j:Nat) (fs:List (Nat×Nat)) (a:E)
inductive S where
 |skip|seq (a b:S)|set (i:Nat) (e:E)|jo (is:List Nat) (e:E)|aug (i:Nat) (o:Op) (e:E)
 |put (o i v:E)|rK (o:E) (bl:Bool) (lo:E) (bh:Bool) (hi v:E)|ite (c:E) (a b:S)|ret (e:E)|expr (e:E)|brk|cnt
 |for (k:Kd) (a:E) (t:Tg) (b:S)|yT (c:E) (b:S)|ou (f:Nat) (a:E) (tb:List (Nat×W))|mR (j:Nat) (a:E) (fs:List (Nat×Nat)) (tb:List (Nat×W))|jq (f:Nat) (a:E) (b:Bool) (s t:S)|no
noncomputable abbrev En:=List (Option W)
inductive Fl where
 |nx (ρ:En)|rt (w:W)|bk (ρ:En)|ct (ρ:En)
noncomputable def bY{α β:Type}(f:α->Option β):List α->Option (List β)
 |[]=>aC []
 |a::r=>match f a with
  |some b=>(match bY f r with
   |some bs=>aC (b::bs)
   |none=>aD)
  |none=>aD
noncomputable def toD(h:VH):Nat->W->Option aB
 |0,_=>aD
 |n+1,w=>match w with
  |.aN=>aC .none
  |.bl b=>aC (.bool b)
  |.int i=>aC (.int i)
  |.str x=>aC (.str x)
  |.tup ws=>(bY (toD h n) ws).map .tuple
  |.fz ws=>(bY (toD h n) ws).map .list
  |.bN _=>aD
  |.ref i=>match h.get i with
   |some (.lst ws)=>(bY (toD h n) ws).map .list
   |_=>aD
noncomputable def kO(h:VH)(x y:W):Option Bool:=
 match toD h 24 x,toD h 24 y with|some d,aC e=>if SeqAt.shaped d&&SeqAt.shaped e then aC (PyData.eqv d e)else aD|_,_=>aD
noncomputable def big:Nat:=16777216
noncomputable def rL(i:Int):Bool:=decide (-(2 ^ 64)<i)&&decide (i<2 ^ 64)
noncomputable def eU:Op->Int->Int->Option Int|.add,i,j=>aC (i+j)|.sub,i,j=>aC (i-j)|.mul,i,j=>if rL i||rL j then aC (i*j)else aD|.fdiv,i,j=>if decide (0<j)&&decide (j<1073741824)then aC (i/j)else aD|.mod,i,j=>if decide (0<j)then aC (i % j)else aD|.shl,i,j=>if decide (0<=j)&&decide (j<=1000000)&&decide (i.natAbs<2 ^ 64)then aC (i*2 ^ j.toNat)else aD|.pow,i,j=>if decide (0<=j)&&decide (j<=1000000)&&decide (i.natAbs<2 ^ 64)then aC (i ^ j.toNat)else aD
noncomputable def E7:Op->List W->List W->Option (List W)|.add,xs,ys=>if Nat.ble (xs.length+ys.length) big then aC (xs++ys)else aD|_,_,_=>aD
noncomputable def Iw:Op->List W->List W->Option (List W)|.add,xs,ys=>if Nat.ble (xs.length+ys.length) big then aC (xs++ys)else aD|_,_,_=>aD
noncomputable def fits(i:Int):Bool:=decide (-(2 ^ 62)<=i)&&decide (i<2 ^ 62)
noncomputable def iU(o:Op)(xs:List W)(k:Int):Option (List W):=match o with|.mul=>if fits k&&Nat.ble (xs.length*k.toNat) big then aC (aR k.toNat xs).flatten else aD|_=>aD
noncomputable def dB(o:Op)(x y:W)(h:VH):Res W:=match x,y with
 |.int i,.int j=>.of ((eU o i j).map .int) h
 |.tup xs,.tup ys=>.of ((E7 o xs ys).map .tup) h
 |.tup xs,.int k=>.of ((iU o xs k).map .tup) h
 |.ref i,.int k=>(match h.get i with
  |some (.lst xs)=>(match iU o xs k with
   |some zs=>.ok (.ref h.n) (h.new (.lst zs))
   |none=>.no)
  |_=>.no)
 |.ref i,.ref j=>match h.get i,h.get j with
  |some (.lst xs),aC (.lst ys)=>(match Iw o xs ys with
   |some zs=>.ok (.ref h.n) (h.new (.lst zs))
   |none=>.no)
  |_,_=>.no
 |_,_=>.no
noncomputable def yU(o:Op)(x y:W)(h:VH):Res W:=match x,y with
 |.int i,.int j=>(match o with
  |.add=>.ok (.int (i+j)) h
  |.sub=>.ok (.int (i-j)) h
  |.mul=>.of ((eU .mul i j).map .int) h
  |.fdiv=>.of ((eU .fdiv i j).map .int) h
  |_=>.no)
 |.ref i,.ref j=>match o,h.get i,h.get j with
  |.add,aC (.lst xs),aC (.lst ys)=>if Nat.ble (xs.length+ys.length) big then .ok (.ref i) (h.set i (.lst (xs++ys)))else .no
  |_,_,_=>.no
 |_,_=>.no
noncomputable def eX:Cp->Int->Int->Option Bool|.lt,i,j=>aC (decide (i<j))|.le,i,j=>aC (decide (i<=j))|.gt,i,j=>aC (decide (j<i))|.ge,i,j=>aC (decide (j<=i))|_,_,_=>aD
noncomputable def bL:W->Bool|.aN=>true|_=>false
noncomputable def aQ(h:VH):W->Option (List W)
 |.tup ws=>aC ws
 |.fz ws=>aC ws
 |.ref i=>match h.get i with
  |some (.lst ws)=>aC ws
  |_=>aD
 |_=>aD
noncomputable def kP(h:VH)(x y:W):Option Bool:=match aQ h y,toD h 24 x with
 |some ws,aC d=>(match bY (toD h 24) ws with
  |some ds=>if ds.all SeqAt.shaped&&SeqAt.shaped d then aC (L2.fG ds d)else aD
  |none=>aD)
 |_,_=>aD
noncomputable def Br:W->W->Option Bool|.bl c,.bl b=>aC (c==b)|_,_=>aD
noncomputable def aX(c:Cp)(h:VH)(x y:W):Option Bool:=match c with
 |.wH=>kP h x y
 |.wI=>(kP h x y).map (!·)
 |.eq=>kO h x y
 |.ne=>(kO h x y).map (!·)
 |.Bq=>if bL y then aC (bL x)else Br x y
 |.oq=>if bL y then aC (!bL x)else(Br x y).map (!·)
 |c=>match x,y with
  |.int i,.int j=>eX c i j
  |_,_=>aD
noncomputable def mS(h:VH):W->Option Bool
 |.bl b=>aC b
 |.int i=>aC (i != 0)
 |.aN=>aC false
 |.tup ws=>aC (!ws.isEmpty)
 |.ref i=>match h.get i with
  |some (.lst ws)=>aC (!ws.isEmpty)
  |_=>aD
 |_=>aD
noncomputable def rM:W->Option L2.Key|.int i=>aC (.inl i)|.str x=>aC (.inr x)|_=>aD
noncomputable def fH(kvs:List (L2.Key×W))(k:L2.Key):Option W:=(kvs.find? λkv=>decide (kv.1=k)).map (·.2)
noncomputable def lH(kvs:List (L2.Key×W))(k:L2.Key)(w:W):List (L2.Key×W):=
 if(kvs.any λkv=>decide (kv.1=k))=true then kvs.map (λkv=>if kv.1=k then(kv.1,w)else kv)else kvs++[(k,w)]
noncomputable def bq(h:VH)(x y:W):Option W:=match x,y with
 |.tup ws,.int i=>L2.dZ ws i
 |.fz ws,.int i=>L2.dZ ws i
 |.ref a,.int i=>(match h.get a with
  |some (.lst ws)=>L2.dZ ws i
  |some (.dk kvs)=>fH kvs (.inl i)
  |_=>aD)
 |.ref a,.str x=>(match h.get a with
  |some (.dk kvs)=>fH kvs (.inr x)
  |_=>aD)
 |_,_=>aD
noncomputable def cJ(b:Bool)(w:W):Option (Option Int):=match b,w with|false,_=>aC aD|true,.int i=>aC (aC i)|_,_=>aD
noncomputable def gy(ws:List W)(lo hi:Option Int):List W:=(ws.drop (HT.bz ws.length 0 lo)).take (HT.bz ws.length ws.length hi-HT.bz ws.length 0 lo)
noncomputable def jr(x:W)(l u:Option Int)(h:VH):Res W:=match x with
 |.tup ws=>.ok (.tup (gy ws l u)) h
 |.ref i=>(match h.get i with
  |some (.lst ws)=>.ok (.ref h.n) (h.new (.lst (gy ws l u)))
  |_=>.no)
 |_=>.no
@[simp] theorem Bs {ws:List W} {l u:Option Int} {h:VH}:jr (.tup ws) l u h=.ok (.tup (gy ws l u)) h:=rfl
noncomputable def dG:Ty->VH->W->Option Bool
 |t,_,.aN=>aC false
 |t,_,.bl _=>aC (t == .int||t == .bool)
 |t,_,.int _=>aC (t == .int)
 |t,_,.str _=>aC (t == .str)
 |t,_,.tup _=>aC (t == .tuple)
 |_,_,.fz _=>aD
 |_,_,.bN _=>aD
 |t,h,.ref i=>match h.get i with
  |some (.lst _)=>aC (t == .list)
  |some (.dk _)=>aC (t == .dict)
  |_=>aD
noncomputable def fZ(xs:List W)(h:VH):Res W:=match xs with
 |[x]=>.of (match aQ h x with
  |some ws=>aC (.int ws.length)
  |none=>aD) h
 |_=>.no
noncomputable def iC(xs:List W)(h:VH):Res W:=match xs with
 |[x]=>(match aQ h x with
  |some ws=>.ok (.ref h.n) (h.new (.lst ws))
  |none=>.no)
 |_=>.no
noncomputable def wK(xs:List W)(h:VH):Res W:=match xs with
 |[x]=>.of (match aQ h x with
  |some ws=>aC (.tup ws)
  |none=>aD) h
 |_=>.no
noncomputable def oz(xs:List W)(h:VH):Res W:=match xs with|[.int i]=>.ok (.int i) h|[.bl b]=>.ok (.int (if b then 1 else 0)) h|_=>.no
noncomputable def kQ(xs:List W)(h:VH):Res W:=match xs with|[.int i]=>.ok (.int (if i<0 then -i else i)) h|_=>.no
noncomputable def rN(xs:List W)(h:VH):Res W:=match xs with|[.int i,.int j]=>.ok (.int (if j>i then j else i)) h|_=>.no
noncomputable def kR(xs:List W)(h:VH):Res W:=match xs with|[.int i,.int j]=>.ok (.int (if j<i then j else i)) h|_=>.no
noncomputable def jt(x w:W)(l u:Option Int)(h:VH):Res W:=match x,w with
 |.ref a,.ref b=>(match h.get a,h.get b with
  |some (.lst ws),aC (.lst zs)=>if Nat.beq a b then .no else if Nat.ble (HT.bz ws.length 0 l) (HT.bz ws.length ws.length u)&&Nat.ble (ws.length+zs.length) big then
   .ok .aN (h.set a (.lst (ws.take (HT.bz ws.length 0 l)++zs++ws.drop (HT.bz ws.length ws.length u))))else .no
  |_,_=>.no)
 |_,_=>.no
noncomputable def UA:W->Option Bool|.bl b=>aC b|_=>aD
noncomputable def Bt(xs:List W)(h:VH):Res W:=match xs with
 |[.ref i]=>(match h.get i with
  |some (.lst ws)=>.of ((bY UA ws).map λbs=>.bl (bs.all id)) h
  |_=>.no)
 |_=>.no
noncomputable def Bu(j:Nat):List W:=(List.range' 0 j).map λ(i:Nat)=>W.int (0+ (i:Int))
noncomputable def uz(xs:List W)(h:VH):Res W:=match xs with|[.int i]=>if decide (0<=i)&&Nat.ble i.toNat big then .ok (.ref h.n) (h.new (.lst (Bu i.toNat)))else .no|_=>.no
noncomputable def iV(b:Bi)(xs:List W)(h:VH):Res W:=match b with|.abs=>kQ xs h|.max=>rN xs h|.min=>kR xs h|.all=>Bt xs h|.Ir=>uz xs h|.len=>fZ xs h|.list=>iC xs h|.tuple=>wK xs h|.int=>oz xs h
noncomputable def UB(h:VH)(x y:W):Option W:=match aQ h y,toD h 24 x with
 |some ws,aC d=>(match bY (toD h 24) ws with
  |some ds=>if ds.all SeqAt.shaped&&SeqAt.shaped d then aC (.int (ds.countP λe=>PyData.eqv e d:Nat))else aD
  |none=>aD)
 |_,_=>aD
noncomputable def wL(m:Mt)(o:W)(xs:List W)(h:VH):Res W:=match m,o,xs with
 |.append,.ref i,[x]=>(match h.get i with
  |some (.lst ws)=>if Nat.blt ws.length big then .ok .aN (h.set i (.lst (ws++[x])))else .no
  |_=>.no)
 |.get,.ref i,[k,d]=>(match h.get i,rM k with
  |some (.dk kvs),aC k=>.ok ((fH kvs k).getD d) h
  |_,_=>.no)
 |.count,o,[x]=>.of (UB h x o) h
 |_,_,_=>.no
noncomputable def Bv(m:Mt)(h:VH)(o:W):Bool:=match m,o with
 |.append,.ref i=>(match h.get i with
  |some (.lst _)=>true
  |_=>false)
 |.get,.ref i=>(match h.get i with
  |some (.dk _)=>true
  |_=>false)
 |.count,.tup _=>true
 |.count,.ref i=>(match h.get i with
  |some (.lst _)=>true
  |_=>false)
 |_,_=>false
noncomputable def Iz:L2.Key->W|.inl i=>.int i|.inr x=>.str x
noncomputable def bZ(k:Kd)(x:W)(i:Nat)(h:VH):Option (Option W):=match k with
 |.seq=>(aQ h x).map λws=>ws[i]?
 |.mQ=>(match x with
  |.tup ws=>aC ((ws[i]?).map λw=>.tup [.int i,w])
  |_=>aD)
 |.keys=>(match x with
  |.ref a=>(match h.get a with
   |some (.dk kvs)=>(match kvs[i]? with
    |some kv=>aC (aC (Iz kv.1))
    |none=>if Nat.beq i kvs.length then aC aD else aD)
   |_=>aD)
  |_=>aD)
 |.zip=>(match x with
  |.tup [u,v]=>(match aQ h u,aQ h v with
   |some ws,aC zs=>aC (match ws[i]?,zs[i]? with
    |some a,aC b=>aC (.tup [a,b])
    |_,_=>aD)
   |_,_=>aD)
  |_=>aD)
 |.eW=>(match x with
  |.tup [.int j]=>if fits j then aC (if decide ((i:Int)<j)then aC (.int (0+i))else aD)else aD
  |_=>aD)
 |.Iu=>(match x with
  |.tup [.int a,.int b]=>if fits a&&fits b then aC (if decide ((i:Int)<b-a)then aC (.int (a+i))else aD)else aD
  |_=>aD)
noncomputable def ir:List Nat->List W->En->Option En|[],[],ρ=>aC ρ|i::is,w::ws,ρ=>ir is ws (ρ.set i (aC w))|_,_,_=>aD
noncomputable def bH(t:Tg)(w:W)(h:VH)(ρ:En):Option En:=match t with
 |.one i=>aC (ρ.set i (aC w))
 |.many is=>match aQ h w with
  |some ws=>ir is ws ρ
  |none=>aD
noncomputable def fuel:Nat:=1000000
noncomputable def inner(ow:Nat)(ix:List Nat)(ρ:En):En:=aR ow aD++ix.map λj=>(ρ[j]?).join
noncomputable def gE(nx:Nat->VH->Option (Option W))(tg:W->VH->En->Option En)(c:En->VH->Res W)(e:En->VH->Res W):Nat->Nat->En->VH->List W->Res (List W)
 |0,_,_,_,_=>.no
 |f+1,i,ρ,h,acc=>match nx i h with
  |none=>.no
  |some aD=>.ok acc.reverse h
  |some (aC w)=>match tg w h ρ with
   |none=>.no
   |some ρ=>(c ρ h).bind λb h=>match b with
    |.bl true=>(e ρ h).bind λy h=>gE nx tg c e f (i+1) ρ h (y::acc)
    |.bl false=>gE nx tg c e f (i+1) ρ h acc
    |_=>.no
noncomputable def Bw(nx:Nat->VH->Option (Option W))(tg:W->VH->En->Option En)(c:En->VH->Res W)(e:En->VH->Res W):Nat->Nat->En->VH->List W->Res (En×List W)
 |0,_,_,_,_=>.no
 |f+1,i,ρ,h,acc=>match nx i h with
  |none=>.no
  |some aD=>.ok (ρ,acc) h
  |some (aC w)=>match tg w h ρ with
   |none=>.no
   |some ρ=>(c ρ h).bind λb h=>match b with
    |.bl true=>(e ρ h).bind λy h=>Bw nx tg c e f (i+1) ρ h (y::acc)
    |.bl false=>Bw nx tg c e f (i+1) ρ h acc
    |_=>.no
noncomputable def Bx(nx:Nat->VH->Option (Option W))(tg:W->VH->En->Option En)(c:En->VH->Res W)(wH:En->VH->List W->Res (En×List W)):Nat->Nat->En->VH->List W->Res (List W)
 |0,_,_,_,_=>.no
 |f+1,i,ρ,h,acc=>match nx i h with
  |none=>.no
  |some aD=>.ok acc.reverse h
  |some (aC w)=>match tg w h ρ with
   |none=>.no
   |some ρ=>(c ρ h).bind λb h=>match b with
    |.bl true=>(wH ρ h acc).bind λp h=>Bx nx tg c wH f (i+1) p.1 h p.2
    |.bl false=>Bx nx tg c wH f (i+1) ρ h acc
    |_=>.no
noncomputable def By(nx:Nat->VH->Option (Option W))(tg:W->VH->En->Option En)(c:En->VH->Res W)(e v:En->VH->Res W):Nat->Nat->En->VH->List (L2.Key×W)->Res (List (L2.Key×W))
 |0,_,_,_,_=>.no
 |f+1,i,ρ,h,acc=>match nx i h with
  |none=>.no
  |some aD=>.ok acc h
  |some (aC w)=>match tg w h ρ with
   |none=>.no
   |some ρ=>(c ρ h).bind λb h=>match b with
    |.bl true=>(e ρ h).bind λx h=>(v ρ h).bind λy h=>(match rM x with
     |some k=>if Nat.blt acc.length big then By nx tg c e v f (i+1) ρ h (lH acc k y)else .no
     |none=>.no)
    |.bl false=>By nx tg c e v f (i+1) ρ h acc
    |_=>.no
noncomputable def eG(nx:Nat->VH->Option (Option W))(tg:W->VH->En->Option En)(b:En->VH->Res Fl):Nat->Nat->En->VH->Res Fl
 |0,_,_,_=>.no
 |f+1,i,ρ,h=>match nx i h with
  |none=>.no
  |some aD=>.ok (.nx ρ) h
  |some (aC w)=>match tg w h ρ with
   |none=>.no
   |some ρ=>(b ρ h).bind λfl h=>match fl with
    |.nx ρ=>eG nx tg b f (i+1) ρ h
    |.ct ρ=>eG nx tg b f (i+1) ρ h
    |.bk ρ=>.ok (.nx ρ) h
    |.rt w=>.ok (.rt w) h
noncomputable def eY(c:En->VH->Res W)(b:En->VH->Res Fl):Nat->En->VH->Res Fl
 |0,_,_=>.no
 |f+1,ρ,h=>(c ρ h).bind λt h=>match t with
  |.bl false=>.ok (.nx ρ) h
  |.bl true=>(b ρ h).bind λfl h=>match fl with
   |.nx ρ=>eY c b f ρ h
   |.ct ρ=>eY c b f ρ h
   |.bk ρ=>.ok (.nx ρ) h
   |.rt w=>.ok (.rt w) h
  |_=>.no
noncomputable def wM:List W->Option (List (L2.Key×W))
 |[]=>aC []
 |k::v::r=>match rM k with
  |some k=>(match wM r with
   |some kvs=>aC ((k,v)::kvs)
   |none=>aD)
  |none=>aD
 |_=>aD
noncomputable def yV(kvs more:List (L2.Key×W)):List (L2.Key×W):=more.foldl (λacc kv=>lH acc kv.1 kv.2) kvs
noncomputable abbrev Call:=Nat->List W->VH->Res W
noncomputable def gf(fs:List (Nat×Nat))(ρ:En)(j:Nat):Option Nat:=match(ρ[j]?).join with|some (.bN a)=>fs.lookup a|_=>aD
noncomputable def ev(cl:Call):E->En->VH->Res W
 |.var i,ρ,h=>.of (ρ[i]?).join h
 |.cst w,_,h=>.ok w h
 |.nil,_,h=>.ok (.tup []) h
 |.cons a r,ρ,h=>(ev cl a ρ h).bind λx h=>(ev cl r ρ h).bind λy h=>match y with
  |.tup ys=>.ok (.tup (x::ys)) h
  |_=>.no
 |.tup a,ρ,h=>(ev cl a ρ h).bind λy h=>match y with
  |.tup ys=>if Nat.ble ys.length 1000 then .ok (.tup ys) h else .no
  |_=>.no
 |.lst a,ρ,h=>(ev cl a ρ h).bind λy h=>match y with
  |.tup ys=>if Nat.ble ys.length 1000 then .ok (.ref h.n) (h.new (.lst ys))else .no
  |_=>.no
 |.Iv a,ρ,h=>(ev cl a ρ h).bind λy h=>match y with
  |.tup ys=>(match wM ys with
   |some kvs=>if Nat.ble kvs.length 15 then .ok (.ref h.n) (h.new (.dk (yV [] kvs)))else .no
   |none=>.no)
  |_=>.no
 |.op o a b,ρ,h=>(ev cl a ρ h).bind λx h=>(ev cl b ρ h).bind λy h=>dB o x y h
 |.neg a,ρ,h=>(ev cl a ρ h).bind λx h=>match x with
  |.int i=>.ok (.int (-i)) h
  |_=>.no
 |.cmp c a b,ρ,h=>(ev cl a ρ h).bind λx h=>(ev cl b ρ h).bind λy h=>.of ((aX c h x y).map .bl) h
 |.wJ c d a b e,ρ,h=>(ev cl a ρ h).bind λx h=>(ev cl b ρ h).bind λy h=>match aX c h x y with
  |some true=>(ev cl e ρ h).bind λz h=>.of ((aX d h y z).map .bl) h
  |some false=>.ok (.bl false) h
  |none=>.no
 |.not a,ρ,h=>(ev cl a ρ h).bind λx h=>match x with
  |.bl b=>.ok (.bl (!b)) h
  |_=>.no
 |.and a b,ρ,h=>(ev cl a ρ h).bind λx h=>match x with
  |.bl true=>ev cl b ρ h
  |.bl false=>.ok (.bl false) h
  |_=>.no
 |.or a b,ρ,h=>(ev cl a ρ h).bind λx h=>match x with
  |.bl true=>.ok (.bl true) h
  |.bl false=>ev cl b ρ h
  |_=>.no
 |.qc a,ρ,h=>(ev cl a ρ h).bind λx h=>.of ((mS h x).map .bl) h
 |.ite c a b,ρ,h=>(ev cl c ρ h).bind λx h=>match x with
  |.bl true=>ev cl a ρ h
  |.bl false=>ev cl b ρ h
  |_=>.no
 |.idx a b,ρ,h=>(ev cl a ρ h).bind λx h=>(ev cl b ρ h).bind λy h=>.of (bq h x y) h
 |.slc a bl lo bh hi,ρ,h=>(ev cl a ρ h).bind λx h=>(ev cl lo ρ h).bind λl h=>(ev cl hi ρ h).bind λu h=>match cJ bl l,cJ bh u with
  |some l,aC u=>jr x l u h
  |_,_=>.no
 |.call f a,ρ,h=>(ev cl a ρ h).bind λy h=>match y with
  |.tup ys=>cl f ys h
  |_=>.no
 |.bi b a,ρ,h=>(ev cl a ρ h).bind λy h=>match y with
  |.tup ys=>iV b ys h
  |_=>.no
 |.E6 t a,ρ,h=>(ev cl a ρ h).bind λx h=>.of ((dG t h x).map .bl) h
 |.mt m o a,ρ,h=>(ev cl o ρ h).bind λx h=>if Bv m h x then(ev cl a ρ h).bind λy h=>match y with
  |.tup ys=>wL m x ys h
  |_=>.no
  else .no
 |.lc k a t ow ix c e,ρ,h=>(ev cl a ρ h).bind λx h=>(gE (bZ k x) (bH t) (ev cl c) (ev cl e) fuel 0 (inner ow ix ρ) h []).bind λys h=>if Nat.ble ys.length big then .ok (.ref h.n) (h.new (.lst ys))else .no
 |.M5 k a t ow ix c k2 a2 t2 c2 e,ρ,h=>(ev cl a ρ h).bind λx h=>(Bx (bZ k x) (bH t) (ev cl c) (λρ h acc=>(ev cl a2 ρ h).bind λy h=>Bw (bZ k2 y) (bH t2) (ev cl c2) (ev cl e) fuel 0 ρ h acc) fuel 0 (inner ow ix ρ) h []).bind λys h=>if Nat.ble ys.length big then .ok (.ref h.n) (h.new (.lst ys))else .no
 |.dc k a t ow ix c e v,ρ,h=>(ev cl a ρ h).bind λx h=>(By (bZ k x) (bH t) (ev cl c) (ev cl e) (ev cl v) fuel 0 (inner ow ix ρ) h []).bind λkvs h=>.ok (.ref h.n) (h.new (.dk kvs))
 |.gD j fs a,ρ,h=>match gf fs ρ j with
  |some f=>(ev cl a ρ h).bind λy h=>match y with
   |.tup ys=>cl f ys h
   |_=>.no
  |none=>.no
noncomputable def jV(tb:List (Nat×W))(ρ:En)(w:W)(h:VH):Res Fl:=match w with
 |.tup [_]=>.ok (.nx ρ) h
 |.int i=>(match tb.lookup i.toNat with
  |some w=>.ok (.rt w) h
  |none=>.no)
 |_=>.no
noncomputable def mT(b:Bool)(s t:En->VH->Res Fl)(ρ:En)(w:W)(h:VH):Res Fl:=match w with
 |.tup [x]=>if b then(match x with
  |.bl true=>t ρ h
  |.bl false=>s ρ h
  |_=>.no)else s ρ h
 |.int i=>.ok (.rt (.int i)) h
 |_=>.no
noncomputable def exs(cl:Call):S->En->VH->Res Fl
 |.skip,ρ,h=>.ok (.nx ρ) h
 |.seq a b,ρ,h=>(exs cl a ρ h).bind λfl h=>match fl with
  |.nx ρ=>exs cl b ρ h
  |fl=>.ok fl h
 |.set i e,ρ,h=>(ev cl e ρ h).bind λw h=>.ok (.nx (ρ.set i (aC w))) h
 |.jo is e,ρ,h=>(ev cl e ρ h).bind λw h=>.of ((bH (.many is) w h ρ).map .nx) h
 |.aug i o e,ρ,h=>match(ρ[i]?).join with
  |some x=>(ev cl e ρ h).bind λy h=>(yU o x y h).bind λz h=>.ok (.nx (ρ.set i (aC z))) h
  |none=>.no
 |.put o i v,ρ,h=>(ev cl v ρ h).bind λw h=>(ev cl o ρ h).bind λx h=>(ev cl i ρ h).bind λy h=>match x,y with
  |.ref a,.int j=>(match h.get a with
   |some (.lst ws)=>(match L2.jI ws.length j with
    |some k=>.ok (.nx ρ) (h.set a (.lst (ws.set k w)))
    |none=>.no)
   |_=>.no)
  |_,_=>.no
 |.rK o bl lo bh hi v,ρ,h=>(ev cl v ρ h).bind λw h=>(ev cl o ρ h).bind λx h=>(ev cl lo ρ h).bind λl h=>(ev cl hi ρ h).bind λu h=>(match cJ bl l,cJ bh u with
  |some l,aC u=>(jt x w l u h).bind λ_ h=>.ok (.nx ρ) h
  |_,_=>.no)
 |.ite c a b,ρ,h=>(ev cl c ρ h).bind λx h=>match x with
  |.bl true=>exs cl a ρ h
  |.bl false=>exs cl b ρ h
  |_=>.no
 |.ret e,ρ,h=>(ev cl e ρ h).bind λw h=>.ok (.rt w) h
 |.expr e,ρ,h=>(ev cl e ρ h).bind λ_ h=>.ok (.nx ρ) h
 |.brk,ρ,h=>.ok (.bk ρ) h
 |.cnt,ρ,h=>.ok (.ct ρ) h
 |.for k a t b,ρ,h=>(ev cl a ρ h).bind λx h=>eG (bZ k x) (bH t) (exs cl b) fuel 0 ρ h
 |.yT c b,ρ,h=>eY (ev cl c) (exs cl b) fuel ρ h
 |.ou f a tb,ρ,h=>(ev cl a ρ h).bind λy h=>match y with
  |.tup ys=>(cl f ys h).bind λw h=>jV tb ρ w h
  |_=>.no
 |.mR j a fs tb,ρ,h=>(match gf fs ρ j with
  |some f=>(ev cl a ρ h).bind λy h=>(match y with
   |.tup ys=>(cl f ys h).bind λw h=>jV tb ρ w h
   |_=>.no)
  |none=>.no)
 |.jq f a b s t,ρ,h=>(ev cl a ρ h).bind λy h=>match y with
  |.tup ys=>(cl f ys h).bind λw h=>mT b (exs cl s) (exs cl t) ρ w h
  |_=>.no
 |.no,_,_=>.no
structure Fn where
 ps:Nat
 n:Nat
 body:S
noncomputable def leave(h:VH)(w:W)(h':VH):Res W:=
 if Nat.ble h.n h'.lo&&W.lt h.n w then .ok w h else .ok w ⟨h'.n,if Nat.ble h.lo h'.lo then h.lo else h'.lo,h'.os⟩
noncomputable def run(F:Nat->Option Fn):Nat->Call
 |0,_,_,_=>.no
 |k+1,f,ws,h=>match F f with
  |some fn=>if Nat.beq ws.length fn.ps then
   (exs (run F k) fn.body (ws.map aC++aR (fn.n-fn.ps) aD) ⟨h.n,h.n,h.os⟩).bind λfl h'=>match fl with|.nx _=>leave h .aN h'|.rt w=>leave h w h'|_=>.no
   else .no
  |none=>.no
open L2 PyProof.Rows PySem.Spec
noncomputable def Fz(K:aI)(H:Hp)(a:ai)(xs:List V):Prop:=
 (∃o,H a=aC (.cG o (.lst xs)))\/∃(o:Obj) (its:Array aa) (n:Nat),K.lookup a=aC o/\o.cls=.type "list"/\o.dict=aD/\o.data=.seq its n/\its.size<=sizeLine/\Vals xs its.toList
theorem Fz.sq{K:aI}{H:Hp}{a:ai}{xs:List V}(h:Fz K H a xs):cN K H a xs:=h.elim (λ⟨o,q⟩=>.inl (.inr ⟨o,q⟩)) .inr
mutual
inductive aL(K:aI)(m:Nat->ai)(n:Nat)(H:Hp):V->W->Prop
 |aN:aL K m n H .aN .aN
 |bl (b:Bool):aL K m n H (.bl b) (.bl b)
 |int (i:Int):aL K m n H (.int i) (.int i)
 |str (x:Str):aL K m n H (.str x) (.str x)
 |tup {a:ai} {vs:List V} {ws:List W}:cH K H a vs->aG K m n H vs ws->aL K m n H (.ref a) (.tup ws)
 |fz {a:ai} {vs:List V} {ws:List W}:Fz K H a vs->aG K m n H vs ws->aL K m n H (.ref a) (.fz ws)
 |ref {i:Nat}:i<n->aL K m n H (.ref (m i)) (.ref i)
 |bN (a:ai):aL K m n H (.ref a) (.bN a)
inductive aG(K:aI)(m:Nat->ai)(n:Nat)(H:Hp):List V->List W->Prop
 |nil:aG K m n H [] []
 |cons {v:V} {w:W} {vs:List V} {ws:List W}:aL K m n H v w->aG K m n H vs ws->aG K m n H (v::vs) (w::ws)
end
inductive aP(K:aI)(m:Nat->ai)(n:Nat)(H:Hp):List (Key×V)->List (Key×W)->Prop
 |nil:aP K m n H [] []
 |cons {k:Key} {v:V} {w:W} {vs:List (Key×V)} {ws:List (Key×W)}:aL K m n H v w->aP K m n H vs ws->aP K m n H ((k,v)::vs) ((k,w)::ws)
noncomputable def gg(K:aI)(m:Nat->ai)(n:Nat)(H:Hp)(a:ai):VO->Prop|.lst ws=>∃vs,H a=aC (.lst vs)/\aG K m n H vs ws|.dk kvs=>∃kv,Rd H a (.dK kv)/\aP K m n H kv kvs
structure Rel(K:aI)(m:Nat->ai)(h:VH)(H:Hp):Prop where
 obj:∀i,i<h.n->∃o,h.get i=aC o/\gg K m h.n H (m i) o
 inj:∀i j,i<h.n->j<h.n->m i=m j->i=j
 len:h.os.length=h.n
structure bW(m:Nat->ai)(n:Nat)(H:Hp)(m':Nat->ai)(n':Nat)(H':Hp):Prop where
 le:n<=n'
 same:∀i,i<n->m' i=m i
 new:∀i,n<=i->i<n'->H (m' i)=aD
 apart:∀i j,n<=i->i<n'->j<n->m' i≠m' j
 tup:∀b vs,H b=aC (.tup vs)->H' b=aC (.tup vs)
 cG:∀b o u,H b=aC (.cG o u)->H' b=aC (.cG o u)
 keep:∀b o,(∀i,i<n->m i≠b)->H b=aC o->H' b=aC o
section
variable{K:aI}{m m' m1 m2:Nat->ai}{n n' n1 n2:Nat}{h h':VH}{H H' H1 H2:Hp}
theorem bW.refl:bW m n H m n H:=⟨aZ _,λ_ _=>rfl,λi a b=>absurd b (jH.mpr a),λi j a b=>absurd b (jH.mpr a),λ_ _ q=>q,λ_ _ _ q=>q,λ_ _ _ q=>q⟩
theorem bW.trans(a:bW m n H m1 n1 H1)(b:bW m1 n1 H1 m2 n2 H2):bW m n H m2 n2 H2 where
 le:=gu a.le b.le
 same:=λi hi=>(b.same i (eN hi a.le)).trans (a.same i hi)
 new:=λi hi hi2=>by
  by_cases hc:i<n1;rw[b.same i hc];exact a.new i hi hc;have hc:=jH.mp hc;cases q:H (m2 i)with
  |none=>rfl
  |some o=>
   have q1:H1 (m2 i)=aD:=b.new i hc hi2;rw[a.keep _ o (λj hj z=>b.apart i j hc hi2 (eN hj a.le) ((b.same j (eN hj a.le)).trans ((a.same j hj).trans z)).symm) q]at q1;cases q1
 apart:=λi j hi hi2 hj=>by
  by_cases hc:i<n1;rw[b.same i hc,b.same j (eN hj a.le)];exact a.apart i j hi hc hj;exact b.apart i j (jH.mp hc) hi2 (eN hj a.le)
 tup:=λc vs q=>b.tup c vs (a.tup c vs q)
 cG:=λc o u q=>b.cG c o u (a.cG c o u q)
 keep:=λc o hc q=>b.keep c o (λi hi=>by
  by_cases hl:i<n;rw[a.same i hl];exact hc i hl;intro z;have:=a.new i (jH.mp hl) hi;rw[z,q]at this;cases this) (a.keep c o hc q)
theorem bW.UC{a:ai}{vs:List V}(s:bW m n H m' n' H')(q:cH K H a vs):cH K H' a vs:=by rcases q with(q|⟨o,q⟩)|q;exact .inl (.inl (s.tup _ _ q));exact .inl (.inr ⟨o,s.cG _ _ _ q⟩);exact .inr q
theorem bW.fz{a:ai}{vs:List V}(s:bW m n H m' n' H')(q:Fz K H a vs):Fz K H' a vs:=by rcases q with⟨o,q⟩|q;exact .inl ⟨o,s.cG _ _ _ q⟩;exact .inr q
mutual
theorem aL.stp(s:bW m n H m' n' H'):∀{v:V} {w:W},aL K m n H v w->aL K m' n' H' v w|_,_,.aN=>.aN|_,_,.bl b=>.bl b|_,_,.int b=>.int b|_,_,.str b=>.str b|_,_,.tup q r=>.tup (s.UC q) (aG.stp s r)|_,_,.fz q r=>.fz (s.fz q) (aG.stp s r)|_,_,.ref (i:=i) q=>by rw[<-s.same i q];exact .ref (eN q s.le)|_,_,.bN a=>.bN a
theorem aG.stp(s:bW m n H m' n' H'):∀{vs:List V} {ws:List W},aG K m n H vs ws->aG K m' n' H' vs ws|_,_,.nil=>.nil|_,_,.cons q r=>.cons (aL.stp s q) (aG.stp s r)
end
theorem aP.stp(s:bW m n H m' n' H'):∀{vs:List (Key×V)} {ws:List (Key×W)},aP K m n H vs ws->aP K m' n' H' vs ws|_,_,.nil=>.nil|_,_,.cons q r=>.cons (q.stp s) (aP.stp s r)
theorem aG.length:∀{vs:List V} {ws:List W},aG K m n H vs ws->vs.length=ws.length|_,_,.nil=>rfl|_,_,.cons _ r=>by rw[eK,eK,aG.length r]
theorem aG.get:∀{vs:List V} {ws:List W} {i:Nat} {w:W},aG K m n H vs ws->ws[i]?=aC w->∃v,vs[i]?=aC v/\aL K m n H v w
 |_,_,_,_,.nil,e=>by simp at e
 |_,_,0,_,.cons q _,e=>by simp at e;subst e;exact⟨_,rfl,q⟩
 |_,_,i+1,w,.cons _ r,e=>by
  obtain⟨v,h1,h2⟩:=aG.get (i:=i) (w:=w) r (by simpa using e);exact⟨v,by simpa using h1,h2⟩
theorem aG.append:∀{vs us:List V} {ws zs:List W},aG K m n H vs ws->aG K m n H us zs->aG K m n H (vs++us) (ws++zs)|_,_,_,_,.nil,r=>r|_,_,_,_,.cons q r,t=>.cons q (aG.append r t)
theorem aG.drop:∀(k:Nat) {vs:List V} {ws:List W},aG K m n H vs ws->aG K m n H (vs.drop k) (ws.drop k)|0,_,_,r=>r|_+1,_,_,.nil=>.nil|k+1,_,_,.cons _ r=>aG.drop k r
theorem aG.take:∀(k:Nat) {vs:List V} {ws:List W},aG K m n H vs ws->aG K m n H (vs.take k) (ws.take k)|0,_,_,r=>.nil|_+1,_,_,.nil=>.nil|k+1,_,_,.cons q r=>.cons q (aG.take k r)
theorem aG.set{v:V}{w:W}(q:aL K m n H v w):∀(k:Nat) {vs:List V} {ws:List W},aG K m n H vs ws->aG K m n H (vs.set k v) (ws.set k w)|_,_,_,.nil=>.nil|0,_,_,.cons _ r=>.cons q r|k+1,_,_,.cons p r=>.cons p (aG.set q k r)
theorem gg.stp{a:ai}{o:VO}(s:bW m n H m' n' H')(e:H' a=H a)(q:gg K m n H a o):gg K m' n' H' a o:=by
 cases o with|lst ws=>obtain⟨vs,h1,h2⟩:=q;exact⟨vs,e.trans h1,h2.stp s⟩|dk ws=>obtain⟨vs,h1,h2⟩:=q;exact⟨vs,h1.imp (λz=>e.trans z) λ⟨o,z⟩=>⟨o,e.trans z⟩,h2.stp s⟩
theorem gg.some{a:ai}{o:VO}(q:gg K m n H a o):∃u,H a=aC u:=by
 cases o with
 |lst ws=>obtain⟨vs,h1,h2⟩:=q;exact⟨_,h1⟩
 |dk ws=>
  obtain⟨vs,h1,h2⟩:=q;rcases h1 with h1|⟨o,h1⟩<;>exact⟨_,h1⟩
theorem i8{i j:Nat}:Nat.blt i j=true↔i<j:=by unfold Nat.blt;rw[zV];exact Iff.rfl
theorem dI{i:Nat}{o:VO}(q:h.get i=aC o):i<h.n:=by unfold VH.get at q;split at q;rename_i z;exact i8.mp z;cases q
theorem Rel.at_(r:Rel K m h H){i:Nat}{o:VO}(q:h.get i=aC o):gg K m h.n H (m i) o:=by obtain⟨o',h1,h2⟩:=r.obj i (dI q);rw[q]at h1;cases h1;exact h2
theorem Rel.lst(r:Rel K m h H){i:Nat}{ws:List W}(q:h.get i=aC (.lst ws)):∃vs,H (m i)=aC (.lst vs)/\aG K m h.n H vs ws:=r.at_ q
theorem Rel.dk(r:Rel K m h H){i:Nat}{ws:List (Key×W)}(q:h.get i=aC (.dk ws)):∃vs,Rd H (m i) (.dK vs)/\aP K m h.n H vs ws:=r.at_ q
theorem ju{i:Nat}{o:VO}(hi:i<h.n):(h.new o).get i=h.get i:=by
 unfold VH.get VH.new;have h1:Nat.blt i (h.n+1)=true:=i8.mpr (Ew hi);have h2:Nat.blt i h.n=true:=i8.mpr hi;simp only[h1,h2,dH];have:h.n+1-1-i=(h.n-1-i)+1:=by lia
 rw[this];rfl
theorem eZ{o:VO}:(h.new o).get h.n=aC o:=by
 unfold VH.get VH.new;have h1:Nat.blt h.n (h.n+1)=true:=i8.mpr (pW _);simp only[h1,dH];have:h.n+1-1-h.n=0:=by lia
 rw[this];rfl
theorem Rel.alloc(r:Rel K m h H){p:ai}{o:VO}{u:HO}(hp:H p=aD)(hu:∀t,u≠.tup t)
 (ho:bW m h.n H (λi=>if i=h.n then p else m i) (h.n+1) (upd H p u)->gg K (λi=>if i=h.n then p else m i) (h.n+1) (upd H p u) p o) :
 bW m h.n H (λi=>if i=h.n then p else m i) (h.n+1) (upd H p u)/\Rel K (λi=>if i=h.n then p else m i) (h.new o) (upd H p u):=by
 have tr:∀i,i<h.n->m i≠p:=λi hi z=>by
  obtain⟨o',_,h2⟩:=r.obj i hi;obtain⟨u',h3⟩:=h2.some;rw[z,hp]at h3;cases h3
 have st:bW m h.n H (λi=>if i=h.n then p else m i) (h.n+1) (upd H p u):=by
  refine⟨vec _,λi hi=>by simp only[if_neg (eB hi)],λi hi hi2=>?_,λi j hi hi2 hj=>?_,λb vs q=>?_,λb o u q=>?_,λb o _ q=>?_⟩;have:i=h.n:=by lia
  subst this;simp only[dH];exact hp;have:i=h.n:=by lia
  subst this;simp only[dH,if_neg (eB hj)];exact(tr j hj).symm;rw[bX (gR q hp)];exact q;rw[bX (gR q hp)];exact q;rw[bX (gR q hp)];exact q
 refine⟨st,⟨λi hi=>?_,λi j hi hj z=>?_,?_⟩⟩;have hi:i<h.n+1:=hi;by_cases e:i=h.n;subst e;exact⟨o,eZ,by simp only[dH];exact ho st⟩;have hl:i<h.n:=by lia
 obtain⟨o',h1,h2⟩:=r.obj i hl;refine⟨o',(ju hl).trans h1,?_⟩;simp only[if_neg e];exact gg.stp st (bX (tr i hl)) h2;have hi:i<h.n+1:=hi;have hj:j<h.n+1:=hj;by_cases e:i=h.n;by_cases e2:j=h.n;lia;simp only[if_pos e,if_neg e2]at z;exact absurd z.symm (tr j (by lia));by_cases e2:j=h.n;simp only[if_neg e,if_pos e2]at z;exact absurd z (tr i (by lia));simp only[if_neg e,if_neg e2]at z;exact r.inj i j (by lia) (by lia) z;show(o::h.os).length=h.n+1;rw[eK,r.len]
theorem UD(r:Rel K m h H){i:Nat}{o:VO}(hi:i<h.n):(h.set i o).get i=aC o:=by unfold VH.get VH.set;have h1:Nat.blt i h.n=true:=i8.mpr hi;simp only[h1,dH];rw[pS];rw[r.len];lia
theorem IA{i j:Nat}{o:VO}(hi:i<h.n)(hj:j≠i):(h.set i o).get j=h.get j:=by
 unfold VH.get VH.set;by_cases h1:j<h.n;have h2:Nat.blt j h.n=true:=i8.mpr h1;simp only[h2,dH];rw[vO];lia;have h2:Nat.blt j h.n=false:=by
  cases q:Nat.blt j h.n with|false=>rfl|true=>exact absurd (i8.mp q) h1
 simp only[h2,fS,fy]
theorem Rel.write(r:Rel K m h H){i:Nat}{o:VO}{u u0:HO}(hi:i<h.n)(h0:H (m i)=aC u0)(hn:∀t,u0≠.tup t)(hf:∀o t,u0≠.cG o t)
 (ho:bW m h.n H m h.n (upd H (m i) u)->gg K m h.n (upd H (m i) u) (m i) o) :
 bW m h.n H m h.n (upd H (m i) u)/\Rel K m (h.set i o) (upd H (m i) u):=by
 have st:bW m h.n H m h.n (upd H (m i) u):=by refine⟨aZ _,λ_ _=>rfl,λj a b=>absurd b (jH.mpr a),λj k a b=>absurd b (jH.mpr a),λb vs q=>?_,λb o t q=>?_,λb o nb q=>?_⟩;rw[bX (eT q h0 (λz=>hn vs z.symm))];exact q;rw[bX (eT q h0 (λz=>hf o t z.symm))];exact q;rw[bX (nb i hi).symm];exact q
 refine⟨st,⟨λj hj=>?_,λa b ha hb=>r.inj a b ha hb,?_⟩⟩;have hj:j<h.n:=hj;by_cases e:j=i;subst e;exact⟨o,UD r hj,ho st⟩;obtain⟨o',h1,h2⟩:=r.obj j hj;exact⟨o',(IA hi e).trans h1,gg.stp st (bX λz=>e (r.inj j i hj hi z)) h2⟩;show(h.os.set _ o).length=h.n;rw[yy,r.len]
theorem Rel.more(r:Rel K m h H){p:ai}{u:HO}(hp:H p=aD):bW m h.n H m h.n (upd H p u)/\Rel K m h (upd H p u):=by
 have st:bW m h.n H m h.n (upd H p u):=by refine⟨aZ _,λ_ _=>rfl,λj a b=>absurd b (jH.mpr a),λj k a b=>absurd b (jH.mpr a),λb vs q=>?_,λb o t q=>?_,λb o nb q=>?_⟩;rw[bX (gR q hp)];exact q;rw[bX (gR q hp)];exact q;rw[bX (gR q hp)];exact q
 refine⟨st,⟨λj hj=>?_,r.inj,r.len⟩⟩;obtain⟨o',h1,h2⟩:=r.obj j hj;obtain⟨u',h3⟩:=h2.some;exact⟨o',h1,gg.stp st (bX (gR h3 hp)) h2⟩
end
theorem UE{α β:Type}{r:Res α}{f:α->VH->Res β}{b:β}{h':VH}(q:r.bind f=.ok b h'):∃a h1,r=.ok a h1/\f a h1=.ok b h':=by
 cases r with|ok a h=>exact⟨a,h,rfl,q⟩|ex x h=>cases q|no=>cases q
theorem bT{α β:Type}{r:Res α}{f:α->VH->Res β}{w:β}{h':VH}{P:Prop}(e:r.bind f=.ok w h')(k:∀x h1,r=.ok x h1->f x h1=.ok w h'->P):P:=by obtain⟨x,h1,a,b⟩:=UE e;exact k x h1 a b
theorem of_ok{α:Type}{o:Option α}{h h':VH}{a:α}(q:Res.of o h=.ok a h'):o=aC a/\h'=h:=by
 cases o with|none=>cases q|some b=>cases q;exact⟨rfl,rfl⟩
structure Fr(K:aI)(m:Nat->ai)(n:Nat)(H:Hp)(σ:L2.St)(ρ:En):Prop where
 len:σ.length=ρ.length
 val:∀(i:Nat)(w:W),ρ[i]?=aC (aC w)->∃v,σ[i]?=aC (aC v)/\aL K m n H v w
noncomputable abbrev FE:=En->VH->Res W
noncomputable abbrev FS:=En->VH->Res Fl
noncomputable def iu(K:aI)(f:FE):TE:=λσ H Q=>∃ρ h m w h',Fr K m h.n H σ ρ/\Rel K m h H/\f ρ h=.ok w h'/\
 ∀v H' m',bW m h.n H m' h'.n H'->Rel K m' h' H'->aL K m' h'.n H' v w->Q v H'
noncomputable def gW(K:aI)(f:FE):TT:=λσ H Q=>∃ρ h m b h',Fr K m h.n H σ ρ/\Rel K m h H/\f ρ h=.ok (.bl b) h'/\
 ∀H' m',bW m h.n H m' h'.n H'->Rel K m' h' H'->Q b H'
noncomputable def iD(K:aI)(f:FE):TA:=λσ H Q=>∃ρ h m ws h',Fr K m h.n H σ ρ/\Rel K m h H/\f ρ h=.ok (.tup ws) h'/\
 ∀vs H' m',bW m h.n H m' h'.n H'->Rel K m' h' H'->aG K m' h'.n H' vs ws->Q vs H'
section
variable{K:aI}{m:Nat->ai}{σ:L2.St}{H:Hp}{P:Prop}{fa:FE}{ρ:En}{h h':VH}
theorem iu.el{Q:VK}(q:iu K fa σ H Q)(k:∀ρ h m w h',Fr K m h.n H σ ρ->Rel K m h H->fa ρ h=.ok w h'->(∀v H' m',bW m h.n H m' h'.n H'->Rel K m' h' H'->aL K m' h'.n H' v w->Q v H')->P):P:=by obtain⟨ρ,h,m,w,h',f,r,e,k'⟩:=q;exact k ρ h m w h' f r e k'
theorem iu.mk{Q:VK}{w:W}(f:Fr K m h.n H σ ρ)(r:Rel K m h H)(e:fa ρ h=.ok w h')(k:∀v H' m',bW m h.n H m' h'.n H'->Rel K m' h' H'->aL K m' h'.n H' v w->Q v H'):iu K fa σ H Q:=⟨ρ,h,m,w,h',f,r,e,k⟩
theorem gW.el{Q:Bool->Hp->Prop}(q:gW K fa σ H Q)(k:∀ρ h m b h',Fr K m h.n H σ ρ->Rel K m h H->fa ρ h=.ok (.bl b) h'->(∀H' m',bW m h.n H m' h'.n H'->Rel K m' h' H'->Q b H')->P):P:=by obtain⟨ρ,h,m,w,h',f,r,e,k'⟩:=q;exact k ρ h m w h' f r e k'
theorem gW.mk{Q:Bool->Hp->Prop}{b:Bool}(f:Fr K m h.n H σ ρ)(r:Rel K m h H)(e:fa ρ h=.ok (.bl b) h')(k:∀H' m',bW m h.n H m' h'.n H'->Rel K m' h' H'->Q b H'):gW K fa σ H Q:=⟨ρ,h,m,b,h',f,r,e,k⟩
theorem iD.el{Q:List V->Hp->Prop}(q:iD K fa σ H Q)(k:∀ρ h m ws h',Fr K m h.n H σ ρ->Rel K m h H->fa ρ h=.ok (.tup ws) h'->(∀vs H' m',bW m h.n H m' h'.n H'->Rel K m' h' H'->aG K m' h'.n H' vs ws->Q vs H')->P):P:=by obtain⟨ρ,h,m,w,h',f,r,e,k'⟩:=q;exact k ρ h m w h' f r e k'
theorem iD.mk{Q:List V->Hp->Prop}{ws:List W}(f:Fr K m h.n H σ ρ)(r:Rel K m h H)(e:fa ρ h=.ok (.tup ws) h')(k:∀vs H' m',bW m h.n H m' h'.n H'->Rel K m' h' H'->aG K m' h'.n H' vs ws->Q vs H'):iD K fa σ H Q:=⟨ρ,h,m,ws,h',f,r,e,k⟩
end
noncomputable abbrev SE(X:Cx)(e:aq)(f:FE):Prop:=PE X e (iu X.K f)
noncomputable abbrev ST(X:Cx)(e:aq)(f:FE):Prop:=PT X e (gW X.K f)
noncomputable abbrev SW(X:Cx)(e:aq)(f:FE):Prop:=PW X e (gW X.K f)
noncomputable abbrev SA(X:Cx)(es:List aq)(f:FE):Prop:=PA X es (iD X.K f)
theorem _root_.L2.PE.imp{X:Cx}{e:aq}{t t':TE}(h:PE X e t)(k:∀σ H Q,t' σ H Q->t σ H Q):PE X e t':=λpins s σ H Q I q=>h pins s σ H Q I (k σ H Q q)
theorem _root_.L2.PT.imp{X:Cx}{e:aq}{t t':TT}(h:PT X e t)(k:∀σ H Q,t' σ H Q->t σ H Q):PT X e t':=λpins s σ H Q I q=>h pins s σ H Q I (k σ H Q q)
theorem _root_.L2.PW.imp{X:Cx}{e:aq}{t t':TT}(h:PW X e t)(k:∀σ H Q,t' σ H Q->t σ H Q):PW X e t':=λwh pins s σ H Q I q=>h wh pins s σ H Q I (k σ H Q q)
theorem _root_.L2.PA.imp{X:Cx}{es:List aq}{t t':TA}(h:PA X es t)(k:∀σ H Q,t' σ H Q->t σ H Q):PA X es t':=λp pins s σ H Q I q=>h p pins s σ H Q I (k σ H Q q)
theorem _root_.L2.PS.imp{X:Cx}{st:au}{t t':TS}(h:PS X st t)(k:∀D σ H,t' D σ H->t D σ H):PS X st t':=λpins s σ H D I q=>h pins s σ H D I (k D σ H q)
theorem _root_.L2.fU.imp{X:Cx}{st:List au}{t t':TS}(h:fU X st t)(k:∀D σ H,t' D σ H->t D σ H):fU X st t':=λpins s σ H D I q=>h pins s σ H D I (k D σ H q)
section
variable{K:aI}{m m':Nat->ai}{n n':Nat}{h h':VH}{H H':Hp}{σ:L2.St}{ρ:En}
theorem Fr.stp(f:Fr K m n H σ ρ)(s:bW m n H m' n' H'):Fr K m' n' H' σ ρ:=⟨f.len,λi w e=>let⟨v,h1,h2⟩:=f.val i w e;⟨v,h1,h2.stp s⟩⟩
theorem Fr.set(f:Fr K m n H σ ρ){v:V}{w:W}(q:aL K m n H v w)(i:Nat):Fr K m n H (σ.set i (aC v)) (ρ.set i (aC w)):=by refine⟨by rw[yy,yy];exact f.len,λj w' e=>?_⟩;by_cases hj:i=j;subst hj;by_cases hl:i<ρ.length;rw[pS hl]at e;cases e;exact⟨v,by rw[pS (by rw[f.len];exact hl)],q⟩;rw[tU (by rw[yy];lia)]at e;cases e;rw[vO hj]at e;obtain⟨v',h1,h2⟩:=f.val j w' e;exact⟨v',by rw[vO hj];exact h1,h2⟩
noncomputable def aO(K:aI)(m:Nat->ai)(n:Nat)(H:Hp)(w:W)(h':VH)(Q:VK):Prop:=∀v H' m',bW m n H m' h'.n H'->Rel K m' h' H'->aL K m' h'.n H' v w->Q v H'
theorem aO.here{w:W}{Q:VK}(k:aO K m h.n H w h Q)(r:Rel K m h H){v:V}(q:aL K m h.n H v w):Q v H:=k v H m .refl r q
theorem aO.list{ws:List W}{vs:List V}{Q:VK}(k:aO K m h.n H (.ref h.n) (h.new (.lst ws)) Q)(r:Rel K m h H)(q:aG K m h.n H vs ws){p:ai}(hp:H p=aD):Q (.ref p) (upd H p (.lst vs)):=by obtain⟨st,r'⟩:=r.alloc (o:=.lst ws) (u:=.lst vs) hp (λ_ z=>nomatch z) (λst=>⟨vs,fB,q.stp st⟩);refine k _ _ _ st r' ?_;have:aL K (λi=>if i=h.n then p else m i) (h.n+1) (upd H p (.lst vs)) (.ref ((λi=>if i=h.n then p else m i) h.n)) (.ref h.n):=.ref (pW _);simp only[dH]at this;exact this
theorem aO.dict{ws:List (Key×W)}{vs:List (Key×V)}{Q:VK}(k:aO K m h.n H (.ref h.n) (h.new (.dk ws)) Q)(r:Rel K m h H)(q:aP K m h.n H vs ws){p:ai}(hp:H p=aD):Q (.ref p) (upd H p (.dK vs)):=by obtain⟨st,r'⟩:=r.alloc (o:=.dk ws) (u:=.dK vs) hp (λ_ z=>nomatch z) (λst=>⟨vs,.inl fB,q.stp st⟩);refine k _ _ _ st r' ?_;have:aL K (λi=>if i=h.n then p else m i) (h.n+1) (upd H p (.dK vs)) (.ref ((λi=>if i=h.n then p else m i) h.n)) (.ref h.n):=.ref (pW _);simp only[dH]at this;exact this
theorem aO.tuple{ws:List W}{vs:List V}{Q:VK}(k:aO K m h.n H (.tup ws) h Q)(r:Rel K m h H)(q:aG K m h.n H vs ws){p:ai}(hp:H p=aD):Q (.ref p) (upd H p (.tup vs)):=by obtain⟨st,r'⟩:=r.more (u:=.tup vs) hp;exact k _ _ _ st r' (.tup (cH.of fB) (q.stp st))
theorem M6{fa:FE}{g:W->VH->Res W}{G:V->Hp->VK->Prop}
 (hG:∀(m:Nat->ai)(h:VH)(H:Hp)(v:V)(x w:W)(h':VH)(Q:VK),Rel K m h H->aL K m h.n H v x->g x h=.ok w h'->aO K m h.n H w h' Q->G v H Q) {Q:VK}
 (q:iu K (λρ h=>(fa ρ h).bind λx h=>g x h) σ H Q):iu K fa σ H λv H1=>G v H1 Q:=by
 refine q.el λρ h m w h' f r e k=>?_;refine bT e λx h1 e1 e2=>?_;exact(.mk f r e1 λv H1 m1 s1 r1 q1=>hG m1 h1 H1 v x w h' Q r1 q1 e2 λv' H' m' s' r' q'=>k v' H' m' (s1.trans s') r' q')
theorem E8{fa fb:FE}{g:W->W->VH->Res W}{G:V->V->Hp->VK->Prop}
 (hG:∀(m:Nat->ai)(h:VH)(H:Hp)(v u:V)(x y w:W)(h':VH)(Q:VK),Rel K m h H->aL K m h.n H v x->aL K m h.n H u y->g x y h=.ok w h'->aO K m h.n H w h' Q->G v u H Q) {Q:VK}
 (q:iu K (λρ h=>(fa ρ h).bind λx h=>(fb ρ h).bind λy h=>g x y h) σ H Q):iu K fa σ H λv H1=>iu K fb σ H1 λu H2=>G v u H2 Q:=by
 refine q.el λρ h m w h' f r e k=>?_;refine bT e λx h1 e1 e2=>?_;refine bT e2 λy h2 e3 e4=>?_;refine(.mk f r e1 λv H1 m1 s1 r1 q1=>(.mk (f.stp s1) r1 e3 λu H2 m2 s2 r2 q2=>?_));exact hG m2 h2 H2 v u x y w h' Q r2 (q1.stp s2) q2 e4 λv' H' m' s' r' q'=>k v' H' m' ((s1.trans s2).trans s') r' q'
theorem wN{fa:FE}{g:List W->VH->Res W}{G:List V->Hp->VK->Prop}
 (hG:∀(m:Nat->ai)(h:VH)(H:Hp)(vs:List V)(xs:List W)(w:W)(h':VH)(Q:VK),Rel K m h H->aG K m h.n H vs xs->g xs h=.ok w h'->aO K m h.n H w h' Q->G vs H Q) {Q:VK}
 (q:iu K (λρ h=>(fa ρ h).bind λy h=>match y with|.tup ys=>g ys h|_=>.no) σ H Q):iD K fa σ H λvs H1=>G vs H1 Q:=by
 refine q.el λρ h m w h' f r e k=>?_;refine bT e λx h1 e1 e2=>?_;cases x with|tup ys=>exact(.mk f r e1 λvs H1 m1 s1 r1 q1=>hG m1 h1 H1 vs ys w h' Q r1 q1 e2 λv' H' m' s' r' q'=>k v' H' m' (s1.trans s') r' q')|_=>cases e2
theorem M7{f:FE}{Q:Bool->Hp->Prop}(q:gW K f σ H Q):iu K f σ H λx H'=>∃k,x=.bl k/\Q k H':=by refine q.el λρ h m b h' f r e k=>?_;exact(.mk f r e λv H' m' s' r' q'=>by cases q';exact⟨b,rfl,k H' m' s' r'⟩)
end
section
variable{X:Cx}{a b c e:aq}{es:List aq}{fa fb fc:FE}{pos:Pos}
theorem UG{i:Nat}{x:Str}{pos:Pos}(hN:X.N[i]?=aC x)(hv:kI X.env.scope x)(hd:(x==("__debug__" : Str))=false)(hcd:(x==("__classdict__" : Str))=false):SE X (.Name x pos) (λρ h=>.of (ρ[i]?).join h):=
 (yI hN hv hd hcd).imp λσ H Q z9=>z9.el λρ h m w h' f r e k=>by
   obtain⟨e1,e2⟩:=of_ok e;subst e2;have e3:ρ[i]?=aC (aC w):=by
    cases q:ρ[i]? with|none=>rw[q]at e1;cases e1|some o=>rw[q]at e1;rw[<-e1];rfl
   obtain⟨v,h1,h2⟩:=f.val i w e3;exact⟨v,h1,k v H m .refl r h2⟩
theorem BA{w:W}{v:V}(h:PE X e (tC v))(hv:∀m n H,aL X.K m n H v w):SE X e (λ_ h=>.ok w h):=
 h.imp λσ H Q z9=>z9.el λρ h m w h' f r e k=>by cases e;exact k v H m .refl r (hv m h.n H)
theorem UH{i j pos}:SE X (.Constant (.int i) j pos) (λ_ h=>.ok (.int i) h):=BA LA λ_ _ _=>.int i
theorem BB{i j pos}:SE X (.Constant (.bool i) j pos) (λ_ h=>.ok (.bl i) h):=BA uc λ_ _ _=>.bl i
theorem UI{j pos}:SE X (.Constant .none j pos) (λ_ h=>.ok .aN h):=BA QG λ_ _ _=>.aN
theorem UJ{i j pos}:SE X (.Constant (.str i) j pos) (λ_ h=>.ok (.str i) h):=BA GI λ_ _ _=>.str i
theorem IB:SA X [] (λ_ h=>.ok (.tup []) h):=pZ.imp λσ H Q z9=>z9.el λρ h m ws h' f r e k=>by cases e;exact k [] H m .refl r .nil
theorem E9(ha:SE X e fa)(hr:SA X es fb)(hs:starEach (e::es) X.env=(false,eval e X.env)::starEach es X.env) :
 SA X (e::es) (λρ h=>(fa ρ h).bind λx h=>(fb ρ h).bind λy h=>match y with|.tup ys=>.ok (.tup (x::ys)) h|_=>.no):=
 (nA ha hr hs).imp λσ H Q z9=>z9.el λρ h m ws h' f r e k=>by
   refine bT e λx h1 e1 e2=>?_;refine bT e2 λy h2 e3 e4=>?_;cases y with
   |tup ys=>
    cases e4;exact(.mk f r e1 λv H1 m1 s1 r1 q1=>(.mk (f.stp s1) r1 e3 λvs H2 m2 s2 r2 q2=>k _ H2 m2 (s1.trans s2) r2 (.cons (q1.stp s2) q2)))
   |_=>cases e4
theorem M8{k:Nat}(h:Nat.ble k 1000):k<=sizeLine:=vR (HB (kG h))
theorem UK{x1:Nat}(ha:SA X es fa):SE X (.Tuple es x1 pos) (λρ h=>(fa ρ h).bind λy h=>match y with|.tup ys=>(if Nat.ble ys.length 1000 then .ok (.tup ys) h else .no)|_=>.no):=
 (RT ha).imp λσ H Q q=>wN (g:=λys h=>if Nat.ble ys.length 1000 then .ok (.tup ys) h else .no) (G:=λxs H1 Q=>xs.length<=sizeLine/\∀p,H1 p=aD->Q (.ref p) (upd H1 p (.tup xs)))
   (λm h H vs xs w h' Q r q e k=>by
     split at e;rename_i hl;cases e;exact⟨by rw[q.length];exact M8 hl,λp hp=>aO.tuple k r q hp⟩;cases e) q
theorem UL(ha:SA X es fa):SE X (.List es pos) (λρ h=>(fa ρ h).bind λy h=>match y with|.tup ys=>(if Nat.ble ys.length 1000 then .ok (.ref h.n) (h.new (.lst ys))else .no)|_=>.no):=
 (Hr ha).imp λσ H Q q=>wN (g:=λys h=>if Nat.ble ys.length 1000 then .ok (.ref h.n) (h.new (.lst ys))else .no) (G:=λxs H1 Q=>xs.length<=sizeLine/\∀p,H1 p=aD->Q (.ref p) (upd H1 p (.lst xs)))
   (λm h H vs xs w h' Q r q e k=>by
     split at e;rename_i hl;cases e;exact⟨by rw[q.length];exact M8 hl,λp hp=>aO.list k r q hp⟩;cases e) q
noncomputable def BC(K:aI)(r:R2)(g:W->W->VH->Res W):Prop:=∀(m:Nat->ai) (h:VH) (H:Hp) (v u:V) (x y w:W) (h':VH) (Q:VK),Rel K m h H->aL K m h.n H v x->aL K m h.n H u y->g x y h=.ok w h'->aO K m h.n H w h' Q->r v u H Q
theorem BD{O:Operator}{r:R2}{g:W->W->VH->Res W}(ho:dh X (binaryOp O) r)(hg:BC X.K r g)(ha:SE X a fa)(hb:SE X b fb):SE X (.BinOp a O b pos) (λρ h=>(fa ρ h).bind λx h=>(fb ρ h).bind λy h=>g x y h):=
 (nR ho ha hb).imp λσ H Q q=>E8 (G:=r) hg q
noncomputable def BE:Operator->Option Op|.Add=>aC .add|.Sub=>aC .sub|.Mult=>aC .mul|.FloorDiv=>aC .fdiv|.Mod=>aC .mod|.Pow=>aC .pow|_=>aD
noncomputable def cI:Op->Int->Int->Prop|.mul=>mJ|.fdiv=>rj|.mod=>λ_ j=>0<j|.shl=>v9|.pow=>v9|_=>λ_ _=>True
noncomputable def gI:Op->Int->Int->Int|.add=>(· + ·)|.sub=>(· - ·)|.mul=>(· * ·)|.fdiv=>(· / ·)|.mod=>(· % ·)|.shl=>λi j=>i*2 ^ j.toNat|.pow=>λi j=>i ^ j.toNat
noncomputable def rX(K:aI):Op->R2|.add=>λx y H Q=>uh K x y H Q\/MX K x y H Q\/A5 x y H Q|.mul=>λx y H Q=>ux K x y H Q\/A6 x y H Q|_=>λ_ _ _ _=>False
noncomputable def rB(K:aI)(o:Op):R2:=λx y H Q=>rI (cI o) (λi j=>.int (gI o i j)) x y H Q\/rX K o x y H Q
theorem yW{f:aa->aa->Sem aa}{r r':R2}(h:dh X f r)(k:∀x y H Q,r' x y H Q->r x y H Q):dh X f r':=λpins s σ H x y v u Q I rx ry q=>h pins s σ H x y v u Q I rx ry (k _ _ _ _ q)
theorem BF{O:Operator}{o:Op}(e:BE O=aC o):dh X (binaryOp O) (rB X.K o):=by
 have tr:∀{g:Int->Int->V}{x y H Q},rI (λ_ _=>True) g x y H Q->mH g x y H Q:=λ⟨i,j,h1,h2,_,h3⟩=>⟨i,j,h1,h2,h3⟩
 cases O<;>cases e;exact yW (Rm.or (Sa.or (T7.or Hv))) λx y H Q q=>q.elim (λz=>.inl (tr z)) .inr;exact yW Rn λx y H Q q=>q.elim (λz=>tr z) λz=>z.elim;exact yW (Ro.or (T6.or Sq)) λx y H Q q=>q;exact yW Rt λx y H Q q=>q.elim id λz=>z.elim;exact yW Ru λx y H Q q=>q.elim id λz=>z.elim;exact yW Rq λx y H Q q=>q.elim id λz=>z.elim
theorem M9{i:Int}(h:rL i):-(2 ^ 64)<i/\i<2 ^ 64:=by unfold rL at h;rw[aS]at h;exact⟨kF h.1,kF h.2⟩
theorem IC{o:Op}{i j z:Int}(e:eU o i j=aC z):cI o i j/\z=gI o i j:=by cases o<;>simp only[eU]at e;cases e;exact⟨trivial,rfl⟩;cases e;exact⟨trivial,rfl⟩;split at e;rename_i hc;cases e;rw[k8]at hc;exact⟨hc.elim (λq=>.inl (M9 q)) (λq=>.inr (M9 q)),rfl⟩;cases e;split at e;rename_i hc;cases e;rw[aS]at hc;exact⟨⟨kF hc.1,kF hc.2⟩,rfl⟩;cases e;split at e;rename_i hc;cases e;exact⟨(kF hc:0<j),rfl⟩;cases e;split at e;rename_i hc;cases e;rw[aS,aS]at hc;exact⟨⟨kF hc.1.1,kF hc.1.2,kF hc.2⟩,rfl⟩;cases e;split at e;rename_i hc;cases e;rw[aS,aS]at hc;exact⟨⟨kF hc.1.1,kF hc.1.2,kF hc.2⟩,rfl⟩;cases e
theorem UM:big=sizeLine:=rfl
theorem ID{i:Int}(h:fits i):-(2 ^ 62)<=i/\i<2 ^ 62:=by unfold fits at h;rw[aS]at h;exact⟨kF h.1,kF h.2⟩
theorem Na{o:Op}{xs zs:List W}{k:Int}(e:iU o xs k=aC zs):o=.mul/\(-(2 ^ 62)<=k/\k<2 ^ 62)/\xs.length*k.toNat<=sizeLine/\zs=(aR k.toNat xs).flatten:=by unfold iU at e;split at e;split at e;rename_i hc;cases e;rw[aS]at hc;exact⟨rfl,ID hc.1,kG hc.2,rfl⟩;cases e;cases e
theorem aG.rep{K:aI}{m:Nat->ai}{n:Nat}{H:Hp}{vs:List V}{ws:List W}(q:aG K m n H vs ws):∀k:Nat,aG K m n H (aR k vs).flatten (aR k ws).flatten
 |0=>.nil
 |k+1=>by
  rw[pU,pU,tW,tW];exact q.append (aG.rep q k)
theorem UN{K:aI}{m:Nat->ai}{n:Nat}{H:Hp}{vs:List V}{ws:List W}(q:aG K m n H vs ws):vs.isEmpty=ws.isEmpty:=by cases q<;>rfl
theorem UO{ws:List W}{k:Int}(h:(ws.isEmpty||k==1)):(aR k.toNat ws).flatten=ws:=by
 rw[k8]at h;rcases h with h|h
 have:ws=[]:=by simpa using h
 subst this;induction k.toNat with|zero=>rfl|succ j ih=>rw[pU,tW,ih];rfl
 have:k=1:=by simpa using h
 subst this;show(aR 1 ws).flatten=ws;simp
theorem UP{K:aI}(o:Op):BC K (rB K o) (dB o):=by
 intro m h H v u x y w h' Q r qv qu e k;unfold dB at e;split at e;rename_i i j;obtain⟨e,rfl⟩:=of_ok e;cases qv;cases qu;cases q:eU o i j with
 |none=>rw[q]at e;cases e
 |some z=>
  rw[q]at e;cases e;obtain⟨h1,rfl⟩:=IC q;exact .inl ⟨i,j,rfl,rfl,h1,aO.here k r (.int _)⟩
 .rename_i xs ys
  obtain⟨e,rfl⟩:=of_ok e;cases q:E7 o xs ys with
  |none=>rw[q]at e;cases e
  |some zs=>
   rw[q]at e;cases e;cases o<;>simp only[E7]at q;split at q;rename_i hc;cases q;cases qv with
   |tup qa ra=>
    cases qu with
    |tup qb rb=>
     rename_i a va b vb;have hl:=kG hc;cases xs with
     |nil=>
      cases ra;exact .inr (.inr (.inl ⟨a,b,vb,rfl,rfl,qa,qb,aO.here k r (.tup qb rb)⟩))
     |cons x0 xs0=>
      refine .inr (.inl ⟨a,b,va,vb,rfl,rfl,qa,qb,λz=>?_,by rw[ra.length,rb.length];exact hl,λz=>?_,λ_ p hp=>aO.tuple k r (ra.append rb) hp⟩);subst z;cases ra;subst z;cases rb;rw[jj]at k;exact aO.here k r (.tup qa ra)
   cases q
   all_goals cases q
 rename_i xs kk;obtain⟨e,rfl⟩:=of_ok e;cases q:iU o xs kk with
 |none=>rw[q]at e;cases e
 |some zs=>
  rw[q]at e;cases e;obtain⟨rfl,⟨k1,k2⟩,hz,rfl⟩:=Na q;cases qu;cases qv with
  |tup qa ra=>
   rename_i a va;refine .inr (.inl ⟨a,kk,va,rfl,rfl,qa,k1,k2,by rw[ra.length];exact hz,λz=>?_,λz p hp=>aO.tuple k r (ra.rep _) hp⟩);rw[UN ra]at z;rw[UO z]at k;exact aO.here k r (.tup qa ra)
 rename_i i kk;split at e;rename_i xs hx;split at e;rename_i zs q;cases e;obtain⟨rfl,⟨k1,k2⟩,hz,rfl⟩:=Na q;obtain⟨va,pa,ra⟩:=r.lst hx;cases qv;cases qu;exact .inr (.inr ⟨m i,kk,va,rfl,rfl,pa,by lia,by lia,by rw[ra.length];exact hz,λp hp=>aO.list k r (ra.rep _) hp⟩);cases e;cases e
 .rename_i i j
  split at e
  .rename_i xs ys hx hy
   split at e
   .rename_i zs q
    cases e;cases o<;>simp only[Iw]at q;split at q;rename_i hc;cases q;obtain⟨va,pa,ra⟩:=r.lst hx;obtain⟨vb,pb,rb⟩:=r.lst hy;cases qv;cases qu;exact .inr (.inr (.inr ⟨m i,m j,va,vb,rfl,rfl,pa,pb,by rw[ra.length,rb.length];exact kG hc,λp hp=>aO.list k r (ra.append rb) hp⟩));cases q
    all_goals cases q
   cases e
  cases e
 cases e
end
section
variable{K:aI}{m:Nat->ai}{h:VH}{H:Hp}
theorem BG{f:W->Option aB}(ih:∀(w:W) (d:aB) (v:V),f w=aC d->aL K m h.n H v w->Rp K (λ_=>False) H v d):∀{ws:List W} {ds:List aB} {vs:List V},bY f ws=aC ds->aG K m h.n H vs ws->kC K (λ_=>False) H vs ds
 |[],ds,_,e,.nil=>by cases e;exact .nil
 |w::ws,ds,_,e,.cons q r=>by
  unfold bY at e;split at e;rename_i d hd;split at e;rename_i bs hb;cases e;exact .cons (ih w d _ hd q) (BG ih hb r);cases e;cases e
theorem iE(r:Rel K m h H):∀(n:Nat) (w:W) (d:aB) (v:V),toD h n w=aC d->aL K m h.n H v w->Rp K (λ_=>False) H v d
 |0,_,_,_,e,_=>by cases e
 |n+1,w,d,v,e,q=>by
  cases q with
  |aN=>cases e;exact .aN
  |bl b=>cases e;exact .bl b
  |int b=>cases e;exact .int b
  |str b=>cases e;exact .str b
  |bN _=>cases e
  | @tup a vs ws sq rs=>
   simp only[toD]at e;cases z:bY (toD h n) ws with|none=>rw[z]at e;cases e|some ds=>rw[z]at e;cases e;exact .tup sq (λz=>z) (BG (iE r n) z rs)
  | @fz a vs ws sq rs=>
   simp only[toD]at e;cases z:bY (toD h n) ws with|none=>rw[z]at e;cases e|some ds=>rw[z]at e;cases e;exact .lst sq.sq (λz=>z) (BG (iE r n) z rs)
  | @ref i hi=>
   simp only[toD]at e;cases g:h.get i with
   |none=>rw[g]at e;cases e
   |some o=>
    rw[g]at e;cases o with
    |dk _=>cases e
    |lst ws=>
     obtain⟨vs,h1,h2⟩:=r.lst g;simp only at e;cases z:bY (toD h n) ws with|none=>rw[z]at e;cases e|some ds=>rw[z]at e;cases e;exact .lst (cN.of h1) (λz=>z) (BG (iE r n) z h2)
theorem Nb(r:Rel K m h H){x y:W}{v u:V}{b:Bool}(e:kO h x y=aC b)(qv:aL K m h.n H v x)(qu:aL K m h.n H u y) :
 ∃d e',Rp K (λ_=>False) H v d/\Rp K (λ_=>False) H u e'/\SeqAt.shaped d=true/\SeqAt.shaped e'=true/\b=PyData.eqv d e':=by
 unfold kO at e;split at e;rename_i d e' h1 h2;split at e;rename_i hc;cases e;rw[aS]at hc;exact⟨d,e',iE r _ _ _ _ h1 qv,iE r _ _ _ _ h2 qu,hc.1,hc.2,rfl⟩;cases e;cases e
end
theorem yX{K:aI}{m:Nat->ai}{h:VH}{H:Hp}{v:V}{w:W}{ws:List W}(r:Rel K m h H)(q:aL K m h.n H v w)(e:aQ h w=aC ws):∃p vs,v=.ref p/\(cN K H p vs\/cH K H p vs)/\aG K m h.n H vs ws:=by
 cases q<;>try cases e
 exact⟨_,_,rfl,.inr ‹_›,‹_›⟩;rename_i q _;exact⟨_,_,rfl,.inl q.sq,‹_›⟩;rename_i i hi;simp only[aQ]at e;cases g:h.get i with
 |none=>rw[g]at e;cases e
 |some o=>
  rw[g]at e;cases o with
  |dk _=>cases e
  |lst ws=>
   cases e;obtain⟨vs,h1,h2⟩:=r.lst g;exact⟨_,vs,rfl,.inl (cN.of h1),h2⟩
theorem Nc{K:aI}{m:Nat->ai}{h:VH}{H:Hp}(r:Rel K m h H){x y:W}{v u:V}{b:Bool}(e:kP h x y=aC b)(qv:aL K m h.n H v x)(qu:aL K m h.n H u y) :
 (∃p vs ds d,u=.ref p/\(cN K H p vs\/cH K H p vs)/\kC K (λ_=>False) H vs ds/\Rp K (λ_=>False) H v d/\ds.all SeqAt.shaped=true/\SeqAt.shaped d=true/\b=fG ds d):=by
 unfold kP at e;split at e;rename_i ws d h1 h2;split at e;rename_i ds h3;split at e;rename_i hc;cases e;rw[aS]at hc;obtain⟨p,vs,rfl,h4,h5⟩:=yX r qu h1;exact⟨p,vs,ds,d,rfl,h4,BG (iE r 24) h3 h5,iE r _ _ _ _ h2 qv,hc.1,hc.2,rfl⟩;cases e;cases e;cases e
noncomputable def gA:CmpOp->Option Cp|.Eq=>aC .eq|.NotEq=>aC .ne|.Lt=>aC .lt|.LtE=>aC .le|.Gt=>aC .gt|.GtE=>aC .ge|.Is=>aC .Bq|.IsNot=>aC .oq|.In=>aC .wH|.NotIn=>aC .wI
noncomputable def rC(K:aI):Cp->R2|.eq=>Bb K|.ne=>Bc K|.lt=>mH λi j=>.bl (decide (i<j))|.le=>mH λi j=>.bl (decide (i<=j))|.gt=>mH λi j=>.bl (decide (j<i))|.ge=>mH λi j=>.bl (decide (j<=i))|.Bq=>λx y H Q=>(y=.aN/\Q (.bl (decide (x=.aN))) H)\/∃c b,x=.bl c/\y=.bl b/\Q (.bl (c==b)) H|.oq=>λx y H Q=>(y=.aN/\Q (.bl (!decide (x=.aN))) H)\/∃c b,x=.bl c/\y=.bl b/\Q (.bl (!(c==b))) H|.wH=>λx y H Q=>rG K false x y H Q|.wI=>λx y H Q=>rG K true x y H Q
noncomputable def qd:aq->Bool|.Set ..=>false|_=>true
theorem IE{op:CmpOp}{b:aq}(h:qd b):behindInMarks op b=false:=by cases b<;>first|rfl|cases h
section
variable{X:Cx}{a b c e:aq}{es:List aq}{fa fb fc:FE}{pos:Pos}
theorem UQ:dh X (compareOp .Is) (λx y H Q=>∃c b,x=.bl c/\y=.bl b/\Q (.bl (c==b)) H):=by intro pins s σ H x y v u Q I rx ry h;obtain⟨c,b,rfl,rfl,q⟩:=h;cases rx;cases ry;exact wpAny_is_plain rfl (fq I q (by cases c<;>cases b<;>rfl))
theorem UR:dh X (compareOp .IsNot) (λx y H Q=>∃c b,x=.bl c/\y=.bl b/\Q (.bl (!(c==b))) H):=by intro pins s σ H x y v u Q I rx ry h;obtain⟨c,b,rfl,rfl,q⟩:=h;cases rx;cases ry;exact wpAny_isNot_plain rfl (fq I q (by cases c<;>cases b<;>rfl))
theorem yY(hu:X.A.units+65<cLine){O:CmpOp}{c:Cp}(e:gA O=aC c):dh X (compareOp O) (rC X.K c):=by cases O<;>cases e;exact To (by lia);exact Tp (by lia);exact AG;exact AH;exact AI;exact AJ;exact RC.or UQ;exact RD.or UR;exact T9 (by show X.A.units+1+64<cLine;lia);exact Ua (by show X.A.units+1+64<cLine;lia)
theorem Fb{K:aI}{m:Nat->ai}{n:Nat}{H:Hp}{v:V}{w:W}(q:aL K m n H v w):bL w=decide (v=.aN):=by cases q<;>simp[bL]
theorem Fc{K:aI}(c:Cp):BC K (rC K c) (λx y h=>.of ((aX c h x y).map .bl) h):=by
 intro m h H v u x y w h' Q r qv qu e k;obtain⟨e,rfl⟩:=of_ok e;cases z:aX c h' x y with
 |none=>rw[z]at e;cases e
 |some b=>
  rw[z]at e;cases e;have fin:Q (.bl b) H:=aO.here k r (.bl b);unfold aX at z;split at z;obtain⟨p,vs,ds,d,h1,h2,h3,h4,h5,h6,rfl⟩:=Nc r z qv qu;exact⟨p,vs,ds,d,h1,h2,h3,h4,h5,h6,fin⟩;cases z2:kP h' x y with
  |none=>rw[z2]at z;cases z
  |some b2=>
   rw[z2]at z;cases z;obtain⟨p,vs,ds,d,h1,h2,h3,h4,h5,h6,rfl⟩:=Nc r z2 qv qu;exact⟨p,vs,ds,d,h1,h2,h3,h4,h5,h6,fin⟩
  obtain⟨d,e',h1,h2,h3,h4,rfl⟩:=Nb r z qv qu;exact⟨d,e',h1,h2,h3,h4,fin⟩;cases z2:kO h' x y with
  |none=>rw[z2]at z;cases z
  |some b2=>
   rw[z2]at z;cases z;obtain⟨d,e',h1,h2,h3,h4,rfl⟩:=Nb r z2 qv qu;exact⟨d,e',h1,h2,h3,h4,fin⟩
  split at z;rename_i hn;cases z;have:=Fb qu;rw[hn]at this;refine .inl ⟨kF this.symm,?_⟩;rw[<-Fb qv];exact fin;unfold Br at z;split at z;rename_i c b;cases z;cases qv;cases qu;exact .inr ⟨_,_,rfl,rfl,fin⟩;cases z;split at z;rename_i hn;cases z;have:=Fb qu;rw[hn]at this;refine .inl ⟨kF this.symm,?_⟩;rw[<-Fb qv];exact fin;cases z2:Br x y with
  |none=>rw[z2]at z;cases z
  |some b2=>
   rw[z2]at z;cases z;unfold Br at z2;split at z2;rename_i c b;cases z2;cases qv;cases qu;exact .inr ⟨_,_,rfl,rfl,fin⟩;cases z2
  split at z;rename_i i j;cases qv;cases qu;cases c<;>simp only[eX]at z<;>cases z<;>exact⟨i,j,rfl,rfl,fin⟩;cases z
theorem US(hu:X.A.units+65<cLine){O:CmpOp}{c:Cp}(e:gA O=aC c)(hs:qd b)(ha:SE X a fa)(hb:SE X b fb) :
 SE X (.Compare a [O] [b] pos) (λρ h=>(fa ρ h).bind λx h=>(fb ρ h).bind λy h=>.of ((aX c h x y).map .bl) h):=
 (LQ (yY hu e) ha hb (IE hs)).imp λσ H Q q=>E8 (G:=rC X.K c) (Fc c) q
theorem UT(hu:X.A.units+65<cLine){O:CmpOp}{c:Cp}(e:gA O=aC c)(hs:qd b)(ha:SE X a fa)(hb:SE X b fb) :
 ST X (.Compare a [O] [b] pos) (λρ h=>(fa ρ h).bind λx h=>(fb ρ h).bind λy h=>.of ((aX c h x y).map .bl) h):=
 (LR (yY hu e) ha hb (IE hs)).imp λσ H Q q=>E8 (G:=rC X.K c) (Fc c) (M7 q)
theorem Nd{O O':CmpOp}{a b:aq}(h:qd b):lastMarks [O,O'] [a,b]=false:=IE h
theorem Nf{K:aI}{c1 c2:Cp}{σ:L2.St}{H:Hp}{Q:VK}
 (q:iu K (λρ h=>(fa ρ h).bind λx h=>(fb ρ h).bind λy h=>match aX c1 h x y with
   |some true=>(fc ρ h).bind λz h=>.of ((aX c2 h y z).map .bl) h
   |some false=>.ok (.bl false) h
   |none=>.no) σ H Q):Hh (rC K c1) (rC K c2) (iu K fa) (iu K fb) (iu K fc) σ H Q:=by
 refine q.el λρ h m w h' f r e k=>?_;refine bT e λx h1 e1 e2=>?_;refine bT e2 λy h2 e3 e4=>?_;refine(.mk f r e1 λv H1 m1 s1 r1 q1=>(.mk (f.stp s1) r1 e3 λu H2 m2 s2 r2 q2=>?_));have f2:=(f.stp s1).stp s2;have k2:aO K m2 h2.n H2 w h' Q:=λv' H' m' s' r' q'=>k v' H' m' ((s1.trans s2).trans s') r' q';cases z:aX c1 h2 x y with
 |none=>rw[z]at e4;cases e4
 |some b=>
  rw[z]at e4;refine Fc c1 m2 h2 H2 v u x y (.bl b) h2 _ r2 (q1.stp s2) q2 (by show Res.of ((aX c1 h2 x y).map W.bl) h2=_;rw[z];rfl) λv3 H3 m3 s3 r3 q3=>?_;cases q3;refine⟨b,rfl,?_⟩;cases b with
  |true=>
   refine bT e4 λz' h4 e5 e6=>?_;rw[if_pos rfl];refine⟨ρ,h2,m3,z',h4,f2.stp s3,r3,e5,λv4 H4 m4 s4 r4 q4=>?_⟩;exact Fc c2 m4 h4 H4 u v4 y z' w h' Q r4 ((q2.stp s3).stp s4) q4 e6 λv' H' m' s' r' q'=>k2 v' H' m' ((s3.trans s4).trans s') r' q'
  |false=>
   cases e4;simp only[fS,fy];exact k2 _ H3 m3 s3 r3 (.bl false)
theorem UU(hu:X.A.units+65<cLine){O O':CmpOp}{c1 c2:Cp}(e:gA O=aC c1)(e':gA O'=aC c2)(hs:qd c)(ha:SE X a fa)(hb:SE X b fb)(hc:SE X c fc) :
 SE X (.Compare a [O,O'] [b,c] pos) (λρ h=>(fa ρ h).bind λx h=>(fb ρ h).bind λy h=>match aX c1 h x y with|some true=>(fc ρ h).bind λz h=>.of ((aX c2 h y z).map .bl) h|some false=>.ok (.bl false) h|none=>.no):=(RE (yY hu e) (yY hu e') ha hb hc (Nd hs)).imp λσ H Q q=>Nf q
theorem UW(hu:X.A.units+65<cLine){O O':CmpOp}{c1 c2:Cp}(e:gA O=aC c1)(e':gA O'=aC c2)(hs:qd c)(ha:SE X a fa)(hb:SE X b fb)(hc:SE X c fc) :
 ST X (.Compare a [O,O'] [b,c] pos) (λρ h=>(fa ρ h).bind λx h=>(fb ρ h).bind λy h=>match aX c1 h x y with|some true=>(fc ρ h).bind λz h=>.of ((aX c2 h y z).map .bl) h|some false=>.ok (.bl false) h|none=>.no):=(RG (yY hu e) (yY hu e') ha hb hc (Nd hs)).imp λσ H Q q=>Nf (M7 q)
noncomputable abbrev BH(fa:FE):FE:=λρ h=>(fa ρ h).bind λx h=>match x with|.bl b=>.ok (.bl (!b)) h|_=>.no
noncomputable abbrev BI(fa fb:FE):FE:=λρ h=>(fa ρ h).bind λx h=>match x with|.bl true=>fb ρ h|.bl false=>.ok (.bl false) h|_=>.no
noncomputable abbrev Ng(fa fb:FE):FE:=λρ h=>(fa ρ h).bind λx h=>match x with|.bl true=>.ok (.bl true) h|.bl false=>fb ρ h|_=>.no
noncomputable abbrev IF(fa fb fc:FE):FE:=λρ h=>(fa ρ h).bind λx h=>match x with|.bl true=>fb ρ h|.bl false=>fc ρ h|_=>.no
variable{rest:List aq}
theorem UX(ha:ST X a fa):ST X (.UnaryOp .Not a pos) (BH fa):=(GL ha).imp λσ H Q z9=>z9.el λρ h m b h' f r e k=>by
 refine bT e λx h1 e1 e2=>?_;cases x<;>try cases e2
 rename_i b;exact(.mk f r e1 λH' m' s' r'=>k H' m' s' r')
theorem UY(ha:SE X a fa):SE X (.UnaryOp .Not a pos) (BH fa):=(QM ha).imp λσ H Q z9=>z9.el λρ h m b h' f r e k=>by
 refine bT e λx h1 e1 e2=>?_;cases x<;>try cases e2
 rename_i b;exact(.mk f r e1 λv H' m' s' r' q=>by cases q;exact⟨b,rfl,k _ H' m' s' r' (.bl _)⟩)
theorem Nh{op:BoolOp}(ha:ST X a fa):SW X (.BoolOp op [a] pos) fa:=by cases op;exact QI ha;exact LF ha
theorem UZ(ha:ST X a fa)(hb:SW X (.BoolOp .And (b::rest) pos) fb):SW X (.BoolOp .And (a::b::rest) pos) (BI fa fb):=(QJ ha hb).imp λσ H Q z9=>z9.el λρ h m b h' f r e k=>by
 refine bT e λx h1 e1 e2=>?_;cases x<;>try cases e2
 rename_i c;refine(.mk f r e1 λH1 m1 s1 r1=>?_);cases c with|true=>rw[if_pos rfl];exact(.mk (f.stp s1) r1 e2 λH' m' s' r'=>k H' m' (s1.trans s') r')|false=>cases e2;simp only[fS,fy];exact k H1 m1 s1 r1
theorem BJ(ha:ST X a fa)(hb:SW X (.BoolOp .Or (b::rest) pos) fb):SW X (.BoolOp .Or (a::b::rest) pos) (Ng fa fb):=(pw_or ha hb).imp λσ H Q z9=>z9.el λρ h m b h' f r e k=>by
 refine bT e λx h1 e1 e2=>?_;cases x<;>try cases e2
 rename_i c;refine(.mk f r e1 λH1 m1 s1 r1=>?_);cases c with|true=>cases e2;rw[if_pos rfl];exact k H1 m1 s1 r1|false=>simp only[fS,fy];exact(.mk (f.stp s1) r1 e2 λH' m' s' r'=>k H' m' (s1.trans s') r')
theorem Ni{op:BoolOp}(ha:SE X a fa):SE X (.BoolOp op [a] pos) fa:=QK ha
theorem U0(ha:SE X a fa)(hb:SE X (.BoolOp .And (b::rest) pos) fb):SE X (.BoolOp .And (a::b::rest) pos) (BI fa fb):=(QL ha hb).imp λσ H Q z9=>z9.el λρ h m w h' f r e k=>by
 refine bT e λx h1 e1 e2=>?_;cases x<;>try cases e2
 rename_i c;refine(.mk f r e1 λv H1 m1 s1 r1 q1=>?_);cases q1;refine⟨c,rfl,?_⟩;cases c with|true=>rw[if_pos rfl];exact(.mk (f.stp s1) r1 e2 λv H' m' s' r' q'=>k v H' m' (s1.trans s') r' q')|false=>cases e2;simp only[fS,fy];exact k _ H1 m1 s1 r1 (.bl false)
theorem BK(ha:SE X a fa)(hb:SE X (.BoolOp .Or (b::rest) pos) fb):SE X (.BoolOp .Or (a::b::rest) pos) (Ng fa fb):=(Ak ha hb).imp λσ H Q z9=>z9.el λρ h m w h' f r e k=>by
 refine bT e λx h1 e1 e2=>?_;cases x<;>try cases e2
 rename_i c;refine(.mk f r e1 λv H1 m1 s1 r1 q1=>?_);cases q1;refine⟨c,rfl,?_⟩;cases c with|true=>cases e2;rw[if_pos rfl];exact k _ H1 m1 s1 r1 (.bl true)|false=>simp only[fS,fy];exact(.mk (f.stp s1) r1 e2 λv H' m' s' r' q'=>k v H' m' (s1.trans s') r' q')
theorem U1(hc:ST X c fc)(ha:SE X a fa)(hb:SE X b fb):SE X (.IfExp c a b pos) (IF fc fa fb):=(QO hc ha hb).imp λσ H Q z9=>z9.el λρ h m w h' f r e k=>by
 refine bT e λx h1 e1 e2=>?_;cases x<;>try cases e2
 rename_i c;refine(.mk f r e1 λH1 m1 s1 r1=>?_);cases c with|true=>rw[if_pos rfl];exact(.mk (f.stp s1) r1 e2 λv H' m' s' r' q'=>k v H' m' (s1.trans s') r' q')|false=>simp only[fS,fy];exact(.mk (f.stp s1) r1 e2 λv H' m' s' r' q'=>k v H' m' (s1.trans s') r' q')
theorem Nj{K:aI}{m:Nat->ai}{n:Nat}{H:Hp}{vs:List V}{ws:List W}(q:aG K m n H vs ws):vs.isEmpty=ws.isEmpty:=by cases q<;>rfl
theorem U3{K:aI}{m:Nat->ai}{h:VH}{H:Hp}{v:V}{w:W}{b:Bool}(r:Rel K m h H)(q:aL K m h.n H v w)(e:mS h w=aC b):wc K v H b:=by
 cases q with
 |aN=>cases e;rfl
 |bl x=>cases e;rfl
 |int i=>cases e;rfl
 |str x=>cases e
 |fz _ _=>cases e
 |bN _=>cases e
 |tup sq rs=>cases e;exact .inr (.inl ⟨_,sq,by rw[Nj rs]⟩)
 | @ref i hi=>
  simp only[mS]at e;cases g:h.get i with
  |none=>rw[g]at e;cases e
  |some o=>
   rw[g]at e;cases o with
   |dk _=>cases e
   |lst ws=>
    cases e;obtain⟨vs,h1,h2⟩:=r.lst g;exact .inl ⟨vs,cN.of h1,by rw[Nj h2]⟩
theorem IG(ha:SE X a fa)(he:∀whole,isTrue a X.env whole=(do let v <-whole;standAt a.pos;holding [v] (truthy v))) :
 ST X a (λρ h=>(fa ρ h).bind λx h=>.of ((mS h x).map .bl) h):=(RJ ha he).imp λσ H Q z9=>z9.el λρ h m b h' f r e k=>by
 refine bT e λx h1 e1 e2=>?_;obtain⟨e2,rfl⟩:=of_ok e2;cases z:mS h' x with
 |none=>rw[z]at e2;cases e2
 |some c=>
  rw[z]at e2;cases e2;exact(.mk f r e1 λv H' m' s' r' q=>⟨b,U3 r' q z,k H' m' s' r'⟩)
theorem U4(ha:SE X a fa):SE X (.UnaryOp .USub a pos) (λρ h=>(fa ρ h).bind λx h=>match x with|.int i=>.ok (.int (-i)) h|_=>.no):=
 (Az Rz ha).imp λσ H Q q=>M6 (g:=λx h=>match x with|.int i=>.ok (.int (-i)) h|_=>.no) (G:=rU λi=>.int (-i)) (λm h H v x w h' Q r q e k=>by
   cases q<;>try cases e
   rename_i i;exact⟨i,rfl,aO.here k r (.int _)⟩) q
end
section
variable{K:aI}{m m0:Nat->ai}{n n0:Nat}{h:VH}{H H0:Hp}
theorem Rel.adopt(r:Rel K m h H){p:ai}{o:VO}{u u0:HO}(hp:∀i,i<h.n->m i≠p)(hu:H p=aC u0)(ht:∀t,u0≠.tup t)(hf:∀o t,u0≠.cG o t)(s:bW m0 n0 H0 m h.n H)(h0:H0 p=aD)
 (ho:bW m h.n H (λi=>if i=h.n then p else m i) (h.n+1) (upd H p u)\/True->(∀{v:V}{w:W},aL K m h.n H v w->aL K (λi=>if i=h.n then p else m i) (h.n+1) (upd H p u) v w)->gg K (λi=>if i=h.n then p else m i) (h.n+1) (upd H p u) p o) :
 bW m0 n0 H0 (λi=>if i=h.n then p else m i) (h.n+1) (upd H p u)/\Rel K (λi=>if i=h.n then p else m i) (h.new o) (upd H p u):=by
 have kt:∀b vs,H b=aC (.tup vs)->upd H p u b=aC (.tup vs):=λb vs q=>by rw[bX (eT q hu λz=>ht vs z.symm)];exact q
 have kf:∀b o t,H b=aC (.cG o t)->upd H p u b=aC (.cG o t):=λb o t q=>by rw[bX (eT q hu λz=>hf o t z.symm)];exact q
 have mv:∀{v:V}{w:W},aL K m h.n H v w->aL K (λi=>if i=h.n then p else m i) (h.n+1) (upd H p u) v w:=by
  intro v w q;have st:bW m h.n (λb=>if b=p then aD else H b) (λi=>if i=h.n then p else m i) (h.n+1) (upd H p u):=by
   refine⟨vec _,λi hi=>by simp only[if_neg (eB hi)],λi hi hi2=>?_,λi j hi hi2 hj=>?_,λb vs q=>?_,λb o t q=>?_,λb o _ q=>?_⟩;have:i=h.n:=by lia
   subst this;simp only[dH];have:i=h.n:=by lia
   subst this;simp only[dH,if_neg (eB hj)];exact(hp j hj).symm;split at q;cases q;exact kt b vs q;split at q;cases q;exact kf b o t q;split at q;cases q;rename_i z;rw[bX z];exact q
  refine aL.stp st ?_;have back:∀{a vs},cH K H a vs->cH K (λb=>if b=p then aD else H b) a vs:=by
   intro a vs q;rcases q with(q|⟨o,q⟩)|q
   exact .inl (.inl (by simp only[if_neg (eT q hu λz=>ht vs z.symm)];exact q));exact .inl (.inr ⟨o,by simp only[if_neg (eT q hu λz=>hf o _ z.symm)];exact q⟩);exact .inr q
  have BL:∀{a vs},Fz K H a vs->Fz K (λb=>if b=p then aD else H b) a vs:=by
   intro a vs q;rcases q with⟨o,q⟩|q
   exact .inl ⟨o,by simp only[if_neg (eT q hu λz=>hf o _ z.symm)];exact q⟩;exact .inr q
  exact(aL.rec (K:=K) (m:=m) (n:=h.n) (H:=H) (motive_1:=λv w _=>aL K m h.n (λb=>if b=p then aD else H b) v w) (motive_2:=λvs ws _=>aG K m h.n (λb=>if b=p then aD else H b) vs ws)
   .aN .bl .int .str (λsq _ ih=>.tup (back sq) ih) (λsq _ ih=>.fz (BL sq) ih) (λhi=>.ref hi) .bN .nil (λ_ _ i1 i2=>.cons i1 i2) q)
 refine⟨⟨zT s.le,λi hi=>?_,λi hi hi2=>?_,λi j hi hi2 hj=>?_,λb vs q=>kt b vs (s.tup b vs q),λb o t q=>kf b o t (s.cG b o t q),λb o nb q=>?_⟩,⟨λi hi=>?_,λi j hi hj z=>?_,?_⟩⟩;have:=s.le;simp only[if_neg (show i≠h.n by lia)];exact s.same i hi;by_cases e:i=h.n;subst e;simp only[dH];exact h0;simp only[if_neg e];exact s.new i hi (by lia);have:=s.le;simp only[if_neg (show j≠h.n by lia)];by_cases e:i=h.n;subst e;simp only[dH];exact(hp j (by lia)).symm;simp only[if_neg e];exact s.apart i j hi (by lia) hj;rw[bX (gR q h0)];exact s.keep b o nb q;have hi:i<h.n+1:=hi;by_cases e:i=h.n;subst e;exact⟨o,eZ,by simp only[dH];exact ho (.inr trivial) mv⟩;have hl:i<h.n:=by lia
 obtain⟨o',h1,h2⟩:=r.obj i hl;refine⟨o',(ju hl).trans h1,?_⟩;simp only[if_neg e];have eq:upd H p u (m i)=H (m i):=bX (hp i hl);cases o' with
 |lst ws=>
  obtain⟨vs,q1,q2⟩:=h2;exact⟨vs,eq.trans q1,aG.rec (K:=K) (m:=m) (n:=h.n) (H:=H) (motive_1:=λv w _=>aL K m h.n H v w) (motive_2:=λvs ws _=>aG K (λi=>if i=h.n then p else m i) (h.n+1) (upd H p u) vs ws)
   .aN .bl .int .str (λsq q _=>.tup sq q) (λsq q _=>.fz sq q) (λhi=>.ref hi) .bN .nil (λq _ _ i2=>.cons (mv q) i2) q2⟩
 |dk ws=>
  obtain⟨vs,q1,q2⟩:=h2;have go:∀{vs:List (Key×V)}{ws:List (Key×W)},aP K m h.n H vs ws->aP K (λi=>if i=h.n then p else m i) (h.n+1) (upd H p u) vs ws:=by
   intro vs ws q2;induction q2 with|nil=>exact .nil|cons q _ ih=>exact .cons (mv q) ih
  exact⟨vs,q1.imp (λz=>eq.trans z) λ⟨o,z⟩=>⟨o,eq.trans z⟩,go q2⟩
 have hi:i<h.n+1:=hi;have hj:j<h.n+1:=hj;by_cases e:i=h.n;by_cases e2:j=h.n;lia;simp only[if_pos e,if_neg e2]at z;exact absurd z.symm (hp j (by lia));by_cases e2:j=h.n;simp only[if_neg e,if_pos e2]at z;exact absurd z (hp i (by lia));simp only[if_neg e,if_neg e2]at z;exact r.inj i j (by lia) (by lia) z;show(o::h.os).length=h.n+1;rw[eK,r.len]
theorem aG.map{m':Nat->ai}{n':Nat}{H':Hp}(mv:∀{v:V} {w:W},aL K m n H v w->aL K m' n' H' v w):∀{vs:List V} {ws:List W},aG K m n H vs ws->aG K m' n' H' vs ws|_,_,.nil=>.nil|_,_,.cons q r=>.cons (mv q) (aG.map mv r)
theorem aP.map{m':Nat->ai}{n':Nat}{H':Hp}(mv:∀{v:V} {w:W},aL K m n H v w->aL K m' n' H' v w):∀{vs:List (Key×V)} {ws:List (Key×W)},aP K m n H vs ws->aP K m' n' H' vs ws|_,_,.nil=>.nil|_,_,.cons q r=>.cons (mv q) (aP.map mv r)
theorem aP.look(k:Key):∀{vs:List (Key×V)} {ws:List (Key×W)},aP K m n H vs ws->(iB vs k=aD/\fH ws k=aD)\/∃v w,iB vs k=aC v/\fH ws k=aC w/\aL K m n H v w
 |_,_,.nil=>.inl ⟨rfl,rfl⟩
 |_,_,.cons (k:=k') (v:=v) (w:=w) q r=>by
  by_cases e:k'=k;refine .inr ⟨v,w,Ib (p:=(k',v)) e,?_,q⟩;unfold fH;rw[qP];simp[e];rcases aP.look k r with⟨a,b⟩|⟨v',w',a,b,c⟩
  refine .inl ⟨(EY (p:=(k',v)) e).trans a,?_⟩;unfold fH at b ⊢;rw[qP];simp only[gq e];exact b;refine .inr ⟨v',w',(EY (p:=(k',v)) e).trans a,?_,c⟩;unfold fH at b ⊢;rw[qP];simp only[gq e];exact b
theorem aP.any(k:Key):∀{vs:List (Key×V)} {ws:List (Key×W)},aP K m n H vs ws->(vs.any λkv=>decide (kv.1=k))=(ws.any λkv=>decide (kv.1=k))|_,_,.nil=>rfl|_,_,.cons q r=>by rw[Eu,Eu,aP.any k r]
theorem aP.repl{v:V}{w:W}(q:aL K m n H v w)(k:Key):∀{vs:List (Key×V)} {ws:List (Key×W)},aP K m n H vs ws->aP K m n H (vs.map λkv=>if kv.1=k then(kv.1,v)else kv) (ws.map λkv=>if kv.1=k then(kv.1,w)else kv)
 |_,_,.nil=>.nil
 |_,_,.cons (k:=k') p r=>by
  rw[eS,eS];by_cases e:k'=k;simp only[if_pos e];exact .cons q (aP.repl q k r);simp only[if_neg e];exact .cons p (aP.repl q k r)
theorem aP.snoc{v:V}{w:W}(q:aL K m n H v w)(k:Key):∀{vs:List (Key×V)} {ws:List (Key×W)},aP K m n H vs ws->aP K m n H (vs++[(k,v)]) (ws++[(k,w)])|_,_,.nil=>.cons q .nil|_,_,.cons p r=>.cons p (aP.snoc q k r)
theorem aP.put{v:V}{w:W}(q:aL K m n H v w)(k:Key){vs:List (Key×V)}{ws:List (Key×W)}(r:aP K m n H vs ws):aP K m n H (putK vs k v) (lH ws k w):=by unfold putK lH;rw[r.any k];split;exact r.repl q k;exact r.snoc q k
theorem aP.merge{vs:List (Key×V)}{ws:List (Key×W)}(q:aP K m n H vs ws):∀{va:List (Key×V)} {wa:List (Key×W)},aP K m n H va wa->aP K m n H (uw va vs) (yV wa ws):=by
 induction q with|nil=>exact λa=>a|cons q r ih=>exact λa=>ih (a.put q _)
theorem aP.length:∀{vs:List (Key×V)} {ws:List (Key×W)},aP K m n H vs ws->vs.length=ws.length|_,_,.nil=>rfl|_,_,.cons _ r=>by rw[eK,eK,aP.length r]
theorem U5{v:V}{w:W}{k:Key}(q:aL K m n H v w)(e:rM w=aC k):v=kV k:=by cases q<;>cases e<;>rfl
theorem II{vs:List V}{ws:List W}{i:Int}{w:W}(q:aG K m n H vs ws)(e:dZ ws i=aC w):∃v,dZ vs i=aC v/\aL K m n H v w:=by
 unfold dZ at e ⊢;rw[q.length];cases z:jI ws.length i with
 |none=>rw[z]at e;cases e
 |some j=>
  rw[z]at e;exact q.get e
end
noncomputable def wO(K:aI):R2:=λx y H Q=>AS K x y H Q\/AU K x y H Q\/∃a v,x=.ref a/\rF H a y (aC v)/\Q v H
section
variable{X:Cx}{a b c e o:aq}{es:List aq}{fa fb fc fo:FE}{pos:Pos}
theorem U6(hu:X.A.units+1<cLine):rA X (λx y H Q=>∃a v,x=.ref a/\rF H a y (aC v)/\Q v H):=by intro value slice pins s σ H x y v u Q I rx ry q hs;obtain⟨a,v',rfl,g,q⟩:=q;obtain rfl:v=Value.ref a:=rx;exact tail_any (TM I g) PySem.F.slot_dict_getitem.lookup (TH hu I g ry λw' s3 I3 rw'=>⟨v',H,I3,rw',q⟩) hs
theorem BN(hu:X.A.units+2<cLine):rA X (wO X.K):=Mh.or (Sb.or (U6 (by lia)))
theorem U7{K:aI}:BC K (wO K) (λx y h=>.of (bq h x y) h):=by
 intro m h H v u x y w h' Q r qv qu e0 k;obtain⟨e,e1⟩:=of_ok e0;clear e0;subst e1;unfold bq at e;split at e;cases qv with
 |tup sq rs=>
  cases qu;obtain⟨v',h1,h2⟩:=II rs e;exact .inr (.inl ⟨_,_,_,v',rfl,rfl,sq,h1,aO.here k r h2⟩)
 cases qv with
 |fz sq rs=>
  cases qu;obtain⟨v',h1,h2⟩:=II rs e;exact .inl ⟨_,_,_,v',rfl,rfl,sq.sq,h1,aO.here k r h2⟩
 rename_i i j;cases qv;cases qu;cases g:h'.get i with
 |none=>rw[g]at e;cases e
 |some ob=>
  rw[g]at e;cases ob with
  |lst ws=>
   obtain⟨vs,p1,p2⟩:=r.lst g;obtain⟨v',h1,h2⟩:=II p2 e;exact .inl ⟨_,_,_,v',rfl,rfl,cN.of p1,h1,aO.here k r h2⟩
  |dk ws=>
   have e:fH ws (.inl j)=aC w:=e;obtain⟨vs,p1,p2⟩:=r.dk g;rcases p2.look (.inl j)with⟨_,z⟩|⟨v',w',z1,z2,z3⟩
   rw[z]at e;cases e;rw[z2]at e;cases e;exact .inr (.inr ⟨_,v',rfl,by rw[<-z1];exact .inl ⟨vs,.inl j,p1,rfl,rfl⟩,aO.here k r z3⟩)
 rename_i i j;cases qv;cases qu;cases g:h'.get i with
 |none=>rw[g]at e;cases e
 |some ob=>
  rw[g]at e;cases ob with
  |lst ws=>cases e
  |dk ws=>
   have e:fH ws (.inr j)=aC w:=e;obtain⟨vs,p1,p2⟩:=r.dk g;rcases p2.look (.inr j)with⟨_,z⟩|⟨v',w',z1,z2,z3⟩
   rw[z]at e;cases e;rw[z2]at e;cases e;exact .inr (.inr ⟨_,v',rfl,by rw[<-z1];exact .inl ⟨vs,.inr j,p1,rfl,rfl⟩,aO.here k r z3⟩)
 cases e
theorem U8(hu:X.A.units+2<cLine)(ha:SE X a fa)(hb:SE X b fb)(hs:EU b):SE X (.Subscript a b pos) (λρ h=>(fa ρ h).bind λx h=>(fb ρ h).bind λy h=>.of (bq h x y) h):=
 (um (BN hu) ha hb hs).imp λσ H Q q=>E8 (G:=wO X.K) U7 q
noncomputable def iF(K:aI)(b:Bool)(f:FE):TO:=λσ H Q=>∃ρ h m w o h',Fr K m h.n H σ ρ/\Rel K m h H/\f ρ h=.ok w h'/\cJ b w=aC o/\∀H' m',bW m h.n H m' h'.n H'->Rel K m' h' H'->Q o H'
theorem iF.el{K:aI}{σ:L2.St}{H:Hp}{P:Prop}{b:Bool}{fa:FE}{Q:Option Int->Hp->Prop}(q:iF K b fa σ H Q)(k:∀ρ h m w o h',Fr K m h.n H σ ρ->Rel K m h H->fa ρ h=.ok w h'->cJ b w=aC o->(∀H' m',bW m h.n H m' h'.n H'->Rel K m' h' H'->Q o H')->P):P:=by obtain⟨ρ,h,m,w,o,h',f,r,e,ep,k'⟩:=q;exact k ρ h m w o h' f r e ep k'
theorem iF.mk{K:aI}{σ:L2.St}{H:Hp}{m:Nat->ai}{ρ:En}{h h':VH}{w:W}{o:Option Int}{b:Bool}{fa:FE}{Q:Option Int->Hp->Prop}(f:Fr K m h.n H σ ρ)(r:Rel K m h H)(e:fa ρ h=.ok w h')(ep:cJ b w=aC o)(k:∀H' m',bW m h.n H m' h'.n H'->Rel K m' h' H'->Q o H'):iF K b fa σ H Q:=⟨ρ,h,m,w,o,h',f,r,e,ep,k⟩
theorem U9{w:W}:PO X aD (iF X.K false (λ_ h=>.ok w h)):=λpins s σ H Q I z9=>z9.el λρ h m w o h' f r e ep k=>by
 cases e;have:o=aD:=by unfold cJ at ep;cases ep;rfl
 subst this;exact R5 pins s σ H Q I (k H m .refl r)
theorem U'(ha:SE X e fa):PO X (aC e) (iF X.K true fa):=λpins s σ H Q I z9=>z9.el λρ h m w o h' f r e ep k=>by
 refine R6 ha pins s σ H Q I (.mk f r e λv H' m' s' r' q=>?_);cases q<;>cases ep;exact⟨_,rfl,k H' m' s' r'⟩
theorem Nk{K:aI}{m:Nat->ai}{n:Nat}{H:Hp}{vs:List V}{ws:List W}(q:aG K m n H vs ws)(lo hi:Option Int):aG K m n H (jS vs lo hi) (gy ws lo hi):=by unfold jS gy;rw[q.length];exact(q.drop _).take _
theorem Va{ws:List W}{lo hi:Option Int}(h:HT.bz ws.length 0 lo=0/\HT.bz ws.length ws.length hi=ws.length):gy ws lo hi=ws:=by unfold gy;rw[h.1,h.2];simp
theorem Vb{lo hi:Option aq}{fl fh:FE}{p2:Pos}{bl bh:Bool}(ha:SE X a fa)(hl:PO X lo (iF X.K bl fl))(hh:PO X hi (iF X.K bh fh)) :
 SE X (.Subscript a (.Slice lo hi aD p2) pos) (λρ h=>(fa ρ h).bind λx h=>(fl ρ h).bind λl h=>(fh ρ h).bind λu h=>match cJ bl l,cJ bh u with|some l,aC u=>jr x l u h|_,_=>.no):=
 (R8 Uc ha hl hh).imp λσ H Q z9=>z9.el λρ h m w h' f r e k=>by
   refine bT e λx h1 e1 e2=>?_;refine bT e2 λl h2 e3 e4=>?_;refine bT e4 λu h3 e5 e6=>?_;split at e6;rename_i l' u' pl pu;refine(.mk f r e1 λv H1 m1 s1 r1 q1=>(.mk (f.stp s1) r1 e3 pl λH2 m2 s2 r2=>(.mk ((f.stp s1).stp s2) r2 e5 pu λH3 m3 s3 r3=>?_)));have q3:=(q1.stp s2).stp s3;have kk:aO X.K m3 h3.n H3 w h' Q:=λv' H' m' s' r' q'=>k v' H' m' (((s1.trans s2).trans s3).trans s') r' q';unfold jr at e6;split at e6;rename_i ws;cases e6;cases q3 with
   | @tup a vs _ sq rs=>
    by_cases hw:HT.bz vs.length 0 l'=0/\HT.bz vs.length vs.length u'=vs.length;refine .inl (.inr ⟨_,_,rfl,sq,hw,?_⟩);have yZ:=hw;rw[rs.length]at yZ;rw[Va yZ]at kk;exact aO.here kk r3 (.tup sq rs);exact .inl (.inl ⟨_,_,rfl,sq,hw,λp hp=>aO.tuple kk r3 (Nk rs l' u') hp⟩)
   rename_i i;cases q3;cases g:h3.get i with
   |none=>rw[g]at e6;cases e6
   |some ob=>
    rw[g]at e6;cases ob with
    |lst ws=>
     cases e6;obtain⟨vs,p1,p2⟩:=r3.lst g;exact .inr ⟨_,_,rfl,cN.of p1,λp hp=>aO.list kk r3 (Nk p2 l' u') hp⟩
    |dk ws=>cases e6
   cases e6;cases e6
end
noncomputable def fJ:aq->Bool|.Starred ..=>false|_=>true
theorem eO{e:aq}{es:List aq}{env:Env}(h:fJ e):starEach (e::es) env=(false,eval e env)::starEach es env:=by cases e<;>first|rfl|cases h
theorem qe{pos:Pos}{env:Env}:∀{es:List aq},es.all fJ=true->(backTo pos (starEach es env)).any (·.1)=false
 |[],_=>rfl
 |e::es,h=>by
  rw[kB,aS]at h;rw[eO h.1];show(false|| (backTo pos (starEach es env)).any (·.1))=false;rw[qe h.2];rfl
noncomputable abbrev rO:FE:=λ_ h=>.ok (.tup []) h
noncomputable abbrev oA(fa fb:FE):FE:=λρ h=>(fa ρ h).bind λx h=>(fb ρ h).bind λy h=>match y with|.tup ys=>.ok (.tup (x::ys)) h|_=>.no
section
variable{X:Cx}{a b c e o:aq}{es:List aq}{fa fb fc fo:FE}{pos p:Pos}{x:Str}
noncomputable abbrev jW(fa:FE)(g:List W->VH->Res W):FE:=λρ h=>(fa ρ h).bind λy h=>match y with|.tup ys=>g ys h|_=>.no
noncomputable def gh(K:aI)(r:List V->Hp->VK->Prop)(g:List W->VH->Res W):Prop:=∀(m:Nat->ai) (h:VH) (H:Hp) (vs:List V) (xs:List W) (w:W) (h':VH) (Q:VK),Rel K m h H->aG K m h.n H vs xs->g xs h=.ok w h'->aO K m h.n H w h' Q->r vs H Q
theorem Fd{id:String}{r:List V->Hp->VK->Prop}{g:List W->VH->Res W}(hc:dM X (.builtin id) r)(hv:gh X.K r g)(hg:Gl X x)(hm:X.mg x=aD)(hb:bootBuiltins x=aC (.builtin id))(ha:SA X (e::es) fa)(hs:(e::es).all fJ=true)
 (hn:x≠"__name__") (hdb:(x==("__debug__" : Str))=false):SE X (.Call (.Name x p) (e::es) [] pos) (jW fa g):=by
 rw[kB,aS]at hs;exact(Ht hc hg hm hb ha hn hdb (eO hs.1) (qe hs.2)).imp λσ H Q q=>wN hv q
theorem IJ{T:String}{r:List V->Hp->VK->Prop}{g:List W->VH->Res W}(hc:dM X (.type T) r)(hv:gh X.K r g)(hg:Gl X x)(hm:X.mg x=aD)(hb:bootBuiltins x=aC (.type T))(ha:SA X (e::es) fa)(hs:(e::es).all fJ=true)
 (hn:x≠"__name__") (hdb:(x==("__debug__" : Str))=false):SE X (.Call (.Name x p) (e::es) [] pos) (jW fa g):=by
 rw[kB,aS]at hs;exact(RV hc hg hm hb ha hn hdb (eO hs.1) (qe hs.2)).imp λσ H Q q=>wN hv q
theorem gF{K:aI}{m:Nat->ai}{n:Nat}{H:Hp}{vs:List V}{w:W}(q:aG K m n H vs [w]):∃v,vs=[v]/\aL K m n H v w:=by cases q with|cons q r=>cases r;exact⟨_,rfl,q⟩
theorem Vc{K:aI}:gh K (λxs H Q=>∃p ys,xs=[.ref p]/\(cN K H p ys\/cH K H p ys)/\Q (.int ys.length) H) fZ:=by
 intro m h H vs xs w h' Q r q e k;unfold fZ at e;split at e<;>try cases e
 rename_i x;obtain⟨v,rfl,q1⟩:=gF q;obtain⟨e,rfl⟩:=of_ok e;cases z:aQ h' x with
 |none=>rw[z]at e;cases e
 |some ws=>
  rw[z]at e;cases e;obtain⟨p,us,rfl,h1,h2⟩:=yX r q1 z;exact⟨p,us,rfl,h1,by rw[h2.length];exact aO.here k r (.int _)⟩
theorem Vd{K:aI}:gh K (λxs H Q=>∃p ys,xs=[.ref p]/\(cN K H p ys\/cH K H p ys)/\∀l,H l=aD->Q (.ref l) (upd H l (.lst ys))) iC:=by
 intro m h H vs xs w h' Q r q e k;unfold iC at e;split at e<;>try cases e
 rename_i x;obtain⟨v,rfl,q1⟩:=gF q;cases z:aQ h x with
 |none=>rw[z]at e;cases e
 |some ws=>
  rw[z]at e;cases e;obtain⟨p,us,rfl,h1,h2⟩:=yX r q1 z;exact⟨p,us,rfl,h1,λl hl=>aO.list k r h2 hl⟩
theorem Ve{K:aI}:gh K (λxs H Q=>∃p ys,xs=[.ref p]/\((cN K H p ys/\∀l,H l=aD->Q (.ref l) (upd H l (.tup ys)))\/(cH K H p ys/\Q (.ref p) H))) wK:=by
 intro m h H vs xs w h' Q r q e k;unfold wK at e;split at e<;>try cases e
 rename_i x;obtain⟨v,rfl,q1⟩:=gF q;obtain⟨e,rfl⟩:=of_ok e;cases z:aQ h' x with
 |none=>rw[z]at e;cases e
 |some ws=>
  rw[z]at e;cases e;obtain⟨p,us,rfl,h1,h2⟩:=yX r q1 z;rcases h1 with h1|h1
  exact⟨p,us,rfl,.inl ⟨h1,λl hl=>aO.tuple k r h2 hl⟩⟩;exact⟨p,us,rfl,.inr ⟨h1,aO.here k r (.tup h1 h2)⟩⟩
theorem Vf{K:aI}:gh K (λxs H Q=>(∃i,xs=[.int i]/\Q (.int i) H)\/∃k,xs=[.bl k]/\Q (.int (if k then 1 else 0)) H) oz:=by
 intro m h H vs xs w h' Q r q e k;unfold oz at e;split at e<;>try cases e
 obtain⟨v,rfl,q1⟩:=gF q;cases q1;exact .inl ⟨_,rfl,aO.here k r (.int _)⟩;obtain⟨v,rfl,q1⟩:=gF q;cases q1;exact .inr ⟨_,rfl,aO.here k r (.int _)⟩
theorem Vg{K:aI}:gh K (λxs H Q=>∃i,xs=[.int i]/\Q (.int (if i<0 then -i else i)) H) kQ:=by
 intro m h H vs xs w h' Q r q e k;unfold kQ at e;split at e<;>try cases e
 obtain⟨v,rfl,q1⟩:=gF q;cases q1;exact⟨_,rfl,aO.here k r (.int _)⟩
theorem oB{K:aI}{m:Nat->ai}{n:Nat}{H:Hp}{vs:List V}{w z:W}(q:aG K m n H vs [w,z]):∃v u,vs=[v,u]/\aL K m n H v w/\aL K m n H u z:=by cases q with|cons q r=>obtain⟨u,rfl,h⟩:=gF r;exact⟨_,_,rfl,q,h⟩
theorem Vh{K:aI}:gh K (λxs H Q=>∃i j,xs=[.int i,.int j]/\Q (.int (if j>i then j else i)) H) rN:=by
 intro m h H vs xs w h' Q r q e k;unfold rN at e;split at e<;>try cases e
 obtain⟨v,u,rfl,q1,q2⟩:=oB q;cases q1;cases q2;exact⟨_,_,rfl,aO.here k r (.int _)⟩
theorem Vi{K:aI}:gh K (λxs H Q=>∃i j,xs=[.int i,.int j]/\Q (.int (if j<i then j else i)) H) kR:=by
 intro m h H vs xs w h' Q r q e k;unfold kR at e;split at e<;>try cases e
 obtain⟨v,u,rfl,q1,q2⟩:=oB q;cases q1;cases q2;exact⟨_,_,rfl,aO.here k r (.int _)⟩
noncomputable def rP:Ty->String|.int=>"int" |.bool=>"bool" |.tuple=>"tuple" |.list=>"list" |.str=>"str" |.dict=>"dict"
noncomputable def BO(K:aI)(n:String):List V->Hp->VK->Prop:=λxs H Q=>∃x b,xs=[x,.ty n]/\((∃t,fX K H x t/\PySem.W.kitOne K t (.type n)=aC b)\/(∃a vs,x=.ref a/\cH K H a vs/\PySem.W.kitOne K (.type "tuple") (.type n)=aC b)\/∃a,x=.ref a/\(∃kvs,Rd H a (.dK kvs))/\PySem.W.kitOne K (.type "dict") (.type n)=aC b)/\Q (.bl b) H
theorem Vj(n:String):dM X (.builtin "isinstance") (BO X.K n):=by
 intro pins s σ H xs us Q I r h;obtain⟨x,b,rfl,hi,q⟩:=h;obtain⟨u,u2,rfl,rx,rc⟩:=vals2 r;obtain rfl:u2=Value.type n:=rc;rcases hi with⟨t,ty,e⟩|⟨a,vs,rfl,sq,e⟩|⟨a,rfl,rd,e⟩
 exact RP I rx ty e λtk=>⟨.bl b,H,I.tok _,rfl,q⟩
 obtain rfl:u=Value.ref a:=rx;obtain⟨its,_,p,_⟩:=I.tuple sq;obtain⟨o,h1,h2,_⟩:=p;exact lu PySem.W.kitx_tuple I.eF ⟨o,h1,h2⟩ e (λz=>nomatch z) λtk=>⟨.bl b,H,I.tok _,rfl,q⟩
 obtain rfl:u=Value.ref a:=rx;obtain⟨o,h1,h2⟩:∃o,s.heap.get? a=aC o/\o.ExactDict:=by obtain⟨kvs,rd⟩:=rd;obtain⟨_,_,_,_,o,_,_,h1,h2,_⟩:=lF I.hok rd;exact⟨o,h1,h2⟩
 exact lu PySem.W.kitx_dict I.eF ⟨o,h1,h2.1⟩ e (λz=>nomatch z) λtk=>⟨.bl b,H,I.tok _,rfl,q⟩
theorem Vk{K:aI}(t:Ty){m:Nat->ai}{h:VH}{H:Hp}{v:V}{x:W}{b:Bool}(r:Rel K m h H)(q:aL K m h.n H v x)(e:dG t h x=aC b) :
 (∃t',fX K H v t'/\PySem.W.kitOne K t' (.type (rP t))=aC b)\/(∃a vs,v=.ref a/\cH K H a vs/\PySem.W.kitOne K (.type "tuple") (.type (rP t))=aC b)\/∃a,v=.ref a/\(∃kvs,Rd H a (.dK kvs))/\PySem.W.kitOne K (.type "dict") (.type (rP t))=aC b:=by
 cases q with
 |aN=>cases e;refine .inl ⟨_,.aN,?_⟩;cases t<;>rfl
 |bl x=>cases e;refine .inl ⟨_,.bl x,?_⟩;cases t<;>rfl
 |int x=>cases e;refine .inl ⟨_,.int x,?_⟩;cases t<;>rfl
 |str x=>cases e;refine .inl ⟨_,.str x,?_⟩;cases t<;>rfl
 |tup sq rs=>cases e;refine .inr (.inl ⟨_,_,rfl,sq,?_⟩);cases t<;>rfl
 |fz _ _=>cases e
 |bN _=>cases e
 | @ref i hi=>
  simp only[dG]at e;cases g:h.get i with
  |none=>rw[g]at e;cases e
  |some o=>
   rw[g]at e;cases o with
   |lst ws=>
    cases e;obtain⟨vs,h1,h2⟩:=r.lst g;refine .inl ⟨_,.lst h1,?_⟩;cases t<;>rfl
   |dk ws=>
    cases e;obtain⟨vs,h1,h2⟩:=r.dk g;refine .inr (.inr ⟨_,rfl,⟨_,h1⟩,?_⟩);cases t<;>rfl
theorem Vl(t:Ty){T:Str}{p2:Pos}(ha:SE X e fa)(hs:fJ e)(hg:Gl X "isinstance")(hm:X.mg "isinstance" = aD)(Vm:Gl X T)(Vn:X.mg T=aD)(Vo:bootBuiltins T=aC (.type (rP t)))(hn:T≠"__name__")(hd:(T==("__debug__" : Str))=false) :
 SE X (.Call (.Name "isinstance" p) [e,.Name T p2] [] pos) (λρ h=>(fa ρ h).bind λx h=>.of ((dG t h x).map .bl) h):=by
 have hT:PE X (.Name T p2) (tC (.ty (rP t))):=LC Vm Vn Vo rfl hn hd;refine(Ht (Vj (rP t)) hg hm PyProof.Rows.boot_isinstance (nA ha (nA hT pZ) (eO hs)) (by decide) (by decide) (eO hs) rfl).imp λσ H Q q=>?_;refine M6 (g:=λx h=>.of ((dG t h x).map .bl) h) (G:=λv H1 Q=>BO X.K (rP t) [v,.ty (rP t)] H1 Q) (λm h H v x w h' Q r q e k=>?_) q;obtain⟨e,rfl⟩:=of_ok e;cases z:dG t h' x with
 |none=>rw[z]at e;cases e
 |some b=>
  rw[z]at e;cases e;exact⟨v,b,rfl,Vk t r q z,aO.here k r (.bl b)⟩
noncomputable def IK:aq->Bool|.Name .. |.Subscript ..=>true|_=>false
theorem Vp{o:aq}{m:Str}{env:Env}(h:IK o):attributeBase o m env (eval o env)=eval o env:=by cases o<;>first|rfl|cases h
noncomputable abbrev Vq(m:Mt)(fo fa:FE):FE:=λρ h=>(fo ρ h).bind λx h=>if Bv m h x then(fa ρ h).bind λy h=>match y with|.tup ys=>wL m x ys h|_=>.no else .no
theorem Vr{apos:Pos}(ho:SE X o fo)(he:SE X e fa)(hb:IK o)(hs:fJ e)(hl:(apos.endLine==pos.line)) :
 SE X (.Call (.Attribute o "append" apos) [e] [] pos) (Vq .append fo (oA fa rO)):=by
 refine(nV (X:=X) PySem.F.plainAttrs_list PySem.F.slot_list_append PySem.F.type_list_append Ml ho (nA he pZ (eO hs)) (Vp hb) ?_ hl (eO hs) rfl).imp λσ H Q z9=>z9.el λρ h m w h' f r e k=>?_;rw[eO hs];rfl;refine bT e λx h1 e1 e2=>?_;split at e2;rename_i hk;refine bT e2 λy h2 e3 e4=>?_;refine bT e3 λz h3 e5 e6=>?_;cases e6;refine(.mk f r e1 λv H1 m1 s1 r1 q1=>?_);cases x<;>try cases hk
 rename_i i;simp only[Bv]at hk;cases g:h1.get i with
 |none=>rw[g]at hk;cases hk
 |some ob=>
  rw[g]at hk;cases ob with
  |dk _=>cases hk
  |lst ws0=>
   cases q1;obtain⟨Ie,p1,_⟩:=r1.lst g;refine⟨.inl ⟨rfl,Ie,cN.of p1⟩,ρ,h1,m1,z,h2,f.stp s1,r1,e5,λv2 H2 m2 s2 r2 q2=>?_⟩;simp only[wL]at e4;cases g2:h2.get i with
   |none=>rw[g2]at e4;cases e4
   |some ob=>
    rw[g2]at e4;cases ob with
    |dk _=>cases e4
    |lst ws=>
     simp only at e4;split at e4;rename_i hz;cases e4;obtain⟨vs,p2,p3⟩:=r2.lst g2;have hmi:m1 i=m2 i:=(s2.same i (dI g)).symm;refine⟨m1 i,vs,v2,rfl,rfl,by rw[hmi];exact p2,by rw[p3.length];exact i8.mp hz,?_⟩;obtain⟨st,r'⟩:=r2.write (i:=i) (o:=.lst (ws++[z])) (u:=.lst (vs++[v2])) (dI g2) p2 (λ_ z=>nomatch z) (λ_ _ z=>nomatch z) λst=>⟨vs++[v2],fB,(p3.stp st).append (.cons (q2.stp st) .nil)⟩
     rw[hmi];exact k .aN _ m2 ((s1.trans s2).trans st) r' .aN;cases e4
 cases e2
end
section
variable{K:aI}{m m' m1:Nat->ai}{n n' n1:Nat}{h h':VH}{H H' H1:Hp}
mutual
theorem aL.mono(hn:n<=n')(hm:∀i,i<n->m' i=m i)(kt:∀b vs,H b=aC (.tup vs)->H' b=aC (.tup vs))(kf:∀b o u,H b=aC (.cG o u)->H' b=aC (.cG o u)):∀{v:V} {w:W},aL K m n H v w->aL K m' n' H' v w
 |_,_,.aN=>.aN
 |_,_,.bl b=>.bl b
 |_,_,.int b=>.int b
 |_,_,.str b=>.str b
 |_,_,.tup q r=>.tup (by
  rcases q with(q|⟨o,q⟩)|q;exact .inl (.inl (kt _ _ q));exact .inl (.inr ⟨o,kf _ _ _ q⟩);exact .inr q) (aG.mono hn hm kt kf r)
 |_,_,.fz q r=>.fz (by
  rcases q with⟨o,q⟩|q;exact .inl ⟨o,kf _ _ _ q⟩;exact .inr q) (aG.mono hn hm kt kf r)
 |_,_,.ref (i:=i) q=>by rw[<-hm i q];exact .ref (eN q hn)
 |_,_,.bN a=>.bN a
theorem aG.mono(hn:n<=n')(hm:∀i,i<n->m' i=m i)(kt:∀b vs,H b=aC (.tup vs)->H' b=aC (.tup vs))(kf:∀b o u,H b=aC (.cG o u)->H' b=aC (.cG o u)):∀{vs:List V} {ws:List W},aG K m n H vs ws->aG K m' n' H' vs ws|_,_,.nil=>.nil|_,_,.cons q r=>.cons (aL.mono hn hm kt kf q) (aG.mono hn hm kt kf r)
end
theorem Rel.side(r:Rel K m h H){D:ai}{u u0:HO}(hu:H D=aC u0)(ht:∀t,u0≠.tup t)(hf:∀o t,u0≠.cG o t)(ho:∀i,i<h.n->m i≠D)(s:bW m1 n1 H1 m h.n H)(h0:H1 D=aD) :
 bW m1 n1 H1 m h.n (upd H D u)/\Rel K m h (upd H D u)/\∀{v:V}{w:W},aL K m h.n H v w->aL K m h.n (upd H D u) v w:=by
 have kt:∀b vs,H b=aC (.tup vs)->upd H D u b=aC (.tup vs):=λb vs q=>by rw[bX (eT q hu λz=>ht vs z.symm)];exact q
 have kf:∀b o t,H b=aC (.cG o t)->upd H D u b=aC (.cG o t):=λb o t q=>by rw[bX (eT q hu λz=>hf o t z.symm)];exact q
 have mv:∀{v:V}{w:W},aL K m h.n H v w->aL K m h.n (upd H D u) v w:=λq=>q.mono (aZ _) (λ_ _=>rfl) kt kf;refine⟨⟨s.le,s.same,s.new,s.apart,λb vs q=>kt b vs (s.tup b vs q),λb o t q=>kf b o t (s.cG b o t q),λb o nb q=>by rw[bX (gR q h0)];exact s.keep b o nb q⟩,⟨λi hi=>?_,r.inj,r.len⟩,mv⟩;obtain⟨o,h1,h2⟩:=r.obj i hi;have eq:upd H D u (m i)=H (m i):=bX (ho i hi);refine⟨o,h1,?_⟩;cases o with|lst ws=>obtain⟨vs,q1,q2⟩:=h2;exact⟨vs,eq.trans q1,q2.map mv⟩|dk ws=>obtain⟨vs,q1,q2⟩:=h2;exact⟨vs,q1.imp (λz=>eq.trans z) λ⟨o,z⟩=>⟨o,eq.trans z⟩,q2.map mv⟩
theorem Rel.out(r:Rel K m h H){p:ai}(hp:H p=aD):∀i,i<h.n->m i≠p:=λi hi z=>by
 obtain⟨o',_,h2⟩:=r.obj i hi;obtain⟨u',h3⟩:=h2.some;rw[z,hp]at h3;cases h3
theorem bW.out(s:bW m n H m' n' H'){p:ai}{u:HO}(hp:∀i,i<n->m i≠p)(hu:H p=aC u):∀i,i<n'->m' i≠p:=λi hi z=>by
 by_cases hl:i<n;exact hp i hl ((s.same i hl).symm.trans z);have:=s.new i (jH.mp hl) hi;rw[z,hu]at this;cases this
end
inductive iG(K:aI)(m:Nat->ai)(n:Nat)(H:Hp):List (V×V)->List W->Prop
 |nil:iG K m n H [] []
 |cons {k v:V} {a b:W} {ps:List (V×V)} {ws:List W}:aL K m n H k a->aL K m n H v b->iG K m n H ps ws->iG K m n H ((k,v)::ps) (a::b::ws)
noncomputable def oE(K:aI)(f:FE)(σ:L2.St)(H:Hp)(Q:List (V×V)->Hp->Prop):Prop:=∃ρ h m ws h',Fr K m h.n H σ ρ/\Rel K m h H/\f ρ h=.ok (.tup ws) h'/\
 ∀ps H' m',bW m h.n H m' h'.n H'->Rel K m' h' H'->iG K m' h'.n H' ps ws->Q ps H'
theorem oE.el{K:aI}{σ:L2.St}{H:Hp}{P:Prop}{fa:FE}{Q:List (V×V)->Hp->Prop}(q:oE K fa σ H Q)(k:∀ρ h m ws h',Fr K m h.n H σ ρ->Rel K m h H->fa ρ h=.ok (.tup ws) h'->(∀ps H' m',bW m h.n H m' h'.n H'->Rel K m' h' H'->iG K m' h'.n H' ps ws->Q ps H')->P):P:=by obtain⟨ρ,h,m,w,h',f,r,e,k'⟩:=q;exact k ρ h m w h' f r e k'
theorem oE.mk{K:aI}{σ:L2.St}{H:Hp}{m:Nat->ai}{ρ:En}{h h':VH}{ws:List W}{fa:FE}{Q:List (V×V)->Hp->Prop}(f:Fr K m h.n H σ ρ)(r:Rel K m h H)(e:fa ρ h=.ok (.tup ws) h')(k:∀ps H' m',bW m h.n H m' h'.n H'->Rel K m' h' H'->iG K m' h'.n H' ps ws->Q ps H'):oE K fa σ H Q:=⟨ρ,h,m,ws,h',f,r,e,k⟩
noncomputable def BP(X:Cx)(pos:Pos)(keys:List (Option aq))(values:List aq)(f:FE):Prop:=∃lG,Bf X pos keys values lG/\∀σ H Q,oE X.K f σ H Q->EZ lG σ H Q
section
variable{X:Cx}{a b c e o:aq}{es:List aq}{fa fb fc fo fr:FE}{pos p:Pos}{x:Str}
theorem Vs:BP X pos [] [] rO:=⟨[],TR,λσ H Q z9=>z9.el λρ h m ws h' f r e k=>by cases e;exact k [] H m .refl r .nil⟩
theorem Vt{ks:List (Option aq)}{vs:List aq}(ha:SE X a fa)(hb:SE X b fb)(hr:BP X pos ks vs fr):BP X pos (aC a::ks) (b::vs) (oA fa (oA fb fr)):=by
 obtain⟨lG,h1,h2⟩:=hr;refine⟨_,TU ha hb h1,λσ H Q z9=>z9.el λρ h m ws h' f r e k=>?_⟩;refine bT e λx h3 e1 e2=>?_;refine bT e2 λy h4 e3 e4=>?_;refine bT e3 λx2 h5 e5 e6=>?_;refine bT e6 λy2 h6 e7 e8=>?_;cases y2<;>try cases e8
 cases e4;rename_i ys;exact(.mk f r e1 λv H1 m1 s1 r1 q1=>(.mk (f.stp s1) r1 e5 λv2 H2 m2 s2 r2 q2=>h2 σ H2 _ (.mk ((f.stp s1).stp s2) r2 e7 λps H3 m3 s3 r3 q3=>
  k _ H3 m3 ((s1.trans s2).trans s3) r3 (.cons ((q1.stp s2).stp s3) (q2.stp s3) q3))))
theorem Nl{K:aI}{m:Nat->ai}{n:Nat}{H:Hp}:∀{ps:List (V×V)} {ws:List W} {kws:List (Key×W)},iG K m n H ps ws->wM ws=aC kws->∃kvs:List (Key×V),ps=kvs.map (λkv=>(kV kv.1,kv.2))/\aP K m n H kvs kws
 |_,_,_,.nil,e=>by cases e;exact⟨[],rfl,.nil⟩
 |_,_,_,.cons (a:=a) (v:=v) q1 q2 r,e=>by
  simp only[wM]at e;split at e;rename_i k hk;split at e;rename_i kvs hp;cases e;obtain⟨kv,rfl,r'⟩:=Nl r hp;refine⟨(k,v)::kv,?_,.cons q2 r'⟩;rw[eS,U5 q1 hk];cases e;cases e
noncomputable abbrev BQ(f:FE):FE:=λρ h=>(f ρ h).bind λy h=>match y with
 |.tup ys=>(match wM ys with
  |some kvs=>if Nat.ble kvs.length 15 then .ok (.ref h.n) (h.new (.dk (yV [] kvs)))else .no
  |none=>.no)
 |_=>.no
theorem Vu(hu:X.A.units+2<cLine){keys:List (Option aq)}{values:List aq}(hp:BP X pos keys values fa)(hall:keys.all (·.isSome))(hl:keys.length=values.length)(h0:keys≠[])(Ic:keys.length<=15):SE X (.Dict keys values pos) (BQ fa):=by
 obtain⟨lG,h1,h2⟩:=hp;refine(TV h1 hall hl h0 Ic).imp λσ H Q z9 p hp=>z9.el λρ h m w h' f r e k=>?_;refine bT e λy h3 e1 e2=>?_;cases y<;>try cases e2
 rename_i ys;obtain⟨oG,r0⟩:=r.more (u:=.dK []) hp;refine h2 σ _ _ (.mk (f.stp oG) r0 e1 λps H2 m2 s2 r2 q2=>?_);have hout:=s2.out (r.out hp) fB;have hD:H2 p=aC (.dK []):=s2.keep p _ (r.out hp) fB;refine⟨hD,?_⟩;have e2:(match wM ys with|some kvs=>if Nat.ble kvs.length 15 then Res.ok (W.ref h3.n) (h3.new (.dk (yV [] kvs)))else .no|none=>.no)=.ok w h':=e2
 cases hk:wM ys with
 |none=>rw[hk]at e2;cases e2
 |some kws=>
  rw[hk]at e2;have e2:(if Nat.ble kws.length 15 then Res.ok (W.ref h3.n) (h3.new (.dk (yV [] kws)))else .no)=.ok w h':=e2;by_cases hz:Nat.ble kws.length 15=true;rw[if_pos hz]at e2;cases e2;obtain⟨kvs,e3,q3⟩:=Nl q2 hk;refine⟨kvs,e3,by rw[q3.length];exact kG hz,?_⟩;obtain⟨st,r'⟩:=r2.adopt (o:=.dk (yV [] kws)) (u:=.dK (uw [] kvs)) hout hD (λ_ z=>nomatch z) (λ_ _ z=>nomatch z) (oG.trans s2) hp λ_ mv=>⟨_,.inl fB,(q3.merge .nil).map mv⟩
  refine k _ _ _ st r' ?_;have:aL X.K (λi=>if i=h3.n then p else m2 i) (h3.n+1) (upd H2 p (.dK (uw [] kvs))) (.ref ((λi=>if i=h3.n then p else m2 i) h3.n)) (.ref h3.n):=.ref (pW _);simp only[dH]at this;exact this;rw[if_neg hz]at e2;cases e2
theorem Vv:SE X (.Dict [] [] pos) (BQ rO):=TQ.imp λσ H Q z9 p hp=>z9.el λρ h m w h' f r e k=>by
 cases e;exact aO.dict (ws:=[]) (vs:=[]) k r .nil hp
noncomputable def mU(K:aI)(np:Nat)(g:List W->VH->Res W):Sp:=λvs H Q _=>vs.length=np/\∃h m ws w h',Rel K m h H/\aG K m h.n H vs ws/\g ws h=.ok w h'/\aO K m h.n H w h' Q
theorem Vw{k:Nat}{f:ai}{fd:av}{ps:List Str}{g:List W->VH->Res W}(F:cD X.prog X.w X.K X.mg X.base jJ k f fd ps (mU X.K ps.length g))(hr:bS k X.A)(hg:Gl X x)(hm:X.mg x=aC (.ref f))(hk:PySem.W.keepIn X.K (.ref f)=true)
 (hb:Binds X.K fd ps []) (ha:SA X (e::es) fa) (hs:(e::es).all fJ) (hdb:(x==("__debug__" : Str))=false) (hn:∀ws h w h',g ws h=.ok w h'->ws.length=ps.length):SE X (.Call (.Name x p) (e::es) [] pos) (jW fa g):=by
 rw[kB,aS]at hs;refine(ET F hr hg hm hk hb .nil lD ha hdb (eO hs.1) (qe hs.2)).imp λσ H Q q=>wN (G:=λvs H1 Q=>mU X.K ps.length g (vs++[]) H1 Q E0) (λm h H vs xs w h' Q r q e k=>?_) q;rw[jj];exact⟨by rw[q.length];exact hn _ _ _ _ e,h,m,xs,w,h',r,q,e,k⟩
theorem Vx{k:Nat}{f:ai}{fd:av}{ps:List Str}{g:List W->VH->Res W}(F:cD X.prog X.w X.K X.mg X.base jJ k f fd ps (mU X.K ps.length g))(hr:bS k X.A)(hg:Gl X x)(hm:X.mg x=aC (.ref f))(hk:PySem.W.keepIn X.K (.ref f)=true)
 (hb:Binds X.K fd ps []) (hdb:(x==("__debug__" : Str))=false) (hn:∀ws h w h',g ws h=.ok w h'->ws.length=ps.length):SE X (.Call (.Name x p) [] [] pos) (jW rO g):=by
 refine(RU F hr hg hm hk hb .nil lD hdb).imp λσ H Q z9=>z9.el λρ h m w h' f r e k=>?_;exact⟨hn _ _ _ _ e,h,m,[],w,h',r,.nil,e,k⟩
theorem Vy{k:Nat}{f:ai}{fd:av}{ps:List Str}{g:List W->VH->Res W}(F:cD X.prog X.w X.K X.mg X.base jJ k f fd ps (mU X.K ps.length g))(hr:bS k X.A)(hg:Gl X x)(hm:X.mg x=aC (.ref f))(hk:PySem.W.keepIn X.K (.ref f)=true)
 (hb:Binds X.K fd ps [.none]) (ha:SA X (e::es) fa) (hs:(e::es).all fJ) (hdb:(x==("__debug__" : Str))=false) (hn:∀ws h w h',g ws h=.ok w h'->ws.length=ps.length):SE X (.Call (.Name x p) (e::es) [] pos) (jW fa λws h=>g (ws++[.aN]) h):=by
 rw[kB,aS]at hs;refine(ET F hr hg hm hk hb (nU:=[V.aN]) (.cons rfl .nil) lD ha hdb (eO hs.1) (qe hs.2)).imp λσ H Q q=>wN (G:=λvs H1 Q=>mU X.K ps.length g (vs++[V.aN]) H1 Q E0) (λm h H vs xs w h' Q r q e k=>?_) q;have q':aG X.K m h.n H (vs++[V.aN]) (xs++[W.aN]):=q.append (.cons .aN .nil);exact⟨by rw[q'.length];exact hn _ _ _ _ e,h,m,xs++[W.aN],w,h',r,q',e,k⟩
noncomputable def jv(K:aI)(nx:Nat->VH->Option (Option W))(J:It)(P:(Nat->ai)->Nat->Hp->Prop):Prop:=
 (∀m n H m' n' H',n<=n'->(∀i,i<n->m' i=m i)->(∀b vs,H b=aC (.tup vs)->H' b=aC (.tup vs))->(∀b o u,H b=aC (.cG o u)->H' b=aC (.cG o u))->P m n H->P m' n' H')/\
 ∀m h H,Rel K m h H->P m h.n H->∀i,(∀w,nx i h=aC (aC w)->J.go i H/\∀y H3,J.Au i H y H3->bW m h.n H m h.n H3/\Rel K m h H3/\aL K m h.n H3 y w)/\(nx i h=aC aD->J.stop i H)
noncomputable def fD(K:aI)(kd:Kd)(f:FE):TI:=λσ H R=>∃ρ h m x h',Fr K m h.n H σ ρ/\Rel K m h H/\f ρ h=.ok x h'/\(∃o,bZ kd x 0 h'=aC o)/\
 ∀J P H' m',bW m h.n H m' h'.n H'->Rel K m' h' H'->jv K (bZ kd x) J P->P m' h'.n H'->R J H'
theorem fD.el{K:aI}{σ:L2.St}{H:Hp}{P:Prop}{kd:Kd}{fa:FE}{R}(q:fD K kd fa σ H R)(k:∀ρ h m x h',Fr K m h.n H σ ρ->Rel K m h H->fa ρ h=.ok x h'->∀o,bZ kd x 0 h'=aC o->(∀J P H' m',bW m h.n H m' h'.n H'->Rel K m' h' H'->jv K (bZ kd x) J P->P m' h'.n H'->R J H')->P):P:=by obtain⟨ρ,h,m,w,h',f,r,e,⟨o,eo⟩,k'⟩:=q;exact k ρ h m w h' f r e o eo k'
theorem fD.mk{K:aI}{σ:L2.St}{H:Hp}{m:Nat->ai}{ρ:En}{h h':VH}{x:W}{kd:Kd}{fa:FE}{R}(f:Fr K m h.n H σ ρ)(r:Rel K m h H)(e:fa ρ h=.ok x h')(eo:∃o,bZ kd x 0 h'=aC o)(k:∀J P H' m',bW m h.n H m' h'.n H'->Rel K m' h' H'->jv K (bZ kd x) J P->P m' h'.n H'->R J H'):fD K kd fa σ H R:=⟨ρ,h,m,x,h',f,r,e,eo,k⟩
theorem IL{K:aI}{H H':Hp}{a:ai}{vs:List V}(kt:∀b vs,H b=aC (.tup vs)->H' b=aC (.tup vs))(kf:∀b o u,H b=aC (.cG o u)->H' b=aC (.cG o u))(q:cH K H a vs):cH K H' a vs:=by rcases q with(q|⟨o,q⟩)|q;exact .inl (.inl (kt _ _ q));exact .inl (.inr ⟨o,kf _ _ _ q⟩);exact .inr q
theorem Nm{K:aI}{H H':Hp}{a:ai}{vs:List V}(kf:∀b o u,H b=aC (.cG o u)->H' b=aC (.cG o u))(q:Fz K H a vs):Fz K H' a vs:=by rcases q with⟨o,q⟩|q;exact .inl ⟨o,kf _ _ _ q⟩;exact .inr q
theorem y9{ws:List W}{h:VH}{x:W}{i:Nat}{o:Option W}(e:aQ h x=aC ws)(q:bZ .seq x i h=aC o):ws[i]?=o:=by simp only[bZ,e]at q;cases q;rfl
theorem Vz{K:aI}{a:ai}{vs:List V}{ws:List W}:jv K (bZ .seq (.tup ws)) (G0 K a) (λm n H=>cH K H a vs/\aG K m n H vs ws):=by refine⟨λm n H m' n' H' hn hm kt kf ⟨q1,q2⟩=>⟨IL kt kf q1,q2.mono hn hm kt kf⟩,λm h H r ⟨q1,q2⟩ i=>⟨λw e=>?_,λe=>?_⟩⟩;have e:=y9 (ws:=ws) rfl e;obtain⟨v,h1,h2⟩:=q2.get e;refine⟨⟨vs,v,q1,h1⟩,λy H3 ⟨e3,y3⟩=>?_⟩;subst e3;have:=y3 vs q1;rw[h1]at this;cases this;exact⟨.refl,r,h2⟩;have e:=y9 (ws:=ws) rfl e;exact⟨vs,q1,by rw[q2.length];exact tT.mp e⟩
theorem BR{K:aI}{a:ai}{vs:List V}{ws:List W}:jv K (bZ .seq (.fz ws)) (EM K a) (λm n H=>Fz K H a vs/\aG K m n H vs ws):=by refine⟨λm n H m' n' H' hn hm kt kf ⟨q1,q2⟩=>⟨Nm kf q1,q2.mono hn hm kt kf⟩,λm h H r ⟨q1,q2⟩ i=>⟨λw e=>?_,λe=>?_⟩⟩;have e:=y9 (ws:=ws) rfl e;obtain⟨v,h1,h2⟩:=q2.get e;refine⟨⟨vs,v,q1.sq,h1⟩,λy H3 ⟨e3,y3⟩=>?_⟩;subst e3;have:=y3 vs q1.sq;rw[h1]at this;cases this;exact⟨.refl,r,h2⟩;have e:=y9 (ws:=ws) rfl e;exact⟨vs,q1.sq,by rw[q2.length];exact tT.mp e⟩
theorem VA{K:aI}{a:ai}{l:Nat}:jv K (bZ .seq (.ref l)) (EM K a) (λm n H=>l<n/\a=m l):=by
 refine⟨λm n H m' n' H' hn hm kt kf ⟨q1,q2⟩=>⟨eN q1 hn,by rw[hm l q1];exact q2⟩,λm h H r ⟨q1,q2⟩ i=>?_⟩;subst q2;cases g:h.get l with
 |none=>exact⟨λw e=>by simp[bZ,aQ,g]at e,λe=>by simp[bZ,aQ,g]at e⟩
 |some o=>
  cases o with
  |dk _=>exact⟨λw e=>by simp[bZ,aQ,g]at e,λe=>by simp[bZ,aQ,g]at e⟩
  |lst ws=>
   have hs:aQ h (.ref l)=aC ws:=by simp[aQ,g]
   obtain⟨vs,p1,p2⟩:=r.lst g;refine⟨λw e=>?_,λe=>?_⟩;have e:=y9 hs e;obtain⟨v,h1,h2⟩:=p2.get e;refine⟨⟨vs,v,cN.of p1,h1⟩,λy H3 ⟨e3,y3⟩=>?_⟩;subst e3;have:=y3 vs (cN.of p1);rw[h1]at this;cases this;exact⟨.refl,r,h2⟩;have e:=y9 hs e;exact⟨vs,cN.of p1,by rw[p2.length];exact tT.mp e⟩
theorem VB{K:aI}{kd:Kd}{x:W}{lo:Int}{k:Nat}(hx:∀i h,bZ kd x i h=aC (if i<k then aC (.int (lo+i))else aD)):jv K (bZ kd x) (EN lo k) (λ_ _ _=>True):=by refine⟨λ_ _ _ _ _ _ _ _ _ _ _=>trivial,λm h H r _ i=>⟨λw e=>?_,λe=>?_⟩⟩;rw[hx]at e;split at e;rename_i hi;cases e;refine⟨hi,λy H3 ⟨e3,y3⟩=>?_⟩;subst e3 y3;exact⟨.refl,r,.int _⟩;cases e;rw[hx]at e;split at e;cases e;rename_i hi;exact jH.mp hi
theorem Nn{tg:aq}(ha:SE X e fa):PI X tg e (fD X.K .seq fa):=λpins s σ H R I z9=>z9.el λρ h m x h' f r ee o en k=>by
 have hs:∃ws,aQ h' x=aC ws:=by
  cases z:aQ h' x with|none=>simp[bZ,z]at en|some ws=>exact⟨ws,rfl⟩
 obtain⟨ws,hs⟩:=hs;cases x<;>try cases hs
 exact Rf ha pins s σ H R I (.mk f r ee λv H' m' s' r' q=>by
  cases q with|tup sq rs=>exact⟨_,rfl,⟨_,sq⟩,k _ _ H' m' s' r' Vz ⟨sq,rs⟩⟩)
 exact LK ha pins s σ H R I (.mk f r ee λv H' m' s' r' q=>by
  cases q with|fz sq rs=>exact⟨_,rfl,⟨_,sq.sq⟩,k _ _ H' m' s' r' BR ⟨sq,rs⟩⟩)
 rename_i l;exact LK ha pins s σ H R I (.mk f r ee λv H' m' s' r' q=>by
  obtain⟨p,vs,e1,e2,e3⟩:=yX r' q hs;cases q with
  |ref hi=>
   cases g:h'.get l with
   |none=>simp[aQ,g]at hs
   |some ob=>
    cases ob with
    |dk _=>simp[aQ,g]at hs
    |lst Np=>
     obtain⟨vs',p1,_⟩:=r'.lst g;exact⟨_,rfl,⟨_,cN.of p1⟩,k _ _ H' m' s' r' VA ⟨hi,rfl⟩⟩)
theorem VC{tg:aq}(ha:SA X [e] fa)(hs:fJ e)(hg:Gl X "range")(hm:X.mg "range" = aD):PI X tg (.Call (.Name "range" p) [e] [] pos) (fD X.K .eW fa):=λpins s σ H R I z9=>z9.el λρ h m x h' f r ee o en k=>by
 simp only[bZ]at en;split at en;rename_i j;split at en;rename_i hf;refine Rh hg hm ha (eO hs) pins s σ H R I (.mk f r ee λvs H' m' s' r' q=>?_);obtain⟨v,rfl,q1⟩:=gF q;cases q1;refine⟨_,rfl,(ID hf).1,(ID hf).2,k _ _ H' m' s' r' (VB λi h=>?_) trivial⟩;simp only[bZ,hf,dH];split<;>split<;>first|rfl|(exfalso;simp at *;lia)
 cases en;cases en
theorem VD{elts:List aq}{kx:Nat}{tp:Pos}{l:aq}{ta:TA}(hg:Gl X "enumerate")(hm:X.mg "enumerate" = aD)(hv:bootBuiltins "enumerate" = aC (.type "enumerate"))(ha:PA X [l] ta)(hs:starEach [l] X.env=[(false,eval l X.env)]) :
 PI X (.Tuple elts kx tp) (.Call (.Name "enumerate" p) [l] [] pos) (λσ H R=>ta σ H λvs H1=>∃a,vs=[.ref a]/\(∃xs,cH X.K H1 a xs)/\R (wC X.K a) H1):=by
 intro pins s σ H R I h;refine Call_ (yJ I hg hm hv (vcs (aY (ha pos pins s σ H _ I h) λus s1 ⟨vs,H1,I1,r1,q1⟩=>?_) hs rfl));obtain⟨a,e,⟨xs,hq⟩,q⟩:=q1;subst e;obtain⟨u,rfl,ru⟩:=vals1 r1;cases ru;obtain⟨its,rv,pl,hz⟩:=I1.tuple hq;have pl:s1.heap.IsTuple a its.toArray:=pl;have hlt:a<s1.heap.objs.size:=by obtain⟨o,q,_⟩:=pl;exact cF q
 refine Tt pl λh' he hit hsz kk=>wpAny_pyIter_enum he ?_;have hf:∀b,s1.heap.objs.size<=b->fV X pins H1 b:=λb hb=>I1.mG hb (I1.hok.fresh hb);refine⟨s1.heap.objs.size+1,[s1.heap.objs.size+1,s1.heap.objs.size],_,_,H1,rfl,I1.kept (t':=s1.toks) kk,Tu a _ _ (lg (pW _)) (eB (Ew hlt)) (eB hlt),⟨⟨_,he⟩,hit⟩,λb hb=>hf b ?_,q⟩;rcases iQ.mp hb with rfl|hb
 exact vec _;have e':b=s1.heap.objs.size:=by simpa using hb
 rw[e'];exact aZ _
theorem Nq{ws:List W}{h:VH}{i:Nat}{o:Option W}(q:bZ .mQ (.tup ws) i h=aC o):o=(ws[i]?).map λw=>.tup [.int i,w]:=by cases q;rfl
theorem VE{K:aI}{a:ai}{vs:List V}{ws:List W}:jv K (bZ .mQ (.tup ws)) (wC K a) (λm n H=>cH K H a vs/\aG K m n H vs ws):=by
 refine⟨λm n H m' n' H' hn hm kt kf ⟨q1,q2⟩=>⟨IL kt kf q1,q2.mono hn hm kt kf⟩,λm h H r ⟨q1,q2⟩ i=>⟨λw e=>?_,λe=>?_⟩⟩;have e:=Nq (ws:=ws) e;cases z:ws[i]? with
 |none=>rw[z]at e;cases e
 |some w0=>
  rw[z]at e;cases e;obtain⟨v,h1,h2⟩:=q2.get z;refine⟨⟨vs,v,q1,h1⟩,λy H3 ⟨T,v3,e1,e2,e3,y3⟩=>?_⟩;subst e1 e3;have:=y3 vs q1;rw[h1]at this;cases this;obtain⟨st,r'⟩:=r.more (u:=.tup [.int i,v]) e2;exact⟨st,r',.tup (cH.of fB) (.cons (.int _) (.cons (h2.stp st) .nil))⟩
 have e:=Nq (ws:=ws) e;cases z:ws[i]? with|some w0=>rw[z]at e;cases e|none=>exact⟨vs,q1,by rw[q2.length];exact tT.mp z⟩
theorem VF:bootBuiltins "enumerate" = aC (.type "enumerate"):=by decide +kernel
theorem VG(ha:SE X e fa)(hs:fJ e):PA X [e] (λσ H Q=>iu X.K fa σ H λv H1=>Q [v] H1):=λp pins s σ H Q I q=>by
 refine nA ha pZ (eO hs) p pins s σ H Q I ?_;refine q.el λρ h m w h' f r ee k=>?_;exact(.mk f r ee λv H' m' s' r' q'=>k v H' m' s' r' q')
theorem VI{elts:List aq}{kx:Nat}{tp:Pos}(ha:SE X e fa)(hs0:fJ e)(hg:Gl X "enumerate")(hm:X.mg "enumerate" = aD):PI X (.Tuple elts kx tp) (.Call (.Name "enumerate" p) [e] [] pos) (fD X.K .mQ fa):=λpins s σ H R I z9=>z9.el λρ h m x h' f r ee o en k=>by
 cases x with
 |tup ws=>exact VD hg hm VF (VG ha hs0) (eO hs0) pins s σ H R I ⟨ρ,h,m,_,h',f,r,ee,λv H' m' s' r' q=>by
  cases q with|tup sq rs=>exact⟨_,rfl,⟨_,sq⟩,k _ _ H' m' s' r' VE ⟨sq,rs⟩⟩⟩
 |_=>cases en
theorem VJ{elts:List aq}{kx:Nat}{tp:Pos}{l l2:aq}{ta:TA}(hg:Gl X "zip")(hm:X.mg "zip" = aD)(ha:PA X [l,l2] ta)(hs:starEach [l,l2] X.env=[(false,eval l X.env),(false,eval l2 X.env)])(hs2:starEach [l2] X.env=[(false,eval l2 X.env)]) :
 PI X (.Tuple elts kx tp) (.Call (.Name "zip" p) [l,l2] [] pos) (λσ H R=>ta σ H λvs H1=>∃b c a1 a2,vs=[.ref a1,.ref a2]/\(∃xs,mP b X.K H1 a1 xs)/\(∃ys,mP c X.K H1 a2 ys)/\R (wG X.K b c a1 a2) H1):=by
 intro pins s σ H R I h;refine Call_ (yJ I hg hm PyProof.Rows.boot_zip (vcs (aY (ha pos pins s σ H _ I h) λus s1 ⟨vs,H1,I1,r1,q1⟩=>?_) (by rw[hs,hs2]) (by rw[hs2];rfl)));obtain⟨b,c,a1,a2,e,⟨xs,hq⟩,⟨ys,hr⟩,q⟩:=q1;subst e;cases r1 with
 |cons r rr=>
  cases rr with
  |cons r' rr=>
   cases rr;cases r;cases r';obtain⟨its,_,pl,_⟩:=yS I1 hq;obtain⟨M1,_,Nr,_⟩:=yS I1 hr;refine Ur pl Nr λh' e1 e2 e3 e4 e5 hsz kk=>wpAny_pyIter_zip e1 ?_;have hf:∀b,s1.heap.objs.size<=b->fV X pins H1 b:=λb hb=>I1.mG hb (I1.hok.fresh hb);refine⟨s1.heap.objs.size+4,_,_,_,H1,rfl,I1.kept (t':=s1.toks) kk,Us a1 a2 _ _ _ _ _ (Ud pl.lt Nr.lt),⟨e1,e2,⟨_,_,e3⟩,e4,e5⟩,λb hb=>hf b ?_,q⟩;simp only[iQ,Es,or_false]at hb;rcases hb with rfl|rfl|rfl|rfl|rfl
   exact zU _ _;exact zU _ _;exact zU _ _;exact aZ _;exact zU _ _
noncomputable def Src(K:aI)(b:Bool)(a:ai)(u:W)(P:(Nat->ai)->Nat->Hp->Prop):Prop:=
 (∀m n H m' n' H',n<=n'->(∀i,i<n->m' i=m i)->(∀b vs,H b=aC (.tup vs)->H' b=aC (.tup vs))->(∀b o u,H b=aC (.cG o u)->H' b=aC (.cG o u))->P m n H->P m' n' H')/\
 ∀m h H ws,Rel K m h H->P m h.n H->aQ h u=aC ws->∃vs,mP b K H a vs/\aG K m h.n H vs ws
theorem Nu{K:aI}{m:Nat->ai}{h:VH}{H:Hp}{v:V}{u:W}{ws:List W}(r:Rel K m h H)(q:aL K m h.n H v u)(e:aQ h u=aC ws):∃b a P,v=.ref a/\Src K b a u P/\P m h.n H/\∃xs,mP b K H a xs:=by
 cases q with
 |aN=>cases e
 |bl b=>cases e
 |int b=>cases e
 |str b=>cases e
 |bN _=>cases e
 |tup sq rs=>exact⟨true,_,λm n H=>cH K H _ _/\aG K m n H _ _,rfl,⟨λm n H m' n' H' hn hm kt kf ⟨q1,q2⟩=>⟨IL kt kf q1,q2.mono hn hm kt kf⟩,λm h H ws _ ⟨q1,q2⟩ z=>by cases z;exact⟨_,q1,q2⟩⟩,⟨sq,rs⟩,_,sq⟩
 |fz sq rs=>exact⟨false,_,λm n H=>Fz K H _ _/\aG K m n H _ _,rfl,⟨λm n H m' n' H' hn hm kt kf ⟨q1,q2⟩=>⟨Nm kf q1,q2.mono hn hm kt kf⟩,λm h H ws _ ⟨q1,q2⟩ z=>by cases z;exact⟨_,q1.sq,q2⟩⟩,⟨sq,rs⟩,_,sq.sq⟩
 |ref hi=>
  rename_i l;have key:∀m (h:VH) H ws,Rel K m h H->aQ h (.ref l)=aC ws->∃vs,H (m l)=aC (.lst vs)/\aG K m h.n H vs ws:=λm h H ws r z=>by
   cases g:h.get l with
   |none=>simp[aQ,g]at z
   |some o=>
    cases o with
    |dk _=>simp[aQ,g]at z
    |lst Np=>
     have:Np=ws:=by simpa[aQ,g]using z
     subst this;exact r.lst g
  obtain⟨vs,p1,_⟩:=key m h H ws r e;refine⟨false,_,λm' n _=>l<n/\m l=m' l,rfl,⟨λm1 n H m' n' H' hn hm kt kf ⟨q1,q2⟩=>⟨eN q1 hn,by rw[hm l q1];exact q2⟩,λm1 h H ws r' ⟨q1,q2⟩ z=>?_⟩,⟨hi,rfl⟩,vs,cN.of p1⟩;obtain⟨vs,g1,g2⟩:=key m1 h H ws r' z;rw[q2];exact⟨vs,cN.of g1,g2⟩
theorem IM{u v:W}{h:VH}{i:Nat}{o:Option W}(q:bZ .zip (.tup [u,v]) i h=aC o):∃ws zs,aQ h u=aC ws/\aQ h v=aC zs/\o=(match ws[i]?,zs[i]? with|some a,aC b=>aC (.tup [a,b])|_,_=>aD):=by simp only[bZ]at q;split at q;rename_i ws zs h1 h2;cases q;exact⟨ws,zs,h1,h2,rfl⟩;cases q
theorem VL{K:aI}{b c:Bool}{a1 a2:ai}{u v:W}{P1 P2:(Nat->ai)->Nat->Hp->Prop}(s1:Src K b a1 u P1)(s2:Src K c a2 v P2):jv K (bZ .zip (.tup [u,v])) (wG K b c a1 a2) (λm n H=>P1 m n H/\P2 m n H):=by
 refine⟨λm n H m' n' H' hn hm kt kf ⟨q1,q2⟩=>⟨s1.1 m n H m' n' H' hn hm kt kf q1,s2.1 m n H m' n' H' hn hm kt kf q2⟩,λm h H r ⟨q1,q2⟩ i=>⟨λw e=>?_,λe=>?_⟩⟩;obtain⟨ws,zs,e1,e2,e3⟩:=IM e;obtain⟨xs,g1,g2⟩:=s1.2 m h H ws r q1 e1;obtain⟨ys,g3,g4⟩:=s2.2 m h H zs r q2 e2;cases z1:ws[i]? with
 |none=>rw[z1]at e3;cases e3
 |some w1=>
  cases z2:zs[i]? with
  |none=>rw[z1,z2]at e3;cases e3
  |some w2=>
   rw[z1,z2]at e3;cases e3;obtain⟨v1,k1,k2⟩:=g2.get z1;obtain⟨v2,k3,k4⟩:=g4.get z2;refine⟨⟨xs,ys,v1,v2,g1,g3,k1,k3⟩,λy H3 ⟨T,x3,y3,f1,f2,f3,f4,f5⟩=>?_⟩;subst f1 f3;have t1:=f4 xs g1;have t2:=f5 ys g3;rw[k1]at t1;cases t1;rw[k3]at t2;cases t2;obtain⟨st,r'⟩:=r.more (u:=.tup [v1,v2]) f2;exact⟨st,r',.tup (cH.of fB) (.cons (k2.stp st) (.cons (k4.stp st) .nil))⟩
 obtain⟨ws,zs,e1,e2,e3⟩:=IM e;obtain⟨xs,g1,g2⟩:=s1.2 m h H ws r q1 e1;obtain⟨ys,g3,g4⟩:=s2.2 m h H zs r q2 e2;refine⟨xs,ys,g1,g3,?_⟩;cases z1:ws[i]? with
 |none=>exact .inl (by rw[g2.length];exact tT.mp z1)
 |some w1=>
  cases z2:zs[i]? with|none=>exact .inr (by rw[g4.length];exact tT.mp z2)|some w2=>rw[z1,z2]at e3;cases e3
theorem VM{elts:List aq}{kx:Nat}{tp:Pos}(ha:SA X [a,b] fa)(hs:fJ a)(hs2:fJ b)(hg:Gl X "zip")(hm:X.mg "zip" = aD):PI X (.Tuple elts kx tp) (.Call (.Name "zip" p) [a,b] [] pos) (fD X.K .zip fa):=λpins s σ H R I z9=>z9.el λρ h m x h' f r ee o en k=>by
 have hx:∃u v,x=.tup [u,v]:=by simp only[bZ]at en;split at en;exact⟨_,_,rfl⟩;cases en
 obtain⟨u,v,rfl⟩:=hx;obtain⟨ws,zs,e1,e2,_⟩:=IM en;refine VJ hg hm ha (by rw[eO hs,eO hs2];rfl) (eO hs2) pins s σ H R I (.mk f r ee λvs H' m' s' r' q=>?_);obtain⟨v1,v2,rfl,q1,q2⟩:=oB q;obtain⟨b1,a1,P1,rfl,o1,p1,x1⟩:=Nu r' q1 e1;obtain⟨b2,a2,P2,rfl,o2,p2,x2⟩:=Nu r' q2 e2;exact⟨b1,b2,a1,a2,rfl,x1,x2,k _ _ H' m' s' r' (VL o1 o2) ⟨p1,p2⟩⟩
end
section
variable{X:Cx}{a b c e o:aq}{es:List aq}{fa fb fc fo fr:FE}{pos p:Pos}{x:Str}
noncomputable def gB(K:aI)(t:Tg):TG:=λv σ H Q=>∃ρ h m w ρ',Fr K m h.n H σ ρ/\Rel K m h H/\aL K m h.n H v w/\bH t w h ρ=aC ρ'/\∀σ',Fr K m h.n H σ' ρ'->Q σ' H
theorem gB.el{K:aI}{v:V}{σ:L2.St}{H:Hp}{P:Prop}{tg:Tg}{Q}(q:gB K tg v σ H Q)(k:∀ρ h m w ρ',Fr K m h.n H σ ρ->Rel K m h H->aL K m h.n H v w->bH tg w h ρ=aC ρ'->(∀σ',Fr K m h.n H σ' ρ'->Q σ' H)->P):P:=by obtain⟨ρ,h,m,w,h',f,r,e,eo,k'⟩:=q;exact k ρ h m w h' f r e eo k'
theorem gB.mk{K:aI}{v:V}{σ:L2.St}{H:Hp}{m:Nat->ai}{ρ ρ':En}{h:VH}{w:W}{tg:Tg}{Q}(f:Fr K m h.n H σ ρ)(r:Rel K m h H)(e:aL K m h.n H v w)(eo:bH tg w h ρ=aC ρ')(k:∀σ',Fr K m h.n H σ' ρ'->Q σ' H):gB K tg v σ H Q:=⟨ρ,h,m,w,ρ',f,r,e,eo,k⟩
theorem VN{i:Nat}(hN:X.N.Nodup)(hi:X.N[i]?=aC x)(hx:Loc X.env.scope x)(hf:X.fn x=true\/X.env.scope.names.lookup x=aC .local):PG X (.Name x pos) (gB X.K (.one i)):=λpins s σ H v u Q I ru z9=>z9.el λρ h m w ρ' f r q e k=>by
 cases e;exact LI hN hi hx hf pins s σ H v u Q I ru (k _ (f.set q i))
noncomputable def oH(X:Cx)(e:aq)(i:Nat):Prop:=∃x p,e=.Name x p/\X.N[i]?=aC x/\Loc X.env.scope x/\(X.fn x=true\/X.env.scope.names.lookup x=aC .local)
noncomputable def BS(K:aI)(is:List Nat):qY:=λvs σ H Q=>∃ρ m n ws ρ',Fr K m n H σ ρ/\aG K m n H vs ws/\ir is ws ρ=aC ρ'/\∀σ',Fr K m n H σ' ρ'->Q σ' H
theorem Nv(hN:X.N.Nodup):∀{es:List aq} {is:List Nat},Paired (oH X) es is->yK X es (BS X.K is)/\(assignEach es X.env).length=es.length/\(assignEach es X.env).findIdx? (·.1)=aD
 |_,_,.nil=>by
  refine⟨λpins s σ H vs us Q I ru ⟨ρ,m,n,ws,ρ',f,q,e,k⟩=>?_,rfl,rfl⟩;cases ws with|nil=>cases e;cases q;exact QZ pins s σ H [] us Q I ru ⟨rfl,k _ f⟩|cons _ _=>cases e
 |e::es,i::is,.cons ⟨x,p,he,hi,hx,hf⟩ t=>by
  subst he;obtain⟨h1,h2,h3⟩:=Nv hN t;refine⟨λpins s σ H vs us Q I ru ⟨ρ,m,n,ws,ρ',f,q,e,k⟩=>?_,?_,?_⟩;cases q with
  |nil=>cases e
  |cons q qs=>
   exact Q0 (LI hN hi hx hf) h1 rfl pins s σ H _ us Q I ru ⟨_,_,rfl,ρ.set i (aC _),m,n,_,ρ',f.set q i,qs,e,k⟩
  show(assignEach es X.env).length+1=es.length+1;rw[h2];show List.findIdx? _ ((false,_)::assignEach es X.env)=aD;rw[List.findIdx?_cons,h3];rfl
theorem Nx:∀{is:List Nat} {ws:List W} {ρ ρ':En},ir is ws ρ=aC ρ'->ws.length=is.length
 |[],[],_,_,_=>rfl
 |[],_::_,_,_,e=>by cases e
 |_::_,[],_,_,e=>by cases e
 |_::_,_::_,_,_,e=>by
  rw[eK,eK,Nx (by simpa only[ir]using e)]
theorem VP{t:qY}{n k:Nat}(hc:X.calm)(h:yK X es t)(hn:(assignEach es X.env).length=n)(hst:(assignEach es X.env).findIdx? (·.1)=aD) :
 PG X (.Tuple es k pos) (λv σ H Q=>∃a xs,v=.ref a/\cN X.K H a xs/\xs.length=n/\t xs σ H Q):=by
 intro pins s σ H v u Q I r hw;obtain⟨a,xs,rfl,hq,hl,hw⟩:=hw;cases r;obtain⟨its,rv,ht,hz⟩:=I.list hq;rw[assign_Tuple];refine aJ (jF ?_);unfold unpack;have hsz:(assignEach es X.env).length=its.toArray.size:=by rw[hn,<-hl,rv.length,dR]
 rw[hst,hsz];refine aJ (jE (PySem.W.kun_itemsOf (I.ok.hd hc) ht.isList λh' hx=>?_));have I1:Inv X pins σ H {s with heap:=h'}:=I.kept (t':=s.toks) λb o e=>hx b o (eB (cF e)) e;exact h pins _ σ H xs _ Q I1 (by simpa using rv) hw
theorem Ny{is:List Nat}{k:Nat}(hc:X.calm)(hN:X.N.Nodup)(hs:Paired (oH X) es is):PG X (.Tuple es k pos) (gB X.K (.many is)):=λpins s σ H v u Q I ru z9=>z9.el λρ h m w ρ' f r q e k=>by
 obtain⟨h1,h2,h3⟩:=Nv hN hs;simp only[bH]at e;cases z:aQ h w with
 |none=>rw[z]at e;cases e
 |some ws=>
  rw[z]at e;have e:ir is ws ρ=aC ρ':=e;obtain⟨p,vs,rfl,hq,qs⟩:=yX r q z;have hl:vs.length=es.length:=by rw[qs.length,Nx e,hs.length]
  rcases hq with hq|hq;exact VP hc h1 h2 h3 pins s σ H _ u Q I ru ⟨p,vs,rfl,hq,hl,ρ,m,h.n,ws,ρ',f,qs,e,k⟩;exact Q2 hc h1 h2 h3 pins s σ H _ u Q I ru ⟨p,vs,rfl,hq,hl,ρ,m,h.n,ws,ρ',f,qs,e,k⟩
theorem VQ{K:aI}{m:Nat->ai}{n:Nat}{H:Hp}{σ:L2.St}{ρ:En}{ow fr:List Str}{ix:List Nat}(f:Fr K m n H σ ρ):Fr K m n H (mK ow fr ix σ) (inner ow.length ix ρ):=by
 unfold mK inner;refine⟨by simp,λi w e=>?_⟩;by_cases hi:i<ow.length;rw[yu (by simpa using hi)]at e;rw[Ei]at e;split at e<;>cases e;rw[vM (by simpa using jH.mp hi)]at e;rw[vM (by simpa using jH.mp hi)];simp only[iw,bQ]at e ⊢;rw[mz]at e ⊢;cases z:ix[i-ow.length]? with
 |none=>rw[z]at e;cases e
 |some j=>
  rw[z]at e;simp only[qS,Option.some.injEq]at e ⊢;have e3:ρ[j]?=aC (aC w):=by
   cases q:ρ[j]? with|none=>rw[q]at e;cases e|some o=>rw[q]at e;rw[<-e];rfl
  obtain⟨v,h1,h2⟩:=f.val j w e3;exact⟨v,by rw[h1];rfl,h2⟩
theorem IP{nx:Nat->VH->Option (Option W)}{tg:W->VH->En->Option En}{c e:FE}:∀{f i:Nat} {ρ:En} {h:VH} {acc ys:List W} {h':VH},gE nx tg c e f i ρ h acc=.ok ys h'->acc.length<=ys.length
 |0,_,_,_,_,_,_,q=>by cases q
 |f+1,i,ρ,h,acc,ys,h',q=>by
  simp only[gE]at q;split at q;cases q;cases q;simp;split at q;cases q;refine bT q λb h1 e1 e2=>?_;split at e2;refine bT e2 λy h2 e3 e4=>?_;have:=IP e4;rw[eK]at this;lia;exact IP e2;cases e2
theorem VR{nx:Nat->VH->Option (Option W)}{tg:W->VH->En->Option En}{c e:FE}{f i:Nat}{ρ:En}{h:VH}{acc ys:List W}{h':VH}(q:gE nx tg c e (f+1) i ρ h acc=.ok ys h'):∃o,nx i h=aC o:=by simp only[gE]at q;split at q;cases q;exact⟨_,by assumption⟩;exact⟨_,by assumption⟩
theorem VS{H:Hp}{a:ai}{o:HO}(h:H a=aC o):upd H a o=H:=by funext b;unfold upd;split;rename_i e;rw[e,h];rfl
noncomputable abbrev IQ(kd:Kd)(fa:FE)(t:Tg)(ow:Nat)(ix:List Nat)(fc fe:FE):FE:=λρ h=>(fa ρ h).bind λx h=>(gE (bZ kd x) (bH t) fc fe fuel 0 (inner ow ix ρ) h []).bind λys h=>if Nat.ble ys.length big then .ok (.ref h.n) (h.new (.lst ys))else .no
theorem uA{K:aI}{kd:Kd}{t:Tg}{ow fr:List Str}{ix:List Nat}{fe:FE}{σ:L2.St}{H:Hp}{Q:VK}(q:iu K (IQ kd fa t ow.length ix fc fe) σ H Q):HJ K (mK ow fr ix) (fD K kd fa) (gB K t) (gW K fc) (iu K fe) σ H Q:=by
 refine q.el λρ h m w h' f r e k=>?_;refine bT e λx h1 e1 e2=>?_;refine bT e2 λys h2 e3 e4=>?_;split at e4
 case isFalse=>cases e4
 rename_i hz;cases e4;have hz:=kG hz;refine(.mk f r e1 ?_ λJ P H1 m1 s1 r1 J1 p1 D hD hK=>?_);exact VR (f:=999999) e3;obtain⟨oG,r0⟩:=r1.more (u:=.lst []) hD;have p0:=J1.1 m1 h1.n H1 m1 h1.n (upd H1 D (.lst [])) (aZ _) (λ_ _=>rfl) (λb vs q=>oG.tup b vs q) (λb o u q=>oG.cG b o u q) p1;refine⟨λi fl σ' H' vs=>∃ρ' h3 m3 acc,gE (bZ kd x) (bH t) fc fe fl i ρ' h3 acc=.ok ys h2/\Fr K m3 h3.n H' σ' ρ'/\Rel K m3 h3 H'/\H' D=aC (.lst vs)/\aG K m3 h3.n H' vs acc.reverse/\(∀i,i<h3.n->m3 i≠D)/\bW m1 h1.n H1 m3 h3.n H'/\P m3 h3.n H',
  ⟨fuel,inner ow.length ix ρ,h1,m1,[],e3,VQ ((f.stp s1).stp oG),r0,fB,.nil,r1.out hD,oG,p0⟩,?_⟩
 rintro i fl σ' H' vs ⟨ρ',h3,m3,acc,e5,f3,r3,d3,q3,o3,s3,p3⟩;refine⟨d3,?_⟩;cases fl with
 |zero=>cases e5
 |succ fl=>
  simp only[gE]at e5;obtain⟨j1,j2⟩:=J1.2 m3 h3 H' r3 p3 i;split at e5;cases e5;rename_i hn;cases e5;refine .inl ⟨j2 hn,?_⟩;obtain⟨st,r'⟩:=r3.adopt (o:=.lst acc.reverse) (u:=.lst vs) o3 d3 (λ_ z=>nomatch z) (λ_ _ z=>nomatch z) (s1.trans s3) (by
   cases z:H D with
   |none=>rfl
   |some o=>
    have:=s1.keep D o (λi hi z2=>(r1.out hD) i (eN hi s1.le) ((s1.same i hi).trans z2)) z;rw[hD]at this;cases this) λ_ mv=>⟨_,fB,q3.map mv⟩
  rw[VS d3]at st r';refine k _ _ _ st r' ?_;have:aL K (λi=>if i=h2.n then D else m3 i) (h2.n+1) H' (.ref ((λi=>if i=h2.n then D else m3 i) h2.n)) (.ref h2.n):=.ref (pW _);simp only[dH]at this;exact this;rename_i w hn;obtain⟨j3,j4⟩:=j1 w hn;refine .inr ⟨j3,λy H4 hy=>?_⟩;obtain⟨s4,r4,q4⟩:=j4 y H4 hy;split at e5;cases e5;rename_i BU ht;refine⟨ρ',h3,m3,w,BU,f3.stp s4,r4,q4,ht,λyO f5=>?_⟩;refine bT e5 λbv h6 e6 e7=>?_;have d4:H4 D=aC (.lst vs):=s4.keep D _ o3 d3;have Nz:=s3.trans s4;have p4:=J1.1 m3 h3.n H' m3 h3.n H4 (aZ _) (λ_ _=>rfl) (λb vs q=>s4.tup b vs q) (λb o u q=>s4.cG b o u q) p3;cases bv<;>try cases e7
  rename_i bb;refine⟨BU,h3,m3,bb,h6,f5,r4,e6,λH6 m6 s6 r6=>?_⟩;have o6:=s6.out o3 d4;have d6:H6 D=aC (.lst vs):=s6.keep D _ o3 d4;have p6:=J1.1 m3 h3.n H4 m6 h6.n H6 s6.le s6.same (λb vs q=>s6.tup b vs q) (λb o u q=>s6.cG b o u q) p4;cases bb with
  |false=>
   simp only[fS,fy];exact⟨fl,pW _,BU,h6,m6,acc,e7,f5.stp s6,r6,d6,(q3.stp s4).stp s6,o6,Nz.trans s6,p6⟩
  |true=>
   simp only[dH];refine bT e7 λy7 h7 e8 e9=>?_;refine⟨BU,h6,m6,y7,h7,f5.stp s6,r6,e8,λv7 H7 m7 s7 r7 q7=>?_⟩;have o7:=s7.out o6 d6;have d7:H7 D=aC (.lst vs):=s7.keep D _ o6 d6;have p7:=J1.1 m6 h6.n H6 m7 h7.n H7 s7.le s7.same (λb vs q=>s7.tup b vs q) (λb o u q=>s7.cG b o u q) p6;have NB:=((q3.stp s4).stp s6).stp s7;have hlen:=IP e9;rw[eK]at hlen;refine⟨d7,?_,fl,pW _,BU,h7,m7,y7::acc,e9,?_⟩;rw[NB.length,List.length_reverse];have:big=sizeLine:=rfl;lia;obtain⟨VT,r8,mv⟩:=r7.side (u:=.lst (vs++[v7])) d7 (λ_ z=>nomatch z) (λ_ _ z=>nomatch z) o7 ((Nz.trans s6).trans s7) hD;have kt:∀b us,H7 b=aC (.tup us)->upd H7 D (.lst (vs++[v7])) b=aC (.tup us):=λb us q=>by rw[bX (eT q d7 λz=>nomatch z)];exact q
   have kf:∀b o u,H7 b=aC (.cG o u)->upd H7 D (.lst (vs++[v7])) b=aC (.cG o u):=λb o u q=>by rw[bX (eT q d7 λz=>nomatch z)];exact q
   refine⟨⟨(f5.stp s6).len,λi w e=>let⟨v,h1,h2⟩:=((f5.stp s6).stp s7).val i w e;⟨v,h1,mv h2⟩⟩,r8,fB,?_,o7,VT,J1.1 m7 h7.n H7 m7 h7.n _ (aZ _) (λ_ _=>rfl) kt kf p7⟩;rw[List.reverse_cons];exact(NB.map mv).append (.cons (mv q7) .nil)
end
noncomputable def fE(h h':VH):Prop:=h.n<=h'.n/\h'.lo<=h.lo/\∀i,i<h.n->i<h'.lo->h'.get i=h.get i
theorem fE.refl{h:VH}:fE h h:=⟨aZ _,aZ _,λ_ _ _=>rfl⟩
theorem fE.trans{h h1 h2:VH}(a:fE h h1)(b:fE h1 h2):fE h h2:=⟨gu a.1 b.1,gu b.2.1 a.2.1,λi hi hl=>(b.2.2 i (eN hi a.1) hl).trans (a.2.2 i hi (eN hl b.2.1))⟩
theorem fE.new{h:VH}{o:VO}:fE h (h.new o):=⟨vec _,aZ _,λi hi _=>ju hi⟩
theorem fE.set{h:VH}{i:Nat}{o:VO}(hi:i<h.n):fE h (h.set i o):=by refine⟨aZ _,?_,λj hj hl=>IA hi ?_⟩;show(if Nat.blt i h.lo then i else h.lo)<=h.lo;split;rename_i q;exact vR (i8.mp q);exact aZ _;have hl:j< (if Nat.blt i h.lo then i else h.lo):=hl;split at hl;lia;rename_i q;intro z;rw[z]at hl;exact q (i8.mpr hl)
noncomputable def Gr{α:Type}(r:Res α)(h:VH):Prop:=∀a h',r=.ok a h'->fE h h'
section
variable{α β:Type}{h:VH}
theorem Gr.ok{a:α}:Gr (Res.ok a h) h:=λ_ _ e=>by cases e;exact .refl
theorem Gr.no:Gr (Res.no:Res α) h:=λ_ _ e=>by cases e
theorem Gr.of{o:Option α}:Gr (Res.of o h) h:=λ_ _ e=>by cases o with|none=>cases e|some a=>cases e;exact .refl
theorem Gr.new{a:α}{o:VO}:Gr (Res.ok a (h.new o)) h:=λ_ _ e=>by cases e;exact .new
theorem Gr.set{a:α}{o o':VO}{i:Nat}(g:h.get i=aC o'):Gr (Res.ok a (h.set i o)) h:=λ_ _ e=>by cases e;exact .set (dI g)
theorem Gr.bind{r:Res α}{f:α->VH->Res β}(a:Gr r h)(b:∀x h1,Gr (f x h1) h1):Gr (r.bind f) h:=λy h' e=>by
 cases r with|ok x h1=>exact(a x h1 rfl).trans (b x h1 y h' e)|ex _ _=>cases e|no=>cases e
end
theorem BV{o:Op}{x y:W}{h:VH}:Gr (dB o x y h) h:=by unfold dB;split;exact .of;exact .of;exact .of;split;split;exact .new;exact .no;exact .no;split;split;exact .new;exact .no;exact .no;exact .no
theorem BW{o:Op}{x y:W}{h:VH}:Gr (yU o x y h) h:=by unfold yU;split;split;exact .ok;exact .ok;exact .of;exact .of;exact .no;split;split;rename_i g _ _;exact .set g;exact .no;exact .no;exact .no
theorem VU{x:W}{l u:Option Int}{h:VH}:Gr (jr x l u h) h:=by unfold jr;split;exact .ok;split;exact .new;exact .no;exact .no
theorem BX{b:Bi}{xs:List W}{h:VH}:Gr (iV b xs h) h:=by
 cases b<;>simp only[iV];unfold fZ;split<;>first|exact .of|exact .no
 unfold iC;split;split;exact .new;exact .no;exact .no;unfold wK;split<;>first|exact .of|exact .no
 unfold oz;split<;>first|exact .ok|exact .no
 unfold kQ;split<;>first|exact .ok|exact .no
 unfold rN;split<;>first|exact .ok|exact .no
 unfold kR;split<;>first|exact .ok|exact .no
 unfold Bt;split;split;exact .of;exact .no;exact .no;unfold uz;split;split;exact .new;exact .no;exact .no
theorem VW{x w:W}{l u:Option Int}{h:VH}:Gr (jt x w l u h) h:=by unfold jt;split;split;split;exact .no;split;rename_i g _ _ _;exact .set g;exact .no;exact .no;exact .no
theorem BY{m:Mt}{o:W}{xs:List W}{h:VH}:Gr (wL m o xs h) h:=by unfold wL;split;split;split;rename_i g _;exact .set g;exact .no;exact .no;split;exact .ok;exact .no;exact .of;exact .no
theorem IS{nx:Nat->VH->Option (Option W)}{tg:W->VH->En->Option En}{c e:En->VH->Res W}(hc:∀ρ h,Gr (c ρ h) h)(he:∀ρ h,Gr (e ρ h) h):∀(f i:Nat) (ρ:En) (h:VH) (acc:List W),Gr (Bw nx tg c e f i ρ h acc) h
 |0,_,_,_,_=>.no
 |f+1,i,ρ,h,acc=>by
  simp only[Bw];split;exact .no;exact .ok;split;exact .no;refine .bind (hc _ _) λb h1=>?_;split;exact .bind (he _ _) λy h2=>IS hc he f _ _ _ _;exact IS hc he f _ _ _ _;exact .no
theorem IT{nx:Nat->VH->Option (Option W)}{tg:W->VH->En->Option En}{c:En->VH->Res W}{e:En->VH->List W->Res (En×List W)}(hc:∀ρ h,Gr (c ρ h) h)(he:∀ρ h acc,Gr (e ρ h acc) h):∀(f i:Nat) (ρ:En) (h:VH) (acc:List W),Gr (Bx nx tg c e f i ρ h acc) h
 |0,_,_,_,_=>.no
 |f+1,i,ρ,h,acc=>by
  simp only[Bx];split;exact .no;exact .ok;split;exact .no;refine .bind (hc _ _) λb h1=>?_;split;exact .bind (he _ _ _) λy h2=>IT hc he f _ _ _ _;exact IT hc he f _ _ _ _;exact .no
theorem oJ{nx:Nat->VH->Option (Option W)}{tg:W->VH->En->Option En}{c e:En->VH->Res W}(hc:∀ρ h,Gr (c ρ h) h)(he:∀ρ h,Gr (e ρ h) h):∀(f i:Nat) (ρ:En) (h:VH) (acc:List W),Gr (gE nx tg c e f i ρ h acc) h
 |0,_,_,_,_=>.no
 |f+1,i,ρ,h,acc=>by
  simp only[gE];split;exact .no;exact .ok;split;exact .no;refine .bind (hc _ _) λb h1=>?_;split;exact .bind (he _ _) λy h2=>oJ hc he f _ _ _ _;exact oJ hc he f _ _ _ _;exact .no
theorem oK{nx:Nat->VH->Option (Option W)}{tg:W->VH->En->Option En}{c e v:En->VH->Res W}(hc:∀ρ h,Gr (c ρ h) h)(he:∀ρ h,Gr (e ρ h) h)(hv:∀ρ h,Gr (v ρ h) h):∀(f i:Nat) (ρ:En) (h:VH) (acc:List (L2.Key×W)),Gr (By nx tg c e v f i ρ h acc) h
 |0,_,_,_,_=>.no
 |f+1,i,ρ,h,acc=>by
  simp only[By];split;exact .no;exact .ok;split;exact .no;refine .bind (hc _ _) λb h1=>?_;split;refine .bind (he _ _) λy h2=>.bind (hv _ _) λz h3=>?_;split;split;exact oK hc he hv f _ _ _ _;exact .no;exact .no;exact oK hc he hv f _ _ _ _;exact .no
theorem IU{nx:Nat->VH->Option (Option W)}{tg:W->VH->En->Option En}{b:En->VH->Res Fl}(hb:∀ρ h,Gr (b ρ h) h):∀(f i:Nat) (ρ:En) (h:VH),Gr (eG nx tg b f i ρ h) h
 |0,_,_,_=>.no
 |f+1,i,ρ,h=>by
  simp only[eG];split;exact .no;exact .ok;split;exact .no;refine .bind (hb _ _) λfl h1=>?_;split;exact IU hb f _ _ _;exact IU hb f _ _ _;exact .ok;exact .ok
theorem IV{c:En->VH->Res W}{b:En->VH->Res Fl}(hc:∀ρ h,Gr (c ρ h) h)(hb:∀ρ h,Gr (b ρ h) h):∀(f:Nat) (ρ:En) (h:VH),Gr (eY c b f ρ h) h
 |0,_,_=>.no
 |f+1,ρ,h=>by
  simp only[eY];refine .bind (hc _ _) λt h1=>?_;split;exact .ok;refine .bind (hb _ _) λfl h2=>?_;split;exact IV hc hb f _ _;exact IV hc hb f _ _;exact .ok;exact .ok;exact .no
section
variable{cl:Call}
theorem BZ(hcl:∀f ws h,Gr (cl f ws h) h):∀(e:E) (ρ:En) (h:VH),Gr (ev cl e ρ h) h:=by
 intro e;induction e with
 |var i=>intro ρ h;exact .of
 |cst w=>intro ρ h;exact .ok
 |nil=>intro ρ h;exact .ok
 |cons a r i1 i2=>intro ρ h;simp only[ev];refine .bind (i1 _ _) λx h1=>.bind (i2 _ _) λy h2=>?_;split<;>first|exact .ok|exact .no
 |tup a i1=>intro ρ h;simp only[ev];refine .bind (i1 _ _) λx h1=>?_;split<;>first|(split<;>first|exact .ok|exact .no)|exact .no
 |lst a i1=>intro ρ h;simp only[ev];refine .bind (i1 _ _) λx h1=>?_;split<;>first|(split<;>first|exact .new|exact .no)|exact .no
 |Iv a i1=>
  intro ρ h;simp only[ev];refine .bind (i1 _ _) λx h1=>?_;split;split;split;exact .new;exact .no;exact .no;exact .no
 |op o a b i1 i2=>intro ρ h;simp only[ev];exact .bind (i1 _ _) λx h1=>.bind (i2 _ _) λy h2=>BV
 |neg a i1=>intro ρ h;simp only[ev];refine .bind (i1 _ _) λx h1=>?_;split<;>first|exact .ok|exact .no
 |cmp c a b i1 i2=>intro ρ h;simp only[ev];exact .bind (i1 _ _) λx h1=>.bind (i2 _ _) λy h2=>.of
 |wJ c d a b e i1 i2 i3=>
  intro ρ h;simp only[ev];refine .bind (i1 _ _) λx h1=>.bind (i2 _ _) λy h2=>?_;split;exact .bind (i3 _ _) λz h3=>.of;exact .ok;exact .no
 |not a i1=>intro ρ h;simp only[ev];refine .bind (i1 _ _) λx h1=>?_;split<;>first|exact .ok|exact .no
 |and a b i1 i2=>intro ρ h;simp only[ev];refine .bind (i1 _ _) λx h1=>?_;split<;>first|exact i2 _ _|exact .ok|exact .no
 |or a b i1 i2=>intro ρ h;simp only[ev];refine .bind (i1 _ _) λx h1=>?_;split<;>first|exact i2 _ _|exact .ok|exact .no
 |qc a i1=>intro ρ h;simp only[ev];exact .bind (i1 _ _) λx h1=>.of
 |ite c a b i1 i2 i3=>
  intro ρ h;simp only[ev];refine .bind (i1 _ _) λx h1=>?_;split;exact i2 _ _;exact i3 _ _;exact .no
 |idx a b i1 i2=>intro ρ h;simp only[ev];exact .bind (i1 _ _) λx h1=>.bind (i2 _ _) λy h2=>.of
 |slc a bl lo bh hi i1 i2 i3=>
  intro ρ h;simp only[ev];refine .bind (i1 _ _) λx h1=>.bind (i2 _ _) λy h2=>.bind (i3 _ _) λz h3=>?_;split;exact VU;exact .no
 |call f a i1=>intro ρ h;simp only[ev];refine .bind (i1 _ _) λx h1=>?_;split<;>first|exact hcl _ _ _|exact .no
 |gD j fs a i1=>
  intro ρ h;simp only[ev];split;refine .bind (i1 _ _) λx h1=>?_;split<;>first|exact hcl _ _ _|exact .no
  exact .no
 |bi b a i1=>intro ρ h;simp only[ev];refine .bind (i1 _ _) λx h1=>?_;split<;>first|exact BX|exact .no
 |E6 t a i1=>intro ρ h;simp only[ev];exact .bind (i1 _ _) λx h1=>.of
 |mt m o a i1 i2=>
  intro ρ h;simp only[ev];refine .bind (i1 _ _) λx h1=>?_;split;refine .bind (i2 _ _) λy h2=>?_;split<;>first|exact BY|exact .no
  exact .no
 |lc k a t ow ix c e i1 i2 i3=>
  intro ρ h;simp only[ev];refine .bind (i1 _ _) λx h1=>.bind (oJ i2 i3 _ _ _ _ _) λys h2=>?_;split;exact .new;exact .no
 |M5 k a t ow ix c k2 a2 t2 c2 e i1 i2 i3 i4 i5=>
  intro ρ h;simp only[ev];refine .bind (i1 _ _) λx h1=>.bind (IT i2 (λρ h acc=>.bind (i3 _ _) λy h2=>IS i4 i5 _ _ _ _ _) _ _ _ _ _) λys h2=>?_;split;exact .new;exact .no
 |dc k a t ow ix c e v i1 i2 i3 i4=>
  intro ρ h;simp only[ev];exact .bind (i1 _ _) λx h1=>.bind (oK i2 i3 i4 _ _ _ _ _) λys h2=>.new
theorem za(hcl:∀f ws h,Gr (cl f ws h) h):∀(s:S) (ρ:En) (h:VH),Gr (exs cl s ρ h) h:=by
 have ge:=BZ hcl;intro s;induction s with
 |skip=>intro ρ h;exact .ok
 |seq a b i1 i2=>intro ρ h;simp only[exs];refine .bind (i1 _ _) λfl h1=>?_;split<;>first|exact i2 _ _|exact .ok
 |set i e=>intro ρ h;simp only[exs];exact .bind (ge _ _ _) λw h1=>.ok
 |jo is e=>intro ρ h;simp only[exs];exact .bind (ge _ _ _) λw h1=>.of
 |aug i o e=>
  intro ρ h;simp only[exs];split;exact .bind (ge _ _ _) λy h1=>.bind BW λz h2=>.ok;exact .no
 |put o i v=>
  intro ρ h;simp only[exs];refine .bind (ge _ _ _) λw h1=>.bind (ge _ _ _) λx h2=>.bind (ge _ _ _) λy h3=>?_;split;split;split;rename_i g _ _ _;exact .set g;exact .no;exact .no;exact .no
 |rK o bl lo bh hi v=>
  intro ρ h;simp only[exs];refine .bind (ge _ _ _) λw h1=>.bind (ge _ _ _) λx h2=>.bind (ge _ _ _) λl h3=>.bind (ge _ _ _) λu h4=>?_;split;exact .bind VW λ_ h5=>.ok;exact .no
 |ite c a b i1 i2=>
  intro ρ h;simp only[exs];refine .bind (ge _ _ _) λx h1=>?_;split;exact i1 _ _;exact i2 _ _;exact .no
 |ret e=>intro ρ h;simp only[exs];exact .bind (ge _ _ _) λw h1=>.ok
 |expr e=>intro ρ h;simp only[exs];exact .bind (ge _ _ _) λw h1=>.ok
 |brk=>intro ρ h;exact .ok
 |cnt=>intro ρ h;exact .ok
 | «for» k a t b i1=>intro ρ h;simp only[exs];exact .bind (ge _ _ _) λx h1=>IU i1 _ _ _ _
 |yT c b i1=>intro ρ h;simp only[exs];exact IV (ge c) i1 _ _ _
 |ou f a tb=>
  intro ρ h;simp only[exs];refine .bind (ge _ _ _) λy h1=>?_;split;refine .bind (hcl _ _ _) λw h2=>?_;unfold jV;split;exact .ok;split;exact .ok;exact .no;exact .no;exact .no
 |mR j a fs tb=>
  intro ρ h;simp only[exs];split;refine .bind (ge _ _ _) λy h1=>?_;split;refine .bind (hcl _ _ _) λw h2=>?_;unfold jV;split;exact .ok;split;exact .ok;exact .no;exact .no;exact .no;exact .no
 |jq f a b s t i1 i2=>
  intro ρ h;simp only[exs];refine .bind (ge _ _ _) λy h1=>?_;split;refine .bind (hcl _ _ _) λw h2=>?_;unfold mT;split;split;split;exact i2 _ _;exact i1 _ _;exact .no;exact i1 _ _;exact .ok;exact .no;exact .no
 |no=>intro ρ h;exact .no
end
theorem zb(F:Nat->Option Fn):∀(k f:Nat) (ws:List W) (h:VH),Gr (run F k f ws h) h
 |0,_,_,_=>.no
 |k+1,f,ws,h=>by
  intro a h' e;simp only[run]at e;split at e;rename_i fn hf;split at e;rename_i hl;generalize hr:exs (run F k) fn.body (ws.map aC++aR (fn.n-fn.ps) aD) ⟨h.n,h.n,h.os⟩=r at e;have g:=za (zb F k) fn.body (ws.map aC++aR (fn.n-fn.ps) aD) ⟨h.n,h.n,h.os⟩;rw[hr]at g;have lv:∀w h1,fE ⟨h.n,h.n,h.os⟩ h1->leave h w h1=.ok a h'->fE h h':=by
   intro w h1 g1 e1;unfold leave at e1;split at e1;cases e1;exact .refl;cases e1;refine⟨g1.1,?_,λi hi hlo=>?_⟩;show(if Nat.ble h.lo h1.lo then h.lo else h1.lo)<=h.lo;split;exact aZ _;rename_i q;exact Nat.le_of_not_le λz=>q (zV.mpr z);have hlo:i< (if Nat.ble h.lo h1.lo then h.lo else h1.lo):=hlo;have hh:i<h1.lo:=by split at hlo;rename_i q;exact eN hlo (kG q);exact hlo
   exact g1.2.2 i hi hh
  cases r with
  |no=>cases e
  |ex _ _=>cases e
  |ok fl h1=>
   have g1:=g fl h1 rfl;simp only[Res.bind]at e;split at e;exact lv _ _ g1 e;exact lv _ _ g1 e;cases e
  cases e;cases e
noncomputable abbrev rQ:=(Nat->ai)->Nat->Hp->VK->W->Prop
noncomputable abbrev Rr(K:aI):rQ:=λm n H Q w=>∀v,aL K m n H v w->Q v H
noncomputable def rR(K:aI)(R:rQ)(m:Nat->ai)(n:Nat)(H:Hp)(D:Ends):Fl->Prop|.nx ρ=>∀σ,Fr K m n H σ ρ->D.nx σ H|.bk ρ=>∀σ,Fr K m n H σ ρ->D.bk σ H|.ct ρ=>∀σ,Fr K m n H σ ρ->D.ct σ H|.rt w=>R m n H D.rt w
noncomputable def jw(K:aI)(R:rQ)(f:FS):TS:=λD σ H=>∃ρ h m fl h',Fr K m h.n H σ ρ/\Rel K m h H/\f ρ h=.ok fl h'/\∀H' m',bW m h.n H m' h'.n H'->Rel K m' h' H'->rR K R m' h'.n H' D fl
theorem jw.el{K:aI}{R:rQ}{D:Ends}{σ:L2.St}{H:Hp}{P:Prop}{fa:FS}(q:jw K R fa D σ H)(k:∀ρ h m fl h',Fr K m h.n H σ ρ->Rel K m h H->fa ρ h=.ok fl h'->(∀H' m',bW m h.n H m' h'.n H'->Rel K m' h' H'->rR K R m' h'.n H' D fl)->P):P:=by obtain⟨ρ,h,m,w,h',f,r,e,k'⟩:=q;exact k ρ h m w h' f r e k'
theorem jw.mk{K:aI}{R:rQ}{D:Ends}{σ:L2.St}{H:Hp}{m:Nat->ai}{ρ:En}{h h':VH}{fl:Fl}{fa:FS}(f:Fr K m h.n H σ ρ)(r:Rel K m h H)(e:fa ρ h=.ok fl h')(k:∀H' m',bW m h.n H m' h'.n H'->Rel K m' h' H'->rR K R m' h'.n H' D fl):jw K R fa D σ H:=⟨ρ,h,m,fl,h',f,r,e,k⟩
noncomputable abbrev SR(X:Cx)(R:rQ)(st:au)(f:FS):Prop:=PS X st (jw X.K R f)
noncomputable abbrev uB(X:Cx)(R:rQ)(st:List au)(f:FS):Prop:=fU X st (jw X.K R f)
noncomputable abbrev SS(X:Cx)(st:au)(f:FS):Prop:=SR X (Rr X.K) st f
noncomputable abbrev IW(X:Cx)(st:List au)(f:FS):Prop:=uB X (Rr X.K) st f
section
variable{X:Cx}{a b c e o:aq}{es:List aq}{fa fb fc fo fr:FE}{pos p:Pos}{x:Str}{st:au}{sts:List au}{ga gb:FS}{R:rQ}
noncomputable abbrev lI:FS:=λρ h=>.ok (.nx ρ) h
noncomputable abbrev IX(ga gb:FS):FS:=λρ h=>(ga ρ h).bind λfl h=>match fl with|.nx ρ=>gb ρ h|fl=>.ok fl h
theorem NC:uB X R [] lI:=LG.imp λD σ H z9=>z9.el λρ h m fl h' f r e k=>by cases e;exact k H m .refl r σ f
theorem VX:SS X (.Pass pos) lI:=QT.imp λD σ H z9=>z9.el λρ h m fl h' f r e k=>by cases e;exact k H m .refl r σ f
theorem VY:SS X (.Break pos) (λρ h=>.ok (.bk ρ) h):=QU.imp λD σ H z9=>z9.el λρ h m fl h' f r e k=>by cases e;exact k H m .refl r σ f
theorem VZ:SS X (.Continue pos) (λρ h=>.ok (.ct ρ) h):=QV.imp λD σ H z9=>z9.el λρ h m fl h' f r e k=>by cases e;exact k H m .refl r σ f
theorem ND(h1:SR X R st ga)(h2:uB X R sts gb):uB X R (st::sts) (IX ga gb):=(EI h1 h2).imp λD σ H z9=>z9.el λρ h m fl h' f r e k=>by
 refine bT e λmV h1 e1 e2=>?_;refine(.mk f r e1 λH1 m1 s1 r1=>?_);cases mV with|nx qf=>exact λσ1 f1=>⟨qf,h1,m1,fl,h',f1,r1,e2,λH' m' s' r'=>k H' m' (s1.trans s') r'⟩|bk qf=>cases e2;exact k H1 m1 s1 r1|ct qf=>cases e2;exact k H1 m1 s1 r1|rt w=>cases e2;exact k H1 m1 s1 r1
theorem B5:SS X st (λ_ _=>.no):=QY.imp λD σ H z9=>z9.el λρ h m fl h' f r e k=>by cases e
noncomputable def zc:aq->Bool|.ListComp .. |.SetComp .. |.DictComp ..=>false|_=>true
theorem IY{e:aq}{t:Option aq}{l:Nat}{env:Env}(h:zc e):swapsWith e t l env=pure false:=by cases e<;>first|rfl|cases h
theorem NF(he:SE X e fa)(hs:zc e):SS X (.Expr e pos) (λρ h=>(fa ρ h).bind λ_ h=>.ok (.nx ρ) h):=(LH he (IY hs)).imp λD σ H z9=>z9.el λρ h m fl h' f r e k=>by
 refine bT e λw h1 e1 e2=>?_;cases e2;exact(.mk f r e1 λv H1 m1 s1 r1 q1=>k H1 m1 s1 r1 σ (f.stp s1))
theorem V0(he:SE X e fa):SS X (.Return (aC e) pos) (λρ h=>(fa ρ h).bind λw h=>.ok (.rt w) h):=(An he).imp λD σ H z9=>z9.el λρ h m fl h' f r e k=>by
 refine bT e λw h1 e1 e2=>?_;cases e2;exact(.mk f r e1 λv H1 m1 s1 r1 q1=>k H1 m1 s1 r1 v q1)
theorem V1:SS X (.Return aD pos) (λρ h=>(Res.ok W.aN h).bind λw h=>.ok (.rt w) h):=QW.imp λD σ H z9=>z9.el λρ h m fl h' f r e k=>by
 cases e;exact k H m .refl r .aN .aN
noncomputable abbrev wQ(i:Nat)(fa:FE):FS:=λρ h=>(fa ρ h).bind λw h=>.ok (.nx (ρ.set i (aC w))) h
theorem NG{K:aI}{i:Nat}{D:Ends}{σ:L2.St}{H:Hp}(q:jw K R (wQ i fa) D σ H):iu K fa σ H λv H1=>jP i v σ H1 D.nx:=by refine q.el λρ h m fl h' f r e k=>?_;refine bT e λw h1 e1 e2=>?_;cases e2;exact(.mk f r e1 λv H1 m1 s1 r1 q1=>k H1 m1 s1 r1 _ ((f.stp s1).set q1 i))
theorem NH{i:Nat}{pos':Pos}(hN:X.N.Nodup)(hi:X.N[i]?=aC x)(hx:Loc X.env.scope x)(hf:X.fn x=true\/X.env.scope.names.lookup x=aC .local)(he:SE X e fa)
 (hs:swapsWith e (aC (.Name x pos')) pos.line X.env=pure false):SS X (.Assign [.Name x pos'] e pos) (wQ i fa):=(LJ hN hi hx he hs hf).imp λD σ H q=>NG q
theorem V2{i:Nat}{pos' lp:Pos}{ow fr:List Str}{ix:List Nat}{scope:az}{tg iter elt:aq}{ifs:List aq}{kd:Kd}{t:Tg}{fe:FE}(hN:X.N.Nodup)(hi:X.N[i]?=aC x)(hx:Loc X.env.scope x)(hf:X.fn x=true\/X.env.scope.names.lookup x=aC .local)
 (S:cj X ow fr ix scope) (hc:X.calm) (hI:PI X tg iter (fD X.K kd fa)) (hg:∀C s₀ H₀ ex,PG (X.comp (ow++fr) scope C s₀ H₀ ex) tg (gB X.K t)) (ht:∀C s₀ H₀ ex,rE (X.comp (ow++fr) scope C s₀ H₀ ex) ifs (gW X.K fc))
 (he:∀C s₀ H₀ ex,PE (X.comp (ow++fr) scope C s₀ H₀ ex) elt (iu X.K fe)) (hsw:swapsWith (.ListComp elt [⟨tg,iter,ifs,0⟩] scope lp) (aC (.Name x pos')) pos.line X.env=pure true) (hs:∀x,foldedSetIterable iter X.env x=pure x) :
 SS X (.Assign [.Name x pos'] (.ListComp elt [⟨tg,iter,ifs,0⟩] scope lp) pos) (wQ i (IQ kd fa t ow.length ix fc fe)):=
 (S6 hN hi hx S hc hI hg ht he hsw hf hs).imp λD σ H q=>uA (NG q)
theorem B6{lp:Pos}{ow fr:List Str}{ix:List Nat}{scope:az}{tg iter elt:aq}{ifs:List aq}{kd:Kd}{t:Tg}{fe:FE}
 (S:cj X ow fr ix scope) (hc:X.calm) (hI:PI X tg iter (fD X.K kd fa)) (hg:∀C s₀ H₀ ex,PG (X.comp (ow++fr) scope C s₀ H₀ ex) tg (gB X.K t)) (ht:∀C s₀ H₀ ex,rE (X.comp (ow++fr) scope C s₀ H₀ ex) ifs (gW X.K fc))
 (he:∀C s₀ H₀ ex,PE (X.comp (ow++fr) scope C s₀ H₀ ex) elt (iu X.K fe)) (hs:∀x,foldedSetIterable iter X.env x=pure x) :
 SE X (.ListComp elt [⟨tg,iter,ifs,0⟩] scope lp) (IQ kd fa t ow.length ix fc fe):=(A8 S hc hI hg ht he hs).imp λσ H Q q=>uA q
noncomputable def oM:aq->Bool|.Tuple ..=>false|_=>true
theorem V3{es:List aq}{k:Nat}{e:aq}{l:Nat}{p:Pos}{env:Env}:swapsWithSole [.Tuple es k p] e l env=pure false:=by cases e<;>rfl
theorem V4{es:List aq}{k:Nat}{p:Pos}{e:aq}{env:Env}(h:oM e):swappedStores [.Tuple es k p] e env=pure aD:=by cases e<;>first|rfl|cases h
theorem V5{is:List Nat}{k:Nat}(hc:X.calm)(hN:X.N.Nodup)(hs:Paired (oH X) es is)(he:SE X e fa)(ht:oM e) :
 SS X (.Assign [.Tuple es k p] e pos) (λρ h=>(fa ρ h).bind λw h=>.of ((bH (.many is) w h ρ).map .nx) h):=(GW he (Ny hc hN hs) V3 (V4 ht) rfl).imp λD σ H z9=>z9.el λρ h m fl h' f r e k=>by
 refine bT e λw h1 e1 e2=>?_;obtain⟨e2,e3⟩:=of_ok e2;subst e3;cases z:bH (.many is) w h' ρ with
 |none=>rw[z]at e2;cases e2
 |some ρ'=>
  rw[z]at e2;cases e2;exact(.mk f r e1 λv H1 m1 s1 r1 q1=>(.mk (f.stp s1) r1 q1 z λσ' f'=>k H1 m1 s1 r1 σ' f'))
noncomputable def zd:aq->Bool|.Slice ..=>false|_=>true
theorem V6{o i:aq}{p:Pos}{env:Env}(h:zd i)(v:aa):assign (.Subscript o i p) env v=(do
 let ov <-holding [v] (eval o env);let iv <-holding [v,ov] (eval i env)
 standAt p
 holding [v,ov,iv] (setItem ov iv v)
 release [v,ov,iv] []):=by
 cases i<;>first|rfl|cases h
noncomputable abbrev IZ(fo fi fv:FE):FS:=λρ h=>(fv ρ h).bind λw h=>(fo ρ h).bind λx h=>(fi ρ h).bind λy h=>match x,y with
 |.ref a,.int j=>(match h.get a with
  |some (.lst ws)=>(match L2.jI ws.length j with
   |some k=>.ok (.nx ρ) (h.set a (.lst (ws.set k w)))
   |none=>.no)
  |_=>.no)
 |_,_=>.no
noncomputable abbrev Ja(fo:FE)(bl:Bool)(fl:FE)(bh:Bool)(fu fv:FE):FS:=λρ h=>(fv ρ h).bind λw h=>(fo ρ h).bind λx h=>(fl ρ h).bind λl h=>(fu ρ h).bind λu h=>(match cJ bl l,cJ bh u with|some l,aC u=>(jt x w l u h).bind λ_ h=>.ok (.nx ρ) h|_,_=>.no)
theorem NI{o i e:aq}{l:Nat}{p:Pos}{env:Env}:swapsWithSole [.Subscript o i p] e l env=pure false:=by cases e<;>rfl
theorem NJ{o i e:aq}{p:Pos}{env:Env}:swappedStores [.Subscript o i p] e env=pure aD:=by cases e<;>rfl
theorem V7(hu:X.A.units+2<cLine)(ho:SE X o fo)(hi:SE X a fa)(hv:SE X e fb)(hs:zd a):SS X (.Assign [.Subscript o a p] e pos) (IZ fo fa fb):=
 (GW hv (Q3 ho hi Sf (V6 hs)) NI NJ rfl).imp λD σ H z9=>z9.el λρ h m fl h' f r e k=>by
   refine bT e λw h1 e1 e2=>?_;refine bT e2 λx h2 e3 e4=>?_;refine bT e4 λy h3 e5 e6=>?_;refine(.mk f r e1 λv H1 m1 s1 r1 q1=>(.mk (f.stp s1) r1 e3 λvo H2 m2 s2 r2 q2=>(.mk ((f.stp s1).stp s2) r2 e5 λvi H3 m3 s3 r3 q3=>?_)));split at e6;rename_i l j;split at e6;rename_i ws g;split at e6;rename_i kk hk;cases e6;cases q3;have Jb:=q2.stp s3;cases Jb;obtain⟨vs,p1,p2⟩:=r3.lst g;refine⟨m3 l,vs,j,kk,rfl,rfl,p1,by rw[p2.length];exact hk,?_⟩;have qv:=((q1.stp s2).stp s3)
   obtain⟨st,r'⟩:=r3.write (i:=l) (o:=.lst (ws.set kk w)) (u:=.lst (vs.set kk v)) (dI g) p1 (λ_ z=>nomatch z) (λ_ _ z=>nomatch z) λst=>⟨_,fB,aG.set (qv.stp st) kk (p2.stp st)⟩
   exact k _ m3 (((s1.trans s2).trans s3).trans st) r' σ ((((f.stp s1).stp s2).stp s3).stp st);cases e6;cases e6;cases e6
theorem V8{lo hi:Option aq}{fl fu:FE}{p2:Pos}{bl bh:Bool}(ho:SE X o fo)(hl:PO X lo (iF X.K bl fl))(hu:PO X hi (iF X.K bh fu))(hv:SE X e fb):SS X (.Assign [.Subscript o (.Slice lo hi aD p2) p] e pos) (Ja fo bl fl bh fu fb):=
 (GW hv (Uv ho hl hu) NI NJ rfl).imp λD σ H z9=>z9.el λρ h m fl h' f r e k=>by
   refine bT e λw h1 e1 e2=>?_;refine bT e2 λx h2 e3 e4=>?_;refine bT e4 λl h3 e5 e6=>?_;refine bT e6 λu h4 e7 e8=>?_;split at e8;rename_i l' u' pl pu;refine bT e8 λw' h5 e9 V9=>?_;refine(.mk f r e1 λv H1 m1 s1 r1 q1=>(.mk (f.stp s1) r1 e3 λvo H2 m2 s2 r2 q2=>(.mk ((f.stp s1).stp s2) r2 e5 pl λH3 m3 s3 r3=>(.mk (((f.stp s1).stp s2).stp s3) r3 e7 pu λH4 m4 s4 r4=>?_))));unfold jt at e9;split at e9;rename_i a b;split at e9;rename_i ws zs ga gb;split at e9;cases e9;rename_i hab;split at e9;rename_i hc;cases e9;cases V9;have Jb:=(q2.stp s3).stp s4;have Wa:=((q1.stp s2).stp s3).stp s4;cases Jb;cases Wa;obtain⟨vs,p1,p3⟩:=r4.lst ga;obtain⟨us,p4,p5⟩:=r4.lst gb;rw[aS]at hc;have hne:m4 a≠m4 b:=λz=>hab (by rw[r4.inj _ _ (dI ga) (dI gb) z];exact Nat.beq_refl _);refine⟨m4 a,m4 b,vs,us,rfl,rfl,hne,p1,p4,by rw[p3.length];exact kG hc.1,by rw[p3.length,p5.length];exact UM▸kG hc.2,?_⟩;obtain⟨st,r'⟩:=r4.write (i:=a) (o:=.lst (ws.take (HT.bz ws.length 0 l')++zs++ws.drop (HT.bz ws.length ws.length u'))) (u:=.lst (vs.take (HT.bz vs.length 0 l')++us++vs.drop (HT.bz vs.length vs.length u'))) (dI ga) p1 (λ_ z=>nomatch z) (λ_ _ z=>nomatch z) λst=>⟨_,fB,by
    rw[<-p3.length];exact((p3.take _).append p5).append (p3.drop _) |>.stp st⟩
   exact k _ m4 ((((s1.trans s2).trans s3).trans s4).trans st) r' σ (((((f.stp s1).stp s2).stp s3).stp s4).stp st);cases e9;cases e9;cases e9;cases e8
theorem Wb{M:Model}{A:ao}{E:aa->ah->Prop}{s:ah}{a b:aa}{T id:String}{Q:aa->ah->Prop}(ha:s.TypeIs a T)(hb:s.TypeIs b T)
 (hI:typeLookup (.type T) (dunderI "add")=pure (aC (.builtin id))) (hq:isSeqSlot (aC (.builtin id))) (hfill:fillsNumberSlot (.type T) "add" = pure false) (hc:wpAny M A (call (.builtin id) [a,b]) Q E s):wpAny M A (inplaceOp .Add a b) Q E s:=by
 unfold inplaceOp;refine jE ?_;have h1:fillsInplaceSlot (.type T) "add" (Operator.Add == .Add)=pure false:=by unfold fillsInplaceSlot;show(typeLookup (.type T) (dunderI "add") >>= λfi=>pure (fi.isSome && !isSeqSlot fi))=_;rw[hI,tZ,hq];rfl
 have h2:seqSlot? (.type T) (dunderI "add")=pure (aC (.builtin id)):=by unfold seqSlot?;rw[hI,tZ,hq];rfl
 refine aJ (yr ha (aJ (vJ h1 ?_)));show wpAny M A (if false=true then _ else _) Q E s;rw[if_neg ic];refine aJ (binaryOp1_none (nm:="add") ha hb hfill ?_);refine aJ (vJ h2 ?_);exact aJ (vK hc)
noncomputable def uC:R2:=λx y H Q=>∃l b xs zs,x=.ref l/\y=.ref b/\H l=aC (.lst xs)/\H b=aC (.lst zs)/\xs.length+zs.length<=sizeLine/\Q (.ref l) (upd H l (.lst (xs++zs)))
theorem Wc:Ar X .Add uC:=by
 intro pins s σ H x y v u Q I rx ry h;obtain⟨l,b,xs,zs,rfl,rfl,hH,hB,hz,q⟩:=h;cases rx;cases ry;obtain⟨z,its,n,r,hl,e⟩:=I.iT hH;obtain⟨z2,its2,n2,r2,hl2,e2⟩:=I.iT hB;have hsz:its.toArray.size+its2.toArray.size<=sizeLine:=by rw[dR,dR];lia
 have jT:¬(!its.toArray.isEmpty&&Builtin.List.listTooLong (its.toArray.size+its2.toArray.size))=true:=by rw[AZ hsz,Bool.and_false];exact ic
 refine Wb (T:="list") (id:="list.__iadd__") ⟨_,e,rfl⟩ ⟨_,e2,rfl⟩ PySem.F.slot_list_iadd.lookup (by decide +kernel) noFill_list_add ?_;refine nJ PySem.F.slot_list_iadd ⟨_,e,rfl⟩ PySem.F.entry_list_iadd (PySem.F.args_list_iadd_2 _ _)
  (AutoSeq1.list___iadd___list_list_0 l its.toArray n b its2.toArray n2 jT (by rw[dR];lia) (by lia)) ⟨e,e2,?_⟩
 refine⟨.ref l,_,I.rD (its':=its++its2) hH e (by simp) (r.append r2) ?_,rfl,q⟩;rw[dY];lia
noncomputable def rS:Operator->Option Op|.Add=>aC .add|.Sub=>aC .sub|.Mult=>aC .mul|.FloorDiv=>aC .fdiv|_=>aD
noncomputable def NK:Op->R2|.mul=>rI mJ λi j=>.int (i*j)|.fdiv=>rI rj λi j=>.int (i/j)|.add=>λx y H Q=>EL (λi j=>i+j) x y H Q\/uC x y H Q|.sub=>EL λi j=>i-j|_=>λ_ _ _ _=>False
theorem B7{O:Operator}{o:Op}(e:rS O=aC o):Ar X O (NK o):=by
 cases O<;>cases e;intro pins s σ H x y v u Q I rx ry q;rcases q with q|q
 exact Q6 pins s σ H x y v u Q I rx ry q;exact Wc pins s σ H x y v u Q I rx ry q;exact Q7;exact Rv;exact Rw
theorem We{K:aI}{O:Operator}{o:Op}(e:rS O=aC o):BC K (NK o) (yU o):=by
 intro m h H v u x y w h' Q r qv qu e2 k;unfold yU at e2;split at e2;rename_i i j;cases qv;cases qu;split at e2;cases e2;exact .inl ⟨i,j,rfl,rfl,aO.here k r (.int _)⟩;cases e2;exact⟨i,j,rfl,rfl,aO.here k r (.int _)⟩;obtain⟨e2,rfl⟩:=of_ok e2;cases z:eU .mul i j with
 |none=>rw[z]at e2;cases e2
 |some t=>
  rw[z]at e2;cases e2;obtain⟨c1,rfl⟩:=IC z;exact⟨i,j,rfl,rfl,c1,aO.here k r (.int _)⟩
 obtain⟨e2,rfl⟩:=of_ok e2;cases z:eU .fdiv i j with
 |none=>rw[z]at e2;cases e2
 |some t=>
  rw[z]at e2;cases e2;obtain⟨c1,rfl⟩:=IC z;exact⟨i,j,rfl,rfl,c1,aO.here k r (.int _)⟩
 cases e2;rename_i i j;split at e2;rename_i xs ys g1 g2;split at e2;rename_i hz;cases e2;cases qv;cases qu;obtain⟨vs,p1,p2⟩:=r.lst g1;obtain⟨us,p3,p4⟩:=r.lst g2;refine .inr ⟨m i,m j,vs,us,rfl,rfl,p1,p3,by rw[p2.length,p4.length];exact kG hz,?_⟩;obtain⟨st,r'⟩:=r.write (i:=i) (o:=.lst (xs++ys)) (u:=.lst (vs++us)) (dI g1) p1 (λ_ z=>nomatch z) (λ_ _ z=>nomatch z) λst=>⟨_,fB,(p2.stp st).append (p4.stp st)⟩
 exact k _ _ m st r' (.ref (show i<h.n from dI g1));cases e2;cases e2;cases e2
noncomputable abbrev wR(i:Nat)(o:Op)(fa:FE):FS:=λρ h=>match(ρ[i]?).join with|some x=>(fa ρ h).bind λy h=>(yU o x y h).bind λz h=>.ok (.nx (ρ.set i (aC z))) h|none=>.no
theorem Wf{i:Nat}{pos':Pos}{O:Operator}{o:Op}(eo:rS O=aC o)(hN:X.N.Nodup)(hi:X.N[i]?=aC x)(hx:Loc X.env.scope x)(hf:X.fn x=true\/X.env.scope.names.lookup x=aC .local)(he:SE X e fa) :
 SS X (.AugAssign (.Name x pos') O e pos) (wR i o fa):=(Q5 hN hi hx he (B7 eo) hf).imp λD σ H z9=>z9.el λρ h m fl h' f r e k=>by
 have e:wR i o fa ρ h=.ok fl h':=e;simp only[wR]at e;cases z:(ρ[i]?).join with
 |none=>rw[z]at e;cases e
 |some x=>
  rw[z]at e;simp only at e;refine bT e λy h1 e1 e2=>?_;refine bT e2 λw h2 e3 e4=>?_;cases e4;have e5:ρ[i]?=aC (aC x):=by
   cases q:ρ[i]? with|none=>rw[q]at z;cases z|some o=>rw[q]at z;rw[<-z];rfl
  obtain⟨v,p1,p2⟩:=f.val i x e5;refine⟨v,p1,ρ,h,m,y,h1,f,r,e1,λu H1 m1 s1 r1 q1=>We eo m1 h1 H1 v u x y w h' _ r1 (p2.stp s1) q1 e3 λv' H' m' s' r' q'=>?_⟩;exact k H' m' (s1.trans s') r' _ (((f.stp s1).stp s').set q' i)
noncomputable abbrev Wg(fc:FE)(ga gb:FS):FS:=λρ h=>(fc ρ h).bind λx h=>match x with|.bl true=>ga ρ h|.bl false=>gb ρ h|_=>.no
variable{sa sb:List au}
theorem NL(hc:ST X c fc)(ha:uB X R sa ga)(hb:uB X R sb gb):SR X R (.If c sa sb pos) (Wg fc ga gb):=(nO hc ha hb).imp λD σ H z9=>z9.el λρ h m fl h' f r e k=>by
 refine bT e λx h1 e1 e2=>?_;cases x<;>try cases e2
 rename_i c;refine(.mk f r e1 λH1 m1 s1 r1=>?_);cases c with|true=>rw[if_pos rfl];exact(.mk (f.stp s1) r1 e2 λH' m' s' r'=>k H' m' (s1.trans s') r')|false=>simp only[fS,fy];exact(.mk (f.stp s1) r1 e2 λH' m' s' r'=>k H' m' (s1.trans s') r')
theorem Wh{nx:Nat->VH->Option (Option W)}{tg:W->VH->En->Option En}{g:FS}{f i:Nat}{ρ:En}{h:VH}{fl:Fl}{h':VH}(q:eG nx tg g (f+1) i ρ h=.ok fl h'):∃o,nx i h=aC o:=by simp only[eG]at q;split at q;cases q;exact⟨_,by assumption⟩;exact⟨_,by assumption⟩
noncomputable abbrev B8(kd:Kd)(fa:FE)(t:Tg)(g:FS):FS:=λρ h=>(fa ρ h).bind λx h=>eG (bZ kd x) (bH t) g fuel 0 ρ h
theorem Wi{K:aI}{kd:Kd}{t:Tg}{D:Ends}{σ:L2.St}{H:Hp}(q:jw K R (B8 kd fa t ga) D σ H):Ax (fD K kd fa) (gB K t) (jw K R ga) D σ H:=by
 refine q.el λρ h m fl h' f r e k=>?_;refine bT e λx h1 e1 e2=>?_;refine(.mk f r e1 (Wh (f:=999999) e2) λJ P H1 m1 s1 r1 J1 p1=>?_);refine⟨λi fu σ' H'=>∃ρ' h3 m3,eG (bZ kd x) (bH t) ga fu i ρ' h3=.ok fl h'/\Fr K m3 h3.n H' σ' ρ'/\Rel K m3 h3 H'/\bW m1 h1.n H1 m3 h3.n H'/\P m3 h3.n H',⟨fuel,ρ,h1,m1,e2,f.stp s1,r1,.refl,p1⟩,?_⟩;rintro i fu σ' H' ⟨ρ',h3,m3,e3,f3,r3,s3,p3⟩;cases fu with
 |zero=>cases e3
 |succ fu=>
  simp only[eG]at e3;obtain⟨j1,j2⟩:=J1.2 m3 h3 H' r3 p3 i;split at e3;cases e3;rename_i hn;cases e3;exact .inl ⟨j2 hn,k H' m3 (s1.trans s3) r3 σ' f3⟩;rename_i w hn;obtain⟨j3,j4⟩:=j1 w hn;split at e3;cases e3;rename_i NN ht;refine bT e3 λB9 h5 e5 e6=>?_;refine .inr ⟨j3,λkL H6=>∃jx m6,eG (bZ kd x) (bH t) ga fu (i+1) jx h5=.ok fl h'/\Fr K m6 h5.n H6 kL jx/\Rel K m6 h5 H6/\bW m1 h1.n H1 m6 h5.n H6/\P m6 h5.n H6,λkL H6 ⟨jx,m6,a1,a2,a3,a4,a5⟩=>⟨fu,pW _,jx,h5,m6,a1,a2,a3,a4,a5⟩,λy H4 hy=>?_⟩;obtain⟨s4,r4,q4⟩:=j4 y H4 hy;refine⟨ρ',h3,m3,w,NN,f3.stp s4,r4,q4,ht,λyO f5=>⟨NN,h3,m3,B9,h5,f5,r4,e5,λH6 m6 s6 r6=>?_⟩⟩;have p4:=J1.1 m3 h3.n H' m3 h3.n H4 (aZ _) (λ_ _=>rfl) (λb vs q=>s4.tup b vs q) (λb o u q=>s4.cG b o u q) p3;have p6:=J1.1 m3 h3.n H4 m6 h5.n H6 s6.le s6.same (λb vs q=>s6.tup b vs q) (λb o u q=>s6.cG b o u q) p4;have rT:=(s3.trans s4).trans s6;cases B9 with|nx jx=>exact λkL f6=>⟨jx,m6,e6,f6,r6,rT,p6⟩|ct jx=>exact λkL f6=>⟨jx,m6,e6,f6,r6,rT,p6⟩|bk jx=>cases e6;exact λkL f6=>k H6 m6 (s1.trans rT) r6 kL f6|rt w6=>cases e6;exact k H6 m6 (s1.trans rT) r6
theorem NO{kd:Kd}{t:Tg}{tg iter:aq}(hp:PassesOwn (model X.prog X.w) X.A X.env X.xe)(hc:X.calm)(hI:PI X tg iter (fD X.K kd fa))(hg:PG X tg (gB X.K t))(hb:uB X R sa ga)(hs:∀x,foldedSetIterable iter X.env x=pure x) :
 SR X R (.For tg iter sa [] pos) (B8 kd fa t ga):=(Rj hp hc hI hg hb hs).imp λD σ H q=>Wi q
theorem Wj(hp:PassesOwn (model X.prog X.w) X.A X.env X.xe)(hc:ST X c fc)(hb:IW X sa ga):SS X (.While c sa [] pos) (λρ h=>eY fc ga fuel ρ h):=(Q9 hp hc hb).imp λD σ H z9=>z9.el λρ h m fl h' f r e k=>by
 refine⟨λfu σ' H'=>∃ρ' h3 m3,eY fc ga fu ρ' h3=.ok fl h'/\Fr X.K m3 h3.n H' σ' ρ'/\Rel X.K m3 h3 H'/\bW m h.n H m3 h3.n H',⟨fuel,ρ,h,m,e,f,r,.refl⟩,?_⟩;rintro fu σ' H' ⟨ρ',h3,m3,e3,f3,r3,s3⟩;cases fu with
 |zero=>cases e3
 |succ fu=>
  simp only[eY]at e3;refine bT e3 λx h4 e4 e5=>?_;cases x<;>try cases e5
  rename_i b;refine⟨ρ',h3,m3,b,h4,f3,r3,e4,λH4 m4 s4 r4=>?_⟩;cases b with
  |false=>cases e5;simp only[fS,fy];exact k H4 m4 (s3.trans s4) r4 σ' (f3.stp s4)
  |true=>
   simp only[dH];refine bT e5 λB9 h5 e6 e7=>?_;refine⟨λkL H6=>∃jx m6,eY fc ga fu jx h5=.ok fl h'/\Fr X.K m6 h5.n H6 kL jx/\Rel X.K m6 h5 H6/\bW m h.n H m6 h5.n H6,λkL H6 ⟨jx,m6,a1,a2,a3,a4⟩=>⟨fu,pW _,jx,h5,m6,a1,a2,a3,a4⟩,?_⟩;refine⟨ρ',h4,m4,B9,h5,f3.stp s4,r4,e6,λH6 m6 s6 r6=>?_⟩;have rT:=(s3.trans s4).trans s6;cases B9 with|nx jx=>exact λkL f6=>⟨jx,m6,e7,f6,r6,rT⟩|ct jx=>exact λkL f6=>⟨jx,m6,e7,f6,r6,rT⟩|bk jx=>cases e7;exact λkL f6=>k H6 m6 rT r6 kL f6|rt w6=>cases e7;exact λv6 q6=>k H6 m6 rT r6 v6 q6
end
theorem Ca{n:Str}:∀{ps:List Str} {us:List aa},us.length=ps.length->n∈ps->((ps.zip us).lookup n).isSome=true
 |[],_,_,h=>by cases h
 |p::ps,[],hl,_=>by cases hl
 |p::ps,u::us,hl,h=>by
  rw[qL,iy];by_cases e:(n==p)=true;rw[e];rfl;have e':(n==p)=false:=by simpa using e
  rw[e'];refine Ca (by simpa using hl) ?_;rcases iQ.mp h with z|z
  rw[z]at e';simp at e';exact z
theorem Wk{n:Str}{u:aa}{p:Str}{ps:List Str}{us:List aa}(h:n≠p):((p,u)::ps.zip us).lookup n=(ps.zip us).lookup n:=by
 rw[iy];have e':(n==p)=false:=by simpa using h
 rw[e']
theorem NP{α β:Type}{f g:α->Option β}:∀{l:List α},(∀a∈l,f a=g a)->l.filterMap f=l.filterMap g
 |[],_=>rfl
 |a::r,h=>by
  rw[tV,tV,h a fQ,NP λb hb=>h b (eH _ hb)]
theorem Fe:∀{ps:List Str} {us:List aa},us.length=ps.length->ps.Nodup->ps.filterMap (λn=>((ps.zip us).lookup n).map (n,·))=ps.zip us
 |[],_,_,_=>rfl
 |p::ps,[],hl,_=>by cases hl
 |p::ps,u::us,hl,hn=>by
  obtain⟨h1,h2⟩:=zQ.mp hn;rw[qL,tV];have e:((p,u)::ps.zip us).lookup p=aC u:=by rw[iy];simp
  rw[e];simp only[qS];congr 1;have ih:=Fe (ps:=ps) (us:=us) (by simpa using hl) h2;refine Eq.trans ?_ ih;exact NP λn hn'=>by
   have hne:n≠p:=λz=>h1 (by rw[<-z];exact hn');rw[Wk hne]
theorem NQ{x qual:Str}{args:List Arg}{body:List au}{sc:az}{kV doc pm:aa}{an:Option ai}{cdv ct:aa}{us:List aa}{df:List aq}(hl:us.length=(args.map (·.arg)).length)(hn:(args.map (·.arg)).Nodup) :
 bindArgs (PySem.W.fnOf x qual ⟨[],args,aD,[],[],aD,df⟩ body sc .none kV doc pm an cdv ct) ⟨us,[]⟩=pure ((args.map (·.arg)).zip us):=by
 have hs:seqItems? Value.none=pure aD:=rfl;have hm:((args.map (·.arg)).filter λn=>(((args.map (·.arg)).zip us).lookup n).isNone)=[]:=by
  rw[List.filter_eq_nil_iff];intro n hn';have:=Ca hl hn';cases q:((args.map (·.arg)).zip us).lookup n with|none=>rw[q]at this;cases this|some v=>simp
 unfold bindArgs;simp only[PySem.W.fnOf,nu,mD,jj,hs,tZ];have hg:¬(us.length> (args.map (·.arg)).length):=by lia
 have h0:(#[]:Array aa).toList=[]:=rfl;simp only[Option.getD_none,h0,vQ,tZ,List.drop_nil,tX,Nat.sub_zero,List.take_length,hm,List.isEmpty_nil,zJ,List.drop_length,List.zip_nil_right,List.zip_nil_left,gq hg,ym,fS,fy,Fe hl hn]
theorem NR{z:Str}:∀{qs:List Str} {us:List aa},us.length=qs.length->(qs++[z]).zip us=qs.zip us
 |[],[],_=>rfl
 |[],_::_,h=>by cases h
 |_::_,[],h=>by cases h
 |q::qs,u::us,h=>by
  rw[yx,qL,qL,NR (by simpa using h)]
theorem Jc{z:Str}{v:aa}:∀{qs:List Str} {us:List aa},us.length=qs.length->(qs++[z]).zip (us++[v])=qs.zip us++[(z,v)]
 |[],[],_=>rfl
 |[],_::_,h=>by cases h
 |_::_,[],h=>by cases h
 |q::qs,u::us,h=>by
  rw[yx,yx,qL,qL,Jc (by simpa using h),yx]
theorem NS{z:Str}:∀{qs:List Str} {us:List aa},z∉qs->(qs.zip us).lookup z=aD
 |[],_,_=>rfl
 |_::_,[],_=>rfl
 |q::qs,u::us,h=>by
  rw[qL,iy];have e':(z==q)=false:=by simpa using(λe=>h (by rw[e];exact fQ))
  rw[e'];exact NS λe=>h (eH _ e)
section
variable{x qual:Str}{args:List Arg}{df:List aq}{body:List au}{sc:az}{kV doc pm:aa}{an:Option ai}{cdv ct:aa}{t:ai}{o:Obj}{n:Nat}{s:ah}{us:List aa}{qs:List Str}{z:Str}
theorem NT(qs:List Str)(z:Str):List.drop ([Value.none].length- (qs++[z]).length) [Value.none]=[Value.none]:=by rw[dY,iR,iR,show 1- (qs.length+1)=0 by lia];rfl
theorem uD(qs:List Str)(z:Str):(qs++[z]).length - [Value.none].length=qs.length:=by simp
theorem Wl(ha:args.map (·.arg)=qs++[z])(hn:(qs++[z]).Nodup)(ho:s.heap.get? t=aC o)(hd:o.data=.seq #[.none] n)(hl:us.length=(qs++[z]).length) :
 BindsTo s (PySem.W.fnOf x qual ⟨[],args,aD,[],[],aD,df⟩ body sc (.ref t) kV doc pm an cdv ct) ⟨us,[]⟩ ((qs++[z]).zip us):=by
 apply BindsTo.of_defaults (items:=#[.none]) (n:=n) rfl ho hd;unfold bindArgs;simp only[PySem.W.fnOf,nu,mD,jj,vQ,tZ,ha];rfl;have hm:(qs.filter λn=>(((qs++[z]).zip us).lookup n).isNone)=[]:=by
  rw[List.filter_eq_nil_iff];intro n hn';have:=Ca (n:=n) hl (Ek _ hn');cases q:((qs++[z]).zip us).lookup n with|none=>rw[q]at this;cases this|some v=>simp
 have hz:(((qs++[z]).zip us).lookup z).isNone=false:=by
  have:=Ca (n:=z) hl (nt _ (Eo.mpr rfl));cases q:((qs++[z]).zip us).lookup z with|none=>rw[q]at this;cases this|some v=>rfl
 have hg:¬(us.length> (qs++[z]).length):=by lia
 simp only[Option.getD_some,NT,uD,List.take_left',List.take_left,List.drop_left,List.drop_left',hm,gq hg,ym,fS,fy,List.isEmpty_nil,zJ,qL,List.zip_nil_right,zR,vQ,hz,tZ,Fe hl hn]
theorem Wm(ha:args.map (·.arg)=qs++[z])(hn:(qs++[z]).Nodup)(ho:s.heap.get? t=aC o)(hd:o.data=.seq #[.none] n)(hl:us.length=qs.length) :
 BindsTo s (PySem.W.fnOf x qual ⟨[],args,aD,[],[],aD,df⟩ body sc (.ref t) kV doc pm an cdv ct) ⟨us,[]⟩ ((qs++[z]).zip (us++[.none])):=by
 apply BindsTo.of_defaults (items:=#[.none]) (n:=n) rfl ho hd;unfold bindArgs;simp only[PySem.W.fnOf,nu,mD,jj,vQ,tZ,ha];rfl;have hm:(qs.filter λn=>((qs.zip us).lookup n).isNone)=[]:=by
  rw[List.filter_eq_nil_iff];intro n hn';have:=Ca (n:=n) hl hn';cases q:(qs.zip us).lookup n with|none=>rw[q]at this;cases this|some v=>simp
 have Wn:z∉qs:=λh=>(List.nodup_append.mp hn).2.2 z h z (Eo.mpr rfl) rfl;have hz:((qs.zip us).lookup z).isNone=true:=by rw[NS Wn];rfl
 have hg:¬(us.length> (qs++[z]).length):=by rw[dY];lia
 have hl2:(us++[Value.none]).length=(qs++[z]).length:=by rw[dY,dY,hl];rfl
 have ha2:=Fe hl2 hn;rw[Jc hl]at ha2;simp only[Option.getD_some,NT,uD,NR hl,Jc hl,List.take_left',List.take_left,List.drop_left,List.drop_left',hm,gq hg,ym,fS,fy,List.isEmpty_nil,zJ,qL,List.zip_nil_right,zR,vQ,hz,dH,tZ,ha2]
end
structure mW(K:aI)(x qual:Str)(st:au)(f:ai)(fd:av):Prop where
 ex:∃(oc:aa) (od:Option ai) (dV kV doc pm:aa) (an:Option ai) (cdv ct:aa) (osl:Array (Option aa)),fd=PySem.W.fnOf x qual (SD st) (yN st) (gU st) dV kV doc pm an cdv ct/\K.lookup f=aC ⟨oc,od,.func fd,osl⟩/\PySem.W.codeIn K cdv qual=true
 kp:PySem.W.keepIn K (.ref f)=true
theorem mW.ok{P:aj}{w:ak}{K:aI}{mg:Str->Option aa}{base:aA}{x qual:Str}{st:au}{f:ai}{fd:av}{N ps:List Str}{k:Nat}{sp:Sp}(F:mW K x qual st f fd)(S:cu N ps (gU st))(len:∀vs H Q E,sp vs H Q E->vs.length=ps.length)
 (hbody:∀(cdv:aa)(A:ao)(outer:List Env)(s:ah)(H:Hp)(vs:List V)(Q:VK)(E:XK),bS k (A.deeper (envOfC qual (gU st) s.heap.objs.size f cdv))->sp vs H Q E->∃t,fU (gx jJ P w K mg base N qual (gU st) f cdv A outer s H E).dJ (yN st) t/\t {nx:=λ_ H'=>Q .aN H',rt:=Q} (start N vs) H):cD P w K mg base jJ (k+1) f fd ps sp:=
 let⟨_,_,_,_,_,_,_,cdv,_,_,e,lk,hcd⟩:=F.ex
 by subst e;exact ug lk hcd S len λA outer s H vs Q E hr jR=>let⟨t,h,q⟩:=hbody cdv A outer s H vs Q E hr jR;⟨t,h.dJ,q⟩
section
variable{K:aI}{m m':Nat->ai}{n n':Nat}{h h':VH}{H H':Hp}
mutual
theorem aL.fO:∀{v:V} {w:W},aL K m n H v w->W.lt n w=true|_,_,.aN=>rfl|_,_,.bl _=>rfl|_,_,.int _=>rfl|_,_,.str _=>rfl|_,_,.tup _ r=>aG.fO r|_,_,.fz _ r=>aG.fO r|_,_,.ref q=>i8.mpr q|_,_,.bN _=>rfl
theorem aG.fO:∀{vs:List V} {ws:List W},aG K m n H vs ws->W.jK n ws=true
 |_,_,.nil=>rfl
 |_,_,.cons q r=>by
  show(W.lt n _&&W.jK n _)=true;rw[aL.fO q,aG.fO r];rfl
end
mutual
theorem aL.cut:∀{v:V} {w:W},aL K m n' H v w->W.lt n w=true->aL K m n H v w|_,_,.aN,_=>.aN|_,_,.bl b,_=>.bl b|_,_,.int b,_=>.int b|_,_,.str b,_=>.str b|_,_,.tup q r,e=>.tup q (aG.cut r e)|_,_,.fz q r,e=>.fz q (aG.cut r e)|_,_,.ref q,e=>.ref (i8.mp e)|_,_,.bN a,_=>.bN a
theorem aG.cut:∀{vs:List V} {ws:List W},aG K m n' H vs ws->W.jK n ws=true->aG K m n H vs ws
 |_,_,.nil,_=>.nil
 |_,_,.cons q r,e=>by
  have e:(W.lt n _&&W.jK n _)=true:=e;rw[aS]at e;exact .cons (aL.cut q e.1) (aG.cut r e.2)
end
theorem aP.cut{m':Nat->ai}{n1:Nat}{H':Hp}:∀{vs us:List (Key×V)} {ws:List (Key×W)},aP K m n' H vs ws->aP K m' n H' us ws->aP K m n H vs ws|_,_,_,.nil,_=>.nil|_,_,_,.cons q r,.cons q2 r2=>.cons (q.cut q2.fO) (aP.cut (n1:=n1) r r2)
theorem Jd{lo:Nat}(r:Rel K m h H):Rel K m ⟨h.n,lo,h.os⟩ H:=⟨r.obj,r.inj,r.len⟩
theorem Ff{w w2:W}{h1 h2:VH}{v:V}{Q:VK}(r:Rel K m h H)(s:bW m h.n H m' h1.n H')(r1:Rel K m' h1 H')(q:aL K m' h1.n H' v w)(g:fE ⟨h.n,h.n,h.os⟩ h1)(e:leave h w h1=.ok w2 h2)(k:aO K m h.n H w2 h2 Q):Q v H':=by
 unfold leave at e;split at e;rename_i hc;cases e;rw[aS]at hc;have hlo:=kG hc.1;refine k v H' m' ⟨aZ _,s.same,λi a b=>absurd b (jH.mpr a),λi j a b=>absurd b (jH.mpr a),s.tup,s.cG,s.keep⟩ ⟨λi hi=>?_,λi j hi hj=>r1.inj i j (eN hi s.le) (eN hj s.le),r.len⟩ (q.cut hc.2);have hg:h1.get i=h.get i:=g.2.2 i hi (eN hi hlo);obtain⟨o,p1,p2⟩:=r1.obj i (eN hi s.le);rw[hg]at p1;refine⟨o,p1,?_⟩;have p3:=r.at_ p1;cases o with
 |lst ws=>
  obtain⟨vs,a1,a2⟩:=p2;obtain⟨us,b1,b2⟩:=p3;exact⟨vs,a1,a2.cut b2.fO⟩
 |dk ws=>
  obtain⟨vs,a1,a2⟩:=p2;obtain⟨us,b1,b2⟩:=p3;exact⟨vs,a1,aP.cut (n1:=0) a2 b2⟩
 cases e;exact k v H' m' s (Jd r1) q
theorem NU{N:List Str}{vs:List V}{ws:List W}(q:aG K m n H vs ws):Fr K m n H (L2.start N vs) (ws.map aC++aR (N.length-ws.length) aD):=by
 unfold L2.start;refine⟨by simp[q.length],λi w e=>?_⟩;by_cases hi:i<ws.length;rw[yu (by simpa using hi)]at e;rw[yu (by simpa[q.length]using hi)];rw[mz]at e ⊢;cases z:ws[i]? with
 |none=>rw[z]at e;cases e
 |some w'=>
  rw[z]at e;cases e;obtain⟨v,h1,h2⟩:=q.get z;exact⟨v,by rw[h1];rfl,h2⟩
 rw[vM (by simpa using jH.mp hi)]at e;rw[Ei]at e;split at e<;>cases e
end
theorem uE{F:Nat->Option Fn}{k idx:Nat}{ws:List W}{h h':VH}{w:W}{fn:Fn}(hF:F idx=aC fn)(e:run F k idx ws h=.ok w h'):ws.length=fn.ps:=by
 cases k with
 |zero=>cases e
 |succ k=>
  simp only[run,hF]at e;split at e;rename_i hl;exact tY hl;cases e
theorem NV{P:aj}{w:ak}{K:aI}{mg:Str->Option aa}{base:aA}{F:Nat->Option Fn}{k idx:Nat}{fn:Fn}{x qual:Str}{st:au}{f:ai}{fd:av}{N ps:List Str}(hF:F idx=aC fn)(Fu:mW K x qual st f fd)(S:cu N ps (gU st))
 (hn:fn.n=N.length) (hp:fn.ps=ps.length)
 (hbody:∀(cdv:aa)(A:ao)(outer:List Env)(s:ah)(H:Hp)(E:XK),bS k (A.deeper (envOfC qual (gU st) s.heap.objs.size f cdv))->IW (gx jJ P w K mg base N qual (gU st) f cdv A outer s H E).dJ (yN st) (exs (run F k) fn.body)) :
 cD P w K mg base jJ (k+1) f fd ps (mU K ps.length (run F (k+1) idx)):=by
 refine Fu.ok S (λvs H Q E h=>h.1) λcdv A outer s H vs Q E hr jR=>?_;refine⟨_,hbody cdv A outer s H E hr,?_⟩;obtain⟨hl,h,m,ws,w2,h2,r,q,e,k2⟩:=jR;have hws:=uE hF e;simp only[run,hF]at e;split at e;refine bT e λfl h1 e1 e2=>?_;have g:=za (zb F k) _ _ _ _ _ e1;have hN:fn.n-fn.ps=N.length-ws.length:=by rw[hn,hws]
 rw[hN]at e1;refine⟨_,⟨h.n,h.n,h.os⟩,m,fl,h1,NU q,Jd r,e1,λH' m' s' r'=>?_⟩;cases fl with|nx ρ=>exact λσ' f'=>Ff r s' r' .aN g e2 k2|rt w3=>exact λv q3=>Ff r s' r' q3 g e2 k2|bk _=>cases e2|ct _=>cases e2
 cases e
theorem NW{P:aj}{w:ak}{K:aI}{mg:Str->Option aa}{base:aA}{F:Nat->Option Fn}{idx:Nat}{f:ai}{fd:av}{ps:List Str}:cD P w K mg base jJ 0 f fd ps (mU K ps.length (run F 0 idx)):=
 ⟨λvs H Q E h=>h.1,λA outer s H args us vs Q E hr he hb hv hs=>by obtain⟨_,h,m,ws,w2,h2,r,q,e,k2⟩:=hs;cases e⟩
noncomputable def Cb(K:aI)(C:ai)(f:Str):Bool:=match PySem.W.findIn K (.ref C) f with|some aD=>true|_=>false
theorem Je{K:aI}{C:ai}{f:Str}(h:Cb K C f):LW K C f:=by unfold Cb at h;split at h;rename_i e;exact e;cases h
noncomputable def uF(x:Str):Option Str:=if x==("Fault.__init__" : Str)then aC "__init__"else aD
noncomputable def cM(K:aI)(x:Str):Option ai:=if(uF x).isSome then aD else(match PySem.W.nsIn K mainGlobals x with|some (aC (.ref f))=>aC f|_=>aD)
theorem ze{K:aI}{x:Str}{f:ai}(h:cM K x=aC f):PySem.W.nsIn K mainGlobals x=aC (aC (.ref f)):=by unfold cM at h;split at h;cases h;split at h;rename_i g e;cases h;exact e;cases h
end RF
namespace XR
open PySem PySem.Spec PyProof.Rows
section
variable{M:Model}{A:ao}{E:aa->ah->Prop}{s:ah}{base:aA}{env:Env}{outer:List Env}{L e:ai}{c:aa}{dx:Option ai}{vs:Array aa}{sl:Array (Option aa)}
structure Nt(fs ts:List ai)(h h':aA):Prop where
 keep:∀b o,h.get? b=aC o->b∉fs->b∉ts->h'.get? b=aC o
 slot:∀b o,h.get? b=aC o->b∈fs->b∉ts->∃sl,h'.get? b=aC {o with slots:=sl}
 size:h.objs.size<=h'.objs.size
theorem Nt.trans{fs ts:List ai}{h h1 h2:aA}(a:Nt fs ts h h1)(b:Nt fs ts h1 h2):Nt fs ts h h2:=
 ⟨λx o q n m=>b.keep x o (a.keep x o q n m) n m,λx o q n m=>by
  obtain⟨s1,q1⟩:=a.slot x o q n m;obtain⟨s2,q2⟩:=b.slot x _ q1 n m;exact⟨s2,q2⟩,gu a.size b.size⟩
theorem Nt.mono{fs ts ts':List ai}{h h':aA}(a:Nt fs ts h h')(k:∀b∈ts,b∈ts'):Nt fs ts' h h':=
 ⟨λx o q n m=>a.keep x o q n λz=>m (k x z),λx o q n m=>a.slot x o q n λz=>m (k x z),a.size⟩
theorem Nt.upd{fs:List ai}{h:aA}{b:ai}{f:Obj->Obj}:Nt fs [b] h (h.update b f):=by have k:∀x,x∉[b]->(h.update b f).get? x=h.get? x:=λx m=>vL _ _ λz=>m (by simp[z]);exact⟨λx o q _ m=>(k x m).trans q,λx o q _ m=>⟨o.slots,(k x m).trans q⟩,Nat.le_of_eq (Heap.size_after_update ..).symm⟩
theorem Nt.push{fs ts:List ai}{h h':aA}{o:Obj}(a:Nt fs ts h h'):Nt fs ts h (h'.push o):=
 ⟨λx ob q n m=>cC _ (a.keep x ob q n m),λx ob q n m=>by
  obtain⟨s1,q1⟩:=a.slot x ob q n m;exact⟨s1,cC _ q1⟩,by rw[nq];exact zT a.size⟩
theorem NX{h:aA}{b:ai}{c:aa}{dx:Option ai}{vs:Array aa}{sl:Array (Option aa)}{f:Array aa->Array aa}(q:h.get? b=aC ⟨c,dx,.fields vs,sl⟩) :
 (h.update b (Obj.mapFields f)).get? b=aC ⟨c,dx,.fields (f vs),sl⟩:=yt (Obj.mapFields f) q rfl
theorem NY{hd:aa}{more:Bool}{Q:Unit->ah->Prop}(hfr:A.frames=aC (env::outer))(hl:s.heap.FunFrames base (env::outer))(hf:env.frame=aC L)
 (he:s.heap.get? e=aC ⟨c,dx,.fields vs,sl⟩) (hne:e∉(env::outer).filterMap (·.frame)) (hz:1<vs.size)
 (h:∀h' ts,Nt ((env::outer).filterMap (·.frame)) [e] s.heap h'->h'.get? e=aC ⟨c,dx,.fields (vs.setIfInBounds 1 (.ref s.heap.objs.size)),sl⟩->h'.get? s.heap.objs.size=aC ⟨.type "traceback",aD,.fields ts,#[]⟩->ts[3]?=aC (rawInt L)->Q () {s with heap:=h'}) :
 wpAny M A (do let a <-frameOf env;let pl <-entryPlaceOf L more;let b <-EntryCells.newEntry hd a .none (rawInt L) .none pl;setField (.ref e) 1 b) Q E s:=by
 refine aJ (wpAny_frameOf_fun hfr hl hf λh1 so=>aJ (wpAny_entryPlaceOf λpl hpl=>?_));have n1:Nt ((env::outer).filterMap (·.frame)) [e] s.heap h1:=⟨λb o q n _=>(so.2.1 b n).trans q,λb o q _ _=>so.2.2 b o q,Nat.le_of_eq so.1.symm⟩
 have e1:h1.get? e=aC ⟨c,dx,.fields vs,sl⟩:=(so.2.1 e hne).trans he;unfold EntryCells.newEntry newFields;refine aJ (qH ?_ (hpl.sizeOk5 _ _ _ _ _));refine zM (cC _ e1) rfl hz ?_;have hsz:h1.objs.size=s.heap.objs.size:=so.1;have hlt:e<h1.objs.size:=cF e1;rw[hsz];refine h _ ([hd,.ref L,.none,rawInt L,.none]++(if pl.isEmpty then aR 6 Value.none else pl)).toArray (n1.push.trans Nt.upd) (NX (cC _ e1)) ?_ ?_;rw[vL _ _ (by rw[<-hsz];exact eB hlt),<-hsz];exact ji _ rfl;first|(simp;done)|(rcases hpl with rfl|⟨_,_,_,_,_,_,_,rfl⟩<;>simp)
structure Ex(h:aA)(e T C:ai)(dx:Option ai)(fl:Option aa):Prop where
 ex:∃vs sl,h.get? e=aC ⟨.ref C,dx,.fields vs,sl⟩/\match fl with|none=>vs[1]?=aC .none|some f=>vs[1]?=aC (.ref T)/\T≠e/\∃ts,h.get? T=aC ⟨.type "traceback",aD,.fields ts,#[]⟩/\ts[3]?=aC f
theorem note{C T:ai}{fl:Option aa}{Q:Unit->ah->Prop}(hfr:A.frames=aC (env::outer))(hl:s.heap.FunFrames base (env::outer))(hf:env.frame=aC L)
 (x:Ex s.heap e T C dx fl) (hne:e∉(env::outer).filterMap (·.frame)) (hnt:T∉(env::outer).filterMap (·.frame)) (hfl:fl=aD\/fl=aC .none)
 (h:∀h',Nt ((env::outer).filterMap (·.frame)) [e,T] s.heap h'->Ex h' e s.heap.objs.size C dx (aC (rawInt L))->Q () {s with heap:=h'}):wpAny M A (noteFrame (.ref e) env) Q E s:=by
 obtain⟨vs,sl,he,hx⟩:=x.ex;unfold noteFrame;simp only[hf];rcases hfl with rfl|rfl;have h1:vs[1]?=aC .none:=hx;refine aJ (iP he rfl h1 ?_);rw[if_neg (by decide)];refine NY hfr hl hf he hne (yC.mp h1).1 λh' ts n q1 q2 q3=>h h' (n.mono λb z=>by simp at z;simp[z]) ⟨_,_,q1,?_,?_,_,q2,q3⟩;rw[Array.getElem?_setIfInBounds_self_of_lt (yC.mp h1).1];exact lg (cF he);obtain⟨h1,Fg,ts,ht,h3⟩:=(show vs[1]?=aC (.ref T)/\T≠e/\∃ts,s.heap.get? T=aC ⟨.type "traceback",aD,.fields ts,#[]⟩/\ts[3]?=aC Value.none from hx)
 refine aJ (iP he rfl h1 ?_);rw[if_pos (show(Value.ref T != Value.none)=true from by simp)];refine aJ (iP ht rfl h3 ?_);rw[if_neg (show ¬((Value.none==rawInt L)=true)from by simp[rawInt])];refine aJ (zM ht rfl (yC.mp h3).1 ?_);have n0:Nt ((env::outer).filterMap (·.frame)) [T] s.heap (s.heap.update T (Obj.mapFields (·.setIfInBounds 3 .none))):=Nt.upd;have sz:(s.heap.update T (Obj.mapFields (·.setIfInBounds 3 .none))).objs.size=s.heap.objs.size:=Heap.size_after_update ..;refine NY (base:=base) hfr (hl.of_keeps λb o q nf=>?_) hf (n0.keep e _ he hne (by simpa using eE Fg)) hne (yC.mp h1).1 λh' ts' n q1 q2 q3=>?_;by_cases hb:b=T;subst hb;rw[ht]at q;cases q;exact absurd rfl (nf ts);exact⟨o,(vL _ _ (eE hb)).trans q,rfl⟩;rw[sz]at q1 q2;refine h h' ((n0.mono λb z=>by simp at z;simp[z]).trans (n.mono λb z=>by simp at z;simp[z])) ⟨_,_,q1,?_,?_,_,q2,q3⟩;rw[Array.getElem?_setIfInBounds_self_of_lt (yC.mp h1).1];exact lg (cF he)
theorem land{C T:ai}{f:aa}{fs:List ai}{Q:Unit->ah->Prop}(x:Ex s.heap e T C dx (aC f))(h:∀h',Nt fs [T] s.heap h'->Ex h' e T C dx (aC .none)->Q () {s with heap:=h'}):wpAny M A (setFlight (.ref e) aD) Q E s:=by obtain⟨vs,sl,he,h1,Fg,ts,ht,h3⟩:=x.ex;unfold setFlight;refine aJ (iP he rfl h1 ?_);rw[if_pos (show(Value.ref T != Value.none)=true from by simp)];have l3:=(yC.mp h3).1;refine zM ht rfl l3 (h _ Nt.upd ⟨vs,sl,(vL _ _ Fg).trans he,h1,Fg,_,NX ht,?_⟩);rw[Array.getElem?_setIfInBounds_self_of_lt l3];rfl
theorem leave{C T:ai}{fl:Option aa}{Q:Unit->ah->Prop}(hfr:A.frames=aC (env::outer))(hl:s.heap.FunFrames base (env::outer))(hf:env.frame=aC L)
 (x:Ex s.heap e T C dx fl) (hne:e∉(env::outer).filterMap (·.frame)) (hnt:T∉(env::outer).filterMap (·.frame)) (hfl:fl=aD\/fl=aC .none)
 (h:∀h',Nt ((env::outer).filterMap (·.frame)) [e,T,s.heap.objs.size] s.heap h'->Ex h' e s.heap.objs.size C dx (aC .none)->Q () {s with heap:=h'}):wpAny M A (leaving env (.ref e)) Q E s:=by
 unfold leaving;refine aJ (note hfr hl hf x hne hnt hfl λh1 n1 x1=>land (fs:=(env::outer).filterMap (·.frame)) x1 λh2 n2 x2=>h h2 ((n1.mono λb z=>?_).trans (n2.mono λb z=>?_)) x2);simp at z;rcases z with z|z<;>simp[z]
 simp at z;simp[z]
end
end XR
namespace L2
open PySem PySem.Spec PyProof.Rows
noncomputable def gY(C:ai)(dx:Option ai)(a:ai):HO:=.ext λh=>∃vs sl,h.get? a=aC ⟨.ref C,dx,.fields vs,sl⟩
section
variable{P:aj}{w:ak}{H:Hp}{h:aA}{a C:ai}{dx:Option ai}{vs:Array aa}{sl:Array (Option aa)}
theorem Jf(e:h.get? a=aC ⟨.ref C,dx,.fields vs,sl⟩):bf P w H h a (gY C dx a):=⟨⟨vs,sl,e⟩,⟨_,e⟩,λ_ _ ⟨v',s',q⟩ k=>⟨v',s',k _ q⟩⟩
theorem Wo(ok:dS P w H h)(e:H a=aC (gY C dx a)):∃vs sl,h.get? a=aC ⟨.ref C,dx,.fields vs,sl⟩:=(ok a _ e).1
end
noncomputable def kD(P:aj)(w:ak):lB:=λouter H s E e s'=>∃x T C dx H',e=.ref x/\s'.os=s.os/\AllBare s'.gens/\Un (frs outer) [] H H' s.heap s'.heap/\dS P w H' s'.heap/\XR.Ex s'.heap x T C dx (aC .none)/\
 s.heap.objs.size<=x/\s.heap.objs.size<=T/\H' x=aC (gY C dx x)/\H' T=aD/\E (.ref C) dx H'
noncomputable def dN(X:Cx)(E:XK)(e:aa)(s':ah):Prop:=∃x T C dx fl pins σ H',e=.ref x/\Inv X pins σ H' s'/\XR.Ex s'.heap x T C dx fl/\((fl=aD/\T=x)\/(fl=aC .none/\H' T=aD))/\
 X.s₀.heap.objs.size<=x/\X.s₀.heap.objs.size<=T/\H' x=aC (gY C dx x)/\E (.ref C) dx H'
section
variable{X:Cx}{E:XK}{pins:List (ai×Obj)}{σ:St}{H:Hp}{s:ah}
theorem Inv.jN{b:ai}{c:aa}{d:Option ai}{vs:Array aa}{sl:Array (Option aa)}(I:Inv X pins σ H s)(e:s.heap.get? b=aC ⟨c,d,.fields vs,sl⟩):b∉frs X.stack:=λhb=>by
 obtain⟨_,o,ho,nf⟩:=I.stack.mem hb;rw[e]at ho;cases ho;exact nf vs rfl
theorem Ex.jN{x T C:ai}{dx:Option ai}{fl:Option aa}(I:Inv X pins σ H s)(q:XR.Ex s.heap x T C dx fl)(h:(fl=aD/\T=x)\/(fl=aC .none/\H T=aD)):x∉frs X.stack/\T∉frs X.stack:=by obtain⟨vs,sl,he,r⟩:=q.ex;refine⟨I.jN he,?_⟩;rcases h with⟨_,rfl⟩|⟨rfl,_⟩;exact I.jN he;obtain⟨_,_,ts,ht,_⟩:=r;exact I.jN ht
theorem dS.noted{fs ts:List ai}{h':aA}{x C:ai}{dx:Option ai}{vs:Array aa}{sl:Array (Option aa)}{P:aj}{w:ak}(ok:dS P w H s.heap)(n:XR.Nt fs ts s.heap h')(hf:∀b∈fs,H b=aD)(ht:∀b∈ts,b=x\/H b=aD)
 (hx:H x=aC (gY C dx x)) (e:h'.get? x=aC ⟨.ref C,dx,.fields vs,sl⟩):dS P w H h':=λb u q=>by
 by_cases hb:b=x;subst hb;rw[hx]at q;cases q;exact Jf e;refine(ok b u q).stay (λc v hc k=>n.keep c v k ?_ ?_) (λ_ z=>z) λ_ _ z=>z;intro z;have:=hf c z;rcases hc with rfl|hc
 rw[q]at this;cases this;rw[hc]at this;cases this;intro z;rcases ht c z with rfl|z
 rcases hc with rfl|hc;exact hb rfl;rw[hx]at hc;cases hc;rcases hc with rfl|hc;rw[q]at z;cases z;rw[hc]at z;cases z
theorem Wq{e:aa}{s':ah}{Er:aa->ah->Prop}(hs:X.stack=X.env::X.outer)(hf:X.env.frame=aC X.env.locals)(Wr:X.ex=[])(q:dN X E e s') :
 wpAny (model X.prog X.w) X.A (leaving X.env e) (λ_ s''=>kD X.prog X.w X.outer X.H₀ X.s₀ E e s'') Er s':=by
 obtain⟨x,T,C,dx,fl,pins,σ,H',rfl,I,ex,hfl,lx,lT,hx,hE⟩:=q;obtain⟨nx,nT⟩:=Ex.jN I ex hfl;have NZ:=I.ie;have stk:=I.stack;have sub:=I.jl;rw[hs]at nx nT NZ stk sub;refine XR.leave (base:=X.base) (L:=X.env.locals) (by rw[I.ok.frames,hs]) stk hf ex nx nT (hfl.elim (λz=>.inl z.1) λz=>.inr z.1) λh' n ex'=>?_;have N1:∀b o,X.s₀.heap.get? b=aC o->b<X.s₀.heap.objs.size:=λb o q=>cF q;have sz:=I.sz;have Fi:∀b o,X.s₀.heap.get? b=aC o->b∉[x,T,s'.heap.objs.size]:=λb o q z=>by
  have:=N1 b o q;simp at z;rcases z with z|z|z<;>rw[z]at this
  exact absurd lx (Nat.not_le.mpr this);exact absurd lT (Nat.not_le.mpr this);exact absurd sz (Nat.not_le.mpr this)
 have nL:∀b o,X.s₀.heap.get? b=aC o->b≠X.env.locals:=λb o q=>eB (eN (N1 b o q) I.ok.above);obtain⟨vs,sl,he,r⟩:=ex'.ex;have hb:=I.base;rw[Wr]at hb;refine⟨x,s'.heap.objs.size,C,dx,H',rfl,I.os,I.bare,⟨λb o q z hb1 hb2=>?_,λb o q z hb1 hb2=>?_,hb.free,λb o q hb2=>?_,hb.tups,hb.gT,hb.iz⟩,dS.noted I.hok n NZ (λb z=>?_) hx he,ex',lx,sz,hx,I.hok.fresh (aZ _),hE⟩;refine n.keep b o (hb.keep b o q z hb1 hb2) (λm=>?_) (Fi b o q);rcases iQ.mp (sub b m)with m|m
 exact nL b o q m;exact hb1 m;obtain⟨s1,q1⟩:=hb.slot b o q z hb1 hb2;obtain⟨s2,q2⟩:=n.slot b _ q1 (by show b∈(X.env::X.outer).filterMap (·.frame);rw[tV,hf];exact eH _ hb1) (Fi b o q);exact⟨s2,q2⟩;obtain⟨o',q1⟩:=hb.there b o q hb2;by_cases m:b∈(X.env::X.outer).filterMap (·.frame);obtain⟨s2,q2⟩:=n.slot b o' q1 m (Fi b o q);exact⟨_,q2⟩;exact⟨o',n.keep b o' q1 m (Fi b o q)⟩;simp at z;rcases z with rfl|rfl|rfl
 exact .inl rfl;rcases hfl with⟨_,z⟩|⟨_,z⟩
 exact .inl z;exact .inr z;exact .inr (I.hok.fresh (aZ _))
theorem Cc:wg (kD X.prog X.w) (X.cK (dN X E)) E:=by intro pins σ H s e s' I q;obtain⟨x,T,C,dx,H',rfl,os,bare,un,hok,ex,lx,lT,hx,hT,hE⟩:=q;have I:=I.bG;obtain⟨hh,g,d,t,os'⟩:=s';obtain rfl:os'=s.os:=os;exact⟨x,T,C,dx,aC .none,pins,σ,H',rfl,I.call (h':=hh) (g':=g) (d':=d) (t':=t) (ch:=[]) un hok bare (λb z=>absurd z (by simp)),ex,.inr ⟨rfl,hT⟩,gu I.sz lx,gu I.sz lT,hx,hE⟩
theorem Ws{C:ai}{x:Str}{p cpos pos:Pos}(M:HY X.K C)(hc:X.calm)(hg:Gl X x)(hm:X.mg x=aC (.ref C))(hdb:autoParam ((x==("__debug__" : Str))=false) L2.aD1._auto_1) :
 PS (X.cK (dN X E)) (.Raise (aC (.Call (.Name x p) [] [] cpos)) aD pos) (λ_ _ H=>∀a,H a=aD->E (.ref C) aD (upd H a (gY C aD a))):=by
 intro pins s σ H D I h;have I:=I.bG;obtain⟨nm,qn,N,bs,bm,hd,sn,sub,ab,col,dd,k0,k1,k2,k3,k5,hC,T⟩:=XL.cU I.eF M.cls;have hb:bm.contains (.type "BaseException")=true:=T.hasType (by decide +kernel);have ev:wpAny (model X.prog X.w) X.A (eval (.Call (.Name x p) [] [] cpos) X.env) (λv s1=>∃e t,v=.ref e/\s1.heap.get? C=aC (excClassObj nm qn C N bs bm hd sn sub ab col dd k0 k1 k2 k3 k5 "ValueError.__new__")/\s1.heap.get? e=aC (XL.aT C aD t)/\dN X E (.ref e) s1) (dN X E) s:=by refine qz (vW I hg hm ?_ hdb);refine PySem.W.callWith_K0 I.eF M.kp (XL.mO I.eF M.cls M.init (jG _) λh' t kk he=>?_);have hle:s.heap.objs.size<=s.heap.objs.size+1:=vec _;exact⟨_,t,rfl,kk _ _ hC,he,_,_,C,aD,aD,pins,σ,_,rfl,I.laid (t':=s.toks) kk hle (Jf he),⟨_,_,he,rfl⟩,.inl ⟨rfl,rfl⟩,gu I.sz hle,gu I.sz hle,fB,h _ (I.hok.fresh hle)⟩
 show wpAny (model X.prog X.w) X.A (exec (.Raise (aC (.Call (.Name x p) [] [] cpos)) aD pos) X.env) _ (dN X E) s;rw[arm_exec_Raise];first
  |exact aJ (jF (wpAny_raiseStmt_made_sub (C:=C) hb (I.ok.hd hc) (aJ (aY ev λv s1 q=>aJ (jF (bJ q))))))
  |(simp only[evalOpt,Option.map];exact aJ (jF (wpAny_raiseStmt_made_sub (C:=C) hb (I.ok.hd hc) (aJ (aY ev λv s1 q=>aJ (jF (bJ q)))))))
  |(show wpAny _ _ (do standAt pos;raiseStmt X.env (aC (do let v <-eval (.Call (.Name x p) [] [] cpos) X.env;standAt pos;pure v)) aD) _ _ s;exact aJ (jF (wpAny_raiseStmt_made_sub (C:=C) hb (I.ok.hd hc) (aJ (aY ev λv s1 q=>aJ (jF (bJ q)))))))
end
structure At(X:Cx)(pins:List (ai×Obj))(σ:St)(H:Hp)(s:ah)(x T C:ai)(dx:Option ai)(f:aa):Prop where
 I:Inv X pins σ H s
 ex:XR.Ex s.heap x T C dx (aC f)
 hx:H x=aC (gY C dx x)
 hT:H T=aD
 lx:X.s₀.heap.objs.size<=x
 lT:X.s₀.heap.objs.size<=T
 pT:∀p∈X.pn++pins,p.1≠T
section
variable{X:Cx}{pins:List (ai×Obj)}{σ:St}{H:Hp}{s:ah}{x T C:ai}{dx:Option ai}{f f':aa}
theorem Inv.lJ{b:ai}{c:aa}{d:Option ai}{vs:Array aa}{sl:Array (Option aa)}(I:Inv X pins σ H s)(e:s.heap.get? b=aC ⟨c,d,.fields vs,sl⟩):b≠X.env.locals/\∀y c,X.env.cells.lookup y=aC c->c≠b:=by refine⟨?_,?_⟩;rintro rfl;obtain⟨m,⟨o,es,ep,ho,hd,_⟩,_⟩:=I.loc;rw[e]at ho;cases ho;cases hd;rintro y c' hc rfl;obtain⟨v,o,ho,hd⟩:=I.cell y c' hc;rw[e]at ho;cases ho;cases hd
theorem At.step{h':aA}{ts:List ai}{T':ai}(a:At X pins σ H s x T C dx f)(n:XR.Nt (frs X.stack) ts s.heap h')(hts:∀b∈ts,b=x\/b=T\/b=s.heap.objs.size)(Jg:T'=T\/T'=s.heap.objs.size)
 (ex':XR.Ex h' x T' C dx (aC f')):At X pins σ H {s with heap:=h'} x T' C dx f':=by
 obtain⟨vs,sl,he,_⟩:=ex'.ex;obtain⟨Ie,sl0,N2,_,_,ts0,ht0,_⟩:=a.ex.ex;have I:=a.I;have fr:∀b,s.heap.objs.size<=b->H b=aD:=λb z=>I.hok.fresh z;have np:∀p∈X.pn++pins,p.1<s.heap.objs.size:=λp hp=>cF (I.pin p hp).1;have fx:∀b,H b=aD->b≠x:=λb z q=>by rw[q,a.hx]at z;cases z
 have un:∀b∈ts,b≠x->H b=aD:=λb hb q=>by
  rcases hts b hb with z|z|z;exact absurd z q;rw[z];exact a.hT;rw[z];exact fr _ (aZ _)
 have I':Inv X pins σ H {s with heap:=h'}:=by
  refine I.call (h':=h') (g':=s.gens) (d':=s.drawn) (t':=s.toks) (ch:=ts) ⟨λb o q z hb hc=>n.keep b o q hb hc,λb o q z hb hc=>n.slot b o q hb hc,λb o q z _=>z,λb o q hc=>?_,λ_ _ q=>q,λ_ _ _ q=>q,λb ps q=>⟨#[],by rw[q];simp⟩⟩
   (dS.noted I.hok n I.ie (λb z=>?_) a.hx he) I.bare λb hb=>?_
  by_cases m:b∈frs X.stack;obtain⟨s2,q2⟩:=n.slot b o q m hc;exact⟨_,q2⟩;exact⟨o,n.keep b o q m hc⟩;by_cases q:b=x;exact .inl q;exact .inr (un b z q);rcases hts b hb with rfl|rfl|rfl
  exact⟨.inr a.lx,(I.lJ N2).1,(I.lJ N2).2,λp hp q=>by have:=(I.pin p hp).2.1;rw[q,a.hx]at this;cases this⟩;exact⟨.inr a.lT,(I.lJ ht0).1,(I.lJ ht0).2,a.pT⟩;refine⟨.inr I.sz,lg I.lt,λy c hc=>?_,λp hp=>eB (np p hp)⟩;obtain⟨v,o,ho,_⟩:=I.cell y c hc;exact eB (cF ho)
 refine⟨I',ex',a.hx,?_,a.lx,?_,?_⟩;rcases Jg with rfl|rfl
 exact a.hT;exact fr _ (aZ _);rcases Jg with rfl|rfl
 exact a.lT;exact I.sz;rcases Jg with rfl|rfl
 exact a.pT;exact λp hp=>eB (np p hp)
theorem At.noted{E:aa->ah->Prop}{Q:Unit->ah->Prop}(a:At X pins σ H s x T C dx .none)(hs:X.stack=X.env::X.outer)(hf:X.env.frame=aC X.env.locals)(h:∀s' T',At X pins σ H s' x T' C dx (rawInt X.env.locals)->Q () s') :
 wpAny (model X.prog X.w) X.A (noteFrame (.ref x) X.env) Q E s:=by
 obtain⟨n1,n2⟩:=Ex.jN a.I a.ex (.inr ⟨rfl,a.hT⟩);have stk:=a.I.stack;rw[hs]at n1 n2 stk;refine XR.note (base:=X.base) (by rw[a.I.ok.frames,hs]) stk hf a.ex n1 n2 (.inr rfl) λh' n ex'=>h _ s.heap.objs.size (a.step (by rw[hs];exact n) (λb z=>?_) (.inr rfl) ex');simp at z;rcases z with z|z;exact .inl z;exact .inr (.inl z)
theorem At.lands{M:Model}{A:ao}{E:aa->ah->Prop}{Q:Unit->ah->Prop}(a:At X pins σ H s x T C dx f)(h:∀s',At X pins σ H s' x T C dx .none->Q () s'):wpAny M A (setFlight (.ref x) aD) Q E s:=
 XR.land (fs:=frs X.stack) a.ex λh' n ex'=>h _ (a.step n (λb z=>by simp at z;exact .inr (.inl z)) (.inl rfl) ex')
theorem At.of{E:XK}{e:aa}{s':ah}(I:Inv X pins σ H s)(q:kD X.prog X.w X.stack H s E e s'):∃x T C dx H',e=.ref x/\At X pins σ H' s' x T C dx .none/\E (.ref C) dx H':=by obtain⟨x,T,C,dx,H',rfl,os,bare,un,hok,ex,lx,lT,hx,hT,hE⟩:=q;obtain⟨hh,g,d,t,os'⟩:=s';obtain rfl:os'=s.os:=os;exact⟨x,T,C,dx,H',rfl,⟨I.call (h':=hh) (g':=g) (d':=d) (t':=t) (ch:=[]) un hok bare (λb z=>absurd z (by simp)),ex,hx,hT,gu I.sz lx,gu I.sz lT,λp hp=>eB (eN (cF (I.pin p hp).1) lT)⟩,hE⟩
noncomputable abbrev _root_.L2.Cx.hand(X:Cx)(x:ai):Cx:={X with A:=X.A.mark (aC (.ref x)),calm:=false,xe:=λ_ _=>False}
theorem Cx.Ok.hand(ok:X.Ok)(x:ai):(X.hand x).Ok:=
 ⟨ok.mod,ok.kind,ok.glob,ok.blt,ok.above,ok.inj,ok.has,ok.vV,(λz=>nomatch z),ok.frames,ok.stk,ok.yG,ok.bs,ok.nM,ok.kJ,ok.kK,ok.fM,ok.pY⟩
theorem Inv.hand(I:Inv X pins σ H s)(x:ai):Inv (X.hand x) pins σ H s:=⟨I.ok.hand x,I.os,I.bare,I.base,I.loc,I.cell,I.free,I.dz,I.pin,I.hok,I.len⟩
theorem Inv.jy(ok:X.Ok)(I:Inv (X.hand x) pins σ H s):Inv X pins σ H s:=⟨ok,I.os,I.bare,I.base,I.loc,I.cell,I.free,I.dz,I.pin,I.hok,I.len⟩
theorem Inv.gone{M:Model}{A:ao}{E:aa->ah->Prop}{i:Nat}{y:Str}{pos:Pos}{Q:Unit->ah->Prop}(I:Inv X pins σ H s)(hN:X.N.Nodup)(hi:X.N[i]?=aC y)(hk:X.env.kindOf y=aC .local)
 (h:∀s',Inv X pins (σ.set i aD) H s'->Q () s'):wpAny M A (do bindName X.env y .none;unbindBehindTheSuite X.env y pos) Q E s:=by
 obtain⟨m,hn,hl⟩:=I.loc;have hcls:(X.env.scope.kind == .class|| (X.env.scope.kind == .module&&X.env.locals != X.env.globals))=false:=by rw[I.ok.kind];rfl
 have qX:i<σ.length:=by rw[I.len];exact(ku.mp hi).1
 refine wpAny_nameGoes_keeps hk hn hcls λh' v hn' hs=>h _ ?_;have low:∀b o,X.s₀.heap.get? b=aC o->b≠X.env.locals:=λb o e=>eB (eN (cF e) I.ok.above);refine⟨I.ok,I.os,I.bare,⟨λb o e n hb hx=>(hs.2 b (low b o e)).trans (I.base.keep b o e n hb hx),λb o e n hb hx=>?_,I.base.free,λb o e hx=>?_,I.base.tups,I.base.gT,I.base.iz⟩,⟨_,hn',λj z v' e1 e2 e3=>?_⟩,λz c e=>?_,I.free,I.dz,λp hp=>?_,λb u e=>?_,by simpa using I.len⟩;obtain⟨sl,e1⟩:=I.base.slot b o e n hb hx;exact⟨sl,(hs.2 b (low b o e)).trans e1⟩;obtain⟨o',e1⟩:=I.base.there b o e hx;exact⟨o',(hs.2 b (low b o e)).trans e1⟩;by_cases hj:j=i;subst hj;rw[pS qX]at e2;cases e2;rw[vO (eE hj)]at e2;obtain⟨u',r',q⟩:=hl j z v' e1 e2 e3;refine⟨u',r',?_⟩;rcases q with⟨k,e⟩|⟨k,c,e,w⟩
 have:z≠y:=λe=>hj (GG hN e1 (e▸hi));exact .inl ⟨k,by simp[this,e]⟩;exact .inr ⟨k,c,e,w.sameBut hs (I.qW z c e)⟩;obtain⟨w',z⟩:=I.cell z c e;exact⟨w',z.sameBut hs (I.qW _ c e)⟩;obtain⟨e,n,ne,nf,d⟩:=I.pin p hp;exact⟨(hs.2 p.1 ne).trans e,n,ne,nf,d⟩;refine(I.hok b u e).stay (λc w' hc q=>(hs.2 c ?_).trans q) (λ_ q=>q) λ_ _ q=>q;rintro rfl;have fl:=I.free;rcases hc with rfl|hc
 rw[fl]at e;cases e;rw[fl]at hc;cases hc
end
noncomputable def mX(K:aI)(C D:ai):Bool:=XL.cV K C&&XL.cV K D&&match K.lookup C with
 |some o=>(match o.data with
  |.cls cd=>cd.mro.contains (.ref D)
  |_=>false)
 |none=>false
section
variable{M:Model}{A:ao}{E:aa->ah->Prop}{s:ah}{K:aI}{C D x:ai}{oe:Obj}
theorem Wt{Q:Bool->ah->Prop}(X:K.In s.heap)(hs:mX K C D)(he:s.heap.get? x=aC oe)(hc:oe.cls=.ref C)(h:Q true s):wpAny M A (excMatches (.ref x) (.ref D)) Q E s:=by
 unfold mX at hs;rw[aS,aS]at hs;obtain⟨⟨hC,hD⟩,hm⟩:=hs;obtain⟨nm,qn,N,bs,bm,hd,sn,sub,ab,col,dd,k0,k1,k2,k3,k5,oC,T⟩:=XL.cU X hC;obtain⟨nm',qn',N',bs',bm',hd',sn',sub',ab',col',Ig,k0',k1',k2',k3',k5',oD,T'⟩:=XL.cU X hD;have c1:(Value.ref D::bm').contains (.type "BaseException")=true:=by rw[List.contains_cons,T'.hasType (X:="BaseException") (b:=true) (by decide +kernel),Ec]
 have c2:(Value.ref C::bm).contains (.ref D)=true:=by
  cases q:K.lookup C with
  |none=>rw[q]at hm;cases hm
  |some o=>
   rw[q]at hm;have:=X C o q;rw[oC]at this;cases this;exact hm
 have f:=tc_notTuple;obtain⟨hp,g,d,tk,os⟩:=s;unfold excMatches
 repeat(first
  |(with_reducible refine pQ he ?_;rw[hc])
  |with_reducible refine pQ oD ?_
  |(with_reducible refine vE oD ?_;rw[c1])
  |(with_reducible refine vE oC ?_;rw[c2])
  |wp_step)
 exact h
end
noncomputable def wU(K:aI)(D:ai)(i:Nat)(th:TS)(D0:Ends)(σ:St):XK:=λc dx H2=>∃C,c=.ref C/\mX K C D=true/\
 ∀x,H2 x=aC (gY C dx x)->th {nx:=λσ' H'=>D0.nx (σ'.set i aD) H',rt:=D0.rt,bk:=λσ' H'=>D0.bk (σ'.set i aD) H',ct:=λσ' H'=>D0.ct (σ'.set i aD) H'} (σ.set i (aC (.ref x))) H2
structure cy(k:Nat)(A:ao):Prop where
 dp:A.depth+k+2<recursionLimit
 un:A.units+4*k+100<cLine
theorem bS.h2{k:Nat}{A:ao}(r:bS k A):cy 2 A:=⟨by have:=r.dp;lia,by have:=r.un;lia⟩
theorem bS.h{k:Nat}{A:ao}{v:Option aa}(r:bS k A):cy 2 (A.mark v):=⟨r.h2.dp,r.h2.un⟩
noncomputable abbrev Cd(A:ao):ao:={A with handled:=aD}
theorem cy.depth{k:Nat}{A:ao}(r:cy k A):A.depth<recursionLimit:=by have:=r.dp;lia
theorem cy.deeper{k:Nat}{A:ao}(r:cy (k+1) A)(env:Env):cy k (A.deeper env):=
 ⟨by have:=r.dp;show A.depth+1+k+2<_;lia,by have:=r.un;show A.units+3+4*k+100<_;lia⟩
structure dO(P:aj)(w:ak)(K:aI)(mg:Str->Option aa)(base:aA)(k:Nat)(f:ai)(fd:av)(ps:List Str)(sp:List V->Hp->VK->Prop):Prop where
 len:∀vs H Q,sp vs H Q->vs.length=ps.length
 run:∀(A:ao)(outer:List Env)(s:ah)(H:Hp)(args:Args)(us:List aa)(vs:List V)(Q:VK),cy k A->jQ P w K mg base A outer s H->BindsTo s fd args (ps.zip us)->Vals vs us->sp vs H Q->
  codeAny (model P w) A (.call (.ref f) args) (CR jJ outer P w H s Q E0) s
noncomputable abbrev Ce(P:aj)(w:ak)(K:aI)(mg:Str->Option aa)(base:aA)(N:List Str)(qual:Str)(scope:az)(f:ai)(cd:aa)(A:ao)(outer:List Env)(s:ah)(H:Hp):Cx:=
 {gx jJ P w K mg base N qual scope f cd A outer s H E0 with calm:=false,xe:=λ_ _=>False}
theorem N3{P:aj}{w:ak}{K:aI}{mg:Str->Option aa}{base:aA}{k:Nat}{f:ai}{name qual:Str}{params:Arguments}{body:List au}{scope:az}{dV kV doc pm cdv ct oc:aa}{an od:Option ai}
 {osl:Array (Option aa)} {N ps:List Str} {sp:List V->Hp->VK->Prop} (lk:K.lookup f=aC ⟨oc,od,.func (PySem.W.fnOf name qual params body scope dV kV doc pm an cdv ct),osl⟩) (hcd:PySem.W.codeIn K cdv qual) (S:cu N ps scope)
 (len:∀vs H Q,sp vs H Q->vs.length=ps.length)
 (hbody:∀(A:ao)(outer:List Env)(s:ah)(H:Hp)(vs:List V)(Q:VK),cy k (A.deeper (envOfC qual scope s.heap.objs.size f cdv))->sp vs H Q->
   ∃t,fU (Ce P w K mg base N qual scope f cdv A outer s H) body t/\t {nx:=λ_ H'=>Q .aN H',rt:=Q} (start N vs) H) :
 dO P w K mg base (k+1) f (PySem.W.fnOf name qual params body scope dV kV doc pm an cdv ct) ps sp:=by
 refine⟨len,λA outer s H args us vs Q hr e0 hb r jR=>?_⟩;have hl:=len _ _ _ jR;have KX:K.In s.heap:=e0.mod.t7.keeps λb o e=>(e0.bs b o e).1;have lim:s.heap.NoLimit:=e0.mod.nolimit.keeps λb o e=>(e0.bs b o e).1;have hkind:∀y∈ps.zip us,scope.names.lookup y.1=aC .local\/(scope.names.lookup y.1=aC .cell/\((cellsFrom (s.heap.objs.size+1) scope.names []).lookup y.1).isSome):=λdi hy=>by
  obtain⟨n,v⟩:=di;rcases S.par n (Et hy).1 with q|q;exact .inl q;exact .inr ⟨q,PySem.W.cellsFrom_some _ _ _ (.inl q)⟩
 refine codeAny_call_function hr.depth (KX _ _ lk) rfl S.co S.gen rfl (PySem.W.codeRec_of KX hcd) (hb _ _ _ _ ?_);refine wpAny_newFunctionEnv_cells S.kind hkind λenv he s1 x=>?_;subst he;refine⟨lim.keeps x.toInCall.keep,codeAny_func ?_⟩;obtain⟨t,ht,hq⟩:=hbody A outer s H vs Q (hr.deeper _) jR;have J:Inv (gx jJ P w K mg base N qual scope f cdv (Cd A) outer s H E0) [] (start N vs) H s1:=L6 S rfl ⟨e0.frames,e0.mod,e0.bs,e0.nM,e0.fM,e0.pY,e0.hok,e0.bare⟩ hl r x;have ok:=J.ok;have I:Inv (Ce P w K mg base N qual scope f cdv A outer s H) [] (start N vs) H s1:=
  ⟨⟨ok.mod,ok.kind,ok.glob,ok.blt,ok.above,ok.inj,ok.has,ok.vV,(λz=>nomatch z),ok.frames,ok.stk,ok.yG,ok.bs,ok.nM,ok.kJ,ok.kK,ok.fM,ok.pY⟩,J.os,J.bare,J.base,J.loc,J.cell,J.free,J.dz,J.pin,J.hok,J.len⟩
 refine gQ (ht [] s1 (start N vs) H _ I hq) (λfl s' hs=>?_) λe s' hs=>hs.elim;have fin:∀{σ':St}{H':Hp}{v:V}{u:aa},Inv (Ce P w K mg base N qual scope f cdv A outer s H) [] σ' H' s'->RelV v u->Q v H'->CE outer P w H s Q u s':=
  λ{σ' H' v u} J rv q=>⟨v,H',J.os,J.bare,J.base,J.hok,rv,q⟩
 cases fl with
 |ret u=>
  obtain⟨v,σ',H',J,rv,q⟩:=hs;exact fin J rv q
 |next=>
  obtain⟨σ',H',J,q⟩:=hs;exact fin (v:=V.aN) (u:=Value.none) J rfl q
 |brk=>
  obtain⟨_,_,_,q⟩:=hs;exact False.elim q
 |cont=>
  obtain⟨_,_,_,q⟩:=hs;exact False.elim q
section
variable{X:Cx}{k:Nat}{f:ai}{fd:av}{ps:List Str}{sp:List V->Hp->VK->Prop}{x:Str}{p pos:Pos}{e:aq}{es:List aq}{t:TA}
theorem N4(F:dO X.prog X.w X.K X.mg X.base k f fd ps sp)(hr:cy k X.A)(hg:Gl X x)(hm:X.mg x=aC (.ref f))(hk:PySem.W.keepIn X.K (.ref f))(hb:Binds X.K fd ps [])
 (ha:PA X (e::es) t) (hdb:autoParam ((x==("__debug__" : Str))=false) L2.aD1._auto_1) (he:autoParam (starEach (e::es) X.env=(false,eval e X.env)::starEach es X.env) L2.aR1._auto_1) (hpl:autoParam ((backTo pos (starEach es X.env)).any (·.1)=false) L2.aR1._auto_1) :
 PE X (.Call (.Name x p) (e::es) [] pos) (λσ H Q=>t σ H λvs H1=>sp vs H1 Q):=by
 intro pins s σ H Q I h;refine qz (vW I hg hm ?_ hdb);refine zX (h₀:=X.base) I.ok.mod.t7 hk (aY (ha pos pins s σ H _ I h) λus s1 z9=>z9.el λvs H1 I1 r q=>⟨I1.eF,?_⟩) he hpl;have len:us.length=ps.length:=by rw[<-r.length];exact F.len _ _ _ q
 have hb1:=hb s1 us I1.eF (by rw[jj];exact len);rw[jj]at hb1;refine qI (vI (F.run X.A X.stack s1 H1 ⟨us,[]⟩ us vs Q hr I1.rm hb1 r q) λres s' hq=>?_);cases res with
 |error er=>exact False.elim hq
 |ok fl=>
  cases fl with|ret u=>exact I1.after hq|next=>exact False.elim hq|brk=>exact False.elim hq|cont=>exact False.elim hq
end
end L2
namespace RF
open PySem PySem.Spec PyProof.Rows L2
noncomputable def Hx(H H':Hp):Prop:=∀a o,H a=aC o->H' a=aC o
theorem Hx.refl{H:Hp}:Hx H H:=λ_ _ q=>q
theorem Hx.trans{H H1 H2:Hp}(a:Hx H H1)(b:Hx H1 H2):Hx H H2:=λx o q=>b x o (a x o q)
theorem Hx.new{H:Hp}{p:ai}{o:HO}(hp:H p=aD):Hx H (upd H p o):=λa u q=>by
 rw[bX (λz=>by rw[z,hp]at q;cases q)];exact q
end RF
namespace L2
open PySem PySem.Spec PyProof.Rows
noncomputable def Cf(dx:Option ai)(H:Hp):Prop:=∀d,dx=aC d->∃fs,H d=aC (p9 fs d)
noncomputable def rV(C a:ai)(H:Hp):Prop:=∃dx,H a=aC (gY C dx a)/\Cf dx H
theorem rV.mono{C a:ai}{H H':Hp}(h:rV C a H)(k:RF.Hx H H'):rV C a H':=by obtain⟨dx,q,d⟩:=h;exact⟨dx,k _ _ q,λe z=>let⟨fs,y⟩:=d e z;⟨fs,k _ _ y⟩⟩
noncomputable def wV(C:ai)(E:XK)(H:Hp):Prop:=∀H' dx a,RF.Hx H H'->H' a=aC (gY C dx a)->Cf dx H'->E (.ref C) dx H'
theorem wV.plain{C:ai}{E:XK}{H:Hp}(h:wV C E H):∀a,H a=aD->E (.ref C) aD (upd H a (gY C aD a)):=λa ha=>h _ aD a (.new ha) fB λ_ z=>nomatch z
section
variable{M:Model}{A:ao}{E:aa->ah->Prop}{env:Env}{s:ah}
variable{nm q:Str}{C N:ai}{bs bm:List aa}{hdct:Bool}{sn:List Str}{sub:List aa}{ab:Bool}{col:Option Bool}{dd:Option ai}{k0 k1 k2 k3 k5:Option aa}{nw:String}
theorem Jh{x:Sem aa}{Q:Flow->ah->Prop}(hb:bm.contains (.type "BaseException"))(hh:A.handled=aD)
 (h:wpAny M A x (λv z=>∃e t dx,v=.ref e/\z.heap.get? C=aC (excClassObj nm q C N bs bm hdct sn sub ab col dd k0 k1 k2 k3 k5 nw)/\z.heap.get? e=aC (XL.aT C dx t)/\E (.ref e) z) E s) :
 wpAny M A (raiseStmt env (aC x) aD) Q E s:=by
 have hB:(Value.ref C::bm).contains (.type "BaseException")=true:=by rw[List.contains_cons,hb,Ec]
 unfold raiseStmt;refine aJ (gQ h (λv z y=>?_) λ_ _ y=>y);obtain⟨e,t,dx,rfl,hC,he,hE⟩:=y;obtain⟨hp,g,d,tk,os⟩:=z;unfold XL.aT at he
 repeat(first
  |with_reducible refine pQ he ?_
  |with_reducible refine pQ hC ?_
  |(with_reducible refine vE hC ?_;rw[hB])
  |wp_step)
 exact wpAny_raiseNew_none hh hE
end
noncomputable def Fj(C:ai):List V->Hp->VK->Prop:=λvs H Q=>∃a x y,vs=[.ref a,x,y]/\H a=aC (gV C aD a)/\
 ∀dx fs H',H dx=aD->H' a=aC (gV C (aC dx) a)->H' dx=aC (p9 fs dx)->(∀b o,b≠a->H b=aC o->H' b=aC o)->Q .aN H'
theorem cy.make{k:Nat}{A:ao}(r:cy (k+1) A)(C:ai)(us:List aa):cy k (A.under (.builtin "type.__call__" ⟨.ref C::us,[]⟩)):=
 ⟨by have:=r.dp;rw[RQ];lia,by have:=r.un;rw[RS];lia⟩
section
variable{X:Cx}{E:XK}{C f:ai}{fd:av}{ps:List Str}{x:Str}{p cpos pos:Pos}{e:aq}{es:List aq}{t:TA}
theorem Wu(M:HZ X.K C f)(F:dO X.prog X.w X.K X.mg X.base 1 f fd ps (Fj C))(hr:cy 2 X.A)(hb:Binds X.K fd ps [])(hc:X.calm)(hg:Gl X x)(hm:X.mg x=aC (.ref C))(ha:PA X.dJ (e::es) t)
 (hdb:(x==("__debug__" : Str))=false) (he:starEach (e::es) X.env=(false,eval e X.env)::starEach es X.env) (hpl:(backTo cpos (starEach es X.env)).any (·.1)=false) :
 PS (X.cK (dN X E)) (.Raise (aC (.Call (.Name x p) (e::es) [] cpos)) aD pos) (λ_ σ H=>t σ H λvs H1=>vs.length=2/\wV C E H1):=by
 intro pins s σ H D I h;have I:=I.bG;obtain⟨nm,qn,N,bs,bm,hd,sn,sub,ab,col,dd,k0,k1,k2,k3,k5,hC,T⟩:=XL.cU I.eF M.cls;have hB:bm.contains (.type "BaseException")=true:=T.hasType (by decide +kernel);obtain⟨oC,hK⟩:∃o,X.K.lookup C=aC o:=by
  cases z:X.K.lookup C with
  |some o=>exact⟨o,rfl⟩
  |none=>
   have:=M.cls;unfold XL.cV at this;simp[z]at this
 have eC:oC=excClassObj nm qn C N bs bm hd sn sub ab col dd k0 k1 k2 k3 k5 "ValueError.__new__":=by have:=I.eF C oC hK;rw[hC]at this;cases this;rfl
 subst eC;have ev:wpAny (model X.prog X.w) X.A (eval (.Call (.Name x p) (e::es) [] cpos) X.env) (λv s1=>∃e t dx,v=.ref e/\s1.heap.get? C=aC (excClassObj nm qn C N bs bm hd sn sub ab col dd k0 k1 k2 k3 k5 "ValueError.__new__")/\s1.heap.get? e=aC (XL.aT C dx t)/\dN X E (.ref e) s1) (dN X E) s:=by
  refine qz (vW I hg hm ?_ hdb);refine zX (h₀:=X.base) I.ok.mod.t7 M.kp (gQ (ha cpos pins s σ H _ (I.cK _) h) (λus s1 z9=>z9.el λvs H1 I1 r ⟨hz,q⟩=>?_) λ_ _ z=>z.elim) he hpl;have I1:=I1.bG;refine⟨I1.eF,?_⟩;have hle:s1.heap.objs.size<=s1.heap.objs.size+1:=vec _;have hfr:H1 (s1.heap.objs.size+1)=aD:=I1.hok.fresh hle;have e2:((s1.heap.push {cls:=.type "tuple",data:=.seq us.toArray}).push (XL.aT C aD s1.heap.objs.size)).get? (s1.heap.objs.size+1)=aC (XL.aT C aD s1.heap.objs.size):=by
   have:=ji (s1.heap.push {cls:=.type "tuple",data:=.seq us.toArray}) (o:=XL.aT C aD s1.heap.objs.size) rfl
   rwa [nq]at this
  have I2:Inv X pins σ (upd H1 (s1.heap.objs.size+1) (gV C aD (s1.heap.objs.size+1))) {s1 with heap:=(s1.heap.push {cls:=.type "tuple",data:=.seq us.toArray}).push (XL.aT C aD s1.heap.objs.size)}:=
   I1.laid (t':=s1.toks) (λb u q=>cC _ (cC _ q)) hle (MJ e2)
  have r2:Vals (V.ref (s1.heap.objs.size+1)::vs) (Value.ref (s1.heap.objs.size+1)::us):=.cons rfl r;obtain⟨v1,v2,rfl⟩:∃v1 v2,vs=[v1,v2]:=by
   match vs,hz with|[a,b],_=>exact⟨a,b,rfl⟩
  have hq:Fj C [.ref (s1.heap.objs.size+1),v1,v2] (upd H1 (s1.heap.objs.size+1) (gV C aD (s1.heap.objs.size+1))) (λv H2=>v=.aN/\∃dx fs,H1 dx=aD/\dx≠s1.heap.objs.size+1/\H2 (s1.heap.objs.size+1)=aC (gV C (aC dx) (s1.heap.objs.size+1))/\H2 dx=aC (p9 fs dx)/\RF.Hx H1 H2):=
   ⟨_,v1,v2,rfl,fB,λdx fs H' d1 d2 d3 d4=>by
    have hne:dx≠s1.heap.objs.size+1:=λz=>by rw[z,fB]at d1;cases d1
    rw[bX hne]at d1;exact⟨rfl,dx,fs,d1,hne,d2,d3,λb o z=>by
     have hbn:b≠s1.heap.objs.size+1:=λy=>by rw[y,hfr]at z;cases z
     exact d4 b o hbn (by rw[bX hbn];exact z)⟩⟩
  have hl:(Value.ref (s1.heap.objs.size+1)::us++[]).length=ps.length:=by rw[jj,<-r2.length];exact F.len _ _ _ hq
  have hb2:=hb _ (Value.ref (s1.heap.objs.size+1)::us) I2.eF hl;rw[jj]at hb2;refine qI (XL.mL I1.eF M.cls M.init (i6.mp M.fn) (by show us.length<=sizeLine;rw[<-r.length];show 2<=sizeLine;decide) (vI (F.run _ X.stack _ _ ⟨Value.ref (s1.heap.objs.size+1)::us,[]⟩ (Value.ref (s1.heap.objs.size+1)::us) _ _ (hr.make C us)
   (I2.rm.make C us []) hb2 r2 hq) λr s' hq'=>?_))
  cases r with
  |error e=>exact False.elim hq'
  |ok fl=>
   cases fl with
   |ret u=>
    obtain⟨v,H',I3,rv,ev,dx,fs,g1,g2,g3,g4,g5⟩:=I2.after hq';subst ev;obtain⟨tt,ht⟩:=HX I3.hok g3;have I4:Inv X pins σ (upd H' (s1.heap.objs.size+1) (gY C (aC dx) (s1.heap.objs.size+1))) s':=
     I3.write (h':=s'.heap) (t':=s'.toks) (x:=s1.heap.objs.size+1) (e:=s1.heap.objs.size+1) (by rw[g3];exact True.intro) (.inl rfl) (λb u _ z=>z) ⟨_,ht⟩ (Jf ht)
    refine⟨rv,_,tt,aC dx,rfl,I3.eF _ _ hK,ht,_,_,C,aC dx,aD,pins,σ,_,rfl,I4,⟨_,_,ht,rfl⟩,.inl ⟨rfl,rfl⟩,gu I1.sz hle,gu I1.sz hle,fB,?_⟩;refine q _ (aC dx) _ (λb o z=>?_) fB λd hd=>?_;have hbn:b≠s1.heap.objs.size+1:=λy=>by rw[y,hfr]at z;cases z
    rw[bX hbn];exact g5 b o z;cases hd;exact⟨fs,by rw[bX g2];exact g4⟩
   |next=>exact False.elim hq'
   |brk=>exact False.elim hq'
   |cont=>exact False.elim hq'
 show wpAny (model X.prog X.w) X.A (exec (.Raise (aC (.Call (.Name x p) (e::es) [] cpos)) aD pos) X.env) _ (dN X E) s;rw[arm_exec_Raise];first
  |exact aJ (jF (Jh (C:=C) hB (I.ok.hd hc) (aJ (aY ev λv s1 q=>aJ (jF (bJ q))))))
  |(simp only[evalOpt,Option.map];exact aJ (jF (Jh (C:=C) hB (I.ok.hd hc) (aJ (aY ev λv s1 q=>aJ (jF (bJ q)))))))
  |(show wpAny _ _ (do standAt pos;raiseStmt X.env (aC (do let v <-eval (.Call (.Name x p) (e::es) [] cpos) X.env;standAt pos;pure v)) aD) _ _ s;exact aJ (jF (Jh (C:=C) hB (I.ok.hd hc) (aJ (aY ev λv s1 q=>aJ (jF (bJ q)))))))
end
theorem PS.zf{X:Cx}{E:XK}{st:au}{t:TS}(h:PS (X.cK (dN X E)) st t)(k:∀e s,dN X E e s->X.xe e s):PS X st t:=λpins s σ H D I hw=>
 gQ (h pins s σ H D (I.cK _) hw) (λ_ _ z=>SP.bG z) k
theorem PI.dJ{X:Cx}{tg it:aq}{t:TI}(h:PI X.dJ tg it t):PI X tg it t:=λpins s σ H R I hw=>
 gQ (h pins s σ H R (I.cK _) hw) (λv s1 q=>gQ q (λitv s2 ⟨i,fp,tn,J,H',e,I',T,t0,f0,r⟩=>⟨i,fp,tn,J,H',e,I'.bG,T,t0,f0,r⟩) λ_ _ z=>z.elim) λ_ _ z=>z.elim
theorem PG.dJ{X:Cx}{tg:aq}{t:TG}(h:PG X.dJ tg t):PG X tg t:=λpins s σ H v u Q I r hw=>
 gQ (h pins s σ H v u Q (I.cK _) r hw) (λ_ _ ⟨σ',H',I',q⟩=>⟨σ',H',I'.bG,q⟩) λ_ _ z=>z.elim
theorem PA.dJ{X:Cx}{es:List aq}{t:TA}(h:PA X.dJ es t):PA X es t:=λpos pins s σ H Q I hw=>
 gQ (h pos pins s σ H Q (I.cK _) hw) (λ_ _ ⟨vs,H',I',r,q⟩=>⟨vs,H',I'.bG,r,q⟩) λ_ _ z=>z.elim
section
variable{X:Cx}
noncomputable def Wv(K:aI):V->List V->Hp->VK->Prop:=λx vs H Q=>∃p xs y ds d j e,x=.ref p/\vs=[y]/\cN K H p xs/\kC K (λ_=>False) H xs ds/\Rp K (λ_=>False) H y d/\ds.all SeqAt.shaped=true/\SeqAt.shaped d=true/\
 ds[j]?=aC e/\PyData.eqv e d=true/\(∀(m:Nat)(e:aB),m<j->ds[m]?=aC e->PyData.eqv e d=false)/\(j:Int)<2 ^ 63-1/\Q (.int (j:Nat)) H
theorem Ww(hu:X.A.in1.units+64<cLine):EV X "list.index" (Wv X.K):=by
 intro pins s σ H x vs v us Q I rx rv h;obtain⟨p,xs,y,ds,d,j,ej,rfl,rfl,hq,r1,r2,s1,s2,hj,Wx,Wy,hsm,q⟩:=h;cases rx;obtain⟨u,rfl,ru⟩:=rv.one;obtain⟨bs,rb⟩:=r2.reads I ru;obtain⟨its,r,pl,hz⟩:=I.list hq;obtain⟨as,ra⟩:=r1.reads I r;obtain⟨⟨c,dd,dt,sl⟩,n,e1,e2,e4,e3⟩:=pl
 replace e2:c=.type "list":=e2
 replace e3:dt=.seq its.toArray n:=e3;subst e2 e3;have len:its.length=ds.length:=wD ra;have hjl:j<its.toArray.size:=by rw[dR,len];exact(ku.mp hj).1
 have at':∀(m:Nat)(hm:m<its.toArray.size),its[m]?=aC its.toArray[m]:=λm hm=>by
  rw[k9 (by simpa using hm)];rfl
 refine nJ PySem.F.slot_list_index ⟨_,e1,rfl⟩ PySem.F.entry_list_index (PySem.F.args_list_index_2 _ _) (SeqAt.list_indexAt p its.toArray n dd sl u (dF its ds d) j hjl hsm ?_ λm hm hlt=>?_) ⟨e1,λw hw=>yR ?_ ra rb s1 s2 w (by simpa using hw),?_⟩;rw[Iq ra s1 (at' j hjl) hj];exact Wx;have hm':m<ds.length:=by rw[<-len];simpa using hm
 rw[Iq ra s1 (at' m hm) (k9 hm')];exact Wy m _ hlt (k9 hm');exact hu;exact⟨.int _,H,I.tok _,⟨_,rfl⟩,q⟩
noncomputable def Ji(K:aI)(c:aa)(cv:V):List V->Hp->VK->Prop:=λxs H Q=>∃a C b,xs=[.ref a,cv]/\rV C a H/\XL.jn K C/\PySem.W.kitOne K (.ref C) c=aC b/\Q (.bl b) H
theorem Wz{c:aa}{cv:V}(hc:oj cv=aC c):dM X (.builtin "isinstance") (Ji X.K c cv):=by
 intro pins s σ H xs us Q I r h;obtain⟨a,C,b,rfl,ea,kk,e,q⟩:=h;obtain⟨u,u2,rfl,rx,rc⟩:=vals2 r;have e2:u2=c:=by
  cases cv with|ty n=>cases hc;exact rc|ref a=>cases hc;exact rc|_=>cases hc
 subst e2;obtain rfl:u=Value.ref a:=rx;obtain⟨dx,ea,hd⟩:=ea;obtain⟨vs,sl,ht⟩:=Wo I.hok ea;have hin:∃od,PySem.W.InstAt s.heap a ⟨.ref C,dx,.fields vs,sl⟩ C od:=by
  cases dx with
  |none=>exact⟨aD,ht,rfl,rfl,trivial⟩
  |some d=>
   obtain⟨fs,ed⟩:=hd d rfl;obtain⟨mA,n1,_⟩:=ML I.hok ed;obtain⟨od,hod,_⟩:=Hi n1;exact⟨aC od,ht,rfl,rfl,hod⟩
 obtain⟨od,hin⟩:=hin;exact lu (XL.oh (od:=od) kk) I.eF hin e (λz=>nomatch z) λtk=>⟨.bl b,H,I.tok _,rfl,q⟩
end
end L2
namespace RF
open PySem PySem.Spec PyProof.Rows L2
noncomputable def Cg(C:ai)(z:Str):List V->Hp->VK->Prop:=λvs H Q=>∃a,vs=[.ref a]/\rV C a H/\∀H',Hx H H'->Q (.str z) H'
section
variable{K:aI}{m m':Nat->ai}{n:Nat}{h h':VH}{H H':Hp}
theorem Rel.hx(r:Rel K m h H)(k:Hx H H'):bW m h.n H m h.n H'/\Rel K m h H':=by
 have st:bW m h.n H m h.n H':=⟨aZ _,λ_ _=>rfl,λj a b=>absurd b (jH.mpr a),λj k a b=>absurd b (jH.mpr a),λb vs q=>k _ _ q,λb o t q=>k _ _ q,λb o nb q=>k _ _ q⟩
 refine⟨st,⟨λj hj=>?_,r.inj,r.len⟩⟩;obtain⟨o',h1,h2⟩:=r.obj j hj;obtain⟨u',h3⟩:=h2.some;exact⟨o',h1,gg.stp st (by rw[h3];exact k _ _ h3) h2⟩
noncomputable def Jj(K:aI)(m:Nat->ai)(n:Nat)(H:Hp)(C:ai)(h':VH)(E:XK):Prop:=∀H' m',bW m n H m' h'.n H'->Rel K m' h' H'->wV C E H'
noncomputable def rW(K:aI)(m:Nat->ai)(n:Nat)(H:Hp)(w:W)(h':VH)(Q:VK)(E:XK):Prop:=match w with|.tup [x]=>aO K m n H x h' Q|.int i=>Jj K m n H i.toNat h' E|_=>False
noncomputable def qg(K:aI)(np:Nat)(g:List W->VH->Res W):Sp:=λvs H Q E=>vs.length=np/\∃h m ws w h',Rel K m h H/\aG K m h.n H vs ws/\g ws h=.ok w h'/\rW K m h.n H w h' Q E
noncomputable def Jk(K:aI)(m:Nat->ai)(n:Nat)(H:Hp)(Q:VK)(E:XK)(w:W):Prop:=match w with|.tup [x]=>∀v,aL K m n H v x->Q v H|.int i=>wV i.toNat E H|_=>False
noncomputable abbrev Rx(K:aI)(E:XK):rQ:=λm n H Q w=>Jk K m n H Q E w
end
noncomputable def ff:S->Bool|.seq a b=>ff a&&ff b|.ite _ a b=>ff a&&ff b|.for _ _ _ b=>ff b|.yT _ b=>ff b|.ret _=>false|.ou _ _ _=>false|.mR ..=>false|.jq ..=>false|_=>true
noncomputable def Jl:Fl->Bool|.rt _=>true|_=>false
noncomputable def gi(r:Res Fl):Prop:=∀fl h',r=.ok fl h'->Jl fl=false
theorem gi.bind{α:Type}{r:Res α}{f:α->VH->Res Fl}(k:∀a h,gi (f a h)):gi (r.bind f):=λfl h' e=>bT e λa h1 _ e2=>k a h1 fl h' e2
theorem gi.no:gi .no:=λ_ _ e=>nomatch e
theorem gi.of{o:Option En}{h:VH}:gi (.of (o.map .nx) h):=λfl h' e=>by
 obtain⟨e,_⟩:=of_ok e;cases o with|none=>cases e|some ρ=>cases e;rfl
theorem gi.nx{ρ:En}{h:VH}:gi (.ok (.nx ρ) h):=λ_ _ e=>by cases e;rfl
theorem Jm{nx:Nat->VH->Option (Option W)}{tg:W->VH->En->Option En}{b:En->VH->Res Fl}(hb:∀ρ h,gi (b ρ h)):∀(f i:Nat) (ρ:En) (h:VH),gi (eG nx tg b f i ρ h)
 |0,_,_,_=>.no
 |f+1,i,ρ,h=>by
  simp only[eG];split;exact .no;exact .nx;split;exact .no;intro fl h' e;refine bT e λmV h1 e1 e2=>?_;have:=hb _ _ mV h1 e1;cases mV with|nx ρ=>exact Jm hb f _ _ _ fl h' e2|ct ρ=>exact Jm hb f _ _ _ fl h' e2|bk ρ=>cases e2;rfl|rt w=>cases this
theorem Jo{c:En->VH->Res W}{b:En->VH->Res Fl}(hb:∀ρ h,gi (b ρ h)):∀(f:Nat) (ρ:En) (h:VH),gi (eY c b f ρ h)
 |0,_,_=>.no
 |f+1,ρ,h=>by
  simp only[eY];refine .bind λt h1=>?_;split;exact .nx;intro fl h' e;refine bT e λmV h1 e1 e2=>?_;have:=hb _ _ mV h1 e1;cases mV with|nx ρ=>exact Jo hb f _ _ fl h' e2|ct ρ=>exact Jo hb f _ _ fl h' e2|bk ρ=>cases e2;rfl|rt w=>cases this
  exact .no
theorem Jp{cl:Call}:∀(s:S),ff s=true->∀(ρ:En) (h:VH),gi (exs cl s ρ h):=by
 intro s;induction s with
 |skip=>intro _ ρ h;exact .nx
 |seq a b i1 i2=>
  intro hs ρ h;simp only[ff,aS]at hs;intro fl h' e;simp only[exs]at e;refine bT e λmV h1 e1 e2=>?_;have:=i1 hs.1 _ _ mV h1 e1;cases mV with|nx qf=>exact i2 hs.2 _ _ fl h' e2|bk _=>cases e2;rfl|ct _=>cases e2;rfl|rt _=>cases this
 |set i e=>intro _ ρ h;simp only[exs];exact .bind λw h1=>.nx
 |jo is e=>intro _ ρ h;simp only[exs];exact .bind λw h1=>.of
 |aug i o e=>
  intro _ ρ h;simp only[exs];split;exact .bind λy h1=>.bind λz h2=>.nx;exact .no
 |put o i v=>
  intro _ ρ h;simp only[exs];refine .bind λw h1=>.bind λx h2=>.bind λy h3=>?_;split;split;split;exact .nx;exact .no;exact .no;exact .no
 |rK o bl lo bh hi v=>
  intro _ ρ h;simp only[exs];refine .bind λw h1=>.bind λx h2=>.bind λl h3=>.bind λu h4=>?_;split;exact .bind λ_ h5=>.nx;exact .no
 |ite c a b i1 i2=>
  intro hs ρ h;simp only[ff,aS]at hs;simp only[exs];refine .bind λx h1=>?_;split;exact i1 hs.1 _ _;exact i2 hs.2 _ _;exact .no
 |ret e=>intro hs;cases hs
 |expr e=>intro _ ρ h;simp only[exs];exact .bind λw h1=>.nx
 |brk=>intro _ ρ h fl h' e;cases e;rfl
 |cnt=>intro _ ρ h fl h' e;cases e;rfl
 | «for» k a t b i1=>intro hs ρ h;simp only[exs];exact .bind λx h1=>Jm (i1 hs) _ _ _ _
 |yT c b i1=>intro hs ρ h;simp only[exs];exact Jo (i1 hs) _ _ _
 |ou f a tb=>intro hs;cases hs
 |mR j a fs tb=>intro hs;cases hs
 |jq f a b s t=>intro hs;cases hs
 |no=>intro _ ρ h;exact .no
theorem _root_.L2.PS.dJ{X:Cx}{st:au}{t:TS}(h:PS X.dJ st t):PS X st t:=λpins s σ H D I hw=>gQ (h pins s σ H D (I.cK _) hw) (λ_ _ z=>SP.bG z) λ_ _ z=>z.elim
section
variable{X:Cx}{E:XK}{c e:aq}{fa fc:FE}{pos p:Pos}{x:Str}{st:au}{sts sa sb:List au}{gs gt:FS}
noncomputable abbrev SX(X:Cx)(E:XK)(st:au)(f:FS):Prop:=SR X (Rx X.K E) st f
noncomputable abbrev Fo(X:Cx)(E:XK)(st:List au)(f:FS):Prop:=uB X (Rx X.K E) st f
structure wW(X:Cx)(E:XK):Prop where
 zf:∀e s,dN X E e s->X.xe e s
 own:PassesOwn (model X.prog X.w) X.A X.env X.xe
theorem N5{cl:Call}{s:S}(h:SS X.dJ st (exs cl s))(hs:ff s):SX X E st (exs cl s):=(PS.dJ h).imp λD σ H z9=>z9.el λρ h m fl h' f r e k=>.mk f r e λH' m' s' r'=>by
 have n:=Jp s hs ρ h fl h' e;have:=k H' m' s' r';cases fl with|nx _=>exact this|bk _=>exact this|ct _=>exact this|rt _=>cases n
theorem WA(he:SE X.dJ e fa):SX X E (.Return (aC e) pos) (λρ h=>(fa ρ h).bind λw h=>.ok (.rt (.tup [w])) h):=(An (PE.dJ he)).imp λD σ H z9=>z9.el λρ h m fl h' f r e k=>by
 refine bT e λw h1 e1 e2=>?_;cases e2;exact(.mk f r e1 λv H1 m1 s1 r1 q1=>k H1 m1 s1 r1 v q1)
theorem WB{C:ai}{cpos:Pos}(F:wW X E)(M:HY X.K C)(hc:X.calm)(hg:Gl X x)(hm:X.mg x=aC (.ref C))(hdb:(x==("__debug__" : Str))=false) :
 SX X E (.Raise (aC (.Call (.Name x p) [] [] cpos)) aD pos) (λ_ h=>.ok (.rt (.int C)) h):=((Ws M hc hg hm hdb).zf F.zf).imp λD σ H z9=>z9.el λρ h m fl h' f r e k=>by
 cases e;exact wV.plain (k H m .refl r)
theorem WC{C g:ai}{fd:av}{ps:List Str}{es:List aq}{cpos:Pos}{ga:FE}(F:wW X E)(M:HZ X.K C g)(G:dO X.prog X.w X.K X.mg X.base 1 g fd ps (Fj C))(hr:cy 2 X.A)(hb:Binds X.K fd ps [])(hc:X.calm)(hg:Gl X x)(hm:X.mg x=aC (.ref C))(hdb:(x==("__debug__" : Str))=false)
 (ha:SA X.dJ (e::es) ga) (hst:(e::es).all fJ):SX X E (.Raise (aC (.Call (.Name x p) (e::es) [] cpos)) aD pos) (λρ h=>(ga ρ h).bind λy h=>match y with|.tup [_,_]=>.ok (.rt (.int C)) h|_=>.no):=by
 rw[kB,aS]at hst;refine((Wu M G hr hb hc hg hm ha hdb (eO hst.1) (qe hst.2)).zf F.zf).imp λD σ H z9=>z9.el λρ h m fl h' f r e k=>?_;refine bT e λy h1 e1 e2=>?_;split at e2;rename_i a b;cases e2;exact iD.mk f r e1 λvs H1 m1 s1 r1 q1=>⟨q1.length,k H1 m1 s1 r1⟩
 cases e2
noncomputable abbrev wX(g:List W->VH->Res W)(fa:FE)(b:Bool)(s t:FS):FS:=λρ h=>(fa ρ h).bind λy h=>match y with|.tup ys=>(g ys h).bind λw h=>mT b s t ρ w h|_=>.no
section
variable{k:Nat}{g:ai}{fd:av}{ps:List Str}{rn:List W->VH->Res W}{es:List aq}{ga:FE}{cpos p2:Pos}
theorem N6(F:wW X E):wg (kD X.prog X.w) X E:=λpins σ H s e s' I q=>F.zf _ _ (Cc pins σ H s e s' (I.cK _) q)
theorem N7{b:Bool}{gs gt:FS}{Q:VK}{σ:L2.St}{H:Hp}{ρ:En}{h h':VH}{m:Nat->ai}{fl:Fl}{D:Ends}(hlen:∀ws h w h',rn ws h=.ok w h'->ws.length=ps.length)(f:Fr X.K m h.n H σ ρ)(r:Rel X.K m h H)(e:wX rn ga b gs gt ρ h=.ok fl h')
 (k:∀H' m',bW m h.n H m' h'.n H'->Rel X.K m' h' H'->rR X.K (Rx X.K E) m' h'.n H' D fl)
 (kv:∀x h2,mT b gs gt ρ (.tup [x]) h2=.ok fl h'->∀v H' m',bW m h.n H m' h2.n H'->Rel X.K m' h2 H'->aL X.K m' h2.n H' v x->Q v H') :
 iD X.K ga σ H λvs H1=>qg X.K ps.length rn (vs++[]) H1 Q E:=by
 refine bT e λy h1 e1 e2=>?_;cases y with
 |tup ys=>
  refine bT e2 λw h2 e3 e4=>?_;refine iD.mk f r e1 λvs H1 m1 s1 r1 q1=>⟨by rw[jj,q1.length,hlen _ _ _ _ e3],h1,m1,ys,w,h2,r1,by rw[jj];exact q1,e3,?_⟩
  unfold rW;split;rename_i x;exact λv H' m' s' r' q'=>kv x h2 e4 v H' m' (s1.trans s') r' q';rename_i i;cases e4;exact λH' m' s' r'=>k H' m' (s1.trans s') r';rename_i n1 n2;unfold mT at e4;split at e4;exact(n1 _ rfl).elim;exact(n2 _ rfl).elim;cases e4
 |_=>cases e2
theorem WD(F:wW X E)(G:cD X.prog X.w X.K X.mg X.base (kD X.prog X.w) k g fd ps (qg X.K ps.length rn))(hr:bS k X.A)(hg:Gl X x)(hm:X.mg x=aC (.ref g))(hk:PySem.W.keepIn X.K (.ref g))(hb:Binds X.K fd ps [])
 (hlen:∀ws h w h',rn ws h=.ok w h'->ws.length=ps.length) (ha:SA X.dJ (e::es) ga) (hst:(e::es).all fJ) (hdb:(x==("__debug__" : Str))=false) :
 SX X E (.Expr (.Call (.Name x p) (e::es) [] cpos) pos) (wX rn ga false lI lI):=by
 rw[kB,aS]at hst;refine(LH (ET (E:=E) G hr hg hm hk hb .nil (N6 F) (PA.dJ ha) hdb (eO hst.1) (qe hst.2)) (by rfl)).imp λD σ H z9=>z9.el λρ h m fl h' f r e k=>?_;refine N7 (D:=D) hlen f r e k λx h2 e4 v H' m' s' r' q'=>?_;cases e4;exact k H' m' s' r' σ (f.stp s')
theorem WE(F:wW X E)(G:cD X.prog X.w X.K X.mg X.base (kD X.prog X.w) k g fd ps (qg X.K ps.length rn))(hr:bS k X.A)(hg:Gl X x)(hm:X.mg x=aC (.ref g))(hk:PySem.W.keepIn X.K (.ref g))(hb:Binds X.K fd ps [])
 (hlen:∀ws h w h',rn ws h=.ok w h'->ws.length=ps.length) (ha:SA X.dJ (e::es) ga) (hst:(e::es).all fJ) (hdb:(x==("__debug__" : Str))=false) (WG:Fo X E sa gs) (wu:Fo X E sb gt) :
 SX X E (.If (.UnaryOp .Not (.Call (.Name x p) (e::es) [] cpos) p2) sa sb pos) (wX rn ga true gs gt):=by
 rw[kB,aS]at hst;refine(nO (GL (LD (ET (E:=E) G hr hg hm hk hb .nil (N6 F) (PA.dJ ha) hdb (eO hst.1) (qe hst.2)) λ_=>rfl)) WG wu).imp λD σ H z9=>z9.el λρ h m fl h' f r e k=>?_;refine N7 (D:=D) hlen f r e k λx h2 e4 v H' m' s' r' q'=>?_;unfold mT at e4;simp only[dH]at e4;split at e4;cases q';exact⟨_,rfl,.mk (f.stp s') r' e4 λH3 m3 s3 r3=>k H3 m3 (s'.trans s3) r3⟩;cases q';exact⟨_,rfl,.mk (f.stp s') r' e4 λH3 m3 s3 r3=>k H3 m3 (s'.trans s3) r3⟩;cases e4
end
end
section
variable{K:aI}{m m':Nat->ai}{h h1 h2:VH}{H H':Hp}
theorem WH{w w2:W}(e:leave h w h1=.ok w2 h2):w2=w:=by unfold leave at e;split at e<;>cases e<;>rfl
theorem WI{x:W}(e:leave h (.tup [x]) h1=.ok (.tup [x]) h2):leave h x h1=.ok x h2:=by
 unfold leave at e ⊢;have hl:W.lt h.n (.tup [x])=W.lt h.n x:=by simp only[W.lt,W.jK,Bool.and_true]
 rw[hl]at e;split at e;rename_i z;cases e;rw[if_pos z];rename_i z;cases e;rw[if_neg z]
theorem N8{w w2:W}{Q:VK}{E:XK}(r:Rel K m h H)(s:bW m h.n H m' h1.n H')(r1:Rel K m' h1 H')(g:fE ⟨h.n,h.n,h.os⟩ h1)(e:leave h w h1=.ok w2 h2)(k:rW K m h.n H w2 h2 Q E):Jk K m' h1.n H' Q E w:=by obtain rfl:=WH e;unfold rW at k;unfold Jk;split at k;rename_i x;exact λv hv=>Ff r s r1 hv g (WI e) k;rename_i i;exact Ff (v:=.int i) (Q:=λ_ H'=>wV i.toNat E H') r s r1 (.int i) g e (λv H' m' s r _=>k H' m' s r);cases k
end
theorem WJ{P:aj}{w:ak}{K:aI}{mg:Str->Option aa}{base:aA}{F:Nat->Option Fn}{k idx:Nat}{fn:Fn}{x qual:Str}{st:au}{f:ai}{fd:av}{N ps:List Str}{b:S}(hF:F idx=aC fn)(Fu:mW K x qual st f fd)(S:cu N ps (gU st))
 (hn:fn.n=N.length) (hp:fn.ps=ps.length) (hb:fn.body=.seq b (.ret (.cst (.tup [.aN]))))
 (hbody:∀(cdv:aa)(A:ao)(outer:List Env)(s:ah)(H:Hp)(E:XK),bS k (A.deeper (envOfC qual (gU st) s.heap.objs.size f cdv))->Fo (gx (kD P w) P w K mg base N qual (gU st) f cdv A outer s H E) E (yN st) (exs (run F k) b)) :
 cD P w K mg base (kD P w) (k+1) f fd ps (qg K ps.length (run F (k+1) idx)):=by
 obtain⟨_,_,_,_,_,_,_,cdv,_,_,e,lk,hcd⟩:=Fu.ex;subst e;refine ug lk hcd S (λvs H Q E h=>h.1) λA outer s H vs Q E hr jR=>?_;refine⟨_,hbody cdv A outer s H E hr,?_⟩;obtain⟨hl,h,m,ws,w2,h2,r,q,e,k2⟩:=jR;have hws:=uE hF e;simp only[run,hF]at e;split at e;refine bT e λfl h1 e1 e2=>?_;have g:=za (zb F k) _ _ _ _ _ e1;have hN:fn.n-fn.ps=N.length-ws.length:=by rw[hn,hws]
 rw[hN,hb]at e1;simp only[exs]at e1;refine bT e1 λmV h3 e3 e4=>?_;refine⟨_,⟨h.n,h.n,h.os⟩,m,mV,h3,NU q,Jd r,e3,λH' m' s' r'=>?_⟩;cases mV with
 |nx ρ=>
  cases e4;have:=N8 (K:=K) (m:=m) (m':=m') (H:=H) (H':=H') (h:=h) (Q:=Q) (E:=E) r s' r' g e2 k2;exact λσ' f'=>this .aN .aN
 |rt w3=>cases e4;exact N8 r s' r' g e2 k2
 |bk _=>cases e4;cases e2
 |ct _=>cases e4;cases e2
 cases e
theorem WK{P:aj}{w:ak}{K:aI}{mg:Str->Option aa}{base:aA}{F:Nat->Option Fn}{idx:Nat}{f:ai}{fd:av}{ps:List Str}:cD P w K mg base (kD P w) 0 f fd ps (qg K ps.length (run F 0 idx)):=
 ⟨λvs H Q E h=>h.1,λA outer s H args us vs Q E hr he hb hv hs=>by obtain⟨_,h,m,ws,w2,h2,r,q,e,k2⟩:=hs;cases e⟩
end RF
namespace L2
open PySem PySem.Spec PyProof.Rows
noncomputable def Ci(K:aI)(D:ai)(i j:Nat)(T:ai->Sp->Prop)(ta:TA)(th:TS):TS:=λD0 σ H=>∃fa sp,σ[j]?=aC (aC (.ref fa))/\T fa sp/\ta σ H λvs H1=>sp vs H1 (λ_ H2=>D0.nx σ H2) (wU K D i th D0 σ)
section
variable{X:Cx}
theorem WL{k i j:Nat}{D:ai}{T:ai->Sp->Prop}{f xb n:Str}{p cpos epos tp hpos pos:Pos}{e:aq}{es:List aq}{b0:au}{suite:List au}{ta:TA}{th:TS}
 (hs:X.stack=X.env::X.outer) (hf:X.env.frame=aC X.env.locals) (hF:∀fa sp,T fa sp->∃fd ps,cD X.prog X.w X.K X.mg X.base (kD X.prog X.w) k fa fd ps sp/\PySem.W.keepIn X.K (.ref fa)=true/\Binds X.K fd ps []) (hr:bS k X.A) (hj:X.N[j]?=aC f) (hv:kI X.env.scope f)
 (ha:PA X.dJ (e::es) ta) (Jq:Gl X xb) (hmb:X.mg xb=aC (.ref D)) (hN:X.N.Nodup) (hi:X.N[i]?=aC n) (hl:X.env.kindOf n=aC .local) (hx:Loc X.env.scope n) (hfn:X.fn n=true)
 (hh:∀x,fU (X.hand x) (b0::suite) th) (hdb:autoParam ((f==("__debug__" : Str))=false) L2.aD1._auto_1) (hcd:autoParam ((f==("__classdict__" : Str))=false) L2.aD1._auto_1) (wY:autoParam ((xb==("__debug__" : Str))=false) L2.aD1._auto_1)
 (he:autoParam (starEach (e::es) X.env=(false,eval e X.env)::starEach es X.env) L2.aR1._auto_1) (hpl:autoParam ((backTo cpos (starEach es X.env)).any (·.1)=false) L2.aR1._auto_1) (hsw:autoParam (swapsWith (.Call (.Name f p) (e::es) [] cpos) aD epos.line X.env=pure false) L2.aR1._auto_1) :
 PS X (.Try [.Expr (.Call (.Name f p) (e::es) [] cpos) epos] [.ExceptHandler (aC (.Name xb tp)) (aC n) (b0::suite) hpos] [] [] pos) (Ci X.K D i j T ta th):=by
 intro pins s σ H D0 I h;obtain⟨fa,sp,hσ,hT,h⟩:=h;obtain⟨fd,ps,F,hk,hb⟩:=hF fa sp hT;refine wpAny_Try_except (wpAny_execs_cons (wpAny_Expr_any ?_ I.quiet hsw));refine qz (gQ (yI (X:=X.dJ) hj hv hdb hcd pins s σ H (λv H'=>v=.ref fa/\H'=H) (I.cK _) ⟨_,hσ,rfl,rfl⟩) (λu s0 z=>?_) λ_ _ z=>z.elim);obtain⟨v,H',I0,ru,hv',hH⟩:=z;have I9:=I0.bG;subst hv' hH;have hu:u=.ref fa:=ru;subst hu;refine zX (h₀:=X.base) I9.ok.mod.t7 hk (gQ (ha cpos pins s0 σ H' _ (I9.cK _) h) (λus s1 z9=>z9.el λvs H1 I1 r q=>?_) λ_ _ z=>z.elim) he hpl;have I1:=I1.bG;refine⟨I1.eF,?_⟩;have len:us.length=ps.length:=by rw[<-r.length];exact F.len _ _ _ _ q
 have hb1:=hb s1 us I1.eF (by rw[jj];exact len);rw[jj]at hb1;refine qI (vI (F.run X.A X.stack s1 H1 ⟨us,[]⟩ us vs (λ_ H2=>D0.nx σ H2) (wU X.K D i th D0 σ) hr I1.rm hb1 r q) λres s' hq=>?_);cases res with
 |ok fl=>
  cases fl with
  |ret u=>
   obtain⟨v,H2,I2,_,q2⟩:=I1.after hq;exact yq (yq ⟨σ,H2,I2,q2⟩)
  |next=>exact False.elim hq
  |brk=>exact False.elim hq
  |cont=>exact False.elim hq
 |error er=>
  obtain⟨x,T,C,dx,H2,rfl,a,C',hc',sb,WM⟩:=At.of (E:=wU X.K D i th D0 σ) I1 hq;cases hc';refine a.noted hs hf λs2 T2 a2=>a2.lands λs3 a3=>?_;refine wpAny_handleBy_cons (codeAny_handlers_test ?_) (by intro z;cases z);have I3:=a3.I.hand x;refine vW (X:=X.hand x) I3 Jq hmb ?_ wY;obtain⟨vs3,sl3,WN,_⟩:=a3.ex.ex;refine Wt a3.I.eF sb WN rfl ?_;refine codeAny_handlers_suite_as (a3.lands λs4 a4=>?_);refine yH (X:=X.hand x) (a4.I.hand x) hN hi hx (v:=.ref x) rfl (λs5 I5=>?_) (.inl hfn);refine gQ (hh x pins s5 _ H2 _ I5 (WM x a4.hx)) (λfl s6 q6=>?_) λ_ _ z=>z.elim;cases fl with
  |next=>
   obtain⟨σ',H',I',q'⟩:=q6;exact(I'.jy I.ok).gone hN hi hl λs7 I7=>⟨_,H',I7,q'⟩
  |brk=>
   obtain⟨σ',H',I',q'⟩:=q6;exact(I'.jy I.ok).gone hN hi hl λs7 I7=>⟨_,H',I7,q'⟩
  |cont=>
   obtain⟨σ',H',I',q'⟩:=q6;exact(I'.jy I.ok).gone hN hi hl λs7 I7=>⟨_,H',I7,q'⟩
  |ret u=>
   obtain⟨v,σ',H',I',r',q'⟩:=q6;exact(I'.jy I.ok).gone hN hi hl λs7 I7=>⟨v,_,H',I7,r',q'⟩
end
end L2
namespace RF
open PySem PySem.Spec PyProof.Rows L2
noncomputable def oneOf{α:Type}:List α->Option α|[a]=>aC a|_=>aD
theorem wZ{α:Type}{l:List α}{a:α}(h:oneOf l=aC a):l=[a]:=by unfold oneOf at h;split at h;cases h;rfl;cases h
noncomputable def xg:aq->Option (Str×Pos)|.Name x p=>aC (x,p)|_=>aD
theorem Cj{e:aq}{q:Str×Pos}(h:xg e=aC q):e=.Name q.1 q.2:=by unfold xg at h;split at h;cases h;rfl;cases h
structure gj where
 f:Str
 p:Pos
 args:List aq
 cp:Pos
noncomputable def xh:aq->Option gj|.Call g args [] cp=>(xg g).map λq=>⟨q.1,q.2,args,cp⟩|_=>aD
theorem kT{α β:Type}{o:Option α}{f:α->β}{b:β}(h:o.map f=aC b):∃a,o=aC a/\f a=b:=by
 cases o with|none=>cases h|some a=>cases h;exact⟨a,rfl,rfl⟩
theorem fK{α β:Type}{o:Option α}{f:α->Option β}{b:β}(h:o.bind f=aC b):∃a,o=aC a/\f a=aC b:=by
 cases o with|none=>cases h|some a=>exact⟨a,rfl,h⟩
theorem Ck{e:aq}{q:gj}(h:xh e=aC q):e=.Call (.Name q.f q.p) q.args [] q.cp:=by unfold xh at h;split at h;obtain⟨z,h1,rfl⟩:=kT h;rw[Cj h1];cases h
noncomputable def Jr:au->Option (aq×Pos)|.Expr e p=>aC (e,p)|_=>aD
theorem WO{s:au}{q:aq×Pos}(h:Jr s=aC q):s=.Expr q.1 q.2:=by unfold Jr at h;split at h;cases h;rfl;cases h
noncomputable def Js:au->Option (aq×Pos)|.Return o p=>o.map λe=>(e,p)|_=>aD
theorem WQ{s:au}{q:aq×Pos}(h:Js s=aC q):s=.Return (aC q.1) q.2:=by unfold Js at h;split at h;obtain⟨e,h1,rfl⟩:=kT h;rw[h1];cases h
noncomputable def rY(n:Str)(q:gj):Bool:=q.f==("_law_word" : Str)&& (match(oneOf q.args).bind xg with|some y=>y.1==n|none=>false)
theorem N9{n:Str}{q:gj}(h:rY n q):q.f = "_law_word"/\∃yp,q.args=[.Name n yp]:=by unfold rY at h;rw[aS,i6]at h;obtain⟨h1,h2⟩:=h;split at h2;rename_i y hy;obtain⟨a,e1,e2⟩:=fK hy;rw[i6]at h2;exact⟨h1,y.2,by rw[wZ e1,Cj e2,h2]⟩;cases h2
noncomputable def rZ:aq->Option (Str×Nat×Pos)
 |.Constant c k p=>(match c with
  |.str t=>aC (t,k,p)
  |_=>aD)
 |_=>aD
theorem Oa{e:aq}{q:Str×Nat×Pos}(h:rZ e=aC q):e=.Constant (.str q.1) q.2.1 q.2.2:=by unfold rZ at h;split at h;split at h;cases h;rfl;cases h;cases h
noncomputable def isEq:CmpOp->Bool|.Eq=>true|_=>false
noncomputable def i9(n:Str):aq->Option (Option Str)
 |.Compare a ops cs _=>(match(oneOf ops).map isEq,(oneOf cs).bind rZ,xh a with
  |some true,aC t,aC q=>if rY n q then aC (aC t.1)else aD
  |_,_,_=>aD)
 |e=>(match xh e with
  |some q=>if rY n q then aC aD else aD
  |none=>aD)
theorem WR{n:Str}{e:aq}{o:Option Str}(h:i9 n e=aC o):∃wp yp cp,(o=aD/\e=.Call (.Name "_law_word" wp) [.Name n yp] [] cp)\/∃t k kp pos,o=aC t/\e=.Compare (.Call (.Name "_law_word" wp) [.Name n yp] [] cp) [.Eq] [.Constant (.str t) k kp] pos:=by
 unfold i9 at h;split at h;split at h;rename_i t q h1 h2 h3;split at h;rename_i hw;cases h;obtain⟨w1,yp,w2⟩:=N9 hw;obtain⟨op,g1,g2⟩:=kT h1;obtain⟨c,g3,g4⟩:=fK h2;have g5:op=.Eq:=by cases op<;>first|rfl|cases g2
 have g6:=Ck h3;rw[w1,w2]at g6;exact⟨q.p,yp,q.cp,.inr ⟨_,_,_,_,rfl,by rw[wZ g1,g5,wZ g3,Oa g4,g6]⟩⟩;cases h;cases h;split at h;rename_i q h3;split at h;rename_i hw;cases h;obtain⟨w1,yp,w2⟩:=N9 hw;have g6:=Ck h3;rw[w1,w2]at g6;exact⟨q.p,yp,q.cp,.inl ⟨rfl,g6⟩⟩;cases h;cases h
noncomputable def hV(o:Option Str)(z:Str):V:=match o with|none=>.str z|some t=>.bl (decide (V.str z=V.str t))
noncomputable def hW(o:Option Str)(z:Str):W:=match o with|none=>.str z|some t=>.bl (decide (V.str z=V.str t))
theorem WS{K:aI}{m:Nat->ai}{n:Nat}{H:Hp}(o:Option Str)(z:Str):aL K m n H (hV o z) (hW o z):=by
 cases o with|none=>exact .str z|some t=>exact .bl _
noncomputable def uG(tb:List (Nat×Str))(o:Option Str)(i:Nat):TS:=λD σ H=>∃C z x,(C,z)∈tb/\(i<σ.length->σ[i]?=aC (aC (.ref x)))/\rV C x H/\∀H',Hx H H'->D.rt (hV o z) H'
noncomputable abbrev WT(g:List W->VH->Res W)(fa:FE)(tb:List (Nat×W)):FS:=λρ h=>(fa ρ h).bind λy h=>match y with|.tup ys=>(g ys h).bind λw h=>jV tb ρ w h|_=>.no
noncomputable def xj(X:Cx)(C:Nat)(z:Str):Prop:=∃f fd ps,X.mg "_law_word" = aC (.ref f)/\dO X.prog X.w X.K X.mg X.base 2 f fd ps (Cg C z)/\PySem.W.keepIn X.K (.ref f)=true/\Binds X.K fd ps []
theorem Ob{o:Option Str}:∀{tb:List (Nat×Str)} {c:Nat} {w:W},(tb.map λp=>(p.1,hW o p.2)).lookup c=aC w->∃z,(c,z)∈tb/\w=hW o z
 |[],_,_,e=>by cases e
 |(d,z)::r,c,w,e=>by
  rw[eS,iy]at e;by_cases h:(c==d)=true;rw[h]at e;cases e;exact⟨z,by rw[show c=d by simpa using h];exact fQ ..,rfl⟩;rw[show(c==d)=false by simpa using h]at e;obtain⟨z',h1,h2⟩:=Ob e;exact⟨z',eH _ h1,h2⟩
section
variable{X:Cx}{tb:List (Nat×Str)}{n:Str}{i:Nat}
theorem WU{o:Option Str}{hb:aq}{rp:Pos}{x:ai}(hf:i9 n hb=aC o)(hr:cy 2 (X.hand x).A)(hw:∀C z,(C,z)∈tb->xj X C z)(Jt:Gl X "_law_word")(hi:X.N[i]?=aC n)(hv:kI X.env.scope n)(hd:(n==("__debug__" : Str))=false)(hcd:(n==("__classdict__" : Str))=false) :
 fU (X.hand x) [.Return (aC hb) rp] (uG tb o i):=by
 intro pins s σ H D I ⟨C,z,y,hm,hσ,hx,k⟩;have hl:i<σ.length:=by rw[I.len];exact(ku.mp hi).1
 obtain⟨f,fd,ps,w1,w2,w3,w4⟩:=hw C z hm;have pe:∀wp yp cp,PE (X.hand x) (.Call (.Name "_law_word" wp) [.Name n yp] [] cp) _:=λwp yp cp=>N4 (X:=X.hand x) (p:=wp) (pos:=cp) w2 hr Jt w1 w3 w4 (nA (yI (X:=X.hand x) (pos:=yp) hi hv hd hcd) pZ);obtain⟨wp,yp,cp,⟨rfl,rfl⟩|⟨t,kk,kp,pos,rfl,rfl⟩⟩:=WR hf;exact(EJ (An (pe _ _ _))) pins s σ H D I ⟨_,hσ hl,y,rfl,hx,λH' h=>k H' h⟩;exact(EJ (An (LQ AD (pe _ _ _) GI rfl))) pins s σ H D I ⟨_,hσ hl,y,rfl,hx,λH' h=>⟨rfl,k H' h⟩⟩
theorem Oc:∀{fs:List (Nat×Nat)} {a f:Nat},fs.lookup a=aC f->(a,f)∈fs
 |[],_,_,e=>by cases e
 |(d,z)::r,c,w,e=>by
  rw[iy]at e;by_cases h:(c==d)=true;rw[h]at e;cases e;rw[show c=d by simpa using h];exact fQ ..;rw[show(c==d)=false by simpa using h]at e;exact eH _ (Oc e)
theorem Od{fs:List (Nat×Nat)}{ρ:En}{j f:Nat}(h:gf fs ρ j=aC f):∃a,ρ[j]?=aC (aC (.bN a))/\(a,f)∈fs:=by
 unfold gf at h;split at h;rename_i a e;refine⟨a,?_,Oc h⟩;cases q:ρ[j]? with
 |none=>rw[q]at e;cases e
 |some x=>rw[q]at e;cases x with
  |none=>cases e
  |some y=>cases e;rfl
 cases h
noncomputable abbrev uH(cl:Nat->List W->VH->Res W)(fs:List (Nat×Nat))(j:Nat)(fa:FE)(tb:List (Nat×W)):FS:=λρ h=>(match gf fs ρ j with
 |some f=>(fa ρ h).bind λy h=>(match y with
  |.tup ys=>(cl f ys h).bind λw h=>jV tb ρ w h
  |_=>.no)
 |none=>.no)
theorem WV{k j:Nat}{D:ai}{fs:List (Nat×Nat)}{cl:Nat->List W->VH->Res W}{f xb:Str}{p cpos epos tp hpos pos rp:Pos}{e hb:aq}{es:List aq}{ga:FE}{o:Option Str}
 (hs:X.stack=X.env::X.outer) (hf:X.env.frame=aC X.env.locals)
 (hF:∀fa fi,(fa,fi)∈fs->∃fd ps,cD X.prog X.w X.K X.mg X.base (kD X.prog X.w) k fa fd ps (qg X.K ps.length (cl fi))/\PySem.W.keepIn X.K (.ref fa)=true/\Binds X.K fd ps []/\∀ws h w h',cl fi ws h=.ok w h'->ws.length=ps.length)
 (hr:bS k X.A) (hr2:∀x,cy 2 (X.hand x).A) (hj:X.N[j]?=aC f) (Cm:kI X.env.scope f)
 (ha:SA X.dJ (e::es) ga) (hst:(e::es).all fJ) (Jq:Gl X xb) (hmb:X.mg xb=aC (.ref D)) (hN:X.N.Nodup) (hi:X.N[i]?=aC n) (hl:X.env.kindOf n=aC .local) (hx:Loc X.env.scope n) (hv:kI X.env.scope n) (hfn:X.fn n=true)
 (hfo:i9 n hb=aC o) (hw:∀C z,(C,z)∈tb->xj X C z) (Jt:Gl X "_law_word") (hsub:∀C z,(C,z)∈tb->mX X.K C D=true)
 (hdb:(f==("__debug__" : Str))=false) (hcf:(f==("__classdict__" : Str))=false) (wY:(xb==("__debug__" : Str))=false) (Ju:(n==("__debug__" : Str))=false) (hcd:(n==("__classdict__" : Str))=false) :
 SS X (.Try [.Expr (.Call (.Name f p) (e::es) [] cpos) epos] [.ExceptHandler (aC (.Name xb tp)) (aC n) [.Return (aC hb) rp] hpos] [] [] pos) (uH cl fs j ga (tb.map λc=>(c.1,hW o c.2))):=by
 rw[kB,aS]at hst;refine(WL (i:=i) (j:=j) (th:=uG tb o i) (T:=λfa sp=>∃fi fd ps,sp=qg X.K ps.length (cl fi)/\cD X.prog X.w X.K X.mg X.base (kD X.prog X.w) k fa fd ps sp/\PySem.W.keepIn X.K (.ref fa)=true/\Binds X.K fd ps []) hs hf (λfa sp ⟨_,fd,ps,_,a,b,c⟩=>⟨fd,ps,a,b,c⟩) hr hj Cm ha Jq hmb hN hi hl hx hfn (λx=>WU hfo (hr2 x) hw Jt hi hv Ju hcd) hdb hcf wY (eO hst.1) (qe hst.2) rfl).imp λD0 σ H z9=>z9.el λρ h m fl h' f r e kk=>?_;unfold uH at e;split at e
 case h_2=>cases e
 rename_i fi Jv;obtain⟨a,h1,hm⟩:=Od Jv;obtain⟨v,h2,h3⟩:=f.val j _ h1;cases h3;obtain⟨fd,ps,g1,g2,g3,hlen⟩:=hF a fi hm;refine⟨a,_,h2,⟨fi,fd,ps,rfl,g1,g2,g3⟩,?_⟩;refine bT e λy h1 e1 e2=>?_;cases y with
 |tup ys=>
  refine bT e2 λw h2 e3 e4=>?_;refine iD.mk f r e1 λvs H1 m1 s1 r1 q1=>⟨by rw[q1.length,hlen _ _ _ _ e3],h1,m1,ys,w,h2,r1,q1,e3,?_⟩
  unfold jV at e4;split at e4;cases e4;exact λv H' m' s' r' _=>kk H' m' (s1.trans s') r' σ (f.stp (s1.trans s'));rename_i ii;split at e4;rename_i w' hlk;cases e4;obtain⟨z,hmem,rfl⟩:=Ob hlk;intro H' m' s' r' H2 dx a hk hx2 hd2;refine⟨ii.toNat,rfl,hsub _ _ hmem,λx hx'=>⟨ii.toNat,z,x,hmem,λhl'=>pS (by rwa [yy]at hl'),⟨dx,hx',hd2⟩,λWW hh=>?_⟩⟩;obtain⟨st,r''⟩:=r'.hx (hk.trans hh);exact kk WW m' ((s1.trans s').trans st) r'' _ (WS o z);cases e4;cases e4
 |_=>cases e2
end
end RF
namespace L2
open PySem PySem.Spec PyProof.Rows
section
variable{X:Cx}{CX:lB}{E:XK}
theorem WX{k j:Nat}{T:ai->Sp->Prop}{f:Str}{p pos:Pos}{e:aq}{es:List aq}{ta:TA}
 (hF:∀fa sp,T fa sp->∃fd ps,cD X.prog X.w X.K X.mg X.base CX k fa fd ps sp/\PySem.W.keepIn X.K (.ref fa)=true/\Binds X.K fd ps []) (hr:bS k X.A) (hj:X.N[j]?=aC f) (hv:kI X.env.scope f) (hx:wg CX X E)
 (ha:PA X (e::es) ta) (hdb:(f==("__debug__" : Str))=false) (hcd:(f==("__classdict__" : Str))=false) (he:starEach (e::es) X.env=(false,eval e X.env)::starEach es X.env) (hpl:(backTo pos (starEach es X.env)).any (·.1)=false) :
 PE X (.Call (.Name f p) (e::es) [] pos) (λσ H Q=>∃fa sp,σ[j]?=aC (aC (.ref fa))/\T fa sp/\nS sp [] E ta σ H Q):=by
 intro pins s σ H Q I h;obtain⟨fa,sp,hσ,hT,h⟩:=h;obtain⟨fd,ps,F,hk,hb⟩:=hF fa sp hT;refine qz (aY (yI hj hv hdb hcd pins s σ H (λv H'=>v=.ref fa/\H'=H) I ⟨_,hσ,rfl,rfl⟩) λu s0 z9=>z9.el λv H' I0 ru z=>?_);obtain⟨hv',hH⟩:=z;subst hv' hH;have hu:u=.ref fa:=ru;subst hu;refine zX (h₀:=X.base) I0.ok.mod.t7 hk (aY (ha pos pins s0 σ H' _ I0 h) λus s1 z9=>z9.el λvs H1 I1 r q=>⟨I1.eF,?_⟩) he hpl;exact Hs F hr hb .nil hx I1 r q
end
end L2
namespace RF
open PySem PySem.Spec PyProof.Rows L2
section
variable{X:Cx}
noncomputable def Oe(cl:Nat->List W->VH->Res W)(fs:List (Nat×Nat))(j:Nat)(ga:FE):FE:=λρ h=>match gf fs ρ j with|some f=>jW ga (cl f) ρ h|none=>.no
theorem WY{k j:Nat}{fs:List (Nat×Nat)}{cl:Nat->List W->VH->Res W}{f:Str}{p pos:Pos}{e:aq}{es:List aq}{ga:FE}
 (hF:∀fa fi,(fa,fi)∈fs->∃fd ps,cD X.prog X.w X.K X.mg X.base jJ k fa fd ps (mU X.K ps.length (cl fi))/\PySem.W.keepIn X.K (.ref fa)=true/\Binds X.K fd ps []/\∀ws h w h',cl fi ws h=.ok w h'->ws.length=ps.length)
 (hr:bS k X.A) (hj:X.N[j]?=aC f) (Cm:kI X.env.scope f) (ha:SA X (e::es) ga) (hst:(e::es).all fJ) (hdb:(f==("__debug__" : Str))=false) (hcf:(f==("__classdict__" : Str))=false) :
 SE X (.Call (.Name f p) (e::es) [] pos) (Oe cl fs j ga):=by
 rw[kB,aS]at hst;refine(WX (j:=j) (T:=λfa sp=>∃fi fd ps,sp=mU X.K ps.length (cl fi)/\cD X.prog X.w X.K X.mg X.base jJ k fa fd ps sp/\PySem.W.keepIn X.K (.ref fa)=true/\Binds X.K fd ps []) (λfa sp ⟨_,fd,ps,_,a,b,c⟩=>⟨fd,ps,a,b,c⟩) hr hj Cm lD ha hdb hcf (eO hst.1) (qe hst.2)).imp λσ H Q q=>?_;refine q.el λρ h m w h' f r e k=>?_;unfold Oe at e;split at e
 case h_2=>cases e
 rename_i fi Jv;obtain⟨a,h1,hm⟩:=Od Jv;obtain⟨v,h2,h3⟩:=f.val j _ h1;cases h3;obtain⟨fd,ps,g1,g2,g3,hlen⟩:=hF a fi hm;refine⟨a,_,h2,⟨fi,fd,ps,rfl,g1,g2,g3⟩,?_⟩;refine wN (g:=cl fi) (G:=λvs H1 Q=>mU X.K ps.length (cl fi) (vs++[]) H1 Q E0) (λm h H vs xs w h' Q r q e k=>?_) (iu.mk f r e k);rw[jj];exact⟨by rw[q.length];exact hlen _ _ _ _ e,h,m,xs,w,h',r,q,e,k⟩
end
noncomputable def zg:aq->Bool|.Subscript ..=>true|_=>false
theorem WZ{x y:Str}{a b:aq}{px py pt:Pos}{kt k2:Nat}{ue:Pos}{env:Env}(hk:env.scope.kind=.function)(hx:env.scope.names.lookup x=aC .local)(hy:env.scope.names.lookup y=aC .local)
 (hne:(x==y)=false) (hl:(py.line==px.line)) (ha:zg a) (hc:constantsAlone 8 a=false) (hb:zg b) :
 swappedStores [.Tuple [.Name x px,.Name y py] kt pt] (.Tuple [a,b] k2 ue) env=pure (aC [x,y]):=by
 have W0:env.blockKind=.function:=by unfold Env.blockKind;rw[hk];rfl
 have i1:env.kindOf x=aC .local:=hx;have i2:env.kindOf y=aC .local:=hy;have s2:foldedForSure 8 a=false:=by cases a<;>first|rfl|cases ha
 cases a<;>first|cases ha|skip
 have hne':(y==x)=false:=by rw[vC]at hne ⊢;exact λh=>hne h.symm
 have hl':py.line=px.line:=by simpa using hl
 cases b<;>first|cases hb|skip
 unfold swappedStores;simp[W0,i1,i2,s2,hc,hl',Expr.pos,tV,List.filterMap_nil,List.eraseDups,List.eraseDupsBy,List.eraseDupsBy.loop,hne,hne']
section
variable{X:Cx}
theorem W2{i j:Nat}{x y:Str}{a b:aq}{px py pt pos:Pos}{kt k2:Nat}{ue:Pos}{ga:FE}(hc:X.calm)(hN:X.N.Nodup)(hi:X.N[i]?=aC x)(hj:X.N[j]?=aC y)(hij:i≠j)
 (hx:X.env.scope.names.lookup x=aC .local) (hy:X.env.scope.names.lookup y=aC .local) (hk:X.env.scope.kind=.function) (ha:SA X [a,b] ga)
 (hne:(x==y)=false) (hl:(py.line==px.line)) (h1:zg a) (h2:constantsAlone 8 a=false) (h3:zg b) :
 SS X (.Assign [.Tuple [.Name x px,.Name y py] kt pt] (.Tuple [a,b] k2 ue) pos) (λρ h=>((λρ h=>(ga ρ h).bind λy h=>match y with|.tup ys=>(if Nat.ble ys.length 1000 then .ok (.tup ys) h else .no)|_=>.no:FE) ρ h).bind λw h=>.of ((bH (.many [i,j]) w h ρ).map .nx) h):=
 (Q4 hc hN hi hj hij hx hy ha (WZ hk hx hy hne hl h1 h2 h3)).imp λD σ H z9=>z9.el λρ h m fl h' f r e k=>by
   refine bT e λw h1 e1 e2=>?_;refine bT e1 λz h3 e3 e4=>?_;cases z with
   |tup ws=>
    simp only at e4;split at e4
    case isFalse=>cases e4
    cases e4;obtain⟨e2,W3⟩:=of_ok e2;subst W3;refine iD.mk f r e3 λvs H1 m1 s1 r1 q1=>?_;have q0:=q1;cases q1 with
    |nil=>cases e2
    |cons p q=>
     cases q with
     |nil=>cases e2
     |cons p' q'=>
      cases q' with
      |cons _ _=>cases e2
      |nil=>
       cases e2;exact⟨_,_,rfl,k H1 m1 s1 r1 _ (((f.stp s1).set p i).set p' j)⟩
   |_=>cases e4
end
set_option genInjectivity false in
structure CC where
 N:List Str
 names:List (Str×NameKind)
 lK:Bool
noncomputable def jL:List Str->Str->Nat->Option Nat|[],_,_=>aD|y::r,x,i=>if y==x then aC i else jL r x (i+1)
theorem Of:∀{N:List Str} {x:Str} {k i:Nat},jL N x k=aC i->∃j,i=k+j/\N[j]?=aC x
 |[],_,_,_,e=>by cases e
 |y::r,x,k,i,e=>by
  unfold jL at e;split at e;rename_i h;cases e;exact⟨0,rfl,by simpa using h⟩;obtain⟨j,h1,h2⟩:=Of e;exact⟨j+1,by lia,by simpa using h2⟩
theorem lM{N:List Str}{x:Str}{i:Nat}(e:jL N x 0=aC i):N[i]?=aC x:=by obtain⟨j,h1,h2⟩:=Of e;rw[show i=j by lia];exact h2
noncomputable def iH:Option NameKind->Bool|some .local|some .cell|some .free=>true|_=>false
noncomputable def kU(all:Bool):Option NameKind->Bool|some .local=>true|some .cell=>all|_=>false
noncomputable def okN(x:Str):Bool:=!(x==("__debug__" : Str)) && !(x==("__classdict__" : Str)) && !(x==("__name__" : Str)) && !(x==("" : Str))
theorem W4{x:Str}(h:okN x):x≠"":=by unfold okN at h;simp only[aS,zI]at h;exact λz=>by rw[z]at h;simp at h
theorem iI{x:Str}(h:okN x):(x==("__debug__" : Str))=false/\(x==("__classdict__" : Str))=false/\x≠"__name__":=by unfold okN at h;simp only[aS,zI]at h;exact⟨h.1.1.1,h.1.1.2,λz=>by rw[z]at h;simp at h⟩
noncomputable def oN(K:aI):Nat->aa->Option W
 |0,_=>aD
 |n+1,v=>match v with
  |.none=>aC .aN
  |.bool b=>aC (.bl b)
  |.int i _=>aC (.int i)
  |.str x _=>aC (.str x)
  |.ref a=>(match K.lookup a with
   |some o=>(match o.cls,o.dict,o.data with
    |.type t,aD,.seq its _=>if t == "tuple" && Nat.ble its.size 1000 then(bY (oN K n) its.toList).map .tup else aD
    |_,_,.func _=>aC (.bN a)
    |_,_,_=>aD)
   |none=>aD)
  |_=>aD
theorem Og{K:aI}{f:aa->Option W}(ih:∀v w,f v=aC w->∃x,RelV x v/\∀m n H,aL K m n H x w):∀{us:List aa} {ws:List W},bY f us=aC ws->∃xs,Vals xs us/\∀m n H,aG K m n H xs ws
 |[],_,e=>by cases e;exact⟨[],.nil,λ_ _ _=>.nil⟩
 |u::us,ws,e=>by
  unfold bY at e;split at e;rename_i b hb;split at e;rename_i bs xm;cases e;obtain⟨x,h1,h2⟩:=ih u b hb;obtain⟨xs,h3,h4⟩:=Og ih xm;exact⟨x::xs,.cons h1 h3,λm n H=>.cons (h2 m n H) (h4 m n H)⟩;cases e;cases e
theorem Oh{K:aI}:∀(n:Nat) (v:aa) (w:W),oN K n v=aC w->∃x,RelV x v/\∀m n H,aL K m n H x w
 |0,_,_,e=>by cases e
 |n+1,v,w,e=>by
  unfold oN at e;split at e;cases e;exact⟨.aN,rfl,λ_ _ _=>.aN⟩;cases e;exact⟨.bl _,rfl,λ_ _ _=>.bl _⟩;cases e;exact⟨.int _,⟨_,rfl⟩,λ_ _ _=>.int _⟩;cases e;exact⟨.str _,⟨_,rfl⟩,λ_ _ _=>.str _⟩;rename_i a;split at e;rename_i o ho;split at e;rename_i t its nn hc HV hd;split at e;rename_i hz;rw[aS]at hz;have ht:t = "tuple":=by simpa using hz.1
  subst ht;cases z:bY (oN K n) its.toList with
  |none=>rw[z]at e;cases e
  |some ws=>
   rw[z]at e;cases e;obtain⟨xs,h3,h4⟩:=Og (Oh n) z;exact⟨.ref a,rfl,λm n H=>.tup (.inr ⟨o,its,nn,ho,hc,HV,hd,vR (HB (kG hz.2)),h3⟩) (h4 m n H)⟩
  cases e;cases e;exact⟨.ref a,rfl,λ_ _ _=>.bN a⟩;cases e;cases e;cases e
noncomputable def cL(f:aq->Option E):List aq->Option E
 |[]=>aC .nil
 |e::es=>match f e,cL f es with
  |some a,aC r=>aC (.cons a r)
  |_,_=>aD
noncomputable def fnAt(K:aI)(x:Str):Option (ai×Obj×av):=match cM K x with
 |some f=>(match K.lookup f with
  |some o=>(match o.data with
   |.func fd=>aC (f,o,fd)
   |_=>aD)
  |none=>aD)
 |none=>aD
noncomputable def r9:Arguments->Option (List Arg)|⟨[],args,aD,[],[],aD,_⟩=>aC args|_=>aD
noncomputable def isNone:aa->Bool|.none=>true|_=>false
noncomputable def Fp:Data->Bool
 |.seq xs _=>(match xs.toList with
  |[v]=>isNone v
  |_=>false)
 |_=>false
noncomputable def fj(K:aI):aa->Bool
 |.ref t=>(match K.lookup t with
  |some o=>Fp o.data
  |none=>false)
 |_=>false
noncomputable def Jw(K:aI)(x:Str)(n:Nat):Bool:=match fnAt K x with|some (_,_,fd)=>fj K fd.defaults&&Nat.beq (n+1) fd.params.args.length|none=>false
noncomputable def gZ(K:aI)(x:Str):Bool:=match fnAt K x with|some (_,_,fd)=>fj K fd.defaults|none=>false
theorem W5{K:aI}{x:Str}{n:Nat}(h:Jw K x n):gZ K x=true:=by unfold Jw at h;unfold gZ;split at h;rw[aS]at h;exact h.1;cases h
noncomputable def mY:E->E|.nil=>.cons (.cst .aN) .nil|.cons a r=>.cons a (mY r)|e=>e
noncomputable def lN:E->Bool|.nil=>true|.cons _ r=>lN r|_=>false
theorem W6{cl:Call}:∀{a:E},lN a=true->∀(ρ:En) (h:VH),ev cl (mY a) ρ h=(ev cl a ρ h).bind λy h=>match y with|.tup ys=>.ok (.tup (ys++[.aN])) h|_=>.no:=by
 intro a;induction a with
 |nil=>intro _ ρ h;rfl
 |cons x r _ ih=>
  intro ha ρ h;have ih:=ih ha;simp only[mY,ev];cases ev cl x ρ h with
  |no=>rfl
  |ex _ _=>rfl
  |ok w h1=>
   show Res.bind (ev cl (mY r) ρ h1) _=Res.bind (Res.bind (ev cl r ρ h1) _) _;rw[ih];cases ev cl r ρ h1 with|no=>rfl|ex _ _=>rfl|ok y h2=>cases y<;>rfl
 |_=>intro ha;cases ha
theorem Oi{f:aq->Option E}:∀{es:List aq} {a:E},cL f es=aC a->lN a=true
 |[],_,h=>by cases h;rfl
 |e::es,a,h=>by
  unfold cL at h;split at h;rename_i x r h1 h2;cases h;show lN r=true;exact Oi h2;cases h
noncomputable def Cn(f:aq->Option E):List (Option aq)->List aq->Option E
 |[],[]=>aC .nil
 |some k::ks,v::vs=>match f k,f v,Cn f ks vs with
  |some a,aC b,aC r=>aC (.cons a (.cons b r))
  |_,_,_=>aD
 |_,_=>aD
noncomputable def cB(and:Bool)(f:aq->Option E):List aq->Option E
 |[]=>aD
 |[a]=>f a
 |a::b::r=>match f a,cB and f (b::r)with
  |some x,aC y=>aC (if and then .and x y else .or x y)
  |_,_=>aD
noncomputable def cO(f:aq->Option E):Option aq->Option (Bool×E)|none=>aC (false,.cst .aN)|some e=>(f e).map λc=>(true,c)
noncomputable def uI(K:aI)(C:CC)(x:Str):Bool:=C.names.lookup x==aC .globalImplicit&& (match PySem.W.nsIn K mainGlobals x with|some aD=>true|_=>false)
noncomputable def xo(x:Str):Option Ty:=
 if x==("int" : Str)then aC .int else if x==("bool" : Str)then aC .bool else if x==("tuple" : Str)then aC .tuple else if x==("list" : Str)then aC .list else if x==("str" : Str)then aC .str else if x==("dict" : Str)then aC .dict else aD
noncomputable def W7(f:Str)(args:List aq):Option aq:=if f==("list" : Str)then(match args with|[.Call (.Name g _) [a] [] _]=>if g==("range" : Str)then aC a else aD|_=>aD)else aD
noncomputable def xq(x:Str):Option Bi:=
 if x==("len" : Str)then aC .len else if x==("list" : Str)then aC .list else if x==("tuple" : Str)then aC .tuple else if x==("int" : Str)then aC .int else if x==("abs" : Str)then aC .abs else if x==("max" : Str)then aC .max else if x==("min" : Str)then aC .min else aD
noncomputable def Oj:aq->Bool|.Tuple ..=>true|_=>false
noncomputable def Co:Kd->aq->Bool|.mQ,t=>Oj t|.zip,t=>Oj t|_,_=>true
noncomputable def iJ(C:CC):aq->Option Nat|.Name x _=>if okN x&&kU C.lK (C.names.lookup x)then jL C.N x 0 else aD|_=>aD
noncomputable def Cq(C:CC):aq->Option Tg|.Name x p=>(iJ C (.Name x p)).map .one|.Tuple es _ _=>(bY (iJ C) es).map .many|_=>aD
noncomputable def ownOf(sc:az):List Str:=(sc.names.filter λy=>y.2 == .local && !(y.1==(".0" : Str))).map (·.1)
noncomputable def jX(sc:az):List Str:=(sc.names.filter λy=>y.2 == .free).map (·.1)
noncomputable def xr(C:CC)(sc:az)(ix:List Nat):Bool:=
 decide (sc.kind=.function)&&sc.names.all (λy=>decide (y.2≠.cell))&&sc.names.all (λy=>decide (y.2=.local->sc.names.lookup y.1=aC .local)) &&
 (ownOf sc).all (λx=>decide (sc.names.lookup x=aC .local))&&sc.names.all (λy=>decide (y.2=.free->C.names.lookup y.1=aC .cell\/C.names.lookup y.1=aC .free))&&decide (ix.length=(jX sc).length) &&
 ((List.range (jX sc).length).all λk=>match(jX sc)[k]?,ix[k]? with|some x,aC j=>decide (C.N[j]?=aC x)&&decide (sc.names.lookup x=aC .free)|_,_=>false)&&decide (ownOf sc++jX sc).Nodup
noncomputable def se(sc:az):CC:=⟨ownOf sc++jX sc,sc.names,false⟩
noncomputable def Jx(x:Str):Bool:=x==("below" : Str)||x==("beside" : Str)||x==("_law_put_below" : Str)||x==("_law_put_beside" : Str)
noncomputable def oO(K:aI)(T:List Str):List (Nat×Nat):=(T.zipIdx 0).filterMap λp=>if Jx p.1 then(cM K p.1).map λa=>(a,p.2)else aD
theorem W8{K:aI}{T:List Str}{a i:Nat}(h:(a,i)∈oO K T):∃x,T[i]?=aC x/\cM K x=aC a/\Jx x=true:=by
 unfold oO at h;obtain⟨⟨x,j⟩,hm,h⟩:=Em.mp h;split at h;rename_i hv;cases q:cM K x with
 |none=>simp only[q]at h;cases h
 |some b=>
  simp only[q]at h;cases h;exact⟨x,by have:=List.mem_zipIdx_iff_getElem?.mp hm;simpa using this,q,hv⟩
 cases h
mutual
noncomputable def cE(K:aI)(T:List Str):Nat->CC->aq->Option E
 |0,_,_=>aD
 |n+1,C,e=>match e with
  |.Name x _=>if okN x then(if iH (C.names.lookup x)then(jL C.N x 0).map .var
   else if C.names.lookup x==aC .globalImplicit then(match PySem.W.nsIn K mainGlobals x with|some (aC v)=>(oN K 8 v).map .cst|_=>aD)else aD)else aD
  |.Constant c _ _=>(match c with
   |.int i=>aC (.cst (.int i))
   |.bool b=>aC (.cst (.bl b))
   |.none=>aC (.cst .aN)
   |.str x=>aC (.cst (.str x))
   |_=>aD)
  |.Tuple es _ _=>(cL (cE K T n C) es).map .tup
  |.List es _=>(cL (cE K T n C) es).map .lst
  |.Dict ks vs _=>if Nat.ble ks.length 15&&Nat.beq ks.length vs.length&&ks.all (·.isSome)then(Cn (cE K T n C) ks vs).map .Iv else aD
  |.BinOp a O b _=>(match BE O,cE K T n C a,cE K T n C b with
   |some o,aC x,aC y=>aC (.op o x y)
   |_,_,_=>aD)
  |.UnaryOp o a _=>(match o with
   |.Not=>(cE K T n C a).map .not
   |.USub=>(cE K T n C a).map .neg
   |_=>aD)
  |.BoolOp o es _=>(match o with
   |.And=>cB true (cE K T n C) es
   |.Or=>cB false (cE K T n C) es)
  |.Compare a Os bs _=>(match Os,bs with
   |[O],[b]=>if qd b then(match gA O,cE K T n C a,cE K T n C b with
   |some c,aC x,aC y=>aC (.cmp c x y)
   |_,_,_=>aD)else aD
   |[O,O'],[b,c]=>if qd c then(match gA O,gA O',cE K T n C a,cE K T n C b,cE K T n C c with
   |some o,aC o',aC x,aC y,aC z=>aC (.wJ o o' x y z)
   |_,_,_,_,_=>aD)else aD
   |_,_=>aD)
  |.IfExp c a b _=>(match cT K T n C c,cE K T n C a,cE K T n C b with
   |some z,aC x,aC y=>aC (.ite z x y)
   |_,_,_=>aD)
  |.Subscript a b _=>(match b with
   |.Slice lo hi st _=>(match st with
    |none=>(match cE K T n C a,cO (cE K T n C) lo,cO (cE K T n C) hi with
   |some x,aC (bl,l),aC (bh,u)=>aC (.slc x bl l bh u)
   |_,_,_=>aD)
    |some _=>aD)
   |b=>if zd b then(match cE K T n C a,cE K T n C b with
   |some x,aC y=>aC (.idx x y)
   |_,_=>aD)else aD)
  |.Call fn args kw pos=>(match kw with
   |[]=>(match fn with
    |.Name f _=>if okN f&&C.names.lookup f==aC .globalImplicit then(match PySem.W.nsIn K mainGlobals f with
     |some aD=>if f==("isinstance" : Str)then(match args with
      |[a,.Name t _]=>(match xo t,cE K T n C a with
       |some ty,aC x=>if okN t&&uI K C t then aC (.E6 ty x)else aD
       |_,_=>aD)
      |_=>aD)
      else(match xq f,args with|some b,_::_=>(cL (cE K T n C) args).map (.bi b)|_,_=>aD)
     |some (aC _)=>(match jL T f 0 with
      |some i=>if Jw K f args.length && !args.isEmpty then(cL (cE K T n C) args).map (λa=>.call i (mY a))else(cL (cE K T n C) args).map (.call i)
      |none=>aD)
     |none=>aD)else if okN f&&iH (C.names.lookup f)then(match jL C.N f 0,args with
     |some j,_::_=>(cL (cE K T n C) args).map (.gD j (oO K T))
     |_,_=>aD)else aD
    |.Attribute o W9 ap=>if IK o&& (ap.endLine==pos.line)then(match cE K T n C o,args with
     |some x,[a]=>if W9==("append" : Str)then(cE K T n C a).map λy=>.mt .append x (.cons y .nil)else aD
     |_,_=>aD)else aD
    |_=>aD)
   |_=>aD)
  |.ListComp elt gs sc _=>(match gs with
   |[⟨tg,iter,ifs,0⟩]=>(match bY (λx=>jL C.N x 0) (jX sc)with
    |some ix=>if xr C sc ix then(match cW K T n C iter,Cq (se sc) tg,(match ifs with|[]=>aC (.cst (.bl true))|[c]=>cT K T n (se sc) c|_=>aD),cE K T n (se sc) elt with
     |some (kd,a),aC t,aC c,aC e=>if Co kd tg then aC (.lc kd a t (ownOf sc).length ix c e)else aD
     |_,_,_,_=>aD)else aD
    |none=>aD)
   |_=>aD)
  |_=>aD
noncomputable def cT(K:aI)(T:List Str):Nat->CC->aq->Option E
 |0,_,_=>aD
 |n+1,C,e=>match e with
  |.Compare a Os bs _=>(match Os,bs with
   |[O],[b]=>if qd b then(match gA O,cE K T n C a,cE K T n C b with
   |some c,aC x,aC y=>aC (.cmp c x y)
   |_,_,_=>aD)else aD
   |[O,O'],[b,c]=>if qd c then(match gA O,gA O',cE K T n C a,cE K T n C b,cE K T n C c with
   |some o,aC o',aC x,aC y,aC z=>aC (.wJ o o' x y z)
   |_,_,_,_,_=>aD)else aD
   |_,_=>aD)
  |.UnaryOp o a _=>(match o with
   |.Not=>(cT K T n C a).map .not
   |_=>aD)
  |.BoolOp o es _=>(match o with
   |.And=>cB true (cT K T n C) es
   |.Or=>cB false (cT K T n C) es)
  |.Name x p=>(cE K T n C (.Name x p)).map .qc
  |.Call f as ks p=>(cE K T n C (.Call f as ks p)).map .qc
  |.Subscript a b p=>(cE K T n C (.Subscript a b p)).map .qc
  |_=>aD
noncomputable def cW(K:aI)(T:List Str):Nat->CC->aq->Option (Kd×E)
 |0,_,_=>aD
 |n+1,C,e=>match e with
  |.Call (.Name f p) args [] pos=>if f==("range" : Str)then(if uI K C f then(match args with
   |[a]=>(cE K T n C a).map λx=>(.eW,.cons x .nil)
   |_=>aD)else aD)
   else if f==("enumerate" : Str)then(if uI K C f then(match args with|[a]=>(cE K T n C a).map λx=>(.mQ,x)|_=>aD)else aD)
   else if f==("zip" : Str)then(if uI K C f then(match args with
    |[a,b]=>(match cE K T n C a,cE K T n C b with
     |some x,aC y=>aC (.zip,.cons x (.cons y .nil))
     |_,_=>aD)
    |_=>aD)else aD)
   else(cE K T n C (.Call (.Name f p) args [] pos)).map λx=>(.seq,x)
  |.Set ..=>aD
  |e=>(cE K T n C e).map λx=>(.seq,x)
end
noncomputable def kW(f:au->Option S):List au->Option S
 |[]=>aC .skip
 |s::r=>match f s,kW f r with
  |some a,aC b=>aC (.seq a b)
  |_,_=>aD
structure RX where
 jq:List Str
 at_:Nat
 tb:List (Nat×Str)
structure Cr where
 c:gj
 ep:Pos
 xb:Str×Pos
 nm:Str
 hb:aq
 rp:Pos
 hp:Pos
noncomputable def oQ(b:List au)(hs:List ExceptHandler):Option Cr:=match((oneOf b).bind Jr).bind λe=>(xh e.1).map λq=>(q,e.2),oneOf hs with
 |some q,aC (.ExceptHandler t n hb hp)=>(match t.bind xg,n,(oneOf hb).bind Js with
  |some x,aC nm,aC r=>aC ⟨q.1,q.2,x,nm,r.1,r.2,hp⟩
  |_,_,_=>aD)
 |_,_=>aD
theorem Xa{b:List au}{hs:List ExceptHandler}{q:Cr}(h:oQ b hs=aC q):b=[.Expr (.Call (.Name q.c.f q.c.p) q.c.args [] q.c.cp) q.ep]/\hs=[.ExceptHandler (aC (.Name q.xb.1 q.xb.2)) (aC q.nm) [.Return (aC q.hb) q.rp] q.hp]:=by unfold oQ at h;split at h;rename_i qq t n hb hp h1 h2;split at h;rename_i x nm r h3 h4;cases h;obtain⟨s,h5,h6⟩:=fK h1;obtain⟨z,h7,h8⟩:=kT h6;obtain⟨s1,h9,Xb⟩:=fK h5;obtain⟨te,h11,h12⟩:=fK h3;obtain⟨s2,Xc,Xd⟩:=fK h4;cases h8;rw[wZ h9,WO Xb,Ck h7,wZ h2,h11,Cj h12,wZ Xc,WQ Xd];exact⟨rfl,rfl⟩;cases h;cases h
noncomputable def Cs(K:aI)(T:List Str)(R:RX)(d:Nat)(C:CC)(f:Str)(args:List aq)(xb nm:Str)(hb:aq):Option S:=
 if okN f&&C.names.lookup f==aC .globalImplicit&&okN xb&&C.names.lookup xb==aC .globalImplicit&&okN nm&&C.names.lookup nm==aC .local&&C.names.lookup ("_law_word" : Str)==aC .globalImplicit then
  (match jL R.jq f 0,PySem.W.nsIn K mainGlobals xb,jL C.N nm 0,i9 nm hb,cL (cE K T d C) args with|some j,aC (aC (.ref D)),aC _,aC o,aC a=>if R.tb.all λc=>mX K c.1 D then aC (.ou (R.at_+j) a (R.tb.map λc=>(c.1,hW o c.2)))else aD|_,_,_,_,_=>aD)
 else aD
noncomputable def oR(K:aI)(R:RX):List (Nat×Nat):=(R.jq.zipIdx R.at_).filterMap λp=>(cM K p.1).map λa=>(a,p.2)
noncomputable def oS(K:aI)(T:List Str)(R:RX)(d:Nat)(C:CC)(f:Str)(args:List aq)(xb nm:Str)(hb:aq):Option S:=
 if okN f&&okN xb&&C.names.lookup xb==aC .globalImplicit&&okN nm&&C.names.lookup nm==aC .local&&C.names.lookup ("_law_word" : Str)==aC .globalImplicit then
  (match jL C.N f 0,PySem.W.nsIn K mainGlobals xb,jL C.N nm 0,i9 nm hb,cL (cE K T d C) args with|some j,aC (aC (.ref D)),aC _,aC o,aC a=>if R.tb.all λc=>mX K c.1 D then aC (.mR j a (oR K R) (R.tb.map λc=>(c.1,hW o c.2)))else aD|_,_,_,_,_=>aD)
 else aD
noncomputable def Jy:List aq->Option ((Str×Nat)× (Str×Nat))
 |[a,b]=>(match a,b with
  |.Name x p,.Name y q=>aC ((x,p.line),(y,q.line))
  |_,_=>aD)
 |_=>aD
noncomputable def Jz:aq->Option (aq×aq)
 |.Tuple l _ _=>(match l with
  |[a,b]=>aC (a,b)
  |_=>aD)
 |_=>aD
noncomputable def xu(f:aq->Option E)(C:CC)(ts:List aq)(e:aq):Option S:=match Jy ts,Jz e with
 |some ((x,l),(y,m)),aC (a,b)=>if okN x&&okN y&&C.names.lookup x==aC .local&&C.names.lookup y==aC .local && !(x==y)&& (m==l)&&zg a && !(constantsAlone 8 a)&&zg b then(match jL C.N x 0,jL C.N y 0,cL f [a,b]with
  |some i,aC j,aC c=>aC (.jo [i,j] (.tup c))
  |_,_,_=>aD)else aD
 |_,_=>aD
noncomputable def xw(f:aq->Option E)(o i e:aq):Option S:=match i with
 |.Slice lo hi st _=>(match st with
  |none=>(match f o,cO f lo,cO f hi,f e with
   |some x,aC (bl,l),aC (bh,u),aC z=>aC (.rK x bl l bh u z)
   |_,_,_,_=>aD)
  |some _=>aD)
 |_=>aD
noncomputable def cS(K:aI)(T:List Str)(R:RX)(d:Nat):Nat->CC->au->Option S
 |0,_,_=>aD
 |n+1,C,s=>match s with
  |.Pass _=>aC .skip
  |.Break _=>aC .brk
  |.Continue _=>aC .cnt
  |.Raise ..=>aC .no
  |.Return r _=>(match r with
   |none=>aC (.ret (.cst .aN))
   |some e=>(cE K T d C e).map .ret)
  |.Expr e _=>if zc e then(cE K T d C e).map .expr else aD
  |.Assign l e _=>(match l with
   |[t]=>(match t with
    |.Name x p=>(match iJ C (.Name x p),cE K T d C e with
    |some i,aC c=>aC (.set i c)
    |_,_=>aD)
    |.Tuple ts _ _=>if oM e then(match bY (iJ C) ts,cE K T d C e with
    |some is,aC c=>aC (.jo is c)
    |_,_=>aD)else xu (cE K T d C) C ts e
    |.Subscript o i _=>if zd i then(match cE K T d C o,cE K T d C i,cE K T d C e with
    |some x,aC y,aC z=>aC (.put x y z)
    |_,_,_=>aD)else xw (cE K T d C) o i e
    |_=>aD)
   |_=>aD)
  |.AugAssign t O e _=>(match t with
   |.Name x p=>(match iJ C (.Name x p),rS O,cE K T d C e with
    |some i,aC o,aC c=>aC (.aug i o c)
    |_,_,_=>aD)
   |_=>aD)
  |.If c a b _=>(match cT K T d C c,kW (cS K T R d n C) a,kW (cS K T R d n C) b with
   |some z,aC x,aC y=>aC (.ite z x y)
   |_,_,_=>aD)
  |.For tg it b el _=>(match el with
   |[]=>(match cW K T d C it,Cq C tg,kW (cS K T R d n C) b with
    |some (kd,a),aC t,aC x=>if Co kd tg then aC (.for kd a t x)else aD
    |_,_,_=>aD)
   |_=>aD)
  |.While c b el _=>(match el with
   |[]=>(match cT K T d C c,kW (cS K T R d n C) b with
    |some z,aC x=>aC (.yT z x)
    |_,_=>aD)
   |_=>aD)
  |.Try b hs el fb _=>(match el,fb with
   |[],[]=>(match oQ b hs with
    |some q=>if q.c.args.isEmpty then aD else if iH (C.names.lookup q.c.f)then oS K T R d C q.c.f q.c.args q.xb.1 q.nm q.hb else aD
    |none=>aD)
   |_,_=>aD)
  |_=>aD
structure gk(X:Cx)(C:CC)(T:List Str)(R:RX)(F:Nat->Option Fn)(k:Nat):Prop where
 hN:X.N=C.N
 nd:C.N.Nodup
 vis:∀x,iH (C.names.lookup x)=true->kI X.env.scope x
 loc:∀x,kU C.lK (C.names.lookup x)=true->Loc X.env.scope x/\(X.fn x=true\/X.env.scope.names.lookup x=aC .local)
 gl:∀x,C.names.lookup x=aC .globalImplicit->Gl X x
 cf:∀x,(C.names.lookup x=aC .cell\/C.names.lookup x=aC .free)->X.env.kindOf x=aC .cell\/X.env.kindOf x=aC .free
 calm:X.calm=true
 room:bS k X.A
 xe:X.xe=λ_ _=>False
 JA:X.env.scope.kind=.function
 mZ:∀x v,PySem.W.nsIn X.K mainGlobals x=aC (aC v)->X.mg x=aC v
 zh:∀x,PySem.W.nsIn X.K mainGlobals x=aC aD->X.mg x=aD
 fns:∀(i:Nat)(x:Str),T[i]?=aC x->x≠""->∃f fd ps fn,cM X.K x=aC f/\cD X.prog X.w X.K X.mg X.base jJ k f fd ps (mU X.K ps.length (run F k i))/\PySem.W.keepIn X.K (.ref f)=true/\Binds X.K fd ps []/\F i=aC fn/\fn.ps=ps.length/\(gZ X.K x=true->Binds X.K fd ps [.none])
 rs:∀(j:Nat)(x:Str),R.jq[j]?=aC x->∃f fd ps fn,cM X.K x=aC f/\cD X.prog X.w X.K X.mg X.base (kD X.prog X.w) k f fd ps (qg X.K ps.length (run F k (R.at_+j)))/\PySem.W.keepIn X.K (.ref f)=true/\Binds X.K fd ps []/\F (R.at_+j)=aC fn/\fn.ps=ps.length
 wd:∀C z,(C,z)∈R.tb->xj X C z
section
variable{X:Cx}{C:CC}{T:List Str}{R:RX}{F:Nat->Option Fn}{k:Nat}
theorem gk.Fq(O:gk X C T R F k):X.A.units+65<cLine:=by have:=O.room.un;lia
theorem gk.u2(O:gk X C T R F k):X.A.units+2<cLine:=Nat.lt_of_le_of_lt (Nat.add_le_add_left (by decide:2<=64) _) O.room.units
theorem Ft(O:gk X C T R F k){x:Str}(h:uI X.K C x):Gl X x/\X.mg x=aD:=by unfold uI at h;rw[aS]at h;refine⟨O.gl x (by simpa using h.1),O.zh x ?_⟩;have h2:=h.2;split at h2;assumption;cases h2
theorem lO(O:gk X C T R F k){e:aq}{i:Nat}(h:iJ C e=aC i):oH X e i:=by unfold iJ at h;split at h;split at h;rename_i hc;rw[aS]at hc;obtain⟨h1,h2⟩:=O.loc _ hc.2;exact⟨_,_,rfl,by rw[O.hN];exact lM h,h1,h2⟩;cases h;cases h
theorem JB(O:gk X C T R F k):∀{es:List aq} {is:List Nat},bY (iJ C) es=aC is->Paired (oH X) es is
 |[],_,h=>by cases h;exact .nil
 |e::es,is,h=>by
  unfold bY at h;split at h;rename_i b hb;split at h;rename_i bs xm;cases h;exact .cons (lO O hb) (JB O xm);cases h;cases h
theorem oU(O:gk X C T R F k){e:aq}{t:Tg}(h:Cq C e=aC t):PG X e (gB X.K t):=by
 unfold Cq at h;split at h;rename_i x p;cases z:iJ C (.Name x p)with
 |none=>rw[z]at h;cases h
 |some i=>
  rw[z]at h;cases h;obtain⟨x',p',e,h1,h2,h3⟩:=lO O z;cases e;exact VN (O.hN▸O.nd) h1 h2 h3
 rename_i es kx p;cases z:bY (iJ C) es with|none=>rw[z]at h;cases h|some is=>rw[z]at h;cases h;exact Ny O.calm (O.hN▸O.nd) (JB O z)
 cases h
theorem dP{f:aq->Option E}{cl:Call}(ih:∀e c,f e=aC c->SE X e (ev cl c)/\fJ e):∀{es:List aq} {c:E},cL f es=aC c->SA X es (ev cl c)/\es.all fJ=true
 |[],_,h=>by cases h;exact⟨IB,rfl⟩
 |e::es,c,h=>by
  unfold cL at h;split at h;rename_i a r ha hr;cases h;obtain⟨h1,h2⟩:=ih e a ha;obtain⟨h3,h4⟩:=dP ih hr;exact⟨E9 h1 h3 (eO h2),by rw[kB,h2,h4];rfl⟩;cases h
theorem Ol{f:aq->Option E}{cl:Call}{pos:Pos}(ih:∀e c,f e=aC c->SE X e (ev cl c)/\fJ e):∀{ks:List (Option aq)} {vs:List aq} {c:E},Cn f ks vs=aC c->BP X pos ks vs (ev cl c)
 |[],[],_,h=>by cases h;exact Vs
 |[],_::_,_,h=>by cases h
 |none::_,_,_,h=>by cases h
 |some _::_,[],_,h=>by cases h
 |some a::ks,v::vs,c,h=>by
  unfold Cn at h;split at h;rename_i x y r hx hy hr;cases h;exact Vt (ih _ _ hx).1 (ih _ _ hy).1 (Ol ih hr);cases h
theorem lP{f:aq->Option E}{cl:Call}{pos:Pos}(ih:∀e c,f e=aC c->SE X e (ev cl c)/\fJ e):∀{es:List aq} {c:E},(cB true f es=aC c->SE X (.BoolOp .And es pos) (ev cl c))/\(cB false f es=aC c->SE X (.BoolOp .Or es pos) (ev cl c))
 |[],_=>⟨(λh=>nomatch h),(λh=>nomatch h)⟩
 |[a],c=>⟨λh=>Ni (ih a c h).1,λh=>Ni (ih a c h).1⟩
 |a::b::r,c=>by
  refine⟨λh=>?_,λh=>?_⟩;unfold cB at h;split at h;rename_i x y hx hy;cases h;exact U0 (ih a x hx).1 ((lP ih).1 hy);cases h;unfold cB at h;split at h;rename_i x y hx hy;cases h;exact BK (ih a x hx).1 ((lP ih).2 hy);cases h
theorem Fv{f:aq->Option E}{cl:Call}{pos:Pos}(ih:∀e c,f e=aC c->ST X e (ev cl c)):∀{es:List aq} {c:E},(cB true f es=aC c->SW X (.BoolOp .And es pos) (ev cl c))/\(cB false f es=aC c->SW X (.BoolOp .Or es pos) (ev cl c))
 |[],_=>⟨(λh=>nomatch h),(λh=>nomatch h)⟩
 |[a],c=>⟨λh=>Nh (ih a c h),λh=>Nh (ih a c h)⟩
 |a::b::r,c=>by
  refine⟨λh=>?_,λh=>?_⟩;unfold cB at h;split at h;rename_i x y hx hy;cases h;exact UZ (ih a x hx) ((Fv ih).1 hy);cases h;unfold cB at h;split at h;rename_i x y hx hy;cases h;exact BJ (ih a x hx) ((Fv ih).2 hy);cases h
theorem lQ{f:aq->Option E}{cl:Call}(ih:∀e c,f e=aC c->SE X e (ev cl c)/\fJ e){o:Option aq}{b:Bool}{c:E}(h:cO f o=aC (b,c)):PO X o (iF X.K b (ev cl c)):=by
 unfold cO at h;split at h;cases h;exact U9;rename_i e;cases z:f e with|none=>rw[z]at h;cases h|some c'=>rw[z]at h;cases h;exact U' (ih _ _ z).1
theorem Xe{x:Str}{t:Ty}(h:xo x=aC t):bootBuiltins x=aC (.type (rP t)):=by unfold xo at h;split at h;rename_i e;cases h;rw[show x = "int" by simpa using e];exact PyProof.Rows.boot_int;split at h;rename_i e;cases h;rw[show x = "bool" by simpa using e];decide +kernel;split at h;rename_i e;cases h;rw[show x = "tuple" by simpa using e];exact PyProof.Rows.boot_tuple;split at h;rename_i e;cases h;rw[show x = "list" by simpa using e];exact PyProof.Rows.boot_list;split at h;rename_i e;cases h;rw[show x = "str" by simpa using e];decide +kernel;split at h;rename_i e;cases h;rw[show x = "dict" by simpa using e];decide +kernel;cases h
theorem Ct{x:Str}{b:Bi}{e:aq}{es:List aq}{fa:FE}{p pos:Pos}(h:xq x=aC b)(hg:Gl X x)(hm:X.mg x=aD)(hn:okN x)(hc:X.calm)(ha:SA X (e::es) fa)(hs:(e::es).all fJ):SE X (.Call (.Name x p) (e::es) [] pos) (jW fa (iV b)):=by
 obtain⟨n1,_,n2⟩:=iI hn;unfold xq at h;split at h;rename_i z;cases h;have z:x = "len":=by simpa using z
 subst z;exact Fd Si Vc hg hm PySem.boot_len ha hs n2 n1;split at h;rename_i z;cases h;have z:x = "list":=by simpa using z
 subst z;exact IJ Sj Vd hg hm PyProof.Rows.boot_list ha hs n2 n1;split at h;rename_i z;cases h;have z:x = "tuple":=by simpa using z
 subst z;exact IJ Sk Ve hg hm PyProof.Rows.boot_tuple ha hs n2 n1;split at h;rename_i z;cases h;have z:x = "int":=by simpa using z
 subst z;exact IJ RN Vf hg hm PyProof.Rows.boot_int ha hs n2 n1;split at h;rename_i z;cases h;have z:x = "abs":=by simpa using z
 subst z;exact Fd RK Vg hg hm (by decide +kernel) ha hs n2 n1;split at h;rename_i z;cases h;have z:x = "max":=by simpa using z
 subst z;exact Fd (RL hc) Vh hg hm (by decide +kernel) ha hs n2 n1;split at h;rename_i z;cases h;have z:x = "min":=by simpa using z
 subst z;exact Fd (RM hc) Vi hg hm (by decide +kernel) ha hs n2 n1;cases h
theorem Om{b:aq}(h:zd b):EU b:=λo i=>by cases b<;>first|rfl|cases h
end
section
variable{X:Cx}{C:CC}{T:List Str}{R:RX}{F:Nat->Option Fn}{k:Nat}
theorem xx{env:Env}{kd:NameKind}(hk:kd≠.free):∀{l:List (Str×NameKind)} {x:Str},l.lookup x=aC kd->
 (l.map λ(n,k)=>if(k==NameKind.free&&env.scope.kind == .function&&env.kindOf n==aC .cell)then(n,NameKind.cell)else(n,k)).lookup x=aC kd
 |[],_,h=>by cases h
 |(n,j)::r,x,h=>by
  rw[eS];simp only[iy]at h;by_cases hx:(x==n)=true;simp only[hx]at h;cases h;have:(kd==NameKind.free)=false:=by simpa using hk
  simp only[this,ym,fS,fy,iy,hx];have hx':(x==n)=false:=by simpa using hx
  simp only[hx']at h;have ih:=xx (env:=env) hk (l:=r) (x:=x) h;by_cases hc':(j==NameKind.free&&env.scope.kind == .function&&env.kindOf n==aC .cell)=true;simp only[hc',dH,iy,hx'];exact ih;have hcf:(j==NameKind.free&&env.scope.kind == .function&&env.kindOf n==aC .cell)=false:=by simpa using hc'
  simp only[hcf,fS,fy,iy,hx'];exact ih
theorem Oo(O:gk X C T R F k){sc:az}{ix:List Nat}(h:xr C sc ix):cj X (ownOf sc) (jX sc) ix sc/\(ownOf sc++jX sc).Nodup:=by
 unfold xr at h;simp only[aS,fF,mC]at h;obtain⟨⟨⟨⟨⟨⟨⟨h1,h2⟩,h3⟩,h4⟩,h5⟩,h6⟩,h7⟩,h8⟩:=h;refine⟨⟨h1,h2,h3,h4,λy hy e=>O.cf _ (h5 y hy e),λq x e=>?_,h6⟩,h8⟩;have hk:q< (jX sc).length:=(ku.mp e).1;have:=h7 q (List.mem_range.mpr hk);rw[e]at this;cases z:ix[q]? with
 |none=>rw[z]at this;cases this
 |some j=>
  rw[z]at this;simp only[aS,fF]at this;exact⟨j,rfl,by rw[O.hN];exact this.1,this.2⟩
theorem JC(O:gk X C T R F k){sc:az}{ix:List Nat}(h:xr C sc ix)(D:ai)(s₀:ah)(H₀:Hp)(ex:List ai):gk (X.comp (ownOf sc++jX sc) sc D s₀ H₀ ex) (se sc) T R F k:=by
 obtain⟨S,nd⟩:=Oo O h;refine⟨rfl,nd,λx hx=>?_,λx hx=>?_,λx hx=>?_,λx hx=>?_,O.calm,O.room,rfl,S.kind,O.mZ,O.zh,O.fns,O.rs,O.wd⟩;have hx:iH (sc.names.lookup x)=true:=hx;cases z:sc.names.lookup x with
 |none=>rw[z]at hx;cases hx
 |some kd=>
  cases kd with
  | «local»=>exact .inl (xx (by decide) z)
  |cell=>exact .inr (.inl (xx (by decide) z))
  |free=>
   have:=EX (env:=X.env) O.JA z;by_cases hc:X.env.kindOf x=aC .cell;rw[if_pos hc]at this;exact .inr (.inl this);rw[if_neg hc]at this;exact .inr (.inr this)
  |globalExplicit=>rw[z]at hx;cases hx
  |globalImplicit=>rw[z]at hx;cases hx
 have hx:kU false (sc.names.lookup x)=true:=hx;cases z:sc.names.lookup x with
 |none=>rw[z]at hx;cases hx
 |some kd=>
  cases kd with| «local»=>exact⟨.inl (xx (by decide) z),.inr (xx (by decide) z)⟩|cell=>rw[z]at hx;cases hx|free=>rw[z]at hx;cases hx|globalExplicit=>rw[z]at hx;cases hx|globalImplicit=>rw[z]at hx;cases hx
 exact xx (by decide) hx;have hx:sc.names.lookup x=aC .cell\/sc.names.lookup x=aC .free:=hx;rcases hx with z|z
 exact .inl (xx (by decide) z);have:=EX (env:=X.env) O.JA z;by_cases hc:X.env.kindOf x=aC .cell;rw[if_pos hc]at this;exact .inl this;rw[if_neg hc]at this;exact .inr this
end
theorem map_some{α β:Type}{o:Option α}{f:α->β}{b:β}(h:o.map f=aC b):∃a,o=aC a/\b=f a:=by
 cases o with|none=>cases h|some a=>cases h;exact⟨a,rfl,rfl⟩
structure oV(X:Cx)(C:CC)(T:List Str)(F:Nat->Option Fn)(k n:Nat):Prop where
 e:∀e c,cE X.K T n C e=aC c->SE X e (ev (run F k) c)/\fJ e=true
 t:∀e c,cT X.K T n C e=aC c->ST X e (ev (run F k) c)
 w:∀e kd c tg,cW X.K T n C e=aC (kd,c)->Co kd tg=true->PI X tg e (fD X.K kd (ev (run F k) c))/\∀x,foldedSetIterable e X.env x=pure x
section
variable{X:Cx}{C:CC}{T:List Str}{R:RX}{F:Nat->Option Fn}{k n:Nat}
theorem Cu(O:gk X C T R F k)(ih:oV X C T F k n)(e:aq)(c:E)(h:cT X.K T (n+1) C e=aC c):ST X e (ev (run F k) c):=by unfold cT at h;split at h;split at h;split at h;rename_i hs;split at h;rename_i h1 h2 h3;cases h;exact UT O.Fq h1 hs (ih.e _ _ h2).1 (ih.e _ _ h3).1;cases h;cases h;split at h;rename_i hs;split at h;rename_i h1 h2 h3 h4 h5;cases h;exact UW O.Fq h1 h2 hs (ih.e _ _ h3).1 (ih.e _ _ h4).1 (ih.e _ _ h5).1;cases h;cases h;cases h;split at h;obtain⟨a,h1,rfl⟩:=map_some h;exact UX (ih.t _ _ h1);cases h;split at h;exact((Fv ih.t).1 h).pt;exact((Fv ih.t).2 h).pt;obtain⟨a,h1,rfl⟩:=map_some h;exact IG (ih.e _ _ h1).1 λ_=>rfl;obtain⟨a,h1,rfl⟩:=map_some h;exact IG (ih.e _ _ h1).1 λ_=>rfl;obtain⟨a,h1,rfl⟩:=map_some h;exact IG (ih.e _ _ h1).1 λ_=>rfl;cases h
theorem Cv{e:aq}(h:∀a b c,e≠.Set a b c){env:Env}:∀x,foldedSetIterable e env x=pure x:=by intro x;cases e<;>first|rfl|exact absurd rfl (h _ _ _)
theorem Cw(O:gk X C T R F k)(ih:oV X C T F k n)(e:aq)(kd:Kd)(c:E)(tg:aq)(h:cW X.K T (n+1) C e=aC (kd,c))(hw:Co kd tg):PI X tg e (fD X.K kd (ev (run F k) c))/\∀x,foldedSetIterable e X.env x=pure x:=by
 unfold cW at h;split at h;rename_i f p args pos;refine⟨?_,λx=>rfl⟩;split at h;rename_i hf;have hf:f = "range":=by simpa using hf
 subst hf;split at h;rename_i ha;obtain⟨g1,g2⟩:=Ft O ha;split at h;rename_i a;obtain⟨x,h1,h2⟩:=map_some h;cases h2;obtain⟨h3,h4⟩:=ih.e _ _ h1;exact VC (E9 h3 IB (eO h4)) h4 g1 g2;cases h;cases h;split at h;rename_i hf;have hf:f = "enumerate":=by simpa using hf
 subst hf;split at h;rename_i ha;obtain⟨g1,g2⟩:=Ft O ha;split at h;rename_i a;obtain⟨x,h1,h2⟩:=map_some h;cases h2;obtain⟨h3,h4⟩:=ih.e _ _ h1;cases tg<;>first|exact VI h3 h4 g1 g2|cases hw
 cases h;cases h;split at h;rename_i hf;have hf:f = "zip":=by simpa using hf
 subst hf;split at h;rename_i ha;obtain⟨g1,g2⟩:=Ft O ha;split at h;rename_i a b;split at h;rename_i x y h1 h2;cases h;obtain⟨h3,h4⟩:=ih.e _ _ h1;obtain⟨h5,h6⟩:=ih.e _ _ h2;cases tg<;>first|exact VM (E9 h3 (E9 h5 IB (eO h6)) (eO h4)) h4 h6 g1 g2|cases hw
 cases h;cases h;cases h;obtain⟨x,h1,h2⟩:=map_some h;cases h2;exact Nn (ih.e _ _ h1).1;cases h;rename_i hns;obtain⟨x,h1,h2⟩:=map_some h;cases h2;exact⟨Nn (ih.e _ _ h1).1,Cv (by first|exact hns|(intro a b c z;exact hns a b c z))⟩
end
section
variable{X:Cx}{C:CC}{T:List Str}{R:RX}{F:Nat->Option Fn}{k n:Nat}
theorem Xf(O:gk X C T R F k){x:Str}{p:Pos}{c:E}(h:cE X.K T (n+1) C (.Name x p)=aC c):SE X (.Name x p) (ev (run F k) c):=by simp only[cE]at h;split at h;rename_i hn;obtain⟨n1,n2,n3⟩:=iI hn;split at h;rename_i hv;obtain⟨i,h1,rfl⟩:=map_some h;exact UG (by rw[O.hN];exact lM h1) (O.vis x hv) n1 n2;split at h;rename_i hg;split at h;rename_i v hv;obtain⟨w,h1,rfl⟩:=map_some h;obtain⟨y,h2,h3⟩:=Oh 8 v w h1;exact BA (LB (O.gl x (by simpa using hg)) (O.mZ x v hv) h2 n1) h3;cases h;cases h;cases h
theorem Xg(O:gk X C T R F k)(ih:oV X C T F k n){f:Str}{p pos:Pos}{args:List aq}{c:E}(h:cE X.K T (n+1) C (.Call (.Name f p) args [] pos)=aC c):SE X (.Call (.Name f p) args [] pos) (ev (run F k) c):=by
 simp only[cE]at h;split at h;rename_i hn;rw[aS]at hn;have hg:=O.gl f (by simpa using hn.2);split at h;rename_i hm;have hm:=O.zh f hm;split at h;rename_i hf;have hf:f = "isinstance":=by simpa using hf
 subst hf;split at h;rename_i a t pt;split at h;rename_i ty x h1 h2;split at h;rename_i hc;cases h;rw[aS]at hc;obtain⟨g1,g2⟩:=Ft O hc.2;obtain⟨h3,h4⟩:=ih.e _ _ h2;obtain⟨n1,n2,n3⟩:=iI hc.1;exact Vl ty h3 h4 hg hm g1 g2 (Xe h1) n3 n1;cases h;cases h;cases h;split at h;rename_i b e es hb;obtain⟨a,h1,rfl⟩:=map_some h;obtain⟨h2,h3⟩:=dP ih.e h1;exact Ct hb hg hm hn.1 O.calm h2 h3;cases h;rename_i v hv;split at h;rename_i i hi;obtain⟨fa,fd,ps,fn,q1,q2,q3,q4,q5,q6,q7⟩:=O.fns i f (lM hi) (W4 hn.1);have q1:=ze q1;split at h;rename_i JD;rw[aS]at JD;obtain⟨a,h1,rfl⟩:=map_some h;obtain⟨h2,h3⟩:=dP ih.e h1;have hl:∀ws h w h',run F k i ws h=.ok w h'->ws.length=ps.length:=λws h w h' e=>by rw[uE q5 e,q6]
 have hev:ev (run F k) (.call i (mY a))=jW (ev (run F k) a) (λws h=>run F k i (ws++[.aN]) h):=by
  funext ρ h;simp only[ev,W6 (Oi h1)];show Res.bind (Res.bind (ev (run F k) a ρ h) _) _=Res.bind (ev (run F k) a ρ h) _;cases ev (run F k) a ρ h with|no=>rfl|ex _ _=>rfl|ok y h2=>cases y<;>rfl
 rw[hev];cases args with|nil=>cases JD.2|cons e es=>exact Vy q2 O.room hg (O.mZ f _ q1) q3 (q7 (W5 JD.1)) h2 h3 (iI hn.1).1 hl
 obtain⟨a,h1,rfl⟩:=map_some h;obtain⟨h2,h3⟩:=dP ih.e h1;have hl:∀ws h w h',run F k i ws h=.ok w h'->ws.length=ps.length:=λws h w h' e=>by rw[uE q5 e,q6]
 cases args with
 |nil=>
  simp only[cL]at h1;cases h1;exact Vx q2 O.room hg (O.mZ f _ q1) q3 q4 (iI hn.1).1 hl
 |cons e es=>exact Vw q2 O.room hg (O.mZ f _ q1) q3 q4 h2 h3 (iI hn.1).1 hl
 cases h;cases h;split at h;rename_i hn;rw[aS]at hn;obtain⟨n1,n2,n3⟩:=iI hn.1;split at h;rename_i j e es hj;obtain⟨a,h1,rfl⟩:=map_some h;obtain⟨h2,h3⟩:=dP ih.e h1;refine WY (cl:=run F k) (λfa fi hm=>?_) O.room (by rw[O.hN];exact lM hj) (O.vis f hn.2) h2 h3 n1 n2;obtain⟨x,hx,hr,hv⟩:=W8 hm;have Xh:x≠"":=by unfold Jx at hv;simp only[k8,i6]at hv;rcases hv with((rfl|rfl)|rfl)|rfl<;>decide +kernel
 obtain⟨Xi,fd,ps,fn,q1,q2,q3,q4,q5,q6,q7⟩:=O.fns fi x hx Xh;rw[hr]at q1;cases q1;exact⟨fd,ps,q2,q3,q4,λws h w h' e=>by rw[uE q5 e,q6]⟩;cases h;cases h
theorem Xj(O:gk X C T R F k)(ih:oV X C T F k n){o:aq}{m:Str}{ap pos:Pos}{args:List aq}{c:E}(h:cE X.K T (n+1) C (.Call (.Attribute o m ap) args [] pos)=aC c):SE X (.Call (.Attribute o m ap) args [] pos) (ev (run F k) c):=by
 simp only[cE]at h;split at h;rename_i hn;rw[aS]at hn;split at h;rename_i x a hx;split at h;rename_i hm;have hm:m = "append":=by simpa using hm
 subst hm;obtain⟨y,h1,rfl⟩:=map_some h;obtain⟨h2,h3⟩:=ih.e _ _ h1;exact Vr (ih.e _ _ hx).1 h2 hn.1 h3 hn.2;cases h;cases h;cases h
theorem Xk{ow fr:List Str}{sc:az}{ifs:List aq}{c:E}(O:∀D s₀ H₀ ex,oV (X.comp (ow++fr) sc D s₀ H₀ ex) (se sc) T F k n)
 (h:(match ifs with|[]=>aC (E.cst (.bl true))|[c]=>cT X.K T n (se sc) c|_=>aD)=aC c) (D:ai) (s₀:ah) (H₀:Hp) (ex:List ai):rE (X.comp (ow++fr) sc D s₀ H₀ ex) ifs (gW X.K (ev (run F k) c)):=by
 split at h;cases h;exact λpins s σ H Q I z9=>z9.el λρ h m b h' f r e q=>by
  cases e;exact SM pins s σ H Q I (q H m .refl r)
 exact SN ((O D s₀ H₀ ex).t _ _ h);cases h
theorem Oq(O:gk X C T R F k)(ih:oV X C T F k n)(zj:∀{sc:az} {ix:List Nat},xr C sc ix=true->∀D s₀ H₀ ex,oV (X.comp (ownOf sc++jX sc) sc D s₀ H₀ ex) (se sc) T F k n)
 {elt tg iter:aq} {ifs:List aq} {sc:az} {pos:Pos} {c:E} (h:cE X.K T (n+1) C (.ListComp elt [⟨tg,iter,ifs,0⟩] sc pos)=aC c) :
 ∃kd a t ix cc ce,c=.lc kd a t (ownOf sc).length ix cc ce/\cj X (ownOf sc) (jX sc) ix sc/\PI X tg iter (fD X.K kd (ev (run F k) a))/\(∀D s₀ H₀ ex,PG (X.comp (ownOf sc++jX sc) sc D s₀ H₀ ex) tg (gB X.K t))/\
  (∀D s₀ H₀ ex,rE (X.comp (ownOf sc++jX sc) sc D s₀ H₀ ex) ifs (gW X.K (ev (run F k) cc)))/\(∀D s₀ H₀ ex,PE (X.comp (ownOf sc++jX sc) sc D s₀ H₀ ex) elt (iu X.K (ev (run F k) ce)))/\∀x,foldedSetIterable iter X.env x=pure x:=by
 simp only[cE]at h;split at h
 .rename_i ix hix
  split at h
  .rename_i hc
   split at h
   .rename_i kd a t cc ce h1 h2 h3 h4
    split at h
    case isFalse=>cases h
    rename_i hw;cases h;obtain⟨w1,w2⟩:=ih.w _ _ _ tg h1 hw;exact⟨kd,a,t,ix,cc,ce,rfl,(Oo O hc).1,w1,λD s₀ H₀ ex=>oU (JC O hc D s₀ H₀ ex) h2,Xk (zj hc) h3,λD s₀ H₀ ex=>((zj hc D s₀ H₀ ex).e _ _ h4).1,w2⟩
   cases h
  cases h
 cases h
theorem Cy(O:gk X C T R F k)(ih:oV X C T F k n)(zj:∀{sc:az} {ix:List Nat},xr C sc ix=true->∀D s₀ H₀ ex,oV (X.comp (ownOf sc++jX sc) sc D s₀ H₀ ex) (se sc) T F k n)
 (e:aq) (c:E) (h:cE X.K T (n+1) C e=aC c):SE X e (ev (run F k) c)/\fJ e=true:=by
 have h0:=h;unfold cE at h;split at h;exact⟨Xf O h0,rfl⟩;refine⟨?_,rfl⟩;split at h;cases h;exact UH;cases h;exact BB;cases h;exact UI;cases h;exact UJ;cases h;obtain⟨a,h1,rfl⟩:=map_some h;exact⟨UK (dP ih.e h1).1,rfl⟩;obtain⟨a,h1,rfl⟩:=map_some h;exact⟨UL (dP ih.e h1).1,rfl⟩;refine⟨?_,rfl⟩;rename_i ks vs pos;split at h;rename_i hc;simp only[aS]at hc;obtain⟨a,h1,rfl⟩:=map_some h;cases ks with
 |nil=>
  cases vs with|nil=>simp only[Cn]at h1;cases h1;exact Vv|cons _ _=>cases h1
 |cons q ks=>exact Vu O.u2 (Ol ih.e h1) hc.2 (tY hc.1.2) (by simp) (kG hc.1.1)
 cases h;refine⟨?_,rfl⟩;split at h;rename_i h1 h2 h3;cases h;exact BD (BF h1) (UP _) (ih.e _ _ h2).1 (ih.e _ _ h3).1;cases h;split at h;obtain⟨a,h1,rfl⟩:=map_some h;exact⟨UY (ih.e _ _ h1).1,rfl⟩;obtain⟨a,h1,rfl⟩:=map_some h;exact⟨U4 (ih.e _ _ h1).1,rfl⟩;cases h;split at h;exact⟨(lP ih.e).1 h,rfl⟩;exact⟨(lP ih.e).2 h,rfl⟩;split at h;refine⟨?_,rfl⟩;split at h;rename_i hs;split at h;rename_i h1 h2 h3;cases h;exact US O.Fq h1 hs (ih.e _ _ h2).1 (ih.e _ _ h3).1;cases h;cases h;refine⟨?_,rfl⟩;split at h;rename_i hs;split at h;rename_i h1 h2 h3 h4 h5;cases h;exact UU O.Fq h1 h2 hs (ih.e _ _ h3).1 (ih.e _ _ h4).1 (ih.e _ _ h5).1;cases h;cases h;cases h;refine⟨?_,rfl⟩;split at h;rename_i h1 h2 h3;cases h;exact U1 (ih.t _ _ h1) (ih.e _ _ h2).1 (ih.e _ _ h3).1;cases h;split at h;split at h;refine⟨?_,rfl⟩;split at h;rename_i h1 h2 h3;cases h;exact Vb (ih.e _ _ h1).1 (lQ ih.e h2) (lQ ih.e h3);cases h;cases h;refine⟨?_,rfl⟩;split at h;rename_i hs;split at h;rename_i h1 h2;cases h;exact U8 O.u2 (ih.e _ _ h1).1 (ih.e _ _ h2).1 (Om hs);cases h;cases h;split at h;split at h;exact⟨Xg O ih h0,rfl⟩;exact⟨Xj O ih h0,rfl⟩;cases h;cases h;split at h;refine⟨?_,rfl⟩;obtain⟨kd,a,t,ix,cc,ce,rfl,S,w1,w2,w3,w4,w5⟩:=Oq O ih zj h0;exact B6 S O.calm w1 w2 w3 w4 w5;cases h;cases h
end
theorem nB{T:List Str}{R:RX}{F:Nat->Option Fn}{k:Nat}:∀(n:Nat) {X:Cx} {C:CC},gk X C T R F k->oV X C T F k n
 |0,_,_,_=>⟨(λe c h=>nomatch h),(λe c h=>nomatch h),(λe kd c tg h _=>nomatch h)⟩
 |n+1,X,C,O=>by
  have ih:=nB n O;have zj:∀{sc:az}{ix:List Nat},xr C sc ix=true->∀D s₀ H₀ ex,oV (X.comp (ownOf sc++jX sc) sc D s₀ H₀ ex) (se sc) T F k n:=λhc D s₀ H₀ ex=>nB n (JC O hc D s₀ H₀ ex);exact⟨Cy O ih zj,Cu O ih,Cw O ih⟩
section
variable{X:Cx}{C:CC}{T:List Str}{R:RX}{F:Nat->Option Fn}{k d:Nat}
theorem xy{f:au->Option S}{cl:Call}(ih:∀st c,f st=aC c->SS X st (exs cl c)):∀{sts:List au} {c:S},kW f sts=aC c->IW X sts (exs cl c)
 |[],_,h=>by cases h;exact NC
 |s::r,c,h=>by
  unfold kW at h;split at h;rename_i a b ha hb;cases h;exact ND (ih s a ha) (xy ih hb);cases h
theorem Xl{K:aI}{T:List Str}{n:Nat}{C:CC}{elt:aq}{gs:List Comprehension}{sc:az}{lp:Pos}{c:E}(h:cE K T (n+1) C (.ListComp elt gs sc lp)=aC c):∃tg iter ifs,gs=[⟨tg,iter,ifs,0⟩]:=by
 match gs,h with|[],h=>cases(show(aD:Option E)=aC c from h)|[⟨tg,iter,ifs,0⟩],_=>exact⟨tg,iter,ifs,rfl⟩|[⟨_,_,_,.ofNat (k+1)⟩],h=>cases(show(aD:Option E)=aC c from h)|[⟨_,_,_,.negSucc k⟩],h=>cases(show(aD:Option E)=aC c from h)|⟨_,_,_,0⟩::_::_,h=>cases(show(aD:Option E)=aC c from h)|⟨_,_,_,.ofNat (k+1)⟩::_::_,h=>cases(show(aD:Option E)=aC c from h)|⟨_,_,_,.negSucc k⟩::_::_,h=>cases(show(aD:Option E)=aC c from h)
theorem Xm(O:gk X C T R F k){x:Str}{p pos:Pos}{e:aq}{i:Nat}{c:E}(hi:iJ C (.Name x p)=aC i)(h:cE X.K T d C e=aC c):SS X (.Assign [.Name x p] e pos) (exs (run F k) (.set i c)):=by
 obtain⟨x',p',ex,h1,h2,h3⟩:=lO O hi;cases ex;have nd:X.N.Nodup:=O.hN▸O.nd;have Sd:=nB (T:=T) (F:=F) (k:=k) d O;by_cases hc:zc e=true;exact NH nd h1 h2 h3 (Sd.e _ _ h).1 (IY hc);cases d with
 |zero=>cases h
 |succ n=>
  cases e with
  |ListComp elt gs sc lp=>
   have sw:∃b:Bool,swapsWith (.ListComp elt gs sc lp) (aC (.Name x p)) pos.line X.env=pure b:=⟨_,rfl⟩
   obtain⟨b,hb⟩:=sw;cases b with
   |false=>exact NH nd h1 h2 h3 (Sd.e _ _ h).1 hb
   |true=>
    obtain⟨tg,iter,ifs,rfl⟩:=Xl h;obtain⟨kd,a,t,ix,cc,ce,rfl,S,w1,w2,w3,w4,w5⟩:=Oq O (nB n O) (λhc D s₀ H₀ ex=>nB n (JC O hc D s₀ H₀ ex)) h;exact V2 nd h1 h2 h3 S O.calm w1 w2 w3 w4 hb w5
  |SetComp _ _ _ _=>unfold cE at h;cases h
  |DictComp _ _ _ _ _=>unfold cE at h;cases h
  |_=>exact absurd rfl hc
structure m5(X:Cx)(C:CC):Prop where
 stk:X.stack=X.env::X.outer
 fr:X.env.frame=aC X.env.locals
 fn:∀x,X.fn x=true
 lc:∀x,C.names.lookup x=aC .local->X.env.kindOf x=aC .local/\Loc X.env.scope x/\kI X.env.scope x
theorem Xn{K:aI}{R:RX}{a f:Nat}(h:(a,f)∈oR K R):∃j x,R.jq[j]?=aC x/\cM K x=aC a/\f=R.at_+j:=by unfold oR at h;obtain⟨⟨x,i⟩,h1,h2⟩:=Em.mp h;obtain⟨b,h3,h4⟩:=Option.map_eq_some_iff.mp h2;cases h4;obtain⟨h5,h6⟩:=List.mk_mem_zipIdx_iff_le_and_getElem?_sub.mp h1;exact⟨i-R.at_,x,h6,h3,by lia⟩
theorem Xo(O:gk X C T R F k)(tp:m5 X C){f xb nm:Str}{e hb:aq}{es:List aq}{p cpos epos t2 hpos pos rp:Pos}{c:S}(Cm:iH (C.names.lookup f))(h:oS X.K T R d C f (e::es) xb nm hb=aC c) :
 SS X (.Try [.Expr (.Call (.Name f p) (e::es) [] cpos) epos] [.ExceptHandler (aC (.Name xb t2)) (aC nm) [.Return (aC hb) rp] hpos] [] [] pos) (exs (run F k) c):=by
 unfold oS at h;split at h
 case isFalse=>cases h
 rename_i hc;simp only[aS,i6]at hc;obtain⟨⟨⟨⟨⟨c1,c4⟩,c5⟩,c6⟩,c7⟩,c8⟩:=hc;split at h
 case h_2=>cases h
 rename_i j D i o a hj hD hi ho ha;split at h
 case isFalse=>cases h
 rename_i hs;cases h;have Sd:=nB (T:=T) (F:=F) (k:=k) d O;obtain⟨h2,h3⟩:=dP Sd.e ha;obtain⟨l1,l2,l3⟩:=tp.lc nm c7;refine WV (tb:=R.tb) tp.stk tp.fr (λfa fi hm=>?_) O.room (λx=>O.room.h) (by rw[O.hN];exact lM hj) (O.vis f Cm) (by
  have e:X.dJ=X:=by have:=O.xe;obtain⟨⟩:=X;cases this;rfl
  rw[e];exact h2) h3 (O.gl xb c5) (O.mZ xb _ hD) (O.hN▸O.nd) (by rw[O.hN];exact lM hi) l1 l2 l3 (tp.fn nm) ho O.wd (O.gl _ c8) (λC z hm=>?_) (iI c1).1 (iI c1).2.1 (iI c4).1 (iI c6).1 (iI c6).2.1
 obtain⟨j',x,hx,ha',rfl⟩:=Xn hm;obtain⟨Xi,fd,ps,fn,q1,q2,q3,q4,q5,q6⟩:=O.rs j' x hx;rw[ha']at q1;cases q1;exact⟨fd,ps,q2,q3,q4,λws h w h' e=>by rw[uE q5 e,q6]⟩;exact(mC.mp hs) _ hm
theorem Xp{ts:List aq}{x y:Str}{l m:Nat}(h:Jy ts=aC ((x,l),(y,m))):∃p q,ts=[.Name x p,.Name y q]/\l=p.line/\m=q.line:=by unfold Jy at h;split at h;split at h;cases h;exact⟨_,_,rfl,rfl,rfl⟩;cases h;cases h
theorem Xq{e a b:aq}(h:Jz e=aC (a,b)):∃k p,e=.Tuple [a,b] k p:=by unfold Jz at h;split at h;split at h;cases h;exact⟨_,_,rfl⟩;cases h;cases h
theorem Xr(O:gk X C T R F k)(tp:m5 X C){ts:List aq}{e:aq}{kt:Nat}{pt pos:Pos}{c:S}(h:xu (cE X.K T d C) C ts e=aC c):SS X (.Assign [.Tuple ts kt pt] e pos) (exs (run F k) c):=by
 unfold xu at h;split at h
 case h_2=>cases h
 rename_i x l y m a b h1 h2;obtain⟨p,q,rfl,rfl,rfl⟩:=Xp h1;obtain⟨k2,ue,rfl⟩:=Xq h2;split at h
 case isFalse=>cases h
 rename_i hc;simp only[aS,i6,zI]at hc;obtain⟨⟨⟨⟨⟨⟨⟨⟨c1,c2⟩,c3⟩,c4⟩,c5⟩,c6⟩,c7⟩,c8⟩,c9⟩:=hc;split at h
 case h_2=>cases h
 rename_i i j a' hi hj ha;cases h;have Sd:=nB (T:=T) (F:=F) (k:=k) d O;obtain⟨g1,_⟩:=dP Sd.e ha;obtain⟨l1,_,_⟩:=tp.lc x c3;obtain⟨l2,_,_⟩:=tp.lc y c4;have i1:=lM hi;have i2:=lM hj;have hij:i≠j:=λz=>by
  subst z;rw[i1]at i2;rw[ny i2]at c5;simp at c5
 refine W2 O.calm (O.hN▸O.nd) (by rw[O.hN];exact i1) (by rw[O.hN];exact i2) hij l1 l2 O.JA g1 ?_ ?_ c7 c8 c9;simpa using c5;simpa using c6
theorem Xs(O:gk X C T R F k){o i e:aq}{p pos:Pos}{c:S}(h:xw (cE X.K T d C) o i e=aC c):SS X (.Assign [.Subscript o i p] e pos) (exs (run F k) c):=by have Sd:=nB (T:=T) (F:=F) (k:=k) d O;unfold xw at h;split at h;split at h;split at h;rename_i h1 h2 h3 h4;cases h;exact V8 (Sd.e _ _ h1).1 (lQ Sd.e h2) (lQ Sd.e h3) (Sd.e _ _ h4).1;cases h;cases h;cases h
theorem lR(O:gk X C T R F k)(tp:m5 X C):∀(n:Nat) (st:au) (c:S),cS X.K T R d n C st=aC c->SS X st (exs (run F k) c)
 |0,_,_,h=>by cases h
 |n+1,st,c,h=>by
  have nd:X.N.Nodup:=O.hN▸O.nd;have Sd:=nB (T:=T) (F:=F) (k:=k) d O;have ih:=lR O tp n;have hp:PassesOwn (model X.prog X.w) X.A X.env X.xe:=by rw[O.xe];exact PassesOwn.never
  unfold cS at h;split at h;cases h;exact VX;cases h;exact VY;cases h;exact VZ;cases h;exact B5;split at h;cases h;exact V1;obtain⟨a,h1,rfl⟩:=map_some h;exact V0 (Sd.e _ _ h1).1;split at h;rename_i hc;obtain⟨a,h1,rfl⟩:=map_some h;exact NF (Sd.e _ _ h1).1 hc;cases h;split at h;split at h;split at h;rename_i i a h1 h2;cases h;exact Xm O h1 h2;cases h;split at h;rename_i ht;split at h;rename_i h1 h2;cases h;exact V5 O.calm nd (JB O h1) (Sd.e _ _ h2).1 ht;cases h;exact Xr O tp h;split at h;rename_i hs;split at h;rename_i h1 h2 h3;cases h;exact V7 O.u2 (Sd.e _ _ h1).1 (Sd.e _ _ h2).1 (Sd.e _ _ h3).1 hs;cases h;exact Xs O h;cases h;cases h;split at h;split at h;rename_i h1 h2 h3;cases h;obtain⟨x',p',ex,a1,a2,a3⟩:=lO O h1;cases ex;exact Wf h2 nd a1 a2 a3 (Sd.e _ _ h3).1;cases h;cases h;split at h;rename_i h1 h2 h3;cases h;exact NL (Sd.t _ _ h1) (xy ih h2) (xy ih h3);cases h
  .rename_i tg it b el pos
   split at h
   .split at h
    .rename_i h1 h2 h3
     split at h
     case isFalse=>cases h
     rename_i hw;cases h;obtain⟨w1,w2⟩:=Sd.w _ _ _ tg h1 hw;exact NO hp O.calm w1 (oU O h2) (xy ih h3) w2
    cases h
   cases h
  split at h;split at h;rename_i h1 h2;cases h;exact Wj hp (Sd.t _ _ h1) (xy ih h2);cases h;cases h;split at h;split at h;rename_i q hq;split at h;cases h;rename_i hne;obtain⟨rfl,rfl⟩:=Xa hq;generalize q.c.args=as at h hne ⊢;cases as with
  |nil=>exact absurd rfl hne
  |cons e es=>
   split at h;rename_i hv;exact Xo O tp hv h;cases h
  cases h;cases h;cases h
end
noncomputable def Cz:FuncBody->Option (List au)|.stmts b=>aC b|_=>aD
theorem Xu{d:Data}(h:Fp d):∃n,d=.seq #[.none] n:=by
 cases d with
 |seq xs n=>
  obtain⟨l⟩:=xs;unfold Fp at h;simp only[]at h;split at h;rename_i v;cases v<;>first|exact⟨n,rfl⟩|cases h
  cases h
 |_=>cases h
theorem Xv{K:aI}{v:aa}(h:fj K v):∃t o n,v=.ref t/\K.lookup t=aC o/\o.data=.seq #[.none] n:=by
 cases v with
 |ref t=>
  have h:(match K.lookup t with|some o=>Fp o.data|none=>false)=true:=h;cases e:K.lookup t with
  |none=>rw[e]at h;cases h
  |some o=>
   rw[e]at h;obtain⟨n,q⟩:=Xu h;exact⟨t,o,n,rfl,e,q⟩
 |_=>cases h
noncomputable def kX(ps:List Str)(sc:az):List Str:=ps++(sc.names.filter λy=>(y.2 == .local||y.2 == .cell) && !(ps.contains y.1)).map (·.1)
noncomputable def zk(N ps:List Str)(sc:az):Bool:=
 decide (sc.kind=.function) && !sc.isCoroutine && !sc.isGenerator&&decide N.Nodup&&decide (N.take ps.length=ps)&&ps.all (λx=>decide (sc.names.lookup x=aC .local\/sc.names.lookup x=aC .cell))&&sc.names.all (λy=>decide (y.2≠.free))&&decide ps.Nodup
theorem JF{N ps:List Str}{sc:az}(h:zk N ps sc):cu N ps sc/\ps.Nodup:=by unfold zk at h;simp only[aS,fF,mC,zI]at h;obtain⟨⟨⟨⟨⟨⟨⟨h1,h2⟩,h3⟩,h4⟩,h5⟩,h6⟩,h7⟩,h8⟩:=h;exact⟨⟨h1,h2,h3,h4,h5,h6,h7⟩,h8⟩
noncomputable def g9(x:Str):Str:=(uF x).getD x
noncomputable def zl(K:aI)(g:CC->List au->Option S)(x:Str):Option Fn:=match fnAt K x with
 |some (f,o,fd)=>(match r9 fd.params,Cz fd.body with
  |some args,aC body=>if fd.name==g9 x&&fd.qualname==x&&Nat.beq fd.globals mainGlobals&&fd.closure.isEmpty&& (isNone fd.defaults||fj K fd.defaults && !args.isEmpty)&&Nat.beq fd.builtins builtinsNs&&PySem.W.codeIn K fd.code x&&PySem.W.keepIn K (.ref f) &&
   zk (kX (args.map (·.arg)) fd.scope) (args.map (·.arg)) fd.scope then
   (g ⟨kX (args.map (·.arg)) fd.scope,fd.scope.names,true⟩ body).map λb=>⟨(args.map (·.arg)).length,(kX (args.map (·.arg)) fd.scope).length,b⟩
   else aD
  |_,_=>aD)
 |none=>aD
theorem JG{fd:av}{x:Str}{args:List Arg}{body:List au}(c1:(fd.name==g9 x))(c2:(fd.qualname==x))(c3:Nat.beq fd.globals mainGlobals)(c4:fd.closure.isEmpty)(c6:Nat.beq fd.builtins builtinsNs)(ha:r9 fd.params=aC args)(hb:Cz fd.body=aC body) :
 ∃dx,fd=PySem.W.fnOf (g9 x) x ⟨[],args,aD,[],[],aD,dx⟩ body fd.scope fd.defaults fd.kwdefaults fd.doc fd.pyModule fd.annotations fd.code fd.closureTuple:=by
 obtain⟨nm,qn,pr,bd,sc,gl,cl,df,kd,dc,pm,an,cdv,ct,bu⟩:=fd;have e1:nm=g9 x:=by simpa using c1
 have e2:qn=x:=by simpa using c2
 have e3:gl=mainGlobals:=tY c3;have e4:cl=[]:=by simpa using c4
 have e6:bu=builtinsNs:=tY c6;have e7:bd=.stmts body:=by
  cases bd with|stmts b'=>cases hb;rfl|expr _=>cases hb
 obtain⟨dx,e8⟩:∃dx,pr=⟨[],args,aD,[],[],aD,dx⟩:=by unfold r9 at ha;split at ha;cases ha;rename_i z;exact⟨_,z⟩;cases ha
 exact⟨dx,by rw[e1,e2,e3,e4,e6,e7,e8]⟩
theorem JH{K:aI}{x:Str}{fd:av}{args:List Arg}{body:List au}{dx:List aq}{sc:az}{df kd dc pm:aa}{an:Option ai}{cdv ct:aa}{b:Bool}(e:fd=PySem.W.fnOf (g9 x) x ⟨[],args,aD,[],[],aD,dx⟩ body sc df kd dc pm an cdv ct)(nd:(args.map (·.arg)).Nodup)
 (hb:b=fj K df) (c5:(isNone df||fj K df && !args.isEmpty)):Binds K fd (args.map (·.arg)) []/\(b=true->Binds K fd (args.map (·.arg)) [.none])/\(b=false->∀us:List aa,us.length=(args.map (·.arg)).length->bindArgs fd ⟨us,[]⟩=pure ((args.map (·.arg)).zip us)):=by
 subst e hb;rw[k8,aS]at c5;rcases c5 with c5|⟨c5,c0⟩
 have e5:df=.none:=by cases df<;>first|rfl|cases c5
 subst e5;exact⟨.all λus hl=>NQ hl nd,(λz=>nomatch z),λ_ us hl=>NQ hl nd⟩;obtain⟨t,o,n,rfl,hk,hd⟩:=Xv c5;rw[c5];obtain⟨qs,z,CA⟩:∃qs z,args.map (·.arg)=qs++[z]:=by rcases List.eq_nil_or_concat (args.map (·.arg))with q|⟨l,b,q⟩;rw[List.map_eq_nil_iff.mp q]at c0;cases c0;exact⟨l,b,by rw[q,List.concat_eq_append]⟩
 have JI:=nd;rw[CA]at JI;refine⟨λs us hK hl=>?_,λ_ s us hK hl=>?_,λz=>nomatch z⟩;rw[jj]at hl ⊢;rw[CA]at hl ⊢;exact Wl CA JI (hK _ _ hk) hd hl;rw[CA]at hl ⊢;exact Wm CA JI (hK _ _ hk) hd (by rw[dY,dY]at hl;simpa using hl)
theorem Ot{K:aI}{x:Str}{f:ai}{o:Obj}{fd:av}(h:fnAt K x=aC (f,o,fd)):cM K x=aC f/\∃oc od sl,K.lookup f=aC ⟨oc,od,.func fd,sl⟩:=by unfold fnAt at h;split at h;rename_i f' hn;split at h;rename_i o' ho;split at h;rename_i fd' hd;cases h;refine⟨hn,o.cls,o.dict,o.slots,?_⟩;rw[<-hd];exact ho;cases h;cases h;cases h
theorem Xw{K:aI}{g:CC->List au->Option S}{x:Str}{fn:Fn}:∀(f:ai) (o:Obj) (fd:av) (args:List Arg) (body:List au) (b:S),fnAt K x=aC (f,o,fd)->r9 fd.params=aC args->Cz fd.body=aC body->(fd.name==g9 x&&fd.qualname==x&&Nat.beq fd.globals mainGlobals&&fd.closure.isEmpty&& (isNone fd.defaults||fj K fd.defaults && !args.isEmpty)&&Nat.beq fd.builtins builtinsNs&&PySem.W.codeIn K fd.code x&&PySem.W.keepIn K (.ref f) &&
 zk (kX (args.map (·.arg)) fd.scope) (args.map (·.arg)) fd.scope)=true->g ⟨kX (args.map (·.arg)) fd.scope,fd.scope.names,true⟩ body=aC b->fn=⟨(args.map (·.arg)).length,(kX (args.map (·.arg)) fd.scope).length,b⟩->∃f fd st ps N,cM K x=aC f/\mW K (g9 x) x st f fd/\cu N ps (gU st)/\fn.n=N.length/\fn.ps=ps.length/\(Binds K fd ps []/\(gZ K x=true->Binds K fd ps [.none])/\(gZ K x=false->∀us:List aa,us.length=ps.length->bindArgs fd ⟨us,[]⟩=pure (ps.zip us)))/\
 g ⟨N,(gU st).names,true⟩ (yN st)=aC fn.body/\∃o' fd' args,fnAt K x=aC (f,o',fd')/\r9 fd'.params=aC args/\ps=args.map (·.arg):=by
 intro f o fd args body b hf ha hb hc h1 e;rw[aS,aS,aS,aS,aS,aS,aS,aS]at hc;obtain⟨⟨⟨⟨⟨⟨⟨⟨c1,c2⟩,c3⟩,c4⟩,c5⟩,c6⟩,c7⟩,c8⟩,c9⟩:=hc;obtain⟨S,nd⟩:=JF c9;obtain⟨hn,oc,od,sl,lk⟩:=Ot hf;obtain⟨dx,ef⟩:=JG c1 c2 c3 c4 c6 ha hb;have hh:gZ K x=fj K fd.defaults:=by unfold gZ;rw[hf]
 exact⟨f,fd,.FunctionDef (g9 x) ⟨[],args,aD,[],[],aD,dx⟩ body [] aD [] fd.scope aD (g9 x) ⟨0,0,0,0⟩,args.map (·.arg),kX (args.map (·.arg)) fd.scope,hn,⟨⟨oc,od,_,_,_,_,_,fd.code,_,sl,ef,lk,c7⟩,c8⟩,S,by rw[e],by rw[e],JH ef nd hh c5,by rw[e];exact h1,o,fd,args,hf,ha,rfl⟩
theorem jY{K:aI}{g:CC->List au->Option S}{x:Str}{fn:Fn}(h:zl K g x=aC fn):∃f fd st ps N,cM K x=aC f/\mW K (g9 x) x st f fd/\cu N ps (gU st)/\fn.n=N.length/\fn.ps=ps.length/\(Binds K fd ps []/\(gZ K x=true->Binds K fd ps [.none])/\(gZ K x=false->∀us:List aa,us.length=ps.length->bindArgs fd ⟨us,[]⟩=pure (ps.zip us)))/\
 g ⟨N,(gU st).names,true⟩ (yN st)=aC fn.body/\∃o' fd' args,fnAt K x=aC (f,o',fd')/\r9 fd'.params=aC args/\ps=args.map (·.arg):=by
 unfold zl at h;split at h;rename_i f o fd hf;split at h;rename_i args body ha hb;split at h;rename_i hc;obtain⟨b,h1,e⟩:=map_some h;exact Xw f o fd args body b hf ha hb hc h1 e;cases h;cases h;cases h
theorem JJ{α β:Type}{f:α->Option β}:∀{l:List α} {r:List β},bY f l=aC r->∀(i:Nat) (a:α),l[i]?=aC a->∃b,r[i]?=aC b/\f a=aC b
 |[],_,_,i,a,e=>by simp at e
 |x::l,r,h,i,a,e=>by
  unfold bY at h;split at h;rename_i b hb;split at h;rename_i bs xm;cases h;cases i with
  |zero=>simp at e;subst e;exact⟨b,rfl,hb⟩
  |succ i=>
   obtain⟨c,h1,h2⟩:=JJ xm i a (by simpa using e);exact⟨c,by simpa using h1,h2⟩
  cases h;cases h
inductive MV where
 |exc|nC (bs:List Bool)|sts (xs:List Str)|bl (b:Bool)|int (i:Int)|str (x:Str)
noncomputable def iW(C:ai)(H:Hp)(v:V):MV->Prop|.exc=>∃a,v=.ref a/\rV C a H|.nC bs=>∃l,v=.ref l/\H l=aC (.lst (bs.map .bl))|.sts xs=>∃l,v=.ref l/\H l=aC (.lst (xs.map .str))|.bl b=>v=.bl b|.int i=>v=.int i|.str x=>v=.str x
theorem iW.mono{C:ai}{H H':Hp}{v:V}{m:MV}(h:iW C H v m)(k:Hx H H'):iW C H' v m:=by
 cases m with|exc=>obtain⟨a,e,q⟩:=h;exact⟨a,e,q.mono k⟩|nC bs=>obtain⟨a,e,q⟩:=h;exact⟨a,e,k _ _ q⟩|sts bs=>obtain⟨a,e,q⟩:=h;exact⟨a,e,k _ _ q⟩|bl b=>exact h|int i=>exact h|str x=>exact h
noncomputable def lS(C:ai)(H:Hp):List V->List MV->Prop|[],[]=>True|v::vs,m::ms=>iW C H v m/\lS C H vs ms|_,_=>False
noncomputable def iX(C:ai)(H:Hp)(σ:L2.St)(ρ:List (Option MV)):Prop:=∀(i:Nat) (m:MV),ρ[i]?=aC (aC m)->∃v,σ[i]?=aC (aC v)/\iW C H v m
theorem iX.mono{C:ai}{H H':Hp}{σ:L2.St}{ρ:List (Option MV)}(h:iX C H σ ρ)(k:Hx H H'):iX C H' σ ρ:=λi m e=>let⟨v,a,b⟩:=h i m e;⟨v,a,b.mono k⟩
noncomputable def tM(C:ai)(ρ:List (Option MV))(m:MV):TE:=λσ H Q=>iX C H σ ρ/\∀v H',Hx H H'->iW C H' v m->Q v H'
noncomputable def zm(C:ai)(ρ:List (Option MV))(ms:List MV):TA:=λσ H Q=>iX C H σ ρ/\∀vs H',Hx H H'->lS C H' vs ms->Q vs H'
noncomputable def nD(C:ai)(ρ:List (Option MV))(b:Bool):TT:=λσ H Q=>iX C H σ ρ/\∀H',Hx H H'->Q b H'
section
variable{X:Cx}{C:ai}{ρ:List (Option MV)}{a b e:aq}{es:List aq}{pos:Pos}
theorem CB{i:Nat}{x:Str}{m:MV}(hN:X.N[i]?=aC x)(hv:kI X.env.scope x)(hd:(x==("__debug__" : Str))=false)(hcd:(x==("__classdict__" : Str))=false)(hi:ρ[i]?=aC (aC m)):PE X (.Name x pos) (tM C ρ m):=
 (yI hN hv hd hcd).imp λσ H Q ⟨en,k⟩=>let⟨v,e,r⟩:=en i m hi;⟨v,e,k v H .refl r⟩
theorem zo:PA X [] (zm C ρ []):=pZ.imp λσ H Q ⟨_,k⟩=>k [] H .refl trivial
theorem jZ{m:MV}{ms:List MV}(ha:PE X e (tM C ρ m))(hr:PA X es (zm C ρ ms))(hs:fJ e):PA X (e::es) (zm C ρ (m::ms)):=
 (nA ha hr (eO hs)).imp λσ H Q ⟨en,k⟩=>⟨en,λv H1 k1 r1=>⟨en.mono k1,λvs H2 k2 r2=>k (v::vs) H2 (k1.trans k2) ⟨r1.mono k2,r2⟩⟩⟩
theorem Ou{H:Hp}:∀{vs:List V} {bs:List Bool},lS C H vs (bs.map .bl)->vs=bs.map .bl|[],[],_=>rfl|v::vs,b::bs,h=>by rw[eS,Ou (vs:=vs) (bs:=bs) h.2,show v=.bl b from h.1]|[],_::_,h=>h.elim|_::_,[],h=>h.elim
theorem Ov{H:Hp}:∀{vs:List V} {bs:List Str},lS C H vs (bs.map .str)->vs=bs.map .str|[],[],_=>rfl|v::vs,b::bs,h=>by rw[eS,Ov (vs:=vs) (bs:=bs) h.2,show v=.str b from h.1]|[],_::_,h=>h.elim|_::_,[],h=>h.elim
theorem j0{bs:List Bool}(ha:PA X es (zm C ρ (bs.map .bl)))(hz:bs.length<=sizeLine):PE X (.List es pos) (tM C ρ (.nC bs)):=
 (Hr ha).imp λσ H Q ⟨en,k⟩=>⟨en,λvs H1 k1 r=>by
   have e:=Ou r;subst e;exact⟨by rw[bQ];exact hz,λp hp=>k _ _ (k1.trans (.new hp)) ⟨p,rfl,fB⟩⟩⟩
theorem CD{bs:List Str}(ha:PA X es (zm C ρ (bs.map .str)))(hz:bs.length<=sizeLine):PE X (.List es pos) (tM C ρ (.sts bs)):=
 (Hr ha).imp λσ H Q ⟨en,k⟩=>⟨en,λvs H1 k1 r=>by
   have e:=Ov r;subst e;exact⟨by rw[bQ];exact hz,λp hp=>k _ _ (k1.trans (.new hp)) ⟨p,rfl,fB⟩⟩⟩
theorem lU{x y:List Bool}(ha:PE X a (tM C ρ (.nC x)))(hb:PE X b (tM C ρ (.nC y)))(hz:x.length+y.length<=sizeLine):PE X (.BinOp a .Add b pos) (tM C ρ (.nC (x++y))):=
 (nR Hv ha hb).imp λσ H Q ⟨en,k⟩=>⟨en,λv H1 k1 ⟨l,e1,q1⟩=>⟨en.mono k1,λu H2 k2 ⟨l2,e2,q2⟩=>⟨l,l2,_,_,e1,e2,k2 _ _ q1,q2,by rw[bQ,bQ];exact hz,λp hp=>k _ _ ((k1.trans k2).trans (.new hp)) ⟨p,rfl,by rw[fB,vP]⟩⟩⟩⟩
theorem Xx{x y:List Str}(ha:PE X a (tM C ρ (.sts x)))(hb:PE X b (tM C ρ (.sts y)))(hz:x.length+y.length<=sizeLine):PE X (.BinOp a .Add b pos) (tM C ρ (.sts (x++y))):=
 (nR Hv ha hb).imp λσ H Q ⟨en,k⟩=>⟨en,λv H1 k1 ⟨l,e1,q1⟩=>⟨en.mono k1,λu H2 k2 ⟨l2,e2,q2⟩=>⟨l,l2,_,_,e1,e2,k2 _ _ q1,q2,by rw[bQ,bQ];exact hz,λp hp=>k _ _ ((k1.trans k2).trans (.new hp)) ⟨p,rfl,by rw[fB,vP]⟩⟩⟩⟩
theorem CF{t:Str}{p p2:Pos}{c:aa}{cv:V}{r:Bool}(hc:oj cv=aC c)(hT:PE X (.Name t p2) (tC cv))(ha:PE X a (tM C ρ .exc))(hs:fJ a)(hg:Gl X "isinstance")(hm:X.mg "isinstance" = aD)(kk:XL.jn X.K C)(e:PySem.W.kitOne X.K (.ref C) c=aC r) :
 PE X (.Call (.Name "isinstance" p) [a,.Name t p2] [] pos) (tM C ρ (.bl r)):=
 (Ht (Wz hc) hg hm PyProof.Rows.boot_isinstance (nA ha (nA hT pZ) (eO hs)) (by decide) (by decide) (eO hs) rfl).imp λσ H Q ⟨en,k⟩=>⟨en,λv H1 k1 ⟨x,e1,q1⟩=>⟨x,C,r,by rw[e1],q1,kk,e,k _ H1 k1 rfl⟩⟩
theorem JK{K:aI}{M:ai->Prop}{H:Hp}:∀bs:List Bool,kC K M H (bs.map .bl) (bs.map .bool)|[]=>.nil|b::r=>.cons (.bl b) (JK r)
theorem JL:∀bs:List Bool,(bs.map PyData.bool).all SeqAt.shaped=true|[]=>rfl|_::r=>by rw[eS,kB,JL r];rfl
noncomputable def kY(e:aB):Bool:=PyData.eqv e (.bool true)
theorem CG{o:aq}{ap:Pos}{bs:List Bool}(hu:X.A.in1.units+64<cLine)(ho:PE X o (tM C ρ (.nC bs)))(ha:PE X a (tM C ρ (.bl true)))(hs:fJ a)(hb:attributeBase o "count" X.env (eval o X.env)=eval o X.env)(hl:(ap.endLine==pos.line)) :
 PE X (.Call (.Attribute o "count" ap) [a] [] pos) (tM C ρ (.int ((bs.map PyData.bool).countP kY:Nat))):=
 (nV (X:=X) PySem.F.plainAttrs_list PySem.F.slot_list_count PySem.F.type_list_count (Uz hu) ho (nA ha pZ (eO hs)) hb (by rw[eO hs];rfl) hl (eO hs) rfl).imp λσ H Q ⟨en,k⟩=>
   ⟨en,λv H1 k1 ⟨l,e1,q1⟩=>⟨by subst e1;exact .inl ⟨rfl,_,cN.of q1⟩,en.mono k1,λu H2 k2 r2=>⟨l,_,u,_,.bool true,e1,rfl,cN.of (k2 _ _ q1),JK bs,by rw[show u=.bl true from r2];exact .bl true,JL bs,rfl,k _ H2 (k1.trans k2) rfl⟩⟩⟩
theorem CH{o:aq}{ap:Pos}{bs:List Bool}{j:Nat}(hu:X.A.in1.units+64<cLine)(ho:PE X o (tM C ρ (.nC bs)))(ha:PE X a (tM C ρ (.bl true)))(hs:fJ a)(hb:attributeBase o "index" X.env (eval o X.env)=eval o X.env)(hl:(ap.endLine==pos.line)=true)
 (hj:(bs.map PyData.bool).findIdx? kY=aC j) (hz:(j:Int)<2 ^ 63-1):PE X (.Call (.Attribute o "index" ap) [a] [] pos) (tM C ρ (.int (j:Nat))):=by
 obtain⟨hlt,h1,h2⟩:=List.findIdx?_eq_some_iff_getElem.mp hj;refine(nV (X:=X) PySem.F.plainAttrs_list PySem.F.slot_list_index PySem.F.type_list_index (Ww hu) ho (nA ha pZ (eO hs)) hb (by rw[eO hs];rfl) hl (eO hs) rfl).imp λσ H Q ⟨en,k⟩=>
  ⟨en,λv H1 k1 ⟨l,e1,q1⟩=>⟨by subst e1;exact .inl ⟨rfl,_,cN.of q1⟩,en.mono k1,λu H2 k2 r2=>⟨l,_,u,_,.bool true,j,_,e1,rfl,cN.of (k2 _ _ q1),JK bs,by rw[show u=.bl true from r2];exact .bl true,JL bs,rfl,k9 hlt,h1,λm e hm q=>?_,hz,k _ H2 (k1.trans k2) rfl⟩⟩⟩
 have:=h2 m hm;obtain⟨hq,rfl⟩:=ku.mp q;simpa[kY]using this
theorem Xy{α β:Type}{f:α->β}{xs:List α}{i:Int}{v:α}(h:dZ xs i=aC v):dZ (xs.map f) i=aC (f v):=by
 unfold dZ at h ⊢;rw[bQ];cases e:jI xs.length i with
 |none=>rw[e]at h;cases h
 |some j=>
  rw[e]at h;show(xs.map f)[j]?=_;rw[mz,show xs[j]?=aC v from h];rfl
theorem CI{xs:List Str}{i:Int}{z:Str}(ha:PE X a (tM C ρ (.sts xs)))(hb:PE X b (tM C ρ (.int i)))(hs:EU b)(hi:dZ xs i=aC z):PE X (.Subscript a b pos) (tM C ρ (.str z)):=
 (um Mh ha hb hs).imp λσ H Q ⟨en,k⟩=>⟨en,λv H1 k1 ⟨l,e1,q1⟩=>⟨en.mono k1,λu H2 k2 r2=>⟨l,_,i,.str z,e1,r2,cN.of (k2 _ _ q1),Xy hi,k _ H2 (k1.trans k2) rfl⟩⟩⟩
theorem Ow{r:Bool}(ha:PT X a (nD C ρ r)):PT X (.UnaryOp .Not a pos) (nD C ρ (!r)):=λpins s σ H Q I ⟨en,k⟩=>GL ha pins s σ H Q I ⟨en,λH1 k1=>k H1 k1⟩
theorem Ox{r:Bool}(ha:PE X a (tM C ρ (.bl r)))(he:∀whole,isTrue a X.env whole=(do let v <-whole;standAt a.pos;holding [v] (truthy v))):PT X a (nD C ρ r):=λpins s σ H Q I ⟨en,k⟩=>
 LD ha he pins s σ H Q I ⟨en,λv H1 k1 e=>⟨r,e,k H1 k1⟩⟩
theorem CJ{i j:Int}(ha:PE X a (tM C ρ (.int i)))(hb:PE X b (tM C ρ (.int j)))(hm:behindInMarks .NotEq b=false):PT X (.Compare a [.NotEq] [b] pos) (nD C ρ (!decide (V.int i=V.int j))):=λpins s σ H Q I ⟨en,k⟩=>
 LR AE ha hb hm pins s σ H Q I ⟨en,λv H1 k1 e1=>⟨en.mono k1,λu H2 k2 e2=>by
  have e1:v=.int i:=e1;have e2:u=.int j:=e2;subst e1 e2;exact⟨rfl,_,rfl,k H2 (k1.trans k2)⟩⟩⟩
theorem uJ{rest:List aq}{r r':Bool}(ha:PT X a (nD C ρ r))(hb:PW X (.BoolOp .Or (b::rest) pos) (nD C ρ r')):PW X (.BoolOp .Or (a::b::rest) pos) (nD C ρ (r||r')):=λwh pins s σ H Q I ⟨en,k⟩=>
 pw_or ha hb wh pins s σ H Q I ⟨en,λH1 k1=>by
  cases r with|true=>rw[if_pos rfl];exact k H1 k1|false=>rw[if_neg ic];exact⟨en.mono k1,λH2 k2=>k H2 (k1.trans k2)⟩⟩
theorem Xz{r:Bool}(ha:PT X a (nD C ρ r)):PW X (.BoolOp .Or [a] pos) (nD C ρ r):=LF ha
noncomputable def oW(C:ai)(ρ:List (Option MV))(m:MV):TS:=λD σ H=>iX C H σ ρ/\∀v H',Hx H H'->iW C H' v m->D.rt v H'
theorem _root_.L2.fU.imp'{st:List au}{t t':TS}(h:fU X st t)(k:∀D σ H,t' D σ H->t D σ H):fU X st t':=λpins s σ H D I q=>h pins s σ H D I (k D σ H q)
theorem XA{m:MV}(he:PE X e (tM C ρ m)):fU X [.Return (aC e) pos] (oW C ρ m):=(EJ (An he)).imp' λD σ H q=>q
theorem iX.set{H:Hp}{σ:L2.St}{i:Nat}{v:V}{m:MV}(en:iX C H σ ρ)(hl:i<σ.length)(hi:i<ρ.length)(r:iW C H v m):iX C H (σ.set i (aC v)) (ρ.set i (aC m)):=λj m' e=>by
 by_cases h:j=i;subst h;rw[pS hi]at e;cases e;exact⟨v,pS hl,r⟩;rw[vO (eE h)]at e ⊢;exact en j m' e
end
structure XH(X:Cx)(c:CC):Prop where
 hN:X.N=c.N
 nd:c.N.Nodup
 vis:∀x,iH (c.names.lookup x)=true->kI X.env.scope x
 loc:∀x,kU c.lK (c.names.lookup x)=true->Loc X.env.scope x/\(X.fn x=true\/X.env.scope.names.lookup x=aC .local)
 gl:∀x,c.names.lookup x=aC .globalImplicit->Gl X x
 mZ:∀x v,PySem.W.nsIn X.K mainGlobals x=aC (aC v)->X.mg x=aC v
 zh:∀x,PySem.W.nsIn X.K mainGlobals x=aC aD->X.mg x=aD
 un:X.A.units+70<cLine
noncomputable def sf(K:aI)(c:CC)(t:Str):Option (aa×V):=if okN t&&c.names.lookup t==aC .globalImplicit then(match PySem.W.nsIn K mainGlobals t with|some (aC (.ref D))=>aC (.ref D,.ref D)|some aD=>if t==("ValueError" : Str)then aC (.type "ValueError",.ty "ValueError")else aD|_=>aD)else aD
noncomputable def j5(K:aI)(C:ai)(c:CC)(tab:List (Str×Bool)):Bool:=uI K c "isinstance" && tab.all λq=>match sf K c q.1 with|some v=>PySem.W.kitOne K (.ref C) v.1==aC q.2|none=>false
noncomputable def Oz(C:ai)(bs:List Bool):List V->Hp->VK->Prop:=λvs H Q=>∃a,vs=[.ref a]/\rV C a H/\∀v H',Hx H H'->iW C H' v (.nC bs)->Q v H'
structure oX(X:Cx)(C:ai)(c:CC)(tab:List (Str×Bool))(kb:List Bool)(k:Nat):Prop where
 hx:XH X c
 ex:XL.jn X.K C
 tab:j5 X.K C c tab=true
 kinds:k=0\/∃f fd ps,X.mg "_law_kinds" = aC (.ref f)/\dO X.prog X.w X.K X.mg X.base k f fd ps (Oz C kb)/\PySem.W.keepIn X.K (.ref f)=true/\Binds X.K fd ps []/\cy k X.A
section
variable{X:Cx}{C:ai}{kb:List Bool}{c:CC}{k:Nat}{tab:List (Str×Bool)}{ρ:List (Option MV)}{p pos:Pos}{a:aq}
noncomputable def sj(c:CC)(x:Str)(i:Nat):Bool:=okN x&&iH (c.names.lookup x)&& (jL c.N x 0==aC i)
theorem lV(O:oX X C c tab kb k){x:Str}(i:Nat){m:MV}(h:sj c x i)(hi:ρ[i]?=aC (aC m)):PE X (.Name x pos) (tM C ρ m):=by unfold sj at h;rw[aS,aS]at h;obtain⟨n1,n2,n3⟩:=iI h.1.1;exact CB (by rw[O.hx.hN];exact lM (by simpa using h.2)) (O.hx.vis x h.1.2) n1 n2 hi
theorem XC(O:XH X c){t:Str}{v:aa×V}(h:sf X.K c t=aC v):oj v.2=aC v.1/\PE X (.Name t p) (tC v.2):=by
 unfold sf at h;split at h;rename_i hc;rw[aS]at hc;obtain⟨n1,n2,n3⟩:=iI hc.1;have hg:Gl X t:=O.gl t (by simpa using hc.2);split at h;rename_i D hD;cases h;exact⟨rfl,LB hg (O.mZ t _ hD) rfl n1⟩;rename_i hD;split at h;rename_i ht;cases h;have ht:t = "ValueError":=by simpa using ht
 subst ht;exact⟨rfl,LC hg (O.zh _ hD) (u:=.type "ValueError") (by first|rfl|decide +kernel) rfl n3 n1⟩;cases h;cases h;cases h
theorem oY(O:oX X C c tab kb k){t:Str}{p2:Pos}{b:Bool}(ha:PE X a (tM C ρ .exc))(hs:fJ a){i:Nat}(hm:tab[i]?=aC (t,b)):PE X (.Call (.Name "isinstance" p) [a,.Name t p2] [] pos) (tM C ρ (.bl b)):=by
 have h:=O.tab;unfold j5 at h;rw[aS]at h;have h2:=mC.mp h.2 _ (El hm);have hab:=h.1;unfold uI at hab;rw[aS]at hab;cases hv:sf X.K c t with
 |none=>simp only[hv]at h2;cases h2
 |some v=>
  simp only[hv]at h2;obtain⟨c1,c2⟩:=XC (p:=p2) O.hx hv;refine CF c1 c2 ha hs (O.hx.gl _ (by simpa using hab.1)) (O.hx.zh _ ?_) O.ex (by simpa using h2);have h3:=hab.2;split at h3;assumption;cases h3
theorem uK(O:oX X C c tab kb (k+1))(ha:PE X a (tM C ρ .exc))(hs:fJ a)(hl:c.names.lookup ("_law_kinds" : Str)=aC .globalImplicit):PE X (.Call (.Name "_law_kinds" p) [a] [] pos) (tM C ρ (.nC kb)):=by rcases O.kinds with h|⟨fa,fd,ps,g1,g2,g3,g4,g5⟩;cases h;exact(N4 g2 g5 (O.hx.gl _ hl) g1 g3 g4 (nA ha pZ (eO hs)) (by decide +kernel) (eO hs) rfl).imp λσ H Q ⟨en,k⟩=>⟨en,λv H1 k1 ⟨x,e1,q1⟩=>⟨x,by rw[e1],q1,λw H2 k2 r2=>k w H2 (k1.trans k2) r2⟩⟩
theorem oZ{n:Nat}(h:Nat.ble n 1000):n<=sizeLine:=vR (HB (kG h))
theorem oX.OA(O:oX X C c tab kb k):X.A.in1.units+64<cLine:=by have:=O.hx.un;show X.A.units+1+64<_;lia
theorem CK{b:Bool}{q:Nat}:PE X (.Constant (.bool b) q pos) (tM C ρ (.bl b)):=uc.imp λσ H Q ⟨_,k⟩=>k _ H .refl rfl
theorem CL{b:Int}{q:Nat}:PE X (.Constant (.int b) q pos) (tM C ρ (.int b)):=LA.imp λσ H Q ⟨_,k⟩=>k _ H .refl rfl
theorem CM{b:Str}{q:Nat}:PE X (.Constant (.str b) q pos) (tM C ρ (.str b)):=GI.imp λσ H Q ⟨_,k⟩=>k _ H .refl rfl
@[irreducible] def EQ (X:Cx) (e:aq) (t:TE):Prop:=PE X e t
theorem EQ.out{e:aq}{t:TE}(h:EQ X e t):PE X e t:=by unfold EQ at h;exact h
theorem EQ.mk{e:aq}{t:TE}(h:PE X e t):EQ X e t:=by unfold EQ;exact h
noncomputable def JM:List aq->Option (List Str)|[]=>aC []|e::es=>(rZ e).bind λz=>(JM es).map (z.1 :: ·)
theorem OB:∀{es:List aq} {xs:List Str},JM es=aC xs->PA X es (zm C ρ (xs.map .str))
 |[],_,h=>by cases h;exact zo
 |e::es,xs,h=>by
  obtain⟨z,h1,h2⟩:=fK h;obtain⟨ys,h3,rfl⟩:=kT h2;rw[Oa h1];exact jZ CM (OB h3) rfl
theorem uL{es:List aq}{xs:List Str}(h:JM es=aC xs)(hz:Nat.ble xs.length 1000):EQ X (.List es pos) (tM C ρ (.sts xs)):=.mk (CD (OB h) (oZ hz))
theorem XD{b:aq}{x y:List Str}(ha:PE X a (tM C ρ (.sts x)))(hb:EQ X b (tM C ρ (.sts y)))(hz:Nat.ble (x.length+y.length) 1000):EQ X (.BinOp a .Add b pos) (tM C ρ (.sts (x++y))):=.mk (Xx ha hb.out (oZ hz))
theorem CN{b:aq}{xs:List Str}{i:Int}{z:Str}(ha:EQ X a (tM C ρ (.sts xs)))(hb:PE X b (tM C ρ (.int i)))(hs:zd b)(hi:dZ xs i=aC z):EQ X (.Subscript a b pos) (tM C ρ (.str z)):=.mk (CI ha.out hb (Om hs) hi)
@[irreducible] def SQ (X:Cx) (st:List au) (t:TS):Prop:=fU X st t
theorem SQ.out{st:List au}{t:TS}(h:SQ X st t):fU X st t:=by unfold SQ at h;exact h
theorem SQ.mk{st:List au}{t:TS}(h:fU X st t):SQ X st t:=by unfold SQ;exact h
theorem uM{e:aq}{m:MV}(he:EQ X e (tM C ρ m)):SQ X [.Return (aC e) pos] (oW C ρ m):=.mk (XA he.out)
theorem j6(O:oX X C c tab kb k){x:Str}{e:aq}{rest:List au}{m m':MV}(i:Nat)(h:(sj c x i&&kU c.lK (c.names.lookup x)))(he:EQ X e (tM C ρ m))(hr:Nat.blt i ρ.length)(hs:zc e)(h2:SQ X rest (oW C (ρ.set i (aC m)) m')) :
 SQ X (.Assign [.Name x p] e pos::rest) (oW C ρ m'):=by
 unfold sj at h;rw[aS,aS]at h;obtain⟨l1,l2⟩:=O.hx.loc _ h.2;have hi:X.N[i]?=aC x:=by rw[O.hx.hN];exact lM (by simpa using h.1.2)
 refine .mk λpins s σ H D I di=>?_;obtain⟨en,k⟩:=di;exact EI (LJ (by rw[O.hx.hN];exact O.hx.nd) hi l1 he.out (IY hs) l2) h2.out pins s σ H D I ⟨en,λv H1 k1 r1=>⟨(en.mono k1).set (by rw[I.len];exact(ku.mp hi).1) (i8.mp hr) r1,λw H2 k2 r2=>k w H2 (k1.trans k2) r2⟩⟩
theorem XE{l:List au}:fU X l (λ_ _ _=>False):=λ_ _ _ _ _ _ h=>h.elim
theorem JN{e:aq}{m:MV}{b rest:List au}(hc:PT X e (nD C ρ false))(h:SQ X rest (oW C ρ m)):SQ X (.If e b [] pos::rest) (oW C ρ m):=
 .mk<|(EI (nO hc (XE (l:=b)) LG) h.out).imp' λD σ H ⟨en,k⟩=>⟨en,λH1 k1=>L2.cP ⟨en.mono k1,λv H2 k2 r=>k v H2 (k1.trans k2) r⟩⟩
end
noncomputable def XF(C:ai)(m:MV):List V->Hp->VK->Prop:=λvs H Q=>∃a,vs=[.ref a]/\rV C a H/\∀v H',Hx H H'->iW C H' v m->Q v H'
noncomputable def zp(K:aI)(x:Str):Option (CC×List au):=match fnAt K x with
 |some (f,o,fd)=>(match r9 fd.params,Cz fd.body with
  |some args,aC body=>if(fd.name==g9 x&&fd.qualname==x&&Nat.beq fd.globals mainGlobals&&fd.closure.isEmpty&& (isNone fd.defaults||fj K fd.defaults && !args.isEmpty)&&Nat.beq fd.builtins builtinsNs&&PySem.W.codeIn K fd.code x&&PySem.W.keepIn K (.ref f) &&
   zk (kX (args.map (·.arg)) fd.scope) (args.map (·.arg)) fd.scope)&&Nat.beq args.length 1 then
   aC (⟨kX (args.map (·.arg)) fd.scope,fd.scope.names,true⟩,body)
   else aD
  |_,_=>aD)
 |none=>aD
theorem uN{P:aj}{w:ak}{K:aI}{mg:Str->Option aa}{base:aA}{k:Nat}(KX:K.In base)(G:base.Ns mainGlobals mg){x:Str}{sc:az}{f:ai}{N ps:List Str}(S:cu N ps sc)
 (cdv:aa) (A:ao) (outer:List Env) (s:ah) (H:Hp) (hr:cy k (A.deeper (envOfC x sc s.heap.objs.size f cdv))):XH (Ce P w K mg base N x sc f cdv A outer s H) ⟨N,sc.names,true⟩:=by
 refine⟨rfl,S.nd,λy hy=>?_,λy hy=>?_,λy hy=>hy,λy v hv=>zY KX G hv,λy hv=>PySem.W.mg_none_of KX G hv,?_⟩;have hy:iH (sc.names.lookup y)=true:=hy;cases z:sc.names.lookup y with
 |none=>rw[z]at hy;cases hy
 |some kd=>cases kd<;>first|exact .inl z|exact .inr (.inl z)|exact .inr (.inr z)|(rw[z]at hy;cases hy)
 have hy:kU true (sc.names.lookup y)=true:=hy;cases z:sc.names.lookup y with
 |none=>rw[z]at hy;cases hy
 |some kd=>cases kd<;>first|exact⟨.inl z,.inl rfl⟩|exact⟨.inr z,.inl rfl⟩|(rw[z]at hy;cases hy)
 have:=hr.un;show(A.deeper (envOfC x sc s.heap.objs.size f cdv)).units+70<cLine;lia
theorem OC{P:aj}{w:ak}{K:aI}{mg:Str->Option aa}{base:aA}{C:ai}{kb:List Bool}{k:Nat}{x:Str}{m:MV}{c:CC}{body:List au}{tab:List (Str×Bool)}(KX:K.In base)(G:base.Ns mainGlobals mg)(h:zp K x=aC (c,body))(ex:XL.jn K C)(ht:j5 K C c tab=true)
 (hk:k=0\/∃f fd ps,mg "_law_kinds" = aC (.ref f)/\dO P w K mg base k f fd ps (Oz C kb)/\PySem.W.keepIn K (.ref f)=true/\Binds K fd ps []) (hb:∀X:Cx,oX X C c tab kb k->SQ X body (oW C [aC .exc,aD] m)) :
 ∃f fd ps,cM K x=aC f/\dO P w K mg base (k+1) f fd ps (XF C m)/\PySem.W.keepIn K (.ref f)=true/\Binds K fd ps []:=by
 unfold zp at h;split at h;rename_i f o fd hf;split at h;rename_i args body ha hbd;split at h;rename_i hc;cases h;rw[aS]at hc;obtain⟨hc,h1⟩:=hc;rw[aS,aS,aS,aS,aS,aS,aS,aS]at hc;obtain⟨⟨⟨⟨⟨⟨⟨⟨c1,c2⟩,c3⟩,c4⟩,c5⟩,c6⟩,c7⟩,c8⟩,c9⟩:=hc;obtain⟨S,nd⟩:=JF c9;obtain⟨hn,oc,od,sl,lk⟩:=Ot hf;obtain⟨dx,ef⟩:=JG c1 c2 c3 c4 c6 ha hbd;have hl:(args.map (·.arg)).length=1:=by rw[bQ];exact tY h1
 have CO:=lk;rw[ef]at CO;refine⟨f,fd,args.map (·.arg),hn,?_,c8,(JH ef nd rfl c5).1⟩;rw[ef];refine N3 (K:=K) (N:=kX (args.map (·.arg)) fd.scope) CO c7 S (λvs H Q ⟨a,e,_⟩=>by rw[e,hl];rfl) λA outer s H vs Q hr di=>?_;obtain⟨a,e,q1,q2⟩:=di;refine⟨_,(hb (Ce P w K mg base (kX (args.map (·.arg)) fd.scope) x fd.scope f fd.code A outer s H) ⟨uN KX G S fd.code A outer s H hr,ex,ht,hk.imp id λ⟨g,gd,qs,a1,a2,a3,a4⟩=>⟨g,gd,qs,a1,a2,a3,a4,hr⟩⟩).out,?_,q2⟩;subst e;intro i mv hi;cases i with
 |zero=>
  cases hi;exact⟨.ref a,by unfold L2.start;rfl,a,rfl,q1⟩
 |succ i=>
  cases i with|zero=>cases hi|succ i=>cases hi
 cases h;cases h;cases h
theorem wk{α:Type}{xs:List α}{j:Nat}{z:α}(h:xs[j]?=aC z):dZ xs (j:Int)=aC z:=by unfold dZ jI;rw[if_pos (Int.natCast_nonneg j),pX,if_pos (Int.ofNat_lt.mpr (ku.mp h).1)];exact h
noncomputable def ja(C:CC):aq->Option Nat|.Name x _=>if okN x&&iH (C.names.lookup x)then jL C.N x 0 else aD|_=>aD
theorem Fw{X:Cx}{c:CC}(O:XH X c){x:Str}{p:Pos}{i:Nat}(h:ja c (.Name x p)=aC i):PE X (.Name x p) (Ah i):=by unfold ja at h;simp only at h;split at h;rename_i hc;rw[aS]at hc;exact yI (by rw[O.hN];exact lM h) (O.vis _ hc.2) (iI hc.1).1 (iI hc.1).2.1;cases h
structure CP where
 a:Str×Pos
 f:Str
 fp:Pos
 b:Str×Pos
 p:Pos
noncomputable def xA:aq->Option (aq×Str×Pos)|.Attribute o f p=>aC (o,f,p)|_=>aD
theorem XG{e:aq}{q:aq×Str×Pos}(h:xA e=aC q):e=.Attribute q.1 q.2.1 q.2.2:=by unfold xA at h;split at h;cases h;rfl;cases h
noncomputable def lW:au->Option CP
 |.Assign ts e p=>(match(oneOf ts).bind xA,xg e with
  |some t,aC b=>(xg t.1).map λa=>⟨a,t.2.1,t.2.2,b,p⟩
  |_,_=>aD)
 |_=>aD
theorem OD{s:au}{q:CP}(h:lW s=aC q):s=.Assign [.Attribute (.Name q.a.1 q.a.2) q.f q.fp] (.Name q.b.1 q.b.2) q.p:=by unfold lW at h;split at h;split at h;rename_i t b h1 h2;obtain⟨a,h3,rfl⟩:=kT h;obtain⟨z,h4,h5⟩:=fK h1;rw[wZ h4,XG h5,Cj h3,Cj h2];cases h;cases h
noncomputable def xB(K:aI)(D:ai)(C:CC):List au->Bool
 |[s,t]=>(match lW s,lW t with
  |some x,aC y=>ja C (.Name x.a.1 x.a.2)==aC 0&&ja C (.Name x.b.1 x.b.2)==aC 1&&ja C (.Name y.a.1 y.a.2)==aC 0&&ja C (.Name y.b.1 y.b.2)==aC 2&&Cb K D x.f&&Cb K D y.f
  |_,_=>false)
 |_=>false
noncomputable def sr(o:Option (Option aa))(s:String):Bool:=match o with|some (aC (.builtin b))=>b==s|_=>false
theorem OE{o:Option (Option aa)}{s:String}(h:sr o s):o=aC (aC (.builtin s)):=by unfold sr at h;split at h;rename_i b;rw[show b=s by simpa using h];cases h
noncomputable def o4(K:aI)(C:ai):Bool:=(PySem.W.clsIn K C).any (λcd=>XL.eV cd.mro)&&sr (PySem.W.findIn K (.ref C) "__getattribute__") "BaseException.__getattribute__" && Cb K C "__getattr__" && sr (PySem.W.findIn K (.ref C) "__setattr__") "object.__setattr__" && PySem.W.hasDictIn K C
theorem XI{K:aI}{C:ai}(h:o4 K C):XL.ExcK K C:=by unfold o4 at h;simp only[aS]at h;obtain⟨⟨⟨⟨h1,h2⟩,h3⟩,h4⟩,h5⟩:=h;exact⟨h1,OE h2,Je h3,OE h4,h5⟩
noncomputable abbrev su:Str:="Fault.__init__"
noncomputable def uO(K:aI)(D f:ai)(fd:av):Bool:=match r9 fd.params,Cz fd.body with
 |some args,aC body=>(fd.name==g9 su&&fd.qualname==su&&Nat.beq fd.globals mainGlobals&&fd.closure.isEmpty&& (isNone fd.defaults||fj K fd.defaults && !args.isEmpty)&&Nat.beq fd.builtins builtinsNs&&PySem.W.codeIn K fd.code su&&PySem.W.keepIn K (.ref f) &&
  zk (kX (args.map (·.arg)) fd.scope) (args.map (·.arg)) fd.scope)&& (Nat.beq args.length 3&&xB K D ⟨kX (args.map (·.arg)) fd.scope,fd.scope.names,true⟩ body)
 |_,_=>false
noncomputable def j7(K:aI)(D:ai):Option ai:=match PySem.W.findIn K (.ref D) "__init__"with
 |some (aC (.ref f))=>(match K.lookup f with
  |some o=>(match o.data with
   |.func fd=>if uO K D f fd&&XL.cV K D&&PySem.W.isFn K (.ref f)&&PySem.W.keepIn K (.ref D)&&o4 K D then aC f else aD
   |_=>aD)
  |none=>aD)
 |_=>aD
noncomputable abbrev JO(P:aj)(w:ak)(K:aI)(mg:Str->Option aa)(base:aA)(D f:ai):Prop:=∃fd ps,HZ K D f/\dO P w K mg base 1 f fd ps (Fj D)/\Binds K fd ps []
theorem XJ{X:Cx}{c:CC}{D:ai}{body:List au}{a:ai}{x y:V}{H:Hp}{Q:VK}{r:L2.St}(O:XH X c)(ex:XL.ExcK X.K D)(h:xB X.K D c body)(ha:H a=aC (gV D aD a))
 (k:∀dx fs H',H dx=aD->H' a=aC (gV D (aC dx) a)->H' dx=aC (p9 fs dx)->(∀b o,b≠a->H b=aC o->H' b=aC o)->Q .aN H') :
 ∃t,fU X body t/\t {nx:=λ_ H'=>Q .aN H',rt:=Q} (aC (.ref a)::aC x::aC y::r) H:=by
 unfold xB at h;split at h
 case h_2=>cases h
 split at h;rename_i q1 q2;rw[OD q1,OD q2];simp only[aS,i6]at h;obtain⟨⟨⟨⟨⟨h1,h2⟩,h3⟩,h4⟩,h5⟩,h6⟩:=h;refine⟨_,EI (MM (Fw O h1) (Fw O h2) rfl) (EJ (MM (Fw O h3) (Fw O h4) rfl)),?_⟩;refine⟨x,rfl,_,rfl,a,D,rfl,ex,Je h5,.inl ⟨ha,λdx hdx=>?_⟩⟩;have hne:dx≠a:=λz=>by rw[z,ha]at hdx;cases hdx
 refine⟨y,rfl,_,rfl,a,D,rfl,ex,Je h6,.inr ⟨dx,_,fB,(by rw[bX hne,fB]),(by show 1<1000;decide),?_⟩⟩;refine k dx _ _ hdx (by rw[bX (eE hne),fB]) fB λb o hb e=>?_;have hbd:b≠dx:=gR e hdx;rw[bX hbd,bX hb,bX hbd];exact e;cases h
theorem XM{P:aj}{w:ak}{K:aI}{mg:Str->Option aa}{base:aA}{D f:ai}(KX:K.In base)(G:base.Ns mainGlobals mg)(h:j7 K D=aC f):JO P w K mg base D f:=by
 unfold j7 at h;split at h
 case h_2=>cases h
 rename_i g hi;split at h
 case h_2=>cases h
 rename_i o ho;split at h
 case h_2=>cases h
 rename_i fd hd;split at h
 case isFalse=>cases h
 rename_i hc;cases h;simp only[aS]at hc;obtain⟨⟨⟨⟨hq,h1⟩,h2⟩,h3⟩,h4⟩:=hc;unfold uO at hq;split at hq
 case h_2=>cases hq
 rename_i args body ha hb;rw[aS]at hq;rw[aS (Nat.beq _ _)]at hq;obtain⟨hc,hl,hB⟩:=hq;rw[aS,aS,aS,aS,aS,aS,aS,aS]at hc;obtain⟨⟨⟨⟨⟨⟨⟨⟨c1,c2⟩,c3⟩,c4⟩,c5⟩,c6⟩,c7⟩,c8⟩,c9⟩:=hc;obtain⟨S,nd⟩:=JF c9;obtain⟨dx,ef⟩:=JG c1 c2 c3 c4 c6 ha hb;have hl:(args.map (·.arg)).length=3:=by rw[bQ];exact tY hl
 have CO:K.lookup f=aC ⟨o.cls,o.dict,.func fd,o.slots⟩:=by rw[<-hd];exact ho
 rw[ef]at CO;refine⟨fd,args.map (·.arg),⟨h1,hi,h2,h3⟩,?_,(JH ef nd rfl c5).1⟩;rw[ef];refine N3 (K:=K) (N:=kX (args.map (·.arg)) fd.scope) CO c7 S (λvs H Q ⟨a,x,y,e,_⟩=>by rw[e,hl];rfl) λA outer s H vs Q hr di=>?_;obtain⟨a,x,y,e,q1,q2⟩:=di;have O:=uN (P:=P) (w:=w) (mg:=mg) (base:=base) KX G (x:=su) (f:=f) S fd.code A outer s H hr;subst e;exact XJ O (XI h4) hB q1 q2
noncomputable def xC(K:aI)(D:ai):Bool:=XL.cV K D&& (match PySem.W.findIn K (.ref D) "__init__"with|some (aC (.builtin b))=>b == "ValueError.__init__"|_=>false)&&PySem.W.keepIn K (.ref D)
theorem XN{K:aI}{D:ai}(h:xC K D):HY K D:=by unfold xC at h;rw[aS,aS]at h;obtain⟨⟨h1,h2⟩,h3⟩:=h;refine⟨h1,?_,h3⟩;split at h2;rename_i b e;rw[e,show b = "ValueError.__init__" by simpa using h2];cases h2
noncomputable def excAt(K:aI)(C:CC)(x:Str):Option ai:=if okN x&&C.names.lookup x==aC .globalImplicit then(match PySem.W.nsIn K mainGlobals x with|some (aC (.ref D))=>if xC K D then aC D else aD|_=>aD)else aD
noncomputable def uP(K:aI)(C:CC)(x:Str):Option (ai×ai):=if okN x&&C.names.lookup x==aC .globalImplicit then(match PySem.W.nsIn K mainGlobals x with|some (aC (.ref D))=>(j7 K D).map λf=>(D,f)|_=>aD)else aD
noncomputable def lX(R:RX)(C:CC)(x:Str):Option Nat:=if okN x&&C.names.lookup x==aC .globalImplicit then jL R.jq x 0 else aD
noncomputable def lY(R:RX)(C:CC)(e:aq):Option (gj×Nat):=match xh e with|some q=>if q.args.isEmpty then aD else(lX R C q.f).map λj=>(q,j)|none=>aD
theorem OF{R:RX}{C:CC}{e:aq}{q:gj×Nat}(h:lY R C e=aC q):lX R C q.1.f=aC q.2/\∃a as,q.1.args=a::as/\e=.Call (.Name q.1.f q.1.p) (a::as) [] q.1.cp:=by
 unfold lY at h;split at h;rename_i c hc;split at h;cases h;rename_i hne;obtain⟨j,h1,rfl⟩:=kT h;have g:=Ck hc;cases ha:c.args with|nil=>rw[ha]at hne;exact absurd rfl hne|cons a as=>rw[ha]at g;exact⟨h1,a,as,rfl,g⟩
 cases h
noncomputable def o5:aq->Option (aq×Pos)
 |.UnaryOp o e p=>(match o with
  |.Not=>aC (e,p)
  |_=>aD)
 |_=>aD
theorem XO{e:aq}{q:aq×Pos}(h:o5 e=aC q):e=.UnaryOp .Not q.1 q.2:=by unfold o5 at h;split at h;split at h;cases h;rfl;cases h;cases h
noncomputable def JP(K:aI)(T:List Str)(d:Nat)(C:CC)(q:gj):Option S:=match q.args with
 |[]=>(excAt K C q.f).map λD=>.ret (.cst (.int (D:Nat)))
 |[e1,e2]=>(match uP K C q.f,cE K T d C e1,cE K T d C e2 with
  |some Df,aC a,aC b=>aC (.seq (.expr (.cons a (.cons b .nil))) (.ret (.cst (.int (Df.1:Nat)))))
  |_,_,_=>aD)
 |_=>aD
noncomputable def cX(K:aI)(T:List Str)(R:RX)(d:Nat):Nat->CC->au->Option S
 |0,_,_=>aD
 |n+1,C,s=>match s with
  |.Raise x aD _=>(match x.bind xh with
   |some q=>JP K T d C q
   |none=>aD)
  |.Return (aC e) _=>(cE K T d C e).map λa=>.ret (.tup (.cons a .nil))
  |.If c a b _=>(match kW (cX K T R d n C) a,kW (cX K T R d n C) b with
   |some x,aC y=>(match(o5 c).bind λq=>lY R C q.1 with
    |some q=>(cL (cE K T d C) q.1.args).map λz=>.jq (R.at_+q.2) z true x y
    |none=>(cT K T d C c).map λz=>.ite z x y)
   |_,_=>aD)
  |.Expr e _=>(match lY R C e with
   |some q=>(cL (cE K T d C) q.1.args).map λa=>.jq (R.at_+q.2) a false .skip .skip
   |none=>if zc e then(cE K T d C e).map .expr else aD)
  |.For tg it b [] _=>(match cW K T d C it,Cq C tg,kW (cX K T R d n C) b with
   |some (kd,a),aC t,aC x=>if Co kd tg then aC (.for kd a t x)else aD
   |_,_,_=>aD)
  |s=>(match cS K T R d (n+1) C s with
   |some c=>if ff c then aC c else aD
   |none=>aD)
theorem XQ{cl:Call}{a:E}:exs cl (.ret (.tup (.cons a .nil)))=λρ h=>(ev cl a ρ h).bind λw h=>.ok (.rt (.tup [w])) h:=by funext ρ h;simp only[exs,ev];cases ev cl a ρ h<;>rfl
theorem XS{cl:Call}{a b:E}{D:Nat}:exs cl (.seq (.expr (.cons a (.cons b .nil))) (.ret (.cst (.int D))))=λρ h=>(ev cl (.cons a (.cons b .nil)) ρ h).bind λy h=>match y with|.tup [_,_]=>.ok (.rt (.int D)) h|_=>.no:=by
 funext ρ h;simp only[exs,ev];cases ev cl a ρ h with
 |ok x h1=>
  simp only[Res.bind];cases ev cl b ρ h1<;>rfl
 |_=>rfl
section
variable{X:Cx}{E:XK}{C:CC}{T:List Str}{R:RX}{F:Nat->Option Fn}{k d:Nat}
theorem xD{f:au->Option S}{cl:Call}(ih:∀st c,f st=aC c->SX X E st (exs cl c)):∀{sts:List au} {c:S},kW f sts=aC c->Fo X E sts (exs cl c)
 |[],_,h=>by cases h;exact NC
 |s::r,c,h=>by
  unfold kW at h;split at h;rename_i a b ha hb;cases h;exact ND (ih s a ha) (xD ih hb);cases h
theorem OG(O:gk X.dJ C T R F k){x:Str}{j:Nat}(h:lX R C x=aC j):∃g fd ps,cD X.prog X.w X.K X.mg X.base (kD X.prog X.w) k g fd ps (qg X.K ps.length (run F k (R.at_+j)))/\Gl X x/\X.mg x=aC (.ref g)/\PySem.W.keepIn X.K (.ref g)=true/\Binds X.K fd ps []/\(∀ws h w h',run F k (R.at_+j) ws h=.ok w h'->ws.length=ps.length)/\(x==("__debug__" : Str))=false:=by unfold lX at h;split at h;rename_i hc;simp only[aS,i6]at hc;obtain⟨c1,c2⟩:=hc;obtain⟨g,fd,ps,fn,q1,q2,q3,q4,q5,q6⟩:=O.rs j x (lM h);exact⟨g,fd,ps,q2,O.gl x c2,O.mZ x _ (ze q1),q3,q4,λws h w h' e=>by rw[uE q5 e,q6],(iI c1).1⟩;cases h
theorem XT(O:gk X.dJ C T R F k)(fl:wW X E)(hi:∀D f,j7 X.K D=aC f->JO X.prog X.w X.K X.mg X.base D f){q:gj}{pos:Pos}{c:S}(h:JP X.K T d C q=aC c):SX X E (.Raise (aC (.Call (.Name q.f q.p) q.args [] q.cp)) aD pos) (exs (run F k) c):=by
 have Sd:=nB (T:=T) (F:=F) (k:=k) d O;unfold JP at h;split at h;rename_i hq;rw[hq];obtain⟨D,h1,rfl⟩:=map_some h;unfold excAt at h1;split at h1;rename_i hc;rw[aS,i6]at hc;split at h1;rename_i D' hD;split at h1;rename_i hm;cases h1;exact WB fl (XN hm) O.calm (O.gl q.f hc.2) (O.mZ q.f _ hD) (iI hc.1).1;cases h1;cases h1;cases h1
 .rename_i e1 e2 hq
  rw[hq];split at h
  case h_2=>cases h
  rename_i Df a b hf ha hb;cases h;obtain⟨D,f⟩:=Df;unfold uP at hf;split at hf
  case isFalse=>cases hf
  rename_i hc;rw[aS,i6]at hc;split at hf
  case h_2=>cases hf
  rename_i D' hD;obtain⟨f',h1,h2⟩:=map_some hf;cases h2;obtain⟨fd,ps,M,G,hbd⟩:=hi _ _ h1;obtain⟨g1,g2⟩:=dP (es:=[e1,e2]) (c:=.cons a (.cons b .nil)) Sd.e (by simp only[cL,ha,hb]);rw[XS];exact WC fl M G (bS.h2 (k:=k) O.room) hbd O.calm (O.gl q.f hc.2) (O.mZ q.f _ hD) (iI hc.1).1 g1 g2
 cases h
theorem uQ(O:gk X.dJ C T R F k)(tp:m5 X.dJ C)(fl:wW X E)(hi:∀D f,j7 X.K D=aC f->JO X.prog X.w X.K X.mg X.base D f):∀(n:Nat) (st:au) (c:S),cX X.K T R d n C st=aC c->SX X E st (exs (run F k) c)
 |0,_,_,h=>by cases h
 |n+1,st,c,h=>by
  have Sd:=nB (T:=T) (F:=F) (k:=k) d O;have ih:=uQ O tp fl hi n;unfold cX at h;split at h;split at h;rename_i q hq;obtain⟨e,h1,h2⟩:=fK hq;rw[h1,Ck h2];exact XT O fl hi h;cases h;obtain⟨a,h1,rfl⟩:=map_some h;rw[XQ];exact WA (Sd.e _ _ h1).1
  .split at h
   case h_2=>cases h
   rename_i x y h2 h3;split at h;rename_i q hq;obtain⟨z,h4,rfl⟩:=map_some h;obtain⟨e,h5,h6⟩:=fK hq;obtain⟨hj,a,as,ha,he⟩:=OF h6;rw[XO h5,he];rw[ha]at h4;obtain⟨g,fd,ps,q1,q2,q3,q4,q5,q6,q7⟩:=OG O hj;obtain⟨g1,g2⟩:=dP Sd.e h4;exact WE fl q1 O.room q2 q3 q4 q5 q6 g1 g2 q7 (xD ih h2) (xD ih h3);obtain⟨z,h4,rfl⟩:=map_some h;exact NL (PT.dJ (Sd.t _ _ h4)) (xD ih h2) (xD ih h3)
  split at h;rename_i q hq;obtain⟨z,h4,rfl⟩:=map_some h;obtain⟨hj,a,as,ha,he⟩:=OF hq;rw[he];rw[ha]at h4;obtain⟨g,fd,ps,q1,q2,q3,q4,q5,q6,q7⟩:=OG O hj;obtain⟨g1,g2⟩:=dP Sd.e h4;exact WD fl q1 O.room q2 q3 q4 q5 q6 g1 g2 q7;split at h;rename_i hn;obtain⟨a,h1,rfl⟩:=map_some h;exact N5 (NF (Sd.e _ _ h1).1 hn) rfl;cases h
  .rename_i tg it b pos
   split at h
   .rename_i h1 h2 h3
    split at h
    case isFalse=>cases h
    rename_i hw;cases h;obtain⟨w1,w2⟩:=Sd.w _ _ _ tg h1 hw;exact NO fl.own O.calm (PI.dJ w1) (PG.dJ (oU O h2)) (xD ih h3) w2
   cases h
  split at h;rename_i c' hc;split at h;rename_i hn;cases h;exact N5 (lR O tp (n+1) _ _ hc) hn;cases h;cases h
end
noncomputable abbrev gS(K:aI)(T:List Str)(R:RX)(d n:Nat):CC->List au->Option S:=λC b=>kW (cS K T R d n C) b
noncomputable abbrev gX(K:aI)(T:List Str)(R:RX)(d n:Nat):CC->List au->Option S:=λC b=>(kW (cX K T R d n C) b).map λb=>.seq b (.ret (.cst (.tup [.aN])))
noncomputable def Fx(K:aI)(T:List Str)(R:RX)(d n:Nat)(x:Str):Option Fn:=if x==("" : Str)then aC ⟨0,0,.no⟩else zl K (gS K T R d n) x
theorem JQ{K:aI}{T:List Str}{R:RX}{d n:Nat}{x:Str}{fn:Fn}(h:Fx K T R d n x=aC fn)(hx:x≠""):zl K (gS K T R d n) x=aC fn:=by unfold Fx at h;rw[if_neg (by simpa using hx)]at h;exact h
noncomputable def gG(K:aI)(T:List Str)(R:RX)(d n:Nat):Option (List Fn):=match bY (Fx K T R d n) T,bY (zl K (gX K T R d n)) R.jq with|some a,aC b=>if Nat.beq R.at_ T.length then aC (a++b)else aD|_,_=>aD
theorem OH{α β:Type}{f:α->Option β}:∀{l:List α} {r:List β},bY f l=aC r->r.length=l.length
 |[],_,h=>by cases h;rfl
 |x::l,r,h=>by
  unfold bY at h;split at h;split at h;rename_i bs xm;cases h;rw[eK,eK,OH xm];cases h;cases h
section
variable{K:aI}{T:List Str}{R:RX}{d n:Nat}{Fs:List Fn}
theorem zdt(hP:gG K T R d n=aC Fs):(∀(i:Nat) (x:Str),T[i]?=aC x->∃fn,Fs[i]?=aC fn/\Fx K T R d n x=aC fn)/\∀(j:Nat) (x:Str),R.jq[j]?=aC x->∃fn,Fs[R.at_+j]?=aC fn/\zl K (gX K T R d n) x=aC fn:=by unfold gG at hP;split at hP;rename_i a b ha hb;split at hP;rename_i hz;cases hP;have hl:=OH ha;have hz:R.at_=T.length:=tY hz;refine⟨λi x e=>?_,λj x e=>?_⟩;obtain⟨fn,h1,h2⟩:=JJ ha i x e;exact⟨fn,by rw[yu (ku.mp h1).1];exact h1,h2⟩;obtain⟨fn,h1,h2⟩:=JJ hb j x e;exact⟨fn,by rw[vM (by lia),hz,hl,Nat.add_sub_cancel_left];exact h1,h2⟩;cases hP;cases hP
end
theorem CQ{K:aI}{T:List Str}{R:RX}{d n:Nat}{C:CC}{b:List au}{s:S}(h:gX K T R d n C b=aC s):∃c,kW (cX K T R d n C) b=aC c/\s=.seq c (.ret (.cst (.tup [.aN]))):=by obtain⟨c,h1,h2⟩:=map_some h;exact⟨c,h1,h2⟩
noncomputable def Wd(P:aj)(w:ak)(K:aI)(mg:Str->Option aa)(base:aA)(C:Nat)(z:Str):Prop:=∃f fd ps,mg "_law_word" = aC (.ref f)/\dO P w K mg base 2 f fd ps (Cg C z)/\PySem.W.keepIn K (.ref f)=true/\Binds K fd ps []
theorem _root_.L2.dO.imp{P:aj}{w:ak}{K:aI}{mg:Str->Option aa}{base:aA}{k:Nat}{f:ai}{fd:av}{ps:List Str}{sp OI:List V->Hp->VK->Prop}(F:dO P w K mg base k f fd ps sp)(h:∀vs H Q,OI vs H Q->sp vs H Q):dO P w K mg base k f fd ps OI:=
 ⟨λvs H Q q=>F.len _ _ _ (h _ _ _ q),λA o s H args us vs Q hr e hb r q=>F.run A o s H args us vs Q hr e hb r (h _ _ _ q)⟩
theorem lZ{P:aj}{w:ak}{K:aI}{mg:Str->Option aa}{base:aA}{C:Nat}{z:Str}{c1 c2:CC}{b1 b2:List au}{t1 t2:List (Str×Bool)}{kb:List Bool}(h1:zp K "_law_kinds" = aC (c1,b1))(h2:zp K "_law_word" = aC (c2,b2))(KX:K.In base)(G:base.Ns mainGlobals mg)(ex:XL.jn K C)
 (ht1:j5 K C c1 t1) (XU:j5 K C c2 t2) (k1:∀X:Cx,oX X C c1 t1 [] 0->SQ X b1 (oW C [aC .exc,aD] (.nC kb))) (k2:∀X:Cx,oX X C c2 t2 kb 1->SQ X b2 (oW C [aC .exc,aD] (.str z))):Wd P w K mg base C z:=by
 obtain⟨f1,XW,ps1,a1,a2,a3,a4⟩:=OC (P:=P) (w:=w) (k:=0) KX G h1 ex ht1 (.inl rfl) k1;obtain⟨f2,XX,ps2,b1,b2,b3,b4⟩:=OC (P:=P) (w:=w) (k:=1) KX G h2 ex XU (.inr ⟨f1,XW,ps1,zY KX G (ze a1),a2,a3,a4⟩) k2;exact⟨f2,XX,ps2,zY KX G (ze b1),b2.imp λvs H Q ⟨a,q1,q2,q3⟩=>⟨a,q1,q2,λv H' k r=>by rw[show v=.str z from r];exact q3 H' k⟩,b3,b4⟩
noncomputable abbrev AF(P:aj)(w:ak)(K:aI)(mg:Str->Option aa)(base:aA)(T:List Str)(Fs:List Fn)(k:Nat):Prop:=∀(i:Nat) (x:Str),T[i]?=aC x->x≠""->∃f fd ps fn,cM K x=aC f/\cD P w K mg base jJ k f fd ps (mU K ps.length (run (λi=>Fs[i]?) k i))/\PySem.W.keepIn K (.ref f)=true/\Binds K fd ps []/\Fs[i]?=aC fn/\fn.ps=ps.length/\(gZ K x=true->Binds K fd ps [.none])
noncomputable abbrev AR(P:aj)(w:ak)(K:aI)(mg:Str->Option aa)(base:aA)(R:RX)(Fs:List Fn)(k:Nat):Prop:=∀(j:Nat) (x:Str),R.jq[j]?=aC x->∃f fd ps fn,cM K x=aC f/\cD P w K mg base (kD P w) k f fd ps (qg K ps.length (run (λi=>Fs[i]?) k (R.at_+j)))/\PySem.W.keepIn K (.ref f)=true/\Binds K fd ps []/\Fs[R.at_+j]?=aC fn/\fn.ps=ps.length
section
variable{P:aj}{w:ak}{K:aI}{mg:Str->Option aa}{base:aA}{T:List Str}{R:RX}{Fs:List Fn}{k d n:Nat}
theorem JR(KX:K.In base)(G:base.Ns mainGlobals mg){x:Str}{st:au}{f:ai}{N ps:List Str}(S:cu N ps (gU st))(H0:AF P w K mg base T Fs k)(HR:AR P w K mg base R Fs k)(HW:∀C z,(C,z)∈R.tb->Wd P w K mg base C z)
 (cdv:aa) (A:ao) (outer:List Env) (s:ah) (H:Hp) (E:XK) (hr:bS k (A.deeper (envOfC x (gU st) s.heap.objs.size f cdv))):gk (gx jJ P w K mg base N x (gU st) f cdv A outer s H E).dJ ⟨N,(gU st).names,true⟩ T R (λi=>Fs[i]?) k:=by
 refine⟨rfl,S.nd,λy hy=>?_,λy hy=>?_,λy hy=>hy,λy hy=>hy,rfl,hr,rfl,S.kind,λy v hv=>zY KX G hv,λy hv=>PySem.W.mg_none_of KX G hv,H0,HR,HW⟩;have hy:iH ((gU st).names.lookup y)=true:=hy;cases z:(gU st).names.lookup y with
 |none=>rw[z]at hy;cases hy
 |some kd=>cases kd<;>first|exact .inl z|exact .inr (.inl z)|exact .inr (.inr z)|(rw[z]at hy;cases hy)
 have hy:kU true ((gU st).names.lookup y)=true:=hy;cases z:(gU st).names.lookup y with
 |none=>rw[z]at hy;cases hy
 |some kd=>cases kd<;>first|exact⟨.inl z,.inl rfl⟩|exact⟨.inr z,.inl rfl⟩|(rw[z]at hy;cases hy)
theorem JS{CX:lB}{x:Str}{st:au}{f:ai}{N:List Str}(cdv:aa)(A:ao)(outer:List Env)(s:ah)(H:Hp)(E:XK):m5 (gx CX P w K mg base N x (gU st) f cdv A outer s H E).dJ ⟨N,(gU st).names,true⟩:=
 ⟨rfl,rfl,λ_=>rfl,λy hy=>⟨hy,.inl hy,.inl hy⟩⟩
theorem OJ(hP:gG K T R d n=aC Fs)(KX:K.In base)(G:base.Ns mainGlobals mg)(HW:∀C z,(C,z)∈R.tb->Wd P w K mg base C z)(k:Nat):∀(j:Nat),j<=k->AF P w K mg base T Fs j/\AR P w K mg base R Fs j:=by
 induction k with
 |zero=>
  intro j hj;have:j=0:=Nat.le_zero.mp hj;subst this;refine⟨λi x e hx=>?_,λi x e=>?_⟩;obtain⟨fn,h1,h2⟩:=(zdt hP).1 i x e;obtain⟨f,fd,st,ps,N,a1,a2,a3,a4,a5,a6,a7,_⟩:=jY (JQ h2 hx);exact⟨f,fd,ps,fn,a1,NW,a2.kp,a6.1,h1,a5,a6.2.1⟩;obtain⟨fn,h1,h2⟩:=(zdt hP).2 i x e;obtain⟨f,fd,st,ps,N,a1,a2,a3,a4,a5,a6,a7,_⟩:=jY h2;exact⟨f,fd,ps,fn,a1,WK,a2.kp,a6.1,h1,a5⟩
 |succ k ih=>
  intro j hj;by_cases hjk:j<=k;exact ih j hjk;have:j=k+1:=by lia
  subst this;refine⟨λi x e hx=>?_,λi x e=>?_⟩;obtain⟨fn,h1,h2⟩:=(zdt hP).1 i x e;obtain⟨f,fd,st,ps,N,a1,a2,a3,a4,a5,a6,a7,_⟩:=jY (JQ h2 hx);exact⟨f,fd,ps,fn,a1,NV (F:=λi=>Fs[i]?) h1 a2 a3 a4 a5 λcdv A outer s H E hr=>xy (lR (JR KX G a3 (ih k (aZ _)).1 (ih k (aZ _)).2 HW cdv A outer s H E hr) (JS cdv A outer s H E) n) a7,a2.kp,a6.1,h1,a5,a6.2.1⟩;obtain⟨fn,h1,h2⟩:=(zdt hP).2 i x e;obtain⟨f,fd,st,ps,N,a1,a2,a3,a4,a5,a6,a7,_⟩:=jY h2;obtain⟨c,b1,b2⟩:=CQ a7;exact⟨f,fd,ps,fn,a1,WJ (F:=λi=>Fs[i]?) h1 a2 a3 a4 a5 b2 λcdv A outer s H E hr=>xD (uQ (X:=gx (kD P w) P w K mg base N x (gU st) f cdv A outer s H E) (JR KX G a3 (ih k (aZ _)).1 (ih k (aZ _)).2 HW cdv A outer s H E hr) (JS cdv A outer s H E) ⟨λe s' z=>Wq rfl rfl rfl z,PassesOwn.leaving⟩ (λD f h=>XM KX G h) n) b1,a2.kp,a6.1,h1,a5⟩
end
noncomputable def zq:Res W->Bool|.ok (.bl true) _=>true|_=>false
noncomputable def says(K:aI)(T:List Str)(R:RX)(d n k i:Nat)(ns:List Int):Bool:=match gG K T R d n with|some Fs=>zq (run (λi=>Fs[i]?) k i [.fz (ns.map .int)] ⟨0,0,[]⟩)|none=>false
theorem XY{r:Res W}(h:zq r):∃h',r=.ok (.bl true) h':=by
 cases r with
 |no=>cases h
 |ex _ _=>cases h
 |ok w h'=>cases w<;>first|(rename_i b;cases b<;>first|exact⟨h',rfl⟩|cases h)|cases h
theorem OL{K:aI}{m:Nat->ai}{n:Nat}{H:Hp}:∀(ns:List Int),aG K m n H (ns.map V.int) (ns.map W.int)|[]=>.nil|i::r=>.cons (.int i) (OL r)
theorem OM{K:aI}{T:List Str}{R:RX}{d n k i:Nat}{ns:List Int}(h:says K T R d n k i ns):∃Fs h',gG K T R d n=aC Fs/\run (λi=>Fs[i]?) k i [.fz (ns.map .int)] ⟨0,0,[]⟩=.ok (.bl true) h':=by unfold says at h;split at h;rename_i Fs hF;obtain⟨h',e⟩:=XY h;exact⟨Fs,h',hF,e⟩;cases h
theorem XZ{K:aI}{T:List Str}{R:RX}{d n k i:Nat}{ns:List Int}{Fs:List Fn}(hP:gG K T R d n=aC Fs)(h:zq (run (λi=>Fs[i]?) k i [.fz (ns.map .int)] ⟨0,0,[]⟩)):says K T R d n k i ns=true:=by unfold says;rw[hP];exact h
noncomputable def o8(K:aI)(x:Str):Bool:=match fnAt K x with
 |some (_,_,fd)=>(match r9 fd.params with
  |some [a]=>a.arg==("_law_script" : Str) && !(fj K fd.defaults)
  |_=>false)
 |none=>false
theorem X0{l:PySem.W.OpenLaw}{q:aj}{loose:List Str}{XP:(Str->Option aa)->aA->Prop}{YP:ak->aA->Prop}{dr:DefRec}{K:Params->aI}(T:List Str)(R:RX)(d n k i:Nat)(hn:l.most=aC 63)(hdf:dr.params.defaults=[])(hr:bS k callerA)
 (hY:∀(w:ak)(h:aA),YP w h->(K w.params).In h) (hT:T[i]?=aC dr.name) (hne:dr.name≠"") (hS:∀(w:ak)(ns:List Int),ns.length<=63->says (K w.params) T R d n k i ns) (hL:∀w:ak,o8 (K w.params) dr.name) (hW:∀(w:ak)(mg:Str->Option aa)(base:aA),(K w.params).In base->base.Ns mainGlobals mg->∀C z,(C,z)∈R.tb->Wd l.prog w (K w.params) mg base C z) :
 PySem.W.WalkO q loose XP YP l.row.toRowW dr [] (λf vs=>PySem.call f vs):=by
 have any:∀w:ak,∃Fs,gG (K w.params) T R d n=aC Fs:=λw=>let⟨Fs,_,h,_⟩:=OM (hS w [] (jG _));⟨Fs,h⟩;refine L2.Sz (n:=63) (k:=k) (x:="_law_script") (CX:=λ_=>jJ) (sp:=λw=>mU (K w.params) 1 (run (λj=>(Classical.choose (any w))[j]?) k i)) hn (by decide) hdf hr hY ?_ ?_ λ_ _ _ _ _ z=>z;intro w mg fa h KX G hmg;have hP:=Classical.choose_spec (any w);obtain⟨fn',h1,h2⟩:=(zdt hP).1 i _ hT;obtain⟨f',fd',st,ps',N,a1,a2,a3,a4,a5,a6,a7,o',X3,args,a8,a9,JT⟩:=jY (JQ h2 hne);have hps:ps'=[("_law_script" : Str)]:=by
  have hl:=hL w;unfold o8 at hl;rw[a8]at hl;simp only[a9]at hl;cases args with
  |nil=>cases hl
  |cons z zs=>
   cases zs with
   |nil=>
    rw[aS]at hl;have hl:z.arg = "_law_script":=by simpa using hl.1
    rw[JT,eS,hl];rfl
   |cons _ _=>cases hl
 have hnd:gZ (K w.params) dr.name=false:=by have hl:=hL w;unfold o8 at hl;rw[a8]at hl;unfold gZ;rw[a8];simp only[a9]at hl;split at hl;rw[aS]at hl;simpa using hl.2;cases hl
 have e:=zY KX G (ze a1);rw[hmg]at e;cases e;subst hps;refine⟨fd',λs u=>.of_eq (a6.2.2 hnd [u] rfl),λbase KB GB=>?_⟩;have HW:∀C z,(C,z)∈R.tb->Wd l.prog w (K w.params) mg base C z:=hW w mg base KB GB;cases k with|zero=>exact NW|succ k=>exact NV (F:=λj=>(Classical.choose (any w))[j]?) h1 a2 a3 a4 a5 λcdv A outer s H E hr=>xy (lR (JR KB GB a3 (OJ hP KB GB HW k k (aZ _)).1 (OJ hP KB GB HW k k (aZ _)).2 HW cdv A outer s H E hr) (JS cdv A outer s H E) n) a7
 intro w H a ns hl hO hQ;obtain⟨Fs,h',e1,e2⟩:=OM (hS w ns hl);have hP:=Classical.choose_spec (any w);rw[hP]at e1;cases e1;refine⟨rfl,⟨0,0,[]⟩,λ_=>0,_,_,h',⟨λi hi=>absurd hi (Nat.not_lt_zero _),λi j hi=>absurd hi (Nat.not_lt_zero _),rfl⟩,.cons (.fz ?_ (OL ns)) .nil,e2,λv H' m' _ _ q=>by cases q;rfl⟩;rcases hQ with(q|⟨o,q⟩)|q
 rcases hO a with z|⟨o,xs,z⟩;rw[z]at q;cases q;rw[z]at q;cases q;exact .inl ⟨o,q⟩;exact .inr q
section
open E renaming var->v,cons->c,cst->k,nil->n,call->f,idx->x,cmp->p,bi->b,op->o,not->z,and->a,or->r,qc->t,E6->i,slc->l,lst->m,lc->u,neg->y,mt->w
open S renaming seq->q,skip->s,ret->e,set->d,jo->g,expr->h,put->j
noncomputable def Fy:Fn:=⟨1,1,(q (e (a (i .int (v 0)) (z (i .bool (v 0))))) s)⟩
noncomputable def JU:Fn:=⟨3,3,(q (e (a (f 0 (c (v 0) n)) (.wJ .le .le (v 1) (v 0) (v 2)))) s)⟩
noncomputable def FA:Fn:=⟨2,2,(q (.ite (p .eq (b .len (c (v 0) n)) (k (.int 0))) (q (e (o .add (o .mul (k (.int 7)) (v 1)) (k (.int 3)))) s) s) (q (e (b .abs (c (x (v 0) (o .mod (v 1) (b .len (c (v 0) n)))) n))) s))⟩
noncomputable def uR:E:=(p .ge (b .abs (c (v 0) n)) (o .pow (k (.int 10)) (k (.int 18))))
noncomputable def zev:E:=(b .abs (c (v 0) n))
noncomputable def CS:Fn:=⟨1,1,(q (e (m (c (v 0) (c (u .seq (v 0) (.one 0) 1 [] uR zev) (c (k (.int 0)) (c (k (.int 0)) n)))))) s)⟩
noncomputable def JV:Fn:=⟨3,4,(q (d 3 (o .mod (o .pow (o .add (o .mul (o .add (o .mod (f 2 (c (v 0) (c (v 1) n))) (k (.int 1000003))) (k (.int 5))) (o .add (v 1) (k (.int 2)))) (o .mul (k (.int 7919)) (v 1))) (k (.int 5))) (k (.int 2147483647)))) (q (e (o .mod (o .fdiv (v 3) (k (.int 13))) (v 2))) s))⟩
noncomputable def CT:E:=(p .lt (x (v 0) (k (.int 2))) (b .len (c (x (v 0) (k (.int 1))) n)))
noncomputable def xE:S:=(q (d 2 (x (x (v 0) (k (.int 1))) (x (v 0) (k (.int 2))))) (q (.ite (p .gt (v 2) (k (.int 0))) (q (j (x (v 0) (k (.int 1))) (x (v 0) (k (.int 2))) (o .fdiv (v 2) (v 1))) (q (e (o .mod (v 2) (v 1))) s)) s) (q (j (v 0) (k (.int 2)) (o .add (x (v 0) (k (.int 2))) (k (.int 1)))) s)))
noncomputable def sC:Fn:=⟨2,3,(q (.yT CT xE) (q (j (v 0) (k (.int 3)) (o .add (x (v 0) (k (.int 3))) (k (.int 1)))) (q (e (f 4 (c (x (v 0) (k (.int 0))) (c (x (v 0) (k (.int 3))) (c (v 1) n))))) s)))⟩
noncomputable def CU:Fn:=⟨3,3,(q (e (a (i .tuple (v 0)) (.wJ .le .le (v 1) (b .len (c (v 0) n)) (v 2)))) s)⟩
noncomputable def FD:S:=(q (.ite (z (t (f 1 (c (v 5) (c (v 3) (c (v 4) n)))))) (q (e (k (.bl false))) s) s) s)
noncomputable def CV:Fn:=⟨5,6,(q (.ite (z (t (f 6 (c (v 0) (c (v 1) (c (v 2) n)))))) (q (e (k (.bl false))) s) s) (q (.«for» .seq (v 0) (.one 5) FD) (q (e (k (.bl true))) s)))⟩
noncomputable def FF:S:=(q (.ite (z (t (f 11 (c (v 3) (c (v 2) n))))) (q (e (k (.bl false))) s) s) s)
noncomputable def CW:Fn:=⟨3,4,(q (.ite (z (t (f 6 (c (v 0) (c (v 1) (c (v 1) n)))))) (q (e (k (.bl false))) s) s) (q (.«for» .seq (v 0) (.one 3) FF) (q (e (k (.bl true))) s)))⟩
noncomputable def FG:S:=(q (.ite (z (t (f 6 (c (v 2) (c (v 1) (c (v 1) n)))))) (q (e (k (.bl false))) s) s) s)
noncomputable def CY:Fn:=⟨2,3,(q (.ite (z (t (f 6 (c (v 0) (c (k (.int 0)) (c (k (.int 60)) n)))))) (q (e (k (.bl false))) s) s) (q (.«for» .seq (v 0) (.one 2) FG) (q (e (k (.bl true))) s)))⟩
noncomputable def j8:Fn:=⟨1,6,(q (.ite (z (t (f 6 (c (v 0) (c (k (.int 5)) (c (k (.int 5)) n)))))) (q (e (k (.bl false))) s) s) (q (g [1,2,3,4,5] (v 0)) (q (.ite (r (z (t (f 1 (c (v 1) (c (k (.int 1)) (c (k (.int 40)) n)))))) (z (t (f 1 (c (v 2) (c (k (.int 0)) (c (k (.int 8)) n))))))) (q (e (k (.bl false))) s) s) (q (.ite (z (t (f 7 (c (v 4) (c (k (.int 1)) (c (k (.int 4)) (c (k (.int 0)) (c (o .sub (v 1) (k (.int 1))) n)))))))) (q (e (k (.bl false))) s) s) (q (e (a (f 9 (c (v 3) (c (v 1) n))) (f 8 (c (v 5) (c (v 1) (c (b .len (c (v 4) n)) n)))))) s)))))⟩
noncomputable def sD:Fn:=⟨2,4,(q (.ite (z (t (f 6 (c (v 0) (c (k (.int 2)) (c (k (.int 2)) n)))))) (q (e (k (.bl false))) s) s) (q (g [2,3] (v 0)) (q (e (a (f 1 (c (v 2) (c (k (.int 0)) (c (k (.int 99)) n)))) (f 12 (c (v 3) (c (v 1) n))))) s)))⟩
noncomputable def xF:Fn:=⟨2,2,(q (e (r (p .Bq (v 0) (k .aN)) (f 1 (c (v 0) (c (k (.int 0)) (c (o .sub (v 1) (k (.int 1))) n)))))) s)⟩
noncomputable def sE:Fn:=⟨2,4,(q (.ite (z (t (f 6 (c (v 0) (c (k (.int 2)) (c (k (.int 2)) n)))))) (q (e (k (.bl false))) s) s) (q (g [2,3] (v 0)) (q (e (a (f 1 (c (v 2) (c (k (.int 0)) (c (o .sub (v 1) (k (.int 1))) n)))) (f 1 (c (v 3) (c (k (.int 0)) (c (k (.int 1)) n)))))) s)))⟩
noncomputable def FH:S:=(q (.ite (z (t (f 15 (c (v 7) (c (v 6) (c (v 1) (c (v 2) n))))))) (q .no s) s) s)
noncomputable def FI:S:=(q (.«for» .mQ (v 5) (.many [6,7]) FH) s)
noncomputable def xG:Fn:=⟨1,8,(q (.ite (z (t (f 10 (c (v 0) n)))) (q .no s) s) (q (g [1,2,3] (l (v 0) false (k .aN) true (k (.int 3)))) (q (.«for» .mQ (v 3) (.many [4,5]) FI) s)))⟩
noncomputable def xH:Fn:=⟨4,4,(q (.ite (r (p .eq (v 0) (k (.str (bK "x")))) (t (f 13 (c (v 0) (c (v 3) n))))) (q (e (.wJ .lt .lt (k (.int 0)) (v 1) (o .sub (v 2) (k (.int 1))))) s) s) (q (.ite (p .eq (v 0) (k (.str (bK "<")))) (q (e (p .gt (v 1) (k (.int 0)))) s) s) (q (.ite (p .eq (v 0) (k (.str (bK ">")))) (q (e (p .lt (v 1) (o .sub (v 2) (k (.int 1))))) s) s) (q (e (r (p .eq (v 0) (k (.str (bK ".")))) (p .eq (v 0) (k (.str (bK "s")))))) s))))⟩
noncomputable def o9:Fn:=⟨4,6,(q (d 4 (f 5 (c (v 0) (c (k (.int 10)) n)))) (q (d 5 (x (m (c (k (.str (bK "."))) (c (k (.str (bK "<"))) (c (k (.str (bK ">"))) (c (k (.str (bK "x"))) (c (k (.str (bK "."))) (c (k (.str (bK "."))) n))))))) (b .min (c (v 4) (c (k (.int 5)) n))))) (q (.ite (a (p .gt (v 4) (k (.int 4))) (p .gt (v 3) (k (.int 0)))) (q (d 5 (.tup (c (f 5 (c (v 0) (c (v 3) n))) (c (f 5 (c (v 0) (c (k (.int 2)) n))) n)))) s) s) (q (.ite (a (p .eq (v 4) (k (.int 4))) (p .eq (f 5 (c (v 0) (c (k (.int 4)) n))) (k (.int 0)))) (q (e (k (.str (bK "s")))) s) s) (q (.ite (r (a (p .eq (v 1) (k (.int 0))) (p .wI (v 5) (.tup (c (k (.str (bK "."))) (c (k (.str (bK ">"))) n))))) (a (p .eq (v 1) (o .sub (v 2) (k (.int 1)))) (p .wI (v 5) (.tup (c (k (.str (bK "."))) (c (k (.str (bK "<"))) n)))))) (q (e (x (m (c (k (.str (bK ">"))) (c (k (.str (bK "<"))) (c (k (.str (bK "."))) n)))) (b .min (c (o .add (b .int (c (p .gt (v 1) (k (.int 0))) n)) (o .mul (k (.int 2)) (b .int (c (p .eq (v 2) (k (.int 1))) n)))) (c (k (.int 2)) n))))) s) s) (q (e (v 5)) s))))))⟩
noncomputable def FJ:E:=(f 21 (c (v 1) (c (v 0) (c (v 3) (c (v 2) n)))))
noncomputable def sF:Fn:=⟨3,3,(q (e (b .tuple (c (u .eW (c (v 1) n) (.one 0) 1 [0,2,1] (k (.bl true)) FJ) n))) s)⟩
noncomputable def j9:Fn:=⟨2,4,(q (.ite (z (t (i .tuple (v 0)))) (q (e (v 0)) s) s) (q (g [2,3] (v 0)) (q (e (.tup (c (o .add (v 2) (v 1)) (c (v 3) n)))) s)))⟩
noncomputable def xJ:E:=(f 75 (c (v 0) (c (v 1) n)))
noncomputable def CZ:E:=(b .tuple (c (u .seq (v 0) (.one 0) 1 [1] (k (.bl true)) xJ) n))
noncomputable def iY:Fn:=⟨2,2,(q (e (b .tuple (c (u .seq (v 0) (.one 0) 1 [1] (k (.bl true)) CZ) n))) s)⟩
noncomputable def pq:Fn:=⟨2,13,(q (h (f 14 (c (v 0) n))) (q (h (f 14 (c (v 1) n))) (q (g [2,3,4,5] (l (v 0) false (k .aN) true (k (.int 4)))) (q (g [6,7,8,9,10] (v 1)) (q (.ite (p .ne (v 2) (v 6)) (q .no s) s) (q (d 11 (o .add (o .add (v 4) (.tup (c (o .mul (.tup (c (k (.str (bK "."))) n)) (v 2)) n))) (f 76 (c (v 8) (c (v 3) n))))) (q (d 12 (o .add (v 3) (v 7))) (q (.ite (r (p .gt (v 12) (k (.int 8))) (p .gt (b .len (c (v 11) n)) (k (.int 60)))) (q .no s) s) (q (e (.tup (c (v 2) (c (v 12) (c (v 11) (c (v 5) (c (f 98 (c (v 10) (c (b .len (c (v 5) n)) n))) n))))))) s)))))))))⟩
noncomputable def pA:Fn:=⟨2,2,(q (e (.ite (a (p .oq (v 0) (k .aN)) (p .lt (v 0) (v 1))) (v 0) (k .aN))) s)⟩
noncomputable def FL:E:=(.tup (c (v 0) (c (f 97 (c (v 1) (c (v 2) n))) n)))
noncomputable def m8:Fn:=⟨2,2,(q (e (b .tuple (c (u .seq (v 0) (.many [0,1]) 2 [1] (k (.bl true)) FL) n))) s)⟩
noncomputable def kc:Fn:=⟨2,2,(q (.ite (t (i .str (v 0))) (q (e (v 0)) s) s) (q (e (.tup (c (o .add (x (v 0) (k (.int 0))) (v 1)) (c (x (v 0) (k (.int 1))) n)))) s))⟩
noncomputable def FN:E:=(o .add (v 0) (v 1))
noncomputable def JW:E:=(o .add (v 0) (v 1))
noncomputable def kg:Fn:=⟨2,19,(q (h (f 14 (c (v 0) n))) (q (h (f 14 (c (v 1) n))) (q (g [2,3,4,5,6] (v 0)) (q (g [7,8,9,10,11] (v 1)) (q (d 12 (o .add (v 2) (v 7))) (q (d 13 (o .add (v 3) (v 8))) (q (d 14 (o .add (v 5) (b .tuple (c (u .seq (v 10) (.one 0) 1 [2] (k (.bl true)) FN) n)))) (q (.ite (r (p .gt (v 12) (k (.int 40))) (r (p .gt (v 13) (k (.int 8))) (p .gt (b .len (c (v 14) n)) (k (.int 4))))) (q .no s) s) (q (d 15 (b .max (c (b .len (c (v 4) n)) (c (b .len (c (v 9) n)) n)))) (q (d 16 (f 122 (c (v 4) (c (v 2) (c (v 15) n))))) (q (d 17 (f 122 (c (f 76 (c (v 9) (c (v 3) n))) (c (v 7) (c (v 15) n))))) (q (d 18 (b .tuple (c (u .zip (c (v 16) (c (v 17) n)) (.many [0,1]) 2 [] (k (.bl true)) JW) n))) (q (e (.tup (c (v 12) (c (v 13) (c (v 18) (c (v 14) (c (o .add (v 6) (f 125 (c (v 11) (c (b .len (c (v 5) n)) n)))) n))))))) s)))))))))))))⟩
noncomputable def kh:Fn:=⟨3,3,(q (e (o .add (v 0) (o .mul (.tup (c (o .mul (.tup (c (k (.str (bK "."))) n)) (v 1)) n)) (o .sub (v 2) (b .len (c (v 0) n)))))) s)⟩
noncomputable def C0:E:=(.tup (c (v 0) (c (.ite (p .Bq (v 1) (k .aN)) (k .aN) (o .add (v 1) (v 2))) n)))
noncomputable def jb:Fn:=⟨2,2,(q (e (b .tuple (c (u .seq (v 0) (.many [0,1]) 2 [1] (k (.bl true)) C0) n))) s)⟩
noncomputable def zu:E:=.tup (c (v 2) (c (v 12) (c (v 11) (c (v 5) (c (f 98 (c (v 10) (c (b .len (c (v 5) n)) n))) n)))))
noncomputable def uS:E:=.tup (c (v 12) (c (v 13) (c (v 18) (c (v 14) (c (o .add (v 6) (f 125 (c (v 11) (c (b .len (c (v 5) n)) n)))) n)))))
noncomputable def FO:E:=(f 131 (c (v 0) (c (x (v 1) (k (.int 1))) n)))
noncomputable def C1:S:=(q (h (w .append (v 2) (c (b .tuple (c (u .seq (v 3) (.one 0) 1 [0] (k (.bl true)) FO) n)) n))) s)
noncomputable def FP:S:=(q (.ite (a (p .oq (v 6) (k .aN)) (p .ge (v 6) (b .len (c (x (v 0) (k (.int 3))) n)))) (q (d 6 (k .aN)) s) s) (q (h (w .append (v 4) (c (.tup (c (v 5) (c (v 6) n))) n))) s))
noncomputable def C2:Fn:=⟨2,7,(q (d 2 (o .add (b .list (c (x (v 0) (k (.int 2))) n)) (m (c (o .mul (.tup (c (k (.str (bK "."))) n)) (x (v 0) (k (.int 0)))) n)))) (q (.«for» .seq (x (v 1) (k (.int 2))) (.one 3) C1) (q (d 4 (m n)) (q (.«for» .seq (x (v 1) (k (.int 4))) (.many [5,6]) FP) (q (e (.tup (c (x (v 0) (k (.int 0))) (c (o .add (x (v 0) (k (.int 1))) (x (v 1) (k (.int 1)))) (c (b .tuple (c (v 2) n)) (c (x (v 0) (k (.int 3))) (c (b .tuple (c (v 4) n)) n))))))) s)))))⟩
noncomputable def FQ:E:=(f 131 (c (v 0) (c (x (v 1) (k (.int 1))) n)))
noncomputable def FT:S:=(q (d 4 (o .mul (m (c (k (.str (bK "."))) n)) (o .add (x (v 0) (k (.int 0))) (x (v 1) (k (.int 0)))))) (q (.ite (p .lt (v 3) (b .len (c (x (v 0) (k (.int 2))) n))) (q (.rK (v 4) false (k .aN) true (x (v 0) (k (.int 0))) (b .list (c (x (x (v 0) (k (.int 2))) (v 3)) n))) s) s) (q (.ite (p .lt (v 3) (b .len (c (x (v 1) (k (.int 2))) n))) (q (.rK (v 4) true (x (v 0) (k (.int 0))) false (k .aN) (u .seq (x (x (v 1) (k (.int 2))) (v 3)) (.one 0) 1 [0] (k (.bl true)) FQ)) s) s) (q (h (w .append (v 2) (c (b .tuple (c (v 4) n)) n))) s))))
noncomputable def FU:S:=(q (h (w .append (v 5) (c (.tup (c (v 6) (c (o .add (v 7) (b .len (c (x (v 0) (k (.int 3))) n))) n))) n))) s)
noncomputable def JX:E:=(o .add (v 0) (x (v 1) (k (.int 0))))
noncomputable def C3:Fn:=⟨2,9,(q (d 2 (m n)) (q (.«for» .eW (c (b .max (c (b .len (c (x (v 0) (k (.int 2))) n)) (c (b .len (c (x (v 1) (k (.int 2))) n)) n))) n) (.one 3) FT) (q (d 5 (b .list (c (x (v 0) (k (.int 4))) n))) (q (.«for» .seq (x (v 1) (k (.int 4))) (.many [6,7]) FU) (q (d 8 (o .add (b .list (c (x (v 0) (k (.int 3))) n)) (u .seq (x (v 1) (k (.int 3))) (.one 0) 1 [0] (k (.bl true)) JX))) (q (e (.tup (c (o .add (x (v 0) (k (.int 0))) (x (v 1) (k (.int 0)))) (c (o .add (x (v 0) (k (.int 1))) (x (v 1) (k (.int 1)))) (c (b .tuple (c (v 2) n)) (c (b .tuple (c (v 8) n)) (c (b .tuple (c (v 5) n)) n))))))) s))))))⟩
noncomputable def FW:Fn:=⟨4,6,(q (d 4 (o .add (v 2) (f 5 (c (v 0) (c (o .add (o .sub (v 3) (v 2)) (k (.int 1))) n))))) (q (d 5 (x (m (c (o .sub (v 1) (v 4)) (c (o .sub (v 1) (v 4)) (c (o .sub (o .add (v 1) (k (.int 1))) (v 4)) (c (o .add (v 2) (f 5 (c (v 0) (c (o .add (o .sub (v 3) (v 2)) (k (.int 1))) n)))) n))))) (f 5 (c (v 0) (c (k (.int 4)) n))))) (q (e (.tup (c (v 4) (c (b .max (c (v 2) (c (b .min (c (v 3) (c (v 5) n))) n))) n)))) s)))⟩
noncomputable def X4:E:=(f 25 (c (v 1) (c (v 3) (c (v 2) n))))
noncomputable def FY:Fn:=⟨5,6,(q (d 5 (u .eW (c (b .min (c (v 3) (c (k (.int 3)) n))) n) (.one 0) 1 [0,2,1] (k (.bl true)) X4)) (q (d 5 (o .add (v 5) (o .mul (m (c (o .mul (.tup (c (k (.str (bK "."))) n)) (v 1)) n)) (o .sub (v 3) (b .len (c (v 5) n)))))) (q (e (.tup (c (v 1) (c (v 2) (c (b .tuple (c (v 5) n)) (c (o .mul (.tup (c (k (.int 0)) n)) (v 4)) (c (o .mul (.tup (c (.tup (c (k (.int 0)) (c (o .sub (v 4) (k (.int 1))) n))) n)) (v 1)) n))))))) s)))⟩
noncomputable def xK:Fn:=⟨2,9,(q (d 2 (f 5 (c (v 0) (c (k (.int 10)) n)))) (q (g [3,4,5,6,7] (v 1)) (q (.ite (p .lt (v 2) (k (.int 2))) (q (e (.tup (c (v 1) (c (k (.str (bK "told"))) n)))) s) s) (q (.ite (p .eq (v 2) (k (.int 2))) (q (e (.tup (c (k .aN) (c (k (.str (bK "board"))) n)))) s) s) (q (.ite (p .eq (v 2) (k (.int 3))) (q (e (.tup (c (.tup (c (v 3) (c (v 4) (c (b .list (c (v 5) n)) (c (v 6) (c (v 7) n)))))) (c (k (.str (bK "board"))) n)))) s) s) (q (.ite (p .eq (v 2) (k (.int 4))) (q (e (.tup (c (.tup (c (v 3) (c (k (.int 9)) (c (v 5) (c (v 6) (c (v 7) n)))))) (c (k (.str (bK "board"))) n)))) s) s) (q (.ite (p .eq (v 2) (k (.int 5))) (q (e (.tup (c (.tup (c (v 3) (c (v 4) (c (v 5) (c (v 6) (c (l (v 7) true (k (.int 1)) false (k .aN)) n)))))) (c (k (.str (bK "board"))) n)))) s) s) (q (d 8 (o .add (.tup (c (x (o .mul (m (c (k (.str (bK "<"))) (c (.tup (c (v 4) (c (k (.int 0)) n))) (c (k (.str (bK "y"))) n)))) (k (.int 2))) (o .sub (v 2) (k (.int 6)))) n)) (o .mul (.tup (c (k (.str (bK "."))) n)) (o .sub (v 3) (k (.int 1)))))) (q (.ite (p .eq (v 2) (k (.int 9))) (q (d 8 (o .add (o .mul (.tup (c (k (.str (bK "."))) n)) (o .sub (v 3) (k (.int 1)))) (.tup (c (k (.str (bK ">"))) n)))) s) s) (q (e (.tup (c (.tup (c (v 3) (c (v 4) (c (o .add (l (v 5) false (k .aN) true (k (.int 59))) (.tup (c (v 8) n))) (c (v 6) (c (v 7) n)))))) (c (k (.str (bK "fault"))) n)))) s))))))))))⟩
noncomputable def pB:E:=o .mul (.tup (c (k (.str (bK "."))) n)) (o .sub (v 3) (k (.int 1)))
noncomputable def w8:E:=o .add (.tup (c (x (o .mul (m (c (k (.str (bK "<"))) (c (.tup (c (v 4) (c (k (.int 0)) n))) (c (k (.str (bK "y"))) n)))) (k (.int 2))) (o .sub (v 2) (k (.int 6)))) n)) pB
noncomputable def w9:E:=o .add pB (.tup (c (k (.str (bK ">"))) n))
noncomputable def JY:E:=(p .ne (v 1) (k (.str (bK "told"))))
noncomputable def JZ:E:=(v 1)
noncomputable def zw:Fn:=⟨4,8,(q (d 4 (u .seq (v 1) (.many [0,1]) 2 [] JY JZ)) (q (d 5 (x (o .add (v 4) (m (c (v 2) n))) (k (.int 0)))) (q (g [6,7] (.tup (c (x (x (v 1) (k (.int 0))) (k (.int 0))) (c (x (x (v 1) (k (.int 1))) (k (.int 0))) n)))) (q (.ite (p .ne (f 706 (c (v 0) (c (v 6) (c (v 7) n)))) (v 5)) (q (e (k (.bl false))) s) s) (q (e (r (p .ne (v 5) (k (.str (bK "told")))) (p .eq (.gD 0 [(.mk 317 96),(.mk 346 120),(.mk 448 704),(.mk 453 705)] (c (v 6) (c (v 7) n))) (.gD 3 [(.mk 317 96),(.mk 346 120),(.mk 448 704),(.mk 453 705)] (c (v 6) (c (v 7) n)))))) s)))))⟩
noncomputable def sG:Fn:=⟨3,4,(q (.mR 0 (c (v 1) (c (v 2) n)) [(.mk 261 710),(.mk 317 711),(.mk 346 712)] [(.mk 37 (.str (bK "board"))),(.mk 56 (.str (bK "fault"))),(.mk 128 (.str (bK "fit"))),(.mk 140 (.str (bK "great")))]) (q (e (k (.str (bK "told")))) s))⟩
noncomputable def FZ:Fn:=⟨1,9,(q (d 1 (o .add (k (.int 1)) (f 5 (c (v 0) (c (k (.int 9)) n))))) (q (d 2 (o .add (v 1) (b .int (c (p .eq (f 5 (c (v 0) (c (k (.int 3)) n))) (k (.int 0))) n)))) (q (g [3,4] (f 703 (c (v 0) (c (k (.int 8)) (c (k (.int 0)) (c (k (.int 8)) n)))))) (q (g [5,6] (f 703 (c (v 0) (c (k (.int 59)) (c (k (.int 0)) (c (k (.int 58)) n)))))) (q (d 7 (k (.str (bK "told")))) (q (.ite (r (p .gt (o .add (v 3) (v 4)) (k (.int 8))) (p .gt (o .add (v 5) (v 6)) (k (.int 59)))) (q (d 7 (k (.str (bK "great")))) s) s) (q (.ite (p .ne (v 2) (v 1)) (q (d 7 (k (.str (bK "fit")))) s) s) (q (d 8 (f 708 (c (v 0) (c (f 707 (c (v 0) (c (v 1) (c (v 3) (c (v 5) (c (k (.int 1)) n)))))) n)))) (q (e (f 700 (c (k (.bN 317)) (c (m (c (v 8) (c (f 708 (c (v 0) (c (f 707 (c (v 0) (c (v 2) (c (v 4) (c (v 6) (c (k (.int 2)) n)))))) n))) n))) (c (v 7) (c (k (.bN 448)) n)))))) s)))))))))⟩
noncomputable def F0:Fn:=⟨1,10,(q (g [1,2] (f 703 (c (v 0) (c (k (.int 40)) (c (k (.int 1)) (c (k (.int 40)) n)))))) (q (g [3,4] (f 703 (c (v 0) (c (k (.int 8)) (c (k (.int 0)) (c (k (.int 8)) n)))))) (q (g [5,6] (f 703 (c (v 0) (c (k (.int 4)) (c (k (.int 1)) (c (k (.int 4)) n)))))) (q (d 7 (k (.str (bK "told")))) (q (.ite (r (p .gt (o .add (v 1) (v 2)) (k (.int 40))) (r (p .gt (o .add (v 3) (v 4)) (k (.int 8))) (p .gt (o .add (v 5) (v 6)) (k (.int 4))))) (q (d 7 (k (.str (bK "great")))) s) s) (q (d 8 (f 708 (c (v 0) (c (f 707 (c (v 0) (c (v 1) (c (v 3) (c (f 5 (c (v 0) (c (k (.int 3)) n))) (c (v 5) n)))))) n)))) (q (d 9 (f 708 (c (v 0) (c (f 707 (c (v 0) (c (v 2) (c (v 4) (c (f 5 (c (v 0) (c (k (.int 3)) n))) (c (v 6) n)))))) n)))) (q (e (f 700 (c (k (.bN 346)) (c (m (c (v 8) (c (v 9) n))) (c (v 7) (c (k (.bN 453)) n)))))) s))))))))⟩
noncomputable def F1:S:=(q (.ite (r (z (t (f 701 (c (v 1) n)))) (z (t (f 702 (c (v 1) n))))) (q (e (k (.bl false))) s) s) s)
noncomputable def C4:Fn:=⟨1,3,(q (d 1 (f 3 (c (v 0) n))) (q (.«for» .eW (c (k (.int 4)) n) (.one 2) F1) (q (e (k (.bl true))) s)))⟩
noncomputable def jz:Fn:=⟨0,0,.no⟩
end
noncomputable def fin(h:VH)(r:Res Fl):Res W:=r.bind λfl h'=>match fl with|.nx _=>leave h .aN h'|.rt w=>leave h w h'|_=>.no
theorem cQ{F:Nat->Option Fn}{k f:Nat}{fn:Fn}{ws:List W}{h:VH}(hF:F f=aC fn)(hl:ws.length=fn.ps) :
 run F (k+1) f ws h=fin h (exs (run F k) fn.body (ws.map aC++aR (fn.n-fn.ps) aD) ⟨h.n,h.n,h.os⟩):=by
 simp only[run,hF];rw[if_pos (by rw[hl];exact Nat.beq_refl _)];rfl
theorem ON{h:VH}{w:W}{h':VH}(h1:h.n<=h'.lo)(h2:W.lt h.n w):leave h w h'=.ok w h:=by unfold leave;rw[if_pos (by rw[aS];exact⟨zV.mpr h1,h2⟩)]
theorem dj{h h':VH}{w:W}(h1:h.n<=h'.lo)(h2:W.lt h.n w):fin h (.ok (.rt w) h')=.ok w h:=ON h1 h2
theorem X5{h h':VH}{ρ:En}(h1:h.n<=h'.lo):fin h (.ok (.nx ρ) h')=.ok .aN h:=ON h1 (by simp only[W.lt])
@[simp] theorem aE {α β:Type} {a:α} {h:VH} {f:α->VH->Res β}:(Res.ok a h).bind f=f a h:=rfl
@[simp] theorem J0 {α β:Type} {f:α->VH->Res β}:(Res.no:Res α).bind f=.no:=rfl
@[simp] theorem bO {α:Type} {a:α} {h:VH}:Res.of (aC a) h=.ok a h:=rfl
@[simp] theorem J2 {α:Type} {h:VH}:Res.of (aD:Option α) h=.no:=rfl
@[simp] theorem xM {n:Nat}:W.lt n .aN=true:=by simp only[W.lt]
@[simp] theorem ki {n:Nat} {b:Bool}:W.lt n (.bl b)=true:=by simp only[W.lt]
@[simp] theorem lt_int {n:Nat} {b:Int}:W.lt n (.int b)=true:=by simp only[W.lt]
@[simp] theorem lt_str {n:Nat} {b:Str}:W.lt n (.str b)=true:=by simp only[W.lt]
@[simp] theorem cg {n:Nat} {b:List W}:W.lt n (.tup b)=W.jK n b:=by simp only[W.lt]
@[simp] theorem jA {n:Nat}:W.jK n []=true:=by simp only[W.jK]
@[simp] theorem cz {n:Nat} {b:W} {r:List W}:W.jK n (b::r)=(W.lt n b&&W.jK n r):=by simp only[W.jK]
@[simp] theorem xN:((Ty.int==Ty.int):Bool)=true:=rfl
@[simp] theorem uT:((Ty.int==Ty.bool):Bool)=false:=rfl
@[simp] theorem sH:((Ty.int==Ty.tuple):Bool)=false:=rfl
@[simp] theorem uU:((Ty.int==Ty.list):Bool)=false:=rfl
@[simp] theorem xO:((Ty.int==Ty.str):Bool)=false:=rfl
@[simp] theorem uV:((Ty.int==Ty.dict):Bool)=false:=rfl
@[simp] theorem uW:((Ty.bool==Ty.int):Bool)=false:=rfl
@[simp] theorem sI:((Ty.bool==Ty.bool):Bool)=true:=rfl
@[simp] theorem qh:((Ty.bool==Ty.tuple):Bool)=false:=rfl
@[simp] theorem sJ:((Ty.bool==Ty.list):Bool)=false:=rfl
@[simp] theorem uX:((Ty.bool==Ty.str):Bool)=false:=rfl
@[simp] theorem sL:((Ty.bool==Ty.dict):Bool)=false:=rfl
@[simp] theorem sM:((Ty.tuple==Ty.int):Bool)=false:=rfl
@[simp] theorem qi:((Ty.tuple==Ty.bool):Bool)=false:=rfl
@[simp] theorem pC:((Ty.tuple==Ty.tuple):Bool)=true:=rfl
@[simp] theorem qj:((Ty.tuple==Ty.list):Bool)=false:=rfl
@[simp] theorem sN:((Ty.tuple==Ty.str):Bool)=false:=rfl
@[simp] theorem qk:((Ty.tuple==Ty.dict):Bool)=false:=rfl
@[simp] theorem uY:((Ty.list==Ty.int):Bool)=false:=rfl
@[simp] theorem sO:((Ty.list==Ty.bool):Bool)=false:=rfl
@[simp] theorem ql:((Ty.list==Ty.tuple):Bool)=false:=rfl
@[simp] theorem sP:((Ty.list==Ty.list):Bool)=true:=rfl
@[simp] theorem uZ:((Ty.list==Ty.str):Bool)=false:=rfl
@[simp] theorem sQ:((Ty.list==Ty.dict):Bool)=false:=rfl
@[simp] theorem xP:((Ty.str==Ty.int):Bool)=false:=rfl
@[simp] theorem u5:((Ty.str==Ty.bool):Bool)=false:=rfl
@[simp] theorem sR:((Ty.str==Ty.tuple):Bool)=false:=rfl
@[simp] theorem u6:((Ty.str==Ty.list):Bool)=false:=rfl
@[simp] theorem xQ:((Ty.str==Ty.str):Bool)=true:=rfl
@[simp] theorem u7:((Ty.str==Ty.dict):Bool)=false:=rfl
@[simp] theorem u9:((Ty.dict==Ty.int):Bool)=false:=rfl
@[simp] theorem sU:((Ty.dict==Ty.bool):Bool)=false:=rfl
@[simp] theorem qm:((Ty.dict==Ty.tuple):Bool)=false:=rfl
@[simp] theorem sV:((Ty.dict==Ty.list):Bool)=false:=rfl
@[simp] theorem vc:((Ty.dict==Ty.str):Bool)=false:=rfl
@[simp] theorem sW:((Ty.dict==Ty.dict):Bool)=true:=rfl
@[simp] theorem F2 {t:Ty} {h:VH}:dG t h .aN=aC false:=rfl
@[simp] theorem J4 {t:Ty} {h:VH} {b:Bool}:dG t h (.bl b)=aC (t == .int||t == .bool):=rfl
@[simp] theorem F3 {t:Ty} {h:VH} {i:Int}:dG t h (.int i)=aC (t == .int):=rfl
@[simp] theorem F4 {t:Ty} {h:VH} {x:Str}:dG t h (.str x)=aC (t == .str):=rfl
@[simp] theorem F5 {t:Ty} {h:VH} {x:List W}:dG t h (.tup x)=aC (t == .tuple):=rfl
@[simp] theorem bR {h:VH} {l i:Nat}:VH.get ⟨h.n,l,h.os⟩ i=h.get i:=by unfold VH.get;rfl
@[simp] theorem J5 {h:VH} {b:Bool}:mS h (.bl b)=aC b:=rfl
noncomputable def forL(tg:W->VH->En->Option En)(b:FS):List W->En->VH->Res Fl
 |[],ρ,h=>.ok (.nx ρ) h
 |w::r,ρ,h=>match tg w h ρ with
  |none=>.no
  |some ρ=>(b ρ h).bind λfl h=>match fl with
   |.nx ρ=>forL tg b r ρ h
   |.ct ρ=>forL tg b r ρ h
   |.bk ρ=>.ok (.nx ρ) h
   |.rt w=>.ok (.rt w) h
noncomputable def gv(tg:W->VH->En->Option En)(c e:FE):List W->En->VH->Res (List W)
 |[],_,h=>.ok [] h
 |w::r,ρ,h=>match tg w h ρ with
  |none=>.no
  |some ρ=>(c ρ h).bind λb h=>match b with
   |.bl true=>(e ρ h).bind λy h=>(gv tg c e r ρ h).bind λys h=>.ok (y::ys) h
   |.bl false=>gv tg c e r ρ h
   |_=>.no
theorem OO{α β γ:Type}{r:Res α}{f:α->VH->Res β}{g:β->VH->Res γ}:(r.bind f).bind g=r.bind λa h=>(f a h).bind g:=by cases r<;>rfl
theorem F6{nx:Nat->VH->Option (Option W)}{tg:W->VH->En->Option En}{b:FS}{ws:List W}(hx:∀i h,nx i h=aC ws[i]?):∀(fu i:Nat) (ρ:En) (h:VH),i<=ws.length->ws.length<fu+i->eG nx tg b fu i ρ h=forL tg b (ws.drop i) ρ h
 |0,i,ρ,h,hi,hl=>by lia
 |fu+1,i,ρ,h,hi,hl=>by
  simp only[eG,hx];cases q:ws[i]? with
  |none=>
   rw[List.drop_eq_nil_of_le (tT.mp q)];rfl
  |some w=>
   obtain⟨hi,e⟩:=ku.mp q;rw[List.drop_eq_getElem_cons hi,e];simp only[forL];cases tg w h ρ with
   |none=>rfl
   |some ρ'=>
    simp only;congr 1;funext fl h1;cases fl<;>simp only[F6 hx fu (i+1) _ _ hi (by lia)]
theorem zx{nx:Nat->VH->Option (Option W)}{tg:W->VH->En->Option En}{c e:FE}{ws:List W}(hx:∀i h,nx i h=aC ws[i]?):∀(fu i:Nat) (ρ:En) (h:VH) (acc:List W),i<=ws.length->ws.length<fu+i->
 gE nx tg c e fu i ρ h acc=(gv tg c e (ws.drop i) ρ h).bind λys h=>.ok (acc.reverse++ys) h
 |0,i,ρ,h,acc,hi,hl=>by lia
 |fu+1,i,ρ,h,acc,hi,hl=>by
  simp only[gE,hx];cases q:ws[i]? with
  |none=>
   rw[List.drop_eq_nil_of_le (tT.mp q)];simp[gv]
  |some w=>
   obtain⟨hi,ee⟩:=ku.mp q;rw[List.drop_eq_getElem_cons hi,ee];simp only[gv];cases tg w h ρ with
   |none=>rfl
   |some ρ'=>
    simp only[OO];congr 1;funext bv h1;cases bv<;>try rfl
    rename_i bb;cases bb with
    |true=>
     simp only[OO];congr 1;funext y h2;rw[zx hx fu (i+1) _ _ _ hi (by lia)];congr 1;funext ys h3;simp
    |false=>simp only[zx hx fu (i+1) _ _ _ hi (by lia)]
theorem xR{ws:List W}{tg:W->VH->En->Option En}{b:FS}{ρ:En}{h:VH}(hl:ws.length<1000000):eG (bZ .seq (.tup ws)) tg b fuel 0 ρ h=forL tg b ws ρ h:=by have:=F6 (nx:=bZ .seq (.tup ws)) (tg:=tg) (b:=b) (ws:=ws) (λi h=>rfl) fuel 0 ρ h (jG _) (by simpa[fuel]using hl);simpa using this
theorem X6{ws:List W}{tg:W->VH->En->Option En}{c e:FE}{ρ:En}{h:VH}(hl:ws.length<1000000):gE (bZ .seq (.tup ws)) tg c e fuel 0 ρ h []=gv tg c e ws ρ h:=by have:=zx (nx:=bZ .seq (.tup ws)) (tg:=tg) (c:=c) (e:=e) (ws:=ws) (λi h=>rfl) fuel 0 ρ h [] (jG _) (by simpa[fuel]using hl);rw[this];simp only[zS,List.reverse_nil,mD];cases gv tg c e ws ρ h<;>rfl
noncomputable def bI:Nat->List W->List W|_,[]=>[]|i,w::r=>.tup [.int i,w]::bI (i+1) r
theorem OP:∀(ws:List W) (i j:Nat),(bI j ws)[i]?=(ws[i]?).map λw=>.tup [.int ((j+i:Nat):Int),w]
 |[],i,j=>by simp[bI]
 |w::r,0,j=>by simp[bI]
 |w::r,i+1,j=>by
  simp only[bI,vN];rw[OP r i (j+1)];congr 1;funext w;rw[show j+1+i=j+ (i+1) by lia]
theorem OQ:∀(ws:List W) (j:Nat),(bI j ws).length=ws.length|[],_=>rfl|_::r,j=>by simp[bI,OQ r]
theorem zy{ws:List W}{tg:W->VH->En->Option En}{b:FS}{ρ:En}{h:VH}(hl:ws.length<1000000):eG (bZ .mQ (.tup ws)) tg b fuel 0 ρ h=forL tg b (bI 0 ws) ρ h:=by have:=F6 (nx:=bZ .mQ (.tup ws)) (tg:=tg) (b:=b) (ws:=bI 0 ws) (λi h=>by rw[OP];simp[bZ,aQ]) fuel 0 ρ h (jG _) (by simpa[fuel,OQ]using hl);simpa using this
noncomputable def jc(a:Int):Nat->List W|0=>[]|n+1=>.int a::jc (a+1) n
theorem F7:∀(n i:Nat) (a:Int),(jc a n)[i]?=if i<n then aC (.int (a+i))else aD
 |0,i,a=>by simp[jc]
 |n+1,0,a=>by simp[jc]
 |n+1,i+1,a=>by
  simp only[jc,vN];rw[F7 n i (a+1)];by_cases q:i<n;rw[if_pos q,if_pos (by lia)];congr 2
  push_cast;lia;rw[if_neg q,if_neg (by lia)]
theorem J6:∀(n:Nat) (a:Int),(jc a n).length=n|0,_=>rfl|n+1,a=>by simp[jc,J6 n]
theorem OR{n:Nat}{tg:W->VH->En->Option En}{b:FS}{ρ:En}{h:VH}(hl:n<1000000):eG (bZ .eW (.tup [.int n])) tg b fuel 0 ρ h=forL tg b (jc 0 n) ρ h:=by
 have hf:fits (n:Int)=true:=by simp[fits];lia
 have:=F6 (nx:=bZ .eW (.tup [.int n])) (tg:=tg) (b:=b) (ws:=jc 0 n) (λi h=>by rw[F7];simp[bZ,hf]) fuel 0 ρ h (jG _) (by simpa[fuel,J6]using hl);simpa using this
theorem X7{n:Nat}{tg:W->VH->En->Option En}{c e:FE}{ρ:En}{h:VH}(hl:n<1000000):gE (bZ .eW (.tup [.int n])) tg c e fuel 0 ρ h []=gv tg c e (jc 0 n) ρ h:=by
 have hf:fits (n:Int)=true:=by simp[fits];lia
 have:=zx (nx:=bZ .eW (.tup [.int n])) (tg:=tg) (c:=c) (e:=e) (ws:=jc 0 n) (λi h=>by rw[F7];simp[bZ,hf]) fuel 0 ρ h [] (jG _) (by simpa[fuel,J6]using hl);rw[this];simp only[zS,List.reverse_nil,mD];cases gv tg c e (jc 0 n) ρ h<;>rfl
noncomputable def isInt:W->Bool|.int _=>true|_=>false
noncomputable def Kn(h:VH)(w:W):Prop:=dG .int h w≠aD
theorem eg{h:VH}{l:Nat}{w:W}:Kn ⟨h.n,l,h.os⟩ w↔Kn h w:=by unfold Kn;cases w<;>simp[dG]
structure CoreA(F:Nat->Option Fn):Prop where
 f0:F 0=aC Fy
 f1:F 1=aC JU
 f6:F 6=aC CU
 f7:F 7=aC CV
section
variable{F:Nat->Option Fn}(C:CoreA F)
include C
theorem X8{k:Nat}{h:VH}{w:W}(hw:Kn h w):run F (k+1) 0 [w] h=.ok (.bl (isInt w)) h:=by
 rw[cQ C.f0 rfl];cases w<;>try(simp[Fy,exs,ev,isInt,dj];done)
 exact absurd rfl hw;rename_i i;unfold Kn at hw;simp only[dG]at hw;cases g:h.get i with
 |none=>rw[g]at hw;exact absurd rfl hw
 |some o=>cases o<;>first|(simp[Fy,exs,ev,isInt,dj,dG,g];done)|(simp[g]at hw)
 exact absurd rfl hw
noncomputable def within(w:W)(lo hi:Int):Bool:=match w with|.int i=>decide (lo<=i)&&decide (i<=hi)|_=>false
theorem sY{k:Nat}{h:VH}{w:W}{lo hi:Int}(hw:Kn h w):run F (k+2) 1 [w,.int lo,.int hi] h=.ok (.bl (within w lo hi)) h:=by rw[cQ C.f1 rfl];have e:=X8 C (k:=k) (h:=⟨h.n,h.n,h.os⟩) (w:=w) (eg.mpr hw);cases w<;>simp[JU,exs,ev,e,isInt,within,dj,aX,eX];rename_i i;by_cases h1:lo<=i<;>simp[h1,dj]
noncomputable def fR(w:W)(lo hi:Int):Bool:=match w with|.tup ws=>decide (lo<=ws.length)&&decide ((ws.length:Int)<=hi)|_=>false
theorem pD{k:Nat}{h:VH}{w:W}{lo hi:Int}(hw:Kn h w):run F (k+1) 6 [w,.int lo,.int hi] h=.ok (.bl (fR w lo hi)) h:=by
 rw[cQ C.f6 rfl];cases w<;>try(simp[CU,exs,ev,fR,dj];done)
 rename_i ws;simp[CU,exs,ev,fR,dj,aX,eX,iV,fZ,aQ];by_cases h1:lo<=ws.length<;>simp[h1,dj];exact absurd rfl hw;rename_i i;unfold Kn at hw;simp only[dG]at hw;cases g:h.get i with
 |none=>rw[g]at hw;exact absurd rfl hw
 |some o=>cases o<;>first|(simp[CU,exs,ev,fR,dj,dG,g];done)|(simp[g]at hw)
 exact absurd rfl hw
theorem vd{k:Nat}{h:VH}{t a b:W}{lo hi:Int}:∀(ws:List W) (x:Option W),(∀w∈ws,Kn h w)->∃y,forL (bH (.one 5)) (exs (run F (k+2)) FD) ws [aC t,aC a,aC b,aC (.int lo),aC (.int hi),x] h =
 if ws.all (within · lo hi)then .ok (.nx [aC t,aC a,aC b,aC (.int lo),aC (.int hi),y]) h else .ok (.rt (.bl false)) h
 |[],x,_=>⟨x,by simp[forL]⟩
 |w::r,x,hk=>by
  obtain⟨y,e⟩:=vd (t:=t) (a:=a) (b:=b) (k:=k) (lo:=lo) (hi:=hi) r (aC w) λz hz=>hk z (eH _ hz);refine⟨y,?_⟩;have e1:=sY C (k:=k) (lo:=lo) (hi:=hi) (hk w fQ);have eb:exs (run F (k+2)) FD [aC t,aC a,aC b,aC (.int lo),aC (.int hi),aC w] h=if within w lo hi then .ok (.nx [aC t,aC a,aC b,aC (.int lo),aC (.int hi),aC w]) h else .ok (.rt (.bl false)) h:=by cases q:within w lo hi<;>simp[FD,exs,ev,e1,q]
  simp only[forL,bH,List.set,eb];cases q:within w lo hi<;>simp[q,e]
noncomputable def sZ(w:W)(a b lo hi:Int):Bool:=match w with|.tup ws=>fR w a b&&ws.all (within · lo hi)|_=>false
theorem OS{k:Nat}{h:VH}{w:W}{a b lo hi:Int}(hw:Kn h w)(hp:∀ws,w=.tup ws->ws.length<1000000/\∀x∈ws,Kn h x):run F (k+3) 7 [w,.int a,.int b,.int lo,.int hi] h=.ok (.bl (sZ w a b lo hi)) h:=by
 rw[cQ C.f7 rfl];have e1:=pD C (k:=k+1) (h:=⟨h.n,h.n,h.os⟩) (w:=w) (lo:=a) (hi:=b) (eg.mpr hw);cases q:fR w a b with
 |false=>
  have:sZ w a b lo hi=false:=by cases w<;>simp[sZ,q]
  simp[CV,exs,ev,e1,q,this,dj]
 |true=>
  cases w<;>try(simp[fR]at q;done)
  rename_i ws;obtain⟨hl,hk⟩:=hp ws rfl;obtain⟨y,e2⟩:=vd C (k:=k) (h:=⟨h.n,h.n,h.os⟩) (t:=.tup ws) (a:=.int a) (b:=.int b) (lo:=lo) (hi:=hi) ws aD λx hx=>eg.mpr (hk x hx);have e3:sZ (.tup ws) a b lo hi=ws.all (within · lo hi):=by simp[sZ,q]
  rw[e3];cases q2:ws.all (within · lo hi)with|true=>simp[CV,exs,ev,e1,q,xR hl,e2,q2,dj]|false=>simp[CV,exs,ev,e1,q,xR hl,e2,q2,dj]
end
noncomputable def ek:Nat->W->Bool
 |0,_=>false
 |n+1,w=>match w with
  |.aN=>true
  |.bl _=>true
  |.int _=>true
  |.str x=>PyData.strOk x
  |.tup ws=>ws.all (ek n)
  |_=>false
theorem OT{f:W->Option aB}{p:W->Bool}{n:Nat}(h:∀w,p w=true->∃d,f w=aC d/\d.canLay0=true/\d.depth<=n):∀ws:List W,ws.all p=true->∃ds,bY f ws=aC ds/\PyData.canLayAll0 ds=true/\PyData.depthAll ds<=n
 |[],_=>⟨[],rfl,rfl,jG _⟩
 |w::r,e=>by
  rw[kB,aS]at e;obtain⟨d,h1,h2,h3⟩:=h w e.1;obtain⟨ds,h4,h5,h6⟩:=OT h r e.2;refine⟨d::ds,by simp[bY,h1,h4],?_,?_⟩;show(d.canLay0&&PyData.canLayAll0 ds)=true;rw[h2,h5];rfl;show max d.depth (PyData.depthAll ds)<=n;lia
theorem J7(h:VH):∀(n:Nat) (w:W),ek n w=true->∃d,toD h n w=aC d/\d.canLay0=true/\d.depth<=n
 |0,_,e=>by cases e
 |n+1,w,e=>by
  cases w<;>simp only[ek]at e<;>try(cases e;done)
  exact⟨.none,rfl,rfl,jG _⟩;exact⟨.bool _,rfl,rfl,jG _⟩;exact⟨.int _,rfl,rfl,jG _⟩;exact⟨.str _,rfl,e,jG _⟩;obtain⟨ds,h1,h2,h3⟩:=OT (J7 h n) _ e;exact⟨.tuple ds,by simp[toD,h1],h2,by show PyData.depthAll ds+1<=n+1;lia⟩
mutual
theorem OU:∀d:aB,d.canLay0=true->PyData.eqv d d=true
 |.none,_=>rfl
 |.bool b,_=>by simp[PyData.eqv]
 |.int i,_=>by simp[PyData.eqv]
 |.str x,_=>by simp[PyData.eqv]
 |.list xs,h=>by
  simp only[PyData.eqv];exact J8 xs h
 |.tuple xs,h=>by
  simp only[PyData.eqv];exact J8 xs h
 |.dict _,h=>by cases h
theorem J8:∀ds:List aB,PyData.canLayAll0 ds=true->PyData.eqvAll ds ds=true
 |[],_=>rfl
 |d::ds,h=>by
  have h:(d.canLay0&&PyData.canLayAll0 ds)=true:=h;rw[aS]at h;simp only[PyData.eqvAll,OU d h.1,J8 ds h.2,Bool.and_self]
end
theorem Yb{h:VH}{w:W}(p:ek 24 w):kO h w w=aC true:=by
 obtain⟨d,h1,h2,h3⟩:=J7 h 24 w p;have hs:SeqAt.shaped d=true:=by unfold SeqAt.shaped;rw[h2,Bool.true_and,fF];lia
 unfold kO;rw[h1];simp[hs,OU d h2]
noncomputable def jB(w:W)(x:Str):Bool:=match w with|.str y=>y==x|_=>false
theorem zz{h:VH}{w:W}{x:Str}(p:ek 24 w)(hx:PyData.strOk x):kO h w (.str x)=aC (jB w x):=by
 obtain⟨d,h1,h2,h3⟩:=J7 h 24 w p;have hs:SeqAt.shaped d=true:=by unfold SeqAt.shaped;rw[h2,Bool.true_and,fF];lia
 have hs2:SeqAt.shaped (.str x)=true:=by unfold SeqAt.shaped;show(PyData.strOk x&&_)=true;rw[hx];rfl
 unfold kO;rw[h1];have h4:toD h 24 (.str x)=aC (.str x):=rfl;rw[h4];simp only[hs,hs2,Bool.and_self,dH];cases w<;>simp only[toD]at h1<;>try(cases h1;done)
 cases h1;simp[jB,PyData.eqv];cases h1;simp[jB,PyData.eqv];cases h1;simp[jB,PyData.eqv];cases h1;simp[jB,PyData.eqv];obtain⟨ds,h5,h6⟩:=Option.map_eq_some_iff.mp h1;subst h6;simp[jB,PyData.eqv];simp[ek]at p;simp[ek]at p
theorem F8{n:Nat}{ws:List W}:ek (n+1) (.tup ws)=ws.all (ek n):=rfl
theorem J9{h:VH}{n:Nat}{w:W}(p:ek n w):Kn h w:=by
 unfold Kn;cases n with|zero=>cases p|succ n=>cases w<;>simp[ek,dG]at p ⊢
structure fL(F:Nat->Option Fn):Prop extends CoreA F where
 f8:F 8=aC CW
 f9:F 9=aC CY
 J':F 10=aC j8
 Yc:F 11=aC sD
 Yd:F 12=aC xF
 Ye:F 13=aC sE
 Yg:F 14=aC xG
 Yh:F 15=aC xH
theorem Yi:bL .aN=true:=rfl
noncomputable def m9(w:W)(n:Int):Bool:=bL w||within w 0 (n-1)
noncomputable def door(w:W)(n:Int):Bool:=match w with|.tup [a,b]=>within a 0 99&&m9 b n|_=>false
noncomputable def kZ(w:W)(g:Int):Bool:=match w with|.tup [a,b]=>within a 0 (g-1)&&within b 0 1|_=>false
noncomputable def cA(w:W)(c wd g:Int):Bool:=
 if jB w "x" || kZ w g then decide (0<c)&&decide (c<wd-1)else if jB w "<"then decide (0<c)else if jB w ">"then decide (c<wd-1)else jB w "." || jB w "s"
section
variable{F:Nat->Option Fn}(C:fL F)
include C
theorem Yj{k:Nat}{h:VH}{w:W}{n:Int}(hw:Kn h w):run F (k+3) 12 [w,.int n] h=.ok (.bl (m9 w n)) h:=by rw[cQ C.Yd rfl];have e:=sY C.toCoreA (k:=k) (h:=⟨h.n,h.n,h.os⟩) (w:=w) (lo:=0) (hi:=n-1) (eg.mpr hw);cases q:bL w<;>simp[xF,exs,ev,e,aX,Yi,q,m9,dj,dB,eU]
theorem Yk{k:Nat}{h:VH}{w:W}{n:Int}(hw:Kn h w)(hp:∀a b,w=.tup [a,b]->Kn h a/\Kn h b):run F (k+4) 11 [w,.int n] h=.ok (.bl (door w n)) h:=by
 rw[cQ C.Yc rfl];have e1:=pD C.toCoreA (k:=k+2) (h:=⟨h.n,h.n,h.os⟩) (w:=w) (lo:=2) (hi:=2) (eg.mpr hw);cases q:fR w 2 2 with
 |false=>
  have:door w n=false:=by cases w<;>simp[door];rename_i ws;rcases ws with _|⟨a,_|⟨b,_|_⟩⟩<;>simp[fR]at q ⊢
  simp[sD,exs,ev,e1,q,this,dj]
 |true=>
  cases w<;>try(simp[fR]at q;done)
  rename_i ws;have hl:ws.length=2:=by simp[fR]at q;lia
  rcases ws with _|⟨a,_|⟨b,_|_⟩⟩<;>simp at hl;obtain⟨ka,kb⟩:=hp a b rfl;have e2:=sY C.toCoreA (k:=k+1) (h:=⟨h.n,h.n,h.os⟩) (w:=a) (lo:=0) (hi:=99) (eg.mpr ka);have e3:=Yj C (k:=k) (h:=⟨h.n,h.n,h.os⟩) (w:=b) (n:=n) (eg.mpr kb);cases q2:within a 0 99<;>simp[sD,exs,ev,e1,q,e2,e3,q2,door,dj,bH,aQ,ir]
theorem Yl{k:Nat}{h:VH}{w:W}{n:Int}(hw:Kn h w)(hp:∀a b,w=.tup [a,b]->Kn h a/\Kn h b):run F (k+3) 13 [w,.int n] h=.ok (.bl (kZ w n)) h:=by
 rw[cQ C.Ye rfl];have e1:=pD C.toCoreA (k:=k+1) (h:=⟨h.n,h.n,h.os⟩) (w:=w) (lo:=2) (hi:=2) (eg.mpr hw);cases q:fR w 2 2 with
 |false=>
  have:kZ w n=false:=by cases w<;>simp[kZ];rename_i ws;rcases ws with _|⟨a,_|⟨b,_|_⟩⟩<;>simp[fR]at q ⊢
  simp[sE,exs,ev,e1,q,this,dj]
 |true=>
  cases w<;>try(simp[fR]at q;done)
  rename_i ws;have hl:ws.length=2:=by simp[fR]at q;lia
  rcases ws with _|⟨a,_|⟨b,_|_⟩⟩<;>simp at hl;obtain⟨ka,kb⟩:=hp a b rfl;have e2:=sY C.toCoreA (k:=k) (h:=⟨h.n,h.n,h.os⟩) (w:=a) (lo:=0) (hi:=n-1) (eg.mpr ka);have e3:=sY C.toCoreA (k:=k) (h:=⟨h.n,h.n,h.os⟩) (w:=b) (lo:=0) (hi:=1) (eg.mpr kb);cases q2:within a 0 (n-1)<;>simp[sE,exs,ev,e1,q,e2,e3,q2,kZ,dj,bH,aQ,ir,dB,eU]
theorem F9{k:Nat}{h:VH}{w:W}{c wd g:Int}(p:ek 24 w):run F (k+4) 15 [w,.int c,.int wd,.int g] h=.ok (.bl (cA w c wd g)) h:=by
 rw[cQ C.Yh rfl];have hp:∀a b,w=.tup [a,b]->Kn ⟨h.n,h.n,h.os⟩ a/\Kn ⟨h.n,h.n,h.os⟩ b:=λa b e=>by
  subst e;have p:ek (23+1) (.tup [a,b])=true:=p;rw[F8,kB,kB,aS,aS]at p;exact⟨J9 p.1,J9 p.2.1⟩
 have e1:=Yl C (k:=k) (h:=⟨h.n,h.n,h.os⟩) (w:=w) (n:=g) (J9 p) hp;have sx:=zz (h:=⟨h.n,h.n,h.os⟩) (x:=Str.ofString "x") p (by decide +kernel);have sl:=zz (h:=⟨h.n,h.n,h.os⟩) (x:=Str.ofString "<") p (by decide +kernel);have sg:=zz (h:=⟨h.n,h.n,h.os⟩) (x:=Str.ofString ">") p (by decide +kernel);have sd:=zz (h:=⟨h.n,h.n,h.os⟩) (x:=Str.ofString ".") p (by decide +kernel);have ss:=zz (h:=⟨h.n,h.n,h.os⟩) (x:=Str.ofString "s") p (by decide +kernel);unfold cA;cases q1:jB w (Str.ofString "x")<;>cases q2:kZ w g<;>cases q3:jB w (Str.ofString "<")<;>cases q4:jB w (Str.ofString ">")<;>cases q5:jB w (Str.ofString ".")<;>by_cases h1:0<c<;>
  simp[xH,exs,ev,aX,eX,sx,sl,sg,sd,ss,e1,dB,eU,q1,q2,q3,q4,q5,h1,dj]
theorem OV{k:Nat}{h:VH}{t a:W}{n:Int}:∀(ws:List W) (x:Option W),(∀w∈ws,Kn h w/\∀a b,w=.tup [a,b]->Kn h a/\Kn h b)->∃y,forL (bH (.one 3)) (exs (run F (k+4)) FF) ws [aC t,aC a,aC (.int n),x] h =
 if ws.all (door · n)then .ok (.nx [aC t,aC a,aC (.int n),y]) h else .ok (.rt (.bl false)) h
 |[],x,_=>⟨x,by simp[forL]⟩
 |w::r,x,hk=>by
  obtain⟨y,e⟩:=OV (t:=t) (a:=a) (k:=k) (n:=n) r (aC w) λz hz=>hk z (eH _ hz);refine⟨y,?_⟩;obtain⟨k1,k2⟩:=hk w fQ;have e1:=Yk C (k:=k) (n:=n) k1 k2;have eb:exs (run F (k+4)) FF [aC t,aC a,aC (.int n),aC w] h=if door w n then .ok (.nx [aC t,aC a,aC (.int n),aC w]) h else .ok (.rt (.bl false)) h:=by cases q:door w n<;>simp[FF,exs,ev,e1,q]
  simp only[forL,bH,List.set,eb];cases q:door w n<;>simp[q,e]
theorem Ym{k:Nat}{h:VH}{ws:List W}{wd n:Int}(hl:ws.length=wd)(hz:ws.length<1000000)(hd:∀w∈ws,door w n):run F (k+5) 8 [.tup ws,.int wd,.int n] h=.ok (.bl true) h:=by
 rw[cQ C.f8 rfl];have e1:=pD C.toCoreA (k:=k+3) (h:=⟨h.n,h.n,h.os⟩) (w:=.tup ws) (lo:=wd) (hi:=wd) (by unfold Kn;simp);have q:fR (.tup ws) wd wd=true:=by simp[fR,hl]
 have kn:∀w∈ws,Kn ⟨h.n,h.n,h.os⟩ w/\∀a b,w=.tup [a,b]->Kn ⟨h.n,h.n,h.os⟩ a/\Kn ⟨h.n,h.n,h.os⟩ b:=λw hw=>by
  have:=hd w hw;cases w<;>simp only[door]at this<;>try(cases this;done)
  rename_i us;refine⟨by unfold Kn;simp,λa b e=>?_⟩;cases e;simp only[aS]at this;obtain⟨h1,h2⟩:=this;refine⟨?_,?_⟩;cases a<;>simp[within]at h1;unfold Kn;simp;unfold m9 at h2;cases b<;>simp[within,bL]at h2;unfold Kn;simp;unfold Kn;simp
 obtain⟨y,e2⟩:=OV C (k:=k) (h:=⟨h.n,h.n,h.os⟩) (t:=.tup ws) (a:=.int wd) (n:=n) ws aD kn;have ha:ws.all (door · n)=true:=mC.mpr hd;simp[CW,exs,ev,e1,q,xR hz,e2,ha,dj]
theorem OW{k:Nat}{h:VH}{t:W}{wd:Int}:∀(ws:List W) (x:Option W),(∀w∈ws,∃us,w=.tup us/\us.length=wd)->∃y,forL (bH (.one 2)) (exs (run F (k+1)) FG) ws [aC t,aC (.int wd),x] h=.ok (.nx [aC t,aC (.int wd),y]) h
 |[],x,_=>⟨x,by simp[forL]⟩
 |w::r,x,hk=>by
  obtain⟨y,e⟩:=OW (h:=h) (t:=t) (k:=k) (wd:=wd) r (aC w) λz hz=>hk z (eH _ hz);refine⟨y,?_⟩;obtain⟨us,rfl,hl⟩:=hk w fQ;have e1:=pD C.toCoreA (k:=k) (h:=h) (w:=.tup us) (lo:=wd) (hi:=wd) (by unfold Kn;simp);have q:fR (.tup us) wd wd=true:=by simp[fR,hl]
  have eb:exs (run F (k+1)) FG [aC t,aC (.int wd),aC (.tup us)] h=.ok (.nx [aC t,aC (.int wd),aC (.tup us)]) h:=by simp[FG,exs,ev,e1,q]
  simp only[forL,bH,List.set,eb,aE,e]
theorem OX{k:Nat}{h:VH}{ws:List W}{wd:Int}(hl:ws.length<=60)(hd:∀w∈ws,∃us,w=.tup us/\us.length=wd):run F (k+2) 9 [.tup ws,.int wd] h=.ok (.bl true) h:=by
 rw[cQ C.f9 rfl];have e1:=pD C.toCoreA (k:=k) (h:=⟨h.n,h.n,h.os⟩) (w:=.tup ws) (lo:=0) (hi:=60) (by unfold Kn;simp);have q:fR (.tup ws) 0 60=true:=by simp[fR];lia
 obtain⟨y,e2⟩:=OW C (k:=k) (h:=⟨h.n,h.n,h.os⟩) (t:=.tup ws) (wd:=wd) ws aD hd;simp[CY,exs,ev,e1,q,xR (show ws.length<1000000 by lia),e2,dj]
end
structure Bd where
 wd:Int
 gr:Int
 rows:List (List W)
 fd:List W
 dr:List W
noncomputable def Bd.w(B:Bd):W:=.tup [.int B.wd,.int B.gr,.tup (B.rows.map .tup),.tup B.fd,.tup B.dr]
noncomputable def aV(wd g:Int):Int->List W->Prop|_,[]=>True|c,w::r=>cA w c wd g=true/\aV wd g (c+1) r
structure Bd.Ok(B:Bd):Prop where
 w1:1<=B.wd
 w2:B.wd<=40
 g1:0<=B.gr
 g2:B.gr<=8
 r1:B.rows.length<=60
 r2:∀r∈B.rows,(r.length:Int)=B.wd/\aV B.wd B.gr 0 r
 f1:1<=B.fd.length
 f2:B.fd.length<=4
 f3:∀f∈B.fd,within f 0 (B.wd-1)=true
 d1:(B.dr.length:Int)=B.wd
 d2:∀d∈B.dr,door d B.fd.length=true
structure Bd.qo(B:Bd):Prop where
 w1:1<=B.wd
 w2:B.wd<=40
 g1:0<=B.gr
 g2:B.gr<=8
 r1:B.rows.length<=60
 r2:∀r∈B.rows,(r.length:Int)=B.wd
 f1:1<=B.fd.length
 f2:B.fd.length<=4
 f3:∀f∈B.fd,within f 0 (B.wd-1)=true
 d1:(B.dr.length:Int)=B.wd
 d2:∀d∈B.dr,door d B.fd.length=true
theorem Bd.Ok.C6{B:Bd}(b:B.Ok):B.qo:=⟨b.w1,b.w2,b.g1,b.g2,b.r1,λr hr=>(b.r2 r hr).1,b.f1,b.f2,b.f3,b.d1,b.d2⟩
theorem Yn{w:W}{g:Int}(h:kZ w g)(n:Nat):ek (n+2) w=true:=by
 cases w<;>simp only[kZ]at h<;>try(cases h;done)
 rename_i us;rcases us with _|⟨a,_|⟨b,_|_⟩⟩<;>simp at h
 obtain⟨h1,h2⟩:=h;cases a<;>simp[within]at h1;cases b<;>simp[within]at h2;rfl
theorem pF{w:W}{x:Str}(h:jB w x):w=.str x:=by cases w<;>simp[jB]at h;rw[h]
theorem C7{w:W}{c wd g:Int}(h:cA w c wd g)(n:Nat):ek (n+2) w=true:=by
 have st:∀x:Str,PyData.strOk x=true->jB w x=true->ek (n+2) w=true:=λx hx e=>by rw[pF e];exact hx
 unfold cA at h;split at h;rename_i q;rw[k8]at q;rcases q with q|q
 exact st _ (by decide +kernel) q;exact Yn q n;split at h;rename_i q;exact st _ (by decide +kernel) q;split at h;rename_i q;exact st _ (by decide +kernel) q;rw[k8]at h;rcases h with q|q
 exact st _ (by decide +kernel) q;exact st _ (by decide +kernel) q
section
variable{F:Nat->Option Fn}(C:fL F)
include C
theorem OY{k:Nat}{h:VH}{B:Bd}(b:B.qo):run F (k+6) 10 [B.w] h=.ok (.bl true) h:=by
 rw[cQ C.J' rfl];have e1:=pD C.toCoreA (k:=k+4) (h:=⟨h.n,h.n,h.os⟩) (w:=B.w) (lo:=5) (hi:=5) (by unfold Kn Bd.w;simp);have q1:fR B.w 5 5=true:=by simp[fR,Bd.w]
 have e2:=sY C.toCoreA (k:=k+3) (h:=⟨h.n,h.n,h.os⟩) (w:=.int B.wd) (lo:=1) (hi:=40) (by unfold Kn;simp);have q2:within (.int B.wd) 1 40=true:=by simp[within,b.w1,b.w2]
 have e3:=sY C.toCoreA (k:=k+3) (h:=⟨h.n,h.n,h.os⟩) (w:=.int B.gr) (lo:=0) (hi:=8) (by unfold Kn;simp);have q3:within (.int B.gr) 0 8=true:=by simp[within,b.g1,b.g2]
 have kf:∀x∈B.fd,Kn ⟨h.n,h.n,h.os⟩ x:=λx hx=>by
  have:=b.f3 x hx;cases x<;>simp[within]at this;unfold Kn;simp
 have hf:=b.f2;have e4:=OS C.toCoreA (k:=k+2) (h:=⟨h.n,h.n,h.os⟩) (w:=.tup B.fd) (a:=1) (b:=4) (lo:=0) (hi:=B.wd-1) (by unfold Kn;simp) (λws e=>by cases e;exact⟨by lia,kf⟩);have q4:sZ (.tup B.fd) 1 4 0 (B.wd-1)=true:=by have h1:=b.f1;simp only[sZ,fR,aS,fF];exact⟨⟨by lia,by lia⟩,mC.mpr b.f3⟩
 have e5:=OX C (k:=k+3) (h:=⟨h.n,h.n,h.os⟩) (ws:=B.rows.map .tup) (wd:=B.wd) (by rw[bQ];exact b.r1) (λw hw=>by
  obtain⟨r,hr,e⟩:=iS.mp hw;exact⟨r,e.symm,b.r2 r hr⟩)
 have hd:=b.d1;have ve:=b.w2;have e6:=Ym C (k:=k) (h:=⟨h.n,h.n,h.os⟩) (ws:=B.dr) (wd:=B.wd) (n:=B.fd.length) hd (by lia) b.d2;unfold Bd.w at e1 q1 ⊢;simp[j8,exs,ev,e1,q1,e2,q2,e3,q3,e4,q4,e5,e6,dj,bH,aQ,ir,dB,eU,iV,fZ]
theorem Yo{k:Nat}{h:VH}{B:Bd}(b:B.Ok):run F (k+6) 10 [B.w] h=.ok (.bl true) h:=OY C b.C6
theorem OZ{k:Nat}{h:VH}{t rs pl:W}{wd g r0:Int}:∀(ws:List W) (c:Int) (j:Nat) (x y:Option W),c=j->aV wd g c ws->∃x' y',forL (bH (.many [6,7])) (exs (run F (k+4)) FH) (bI j ws) [aC t,aC (.int wd),aC (.int g),aC rs,aC (.int r0),aC pl,x,y] h =
 .ok (.nx [aC t,aC (.int wd),aC (.int g),aC rs,aC (.int r0),aC pl,x',y']) h
 |[],c,j,x,y,_,_=>⟨x,y,by simp[forL,bI]⟩
 |w::r,c,j,x,y,hc,ho=>by
  obtain⟨h1,h2⟩:=ho;obtain⟨x',y',e⟩:=OZ (h:=h) (t:=t) (rs:=rs) (pl:=pl) (k:=k) (wd:=wd) (g:=g) (r0:=r0) r (c+1) (j+1) (aC (.int j)) (aC w) (by rw[hc];push_cast;rfl) h2;refine⟨x',y',?_⟩;have e1:=F9 C (k:=k) (h:=h) (c:=j) (wd:=wd) (g:=g) (C7 h1 22);rw[<-hc,h1]at e1;have eb:exs (run F (k+4)) FH [aC t,aC (.int wd),aC (.int g),aC rs,aC (.int r0),aC pl,aC (.int j),aC w] h=.ok (.nx [aC t,aC (.int wd),aC (.int g),aC rs,aC (.int r0),aC pl,aC (.int j),aC w]) h:=by rw[hc]at e1;simp[FH,exs,ev,e1]
  simp only[forL,bI,bH,aQ,ir,List.set,eb,aE,e]
theorem O0{k:Nat}{h:VH}{t rs:W}{wd g:Int}:∀(ws:List (List W)) (j:Nat) (x y z u:Option W),(∀r∈ws,(r.length:Int)<1000000/\aV wd g 0 r)->∃x' y' z' u',forL (bH (.many [4,5])) (exs (run F (k+4)) FI) (bI j (ws.map .tup)) [aC t,aC (.int wd),aC (.int g),aC rs,x,y,z,u] h =
 .ok (.nx [aC t,aC (.int wd),aC (.int g),aC rs,x',y',z',u']) h
 |[],j,x,y,z,u,_=>⟨x,y,z,u,by simp[forL,bI]⟩
 |w::r,j,x,y,z,u,ho=>by
  obtain⟨h1,h2⟩:=ho w fQ;obtain⟨z1,u1,e1⟩:=OZ C (k:=k) (h:=h) (t:=t) (rs:=rs) (pl:=.tup w) (wd:=wd) (g:=g) (r0:=j) w 0 0 z u rfl h2;obtain⟨x',y',z',u',e⟩:=O0 (h:=h) (t:=t) (rs:=rs) (k:=k) (wd:=wd) (g:=g) r (j+1) (aC (.int j)) (aC (.tup w)) z1 u1 λq hq=>ho q (eH _ hq);refine⟨x',y',z',u',?_⟩;have eb:exs (run F (k+4)) FI [aC t,aC (.int wd),aC (.int g),aC rs,aC (.int j),aC (.tup w),z,u] h=.ok (.nx [aC t,aC (.int wd),aC (.int g),aC rs,aC (.int j),aC (.tup w),z1,u1]) h:=by simp[FI,exs,ev,zy (show w.length<1000000 by lia),e1]
  simp only[forL,eS,bI,bH,aQ,ir,List.set,eb,aE,e]
theorem Ga{k:Nat}{h:VH}{B:Bd}(b:B.Ok):run F (k+7) 14 [B.w] h=.ok .aN h:=by
 rw[cQ C.Yg rfl];have e1:=Yo C (k:=k) (h:=⟨h.n,h.n,h.os⟩) b;have ve:=b.w2;have O1:=b.r1;obtain⟨x',y',z',u',e2⟩:=O0 C (k:=k+2) (h:=⟨h.n,h.n,h.os⟩) (t:=B.w) (rs:=.tup (B.rows.map .tup)) (wd:=B.wd) (g:=B.gr) B.rows 0 aD aD aD aD λr hr=>⟨by have:=(b.r2 r hr).1;lia,(b.r2 r hr).2⟩
 unfold Bd.w at e1 e2 ⊢;simp[xG,exs,ev,e1,X5,bH,aQ,ir,cJ,gy,HT.bz,zy (show(B.rows.map W.tup).length<1000000 by rw[bQ];lia),e2]
end
structure CoreD(F:Nat->Option Fn):Prop where
 f2:F 2=aC FA
 f3:F 3=aC CS
 f4:F 4=aC JV
 f5:F 5=aC sC
theorem nF{h:VH}{i j:Int}:kO h (.int i) (.int j)=aC (decide (i=j)):=by unfold kO;simp only[toD];show aC (i==j)=_;by_cases q:i=j<;>simp[q]
theorem Gb{i:Int}(h1:-(2 ^ 63)<=i)(h2:i<2 ^ 63):rL i=true:=by unfold rL;simp only[aS,fF];lia
theorem qp{h:VH}{i:Nat}{o o0:VO}(g:h.get i=aC o0):(h.set i o).get i=aC o:=by have hi:=dI g;unfold VH.get at g;rw[if_pos (i8.mpr hi)]at g;have hl:=(ku.mp g).1;unfold VH.get VH.set;simp only[if_pos (i8.mpr hi)];rw[pS hl]
theorem vf{h:VH}{i j:Nat}{o o0:VO}(g:h.get i=aC o0)(hj:j≠i):(h.set i o).get j=h.get j:=IA (dI g) hj
structure Dk(h:VH)(d c:Nat)(b:Nat):Prop where
 ne:d≠c
 st:∃(ns cells:List Int) (p q:Int),h.get d=aC (.lst [.fz (ns.map .int),.ref c,.int p,.int q])/\h.get c=aC (.lst (cells.map .int))/\(∀x∈cells,(0:Int)<=x)/\0<=p/\0<=q/\q<=b/\cells.length<=63
theorem Dk.mono{h:VH}{d c b b':Nat}(D:Dk h d c b)(hb:b<=b'):Dk h d c b':=by obtain⟨ne,ns,cells,p,q,a1,a2,a3,a4,a5,a6,a7⟩:=D;exact⟨ne,ns,cells,p,q,a1,a2,a3,a4,a5,by lia,a7⟩
structure bx(h h':VH)(d c:Nat):Prop where
 le:h.n<=h'.n
 get:∀i o,i≠d->i≠c->h.get i=aC o->h'.get i=aC o
theorem bx.refl{h:VH}{d c:Nat}:bx h h d c:=⟨aZ _,λ_ _ _ _ e=>e⟩
theorem bx.trans{h h1 h2:VH}{d c:Nat}(a:bx h h1 d c)(b:bx h1 h2 d c):bx h h2 d c:=⟨gu a.le b.le,λi o h1 h2 e=>b.get i o h1 h2 (a.get i o h1 h2 e)⟩
theorem Ka(i:Int):(if i<0 then -i else i)=(i.natAbs:Int):=by split<;>lia
section
variable{F:Nat->Option Fn}(C:CoreD F)
include C
theorem cell{k:Nat}{h:VH}{ns:List Int}{j:Int}(hj:0<=j):∃r,run F (k+1) 2 [.fz (ns.map .int),.int j] h=.ok (.int r) h/\0<=r:=by
 rw[cQ C.f2 rfl];cases ns with
 |nil=>
  refine⟨7*j+3,?_,by lia⟩;simp[FA,exs,ev,iV,fZ,aQ,aX,nF,dB,eU,Gb,dj]
 |cons n0 tu=>
  have hl:(0:Int)< ((n0::tu).length:Int):=by simp only[eK];lia
  have hm1:=Ez j (show((n0::tu).length:Int)≠0 by lia);have hm2:=Ey j hl;obtain⟨m,hm⟩:=nv hm1;have hml:m< (n0::tu).length:=by lia
  have ha:dZ (List.map W.int (n0::tu)) (j % ((n0::tu).length:Int))=aC (.int ((n0::tu)[m])):=by rw[hm];exact wk (by rw[mz,k9 hml];rfl)
  have hb:¬(((tu.length:Int)+1)=0):=by lia
  have hp:(0:Int)< (tu.length:Int)+1:=by lia
  refine⟨(((n0::tu)[m]).natAbs:Int),?_,by lia⟩;simp only[eK,Int.natCast_add,Int.cast_ofNat_Int,eS]at ha;simp[FA,exs,ev,iV,fZ,aQ,aX,nF,dB,eU,dj,bq,kQ,hb,hp,ha,Ka]
theorem mixed{k:Nat}{h:VH}{ns:List Int}{j m:Int}(hj:0<=j)(hj2:j<=1000000000)(hm:0<m):∃r,run F (k+2) 4 [.fz (ns.map .int),.int j,.int m] h=.ok (.int r) h/\0<=r/\r<m:=by
 rw[cQ C.f4 rfl];obtain⟨c,e1,hc⟩:=cell C (k:=k) (h:=⟨h.n,h.n,h.os⟩) (ns:=ns) hj;have h1:=Ez c (show(1000003:Int)≠0 by decide);have h2:=Ey c (show(0:Int)<1000003 by decide);generalize hx:c % 1000003=x at h1 h2;have s1:rL (x+5)=true:=Gb (by lia) (by lia);have s2:rL 7919=true:=Gb (by decide) (by decide);have hb:(x+5)* (j+2)<=1000008*1000000002:=Int.mul_le_mul (by lia) (by lia) (by lia) (by lia);have hb0:0<=(x+5)* (j+2):=Int.mul_nonneg (by lia) (by lia);generalize hy:(x+5)* (j+2)=y at hb hb0;have hn:(y+7919*j).natAbs<2 ^ 64:=by lia
 refine⟨(y+7919*j) ^ 5 % 2147483647/13 % m,?_,Ez _ (by lia),Ey _ hm⟩;have hn':(y+7919*j).natAbs<18446744073709551616:=by lia
 simp[JV,exs,ev,e1,dB,eU,hx,s1,s2,hy,hn',hm,dj]
theorem O2{k:Nat}{d c:Nat}{m q:Int}{ns:List Int}(hdc:d≠c)(hm:0<m)(hm2:m<1073741824):∀(n f:Nat) (g:VH) (x:Option W) (cells:List Int) (p:Int),n<f->(cells.length:Int)-p<=n->0<=p->(∀y∈cells,(0:Int)<=y)->
 g.get d=aC (.lst [.fz (ns.map .int),.ref c,.int p,.int q])->g.get c=aC (.lst (cells.map .int))->
 ∃(g':VH) (cells':List Int) (p':Int),0<=p'/\(∀y∈cells',(0:Int)<=y)/\cells'.length=cells.length/\g'.get d=aC (.lst [.fz (ns.map .int),.ref c,.int p',.int q])/\g'.get c=aC (.lst (cells'.map .int))/\g'.n=g.n/\(∀i,i≠d->i≠c->g'.get i=g.get i)/\
  ((∃r,eY (ev (run F (k+2)) CT) (exs (run F (k+2)) xE) f [aC (.ref d),aC (.int m),x] g=.ok (.rt (.int r)) g'/\0<=r/\r<m)\/∃y,eY (ev (run F (k+2)) CT) (exs (run F (k+2)) xE) f [aC (.ref d),aC (.int m),x] g=.ok (.nx [aC (.ref d),aC (.int m),y]) g')
 |n,0,g,x,cells,p,hf,_,_,_,_,_=>by lia
 |n,f+1,g,x,cells,p,hf,hn,hp,hnn,gd,gc=>by
  have ec:ev (run F (k+2)) CT [aC (.ref d),aC (.int m),x] g=.ok (.bl (decide (p<cells.length))) g:=by simp[CT,ev,bq,gd,dZ,jI,iV,fZ,aQ,gc,aX,eX]
  by_cases hlt:p<cells.length;obtain⟨pn,rfl⟩:=nv hp;have hpl:pn<cells.length:=by lia
  have hat:dZ (cells.map W.int) (pn:Int)=aC (.int cells[pn]):=wk (by rw[mz,k9 hpl];rfl);by_cases hpos:0<cells[pn];refine⟨g.set c (.lst ((cells.set pn (cells[pn]/m)).map .int)),cells.set pn (cells[pn]/m),pn,hp,?_,by simp,?_,qp gc,rfl,λi _ hi=>vf gc hi,.inl ⟨cells[pn] % m,?_,Ez _ (by lia),Ey _ hm⟩⟩;intro y hy;rcases List.mem_or_eq_of_mem_set hy with hy|rfl
  exact hnn y hy;exact Int.ediv_nonneg (by lia) (by lia);rw[vf gc hdc];exact gd;have hix:jI (cells.map W.int).length (pn:Int)=aC pn:=by unfold jI;rw[if_pos (by lia),if_pos (by rw[bQ];lia)];simp
  have eb:exs (run F (k+2)) xE [aC (.ref d),aC (.int m),x] g=.ok (.rt (.int (cells[pn] % m))) (g.set c (.lst ((cells.set pn (cells[pn]/m)).map .int))):=by have h2:dZ [W.fz (ns.map .int),.ref c,.int pn,.int q] 2=aC (.int pn):=rfl;have h1:dZ [W.fz (ns.map .int),.ref c,.int pn,.int q] 1=aC (.ref c):=rfl;simp[xE,exs,ev,bq,gd,h1,h2,gc,hat,aX,eX,hpos,dB,eU,hm,hm2]at hix ⊢;simp[hix,hm,List.map_set]
  simp[eY,ec,hlt,eb];have gs:(g.set d (.lst [.fz (ns.map .int),.ref c,.int ((pn:Int)+1),.int q])).get c=aC (.lst (cells.map .int)):=by rw[vf gd (eE hdc)];exact gc
  cases n with
  |zero=>lia
  |succ n=>
   obtain⟨g',cells',p',a1,a2,a3,a4,a5,a6,a7,a8⟩:=O2 (k:=k) hdc hm hm2 n f (g.set d (.lst [.fz (ns.map .int),.ref c,.int ((pn:Int)+1),.int q])) (aC (.int cells[pn])) cells (pn+1) (by lia) (by lia) (by lia) hnn (qp gd) gs;have eb:exs (run F (k+2)) xE [aC (.ref d),aC (.int m),x] g=.ok (.nx [aC (.ref d),aC (.int m),aC (.int cells[pn])]) (g.set d (.lst [.fz (ns.map .int),.ref c,.int ((pn:Int)+1),.int q])):=by have h2:dZ [W.fz (ns.map .int),.ref c,.int pn,.int q] 2=aC (.int pn):=rfl;have h1:dZ [W.fz (ns.map .int),.ref c,.int pn,.int q] 1=aC (.ref c):=rfl;have h3:jI 4 2=aC 2:=rfl;simp[xE,exs,ev,bq,gd,h1,h2,h3,gc,hat,aX,eX,hpos,dB,eU]
   refine⟨g',cells',p',a1,a2,a3,a4,a5,a6,λi h1 h2=>by rw[a7 i h1 h2,vf gd h1],?_⟩;rcases a8 with⟨r,e,h3⟩|⟨y,e⟩
   exact .inl ⟨r,by simp[eY,ec,hlt,eb,e],h3⟩;exact .inr ⟨y,by simp[eY,ec,hlt,eb,e]⟩
  exact⟨g,cells,p,hp,hnn,rfl,gd,gc,rfl,λ_ _ _=>rfl,.inr ⟨x,by simp[eY,ec,hlt]⟩⟩
omit C in
theorem Kc{h h':VH}{w:W}(g:fE ⟨h.n,h.n,h.os⟩ h'):∃h2,leave h w h'=.ok w h2/\h.n<=h2.n/\∀i,i<h.n->h2.get i=h'.get i:=by
 unfold leave;split;rename_i q;rw[aS]at q;have hlo:=kG q.1;exact⟨h,rfl,aZ _,λi hi=>by
  rw[g.2.2 i hi (eN hi hlo)];exact bR.symm⟩
 exact⟨_,rfl,g.1,λi hi=>bR⟩
theorem take{k:Nat}{h:VH}{d c b:Nat}{m:Int}(D:Dk h d c b)(hb:b<1000000000)(hm:0<m)(hm2:m<1073741824):∃r h',run F (k+3) 5 [.ref d,.int m] h=.ok (.int r) h'/\0<=r/\r<m/\Dk h' d c (b+1)/\bx h h' d c:=by
 rw[cQ C.f5 rfl];obtain⟨hne,ns,cells,p,q,gd,gc,hnn,hp,hq,hqb,hl⟩:=D;have Yp:VH.get ⟨h.n,h.n,h.os⟩ d=aC (.lst [.fz (ns.map .int),.ref c,.int p,.int q]):=by rw[bR];exact gd
 have Yq:VH.get ⟨h.n,h.n,h.os⟩ c=aC (.lst (cells.map .int)):=by rw[bR];exact gc
 obtain⟨g',cells',p',a1,a2,a3,a4,a5,a6,a7,a8⟩:=O2 C (k:=k) hne hm hm2 63 fuel ⟨h.n,h.n,h.os⟩ aD cells p (by decide) (by lia) hp hnn Yp Yq;have key:∀(g2:VH)(r:Int)(iK:List Int)(p2 q2:Int),exs (run F (k+2)) sC.body [aC (.ref d),aC (.int m),aD] ⟨h.n,h.n,h.os⟩=.ok (.rt (.int r)) g2->0<=r->r<m->0<=p2->0<=q2->q2<=b+1->iK.length<=63->(∀y∈iK,(0:Int)<=y)->
  g2.get d=aC (.lst [.fz (ns.map .int),.ref c,.int p2,.int q2])->g2.get c=aC (.lst (iK.map .int))->(∀i,i<h.n->i≠d->i≠c->g2.get i=h.get i)->
  ∃r h',fin h (exs (run F (k+2)) sC.body ([W.ref d,W.int m].map aC++aR (sC.n-sC.ps) aD) ⟨h.n,h.n,h.os⟩)=.ok (.int r) h'/\0<=r/\r<m/\Dk h' d c (b+1)/\bx h h' d c:=by
  intro g2 r iK p2 q2 e r1 r2 b1 b2 b3 b4 b5 b6 b7 b8;obtain⟨h2,e2,hn2,xS⟩:=Kc (w:=.int r) (za (zb F (k+2)) _ _ _ _ _ e);refine⟨r,h2,?_,r1,r2,⟨hne,ns,iK,p2,q2,?_,?_,b5,b1,b2,by lia,b4⟩,⟨hn2,λi o h1 h3 e3=>?_⟩⟩;show fin h (exs (run F (k+2)) sC.body [aC (.ref d),aC (.int m),aD] ⟨h.n,h.n,h.os⟩)=_;rw[e];exact e2;rw[xS d (dI gd)];exact b6;rw[xS c (dI gc)];exact b7;rw[xS i (dI e3),b8 i (dI e3) h1 h3];exact e3
 rcases a8 with⟨r,e,r1,r2⟩|⟨y,e⟩;refine key g' r cells' p' q ?_ r1 r2 a1 hq (by lia) (by lia) a2 a4 a5 λi hi h1 h2=>by rw[a7 i h1 h2,bR]
 simp[sC,exs,e];obtain⟨r,e2,r1,r2⟩:=mixed C (k:=k) (h:=g'.set d (.lst [.fz (ns.map .int),.ref c,.int p',.int (q+1)])) (ns:=ns) (j:=q+1) (m:=m) (by lia) (by lia) hm;refine key (g'.set d (.lst [.fz (ns.map .int),.ref c,.int p',.int (q+1)])) r cells' p' (q+1) ?_ r1 r2 a1 (by lia) (by lia) (by lia) a2 (qp a4) (by rw[vf a4 (eE hne)];exact a5) λi hi h1 h2=>by rw[vf a4 h1,a7 i h1 h2,bR]
 have h3:dZ [W.fz (ns.map .int),.ref c,.int p',.int q] 3=aC (.int q):=rfl;have h30:dZ [W.fz (ns.map .int),.ref c,.int p',.int (q+1)] 3=aC (.int (q+1)):=rfl;have Yr:dZ [W.fz (ns.map .int),.ref c,.int p',.int (q+1)] 0=aC (.fz (ns.map .int)):=rfl;have Ys:jI 4 3=aC 3:=rfl;have hs:=qp (o:=.lst [.fz (ns.map .int),.ref c,.int p',.int (q+1)]) a4;simp[sC,exs,e,ev,bq,a4,h3,dB,eU,Ys,hs,h30,Yr,e2]
end
theorem aU{cl:Call}{a b:S}{ρ ρ':En}{h h':VH}(e:exs cl a ρ h=.ok (.nx ρ') h'):exs cl (.seq a b) ρ h=exs cl b ρ' h':=by simp only[exs,e,aE]
theorem dm{cl:Call}{a b:S}{ρ:En}{w:W}{h h':VH}(e:exs cl a ρ h=.ok (.rt w) h'):exs cl (.seq a b) ρ h=.ok (.rt w) h':=by simp only[exs,e,aE]
@[simp] theorem C8 {cl:Call} {ρ:En} {h:VH}:exs cl .skip ρ h=.ok (.nx ρ) h:=rfl
theorem Dk.new{h:VH}{d c b:Nat}{o:VO}(D:Dk h d c b):Dk (h.new o) d c b:=by obtain⟨ne,ns,cells,p,q,a1,a2,a3⟩:=D;exact⟨ne,ns,cells,p,q,by rw[ju (dI a1)];exact a1,by rw[ju (dI a2)];exact a2,a3⟩
theorem bx.new{h h':VH}{d c:Nat}{o:VO}(K:bx h h' d c):bx h (h'.new o) d c:=⟨zT K.le,λi o' h1 h2 e=>by
 have:=K.get i o' h1 h2 e;rw[ju (dI this)];exact this⟩
theorem Dk.lo{h:VH}{d c b l:Nat}(D:Dk h d c b):Dk ⟨h.n,l,h.os⟩ d c b:=by obtain⟨ne,ns,cells,p,q,a1,a2,a3⟩:=D;exact⟨ne,ns,cells,p,q,by rw[bR];exact a1,by rw[bR];exact a2,a3⟩
theorem vg{cl:Call}{h h':VH}{d c b:Nat}{w:W}{fl:Fl}{body:S}{ρ:En}{F:Nat->Option Fn}{k:Nat}(e:exs (run F k) body ρ ⟨h.n,h.n,h.os⟩=.ok (.rt w) h')(D0:Dk h d c 0\/∃b,Dk h d c b)(D:Dk h' d c b)(K:bx ⟨h.n,h.n,h.os⟩ h' d c) :
 ∃h2,fin h (exs (run F k) body ρ ⟨h.n,h.n,h.os⟩)=.ok w h2/\Dk h2 d c b/\bx h h2 d c:=by
 obtain⟨h2,e2,hn2,xS⟩:=Kc (w:=w) (za (zb F k) _ _ _ _ _ e);have hd:d<h.n/\c<h.n:=by rcases D0 with⟨_,ns,cells,p,q,a1,a2,_⟩|⟨b,_,ns,cells,p,q,a1,a2,_⟩<;>exact⟨dI a1,dI a2⟩
 refine⟨h2,by rw[e];exact e2,?_,⟨hn2,λi o h1 h3 e3=>?_⟩⟩;obtain⟨ne,ns,cells,p,q,a1,a2,a3⟩:=D;exact⟨ne,ns,cells,p,q,by rw[xS d hd.1];exact a1,by rw[xS c hd.2];exact a2,a3⟩;rw[xS i (dI e3)];exact K.get i o h1 h3 (by rw[bR];exact e3)
theorem C9{cl:Call}{a b:E}{ρ:En}{h:VH}{x y:Bool}(ea:ev cl a ρ h=.ok (.bl x) h)(eb:ev cl b ρ h=.ok (.bl y) h):ev cl (.and a b) ρ h=.ok (.bl (x&&y)) h:=by rw[ev,ea,aE];cases x;rfl;exact eb
theorem Yt{cl:Call}{a b:E}{ρ:En}{h:VH}{x y:Bool}(ea:ev cl a ρ h=.ok (.bl x) h)(eb:ev cl b ρ h=.ok (.bl y) h):ev cl (.or a b) ρ h=.ok (.bl (x||y)) h:=by rw[ev,ea,aE];cases x;exact eb;rfl
structure l7(F:Nat->Option Fn):Prop extends CoreD F where
 Yu:F 21=aC o9
 Yv:F 25=aC sF
theorem Yw{x y:Str}:jB (.str x) y=(x==y):=rfl
noncomputable abbrev aH:Str:=Str.ofString "."
noncomputable abbrev dw:Str:=Str.ofString "<"
noncomputable abbrev dD:Str:=Str.ofString ">"
noncomputable abbrev sX:Str:=Str.ofString "x"
noncomputable abbrev sS:Str:=Str.ofString "s"
theorem Ke{c wd g:Int}:cA (.str aH) c wd g=true:=rfl
theorem Dc{c wd g:Int}:cA (.str sS) c wd g=true:=rfl
theorem O3{c wd g:Int}(h:0<c):cA (.str dw) c wd g=true:=by have:cA (.str dw) c wd g=decide (0<c):=rfl;rw[this];simpa using h
theorem O4{c wd g:Int}(h:c<wd-1):cA (.str dD) c wd g=true:=by have:cA (.str dD) c wd g=decide (c<wd-1):=rfl;rw[this];simpa using h
theorem Dd{c wd g:Int}(h:0<c)(h2:c<wd-1):cA (.str sX) c wd g=true:=by have:cA (.str sX) c wd g=(decide (0<c)&&decide (c<wd-1)):=rfl;rw[this];simp[h,h2]
theorem Gd{c wd g a b:Int}(a0:0<=a)(a1:a<g)(b0:0<=b)(b1:b<2)(h:0<c)(h2:c<wd-1):cA (.tup [.int a,.int b]) c wd g=true:=by
 have h3:kZ (.tup [.int a,.int b]) g=true:=by simp only[kZ,within,aS,fF];lia
 unfold cA;rw[h3,Ec,if_pos rfl];simp[h,h2]
inductive Raw(g:Int):W->Prop
 |dot:Raw g (.str aH)
 |lt:Raw g (.str dw)
 |gt:Raw g (.str dD)
 |x:Raw g (.str sX)
 |rk {a b:Int}:0<=a->a<g->0<=b->b<2->Raw g (.tup [.int a,.int b])
theorem l8{h:VH}{x y z:Str}(hx:PyData.strOk x)(hy:PyData.strOk y)(hz:PyData.strOk z):kP h (.str x) (.tup [.str y,.str z])=aC (y==x||z==x):=by
 have sx:SeqAt.shaped (.str x)=true:=by unfold SeqAt.shaped;show(PyData.strOk x&&_)=true;rw[hx];rfl
 have sy:SeqAt.shaped (.str y)=true:=by unfold SeqAt.shaped;show(PyData.strOk y&&_)=true;rw[hy];rfl
 have sz:SeqAt.shaped (.str z)=true:=by unfold SeqAt.shaped;show(PyData.strOk z&&_)=true;rw[hz];rfl
 simp[kP,aQ,toD,bY,sx,sy,sz,fG,PyData.eqv]
theorem Ge{h:VH}{a b:Int}{y z:Str}(hy:PyData.strOk y)(hz:PyData.strOk z):kP h (.tup [.int a,.int b]) (.tup [.str y,.str z])=aC false:=by
 have sy:SeqAt.shaped (.str y)=true:=by unfold SeqAt.shaped;show(PyData.strOk y&&_)=true;rw[hy];rfl
 have sz:SeqAt.shaped (.str z)=true:=by unfold SeqAt.shaped;show(PyData.strOk z&&_)=true;rw[hz];rfl
 have st:SeqAt.shaped (.tuple [.int a,.int b])=true:=rfl;simp[kP,aQ,toD,bY,sy,sz,st,fG,PyData.eqv]
noncomputable def pG:E:=(.or (.and (.cmp .eq (.var 1) (.cst (.int (0)))) (.cmp .wI (.var 5) (.tup (.cons (.cst (.str aH)) (.cons (.cst (.str dD)) .nil))))) (.and (.cmp .eq (.var 1) (.op .sub (.var 2) (.cst (.int (1))))) (.cmp .wI (.var 5) (.tup (.cons (.cst (.str aH)) (.cons (.cst (.str dw)) .nil))))))
noncomputable def tw:E:=(.idx (.lst (.cons (.cst (.str dD)) (.cons (.cst (.str dw)) (.cons (.cst (.str aH)) .nil)))) (.bi .min (.cons (.op .add (.bi .int (.cons (.cmp .gt (.var 1) (.cst (.int (0)))) .nil)) (.op .mul (.cst (.int (2))) (.bi .int (.cons (.cmp .eq (.var 2) (.cst (.int (1)))) .nil)))) (.cons (.cst (.int (2))) .nil))))
noncomputable def iL:S:=(.seq (.ite pG (.seq (.ret tw) .skip) .skip) (.seq (.ret (.var 5)) .skip))
section
variable{F:Nat->Option Fn}(C:l7 F)
include C
theorem piece{k:Nat}{h:VH}{d c b:Nat}{co wd g:Int}(D:Dk h d c b)(hb:b+5<1000000000)(h0:0<=co)(h1:co<wd)(g0:0<=g)(g1:g<=8) :
 ∃w h',run F (k+4) 21 [.ref d,.int co,.int wd,.int g] h=.ok w h'/\cA w co wd g=true/\Dk h' d c (b+5)/\bx h h' d c:=by
 rw[cQ C.Yu rfl];have D0:Dk ⟨h.n,h.n,h.os⟩ d c b:=D.lo;have tail:∀(w5:W)(dU:Int)(h3:VH),Raw g w5->∃w h4,exs (run F (k+3)) iL
  [aC (.ref d),aC (.int co),aC (.int wd),aC (.int g),aC (.int dU),aC w5] h3=.ok (.rt w) h4/\cA w co wd g=true/\(h4=h3\/∃o,h4=h3.new o):=by
  intro w5 dU h3 R;have two:rL 2=true:=Gb (by decide) (by decide);have i0:dZ [W.str dD,.str dw,.str aH] 0=aC (.str dD):=rfl;have i1:dZ [W.str dD,.str dw,.str aH] 1=aC (.str dw):=rfl;have i2:dZ [W.str dD,.str dw,.str aH] 2=aC (.str aH):=rfl;have eC:∀(b1 b2:Bool),kP h3 w5 (.tup [.str aH,.str dD])=aC b1->kP h3 w5 (.tup [.str aH,.str dw])=aC b2->ev (run F (k+3)) pG [aC (.ref d),aC (.int co),aC (.int wd),aC (.int g),aC (.int dU),aC w5] h3=.ok (.bl ((decide (co=0) && !b1)|| (decide (co=wd-1) && !b2))) h3:=by intro b1 b2 n1 n2;refine Yt (C9 ?_ ?_) (C9 ?_ ?_);simp only[ev,mE,vN,yv,bO,aE,aX,nF,qS];simp[ev,aX,n1];simp only[ev,mE,vN,yv,bO,aE,aX,nF,qS,dB,eU];simp[ev,aX,n2]
  have pH:∀(b1 b2:Bool),kP h3 w5 (.tup [.str aH,.str dD])=aC b1->kP h3 w5 (.tup [.str aH,.str dw])=aC b2->(co≠0\/b1=true)->(co≠wd-1\/b2=true)->cA w5 co wd g=true->∃w h4,exs (run F (k+3)) iL
   [aC (.ref d),aC (.int co),aC (.int wd),aC (.int g),aC (.int dU),aC w5] h3=.ok (.rt w) h4/\cA w co wd g=true/\(h4=h3\/∃o,h4=h3.new o):=by
   intro b1 b2 n1 n2 o1 o2 hm;refine⟨w5,h3,?_,hm,.inl rfl⟩;have cond:=eC b1 b2 n1 n2;rw[show((decide (co=0) && !b1)|| (decide (co=wd-1) && !b2))=false by rcases o1 with z|z<;>rcases o2 with z'|z'<;>simp[z,z']]at cond;unfold iL;rw[exs,exs,cond,aE];simp[exs,ev]
  have tD:∀(b1 b2:Bool),kP h3 w5 (.tup [.str aH,.str dD])=aC b1->kP h3 w5 (.tup [.str aH,.str dw])=aC b2->((co=0/\b1=false)\/(co=wd-1/\b2=false))->∃w h4,exs (run F (k+3)) iL
   [aC (.ref d),aC (.int co),aC (.int wd),aC (.int g),aC (.int dU),aC w5] h3=.ok (.rt w) h4/\cA w co wd g=true/\(h4=h3\/∃o,h4=h3.new o):=by
   intro b1 b2 n1 n2 o;have cond:ev (run F (k+3)) pG [aC (.ref d),aC (.int co),aC (.int wd),aC (.int g),aC (.int dU),aC w5] h3=.ok (.bl true) h3:=by rw[eC b1 b2 n1 n2,show((decide (co=0) && !b1)|| (decide (co=wd-1) && !b2))=true by rcases o with⟨z,z'⟩|⟨z,z'⟩<;>simp[z,z']]
   have r1:∀(x:Str)(j:Int),(if(2:Int)< (if 0<co then 1 else 0)+2* (if wd=1 then 1 else 0)then 2 else(if 0<co then 1 else 0)+2* (if wd=1 then 1 else 0))=j->dZ [W.str dD,.str dw,.str aH] j=aC (.str x)->ev (run F (k+3)) tw [aC (.ref d),aC (.int co),aC (.int wd),aC (.int g),aC (.int dU),aC w5] h3=.ok (.str x) (h3.new (.lst [W.str dD,.str dw,.str aH])):=by intro x j hj ha;have hg:=eZ (h:=h3) (o:=.lst [W.str dD,.str dw,.str aH]);by_cases c0:0<co<;>by_cases c1:wd=1<;>simp[c0,c1]at hj<;>subst hj<;>simp[tw,ev,aX,eX,nF,dB,eU,two,iV,oz,kR,bq,hg,ha,c0,c1]
   have fin:∀x:Str,ev (run F (k+3)) tw [aC (.ref d),aC (.int co),aC (.int wd),aC (.int g),aC (.int dU),aC w5] h3=.ok (.str x) (h3.new (.lst [W.str dD,.str dw,.str aH]))->cA (.str x) co wd g=true->
    ∃w h4,exs (run F (k+3)) iL [aC (.ref d),aC (.int co),aC (.int wd),aC (.int g),aC (.int dU),aC w5] h3=.ok (.rt w) h4/\cA w co wd g=true/\(h4=h3\/∃o,h4=h3.new o):=
    λx e hm=>⟨.str x,h3.new (.lst [W.str dD,.str dw,.str aH]),by simp only[iL,exs,cond,aE,e],hm,.inr ⟨_,rfl⟩⟩
   by_cases w1:wd=1;exact fin aH (r1 aH 2 (by rw[if_neg (by lia:¬0<co)];simp[w1]) i2) Ke;by_cases c0:co=0;exact fin dD (r1 dD 0 (by rw[if_neg (by lia:¬0<co)];simp[w1]) i0) (O4 (by lia));exact fin dw (r1 dw 1 (by rw[if_pos (by lia:0<co)];simp[w1]) i1) (O3 (by lia))
  have d1:(aH==dw)=false:=by decide +kernel
  have d2:(dD==dw)=false:=by decide +kernel
  have d3:(aH==dD)=false:=by decide +kernel
  have d4:(dw==dD)=false:=by decide +kernel
  have d5:(aH==sX)=false:=by decide +kernel
  have d6:(dD==sX)=false:=by decide +kernel
  have d7:(dw==sX)=false:=by decide +kernel
  have k1:PyData.strOk aH=true:=by decide +kernel
  have k2:PyData.strOk dw=true:=by decide +kernel
  have k3:PyData.strOk dD=true:=by decide +kernel
  have k4:PyData.strOk sX=true:=by decide +kernel
  cases R with
  |dot=>exact pH true true (by rw[l8 k1 k1 k3];simp) (by rw[l8 k1 k1 k2];simp) (.inr rfl) (.inr rfl) Ke
  |lt=>
   by_cases c0:co=0;exact tD false true (by rw[l8 k2 k1 k3,d1,d2];rfl) (by rw[l8 k2 k1 k2];simp) (.inl ⟨c0,rfl⟩);exact pH false true (by rw[l8 k2 k1 k3,d1,d2];rfl) (by rw[l8 k2 k1 k2];simp) (.inl c0) (.inr rfl) (O3 (by lia))
  |gt=>
   by_cases c0:co=wd-1;exact tD true false (by rw[l8 k3 k1 k3];simp) (by rw[l8 k3 k1 k2,d3,d4];rfl) (.inr ⟨c0,rfl⟩);exact pH true false (by rw[l8 k3 k1 k3];simp) (by rw[l8 k3 k1 k2,d3,d4];rfl) (.inr rfl) (.inl c0) (O4 (by lia))
  |x=>
   by_cases c0:co=0\/co=wd-1;exact tD false false (by rw[l8 k4 k1 k3,d5,d6];rfl) (by rw[l8 k4 k1 k2,d5,d7];rfl) (c0.elim (λz=>.inl ⟨z,rfl⟩) λz=>.inr ⟨z,rfl⟩);exact pH false false (by rw[l8 k4 k1 k3,d5,d6];rfl) (by rw[l8 k4 k1 k2,d5,d7];rfl) (.inl (by lia)) (.inl (by lia)) (Dd (by lia) (by lia))
  |rk a0 a1 b0 b1=>
   by_cases c0:co=0\/co=wd-1;exact tD false false (Ge k1 k3) (Ge k1 k2) (c0.elim (λz=>.inl ⟨z,rfl⟩) λz=>.inr ⟨z,rfl⟩);exact pH false false (Ge k1 k3) (Ge k1 k2) (.inl (by lia)) (.inl (by lia)) (Gd a0 a1 b0 b1 (by lia) (by lia))
 obtain⟨dU,jd,e1,l0,l1,D1,K1⟩:=take C.toCoreD (k:=k) (m:=10) D0 (by lia) (by decide) (by decide);have done:∀(w5:W)(h3:VH),Raw g w5->Dk h3 d c (b+5)->bx ⟨h.n,h.n,h.os⟩ h3 d c->exs (run F (k+3)) o9.body [aC (.ref d),aC (.int co),aC (.int wd),aC (.int g),aD,aD] ⟨h.n,h.n,h.os⟩=exs (run F (k+3)) iL [aC (.ref d),aC (.int co),aC (.int wd),aC (.int g),aC (.int dU),aC w5] h3->
  ∃w h',fin h (exs (run F (k+3)) o9.body [aC (.ref d),aC (.int co),aC (.int wd),aC (.int g),aD,aD] ⟨h.n,h.n,h.os⟩)=.ok w h'/\cA w co wd g=true/\Dk h' d c (b+5)/\bx h h' d c:=by
  intro w5 h3 R D3 K3 e;obtain⟨w,h4,e4,hm,hh⟩:=tail w5 dU h3 R;have D4:Dk h4 d c (b+5)/\bx ⟨h.n,h.n,h.os⟩ h4 d c:=by rcases hh with rfl|⟨o,rfl⟩;exact⟨D3,K3⟩;exact⟨D3.new,K3.new⟩
  obtain⟨h5,e5,D5,K5⟩:=vg (cl:=run F (k+3)) (fl:=.nx []) (e.trans e4) (.inr ⟨b,D⟩) D4.1 D4.2;exact⟨w,h5,e5,hm,D5,K5⟩
 have O5:=eZ (h:=jd) (o:=.lst [W.str aH,.str dw,.str dD,.str sX,.str aH,.str aH]);have two:∀(x:Str)(j:Int),(if(5:Int)<dU then 5 else dU)=j->dZ [W.str aH,.str dw,.str dD,.str sX,.str aH,.str aH] j=aC (.str x)->∀rest:S,exs (run F (k+3)) (.seq (.set 4 (.call 5 (.cons (.var 0) (.cons (.cst (.int (10))) .nil)))) (.seq (.set 5 (.idx (.lst (.cons (.cst (.str aH)) (.cons (.cst (.str dw)) (.cons (.cst (.str dD)) (.cons (.cst (.str sX)) (.cons (.cst (.str aH)) (.cons (.cst (.str aH)) .nil))))))) (.bi .min (.cons (.var 4) (.cons (.cst (.int (5))) .nil))))) rest)) [aC (.ref d),aC (.int co),aC (.int wd),aC (.int g),aD,aD] ⟨h.n,h.n,h.os⟩ =
  exs (run F (k+3)) rest [aC (.ref d),aC (.int co),aC (.int wd),aC (.int g),aC (.int dU),aC (.str x)] (jd.new (.lst [W.str aH,.str dw,.str dD,.str sX,.str aH,.str aH])):=by
  intro x j hj ha rest;refine(aU (ρ':=[aC (.ref d),aC (.int co),aC (.int wd),aC (.int g),aC (.int dU),aD]) (h':=jd) (by simp[exs,ev,e1])).trans ?_;refine aU ?_;by_cases q:(5:Int)<dU;rw[if_pos q]at hj;subst hj;simp[exs,ev,iV,kR,q,bq,O5,ha];rw[if_neg q]at hj;subst hj;simp[exs,ev,iV,kR,q,bq,O5,ha]
 have low:∀(x:Str),dU<=3->dZ [W.str aH,.str dw,.str dD,.str sX,.str aH,.str aH] dU=aC (.str x)->Raw g (.str x)->_:=λx hl ha R=>done (.str x) (jd.new (.lst [W.str aH,.str dw,.str dD,.str sX,.str aH,.str aH])) R (D1.new.mono (by lia)) K1.new (by
  refine(two x dU (if_neg (by lia)) ha _).trans ?_;have n1:¬(4<dU):=by lia
  have n2:¬(dU=4):=by lia
  refine(aU (ρ':=[aC (.ref d),aC (.int co),aC (.int wd),aC (.int g),aC (.int dU),aC (.str x)]) (h':=jd.new (.lst [W.str aH,.str dw,.str dD,.str sX,.str aH,.str aH])) (by simp[exs,ev,aX,eX,n1])).trans ?_;refine(aU (ρ':=[aC (.ref d),aC (.int co),aC (.int wd),aC (.int g),aC (.int dU),aC (.str x)]) (h':=jd.new (.lst [W.str aH,.str dw,.str dD,.str sX,.str aH,.str aH])) (by simp[exs,ev,aX,nF,n2])).trans ?_;rfl)
 by_cases l4:dU<=3;have:dU=0\/dU=1\/dU=2\/dU=3:=by lia
 rcases this with z|z|z|z;exact low aH l4 (by rw[z];rfl) .dot;exact low dw l4 (by rw[z];rfl) .lt;exact low dD l4 (by rw[z];rfl) .gt;exact low sX l4 (by rw[z];rfl) .x;by_cases l5:dU=4
 ·-- a blind place,or nothing
  obtain⟨r4,h4,e4,_,_,D4,K4⟩:=take C.toCoreD (k:=k) (m:=4) (D1.new (o:=.lst [W.str aH,.str dw,.str dD,.str sX,.str aH,.str aH])) (by lia) (by decide) (by decide);have n1:¬(4<dU):=by lia
  have s3:∀rest:S,exs (run F (k+3)) (.seq (.ite (.and (.cmp .gt (.var 4) (.cst (.int (4)))) (.cmp .gt (.var 3) (.cst (.int (0))))) (.seq (.set 5 (.tup (.cons (.call 5 (.cons (.var 0) (.cons (.var 3) .nil))) (.cons (.call 5 (.cons (.var 0) (.cons (.cst (.int (2))) .nil))) .nil)))) .skip) .skip) rest) [aC (.ref d),aC (.int co),aC (.int wd),aC (.int g),aC (.int dU),aC (.str aH)] (jd.new (.lst [W.str aH,.str dw,.str dD,.str sX,.str aH,.str aH]))=exs (run F (k+3)) rest [aC (.ref d),aC (.int co),aC (.int wd),aC (.int g),aC (.int dU),aC (.str aH)] (jd.new (.lst [W.str aH,.str dw,.str dD,.str sX,.str aH,.str aH])):=λrest=>aU (by simp[exs,ev,aX,eX,n1]);by_cases r0:r4=0;obtain⟨h5,e5,D5,K5⟩:=vg (cl:=run F (k+3)) (fl:=.nx []) (w:=.str sS) (body:=o9.body) (ρ:=[aC (.ref d),aC (.int co),aC (.int wd),aC (.int g),aD,aD]) (F:=F) (k:=k+3) (h:=h) (h':=h4) (b:=b+5) ((two aH 4 (by rw[l5];rfl) rfl _).trans ((s3 _).trans (dm (by simp[exs,ev,aX,nF,l5,e4,r0])))) (.inr ⟨b,D⟩) (D4.mono (by lia)) (K1.new.trans K4);exact⟨_,h5,e5,Dc,D5,K5⟩;exact done (.str aH) h4 .dot (D4.mono (by lia)) (K1.new.trans K4) ((two aH 4 (by rw[l5];rfl) rfl _).trans ((s3 _).trans (aU (by simp[exs,ev,aX,nF,l5,e4,r0]))))
 ·-- a kZ,if there are groups
  have n1:4<dU:=by lia
  have n2:¬(dU=4):=by lia
  have ha:∃j:Int,(if(5:Int)<dU then 5 else dU)=j/\dZ [W.str aH,.str dw,.str dD,.str sX,.str aH,.str aH] j=aC (.str aH):=⟨5,by split<;>lia,rfl⟩
  obtain⟨j,hj,ha⟩:=ha;by_cases hg:0<g;obtain⟨ra,h4,e4,a0,a1,D4,K4⟩:=take C.toCoreD (k:=k) (m:=g) (D1.new (o:=.lst [W.str aH,.str dw,.str dD,.str sX,.str aH,.str aH])) (by lia) hg (by lia);obtain⟨rb,h5,e5,b0,b1,D5,K5⟩:=take C.toCoreD (k:=k) (m:=2) D4 (by lia) (by decide) (by decide);exact done (.tup [.int ra,.int rb]) h5 (.rk a0 a1 b0 b1) (D5.mono (by lia)) ((K1.new.trans K4).trans K5) ((two aH j hj ha _).trans ((aU (ρ':=[aC (.ref d),aC (.int co),aC (.int wd),aC (.int g),aC (.int dU),aC (.tup [.int ra,.int rb])]) (h':=h5) (by simp[exs,ev,aX,eX,n1,hg,e4,e5])).trans (aU (by simp[exs,ev,aX,nF,n2]))));exact done (.str aH) (jd.new (.lst [W.str aH,.str dw,.str dD,.str sX,.str aH,.str aH])) .dot (D1.new.mono (by lia)) K1.new ((two aH j hj ha _).trans ((aU (ρ':=[aC (.ref d),aC (.int co),aC (.int wd),aC (.int g),aC (.int dU),aC (.str aH)]) (h':=jd.new (.lst [W.str aH,.str dw,.str dD,.str sX,.str aH,.str aH])) (by simp[exs,ev,aX,eX,n1,hg])).trans (aU (by simp[exs,ev,aX,nF,n2]))))
end
noncomputable def tE(P:Int->W->Prop):Int->List W->Prop|_,[]=>True|a,w::r=>P a w/\tE P (a+1) r
theorem O6{P:W->Prop}:∀{ws:List W} {a:Int},tE (λ_ w=>P w) a ws->∀w∈ws,P w
 |[],_,_,w,h=>by cases h
 |x::r,a,⟨h1,h2⟩,w,h=>by
  rcases iQ.mp h with rfl|h;exact h1;exact O6 h2 w h
theorem Kf{cl:Call}{P:Int->W->Prop}{e:E}{tl:En}{d c m lim:Nat}(hs:∀(i:Int) (h:VH) (b:Nat),0<=i->i<lim->Dk h d c b->b+m<1000000000->∃w h',ev cl e (aC (.int i)::tl) h=.ok w h'/\P i w/\Dk h' d c (b+m)/\bx h h' d c) :
 ∀(n:Nat)(a:Int)(x:Option W)(h:VH)(b:Nat),0<=a->a+n<=lim->Dk h d c b->b+m*n<1000000000->
  ∃ws h',gv (bH (.one 0)) (λ_ h=>.ok (.bl true) h) (ev cl e) (jc a n) (x::tl) h=.ok ws h'/\tE P a ws/\ws.length=n/\Dk h' d c (b+m*n)/\bx h h' d c
 |0,a,x,h,b,_,_,D,_=>⟨[],h,rfl,trivial,rfl,by simpa using D,.refl⟩
 |n+1,a,x,h,b,ha,hl,D,hb=>by
  have e1:m* (n+1)=m*n+m:=Nat.mul_succ m n;obtain⟨w,h1,e2,p1,D1,K1⟩:=hs a h b ha (by lia) D (by lia);obtain⟨ws,h2,e3,p2,l2,D2,K2⟩:=Kf hs n (a+1) (aC (.int a)) h1 (b+m) (by lia) (by lia) D1 (by lia);refine⟨w::ws,h2,?_,⟨p1,p2⟩,by rw[eK,l2],D2.mono (by lia),K1.trans K2⟩;simp only[jc,gv,bH,List.set,ev,aE,e2,e3]
theorem qt{n:Nat}(h:n<=1000000):Nat.ble n big=true:=zV.mpr (gu h (by decide))
theorem zs2{cl:Call}{a:E}{ρ:En}{h h1 h2:VH}{n ow:Nat}{ix:List Nat}{e:E}{ys:List W}(ea:ev cl a ρ h=.ok (.tup [.int n]) h1)(hn:n<1000000)(el:gv (bH (.one 0)) (λ_ h=>.ok (.bl true) h) (ev cl e) (jc 0 n) (inner ow ix ρ) h1=.ok ys h2)(hy:ys.length<=1000000) :
 ev cl (.lc .eW a (.one 0) ow ix (.cst (.bl true)) e) ρ h=.ok (.ref h2.n) (h2.new (.lst ys)):=by
 have l:=X7 (n:=n) (tg:=bH (.one 0)) (c:=λ_ h=>.ok (.bl true) h) (e:=ev cl e) (ρ:=inner ow ix ρ) (h:=h1) hn;rw[el]at l;have q:ev cl (.lc .eW a (.one 0) ow ix (.cst (.bl true)) e) ρ h=(ev cl a ρ h).bind λx h=>(gE (bZ .eW x) (bH (.one 0)) (ev cl (.cst (.bl true))) (ev cl e) fuel 0 (inner ow ix ρ) h []).bind λys h=>if Nat.ble ys.length big then .ok (.ref h.n) (h.new (.lst ys))else .no:=by rw[ev]
 rw[q,ea,aE];show(gE (bZ .eW (.tup [.int n])) (bH (.one 0)) (λ_ h=>.ok (.bl true) h) (ev cl e) fuel 0 (inner ow ix ρ) h1 []).bind _=_;rw[l,aE,if_pos (qt hy)]
theorem Kg{cl:Call}{x:E}{ρ:En}{h h1:VH}{i:Nat}{ys:List W}(e:ev cl x ρ h=.ok (.ref i) h1)(g:h1.get i=aC (.lst ys)):ev cl (.bi .tuple (.cons x .nil)) ρ h=.ok (.tup ys) h1:=by simp only[ev,e,aE,iV,wK,aQ,g,qS,bO]
theorem Yx{cl:Call}{a:E}{ρ:En}{h h1 h2:VH}{n ow:Nat}{ix:List Nat}{e:E}{ys:List W}(ea:ev cl a ρ h=.ok (.tup [.int n]) h1)(hn:n<1000000)(el:gv (bH (.one 0)) (λ_ h=>.ok (.bl true) h) (ev cl e) (jc 0 n) (inner ow ix ρ) h1=.ok ys h2)(hy:ys.length<=1000000) :
 ev cl (.bi .tuple (.cons (.lc .eW a (.one 0) ow ix (.cst (.bl true)) e) .nil)) ρ h=.ok (.tup ys) (h2.new (.lst ys)):=Kg (zs2 ea hn el hy) eZ
theorem O7{wd g:Int}:∀{ws:List W} {c:Int},tE (λi w=>cA w i wd g=true) c ws->aV wd g c ws|[],_,_=>trivial|_::_,_,⟨h1,h2⟩=>⟨h1,O7 h2⟩
section
variable{F:Nat->Option Fn}(C:l7 F)
include C
theorem row{k:Nat}{h:VH}{d c b:Nat}{wd:Nat}{g:Int}(D:Dk h d c b)(hb:b+200<1000000000)(h1:wd<=40)(g0:0<=g)(g1:g<=8) :
 ∃ws h',run F (k+5) 25 [.ref d,.int wd,.int g] h=.ok (.tup ws) h'/\ws.length=wd/\aV wd g 0 ws/\Dk h' d c (b+200)/\bx h h' d c:=by
 rw[cQ C.Yv rfl];have D0:Dk ⟨h.n,h.n,h.os⟩ d c b:=D.lo;obtain⟨ws,h2,e2,p2,l2,D2,K2⟩:=Kf (cl:=run F (k+4)) (P:=λi w=>cA w i wd g) (e:=FJ) (tl:=[aC (.ref d),aC (.int g),aC (.int wd)]) (m:=5) (lim:=wd) (λi h b h0 hl D hb=>by
  obtain⟨w,h',e,a1,a2,a3⟩:=piece C (k:=k) (co:=i) (wd:=wd) (g:=g) D hb h0 hl g0 g1;exact⟨w,h',by simp[FJ,ev,e],a1,a2,a3⟩) wd 0 aD ⟨h.n,h.n,h.os⟩ b (by lia) (by lia) D0 (by lia)
 have e3:=Yx (cl:=run F (k+4)) (a:=.cons (.var 1) .nil) (ρ:=[aC (.ref d),aC (.int wd),aC (.int g)]) (h:=⟨h.n,h.n,h.os⟩) (ow:=1) (ix:=[0,2,1]) (e:=FJ) (by simp[ev]) (by lia) e2 (by lia);obtain⟨h5,e5,D5,K5⟩:=vg (cl:=run F (k+4)) (fl:=.nx []) (w:=.tup ws) (body:=sF.body) (ρ:=[aC (.ref d),aC (.int wd),aC (.int g)]) (F:=F) (k:=k+4) (h:=h) (h':=h2.new (.lst ws)) (by simp only[sF,exs,e3,aE]) (.inr ⟨b,D⟩) (D2.new.mono (show _<=b+200 by lia)) K2.new;exact⟨ws,h5,e5,l2,O7 p2,D5,K5⟩
theorem Yy{k:Nat}{d c wd n b:Nat}{g:Int}{h:VH}{x:Option W}(D:Dk h d c b)(hb:b+200*n<1000000000)(h1:wd<=40)(g0:0<=g)(g1:g<=8) :
 ∃(rs:List (List W)) (h':VH),gv (bH (.one 0)) (λ_ h=>.ok (.bl true) h) (ev (run F (k+5)) (.call 25 (.cons (.var 1) (.cons (.var 3) (.cons (.var 2) .nil))))) (jc 0 n) [x,aC (.ref d),aC (.int g),aC (.int wd)] h=.ok (rs.map .tup) h'/\rs.length=n/\(∀r∈rs,(r.length:Int)=wd/\aV wd g 0 r)/\Dk h' d c (b+200*n)/\bx h h' d c:=by
 obtain⟨ws,h',e,p,l,D',K'⟩:=Kf (cl:=run F (k+5)) (P:=λ_ w=>∃r,w=.tup r/\(r.length:Int)=wd/\aV wd g 0 r) (e:=.call 25 (.cons (.var 1) (.cons (.var 3) (.cons (.var 2) .nil)))) (tl:=[aC (.ref d),aC (.int g),aC (.int wd)]) (m:=200) (lim:=n) (λi h b _ _ D hb=>by
  obtain⟨ws,h',e,a1,a2,a3,a4⟩:=row C (k:=k) (wd:=wd) (g:=g) D hb h1 g0 g1;exact⟨.tup ws,h',by simp[ev,e],⟨ws,rfl,by lia,a2⟩,a3,a4⟩) n 0 x h b (by lia) (by lia) D hb
 replace p:=O6 p;have hr:∃rs:List (List W),ws=rs.map .tup/\∀r∈rs,(r.length:Int)=wd/\aV wd g 0 r:=by
  clear e l;induction ws with
  |nil=>exact⟨[],rfl,λr hr=>by cases hr⟩
  |cons w ws ih=>
   obtain⟨rs,e1,e2⟩:=ih λw hw=>p w (eH _ hw);obtain⟨r,e3,e4⟩:=p w fQ;refine⟨r::rs,by rw[e3,e1];rfl,λq hq=>?_⟩;rcases iQ.mp hq with rfl|hq;exact e4;exact e2 q hq
 obtain⟨rs,rfl,hrs⟩:=hr;exact⟨rs,h',e,by rw[<-l,bQ],hrs,D',K'⟩
end
structure Gw(h h':VH):Prop where
 le:h.n<=h'.n
 lo:h'.lo=h.lo
 get:∀i o,h.get i=aC o->h'.get i=aC o
theorem Gw.refl{h:VH}:Gw h h:=⟨aZ _,rfl,λ_ _ e=>e⟩
theorem Gw.trans{h h1 h2:VH}(a:Gw h h1)(b:Gw h1 h2):Gw h h2:=⟨gu a.le b.le,b.lo.trans a.lo,λi o e=>b.get i o (a.get i o e)⟩
theorem Gw.new{h h':VH}{o:VO}(a:Gw h h'):Gw h (h'.new o):=⟨zT a.le,a.lo,λi o' e=>by
 have:=a.get i o' e;rw[ju (dI this)];exact this⟩
theorem tF{h h':VH}{w:W}{n:Nat}(g:Gw ⟨h.n,h.n,h.os⟩ h')(hw:∀m,W.lt m w):fin h (.ok (.rt w) h')=.ok w h:=dj (by rw[g.lo];exact aZ _) (hw _)
theorem Yz{n:Nat}(h:n<=1000000):Nat.blt n big=true:=i8.mpr (Nat.lt_of_le_of_lt h (by decide))
theorem tG{h:VH}{xs ys:List W}(hl:xs.length+ys.length<=1000000):dB .add (.tup xs) (.tup ys) h=.ok (.tup (xs++ys)) h:=by have:E7 .add xs ys=aC (xs++ys):=if_pos (qt hl);simp only[dB,this,qS,bO]
theorem Gf{h:VH}{i j:Nat}{xs ys:List W}(hi:h.get i=aC (.lst xs))(hj:h.get j=aC (.lst ys))(hl:xs.length+ys.length<=1000000):dB .add (.ref i) (.ref j) h=.ok (.ref h.n) (h.new (.lst (xs++ys))):=by have:Iw .add xs ys=aC (xs++ys):=if_pos (qt hl);simp only[dB,hi,hj,this]
theorem rep1{w:W}:∀n:Nat,(aR n [w]).flatten=aR n w|0=>rfl|n+1=>by rw[pU,tW,rep1 n,pU];rfl
theorem vh{h:VH}{w:W}{n:Nat}(hn:n<=1000000):dB .mul (.tup [w]) (.int n) h=.ok (.tup (aR n w)) h:=by
 have hf:fits (n:Int)=true:=by unfold fits;rw[aS,fF,fF];lia
 have:iU .mul [w] n=aC (aR n w):=by
  unfold iU;rw[if_pos (by
   rw[aS];exact⟨hf,qt (by rw[iR,Nat.one_mul,pX];exact hn)⟩)]
  rw[pX,rep1]
 simp only[dB,this,qS,bO]
theorem tH{cl:Call}{e:E}{tl:En}{f:W->W}:∀(ws:List W) (x:Option W) (h:VH),(∀w∈ws,∀h,∃h',ev cl e (aC w::tl) h=.ok (f w) h'/\Gw h h')->∃h',gv (bH (.one 0)) (λ_ h=>.ok (.bl true) h) (ev cl e) ws (x::tl) h=.ok (ws.map f) h'/\Gw h h'
 |[],x,h,_=>⟨h,rfl,.refl⟩
 |w::r,x,h,hs=>by
  obtain⟨h1,e1,g1⟩:=hs w fQ h;obtain⟨h2,e2,g2⟩:=tH r (aC w) h1 λw hw=>hs w (eH _ hw);refine⟨h2,?_,g1.trans g2⟩;simp only[gv,bH,List.set,aE,e1,e2,eS]
theorem Kh{cl:Call}{e:E}{tl:En}{f:W->W}:∀(ws:List W) (x y:Option W) (h:VH),(∀w∈ws,∃a b,w=.tup [a,b]/\∀h,∃h',ev cl e (aC a::aC b::tl) h=.ok (f w) h'/\Gw h h')->∃h',gv (bH (.many [0,1])) (λ_ h=>.ok (.bl true) h) (ev cl e) ws (x::y::tl) h=.ok (ws.map f) h'/\Gw h h'
 |[],x,y,h,_=>⟨h,rfl,.refl⟩
 |w::r,x,y,h,hs=>by
  obtain⟨a,b,rfl,hw⟩:=hs w fQ;obtain⟨h1,e1,g1⟩:=hw h;obtain⟨h2,e2,g2⟩:=Kh r (aC a) (aC b) h1 λw hw=>hs w (eH _ hw);refine⟨h2,?_,g1.trans g2⟩;simp only[gv,bH,aQ,ir,List.set,aE,e1,e2,eS]
theorem Kl{cl:Call}{a:E}{ρ:En}{h h1 h2:VH}{ow:Nat}{ix:List Nat}{e:E}{t:Tg}{ws ys:List W}(ea:ev cl a ρ h=.ok (.tup ws) h1)(hn:ws.length<1000000)(el:gv (bH t) (λ_ h=>.ok (.bl true) h) (ev cl e) ws (inner ow ix ρ) h1=.ok ys h2)(hy:ys.length<=1000000) :
 ev cl (.lc .seq a t ow ix (.cst (.bl true)) e) ρ h=.ok (.ref h2.n) (h2.new (.lst ys)):=by
 have l:=X6 (ws:=ws) (tg:=bH t) (c:=λ_ h=>.ok (.bl true) h) (e:=ev cl e) (ρ:=inner ow ix ρ) (h:=h1) hn;rw[el]at l;have q:ev cl (.lc .seq a t ow ix (.cst (.bl true)) e) ρ h=(ev cl a ρ h).bind λx h=>(gE (bZ .seq x) (bH t) (ev cl (.cst (.bl true))) (ev cl e) fuel 0 (inner ow ix ρ) h []).bind λys h=>if Nat.ble ys.length big then .ok (.ref h.n) (h.new (.lst ys))else .no:=by rw[ev]
 rw[q,ea,aE];show(gE (bZ .seq (.tup ws)) (bH t) (λ_ h=>.ok (.bl true) h) (ev cl e) fuel 0 (inner ow ix ρ) h1 []).bind _=_;rw[l,aE,if_pos (qt hy)]
theorem vj{cl:Call}{a:E}{ρ:En}{h h1 h2:VH}{ow:Nat}{ix:List Nat}{e:E}{t:Tg}{ws ys:List W}(ea:ev cl a ρ h=.ok (.tup ws) h1)(hn:ws.length<1000000)(el:gv (bH t) (λ_ h=>.ok (.bl true) h) (ev cl e) ws (inner ow ix ρ) h1=.ok ys h2)(hy:ys.length<=1000000) :
 ev cl (.bi .tuple (.cons (.lc .seq a t ow ix (.cst (.bl true)) e) .nil)) ρ h=.ok (.tup ys) (h2.new (.lst ys)):=Kg (Kl ea hn el hy) eZ
structure Gl(l:Nat)(h h':VH):Prop where
 le:h.n<=h'.n
 lo:h'.lo=h.lo
 get:∀i o,i≠l->h.get i=aC o->h'.get i=aC o
theorem Gl.refl{l:Nat}{h:VH}:Gl l h h:=⟨aZ _,rfl,λ_ _ _ e=>e⟩
theorem Gl.trans{l:Nat}{h h1 h2:VH}(a:Gl l h h1)(b:Gl l h1 h2):Gl l h h2:=⟨gu a.le b.le,b.lo.trans a.lo,λi o n e=>b.get i o n (a.get i o n e)⟩
theorem Gw.gl{l:Nat}{h h':VH}(a:Gw h h'):Gl l h h':=⟨a.le,a.lo,λi o _ e=>a.get i o e⟩
theorem Gl.set{l:Nat}{h h':VH}{o o0:VO}(a:Gl l h h')(g:h'.get l=aC o0)(hl:h.lo<=l):Gl l h (h'.set l o):=by refine⟨a.le,?_,λi o' n e=>by rw[vf g n];exact a.get i o' n e⟩;show(if Nat.blt l h'.lo then l else h'.lo)=h.lo;rw[if_neg (λz=>by have:=i8.mp z;rw[a.lo]at this;lia)];exact a.lo
theorem Gg{cl:Call}{i l:Nat}{x:E}{ρ:En}{h h1:VH}{w:W}{acc Km:List W}(Ko:ρ[i]?=aC (aC (.ref l)))(g0:h.get l=aC (.lst Km))(e:ev cl x ρ h=.ok w h1)(g:h1.get l=aC (.lst acc))(hl:acc.length<=1000000) :
 ev cl (.mt .append (.var i) (.cons x .nil)) ρ h=.ok .aN (h1.set l (.lst (acc++[w]))):=by
 have hk:Bv .append h (.ref l)=true:=by simp only[Bv,g0]
 have hm:wL .append (.ref l) [w] h1=.ok .aN (h1.set l (.lst (acc++[w]))):=by simp only[wL,g];rw[if_pos (Yz hl)]
 simp only[ev,Ko,mE,bO,aE,hk,dH,e,hm]
noncomputable def bV(by_:Int)(w:W):W:=match w with|.tup [.int a,b]=>.tup [.int (a+by_),b]|w=>w
noncomputable def fk(n:Int)(w:W):W:=match w with|.int i=>if i<n then .int i else .aN|_=>.aN
noncomputable def bM(n:Int)(w:W):W:=match w with|.tup [a,b]=>.tup [a,fk n b]|w=>w
noncomputable def qw(A B:Bd):Bd:=⟨A.wd,A.gr+B.gr,A.rows++[aR A.wd.toNat (.str aH)]++B.rows.map λr=>r.map (bV A.gr),A.fd,B.dr.map (bM A.fd.length)⟩
theorem O8{w:W}{g:Int}(h:kZ w g):∃a b:Int,w=.tup [.int a,.int b]/\0<=a/\a<g/\0<=b/\b<2:=by
 cases w<;>simp only[kZ]at h<;>try(cases h;done)
 rename_i us;rcases us with _|⟨a,_|⟨b,_|_⟩⟩<;>simp at h
 obtain⟨h1,h2⟩:=h;cases a<;>simp[within]at h1;cases b<;>simp[within]at h2;exact⟨_,_,rfl,by lia,by lia,by lia,by lia⟩
theorem xT{w:W}{c wd g:Int}(h:cA w c wd g):(∃x:Str,PyData.strOk x=true/\w=.str x)\/∃a b:Int,w=.tup [.int a,.int b]/\0<=a/\a<g/\0<=b/\b<2/\0<c/\c<wd-1:=by
 unfold cA at h;split at h;rename_i q;rw[k8]at q;rcases q with q|q
 exact .inl ⟨_,by decide +kernel,pF q⟩;obtain⟨a,b,e,h1⟩:=O8 q;rw[aS,fF,fF]at h;exact .inr ⟨a,b,e,h1.1,h1.2.1,h1.2.2.1,h1.2.2.2,h.1,h.2⟩;split at h;rename_i q;exact .inl ⟨_,by decide +kernel,pF q⟩;split at h;rename_i q;exact .inl ⟨_,by decide +kernel,pF q⟩;rw[k8]at h;rcases h with q|q
 exact .inl ⟨_,by decide +kernel,pF q⟩;exact .inl ⟨_,by decide +kernel,pF q⟩
theorem O9{x:Str}{c wd g g':Int}:cA (.str x) c wd g=cA (.str x) c wd g':=rfl
theorem Pa{w:W}{c wd g a:Int}(ha:0<=a)(h:cA w c wd g):cA (bV a w) c wd (a+g)=true:=by rcases xT h with⟨x,_,rfl⟩|⟨p,q,rfl,h1,h2,h3,h4,h5,h6⟩;exact(O9 (g':=g)).trans h;exact Gd (by lia) (by lia) h3 h4 h5 h6
theorem Pb{w:W}{c wd g b:Int}(hb:0<=b)(h:cA w c wd g):cA w c wd (g+b)=true:=by rcases xT h with⟨x,_,rfl⟩|⟨p,q,rfl,h1,h2,h3,h4,h5,h6⟩;exact(O9 (g':=g)).trans h;exact Gd h1 (by lia) h3 h4 h5 h6
theorem Kp{wd g g':Int}{f:W->W}(hf:∀w c,cA w c wd g=true->cA (f w) c wd g'):∀{ws:List W} {c:Int},aV wd g c ws->aV wd g' c (ws.map f)|[],_,_=>trivial|_::_,_,⟨h1,h2⟩=>⟨hf _ _ h1,Kp hf h2⟩
theorem Pc{wd g g':Int}(hf:∀w c,cA w c wd g=true->cA w c wd g'):∀{ws:List W} {c:Int},aV wd g c ws->aV wd g' c ws|[],_,_=>trivial|_::_,_,⟨h1,h2⟩=>⟨hf _ _ h1,Pc hf h2⟩
theorem Kq{wd g:Int}:∀(n:Nat) (c:Int),aV wd g c (aR n (.str aH))|0,_=>trivial|n+1,c=>⟨Ke,Kq n (c+1)⟩
theorem tK{w:W}{n:Int}(h:door w n):∃(a:Int) (b:W),w=.tup [.int a,b]/\0<=a/\a<=99/\(b=.aN\/∃i:Int,b=.int i/\0<=i/\i<n):=by
 cases w<;>simp only[door]at h<;>try(cases h;done)
 rename_i us;rcases us with _|⟨a,_|⟨b,_|_⟩⟩<;>simp at h
 obtain⟨h1,h2⟩:=h;cases a<;>simp[within]at h1;unfold m9 at h2;cases b<;>simp[within,bL]at h2;exact⟨_,_,rfl,h1.1,h1.2,.inl rfl⟩;exact⟨_,_,rfl,h1.1,h1.2,.inr ⟨_,rfl,by lia,by lia⟩⟩
theorem YA{w:W}{n m:Int}(h:door w n):door (bM m w) m=true:=by obtain⟨a,b,rfl,h1,h2,h3⟩:=tK h;rcases h3 with rfl|⟨i,rfl,h4,h5⟩;simp[bM,fk,door,within,m9,bL,h1,h2];by_cases q:i<m;simp only[bM,fk,if_pos q,door,within,m9,bL,Bool.false_or,aS,fF];lia;simp[bM,fk,if_neg q,door,within,m9,bL,h1,h2]
theorem Gh{A B:Bd}(a:A.Ok)(b:B.Ok)(hw:A.wd=B.wd)(hg:A.gr+B.gr<=8)(hr:A.rows.length+1+B.rows.length<=60):(qw A B).Ok:=by
 have hwn:((A.wd.toNat:Nat):Int)=A.wd:=Int.toNat_of_nonneg (by have:=a.w1;lia);refine⟨a.w1,a.w2,by have:=a.g1;have:=b.g1;show 0<=A.gr+B.gr;lia,hg,?_,?_,a.f1,a.f2,a.f3,?_,?_⟩;show(A.rows++[_]++B.rows.map _).length<=60;simp only[dY,iR,bQ];lia;intro r hr;have hr:r∈A.rows++[aR A.wd.toNat (.str aH)]++B.rows.map λr=>r.map (bV A.gr):=hr;show(r.length:Int)=A.wd/\aV A.wd (A.gr+B.gr) 0 r;rcases pV.mp hr with hr|hr
 rcases pV.mp hr with hr|hr;exact⟨(a.r2 r hr).1,Pc (λw c h=>Pb b.g1 h) (a.r2 r hr).2⟩;rw[Eo.mp hr];exact⟨by rw[iw];exact hwn,Kq _ _⟩;obtain⟨q,hq,rfl⟩:=iS.mp hr;refine⟨by rw[bQ,hw];exact(b.r2 q hq).1,?_⟩;rw[hw];exact Kp (λw c h=>Pa a.g1 h) (b.r2 q hq).2;show((B.dr.map _).length:Int)=A.wd;rw[bQ,hw];exact b.d1;intro w hw;obtain⟨q,hq,rfl⟩:=iS.mp hw;exact YA (b.d2 q hq)
theorem Pd{wd g:Int}{n:Nat}:∀{ws:List W} {c:Int},aV wd g c ws->ws.all (ek (n+2))=true|[],_,_=>rfl|_::_,_,⟨h1,h2⟩=>by rw[kB,C7 h1,Pd h2];rfl
theorem vm{B:Bd}(b:B.Ok):ek 24 B.w=true:=by
 have h1:(B.rows.map W.tup).all (ek 22)=true:=by rw[mC];intro w hw;obtain⟨r,hr,rfl⟩:=iS.mp hw;exact Pd (n:=19) (b.r2 r hr).2
 have h2:B.fd.all (ek 22)=true:=by rw[mC];intro w hw;have:=b.f3 w hw;cases w<;>simp[within]at this;rfl
 have h3:B.dr.all (ek 22)=true:=by rw[mC];intro w hw;obtain⟨a,c,rfl,_,_,h⟩:=tK (b.d2 w hw);rcases h with rfl|⟨i,rfl,_⟩<;>rfl
 show(ek 23 (.int B.wd)&& (ek 23 (.int B.gr)&& (ek 23 (.tup (B.rows.map .tup))&& (ek 23 (.tup B.fd)&& (ek 23 (.tup B.dr)&&true)))))=true;rw[F8,F8,F8,h1,h2,h3];rfl
theorem YB{w:W}{c wd g:Int}(h:cA w c wd g):(w=.str sX/\0<c/\c<wd-1)\/(w=.str dw/\0<c)\/(w=.str dD/\c<wd-1)\/w=.str aH\/w=.str sS\/∃a b:Nat,w=.tup [.int a,.int b]/\(a:Int)<g/\b<2/\0<c/\c<wd-1:=by
 unfold cA at h;split at h;rename_i q;rw[aS,fF,fF]at h;rw[k8]at q;rcases q with q|q
 exact .inl ⟨pF q,h⟩;obtain⟨a,b,rfl,h1,h2,h3,h4⟩:=O8 q;obtain⟨a,rfl⟩:=nv h1;obtain⟨b,rfl⟩:=nv h3;exact .inr (.inr (.inr (.inr (.inr ⟨a,b,rfl,h2,by lia,h⟩))));split at h;rename_i q;exact .inr (.inl ⟨pF q,by simpa using h⟩);split at h;rename_i q;exact .inr (.inr (.inl ⟨pF q,by simpa using h⟩));rw[k8]at h;rcases h with q|q
 exact .inr (.inr (.inr (.inl (pF q))));exact .inr (.inr (.inr (.inr (.inl (pF q)))))
noncomputable def De(wd g:Int)(rs:List (List W)):Prop:=∀r∈rs,(r.length:Int)=wd/\aV wd g 0 r
theorem Pe{cl:Call}{a b:S}{ρ ρ':En}{h h':VH}(e:exs cl a ρ h=.ok (.bk ρ') h'):exs cl (.seq a b) ρ h=.ok (.bk ρ') h':=by simp only[exs,e,aE]
theorem Dg{cl:Call}{i l:Nat}{ρ:En}{h:VH}{ws:List W}(Ko:ρ[i]?=aC (aC (.ref l)))(g:h.get l=aC (.lst ws)):ev cl (.bi .tuple (.cons (.var i) .nil)) ρ h=.ok (.tup ws) h:=by simp only[ev,Ko,mE,bO,aE,iV,wK,aQ,g,qS]
structure je(F:Nat->Option Fn):Prop where
 b:fL F
 zA:F 75=aC j9
 zB:F 76=aC iY
 Kr:F 96=aC pq
 Ks:F 97=aC pA
 Ku:F 98=aC m8
theorem nG{n:Nat}:∀{ws:List W},(∀w∈ws,W.lt n w=true)->W.jK n ws=true|[],_=>by simp|w::r,h=>by rw[cz,h w fQ,nG λw hw=>h w (eH _ hw)];rfl
section
variable{F:Nat->Option Fn}(C:je F)
include C
theorem YC{k:Nat}{h:VH}{w:W}{a c wd g:Int}(hm:cA w c wd g):run F (k+1) 75 [w,.int a] h=.ok (bV a w) h:=by
 rw[cQ C.zA rfl];rcases xT hm with⟨x,_,rfl⟩|⟨p,q,rfl,_⟩
 simp[j9,exs,ev,bV,dj];simp[j9,exs,ev,bV,dj,bH,aQ,ir,dB,eU]
omit C in
theorem vn{wd g:Int}:∀{ws:List W} {c:Int},aV wd g c ws->∀w∈ws,∃c,cA w c wd g=true
 |[],_,_,w,h=>by cases h
 |x::r,c,⟨h1,h2⟩,w,h=>by
  rcases iQ.mp h with rfl|h;exact⟨c,h1⟩;exact vn h2 w h
omit C in
theorem vp{m:Nat}:∀(n:Nat) (w:W),ek n w=true->W.lt m w=true
 |0,_,e=>by cases e
 |n+1,w,e=>by
  cases w<;>simp only[ek]at e<;>try(cases e;done)
  simp;simp;simp;simp;rw[cg];exact nG λw hw=>vp n w (mC.mp e w hw)
theorem YD{k:Nat}{h:VH}{rs:List (List W)}{a wd g:Int}(hl:rs.length<=60)(hr:∀r∈rs,(r.length:Int)<=40/\aV wd g 0 r):run F (k+2) 76 [.tup (rs.map .tup),.int a] h=.ok (.tup ((rs.map λr=>r.map (bV a)).map .tup)) h:=by
 rw[cQ C.zB rfl];obtain⟨h2,e2,g2⟩:=tH (cl:=run F (k+1)) (e:=CZ) (tl:=[aC (.int a)]) (f:=λw=>match w with|.tup r=>.tup (r.map (bV a))|w=>w) (rs.map .tup) aD ⟨h.n,h.n,h.os⟩ (λw hw h=>by
  obtain⟨r,hr',rfl⟩:=iS.mp hw;obtain⟨ve,ho⟩:=hr r hr';obtain⟨h3,e3,g3⟩:=tH (cl:=run F (k+1)) (e:=xJ) (tl:=[aC (.int a)]) (f:=bV a) r aD h (λw hw h=>by
   obtain⟨c,hm⟩:=vn ho w hw;exact⟨h,by simp[xJ,ev,YC C hm],.refl⟩)
  exact⟨_,vj (cl:=run F (k+1)) (a:=.var 0) (ρ:=[aC (.tup r),aC (.int a)]) (h:=h) (h1:=h) (ow:=1) (ix:=[1]) (e:=xJ) (by simp[ev]) (by lia) e3 (by rw[bQ];lia),g3.new⟩)
 have e3:=vj (cl:=run F (k+1)) (a:=.var 0) (ρ:=[aC (.tup (rs.map .tup)),aC (.int a)]) (h:=⟨h.n,h.n,h.os⟩) (h1:=⟨h.n,h.n,h.os⟩) (ow:=1) (ix:=[1]) (e:=CZ) (by simp[ev]) (by rw[bQ];lia) e2 (by rw[bQ,bQ];lia);have e4:(List.map (λw:W=>match w with|.tup r=>W.tup (r.map (bV a))|w=>w) (rs.map W.tup))=(rs.map λr=>r.map (bV a)).map W.tup:=by simp
 rw[e4]at e3;have eb:exs (run F (k+1)) iY.body [aC (.tup (rs.map .tup)),aC (.int a)] ⟨h.n,h.n,h.os⟩=.ok (.rt (.tup ((rs.map λr=>r.map (bV a)).map .tup))) (h2.new (.lst ((rs.map λr=>r.map (bV a)).map .tup))):=by simp only[iY,exs,e3,aE]
 show fin h (exs (run F (k+1)) iY.body [aC (.tup (rs.map .tup)),aC (.int a)] ⟨h.n,h.n,h.os⟩)=_;rw[eb];refine tF (n:=0) g2.new λm=>?_;rw[cg];refine nG λw hw=>?_;obtain⟨r,hr1,rfl⟩:=iS.mp hw;obtain⟨r0,hr2,rfl⟩:=iS.mp hr1;rw[cg];refine nG λw hw=>?_;obtain⟨w0,hw0,rfl⟩:=iS.mp hw;obtain⟨c,hm⟩:=vn (hr r0 hr2).2 w0 hw0;rcases xT hm with⟨x,_,rfl⟩|⟨p,q,rfl,_⟩
 simp[bV];simp[bV]
theorem YE{k:Nat}{h:VH}{w:W}{n:Int}(hw:w=.aN\/∃i:Int,w=.int i):run F (k+1) 97 [w,.int n] h=.ok (fk n w) h:=by
 rw[cQ C.Ks rfl];rcases hw with rfl|⟨i,rfl⟩
 simp[pA,exs,ev,aX,bL,fk,dj];by_cases q:i<n<;>simp[pA,exs,ev,aX,eX,bL,fk,q,dj]
theorem YF{k:Nat}{h:VH}{ds:List W}{n m:Int}(hl:ds.length<=40)(hd:∀w∈ds,door w m):run F (k+2) 98 [.tup ds,.int n] h=.ok (.tup (ds.map (bM n))) h:=by
 rw[cQ C.Ku rfl];obtain⟨h2,e2,g2⟩:=Kh (cl:=run F (k+1)) (e:=FL) (tl:=[aC (.int n)]) (f:=bM n) ds aD aD ⟨h.n,h.n,h.os⟩ (λw hw=>by
  obtain⟨a,b,rfl,_,_,hb⟩:=tK (hd w hw);refine⟨.int a,b,rfl,λh=>⟨h,?_,.refl⟩⟩;have e:=YE C (k:=k) (h:=h) (w:=b) (n:=n) (hb.elim .inl λ⟨i,e,_⟩=>.inr ⟨i,e⟩);simp[FL,ev,e,bM])
 have e3:=vj (cl:=run F (k+1)) (a:=.var 0) (ρ:=[aC (.tup ds),aC (.int n)]) (h:=⟨h.n,h.n,h.os⟩) (h1:=⟨h.n,h.n,h.os⟩) (ow:=2) (ix:=[1]) (e:=FL) (by simp[ev]) (by lia) e2 (by rw[bQ];lia);have eb:exs (run F (k+1)) m8.body [aC (.tup ds),aC (.int n)] ⟨h.n,h.n,h.os⟩=.ok (.rt (.tup (ds.map (bM n)))) (h2.new (.lst (ds.map (bM n)))):=by simp only[m8,exs,e3,aE]
 show fin h (exs (run F (k+1)) m8.body [aC (.tup ds),aC (.int n)] ⟨h.n,h.n,h.os⟩)=_;rw[eb];refine tF (n:=0) g2.new λj=>?_;rw[cg];refine nG λw hw=>?_;obtain⟨w0,hw0,rfl⟩:=iS.mp hw;obtain⟨a,b,rfl,_,_,hb⟩:=tK (hd w0 hw0);rcases hb with rfl|⟨i,rfl,_⟩
 simp[bM,fk];by_cases q:i<n<;>simp[bM,fk,q]
omit C in
theorem YG{cl:Call}{ρ:En}{h:VH}{w r2:W}{R D M:List W}{g:W}(v2:ρ[2]?=aC (aC w))(v4:ρ[4]?=aC (aC (.tup R)))(v8:ρ[8]?=aC (aC r2))(v3:ρ[3]?=aC (aC g))(e1:dB .mul (.tup [.str aH]) w h=.ok (.tup D) h)(e2:dB .add (.tup R) (.tup [.tup D]) h=.ok (.tup (R++[.tup D])) h)(e3:cl 76 [r2,g] h=.ok (.tup M) h)(e4:dB .add (.tup (R++[.tup D])) (.tup M) h=.ok (.tup (R++[.tup D]++M)) h) :
 exs cl (.set 11 (.op .add (.op .add (.var 4) (.tup (.cons (.op .mul (.tup (.cons (.cst (.str (bK "."))) .nil)) (.var 2)) .nil))) (.call 76 (.cons (.var 8) (.cons (.var 3) .nil))))) ρ h=.ok (.nx (ρ.set 11 (aC (.tup (R++[.tup D]++M))))) h:=by
 have a1:ev cl (.tup (.cons (.cst (.str (bK "."))) .nil)) ρ h=.ok (.tup [.str aH]) h:=rfl;have a2:ev cl (.var 2) ρ h=.ok w h:=by simp only[ev,v2,mE,bO]
 have a4:ev cl (.var 4) ρ h=.ok (.tup R) h:=by simp only[ev,v4,mE,bO]
 have a8:ev cl (.var 8) ρ h=.ok r2 h:=by simp only[ev,v8,mE,bO]
 have a3:ev cl (.var 3) ρ h=.ok g h:=by simp only[ev,v3,mE,bO]
 have b1:ev cl (.op .mul (.tup (.cons (.cst (.str (bK "."))) .nil)) (.var 2)) ρ h=.ok (.tup D) h:=by rw[ev,a1,aE,a2,aE,e1]
 have b2:ev cl (.tup (.cons (.op .mul (.tup (.cons (.cst (.str (bK "."))) .nil)) (.var 2)) .nil)) ρ h=.ok (.tup [.tup D]) h:=by rw[ev,ev,b1,aE];rfl
 have b3:ev cl (.call 76 (.cons (.var 8) (.cons (.var 3) .nil))) ρ h=.ok (.tup M) h:=by simp only[ev,v8,v3,mE,bO,aE,e3]
 rw[exs,ev,ev,a4,aE,b2,aE,e2,aE,b3,aE,e4,aE]
end
section
variable{F:Nat->Option Fn}(C:CoreD F)
include C
theorem Pf{k:Nat}:∀(ns:List Int) (x:Option W) (h:VH),∃cells:List Int,gv (bH (.one 0)) (ev (run F k) uR) (ev (run F k) zev) (ns.map .int) [x] h=.ok (cells.map .int) h/\(∀y∈cells,(0:Int)<=y)/\cells.length<=ns.length
 |[],x,h=>⟨[],rfl,(λy hy=>by cases hy),aZ _⟩
 |n::ns,x,h=>by
  obtain⟨cells,e,h1,h2⟩:=Pf (k:=k) ns (aC (.int n)) h;have MA:((10:Int).natAbs<2 ^ 64):=by decide
  have ec:ev (run F k) uR [aC (.int n)] h=.ok (.bl (decide (1000000000000000000<=(n.natAbs:Int)))) h:=by simp[uR,ev,iV,kQ,dB,eU,aX,eX,Ka]
  have ee:ev (run F k) zev [aC (.int n)] h=.ok (.int (n.natAbs:Int)) h:=by simp[zev,ev,iV,kQ,Ka]
  by_cases q:1000000000000000000<=(n.natAbs:Int)
  refine⟨(n.natAbs:Int)::cells,?_,λy hy=>?_,by rw[eK,eK];lia⟩;simp only[gv,eS,bH,List.set,ec,aE,q,decide_true,ee,e];rcases iQ.mp hy with rfl|hy
  lia;exact h1 y hy;refine⟨cells,?_,h1,by rw[eK];lia⟩;simp only[gv,eS,bH,List.set,ec,aE,q,decide_false,e]
theorem Kv{k:Nat}{h:VH}{ns:List Int}(hl:ns.length<=63):∃h',run F (k+1) 3 [.fz (ns.map .int)] h=.ok (.ref (h.n+1)) h'/\Dk h' (h.n+1) h.n 0:=by
 rw[cQ C.f3 rfl];obtain⟨cells,e,h1,h2⟩:=Pf C (k:=k) ns aD ⟨h.n,h.n,h.os⟩;have l:=zx (nx:=bZ .seq (.fz (ns.map .int))) (tg:=bH (.one 0)) (c:=ev (run F k) uR) (e:=ev (run F k) zev) (ws:=ns.map .int) (λi h=>rfl) fuel 0 [aD] ⟨h.n,h.n,h.os⟩ [] (jG _) (by rw[bQ];unfold fuel;lia);rw[zS,e]at l;have l:gE (bZ .seq (.fz (ns.map .int))) (bH (.one 0)) (ev (run F k) uR) (ev (run F k) zev) fuel 0 [aD] ⟨h.n,h.n,h.os⟩ []=.ok (cells.map .int) ⟨h.n,h.n,h.os⟩:=l;have q:ev (run F k) (.lc .seq (.var 0) (.one 0) 1 [] uR zev) [aC (.fz (ns.map .int))] ⟨h.n,h.n,h.os⟩=.ok (.ref h.n) (VH.new ⟨h.n,h.n,h.os⟩ (.lst (cells.map .int))):=by rw[ev];have:ev (run F k) (.var 0) [aC (.fz (ns.map .int))] ⟨h.n,h.n,h.os⟩=.ok (.fz (ns.map .int)) ⟨h.n,h.n,h.os⟩:=rfl;rw[this,aE];show(gE (bZ .seq (.fz (ns.map .int))) (bH (.one 0)) (ev (run F k) uR) (ev (run F k) zev) fuel 0 [aD] ⟨h.n,h.n,h.os⟩ []).bind _=_;rw[l,aE,if_pos (qt (by rw[bQ];lia))]
 let jd:VH:=VH.new ⟨h.n,h.n,h.os⟩ (.lst (cells.map .int));let o:VO:=.lst [.fz (ns.map .int),.ref h.n,.int 0,.int 0];have eb:exs (run F k) CS.body [aC (.fz (ns.map .int))] ⟨h.n,h.n,h.os⟩=.ok (.rt (.ref (h.n+1))) (jd.new o):=by simp only[CS,exs,ev,aE,bO,yv,mE]at q ⊢;rw[q];rfl
 refine⟨⟨h.n+2,if Nat.ble h.lo h.n then h.lo else h.n,(jd.new o).os⟩,?_,?_⟩;show fin h (exs (run F k) CS.body [aC (.fz (ns.map .int))] ⟨h.n,h.n,h.os⟩)=_;rw[eb];show leave h (.ref (h.n+1)) (jd.new o)=_;unfold leave;rw[if_neg (by
  rw[aS];intro z;have:=z.2;simp only[W.lt]at this;have:=i8.mp this;lia)]
 rfl;refine⟨by lia,ns,cells,0,0,?_,?_,h1,by lia,by lia,by lia,by lia⟩;show VH.get ⟨(jd.new o).n,_,(jd.new o).os⟩ (h.n+1)=_;rw[bR];exact eZ (h:=jd);show VH.get ⟨(jd.new o).n,_,(jd.new o).os⟩ h.n=_;rw[bR,ju (h:=jd) (by show h.n<h.n+1;lia)];exact eZ (h:=⟨h.n,h.n,h.os⟩)
end
noncomputable def dots(wd:Int):List W:=aR wd.toNat (.str aH)
noncomputable def gm(wd:Int)(m:Nat)(rs:List (List W)):List (List W):=rs++aR (m-rs.length) (dots wd)
noncomputable def bP(n:Int)(w:W):W:=match w with|.int i=>.int (i+n)|w=>w
noncomputable def kj(n:Int)(w:W):W:=match w with|.tup [a,b]=>.tup [a,bP n b]|w=>w
noncomputable def dQ(A B:Bd):Nat:=max A.rows.length B.rows.length
noncomputable def jf(A B:Bd):Bd:=
 ⟨A.wd+B.wd,A.gr+B.gr,List.zipWith (· ++ ·) (gm A.wd (dQ A B) A.rows) (gm B.wd (dQ A B) (B.rows.map λr=>r.map (bV A.gr))),A.fd++B.fd.map (bP A.wd),A.dr++B.dr.map (kj A.fd.length)⟩
theorem Pg{w:W}{c wd g:Int}{x y:Int}(hx:0<=x)(hy:0<=y)(h:cA w c wd g):cA w (x+c) (x+wd+y) g=true:=by rcases YB h with⟨rfl,h3,h4⟩|⟨rfl,h3⟩|⟨rfl,h3⟩|rfl|rfl|⟨p,q,rfl,h3,h4,h5,h6⟩;have:cA (.str sX) (x+c) (x+wd+y) g=(decide (0<x+c)&&decide (x+c<x+wd+y-1)):=rfl;rw[this,aS,fF,fF];lia;have:cA (.str dw) (x+c) (x+wd+y) g=decide (x+c>0):=rfl;rw[this,fF];lia;have:cA (.str dD) (x+c) (x+wd+y) g=decide (x+c<x+wd+y-1):=rfl;rw[this,fF];lia;rfl;rfl;exact Gd (by lia) h3 (by lia) (by lia) (by lia) (by lia)
theorem Ph{wd g:Int}:∀{xs ys:List W} {c:Int},aV wd g c xs->aV wd g (c+xs.length) ys->aV wd g c (xs++ys)|[],ys,c,_,h=>by simpa using h|x::xs,ys,c,⟨h1,h2⟩,h=>⟨h1,Ph h2 (by rw[eK]at h;rw[show c+1+ (xs.length:Int)=c+ ((xs.length+1:Nat):Int) by push_cast;lia];exact h)⟩
theorem Kw{wd Gi g g' x:Int}{f:W->W}(hf:∀w c,cA w c wd g=true->cA (f w) (x+c) Gi g'):∀{ws:List W} {c:Int},aV wd g c ws->aV Gi g' (x+c) (ws.map f)|[],_,_=>trivial|_::_,c,⟨h1,h2⟩=>⟨hf _ _ h1,by rw[show x+c+1=x+ (c+1) by lia];exact Kw hf h2⟩
theorem YH{wd:Int}(h:0<=wd):((dots wd).length:Int)=wd:=by unfold dots;rw[iw];exact Int.toNat_of_nonneg h
theorem Dh{wd:Int}{m:Nat}{rs:List (List W)}(h:rs.length<=m):(gm wd m rs).length=m:=by unfold gm;rw[dY,iw];lia
theorem Gj{wd g:Int}{m:Nat}{rs:List (List W)}(h0:0<=wd)(h:De wd g rs):De wd g (gm wd m rs):=by
 intro r hr;rcases pV.mp hr with hr|hr
 exact h r hr;rw[(List.mem_replicate.mp hr).2];exact⟨YH h0,Kq _ _⟩
theorem Pj{α:Type}:∀{xs ys:List (List α)} {r:List α},r∈List.zipWith (· ++ ·) xs ys->∃a∈xs,∃b∈ys,r=a++b
 |[],_,r,h=>by simp at h
 |_::_,[],r,h=>by simp at h
 |x::xs,y::ys,r,h=>by
  rw[List.zipWith_cons_cons]at h;rcases iQ.mp h with rfl|h
  exact⟨x,fQ,y,fQ,rfl⟩;obtain⟨a,ha,b,hb,e⟩:=Pj h;exact⟨a,eH _ ha,b,eH _ hb,e⟩
theorem Pk{B:Bd}(b:B.Ok){a:Int}(ha:0<=a):De B.wd (a+B.gr) (B.rows.map λr=>r.map (bV a)):=by intro r hr;obtain⟨q,hq,rfl⟩:=iS.mp hr;exact⟨by rw[bQ];exact(b.r2 q hq).1,Kp (λw c h=>Pa ha h) (b.r2 q hq).2⟩
theorem YI{w:W}{n m:Int}(hm:0<=m)(h:door w n):door (kj m w) (m+n)=true:=by obtain⟨a,b,rfl,h1,h2,h3⟩:=tK h;rcases h3 with rfl|⟨i,rfl,h4,h5⟩;simp[kj,bP,door,within,m9,bL,h1,h2];simp only[kj,bP,door,within,m9,bL,Bool.false_or,aS,fF];lia
theorem YJ{w:W}{n m:Int}(hm:0<=m)(h:door w n):door w (n+m)=true:=by obtain⟨a,b,rfl,h1,h2,h3⟩:=tK h;rcases h3 with rfl|⟨i,rfl,h4,h5⟩;simp[door,within,m9,bL,h1,h2];simp only[door,within,m9,bL,Bool.false_or,aS,fF];lia
theorem Di{w:W}{a b:Int}(h:within w a b):∃i:Int,w=.int i/\a<=i/\i<=b:=by cases w<;>simp[within]at h;exact⟨_,rfl,h⟩
theorem Dj{A B:Bd}(a:A.Ok)(b:B.Ok)(hw:A.wd+B.wd<=40)(hg:A.gr+B.gr<=8)(hf:A.fd.length+B.fd.length<=4):(jf A B).Ok:=by
 have a1:=a.w1;have b1:=b.w1;have ag:=a.g1;have bg:=b.g1;have ar:=a.r1;have br:=b.r1;have af:=a.f1;have hm1:A.rows.length<=dQ A B:=Nat.le_max_left ..;have hm2:B.rows.length<=dQ A B:=Nat.le_max_right ..;have Dl:dQ A B<=60:=Nat.max_le.mpr ⟨ar,br⟩;refine⟨by show 1<=A.wd+B.wd;lia,hw,by show 0<=A.gr+B.gr;lia,hg,?_,?_,?_,?_,?_,?_,?_⟩;show(List.zipWith _ _ _).length<=60;rw[List.length_zipWith,Dh hm1,Dh (by rw[bQ];exact hm2)];lia;intro r hr;obtain⟨x,hx,y,hy,rfl⟩:=Pj (show r∈List.zipWith (· ++ ·) (gm A.wd (dQ A B) A.rows) (gm B.wd (dQ A B) (B.rows.map λr=>r.map (bV A.gr)))from hr);obtain⟨x1,x2⟩:=Gj (g:=A.gr) (by lia) a.r2 x hx;obtain⟨y1,y2⟩:=Gj (by lia) (Pk b a.g1) y hy;refine⟨by show((x++y).length:Int)=A.wd+B.wd;rw[dY];push_cast;lia,Ph ?_ ?_⟩;have:=Kw (f:=id) (x:=0) (Gi:=A.wd+B.wd) (g':=A.gr+B.gr) (λw c h=>by
  have:=Pg (x:=0) (y:=B.wd) (by lia) (by lia) (Pb b.g1 h);rw[show(0:Int)+A.wd+B.wd=A.wd+B.wd by lia]at this;exact this) x2
 show aV (A.wd+B.wd) (A.gr+B.gr) 0 x;simpa using this;have:=Kw (f:=id) (x:=A.wd) (Gi:=A.wd+B.wd) (g':=A.gr+B.gr) (λw c h=>by
  have:=Pg (x:=A.wd) (y:=0) (by lia) (by lia) h;rw[show A.wd+B.wd+0=A.wd+B.wd by lia]at this;exact this) y2
 rw[x1];rw[List.map_id]at this;rw[show(0:Int)+A.wd=A.wd+0 by lia];exact this;show 1<=(A.fd++B.fd.map (bP A.wd)).length;rw[dY];lia;show(A.fd++B.fd.map (bP A.wd)).length<=4;rw[dY,bQ];lia;intro f hf;show within f 0 (A.wd+B.wd-1)=true;rcases pV.mp (show f∈A.fd++B.fd.map (bP A.wd)from hf)with h|h
 obtain⟨i,rfl,i1,i2⟩:=Di (a.f3 f h);simp only[within,aS,fF];lia;obtain⟨q,hq,rfl⟩:=iS.mp h;obtain⟨i,rfl,i1,i2⟩:=Di (b.f3 q hq);simp only[bP,within,aS,fF];lia;show((A.dr++B.dr.map (kj A.fd.length)).length:Int)=A.wd+B.wd;rw[dY,bQ];have:=a.d1;have:=b.d1;push_cast;lia;intro w hw;have e:((jf A B).fd.length:Int)=A.fd.length+B.fd.length:=by show((A.fd++B.fd.map (bP A.wd)).length:Int)=_;rw[dY,bQ];push_cast;rfl
 rw[e];rcases pV.mp (show w∈A.dr++B.dr.map (kj A.fd.length)from hw)with h|h
 exact YJ (by lia) (a.d2 w h);obtain⟨q,hq,rfl⟩:=iS.mp h;exact YI (by lia) (b.d2 q hq)
noncomputable def iM(ws zs:List W):List W:=List.zipWith (λa b=>W.tup [a,b]) ws zs
theorem YK{ws zs:List W}(i:Nat)(h:VH):bZ .zip (.tup [.tup ws,.tup zs]) i h=aC (iM ws zs)[i]?:=by simp only[bZ,aQ,iM,List.getElem?_zipWith];cases ws[i]?<;>cases zs[i]?<;>rfl
theorem YL{cl:Call}{a:E}{ρ:En}{h h1 h2:VH}{ow:Nat}{ix:List Nat}{e:E}{t:Tg}{ws zs ys:List W}(ea:ev cl a ρ h=.ok (.tup [.tup ws,.tup zs]) h1)(hn:(iM ws zs).length<1000000)(el:gv (bH t) (λ_ h=>.ok (.bl true) h) (ev cl e) (iM ws zs) (inner ow ix ρ) h1=.ok ys h2)(hy:ys.length<=1000000) :
 ev cl (.lc .zip a t ow ix (.cst (.bl true)) e) ρ h=.ok (.ref h2.n) (h2.new (.lst ys)):=by
 have l:=zx (nx:=bZ .zip (.tup [.tup ws,.tup zs])) (tg:=bH t) (c:=λ_ h=>.ok (.bl true) h) (e:=ev cl e) (ws:=iM ws zs) (λi h=>YK i h) fuel 0 (inner ow ix ρ) h1 [] (jG _) (by simpa[fuel]using hn);rw[zS,el]at l;have q:ev cl (.lc .zip a t ow ix (.cst (.bl true)) e) ρ h=(ev cl a ρ h).bind λx h=>(gE (bZ .zip x) (bH t) (ev cl (.cst (.bl true))) (ev cl e) fuel 0 (inner ow ix ρ) h []).bind λys h=>if Nat.ble ys.length big then .ok (.ref h.n) (h.new (.lst ys))else .no:=by rw[ev]
 rw[q,ea,aE];show(gE (bZ .zip (.tup [.tup ws,.tup zs])) (bH t) (λ_ h=>.ok (.bl true) h) (ev cl e) fuel 0 (inner ow ix ρ) h1 []).bind _=_;rw[l];show(if Nat.ble ([].reverse++ys).length big then _ else _)=_;rw[List.reverse_nil,mD,if_pos (qt hy)]
theorem YM{cl:Call}{a:E}{ρ:En}{h h1 h2:VH}{ow:Nat}{ix:List Nat}{e:E}{t:Tg}{ws zs ys:List W}(ea:ev cl a ρ h=.ok (.tup [.tup ws,.tup zs]) h1)(hn:(iM ws zs).length<1000000)(el:gv (bH t) (λ_ h=>.ok (.bl true) h) (ev cl e) (iM ws zs) (inner ow ix ρ) h1=.ok ys h2)(hy:ys.length<=1000000) :
 ev cl (.bi .tuple (.cons (.lc .zip a t ow ix (.cst (.bl true)) e) .nil)) ρ h=.ok (.tup ys) (h2.new (.lst ys)):=Kg (YL ea hn el hy) eZ
theorem cR{cl:Call}{o:Op}{a b:E}{ρ:En}{h h1 h2:VH}{x y:W}{r:Res W}(ea:ev cl a ρ h=.ok x h1)(eb:ev cl b ρ h1=.ok y h2)(e:dB o x y h2=r):ev cl (.op o a b) ρ h=r:=by rw[ev,ea,aE,eb,aE,e]
theorem cY{cl:Call}{a:E}{ρ:En}{h h1:VH}{x:W}(ea:ev cl a ρ h=.ok x h1):exs cl (.ret a) ρ h=.ok (.rt x) h1:=by rw[exs,ea,aE]
theorem bU{cl:Call}{i:Nat}{a:E}{ρ:En}{h h1:VH}{x:W}(ea:ev cl a ρ h=.ok x h1):exs cl (.set i a) ρ h=.ok (.nx (ρ.set i (aC x))) h1:=by rw[exs,ea,aE]
theorem aF{cl:Call}{i:Nat}{ρ:En}{h:VH}{x:W}(e:ρ[i]?=aC (aC x)):ev cl (.var i) ρ h=.ok x h:=by rw[ev,e];rfl
theorem ck{cl:Call}{a b:E}{ρ:En}{h h1 h2:VH}{x y z:W}(ea:ev cl a ρ h=.ok x h1)(eb:ev cl b ρ h1=.ok y h2)(e:bq h2 x y=aC z):ev cl (.idx a b) ρ h=.ok z h2:=by rw[ev,ea,aE,eb,aE,e];rfl
theorem gC{cl:Call}{a:E}{ρ:En}{h h1:VH}{x:W}{ws:List W}(ea:ev cl a ρ h=.ok x h1)(e:aQ h1 x=aC ws):ev cl (.bi .len (.cons a .nil)) ρ h=.ok (.int ws.length) h1:=by rw[ev,ev,ea,aE,ev,aE];show fZ [x] h1=_;simp only[fZ,e,bO]
theorem nH{cl:Call}{ρ:En}{h h1 h':VH}{n:Nat}{a:E}{x w:W}(ea:ev cl a ρ h=.ok x h1)(e:cl n [x] h1=.ok w h'):ev cl (.call n (.cons a .nil)) ρ h=.ok w h':=by rw[ev,ev,ea,aE,ev];exact e
theorem vq{cl:Call}{ρ:En}{h h1 h2 h':VH}{n:Nat}{a b:E}{x y w:W}(ea:ev cl a ρ h=.ok x h1)(eb:ev cl b ρ h1=.ok y h2)(e:cl n [x,y] h2=.ok w h'):ev cl (.call n (.cons a (.cons b .nil))) ρ h=.ok w h':=by rw[ev,ev,ea,aE,ev,eb,aE,ev];exact e
theorem qx{cl:Call}{ρ:En}{h h1 h2 h3 h':VH}{n:Nat}{a b c:E}{x y z w:W}(ea:ev cl a ρ h=.ok x h1)(eb:ev cl b ρ h1=.ok y h2)(ec:ev cl c ρ h2=.ok z h3)(e:cl n [x,y,z] h3=.ok w h'):ev cl (.call n (.cons a (.cons b (.cons c .nil)))) ρ h=.ok w h':=by rw[ev,ev,ea,aE,ev,eb,aE,ev,ec,aE,ev];exact e
theorem zC{cl:Call}{ρ:En}{h h1 h2 h3 h4 h':VH}{n:Nat}{a b c d:E}{x y z u w:W}(ea:ev cl a ρ h=.ok x h1)(eb:ev cl b ρ h1=.ok y h2)(ec:ev cl c ρ h2=.ok z h3)(ed:ev cl d ρ h3=.ok u h4)(e:cl n [x,y,z,u] h4=.ok w h'):ev cl (.call n (.cons a (.cons b (.cons c (.cons d .nil))))) ρ h=.ok w h':=by rw[ev,ev,ea,aE,ev,eb,aE,ev,ec,aE,ev,ed,aE,ev];exact e
theorem jg{cl:Call}{a b:E}{ρ:En}{h h1 h2:VH}{x y:W}(ea:ev cl a ρ h=.ok x h1)(eb:ev cl b ρ h1=.ok y h2):ev cl (.tup (.cons a (.cons b .nil))) ρ h=.ok (.tup [x,y]) h2:=by rw[ev,ev,ea,aE,ev,eb,aE,ev];rfl
theorem gH{cl:Call}{a b c d e:E}{ρ:En}{h h1 h2 h3 h4 h5:VH}{x y z u v:W}(ea:ev cl a ρ h=.ok x h1)(eb:ev cl b ρ h1=.ok y h2)(ec:ev cl c ρ h2=.ok z h3)(ed:ev cl d ρ h3=.ok u h4)(ee:ev cl e ρ h4=.ok v h5):ev cl (.tup (.cons a (.cons b (.cons c (.cons d (.cons e .nil)))))) ρ h=.ok (.tup [x,y,z,u,v]) h5:=by rw[ev,ev,ea,aE,ev,eb,aE,ev,ec,aE,ev,ed,aE,ev,ee,aE,ev];rfl
structure gJ(F:Nat->Option Fn):Prop where
 b:fL F
 zA:F 75=aC j9
 zB:F 76=aC iY
 xU:F 120=aC kg
 xV:F 122=aC kh
 xW:F 125=aC jb
section
variable{F:Nat->Option Fn}(C:gJ F)
include C
theorem Pn{k:Nat}{h:VH}{rs:List (List W)}{wd:Int}{m:Nat}(w0:0<=wd)(w1:wd<=40)(hm:rs.length<=m)(O1:m<=60)(hp:∀n,W.jK n (rs.map .tup)):run F (k+1) 122 [.tup (rs.map .tup),.int wd,.int m] h=.ok (.tup ((gm wd m rs).map .tup)) h:=by
 rw[cQ C.xV rfl];obtain⟨wn,rfl⟩:=nv w0;have t1:=vh (h:=⟨h.n,h.n,h.os⟩) (w:=.str aH) (n:=wn) (by lia);have t2:=vh (h:=⟨h.n,h.n,h.os⟩) (w:=.tup (aR wn (.str aH))) (n:=m-rs.length) (by lia);have ed:((m-rs.length:Nat):Int)=(m:Int)- (rs.length:Int):=by lia
 rw[ed]at t2;have t3:=tG (h:=⟨h.n,h.n,h.os⟩) (xs:=rs.map .tup) (ys:=aR (m-rs.length) (.tup (aR wn (.str aH)))) (by simp only[bQ,iw];lia);have ef:(gm (wn:Int) m rs).map W.tup=rs.map .tup++aR (m-rs.length) (.tup (aR wn (.str aH))):=by unfold gm dots;rw[vP,List.map_replicate,pX]
 have a1:ev (run F k) (.tup (.cons (.cst (.str (bK "."))) .nil)) [aC (.tup (rs.map .tup)),aC (.int wn),aC (.int m)] ⟨h.n,h.n,h.os⟩=.ok (.tup [.str aH]) ⟨h.n,h.n,h.os⟩:=rfl;have b1:ev (run F k) (.op .mul (.tup (.cons (.cst (.str (bK "."))) .nil)) (.var 1)) [aC (.tup (rs.map .tup)),aC (.int wn),aC (.int m)] ⟨h.n,h.n,h.os⟩=.ok (.tup (aR wn (.str aH))) ⟨h.n,h.n,h.os⟩:=by exact cR a1 (aF rfl) t1
 have b2:ev (run F k) (.tup (.cons (.op .mul (.tup (.cons (.cst (.str (bK "."))) .nil)) (.var 1)) .nil)) [aC (.tup (rs.map .tup)),aC (.int wn),aC (.int m)] ⟨h.n,h.n,h.os⟩=.ok (.tup [.tup (aR wn (.str aH))]) ⟨h.n,h.n,h.os⟩:=by rw[ev,ev,b1,aE];rfl
 have b3:ev (run F k) (.op .sub (.var 2) (.bi .len (.cons (.var 0) .nil))) [aC (.tup (rs.map .tup)),aC (.int wn),aC (.int m)] ⟨h.n,h.n,h.os⟩=.ok (.int ((m:Int)- (rs.length:Int))) ⟨h.n,h.n,h.os⟩:=by simp[ev,iV,fZ,aQ,dB,eU]
 have eb:exs (run F k) kh.body [aC (.tup (rs.map .tup)),aC (.int wn),aC (.int m)] ⟨h.n,h.n,h.os⟩=.ok (.rt (.tup ((gm (wn:Int) m rs).map .tup))) ⟨h.n,h.n,h.os⟩:=by refine dm (cY ?_);rw[ef];exact cR (aF rfl) (cR b2 b3 t2) t3
 show fin h (exs (run F k) kh.body [aC (.tup (rs.map .tup)),aC (.int wn),aC (.int m)] ⟨h.n,h.n,h.os⟩)=_;rw[eb];refine tF (n:=0) .refl λn=>?_;rw[cg,ef];refine nG λw hw=>?_;rcases pV.mp hw with hw|hw
 exact(by
  have:∀{ws:List W},W.jK n ws=true->∀w∈ws,W.lt n w=true:=by
   intro ws;induction ws with
   |nil=>intro _ w h;cases h
   |cons x r ih=>
    intro h w hw;rw[cz,aS]at h;rcases iQ.mp hw with rfl|hw
    exact h.1;exact ih h.2 w hw
  exact this (hp n) w hw)
 rw[(List.mem_replicate.mp hw).2,cg];exact nG λw hw=>by rw[(List.mem_replicate.mp hw).2];simp
theorem YN{k:Nat}{h:VH}{ds:List W}{n m:Int}(hl:ds.length<=40)(hd:∀w∈ds,door w m):run F (k+1) 125 [.tup ds,.int n] h=.ok (.tup (ds.map (kj n))) h:=by
 rw[cQ C.xW rfl];obtain⟨h2,e2,g2⟩:=Kh (cl:=run F k) (e:=C0) (tl:=[aC (.int n)]) (f:=kj n) ds aD aD ⟨h.n,h.n,h.os⟩ (λw hw=>by
  obtain⟨a,b,rfl,_,_,hb⟩:=tK (hd w hw);refine⟨.int a,b,rfl,λh=>⟨h,?_,.refl⟩⟩;rcases hb with rfl|⟨i,rfl,_⟩;simp[C0,ev,aX,bL,kj,bP];simp[C0,ev,aX,bL,kj,bP,dB,eU])
 have e3:=vj (cl:=run F k) (a:=.var 0) (ρ:=[aC (.tup ds),aC (.int n)]) (h:=⟨h.n,h.n,h.os⟩) (h1:=⟨h.n,h.n,h.os⟩) (ow:=2) (ix:=[1]) (e:=C0) (by simp[ev]) (by lia) e2 (by rw[bQ];lia);have eb:exs (run F k) jb.body [aC (.tup ds),aC (.int n)] ⟨h.n,h.n,h.os⟩=.ok (.rt (.tup (ds.map (kj n)))) (h2.new (.lst (ds.map (kj n)))):=by simp only[jb,exs,e3,aE]
 show fin h (exs (run F k) jb.body [aC (.tup ds),aC (.int n)] ⟨h.n,h.n,h.os⟩)=_;rw[eb];refine tF (n:=0) g2.new λj=>?_;rw[cg];refine nG λw hw=>?_;obtain⟨w0,hw0,rfl⟩:=iS.mp hw;obtain⟨a,b,rfl,_,_,hb⟩:=tK (hd w0 hw0);rcases hb with rfl|⟨i,rfl,_⟩<;>simp[kj,bP]
end
section
variable{F:Nat->Option Fn}(C:gJ F)
include C
theorem YO{k:Nat}{h:VH}{w:W}{a c wd g:Int}(hm:cA w c wd g):run F (k+1) 75 [w,.int a] h=.ok (bV a w) h:=by
 rw[cQ C.zA rfl];rcases xT hm with⟨x,_,rfl⟩|⟨p,q,rfl,_⟩
 simp[j9,exs,ev,bV,dj];simp[j9,exs,ev,bV,dj,bH,aQ,ir,dB,eU]
theorem YQ{k:Nat}{h:VH}{rs:List (List W)}{a wd g:Int}(hl:rs.length<=60)(hr:∀r∈rs,(r.length:Int)<=40/\aV wd g 0 r):run F (k+2) 76 [.tup (rs.map .tup),.int a] h=.ok (.tup ((rs.map λr=>r.map (bV a)).map .tup)) h:=by
 rw[cQ C.zB rfl];obtain⟨h2,e2,g2⟩:=tH (cl:=run F (k+1)) (e:=CZ) (tl:=[aC (.int a)]) (f:=λw=>match w with|.tup r=>.tup (r.map (bV a))|w=>w) (rs.map .tup) aD ⟨h.n,h.n,h.os⟩ (λw hw h=>by
  obtain⟨r,hr',rfl⟩:=iS.mp hw;obtain⟨ve,ho⟩:=hr r hr';obtain⟨h3,e3,g3⟩:=tH (cl:=run F (k+1)) (e:=xJ) (tl:=[aC (.int a)]) (f:=bV a) r aD h (λw hw h=>by
   obtain⟨c,hm⟩:=vn ho w hw;exact⟨h,by simp[xJ,ev,YO C hm],.refl⟩)
  exact⟨_,vj (cl:=run F (k+1)) (a:=.var 0) (ρ:=[aC (.tup r),aC (.int a)]) (h:=h) (h1:=h) (ow:=1) (ix:=[1]) (e:=xJ) (by simp[ev]) (by lia) e3 (by rw[bQ];lia),g3.new⟩)
 have e3:=vj (cl:=run F (k+1)) (a:=.var 0) (ρ:=[aC (.tup (rs.map .tup)),aC (.int a)]) (h:=⟨h.n,h.n,h.os⟩) (h1:=⟨h.n,h.n,h.os⟩) (ow:=1) (ix:=[1]) (e:=CZ) (by simp[ev]) (by rw[bQ];lia) e2 (by rw[bQ,bQ];lia);have e4:(List.map (λw:W=>match w with|.tup r=>W.tup (r.map (bV a))|w=>w) (rs.map W.tup))=(rs.map λr=>r.map (bV a)).map W.tup:=by simp
 rw[e4]at e3;have eb:exs (run F (k+1)) iY.body [aC (.tup (rs.map .tup)),aC (.int a)] ⟨h.n,h.n,h.os⟩=.ok (.rt (.tup ((rs.map λr=>r.map (bV a)).map .tup))) (h2.new (.lst ((rs.map λr=>r.map (bV a)).map .tup))):=by simp only[iY,exs,e3,aE]
 show fin h (exs (run F (k+1)) iY.body [aC (.tup (rs.map .tup)),aC (.int a)] ⟨h.n,h.n,h.os⟩)=_;rw[eb];refine tF (n:=0) g2.new λm=>?_;rw[cg];refine nG λw hw=>?_;obtain⟨r,hr1,rfl⟩:=iS.mp hw;obtain⟨r0,hr2,rfl⟩:=iS.mp hr1;rw[cg];refine nG λw hw=>?_;obtain⟨w0,hw0,rfl⟩:=iS.mp hw;obtain⟨c,hm⟩:=vn (hr r0 hr2).2 w0 hw0;rcases xT hm with⟨x,_,rfl⟩|⟨p,q,rfl,_⟩
 simp[bV];simp[bV]
omit C in
theorem Po{cl:Call}{e:E}{tl:En}{f:W->W->W}:∀(ws zs:List W) (x y:Option W) (h:VH),(∀a∈ws,∀b∈zs,∀h,ev cl e (aC a::aC b::tl) h=.ok (f a b) h)->gv (bH (.many [0,1])) (λ_ h=>.ok (.bl true) h) (ev cl e) (iM ws zs) (x::y::tl) h=.ok (List.zipWith f ws zs) h
 |[],_,x,y,h,_=>rfl
 |_::_,[],x,y,h,_=>rfl
 |a::ws,b::zs,x,y,h,hs=>by
  have e1:=hs a fQ b fQ h;have e2:=Po (e:=e) (tl:=tl) (f:=f) ws zs (aC a) (aC b) h λa' ha b' hb=>hs a' (eH _ ha) b' (eH _ hb);show gv _ _ _ (.tup [a,b]::iM ws zs) _ _=_;simp only[gv,bH,aQ,ir,List.set,aE,e1,e2,List.zipWith_cons_cons]
omit C in
theorem Pp{wd g:Int}{rs:List (List W)}(h:De wd g rs)(n:Nat):W.jK n (rs.map .tup)=true:=nG λw hw=>by
 obtain⟨r,hr,rfl⟩:=iS.mp hw;rw[cg];exact nG λw hw=>by
  obtain⟨c,hm⟩:=vn (h r hr).2 w hw;exact vp 24 w (C7 hm 22)
end
theorem xX{cl:Call}{a lo hi:E}{bl bh:Bool}{ρ:En}{h h1 h2 h3 h4:VH}{x l u w:W}{l' u':Option Int}(ea:ev cl a ρ h=.ok x h1)(el:ev cl lo ρ h1=.ok l h2)(eu:ev cl hi ρ h2=.ok u h3)(pl:cJ bl l=aC l')(pu:cJ bh u=aC u')(e:jr x l' u' h3=.ok w h4):ev cl (.slc a bl lo bh hi) ρ h=.ok w h4:=by rw[ev,ea,aE,el,aE,eu,aE,pl,pu];exact e
theorem vt{cl:Call}{a b:E}{ρ:En}{h h1 h2:VH}{x y:W}(ea:ev cl a ρ h=.ok x h1)(eb:ev cl b ρ h1=.ok y h2):ev cl (.lst (.cons a (.cons b .nil))) ρ h=.ok (.ref h2.n) (h2.new (.lst [x,y])):=by rw[ev,ev,ea,aE,ev,eb,aE,ev];rfl
theorem cP{cl:Call}{c:E}{a b:S}{ρ:En}{h h1:VH}(e:ev cl c ρ h=.ok (.bl false) h1):exs cl (.ite c a b) ρ h=exs cl b ρ h1:=by rw[exs,e];rfl
theorem cZ{cl:Call}{c:E}{a b:S}{ρ:En}{h h1:VH}(e:ev cl c ρ h=.ok (.bl true) h1):exs cl (.ite c a b) ρ h=exs cl a ρ h1:=by rw[exs,e];rfl
theorem Ky{cl:Call}{a:E}{ρ:En}{h h1:VH}{b:Bool}(e:ev cl a ρ h=.ok (.bl b) h1):ev cl (.qc a) ρ h=.ok (.bl b) h1:=by rw[ev,e,aE];rfl
theorem iN{cl:Call}{a:E}{ρ:En}{h h1:VH}{x:W}(ea:ev cl a ρ h=.ok x h1):exs cl (.expr a) ρ h=.ok (.nx ρ) h1:=by rw[exs,ea,aE]
theorem gK{F:Nat->Option Fn}(D':CoreD F){k:Nat}{h:VH}{d c b:Nat}{m:Int}{ρ:En}{x y:E}{vi:Nat}(D:Dk h d c b)(hb:b<1000000000)(hm:0<m)(hm2:m<1073741824)(hx:ev (run F (k+3)) x ρ h=.ok (.ref d) h)(hy:ev (run F (k+3)) y ρ h=.ok (.int m) h) :
 ∃(r:Nat) (h':VH),ev (run F (k+3)) (.call 5 (.cons x (.cons y .nil))) ρ h=.ok (.int r) h'/\(r:Int)<m/\Dk h' d c (b+1)/\bx h h' d c:=by
 obtain⟨r,h',e,r0,r1,D',K'⟩:=take D' (k:=k) (m:=m) D hb hm hm2;obtain⟨n,rfl⟩:=nv r0;exact⟨n,h',vq hx hy e,r1,D',K'⟩
theorem eqT{cl:Call}{a b:E}{ρ:En}{h h1 h2:VH}{w:W}(ea:ev cl a ρ h=.ok w h1)(eb:ev cl b ρ h1=.ok w h2)(p:ek 24 w):ev cl (.cmp .eq a b) ρ h=.ok (.bl true) h2:=by rw[ev,ea,aE,eb,aE];simp only[aX,Yb p,qS,bO]
theorem dW{cl:Call}{a:E}{ρ:En}{h h1:VH}{b:Bool}(ea:ev cl a ρ h=.ok (.bl b) h1):ev cl (.not (.qc a)) ρ h=.ok (.bl (!b)) h1:=by rw[ev,Ky ea,aE]
theorem jM{cl:Call}{a b:E}{ρ:En}{h h1 h2:VH}{r:Bool}(ea:ev cl a ρ h=.ok (.bl false) h1)(eb:ev cl b ρ h1=.ok (.bl r) h2):ev cl (.or a b) ρ h=.ok (.bl r) h2:=by rw[ev,ea,aE];exact eb
theorem Kz{cl:Call}{a b:E}{ρ:En}{h h1 h2:VH}{r:Bool}(ea:ev cl a ρ h=.ok (.bl true) h1)(eb:ev cl b ρ h1=.ok (.bl r) h2):ev cl (.and a b) ρ h=.ok (.bl r) h2:=by rw[ev,ea,aE];exact eb
section
variable{cl:Call}{ρ:En}{h h1 h2 h3 h':VH}{a b r:E}
theorem aW{x:W}{xs:List W}(ea:ev cl a ρ h=.ok x h1)(er:ev cl r ρ h1=.ok (.tup xs) h2):ev cl (.cons a r) ρ h=.ok (.tup (x::xs)) h2:=by rw[ev,ea,aE,er];rfl
theorem xY(ea:ev cl a ρ h=.ok (.bl true) h1):ev cl (.or a b) ρ h=.ok (.bl true) h1:=by rw[ev,ea,aE]
theorem dg:ev cl .nil ρ h=.ok (.tup []) h:=by rw[ev]
theorem aK{w:W}:ev cl (.cst w) ρ h=.ok w h:=by rw[ev]
theorem Dm{ys:List W}(ea:ev cl a ρ h=.ok (.tup ys) h1)(hl:Nat.ble ys.length 1000):ev cl (.lst a) ρ h=.ok (.ref h1.n) (h1.new (.lst ys)):=by rw[ev,ea,aE];show(if Nat.ble ys.length 1000=true then _ else _)=_;rw[if_pos hl]
theorem jC{ys:List W}(ea:ev cl a ρ h=.ok (.tup ys) h1)(hl:Nat.ble ys.length 1000):ev cl (.tup a) ρ h=.ok (.tup ys) h1:=by rw[ev,ea,aE];show(if Nat.ble ys.length 1000=true then _ else _)=_;rw[if_pos hl]
theorem listE{x:W}{ws:List W}(ea:ev cl a ρ h=.ok x h1)(e:aQ h1 x=aC ws):ev cl (.bi .list (.cons a .nil)) ρ h=.ok (.ref h1.n) (h1.new (.lst ws)):=by rw[ev,aW ea dg,aE];show iC [x] h1=_;simp only[iC,e]
theorem YR{ys:List W}{n:Nat}{w:W}(ea:ev cl a ρ h=.ok (.tup ys) h1)(e:cl n ys h1=.ok w h'):ev cl (.call n a) ρ h=.ok w h':=by rw[ev,ea,aE];exact e
variable{f:Nat}{ys:List W}{s t:S}{c:Bool}
theorem Dn{i:Int}(ea:ev cl a ρ h=.ok (.tup ys) h1)(ec:cl f ys h1=.ok (.int i) h2):exs cl (.jq f a c s t) ρ h=.ok (.rt (.int i)) h2:=by rw[exs,ea,aE];show(cl f ys h1).bind _=_;rw[ec];rfl
theorem xZ{x:W}(ea:ev cl a ρ h=.ok (.tup ys) h1)(ec:cl f ys h1=.ok (.tup [x]) h2):exs cl (.jq f a false s t) ρ h=exs cl s ρ h2:=by rw[exs,ea,aE];show(cl f ys h1).bind _=_;rw[ec];rfl
end
noncomputable def jh(ft:Int):S:=(.seq (.ite (.not (.qc (.call 15 (.cons (.var 7) (.cons (.var 6) (.cons (.var 1) (.cons (.var 2) .nil))))))) (.seq (.seq (.expr (.cons (.var 4) (.cons (.var 6) .nil))) (.ret (.cst (.int ft)))) .skip) .skip) .skip)
noncomputable def gM(ft:Int):S:=(.seq (.«for» .mQ (.var 5) (.many [6,7]) (jh ft)) .skip)
noncomputable def tB(nb ft:Int):Fn:=⟨1,8,(.seq (.seq (.ite (.not (.qc (.call 10 (.cons (.var 0) .nil)))) (.seq (.ret (.cst (.int nb))) .skip) .skip) (.seq (.jo [1,2,3] (.slc (.var 0) false (.cst .aN) true (.cst (.int (3))))) (.seq (.«for» .mQ (.var 3) (.many [4,5]) (gM ft)) .skip))) (.ret (.cst (.tup [.aN]))))⟩
section
variable{F:Nat->Option Fn}{a:Nat}{nb ft:Int}(B':fL F)(t0:F a=aC (tB nb ft))
include B' t0
omit B' in
theorem YS{k:Nat}{h:VH}{w:W}(e1:run F (k+6) 10 [w] ⟨h.n,h.n,h.os⟩=.ok (.bl false) ⟨h.n,h.n,h.os⟩):run F (k+7) a [w] h=.ok (.int nb) h:=by rw[cQ t0 rfl];show fin h (exs (run F (k+6)) (tB nb ft).body [aC w,aD,aD,aD,aD,aD,aD,aD] ⟨h.n,h.n,h.os⟩)=_;rw[show exs (run F (k+6)) (tB nb ft).body [aC w,aD,aD,aD,aD,aD,aD,aD] ⟨h.n,h.n,h.os⟩=.ok (.rt (.int nb)) ⟨h.n,h.n,h.os⟩from dm (dm ((cZ (dW (nH (aF rfl) e1))).trans (dm (cY aK))))];exact dj (aZ _) lt_int
omit t0 in
theorem KA{k:Nat}{h:VH}{t rs pl:W}{wd g r0:Int}:∀(ws:List W) (c:Int) (j:Nat) (x y:Option W),c=j->aV wd g c ws->∃x' y',forL (bH (.many [6,7])) (exs (run F (k+4)) (jh ft)) (bI j ws) [aC t,aC (.int wd),aC (.int g),aC rs,aC (.int r0),aC pl,x,y] h =
 .ok (.nx [aC t,aC (.int wd),aC (.int g),aC rs,aC (.int r0),aC pl,x',y']) h
 |[],c,j,x,y,_,_=>⟨x,y,by simp[forL,bI]⟩
 |w::r,c,j,x,y,hc,ho=>by
  obtain⟨h1,h2⟩:=ho;obtain⟨x',y',e⟩:=KA (h:=h) (t:=t) (rs:=rs) (pl:=pl) (k:=k) (wd:=wd) (g:=g) (r0:=r0) r (c+1) (j+1) (aC (.int j)) (aC w) (by rw[hc];push_cast;rfl) h2;refine⟨x',y',?_⟩;have e1:=F9 B' (k:=k) (h:=h) (c:=j) (wd:=wd) (g:=g) (C7 h1 22);rw[<-hc,h1,hc]at e1;have eb:exs (run F (k+4)) (jh ft) [aC t,aC (.int wd),aC (.int g),aC rs,aC (.int r0),aC pl,aC (.int j),aC w] h=.ok (.nx [aC t,aC (.int wd),aC (.int g),aC rs,aC (.int r0),aC pl,aC (.int j),aC w]) h:=
   (aU ((cP (dW (zC (aF rfl) (aF rfl) (aF rfl) (aF rfl) e1))).trans rfl)).trans rfl
  simp only[forL,bI,bH,aQ,ir,List.set,eb,aE,e]
omit t0 in
theorem Pq{k:Nat}{h:VH}{t rs:W}{wd g:Int}:∀(ws:List (List W)) (j:Nat) (x y z u:Option W),(∀r∈ws,(r.length:Int)<1000000/\aV wd g 0 r)->∃x' y' z' u',forL (bH (.many [4,5])) (exs (run F (k+4)) (gM ft)) (bI j (ws.map .tup)) [aC t,aC (.int wd),aC (.int g),aC rs,x,y,z,u] h =
 .ok (.nx [aC t,aC (.int wd),aC (.int g),aC rs,x',y',z',u']) h
 |[],j,x,y,z,u,_=>⟨x,y,z,u,by simp[forL,bI]⟩
 |w::r,j,x,y,z,u,ho=>by
  obtain⟨h1,h2⟩:=ho w fQ;obtain⟨z1,u1,e1⟩:=KA B' (ft:=ft) (k:=k) (h:=h) (t:=t) (rs:=rs) (pl:=.tup w) (wd:=wd) (g:=g) (r0:=j) w 0 0 z u rfl h2;obtain⟨x',y',z',u',e⟩:=Pq (h:=h) (t:=t) (rs:=rs) (k:=k) (wd:=wd) (g:=g) r (j+1) (aC (.int j)) (aC (.tup w)) z1 u1 λq hq=>ho q (eH _ hq);refine⟨x',y',z',u',?_⟩;have eb:exs (run F (k+4)) (gM ft) [aC t,aC (.int wd),aC (.int g),aC rs,aC (.int j),aC (.tup w),z,u] h=.ok (.nx [aC t,aC (.int wd),aC (.int g),aC rs,aC (.int j),aC (.tup w),z1,u1]) h:=by refine(aU (h':=h) ?_).trans rfl;rw[exs,aF (x:=.tup w) rfl,aE,zy (show w.length<1000000 by lia)];exact e1
  simp only[forL,eS,bI,bH,aQ,ir,List.set,eb,aE,e]
theorem Pr{k:Nat}{h:VH}{B:Bd}{fl:Fl}(b:B.qo)(e2:forL (bH (.many [4,5])) (exs (run F (k+6)) (gM ft)) (bI 0 (B.rows.map .tup)) [aC B.w,aC (.int B.wd),aC (.int B.gr),aC (.tup (B.rows.map .tup)),aD,aD,aD,aD] ⟨h.n,h.n,h.os⟩=.ok fl ⟨h.n,h.n,h.os⟩) :
 run F (k+7) a [B.w] h=fin h ((exs (run F (k+6)) .skip [] ⟨h.n,h.n,h.os⟩).bind λ_ h=>match fl with|.nx ρ=>.ok (.rt (.tup [.aN])) h|fl=>.ok fl h):=by
 rw[cQ t0 rfl];have e1:=OY B' (k:=k) (h:=⟨h.n,h.n,h.os⟩) b;have O1:=b.r1;show fin h (exs (run F (k+6)) (tB nb ft).body [aC B.w,aD,aD,aD,aD,aD,aD,aD] ⟨h.n,h.n,h.os⟩)=_;have ef:exs (run F (k+6)) (.«for» .mQ (.var 3) (.many [4,5]) (gM ft)) [aC B.w,aC (.int B.wd),aC (.int B.gr),aC (.tup (B.rows.map .tup)),aD,aD,aD,aD] ⟨h.n,h.n,h.os⟩=.ok fl ⟨h.n,h.n,h.os⟩:=by rw[exs,aF (x:=.tup (B.rows.map .tup)) rfl,aE,zy (by rw[bQ];lia)];exact e2
 have eu:exs (run F (k+6)) (.jo [1,2,3] (.slc (.var 0) false (.cst .aN) true (.cst (.int (3))))) [aC B.w,aD,aD,aD,aD,aD,aD,aD] ⟨h.n,h.n,h.os⟩=.ok (.nx [aC B.w,aC (.int B.wd),aC (.int B.gr),aC (.tup (B.rows.map .tup)),aD,aD,aD,aD]) ⟨h.n,h.n,h.os⟩:=rfl;unfold tB;cases fl with
 |nx ρ=>
  rw[aU ((aU ((cP (dW (nH (aF rfl) e1))).trans rfl)).trans ((aU eu).trans ((aU ef).trans rfl)))];rfl
 |rt w=>
  rw[dm ((aU ((cP (dW (nH (aF rfl) e1))).trans rfl)).trans ((aU eu).trans (dm ef)))];rfl
 |bk ρ=>
  rw[Pe ((aU ((cP (dW (nH (aF rfl) e1))).trans rfl)).trans ((aU eu).trans (Pe ef)))];rfl
 |ct ρ=>
  have:∀{cl:Call}{a b:S}{ρ ρ':En}{h h':VH},exs cl a ρ h=.ok (.ct ρ') h'->exs cl (.seq a b) ρ h=.ok (.ct ρ') h':=λe=>by rw[exs,e];rfl
  rw[this ((aU ((cP (dW (nH (aF rfl) e1))).trans rfl)).trans ((aU eu).trans (this ef)))];rfl
theorem Dp{k:Nat}{h:VH}{B:Bd}(b:B.Ok):run F (k+7) a [B.w] h=.ok (.tup [.aN]) h:=by
 have ve:=b.w2;obtain⟨x',y',z',u',e2⟩:=Pq B' (ft:=ft) (k:=k+2) (h:=⟨h.n,h.n,h.os⟩) (t:=B.w) (rs:=.tup (B.rows.map .tup)) (wd:=B.wd) (g:=B.gr) B.rows 0 aD aD aD aD λr hr=>⟨by have:=(b.r2 r hr).1;lia,(b.r2 r hr).2⟩
 rw[Pr B' t0 b.C6 e2];exact dj (aZ _) (by rw[cg,cz,xM,jA];rfl)
end
section
variable{F:Nat->Option Fn}(B':fL F)
include B'
theorem YT{k:Nat}{h:VH}{w:W}(hk:Kn h w)(q:fR w 5 5=false):run F (k+6) 10 [w] h=.ok (.bl false) h:=by rw[cQ B'.J' rfl];have e1:=pD B'.toCoreA (k:=k+4) (h:=⟨h.n,h.n,h.os⟩) (w:=w) (lo:=5) (hi:=5) (eg.mpr hk);rw[q]at e1;show fin h (exs (run F (k+5)) j8.body [aC w,aD,aD,aD,aD,aD] ⟨h.n,h.n,h.os⟩)=_;rw[show exs (run F (k+5)) j8.body [aC w,aD,aD,aD,aD,aD] ⟨h.n,h.n,h.os⟩=.ok (.rt (.bl false)) ⟨h.n,h.n,h.os⟩from dm ((cZ (dW (qx (aF rfl) aK aK e1))).trans (dm (cY aK)))];exact dj (aZ _) ki
end
noncomputable def zD(t:S)(X:S):S:=.seq (.jo [2,3,4,5] (.slc (.var 0) false (.cst .aN) true (.cst (.int (4))))) (.seq (.jo [6,7,8,9,10] (.var 1)) (.seq (.ite (.cmp .ne (.var 2) (.var 6)) t .skip) X))
noncomputable def zE(X:S):S:=.seq (.set 11 (.op .add (.op .add (.var 4) (.tup (.cons (.op .mul (.tup (.cons (.cst (.str (bK "."))) .nil)) (.var 2)) .nil))) (.call 76 (.cons (.var 8) (.cons (.var 3) .nil))))) (.seq (.set 12 (.op .add (.var 3) (.var 7))) X)
noncomputable def x9(t r:S):S:=.seq (.ite (.or (.cmp .gt (.var 12) (.cst (.int (8)))) (.cmp .gt (.bi .len (.cons (.var 11) .nil)) (.cst (.int (60))))) t .skip) r
noncomputable def Dq(X:S):S:=.seq (.jo [2,3,4,5,6] (.var 0)) (.seq (.jo [7,8,9,10,11] (.var 1)) (.seq (.set 12 (.op .add (.var 2) (.var 7))) (.seq (.set 13 (.op .add (.var 3) (.var 8))) (.seq (.set 14 (.op .add (.var 5) (.bi .tuple (.cons (.lc .seq (.var 10) (.one 0) 1 [2] (.cst (.bl true)) FN) .nil)))) X))))
noncomputable def vv(t r:S):S:=.seq (.ite (.or (.cmp .gt (.var 12) (.cst (.int (40)))) (.or (.cmp .gt (.var 13) (.cst (.int (8)))) (.cmp .gt (.bi .len (.cons (.var 14) .nil)) (.cst (.int (4)))))) t .skip) r
noncomputable def ya(X:S):S:=.seq (.set 15 (.bi .max (.cons (.bi .len (.cons (.var 4) .nil)) (.cons (.bi .len (.cons (.var 9) .nil)) .nil)))) (.seq (.set 16 (.call 122 (.cons (.var 4) (.cons (.var 2) (.cons (.var 15) .nil))))) (.seq (.set 17 (.call 122 (.cons (.call 76 (.cons (.var 9) (.cons (.var 3) .nil))) (.cons (.var 7) (.cons (.var 15) .nil))))) (.seq (.set 18 (.bi .tuple (.cons (.lc .zip (.cons (.var 16) (.cons (.var 17) .nil)) (.many [0,1]) 2 [] (.cst (.bl true)) JW) .nil))) X)))
noncomputable def nc(X:S):S:=.seq (.seq (.jq 710 (.cons (.var 0) .nil) false .skip .skip) (.seq (.jq 710 (.cons (.var 1) .nil) false .skip .skip) X)) (.ret (.cst (.tup [.aN])))
noncomputable def rI(i:Int):S:=.seq (.ret (.cst (.int i))) .skip
noncomputable def KC:Fn:=⟨2,13,nc (zD (rI 128) (zE (x9 (rI 140) (.seq (.ret (.tup (.cons zu .nil))) .skip))))⟩
noncomputable def KD:Fn:=⟨2,19,nc (Dq (vv (rI 140) (ya (.seq (.ret (.tup (.cons uS .nil))) .skip))))⟩
theorem YU:pq=⟨2,13,.seq (.expr (.call 14 (.cons (.var 0) .nil))) (.seq (.expr (.call 14 (.cons (.var 1) .nil))) (zD (.seq .no .skip) (zE (x9 (.seq .no .skip) (.seq (.ret zu) .skip)))))⟩:=rfl
theorem YV:kg=⟨2,19,.seq (.expr (.call 14 (.cons (.var 0) .nil))) (.seq (.expr (.call 14 (.cons (.var 1) .nil))) (Dq (vv (.seq .no .skip) (ya (.seq (.ret uS) .skip)))))⟩:=rfl
noncomputable def nh(A B:Bd):List W:=A.rows.map .tup++[.tup (aR A.wd.toNat (.str aH))]++(B.rows.map λr=>r.map (bV A.gr)).map .tup
noncomputable def kE(A B:Bd)(x y:Option W):En:=[aC A.w,aC B.w,aC (.int A.wd),aC (.int A.gr),aC (.tup (A.rows.map .tup)),aC (.tup A.fd),aC (.int B.wd),aC (.int B.gr),aC (.tup (B.rows.map .tup)),aC (.tup B.fd),aC (.tup B.dr),x,y]
noncomputable def ni:En:=[aD,aD,aD,aD,aD,aD,aD,aD,aD,aD,aD]
noncomputable def pI:En:=[aD,aD,aD,aD,aD,aD,aD,aD,aD,aD,aD,aD,aD,aD,aD,aD,aD]
theorem qy{cl:Call}{a b:E}{ρ:En}{h h1 h2:VH}{i j:Int}(ea:ev cl a ρ h=.ok (.int i) h1)(eb:ev cl b ρ h1=.ok (.int j) h2):ev cl (.cmp .gt a b) ρ h=.ok (.bl (decide (i>j))) h2:=by rw[ev,ea,aE,eb,aE];rfl
theorem KG{cl:Call}{a b:E}{ρ:En}{h h1 h2:VH}{i j:Int}(ea:ev cl a ρ h=.ok (.int i) h1)(eb:ev cl b ρ h1=.ok (.int j) h2):ev cl (.cmp .ne a b) ρ h=.ok (.bl (!decide (i=j))) h2:=by rw[ev,ea,aE,eb,aE];show Res.of (Option.map W.bl (Option.map _ (kO h2 (.int i) (.int j)))) h2=_;rw[nF];rfl
theorem yb{cl:Call}{a b r:S}{ρ:En}{h:VH}(e:exs cl a ρ h=exs cl b ρ h):exs cl (.seq a r) ρ h=exs cl (.seq b r) ρ h:=by rw[exs,exs,e]
theorem gO{cl:Call}{ρ:En}{h:VH}:exs cl .skip ρ h=.ok (.nx ρ) h:=by rw[exs]
section
variable{F:Nat->Option Fn}{k:Nat}{h:VH}{A B:Bd}
theorem Pu{cl:Call}{X:S}{t:S}:exs cl (zD t X) (aC A.w::aC B.w::ni) h=exs cl (.seq (.ite (.cmp .ne (.var 2) (.var 6)) t .skip) X) (kE A B aD aD) h:=by
 have e1:exs cl (.jo [2,3,4,5] (.slc (.var 0) false (.cst .aN) true (.cst (.int (4))))) (aC A.w::aC B.w::ni) h=.ok (.nx [aC A.w,aC B.w,aC (.int A.wd),aC (.int A.gr),aC (.tup (A.rows.map .tup)),aC (.tup A.fd),aD,aD,aD,aD,aD,aD,aD]) h:=by rw[exs,xX (aF rfl) (aK) (aK) (l':=aD) (u':=aC 4) rfl rfl (w:=.tup [.int A.wd,.int A.gr,.tup (A.rows.map .tup),.tup A.fd]) rfl,aE];rfl
 have e2:exs cl (.jo [6,7,8,9,10] (.var 1)) [aC A.w,aC B.w,aC (.int A.wd),aC (.int A.gr),aC (.tup (A.rows.map .tup)),aC (.tup A.fd),aD,aD,aD,aD,aD,aD,aD] h=.ok (.nx (kE A B aD aD)) h:=by rw[exs,aF (x:=B.w) rfl,aE];rfl
 exact(aU e1).trans (aU e2)
theorem YW{cl:Call}{X:S}{i:Int}(hw:A.wd≠B.wd):exs cl (zD (rI i) X) (aC A.w::aC B.w::ni) h=.ok (.rt (.int i)) h:=by rw[Pu];have c:=KG (cl:=cl) (a:=.var 2) (b:=.var 6) (ρ:=kE A B aD aD) (h:=h) (aF rfl) (aF rfl);rw[gq hw]at c;exact dm ((cZ c).trans (dm (cY aK)))
theorem Pw{cl:Call}{X t:S}(hw:A.wd=B.wd):exs cl (zD t X) (aC A.w::aC B.w::ni) h=exs cl X (kE A B aD aD) h:=by rw[Pu];have c:=KG (cl:=cl) (a:=.var 2) (b:=.var 6) (ρ:=kE A B aD aD) (h:=h) (aF rfl) (aF rfl);rw[jD hw]at c;exact aU ((cP c).trans gO)
theorem YX:(nh A B).length=A.rows.length+1+B.rows.length:=by unfold nh;simp only[dY,bQ,iR]
theorem Dr(C:je F)(a:A.Ok)(b:B.Ok){X:S}:exs (run F (k+7)) (zE X) (kE A B aD aD) h=exs (run F (k+7)) X (kE A B (aC (.tup (nh A B))) (aC (.int (A.gr+B.gr)))) h:=by
 obtain⟨wn,hwn⟩:=nv (show 0<=A.wd by have:=a.w1;lia);have ve:=a.w2;have Px:=a.r1;have b60:=b.r1;have YY:=b.w2;have e3:=YD C (k:=k+5) (h:=h) (a:=A.gr) (rs:=B.rows) (wd:=B.wd) (g:=B.gr) b.r1 (λr hr=>⟨by have:=(b.r2 r hr).1;lia,(b.r2 r hr).2⟩);have t1:=vh (h:=h) (w:=.str aH) (n:=wn) (by lia);have t2:=tG (h:=h) (xs:=A.rows.map .tup) (ys:=[.tup (aR wn (.str aH))]) (by simp only[bQ,iR];lia);have t3:=tG (h:=h) (xs:=A.rows.map .tup++[.tup (aR wn (.str aH))]) (ys:=(B.rows.map λr=>r.map (bV A.gr)).map .tup) (by simp only[dY,bQ,iR];lia);have e0:dB .mul (.tup [.str aH]) (.int A.wd) h=.ok (.tup (aR wn (.str aH))) h:=by rw[hwn];exact t1
 have s6:=YG (cl:=run F (k+7)) (ρ:=kE A B aD aD) (h:=h) rfl rfl rfl rfl e0 t2 e3 t3;have hn:A.wd.toNat=wn:=by rw[hwn];rfl
 have s7:exs (run F (k+7)) (.set 12 (.op .add (.var 3) (.var 7))) (kE A B (aC (.tup (nh A B))) aD) h=.ok (.nx (kE A B (aC (.tup (nh A B))) (aC (.int (A.gr+B.gr))))) h:=
  bU (cR (aF (x:=.int A.gr) rfl) (aF (x:=.int B.gr) rfl) rfl)
 refine(aU (s6.trans ?_)).trans (aU s7);unfold nh;rw[hn];rfl
theorem Ds{cl:Call}{t r:S}:exs cl (x9 t r) (kE A B (aC (.tup (nh A B))) (aC (.int (A.gr+B.gr)))) h =
 exs cl (.seq (if A.gr+B.gr<=8/\A.rows.length+1+B.rows.length<=60 then .skip else t) r) (kE A B (aC (.tup (nh A B))) (aC (.int (A.gr+B.gr)))) h:=by
 have c1:=qy (cl:=cl) (a:=.var 12) (b:=.cst (.int 8)) (ρ:=kE A B (aC (.tup (nh A B))) (aC (.int (A.gr+B.gr)))) (h:=h) (aF rfl) aK;have c2:=qy (cl:=cl) (a:=.bi .len (.cons (.var 11) .nil)) (b:=.cst (.int 60)) (ρ:=kE A B (aC (.tup (nh A B))) (aC (.int (A.gr+B.gr)))) (h:=h) (gC (aF rfl) rfl) aK;rw[YX]at c2;unfold x9;by_cases g1:A.gr+B.gr<=8;rw[gq (by lia)]at c1;by_cases g2:A.rows.length+1+B.rows.length<=60;rw[gq (by lia)]at c2;rw[if_pos ⟨g1,g2⟩];exact yb (cP (jM c1 c2));rw[jD (by lia)]at c2;rw[if_neg λz=>g2 z.2];exact yb (cZ (jM c1 c2));rw[jD (by lia)]at c1;rw[if_neg λz=>g1 z.1];exact yb (cZ (xY c1))
theorem Dt(C:je F)(b:B.Ok):ev (run F (k+7)) zu (kE A B (aC (.tup (nh A B))) (aC (.int (A.gr+B.gr)))) h=.ok (qw A B).w h:=by have hd:=b.d1;have YY:=b.w2;have e4:=YF C (k:=k+5) (h:=h) (n:=A.fd.length) (m:=B.fd.length) (by lia) b.d2;have t:=gH (cl:=run F (k+7)) (ρ:=kE A B (aC (.tup (nh A B))) (aC (.int (A.gr+B.gr)))) (h:=h) (a:=.var 2) (b:=.var 12) (c:=.var 11) (d:=.var 5) (e:=.call 98 (.cons (.var 10) (.cons (.bi .len (.cons (.var 5) .nil)) .nil))) (aF rfl) (aF rfl) (aF rfl) (aF rfl) (vq (aF rfl) (gC (aF rfl) rfl) e4);refine t.trans ?_;unfold nh qw Bd.w;simp only[vP,eS,nu]
theorem Du{w u:W}{i:Int}{n m:Nat}{X:S}(hn:F n=aC ⟨2,m,nc X⟩)(e:run F (k+7) 710 [w] ⟨h.n,h.n,h.os⟩=.ok (.int i) ⟨h.n,h.n,h.os⟩):run F (k+8) n [w,u] h=.ok (.int i) h:=by rw[cQ hn rfl];show fin h (exs (run F (k+7)) (nc X) (aC w::aC u::aR (m-2) aD) ⟨h.n,h.n,h.os⟩)=_;rw[show exs (run F (k+7)) (nc X) (aC w::aC u::aR (m-2) aD) ⟨h.n,h.n,h.os⟩=.ok (.rt (.int i)) ⟨h.n,h.n,h.os⟩from dm (dm (Dn (aW (aF rfl) dg) e))];exact dj (aZ _) lt_int
theorem Dv{w u:W}{i:Int}{n m:Nat}{X:S}(hn:F n=aC ⟨2,m,nc X⟩)(e1:run F (k+7) 710 [w] ⟨h.n,h.n,h.os⟩=.ok (.tup [.aN]) ⟨h.n,h.n,h.os⟩)(e:run F (k+7) 710 [u] ⟨h.n,h.n,h.os⟩=.ok (.int i) ⟨h.n,h.n,h.os⟩):run F (k+8) n [w,u] h=.ok (.int i) h:=by rw[cQ hn rfl];show fin h (exs (run F (k+7)) (nc X) (aC w::aC u::aR (m-2) aD) ⟨h.n,h.n,h.os⟩)=_;rw[show exs (run F (k+7)) (nc X) (aC w::aC u::aR (m-2) aD) ⟨h.n,h.n,h.os⟩=.ok (.rt (.int i)) ⟨h.n,h.n,h.os⟩from dm ((aU ((xZ (aW (aF rfl) dg) e1).trans gO)).trans (dm (Dn (aW (aF rfl) dg) e)))];exact dj (aZ _) lt_int
theorem ko{w u r:W}{n m:Nat}{X:S}{h1:VH}(hn:F n=aC ⟨2,m,nc X⟩)(e1:run F (k+7) 710 [w] ⟨h.n,h.n,h.os⟩=.ok (.tup [.aN]) ⟨h.n,h.n,h.os⟩)(e2:run F (k+7) 710 [u] ⟨h.n,h.n,h.os⟩=.ok (.tup [.aN]) ⟨h.n,h.n,h.os⟩)(e:exs (run F (k+7)) X (aC w::aC u::aR (m-2) aD) ⟨h.n,h.n,h.os⟩=.ok (.rt r) h1)(g:Gw ⟨h.n,h.n,h.os⟩ h1)(hr:∀m,W.lt m r):run F (k+8) n [w,u] h=.ok r h:=by rw[cQ hn rfl];show fin h (exs (run F (k+7)) (nc X) (aC w::aC u::aR (m-2) aD) ⟨h.n,h.n,h.os⟩)=_;rw[show exs (run F (k+7)) (nc X) (aC w::aC u::aR (m-2) aD) ⟨h.n,h.n,h.os⟩=.ok (.rt r) h1 from dm ((aU ((xZ (aW (aF rfl) dg) e1).trans gO)).trans ((aU ((xZ (aW (aF rfl) dg) e2).trans gO)).trans e))];exact tF (n:=0) g hr
theorem YZ(C:je F)(t0:F 710=aC (tB 37 56))(f:F 711=aC KC)(a:A.Ok)(b:B.Ok):run F (k+8) 711 [A.w,B.w] h=.ok (if A.wd≠B.wd then .int 128 else if A.gr+B.gr<=8/\A.rows.length+1+B.rows.length<=60 then .tup [(qw A B).w]else .int 140) h:=by
 have e1:=Dp C.b t0 (k:=k) (h:=⟨h.n,h.n,h.os⟩) a;have e2:=Dp C.b t0 (k:=k) (h:=⟨h.n,h.n,h.os⟩) b;by_cases hw:A.wd=B.wd;rw[if_neg (λz=>z hw)];have x:=(Pw (cl:=run F (k+7)) (h:=⟨h.n,h.n,h.os⟩) (X:=zE (x9 (rI 140) (.seq (.ret (.tup (.cons zu .nil))) .skip))) (t:=rI 128) hw).trans ((Dr C (k:=k) a b).trans Ds);by_cases q:A.gr+B.gr<=8/\A.rows.length+1+B.rows.length<=60;rw[if_pos q]at x ⊢;have ok:=Gh a b hw q.1 q.2;have y:=x.trans ((aU gO).trans (dm (cY (jC (aW (Dt C (k:=k) b) dg) rfl))));exact ko f e1 e2 y .refl λm=>by rw[cg,cz,vp 24 _ (vm ok),jA];rfl
 rw[if_neg q]at x ⊢;exact ko f e1 e2 (x.trans (dm (dm (cY aK)))) .refl λm=>lt_int;rw[if_pos hw];exact ko f e1 e2 (YW hw) .refl λm=>lt_int
theorem Y0(C:je F)(a:A.Ok)(b:B.Ok)(hw:A.wd=B.wd)(q:A.gr+B.gr<=8/\A.rows.length+1+B.rows.length<=60):run F (k+8) 96 [A.w,B.w] h=.ok (qw A B).w h:=by rw[cQ C.Kr rfl];have e1:=Ga C.b (k:=k) (h:=⟨h.n,h.n,h.os⟩) a;have e2:=Ga C.b (k:=k) (h:=⟨h.n,h.n,h.os⟩) b;have ok:=Gh a b hw q.1 q.2;have x:=(Pw (cl:=run F (k+7)) (h:=⟨h.n,h.n,h.os⟩) (X:=zE (x9 (.seq .no .skip) (.seq (.ret zu) .skip))) (t:=.seq .no .skip) hw).trans ((Dr C (k:=k) a b).trans Ds);rw[if_pos q]at x;have y:=x.trans ((aU gO).trans (dm (cY (Dt C (k:=k) b))));show fin h (exs (run F (k+7)) pq.body (aC A.w::aC B.w::ni) ⟨h.n,h.n,h.os⟩)=_;rw[YU];rw[show exs (run F (k+7)) (.seq (.expr (.call 14 (.cons (.var 0) .nil))) (.seq (.expr (.call 14 (.cons (.var 1) .nil))) (zD (.seq .no .skip) (zE (x9 (.seq .no .skip) (.seq (.ret zu) .skip)))))) (aC A.w::aC B.w::ni) ⟨h.n,h.n,h.os⟩=.ok (.rt (qw A B).w) ⟨h.n,h.n,h.os⟩from(aU (iN (nH (aF rfl) e1))).trans ((aU (iN (nH (aF rfl) e2))).trans y)];exact tF (n:=0) .refl λm=>vp 24 _ (vm ok)
end
noncomputable def pJ(A B:Bd)(fd x y z u v:Option W):En:=[aC A.w,aC B.w,aC (.int A.wd),aC (.int A.gr),aC (.tup (A.rows.map .tup)),aC (.tup A.fd),aC (.tup A.dr),aC (.int B.wd),aC (.int B.gr),aC (.tup (B.rows.map .tup)),aC (.tup B.fd),aC (.tup B.dr),aC (.int (A.wd+B.wd)),aC (.int (A.gr+B.gr)),fd,x,y,z,u]
noncomputable def gn(A B:Bd):List W:=A.fd++B.fd.map (bP A.wd)
theorem KH{cl:Call}{a b:E}{ρ:En}{h h1 h2:VH}{i j:Int}(ea:ev cl a ρ h=.ok (.int i) h1)(eb:ev cl b ρ h1=.ok (.int j) h2):ev cl (.bi .max (.cons a (.cons b .nil))) ρ h=.ok (.int (if j>i then j else i)) h2:=by simp only[ev,ea,eb,aE];rfl
section
variable{F:Nat->Option Fn}{k:Nat}{h:VH}{A B:Bd}
theorem Dw{cl:Call}{X:S}(a:A.Ok)(b:B.Ok):∃h4,exs cl (Dq X) (aC A.w::aC B.w::pI) h=exs cl X (pJ A B (aC (.tup (gn A B))) aD aD aD aD aD) h4/\Gw h h4:=by
 have e1:exs cl (.jo [2,3,4,5,6] (.var 0)) (aC A.w::aC B.w::pI) h=.ok (.nx [aC A.w,aC B.w,aC (.int A.wd),aC (.int A.gr),aC (.tup (A.rows.map .tup)),aC (.tup A.fd),aC (.tup A.dr),aD,aD,aD,aD,aD,aD,aD,aD,aD,aD,aD,aD]) h:=by rw[exs,aF (x:=A.w) rfl,aE];rfl
 have e2:exs cl (.jo [7,8,9,10,11] (.var 1)) [aC A.w,aC B.w,aC (.int A.wd),aC (.int A.gr),aC (.tup (A.rows.map .tup)),aC (.tup A.fd),aC (.tup A.dr),aD,aD,aD,aD,aD,aD,aD,aD,aD,aD,aD,aD] h=.ok (.nx [aC A.w,aC B.w,aC (.int A.wd),aC (.int A.gr),aC (.tup (A.rows.map .tup)),aC (.tup A.fd),aC (.tup A.dr),aC (.int B.wd),aC (.int B.gr),aC (.tup (B.rows.map .tup)),aC (.tup B.fd),aC (.tup B.dr),aD,aD,aD,aD,aD,aD,aD]) h:=by rw[exs,aF (x:=B.w) rfl,aE];rfl
 obtain⟨h3,e3,g3⟩:=tH (cl:=cl) (e:=FN) (tl:=[aC (.int A.wd)]) (f:=bP A.wd) B.fd aD h (λw hw h=>by
  obtain⟨i,rfl,_⟩:=Di (b.f3 w hw);exact⟨h,by simp[FN,ev,dB,eU,bP],.refl⟩)
 have lf:(B.fd.map (bP A.wd)).length=B.fd.length:=bQ ..;have a4:=a.f2;have b4:=b.f2;have t3:=tG (h:=h3.new (.lst (B.fd.map (bP A.wd)))) (xs:=A.fd) (ys:=B.fd.map (bP A.wd)) (by rw[lf];lia);refine⟨h3.new (.lst (B.fd.map (bP A.wd))),?_,g3.new⟩;refine(aU e1).trans ((aU e2).trans ?_);refine(aU (bU (x:=.int (A.wd+B.wd)) (h1:=h) (cR (aF rfl) (aF rfl) rfl))).trans ?_;refine(aU (bU (x:=.int (A.gr+B.gr)) (h1:=h) (cR (aF rfl) (aF rfl) rfl))).trans ?_;exact(aU (bU (x:=.tup (gn A B)) (h1:=h3.new (.lst (B.fd.map (bP A.wd)))) (cR (aF rfl) (vj (t:=.one 0) (ws:=B.fd) (aF rfl) (by lia) e3 (by rw[lf];lia)) t3)))
theorem Y3:(gn A B).length=A.fd.length+B.fd.length:=by unfold gn;rw[dY,bQ]
theorem Dy{cl:Call}{t r:S}:exs cl (vv t r) (pJ A B (aC (.tup (gn A B))) aD aD aD aD aD) h =
 exs cl (.seq (if A.wd+B.wd<=40/\A.gr+B.gr<=8/\A.fd.length+B.fd.length<=4 then .skip else t) r) (pJ A B (aC (.tup (gn A B))) aD aD aD aD aD) h:=by
 have c1:=qy (cl:=cl) (a:=.var 12) (b:=.cst (.int 40)) (ρ:=pJ A B (aC (.tup (gn A B))) aD aD aD aD aD) (h:=h) (aF rfl) aK;have c2:=qy (cl:=cl) (a:=.var 13) (b:=.cst (.int 8)) (ρ:=pJ A B (aC (.tup (gn A B))) aD aD aD aD aD) (h:=h) (aF rfl) aK;have c3:=qy (cl:=cl) (a:=.bi .len (.cons (.var 14) .nil)) (b:=.cst (.int 4)) (ρ:=pJ A B (aC (.tup (gn A B))) aD aD aD aD aD) (h:=h) (gC (aF rfl) rfl) aK;rw[Y3]at c3;unfold vv;by_cases g0:A.wd+B.wd<=40;rw[gq (by lia)]at c1;by_cases g1:A.gr+B.gr<=8;rw[gq (by lia)]at c2;by_cases g2:A.fd.length+B.fd.length<=4;rw[gq (by lia)]at c3;rw[if_pos ⟨g0,g1,g2⟩];exact yb (cP (jM c1 (jM c2 c3)));rw[jD (by lia)]at c3;rw[if_neg λz=>g2 z.2.2];exact yb (cZ (jM c1 (jM c2 c3)));rw[jD (by lia)]at c2;rw[if_neg λz=>g1 z.2.1];exact yb (cZ (jM c1 (xY c2)));rw[jD (by lia)]at c1;rw[if_neg λz=>g0 z.1];exact yb (cZ (xY c1))
theorem KI(C:gJ F)(a:A.Ok)(b:B.Ok)(hw:A.wd+B.wd<=40)(hg:A.gr+B.gr<=8)(hf:A.fd.length+B.fd.length<=4){X:S}:∃x y z h5,exs (run F (k+7)) (ya X) (pJ A B (aC (.tup (gn A B))) aD aD aD aD aD) h=exs (run F (k+7)) X (pJ A B (aC (.tup (gn A B))) x y z (aC (.tup ((jf A B).rows.map .tup))) aD) h5/\Gw h h5:=by
 have a1:=a.w1;have b1:=b.w1;have ar:=a.r1;have br:=b.r1;have bw:=b.w2;have bd:=b.d1;have ad:=a.d1;have ag:=a.g1;have aw:=a.w2;have hm1:A.rows.length<=dQ A B:=Nat.le_max_left ..;have hm2:B.rows.length<=dQ A B:=Nat.le_max_right ..;have Dl:dQ A B<=60:=Nat.max_le.mpr ⟨ar,br⟩;have Py:De B.wd (A.gr+B.gr) (B.rows.map λr=>r.map (bV A.gr)):=Pk b a.g1;have f1:=Pn C (k:=k+6) (h:=h) (rs:=A.rows) (wd:=A.wd) (m:=dQ A B) (by lia) (by lia) hm1 Dl (λn=>Pp (g:=A.gr) a.r2 n);have m1:=YQ C (k:=k+5) (h:=h) (a:=A.gr) (rs:=B.rows) (wd:=B.wd) (g:=B.gr) b.r1 (λr hr=>⟨by have:=(b.r2 r hr).1;lia,(b.r2 r hr).2⟩);have f2:=Pn C (k:=k+6) (h:=h) (rs:=B.rows.map λr=>r.map (bV A.gr)) (wd:=B.wd) (m:=dQ A B) (by lia) (by lia) (by rw[bQ];exact hm2) Dl (λn=>Pp Py n);have z1:=Po (cl:=run F (k+7)) (e:=JW) (tl:=[]) (f:=λx y=>match x,y with|.tup p,.tup q=>.tup (p++q)|x,_=>x) ((gm A.wd (dQ A B) A.rows).map .tup) ((gm B.wd (dQ A B) (B.rows.map λr=>r.map (bV A.gr))).map .tup) aD aD h (λx hx y hy h=>by
  obtain⟨p,hp,rfl⟩:=iS.mp hx;obtain⟨q,hq,rfl⟩:=iS.mp hy;have lp:=(Gj (g:=A.gr) (by lia) a.r2 p hp).1;have lq:=(Gj (by lia) Py q hq).1;exact cR (aF rfl) (aF rfl) (tG (by lia)))
 have ez:List.zipWith (λx y:W=>match x,y with|.tup p,.tup q=>W.tup (p++q)|x,_=>x) ((gm A.wd (dQ A B) A.rows).map .tup) ((gm B.wd (dQ A B) (B.rows.map λr=>r.map (bV A.gr))).map .tup)=(jf A B).rows.map .tup:=by
  show _=(List.zipWith (· ++ ·) (gm A.wd (dQ A B) A.rows) (gm B.wd (dQ A B) (B.rows.map λr=>r.map (bV A.gr)))).map W.tup;generalize gm A.wd (dQ A B) A.rows=L;generalize gm B.wd (dQ A B) (B.rows.map λr=>r.map (bV A.gr))=R;induction L generalizing R with
  |nil=>rfl
  |cons x L ih=>
   cases R with|nil=>rfl|cons y R=>simp only[eS,List.zipWith_cons_cons,ih]
 rw[ez]at z1;have okr:=(Dj a b hw hg hf).r1;have lz:(iM ((gm A.wd (dQ A B) A.rows).map .tup) ((gm B.wd (dQ A B) (B.rows.map λr=>r.map (bV A.gr))).map .tup)).length<1000000:=by unfold iM;rw[List.length_zipWith,bQ,bQ,Dh hm1,Dh (by rw[bQ];exact hm2)];lia
 have emax:(if(B.rows.length:Int)> (A.rows.length:Int)then(B.rows.length:Int)else(A.rows.length:Int))=(dQ A B:Int):=by unfold dQ;split<;>lia
 refine⟨aC (.int (dQ A B)),aC (.tup ((gm A.wd (dQ A B) A.rows).map .tup)),aC (.tup ((gm B.wd (dQ A B) (B.rows.map λr=>r.map (bV A.gr))).map .tup)),h.new (.lst ((jf A B).rows.map .tup)),?_,Gw.refl.new⟩;refine(aU (ρ':=pJ A B (aC (.tup (gn A B))) (aC (.int (dQ A B))) aD aD aD aD) (h':=h) ?_).trans ?_;rw[<-emax];have q:=bU (cl:=run F (k+7)) (i:=15) (ρ:=pJ A B (aC (.tup (gn A B))) aD aD aD aD aD) (h:=h) (KH (a:=.bi .len (.cons (.var 4) .nil)) (b:=.bi .len (.cons (.var 9) .nil)) (gC (aF rfl) rfl) (gC (aF rfl) rfl));rw[bQ,bQ]at q;exact q;refine(aU (bU (x:=.tup ((gm A.wd (dQ A B) A.rows).map .tup)) (h1:=h) (qx (aF rfl) (aF rfl) (aF rfl) f1))).trans ?_;refine(aU (bU (x:=.tup ((gm B.wd (dQ A B) (B.rows.map λr=>r.map (bV A.gr))).map .tup)) (h1:=h) (qx (vq (aF rfl) (aF rfl) m1) (aF rfl) (aF rfl) f2))).trans ?_;exact aU (bU (x:=.tup ((jf A B).rows.map .tup)) (h1:=h.new (.lst ((jf A B).rows.map .tup))) (YM (h1:=h) (by rfl) lz z1 (by rw[bQ];lia)))
theorem KJ(C:gJ F)(a:A.Ok)(b:B.Ok){x y z:Option W}:ev (run F (k+7)) uS (pJ A B (aC (.tup (gn A B))) x y z (aC (.tup ((jf A B).rows.map .tup))) aD) h=.ok (jf A B).w h:=by have ad:=a.d1;have bd:=b.d1;have aw:=a.w2;have bw:=b.w2;have d1:=YN C (k:=k+6) (h:=h) (ds:=B.dr) (n:=(A.fd.length:Int)) (m:=B.fd.length) (by lia) b.d2;have t5:=tG (h:=h) (xs:=A.dr) (ys:=B.dr.map (kj A.fd.length)) (by rw[bQ];lia);exact gH (aF rfl) (aF rfl) (aF rfl) (aF rfl) (cR (aF rfl) (vq (aF rfl) (gC (aF rfl) rfl) d1) t5)
theorem Pz(C:gJ F)(a:A.Ok)(b:B.Ok){t:S}{r:E}(hq:A.wd+B.wd<=40/\A.gr+B.gr<=8/\A.fd.length+B.fd.length<=4)(f:W->W)(hr:∀ρ h,ev (run F (k+7)) uS ρ h=.ok (jf A B).w h->ev (run F (k+7)) r ρ h=.ok (f (jf A B).w) h):∃h5,exs (run F (k+7)) (Dq (vv t (ya (.seq (.ret r) .skip)))) (aC A.w::aC B.w::pI) h=.ok (.rt (f (jf A B).w)) h5/\Gw h h5:=by obtain⟨h4,e4,g4⟩:=Dw (cl:=run F (k+7)) (h:=h) (X:=vv t (ya (.seq (.ret r) .skip))) a b;obtain⟨x,y,z,h5,e5,g5⟩:=KI C (k:=k) (h:=h4) (X:=.seq (.ret r) .skip) a b hq.1 hq.2.1 hq.2.2;refine⟨h5,e4.trans (Dy.trans ?_),g4.trans g5⟩;rw[if_pos hq];exact(aU gO).trans (e5.trans (dm (cY (hr _ _ (KJ C (k:=k) a b)))))
theorem Y4(C:gJ F)(t0:F 710=aC (tB 37 56))(f:F 712=aC KD)(a:A.Ok)(b:B.Ok):run F (k+8) 712 [A.w,B.w] h=.ok (if A.wd+B.wd<=40/\A.gr+B.gr<=8/\A.fd.length+B.fd.length<=4 then .tup [(jf A B).w]else .int 140) h:=by
 have e1:=Dp C.b t0 (k:=k) (h:=⟨h.n,h.n,h.os⟩) a;have e2:=Dp C.b t0 (k:=k) (h:=⟨h.n,h.n,h.os⟩) b;by_cases q:A.wd+B.wd<=40/\A.gr+B.gr<=8/\A.fd.length+B.fd.length<=4;rw[if_pos q];have ok:=Dj a b q.1 q.2.1 q.2.2;obtain⟨h5,y,g5⟩:=Pz C (k:=k) (h:=⟨h.n,h.n,h.os⟩) (t:=rI 140) (r:=.tup (.cons uS .nil)) a b q (λw=>.tup [w]) λρ h e=>jC (aW e dg) rfl;exact ko f e1 e2 y g5 λm=>by rw[cg,cz,vp 24 _ (vm ok),jA];rfl
 rw[if_neg q];obtain⟨h4,e4,g4⟩:=Dw (cl:=run F (k+7)) (h:=⟨h.n,h.n,h.os⟩) (X:=vv (rI 140) (ya (.seq (.ret (.tup (.cons uS .nil))) .skip))) a b;refine ko f e1 e2 (e4.trans (Dy.trans ?_)) g4 λm=>lt_int;rw[if_neg q];exact dm (dm (cY aK))
theorem Y5(C:gJ F)(a:A.Ok)(b:B.Ok)(q:A.wd+B.wd<=40/\A.gr+B.gr<=8/\A.fd.length+B.fd.length<=4):run F (k+8) 120 [A.w,B.w] h=.ok (jf A B).w h:=by rw[cQ C.xU rfl];have e1:=Ga C.b (k:=k) (h:=⟨h.n,h.n,h.os⟩) a;have e2:=Ga C.b (k:=k) (h:=⟨h.n,h.n,h.os⟩) b;have ok:=Dj a b q.1 q.2.1 q.2.2;obtain⟨h5,y,g5⟩:=Pz C (k:=k) (h:=⟨h.n,h.n,h.os⟩) (t:=.seq .no .skip) (r:=uS) a b q (λw=>w) λρ h e=>e;show fin h (exs (run F (k+7)) kg.body (aC A.w::aC B.w::pI) ⟨h.n,h.n,h.os⟩)=_;rw[YV];rw[show exs (run F (k+7)) (.seq (.expr (.call 14 (.cons (.var 0) .nil))) (.seq (.expr (.call 14 (.cons (.var 1) .nil))) (Dq (vv (.seq .no .skip) (ya (.seq (.ret uS) .skip)))))) (aC A.w::aC B.w::pI) ⟨h.n,h.n,h.os⟩=.ok (.rt (jf A B).w) h5 from(aU (iN (nH (aF rfl) e1))).trans ((aU (iN (nH (aF rfl) e2))).trans y)];exact tF (n:=0) g5 λm=>vp 24 _ (vm ok)
end
structure Dz(F:Nat->Option Fn):Prop where
 yc:F 131=aC kc
 yd:F 704=aC C2
 ye:F 705=aC C3
theorem Gw.DA{h h':VH}{o o0:VO}{p:Nat}(a:Gw h h')(g:h'.get p=aC o0)(hp:h.n<=p)(hl:h.lo<=p):Gw h (h'.set p o):=by refine⟨a.le,?_,λi o' e=>by rw[vf g (λz=>by have:=dI e;lia)];exact a.get i o' e⟩;show(if Nat.blt p h'.lo then p else h'.lo)=h.lo;rw[if_neg (λz=>by have:=i8.mp z;rw[a.lo]at this;lia)];exact a.lo
theorem Y6{w:W}{n:Nat}(hn:n<=1000000):iU .mul [w] n=aC (aR n w):=by
 have hf:fits (n:Int)=true:=by unfold fits;rw[aS,fF,fF];lia
 unfold iU;rw[if_pos (by
  rw[aS];exact⟨hf,qt (by rw[iR,Nat.one_mul,pX];exact hn)⟩)]
 rw[pX,rep1]
theorem PB{h:VH}{xs zs:List W}{m:Int}{i:Nat}{o:Op}(g:h.get i=aC (.lst xs))(e:iU o xs m=aC zs):dB o (.ref i) (.int m) h=.ok (.ref h.n) (h.new (.lst zs)):=by simp only[dB,g,e]
theorem PC{h:VH}{w:W}{n i:Nat}(g:h.get i=aC (.lst [w]))(hn:n<=1000000):dB .mul (.ref i) (.int n) h=.ok (.ref h.n) (h.new (.lst (aR n w))):=
 PB g (Y6 hn)
theorem pK{cl:Call}{a:E}{ρ:En}{h h1:VH}{x:W}(ea:ev cl a ρ h=.ok x h1):ev cl (.lst (.cons a .nil)) ρ h=.ok (.ref h1.n) (h1.new (.lst [x])):=by rw[ev,ev,ea,aE,ev];rfl
theorem PD{a b i j:Nat}{ws zs:List W}{l u:Option Int}{h:VH}(ga:h.get a=aC (.lst ws))(gb:h.get b=aC (.lst zs))(hne:a≠b)(hi:HT.bz ws.length 0 l=i)(hu:HT.bz ws.length ws.length u=j)(hij:i<=j)(hb:ws.length+zs.length<=1000000):jt (.ref a) (.ref b) l u h=.ok .aN (h.set a (.lst (ws.take i++zs++ws.drop j))):=by
 have h1:Nat.beq a b=false:=by rw[Ea];exact λz=>hne (tY z)
 have h2:(Nat.ble i j&&Nat.ble (ws.length+zs.length) big)=true:=by rw[aS];exact⟨zV.mpr hij,qt hb⟩
 simp only[jt,ga,gb,h1,hi,hu,h2];rfl
theorem DB{cl:Call}{o lo hi v:E}{bl bh:Bool}{ρ:En}{h h1 h2 h3 h4 h5:VH}{w x l u z:W}{l' u':Option Int}(e1:ev cl v ρ h=.ok w h1)(e2:ev cl o ρ h1=.ok x h2)(e3:ev cl lo ρ h2=.ok l h3)(e4:ev cl hi ρ h3=.ok u h4)(pl:cJ bl l=aC l')(pu:cJ bh u=aC u')(e:jt x w l' u' h4=.ok z h5):exs cl (.rK o bl lo bh hi v) ρ h=.ok (.nx ρ) h5:=by rw[exs,e1,aE,e2,aE,e3,aE,e4,aE,pl,pu];show Res.bind (jt x w l' u' h4) _=_;rw[e,aE]
theorem KL{cl:Call}{a b:E}{ρ:En}{h h1 h2:VH}{i j:Int}(ea:ev cl a ρ h=.ok (.int i) h1)(eb:ev cl b ρ h1=.ok (.int j) h2):ev cl (.cmp .lt a b) ρ h=.ok (.bl (decide (i<j))) h2:=by rw[ev,ea,aE,eb,aE];rfl
noncomputable def l9(wd:Int)(rs:List (List W))(j:Nat):List W:=(rs[j]?).getD (dots wd)
noncomputable def k6(A B:Bd)(j:Nat):List W:=l9 A.wd A.rows j++l9 B.wd (B.rows.map λr=>r.map (bV A.gr)) j
theorem PF{wd:Int}{rs:List (List W)}{m j:Nat}(h:j<m)(hr:rs.length<=m):(gm wd m rs)[j]?=aC (l9 wd rs j):=by unfold gm l9;rw[List.getElem?_append];split;rename_i q;rw[k9 q];rfl;rename_i q;rw[Ei,if_pos (by lia),tU (by lia)];rfl
theorem Y7(A B:Bd):(jf A B).rows=(List.range (dQ A B)).map (k6 A B):=by
 have hm1:A.rows.length<=dQ A B:=Nat.le_max_left ..;have hm2:(B.rows.map λr=>r.map (bV A.gr)).length<=dQ A B:=by rw[bQ];exact Nat.le_max_right ..
 apply List.ext_getElem?;intro j;show(List.zipWith (· ++ ·) (gm A.wd (dQ A B) A.rows) (gm B.wd (dQ A B) (B.rows.map λr=>r.map (bV A.gr))))[j]?=_;by_cases q:j<dQ A B;rw[List.getElem?_zipWith,PF q hm1,PF q hm2,mz,List.getElem?_range q];rfl;rw[tU,tU];rw[bQ,List.length_range];lia;rw[List.length_zipWith,Dh hm1];lia
theorem Y8(n:Nat):jc 0 n=(List.range n).map λ(j:Nat)=>W.int (j:Int):=by apply List.ext_getElem?;intro i;rw[F7,mz];by_cases q:i<n;rw[if_pos q,List.getElem?_range q];simp;rw[if_neg q,tU (by rw[List.length_range];lia)];rfl
theorem KN{cl:Call}{a:E}{ρ:En}{h h1:VH}{x:W}(ea:ev cl a ρ h=.ok x h1):ev cl (.cons a .nil) ρ h=.ok (.tup [x]) h1:=by simp only[ev,ea,aE]
theorem Y9{cl:Call}{A:Bd}{wB:W}{q:Nat}{x2 x3 x4 x8:Option W}{p i:Int}{h:VH}{acc:List W}(g:h.get q=aC (.lst acc))(hl:acc.length<=1000) :
 exs cl FU [aC A.w,aC wB,x2,x3,x4,aC (.ref q),aC (.int p),aC (.int i),x8] h=.ok (.nx [aC A.w,aC wB,x2,x3,x4,aC (.ref q),aC (.int p),aC (.int i),x8]) (h.set q (.lst (acc++[kj A.fd.length (.tup [.int p,.int i])]))):=by
 have A3:bq h A.w (.int 3)=aC (.tup A.fd):=rfl;have s2:=iN (Gg (cl:=cl) (i:=5) (ρ:=[aC A.w,aC wB,x2,x3,x4,aC (.ref q),aC (.int p),aC (.int i),x8]) (x:=.tup (.cons (.var 6) (.cons (.op .add (.var 7) (.bi .len (.cons (.idx (.var 0) (.cst (.int (3)))) .nil))) .nil))) rfl g (jg (aF rfl) (cR (aF rfl) (gC (ck (aF rfl) rfl A3) rfl) rfl)) g (by lia));exact(aU s2).trans rfl
theorem PJ{cl:Call}{A:Bd}{wB:W}{q:Nat}{x2 x3 x4 x8:Option W}:∀(ds:List W) (h:VH) (acc:List W) (x6 x7:Option W),(∀w∈ds,∃p i:Int,w=.tup [.int p,.int i])->h.get q=aC (.lst acc)->h.lo<=q->acc.length+ds.length<=1000->
 ∃Za Zb h',forL (bH (.many [6,7])) (exs cl FU) ds [aC A.w,aC wB,x2,x3,x4,aC (.ref q),x6,x7,x8] h=.ok (.nx [aC A.w,aC wB,x2,x3,x4,aC (.ref q),Za,Zb,x8]) h'/\h'.get q=aC (.lst (acc++ds.map (kj A.fd.length)))/\Gl q h h'
 |[],h,acc,x6,x7,_,g,_,_=>⟨x6,x7,h,rfl,by rw[nu,jj];exact g,.refl⟩
 |w::ds,h,acc,x6,x7,hd,g,hlo,hl=>by
  rw[eK]at hl;obtain⟨p,i,rfl⟩:=hd w fQ;have e1:=Y9 (cl:=cl) (A:=A) (wB:=wB) (q:=q) (x2:=x2) (x3:=x3) (x4:=x4) (x8:=x8) (p:=p) (i:=i) g (by lia);have G1:Gl q h (h.set q (.lst (acc++[kj A.fd.length (.tup [.int p,.int i])]))):=Gl.refl.set g hlo;obtain⟨z6,z7,h2,e2,g2,G2⟩:=PJ (cl:=cl) (A:=A) (wB:=wB) (x2:=x2) (x3:=x3) (x4:=x4) (x8:=x8) ds _ _ (aC (.int p)) (aC (.int i)) (λw hw=>hd w (eH _ hw)) (qp g) (by rw[G1.lo];exact hlo) (by rw[dY,iR];lia);refine⟨z6,z7,h2,?_,?_,G1.trans G2⟩;simp only[forL,bH,aQ,ir,List.set_cons_succ,List.set_cons_zero,e1,aE,e2];rw[g2,eS,List.append_assoc,List.singleton_append]
section
variable{F:Nat->Option Fn}(C:Dz F)
include C
theorem PK{k:Nat}{h:VH}{w:W}{a c wd g:Int}(hm:cA w c wd g):run F (k+1) 131 [w,.int a] h=.ok (bV a w) h:=by
 rw[cQ C.yc rfl];rcases xT hm with⟨x,_,rfl⟩|⟨p,q,rfl,_⟩
 simp[kc,exs,ev,dG,bV,dj];simp[kc,exs,ev,dG,bV,dj,bq,dZ,jI,dB,eU]
theorem Zc{k:Nat}{h:VH}{A B:Bd}{l j:Nat}{x4 x5 x6 x7 x8:Option W}{acc:List W}(a:A.Ok)(b:B.Ok)(g:h.get l=aC (.lst acc))(hlo:h.lo<=l)(hl:acc.length<=1000) :
 ∃KO h',exs (run F (k+1)) FT [aC A.w,aC B.w,aC (.ref l),aC (.int (j:Int)),x4,x5,x6,x7,x8] h=.ok (.nx [aC A.w,aC B.w,aC (.ref l),aC (.int (j:Int)),KO,x5,x6,x7,x8]) h'/\h'.get l=aC (.lst (acc++[.tup (k6 A B j)]))/\Gl l h h':=by
 have a1:=a.w1;have b1:=b.w1;have a2:=a.w2;have b2:=b.w2;obtain⟨wa,KP⟩:=nv (show 0<=A.wd by lia);obtain⟨wb,PL⟩:=nv (show 0<=B.wd by lia);have ll:=dI g;have A0:∀h:VH,bq h A.w (.int 0)=aC (.int wa):=λ_=>by rw[<-KP];rfl
 have B0:∀h:VH,bq h B.w (.int 0)=aC (.int wb):=λ_=>by rw[<-PL];rfl
 have A1:∀h:VH,bq h A.w (.int 1)=aC (.int A.gr):=λ_=>rfl;have A2:∀h:VH,bq h A.w (.int 2)=aC (.tup (A.rows.map .tup)):=λ_=>rfl;have B2:∀h:VH,bq h B.w (.int 2)=aC (.tup (B.rows.map .tup)):=λ_=>rfl;let h0:=h.new (.lst [.str aH]);let h1:=h0.new (.lst (aR (wa+wb) (.str aH)));have hp:h0.n=h.n+1:=rfl;have G1:Gw h h1:=Gw.refl.new.new;have g1:h1.get h0.n=aC (.lst (aR (wa+wb) (.str aH))):=eZ;have s1:exs (run F (k+1)) (.set 4 (.op .mul (.lst (.cons (.cst (.str (bK "."))) .nil)) (.op .add (.idx (.var 0) (.cst (.int (0)))) (.idx (.var 1) (.cst (.int (0))))))) [aC A.w,aC B.w,aC (.ref l),aC (.int (j:Int)),x4,x5,x6,x7,x8] h=.ok (.nx [aC A.w,aC B.w,aC (.ref l),aC (.int (j:Int)),aC (.ref h0.n),x5,x6,x7,x8]) h1:=
  bU (cR (x:=.ref h.n) (y:=.int ((wa+wb:Nat):Int)) (h1:=h0) (h2:=h0) (pK (x:=.str aH) (h1:=h) rfl) (cR (ck (aF rfl) rfl (A0 _)) (ck (aF rfl) rfl (B0 _)) (by show Res.ok (W.int ((wa:Int)+ (wb:Int))) h0=_;rw[<-Int.natCast_add])) (PC eZ (by lia)))
 have s2:∃h2,exs (run F (k+1)) (.ite (.cmp .lt (.var 3) (.bi .len (.cons (.idx (.var 0) (.cst (.int (2)))) .nil))) (.seq (.rK (.var 4) false (.cst .aN) true (.idx (.var 0) (.cst (.int (0)))) (.bi .list (.cons (.idx (.idx (.var 0) (.cst (.int (2)))) (.var 3)) .nil))) .skip) .skip) [aC A.w,aC B.w,aC (.ref l),aC (.int (j:Int)),aC (.ref h0.n),x5,x6,x7,x8] h1=.ok (.nx [aC A.w,aC B.w,aC (.ref l),aC (.int (j:Int)),aC (.ref h0.n),x5,x6,x7,x8]) h2/\h2.get h0.n=aC (.lst (l9 A.wd A.rows j++aR wb (.str aH)))/\Gw h h2:=by
  have c1:ev (run F (k+1)) (.cmp .lt (.var 3) (.bi .len (.cons (.idx (.var 0) (.cst (.int (2)))) .nil))) [aC A.w,aC B.w,aC (.ref l),aC (.int (j:Int)),aC (.ref h0.n),x5,x6,x7,x8] h1=.ok (.bl (decide ((j:Int)< ((A.rows.map W.tup).length:Int)))) h1:=KL (aF rfl) (gC (ck (aF rfl) rfl (A2 _)) rfl);rw[bQ]at c1;by_cases q:j<A.rows.length;rw[jD (by lia)]at c1;have rl:=(a.r2 _ (Ep q)).1;let h2:=h1.new (.lst A.rows[j]);have gp:h2.get h0.n=aC (.lst (aR (wa+wb) (.str aH))):=by rw[ju (dI g1)];exact g1
  have gz:h2.get h1.n=aC (.lst A.rows[j]):=eZ;have hat:bq h1 (.tup (A.rows.map .tup)) (.int (j:Int))=aC (.tup A.rows[j]):=wk (by rw[mz,k9 q];rfl);have hz:A.rows[j].length=wa:=by lia
  have pt:=PD (l:=aD) (u:=aC (wa:Int)) (i:=0) (j:=wa) gp gz (eB (dI g1)) rfl (by rw[HT.ig,iw];lia) (by lia) (by rw[iw];lia);have e:=DB (cl:=run F (k+1)) (o:=.var 4) (lo:=.cst .aN) (hi:=.idx (.var 0) (.cst (.int (0)))) (v:=.bi .list (.cons (.idx (.idx (.var 0) (.cst (.int (2)))) (.var 3)) .nil)) (bl:=false) (bh:=true) (ρ:=[aC A.w,aC B.w,aC (.ref l),aC (.int (j:Int)),aC (.ref h0.n),x5,x6,x7,x8]) (h:=h1)
   (listE (ck (ck (aF rfl) rfl (A2 _)) (aF rfl) hat) rfl) (aF rfl) (l:=.aN) (h3:=h2) rfl (ck (aF rfl) rfl (A0 _)) (l':=aD) (u':=aC (wa:Int)) rfl rfl pt
  refine⟨_,(cZ c1).trans ((aU e).trans rfl),?_,G1.new.DA gp (by lia) (by lia)⟩;rw[qp gp];unfold l9;rw[k9 q,List.take_zero,mD,List.drop_replicate];simp;rw[gq (by lia)]at c1;refine⟨h1,(cP c1).trans rfl,?_,G1⟩;rw[g1];unfold l9 dots;rw[tU (by lia),KP];simp[List.replicate_append_replicate]
 obtain⟨h2,e2,g2,G2⟩:=s2;have la:(l9 A.wd A.rows j).length=wa:=by unfold l9;by_cases q:j<A.rows.length;rw[k9 q];have rl:=(a.r2 _ (Ep q)).1;show A.rows[j].length=wa;lia;rw[tU (by lia),KP];simp[dots]
 have s3:∃h3,exs (run F (k+1)) (.ite (.cmp .lt (.var 3) (.bi .len (.cons (.idx (.var 1) (.cst (.int (2)))) .nil))) (.seq (.rK (.var 4) true (.idx (.var 0) (.cst (.int (0)))) false (.cst .aN) (.lc .seq (.idx (.idx (.var 1) (.cst (.int (2)))) (.var 3)) (.one 0) 1 [0] (.cst (.bl true)) FQ)) .skip) .skip) [aC A.w,aC B.w,aC (.ref l),aC (.int (j:Int)),aC (.ref h0.n),x5,x6,x7,x8] h2=.ok (.nx [aC A.w,aC B.w,aC (.ref l),aC (.int (j:Int)),aC (.ref h0.n),x5,x6,x7,x8]) h3/\h3.get h0.n=aC (.lst (k6 A B j))/\Gw h h3:=by
  have c1:ev (run F (k+1)) (.cmp .lt (.var 3) (.bi .len (.cons (.idx (.var 1) (.cst (.int (2)))) .nil))) [aC A.w,aC B.w,aC (.ref l),aC (.int (j:Int)),aC (.ref h0.n),x5,x6,x7,x8] h2=.ok (.bl (decide ((j:Int)< ((B.rows.map W.tup).length:Int)))) h2:=KL (aF rfl) (gC (ck (aF rfl) rfl (B2 _)) rfl);rw[bQ]at c1;by_cases q:j<B.rows.length;rw[jD (by lia)]at c1;have rr:=b.r2 _ (Ep q);have rl:=rr.1;obtain⟨h4,e4,G4⟩:=tH (cl:=run F (k+1)) (e:=FQ) (tl:=[aC A.w]) (f:=bV A.gr) B.rows[j] aD h2 (λw hw h=>by
   obtain⟨c,hm⟩:=vn rr.2 w hw;exact⟨h,vq (aF rfl) (ck (aF rfl) rfl (A1 _)) (PK C hm),.refl⟩)
  let h5:=h4.new (.lst (B.rows[j].map (bV A.gr)));have KQ:h4.get h0.n=_:=G4.get _ _ g2;have gp:h5.get h0.n=aC (.lst (l9 A.wd A.rows j++aR wb (.str aH))):=by rw[ju (dI KQ)];exact KQ
  have gz:h5.get h4.n=aC (.lst (B.rows[j].map (bV A.gr))):=eZ;have hat:bq h2 (.tup (B.rows.map .tup)) (.int (j:Int))=aC (.tup B.rows[j]):=wk (by rw[mz,k9 q];rfl);have hz:B.rows[j].length=wb:=by lia
  have hz2:(B.rows[j].map (bV A.gr)).length=wb:=by rw[bQ];exact hz
  have Gk:(l9 A.wd A.rows j++aR wb (W.str aH)).length=wa+wb:=by rw[dY,la,iw]
  have pt:=PD (l:=aC (wa:Int)) (u:=aD) (i:=wa) (j:=wa+wb) gp gz (eB (dI KQ)) (by rw[HT.ig,Gk];lia) (by rw[HT.iA,Gk]) (by lia) (by rw[hz2,Gk];lia);have ec:=Kl (cl:=run F (k+1)) (t:=.one 0) (ow:=1) (ix:=[0]) (e:=FQ) (ρ:=[aC A.w,aC B.w,aC (.ref l),aC (.int (j:Int)),aC (.ref h0.n),x5,x6,x7,x8]) (h:=h2) (h1:=h2) (ck (a:=.idx (.var 1) (.cst (.int (2)))) (b:=.var 3) (ck (aF rfl) rfl (B2 _)) (aF rfl) hat) (by lia) e4 (by rw[hz2];lia);have e:=DB (cl:=run F (k+1)) (o:=.var 4) (lo:=.idx (.var 0) (.cst (.int (0)))) (hi:=.cst .aN) (bl:=true) (bh:=false) (h:=h2) ec (aF rfl) (ck (aF rfl) rfl (A0 _)) (u:=.aN) (h4:=h5) rfl (l':=aC (wa:Int)) (u':=aD) rfl rfl pt;refine⟨_,(cZ c1).trans ((aU e).trans rfl),?_,(G2.trans G4).new.DA gp (by lia) (by lia)⟩;rw[qp gp];unfold k6;rw[List.take_left' la,List.drop_eq_nil_of_le (by rw[Gk];exact aZ _),jj];unfold l9;rw[mz,k9 q];rfl;rw[gq (by lia)]at c1;refine⟨h2,(cP c1).trans rfl,?_,G2⟩;rw[g2];unfold k6;have:l9 B.wd (B.rows.map λr=>r.map (bV A.gr)) j=aR wb (.str aH):=by unfold l9 dots;rw[tU (by rw[bQ];lia),PL];simp
  rw[this]
 obtain⟨h3,e3,g3,G3⟩:=s3;have gl:h3.get l=aC (.lst acc):=G3.get _ _ g;have s4:=iN (Gg (cl:=run F (k+1)) (i:=2) (ρ:=[aC A.w,aC B.w,aC (.ref l),aC (.int (j:Int)),aC (.ref h0.n),x5,x6,x7,x8]) (x:=.bi .tuple (.cons (.var 4) .nil)) rfl gl (Dg rfl g3) gl (by lia));exact⟨aC (.ref h0.n),_,(aU s1).trans ((aU e2).trans ((aU e3).trans ((aU s4).trans rfl))),qp gl,G3.gl.set gl hlo⟩
theorem PM{k:Nat}{A B:W}{l:Nat}{t x4 x5 x6:Option W}{a wd g:Int}(ia:bq ⟨0,0,[]⟩ A (.int 1)=aC (.int a))(hA:∃us,A=.tup us):∀(rs:List (List W)) (x:Option W) (h:VH) (acc:List W),(∀r∈rs,(r.length:Int)<=40/\aV wd g 0 r)->h.lo<=l->h.get l=aC (.lst acc)->acc.length+rs.length<=1000->
 ∃h' y,forL (bH (.one 3)) (exs (run F (k+1)) C1) (rs.map .tup) [aC A,aC B,aC (.ref l),x,x4,x5,x6] h=.ok (.nx [aC A,aC B,aC (.ref l),y,x4,x5,x6]) h'/\h'.get l=aC (.lst (acc++(rs.map λr=>r.map (bV a)).map .tup))/\Gl l h h'
 |[],x,h,acc,_,_,gl,_=>⟨h,x,by simp[forL],by simpa using gl,.refl⟩
 |r::rs,x,h,acc,hr,hlo,gl,hz=>by
  obtain⟨ve,ho⟩:=hr r fQ;obtain⟨us,rfl⟩:=hA;have Zd:∀h:VH,bq h (.tup us) (.int 1)=aC (.int a):=λh=>ia;rw[eK]at hz;obtain⟨h3,e3,g3⟩:=tH (cl:=run F (k+1)) (e:=FO) (tl:=[aC (.tup us)]) (f:=bV a) r aD h (λw hw h=>by
   obtain⟨c,hm⟩:=vn ho w hw;exact⟨h,by simp[FO,ev,Zd,PK C hm],.refl⟩)
  have e4:=vj (cl:=run F (k+1)) (a:=.var 3) (ρ:=[aC (.tup us),aC B,aC (.ref l),aC (.tup r),x4,x5,x6]) (h:=h) (h1:=h) (ow:=1) (ix:=[0]) (e:=FO) (by simp[ev]) (by lia) e3 (by rw[bQ];lia);have KR:(h3.new (.lst (r.map (bV a)))).get l=aC (.lst acc):=by have:=g3.get l _ gl;rw[ju (dI this)];exact this
  have e5:=Gg (cl:=run F (k+1)) (i:=2) (ρ:=[aC (.tup us),aC B,aC (.ref l),aC (.tup r),x4,x5,x6]) rfl gl e4 KR (by lia);have eb:exs (run F (k+1)) C1 [aC (.tup us),aC B,aC (.ref l),aC (.tup r),x4,x5,x6] h=.ok (.nx [aC (.tup us),aC B,aC (.ref l),aC (.tup r),x4,x5,x6]) ((h3.new (.lst (r.map (bV a)))).set l (.lst (acc++[.tup (r.map (bV a))]))):=by simp only[C1,exs,e5,aE]
  have G1:Gl l h ((h3.new (.lst (r.map (bV a)))).set l (.lst (acc++[.tup (r.map (bV a))]))):=(g3.new.gl (l:=l)).set KR hlo;obtain⟨h',y,e6,KS,G6⟩:=PM (k:=k) (B:=B) (t:=t) (x4:=x4) (x5:=x5) (x6:=x6) ia ⟨us,rfl⟩ rs (aC (.tup r)) ((h3.new (.lst (r.map (bV a)))).set l (.lst (acc++[.tup (r.map (bV a))]))) (acc++[.tup (r.map (bV a))]) (λq hq=>hr q (eH _ hq)) (by rw[G1.lo];exact hlo) (qp KR) (by rw[dY,iR];lia);refine⟨h',y,?_,?_,G1.trans G6⟩;simp only[forL,eS,bH,List.set,eb,aE,e6];rw[KS];simp
theorem PN{k:Nat}{A B:W}{l:Nat}{t x3:Option W}{n m:Int}{fs us:List W}(hA:A=.tup us)(ia:dZ us 3=aC (.tup fs))(hn:(fs.length:Int)=n):∀(ds:List W) (x y:Option W) (h:VH) (acc:List W),(∀w∈ds,door w m=true)->h.lo<=l->h.get l=aC (.lst acc)->acc.length+ds.length<=1000->
 ∃h' x' y',forL (bH (.many [5,6])) (exs (run F (k+1)) FP) ds [aC A,aC B,t,x3,aC (.ref l),x,y] h=.ok (.nx [aC A,aC B,t,x3,aC (.ref l),x',y']) h'/\h'.get l=aC (.lst (acc++ds.map (bM n)))/\Gl l h h'
 |[],x,y,h,acc,_,_,gl,_=>⟨h,x,y,by simp[forL],by simpa using gl,.refl⟩
 |w::ds,x,y,h,acc,hd,hlo,gl,hz=>by
  subst hA;obtain⟨a,b,rfl,_,_,hb⟩:=tK (hd w fQ);rw[eK]at hz;have body:∃z,exs (run F (k+1)) FP [aC (.tup us),aC B,t,x3,aC (.ref l),aC (.int a),aC b] h=.ok (.nx [aC (.tup us),aC B,t,x3,aC (.ref l),aC (.int a),z]) (h.set l (.lst (acc++[bM n (.tup [.int a,b])]))):=by
   have fin:∀z:W,exs (run F (k+1)) (.seq (.expr (.mt .append (.var 4) (.cons (.tup (.cons (.var 5) (.cons (.var 6) .nil))) .nil))) .skip) [aC (.tup us),aC B,t,x3,aC (.ref l),aC (.int a),aC z] h=.ok (.nx [aC (.tup us),aC B,t,x3,aC (.ref l),aC (.int a),aC z]) (h.set l (.lst (acc++[.tup [.int a,z]]))):=λz=>by
    have e:=Gg (cl:=run F (k+1)) (i:=4) (x:=.tup (.cons (.var 5) (.cons (.var 6) .nil))) (ρ:=[aC (.tup us),aC B,t,x3,aC (.ref l),aC (.int a),aC z]) (w:=.tup [.int a,z]) rfl gl (h1:=h) (by simp[ev]) gl (by lia);simp only[exs,e,aE]
   rcases hb with rfl|⟨i,rfl,_,_⟩;exact⟨aC .aN,(aU (ρ':=[aC (.tup us),aC B,t,x3,aC (.ref l),aC (.int a),aC .aN]) (h':=h) (by simp[exs,ev,aX,bL])).trans (fin .aN)⟩;by_cases q:i<n;have q':¬(n<=i):=by lia
   refine⟨aC (.int i),(aU (ρ':=[aC (.tup us),aC B,t,x3,aC (.ref l),aC (.int a),aC (.int i)]) (h':=h) (by simp[exs,ev,aX,eX,bL,bq,ia,iV,fZ,aQ,hn,q'])).trans ?_⟩;have:bM n (.tup [.int a,.int i])=.tup [.int a,.int i]:=by simp[bM,fk,q]
   rw[this];exact fin (.int i);have q':n<=i:=by lia
   refine⟨aC .aN,(aU (ρ':=[aC (.tup us),aC B,t,x3,aC (.ref l),aC (.int a),aC .aN]) (h':=h) (by simp[exs,ev,aX,eX,bL,bq,ia,iV,fZ,aQ,hn,q'])).trans ?_⟩;have:bM n (.tup [.int a,.int i])=.tup [.int a,.aN]:=by simp[bM,fk,q]
   rw[this];exact fin .aN
  obtain⟨z,eb⟩:=body;have G1:Gl l h (h.set l (.lst (acc++[bM n (.tup [.int a,b])]))):=(Gl.refl (l:=l)).set gl hlo;obtain⟨h',x',y',e6,KS,G6⟩:=PN (k:=k) (B:=B) (t:=t) (x3:=x3) rfl ia hn ds (aC (.int a)) z (h.set l (.lst (acc++[bM n (.tup [.int a,b])]))) (acc++[bM n (.tup [.int a,b])]) (λq hq=>hd q (eH _ hq)) (by rw[G1.lo];exact hlo) (qp gl) (by rw[dY,iR];lia);refine⟨h',x',y',?_,?_,G1.trans G6⟩;simp only[forL,bH,aQ,ir,List.set,eb,aE,e6];rw[KS];simp
theorem Ze{k:Nat}{h:VH}{A B:Bd}(a:A.Ok)(b:B.Ok)(hw:A.wd=B.wd)(hg:A.gr+B.gr<=8)(hr:A.rows.length+1+B.rows.length<=60):run F (k+2) 704 [A.w,B.w] h=.ok (qw A B).w h:=by
 rw[cQ C.yd rfl];obtain⟨wn,hwn⟩:=nv (show 0<=A.wd by have:=a.w1;lia);have ve:=a.w2;have Zf:=b.w2;have hdl:=b.d1;have hpl:=vm (Gh a b hw hg hr);have hlt:∀m,W.lt m (qw A B).w=true:=λm=>vp 24 _ hpl;have ew:(qw A B).w=.tup [.int A.wd,.int (A.gr+B.gr),.tup (A.rows.map .tup++[.tup (aR wn (.str aH))]++(B.rows.map λr=>r.map (bV A.gr)).map .tup),.tup A.fd,.tup (B.dr.map (bM A.fd.length))]:=by
  have:A.wd.toNat=wn:=by rw[hwn];rfl
  simp only[qw,Bd.w,vP,eS,nu,this]
 rw[ew]at hlt ⊢;let h0:VH:=⟨h.n,h.n,h.os⟩
 let L1:List W:=A.rows.map .tup;let h1:VH:=(h0.new (.lst L1)).new (.lst [.tup (aR wn (.str aH))]);let L2:List W:=L1++[.tup (aR wn (.str aH))];let h2:VH:=h1.new (.lst L2);have t1:=λh'=>vh (h:=h') (w:=.str aH) (n:=wn) (by lia);have g1:h1.get h0.n=aC (.lst L1):=by show VH.get ((h0.new (.lst L1)).new _) h0.n=_;rw[ju (by show h0.n<h0.n+1;lia)];exact eZ
 have Zg:h1.get (h0.n+1)=aC (.lst [.tup (aR wn (.str aH))]):=eZ;have t2:=Gf (h:=h1) g1 Zg (by simp only[L1,bQ,iR];have:=a.r1;lia);have i0:∀h',bq h' A.w (.int 0)=aC (.int A.wd):=λ_=>rfl;have i1:∀h',bq h' A.w (.int 1)=aC (.int A.gr):=λ_=>rfl;have i2:∀h',bq h' A.w (.int 2)=aC (.tup (A.rows.map .tup)):=λ_=>rfl;have i3:∀h',bq h' A.w (.int 3)=aC (.tup A.fd):=λ_=>rfl;have j1:∀h',bq h' B.w (.int 1)=aC (.int B.gr):=λ_=>rfl;have j2:∀h',bq h' B.w (.int 2)=aC (.tup (B.rows.map .tup)):=λ_=>rfl;have j4:∀h',bq h' B.w (.int 4)=aC (.tup B.dr):=λ_=>rfl;have s1:exs (run F (k+1)) (.set 2 (.op .add (.bi .list (.cons (.idx (.var 0) (.cst (.int (2)))) .nil)) (.lst (.cons (.op .mul (.tup (.cons (.cst (.str aH)) .nil)) (.idx (.var 0) (.cst (.int (0))))) .nil)))) [aC A.w,aC B.w,aD,aD,aD,aD,aD] h0=.ok (.nx [aC A.w,aC B.w,aC (.ref h1.n),aD,aD,aD,aD]) h2:=by
  have e1:dB .mul (.tup [.str aH]) (.int A.wd) (h0.new (.lst L1))=.ok (.tup (aR wn (.str aH))) (h0.new (.lst L1)):=by rw[hwn];exact t1 _
  have n1:(h0.new (.lst L1)).n=h0.n+1:=rfl;simp only[exs,ev,aE,bO,vN,yv,mE,i0,i2,iV,iC,aQ,iR,show Nat.ble 1 1000=true from rfl,dH,e1,n1,L1]at t2 ⊢;show(dB .add (.ref h0.n) (.ref (h0.n+1)) h1).bind _=_;rw[t2,aE];rfl
 obtain⟨h3,y3,e3,g3,G3⟩:=PM C (k:=k) (A:=A.w) (B:=B.w) (l:=h1.n) (t:=aD) (x4:=aD) (x5:=aD) (x6:=aD) (a:=A.gr) (wd:=B.wd) (g:=B.gr) rfl ⟨_,rfl⟩ B.rows aD h2 L2 (λr hr=>⟨by have:=(b.r2 r hr).1;lia,(b.r2 r hr).2⟩) (by show h.n<=h.n+1+1;lia) eZ (by simp only[L2,L1,dY,bQ,iR];lia);have s2:exs (run F (k+1)) (.«for» .seq (.idx (.var 1) (.cst (.int (2)))) (.one 3) C1) [aC A.w,aC B.w,aC (.ref h1.n),aD,aD,aD,aD] h2=.ok (.nx [aC A.w,aC B.w,aC (.ref h1.n),y3,aD,aD,aD]) h3:=by simp only[exs,ev,aE,bO,vN,yv,mE,j2];rw[xR (by rw[bQ];have:=b.r1;lia)];exact e3
 have s3:exs (run F (k+1)) (.set 4 (.lst .nil)) [aC A.w,aC B.w,aC (.ref h1.n),y3,aD,aD,aD] h3=.ok (.nx [aC A.w,aC B.w,aC (.ref h1.n),y3,aC (.ref h3.n),aD,aD]) (h3.new (.lst [])):=by simp[exs,ev]
 obtain⟨h5,x5,y5,e5,g5,G5⟩:=PN C (k:=k) (A:=A.w) (B:=B.w) (l:=h3.n) (t:=aC (.ref h1.n)) (x3:=y3) (n:=A.fd.length) (m:=B.fd.length) rfl rfl rfl B.dr aD aD (h3.new (.lst [])) [] b.d2 (by show h3.lo<=h3.n;rw[G3.lo];have:=G3.le;show h.n<=h3.n;have:h2.n=h.n+1+1+1:=rfl;lia) eZ (by simp only[tX];lia);have s4:exs (run F (k+1)) (.«for» .seq (.idx (.var 1) (.cst (.int (4)))) (.many [5,6]) FP) [aC A.w,aC B.w,aC (.ref h1.n),y3,aC (.ref h3.n),aD,aD] (h3.new (.lst []))=.ok (.nx [aC A.w,aC B.w,aC (.ref h1.n),y3,aC (.ref h3.n),x5,y5]) h5:=by simp only[exs,ev,aE,bO,vN,yv,mE,j4];rw[xR (by lia)];exact e5
 have hne:h1.n≠h3.n:=by have:=dI g3;lia
 have PR:h5.get h1.n=aC (.lst (L2++(B.rows.map λr=>r.map (bV A.gr)).map .tup)):=G5.get _ _ hne (by rw[ju (dI g3)];exact g3);have s5:exs (run F (k+1)) (.seq (.ret (.tup (.cons (.idx (.var 0) (.cst (.int (0)))) (.cons (.op .add (.idx (.var 0) (.cst (.int (1)))) (.idx (.var 1) (.cst (.int (1))))) (.cons (.bi .tuple (.cons (.var 2) .nil)) (.cons (.idx (.var 0) (.cst (.int (3)))) (.cons (.bi .tuple (.cons (.var 4) .nil)) .nil))))))) .skip) [aC A.w,aC B.w,aC (.ref h1.n),y3,aC (.ref h3.n),x5,y5] h5=.ok (.rt (.tup [.int A.wd,.int (A.gr+B.gr),.tup (L2++(B.rows.map λr=>r.map (bV A.gr)).map .tup),.tup A.fd,.tup (B.dr.map (bM A.fd.length))])) h5:=by
  have PU:h5.get h3.n=aC (.lst (B.dr.map (bM A.fd.length))):=by simpa using g5
  generalize L2++(B.rows.map λr=>r.map (bV A.gr)).map W.tup=R at PR ⊢;generalize B.dr.map (bM A.fd.length)=R2 at PU ⊢;simp[exs,ev,i0,i1,i3,j1,dB,eU,iV,wK,aQ,PR,PU]
 have eb:exs (run F (k+1)) C2.body [aC A.w,aC B.w,aD,aD,aD,aD,aD] h0=.ok (.rt (.tup [.int A.wd,.int (A.gr+B.gr),.tup (A.rows.map .tup++[.tup (aR wn (.str aH))]++(B.rows.map λr=>r.map (bV A.gr)).map .tup),.tup A.fd,.tup (B.dr.map (bM A.fd.length))])) h5:=
  (aU s1).trans ((aU s2).trans ((aU s3).trans ((aU s4).trans s5)))
 show fin h (exs (run F (k+1)) C2.body [aC A.w,aC B.w,aD,aD,aD,aD,aD] h0)=_;rw[eb];refine dj ?_ (hlt _);have q1:=G3.lo;have q2:=G5.lo;rw[q2];show h.n<=h3.lo;rw[q1];exact aZ _
theorem PV{k:Nat}{A B:Bd}{l:Nat}{x5 x6 x7 x8:Option W}(a:A.Ok)(b:B.Ok):∀(js:List Nat) (h:VH) (acc:List W) (x3 x4:Option W),h.get l=aC (.lst acc)->h.lo<=l->acc.length+js.length<=1000->
 ∃Zh KO h',forL (bH (.one 3)) (exs (run F (k+1)) FT) (js.map λ(j:Nat)=>W.int (j:Int)) [aC A.w,aC B.w,aC (.ref l),x3,x4,x5,x6,x7,x8] h=.ok (.nx [aC A.w,aC B.w,aC (.ref l),Zh,KO,x5,x6,x7,x8]) h'/\h'.get l=aC (.lst (acc++js.map λj=>.tup (k6 A B j)))/\Gl l h h'
 |[],h,acc,x3,x4,g,_,_=>⟨x3,x4,h,rfl,by rw[nu,jj];exact g,.refl⟩
 |j::js,h,acc,x3,x4,g,hlo,hl=>by
  rw[eK]at hl;obtain⟨y4,h1,e1,g1,G1⟩:=Zc C (k:=k) (j:=j) (x4:=x4) (x5:=x5) (x6:=x6) (x7:=x7) (x8:=x8) a b g hlo (by lia);obtain⟨y3,z4,h2,e2,g2,G2⟩:=PV (k:=k) (x5:=x5) (x6:=x6) (x7:=x7) (x8:=x8) a b js h1 _ (aC (.int (j:Int))) y4 g1 (by rw[G1.lo];exact hlo) (by rw[dY,iR];lia);refine⟨y3,z4,h2,?_,?_,G1.trans G2⟩;simp only[forL,eS,bH,List.set_cons_succ,List.set_cons_zero,e1,aE,e2];rw[g2,eS,List.append_assoc,List.singleton_append]
theorem Zi{k:Nat}{h:VH}{A B:Bd}(a:A.Ok)(b:B.Ok)(hw:A.wd+B.wd<=40)(hg:A.gr+B.gr<=8)(hf:A.fd.length+B.fd.length<=4)(hN:∀w∈B.dr,∃p i:Int,w=.tup [.int p,.int i]):run F (k+2) 705 [A.w,B.w] h=.ok (jf A B).w h:=by
 rw[cQ C.ye rfl];have ar:=a.r1;have br:=b.r1;have a2:=a.w2;have b2:=b.w2;have ad:=a.d1;have bd:=b.d1;have Dl:dQ A B<=60:=Nat.max_le.mpr ⟨ar,br⟩;have A0:∀h:VH,bq h A.w (.int 0)=aC (.int A.wd):=λ_=>rfl;have B0:∀h:VH,bq h B.w (.int 0)=aC (.int B.wd):=λ_=>rfl;have A1:∀h:VH,bq h A.w (.int 1)=aC (.int A.gr):=λ_=>rfl;have B1:∀h:VH,bq h B.w (.int 1)=aC (.int B.gr):=λ_=>rfl;have A2:∀h:VH,bq h A.w (.int 2)=aC (.tup (A.rows.map .tup)):=λ_=>rfl;have B2:∀h:VH,bq h B.w (.int 2)=aC (.tup (B.rows.map .tup)):=λ_=>rfl;have A3:∀h:VH,bq h A.w (.int 3)=aC (.tup A.fd):=λ_=>rfl;have B3:∀h:VH,bq h B.w (.int 3)=aC (.tup B.fd):=λ_=>rfl;have A4:∀h:VH,bq h A.w (.int 4)=aC (.tup A.dr):=λ_=>rfl;have B4:∀h:VH,bq h B.w (.int 4)=aC (.tup B.dr):=λ_=>rfl;let h0:VH:=⟨h.n,h.n,h.os⟩
 let h1:=h0.new (.lst []);have g1:h1.get h.n=aC (.lst []):=eZ;have s1:exs (run F (k+1)) (.set 2 (.lst .nil)) [aC A.w,aC B.w,aD,aD,aD,aD,aD,aD,aD] h0=.ok (.nx [aC A.w,aC B.w,aC (.ref h.n),aD,aD,aD,aD,aD,aD]) h1:=rfl;obtain⟨x3,x4,h2,e2,g2,G2⟩:=PV C (k:=k) (x5:=aD) (x6:=aD) (x7:=aD) (x8:=aD) a b (List.range (dQ A B)) h1 [] aD aD g1 (aZ _) (by rw[List.length_range,tX];lia);rw[mD]at g2;have emax:(if((B.rows.map W.tup).length:Int)> ((A.rows.map W.tup).length:Int)then((B.rows.map W.tup).length:Int)else((A.rows.map W.tup).length:Int))=(dQ A B:Int):=by rw[bQ,bQ];unfold dQ;split<;>lia
 have r2:=KN (KH (cl:=run F (k+1)) (a:=.bi .len (.cons (.idx (.var 0) (.cst (.int (2)))) .nil)) (b:=.bi .len (.cons (.idx (.var 1) (.cst (.int (2)))) .nil)) (ρ:=[aC A.w,aC B.w,aC (.ref h.n),aD,aD,aD,aD,aD,aD]) (h:=h1) (gC (ck (aF rfl) rfl (A2 _)) rfl) (gC (ck (aF rfl) rfl (B2 _)) rfl));rw[emax]at r2;have s2:exs (run F (k+1)) (.«for» .eW (.cons (.bi .max (.cons (.bi .len (.cons (.idx (.var 0) (.cst (.int (2)))) .nil)) (.cons (.bi .len (.cons (.idx (.var 1) (.cst (.int (2)))) .nil)) .nil))) .nil) (.one 3) FT) [aC A.w,aC B.w,aC (.ref h.n),aD,aD,aD,aD,aD,aD] h1=.ok (.nx [aC A.w,aC B.w,aC (.ref h.n),x3,x4,aD,aD,aD,aD]) h2:=by rw[exs,r2,aE,OR (by lia),Y8,e2]
 let h3:=h2.new (.lst A.dr);have s3:exs (run F (k+1)) (.set 5 (.bi .list (.cons (.idx (.var 0) (.cst (.int (4)))) .nil))) [aC A.w,aC B.w,aC (.ref h.n),x3,x4,aD,aD,aD,aD] h2=.ok (.nx [aC A.w,aC B.w,aC (.ref h.n),x3,x4,aC (.ref h2.n),aD,aD,aD]) h3:=bU (listE (ck (aF rfl) rfl (A4 _)) rfl);have lo2:h2.lo=h.n:=G2.lo;have n2:h.n+1<=h2.n:=G2.le;have g3:h3.get h.n=_:=(ju (dI g2)).trans g2;obtain⟨x6,x7,h4,e4,g4,G4⟩:=PJ (cl:=run F (k+1)) (A:=A) (wB:=B.w) (q:=h2.n) (x2:=aC (.ref h.n)) (x3:=x3) (x4:=x4) (x8:=aD) B.dr h3 A.dr aD aD hN eZ (by show h2.lo<=h2.n;lia) (by lia);have s4:exs (run F (k+1)) (.«for» .seq (.idx (.var 1) (.cst (.int (4)))) (.many [6,7]) FU) [aC A.w,aC B.w,aC (.ref h.n),x3,x4,aC (.ref h2.n),aD,aD,aD] h3=.ok (.nx [aC A.w,aC B.w,aC (.ref h.n),x3,x4,aC (.ref h2.n),x6,x7,aD]) h4:=by rw[exs,ck (aF rfl) rfl (B4 _),aE,xR (by lia),e4]
 have q4:h4.get h.n=_:=G4.get _ _ (by lia) g3;have Zj:h4.lo=h.n:=G4.lo.trans lo2;let h5:=h4.new (.lst A.fd);obtain⟨h6,e6,G6⟩:=tH (cl:=run F (k+1)) (e:=JX) (tl:=[aC A.w]) (f:=bP A.wd) B.fd aD h5 (λw hw h=>by
  obtain⟨i,rfl,_⟩:=Di (b.f3 w hw);exact⟨h,cR (aF rfl) (ck (aF rfl) rfl (A0 _)) rfl,.refl⟩)
 let h7:=h6.new (.lst (B.fd.map (bP A.wd)));have lf:(B.fd.map (bP A.wd)).length=B.fd.length:=bQ ..;have G7:Gw h4 h7:=(Gw.refl.new.trans G6).new;have g7:h7.get h4.n=aC (.lst A.fd):=by have:=G6.get h4.n _ (eZ:h5.get h4.n=_);rw[ju (dI this)];exact this
 let h8:=h7.new (.lst (A.fd++B.fd.map (bP A.wd)));have s5:exs (run F (k+1)) (.set 8 (.op .add (.bi .list (.cons (.idx (.var 0) (.cst (.int (3)))) .nil)) (.lc .seq (.idx (.var 1) (.cst (.int (3)))) (.one 0) 1 [0] (.cst (.bl true)) JX))) [aC A.w,aC B.w,aC (.ref h.n),x3,x4,aC (.ref h2.n),x6,x7,aD] h4=.ok (.nx [aC A.w,aC B.w,aC (.ref h.n),x3,x4,aC (.ref h2.n),x6,x7,aC (.ref h7.n)]) h8:=
  bU (cR (listE (ck (aF rfl) rfl (A3 _)) rfl) (Kl (t:=.one 0) (ws:=B.fd) (ck (aF rfl) rfl (B3 _)) (by lia) e6 (by rw[lf];lia)) (Gf g7 eZ (by rw[lf];lia)))
 have G8:Gw h4 h8:=G7.new;have er:(List.range (dQ A B)).map (λj=>W.tup (k6 A B j))=(jf A B).rows.map .tup:=by rw[Y7,List.map_map];rfl
 have s6:exs (run F (k+1)) (.seq (.ret (.tup (.cons (.op .add (.idx (.var 0) (.cst (.int (0)))) (.idx (.var 1) (.cst (.int (0))))) (.cons (.op .add (.idx (.var 0) (.cst (.int (1)))) (.idx (.var 1) (.cst (.int (1))))) (.cons (.bi .tuple (.cons (.var 2) .nil)) (.cons (.bi .tuple (.cons (.var 8) .nil)) (.cons (.bi .tuple (.cons (.var 5) .nil)) .nil))))))) .skip) [aC A.w,aC B.w,aC (.ref h.n),x3,x4,aC (.ref h2.n),x6,x7,aC (.ref h7.n)] h8=.ok (.rt (jf A B).w) h8:=by refine dm (cY ?_);have t:=gH (cl:=run F (k+1)) (ρ:=[aC A.w,aC B.w,aC (.ref h.n),x3,x4,aC (.ref h2.n),x6,x7,aC (.ref h7.n)]) (h:=h8) (a:=.op .add (.idx (.var 0) (.cst (.int (0)))) (.idx (.var 1) (.cst (.int (0))))) (b:=.op .add (.idx (.var 0) (.cst (.int (1)))) (.idx (.var 1) (.cst (.int (1))))) (cR (ck (aF rfl) rfl (A0 _)) (ck (aF rfl) rfl (B0 _)) rfl) (cR (ck (aF rfl) rfl (A1 _)) (ck (aF rfl) rfl (B1 _)) rfl) (Dg (i:=2) rfl (G8.get _ _ q4)) (Dg (i:=8) rfl eZ) (Dg (i:=5) rfl (G8.get _ _ g4));rw[er]at t;exact t
 have ok:=Dj a b hw hg hf;have eb:exs (run F (k+1)) C3.body [aC A.w,aC B.w,aD,aD,aD,aD,aD,aD,aD] h0=.ok (.rt (jf A B).w) h8:=
  (aU s1).trans ((aU s2).trans ((aU s3).trans ((aU s4).trans ((aU s5).trans s6))))
 show fin h (exs (run F (k+1)) C3.body [aC A.w,aC B.w,aD,aD,aD,aD,aD,aD,aD] h0)=_;rw[eb];exact dj (by rw[G8.lo,Zj];exact aZ _) (vp 24 _ (vm ok))
end
theorem KU{cl:Call}{a b:E}{ρ:En}{h h1:VH}(ea:ev cl a ρ h=.ok (.bl false) h1):ev cl (.and a b) ρ h=.ok (.bl false) h1:=by rw[ev,ea,aE]
theorem PX{cl:Call}{ρ:En}{h h1 h2 h3 h4 h5 h':VH}{n:Nat}{a b c d e:E}{x y z u v w:W}(ea:ev cl a ρ h=.ok x h1)(eb:ev cl b ρ h1=.ok y h2)(ec:ev cl c ρ h2=.ok z h3)(ed:ev cl d ρ h3=.ok u h4)(ee:ev cl e ρ h4=.ok v h5)(ef:cl n [x,y,z,u,v] h5=.ok w h'):ev cl (.call n (.cons a (.cons b (.cons c (.cons d (.cons e .nil)))))) ρ h=.ok w h':=
 YR (aW ea (aW eb (aW ec (aW ed (aW ee dg))))) ef
theorem Zk{B:Bd}(b:B.qo):sZ (.tup B.fd) 1 4 0 (B.wd-1)=true:=by have h1:=b.f1;have h2:=b.f2;simp only[sZ,fR,aS,fF];exact⟨⟨by lia,by lia⟩,mC.mpr b.f3⟩
section
variable{F:Nat->Option Fn}(C:fL F)
include C
theorem yf{k:Nat}{h:VH}{B:Bd}{g:Int}{r d:W}{res:Bool}(b:B.qo)(e:(within (.int g) 0 8=false/\res=false)\/(within (.int g) 0 8=true/\ev (run F (k+5)) (.and (.call 9 (.cons (.var 3) (.cons (.var 1) .nil))) (.call 8 (.cons (.var 5) (.cons (.var 1) (.cons (.bi .len (.cons (.var 4) .nil)) .nil))))) [aC (.tup [.int B.wd,.int g,r,.tup B.fd,d]),aC (.int B.wd),aC (.int g),aC r,aC (.tup B.fd),aC d] ⟨h.n,h.n,h.os⟩=.ok (.bl res) ⟨h.n,h.n,h.os⟩)) :
 run F (k+6) 10 [.tup [.int B.wd,.int g,r,.tup B.fd,d]] h=.ok (.bl res) h:=by
 rw[cQ C.J' rfl];have e1:=pD C.toCoreA (k:=k+4) (h:=⟨h.n,h.n,h.os⟩) (w:=.tup [.int B.wd,.int g,r,.tup B.fd,d]) (lo:=5) (hi:=5) (by simp[Kn]);rw[show fR (.tup [.int B.wd,.int g,r,.tup B.fd,d]) 5 5=true from rfl]at e1;have e2:=sY C.toCoreA (k:=k+3) (h:=⟨h.n,h.n,h.os⟩) (w:=.int B.wd) (lo:=1) (hi:=40) (by simp[Kn]);rw[show within (.int B.wd) 1 40=true by simp[within,b.w1,b.w2]]at e2;have e3:=sY C.toCoreA (k:=k+3) (h:=⟨h.n,h.n,h.os⟩) (w:=.int g) (lo:=0) (hi:=8) (by simp[Kn]);have hf:=b.f2;have e4:=OS C.toCoreA (k:=k+2) (h:=⟨h.n,h.n,h.os⟩) (w:=.tup B.fd) (a:=1) (b:=4) (lo:=0) (hi:=B.wd-1) (by simp[Kn]) (λws e=>by cases e;exact⟨by lia,λx hx=>by
  obtain⟨i,rfl,_⟩:=Di (b.f3 x hx);simp[Kn]⟩)
 rw[Zk b]at e4;show fin h (exs (run F (k+5)) j8.body [aC (.tup [.int B.wd,.int g,r,.tup B.fd,d]),aD,aD,aD,aD,aD] ⟨h.n,h.n,h.os⟩)=_;have s1:=λX=>aU (b:=X) ((cP (a:=.seq (.ret (.cst (.bl false))) .skip) (b:=.skip) (dW (qx (cl:=run F (k+5)) (ρ:=[aC (.tup [.int B.wd,.int g,r,.tup B.fd,d]),aD,aD,aD,aD,aD]) (aF (i:=0) rfl) aK aK e1))).trans gO);have s2:=λX=>aU (b:=X) (show exs (run F (k+5)) (.jo [1,2,3,4,5] (.var 0)) [aC (.tup [.int B.wd,.int g,r,.tup B.fd,d]),aD,aD,aD,aD,aD] ⟨h.n,h.n,h.os⟩=.ok (.nx [aC (.tup [.int B.wd,.int g,r,.tup B.fd,d]),aC (.int B.wd),aC (.int g),aC r,aC (.tup B.fd),aC d]) ⟨h.n,h.n,h.os⟩from rfl);have c1:=qx (cl:=run F (k+5)) (n:=1) (a:=.var 1) (b:=.cst (.int 1)) (c:=.cst (.int 40)) (ρ:=[aC (.tup [.int B.wd,.int g,r,.tup B.fd,d]),aC (.int B.wd),aC (.int g),aC r,aC (.tup B.fd),aC d]) (aF rfl) aK aK e2;have c2:=qx (cl:=run F (k+5)) (n:=1) (a:=.var 2) (b:=.cst (.int 0)) (c:=.cst (.int 8)) (ρ:=[aC (.tup [.int B.wd,.int g,r,.tup B.fd,d]),aC (.int B.wd),aC (.int g),aC r,aC (.tup B.fd),aC d]) (aF rfl) aK aK e3;have fin':∀{x:Bool},exs (run F (k+5)) j8.body [aC (.tup [.int B.wd,.int g,r,.tup B.fd,d]),aD,aD,aD,aD,aD] ⟨h.n,h.n,h.os⟩=.ok (.rt (.bl x)) ⟨h.n,h.n,h.os⟩->fin h (exs (run F (k+5)) j8.body [aC (.tup [.int B.wd,.int g,r,.tup B.fd,d]),aD,aD,aD,aD,aD] ⟨h.n,h.n,h.os⟩)=.ok (.bl x) h:=λz=>by
  rw[z];exact dj (aZ _) ki
 rcases e with⟨q,rfl⟩|⟨q,e⟩;rw[q]at c2;exact fin' ((s1 _).trans ((s2 _).trans (dm ((cZ (jM (dW c1) (dW c2))).trans (dm (cY aK))))));rw[q]at c2;have s4:=PX (cl:=run F (k+5)) (n:=7) (a:=.var 4) (b:=.cst (.int 1)) (c:=.cst (.int 4)) (d:=.cst (.int 0)) (e:=.op .sub (.var 1) (.cst (.int 1))) (ρ:=[aC (.tup [.int B.wd,.int g,r,.tup B.fd,d]),aC (.int B.wd),aC (.int g),aC r,aC (.tup B.fd),aC d]) (aF rfl) aK aK aK (cR (aF rfl) aK rfl) e4;exact fin' ((s1 _).trans ((s2 _).trans ((aU ((cP (jM (dW c1) (dW c2))).trans gO)).trans ((aU ((cP (dW s4)).trans gO)).trans (dm (cY e))))))
theorem Zl{k:Nat}{h:VH}{a:Nat}{ws:List W}{wd:Int}(g:h.get a=aC (.lst ws)):run F (k+2) 9 [.ref a,.int wd] h=.ok (.bl false) h:=by rw[cQ C.f9 rfl];have e1:=pD C.toCoreA (k:=k) (h:=⟨h.n,h.n,h.os⟩) (w:=.ref a) (lo:=0) (hi:=60) (eg.mpr (by simp[Kn,dG,g]));rw[show fR (.ref a) 0 60=false from rfl]at e1;show fin h (exs (run F (k+1)) CY.body [aC (.ref a),aC (.int wd),aD] ⟨h.n,h.n,h.os⟩)=_;rw[show exs (run F (k+1)) CY.body [aC (.ref a),aC (.int wd),aD] ⟨h.n,h.n,h.os⟩=.ok (.rt (.bl false)) ⟨h.n,h.n,h.os⟩from dm ((cZ (dW (qx (aF rfl) aK aK e1))).trans (dm (cY aK)))];exact dj (aZ _) ki
theorem Zm{k:Nat}{h:VH}{ws:List W}{wd n:Int}(hl:(ws.length:Int)≠wd):run F (k+5) 8 [.tup ws,.int wd,.int n] h=.ok (.bl false) h:=by
 rw[cQ C.f8 rfl];have e1:=pD C.toCoreA (k:=k+3) (h:=⟨h.n,h.n,h.os⟩) (w:=.tup ws) (lo:=wd) (hi:=wd) (by unfold Kn;simp);have q:fR (.tup ws) wd wd=false:=by simp only[fR,Bool.and_eq_false_iff,decide_eq_false_iff_not];lia
 rw[q]at e1;show fin h (exs (run F (k+4)) CW.body [aC (.tup ws),aC (.int wd),aC (.int n),aD] ⟨h.n,h.n,h.os⟩)=_;rw[show exs (run F (k+4)) CW.body [aC (.tup ws),aC (.int wd),aC (.int n),aD] ⟨h.n,h.n,h.os⟩=.ok (.rt (.bl false)) ⟨h.n,h.n,h.os⟩from dm ((cZ (dW (qx (aF rfl) (aF rfl) (aF rfl) e1))).trans (dm (cY aK)))];exact dj (aZ _) ki
theorem Zn{k:Nat}{h:VH}{B:Bd}{a:Nat}{ws:List W}{d:W}(b:B.qo)(g:h.get a=aC (.lst ws)):run F (k+6) 10 [.tup [.int B.wd,.int B.gr,.ref a,.tup B.fd,d]] h=.ok (.bl false) h:=
 yf C b (.inr ⟨by simp[within,b.g1,b.g2],KU (vq (aF rfl) (aF rfl) (Zl C (k:=k+3) (h:=⟨h.n,h.n,h.os⟩) g))⟩)
theorem Zo{k:Nat}{h:VH}{B:Bd}{g:Int}{r d:W}(b:B.qo)(hg:within (.int g) 0 8=false):run F (k+6) 10 [.tup [.int B.wd,.int g,r,.tup B.fd,d]] h=.ok (.bl false) h:=
 yf C b (.inl ⟨hg,rfl⟩)
theorem Zp{k:Nat}{h:VH}{B:Bd}{ds:List W}(b:B.qo)(hl:(ds.length:Int)≠B.wd):run F (k+6) 10 [.tup [.int B.wd,.int B.gr,.tup (B.rows.map .tup),.tup B.fd,.tup ds]] h=.ok (.bl false) h:=
 yf C b (.inr ⟨by simp[within,b.g1,b.g2],Kz (vq (aF rfl) (aF rfl) (OX C (k:=k+3) (h:=⟨h.n,h.n,h.os⟩) (ws:=B.rows.map .tup) (wd:=B.wd) (by rw[bQ];exact b.r1) (λw hw=>by
  obtain⟨r,hr,e⟩:=iS.mp hw;exact⟨r,e.symm,b.r2 r hr⟩))) (qx (aF rfl) (aF rfl) (gC (aF rfl) rfl) (Zm C (k:=k) hl))⟩)
theorem PY{k:Nat}{h:VH}{t rs pl:W}{wd g r0 ft:Int}{w0:W}{post:List W}(hp:ek 24 w0):∀(pre:List W) (c:Int) (j:Nat) (x y:Option W),c=j->aV wd g c pre->cA w0 (c+pre.length) wd g=false->forL (bH (.many [6,7])) (exs (run F (k+4)) (jh ft)) (bI j (pre++w0::post)) [aC t,aC (.int wd),aC (.int g),aC rs,aC (.int r0),aC pl,x,y] h =
 .ok (.rt (.int ft)) h
 |[],c,j,x,y,hc,_,hm=>by
  have e1:=F9 C (k:=k) (h:=h) (c:=j) (wd:=wd) (g:=g) hp;rw[tX,show c+ ((0:Nat):Int)=(j:Int) by lia]at hm;rw[hm]at e1;have eb:exs (run F (k+4)) (jh ft) [aC t,aC (.int wd),aC (.int g),aC rs,aC (.int r0),aC pl,aC (.int j),aC w0] h=.ok (.rt (.int ft)) h:=
   dm ((cZ (dW (zC (aF rfl) (aF rfl) (aF rfl) (aF rfl) e1))).trans (dm ((aU (iN (aW (aF rfl) (aW (aF rfl) dg)))).trans (cY aK))))
  simp only[mD,forL,bI,bH,aQ,ir,List.set,eb,aE]
 |w::r,c,j,x,y,hc,ho,hm=>by
  obtain⟨h1,h2⟩:=ho;have e:=PY (h:=h) (t:=t) (rs:=rs) (pl:=pl) (k:=k) (wd:=wd) (g:=g) (r0:=r0) (ft:=ft) (post:=post) hp r (c+1) (j+1) (aC (.int j)) (aC w) (by rw[hc];push_cast;rfl) h2 (by rw[<-hm,eK];congr 1;push_cast;lia);have e1:=F9 C (k:=k) (h:=h) (c:=j) (wd:=wd) (g:=g) (C7 h1 22);rw[<-hc,h1,hc]at e1;have eb:exs (run F (k+4)) (jh ft) [aC t,aC (.int wd),aC (.int g),aC rs,aC (.int r0),aC pl,aC (.int j),aC w] h=.ok (.nx [aC t,aC (.int wd),aC (.int g),aC rs,aC (.int r0),aC pl,aC (.int j),aC w]) h:=
   (aU ((cP (dW (zC (aF rfl) (aF rfl) (aF rfl) (aF rfl) e1))).trans rfl)).trans rfl
  simp only[yx,forL,bI,bH,aQ,ir,List.set,eb,aE,e]
theorem PZ{k:Nat}{h:VH}{t rs:W}{wd g ft:Int}{w0:W}{pre post:List W}(hp:ek 24 w0)(hl:(pre++w0::post).length<1000000)(ho:aV wd g 0 pre)(hm:cA w0 (0+pre.length) wd g=false):∀(ws:List (List W)) (j:Nat) (x y z u:Option W),(∀r∈ws,(r.length:Int)<1000000/\aV wd g 0 r)->forL (bH (.many [4,5])) (exs (run F (k+4)) (gM ft)) (bI j ((ws++[pre++w0::post]).map .tup)) [aC t,aC (.int wd),aC (.int g),aC rs,x,y,z,u] h =
 .ok (.rt (.int ft)) h
 |[],j,x,y,z,u,_=>by
  have e1:=PY C (ft:=ft) (k:=k) (h:=h) (t:=t) (rs:=rs) (pl:=.tup (pre++w0::post)) (wd:=wd) (g:=g) (r0:=j) (post:=post) hp pre 0 0 z u rfl ho hm;have eb:exs (run F (k+4)) (gM ft) [aC t,aC (.int wd),aC (.int g),aC rs,aC (.int j),aC (.tup (pre++w0::post)),z,u] h=.ok (.rt (.int ft)) h:=by refine dm ?_;rw[exs,aF (x:=.tup (pre++w0::post)) rfl,aE,zy hl];exact e1
  simp only[mD,eS,nu,forL,bI,bH,aQ,ir,List.set,eb,aE]
 |w::r,j,x,y,z,u,ha=>by
  obtain⟨h1,h2⟩:=ha w fQ;obtain⟨z1,u1,e1⟩:=KA C (ft:=ft) (k:=k) (h:=h) (t:=t) (rs:=rs) (pl:=.tup w) (wd:=wd) (g:=g) (r0:=j) w 0 0 z u rfl h2;have e:=PZ (h:=h) (t:=t) (rs:=rs) (k:=k) (wd:=wd) (g:=g) (ft:=ft) hp hl ho hm r (j+1) (aC (.int j)) (aC (.tup w)) z1 u1 λq hq=>ha q (eH _ hq);have eb:exs (run F (k+4)) (gM ft) [aC t,aC (.int wd),aC (.int g),aC rs,aC (.int j),aC (.tup w),z,u] h=.ok (.nx [aC t,aC (.int wd),aC (.int g),aC rs,aC (.int j),aC (.tup w),z1,u1]) h:=by refine(aU (h':=h) ?_).trans rfl;rw[exs,aF (x:=.tup w) rfl,aE,zy (show w.length<1000000 by lia)];exact e1
  simp only[yx,eS,forL,bI,bH,aQ,ir,List.set,eb,aE,e]
theorem Zq{a:Nat}{nb ft:Int}(t0:F a=aC (tB nb ft)){k:Nat}{h:VH}{B:Bd}{ws:List (List W)}{w0:W}{pre post:List W}(b:B.qo)(hr:B.rows=ws++[pre++w0::post])(hw:∀r∈ws,aV B.wd B.gr 0 r)(hp:ek 24 w0)(ho:aV B.wd B.gr 0 pre)(hm:cA w0 (0+pre.length) B.wd B.gr=false):run F (k+7) a [B.w] h=.ok (.int ft) h:=by
 have ve:=b.w2;have hl:∀r∈ws++[pre++w0::post],(r.length:Int)=B.wd:=λr h=>b.r2 r (by rw[hr];exact h);have l0:=hl (pre++w0::post) (nt _ fQ);have e2:=PZ C (ft:=ft) (k:=k+2) (h:=⟨h.n,h.n,h.os⟩) (t:=B.w) (rs:=.tup (B.rows.map .tup)) (wd:=B.wd) (g:=B.gr) (post:=post) hp (by lia) ho hm ws 0 aD aD aD aD λr hr'=>⟨by have:=hl r (Ek _ hr');lia,hw r hr'⟩
 rw[<-hr]at e2;rw[Pr C t0 b e2];exact dj (aZ _) lt_int
end
theorem KW{wd g:Int}:∀(n:Nat) (c:Int),aV wd g c (aR n (.str aH))|0,_=>trivial|n+1,c=>⟨rfl,KW n (c+1)⟩
theorem KY{wd g:Int}:cA (.str dw) 0 wd g=false:=rfl
theorem Zr{c wd g:Int}:cA (.str (Str.ofString "y")) c wd g=false:=rfl
theorem KZ{c wd g:Int}(h:wd-1<=c):cA (.str dD) c wd g=false:=by show decide (c<wd-1)=false;rw[decide_eq_false_iff_not];lia
theorem K0{c wd g:Int}(g0:0<=g):cA (.tup [.int g,.int 0]) c wd g=false:=by
 have:kZ (.tup [.int g,.int 0]) g=false:=by simp only[kZ,within,Bool.and_eq_false_iff,decide_eq_false_iff_not];lia
 unfold cA;rw[this];rfl
theorem P0{cl:Call}{a b:E}{ρ:En}{h h1 h2:VH}{i j:Int}(ea:ev cl a ρ h=.ok (.int i) h1)(eb:ev cl b ρ h1=.ok (.int j) h2):ev cl (.bi .min (.cons a (.cons b .nil))) ρ h=.ok (.int (if j<i then j else i)) h2:=by simp only[ev,ea,eb,aE];rfl
theorem mh{cl:Call}{a b:E}{ρ:En}{h h1 h2:VH}{i j:Int}(ea:ev cl a ρ h=.ok (.int i) h1)(eb:ev cl b ρ h1=.ok (.int j) h2):ev cl (.cmp .eq a b) ρ h=.ok (.bl (decide (i=j))) h2:=by rw[ev,ea,aE,eb,aE];show Res.of (Option.map W.bl (kO h2 (.int i) (.int j))) h2=_;rw[nF];rfl
theorem DC{h:VH}{a:Nat}{ws:List W}{j:Nat}{w:W}(g:h.get a=aC (.lst ws))(e:ws[j]?=aC w):bq h (.ref a) (.int j)=aC w:=by simp only[bq,g];exact L2.wk e
theorem clamp{lo hi v:Int}(h1:lo<=hi):lo<=(if(if v<hi then v else hi)>lo then(if v<hi then v else hi)else lo)/\(if(if v<hi then v else hi)>lo then(if v<hi then v else hi)else lo)<=hi:=by split<;>split<;>lia
section
variable{F:Nat->Option Fn}
theorem Zs(C:CoreD F)(yg:F 703=aC FW){k:Nat}{h:VH}{d c b:Nat}{wl lo hi:Int}(D:Dk h d c b)(hb:b+5<1000000000)(h1:lo<=hi)(h0:0<=lo)(h2:hi<=1000) :
 ∃x y h',run F (k+4) 703 [.ref d,.int wl,.int lo,.int hi] h=.ok (.tup [.int x,.int y]) h'/\lo<=x/\x<=hi/\lo<=y/\y<=hi/\Dk h' d c (b+3)/\bx h h' d c:=by
 rw[cQ yg rfl];have D0:Dk ⟨h.n,h.n,h.os⟩ d c b:=D.lo;obtain⟨r1,g1,e1,l1,D1,K1⟩:=gK C (k:=k) (vi:=0) (ρ:=[aC (.ref d),aC (.int wl),aC (.int lo),aC (.int hi),aD,aD]) (x:=.var 0) (y:=.op .add (.op .sub (.var 3) (.var 2)) (.cst (.int (1)))) (m:=hi-lo+1) D0 (by lia) (by lia) (by lia) (aF rfl) (cR (cR (aF (x:=.int hi) rfl) (aF (x:=.int lo) rfl) rfl) aK rfl);obtain⟨r2,g2,e2,l2,D2,K2⟩:=gK C (k:=k) (vi:=0) (ρ:=[aC (.ref d),aC (.int wl),aC (.int lo),aC (.int hi),aC (.int (lo+r1)),aD]) (x:=.var 0) (y:=.op .add (.op .sub (.var 3) (.var 2)) (.cst (.int (1)))) (m:=hi-lo+1) D1 (by lia) (by lia) (by lia) (aF rfl) (cR (cR (aF (x:=.int hi) rfl) (aF (x:=.int lo) rfl) rfl) aK rfl);have eL:=Dm (cl:=run F (k+3)) (ρ:=[aC (.ref d),aC (.int wl),aC (.int lo),aC (.int hi),aC (.int (lo+r1)),aD]) (h:=g1)
  (aW (a:=.op .sub (.var 1) (.var 4)) (cR (aF (x:=.int wl) rfl) (aF (x:=.int (lo+r1)) rfl) rfl) (aW (a:=.op .sub (.var 1) (.var 4)) (cR (aF (x:=.int wl) rfl) (aF (x:=.int (lo+r1)) rfl) rfl) (aW (a:=.op .sub (.op .add (.var 1) (.cst (.int (1)))) (.var 4)) (cR (cR (aF (x:=.int wl) rfl) aK rfl) (aF (x:=.int (lo+r1)) rfl) rfl) (aW (cR (a:=.var 2) (x:=.int lo) (y:=.int r2) (aF rfl) e2 (show dB .add (.int lo) (.int r2) g2=.ok (.int (lo+r2)) g2 from rfl)) dg)))) rfl
 obtain⟨r3,g3,e3,l3,D3,K3⟩:=gK C (k:=k) (vi:=0) (ρ:=[aC (.ref d),aC (.int wl),aC (.int lo),aC (.int hi),aC (.int (lo+r1)),aD]) (x:=.var 0) (y:=.cst (.int (4))) (m:=4) (D2.new (o:=.lst [.int (wl- (lo+r1)),.int (wl- (lo+r1)),.int (wl+1- (lo+r1)),.int (lo+r2)])) (by lia) (by decide) (by decide) (aF rfl) aK;have ng:g2.n≠d/\g2.n≠c:=by obtain⟨_,ns,cells,p,q,a1,a2,_⟩:=D2;exact⟨lg (dI a1),lg (dI a2)⟩
 have gl:=K3.get g2.n _ ng.1 ng.2 eZ;obtain⟨v,hv⟩:∃v:Int,[W.int (wl- (lo+r1)),.int (wl- (lo+r1)),.int (wl+1- (lo+r1)),.int (lo+r2)][r3]?=aC (.int v):=by
  match r3,l3 with|0,_=>exact⟨_,rfl⟩|1,_=>exact⟨_,rfl⟩|2,_=>exact⟨_,rfl⟩|3,_=>exact⟨_,rfl⟩|n+4,l=>exact absurd l (by lia)
 have eb:exs (run F (k+3)) FW.body [aC (.ref d),aC (.int wl),aC (.int lo),aC (.int hi),aD,aD] ⟨h.n,h.n,h.os⟩=.ok (.rt (.tup [.int (lo+r1),.int (if(if v<hi then v else hi)>lo then(if v<hi then v else hi)else lo)])) g3:=by refine(aU (bU (cR (aF (x:=.int lo) rfl) e1 rfl))).trans ?_;refine(aU (bU (ck eL e3 (DC gl hv)))).trans ?_;exact dm (cY (jg (aF rfl) (KH (aF rfl) (P0 (aF rfl) (aF rfl)))))
 obtain⟨h8,e8,D8,K8⟩:=vg (cl:=run F (k+3)) (fl:=.nx []) eb (.inr ⟨b,D⟩) D3 ((K1.trans K2).new.trans K3);have q:=clamp (v:=v) h1;exact⟨_,_,h8,e8,by lia,by lia,q.1,q.2,D8,K8⟩
theorem Zt(C:l7 F)(yh:F 707=aC FY){k:Nat}{h:VH}{d c b wd nf n:Nat}{gr:Int}(D:Dk h d c b)(hb:b+700<1000000000)(w0:1<=wd)(w1:wd<=40)(n0:1<=nf)(n1:nf<=4)(g0:0<=gr)(g1:gr<=8)(hn:n<=60) :
 ∃B h',run F (k+6) 707 [.ref d,.int wd,.int gr,.int n,.int nf] h=.ok (Bd.w B) h'/\B.Ok/\B.wd=wd/\B.gr=gr/\B.rows.length=n/\B.fd.length=nf/\(∀w∈B.dr,∃p i:Int,w=.tup [.int p,.int i])/\Dk h' d c (b+700)/\bx h h' d c:=by
 rw[cQ yh rfl];have D0:Dk ⟨h.n,h.n,h.os⟩ d c b:=D.lo;obtain⟨m,hm,Dl⟩:∃m:Nat,(if(3:Int)< (n:Int)then(3:Int)else(n:Int))=m/\m<=3/\m<=n:=by split;exact⟨3,rfl,by lia,by lia⟩;exact⟨n,rfl,by lia,by lia⟩
 obtain⟨rs,h1,e1,l1,p1,D1,K1⟩:=Yy C (k:=k) (n:=m) (wd:=wd) (g:=gr) (x:=aD) D0 (by lia) (by lia) g0 (by lia);have s1:=zs2 (cl:=run F (k+5)) (a:=.cons (.bi .min (.cons (.var 3) (.cons (.cst (.int (3))) .nil))) .nil) (ρ:=[aC (.ref d),aC (.int wd),aC (.int gr),aC (.int n),aC (.int nf),aD]) (h:=⟨h.n,h.n,h.os⟩) (h1:=⟨h.n,h.n,h.os⟩) (n:=m) (ow:=1) (ix:=[0,2,1]) (by
  rw[KN (P0 (aF (x:=.int n) rfl) aK),hm]) (by lia) e1 (by rw[bQ];lia)
 let h2:=h1.new (.lst (rs.map .tup));let h3:=h2.new (.lst [.tup (aR wd (.str aH))]);have t1:=λh'=>vh (h:=h') (w:=.str aH) (n:=wd) (by lia);have P4:h2.get h1.n=aC (.lst (rs.map .tup)):=eZ;have La:h3.get h1.n=aC (.lst (rs.map .tup)):=by rw[ju (dI P4)];exact P4
 have Zu:h3.get h2.n=aC (.lst [.tup (aR wd (.str aH))]):=eZ;let h4:=h3.new (.lst (aR (n-rs.length) (.tup (aR wd (.str aH)))));have Zv:h4.get h1.n=aC (.lst (rs.map .tup)):=by rw[ju (dI La)];exact La
 have Zw:h4.get h3.n=aC (.lst (aR (n-rs.length) (.tup (aR wd (.str aH))))):=eZ;let h5:=h4.new (.lst (rs.map .tup++aR (n-rs.length) (.tup (aR wd (.str aH)))));have el:(n:Int)- ((rs.map W.tup).length:Int)=((n-rs.length:Nat):Int):=by rw[bQ];lia
 have s2:ev (run F (k+5)) (.op .add (.var 5) (.op .mul (.lst (.cons (.op .mul (.tup (.cons (.cst (.str (bK "."))) .nil)) (.var 1)) .nil)) (.op .sub (.var 3) (.bi .len (.cons (.var 5) .nil))))) [aC (.ref d),aC (.int wd),aC (.int gr),aC (.int n),aC (.int nf),aC (.ref h1.n)] h2=.ok (.ref h4.n) h5:=by refine cR (aF (x:=.ref h1.n) rfl) (cR (pK (cR (x:=.tup [.str aH]) (jC (aW aK dg) rfl) (aF (x:=.int wd) rfl) (t1 _))) (cR (aF (x:=.int n) rfl) (gC (x:=.ref h1.n) (ws:=rs.map .tup) (h1:=h3) (aF rfl) (by show aQ h3 (.ref h1.n)=_;simp only[aQ,La])) rfl) ?_) (Gf Zv Zw (by rw[bQ,iw];lia));rw[el];exact PC Zu (by lia)
 have hB:(⟨wd,gr,rs++aR (n-rs.length) (aR wd (.str aH)),aR nf (.int 0),aR wd (.tup [.int 0,.int ((nf:Int)-1)])⟩:Bd).w=.tup [.int wd,.int gr,.tup (rs.map .tup++aR (n-rs.length) (.tup (aR wd (.str aH)))),.tup (aR nf (.int 0)),.tup (aR wd (.tup [.int 0,.int ((nf:Int)-1)]))]:=by simp only[Bd.w,vP,List.map_replicate]
 have eb:exs (run F (k+5)) FY.body [aC (.ref d),aC (.int wd),aC (.int gr),aC (.int n),aC (.int nf),aD] ⟨h.n,h.n,h.os⟩=.ok (.rt (Bd.w ⟨wd,gr,rs++aR (n-rs.length) (aR wd (.str aH)),aR nf (.int 0),aR wd (.tup [.int 0,.int ((nf:Int)-1)])⟩)) h5:=by rw[hB];refine(aU (bU (x:=.ref h1.n) (h1:=h2) s1)).trans ?_;refine(aU (bU (x:=.ref h4.n) (h1:=h5) s2)).trans ?_;refine dm (cY (gH (h4:=h5) (aF rfl) (aF rfl) (Dg (i:=5) rfl eZ) ?_ ?_));exact cR (x:=.tup [.int 0]) (jC (aW aK dg) rfl) (aF (x:=.int nf) rfl) (vh (by lia));exact cR (x:=.tup [.tup [.int 0,.int ((nf:Int)-1)]]) (jC (aW (jg aK (cR (aF (x:=.int nf) rfl) aK rfl)) dg) rfl) (aF (x:=.int wd) rfl) (vh (by lia))
 obtain⟨h8,e8,D8,K8⟩:=vg (cl:=run F (k+5)) (fl:=.nx []) eb (.inr ⟨b,D⟩) (D1.new.new.new.new.mono (show _<=b+700 by lia)) K1.new.new.new.new;refine⟨_,h8,e8,⟨by show(1:Int)<=wd;lia,by show(wd:Int)<=40;lia,g0,g1,?_,?_,?_,?_,?_,?_,?_⟩,rfl,rfl,?_,?_,?_,D8,K8⟩;show(rs++aR (n-rs.length) (aR wd (W.str aH))).length<=60;rw[dY,iw];lia;intro r hr;rcases pV.mp hr with hr|hr;exact p1 r hr;obtain rfl:=Eh hr;exact⟨by rw[iw],KW _ _⟩;show 1<=(aR nf (W.int 0)).length;rw[iw];exact n0;show(aR nf (W.int 0)).length<=4;rw[iw];exact n1;intro w hw;obtain rfl:=Eh hw;simp only[within,aS,fF];lia;show((aR wd (W.tup [.int 0,.int ((nf:Int)-1)])).length:Int)=wd;rw[iw];intro w hw;obtain rfl:=Eh hw;show door (.tup [.int 0,.int ((nf:Int)-1)]) ((aR nf (W.int 0)).length:Int)=true;rw[iw];simp only[door,within,m9,bL,aS,k8,fF];lia;show(rs++aR (n-rs.length) (aR wd (W.str aH))).length=n;rw[dY,iw];lia;show(aR nf (W.int 0)).length=nf;rw[iw];intro w hw;obtain rfl:=Eh hw;exact⟨_,_,rfl⟩
end
noncomputable abbrev aM:Str:=Str.ofString "told"
noncomputable abbrev k7:Str:=Str.ofString "board"
noncomputable abbrev nI:Str:=Str.ofString "fault"
noncomputable abbrev tL:Str:=Str.ofString "fit"
noncomputable abbrev pL:Str:=Str.ofString "great"
noncomputable def Lb(e:E)(z:Str):E:=.tup (.cons e (.cons (.cst (.str z)) .nil))
noncomputable def iO(e:E)(z:Str):S:=.seq (.ret (Lb e z)) .skip
noncomputable def w5(a b c d e:E):E:=.tup (.cons a (.cons b (.cons c (.cons d (.cons e .nil)))))
noncomputable def zF(i:Int)(e:E)(z:Str)(X:S):S:=.seq (.ite (.cmp .eq (.var 2) (.cst (.int i))) (iO e z) .skip) X
noncomputable def mj:E:=w5 (.var 3) (.var 4) (.op .add (.slc (.var 5) false (.cst .aN) true (.cst (.int (59)))) (.tup (.cons (.var 8) .nil))) (.var 6) (.var 7)
noncomputable def Lc:S:=.seq (.set 8 w8) (.seq (.ite (.cmp .eq (.var 2) (.cst (.int (9)))) (.seq (.set 8 w9) .skip) .skip) (iO mj nI))
noncomputable def DE:S:=zF 2 (.cst .aN) k7 (zF 3 (w5 (.var 3) (.var 4) (.bi .list (.cons (.var 5) .nil)) (.var 6) (.var 7)) k7 (zF 4 (w5 (.var 3) (.cst (.int (9))) (.var 5) (.var 6) (.var 7)) k7 (zF 5 (w5 (.var 3) (.var 4) (.var 5) (.var 6) (.slc (.var 7) true (.cst (.int (1))) false (.cst .aN))) k7 Lc)))
theorem Zx:xK=⟨2,9,.seq (.set 2 (.call 5 (.cons (.var 0) (.cons (.cst (.int (10))) .nil)))) (.seq (.jo [3,4,5,6,7] (.var 1)) (.seq (.ite (.cmp .lt (.var 2) (.cst (.int (2)))) (iO (.var 1) aM) .skip) DE))⟩:=rfl
noncomputable def Lk(F:Nat->Option Fn)(d c:Nat)(B:Bd)(h:VH)(w:W)(z:Str):Prop:=
 (z=aM/\w=B.w)\/∃i:Int,(z=k7/\i=37\/z=nI/\i=56)/\∀h2,bx h h2 d c->∀k,run F (k+7) 710 [w] h2=.ok (.int i) h2
theorem Lk.keep{F:Nat->Option Fn}{d c:Nat}{B:Bd}{h h':VH}{w:W}{z:Str}(l:Lk F d c B h w z)(K:bx h h' d c):Lk F d c B h' w z:=by rcases l with l|⟨i,a,b⟩;exact .inl l;exact .inr ⟨i,a,λh2 K2=>b h2 (K.trans K2)⟩
theorem Zy{h h':VH}{w:W}(hw:W.lt h.n w=false):∃h2,fin h (.ok (.rt w) h')=.ok w h2/\h2.n=h'.n/\∀i,h2.get i=h'.get i:=by refine⟨⟨h'.n,if Nat.ble h.lo h'.lo then h.lo else h'.lo,h'.os⟩,?_,rfl,λi=>bR⟩;show leave h w h'=_;unfold leave;rw[if_neg (by rw[hw,Bool.and_false];exact ic)]
theorem Dk.same{h h':VH}{d c b:Nat}(D:Dk h d c b)(e:∀i,h'.get i=h.get i):Dk h' d c b:=by obtain⟨ne,ns,cells,p,q,a1,a2,a3⟩:=D;exact⟨ne,ns,cells,p,q,by rw[e];exact a1,by rw[e];exact a2,a3⟩
theorem DF{ws:List W}:gy ws aD (aC 59)=ws.take 59:=by unfold gy;rw[HT.iA,show(59:Int)=((59:Nat):Int)from rfl,HT.ig,zS,Nat.sub_zero];by_cases h:59<=ws.length;rw[Nat.min_eq_left h];rw[Nat.min_eq_right (by lia),List.take_length,Ej (by lia)]
theorem Zz{ws:List W}:gy ws (aC 1) aD=ws.drop 1:=by unfold gy;rw[HT.iA,show(1:Int)=((1:Nat):Int)from rfl,HT.ig];by_cases h:1<=ws.length;rw[Nat.min_eq_left h,Ej (by rw[zP];exact aZ _)];rw[show ws=[]from List.length_eq_zero_iff.mp (by lia)];rfl
section
variable{F:Nat->Option Fn}{cl:Call}{B:Bd}{h:VH}{d t:Nat}
noncomputable def wE(d t:Nat)(B:Bd)(x:Option W):En:=[aC (.ref d),aC B.w,aC (.int t),aC (.int B.wd),aC (.int B.gr),aC (.tup (B.rows.map .tup)),aC (.tup B.fd),aC (.tup B.dr),x]
theorem Gm{e:E}{z:Str}{ρ:En}{w:W}{h1:VH}(q:ev cl e ρ h=.ok w h1):exs cl (iO e z) ρ h=.ok (.rt (.tup [w,.str z])) h1:=dm (cY (jg q aK))
theorem Gn{i:Int}{e:E}{z:Str}{X:S}{x:Option W}(hi:(t:Int)≠i):exs cl (zF i e z X) (wE d t B x) h=exs cl X (wE d t B x) h:=by have c:=mh (cl:=cl) (a:=.var 2) (b:=.cst (.int i)) (ρ:=wE d t B x) (h:=h) (aF rfl) aK;rw[gq hi]at c;exact aU ((cP c).trans gO)
theorem Gp{i:Int}{e:E}{z:Str}{X:S}{x:Option W}{w:W}{h1:VH}(hi:(t:Int)=i)(q:ev cl e (wE d t B x) h=.ok w h1):exs cl (zF i e z X) (wE d t B x) h=.ok (.rt (.tup [w,.str z])) h1:=by have c:=mh (cl:=cl) (a:=.var 2) (b:=.cst (.int i)) (ρ:=wE d t B x) (h:=h) (aF rfl) aK;rw[jD hi]at c;exact dm ((cZ c).trans (Gm q))
theorem P5{x:Option W}(b:B.Ok):ev cl pB (wE d t B x) h=.ok (.tup (aR (B.wd.toNat-1) (.str aH))) h:=by
 have h1:=b.w1;have h2:=b.w2;have e:B.wd-1=((B.wd.toNat-1:Nat):Int):=by lia
 refine cR (x:=.tup [.str aH]) (y:=.int (B.wd-1)) (jC (aW aK dg) rfl) (cR (aF (x:=.int B.wd) rfl) aK rfl) ?_;rw[e];exact vh (by lia)
noncomputable def gP(g:Int)(t:Nat):W:=if t=7 then .tup [.int g,.int 0]else if t=8 then .str (Str.ofString "y")else .str dw
theorem DG{x:Option W}(b:B.Ok)(t6:6<=t)(t9:t<=9):∃h1,ev cl w8 (wE d t B x) h=.ok (.tup (gP B.gr t::aR (B.wd.toNat-1) (.str aH))) h1/\Gw h h1:=by
 have h2:=b.w2;let L3:List W:=[.str dw,.tup [.int B.gr,.int 0],.str (Str.ofString "y")]
 let h1:=h.new (.lst L3);let h3:=h1.new (.lst (L3++L3));have eL:ev cl (.lst (.cons (.cst (.str (bK "<"))) (.cons (.tup (.cons (.var 4) (.cons (.cst (.int (0))) .nil))) (.cons (.cst (.str (bK "y"))) .nil)))) (wE d t B x) h=.ok (.ref h.n) h1:=
  Dm (aW aK (aW (jg (aF (x:=.int B.gr) rfl) aK) (aW aK dg))) rfl
 have eM:dB .mul (.ref h.n) (.int 2) h1=.ok (.ref h1.n) h3:=PB eZ rfl;have ei:(t:Int)-6=((t-6:Nat):Int):=by lia
 have ea:(L3++L3)[t-6]?=aC (gP B.gr t):=by
  match t,t6,t9 with|6,_,_=>rfl|7,_,_=>rfl|8,_,_=>rfl|9,_,_=>rfl|n+10,_,l=>exact absurd l (by lia)
 refine⟨h3,?_,Gw.refl.new.new⟩;refine cR (x:=.tup [gP B.gr t]) (h1:=h3) (h2:=h3) (jC (aW (ck (h1:=h3) (h2:=h3) (cR eL aK eM) (cR (aF (x:=.int t) rfl) aK rfl) ?_) dg) rfl) (P5 b) (tG (by rw[iR,iw];lia));rw[ei];exact DC eZ ea
theorem DH{x:Option W}(b:B.Ok):ev cl w9 (wE d t B x) h=.ok (.tup (aR (B.wd.toNat-1) (.str aH)++[.str dD])) h:=by have h2:=b.w2;exact cR (P5 b) (jC (aW aK dg) rfl) (tG (by rw[iR,iw];lia))
noncomputable def tN(B:Bd)(r:List W):Bd:=⟨B.wd,B.gr,B.rows.take 59++[r],B.fd,B.dr⟩
theorem P6{r:List W}(b:B.Ok):ev cl mj (wE d t B (aC (.tup r))) h=.ok (tN B r).w h:=by refine(gH (h3:=h) (h4:=h) (h5:=h) (aF rfl) (aF rfl) (cR (x:=.tup ((B.rows.map .tup).take 59)) (xX (aF rfl) aK aK (l':=aD) (u':=aC 59) rfl rfl ?_) (jC (aW (aF rfl) dg) rfl) (tG ?_)) (aF rfl) (aF rfl)).trans ?_;show jr (.tup (B.rows.map .tup)) aD (aC 59) h=_;simp only[jr,DF];rw[yw,iR];lia;unfold tN Bd.w;simp only[vP,eS,nu,List.map_take]
theorem ZC{r:List W}(b:B.Ok)(hr:(r.length:Int)=B.wd):(tN B r).qo:=⟨b.w1,b.w2,b.g1,b.g2,by
 show(B.rows.take 59++[r]).length<=60;rw[dY,yw,iR];lia,λq hq=>by
 rcases pV.mp hq with hq|hq;exact(b.r2 q (List.mem_of_mem_take hq)).1;rw[Eo.mp hq];exact hr,b.f1,b.f2,b.f3,b.d1,b.d2⟩
end
section
variable{F:Nat->Option Fn}(C:fL F)(C5:CoreD F)(t0:F 710=aC (tB 37 56))(tO:F 708=aC xK)
include C t0
theorem Gq{d c:Nat}{h:VH}{w:W}(e:∀h2,bx h h2 d c->∀k,run F (k+6) 10 [w] h2=.ok (.bl false) h2){B:Bd}:Lk F d c B h w k7:=
 .inr ⟨37,.inl ⟨rfl,rfl⟩,λh2 K k=>YS t0 (e ⟨h2.n,h2.n,h2.os⟩ ⟨K.le,λi o a b g=>by rw[bR];exact K.get i o a b g⟩ k)⟩
theorem P7{d c:Nat}{h:VH}{B:Bd}(b:B.Ok){w0:W}{pre post:List W}(hl:((pre++w0::post).length:Int)=B.wd)(hp:ek 24 w0)(ho:aV B.wd B.gr 0 pre)(hm:cA w0 (0+pre.length) B.wd B.gr=false):Lk F d c B h (tN B (pre++w0::post)).w nI:=
 .inr ⟨56,.inr ⟨rfl,rfl⟩,λh2 K k=>Zq C t0 (ZC b hl) rfl (λr hr=>(b.r2 r (List.mem_of_mem_take hr)).2) hp ho hm⟩
include C5 tO
theorem ZD{k:Nat}{h:VH}{d c b:Nat}{B:Bd}(bo:B.Ok)(D:Dk h d c b)(hb:b+5<1000000000) :
 ∃w z h',run F (k+4) 708 [.ref d,B.w] h=.ok (.tup [w,.str z]) h'/\Lk F d c B h' w z/\Dk h' d c (b+1)/\bx h h' d c:=by
 rw[cQ tO rfl];have D0:Dk ⟨h.n,h.n,h.os⟩ d c b:=D.lo;have b1:=bo.w1;have b2:=bo.w2;obtain⟨t,h1,e1,l1,D1,K1⟩:=gK C5 (k:=k) (vi:=0) (ρ:=[aC (.ref d),aC B.w,aD,aD,aD,aD,aD,aD,aD]) (x:=.var 0) (y:=.cst (.int (10))) (m:=10) D0 (by lia) (by decide) (by decide) (aF rfl) aK;have hd:d<h.n/\c<h.n:=by obtain⟨_,ns,cells,p,q,a1,a2,_⟩:=D;exact⟨dI a1,dI a2⟩
 have s0:∀{fl:Res Fl},exs (run F (k+3)) (.seq (.ite (.cmp .lt (.var 2) (.cst (.int (2)))) (iO (.var 1) aM) .skip) DE) (wE d t B aD) h1=fl->exs (run F (k+3)) xK.body [aC (.ref d),aC B.w,aD,aD,aD,aD,aD,aD,aD] ⟨h.n,h.n,h.os⟩=fl:=λ{fl} q=>by
  rw[Zx];refine(aU (bU e1)).trans ((aU (ρ':=wE d t B aD) (h':=h1) ?_).trans q);rw[exs,aF (x:=B.w) rfl,aE];rfl
 have out:∀{w:W}{z:Str}{h2:VH},exs (run F (k+3)) (.seq (.ite (.cmp .lt (.var 2) (.cst (.int (2)))) (iO (.var 1) aM) .skip) DE) (wE d t B aD) h1=.ok (.rt (.tup [w,.str z])) h2->Dk h2 d c (b+1)->bx h1 h2 d c->(∀h',Lk F d c B h' w z)->
  ∃w z h',fin h (exs (run F (k+3)) xK.body [aC (.ref d),aC B.w,aD,aD,aD,aD,aD,aD,aD] ⟨h.n,h.n,h.os⟩)=.ok (.tup [w,.str z]) h'/\Lk F d c B h' w z/\Dk h' d c (b+1)/\bx h h' d c:=λ{w z h2} q D2 K2 L=>by
  obtain⟨h8,e8,D8,K8⟩:=vg (cl:=run F (k+3)) (fl:=.nx []) (s0 q) (.inr ⟨b,D⟩) D2 (K1.trans K2);exact⟨w,z,h8,e8,L h8,D8,K8⟩
 have c0:=KL (cl:=run F (k+3)) (a:=.var 2) (b:=.cst (.int 2)) (ρ:=wE d t B aD) (h:=h1) (aF rfl) aK;show ∃w z h',fin h (exs (run F (k+3)) xK.body [aC (.ref d),aC B.w,aD,aD,aD,aD,aD,aD,aD] ⟨h.n,h.n,h.os⟩)=.ok (.tup [w,.str z]) h'/\Lk F d c B h' w z/\Dk h' d c (b+1)/\bx h h' d c;by_cases t2:t<2;rw[jD (show(t:Int)<2 by lia)]at c0;exact out (dm ((cZ c0).trans (Gm (aF rfl)))) D1 .refl λh'=>.inl ⟨rfl,rfl⟩;rw[gq (show ¬(t:Int)<2 by lia)]at c0;have s1:=λX=>aU (b:=X) ((cP (a:=iO (.var 1) aM) (b:=.skip) c0).trans gO);by_cases q2:t=2;exact out ((s1 _).trans (Gp (by lia) aK)) D1 .refl λh'=>Gq C t0 λh2 K k=>YT C (by simp[Kn]) rfl;have n2:=λe z X=>Gn (cl:=run F (k+3)) (B:=B) (h:=h1) (d:=d) (t:=t) (e:=e) (z:=z) (X:=X) (x:=aD) (i:=2) (by lia);by_cases q3:t=3;have y:exs (run F (k+3)) (.seq (.ite (.cmp .lt (.var 2) (.cst (.int (2)))) (iO (.var 1) aM) .skip) DE) (wE d t B aD) h1=.ok (.rt (.tup [.tup [.int B.wd,.int B.gr,.ref h1.n,.tup B.fd,.tup B.dr],.str k7])) (h1.new (.lst (B.rows.map .tup))):=(s1 _).trans ((n2 _ _ _).trans (Gp (cl:=run F (k+3)) (i:=3) (e:=w5 (.var 3) (.var 4) (.bi .list (.cons (.var 5) .nil)) (.var 6) (.var 7)) (by lia) (gH (h3:=h1.new (.lst (B.rows.map .tup))) (h4:=h1.new (.lst (B.rows.map .tup))) (h5:=h1.new (.lst (B.rows.map .tup))) (aF rfl) (aF rfl) (listE (aF rfl) rfl) (aF rfl) (aF rfl))));have hn:h.n<=h1.n:=K1.le;obtain⟨h8,e8,n8,g8⟩:=Zy (h:=h) (h':=h1.new (.lst (B.rows.map .tup))) (w:=.tup [.tup [.int B.wd,.int B.gr,.ref h1.n,.tup B.fd,.tup B.dr],.str k7]) (by
  have z:W.lt h.n (.ref h1.n)=false:=by simp only[W.lt];rw[Ea];exact λz=>absurd (i8.mp z) (by lia)
  rw[cg,cz,cg,cz,cz,cz,z];simp)
 have ZE:h8.get h1.n=aC (.lst (B.rows.map .tup)):=by rw[g8];exact eZ
 rw[s0 y];refine⟨_,_,h8,e8,Gq C t0 λh2 K k=>Zn C bo.C6 (K.get h1.n _ (by lia) (by lia) ZE),(D1.new (o:=.lst (B.rows.map .tup))).same g8,⟨?_,λi o a b' e=>?_⟩⟩;rw[n8];exact zT hn;rw[g8];have e2:=K1.get i o a b' (by rw[bR];exact e);rw[ju (dI e2)];exact e2;have n3:=λe z X=>Gn (cl:=run F (k+3)) (B:=B) (h:=h1) (d:=d) (t:=t) (e:=e) (z:=z) (X:=X) (x:=aD) (i:=3) (by lia);by_cases q4:t=4;exact out ((s1 _).trans ((n2 _ _ _).trans ((n3 _ _ _).trans (Gp (by lia) (gH (h3:=h1) (h4:=h1) (h5:=h1) (aF rfl) aK (aF rfl) (aF rfl) (aF rfl)))))) D1 .refl λh'=>Gq C t0 λh2 K k=>Zo C bo.C6 rfl;have n4:=λe z X=>Gn (cl:=run F (k+3)) (B:=B) (h:=h1) (d:=d) (t:=t) (e:=e) (z:=z) (X:=X) (x:=aD) (i:=4) (by lia);by_cases q5:t=5;exact out ((s1 _).trans ((n2 _ _ _).trans ((n3 _ _ _).trans ((n4 _ _ _).trans (Gp (by lia) (gH (h3:=h1) (h4:=h1) (h5:=h1) (aF rfl) (aF rfl) (aF rfl) (aF rfl) (xX (aF rfl) aK aK (l':=aC 1) (u':=aD) rfl rfl (w:=.tup (gy B.dr (aC 1) aD)) rfl))))))) D1 .refl λh'=>Gq C t0 λh2 K k=>Zp C bo.C6 (by
  have hd:=bo.d1;rw[Zz,zP];lia)
 have n5:=λe z X=>Gn (cl:=run F (k+3)) (B:=B) (h:=h1) (d:=d) (t:=t) (e:=e) (z:=z) (X:=X) (x:=aD) (i:=5) (by lia);obtain⟨h3,e3,G3⟩:=DG (cl:=run F (k+3)) (B:=B) (h:=h1) (d:=d) (t:=t) (x:=aD) bo (by lia) (by lia);have p6:exs (run F (k+3)) Lc (wE d t B aD) h1=exs (run F (k+3)) (.seq (.ite (.cmp .eq (.var 2) (.cst (.int (9)))) (.seq (.set 8 w9) .skip) .skip) (iO mj nI)) (wE d t B (aC (.tup (gP B.gr t::aR (B.wd.toNat-1) (.str aH))))) h3:=aU (bU e3);have pre:exs (run F (k+3)) (.seq (.ite (.cmp .lt (.var 2) (.cst (.int (2)))) (iO (.var 1) aM) .skip) DE) (wE d t B aD) h1=exs (run F (k+3)) (.seq (.ite (.cmp .eq (.var 2) (.cst (.int (9)))) (.seq (.set 8 w9) .skip) .skip) (iO mj nI)) (wE d t B (aC (.tup (gP B.gr t::aR (B.wd.toNat-1) (.str aH))))) h3:=(s1 _).trans ((n2 _ _ _).trans ((n3 _ _ _).trans ((n4 _ _ _).trans ((n5 _ _ Lc).trans p6))));have D3:Dk h3 d c (b+1):=by obtain⟨ne,ns,cells,p,q,a1,a2,a3⟩:=D1;exact⟨ne,ns,cells,p,q,G3.get _ _ a1,G3.get _ _ a2,a3⟩
 have K3:bx h1 h3 d c:=⟨G3.le,λi o _ _ e=>G3.get i o e⟩
 have c9:=mh (cl:=run F (k+3)) (a:=.var 2) (b:=.cst (.int 9)) (ρ:=wE d t B (aC (.tup (gP B.gr t::aR (B.wd.toNat-1) (.str aH))))) (h:=h3) (aF rfl) aK;by_cases q9:t=9;rw[jD (show(t:Int)=9 by lia)]at c9;refine out (pre.trans ((aU ((cZ c9).trans ((aU (bU (DH bo))).trans gO))).trans (Gm (P6 (d:=d) (t:=t) bo)))) D3 K3 λh'=>P7 C t0 bo (post:=[]) ?_ (by decide +kernel) (KW _ _) (KZ ?_);rw[dY,iw,iR];lia;rw[iw];lia;rw[gq (show ¬(t:Int)=9 by lia)]at c9;refine out (pre.trans ((aU ((cP c9).trans gO)).trans (Gm (P6 (d:=d) (t:=t) bo)))) D3 K3 λh'=>P7 C t0 bo (pre:=[]) ?_ ?_ trivial ?_;rw[mD,eK,iw];lia;unfold gP;split;rfl;split<;>decide +kernel;unfold gP;rw[tX];split;exact K0 bo.g1;split;exact Zr;exact KY
end
noncomputable abbrev kq:List (Nat×Nat):=[(317,96),(346,120),(448,704),(453,705)]
noncomputable abbrev nj:List (Nat×Nat):=[(261,710),(317,711),(346,712)]
noncomputable abbrev Ld:List (Nat×W):=[(37,.str (Str.ofString "board")),(56,.str (Str.ofString "fault")),(128,.str (Str.ofString "fit")),(140,.str (Str.ofString "great"))]
theorem eqStr{h:VH}{x y:Str}(hx:PyData.strOk x)(hy:PyData.strOk y):kO h (.str x) (.str y)=aC (x==y):=by rw[zz (w:=.str x) (by simpa[ek]using hx) hy,Yw]
theorem mq{cl:Call}{a b:E}{ρ:En}{h h1 h2:VH}{x y:Str}(ea:ev cl a ρ h=.ok (.str x) h1)(eb:ev cl b ρ h1=.ok (.str y) h2)(hx:PyData.strOk x)(hy:PyData.strOk y):ev cl (.cmp .ne a b) ρ h=.ok (.bl (!(x==y))) h2:=by rw[ev,ea,aE,eb,aE];show Res.of (Option.map W.bl (Option.map _ (kO h2 (.str x) (.str y)))) h2=_;rw[eqStr hx hy];rfl
noncomputable def iZ(z1 z2 due:Str):Str:=if z1==aM then(if z2==aM then due else z2)else z1
theorem Le{nx:Nat->VH->Option (Option W)}{tg:W->VH->En->Option En}{c e:FE}{h:VH}{ρ qf Gs:En}{p1 p2 y1 y2:W}{b1 b2:Bool}{m:Nat}(n0:nx 0 h=aC (aC p1))(n1:nx 1 h=aC (aC p2))(n2:nx 2 h=aC aD)(t1:tg p1 h ρ=aC qf)(t2:tg p2 h qf=aC Gs)(c1:c qf h=.ok (.bl b1) h)(c2:c Gs h=.ok (.bl b2) h)(e1:e qf h=.ok y1 h)(e2:e Gs h=.ok y2 h) :
 gE nx tg c e (m+3) 0 ρ h []=.ok ((if b1 then [y1]else [])++(if b2 then [y2]else [])) h:=by
 cases b1<;>cases b2<;>simp[gE,n0,n1,n2,t1,t2,c1,c2,e1,e2,aE]
section
variable{F:Nat->Option Fn}
theorem yi(fP:F 706=aC sG){k m t:Nat}{h:VH}{w u:W}{i:Int}{z:Str}(hm:nj.lookup m=aC t)(e:run F k t [w,u] ⟨h.n,h.n,h.os⟩=.ok (.int i) ⟨h.n,h.n,h.os⟩)(hz:Ld.lookup i.toNat=aC (.str z)):run F (k+1) 706 [.bN m,w,u] h=.ok (.str z) h:=by
 rw[cQ fP rfl];show fin h (exs (run F k) sG.body [aC (.bN m),aC w,aC u,aD] ⟨h.n,h.n,h.os⟩)=_;unfold sG;rw[dm (w:=.str z) (h':=⟨h.n,h.n,h.os⟩) (by
  rw[exs,show gf nj [aC (.bN m),aC w,aC u,aD] 0=aC t from hm];show(ev (run F k) (.cons (.var 1) (.cons (.var 2) .nil)) [aC (.bN m),aC w,aC u,aD] ⟨h.n,h.n,h.os⟩).bind _=_;rw[aW (aF rfl) (aW (aF rfl) dg),aE];show(run F k t [w,u] ⟨h.n,h.n,h.os⟩).bind _=_;rw[e,aE];unfold jV;simp only[hz])]
 exact dj (aZ _) lt_str
theorem P8(fP:F 706=aC sG){k m t:Nat}{h:VH}{w u v:W}(hm:nj.lookup m=aC t)(e:run F k t [w,u] ⟨h.n,h.n,h.os⟩=.ok (.tup [v]) ⟨h.n,h.n,h.os⟩):run F (k+1) 706 [.bN m,w,u] h=.ok (.str aM) h:=by
 rw[cQ fP rfl];show fin h (exs (run F k) sG.body [aC (.bN m),aC w,aC u,aD] ⟨h.n,h.n,h.os⟩)=_;unfold sG;rw[aU (ρ':=[aC (.bN m),aC w,aC u,aD]) (h':=⟨h.n,h.n,h.os⟩) (by
  rw[exs,show gf nj [aC (.bN m),aC w,aC u,aD] 0=aC t from hm];show(ev (run F k) (.cons (.var 1) (.cons (.var 2) .nil)) [aC (.bN m),aC w,aC u,aD] ⟨h.n,h.n,h.os⟩).bind _=_;rw[aW (aF rfl) (aW (aF rfl) dg),aE];show(run F k t [w,u] ⟨h.n,h.n,h.os⟩).bind _=_;rw[e];rfl),dm (cY aK)]
 exact dj (aZ _) lt_str
theorem ZF(C:fL F)(t0:F 710=aC (tB 37 56))(fP:F 706=aC sG){k d c m t n:Nat}{X:S}{h:VH}{A B:Bd}{w u:W}{z1 z2 due:Str}(hm:nj.lookup m=aC t)(ht:F t=aC ⟨2,n,nc X⟩)(a:A.Ok)(l1:Lk F d c A h w z1)(l2:Lk F d c B h u z2)(hd:w=A.w->u=B.w->∀h2,run F (k+9) 706 [.bN m,A.w,B.w] h2=.ok (.str due) h2){h2:VH}(K:bx h h2 d c) :
 run F (k+9) 706 [.bN m,w,u] h2=.ok (.str (iZ z1 z2 due)) h2/\(z1=aM/\w=A.w\/z1=k7\/z1=nI)/\(z2=aM/\u=B.w\/z2=k7\/z2=nI):=by
 have K':bx h ⟨h2.n,h2.n,h2.os⟩ d c:=⟨K.le,λi o a b g=>by rw[bR];exact K.get i o a b g⟩
 have K'':bx h ⟨h2.n,h2.n,h2.os⟩ d c:=K';rcases l1 with⟨rfl,rfl⟩|⟨i,q,e⟩
 have ea:=Dp C t0 (k:=k) (h:=⟨h2.n,h2.n,h2.os⟩) a;rcases l2 with⟨rfl,rfl⟩|⟨i,q,e⟩
 exact⟨hd rfl rfl h2,.inl ⟨rfl,rfl⟩,.inl ⟨rfl,rfl⟩⟩;have e':=Dv (k:=k) (h:=⟨h2.n,h2.n,h2.os⟩) ht ea (e ⟨h2.n,h2.n,h2.os⟩ K' k);rcases q with⟨rfl,rfl⟩|⟨rfl,rfl⟩
 exact⟨yi fP hm e' rfl,.inl ⟨rfl,rfl⟩,.inr (.inl rfl)⟩;exact⟨yi fP hm e' rfl,.inl ⟨rfl,rfl⟩,.inr (.inr rfl)⟩;have e':=Du (k:=k) (h:=⟨h2.n,h2.n,h2.os⟩) (u:=u) ht (e ⟨h2.n,h2.n,h2.os⟩ K' k);have P9:z2=aM/\u=B.w\/z2=k7\/z2=nI:=by rcases l2 with l2|⟨j,q2,_⟩;exact .inl l2;exact .inr (q2.imp (λx=>x.1) λx=>x.1)
 rcases q with⟨rfl,rfl⟩|⟨rfl,rfl⟩;exact⟨yi fP hm e' rfl,.inr (.inl rfl),P9⟩;exact⟨yi fP hm e' rfl,.inr (.inr rfl),P9⟩
theorem ZG(yj:F 700=aC zw){k m p fm fp l:Nat}{h:VH}{w u:W}{z1 z2 due:Str}(g:h.get l=aC (.lst [.tup [w,.str z1],.tup [u,.str z2]]))(o1:PyData.strOk z1)(o2:PyData.strOk z2)(o3:PyData.strOk due=true)
 (hr:∀h2,h.n<=h2.n->(∀i o,h.get i=aC o->h2.get i=aC o)->run F k 706 [.bN m,w,u] h2=.ok (.str (iZ z1 z2 due)) h2) (hm:kq.lookup m=aC fm) (hp:kq.lookup p=aC fp)
 (ho:(iZ z1 z2 due==aM)=true->∃v,ek 24 v=true/\∀h2,run F k fm [w,u] h2=.ok v h2/\run F k fp [w,u] h2=.ok v h2):run F (k+1) 700 [.bN m,.ref l,.str due,.bN p] h=.ok (.bl true) h:=by
 rw[cQ yj rfl];have oT:PyData.strOk aM=true:=by decide +kernel
 let h0:VH:=⟨h.n,h.n,h.os⟩
 have g0:h0.get l=aC (.lst [.tup [w,.str z1],.tup [u,.str z2]]):=by rw[show h0=⟨h.n,h.n,h.os⟩from rfl,bR];exact g
 obtain⟨ZH,hf⟩:∃m',fuel=m'+3:=⟨999997,rfl⟩
 let ys:List W:=(if !(z1==aM)then [.str z1]else [])++(if !(z2==aM)then [.str z2]else []);have nx:∀i,bZ .seq (.ref l) i h0=aC [W.tup [w,.str z1],.tup [u,.str z2]][i]?:=λi=>by
  simp only[bZ,aQ,g0];rfl
 have s1:ev (run F k) (.lc .seq (.var 1) (.many [0,1]) 2 [] JY JZ) [aC (.bN m),aC (.ref l),aC (.str due),aC (.bN p),aD,aD,aD,aD] h0=.ok (.ref h0.n) (h0.new (.lst ys)):=by
  rw[ev,aF (x:=.ref l) rfl,aE,hf];rw[show inner 2 [] [aC (.bN m),aC (.ref l),aC (.str due),aC (.bN p),aD,aD,aD,aD]=[aD,aD]from rfl,Le (nx:=bZ .seq (.ref l)) (tg:=bH (.many [0,1])) (c:=ev (run F k) JY) (e:=ev (run F k) JZ) (ρ:=[aD,aD]) (h:=h0) (m:=ZH) (qf:=[aC w,aC (.str z1)]) (Gs:=[aC u,aC (.str z2)]) (p1:=.tup [w,.str z1]) (p2:=.tup [u,.str z2]) (y1:=.str z1) (y2:=.str z2) (b1:=!(z1==aM)) (b2:=!(z2==aM)) (nx 0) (nx 1) (nx 2) rfl rfl (mq (aF rfl) aK o1 oT) (mq (aF rfl) aK o2 oT) (aF rfl) (aF rfl),aE];rw[if_pos (qt (by
   show ys.length<=1000000;cases q1:(z1==aM)<;>cases q2:(z2==aM)<;>simp[ys,q1,q2]))]
 let h1:=h0.new (.lst ys);let h2:=h1.new (.lst [.str due]);let h3:=h2.new (.lst (ys++[.str due]));have Qa:h1.get h0.n=aC (.lst ys):=eZ;have ZJ:h2.get h0.n=aC (.lst ys):=by rw[ju (dI Qa)];exact Qa
 have hat:(ys++[W.str due])[0]?=aC (.str (iZ z1 z2 due)):=by unfold iZ;cases q1:(z1==aM)<;>cases q2:(z2==aM)<;>simp[ys,q1,q2]
 have s2:ev (run F k) (.idx (.op .add (.var 4) (.lst (.cons (.var 2) .nil))) (.cst (.int (0)))) [aC (.bN m),aC (.ref l),aC (.str due),aC (.bN p),aC (.ref h0.n),aD,aD,aD] h1=.ok (.str (iZ z1 z2 due)) h3:=
  ck (cR (aF rfl) (pK (aF rfl)) (Gf ZJ eZ (by
   show ys.length+1<=1000000;cases q1:(z1==aM)<;>cases q2:(z2==aM)<;>simp[ys,q1,q2]))) aK (DC (j:=0) eZ hat)
 have G3:Gw h0 h3:=Gw.refl.new.new.new;have g3:=G3.get _ _ g0;have s3:ev (run F k) (.tup (.cons (.idx (.idx (.var 1) (.cst (.int (0)))) (.cst (.int (0)))) (.cons (.idx (.idx (.var 1) (.cst (.int (1)))) (.cst (.int (0)))) .nil))) [aC (.bN m),aC (.ref l),aC (.str due),aC (.bN p),aC (.ref h0.n),aC (.str (iZ z1 z2 due)),aD,aD] h3=.ok (.tup [w,u]) h3:=
  jg (ck (ck (aF rfl) aK (DC (j:=0) g3 rfl)) aK rfl) (ck (ck (aF rfl) aK (DC (j:=1) g3 rfl)) aK rfl)
 have oF:PyData.strOk (iZ z1 z2 due)=true:=by unfold iZ;split;split;exact o3;exact o2;exact o1
 have er:run F k 706 [.bN m,w,u] h3=.ok (.str (iZ z1 z2 due)) h3:=hr h3 G3.le λi o e=>G3.get i o (by rw[show h0.get i=h.get i from bR];exact e);have c4:ev (run F k) (.cmp .ne (.call 706 (.cons (.var 0) (.cons (.var 6) (.cons (.var 7) .nil)))) (.var 5)) [aC (.bN m),aC (.ref l),aC (.str due),aC (.bN p),aC (.ref h0.n),aC (.str (iZ z1 z2 due)),aC w,aC u] h3=.ok (.bl false) h3:=by have q:=mq (qx (n:=706) (a:=.var 0) (b:=.var 6) (c:=.var 7) (ρ:=[aC (.bN m),aC (.ref l),aC (.str due),aC (.bN p),aC (.ref h0.n),aC (.str (iZ z1 z2 due)),aC w,aC u]) (h:=h3) (aF rfl) (aF rfl) (aF rfl) er) (aF (i:=5) rfl) oF oF;rw[zH]at q;exact q
 have c5:ev (run F k) (.or (.cmp .ne (.var 5) (.cst (.str (bK "told")))) (.cmp .eq (.gD 0 kq (.cons (.var 6) (.cons (.var 7) .nil))) (.gD 3 kq (.cons (.var 6) (.cons (.var 7) .nil))))) [aC (.bN m),aC (.ref l),aC (.str due),aC (.bN p),aC (.ref h0.n),aC (.str (iZ z1 z2 due)),aC w,aC u] h3=.ok (.bl true) h3:=by
  have q:=mq (cl:=run F k) (a:=.var 5) (b:=.cst (.str aM)) (ρ:=[aC (.bN m),aC (.ref l),aC (.str due),aC (.bN p),aC (.ref h0.n),aC (.str (iZ z1 z2 due)),aC w,aC u]) (h:=h3) (aF rfl) aK oF oT;cases z:(iZ z1 z2 due==aM)with
  |false=>rw[z]at q;exact xY q
  |true=>
   rw[z]at q;obtain⟨v,pv,hv⟩:=ho z;have v1:∀{j f:Nat}{x:Option W},gf kq [aC (.bN m),aC (.ref l),aC (.str due),aC (.bN p),aC (.ref h0.n),aC (.str (iZ z1 z2 due)),aC w,aC u] j=aC f->run F k f [w,u] h3=.ok v h3->ev (run F k) (.gD j kq (.cons (.var 6) (.cons (.var 7) .nil))) [aC (.bN m),aC (.ref l),aC (.str due),aC (.bN p),aC (.ref h0.n),aC (.str (iZ z1 z2 due)),aC w,aC u] h3=.ok v h3:=λ{j f x} e1 e2=>by
    rw[ev,e1];show(ev (run F k) (.cons (.var 6) (.cons (.var 7) .nil)) _ h3).bind _=_;rw[aW (aF rfl) (aW (aF rfl) dg),aE];exact e2
   exact jM q (eqT (v1 (j:=0) (x:=aD) hm (hv h3).1) (v1 (j:=3) (x:=aD) hp (hv h3).2) pv)
 show fin h (exs (run F k) zw.body [aC (.bN m),aC (.ref l),aC (.str due),aC (.bN p),aD,aD,aD,aD] h0)=_;have eb:exs (run F k) zw.body [aC (.bN m),aC (.ref l),aC (.str due),aC (.bN p),aD,aD,aD,aD] h0=.ok (.rt (.bl true)) h3:=by unfold zw;refine(aU (bU s1)).trans ((aU (bU s2)).trans ((aU (ρ':=[aC (.bN m),aC (.ref l),aC (.str due),aC (.bN p),aC (.ref h0.n),aC (.str (iZ z1 z2 due)),aC w,aC u]) (h':=h3) ?_).trans ((aU ((cP c4).trans gO)).trans (dm (cY c5)))));rw[exs];show(ev (run F k) (.tup (.cons (.idx (.idx (.var 1) (.cst (.int (0)))) (.cst (.int (0)))) (.cons (.idx (.idx (.var 1) (.cst (.int (1)))) (.cst (.int (0)))) .nil))) [aC (.bN m),aC (.ref l),aC (.str due),aC (.bN p),aC (.ref h0.n),aC (.str (iZ z1 z2 due)),aD,aD] h3).bind _=_;rw[s3,aE];rfl
 rw[eb];exact tF (n:=0) G3 λm=>ki
end
structure zG(F:Nat->Option Fn):Prop where
 p:l7 F
 b:fL F
 zA:F 75=aC j9
 zB:F 76=aC iY
 Kr:F 96=aC pq
 Ks:F 97=aC pA
 Ku:F 98=aC m8
 xU:F 120=aC kg
 xV:F 122=aC kh
 xW:F 125=aC jb
 yc:F 131=aC kc
 yj:F 700=aC zw
 Lf:F 701=aC FZ
 Lg:F 702=aC F0
 yg:F 703=aC FW
 yd:F 704=aC C2
 ye:F 705=aC C3
 fP:F 706=aC sG
 yh:F 707=aC FY
 tO:F 708=aC xK
 Lh:F 709=aC C4
 t0:F 710=aC (tB 37 56)
 t1:F 711=aC KC
 t2:F 712=aC KD
theorem ZK{z1 z2 due:Str}{P Q:Prop}(h1:z1=aM/\P\/z1=k7\/z1=nI)(h2:z2=aM/\Q\/z2=k7\/z2=nI)(e:(iZ z1 z2 due==aM)):P/\Q/\due=aM:=by
 unfold iZ at e;have nb:(k7==aM)=false:=by decide +kernel
 have nf:(nI==aM)=false:=by decide +kernel
 rcases h1 with⟨rfl,p⟩|rfl|rfl;rw[zH,if_pos rfl]at e;rcases h2 with⟨rfl,q⟩|rfl|rfl;rw[zH,if_pos rfl]at e;exact⟨p,q,eq_of_beq e⟩;rw[nb]at e;rw[if_neg (by decide),nb]at e;cases e;rw[nf]at e;rw[if_neg (by decide),nf]at e;cases e;rw[nb]at e;rw[if_neg (by decide),nb]at e;cases e;rw[nf]at e;rw[if_neg (by decide),nf]at e;cases e
theorem DI{z:Str}{P:Prop}(h:z=aM/\P\/z=k7\/z=nI):PyData.strOk z=true:=by rcases h with⟨rfl,_⟩|rfl|rfl<;>decide +kernel
section
variable{F:Nat->Option Fn}(C:zG F)
include C
theorem zG.j:je F:=⟨C.b,C.zA,C.zB,C.Kr,C.Ks,C.Ku⟩
theorem zG.s:gJ F:=⟨C.b,C.zA,C.zB,C.xU,C.xV,C.xW⟩
theorem zG.d:Dz F:=⟨C.yc,C.yd,C.ye⟩
theorem Qc{k d c m p t n fm fp l:Nat}{X:S}{h:VH}{A B:Bd}{w u:W}{z1 z2 due:Str}(hm:nj.lookup m=aC t)(ht:F t=aC ⟨2,n,nc X⟩)(hf:kq.lookup m=aC fm)(hp:kq.lookup p=aC fp)(a:A.Ok)(l1:Lk F d c A h w z1)(l2:Lk F d c B h u z2)(od:PyData.strOk due)(hd:∀h2,run F (k+10) 706 [.bN m,A.w,B.w] h2=.ok (.str due) h2)(hv:due=aM->∃v,ek 24 v=true/\∀h2,run F (k+10) fm [A.w,B.w] h2=.ok v h2/\run F (k+10) fp [A.w,B.w] h2=.ok v h2)
 (g:h.get l=aC (.lst [.tup [w,.str z1],.tup [u,.str z2]])):run F (k+11) 700 [.bN m,.ref l,.str due,.bN p] h=.ok (.bl true) h:=by
 have R:=λ(h2:VH)(K:bx h h2 d c)=>ZF C.b C.t0 C.fP (k:=k+1) (m:=m) (due:=due) hm ht a l1 l2 (λ_ _=>hd) K;have R0:=R h .refl;refine ZG C.yj g (DI R0.2.1) (DI R0.2.2) od (λh2 hn hg=>(R h2 ⟨hn,λi o _ _ e=>hg i o e⟩).1) hf hp λe=>?_;obtain⟨q1,q2,q3⟩:=ZK R0.2.1 R0.2.2 e;rw[q1,q2];exact hv q3
noncomputable def tP(A B:Bd):Str:=if A.wd≠B.wd then tL else if A.gr+B.gr<=8/\A.rows.length+1+B.rows.length<=60 then aM else pL
noncomputable def vz(A B:Bd):Str:=if A.wd+B.wd<=40/\A.gr+B.gr<=8/\A.fd.length+B.fd.length<=4 then aM else pL
theorem ZL{k:Nat}{A B:Bd}(a:A.Ok)(b:B.Ok)(h:VH):run F (k+10) 706 [.bN 317,A.w,B.w] h=.ok (.str (tP A B)) h:=by have e:=YZ C.j C.t0 C.t1 (k:=k+1) (h:=⟨h.n,h.n,h.os⟩) a b;unfold tP;by_cases hw:A.wd≠B.wd;rw[if_pos hw]at e ⊢;exact yi C.fP rfl e rfl;rw[if_neg hw]at e ⊢;by_cases q:A.gr+B.gr<=8/\A.rows.length+1+B.rows.length<=60;rw[if_pos q]at e ⊢;exact P8 C.fP rfl e;rw[if_neg q]at e ⊢;exact yi C.fP rfl e rfl
theorem ZM{k:Nat}{A B:Bd}(a:A.Ok)(b:B.Ok)(h:VH):run F (k+10) 706 [.bN 346,A.w,B.w] h=.ok (.str (vz A B)) h:=by have e:=Y4 C.s C.t0 C.t2 (k:=k+1) (h:=⟨h.n,h.n,h.os⟩) a b;unfold vz;by_cases q:A.wd+B.wd<=40/\A.gr+B.gr<=8/\A.fd.length+B.fd.length<=4;rw[if_pos q]at e ⊢;exact P8 C.fP rfl e;rw[if_neg q]at e ⊢;exact yi C.fP rfl e rfl
omit C in
theorem ZN{A B:Bd}:PyData.strOk (tP A B)=true:=by unfold tP;split;decide +kernel;split<;>decide +kernel
omit C in
theorem ZO{A B:Bd}:PyData.strOk (vz A B)=true:=by unfold vz;split<;>decide +kernel
theorem ZP{k:Nat}{A B:Bd}(a:A.Ok)(b:B.Ok)(e:tP A B=aM):∃v,ek 24 v=true/\∀h2,run F (k+10) 96 [A.w,B.w] h2=.ok v h2/\run F (k+10) 704 [A.w,B.w] h2=.ok v h2:=by unfold tP at e;by_cases hw:A.wd≠B.wd;rw[if_pos hw]at e;exact absurd e (by decide +kernel);rw[if_neg hw]at e;by_cases q:A.gr+B.gr<=8/\A.rows.length+1+B.rows.length<=60;have yZ:A.wd=B.wd:=Decidable.not_not.mp hw;exact⟨_,vm (Gh a b yZ q.1 q.2),λh2=>⟨Y0 C.j (k:=k+2) a b yZ q,Ze C.d (k:=k+8) a b yZ q.1 q.2⟩⟩;rw[if_neg q]at e;exact absurd e (by decide +kernel)
theorem ZQ{k:Nat}{A B:Bd}(a:A.Ok)(b:B.Ok)(hN:∀w∈B.dr,∃p i:Int,w=.tup [.int p,.int i])(e:vz A B=aM):∃v,ek 24 v=true/\∀h2,run F (k+10) 120 [A.w,B.w] h2=.ok v h2/\run F (k+10) 705 [A.w,B.w] h2=.ok v h2:=by unfold vz at e;by_cases q:A.wd+B.wd<=40/\A.gr+B.gr<=8/\A.fd.length+B.fd.length<=4;exact⟨_,vm (Dj a b q.1 q.2.1 q.2.2),λh2=>⟨Y5 C.s (k:=k+2) a b q,Zi C.d (k:=k+8) a b q.1 q.2.1 q.2.2 hN⟩⟩;rw[if_neg q]at e;exact absurd e (by decide +kernel)
theorem DJ{k i j:Nat}{h:VH}{d c b:Nat}{wl lo hi:Int}{ρ:En}(D:Dk h d c b)(hb:b+5<1000000000)(h1:lo<=hi)(h0:0<=lo)(h2:hi<=1000)(e0:ρ[0]?=aC (aC (.ref d))) :
 ∃(x y:Nat) (h':VH),exs (run F (k+11)) (.jo [i,j] (.call 703 (.cons (.var 0) (.cons (.cst (.int wl)) (.cons (.cst (.int lo)) (.cons (.cst (.int hi)) .nil)))))) ρ h=.ok (.nx ((ρ.set i (aC (.int x))).set j (aC (.int y)))) h'/\lo<=x/\(x:Int)<=hi/\lo<=y/\(y:Int)<=hi/\Dk h' d c (b+3)/\bx h h' d c:=by
 obtain⟨x,y,h',e,a1,a2,a3,a4,D',K'⟩:=Zs C.p.toCoreD C.yg (k:=k+7) (wl:=wl) D hb h1 h0 h2;obtain⟨x,rfl⟩:=nv (show 0<=x by lia);obtain⟨y,rfl⟩:=nv (show 0<=y by lia);refine⟨x,y,h',?_,a1,a2,a3,a4,D',K'⟩;rw[exs,zC (aF e0) aK aK aK e,aE];rfl
theorem Gu{k:Nat}{h:VH}{d c b wd nf n:Nat}{gr:Nat}{ρ:En}{e1 e2 e3 e4:E}{h1:VH}(D:Dk h d c b)(hb:b+800<1000000000)(w0:1<=wd)(w1:wd<=40)(n0:1<=nf)(n1:nf<=4)(g1:gr<=8)(hn:n<=60)(e0:ρ[0]?=aC (aC (.ref d)))(q1:ev (run F (k+11)) e1 ρ h=.ok (.int wd) h)(q2:ev (run F (k+11)) e2 ρ h=.ok (.int gr) h)(q3:ev (run F (k+11)) e3 ρ h=.ok (.int n) h1)(q4:ev (run F (k+11)) e4 ρ h1=.ok (.int nf) h1)(D1:Dk h1 d c (b+1))(K1:bx h h1 d c) :
 ∃(B:Bd) (w:W) (z:Str) (h':VH),ev (run F (k+11)) (.call 708 (.cons (.var 0) (.cons (.call 707 (.cons (.var 0) (.cons e1 (.cons e2 (.cons e3 (.cons e4 .nil)))))) .nil))) ρ h=.ok (.tup [w,.str z]) h'/\B.Ok/\B.wd=wd/\B.gr=gr/\B.rows.length=n/\B.fd.length=nf/\(∀w∈B.dr,∃p i:Int,w=.tup [.int p,.int i])/\Lk F d c B h' w z/\Dk h' d c (b+800)/\bx h h' d c:=by
 obtain⟨B,h2,s1,ok,b1,b2,b3,b4,b5,D2,K2⟩:=Zt C.p C.yh (k:=k+5) (wd:=wd) (nf:=nf) (n:=n) (gr:=gr) D1 (by lia) w0 w1 n0 n1 (by lia) (by lia) hn;obtain⟨w,z,h3,s2,L,D3,K3⟩:=ZD C.b C.p.toCoreD C.t0 C.tO (k:=k+7) ok D2 (by lia);exact⟨B,w,z,h3,vq (aF e0) (PX (aF e0) q1 q2 q3 q4 s1) s2,ok,b1,b2,b3,b4,b5,L,D3.mono (by lia),(K1.trans K2).trans K3⟩
end
section
variable{F:Nat->Option Fn}(C:zG F)
include C
omit C in
theorem ZR{t:Nat}{h:VH}:dB .add (.int 1) (.int t) h=.ok (.int ((1+t:Nat):Int)) h:=by show Res.ok (W.int (1+ (t:Int))) h=_;rw[show(1+ (t:Int))=((1+t:Nat):Int) by lia]
omit C in
theorem DK{cl:Call}{a:E}{ρ:En}{h h1:VH}{q:Bool}(ea:ev cl a ρ h=.ok (.bl q) h1):ev cl (.bi .int (.cons a .nil)) ρ h=.ok (.int (if q then 1 else 0)) h1:=by rw[ev,aW ea dg,aE];rfl
theorem ZT{k:Nat}{h:VH}{d c b:Nat}(D:Dk h d c b)(hb:b+2000<1000000000):∃h',run F (k+12) 701 [.ref d] h=.ok (.bl true) h'/\Dk h' d c (b+2000)/\bx h h' d c:=by
 rw[cQ C.Lf rfl];have D0:Dk ⟨h.n,h.n,h.os⟩ d c b:=D.lo;obtain⟨r1,h1,e1,l1,D1,K1⟩:=gK C.p.toCoreD (k:=k+8) (vi:=0) (ρ:=[aC (.ref d),aD,aD,aD,aD,aD,aD,aD,aD]) (x:=.var 0) (y:=.cst (.int (9))) (m:=9) D0 (by lia) (by decide) (by decide) (aF rfl) aK;obtain⟨r2,h2,e2,l2,D2,K2⟩:=gK C.p.toCoreD (k:=k+8) (vi:=0) (ρ:=[aC (.ref d),aC (.int ((1+r1:Nat):Int)),aD,aD,aD,aD,aD,aD,aD]) (x:=.var 0) (y:=.cst (.int (3))) (m:=3) D1 (by lia) (by decide) (by decide) (aF rfl) aK;obtain⟨pM,ZU,hw3⟩:∃w:Nat,((1+r1:Nat):Int)+ (if decide ((r2:Int)=0)then 1 else 0)=w/\(w=1+r1\/w=2+r1):=by cases decide ((r2:Int)=0);exact⟨1+r1,by simp,.inl rfl⟩;exact⟨2+r1,by simp;lia,.inr rfl⟩
 have s1:=bU (i:=1) (cR (cl:=run F (k+11)) (o:=.add) (a:=.cst (.int (1))) aK e1 ZR);have s2:exs (run F (k+11)) (.set 2 (.op .add (.var 1) (.bi .int (.cons (.cmp .eq (.call 5 (.cons (.var 0) (.cons (.cst (.int (3))) .nil))) (.cst (.int (0)))) .nil)))) [aC (.ref d),aC (.int ((1+r1:Nat):Int)),aD,aD,aD,aD,aD,aD,aD] h1=.ok (.nx [aC (.ref d),aC (.int ((1+r1:Nat):Int)),aC (.int pM),aD,aD,aD,aD,aD,aD]) h2:=by have q:=bU (i:=2) (cR (cl:=run F (k+11)) (o:=.add) (a:=.var 1) (x:=.int ((1+r1:Nat):Int)) (aF rfl) (DK (mh (b:=.cst (.int 0)) (j:=0) e2 aK)) rfl);rw[q,ZU];rfl
 obtain⟨g1,g2,h3,s3,p1,p2,p3,p4,D3,K3⟩:=DJ C (k:=k) (i:=3) (j:=4) (wl:=8) (lo:=0) (hi:=8) (ρ:=[aC (.ref d),aC (.int ((1+r1:Nat):Int)),aC (.int pM),aD,aD,aD,aD,aD,aD]) D2 (by lia) (by decide) (by decide) (by decide) rfl;obtain⟨m1,m2,h4,s4,q1,q2,q3,q4,D4,K4⟩:=DJ C (k:=k) (i:=5) (j:=6) (wl:=59) (lo:=0) (hi:=58) (ρ:=[aC (.ref d),aC (.int ((1+r1:Nat):Int)),aC (.int pM),aC (.int g1),aC (.int g2),aD,aD,aD,aD]) D3 (by lia) (by decide) (by decide) (by decide) rfl;let R (z:Str) (y:Option W):En:=[aC (.ref d),aC (.int ((1+r1:Nat):Int)),aC (.int pM),aC (.int g1),aC (.int g2),aC (.int m1),aC (.int m2),aC (.str z),y]
 obtain⟨A,w,z1,h5,e5,a,a1,a2,a3,a4,a5,L1,D5,K5⟩:=Gu C (k:=k) (h:=h4) (h1:=h4) (wd:=1+r1) (gr:=g1) (n:=m1) (nf:=1) (ρ:=R (if((1+r1:Nat):Int)≠pM then tL else if(g1:Int)+g2<=8/\(m1:Int)+m2<=59 then aM else pL) aD) (e1:=.var 1) (e2:=.var 3) (e3:=.var 5) (e4:=.cst (.int (1))) D4 (by lia) (by lia) (by lia) (by lia) (by lia) (by lia) (by lia) rfl (aF rfl) (aF rfl) (aF rfl) aK (D4.mono (by lia)) .refl;obtain⟨B,u,z2,h6,e6,b',b1,b2,b3,b4,b5,L2,D6,K6⟩:=Gu C (k:=k) (h:=h5) (h1:=h5) (wd:=pM) (gr:=g2) (n:=m2) (nf:=2) (ρ:=R (if((1+r1:Nat):Int)≠pM then tL else if(g1:Int)+g2<=8/\(m1:Int)+m2<=59 then aM else pL) (aC (.tup [w,.str z1]))) (e1:=.var 2) (e2:=.var 4) (e3:=.var 6) (e4:=.cst (.int (2))) D5 (by lia) (by lia) (by lia) (by lia) (by lia) (by lia) (by lia) rfl (aF rfl) (aF rfl) (aF rfl) aK (D5.mono (by lia)) .refl;have pN:(if((1+r1:Nat):Int)≠pM then tL else if(g1:Int)+g2<=8/\(m1:Int)+m2<=59 then aM else pL)=tP A B:=by
  unfold tP;rw[a1,b1,a2,b2,a3,b3];have:((g1:Int)+g2<=8/\(m1:Int)+m2<=59)↔((g1:Int)+g2<=8/\m1+1+m2<=60):=by lia
  simp only[this]
 rw[pN]at e5 e6;have Qd:=pN;have s5:exs (run F (k+11)) (.set 7 (.cst (.str (bK "told")))) [aC (.ref d),aC (.int ((1+r1:Nat):Int)),aC (.int pM),aC (.int g1),aC (.int g2),aC (.int m1),aC (.int m2),aD,aD] h4=.ok (.nx (R aM aD)) h4:=bU aK;have c1:=qy (cl:=run F (k+11)) (a:=.op .add (.var 3) (.var 4)) (b:=.cst (.int 8)) (ρ:=R aM aD) (h:=h4) (cR (aF (x:=.int g1) rfl) (aF (x:=.int g2) rfl) rfl) aK;have c2:=qy (cl:=run F (k+11)) (a:=.op .add (.var 5) (.var 6)) (b:=.cst (.int 59)) (ρ:=R aM aD) (h:=h4) (cR (aF (x:=.int m1) rfl) (aF (x:=.int m2) rfl) rfl) aK;have s6:exs (run F (k+11)) (.ite (.or (.cmp .gt (.op .add (.var 3) (.var 4)) (.cst (.int (8)))) (.cmp .gt (.op .add (.var 5) (.var 6)) (.cst (.int (59))))) (.seq (.set 7 (.cst (.str (bK "great")))) .skip) .skip) (R aM aD) h4=.ok (.nx (R (if(g1:Int)+g2<=8/\(m1:Int)+m2<=59 then aM else pL) aD)) h4:=by
  by_cases y1:(g1:Int)+g2<=8;rw[gq (by lia)]at c1;by_cases y2:(m1:Int)+m2<=59;rw[gq (by lia)]at c2;rw[if_pos ⟨y1,y2⟩];exact(cP (jM c1 c2)).trans gO
  rw[jD (by lia)]at c2;rw[if_neg λz=>y2 z.2];exact(cZ (jM c1 c2)).trans ((aU (bU aK)).trans gO);rw[jD (by lia)]at c1;rw[if_neg λz=>y1 z.1];exact(cZ (xY c1)).trans ((aU (bU aK)).trans gO)
 have c3:=KG (cl:=run F (k+11)) (a:=.var 2) (b:=.var 1) (ρ:=R (if(g1:Int)+g2<=8/\(m1:Int)+m2<=59 then aM else pL) aD) (h:=h4) (aF rfl) (aF rfl);have s7:exs (run F (k+11)) (.ite (.cmp .ne (.var 2) (.var 1)) (.seq (.set 7 (.cst (.str (bK "fit")))) .skip) .skip) (R (if(g1:Int)+g2<=8/\(m1:Int)+m2<=59 then aM else pL) aD) h4=.ok (.nx (R (tP A B) aD)) h4:=by
  rw[<-pN];by_cases y:((1+r1:Nat):Int)=pM;rw[jD y.symm]at c3;rw[if_neg (show ¬((1+r1:Nat):Int)≠pM from λz=>z y)];exact(cP c3).trans gO
  rw[gq λz=>y z.symm]at c3;rw[if_pos y];exact(cZ c3).trans ((aU (bU aK)).trans gO)
 have s8:=bU (i:=8) e5;have D7:=D6.new (o:=.lst [.tup [w,.str z1],.tup [u,.str z2]]);have e7:=Qc C (k:=k) (m:=317) (p:=448) rfl C.t1 rfl rfl a ((L1.keep K6).keep (bx.refl.new (o:=.lst [.tup [w,.str z1],.tup [u,.str z2]]))) (L2.keep (bx.refl.new (o:=.lst [.tup [w,.str z1],.tup [u,.str z2]]))) ZN (ZL C (k:=k) a b') (ZP C (k:=k) a b') eZ;have s9:=cY (zC (n:=700) (a:=.cst (.bN 317)) (c:=.var 7) (d:=.cst (.bN 448)) aK (vt (aF (i:=8) rfl) e6) (aF rfl) aK e7);have eb:exs (run F (k+11)) FZ.body [aC (.ref d),aD,aD,aD,aD,aD,aD,aD,aD] ⟨h.n,h.n,h.os⟩=.ok (.rt (.bl true)) (h6.new (.lst [.tup [w,.str z1],.tup [u,.str z2]])):=by unfold FZ;exact(aU s1).trans ((aU s2).trans ((aU s3).trans ((aU s4).trans ((aU s5).trans ((aU s6).trans ((aU s7).trans ((aU s8).trans (dm s9))))))))
 obtain⟨h8,e8,D8,K8⟩:=vg (cl:=run F (k+11)) (fl:=.nx []) eb (.inr ⟨b,D⟩) (D7.mono (show _<=b+2000 by lia)) ((((((K1.trans K2).trans K3).trans K4).trans K5).trans K6).new);exact⟨h8,e8,D8,K8⟩
theorem ZV{k:Nat}{h:VH}{d c b:Nat}(D:Dk h d c b)(hb:b+2000<1000000000):∃h',run F (k+12) 702 [.ref d] h=.ok (.bl true) h'/\Dk h' d c (b+2000)/\bx h h' d c:=by
 rw[cQ C.Lg rfl];have D0:Dk ⟨h.n,h.n,h.os⟩ d c b:=D.lo;obtain⟨w1,w2,h1,s1,p1,p2,p3,p4,D1,K1⟩:=DJ C (k:=k) (i:=1) (j:=2) (wl:=40) (lo:=1) (hi:=40) (ρ:=[aC (.ref d),aD,aD,aD,aD,aD,aD,aD,aD,aD]) D0 (by lia) (by decide) (by decide) (by decide) rfl;obtain⟨g1,g2,h2,s2,q1,q2,q3,q4,D2,K2⟩:=DJ C (k:=k) (i:=3) (j:=4) (wl:=8) (lo:=0) (hi:=8) (ρ:=[aC (.ref d),aC (.int w1),aC (.int w2),aD,aD,aD,aD,aD,aD,aD]) D1 (by lia) (by decide) (by decide) (by decide) rfl;obtain⟨f1,f2,h3,s3,r1,r2,r3,r4,D3,K3⟩:=DJ C (k:=k) (i:=5) (j:=6) (wl:=4) (lo:=1) (hi:=4) (ρ:=[aC (.ref d),aC (.int w1),aC (.int w2),aC (.int g1),aC (.int g2),aD,aD,aD,aD,aD]) D2 (by lia) (by decide) (by decide) (by decide) rfl;let R (z:Str) (x y:Option W):En:=[aC (.ref d),aC (.int w1),aC (.int w2),aC (.int g1),aC (.int g2),aC (.int f1),aC (.int f2),aC (.str z),x,y]
 let z0:Str:=if(w1:Int)+w2<=40/\(g1:Int)+g2<=8/\(f1:Int)+f2<=4 then aM else pL
 obtain⟨n1,h4,t4,l4,D4,K4⟩:=gK C.p.toCoreD (k:=k+8) (vi:=0) (ρ:=R z0 aD aD) (x:=.var 0) (y:=.cst (.int (3))) (m:=3) D3 (by lia) (by decide) (by decide) (aF rfl) aK;obtain⟨A,w,z1,h5,e5,a,a1,a2,a3,a4,a5,L1,D5,K5⟩:=Gu C (k:=k) (h:=h3) (h1:=h4) (wd:=w1) (gr:=g1) (n:=n1) (nf:=f1) (ρ:=R z0 aD aD) (e1:=.var 1) (e2:=.var 3) (e4:=.var 5) D3 (by lia) (by lia) (by lia) (by lia) (by lia) (by lia) (by lia) rfl (aF rfl) (aF rfl) t4 (aF rfl) D4 K4;obtain⟨n2,h6,t6,l6,D6,K6⟩:=gK C.p.toCoreD (k:=k+8) (vi:=0) (ρ:=R z0 (aC (.tup [w,.str z1])) aD) (x:=.var 0) (y:=.cst (.int (3))) (m:=3) D5 (by lia) (by decide) (by decide) (aF rfl) aK;obtain⟨B,u,z2,h7,e7,b',b1,b2,b3,b4,b5,L2,D7,K7⟩:=Gu C (k:=k) (h:=h5) (h1:=h6) (wd:=w2) (gr:=g2) (n:=n2) (nf:=f2) (ρ:=R z0 (aC (.tup [w,.str z1])) aD) (e1:=.var 2) (e2:=.var 4) (e4:=.var 6) D5 (by lia) (by lia) (by lia) (by lia) (by lia) (by lia) (by lia) rfl (aF rfl) (aF rfl) t6 (aF rfl) D6 K6;have pN:z0=vz A B:=by
  show(if(w1:Int)+w2<=40/\(g1:Int)+g2<=8/\(f1:Int)+f2<=4 then aM else pL)=_;unfold vz;rw[a1,b1,a2,b2,a4,b4];have:((w1:Int)+w2<=40/\(g1:Int)+g2<=8/\(f1:Int)+f2<=4)↔((w1:Int)+w2<=40/\(g1:Int)+g2<=8/\f1+f2<=4):=by lia
  simp only[this]
 have s5:exs (run F (k+11)) (.set 7 (.cst (.str (bK "told")))) [aC (.ref d),aC (.int w1),aC (.int w2),aC (.int g1),aC (.int g2),aC (.int f1),aC (.int f2),aD,aD,aD] h3=.ok (.nx (R aM aD aD)) h3:=bU aK;have c1:=qy (cl:=run F (k+11)) (a:=.op .add (.var 1) (.var 2)) (b:=.cst (.int 40)) (ρ:=R aM aD aD) (h:=h3) (cR (aF (x:=.int w1) rfl) (aF (x:=.int w2) rfl) rfl) aK;have c2:=qy (cl:=run F (k+11)) (a:=.op .add (.var 3) (.var 4)) (b:=.cst (.int 8)) (ρ:=R aM aD aD) (h:=h3) (cR (aF (x:=.int g1) rfl) (aF (x:=.int g2) rfl) rfl) aK;have c3:=qy (cl:=run F (k+11)) (a:=.op .add (.var 5) (.var 6)) (b:=.cst (.int 4)) (ρ:=R aM aD aD) (h:=h3) (cR (aF (x:=.int f1) rfl) (aF (x:=.int f2) rfl) rfl) aK;have s6:exs (run F (k+11)) (.ite (.or (.cmp .gt (.op .add (.var 1) (.var 2)) (.cst (.int (40)))) (.or (.cmp .gt (.op .add (.var 3) (.var 4)) (.cst (.int (8)))) (.cmp .gt (.op .add (.var 5) (.var 6)) (.cst (.int (4)))))) (.seq (.set 7 (.cst (.str (bK "great")))) .skip) .skip) (R aM aD aD) h3=.ok (.nx (R z0 aD aD)) h3:=by
  show _=Res.ok (Fl.nx (R (if(w1:Int)+w2<=40/\(g1:Int)+g2<=8/\(f1:Int)+f2<=4 then aM else pL) aD aD)) h3;by_cases y1:(w1:Int)+w2<=40;rw[gq (by lia)]at c1;by_cases y2:(g1:Int)+g2<=8;rw[gq (by lia)]at c2;by_cases y3:(f1:Int)+f2<=4;rw[gq (by lia)]at c3;rw[if_pos ⟨y1,y2,y3⟩];exact(cP (jM c1 (jM c2 c3))).trans gO
  rw[jD (by lia)]at c3;rw[if_neg λz=>y3 z.2.2];exact(cZ (jM c1 (jM c2 c3))).trans ((aU (bU aK)).trans gO);rw[jD (by lia)]at c2;rw[if_neg λz=>y2 z.2.1];exact(cZ (jM c1 (xY c2))).trans ((aU (bU aK)).trans gO);rw[jD (by lia)]at c1;rw[if_neg λz=>y1 z.1];exact(cZ (xY c1)).trans ((aU (bU aK)).trans gO)
 have s8:=bU (i:=8) e5;have s9:=bU (i:=9) e7;have D8:=D7.new (o:=.lst [.tup [w,.str z1],.tup [u,.str z2]]);have e8:=Qc C (k:=k) (m:=346) (p:=453) rfl C.t2 rfl rfl a ((L1.keep (K7)).keep (bx.refl.new (o:=.lst [.tup [w,.str z1],.tup [u,.str z2]]))) (L2.keep (bx.refl.new (o:=.lst [.tup [w,.str z1],.tup [u,.str z2]]))) ZO (ZM C (k:=k) a b') (ZQ C (k:=k) a b' b5) eZ;rw[<-pN]at e8;have sA:=cY (zC (n:=700) (a:=.cst (.bN 346)) (c:=.var 7) (d:=.cst (.bN 453)) (ρ:=R z0 (aC (.tup [w,.str z1])) (aC (.tup [u,.str z2]))) aK (vt (aF (i:=8) rfl) (aF (i:=9) rfl)) (aF rfl) aK e8);have eb:exs (run F (k+11)) F0.body [aC (.ref d),aD,aD,aD,aD,aD,aD,aD,aD,aD] ⟨h.n,h.n,h.os⟩=.ok (.rt (.bl true)) (h7.new (.lst [.tup [w,.str z1],.tup [u,.str z2]])):=by unfold F0;exact(aU s1).trans ((aU s2).trans ((aU s3).trans ((aU s5).trans ((aU s6).trans ((aU s8).trans ((aU s9).trans (dm sA)))))))
 obtain⟨h9,e9,D9,K9⟩:=vg (cl:=run F (k+11)) (fl:=.nx []) eb (.inr ⟨b,D⟩) (D8.mono (show _<=b+2000 by lia)) (((((K1.trans K2).trans K3).trans K5).trans K7).new);exact⟨h9,e9,D9,K9⟩
theorem Qe{k:Nat}{d c:Nat}{s:W}:∀(js:List W) (x2:Option W) (h:VH) (b:Nat),Dk h d c b->b+4000*js.length<1000000000->(∀w∈js,∃i:Int,w=.int i)->
 ∃ρ h',forL (bH (.one 2)) (exs (run F (k+12)) F1) js [aC s,aC (.ref d),x2] h=.ok (.nx ρ) h'
 |[],x2,h,b,_,_,_=>⟨_,h,rfl⟩
 |j::js,x2,h,b,D,hb,hj=>by
  rw[eK]at hb;obtain⟨h1,e1,D1,K1⟩:=ZT C (k:=k) D (by lia);obtain⟨h2,e2,D2,K2⟩:=ZV C (k:=k) D1 (by lia);obtain⟨ρ,h',e⟩:=Qe (k:=k) (s:=s) js (aC j) h2 _ D2 (by lia) λw hw=>hj w (eH _ hw);have eb:exs (run F (k+12)) F1 [aC s,aC (.ref d),aC j] h=.ok (.nx [aC s,aC (.ref d),aC j]) h2:=
   (aU ((cP (jM (dW (nH (aF rfl) e1)) (dW (nH (aF rfl) e2)))).trans gO)).trans gO
  refine⟨ρ,h',?_⟩;simp only[forL,bH,List.set,eb,aE,e]
theorem DL{ns:List Int}(hl:ns.length<=63):zq (run F 30 709 [.fz (ns.map .int)] ⟨0,0,[]⟩)=true:=by
 rw[show(30:Nat)=29+1 from rfl,cQ C.Lh rfl];obtain⟨h1,e1,D1⟩:=Kv C.p.toCoreD (k:=28) (h:=⟨0,0,[]⟩) hl;obtain⟨ρ,h2,e2⟩:=Qe C (k:=17) (s:=.fz (ns.map .int)) (jc 0 4) aD h1 0 D1 (by decide) (λw hw=>by
  simp only[jc,iQ,Es,or_false]at hw;rcases hw with rfl|rfl|rfl|rfl<;>exact⟨_,rfl⟩)
 have f:=OR (n:=4) (tg:=bH (.one 2)) (b:=exs (run F 29) F1) (ρ:=[aC (.fz (ns.map .int)),aC (.ref 1),aD]) (h:=h1) (by decide);rw[e2]at f;have eb:exs (run F 29) C4.body [aC (.fz (ns.map .int)),aD,aD] ⟨0,0,[]⟩=.ok (.rt (.bl true)) h2:=by unfold C4;refine(aU (bU (nH (aF rfl) e1))).trans ((aU (ρ':=ρ) (h':=h2) ?_).trans (dm (cY aK)));rw[exs,KN aK,aE];exact f
 show zq (fin ⟨0,0,[]⟩ (exs (run F 29) C4.body [aC (.fz (ns.map .int)),aD,aD] ⟨0,0,[]⟩))=true;rw[eb];obtain⟨h4,e4,_⟩:=Kc (h:=⟨0,0,[]⟩) (w:=.bl true) (za (zb F 29) _ _ ⟨0,0,[]⟩ _ _ eb);show zq (leave ⟨0,0,[]⟩ (.bl true) h2)=true;rw[e4];rfl
end
end RF
namespace HD
open PySem PySem.W PySem.Calls PyProof.Rows
noncomputable section
noncomputable def p:aj:=PySem.Challenge.pw_ballrockers_k14_joined_refused
noncomputable abbrev S(x:String):Str:=Str.ofString x
noncomputable abbrev U(x:String)(t:Tok):aa:=Value.str (S x) t
noncomputable abbrev R(a:ai):aa:=Value.ref a
noncomputable abbrev I(i:Int)(t:Tok):aa:=Value.int i t
noncomputable abbrev E(P:Params)(x:String)(t:Tok)(v:aa):DictEntry:=DictEntry.mk (PyData.keyHash P (S x)) (Value.str (S x) t) v
noncomputable abbrev N(o:Obj)(l r:BT):BT:=BT.node o l r
noncomputable abbrev Z:BT:=BT.nil
noncomputable abbrev L(o:Obj):BT:=BT.node o Z Z
noncomputable abbrev Y(c:String)(d:Data):Obj:=Obj.mk (Value.type c) aD d #[]
noncomputable abbrev X(d:Data):Obj:=Obj.mk Value.none aD d #[]
noncomputable def yk(l:List au)(i:Nat):au:=l.getD i (Stmt.Pass ⟨0,0,0,0⟩)
noncomputable def Qf:au->List au|.FunctionDef _ _ b _ _ _ _ _ _ _=>b|.ClassDef _ _ _ b _ _ _ _ _ _ _=>b|_=>[]
noncomputable def Qg:au->Arguments|.FunctionDef _ a _ _ _ _ _ _ _ _=>a|_=>⟨[],[],aD,[],[],aD,[]⟩
noncomputable def Qh:au->az|.FunctionDef _ _ _ _ _ _ s _ _ _=>s|_=>p.main.scope
noncomputable def fb(i:Nat):List au:=Qf (yk p.main.body i)
noncomputable def fa(i:Nat):Arguments:=Qg (yk p.main.body i)
noncomputable def fs(i:Nat):az:=Qh (yk p.main.body i)
noncomputable def cb(i j:Nat):List au:=Qf (yk (fb i) j)
noncomputable def ca(i j:Nat):Arguments:=Qg (yk (fb i) j)
noncomputable def cs(i j:Nat):az:=Qh (yk (fb i) j)
noncomputable abbrev O:aa:=Value.none
noncomputable abbrev J(i:Int):aa:=Value.int i 0
noncomputable abbrev V(t:Tok):aa:=Value.str (S "/claim/cut.py") t
noncomputable abbrev A(l:Array aa):Data:=Data.fields l
noncomputable abbrev B(f:av):Data:=Data.func f
noncomputable abbrev G(x:String)(i:Nat)(g:ai)(c:List (Str×ai))(d k o m:aa)(n:Option ai)(cd ct:aa)(b:ai):av:=FuncData.mk (S x) (S x) (fa i) (FuncBody.stmts (fb i)) (fs i) g c d k o m n cd ct b
section
variable(P:Params)
noncomputable def N0:Nat:=9988
noncomputable def lo:List Str:=[]
noncomputable def keep:List Nat:=[1,2,3,4,5,6,7,8,9,10,11,12,13,14,15,16,17,19,20,21,22,24,25,26,27,28,29,30,31,32,33,34,35,36,38,39,40,41,42,44,45,46,48,49,50,51,52,53,54,55,56,57,58,59,60,61,62,63,64,65,66]
noncomputable def life:Life:=(Life.mk [] [] [] 0 [] [] false #[] [] 0 false false false 0 [2000,10,10] false 0 true [] [] 0 false)
noncomputable def m0:Nat:=11
noncomputable def ann:Option aa:=(aC (R 6))
noncomputable def env:Env:={scope:=p.main.scope,locals:=mainNs,globals:=mainNs,cells:=[],code:=(R 13),frame:=aC 14}
noncomputable def bd:List au:=behindTheImports p
noncomputable def cd:Code:=Code.body bd env
noncomputable def fr:List Frame:=[topFrame (Pos.mk 0 0 0 0)]
noncomputable abbrev qC(n:String)(t:Nat)(l k:Int)(r m:Nat):Obj:=Y "code" (A #[U n t,U n (t+1),V (t+2),J l,J k,J 0,J 0,J 3,R r,Value.bool true,J 181,R (r+1),O,R (r+2),R (r+3),R (r+4),J (Int.ofNat m),J l,V (m+1)])
noncomputable abbrev qD(n:String)(t:Nat)(l k:Int)(r m:Nat):Obj:=Y "code" (A #[U n t,U n (t+1),V (t+2),J l,J k,J 0,J 0,J 3,R r,Value.bool true,J 181,R (r+1),O,O,O,R (r+2),J (Int.ofNat m),J l,V (m+1)])
noncomputable def qU:Nat->List String->List aa|_,[]=>[]|t,x::r=>U x t::qU (t+1) r
noncomputable abbrev qT(t:Nat)(l:List String):Obj:=Y "tuple" (Data.seq (qU t l).toArray 0)
noncomputable abbrev qF(n:String)(i:Nat)(u:aa)(r:ai):Obj:=Y "function" (B (G n i 3 [] O O O u aD (R r) O 0))
noncomputable abbrev qG(n:String)(i:Nat):Obj:=X (B (G n i 0 [] O O O O aD O O 0))
noncomputable def qJ:List (Int×Nat)->List aa|[]=>[]|(a,b)::r=>J a::J 0::R b::qJ r
noncomputable def qO:List Obj->List Obj|x::_::r=>x::qO r|x=>x
noncomputable def qE:List Obj->List Obj|_::y::r=>y::qE r|_=>[]
noncomputable def qB:Nat->List Obj->BT|f+1,x::r=>N x (qB f (qO r)) (qB f (qE r))|_,_=>Z
 def a0:=(Y "tuple" (Data.seq #[] 0))
 def a1:=(X (A #[]))
 abbrev qN(n:String)(i t:Nat)(l k:Int)(r:Nat)(u:aa):List Obj:=[a0,a1,qG n i,qD n t l k r (t+3),qF n i u (r+3)]
 abbrev qM(n:String)(i t:Nat)(s:List String)(l k:Int)(r:Nat)(u:aa):List Obj:=[a0,a1,qT (t+3) s,a0,qG n i,qC n t l k r (t+3+s.length),qF n i u (r+5)]
 def a2:=(Y "code" (A #[(U "<module>" 182),(U "<module>" 183),(V 184),(J 1),(J 0),(J 0),(J 0),(J 0),(R 11),(Value.bool false),(J 181),(R 12),O,O,O,O,(J 185),(J 1),(V 186)]))
 def a3:=(Obj.mk (Value.type "frame") aD Data.plain #[(aC (R 13)),(aC (R 3)),(aC (R 3)),aD,(aC (U "__main__" 164)),aD,(aC (R 0))])
 def ha:aA:=Heap.mk (Array.mk [(boot_o_0 P),(boot_o_1 P),(boot_o_2 P),(boot_o_3 P),(boot_o_4 P),(boot_o_5 P),(boot_o_6 P),(boot_o_7 P),(boot_o_8 P),(boot_o_9 P),(boot_o_10 P),a0,a1,a2,a3]) (Life.mk [] [] [] 0 [] [] false #[] [] 0 false false false 0 [2000,10,10] false 0 true [] [] 0 false)
noncomputable def sa(w:ak)(os:ay):ah:=⟨ha w.params,(Array.mk []),(Drawn.mk 0 0 0 0),187,os⟩
theorem mw{w:ak}{n:Nat}{s s':SharedT}{l:List au}{pos pos':Pos}(h:PySem.W.Fast.tw10110043849684766642 PySem.W.Fast.tw14364793385576792824 p w m0 ann 1 n s (piecesOf l env cd pos fr)=aC (.next,s',cd,pos')) :
 segRun treeTable p w m0 ann 1 n s.abs (piecesOf l env cd pos fr)=aC (.next,s'.abs,cd,pos'):=
 segRun_of (by rw[PySem.W.Fast.te10110043849684766642,EA];exact h)
theorem DM{w:ak}{n:Nat}{s s':ah}{pos:Pos}(h:PySem.W.Fast.tw15667345088766844465 PySem.W.Fast.tw14364793385576792824 p w m0 ann n s (topStub p)=aC (s',⟨PySem.W.Fast.tw11892475500146522536 PySem.W.Fast.tw14364793385576792824 cd,cd,pos,fr⟩)) :
 topGo treeTable p w m0 ann n s (topStub p)=aC (s',⟨denote treeTable cd,cd,pos,fr⟩):=by
 rw[PySem.W.Fast.te15667345088766844465,EA,PySem.W.Fast.te11892475500146522536];exact h
theorem ZW{w:ak}{n:Nat}{s s':ah}{pos pos':Pos}(h:PySem.W.Fast.tw14374325043358763698 PySem.W.Fast.tw14364793385576792824 p w m0 ann 1 n s (blockOf bd env cd pos fr)=aC (.next,s',cd,pos')) :
 segRun treeTable p w m0 ann 1 n s (blockOf bd env cd pos fr)=aC (.next,s',cd,pos'):=by
 rw[PySem.W.Fast.te14374325043358763698,EA];exact h
theorem DN{w:ak}{n:Nat}{s s':ah}{pos:Pos}(h:PySem.W.Fast.tw14082659384304107361 PySem.W.Fast.tw14364793385576792824 p w m0 ann n s ⟨doneF .next,cd,pos,fr⟩=aC s') :
 topRun treeTable p w m0 ann n s ⟨doneF .next,cd,pos,fr⟩=aC s':=by
 rw[PySem.W.Fast.te14082659384304107361,EA];exact h
set_option maxHeartbeats 0 in
theorem pre(w:ak)(os:ay):topGo treeTable p w m0 ann 12 ⟨boot_heap w.params,Array.mk [],boot_drawn,boot_toks,os⟩ (topStub p)=aC (sa w os,⟨denote treeTable cd,cd,(Pos.mk 0 0 0 0),fr⟩):=DM (by kernel_rfl)
 def Qi:List Obj:=[(boot_o_0 P),(boot_o_1 P),(boot_o_2 P),(boot_o_3 P),(boot_o_4 P),(boot_o_5 P),(boot_o_6 P),(boot_o_7 P),(boot_o_8 P),(boot_o_9 P),(boot_o_10 P),a0,a1,a2,a3]
 def tb:=qB 20 (Qi P)
noncomputable def sb(w:ak)(os:ay):SharedT:=⟨tb w.params,15,life,(Array.mk []),(Drawn.mk 0 0 0 0),187,os⟩
set_option maxHeartbeats 0 in
theorem block(w:ak)(os:ay):segRun treeTable p w m0 ann 1 1 (sa w os) (blockOf bd env cd (Pos.mk 0 0 0 0) fr)=aC (.next,(sb w os).abs,cd,(Pos.mk 0 0 0 0)):=ZW (by kernel_rfl)
 def Qj:=[(E P "__doc__" 166 O),(E P "__package__" 167 O),(E P "__loader__" 168 (Value.builtin "__main__.__loader__#opaque")),(E P "__spec__" 169 O),(E P "__annotations__" 170 (R 6)),(E P "__builtins__" 171 (R 4)),(E P "__file__" 173 (V 172)),(E P "__cached__" 174 O),(E P "BoardError" 206 (R 24)),(E P "NoBoard" 222 (R 37)),(E P "Fault" 249 (R 56)),(E P "NoLeans" 265 (R 68)),(E P "NoStand" 281 (R 80)),(E P "NoFeeder" 297 (R 92))]
 def a4:=Y "dict" (Data.dict ((E P "__name__" 165 (U "ballrockers.errors" 187))::Qj P).toArray 15)
 def Qk:List (Int×Nat):=[(2,20),(4,33),(6,45),(11,64),(13,76),(15,88)]
 def a5:=X (A (qJ Qk).toArray)
 def a6:=(Y "tuple" (Data.seq #[(Value.type "ValueError")] 0))
 def a7:=(Y "builtin_function_or_method" (A #[(Value.builtin "type.__prepare__"),(Value.type "type")]))
 def a8:=(Y "dict" (Data.dict #[(E P "__module__" 196 (U "ballrockers.errors" 187)),(E P "__qualname__" 198 (U "BoardError" 197)),(E P "__firstlineno__" 200 (I 2 199)),(E P "__static_attributes__" 201 (R 22))] 4))
 def a9:=(Y "code" (A #[(U "BoardError" 191),(U "BoardError" 192),(V 193),(J 2),(J 0),(J 0),(J 0),(J 0),(R 18),(Value.bool false),(J 181),(R 19),O,O,O,O,(J 194),(J 2),(V 195)]))
 def JT:=(Obj.mk (Value.type "frame") aD Data.plain #[(aC (R 20)),(aC (R 3)),(aC (R 17)),aD,(aC (U "ballrockers.errors" 187)),aD,(aC (R 0))])
 def ZX:=(Y "dict" (Data.dict #[(E P "__module__" 196 (U "ballrockers.errors" 187)),(E P "__firstlineno__" 200 (I 2 199)),(E P "__static_attributes__" 201 (R 22)),(E P "__weakref__" 203 (R 25)),(E P "__doc__" 204 O)] 3))
 def qR(l:List Nat):Obj:=(Obj.mk (Value.type "type") aD (Data.cls (ClassData.mk (S "BoardError") [(Value.type "ValueError")] [(R 24),(Value.type "ValueError"),(Value.type "Exception"),(Value.type "BaseException"),(Value.type "object")] 23 (S "BoardError") true [] (l.map λi=>R i) false aD false)) #[(aC (R 15)),aD,(aC (U "BoardError" 189)),(aC (U "BoardError" 197)),(aC (Value.builtin "ValueError.__new__")),(aC (Value.bool true))])
 def ZY:=qR [37,56,68,80,92]
 def ZZ:=(Y "getset_descriptor" (A #[(U "__weakref__" 202),(R 24),(Value.builtin "ExceptionGroup.__weakref__"),O]))
 def Z0:=(Y "super" (A #[(R 24),(R 24),(R 24)]))
 def Z1:=(Y "builtin_function_or_method" (A #[(Value.builtin "object.__init_subclass__"),(R 24)]))
 def Ql:=(Y "tuple" (Data.seq #[(R 24)] 0))
 def Z2:=(Y "dict" (Data.dict #[(E P "__module__" 230 (U "ballrockers.errors" 187)),(E P "__qualname__" 232 (U "Fault" 231)),(E P "__firstlineno__" 234 (I 6 233)),(E P "__init__" 243 (R 53)),(E P "__static_attributes__" 246 (R 54))] 5))
 def Z3:=(X (A #[(J 8),(J 4),(R 52)]))
 def Z4:=(Y "code" (A #[(U "Fault" 225),(U "Fault" 226),(V 227),(J 6),(J 0),(J 0),(J 0),(J 0),(R 43),(Value.bool false),(J 181),(R 44),O,O,O,O,(J 228),(J 6),(V 229)]))
 def Z5:=(Obj.mk (Value.type "frame") aD Data.plain #[(aC (R 45)),(aC (R 3)),(aC (R 42)),aD,(aC (U "ballrockers.errors" 187)),aD,(aC (R 0))])
 def Z6:=qT 238 ["self","row","column"]
 def Z7:=(X (B (FuncData.mk (S "__init__") (S "Fault.__init__") (ca 3 0) (FuncBody.stmts (cb 3 0)) (cs 3 0) 0 [] O O O O aD O O 0)))
 def Z8:=(Y "code" (A #[(U "__init__" 235),(U "Fault.__init__" 236),(V 237),(J 8),(J 3),(J 0),(J 0),(J 3),(R 47),(Value.bool true),(J 181),(R 48),O,(R 49),(R 50),(R 51),(J 241),(J 8),(V 242)]))
 def Z9:=(Y "function" (B (FuncData.mk (S "__init__") (S "Fault.__init__") (ca 3 0) (FuncBody.stmts (cb 3 0)) (cs 3 0) 3 [] O O O (U "ballrockers.errors" 187) aD (R 52) O 0)))
 def a32:=qT 244 ["column","row"]
 def a33:=(Y "dict" (Data.dict #[(E P "__module__" 230 (U "ballrockers.errors" 187)),(E P "__firstlineno__" 234 (I 6 233)),(E P "__init__" 243 (R 53)),(E P "__static_attributes__" 246 (R 54)),(E P "__doc__" 247 O)] 2))
 def a34:=(Obj.mk (Value.type "type") aD (Data.cls (ClassData.mk (S "Fault") [(R 24)] [(R 56),(R 24),(Value.type "ValueError"),(Value.type "Exception"),(Value.type "BaseException"),(Value.type "object")] 55 (S "Fault") true [] [] false aD false)) #[(aC (R 40)),aD,(aC (U "Fault" 223)),(aC (U "Fault" 231)),(aC (Value.builtin "ValueError.__new__")),(aC (Value.bool true))])
 def a35:=(Y "super" (A #[(R 56),(R 56),(R 56)]))
 def a36:=(Y "builtin_function_or_method" (A #[(Value.builtin "object.__init_subclass__"),(R 56)]))
 def qK(n:String)(t:Nat)(l:Int)(b:Nat):List Obj:=[Ql,a7,Y "dict" (Data.dict #[E P "__module__" (t+7) (U "ballrockers.errors" 187),E P "__qualname__" (t+9) (U n (t+8)),E P "__firstlineno__" (t+11) (I l (t+10)),E P "__static_attributes__" (t+12) (R (b+7))] 4),a0,a1,Y "code" (A #[U n (t+2),U n (t+3),V (t+4),J l,J 0,J 0,J 0,J 0,R (b+3),Value.bool false,J 181,R (b+4),O,O,O,O,J (Int.ofNat (t+5)),J l,V (t+6)]),Obj.mk (Value.type "frame") aD Data.plain #[aC (R (b+5)),aC (R 3),aC (R (b+2)),aD,aC (U "ballrockers.errors" 187),aD,aC (R 0)],a0,Y "dict" (Data.dict #[E P "__module__" (t+7) (U "ballrockers.errors" 187),E P "__firstlineno__" (t+11) (I l (t+10)),E P "__static_attributes__" (t+12) (R (b+7)),E P "__doc__" (t+13) O] 2),Obj.mk (Value.type "type") aD (Data.cls (ClassData.mk (S n) [R 24] [R (b+9),R 24,Value.type "ValueError",Value.type "Exception",Value.type "BaseException",Value.type "object"] (b+8) (S n) true [] [] false aD false)) #[aC (R b),aD,aC (U n t),aC (U n (t+8)),aC (Value.builtin "ValueError.__new__"),aC (Value.bool true)],Y "super" (A #[R (b+9),R (b+9),R (b+9)]),Y "builtin_function_or_method" (A #[Value.builtin "object.__init_subclass__",R (b+9)])]
 def Qm:List Obj:=((Qi P).set 3 (a4 P)).set 12 a5++([a6,a7,(a8 P),a0,a1,a9,JT,a0,(ZX P),ZY,ZZ,Z0,Z1]++(qK P "NoBoard" 207 4 28++([Ql,a7,(Z2 P),a0,Z3,Z4,Z5,a0,a1,Z6,a0,Z7,Z8,Z9,a32,(a33 P),a34,a35,a36]++(qK P "NoLeans" 250 11 59++(qK P "NoStand" 266 13 71++(qK P "NoFeeder" 282 15 83))))))
 def t0:=qB 20 (Qm P)
noncomputable def s0(w:ak)(os:ay):SharedT:=⟨t0 w.params,95,life,(Array.mk []),(Drawn.mk 0 0 0 0),298,os⟩
noncomputable def oG:List au:=(bd.drop 0).take 7
set_option maxHeartbeats 0 in
theorem Li(w:ak)(os:ay):segRun treeTable p w m0 ann 1 1295 (sb w os).abs (piecesOf oG env cd (Pos.mk 0 0 0 0) fr)=aC (.next,(s0 w os).abs,cd,(Pos.mk 15 0 16 8)):=mw (by kernel_rfl)
 def DO:=(Qj P++[(E P "NoRow" 313 (R 104)),(E P "NoNumber" 329 (R 116)),(E P "NoFit" 345 (R 128)),(E P "TooGreat" 361 (R 140)),(E P "NoMachine" 377 (R 152)),(E P "NoWord" 393 (R 164)),(E P "NoFault" 409 (R 176))])
 def a58:=Y "dict" (Data.dict ((E P "__name__" 165 (U "ballrockers.errors" 187))::DO P).toArray 22)
 def DP:List (Int×Nat):=Qk++[(17,100),(19,112),(21,124),(23,136),(25,148),(27,160),(29,172)]
 def a59:=X (A (qJ DP).toArray)
 def Px:=qR [37,56,68,80,92,104,116,128,140,152,164,176]
 def Qn:List Obj:=(((Qm P).set 3 (a58 P)).set 12 a59).set 24 Px++(qK P "NoRow" 298 17 95++(qK P "NoNumber" 314 19 107++(qK P "NoFit" 330 21 119++(qK P "TooGreat" 346 23 131++(qK P "NoMachine" 362 25 143++(qK P "NoWord" 378 27 155++(qK P "NoFault" 394 29 167)))))))
 def t1:=qB 20 (Qn P)
noncomputable def s1(w:ak)(os:ay):SharedT:=⟨t1 w.params,179,life,(Array.mk []),(Drawn.mk 0 0 0 0),410,os⟩
noncomputable def st1:List au:=(bd.drop 7).take 7
set_option maxHeartbeats 0 in
theorem Lj(w:ak)(os:ay):segRun treeTable p w m0 ann 1 1492 (s0 w os).abs (piecesOf st1 env cd (Pos.mk 15 0 16 8) fr)=aC (.next,(s1 w os).abs,cd,(Pos.mk 29 0 30 8)):=mw (by kernel_rfl)
 def vA:=(DO P++[(E P "NoNames" 425 (R 188)),(E P "NoText" 441 (R 200)),(E P "NoSaying" 457 (R 212)),(E P "NoName" 473 (R 224)),(E P "is_whole" 482 (R 233)),(E P "is_whole_within" 491 (R 240)),(E P "is_tuple_within" 500 (R 247)),(E P "are_wholes_within" 512 (R 254)),(E P "MOST_COLUMNS" 516 (I 40 515)),(E P "MOST_ROWS" 518 (I 60 517)),(E P "MOST_GROUPS" 520 (I 8 519)),(E P "MOST_FEEDERS" 522 (I 4 521)),(E P "MOST_NAME" 524 (I 99 523)),(E P "look_at_board" 538 (R 261)),(E P "is_board_but_for_places" 550 (R 268)),(E P "are_rows" 559 (R 275)),(E P "are_doors" 569 (R 282)),(E P "is_door" 579 (R 289)),(E P "is_feeder_or_none" 587 (R 296)),(E P "may_stand" 597 (R 303)),(E P "is_rocker" 607 (R 310)),(E P "below" 628 (R 317)),(E P "moved_rows" 634 (R 322)),(E P "moved_piece" 644 (R 329)),(E P "kept_doors" 650 (R 334)),(E P "kept_call" 658 (R 341)),(E P "beside" 666 (R 346))])
 def Ll:=Y "dict" (Data.dict ((E P "__name__" 165 (U "ballrockers.beside" 659))::vA P).toArray 49)
 def vB:List (Int×Nat):=DP++[(31,184),(33,196),(35,208),(37,220),(40,232),(42,239),(44,246),(46,253),(59,260),(67,267),(76,274),(83,281),(90,288),(95,295),(97,302),(105,309),(111,316),(123,321),(125,328),(130,333),(132,340),(135,345)]
 def Lm:=X (A (qJ vB).toArray)
 def Ln:=qR [37,56,68,80,92,104,116,128,140,152,164,176,188,200,212,224]
 def tQ:=U "ballrockers.whole" 474
 def kr:=U "ballrockers.boards" 513
 def pO:=U "ballrockers.joined" 608
 def yl:=U "ballrockers.beside" 659
 def Qo:List Obj:=(((Qn P).set 3 (Ll P)).set 12 Lm).set 24 Ln++(qK P "NoNames" 410 31 179++(qK P "NoText" 426 33 191++(qK P "NoSaying" 442 35 203++(qK P "NoName" 458 37 215++(qM "is_whole" 19 476 ["thing"] 40 1 227 tQ++(qM "is_whole_within" 20 483 ["thing","low","high"] 42 3 234 tQ++(qM "is_tuple_within" 21 492 ["thing","fewest","most"] 44 3 241 tQ++(qM "are_wholes_within" 22 501 ["thing","fewest","most","low","high","number"] 46 5 248 tQ++(qM "look_at_board" 29 525 ["board","width","groups","rows","row","places","column","piece"] 59 1 255 kr++(qM "is_board_but_for_places" 30 539 ["board","width","groups","rows","feeders","doors"] 67 1 262 kr++(qM "are_rows" 31 551 ["thing","width","places"] 76 2 269 kr++(qM "are_doors" 32 560 ["thing","width","feeders","door"] 83 3 276 kr++(qM "is_door" 33 570 ["thing","feeders","name","call"] 90 2 283 kr++(qM "is_feeder_or_none" 34 580 ["thing","feeders"] 95 2 290 kr++(qM "may_stand" 35 588 ["piece","column","width","groups"] 97 4 297 kr++(qM "is_rocker" 36 598 ["thing","groups","group","side"] 105 2 304 kr++(qM "below" 38 610 ["board","other","width","groups","rows","feeders","other_width","other_groups","other_rows","other_feeders","doors","all_rows","all_groups"] 111 2 311 pO++(qN "moved_rows" 39 629 123 2 318 pO++(qM "moved_piece" 40 635 ["piece","more","group","side"] 125 2 323 pO++(qN "kept_doors" 41 645 130 2 330 pO++(qM "kept_call" 42 651 ["call","feeders"] 132 2 335 pO++(qN "beside" 44 661 135 2 342 yl))))))))))))))))))))))
 def t2:=qB 20 (Qo P)
noncomputable def s2(w:ak)(os:ay):SharedT:=⟨t2 w.params,347,life,(Array.mk []),(Drawn.mk 0 0 0 0),667,os⟩
noncomputable def st2:List au:=(bd.drop 14).take 31
set_option maxHeartbeats 0 in
theorem Lo(w:ak)(os:ay):segRun treeTable p w m0 ann 1 1499 (s1 w os).abs (piecesOf st2 env cd (Pos.mk 29 0 30 8) fr)=aC (.next,(s2 w os).abs,cd,(Pos.mk 135 0 149 105)):=mw (by kernel_rfl)
 def DQ:=(vA P++[(E P "filled_rows" 675 (R 353)),(E P "moved_doors" 681 (R 358)),(E P "_law_cell" 691 (R 365)),(E P "_law_mixed" 701 (R 372)),(E P "_law_deck" 707 (R 377)),(E P "_law_take" 716 (R 384)),(E P "_law_piece" 728 (R 391)),(E P "_law_row" 734 (R 396)),(E P "_law_kinds" 742 (R 403)),(E P "_law_word" 750 (R 410)),(E P "_law_sized" 756 (R 415)),(E P "_law_wrong" 771 (R 422)),(E P "_law_refused" 781 (R 429)),(E P "_law_part" 793 (R 436)),(E P "_law_moved" 801 (R 443)),(E P "_law_put_below" 807 (R 448)),(E P "_law_put_beside" 813 (R 453)),(E P "_law_asked" 819 (R 458)),(E P "_law_below" 834 (R 465)),(E P "_law_beside" 850 (R 472)),(E P "law" 859 (R 479))])
 def Lp:=Y "dict" (Data.dict ((E P "__name__" 165 (U "law_ballrockers_k14_joined_refused" 682))::DQ P).toArray 70)
 def DR:List (Int×Nat):=vB++[(150,352),(152,357),(155,364),(159,371),(162,376),(164,383),(173,390),(183,395),(185,402),(191,409),(196,414),(200,421),(217,428),(223,435),(227,442),(231,447),(241,452),(255,457),(262,464),(274,471),(284,478)]
 def Lq:=X (A (qJ DR).toArray)
 def dX:=U "law_ballrockers_k14_joined_refused" 682
 def Lr:List Obj:=((Qo P).set 3 (Lp P)).set 12 Lq++(qM "filled_rows" 45 667 ["rows","width","many"] 150 3 347 yl++(qN "moved_doors" 46 676 152 2 354 yl++(qM "_law_cell" 48 684 ["_law_script","_law_k"] 155 2 359 dX++(qM "_law_mixed" 49 692 ["_law_script","_law_k","_law_many","_law_number"] 159 3 366 dX++(qN "_law_deck" 50 702 162 1 373 dX++(qM "_law_take" 51 708 ["_law_deck_here","_law_many","_law_cell_here"] 164 2 378 dX++(qM "_law_piece" 52 717 ["_law_deck_here","_law_column","_law_width","_law_groups","_law_lot","_law_piece_here"] 173 4 385 dX++(qN "_law_row" 53 729 183 3 392 dX++(qM "_law_kinds" 54 735 ["_law_e","_law_found"] 185 1 397 dX++(qM "_law_word" 55 743 ["_law_e","_law_words"] 191 1 404 dX++(qN "_law_sized" 56 751 196 5 411 dX++(qM "_law_wrong" 57 757 ["_law_deck_here","_law_board","_law_lot","_law_width","_law_groups","_law_rows","_law_feeders","_law_doors","_law_row_here"] 200 2 416 dX++(qM "_law_refused" 58 772 ["_law_maker","_law_one","_law_other","_law_e"] 217 3 423 dX++(qM "_law_part" 59 782 ["_law_deck_here","_law_whole","_law_least","_law_most","_law_one","_law_other"] 223 4 430 dX++(qM "_law_moved" 60 794 ["_law_piece_here","_law_by"] 227 2 437 dX++(qN "_law_put_below" 61 802 231 2 444 dX++(qN "_law_put_beside" 62 808 241 2 449 dX++(qN "_law_asked" 63 814 255 4 454 dX))++(qM "_law_below" 64 820 ["_law_deck_here","_law_width","_law_more","_law_groups","_law_others","_law_many","_law_rest","_law_due","_law_one"] 262 1 459 dX++(qM "_law_beside" 65 835 ["_law_deck_here","_law_width","_law_more","_law_groups","_law_others","_law_feeders","_law_beyond","_law_due","_law_one","_law_other"] 274 1 466 dX++(qM "law" 66 851 ["_law_script","_law_deck_here","_law_turn"] 284 1 473 dX)))))))))))))))))))
 def t3:=qB 20 (Lr P)
noncomputable def s3(w:ak)(os:ay):SharedT:=⟨t3 w.params,480,life,(Array.mk []),(Drawn.mk 0 0 0 0),860,os⟩
noncomputable def st3:List au:=(bd.drop 45).take 22
set_option maxHeartbeats 0 in
theorem Ls(w:ak)(os:ay):segRun treeTable p w m0 ann 1 649 (s2 w os).abs (piecesOf st3 env cd (Pos.mk 135 0 149 105) fr)=aC (.next,(s3 w os).abs,cd,(Pos.mk 284 0 289 15)):=mw (by kernel_rfl)
 def hz:aA:=Heap.mk (Array.mk (Lr P)) (Life.mk [] [] [] 0 [] [] false #[] [] 0 false false false 0 [2000,10,10] false 0 true [] [] 0 false)
noncomputable def sz(w:ak)(os:ay):ah:=⟨hz w.params,(Array.mk []),(Drawn.mk 0 0 0 0),860,os⟩
set_option maxHeartbeats 0 in
theorem fin(w:ak)(os:ay):topRun treeTable p w m0 ann 2 (s3 w os).abs ⟨doneF .next,cd,(Pos.mk 284 0 289 15),fr⟩=aC (sz w os):=DN (by kernel_rfl)
 def as:List ai:=[2,3,15,22,23,24,25,28,35,36,37,40,47,49,50,52,53,54,55,56,59,66,67,68,71,78,79,80,83,90,91,92,95,102,103,104,107,114,115,116,119,126,127,128,131,138,139,140,143,150,151,152,155,162,163,164,167,174,175,176,179,186,187,188,191,198,199,200,203,210,211,212,215,222,223,224,227,229,230,232,233,234,236,237,239,240,241,243,244,246,247,248,250,251,253,254,255,257,258,260,261,262,264,265,267,268,269,271,272,274,275,276,278,279,281,282,283,285,286,288,289,290,292,293,295,296,297,299,300,302,303,304,306,307,309,310,311,313,314,316,317,318,321,322,323,325,326,328,329,330,333,334,335,337,338,340,341,342,345,346,347,349,350,352,353,354,357,358,359,361,362,364,365,366,368,369,371,372,373,376,377,378,380,381,383,384,385,387,388,390,391,392,395,396,397,399,400,402,403,404,406,407,409,410,411,414,415,416,418,419,421,422,423,425,426,428,429,430,432,433,435,436,437,439,440,442,443,444,447,448,449,452,453,454,457,458,459,461,462,464,465,466,468,469,471,472,473,475,476,478,479]
 def K:Frag:=as.map λi=>(i,(Lr P).getD i a0)
noncomputable def M0:Nat:=(12+ (1+ (1295+ (1492+ (1499+ (649+2))))))
theorem DS:bd=oG++(st1++(st2++(st3++([])))):=by kernel_rfl
theorem rest(w:ak)(os:ay):topRun treeTable p w m0 ann (1295+ (1492+ (1499+ (649+ (2))))) (sb w os).abs (restOf bd env cd (Pos.mk 0 0 0 0) fr)=aC (sz w os):=by rw[show restOf bd env cd (Pos.mk 0 0 0 0) fr=restOf (oG++(st1++(st2++(st3++([]))))) env cd (Pos.mk 0 0 0 0) fr from nk (λb=>restOf b env cd (Pos.mk 0 0 0 0) fr) DS];exact(piece_app (Li w os) (piece_app (Lj w os) (piece_app (Lo w os) (piece_app (Ls w os) (piece_nil (fin w os))))))
theorem run(w:ak)(os:ay):topRun treeTable p w m0 ann M0 ⟨boot_heap w.params,Array.mk [],boot_drawn,boot_toks,os⟩ (topStub p)=aC (sz w os):=
 go_top (pre w os) (piece_block (block w os) (rest w os))
noncomputable def pP:Nat:=66
noncomputable def zy3:Pos:=(Pos.mk 284 0 289 15)
noncomputable def q:aj:={p with main:={p.main with body:=keep.map (yk p.main.body)}}
theorem DT:∀P,as=(K P).map (·.1):=λ_=>by kernel_rfl
noncomputable def H:Hook:=kHook K as DT
noncomputable def Xt(s:ah):Bool:=xlAt q [] s&&recOk [] s
theorem zy4(w:ak)(os:ay):(staticsOk (importedModules p.main.body) (boot_heap w.params) (hz w.params)&&namesBound p (hz w.params)&&gensDone (sz w os)&&laidKept (boot_heap w.params) (hz w.params))=true:=by rw[PySem.W.Fast.te5923862056798008813];kernel_rfl
theorem zy5(w:ak)(os:ay):seen ((recsOf q).map (·.name)) (ownsOf q) [] {sz w os with gens:=#[]}=expectedOf q:=by rw[PySem.W.Fast.te5160383126252970620,PySem.W.R.mapR_eq,PySem.W.Fast.te3399658132070893891,PySem.W.Fast.te5991557255702980513];kernel_rfl
theorem DU(w:ak)(os:ay):(sz w os).heap.bltView=bltViewBooted:=by kernel_rfl
theorem zy6(w:ak)(os:ay):((sz w os).heap.keysOk (looseW q lo) ((recsOf q).map (·.name)) ((litsOf q).map (·.1)) ((clssOf q (looseW q lo)).map (·.name))&& (sz w os).heap.accountedOkI (importedModules p.main.body)&& (sz w os).heap.isNs mainGlobals&& (sz w os).heap.isNs builtinsNs&&tablesOk q (sz w os).heap&&Xt (sz w os)&& (if true=true then(sz w os).gens.size==0 else !leftWithCleanup (sz w os).gens))=true:=by rw[PySem.W.Fast.te10880121769531294198,PySem.W.Fast.te821141287760084731,PySem.W.R.mapR_eq,PySem.W.Fast.te3399658132070893891,PySem.W.Fast.te7409074990110511671,PySem.W.Fast.te13664370479719496447,PySem.W.Fast.te14722251495701143533,PySem.W.Fast.te10994771534591457954,PySem.W.Fast.te5923862056798008813];kernel_rfl
theorem zy7(w:ak)(os:ay):tabsOk q (sz w os)=true:=by rw[PySem.W.Fast.te479339242167458305];kernel_rfl
theorem DV(w:ak)(os:ay):pinSeenD q (drecsOf q) (sz w os)=pinGoodD (drecsOf q):=by rw[PySem.W.Fast.te16090120013241838585,PySem.W.Fast.te3247288618530077131];kernel_rfl
theorem DW(w:ak)(os:ay):plainSeenE q (looseW q lo) (sz w os)=plainGoodE q (looseW q lo):=by rw[PySem.W.Fast.te2386780881361962483,PySem.W.Fast.te821141287760084731];kernel_rfl
theorem DX(w:ak)(os:ay):plainSeenD q lo (sz w os)=plainGoodD q lo:=by rw[PySem.W.Fast.te11698064438423848299];kernel_rfl
theorem zy8(w:ak)(os:ay):wideSeen q (sz w os)=wideGood q:=by rw[PySem.W.Fast.te7317090234206586261];kernel_rfl
theorem DY(w:ak)(os:ay):clsSeenW q lo (sz w os)=clsGoodW q lo:=by rw[PySem.W.Fast.te7369524293546568484];kernel_rfl
theorem zy9(w:ak)(os:ay):as.map (sz w os).heap.get?=(K w.params).map λp=>aC p.2:=by kernel_rfl
theorem left:LeftO p q lo Xt (Hook.obs H) (Hook.val H) N0 true:=
 LeftO.of_pieces (H₀:=boot_heap) (H₁:=hz) (boot_open (by kernel_rfl) (by kernel_rfl) (λs=>by kernel_rfl)) (λw=>by kernel_rfl) run (by kernel_rfl)
  (λw=>funext λos=>looks_pair (zy4 w os) (looks_pair
    (looks_pair (zy5 w os) (looks_pair (DU w os) (looks_pair (zy6 w os) (looks_pair (zy7 w os) (looks_pair (DV w os) (looks_pair (DW w os) (looks_pair (DX w os) (looks_pair (zy8 w os) (DY w os)))))))))
    (zy9 w os)))
noncomputable def df:DefRec:=⟨S "law",fa pP,fb pP,fs pP,zy3⟩
theorem DZ:defOf q (S "law")=aC (df,[]):=by kernel_rfl
theorem holds(l:OpenLaw)(hp:l.prog=p)(hn:l.name=S "law")(ok:l.wellSaid)(hch:(chainsOk q&&opensWell p&& (frees l.row.toRowW&&l.row.within.isEmpty)))(hb:l.row.toRowW.prog.bare)(hw:l.row.toRowW.promised)
 (hwr:(!l.row.writes||l.row.records.isEmpty)) (hk:p.theDef (S "law")=aC (df.params,df.body,df.scope)) (hkw:kwWritten? df.params.kwonlyargs df.params.kw_defaults=aC [])
 (call:WalkO q lo (XL q []) (Hook.says H) l.row.toRowW df [] λf vs=>PySem.call f vs):l.Holds:=
 holds_law ok λsaid=>PySem.W.holds_open (q:=q) (loose:=lo) (Xt:=Xt) (XP:=XL q []) (Yf:=Hook.obs H) (Ya:=Hook.val H) (YP:=Hook.says H) (N:=N0) (r:=l.row) (by have h:l.row.toRowW.prog=p:=hp;show LeftO l.row.toRowW.prog q lo Xt (Hook.obs H) (Hook.val H) N0 true;rw[h];exact left) (Hook.of H) (Hook.keeps H) (λs e=>xl_of s (Bool.and_eq_true_iff.mp e).1) XL.keeps
  (by show defOf q l.name=_;rw[hn];exact DZ) (by show l.prog.theDef l.name=_;rw[hp,hn];exact hk) hkw (λs e=>recFacts_of (Bool.and_eq_true_iff.mp e).2) hwr said (by have h:l.row.toRowW.prog=p:=hp;rw[h];exact hch) hb hw call
end
end
end HD
namespace RF
noncomputable def Qp:List PySem.Str:=(["is_whole","is_whole_within","_law_cell","_law_deck","_law_mixed","_law_take","is_tuple_within","are_wholes_within","are_doors","are_rows","is_board_but_for_places","is_door","is_feeder_or_none","is_rocker","look_at_board","may_stand"]++aR 5 "" ++ ["_law_piece"]++aR 3 "" ++ ["_law_row"]++aR 49 "" ++ ["moved_piece","moved_rows"]++aR 19 "" ++ ["below","kept_call","kept_doors"]++aR 21 "" ++ ["beside"]++aR 1 "" ++ ["filled_rows"]++aR 2 "" ++ ["moved_doors"]++aR 5 "" ++ ["_law_moved"]++aR 568 "" ++ ["_law_asked","_law_below","_law_beside","_law_part","_law_put_below","_law_put_beside","_law_refused","_law_sized","_law_wrong","law"]).map bK
noncomputable def Qq:List Fn:=[Fy,JU,FA,CS,JV,sC,CU,CV,CW,CY,j8,sD,xF,sE,xG,xH]++aR 5 jz++[o9]++aR 3 jz++[sF]++aR 49 jz++[j9,iY]++aR 19 jz++[pq,pA,m8]++aR 21 jz++[kg]++aR 1 jz++[kh]++aR 2 jz++[jb]++aR 5 jz++[kc]++aR 568 jz++[zw,FZ,F0,FW,C2,C3,sG,FY,xK,C4,tB 37 56,KC,KD]
noncomputable def Lu:RX:=⟨[bK "look_at_board",bK "below",bK "beside"],710,[(37,bK "board"),(56,bK "fault"),(128,bK "fit"),(140,bK "great")]⟩
theorem c14:zG (λi=>Qq[i]?):=by repeat' (first|rfl|constructor)
open PySem L2
section
noncomputable def cc(i:Nat):CC:=⟨kX ["_law_e"] (HD.fs i),(HD.fs i).names,true⟩
noncomputable def kn(l:List Bool):List (Str×Bool):=List.zip ["NoBoard","Fault","NoLeans","NoStand","NoFeeder","NoRow","NoNumber","NoFit","TooGreat","NoMachine","NoWord","NoFault","NoNames","NoText","NoSaying","NoName"] l
variable{X:Cx}{C:ai}{kb:List Bool}{k:Nat}
theorem Gv{b0 b1 b2 b3 b4 b5 b6 b7 b8 b9 bA bB bC bD bE bF:Bool}(O:oX X C (cc 54) (kn [b0,b1,b2,b3,b4,b5,b6,b7,b8,b9,bA,bB,bC,bD,bE,bF]) kb k):SQ X (HD.fb 54) (oW C [aC .exc,aD] (.nC [b0,b1,b2,b3,b4,b5,b6,b7,b8,b9,bA,bB,bC,bD,bE,bF])):=by have v:∀{ρ:List (Option MV)}{p:Pos}{m:MV},PE X (.Name "_law_e" p) (tM C (aC m::ρ) m):=lV O 0 (by decide +kernel) rfl;have w:∀{m n:MV}{p:Pos},PE X (.Name "_law_found" p) (tM C [aC m,aC n] n):=lV O 1 (by decide +kernel) rfl;have q:∀(i:Nat){t:Str}{b:Bool}{p p1 p2 pos:Pos}{ρ:List (Option MV)},(kn [b0,b1,b2,b3,b4,b5,b6,b7,b8,b9,bA,bB,bC,bD,bE,bF])[i]?=aC (t,b)->PE X (.Call (.Name "isinstance" p) [.Name "_law_e" p1,.Name t p2] [] pos) (tM C (aC .exc::ρ) (.bl b)):=λi _ _ _ _ _ _ _ h=>oY O v rfl h;exact j6 O 1 (by decide +kernel) (.mk (j0 (bs:=[b0,b1,b2,b3]) (jZ (q 0 rfl) (jZ (q 1 rfl) (jZ (q 2 rfl) (jZ (q 3 rfl) zo rfl) rfl) rfl) rfl) (oZ rfl))) rfl rfl (j6 O 1 (by decide +kernel) (.mk (lU w (j0 (bs:=[b4,b5,b6]) (jZ (q 4 rfl) (jZ (q 5 rfl) (jZ (q 6 rfl) zo rfl) rfl) rfl) (oZ rfl)) (oZ rfl))) rfl rfl (j6 O 1 (by decide +kernel) (.mk (lU w (j0 (bs:=[b7,b8,b9]) (jZ (q 7 rfl) (jZ (q 8 rfl) (jZ (q 9 rfl) zo rfl) rfl) rfl) (oZ rfl)) (oZ rfl))) rfl rfl (j6 O 1 (by decide +kernel) (.mk (lU w (j0 (bs:=[bA,bB,bC]) (jZ (q 10 rfl) (jZ (q 11 rfl) (jZ (q 12 rfl) zo rfl) rfl) rfl) (oZ rfl)) (oZ rfl))) rfl rfl (uM (.mk (lU w (j0 (bs:=[bD,bE,bF]) (jZ (q 13 rfl) (jZ (q 14 rfl) (jZ (q 15 rfl) zo rfl) rfl) rfl) (oZ rfl)) (oZ rfl)))))))
theorem Gx{j:Nat}{z:Str}(O:oX X C (cc 55) [("BoardError",true),("ValueError",true)] kb (k+1))(hc:(kb.map PyData.bool).countP kY=1)(hj:(kb.map PyData.bool).findIdx? kY=aC j)(hz:((["board","fault","leans","stand","feeder","row","number","fit","great","machine","word"]:List Str)++(["broken","names","text","saying","name"]:List Str))[j]?=aC z)(hi:(j:Int)<2 ^ 63-1):SQ X (HD.fb 55) (oW C [aC .exc,aD] (.str z)):=by
 have v:∀{ρ:List (Option MV)}{p:Pos}{m:MV},PE X (.Name "_law_e" p) (tM C (aC m::ρ) m):=lV O 0 (by decide +kernel) rfl;have w:∀{m n:MV}{p:Pos},PE X (.Name "_law_words" p) (tM C [aC m,aC n] n):=lV O 1 (by decide +kernel) rfl;have e:(!decide (V.int (((kb.map PyData.bool).countP kY:Nat):Int)=V.int 1))=false:=by rw[hc];rfl
 have A1:∀{x}(h:PT X x (nD C [aC .exc,aD] (!decide (V.int (((kb.map PyData.bool).countP kY:Nat):Int)=V.int 1)))),PT X x (nD C [aC .exc,aD] false):=λh=>e▸h;exact JN (uJ (Ow (Ox (oY O v rfl (rfl:_[0]?=_)) λ_=>rfl)) (uJ (Ow (Ox (oY O v rfl (rfl:_[1]?=_)) λ_=>rfl)) (Xz (A1 (CJ (CG O.OA (uK O v rfl (by decide +kernel)) CK rfl rfl rfl) CL rfl))))).pt
  (j6 O 1 (by decide +kernel) (uL rfl rfl) rfl rfl (uM (CN (XD w (uL rfl rfl) rfl) (CH O.OA (uK O v rfl (by decide +kernel)) CK rfl rfl rfl hj hi) rfl (wk hz))))
end
end RF
theorem RF.tR(P:PySem.Params):RF.zp (HD.K P) "_law_kinds" = aC (RF.cc 54,HD.fb 54):=by kernel_rfl
theorem RF.tS(P:PySem.Params):RF.zp (HD.K P) "_law_word" = aC (RF.cc 55,HD.fb 55):=by kernel_rfl
set_option maxHeartbeats 0 in
theorem RF.Lv(P:PySem.Params):RF.gG (HD.K P) RF.Qp RF.Lu 60 60=aC RF.Qq:=by kernel_rfl
open PySem PySem.W PyProof.Rows
set_option maxRecDepth 100000 in
set_option maxHeartbeats 0 in
theorem PySem.Challenge.cw_ballrockers_k14_joined_refused_holds : PySem.Challenge.rw_ballrockers_k14_joined_refused.Holds := by
 refine HD.holds _ rfl rfl RF.pa14 (by kernel_rfl) ⟨rfl,rfl,rfl,rfl,rfl,by decide +kernel⟩ ?hw rfl (by kernel_rfl) (by kernel_rfl) ?call
 (case hw=>w_witness2)
 refine RF.X0 RF.Qp RF.Lu 60 60 30 709 rfl (by kernel_rfl) ⟨rfl,by decide,by decide⟩ (λw h Y=>PySem.W.kIn_of Y) (by kernel_rfl) (by decide +kernel) ?b ?c ?d
 (case c=>intro w;kernel_rfl)
 (case d=>
   intro w mg base KX G C z hm
   have e:C=37/\z=bK "board"\/C=56/\z=bK "fault"\/C=128/\z=bK "fit"\/C=140/\z=bK "great":=by simpa[RF.Lu]using hm
   rcases e with⟨rfl,rfl⟩|⟨rfl,rfl⟩|⟨rfl,rfl⟩|⟨rfl,rfl⟩
   .exact RF.lZ (t1:=RF.kn (.replicate 0 false++true :: .replicate 15 false)) (RF.tR _) (RF.tS _) KX G (by repeat' (first|kernel_rfl|rfl|decide|constructor)) (by kernel_rfl) (by kernel_rfl) (λX O=>RF.Gv O) λX O=>RF.Gx (j:=0) O rfl rfl rfl (by decide)
   .exact RF.lZ (t1:=RF.kn (.replicate 1 false++true :: .replicate 14 false)) (RF.tR _) (RF.tS _) KX G (by repeat' (first|kernel_rfl|rfl|decide|constructor)) (by kernel_rfl) (by kernel_rfl) (λX O=>RF.Gv O) λX O=>RF.Gx (j:=1) O rfl rfl rfl (by decide)
   .exact RF.lZ (t1:=RF.kn (.replicate 7 false++true :: .replicate 8 false)) (RF.tR _) (RF.tS _) KX G (by repeat' (first|kernel_rfl|rfl|decide|constructor)) (by kernel_rfl) (by kernel_rfl) (λX O=>RF.Gv O) λX O=>RF.Gx (j:=7) O rfl rfl rfl (by decide)
   .exact RF.lZ (t1:=RF.kn (.replicate 8 false++true :: .replicate 7 false)) (RF.tR _) (RF.tS _) KX G (by repeat' (first|kernel_rfl|rfl|decide|constructor)) (by kernel_rfl) (by kernel_rfl) (λX O=>RF.Gv O) λX O=>RF.Gx (j:=8) O rfl rfl rfl (by decide))
 (case b=>
   intro w ns hl
   exact RF.XZ (RF.Lv _) (RF.DL RF.c14 hl))
