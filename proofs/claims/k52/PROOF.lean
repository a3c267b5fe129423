import PyProof.Rows.All
import Wide.All
import OpenK.AllK
import Wide.FinOn
import Lean
import PyProof.EqAt
import PyProof.EqKinds
import PyProof.TupleCall
import KE.KUnpack
import PySem.Challenge.RW_ballrockers_k52_machine_boards
set_option Elab.async false
set_option linter.all false
set_option genSizeOf false
set_option bootstrap.genMatcherCode false
set_option compiler.extract_closed false
set_option maxRecDepth 100000
set_option maxHeartbeats 0 in
theorem RF.pa52:PySem.Challenge.rw_ballrockers_k52_machine_boards.wellSaid=true:=by kernel_rfl
def fS:=@decide_eq_true_eq
def jn:=@decide_eq_false
def bY:=@if_true
def kX:=@of_decide_eq_true
def eG:=@if_false
def kY:=@decide_eq_true
def C5:=@beq_eq_false_iff_ne
def nR:=@congrArg
def tG:=@beq_iff_eq
open PySem renaming wpAny_bind->aJ,wpAny_pure->bH,wpAny_mono->ie,wpAny_holding->mP,wpAny_standAt->mQ,wpAny_truthy_bool->qA,wpAny_newObj_type->qH,wpAny_pyIter_tuple->tH,wpAny_field->lq,wpAny_callSpecial?_slot->xG,wpAny_seqItems->qI,wpAny_Call_Name_kw->xH,wpAny_setField_rec->xJ,wpAny_passesOwn->uU,wpAny_pyIter_list->xK,wpAny_comprehension_free->C6,mem_of_lookup->yV,wpAny_call_entry->xM,noFill_tuple_add->yW,call_meets->qK,wpAny_rule->qL,sizeLine_eq->uV,wpAny_setState_of->C7,seq_tuple_add->yX,codeAny_mono->yY,wpAny_onRaise->C8,wpAny_typeOf->C9,wpAny_ite->xN,wpAny_of_eq->Dc
open List renaming length_map->bx,getElem?_eq_getElem->dh,length_cons->cG,size_toArray->dR,getElem?_map->dS,mem_cons_of_mem->fE,getElem?_eq_some_iff->i7,mem_cons_self->fT,length_append->fU,getElem?_eq_none->iL,all_eq_true->fX,lookup_cons->gG,mem_append_right->jG,map_cons->fm,map_append->ig,mem_cons->gH,getElem?_append_right->oq,getElem?_eq_none_iff->ou,getD_eq_getElem?_getD->pX,mem_of_getElem?->mR,mem_map->iH,getElem_mem->kZ,getElem?_cons_succ->pY,mem_singleton->mS,foldl_cons->lU,length_range->nT,mem_range->lV,getElem?_append_left->uW,length_replicate->tK,replicate_succ->qM,take_length->oz,take_add_one->pZ,zip_cons_cons->qN,set_cons_zero->qP,append_nil->oA,find?_cons->oB,getElem?_cons_zero->xO,all_cons->nU,length_take->qQ,cons_append->qR,getElem?_set_self->xP,filterMap_cons->uX,flatten_cons->tL,drop_eq_getElem_cons->yZ,eq_of_mem_replicate->za,set_cons_succ->uY,getElem?_range->xQ,drop_eq_nil_of_le->zb,length_singleton->zc,length_range'->xR,mem_or_eq_of_mem_set->Dd,getElem?_set_ne->zd,mem_append->uZ,nodup_cons->u5,getElem?_replicate->De,length_drop->xS,forIn_nil->u6,length_set->xT,nil_append->xU,range_succ->xV,append_assoc->ze,map_nil->u7,forIn_cons->vec,any_cons->xW,mem_range'_1->Df,foldl_append->Dg,any_eq_true->Dh,not_mem_nil->Di,length_nil->Dj,map_map->Dl
open PySem renaming Value->aa,Shared->af,Addr->ah,Program->ai,World->aj,Around->ak,Expr->ao,Stmt->aq,FuncData->au,OsState->av,Scope->ay,Heap->az,PyData->aA
open Option renaming some->aB,none->aC
open PySem.W renaming Frag->aH
open PySem.Str renaming ofString->bN
open List renaming replicate->bI
open Bool renaming and_eq_true->bJ,false_eq_true->fF,or_eq_true->p5,false_ne_true->u9,not_eq_true'->vc,false_and->xX
open PySem.Heap renaming get?_push_of_some->cy,lt_size->cQ,get?_push_size->iI,size_push->jU,get?_update_self->Dm
open Nat renaming le_refl->aZ,lt_of_lt_of_le->di,lt_succ_self->fY,lt_irrefl->fZ,le_of_ble_eq_true->lu,ne_of_lt->gh,le_trans->gJ,zero_add->jo,zero_le->j8,not_lt->jH,lt_succ_of_lt->ve,eq_of_beq_eq_true->zg,le_succ->p9,lt_of_le_of_lt->zh,le_of_lt->tM,ne_of_gt->tN,not_lt_zero->xY,add_le_add_left->Dn,ble_eq->qS,sub_add_cancel->Dp,le_of_succ_le->Dq,le_add_right->Dr
open PySem.AutoSeq1 renaming wpAny_loadPart'->oE
open Option renaming map_some->ly,join_some->vf,getD_none->Ds,bind_some->Dt
open PyProof.Rows renaming slot_tuple_getitem->xZ,callWith_type1->x8
open PySem.W renaming kia_one->mT
open Option.some renaming inj->nV
open Ne renaming symm->eV
open PySem.W.Fast renaming te14364793385576792824->Du
open PySem.F renaming called_set->tO,args_tuple_add_2->vcs,entry_tuple_add->zj,slot_tuple_add->zk,slot_tuple_iterator_next->Dv,slot_tuple_mul->zl,slot_zip_next->Dw
open Int renaming eq_ofNat_of_zero_le->ya,toNat_natCast->vg,emod_lt_of_pos->Dy,mul_comm->yb,emod_nonneg->Dz,add_comm->zm,pow_succ->DA
open Array renaming length_toList->yc,size_map->vh
open PySem.SeqAt renaming canLay_of_shaped->DB
open PySem.Calls renaming spliced_cons->zo,spliced_nil->DC
open PySem.Heap.SameBut renaming update->DE
open PySem.Paired renaming length->yd
open LawfulMonad renaming pure_bind->qV
open Sum.inl renaming inj->DF
namespace L2
theorem aR1(h:True:=by rfl):True:=h
theorem aD1(h:True:=by decide):True:=h
theorem aF1(h:True:=by first|exact .inl rfl|exact .inr rfl|assumption):True:=h
end L2
namespace L2
open PySem PySem.Spec PyProof.Rows
noncomputable abbrev Key:=Sum Int Str
noncomputable def jq:Key->aa->Bool|.inl k,v=>Value.isInt k v|.inr x,v=>Value.isStrOf x v
noncomputable def FU(w:aj):Key->Int|.inl k=>hashInt k|.inr x=>hashStr w x
theorem qc:∀{k:Key} {v:aa},jq k v=true->(∃i t,k=Sum.inl i/\v=Value.int i t)\/(∃x t,k=Sum.inr x/\v=Value.str x t)
 |.inl i,v,h=>by
  obtain⟨t,e⟩:=Value.isInt_shape (k:=i) (v:=v) h;exact .inl ⟨i,t,rfl,e⟩
 |.inr x,v,h=>by
  obtain⟨t,e⟩:=Value.isStrOf_shape (x:=x) (v:=v) h;exact .inr ⟨x,t,rfl,e⟩
theorem Rf(i:Int)(t:Tok):jq (.inl i) (.int i t)=true:=by simp[jq,Value.isInt]
theorem Rg(x:Str)(t:Tok):jq (.inr x) (.str x t)=true:=by simp[jq,Value.isStrOf]
theorem Rh(a b:Int):decide ((Sum.inl a:Key)=Sum.inl b)=(a==b):=by by_cases e:a=b;subst e;simp;have h:¬(Sum.inl a:Key)=Sum.inl b:=λq=>e (DF q);rw[jn h];exact(C5.mpr e).symm
theorem Ri(a b:Str):decide ((Sum.inr a:Key)=Sum.inr b)=decide (a=b):=by by_cases e:a=b;subst e;simp;have h:¬(Sum.inr a:Key)=Sum.inr b:=λq=>e (Sum.inr.inj q);rw[jn h,jn e]
theorem Rj(a:Int)(b:Str):decide ((Sum.inl a:Key)=Sum.inr b)=false:=jn (λq=>nomatch q)
theorem Rk(a:Str)(b:Int):decide ((Sum.inr a:Key)=Sum.inl b)=false:=jn (λq=>nomatch q)
noncomputable def iM(prog:ai)(w:aj):PySem.KeyKind prog w Key where
 is:=jq
 hash:=FU w
 inj:=λv a b ha hb=>by
  rcases qc ha with⟨i,t,rfl,rfl⟩|⟨x,t,rfl,rfl⟩
  .rcases qc hb with⟨j,u,rfl,e⟩|⟨y,u,rfl,e⟩
   .injection e with e1 _;rw[e1]
   .exact nomatch e
  .rcases qc hb with⟨j,u,rfl,e⟩|⟨y,u,rfl,e⟩
   .exact nomatch e
   .injection e with e1 _;rw[e1]
 byValue:=λk v h=>by
  rcases qc h with⟨i,t,rfl,rfl⟩|⟨x,t,rfl,rfl⟩<;>rfl
 pyHash:=λhv h=>by
  rcases qc hv with⟨i,t,rfl,rfl⟩|⟨x,t,rfl,rfl⟩
  .exact wpAny_pyHash_int h
  .exact wpAny_pyHash_str h
 eqBool:=λhu hv h=>by
  rcases qc hu with⟨i,t,rfl,rfl⟩|⟨x,t,rfl,rfl⟩
  .rcases qc hv with⟨j,u,rfl,rfl⟩|⟨y,u,rfl,rfl⟩
   .rw[Rh]at h;exact wpAny_eqBool_int h
   .rw[Rj]at h;exact SeqAt.EqAt.int_str i t y u _ _ _ _ h
  .rcases qc hv with⟨j,u,rfl,rfl⟩|⟨y,u,rfl,rfl⟩
   .rw[Rk]at h;exact SeqAt.EqAt.str_int x t j u _ _ _ _ h
   .rw[Ri]at h;exact wpAny_eqBool_str h
 «strs»:=λk x t v h=>by
  rcases qc h with⟨i,u,rfl,e⟩|⟨y,u,rfl,e⟩
  .exact nomatch e
  .injection e with e1 _
   subst e1
   cases v<;>rfl
theorem Rl(prog:ai)(w:aj)(i:Int)(t:Tok):(iM prog w).is (.inl i) (.int i t)=true:=Rf i t
theorem Rm(prog:ai)(w:aj)(x:Str)(t:Tok):(iM prog w).is (.inr x) (.str x t)=true:=Rg x t
inductive V where
 |aP|bl (b:Bool)|int (i:Int)|str (x:Str)|zp (b:Array UInt8)|ye (b:UInt64)|ref (a:ah)|ty (n:String)
 deriving DecidableEq
noncomputable def RelV:V->aa->Prop|.aP,u=>u=Value.none|.bl b,u=>u=Value.bool b|.int i,u=>∃t,u=Value.int i t|.str x,u=>∃t,u=Value.str x t|.zp b,u=>∃t,u=Value.bytes b t|.ye b,u=>∃t,u=Value.float b t|.ref a,u=>u=Value.ref a|.ty n,u=>u=Value.type n
noncomputable abbrev Vals:List V->List aa->Prop:=Paired RelV
theorem Vals.length{xs:List V}{us:List aa}(r:Vals xs us):xs.length=us.length:=yd r
theorem Vals.get:∀{xs:List V} {us:List aa} {i:Nat} {x:V},Vals xs us->xs[i]?=aB x->∃u,us[i]?=aB u/\RelV x u
 |_,_,_,_,.nil,e=>by simp at e
 |_,_,0,_,.cons r _,e=>by simp at e;subst e;exact⟨_,rfl,r⟩
 |_,_,i+1,x,.cons _ t,e=>by
  obtain⟨u,h1,h2⟩:=Vals.get (i:=i) (x:=x) t (by simpa using e);exact⟨u,by simpa using h1,h2⟩
theorem Vals.set{x:V}{u:aa}(r:RelV x u):∀{xs:List V} {us:List aa} (i:Nat),Vals xs us->Vals (xs.set i x) (us.set i u)|_,_,_,.nil=>.nil|_,_,0,.cons _ t=>.cons r t|_,_,i+1,.cons q t=>.cons q (Vals.set r i t)
theorem Vals.append:∀{xs ys:List V} {us ws:List aa},Vals xs us->Vals ys ws->Vals (xs++ys) (us++ws)|_,_,_,_,.nil,s=>s|_,_,_,_,.cons r t,s=>.cons r (Vals.append t s)
theorem Vals.take:∀{xs:List V} {us:List aa} (n:Nat),Vals xs us->Vals (xs.take n) (us.take n)|_,_,0,_=>.nil|_,_,_+1,.nil=>.nil|_,_,n+1,.cons r t=>.cons r (Vals.take n t)
theorem Vals.drop:∀{xs:List V} {us:List aa} (n:Nat),Vals xs us->Vals (xs.drop n) (us.drop n)|_,_,0,r=>r|_,_,_+1,.nil=>.nil|_,_,n+1,.cons _ t=>Vals.drop n t
noncomputable def gK:Option V->Option aa->Prop|some v,aB u=>RelV v u|none,aC=>True|_,_=>False
noncomputable def KV{κ:Type}:List (κ×V)->List (κ×aa)->Prop:=Paired λ(p:κ×V) (q:κ×aa)=>p.1=q.1/\RelV p.2 q.2
noncomputable def kV:Key->V|.inl i=>.int i|.inr x=>.str x
inductive HO where
 /-- a list -/
 |lst (xs:List V)
 /-- a tuple (never changes) -/
 |tup (xs:List V)
 /-- a dict zq keys are ints and texts;one zq keys are tuples of ints and texts (yf empty one is both) -/
 |dK (kvs:List (Key×V))|dT (kvs:List (List Key×V))
 /-- a set of ints: its members,its size -/
 |set (S:Int->Bool) (n:Nat)
 /-- an instance of yf class at C,its dict at dx,its attributes -/
 |ins (C dx:ah) (fs:List (Str×V))
 /-- yf dict of yf instance at x -/
 |own (x:ah)
 /-- yf dict of an exception -/
 |xd (fs:List (Str×V))
 /-- a bound method,f of x -/
 |met (f x:ah)
 /-- a range object lo,lo+1,.. below hi -/
 |FW (lo hi:Int)
 /-- a thing Rn is known to yf object (yf script;a dict while a loop walks it): read,never written while it is so -/
 |bC (o:Obj) (u:HO)
 /-- a code zu table -/
 |vj (ps:Array aa)
 /-- any other thing,by what is true of its one object (a def of Mr own: Ro a S n:=HO.ext λh=>..) -/
 |ext (φ:az->Prop)
noncomputable abbrev Hp:=ah->Option HO
noncomputable def upd(H:Hp)(a:ah)(o:HO):Hp:=λb=>if b=a then aB o else H b
theorem fG{H:Hp}{a:ah}{o:HO}:upd H a o a=aB o:=by unfold upd;rw[if_pos rfl]
theorem bP{H:Hp}{a b:ah}{o:HO}(h:b≠a):upd H a o b=H b:=by unfold upd;rw[if_neg h]
theorem bZ{H:Hp}{a b:ah}{o u:HO}(h:H a=aB o)(h':H b=aB u)(d:o≠u):a≠b:=by intro e;subst e;rw[h]at h';exact d (nV h')
theorem iJ{H:Hp}{a b:ah}{o:HO}(h:H a=aB o)(h':H b=aC):a≠b:=by intro e;subst e;rw[h]at h';cases h'
noncomputable def lz(h:az)(a:ah)(items:Array aa):Prop:=∃o,h.get? a=aB o/\o.cls=.type "tuple"/\(∃n,o.data=.seq items n)/\o.dict=aC
theorem lz.tup{h:az}{a:ah}{items:Array aa}(x:lz h a items):IsTup h a items:=let⟨o,e,c,d,_⟩:=x;⟨o,e,c,d⟩
theorem lz.lt{h:az}{a:ah}{items:Array aa}(x:lz h a items):a<h.objs.size:=x.tup.lt
theorem lz.new(h:az)(items:Array aa):lz (h.push {cls:=.type "tuple",data:=.seq items}) h.objs.size items:=⟨_,iI _ rfl,rfl,⟨_,rfl⟩,rfl⟩
section
variable(P:ai)(w:aj)
noncomputable def br(H:Hp)(h:az)(a:ah):HO->Prop
 |.lst xs=>xs.length<=sizeLine/\∃(its:List aa) (n:Nat),Vals xs its/\h.get? a=aB {cls:=.type "list",data:=.seq its.toArray n}
 |.tup xs=>xs.length<=sizeLine/\∃its:List aa,Vals xs its/\lz h a its.toArray
 |.dK kvs=>kvs.length<=sizeLine/\(a==sysModules)=false/\∃vs,KV kvs vs/\h.DictOf (iM P w) a vs
 |.dT kvs=>kvs.length<=sizeLine/\(a==sysModules)=false/\∃xs:List (List Key×ah×aa),
  Paired (λ(p:List Key×V)(q:List Key×ah×aa)=>p.1=q.1/\H q.2.1=aB (.tup (p.1.map kV))/\RelV p.2 q.2.2) kvs xs/\
  ∃o es ep,h.get? a=aB o/\o.ExactDict/\o.data=.dict es ep/\es.toList=xs.map (entryOfKey (tupleKind (iM P w)))/\(xs.map (·.1)).Nodup
 |.set S n=>h.SetOf (intKind P w) a S n
 |.ins C dx fs=>H dx=aB (.own a)/\fs.length<=1000/\dx≠a/\h.get? a=aB (PySem.W.instObj C dx)/\
  ∃mA,h.Ns1 dx mA/\(∀f,gK (fs.lookup f) (mA f))/\PySem.Within mA (fs.map (·.1))
 |.own _=>∃o,h.get? a=aB o
 |.xd fs=>∃mA,h.Ns1 a mA/\∀f,gK (fs.lookup f) (mA f)
 |.FW lo hi=>∃t u v,h.get? a=aB {cls:=.type "range",data:=.fields #[.int lo t,.int hi u,.int 1 v]}
 |.bC o u=>h.get? a=aB o/\br H h a u
 |.vj ps=>h.get? a=aB {cls:=.none,data:=.fields ps}
 |.met f x=>h.get? a=aB (PySem.W.methodObj (.ref f) (.ref x))
 |.ext φ=>φ h/\(∃o,h.get? a=aB o)/\∀h1 h2:az,φ h1->(∀o,h1.get? a=aB o->h2.get? a=aB o)->φ h2
noncomputable def fq(H:Hp)(h:az):Prop:=∀a o,H a=aB o->br P w H h a o
end
section
variable{P:ai}{w:aj}{H H':Hp}{h h':az}{a:ah}{o:HO}
theorem br.lt(x:br P w H h a o):a<h.objs.size:=by
 cases o with|lst xs=>obtain⟨_,_,_,_,e⟩:=x;exact cQ e|tup xs=>obtain⟨_,_,_,p⟩:=x;exact p.lt|dK kvs=>obtain⟨_,_,_,_,o,_,_,e,_⟩:=x;exact cQ e|dT kvs=>obtain⟨_,_,_,_,o,_,_,e,_⟩:=x;exact cQ e|set S n=>obtain⟨o,_,_,_,e,_⟩:=x;exact cQ e|ins C dx fs=>obtain⟨_,_,_,e,_⟩:=x;exact cQ e|own y=>obtain⟨_,e⟩:=x;exact cQ e|xd fs=>obtain⟨_,⟨_,_,_,e,_⟩,_⟩:=x;exact cQ e|FW lo hi=>obtain⟨_,_,_,e⟩:=x;exact cQ e|bC ob u=>obtain⟨e,_⟩:=x;exact cQ e|vj ps=>exact cQ (show h.get? a=aB _ from x)|met f y=>exact cQ (show h.get? a=aB _ from x)|ext φ=>obtain⟨_,⟨_,e⟩,_⟩:=x;exact cQ e
theorem Paired.vm{α β:Type}{F G:α->β->Prop}:∀{l₁:List α} {l₂:List β},Paired F l₁ l₂->(∀a b,F a b->G a b)->Paired G l₁ l₂|_,_,.nil,_=>.nil|_,_,.cons r t,f=>.cons (f _ _ r) (Paired.vm t f)
theorem br.stay(x:br P w H h a o)(k:∀b u,(b=a\/H b=aB (.own a))->h.get? b=aB u->h'.get? b=aB u)
 (ho:∀b,H b=aB (.own a)->H' b=aB (.own a)) (ht:∀b xs,H b=aB (.tup xs)->H' b=aB (.tup xs)):br P w H' h' a o:=by
 induction o with
 |lst xs=>obtain⟨z,its,n,r,e⟩:=x;exact⟨z,its,n,r,k _ _ (.inl rfl) e⟩
 |tup xs=>obtain⟨z,its,r,ob,e,c⟩:=x;exact⟨z,its,r,ob,k _ _ (.inl rfl) e,c⟩
 |dK kvs=>obtain⟨z,y,vs,r,ob,es,ep,e,c⟩:=x;exact⟨z,y,vs,r,ob,es,ep,k _ _ (.inl rfl) e,c⟩
 |dT kvs=>
  obtain⟨z,y,xs,r,ob,es,ep,e,c⟩:=x;exact⟨z,y,xs,Paired.vm r λp q z=>⟨z.1,ht _ _ z.2.1,z.2.2⟩,ob,es,ep,k _ _ (.inl rfl) e,c⟩
 |set S n=>obtain⟨ob,es,ep,t,e,c⟩:=x;exact⟨ob,es,ep,t,k _ _ (.inl rfl) e,c⟩
 |ins C dx fs=>
  obtain⟨d,z,ne,e,mA,⟨od,es,ep,e2,c⟩,r⟩:=x;exact⟨ho _ d,z,ne,k _ _ (.inl rfl) e,mA,⟨od,es,ep,k _ _ (.inr d) e2,c⟩,r⟩
 |own y=>obtain⟨ob,e⟩:=x;exact⟨ob,k _ _ (.inl rfl) e⟩
 |xd fs=>obtain⟨mA,⟨od,es,ep,e,c⟩,r⟩:=x;exact⟨mA,⟨od,es,ep,k _ _ (.inl rfl) e,c⟩,r⟩
 |FW lo hi=>obtain⟨t,u,v,e⟩:=x;exact⟨t,u,v,k _ _ (.inl rfl) e⟩
 |bC ob u ih=>obtain⟨e,q⟩:=x;exact⟨k _ _ (.inl rfl) e,ih q⟩
 |vj ps=>
  have e:h.get? a=aB {cls:=.none,data:=.fields ps}:=x;show h'.get? a=aB {cls:=.none,data:=.fields ps};exact k a _ (.inl rfl) e
 |met f y=>
  have e:h.get? a=aB (PySem.W.methodObj (.ref f) (.ref y)):=x;show h'.get? a=aB (PySem.W.methodObj (.ref f) (.ref y));exact k a _ (.inl rfl) e
 |ext φ=>obtain⟨p,⟨o,e⟩,st⟩:=x;exact⟨st _ _ p λo q=>k _ _ (.inl rfl) q,⟨o,k _ _ (.inl rfl) e⟩,st⟩
theorem fq.lt(x:fq P w H h)(e:H a=aB o):a<h.objs.size:=(x a o e).lt
theorem fq.fresh(x:fq P w H h)(e:h.objs.size<=a):H a=aC:=by
 cases q:H a with|none=>rfl|some u=>exact absurd (di (x.lt q) e) (fZ _)
theorem fq.kept(x:fq P w H h)(k:∀b u,h.get? b=aB u->h'.get? b=aB u):fq P w H h':=λa o e=>
 (x a o e).stay (λb u _ q=>k b u q) (λ_ q=>q) λ_ _ q=>q
theorem fq.laid(x:fq P w H h)(k:∀b u,h.get? b=aB u->h'.get? b=aB u)(hp:h.objs.size<=a)(new:br P w (upd H a o) h' a o):fq P w (upd H a o) h':=λb u e=>by
 have hn:=x.fresh hp;by_cases hb:b=a;subst hb;rw[fG]at e;cases e;exact new;rw[bP hb]at e;exact(x b u e).stay (λc v _ q=>k c v q) (λc q=>by rw[bP (iJ q hn)];exact q) λc xs q=>by rw[bP (iJ q hn)];exact q
end
noncomputable def Rd(H:Hp)(a:ah)(u:HO):Prop:=H a=aB u\/∃o,H a=aB (.bC o u)
theorem Rd.ok{P:ai}{w:aj}{H:Hp}{h:az}{a:ah}{u:HO}(r:Rd H a u)(x:fq P w H h):br P w H h a u:=by rcases r with r|⟨o,r⟩;exact x a u r;obtain⟨_,q⟩:=x a _ r;exact q
noncomputable def zw:Option HO->Prop|some (.lst _)=>True|some (.dK _)=>True|some (.dT _)=>True|some (.set _ _)=>True|some (.ins _ _ _)=>True|some (.ext _)=>True|_=>False
section
variable{P:ai}{w:aj}{H:Hp}{h h':az}{x e:ah}{o':HO}
theorem fq.write(ok:fq P w H h)(mu:zw (H x))(he:e=x\/H e=aB (.own x))(k:∀b u,b≠e->h.get? b=aB u->h'.get? b=aB u)(yg:∃u,h'.get? e=aB u)
 (new:br P w (upd H x o') h' x o'):fq P w (upd H x o') h':=λb u q=>by
 have zx:∀c y,H c=aB (.own y)->c≠x:=λc y r z=>by subst z;rw[r]at mu;exact mu
 have FY:∀c xs,H c=aB (.tup xs)->c≠x:=λc xs r z=>by subst z;rw[r]at mu;exact mu
 by_cases hb:b=x;subst hb;rw[fG]at q;cases q;exact new;rw[bP hb]at q;by_cases vn:b=e;have q':H b=aB (.own x):=by rcases he with z|z;exact absurd (vn.trans z) hb;rw[vn];exact z
 rw[q]at q';cases q';obtain⟨v,hv⟩:=yg;exact⟨v,by rw[vn];exact hv⟩;refine(ok b u q).stay (λc v hc r=>k c v ?_ r) (λc r=>by rw[bP (zx c b r)];exact r) λc xs r=>by rw[bP (FY c xs r)];exact r
 rcases hc with rfl|hc;exact vn;rintro rfl;rcases he with z|z;exact zx c b hc z;rw[hc]at z;cases z;exact hb rfl
end
structure Un(fs ex:List ah)(H H':Hp)(h h':az):Prop where
 keep:∀b o,h.get? b=aB o->H b=aC->b∉fs->b∉ex->h'.get? b=aB o
 slot:∀b o,h.get? b=aB o->H b=aC->b∈fs->b∉ex->∃sl,h'.get? b=aB {o with slots:=sl}
 free:∀b o,h.get? b=aB o->H b=aC->b∉ex->H' b=aC
 there:∀b o,h.get? b=aB o->b∉ex->∃o',h'.get? b=aB o'
 tups:∀b xs,H b=aB (.tup xs)->H' b=aB (.tup xs)
 iN:∀b o u,H b=aB (.bC o u)->H' b=aB (.bC o u)
 jb:∀b ps,H b=aB (.vj ps)->∃more,H' b=aB (.vj (ps++more))
section
variable{fs fs' ex ex':List ah}{H H1 H2:Hp}{h h1 h2 h':az}{a x e:ah}{o:HO}
theorem Un.any(u:Un fs ex H H1 h h1){b:ah}{ob:Obj}(q:h.get? b=aB ob)(n:H b=aC)(hx:b∉ex):∃sl,h1.get? b=aB {ob with slots:=sl}:=by by_cases hb:b∈fs;exact u.slot b ob q n hb hx;exact⟨ob.slots,u.keep b ob q n hb hx⟩
theorem Un.kept(k:∀b u,h.get? b=aB u->h'.get? b=aB u):Un fs ex H H h h':=
 ⟨λb ob q _ _ _=>k b ob q,λb ob q _ _ _=>⟨ob.slots,k b ob q⟩,λ_ _ _ n _=>n,λb ob q _=>⟨ob,k b ob q⟩,λ_ _ q=>q,λ_ _ _ q=>q,λ_ ps q=>⟨#[],by rw[q];simp⟩⟩
theorem Un.refl:Un fs ex H H h h:=Un.kept λ_ _ q=>q
theorem Un.laid(k:∀b u,h.get? b=aB u->h'.get? b=aB u)(hp:h.objs.size<=a)(hn:H a=aC):Un fs ex H (upd H a o) h h' where
 keep:=λb u q _ _ _=>k b u q
 slot:=λb u q _ _ _=>⟨u.slots,k b u q⟩
 free:=λb u q n _=>by rw[bP (gh (di (cQ q) hp))];exact n
 there:=λb u q _=>⟨u,k b u q⟩
 tups:=λb xs q=>by rw[bP (iJ q hn)];exact q
 iN:=λb u xs q=>by rw[bP (iJ q hn)];exact q
 jb:=λb ps q=>⟨#[],by rw[bP (iJ q hn),q];simp⟩
theorem Un.write(mu:zw (H x))(he:e=x\/H e=aB (.own x))(k:∀b u,b≠e->h.get? b=aB u->h'.get? b=aB u)(yg:∃u,h'.get? e=aB u):Un fs ex H (upd H x o) h h':=by
 have hx:∀b,H b=aC->b≠x:=λb n z=>by subst z;rw[n]at mu;exact mu
 have hb:∀b,H b=aC->b≠e:=λb n z=>by
  subst z;rcases he with r|r
  exact hx b n r;rw[n]at r;cases r
 have hm:∀b u,H b=aB u->¬zw (aB u)->b≠x:=λb u q nm z=>by subst z;rw[q]at mu;exact nm mu
 refine⟨λb u q n _ _=>k b u (hb b n) q,λb u q n _ _=>⟨u.slots,k b u (hb b n) q⟩,λb u q n _=>by rw[bP (hx b n)];exact n,λb u q _=>?_,
  λb xs q=>by rw[bP (hm b _ q λz=>z)];exact q,λb u xs q=>by rw[bP (hm b _ q λz=>z)];exact q,λb ps q=>⟨#[],by rw[bP (hm b _ q λz=>z),q];simp⟩⟩
 by_cases vn:b=e;subst vn;exact yg;exact⟨u,k b u vn q⟩
end
noncomputable def DG(h:az)(H:Hp):List ah:=(List.range h.objs.size).filter λa=>(H a).isSome
noncomputable def jI(h:az)(H:Hp):az:=PySem.W.hideAll h (DG h H)
theorem Rq(h:az)(H:Hp):(jI h H).objs.size=h.objs.size:=PySem.W.hideAll_size _ _
theorem Rr{h:az}{H:Hp}{b:ah}{o:Obj}(e:h.get? b=aB o)(n:H b=aC):(jI h H).get? b=aB o:=
 PySem.W.hideAll_get _ e λhm=>by
  have q:(H b).isSome=true:=(List.mem_filter.mp hm).2;rw[n]at q;simp at q
theorem Rt{h:az}{H:Hp}{b:ah}{o:Obj}(e:(jI h H).get? b=aB o):h.get? b=aB o/\H b=aC:=by
 have e':h.get? b=aB o:=PySem.W.of_hideAll (DG h H) e;refine⟨e',?_⟩;cases q:H b with
 |none=>rfl
 |some x=>
  have hm:b∈DG h H:=List.mem_filter.mpr ⟨lV.mpr (cQ e'),by simp[q]⟩;have z:(jI h H).get? b=aC:=PySem.W.hideAll_none (DG h H) hm;rw[z]at e;cases e
structure Mod(K:aH)(mg:Str->Option aa)(base:az):Prop where
 FZ:K.In base
 glob:base.Ns mainGlobals mg
 blt:∃mb,base.Ns builtinsNs mb/\∀x:Str,x≠"__name__"->mb x=bootBuiltins x
 nolimit:base.NoLimit
set_option genInjectivity false in
structure Cx where
 prog:ai
 w:aj
 K:aH
 mg:Str->Option aa
 base:az
 A:ak
 N:List Str
 s₀:af
 H₀:Hp
 env:Env
 outer:List Env
 stack:List Env
 ex:List ah
 fn:Str->Bool
 calm:Bool
 pn:List (ah×Obj)
 xe:aa->af->Prop
noncomputable def frs(l:List Env):List ah:=l.filterMap (·.frame)
noncomputable abbrev Cx.fs(X:Cx):List ah:=frs X.outer
noncomputable def yh(sc:ay)(x:Str):Prop:=sc.names.lookup x=aB .local\/sc.names.lookup x=aB .cell\/sc.names.lookup x=aB .free
noncomputable def Loc(sc:ay)(x:Str):Prop:=sc.names.lookup x=aB .local\/sc.names.lookup x=aB .cell
noncomputable def Look(env:Env)(h:az)(m:Str->Option aa)(x:Str)(u:aa):Prop:=
 (env.kindOf x=aB .local/\m x=aB u)\/((env.kindOf x=aB .cell\/env.kindOf x=aB .free)/\∃c,env.cells.lookup x=aB c/\h.IsCell c (aB u))
structure Cx.Ok(X:Cx):Prop where
 mod:Mod X.K X.mg X.base
 kind:X.env.scope.kind=.function
 glob:X.env.globals=mainGlobals
 blt:X.env.builtins=builtinsNs
 above:X.s₀.heap.objs.size<=X.env.locals
 inj:∀x y c,X.env.cells.lookup x=aB c->X.env.cells.lookup y=aB c->x=y
 has:∀x,(X.env.kindOf x=aB .cell\/X.env.kindOf x=aB .free)->∃c,X.env.cells.lookup x=aB c
 zy:∀x c,X.fn x=true->X.env.cells.lookup x=aB c->X.s₀.heap.objs.size<=c
 hd:X.calm=true->X.A.handled=aC
 frames:X.A.frames=aB X.stack
 stk:X.stack=X.outer\/(X.stack=X.env::X.outer/\X.env.frame=aB X.env.locals)
 yi:∀b∈X.ex,b≠X.env.locals/\∀x c,X.env.cells.lookup x=aB c->c≠b
 bs:∀b o,X.base.get? b=aB o->X.s₀.heap.get? b=aB o/\X.H₀ b=aC
 vp:X.base.objs.size<=X.s₀.heap.objs.size
 oF:∀b o,X.base.get? b=aB o->b∉X.ex
 mU:∀b∈X.ex,b∉X.fs
 iO:X.s₀.heap.FunFrames X.base X.outer
 yj:∀b∈X.fs,X.H₀ b=aC
structure Inv(X:Cx)(pins:List (ah×Obj))(σ:List (Option V))(H:Hp)(s:af):Prop where
 ok:X.Ok
 os:s.os=X.s₀.os
 bare:AllBare s.gens
 base:Un X.fs X.ex X.H₀ H X.s₀.heap s.heap
 loc:∃m,s.heap.Ns X.env.locals m/\∀(i:Nat)(x:Str)(v:V),X.N[i]?=aB x->σ[i]?=aB (aB v)->yh X.env.scope x->∃u,RelV v u/\Look X.env s.heap m x u
 cell:∀x c,X.env.cells.lookup x=aB c->∃v,s.heap.IsCell c v
 free:H X.env.locals=aC
 fy:∀x c,X.env.cells.lookup x=aB c->H c=aC
 pin:∀p∈X.pn++pins,s.heap.get? p.1=aB p.2/\H p.1=aC/\p.1≠X.env.locals/\p.1∉X.fs/\∀v,p.2.data≠.cell v
 hok:fq X.prog X.w H s.heap
 len:σ.length=X.N.length
section
variable{X:Cx}{pins:List (ah×Obj)}{σ:List (Option V)}{H H':Hp}{s:af}{h':az}
theorem Cx.Ok.F0(ok:X.Ok){b:ah}{o:Obj}(e:X.base.get? b=aB o):b∉X.fs:=λhb=>by
 have:=(ok.iO.mem hb).1;rw[e]at this;cases this
theorem Inv.bs(I:Inv X pins σ H s):∀b o,X.base.get? b=aB o->s.heap.get? b=aB o/\H b=aC:=λb o e=>
 ⟨I.base.keep b o (I.ok.bs b o e).1 (I.ok.bs b o e).2 (I.ok.F0 e) (I.ok.oF b o e),I.base.free b o (I.ok.bs b o e).1 (I.ok.bs b o e).2 (I.ok.oF b o e)⟩
theorem Inv.bk(I:Inv X pins σ H s):∀b o,X.base.get? b=aB o->s.heap.get? b=aB o:=λb o e=>(I.bs b o e).1
theorem Inv.mod(I:Inv X pins σ H s):Mod X.K X.mg X.base:=I.ok.mod
theorem Inv.jr(I:Inv X pins σ H s):X.K.In s.heap:=I.ok.mod.FZ.keeps I.bk
theorem Inv.lt(I:Inv X pins σ H s):X.env.locals<s.heap.objs.size:=let⟨_,hn,_⟩:=I.loc;hn.lt
theorem Inv.sz(I:Inv X pins σ H s):X.s₀.heap.objs.size<=s.heap.objs.size:=gJ I.ok.above (tM I.lt)
theorem Inv.F1(I:Inv X pins σ H s){a:ah}(h:s.heap.objs.size<=a):a∉X.fs:=λhb=>by
 obtain⟨_,o,ho,_⟩:=I.ok.iO.mem hb;exact absurd (di (cQ ho) (gJ I.sz h)) (fZ _)
theorem Inv.vq(I:Inv X pins σ H s):∀x c,X.env.cells.lookup x=aB c->c≠X.env.locals:=λx c e z=>by
 obtain⟨v,o,ho,hd⟩:=I.cell x c e;obtain⟨m,⟨o',es,ep,ho',hd',_⟩,_⟩:=I.loc;rw[z,ho']at ho;cases ho;rw[hd']at hd;cases hd
theorem Inv.iO(I:Inv X pins σ H s):s.heap.FunFrames X.base X.outer:=by
 have all:∀(l:List Env),(∀b∈frs l,b∈X.fs)->X.s₀.heap.FunFrames X.base l->s.heap.FunFrames X.base l:=by
  intro l;induction l with
  |nil=>intro _ _;trivial
  |cons env r ih=>
   intro hs hl;obtain⟨hk,⟨L,o,hf,hn,ho,hd⟩,hr⟩:=hl;have hL:L∈X.fs:=hs L (by unfold frs;rw[uX,hf];exact fT);obtain⟨sl,e⟩:=I.base.slot L o ho (I.ok.yj L hL) hL λz=>I.ok.mU L z hL;exact⟨hk,⟨L,_,hf,hn,e,hd⟩,ih (λb hb=>hs b (by unfold frs;rw[uX,hf];exact fE _ hb)) hr⟩
 exact all X.outer (λ_ hb=>hb) I.ok.iO
theorem Inv.stack(I:Inv X pins σ H s):s.heap.FunFrames X.base X.stack:=by rcases I.ok.stk with e|⟨e,hf⟩;rw[e];exact I.iO;rw[e];obtain⟨m,hn,_⟩:=I.loc;refine .cons (by rw[I.ok.kind];decide) hf hn ?_ I.iO;exact Heap.get?_none_of_le (gJ I.ok.vp I.ok.above)
theorem Inv.lA(I:Inv X pins σ H s):∀b∈frs X.stack,b∈X.env.locals::X.fs:=λb hb=>by
 rcases I.ok.stk with e|⟨e,hf⟩;rw[e]at hb;exact fE _ hb;rw[e]at hb;unfold frs at hb;rw[uX,hf]at hb;exact hb
theorem Inv.lW(I:Inv X pins σ H s):∀b∈frs X.stack,H b=aC:=λb hb=>by
 rcases gH.mp (I.lA b hb)with e|hb;rw[e];exact I.free;obtain⟨_,o,ho,_⟩:=I.ok.iO.mem hb;exact I.base.free b o ho (I.ok.yj b hb) λz=>I.ok.mU b z hb
theorem Inv.step{g':Array GenState}{t':Nat}{d':Drawn}{ch:List ah}(I:Inv X pins σ H s)
 (hch:∀b∈ch,(b∈X.ex\/X.s₀.heap.objs.size<=b)/\b≠X.env.locals/\(∀x c,X.env.cells.lookup x=aB c->c≠b)/\∀p∈X.pn++pins,p.1≠b)
 (keep:∀b o,b≠X.env.locals->b∉X.fs->b∉ch->s.heap.get? b=aB o->H b=aC->h'.get? b=aB o)
 (slot:∀b o,b≠X.env.locals->b∈X.fs->b∉ch->s.heap.get? b=aB o->H b=aC->∃sl,h'.get? b=aB {o with slots:=sl}) (free:∀b o,b∉ch->s.heap.get? b=aB o->H b=aC->H' b=aC)
 (there:∀b o,b∉ch->s.heap.get? b=aB o->∃o',h'.get? b=aB o')
 (tups:∀b xs,H b=aB (.tup xs)->H' b=aB (.tup xs)) (iN:∀b o u,H b=aB (.bC o u)->H' b=aB (.bC o u)) (jb:∀b ps,H b=aB (.vj ps)->∃more,H' b=aB (.vj (ps++more)))
 (ns:∀m,s.heap.Ns X.env.locals m->h'.Ns X.env.locals m) (hok:fq X.prog X.w H' h') (hg:AllBare g') :
 Inv X pins σ H' {s with heap:=h',gens:=g',drawn:=d',toks:=t'}:=by
 have Ms:∀b o,X.s₀.heap.get? b=aB o->b≠X.env.locals:=λb o e=>gh (di (cQ e) I.ok.above);have nW:∀b o,X.s₀.heap.get? b=aB o->b∉X.ex->b∉ch:=λb o e hx hb=>by
  rcases(hch b hb).1 with z|z;exact hx z;exact absurd (di (cQ e) z) (fZ _)
 have cellK:∀x c,X.env.cells.lookup x=aB c->∀v,s.heap.IsCell c v->h'.IsCell c v:=λx c e v bQ=>by
  obtain⟨o,ho,hd⟩:=bQ;have zz:c∉ch:=λz=>(hch c z).2.2.1 x c e rfl;by_cases hc:c∈X.fs;obtain⟨sl,q⟩:=slot c o (I.vq x c e) hc zz ho (I.fy x c e);exact⟨_,q,hd⟩;exact⟨o,keep c o (I.vq x c e) hc zz ho (I.fy x c e),hd⟩
 refine⟨I.ok,I.os,hg,⟨λb o e n hb hx=>?_,λb o e n hb hx=>?_,λb o e n hx=>?_,λb o e hx=>?_,λb xs e=>tups b xs (I.base.tups b xs e),λb o xs e=>iN b o xs (I.base.iN b o xs e),λb ps e=>?_⟩,?_,λx c e=>?_,?_,λx c e=>?_,λp hp=>?_,hok,I.len⟩;exact keep b o (Ms b o e) hb (nW b o e hx) (I.base.keep b o e n hb hx) (I.base.free b o e n hx);obtain⟨sl,e1⟩:=I.base.slot b o e n hb hx;obtain⟨Ru,e2⟩:=slot b _ (Ms b o e) hb (nW b o e hx) e1 (I.base.free b o e n hx);exact⟨Ru,e2⟩;obtain⟨o',e1⟩:=I.base.there b o e hx;exact free b o' (nW b o e hx) e1 (I.base.free b o e n hx);obtain⟨o',e1⟩:=I.base.there b o e hx;exact there b o' (nW b o e hx) e1;obtain⟨m1,e1⟩:=I.base.jb b ps e;obtain⟨m2,e2⟩:=jb b _ e1;exact⟨m1++m2,by rw[e2,Array.append_assoc]⟩;obtain⟨m,hn,hl⟩:=I.loc;refine⟨m,ns m hn,λi x v e1 e2 e3=>?_⟩;obtain⟨u,r,l⟩:=hl i x v e1 e2 e3;refine⟨u,r,?_⟩;rcases l with l|⟨k,c,e,z⟩
 exact .inl l;exact .inr ⟨k,c,e,cellK x c e _ z⟩;obtain⟨v,z⟩:=I.cell x c e;exact⟨v,cellK x c e v z⟩;obtain⟨m,⟨o,_,_,ho,_⟩,_⟩:=I.loc;exact free _ o (λz=>(hch _ z).2.1 rfl) ho I.free;obtain⟨v,o,ho,hd⟩:=I.cell x c e;exact free c o (λz=>(hch c z).2.2.1 x c e rfl) ho (I.fy x c e);obtain⟨e,n,ne,nf,d⟩:=I.pin p hp;have zz:p.1∉ch:=λz=>(hch p.1 z).2.2.2 p hp rfl;exact⟨keep p.1 p.2 ne nf zz e n,free p.1 p.2 zz e n,ne,nf,d⟩
theorem Inv.un{t':Nat}(I:Inv X pins σ H s)(u:Un X.fs [] H H' s.heap h')(hok:fq X.prog X.w H' h'):Inv X pins σ H' {s with heap:=h',toks:=t'}:=by
 obtain⟨m,⟨o,es,ep,ho,r⟩,_⟩:=id I.loc;obtain⟨sl,hL⟩:=u.any ho I.free (by simp);exact I.step (g':=s.gens) (d':=s.drawn) (ch:=[]) (λ_ z=>nomatch z) (λb o _ hb _ e n=>u.keep b o e n hb (by simp)) (λb o _ hb _ e n=>u.slot b o e n hb (by simp)) (λb o _ e n=>u.free b o e n (by simp)) (λb o _ e=>u.there b o e (by simp)) u.tups u.iN u.jb (λm' hm=>by
  obtain⟨o',es',zA,ho',r'⟩:=hm;rw[ho]at ho';cases ho';exact⟨_,es',zA,hL,r'⟩) hok I.bare
theorem Inv.call{g':Array GenState}{t':Nat}{d':Drawn}{ch:List ah}(I:Inv X pins σ H s)(u:Un (frs X.stack) ch H H' s.heap h')(hok:fq X.prog X.w H' h')(hg:AllBare g')
 (hch:∀b∈ch,(b∈X.ex\/X.s₀.heap.objs.size<=b)/\b≠X.env.locals/\(∀x c,X.env.cells.lookup x=aB c->c≠b)/\∀p∈X.pn++pins,p.1≠b) :
 Inv X pins σ H' {s with heap:=h',gens:=g',drawn:=d',toks:=t'}:=by
 obtain⟨m,⟨o,es,ep,ho,r⟩,_⟩:=id I.loc;obtain⟨sl,hL⟩:=u.any ho I.free λz=>(hch _ z).2.1 rfl;exact I.step (ch:=ch) hch (λb o hL hb hc e n=>u.keep b o e n (λz=>(gH.mp (I.lA b z)).elim hL hb) hc) (λb o _ _ hc e n=>u.any e n hc) (λb o hc e n=>u.free b o e n hc) (λb o hc e=>u.there b o e hc) u.tups u.iN u.jb (λm' hm=>by
  obtain⟨o',es',zA,ho',r'⟩:=hm;rw[ho]at ho';cases ho';exact⟨_,es',zA,hL,r'⟩) hok hg
theorem Inv.turned{t':Nat}{it:ah}(I:Inv X pins σ H s)(k:∀b o,b≠it->s.heap.get? b=aB o->h'.get? b=aB o)(hn:H it=aC)(hL:it≠X.env.locals)
 (h1:it∈X.ex\/X.s₀.heap.objs.size<=it) (h2:∀x c,X.env.cells.lookup x=aB c->c≠it) (h3:∀p∈X.pn++pins,p.1≠it):Inv X pins σ H {s with heap:=h',toks:=t'}:=by
 have Mu:∀b u,H b=aB u->b≠it:=λb u e z=>by rw[z,hn]at e;cases e
 refine I.step (g':=s.gens) (d':=s.drawn) (ch:=[it]) (λb hb=>?_) (λb o _ _ hc e _=>k b o (λz=>hc (by simp[z])) e) (λb o _ _ hc e _=>⟨o.slots,k b o (λz=>hc (by simp[z])) e⟩) (λ_ _ _ _ n=>n)
  (λb o hc e=>⟨o,k b o (λz=>hc (by simp[z])) e⟩) (λ_ _ e=>e) (λ_ _ _ e=>e) (λb ps e=>⟨#[],by rw[e];simp⟩) (λm hm=>?_) (λb u e=>?_) I.bare
 have e:b=it:=by simpa using hb
 subst e;exact⟨h1,hL,h2,h3⟩;obtain⟨o,es,ep,ho,r⟩:=hm;exact⟨o,es,ep,k _ o (eV hL) ho,r⟩;refine(I.hok b u e).stay (λc v hc q=>k c v ?_ q) (λ_ q=>q) λ_ _ q=>q;rcases hc with z|z
 rw[z];exact Mu b u e;exact Mu c _ z
theorem Inv.tok(I:Inv X pins σ H s)(t:Nat):Inv X pins σ H {s with toks:=t}:=I.un (h':=s.heap) (t':=t) Un.refl I.hok
theorem Inv.kept{t':Nat}(I:Inv X pins σ H s)(k:∀b u,s.heap.get? b=aB u->h'.get? b=aB u):Inv X pins σ H {s with heap:=h',toks:=t'}:=I.un (Un.kept k) (I.hok.kept k)
theorem Inv.laid{a:ah}{o:HO}{t':Nat}(I:Inv X pins σ H s)(k:∀b u,s.heap.get? b=aB u->h'.get? b=aB u)(hp:s.heap.objs.size<=a)(new:br X.prog X.w (upd H a o) h' a o) :
 Inv X pins σ (upd H a o) {s with heap:=h',toks:=t'}:=I.un (Un.laid k hp (I.hok.fresh hp)) (I.hok.laid k hp new)
theorem Inv.write{x e:ah}{o:HO}{t':Nat}(I:Inv X pins σ H s)(mu:zw (H x))(he:e=x\/H e=aB (.own x))(k:∀b u,b≠e->s.heap.get? b=aB u->h'.get? b=aB u)(yg:∃u,h'.get? e=aB u)
 (new:br X.prog X.w (upd H x o) h' x o):Inv X pins σ (upd H x o) {s with heap:=h',toks:=t'}:=I.un (Un.write mu he k yg) (I.hok.write mu he k yg new)
theorem Inv.lX{tP:List (ah×Obj)}(I:Inv X pins σ H s)(h:∀p∈tP,s.heap.get? p.1=aB p.2/\H p.1=aC/\p.1≠X.env.locals/\p.1∉X.fs/\∀v,p.2.data≠.cell v):Inv X tP σ H s:=
 ⟨I.ok,I.os,I.bare,I.base,I.loc,I.cell,I.free,I.fy,λp hp=>(uZ.mp hp).elim (λz=>I.pin p (List.mem_append_left _ z)) (h p),I.hok,I.len⟩
theorem Mv{N:List Str}(hN:N.Nodup){i j:Nat}{x:Str}(a:N[i]?=aB x)(b:N[j]?=aB x):i=j:=by obtain⟨h1,e1⟩:=i7.mp a;obtain⟨h2,e2⟩:=i7.mp b;exact(List.getElem_inj hN).mp (e1.trans e2.symm)
theorem F2{M:Model}{A:ak}{E:aa->af->Prop}{i:Nat}{x:Str}{v:V}{u:aa}{Q:Unit->af->Prop}(I:Inv X pins σ H s)(hN:X.N.Nodup)(hi:X.N[i]?=aB x)(hx:Loc X.env.scope x)(r:RelV v u)
 (h:∀s',Inv X pins (σ.set i (aB v)) H s'->(∃a,Heap.SameBut a s.heap s'.heap/\(a=X.env.locals\/X.env.cells.lookup x=aB a))->Q () s') (hf:autoParam (X.fn x=true\/X.env.scope.names.lookup x=aB .local) L2.aF1._auto_1):wpAny M A (storeName X.env x u) Q E s:=by
 obtain⟨m,hn,hl⟩:=id I.loc;have hcls:(X.env.scope.kind == .class|| (X.env.scope.kind == .module&&X.env.locals != X.env.globals))=false:=by rw[I.ok.kind];rfl
 have zB:i<σ.length:=by rw[I.len];exact(i7.mp hi).1
 have vq:=I.vq;have tracked:∀{a:ah}{h':az},(∃o,s.heap.get? a=aB o/\H a=aC)->Heap.SameBut a s.heap h'->fq X.prog X.w H h':=λ{a h'} ha hs b ob e=>by
  obtain⟨_,_,hfree⟩:=ha;refine(I.hok b ob e).stay (λc w' hc q=>(hs.2 c ?_).trans q) (λ_ q=>q) λ_ _ q=>q;rintro rfl;rcases hc with rfl|hc;rw[hfree]at e;cases e;rw[hfree]at hc;cases hc
 rcases hx with hk|hk;refine wpAny_storeName_local hk hn (λh' hn' hs=>?_) hcls;obtain⟨oL,_,_,Rv,_⟩:=id hn;refine h _ ⟨I.ok,I.os,I.bare,⟨λb o e n hb hx=>?_,λb o e n hb hx=>?_,I.base.free,λb o e hx=>?_,I.base.tups,I.base.iN,I.base.jb⟩,⟨_,hn',λj y v' e1 e2 e3=>?_⟩,λy c e=>?_,I.free,I.fy,λp hp=>?_,tracked ⟨oL,Rv,I.free⟩ hs,by simpa using I.len⟩ ⟨_,hs,.inl rfl⟩;exact(hs.2 b (gh (di (cQ e) I.ok.above))).trans (I.base.keep b o e n hb hx);obtain⟨sl,e1⟩:=I.base.slot b o e n hb hx;exact⟨sl,(hs.2 b (gh (di (cQ e) I.ok.above))).trans e1⟩;obtain⟨o',e1⟩:=I.base.there b o e hx;exact⟨o',(hs.2 b (gh (di (cQ e) I.ok.above))).trans e1⟩;by_cases hj:j=i;subst hj;rw[hi]at e1;cases e1;rw[xP zB]at e2;cases e2;exact⟨u,r,.inl ⟨hk,by simp⟩⟩;rw[zd (eV hj)]at e2;obtain⟨u',r',q⟩:=hl j y v' e1 e2 e3;refine⟨u',r',?_⟩;rcases q with⟨k,e⟩|⟨k,c,e,z⟩;refine .inl ⟨k,?_⟩;have:y≠x:=λe=>hj (Mv hN e1 (e▸hi));simp[this,e];exact .inr ⟨k,c,e,z.sameBut hs (vq y c e)⟩;obtain⟨w',z⟩:=I.cell y c e;exact⟨w',z.sameBut hs (vq y c e)⟩;obtain⟨e,n,ne,nf,d⟩:=I.pin p hp;exact⟨(hs.2 p.1 ne).trans e,n,ne,nf,d⟩;have hfn:X.fn x=true:=by rcases hf with z|z;exact z;rw[z]at hk;cases hk
 obtain⟨c,hc⟩:=I.ok.has x (.inl hk);obtain⟨w',z⟩:=I.cell x c hc;refine wpAny_storeName_cell I.ok.kind hk hc z (λh' hc' hs=>?_);obtain⟨oc,hoc,F3⟩:=id z;refine h {s with heap:=h'} ⟨I.ok,I.os,I.bare,⟨λb o e n hb hx=>?_,λb o e n hb hx=>?_,I.base.free,λb o e hx=>?_,I.base.tups,I.base.iN,I.base.jb⟩,⟨m,hn.sameBut hs (eV (vq x c hc)),λj y v' e1 e2 e3=>?_⟩,λy c' e=>?_,I.free,I.fy,λp hp=>?_,tracked ⟨oc,hoc,I.fy x c hc⟩ hs,by simpa using I.len⟩ ⟨c,hs,.inr hc⟩;exact(hs.2 b (gh (di (cQ e) (I.ok.zy x c hfn hc)))).trans (I.base.keep b o e n hb hx);obtain⟨sl,e1⟩:=I.base.slot b o e n hb hx;exact⟨sl,(hs.2 b (gh (di (cQ e) (I.ok.zy x c hfn hc)))).trans e1⟩;obtain⟨o',e1⟩:=I.base.there b o e hx;exact⟨o',(hs.2 b (gh (di (cQ e) (I.ok.zy x c hfn hc)))).trans e1⟩;by_cases hj:j=i;subst hj;rw[hi]at e1;cases e1;rw[xP zB]at e2;cases e2;exact⟨u,r,.inr ⟨.inl hk,c,hc,hc'⟩⟩;rw[zd (eV hj)]at e2;obtain⟨u',r',q⟩:=hl j y v' e1 e2 e3;refine⟨u',r',?_⟩;rcases q with q|⟨k,c',e,z'⟩;exact .inl q;refine .inr ⟨k,c',e,z'.sameBut hs ?_⟩;rintro rfl;exact hj (Mv hN e1 (I.ok.inj _ _ _ e hc▸hi));by_cases hcc:c'=c;subst hcc;exact⟨_,hc'⟩;obtain⟨w2,z2⟩:=I.cell y c' e;exact⟨w2,z2.sameBut hs hcc⟩;obtain⟨e,n,ne,nf,d⟩:=I.pin p hp;refine⟨(hs.2 p.1 ?_).trans e,n,ne,nf,d⟩;intro q;rw[q,hoc]at e;have q':oc=p.2:=nV e;exact d w' (by rw[<-q'];exact F3)
theorem F4{M:Model}{A:ak}{E:aa->af->Prop}{i:Nat}{x:Str}{v:V}{u:aa}{Q:Unit->af->Prop}(I:Inv X pins σ H s)(hN:X.N.Nodup)(hi:X.N[i]?=aB x)(hx:Loc X.env.scope x)(r:RelV v u)
 (h:∀s',Inv X pins (σ.set i (aB v)) H s'->Q () s') (hf:autoParam (X.fn x=true\/X.env.scope.names.lookup x=aB .local) L2.aF1._auto_1):wpAny M A (storeName X.env x u) Q E s:=
 F2 I hN hi hx r (λs' I' _=>h s' I') hf
theorem Inv.tQ{s':af}{ch:List ah}(I:Inv X pins σ H s)(ho:s'.os=s.os)(u:Un (frs X.stack) ch H H' s.heap s'.heap)(hok:fq X.prog X.w H' s'.heap)(hg:AllBare s'.gens)
 (hch:∀b∈ch,(b∈X.ex\/X.s₀.heap.objs.size<=b)/\b≠X.env.locals/\(∀x c,X.env.cells.lookup x=aB c->c≠b)/\∀p∈X.pn++pins,p.1≠b):Inv X pins σ H' s':=by
 obtain⟨h',g',d',t',o'⟩:=s';have e:o'=s.os:=ho;subst e;exact I.call (g':=g') (t':=t') (d':=d') u hok hg hch
end
noncomputable abbrev XK:=aa->Option ah->Hp->Prop
noncomputable abbrev St:=List (Option V)
noncomputable abbrev VK:=V->Hp->Prop
noncomputable abbrev TE:=St->Hp->VK->Prop
noncomputable abbrev TT:=St->Hp->(Bool->Hp->Prop)->Prop
noncomputable abbrev TA:=St->Hp->(List V->Hp->Prop)->Prop
set_option genInjectivity false in
structure Ends where
 nx:St->Hp->Prop
 rt:VK
 bk:St->Hp->Prop:=λ_ _=>False
 ct:St->Hp->Prop:=λ_ _=>False
noncomputable abbrev TS:=Ends->St->Hp->Prop
noncomputable def EP(X:Cx)(pins:List (ah×Obj))(σ:St)(Q:VK)(u:aa)(s':af):Prop:=∃v H',Inv X pins σ H' s'/\RelV v u/\Q v H'
noncomputable def TP(X:Cx)(pins:List (ah×Obj))(σ:St)(Q:Bool->Hp->Prop)(b:Bool)(s':af):Prop:=∃H',Inv X pins σ H' s'/\Q b H'
noncomputable def AP(X:Cx)(pins:List (ah×Obj))(σ:St)(Q:List V->Hp->Prop)(us:List aa)(s':af):Prop:=∃vs H',Inv X pins σ H' s'/\Vals vs us/\Q vs H'
theorem EP.el{X:Cx}{pins:List (ah×Obj)}{σ:St}{Q:VK}{u:aa}{s':af}{P:Prop}(q:EP X pins σ Q u s')(k:∀v H',Inv X pins σ H' s'->RelV v u->Q v H'->P):P:=by obtain⟨v,H',a,b,c⟩:=q;exact k v H' a b c
theorem TP.el{X:Cx}{pins:List (ah×Obj)}{σ:St}{Q:Bool->Hp->Prop}{b:Bool}{s':af}{P:Prop}(q:TP X pins σ Q b s')(k:∀H',Inv X pins σ H' s'->Q b H'->P):P:=by obtain⟨H',a,c⟩:=q;exact k H' a c
theorem AP.el{X:Cx}{pins:List (ah×Obj)}{σ:St}{Q:List V->Hp->Prop}{us:List aa}{s':af}{P:Prop}(q:AP X pins σ Q us s')(k:∀vs H',Inv X pins σ H' s'->Vals vs us->Q vs H'->P):P:=by obtain⟨v,H',a,b,c⟩:=q;exact k v H' a b c
noncomputable def SP(X:Cx)(pins:List (ah×Obj))(D:Ends)(f:Flow)(s':af):Prop:=
 match f with|.next=>∃σ' H',Inv X pins σ' H' s'/\D.nx σ' H'|.brk=>∃σ' H',Inv X pins σ' H' s'/\D.bk σ' H'|.cont=>∃σ' H',Inv X pins σ' H' s'/\D.ct σ' H'|.ret u=>∃v σ' H',Inv X pins σ' H' s'/\RelV v u/\D.rt v H'
noncomputable def PE(X:Cx)(e:ao)(t:TE):Prop:=
 ∀(pins:List (ah×Obj))(s:af)(σ:St)(H:Hp)(Q:VK),Inv X pins σ H s->t σ H Q->wpAny (model X.prog X.w) X.A (eval e X.env) (EP X pins σ Q) X.xe s
noncomputable def PT(X:Cx)(e:ao)(t:TT):Prop:=
 ∀(pins:List (ah×Obj))(s:af)(σ:St)(H:Hp)(Q:Bool->Hp->Prop),Inv X pins σ H s->t σ H Q->wpAny (model X.prog X.w) X.A (isTrue e X.env (eval e X.env)) (TP X pins σ Q) X.xe s
noncomputable def PW(X:Cx)(e:ao)(t:TT):Prop:=
 ∀(whole:Sem aa)(pins:List (ah×Obj))(s:af)(σ:St)(H:Hp)(Q:Bool->Hp->Prop),Inv X pins σ H s->t σ H Q->wpAny (model X.prog X.w) X.A (isTrue e X.env whole) (TP X pins σ Q) X.xe s
theorem PW.pt{X:Cx}{e:ao}{t:TT}(h:PW X e t):PT X e t:=h _
noncomputable def PA(X:Cx)(es:List ao)(t:TA):Prop:=
 ∀(pos:Pos)(pins:List (ah×Obj))(s:af)(σ:St)(H:Hp)(Q:List V->Hp->Prop),Inv X pins σ H s->t σ H Q->wpAny (model X.prog X.w) X.A (spliced (backTo pos (starEach es X.env))) (AP X pins σ Q) X.xe s
noncomputable def PS(X:Cx)(st:aq)(t:TS):Prop:=
 ∀(pins:List (ah×Obj))(s:af)(σ:St)(H:Hp)(D:Ends),Inv X pins σ H s->t D σ H->wpAny (model X.prog X.w) X.A (exec st X.env) (SP X pins D) X.xe s
noncomputable def k6(X:Cx)(st:List aq)(t:TS):Prop:=
 ∀(pins:List (ah×Obj))(s:af)(σ:St)(H:Hp)(D:Ends),Inv X pins σ H s->t D σ H->wpAny (model X.prog X.w) X.A (execs st X.env) (SP X pins D) X.xe s
theorem bf{α:Type}{t:Sem α}{Q Q':α->af->Prop}{M:Model}{A:ak}{E:aa->af->Prop}{s:af}(h:wpAny M A t Q E s)(hQ:∀a s,Q a s->Q' a s):wpAny M A t Q' E s:=ie h hQ λ_ _ x=>x
section
variable{X:Cx}
noncomputable def F5(i:Nat):TE:=λσ H Q=>∃v,σ[i]?=aB (aB v)/\Q v H
noncomputable def tC(v:V):TE:=λ_ H Q=>Q v H
theorem Rw{i:Nat}{x:Str}{pos:Pos}(hN:X.N[i]?=aB x)(hv:yh X.env.scope x)(hd:autoParam ((x==("__debug__" : Str))=false) L2.aD1._auto_1)(hcd:autoParam ((x==("__classdict__" : Str))=false) L2.aD1._auto_1):PE X (.Name x pos) (F5 i):=by
 intro pins s σ H Q I h;obtain⟨v,e,h⟩:=h;obtain⟨m,hn,hl⟩:=I.loc;obtain⟨u,r,l⟩:=hl i x v hN e hv;have fin:EP X pins σ Q u s:=⟨v,H,I,r,h⟩
 rcases l with⟨hk,hm⟩|⟨hk,c,hc,hcell⟩;exact wpAny_Name (wpAny_loadName_local I.ok.kind hk hn hm fin) hd;rcases hk with hk|hk;exact wpAny_Name (wpAny_loadName_cell I.ok.kind hk hc hcell fin) hd;exact wpAny_Name (wpAny_loadName_free I.ok.kind hk hc hcell fin hcd) hd
theorem Rx{i j pos}:PE X (.Constant (.int i) j pos) (tC (.int i)):=λ_ _ _ H _ I h=>wpAny_Constant_int ⟨.int i,H,I.tok _,⟨_,rfl⟩,h⟩
theorem zC{b j pos}:PE X (.Constant (.bool b) j pos) (tC (.bl b)):=λ_ _ _ H _ I h=>Constant_bool ⟨.bl b,H,I,rfl,h⟩
theorem Ry{j pos}:PE X (.Constant .none j pos) (tC .aP):=λ_ _ _ H _ I h=>Constant_none ⟨.aP,H,I,rfl,h⟩
theorem Rz{x j pos}:PE X (.Constant (.str x) j pos) (tC (.str x)):=λ_ _ _ H _ I h=>Calls.Constant_str ⟨.str x,H,I.tok _,⟨_,rfl⟩,h⟩
noncomputable def Gl(X:Cx)(x:Str):Prop:=X.env.kindOf x=aB .globalImplicit
theorem F6{E:aa->af->Prop}{pins:List (ah×Obj)}{s:af}{σ:St}{H:Hp}{x:Str}{u:aa}{pos:Pos}{Q:aa->af->Prop}(I:Inv X pins σ H s)(hg:Gl X x)(hm:X.mg x=aB u)(h:Q u s)
 (hd:autoParam ((x==("__debug__" : Str))=false) L2.aD1._auto_1):wpAny (model X.prog X.w) X.A (eval (.Name x pos) X.env) Q E s:=
 Calls.Name_function_global I.ok.kind hg (Calls.loadGlobal_global (by rw[I.ok.glob];exact I.mod.glob.keeps I.bk) hm h) hd
theorem qW{E:aa->af->Prop}{pins:List (ah×Obj)}{s:af}{σ:St}{H:Hp}{x:Str}{u:aa}{pos:Pos}{Q:aa->af->Prop}(I:Inv X pins σ H s)(hg:Gl X x)(hm:X.mg x=aC)(hv:bootBuiltins x=aB u)(h:Q u s)
 (hn:autoParam (x≠"__name__") L2.aD1._auto_1) (hd:autoParam ((x==("__debug__" : Str))=false) L2.aD1._auto_1):wpAny (model X.prog X.w) X.A (eval (.Name x pos) X.env) Q E s:=by
 obtain⟨mb,h1,h2⟩:=I.mod.blt;exact Calls.Name_function_global I.ok.kind hg (Calls.loadGlobal_builtin (by rw[I.ok.glob];exact I.mod.glob.keeps I.bk) hm (by rw[I.ok.blt];exact h1.keeps I.bk) ((h2 x hn).trans hv) h) hd
theorem RA{x:Str}{v:V}{u:aa}{pos:Pos}(hg:Gl X x)(hm:X.mg x=aB u)(r:RelV v u)(hd:autoParam ((x==("__debug__" : Str))=false) L2.aD1._auto_1):PE X (.Name x pos) (tC v):=
 λ_ _ _ H _ I h=>F6 I hg hm ⟨v,H,I,r,h⟩ hd
theorem RB{x:Str}{v:V}{u:aa}{pos:Pos}(hg:Gl X x)(hm:X.mg x=aC)(hv:bootBuiltins x=aB u)(r:RelV v u)(hn:autoParam (x≠"__name__") L2.aD1._auto_1)(hd:autoParam ((x==("__debug__" : Str))=false) L2.aD1._auto_1):PE X (.Name x pos) (tC v):=
 λ_ _ _ H _ I h=>qW I hg hm hv ⟨v,H,I,r,h⟩ hn hd
variable{a b:ao}{ta tb:TE}{pos:Pos}
variable{tA DH:TT}{rest:List ao}
noncomputable def F7(t u:TT):TT:=λσ H Q=>t σ H λc H1=>if c=true then u σ H1 Q else Q false H1
noncomputable def RC(t u:TT):TT:=λσ H Q=>t σ H λc H1=>if c=true then Q true H1 else u σ H1 Q
noncomputable def F8(t:TT):TT:=λσ H Q=>t σ H λc H1=>Q (!c) H1
theorem RD(ha:PT X a tA):PW X (.BoolOp .And [a] pos) tA:=by
 intro wh pins s σ H Q I h;refine isTrue_and (bf (ha pins s σ H Q I h) λc s1 e=>?_);cases c with|true=>exact isTrue_and_nil e|false=>exact e
theorem RE(ha:PT X a tA):PW X (.BoolOp .Or [a] pos) tA:=by
 intro wh pins s σ H Q I h;refine isTrue_or (bf (ha pins s σ H Q I h) λc s1 e=>?_);cases c with|false=>exact isTrue_or_nil e|true=>exact e
theorem RG(ha:PT X a tA)(hb:PW X (.BoolOp .And (b::rest) pos) DH):PW X (.BoolOp .And (a::b::rest) pos) (F7 tA DH):=by
 intro wh pins s σ H Q I h;refine isTrue_and (bf (ha pins s σ H _ I h) λc s1 z9=>z9.el λH1 I1 q1=>?_);cases c with|true=>exact hb wh pins s1 σ H1 Q I1 q1|false=>exact⟨H1,I1,q1⟩
theorem pw_or(ha:PT X a tA)(hb:PW X (.BoolOp .Or (b::rest) pos) DH):PW X (.BoolOp .Or (a::b::rest) pos) (RC tA DH):=by
 intro wh pins s σ H Q I h;refine isTrue_or (bf (ha pins s σ H _ I h) λc s1 z9=>z9.el λH1 I1 q1=>?_);cases c with|true=>exact⟨H1,I1,q1⟩|false=>exact hb wh pins s1 σ H1 Q I1 q1
theorem RH(ha:PT X a tA):PT X (.UnaryOp .Not a pos) (F8 tA):=by intro pins s σ H Q I h;exact isTrue_not (ha pins s σ H (λc H1=>Q (!c) H1) I h)
noncomputable def zD(ta tb:TE):TE:=λσ H Q=>ta σ H λx H1=>∃c,x=.bl c/\if c=true then tb σ H1 Q else Q (.bl false) H1
noncomputable def F9(ta tb:TE):TE:=λσ H Q=>ta σ H λx H1=>∃c,x=.bl c/\if c=true then Q (.bl true) H1 else tb σ H1 Q
noncomputable def zE(ta:TE):TE:=λσ H Q=>ta σ H λx H1=>∃c,x=.bl c/\Q (.bl (!c)) H1
theorem RI{op}{t:TE}(h:PE X a t):PE X (.BoolOp op [a] pos) t:=λpins s σ H Q I hw=>BoolOp_one (h pins s σ H Q I hw)
theorem RJ(ha:PE X a ta)(hb:PE X (.BoolOp .And (b::rest) pos) tb):PE X (.BoolOp .And (a::b::rest) pos) (zD ta tb):=by
 intro pins s σ H Q I h;refine BoolOp_and (bf (ha pins s σ H _ I h) λv s1 z9=>z9.el λx H1 I1 r1 q1=>?_);obtain⟨c,rfl,q1⟩:=q1;cases r1;refine qA ?_;cases c with|true=>exact hb pins s1 σ H1 Q I1 q1|false=>exact⟨.bl false,H1,I1,rfl,q1⟩
theorem zF(ha:PE X a ta)(hb:PE X (.BoolOp .Or (b::rest) pos) tb):PE X (.BoolOp .Or (a::b::rest) pos) (F9 ta tb):=by
 intro pins s σ H Q I h;refine BoolOp_or (bf (ha pins s σ H _ I h) λv s1 z9=>z9.el λx H1 I1 r1 q1=>?_);obtain⟨c,rfl,q1⟩:=q1;cases r1;refine qA ?_;cases c with|false=>exact hb pins s1 σ H1 Q I1 q1|true=>exact⟨.bl true,H1,I1,rfl,q1⟩
theorem RK(ha:PE X a ta):PE X (.UnaryOp .Not a pos) (zE ta):=by intro pins s σ H Q I h;refine UnaryOp_ (bf (ha pins s σ H _ I h) λv s1 z9=>z9.el λx H1 I1 r1 q1=>?_);obtain⟨c,rfl,q1⟩:=q1;cases r1;exact not_of (qA ⟨.bl (!c),H1,I1,rfl,q1⟩)
noncomputable def RL(t:TT)(ta tb:TE):TE:=λσ H Q=>t σ H λc H1=>if c=true then ta σ H1 Q else tb σ H1 Q
theorem RM{c:ao}(hc:PT X c tA)(ha:PE X a ta)(hb:PE X b tb):PE X (.IfExp c a b pos) (RL tA ta tb):=by
 intro pins s σ H Q I h;refine wpAny_IfExp (bf (hc pins s σ H _ I h) λd s1 z9=>z9.el λH1 I1 q1=>?_);cases d with|true=>exact ha pins s1 σ H1 Q I1 q1|false=>exact hb pins s1 σ H1 Q I1 q1
end
noncomputable def cR(K:aH)(H:Hp)(a:ah)(xs:List V):Prop:=
 Rd H a (.lst xs)\/
  ∃(o:Obj) (its:Array aa) (n:Nat),K.lookup a=aB o/\o.cls=.type "list"/\o.dict=aC/\o.data=.seq its n/\its.size<=sizeLine/\Vals xs its.toList
noncomputable def cj(K:aH)(H:Hp)(a:ah)(xs:List V):Prop:=
 Rd H a (.tup xs)\/
  ∃(o:Obj) (its:Array aa) (n:Nat),K.lookup a=aB o/\o.cls=.type "tuple"/\o.dict=aC/\o.data=.seq its n/\its.size<=sizeLine/\Vals xs its.toList
noncomputable def Ga:aa->Option V|.none=>aB .aP|.bool b=>aB (.bl b)|.int i _=>aB (.int i)|.str x _=>aB (.str x)|.bytes b _=>aB (.zp b)|.float b _=>aB (.ye b)|.ref a=>aB (.ref a)|.type n=>aB (.ty n)|_=>aC
theorem RelV.abs{x:V}{u:aa}(r:RelV x u):Ga u=aB x:=by
 cases x with|aP=>cases r;rfl|bl _=>cases r;rfl|int _=>obtain⟨t,rfl⟩:=r;rfl|str _=>obtain⟨t,rfl⟩:=r;rfl|zp _=>obtain⟨t,rfl⟩:=r;rfl|ye _=>obtain⟨t,rfl⟩:=r;rfl|ref _=>cases r;rfl|ty _=>cases r;rfl
theorem RelV.inj{x y:V}{u:aa}(r:RelV x u)(q:RelV y u):x=y:=nV (r.abs.symm.trans q.abs)
theorem Vals.inj:∀{xs ys:List V} {us:List aa},Vals xs us->Vals ys us->xs=ys|_,_,_,.nil,.nil=>rfl|_,_,_,.cons r t,.cons r' t'=>by rw[r.inj r',Vals.inj t t']
section
variable{X:Cx}{pins:List (ah×Obj)}{σ:St}{H:Hp}{s:af}{a:ah}{xs ys:List V}
theorem cR.of{K:aH}(h:H a=aB (.lst xs)):cR K H a xs:=.inl (.inl h)
theorem cj.of{K:aH}(h:H a=aB (.tup xs)):cj K H a xs:=.inl (.inl h)
theorem Inv.list(I:Inv X pins σ H s)(h:cR X.K H a xs):∃its:List aa,Vals xs its/\PlainL s.heap a its.toArray/\xs.length<=sizeLine:=by rcases h with h|⟨o,its,n,hk,hc,hd,hs,hz,r⟩;obtain⟨z,its,n,r,e⟩:=h.ok I.hok;exact⟨its,r,⟨_,n,e,rfl,rfl,rfl⟩,z⟩;refine⟨its.toList,r,⟨o,n,I.jr a o hk,hc,hd,by simpa using hs⟩,?_⟩;have e:=r.length;simp only[yc]at e;lia
theorem Inv.oG(I:Inv X pins σ H s)(h:cj X.K H a xs):∃its:List aa,Vals xs its/\lz s.heap a its.toArray/\xs.length<=sizeLine:=by rcases h with h|⟨o,its,n,hk,hc,hd,hs,hz,r⟩;obtain⟨z,its,r,p⟩:=h.ok I.hok;exact⟨its,r,p,z⟩;refine⟨its.toList,r,⟨o,I.jr a o hk,hc,⟨n,by simpa using hs⟩,hd⟩,?_⟩;have e:=r.length;simp only[yc]at e;lia
theorem Inv.tuple(I:Inv X pins σ H s)(h:cj X.K H a xs):∃its:List aa,Vals xs its/\IsTup s.heap a its.toArray/\xs.length<=sizeLine:=by obtain⟨its,r,p,z⟩:=I.oG h;exact⟨its,r,p.tup,z⟩
theorem Inv.j9(I:Inv X pins σ H s)(h:cR X.K H a xs)(h':cR X.K H a ys):xs=ys:=by
 obtain⟨its,r,⟨o,n,e,_,_,d⟩,_⟩:=I.list h;obtain⟨its',r',⟨o',n',e',_,_,d'⟩,_⟩:=I.list h';rw[e]at e';cases e';rw[d]at d';injection d' with d1 _;have:its=its':=by simpa using nR Array.toList d1
 subst this;exact r.inj r'
theorem Inv.gO(I:Inv X pins σ H s)(h:cj X.K H a xs)(h':cj X.K H a ys):xs=ys:=by
 obtain⟨its,r,⟨o,e,_,n,d⟩,_⟩:=I.tuple h;obtain⟨its',r',⟨o',e',_,n',d'⟩,_⟩:=I.tuple h';rw[e]at e';cases e';rw[d]at d';injection d' with d1 _;have:its=its':=by simpa using nR Array.toList d1
 subst this;exact r.inj r'
end
noncomputable abbrev Cx.jc(X:Cx)(E:aa->af->Prop):Cx:={X with xe:=E}
noncomputable abbrev Cx.yk(X:Cx):Cx:=X.jc λ_ _=>False
theorem Cx.Ok.jc{X:Cx}(ok:X.Ok)(E:aa->af->Prop):(X.jc E).Ok:=
 ⟨ok.mod,ok.kind,ok.glob,ok.blt,ok.above,ok.inj,ok.has,ok.zy,ok.hd,ok.frames,ok.stk,ok.yi,ok.bs,ok.vp,ok.oF,ok.mU,ok.iO,ok.yj⟩
theorem Cx.Ok.eK{X:Cx}{E:aa->af->Prop}(ok:(X.jc E).Ok):X.Ok:=
 ⟨ok.mod,ok.kind,ok.glob,ok.blt,ok.above,ok.inj,ok.has,ok.zy,ok.hd,ok.frames,ok.stk,ok.yi,ok.bs,ok.vp,ok.oF,ok.mU,ok.iO,ok.yj⟩
section
variable{X:Cx}{pins:List (ah×Obj)}{σ:St}{H:Hp}{s:af}{E:aa->af->Prop}
theorem Inv.jc(I:Inv X pins σ H s)(E:aa->af->Prop):Inv (X.jc E) pins σ H s:=⟨I.ok.jc E,I.os,I.bare,I.base,I.loc,I.cell,I.free,I.fy,I.pin,I.hok,I.len⟩
theorem Inv.eK(I:Inv (X.jc E) pins σ H s):Inv X pins σ H s:=⟨I.ok.eK,I.os,I.bare,I.base,I.loc,I.cell,I.free,I.fy,I.pin,I.hok,I.len⟩
theorem SP.eK{D:Ends}{f:Flow}{s':af}(h:SP (X.jc E) pins D f s'):SP X pins D f s':=by
 cases f with|next=>obtain⟨σ',H',I,q⟩:=h;exact⟨σ',H',I.eK,q⟩|brk=>obtain⟨σ',H',I,q⟩:=h;exact⟨σ',H',I.eK,q⟩|cont=>obtain⟨σ',H',I,q⟩:=h;exact⟨σ',H',I.eK,q⟩|ret u=>obtain⟨v,σ',H',I,r,q⟩:=h;exact⟨v,σ',H',I.eK,r,q⟩
theorem k6.yk{st:List aq}{t:TS}(h:k6 X.yk st t):k6 X st t:=λpins s σ H D I hw=>
 ie (h pins s σ H D (I.jc _) hw) (λ_ _ q=>q.eK) λ_ _ z=>False.elim z
end
section
variable{X:Cx}{st:aq}{rest:List aq}{t u:TS}{e:ao}{te:TE}{pos:Pos}
noncomputable def tR:TS:=λD σ H=>D.nx σ H
noncomputable def Gb(t u:TS):TS:=λD σ H=>t {D with nx:=u D} σ H
theorem RN:k6 X [] tR:=λ_ _ σ H _ I h=>wpAny_execs_nil ⟨σ,H,I,h⟩
theorem RO(h1:PS X st t)(h2:k6 X rest u):k6 X (st::rest) (Gb t u):=by
 intro pins s σ H D I h;refine wpAny_execs_cons (bf (h1 pins s σ H {D with nx:=u D} I h) λf s1 q=>?_);cases f with
 |next=>
  obtain⟨σ',H',I',q⟩:=q;exact h2 pins s1 σ' H' D I' q
 |ret v=>exact q
 |brk=>exact q
 |cont=>exact q
noncomputable def RP:TS:=λD σ H=>D.bk σ H
noncomputable def zG:TS:=λD σ H=>D.ct σ H
theorem RQ:PS X (.Pass pos) tR:=λ_ _ σ H _ I h=>wpAny_Pass ⟨σ,H,I,h⟩
theorem RS:PS X (.Break pos) RP:=λ_ _ σ H _ I h=>wpAny_Break ⟨σ,H,I,h⟩
theorem RT:PS X (.Continue pos) zG:=λ_ _ σ H _ I h=>wpAny_Continue ⟨σ,H,I,h⟩
theorem Inv.quiet{pins:List (ah×Obj)}{σ:St}{H:Hp}{s:af}(I:Inv X pins σ H s):interactive X.env=false:=by simp[interactive,I.ok.kind]
noncomputable def zH(te:TE):TS:=λD σ H=>te σ H λ_ H1=>D.nx σ H1
theorem RU(he:PE X e te)(hs:autoParam (swapsWith e aC pos.line X.env=pure false) L2.aR1._auto_1):PS X (.Expr e pos) (zH te):=by intro pins s σ H D I h;exact wpAny_Expr_any (bf (he pins s σ H _ I h) λv s1 z9=>z9.el λx H1 I1 r1 q1=>⟨σ,H1,I1,q1⟩) I.quiet hs
noncomputable def Gd(te:TE):TS:=λD σ H=>te σ H D.rt
theorem RV(he:PE X e te):PS X (.Return (aB e) pos) (Gd te):=by intro pins s σ H D I h;exact wpAny_Return_some (bf (he pins s σ H _ I h) λv s1 z9=>z9.el λx H1 I1 r1 q1=>⟨x,σ,H1,I1,r1,q1⟩)
noncomputable def zI:TS:=λD _ H=>D.rt .aP H
theorem RW:PS X (.Return aC pos) zI:=λ_ _ σ H _ I h=>wpAny_Return_none ⟨.aP,σ,H,I,rfl,h⟩
noncomputable def Ge(c:TT)(t u:TS):TS:=λD σ H=>c σ H λb H1=>if b=true then t D σ H1 else u D σ H1
theorem zJ{c:ao}{a b:List aq}{tc:TT}(hc:PT X c tc)(ha:k6 X a t)(hb:k6 X b u):PS X (.If c a b pos) (Ge tc t u):=by
 intro pins s σ H D I h;refine wpAny_If (bf (hc pins s σ H _ I h) λd s1 z9=>z9.el λH1 I1 q1=>?_);cases d with|true=>exact ha pins s1 σ H1 D I1 q1|false=>exact hb pins s1 σ H1 D I1 q1
noncomputable def RX:TS:=λ_ _ _=>False
theorem RY:PS X st RX:=λ_ _ _ _ _ _ h=>h.elim
end
noncomputable abbrev TG:=V->St->Hp->(St->Hp->Prop)->Prop
noncomputable abbrev qX:=List V->St->Hp->(St->Hp->Prop)->Prop
noncomputable def PG(X:Cx)(target:ao)(t:TG):Prop:=
 ∀(pins:List (ah×Obj))(s:af)(σ:St)(H:Hp)(v:V)(u:aa)(Q:St->Hp->Prop),Inv X pins σ H s->RelV v u->t v σ H Q->
  wpAny (model X.prog X.w) X.A (assign target X.env u) (λ_ s'=>∃σ' H',Inv X pins σ' H' s'/\Q σ' H') X.xe s
noncomputable def yl(X:Cx)(ts:List ao)(t:qX):Prop:=
 ∀(pins:List (ah×Obj))(s:af)(σ:St)(H:Hp)(vs:List V)(us:List aa)(Q:St->Hp->Prop),Inv X pins σ H s->Vals vs us->t vs σ H Q->
  wpAny (model X.prog X.w) X.A (assignInOrder ((assignEach ts X.env).map (·.2)) us) (λ_ s'=>∃σ' H',Inv X pins σ' H' s'/\Q σ' H') X.xe s
noncomputable abbrev vt:=V->V->V->Hp->(Hp->Prop)->Prop
noncomputable def mV(X:Cx)(t:vt):Prop:=
 ∀(pins:List (ah×Obj))(s:af)(σ:St)(H:Hp)(o i v:V)(ov iv u:aa)(Q:Hp->Prop),Inv X pins σ H s->RelV o ov->RelV i iv->RelV v u->t o i v H Q->
  wpAny (model X.prog X.w) X.A (setItem ov iv u) (λ_ s'=>∃H',Inv X pins σ H' s'/\Q H') X.xe s
noncomputable abbrev DJ:=V->V->Hp->VK->Prop
noncomputable def ym(X:Cx)(op:Operator)(t:DJ):Prop:=
 ∀(pins:List (ah×Obj))(s:af)(σ:St)(H:Hp)(x y:V)(v u:aa)(Q:VK),Inv X pins σ H s->RelV x v->RelV y u->t x y H Q->
  wpAny (model X.prog X.w) X.A (inplaceOp op v u) (EP X pins σ Q) X.xe s
section
variable{X:Cx}{pos:Pos}
noncomputable def iP(i:Nat):TG:=λv σ H Q=>Q (σ.set i (aB v)) H
theorem Mw{i:Nat}{x:Str}(hN:X.N.Nodup)(hi:X.N[i]?=aB x)(hx:Loc X.env.scope x)(hf:autoParam (X.fn x=true\/X.env.scope.names.lookup x=aB .local) L2.aF1._auto_1):PG X (.Name x pos) (iP i):=by intro pins s σ H v u Q I r h;exact wpAny_assign_Name (F4 I hN hi hx r (λs' I'=>⟨_,H,I',h⟩) hf)
noncomputable def Gf:qX:=λvs σ H Q=>vs=[]/\Q σ H
noncomputable def zK(t:TG)(u:qX):qX:=λvs σ H Q=>∃v r,vs=v::r/\t v σ H λσ' H'=>u r σ' H' Q
theorem Mx:yl X [] Gf:=by intro pins s σ H vs us Q I r h;obtain⟨e,h⟩:=h;subst e;cases r;exact assignInOrder_nil ⟨σ,H,I,h⟩
theorem Gg{e:ao}{es:List ao}{t:TG}{u:qX}(h1:PG X e t)(h2:yl X es u)
 (hs:autoParam ((assignEach (e::es) X.env).map (·.2)=assign e X.env:: (assignEach es X.env).map (·.2)) L2.aR1._auto_1):yl X (e::es) (zK t u):=by
 intro pins s σ H vs us Q I r h;obtain⟨v,vr,e1,h⟩:=h;subst e1;cases r with
 |cons r rr=>
  rw[hs];refine assignInOrder_cons (bf (h1 pins s σ H _ _ _ I r h) λ_ s1 bQ=>?_);obtain⟨σ1,H1,I1,q1⟩:=bQ;exact h2 pins s1 σ1 H1 _ _ Q I1 rr q1
noncomputable def Gh(K:aH)(n:Nat)(t:qX):TG:=λv σ H Q=>∃a xs,v=.ref a/\cj K H a xs/\xs.length=n/\t xs σ H Q
theorem My{es:List ao}{k:Nat}{t:qX}{n:Nat}(hc:X.calm)(h:yl X es t)
 (hn:autoParam ((assignEach es X.env).length=n) L2.aR1._auto_1) (hst:autoParam ((assignEach es X.env).findIdx? (·.1)=aC) L2.aR1._auto_1):PG X (.Tuple es k pos) (Gh X.K n t):=by
 intro pins s σ H v u Q I r hw;obtain⟨a,xs,e1,hq,hl,hw⟩:=hw;subst e1;cases r;obtain⟨its,rv,ht,hz⟩:=I.tuple hq;refine assign_Tuple_tuple (I.ok.hd hc) ht (by simp[hn,<-hl,rv.length]) hst λh' hx=>?_;have I1:Inv X pins σ H {s with heap:=h'}:=I.kept (t':=s.toks) λb o e=>hx b o (gh (cQ e)) e;exact h pins _ σ H xs _ Q I1 (by simpa using rv) hw
noncomputable def Gi(to ti:TE)(t:vt):TG:=λv σ H Q=>to σ H λo H1=>ti σ H1 λi H2=>t o i v H2 λH3=>Q σ H3
theorem RZ{o i:ao}{to ti:TE}{t:vt}(ho:PE X o to)(hi:PE X i ti)(hs:mV X t)
 (ha:∀v,assign (.Subscript o i pos) X.env v=(do
   let ov <-holding [v] (eval o X.env);let iv <-holding [v,ov] (eval i X.env)
   standAt pos
   holding [v,ov,iv] (setItem ov iv v)
   release [v,ov,iv] []):=by intro _;rfl):PG X (.Subscript o i pos) (Gi to ti t):=by
 intro pins s σ H v u Q I r h;rw[ha];refine aJ (mP (bf (ho pins s σ H _ I h) λov s1 z9=>z9.el λx H1 I1 r1 q1=>?_));refine aJ (mP (bf (hi pins s1 σ H1 _ I1 q1) λiv s2 z9=>z9.el λy H2 I2 r2 q2=>?_));refine aJ (mQ (aJ (mP (bf (hs pins s2 σ H2 x y v ov iv u _ I2 r1 r2 r q2) λ_ s3 bQ=>?_))));obtain⟨H3,I3,q3⟩:=bQ;exact wpAny_release ⟨σ,H3,I3,q3⟩
noncomputable def qY(te:TE)(g:TG):TS:=λD σ H=>te σ H λx H1=>g x σ H1 D.nx
theorem Mz{tg e:ao}{te:TE}{g:TG}(he:PE X e te)(hg:PG X tg g)(hs:autoParam (swapsWithSole [tg] e pos.line X.env=pure false) L2.aR1._auto_1)(hw:autoParam (swappedStores [tg] e X.env=pure aC) L2.aR1._auto_1)
 (h1:autoParam ((assignEach [tg] X.env).map (·.2)=[assign tg X.env]) L2.aR1._auto_1):PS X (.Assign [tg] e pos) (qY te g):=by
 intro pins s σ H D I h;refine wpAny_Assign_stores (bf (he pins s σ H _ I h) λv s1 z9=>z9.el λx H1 I1 r1 q1=>?_) hs hw;rw[h1];exact bf (hg pins s1 σ H1 x v _ I1 r1 q1) λ_ s2 q=>q
theorem R0{i:Nat}{x:Str}{e:ao}{te:TE}{pos':Pos}(hN:X.N.Nodup)(hi:X.N[i]?=aB x)(hx:Loc X.env.scope x)(he:PE X e te)(hs:autoParam (swapsWith e (aB (.Name x pos')) pos.line X.env=pure false) L2.aR1._auto_1)(hf:autoParam (X.fn x=true\/X.env.scope.names.lookup x=aB .local) L2.aF1._auto_1) :
 PS X (.Assign [.Name x pos'] e pos) (qY te (iP i)):=by
 intro pins s σ H D I h;refine wpAny_Assign_Name (bf (he pins s σ H _ I h) λv s1 z9=>z9.el λy H1 I1 r1 q1=>?_) hs;exact F4 I1 hN hi hx r1 (λs2 I2=>⟨_,H1,I2,q1⟩) hf
noncomputable def Gj(i:Nat)(te:TE)(ti:DJ):TS:=λD σ H=>∃x,σ[i]?=aB (aB x)/\te σ H λy H1=>ti x y H1 λz H2=>D.nx (σ.set i (aB z)) H2
theorem R1{i:Nat}{x:Str}{e:ao}{te:TE}{op:Operator}{ti:DJ}{pos':Pos}(hN:X.N.Nodup)(hi:X.N[i]?=aB x)(hx:Loc X.env.scope x)(he:PE X e te)(ho:ym X op ti)(hf:autoParam (X.fn x=true\/X.env.scope.names.lookup x=aB .local) L2.aF1._auto_1) :
 PS X (.AugAssign (.Name x pos') op e pos) (Gj i te ti):=by
 intro pins s σ H D I h;obtain⟨v,e1,h⟩:=h;obtain⟨m,hn,hl⟩:=I.loc;have vis:yh X.env.scope x:=by rcases hx with k|k;exact .inl k;exact .inr (.inl k)
 obtain⟨u,r,l⟩:=hl i x v hi e1 vis;refine wpAny_AugAssign_Name ?_;have go:wpAny (model X.prog X.w) X.A (eval e X.env) (λw s₂=>wpAny (model X.prog X.w) X.A (inplaceOp op u w) (λr s₃=>wpAny (model X.prog X.w) X.A (storeName X.env x r) (λ_=>SP X pins D .next) X.xe s₃) X.xe s₂) X.xe s:=by refine bf (he pins s σ H _ I h) λw s1 z9=>z9.el λy H1 I1 r1 q1=>?_;refine bf (ho pins s1 σ H1 v y u w _ I1 r r1 q1) λz s2 z9=>z9.el λzv H2 I2 r2 q2=>?_;exact F4 I2 hN hi hx r2 (λs3 I3=>⟨_,H2,I3,q2⟩) hf
 rcases l with⟨hk,hm⟩|⟨hk,c,hc,hcell⟩;exact wpAny_loadName_local I.ok.kind hk hn hm go;rcases hk with hk|hk;exact wpAny_loadName_cell I.ok.kind hk hc hcell go;rcases hx with k|k;have:X.env.scope.names.lookup x=aB .free:=hk;rw[k]at this;cases this;have:X.env.scope.names.lookup x=aB .free:=hk;rw[k]at this;cases this
noncomputable def DK(f:Int->Int->Int):DJ:=λx y H Q=>∃i j,x=.int i/\y=.int j/\Q (.int (f i j)) H
theorem R3:ym X .Add (DK λi j=>i+j):=by intro pins s σ H x y v u Q I r1 r2 h;obtain⟨i,j,e1,e2,q⟩:=h;subst e1;subst e2;obtain⟨t,rfl⟩:=r1;obtain⟨t',rfl⟩:=r2;exact iadd_int ⟨.int _,H,I.tok _,⟨_,rfl⟩,q⟩
theorem R4:ym X .Sub (DK λi j=>i-j):=by intro pins s σ H x y v u Q I r1 r2 h;obtain⟨i,j,e1,e2,q⟩:=h;subst e1;subst e2;obtain⟨t,rfl⟩:=r1;obtain⟨t',rfl⟩:=r2;exact isub_int ⟨.int _,H,I.tok _,⟨_,rfl⟩,q⟩
end
section
variable{X:Cx}{pos:Pos}
noncomputable def R5(c:TT)(tb:TS):TS:=λD σ H=>∃W:Nat->St->Hp->Prop,(∃m,W m σ H)/\∀m σ H,W m σ H->
 c σ H λb H1=>if b=true then ∃N:St->Hp->Prop,(∀σ' H',N σ' H'->∃m',m'<m/\W m' σ' H')/\tb {D with nx:=N,ct:=N,bk:=D.nx} σ H1 else D.nx σ H1
theorem R6{c:ao}{body:List aq}{tc:TT}{tb:TS}(hp:PassesOwn (model X.prog X.w) X.A X.env X.xe)(hc:PT X c tc)(hb:k6 X body tb):PS X (.While c body [] pos) (R5 tc tb):=by
 intro pins s σ H D I h;obtain⟨W,⟨m0,w0⟩,turn⟩:=h;refine wpAny_While (codeAny_whileLoop (λn s'=>∃σ' H',Inv X pins σ' H' s'/\W n σ' H') ?_ m0 ⟨σ,H,I,w0⟩);rintro n s1 ⟨σ1,H1,I1,w1⟩;refine uU hp (bf (hc pins s1 σ1 H1 _ I1 (turn n σ1 H1 w1)) λb s2 z9=>z9.el λH2 I2 q2=>?_);cases b with
 |true=>
  obtain⟨N,hN,q2⟩:=q2;rw[if_pos rfl];refine uU hp (bf (hb pins s2 σ1 H2 _ I2 q2) λf s3 q3=>?_);cases f with
  |next=>
   obtain⟨σ3,H3,I3,n3⟩:=q3;obtain⟨m',hm,w3⟩:=hN σ3 H3 n3;exact⟨m',hm,σ3,H3,I3,w3⟩
  |cont=>
   obtain⟨σ3,H3,I3,n3⟩:=q3;obtain⟨m',hm,w3⟩:=hN σ3 H3 n3;exact⟨m',hm,σ3,H3,I3,w3⟩
  |brk=>exact q3
  |ret v=>exact q3
 |false=>
  rw[if_neg u9];exact wpAny_execs_nil ⟨σ1,H2,I2,q2⟩
end
set_option genInjectivity false in
structure It where
 go:Nat->Hp->Prop
 tS:Nat->Hp->V->Hp->Prop
 stop:Nat->Hp->Prop
noncomputable def eE(X:Cx)(pins:List (ah×Obj))(H:Hp)(b:ah):Prop:=
 H b=aC/\b≠X.env.locals/\b∉X.fs/\(b∈X.ex\/X.s₀.heap.objs.size<=b)/\(∀x c,X.env.cells.lookup x=aB c->c≠b)/\∀p∈X.pn++pins,p.1≠b
theorem Inv.kc{X:Cx}{pins:List (ah×Obj)}{σ:St}{H H':Hp}{s:af}{b:ah}(I:Inv X pins σ H s)(hb:s.heap.objs.size<=b)(hn:H' b=aC):eE X pins H' b:=by refine⟨hn,tN (di I.lt hb),I.F1 hb,.inr (gJ I.sz hb),λx c e z=>?_,λp hp z=>?_⟩;obtain⟨v,q⟩:=I.cell x c e;exact absurd (di q.lt (by rw[z];exact hb)) (fZ _);exact absurd (di (cQ (I.pin p hp).1) (by rw[z];exact hb)) (fZ _)
structure Turn(P:ai)(w:aj)(K:aH)(tg:ao)(J:It)(fp:List ah)(it:ah)(tn:Nat->az->Prop):Prop where
 mem:it∈fp
 obj:∀i h,tn i h->∀b∈fp,∃o,h.get? b=aB o/\∀v,o.data≠.cell v
 keep:∀i h h',tn i h->(∀b∈fp,∀o,h.get? b=aB o->h'.get? b=aB o)->tn i h'
 item:∀(X:Cx),X.prog=P->X.w=w->X.K=K->X.calm=true->∀(i:Nat)(pins:List (ah×Obj))(s:af)(σ:St)(H:Hp)(E:aa->af->Prop),Inv X pins σ H s->(∀b∈fp,eE X pins H b)->tn i s.heap->J.go i H->
  wpAny (model P w) X.A (pyNext (.ref it)) (λr s1=>∃u,r=aB u/\
   wpAny (model P w) X.A (letOwnedTupleGo tg (.ref it) u) (λ_ s2=>∃x H',Inv X pins σ H' s2/\RelV x u/\J.tS i H x H'/\tn (i+1) s2.heap/\∀b∈fp,H' b=aC) E s1) E s
 done:∀(X:Cx),X.prog=P->X.w=w->X.K=K->X.calm=true->∀(i:Nat)(pins:List (ah×Obj))(s:af)(σ:St)(H:Hp)(E:aa->af->Prop),Inv X pins σ H s->(∀b∈fp,eE X pins H b)->tn i s.heap->J.stop i H->
  wpAny (model P w) X.A (pyNext (.ref it)) (λr s1=>r=aC/\Inv X pins σ H s1) E s
 self:∀(A:ak)(i:Nat)(s:af)(Q:aa->af->Prop)(E:aa->af->Prop),tn i s.heap->Q (.ref it) s->wpAny (model P w) A (pyIter (.ref it)) Q E s
noncomputable abbrev TI:=St->Hp->(It->Hp->Prop)->Prop
noncomputable def zL(X:Cx)(pins:List (ah×Obj))(σ:St)(tg:ao)(R:It->Hp->Prop)(itv:aa)(s2:af):Prop:=
 ∃(it:ah) (fp:List ah) (tn:Nat->az->Prop) (J:It) (H':Hp),itv=.ref it/\Inv X pins σ H' s2/\Turn X.prog X.w X.K tg J fp it tn/\tn 0 s2.heap/\(∀b∈fp,eE X pins H' b)/\R J H'
noncomputable def PI(X:Cx)(tg iter:ao)(wi:TI):Prop:=
 ∀(pins:List (ah×Obj))(s:af)(σ:St)(H:Hp)(R:It->Hp->Prop),Inv X pins σ H s->wi σ H R->
  wpAny (model X.prog X.w) X.A (eval iter X.env) (λv s1=>wpAny (model X.prog X.w) X.A (pyIter v) (zL X pins σ tg R) X.xe s1) X.xe s
theorem lY{M:Model}{A:ak}{E:aa->af->Prop}{s:af}{tg:ao}{it:ah}{u:aa}{o:Obj}{n:String}{vs:Array aa}{Q:Unit->af->Prop}(ho:s.heap.get? it=aB o)(hc:o.cls=.type n)(hd:o.data=.fields vs)
 (hn:["enumerate","zip","dict_itemiterator","dict_reverseitemiterator","odict_iterator","itertools.zip_longest","itertools.pairwise"].contains n=false) (hQ:Q () s):wpAny M A (letOwnedTupleGo tg (.ref it) u) Q E s:=by
 unfold letOwnedTupleGo;cases tg<;>first
  |exact bH hQ
  |(cases u<;>first
     |exact bH hQ
     |(refine aJ (wpAny_load ho ?_)
       rw[hc,hd];show wpAny M A (if(["enumerate","zip","dict_itemiterator","dict_reverseitemiterator","odict_iterator","itertools.zip_longest","itertools.pairwise"].contains n&&vs[0]? == aB (rawInt _))=true then _ else _) Q E s;rw[if_neg (by intro h;rw[hn,xX]at h;cases h)];exact bH hQ))
noncomputable def DL(K:aH)(a:ah):It:=
 ⟨λi H=>∃xs x,cR K H a xs/\xs[i]?=aB x,λi H x H'=>H'=H/\∀xs,cR K H a xs->xs[i]?=aB x,λi H=>∃xs,cR K H a xs/\xs.length<=i⟩
noncomputable def Gk(K:aH)(a:ah):It:=
 ⟨λi H=>∃xs x,cj K H a xs/\xs[i]?=aB x,λi H x H'=>H'=H/\∀xs,cj K H a xs->xs[i]?=aB x,λi H=>∃xs,cj K H a xs/\xs.length<=i⟩
noncomputable def zM(lo:Int)(n:Nat):It:=⟨λi _=>i<n,λi H x H'=>H'=H/\x=.int (lo+i),λi _=>n<=i⟩
theorem R7{P:ai}{w:aj}{K:aH}{tg:ao}(a it:ah):Turn P w K tg (DL K a) [it] it (λi h=>h.IsListIter it a i)where
 mem:=by simp
 obj:=λi h st b hb=>by
  have e:b=it:=by simpa using hb
  subst e;obtain⟨o,e,c,d⟩:=st;exact⟨o,e,λv z=>by rw[d]at z;cases z⟩
 keep:=λi h h' st k=>st.at λo e=>k it (by simp) o e
 item:=by intro X hP hw hK hc i pins s σ H E I hf st hg;subst hP hw hK;obtain⟨xs,x,hq,hx⟩:=hg;obtain⟨its,rv,p,hz⟩:=I.list hq;obtain⟨u,hu,ru⟩:=rv.get hx;obtain⟨f0,f1,f2,f3,f4,f5⟩:=hf it (by simp);refine wpAny_pyNext_list_item st p.isList (x:=u) (by simpa using hu) λh' st' sb=>?_;have I1:Inv X pins σ H {s with heap:=h'}:=I.turned (t':=s.toks) (λb o hb e=>(sb.2 b hb).trans e) f0 f1 f3 f4 f5;obtain⟨o,e,c,d⟩:=id st';exact⟨u,rfl,lY (s:={s with heap:=h'}) e c d (by decide) ⟨x,H,I1,ru,⟨rfl,λys hy=>by rw[I.j9 hy hq];exact hx⟩,st',λb hb=>(hf b hb).1⟩⟩
 done:=by intro X hP hw hK hc i pins s σ H E I hf st hg;subst hP hw hK;obtain⟨xs,hq,hx⟩:=hg;obtain⟨its,rv,p,hz⟩:=I.list hq;obtain⟨f0,f1,f2,f3,f4,f5⟩:=hf it (by simp);have hl:=rv.length;exact wpAny_pyNext_list_end (I.ok.hd hc) st p.isList (by simp;lia) λh' eb=>⟨rfl,I.turned (t':=s.toks) (λb o hb e=>eb b o hb e) f0 f1 f3 f4 f5⟩
 self:=λ_ _ _ _ _ st h=>wpAny_pyIter_listiter st h
theorem R8{P:ai}{w:aj}{K:aH}{tg:ao}(a it:ah):Turn P w K tg (Gk K a) [it] it (λi h=>h.IsTupleIter it a i)where
 mem:=by simp
 obj:=λi h st b hb=>by
  have e:b=it:=by simpa using hb
  subst e;obtain⟨o,e,c,d⟩:=st;exact⟨o,e,λv z=>by rw[d]at z;cases z⟩
 keep:=λi h h' st k=>st.at λo e=>k it (by simp) o e
 item:=by intro X hP hw hK hc i pins s σ H E I hf st hg;subst hP hw hK;obtain⟨xs,x,hq,hx⟩:=hg;obtain⟨its,rv,p,hz⟩:=I.tuple hq;obtain⟨u,hu,ru⟩:=rv.get hx;obtain⟨f0,f1,f2,f3,f4,f5⟩:=hf it (by simp);refine wpAny_pyNext_tuple_item st (show s.heap.IsTuple a its.toArray from p) (x:=u) (by simpa using hu) λh' st' sb=>?_;have I1:Inv X pins σ H {s with heap:=h'}:=I.turned (t':=s.toks) (λb o hb e=>(sb.2 b hb).trans e) f0 f1 f3 f4 f5;obtain⟨o,e,c,d⟩:=id st';exact⟨u,rfl,lY (s:={s with heap:=h'}) e c d (by decide) ⟨x,H,I1,ru,⟨rfl,λys hy=>by rw[I.gO hy hq];exact hx⟩,st',λb hb=>(hf b hb).1⟩⟩
 done:=by intro X hP hw hK hc i pins s σ H E I hf st hg;subst hP hw hK;obtain⟨xs,hq,hx⟩:=hg;obtain⟨its,rv,p,hz⟩:=I.tuple hq;obtain⟨f0,f1,f2,f3,f4,f5⟩:=hf it (by simp);have hl:=rv.length;exact wpAny_pyNext_tuple_end (I.ok.hd hc) st (show s.heap.IsTuple a its.toArray from p) (by simp;lia) λh' eb=>⟨rfl,I.turned (t':=s.toks) (λb o hb e=>eb b o hb e) f0 f1 f3 f4 f5⟩
 self:=λ_ _ _ _ _ st h=>wpAny_pyIter_tupleiter st h
theorem R9{P:ai}{w:aj}{K:aH}{tg:ao}(it:ah)(lo:Int)(n:Nat):Turn P w K tg (zM lo n) [it] it (λi h=>IsRangeIter h it (lo+ (i:Nat)*1) ((n:Int)- (i:Nat)) 1)where
 mem:=by simp
 obj:=λi h st b hb=>by
  have e:b=it:=by simpa using hb
  subst e;exact⟨_,st,λv z=>by
   have z':Data.fields _=Data.cell v:=z;cases z'⟩
 keep:=λi h h' st k=>k it (by simp) _ st
 item:=by intro X hP hw hK hc i pins s σ H E I hf st hg;subst hP hw hK;obtain⟨f0,f1,f2,f3,f4,f5⟩:=hf it (by simp);have W:=Walks.range (prog:=X.prog) (w:=X.w) (I.ok.hd hc) it lo 1 n;refine W.item i s _ _ hg st λv h' tk hv st' kk=>?_;obtain⟨t,rfl⟩:=hv;have I1:Inv X pins σ H {s with heap:=h',toks:=tk}:=I.turned (λb o hb e=>kk b o (by simpa using hb) e) f0 f1 f3 f4 f5;refine⟨_,rfl,lY (s:={s with heap:=h',toks:=tk}) (n:="range_iterator") st' rfl rfl (by decide) ⟨.int (lo+i),H,I1,⟨t,?_⟩,⟨rfl,rfl⟩,st',λb hb=>(hf b hb).1⟩⟩;rw[Int.mul_one]
 done:=by intro X hP hw hK hc i pins s σ H E I hf st hg;subst hP hw hK;obtain⟨f0,f1,f2,f3,f4,f5⟩:=hf it (by simp);exact wpAny_pyNext_range_end (I.ok.hd hc) st (by have:n<=i:=hg;lia) λh' eb=>⟨rfl,I.turned (t':=s.toks) (λb o hb e=>eb b o hb e) f0 f1 f3 f4 f5⟩
 self:=λ_ _ _ _ _ st h=>wpAny_pyIter_rangeiter st h
section
variable{X:Cx}{tg:ao}
noncomputable def zN(K:aH)(tl:TE):TI:=λσ H R=>tl σ H λx H1=>∃a,x=.ref a/\(∃xs,cR K H1 a xs)/\R (DL K a) H1
noncomputable def Gn(K:aH)(tl:TE):TI:=λσ H R=>tl σ H λx H1=>∃a,x=.ref a/\(∃xs,cj K H1 a xs)/\R (Gk K a) H1
theorem MA{l:ao}{tl:TE}(hl:PE X l tl):PI X tg l (zN X.K tl):=by
 intro pins s σ H R I h;refine bf (hl pins s σ H _ I h) λv s1 z9=>z9.el λx H1 I1 r1 q1=>?_;obtain⟨a,e,⟨xs,hq⟩,q⟩:=q1;subst e;cases r1;obtain⟨its,rv,p,hz⟩:=I1.list hq;refine xK p.isList ?_;refine⟨s1.heap.objs.size,[s1.heap.objs.size],_,_,H1,rfl,I1.kept (t':=s1.toks) λb o e=>cy _ e,R7 a _,⟨_,iI _ rfl,rfl,rfl⟩,λb hb=>?_,q⟩;have e:b=s1.heap.objs.size:=by simpa using hb
 subst e;exact I1.kc (aZ _) (I1.hok.fresh (aZ _))
theorem Sa{l:ao}{tl:TE}(hl:PE X l tl):PI X tg l (Gn X.K tl):=by
 intro pins s σ H R I h;refine bf (hl pins s σ H _ I h) λv s1 z9=>z9.el λx H1 I1 r1 q1=>?_;obtain⟨a,e,⟨xs,hq⟩,q⟩:=q1;subst e;cases r1;obtain⟨its,rv,p,hz⟩:=I1.tuple hq;refine tH (show s1.heap.IsTuple a its.toArray from p) ?_;refine⟨s1.heap.objs.size,[s1.heap.objs.size],_,_,H1,rfl,I1.kept (t':=s1.toks) λb o e=>cy _ e,R8 a _,⟨_,iI _ rfl,rfl,rfl⟩,λb hb=>?_,q⟩;have e:b=s1.heap.objs.size:=by simpa using hb
 subst e;exact I1.kc (aZ _) (I1.hok.fresh (aZ _))
theorem MB{pins:List (ah×Obj)}{σ:St}{H:Hp}{s:af}{R:It->Hp->Prop}{E:aa->af->Prop}{lo hi:Int}{t u v:Tok}{tk:Nat}(I:Inv X pins σ H s)(h1:-(2 ^ 62)<=lo)(h2:lo<2 ^ 62)(h3:-(2 ^ 62)<=hi)(h4:hi<2 ^ 62)
 (q:R (zM lo (hi-lo).toNat) H):wpAny (model X.prog X.w) X.A (pyIter (.ref s.heap.objs.size)) (zL X pins σ tg R) E {s with heap:=s.heap.push {cls:=.type "range",data:=.fields #[.int lo t,.int hi u,.int 1 v]},toks:=tk}:=by
 refine wpAny_pyIter_range (IsRange.new ..) (small_one h1 h2 h3 h4) ?_;have I1:Inv X pins σ H {s with heap:=s.heap.push {cls:=.type "range",data:=.fields #[.int lo t,.int hi u,.int 1 v]},toks:=tk}:=I.kept λb o e=>cy _ e;refine⟨(s.heap.push {cls:=.type "range",data:=.fields #[.int lo t,.int hi u,.int 1 v]}).objs.size,[(s.heap.push {cls:=.type "range",data:=.fields #[.int lo t,.int hi u,.int 1 v]}).objs.size],_,_,H,rfl,
  I1.kept (t':=tk) λb o e=>cy _ e,R9 _ lo (hi-lo).toNat,?_,λb hb=>?_,q⟩
 have e1:lo+ ((0:Nat):Int)*1=lo:=by simp
 have e2:(((hi-lo).toNat:Nat):Int)- ((0:Nat):Int)=Builtin.Range.rangeSize lo hi 1:=by rw[rangeSize_one];split<;>lia
 show IsRangeIter _ _ (lo+ ((0:Nat):Int)*1) ((((hi-lo).toNat:Nat):Int)- ((0:Nat):Int)) 1;rw[e1,e2];exact iI _ rfl;have e:b=(s.heap.push {cls:=.type "range",data:=.fields #[.int lo t,.int hi u,.int 1 v]}).objs.size:=by simpa using hb
 subst e;exact I1.kc (aZ _) (I1.hok.fresh (aZ _))
noncomputable def zO(ta:TA):TI:=λσ H R=>ta σ H λvs H1=>∃j:Int,vs=[.int j]/\-(2 ^ 62)<=j/\j<2 ^ 62/\R (zM 0 j.toNat) H1
noncomputable def zP(ta:TA):TI:=λσ H R=>ta σ H λvs H1=>∃i j:Int,vs=[.int i,.int j]/\(-(2 ^ 62)<=i/\i<2 ^ 62/\-(2 ^ 62)<=j/\j<2 ^ 62)/\R (zM i (j-i).toNat) H1
theorem Sb{a:ao}{ta:TA}{p pos:Pos}(hg:Gl X "range")(hm:X.mg "range" = aC)(ha:PA X [a] ta)(hs:autoParam (starEach [a] X.env=[(false,eval a X.env)]) L2.aR1._auto_1):PI X tg (.Call (.Name "range" p) [a] [] pos) (zO ta):=by
 intro pins s σ H R I h;refine Call_ (qW I hg hm boot_range (x8 (bf (ha pos pins s σ H _ I h) λus s1 z9=>z9.el λvs H1 I1 r1 q1=>?_) hs rfl));obtain⟨j,e,q1,q2,q⟩:=q1;subst e;cases r1 with
 |cons r rr=>
  cases rr;obtain⟨t,rfl⟩:=r;exact call_range_1 (MB I1 (by lia) (by lia) q1 q2 (by simpa using q))
theorem Se{a b:ao}{ta:TA}{p pos:Pos}(hg:Gl X "range")(hm:X.mg "range" = aC)(ha:PA X [a,b] ta)(hs:autoParam (starEach [a,b] X.env=[(false,eval a X.env),(false,eval b X.env)]) L2.aR1._auto_1)(hs2:autoParam (starEach [b] X.env=[(false,eval b X.env)]) L2.aR1._auto_1) :
 PI X tg (.Call (.Name "range" p) [a,b] [] pos) (zP ta):=by
 intro pins s σ H R I h;refine Call_ (qW I hg hm boot_range (x8 (bf (ha pos pins s σ H _ I h) λus s1 z9=>z9.el λvs H1 I1 r1 q1=>?_) (by rw[hs,hs2]) (by rw[hs2];rfl)));obtain⟨i,j,e,⟨q1,q2,q3,q4⟩,q⟩:=q1;subst e;cases r1 with
 |cons r rr=>
  cases rr with
  |cons r' rr=>
   cases rr;obtain⟨t,rfl⟩:=r;obtain⟨t',rfl⟩:=r';exact call_range_2 (MB I1 q1 q2 q3 q4 q)
noncomputable def zQ(wi:TI)(g:TG)(tb:TS):TS:=λD σ H=>wi σ H λJ H1=>∃W:Nat->Nat->St->Hp->Prop,(∃m,W 0 m σ H1)/\∀i m σ H,W i m σ H->
 (J.stop i H/\D.nx σ H)\/(J.go i H/\∃N:St->Hp->Prop,(∀σ' H',N σ' H'->∃m',m'<m/\W (i+1) m' σ' H')/\∀x H',J.tS i H x H'->g x σ H' λσ2 H2=>tb {D with nx:=N,ct:=N,bk:=D.nx} σ2 H2)
noncomputable def vz(fp:List ah)(h:az):List (ah×Obj):=fp.filterMap λb=>(h.get? b).map λo=>(b,o)
theorem tT{fp:List ah}{h:az}{b:ah}{o:Obj}(hb:b∈fp)(e:h.get? b=aB o):(b,o)∈vz fp h:=List.mem_filterMap.mpr ⟨b,hb,by rw[e];rfl⟩
theorem Sf{fp:List ah}{h:az}{p:ah×Obj}(hp:p∈vz fp h):p.1∈fp/\h.get? p.1=aB p.2:=by
 obtain⟨b,hb,e⟩:=List.mem_filterMap.mp hp;cases q:h.get? b with
 |none=>rw[q]at e;cases e
 |some o=>
  rw[q]at e;have e':(b,o)=p:=nV e;subst e';exact⟨hb,q⟩
theorem Inv.pinned{pins:List (ah×Obj)}{σ:St}{H:Hp}{s:af}{fp:List ah}(I:Inv X pins σ H s)(hf:∀b∈fp,eE X pins H b)(ho:∀b∈fp,∃o,s.heap.get? b=aB o/\∀v,o.data≠.cell v):Inv X (pins++vz fp s.heap) σ H s:=
 I.lX λp hp=>(uZ.mp hp).elim (λz=>I.pin p (jG _ z)) λz=>by
  obtain⟨hb,e⟩:=Sf z;obtain⟨f0,f1,f2,_⟩:=hf p.1 hb;obtain⟨o,e',d⟩:=ho p.1 hb;rw[e]at e';cases e';exact⟨e,f0,f1,f2,d⟩
theorem Inv.dO{pins pl:List (ah×Obj)}{σ:St}{H:Hp}{s:af}(I:Inv X (pins++pl) σ H s):Inv X pins σ H s:=I.lX λp hp=>I.pin p (jG _ (List.mem_append_left _ hp))
theorem Sg{iter:ao}{body:List aq}{wi:TI}{g:TG}{tb:TS}{pos:Pos}(hp:PassesOwn (model X.prog X.w) X.A X.env X.xe)(hc:X.calm)(hi:PI X tg iter wi)(hg:PG X tg g)(hb:k6 X body tb)
 (hs:∀x,foldedSetIterable iter X.env x=pure x:=by intro _;rfl):PS X (.For tg iter body [] pos) (zQ wi g tb):=by
 intro pins s σ H D I h;refine wpAny_For (bf (hi pins s σ H _ I h) λv s1 h1=>bf h1 λitv s2 h2=>?_) hs;obtain⟨it,fp,tn,J,H2,e,I2,T,st2,f2,W,⟨m0,w0⟩,turn⟩:=h2;subst e;have lB:∀{H':Hp},(∀b∈fp,H' b=aC)->∀b∈fp,eE X pins H' b:=λhn b hb=>⟨hn b hb,(f2 b hb).2⟩
 refine codeAny_forLoop_any (λn s'=>∃i σ' H',Inv X pins σ' H' s'/\tn i s'.heap/\(∀b∈fp,H' b=aC)/\W i n σ' H') ?_ m0 ⟨0,σ,H2,I2,st2,λb hb=>(f2 b hb).1,w0⟩;rintro n s3 ⟨i,σ3,H3,I3,st3,zR,w3⟩;rcases turn i n σ3 H3 w3 with⟨stop,qn⟩|⟨go,N,hN,step⟩
 .refine uU hp (bf (T.done X rfl rfl rfl hc i pins s3 σ3 H3 X.xe I3 (lB zR) st3 stop) λr s4 bQ=>?_)
  obtain⟨hr,I4⟩:=bQ;subst hr;exact wpAny_execs_nil ⟨σ3,H3,I4,qn⟩
 .refine uU hp (bf (T.item X rfl rfl rfl hc i pins s3 σ3 H3 X.xe I3 (lB zR) st3 go) λr s4 bQ=>?_)
  obtain⟨u,hr,h4⟩:=bQ;subst hr;refine uU hp (bf h4 λ_ s5 bQ=>?_);obtain⟨x,H5,I5,r5,y5,mX,qZ⟩:=bQ;have Gp:=I5.pinned (lB qZ) (T.obj _ _ mX);refine uU hp (bf (hg _ s5 σ3 H5 x u _ Gp r5 (step x H5 y5)) λ_ s6 bQ=>?_);obtain⟨jV,H6,I6,q6⟩:=bQ;refine uU hp (bf (hb _ s6 jV H6 _ I6 q6) λf s7 q7=>?_);have again:∀{k7:St}{H7:Hp},Inv X (pins++vz fp s5.heap) k7 H7 s7->N k7 H7->∃m,m<n/\∃i σ' H',Inv X pins σ' H' s7/\tn i s7.heap/\(∀b∈fp,H' b=aC)/\W i m σ' H':=λ{k7 H7} I7 n7=>by
   obtain⟨m',hm,w7⟩:=hN k7 H7 n7;refine⟨m',hm,i+1,k7,H7,I7.dO,T.keep _ _ _ mX λb hb o e=>(I7.pin (b,o) (jG _ (jG _ (tT hb e)))).1,λb hb=>?_,w7⟩;obtain⟨o,e,d⟩:=T.obj _ _ mX b hb;exact(I7.pin (b,o) (jG _ (jG _ (tT hb e)))).2.1
  cases f with|next=>obtain⟨k7,H7,I7,n7⟩:=q7;exact again I7 n7|cont=>obtain⟨k7,H7,I7,n7⟩:=q7;exact again I7 n7|brk=>obtain⟨k7,H7,I7,q7⟩:=q7;exact⟨k7,H7,I7.dO,q7⟩|ret v=>obtain⟨x7,k7,H7,I7,r7,q7⟩:=q7;exact⟨x7,k7,H7,I7.dO,r7,q7⟩
end
noncomputable abbrev R2:=V->V->Hp->VK->Prop
noncomputable def dG(X:Cx)(f:aa->aa->Sem aa)(r:R2):Prop:=
 ∀(pins:List (ah×Obj))(s:af)(σ:St)(H:Hp)(x y:V)(v u:aa)(Q:VK),Inv X pins σ H s->RelV x v->RelV y u->r x y H Q->
  wpAny (model X.prog X.w) X.A (f v u) (EP X pins σ Q) X.xe s
noncomputable def Gq(X:Cx)(f:aa->Sem aa)(r:V->Hp->VK->Prop):Prop:=
 ∀(pins:List (ah×Obj))(s:af)(σ:St)(H:Hp)(x:V)(v:aa)(Q:VK),Inv X pins σ H s->RelV x v->r x H Q->
  wpAny (model X.prog X.w) X.A (f v) (EP X pins σ Q) X.xe s
noncomputable def b9(X:Cx)(f:aa)(r:List V->Hp->VK->Prop):Prop:=
 ∀(pins:List (ah×Obj))(s:af)(σ:St)(H:Hp)(xs:List V)(us:List aa)(Q:VK),Inv X pins σ H s->Vals xs us->r xs H Q->
  wpAny (model X.prog X.w) X.A (call f us) (EP X pins σ Q) X.xe s
noncomputable def Gs(X:Cx)(r:V->Hp->(Bool->Hp->Prop)->Prop):Prop:=
 ∀(pins:List (ah×Obj))(s:af)(σ:St)(H:Hp)(x:V)(v:aa)(Q:Bool->Hp->Prop),Inv X pins σ H s->RelV x v->r x H Q->
  wpAny (model X.prog X.w) X.A (truthy v) (TP X pins σ Q) X.xe s
noncomputable def DM(r:R2)(ta tb:TE):TE:=λσ H Q=>ta σ H λx H1=>tb σ H1 λy H2=>r x y H2 Q
noncomputable def Sh(r:V->Hp->VK->Prop)(ta:TE):TE:=λσ H Q=>ta σ H λx H1=>r x H1 Q
noncomputable def rI(C:Int->Int->Prop)(g:Int->Int->V):R2:=λx y H Q=>∃i j,x=.int i/\y=.int j/\C i j/\Q (g i j) H
noncomputable def mY(g:Int->Int->V):R2:=λx y H Q=>∃i j,x=.int i/\y=.int j/\Q (g i j) H
noncomputable def rU(g:Int->V):V->Hp->VK->Prop:=λx H Q=>∃i,x=.int i/\Q (g i) H
section
variable{X:Cx}{a b c:ao}{ta tb tc:TE}{pos:Pos}
theorem vA(ha:PE X a ta)(hb:PE X b tb){pins:List (ah×Obj)}{s:af}{σ:St}{H:Hp}{R:V->V->Hp->Prop}(I:Inv X pins σ H s)
 (h:ta σ H λx H1=>tb σ H1 λy H2=>R x y H2) {Q:aa->af->Prop} {f:aa->aa->Sem aa}
 (hf:∀v u s2 x y H2,Inv X pins σ H2 s2->RelV x v->RelV y u->R x y H2->wpAny (model X.prog X.w) X.A (f v u) Q X.xe s2) :
 wpAny (model X.prog X.w) X.A (eval a X.env) (λv s₁=>wpAny (model X.prog X.w) X.A (eval b X.env) (λu s₂=>wpAny (model X.prog X.w) X.A (f v u) Q X.xe s₂) X.xe s₁) X.xe s:=by
 refine bf (ha pins s σ H _ I h) λv s1 z9=>z9.el λx H1 I1 r1 q1=>?_;refine bf (hb pins s1 σ H1 _ I1 q1) λu s2 z9=>z9.el λy H2 I2 r2 q2=>?_;exact hf v u s2 x y H2 I2 r1 r2 q2
theorem zS{op:Operator}{r:R2}(ho:dG X (binaryOp op) r)(ha:PE X a ta)(hb:PE X b tb):PE X (.BinOp a op b pos) (DM r ta tb):=by intro pins s σ H Q I h;exact wpAny_BinOp (vA ha hb I h λv u s2 x y H2 I2 rx ry q=>ho pins s2 σ H2 x y v u Q I2 rx ry q)
theorem zT{op:UnaryOp}{r:V->Hp->VK->Prop}(ho:Gq X (unaryOp op) r)(ha:PE X a ta):PE X (.UnaryOp op a pos) (Sh r ta):=by intro pins s σ H Q I h;exact UnaryOp_ (bf (ha pins s σ H _ I h) λv s1 z9=>z9.el λx H1 I1 r1 q1=>ho pins s1 σ H1 x v Q I1 r1 q1)
theorem gE{f:aa->aa->Sem aa}{C:Int->Int->Prop}{g:Int->Int->Int}
 (rule:∀(i j:Int)(t u:Tok)(s:af)(Q:aa->af->Prop)(E:aa->af->Prop),C i j->Q (.int (g i j) s.toks) {s with toks:=s.toks+1}->wpAny (model X.prog X.w) X.A (f (.int i t) (.int j u)) Q E s) :
 dG X f (rI C λi j=>.int (g i j)):=by
 intro pins s σ H x y v u Q I rx ry h;obtain⟨i,j,rfl,rfl,hc,q⟩:=h;obtain⟨t,rfl⟩:=rx;obtain⟨t',rfl⟩:=ry;exact rule i j t t' s _ _ hc ⟨.int (g i j),H,I.tok _,⟨_,rfl⟩,q⟩
theorem zU{f:aa->aa->Sem aa}{g:Int->Int->Int}
 (rule:∀(i j:Int)(t u:Tok)(s:af)(Q:aa->af->Prop)(E:aa->af->Prop),Q (.int (g i j) s.toks) {s with toks:=s.toks+1}->wpAny (model X.prog X.w) X.A (f (.int i t) (.int j u)) Q E s) :
 dG X f (mY λi j=>.int (g i j)):=by
 intro pins s σ H x y v u Q I rx ry h;obtain⟨i,j,rfl,rfl,q⟩:=h;obtain⟨t,rfl⟩:=rx;obtain⟨t',rfl⟩:=ry;exact rule i j t t' s _ _ ⟨.int (g i j),H,I.tok _,⟨_,rfl⟩,q⟩
theorem rj{f:aa->aa->Sem aa}{g:Int->Int->Bool}
 (rule:∀(i j:Int)(t u:Tok)(s:af)(Q:aa->af->Prop)(E:aa->af->Prop),Q (.bool (g i j)) s->wpAny (model X.prog X.w) X.A (f (.int i t) (.int j u)) Q E s) :
 dG X f (mY λi j=>.bl (g i j)):=by
 intro pins s σ H x y v u Q I rx ry h;obtain⟨i,j,rfl,rfl,q⟩:=h;obtain⟨t,rfl⟩:=rx;obtain⟨t',rfl⟩:=ry;exact rule i j t t' s _ _ ⟨.bl (g i j),H,I,rfl,q⟩
noncomputable def rm(i j:Int):Prop:=0<j/\j<1073741824
noncomputable def vB(i j:Int):Prop:=0<=j/\j<=1000000/\i.natAbs<2 ^ 64
noncomputable def mZ(i j:Int):Prop:=(-(2 ^ 64)<i/\i<2 ^ 64)\/(-(2 ^ 64)<j/\j<2 ^ 64)
theorem mZ.ok{i j:Int}(h:mZ i j):IntMulOk i j:=by rcases h with⟨h1,h2⟩|⟨h1,h2⟩;exact .of_left (intBits_le_64 h1 h2);exact .of_right (intBits_le_64 h1 h2)
theorem Si:dG X (binaryOp .Add) (mY λi j=>.int (i+j)):=zU λ_ _ _ _ _ _ _ q=>add_int q
theorem Sj:dG X (binaryOp .Sub) (mY λi j=>.int (i-j)):=zU λ_ _ _ _ _ _ _ q=>sub_int q
theorem Sk:dG X (binaryOp .Mult) (rI mZ λi j=>.int (i*j)):=gE λ_ _ _ _ _ _ _ hc q=>mul_int q hc.ok
theorem Sl:dG X (binaryOp .FloorDiv) (rI rm λi j=>.int (i/j)):=gE λi j _ _ _ _ _ hc q=>by
 have h1:(0:Int)<j:=hc.1;have h2:j<1073741824:=hc.2;exact floordiv_int (by lia) (by rw[Int.fdiv_eq_ediv_of_nonneg i (by lia)];exact q) (.inl (PyProof.noPylong_small (by lia)))
theorem Sm:dG X (binaryOp .Mod) (rI (λ_ j=>0<j) λi j=>.int (i % j)):=gE λi j _ _ _ _ _ hc q=>by
 have h1:(0:Int)<j:=hc;exact mod_int' (by lia) (by rw[Int.fmod_eq_emod_of_nonneg i (by lia)];exact q)
theorem Sn:dG X (binaryOp .Pow) (rI vB λi j=>.int (i ^ j.toNat)):=gE λ_ _ _ _ _ _ _ hc q=>pow_int_small hc.1 hc.2.1 hc.2.2 q
theorem So:dG X (inplaceOp .Mult) (rI mZ λi j=>.int (i*j)):=gE λ_ _ _ _ _ _ _ hc q=>imul_int q hc.ok
theorem Sq:dG X (inplaceOp .FloorDiv) (rI rm λi j=>.int (i/j)):=gE λi j _ _ _ _ _ hc q=>by
 have h1:(0:Int)<j:=hc.1;have h2:j<1073741824:=hc.2;exact ifloordiv_int (by lia) (by rw[Int.fdiv_eq_ediv_of_nonneg i (by lia)];exact q) (.inl (PyProof.noPylong_small (by lia)))
theorem Ss{f:aa->Sem aa}{g:Int->Int}
 (rule:∀(i:Int)(t:Tok)(s:af)(Q:aa->af->Prop)(E:aa->af->Prop),Q (.int (g i) s.toks) {s with toks:=s.toks+1}->wpAny (model X.prog X.w) X.A (f (.int i t)) Q E s) :
 Gq X f (rU λi=>.int (g i)):=by
 intro pins s σ H x v Q I rx h;obtain⟨i,rfl,q⟩:=h;obtain⟨t,rfl⟩:=rx;exact rule i t s _ _ ⟨.int (g i),H,I.tok _,⟨_,rfl⟩,q⟩
theorem Su:Gq X (unaryOp .USub) (rU λi=>.int (-i)):=Ss λ_ _ _ _ _ q=>neg_int q
end
section
variable{X:Cx}{a b c:ao}{ta tb tc:TE}{pos:Pos}
theorem DN{pins:List (ah×Obj)}{σ:St}{H:Hp}{s:af}{Q:VK}{k k':Bool}(I:Inv X pins σ H s)(q:Q (.bl k) H)(e:k=k'):EP X pins σ Q (.bool k') s:=by subst e;exact⟨.bl k,H,I,rfl,q⟩
theorem zV:dG X (compareOp .Lt) (mY λi j=>.bl (decide (i<j))):=rj λ_ _ _ _ _ _ _ q=>lt_int q
theorem zW:dG X (compareOp .LtE) (mY λi j=>.bl (decide (i<=j))):=rj λ_ _ _ _ _ _ _ q=>le_int q
theorem zX:dG X (compareOp .Gt) (mY λi j=>.bl (decide (j<i))):=rj λ_ _ _ _ _ _ _ q=>gt_int q
theorem zY:dG X (compareOp .GtE) (mY λi j=>.bl (decide (j<=i))):=rj λ_ _ _ _ _ _ _ q=>ge_int q
theorem Sv:dG X (compareOp .Is) (λx y H Q=>y=.aP/\Q (.bl (decide (x=.aP))) H):=by
 intro pins s σ H x y v u Q I rx ry h;obtain⟨rfl,q⟩:=h;cases ry;refine is_none_gen (DN I q ?_);cases x<;>first
  |(cases rx;rfl)
  |(obtain⟨t,rfl⟩:=rx;rfl)
theorem Sw:dG X (compareOp .IsNot) (λx y H Q=>y=.aP/\Q (.bl (!decide (x=.aP))) H):=by
 intro pins s σ H x y v u Q I rx ry h;obtain⟨rfl,q⟩:=h;cases ry;refine isnot_none_gen (DN I q ?_);cases x<;>first
  |(cases rx;rfl)
  |(obtain⟨t,rfl⟩:=rx;rfl)
theorem dG.or{f:aa->aa->Sem aa}{r r':R2}(h:dG X f r)(h':dG X f r'):dG X f (λx y H Q=>r x y H Q\/r' x y H Q):=by
 intro pins s σ H x y v u Q I rx ry q;rcases q with q|q
 exact h pins s σ H x y v u Q I rx ry q;exact h' pins s σ H x y v u Q I rx ry q
theorem Sx{op:CmpOp}{r:R2}(ho:dG X (compareOp op) r)(ha:PE X a ta)(hb:PE X b tb)(hm:behindInMarks op b=false):PE X (.Compare a [op] [b] pos) (DM r ta tb):=by intro pins s σ H Q I h;exact wpAny_Compare1 (vA ha hb I h λv u s2 x y H2 I2 rx ry q=>ho pins s2 σ H2 x y v u Q I2 rx ry q) hm
noncomputable def tU(t:TE):TT:=λσ H Q=>t σ H λx H'=>∃k,x=.bl k/\Q k H'
theorem Sy{op:CmpOp}{r:R2}(ho:dG X (compareOp op) r)(ha:PE X a ta)(hb:PE X b tb)(hm:behindInMarks op b=false):PT X (.Compare a [op] [b] pos) (tU (DM r ta tb)):=by
 intro pins s σ H Q I h;refine wpAny_isTrue_Compare1 (bf (ha pins s σ H _ I h) λv s1 z9=>z9.el λx H1 I1 r1 q1=>bf (hb pins s1 σ H1 _ I1 q1) λu s2 z9=>z9.el λy H2 I2 r2 q2=>
  bf (ho pins s2 σ H2 x y v u _ I2 r1 r2 q2) λc s3 z9=>z9.el λz H3 I3 r3 ⟨k,e,q3⟩=>?_) hm
 subst e;cases r3;exact qA ⟨H3,I3,q3⟩
noncomputable def Gu(r r':R2)(ta tb tc:TE):TE:=λσ H Q=>ta σ H λx H1=>tb σ H1 λy H2=>r x y H2 λz H3=>∃k,z=.bl k/\
 (if k=true then tc σ H3 λw' H4=>r' y w' H4 Q else Q (.bl false) H3)
theorem Sz{op op':CmpOp}{r r':R2}(ho:dG X (compareOp op) r)(ho':dG X (compareOp op') r')(ha:PE X a ta)(hb:PE X b tb)(hc:PE X c tc)
 (hm:lastMarks [op,op'] [b,c]=false:=by with_unfolding_all rfl):PE X (.Compare a [op,op'] [b,c] pos) (Gu r r' ta tb tc):=by
 intro pins s σ H Q I h;refine Compare_chain (bf (ha pins s σ H _ I h) λv s1 z9=>z9.el λx H1 I1 r1 q1=>chain_link (bf (hb pins s1 σ H1 _ I1 q1) λu s2 z9=>z9.el λy H2 I2 r2 q2=>
  bf (ho pins s2 σ H2 x y v u _ I2 r1 r2 q2) λd s3 z9=>z9.el λz H3 I3 r3 ⟨k,e,q3⟩=>?_)) hm
 subst e;cases r3;refine qA ?_;cases k with|false=>exact ite_ff ⟨.bl false,H3,I3,rfl,q3⟩|true=>exact ite_tt (chain_last (bf (hc pins s3 σ H3 _ I3 q3) λw' s4 z9=>z9.el λz' H4 I4 r4 q4=>ho' pins s4 σ H4 y z' u w' Q I4 r2 r4 q4))
theorem SD{op op':CmpOp}{r r':R2}(ho:dG X (compareOp op) r)(ho':dG X (compareOp op') r')(ha:PE X a ta)(hb:PE X b tb)(hc:PE X c tc)
 (hm:lastMarks [op,op'] [b,c]=false:=by with_unfolding_all rfl):PT X (.Compare a [op,op'] [b,c] pos) (tU (Gu r r' ta tb tc)):=by
 intro pins s σ H Q I h;refine isTrue_chain (bf (ha pins s σ H _ I h) λv s1 z9=>z9.el λx H1 I1 r1 q1=>test_link (bf (hb pins s1 σ H1 _ I1 q1) λu s2 z9=>z9.el λy H2 I2 r2 q2=>
  bf (ho pins s2 σ H2 x y v u _ I2 r1 r2 q2) λd s3 z9=>z9.el λz H3 I3 r3 ⟨k,e,q3⟩=>?_)) hm
 subst e;cases r3;refine qA ?_;cases k with
 |false=>
  obtain⟨k',e',q'⟩:=q3;cases e';exact ite_ff ⟨H3,I3,q'⟩
 |true=>
  refine ite_tt (test_last (bf (hc pins s3 σ H3 _ I3 q3) λw' s4 z9=>z9.el λz' H4 I4 r4 q4=>bf (ho' pins s4 σ H4 y z' u w' _ I4 r2 r4 q4) λd' s5 z9=>z9.el λz2 H5 I5 r5 bQ=>?_));obtain⟨k2,e2,q5⟩:=bQ;subst e2;cases r5;exact qA ⟨H5,I5,q5⟩
noncomputable def vC(K:aH)(x:V)(H:Hp)(k:Bool):Prop:=
 match x with|.aP=>k=false|.bl b=>k=b|.int i=>k=(i != 0)|.str y=>y.length<=sizeLine/\k=((y.length:Int) != 0)|.zp y=>y.size<=sizeLine/\k=((y.size:Int) != 0)|.ref p=>(∃xs,cR K H p xs/\k=!xs.isEmpty)\/(∃xs,cj K H p xs/\k=!xs.isEmpty)\/∃kvs,H p=aB (.dK kvs)/\k=!kvs.isEmpty|_=>False
theorem SG{κ:Type}{kvs:List (κ×V)}{vs:List (κ×aa)}(r:KV kvs vs):(!vs.isEmpty)=!kvs.isEmpty:=by cases r<;>rfl
theorem MC{xs:List V}{its:List aa}(r:Vals xs its):(!its.toArray.isEmpty)=!xs.isEmpty:=by cases r<;>simp
theorem zZ:(sizeLine:Nat)<2 ^ 63:=by rw[uV];decide
theorem SH:Gs X (λx H Q=>∃k,vC X.K x H k/\Q k H):=by
 intro pins s σ H x v Q I rx h;obtain⟨k,e,q⟩:=h;have hl:=zZ;have hs:sizeLine=16777216:=uV;cases x with
 |aP=>
  cases rx;have e':k=false:=e;subst e';exact truthy_none ⟨H,I,q⟩
 |bl b=>
  cases rx;have e':k=b:=e;subst e';exact qA ⟨H,I,q⟩
 |int i=>
  obtain⟨t,rfl⟩:=rx;have e':k=(i != 0):=e;subst e';exact PySem.P.truthy_int ⟨H,I,q⟩
 |str y=>
  obtain⟨t,rfl⟩:=rx;obtain⟨hy,e'⟩:y.length<=sizeLine/\k=((y.length:Int) != 0):=e;subst e';exact PySem.P.truthy_str (by lia) ⟨H,I.tok _,q⟩
 |zp y=>
  obtain⟨t,rfl⟩:=rx;obtain⟨hy,e'⟩:y.size<=sizeLine/\k=((y.size:Int) != 0):=e;subst e';exact PySem.W.truthy_bytes (by lia) ⟨H,I.tok _,q⟩
 |ref p=>
  cases rx;have e':(∃xs,cR X.K H p xs/\k=!xs.isEmpty)\/(∃xs,cj X.K H p xs/\k=!xs.isEmpty)\/∃kvs,H p=aB (.dK kvs)/\k=!kvs.isEmpty:=e;rcases e' with⟨xs,hx,e'⟩|⟨xs,hx,e'⟩|⟨kvs,hx,e'⟩
  subst e';obtain⟨its,r,pl,hz⟩:=I.list hx;have hlen:=r.length;exact wpAny_truthy_list pl.isList (by simp only[dR];lia) ⟨H,I.tok _,by rw[MC r];exact q⟩;subst e';obtain⟨its,r,pl,hz⟩:=I.tuple hx;have hlen:=r.length;exact truthy_tuple pl (by simp only[dR];lia) ⟨H,I.tok _,by rw[MC r];exact q⟩;subst e';obtain⟨hz,hS,vs,r,m⟩:kvs.length<=sizeLine/\(p==sysModules)=false/\∃vs,KV kvs vs/\s.heap.DictOf (iM X.prog X.w) p vs:=I.hok p _ hx;have hlen:kvs.length=vs.length:=yd r;exact wpAny_truthy_dict hS m (by lia) ⟨H,I.tok _,by rw[SG r];exact q⟩
 |_=>exact(show False from e).elim
theorem SI(ha:PE X a ta)(he:∀whole,isTrue a X.env whole=(do let v <-whole;standAt a.pos;holding [v] (truthy v))) :
 PT X a (λσ H Q=>ta σ H λx H'=>∃k,vC X.K x H' k/\Q k H'):=by
 intro pins s σ H Q I h;exact isTrue_plain (bf (ha pins s σ H _ I h) λv s1 z9=>z9.el λx H1 I1 r1 q1=>SH pins s1 σ H1 x v Q I1 r1 q1) (he _)
theorem vals1{x:V}{us:List aa}(r:Vals [x] us):∃u,us=[u]/\RelV x u:=by
 cases r with|cons r1 r2=>cases r2;exact⟨_,rfl,r1⟩
theorem vals2{x y:V}{us:List aa}(r:Vals [x,y] us):∃u w',us=[u,w']/\RelV x u/\RelV y w':=by
 cases r with
 |cons r1 r2=>
  cases r2 with|cons r3 r4=>cases r4;exact⟨_,_,rfl,r1,r3⟩
theorem SJ:b9 X (.builtin "abs") (λxs H Q=>∃i,xs=[.int i]/\Q (.int (if i<0 then -i else i)) H):=by intro pins s σ H xs us Q I r h;obtain⟨i,rfl,q⟩:=h;obtain⟨u,rfl,t,rfl⟩:=vals1 r;exact call_abs_int λu tk=>⟨.int (if i<0 then -i else i),H,I.tok _,⟨_,rfl⟩,q⟩
theorem SK(hc:X.calm):b9 X (.builtin "max") (λxs H Q=>∃i j,xs=[.int i,.int j]/\Q (.int (if j>i then j else i)) H):=by
 intro pins s σ H xs us Q I r h;obtain⟨i,j,rfl,q⟩:=h;obtain⟨u,w',rfl,⟨t,rfl⟩,⟨t',rfl⟩⟩:=vals2 r;refine max_two_ints (I.ok.hd hc) λh' tk k=>⟨_,H,I.kept k,?_,q⟩
 by_cases hj:j>i;rw[if_pos hj,if_pos hj];exact⟨_,rfl⟩;rw[if_neg hj,if_neg hj];exact⟨_,rfl⟩
theorem SM(hc:X.calm):b9 X (.builtin "min") (λxs H Q=>∃i j,xs=[.int i,.int j]/\Q (.int (if j<i then j else i)) H):=by
 intro pins s σ H xs us Q I r h;obtain⟨i,j,rfl,q⟩:=h;obtain⟨u,w',rfl,⟨t,rfl⟩,⟨t',rfl⟩⟩:=vals2 r;refine min_two_ints (I.ok.hd hc) λh' tk k=>⟨_,H,I.kept k,?_,q⟩
 by_cases hj:j<i;rw[if_pos hj,if_pos hj];exact⟨_,rfl⟩;rw[if_neg hj,if_neg hj];exact⟨_,rfl⟩
theorem SN:b9 X (.type "int") (λxs H Q=>(∃i,xs=[.int i]/\Q (.int i) H)\/∃k,xs=[.bl k]/\Q (.int (if k then 1 else 0)) H):=by
 intro pins s σ H xs us Q I r h;rcases h with⟨i,rfl,q⟩|⟨k,rfl,q⟩
 obtain⟨u,rfl,t,rfl⟩:=vals1 r;exact call_int_int ⟨.int i,H,I,⟨_,rfl⟩,q⟩;obtain⟨u,rfl,r1⟩:=vals1 r;cases r1;exact call_int_bool ⟨.int (if k then 1 else 0),H,I.tok _,⟨_,rfl⟩,q⟩
end
structure vD(h:az)(x dx C:ah)(mA:Str->Option aa):Prop where
 obj:h.get? x=aB (PySem.W.instObj C dx)
 ns:h.Ns1 dx mA
 ne:dx≠x
theorem SO{h:az}{dx:ah}{mA:Str->Option aa}(n:h.Ns1 dx mA):∃od,h.get? dx=aB od/\∀name,PySem.W.lookIn name od=aB (mA name):=by
 obtain⟨o,es,ep,ho,hd,hk,_,hm⟩:=n;refine⟨o,ho,λname=>?_⟩;have e:=hm name;unfold nsFind findBy at e;rw[<-Array.find?_toList]at e;unfold PySem.W.lookIn;rw[hd];dsimp only;split;rename_i y q;rw[q]at e;exact nR aB e;rename_i q;rw[q]at e;have a:es.toList.any (·.refKey)=false:=by rw[List.any_eq_false];intro y hy;obtain⟨z,t,hkey⟩:=hk y (Array.mem_toList_iff.mp hy);simp[DictEntry.refKey,hkey]
 have a':¬es.toList.any (·.refKey)=true:=by rw[a];exact u9
 rw[if_neg a'];exact nR aB e
theorem vD.look{h:az}{x dx C:ah}{mA:Str->Option aa}(I:vD h x dx C mA):∃od,PySem.W.InstAt h x (PySem.W.instObj C dx) C (aB od)/\∀name,PySem.W.lookIn name od=aB (mA name):=
 let⟨od,ho,hl⟩:=SO I.ns
 ⟨od,⟨I.obj,rfl,rfl,ho⟩,hl⟩
theorem gK.some_of{v:V}{o:Option aa}(r:gK (aB v) o):∃u,o=aB u/\RelV v u:=by
 cases o with|none=>exact(show False from r).elim|some u=>exact⟨u,rfl,r⟩
section
variable{P:ai}{w:aj}{H H':Hp}{h h':az}{a C dx:ah}{fs fs':List (Str×V)}
theorem SQ(hok:fq P w H h)(e:H a=aB (.ins C dx fs)):∃mA,vD h a dx C mA/\(∀f,gK (fs.lookup f) (mA f))/\PySem.Within mA (fs.map (·.1))/\fs.length<=1000/\H dx=aB (.own a):=by
 obtain⟨d,z,ne,ob,mA,n,r,q⟩:=(show br P w H h a (.ins C dx fs)from hok a _ e)
 exact⟨mA,⟨ob,n,ne⟩,r,q,z,d⟩
end
structure Gv(K:aH)(C:ah):Prop where
 pg:PySem.W.plainGet K C Str.empty=true
 hd:PySem.W.hasDictIn K C=true
 po:PySem.W.plainOver K C=true
 sa:PySem.W.findIn K (.ref C) "__setattr__" = aB (aB (.builtin "object.__setattr__"))
theorem Gv.get{K:aH}{C:ah}(c:Gv K C)(f:Str):PySem.W.plainGet K C f=true:=c.pg
section
variable{X:Cx}{pins:List (ah×Obj)}{σ:St}{H:Hp}{s:af}{A:ak}{E:aa->af->Prop}{Q:aa->af->Prop}{c:aa}{b:Bool}
inductive gp(K:aH)(H:Hp):V->aa->Prop where
 |aP:gp K H .aP (.type "NoneType")
 |bl (x:Bool):gp K H (.bl x) (.type "bool")
 |int (i:Int):gp K H (.int i) (.type "int")
 |str (x:Str):gp K H (.str x) (.type "str")
 |ye (x:UInt64):gp K H (.ye x) (.type "float")
 |lst {a:ah} {xs:List V} (e:H a=aB (.lst xs)):gp K H (.ref a) (.type "list")
 |bC {a:ah} {o:Obj} {xs:List V} (e:H a=aB (.bC o (.lst xs))):gp K H (.ref a) (.type "list")
 |tup {a:ah} {xs:List V} (e:H a=aB (.tup xs)):gp K H (.ref a) (.type "tuple")
 |dK {a:ah} {kvs:List (Key×V)} (e:H a=aB (.dK kvs)):gp K H (.ref a) (.type "dict")
 |dT {a:ah} {kvs:List (List Key×V)} (e:H a=aB (.dT kvs)):gp K H (.ref a) (.type "dict")
 |ins {a C dx:ah} {fs:List (Str×V)} (e:H a=aB (.ins C dx fs)) (cl:Gv K C) (ha:PySem.W.findIn K (.ref C) "__class__" = aB (aB (.builtin "object.__class__")))
   (hn:PySem.W.specialIn K (.builtin "object.__class__") "__get__" = aB (aB (.builtin "getset_descriptor.__get__"))) (htk:PySem.W.takesIn K (.builtin "object.__class__")=aB true)
   (hm:PySem.W.mroIn K C (.type "object")=aB true):gp K H (.ref a) (.ref C)
theorem SR{x:V}{u t:aa}(I:Inv X pins σ H s)(rx:RelV x u)(ty:gp X.K H x t)(e:PySem.W.kitOne X.K t c=aB b)(h:∀tk,Q (.bool b) {s with toks:=tk}) :
 wpAny (model X.prog X.w) A (call (.builtin "isinstance") [u,c]) Q E s:=by
 cases ty with
 |aP=>cases(show u=Value.none from rx);exact mT PySem.W.kitx_none I.jr True.intro e (λz=>nomatch z) h
 |bl y=>cases(show u=Value.bool y from rx);exact mT PySem.W.kitx_bool I.jr True.intro e (λz=>nomatch z) h
 |int i=>obtain⟨t,q⟩:=(show ∃t,u=Value.int i t from rx);cases q;exact mT PySem.W.kitx_int I.jr True.intro e (λz=>nomatch z) h
 |str y=>obtain⟨t,q⟩:=(show ∃t,u=Value.str y t from rx);cases q;exact mT PySem.W.kitx_str I.jr True.intro e (λz=>nomatch z) h
 |ye y=>obtain⟨t,q⟩:=(show ∃t,u=Value.float y t from rx);cases q;exact mT PySem.W.kitx_float I.jr True.intro e (λz=>nomatch z) h
 | @lst a xs ea=>
  cases(show u=Value.ref a from rx);obtain⟨_,_,n,_,h1⟩:=(show br X.prog X.w H s.heap a (.lst xs)from I.hok a _ ea)
  exact mT PySem.W.kitx_list I.jr ⟨_,h1,rfl⟩ e (λz=>nomatch z) h
 | @bC a ob xs ea=>
  cases(show u=Value.ref a from rx);obtain⟨_,_,_,n,_,h1⟩:=(show br X.prog X.w H s.heap a (.bC ob (.lst xs))from I.hok a _ ea)
  exact mT PySem.W.kitx_list I.jr ⟨_,h1,rfl⟩ e (λz=>nomatch z) h
 | @tup a xs ea=>
  cases(show u=Value.ref a from rx);obtain⟨_,_,_,p⟩:=(show br X.prog X.w H s.heap a (.tup xs)from I.hok a _ ea)
  obtain⟨o,h1,h2,_⟩:=p;exact mT PySem.W.kitx_tuple I.jr ⟨o,h1,h2⟩ e (λz=>nomatch z) h
 | @dK a kvs ea=>
  cases(show u=Value.ref a from rx);obtain⟨_,_,vs,_,p⟩:=(show br X.prog X.w H s.heap a (.dK kvs)from I.hok a _ ea)
  obtain⟨o,es,ep,h1,h2,_⟩:=p;exact mT PySem.W.kitx_dict I.jr ⟨o,h1,h2.1⟩ e (λz=>nomatch z) h
 | @dT a kvs ea=>
  cases(show u=Value.ref a from rx);obtain⟨_,_,xs,_,o,es,ep,h1,h2,_⟩:=(show br X.prog X.w H s.heap a (.dT kvs)from I.hok a _ ea)
  exact mT PySem.W.kitx_dict I.jr ⟨o,h1,h2.1⟩ e (λz=>nomatch z) h
 | @ins a C dx fs ea cl ha hn htk hm=>
  cases(show u=Value.ref a from rx);obtain⟨mA,O,_⟩:=SQ I.hok ea;obtain⟨od,J,_⟩:=O.look;exact mT (PySem.W.kitx_own (cl.get _) cl.hd ha hn htk hm) I.jr J e (λz=>nomatch z) h
end
structure dw(k:Nat)(A:ak):Prop where
 hd:A.handled=aC
 dp:A.depth+3*k+5<recursionLimit
 un:A.units+16*k+200<cLine
theorem dw.deeper{k:Nat}{A:ak}(r:dw (k+1) A)(env:Env):dw k (A.deeper env):=
 ⟨r.hd,by have:=r.dp;show A.depth+1+3*k+5<_;lia,by have:=r.un;show A.units+3+16*k+200<_;lia⟩
theorem dw.depth{k:Nat}{A:ak}(r:dw k A):A.depth<recursionLimit:=by have:=r.dp;lia
theorem dw.units{k:Nat}{A:ak}(r:dw k A):A.units+64<cLine:=by have:=r.un;lia
noncomputable def z0:TA:=λ_ H Q=>Q [] H
noncomputable def Aa(ta:TE)(tr:TA):TA:=λσ H Q=>ta σ H λx H1=>tr σ H1 λxs H2=>Q (x::xs) H2
section
variable{X:Cx}{e:ao}{es:List ao}{te:TE}{t:TA}{pos:Pos}
theorem Ab:PA X [] z0:=λ_ _ _ _ H Q I h=>DC ⟨[],H,I,.nil,h⟩
theorem yo(ha:PE X e te)(hr:PA X es t)(hs:autoParam (starEach (e::es) X.env=(false,eval e X.env)::starEach es X.env) L2.aR1._auto_1):PA X (e::es) (Aa te t):=by intro pos pins s σ H Q I h;rw[hs];show wpAny _ _ (spliced ((false,eval e X.env)::backTo pos (starEach es X.env))) _ _ s;refine zo (bf (ha pins s σ H _ I h) λu s1 z9=>z9.el λx H1 I1 r1 q1=>?_);exact bf (hr pos pins s1 σ H1 _ I1 q1) λus s2 z9=>z9.el λxs H2 I2 r2 q2=>⟨x::xs,H2,I2,.cons r1 r2,q2⟩
noncomputable def Gw(t:TA):TE:=λσ H Q=>t σ H λxs H1=>xs.length<=sizeLine/\∀p,H1 p=aC->Q (.ref p) (upd H1 p (.tup xs))
noncomputable def Gx(t:TA):TE:=λσ H Q=>t σ H λxs H1=>xs.length<=sizeLine/\∀p,H1 p=aC->Q (.ref p) (upd H1 p (.lst xs))
theorem SV{x1}(h:PA X es t):PE X (.Tuple es x1 pos) (Gw t):=by intro pins s σ H Q I hq;refine wpAny_Tuple_spliced (bf (h pos pins s σ H _ I hq) λus s1 z9=>z9.el λxs H1 I1 r ⟨z,q⟩=>⟨by rw[<-r.length];exact z,?_⟩);have hf:H1 s1.heap.objs.size=aC:=I1.hok.fresh (aZ _);refine⟨.ref s1.heap.objs.size,upd H1 s1.heap.objs.size (.tup xs),I1.laid (t':=s1.toks) (λb u e=>cy _ e) (aZ _) ?_,rfl,q _ hf⟩;exact⟨z,us,r,lz.new _ _⟩
theorem SX(h:PA X es t):PE X (.List es pos) (Gx t):=by intro pins s σ H Q I hq;refine wpAny_List_spliced (bf (h pos pins s σ H _ I hq) λus s1 z9=>z9.el λxs H1 I1 r ⟨z,q⟩=>⟨by rw[<-r.length];exact z,?_⟩);have hf:H1 s1.heap.objs.size=aC:=I1.hok.fresh (aZ _);refine⟨.ref s1.heap.objs.size,upd H1 s1.heap.objs.size (.lst xs),I1.laid (t':=s1.toks) (λb u e=>cy _ e) (aZ _) ?_,rfl,q _ hf⟩;exact⟨z,us,0,r,iI _ rfl⟩
end
noncomputable abbrev Sp:=List V->Hp->VK->XK->Prop
noncomputable abbrev qe:=List Env->Hp->af->XK->aa->af->Prop
structure rq(P:ai)(w:aj)(K:aH)(mg:Str->Option aa)(base:az)(A:ak)(outer:List Env)(s:af)(H:Hp):Prop where
 frames:A.frames=aB outer
 mod:Mod K mg base
 bs:∀b o,base.get? b=aB o->s.heap.get? b=aB o/\H b=aC
 vp:base.objs.size<=s.heap.objs.size
 iO:s.heap.FunFrames base outer
 yj:∀b∈frs outer,H b=aC
 hok:fq P w H s.heap
 bare:AllBare s.gens
noncomputable def CE(outer:List Env)(P:ai)(w:aj)(H:Hp)(s:af)(Q:VK)(u:aa)(s':af):Prop:=
 ∃v H',s'.os=s.os/\AllBare s'.gens/\Un (frs outer) [] H H' s.heap s'.heap/\fq P w H' s'.heap/\RelV v u/\Q v H'
noncomputable def CR(CX:qe)(outer:List Env)(P:ai)(w:aj)(H:Hp)(s:af)(Q:VK)(E:XK)(r:Result)(s':af):Prop:=
 match r with|.ok (.ret u)=>CE outer P w H s Q u s'|.ok _=>False|.error e=>CX outer H s E e s'
structure fH(P:ai)(w:aj)(K:aH)(mg:Str->Option aa)(base:az)(CX:qe)(k:Nat)(f:ah)(fd:au)(ps:List Str)(sp:Sp):Prop where
 len:∀vs H Q E,sp vs H Q E->vs.length=ps.length
 run:∀(A:ak)(outer:List Env)(s:af)(H:Hp)(args:Args)(us:List aa)(vs:List V)(Q:VK)(E:XK),dw k A->rq P w K mg base A outer s H->BindsTo s fd args (ps.zip us)->Vals vs us->sp vs H Q E->
  codeAny (model P w) A (.call (.ref f) args) (CR CX outer P w H s Q E) s
section
variable{X:Cx}{pins:List (ah×Obj)}{σ:St}{H:Hp}{s s':af}
theorem Inv.Gy(I:Inv X pins σ H s):rq X.prog X.w X.K X.mg X.base X.A X.stack s H:=
 ⟨I.ok.frames,I.ok.mod,I.bs,gJ I.ok.vp I.sz,I.stack,I.lW,I.hok,I.bare⟩
theorem Inv.after{Q:VK}{u:aa}(I:Inv X pins σ H s)(h:CE X.stack X.prog X.w H s Q u s'):EP X pins σ Q u s':=by obtain⟨v,H',os,bare,un,hok,r,q⟩:=h;obtain⟨hh,g,d,t,os'⟩:=s';obtain rfl:os'=s.os:=os;exact⟨v,H',I.call (h':=hh) (g':=g) (d':=d) (t':=t) (ch:=[]) un hok bare (λb z=>absurd z (by simp)),r,q⟩
end
noncomputable def tV(sp:Sp)(oH:List V)(E:XK)(t:TA):TE:=λσ H Q=>t σ H λvs H1=>sp (vs++oH) H1 Q E
noncomputable def Binds(K:aH)(fd:au)(ps:List Str)(ds:List aa):Prop:=
 ∀(s:af)(us:List aa),K.In s.heap->(us++ds).length=ps.length->BindsTo s fd ⟨us,[]⟩ (ps.zip (us++ds))
theorem Binds.all{K:aH}{fd:au}{ps:List Str}(h:∀us:List aa,us.length=ps.length->bindArgs fd ⟨us,[]⟩=pure (ps.zip us)):Binds K fd ps []:=λs us _ hl=>by
 rw[oA]at hl ⊢;exact .of_eq (h us hl)
noncomputable def DO(CX:qe)(X:Cx)(E:XK):Prop:=∀(pins:List (ah×Obj)) (σ:St) (H:Hp) (s:af) (e:aa) (s':af),Inv X pins σ H s->CX X.stack H s E e s'->X.xe e s'
section
variable{X:Cx}{CX:qe}{k:Nat}{f C:ah}{fd:au}{ps:List Str}{sp:Sp}{oH:List V}{ds:List aa}{E:XK}{x m:Str}{p pos apos:Pos}{e o:ao}{es:List ao}{ta:TE}{t:TA}
theorem MD{pins:List (ah×Obj)}{σ:St}{H:Hp}{s:af}{Q:VK}{us:List aa}{vs:List V}(F:fH X.prog X.w X.K X.mg X.base CX k f fd ps sp)(hr:dw k X.A)(hb:Binds X.K fd ps ds)(hd:Vals oH ds)(hx:DO CX X E)
 (I:Inv X pins σ H s) (r:Vals vs us) (h:sp (vs++oH) H Q E):wpAny (model X.prog X.w) X.A (call (.ref f) us) (EP X pins σ Q) X.xe s:=by
 have r2:Vals (vs++oH) (us++ds):=r.append hd;have hl:(us++ds).length=ps.length:=by rw[<-r2.length];exact F.len _ _ _ _ h
 refine wpAny_call (yY (F.run X.A X.stack s H ⟨us,[]⟩ (us++ds) (vs++oH) Q E hr I.Gy (hb s us I.jr hl) r2 h) λr s' hq=>?_);cases r with
 |error e=>exact hx pins σ H s e s' I hq
 |ok fl=>
  cases fl with|ret u=>exact I.after hq|next=>exact False.elim hq|brk=>exact False.elim hq|cont=>exact False.elim hq
theorem ME(F:fH X.prog X.w X.K X.mg X.base CX k f fd ps sp)(hr:dw k X.A)(hg:Gl X x)(hm:X.mg x=aB (.ref f))(hk:PySem.W.keepIn X.K (.ref f))(hb:Binds X.K fd ps ds)(hd:Vals oH ds)(hx:DO CX X E)
 (ha:PA X (e::es) t) (hdb:autoParam ((x==("__debug__" : Str))=false) L2.aD1._auto_1) (he:autoParam (starEach (e::es) X.env=(false,eval e X.env)::starEach es X.env) L2.aR1._auto_1) (hpl:autoParam ((backTo pos (starEach es X.env)).any (·.1)=false) L2.aR1._auto_1) :
 PE X (.Call (.Name x p) (e::es) [] pos) (tV sp oH E t):=by
 intro pins s σ H Q I h;refine xH (F6 I hg hm ?_ hdb);refine PySem.W.callWith_K (h₀:=X.base) I.ok.mod.FZ hk (bf (ha pos pins s σ H _ I h) λus s1 z9=>z9.el λvs H1 I1 r q=>⟨I1.jr,?_⟩) he hpl;exact MD F hr hb hd hx I1 r q
theorem SY(F:fH X.prog X.w X.K X.mg X.base CX k f fd ps sp)(hr:dw k X.A)(hg:Gl X x)(hm:X.mg x=aB (.ref f))(hk:PySem.W.keepIn X.K (.ref f))(hb:Binds X.K fd ps ds)(hd:Vals oH ds)(hx:DO CX X E)
 (hdb:autoParam ((x==("__debug__" : Str))=false) L2.aD1._auto_1):PE X (.Call (.Name x p) [] [] pos) (tV sp oH E z0):=by
 intro pins s σ H Q I h;refine xH (F6 I hg hm ?_ hdb);exact PySem.W.callWith_K0 I.jr hk (MD (us:=[]) F hr hb hd hx I .nil h)
end
structure dB(N P:List Str)(sc:ay):Prop where
 kind:sc.kind=.function
 co:sc.isCoroutine=false
 gen:sc.isGenerator=false
 nd:N.Nodup
 pre:N.take P.length=P
 par:∀x∈P,sc.names.lookup x=aB .local\/sc.names.lookup x=aB .cell
 vE:∀y∈sc.names,y.2≠.free
theorem MF{kindOf:Str->Option NameKind}{x:Str}:∀{binds:List (Str×aa)} {m:Str->Option aa},(∀v,(x,v)∉binds)->bindL kindOf binds m x=m x
 |[],_,_=>rfl
 |(n,v)::r,m,h=>by
  unfold bindL;rw[MF λw hw=>h w (fE _ hw)];split;have:x≠n:=by rintro rfl;exact h v fT
  simp[this];rfl
theorem MG{kindOf:Str->Option NameKind}{x:Str}:∀{binds:List (Str×aa)} {m:Str->Option aa},(∀v,(x,v)∉binds)->bindC kindOf binds m x=m x
 |[],_,_=>rfl
 |(n,v)::r,m,h=>by
  unfold bindC;rw[MG λw hw=>h w (fE _ hw)];split;rfl;have:x≠n:=by rintro rfl;exact h v fT
  simp[this]
theorem MH{kindOf:Str->Option NameKind}{x:Str}{v:aa}:∀{P:List Str} {vs:List aa} {i:Nat} {m:Str->Option aa},P.Nodup->P[i]?=aB x->vs[i]?=aB v->kindOf x=aB .local->
 bindL kindOf (P.zip vs) m x=aB v
 |[],_,_,_,_,h,_,_=>by simp at h
 |_::_,[],_,_,_,_,h,_=>by simp at h
 |p::P,w::vs,0,m,nd,h1,h2,hk=>by
  simp at h1 h2;subst h1;subst h2;show bindL kindOf ((p,w)::P.zip vs) m p=_;unfold bindL;rw[MF λv hv=>(u5.mp nd).1 (List.of_mem_zip hv).1,if_pos hk];simp
 |p::P,w::vs,i+1,m,nd,h1,h2,hk=>by
  show bindL kindOf ((p,w)::P.zip vs) m x=_;unfold bindL;exact MH (i:=i) (u5.mp nd).2 (by simpa using h1) (by simpa using h2) hk
theorem MI{kindOf:Str->Option NameKind}{x:Str}{v:aa}:∀{P:List Str} {vs:List aa} {i:Nat} {m:Str->Option aa},P.Nodup->P[i]?=aB x->vs[i]?=aB v->kindOf x≠aB .local->
 bindC kindOf (P.zip vs) m x=aB v
 |[],_,_,_,_,h,_,_=>by simp at h
 |_::_,[],_,_,_,_,h,_=>by simp at h
 |p::P,w::vs,0,m,nd,h1,h2,hk=>by
  simp at h1 h2;subst h1;subst h2;show bindC kindOf ((p,w)::P.zip vs) m p=_;unfold bindC;rw[MG λv hv=>(u5.mp nd).1 (List.of_mem_zip hv).1,if_neg hk];simp
 |p::P,w::vs,i+1,m,nd,h1,h2,hk=>by
  show bindC kindOf ((p,w)::P.zip vs) m x=_;unfold bindC;exact MI (i:=i) (u5.mp nd).2 (by simpa using h1) (by simpa using h2) hk
noncomputable def start(N:List Str)(vs:List V):St:=vs.map aB++bI (N.length-vs.length) aC
noncomputable def kg(CX:qe)(P:ai)(w:aj)(K:aH)(mg:Str->Option aa)(base:az)(N:List Str)(qual:Str)(scope:ay)(f:ah)(cd:aa)(A:ak)(outer:List Env)(s:af)(H:Hp)(E:XK):Cx where
 prog:=P
 w:=w
 K:=K
 mg:=mg
 base:=base
 A:=A.deeper (envOfC qual scope s.heap.objs.size f cd)
 N:=N
 s₀:=s
 H₀:=H
 env:=envOfC qual scope s.heap.objs.size f cd
 outer:=outer
 stack:=envOfC qual scope s.heap.objs.size f cd::outer
 ex:=[]
 calm:=true
 fn:=λ_=>true
 pn:=[]
 xe:=λe s'=>wpAny (model P w) (A.deeper (envOfC qual scope s.heap.objs.size f cd)) (leaving (envOfC qual scope s.heap.objs.size f cd) e) (λ_ s''=>CX outer H s E e s'') (λe' s''=>CX outer H s E e' s'') s'
theorem MJ{sc:ay}{n:Nat}{x:Str}(h:sc.names.lookup x=aB .cell):∃c,(cellsFrom n sc.names []).lookup x=aB c:=by have q:=PySem.W.cellsFrom_some sc.names n [] (.inl h);exact Option.isSome_iff_exists.mp q
theorem S0{CX:qe}{P:ai}{w:aj}{K:aH}{mg:Str->Option aa}{base:az}{N ps:List Str}{qual:Str}{scope:ay}{f:ah}{cd:aa}{A:ak}{outer:List Env}{s s1:af}{H:Hp}{E:XK}{us:List aa}{vs:List V}
 (S:dB N ps scope) (hd:A.handled=aC) (e0:rq P w K mg base A outer s H) (hl:vs.length=ps.length) (r:Vals vs us)
 (x:InCallC s s.heap.objs.size (bindL (envOfC qual scope s.heap.objs.size f cd).kindOf (ps.zip us) λ_=>aC) (cellsFrom (s.heap.objs.size+1) scope.names []) (bindC (envOfC qual scope s.heap.objs.size f cd).kindOf (ps.zip us) λ_=>aC) s1) :
 Inv (kg CX P w K mg base N qual scope f cd A outer s H E) [] (start N vs) H s1:=by
 have hpl:ps.length<=N.length:=by have:=nR List.length S.pre;rw[qQ]at this;lia
 obtain⟨h1,tk,rfl,hk⟩:=x.done;have Ac:∀b:ah,b∉(kg CX P w K mg base N qual scope f cd A outer s H E).ex:=λb z=>absurd (show b∈([]:List ah)from z) (by simp);refine⟨⟨e0.mod,S.kind,rfl,rfl,aZ _,λy z c h1 h2=>?_,λy hy=>?_,λy c _ h=>?_,λ_=>hd,Around.frames_deeper e0.frames,.inr ⟨rfl,rfl⟩,λb z=>absurd z (Ac b),e0.bs,e0.vp,λb _ _=>Ac b,λb z=>absurd z (Ac b),e0.iO,e0.yj⟩,
  rfl,e0.bare,Un.kept hk,⟨_,x.toInCall.ns,λi y v h1 h2 h3=>?_⟩,λy c h=>⟨_,x.cell y c h⟩,e0.hok.fresh (aZ _),λy c h=>?_,λp hp=>absurd (show p∈([]:List (ah×Obj))from hp) (by simp),e0.hok.kept hk,?_⟩
 exact name_of_addr x.apart (yV h1) (yV h2);have hy:scope.names.lookup y=aB .cell\/scope.names.lookup y=aB .free:=hy;rcases hy with hy|hy
 exact MJ hy;exact absurd rfl (S.vE _ (yV hy));exact tM (x.above y c (yV h));have hi:i<vs.length:=by unfold start at h2;by_cases hi:i<vs.length;exact hi;rw[oq (by simpa using hi)]at h2;rw[De]at h2;split at h2<;>cases h2
 have ha:vs[i]?=aB v:=by
  unfold start at h2;rw[uW (by simpa using hi),dS]at h2;cases e:vs[i]? with|none=>rw[e]at h2;cases h2|some a=>rw[e]at h2;cases h2;rfl
 obtain⟨u,hu,rv⟩:=r.get ha;have hp:ps[i]?=aB y:=by rw[<-S.pre,List.getElem?_take_of_lt (by lia)];exact h1
 have MK:ps.Nodup:=by rw[<-S.pre];exact S.nd.sublist (List.take_sublist _ _)
 refine⟨u,rv,?_⟩;rcases S.par y (mR hp)with k|k
 exact .inl ⟨k,MH MK hp hu k⟩;obtain⟨c,e⟩:=MJ (n:=s.heap.objs.size+1) k;refine .inr ⟨.inl k,c,e,?_⟩;have q:=x.cell y c e;rw[MI MK hp hu (by show scope.names.lookup y≠_;rw[k];decide)]at q;exact q;exact e0.hok.fresh (tM (x.above y c (yV h)));unfold start;show _=N.length;rw[fU,bx,tK];lia
theorem Ad{CX:qe}{P:ai}{w:aj}{K:aH}{mg:Str->Option aa}{base:az}{k:Nat}{f:ah}{name qual:Str}{params:Arguments}{body:List aq}{scope:ay}{dV kV doc pm cdv ct oc:aa}{an od:Option ah}
 {osl:Array (Option aa)} {N ps:List Str} {sp:Sp} (lk:K.lookup f=aB ⟨oc,od,.func (PySem.W.fnOf name qual params body scope dV kV doc pm an cdv ct),osl⟩) (hcd:PySem.W.codeIn K cdv qual) (S:dB N ps scope)
 (len:∀vs H Q E,sp vs H Q E->vs.length=ps.length)
 (hbody:∀(A:ak)(outer:List Env)(s:af)(H:Hp)(vs:List V)(Q:VK)(E:XK),dw k (A.deeper (envOfC qual scope s.heap.objs.size f cdv))->sp vs H Q E->
   ∃t,k6 (kg CX P w K mg base N qual scope f cdv A outer s H E) body t/\t {nx:=λ_ H'=>Q .aP H',rt:=Q} (start N vs) H) :
 fH P w K mg base CX (k+1) f (PySem.W.fnOf name qual params body scope dV kV doc pm an cdv ct) ps sp:=by
 refine⟨len,λA outer s H args us vs Q E hr e0 hb r qf=>?_⟩;have hl:=len _ _ _ _ qf;have KX:K.In s.heap:=e0.mod.FZ.keeps λb o e=>(e0.bs b o e).1;have lim:s.heap.NoLimit:=e0.mod.nolimit.keeps λb o e=>(e0.bs b o e).1;have hkind:∀y∈ps.zip us,scope.names.lookup y.1=aB .local\/(scope.names.lookup y.1=aB .cell/\((cellsFrom (s.heap.objs.size+1) scope.names []).lookup y.1).isSome):=λbQ hy=>by
  obtain⟨n,v⟩:=bQ;rcases S.par n (List.of_mem_zip hy).1 with q|q;exact .inl q;exact .inr ⟨q,PySem.W.cellsFrom_some _ _ _ (.inl q)⟩
 refine codeAny_call_function hr.depth (KX _ _ lk) rfl S.co S.gen rfl (PySem.W.codeRec_of KX hcd) (hb _ _ _ _ ?_);refine wpAny_newFunctionEnv_cells S.kind hkind λenv he s1 x=>?_;subst he;refine⟨lim.keeps x.toInCall.keep,codeAny_func ?_⟩;obtain⟨t,ht,hq⟩:=hbody A outer s H vs Q E (hr.deeper _) qf;have I:Inv (kg CX P w K mg base N qual scope f cdv A outer s H E) [] (start N vs) H s1:=S0 S hr.hd e0 hl r x;refine ie (ht [] s1 (start N vs) H _ I hq) (λfl s' hs=>?_) λe s' hs=>hs;have fin:∀{σ':St}{H':Hp}{v:V}{u:aa},Inv (kg CX P w K mg base N qual scope f cdv A outer s H E) [] σ' H' s'->RelV v u->Q v H'->CE outer P w H s Q u s':=
  λ{σ' H' v u} J rv q=>⟨v,H',J.os,J.bare,J.base,J.hok,rv,q⟩
 cases fl with
 |ret u=>
  obtain⟨v,σ',H',J,rv,q⟩:=hs;exact fin J rv q
 |next=>
  obtain⟨σ',H',J,q⟩:=hs;exact fin (v:=V.aP) (u:=Value.none) J rfl q
 |brk=>
  obtain⟨_,_,_,q⟩:=hs;exact False.elim q
 |cont=>
  obtain⟨_,_,_,q⟩:=hs;exact False.elim q
section
variable{X:Cx}{x:Str}{p pos:Pos}{e:ao}{es:List ao}{t:TA}{id T:String}{r:List V->Hp->VK->Prop}
noncomputable def ML(r:List V->Hp->VK->Prop)(t:TA):TE:=λσ H Q=>t σ H λvs H1=>r vs H1 Q
theorem MM(hc:b9 X (.builtin id) r)(hg:Gl X x)(hm:X.mg x=aC)(hv:bootBuiltins x=aB (.builtin id))(ha:PA X (e::es) t)(hn:autoParam (x≠"__name__") L2.aD1._auto_1)(hdb:autoParam ((x==("__debug__" : Str))=false) L2.aD1._auto_1)
 (he:autoParam (starEach (e::es) X.env=(false,eval e X.env)::starEach es X.env) L2.aR1._auto_1) (hpl:autoParam ((backTo pos (starEach es X.env)).any (·.1)=false) L2.aR1._auto_1):PE X (.Call (.Name x p) (e::es) [] pos) (ML r t):=by
 intro pins s σ H Q I h;refine xH (qW I hg hm hv ?_ hn hdb);exact PyProof.Rows.callWith_builtin1 (bf (ha pos pins s σ H _ I h) λus s1 z9=>z9.el λvs H1 I1 r1 q1=>hc pins s1 σ H1 vs us Q I1 r1 q1) he hpl
theorem S1(hc:b9 X (.type T) r)(hg:Gl X x)(hm:X.mg x=aC)(hv:bootBuiltins x=aB (.type T))(ha:PA X (e::es) t)(hn:autoParam (x≠"__name__") L2.aD1._auto_1)(hdb:autoParam ((x==("__debug__" : Str))=false) L2.aD1._auto_1)
 (he:autoParam (starEach (e::es) X.env=(false,eval e X.env)::starEach es X.env) L2.aR1._auto_1) (hpl:autoParam ((backTo pos (starEach es X.env)).any (·.1)=false) L2.aR1._auto_1):PE X (.Call (.Name x p) (e::es) [] pos) (ML r t):=by
 intro pins s σ H Q I h;refine xH (qW I hg hm hv ?_ hn hdb);exact x8 (bf (ha pos pins s σ H _ I h) λus s1 z9=>z9.el λvs H1 I1 r1 q1=>hc pins s1 σ H1 vs us Q I1 r1 q1) he hpl
end
end L2
namespace HT
open PySem PyProof.Rows
section
variable{prog:ai}{w:aj}{A:ak}{E:aa->af->Prop}{s:af}
theorem rA{t b:ah}{vs ws:List aa}{Q:aa->af->Prop}(ht:IsTup s.heap t vs.toArray)(hb:IsTup s.heap b ws.toArray)(hv:vs≠[])
 (h1:ws=[]->Q (.ref t) s) (h2:ws≠[]->Q (.ref s.heap.objs.size) {s with heap:=s.heap.push {cls:=.type "tuple",data:=.seq (vs++ws).toArray}})
 (hsz:vs.length+ws.length<=sizeLine):wpAny (model prog w) A (binaryOp .Add (.ref t) (.ref b)) Q E s:=by
 obtain⟨⟨cls,dd,data,sl⟩,ho,hc,n,hd⟩:=id ht;obtain⟨⟨Gz,dd2,data2,sl2⟩,ho2,hc2,n2,hd2⟩:=id hb;simp only at hc hd hc2 hd2;subst hc hd hc2 hd2;have e:vs.toArray++ws.toArray=(vs++ws).toArray:=by simp
 by_cases hw:ws=[]
 exact concat_meets ⟨_,ho,rfl⟩ ⟨_,ho2,rfl⟩ yW yX zk zj (vcs _ _)
  (tuple_addW1 t b vs.toArray ws.toArray n n2 dd dd2 sl sl2 (by simpa using hv) (by simp[hw])) ⟨ho,ho2,h1 hw⟩
 refine concat_meets ⟨_,ho,rfl⟩ ⟨_,ho2,rfl⟩ yW yX zk zj (vcs _ _)
  (tuple_addW2 t b vs.toArray ws.toArray n n2 dd dd2 sl sl2 (by simpa using hv) (by simpa using hw) (by rw[dR,dR];exact hsz)) ⟨ho,ho2,?_⟩
 rw[e];exact h2 hw
noncomputable def bK(n d:Nat):Option Int->Nat|none=>d|some v=>if v<0 then(v+ (n:Int)).toNat else min v.toNat n
theorem oJ(n d:Nat):bK n d aC=d:=rfl
theorem rD(n d k:Nat):bK n d (aB (k:Int))=min k n:=by show(if(k:Int)<0 then((k:Int)+ (n:Int)).toNat else min (k:Int).toNat n)=min k n;rw[if_neg (by lia),vg]
theorem S2(n d:Nat)(hd:d<=n)(o:Option Int):bK n d o<=n:=by
 cases o with
 |none=>exact hd
 |some v=>
  show(if v<0 then(v+ (n:Int)).toNat else min v.toNat n)<=n;by_cases hv:v<0;rw[if_pos hv];lia;rw[if_neg hv];exact Nat.min_le_right _ _
theorem MN(v:Int)(n d:Nat):(if v<0 then max (v+ (n:Int)) 0 else min v (n:Int))=((bK n d (aB v):Nat):Int):=by
 show(if v<0 then max (v+ (n:Int)) 0 else min v (n:Int))=(((if v<0 then(v+ (n:Int)).toNat else min v.toNat n):Nat):Int)
 by_cases hv:v<0;simp only[if_pos hv];lia;simp only[if_neg hv];lia
theorem S3(lo hi:Option Int)(n:Nat):Builtin.Slice.sliceAdjust lo hi 1 (n:Int)=(((bK n 0 lo:Nat):Int),((bK n n hi:Nat):Int)):=by
 have h1:¬((1:Int)<0):=by lia
 unfold Builtin.Slice.sliceAdjust;simp only[h1,eG];refine Prod.ext ?_ ?_;cases lo with|none=>rfl|some v=>exact MN v n 0
 cases hi with|none=>rfl|some v=>exact MN v n n
theorem S4(i j:Nat):Builtin.Slice.slicePlaces (i:Int) (j:Int) 1=j-i:=by
 unfold Builtin.Slice.slicePlaces;have h1:(1:Int)>0:=by lia
 simp only[h1,bY,Int.ediv_one];split<;>lia
theorem MO{v:aa}{o:Option Int}{Q:Option Int->af->Prop}(p:IsPart v o)(h:Q o s):wpAny (model prog w) A (Builtin.Slice.slicePartIndex v) Q E s:=by
 cases p with|none=>exact slicePart_none h|int i t=>exact slicePart_int h
theorem MP{sl:ah}{vl vu:aa}{lo hi:Option Int}{n:Nat}{Q:Int×Int×Nat->af->Prop}(hs:s.heap.IsSliceOf sl vl vu .none)(pl:IsPart vl lo)(pu:IsPart vu hi)
 (h:Q (((bK n 0 lo:Nat):Int),1,bK n n hi-bK n 0 lo) s):wpAny (model prog w) A (Builtin.Slice.sliceApplied (.ref sl) (pure (n:Int))) Q E s:=by
 obtain⟨os,hos,hcs,hds⟩:=id hs;unfold Builtin.Slice.sliceApplied Builtin.Slice.sliceFields;refine aJ (aJ (lq hos hds (x:=vl) rfl (aJ (lq hos hds (x:=vu) rfl (aJ (lq hos hds (x:=.none) rfl (bH ?_)))))));refine aJ (slicePart_none ?_);show wpAny _ _ (if((1:Int)==0)=true then _ else _) _ _ s;rw[if_neg (by decide)];refine aJ (MO pl (aJ (MO pu (aJ (bH ?_)))));show wpAny _ _ (match Builtin.Slice.sliceAdjust lo hi 1 (n:Int)with|(lo,hi)=>pure (lo,(1:Int),Builtin.Slice.slicePlaces lo hi 1)) _ _ s;rw[S3 lo hi n];show wpAny _ _ (pure (((bK n 0 lo:Nat):Int),(1:Int),Builtin.Slice.slicePlaces ((bK n 0 lo:Nat):Int) ((bK n n hi:Nat):Int) 1)) _ _ s;rw[S4];exact bH h
theorem S5(xs:Array aa)(i k:Nat):((List.range k).filterMap λ(m:Nat)=>xs[((i:Int)+ (m:Int)*1).toNat]?).toArray=((xs.toList.drop i).take k).toArray:=by
 have e:(λ(m:Nat)=>xs[((i:Int)+ (m:Int)*1).toNat]?)=λm=>xs[i+m]?:=by
  funext m;have:((i:Int)+ (m:Int)*1).toNat=i+m:=by lia
  rw[this]
 rw[e];have:=pick_run xs i k;rw[List.filterMap_map]at this;have e2:((λx=>xs[x]?)∘λx=>i+x)=λm=>xs[i+m]?:=rfl;rw[e2]at this;rw[this]
theorem gu{t sl:ah}{items:Array aa}{vl vu:aa}{lo hi:Option Int}{Q:aa->af->Prop}(ht:IsTup s.heap t items)(hs:s.heap.IsSliceOf sl vl vu .none)(pl:IsPart vl lo)(pu:IsPart vu hi)
 (hw:¬(bK items.size 0 lo=0/\bK items.size items.size hi=items.size))
 (h:Q (.ref s.heap.objs.size) {s with heap:=s.heap.push {cls:=.type "tuple",data:=.seq ((items.toList.drop (bK items.size 0 lo)).take (bK items.size items.size hi-bK items.size 0 lo)).toArray}})
 (hsz:items.size<=sizeLine):wpAny (model prog w) A (getItem (.ref t) (.ref sl)) Q E s:=by
 have lZ:sizeOk (.seq ((items.toList.drop (bK items.size 0 lo)).take (bK items.size items.size hi-bK items.size 0 lo)).toArray):=by show((items.toList.drop (bK items.size 0 lo)).take (bK items.size items.size hi-bK items.size 0 lo)).toArray.size<=sizeLine;rw[dR,qQ,xS,yc];lia
 have hj:bK items.size items.size hi<=items.size:=S2 _ _ (aZ _) hi;obtain⟨os,hos,hcs,hds⟩:=id hs;have GA:s.TypeIs (.ref sl) "slice":=⟨os,hos,hcs⟩
 unfold getItem
 try with_reducible refine mP ?_
 first|refine aJ (bH ?_)|skip
 refine aJ (wpAny_sequenceKey ht.typeIs (by decide) ?_);refine aJ (xG (name:=Str.ofString "__getitem__") ht.typeIs xZ
  (xM xZ ht.typeIs entry_tuple_getitem ?_ (args_tuple_getitem _ _)))
 show wpAny _ _ (Builtin.Tuple.tupleItemsOf (.ref t) >>= _) _ _ s;refine aJ (tupleItemsOf_ ht ?_);refine aJ (C9 GA ?_);rw[if_pos (by decide)];refine aJ (MP hs pl pu ?_);have hno:¬((((bK items.size 0 lo:Nat):Int)==0&& (1:Int)==1&& (bK items.size items.size hi-bK items.size 0 lo)==items.size)):=by intro q;rw[bJ,bJ]at q;have q1:((bK items.size 0 lo:Nat):Int)=0:=eq_of_beq q.1.1;have q2:bK items.size items.size hi-bK items.size 0 lo=items.size:=eq_of_beq q.2;exact hw ⟨by lia,by lia⟩
 show wpAny _ _ (if(((bK items.size 0 lo:Nat):Int)==0&& (1:Int)==1&& (bK items.size items.size hi-bK items.size 0 lo)==items.size)=true then _ else _) _ _ s;rw[if_neg hno,S5];first
  |exact aJ (m:=Builtin.Tuple.tupleExact _) (qH (bH ⟨_,rfl,bH h⟩) lZ)
  |exact aJ (m:=Builtin.Tuple.tupleExact _) (qH (aJ (bH (bH ⟨_,rfl,bH h⟩))) lZ)
  |exact aJ (aJ (m:=Builtin.Tuple.tupleExact _) (qH (bH (bH ⟨_,rfl,bH h⟩)) lZ))
  |exact aJ (aJ (m:=Builtin.Tuple.tupleExact _) (qH (bH ⟨_,rfl,bH h⟩) lZ))
end
end HT
namespace L2
open PySem PySem.Spec PyProof.Rows
noncomputable abbrev TO:=St->Hp->(Option Int->Hp->Prop)->Prop
noncomputable def PO(X:Cx)(e:Option ao)(t:TO):Prop:=
 ∀(pins:List (ah×Obj))(s:af)(σ:St)(H:Hp)(Q:Option Int->Hp->Prop),Inv X pins σ H s->t σ H Q->
  wpAny (model X.prog X.w) X.A (evalPart e X.env) (λu s'=>∃o H',Inv X pins σ H' s'/\IsPart u o/\Q o H') X.xe s
noncomputable def zs2:TO:=λ_ H Q=>Q aC H
noncomputable def Ae(t:TE):TO:=λσ H Q=>t σ H λx H1=>∃i,x=.int i/\Q (aB i) H1
section
variable{X:Cx}{e:ao}{te:TE}{lo hi:Option ao}{tl th:TO}{pos p2:Pos}
theorem S6:PO X aC zs2:=by intro pins s σ H Q I h;rw[evalPart_none];exact bH ⟨aC,H,I,.none,h⟩
theorem S7(h:PE X e te):PO X (aB e) (Ae te):=by intro pins s σ H Q I hw;rw[evalPart_some];refine bf (h pins s σ H _ I hw) λu s1 z9=>z9.el λx H1 I1 r1 q1=>?_;obtain⟨i,rfl,q⟩:=q1;obtain⟨t,rfl⟩:=r1;exact⟨aB i,H1,I1,.int i t,q⟩
noncomputable def rE(X:Cx)(r:V->Option Int->Option Int->Hp->VK->Prop):Prop:=
 ∀(pins:List (ah×Obj))(s:af)(σ:St)(H:Hp)(x:V)(v vl vu:aa)(lo hi:Option Int)(sl:ah)(Q:VK),Inv X pins σ H s->RelV x v->s.heap.IsSliceOf sl vl vu .none->IsPart vl lo->IsPart vu hi->r x lo hi H Q->
  ∃T id,typeLookup (.type T) "__getitem__" = pure (aB (.builtin id))/\s.TypeIs v T/\wpAny (model X.prog X.w) X.A (getItem v (.ref sl)) (EP X pins σ Q) X.xe s
theorem rE.or{r r':V->Option Int->Option Int->Hp->VK->Prop}(h:rE X r)(h':rE X r'):rE X (λx lo hi H Q=>r x lo hi H Q\/r' x lo hi H Q):=by
 intro pins s σ H x v vl vu lo hi sl Q I rx hs pl pu q;rcases q with q|q
 exact h pins s σ H x v vl vu lo hi sl Q I rx hs pl pu q;exact h' pins s σ H x v vl vu lo hi sl Q I rx hs pl pu q
noncomputable def S8(r:V->Option Int->Option Int->Hp->VK->Prop)(te:TE)(tl th:TO):TE:=λσ H Q=>te σ H λx H1=>tl σ H1 λl H2=>th σ H2 λu H3=>r x l u H3 Q
theorem S9{r:V->Option Int->Option Int->Hp->VK->Prop}(hr:rE X r)(he:PE X e te)(hl:PO X lo tl)(hu:PO X hi th):PE X (.Subscript e (.Slice lo hi aC p2) pos) (S8 r te tl th):=by intro pins s σ H Q I h;refine Subscript_ (bf (he pins s σ H _ I h) λv s1 z9=>z9.el λx H1 I1 r1 q1=>?_);refine wpAny_Slice (bf (hl pins s1 σ H1 _ I1 q1) λvl s2 ⟨l,H2,I2,pl,q2⟩=>bf (hu pins s2 σ H2 _ I2 q2) λvu s3 bQ=>?_);obtain⟨u,H3,I3,pu,q3⟩:=bQ;rw[evalPart_none];refine bH ?_;have I4:Inv X pins σ H3 {s3 with heap:=s3.heap.push {cls:=.type "slice",data:=.fields #[vl,vu,.none]}}:=I3.kept (t':=s3.toks) λb ob q=>cy _ q;obtain⟨T,id,hT,ht,hg⟩:=hr pins {s3 with heap:=s3.heap.push {cls:=.type "slice",data:=.fields #[vl,vu,.none]}} σ H3 x v vl vu l u s3.heap.objs.size Q I4 r1 (Heap.IsSliceOf.new ..) pl pu q3;show wpAny (model X.prog X.w) X.A (subscriptTail e (.Slice lo hi aC p2) v (.ref s3.heap.objs.size)) (EP X pins σ Q) X.xe {s3 with heap:=s3.heap.push {cls:=.type "slice",data:=.fields #[vl,vu,.none]}};exact tail_any (ops:=[.ref s3.heap.objs.size,v]) ht hT hg (by with_unfolding_all rfl)
noncomputable def kh(xs:List V)(lo hi:Option Int):List V:=(xs.drop (HT.bK xs.length 0 lo)).take (HT.bK xs.length xs.length hi-HT.bK xs.length 0 lo)
theorem MQ(xs:List V)(lo hi:Option Int):(kh xs lo hi).length<=xs.length:=by unfold kh;rw[qQ,xS];lia
noncomputable def Af(K:aH):V->Option Int->Option Int->Hp->VK->Prop:=λx lo hi H Q=>∃a xs,x=.ref a/\cj K H a xs/\
 ¬(HT.bK xs.length 0 lo=0/\HT.bK xs.length xs.length hi=xs.length)/\∀p,H p=aC->Q (.ref p) (upd H p (.tup (kh xs lo hi)))
theorem Tc:rE X (Af X.K):=by
 intro pins s σ H x v vl vu lo hi sl Q I rx hs pl pu h;obtain⟨a,xs,rfl,hx,hw,q⟩:=h;cases rx;obtain⟨its,r,ht,hz⟩:=I.tuple hx;have hlen:its.toArray.size=xs.length:=by rw[dR];exact r.length.symm
 refine⟨"tuple",_,xZ.lookup,ht.typeIs,?_⟩;refine HT.gu ht hs pl pu (by rw[hlen];exact hw) ?_ (by rw[hlen];exact hz);rw[hlen];refine⟨.ref s.heap.objs.size,_,I.laid (t':=s.toks) (o:=.tup (kh xs lo hi)) (λb ob q=>cy _ q) (aZ _) ?_,rfl,q _ (I.hok.fresh (aZ _))⟩;exact⟨gJ (MQ xs lo hi) hz,_,(r.drop (HT.bK xs.length 0 lo)).take (HT.bK xs.length xs.length hi-HT.bK xs.length 0 lo),lz.new _ _⟩
noncomputable def l5(K:aH):R2:=λx y H Q=>∃a b xs ys,x=.ref a/\y=.ref b/\cj K H a xs/\cj K H b ys/\xs≠[]/\xs.length+ys.length<=sizeLine/\
 (ys=[]->Q (.ref a) H)/\(ys≠[]->∀p,H p=aC->Q (.ref p) (upd H p (.tup (xs++ys))))
theorem Vals.eW{xs:List V}{us:List aa}(r:Vals xs us):us=[]↔xs=[]:=by
 cases r with|nil=>simp|cons _ _=>simp
theorem Td:dG X (binaryOp .Add) (l5 X.K):=by intro pins s σ H x y v u Q I rx ry h;obtain⟨a,b,xs,ys,rfl,rfl,ha,hb,hx,hz,q1,q2⟩:=h;cases rx;cases ry;obtain⟨its,r1,p1,_⟩:=I.tuple ha;obtain⟨its2,r2,p2,_⟩:=I.tuple hb;refine HT.rA p1 p2 (λz=>hx (r1.eW.mp z)) (λz=>⟨.ref a,H,I,rfl,q1 (r2.eW.mp z)⟩) (λz=>?_) (by rw[<-r1.length,<-r2.length];exact hz);refine⟨.ref s.heap.objs.size,_,I.laid (t':=s.toks) (o:=.tup (xs++ys)) (λb ob q=>cy _ q) (aZ _) ?_,rfl,q2 (λw=>z (r2.eW.mpr w)) _ (I.hok.fresh (aZ _))⟩;exact⟨by rw[fU];exact hz,_,r1.append r2,lz.new _ _⟩
end
noncomputable def jd(n:Nat)(i:Int):Option Nat:=if 0<=i then(if i<n then aB i.toNat else aC)else if -(n:Int)<=i then aB (i+n).toNat else aC
noncomputable def fV{α:Type}(xs:List α)(i:Int):Option α:=(jd xs.length i).bind λj=>xs[j]?
theorem MR{n:Nat}{i:Int}{j:Nat}(h:jd n i=aB j):seqIndex? i n=aB j/\j<n/\-(n:Int)<=i/\i<n:=by unfold jd at h;by_cases h0:0<=i;rw[if_pos h0]at h;by_cases h1:i<n;rw[if_pos h1]at h;have e:i.toNat=j:=nV h;exact⟨by rw[seqIndex_of h0 h1,e],by lia,by lia,h1⟩;rw[if_neg h1]at h;cases h;rw[if_neg h0]at h;by_cases h1:-(n:Int)<=i;rw[if_pos h1]at h;have e:(i+n).toNat=j:=nV h;exact⟨by rw[seqIndex_neg (by lia) h1,e],by lia,h1,by lia⟩;rw[if_neg h1]at h;cases h
theorem MS{α:Type}{xs:List α}{i:Int}{v:α}(h:fV xs i=aB v):∃j,seqIndex? i xs.length=aB j/\xs[j]?=aB v/\j<xs.length/\-(xs.length:Int)<=i/\i<xs.length:=by
 unfold fV at h;cases e:jd xs.length i with
 |none=>rw[e]at h;cases h
 |some j=>
  rw[e]at h;obtain⟨h1,h2,h3,h4⟩:=MR e;exact⟨j,h1,h,h2,h3,h4⟩
theorem nX{α:Type}{xs:List α}{j:Nat}{v:α}(h:xs[j]?=aB v):fV xs (j:Int)=aB v:=by
 have hj:j<xs.length:=(i7.mp h).1;have e:jd xs.length (j:Int)=aB j:=by unfold jd;rw[if_pos (by lia),if_pos (by lia)];simp
 unfold fV;rw[e];exact h
noncomputable def GC(b:ao):Prop:=∀o i,subscripted b false o i=operate [o,i] (getItem o i)
noncomputable def rF(X:Cx)(r:R2):Prop:=
 ∀(value slice:ao)(pins:List (ah×Obj))(s:af)(σ:St)(H:Hp)(x y:V)(v u:aa)(Q:VK),Inv X pins σ H s->RelV x v->RelV y u->r x y H Q->
  subscripted slice false v u=operate [v,u] (getItem v u)->wpAny (model X.prog X.w) X.A (subscriptTail value slice v u) (EP X pins σ Q) X.xe s
noncomputable def MT(X:Cx)(id:String)(r:V->List V->Hp->VK->Prop):Prop:=
 ∀(pins:List (ah×Obj))(s:af)(σ:St)(H:Hp)(x:V)(xs:List V)(v:aa)(us:List aa)(Q:VK),Inv X pins σ H s->RelV x v->Vals xs us->r x xs H Q->
  wpAny (model X.prog X.w) X.A (call (.builtin id) (v::us)) (EP X pins σ Q) X.xe s
section
variable{X:Cx}{a b:ao}{ta tb:TE}{pos:Pos}
theorem rF.or{r r':R2}(h:rF X r)(h':rF X r'):rF X (λx y H Q=>r x y H Q\/r' x y H Q):=by
 intro value slice pins s σ H x y v u Q I rx ry q hs;rcases q with q|q
 exact h value slice pins s σ H x y v u Q I rx ry q hs;exact h' value slice pins s σ H x y v u Q I rx ry q hs
theorem Ag{r:R2}(hr:rF X r)(ha:PE X a ta)(hb:PE X b tb)(hs:GC b):PE X (.Subscript a b pos) (DM r ta tb):=by intro pins s σ H Q I h;exact Subscript_ (vA ha hb I h λv u s2 x y H2 I2 rx ry q=>hr a b pins s2 σ H2 x y v u Q I2 rx ry q (hs _ _))
noncomputable def Ah(K:aH):R2:=λx y H Q=>∃p xs i v,x=.ref p/\y=.int i/\cR K H p xs/\fV xs i=aB v/\Q v H
noncomputable def Ai(K:aH):R2:=λx y H Q=>∃p xs i v,x=.ref p/\y=.int i/\cj K H p xs/\fV xs i=aB v/\Q v H
theorem Te:rF X (Ah X.K):=by
 intro value slice pins s σ H x y v u Q I rx ry h hs;obtain⟨p,xs,i,z,rfl,rfl,hq,he,q⟩:=h;cases rx;obtain⟨t,rfl⟩:=ry;obtain⟨its,r,pl,hz⟩:=I.list hq;obtain⟨j,h1,h2,h3,h4,h5⟩:=MS he;obtain⟨w,ew,rw'⟩:=r.get h2;have hl:=r.length;have hn:=zZ;have fin:EP X pins σ Q w s:=⟨z,H,I,rw',q⟩
 by_cases h0:0<=i;have hj:i.toNat=j:=by rw[seqIndex_of h0 h5]at h1;exact nV h1
 exact item_listR pl.isList h0 (by lia) (by rw[hj];simpa using ew) fin hs;have hj:(i+ (its.toArray.size:Int)).toNat=j:=by rw[seqIndex_neg (by lia) h4]at h1;rw[dR,<-hl];exact nV h1
 exact subscriptTail_builtinR (x:=w) pl.isList.typeIs slot_list_getitem.lookup
  (wpAny_getItem_list_neg (Q:=λr s'=>r=w/\EP X pins σ Q r s') pl.isList (by lia) (by rw[dR]<;>lia) (by lia) (by rw[hj];simpa using ew) ⟨rfl,fin⟩) hs
theorem Tf:rF X (Ai X.K):=by
 intro value slice pins s σ H x y v u Q I rx ry h hs;obtain⟨p,xs,i,z,rfl,rfl,hq,he,q⟩:=h;cases rx;obtain⟨t,rfl⟩:=ry;obtain⟨its,r,pl,hz⟩:=I.tuple hq;obtain⟨j,h1,h2,h3,h4,h5⟩:=MS he;obtain⟨w,ew,rw'⟩:=r.get h2;have hl:=r.length;have hn:=zZ;have fin:EP X pins σ Q w s:=⟨z,H,I,rw',q⟩
 exact subscriptTail_builtinR (x:=w) pl.typeIs slot_tuple_getitem.lookup
  (getItem_tuple (j:=j) (Q:=λr s'=>r=w/\EP X pins σ Q r s') pl (by lia) (by lia) (by rw[dR,<-hl];exact h1) (by simpa using ew) ⟨rfl,fin⟩) hs
theorem Th(its:List aa)(n j:Nat)(u:aa):Obj.mapSeq (·.setIfInBounds j u) {cls:=.type "list",data:=.seq its.toArray n} ={cls:=.type "list",data:=.seq (its.set j u).toArray n}:=by simp[Obj.mapSeq]
theorem Inv.lst{pins:List (ah×Obj)}{σ:St}{H:Hp}{s:af}{p:ah}{xs:List V}(I:Inv X pins σ H s)(h:H p=aB (.lst xs)) :
 ∃(its:List aa) (n:Nat),Vals xs its/\s.heap.get? p=aB {cls:=.type "list",data:=.seq its.toArray n}/\xs.length<=sizeLine:=by
 obtain⟨z,its,n,r,e⟩:=I.hok p _ h;exact⟨its,n,r,e,z⟩
theorem Inv.vF{pins:List (ah×Obj)}{σ:St}{H:Hp}{s:af}{p:ah}{xs ys:List V}{its its':List aa}{n n':Nat}{f:Obj->Obj}(I:Inv X pins σ H s)(h:H p=aB (.lst xs))
 (ho:s.heap.get? p=aB {cls:=.type "list",data:=.seq its.toArray n}) (hf:f {cls:=.type "list",data:=.seq its.toArray n} ={cls:=.type "list",data:=.seq its'.toArray n'}) (r:Vals ys its') (hz:ys.length<=sizeLine) (t:Nat) :
 Inv X pins σ (upd H p (.lst ys)) {s with heap:=s.heap.update p f,toks:=t}:=by
 have e:(s.heap.update p f).get? p=aB {cls:=.type "list",data:=.seq its'.toArray n'}:=by rw[Dm f ho (by rw[hf]<;>rfl),hf]
 refine I.write (x:=p) (e:=p) (by rw[h];trivial) (.inl rfl) (λb u hb q=>(Heap.get?_update_other _ _ (eV hb)).trans q) ⟨_,e⟩ ?_;exact⟨hz,its',n',r,e⟩
noncomputable def Aj:V->V->V->Hp->(Hp->Prop)->Prop:=λo i v H Q=>∃p xs k j,o=.ref p/\i=.int k/\H p=aB (.lst xs)/\jd xs.length k=aB j/\Q (upd H p (.lst (xs.set j v)))
theorem Ti:mV X Aj:=by
 intro pins s σ H o i v ov iv u Q I ro ri rv h;obtain⟨p,xs,k,j,rfl,rfl,hp,hj,q⟩:=h;cases ro;obtain⟨t,rfl⟩:=ri;obtain⟨its,n,r,ho,hz⟩:=I.lst hp;obtain⟨h1,h2,h3,h4⟩:=MR hj;have hl:=r.length;have hn:=zZ;have I':Inv X pins σ (upd H p (.lst (xs.set j v))) {s with heap:=s.heap.update p (Obj.mapSeq (·.setIfInBounds j u))}:=
  I.vF hp ho (Th its n j u) (r.set rv j) (by rw[xT];exact hz) s.toks
 by_cases h0:0<=k;have hk:k.toNat=j:=by rw[seqIndex_of h0 h4]at h1;exact nV h1
 exact PySem.W.ki_setAt ho h0 (by lia) (by rw[dR,<-hl];exact h4) (by rw[hk];exact⟨_,I',q⟩);have hk:(k+ (its.toArray.size:Int)).toNat=j:=by rw[seqIndex_neg (by lia) h3]at h1;rw[dR,<-hl];exact nV h1
 exact PySem.W.ki_setBack ho (by lia) (by rw[dR,<-hl];exact h3) (by lia) (by rw[hk];exact⟨_,I',q⟩)
theorem Tj(lo hi:Option Int)(n:Nat):(sliceBounds lo hi aC n).1=((HT.bK n 0 lo:Nat):Int)/\(sliceBounds lo hi aC n).2.1=((HT.bK n n hi:Nat):Int)/\(sliceBounds lo hi aC n).2.2=1:=by
 refine⟨?_,?_,rfl⟩;cases lo with
 |none=>simp[sliceBounds,HT.bK]
 |some i=>
  simp only[sliceBounds,HT.bK,Ds,show(1:Int)>0 by decide,bY];by_cases h:i<0;simp only[h,bY]<;>lia;simp only[h,eG]<;>lia
 cases hi with
 |none=>simp[sliceBounds,HT.bK]
 |some i=>
  simp only[sliceBounds,HT.bK,Ds,show(1:Int)>0 by decide,bY];by_cases h:i<0;simp only[h,bY]<;>lia;simp only[h,eG]<;>lia
theorem Tn(its:List aa)(lo hi:Option Int):slicePick its.toArray lo hi aC=((its.drop (HT.bK its.length 0 lo)).take (HT.bK its.length its.length hi-HT.bK its.length 0 lo)).toArray:=by obtain⟨h1,h2,h3⟩:=Tj lo hi its.toArray.size;unfold slicePick;rw[h1,h2,h3];simp only[sliceRange_one,pick_run,dR]<;>rfl
noncomputable def Ak(K:aH):V->Option Int->Option Int->Hp->VK->Prop:=λx lo hi H Q=>∃a xs,x=.ref a/\cR K H a xs/\∀p,H p=aC->Q (.ref p) (upd H p (.lst (kh xs lo hi)))
theorem To:rE X (Ak X.K):=by intro pins s σ H x v vl vu lo hi sl Q I rx hs pl pu h;obtain⟨a,xs,rfl,hx,q⟩:=h;cases rx;obtain⟨its,r,ht,hz⟩:=I.list hx;have hlen:=r.length;refine⟨"list",_,slot_list_getitem.lookup,ht.isList.typeIs,?_⟩;refine wpAny_getItem_list_slice ht.isList hs pl pu .none (by simp) ?_ (by rw[dR]<;>lia);rw[Tn,<-hlen];refine⟨.ref s.heap.objs.size,_,I.laid (t':=s.toks) (o:=.lst (kh xs lo hi)) (λb ob q=>cy _ q) (aZ _) ?_,rfl,q _ (I.hok.fresh (aZ _))⟩;exact⟨gJ (MQ xs lo hi) hz,_,0,(r.drop (HT.bK xs.length 0 lo)).take (HT.bK xs.length xs.length hi-HT.bK xs.length 0 lo),iI _ rfl⟩
theorem Tp:b9 X (.builtin "len") (λxs H Q=>∃p ys,xs=[.ref p]/\(cR X.K H p ys\/cj X.K H p ys)/\Q (.int ys.length) H):=by
 intro pins s σ H xs us Q I r h;obtain⟨p,ys,rfl,hq,q⟩:=h;obtain⟨u,rfl,rx⟩:=vals1 r;cases rx;have hn:=zZ;rcases hq with hq|hq
 obtain⟨its,r',pl,hz⟩:=I.list hq;have hlen:=r'.length;exact Calls.call_len_list pl.isList (by simp only[dR]<;>lia) ⟨.int ys.length,H,I.tok _,⟨s.toks+1,by rw[dR,hlen]⟩,q⟩;obtain⟨its,r',pl,hz⟩:=I.tuple hq;have hlen:=r'.length;exact len_tuple pl (by simp only[dR]<;>lia) ⟨.int ys.length,H,I.tok _,⟨s.toks+1,by rw[dR,hlen]⟩,q⟩
theorem b9.or{f:aa}{r r':List V->Hp->VK->Prop}(h:b9 X f r)(h':b9 X f r'):b9 X f (λxs H Q=>r xs H Q\/r' xs H Q):=by
 intro pins s σ H xs us Q I rs q;rcases q with q|q
 exact h pins s σ H xs us Q I rs q;exact h' pins s σ H xs us Q I rs q
theorem Tq:b9 X (.type "list") (λxs H Q=>∃p ys,xs=[.ref p]/\(cR X.K H p ys\/cj X.K H p ys)/\∀l,H l=aC->Q (.ref l) (upd H l (.lst ys))):=by
 intro pins s σ H xs us Q I r h;obtain⟨p,ys,rfl,hq,q⟩:=h;obtain⟨u,rfl,rx⟩:=vals1 r;cases rx;have fin:∀(its:List aa),Vals ys its->ys.length<=sizeLine->∀(h':az)(c':Nat),(∀b o',s.heap.get? b=aB o'->h'.get? b=aB o')->
  h'.get? s.heap.objs.size=aB {cls:=.type "list",dict:=aC,data:=.seq its.toArray c',slots:=#[]}->EP X pins σ Q (.ref s.heap.objs.size) {s with heap:=h'}:=λits r' hz h' c' kp e=>
  ⟨.ref s.heap.objs.size,_,I.laid (t':=s.toks) kp (aZ _) (show br X.prog X.w _ h' _ (.lst ys)from⟨hz,its,c',r',e⟩),rfl,q _ (I.hok.fresh (aZ _))⟩
 rcases hq with hq|hq;obtain⟨its,r',pl,hz⟩:=I.list hq;have hlen:=r'.length;obtain⟨o,ho,hc,n,hd⟩:=pl.isList;exact call_list_seq p (.inl rfl) ho hc hd (λh' c' kp e=>fin its r' hz h' c' kp e) (by simp only[dR]<;>lia);obtain⟨its,r',pl,hz⟩:=I.tuple hq;have hlen:=r'.length;obtain⟨o,ho,hc,n,hd⟩:=pl;exact call_list_seq p (.inr rfl) ho hc hd (λh' c' kp e=>fin its r' hz h' c' kp e) (by simp only[dR]<;>lia)
theorem Tr:b9 X (.type "tuple") (λxs H Q=>∃p ys,xs=[.ref p]/\((cR X.K H p ys/\∀l,H l=aC->Q (.ref l) (upd H l (.tup ys)))\/(cj X.K H p ys/\Q (.ref p) H))):=by
 intro pins s σ H xs us Q I r h;obtain⟨p,ys,rfl,h⟩:=h;obtain⟨u,rfl,rx⟩:=vals1 r;cases rx;rcases h with⟨hq,q⟩|⟨hq,q⟩
 obtain⟨its,r',pl,hz⟩:=I.list hq;have hlen:=r'.length;refine call_tuple_list pl.isList (λh' kp=>?_) (by simp only[dR]<;>lia);have I1:Inv X pins σ H {s with heap:=h'}:=I.kept (t':=s.toks) kp;have I2:Inv X pins σ (upd H h'.objs.size (.tup ys)) {s with heap:=h'.push {cls:=.type "tuple",data:=.seq its.toArray}}:=
  I1.laid (t':=s.toks) (λb o e=>cy _ e) (aZ _) (show br X.prog X.w _ _ _ (.tup ys)from⟨hz,its,r',lz.new _ _⟩)
 exact⟨.ref h'.objs.size,_,I2,rfl,q _ (I1.hok.fresh (aZ _))⟩;obtain⟨its,r',pl,hz⟩:=I.tuple hq;exact call_tuple_same pl ⟨.ref p,H,I,rfl,q⟩
noncomputable def MU(K:aH)(T:String)(x:V)(H:Hp):Prop:=match x with
 |.str _=>T = "str"
 |.int _=>T = "int"
 |.ref p=>(T = "list"/\∃xs,cR K H p xs)\/(T = "tuple"/\∃xs,cj K H p xs)\/
  (T = "dict"/\((∃kvs,H p=aB (.dK kvs))\/∃kvs,H p=aB (.dT kvs)))\/(T = "set"/\∃S n,H p=aB (.set S n))
 |_=>False
theorem Tt{pins:List (ah×Obj)}{σ:St}{H:Hp}{s:af}{T:String}{x:V}{v:aa}(I:Inv X pins σ H s)(r:RelV x v)(ty:MU X.K T x H) :
 s.TypeIs v T/\∀a,v=.ref a->∃ob,s.heap.get? a=aB ob/\ob.dict=aC:=by
 cases x with
 |str z=>
  obtain⟨t,rfl⟩:=r;cases(show T = "str"from ty);exact⟨typeIs_str s z t,λ_ e=>nomatch e⟩
 |int i=>
  obtain⟨t,rfl⟩:=r;cases(show T = "int"from ty);exact⟨typeIs_int s i t,λ_ e=>nomatch e⟩
 |ref p=>
  cases r;rcases ty with⟨rfl,xs,hq⟩|⟨rfl,xs,hq⟩|⟨rfl,hk⟩|⟨rfl,S,n,hk⟩
  obtain⟨its,_,pl,_⟩:=I.list hq;refine⟨pl.isList.typeIs,λa e=>?_⟩;cases e;obtain⟨o,n,e,c,hd,_⟩:=pl;exact⟨o,e,hd⟩;obtain⟨its,_,⟨o,h1,h2,_,h3⟩,_⟩:=I.oG hq;refine⟨⟨o,h1,h2⟩,λa e=>?_⟩;cases e;exact⟨o,h1,h3⟩;have z:∃o,s.heap.get? p=aB o/\o.ExactDict:=by rcases hk with⟨kvs,hk⟩|⟨kvs,hk⟩;obtain⟨_,_,_,_,o,_,_,e,ex,_⟩:=I.hok p _ hk;exact⟨o,e,ex⟩;obtain⟨_,_,_,_,o,_,_,e,ex,_⟩:=I.hok p _ hk;exact⟨o,e,ex⟩
  obtain⟨o,e,ex⟩:=z;refine⟨⟨o,e,ex.1⟩,λa e2=>?_⟩;cases e2;exact⟨o,e,ex.2.1⟩;obtain⟨o,_,_,_,e,ex,_⟩:=I.hok p _ hk;refine⟨⟨o,e,ex.1⟩,λa e2=>?_⟩;cases e2;exact⟨o,e,ex.2.1⟩
 |_=>exact False.elim ty
noncomputable def Tu(K:aH)(T:String)(r:V->List V->Hp->VK->Prop)(to:TE)(t:TA):TE:=λσ H Q=>to σ H λx H1=>MU K T x H1/\t σ H1 λxs H2=>r x xs H2 Q
variable{o e:ao}{es:List ao}{to:TE}{t:TA}{name:Str}{apos cpos:Pos}{T id:String}{r:V->List V->Hp->VK->Prop}
theorem tW(pa:PlainAttrs T)(slot:Slot T name id)(hty:typeOf (.builtin id)=pure (.type "method_descriptor"))(hm:MT X id r)(ho:PE X o to)(ha:PA X (e::es) t)
 (hbase:autoParam (attributeBase o name X.env (eval o X.env)=eval o X.env) L2.aR1._auto_1)
 (hfew:autoParam (((backTo cpos (starEach (e::es) X.env)).all (λx=>!x.1)&& (backToKw cpos (keywordEach [] X.env)).all (λx=>x.1.isSome)
   && decide ((e::es).length+ ([]:List Keyword).length+ (if([]:List Keyword).isEmpty then 0 else 1)<30))=true) L2.aR1._auto_1)
 (hline:autoParam ((apos.endLine==cpos.line)=true) L2.aR1._auto_1) (hs:autoParam (starEach (e::es) X.env=(false,eval e X.env)::starEach es X.env) L2.aR1._auto_1) (hplain:autoParam ((backTo cpos (starEach es X.env)).any (·.1)=false) L2.aR1._auto_1) :
 PE X (.Call (.Attribute o name apos) (e::es) [] cpos) (Tu X.K T r to t):=by
 intro pins s σ H Q I h;refine wpAny_Call_method_late hbase hfew hline rfl (bf (ho pins s σ H _ I h) λv s1 z9=>z9.el λx H1 I1 r1 bQ=>?_);obtain⟨ty,q1⟩:=bQ;obtain⟨h1,h2⟩:=Tt I1 r1 ty;refine⟨T,id,pa,slot,hty,h1,h2,?_⟩;have hA:=ha cpos pins s1 σ H1 _ I1 q1;rw[hs]at hA ⊢;refine Calls.callWith_builtin (by show(false|| (backTo cpos (starEach es X.env)).any (·.1))=false;rw[hplain]<;>rfl) (Calls.evalArgs_plain ?_);exact bf hA λus s2 z9=>z9.el λvs H2 I2 r2 q2=>hm pins s2 σ H2 x vs v us Q I2 r1 r2 q2
/- xs.append(e),list.index on a Al tuple .. are MT facts of 06m -/
end
noncomputable def GD(X:Cx)(id:String)(r:V->List V->Hp->VK->Prop):Prop:=
 ∀(pins:List (ah×Obj))(s:af)(σ:St)(H:Hp)(x:V)(xs:List V)(v:aa)(us:List aa)(Q:VK),Inv X pins σ H s->RelV x v->Vals xs us->r x xs H Q->
  wpAny (model X.prog X.w) X.A (call (.builtin id) (v::us)) (EP X pins σ Q) X.xe s
theorem Vals.one:∀{x:V} {us:List aa},Vals [x] us->∃u,us=[u]/\RelV x u|_,_,.cons r .nil=>⟨_,rfl,r⟩
theorem Vals.rep{xs:List V}{us:List aa}(h:Vals xs us):∀k:Nat,Vals (bI k xs).flatten (bI k us).flatten
 |0=>.nil
 |k+1=>by
  rw[qM,qM,tL,tL];exact Vals.append h (Vals.rep h k)
theorem MV(its:List aa):∀(k:Nat) (acc:List aa),
 List.foldl (λx1 x2=>x1++x2) acc.toArray (bI k its.toArray)=(acc++(bI k its).flatten).toArray
 |0,acc=>by simp
 |k+1,acc=>by
  have e:acc.toArray++its.toArray=(acc++its).toArray:=by simp
  have e2:(acc++its)++(bI k its).flatten=acc++(bI (k+1) its).flatten:=by rw[qM,tL,ze]
  rw[<-e2,<-MV its k (acc++its),<-e,qM,lU]
section
variable{X:Cx}{pins:List (ah×Obj)}{σ:St}{H:Hp}{s:af}{l b:ah}{xs ys zs:List V}
theorem Inv.ki{its its':List aa}{n:Nat}{f:Array aa->Array aa}{t':Nat}(I:Inv X pins σ H s)(hH:H l=aB (.lst xs))
 (e:s.heap.get? l=aB {cls:=.type "list",data:=.seq its.toArray n}) (hf:f its.toArray=its'.toArray) (hv:Vals ys its') (hz:ys.length<=sizeLine) :
 Inv X pins σ (upd H l (.lst ys)) {s with heap:=s.heap.update l (Obj.mapSeq f),toks:=t'}:=by
 have q:=PySem.IsL.update e f;rw[hf]at q;refine I.write (x:=l) (e:=l) (by rw[hH];exact trivial) (.inl rfl) (λb' u hb hu=>(Heap.get?_update_other s.heap (Obj.mapSeq f) (eV hb)).trans hu) ⟨_,q⟩ ?_;exact⟨hz,its',_,hv,q⟩
theorem Inv.GF{its:List aa}{t':Nat}(I:Inv X pins σ H s)(hv:Vals ys its)(hz:ys.length<=sizeLine) :
 Inv X pins σ (upd H s.heap.objs.size (.lst ys)) {s with heap:=s.heap.push {cls:=.type "list",data:=.seq its.toArray},toks:=t'}:=
 I.laid (λ_ _ q=>cy _ q) (aZ _) ⟨hz,its,0,hv,iI _ rfl⟩
theorem Inv.fresh(I:Inv X pins σ H s):H s.heap.objs.size=aC:=I.hok.fresh (aZ _)
theorem Inv.fJ(I:Inv X pins σ H s)(hH:H l=aB (.lst xs)):xs.length<=sizeLine/\∃(its:List aa) (n:Nat),Vals xs its/\xs.length=its.length/\s.heap.get? l=aB {cls:=.type "list",data:=.seq its.toArray n}:=by obtain⟨z,its,n,r,e⟩:=I.hok l _ hH;exact⟨z,its,n,r,r.length,e⟩
theorem MW{n:Nat}(h:n<=sizeLine):Builtin.List.listTooLong n=false:=by unfold Builtin.List.listTooLong;exact jn (by lia)
end
section
variable{X:Cx}
noncomputable def Tv:V->List V->Hp->VK->Prop:=λx vs H Q=>∃l xs y,x=.ref l/\vs=[y]/\H l=aB (.lst xs)/\xs.length<sizeLine/\Q .aP (upd H l (.lst (xs++[y])))
theorem GG:GD X "list.append" Tv:=by intro pins s σ H x vs v us Q I rx rv h;obtain⟨l,xs,y,rfl,rfl,hH,hz,q⟩:=h;cases rx;obtain⟨u,rfl,ru⟩:=rv.one;obtain⟨z,its,n,r,hl,e⟩:=I.fJ hH;refine qK F.slot_list_append ⟨_,e,rfl⟩ F.entry_list_append (F.args_list_append_2 _ _) (PySem.list_append l its.toArray n u (by rw[dR];lia)) ⟨e,?_⟩;refine⟨.aP,_,I.ki (its':=its++[u]) hH e (by simp) (r.append (.cons ru .nil)) ?_,rfl,q⟩;rw[fU,zc];lia
noncomputable def Tw:V->List V->Hp->VK->Prop:=λx vs H Q=>∃l b xs zs,x=.ref l/\vs=[.ref b]/\H l=aB (.lst xs)/\H b=aB (.lst zs)/\xs.length+zs.length<=sizeLine/\Q .aP (upd H l (.lst (xs++zs)))
theorem zwa:GD X "list.extend" Tw:=by
 intro pins s σ H x vs v us Q I rx rv h;obtain⟨l,b,xs,zs,rfl,rfl,hH,hB,hz,q⟩:=h;cases rx;obtain⟨u,rfl,ru⟩:=rv.one;cases ru;obtain⟨z,its,n,r,hl,e⟩:=I.fJ hH;obtain⟨z2,its2,n2,r2,hl2,e2⟩:=I.fJ hB;have hsz:its.toArray.size+its2.toArray.size<=sizeLine:=by rw[dR,dR];lia
 have oK:¬(!its.toArray.isEmpty&&Builtin.List.listTooLong (its.toArray.size+its2.toArray.size))=true:=by rw[MW hsz,Bool.and_false];exact u9
 refine qK F.slot_list_extend ⟨_,e,rfl⟩ F.entry_list_extend (F.args_list_extend_2 _ _)
  (AutoSeq1.list_extend_list_list_0 l its.toArray n b its2.toArray n2 oK (by rw[dR];lia) (by lia)) ⟨e,e2,?_⟩
 refine⟨.aP,_,I.ki (its':=its++its2) hH e (by simp) (r.append r2) ?_,rfl,q⟩;rw[fU];lia
noncomputable def Am:R2:=λx y H Q=>∃l b xs zs,x=.ref l/\y=.ref b/\H l=aB (.lst xs)/\H b=aB (.lst zs)/\xs.length+zs.length<=sizeLine/\∀p,H p=aC->Q (.ref p) (upd H p (.lst (xs++zs)))
theorem Tz:dG X (binaryOp .Add) Am:=by
 intro pins s σ H x y v u Q I rx ry h;obtain⟨l,b,xs,zs,rfl,rfl,hH,hB,hz,q⟩:=h;cases rx;cases ry;obtain⟨z,its,n,r,hl,e⟩:=I.fJ hH;obtain⟨z2,its2,n2,r2,hl2,e2⟩:=I.fJ hB;refine PySem.P.add_list e e2 ?_ (by rw[dR,dR];lia);have ea:its.toArray++its2.toArray=(its++its2).toArray:=by simp
 rw[ea];exact⟨.ref _,_,I.GF (t':=s.toks) (r.append r2) (by rw[fU];lia),rfl,q _ I.fresh⟩
theorem MX{α:Type}(xs:List α)(k:Nat):(bI k xs).flatten.length=k*xs.length:=by
 induction k with|zero=>simp|succ k ih=>rw[qM,tL,fU,ih,Nat.succ_mul,Nat.add_comm]
end
end L2
namespace MY
open PySem PySem.W PySem.Calls PyProof.Rows
theorem TF{P:Params}{h:az}:∀(ns:List Int) (vs:List aa),WellAll P h vs (ns.map WData.int)->IntsAre vs ns:=by
 intro ns;induction ns with
 |nil=>
  intro vs w;rw[u7]at w;cases w;exact .nil
 |cons n ns ih=>
  intro vs w;rw[fm]at w;cases w with
  |cons a b=>
   cases a;exact .cons _ _ (ih _ b)
theorem TH{l:OpenLaw}{n:Nat}(hn:l.most=aB n){P:Params}{h:az}{args:List WData}{vals:List aa}
 (hpre:l.row.toRowW.claim.pre args) (hwl:WellAll P h vals args) :
 ∃a vs ns,vals=[Value.ref a]/\args=[WData.list (ns.map WData.int)]/\h.get? a=aB {cls:=.type "list",data:=.seq vs.toArray}/\IntsAre vs ns/\ns.length<=n:=by
 have hsh:WShape.hasAll [] args [.list .int]=true:=(pre_splitW hpre).1;have hc:l.pre.holds [] {args:=args}=true:=(pre_splitW hpre).2;obtain⟨d,r,rfl,h1,h2⟩:=hasAllW_cons hsh;obtain rfl:=hasAllW_nil h2;obtain⟨xs,rfl,h3⟩:=hasW_list h1;obtain⟨ns,rfl⟩:=items_int h3;have hlen:ns.length<=n:=by
  unfold OpenLaw.pre at hc;have h4:(WTm.not (.lt (.lit (.int (n:Int))) (.len (.arg 0)))).holds [] {args:=[.list (ns.map .int)]}=true:=by have h4:=(holds_andW hc).1;rw[hn]at h4;exact h4
  have h5:=condW_of h4 (w_not (w_lt w_lit (w_len_list (w_arg rfl))));rw[bx]at h5;refine Nat.le_of_not_lt λq=>?_;have q':(n:Int)< ((ns.length:Nat):Int):=by lia
  first
   |(rw[kY q']at h5;exact absurd h5 (by decide))
   |(simp at h5;lia)
 cases hwl with
 |cons w1 w2=>
  cases w2;cases w1 with|list ho hall=>exact⟨_,_,ns,rfl,rfl,ho,TF ns _ hall,hlen⟩
theorem TJ(l:OpenLaw)(args:List WData):l.row.toRowW.claim.post args (.bool true) args=true:=
 postW_of (r:=l.row.toRowW) (X:=(true==true))
  (show WShape.has [] (.bool true) .bool=true by first|rfl|decide|simp[WShape.has,WShape.arms,WShape.armsAll])
  (show(WTm.eq .res (.lit (.bool true))).value [] {args:=args,res:=aB (.bool true),after:=args}=aB (.bool (true==true))from w_eq_bool (w_res rfl) w_lit) rfl
theorem kj{l:OpenLaw}{n:Nat}{q:ai}{loose:List Str}{XP:(Str->Option aa)->az->Prop}{YP:aj->az->Prop}{d:DefRec}
 (hn:l.most=aB n) (hdf:d.params.defaults=[])
 (call:∀(w:aj)(s₀ s₁:af)(mg mb:Str->Option aa)(fa:ah)(o:Obj)(pm cd doc:aa)(a:ah)(vs:List aa)(ns:List Int),
   Ground q loose [] XP w s₀ mg mb s₁.heap->YP w s₁.heap->
   s₁.heap.get? fa=aB o->o.data=.func (docDef d.name d.params d.body d.scope pm cd doc)->s₁.heap.CodeRec cd d.name->mg d.name=aB (.ref fa)->
   s₁.heap.get? a=aB {cls:=.type "list",data:=.seq vs.toArray}->IntsAre vs ns->ns.length<=n->s₁.gens = #[]->
   codeAny (model l.prog w) callerA (.call (.ref fa) ⟨[.ref a],[]⟩) (λr s'=>r=.ok (.ret (.bool true))/\OldK s₁.heap s'.heap/\s'.os=s₁.os/\AllBare s'.gens) s₁) :
 WalkO q loose XP YP l.row.toRowW d [] (λf vs=>PySem.call f vs):=by
 intro w s₀ s₁ mg mb G Y fa o pm cd doc dV kV ho hd hcd hD hmg hg args vals as hpre hlay hrd hwl hlo;obtain rfl:dV=.none:=Dflts.none hD hdf;obtain rfl:kV=.none:=Dflts.noKw hD;obtain⟨a,vs,ns,rfl,rfl,hobj,hints,hlen⟩:=TH hn hpre hwl;refine enter_call (yY (call w s₀ s₁ mg mb fa o pm cd doc a vs ns G Y ho (fd_plain hd) hcd hmg hobj hints hlen hg) λr s' hq=>?_);obtain⟨rfl,h2,h3,h4⟩:=hq;exact⟨.inl ⟨.bool true,.bool true,[],rfl,λ_=>rfl,.bool true,TJ l _,λ_=>⟨List.Pairwise.nil,λ_ hm=>(nomatch hm)⟩⟩,h2,h3,h4⟩
end MY
namespace L2
open PySem PySem.Spec PyProof.Rows
theorem MZ:∀{vs:List aa} {ns:List Int},IntsAre vs ns->Vals (ns.map V.int) vs|_,_,.nil=>.nil|_,_,.cons n t h=>.cons ⟨t,rfl⟩ (MZ h)
noncomputable def vG(H:Hp):Prop:=∀b,H b=aC\/∃o xs,H b=aB (.bC o (.lst xs))
theorem TL{P:ai}{w:aj}{K:aH}{mg mb:Str->Option aa}{CX:qe}{k:Nat}{fa a:ah}{fd:au}{x:Str}{sp:Sp}{s₁:af}{vs:List aa}{ns:List Int}
 (KX:K.In s₁.heap) (hns:s₁.heap.Ns mainGlobals mg) (hb:s₁.heap.Ns builtinsNs mb) (GH:∀x:Str,x≠"__name__"->mb x=bootBuiltins x) (hlim:s₁.heap.NoLimit) (hg:s₁.gens = #[])
 (ha:s₁.heap.get? a=aB {cls:=.type "list",data:=.seq vs.toArray}) (hi:IntsAre vs ns) (hl:ns.length<=sizeLine) (hr:dw k callerA)
 (F:∀base:az,K.In base->base.Ns mainGlobals mg->fH P w K mg base CX k fa fd [x] sp) (hbind:∀(s:af)(u:aa),BindsTo s fd ⟨[u],[]⟩ [(x,u)])
 (qf:∀H:Hp,vG H->cR K H a (ns.map V.int)->sp [.ref a] H (λv _=>v=.bl true) λ_ _ _=>False)
 (GI:∀H e s',CX [] H s₁ (λ_ _ _=>False) e s'->False) :
 codeAny (model P w) callerA (.call (.ref fa) ⟨[.ref a],[]⟩) (λr s'=>r=.ok (.ret (.bool true))/\OldK s₁.heap s'.heap/\s'.os=s₁.os/\AllBare s'.gens) s₁:=by
 have rv:=MZ hi;have GJ:=hi.length;have core:∀H:Hp,vG H->cR K H a (ns.map V.int)->fq P w H s₁.heap->(∀b,H b≠aC->b=a)->(H a≠aC->K.lookup a=aC)->
  codeAny (model P w) callerA (.call (.ref fa) ⟨[.ref a],[]⟩) (λr s'=>r=.ok (.ret (.bool true))/\OldK s₁.heap s'.heap/\s'.os=s₁.os/\AllBare s'.gens) s₁:=by
  intro H hO hS hok hA hK;have base_of:∀{b:ah}{o:Obj},s₁.heap.get? b=aB o->H b=aC->(jI s₁.heap H).get? b=aB o:=λe n=>Rr e n;have Ac:∀{b:ah}{o:Obj}{es:Array DictEntry}{ep:Nat},s₁.heap.get? b=aB o->o.data=.dict es ep->H b=aC:=λ{b o es ep} e d=>by
   cases q:H b with
   |none=>rfl
   |some u=>
    have e':b=a:=hA b (by rw[q];simp);subst e';rw[ha]at e;cases e;have d':Data.seq vs.toArray _=Data.dict es ep:=d;cases d'
  have DP:∀{b:ah}{m:Str->Option aa},s₁.heap.Ns b m->(jI s₁.heap H).Ns b m:=λ{b m}⟨o,es,ep,e,d,r⟩=>⟨o,es,ep,base_of e (Ac e d),d,r⟩
  have M1:K.In (jI s₁.heap H):=λb o e=>base_of (KX b o e) (by
   cases q:H b with
   |none=>rfl
   |some u=>
    have e':b=a:=hA b (by rw[q];simp);subst e';rw[hK (by rw[q];simp)]at e;cases e)
  have hM:Mod K mg (jI s₁.heap H):=⟨M1,DP hns,⟨mb,DP hb,GH⟩,let⟨mc,h1,h2⟩:=hlim;⟨mc,DP h1,h2⟩⟩
  have e0:rq P w K mg (jI s₁.heap H) callerA [] s₁ H:=⟨rfl,hM,λb o e=>Rt e,Nat.le_of_eq (Rq _ _),trivial,λb hb=>absurd (show b∈([]:List ah)from hb) (by simp),hok,.of_eq hg⟩
  refine yY ((F _ M1 (DP hns)).run callerA [] s₁ H ⟨[.ref a],[]⟩ [.ref a] [.ref a] _ _ hr e0 (hbind s₁ (.ref a)) (.cons rfl .nil) (qf H hO hS)) λr s' h=>?_;cases r with
  |error e=>exact(GI H e s' h).elim
  |ok fl=>
   cases fl with
   |next=>exact False.elim h
   |brk=>exact False.elim h
   |cont=>exact False.elim h
   |ret u=>
    obtain⟨v,H',os,bare,un,GK,r',q⟩:=h;have q':v=.bl true:=q;subst q';obtain rfl:u=Value.bool true:=r';refine⟨rfl,OldK.of_keep λb o e=>?_,os,bare⟩;cases q:H b with
    |none=>exact un.keep b o e q (by intro z;exact absurd (show b∈([]:List ah)from z) (by simp)) (by simp)
    |some u=>
     rcases hO b with z|⟨ob,xs,z⟩;rw[q]at z;cases z;have z2:=un.iN b ob _ z;obtain⟨e1,_⟩:=hok b _ z;obtain⟨e2,_⟩:=GK b _ z2;rw[e]at e1;cases e1;exact e2
 cases hk:K.lookup a with
 |some o=>
  have e:=KX a o hk;rw[ha]at e;cases e;refine core (λ_=>aC) (λ_=>.inl rfl) (.inr ⟨_,vs.toArray,_,hk,rfl,rfl,rfl,by rw[dR,GJ];exact hl,by simpa using rv⟩) (λb u z=>by have z':(aC:Option HO)=aB u:=z;cases z') (λb z=>absurd rfl z) λz=>absurd rfl z
 |none=>
  refine core (λb=>if b=a then aB (.bC {cls:=.type "list",data:=.seq vs.toArray} (.lst (ns.map V.int)))else aC) (λb=>?_) (.inl (.inr ⟨{cls:=.type "list",data:=.seq vs.toArray},if_pos rfl⟩)) (λb u z=>?_) (λb z=>?_) λ_=>hk;by_cases hb:b=a;exact .inr ⟨_,_,if_pos hb⟩;exact .inl (if_neg hb);by_cases hb:b=a;have z':=(if_pos hb).symm.trans z;cases z';subst hb;exact⟨ha,by rw[bx];exact hl,vs,_,rv,ha⟩;have z':=(if_neg hb).symm.trans z;cases z';by_cases hb:b=a;exact hb;exact absurd (if_neg hb) z
theorem TN{l:PySem.W.OpenLaw}{n k:Nat}{q:ai}{loose:List Str}{XP:(Str->Option aa)->az->Prop}{YP:aj->az->Prop}{d:DefRec}{K:Params->aH}{CX:aj->qe}{sp:aj->Sp}{x:Str}
 (hn:l.most=aB n) (hn2:n<=sizeLine) (hdf:d.params.defaults=[]) (hr:dw k callerA)
 (hY:∀(w:aj)(h:az),YP w h->(K w.params).In h)
 (F:∀(w:aj)(mg:Str->Option aa)(fa:ah)(h:az),(K w.params).In h->h.Ns mainGlobals mg->mg d.name=aB (.ref fa)->
   ∃fd:au,(∀(s:af)(u:aa),BindsTo s fd ⟨[u],[]⟩ [(x,u)])/\
    ∀base:az,(K w.params).In base->base.Ns mainGlobals mg->fH l.prog w (K w.params) mg base (CX w) k fa fd [x] (sp w))
 (qf:∀(w:aj)(H:Hp)(a:ah)(ns:List Int),ns.length<=n->vG H->cR (K w.params) H a (ns.map V.int)->sp w [.ref a] H (λv _=>v=.bl true) λ_ _ _=>False)
 (GI:∀(w:aj)(H:Hp)(s:af)(e:aa)(s':af),CX w [] H s (λ_ _ _=>False) e s'->False) :
 PySem.W.WalkO q loose XP YP l.row.toRowW d [] (λf vs=>PySem.call f vs):=by
 refine MY.kj hn hdf λw s₀ s₁ mg mb fa o pm cd doc a vs ns G Y ho hd hcd hmg hobj hints hlen hg=>?_;have KX:=hY w _ Y;obtain⟨fd,hb,hF⟩:=F w mg fa _ KX G.T.g hmg;exact TL KX G.T.g G.T.b G.T.builtins G.T.nolimit hg hobj hints (gJ hlen hn2) hr hF hb (λH hO hS=>qf w H a ns hlen hO hS) λH e s'=>GI w H s₁ e s'
noncomputable def TQ(s:aq):Arguments:=match s with|.FunctionDef _ a _ _ _ _ _ _ _ _=>a|_=>{posonlyargs:=[],args:=[],vararg:=aC,kwonlyargs:=[],kw_defaults:=[],kwarg:=aC,defaults:=[]}
noncomputable def An(s:aq):List aq:=match s with|.FunctionDef _ _ b _ _ _ _ _ _ _=>b|_=>[]
noncomputable def jJ(s:aq):ay:=match s with|.FunctionDef _ _ _ _ _ _ sc _ _ _=>sc|_=>{kind:=.function,names:=[],isGenerator:=false,isCoroutine:=false}
noncomputable abbrev l6:qe:=λ_ _ _ _ _ _=>False
noncomputable abbrev E0:XK:=λ_ _ _=>False
theorem oM{X:Cx}:DO l6 X E0:=λ_ _ _ _ _ _ _ h=>h.elim
theorem M3{n:Nat}(h:n<=1000):n<sizeLine:=zh h (by decide)
noncomputable def jK(cells:List (Str×ah)):List (Str×NameKind)->List (Str×ah)->List (Str×ah)|[],cs=>cs|(n,k)::r,cs=>jK cells r (if k == .free then(match cells.lookup n with|some c=>(n,c)::cs|none=>cs)else cs)
theorem DQ{scope:ay}{env:Env}(hf:∀y∈scope.names,y.2=.free->∃c,env.cells.lookup y.1=aB c):closureFor scope env=pure (jK env.cells scope.names []):=by
 have go:∀(l:List (Str×NameKind))(cs:List (Str×ah)),(∀y∈l,y.2=.free->∃c,env.cells.lookup y.1=aB c)->
  (forIn l cs λ(x:Str×NameKind)(r:List (Str×ah))=>(match x with
    |(name,kind)=>if(kind==NameKind.free)=true then(do let a <-cellOf env name;pure (ForInStep.yield ((name,a)::r)))else pure (ForInStep.yield r):Sem (ForInStep (List (Str×ah)))))=(pure (jK env.cells l cs):Sem (List (Str×ah))):=by
  intro l;induction l with
  |nil=>intro cs _;rfl
  |cons x r ih=>
   intro cs h;obtain⟨n,k⟩:=x;rw[vec];by_cases hk:(k==NameKind.free)=true;have hk':k=.free:=by simpa using hk
   obtain⟨c,hc⟩:=h (n,k) fT hk';have hc':env.cells.lookup n=aB c:=hc;simp only[hk,bY,cellOf,hc',jK];exact ih _ λy hy=>h y (fE _ hy);have hk':(k==NameKind.free)=false:=by simpa using hk
   simp only[hk',fF,eG,jK];exact ih _ λy hy=>h y (fE _ hy)
 have e:=go scope.names [] hf;unfold closureFor;refine Eq.trans (nR (λt=>t >>= λcs=>pure cs) e) ?_;rfl
theorem DR{cells:List (Str×ah)}:∀(l:List (Str×NameKind)) (cs:List (Str×ah)),(∀x c,cs.lookup x=aB c->cells.lookup x=aB c)->∀x c,(jK cells l cs).lookup x=aB c->cells.lookup x=aB c
 |[],cs,h=>h
 |(n,k)::r,cs,h=>DR r _ λx c e=>by
  by_cases hk:(k==NameKind.free)=true;simp only[hk,bY]at e;cases hc:cells.lookup n with
  |none=>rw[hc]at e;exact h x c e
  |some d=>
   rw[hc]at e;simp only[gG]at e;by_cases hx:(x==n)=true;simp only[hx]at e;cases e;rw[show x=n by simpa using hx];exact hc;have hx':(x==n)=false:=by simpa using hx
   simp only[hx']at e;exact h x c e
  have hk':(k==NameKind.free)=false:=by simpa using hk
  simp only[hk',fF,eG]at e;exact h x c e
theorem M4{cells:List (Str×ah)}{x:Str}{c:ah}(hc:cells.lookup x=aB c):∀(l:List (Str×NameKind)) (cs:List (Str×ah)),cs.lookup x=aB c->(jK cells l cs).lookup x=aB c
 |[],cs,h=>h
 |(n,k)::r,cs,h=>M4 hc r _ (by
  by_cases hk:(k==NameKind.free)=true;simp only[hk,bY];cases hn:cells.lookup n with
  |none=>exact h
  |some d=>
   simp only[gG];by_cases hx:(x==n)=true;have:x=n:=by simpa using hx
   subst this;rw[hc]at hn;cases hn;simp;have hx':(x==n)=false:=by simpa using hx
   simp only[hx'];exact h
  have hk':(k==NameKind.free)=false:=by simpa using hk
  simp only[hk',fF,eG];exact h)
theorem GL{cells:List (Str×ah)}{x:Str}{c:ah}(hc:cells.lookup x=aB c):∀(l:List (Str×NameKind)) (cs:List (Str×ah)),(x,NameKind.free)∈l->(jK cells l cs).lookup x=aB c
 |[],cs,h=>by cases h
 |(n,k)::r,cs,h=>by
  rcases gH.mp h with e|e;cases e;refine M4 hc r _ ?_;rw[hc];simp[gG];exact GL hc r _ e
theorem GN{x:Str}:∀(l:List (Str×NameKind)) (a:Nat) (acc:List (Str×ah)),(x,NameKind.cell)∉l->(cellsFrom a l acc).lookup x=acc.lookup x
 |[],_,_,_=>rfl
 |(n,k)::r,a,acc,h=>by
  unfold cellsFrom;have hr:(x,NameKind.cell)∉r:=λz=>h (fE _ z);split;rename_i hk;have hk:k=.cell:=by simpa using hk
  rw[GN r _ _ hr,gG];have:(x==n)=false:=by rw[C5];rintro rfl;exact h (by rw[hk];exact fT)
  rw[this];exact GN r _ _ hr
theorem DS{x:Str}{c:ah}:∀(l:List (Str×NameKind)) (a:Nat) (acc:List (Str×ah)),(cellsFrom a l acc).lookup x=aB c->acc.lookup x=aB c\/a<=c
 |[],_,_,h=>.inl h
 |(n,k)::r,a,acc,h=>by
  unfold cellsFrom at h;split at h;rcases DS r _ _ h with h|h
  rw[gG]at h;split at h;cases h;exact .inr (aZ _);exact .inl h;exact .inr (Dq h);exact DS r _ _ h
theorem DT{x:Str}:∀(l:List (Str×NameKind)) (a:Nat) (acc:List (Str×ah)),(∃c,acc.lookup x=aB c)->∃c,(cellsFrom a l acc).lookup x=aB c
 |[],_,_,h=>h
 |(n,k)::r,a,acc,h=>by
  unfold cellsFrom;split;refine DT r _ _ ?_;rw[gG];split;exact⟨_,rfl⟩;exact h;exact DT r _ _ h
theorem GO{x:Str}:∀(l:List (Str×NameKind)) (a:Nat) (acc:List (Str×ah)),(x,NameKind.cell)∈l->∃c,(cellsFrom a l acc).lookup x=aB c
 |[],_,_,h=>by cases h
 |(n,k)::r,a,acc,h=>by
  unfold cellsFrom;rcases gH.mp h with e|e
  cases e;rw[if_pos (by rfl)];exact DT r _ _ ⟨a,by simp[gG]⟩;split;exact GO r _ _ e;exact GO r _ _ e
theorem GP{acc:List (Str×ah)}:∀(l:List (Str×NameKind)) (a:Nat) (acc:List (Str×ah)),(∀x y c,acc.lookup x=aB c->acc.lookup y=aB c->x=y)->(∀x c,acc.lookup x=aB c->c<a)->
 ∀x y c,(cellsFrom a l acc).lookup x=aB c->(cellsFrom a l acc).lookup y=aB c->x=y
 |[],_,_,h,_=>h
 |(n,k)::r,a,acc,h,hl=>by
  unfold cellsFrom;split;refine GP (acc:=acc) r _ _ (λx y c e1 e2=>?_) λx c e=>?_;rw[gG]at e1 e2;cases b1:x==n<;>cases b2:y==n<;>simp only[b1,b2]at e1 e2;exact h x y c e1 e2;cases e2;exact absurd (hl x _ e1) (fZ _);cases e1;exact absurd (hl y _ e2) (fZ _);rw[tG.mp b1,tG.mp b2];rw[gG]at e;cases b1:x==n<;>simp only[b1]at e;exact ve (hl x c e);cases e;exact fY _;exact GP (acc:=acc) r _ _ h hl
theorem GQ{x:Str}{c:ah}:∀(l:List (Str×NameKind)) (h:az) (acc:List (Str×ah)),(cellsFrom h.objs.size l acc).lookup x=aB c->h.objs.size<=c->(∀y d,acc.lookup y=aB d->h.objs.size<=d->h.IsCell d aC)->(pushCells h l).IsCell c aC
 |[],h,acc,e,hc,ha=>ha x c e hc
 |(n,k)::r,h,acc,e,hc,ha=>by
  unfold cellsFrom at e;unfold pushCells;split at e;rename_i hk;rw[if_pos hk];by_cases z:h.objs.size+1<=c;refine GQ r (h.push {cls:=.type "cell",data:=.cell aC}) ((n,h.objs.size)::acc) (by rw[jU];exact e) (by rw[jU];exact z) λy d e1 e2=>?_;rw[jU]at e2;rw[gG]at e1;cases b1:y==n<;>simp only[b1]at e1;exact(ha y d e1 (Dq e2)).keeps λb o q=>cy _ q;cases e1;exact absurd e2 (Nat.not_succ_le_self _);have hce:c=h.objs.size:=Nat.le_antisymm (Nat.le_of_lt_succ (Nat.lt_of_not_le z)) hc;have:(h.push {cls:=.type "cell",data:=.cell aC}).IsCell c aC:=⟨_,by rw[hce];exact iI _ rfl,rfl⟩
  exact this.keeps λb o q=>pushCells_keeps _ _ b o q;rename_i hk;rw[if_neg hk];exact GQ r h acc e hc ha
theorem M5{M:Model}{A:ak}{E:aa->af->Prop}{s:af}{scope:ay}{globals:ah}{cl:List (Str×ah)}{qual:Str}{env:Env}{Q:Env->af->Prop}(hcl:∀x c,cl.lookup x=aB c->c<s.heap.objs.size)
 (hQ:∀h',h'.Ns s.heap.objs.size (λ_=>aC)->(∀b o,s.heap.get? b=aB o->h'.get? b=aB o)->(∀x c,(cellsFrom (s.heap.objs.size+1) scope.names cl).lookup x=aB c->s.heap.objs.size<c->h'.IsCell c aC)->
   Q (newEnv scope s.heap.objs.size globals (cellsFrom (s.heap.objs.size+1) scope.names cl) qual aC .none (aB env) builtinsNs) {s with heap:=h'}) :
 wpAny M A (newFunctionEnv scope globals cl [] qual aC .none (aB env)) Q E s:=by
 simp only[newFunctionEnv,Option.isSome_some,bY];refine aJ (wpAny_alloc ?_);refine aJ (wpAny_layCells _ (λname kind cells=>by cases hkc:kind==NameKind.cell<;>simp[hkc]) _ _ _ _ ?_);have hz:({s with heap:=s.heap.push {cls:=.type "dict",data:=.dict #[]}}:af).heap.objs.size=s.heap.objs.size+1:=jU ..;rw[hz];refine aJ (bH (bH ?_));refine hQ (pushCells (s.heap.push {cls:=.type "dict",data:=.dict #[]}) scope.names) ((Heap.Ns.new s.heap (.type "dict")).keeps (pushCells_keeps _ _)) (λb o e=>pushCells_keeps _ _ b o (cy _ e)) λx c e hc=>?_;refine GQ scope.names (s.heap.push {cls:=.type "dict",data:=.dict #[]}) cl (by rw[jU];exact e) (by rw[jU];exact hc) λy d e1 e2=>?_;rw[jU]at e2;exact absurd (hcl y d e1) (jH.mpr (Dq e2))
theorem M6{cells:List (Str×ah)}{x:Str}:∀(l:List (Str×NameKind)) (cs:List (Str×ah)),(x,NameKind.free)∉l->cs.lookup x=aC->(jK cells l cs).lookup x=aC
 |[],cs,_,h=>h
 |(n,k)::r,cs,hl,h=>by
  have hr:(x,NameKind.free)∉r:=λz=>hl (fE _ z);refine M6 r _ hr ?_;by_cases hk:(k==NameKind.free)=true;simp only[hk,bY];cases cells.lookup n with
  |none=>exact h
  |some d=>
   simp only[gG];have:(x==n)=false:=by rw[C5];rintro rfl;exact hl (by rw[show k=NameKind.free by simpa using hk];exact fT)
   simp only[this];exact h
  have hk':(k==NameKind.free)=false:=by simpa using hk
  simp only[hk',fF,eG];exact h
theorem TR{cells:List (Str×ah)}{x:Str}{c:ah}{l:List (Str×NameKind)}(h:(x,NameKind.free)∉l):¬(jK cells l []).lookup x=aB c:=λz=>by
 rw[M6 l [] h rfl]at z;cases z
noncomputable abbrev Cx.comp(X:Cx)(N:List Str)(scope:ay)(C:ah)(s₀:af)(H₀:Hp)(ex:List ah):Cx:=
 {X with N:=N,s₀:=s₀,H₀:=H₀,env:=compEnvC scope (cellsFrom (C+1) scope.names (jK X.env.cells scope.names [])) C X.env,outer:=X.stack,stack:=X.stack,ex:=ex,fn:=λx=>scope.names.lookup x==aB .cell,pn:=[],xe:=λ_ _=>False}
structure aV(X:Cx)(ow fr:List Str)(ix:List Nat)(scope:ay):Prop where
 kind:scope.kind=.function
 Ao:∀y∈scope.names,y.2=.cell->scope.names.lookup y.1=aB .cell
 names:∀y∈scope.names,y.2=.local->scope.names.lookup y.1=aB .local
 own:∀x∈ow,scope.names.lookup x=aB .local\/scope.names.lookup x=aB .cell
 Aq:∀y∈scope.names,y.2=.free->scope.names.lookup y.1=aB .free
 free:∀y∈scope.names,y.2=.free->X.env.kindOf y.1=aB .cell\/X.env.kindOf y.1=aB .free
 at_:∀(k:Nat)(x:Str),fr[k]?=aB x->∃j,ix[k]?=aB j/\X.N[j]?=aB x/\scope.names.lookup x=aB .free
 len:ix.length=fr.length
noncomputable def jt(ow fr:List Str)(ix:List Nat)(σ:St):St:=ow.map (λ_=>aC)++ix.map λj=>(σ[j]?).join
theorem M7{x:Str}{k:NameKind}:∀{l:List (Str×NameKind)},l.lookup x=aB k->(x,k)∈l
 |[],h=>by cases h
 |(n,j)::r,h=>by
  simp only[gG]at h;by_cases hx:(x==n)=true;simp only[hx]at h;cases h;rw[show x=n by simpa using hx];exact fT;have hx':(x==n)=false:=by simpa using hx
  simp only[hx']at h;exact fE _ (M7 h)
theorem GR{env:Env}:∀{l:List (Str×NameKind)} {x:Str} {k:NameKind},
 (l.map λ(n,k)=>if(k==NameKind.free&&env.scope.kind == .function&&env.kindOf n==aB .cell)then(n,NameKind.cell)else(n,k)).lookup x=aB k->k=.cell\/k=.free->(x,NameKind.free)∈l\/(x,NameKind.cell)∈l
 |[],x,k,h,_=>by cases h
 |(n,j)::r,x,k,h,hh=>by
  have ih:=@GR env r x k;rw[fm]at h;by_cases hc':(j==NameKind.free&&env.scope.kind == .function&&env.kindOf n==aB .cell)=true;simp only[hc',bY,gG]at h;have hj:j=.free:=by simp only[bJ,tG]at hc';exact hc'.1.1
  by_cases hx:(x==n)=true;rw[show x=n by simpa using hx,hj];exact .inl fT;have hx':(x==n)=false:=by simpa using hx
  simp only[hx']at h;exact(ih h hh).imp (fE _) (fE _);have hcf:(j==NameKind.free&&env.scope.kind == .function&&env.kindOf n==aB .cell)=false:=by simpa using hc'
  simp only[hcf,fF,eG,gG]at h;by_cases hx:(x==n)=true;simp only[hx]at h;cases h;rcases hh with z|z
  rw[show x=n by simpa using hx,z];exact .inr fT;rw[show x=n by simpa using hx,z];exact .inl fT;have hx':(x==n)=false:=by simpa using hx
  simp only[hx']at h;exact(ih h hh).imp (fE _) (fE _)
theorem DU{env:Env}(hkf:env.scope.kind=.function):∀{l:List (Str×NameKind)} {x:Str},l.lookup x=aB .free->
 (l.map λ(n,k)=>if(k==NameKind.free&&env.scope.kind == .function&&env.kindOf n==aB .cell)then(n,NameKind.cell)else(n,k)).lookup x=aB (if env.kindOf x=aB .cell then .cell else .free)
 |[],x,h=>by cases h
 |(n,j)::r,x,h=>by
  have ih:=@DU env hkf r x;rw[fm];simp only[gG]at h;by_cases hx:(x==n)=true;simp only[hx]at h;cases h;have e:x=n:=by simpa using hx
  subst e;by_cases hq:env.kindOf x=aB .cell;simp[hkf,hq,gG];simp[hq,gG];have hx':(x==n)=false:=by simpa using hx
  simp only[hx']at h;by_cases hc':(j==NameKind.free&&env.scope.kind == .function&&env.kindOf n==aB .cell)=true;simp only[hc',bY,gG,hx'];exact ih h;have hcf:(j==NameKind.free&&env.scope.kind == .function&&env.kindOf n==aB .cell)=false:=by simpa using hc'
  simp only[hcf,fF,eG,gG,hx'];exact ih h
section
variable{X:Cx}{pins:List (ah×Obj)}{σ:St}{H:Hp}{s:af}{ow fr:List Str}{ix:List Nat}{scope:ay}{fp:List ah}
theorem M8(S:aV X ow fr ix scope)(I:Inv X pins σ H s)(hfp:∀b∈fp,eE X pins H b)(hlt:∀b∈fp,b<s.heap.objs.size){h':az}{tk:Nat}{m:Str->Option aa}(hn:h'.Ns s.heap.objs.size m)(hk:∀b o,s.heap.get? b=aB o->h'.get? b=aB o)(hnc:∀x c,(cellsFrom (s.heap.objs.size+1) scope.names (jK X.env.cells scope.names [])).lookup x=aB c->s.heap.objs.size<c->h'.IsCell c aC) :
 Inv (X.comp (ow++fr) scope s.heap.objs.size s H fp) [] (jt ow fr ix σ) H {s with heap:=h',toks:=tk}:=by
 have sub:=DR (cells:=X.env.cells) scope.names [] (λx c e=>by cases e);have TU:∀x c,(jK X.env.cells scope.names []).lookup x=aB c->c<s.heap.objs.size:=λx c e=>by
  obtain⟨v,q⟩:=I.cell x c (sub x c e);exact q.lt
 have two:∀x c,(cellsFrom (s.heap.objs.size+1) scope.names (jK X.env.cells scope.names [])).lookup x=aB c->X.env.cells.lookup x=aB c\/s.heap.objs.size<c:=λx c e=>(DS _ _ _ e).imp (sub x c) λz=>z;have pass:∀x,(x,NameKind.free)∈scope.names->scope.names.lookup x=aB .free->(cellsFrom (s.heap.objs.size+1) scope.names (jK X.env.cells scope.names [])).lookup x=(jK X.env.cells scope.names []).lookup x:=λx hx hl=>GN _ _ _ λz=>by
  have:=S.Ao _ z rfl;rw[hl]at this;cases this
 have kf:=I.ok.kind;have M9:∀x c,X.env.cells.lookup x=aB c->c≠s.heap.objs.size:=λx c e z=>by
  obtain⟨v,q⟩:=I.cell x c e;exact absurd q.lt (by rw[z];exact fZ _)
 have GS:∀x,(x,NameKind.free)∈scope.names->∃c,(jK X.env.cells scope.names []).lookup x=aB c/\X.env.cells.lookup x=aB c:=λx hx=>by
  obtain⟨c,hc⟩:=I.ok.has x (S.free _ hx rfl);exact⟨c,GL hc _ _ hx,hc⟩
 refine⟨⟨I.ok.mod,?_,I.ok.glob,I.ok.blt,aZ _,GP (acc:=[]) _ _ _ (λx y c a b=>I.ok.inj x y c (sub x c a) (sub y c b)) (λx c e=>ve (TU x c e)),λx hx=>?_,λx c e1 e2=>?_,I.ok.hd,I.ok.frames,.inl rfl,λb hb=>?_,λb o e=>?_,?_,λb o e hb=>?_,λb hb hz=>?_,I.stack,λb hb=>I.lW b hb⟩,
  rfl,I.bare,Un.kept hk,⟨m,hn,λi x v e1 e2 e3=>?_⟩,λx c e=>?_,I.hok.fresh (aZ _),λx c e=>(two x c e).elim (I.fy x c) (λz=>I.hok.fresh (tM z)),λp hp=>?_,I.hok.kept hk,?_⟩
 exact S.kind;have hx':(relabel scope X.env).names.lookup x=aB .cell\/(relabel scope X.env).names.lookup x=aB .free:=hx;have hm:(x,NameKind.free)∈scope.names\/(x,NameKind.cell)∈scope.names:=by rcases hx' with z|z;exact GR (env:=X.env) z (.inl rfl);exact GR (env:=X.env) z (.inr rfl)
 rcases hm with hm|hm;obtain⟨c,hc,_⟩:=GS x hm;exact DT _ _ _ ⟨c,hc⟩;exact GO _ _ _ hm;have e1:scope.names.lookup x=aB .cell:=by have e1:(scope.names.lookup x==aB NameKind.cell)=true:=e1;simpa using e1
 rcases DS _ _ _ e2 with z|z;exfalso;have hcl:∃y,X.env.cells.lookup x=aB c:=⟨c,sub x c z⟩
 exact absurd z (by
  intro z;exact TR (λq=>by
   have:=S.Aq _ q rfl;rw[e1]at this;cases this) z)
 exact Dq z;obtain⟨f0,f1,f2,f3,f4,f5⟩:=hfp b hb;refine⟨λz=>?_,λx c e=>(two x c e).elim (f4 x c) λz q=>by
  have:=hlt b hb;rw[q]at z;exact Nat.lt_asymm this z⟩
 have q:=hlt b hb;rw[z]at q;exact absurd q (fZ _);exact⟨(I.bs b o e).1,(I.bs b o e).2⟩;exact gJ I.ok.vp I.sz;obtain⟨f0,f1,f2,f3,f4,f5⟩:=hfp b hb;rcases f3 with z|z
 exact I.ok.oF b o e z;exact absurd (di (cQ (I.ok.bs b o e).1) z) (fZ _);obtain⟨f0,f1,f2,f3,f4,f5⟩:=hfp b hb;rcases gH.mp (I.lA b hz)with z|z
 exact f1 z;exact f2 z;have hlen:ow.length<=i:=by
  by_cases hi:i<ow.length;unfold jt at e2;rw[uW (by simpa using hi),dS]at e2;cases q:ow[i]? with|none=>rw[q]at e2;cases e2|some y=>rw[q]at e2;cases e2
  lia
 have TV:fr[i-ow.length]?=aB x:=by have e1:(ow++fr)[i]?=aB x:=e1;rw[oq hlen]at e1;exact e1
 have Na:(ix.map λj=>(σ[j]?).join)[i-ow.length]?=aB (aB v):=by unfold jt at e2;rw[oq (by simpa using hlen)]at e2;simpa using e2
 obtain⟨j,hj,hN,hl⟩:=S.at_ _ _ TV;rw[dS,hj]at Na;have oN:(σ[j]?).join=aB v:=nV Na;have hσ:σ[j]?=aB (aB v):=by
  cases q:σ[j]? with
  |none=>rw[q]at oN;cases oN
  |some o=>rw[q]at oN;cases o with
   |none=>cases oN
   |some w=>cases oN;rfl
 obtain⟨m0,hm0,TX⟩:=I.loc;have hmem:=M7 hl;have hkf:=S.free _ hmem rfl;have GU:yh X.env.scope x:=hkf.elim (λz=>.inr (.inl z)) λz=>.inr (.inr z);obtain⟨u,ru,lk⟩:=TX j x v hN hσ GU;refine⟨u,ru,.inr ?_⟩;have hcell:∃c,X.env.cells.lookup x=aB c/\s.heap.IsCell c (aB u):=by rcases lk with⟨z,_⟩|⟨_,c,e,z⟩;rcases hkf with q|q;rw[show X.env.kindOf x=aB .local from z]at q;cases q;rw[show X.env.kindOf x=aB .local from z]at q;cases q;exact⟨c,e,z⟩
 obtain⟨c,hc,o,ho,hd⟩:=hcell;refine⟨?_,c,(pass x hmem hl).trans (GL hc _ _ hmem),o,hk _ _ ho,hd⟩;show(relabel scope X.env).names.lookup x=aB .cell\/(relabel scope X.env).names.lookup x=aB .free;have q:=DU (env:=X.env) kf hl;by_cases z:X.env.kindOf x=aB .cell;rw[if_pos z]at q;exact .inl q;rw[if_neg z]at q;exact .inr q;rcases two x c e with z|z;obtain⟨v,q⟩:=I.cell x c z;obtain⟨o,ho,hd⟩:=q;exact⟨v,o,hk _ _ ho,hd⟩;exact⟨aC,hnc x c e z⟩;cases(show p∈([]:List (ah×Obj))from hp);show(jt ow fr ix σ).length=(ow++fr).length;unfold jt;rw[fU,bx,bx,fU,S.len]
end
theorem GV{α:Type}{M:Model}{A:ak}{t:Sem α}{Q:α->af->Prop}{E:aa->af->Prop}{s:af}(h:wpAny M A t Q (λ_ _=>False) s):wpAny M A t Q E s:=ie h (λ_ _ q=>q) λ_ _ z=>z.elim
noncomputable abbrev ir:aa->af->Prop:=λ_ _=>False
noncomputable abbrev yp(ifs:List ao)(env:Env):Sem Bool:=forIn ifs true λc r=>if r=true then do let ok <-isTrue c env (eval c env);pure (ForInStep.yield ok)else pure (ForInStep.yield r)
theorem TY{prog:ai}{w:aj}{A:ak}{R:Result->af->Prop}{s:af}{elt target iter:ao}{ifs:List ao}{scope:ay}{pos:Pos}{it acc:aa}{env:Env}(I:Nat->af->Prop)
 (turn:∀n s,I n s->wpAny (model prog w) A (pyNext it) (λr s₁=>match r with
   |none=>R (.ok .next) s₁
   |some v=>wpAny (model prog w) A (letOwnedTupleGo target it v) (λ_ s₀=>wpAny (model prog w) A (assign target env v) (λ_ s₂=>
    wpAny (model prog w) A (yp ifs env) (λok s₃=>
     if ok=true then wpAny (model prog w) A (eval elt env) (λx s₄=>
      wpAny (model prog w) A (call (.builtin "list.append") [acc,x]) (λ_ s₅=>∃m,m<n/\I m s₅) ir s₄) ir s₃
     else ∃m,m<n/\I m s₃) ir s₂) ir s₀) ir s₁) ir s)
 (n:Nat) (h:I n s) :
 codeAny (model prog w) A (.compLoop (.ListComp elt [⟨target,iter,ifs,0⟩] scope pos) 0 it acc env) R s:=by
 refine codeAny_loop rfl I (λn s hI=>?_) n h;show wpAny _ A ((compTurn (.ListComp elt [⟨target,iter,ifs,0⟩] scope pos) 0 it acc env).onRaise (λx=>do noteFrame x env;theTreesLotGoes x)) _ _ s;refine wpAny_noted (GV ?_);rw[compTurn_list];refine aJ (mQ (aJ (ie (turn n s hI) (λr s₁ h₁=>?_) λ_ _ h'=>h')));cases r with
 |none=>exact bH h₁
 |some v=>
  refine aJ (ie h₁ (λ_ s₀ h₀=>?_) λ_ _ h'=>h');refine aJ (ie h₀ (λ_ s₂ h₂=>aJ (ie h₂ (λok s₃ h₃=>?_) λ_ _ h'=>h')) λ_ _ h'=>h');cases ok with
  |true=>
   simp only[bY]at h₃ ⊢;exact aJ (aJ (ie h₃ (λx s₄ h₄=>aJ (ie h₄ (λ_ s₅ h₅=>bH (bH ⟨rfl,h₅⟩)) λ_ _ h'=>h')) λ_ _ h'=>h'))
  |false=>
   simp only[fF,eG]at h₃ ⊢;exact bH ⟨rfl,h₃⟩
noncomputable def iQ(X:Cx)(ifs:List ao)(t:TT):Prop:=
 ∀(pins:List (ah×Obj))(s:af)(σ:St)(H:Hp)(Q:Bool->Hp->Prop),Inv X pins σ H s->t σ H Q->wpAny (model X.prog X.w) X.A (yp ifs X.env) (TP X pins σ Q) X.xe s
noncomputable def GW:TT:=λ_ H Q=>Q true H
theorem TZ{X:Cx}:iQ X [] GW:=λpins s σ H Q I h=>wpAny_tests_nil ⟨H,I,h⟩
theorem T3{X:Cx}{c:ao}{t:TT}(h:PT X c t):iQ X [c] t:=λpins s σ H Q I q=>wpAny_tests_one (h pins s σ H Q I q)
noncomputable def GX(K:aH)(f:St->St)(wi:TI)(g:TG)(tc:TT)(te:TE):TE:=λσ H Q=>wi σ H λJ H1=>∀D,H1 D=aC->K.lookup D=aC->
 ∃W:Nat->Nat->St->Hp->List V->Prop,(∃m,W 0 m (f σ) (upd H1 D (.lst [])) [])/\∀i m σ' H' ys,W i m σ' H' ys->H' D=aB (.lst ys)/\
  ((J.stop i H'/\Q (.ref D) H')\/(J.go i H'/\∀x H2,J.tS i H' x H2->g x σ' H2 λσ2 H3=>tc σ2 H3 λb H4=>
    if b=true then te σ2 H4 λy H5=>H5 D=aB (.lst ys)/\ys.length<sizeLine/\∃m',m'<m/\W (i+1) m' σ2 (upd H5 D (.lst (ys++[y]))) (ys++[y])
    else ∃m',m'<m/\W (i+1) m' σ2 H4 ys))
section
variable{X:Cx}{ow fr:List Str}{ix:List Nat}{scope:ay}{tg iter elt:ao}{ifs:List ao}{pos:Pos}{wi:TI}{g:TG}{tc:TT}{te:TE}
theorem Nb{pins:List (ah×Obj)}{s:af}{σ:St}{Q:VK}{RR:aa->ah->Result->af->Prop}(S:aV X ow fr ix scope)(hc:X.calm=true)
 (hg:∀C s₀ H₀ ex,PG (X.comp (ow++fr) scope C s₀ H₀ ex) tg g) (ht:∀C s₀ H₀ ex,iQ (X.comp (ow++fr) scope C s₀ H₀ ex) ifs tc) (he:∀C s₀ H₀ ex,PE (X.comp (ow++fr) scope C s₀ H₀ ex) elt te)
 {itv:aa} {E:aa->af->Prop}
 (h:zL X pins σ tg (λJ H1=>∀D,H1 D=aC->X.K.lookup D=aC->
   ∃W:Nat->Nat->St->Hp->List V->Prop,(∃m,W 0 m (jt ow fr ix σ) (upd H1 D (.lst [])) [])/\∀i m σ' H' ys,W i m σ' H' ys->H' D=aB (.lst ys)/\
    ((J.stop i H'/\Q (.ref D) H')\/(J.go i H'/\∀x H2,J.tS i H' x H2->g x σ' H2 λσ2 H3=>tc σ2 H3 λb H4=>
      if b=true then te σ2 H4 λy H5=>H5 D=aB (.lst ys)/\ys.length<sizeLine/\∃m',m'<m/\W (i+1) m' σ2 (upd H5 D (.lst (ys++[y]))) (ys++[y])
      else ∃m',m'<m/\W (i+1) m' σ2 H4 ys))) itv s)
 (fin:∀D C H' s' m,eE X pins H' C->s'.heap.Ns C m->(∀h'',Heap.SameBut C s'.heap h''->Inv X pins σ H' {s' with heap:=h''})->Q (.ref D) H'->RR (.ref D) C (.ok .next) s') :
 wpAny (model X.prog X.w) X.A (newList []) (λacc s₃=>wpAny (model X.prog X.w) X.A (newFunctionEnv scope X.env.globals (jK X.env.cells scope.names []) [] X.env.qual aC .none (aB X.env)) (λcenv s₄=>
  codeAny (model X.prog X.w) X.A (.compStart (.ListComp elt [⟨tg,iter,ifs,0⟩] scope pos) 0 itv acc {cenv with scope:=relabel scope X.env}) (RR acc cenv.locals) s₄) E s₃) E s:=by
 obtain⟨it,fp,tn,J,H1,e,I1,T,st1,f1,hq⟩:=h;subst e;have hD:H1 s.heap.objs.size=aC:=I1.hok.fresh (aZ _);have GY:X.K.lookup s.heap.objs.size=aC:=by
  cases e:X.K.lookup s.heap.objs.size with|none=>rfl|some o=>exact absurd (cQ (I1.jr _ _ e)) (fZ _)
 obtain⟨W,⟨m0,w0⟩,turn⟩:=hq _ hD GY;have I3:Inv X pins σ (upd H1 s.heap.objs.size (.lst [])) {s with heap:=s.heap.push {cls:=.type "list",dict:=aC,data:=.seq ([]:List aa).toArray}}:=
  I1.laid (t':=s.toks) (o:=.lst []) (λb u q=>cy _ q) (aZ _) ⟨j8 _,[],0,.nil,iI _ rfl⟩
 have oO:∀b∈fp,b<s.heap.objs.size:=λb hb=>by
  obtain⟨o,ho,_⟩:=T.obj _ _ st1 b hb;exact cQ ho
 have f3:∀b∈fp,eE X pins (upd H1 s.heap.objs.size (.lst [])) b:=λb hb=>⟨by rw[bP (gh (oO b hb))];exact(f1 b hb).1,(f1 b hb).2⟩
 refine qH (M5 (λx c e=>(I3.cell x c (DR (cells:=X.env.cells) scope.names [] (λx c e=>by cases e) x c e)).elim λv q=>q.lt) (λh₁ hns hk0 hnc=>?_));dsimp only at hns hk0 hnc ⊢;generalize Ar:({s with heap:=s.heap.push {cls:=.type "list",dict:=aC,data:=.seq ([]:List aa).toArray}}:af)=s3 at I3;have vH:s3.heap=s.heap.push {cls:=.type "list",dict:=aC,data:=.seq ([]:List aa).toArray}:=by rw[<-Ar]
 rw[<-vH]at hns hk0 hnc ⊢;have hk:∀b o,s3.heap.get? b=aB o->h₁.get? b=aB o:=hk0;have vI:∀b∈fp,b<s3.heap.objs.size:=λb hb=>by rw[vH,jU];exact ve (oO b hb)
 have J3:=M8 S I3 f3 vI (tk:=s.toks) hns hk hnc;have st3:tn 0 h₁:=T.keep _ _ _ st1 λb hb o e=>hk b o (by rw[vH];exact cy _ e);have vJ:∀b∈fp,(X.comp (ow++fr) scope s3.heap.objs.size s3 (upd H1 s.heap.objs.size (.lst [])) fp).Ok->∀{H':Hp},H' b=aC->eE (X.comp (ow++fr) scope s3.heap.objs.size s3 (upd H1 s.heap.objs.size (.lst [])) fp) [] H' b:=λb hb ok H' hn=>
  ⟨hn,(ok.yi b hb).1,ok.mU b hb,.inl hb,(ok.yi b hb).2,λp hp=>by cases(show p∈([]:List (ah×Obj))from hp)⟩
 have back:∀{σ':St}{H':Hp}{s':af},Inv (X.comp (ow++fr) scope s3.heap.objs.size s3 (upd H1 s.heap.objs.size (.lst [])) fp) [] σ' H' s'->∀h'',Heap.SameBut s3.heap.objs.size s'.heap h''->Inv X pins σ H' {s' with heap:=h''}:=λ{σ' H' s'} I' h'' hs=>by
  have nW:∀b o,s3.heap.get? b=aB o->b≠s3.heap.objs.size:=λb o e=>gh (cQ e);have un:Un (frs X.stack) fp (upd H1 s.heap.objs.size (.lst [])) H' s3.heap h'':=
   ⟨λb o e n hb hx=>(hs.2 b (nW b o e)).trans (I'.base.keep b o e n hb hx),λb o e n hb hx=>by
    obtain⟨sl,q⟩:=I'.base.slot b o e n hb hx;exact⟨sl,(hs.2 b (nW b o e)).trans q⟩,I'.base.free,λb o e hx=>by
    obtain⟨o',q⟩:=I'.base.there b o e hx;exact⟨o',(hs.2 b (nW b o e)).trans q⟩,I'.base.tups,I'.base.iN,I'.base.jb⟩
  have hok:fq X.prog X.w H' h'':=λb ob e=>by
   refine(I'.hok b ob e).stay (λc w' hcc q=>(hs.2 c ?_).trans q) (λ_ q=>q) λ_ _ q=>q;rintro rfl;have hfree:=I'.free;rcases hcc with rfl|hcc
   rw[show H' s3.heap.objs.size=aC from hfree]at e;cases e;rw[show H' s3.heap.objs.size=aC from hfree]at hcc;cases hcc
  have hos:s'.os=s3.os:=I'.os;exact I3.tQ (s':={s' with heap:=h''}) (ch:=fp) hos un hok I'.bare λb hb=>by
   obtain⟨_,a1,a2,a3,a4,a5⟩:=f1 b hb;exact⟨a3,a1,a4,a5⟩
 have loop:∀s4:af,Inv (X.comp (ow++fr) scope s3.heap.objs.size s3 (upd H1 s.heap.objs.size (.lst [])) fp) [] (jt ow fr ix σ) (upd H1 s.heap.objs.size (.lst [])) s4->tn 0 s4.heap->
  codeAny (model X.prog X.w) X.A (.compLoop (.ListComp elt [⟨tg,iter,ifs,0⟩] scope pos) 0 (.ref it) (.ref s.heap.objs.size) (X.comp (ow++fr) scope s3.heap.objs.size s3 (upd H1 s.heap.objs.size (.lst [])) fp).env)
   (RR (.ref s.heap.objs.size) s3.heap.objs.size) s4:=by
  intro s4 I4 GZ;refine TY (λn s'=>∃i σ' H' ys,Inv (X.comp (ow++fr) scope s3.heap.objs.size s3 (upd H1 s.heap.objs.size (.lst [])) fp) [] σ' H' s'/\tn i s'.heap/\(∀b∈fp,H' b=aC)/\W i n σ' H' ys) ?_ m0 ⟨0,_,_,[],I4,GZ,λb hb=>(f3 b hb).1,w0⟩;rintro n s5 ⟨i,ko,H5,ys,I5,mX,qZ,w5⟩;obtain⟨hDl,alt⟩:=turn i n ko H5 ys w5;rcases alt with⟨stop,q⟩|⟨go,step⟩
  .refine bf (T.done (X.comp (ow++fr) scope s3.heap.objs.size s3 (upd H1 s.heap.objs.size (.lst [])) fp) rfl rfl rfl hc i [] s5 ko H5 ir I5 (λb hb=>vJ b hb I5.ok (qZ b hb)) mX stop) λr s6 bQ=>?_
   obtain⟨hr,I6⟩:=bQ;subst hr;obtain⟨m6,DV,_⟩:=I6.loc;exact fin _ _ H5 s6 m6 (I3.kc (aZ _) I6.free) DV (back I6) q
  refine bf (T.item (X.comp (ow++fr) scope s3.heap.objs.size s3 (upd H1 s.heap.objs.size (.lst [])) fp) rfl rfl rfl hc i [] s5 ko H5 ir I5 (λb hb=>vJ b hb I5.ok (qZ b hb)) mX go) λr s6 bQ=>?_;obtain⟨u,hr,h6⟩:=bQ;subst hr;refine bf h6 λ_ s7 bQ=>?_;obtain⟨x,H7,I7,r7,y7,vK,G0⟩:=bQ;have G1:=I7.pinned (λb hb=>vJ b hb I7.ok (G0 b hb)) (T.obj _ _ vK);have again:∀{kq:St}{H8:Hp}{s8:af}{zs:List V}{m':Nat},Inv (X.comp (ow++fr) scope s3.heap.objs.size s3 (upd H1 s.heap.objs.size (.lst [])) fp) ([]++vz fp s7.heap) kq H8 s8->m'<n->W (i+1) m' kq H8 zs->
   ∃m,m<n/\∃i σ' H' ys,Inv (X.comp (ow++fr) scope s3.heap.objs.size s3 (upd H1 s.heap.objs.size (.lst [])) fp) [] σ' H' s8/\tn i s8.heap/\(∀b∈fp,H' b=aC)/\W i m σ' H' ys:=λ{kq H8 s8 zs m'} I8 hm w8=>by
   refine⟨m',hm,i+1,kq,H8,zs,I8.dO,T.keep _ _ _ vK λb hb o e=>(I8.pin (b,o) (jG _ (jG _ (tT hb e)))).1,λb hb=>?_,w8⟩;obtain⟨o,e,d⟩:=T.obj _ _ vK b hb;exact(I8.pin (b,o) (jG _ (jG _ (tT hb e)))).2.1
  refine bf (hg _ _ _ _ _ s7 ko H7 x u _ G1 r7 (step x H7 y7)) λ_ s8 bQ=>?_;obtain⟨kq,H8,I8,q8⟩:=bQ;refine bf (ht _ _ _ _ _ s8 kq H8 _ I8 q8) λok s9 z9=>z9.el λH9 I9 q9=>?_;cases ok with
  |false=>
   simp only[fF,eG]at q9 ⊢;obtain⟨m',hm,w9⟩:=q9;exact again I9 hm w9
  |true=>
   simp only[bY]at q9 ⊢;refine bf (he _ _ _ _ _ s9 kq H9 _ I9 q9) λy G2 bQ=>?_;obtain⟨vy,G3,G4,ry,G5,hz,m',hm,G6⟩:=bQ;refine bf (GG _ G2 kq G3 (.ref s.heap.objs.size) [vy] (.ref s.heap.objs.size) [y] (λv H'=>H'=upd G3 s.heap.objs.size (.lst (ys++[vy]))) G4 rfl (.cons ry .nil) ⟨_,ys,vy,rfl,rfl,G5,hz,rfl⟩) λ_ s11 bQ=>?_;obtain⟨v11,H11,T4,_,nY⟩:=bQ;subst nY;exact again T4 hm G6
 have DW:Inv (X.comp (ow++fr) scope s3.heap.objs.size s3 (upd H1 s.heap.objs.size (.lst [])) fp) [] (jt ow fr ix σ) (upd H1 s.heap.objs.size (.lst [])) {s with heap:=h₁,toks:=s.toks}:=by rw[<-Ar]at J3 ⊢;exact J3
 exact codeAny_compStart_list (loop _ DW st3) (T.self _ 0 _ _ _ st3 (loop _ DW st3))
theorem As(S:aV X ow fr ix scope)(hc:X.calm)(hi:PI X tg iter wi)
 (hg:∀C s₀ H₀ ex,PG (X.comp (ow++fr) scope C s₀ H₀ ex) tg g) (ht:∀C s₀ H₀ ex,iQ (X.comp (ow++fr) scope C s₀ H₀ ex) ifs tc) (he:∀C s₀ H₀ ex,PE (X.comp (ow++fr) scope C s₀ H₀ ex) elt te)
 (hs:∀x,foldedSetIterable iter X.env x=pure x:=by intro _;rfl):PE X (.ListComp elt [⟨tg,iter,ifs,0⟩] scope pos) (GX X.K (jt ow fr ix) wi g tc te):=by
 intro pins s σ H Q I h;rw[eval_ListComp];refine C6 (use:=aC) rfl hs (DQ λy hy e=>I.ok.has _ (S.free y hy e)) S.kind S.names (bf (hi pins s σ H _ I h) λv s1 h1=>bf h1 λitv s2 h2=>?_);exact Nb (RR:=λacc C=>compPost (model X.prog X.w) X.A X.xe aC (EP X pins σ Q) acc C) S hc hg ht he h2 λD C H' s' m _ hn hI q=>⟨m,hn,λh'' lC=>⟨.ref D,H',hI h'' lC,rfl,q⟩⟩
theorem T5{i:Nat}{y:Str}{py spos:Pos}(hN:X.N.Nodup)(G7:X.N[i]?=aB y)(hy:Loc X.env.scope y)(S:aV X ow fr ix scope)(hc:X.calm)(hi:PI X tg iter wi)
 (hg:∀C s₀ H₀ ex,PG (X.comp (ow++fr) scope C s₀ H₀ ex) tg g) (ht:∀C s₀ H₀ ex,iQ (X.comp (ow++fr) scope C s₀ H₀ ex) ifs tc) (he:∀C s₀ H₀ ex,PE (X.comp (ow++fr) scope C s₀ H₀ ex) elt te)
 (hsw:autoParam (swapsWith (.ListComp elt [⟨tg,iter,ifs,0⟩] scope pos) (aB (.Name y py)) spos.line X.env=pure true) L2.aR1._auto_1)
 (hf:autoParam (X.fn y=true\/X.env.scope.names.lookup y=aB .local) L2.aF1._auto_1)
 (hs:∀x,foldedSetIterable iter X.env x=pure x:=by intro _;rfl):PS X (.Assign [.Name y py] (.ListComp elt [⟨tg,iter,ifs,0⟩] scope pos) spos) (qY (GX X.K (jt ow fr ix) wi g tc te) (iP i)):=by
 intro pins s σ H D I h;rw[exec_Assign_Name_used _ _ _ _ hsw];refine aJ (mQ (aJ ?_));show wpAny _ X.A (do let _ <-comprehension (.ListComp elt [⟨tg,iter,ifs,0⟩] scope pos) scope X.env _ (newList []) false (eval iter X.env) (aB (assign (.Name y py) X.env))) _ _ s;refine aJ (ie (C6 (use:=aB (assign (.Name y py) X.env)) (Q:=λ_ s'=>SP X pins D .next s') rfl hs (DQ λy hy e=>I.ok.has _ (S.free y hy e)) S.kind S.names
  (bf (hi pins s σ H _ I h) λv s1 h1=>bf h1 λitv s2 h2=>?_)) (λ_ s' hq=>bH (bH hq)) λ_ _ e=>e)
 refine Nb (Q:=λx H1=>iP i x σ H1 D.nx) (RR:=λacc C=>compPost (model X.prog X.w) X.A X.xe (aB (assign (.Name y py) X.env)) (λ_ s'=>SP X pins D .next s') acc C) S hc hg ht he h2 λd C H' s' m hC hn hI q=>?_;show wpAny _ X.A (assign (.Name y py) X.env (.ref d)) _ _ _;have I':Inv X pins σ H' s':=by have z:=hI s'.heap (.refl ..);exact z
 refine wpAny_assign_Name (F2 I' hN G7 hy (v:=.ref d) rfl (λs'' G8 ⟨a,vL,ha⟩=>?_) hf);obtain⟨c0,c1,c2,c3,c4,c5⟩:=hC;have G9:C≠a:=by rcases ha with rfl|ha;exact c1;exact λz=>c4 _ _ ha z.symm
 refine⟨m,hn.sameBut vL G9,λh'' lC=>⟨_,H',G8.turned (t':=s''.toks) (it:=C) (λb o hb e=>(lC.2 b hb).trans e) c0 c1 c3 c4 c5,q⟩⟩
end
end L2
set_option maxHeartbeats 4000000
namespace L2
open PySem PySem.Spec PyProof.Rows
mutual
inductive Rp(K:aH)(M:ah->Prop)(H:Hp):V->aA->Prop
 |aP:Rp K M H .aP .none
 |bl (b:Bool):Rp K M H (.bl b) (.bool b)
 |int (i:Int):Rp K M H (.int i) (.int i)
 |str (x:Str):Rp K M H (.str x) (.str x)
 |tup {a:ah} {xs:List V} {ds:List aA}:cj K H a xs->¬M a->m5 K M H xs ds->Rp K M H (.ref a) (.tuple ds)
 |lst {a:ah} {xs:List V} {ds:List aA}:cR K H a xs->¬M a->m5 K M H xs ds->Rp K M H (.ref a) (.list ds)
inductive m5(K:aH)(M:ah->Prop)(H:Hp):List V->List aA->Prop
 |nil:m5 K M H [] []
 |cons {x:V} {d:aA} {xs:List V} {ds:List aA}:Rp K M H x d->m5 K M H xs ds->m5 K M H (x::xs) (d::ds)
end
section
variable{X:Cx}{pins:List (ah×Obj)}{σ:St}{H:Hp}{s:af}{M:ah->Prop}
mutual
theorem Rp.reads(I:Inv X pins σ H s):∀{x:V} {d:aA} {u:aa},Rp X.K M H x d->RelV x u->∃as,Reads s.heap u d as
 |_,_,_,.aP,r=>by cases r;exact⟨_,.none⟩
 |_,_,_,.bl b,r=>by cases r;exact⟨_,.bool b⟩
 |_,_,_,.int i,r=>by obtain⟨t,rfl⟩:=r;exact⟨_,.int i t⟩
 |_,_,_,.str x,r=>by obtain⟨t,rfl⟩:=r;exact⟨_,.str x t⟩
 |_,_,_,.tup h n rr,r=>by
  cases r;obtain⟨its,rv,p,_⟩:=I.tuple h;obtain⟨o,ho,hc,m,hd⟩:=p;obtain⟨as,ra⟩:=m5.reads I rr rv;exact⟨_,.tuple ho hc hd (by simpa using ra)⟩
 |_,_,_,.lst h n rr,r=>by
  cases r;obtain⟨its,rv,p,_⟩:=I.list h;obtain⟨o,m,ho,hc,_,hd⟩:=p;obtain⟨as,ra⟩:=m5.reads I rr rv;exact⟨_,.list ho hc hd (by simpa using ra)⟩
theorem m5.reads(I:Inv X pins σ H s):∀{xs:List V} {ds:List aA} {us:List aa},m5 X.K M H xs ds->Vals xs us->∃as,ReadsAll s.heap us ds as
 |_,_,_,.nil,.nil=>⟨_,.nil⟩
 |_,_,_,.cons r t,.cons q v=>by
  obtain⟨as,h1⟩:=Rp.reads I r q;obtain⟨bs,h2⟩:=m5.reads I t v;exact⟨_,.cons h1 h2⟩
end
noncomputable def Au(K:aH):R2:=λx y H Q=>∃d e,Rp K (λ_=>False) H x d/\Rp K (λ_=>False) H y e/\SeqAt.shaped d=true/\SeqAt.shaped e=true/\Q (.bl (PyData.eqv d e)) H
noncomputable def Av(K:aH):R2:=λx y H Q=>∃d e,Rp K (λ_=>False) H x d/\Rp K (λ_=>False) H y e/\SeqAt.shaped d=true/\SeqAt.shaped e=true/\Q (.bl (!PyData.eqv d e)) H
theorem T6(hu:X.A.units+64<cLine):dG X (compareOp .Eq) (Au X.K):=by intro pins s σ H x y v u Q I rx ry h;obtain⟨d,e,r1,r2,s1,s2,q⟩:=h;obtain⟨as,ra⟩:=r1.reads I rx;obtain⟨bs,rb⟩:=r2.reads I ry;exact PyProof.Rows.eq_dataH ra rb s1 s2 hu ⟨.bl _,H,I,rfl,q⟩
theorem T7(hu:X.A.units+64<cLine):dG X (compareOp .NotEq) (Av X.K):=by intro pins s σ H x y v u Q I rx ry h;obtain⟨d,e,r1,r2,s1,s2,q⟩:=h;obtain⟨as,ra⟩:=r1.reads I rx;obtain⟨bs,rb⟩:=r2.reads I ry;exact PyProof.Rows.ne_dataH ra rb s1 s2 hu ⟨.bl _,H,I,rfl,q⟩
end
section
variable{prog:ai}{w:aj}{A:ak}{E:aa->af->Prop}{s:af}
theorem Nc{I t:ah}{k:Nat}{its:Array aa}{y:aa}{Q:aa->af->Prop}(hi:s.heap.IsTupleIter I t k)(ht:s.heap.IsTuple t its)(hy:its[k]?=aB y)
 (q:∀g,g.IsTupleIter I t (k+1)->Heap.SameBut I s.heap g->Q y {s with heap:=g}):wpAny (model prog w) A (Builtin.SmallTypes.nextOf (.ref I)) Q E s:=by
 obtain⟨oi,e1,e2,e3⟩:=id hi;obtain⟨ot,e4,_,kt,e5⟩:=ht;unfold Builtin.SmallTypes.nextOf;refine aJ (xG (name:=Str.ofString "__next__") hi.typeIs Dv (xM Dv hi.typeIs F.entry_tuple_iterator_next ?_ (F.args_tuple_iterator_next_1 _)));show wpAny _ _ (field (.ref I) 0 >>= _) _ _ s;refine aJ (lq e1 e3 (x:=.ref t) rfl ?_);show wpAny _ _ (if(Value.ref t==Value.none)=true then _ else _) _ _ s;rw[if_neg (show ¬((Value.ref t==Value.none)=true)from λz=>nomatch z)];show wpAny _ _ (field (.ref I) 1 >>= _) _ _ s;refine aJ (lq e1 e3 (x:=.int k 0) rfl ?_);show wpAny _ _ (seqItems? (.ref t) >>= _) _ _ s;refine aJ (qI e4 e5 ?_);simp only[vg,hy];refine aJ (wpAny_setField e1 e3 (by simp) (bH ⟨y,rfl,bH (q _ ?_ (DE ..))⟩));refine⟨_,Dm _ e1 (Obj.isFreed_of_fields (Obj.data_mapFields e3 _)),(Obj.cls_mapFields ..).trans e2,?_⟩;rw[Obj.data_mapFields e3];simp[rawInt]
theorem Hf{I t:ah}{k:Nat}{its:Array aa}{Q:aa->af->Prop}(hA:A.handled=aC)(hi:s.heap.IsTupleIter I t k)(ht:s.heap.IsTuple t its)(hy:its[k]?=aC)
 (q:∀g e,Heap.ExtBut I s.heap g->(∃o,g.get? e=aB o/\o.cls=.type "StopIteration")->E (.ref e) {s with heap:=g}):wpAny (model prog w) A (Builtin.SmallTypes.nextOf (.ref I)) Q E s:=by
 obtain⟨oi,e1,e2,e3⟩:=id hi;obtain⟨ot,e4,_,kt,e5⟩:=ht;unfold Builtin.SmallTypes.nextOf;refine aJ (xG (name:=Str.ofString "__next__") hi.typeIs Dv (xM Dv hi.typeIs F.entry_tuple_iterator_next ?_ (F.args_tuple_iterator_next_1 _)));show wpAny _ _ (field (.ref I) 0 >>= _) _ _ s;refine aJ (lq e1 e3 (x:=.ref t) rfl ?_);show wpAny _ _ (if(Value.ref t==Value.none)=true then _ else _) _ _ s;rw[if_neg (show ¬((Value.ref t==Value.none)=true)from λz=>nomatch z)];show wpAny _ _ (field (.ref I) 1 >>= _) _ _ s;refine aJ (lq e1 e3 (x:=.int k 0) rfl ?_);show wpAny _ _ (seqItems? (.ref t) >>= _) _ _ s;refine aJ (qI e4 e5 ?_);simp only[vg,hy];refine aJ (qL (aJ (wpAny_setField e1 e3 (by simp) ?_)));show wpAny _ _ (newExc (.type "StopIteration") [] >>= _) _ _ _;refine aJ ?_;simp only[newExc,newTuple];refine aJ (qH ?_ (by size_fits));refine aJ (m:=firstArgMember _ _) (Dc (a:=Value.none) (by first|rfl|(simp only[firstArgMember];rfl)) ?_);refine qH ?_ (by size_fits);simp only[raiseNew];refine aJ (wpAny_handled ?_);first|rw[show A.in1.handled=aC from hA]|rw[hA]
 refine aJ (bH (wpAny_throw ?_));exact q _ _ (((DE ..).extBut.push _).push _) ⟨_,iI _ rfl,rfl⟩
end
theorem Nd{h h':az}{a:ah}{its:Array aa}(x:h.IsTuple a its)(e:∀o,h.get? a=aB o->h'.get? a=aB o):h'.IsTuple a its:=let⟨o,ho,r⟩:=x;⟨o,e _ ho,r⟩
theorem T8{prog:ai}{w:aj}{A:ak}(hA:A.handled=aC)(I t:ah)(hne:t≠I)(its:Array aa) :
 Draws prog w A I [I,t] its.size (λi v=>its[i]?=aB v) (λi h=>h.IsTupleIter I t i/\h.IsTuple t its)where
 live:=λ_ _ st=>let⟨o,ho,_⟩:=st.1;⟨o,ho⟩
 frame:=λ_ _ _ st hk=>⟨st.1.at λo e=>hk I (by simp) o e,Nd st.2 λo e=>hk t (by simp) o e⟩
 item:=λi s Q E hi st q=>Nc st.1 st.2 (y:=its[i]) (by simp[hi]) λg a b=>q _ g s.toks (by simp[hi]) ⟨a,st.2.extBut b.extBut hne⟩ b
 done:=λs Q E st q=>Hf hA st.1 st.2 (by simp) q
theorem T9(l:ah)(its:Array aa)(n:Nat)(dc:Option ah)(sl:Array (Option aa)) :
 Meets (Builtin.«enumerate.__new__» ⟨[.type "enumerate",.ref l],[]⟩) (λ_ R s=>s.heap.get? l=aB {cls:=.type "tuple",dict:=dc,data:=.seq its n,slots:=sl}/\
  R (.ok (.ret (.ref (s.heap.push {cls:=.type "tuple_iterator",data:=.fields #[.ref l,.int 0 0]}).objs.size)))
   {s with heap:=(s.heap.push {cls:=.type "tuple_iterator",data:=.fields #[.ref l,.int 0 0]}).push {cls:=.type "enumerate",data:=.fields #[.none,.bool false,.ref s.heap.objs.size,rawInt 0,.none,.none]}}):=
 .of_wp λprog w A R s h=>by
  obtain⟨hp,g,d,tk,os⟩:=s;obtain⟨e,h⟩:=h;have hsub:=sub_enumerate;have hT:Heap.IsTuple (Shared.heap ⟨hp,g,d,tk,os⟩) l its:=⟨_,e,rfl,n,rfl⟩
  wp_walk using oE e;refine wpAny_stack_any λst=>bH ?_;split;rename_i c _ _ _ _ _;cases(c==Value.type "enumerate")<;> (wp_walk using oE e,tH hT;exact⟨_,rfl,h⟩)
  .wp_walk using oE e,tH hT
   exact⟨_,rfl,h⟩
theorem Ua{prog:ai}{w:aj}{A:ak}{E:aa->af->Prop}{s:af}{l:ah}{its:Array aa}{Q:aa->af->Prop}(hL:s.heap.IsTuple l its)
 (h:∀g,IsEnum g (s.heap.objs.size+1) s.heap.objs.size 0 .none->g.IsTupleIter s.heap.objs.size l 0->g.objs.size=s.heap.objs.size+2->(∀b o,s.heap.get? b=aB o->g.get? b=aB o)->Q (.ref (s.heap.objs.size+1)) {s with heap:=g}) :
 wpAny (model prog w) A (call (.type "enumerate") [.ref l]) Q E s:=by
 obtain⟨⟨c,dc,dt,sl⟩,e1,e2,n,e3⟩:=hL
 replace e2:c=.type "tuple":=e2
 replace e3:dt=.seq its n:=e3;subst e2 e3;refine callType_new F.called_enumerate (by decide) (F.typeCall_enumerate_1 _) (F.newCall_enumerate_1 _) (λobj=>F.args_object_init_2 obj _) F.entry_enumerate_new (T9 l its n dc sl) ⟨e1,?_⟩;have hz:(s.heap.push {cls:=.type "tuple_iterator",data:=.fields #[.ref l,.int 0 0]}).objs.size=s.heap.objs.size+1:=jU ..;show _/\_;rw[hz];have he:IsEnum ((s.heap.push {cls:=.type "tuple_iterator",data:=.fields #[.ref l,.int 0 0]}).push {cls:=.type "enumerate",data:=.fields #[.none,.bool false,.ref s.heap.objs.size,rawInt 0,.none,.none]}) (s.heap.objs.size+1) s.heap.objs.size 0 .none:=by rw[<-hz];exact iI _ rfl
 exact⟨⟨_,he,rfl⟩,h _ he ⟨_,cy _ (iI _ rfl),rfl,rfl⟩ (by rw[jU,hz]) λb o x=>cy _ (cy _ x)⟩
noncomputable def vM(K:aH)(a:ah):It:=
 ⟨λi H=>∃xs x,cj K H a xs/\xs[i]?=aB x,λi H x H'=>∃T v,x=.ref T/\H T=aC/\H'=upd H T (.tup [.int i,v])/\∀xs,cj K H a xs->xs[i]?=aB v,λi H=>∃xs,cj K H a xs/\xs.length<=i⟩
theorem Ub{P:ai}{w:aj}{K:aH}{elts:List ao}{kx:Nat}{tp:Pos}(a e it:ah)(hei:e≠it)(Uc:a≠e)(hai:a≠it) :
 Turn P w K (.Tuple elts kx tp) (vM K a) [e,it] e (λi h=>(∃old,IsEnum h e it i old)/\h.IsTupleIter it a i)where
 mem:=by simp
 obj:=λi h st b hb=>by
  obtain⟨⟨old,he⟩,o,ho,hc,hd⟩:=st;rcases gH.mp hb with rfl|hb;exact⟨_,he,λv z=>by
   have z':Data.fields _=Data.cell v:=z;cases z'⟩
  have e':b=it:=by simpa using hb
  subst e';exact⟨o,ho,λv z=>by rw[hd]at z;cases z⟩
 keep:=λi h h' st k=>by
  obtain⟨⟨old,he⟩,st⟩:=st;exact⟨⟨old,k e (by simp) _ he⟩,st.at λo q=>k it (by simp) o q⟩
 item:=by
  intro X hP hw hK hc i pins s σ H E I hf st hg;subst hP hw hK;obtain⟨xs,x,hq,hx⟩:=hg;obtain⟨⟨old,he⟩,st⟩:=st;obtain⟨its,rv,p,hz⟩:=I.tuple hq;obtain⟨u,hu,ru⟩:=rv.get hx;have hd:X.A.in1.handled=aC:=I.ok.hd hc;have p:s.heap.IsTuple a its.toArray:=p;refine wpAny_pyNext_enum_itemD (T8 hd it a hai its.toArray) he ⟨st,p⟩ (by
   have:i<its.length:=by rw[<-rv.length];exact(i7.mp hx).1
   simpa using this) hei (by simp[hei,eV Uc]) λx' h1 tk hx' ho hit hT hsz hk=>?_
  obtain rfl:u=x':=by
   have:its[i]?=aB x':=by simpa using hx'
   rw[hu]at this;cases this;rfl
  refine⟨_,rfl,wpAny_letOwnedTupleGo_enum ho λh2 Hg hs2=>?_⟩;have l7:H s.heap.objs.size=aC:=I.hok.fresh (aZ _);have Nf:s.heap.objs.size≠e:=tN (cQ he);have Ud:s.heap.objs.size≠it:=by obtain⟨o,q,_⟩:=st;exact tN (cQ q)
  have hs2:Heap.SameBut e h1 h2:=hs2;have kk:∀b o,b≠e->b≠it->s.heap.get? b=aB o->h2.get? b=aB o:=λb o h1 h2 q=>(hs2.2 b h1).trans (hk b o h1 h2 q);have f0:=λb hb=>(hf b hb).1;have nE:∀b o,H b=aB o->b≠e/\b≠it:=λb o q=>⟨λz=>(by rw[z,f0 e (by simp)]at q;cases q),λz=>(by rw[z,f0 it (by simp)]at q;cases q)⟩
  have hT2:h2.get? s.heap.objs.size=aB {cls:=.type "tuple",data:=.seq #[.int i tk,u]}:=(hs2.2 _ Nf).trans hT;have I2:Inv X pins σ (upd H s.heap.objs.size (.tup [.int i,x])) {s with heap:=h2,gens:=s.gens,drawn:=s.drawn,toks:=tk+1}:=by
   refine I.step (ch:=[e,it]) (λb hb=>?_) (λb o _ _ hc e1 _=>kk b o (λz=>hc (by simp[z])) (λz=>hc (by simp[z])) e1) (λb o _ _ hc e1 _=>⟨o.slots,kk b o (λz=>hc (by simp[z])) (λz=>hc (by simp[z])) e1⟩)
    (λb o hc e1 n=>by rw[bP (gh (cQ e1))];exact n) (λb o hc e1=>⟨o,kk b o (λz=>hc (by simp[z])) (λz=>hc (by simp[z])) e1⟩)
    (λb ys q=>by rw[bP (iJ q l7)];exact q) (λb o u q=>by rw[bP (iJ q l7)];exact q) (λb ps q=>⟨#[],by rw[bP (iJ q l7),q];simp⟩) (λm hm=>?_) (λb ob q=>?_) I.bare
   obtain⟨_,a1,a2,a3,a4,a5⟩:=hf b hb;exact⟨a3,a1,a4,a5⟩;obtain⟨o,es,ep,ho',r⟩:=hm;exact⟨o,es,ep,kk _ o (eV (hf e (by simp)).2.1) (eV (hf it (by simp)).2.1) ho',r⟩;by_cases hb:b=s.heap.objs.size;subst hb;rw[fG]at q;cases q;exact⟨by show 2<=sizeLine;decide,[.int i tk,u],.cons ⟨_,rfl⟩ (.cons ru .nil),⟨_,hT2,rfl,⟨_,rfl⟩,rfl⟩⟩;rw[bP hb]at q;refine(I.hok b ob q).stay (λc v hc z=>kk c v ?_ ?_ z) (λc z=>by rw[bP (iJ z l7)];exact z) λc ys z=>by rw[bP (iJ z l7)];exact z
   rcases hc with rfl|hc;exact(nE c ob q).1;exact(nE c _ hc).1;rcases hc with rfl|hc;exact(nE c ob q).2;exact(nE c _ hc).2
  refine⟨.ref s.heap.objs.size,_,I2,rfl,⟨_,x,rfl,l7,rfl,λys hy=>by rw[I.gO hy hq];exact hx⟩,⟨⟨u,by simpa using Hg⟩,hit.1.at λo q=>(hs2.2 it (eV hei)).trans q⟩,λb hb=>?_⟩;rw[bP ?_];exact f0 b hb;rcases gH.mp hb with rfl|hb
  exact eV Nf;have e':b=it:=by simpa using hb
  subst e';exact eV Ud
 done:=by
  intro X hP hw hK hc i pins s σ H E I hf st hg;subst hP hw hK;obtain⟨xs,hq,hx⟩:=hg;obtain⟨⟨old,he⟩,st⟩:=st;obtain⟨its,rv,p,hz⟩:=I.tuple hq;obtain⟨f0,f1,f2,f3,f4,f5⟩:=hf it (by simp);have hl:=rv.length;have hd:X.A.in1.handled=aC:=I.ok.hd hc;have p:s.heap.IsTuple a its.toArray:=p;refine PySem.wpAny_pyNext_enum_endD (n:=0) (P:=λ_ _=>True) (St:=λ_ h=>h.IsTupleIter it a i/\h.IsTuple a its.toArray) (fp:=[it,a]) ⟨?_,?_,?_,?_⟩ he ⟨st,p⟩ λh' eb=>⟨rfl,I.turned (t':=s.toks) (λb o hb q=>eb b o hb q) f0 f1 f3 f4 f5⟩
  exact λ_ _ st=>let⟨o,ho,_⟩:=st.1;⟨o,ho⟩;exact λ_ _ _ st hk=>⟨st.1.at λo e=>hk it (by simp) o e,Nd st.2 λo e=>hk a (by simp) o e⟩
  exact λj s' Q' E' hj=>absurd hj (xY _);exact λs' Q' E' st' q'=>Hf hd st'.1 st'.2 (by simp;lia) q'
 self:=λ_ _ _ _ _ st h=>by
  obtain⟨⟨old,he⟩,_⟩:=st;exact wpAny_pyIter_enum he h
section
variable{κ:Type}[DecidableEq κ]
noncomputable def eZ(kvs:List (κ×V))(k:κ):Option V:=(kvs.find? λkv=>decide (kv.1=k)).map (·.2)
noncomputable def putK(kvs:List (κ×V))(k:κ)(v:V):List (κ×V):=
 if(kvs.any λkv=>decide (kv.1=k))=true then kvs.map (λkv=>if kv.1=k then(kv.1,v)else kv)else kvs++[(k,v)]
theorem DX{p:κ×V}{r:List (κ×V)}{k:κ}(e:p.1=k):eZ (p::r) k=aB p.2:=by simp[eZ,oB,e]
theorem Aw{p:κ×V}{r:List (κ×V)}{k:κ}(e:¬p.1=k):eZ (p::r) k=eZ r k:=by simp[eZ,oB,e]
theorem Ng(k:κ):∀kvs:List (κ×V),(kvs.any λkv=>decide (kv.1=k))=(eZ kvs k).isSome
 |[]=>rfl
 |p::r=>by
  rw[xW];by_cases e:p.1=k;simp only[DX e,kY e,Bool.true_or,Option.isSome_some];rw[Aw e,jn e,Bool.false_or];exact Ng k r
theorem DY(kvs:List (κ×V))(k:κ)(v:V):(putK kvs k v).length<=kvs.length+1:=by unfold putK;split;rw[bx];lia;rw[fU,cG,Dj];lia
theorem gK.m9{o:Option V}{u:Option aa}(r:gK o u):o.isSome=u.isSome:=by
 cases o with
 |none=>cases u with
  |none=>rfl
  |some _=>exact(show False from r).elim
 |some _=>cases u with
  |none=>exact(show False from r).elim
  |some _=>rfl
theorem gK.getD{o:Option V}{u:Option aa}{d:V}{d':aa}(r:gK o u)(rd:RelV d d'):RelV (o.getD d) (u.getD d'):=by
 cases o with
 |none=>cases u with
  |none=>exact rd
  |some _=>exact(show False from r).elim
 |some _=>cases u with
  |none=>exact(show False from r).elim
  |some _=>exact r
theorem KV.val{kvs:List (κ×V)}{vs:List (κ×aa)}(r:KV kvs vs)(k:κ):gK (eZ kvs k) (valueAt vs k):=by
 unfold KV at r;induction r with
 |nil=>exact True.intro
 | @cons p q ps qs h t ih=>
  obtain⟨h1,h2⟩:=h;by_cases e:p.1=k;have e':q.1=k:=h1.symm.trans e;have b:valueAt (q::qs) k=aB q.2:=by simp[valueAt,oB,e']
  rw[DX e,b];exact h2;have e':¬q.1=k:=λz=>e (h1.trans z);have b:valueAt (q::qs) k=valueAt qs k:=by simp[valueAt,oB,e']
  rw[Aw e,b];exact ih
theorem KV.any{kvs:List (κ×V)}{vs:List (κ×aa)}(r:KV kvs vs)(k:κ):(kvs.any λkv=>decide (kv.1=k))=vs.any λkv=>decide (kv.1=k):=by
 unfold KV at r;induction r with|nil=>rfl|cons h t ih=>rw[xW,xW,ih,h.1]
theorem KV.repl{kvs:List (κ×V)}{vs:List (κ×aa)}(r:KV kvs vs)(k:κ){y:V}{u:aa}(ry:RelV y u) :
 KV (kvs.map λkv=>if kv.1=k then(kv.1,y)else kv) (vs.map λkv=>if kv.1=k then(kv.1,u)else kv):=by
 unfold KV at r ⊢;induction r with
 |nil=>exact .nil
 | @cons p q ps qs h t ih=>
  rw[fm,fm];refine .cons ?_ ih;obtain⟨h1,h2⟩:=h;by_cases e:p.1=k;rw[if_pos e,if_pos (h1.symm.trans e)];exact⟨h1,ry⟩;rw[if_neg e,if_neg (λz=>e (h1.trans z))];exact⟨h1,h2⟩
theorem KV.put{kvs:List (κ×V)}{vs:List (κ×aa)}(r:KV kvs vs)(k:κ){y:V}{u:aa}(ry:RelV y u):KV (putK kvs k y) (stored vs k u):=by unfold putK stored;rw[r.any k];by_cases e:(vs.any λkv=>decide (kv.1=k))=true;rw[if_pos e,if_pos e];exact r.repl k ry;rw[if_neg e,if_neg e];exact Paired.snoc r ⟨rfl,ry⟩
theorem KV.keys{kvs:List (κ×V)}{vs:List (κ×aa)}(r:KV kvs vs):kvs.map (·.1)=vs.map (·.1):=by
 unfold KV at r;induction r with|nil=>rfl|cons h t ih=>rw[fm,fm,ih,h.1]
theorem KV.length{kvs:List (κ×V)}{vs:List (κ×aa)}(r:KV kvs vs):kvs.length=vs.length:=yd r
end
theorem ju{P:ai}{w:aj}{k:Key}{u:aa}(r:RelV (kV k) u):(iM P w).is k u=true:=by
 cases k with|inl i=>obtain⟨t,e⟩:=(show ∃t,u=Value.int i t from r);subst e;exact Rl P w i t|inr x=>obtain⟨t,e⟩:=(show ∃t,u=Value.str x t from r);subst e;exact Rm P w x t
theorem Nh{P:ai}{w:aj}:∀{ks:List Key} {us:List aa},Vals (ks.map kV) us->ItemsAre (iM P w) ks us
 |[],_,r=>by rw[u7]at r;cases r;exact .nil
 |k::ks,_,r=>by
  rw[fm]at r;cases r with|cons h t=>exact .cons (ju h) (Nh t)
noncomputable abbrev KT(H:Hp):List (List Key×V)->List (List Key×ah×aa)->Prop:=Paired λp q=>p.1=q.1/\H q.2.1=aB (.tup (p.1.map kV))/\RelV p.2 q.2.2
theorem KT.val{H:Hp}{kvs:List (List Key×V)}{xs:List (List Key×ah×aa)}(r:KT H kvs xs)(k:List Key):gK (eZ kvs k) ((atKey xs k).map (·.2)):=by
 induction r with
 |nil=>exact True.intro
 | @cons p q ps qs h t ih=>
  obtain⟨h1,_,h2⟩:=h;by_cases e:p.1=k;have e':q.1=k:=h1.symm.trans e;have b:atKey (q::qs) k=aB q.2:=by simp[atKey,oB,e']
  rw[DX e,b];exact h2;have e':¬q.1=k:=λz=>e (h1.trans z);have b:atKey (q::qs) k=atKey qs k:=by simp[atKey,oB,e']
  rw[Aw e,b];exact ih
theorem KT.repl{H:Hp}{kvs:List (List Key×V)}{xs:List (List Key×ah×aa)}(r:KT H kvs xs)(k:List Key){y:V}{u:aa}(ry:RelV y u) :
 KT H (kvs.map λkv=>if kv.1=k then(kv.1,y)else kv) (xs.map (putAt k u)):=by
 induction r with
 |nil=>exact .nil
 | @cons p q ps qs h t ih=>
  rw[fm,fm];refine .cons ?_ ih;obtain⟨h1,h2,h3⟩:=h;unfold putAt;by_cases e:p.1=k;rw[if_pos e,if_pos (h1.symm.trans e)];exact⟨h1,h2,ry⟩;rw[if_neg e,if_neg (λz=>e (h1.trans z))];exact⟨h1,h2,h3⟩
theorem KT.put{H:Hp}{kvs:List (List Key×V)}{xs:List (List Key×ah×aa)}(r:KT H kvs xs)(k:List Key){b:ah}{y:V}{u:aa}(hb:H b=aB (.tup (k.map kV)))(ry:RelV y u) :
 KT H (putK kvs k y) (storedH xs k b u):=by
 have e:(kvs.any λkv=>decide (kv.1=k))=(atKey xs k).isSome:=by rw[Ng,(r.val k).m9,Option.isSome_map]
 unfold putK storedH;rw[e];by_cases q:(atKey xs k).isSome=true;rw[if_pos q,if_pos q];exact r.repl k ry;rw[if_neg q,if_neg q];exact Paired.snoc r ⟨rfl,hb,ry⟩
theorem KT.keeps{H H':Hp}{kvs:List (List Key×V)}{xs:List (List Key×ah×aa)}(r:KT H kvs xs)(ht:∀b ys,H b=aB (.tup ys)->H' b=aB (.tup ys)):KT H' kvs xs:=
 Paired.vm r λ_ _ z=>⟨z.1,ht _ _ z.2.1,z.2.2⟩
section
variable{P:ai}{w:aj}{H:Hp}{h:az}{a:ah}
theorem tX{u:HO}(ok:fq P w H h)(e:Rd H a u):br P w H h a u:=e.ok ok
theorem jv{kvs:List (Key×V)}(ok:fq P w H h)(e:Rd H a (.dK kvs)):kvs.length<=sizeLine/\(a==sysModules)=false/\∃vs,KV kvs vs/\h.DictOf (iM P w) a vs:=
 show br P w H h a (.dK kvs)from tX ok e
theorem kr{kvs:List (Key×V)}(ok:fq P w H h)(e:H a=aB (.dK kvs)):kvs.length<=sizeLine/\(a==sysModules)=false/\∃vs,KV kvs vs/\h.DictOf (iM P w) a vs:=jv ok (.inl e)
theorem DZ{ks:List Key}(ok:fq P w H h)(e:H a=aB (.tup (ks.map kV))):(tupleKind (iM P w)).is h ks a:=by
 obtain⟨_,its,r,o,h1,h2,⟨n,h3⟩,_⟩:=(show br P w H h a (.tup (ks.map kV))from ok a _ e)
 exact⟨o,its.toArray,n,h1,h2,h3,by simpa using Nh r⟩
theorem ku{kvs:List (List Key×V)}(ok:fq P w H h)(e:Rd H a (.dT kvs)):kvs.length<=sizeLine/\(a==sysModules)=false/\
 ∃xs,KT H kvs xs/\h.DictOfH (tupleKind (iM P w)) a xs:=by
 obtain⟨z,y,xs,r,o,es,ep,h1,h2,h3,h4,h5⟩:=(show br P w H h a (.dT kvs)from tX ok e)
 refine⟨z,y,xs,r,o,es,ep,h1,h2,h3,h4,λx hx=>?_,h5⟩;have all:∀{l:List (List Key×V)}{m:List (List Key×ah×aa)},KT H l m->∀x∈m,(tupleKind (iM P w)).is h x.1 x.2.1:=by
  intro l m q;induction q with
  |nil=>intro x hx;exact nomatch hx
  | @cons p q ps qs hq t ih=>
   intro x hx;rcases gH.mp hx with e|hx
   subst e;exact DZ ok (by rw[<-hq.1];exact hq.2.1);exact ih x hx
 exact all r x hx
theorem Ax{kvs:List (List Key×V)}(ok:fq P w H h)(e:H a=aB (.dT kvs)):kvs.length<=sizeLine/\(a==sysModules)=false/\
 ∃xs,KT H kvs xs/\h.DictOfH (tupleKind (iM P w)) a xs:=ku ok (.inl e)
end
noncomputable def ng(H:Hp)(a:ah)(y:V)(r:Option V):Prop:=
 (∃kvs k,Rd H a (.dK kvs)/\y=kV k/\r=eZ kvs k)\/∃kvs k b,Rd H a (.dT kvs)/\y=.ref b/\H b=aB (.tup (k.map kV))/\r=eZ kvs k
noncomputable def rG(H:Hp)(a:ah)(y v:V)(H':Hp):Prop:=
 (∃kvs k,H a=aB (.dK kvs)/\y=kV k/\kvs.length<sizeLine/\H'=upd H a (.dK (putK kvs k v)))\/
 ∃kvs k b,H a=aB (.dT kvs)/\y=.ref b/\H b=aB (.tup (k.map kV))/\kvs.length<sizeLine/\H'=upd H a (.dT (putK kvs k v))
theorem rG.k{H:Hp}{a:ah}{kvs:List (Key×V)}{k:Key}{v:V}(e:H a=aB (.dK kvs))(hl:kvs.length<sizeLine):rG H a (kV k) v (upd H a (.dK (putK kvs k v))):=.inl ⟨kvs,k,e,rfl,hl,rfl⟩
section
variable{X:Cx}{pins:List (ah×Obj)}{σ:St}{H:Hp}{s:af}{a:ah}{y v:V}{u r:aa}{o:Option V}{A:ak}{E:aa->af->Prop}
theorem Inv.big(I:Inv X pins σ H s):sysModules<s.heap.objs.size:=by have h:mainGlobals<s.heap.objs.size:=(I.mod.glob.keeps I.bk).lt;exact Nat.lt_trans (by decide) h
theorem Ue{Q:aa->af->Prop}(hu:A.units+1<cLine)(I:Inv X pins σ H s)(g:ng H a y (aB v))(ry:RelV y u)(h:∀w' s',Inv X pins σ H s'->RelV v w'->Q w' s') :
 wpAny (model X.prog X.w) A (getItem (.ref a) u) Q E s:=by
 rcases g with⟨kvs,k,e,ey,l⟩|⟨kvs,k,b,e,ey,eb,l⟩;subst ey;obtain⟨z,hd,vs,rel,dd⟩:=jv I.hok e;obtain⟨w',hw,rw'⟩:=gK.some_of (v:=v) (o:=valueAt vs k) (by rw[l];exact rel.val k);exact wpAny_getItem_of (ju ry) dd.mapOf hw (h w' _ (I.tok _) rw');subst ey;cases(show u=Value.ref b from ry);obtain⟨z,hd,xs,rel,dd⟩:=ku I.hok e;obtain⟨w',hw,rw'⟩:=gK.some_of (v:=v) (o:=(atKey xs k).map (·.2)) (by rw[l];exact rel.val k);obtain⟨p,hp,hp2⟩:=Option.map_eq_some_iff.mp hw;refine wpAny_getItem_heap (tupleKind_room_in1 hu) (DZ I.hok eb) dd hp ?_;rw[hp2];exact h w' _ (I.tok _) rw'
theorem Ay{h':az}{t':Nat}{ob:HO}(I:Inv X pins σ H s)(mu:zw (H a))(hs:Heap.SameBut a s.heap h')(he:∃q,h'.get? a=aB q)(new:br X.prog X.w (upd H a ob) h' a ob) :
 Inv X pins σ (upd H a ob) {s with heap:=h',toks:=t'}:=
 I.write (x:=a) (e:=a) mu (.inl rfl) (λb q hb z=>(hs.2 b hb).trans z) he new
theorem D8{P:ai}{w:aj}{H':Hp}{h':az}{kvs:List (Key×V)}{vs:List (Key×aa)}(z:kvs.length<=sizeLine)(hd:(a==sysModules)=false)(rel:KV kvs vs)(dd:h'.DictOf (iM P w) a vs) :
 br P w H' h' a (.dK kvs):=⟨z,hd,vs,rel,dd⟩
theorem Ug{H':Hp}{Q:Unit->af->Prop}(hu:A.units+1<cLine)(I:Inv X pins σ H s)(g:rG H a y v H')(ry:RelV y u)(rv:RelV v r)(h:∀s',Inv X pins σ H' s'->Q () s') :
 wpAny (model X.prog X.w) A (setItem (.ref a) u r) Q E s:=by
 rcases g with⟨kvs,k,e,ey,l,eH⟩|⟨kvs,k,b,e,ey,eb,l,eH⟩;subst ey eH;obtain⟨z,hd,vs,rel,dd⟩:=kr I.hok e;have hz:vs.length<=sizeLine:=by rw[<-rel.length];exact z
 have hl:(putK kvs k v).length<=sizeLine:=by have:=DY kvs k v;lia
 refine wpAny_setItem_pairs (hsz:=hz) (ju ry) dd λh' nh hs=>h _ ?_;have he:∃q,h'.get? a=aB q:=let⟨q,_,_,hq,_⟩:=nh;⟨q,hq⟩;exact Ay I (by rw[e];exact True.intro) hs he (D8 hl hd (rel.put k rv) nh);subst ey eH;cases(show u=Value.ref b from ry);obtain⟨z,hd,xs,rel,dd⟩:=Ax I.hok e;have hz:xs.length<=sizeLine:=by rw[<-yd rel];exact z
 have hl:(putK kvs k v).length<=sizeLine:=by have:=DY kvs k v;lia
 refine wpAny_setItem_heap (hsz:=hz) (tupleKind_room_in1 hu) (DZ I.hok eb) dd λh' nh hs=>h _ ?_;obtain⟨q,es,ep,hq,h2,h3,h4,_,h5⟩:=nh;refine Ay I (by rw[e];exact True.intro) hs ⟨q,hq⟩ ⟨hl,hd,_,(rel.put k eb rv).keeps λc ys ec=>?_,q,es,ep,hq,h2,h3,h4,h5⟩;rw[bP (bZ ec e (λz=>nomatch z))];exact ec
end
theorem Uh{X:Cx}{pins:List (ah×Obj)}{σ:St}{H:Hp}{s:af}{a:ah}{y:V}{o:Option V}(I:Inv X pins σ H s)(g:ng H a y o):s.TypeIs (.ref a) "dict":=by rcases g with⟨kvs,k,e,_,_⟩|⟨kvs,k,b,e,_,_,_⟩;obtain⟨_,_,vs,_,dd⟩:=jv I.hok e;exact dd.typeIs;obtain⟨_,_,xs,_,dd⟩:=ku I.hok e;exact dd.typeIs
theorem Hh{P:ai}{w:aj}{H:Hp}(h:az)(hb:sysModules<h.objs.size):br P w H (h.push {cls:=.type "dict",data:=.dict #[]}) h.objs.size (.dK []):=
 ⟨j8 _,C5.mpr (eV (gh hb)),[],.nil,Heap.DictOf.new h⟩
noncomputable def Ui:TE:=λ_ H Q=>∀p,H p=aC->Q (.ref p) (upd H p (.dK []))
section
variable{X:Cx}{pos:Pos}
theorem Uj:PE X (.Dict [] [] pos) Ui:=λpins s σ H Q I h=>
 wpAny_Dict_empty ⟨.ref s.heap.objs.size,_,I.laid (a:=s.heap.objs.size) (o:=.dK []) (t':=s.toks) (λ_ _ q=>cy _ q) (aZ _) (Hh s.heap I.big),rfl,h _ (I.hok.fresh (aZ _))⟩
end
noncomputable def D9:List (TE×TE)->St->Hp->(List (V×V)->Hp->Prop)->Prop|[],_,H,Q=>Q [] H|(tk,tv)::r,σ,H,Q=>tk σ H λx H1=>tv σ H1 λy H2=>D9 r σ H2 λps H3=>Q ((x,y)::ps) H3
noncomputable abbrev VV:List (V×V)->List (aa×aa)->Prop:=Paired λp q=>RelV p.1 q.1/\RelV p.2 q.2
noncomputable def Az(X:Cx)(pos:Pos)(keys:List (Option ao))(values:List ao)(l8:List (TE×TE)):Prop:=
 ∀(pins:List (ah×Obj))(s:af)(σ:St)(H:Hp)(Q:List (V×V)->Hp->Prop),Inv X pins σ H s->D9 l8 σ H Q->
  wpAny (model X.prog X.w) X.A (evalPairs (pairTrees keys values X.env pos)) (λvs s'=>∃ps H',Inv X pins σ H' s'/\VV ps vs/\Q ps H') X.xe s
theorem Uk{X:Cx}{pos:Pos}:Az X pos [] [] []:=λpins s σ H Q I h=>pairTrees_nil_walk ⟨[],H,I,.nil,h⟩
theorem Ul{X:Cx}{pos:Pos}{k v:ao}{ks:List (Option ao)}{vs:List ao}{tk tv:TE}{l8:List (TE×TE)}(hk:PE X k tk)(hv:PE X v tv)(hr:Az X pos ks vs l8) :
 Az X pos (aB k::ks) (v::vs) ((tk,tv)::l8):=λpins s σ H Q I h=>
 pairTrees_cons_walk (bf (hk pins s σ H _ I h) λu s1 z9=>z9.el λx H1 I1 rx q1=>bf (hv pins s1 σ H1 _ I1 q1) λw2 s2 z9=>z9.el λy H2 I2 ry q2=>
  bf (hr pins s2 σ H2 _ I2 q2) λws s3 ⟨ps,H3,I3,rel,q3⟩=>⟨(x,y)::ps,H3,I3,.cons ⟨rx,ry⟩ rel,q3⟩)
noncomputable def qg(kvs more:List (Key×V)):List (Key×V):=more.foldl (λacc kv=>putK acc kv.1 kv.2) kvs
theorem KV.merge:∀{more:List (Key×V)} {rs:List (Key×aa)} {kvs:List (Key×V)} {vs:List (Key×aa)},KV more rs->KV kvs vs->KV (qg kvs more) (merged vs rs):=by
 intro more rs kvs vs r;unfold KV at r;induction r generalizing kvs vs with
 |nil=>intro q;exact q
 | @cons p q ps qs h t ih=>
  intro r0;have e:KV (putK kvs p.1 p.2) (stored vs q.1 q.2):=by have:=r0.put p.1 h.2;rw[<-h.1];exact this
  exact ih e
theorem Hi:∀(more kvs:List (Key×V)),(qg kvs more).length<=kvs.length+more.length
 |[],kvs=>by show kvs.length<=kvs.length+0;lia
 |p::r,kvs=>by
  have h1:=Hi r (putK kvs p.1 p.2);have h2:=DY kvs p.1 p.2;show(qg (putK kvs p.1 p.2) r).length<=_;rw[cG];lia
theorem Ni{P:ai}{w:aj}:∀{kvs:List (Key×V)} {ws:List (aa×aa)},VV (kvs.map λkv=>(kV kv.1,kv.2)) ws->∃rs,Carries (iM P w) ws rs/\KV kvs rs
 |[],_,r=>by rw[u7]at r;cases r;exact⟨[],True.intro,.nil⟩
 |p::kvs,_,r=>by
  rw[fm]at r;cases r with
  | @cons a b as bs h t=>
   obtain⟨rs,c,q⟩:=Ni (P:=P) (w:=w) t;obtain⟨b1,b2⟩:=b;exact⟨(p.1,b2)::rs,⟨ju h.1,rfl,c⟩,.cons ⟨rfl,h.2⟩ q⟩
noncomputable def AA(l8:List (TE×TE)):TE:=λσ H Q=>∀p,H p=aC->D9 l8 σ (upd H p (.dK [])) λps H2=>H2 p=aB (.dK [])/\∃kvs:List (Key×V),ps=kvs.map (λkv=>(kV kv.1,kv.2))/\kvs.length<=15/\Q (.ref p) (upd H2 p (.dK (qg [] kvs)))
theorem Um{X:Cx}{pos:Pos}{keys:List (Option ao)}{values:List ao}{l8:List (TE×TE)}(h:Az X pos keys values l8)(hall:keys.all (·.isSome))(hl:keys.length=values.length)(h0:keys≠[])
 (Hj:keys.length<=15):PE X (.Dict keys values pos) (AA l8):=by
 intro pins s σ H Q I q;have hn:=I.hok.fresh (aZ s.heap.objs.size);have I1:=I.laid (a:=s.heap.objs.size) (o:=.dK []) (h':=s.heap.push {cls:=.type "dict",data:=.dict #[]}) (t':=s.toks) (λ_ _ q=>cy _ q) (aZ _) (Hh s.heap I.big);refine wpAny_Dict_walk (knd:=iM X.prog X.w) hall hl h0 Hj (bf (h pins _ σ _ _ I1 (q _ hn)) λws s2 bQ=>?_);obtain⟨ps,H2,I2,rel,e,kvs,ep,lk,q2⟩:=bQ;subst ep;obtain⟨rs,c,rk⟩:=Ni (P:=X.prog) (w:=X.w) rel;obtain⟨z,hd,tY,r0,dd⟩:=kr I2.hok e;cases r0;refine⟨rs,c,dd,λh' nh hs=>⟨.ref s.heap.objs.size,_,?_,rfl,q2⟩⟩;have hz:(qg [] kvs).length<=sizeLine:=by have h1:=Hi kvs [];rw[Dj]at h1;rw[uV];lia
 have he:∃q,h'.get? s.heap.objs.size=aB q:=let⟨q,_,_,hq,_⟩:=nh;⟨q,hq⟩;exact Ay I2 (by rw[e];exact True.intro) hs he (D8 hz hd (rk.merge .nil) nh)
structure M2(X:Cx)(o:ao)(m:Str)(apos:Pos)(e f:ao)(cpos:Pos):Prop where
 base:attributeBase o m X.env (eval o X.env)=eval o X.env
 few:((backTo cpos (starEach [e,f] X.env)).all (λx=>!x.1)&& (backToKw cpos (keywordEach [] X.env)).all (λx=>x.1.isSome)
  && decide (([e,f]:List ao).length+ ([]:List Keyword).length+ (if([]:List Keyword).isEmpty then 0 else 1)<30))=true
 line:(apos.endLine==cpos.line)=true
 trees:backTo cpos (starEach [e,f] X.env)=[(false,eval e X.env),(false,eval f X.env)]
noncomputable def Nj(H:Hp)(a:ah):Prop:=(∃kvs,Rd H a (.dK kvs))\/∃kvs,Rd H a (.dT kvs)
theorem Uo{X:Cx}{pins:List (ah×Obj)}{σ:St}{H:Hp}{s:af}{a:ah}(I:Inv X pins σ H s)(d:Nj H a) :
 s.TypeIs (.ref a) "dict"/\(∀b,Value.ref a=.ref b->∃ob,s.heap.get? b=aB ob/\ob.dict=aC)/\(a==sysModules)=false:=by
 rcases d with⟨kvs,e⟩|⟨kvs,e⟩;obtain⟨_,hd,vs,_,dd⟩:=jv I.hok e;refine⟨dd.typeIs,λb q=>?_,hd⟩;cases q;obtain⟨ob,_,_,h1,h2,_⟩:=dd;exact⟨ob,h1,h2.2.1⟩;obtain⟨_,hd,xs,_,dd⟩:=ku I.hok e;refine⟨dd.typeIs,λb q=>?_,hd⟩;cases q;obtain⟨ob,_,_,h1,h2,_⟩:=dd;exact⟨ob,h1,h2.2.1⟩
section
variable{X:Cx}{pins:List (ah×Obj)}{σ:St}{H:Hp}{s:af}{a:ah}{y d:V}{u r:aa}{o:Option V}{A:ak}{E:aa->af->Prop}
theorem Up{Q:aa->af->Prop}(hu:A.units+1<cLine)(I:Inv X pins σ H s)(g:ng H a y o)(ry:RelV y u)(rd:RelV d r)(h:∀w' s',Inv X pins σ H s'->RelV (o.getD d) w'->Q w' s') :
 wpAny (model X.prog X.w) A (call (.builtin "dict.get") [.ref a,u,r]) Q E s:=by
 rcases g with⟨kvs,k,e,ey,l⟩|⟨kvs,k,b,e,ey,eb,l⟩;subst ey;obtain⟨z,hd,vs,rel,dd⟩:=jv I.hok e;refine call_meetsIn PySem.F.slot_dict_get dd.typeIs PySem.F.entry_dict_get (PySem.F.args_dict_get_3 _ _ _) (meets_dict_get_default (iM X.prog X.w) a (ju ry) hd r) ⟨_,dd.mapOf,h _ _ (I.tok _) ?_⟩;rw[l];exact(rel.val k).getD rd;subst ey;cases(show u=Value.ref b from ry);obtain⟨z,hd,xs,rel,dd⟩:=ku I.hok e;refine call_meetsIn PySem.F.slot_dict_get dd.typeIs PySem.F.entry_dict_get (PySem.F.args_dict_get_3 _ _ _) (meetsH_dict_get_default (tupleKind (iM X.prog X.w)) a b hd r) ⟨tupleKind_room_in1 hu,k,xs,DZ I.hok eb,dd,h _ _ (I.tok _) ?_⟩;rw[l];exact(rel.val k).getD rd
end
noncomputable def Uq(td ty tx:TE):TE:=λσ H Q=>td σ H λx H1=>∃a,x=.ref a/\Nj H1 a/\ty σ H1 λy H2=>tx σ H2 λz H3=>∃o,ng H3 a y o/\Q (o.getD z) H3
section
variable{X:Cx}{o e f:ao}{apos cpos:Pos}{td ty tx:TE}
theorem Ur(hu:X.A.units+1<cLine)(ho:PE X o td)(he:PE X e ty)(hf:PE X f tx)(m:M2 X o "get" apos e f cpos):PE X (.Call (.Attribute o "get" apos) [e,f] [] cpos) (Uq td ty tx):=by
 intro pins s σ H Q I h;refine wpAny_Call_method m.base m.few m.line PySem.F.plainAttrs_dict PySem.F.slot_dict_get PySem.F.type_dict_get (bf (ho pins s σ H _ I h) λu s1 z9=>z9.el λx H1 I1 rx bQ=>?_);obtain⟨a,ex,d,q1⟩:=bQ;subst ex;obtain rfl:u=Value.ref a:=rx;obtain⟨t1,t2,_⟩:=Uo I1 d;refine⟨t1,t2,?_⟩;rw[m.trees];refine Calls.callWith_builtin rfl (Calls.evalArgs_plain (zo (bf (he pins s1 σ H1 _ I1 q1) λiv s2 z9=>z9.el λy H2 I2 ry q2=>
  zo (bf (hf pins s2 σ H2 _ I2 q2) λfv s3 z9=>z9.el λz H3 I3 rz ⟨ov,g,q3⟩=>DC ?_))))
 exact Up hu I3 g ry rz λw' s4 I4 rw'=>⟨_,H3,I4,rw',q3⟩
end
noncomputable def kB(e tg iter:ao)(ifs:List ao)(it acc:aa)(env:Env)(emit:Sem Unit):Sem Fin:=do
 standAt iter.pos
 match <-pyNext it with
 |none=>pure (.done .next)
 |some v=>
  letOwnedTupleGo tg it v
  assign tg env v
  let ok <-yp ifs env
  if ok then emit
  again (.compLoop e 0 it acc env)
theorem Us{prog:ai}{w:aj}{A:ak}{R:Result->af->Prop}{s:af}{e target iter:ao}{ifs:List ao}{it acc:aa}{env:Env}{emit:Sem Unit}(he:compTurn e 0 it acc env=kB e target iter ifs it acc env emit)
 (hd:(model prog w).den (.compLoop e 0 it acc env)=(compTurn e 0 it acc env).onRaise (λx=>do noteFrame x env;theTreesLotGoes x)) (hA:A.under (.compLoop e 0 it acc env)=A) (I:Nat->af->Prop)
 (turn:∀n s,I n s->wpAny (model prog w) A (pyNext it) (λr s₁=>match r with
   |none=>R (.ok .next) s₁
   |some v=>wpAny (model prog w) A (letOwnedTupleGo target it v) (λ_ s₀=>wpAny (model prog w) A (assign target env v) (λ_ s₂=>
    wpAny (model prog w) A (yp ifs env) (λok s₃=>
     if ok=true then wpAny (model prog w) A emit (λ_ s₅=>∃m,m<n/\I m s₅) ir s₃
     else ∃m,m<n/\I m s₃) ir s₂) ir s₀) ir s₁) ir s)
 (n:Nat) (h:I n s):codeAny (model prog w) A (.compLoop e 0 it acc env) R s:=by
 refine codeAny_loop rfl I (λn s hI=>?_) n h;rw[hd,hA];refine wpAny_noted (GV ?_);rw[he];unfold kB;refine aJ (mQ (aJ (ie (turn n s hI) (λr s₁ h₁=>?_) λ_ _ z=>z)));cases r with
 |none=>exact bH h₁
 |some v=>
  refine aJ (ie h₁ (λ_ s₀ h₀=>?_) λ_ _ z=>z);refine aJ (ie h₀ (λ_ s₂ h₂=>aJ (ie h₂ (λok s₃ h₃=>?_) λ_ _ z=>z)) λ_ _ z=>z);cases ok with
  |true=>
   simp only[bY]at h₃ ⊢;exact aJ (ie h₃ (λ_ s₅ h₅=>bH ⟨rfl,h₅⟩) λ_ _ z=>z)
  |false=>
   simp only[fF,eG]at h₃ ⊢;exact bH ⟨rfl,h₃⟩
theorem Ut{prog:ai}{w:aj}{A:ak}{R:Result->af->Prop}{s:af}{e target iter:ao}{ifs:List ao}{rest:List Comprehension}{it acc:aa}{env:Env}(hcl:clausesOf e=⟨target,iter,ifs,0⟩::rest)
 (hd:(model prog w).den (.compStart e 0 it acc env)=(compStart e 0 it acc env).onRaise (λx=>do noteFrame x env;standAt theWindowsPlace)) (hA:A.under (.compStart e 0 it acc env)=A)
 (h0:codeAny (model prog w) A (.compLoop e 0 it acc env) R s)
 (h:wpAny (model prog w) A (pyIter it) (λj s'=>codeAny (model prog w) A (.compLoop e 0 j acc env) R s') (notedBy (model prog w) A env λx s'=>R (.error x) s') s) :
 codeAny (model prog w) A (.compStart e 0 it acc env) R s:=by
 refine codeAny_of_tree ?_;rw[hd,hA];refine wpAny_notedAt ?_;unfold compStart;rw[hcl];show wpAny _ _ (ask >>= _) _ _ s;refine aJ (wpAny_askSetting (xN ?_));split;first
  |exact aJ (bH (bH (And.intro rfl h0)))
  |exact bH (And.intro rfl h0)
 first
  |exact aJ (qL (aJ (mQ (aJ (ie h (λj s' h'=>bH ⟨rfl,h'⟩) λ_ _ z=>z)))))
  |(refine aJ (qL ?_);show wpAny _ _ (standAt iter.pos >>= _) _ _ s;exact aJ (mQ (aJ (ie h (λj s' h'=>bH ⟨rfl,h'⟩) λ_ _ z=>z))))
noncomputable abbrev TM:=St->Hp->(St->Hp->Prop)->Prop
noncomputable def PM(X:Cx)(emit:Sem Unit)(t:TM):Prop:=∀(pins:List (ah×Obj)) (s:af) (σ:St) (H:Hp) (Q:St->Hp->Prop),Inv X pins σ H s->t σ H Q->wpAny (model X.prog X.w) X.A emit (λ_ s'=>∃σ' H',Inv X pins σ' H' s'/\Q σ' H') X.xe s
structure kC(P:ai)(w:aj)(e tg iter:ao)(ifs:List ao)(emit:aa->Env->Sem Unit)(newAcc:Sem aa)(ob:Obj)(u0:HO):Prop where
 cl:∃rest,clausesOf e=⟨tg,iter,ifs,0⟩::rest
 turn:∀it acc env,compTurn e 0 it acc env=kB e tg iter ifs it acc env (emit acc env)
 dl:∀it acc env,(model P w).den (.compLoop e 0 it acc env)=(compTurn e 0 it acc env).onRaise (λx=>do noteFrame x env;theTreesLotGoes x)
 ds:∀it acc env,(model P w).den (.compStart e 0 it acc env)=(compStart e 0 it acc env).onRaise (λx=>do noteFrame x env;standAt theWindowsPlace)
 al:∀(A:ak) it acc env,A.under (.compLoop e 0 it acc env)=A
 as:∀(A:ak) it acc env,A.under (.compStart e 0 it acc env)=A
 new:∀(A:ak)(s:af)(Q:aa->af->Prop)(E:aa->af->Prop),Q (.ref s.heap.objs.size) {s with heap:=s.heap.push ob}->wpAny (model P w) A newAcc Q E s
 ok:∀(H:Hp)(h:az),sysModules<h.objs.size->br P w H (h.push ob) h.objs.size u0
noncomputable def tZ(J:It)(f:St)(g:TG)(tc:TT)(tm:TM)(u0:HO)(D:ah)(H1:Hp)(Q:Hp->Prop):Prop:=
 ∃W:Nat->Nat->St->Hp->Prop,(∃m,W 0 m f (upd H1 D u0))/\∀i m σ' H',W i m σ' H'->
  ((J.stop i H'/\Q H')\/(J.go i H'/\∀x H2,J.tS i H' x H2->g x σ' H2 λσ2 H3=>tc σ2 H3 λb H4=>
    if b=true then tm σ2 H4 λko H5=>∃m',m'<m/\W (i+1) m' ko H5
    else ∃m',m'<m/\W (i+1) m' σ2 H4))
noncomputable def Ea(K:aH)(f:St->St)(wi:TI)(g:TG)(tc:TT)(tm:ah->TM)(u0:HO):TE:=λσ H Q=>wi σ H λJ H1=>∀D,H1 D=aC->K.lookup D=aC->tZ J (f σ) g tc (tm D) u0 D H1 λH'=>Q (.ref D) H'
section
variable{X:Cx}{ow fr:List Str}{ix:List Nat}{scope:ay}{e tg iter:ao}{ifs:List ao}{pos:Pos}{wi:TI}{g:TG}{tc:TT}{tm:ah->TM}{emit:aa->Env->Sem Unit}{newAcc:Sem aa}{ob:Obj}{u0:HO}
theorem zev{pins:List (ah×Obj)}{s:af}{σ:St}{Q:VK}{RR:aa->ah->Result->af->Prop}(CK:kC X.prog X.w e tg iter ifs emit newAcc ob u0)(S:aV X ow fr ix scope)(hc:X.calm=true)
 (hg:∀C s₀ H₀ ex,PG (X.comp (ow++fr) scope C s₀ H₀ ex) tg g) (ht:∀C s₀ H₀ ex,iQ (X.comp (ow++fr) scope C s₀ H₀ ex) ifs tc) (he:∀C s₀ H₀ ex D,PM (X.comp (ow++fr) scope C s₀ H₀ ex) (emit (.ref D) (X.comp (ow++fr) scope C s₀ H₀ ex).env) (tm D))
 {itv:aa} {E:aa->af->Prop}
 (h:zL X pins σ tg (λJ H1=>∀D,H1 D=aC->X.K.lookup D=aC->tZ J (jt ow fr ix σ) g tc (tm D) u0 D H1 λH'=>Q (.ref D) H') itv s)
 (fin:∀D C H' s' m,eE X pins H' C->s'.heap.Ns C m->(∀h'',Heap.SameBut C s'.heap h''->Inv X pins σ H' {s' with heap:=h''})->Q (.ref D) H'->RR (.ref D) C (.ok .next) s') :
 wpAny (model X.prog X.w) X.A newAcc (λacc s₃=>wpAny (model X.prog X.w) X.A (newFunctionEnv scope X.env.globals (jK X.env.cells scope.names []) [] X.env.qual aC .none (aB X.env)) (λcenv s₄=>
  codeAny (model X.prog X.w) X.A (.compStart e 0 itv acc {cenv with scope:=relabel scope X.env}) (RR acc cenv.locals) s₄) E s₃) E s:=by
 obtain⟨it,fp,tn,J,H1,ei,I1,T,st1,f1,hq⟩:=h;subst ei;have hD:H1 s.heap.objs.size=aC:=I1.hok.fresh (aZ _);have GY:X.K.lookup s.heap.objs.size=aC:=by
  cases q:X.K.lookup s.heap.objs.size with|none=>rfl|some o=>exact absurd (cQ (I1.jr _ _ q)) (fZ _)
 obtain⟨W,⟨m0,w0⟩,turn⟩:=hq _ hD GY;have I3:Inv X pins σ (upd H1 s.heap.objs.size u0) {s with heap:=s.heap.push ob}:=I1.laid (t':=s.toks) (o:=u0) (λb u q=>cy _ q) (aZ _) (CK.ok _ _ I1.big);have oO:∀b∈fp,b<s.heap.objs.size:=λb hb=>by
  obtain⟨o,ho,_⟩:=T.obj _ _ st1 b hb;exact cQ ho
 have f3:∀b∈fp,eE X pins (upd H1 s.heap.objs.size u0) b:=λb hb=>⟨by rw[bP (gh (oO b hb))];exact(f1 b hb).1,(f1 b hb).2⟩
 refine CK.new _ _ _ _ (M5 (λx c e=>(I3.cell x c (DR (cells:=X.env.cells) scope.names [] (λx c e=>by cases e) x c e)).elim λv q=>q.lt) (λh₁ hns hk0 hnc=>?_));dsimp only at hns hk0 hnc ⊢;generalize Ar:({s with heap:=s.heap.push ob}:af)=s3 at I3;have vH:s3.heap=s.heap.push ob:=by rw[<-Ar]
 rw[<-vH]at hns hk0 hnc ⊢;have hk:∀b o,s3.heap.get? b=aB o->h₁.get? b=aB o:=hk0;have vI:∀b∈fp,b<s3.heap.objs.size:=λb hb=>by rw[vH,jU];exact ve (oO b hb)
 have J3:=M8 S I3 f3 vI (tk:=s.toks) hns hk hnc;have st3:tn 0 h₁:=T.keep _ _ _ st1 λb hb o q=>hk b o (by rw[vH];exact cy _ q);generalize ni:X.comp (ow++fr) scope s3.heap.objs.size s3 (upd H1 s.heap.objs.size u0) fp=Y at J3;have vJ:∀b∈fp,Y.Ok->∀{H':Hp},H' b=aC->eE Y [] H' b:=λb hb ok H' hn=>by
  subst ni;exact⟨hn,(ok.yi b hb).1,ok.mU b hb,.inl hb,(ok.yi b hb).2,λp hp=>by cases(show p∈([]:List (ah×Obj))from hp)⟩
 have back:∀{σ':St}{H':Hp}{s':af},Inv Y [] σ' H' s'->∀h'',Heap.SameBut s3.heap.objs.size s'.heap h''->Inv X pins σ H' {s' with heap:=h''}:=λ{σ' H' s'} I' h'' hs=>by
  subst ni;have nW:∀b o,s3.heap.get? b=aB o->b≠s3.heap.objs.size:=λb o q=>gh (cQ q);have un:Un (frs X.stack) fp (upd H1 s.heap.objs.size u0) H' s3.heap h'':=
   ⟨λb o q n hb hx=>(hs.2 b (nW b o q)).trans (I'.base.keep b o q n hb hx),λb o q n hb hx=>by
    obtain⟨sl,z⟩:=I'.base.slot b o q n hb hx;exact⟨sl,(hs.2 b (nW b o q)).trans z⟩,I'.base.free,λb o q hx=>by
    obtain⟨o',z⟩:=I'.base.there b o q hx;exact⟨o',(hs.2 b (nW b o q)).trans z⟩,I'.base.tups,I'.base.iN,I'.base.jb⟩
  have hok:fq X.prog X.w H' h'':=λb ob q=>by
   refine(I'.hok b ob q).stay (λc w' hcc z=>(hs.2 c ?_).trans z) (λ_ z=>z) λ_ _ z=>z;rintro rfl;have hfree:=I'.free;rcases hcc with rfl|hcc
   rw[show H' s3.heap.objs.size=aC from hfree]at q;cases q;rw[show H' s3.heap.objs.size=aC from hfree]at hcc;cases hcc
  have hos:s'.os=s3.os:=I'.os;exact I3.tQ (s':={s' with heap:=h''}) (ch:=fp) hos un hok I'.bare λb hb=>by
   obtain⟨_,a1,a2,a3,a4,a5⟩:=f1 b hb;exact⟨a3,a1,a4,a5⟩
 have AB:Y.prog=X.prog:=by subst ni;rfl
 have AD:Y.w=X.w:=by subst ni;rfl
 have Nk:Y.K=X.K:=by subst ni;rfl
 have AE:Y.A=X.A:=by subst ni;rfl
 have Nl:Y.calm=true:=by rw[<-ni];exact hc
 have Hl:Y.xe=ir:=by subst ni;rfl
 have Nm:Y.env.locals=s3.heap.objs.size:=by subst ni;rfl
 have hg':PG Y tg g:=by rw[<-ni];exact hg _ _ _ _
 have ht':iQ Y ifs tc:=by rw[<-ni];exact ht _ _ _ _
 have he':∀D,PM Y (emit (.ref D) Y.env) (tm D):=λD=>by rw[<-ni];exact he _ _ _ _ D
 have loop:∀s4:af,Inv Y [] (jt ow fr ix σ) (upd H1 s.heap.objs.size u0) s4->tn 0 s4.heap->codeAny (model X.prog X.w) X.A (.compLoop e 0 (.ref it) (.ref s.heap.objs.size) Y.env) (RR (.ref s.heap.objs.size) s3.heap.objs.size) s4:=by
  intro s4 I4 GZ;refine Us (CK.turn _ _ _) (CK.dl _ _ _) (CK.al _ _ _ _) (λn s'=>∃i σ' H',Inv Y [] σ' H' s'/\tn i s'.heap/\(∀b∈fp,H' b=aC)/\W i n σ' H') ?_ m0 ⟨0,_,_,I4,GZ,λb hb=>(f3 b hb).1,w0⟩;rintro n s5 ⟨i,ko,H5,I5,mX,qZ,w5⟩;rcases turn i n ko H5 w5 with⟨stop,q⟩|⟨go,step⟩
  .have td:=T.done Y AB AD Nk Nl i [] s5 ko H5 ir I5 (λb hb=>vJ b hb I5.ok (qZ b hb)) mX stop
   rw[AE]at td;refine bf td λr s6 bQ=>?_;obtain⟨hr,I6⟩:=bQ;subst hr;obtain⟨m6,DV,_⟩:=I6.loc;rw[Nm]at DV;have Nn:=I6.free;rw[Nm]at Nn;exact fin _ _ H5 s6 m6 (I3.kc (aZ _) Nn) DV (back I6) q
  have td:=T.item Y AB AD Nk Nl i [] s5 ko H5 ir I5 (λb hb=>vJ b hb I5.ok (qZ b hb)) mX go;rw[AE]at td;refine bf td λr s6 bQ=>?_;obtain⟨u,hr,h6⟩:=bQ;subst hr;refine bf h6 λ_ s7 bQ=>?_;obtain⟨x,H7,I7,r7,y7,vK,G0⟩:=bQ;have G1:=I7.pinned (λb hb=>vJ b hb I7.ok (G0 b hb)) (T.obj _ _ vK);have again:∀{kq:St}{H8:Hp}{s8:af}{m':Nat},Inv Y ([]++vz fp s7.heap) kq H8 s8->m'<n->W (i+1) m' kq H8->∃m,m<n/\∃i σ' H',Inv Y [] σ' H' s8/\tn i s8.heap/\(∀b∈fp,H' b=aC)/\W i m σ' H':=λ{kq H8 s8 m'} I8 hm w8=>by
   refine⟨m',hm,i+1,kq,H8,I8.dO,T.keep _ _ _ vK λb hb o q=>(I8.pin (b,o) (jG _ (jG _ (tT hb q)))).1,λb hb=>?_,w8⟩;obtain⟨o,q,d⟩:=T.obj _ _ vK b hb;exact(I8.pin (b,o) (jG _ (jG _ (tT hb q)))).2.1
  have q7:=hg' _ s7 ko H7 x u _ G1 r7 (step x H7 y7);rw[AB,AD,AE,Hl]at q7;refine bf q7 λ_ s8 bQ=>?_;obtain⟨kq,H8,I8,q8⟩:=bQ;have q8:=ht' _ s8 kq H8 _ I8 q8;rw[AB,AD,AE,Hl]at q8;refine bf q8 λok s9 z9=>z9.el λH9 I9 q9=>?_;cases ok with
  |false=>
   simp only[fF,eG]at q9 ⊢;obtain⟨m',hm,w9⟩:=q9;exact again I9 hm w9
  |true=>
   simp only[bY]at q9 ⊢;have Np:=he' _ _ s9 kq H9 _ I9 q9;rw[AB,AD,AE,Hl]at Np;exact bf Np λ_ G2 ⟨Uu,G3,G4,m',hm,G6⟩=>again G4 hm G6
 have DW:Inv Y [] (jt ow fr ix σ) (upd H1 s.heap.objs.size u0) {s with heap:=h₁,toks:=s.toks}:=by rw[<-Ar]at J3;exact J3
 have hl:=loop _ DW st3;obtain⟨rest,hcl⟩:=CK.cl;have fin':=Ut hcl (CK.ds _ _ _) (CK.as _ _ _ _) hl (T.self _ 0 _ _ _ st3 hl);rw[<-ni]at fin';exact fin'
theorem t6(CK:kC X.prog X.w e tg iter ifs emit newAcc ob u0)(hev:eval e X.env=comprehension e scope X.env pos newAcc false (eval iter X.env))(S:aV X ow fr ix scope)(hc:X.calm)(hi:PI X tg iter wi)
 (hg:∀C s₀ H₀ ex,PG (X.comp (ow++fr) scope C s₀ H₀ ex) tg g) (ht:∀C s₀ H₀ ex,iQ (X.comp (ow++fr) scope C s₀ H₀ ex) ifs tc) (he:∀C s₀ H₀ ex D,PM (X.comp (ow++fr) scope C s₀ H₀ ex) (emit (.ref D) (X.comp (ow++fr) scope C s₀ H₀ ex).env) (tm D))
 (hs:∀x,foldedSetIterable iter X.env x=pure x):PE X e (Ea X.K (jt ow fr ix) wi g tc tm u0):=by
 intro pins s σ H Q I h;rw[hev];obtain⟨rest,hcl⟩:=CK.cl;refine C6 (use:=aC) hcl hs (DQ λy hy e=>I.ok.has _ (S.free y hy e)) S.kind S.names (bf (hi pins s σ H _ I h) λv s1 h1=>bf h1 λitv s2 h2=>?_);exact zev (RR:=λacc C=>compPost (model X.prog X.w) X.A X.xe aC (EP X pins σ Q) acc C) CK S hc hg ht he h2 λD C H' s' m _ hn hI q=>⟨m,hn,λh'' lC=>⟨.ref D,H',hI h'' lC,rfl,q⟩⟩
theorem Nq{i:Nat}{y:Str}{py spos:Pos}(CK:kC X.prog X.w e tg iter ifs emit newAcc ob u0)(hev:∀use,evalThenUse e X.env use=(do let _ <-comprehension e scope X.env pos newAcc false (eval iter X.env) (aB use)))(hN:X.N.Nodup)(G7:X.N[i]?=aB y)(hy:Loc X.env.scope y)(S:aV X ow fr ix scope)(hc:X.calm)(hi:PI X tg iter wi)
 (hg:∀C s₀ H₀ ex,PG (X.comp (ow++fr) scope C s₀ H₀ ex) tg g) (ht:∀C s₀ H₀ ex,iQ (X.comp (ow++fr) scope C s₀ H₀ ex) ifs tc) (he:∀C s₀ H₀ ex D,PM (X.comp (ow++fr) scope C s₀ H₀ ex) (emit (.ref D) (X.comp (ow++fr) scope C s₀ H₀ ex).env) (tm D))
 (hsw:swapsWith e (aB (.Name y py)) spos.line X.env=pure true) (hf:X.fn y=true\/X.env.scope.names.lookup y=aB .local)
 (hs:∀x,foldedSetIterable iter X.env x=pure x):PS X (.Assign [.Name y py] e spos) (qY (Ea X.K (jt ow fr ix) wi g tc tm u0) (iP i)):=by
 intro pins s σ H D I h;rw[exec_Assign_Name_used _ _ _ _ hsw];refine aJ (mQ (aJ ?_));rw[hev];obtain⟨rest,hcl⟩:=CK.cl;refine aJ (ie (C6 (use:=aB (assign (.Name y py) X.env)) (Q:=λ_ s'=>SP X pins D .next s') hcl hs (DQ λy hy e=>I.ok.has _ (S.free y hy e)) S.kind S.names
  (bf (hi pins s σ H _ I h) λv s1 h1=>bf h1 λitv s2 h2=>?_)) (λ_ s' hq=>bH (bH hq)) λ_ _ e=>e)
 refine zev (Q:=λx H1=>iP i x σ H1 D.nx) (RR:=λacc C=>compPost (model X.prog X.w) X.A X.xe (aB (assign (.Name y py) X.env)) (λ_ s'=>SP X pins D .next s') acc C) CK S hc hg ht he h2 λd C H' s' m hC hn hI q=>?_;show wpAny _ X.A (assign (.Name y py) X.env (.ref d)) _ _ _;have I':Inv X pins σ H' s':=hI s'.heap (.refl ..);refine wpAny_assign_Name (F2 I' hN G7 hy (v:=.ref d) rfl (λs'' G8 ⟨a,vL,ha⟩=>?_) hf);obtain⟨c0,c1,c2,c3,c4,c5⟩:=hC;have G9:C≠a:=by rcases ha with rfl|ha;exact c1;exact λz=>c4 _ _ ha z.symm
 exact⟨m,hn.sameBut vL G9,λh'' lC=>⟨_,H',G8.turned (t':=s''.toks) (it:=C) (λb o hb q=>(lC.2 b hb).trans q) c0 c1 c3 c4 c5,q⟩⟩
end
theorem Uv:fillsNumberSlot (.type "tuple") "mul" = pure false:=
 PySem.fillsNumberSlot_seq (id:="tuple.__mul__") (r:=aB (.builtin "tuple.__rmul__")) zl.lookup (by decide +kernel) F.slot_tuple_rmul.lookup (by decide +kernel)
theorem Uw:seqRepeat? (.type "tuple")=pure (aB (.builtin "tuple.__mul__")):=by unfold seqRepeat?;rw[PySem.seqSlot_of (T:="tuple") (name:="__mul__") (id:="tuple.__mul__") zl.lookup (by decide +kernel),PySem.seqSlot_of (T:="tuple") (name:="__rmul__") (id:="tuple.__rmul__") F.slot_tuple_rmul.lookup (by decide +kernel)];rfl
theorem Ux(k:Int)(t:Tok)(l:ah)(its:Array aa)(n:Nat)(dd:Option ah)(sl:Array (Option aa)) :
 Meets (Builtin.«int.__rmul__» ⟨[.int k t,.ref l],[]⟩) (λ_ R s=>s.heap.get? l=aB {cls:=.type "tuple",dict:=dd,data:=.seq its n,slots:=sl}/\R (.ok (.ret Value.notImplemented)) s):=
 .of_wp λprog w A R s h=>by
  obtain⟨hp,g,d,tk,os⟩:=s;obtain⟨e,h⟩:=h
  wp_walk using oE e;exact⟨_,rfl,h⟩
theorem Uy(l:ah)(its:Array aa)(n:Nat)(dd:Option ah)(sl:Array (Option aa))(k:Int)(t:Tok)(h1:¬(decide (k < -(2 ^ 63))||decide (k>=2 ^ 63)))(h2:(its.isEmpty||k==1)) :
 Meets (Builtin.«tuple.__mul__» ⟨[.ref l,.int k t],[]⟩) (λ_ R s=>s.heap.get? l=aB {cls:=.type "tuple",dict:=dd,data:=.seq its n,slots:=sl}/\R (.ok (.ret (.ref l))) s):=
 .of_wp λprog w A R s h=>by
  obtain⟨hp,g,d,tk,os⟩:=s;obtain⟨e,h⟩:=h;have f1:=AutoSeq1.idx_int
  wp_walk using oE e;refine xN ?_;rw[if_neg h1]
  wp_walk using oE e;exact⟨_,rfl,h⟩
theorem Uz(l:ah)(its:Array aa)(n:Nat)(dd:Option ah)(sl:Array (Option aa))(k:Int)(t:Tok)(h1:¬(decide (k < -(2 ^ 63))||decide (k>=2 ^ 63)))(h2:¬(its.isEmpty||k==1))(h3:(decide (k<=0)||its.isEmpty)) :
 Meets (Builtin.«tuple.__mul__» ⟨[.ref l,.int k t],[]⟩) (λ_ R s=>s.heap.get? l=aB {cls:=.type "tuple",dict:=dd,data:=.seq its n,slots:=sl}/\R (.ok (.ret (.ref s.heap.objs.size))) {s with heap:=s.heap.push {cls:=.type "tuple",data:=.seq #[]}}):=
 .of_wp λprog w A R s h=>by
  obtain⟨hp,g,d,tk,os⟩:=s;obtain⟨e,h⟩:=h;have f1:=AutoSeq1.idx_int
  wp_walk using oE e;refine xN ?_;rw[if_neg h1]
  wp_walk using oE e;exact⟨_,rfl,h⟩
theorem UA(l:ah)(its:Array aa)(n:Nat)(dd:Option ah)(sl:Array (Option aa))(k:Int)(t:Tok)(h1:¬(decide (k < -(2 ^ 63))||decide (k>=2 ^ 63)))(h2:¬(its.isEmpty||k==1))(h3:¬(decide (k<=0)||its.isEmpty)=true)
 (h4:¬(its.size*k> (2 ^ 63-1)/8)) (h5:¬Builtin.Tuple.tupleTooMany (its.size*k)) (h6:((bI k.toNat its).foldl (· ++ ·) #[]).size<=sizeLine) :
 Meets (Builtin.«tuple.__mul__» ⟨[.ref l,.int k t],[]⟩) (λ_ R s=>s.heap.get? l=aB {cls:=.type "tuple",dict:=dd,data:=.seq its n,slots:=sl}/\R (.ok (.ret (.ref s.heap.objs.size))) {s with heap:=s.heap.push {cls:=.type "tuple",data:=.seq ((bI k.toNat its).foldl (· ++ ·) #[])}}):=
 .of_wp λprog w A R s h=>by
  obtain⟨hp,g,d,tk,os⟩:=s;obtain⟨e,h⟩:=h;have f1:=AutoSeq1.idx_int
  wp_walk using oE e;refine xN ?_;rw[if_neg h1]
  wp_walk using oE e;refine xN ?_;rw[if_neg h4]
  wp_walk using oE e;exact⟨_,rfl,h⟩
section
variable{X:Cx}
noncomputable def t7(K:aH):R2:=λx y H Q=>∃a k xs,x=.ref a/\y=.int k/\cj K H a xs/\-(2 ^ 62)<=k/\k<2 ^ 62/\xs.length*k.toNat<=sizeLine/\
 ((xs.isEmpty||k==1)=true->Q (.ref a) H)/\((xs.isEmpty||k==1)=false->∀p,H p=aC->Q (.ref p) (upd H p (.tup (bI k.toNat xs).flatten)))
theorem Nr{xs:List V}{us:List aa}(r:Vals xs us):us.toArray.isEmpty=xs.isEmpty:=by cases r<;>rfl
theorem UB:dG X (binaryOp .Mult) (t7 X.K):=by
 intro pins s σ H x y v u Q I rx ry h;obtain⟨a,k,xs,rfl,rfl,ha,k1,k2,hz,q1,q2⟩:=h;cases rx;obtain⟨t,rfl⟩:=ry;obtain⟨its,r,p,_⟩:=I.tuple ha;obtain⟨⟨c,dd,dt,sl⟩,e1,e2,n,e3⟩:=p
 replace e2:c=.type "tuple":=e2
 replace e3:dt=.seq its.toArray n:=e3;subst e2 e3;have hl:xs.length=its.length:=r.length;have h1:¬(decide (k < -(2 ^ 63))||decide (k>=2 ^ 63))=true:=by simp only[p5,fS];lia
 refine wpAny_binaryOp_repeat_ref (T:="tuple") (U:="int") (by decide) ⟨_,e1,rfl⟩ (λs'=>typeIs_int s' k t) Uv F.fills_int_mul F.slot_int_rmul Uw F.slot_int_index.lookup
  (qK F.slot_int_rmul (typeIs_int s k t) F.entry_int_rmul (F.args_int_rmul_2 _ _) (Ux k t a its.toArray n dd sl) ⟨e1,rfl,⟨_,e1,rfl⟩,?_⟩)
 by_cases h2:(its.toArray.isEmpty||k==1)=true;refine qK zl ⟨_,e1,rfl⟩ F.entry_tuple_mul (F.args_tuple_mul_2 _ _) (Uy a its.toArray n dd sl k t h1 h2) ⟨e1,?_⟩;exact⟨.ref a,H,I,rfl,q1 (by rw[<-Nr r];exact h2)⟩;have q2:=q2 (by rw[<-Nr r];simpa using h2);by_cases h3:(decide (k<=0)||its.toArray.isEmpty)=true;have hk:k.toNat=0:=by
  have:its.toArray.isEmpty=false:=by
   cases q:its.toArray.isEmpty with|false=>rfl|true=>rw[q]at h2;exact absurd rfl h2
  rw[this,Bool.or_false,fS]at h3;lia
 refine qK zl ⟨_,e1,rfl⟩ F.entry_tuple_mul (F.args_tuple_mul_2 _ _) (Uz a its.toArray n dd sl k t h1 h2 h3) ⟨e1,?_⟩;rw[hk]at q2;exact⟨.ref s.heap.objs.size,_,I.laid (t':=s.toks) (o:=.tup []) (λb ob q=>cy _ q) (aZ _) ⟨j8 _,[],.nil,lz.new _ _⟩,rfl,q2 _ (I.hok.fresh (aZ _))⟩;have hk:0<k:=by simp only[p5,fS,not_or]at h3;lia
 have hkn:((k.toNat:Nat):Int)=k:=Int.toNat_of_nonneg (by lia);have hmul:(its.toArray.size:Int)*k=((xs.length*k.toNat:Nat):Int):=by rw[dR,<-hl,Int.natCast_mul,hkn]
 have hsl:(sizeLine:Nat)=16777216:=rfl;have fl:(bI k.toNat its.toArray).foldl (· ++ ·) #[]=(bI k.toNat its).flatten.toArray:=by
  have:=MV its k.toNat []
  rw[xU]at this;exact this
 refine qK zl ⟨_,e1,rfl⟩ F.entry_tuple_mul (F.args_tuple_mul_2 _ _) (UA a its.toArray n dd sl k t h1 h2 h3 (by rw[hmul];lia) (by
  unfold Builtin.Tuple.tupleTooMany;rw[hmul,fS];lia) (by rw[fl,dR,MX,Nat.mul_comm,<-hl];exact hz)) ⟨e1,?_⟩
 rw[fl];exact⟨.ref s.heap.objs.size,_,I.laid (t':=s.toks) (o:=.tup (bI k.toNat xs).flatten) (λb ob q=>cy _ q) (aZ _) ⟨by rw[MX,Nat.mul_comm];exact hz,_,r.rep k.toNat,lz.new _ _⟩,rfl,q2 _ (I.hok.fresh (aZ _))⟩
noncomputable def Nt(K:aH):R2:=λx y H Q=>∃a b ys,x=.ref a/\y=.ref b/\cj K H a []/\cj K H b ys/\Q (.ref b) H
theorem UC:dG X (binaryOp .Add) (Nt X.K):=by
 intro pins s σ H x y v u Q I rx ry h;obtain⟨a,b,ys,rfl,rfl,ha,hb,q⟩:=h;cases rx;cases ry;obtain⟨its,r1,p1,_⟩:=I.tuple ha;obtain⟨its2,r2,p2,_⟩:=I.tuple hb;cases r1;obtain⟨⟨c,dd,dt,sl⟩,e1,e2,n,e3⟩:=p1;obtain⟨⟨c2,dd2,UD,sl2⟩,f1,f2,n2,f3⟩:=p2
 replace e2:c=.type "tuple":=e2
 replace e3:dt=.seq ([]:List aa).toArray n:=e3
 replace f2:c2=.type "tuple":=f2
 replace f3:UD=.seq its2.toArray n2:=f3;subst e2 e3 f2 f3;exact concat_meets ⟨_,e1,rfl⟩ ⟨_,f1,rfl⟩ yW yX zk zj (vcs _ _) (tuple_addW0 a b ([]:List aa).toArray its2.toArray n n2 dd dd2 sl sl2 rfl) ⟨e1,f1,⟨.ref b,H,I,rfl,q⟩⟩
noncomputable def gv(ds:List aA)(d:aA):Bool:=ds.any λe=>PyData.eqv e d
noncomputable def rH(K:aH)(neg:Bool):R2:=λx y H Q=>∃p xs ds d,y=.ref p/\(cR K H p xs\/cj K H p xs)/\m5 K (λ_=>False) H xs ds/\Rp K (λ_=>False) H x d/\ds.all SeqAt.shaped=true/\SeqAt.shaped d=true/\Q (.bl (if neg then !gv ds d else gv ds d)) H
theorem Ho{h:az}:∀{us:List aa} {ds:List aA} {as:List ah} {i:Nat} {u:aa},ReadsAll h us ds as->us[i]?=aB u->∃d bs,ds[i]?=aB d/\Reads h u d bs
 |_,_,_,i,u,.nil,e=>by simp at e
 |_,_,_,0,u,.cons r _,e=>by simp at e;subst e;exact⟨_,_,rfl,r⟩
 |_,_,_,i+1,u,.cons _ rs,e=>by
  obtain⟨d,bs,h1,h2⟩:=Ho rs (by simpa using e);exact⟨d,bs,by simpa using h1,h2⟩
open Classical in
noncomputable def eL(us:List aa)(ds:List aA)(d:aA)(u:aa):Bool:=decide (∃(i:Nat) (e:aA),us[i]?=aB u/\ds[i]?=aB e/\PyData.eqv e d=true)
open Classical in
theorem Eb{us:List aa}{ds:List aA}{d:aA}{u:aa}:eL us ds d u=true↔∃(i:Nat) (e:aA),us[i]?=aB u/\ds[i]?=aB e/\PyData.eqv e d=true:=by unfold eL;exact decide_eq_true_iff
theorem Ec{us:List aa}{ds:List aA}{d:aA}(hl:us.length=ds.length):us.any (eL us ds d)=gv ds d:=by
 cases q:gv ds d with
 |true=>
  unfold gv at q;rw[Dh]at q;obtain⟨e,h1,h2⟩:=q;obtain⟨i,hi,h3⟩:=List.mem_iff_getElem.mp h1;rw[Dh];refine⟨us[i]'(by lia),kZ _,?_⟩;rw[Eb];exact⟨i,e,by simp,by rw[dh hi,h3],h2⟩
 |false=>
  unfold gv at q;rw[List.any_eq_false]at q ⊢;intro u hu z;rw[Eb]at z;obtain⟨i,e,h1,h2,h3⟩:=z;exact q e (mR h2) h3
theorem AF{h:az}:∀{us:List aa} {ds:List aA} {as:List ah},ReadsAll h us ds as->us.length=ds.length|_,_,_,.nil=>rfl|_,_,_,.cons _ r=>by rw[cG,cG,AF r]
theorem Ed{A:ak}{s:af}{us:List aa}{ds:List aA}{as bs:List ah}{d:aA}{v:aa}(hu:A.units+64<cLine)(ra:ReadsAll s.heap us ds as)(rb:Reads s.heap v d bs)(s1:ds.all SeqAt.shaped)(s2:SeqAt.shaped d) :
 ∀u∈us,SeqAt.EqAt A s u v (eL us ds d u):=by
 intro u hm;have sh:∀(i:Nat)(e:aA),ds[i]?=aB e->SeqAt.shaped e=true:=λi e q=>fX.mp s1 e (mR q);cases q:eL us ds d u with
 |true=>
  rw[Eb]at q;obtain⟨i,e,h1,h2,h3⟩:=q;obtain⟨e',cs,h4,h5⟩:=Ho ra h1;rw[h2]at h4;cases h4;have:=SeqAt.eqAt_reads e d A s u v cs bs h5 rb (DB (sh i e h2)) (DB s2) (SeqAt.room_of_shaped (sh i e h2) hu);rw[h3]at this;exact this
 |false=>
  obtain⟨i,hi,h1⟩:=List.mem_iff_getElem.mp hm;have h1:us[i]?=aB u:=by rw[dh hi,h1]
  obtain⟨e,cs,h4,h5⟩:=Ho ra h1;have h3:PyData.eqv e d=false:=by
   cases z:PyData.eqv e d with
   |false=>rfl
   |true=>
    rw[Eb.mpr ⟨i,e,h1,h4,z⟩]at q;cases q
  have:=SeqAt.eqAt_reads e d A s u v cs bs h5 rb (DB (sh i e h4)) (DB s2) (SeqAt.room_of_shaped (sh i e h4) hu);rw[h3]at this;exact this
theorem UE(hu:X.A.in1.units+64<cLine):dG X (compareOp .In) (rH X.K false):=by
 intro pins s σ H x y v u Q I rx ry h;obtain⟨p,xs,ds,d,rfl,hq,r1,r2,s1,s2,q⟩:=h;cases ry;obtain⟨bs,rb⟩:=r2.reads I rx;rcases hq with hq|hq
 obtain⟨its,r,pl,hz⟩:=I.list hq;obtain⟨as,ra⟩:=r1.reads I r;refine SeqAt.in_listAt (eL its ds d) pl.isList (λw hw=>Ed hu ra rb s1 s2 w (by simpa using hw)) ⟨.bl _,H,I,rfl,?_⟩;rw[show its.toArray.any (eL its ds d)=its.any (eL its ds d) by simp,Ec (AF ra)];exact q;obtain⟨its,r,pl,hz⟩:=I.tuple hq;obtain⟨as,ra⟩:=r1.reads I r;refine SeqAt.in_tupleAt (eL its ds d) pl (λw hw=>Ed hu ra rb s1 s2 w (by simpa using hw)) ⟨.bl _,H,I,rfl,?_⟩;rw[show its.toArray.any (eL its ds d)=its.any (eL its ds d) by simp,Ec (AF ra)];exact q
theorem UG(hu:X.A.in1.units+64<cLine):dG X (compareOp .NotIn) (rH X.K true):=by
 intro pins s σ H x y v u Q I rx ry h;obtain⟨p,xs,ds,d,rfl,hq,r1,r2,s1,s2,q⟩:=h;cases ry;obtain⟨bs,rb⟩:=r2.reads I rx;rcases hq with hq|hq
 obtain⟨its,r,pl,hz⟩:=I.list hq;obtain⟨as,ra⟩:=r1.reads I r;refine SeqAt.notIn_listAt (eL its ds d) pl.isList (λw hw=>Ed hu ra rb s1 s2 w (by simpa using hw)) ⟨.bl _,H,I,rfl,?_⟩;rw[show its.toArray.any (eL its ds d)=its.any (eL its ds d) by simp,Ec (AF ra)];exact q;obtain⟨its,r,pl,hz⟩:=I.tuple hq;obtain⟨as,ra⟩:=r1.reads I r;refine SeqAt.notIn_tupleAt (eL its ds d) pl (λw hw=>Ed hu ra rb s1 s2 w (by simpa using hw)) ⟨.bl _,H,I,rfl,?_⟩;rw[show its.toArray.any (eL its ds d)=its.any (eL its ds d) by simp,Ec (AF ra)];exact q
end
end L2
namespace HT
open PySem PySem.Spec PyProof.Rows
section
variable{prog:ai}{w:aj}{A:ak}{E:aa->af->Prop}{s:af}
theorem fj{t sl:ah}{items:Array aa}{vl vu:aa}{lo hi:Option Int}{Q:aa->af->Prop}(ht:IsTup s.heap t items)(hs:s.heap.IsSliceOf sl vl vu .none)(pl:IsPart vl lo)(pu:IsPart vu hi)
 (hw:bK items.size 0 lo=0/\bK items.size items.size hi=items.size)
 (h:Q (.ref t) s):wpAny (model prog w) A (getItem (.ref t) (.ref sl)) Q E s:=by
 obtain⟨os,hos,hcs,hds⟩:=id hs;have GA:s.TypeIs (.ref sl) "slice":=⟨os,hos,hcs⟩
 unfold getItem
 try with_reducible refine mP ?_
 first|refine aJ (bH ?_)|skip
 refine aJ (wpAny_sequenceKey ht.typeIs (by decide) ?_);refine aJ (xG (name:=Str.ofString "__getitem__") ht.typeIs xZ
  (xM xZ ht.typeIs entry_tuple_getitem ?_ (args_tuple_getitem _ _)))
 show wpAny _ _ (Builtin.Tuple.tupleItemsOf (.ref t) >>= _) _ _ s;refine aJ (tupleItemsOf_ ht ?_);refine aJ (C9 GA ?_);rw[if_pos (by decide)];refine aJ (MP hs pl pu ?_);have hyes:((((bK items.size 0 lo:Nat):Int)==0&& (1:Int)==1&& (bK items.size items.size hi-bK items.size 0 lo)==items.size)):=by rw[hw.1,hw.2];simp
 show wpAny _ _ (if(((bK items.size 0 lo:Nat):Int)==0&& (1:Int)==1&& (bK items.size items.size hi-bK items.size 0 lo)==items.size)=true then _ else _) _ _ s;rw[if_pos hyes];unfold Builtin.Tuple.tupleIsExact;refine aJ (aJ (C9 ht.typeIs (bH ?_)));rw[if_pos (by decide)];refine aJ (qL ?_);exact bH ⟨_,rfl,bH h⟩
end
end HT
namespace L2
open PySem PySem.Spec PyProof.Rows
variable{X:Cx}
noncomputable def AG(K:aH):V->Option Int->Option Int->Hp->VK->Prop:=λx lo hi H Q=>∃a xs,x=.ref a/\cj K H a xs/\
 (HT.bK xs.length 0 lo=0/\HT.bK xs.length xs.length hi=xs.length)/\Q (.ref a) H
theorem UH:rE X (AG X.K):=by
 intro pins s σ H x v vl vu lo hi sl Q I rx hs pl pu h;obtain⟨a,xs,rfl,hx,hw,q⟩:=h;cases rx;obtain⟨its,r,ht,hz⟩:=I.tuple hx;have hlen:its.toArray.size=xs.length:=by rw[dR];exact r.length.symm
 refine⟨"tuple",_,xZ.lookup,ht.typeIs,?_⟩;refine HT.fj ht hs pl pu (by rw[hlen];exact hw) ?_;exact⟨.ref a,_,I,rfl,q⟩
noncomputable def Hq(K:aH):V->Option Int->Option Int->Hp->VK->Prop:=λx lo hi H Q=>(Af K x lo hi H Q\/AG K x lo hi H Q)\/Ak K x lo hi H Q
theorem UI:rE X (Hq X.K):=(Tc.or UH).or To
noncomputable def ZI(b:Bool)(h:az)(I l:ah)(k:Nat):Prop:=match b with|true=>h.IsTupleIter I l k|false=>h.IsListIter I l k
noncomputable def ZS(b:Bool)(h:az)(l:ah)(xs:Array aa):Prop:=match b with|true=>h.IsTuple l xs|false=>h.IsList l xs
noncomputable def AH(b:Bool):String:=match b with|true=>"tuple_iterator" |false=>"list_iterator"
noncomputable def Ef(b:Bool)(l:ah):Obj:={cls:=.type (AH b),data:=.fields #[.ref l,.int 0 0]}
theorem ZI.ex{b:Bool}{h h':az}{I l c:ah}{k:Nat}(x:ZI b h I l k)(s:Heap.ExtBut c h h')(n:I≠c):ZI b h' I l k:=by cases b;exact Heap.IsListIter.extBut x s n;exact Heap.IsTupleIter.extBut x s n
theorem ZS.ex{b:Bool}{h h':az}{l c:ah}{xs:Array aa}(x:ZS b h l xs)(s:Heap.ExtBut c h h')(n:l≠c):ZS b h' l xs:=by cases b;exact Heap.IsList.extBut x s n;exact Heap.IsTuple.extBut x s n
theorem ZI.mv{b:Bool}{h h':az}{I l:ah}{k:Nat}(x:ZI b h I l k)(e:∀o,h.get? I=aB o->h'.get? I=aB o):ZI b h' I l k:=by cases b;exact Heap.IsListIter.at x e;exact Heap.IsTupleIter.at x e
theorem ZI.ob{b:Bool}{h:az}{I l:ah}{k:Nat}(x:ZI b h I l k):∃o,h.get? I=aB o/\∀v,o.data≠.cell v:=by cases b;obtain⟨o,h1,h2,h3⟩:=x;exact⟨o,h1,λv z=>by rw[h3]at z;cases z⟩;obtain⟨o,h1,h2,h3⟩:=x;exact⟨o,h1,λv z=>by rw[h3]at z;cases z⟩
theorem ZS.lt{b:Bool}{h:az}{l:ah}{xs:Array aa}(x:ZS b h l xs):l<h.objs.size:=by cases b<;> (obtain⟨o,h1,_⟩:=x;exact cQ h1)
theorem ZS.push{b:Bool}{h:az}{l:ah}{xs:Array aa}(x:ZS b h l xs)(o:Obj):ZS b (h.push o) l xs:=by cases b;exact Heap.IsList.push x o;exact Heap.IsTuple.push x o
section
variable{prog:ai}{w:aj}{A:ak}{E:aa->af->Prop}{s:af}
theorem Hr{b:Bool}{I l:ah}{k:Nat}{xs:Array aa}{y:aa}{Q:aa->af->Prop}(hi:ZI b s.heap I l k)(hl:ZS b s.heap l xs)(hy:xs[k]?=aB y)
 (q:∀g,ZI b g I l (k+1)->Heap.SameBut I s.heap g->Q y {s with heap:=g}):wpAny (model prog w) A (Builtin.SmallTypes.nextOf (.ref I)) Q E s:=by
 cases b;exact wpAny_nextOf_list_item hi hl hy q;exact Nc hi hl hy q
theorem z_end{b:Bool}{I l:ah}{k:Nat}{xs:Array aa}{Q:aa->af->Prop}(hA:A.handled=aC)(hi:ZI b s.heap I l k)(hl:ZS b s.heap l xs)(hy:xs[k]?=aC)
 (q:∀g e,Heap.ExtBut I s.heap g->(∃o,g.get? e=aB o/\o.cls=.type "StopIteration")->E (.ref e) {s with heap:=g}):wpAny (model prog w) A (Builtin.SmallTypes.nextOf (.ref I)) Q E s:=by
 cases b;exact wpAny_nextOf_list_end hA hi hl hy q;exact Hf hA hi hl hy q
structure ZA(z TI TO i1 i2 l1 l2:ah):Prop where
 a1:TI≠z/\TO≠z/\i1≠z/\i2≠z
 a2:TI≠TO/\TI≠i1/\TI≠i2/\TO≠i1/\TO≠i2/\i1≠i2
 a3:l1≠z/\l1≠TO/\l1≠i1/\l1≠i2
 a4:l2≠z/\l2≠TO/\l2≠i1/\l2≠i2
theorem UJ{n l1 l2:Nat}(h1:l1<n)(h2:l2<n):ZA (n+4) (n+2) (n+3) n (n+1) l1 l2:=by have e:∀{a b:Nat},(a<b\/b<a)->a≠b:=λh=>h.elim gh tN;refine⟨⟨?_,?_,?_,?_⟩,⟨?_,?_,?_,?_,?_,?_⟩,⟨?_,?_,?_,?_⟩,?_,?_,?_,?_⟩<;>exact e (by lia)
theorem UK{b c:Bool}{z TI TO i1 i2 l1 l2:ah}{k:Nat}{xs ys:Array aa}{x y p q:aa}{Q:aa->af->Prop}(D:ZA z TI TO i1 i2 l1 l2)
 (hz:IsZip s.heap z TI TO .none) (hTI:IsPair s.heap TI (.ref i1) (.ref i2)) (hTO:IsPair s.heap TO p q)
 (h1:ZI b s.heap i1 l1 k) (h2:ZI c s.heap i2 l2 k) (hl1:ZS b s.heap l1 xs) (hl2:ZS c s.heap l2 ys) (hx:xs[k]?=aB x) (hy:ys[k]?=aB y)
 (hQ:∀h',IsZip h' z TI TO (rawInt s.heap.objs.size)->IsPair h' TO x y->ZI b h' i1 l1 (k+1)->ZI c h' i2 l2 (k+1)->IsPair h' s.heap.objs.size x y->h'.objs.size=s.heap.objs.size+1->
   (∀c o,c≠z->c≠TO->c≠i1->c≠i2->s.heap.get? c=aB o->h'.get? c=aB o)->Q (.ref s.heap.objs.size) {s with heap:=h'}) :
 wpAny (model prog w) A (Builtin.«zip.__next__» ⟨[.ref z],[]⟩) (λfin s'=>∃v,fin=.done (.ret v)/\Q v s') E s:=by
 obtain⟨⟨d1,d2,d3,d4⟩,⟨d5,d6,d7,d8,d9,AI⟩,⟨Eg,UL,UM,UN⟩,Hs,Ht,Hu,UO⟩:=D;show wpAny _ _ (field (.ref z) 2 >>= _) _ _ _;refine aJ (lq hz rfl (x:=.bool false) rfl ?_);show wpAny _ _ (field (.ref z) 3 >>= _) _ _ _;refine aJ (lq hz rfl (x:=.ref TI) rfl (aJ (qI hTI rfl ?_)));show wpAny _ _ (Builtin.SmallTypes.ownedTupleIsFree (.ref z) >>= _) _ _ _;refine aJ ?_;unfold Builtin.SmallTypes.ownedTupleIsFree;refine aJ (lq hz rfl (x:=.none) rfl (bH ?_));simp only[bY];refine aJ (qL (aJ (lq hz rfl (x:=.ref TO) rfl (aJ (xJ hz (by simp) λg1 z1 s1=>?_)))))
 replace z1:IsZip g1 z TI TO .ellipsis:=z1;refine aJ ?_;simp only[List.zipIdx_cons,List.zipIdx_nil,vec,u6];refine aJ (aJ (C8 ?_));show wpAny _ _ (Builtin.SmallTypes.nextOf (.ref i1) >>= _) _ _ _;refine aJ (Hr (h1.ex s1.extBut d3) (hl1.ex s1.extBut Eg) hx λg2 y1 s2=>bH ?_);have t2:IsPair g2 TO p q:=s2.extBut _ _ d8 (s1.extBut _ _ d2 hTO);refine aJ (qI t2 rfl (aJ (wpAny_updateSeq_pair t2 λg3 t3 s3=>?_)))
 replace t3:IsPair g3 TO x q:=t3;refine aJ (wpAny_letGo (bH (aJ (aJ (C8 ?_)))));show wpAny _ _ (Builtin.SmallTypes.nextOf (.ref i2) >>= _) _ _ _;refine aJ (Hr (((h2.ex s1.extBut d4).ex s2.extBut (eV AI)).ex s3.extBut (eV d9)) (((hl2.ex s1.extBut Hs).ex s2.extBut Hu).ex s3.extBut Ht) hy λg4 y2 s4=>bH ?_);have t4:IsPair g4 TO x q:=s4.extBut _ _ d9 t3;refine aJ (qI t4 rfl (aJ (wpAny_updateSeq_pair t4 λg5 t5 s5=>?_)))
 replace t5:IsPair g5 TO x y:=t5;refine aJ (wpAny_letGo (bH (bH (aJ (qI t5 rfl (aJ (wpAny_newTuple ?_)))))));have hsz:g5.objs.size=s.heap.objs.size:=by rw[s5.1,s4.1,s3.1,s2.1,s1.1]
 have z5:IsZip g5 z TI TO .ellipsis:=s5.extBut _ _ (eV d2) (s4.extBut _ _ (eV d4) (s3.extBut _ _ (eV d2) (s2.extBut _ _ (eV d3) z1)));have k5:∀c o,c≠z->c≠TO->c≠i1->c≠i2->s.heap.get? c=aB o->g5.get? c=aB o:=λc o c1 c2 c3 c4 e=>s5.extBut _ _ c2 (s4.extBut _ _ c4 (s3.extBut _ _ c2 (s2.extBut _ _ c3 (s1.extBut _ _ c1 e))));have UP:ZI b g5 i1 l1 (k+1):=((y1.ex s3.extBut (eV d8)).ex s4.extBut AI).ex s5.extBut (eV d8);have UQ:ZI c g5 i2 l2 (k+1):=y2.ex s5.extBut (eV d9);have Eh:z<g5.objs.size:=cQ z5;show wpAny _ _ (Builtin.SmallTypes.ownedTupleHandOut (.ref z) (.ref g5.objs.size) >>= _) _ _ _;refine aJ ?_;unfold Builtin.SmallTypes.ownedTupleHandOut;have z6:IsZip (g5.push {cls:=.type "tuple",data:=.seq #[x,y]}) z TI TO .ellipsis:=cy _ z5;refine aJ (xJ z6 (by simp) λg7 z7 s7=>?_)
 replace z7:IsZip g7 z TI TO (rawInt g5.objs.size):=z7;refine xJ z7 (by simp) λg8 z8 s8=>?_
 replace z8:IsZip g8 z TI TO (rawInt g5.objs.size):=z8;have up:∀c o,c≠z->g5.get? c=aB o->g8.get? c=aB o:=λc o c1 e=>s8.extBut _ _ c1 (s7.extBut _ _ c1 (cy _ e));have p8:IsPair g8 g5.objs.size x y:=s8.extBut _ _ (tN Eh) (s7.extBut _ _ (tN Eh) (iI _ rfl));have n8:g8.objs.size=g5.objs.size+1:=by rw[s8.1,s7.1,jU]
 rw[hsz]at z8 p8 n8;refine bH ⟨_,rfl,?_⟩;show Q (.ref g5.objs.size) _;rw[hsz];exact hQ g8 z8 (up _ _ d2 t5) (UP.mv λo e=>up _ o d3 e) (UQ.mv λo e=>up _ o d4 e) p8 n8 λc o c1 c2 c3 c4 e=>up c o c1 (k5 c o c1 c2 c3 c4 e)
theorem UR{b c:Bool}{z TI TO i1 i2 l1 l2:ah}{k:Nat}{xs ys:Array aa}{p q:aa}{Q:Fin->af->Prop}(hA:A.handled=aC)(D:ZA z TI TO i1 i2 l1 l2)
 (hz:IsZip s.heap z TI TO .none) (hTI:IsPair s.heap TI (.ref i1) (.ref i2)) (hTO:IsPair s.heap TO p q)
 (h1:ZI b s.heap i1 l1 k) (h2:ZI c s.heap i2 l2 k) (hl1:ZS b s.heap l1 xs) (hl2:ZS c s.heap l2 ys) (he:xs[k]?=aC\/ys[k]?=aC)
 (hE:∀h' e,(∀c o,c≠z->c≠TO->c≠i1->c≠i2->s.heap.get? c=aB o->h'.get? c=aB o)->(∃o,h'.get? e=aB o/\o.cls=.type "StopIteration")->E (.ref e) {s with heap:=h'}) :
 wpAny (model prog w) A (Builtin.«zip.__next__» ⟨[.ref z],[]⟩) Q E s:=by
 obtain⟨⟨d1,d2,d3,d4⟩,⟨d5,d6,d7,d8,d9,AI⟩,⟨Eg,UL,UM,UN⟩,Hs,Ht,Hu,UO⟩:=D;show wpAny _ _ (field (.ref z) 2 >>= _) _ _ _;refine aJ (lq hz rfl (x:=.bool false) rfl ?_);show wpAny _ _ (field (.ref z) 3 >>= _) _ _ _;refine aJ (lq hz rfl (x:=.ref TI) rfl (aJ (qI hTI rfl ?_)));show wpAny _ _ (Builtin.SmallTypes.ownedTupleIsFree (.ref z) >>= _) _ _ _;refine aJ ?_;unfold Builtin.SmallTypes.ownedTupleIsFree;refine aJ (lq hz rfl (x:=.none) rfl (bH ?_));simp only[bY];refine aJ (qL (aJ (lq hz rfl (x:=.ref TO) rfl (aJ (xJ hz (by simp) λg1 z1 s1=>?_)))))
 replace z1:IsZip g1 z TI TO .ellipsis:=z1;refine aJ ?_;simp only[List.zipIdx_cons,List.zipIdx_nil,vec,u6];refine aJ (aJ (C8 ?_));show wpAny _ _ (Builtin.SmallTypes.nextOf (.ref i1) >>= _) _ _ _;cases hx:xs[k]? with
 |none=>
  refine aJ (z_end hA (h1.ex s1.extBut d3) (hl1.ex s1.extBut Eg) hx λg2 e s2 hs=>?_);obtain⟨oe,vN,hce⟩:=hs;have z2:IsZip g2 z TI TO .ellipsis:=s2 _ _ (eV d3) z1;have Hv:e≠z:=λx=>by subst x;rw[z2]at vN;cases vN;simp at hce
  exact xJ z2 (by simp) λg3 _ s3=>hE g3 e (λc o c1 _ c3 _ x=>s3.extBut _ _ c1 (s2 _ _ c3 (s1.extBut _ _ c1 x))) ⟨oe,s3.extBut _ _ Hv vN,hce⟩
 |some x=>
  have hy:ys[k]?=aC:=by rcases he with h|h;rw[hx]at h;cases h;exact h
  refine aJ (Hr (h1.ex s1.extBut d3) (hl1.ex s1.extBut Eg) hx λg2 y1 s2=>bH ?_);have t2:IsPair g2 TO p q:=s2.extBut _ _ d8 (s1.extBut _ _ d2 hTO);refine aJ (qI t2 rfl (aJ (wpAny_updateSeq_pair t2 λg3 t3 s3=>?_)));refine aJ (wpAny_letGo (bH (aJ (aJ (C8 ?_)))));show wpAny _ _ (Builtin.SmallTypes.nextOf (.ref i2) >>= _) _ _ _;refine aJ (z_end hA (((h2.ex s1.extBut d4).ex s2.extBut (eV AI)).ex s3.extBut (eV d9)) (((hl2.ex s1.extBut Hs).ex s2.extBut Hu).ex s3.extBut Ht) hy λg4 e s4 hs=>?_);obtain⟨oe,vN,hce⟩:=hs;have z4:IsZip g4 z TI TO .ellipsis:=s4 _ _ (eV d4) (s3.extBut _ _ (eV d2) (s2.extBut _ _ (eV d3) z1));have Hv:e≠z:=λx=>by subst x;rw[z4]at vN;cases vN;simp at hce
  exact xJ z4 (by simp) λg5 _ s5=>hE g5 e (λc o c1 c2 c3 c4 x=>s5.extBut _ _ c1 (s4 _ _ c4 (s3.extBut _ _ c2 (s2.extBut _ _ c3 (s1.extBut _ _ c1 x))))) ⟨oe,s5.extBut _ _ Hv vN,hce⟩
theorem US{b c:Bool}{z TI TO i1 i2 l1 l2:ah}{k:Nat}{xs ys:Array aa}{x y p q:aa}{Q:Option aa->af->Prop}(D:ZA z TI TO i1 i2 l1 l2)
 (hz:IsZip s.heap z TI TO .none) (hTI:IsPair s.heap TI (.ref i1) (.ref i2)) (hTO:IsPair s.heap TO p q)
 (h1:ZI b s.heap i1 l1 k) (h2:ZI c s.heap i2 l2 k) (hl1:ZS b s.heap l1 xs) (hl2:ZS c s.heap l2 ys) (hx:xs[k]?=aB x) (hy:ys[k]?=aB y)
 (hQ:∀h',IsZip h' z TI TO (rawInt s.heap.objs.size)->IsPair h' TO x y->ZI b h' i1 l1 (k+1)->ZI c h' i2 l2 (k+1)->IsPair h' s.heap.objs.size x y->h'.objs.size=s.heap.objs.size+1->
   (∀c o,c≠z->c≠TO->c≠i1->c≠i2->s.heap.get? c=aB o->h'.get? c=aB o)->Q (aB (.ref s.heap.objs.size)) {s with heap:=h'}):wpAny (model prog w) A (pyNext (.ref z)) Q E s:=by
 have hT:s.TypeIs (.ref z) "zip":=⟨_,hz,rfl⟩
 unfold pyNext;exact aJ (wpAny_attempt (xG (name:=Str.ofString "__next__") hT Dw (xM Dw hT F.entry_zip_next (UK D hz hTI hTO h1 h2 hl1 hl2 hx hy λh' a1 a2 a3 a4 a5 a6 a7=>bH (hQ h' a1 a2 a3 a4 a5 a6 a7)) (F.args_zip_next_1 _))))
theorem UT{b c:Bool}{z TI TO i1 i2 l1 l2:ah}{k:Nat}{xs ys:Array aa}{p q:aa}{Q:Option aa->af->Prop}(hA:A.in1.handled=aC)(D:ZA z TI TO i1 i2 l1 l2)
 (hz:IsZip s.heap z TI TO .none) (hTI:IsPair s.heap TI (.ref i1) (.ref i2)) (hTO:IsPair s.heap TO p q)
 (h1:ZI b s.heap i1 l1 k) (h2:ZI c s.heap i2 l2 k) (hl1:ZS b s.heap l1 xs) (hl2:ZS c s.heap l2 ys) (he:xs[k]?=aC\/ys[k]?=aC)
 (hQ:∀h',(∀c o,c≠z->c≠TO->c≠i1->c≠i2->s.heap.get? c=aB o->h'.get? c=aB o)->Q aC {s with heap:=h'}):wpAny (model prog w) A (pyNext (.ref z)) Q E s:=by
 have hT:s.TypeIs (.ref z) "zip":=⟨_,hz,rfl⟩
 unfold pyNext;refine aJ (wpAny_attempt (xG (name:=Str.ofString "__next__") hT Dw (xM Dw hT F.entry_zip_next (UR hA D hz hTI hTO h1 h2 hl1 hl2 he λh' e hk hs=>?_) (F.args_zip_next_1 _))));obtain⟨o,ho,hc⟩:=hs;exact aJ (wpAny_isInstance (T:="StopIteration") (b:=true) ⟨o,ho,hc⟩ isSubtype_stop (bH (hQ _ hk)))
noncomputable def Ei(h:az)(b:Bool)(l1:ah):az:=h.push (Ef b l1)
noncomputable def AJ(h:az)(b c:Bool)(l1 l2:ah):az:=(Ei h b l1).push (Ef c l2)
noncomputable def AK(h:az)(b c:Bool)(l1 l2:ah):az:=(AJ h b c l1 l2).push {cls:=.type "tuple",data:=.seq #[.ref h.objs.size,.ref (Ei h b l1).objs.size]}
noncomputable def AL(h:az)(b c:Bool)(l1 l2:ah):az:=(AK h b c l1 l2).push {cls:=.type "tuple",data:=.seq #[.none,.none]}
noncomputable def t8(h:az)(b c:Bool)(l1 l2:ah):az:=(AL h b c l1 l2).push {cls:=.type "zip",data:=.fields #[.none,.bool false,.bool false,.ref (AJ h b c l1 l2).objs.size,.ref (AK h b c l1 l2).objs.size]}
theorem UU(b c:Bool)(l1 l2:ah)(xs ys:Array aa):Meets (Builtin.«zip.__new__» ⟨[.type "zip",.ref l1,.ref l2],[]⟩) (λ_ R s=>ZS b s.heap l1 xs/\ZS c s.heap l2 ys/\
 R (.ok (.ret (.ref (AL s.heap b c l1 l2).objs.size))) {s with heap:=t8 s.heap b c l1 l2}):=
 .of_wp λprog w A R s h=>by
  obtain⟨hp,g,d,tk,os⟩:=s;obtain⟨m1,m2,h⟩:=h;have hsub:=sub_zip;have e1:ZS b (Shared.heap ⟨hp,g,d,tk,os⟩) l1 xs:=m1;have e2:ZS c (Shared.heap ⟨hp.push (Ef b l1),g,d,tk,os⟩) l2 ys:=m2.push _;cases b<;>cases c;have q1:Heap.IsList (Shared.heap ⟨hp,g,d,tk,os⟩) l1 xs:=e1;have q2:Heap.IsList (Shared.heap ⟨hp.push {cls:=.type "list_iterator",data:=.fields #[.ref l1,.int 0 0]},g,d,tk,os⟩) l2 ys:=e2
  wp_walk using xK q1,xK q2;exact⟨_,rfl,h⟩;have q1:Heap.IsList (Shared.heap ⟨hp,g,d,tk,os⟩) l1 xs:=e1;have q2:Heap.IsTuple (Shared.heap ⟨hp.push {cls:=.type "list_iterator",data:=.fields #[.ref l1,.int 0 0]},g,d,tk,os⟩) l2 ys:=e2
  wp_walk using xK q1,tH q2;exact⟨_,rfl,h⟩;have q1:Heap.IsTuple (Shared.heap ⟨hp,g,d,tk,os⟩) l1 xs:=e1;have q2:Heap.IsList (Shared.heap ⟨hp.push {cls:=.type "tuple_iterator",data:=.fields #[.ref l1,.int 0 0]},g,d,tk,os⟩) l2 ys:=e2
  wp_walk using tH q1,xK q2;exact⟨_,rfl,h⟩;have q1:Heap.IsTuple (Shared.heap ⟨hp,g,d,tk,os⟩) l1 xs:=e1;have q2:Heap.IsTuple (Shared.heap ⟨hp.push {cls:=.type "tuple_iterator",data:=.fields #[.ref l1,.int 0 0]},g,d,tk,os⟩) l2 ys:=e2
  wp_walk using tH q1,tH q2;exact⟨_,rfl,h⟩
theorem Nu{b:Bool}{h:az}{l:ah}{a:ah}(e:h.get? a=aB (Ef b l)):ZI b h a l 0:=by cases b<;>exact⟨_,e,rfl,rfl⟩
theorem UW{b c:Bool}{l1 l2:ah}{xs ys:Array aa}{Q:aa->af->Prop}(m1:ZS b s.heap l1 xs)(m2:ZS c s.heap l2 ys)
 (h:∀h',IsZip h' (s.heap.objs.size+4) (s.heap.objs.size+2) (s.heap.objs.size+3) .none->IsPair h' (s.heap.objs.size+2) (.ref s.heap.objs.size) (.ref (s.heap.objs.size+1))->
   IsPair h' (s.heap.objs.size+3) .none .none->ZI b h' s.heap.objs.size l1 0->ZI c h' (s.heap.objs.size+1) l2 0->h'.objs.size=s.heap.objs.size+5->
   (∀c o,s.heap.get? c=aB o->h'.get? c=aB o)->Q (.ref (s.heap.objs.size+4)) {s with heap:=h'}):wpAny (model prog w) A (call (.type "zip") [.ref l1,.ref l2]) Q E s:=by
 refine callType_new F.called_zip (by decide) (F.typeCall_zip_2 _ _) (F.newCall_zip_2 _ _) (λobj=>F.args_object_init_3 obj _ _) F.entry_zip_new (UU b c l1 l2 xs ys) ⟨m1,m2,?_⟩;have n1:(Ei s.heap b l1).objs.size=s.heap.objs.size+1:=jU ..;have n2:(AJ s.heap b c l1 l2).objs.size=s.heap.objs.size+2:=by unfold AJ;rw[jU,n1]
 have n3:(AK s.heap b c l1 l2).objs.size=s.heap.objs.size+3:=by unfold AK;rw[jU,n2]
 have n4:(AL s.heap b c l1 l2).objs.size=s.heap.objs.size+4:=by unfold AL;rw[jU,n3]
 have n5:(t8 s.heap b c l1 l2).objs.size=s.heap.objs.size+5:=by unfold t8;rw[jU,n4]
 have g5:(t8 s.heap b c l1 l2).get? (AL s.heap b c l1 l2).objs.size=aB _:=iI _ rfl;have g4:(t8 s.heap b c l1 l2).get? (AK s.heap b c l1 l2).objs.size=aB _:=cy _ (iI _ rfl);have g3:(t8 s.heap b c l1 l2).get? (AJ s.heap b c l1 l2).objs.size=aB _:=cy _ (cy _ (iI _ rfl));have g2:(t8 s.heap b c l1 l2).get? (Ei s.heap b l1).objs.size=aB _:=cy _ (cy _ (cy _ (iI _ rfl)));have g1:(t8 s.heap b c l1 l2).get? s.heap.objs.size=aB _:=cy _ (cy _ (cy _ (cy _ (iI _ rfl))));show _/\_;rw[n2,n3,n4]at g5;rw[n1,n2]at g3;rw[n3]at g4;rw[n1]at g2;rw[n4];exact⟨⟨_,g5,rfl⟩,h _ g5 g3 g4 (Nu g1) (Nu g2) n5 λc o x=>cy _ (cy _ (cy _ (cy _ (cy _ x))))⟩
end
noncomputable def nj(b:Bool)(K:aH)(H:Hp)(a:ah)(xs:List V):Prop:=match b with|true=>cj K H a xs|false=>cR K H a xs
theorem yq{b:Bool}{X:Cx}{pins:List (ah×Obj)}{σ:St}{H:Hp}{s:af}{a:ah}{xs:List V}(I:Inv X pins σ H s)(h:nj b X.K H a xs):∃its:List aa,Vals xs its/\ZS b s.heap a its.toArray/\xs.length<=sizeLine:=by cases b;obtain⟨its,r,p,z⟩:=I.list h;exact⟨its,r,p.isList,z⟩;exact I.tuple h
theorem Nv{b:Bool}{X:Cx}{pins:List (ah×Obj)}{σ:St}{H:Hp}{s:af}{a:ah}{xs ys:List V}(I:Inv X pins σ H s)(h:nj b X.K H a xs)(h':nj b X.K H a ys):xs=ys:=by cases b;exact I.j9 h h';exact I.gO h h'
noncomputable def vO(K:aH)(b c:Bool)(a1 a2:ah):It:=
 ⟨λi H=>∃xs ys x y,nj b K H a1 xs/\nj c K H a2 ys/\xs[i]?=aB x/\ys[i]?=aB y,
  λi H v H'=>∃T x y,v=.ref T/\H T=aC/\H'=upd H T (.tup [x,y])/\(∀xs,nj b K H a1 xs->xs[i]?=aB x)/\∀ys,nj c K H a2 ys->ys[i]?=aB y,
  λi H=>∃xs ys,nj b K H a1 xs/\nj c K H a2 ys/\(xs.length<=i\/ys.length<=i)⟩
theorem Inv.rJ{X:Cx}{pins:List (ah×Obj)}{σ:St}{H:Hp}{s:af}{h2:az}{t':Nat}{fp:List ah}(I:Inv X pins σ H s)(hf:∀b∈fp,eE X pins H b)(kk:∀b o,b∉fp->s.heap.get? b=aB o->h2.get? b=aB o) :
 Inv X pins σ H {s with heap:=h2,toks:=t'}:=by
 have f0:=λb hb=>(hf b hb).1;have nE:∀b o,H b=aB o->b∉fp:=λb o q z=>by rw[f0 b z]at q;cases q
 refine I.step (g':=s.gens) (d':=s.drawn) (ch:=fp) (λb hb=>?_) (λb o _ _ hc e1 _=>kk b o hc e1) (λb o _ _ hc e1 _=>⟨o.slots,kk b o hc e1⟩) (λ_ _ _ _ n=>n) (λb o hc e1=>⟨o,kk b o hc e1⟩)
  (λ_ _ q=>q) (λ_ _ _ q=>q) (λb ps q=>⟨#[],by rw[q];simp⟩) (λm hm=>?_) (λb ob q=>?_) I.bare
 obtain⟨_,a1,a2,a3,a4,a5⟩:=hf b hb;exact⟨a3,a1,a4,a5⟩;obtain⟨o,es,ep,ho',r⟩:=hm;exact⟨o,es,ep,kk _ o (λz=>(hf _ z).2.1 rfl) ho',r⟩;refine(I.hok b ob q).stay (λc v hc z=>kk c v ?_ z) (λ_ z=>z) λ_ _ z=>z;rcases hc with rfl|hc;exact nE c ob q;exact nE c _ hc
theorem Inv.rK{X:Cx}{pins:List (ah×Obj)}{σ:St}{H:Hp}{s:af}{h2:az}{fp:List ah}{xs:List V}{us:List aa}(I:Inv X pins σ H s)(hf:∀b∈fp,eE X pins H b)(kk:∀b o,b∉fp->s.heap.get? b=aB o->h2.get? b=aB o)
 (hT:h2.get? s.heap.objs.size=aB {cls:=.type "tuple",data:=.seq us.toArray}) (hv:Vals xs us) (hz:xs.length<=sizeLine):Inv X pins σ (upd H s.heap.objs.size (.tup xs)) {s with heap:=h2}:=by
 have l7:H s.heap.objs.size=aC:=I.hok.fresh (aZ _);have f0:=λb hb=>(hf b hb).1;have nE:∀b o,H b=aB o->b∉fp:=λb o q z=>by rw[f0 b z]at q;cases q
 refine I.step (g':=s.gens) (d':=s.drawn) (ch:=fp) (λb hb=>?_) (λb o _ _ hc e1 _=>kk b o hc e1) (λb o _ _ hc e1 _=>⟨o.slots,kk b o hc e1⟩) (λb o hc e1 n=>by rw[bP (gh (cQ e1))];exact n) (λb o hc e1=>⟨o,kk b o hc e1⟩)
  (λb ys q=>by rw[bP (iJ q l7)];exact q) (λb o u q=>by rw[bP (iJ q l7)];exact q) (λb ps q=>⟨#[],by rw[bP (iJ q l7),q];simp⟩) (λm hm=>?_) (λb ob q=>?_) I.bare
 obtain⟨_,a1,a2,a3,a4,a5⟩:=hf b hb;exact⟨a3,a1,a4,a5⟩;obtain⟨o,es,ep,ho',r⟩:=hm;exact⟨o,es,ep,kk _ o (λz=>(hf _ z).2.1 rfl) ho',r⟩;by_cases hb:b=s.heap.objs.size;subst hb;rw[fG]at q;cases q;exact⟨hz,us,hv,⟨_,hT,rfl,⟨_,rfl⟩,rfl⟩⟩;rw[bP hb]at q;refine(I.hok b ob q).stay (λc v hc z=>kk c v ?_ z) (λc z=>by rw[bP (iJ z l7)];exact z) λc ys z=>by rw[bP (iJ z l7)];exact z
 rcases hc with rfl|hc;exact nE c ob q;exact nE c _ hc
theorem UX{P:ai}{w:aj}{K:aH}{elts:List ao}{kx:Nat}{tp:Pos}{b c:Bool}(a1 a2 z TI TO i1 i2:ah)(D:ZA z TI TO i1 i2 a1 a2) :
 Turn P w K (.Tuple elts kx tp) (vO K b c a1 a2) [z,TI,TO,i1,i2] z (λi h=>IsZip h z TI TO .none/\IsPair h TI (.ref i1) (.ref i2)/\(∃p q,IsPair h TO p q)/\ZI b h i1 a1 i/\ZI c h i2 a2 i)where
 mem:=by simp
 obj:=λi h st d hd=>by
  obtain⟨hz,hTI,⟨p,q,hTO⟩,h1,h2⟩:=st;simp only[gH,Di,or_false]at hd;rcases hd with rfl|rfl|rfl|rfl|rfl;exact⟨_,hz,λv z=>by
   have z':Data.fields _=Data.cell v:=z;cases z'⟩
  exact⟨_,hTI,λv z=>by
   have z':Data.seq _ _=Data.cell v:=z;cases z'⟩
  exact⟨_,hTO,λv z=>by
   have z':Data.seq _ _=Data.cell v:=z;cases z'⟩
  exact h1.ob;exact h2.ob
 keep:=λi h h' st k=>by
  obtain⟨hz,hTI,⟨p,q,hTO⟩,h1,h2⟩:=st;exact⟨k z (by simp) _ hz,k TI (by simp) _ hTI,⟨p,q,k TO (by simp) _ hTO⟩,h1.mv λo e=>k i1 (by simp) o e,h2.mv λo e=>k i2 (by simp) o e⟩
 item:=by
  intro X hP hw hK hc i pins s σ H E I hf st hg;subst hP hw hK;obtain⟨xs,ys,x,y,q1,q2,hx,hy⟩:=hg;obtain⟨hz,hTI,⟨p,q,hTO⟩,h1,h2⟩:=st;obtain⟨its,rv,m1,_⟩:=yq I q1;obtain⟨Nx,rw',m2,_⟩:=yq I q2;obtain⟨u,hu,ru⟩:=rv.get hx;obtain⟨v,hv,UY⟩:=rw'.get hy;refine US D hz hTI hTO h1 h2 m1 m2 (x:=u) (y:=v) (by simpa using hu) (by simpa using hv) λg b1 b2 b3 b4 b5 b6 b7=>⟨_,rfl,wpAny_letOwnedTupleGo_zip b1 λg2 c1 c2=>?_⟩
  obtain⟨⟨d1,d2,d3,d4⟩,⟨d5,d6,d7,d8,d9,AI⟩,_,_⟩:=D;have c2:Heap.SameBut z g g2:=c2;have Eh:s.heap.objs.size≠z:=tN (cQ hz);have kk:∀d o,d∉[z,TI,TO,i1,i2]->s.heap.get? d=aB o->g2.get? d=aB o:=λd o hd e=>(c2.2 d λx=>hd (by simp[x])).trans (b7 d o (λx=>hd (by simp[x])) (λx=>hd (by simp[x])) (λx=>hd (by simp[x])) (λx=>hd (by simp[x])) e);have hT:g2.get? s.heap.objs.size=aB {cls:=.type "tuple",data:=.seq [u,v].toArray}:=(c2.2 _ Eh).trans b5;have I2:=Inv.rK (xs:=[x,y]) I hf kk hT (.cons ru (.cons UY .nil)) (by show 2<=sizeLine;decide);have l7:H s.heap.objs.size=aC:=I.hok.fresh (aZ _);refine⟨.ref s.heap.objs.size,_,I2,rfl,⟨_,x,y,rfl,l7,rfl,λzs hzs=>by rw[Nv I hzs q1];exact hx,λzs hzs=>by rw[Nv I hzs q2];exact hy⟩,
   ⟨c1,(c2.2 TI d1).trans (b7 TI _ d1 d5 d6 d7 hTI),⟨u,v,(c2.2 TO d2).trans b2⟩,b3.mv λo e=>(c2.2 i1 d3).trans e,b4.mv λo e=>(c2.2 i2 d4).trans e⟩,λd hd=>?_⟩
  rw[bP ?_];exact(hf d hd).1;intro e;obtain⟨o,ho⟩:∃o,s.heap.get? d=aB o:=by
   simp only[gH,Di,or_false]at hd;rcases hd with rfl|rfl|rfl|rfl|rfl
   exact⟨_,hz⟩;exact⟨_,hTI⟩;exact⟨_,hTO⟩;exact let⟨o,h,_⟩:=h1.ob;⟨o,h⟩;exact let⟨o,h,_⟩:=h2.ob;⟨o,h⟩
  exact gh (cQ ho) e
 done:=by intro X hP hw hK hc i pins s σ H E I hf st hg;subst hP hw hK;obtain⟨xs,ys,q1,q2,hl⟩:=hg;obtain⟨hz,hTI,⟨p,q,hTO⟩,h1,h2⟩:=st;obtain⟨its,rv,m1,_⟩:=yq I q1;obtain⟨Nx,rw',m2,_⟩:=yq I q2;have l1:=rv.length;have l2:=rw'.length;exact UT (I.ok.hd hc) D hz hTI hTO h1 h2 m1 m2 (hl.imp (λh=>by simp;lia) λh=>by simp;lia) λg hk=>⟨rfl,Inv.rJ (t':=s.toks) I hf λd o hd e=>hk d o (λx=>hd (by simp[x])) (λx=>hd (by simp[x])) (λx=>hd (by simp[x])) (λx=>hd (by simp[x])) e⟩
 self:=λ_ _ _ _ _ st h=>wpAny_pyIter_zip st.1 h
theorem UZ{bs:List Bool}{its:List aa}(r:Vals (bs.map .bl) its)(i:Nat){v:aa}(h:its[i]?=aB v):∃b,bs[i]?=aB b/\v=.bool b:=by have hl:=r.length;rw[bx]at hl;obtain⟨hi,_⟩:=i7.mp h;have hb:bs[i]?=aB bs[i]:=dh (by lia);obtain⟨u,hu,ru⟩:=r.get (i:=i) (x:=.bl bs[i]) (by rw[dS,hb];rfl);rw[h]at hu;cases hu;exact⟨_,hb,ru⟩
theorem U0(bs:List Bool):((List.range bs.length).all λi=>(bs[i]?).getD true)=bs.all id:=by rw[Bool.eq_iff_iff,fX,fX];refine⟨λh b hb=>?_,λh i hi=>?_⟩;obtain⟨i,hi,rfl⟩:=List.getElem_of_mem hb;have:=h i (lV.mpr hi);rw[dh hi]at this;exact this;have hi':=lV.mp hi;rw[dh hi'];exact h _ (kZ hi')
section
variable{X:Cx}
theorem U1(hc:X.calm):b9 X (.builtin "all") (λxs H Q=>∃(p:ah) (bs:List Bool),xs=[.ref p]/\cR X.K H p (bs.map .bl)/\Q (.bl (bs.all id)) H):=by
 intro pins s σ H xs us Q I r h;obtain⟨p,bs,rfl,hq,q⟩:=h;obtain⟨u,rfl,ru⟩:=vals1 r;cases ru;obtain⟨its,rv,pl,hz⟩:=I.list hq;have hL:s.heap.IsList p its.toArray:=pl.isList;have hlt:p<s.heap.objs.size:=by obtain⟨_,e,_⟩:=hL;exact cQ e
 have hd:X.A.in1.handled=aC:=I.ok.hd hc;have hlen:its.toArray.size=bs.length:=by rw[dR,<-rv.length,bx]
 refine call_all_walk (xK hL ⟨s.heap.objs.size,[s.heap.objs.size,p],[s.heap.objs.size],its.toArray.size,_,_,λi=>(bs[i]?).getD true,rfl,Walks.list (A:=X.A.in1) hd _ p (gh hlt) its.toArray,?_,?_,?_⟩);exact⟨⟨_,iI _ rfl,rfl,rfl⟩,hL.push _⟩;intro i v s' Q' E' hP hQ;obtain⟨b,e,rfl⟩:=UZ rv i (by simpa using hP);simp only[e,Option.getD_some]at hQ;exact qA hQ;intro h' tk hk;rw[hlen,U0];refine⟨.bl (bs.all id),H,I.kept (t':=tk) λb o e=>hk b o (λhm=>?_) (cy _ e),rfl,q⟩;rw[mS.mp hm]at e;exact fZ _ (cQ e)
end
section
variable{X:Cx}
theorem Inv.freeze{pins:List (ah×Obj)}{σ:St}{H:Hp}{s:af}{a:ah}{kvs:List (Key×V)}(I:Inv X pins σ H s)(e:H a=aB (.dK kvs)):∃ob,Inv X pins σ (upd H a (.bC ob (.dK kvs))) s:=by
 obtain⟨z,y,vs,r,ob,es,ep,e1,c⟩:=(show br X.prog X.w H s.heap a (.dK kvs)from I.hok a _ e)
 refine⟨ob,?_⟩;exact I.write (x:=a) (e:=a) (o:=.bC ob (.dK kvs)) (h':=s.heap) (t':=s.toks) (by rw[e];trivial) (.inl rfl) (λ_ _ _ q=>q) ⟨ob,e1⟩ ⟨e1,z,y,vs,r,ob,es,ep,e1,c⟩
theorem AM{P:ai}{w:aj}{k:Key}{u:aa}(h:(iM P w).is k u):RelV (kV k) u:=by rcases qc h with⟨i,t,rfl,rfl⟩|⟨x,t,rfl,rfl⟩;exact⟨t,rfl⟩;exact⟨t,rfl⟩
noncomputable def AN(a:ah)(ob:Obj)(kvs:List (Key×V)):It where
 go:=λi H=>H a=aB (.bC ob (.dK kvs))/\i<kvs.length
 tS:=λi H x H'=>H'=H/\∃k v,kvs[i]?=aB (k,v)/\x=kV k
 stop:=λi H=>H a=aB (.bC ob (.dK kvs))/\i=kvs.length
theorem U3{P:ai}{w:aj}{K:aH}{tg:ao}{a it:ah}{ob:Obj}{kvs:List (Key×V)}{es:Array DictEntry}{ep:Nat}(hd:ob.data=.dict es ep)(hne:a≠it):Turn P w K tg (AN a ob kvs) [it] it (λi h=>h.IsKeyIter it a i kvs.length ep)where
 mem:=by simp
 obj:=λi h st b hb=>by
  have e:b=it:=by simpa using hb
  subst e;obtain⟨o,e,c,d⟩:=st;exact⟨o,e,λv z=>by rw[d]at z;cases z⟩
 keep:=λi h h' st k=>by
  obtain⟨o,e,c,d⟩:=st;exact⟨o,k it (by simp) o e,c,d⟩
 item:=by
  intro X hP hw hK hc i pins s σ H E I hf st hg;subst hP hw hK;obtain⟨e0,hi⟩:=hg;obtain⟨e1,z,y,vs,r,o',es',zA,e2,c1,c2,c3,c4,c5⟩:=(show br X.prog X.w H s.heap a (.bC ob (.dK kvs))from I.hok a _ e0)
  rw[e1]at e2;cases e2;rw[hd]at c2;cases c2;obtain⟨f0,f1,f2,f3,f4,f5⟩:=hf it (by simp);have hl:=r.length;have W:=Walks.dictKeys (knd:=iM X.prog X.w) (I.ok.hd hc) it a hne vs ep;refine W.item i s _ _ (by lia) ⟨by rw[<-hl];exact st,ob,es,e1,c1,hd,c3,c4,c5⟩ λv h' tk hv st' kk=>?_;obtain⟨k,x,hk,his⟩:=hv;have I1:Inv X pins σ H {s with heap:=h',toks:=tk}:=I.turned (λb o hb e=>kk b o (by simpa using hb) e) f0 f1 f3 f4 f5;have st2:h'.IsKeyIter it a (i+1) kvs.length ep:=by rw[hl];exact st'.1
  obtain⟨o,e,c,d⟩:=id st2;have hk2:∃v0,kvs[i]?=aB (k,v0):=by
   have q:=r.keys;have q2:(kvs.map (·.1))[i]?=(vs.map (·.1))[i]?:=by rw[q]
   rw[dS,dS,hk]at q2;cases q3:kvs[i]? with|none=>rw[q3]at q2;cases q2|some p=>rw[q3]at q2;obtain⟨p1,p2⟩:=p;cases q2;exact⟨p2,rfl⟩
  obtain⟨v0,U4⟩:=hk2;exact⟨v,rfl,lY (s:={s with heap:=h',toks:=tk}) e c d (by decide) ⟨kV k,H,I1,AM his,⟨rfl,k,v0,U4,rfl⟩,st2,λb hb=>(hf b hb).1⟩⟩
 done:=by
  intro X hP hw hK hc i pins s σ H E I hf st hg;subst hP hw hK;obtain⟨e0,hi⟩:=hg;obtain⟨e1,z,y,vs,r,o',es',zA,e2,c1,c2,c3,c4,c5⟩:=(show br X.prog X.w H s.heap a (.bC ob (.dK kvs))from I.hok a _ e0)
  rw[e1]at e2;cases e2;rw[hd]at c2;cases c2;obtain⟨f0,f1,f2,f3,f4,f5⟩:=hf it (by simp);have hl:=r.length;have W:=Walks.dictKeys (knd:=iM X.prog X.w) (I.ok.hd hc) it a hne vs ep;refine W.done s _ _ ⟨by rw[<-hl];rw[hi]at st;exact st,ob,es,e1,c1,hd,c3,c4,c5⟩ λh' tk kk=>?_;exact⟨rfl,I.turned (λb o hb e=>kk b o (by simpa using hb) e) f0 f1 f3 f4 f5⟩
 self:=λ_ _ _ _ _ st h=>wpAny_pyIter_keyiter st h
end
section
variable{X:Cx}
noncomputable def oQ(k v:ao):aa->Env->Sem Unit:=λacc env=>do
 let kv <-eval k env
 let vv <-holding [kv] (eval v env)
 match acc with
 |.ref d=>do
  standAt {line:=k.pos.line,col:=k.pos.col,endLine:=v.pos.endLine,endCol:=v.pos.endCol}
  holding [kv,vv] (dictSet d kv vv)
 |_=>unsupported "internal:dictcomp"
theorem Ny{P:ai}{w:aj}{k v tg iter:ao}{ifs:List ao}{scope:ay}{pos:Pos}:kC P w (.DictComp k v [⟨tg,iter,ifs,0⟩] scope pos) tg iter ifs (oQ k v) newDict {cls:=.type "dict",data:=.dict #[]} (.dK [])where
 cl:=⟨[],rfl⟩
 turn:=λ_ _ _=>rfl
 dl:=λ_ _ _=>rfl
 ds:=λ_ _ _=>rfl
 al:=λ_ _ _ _=>rfl
 as:=λ_ _ _ _=>rfl
 new:=λA s Q E q=>qH q
 ok:=λH h hb=>Hh h hb
noncomputable def Nz(tk tv:TE)(D:ah):TM:=λσ H Q=>tk σ H λx H1=>tv σ H1 λy H2=>∃kvs k,H2 D=aB (.dK kvs)/\x=kV k/\kvs.length<sizeLine/\Q σ (upd H2 D (.dK (putK kvs k y)))
theorem NB{k v:ao}{tk tv:TE}(hk:PE X k tk)(hv:PE X v tv)(D:ah):PM X (oQ k v (.ref D) X.env) (Nz tk tv D):=by
 intro pins s σ H Q I h;unfold oQ;refine aJ (bf (hk pins s σ H _ I h) λu s1 z9=>z9.el λx H1 I1 r1 q1=>?_);refine aJ (mP (bf (hv pins s1 σ H1 _ I1 q1) λu2 s2 z9=>z9.el λy H2 I2 r2 bQ=>?_));obtain⟨kvs,kk,e,ex,l,q2⟩:=bQ;refine aJ (mQ (mP ?_));subst ex;obtain⟨z,hd,vs,rel,dd⟩:=kr I2.hok e;have hz:vs.length<=sizeLine:=by rw[<-rel.length];exact z
 have hl:(putK kvs kk y).length<=sizeLine:=by have:=DY kvs kk y;lia
 refine wpAny_dictSet_pairs (ju r1) dd (λh' nh hs=>?_) hz;have he:∃q,h'.get? D=aB q:=let⟨q,_,_,hq,_⟩:=nh;⟨q,hq⟩;exact⟨σ,_,Ay I2 (by rw[e];exact True.intro) hs he (D8 hl hd (rel.put kk r2) nh),q2⟩
end
noncomputable def t9(e tg iter:ao)(ifs:List ao)(it acc:aa)(env:Env)(emit:Sem Unit):Sem Fin:=do
 standAt iter.pos
 match <-pyNext it with
 |none=>pure (.done .next)
 |some v=>
  letOwnedTupleGo tg it v
  assign tg env v
  let ok <-yp ifs env
  if ok then emit
  again (.compLoop e 1 it acc env)
noncomputable def l9(elt:ao):aa->Env->Sem Unit:=λacc env=>do let _ <-call (.builtin "list.append") [acc,<-eval elt env]
noncomputable def kD(e bA:ao):aa->Env->Sem Unit:=λacc env=>do
 let x <-eval bA env
 standAt bA.pos
 let x <-foldedSetIterable bA env x
 let _ <-runOwn (.compStart e 1 (<-holding [x] (pyIter x)) acc env) env
section
variable{prog:ai}{w:aj}{A:ak}{R:Result->af->Prop}{s:af}{elt lD cU tg iter:ao}{fK ifs:List ao}{scope:ay}{pos:Pos}{it acc:aa}{env:Env}
theorem U5(I:Nat->af->Prop)
 (turn:∀n s,I n s->wpAny (model prog w) A (pyNext it) (λr s₁=>match r with
   |none=>R (.ok .next) s₁
   |some v=>wpAny (model prog w) A (letOwnedTupleGo tg it v) (λ_ s₀=>wpAny (model prog w) A (assign tg env v) (λ_ s₂=>
    wpAny (model prog w) A (yp ifs env) (λok s₃=>
     if ok=true then wpAny (model prog w) A (l9 elt acc env) (λ_ s₅=>∃m,m<n/\I m s₅) ir s₃
     else ∃m,m<n/\I m s₃) ir s₂) ir s₀) ir s₁) ir s)
 (n:Nat) (h:I n s):codeAny (model prog w) A (.compLoop (.ListComp elt [⟨lD,cU,fK,0⟩,⟨tg,iter,ifs,0⟩] scope pos) 1 it acc env) R s:=by
 refine codeAny_loop rfl I (λn s hI=>?_) n h;rw[show(model prog w).den (.compLoop (.ListComp elt [⟨lD,cU,fK,0⟩,⟨tg,iter,ifs,0⟩] scope pos) 1 it acc env)=(t9 (.ListComp elt [⟨lD,cU,fK,0⟩,⟨tg,iter,ifs,0⟩] scope pos) tg iter ifs it acc env (l9 elt acc env)).onRaise (λx=>do noteFrame x env;theTreesLotGoes x)from rfl,
  show A.under (.compLoop (.ListComp elt [⟨lD,cU,fK,0⟩,⟨tg,iter,ifs,0⟩] scope pos) 1 it acc env)=A from rfl]
 refine wpAny_noted (GV ?_);unfold t9;refine aJ (mQ (aJ (ie (turn n s hI) (λr s₁ h₁=>?_) λ_ _ z=>z)));cases r with
 |none=>exact bH h₁
 |some v=>
  refine aJ (ie h₁ (λ_ s₀ h₀=>?_) λ_ _ z=>z);refine aJ (ie h₀ (λ_ s₂ h₂=>aJ (ie h₂ (λok s₃ h₃=>?_) λ_ _ z=>z)) λ_ _ z=>z);cases ok with
  |true=>
   simp only[bY]at h₃ ⊢;exact aJ (ie h₃ (λ_ s₅ h₅=>bH ⟨rfl,h₅⟩) λ_ _ z=>z)
  |false=>
   simp only[fF,eG]at h₃ ⊢;exact bH ⟨rfl,h₃⟩
theorem U6(h0:codeAny (model prog w) A (.compLoop (.ListComp elt [⟨lD,cU,fK,0⟩,⟨tg,iter,ifs,0⟩] scope pos) 1 it acc env) R s)
 (h:wpAny (model prog w) A (pyIter it) (λj s'=>codeAny (model prog w) A (.compLoop (.ListComp elt [⟨lD,cU,fK,0⟩,⟨tg,iter,ifs,0⟩] scope pos) 1 j acc env) R s') (notedBy (model prog w) A env λx s'=>R (.error x) s') s) :
 codeAny (model prog w) A (.compStart (.ListComp elt [⟨lD,cU,fK,0⟩,⟨tg,iter,ifs,0⟩] scope pos) 1 it acc env) R s:=by
 refine codeAny_of_tree ?_;rw[show(model prog w).den (.compStart (.ListComp elt [⟨lD,cU,fK,0⟩,⟨tg,iter,ifs,0⟩] scope pos) 1 it acc env)=(compStart (.ListComp elt [⟨lD,cU,fK,0⟩,⟨tg,iter,ifs,0⟩] scope pos) 1 it acc env).onRaise (λx=>do noteFrame x env;standAt theWindowsPlace)from rfl,
  show A.under (.compStart (.ListComp elt [⟨lD,cU,fK,0⟩,⟨tg,iter,ifs,0⟩] scope pos) 1 it acc env)=A from rfl]
 refine wpAny_notedAt ?_;unfold compStart;rw[show(clausesOf (.ListComp elt [⟨lD,cU,fK,0⟩,⟨tg,iter,ifs,0⟩] scope pos))=[⟨lD,cU,fK,0⟩,⟨tg,iter,ifs,0⟩]from rfl];show wpAny _ _ (ask >>= _) _ _ s;refine aJ (wpAny_askSetting (xN ?_));split;first
  |exact aJ (bH (bH (And.intro rfl h0)))
  |exact bH (And.intro rfl h0)
 first
  |exact aJ (qL (aJ (mQ (aJ (ie h (λj s' h'=>bH ⟨rfl,h'⟩) λ_ _ z=>z)))))
  |(refine aJ (qL ?_);show wpAny _ _ (standAt iter.pos >>= _) _ _ s;exact aJ (mQ (aJ (ie h (λj s' h'=>bH ⟨rfl,h'⟩) λ_ _ z=>z))))
end
section
variable{X:Cx}{elt lD cU tg iter:ao}{fK ifs:List ao}{scope:ay}{pos:Pos}{wi:TI}{g:TG}{tc:TT}{te:TE}
noncomputable def Hw(te:TE)(D:ah):TM:=λσ H Q=>te σ H λy H1=>∃ys,H1 D=aB (.lst ys)/\ys.length<sizeLine/\Q σ (upd H1 D (.lst (ys++[y])))
theorem U7(he:PE X elt te)(D:ah):PM X (l9 elt (.ref D) X.env) (Hw te D):=by intro pins s σ H Q I h;unfold l9;refine aJ (bf (he pins s σ H _ I h) λy s1 z9=>z9.el λvy H1 I1 ry bQ=>?_);obtain⟨ys,hD,hz,q⟩:=bQ;refine aJ (bf (GG _ s1 σ H1 (.ref D) [vy] (.ref D) [y] (λv H'=>H'=upd H1 D (.lst (ys++[vy]))) I1 rfl (.cons ry .nil) ⟨_,ys,vy,rfl,rfl,hD,hz,rfl⟩) λ_ s2 bQ=>?_);obtain⟨v2,H2,I2,_,e2⟩:=bQ;subst e2;exact bH ⟨σ,_,I2,q⟩
noncomputable def NC(wi:TI)(g:TG)(tc:TT)(tm:TM):TM:=λσ H Q=>wi σ H λJ H1=>∃W:Nat->Nat->St->Hp->Prop,(∃m,W 0 m σ H1)/\∀i m σ' H',W i m σ' H'->
 ((J.stop i H'/\Q σ' H')\/(J.go i H'/\∀x H2,J.tS i H' x H2->g x σ' H2 λσ2 H3=>tc σ2 H3 λb H4=>
   if b=true then tm σ2 H4 λko H5=>∃m',m'<m/\W (i+1) m' ko H5
   else ∃m',m'<m/\W (i+1) m' σ2 H4))
theorem ND(hc:X.calm)(hx:X.xe=ir)(hi:PI X tg iter wi)(hg:PG X tg g)(ht:iQ X ifs tc)(he:PE X elt te)(hs:∀x,foldedSetIterable iter X.env x=pure x)(D:ah) :
 PM X (kD (.ListComp elt [⟨lD,cU,fK,0⟩,⟨tg,iter,ifs,0⟩] scope pos) iter (.ref D) X.env) (NC wi g tc (Hw te D)):=by
 intro pins s σ H Q I h;unfold kD;have q1:=hi pins s σ H _ I h;rw[hx]at q1 ⊢;refine aJ (bf q1 λv s1 h1=>aJ (mQ ?_));rw[hs];refine aJ (bH (aJ (mP (bf h1 λitv s2 h2=>?_))));obtain⟨it,fp,tn,J,H2,e,I2,T,st2,f2,W,⟨m0,w0⟩,turn⟩:=h2;subst e;have lB:∀{H':Hp},(∀b∈fp,H' b=aC)->∀b∈fp,eE X pins H' b:=λhn b hb=>⟨hn b hb,(f2 b hb).2⟩
 have loop:codeAny (model X.prog X.w) X.A (.compLoop (.ListComp elt [⟨lD,cU,fK,0⟩,⟨tg,iter,ifs,0⟩] scope pos) 1 (.ref it) (.ref D) X.env)
  (λr s'=>match r with|.ok f=>wpAny (model X.prog X.w) X.A (pure ()) (λ(_:Unit) s'=>∃σ' H',Inv X pins σ' H' s'/\Q σ' H') ir s'|.error e=>cameBackBy (model X.prog X.w) X.A X.env ir e s') s2:=by
  refine U5 (λn s'=>∃i σ' H',Inv X pins σ' H' s'/\tn i s'.heap/\(∀b∈fp,H' b=aC)/\W i n σ' H') ?_ m0 ⟨0,σ,H2,I2,st2,λb hb=>(f2 b hb).1,w0⟩;rintro n s3 ⟨i,σ3,H3,I3,st3,zR,w3⟩;rcases turn i n σ3 H3 w3 with⟨stop,qn⟩|⟨go,step⟩
  .refine bf (T.done X rfl rfl rfl hc i pins s3 σ3 H3 ir I3 (lB zR) st3 stop) λr s4 bQ=>?_
   obtain⟨hr,I4⟩:=bQ;subst hr;exact bH ⟨σ3,H3,I4,qn⟩
  refine bf (T.item X rfl rfl rfl hc i pins s3 σ3 H3 ir I3 (lB zR) st3 go) λr s4 bQ=>?_;obtain⟨u,hr,h4⟩:=bQ;subst hr;refine bf h4 λ_ s5 bQ=>?_;obtain⟨x,H5,I5,r5,y5,mX,qZ⟩:=bQ;have Gp:=I5.pinned (lB qZ) (T.obj _ _ mX);have again:∀{k7:St}{H7:Hp}{s7:af}{m':Nat},Inv X (pins++vz fp s5.heap) k7 H7 s7->m'<n->W (i+1) m' k7 H7->∃m,m<n/\∃i σ' H',Inv X pins σ' H' s7/\tn i s7.heap/\(∀b∈fp,H' b=aC)/\W i m σ' H':=λ{k7 H7 s7 m'} I7 hm w7=>by
   refine⟨m',hm,i+1,k7,H7,I7.dO,T.keep _ _ _ mX λb hb o e=>(I7.pin (b,o) (jG _ (jG _ (tT hb e)))).1,λb hb=>?_,w7⟩;obtain⟨o,e,d⟩:=T.obj _ _ mX b hb;exact(I7.pin (b,o) (jG _ (jG _ (tT hb e)))).2.1
  have q6:=hg _ s5 σ3 H5 x u _ Gp r5 (step x H5 y5);rw[hx]at q6;refine bf q6 λ_ s6 bQ=>?_;obtain⟨jV,H6,I6,q6⟩:=bQ;have q7:=ht _ s6 jV H6 _ I6 q6;rw[hx]at q7;refine bf q7 λok s7 z9=>z9.el λH7 I7 q7=>?_;cases ok with
  |false=>
   simp only[fF,eG]at q7 ⊢;obtain⟨m',hm,w7⟩:=q7;exact again I7 hm w7
  |true=>
   simp only[bY]at q7 ⊢;have q8:=U7 he D _ s7 jV H7 _ I7 q7;rw[hx]at q8;exact bf q8 λ_ s8 ⟨kq,H8,I8,m',hm,w8⟩=>again I8 hm w8
 exact aJ (wpAny_runOwn (U6 loop (T.self _ 0 _ _ _ st2 loop)))
theorem U8{bA gP:ao}{dH:List ao}(it acc:aa)(env:Env):compTurn (.ListComp elt [⟨tg,iter,ifs,0⟩,⟨gP,bA,dH,0⟩] scope pos) 0 it acc env=kB (.ListComp elt [⟨tg,iter,ifs,0⟩,⟨gP,bA,dH,0⟩] scope pos) tg iter ifs it acc env (kD (.ListComp elt [⟨tg,iter,ifs,0⟩,⟨gP,bA,dH,0⟩] scope pos) bA acc env):=by
 unfold compTurn kB kD;simp only[jo,xO,pY,bne_self_eq_false,fF,eG,reduceIte];congr 1;funext _;congr 1;funext r;cases r with
 |none=>rfl
 |some v=>
  dsimp only;congr 1;funext _;congr 1;funext _;congr 1;funext ok;cases ok;rfl;simp only[bY];simp only[LawfulMonad.bind_assoc,qV]
theorem NF{P:ai}{w:aj}{bA gP:ao}{dH:List ao}:kC P w (.ListComp elt [⟨tg,iter,ifs,0⟩,⟨gP,bA,dH,0⟩] scope pos) tg iter ifs (kD (.ListComp elt [⟨tg,iter,ifs,0⟩,⟨gP,bA,dH,0⟩] scope pos) bA) (newList []) {cls:=.type "list",dict:=aC,data:=.seq ([]:List aa).toArray} (.lst [])where
 cl:=⟨_,rfl⟩
 turn:=U8
 dl:=λ_ _ _=>rfl
 ds:=λ_ _ _=>rfl
 al:=λ_ _ _ _=>rfl
 as:=λ_ _ _ _=>rfl
 new:=λA s Q E q=>qH q
 ok:=λH h hb=>⟨j8 _,[],0,.nil,iI _ rfl⟩
end
noncomputable def cM{α:Type}:List α->List α|[]=>[]|[x]=>[x]|x::_::r=>x::cM r
theorem NG{α:Type}:∀l:List α,(cM l).length=(l.length+1)/2
 |[]=>by simp[cM]
 |[x]=>by simp[cM]
 |x::y::r=>by
  show(cM r).length+1=_;rw[NG r,cG,cG];lia
theorem Ej{α:Type}:∀(l:List α) (i:Nat),(cM l)[i]?=l[2*i]?
 |[],i=>by simp[cM]
 |[x],0=>rfl
 |[x],i+1=>by
  show([x]:List α)[i+1]?=_;rw[iL (by simp),iL (by simp;lia)]
 |x::y::r,0=>rfl
 |x::y::r,i+1=>by
  show(cM r)[i]?=_;rw[Ej r i,show 2* (i+1)=2*i+1+1 by lia,pY,pY]
noncomputable def i8(ks:List Int):Int:=reduceHash (Builtin.Tuple.tupleHashOf (ks.map hashInt))
noncomputable def nk(x:Array Int×SetTable)(h:Int):Option (Array Int×SetTable):=
 if x.2.gaveWay then aC else
 match x.2.probe (λi=>(x.1[i]?).getD 0) h (x.2.probeStart h)with
 |some (.empty j aC)=>
  if(x.2.put j).1.fits (SetTable.insertAt x.1 (x.2.put j).2 h).size&&decide ((SetTable.insertAt x.1 (x.2.put j).2 h).size<=1000)then
   if(x.2.put j).1.tooFull then
    if SetTable.sizeAbove (SetTable.grown (x.1.size+1))<=100000 then
     match(x.2.put j).1.relaid (SetTable.insertAt x.1 (x.2.put j).2 h) (SetTable.grown (x.1.size+1))with
     |some (t2,order)=>
      if(order.filterMap ((SetTable.insertAt x.1 (x.2.put j).2 h)[·]?)).size==(SetTable.insertAt x.1 (x.2.put j).2 h).size&&t2.fits (order.filterMap ((SetTable.insertAt x.1 (x.2.put j).2 h)[·]?)).size then
       aB (order.filterMap ((SetTable.insertAt x.1 (x.2.put j).2 h)[·]?),t2)
      else aC
     |none=>aC
    else aC
   else aB (SetTable.insertAt x.1 (x.2.put j).2 h,(x.2.put j).1)
  else aC
 |_=>aC
noncomputable def nq:List Int->Array Int×SetTable->Option (Array Int×SetTable)
 |[],x=>aB x
 |h::r,x=>match nk x h with
  |some y=>nq r y
  |none=>aC
noncomputable def yr(dj:List (List Int)):Option Int:=match nq (dj.map i8) (#[],.fresh 0 0 true)with|some y=>if y.1.size<=1000 then aB (y.1.size:Int)else aC|none=>aC
noncomputable def cN(t u:SetTable):Prop:=t.mask=u.mask/\t.place=u.place/\t.dummies=u.dummies
section
variable{t u:SetTable}
theorem cN.slot(e:cN t u)(j:Nat):t.slot j=u.slot j:=by unfold SetTable.slot;rw[e.2.1,e.2.2]
theorem cN.NH(e:cN t u)(p:SetTable.Probe):t.advance p=u.advance p:=by unfold SetTable.advance;rw[e.1]
theorem cN.go(e:cN t u)(f:Nat->Int)(h:Int):∀(n:Nat) (p:SetTable.Probe),SetTable.probe.go t f h n p=SetTable.probe.go u f h n p
 |0,_=>rfl
 |n+1,p=>by
  unfold SetTable.probe.go;rw[e.slot];split;rfl;rw[e.NH,e.go];rw[e.NH,e.go]
theorem cN.probe(e:cN t u)(f:Nat->Int)(h:Int):t.probe f h (t.probeStart h)=u.probe f h (u.probeStart h):=by unfold SetTable.probe SetTable.probeStart;rw[e.1];exact e.go f h _ _
theorem cN.put(e:cN t u)(j:Nat):(t.put j).2=(u.put j).2/\cN (t.put j).1 (u.put j).1:=by unfold SetTable.put;rw[e.2.1,e.2.2];exact⟨rfl,e.1,rfl,rfl⟩
theorem cN.fits(e:cN t u)(n:Nat):t.fits n=u.fits n:=by unfold SetTable.fits SetTable.fill;rw[e.1,e.2.1,e.2.2]
theorem cN.full(e:cN t u):t.tooFull=u.tooFull:=by unfold SetTable.tooFull SetTable.fill;rw[e.1,e.2.1,e.2.2]
theorem cN.Hx(e:cN t u):t.gaveWay=u.gaveWay:=by unfold SetTable.gaveWay;rw[e.1]
theorem cN.relaid{hs:Array Int}{n:Nat}{u2:SetTable}{od:Array Nat}(q:u.relaid hs n=aB (u2,od)):∃t2,t.relaid hs n=aB (t2,od)/\cN t2 u2:=by
 unfold SetTable.relaid SetTable.laid at *;cases z:SetTable.layClean (SetTable.sizeAbove n-1) hs with
 |none=>rw[z]at q;cases q
 |some ow=>
  rw[z]at q;cases q;exact⟨_,rfl,rfl,rfl,rfl⟩
end
theorem U9{α β:Type}(f:α->β)(xs:Array α)(p:Nat)(x:α):(SetTable.insertAt xs p x).map f=SetTable.insertAt (xs.map f) p (f x):=by unfold SetTable.insertAt;simp[Array.map_append,Array.map_push,vh]
theorem U'{α β:Type}(f:α->β)(xs:Array α)(od:Array Nat):(od.filterMap (xs[·]?)).map f=od.filterMap ((xs.map f)[·]?):=by rw[Array.map_filterMap];congr 1;funext i;rw[Array.getElem?_map]
noncomputable def jL(h:az)(a:ah)(y:Array Int×SetTable):Prop:=
 ∃o es ep t,h.get? a=aB o/\o.ExactSet/\o.data=.set es ep t/\es.map (·.1)=y.1/\cN t y.2/\y.2.fits y.1.size=true
section
variable{prog:ai}{w:aj}{A:ak}{E:aa->af->Prop}{s:af}
theorem Va{a:ah}{ks:List Int}{Q:Bool->af->Prop}(hk:IsTupleKey (intKind prog w) s.heap ks a)(h:∀b,Q b s):wpAny (model prog w) A (hashByValue 8 (.ref a)) Q E s:=by
 have hT:=hk.typeIs;obtain⟨o,items,n,ho,_,hd,hi⟩:=hk;unfold hashByValue;refine aJ (wpAny_specialOf hT F.slot_tuple_hash.lookup ?_);show wpAny _ _ (seqItems? (.ref a) >>= _) _ _ s;refine aJ (qI ho hd ?_);refine aJ ?_;rw[<-Array.forIn_toList];refine wpAny_forIn_list _ (λrest acc s'=>s'=s/\acc.1=aC/\∃ks,ItemsAre (intKind prog w) ks rest) _ ?_ ?_ _ _ ⟨rfl,rfl,ks,hi⟩;rintro x rest acc s' ⟨rfl,e,ks,hi⟩;cases hi with
 |cons hv hr=>
  obtain⟨t,rfl⟩:=Value.isInt_shape hv;show wpAny _ _ ((pure true:Sem Bool) >>= _) _ _ _;exact aJ (bH (bH ⟨rfl,rfl,_,hr⟩))
 rintro⟨r,u⟩ s' ⟨rfl,e,_⟩;cases e;exact bH (h _)
theorem NI{a:ah}{y:Array Int×SetTable}{es:Array (Int×aa)}{t:SetTable}(e:es.map (·.1)=y.1)(q:cN t y.2)(f:y.2.fits y.1.size):t.fits es.size=true:=by rw[q.fits,<-f,<-e,vh]
theorem Vb{a:ah}{o:Obj}{es es1:Array (Int×aa)}{ep n:Nat}{t t2 u:SetTable}{z:Array Int×SetTable}{hs1:Array Int}{Q:Bool->af->Prop}(ho:s.heap.get? a=aB o)(hex:o.ExactSet)(hd:o.data=.set es ep t)
 (hz:es1.size<=1000) (q:cN t2 u) (hm:es1.map (·.1)=hs1) (hf:u.fits hs1.size=true)
 (e:(if u.tooFull=true then if SetTable.sizeAbove n<=100000 then match u.relaid hs1 n with|some (t2,order)=>if((order.filterMap (hs1[·]?)).size==hs1.size&&t2.fits (order.filterMap (hs1[·]?)).size)=true then aB (order.filterMap (hs1[·]?),t2)else aC|none=>aC else aC else aB (hs1,u))=aB z)
 (h:∀h',jL h' a z->Heap.SameBut a s.heap h'->Q true {s with heap:=h'}) :
 wpAny (model prog w) A (do
  storeSet a es1 t2
  if(!false&&t2.tooFull)=true then do
   setRelay a n
   pure true
  else pure true) Q E s:=by
 have hsl:∀{k:Nat},k<=1000->k<=sizeLine:=λh=>by rw[uV];omega
 have hse:es1.size=hs1.size:=by rw[<-hm,vh]
 refine aJ (wpAny_storeSet_of ho hd ?_ (hsl hz));have hg:(s.heap.update a (Obj.putSet es1 t2)).get? a=aB {o with data:=.set es1 (ep+1) t2}:=by have:=Dm (Obj.putSet es1 t2) ho (by rw[putSet_of es1 t2 hd];rfl);rw[putSet_of es1 t2 hd]at this;exact this
 have sb:=DE s.heap a (Obj.putSet es1 t2);have hf1:t2.fits es1.size=true:=by rw[q.fits,hse];exact hf
 rw[<-q.full]at e;cases hq:t2.tooFull with
 |false=>
  rw[hq,if_neg (by decide)]at e;cases e;exact bH (h _ ⟨_,_,_,_,hg,hex,rfl,hm,q,hf⟩ sb)
 |true=>
  rw[hq,if_pos rfl]at e;split at e;rename_i hl;cases hr:u.relaid hs1 n with
  |none=>rw[hr]at e;cases e
  |some p=>
   obtain⟨u2,od⟩:=p;rw[hr]at e;dsimp only at e;split at e;rename_i hc;cases e;rw[bJ,tG]at hc;obtain⟨c1,c2⟩:=hc;obtain⟨t3,r3,q3⟩:=cN.relaid (t:=t2) hr;have Hy:=U' (λx:Int×aa=>x.1) es1 od;rw[hm]at Hy;have NJ:(od.filterMap (es1[·]?)).size=es1.size:=by rw[<-vh (f:=λx:Int×aa=>x.1),Hy,c1,hse]
   show wpAny _ _ (setRelay a n >>= _) _ _ _;refine aJ ?_;unfold setRelay;refine aJ (C7 hg rfl hf1 ?_);dsimp only;rw[if_neg (show ¬SetTable.sizeAbove n>sizeLine by rw[uV];omega),show(Array.map (λx=>x.1) es1)=hs1 from hm,r3];refine aJ (Dc (show _=pure (od.filterMap (es1[·]?),t3)from ?_) ?_);show(if((od.filterMap (es1[·]?)).size != es1.size)=true then _ else _)=_;rw[if_neg (by rw[NJ];simp)];dsimp only;refine wpAny_storeSet_of hg rfl ?_ (hsl (by rw[NJ];exact hz));have nt:((s.heap.update a (Obj.putSet es1 t2)).update a (Obj.putSet (od.filterMap (es1[·]?)) t3)).get? a=aB {o with data:=.set (od.filterMap (es1[·]?)) (ep+1+1) t3}:=by have:=Dm (Obj.putSet (od.filterMap (es1[·]?)) t3) hg rfl;exact this
   exact bH (h _ ⟨_,_,_,_,nt,hex,rfl,Hy,q3,c2⟩ (sb.trans (DE _ a _)));cases e
  cases e
theorem Vc{a b:ah}{ks:List Int}{y z:Array Int×SetTable}{Q:Bool->af->Prop}(hu:A.units<cLine)(hk:IsTupleKey (intKind prog w) s.heap ks b)(hS:jL s.heap a y)(e:nk y (i8 ks)=aB z)
 (h:∀h' tk,jL h' a z->Heap.SameBut a s.heap h'->Q true {s with heap:=h',toks:=tk}):wpAny (model prog w) A (setAdd a (.ref b)) Q E s:=by
 unfold setAdd;refine mP (aJ (wpAny_pyHash_tuple hu hk ?_));show wpAny _ _ (setAddHashed a (.ref b) (i8 ks)) _ _ _;obtain⟨o,es,ep,t,ho,hex,hd,hm,hq,hf⟩:=hS;have hf1:=NI (a:=a) hm hq hf;have hz:es.size=y.1.size:=by rw[<-hm,vh]
 unfold nk at e;rw[<-hq.Hx]at e;cases hg:t.gaveWay with
 |true=>rw[hg,if_pos rfl]at e;cases e
 |false=>
  rw[hg,if_neg (by decide)]at e;have hp:=hq.probe (λi=>(y.1[i]?).getD 0) (i8 ks);rw[<-hp]at e;have NK:∀(f:Nat->Int),(∀i,f i=(es[i]?.map (·.1)).getD 0)->t.probe f (i8 ks) (t.probeStart (i8 ks))=t.probe (λi=>(y.1[i]?).getD 0) (i8 ks) (t.probeStart (i8 ks)):=λf hf=>by
   have:f=λi=>(y.1[i]?).getD 0:=funext λi=>by rw[hf i,<-hm,Array.getElem?_map]
   rw[this]
  cases hmet:t.probe (λi=>(y.1[i]?).getD 0) (i8 ks) (t.probeStart (i8 ks))with
  |none=>rw[hmet]at e;cases e
  |some met=>
   rw[hmet]at e NK;cases met with
   |candidate j i nx=>cases e
   |empty j dm=>
    cases dm with
    |some d=>cases e
    |none=>
     dsimp only at e;split at e
     .rename_i hc
      rw[bJ,fS]at hc;obtain⟨hc1,hc2⟩:=hc;obtain⟨p2,p1⟩:=hq.put j;have NL:(SetTable.insertAt es (t.put j).2 (i8 ks,Value.ref b)).map (λx:Int×aa=>x.1)=SetTable.insertAt y.1 (y.2.put j).2 (i8 ks):=by rw[U9,hm,p2]
      have hsz:(SetTable.insertAt es (t.put j).2 (i8 ks,Value.ref b)).size=(SetTable.insertAt y.1 (y.2.put j).2 (i8 ks)).size:=by rw[<-NL,vh]
      unfold setAddHashed setAddHashedIn;refine mP (aJ (C7 ho hd hf1 ?_));show wpAny _ _ (setSearch a (.ref b) (i8 ks) true >>= _) _ _ _;refine aJ ?_;unfold setSearch setSearchFrom;refine aJ (C7 ho hd hf1 ?_);dsimp only;rw[hg,Ds,NK]
      rotate_left;intro i;rfl;refine bH ?_;dsimp only;refine aJ (C7 ho hd hf1 ?_);dsimp only;generalize hT:(t.put j).1=t1;rw[hT]at p1;have key:=λ(t2:SetTable)(q2:cN t2 (y.2.put j).1)=>Vb (prog:=prog) (w:=w) (A:=A) (E:=E) (s:={s with toks:=s.toks+ (ks.length+1)}) (a:=a) (o:=o) (es:=es) (ep:=ep) (t:=t) (es1:=SetTable.insertAt es (t.put j).2 (i8 ks,Value.ref b)) (n:=SetTable.grown (es.size+1)) (z:=z) (Q:=Q) ho hex hd (by rw[hsz];exact hc2) q2 NL hc1 (by rw[hz];exact e) λh' q4 q5=>h h' _ q4 q5;split;exact aJ (Va hk λc=>key _ (by cases c<;>exact p1));exact aJ (bH (key _ p1))
     cases e
end
theorem NN:∀{l:List Int} {x:Array Int×SetTable} {h:Int},nq (l++[h]) x=(match nq l x with
 |some y=>nk y h
 |none=>aC)
 |[],x,h=>by
  show(match nk x h with|some y=>aB y|none=>aC)=nk x h
  cases nk x h<;>rfl
 |k::l,x,h=>by
  show(match nk x k with
   |some y=>nq (l++[h]) y
   |none=>aC)=(match(match nk x k with
   |some y=>nq l y
   |none=>aC)with
   |some y=>nk y h
   |none=>aC)
  cases nk x k with|none=>rfl|some y=>exact NN
theorem NO:∀{l:List Int} {x y:Array Int×SetTable},nq l x=aB y->∀i,∃z,nq (l.take i) x=aB z
 |l,x,y,e,0=>⟨x,by rw[List.take_zero];rfl⟩
 |[],x,y,e,i+1=>⟨x,rfl⟩
 |k::l,x,y,e,i+1=>by
  unfold nq at e;rw[List.take_succ_cons];unfold nq;cases q:nk x k with|none=>rw[q]at e;cases e|some z=>rw[q]at e;exact NO e i
theorem Vd{prog:ai}{w:aj}{h h':az}{ks:List Int}{b:ah}(k:IsTupleKey (intKind prog w) h ks b)(e:∀o,h.get? b=aB o->h'.get? b=aB o):IsTupleKey (intKind prog w) h' ks b:=
 let⟨o,it,n,ho,r⟩:=k;⟨o,it,n,e o ho,r⟩
section
variable{prog:ai}{w:aj}{A:ak}{E:aa->af->Prop}{s:af}
theorem Ve{R:Result->af->Prop}{I S T:ah}{items:Array aa}{dj:List (List Int)}{N:Nat}{h0:az}{zf:Array Int×SetTable}(hh:A.in1.handled=aC)(hu:A.in1.units<cLine)(Vf:T≠I)(hN:N<=S)(Vg:N<=I)(hSI:S≠I)(Vh:T<N)
 (hl:items.size=dj.length) (hk:∀i (h:i<dj.length),∃b,items[i]?=aB (.ref b)/\b<N/\IsTupleKey (intKind prog w) h0 dj[i] b) (hz:nq (dj.map i8) (#[],.fresh 0 0 true)=aB zf) :
 ∀(k i:Nat)(s:af)(y:Array Int×SetTable),dj.length-i=k->i<=dj.length->s.heap.IsTupleIter I T i->s.heap.IsTuple T items->(∀b o,b<N->h0.get? b=aB o->s.heap.get? b=aB o)->
  nq ((dj.map i8).take i) (#[],.fresh 0 0 true)=aB y->jL s.heap S y->
  (∀h' tk,jL h' S zf->(∀b o,b<N->h0.get? b=aB o->h'.get? b=aB o)->R (.ok (.ret .none)) {s with heap:=h',toks:=tk})->
  codeAny (model prog w) A (.builtin "set.update.loop" ⟨[.ref S,.ref I],[]⟩) R s:=by
 have nI:∀b:ah,b<N->b∉[I]:=λb hb e=>by
  have:b=I:=mS.mp e;subst this;exact fZ _ (di hb Vg)
 have nS:∀b:ah,b<N->b≠S:=λb hb e=>by
  subst e;exact fZ _ (di hb hN)
 have W:=Walks.tuple (prog:=prog) (w:=w) (A:=A.in1) hh I T Vf items;intro k;induction k with
 |zero=>
  intro i s y hk hi hit htp hkp hy hS hR;obtain rfl:i=dj.length:=by omega
  refine codeAny_builtin F.entry_set_update_loop ?_;rw[Around.under_plainId F.plain_set_update_loop _];show wpAny _ A.in1 (pyNext (.ref I) >>= _) _ _ s;refine aJ (W.done s _ _ (by rw[hl];exact⟨hit,htp⟩) λh' tk hm=>?_);show wpAny _ A.in1 (ret Value.none) _ _ _;rw[List.take_of_length_le (by rw[bx];exact aZ _),hz]at hy;cases hy;refine bH (hR h' tk ?_ λb o hb e=>hm b o (nI b hb) (hkp b o hb e));obtain⟨o,es,ep,t,ho,r⟩:=hS;exact⟨o,es,ep,t,hm S o (by rw[mS];exact hSI) ho,r⟩
 |succ k ih=>
  intro i s y hk' hi hit htp hkp hy hS hR;have hlt:i<dj.length:=by omega
  obtain⟨b,hb1,hb2,NP⟩:=hk i hlt;obtain⟨z,hz2⟩:=NO hz (i+1);have hadd:nk y (i8 dj[i])=aB z:=by rw[pZ,dS,dh hlt]at hz2;have:=NN (l:=(dj.map i8).take i) (x:=(#[],.fresh 0 0 true)) (h:=i8 dj[i]);rw[hy]at this;exact this.symm.trans hz2
  refine codeAny_builtin F.entry_set_update_loop ?_;rw[Around.under_plainId F.plain_set_update_loop _];show wpAny _ A.in1 (pyNext (.ref I) >>= _) _ _ s;refine aJ (W.item i s _ _ (by omega) ⟨hit,htp⟩ λv h' tk hP AO hm=>?_);obtain rfl:v=.ref b:=nV (hP.symm.trans hb1);have hS':jL h' S y:=by obtain⟨o,es,ep,t,ho,r⟩:=hS;exact⟨o,es,ep,t,hm S o (by rw[mS];exact hSI) ho,r⟩
  have AQ:∀b o,b<N->h0.get? b=aB o->h'.get? b=aB o:=λb o hb e=>hm b o (nI b hb) (hkp b o hb e);show wpAny _ A.in1 (holding [Value.ref b] (setAdd S (.ref b)) >>= _) _ _ _;refine aJ (mP ?_);refine Vc (s:={s with heap:=h',toks:=tk}) hu (Vd NP λo e=>AQ b o hb2 e) hS' hadd λh2 NQ Vi vL=>?_;refine bH ⟨plainId_quiet F.plain_set_update_loop _,ih (i+1) _ z (by omega) hlt ?_ ?_ ?_ hz2 Vi λh3 Vj a1 a2=>hR h3 Vj a1 a2⟩;exact AO.1.at λo e=>(vL.2 I (eV hSI)).trans e;exact AO.2.at λo e=>(vL.2 T (nS T Vh)).trans e;exact λb o hb e=>(vL.2 b (nS b hb)).trans (AQ b o hb e)
theorem Vk:isSubtype (.type "tuple") (.type "set")=pure false:=by rw[isSubtype_type];kernel_rfl
theorem Vl:isSubtype (.type "tuple") (.type "frozenset")=pure false:=by rw[isSubtype_type];kernel_rfl
theorem Vm{l:ah}{items:Array aa}{dj:List (List Int)}{zf:Array Int×SetTable}{Q:aa->af->Prop}
 (hh:A.handled=aC) (hu:A.units+8<cLine) (hl:s.heap.IsTuple l items) (hn:items.size=dj.length) (hk:∀i (h:i<dj.length),∃b,items[i]?=aB (.ref b)/\b<s.heap.objs.size/\IsTupleKey (intKind prog w) s.heap dj[i] b)
 (hz:nq (dj.map i8) (#[],.fresh 0 0 true)=aB zf)
 (h:∀(h':az)(tk:Nat),jL h' s.heap.objs.size zf->(∀b o,b<s.heap.objs.size->s.heap.get? b=aB o->h'.get? b=aB o)->Q (.ref s.heap.objs.size) {s with heap:=h',toks:=tk}) :
 wpAny (model prog w) A (call (.type "set") [.ref l]) Q E s:=by
 obtain⟨c,tl,Vn⟩:=tO.mro;have hmade:=tO.made;have hsub:=tO.sub;refine wpAny_call (codeAny_of_tree ?_);show wpAny _ _ (callAny (.type "set") _) _ _ _;refine bH ⟨Code.quiet_builtin _ (by decide +kernel),codeAny_builtin PySem.F.entry_type_call ?_⟩;rw[Around.under_plain (weight_type_call_type "set" [.ref l] []) rfl];have h1:=tO.notType;have h2:=tO.canCreate;have hct:=PySem.F.typeCall_set_1 (.ref l)
 repeat(any_goals (first|assumption|wp_step))
 refine yY (show codeAny (model prog w) _ (.call (.builtin "set.__new__") ⟨[.type "set",.ref l],[]⟩) (wants (λobj s1=>∃led:Bool,obj=.ref s.heap.objs.size/\s1 ={s with heap:=s.heap.push {cls:=.type "set",dict:=aC,data:=.set #[] 0 (.fresh 0 0 led)}}) E) s from code_set_new_1 (.ref l) λled=>⟨led,rfl,rfl⟩) λr s₁ hr=>?_;cases r with
 |error e=>exact hr
 |ok fl=>
  cases fl with
  |ret obj=>
   obtain⟨led,rfl,rfl⟩:=hr;have hS:(s.heap.push {cls:=.type "set",dict:=aC,data:=.set #[] 0 (.fresh 0 0 led)}).get? s.heap.objs.size=aB {cls:=.type "set",dict:=aC,data:=.set #[] 0 (.fresh 0 0 led)}:=iI _ rfl;have hT:Shared.TypeIs {s with heap:=s.heap.push {cls:=.type "set",dict:=aC,data:=.set #[] 0 (.fresh 0 0 led)}} (.ref s.heap.objs.size) "set":=⟨_,hS,rfl⟩
   have hli:=tO.init.lookup;have hbi:=tO.init.bind (.ref s.heap.objs.size)
   repeat(any_goals (first|assumption|wp_step))
   refine yY (codeAny_call_builtin (R:=wants (λr s₂=>r=.none/\∃h' tk,s₂ ={s with heap:=h',toks:=tk}/\
    jL h' s.heap.objs.size zf/\
    (∀b o,b<s.heap.objs.size->s.heap.get? b=aB o->h'.get? b=aB o)) E) tO.init.plain PySem.F.entry_set_init (check_set_init_1 hT ?_)) λr₂ s₂ hr2=>?_
   obtain⟨ol,NR,hcl,nl,hdl⟩:=hl;obtain⟨Vo,AR,NS,vP⟩:=ol;simp only at hcl hdl;subst hcl;subst hdl;have Hz:(s.heap.push {cls:=.type "set",dict:=aC,data:=.set #[] 0 (.fresh 0 0 led)}).get? l=aB {cls:=.type "tuple",dict:=AR,data:=.seq items nl,slots:=vP}:=cy _ NR;have Vp:=Vk;have Vq:=Vl;have hne:(Value.type "tuple" == Value.type "dict")=false:=by decide
   have hl1:(s.heap.push {cls:=.type "set",dict:=aC,data:=.set #[] 0 (.fresh 0 0 led)}).IsTuple l items:=⟨_,Hz,rfl,nl,rfl⟩
   unfold Builtin.«set.__init__» noKeywords Builtin.Frozenset.updateFrom;generalize Vr:pyIter=PI
   wp_walk;subst Vr;refine tH hl1 ?_;refine aJ (wpAny_runValue ?_);have hlS:l<s.heap.objs.size:=cQ NR;have hsz:(s.heap.push {cls:=.type "set",dict:=aC,data:=.set #[] 0 (.fresh 0 0 led)}).objs.size=s.heap.objs.size+1:=jU ..;refine Ve (N:=s.heap.objs.size) (h0:=s.heap) (zf:=zf) (dj:=dj) (T:=l) (items:=items) (by simp[hh]) (by simp only[Around.in1_units];omega) (by rw[hsz];exact gh (ve hlS)) (aZ _) (by rw[hsz];exact p9 _) (by rw[hsz];exact gh (fY _)) hlS hn hk hz
    (dj.length-0) 0 _ (#[],.fresh 0 0 true) rfl (j8 _) ⟨_,iI _ rfl,rfl,rfl⟩ (hl1.push _) (λb o hb e=>cy _ (cy _ e)) rfl ⟨_,_,_,_,cy _ hS,⟨rfl,rfl,rfl⟩,rfl,by simp,⟨rfl,rfl,rfl⟩,by decide⟩ λh' tk hS' hk'=>?_
   refine bH ?_;show wpAny _ _ (ret Value.none) _ _ _;exact bH ⟨rfl,h',tk,rfl,hS',hk'⟩
   .cases r₂ with
    |error e=>exact hr2
    |ok Vs=>
     cases Vs with
     |ret r=>
      obtain⟨rfl,h',tk,rfl,hS',hk'⟩:=hr2
      repeat(any_goals (first|assumption|wp_step))
      exact h _ _ hS' hk'
     |_=>exact hr2.elim
  |_=>exact hr.elim
theorem Vt{a:ah}{y:Array Int×SetTable}{Q:aa->af->Prop}(hS:jL s.heap a y)(hz:y.1.size<=1000)(h:∀tk NQ,Q (.int y.1.size tk) {s with toks:=NQ}):wpAny (model prog w) A (call (.builtin "len") [.ref a]) Q E s:=by
 obtain⟨o,es,ep,t,ho,hex,hd,hm,hq,hf⟩:=hS;have e:es.size=y.1.size:=by rw[<-hm,vh]
 refine call_len_set ho hex hd (NI (a:=a) hm hq hf) (by rw[e];omega) ?_;rw[e];exact h _ _
end
inductive TK(K:aH)(H:Hp):List V->List (List Int)->Prop
 |nil:TK K H [] []
 |cons {b:ah} {vs:List V} {ks:List Int} {dj:List (List Int)}:cj K H b (ks.map .int)->TK K H vs dj->TK K H (.ref b::vs) (ks::dj)
theorem NT{prog:ai}{w:aj}:∀{ks:List Int} {us:List aa},Vals (ks.map V.int) us->ItemsAre (intKind prog w) ks us|[],_,.nil=>.nil|k::ks,_,.cons ⟨t,e⟩ r=>by subst e;exact .cons (intKind_is _ _ _ _) (NT r)
section
variable{X:Cx}{pins:List (ah×Obj)}{σ:St}{H:Hp}{s:af}
theorem TK.keys(I:Inv X pins σ H s):∀{vs:List V} {dj:List (List Int)} {its:List aa},TK X.K H vs dj->Vals vs its->its.length=dj.length/\∀(i:Nat) (h:i<dj.length),∃b,its[i]?=aB (.ref b)/\b<s.heap.objs.size/\IsTupleKey (intKind X.prog X.w) s.heap dj[i] b
 |_,_,_,.nil,.nil=>⟨rfl,λi h=>absurd h (xY _)⟩
 |_,_,_,.cons q t,.cons r rs=>by
  obtain⟨h1,h2⟩:=TK.keys I t rs;refine⟨by rw[cG,cG,h1],λi h=>?_⟩;cases i with
  |zero=>
   obtain⟨its,rv,tp,_⟩:=I.tuple q;cases r;obtain⟨o,ho,hc,n,hd⟩:=tp;exact⟨_,rfl,cQ ho,o,its.toArray,n,ho,hc,hd,by simpa using NT rv⟩
  |succ i=>exact h2 i (Nat.lt_of_succ_lt_succ h)
noncomputable def AS(K:aH)(te:TE):TE:=λσ H Q=>te σ H λx H1=>∃a vs dj n,x=.ref a/\cj K H1 a vs/\TK K H1 vs dj/\yr dj=aB n/\Q (.int n) H1
theorem Vu{e:ao}{te:TE}{p1 p2 pos1 pos2:Pos}(hu:X.A.units+8<cLine)(hc:X.calm)(Vv:Gl X "len")(hm1:X.mg "len" = aC)(nt:Gl X "set")(hm2:X.mg "set" = aC)(he:PE X e te)(hs:starEach [e] X.env=[(false,eval e X.env)]) :
 PE X (.Call (.Name "len" p1) [.Call (.Name "set" p2) [e] [] pos2] [] pos1) (AS X.K te):=by
 intro pins s σ H Q I h;refine xH (qW I Vv hm1 PySem.boot_len ?_);refine PyProof.Rows.callWith_builtin1 ?_;refine zo (xH (qW I nt hm2 PyProof.Rows.boot_set ?_));refine x8 ?_ (by rw[hs];rfl);rw[show backTo pos2 (starEach [e] X.env)=[(false,eval e X.env)] by rw[hs];rfl];refine zo (bf (he pins s σ H _ I h) λu s1 z9=>z9.el λx H1 I1 rx ⟨a,vs,dj,n,ex,sq,tk,hn,q⟩=>DC ?_);subst ex;obtain rfl:u=Value.ref a:=rx;obtain⟨its,rv,tp,_⟩:=I1.tuple sq;obtain⟨hl,hk⟩:=TK.keys I1 tk rv;obtain⟨o,ho,hcl,nn,hd⟩:=tp;unfold yr at hn;split at hn;rename_i zf hz;split at hn;rename_i hz2;cases hn;refine Vm (items:=its.toArray) (dj:=dj) (zf:=zf) (I1.ok.hd hc) hu ⟨o,ho,hcl,nn,hd⟩ (by simpa using hl) (λi h=>by
  obtain⟨b,h1,h2⟩:=hk i h;exact⟨b,by simpa using h1,h2⟩) hz λh' tk hS kp=>?_
 refine DC ?_;have I2:Inv X pins σ H1 {s1 with heap:=h',toks:=tk}:=I1.kept (t':=tk) λb u e=>kp b u (cQ e) e;exact Vt (s:={s1 with heap:=h',toks:=tk}) hS hz2 λt1 t2=>⟨.int _,H1,I2.tok t2,⟨t1,rfl⟩,q⟩
 cases hn;cases hn
end
end L2
namespace RF
open PySem
inductive W where
 |aP|bl (b:Bool)|int (i:Int)|str (x:Str)|tup (ws:List W)|fz (ws:List W)|ref (i:Nat)
mutual
noncomputable def W.lt(n:Nat):W->Bool|.tup ws=>W.mh n ws|.fz ws=>W.mh n ws|.ref i=>Nat.blt i n|_=>true
noncomputable def W.mh(n:Nat):List W->Bool|[]=>true|w::ws=>W.lt n w&&W.mh n ws
end
inductive VO where
 |lst (ws:List W)|dk (kvs:List (L2.Key×W))|dm (kvs:List (L2.Key×W))
structure VH where
 n:Nat
 lo:Nat
 os:List VO
noncomputable def VH.get(h:VH)(i:Nat):Option VO:=if Nat.blt i h.n then h.os[h.n-1-i]? else aC
noncomputable def VH.set(h:VH)(i:Nat)(o:VO):VH:=⟨h.n,if Nat.blt i h.lo then i else h.lo,h.os.set (h.n-1-i) o⟩
noncomputable def VH.new(h:VH)(o:VO):VH:=⟨h.n+1,h.lo,o::h.os⟩
inductive Res(α:Type)where
 |ok (a:α) (h:VH)|ex (x:W) (h:VH)|no
noncomputable def Res.bind{α β:Type}(r:Res α)(f:α->VH->Res β):Res β:=match r with|.ok a h=>f a h|.ex x h=>.ex x h|.no=>.no
noncomputable def Res.of{α:Type}(o:Option α)(h:VH):Res α:=match o with|some a=>.ok a h|none=>.no
inductive Op where
 |add|sub|mul|fdiv|mod|shl|pow
 deriving DecidableEq
inductive Cp where
 |eq|ne|lt|le|gt|ge|AU|oR|k8|Ek
 deriving DecidableEq
inductive Ty where
 |int|bool|tuple|list|str|dict
 deriving DecidableEq
inductive Bi where
 |len|list|tuple|int|abs|max|min|all|HA|HB|bC|st2|ki
 deriving DecidableEq
inductive Mt where
 |append|get|update
 deriving DecidableEq
inductive Kd where
 |seq|bR|gQ|lE|zip|keys
 deriving DecidableEq
inductive Tg where
 |one (i:Nat)|many (is:List Nat)|AV (i:Nat) (is:List Nat)
 deriving DecidableEq
inductive E where
 |var (i:Nat)|cst (w:W)
 |nil|cons (a r:E)
 |tup (a:E)|lst (a:E)|HC (a:E)
 |op (o:Op) (a b:E)|neg (a:E)
 |cmp (c:Cp) (a b:E)|qh (c d:Cp) (a b e:E)
 |not (a:E)|and (a b:E)|or (a b:E)|k9 (a:E)|ite (c a b:E)
 |idx (a b:E)|slc (a:E) (bl:Bool) (lo:E) (bh:Bool) (hi:E)
 |call (f:Nat) (a:E)|bi (b:Bi) (a:E)|oS (t:Ty) (a:E)|mt (m:Mt) (o a:E)
 |lc (k:Kd) (a:E) (t:Tg) (ow:Nat) (ix:List Nat) (c e:E)
 |yt (k:Kd) (a:E) (t:Tg) (ow:Nat) (ix:List Nat) (c:E) (k2:Kd) (a2:E) (t2:Tg) (c2 e:E)
 |dc (k:Kd) (a:E) (t:Tg) (ow:Nat) (ix:List Nat) (c e v:E)
inductive S where
 |skip|seq (a b:S)|set (i:Nat) (e:E)|yu (is:List Nat) (e:E)|aug (i:Nat) (o:Op) (e:E)
 |put (o i v:E)|ite (c:E) (a b:S)|ret (e:E)|expr (e:E)|brk|cnt
 |for (k:Kd) (a:E) (t:Tg) (b:S)|yw (c:E) (b:S)|no
noncomputable abbrev En:=List (Option W)
inductive Fl where
 |nx (ρ:En)|rt (w:W)|bk (ρ:En)|ct (ρ:En)
noncomputable def aY{α β:Type}(f:α->Option β):List α->Option (List β)
 |[]=>aB []
 |a::r=>match f a with
  |some b=>(match aY f r with
   |some bs=>aB (b::bs)
   |none=>aC)
  |none=>aC
noncomputable def toD(h:VH):Nat->W->Option aA
 |0,_=>aC
 |n+1,w=>match w with
  |.aP=>aB .none
  |.bl b=>aB (.bool b)
  |.int i=>aB (.int i)
  |.str x=>aB (.str x)
  |.tup ws=>(aY (toD h n) ws).map .tuple
  |.fz ws=>(aY (toD h n) ws).map .list
  |.ref i=>match h.get i with
   |some (.lst ws)=>(aY (toD h n) ws).map .list
   |_=>aC
noncomputable def dD(h:VH)(x y:W):Option Bool:=
 match toD h 24 x,toD h 24 y with|some d,aB e=>if SeqAt.shaped d&&SeqAt.shaped e then aB (PyData.eqv d e)else aC|_,_=>aC
noncomputable def big:Nat:=16777216
noncomputable def kE(i:Int):Bool:=decide (-(2 ^ 64)<i)&&decide (i<2 ^ 64)
noncomputable def gE:Op->Int->Int->Option Int|.add,i,j=>aB (i+j)|.sub,i,j=>aB (i-j)|.mul,i,j=>if kE i||kE j then aB (i*j)else aC|.fdiv,i,j=>if decide (0<j)&&decide (j<1073741824)then aB (i/j)else aC|.mod,i,j=>if decide (0<j)then aB (i % j)else aC|.shl,i,j=>if decide (0<=j)&&decide (j<=1000000)&&decide (i.natAbs<2 ^ 64)then aB (i*2 ^ j.toNat)else aC|.pow,i,j=>if decide (0<=j)&&decide (j<=1000000)&&decide (i.natAbs<2 ^ 64)then aB (i ^ j.toNat)else aC
noncomputable def HE:Op->List W->List W->Option (List W)|.add,xs,ys=>if Nat.ble (xs.length+ys.length) big then aB (xs++ys)else aC|_,_,_=>aC
noncomputable def AW:Op->List W->List W->Option (List W)|.add,xs,ys=>if Nat.ble (xs.length+ys.length) big then aB (xs++ys)else aC|_,_,_=>aC
noncomputable def fits(i:Int):Bool:=decide (-(2 ^ 62)<=i)&&decide (i<2 ^ 62)
noncomputable def rL(o:Op)(xs:List W)(k:Int):Option (List W):=match o with|.mul=>if fits k&&Nat.ble (xs.length*k.toNat) big then aB (bI k.toNat xs).flatten else aC|_=>aC
noncomputable def iA(o:Op)(x y:W)(h:VH):Res W:=match x,y with
 |.int i,.int j=>.of ((gE o i j).map .int) h
 |.tup xs,.tup ys=>.of ((HE o xs ys).map .tup) h
 |.tup xs,.int k=>.of ((rL o xs k).map .tup) h
 |.ref i,.ref j=>match h.get i,h.get j with
  |some (.lst xs),aB (.lst ys)=>(match AW o xs ys with
   |some zs=>.ok (.ref h.n) (h.new (.lst zs))
   |none=>.no)
  |_,_=>.no
 |_,_=>.no
noncomputable def vQ(o:Op)(x y:W)(h:VH):Res W:=match x,y with
 |.int i,.int j=>(match o with
  |.add=>.ok (.int (i+j)) h
  |.sub=>.ok (.int (i-j)) h
  |.mul=>.of ((gE .mul i j).map .int) h
  |.fdiv=>.of ((gE .fdiv i j).map .int) h
  |_=>.no)
 |.ref i,.ref j=>match o,h.get i,h.get j with
  |.add,aB (.lst xs),aB (.lst ys)=>if Nat.ble (xs.length+ys.length) big then .ok (.ref i) (h.set i (.lst (xs++ys)))else .no
  |_,_,_=>.no
 |.tup (x::xs),.tup ys=>(match o with
  |.add=>if Nat.ble ((x::xs).length+ys.length) big then .ok (.tup (x::xs++ys)) h else .no
  |_=>.no)
 |_,_=>.no
noncomputable def gS:Cp->Int->Int->Option Bool|.lt,i,j=>aB (decide (i<j))|.le,i,j=>aB (decide (i<=j))|.gt,i,j=>aB (decide (j<i))|.ge,i,j=>aB (decide (j<=i))|_,_,_=>aC
noncomputable def cV:W->Bool|.aP=>true|_=>false
noncomputable def aR(h:VH):W->Option (List W)
 |.tup ws=>aB ws
 |.fz ws=>aB ws
 |.ref i=>match h.get i with
  |some (.lst ws)=>aB ws
  |_=>aC
 |_=>aC
noncomputable def intD:W->Option Int|.int i=>aB i|_=>aC
noncomputable def ua(h:VH)(x y:W):Option Bool:=match aR h y,toD h 24 x with
 |some ws,aB d=>(match aY (toD h 24) ws with
  |some ds=>if ds.all SeqAt.shaped&&SeqAt.shaped d then aB (L2.gv ds d)else aC
  |none=>aC)
 |_,_=>aC
noncomputable def AX:W->W->Option Bool|.bl c,.bl b=>aB (c==b)|_,_=>aC
noncomputable def bE(c:Cp)(h:VH)(x y:W):Option Bool:=match c with
 |.k8=>ua h x y
 |.Ek=>(ua h x y).map (!·)
 |.eq=>dD h x y
 |.ne=>(dD h x y).map (!·)
 |.AU=>if cV y then aB (cV x)else AX x y
 |.oR=>if cV y then aB (!cV x)else(AX x y).map (!·)
 |c=>match x,y with
  |.int i,.int j=>gS c i j
  |_,_=>aC
noncomputable def nu(h:VH):W->Option Bool
 |.bl b=>aB b
 |.int i=>aB (i != 0)
 |.aP=>aB false
 |.tup ws=>aB (!ws.isEmpty)
 |.ref i=>match h.get i with
  |some (.lst ws)=>aB (!ws.isEmpty)
  |_=>aC
 |_=>aC
noncomputable def nv:W->Option L2.Key|.int i=>aB (.inl i)|.str x=>aB (.inr x)|_=>aC
noncomputable def aS(kvs:List (L2.Key×W))(k:L2.Key):Option W:=(kvs.find? λkv=>decide (kv.1=k)).map (·.2)
noncomputable def bB(kvs:List (L2.Key×W))(k:L2.Key)(w:W):List (L2.Key×W):=
 if(kvs.any λkv=>decide (kv.1=k))=true then kvs.map (λkv=>if kv.1=k then(kv.1,w)else kv)else kvs++[(k,w)]
noncomputable def cz(h:VH)(x y:W):Option W:=match x,y with
 |.tup ws,.int i=>L2.fV ws i
 |.fz ws,.int i=>L2.fV ws i
 |.ref a,.int i=>(match h.get a with
  |some (.lst ws)=>L2.fV ws i
  |some (.dk kvs)=>aS kvs (.inl i)
  |some (.dm kvs)=>aS kvs (.inl i)
  |_=>aC)
 |.ref a,.str x=>(match h.get a with
  |some (.dk kvs)=>aS kvs (.inr x)
  |_=>aC)
 |_,_=>aC
noncomputable def fB(b:Bool)(w:W):Option (Option Int):=match b,w with|false,_=>aB aC|true,.int i=>aB (aB i)|_,_=>aC
noncomputable def iR(ws:List W)(lo hi:Option Int):List W:=(ws.drop (HT.bK ws.length 0 lo)).take (HT.bK ws.length ws.length hi-HT.bK ws.length 0 lo)
noncomputable def kF(x:W)(l u:Option Int)(h:VH):Res W:=match x with
 |.tup ws=>.ok (.tup (iR ws l u)) h
 |.ref i=>(match h.get i with
  |some (.lst ws)=>.ok (.ref h.n) (h.new (.lst (iR ws l u)))
  |_=>.no)
 |_=>.no
@[simp] theorem AY {ws:List W} {l u:Option Int} {h:VH}:kF (.tup ws) l u h=.ok (.tup (iR ws l u)) h:=rfl
noncomputable def ck:Ty->VH->W->Option Bool
 |t,_,.aP=>aB false
 |t,_,.bl _=>aB (t == .int||t == .bool)
 |t,_,.int _=>aB (t == .int)
 |t,_,.str _=>aB (t == .str)
 |t,_,.tup _=>aB (t == .tuple)
 |_,_,.fz _=>aC
 |t,h,.ref i=>match h.get i with
  |some (.lst _)=>aB (t == .list)
  |some (.dk _)=>aB (t == .dict)
  |_=>aC
noncomputable def iB(xs:List W)(h:VH):Res W:=match xs with
 |[x]=>.of (match aR h x with
  |some ws=>aB (.int ws.length)
  |none=>aC) h
 |_=>.no
noncomputable def kG(xs:List W)(h:VH):Res W:=match xs with
 |[x]=>(match aR h x with
  |some ws=>.ok (.ref h.n) (h.new (.lst ws))
  |none=>.no)
 |_=>.no
noncomputable def vR(xs:List W)(h:VH):Res W:=match xs with
 |[x]=>.of (match aR h x with
  |some ws=>aB (.tup ws)
  |none=>aC) h
 |_=>.no
noncomputable def rM(xs:List W)(h:VH):Res W:=match xs with|[.int i]=>.ok (.int i) h|[.bl b]=>.ok (.int (if b then 1 else 0)) h|_=>.no
noncomputable def lF(xs:List W)(h:VH):Res W:=match xs with|[.int i]=>.ok (.int (if i<0 then -i else i)) h|_=>.no
noncomputable def iZ:W->Option Int|.int i=>aB i|_=>aC
noncomputable def dI:Int->List Int->Int|x,[]=>x|x,y::r=>dI (if y>x then y else x) r
noncomputable def ny(xs:List W)(h:VH):Res W:=match xs with
 |[.int i,.int j]=>.ok (.int (if j>i then j else i)) h
 |[.ref i]=>(match h.get i with
  |some (.lst ws)=>(match aY iZ ws with
   |some (x::r)=>.ok (.int (dI x r)) h
   |_=>.no)
  |_=>.no)
 |_=>.no
noncomputable def rN(xs:List W)(h:VH):Res W:=match xs with|[.int i,.int j]=>.ok (.int (if j<i then j else i)) h|_=>.no
noncomputable def uc:W->Option Bool|.bl b=>aB b|_=>aC
noncomputable def kH(xs:List W)(h:VH):Res W:=match xs with
 |[.ref i]=>(match h.get i with
  |some (.lst ws)=>.of ((aY uc ws).map λbs=>.bl (bs.all id)) h
  |_=>.no)
 |_=>.no
noncomputable def AZ(j:Nat):List W:=(List.range' 0 j).map λ(i:Nat)=>W.int (0+ (i:Int))
noncomputable def ud(xs:List W)(h:VH):Res W:=match xs with|[.int i]=>if decide (0<=i)&&Nat.ble i.toNat big then .ok (.ref h.n) (h.new (.lst (AZ i.toNat)))else .no|_=>.no
noncomputable def vS(xs:List W)(h:VH):Res W:=match xs with|[]=>.ok (.ref h.n) (h.new (.dm []))|_=>.no
noncomputable def nA(xs:List W)(h:VH):Res W:=match xs with
 |[.ref i]=>(match h.get i with
  |some (.dm kvs)=>.ok (.ref i) (h.set i (.dk kvs))
  |_=>.no)
 |_=>.no
noncomputable def rO:W->Option Nat|.aP=>aB 0|.int i=>if i=1 then aB 1 else aC|_=>aC
noncomputable def nB(xs:List W)(h:VH):Res W:=match xs with
 |[.ref i,l,.int k]=>(match h.get i,rO l with
  |some (.lst ws),aB c=>if k=2 then .ok (.ref h.n) (h.new (.lst (L2.cM (ws.drop c))))else .no
  |_,_=>.no)
 |_=>.no
noncomputable def lH:W->Option Int|.int i=>aB i|_=>aC
noncomputable def tupI:W->Option (List Int)|.tup us=>aY lH us|_=>aC
noncomputable def jw(xs:List W)(h:VH):Res W:=match xs with|[.tup ws]=>.of (((aY tupI ws).bind L2.yr).map .int) h|_=>.no
noncomputable def mj(b:Bi)(xs:List W)(h:VH):Res W:=match b with|.abs=>lF xs h|.max=>ny xs h|.min=>rN xs h|.all=>kH xs h|.HA=>ud xs h|.HB=>vS xs h|.bC=>nA xs h|.st2=>nB xs h|.ki=>jw xs h|.len=>iB xs h|.list=>kG xs h|.tuple=>vR xs h|.int=>rM xs h
noncomputable def El(kvs more:List (L2.Key×W)):List (L2.Key×W):=more.foldl (λacc kv=>bB acc kv.1 kv.2) kvs
noncomputable def oU(a b:Nat)(h:VH):Res W:=match h.get a,h.get b with|some (.dm kvs),aB (.dm more)=>if Nat.beq a b then .no else if Nat.ble (kvs.length+more.length) 1000 then .ok .aP (h.set a (.dm (El kvs more)))else .no|_,_=>.no
noncomputable def jW(m:Mt)(o:W)(xs:List W)(h:VH):Res W:=match m,o,xs with
 |.update,.ref i,[.ref j]=>oU i j h
 |.append,.ref i,[x]=>(match h.get i with
  |some (.lst ws)=>if Nat.blt ws.length big then .ok .aP (h.set i (.lst (ws++[x])))else .no
  |_=>.no)
 |.get,.ref i,[k,d]=>(match h.get i,nv k with
  |some (.dk kvs),aB k=>.ok ((aS kvs k).getD d) h
  |some (.dm kvs),aB k=>.ok ((aS kvs k).getD d) h
  |_,_=>.no)
 |_,_,_=>.no
noncomputable def kI(m:Mt)(h:VH)(o:W):Bool:=match m,o with
 |.update,.ref i=>(match h.get i with
  |some (.dm _)=>true
  |_=>false)
 |.append,.ref i=>(match h.get i with
  |some (.lst _)=>true
  |_=>false)
 |.get,.ref i=>(match h.get i with
  |some (.dk _)=>true
  |some (.dm _)=>true
  |_=>false)
 |_,_=>false
noncomputable def vU:L2.Key->W|.inl i=>.int i|.inr x=>.str x
noncomputable def aW(k:Kd)(x:W)(i:Nat)(h:VH):Option (Option W):=match k with
 |.seq=>(aR h x).map λws=>ws[i]?
 |.lE=>(match x with
  |.tup ws=>aB ((ws[i]?).map λw=>.tup [.int i,w])
  |_=>aC)
 |.keys=>(match x with
  |.ref a=>(match h.get a with
   |some (.dk kvs)=>(match kvs[i]? with
    |some kv=>aB (aB (vU kv.1))
    |none=>if Nat.beq i kvs.length then aB aC else aC)
   |_=>aC)
  |_=>aC)
 |.zip=>(match x with
  |.tup [u,v]=>(match aR h u,aR h v with
   |some ws,aB zs=>aB (match ws[i]?,zs[i]? with
    |some a,aB b=>aB (.tup [a,b])
    |_,_=>aC)
   |_,_=>aC)
  |_=>aC)
 |.bR=>(match x with
  |.tup [.int j]=>if fits j then aB (if decide ((i:Int)<j)then aB (.int (0+i))else aC)else aC
  |_=>aC)
 |.gQ=>(match x with
  |.tup [.int a,.int b]=>if fits a&&fits b then aB (if decide ((i:Int)<b-a)then aB (.int (a+i))else aC)else aC
  |_=>aC)
noncomputable def lI:List Nat->List W->En->Option En|[],[],ρ=>aB ρ|i::is,w::ws,ρ=>lI is ws (ρ.set i (aB w))|_,_,_=>aC
noncomputable def bw(t:Tg)(w:W)(h:VH)(ρ:En):Option En:=match t with
 |.one i=>aB (ρ.set i (aB w))
 |.AV j is=>(match w with
  |.tup [x,y]=>(match aR h y with
   |some ws=>lI is ws (ρ.set j (aB x))
   |none=>aC)
  |_=>aC)
 |.many is=>match aR h w with
  |some ws=>lI is ws ρ
  |none=>aC
noncomputable def fuel:Nat:=1000000
noncomputable def inner(ow:Nat)(ix:List Nat)(ρ:En):En:=bI ow aC++ix.map λj=>(ρ[j]?).join
noncomputable def gF(nx:Nat->VH->Option (Option W))(tg:W->VH->En->Option En)(c:En->VH->Res W)(e:En->VH->Res W):Nat->Nat->En->VH->List W->Res (List W)
 |0,_,_,_,_=>.no
 |f+1,i,ρ,h,acc=>match nx i h with
  |none=>.no
  |some aC=>.ok acc.reverse h
  |some (aB w)=>match tg w h ρ with
   |none=>.no
   |some ρ=>(c ρ h).bind λb h=>match b with
    |.bl true=>(e ρ h).bind λy h=>gF nx tg c e f (i+1) ρ h (y::acc)
    |.bl false=>gF nx tg c e f (i+1) ρ h acc
    |_=>.no
noncomputable def jx(nx:Nat->VH->Option (Option W))(tg:W->VH->En->Option En)(c:En->VH->Res W)(e:En->VH->Res W):Nat->Nat->En->VH->List W->Res (En×List W)
 |0,_,_,_,_=>.no
 |f+1,i,ρ,h,acc=>match nx i h with
  |none=>.no
  |some aC=>.ok (ρ,acc) h
  |some (aB w)=>match tg w h ρ with
   |none=>.no
   |some ρ=>(c ρ h).bind λb h=>match b with
    |.bl true=>(e ρ h).bind λy h=>jx nx tg c e f (i+1) ρ h (y::acc)
    |.bl false=>jx nx tg c e f (i+1) ρ h acc
    |_=>.no
noncomputable def lg(nx:Nat->VH->Option (Option W))(tg:W->VH->En->Option En)(c:En->VH->Res W)(k8:En->VH->List W->Res (En×List W)):Nat->Nat->En->VH->List W->Res (List W)
 |0,_,_,_,_=>.no
 |f+1,i,ρ,h,acc=>match nx i h with
  |none=>.no
  |some aC=>.ok acc.reverse h
  |some (aB w)=>match tg w h ρ with
   |none=>.no
   |some ρ=>(c ρ h).bind λb h=>match b with
    |.bl true=>(k8 ρ h acc).bind λp h=>lg nx tg c k8 f (i+1) p.1 h p.2
    |.bl false=>lg nx tg c k8 f (i+1) ρ h acc
    |_=>.no
noncomputable def jM(nx:Nat->VH->Option (Option W))(tg:W->VH->En->Option En)(c:En->VH->Res W)(e v:En->VH->Res W):Nat->Nat->En->VH->List (L2.Key×W)->Res (List (L2.Key×W))
 |0,_,_,_,_=>.no
 |f+1,i,ρ,h,acc=>match nx i h with
  |none=>.no
  |some aC=>.ok acc h
  |some (aB w)=>match tg w h ρ with
   |none=>.no
   |some ρ=>(c ρ h).bind λb h=>match b with
    |.bl true=>(e ρ h).bind λx h=>(v ρ h).bind λy h=>(match nv x with
     |some k=>if Nat.blt acc.length big then jM nx tg c e v f (i+1) ρ h (bB acc k y)else .no
     |none=>.no)
    |.bl false=>jM nx tg c e v f (i+1) ρ h acc
    |_=>.no
noncomputable def dX(nx:Nat->VH->Option (Option W))(tg:W->VH->En->Option En)(b:En->VH->Res Fl):Nat->Nat->En->VH->Res Fl
 |0,_,_,_=>.no
 |f+1,i,ρ,h=>match nx i h with
  |none=>.no
  |some aC=>.ok (.nx ρ) h
  |some (aB w)=>match tg w h ρ with
   |none=>.no
   |some ρ=>(b ρ h).bind λfl h=>match fl with
    |.nx ρ=>dX nx tg b f (i+1) ρ h
    |.ct ρ=>dX nx tg b f (i+1) ρ h
    |.bk ρ=>.ok (.nx ρ) h
    |.rt w=>.ok (.rt w) h
noncomputable def dz(c:En->VH->Res W)(b:En->VH->Res Fl):Nat->En->VH->Res Fl
 |0,_,_=>.no
 |f+1,ρ,h=>(c ρ h).bind λt h=>match t with
  |.bl false=>.ok (.nx ρ) h
  |.bl true=>(b ρ h).bind λfl h=>match fl with
   |.nx ρ=>dz c b f ρ h
   |.ct ρ=>dz c b f ρ h
   |.bk ρ=>.ok (.nx ρ) h
   |.rt w=>.ok (.rt w) h
  |_=>.no
noncomputable def vV:List W->Option (List (L2.Key×W))
 |[]=>aB []
 |k::v::r=>match nv k with
  |some k=>(match vV r with
   |some kvs=>aB ((k,v)::kvs)
   |none=>aC)
  |none=>aC
 |_=>aC
noncomputable def A0(kvs:List (L2.Key×W)):VO:=.dk (El [] kvs)
noncomputable def oV(ρ:En)(a:Nat)(j:Int)(w:W)(h:VH):Res Fl:=match h.get a with|some (.dm kvs)=>if Nat.blt kvs.length big then .ok (.nx ρ) (h.set a (.dm (bB kvs (.inl j) w)))else .no|_=>.no
noncomputable abbrev Call:=Nat->List W->VH->Res W
noncomputable def ev(cl:Call):E->En->VH->Res W
 |.var i,ρ,h=>.of (ρ[i]?).join h
 |.cst w,_,h=>.ok w h
 |.nil,_,h=>.ok (.tup []) h
 |.cons a r,ρ,h=>(ev cl a ρ h).bind λx h=>(ev cl r ρ h).bind λy h=>match y with
  |.tup ys=>.ok (.tup (x::ys)) h
  |_=>.no
 |.tup a,ρ,h=>(ev cl a ρ h).bind λy h=>match y with
  |.tup ys=>if Nat.ble ys.length 1000 then .ok (.tup ys) h else .no
  |_=>.no
 |.lst a,ρ,h=>(ev cl a ρ h).bind λy h=>match y with
  |.tup ys=>if Nat.ble ys.length 1000 then .ok (.ref h.n) (h.new (.lst ys))else .no
  |_=>.no
 |.HC a,ρ,h=>(ev cl a ρ h).bind λy h=>match y with
  |.tup ys=>(match vV ys with
   |some kvs=>if Nat.ble kvs.length 15 then .ok (.ref h.n) (h.new (A0 kvs))else .no
   |none=>.no)
  |_=>.no
 |.op o a b,ρ,h=>(ev cl a ρ h).bind λx h=>(ev cl b ρ h).bind λy h=>iA o x y h
 |.neg a,ρ,h=>(ev cl a ρ h).bind λx h=>match x with
  |.int i=>.ok (.int (-i)) h
  |_=>.no
 |.cmp c a b,ρ,h=>(ev cl a ρ h).bind λx h=>(ev cl b ρ h).bind λy h=>.of ((bE c h x y).map .bl) h
 |.qh c d a b e,ρ,h=>(ev cl a ρ h).bind λx h=>(ev cl b ρ h).bind λy h=>match bE c h x y with
  |some true=>(ev cl e ρ h).bind λz h=>.of ((bE d h y z).map .bl) h
  |some false=>.ok (.bl false) h
  |none=>.no
 |.not a,ρ,h=>(ev cl a ρ h).bind λx h=>match x with
  |.bl b=>.ok (.bl (!b)) h
  |_=>.no
 |.and a b,ρ,h=>(ev cl a ρ h).bind λx h=>match x with
  |.bl true=>ev cl b ρ h
  |.bl false=>.ok (.bl false) h
  |_=>.no
 |.or a b,ρ,h=>(ev cl a ρ h).bind λx h=>match x with
  |.bl true=>.ok (.bl true) h
  |.bl false=>ev cl b ρ h
  |_=>.no
 |.k9 a,ρ,h=>(ev cl a ρ h).bind λx h=>.of ((nu h x).map .bl) h
 |.ite c a b,ρ,h=>(ev cl c ρ h).bind λx h=>match x with
  |.bl true=>ev cl a ρ h
  |.bl false=>ev cl b ρ h
  |_=>.no
 |.idx a b,ρ,h=>(ev cl a ρ h).bind λx h=>(ev cl b ρ h).bind λy h=>.of (cz h x y) h
 |.slc a bl lo bh hi,ρ,h=>(ev cl a ρ h).bind λx h=>(ev cl lo ρ h).bind λl h=>(ev cl hi ρ h).bind λu h=>match fB bl l,fB bh u with
  |some l,aB u=>kF x l u h
  |_,_=>.no
 |.call f a,ρ,h=>(ev cl a ρ h).bind λy h=>match y with
  |.tup ys=>cl f ys h
  |_=>.no
 |.bi b a,ρ,h=>(ev cl a ρ h).bind λy h=>match y with
  |.tup ys=>mj b ys h
  |_=>.no
 |.oS t a,ρ,h=>(ev cl a ρ h).bind λx h=>.of ((ck t h x).map .bl) h
 |.mt m o a,ρ,h=>(ev cl o ρ h).bind λx h=>if kI m h x then(ev cl a ρ h).bind λy h=>match y with
  |.tup ys=>jW m x ys h
  |_=>.no
  else .no
 |.lc k a t ow ix c e,ρ,h=>(ev cl a ρ h).bind λx h=>(gF (aW k x) (bw t) (ev cl c) (ev cl e) fuel 0 (inner ow ix ρ) h []).bind λys h=>if Nat.ble ys.length big then .ok (.ref h.n) (h.new (.lst ys))else .no
 |.yt k a t ow ix c k2 a2 t2 c2 e,ρ,h=>(ev cl a ρ h).bind λx h=>(lg (aW k x) (bw t) (ev cl c) (λρ h acc=>(ev cl a2 ρ h).bind λy h=>jx (aW k2 y) (bw t2) (ev cl c2) (ev cl e) fuel 0 ρ h acc) fuel 0 (inner ow ix ρ) h []).bind λys h=>if Nat.ble ys.length big then .ok (.ref h.n) (h.new (.lst ys))else .no
 |.dc k a t ow ix c e v,ρ,h=>(ev cl a ρ h).bind λx h=>(jM (aW k x) (bw t) (ev cl c) (ev cl e) (ev cl v) fuel 0 (inner ow ix ρ) h []).bind λkvs h=>.ok (.ref h.n) (h.new (.dm kvs))
noncomputable def exs(cl:Call):S->En->VH->Res Fl
 |.skip,ρ,h=>.ok (.nx ρ) h
 |.seq a b,ρ,h=>(exs cl a ρ h).bind λfl h=>match fl with
  |.nx ρ=>exs cl b ρ h
  |fl=>.ok fl h
 |.set i e,ρ,h=>(ev cl e ρ h).bind λw h=>.ok (.nx (ρ.set i (aB w))) h
 |.yu is e,ρ,h=>(ev cl e ρ h).bind λw h=>.of ((bw (.many is) w h ρ).map .nx) h
 |.aug i o e,ρ,h=>match(ρ[i]?).join with
  |some x=>(ev cl e ρ h).bind λy h=>(vQ o x y h).bind λz h=>.ok (.nx (ρ.set i (aB z))) h
  |none=>.no
 |.put o i v,ρ,h=>(ev cl v ρ h).bind λw h=>(ev cl o ρ h).bind λx h=>(ev cl i ρ h).bind λy h=>match x,y with
  |.ref a,.int j=>(match h.get a with
   |some (.lst ws)=>(match L2.jd ws.length j with
    |some k=>.ok (.nx ρ) (h.set a (.lst (ws.set k w)))
    |none=>.no)
   |_=>oV ρ a j w h)
  |_,_=>.no
 |.ite c a b,ρ,h=>(ev cl c ρ h).bind λx h=>match x with
  |.bl true=>exs cl a ρ h
  |.bl false=>exs cl b ρ h
  |_=>.no
 |.ret e,ρ,h=>(ev cl e ρ h).bind λw h=>.ok (.rt w) h
 |.expr e,ρ,h=>(ev cl e ρ h).bind λ_ h=>.ok (.nx ρ) h
 |.brk,ρ,h=>.ok (.bk ρ) h
 |.cnt,ρ,h=>.ok (.ct ρ) h
 |.for k a t b,ρ,h=>(ev cl a ρ h).bind λx h=>dX (aW k x) (bw t) (exs cl b) fuel 0 ρ h
 |.yw c b,ρ,h=>dz (ev cl c) (exs cl b) fuel ρ h
 |.no,_,_=>.no
structure Fn where
 ps:Nat
 n:Nat
 body:S
noncomputable def leave(h:VH)(w:W)(h':VH):Res W:=
 if Nat.ble h.n h'.lo&&W.lt h.n w then .ok w h else .ok w ⟨h'.n,if Nat.ble h.lo h'.lo then h.lo else h'.lo,h'.os⟩
noncomputable def run(F:Nat->Option Fn):Nat->Call
 |0,_,_,_=>.no
 |k+1,f,ws,h=>match F f with
  |some fn=>if Nat.beq ws.length fn.ps then
   (exs (run F k) fn.body (ws.map aB++bI (fn.n-fn.ps) aC) ⟨h.n,h.n,h.os⟩).bind λfl h'=>match fl with|.nx _=>leave h .aP h'|.rt w=>leave h w h'|_=>.no
   else .no
  |none=>.no
open L2 PyProof.Rows PySem.Spec
noncomputable def Fz(K:aH)(H:Hp)(a:ah)(xs:List V):Prop:=
 (∃o,H a=aB (.bC o (.lst xs)))\/∃(o:Obj) (its:Array aa) (n:Nat),K.lookup a=aB o/\o.cls=.type "list"/\o.dict=aC/\o.data=.seq its n/\its.size<=sizeLine/\Vals xs its.toList
theorem Fz.sq{K:aH}{H:Hp}{a:ah}{xs:List V}(h:Fz K H a xs):cR K H a xs:=h.elim (λ⟨o,q⟩=>.inl (.inr ⟨o,q⟩)) .inr
mutual
inductive aI(K:aH)(m:Nat->ah)(n:Nat)(H:Hp):V->W->Prop
 |aP:aI K m n H .aP .aP
 |bl (b:Bool):aI K m n H (.bl b) (.bl b)
 |int (i:Int):aI K m n H (.int i) (.int i)
 |str (x:Str):aI K m n H (.str x) (.str x)
 |tup {a:ah} {vs:List V} {ws:List W}:cj K H a vs->aF K m n H vs ws->aI K m n H (.ref a) (.tup ws)
 |fz {a:ah} {vs:List V} {ws:List W}:Fz K H a vs->aF K m n H vs ws->aI K m n H (.ref a) (.fz ws)
 |ref {i:Nat}:i<n->aI K m n H (.ref (m i)) (.ref i)
inductive aF(K:aH)(m:Nat->ah)(n:Nat)(H:Hp):List V->List W->Prop
 |nil:aF K m n H [] []
 |cons {v:V} {w:W} {vs:List V} {ws:List W}:aI K m n H v w->aF K m n H vs ws->aF K m n H (v::vs) (w::ws)
end
inductive aK(K:aH)(m:Nat->ah)(n:Nat)(H:Hp):List (Key×V)->List (Key×W)->Prop
 |nil:aK K m n H [] []
 |cons {k:Key} {v:V} {w:W} {vs:List (Key×V)} {ws:List (Key×W)}:aI K m n H v w->aK K m n H vs ws->aK K m n H ((k,v)::vs) ((k,w)::ws)
noncomputable def fL(K:aH)(m:Nat->ah)(n:Nat)(H:Hp)(a:ah):VO->Prop|.lst ws=>∃vs,H a=aB (.lst vs)/\aF K m n H vs ws|.dk kvs=>∃kv,Rd H a (.dK kv)/\aK K m n H kv kvs|.dm kvs=>∃kv,H a=aB (.dK kv)/\aK K m n H kv kvs
structure Rel(K:aH)(m:Nat->ah)(h:VH)(H:Hp):Prop where
 obj:∀i,i<h.n->∃o,h.get i=aB o/\fL K m h.n H (m i) o
 inj:∀i j,i<h.n->j<h.n->m i=m j->i=j
 len:h.os.length=h.n
structure bO(m:Nat->ah)(n:Nat)(H:Hp)(m':Nat->ah)(n':Nat)(H':Hp):Prop where
 le:n<=n'
 same:∀i,i<n->m' i=m i
 new:∀i,n<=i->i<n'->H (m' i)=aC
 apart:∀i j,n<=i->i<n'->j<n->m' i≠m' j
 tup:∀b vs,H b=aB (.tup vs)->H' b=aB (.tup vs)
 bC:∀b o u,H b=aB (.bC o u)->H' b=aB (.bC o u)
 keep:∀b o,(∀i,i<n->m i≠b)->H b=aB o->H' b=aB o
section
variable{K:aH}{m m' m1 m2:Nat->ah}{n n' n1 n2:Nat}{h h':VH}{H H' H1 H2:Hp}
theorem bO.refl:bO m n H m n H:=⟨aZ _,λ_ _=>rfl,λi a b=>absurd b (jH.mpr a),λi j a b=>absurd b (jH.mpr a),λ_ _ q=>q,λ_ _ _ q=>q,λ_ _ _ q=>q⟩
theorem bO.trans(a:bO m n H m1 n1 H1)(b:bO m1 n1 H1 m2 n2 H2):bO m n H m2 n2 H2 where
 le:=gJ a.le b.le
 same:=λi hi=>(b.same i (di hi a.le)).trans (a.same i hi)
 new:=λi hi hi2=>by
  by_cases hc:i<n1;rw[b.same i hc];exact a.new i hi hc;have hc:=jH.mp hc;cases q:H (m2 i)with
  |none=>rfl
  |some o=>
   have q1:H1 (m2 i)=aC:=b.new i hc hi2;rw[a.keep _ o (λj hj z=>b.apart i j hc hi2 (di hj a.le) ((b.same j (di hj a.le)).trans ((a.same j hj).trans z)).symm) q]at q1;cases q1
 apart:=λi j hi hi2 hj=>by
  by_cases hc:i<n1;rw[b.same i hc,b.same j (di hj a.le)];exact a.apart i j hi hc hj;exact b.apart i j (jH.mp hc) hi2 (di hj a.le)
 tup:=λc vs q=>b.tup c vs (a.tup c vs q)
 bC:=λc o u q=>b.bC c o u (a.bC c o u q)
 keep:=λc o hc q=>b.keep c o (λi hi=>by
  by_cases hl:i<n;rw[a.same i hl];exact hc i hl;intro z;have:=a.new i (jH.mp hl) hi;rw[z,q]at this;cases this) (a.keep c o hc q)
theorem bO.Vw{a:ah}{vs:List V}(s:bO m n H m' n' H')(q:cj K H a vs):cj K H' a vs:=by rcases q with(q|⟨o,q⟩)|q;exact .inl (.inl (s.tup _ _ q));exact .inl (.inr ⟨o,s.bC _ _ _ q⟩);exact .inr q
theorem bO.fz{a:ah}{vs:List V}(s:bO m n H m' n' H')(q:Fz K H a vs):Fz K H' a vs:=by rcases q with⟨o,q⟩|q;exact .inl ⟨o,s.bC _ _ _ q⟩;exact .inr q
mutual
theorem aI.stp(s:bO m n H m' n' H'):∀{v:V} {w:W},aI K m n H v w->aI K m' n' H' v w|_,_,.aP=>.aP|_,_,.bl b=>.bl b|_,_,.int b=>.int b|_,_,.str b=>.str b|_,_,.tup q r=>.tup (s.Vw q) (aF.stp s r)|_,_,.fz q r=>.fz (s.fz q) (aF.stp s r)|_,_,.ref (i:=i) q=>by rw[<-s.same i q];exact .ref (di q s.le)
theorem aF.stp(s:bO m n H m' n' H'):∀{vs:List V} {ws:List W},aF K m n H vs ws->aF K m' n' H' vs ws|_,_,.nil=>.nil|_,_,.cons q r=>.cons (aI.stp s q) (aF.stp s r)
end
theorem aK.stp(s:bO m n H m' n' H'):∀{vs:List (Key×V)} {ws:List (Key×W)},aK K m n H vs ws->aK K m' n' H' vs ws|_,_,.nil=>.nil|_,_,.cons q r=>.cons (q.stp s) (aK.stp s r)
theorem aF.length:∀{vs:List V} {ws:List W},aF K m n H vs ws->vs.length=ws.length|_,_,.nil=>rfl|_,_,.cons _ r=>by rw[cG,cG,aF.length r]
theorem aF.get:∀{vs:List V} {ws:List W} {i:Nat} {w:W},aF K m n H vs ws->ws[i]?=aB w->∃v,vs[i]?=aB v/\aI K m n H v w
 |_,_,_,_,.nil,e=>by simp at e
 |_,_,0,_,.cons q _,e=>by simp at e;subst e;exact⟨_,rfl,q⟩
 |_,_,i+1,w,.cons _ r,e=>by
  obtain⟨v,h1,h2⟩:=aF.get (i:=i) (w:=w) r (by simpa using e);exact⟨v,by simpa using h1,h2⟩
theorem aF.append:∀{vs us:List V} {ws zs:List W},aF K m n H vs ws->aF K m n H us zs->aF K m n H (vs++us) (ws++zs)|_,_,_,_,.nil,r=>r|_,_,_,_,.cons q r,t=>.cons q (aF.append r t)
theorem aF.drop:∀(k:Nat) {vs:List V} {ws:List W},aF K m n H vs ws->aF K m n H (vs.drop k) (ws.drop k)|0,_,_,r=>r|_+1,_,_,.nil=>.nil|k+1,_,_,.cons _ r=>aF.drop k r
theorem aF.take:∀(k:Nat) {vs:List V} {ws:List W},aF K m n H vs ws->aF K m n H (vs.take k) (ws.take k)|0,_,_,r=>.nil|_+1,_,_,.nil=>.nil|k+1,_,_,.cons q r=>.cons q (aF.take k r)
theorem aF.set{v:V}{w:W}(q:aI K m n H v w):∀(k:Nat) {vs:List V} {ws:List W},aF K m n H vs ws->aF K m n H (vs.set k v) (ws.set k w)|_,_,_,.nil=>.nil|0,_,_,.cons _ r=>.cons q r|k+1,_,_,.cons p r=>.cons p (aF.set q k r)
theorem fL.stp{a:ah}{o:VO}(s:bO m n H m' n' H')(e:H' a=H a)(q:fL K m n H a o):fL K m' n' H' a o:=by
 cases o with|lst ws=>obtain⟨vs,h1,h2⟩:=q;exact⟨vs,e.trans h1,h2.stp s⟩|dk ws=>obtain⟨vs,h1,h2⟩:=q;exact⟨vs,h1.imp (λz=>e.trans z) λ⟨o,z⟩=>⟨o,e.trans z⟩,h2.stp s⟩|dm ws=>obtain⟨vs,h1,h2⟩:=q;exact⟨vs,e.trans h1,h2.stp s⟩
theorem fL.some{a:ah}{o:VO}(q:fL K m n H a o):∃u,H a=aB u:=by
 cases o with
 |lst ws=>obtain⟨vs,h1,h2⟩:=q;exact⟨_,h1⟩
 |dk ws=>
  obtain⟨vs,h1,h2⟩:=q;rcases h1 with h1|⟨o,h1⟩<;>exact⟨_,h1⟩
 |dm ws=>obtain⟨vs,h1,h2⟩:=q;exact⟨_,h1⟩
theorem iC{i j:Nat}:Nat.blt i j=true↔i<j:=by unfold Nat.blt;rw[qS];exact Iff.rfl
theorem bU{i:Nat}{o:VO}(q:h.get i=aB o):i<h.n:=by unfold VH.get at q;split at q;rename_i z;exact iC.mp z;cases q
theorem Rel.at_(r:Rel K m h H){i:Nat}{o:VO}(q:h.get i=aB o):fL K m h.n H (m i) o:=by obtain⟨o',h1,h2⟩:=r.obj i (bU q);rw[q]at h1;cases h1;exact h2
theorem Rel.lst(r:Rel K m h H){i:Nat}{ws:List W}(q:h.get i=aB (.lst ws)):∃vs,H (m i)=aB (.lst vs)/\aF K m h.n H vs ws:=r.at_ q
theorem Rel.dk(r:Rel K m h H){i:Nat}{ws:List (Key×W)}(q:h.get i=aB (.dk ws)):∃vs,Rd H (m i) (.dK vs)/\aK K m h.n H vs ws:=r.at_ q
theorem Rel.dm(r:Rel K m h H){i:Nat}{ws:List (Key×W)}(q:h.get i=aB (.dm ws)):∃vs,H (m i)=aB (.dK vs)/\aK K m h.n H vs ws:=r.at_ q
theorem iD{i:Nat}{o:VO}(hi:i<h.n):(h.new o).get i=h.get i:=by
 unfold VH.get VH.new;have h1:Nat.blt i (h.n+1)=true:=iC.mpr (ve hi);have h2:Nat.blt i h.n=true:=iC.mpr hi;simp only[h1,h2,bY];have:h.n+1-1-i=(h.n-1-i)+1:=by lia
 rw[this];rfl
theorem dU{o:VO}:(h.new o).get h.n=aB o:=by
 unfold VH.get VH.new;have h1:Nat.blt h.n (h.n+1)=true:=iC.mpr (fY _);simp only[h1,bY];have:h.n+1-1-h.n=0:=by lia
 rw[this];rfl
theorem Rel.alloc(r:Rel K m h H){p:ah}{o:VO}{u:HO}(hp:H p=aC)(hu:∀t,u≠.tup t)
 (ho:bO m h.n H (λi=>if i=h.n then p else m i) (h.n+1) (upd H p u)->fL K (λi=>if i=h.n then p else m i) (h.n+1) (upd H p u) p o) :
 bO m h.n H (λi=>if i=h.n then p else m i) (h.n+1) (upd H p u)/\Rel K (λi=>if i=h.n then p else m i) (h.new o) (upd H p u):=by
 have tr:∀i,i<h.n->m i≠p:=λi hi z=>by
  obtain⟨o',_,h2⟩:=r.obj i hi;obtain⟨u',h3⟩:=h2.some;rw[z,hp]at h3;cases h3
 have st:bO m h.n H (λi=>if i=h.n then p else m i) (h.n+1) (upd H p u):=by
  refine⟨p9 _,λi hi=>by simp only[if_neg (gh hi)],λi hi hi2=>?_,λi j hi hi2 hj=>?_,λb vs q=>?_,λb o u q=>?_,λb o _ q=>?_⟩;have:i=h.n:=by lia
  subst this;simp only[bY];exact hp;have:i=h.n:=by lia
  subst this;simp only[bY,if_neg (gh hj)];exact(tr j hj).symm;rw[bP (iJ q hp)];exact q;rw[bP (iJ q hp)];exact q;rw[bP (iJ q hp)];exact q
 refine⟨st,⟨λi hi=>?_,λi j hi hj z=>?_,?_⟩⟩;have hi:i<h.n+1:=hi;by_cases e:i=h.n;subst e;exact⟨o,dU,by simp only[bY];exact ho st⟩;have hl:i<h.n:=by lia
 obtain⟨o',h1,h2⟩:=r.obj i hl;refine⟨o',(iD hl).trans h1,?_⟩;simp only[if_neg e];exact fL.stp st (bP (tr i hl)) h2;have hi:i<h.n+1:=hi;have hj:j<h.n+1:=hj;by_cases e:i=h.n;by_cases e2:j=h.n;lia;simp only[if_pos e,if_neg e2]at z;exact absurd z.symm (tr j (by lia));by_cases e2:j=h.n;simp only[if_neg e,if_pos e2]at z;exact absurd z (tr i (by lia));simp only[if_neg e,if_neg e2]at z;exact r.inj i j (by lia) (by lia) z;show(o::h.os).length=h.n+1;rw[cG,r.len]
theorem Vx(r:Rel K m h H){i:Nat}{o:VO}(hi:i<h.n):(h.set i o).get i=aB o:=by unfold VH.get VH.set;have h1:Nat.blt i h.n=true:=iC.mpr hi;simp only[h1,bY];rw[xP];rw[r.len];lia
theorem nZ{i j:Nat}{o:VO}(hi:i<h.n)(hj:j≠i):(h.set i o).get j=h.get j:=by
 unfold VH.get VH.set;by_cases h1:j<h.n;have h2:Nat.blt j h.n=true:=iC.mpr h1;simp only[h2,bY];rw[zd];lia;have h2:Nat.blt j h.n=false:=by
  cases q:Nat.blt j h.n with|false=>rfl|true=>exact absurd (iC.mp q) h1
 simp only[h2,fF,eG]
theorem Rel.write(r:Rel K m h H){i:Nat}{o:VO}{u u0:HO}(hi:i<h.n)(h0:H (m i)=aB u0)(hn:∀t,u0≠.tup t)(hf:∀o t,u0≠.bC o t)
 (ho:bO m h.n H m h.n (upd H (m i) u)->fL K m h.n (upd H (m i) u) (m i) o) :
 bO m h.n H m h.n (upd H (m i) u)/\Rel K m (h.set i o) (upd H (m i) u):=by
 have st:bO m h.n H m h.n (upd H (m i) u):=by refine⟨aZ _,λ_ _=>rfl,λj a b=>absurd b (jH.mpr a),λj k a b=>absurd b (jH.mpr a),λb vs q=>?_,λb o t q=>?_,λb o nb q=>?_⟩;rw[bP (bZ q h0 (λz=>hn vs z.symm))];exact q;rw[bP (bZ q h0 (λz=>hf o t z.symm))];exact q;rw[bP (nb i hi).symm];exact q
 refine⟨st,⟨λj hj=>?_,λa b ha hb=>r.inj a b ha hb,?_⟩⟩;have hj:j<h.n:=hj;by_cases e:j=i;subst e;exact⟨o,Vx r hj,ho st⟩;obtain⟨o',h1,h2⟩:=r.obj j hj;exact⟨o',(nZ hi e).trans h1,fL.stp st (bP λz=>e (r.inj j i hj hi z)) h2⟩;show(h.os.set _ o).length=h.n;rw[xT,r.len]
theorem Rel.more(r:Rel K m h H){p:ah}{u:HO}(hp:H p=aC):bO m h.n H m h.n (upd H p u)/\Rel K m h (upd H p u):=by
 have st:bO m h.n H m h.n (upd H p u):=by refine⟨aZ _,λ_ _=>rfl,λj a b=>absurd b (jH.mpr a),λj k a b=>absurd b (jH.mpr a),λb vs q=>?_,λb o t q=>?_,λb o nb q=>?_⟩;rw[bP (iJ q hp)];exact q;rw[bP (iJ q hp)];exact q;rw[bP (iJ q hp)];exact q
 refine⟨st,⟨λj hj=>?_,r.inj,r.len⟩⟩;obtain⟨o',h1,h2⟩:=r.obj j hj;obtain⟨u',h3⟩:=h2.some;exact⟨o',h1,fL.stp st (bP (iJ h3 hp)) h2⟩
end
theorem NU{α β:Type}{r:Res α}{f:α->VH->Res β}{b:β}{h':VH}(q:r.bind f=.ok b h'):∃a h1,r=.ok a h1/\f a h1=.ok b h':=by
 cases r with|ok a h=>exact⟨a,h,rfl,q⟩|ex x h=>cases q|no=>cases q
theorem bF{α β:Type}{r:Res α}{f:α->VH->Res β}{w:β}{h':VH}{P:Prop}(e:r.bind f=.ok w h')(k:∀x h1,r=.ok x h1->f x h1=.ok w h'->P):P:=by obtain⟨x,h1,a,b⟩:=NU e;exact k x h1 a b
theorem of_ok{α:Type}{o:Option α}{h h':VH}{a:α}(q:Res.of o h=.ok a h'):o=aB a/\h'=h:=by
 cases o with|none=>cases q|some b=>cases q;exact⟨rfl,rfl⟩
structure Fr(K:aH)(m:Nat->ah)(n:Nat)(H:Hp)(σ:L2.St)(ρ:En):Prop where
 len:σ.length=ρ.length
 val:∀(i:Nat)(w:W),ρ[i]?=aB (aB w)->∃v,σ[i]?=aB (aB v)/\aI K m n H v w
noncomputable abbrev FE:=En->VH->Res W
noncomputable abbrev FS:=En->VH->Res Fl
noncomputable def eF(K:aH)(f:FE):TE:=λσ H Q=>∃ρ h m w h',Fr K m h.n H σ ρ/\Rel K m h H/\f ρ h=.ok w h'/\
 ∀v H' m',bO m h.n H m' h'.n H'->Rel K m' h' H'->aI K m' h'.n H' v w->Q v H'
noncomputable def cP(K:aH)(f:FE):TT:=λσ H Q=>∃ρ h m b h',Fr K m h.n H σ ρ/\Rel K m h H/\f ρ h=.ok (.bl b) h'/\
 ∀H' m',bO m h.n H m' h'.n H'->Rel K m' h' H'->Q b H'
noncomputable def nC(K:aH)(f:FE):TA:=λσ H Q=>∃ρ h m ws h',Fr K m h.n H σ ρ/\Rel K m h H/\f ρ h=.ok (.tup ws) h'/\
 ∀vs H' m',bO m h.n H m' h'.n H'->Rel K m' h' H'->aF K m' h'.n H' vs ws->Q vs H'
section
variable{K:aH}{m:Nat->ah}{σ:L2.St}{H:Hp}{P:Prop}{fa:FE}{ρ:En}{h h':VH}
theorem eF.el{Q:VK}(q:eF K fa σ H Q)(k:∀ρ h m w h',Fr K m h.n H σ ρ->Rel K m h H->fa ρ h=.ok w h'->(∀v H' m',bO m h.n H m' h'.n H'->Rel K m' h' H'->aI K m' h'.n H' v w->Q v H')->P):P:=by obtain⟨ρ,h,m,w,h',f,r,e,k'⟩:=q;exact k ρ h m w h' f r e k'
theorem eF.mk{Q:VK}{w:W}(f:Fr K m h.n H σ ρ)(r:Rel K m h H)(e:fa ρ h=.ok w h')(k:∀v H' m',bO m h.n H m' h'.n H'->Rel K m' h' H'->aI K m' h'.n H' v w->Q v H'):eF K fa σ H Q:=⟨ρ,h,m,w,h',f,r,e,k⟩
theorem cP.el{Q:Bool->Hp->Prop}(q:cP K fa σ H Q)(k:∀ρ h m b h',Fr K m h.n H σ ρ->Rel K m h H->fa ρ h=.ok (.bl b) h'->(∀H' m',bO m h.n H m' h'.n H'->Rel K m' h' H'->Q b H')->P):P:=by obtain⟨ρ,h,m,w,h',f,r,e,k'⟩:=q;exact k ρ h m w h' f r e k'
theorem cP.mk{Q:Bool->Hp->Prop}{b:Bool}(f:Fr K m h.n H σ ρ)(r:Rel K m h H)(e:fa ρ h=.ok (.bl b) h')(k:∀H' m',bO m h.n H m' h'.n H'->Rel K m' h' H'->Q b H'):cP K fa σ H Q:=⟨ρ,h,m,b,h',f,r,e,k⟩
theorem nC.el{Q:List V->Hp->Prop}(q:nC K fa σ H Q)(k:∀ρ h m ws h',Fr K m h.n H σ ρ->Rel K m h H->fa ρ h=.ok (.tup ws) h'->(∀vs H' m',bO m h.n H m' h'.n H'->Rel K m' h' H'->aF K m' h'.n H' vs ws->Q vs H')->P):P:=by obtain⟨ρ,h,m,w,h',f,r,e,k'⟩:=q;exact k ρ h m w h' f r e k'
theorem nC.mk{Q:List V->Hp->Prop}{ws:List W}(f:Fr K m h.n H σ ρ)(r:Rel K m h H)(e:fa ρ h=.ok (.tup ws) h')(k:∀vs H' m',bO m h.n H m' h'.n H'->Rel K m' h' H'->aF K m' h'.n H' vs ws->Q vs H'):nC K fa σ H Q:=⟨ρ,h,m,ws,h',f,r,e,k⟩
end
noncomputable abbrev SE(X:Cx)(e:ao)(f:FE):Prop:=PE X e (eF X.K f)
noncomputable abbrev ST(X:Cx)(e:ao)(f:FE):Prop:=PT X e (cP X.K f)
noncomputable abbrev SW(X:Cx)(e:ao)(f:FE):Prop:=PW X e (cP X.K f)
noncomputable abbrev SA(X:Cx)(es:List ao)(f:FE):Prop:=PA X es (nC X.K f)
theorem _root_.L2.PE.imp{X:Cx}{e:ao}{t t':TE}(h:PE X e t)(k:∀σ H Q,t' σ H Q->t σ H Q):PE X e t':=λpins s σ H Q I q=>h pins s σ H Q I (k σ H Q q)
theorem _root_.L2.PT.imp{X:Cx}{e:ao}{t t':TT}(h:PT X e t)(k:∀σ H Q,t' σ H Q->t σ H Q):PT X e t':=λpins s σ H Q I q=>h pins s σ H Q I (k σ H Q q)
theorem _root_.L2.PW.imp{X:Cx}{e:ao}{t t':TT}(h:PW X e t)(k:∀σ H Q,t' σ H Q->t σ H Q):PW X e t':=λwh pins s σ H Q I q=>h wh pins s σ H Q I (k σ H Q q)
theorem _root_.L2.PA.imp{X:Cx}{es:List ao}{t t':TA}(h:PA X es t)(k:∀σ H Q,t' σ H Q->t σ H Q):PA X es t':=λp pins s σ H Q I q=>h p pins s σ H Q I (k σ H Q q)
theorem _root_.L2.PS.imp{X:Cx}{st:aq}{t t':TS}(h:PS X st t)(k:∀D σ H,t' D σ H->t D σ H):PS X st t':=λpins s σ H D I q=>h pins s σ H D I (k D σ H q)
theorem _root_.L2.k6.imp{X:Cx}{st:List aq}{t t':TS}(h:k6 X st t)(k:∀D σ H,t' D σ H->t D σ H):k6 X st t':=λpins s σ H D I q=>h pins s σ H D I (k D σ H q)
section
variable{K:aH}{m m':Nat->ah}{n n':Nat}{h h':VH}{H H':Hp}{σ:L2.St}{ρ:En}
theorem Fr.stp(f:Fr K m n H σ ρ)(s:bO m n H m' n' H'):Fr K m' n' H' σ ρ:=⟨f.len,λi w e=>let⟨v,h1,h2⟩:=f.val i w e;⟨v,h1,h2.stp s⟩⟩
theorem Fr.set(f:Fr K m n H σ ρ){v:V}{w:W}(q:aI K m n H v w)(i:Nat):Fr K m n H (σ.set i (aB v)) (ρ.set i (aB w)):=by refine⟨by rw[xT,xT];exact f.len,λj w' e=>?_⟩;by_cases hj:i=j;subst hj;by_cases hl:i<ρ.length;rw[xP hl]at e;cases e;exact⟨v,by rw[xP (by rw[f.len];exact hl)],q⟩;rw[iL (by rw[xT];lia)]at e;cases e;rw[zd hj]at e;obtain⟨v',h1,h2⟩:=f.val j w' e;exact⟨v',by rw[zd hj];exact h1,h2⟩
noncomputable def aL(K:aH)(m:Nat->ah)(n:Nat)(H:Hp)(w:W)(h':VH)(Q:VK):Prop:=∀v H' m',bO m n H m' h'.n H'->Rel K m' h' H'->aI K m' h'.n H' v w->Q v H'
theorem aL.here{w:W}{Q:VK}(k:aL K m h.n H w h Q)(r:Rel K m h H){v:V}(q:aI K m h.n H v w):Q v H:=k v H m .refl r q
theorem aL.list{ws:List W}{vs:List V}{Q:VK}(k:aL K m h.n H (.ref h.n) (h.new (.lst ws)) Q)(r:Rel K m h H)(q:aF K m h.n H vs ws){p:ah}(hp:H p=aC):Q (.ref p) (upd H p (.lst vs)):=by obtain⟨st,r'⟩:=r.alloc (o:=.lst ws) (u:=.lst vs) hp (λ_ z=>nomatch z) (λst=>⟨vs,fG,q.stp st⟩);refine k _ _ _ st r' ?_;have:aI K (λi=>if i=h.n then p else m i) (h.n+1) (upd H p (.lst vs)) (.ref ((λi=>if i=h.n then p else m i) h.n)) (.ref h.n):=.ref (fY _);simp only[bY]at this;exact this
theorem aL.tuple{ws:List W}{vs:List V}{Q:VK}(k:aL K m h.n H (.tup ws) h Q)(r:Rel K m h H)(q:aF K m h.n H vs ws){p:ah}(hp:H p=aC):Q (.ref p) (upd H p (.tup vs)):=by obtain⟨st,r'⟩:=r.more (u:=.tup vs) hp;exact k _ _ _ st r' (.tup (cj.of fG) (q.stp st))
theorem NV{fa:FE}{g:W->VH->Res W}{G:V->Hp->VK->Prop}
 (hG:∀(m:Nat->ah)(h:VH)(H:Hp)(v:V)(x w:W)(h':VH)(Q:VK),Rel K m h H->aI K m h.n H v x->g x h=.ok w h'->aL K m h.n H w h' Q->G v H Q) {Q:VK}
 (q:eF K (λρ h=>(fa ρ h).bind λx h=>g x h) σ H Q):eF K fa σ H λv H1=>G v H1 Q:=by
 refine q.el λρ h m w h' f r e k=>?_;refine bF e λx h1 e1 e2=>?_;exact(.mk f r e1 λv H1 m1 s1 r1 q1=>hG m1 h1 H1 v x w h' Q r1 q1 e2 λv' H' m' s' r' q'=>k v' H' m' (s1.trans s') r' q')
theorem Em{fa fb:FE}{g:W->W->VH->Res W}{G:V->V->Hp->VK->Prop}
 (hG:∀(m:Nat->ah)(h:VH)(H:Hp)(v u:V)(x y w:W)(h':VH)(Q:VK),Rel K m h H->aI K m h.n H v x->aI K m h.n H u y->g x y h=.ok w h'->aL K m h.n H w h' Q->G v u H Q) {Q:VK}
 (q:eF K (λρ h=>(fa ρ h).bind λx h=>(fb ρ h).bind λy h=>g x y h) σ H Q):eF K fa σ H λv H1=>eF K fb σ H1 λu H2=>G v u H2 Q:=by
 refine q.el λρ h m w h' f r e k=>?_;refine bF e λx h1 e1 e2=>?_;refine bF e2 λy h2 e3 e4=>?_;refine(.mk f r e1 λv H1 m1 s1 r1 q1=>(.mk (f.stp s1) r1 e3 λu H2 m2 s2 r2 q2=>?_));exact hG m2 h2 H2 v u x y w h' Q r2 (q1.stp s2) q2 e4 λv' H' m' s' r' q'=>k v' H' m' ((s1.trans s2).trans s') r' q'
theorem yx{fa:FE}{g:List W->VH->Res W}{G:List V->Hp->VK->Prop}
 (hG:∀(m:Nat->ah)(h:VH)(H:Hp)(vs:List V)(xs:List W)(w:W)(h':VH)(Q:VK),Rel K m h H->aF K m h.n H vs xs->g xs h=.ok w h'->aL K m h.n H w h' Q->G vs H Q) {Q:VK}
 (q:eF K (λρ h=>(fa ρ h).bind λy h=>match y with|.tup ys=>g ys h|_=>.no) σ H Q):nC K fa σ H λvs H1=>G vs H1 Q:=by
 refine q.el λρ h m w h' f r e k=>?_;refine bF e λx h1 e1 e2=>?_;cases x with|tup ys=>exact(.mk f r e1 λvs H1 m1 s1 r1 q1=>hG m1 h1 H1 vs ys w h' Q r1 q1 e2 λv' H' m' s' r' q'=>k v' H' m' (s1.trans s') r' q')|_=>cases e2
theorem NW{f:FE}{Q:Bool->Hp->Prop}(q:cP K f σ H Q):eF K f σ H λx H'=>∃k,x=.bl k/\Q k H':=by refine q.el λρ h m b h' f r e k=>?_;exact(.mk f r e λv H' m' s' r' q'=>by cases q';exact⟨b,rfl,k H' m' s' r'⟩)
end
section
variable{X:Cx}{a b c e:ao}{es:List ao}{fa fb fc:FE}{pos:Pos}
theorem Vy{i:Nat}{x:Str}{pos:Pos}(hN:X.N[i]?=aB x)(hv:yh X.env.scope x)(hd:(x==("__debug__" : Str))=false)(hcd:(x==("__classdict__" : Str))=false):SE X (.Name x pos) (λρ h=>.of (ρ[i]?).join h):=
 (Rw hN hv hd hcd).imp λσ H Q z9=>z9.el λρ h m w h' f r e k=>by
   obtain⟨e1,e2⟩:=of_ok e;subst e2;have e3:ρ[i]?=aB (aB w):=by
    cases q:ρ[i]? with|none=>rw[q]at e1;cases e1|some o=>rw[q]at e1;rw[<-e1];rfl
   obtain⟨v,h1,h2⟩:=f.val i w e3;exact⟨v,h1,k v H m .refl r h2⟩
theorem A1{w:W}{v:V}(h:PE X e (tC v))(hv:∀m n H,aI X.K m n H v w):SE X e (λ_ h=>.ok w h):=
 h.imp λσ H Q z9=>z9.el λρ h m w h' f r e k=>by cases e;exact k v H m .refl r (hv m h.n H)
theorem Vz{i j pos}:SE X (.Constant (.int i) j pos) (λ_ h=>.ok (.int i) h):=A1 Rx λ_ _ _=>.int i
theorem A2{i j pos}:SE X (.Constant (.bool i) j pos) (λ_ h=>.ok (.bl i) h):=A1 zC λ_ _ _=>.bl i
theorem VA{j pos}:SE X (.Constant .none j pos) (λ_ h=>.ok .aP h):=A1 Ry λ_ _ _=>.aP
theorem VB{i j pos}:SE X (.Constant (.str i) j pos) (λ_ h=>.ok (.str i) h):=A1 Rz λ_ _ _=>.str i
theorem Eo:SA X [] (λ_ h=>.ok (.tup []) h):=Ab.imp λσ H Q z9=>z9.el λρ h m ws h' f r e k=>by cases e;exact k [] H m .refl r .nil
theorem yy(ha:SE X e fa)(hr:SA X es fb)(hs:starEach (e::es) X.env=(false,eval e X.env)::starEach es X.env) :
 SA X (e::es) (λρ h=>(fa ρ h).bind λx h=>(fb ρ h).bind λy h=>match y with|.tup ys=>.ok (.tup (x::ys)) h|_=>.no):=
 (yo ha hr hs).imp λσ H Q z9=>z9.el λρ h m ws h' f r e k=>by
   refine bF e λx h1 e1 e2=>?_;refine bF e2 λy h2 e3 e4=>?_;cases y with
   |tup ys=>
    cases e4;exact(.mk f r e1 λv H1 m1 s1 r1 q1=>(.mk (f.stp s1) r1 e3 λvs H2 m2 s2 r2 q2=>k _ H2 m2 (s1.trans s2) r2 (.cons (q1.stp s2) q2)))
   |_=>cases e4
theorem NX{k:Nat}(h:Nat.ble k 1000):k<=sizeLine:=tM (M3 (lu h))
theorem VC{x1:Nat}(ha:SA X es fa):SE X (.Tuple es x1 pos) (λρ h=>(fa ρ h).bind λy h=>match y with|.tup ys=>(if Nat.ble ys.length 1000 then .ok (.tup ys) h else .no)|_=>.no):=
 (SV ha).imp λσ H Q q=>yx (g:=λys h=>if Nat.ble ys.length 1000 then .ok (.tup ys) h else .no) (G:=λxs H1 Q=>xs.length<=sizeLine/\∀p,H1 p=aC->Q (.ref p) (upd H1 p (.tup xs)))
   (λm h H vs xs w h' Q r q e k=>by
     split at e;rename_i hl;cases e;exact⟨by rw[q.length];exact NX hl,λp hp=>aL.tuple k r q hp⟩;cases e) q
theorem VD(ha:SA X es fa):SE X (.List es pos) (λρ h=>(fa ρ h).bind λy h=>match y with|.tup ys=>(if Nat.ble ys.length 1000 then .ok (.ref h.n) (h.new (.lst ys))else .no)|_=>.no):=
 (SX ha).imp λσ H Q q=>yx (g:=λys h=>if Nat.ble ys.length 1000 then .ok (.ref h.n) (h.new (.lst ys))else .no) (G:=λxs H1 Q=>xs.length<=sizeLine/\∀p,H1 p=aC->Q (.ref p) (upd H1 p (.lst xs)))
   (λm h H vs xs w h' Q r q e k=>by
     split at e;rename_i hl;cases e;exact⟨by rw[q.length];exact NX hl,λp hp=>aL.list k r q hp⟩;cases e) q
noncomputable def A3(K:aH)(r:R2)(g:W->W->VH->Res W):Prop:=∀(m:Nat->ah) (h:VH) (H:Hp) (v u:V) (x y w:W) (h':VH) (Q:VK),Rel K m h H->aI K m h.n H v x->aI K m h.n H u y->g x y h=.ok w h'->aL K m h.n H w h' Q->r v u H Q
theorem A4{O:Operator}{r:R2}{g:W->W->VH->Res W}(ho:dG X (binaryOp O) r)(hg:A3 X.K r g)(ha:SE X a fa)(hb:SE X b fb):SE X (.BinOp a O b pos) (λρ h=>(fa ρ h).bind λx h=>(fb ρ h).bind λy h=>g x y h):=
 (zS ho ha hb).imp λσ H Q q=>Em (G:=r) hg q
noncomputable def A5:Operator->Option Op|.Add=>aB .add|.Sub=>aB .sub|.Mult=>aB .mul|.FloorDiv=>aB .fdiv|.Mod=>aB .mod|.Pow=>aB .pow|_=>aC
noncomputable def cI:Op->Int->Int->Prop|.mul=>mZ|.fdiv=>rm|.mod=>λ_ j=>0<j|.shl=>vB|.pow=>vB|_=>λ_ _=>True
noncomputable def gI:Op->Int->Int->Int|.add=>(· + ·)|.sub=>(· - ·)|.mul=>(· * ·)|.fdiv=>(· / ·)|.mod=>(· % ·)|.shl=>λi j=>i*2 ^ j.toNat|.pow=>λi j=>i ^ j.toNat
noncomputable def rX(K:aH):Op->R2|.add=>λx y H Q=>l5 K x y H Q\/Nt K x y H Q\/Am x y H Q|.mul=>λx y H Q=>t7 K x y H Q|_=>λ_ _ _ _=>False
noncomputable def rB(K:aH)(o:Op):R2:=λx y H Q=>rI (cI o) (λi j=>.int (gI o i j)) x y H Q\/rX K o x y H Q
theorem yz{f:aa->aa->Sem aa}{r r':R2}(h:dG X f r)(k:∀x y H Q,r' x y H Q->r x y H Q):dG X f r':=λpins s σ H x y v u Q I rx ry q=>h pins s σ H x y v u Q I rx ry (k _ _ _ _ q)
theorem A6{O:Operator}{o:Op}(e:A5 O=aB o):dG X (binaryOp O) (rB X.K o):=by
 have tr:∀{g:Int->Int->V}{x y H Q},rI (λ_ _=>True) g x y H Q->mY g x y H Q:=λ⟨i,j,h1,h2,_,h3⟩=>⟨i,j,h1,h2,h3⟩
 cases O<;>cases e;exact yz (Si.or (Td.or (UC.or Tz))) λx y H Q q=>q.elim (λz=>.inl (tr z)) .inr;exact yz Sj λx y H Q q=>q.elim (λz=>tr z) λz=>z.elim;exact yz (Sk.or UB) λx y H Q q=>q;exact yz Sm λx y H Q q=>q.elim id λz=>z.elim;exact yz Sn λx y H Q q=>q.elim id λz=>z.elim;exact yz Sl λx y H Q q=>q.elim id λz=>z.elim
theorem NY{i:Int}(h:kE i):-(2 ^ 64)<i/\i<2 ^ 64:=by unfold kE at h;rw[bJ]at h;exact⟨kX h.1,kX h.2⟩
theorem HF{o:Op}{i j z:Int}(e:gE o i j=aB z):cI o i j/\z=gI o i j:=by cases o<;>simp only[gE]at e;cases e;exact⟨trivial,rfl⟩;cases e;exact⟨trivial,rfl⟩;split at e;rename_i hc;cases e;rw[p5]at hc;exact⟨hc.elim (λq=>.inl (NY q)) (λq=>.inr (NY q)),rfl⟩;cases e;split at e;rename_i hc;cases e;rw[bJ]at hc;exact⟨⟨kX hc.1,kX hc.2⟩,rfl⟩;cases e;split at e;rename_i hc;cases e;exact⟨(kX hc:0<j),rfl⟩;cases e;split at e;rename_i hc;cases e;rw[bJ,bJ]at hc;exact⟨⟨kX hc.1.1,kX hc.1.2,kX hc.2⟩,rfl⟩;cases e;split at e;rename_i hc;cases e;rw[bJ,bJ]at hc;exact⟨⟨kX hc.1.1,kX hc.1.2,kX hc.2⟩,rfl⟩;cases e
theorem vW{i:Int}(h:fits i):-(2 ^ 62)<=i/\i<2 ^ 62:=by unfold fits at h;rw[bJ]at h;exact⟨kX h.1,kX h.2⟩
theorem VE{o:Op}{xs zs:List W}{k:Int}(e:rL o xs k=aB zs):o=.mul/\(-(2 ^ 62)<=k/\k<2 ^ 62)/\xs.length*k.toNat<=sizeLine/\zs=(bI k.toNat xs).flatten:=by unfold rL at e;split at e;split at e;rename_i hc;cases e;rw[bJ]at hc;exact⟨rfl,vW hc.1,lu hc.2,rfl⟩;cases e;cases e
theorem aF.rep{K:aH}{m:Nat->ah}{n:Nat}{H:Hp}{vs:List V}{ws:List W}(q:aF K m n H vs ws):∀k:Nat,aF K m n H (bI k vs).flatten (bI k ws).flatten
 |0=>.nil
 |k+1=>by
  rw[qM,qM,tL,tL];exact q.append (aF.rep q k)
theorem VF{K:aH}{m:Nat->ah}{n:Nat}{H:Hp}{vs:List V}{ws:List W}(q:aF K m n H vs ws):vs.isEmpty=ws.isEmpty:=by cases q<;>rfl
theorem VG{ws:List W}{k:Int}(h:(ws.isEmpty||k==1)):(bI k.toNat ws).flatten=ws:=by
 rw[p5]at h;rcases h with h|h
 have:ws=[]:=by simpa using h
 subst this;induction k.toNat with|zero=>rfl|succ j ih=>rw[qM,tL,ih];rfl
 have:k=1:=by simpa using h
 subst this;show(bI 1 ws).flatten=ws;simp
theorem VI{K:aH}(o:Op):A3 K (rB K o) (iA o):=by
 intro m h H v u x y w h' Q r qv qu e k;unfold iA at e;split at e;rename_i i j;obtain⟨e,rfl⟩:=of_ok e;cases qv;cases qu;cases q:gE o i j with
 |none=>rw[q]at e;cases e
 |some z=>
  rw[q]at e;cases e;obtain⟨h1,rfl⟩:=HF q;exact .inl ⟨i,j,rfl,rfl,h1,aL.here k r (.int _)⟩
 .rename_i xs ys
  obtain⟨e,rfl⟩:=of_ok e;cases q:HE o xs ys with
  |none=>rw[q]at e;cases e
  |some zs=>
   rw[q]at e;cases e;cases o<;>simp only[HE]at q;split at q;rename_i hc;cases q;cases qv with
   |tup qa ra=>
    cases qu with
    |tup qb rb=>
     rename_i a va b vb;have hl:=lu hc;cases xs with
     |nil=>
      cases ra;exact .inr (.inr (.inl ⟨a,b,vb,rfl,rfl,qa,qb,aL.here k r (.tup qb rb)⟩))
     |cons x0 xs0=>
      refine .inr (.inl ⟨a,b,va,vb,rfl,rfl,qa,qb,λz=>?_,by rw[ra.length,rb.length];exact hl,λz=>?_,λ_ p hp=>aL.tuple k r (ra.append rb) hp⟩);subst z;cases ra;subst z;cases rb;rw[oA]at k;exact aL.here k r (.tup qa ra)
   cases q
   all_goals cases q
 rename_i xs kk;obtain⟨e,rfl⟩:=of_ok e;cases q:rL o xs kk with
 |none=>rw[q]at e;cases e
 |some zs=>
  rw[q]at e;cases e;obtain⟨rfl,⟨k1,k2⟩,hz,rfl⟩:=VE q;cases qu;cases qv with
  |tup qa ra=>
   rename_i a va;refine .inr ⟨a,kk,va,rfl,rfl,qa,k1,k2,by rw[ra.length];exact hz,λz=>?_,λz p hp=>aL.tuple k r (ra.rep _) hp⟩;rw[VF ra]at z;rw[VG z]at k;exact aL.here k r (.tup qa ra)
 .rename_i i j
  split at e
  .rename_i xs ys hx hy
   split at e
   .rename_i zs q
    cases e;cases o<;>simp only[AW]at q;split at q;rename_i hc;cases q;obtain⟨va,pa,ra⟩:=r.lst hx;obtain⟨vb,pb,rb⟩:=r.lst hy;cases qv;cases qu;exact .inr (.inr (.inr ⟨m i,m j,va,vb,rfl,rfl,pa,pb,by rw[ra.length,rb.length];exact lu hc,λp hp=>aL.list k r (ra.append rb) hp⟩));cases q
    all_goals cases q
   cases e
  cases e
 cases e
end
section
variable{K:aH}{m:Nat->ah}{h:VH}{H:Hp}
theorem A7{f:W->Option aA}(ih:∀(w:W) (d:aA) (v:V),f w=aB d->aI K m h.n H v w->Rp K (λ_=>False) H v d):∀{ws:List W} {ds:List aA} {vs:List V},aY f ws=aB ds->aF K m h.n H vs ws->m5 K (λ_=>False) H vs ds
 |[],ds,_,e,.nil=>by cases e;exact .nil
 |w::ws,ds,_,e,.cons q r=>by
  unfold aY at e;split at e;rename_i d hd;split at e;rename_i bs hb;cases e;exact .cons (ih w d _ hd q) (A7 ih hb r);cases e;cases e
theorem iS(r:Rel K m h H):∀(n:Nat) (w:W) (d:aA) (v:V),toD h n w=aB d->aI K m h.n H v w->Rp K (λ_=>False) H v d
 |0,_,_,_,e,_=>by cases e
 |n+1,w,d,v,e,q=>by
  cases q with
  |aP=>cases e;exact .aP
  |bl b=>cases e;exact .bl b
  |int b=>cases e;exact .int b
  |str b=>cases e;exact .str b
  | @tup a vs ws sq rs=>
   simp only[toD]at e;cases z:aY (toD h n) ws with|none=>rw[z]at e;cases e|some ds=>rw[z]at e;cases e;exact .tup sq (λz=>z) (A7 (iS r n) z rs)
  | @fz a vs ws sq rs=>
   simp only[toD]at e;cases z:aY (toD h n) ws with|none=>rw[z]at e;cases e|some ds=>rw[z]at e;cases e;exact .lst sq.sq (λz=>z) (A7 (iS r n) z rs)
  | @ref i hi=>
   simp only[toD]at e;cases g:h.get i with
   |none=>rw[g]at e;cases e
   |some o=>
    rw[g]at e;cases o with
    |dk _=>cases e
    |dm _=>cases e
    |lst ws=>
     obtain⟨vs,h1,h2⟩:=r.lst g;simp only at e;cases z:aY (toD h n) ws with|none=>rw[z]at e;cases e|some ds=>rw[z]at e;cases e;exact .lst (cR.of h1) (λz=>z) (A7 (iS r n) z h2)
theorem NZ(r:Rel K m h H){x y:W}{v u:V}{b:Bool}(e:dD h x y=aB b)(qv:aI K m h.n H v x)(qu:aI K m h.n H u y) :
 ∃d e',Rp K (λ_=>False) H v d/\Rp K (λ_=>False) H u e'/\SeqAt.shaped d=true/\SeqAt.shaped e'=true/\b=PyData.eqv d e':=by
 unfold dD at e;split at e;rename_i d e' h1 h2;split at e;rename_i hc;cases e;rw[bJ]at hc;exact⟨d,e',iS r _ _ _ _ h1 qv,iS r _ _ _ _ h2 qu,hc.1,hc.2,rfl⟩;cases e;cases e
end
theorem yC{K:aH}{m:Nat->ah}{h:VH}{H:Hp}{v:V}{w:W}{ws:List W}(r:Rel K m h H)(q:aI K m h.n H v w)(e:aR h w=aB ws):∃p vs,v=.ref p/\(cR K H p vs\/cj K H p vs)/\aF K m h.n H vs ws:=by
 cases q<;>try cases e
 exact⟨_,_,rfl,.inr ‹_›,‹_›⟩;rename_i q _;exact⟨_,_,rfl,.inl q.sq,‹_›⟩;rename_i i hi;simp only[aR]at e;cases g:h.get i with
 |none=>rw[g]at e;cases e
 |some o=>
  rw[g]at e;cases o with
  |dk _=>cases e
  |dm _=>cases e
  |lst ws=>
   cases e;obtain⟨vs,h1,h2⟩:=r.lst g;exact⟨_,vs,rfl,.inl (cR.of h1),h2⟩
theorem N1{K:aH}{m:Nat->ah}{h:VH}{H:Hp}(r:Rel K m h H){x y:W}{v u:V}{b:Bool}(e:ua h x y=aB b)(qv:aI K m h.n H v x)(qu:aI K m h.n H u y) :
 (∃p vs ds d,u=.ref p/\(cR K H p vs\/cj K H p vs)/\m5 K (λ_=>False) H vs ds/\Rp K (λ_=>False) H v d/\ds.all SeqAt.shaped=true/\SeqAt.shaped d=true/\b=gv ds d):=by
 unfold ua at e;split at e;rename_i ws d h1 h2;split at e;rename_i ds h3;split at e;rename_i hc;cases e;rw[bJ]at hc;obtain⟨p,vs,rfl,h4,h5⟩:=yC r qu h1;exact⟨p,vs,ds,d,rfl,h4,A7 (iS r 24) h3 h5,iS r _ _ _ _ h2 qv,hc.1,hc.2,rfl⟩;cases e;cases e;cases e
noncomputable def gT:CmpOp->Option Cp|.Eq=>aB .eq|.NotEq=>aB .ne|.Lt=>aB .lt|.LtE=>aB .le|.Gt=>aB .gt|.GtE=>aB .ge|.Is=>aB .AU|.IsNot=>aB .oR|.In=>aB .k8|.NotIn=>aB .Ek
noncomputable def rC(K:aH):Cp->R2|.eq=>Au K|.ne=>Av K|.lt=>mY λi j=>.bl (decide (i<j))|.le=>mY λi j=>.bl (decide (i<=j))|.gt=>mY λi j=>.bl (decide (j<i))|.ge=>mY λi j=>.bl (decide (j<=i))|.AU=>λx y H Q=>(y=.aP/\Q (.bl (decide (x=.aP))) H)\/∃c b,x=.bl c/\y=.bl b/\Q (.bl (c==b)) H|.oR=>λx y H Q=>(y=.aP/\Q (.bl (!decide (x=.aP))) H)\/∃c b,x=.bl c/\y=.bl b/\Q (.bl (!(c==b))) H|.k8=>λx y H Q=>rH K false x y H Q|.Ek=>λx y H Q=>rH K true x y H Q
noncomputable def qi:ao->Bool|.Set ..=>false|_=>true
theorem HG{op:CmpOp}{b:ao}(h:qi b):behindInMarks op b=false:=by cases b<;>first|rfl|cases h
section
variable{X:Cx}{a b c e:ao}{es:List ao}{fa fb fc:FE}{pos:Pos}
theorem VJ:dG X (compareOp .Is) (λx y H Q=>∃c b,x=.bl c/\y=.bl b/\Q (.bl (c==b)) H):=by intro pins s σ H x y v u Q I rx ry h;obtain⟨c,b,rfl,rfl,q⟩:=h;cases rx;cases ry;exact wpAny_is_plain rfl (DN I q (by cases c<;>cases b<;>rfl))
theorem VL:dG X (compareOp .IsNot) (λx y H Q=>∃c b,x=.bl c/\y=.bl b/\Q (.bl (!(c==b))) H):=by intro pins s σ H x y v u Q I rx ry h;obtain⟨c,b,rfl,rfl,q⟩:=h;cases rx;cases ry;exact wpAny_isNot_plain rfl (DN I q (by cases c<;>cases b<;>rfl))
theorem yD(hu:X.A.units+65<cLine){O:CmpOp}{c:Cp}(e:gT O=aB c):dG X (compareOp O) (rC X.K c):=by cases O<;>cases e;exact T6 (by lia);exact T7 (by lia);exact zV;exact zW;exact zX;exact zY;exact Sv.or VJ;exact Sw.or VL;exact UE (by show X.A.units+1+64<cLine;lia);exact UG (by show X.A.units+1+64<cLine;lia)
theorem Ep{K:aH}{m:Nat->ah}{n:Nat}{H:Hp}{v:V}{w:W}(q:aI K m n H v w):cV w=decide (v=.aP):=by cases q<;>simp[cV]
theorem Er{K:aH}(c:Cp):A3 K (rC K c) (λx y h=>.of ((bE c h x y).map .bl) h):=by
 intro m h H v u x y w h' Q r qv qu e k;obtain⟨e,rfl⟩:=of_ok e;cases z:bE c h' x y with
 |none=>rw[z]at e;cases e
 |some b=>
  rw[z]at e;cases e;have fin:Q (.bl b) H:=aL.here k r (.bl b);unfold bE at z;split at z;obtain⟨p,vs,ds,d,h1,h2,h3,h4,h5,h6,rfl⟩:=N1 r z qv qu;exact⟨p,vs,ds,d,h1,h2,h3,h4,h5,h6,fin⟩;cases z2:ua h' x y with
  |none=>rw[z2]at z;cases z
  |some b2=>
   rw[z2]at z;cases z;obtain⟨p,vs,ds,d,h1,h2,h3,h4,h5,h6,rfl⟩:=N1 r z2 qv qu;exact⟨p,vs,ds,d,h1,h2,h3,h4,h5,h6,fin⟩
  obtain⟨d,e',h1,h2,h3,h4,rfl⟩:=NZ r z qv qu;exact⟨d,e',h1,h2,h3,h4,fin⟩;cases z2:dD h' x y with
  |none=>rw[z2]at z;cases z
  |some b2=>
   rw[z2]at z;cases z;obtain⟨d,e',h1,h2,h3,h4,rfl⟩:=NZ r z2 qv qu;exact⟨d,e',h1,h2,h3,h4,fin⟩
  split at z;rename_i hn;cases z;have:=Ep qu;rw[hn]at this;refine .inl ⟨kX this.symm,?_⟩;rw[<-Ep qv];exact fin;unfold AX at z;split at z;rename_i c b;cases z;cases qv;cases qu;exact .inr ⟨_,_,rfl,rfl,fin⟩;cases z;split at z;rename_i hn;cases z;have:=Ep qu;rw[hn]at this;refine .inl ⟨kX this.symm,?_⟩;rw[<-Ep qv];exact fin;cases z2:AX x y with
  |none=>rw[z2]at z;cases z
  |some b2=>
   rw[z2]at z;cases z;unfold AX at z2;split at z2;rename_i c b;cases z2;cases qv;cases qu;exact .inr ⟨_,_,rfl,rfl,fin⟩;cases z2
  split at z;rename_i i j;cases qv;cases qu;cases c<;>simp only[gS]at z<;>cases z<;>exact⟨i,j,rfl,rfl,fin⟩;cases z
theorem VM(hu:X.A.units+65<cLine){O:CmpOp}{c:Cp}(e:gT O=aB c)(hs:qi b)(ha:SE X a fa)(hb:SE X b fb) :
 SE X (.Compare a [O] [b] pos) (λρ h=>(fa ρ h).bind λx h=>(fb ρ h).bind λy h=>.of ((bE c h x y).map .bl) h):=
 (Sx (yD hu e) ha hb (HG hs)).imp λσ H Q q=>Em (G:=rC X.K c) (Er c) q
theorem VN(hu:X.A.units+65<cLine){O:CmpOp}{c:Cp}(e:gT O=aB c)(hs:qi b)(ha:SE X a fa)(hb:SE X b fb) :
 ST X (.Compare a [O] [b] pos) (λρ h=>(fa ρ h).bind λx h=>(fb ρ h).bind λy h=>.of ((bE c h x y).map .bl) h):=
 (Sy (yD hu e) ha hb (HG hs)).imp λσ H Q q=>Em (G:=rC X.K c) (Er c) (NW q)
theorem N2{O O':CmpOp}{a b:ao}(h:qi b):lastMarks [O,O'] [a,b]=false:=HG h
theorem N3{K:aH}{c1 c2:Cp}{σ:L2.St}{H:Hp}{Q:VK}
 (q:eF K (λρ h=>(fa ρ h).bind λx h=>(fb ρ h).bind λy h=>match bE c1 h x y with
   |some true=>(fc ρ h).bind λz h=>.of ((bE c2 h y z).map .bl) h
   |some false=>.ok (.bl false) h
   |none=>.no) σ H Q):Gu (rC K c1) (rC K c2) (eF K fa) (eF K fb) (eF K fc) σ H Q:=by
 refine q.el λρ h m w h' f r e k=>?_;refine bF e λx h1 e1 e2=>?_;refine bF e2 λy h2 e3 e4=>?_;refine(.mk f r e1 λv H1 m1 s1 r1 q1=>(.mk (f.stp s1) r1 e3 λu H2 m2 s2 r2 q2=>?_));have f2:=(f.stp s1).stp s2;have k2:aL K m2 h2.n H2 w h' Q:=λv' H' m' s' r' q'=>k v' H' m' ((s1.trans s2).trans s') r' q';cases z:bE c1 h2 x y with
 |none=>rw[z]at e4;cases e4
 |some b=>
  rw[z]at e4;refine Er c1 m2 h2 H2 v u x y (.bl b) h2 _ r2 (q1.stp s2) q2 (by show Res.of ((bE c1 h2 x y).map W.bl) h2=_;rw[z];rfl) λv3 H3 m3 s3 r3 q3=>?_;cases q3;refine⟨b,rfl,?_⟩;cases b with
  |true=>
   refine bF e4 λz' h4 e5 e6=>?_;rw[if_pos rfl];refine⟨ρ,h2,m3,z',h4,f2.stp s3,r3,e5,λv4 H4 m4 s4 r4 q4=>?_⟩;exact Er c2 m4 h4 H4 u v4 y z' w h' Q r4 ((q2.stp s3).stp s4) q4 e6 λv' H' m' s' r' q'=>k2 v' H' m' ((s3.trans s4).trans s') r' q'
  |false=>
   cases e4;simp only[fF,eG];exact k2 _ H3 m3 s3 r3 (.bl false)
theorem VP(hu:X.A.units+65<cLine){O O':CmpOp}{c1 c2:Cp}(e:gT O=aB c1)(e':gT O'=aB c2)(hs:qi c)(ha:SE X a fa)(hb:SE X b fb)(hc:SE X c fc) :
 SE X (.Compare a [O,O'] [b,c] pos) (λρ h=>(fa ρ h).bind λx h=>(fb ρ h).bind λy h=>match bE c1 h x y with|some true=>(fc ρ h).bind λz h=>.of ((bE c2 h y z).map .bl) h|some false=>.ok (.bl false) h|none=>.no):=(Sz (yD hu e) (yD hu e') ha hb hc (N2 hs)).imp λσ H Q q=>N3 q
theorem VQ(hu:X.A.units+65<cLine){O O':CmpOp}{c1 c2:Cp}(e:gT O=aB c1)(e':gT O'=aB c2)(hs:qi c)(ha:SE X a fa)(hb:SE X b fb)(hc:SE X c fc) :
 ST X (.Compare a [O,O'] [b,c] pos) (λρ h=>(fa ρ h).bind λx h=>(fb ρ h).bind λy h=>match bE c1 h x y with|some true=>(fc ρ h).bind λz h=>.of ((bE c2 h y z).map .bl) h|some false=>.ok (.bl false) h|none=>.no):=(SD (yD hu e) (yD hu e') ha hb hc (N2 hs)).imp λσ H Q q=>N3 (NW q)
noncomputable abbrev A8(fa:FE):FE:=λρ h=>(fa ρ h).bind λx h=>match x with|.bl b=>.ok (.bl (!b)) h|_=>.no
noncomputable abbrev A9(fa fb:FE):FE:=λρ h=>(fa ρ h).bind λx h=>match x with|.bl true=>fb ρ h|.bl false=>.ok (.bl false) h|_=>.no
noncomputable abbrev N4(fa fb:FE):FE:=λρ h=>(fa ρ h).bind λx h=>match x with|.bl true=>.ok (.bl true) h|.bl false=>fb ρ h|_=>.no
noncomputable abbrev HH(fa fb fc:FE):FE:=λρ h=>(fa ρ h).bind λx h=>match x with|.bl true=>fb ρ h|.bl false=>fc ρ h|_=>.no
variable{rest:List ao}
theorem VR(ha:ST X a fa):ST X (.UnaryOp .Not a pos) (A8 fa):=(RH ha).imp λσ H Q z9=>z9.el λρ h m b h' f r e k=>by
 refine bF e λx h1 e1 e2=>?_;cases x<;>try cases e2
 rename_i b;exact(.mk f r e1 λH' m' s' r'=>k H' m' s' r')
theorem VS(ha:SE X a fa):SE X (.UnaryOp .Not a pos) (A8 fa):=(RK ha).imp λσ H Q z9=>z9.el λρ h m b h' f r e k=>by
 refine bF e λx h1 e1 e2=>?_;cases x<;>try cases e2
 rename_i b;exact(.mk f r e1 λv H' m' s' r' q=>by cases q;exact⟨b,rfl,k _ H' m' s' r' (.bl _)⟩)
theorem N5{op:BoolOp}(ha:ST X a fa):SW X (.BoolOp op [a] pos) fa:=by cases op;exact RD ha;exact RE ha
theorem VT(ha:ST X a fa)(hb:SW X (.BoolOp .And (b::rest) pos) fb):SW X (.BoolOp .And (a::b::rest) pos) (A9 fa fb):=(RG ha hb).imp λσ H Q z9=>z9.el λρ h m b h' f r e k=>by
 refine bF e λx h1 e1 e2=>?_;cases x<;>try cases e2
 rename_i c;refine(.mk f r e1 λH1 m1 s1 r1=>?_);cases c with|true=>rw[if_pos rfl];exact(.mk (f.stp s1) r1 e2 λH' m' s' r'=>k H' m' (s1.trans s') r')|false=>cases e2;simp only[fF,eG];exact k H1 m1 s1 r1
theorem Ba(ha:ST X a fa)(hb:SW X (.BoolOp .Or (b::rest) pos) fb):SW X (.BoolOp .Or (a::b::rest) pos) (N4 fa fb):=(pw_or ha hb).imp λσ H Q z9=>z9.el λρ h m b h' f r e k=>by
 refine bF e λx h1 e1 e2=>?_;cases x<;>try cases e2
 rename_i c;refine(.mk f r e1 λH1 m1 s1 r1=>?_);cases c with|true=>cases e2;rw[if_pos rfl];exact k H1 m1 s1 r1|false=>simp only[fF,eG];exact(.mk (f.stp s1) r1 e2 λH' m' s' r'=>k H' m' (s1.trans s') r')
theorem N6{op:BoolOp}(ha:SE X a fa):SE X (.BoolOp op [a] pos) fa:=RI ha
theorem VU(ha:SE X a fa)(hb:SE X (.BoolOp .And (b::rest) pos) fb):SE X (.BoolOp .And (a::b::rest) pos) (A9 fa fb):=(RJ ha hb).imp λσ H Q z9=>z9.el λρ h m w h' f r e k=>by
 refine bF e λx h1 e1 e2=>?_;cases x<;>try cases e2
 rename_i c;refine(.mk f r e1 λv H1 m1 s1 r1 q1=>?_);cases q1;refine⟨c,rfl,?_⟩;cases c with|true=>rw[if_pos rfl];exact(.mk (f.stp s1) r1 e2 λv H' m' s' r' q'=>k v H' m' (s1.trans s') r' q')|false=>cases e2;simp only[fF,eG];exact k _ H1 m1 s1 r1 (.bl false)
theorem Bb(ha:SE X a fa)(hb:SE X (.BoolOp .Or (b::rest) pos) fb):SE X (.BoolOp .Or (a::b::rest) pos) (N4 fa fb):=(zF ha hb).imp λσ H Q z9=>z9.el λρ h m w h' f r e k=>by
 refine bF e λx h1 e1 e2=>?_;cases x<;>try cases e2
 rename_i c;refine(.mk f r e1 λv H1 m1 s1 r1 q1=>?_);cases q1;refine⟨c,rfl,?_⟩;cases c with|true=>cases e2;rw[if_pos rfl];exact k _ H1 m1 s1 r1 (.bl true)|false=>simp only[fF,eG];exact(.mk (f.stp s1) r1 e2 λv H' m' s' r' q'=>k v H' m' (s1.trans s') r' q')
theorem VW(hc:ST X c fc)(ha:SE X a fa)(hb:SE X b fb):SE X (.IfExp c a b pos) (HH fc fa fb):=(RM hc ha hb).imp λσ H Q z9=>z9.el λρ h m w h' f r e k=>by
 refine bF e λx h1 e1 e2=>?_;cases x<;>try cases e2
 rename_i c;refine(.mk f r e1 λH1 m1 s1 r1=>?_);cases c with|true=>rw[if_pos rfl];exact(.mk (f.stp s1) r1 e2 λv H' m' s' r' q'=>k v H' m' (s1.trans s') r' q')|false=>simp only[fF,eG];exact(.mk (f.stp s1) r1 e2 λv H' m' s' r' q'=>k v H' m' (s1.trans s') r' q')
theorem N7{K:aH}{m:Nat->ah}{n:Nat}{H:Hp}{vs:List V}{ws:List W}(q:aF K m n H vs ws):vs.isEmpty=ws.isEmpty:=by cases q<;>rfl
theorem VX{K:aH}{m:Nat->ah}{h:VH}{H:Hp}{v:V}{w:W}{b:Bool}(r:Rel K m h H)(q:aI K m h.n H v w)(e:nu h w=aB b):vC K v H b:=by
 cases q with
 |aP=>cases e;rfl
 |bl x=>cases e;rfl
 |int i=>cases e;rfl
 |str x=>cases e
 |fz _ _=>cases e
 |tup sq rs=>cases e;exact .inr (.inl ⟨_,sq,by rw[N7 rs]⟩)
 | @ref i hi=>
  simp only[nu]at e;cases g:h.get i with
  |none=>rw[g]at e;cases e
  |some o=>
   rw[g]at e;cases o with
   |dk _=>cases e
   |dm _=>cases e
   |lst ws=>
    cases e;obtain⟨vs,h1,h2⟩:=r.lst g;exact .inl ⟨vs,cR.of h1,by rw[N7 h2]⟩
theorem HJ(ha:SE X a fa)(he:∀whole,isTrue a X.env whole=(do let v <-whole;standAt a.pos;holding [v] (truthy v))) :
 ST X a (λρ h=>(fa ρ h).bind λx h=>.of ((nu h x).map .bl) h):=(SI ha he).imp λσ H Q z9=>z9.el λρ h m b h' f r e k=>by
 refine bF e λx h1 e1 e2=>?_;obtain⟨e2,rfl⟩:=of_ok e2;cases z:nu h' x with
 |none=>rw[z]at e2;cases e2
 |some c=>
  rw[z]at e2;cases e2;exact(.mk f r e1 λv H' m' s' r' q=>⟨b,VX r' q z,k H' m' s' r'⟩)
theorem VY(ha:SE X a fa):SE X (.UnaryOp .USub a pos) (λρ h=>(fa ρ h).bind λx h=>match x with|.int i=>.ok (.int (-i)) h|_=>.no):=
 (zT Su ha).imp λσ H Q q=>NV (g:=λx h=>match x with|.int i=>.ok (.int (-i)) h|_=>.no) (G:=rU λi=>.int (-i)) (λm h H v x w h' Q r q e k=>by
   cases q<;>try cases e
   rename_i i;exact⟨i,rfl,aL.here k r (.int _)⟩) q
end
section
variable{K:aH}{m m0:Nat->ah}{n n0:Nat}{h:VH}{H H0:Hp}
theorem Rel.adopt(r:Rel K m h H){p:ah}{o:VO}{u u0:HO}(hp:∀i,i<h.n->m i≠p)(hu:H p=aB u0)(ht:∀t,u0≠.tup t)(hf:∀o t,u0≠.bC o t)(s:bO m0 n0 H0 m h.n H)(h0:H0 p=aC)
 (ho:bO m h.n H (λi=>if i=h.n then p else m i) (h.n+1) (upd H p u)\/True->(∀{v:V}{w:W},aI K m h.n H v w->aI K (λi=>if i=h.n then p else m i) (h.n+1) (upd H p u) v w)->fL K (λi=>if i=h.n then p else m i) (h.n+1) (upd H p u) p o) :
 bO m0 n0 H0 (λi=>if i=h.n then p else m i) (h.n+1) (upd H p u)/\Rel K (λi=>if i=h.n then p else m i) (h.new o) (upd H p u):=by
 have kt:∀b vs,H b=aB (.tup vs)->upd H p u b=aB (.tup vs):=λb vs q=>by rw[bP (bZ q hu λz=>ht vs z.symm)];exact q
 have kf:∀b o t,H b=aB (.bC o t)->upd H p u b=aB (.bC o t):=λb o t q=>by rw[bP (bZ q hu λz=>hf o t z.symm)];exact q
 have mv:∀{v:V}{w:W},aI K m h.n H v w->aI K (λi=>if i=h.n then p else m i) (h.n+1) (upd H p u) v w:=by
  intro v w q;have st:bO m h.n (λb=>if b=p then aC else H b) (λi=>if i=h.n then p else m i) (h.n+1) (upd H p u):=by
   refine⟨p9 _,λi hi=>by simp only[if_neg (gh hi)],λi hi hi2=>?_,λi j hi hi2 hj=>?_,λb vs q=>?_,λb o t q=>?_,λb o _ q=>?_⟩;have:i=h.n:=by lia
   subst this;simp only[bY];have:i=h.n:=by lia
   subst this;simp only[bY,if_neg (gh hj)];exact(hp j hj).symm;split at q;cases q;exact kt b vs q;split at q;cases q;exact kf b o t q;split at q;cases q;rename_i z;rw[bP z];exact q
  refine aI.stp st ?_;have back:∀{a vs},cj K H a vs->cj K (λb=>if b=p then aC else H b) a vs:=by
   intro a vs q;rcases q with(q|⟨o,q⟩)|q
   exact .inl (.inl (by simp only[if_neg (bZ q hu λz=>ht vs z.symm)];exact q));exact .inl (.inr ⟨o,by simp only[if_neg (bZ q hu λz=>hf o _ z.symm)];exact q⟩);exact .inr q
  have Bc:∀{a vs},Fz K H a vs->Fz K (λb=>if b=p then aC else H b) a vs:=by
   intro a vs q;rcases q with⟨o,q⟩|q
   exact .inl ⟨o,by simp only[if_neg (bZ q hu λz=>hf o _ z.symm)];exact q⟩;exact .inr q
  exact(aI.rec (K:=K) (m:=m) (n:=h.n) (H:=H) (motive_1:=λv w _=>aI K m h.n (λb=>if b=p then aC else H b) v w) (motive_2:=λvs ws _=>aF K m h.n (λb=>if b=p then aC else H b) vs ws)
   .aP .bl .int .str (λsq _ ih=>.tup (back sq) ih) (λsq _ ih=>.fz (Bc sq) ih) (λhi=>.ref hi) .nil (λ_ _ i1 i2=>.cons i1 i2) q)
 refine⟨⟨Nat.le_succ_of_le s.le,λi hi=>?_,λi hi hi2=>?_,λi j hi hi2 hj=>?_,λb vs q=>kt b vs (s.tup b vs q),λb o t q=>kf b o t (s.bC b o t q),λb o nb q=>?_⟩,⟨λi hi=>?_,λi j hi hj z=>?_,?_⟩⟩;have:=s.le;simp only[if_neg (show i≠h.n by lia)];exact s.same i hi;by_cases e:i=h.n;subst e;simp only[bY];exact h0;simp only[if_neg e];exact s.new i hi (by lia);have:=s.le;simp only[if_neg (show j≠h.n by lia)];by_cases e:i=h.n;subst e;simp only[bY];exact(hp j (by lia)).symm;simp only[if_neg e];exact s.apart i j hi (by lia) hj;rw[bP (iJ q h0)];exact s.keep b o nb q;have hi:i<h.n+1:=hi;by_cases e:i=h.n;subst e;exact⟨o,dU,by simp only[bY];exact ho (.inr trivial) mv⟩;have hl:i<h.n:=by lia
 obtain⟨o',h1,h2⟩:=r.obj i hl;refine⟨o',(iD hl).trans h1,?_⟩;simp only[if_neg e];have eq:upd H p u (m i)=H (m i):=bP (hp i hl);cases o' with
 |lst ws=>
  obtain⟨vs,q1,q2⟩:=h2;exact⟨vs,eq.trans q1,aF.rec (K:=K) (m:=m) (n:=h.n) (H:=H) (motive_1:=λv w _=>aI K m h.n H v w) (motive_2:=λvs ws _=>aF K (λi=>if i=h.n then p else m i) (h.n+1) (upd H p u) vs ws)
   .aP .bl .int .str (λsq q _=>.tup sq q) (λsq q _=>.fz sq q) (λhi=>.ref hi) .nil (λq _ _ i2=>.cons (mv q) i2) q2⟩
 |dk ws=>
  obtain⟨vs,q1,q2⟩:=h2;have go:∀{vs:List (Key×V)}{ws:List (Key×W)},aK K m h.n H vs ws->aK K (λi=>if i=h.n then p else m i) (h.n+1) (upd H p u) vs ws:=by
   intro vs ws q2;induction q2 with|nil=>exact .nil|cons q _ ih=>exact .cons (mv q) ih
  exact⟨vs,q1.imp (λz=>eq.trans z) λ⟨o,z⟩=>⟨o,eq.trans z⟩,go q2⟩
 |dm ws=>
  obtain⟨vs,q1,q2⟩:=h2;have go:∀{vs:List (Key×V)}{ws:List (Key×W)},aK K m h.n H vs ws->aK K (λi=>if i=h.n then p else m i) (h.n+1) (upd H p u) vs ws:=by
   intro vs ws q2;induction q2 with|nil=>exact .nil|cons q _ ih=>exact .cons (mv q) ih
  exact⟨vs,eq.trans q1,go q2⟩
 have hi:i<h.n+1:=hi;have hj:j<h.n+1:=hj;by_cases e:i=h.n;by_cases e2:j=h.n;lia;simp only[if_pos e,if_neg e2]at z;exact absurd z.symm (hp j (by lia));by_cases e2:j=h.n;simp only[if_neg e,if_pos e2]at z;exact absurd z (hp i (by lia));simp only[if_neg e,if_neg e2]at z;exact r.inj i j (by lia) (by lia) z;show(o::h.os).length=h.n+1;rw[cG,r.len]
theorem aF.map{m':Nat->ah}{n':Nat}{H':Hp}(mv:∀{v:V} {w:W},aI K m n H v w->aI K m' n' H' v w):∀{vs:List V} {ws:List W},aF K m n H vs ws->aF K m' n' H' vs ws|_,_,.nil=>.nil|_,_,.cons q r=>.cons (mv q) (aF.map mv r)
theorem aK.map{m':Nat->ah}{n':Nat}{H':Hp}(mv:∀{v:V} {w:W},aI K m n H v w->aI K m' n' H' v w):∀{vs:List (Key×V)} {ws:List (Key×W)},aK K m n H vs ws->aK K m' n' H' vs ws|_,_,.nil=>.nil|_,_,.cons q r=>.cons (mv q) (aK.map mv r)
theorem aK.look(k:Key):∀{vs:List (Key×V)} {ws:List (Key×W)},aK K m n H vs ws->(eZ vs k=aC/\aS ws k=aC)\/∃v w,eZ vs k=aB v/\aS ws k=aB w/\aI K m n H v w
 |_,_,.nil=>.inl ⟨rfl,rfl⟩
 |_,_,.cons (k:=k') (v:=v) (w:=w) q r=>by
  by_cases e:k'=k;refine .inr ⟨v,w,DX (p:=(k',v)) e,?_,q⟩;unfold aS;rw[oB];simp[e];rcases aK.look k r with⟨a,b⟩|⟨v',w',a,b,c⟩
  refine .inl ⟨(Aw (p:=(k',v)) e).trans a,?_⟩;unfold aS at b ⊢;rw[oB];simp only[jn e];exact b;refine .inr ⟨v',w',(Aw (p:=(k',v)) e).trans a,?_,c⟩;unfold aS at b ⊢;rw[oB];simp only[jn e];exact b
theorem aK.any(k:Key):∀{vs:List (Key×V)} {ws:List (Key×W)},aK K m n H vs ws->(vs.any λkv=>decide (kv.1=k))=(ws.any λkv=>decide (kv.1=k))|_,_,.nil=>rfl|_,_,.cons q r=>by rw[xW,xW,aK.any k r]
theorem aK.repl{v:V}{w:W}(q:aI K m n H v w)(k:Key):∀{vs:List (Key×V)} {ws:List (Key×W)},aK K m n H vs ws->aK K m n H (vs.map λkv=>if kv.1=k then(kv.1,v)else kv) (ws.map λkv=>if kv.1=k then(kv.1,w)else kv)
 |_,_,.nil=>.nil
 |_,_,.cons (k:=k') p r=>by
  rw[fm,fm];by_cases e:k'=k;simp only[if_pos e];exact .cons q (aK.repl q k r);simp only[if_neg e];exact .cons p (aK.repl q k r)
theorem aK.snoc{v:V}{w:W}(q:aI K m n H v w)(k:Key):∀{vs:List (Key×V)} {ws:List (Key×W)},aK K m n H vs ws->aK K m n H (vs++[(k,v)]) (ws++[(k,w)])|_,_,.nil=>.cons q .nil|_,_,.cons p r=>.cons p (aK.snoc q k r)
theorem aK.put{v:V}{w:W}(q:aI K m n H v w)(k:Key){vs:List (Key×V)}{ws:List (Key×W)}(r:aK K m n H vs ws):aK K m n H (putK vs k v) (bB ws k w):=by unfold putK bB;rw[r.any k];split;exact r.repl q k;exact r.snoc q k
theorem aK.merge{vs:List (Key×V)}{ws:List (Key×W)}(q:aK K m n H vs ws):∀{va:List (Key×V)} {wa:List (Key×W)},aK K m n H va wa->aK K m n H (qg va vs) (El wa ws):=by
 induction q with|nil=>exact λa=>a|cons q r ih=>exact λa=>ih (a.put q _)
theorem aK.length:∀{vs:List (Key×V)} {ws:List (Key×W)},aK K m n H vs ws->vs.length=ws.length|_,_,.nil=>rfl|_,_,.cons _ r=>by rw[cG,cG,aK.length r]
theorem yE{v:V}{w:W}{k:Key}(q:aI K m n H v w)(e:nv w=aB k):v=kV k:=by cases q<;>cases e<;>rfl
theorem HK{vs:List V}{ws:List W}{i:Int}{w:W}(q:aF K m n H vs ws)(e:fV ws i=aB w):∃v,fV vs i=aB v/\aI K m n H v w:=by
 unfold fV at e ⊢;rw[q.length];cases z:jd ws.length i with
 |none=>rw[z]at e;cases e
 |some j=>
  rw[z]at e;exact q.get e
end
noncomputable def vX(K:aH):R2:=λx y H Q=>Ah K x y H Q\/Ai K x y H Q\/(∃a v,x=.ref a/\ng H a y (aB v)/\Q v H)
section
variable{X:Cx}{a b c e o:ao}{es:List ao}{fa fb fc fo:FE}{pos:Pos}
theorem VZ(hu:X.A.units+1<cLine):rF X (λx y H Q=>∃a v,x=.ref a/\ng H a y (aB v)/\Q v H):=by intro value slice pins s σ H x y v u Q I rx ry q hs;obtain⟨a,v',rfl,g,q⟩:=q;obtain rfl:v=Value.ref a:=rx;exact tail_any (Uh I g) PySem.F.slot_dict_getitem.lookup (Ue hu I g ry λw' s3 I3 rw'=>⟨v',H,I3,rw',q⟩) hs
theorem Be(hu:X.A.units+2<cLine):rF X (vX X.K):=Te.or (Tf.or (VZ (by lia)))
theorem V0{K:aH}:A3 K (vX K) (λx y h=>.of (cz h x y) h):=by
 intro m h H v u x y w h' Q r qv qu e0 k;obtain⟨e,e1⟩:=of_ok e0;clear e0;subst e1;unfold cz at e;split at e;cases qv with
 |tup sq rs=>
  cases qu;obtain⟨v',h1,h2⟩:=HK rs e;exact .inr (.inl ⟨_,_,_,v',rfl,rfl,sq,h1,aL.here k r h2⟩)
 cases qv with
 |fz sq rs=>
  cases qu;obtain⟨v',h1,h2⟩:=HK rs e;exact .inl ⟨_,_,_,v',rfl,rfl,sq.sq,h1,aL.here k r h2⟩
 rename_i i j;cases qv;cases qu;cases g:h'.get i with
 |none=>rw[g]at e;cases e
 |some ob=>
  rw[g]at e;cases ob with
  |lst ws=>
   obtain⟨vs,p1,p2⟩:=r.lst g;obtain⟨v',h1,h2⟩:=HK p2 e;exact .inl ⟨_,_,_,v',rfl,rfl,cR.of p1,h1,aL.here k r h2⟩
  |dk ws=>
   have e:aS ws (.inl j)=aB w:=e;obtain⟨vs,p1,p2⟩:=r.dk g;rcases p2.look (.inl j)with⟨_,z⟩|⟨v',w',z1,z2,z3⟩
   rw[z]at e;cases e;rw[z2]at e;cases e;exact .inr (.inr ⟨_,v',rfl,by rw[<-z1];exact .inl ⟨vs,.inl j,p1,rfl,rfl⟩,aL.here k r z3⟩)
  |dm ws=>
   have e:aS ws (.inl j)=aB w:=e;obtain⟨vs,p1,p2⟩:=r.dm g;rcases p2.look (.inl j)with⟨_,z⟩|⟨v',w',z1,z2,z3⟩
   rw[z]at e;cases e;rw[z2]at e;cases e;exact .inr (.inr ⟨_,v',rfl,by rw[<-z1];exact .inl ⟨vs,.inl j,.inl p1,rfl,rfl⟩,aL.here k r z3⟩)
 rename_i i j;cases qv;cases qu;cases g:h'.get i with
 |none=>rw[g]at e;cases e
 |some ob=>
  rw[g]at e;cases ob with
  |lst ws=>cases e
  |dk ws=>
   have e:aS ws (.inr j)=aB w:=e;obtain⟨vs,p1,p2⟩:=r.dk g;rcases p2.look (.inr j)with⟨_,z⟩|⟨v',w',z1,z2,z3⟩
   rw[z]at e;cases e;rw[z2]at e;cases e;exact .inr (.inr ⟨_,v',rfl,by rw[<-z1];exact .inl ⟨vs,.inr j,p1,rfl,rfl⟩,aL.here k r z3⟩)
  |dm _=>cases e
 cases e
theorem V1(hu:X.A.units+2<cLine)(ha:SE X a fa)(hb:SE X b fb)(hs:GC b):SE X (.Subscript a b pos) (λρ h=>(fa ρ h).bind λx h=>(fb ρ h).bind λy h=>.of (cz h x y) h):=
 (Ag (Be hu) ha hb hs).imp λσ H Q q=>Em (G:=vX X.K) V0 q
noncomputable def je(K:aH)(b:Bool)(f:FE):TO:=λσ H Q=>∃ρ h m w o h',Fr K m h.n H σ ρ/\Rel K m h H/\f ρ h=.ok w h'/\fB b w=aB o/\∀H' m',bO m h.n H m' h'.n H'->Rel K m' h' H'->Q o H'
theorem je.el{K:aH}{σ:L2.St}{H:Hp}{P:Prop}{b:Bool}{fa:FE}{Q:Option Int->Hp->Prop}(q:je K b fa σ H Q)(k:∀ρ h m w o h',Fr K m h.n H σ ρ->Rel K m h H->fa ρ h=.ok w h'->fB b w=aB o->(∀H' m',bO m h.n H m' h'.n H'->Rel K m' h' H'->Q o H')->P):P:=by obtain⟨ρ,h,m,w,o,h',f,r,e,ep,k'⟩:=q;exact k ρ h m w o h' f r e ep k'
theorem je.mk{K:aH}{σ:L2.St}{H:Hp}{m:Nat->ah}{ρ:En}{h h':VH}{w:W}{o:Option Int}{b:Bool}{fa:FE}{Q:Option Int->Hp->Prop}(f:Fr K m h.n H σ ρ)(r:Rel K m h H)(e:fa ρ h=.ok w h')(ep:fB b w=aB o)(k:∀H' m',bO m h.n H m' h'.n H'->Rel K m' h' H'->Q o H'):je K b fa σ H Q:=⟨ρ,h,m,w,o,h',f,r,e,ep,k⟩
theorem V2{w:W}:PO X aC (je X.K false (λ_ h=>.ok w h)):=λpins s σ H Q I z9=>z9.el λρ h m w o h' f r e ep k=>by
 cases e;have:o=aC:=by unfold fB at ep;cases ep;rfl
 subst this;exact S6 pins s σ H Q I (k H m .refl r)
theorem N8(ha:SE X e fa):PO X (aB e) (je X.K true fa):=λpins s σ H Q I z9=>z9.el λρ h m w o h' f r e ep k=>by
 refine S7 ha pins s σ H Q I (.mk f r e λv H' m' s' r' q=>?_);cases q<;>cases ep;exact⟨_,rfl,k H' m' s' r'⟩
theorem N9{K:aH}{m:Nat->ah}{n:Nat}{H:Hp}{vs:List V}{ws:List W}(q:aF K m n H vs ws)(lo hi:Option Int):aF K m n H (kh vs lo hi) (iR ws lo hi):=by unfold kh iR;rw[q.length];exact(q.drop _).take _
theorem V3{ws:List W}{lo hi:Option Int}(h:HT.bK ws.length 0 lo=0/\HT.bK ws.length ws.length hi=ws.length):iR ws lo hi=ws:=by unfold iR;rw[h.1,h.2];simp
theorem V4{lo hi:Option ao}{fl fh:FE}{p2:Pos}{bl bh:Bool}(ha:SE X a fa)(hl:PO X lo (je X.K bl fl))(hh:PO X hi (je X.K bh fh)) :
 SE X (.Subscript a (.Slice lo hi aC p2) pos) (λρ h=>(fa ρ h).bind λx h=>(fl ρ h).bind λl h=>(fh ρ h).bind λu h=>match fB bl l,fB bh u with|some l,aB u=>kF x l u h|_,_=>.no):=
 (S9 UI ha hl hh).imp λσ H Q z9=>z9.el λρ h m w h' f r e k=>by
   refine bF e λx h1 e1 e2=>?_;refine bF e2 λl h2 e3 e4=>?_;refine bF e4 λu h3 e5 e6=>?_;split at e6;rename_i l' u' pl pu;refine(.mk f r e1 λv H1 m1 s1 r1 q1=>(.mk (f.stp s1) r1 e3 pl λH2 m2 s2 r2=>(.mk ((f.stp s1).stp s2) r2 e5 pu λH3 m3 s3 r3=>?_)));have q3:=(q1.stp s2).stp s3;have kk:aL X.K m3 h3.n H3 w h' Q:=λv' H' m' s' r' q'=>k v' H' m' (((s1.trans s2).trans s3).trans s') r' q';unfold kF at e6;split at e6;rename_i ws;cases e6;cases q3 with
   | @tup a vs _ sq rs=>
    by_cases hw:HT.bK vs.length 0 l'=0/\HT.bK vs.length vs.length u'=vs.length;refine .inl (.inr ⟨_,_,rfl,sq,hw,?_⟩);have Oa:=hw;rw[rs.length]at Oa;rw[V3 Oa]at kk;exact aL.here kk r3 (.tup sq rs);exact .inl (.inl ⟨_,_,rfl,sq,hw,λp hp=>aL.tuple kk r3 (N9 rs l' u') hp⟩)
   rename_i i;cases q3;cases g:h3.get i with
   |none=>rw[g]at e6;cases e6
   |some ob=>
    rw[g]at e6;cases ob with
    |lst ws=>
     cases e6;obtain⟨vs,p1,p2⟩:=r3.lst g;exact .inr ⟨_,_,rfl,cR.of p1,λp hp=>aL.list kk r3 (N9 p2 l' u') hp⟩
    |dk ws=>cases e6
    |dm _=>cases e6
   cases e6;cases e6
end
noncomputable def gU:ao->Bool|.Starred ..=>false|_=>true
theorem fM{e:ao}{es:List ao}{env:Env}(h:gU e):starEach (e::es) env=(false,eval e env)::starEach es env:=by cases e<;>first|rfl|cases h
theorem Bf{pos:Pos}{env:Env}:∀{es:List ao},es.all gU=true->(backTo pos (starEach es env)).any (·.1)=false
 |[],_=>rfl
 |e::es,h=>by
  rw[nU,bJ]at h;rw[fM h.1];show(false|| (backTo pos (starEach es env)).any (·.1))=false;rw[Bf h.2];rfl
noncomputable abbrev kJ:FE:=λ_ h=>.ok (.tup []) h
noncomputable abbrev iu(fa fb:FE):FE:=λρ h=>(fa ρ h).bind λx h=>(fb ρ h).bind λy h=>match y with|.tup ys=>.ok (.tup (x::ys)) h|_=>.no
section
variable{X:Cx}{a b c e o:ao}{es:List ao}{fa fb fc fo:FE}{pos p:Pos}{x:Str}
noncomputable abbrev jf(fa:FE)(g:List W->VH->Res W):FE:=λρ h=>(fa ρ h).bind λy h=>match y with|.tup ys=>g ys h|_=>.no
noncomputable def fC(K:aH)(r:List V->Hp->VK->Prop)(g:List W->VH->Res W):Prop:=∀(m:Nat->ah) (h:VH) (H:Hp) (vs:List V) (xs:List W) (w:W) (h':VH) (Q:VK),Rel K m h H->aF K m h.n H vs xs->g xs h=.ok w h'->aL K m h.n H w h' Q->r vs H Q
theorem Bg{id:String}{r:List V->Hp->VK->Prop}{g:List W->VH->Res W}(hc:b9 X (.builtin id) r)(hv:fC X.K r g)(hg:Gl X x)(hm:X.mg x=aC)(hb:bootBuiltins x=aB (.builtin id))(ha:SA X (e::es) fa)(hs:(e::es).all gU=true)
 (hn:x≠"__name__") (hdb:(x==("__debug__" : Str))=false):SE X (.Call (.Name x p) (e::es) [] pos) (jf fa g):=by
 rw[nU,bJ]at hs;exact(MM hc hg hm hb ha hn hdb (fM hs.1) (Bf hs.2)).imp λσ H Q q=>yx hv q
theorem HL{T:String}{r:List V->Hp->VK->Prop}{g:List W->VH->Res W}(hc:b9 X (.type T) r)(hv:fC X.K r g)(hg:Gl X x)(hm:X.mg x=aC)(hb:bootBuiltins x=aB (.type T))(ha:SA X (e::es) fa)(hs:(e::es).all gU=true)
 (hn:x≠"__name__") (hdb:(x==("__debug__" : Str))=false):SE X (.Call (.Name x p) (e::es) [] pos) (jf fa g):=by
 rw[nU,bJ]at hs;exact(S1 hc hg hm hb ha hn hdb (fM hs.1) (Bf hs.2)).imp λσ H Q q=>yx hv q
theorem fD{K:aH}{m:Nat->ah}{n:Nat}{H:Hp}{vs:List V}{w:W}(q:aF K m n H vs [w]):∃v,vs=[v]/\aI K m n H v w:=by cases q with|cons q r=>cases r;exact⟨_,rfl,q⟩
theorem V5{K:aH}:fC K (λxs H Q=>∃p ys,xs=[.ref p]/\(cR K H p ys\/cj K H p ys)/\Q (.int ys.length) H) iB:=by
 intro m h H vs xs w h' Q r q e k;unfold iB at e;split at e<;>try cases e
 rename_i x;obtain⟨v,rfl,q1⟩:=fD q;obtain⟨e,rfl⟩:=of_ok e;cases z:aR h' x with
 |none=>
  rw[z]at e;cases e
 |some ws=>
  rw[z]at e;cases e;obtain⟨p,us,rfl,h1,h2⟩:=yC r q1 z;exact⟨p,us,rfl,h1,by rw[h2.length];exact aL.here k r (.int _)⟩
theorem V6{K:aH}:fC K (λxs H Q=>∃p ys,xs=[.ref p]/\(cR K H p ys\/cj K H p ys)/\∀l,H l=aC->Q (.ref l) (upd H l (.lst ys))) kG:=by
 intro m h H vs xs w h' Q r q e k;unfold kG at e;split at e<;>try cases e
 rename_i x;obtain⟨v,rfl,q1⟩:=fD q;cases z:aR h x with
 |none=>rw[z]at e;cases e
 |some ws=>
  rw[z]at e;cases e;obtain⟨p,us,rfl,h1,h2⟩:=yC r q1 z;exact⟨p,us,rfl,h1,λl hl=>aL.list k r h2 hl⟩
theorem V7{K:aH}:fC K (λxs H Q=>∃p ys,xs=[.ref p]/\((cR K H p ys/\∀l,H l=aC->Q (.ref l) (upd H l (.tup ys)))\/(cj K H p ys/\Q (.ref p) H))) vR:=by
 intro m h H vs xs w h' Q r q e k;unfold vR at e;split at e<;>try cases e
 rename_i x;obtain⟨v,rfl,q1⟩:=fD q;obtain⟨e,rfl⟩:=of_ok e;cases z:aR h' x with
 |none=>
  rw[z]at e;cases e
 |some ws=>
  rw[z]at e;cases e;obtain⟨p,us,rfl,h1,h2⟩:=yC r q1 z;rcases h1 with h1|h1
  exact⟨p,us,rfl,.inl ⟨h1,λl hl=>aL.tuple k r h2 hl⟩⟩;exact⟨p,us,rfl,.inr ⟨h1,aL.here k r (.tup h1 h2)⟩⟩
theorem V8{K:aH}:fC K (λxs H Q=>(∃i,xs=[.int i]/\Q (.int i) H)\/∃k,xs=[.bl k]/\Q (.int (if k then 1 else 0)) H) rM:=by
 intro m h H vs xs w h' Q r q e k;unfold rM at e;split at e<;>try cases e
 obtain⟨v,rfl,q1⟩:=fD q;cases q1;exact .inl ⟨_,rfl,aL.here k r (.int _)⟩;obtain⟨v,rfl,q1⟩:=fD q;cases q1;exact .inr ⟨_,rfl,aL.here k r (.int _)⟩
theorem V9{K:aH}:fC K (λxs H Q=>∃i,xs=[.int i]/\Q (.int (if i<0 then -i else i)) H) lF:=by
 intro m h H vs xs w h' Q r q e k;unfold lF at e;split at e<;>try cases e
 obtain⟨v,rfl,q1⟩:=fD q;cases q1;exact⟨_,rfl,aL.here k r (.int _)⟩
theorem kK{K:aH}{m:Nat->ah}{n:Nat}{H:Hp}{vs:List V}{w z:W}(q:aF K m n H vs [w,z]):∃v u,vs=[v,u]/\aI K m n H v w/\aI K m n H u z:=by cases q with|cons q r=>obtain⟨u,rfl,h⟩:=fD r;exact⟨_,_,rfl,q,h⟩
theorem Ob{K:aH}{m:Nat->ah}{n:Nat}{H:Hp}:∀{vs:List V} {ws:List W} {is:List Int},aF K m n H vs ws->aY iZ ws=aB is->vs=is.map .int
 |_,_,_,.nil,e=>by cases e;rfl
 |_,_,_,.cons (w:=w) (ws:=ws) q r,e=>by
  unfold aY at e;cases z:iZ w with
  |none=>rw[z]at e;cases e
  |some b=>
   rw[z]at e;cases z2:aY iZ ws with
   |none=>rw[z2]at e;cases e
   |some cs=>
    rw[z2]at e;cases e;unfold iZ at z;split at z<;>cases z;cases q;rw[Ob r z2];rfl
theorem Oc:∀(r:List Int) (x:Int),x<=dI x r/\∀y∈r,y<=dI x r
 |[],x=>⟨Int.le_refl _,λ_ h=>nomatch h⟩
 |y::r,x=>by
  have h:=Oc r (if y>x then y else x);by_cases q:y>x;rw[if_pos q]at h;have e:dI x (y::r)=dI y r:=by show dI (if y>x then y else x) r=_;rw[if_pos q]
  rw[e];refine⟨by have:=h.1;lia,λz hz=>?_⟩;rcases gH.mp hz with rfl|hz
  exact h.1;exact h.2 z hz;rw[if_neg q]at h;have e:dI x (y::r)=dI x r:=by show dI (if y>x then y else x) r=_;rw[if_neg q]
  rw[e];refine⟨h.1,λz hz=>?_⟩;rcases gH.mp hz with rfl|hz
  have:=h.1;lia;exact h.2 z hz
theorem Od:∀(r:List Int) (x:Int),dI x r∈x::r
 |[],x=>fT
 |y::r,x=>by
  have h:=Od r (if y>x then y else x);by_cases q:y>x;rw[if_pos q]at h;have e:dI x (y::r)=dI y r:=by show dI (if y>x then y else x) r=_;rw[if_pos q]
  rw[e];exact fE _ h;rw[if_neg q]at h;have e:dI x (y::r)=dI x r:=by show dI (if y>x then y else x) r=_;rw[if_neg q]
  rw[e];rcases gH.mp h with h|h
  rw[h];exact fT;exact fE _ (fE _ h)
theorem Wa{K:aH}:fC K (λxs H Q=>(∃i j,xs=[.int i,.int j]/\Q (.int (if j>i then j else i)) H)\/∃(p:ah) (ns:List Int),xs=[.ref p]/\cR K H p (ns.map .int)/\0<ns.length/\∀M,M∈ns->(∀a∈ns,a<=M)->Q (.int M) H) ny:=by
 intro m h H vs xs w h' Q r q e k;unfold ny at e;split at e<;>try cases e
 obtain⟨v,u,rfl,q1,q2⟩:=kK q;cases q1;cases q2;exact .inl ⟨_,_,rfl,aL.here k r (.int _)⟩;rename_i i;split at e<;>try cases e
 rename_i ws g;split at e<;>try cases e
 rename_i x rs z;obtain⟨v,rfl,q1⟩:=fD q;cases q1;obtain⟨us,p1,p2⟩:=r.lst g;refine .inr ⟨_,x::rs,rfl,?_,Nat.succ_pos _,λM h1 h2=>?_⟩;rw[<-Ob p2 z];exact .inl (.inl p1);have l1:=Oc rs x;have hM:M=dI x rs:=by
  have a1:M<=dI x rs:=by rcases gH.mp h1 with rfl|h1;exact l1.1;exact l1.2 M h1
  have a2:=h2 _ (Od rs x);lia
 rw[hM];exact aL.here k r (.int _)
theorem Wb{K:aH}:fC K (λxs H Q=>∃i j,xs=[.int i,.int j]/\Q (.int (if j<i then j else i)) H) rN:=by
 intro m h H vs xs w h' Q r q e k;unfold rN at e;split at e<;>try cases e
 obtain⟨v,u,rfl,q1,q2⟩:=kK q;cases q1;cases q2;exact⟨_,_,rfl,aL.here k r (.int _)⟩
theorem Oe{K:aH}{m:Nat->ah}{n:Nat}{H:Hp}:∀{vs:List V} {ws:List W} {bs:List Bool},aF K m n H vs ws->aY uc ws=aB bs->vs=bs.map .bl
 |_,_,bs,.nil,e=>by cases e;rfl
 |_,_,bs,.cons (w:=w) (ws:=ws) q r,e=>by
  unfold aY at e;cases z:uc w with
  |none=>rw[z]at e;cases e
  |some b=>
   rw[z]at e;cases z2:aY uc ws with
   |none=>rw[z2]at e;cases e
   |some cs=>
    rw[z2]at e;cases e;unfold uc at z;split at z<;>cases z;cases q;rw[Oe r z2];rfl
theorem Wc{K:aH}:fC K (λxs H Q=>∃(p:ah) (bs:List Bool),xs=[.ref p]/\cR K H p (bs.map .bl)/\Q (.bl (bs.all id)) H) kH:=by
 intro m h H vs xs w h' Q r q e k;unfold kH at e;split at e<;>try cases e
 rename_i i;split at e<;>try cases e
 rename_i ws g;obtain⟨v,rfl,q1⟩:=fD q;obtain⟨e,rfl⟩:=of_ok e;cases z:aY uc ws with
 |none=>rw[z]at e;cases e
 |some bs=>
  rw[z]at e;cases e;cases q1;obtain⟨us,p1,p2⟩:=r.lst g;refine⟨_,bs,rfl,?_,aL.here k r (.bl _)⟩;rw[<-Oe p2 z];exact .inl (.inl p1)
noncomputable def rP:Ty->String|.int=>"int" |.bool=>"bool" |.tuple=>"tuple" |.list=>"list" |.str=>"str" |.dict=>"dict"
noncomputable def Bh(K:aH)(n:String):List V->Hp->VK->Prop:=λxs H Q=>∃x b,xs=[x,.ty n]/\((∃t,gp K H x t/\PySem.W.kitOne K t (.type n)=aB b)\/(∃a vs,x=.ref a/\cj K H a vs/\PySem.W.kitOne K (.type "tuple") (.type n)=aB b)\/∃a kvs,x=.ref a/\Rd H a (.dK kvs)/\PySem.W.kitOne K (.type "dict") (.type n)=aB b)/\Q (.bl b) H
theorem Wd(n:String):b9 X (.builtin "isinstance") (Bh X.K n):=by
 intro pins s σ H xs us Q I r h;obtain⟨x,b,rfl,hi,q⟩:=h;obtain⟨u,u2,rfl,rx,rc⟩:=vals2 r;obtain rfl:u2=Value.type n:=rc;rcases hi with⟨t,ty,e⟩|⟨a,vs,rfl,sq,e⟩|⟨a,kvs,rfl,rd,e⟩
 exact SR I rx ty e λtk=>⟨.bl b,H,I.tok _,rfl,q⟩
 obtain rfl:u=Value.ref a:=rx;obtain⟨its,_,p,_⟩:=I.tuple sq;obtain⟨o,h1,h2,_⟩:=p;exact mT PySem.W.kitx_tuple I.jr ⟨o,h1,h2⟩ e (λz=>nomatch z) λtk=>⟨.bl b,H,I.tok _,rfl,q⟩
 obtain rfl:u=Value.ref a:=rx;obtain⟨_,_,_,_,o,_,_,h1,h2,_⟩:=jv I.hok rd;exact mT PySem.W.kitx_dict I.jr ⟨o,h1,h2.1⟩ e (λz=>nomatch z) λtk=>⟨.bl b,H,I.tok _,rfl,q⟩
theorem We{K:aH}(t:Ty){m:Nat->ah}{h:VH}{H:Hp}{v:V}{x:W}{b:Bool}(r:Rel K m h H)(q:aI K m h.n H v x)(e:ck t h x=aB b) :
 (∃t',gp K H v t'/\PySem.W.kitOne K t' (.type (rP t))=aB b)\/(∃a vs,v=.ref a/\cj K H a vs/\PySem.W.kitOne K (.type "tuple") (.type (rP t))=aB b)\/∃a kvs,v=.ref a/\Rd H a (.dK kvs)/\PySem.W.kitOne K (.type "dict") (.type (rP t))=aB b:=by
 cases q with
 |aP=>cases e;refine .inl ⟨_,.aP,?_⟩;cases t<;>rfl
 |bl x=>cases e;refine .inl ⟨_,.bl x,?_⟩;cases t<;>rfl
 |int x=>cases e;refine .inl ⟨_,.int x,?_⟩;cases t<;>rfl
 |str x=>cases e;refine .inl ⟨_,.str x,?_⟩;cases t<;>rfl
 |tup sq rs=>cases e;refine .inr (.inl ⟨_,_,rfl,sq,?_⟩);cases t<;>rfl
 |fz _ _=>cases e
 | @ref i hi=>
  simp only[ck]at e;cases g:h.get i with
  |none=>rw[g]at e;cases e
  |some o=>
   rw[g]at e;cases o with
   |lst ws=>
    cases e;obtain⟨vs,h1,h2⟩:=r.lst g;refine .inl ⟨_,.lst h1,?_⟩;cases t<;>rfl
   |dk ws=>
    cases e;obtain⟨vs,h1,h2⟩:=r.dk g;refine .inr (.inr ⟨_,_,rfl,h1,?_⟩);cases t<;>rfl
   |dm _=>cases e
theorem Wf(t:Ty){T:Str}{p2:Pos}(ha:SE X e fa)(hs:gU e)(hg:Gl X "isinstance")(hm:X.mg "isinstance" = aC)(Wg:Gl X T)(Wh:X.mg T=aC)(Wi:bootBuiltins T=aB (.type (rP t)))(hn:T≠"__name__")(hd:(T==("__debug__" : Str))=false) :
 SE X (.Call (.Name "isinstance" p) [e,.Name T p2] [] pos) (λρ h=>(fa ρ h).bind λx h=>.of ((ck t h x).map .bl) h):=by
 have hT:PE X (.Name T p2) (tC (.ty (rP t))):=RB Wg Wh Wi rfl hn hd;refine(MM (Wd (rP t)) hg hm PyProof.Rows.boot_isinstance (yo ha (yo hT Ab) (fM hs)) (by decide) (by decide) (fM hs) rfl).imp λσ H Q q=>?_;refine NV (g:=λx h=>.of ((ck t h x).map .bl) h) (G:=λv H1 Q=>Bh X.K (rP t) [v,.ty (rP t)] H1 Q) (λm h H v x w h' Q r q e k=>?_) q;obtain⟨e,rfl⟩:=of_ok e;cases z:ck t h' x with
 |none=>rw[z]at e;cases e
 |some b=>
  rw[z]at e;cases e;exact⟨v,b,rfl,We t r q z,aL.here k r (.bl b)⟩
noncomputable def Bj:ao->Bool|.Name .. |.Subscript ..=>true|_=>false
theorem HM{o:ao}{m:Str}{env:Env}(h:Bj o):attributeBase o m env (eval o env)=eval o env:=by cases o<;>first|rfl|cases h
noncomputable abbrev HN(m:Mt)(fo fa:FE):FE:=λρ h=>(fo ρ h).bind λx h=>if kI m h x then(fa ρ h).bind λy h=>match y with|.tup ys=>jW m x ys h|_=>.no else .no
theorem Wj{apos:Pos}(ho:SE X o fo)(he:SE X e fa)(hb:Bj o)(hs:gU e)(hl:(apos.endLine==pos.line)) :
 SE X (.Call (.Attribute o "append" apos) [e] [] pos) (HN .append fo (iu fa kJ)):=by
 refine(tW (X:=X) PySem.F.plainAttrs_list PySem.F.slot_list_append PySem.F.type_list_append GG ho (yo he Ab (fM hs)) (HM hb) ?_ hl (fM hs) rfl).imp λσ H Q z9=>z9.el λρ h m w h' f r e k=>?_;rw[fM hs];rfl;refine bF e λx h1 e1 e2=>?_;split at e2;rename_i hk;refine bF e2 λy h2 e3 e4=>?_;refine bF e3 λz h3 e5 e6=>?_;cases e6;refine(.mk f r e1 λv H1 m1 s1 r1 q1=>?_);cases x<;>try cases hk
 rename_i i;simp only[kI]at hk;cases g:h1.get i with
 |none=>rw[g]at hk;cases hk
 |some ob=>
  rw[g]at hk;cases ob with
  |dk _=>cases hk
  |dm _=>cases hk
  |lst Of=>
   cases q1;obtain⟨tY,p1,_⟩:=r1.lst g;refine⟨.inl ⟨rfl,tY,cR.of p1⟩,ρ,h1,m1,z,h2,f.stp s1,r1,e5,λv2 H2 m2 s2 r2 q2=>?_⟩;simp only[jW]at e4;cases g2:h2.get i with
   |none=>rw[g2]at e4;cases e4
   |some ob=>
    rw[g2]at e4;cases ob with
    |dk _=>cases e4
    |dm _=>cases e4
    |lst ws=>
     simp only at e4;split at e4;rename_i hz;cases e4;obtain⟨vs,p2,p3⟩:=r2.lst g2;have hmi:m1 i=m2 i:=(s2.same i (bU g)).symm;refine⟨m1 i,vs,v2,rfl,rfl,by rw[hmi];exact p2,by rw[p3.length];exact iC.mp hz,?_⟩;obtain⟨st,r'⟩:=r2.write (i:=i) (o:=.lst (ws++[z])) (u:=.lst (vs++[v2])) (bU g2) p2 (λ_ z=>nomatch z) (λ_ _ z=>nomatch z) λst=>⟨vs++[v2],fG,(p3.stp st).append (.cons (q2.stp st) .nil)⟩
     rw[hmi];exact k .aP _ m2 ((s1.trans s2).trans st) r' .aP;cases e4
 cases e2
theorem Wk{apos:Pos}(hu:X.A.units+1<cLine)(ho:SE X o fo)(ha:SE X a fa)(GH:SE X b fb)(hb:Bj o)(hs:gU a)(hs2:gU b)(hl:(apos.endLine==pos.line)) :
 SE X (.Call (.Attribute o "get" apos) [a,b] [] pos) (HN .get fo (iu fa (iu fb kJ))):=by
 have tr:backTo pos (starEach [a,b] X.env)=[(false,eval a X.env),(false,eval b X.env)]:=by rw[fM hs,fM hs2];rfl
 refine(Ur hu ho ha GH ⟨HM hb,by rw[tr];rfl,hl,tr⟩).imp λσ H Q z9=>z9.el λρ h m w h' f r e k=>?_;refine bF e λx h1 e1 e2=>?_;split at e2;rename_i hk;refine bF e2 λy h2 e3 e4=>?_;refine bF e3 λz h3 e5 e6=>?_;refine bF e6 λy2 h4 e7 e8=>?_;refine bF e7 λz2 h5 e9 vY=>?_;cases vY;cases e8;refine(.mk f r e1 λv H1 m1 s1 r1 q1=>?_);cases x<;>try cases hk
 rename_i i;simp only[kI]at hk;cases g:h1.get i with
 |none=>rw[g]at hk;cases hk
 |some ob=>
  rw[g]at hk;cases ob with
  |lst _=>cases hk
  |dk Of=>
   cases q1;obtain⟨tY,p1,_⟩:=r1.dk g;refine⟨m1 i,rfl,.inl ⟨tY,p1⟩,ρ,h1,m1,z,h3,f.stp s1,r1,e5,λv2 H2 m2 s2 r2 q2=>(.mk ((f.stp s1).stp s2) r2 e9 λv3 H3 m3 s3 r3 q3=>?_)⟩;simp only[jW]at e4;split at e4;rename_i kvs kk g2 hkk;cases e4;obtain⟨vs,p2,p3⟩:=r3.dk g2;have hmi:m1 i=m3 i:=((s3.same i (di (bU g) s2.le)).trans (s2.same i (bU g))).symm;have hv:=yE (q2.stp s3) hkk;subst hv;refine⟨eZ vs kk,by rw[hmi];exact .inl ⟨vs,kk,p2,rfl,rfl⟩,?_⟩;have oW:=(s1.trans s2).trans s3;rcases p3.look kk with⟨z1,z2⟩|⟨v',w',z1,z2,z3⟩
   rw[z1];rw[z2]at k;exact k _ H3 m3 oW r3 q3;rw[z1];rw[z2]at k;exact k _ H3 m3 oW r3 z3;rename_i kvs kk g2 hkk;cases e4;obtain⟨vs,p2,p3⟩:=r3.dm g2;have hmi:m1 i=m3 i:=((s3.same i (di (bU g) s2.le)).trans (s2.same i (bU g))).symm;have hv:=yE (q2.stp s3) hkk;subst hv;refine⟨eZ vs kk,by rw[hmi];exact .inl ⟨vs,kk,.inl p2,rfl,rfl⟩,?_⟩;have oW:=(s1.trans s2).trans s3;rcases p3.look kk with⟨z1,z2⟩|⟨v',w',z1,z2,z3⟩
   rw[z1];rw[z2]at k;exact k _ H3 m3 oW r3 q3;rw[z1];rw[z2]at k;exact k _ H3 m3 oW r3 z3;cases e4
  |dm Of=>
   cases q1;obtain⟨tY,p1,_⟩:=r1.dm g;refine⟨m1 i,rfl,.inl ⟨tY,.inl p1⟩,ρ,h1,m1,z,h3,f.stp s1,r1,e5,λv2 H2 m2 s2 r2 q2=>(.mk ((f.stp s1).stp s2) r2 e9 λv3 H3 m3 s3 r3 q3=>?_)⟩;simp only[jW]at e4;split at e4;rename_i kvs kk g2 hkk;cases e4;obtain⟨vs,p2,p3⟩:=r3.dk g2;have hmi:m1 i=m3 i:=((s3.same i (di (bU g) s2.le)).trans (s2.same i (bU g))).symm;have hv:=yE (q2.stp s3) hkk;subst hv;refine⟨eZ vs kk,by rw[hmi];exact .inl ⟨vs,kk,p2,rfl,rfl⟩,?_⟩;have oW:=(s1.trans s2).trans s3;rcases p3.look kk with⟨z1,z2⟩|⟨v',w',z1,z2,z3⟩
   rw[z1];rw[z2]at k;exact k _ H3 m3 oW r3 q3;rw[z1];rw[z2]at k;exact k _ H3 m3 oW r3 z3;rename_i kvs kk g2 hkk;cases e4;obtain⟨vs,p2,p3⟩:=r3.dm g2;have hmi:m1 i=m3 i:=((s3.same i (di (bU g) s2.le)).trans (s2.same i (bU g))).symm;have hv:=yE (q2.stp s3) hkk;subst hv;refine⟨eZ vs kk,by rw[hmi];exact .inl ⟨vs,kk,.inl p2,rfl,rfl⟩,?_⟩;have oW:=(s1.trans s2).trans s3;rcases p3.look kk with⟨z1,z2⟩|⟨v',w',z1,z2,z3⟩
   rw[z1];rw[z2]at k;exact k _ H3 m3 oW r3 q3;rw[z1];rw[z2]at k;exact k _ H3 m3 oW r3 z3;cases e4
 cases e2
end
section
variable{K:aH}{m m' m1:Nat->ah}{n n' n1:Nat}{h h':VH}{H H' H1:Hp}
mutual
theorem aI.mono(hn:n<=n')(hm:∀i,i<n->m' i=m i)(kt:∀b vs,H b=aB (.tup vs)->H' b=aB (.tup vs))(kf:∀b o u,H b=aB (.bC o u)->H' b=aB (.bC o u)):∀{v:V} {w:W},aI K m n H v w->aI K m' n' H' v w
 |_,_,.aP=>.aP
 |_,_,.bl b=>.bl b
 |_,_,.int b=>.int b
 |_,_,.str b=>.str b
 |_,_,.tup q r=>.tup (by
  rcases q with(q|⟨o,q⟩)|q;exact .inl (.inl (kt _ _ q));exact .inl (.inr ⟨o,kf _ _ _ q⟩);exact .inr q) (aF.mono hn hm kt kf r)
 |_,_,.fz q r=>.fz (by
  rcases q with⟨o,q⟩|q;exact .inl ⟨o,kf _ _ _ q⟩;exact .inr q) (aF.mono hn hm kt kf r)
 |_,_,.ref (i:=i) q=>by rw[<-hm i q];exact .ref (di q hn)
theorem aF.mono(hn:n<=n')(hm:∀i,i<n->m' i=m i)(kt:∀b vs,H b=aB (.tup vs)->H' b=aB (.tup vs))(kf:∀b o u,H b=aB (.bC o u)->H' b=aB (.bC o u)):∀{vs:List V} {ws:List W},aF K m n H vs ws->aF K m' n' H' vs ws|_,_,.nil=>.nil|_,_,.cons q r=>.cons (aI.mono hn hm kt kf q) (aF.mono hn hm kt kf r)
end
theorem Rel.side(r:Rel K m h H){D:ah}{u u0:HO}(hu:H D=aB u0)(ht:∀t,u0≠.tup t)(hf:∀o t,u0≠.bC o t)(ho:∀i,i<h.n->m i≠D)(s:bO m1 n1 H1 m h.n H)(h0:H1 D=aC) :
 bO m1 n1 H1 m h.n (upd H D u)/\Rel K m h (upd H D u)/\∀{v:V}{w:W},aI K m h.n H v w->aI K m h.n (upd H D u) v w:=by
 have kt:∀b vs,H b=aB (.tup vs)->upd H D u b=aB (.tup vs):=λb vs q=>by rw[bP (bZ q hu λz=>ht vs z.symm)];exact q
 have kf:∀b o t,H b=aB (.bC o t)->upd H D u b=aB (.bC o t):=λb o t q=>by rw[bP (bZ q hu λz=>hf o t z.symm)];exact q
 have mv:∀{v:V}{w:W},aI K m h.n H v w->aI K m h.n (upd H D u) v w:=λq=>q.mono (aZ _) (λ_ _=>rfl) kt kf;refine⟨⟨s.le,s.same,s.new,s.apart,λb vs q=>kt b vs (s.tup b vs q),λb o t q=>kf b o t (s.bC b o t q),λb o nb q=>by rw[bP (iJ q h0)];exact s.keep b o nb q⟩,⟨λi hi=>?_,r.inj,r.len⟩,mv⟩;obtain⟨o,h1,h2⟩:=r.obj i hi;have eq:upd H D u (m i)=H (m i):=bP (ho i hi);refine⟨o,h1,?_⟩;cases o with|lst ws=>obtain⟨vs,q1,q2⟩:=h2;exact⟨vs,eq.trans q1,q2.map mv⟩|dk ws=>obtain⟨vs,q1,q2⟩:=h2;exact⟨vs,q1.imp (λz=>eq.trans z) λ⟨o,z⟩=>⟨o,eq.trans z⟩,q2.map mv⟩|dm ws=>obtain⟨vs,q1,q2⟩:=h2;exact⟨vs,eq.trans q1,q2.map mv⟩
theorem Rel.out(r:Rel K m h H){p:ah}(hp:H p=aC):∀i,i<h.n->m i≠p:=λi hi z=>by
 obtain⟨o',_,h2⟩:=r.obj i hi;obtain⟨u',h3⟩:=h2.some;rw[z,hp]at h3;cases h3
theorem bO.out(s:bO m n H m' n' H'){p:ah}{u:HO}(hp:∀i,i<n->m i≠p)(hu:H p=aB u):∀i,i<n'->m' i≠p:=λi hi z=>by
 by_cases hl:i<n;exact hp i hl ((s.same i hl).symm.trans z);have:=s.new i (jH.mp hl) hi;rw[z,hu]at this;cases this
end
inductive iT(K:aH)(m:Nat->ah)(n:Nat)(H:Hp):List (V×V)->List W->Prop
 |nil:iT K m n H [] []
 |cons {k v:V} {a b:W} {ps:List (V×V)} {ws:List W}:aI K m n H k a->aI K m n H v b->iT K m n H ps ws->iT K m n H ((k,v)::ps) (a::b::ws)
noncomputable def oX(K:aH)(f:FE)(σ:L2.St)(H:Hp)(Q:List (V×V)->Hp->Prop):Prop:=∃ρ h m ws h',Fr K m h.n H σ ρ/\Rel K m h H/\f ρ h=.ok (.tup ws) h'/\
 ∀ps H' m',bO m h.n H m' h'.n H'->Rel K m' h' H'->iT K m' h'.n H' ps ws->Q ps H'
theorem oX.el{K:aH}{σ:L2.St}{H:Hp}{P:Prop}{fa:FE}{Q:List (V×V)->Hp->Prop}(q:oX K fa σ H Q)(k:∀ρ h m ws h',Fr K m h.n H σ ρ->Rel K m h H->fa ρ h=.ok (.tup ws) h'->(∀ps H' m',bO m h.n H m' h'.n H'->Rel K m' h' H'->iT K m' h'.n H' ps ws->Q ps H')->P):P:=by obtain⟨ρ,h,m,w,h',f,r,e,k'⟩:=q;exact k ρ h m w h' f r e k'
theorem oX.mk{K:aH}{σ:L2.St}{H:Hp}{m:Nat->ah}{ρ:En}{h h':VH}{ws:List W}{fa:FE}{Q:List (V×V)->Hp->Prop}(f:Fr K m h.n H σ ρ)(r:Rel K m h H)(e:fa ρ h=.ok (.tup ws) h')(k:∀ps H' m',bO m h.n H m' h'.n H'->Rel K m' h' H'->iT K m' h'.n H' ps ws->Q ps H'):oX K fa σ H Q:=⟨ρ,h,m,ws,h',f,r,e,k⟩
noncomputable def Bk(X:Cx)(pos:Pos)(keys:List (Option ao))(values:List ao)(f:FE):Prop:=∃l8,Az X pos keys values l8/\∀σ H Q,oX X.K f σ H Q->D9 l8 σ H Q
section
variable{X:Cx}{a b c e o:ao}{es:List ao}{fa fb fc fo fr:FE}{pos p:Pos}{x:Str}
theorem Wl:Bk X pos [] [] kJ:=⟨[],Uk,λσ H Q z9=>z9.el λρ h m ws h' f r e k=>by cases e;exact k [] H m .refl r .nil⟩
theorem Wm{ks:List (Option ao)}{vs:List ao}(ha:SE X a fa)(hb:SE X b fb)(hr:Bk X pos ks vs fr):Bk X pos (aB a::ks) (b::vs) (iu fa (iu fb fr)):=by
 obtain⟨l8,h1,h2⟩:=hr;refine⟨_,Ul ha hb h1,λσ H Q z9=>z9.el λρ h m ws h' f r e k=>?_⟩;refine bF e λx h3 e1 e2=>?_;refine bF e2 λy h4 e3 e4=>?_;refine bF e3 λx2 h5 e5 e6=>?_;refine bF e6 λy2 h6 e7 e8=>?_;cases y2<;>try cases e8
 cases e4;rename_i ys;exact(.mk f r e1 λv H1 m1 s1 r1 q1=>(.mk (f.stp s1) r1 e5 λv2 H2 m2 s2 r2 q2=>h2 σ H2 _ (.mk ((f.stp s1).stp s2) r2 e7 λps H3 m3 s3 r3 q3=>
  k _ H3 m3 ((s1.trans s2).trans s3) r3 (.cons ((q1.stp s2).stp s3) (q2.stp s3) q3))))
theorem Og{K:aH}{m:Nat->ah}{n:Nat}{H:Hp}:∀{ps:List (V×V)} {ws:List W} {kws:List (Key×W)},iT K m n H ps ws->vV ws=aB kws->∃kvs:List (Key×V),ps=kvs.map (λkv=>(kV kv.1,kv.2))/\aK K m n H kvs kws
 |_,_,_,.nil,e=>by cases e;exact⟨[],rfl,.nil⟩
 |_,_,_,.cons (a:=a) (v:=v) q1 q2 r,e=>by
  simp only[vV]at e;split at e;rename_i k hk;split at e;rename_i kvs hp;cases e;obtain⟨kv,rfl,r'⟩:=Og r hp;refine⟨(k,v)::kv,?_,.cons q2 r'⟩;rw[fm,yE q1 hk];cases e;cases e
noncomputable abbrev HP(f:FE):FE:=λρ h=>(f ρ h).bind λy h=>match y with
 |.tup ys=>(match vV ys with
  |some kvs=>if Nat.ble kvs.length 15 then .ok (.ref h.n) (h.new (A0 kvs))else .no
  |none=>.no)
 |_=>.no
theorem Wn(hu:X.A.units+2<cLine){keys:List (Option ao)}{values:List ao}(hp:Bk X pos keys values fa)(hall:keys.all (·.isSome))(hl:keys.length=values.length)(h0:keys≠[])(Hj:keys.length<=15):SE X (.Dict keys values pos) (HP fa):=by
 obtain⟨l8,h1,h2⟩:=hp;refine(Um h1 hall hl h0 Hj).imp λσ H Q z9 p hp=>z9.el λρ h m w h' f r e k=>?_;refine bF e λy h3 e1 e2=>?_;cases y<;>try cases e2
 rename_i ys;obtain⟨jg,r0⟩:=r.more (u:=.dK []) hp;refine h2 σ _ _ (.mk (f.stp jg) r0 e1 λps H2 m2 s2 r2 q2=>?_);have hout:=s2.out (r.out hp) fG;have hD:H2 p=aB (.dK []):=s2.keep p _ (r.out hp) fG;refine⟨hD,?_⟩;have e2:(match vV ys with|some kvs=>if Nat.ble kvs.length 15 then Res.ok (W.ref h3.n) (h3.new (A0 kvs))else .no|none=>.no)=.ok w h':=e2
 cases hk:vV ys with
 |none=>
  rw[hk]at e2;cases e2
 |some kws=>
  rw[hk]at e2;have e2:(if Nat.ble kws.length 15 then Res.ok (W.ref h3.n) (h3.new (A0 kws))else .no)=.ok w h':=e2;by_cases hz:Nat.ble kws.length 15=true;rw[if_pos hz]at e2;cases e2;obtain⟨kvs,e3,q3⟩:=Og q2 hk;refine⟨kvs,e3,by rw[q3.length];exact lu hz,?_⟩;obtain⟨st,r'⟩:=r2.adopt (o:=A0 kws) (u:=.dK (qg [] kvs)) hout hD (λ_ z=>nomatch z) (λ_ _ z=>nomatch z) (jg.trans s2) hp λ_ mv=>⟨_,.inl fG,(q3.merge .nil).map mv⟩
  refine k _ _ _ st r' ?_;have:aI X.K (λi=>if i=h3.n then p else m2 i) (h3.n+1) (upd H2 p (.dK (qg [] kvs))) (.ref ((λi=>if i=h3.n then p else m2 i) h3.n)) (.ref h3.n):=.ref (fY _);simp only[bY]at this;exact this;rw[if_neg hz]at e2;cases e2
noncomputable def oY(K:aH)(np:Nat)(g:List W->VH->Res W):Sp:=λvs H Q _=>vs.length=np/\∃h m ws w h',Rel K m h H/\aF K m h.n H vs ws/\g ws h=.ok w h'/\aL K m h.n H w h' Q
theorem Wo{k:Nat}{f:ah}{fd:au}{ps:List Str}{g:List W->VH->Res W}(F:fH X.prog X.w X.K X.mg X.base l6 k f fd ps (oY X.K ps.length g))(hr:dw k X.A)(hg:Gl X x)(hm:X.mg x=aB (.ref f))(hk:PySem.W.keepIn X.K (.ref f)=true)
 (hb:Binds X.K fd ps []) (ha:SA X (e::es) fa) (hs:(e::es).all gU) (hdb:(x==("__debug__" : Str))=false) (hn:∀ws h w h',g ws h=.ok w h'->ws.length=ps.length):SE X (.Call (.Name x p) (e::es) [] pos) (jf fa g):=by
 rw[nU,bJ]at hs;refine(ME F hr hg hm hk hb .nil oM ha hdb (fM hs.1) (Bf hs.2)).imp λσ H Q q=>yx (G:=λvs H1 Q=>oY X.K ps.length g (vs++[]) H1 Q E0) (λm h H vs xs w h' Q r q e k=>?_) q;rw[oA];exact⟨by rw[q.length];exact hn _ _ _ _ e,h,m,xs,w,h',r,q,e,k⟩
theorem Wq{k:Nat}{f:ah}{fd:au}{ps:List Str}{g:List W->VH->Res W}(F:fH X.prog X.w X.K X.mg X.base l6 k f fd ps (oY X.K ps.length g))(hr:dw k X.A)(hg:Gl X x)(hm:X.mg x=aB (.ref f))(hk:PySem.W.keepIn X.K (.ref f)=true)
 (hb:Binds X.K fd ps []) (hdb:(x==("__debug__" : Str))=false) (hn:∀ws h w h',g ws h=.ok w h'->ws.length=ps.length):SE X (.Call (.Name x p) [] [] pos) (jf kJ g):=by
 refine(SY F hr hg hm hk hb .nil oM hdb).imp λσ H Q z9=>z9.el λρ h m w h' f r e k=>?_;exact⟨hn _ _ _ _ e,h,m,[],w,h',r,.nil,e,k⟩
theorem Wr{k:Nat}{f:ah}{fd:au}{ps:List Str}{g:List W->VH->Res W}(F:fH X.prog X.w X.K X.mg X.base l6 k f fd ps (oY X.K ps.length g))(hr:dw k X.A)(hg:Gl X x)(hm:X.mg x=aB (.ref f))(hk:PySem.W.keepIn X.K (.ref f)=true)
 (hb:Binds X.K fd ps [.none]) (ha:SA X (e::es) fa) (hs:(e::es).all gU) (hdb:(x==("__debug__" : Str))=false) (hn:∀ws h w h',g ws h=.ok w h'->ws.length=ps.length):SE X (.Call (.Name x p) (e::es) [] pos) (jf fa λws h=>g (ws++[.aP]) h):=by
 rw[nU,bJ]at hs;refine(ME F hr hg hm hk hb (oH:=[V.aP]) (.cons rfl .nil) oM ha hdb (fM hs.1) (Bf hs.2)).imp λσ H Q q=>yx (G:=λvs H1 Q=>oY X.K ps.length g (vs++[V.aP]) H1 Q E0) (λm h H vs xs w h' Q r q e k=>?_) q;have q':aF X.K m h.n H (vs++[V.aP]) (xs++[W.aP]):=q.append (.cons .aP .nil);exact⟨by rw[q'.length];exact hn _ _ _ _ e,h,m,xs++[W.aP],w,h',r,q',e,k⟩
noncomputable def jh(K:aH)(nx:Nat->VH->Option (Option W))(J:It)(P:(Nat->ah)->Nat->Hp->Prop):Prop:=
 (∀m n H m' n' H',n<=n'->(∀i,i<n->m' i=m i)->(∀b vs,H b=aB (.tup vs)->H' b=aB (.tup vs))->(∀b o u,H b=aB (.bC o u)->H' b=aB (.bC o u))->P m n H->P m' n' H')/\
 ∀m h H,Rel K m h H->P m h.n H->∀i,(∀w,nx i h=aB (aB w)->J.go i H/\∀y H3,J.tS i H y H3->bO m h.n H m h.n H3/\Rel K m h H3/\aI K m h.n H3 y w)/\(nx i h=aB aC->J.stop i H)
noncomputable def bW(K:aH)(kd:Kd)(f:FE):TI:=λσ H R=>∃ρ h m x h',Fr K m h.n H σ ρ/\Rel K m h H/\f ρ h=.ok x h'/\(∃o,aW kd x 0 h'=aB o)/\
 ∀J P H' m',bO m h.n H m' h'.n H'->Rel K m' h' H'->jh K (aW kd x) J P->P m' h'.n H'->R J H'
theorem bW.el{K:aH}{σ:L2.St}{H:Hp}{P:Prop}{kd:Kd}{fa:FE}{R}(q:bW K kd fa σ H R)(k:∀ρ h m x h',Fr K m h.n H σ ρ->Rel K m h H->fa ρ h=.ok x h'->∀o,aW kd x 0 h'=aB o->(∀J P H' m',bO m h.n H m' h'.n H'->Rel K m' h' H'->jh K (aW kd x) J P->P m' h'.n H'->R J H')->P):P:=by obtain⟨ρ,h,m,w,h',f,r,e,⟨o,eo⟩,k'⟩:=q;exact k ρ h m w h' f r e o eo k'
theorem bW.mk{K:aH}{σ:L2.St}{H:Hp}{m:Nat->ah}{ρ:En}{h h':VH}{x:W}{kd:Kd}{fa:FE}{R}(f:Fr K m h.n H σ ρ)(r:Rel K m h H)(e:fa ρ h=.ok x h')(eo:∃o,aW kd x 0 h'=aB o)(k:∀J P H' m',bO m h.n H m' h'.n H'->Rel K m' h' H'->jh K (aW kd x) J P->P m' h'.n H'->R J H'):bW K kd fa σ H R:=⟨ρ,h,m,x,h',f,r,e,eo,k⟩
theorem HQ{K:aH}{H H':Hp}{a:ah}{vs:List V}(kt:∀b vs,H b=aB (.tup vs)->H' b=aB (.tup vs))(kf:∀b o u,H b=aB (.bC o u)->H' b=aB (.bC o u))(q:cj K H a vs):cj K H' a vs:=by rcases q with(q|⟨o,q⟩)|q;exact .inl (.inl (kt _ _ q));exact .inl (.inr ⟨o,kf _ _ _ q⟩);exact .inr q
theorem Oh{K:aH}{H H':Hp}{a:ah}{vs:List V}(kf:∀b o u,H b=aB (.bC o u)->H' b=aB (.bC o u))(q:Fz K H a vs):Fz K H' a vs:=by rcases q with⟨o,q⟩|q;exact .inl ⟨o,kf _ _ _ q⟩;exact .inr q
theorem yF{ws:List W}{h:VH}{x:W}{i:Nat}{o:Option W}(e:aR h x=aB ws)(q:aW .seq x i h=aB o):ws[i]?=o:=by simp only[aW,e]at q;cases q;rfl
theorem Ws{K:aH}{a:ah}{vs:List V}{ws:List W}:jh K (aW .seq (.tup ws)) (Gk K a) (λm n H=>cj K H a vs/\aF K m n H vs ws):=by refine⟨λm n H m' n' H' hn hm kt kf ⟨q1,q2⟩=>⟨HQ kt kf q1,q2.mono hn hm kt kf⟩,λm h H r ⟨q1,q2⟩ i=>⟨λw e=>?_,λe=>?_⟩⟩;have e:=yF (ws:=ws) rfl e;obtain⟨v,h1,h2⟩:=q2.get e;refine⟨⟨vs,v,q1,h1⟩,λy H3 ⟨e3,y3⟩=>?_⟩;subst e3;have:=y3 vs q1;rw[h1]at this;cases this;exact⟨.refl,r,h2⟩;have e:=yF (ws:=ws) rfl e;exact⟨vs,q1,by rw[q2.length];exact ou.mp e⟩
theorem Bl{K:aH}{a:ah}{vs:List V}{ws:List W}:jh K (aW .seq (.fz ws)) (DL K a) (λm n H=>Fz K H a vs/\aF K m n H vs ws):=by refine⟨λm n H m' n' H' hn hm kt kf ⟨q1,q2⟩=>⟨Oh kf q1,q2.mono hn hm kt kf⟩,λm h H r ⟨q1,q2⟩ i=>⟨λw e=>?_,λe=>?_⟩⟩;have e:=yF (ws:=ws) rfl e;obtain⟨v,h1,h2⟩:=q2.get e;refine⟨⟨vs,v,q1.sq,h1⟩,λy H3 ⟨e3,y3⟩=>?_⟩;subst e3;have:=y3 vs q1.sq;rw[h1]at this;cases this;exact⟨.refl,r,h2⟩;have e:=yF (ws:=ws) rfl e;exact⟨vs,q1.sq,by rw[q2.length];exact ou.mp e⟩
theorem Wt{K:aH}{a:ah}{l:Nat}:jh K (aW .seq (.ref l)) (DL K a) (λm n H=>l<n/\a=m l):=by
 refine⟨λm n H m' n' H' hn hm kt kf ⟨q1,q2⟩=>⟨di q1 hn,by rw[hm l q1];exact q2⟩,λm h H r ⟨q1,q2⟩ i=>?_⟩;subst q2;cases g:h.get l with
 |none=>exact⟨λw e=>by simp[aW,aR,g]at e,λe=>by simp[aW,aR,g]at e⟩
 |some o=>
  cases o with
  |dk _=>exact⟨λw e=>by simp[aW,aR,g]at e,λe=>by simp[aW,aR,g]at e⟩
  |dm _=>exact⟨λw e=>by simp[aW,aR,g]at e,λe=>by simp[aW,aR,g]at e⟩
  |lst ws=>
   have hs:aR h (.ref l)=aB ws:=by simp[aR,g]
   obtain⟨vs,p1,p2⟩:=r.lst g;refine⟨λw e=>?_,λe=>?_⟩;have e:=yF hs e;obtain⟨v,h1,h2⟩:=p2.get e;refine⟨⟨vs,v,cR.of p1,h1⟩,λy H3 ⟨e3,y3⟩=>?_⟩;subst e3;have:=y3 vs (cR.of p1);rw[h1]at this;cases this;exact⟨.refl,r,h2⟩;have e:=yF hs e;exact⟨vs,cR.of p1,by rw[p2.length];exact ou.mp e⟩
theorem Oi{K:aH}{kd:Kd}{x:W}{lo:Int}{k:Nat}(hx:∀i h,aW kd x i h=aB (if i<k then aB (.int (lo+i))else aC)):jh K (aW kd x) (zM lo k) (λ_ _ _=>True):=by refine⟨λ_ _ _ _ _ _ _ _ _ _ _=>trivial,λm h H r _ i=>⟨λw e=>?_,λe=>?_⟩⟩;rw[hx]at e;split at e;rename_i hi;cases e;refine⟨hi,λy H3 ⟨e3,y3⟩=>?_⟩;subst e3 y3;exact⟨.refl,r,.int _⟩;cases e;rw[hx]at e;split at e;cases e;rename_i hi;exact jH.mp hi
theorem HR{tg:ao}(ha:SE X e fa):PI X tg e (bW X.K .seq fa):=λpins s σ H R I z9=>z9.el λρ h m x h' f r ee o en k=>by
 have hs:∃ws,aR h' x=aB ws:=by
  cases z:aR h' x with|none=>simp[aW,z]at en|some ws=>exact⟨ws,rfl⟩
 obtain⟨ws,hs⟩:=hs;cases x<;>try cases hs
 exact Sa ha pins s σ H R I (.mk f r ee λv H' m' s' r' q=>by
  cases q with|tup sq rs=>exact⟨_,rfl,⟨_,sq⟩,k _ _ H' m' s' r' Ws ⟨sq,rs⟩⟩)
 exact MA ha pins s σ H R I (.mk f r ee λv H' m' s' r' q=>by
  cases q with|fz sq rs=>exact⟨_,rfl,⟨_,sq.sq⟩,k _ _ H' m' s' r' Bl ⟨sq,rs⟩⟩)
 rename_i l;exact MA ha pins s σ H R I (.mk f r ee λv H' m' s' r' q=>by
  obtain⟨p,vs,e1,e2,e3⟩:=yC r' q hs;cases q with
  |ref hi=>
   cases g:h'.get l with
   |none=>simp[aR,g]at hs
   |some ob=>
    cases ob with
    |dk _=>simp[aR,g]at hs
    |dm _=>simp[aR,g]at hs
    |lst Oj=>
     obtain⟨vs',p1,_⟩:=r'.lst g;exact⟨_,rfl,⟨_,cR.of p1⟩,k _ _ H' m' s' r' Wt ⟨hi,rfl⟩⟩)
theorem Wu{tg:ao}(ha:SA X [e] fa)(hs:gU e)(hg:Gl X "range")(hm:X.mg "range" = aC):PI X tg (.Call (.Name "range" p) [e] [] pos) (bW X.K .bR fa):=λpins s σ H R I z9=>z9.el λρ h m x h' f r ee o en k=>by
 simp only[aW]at en;split at en;rename_i j;split at en;rename_i hf;refine Sb hg hm ha (fM hs) pins s σ H R I (.mk f r ee λvs H' m' s' r' q=>?_);obtain⟨v,rfl,q1⟩:=fD q;cases q1;refine⟨_,rfl,(vW hf).1,(vW hf).2,k _ _ H' m' s' r' (Oi λi h=>?_) trivial⟩;simp only[aW,hf,bY];split<;>split<;>first|rfl|(exfalso;simp at *;lia)
 cases en;cases en
theorem Wv{tg:ao}(ha:SA X [a,b] fa)(hs:gU a)(hs2:gU b)(hg:Gl X "range")(hm:X.mg "range" = aC):PI X tg (.Call (.Name "range" p) [a,b] [] pos) (bW X.K .gQ fa):=λpins s σ H R I z9=>z9.el λρ h m x h' f r ee o en k=>by
 simp only[aW]at en;split at en;rename_i i j;split at en;rename_i hf;refine Se hg hm ha (by rw[fM hs,fM hs2];rfl) (fM hs2) pins s σ H R I (.mk f r ee λvs H' m' s' r' q=>?_);obtain⟨v,u,rfl,q1,q2⟩:=kK q;cases q1;cases q2;have hf2:=hf;rw[bJ]at hf2;refine⟨_,_,rfl,⟨(vW hf2.1).1,(vW hf2.1).2,(vW hf2.2).1,(vW hf2.2).2⟩,k _ _ H' m' s' r' (Oi λi h=>?_) trivial⟩;simp only[aW,hf,bY];split<;>split<;>first|rfl|(exfalso;simp at *;lia)
 cases en;cases en
noncomputable def Ww(tl:TE):TI:=λσ H R=>tl σ H λx H1=>∃a kvs,x=.ref a/\((∃ob,H1 a=aB (.bC ob (.dK kvs))/\R (AN a ob kvs) H1)\/(H1 a=aB (.dK kvs)/\∀ob,R (AN a ob kvs) (upd H1 a (.bC ob (.dK kvs)))))
theorem Wx{tg l:ao}{tl:TE}(hl:PE X l tl):PI X tg l (Ww tl):=by
 intro pins s σ H R I h;refine bf (hl pins s σ H _ I h) λv s1 bQ=>?_;obtain⟨x,H1,I1,r1,q1⟩:=bQ;obtain⟨a,kvs,e,q⟩:=q1;subst e;cases r1;have key:∀(H2:Hp)(ob:Obj),Inv X pins σ H2 s1->H2 a=aB (.bC ob (.dK kvs))->R (AN a ob kvs) H2->wpAny (model X.prog X.w) X.A (pyIter (.ref a)) (λitv s2=>zL X pins σ tg R itv s2) X.xe s1:=by
  intro H2 ob I2 e0 q2;obtain⟨e1,z,y,vs,r,o',es,ep,e2,c1,c2,c3,c4,c5⟩:=(show br X.prog X.w H2 s1.heap a (.bC ob (.dK kvs))from I2.hok a _ e0)
  rw[e1]at e2;cases e2;refine wpAny_pyIter_dict (knd:=iM X.prog X.w) y ⟨ob,es,e1,c1,c2,c3,c4,c5⟩ ?_;have hlen:=r.length;refine⟨s1.heap.objs.size,[s1.heap.objs.size],_,_,H2,rfl,I2.kept (t':=s1.toks) λb o e=>cy _ e,U3 (kvs:=kvs) c2 (gh (cQ e1)),⟨_,iI _ rfl,rfl,by rw[hlen];rfl⟩,λb hb=>?_,q2⟩;have e:b=s1.heap.objs.size:=by simpa using hb
  subst e;exact I2.kc (aZ _) (I2.hok.fresh (aZ _))
 rcases q with⟨ob,e0,q⟩|⟨e0,q⟩;exact key H1 ob I1 e0 q;obtain⟨ob,I2⟩:=I1.freeze e0;exact key _ ob I2 fG (q ob)
theorem aK.key{K:aH}{m:Nat->ah}{n:Nat}{H:Hp}:∀{vs:List (Key×V)} {ws:List (Key×W)} (i:Nat),aK K m n H vs ws->(vs[i]?).map (·.1)=(ws[i]?).map (·.1)|_,_,_,.nil=>rfl|_,_,0,.cons _ _=>rfl|_,_,i+1,.cons _ r=>by simpa using aK.key i r
theorem Wy{K:aH}{m:Nat->ah}{n:Nat}{H:Hp}(k:Key):aI K m n H (kV k) (vU k):=by cases k;exact .int _;exact .str _
theorem Ol{K:aH}{a:ah}{l:Nat}{ob:Obj}{kv:List (Key×V)}:jh K (aW .keys (.ref l)) (AN a ob kv) (λm n H=>l<n/\a=m l/\H a=aB (.bC ob (.dK kv))):=by
 refine⟨λm n H m' n' H' hn hm kt kf ⟨q1,q2,q3⟩=>⟨di q1 hn,by rw[hm l q1];exact q2,kf _ _ _ q3⟩,λm h H r ⟨q1,q2,q3⟩ i=>?_⟩;subst q2;cases g:h.get l with
 |none=>exact⟨λw e=>by simp[aW,g]at e,λe=>by simp[aW,g]at e⟩
 |some o=>
  cases o with
  |lst _=>exact⟨λw e=>by simp[aW,g]at e,λe=>by simp[aW,g]at e⟩
  |dm _=>exact⟨λw e=>by simp[aW,g]at e,λe=>by simp[aW,g]at e⟩
  |dk ws=>
   obtain⟨vs,p1,p2⟩:=r.dk g;have hv:vs=kv:=by rcases p1 with p1|⟨o,p1⟩;rw[q3]at p1;cases p1;rw[q3]at p1;cases p1;rfl
   subst hv;have hk:=p2.key i;refine⟨λw e=>?_,λe=>?_⟩;simp only[aW,g]at e;cases z:ws[i]? with
   |none=>
    rw[z]at e;simp only at e;split at e<;>cases e
   |some p=>
    rw[z]at e hk;simp only[ly,Option.some.injEq]at e hk;subst e;cases z2:vs[i]? with
    |none=>rw[z2]at hk;cases hk
    |some q=>
     rw[z2]at hk;simp only[ly,Option.some.injEq]at hk;refine⟨⟨q3,(i7.mp z2).1⟩,λy H3 ⟨e3,k3,v3,e4,e5⟩=>?_⟩;subst e3 e5;rw[z2]at e4;cases e4;rw[<-hk];exact⟨.refl,r,Wy _⟩
   simp only[aW,g]at e;cases z:ws[i]? with
   |some p=>rw[z]at e;cases e
   |none=>
    rw[z]at e;simp only at e;split at e;rename_i hb;exact⟨q3,by rw[p2.length];exact zg hb⟩;cases e
theorem Rel.frozen{K:aH}{m:Nat->ah}{h:VH}{H:Hp}(r:Rel K m h H){i:Nat}{o:VO}{u u0:HO}(hi:h.get i=aB o)(h0:H (m i)=aB u0)(hn:∀t,u0≠.tup t)(hf:∀o t,u0≠.bC o t)
 (ho:bO m h.n H m h.n (upd H (m i) u)->fL K m h.n (upd H (m i) u) (m i) o) :
 bO m h.n H m h.n (upd H (m i) u)/\Rel K m h (upd H (m i) u):=by
 have st:bO m h.n H m h.n (upd H (m i) u):=by refine⟨aZ _,λ_ _=>rfl,λj a b=>absurd b (jH.mpr a),λj k a b=>absurd b (jH.mpr a),λb vs q=>?_,λb o t q=>?_,λb o nb q=>?_⟩;rw[bP (bZ q h0 (λz=>hn vs z.symm))];exact q;rw[bP (bZ q h0 (λz=>hf o t z.symm))];exact q;rw[bP (nb i (bU hi)).symm];exact q
 refine⟨st,⟨λj hj=>?_,r.inj,r.len⟩⟩;by_cases e:j=i;subst e;exact⟨o,hi,ho st⟩;obtain⟨o',h1,h2⟩:=r.obj j hj;exact⟨o',h1,fL.stp st (bP λz=>e (r.inj j i hj (bU hi) z)) h2⟩
theorem Wz{tg:ao}(ha:SE X e fa):PI X tg e (bW X.K .keys fa):=λpins s σ H R I z9=>z9.el λρ h m x h' f r ee o en k=>by
 have hs:∃l kvs,x=.ref l/\h'.get l=aB (.dk kvs):=by simp only[aW]at en;split at en;rename_i l;split at en;exact⟨_,_,rfl,by assumption⟩;cases en;cases en
 obtain⟨l,kvs,rfl,g⟩:=hs;refine Wx ha pins s σ H R I (.mk f r ee λv H' m' s' r' q=>?_);cases q with
 |ref hi=>
  obtain⟨vs,p1,p2⟩:=r'.dk g;refine⟨m' l,vs,rfl,?_⟩;rcases p1 with p1|⟨ob,p1⟩;refine .inr ⟨p1,λob=>?_⟩;obtain⟨st,r2⟩:=r'.frozen (u:=.bC ob (.dK vs)) g p1 (λ_ z=>nomatch z) (λ_ _ z=>nomatch z) λst=>⟨vs,.inr ⟨ob,fG⟩,p2.stp st⟩
  exact k _ _ _ m' (s'.trans st) r2 Ol ⟨hi,rfl,fG⟩;exact .inl ⟨ob,p1,k _ _ H' m' s' r' Ol ⟨hi,rfl,p1⟩⟩
theorem WA{elts:List ao}{kx:Nat}{tp:Pos}{l:ao}{ta:TA}(hg:Gl X "enumerate")(hm:X.mg "enumerate" = aC)(hv:bootBuiltins "enumerate" = aB (.type "enumerate"))(ha:PA X [l] ta)(hs:starEach [l] X.env=[(false,eval l X.env)]) :
 PI X (.Tuple elts kx tp) (.Call (.Name "enumerate" p) [l] [] pos) (λσ H R=>ta σ H λvs H1=>∃a,vs=[.ref a]/\(∃xs,cj X.K H1 a xs)/\R (vM X.K a) H1):=by
 intro pins s σ H R I h;refine Call_ (qW I hg hm hv (x8 (bf (ha pos pins s σ H _ I h) λus s1 ⟨vs,H1,I1,r1,q1⟩=>?_) hs rfl));obtain⟨a,e,⟨xs,hq⟩,q⟩:=q1;subst e;obtain⟨u,rfl,ru⟩:=vals1 r1;cases ru;obtain⟨its,rv,pl,hz⟩:=I1.tuple hq;have pl:s1.heap.IsTuple a its.toArray:=pl;have hlt:a<s1.heap.objs.size:=by obtain⟨o,q,_⟩:=pl;exact cQ q
 refine Ua pl λh' he hit hsz kk=>wpAny_pyIter_enum he ?_;have hf:∀b,s1.heap.objs.size<=b->eE X pins H1 b:=λb hb=>I1.kc hb (I1.hok.fresh hb);refine⟨s1.heap.objs.size+1,[s1.heap.objs.size+1,s1.heap.objs.size],_,_,H1,rfl,I1.kept (t':=s1.toks) kk,Ub a _ _ (tN (fY _)) (gh (ve hlt)) (gh hlt),⟨⟨_,he⟩,hit⟩,λb hb=>hf b ?_,q⟩;rcases gH.mp hb with rfl|hb
 exact p9 _;have e':b=s1.heap.objs.size:=by simpa using hb
 rw[e'];exact aZ _
theorem Om{ws:List W}{h:VH}{i:Nat}{o:Option W}(q:aW .lE (.tup ws) i h=aB o):o=(ws[i]?).map λw=>.tup [.int i,w]:=by cases q;rfl
theorem WB{K:aH}{a:ah}{vs:List V}{ws:List W}:jh K (aW .lE (.tup ws)) (vM K a) (λm n H=>cj K H a vs/\aF K m n H vs ws):=by
 refine⟨λm n H m' n' H' hn hm kt kf ⟨q1,q2⟩=>⟨HQ kt kf q1,q2.mono hn hm kt kf⟩,λm h H r ⟨q1,q2⟩ i=>⟨λw e=>?_,λe=>?_⟩⟩;have e:=Om (ws:=ws) e;cases z:ws[i]? with
 |none=>rw[z]at e;cases e
 |some w0=>
  rw[z]at e;cases e;obtain⟨v,h1,h2⟩:=q2.get z;refine⟨⟨vs,v,q1,h1⟩,λy H3 ⟨T,v3,e1,e2,e3,y3⟩=>?_⟩;subst e1 e3;have:=y3 vs q1;rw[h1]at this;cases this;obtain⟨st,r'⟩:=r.more (u:=.tup [.int i,v]) e2;exact⟨st,r',.tup (cj.of fG) (.cons (.int _) (.cons (h2.stp st) .nil))⟩
 have e:=Om (ws:=ws) e;cases z:ws[i]? with|some w0=>rw[z]at e;cases e|none=>exact⟨vs,q1,by rw[q2.length];exact ou.mp z⟩
theorem WC:bootBuiltins "enumerate" = aB (.type "enumerate"):=by decide +kernel
theorem WD(ha:SE X e fa)(hs:gU e):PA X [e] (λσ H Q=>eF X.K fa σ H λv H1=>Q [v] H1):=λp pins s σ H Q I q=>by
 refine yo ha Ab (fM hs) p pins s σ H Q I ?_;refine q.el λρ h m w h' f r ee k=>?_;exact(.mk f r ee λv H' m' s' r' q'=>k v H' m' s' r' q')
theorem WE{elts:List ao}{kx:Nat}{tp:Pos}(ha:SE X e fa)(hs0:gU e)(hg:Gl X "enumerate")(hm:X.mg "enumerate" = aC):PI X (.Tuple elts kx tp) (.Call (.Name "enumerate" p) [e] [] pos) (bW X.K .lE fa):=λpins s σ H R I z9=>z9.el λρ h m x h' f r ee o en k=>by
 cases x with
 |tup ws=>exact WA hg hm WC (WD ha hs0) (fM hs0) pins s σ H R I ⟨ρ,h,m,_,h',f,r,ee,λv H' m' s' r' q=>by
  cases q with|tup sq rs=>exact⟨_,rfl,⟨_,sq⟩,k _ _ H' m' s' r' WB ⟨sq,rs⟩⟩⟩
 |_=>cases en
theorem WG{elts:List ao}{kx:Nat}{tp:Pos}{l l2:ao}{ta:TA}(hg:Gl X "zip")(hm:X.mg "zip" = aC)(ha:PA X [l,l2] ta)(hs:starEach [l,l2] X.env=[(false,eval l X.env),(false,eval l2 X.env)])(hs2:starEach [l2] X.env=[(false,eval l2 X.env)]) :
 PI X (.Tuple elts kx tp) (.Call (.Name "zip" p) [l,l2] [] pos) (λσ H R=>ta σ H λvs H1=>∃b c a1 a2,vs=[.ref a1,.ref a2]/\(∃xs,nj b X.K H1 a1 xs)/\(∃ys,nj c X.K H1 a2 ys)/\R (vO X.K b c a1 a2) H1):=by
 intro pins s σ H R I h;refine Call_ (qW I hg hm PyProof.Rows.boot_zip (x8 (bf (ha pos pins s σ H _ I h) λus s1 ⟨vs,H1,I1,r1,q1⟩=>?_) (by rw[hs,hs2]) (by rw[hs2];rfl)));obtain⟨b,c,a1,a2,e,⟨xs,hq⟩,⟨ys,hr⟩,q⟩:=q1;subst e;cases r1 with
 |cons r rr=>
  cases rr with
  |cons r' rr=>
   cases rr;cases r;cases r';obtain⟨its,_,pl,_⟩:=yq I1 hq;obtain⟨Nx,_,Oo,_⟩:=yq I1 hr;refine UW pl Oo λh' e1 e2 e3 e4 e5 hsz kk=>wpAny_pyIter_zip e1 ?_;have hf:∀b,s1.heap.objs.size<=b->eE X pins H1 b:=λb hb=>I1.kc hb (I1.hok.fresh hb);refine⟨s1.heap.objs.size+4,_,_,_,H1,rfl,I1.kept (t':=s1.toks) kk,UX a1 a2 _ _ _ _ _ (UJ pl.lt Oo.lt),⟨e1,e2,⟨_,_,e3⟩,e4,e5⟩,λb hb=>hf b ?_,q⟩;simp only[gH,Di,or_false]at hb;rcases hb with rfl|rfl|rfl|rfl|rfl
   exact Dr _ _;exact Dr _ _;exact Dr _ _;exact aZ _;exact Dr _ _
noncomputable def Src(K:aH)(b:Bool)(a:ah)(u:W)(P:(Nat->ah)->Nat->Hp->Prop):Prop:=
 (∀m n H m' n' H',n<=n'->(∀i,i<n->m' i=m i)->(∀b vs,H b=aB (.tup vs)->H' b=aB (.tup vs))->(∀b o u,H b=aB (.bC o u)->H' b=aB (.bC o u))->P m n H->P m' n' H')/\
 ∀m h H ws,Rel K m h H->P m h.n H->aR h u=aB ws->∃vs,nj b K H a vs/\aF K m h.n H vs ws
theorem Oq{K:aH}{m:Nat->ah}{h:VH}{H:Hp}{v:V}{u:W}{ws:List W}(r:Rel K m h H)(q:aI K m h.n H v u)(e:aR h u=aB ws):∃b a P,v=.ref a/\Src K b a u P/\P m h.n H/\∃xs,nj b K H a xs:=by
 cases q with
 |aP=>cases e
 |bl b=>cases e
 |int b=>cases e
 |str b=>cases e
 |tup sq rs=>exact⟨true,_,λm n H=>cj K H _ _/\aF K m n H _ _,rfl,⟨λm n H m' n' H' hn hm kt kf ⟨q1,q2⟩=>⟨HQ kt kf q1,q2.mono hn hm kt kf⟩,λm h H ws _ ⟨q1,q2⟩ z=>by cases z;exact⟨_,q1,q2⟩⟩,⟨sq,rs⟩,_,sq⟩
 |fz sq rs=>exact⟨false,_,λm n H=>Fz K H _ _/\aF K m n H _ _,rfl,⟨λm n H m' n' H' hn hm kt kf ⟨q1,q2⟩=>⟨Oh kf q1,q2.mono hn hm kt kf⟩,λm h H ws _ ⟨q1,q2⟩ z=>by cases z;exact⟨_,q1.sq,q2⟩⟩,⟨sq,rs⟩,_,sq.sq⟩
 |ref hi=>
  rename_i l;have key:∀m (h:VH) H ws,Rel K m h H->aR h (.ref l)=aB ws->∃vs,H (m l)=aB (.lst vs)/\aF K m h.n H vs ws:=λm h H ws r z=>by
   cases g:h.get l with
   |none=>simp[aR,g]at z
   |some o=>
    cases o with
    |dk _=>simp[aR,g]at z
    |dm _=>simp[aR,g]at z
    |lst Oj=>
     have:Oj=ws:=by simpa[aR,g]using z
     subst this;exact r.lst g
  obtain⟨vs,p1,_⟩:=key m h H ws r e;refine⟨false,_,λm' n _=>l<n/\m l=m' l,rfl,⟨λm1 n H m' n' H' hn hm kt kf ⟨q1,q2⟩=>⟨di q1 hn,by rw[hm l q1];exact q2⟩,λm1 h H ws r' ⟨q1,q2⟩ z=>?_⟩,⟨hi,rfl⟩,vs,cR.of p1⟩;obtain⟨vs,g1,g2⟩:=key m1 h H ws r' z;rw[q2];exact⟨vs,cR.of g1,g2⟩
theorem HS{u v:W}{h:VH}{i:Nat}{o:Option W}(q:aW .zip (.tup [u,v]) i h=aB o):∃ws zs,aR h u=aB ws/\aR h v=aB zs/\o=(match ws[i]?,zs[i]? with|some a,aB b=>aB (.tup [a,b])|_,_=>aC):=by simp only[aW]at q;split at q;rename_i ws zs h1 h2;cases q;exact⟨ws,zs,h1,h2,rfl⟩;cases q
theorem WH{K:aH}{b c:Bool}{a1 a2:ah}{u v:W}{P1 P2:(Nat->ah)->Nat->Hp->Prop}(s1:Src K b a1 u P1)(s2:Src K c a2 v P2):jh K (aW .zip (.tup [u,v])) (vO K b c a1 a2) (λm n H=>P1 m n H/\P2 m n H):=by
 refine⟨λm n H m' n' H' hn hm kt kf ⟨q1,q2⟩=>⟨s1.1 m n H m' n' H' hn hm kt kf q1,s2.1 m n H m' n' H' hn hm kt kf q2⟩,λm h H r ⟨q1,q2⟩ i=>⟨λw e=>?_,λe=>?_⟩⟩;obtain⟨ws,zs,e1,e2,e3⟩:=HS e;obtain⟨xs,g1,g2⟩:=s1.2 m h H ws r q1 e1;obtain⟨ys,g3,g4⟩:=s2.2 m h H zs r q2 e2;cases z1:ws[i]? with
 |none=>rw[z1]at e3;cases e3
 |some w1=>
  cases z2:zs[i]? with
  |none=>rw[z1,z2]at e3;cases e3
  |some w2=>
   rw[z1,z2]at e3;cases e3;obtain⟨v1,k1,k2⟩:=g2.get z1;obtain⟨v2,k3,k4⟩:=g4.get z2;refine⟨⟨xs,ys,v1,v2,g1,g3,k1,k3⟩,λy H3 ⟨T,x3,y3,f1,f2,f3,f4,f5⟩=>?_⟩;subst f1 f3;have t1:=f4 xs g1;have t2:=f5 ys g3;rw[k1]at t1;cases t1;rw[k3]at t2;cases t2;obtain⟨st,r'⟩:=r.more (u:=.tup [v1,v2]) f2;exact⟨st,r',.tup (cj.of fG) (.cons (k2.stp st) (.cons (k4.stp st) .nil))⟩
 obtain⟨ws,zs,e1,e2,e3⟩:=HS e;obtain⟨xs,g1,g2⟩:=s1.2 m h H ws r q1 e1;obtain⟨ys,g3,g4⟩:=s2.2 m h H zs r q2 e2;refine⟨xs,ys,g1,g3,?_⟩;cases z1:ws[i]? with
 |none=>exact .inl (by rw[g2.length];exact ou.mp z1)
 |some w1=>
  cases z2:zs[i]? with|none=>exact .inr (by rw[g4.length];exact ou.mp z2)|some w2=>rw[z1,z2]at e3;cases e3
theorem WI{elts:List ao}{kx:Nat}{tp:Pos}(ha:SA X [a,b] fa)(hs:gU a)(hs2:gU b)(hg:Gl X "zip")(hm:X.mg "zip" = aC):PI X (.Tuple elts kx tp) (.Call (.Name "zip" p) [a,b] [] pos) (bW X.K .zip fa):=λpins s σ H R I z9=>z9.el λρ h m x h' f r ee o en k=>by
 have hx:∃u v,x=.tup [u,v]:=by simp only[aW]at en;split at en;exact⟨_,_,rfl⟩;cases en
 obtain⟨u,v,rfl⟩:=hx;obtain⟨ws,zs,e1,e2,_⟩:=HS en;refine WG hg hm ha (by rw[fM hs,fM hs2];rfl) (fM hs2) pins s σ H R I (.mk f r ee λvs H' m' s' r' q=>?_);obtain⟨v1,v2,rfl,q1,q2⟩:=kK q;obtain⟨b1,a1,P1,rfl,o1,p1,x1⟩:=Oq r' q1 e1;obtain⟨b2,a2,P2,rfl,o2,p2,x2⟩:=Oq r' q2 e2;exact⟨b1,b2,a1,a2,rfl,x1,x2,k _ _ H' m' s' r' (WH o1 o2) ⟨p1,p2⟩⟩
end
section
variable{X:Cx}{a b c e o:ao}{es:List ao}{fa fb fc fo fr:FE}{pos p:Pos}{x:Str}
noncomputable def cu(K:aH)(t:Tg):TG:=λv σ H Q=>∃ρ h m w ρ',Fr K m h.n H σ ρ/\Rel K m h H/\aI K m h.n H v w/\bw t w h ρ=aB ρ'/\∀σ',Fr K m h.n H σ' ρ'->Q σ' H
theorem cu.el{K:aH}{v:V}{σ:L2.St}{H:Hp}{P:Prop}{tg:Tg}{Q}(q:cu K tg v σ H Q)(k:∀ρ h m w ρ',Fr K m h.n H σ ρ->Rel K m h H->aI K m h.n H v w->bw tg w h ρ=aB ρ'->(∀σ',Fr K m h.n H σ' ρ'->Q σ' H)->P):P:=by obtain⟨ρ,h,m,w,h',f,r,e,eo,k'⟩:=q;exact k ρ h m w h' f r e eo k'
theorem cu.mk{K:aH}{v:V}{σ:L2.St}{H:Hp}{m:Nat->ah}{ρ ρ':En}{h:VH}{w:W}{tg:Tg}{Q}(f:Fr K m h.n H σ ρ)(r:Rel K m h H)(e:aI K m h.n H v w)(eo:bw tg w h ρ=aB ρ')(k:∀σ',Fr K m h.n H σ' ρ'->Q σ' H):cu K tg v σ H Q:=⟨ρ,h,m,w,ρ',f,r,e,eo,k⟩
theorem Ot{i:Nat}(hN:X.N.Nodup)(hi:X.N[i]?=aB x)(hx:Loc X.env.scope x)(hf:X.fn x=true\/X.env.scope.names.lookup x=aB .local):PG X (.Name x pos) (cu X.K (.one i)):=λpins s σ H v u Q I ru z9=>z9.el λρ h m w ρ' f r q e k=>by
 cases e;exact Mw hN hi hx hf pins s σ H v u Q I ru (k _ (f.set q i))
noncomputable def lJ(X:Cx)(e:ao)(i:Nat):Prop:=∃x p,e=.Name x p/\X.N[i]?=aB x/\Loc X.env.scope x/\(X.fn x=true\/X.env.scope.names.lookup x=aB .local)
noncomputable def Bm(K:aH)(is:List Nat):qX:=λvs σ H Q=>∃ρ m n ws ρ',Fr K m n H σ ρ/\aF K m n H vs ws/\lI is ws ρ=aB ρ'/\∀σ',Fr K m n H σ' ρ'->Q σ' H
theorem Ou(hN:X.N.Nodup):∀{es:List ao} {is:List Nat},Paired (lJ X) es is->yl X es (Bm X.K is)/\(assignEach es X.env).length=es.length/\(assignEach es X.env).findIdx? (·.1)=aC
 |_,_,.nil=>by
  refine⟨λpins s σ H vs us Q I ru ⟨ρ,m,n,ws,ρ',f,q,e,k⟩=>?_,rfl,rfl⟩;cases ws with|nil=>cases e;cases q;exact Mx pins s σ H [] us Q I ru ⟨rfl,k _ f⟩|cons _ _=>cases e
 |e::es,i::is,.cons ⟨x,p,he,hi,hx,hf⟩ t=>by
  subst he;obtain⟨h1,h2,h3⟩:=Ou hN t;refine⟨λpins s σ H vs us Q I ru ⟨ρ,m,n,ws,ρ',f,q,e,k⟩=>?_,?_,?_⟩;cases q with
  |nil=>cases e
  |cons q qs=>
   exact Gg (Mw hN hi hx hf) h1 rfl pins s σ H _ us Q I ru ⟨_,_,rfl,ρ.set i (aB _),m,n,_,ρ',f.set q i,qs,e,k⟩
  show(assignEach es X.env).length+1=es.length+1;rw[h2];show List.findIdx? _ ((false,_)::assignEach es X.env)=aC;rw[List.findIdx?_cons,h3];rfl
theorem Ov:∀{is:List Nat} {ws:List W} {ρ ρ':En},lI is ws ρ=aB ρ'->ws.length=is.length
 |[],[],_,_,_=>rfl
 |[],_::_,_,_,e=>by cases e
 |_::_,[],_,_,e=>by cases e
 |_::_,_::_,_,_,e=>by
  rw[cG,cG,Ov (by simpa only[lI]using e)]
theorem WJ{t:qX}{n k:Nat}(hc:X.calm)(h:yl X es t)(hn:(assignEach es X.env).length=n)(hst:(assignEach es X.env).findIdx? (·.1)=aC) :
 PG X (.Tuple es k pos) (λv σ H Q=>∃a xs,v=.ref a/\cR X.K H a xs/\xs.length=n/\t xs σ H Q):=by
 intro pins s σ H v u Q I r hw;obtain⟨a,xs,rfl,hq,hl,hw⟩:=hw;cases r;obtain⟨its,rv,ht,hz⟩:=I.list hq;rw[assign_Tuple];refine aJ (mQ ?_);unfold unpack;have hsz:(assignEach es X.env).length=its.toArray.size:=by rw[hn,<-hl,rv.length,dR]
 rw[hst,hsz];refine aJ (mP (PySem.W.kun_itemsOf (I.ok.hd hc) ht.isList λh' hx=>?_));have I1:Inv X pins σ H {s with heap:=h'}:=I.kept (t':=s.toks) λb o e=>hx b o (gh (cQ e)) e;exact h pins _ σ H xs _ Q I1 (by simpa using rv) hw
theorem HU{is:List Nat}{k:Nat}(hc:X.calm)(hN:X.N.Nodup)(hs:Paired (lJ X) es is):PG X (.Tuple es k pos) (cu X.K (.many is)):=λpins s σ H v u Q I ru z9=>z9.el λρ h m w ρ' f r q e k=>by
 obtain⟨h1,h2,h3⟩:=Ou hN hs;simp only[bw]at e;cases z:aR h w with
 |none=>rw[z]at e;cases e
 |some ws=>
  rw[z]at e;have e:lI is ws ρ=aB ρ':=e;obtain⟨p,vs,rfl,hq,qs⟩:=yC r q z;have hl:vs.length=es.length:=by rw[qs.length,Ov e,hs.length]
  rcases hq with hq|hq;exact WJ hc h1 h2 h3 pins s σ H _ u Q I ru ⟨p,vs,rfl,hq,hl,ρ,m,h.n,ws,ρ',f,qs,e,k⟩;exact My hc h1 h2 h3 pins s σ H _ u Q I ru ⟨p,vs,rfl,hq,hl,ρ,m,h.n,ws,ρ',f,qs,e,k⟩
theorem WK{is:List Nat}{j k k':Nat}{p':Pos}{en:ao}(hc:X.calm)(hN:X.N.Nodup)(hs:Paired (lJ X) es is)(hj:lJ X en j):PG X (.Tuple [en,.Tuple es k' p'] k pos) (cu X.K (.AV j is)):=λpins s σ H v u Q I ru z9=>z9.el λρ h m w ρ' f r q e kk=>by
 obtain⟨x,px,rfl,g1,g2,g3⟩:=hj;simp only[bw]at e;split at e;rename_i wa wb;cases z:aR h wb with
 |none=>rw[z]at e;cases e
 |some ws=>
  rw[z]at e;cases q with
  |tup s1 s2=>
   obtain⟨va,vb,rfl,q1,q2⟩:=kK s2;refine My hc (Gg (Ot hN g1 g2 g3) (Gg (HU hc hN hs) Mx)) rfl rfl pins s σ H _ u Q I ru ⟨_,_,rfl,s1,rfl,va,[vb],rfl,?_⟩;refine .mk f r q1 rfl λσ1 f1=>?_;refine⟨vb,[],rfl,.mk f1 r q2 (show bw (.many is) wb h _=aB ρ' by simp only[bw,z];exact e) λσ2 f2=>?_⟩;exact⟨rfl,kk σ2 f2⟩
 cases e
theorem HV{K:aH}{m:Nat->ah}{n:Nat}{H:Hp}{σ:L2.St}{ρ:En}{ow fr:List Str}{ix:List Nat}(f:Fr K m n H σ ρ):Fr K m n H (jt ow fr ix σ) (inner ow.length ix ρ):=by
 unfold jt inner;refine⟨by simp,λi w e=>?_⟩;by_cases hi:i<ow.length;rw[uW (by simpa using hi)]at e;rw[De]at e;split at e<;>cases e;rw[oq (by simpa using jH.mp hi)]at e;rw[oq (by simpa using jH.mp hi)];simp only[tK,bx]at e ⊢;rw[dS]at e ⊢;cases z:ix[i-ow.length]? with
 |none=>rw[z]at e;cases e
 |some j=>
  rw[z]at e;simp only[ly,Option.some.injEq]at e ⊢;have e3:ρ[j]?=aB (aB w):=by
   cases q:ρ[j]? with|none=>rw[q]at e;cases e|some o=>rw[q]at e;rw[<-e];rfl
  obtain⟨v,h1,h2⟩:=f.val j w e3;exact⟨v,by rw[h1];rfl,h2⟩
theorem HW{nx:Nat->VH->Option (Option W)}{tg:W->VH->En->Option En}{c e:FE}:∀{f i:Nat} {ρ:En} {h:VH} {acc ys:List W} {h':VH},gF nx tg c e f i ρ h acc=.ok ys h'->acc.length<=ys.length
 |0,_,_,_,_,_,_,q=>by cases q
 |f+1,i,ρ,h,acc,ys,h',q=>by
  simp only[gF]at q;split at q;cases q;cases q;simp;split at q;cases q;refine bF q λb h1 e1 e2=>?_;split at e2;refine bF e2 λy h2 e3 e4=>?_;have:=HW e4;rw[cG]at this;lia;exact HW e2;cases e2
theorem WL{nx:Nat->VH->Option (Option W)}{tg:W->VH->En->Option En}{c e:FE}{f i:Nat}{ρ:En}{h:VH}{acc ys:List W}{h':VH}(q:gF nx tg c e (f+1) i ρ h acc=.ok ys h'):∃o,nx i h=aB o:=by simp only[gF]at q;split at q;cases q;exact⟨_,by assumption⟩;exact⟨_,by assumption⟩
theorem HX{H:Hp}{a:ah}{o:HO}(h:H a=aB o):upd H a o=H:=by funext b;unfold upd;split;rename_i e;rw[e,h];rfl
noncomputable abbrev HY(kd:Kd)(fa:FE)(t:Tg)(ow:Nat)(ix:List Nat)(fc fe:FE):FE:=λρ h=>(fa ρ h).bind λx h=>(gF (aW kd x) (bw t) fc fe fuel 0 (inner ow ix ρ) h []).bind λys h=>if Nat.ble ys.length big then .ok (.ref h.n) (h.new (.lst ys))else .no
theorem ue{K:aH}{kd:Kd}{t:Tg}{ow fr:List Str}{ix:List Nat}{fe:FE}{σ:L2.St}{H:Hp}{Q:VK}(q:eF K (HY kd fa t ow.length ix fc fe) σ H Q):GX K (jt ow fr ix) (bW K kd fa) (cu K t) (cP K fc) (eF K fe) σ H Q:=by
 refine q.el λρ h m w h' f r e k=>?_;refine bF e λx h1 e1 e2=>?_;refine bF e2 λys h2 e3 e4=>?_;split at e4
 case isFalse=>cases e4
 rename_i hz;cases e4;have hz:=lu hz;refine(.mk f r e1 ?_ λJ P H1 m1 s1 r1 J1 p1 D hD hK=>?_);exact WL (f:=999999) e3;obtain⟨jg,r0⟩:=r1.more (u:=.lst []) hD;have p0:=J1.1 m1 h1.n H1 m1 h1.n (upd H1 D (.lst [])) (aZ _) (λ_ _=>rfl) (λb vs q=>jg.tup b vs q) (λb o u q=>jg.bC b o u q) p1;refine⟨λi fl σ' H' vs=>∃ρ' h3 m3 acc,gF (aW kd x) (bw t) fc fe fl i ρ' h3 acc=.ok ys h2/\Fr K m3 h3.n H' σ' ρ'/\Rel K m3 h3 H'/\H' D=aB (.lst vs)/\aF K m3 h3.n H' vs acc.reverse/\(∀i,i<h3.n->m3 i≠D)/\bO m1 h1.n H1 m3 h3.n H'/\P m3 h3.n H',
  ⟨fuel,inner ow.length ix ρ,h1,m1,[],e3,HV ((f.stp s1).stp jg),r0,fG,.nil,r1.out hD,jg,p0⟩,?_⟩
 rintro i fl σ' H' vs ⟨ρ',h3,m3,acc,e5,f3,r3,d3,q3,o3,s3,p3⟩;refine⟨d3,?_⟩;cases fl with
 |zero=>cases e5
 |succ fl=>
  simp only[gF]at e5;obtain⟨j1,j2⟩:=J1.2 m3 h3 H' r3 p3 i;split at e5;cases e5;rename_i hn;cases e5;refine .inl ⟨j2 hn,?_⟩;obtain⟨st,r'⟩:=r3.adopt (o:=.lst acc.reverse) (u:=.lst vs) o3 d3 (λ_ z=>nomatch z) (λ_ _ z=>nomatch z) (s1.trans s3) (by
   cases z:H D with
   |none=>rfl
   |some o=>
    have:=s1.keep D o (λi hi z2=>(r1.out hD) i (di hi s1.le) ((s1.same i hi).trans z2)) z;rw[hD]at this;cases this) λ_ mv=>⟨_,fG,q3.map mv⟩
  rw[HX d3]at st r';refine k _ _ _ st r' ?_;have:aI K (λi=>if i=h2.n then D else m3 i) (h2.n+1) H' (.ref ((λi=>if i=h2.n then D else m3 i) h2.n)) (.ref h2.n):=.ref (fY _);simp only[bY]at this;exact this;rename_i w hn;obtain⟨j3,j4⟩:=j1 w hn;refine .inr ⟨j3,λy H4 hy=>?_⟩;obtain⟨s4,r4,q4⟩:=j4 y H4 hy;split at e5;cases e5;rename_i jN ht;refine⟨ρ',h3,m3,w,jN,f3.stp s4,r4,q4,ht,λko f5=>?_⟩;refine bF e5 λbv h6 e6 e7=>?_;have d4:H4 D=aB (.lst vs):=s4.keep D _ o3 d3;have uf:=s3.trans s4;have p4:=J1.1 m3 h3.n H' m3 h3.n H4 (aZ _) (λ_ _=>rfl) (λb vs q=>s4.tup b vs q) (λb o u q=>s4.bC b o u q) p3;cases bv<;>try cases e7
  rename_i bb;refine⟨jN,h3,m3,bb,h6,f5,r4,e6,λH6 m6 s6 r6=>?_⟩;have o6:=s6.out o3 d4;have d6:H6 D=aB (.lst vs):=s6.keep D _ o3 d4;have p6:=J1.1 m3 h3.n H4 m6 h6.n H6 s6.le s6.same (λb vs q=>s6.tup b vs q) (λb o u q=>s6.bC b o u q) p4;cases bb with
  |false=>
   simp only[fF,eG];exact⟨fl,fY _,jN,h6,m6,acc,e7,f5.stp s6,r6,d6,(q3.stp s4).stp s6,o6,uf.trans s6,p6⟩
  |true=>
   simp only[bY];refine bF e7 λy7 h7 e8 e9=>?_;refine⟨jN,h6,m6,y7,h7,f5.stp s6,r6,e8,λv7 H7 m7 s7 r7 q7=>?_⟩;have o7:=s7.out o6 d6;have d7:H7 D=aB (.lst vs):=s7.keep D _ o6 d6;have p7:=J1.1 m6 h6.n H6 m7 h7.n H7 s7.le s7.same (λb vs q=>s7.tup b vs q) (λb o u q=>s7.bC b o u q) p6;have Ow:=((q3.stp s4).stp s6).stp s7;have hlen:=HW e9;rw[cG]at hlen;refine⟨d7,?_,fl,fY _,jN,h7,m7,y7::acc,e9,?_⟩;rw[Ow.length,List.length_reverse];have:big=sizeLine:=rfl;lia;obtain⟨Bo,r8,mv⟩:=r7.side (u:=.lst (vs++[v7])) d7 (λ_ z=>nomatch z) (λ_ _ z=>nomatch z) o7 ((uf.trans s6).trans s7) hD;have kt:∀b us,H7 b=aB (.tup us)->upd H7 D (.lst (vs++[v7])) b=aB (.tup us):=λb us q=>by rw[bP (bZ q d7 λz=>nomatch z)];exact q
   have kf:∀b o u,H7 b=aB (.bC o u)->upd H7 D (.lst (vs++[v7])) b=aB (.bC o u):=λb o u q=>by rw[bP (bZ q d7 λz=>nomatch z)];exact q
   refine⟨⟨(f5.stp s6).len,λi w e=>let⟨v,h1,h2⟩:=((f5.stp s6).stp s7).val i w e;⟨v,h1,mv h2⟩⟩,r8,fG,?_,o7,Bo,J1.1 m7 h7.n H7 m7 h7.n _ (aZ _) (λ_ _=>rfl) kt kf p7⟩;rw[List.reverse_cons];exact(Ow.map mv).append (.cons (mv q7) .nil)
theorem Es{nx:Nat->VH->Option (Option W)}{tg:W->VH->En->Option En}{c e:FE}:∀{f i:Nat} {ρ:En} {h:VH} {acc:List W} {p:En×List W} {h':VH},jx nx tg c e f i ρ h acc=.ok p h'->acc.length<=p.2.length
 |0,_,_,_,_,_,_,q=>by cases q
 |f+1,i,ρ,h,acc,ys,h',q=>by
  simp only[jx]at q;split at q;cases q;cases q;exact aZ _;split at q;cases q;refine bF q λb h1 e1 e2=>?_;split at e2;refine bF e2 λy h2 e3 e4=>?_;have:=Es e4;rw[cG]at this;lia;exact Es e2;cases e2
theorem HZ{nx:Nat->VH->Option (Option W)}{tg:W->VH->En->Option En}{c:FE}{k8:En->VH->List W->Res (En×List W)}(hi:∀{ρ h acc p h'},k8 ρ h acc=.ok p h'->acc.length<=p.2.length):∀{f i:Nat} {ρ:En} {h:VH} {acc ys:List W} {h':VH},lg nx tg c k8 f i ρ h acc=.ok ys h'->acc.length<=ys.length
 |0,_,_,_,_,_,_,q=>by cases q
 |f+1,i,ρ,h,acc,ys,h',q=>by
  simp only[lg]at q;split at q;cases q;cases q;simp;split at q;cases q;refine bF q λb h1 e1 e2=>?_;split at e2;refine bF e2 λy h2 e3 e4=>?_;exact gJ (hi e3) (HZ hi e4);exact HZ hi e2;cases e2
theorem WM{nx:Nat->VH->Option (Option W)}{tg:W->VH->En->Option En}{c:FE}{k8:En->VH->List W->Res (En×List W)}{f i:Nat}{ρ:En}{h:VH}{acc ys:List W}{h':VH}(q:lg nx tg c k8 (f+1) i ρ h acc=.ok ys h'):∃o,nx i h=aB o:=by simp only[lg]at q;split at q;cases q;exact⟨_,by assumption⟩;exact⟨_,by assumption⟩
theorem WN{nx:Nat->VH->Option (Option W)}{tg:W->VH->En->Option En}{c e:FE}{f i:Nat}{ρ:En}{h:VH}{acc:List W}{p:En×List W}{h':VH}(q:jx nx tg c e (f+1) i ρ h acc=.ok p h'):∃o,nx i h=aB o:=by simp only[jx]at q;split at q;cases q;exact⟨_,by assumption⟩;exact⟨_,by assumption⟩
noncomputable abbrev vZ(kd:Kd)(fa:FE)(t:Tg)(ow:Nat)(ix:List Nat)(fc:FE)(iU:Kd)(n6:FE)(t2:Tg)(nD fe:FE):FE:=λρ h=>(fa ρ h).bind λx h=>(lg (aW kd x) (bw t) fc (λρ h acc=>(n6 ρ h).bind λy h=>jx (aW iU y) (bw t2) nD fe fuel 0 ρ h acc) fuel 0 (inner ow ix ρ) h []).bind λys h=>if Nat.ble ys.length big then .ok (.ref h.n) (h.new (.lst ys))else .no
theorem Ox{K:aH}{kd iU:Kd}{t t2:Tg}{ow fr:List Str}{ix:List Nat}{n6 nD fe:FE}{σ:L2.St}{H:Hp}{Q:VK}(q:eF K (vZ kd fa t ow.length ix fc iU n6 t2 nD fe) σ H Q) :
 Ea K (jt ow fr ix) (bW K kd fa) (cu K t) (cP K fc) (λD=>NC (bW K iU n6) (cu K t2) (cP K nD) (Hw (eF K fe) D)) (.lst []) σ H Q:=by
 refine q.el λρ h m w h' f r e k=>?_;refine bF e λx h1 e1 e2=>?_;refine bF e2 λys h2 e3 e4=>?_;split at e4
 case isFalse=>cases e4
 rename_i hz;cases e4;have hz:=lu hz;have il:∀{ρ h acc p h'},(n6 ρ h).bind (λy h=>jx (aW iU y) (bw t2) nD fe fuel 0 ρ h acc)=.ok p h'->acc.length<=p.2.length:=λq=>by
  refine bF q λy h1 e1 e2=>?_;exact Es e2
 refine(.mk f r e1 ?_ λJ P H1 m1 s1 r1 J1 p1 D hD hK=>?_);exact WM (f:=999999) e3;obtain⟨jg,r0⟩:=r1.more (u:=.lst []) hD;have p0:=J1.1 m1 h1.n H1 m1 h1.n (upd H1 D (.lst [])) (aZ _) (λ_ _=>rfl) (λb vs q=>jg.tup b vs q) (λb o u q=>jg.bC b o u q) p1;refine⟨λi fl σ' H'=>∃ρ' h3 m3 acc vs,lg (aW kd x) (bw t) fc (λρ h acc=>(n6 ρ h).bind λy h=>jx (aW iU y) (bw t2) nD fe fuel 0 ρ h acc) fl i ρ' h3 acc=.ok ys h2/\Fr K m3 h3.n H' σ' ρ'/\Rel K m3 h3 H'/\H' D=aB (.lst vs)/\aF K m3 h3.n H' vs acc.reverse/\(∀i,i<h3.n->m3 i≠D)/\bO m1 h1.n H1 m3 h3.n H'/\P m3 h3.n H',
  ⟨fuel,inner ow.length ix ρ,h1,m1,[],[],e3,HV ((f.stp s1).stp jg),r0,fG,.nil,r1.out hD,jg,p0⟩,?_⟩
 rintro i fl σ' H' ⟨ρ',h3,m3,acc,vs,e5,f3,r3,d3,q3,o3,s3,p3⟩;cases fl with
 |zero=>cases e5
 |succ fl=>
  simp only[lg]at e5;obtain⟨j1,j2⟩:=J1.2 m3 h3 H' r3 p3 i;split at e5;cases e5;rename_i hn;cases e5;refine .inl ⟨j2 hn,?_⟩;obtain⟨st,r'⟩:=r3.adopt (o:=.lst acc.reverse) (u:=.lst vs) o3 d3 (λ_ z=>nomatch z) (λ_ _ z=>nomatch z) (s1.trans s3) (by
   cases z:H D with
   |none=>rfl
   |some o=>
    have:=s1.keep D o (λi hi z2=>(r1.out hD) i (di hi s1.le) ((s1.same i hi).trans z2)) z;rw[hD]at this;cases this) λ_ mv=>⟨_,fG,q3.map mv⟩
  rw[HX d3]at st r';refine k _ _ _ st r' ?_;have:aI K (λi=>if i=h2.n then D else m3 i) (h2.n+1) H' (.ref ((λi=>if i=h2.n then D else m3 i) h2.n)) (.ref h2.n):=.ref (fY _);simp only[bY]at this;exact this;rename_i w hn;obtain⟨j3,j4⟩:=j1 w hn;refine .inr ⟨j3,λy H4 hy=>?_⟩;obtain⟨s4,r4,q4⟩:=j4 y H4 hy;split at e5;cases e5;rename_i jN ht;refine⟨ρ',h3,m3,w,jN,f3.stp s4,r4,q4,ht,λko f5=>?_⟩;refine bF e5 λbv h6 e6 e7=>?_;have d4:H4 D=aB (.lst vs):=s4.keep D _ o3 d3;have uf:=s3.trans s4;have p4:=J1.1 m3 h3.n H' m3 h3.n H4 (aZ _) (λ_ _=>rfl) (λb vs q=>s4.tup b vs q) (λb o u q=>s4.bC b o u q) p3;cases bv<;>try cases e7
  rename_i bb;refine⟨jN,h3,m3,bb,h6,f5,r4,e6,λH6 m6 s6 r6=>?_⟩;have o6:=s6.out o3 d4;have d6:H6 D=aB (.lst vs):=s6.keep D _ o3 d4;have p6:=J1.1 m3 h3.n H4 m6 h6.n H6 s6.le s6.same (λb vs q=>s6.tup b vs q) (λb o u q=>s6.bC b o u q) p4;cases bb with
  |false=>
   simp only[fF,eG];exact⟨fl,fY _,jN,h6,m6,acc,vs,e7,f5.stp s6,r6,d6,(q3.stp s4).stp s6,o6,uf.trans s6,p6⟩
  |true=>
   simp only[bY];obtain⟨⟨Oz,rQ⟩,h9,e8,e9⟩:=NU e7;refine bF e8 λy7 h7 vY nY=>?_;have Bp:=HZ il e9;refine⟨jN,h6,m6,y7,h7,f5.stp s6,r6,vY,WN (f:=999999) nY,λJ2 P2 H8 m8 s8 r8 Bq p8=>?_⟩;have o8:=s8.out o6 d6;have d8:H8 D=aB (.lst vs):=s8.keep D _ o6 d6;have WO:=J1.1 m6 h6.n H6 m8 h7.n H8 s8.le s8.same (λb vs q=>s8.tup b vs q) (λb o u q=>s8.bC b o u q) p6;refine⟨λj gl σ' H'=>∃Et ha ma nF va,jx (aW iU y7) (bw t2) nD fe gl j Et ha nF=.ok (Oz,rQ) h9/\Fr K ma ha.n H' σ' Et/\Rel K ma ha H'/\H' D=aB (.lst va)/\aF K ma ha.n H' va nF.reverse/\(∀i,i<ha.n->ma i≠D)/\bO m1 h1.n H1 ma ha.n H'/\P ma ha.n H'/\P2 ma ha.n H',
    ⟨fuel,jN,h7,m8,acc,vs,nY,(f5.stp s6).stp s8,r8,d8,((q3.stp s4).stp s6).stp s8,o8,(uf.trans s6).trans s8,WO,p8⟩,?_⟩
   rintro j gl σa Ha ⟨Et,ha,ma,nF,va,ea,OA,ra,da,qa,oa,sa,pa,pb⟩;cases gl with
   |zero=>cases ea
   |succ gl=>
    simp only[jx]at ea;obtain⟨b1,b2⟩:=Bq.2 ma ha Ha ra pb j;split at ea;cases ea;rename_i hn2;cases ea;exact .inl ⟨b2 hn2,fl,fY _,Oz,h9,ma,rQ,va,e9,OA,ra,da,qa,oa,sa,pa⟩;rename_i w2 hn2;obtain⟨b3,b4⟩:=b1 w2 hn2;refine .inr ⟨b3,λy2 Hb WQ=>?_⟩;obtain⟨sb,rb,qb⟩:=b4 y2 Hb WQ;split at ea;cases ea;rename_i Br Bs;refine⟨Et,ha,ma,w2,Br,OA.stp sb,rb,qb,Bs,λσb fb=>?_⟩;refine bF ea λWR hc2 ec ed=>?_;have db:Hb D=aB (.lst va):=sb.keep D _ oa da;have WS:=J1.1 ma ha.n Ha ma ha.n Hb (aZ _) (λ_ _=>rfl) (λb vs q=>sb.tup b vs q) (λb o u q=>sb.bC b o u q) pa;have WT:=Bq.1 ma ha.n Ha ma ha.n Hb (aZ _) (λ_ _=>rfl) (λb vs q=>sb.tup b vs q) (λb o u q=>sb.bC b o u q) pb;cases WR<;>try cases ed
    rename_i OB;refine⟨Br,ha,ma,OB,hc2,fb,rb,ec,λHc mc sc rc=>?_⟩;have oc:=sc.out oa db;have dc:Hc D=aB (.lst va):=sc.keep D _ oa db;have OC:=J1.1 ma ha.n Hb mc hc2.n Hc sc.le sc.same (λb vs q=>sc.tup b vs q) (λb o u q=>sc.bC b o u q) WS;have OD:=Bq.1 ma ha.n Hb mc hc2.n Hc sc.le sc.same (λb vs q=>sc.tup b vs q) (λb o u q=>sc.bC b o u q) WT;cases OB with
    |false=>
     simp only[fF,eG];exact⟨gl,fY _,Br,hc2,mc,nF,va,ed,fb.stp sc,rc,dc,(qa.stp sb).stp sc,oc,(sa.trans sb).trans sc,OC,OD⟩
    |true=>
     simp only[bY];refine bF ed λyv hd2 ef eg=>?_;refine⟨Br,hc2,mc,yv,hd2,fb.stp sc,rc,ef,λvd Hd md sd rd qd=>?_⟩;have od:=sd.out oc dc;have dd:Hd D=aB (.lst va):=sd.keep D _ oc dc;have pad:=J1.1 mc hc2.n Hc md hd2.n Hd sd.le sd.same (λb vs q=>sd.tup b vs q) (λb o u q=>sd.bC b o u q) OC;have WU:=Bq.1 mc hc2.n Hc md hd2.n Hd sd.le sd.same (λb vs q=>sd.tup b vs q) (λb o u q=>sd.bC b o u q) OD;have OE:=((qa.stp sb).stp sc).stp sd;have hlen:=Es eg;rw[cG]at hlen;refine⟨va,dd,?_,gl,fY _,Br,hd2,md,yv::nF,va++[vd],eg,?_⟩;rw[OE.length,List.length_reverse];have:big=sizeLine:=rfl;have hl2:rQ.length<=ys.length:=Bp;have hl3:nF.length+1<=rQ.length:=hlen;lia;obtain⟨Bo,r9,mv⟩:=rd.side (u:=.lst (va++[vd])) dd (λ_ z=>nomatch z) (λ_ _ z=>nomatch z) od (((sa.trans sb).trans sc).trans sd) hD;have kt:∀b us,Hd b=aB (.tup us)->upd Hd D (.lst (va++[vd])) b=aB (.tup us):=λb us q=>by rw[bP (bZ q dd λz=>nomatch z)];exact q
     have kf:∀b o u,Hd b=aB (.bC o u)->upd Hd D (.lst (va++[vd])) b=aB (.bC o u):=λb o u q=>by rw[bP (bZ q dd λz=>nomatch z)];exact q
     refine⟨⟨(fb.stp sc).len,λi w e=>let⟨v,h1,h2⟩:=((fb.stp sc).stp sd).val i w e;⟨v,h1,mv h2⟩⟩,r9,fG,?_,od,Bo,J1.1 md hd2.n Hd md hd2.n _ (aZ _) (λ_ _=>rfl) kt kf pad,Bq.1 md hd2.n Hd md hd2.n _ (aZ _) (λ_ _=>rfl) kt kf WU⟩;rw[List.reverse_cons];exact(OE.map mv).append (.cons (mv qd) .nil)
theorem WV{nx:Nat->VH->Option (Option W)}{tg:W->VH->En->Option En}{c e v:FE}{f i:Nat}{ρ:En}{h:VH}{acc ys:List (Key×W)}{h':VH}(q:jM nx tg c e v (f+1) i ρ h acc=.ok ys h'):∃o,nx i h=aB o:=by simp only[jM]at q;split at q;cases q;exact⟨_,by assumption⟩;exact⟨_,by assumption⟩
noncomputable abbrev Ia(kd:Kd)(fa:FE)(t:Tg)(ow:Nat)(ix:List Nat)(fc fe fv:FE):FE:=λρ h=>(fa ρ h).bind λx h=>(jM (aW kd x) (bw t) fc fe fv fuel 0 (inner ow ix ρ) h []).bind λkvs h=>.ok (.ref h.n) (h.new (.dm kvs))
theorem ug{K:aH}{kd:Kd}{t:Tg}{ow fr:List Str}{ix:List Nat}{fe fv:FE}{σ:L2.St}{H:Hp}{Q:VK}(q:eF K (Ia kd fa t ow.length ix fc fe fv) σ H Q):Ea K (jt ow fr ix) (bW K kd fa) (cu K t) (cP K fc) (Nz (eF K fe) (eF K fv)) (.dK []) σ H Q:=by
 refine q.el λρ h m w h' f r e k=>?_;refine bF e λx h1 e1 e2=>?_;refine bF e2 λys h2 e3 e4=>?_;cases e4;refine(.mk f r e1 ?_ λJ P H1 m1 s1 r1 J1 p1 D hD hK=>?_);exact WV (f:=999999) e3;obtain⟨jg,r0⟩:=r1.more (u:=.dK []) hD;have p0:=J1.1 m1 h1.n H1 m1 h1.n (upd H1 D (.dK [])) (aZ _) (λ_ _=>rfl) (λb vs q=>jg.tup b vs q) (λb o u q=>jg.bC b o u q) p1;refine⟨λi fl σ' H'=>∃ρ' h3 m3 acc vs,jM (aW kd x) (bw t) fc fe fv fl i ρ' h3 acc=.ok ys h2/\Fr K m3 h3.n H' σ' ρ'/\Rel K m3 h3 H'/\H' D=aB (.dK vs)/\aK K m3 h3.n H' vs acc/\(∀i,i<h3.n->m3 i≠D)/\bO m1 h1.n H1 m3 h3.n H'/\P m3 h3.n H',
  ⟨fuel,inner ow.length ix ρ,h1,m1,[],[],e3,HV ((f.stp s1).stp jg),r0,fG,.nil,r1.out hD,jg,p0⟩,?_⟩
 rintro i fl σ' H' ⟨ρ',h3,m3,acc,vs,e5,f3,r3,d3,q3,o3,s3,p3⟩;cases fl with
 |zero=>cases e5
 |succ fl=>
  simp only[jM]at e5;obtain⟨j1,j2⟩:=J1.2 m3 h3 H' r3 p3 i;split at e5;cases e5;rename_i hn;cases e5;refine .inl ⟨j2 hn,?_⟩;obtain⟨st,r'⟩:=r3.adopt (o:=.dm ys) (u:=.dK vs) o3 d3 (λ_ z=>nomatch z) (λ_ _ z=>nomatch z) (s1.trans s3) (by
   cases z:H D with
   |none=>rfl
   |some o=>
    have:=s1.keep D o (λi hi z2=>(r1.out hD) i (di hi s1.le) ((s1.same i hi).trans z2)) z;rw[hD]at this;cases this) λ_ mv=>⟨_,fG,q3.map mv⟩
  rw[HX d3]at st r';refine k _ _ _ st r' ?_;have:aI K (λi=>if i=h2.n then D else m3 i) (h2.n+1) H' (.ref ((λi=>if i=h2.n then D else m3 i) h2.n)) (.ref h2.n):=.ref (fY _);simp only[bY]at this;exact this;rename_i w hn;obtain⟨j3,j4⟩:=j1 w hn;refine .inr ⟨j3,λy H4 hy=>?_⟩;obtain⟨s4,r4,q4⟩:=j4 y H4 hy;split at e5;cases e5;rename_i jN ht;refine⟨ρ',h3,m3,w,jN,f3.stp s4,r4,q4,ht,λko f5=>?_⟩;refine bF e5 λbv h6 e6 e7=>?_;have d4:H4 D=aB (.dK vs):=s4.keep D _ o3 d3;have uf:=s3.trans s4;have p4:=J1.1 m3 h3.n H' m3 h3.n H4 (aZ _) (λ_ _=>rfl) (λb vs q=>s4.tup b vs q) (λb o u q=>s4.bC b o u q) p3;cases bv<;>try cases e7
  rename_i bb;refine⟨jN,h3,m3,bb,h6,f5,r4,e6,λH6 m6 s6 r6=>?_⟩;have o6:=s6.out o3 d4;have d6:H6 D=aB (.dK vs):=s6.keep D _ o3 d4;have p6:=J1.1 m3 h3.n H4 m6 h6.n H6 s6.le s6.same (λb vs q=>s6.tup b vs q) (λb o u q=>s6.bC b o u q) p4;cases bb with
  |false=>
   simp only[fF,eG];exact⟨fl,fY _,jN,h6,m6,acc,vs,e7,f5.stp s6,r6,d6,(q3.stp s4).stp s6,o6,uf.trans s6,p6⟩
  |true=>
   simp only[bY];refine bF e7 λy7 h7 e8 e9=>?_;refine bF e9 λy8 h8 vY nY=>?_;refine⟨jN,h6,m6,y7,h7,f5.stp s6,r6,e8,λv7 H7 m7 s7 r7 q7=>⟨jN,h7,m7,y8,h8,(f5.stp s6).stp s7,r7,vY,λv8 H8 m8 s8 r8 q8=>?_⟩⟩;have o7:=s7.out o6 d6;have d7:H7 D=aB (.dK vs):=s7.keep D _ o6 d6;have o8:=s8.out o7 d7;have d8:H8 D=aB (.dK vs):=s8.keep D _ o7 d7;have v9:=s7.trans s8;have p8:=J1.1 m6 h6.n H6 m8 h8.n H8 v9.le v9.same (λb vs q=>v9.tup b vs q) (λb o u q=>v9.bC b o u q) p6;have OF:=((q3.stp s4).stp s6).stp v9;split at nY;rename_i kk hk;split at nY;rename_i hz;refine⟨vs,kk,d8,yE (q7.stp s8) hk,?_,fl,fY _,jN,h8,m8,bB acc kk y8,putK vs kk v8,nY,?_⟩;rw[OF.length];exact iC.mp hz;obtain⟨Bo,r9,mv⟩:=r8.side (u:=.dK (putK vs kk v8)) d8 (λ_ z=>nomatch z) (λ_ _ z=>nomatch z) o8 ((uf.trans s6).trans v9) hD;have kt:∀b us,H8 b=aB (.tup us)->upd H8 D (.dK (putK vs kk v8)) b=aB (.tup us):=λb us q=>by rw[bP (bZ q d8 λz=>nomatch z)];exact q
   have kf:∀b o u,H8 b=aB (.bC o u)->upd H8 D (.dK (putK vs kk v8)) b=aB (.bC o u):=λb o u q=>by rw[bP (bZ q d8 λz=>nomatch z)];exact q
   exact⟨⟨(f5.stp s6).len,λi w e=>let⟨v,h1,h2⟩:=((f5.stp s6).stp v9).val i w e;⟨v,h1,mv h2⟩⟩,r9,fG,(OF.put q8 kk).map mv,o8,Bo,J1.1 m8 h8.n H8 m8 h8.n _ (aZ _) (λ_ _=>rfl) kt kf p8⟩;cases nY;cases nY
end
noncomputable def fN(h h':VH):Prop:=h.n<=h'.n/\h'.lo<=h.lo/\∀i,i<h.n->i<h'.lo->h'.get i=h.get i
theorem fN.refl{h:VH}:fN h h:=⟨aZ _,aZ _,λ_ _ _=>rfl⟩
theorem fN.trans{h h1 h2:VH}(a:fN h h1)(b:fN h1 h2):fN h h2:=⟨gJ a.1 b.1,gJ b.2.1 a.2.1,λi hi hl=>(b.2.2 i (di hi a.1) hl).trans (a.2.2 i hi (di hl b.2.1))⟩
theorem fN.new{h:VH}{o:VO}:fN h (h.new o):=⟨p9 _,aZ _,λi hi _=>iD hi⟩
theorem fN.set{h:VH}{i:Nat}{o:VO}(hi:i<h.n):fN h (h.set i o):=by refine⟨aZ _,?_,λj hj hl=>nZ hi ?_⟩;show(if Nat.blt i h.lo then i else h.lo)<=h.lo;split;rename_i q;exact tM (iC.mp q);exact aZ _;have hl:j< (if Nat.blt i h.lo then i else h.lo):=hl;split at hl;lia;rename_i q;intro z;rw[z]at hl;exact q (iC.mpr hl)
noncomputable def Gr{α:Type}(r:Res α)(h:VH):Prop:=∀a h',r=.ok a h'->fN h h'
section
variable{α β:Type}{h:VH}
theorem Gr.ok{a:α}:Gr (Res.ok a h) h:=λ_ _ e=>by cases e;exact .refl
theorem Gr.no:Gr (Res.no:Res α) h:=λ_ _ e=>by cases e
theorem Gr.of{o:Option α}:Gr (Res.of o h) h:=λ_ _ e=>by cases o with|none=>cases e|some a=>cases e;exact .refl
theorem Gr.new{a:α}{o:VO}:Gr (Res.ok a (h.new o)) h:=λ_ _ e=>by cases e;exact .new
theorem Gr.set{a:α}{o o':VO}{i:Nat}(g:h.get i=aB o'):Gr (Res.ok a (h.set i o)) h:=λ_ _ e=>by cases e;exact .set (bU g)
theorem Gr.bind{r:Res α}{f:α->VH->Res β}(a:Gr r h)(b:∀x h1,Gr (f x h1) h1):Gr (r.bind f) h:=λy h' e=>by
 cases r with|ok x h1=>exact(a x h1 rfl).trans (b x h1 y h' e)|ex _ _=>cases e|no=>cases e
end
theorem Bt{o:Op}{x y:W}{h:VH}:Gr (iA o x y h) h:=by unfold iA;split;exact .of;exact .of;exact .of;split;split;exact .new;exact .no;exact .no;exact .no
theorem Bu{o:Op}{x y:W}{h:VH}:Gr (vQ o x y h) h:=by unfold vQ;split;split;exact .ok;exact .ok;exact .of;exact .of;exact .no;split;split;rename_i g _ _;exact .set g;exact .no;exact .no;split;split;exact .ok;exact .no;exact .no;exact .no
theorem WW{x:W}{l u:Option Int}{h:VH}:Gr (kF x l u h) h:=by unfold kF;split;exact .ok;split;exact .new;exact .no;exact .no
theorem Bv{b:Bi}{xs:List W}{h:VH}:Gr (mj b xs h) h:=by
 cases b<;>simp only[mj];unfold iB;split<;>first|exact .of|exact .no
 unfold kG;split;split;exact .new;exact .no;exact .no;unfold vR;split<;>first|exact .of|exact .no
 unfold rM;split<;>first|exact .ok|exact .no
 unfold lF;split<;>first|exact .ok|exact .no
 unfold ny;split;exact .ok;split;split;exact .ok;exact .no;exact .no;exact .no;unfold rN;split<;>first|exact .ok|exact .no
 unfold kH;split;split;exact .of;exact .no;exact .no;unfold ud;split;split;exact .new;exact .no;exact .no;unfold vS;split;exact .new;exact .no;unfold nA;split;split;rename_i g;exact .set g;exact .no;exact .no;unfold nB;split;split;split;exact .new;exact .no;exact .no;exact .no;unfold jw;split;exact .of;exact .no
theorem Bw{m:Mt}{o:W}{xs:List W}{h:VH}:Gr (jW m o xs h) h:=by unfold jW;split;unfold oU;split;split;exact .no;split;rename_i g _ _ _;exact .set g;exact .no;exact .no;split;split;rename_i g _;exact .set g;exact .no;exact .no;split;exact .ok;exact .ok;exact .no;exact .no
theorem Ib{nx:Nat->VH->Option (Option W)}{tg:W->VH->En->Option En}{c e:En->VH->Res W}(hc:∀ρ h,Gr (c ρ h) h)(he:∀ρ h,Gr (e ρ h) h):∀(f i:Nat) (ρ:En) (h:VH) (acc:List W),Gr (jx nx tg c e f i ρ h acc) h
 |0,_,_,_,_=>.no
 |f+1,i,ρ,h,acc=>by
  simp only[jx];split;exact .no;exact .ok;split;exact .no;refine .bind (hc _ _) λb h1=>?_;split;exact .bind (he _ _) λy h2=>Ib hc he f _ _ _ _;exact Ib hc he f _ _ _ _;exact .no
theorem Ic{nx:Nat->VH->Option (Option W)}{tg:W->VH->En->Option En}{c:En->VH->Res W}{e:En->VH->List W->Res (En×List W)}(hc:∀ρ h,Gr (c ρ h) h)(he:∀ρ h acc,Gr (e ρ h acc) h):∀(f i:Nat) (ρ:En) (h:VH) (acc:List W),Gr (lg nx tg c e f i ρ h acc) h
 |0,_,_,_,_=>.no
 |f+1,i,ρ,h,acc=>by
  simp only[lg];split;exact .no;exact .ok;split;exact .no;refine .bind (hc _ _) λb h1=>?_;split;exact .bind (he _ _ _) λy h2=>Ic hc he f _ _ _ _;exact Ic hc he f _ _ _ _;exact .no
theorem oZ{nx:Nat->VH->Option (Option W)}{tg:W->VH->En->Option En}{c e:En->VH->Res W}(hc:∀ρ h,Gr (c ρ h) h)(he:∀ρ h,Gr (e ρ h) h):∀(f i:Nat) (ρ:En) (h:VH) (acc:List W),Gr (gF nx tg c e f i ρ h acc) h
 |0,_,_,_,_=>.no
 |f+1,i,ρ,h,acc=>by
  simp only[gF];split;exact .no;exact .ok;split;exact .no;refine .bind (hc _ _) λb h1=>?_;split;exact .bind (he _ _) λy h2=>oZ hc he f _ _ _ _;exact oZ hc he f _ _ _ _;exact .no
theorem o9{nx:Nat->VH->Option (Option W)}{tg:W->VH->En->Option En}{c e v:En->VH->Res W}(hc:∀ρ h,Gr (c ρ h) h)(he:∀ρ h,Gr (e ρ h) h)(hv:∀ρ h,Gr (v ρ h) h):∀(f i:Nat) (ρ:En) (h:VH) (acc:List (L2.Key×W)),Gr (jM nx tg c e v f i ρ h acc) h
 |0,_,_,_,_=>.no
 |f+1,i,ρ,h,acc=>by
  simp only[jM];split;exact .no;exact .ok;split;exact .no;refine .bind (hc _ _) λb h1=>?_;split;refine .bind (he _ _) λy h2=>.bind (hv _ _) λz h3=>?_;split;split;exact o9 hc he hv f _ _ _ _;exact .no;exact .no;exact o9 hc he hv f _ _ _ _;exact .no
theorem Ie{nx:Nat->VH->Option (Option W)}{tg:W->VH->En->Option En}{b:En->VH->Res Fl}(hb:∀ρ h,Gr (b ρ h) h):∀(f i:Nat) (ρ:En) (h:VH),Gr (dX nx tg b f i ρ h) h
 |0,_,_,_=>.no
 |f+1,i,ρ,h=>by
  simp only[dX];split;exact .no;exact .ok;split;exact .no;refine .bind (hb _ _) λfl h1=>?_;split;exact Ie hb f _ _ _;exact Ie hb f _ _ _;exact .ok;exact .ok
theorem Ig{c:En->VH->Res W}{b:En->VH->Res Fl}(hc:∀ρ h,Gr (c ρ h) h)(hb:∀ρ h,Gr (b ρ h) h):∀(f:Nat) (ρ:En) (h:VH),Gr (dz c b f ρ h) h
 |0,_,_=>.no
 |f+1,ρ,h=>by
  simp only[dz];refine .bind (hc _ _) λt h1=>?_;split;exact .ok;refine .bind (hb _ _) λfl h2=>?_;split;exact Ig hc hb f _ _;exact Ig hc hb f _ _;exact .ok;exact .ok;exact .no
section
variable{cl:Call}
theorem Bx(hcl:∀f ws h,Gr (cl f ws h) h):∀(e:E) (ρ:En) (h:VH),Gr (ev cl e ρ h) h:=by
 intro e;induction e with
 |var i=>intro ρ h;exact .of
 |cst w=>intro ρ h;exact .ok
 |nil=>intro ρ h;exact .ok
 |cons a r i1 i2=>intro ρ h;simp only[ev];refine .bind (i1 _ _) λx h1=>.bind (i2 _ _) λy h2=>?_;split<;>first|exact .ok|exact .no
 |tup a i1=>intro ρ h;simp only[ev];refine .bind (i1 _ _) λx h1=>?_;split<;>first|(split<;>first|exact .ok|exact .no)|exact .no
 |lst a i1=>intro ρ h;simp only[ev];refine .bind (i1 _ _) λx h1=>?_;split<;>first|(split<;>first|exact .new|exact .no)|exact .no
 |HC a i1=>
  intro ρ h;simp only[ev];refine .bind (i1 _ _) λx h1=>?_;split;split;split;exact .new;exact .no;exact .no;exact .no
 |op o a b i1 i2=>intro ρ h;simp only[ev];exact .bind (i1 _ _) λx h1=>.bind (i2 _ _) λy h2=>Bt
 |neg a i1=>intro ρ h;simp only[ev];refine .bind (i1 _ _) λx h1=>?_;split<;>first|exact .ok|exact .no
 |cmp c a b i1 i2=>intro ρ h;simp only[ev];exact .bind (i1 _ _) λx h1=>.bind (i2 _ _) λy h2=>.of
 |qh c d a b e i1 i2 i3=>
  intro ρ h;simp only[ev];refine .bind (i1 _ _) λx h1=>.bind (i2 _ _) λy h2=>?_;split;exact .bind (i3 _ _) λz h3=>.of;exact .ok;exact .no
 |not a i1=>intro ρ h;simp only[ev];refine .bind (i1 _ _) λx h1=>?_;split<;>first|exact .ok|exact .no
 |and a b i1 i2=>intro ρ h;simp only[ev];refine .bind (i1 _ _) λx h1=>?_;split<;>first|exact i2 _ _|exact .ok|exact .no
 |or a b i1 i2=>intro ρ h;simp only[ev];refine .bind (i1 _ _) λx h1=>?_;split<;>first|exact i2 _ _|exact .ok|exact .no
 |k9 a i1=>intro ρ h;simp only[ev];exact .bind (i1 _ _) λx h1=>.of
 |ite c a b i1 i2 i3=>
  intro ρ h;simp only[ev];refine .bind (i1 _ _) λx h1=>?_;split;exact i2 _ _;exact i3 _ _;exact .no
 |idx a b i1 i2=>intro ρ h;simp only[ev];exact .bind (i1 _ _) λx h1=>.bind (i2 _ _) λy h2=>.of
 |slc a bl lo bh hi i1 i2 i3=>
  intro ρ h;simp only[ev];refine .bind (i1 _ _) λx h1=>.bind (i2 _ _) λy h2=>.bind (i3 _ _) λz h3=>?_;split;exact WW;exact .no
 |call f a i1=>intro ρ h;simp only[ev];refine .bind (i1 _ _) λx h1=>?_;split<;>first|exact hcl _ _ _|exact .no
 |bi b a i1=>intro ρ h;simp only[ev];refine .bind (i1 _ _) λx h1=>?_;split<;>first|exact Bv|exact .no
 |oS t a i1=>intro ρ h;simp only[ev];exact .bind (i1 _ _) λx h1=>.of
 |mt m o a i1 i2=>
  intro ρ h;simp only[ev];refine .bind (i1 _ _) λx h1=>?_;split;refine .bind (i2 _ _) λy h2=>?_;split<;>first|exact Bw|exact .no
  exact .no
 |lc k a t ow ix c e i1 i2 i3=>
  intro ρ h;simp only[ev];refine .bind (i1 _ _) λx h1=>.bind (oZ i2 i3 _ _ _ _ _) λys h2=>?_;split;exact .new;exact .no
 |yt k a t ow ix c k2 a2 t2 c2 e i1 i2 i3 i4 i5=>
  intro ρ h;simp only[ev];refine .bind (i1 _ _) λx h1=>.bind (Ic i2 (λρ h acc=>.bind (i3 _ _) λy h2=>Ib i4 i5 _ _ _ _ _) _ _ _ _ _) λys h2=>?_;split;exact .new;exact .no
 |dc k a t ow ix c e v i1 i2 i3 i4=>
  intro ρ h;simp only[ev];exact .bind (i1 _ _) λx h1=>.bind (o9 i2 i3 i4 _ _ _ _ _) λys h2=>.new
theorem Ih(hcl:∀f ws h,Gr (cl f ws h) h):∀(s:S) (ρ:En) (h:VH),Gr (exs cl s ρ h) h:=by
 have ge:=Bx hcl;intro s;induction s with
 |skip=>intro ρ h;exact .ok
 |seq a b i1 i2=>intro ρ h;simp only[exs];refine .bind (i1 _ _) λfl h1=>?_;split<;>first|exact i2 _ _|exact .ok
 |set i e=>intro ρ h;simp only[exs];exact .bind (ge _ _ _) λw h1=>.ok
 |yu is e=>intro ρ h;simp only[exs];exact .bind (ge _ _ _) λw h1=>.of
 |aug i o e=>
  intro ρ h;simp only[exs];split;exact .bind (ge _ _ _) λy h1=>.bind Bu λz h2=>.ok;exact .no
 |put o i v=>
  intro ρ h;simp only[exs];refine .bind (ge _ _ _) λw h1=>.bind (ge _ _ _) λx h2=>.bind (ge _ _ _) λy h3=>?_;split;split;split;rename_i g _ _ _;exact .set g;exact .no;unfold oV;split;split;rename_i g _;exact .set g;exact .no;exact .no;exact .no
 |ite c a b i1 i2=>
  intro ρ h;simp only[exs];refine .bind (ge _ _ _) λx h1=>?_;split;exact i1 _ _;exact i2 _ _;exact .no
 |ret e=>intro ρ h;simp only[exs];exact .bind (ge _ _ _) λw h1=>.ok
 |expr e=>intro ρ h;simp only[exs];exact .bind (ge _ _ _) λw h1=>.ok
 |brk=>intro ρ h;exact .ok
 |cnt=>intro ρ h;exact .ok
 | «for» k a t b i1=>intro ρ h;simp only[exs];exact .bind (ge _ _ _) λx h1=>Ie i1 _ _ _ _
 |yw c b i1=>intro ρ h;simp only[exs];exact Ig (ge c) i1 _ _ _
 |no=>intro ρ h;exact .no
end
theorem Ii(F:Nat->Option Fn):∀(k f:Nat) (ws:List W) (h:VH),Gr (run F k f ws h) h
 |0,_,_,_=>.no
 |k+1,f,ws,h=>by
  intro a h' e;simp only[run]at e;split at e;rename_i fn hf;split at e;rename_i hl;generalize hr:exs (run F k) fn.body (ws.map aB++bI (fn.n-fn.ps) aC) ⟨h.n,h.n,h.os⟩=r at e;have g:=Ih (Ii F k) fn.body (ws.map aB++bI (fn.n-fn.ps) aC) ⟨h.n,h.n,h.os⟩;rw[hr]at g;have lv:∀w h1,fN ⟨h.n,h.n,h.os⟩ h1->leave h w h1=.ok a h'->fN h h':=by
   intro w h1 g1 e1;unfold leave at e1;split at e1;cases e1;exact .refl;cases e1;refine⟨g1.1,?_,λi hi hlo=>?_⟩;show(if Nat.ble h.lo h1.lo then h.lo else h1.lo)<=h.lo;split;exact aZ _;rename_i q;exact Nat.le_of_not_le λz=>q (qS.mpr z);have hlo:i< (if Nat.ble h.lo h1.lo then h.lo else h1.lo):=hlo;have hh:i<h1.lo:=by split at hlo;rename_i q;exact di hlo (lu q);exact hlo
   exact g1.2.2 i hi hh
  cases r with
  |no=>cases e
  |ex _ _=>cases e
  |ok fl h1=>
   have g1:=g fl h1 rfl;simp only[Res.bind]at e;split at e;exact lv _ _ g1 e;exact lv _ _ g1 e;cases e
  cases e;cases e
end RF
namespace HT
open PySem PySem.Spec PyProof.Rows
theorem pe{prog:ai}{w:aj}{A:ak}{E:aa->af->Prop}{s:af}{t b:ah}{vs ws:List aa}{Q:aa->af->Prop}(ht:IsTup s.heap t vs.toArray)(hb:IsTup s.heap b ws.toArray)(hv:vs≠[])
 (h1:ws=[]->Q (.ref t) s) (h2:ws≠[]->Q (.ref s.heap.objs.size) {s with heap:=s.heap.push {cls:=.type "tuple",data:=.seq (vs++ws).toArray}})
 (hsz:vs.length+ws.length<=sizeLine):wpAny (model prog w) A (inplaceOp .Add (.ref t) (.ref b)) Q E s:=by
 obtain⟨⟨cls,dd,data,sl⟩,ho,hc,n,hd⟩:=id ht;obtain⟨⟨Gz,dd2,data2,sl2⟩,ho2,hc2,n2,hd2⟩:=id hb;simp only at hc hd hc2 hd2;subst hc hd hc2 hd2;have e:vs.toArray++ws.toArray=(vs++ws).toArray:=by simp
 have hno:typeLookup (.type "tuple") (dunderI "add")=pure aC:=by rfl
 by_cases hw:ws=[]
 exact wpAny_inplaceOp_concat ⟨_,ho,rfl⟩ ⟨_,ho2,rfl⟩ hno yW yX (qK zk ⟨_,ho,rfl⟩ zj (vcs _ _)
  (tuple_addW1 t b vs.toArray ws.toArray n n2 dd dd2 sl sl2 (by simpa using hv) (by simp[hw])) ⟨ho,ho2,h1 hw⟩)
 refine wpAny_inplaceOp_concat ⟨_,ho,rfl⟩ ⟨_,ho2,rfl⟩ hno yW yX (qK zk ⟨_,ho,rfl⟩ zj (vcs _ _)
  (tuple_addW2 t b vs.toArray ws.toArray n n2 dd dd2 sl sl2 (by simpa using hv) (by simpa using hw) (by rw[dR,dR];exact hsz)) ⟨ho,ho2,?_⟩)
 rw[e];exact h2 hw
end HT
namespace L2
open PySem PySem.Spec PyProof.Rows
variable{X:Cx}
theorem WX:ym X .Add (l5 X.K):=by intro pins s σ H x y v u Q I rx ry h;obtain⟨a,b,xs,ys,rfl,rfl,ha,hb,hx,hz,q1,q2⟩:=h;cases rx;cases ry;obtain⟨its,r1,p1,_⟩:=I.tuple ha;obtain⟨its2,r2,p2,_⟩:=I.tuple hb;refine HT.pe p1 p2 (λz=>hx (r1.eW.mp z)) (λz=>⟨.ref a,H,I,rfl,q1 (r2.eW.mp z)⟩) (λz=>?_) (by rw[<-r1.length,<-r2.length];exact hz);refine⟨.ref s.heap.objs.size,_,I.laid (t':=s.toks) (o:=.tup (xs++ys)) (λb ob q=>cy _ q) (aZ _) ?_,rfl,q2 (λw=>z (r2.eW.mpr w)) _ (I.hok.fresh (aZ _))⟩;exact⟨by rw[fU];exact hz,_,r1.append r2,lz.new _ _⟩
end L2
namespace RF
open PySem PySem.Spec PyProof.Rows L2
noncomputable def wc(K:aH)(m:Nat->ah)(n:Nat)(H:Hp)(D:Ends):Fl->Prop|.nx ρ=>∀σ,Fr K m n H σ ρ->D.nx σ H|.bk ρ=>∀σ,Fr K m n H σ ρ->D.bk σ H|.ct ρ=>∀σ,Fr K m n H σ ρ->D.ct σ H|.rt w=>∀v,aI K m n H v w->D.rt v H
noncomputable def jO(K:aH)(f:FS):TS:=λD σ H=>∃ρ h m fl h',Fr K m h.n H σ ρ/\Rel K m h H/\f ρ h=.ok fl h'/\∀H' m',bO m h.n H m' h'.n H'->Rel K m' h' H'->wc K m' h'.n H' D fl
theorem jO.el{K:aH}{D:Ends}{σ:L2.St}{H:Hp}{P:Prop}{fa:FS}(q:jO K fa D σ H)(k:∀ρ h m fl h',Fr K m h.n H σ ρ->Rel K m h H->fa ρ h=.ok fl h'->(∀H' m',bO m h.n H m' h'.n H'->Rel K m' h' H'->wc K m' h'.n H' D fl)->P):P:=by obtain⟨ρ,h,m,w,h',f,r,e,k'⟩:=q;exact k ρ h m w h' f r e k'
theorem jO.mk{K:aH}{D:Ends}{σ:L2.St}{H:Hp}{m:Nat->ah}{ρ:En}{h h':VH}{fl:Fl}{fa:FS}(f:Fr K m h.n H σ ρ)(r:Rel K m h H)(e:fa ρ h=.ok fl h')(k:∀H' m',bO m h.n H m' h'.n H'->Rel K m' h' H'->wc K m' h'.n H' D fl):jO K fa D σ H:=⟨ρ,h,m,fl,h',f,r,e,k⟩
noncomputable abbrev SS(X:Cx)(st:aq)(f:FS):Prop:=PS X st (jO X.K f)
noncomputable abbrev rR(X:Cx)(st:List aq)(f:FS):Prop:=k6 X st (jO X.K f)
section
variable{X:Cx}{a b c e o:ao}{es:List ao}{fa fb fc fo fr:FE}{pos p:Pos}{x:Str}{st:aq}{sts:List aq}{ga gb:FS}
noncomputable abbrev uh:FS:=λρ h=>.ok (.nx ρ) h
noncomputable abbrev Ij(ga gb:FS):FS:=λρ h=>(ga ρ h).bind λfl h=>match fl with|.nx ρ=>gb ρ h|fl=>.ok fl h
theorem WY:rR X [] uh:=RN.imp λD σ H z9=>z9.el λρ h m fl h' f r e k=>by cases e;exact k H m .refl r σ f
theorem WZ:SS X (.Pass pos) uh:=RQ.imp λD σ H z9=>z9.el λρ h m fl h' f r e k=>by cases e;exact k H m .refl r σ f
theorem W0:SS X (.Break pos) (λρ h=>.ok (.bk ρ) h):=RS.imp λD σ H z9=>z9.el λρ h m fl h' f r e k=>by cases e;exact k H m .refl r σ f
theorem W2:SS X (.Continue pos) (λρ h=>.ok (.ct ρ) h):=RT.imp λD σ H z9=>z9.el λρ h m fl h' f r e k=>by cases e;exact k H m .refl r σ f
theorem W3(h1:SS X st ga)(h2:rR X sts gb):rR X (st::sts) (Ij ga gb):=(RO h1 h2).imp λD σ H z9=>z9.el λρ h m fl h' f r e k=>by
 refine bF e λW4 h1 e1 e2=>?_;refine(.mk f r e1 λH1 m1 s1 r1=>?_);cases W4 with|nx dJ=>exact λσ1 f1=>⟨dJ,h1,m1,fl,h',f1,r1,e2,λH' m' s' r'=>k H' m' (s1.trans s') r'⟩|bk dJ=>cases e2;exact k H1 m1 s1 r1|ct dJ=>cases e2;exact k H1 m1 s1 r1|rt w=>cases e2;exact k H1 m1 s1 r1
theorem By:SS X st (λ_ _=>.no):=RY.imp λD σ H z9=>z9.el λρ h m fl h' f r e k=>by cases e
noncomputable def Eu:ao->Bool|.ListComp .. |.SetComp .. |.DictComp ..=>false|_=>true
theorem OG{e:ao}{t:Option ao}{l:Nat}{env:Env}(h:Eu e):swapsWith e t l env=pure false:=by cases e<;>first|rfl|cases h
theorem W5(he:SE X e fa)(hs:Eu e):SS X (.Expr e pos) (λρ h=>(fa ρ h).bind λ_ h=>.ok (.nx ρ) h):=(RU he (OG hs)).imp λD σ H z9=>z9.el λρ h m fl h' f r e k=>by
 refine bF e λw h1 e1 e2=>?_;cases e2;exact(.mk f r e1 λv H1 m1 s1 r1 q1=>k H1 m1 s1 r1 σ (f.stp s1))
theorem W6(he:SE X e fa):SS X (.Return (aB e) pos) (λρ h=>(fa ρ h).bind λw h=>.ok (.rt w) h):=(RV he).imp λD σ H z9=>z9.el λρ h m fl h' f r e k=>by
 refine bF e λw h1 e1 e2=>?_;cases e2;exact(.mk f r e1 λv H1 m1 s1 r1 q1=>k H1 m1 s1 r1 v q1)
theorem W7:SS X (.Return aC pos) (λρ h=>(Res.ok W.aP h).bind λw h=>.ok (.rt w) h):=RW.imp λD σ H z9=>z9.el λρ h m fl h' f r e k=>by
 cases e;exact k H m .refl r .aP .aP
noncomputable abbrev pq(i:Nat)(fa:FE):FS:=λρ h=>(fa ρ h).bind λw h=>.ok (.nx (ρ.set i (aB w))) h
theorem Ew{K:aH}{i:Nat}{D:Ends}{σ:L2.St}{H:Hp}(q:jO K (pq i fa) D σ H):eF K fa σ H λv H1=>iP i v σ H1 D.nx:=by refine q.el λρ h m fl h' f r e k=>?_;refine bF e λw h1 e1 e2=>?_;cases e2;exact(.mk f r e1 λv H1 m1 s1 r1 q1=>k H1 m1 s1 r1 _ ((f.stp s1).set q1 i))
theorem Ik{i:Nat}{pos':Pos}(hN:X.N.Nodup)(hi:X.N[i]?=aB x)(hx:Loc X.env.scope x)(hf:X.fn x=true\/X.env.scope.names.lookup x=aB .local)(he:SE X e fa)
 (hs:swapsWith e (aB (.Name x pos')) pos.line X.env=pure false):SS X (.Assign [.Name x pos'] e pos) (pq i fa):=(R0 hN hi hx he hs hf).imp λD σ H q=>Ew q
theorem W8{i:Nat}{pos' lp:Pos}{ow fr:List Str}{ix:List Nat}{scope:ay}{tg iter elt:ao}{ifs:List ao}{kd:Kd}{t:Tg}{fe:FE}(hN:X.N.Nodup)(hi:X.N[i]?=aB x)(hx:Loc X.env.scope x)(hf:X.fn x=true\/X.env.scope.names.lookup x=aB .local)
 (S:aV X ow fr ix scope) (hc:X.calm) (hI:PI X tg iter (bW X.K kd fa)) (hg:∀C s₀ H₀ ex,PG (X.comp (ow++fr) scope C s₀ H₀ ex) tg (cu X.K t)) (ht:∀C s₀ H₀ ex,iQ (X.comp (ow++fr) scope C s₀ H₀ ex) ifs (cP X.K fc))
 (he:∀C s₀ H₀ ex,PE (X.comp (ow++fr) scope C s₀ H₀ ex) elt (eF X.K fe)) (hsw:swapsWith (.ListComp elt [⟨tg,iter,ifs,0⟩] scope lp) (aB (.Name x pos')) pos.line X.env=pure true) (hs:∀x,foldedSetIterable iter X.env x=pure x) :
 SS X (.Assign [.Name x pos'] (.ListComp elt [⟨tg,iter,ifs,0⟩] scope lp) pos) (pq i (HY kd fa t ow.length ix fc fe)):=
 (T5 hN hi hx S hc hI hg ht he hsw hf hs).imp λD σ H q=>ue (Ew q)
theorem BA{lp:Pos}{ow fr:List Str}{ix:List Nat}{scope:ay}{tg iter elt:ao}{ifs:List ao}{kd:Kd}{t:Tg}{fe:FE}
 (S:aV X ow fr ix scope) (hc:X.calm) (hI:PI X tg iter (bW X.K kd fa)) (hg:∀C s₀ H₀ ex,PG (X.comp (ow++fr) scope C s₀ H₀ ex) tg (cu X.K t)) (ht:∀C s₀ H₀ ex,iQ (X.comp (ow++fr) scope C s₀ H₀ ex) ifs (cP X.K fc))
 (he:∀C s₀ H₀ ex,PE (X.comp (ow++fr) scope C s₀ H₀ ex) elt (eF X.K fe)) (hs:∀x,foldedSetIterable iter X.env x=pure x) :
 SE X (.ListComp elt [⟨tg,iter,ifs,0⟩] scope lp) (HY kd fa t ow.length ix fc fe):=(As S hc hI hg ht he hs).imp λσ H Q q=>ue q
theorem W9{lp:Pos}{ow fr:List Str}{ix:List Nat}{scope:ay}{tg iter elt gP bA:ao}{ifs dH:List ao}{kd iU:Kd}{t t2:Tg}{fe n6 nD:FE}
 (S:aV X ow fr ix scope) (hc:X.calm) (hI:PI X tg iter (bW X.K kd fa)) (hg:∀C s₀ H₀ ex,PG (X.comp (ow++fr) scope C s₀ H₀ ex) tg (cu X.K t)) (ht:∀C s₀ H₀ ex,iQ (X.comp (ow++fr) scope C s₀ H₀ ex) ifs (cP X.K fc))
 (lK:∀C s₀ H₀ ex,PI (X.comp (ow++fr) scope C s₀ H₀ ex) gP bA (bW X.K iU n6)) (nt:∀C s₀ H₀ ex,PG (X.comp (ow++fr) scope C s₀ H₀ ex) gP (cu X.K t2)) (Bs:∀C s₀ H₀ ex,iQ (X.comp (ow++fr) scope C s₀ H₀ ex) dH (cP X.K nD))
 (he:∀C s₀ H₀ ex,PE (X.comp (ow++fr) scope C s₀ H₀ ex) elt (eF X.K fe)) (hs:∀x,foldedSetIterable iter X.env x=pure x) (hs2:∀C s₀ H₀ ex x,foldedSetIterable bA (X.comp (ow++fr) scope C s₀ H₀ ex).env x=pure x) :
 SE X (.ListComp elt [⟨tg,iter,ifs,0⟩,⟨gP,bA,dH,0⟩] scope lp) (vZ kd fa t ow.length ix fc iU n6 t2 nD fe):=
 (t6 NF rfl S hc hI hg ht (λC s₀ H₀ ex D=>ND (X:=X.comp (ow++fr) scope C s₀ H₀ ex) hc rfl (lK C s₀ H₀ ex) (nt C s₀ H₀ ex) (Bs C s₀ H₀ ex) (he C s₀ H₀ ex) (hs2 C s₀ H₀ ex) D) hs).imp λσ H Q q=>Ox q
theorem Xa{i:Nat}{pos' lp:Pos}{ow fr:List Str}{ix:List Nat}{scope:ay}{tg iter elt gP bA:ao}{ifs dH:List ao}{kd iU:Kd}{t t2:Tg}{fe n6 nD:FE}(hN:X.N.Nodup)(hi:X.N[i]?=aB x)(hx:Loc X.env.scope x)(hf:X.fn x=true\/X.env.scope.names.lookup x=aB .local)
 (S:aV X ow fr ix scope) (hc:X.calm) (hI:PI X tg iter (bW X.K kd fa)) (hg:∀C s₀ H₀ ex,PG (X.comp (ow++fr) scope C s₀ H₀ ex) tg (cu X.K t)) (ht:∀C s₀ H₀ ex,iQ (X.comp (ow++fr) scope C s₀ H₀ ex) ifs (cP X.K fc))
 (lK:∀C s₀ H₀ ex,PI (X.comp (ow++fr) scope C s₀ H₀ ex) gP bA (bW X.K iU n6)) (nt:∀C s₀ H₀ ex,PG (X.comp (ow++fr) scope C s₀ H₀ ex) gP (cu X.K t2)) (Bs:∀C s₀ H₀ ex,iQ (X.comp (ow++fr) scope C s₀ H₀ ex) dH (cP X.K nD))
 (he:∀C s₀ H₀ ex,PE (X.comp (ow++fr) scope C s₀ H₀ ex) elt (eF X.K fe)) (hsw:swapsWith (.ListComp elt [⟨tg,iter,ifs,0⟩,⟨gP,bA,dH,0⟩] scope lp) (aB (.Name x pos')) pos.line X.env=pure true) (hs:∀x,foldedSetIterable iter X.env x=pure x) (hs2:∀C s₀ H₀ ex x,foldedSetIterable bA (X.comp (ow++fr) scope C s₀ H₀ ex).env x=pure x) :
 SS X (.Assign [.Name x pos'] (.ListComp elt [⟨tg,iter,ifs,0⟩,⟨gP,bA,dH,0⟩] scope lp) pos) (pq i (vZ kd fa t ow.length ix fc iU n6 t2 nD fe)):=
 (Nq NF (λ_=>rfl) hN hi hx S hc hI hg ht (λC s₀ H₀ ex D=>ND (X:=X.comp (ow++fr) scope C s₀ H₀ ex) hc rfl (lK C s₀ H₀ ex) (nt C s₀ H₀ ex) (Bs C s₀ H₀ ex) (he C s₀ H₀ ex) (hs2 C s₀ H₀ ex) D) hsw hf hs).imp λD σ H q=>Ox (Ew q)
theorem BB{lp:Pos}{ow fr:List Str}{ix:List Nat}{scope:ay}{tg iter ek nG:ao}{ifs:List ao}{kd:Kd}{t:Tg}{fe fv:FE}
 (S:aV X ow fr ix scope) (hc:X.calm) (hI:PI X tg iter (bW X.K kd fa)) (hg:∀C s₀ H₀ ex,PG (X.comp (ow++fr) scope C s₀ H₀ ex) tg (cu X.K t)) (ht:∀C s₀ H₀ ex,iQ (X.comp (ow++fr) scope C s₀ H₀ ex) ifs (cP X.K fc))
 (he:∀C s₀ H₀ ex,PE (X.comp (ow++fr) scope C s₀ H₀ ex) ek (eF X.K fe)) (hv:∀C s₀ H₀ ex,PE (X.comp (ow++fr) scope C s₀ H₀ ex) nG (eF X.K fv)) (hs:∀x,foldedSetIterable iter X.env x=pure x) :
 SE X (.DictComp ek nG [⟨tg,iter,ifs,0⟩] scope lp) (Ia kd fa t ow.length ix fc fe fv):=
 (t6 Ny rfl S hc hI hg ht (λC s₀ H₀ ex D=>NB (he C s₀ H₀ ex) (hv C s₀ H₀ ex) D) hs).imp λσ H Q q=>ug q
theorem Xb{i:Nat}{pos' lp:Pos}{ow fr:List Str}{ix:List Nat}{scope:ay}{tg iter ek nG:ao}{ifs:List ao}{kd:Kd}{t:Tg}{fe fv:FE}(hN:X.N.Nodup)(hi:X.N[i]?=aB x)(hx:Loc X.env.scope x)(hf:X.fn x=true\/X.env.scope.names.lookup x=aB .local)
 (S:aV X ow fr ix scope) (hc:X.calm) (hI:PI X tg iter (bW X.K kd fa)) (hg:∀C s₀ H₀ ex,PG (X.comp (ow++fr) scope C s₀ H₀ ex) tg (cu X.K t)) (ht:∀C s₀ H₀ ex,iQ (X.comp (ow++fr) scope C s₀ H₀ ex) ifs (cP X.K fc))
 (he:∀C s₀ H₀ ex,PE (X.comp (ow++fr) scope C s₀ H₀ ex) ek (eF X.K fe)) (hv:∀C s₀ H₀ ex,PE (X.comp (ow++fr) scope C s₀ H₀ ex) nG (eF X.K fv)) (hsw:swapsWith (.DictComp ek nG [⟨tg,iter,ifs,0⟩] scope lp) (aB (.Name x pos')) pos.line X.env=pure true) (hs:∀x,foldedSetIterable iter X.env x=pure x) :
 SS X (.Assign [.Name x pos'] (.DictComp ek nG [⟨tg,iter,ifs,0⟩] scope lp) pos) (pq i (Ia kd fa t ow.length ix fc fe fv)):=
 (Nq Ny (λ_=>rfl) hN hi hx S hc hI hg ht (λC s₀ H₀ ex D=>NB (he C s₀ H₀ ex) (hv C s₀ H₀ ex) D) hsw hf hs).imp λD σ H q=>ug (Ew q)
noncomputable def pA:ao->Bool|.Tuple ..=>false|_=>true
theorem Xc{es:List ao}{k:Nat}{e:ao}{l:Nat}{p:Pos}{env:Env}:swapsWithSole [.Tuple es k p] e l env=pure false:=by cases e<;>rfl
theorem Xd{es:List ao}{k:Nat}{p:Pos}{e:ao}{env:Env}(h:pA e):swappedStores [.Tuple es k p] e env=pure aC:=by cases e<;>first|rfl|cases h
theorem Xe{is:List Nat}{k:Nat}(hc:X.calm)(hN:X.N.Nodup)(hs:Paired (lJ X) es is)(he:SE X e fa)(ht:pA e) :
 SS X (.Assign [.Tuple es k p] e pos) (λρ h=>(fa ρ h).bind λw h=>.of ((bw (.many is) w h ρ).map .nx) h):=(Mz he (HU hc hN hs) Xc (Xd ht) rfl).imp λD σ H z9=>z9.el λρ h m fl h' f r e k=>by
 refine bF e λw h1 e1 e2=>?_;obtain⟨e2,e3⟩:=of_ok e2;subst e3;cases z:bw (.many is) w h' ρ with
 |none=>rw[z]at e2;cases e2
 |some ρ'=>
  rw[z]at e2;cases e2;exact(.mk f r e1 λv H1 m1 s1 r1 q1=>(.mk (f.stp s1) r1 q1 z λσ' f'=>k H1 m1 s1 r1 σ' f'))
noncomputable def BC:ao->Bool|.Slice ..=>false|_=>true
theorem Xf{o i:ao}{p:Pos}{env:Env}(h:BC i)(v:aa):assign (.Subscript o i p) env v=(do
 let ov <-holding [v] (eval o env);let iv <-holding [v,ov] (eval i env)
 standAt p
 holding [v,ov,iv] (setItem ov iv v)
 release [v,ov,iv] []):=by
 cases i<;>first|rfl|cases h
noncomputable abbrev Il(fo fi fv:FE):FS:=λρ h=>(fv ρ h).bind λw h=>(fo ρ h).bind λx h=>(fi ρ h).bind λy h=>match x,y with
 |.ref a,.int j=>(match h.get a with
  |some (.lst ws)=>(match L2.jd ws.length j with
   |some k=>.ok (.nx ρ) (h.set a (.lst (ws.set k w)))
   |none=>.no)
  |_=>oV ρ a j w h)
 |_,_=>.no
theorem Xg{o i e:ao}{l:Nat}{p:Pos}{env:Env}:swapsWithSole [.Subscript o i p] e l env=pure false:=by cases e<;>rfl
theorem Xh{o i e:ao}{p:Pos}{env:Env}:swappedStores [.Subscript o i p] e env=pure aC:=by cases e<;>rfl
theorem Xi{X:Cx}{t t':V->V->V->Hp->(Hp->Prop)->Prop}(h:mV X t)(h':mV X t'):mV X (λo i v H Q=>t o i v H Q\/t' o i v H Q):=by
 intro pins s σ H o i v ov iv u Q I ro ri rv q;rcases q with q|q
 exact h pins s σ H o i v ov iv u Q I ro ri rv q;exact h' pins s σ H o i v ov iv u Q I ro ri rv q
noncomputable def BD:V->V->V->Hp->(Hp->Prop)->Prop:=λo i v H Q=>∃a kvs j,o=.ref a/\i=.int j/\H a=aB (.dK kvs)/\kvs.length<sizeLine/\Q (upd H a (.dK (putK kvs (.inl j) v)))
theorem Xj(hu:X.A.units+2<cLine):mV X BD:=by intro pins s σ H o i v ov iv u Q I ro ri rv h;obtain⟨a,kvs,j,rfl,rfl,e,hl,q⟩:=h;cases ro;exact Ug (Nat.lt_of_succ_lt hu) I (rG.k (k:=.inl j) e hl) ri rv λs' I'=>⟨_,I',q⟩
theorem Xk(hu:X.A.units+2<cLine)(ho:SE X o fo)(hi:SE X a fa)(hv:SE X e fb)(hs:BC a):SS X (.Assign [.Subscript o a p] e pos) (Il fo fa fb):=
 (Mz hv (RZ ho hi (Xi Ti (Xj hu)) (Xf hs)) Xg Xh rfl).imp λD σ H z9=>z9.el λρ h m fl h' f r e k=>by
   refine bF e λw h1 e1 e2=>?_;refine bF e2 λx h2 e3 e4=>?_;refine bF e4 λy h3 e5 e6=>?_;refine(.mk f r e1 λv H1 m1 s1 r1 q1=>(.mk (f.stp s1) r1 e3 λvo H2 m2 s2 r2 q2=>(.mk ((f.stp s1).stp s2) r2 e5 λvi H3 m3 s3 r3 q3=>?_)));split at e6;rename_i l j;split at e6;rename_i ws g;split at e6;rename_i kk hk;cases e6;cases q3;have Im:=q2.stp s3;cases Im;obtain⟨vs,p1,p2⟩:=r3.lst g;refine .inl ⟨m3 l,vs,j,kk,rfl,rfl,p1,by rw[p2.length];exact hk,?_⟩;have qv:=((q1.stp s2).stp s3)
   obtain⟨st,r'⟩:=r3.write (i:=l) (o:=.lst (ws.set kk w)) (u:=.lst (vs.set kk v)) (bU g) p1 (λ_ z=>nomatch z) (λ_ _ z=>nomatch z) λst=>⟨_,fG,aF.set (qv.stp st) kk (p2.stp st)⟩
   exact k _ m3 (((s1.trans s2).trans s3).trans st) r' σ ((((f.stp s1).stp s2).stp s3).stp st);cases e6;unfold oV at e6;split at e6;rename_i kvs g;split at e6;rename_i hb;cases e6;cases q3;have Im:=q2.stp s3;cases Im;obtain⟨vs,p1,p2⟩:=r3.dm g;have hlt:vs.length<sizeLine:=by rw[p2.length,uV];exact iC.mp hb
   refine .inr ⟨m3 l,vs,j,rfl,rfl,p1,hlt,?_⟩;have qv:=((q1.stp s2).stp s3)
   obtain⟨st,r'⟩:=r3.write (i:=l) (o:=.dm (bB kvs (.inl j) w)) (u:=.dK (putK vs (.inl j) v)) (bU g) p1 (λ_ z=>nomatch z) (λ_ _ z=>nomatch z) λst=>⟨_,fG,aK.put (qv.stp st) _ (p2.stp st)⟩
   exact k _ m3 (((s1.trans s2).trans s3).trans st) r' σ ((((f.stp s1).stp s2).stp s3).stp st);cases e6;cases e6;cases e6
theorem Xl{M:Model}{A:ak}{E:aa->af->Prop}{s:af}{a b:aa}{T id:String}{Q:aa->af->Prop}(ha:s.TypeIs a T)(hb:s.TypeIs b T)
 (hI:typeLookup (.type T) (dunderI "add")=pure (aB (.builtin id))) (hq:isSeqSlot (aB (.builtin id))) (hfill:fillsNumberSlot (.type T) "add" = pure false) (hc:wpAny M A (call (.builtin id) [a,b]) Q E s):wpAny M A (inplaceOp .Add a b) Q E s:=by
 unfold inplaceOp;refine mP ?_;have h1:fillsInplaceSlot (.type T) "add" (Operator.Add == .Add)=pure false:=by unfold fillsInplaceSlot;show(typeLookup (.type T) (dunderI "add") >>= λfi=>pure (fi.isSome && !isSeqSlot fi))=_;rw[hI,qV,hq];rfl
 have h2:seqSlot? (.type T) (dunderI "add")=pure (aB (.builtin id)):=by unfold seqSlot?;rw[hI,qV,hq];rfl
 refine aJ (C9 ha (aJ (Dc h1 ?_)));show wpAny M A (if false=true then _ else _) Q E s;rw[if_neg u9];refine aJ (binaryOp1_none (nm:="add") ha hb hfill ?_);refine aJ (Dc h2 ?_);exact aJ (qL hc)
noncomputable def um:R2:=λx y H Q=>∃l b xs zs,x=.ref l/\y=.ref b/\H l=aB (.lst xs)/\H b=aB (.lst zs)/\xs.length+zs.length<=sizeLine/\Q (.ref l) (upd H l (.lst (xs++zs)))
theorem Xm:ym X .Add um:=by
 intro pins s σ H x y v u Q I rx ry h;obtain⟨l,b,xs,zs,rfl,rfl,hH,hB,hz,q⟩:=h;cases rx;cases ry;obtain⟨z,its,n,r,hl,e⟩:=I.fJ hH;obtain⟨z2,its2,n2,r2,hl2,e2⟩:=I.fJ hB;have hsz:its.toArray.size+its2.toArray.size<=sizeLine:=by rw[dR,dR];lia
 have oK:¬(!its.toArray.isEmpty&&Builtin.List.listTooLong (its.toArray.size+its2.toArray.size))=true:=by rw[MW hsz,Bool.and_false];exact u9
 refine Xl (T:="list") (id:="list.__iadd__") ⟨_,e,rfl⟩ ⟨_,e2,rfl⟩ PySem.F.slot_list_iadd.lookup (by decide +kernel) noFill_list_add ?_;refine qK PySem.F.slot_list_iadd ⟨_,e,rfl⟩ PySem.F.entry_list_iadd (PySem.F.args_list_iadd_2 _ _)
  (AutoSeq1.list___iadd___list_list_0 l its.toArray n b its2.toArray n2 oK (by rw[dR];lia) (by lia)) ⟨e,e2,?_⟩
 refine⟨.ref l,_,I.ki (its':=its++its2) hH e (by simp) (r.append r2) ?_,rfl,q⟩;rw[fU];lia
noncomputable def rS:Operator->Option Op|.Add=>aB .add|.Sub=>aB .sub|.Mult=>aB .mul|.FloorDiv=>aB .fdiv|_=>aC
noncomputable def OH(K:aH):Op->R2|.mul=>rI mZ λi j=>.int (i*j)|.fdiv=>rI rm λi j=>.int (i/j)|.add=>λx y H Q=>DK (λi j=>i+j) x y H Q\/um x y H Q\/l5 K x y H Q|.sub=>DK λi j=>i-j|_=>λ_ _ _ _=>False
theorem BE{O:Operator}{o:Op}(e:rS O=aB o):ym X O (OH X.K o):=by
 cases O<;>cases e;intro pins s σ H x y v u Q I rx ry q;rcases q with q|q|q
 exact R3 pins s σ H x y v u Q I rx ry q;exact Xm pins s σ H x y v u Q I rx ry q;exact WX pins s σ H x y v u Q I rx ry q;exact R4;exact So;exact Sq
theorem Xn{K:aH}{O:Operator}{o:Op}(e:rS O=aB o):A3 K (OH K o) (vQ o):=by
 intro m h H v u x y w h' Q r qv qu e2 k;unfold vQ at e2;split at e2;rename_i i j;cases qv;cases qu;split at e2;cases e2;exact .inl ⟨i,j,rfl,rfl,aL.here k r (.int _)⟩;cases e2;exact⟨i,j,rfl,rfl,aL.here k r (.int _)⟩;obtain⟨e2,rfl⟩:=of_ok e2;cases z:gE .mul i j with
 |none=>rw[z]at e2;cases e2
 |some t=>
  rw[z]at e2;cases e2;obtain⟨c1,rfl⟩:=HF z;exact⟨i,j,rfl,rfl,c1,aL.here k r (.int _)⟩
 obtain⟨e2,rfl⟩:=of_ok e2;cases z:gE .fdiv i j with
 |none=>rw[z]at e2;cases e2
 |some t=>
  rw[z]at e2;cases e2;obtain⟨c1,rfl⟩:=HF z;exact⟨i,j,rfl,rfl,c1,aL.here k r (.int _)⟩
 cases e2;rename_i i j;split at e2;rename_i xs ys g1 g2;split at e2;rename_i hz;cases e2;cases qv;cases qu;obtain⟨vs,p1,p2⟩:=r.lst g1;obtain⟨us,p3,p4⟩:=r.lst g2;refine .inr (.inl ⟨m i,m j,vs,us,rfl,rfl,p1,p3,by rw[p2.length,p4.length];exact lu hz,?_⟩);obtain⟨st,r'⟩:=r.write (i:=i) (o:=.lst (xs++ys)) (u:=.lst (vs++us)) (bU g1) p1 (λ_ z=>nomatch z) (λ_ _ z=>nomatch z) λst=>⟨_,fG,(p2.stp st).append (p4.stp st)⟩
 exact k _ _ m st r' (.ref (show i<h.n from bU g1));cases e2;cases e2;rename_i x xs ys;split at e2;split at e2;rename_i hz;cases e2;cases qv with
 |tup qa ra=>
  cases qu with
  |tup qb rb=>
   rename_i a va b vb;refine .inr (.inr ⟨a,b,va,vb,rfl,rfl,qa,qb,λz=>?_,by rw[ra.length,rb.length];exact lu hz,λz=>?_,λ_ p hp=>aL.tuple k r (ra.append rb) hp⟩);subst z;cases ra;subst z;cases rb;rw[oA]at k;exact aL.here k r (.tup qa ra)
 cases e2;cases e2;cases e2
noncomputable abbrev we(i:Nat)(o:Op)(fa:FE):FS:=λρ h=>match(ρ[i]?).join with|some x=>(fa ρ h).bind λy h=>(vQ o x y h).bind λz h=>.ok (.nx (ρ.set i (aB z))) h|none=>.no
theorem Xo{i:Nat}{pos':Pos}{O:Operator}{o:Op}(eo:rS O=aB o)(hN:X.N.Nodup)(hi:X.N[i]?=aB x)(hx:Loc X.env.scope x)(hf:X.fn x=true\/X.env.scope.names.lookup x=aB .local)(he:SE X e fa) :
 SS X (.AugAssign (.Name x pos') O e pos) (we i o fa):=(R1 hN hi hx he (BE eo) hf).imp λD σ H z9=>z9.el λρ h m fl h' f r e k=>by
 have e:we i o fa ρ h=.ok fl h':=e;simp only[we]at e;cases z:(ρ[i]?).join with
 |none=>rw[z]at e;cases e
 |some x=>
  rw[z]at e;simp only at e;refine bF e λy h1 e1 e2=>?_;refine bF e2 λw h2 e3 e4=>?_;cases e4;have e5:ρ[i]?=aB (aB x):=by
   cases q:ρ[i]? with|none=>rw[q]at z;cases z|some o=>rw[q]at z;rw[<-z];rfl
  obtain⟨v,p1,p2⟩:=f.val i x e5;refine⟨v,p1,ρ,h,m,y,h1,f,r,e1,λu H1 m1 s1 r1 q1=>Xn eo m1 h1 H1 v u x y w h' _ r1 (p2.stp s1) q1 e3 λv' H' m' s' r' q'=>?_⟩;exact k H' m' (s1.trans s') r' _ (((f.stp s1).stp s').set q' i)
noncomputable abbrev Xp(fc:FE)(ga gb:FS):FS:=λρ h=>(fc ρ h).bind λx h=>match x with|.bl true=>ga ρ h|.bl false=>gb ρ h|_=>.no
variable{sa sb:List aq}
theorem Xq(hc:ST X c fc)(ha:rR X sa ga)(hb:rR X sb gb):SS X (.If c sa sb pos) (Xp fc ga gb):=(zJ hc ha hb).imp λD σ H z9=>z9.el λρ h m fl h' f r e k=>by
 refine bF e λx h1 e1 e2=>?_;cases x<;>try cases e2
 rename_i c;refine(.mk f r e1 λH1 m1 s1 r1=>?_);cases c with|true=>rw[if_pos rfl];exact(.mk (f.stp s1) r1 e2 λH' m' s' r'=>k H' m' (s1.trans s') r')|false=>simp only[fF,eG];exact(.mk (f.stp s1) r1 e2 λH' m' s' r'=>k H' m' (s1.trans s') r')
theorem Xr{nx:Nat->VH->Option (Option W)}{tg:W->VH->En->Option En}{g:FS}{f i:Nat}{ρ:En}{h:VH}{fl:Fl}{h':VH}(q:dX nx tg g (f+1) i ρ h=.ok fl h'):∃o,nx i h=aB o:=by simp only[dX]at q;split at q;cases q;exact⟨_,by assumption⟩;exact⟨_,by assumption⟩
noncomputable abbrev BF(kd:Kd)(fa:FE)(t:Tg)(g:FS):FS:=λρ h=>(fa ρ h).bind λx h=>dX (aW kd x) (bw t) g fuel 0 ρ h
theorem Xs{K:aH}{kd:Kd}{t:Tg}{D:Ends}{σ:L2.St}{H:Hp}(q:jO K (BF kd fa t ga) D σ H):zQ (bW K kd fa) (cu K t) (jO K ga) D σ H:=by
 refine q.el λρ h m fl h' f r e k=>?_;refine bF e λx h1 e1 e2=>?_;refine(.mk f r e1 (Xr (f:=999999) e2) λJ P H1 m1 s1 r1 J1 p1=>?_);refine⟨λi fu σ' H'=>∃ρ' h3 m3,dX (aW kd x) (bw t) ga fu i ρ' h3=.ok fl h'/\Fr K m3 h3.n H' σ' ρ'/\Rel K m3 h3 H'/\bO m1 h1.n H1 m3 h3.n H'/\P m3 h3.n H',⟨fuel,ρ,h1,m1,e2,f.stp s1,r1,.refl,p1⟩,?_⟩;rintro i fu σ' H' ⟨ρ',h3,m3,e3,f3,r3,s3,p3⟩;cases fu with
 |zero=>cases e3
 |succ fu=>
  simp only[dX]at e3;obtain⟨j1,j2⟩:=J1.2 m3 h3 H' r3 p3 i;split at e3;cases e3;rename_i hn;cases e3;exact .inl ⟨j2 hn,k H' m3 (s1.trans s3) r3 σ' f3⟩;rename_i w hn;obtain⟨j3,j4⟩:=j1 w hn;split at e3;cases e3;rename_i Ex ht;refine bF e3 λBG h5 e5 e6=>?_;refine .inr ⟨j3,λjV H6=>∃jP m6,dX (aW kd x) (bw t) ga fu (i+1) jP h5=.ok fl h'/\Fr K m6 h5.n H6 jV jP/\Rel K m6 h5 H6/\bO m1 h1.n H1 m6 h5.n H6/\P m6 h5.n H6,λjV H6 ⟨jP,m6,a1,a2,a3,a4,a5⟩=>⟨fu,fY _,jP,h5,m6,a1,a2,a3,a4,a5⟩,λy H4 hy=>?_⟩;obtain⟨s4,r4,q4⟩:=j4 y H4 hy;refine⟨ρ',h3,m3,w,Ex,f3.stp s4,r4,q4,ht,λko f5=>⟨Ex,h3,m3,BG,h5,f5,r4,e5,λH6 m6 s6 r6=>?_⟩⟩;have p4:=J1.1 m3 h3.n H' m3 h3.n H4 (aZ _) (λ_ _=>rfl) (λb vs q=>s4.tup b vs q) (λb o u q=>s4.bC b o u q) p3;have p6:=J1.1 m3 h3.n H4 m6 h5.n H6 s6.le s6.same (λb vs q=>s6.tup b vs q) (λb o u q=>s6.bC b o u q) p4;have gV:=(s3.trans s4).trans s6;cases BG with|nx jP=>exact λjV f6=>⟨jP,m6,e6,f6,r6,gV,p6⟩|ct jP=>exact λjV f6=>⟨jP,m6,e6,f6,r6,gV,p6⟩|bk jP=>cases e6;exact λjV f6=>k H6 m6 (s1.trans gV) r6 jV f6|rt w6=>cases e6;exact λv6 q6=>k H6 m6 (s1.trans gV) r6 v6 q6
theorem Xu{kd:Kd}{t:Tg}{tg iter:ao}(hp:PassesOwn (model X.prog X.w) X.A X.env X.xe)(hc:X.calm)(hI:PI X tg iter (bW X.K kd fa))(hg:PG X tg (cu X.K t))(hb:rR X sa ga)(hs:∀x,foldedSetIterable iter X.env x=pure x) :
 SS X (.For tg iter sa [] pos) (BF kd fa t ga):=(Sg hp hc hI hg hb hs).imp λD σ H q=>Xs q
theorem Xv(hp:PassesOwn (model X.prog X.w) X.A X.env X.xe)(hc:ST X c fc)(hb:rR X sa ga):SS X (.While c sa [] pos) (λρ h=>dz fc ga fuel ρ h):=(R6 hp hc hb).imp λD σ H z9=>z9.el λρ h m fl h' f r e k=>by
 refine⟨λfu σ' H'=>∃ρ' h3 m3,dz fc ga fu ρ' h3=.ok fl h'/\Fr X.K m3 h3.n H' σ' ρ'/\Rel X.K m3 h3 H'/\bO m h.n H m3 h3.n H',⟨fuel,ρ,h,m,e,f,r,.refl⟩,?_⟩;rintro fu σ' H' ⟨ρ',h3,m3,e3,f3,r3,s3⟩;cases fu with
 |zero=>cases e3
 |succ fu=>
  simp only[dz]at e3;refine bF e3 λx h4 e4 e5=>?_;cases x<;>try cases e5
  rename_i b;refine⟨ρ',h3,m3,b,h4,f3,r3,e4,λH4 m4 s4 r4=>?_⟩;cases b with
  |false=>cases e5;simp only[fF,eG];exact k H4 m4 (s3.trans s4) r4 σ' (f3.stp s4)
  |true=>
   simp only[bY];refine bF e5 λBG h5 e6 e7=>?_;refine⟨λjV H6=>∃jP m6,dz fc ga fu jP h5=.ok fl h'/\Fr X.K m6 h5.n H6 jV jP/\Rel X.K m6 h5 H6/\bO m h.n H m6 h5.n H6,λjV H6 ⟨jP,m6,a1,a2,a3,a4⟩=>⟨fu,fY _,jP,h5,m6,a1,a2,a3,a4⟩,?_⟩;refine⟨ρ',h4,m4,BG,h5,f3.stp s4,r4,e6,λH6 m6 s6 r6=>?_⟩;have gV:=(s3.trans s4).trans s6;cases BG with|nx jP=>exact λjV f6=>⟨jP,m6,e7,f6,r6,gV⟩|ct jP=>exact λjV f6=>⟨jP,m6,e7,f6,r6,gV⟩|bk jP=>cases e7;exact λjV f6=>k H6 m6 gV r6 jV f6|rt w6=>cases e7;exact λv6 q6=>k H6 m6 gV r6 v6 q6
end
theorem BH{n:Str}:∀{ps:List Str} {us:List aa},us.length=ps.length->n∈ps->((ps.zip us).lookup n).isSome=true
 |[],_,_,h=>by cases h
 |p::ps,[],hl,_=>by cases hl
 |p::ps,u::us,hl,h=>by
  rw[qN,gG];by_cases e:(n==p)=true;rw[e];rfl;have e':(n==p)=false:=by simpa using e
  rw[e'];refine BH (by simpa using hl) ?_;rcases gH.mp h with z|z
  rw[z]at e';simp at e';exact z
theorem Xw{n:Str}{u:aa}{p:Str}{ps:List Str}{us:List aa}(h:n≠p):((p,u)::ps.zip us).lookup n=(ps.zip us).lookup n:=by
 rw[gG];have e':(n==p)=false:=by simpa using h
 rw[e']
theorem OI{α β:Type}{f g:α->Option β}:∀{l:List α},(∀a∈l,f a=g a)->l.filterMap f=l.filterMap g
 |[],_=>rfl
 |a::r,h=>by
  rw[uX,uX,h a fT,OI λb hb=>h b (fE _ hb)]
theorem Ey:∀{ps:List Str} {us:List aa},us.length=ps.length->ps.Nodup->ps.filterMap (λn=>((ps.zip us).lookup n).map (n,·))=ps.zip us
 |[],_,_,_=>rfl
 |p::ps,[],hl,_=>by cases hl
 |p::ps,u::us,hl,hn=>by
  obtain⟨h1,h2⟩:=u5.mp hn;rw[qN,uX];have e:((p,u)::ps.zip us).lookup p=aB u:=by rw[gG];simp
  rw[e];simp only[ly];congr 1;have ih:=Ey (ps:=ps) (us:=us) (by simpa using hl) h2;refine Eq.trans ?_ ih;exact OI λn hn'=>by
   have hne:n≠p:=λz=>h1 (by rw[<-z];exact hn');rw[Xw hne]
theorem OJ{x qual:Str}{args:List Arg}{body:List aq}{sc:ay}{kV doc pm:aa}{an:Option ah}{cdv ct:aa}{us:List aa}{df:List ao}(hl:us.length=(args.map (·.arg)).length)(hn:(args.map (·.arg)).Nodup) :
 bindArgs (PySem.W.fnOf x qual ⟨[],args,aC,[],[],aC,df⟩ body sc .none kV doc pm an cdv ct) ⟨us,[]⟩=pure ((args.map (·.arg)).zip us):=by
 have hs:seqItems? Value.none=pure aC:=rfl;have hm:((args.map (·.arg)).filter λn=>(((args.map (·.arg)).zip us).lookup n).isNone)=[]:=by
  rw[List.filter_eq_nil_iff];intro n hn';have:=BH hl hn';cases q:((args.map (·.arg)).zip us).lookup n with|none=>rw[q]at this;cases this|some v=>simp
 unfold bindArgs;simp only[PySem.W.fnOf,u7,xU,oA,hs,qV];have hg:¬(us.length> (args.map (·.arg)).length):=by lia
 have h0:(#[]:Array aa).toList=[]:=rfl;simp only[Ds,h0,u6,qV,List.drop_nil,Dj,Nat.sub_zero,oz,hm,List.isEmpty_nil,Bool.not_true,List.drop_length,List.zip_nil_right,List.zip_nil_left,jn hg,xX,fF,eG,Ey hl hn]
theorem OL{z:Str}:∀{qs:List Str} {us:List aa},us.length=qs.length->(qs++[z]).zip us=qs.zip us
 |[],[],_=>rfl
 |[],_::_,h=>by cases h
 |_::_,[],h=>by cases h
 |q::qs,u::us,h=>by
  rw[qR,qN,qN,OL (by simpa using h)]
theorem Io{z:Str}{v:aa}:∀{qs:List Str} {us:List aa},us.length=qs.length->(qs++[z]).zip (us++[v])=qs.zip us++[(z,v)]
 |[],[],_=>rfl
 |[],_::_,h=>by cases h
 |_::_,[],h=>by cases h
 |q::qs,u::us,h=>by
  rw[qR,qR,qN,qN,Io (by simpa using h),qR]
theorem OM{z:Str}:∀{qs:List Str} {us:List aa},z∉qs->(qs.zip us).lookup z=aC
 |[],_,_=>rfl
 |_::_,[],_=>rfl
 |q::qs,u::us,h=>by
  rw[qN,gG];have e':(z==q)=false:=by simpa using(λe=>h (by rw[e];exact fT))
  rw[e'];exact OM λe=>h (fE _ e)
section
variable{x qual:Str}{args:List Arg}{df:List ao}{body:List aq}{sc:ay}{kV doc pm:aa}{an:Option ah}{cdv ct:aa}{t:ah}{o:Obj}{n:Nat}{s:af}{us:List aa}{qs:List Str}{z:Str}
theorem ON(qs:List Str)(z:Str):List.drop ([Value.none].length- (qs++[z]).length) [Value.none]=[Value.none]:=by rw[fU,zc,zc,show 1- (qs.length+1)=0 by lia];rfl
theorem uo(qs:List Str)(z:Str):(qs++[z]).length - [Value.none].length=qs.length:=by simp
theorem Xx(ha:args.map (·.arg)=qs++[z])(hn:(qs++[z]).Nodup)(ho:s.heap.get? t=aB o)(hd:o.data=.seq #[.none] n)(hl:us.length=(qs++[z]).length) :
 BindsTo s (PySem.W.fnOf x qual ⟨[],args,aC,[],[],aC,df⟩ body sc (.ref t) kV doc pm an cdv ct) ⟨us,[]⟩ ((qs++[z]).zip us):=by
 apply BindsTo.of_defaults (items:=#[.none]) (n:=n) rfl ho hd;unfold bindArgs;simp only[PySem.W.fnOf,u7,xU,oA,u6,qV,ha];rfl;have hm:(qs.filter λn=>(((qs++[z]).zip us).lookup n).isNone)=[]:=by
  rw[List.filter_eq_nil_iff];intro n hn';have:=BH (n:=n) hl (List.mem_append_left _ hn');cases q:((qs++[z]).zip us).lookup n with|none=>rw[q]at this;cases this|some v=>simp
 have hz:(((qs++[z]).zip us).lookup z).isNone=false:=by
  have:=BH (n:=z) hl (jG _ (mS.mpr rfl));cases q:((qs++[z]).zip us).lookup z with|none=>rw[q]at this;cases this|some v=>rfl
 have hg:¬(us.length> (qs++[z]).length):=by lia
 simp only[Option.getD_some,ON,uo,List.take_left',List.take_left,List.drop_left,List.drop_left',hm,jn hg,xX,fF,eG,List.isEmpty_nil,Bool.not_true,qN,List.zip_nil_right,vec,u6,hz,qV,Ey hl hn]
theorem Xy(ha:args.map (·.arg)=qs++[z])(hn:(qs++[z]).Nodup)(ho:s.heap.get? t=aB o)(hd:o.data=.seq #[.none] n)(hl:us.length=qs.length) :
 BindsTo s (PySem.W.fnOf x qual ⟨[],args,aC,[],[],aC,df⟩ body sc (.ref t) kV doc pm an cdv ct) ⟨us,[]⟩ ((qs++[z]).zip (us++[.none])):=by
 apply BindsTo.of_defaults (items:=#[.none]) (n:=n) rfl ho hd;unfold bindArgs;simp only[PySem.W.fnOf,u7,xU,oA,u6,qV,ha];rfl;have hm:(qs.filter λn=>((qs.zip us).lookup n).isNone)=[]:=by
  rw[List.filter_eq_nil_iff];intro n hn';have:=BH (n:=n) hl hn';cases q:(qs.zip us).lookup n with|none=>rw[q]at this;cases this|some v=>simp
 have Xz:z∉qs:=λh=>(List.nodup_append.mp hn).2.2 z h z (mS.mpr rfl) rfl;have hz:((qs.zip us).lookup z).isNone=true:=by rw[OM Xz];rfl
 have hg:¬(us.length> (qs++[z]).length):=by rw[fU];lia
 have hl2:(us++[Value.none]).length=(qs++[z]).length:=by rw[fU,fU,hl];rfl
 have ha2:=Ey hl2 hn;rw[Io hl]at ha2;simp only[Option.getD_some,ON,uo,OL hl,Io hl,List.take_left',List.take_left,List.drop_left,List.drop_left',hm,jn hg,xX,fF,eG,List.isEmpty_nil,Bool.not_true,qN,List.zip_nil_right,vec,u6,hz,bY,qV,ha2]
end
structure pB(K:aH)(x qual:Str)(st:aq)(f:ah)(fd:au):Prop where
 ex:∃(oc:aa) (od:Option ah) (dV kV doc pm:aa) (an:Option ah) (cdv ct:aa) (osl:Array (Option aa)),fd=PySem.W.fnOf x qual (TQ st) (An st) (jJ st) dV kV doc pm an cdv ct/\K.lookup f=aB ⟨oc,od,.func fd,osl⟩/\PySem.W.codeIn K cdv qual=true
 kp:PySem.W.keepIn K (.ref f)=true
theorem pB.ok{P:ai}{w:aj}{K:aH}{mg:Str->Option aa}{base:az}{x qual:Str}{st:aq}{f:ah}{fd:au}{N ps:List Str}{k:Nat}{sp:Sp}(F:pB K x qual st f fd)(S:dB N ps (jJ st))(len:∀vs H Q E,sp vs H Q E->vs.length=ps.length)
 (hbody:∀(cdv:aa)(A:ak)(outer:List Env)(s:af)(H:Hp)(vs:List V)(Q:VK)(E:XK),dw k (A.deeper (envOfC qual (jJ st) s.heap.objs.size f cdv))->sp vs H Q E->∃t,k6 (kg l6 P w K mg base N qual (jJ st) f cdv A outer s H E).yk (An st) t/\t {nx:=λ_ H'=>Q .aP H',rt:=Q} (start N vs) H):fH P w K mg base l6 (k+1) f fd ps sp:=
 let⟨_,_,_,_,_,_,_,cdv,_,_,e,lk,hcd⟩:=F.ex
 by subst e;exact Ad lk hcd S len λA outer s H vs Q E hr qf=>let⟨t,h,q⟩:=hbody cdv A outer s H vs Q E hr qf;⟨t,h.yk,q⟩
section
variable{K:aH}{m m':Nat->ah}{n n':Nat}{h h':VH}{H H':Hp}
mutual
theorem aI.fO:∀{v:V} {w:W},aI K m n H v w->W.lt n w=true|_,_,.aP=>rfl|_,_,.bl _=>rfl|_,_,.int _=>rfl|_,_,.str _=>rfl|_,_,.tup _ r=>aF.fO r|_,_,.fz _ r=>aF.fO r|_,_,.ref q=>iC.mpr q
theorem aF.fO:∀{vs:List V} {ws:List W},aF K m n H vs ws->W.mh n ws=true
 |_,_,.nil=>rfl
 |_,_,.cons q r=>by
  show(W.lt n _&&W.mh n _)=true;rw[aI.fO q,aF.fO r];rfl
end
mutual
theorem aI.cut:∀{v:V} {w:W},aI K m n' H v w->W.lt n w=true->aI K m n H v w|_,_,.aP,_=>.aP|_,_,.bl b,_=>.bl b|_,_,.int b,_=>.int b|_,_,.str b,_=>.str b|_,_,.tup q r,e=>.tup q (aF.cut r e)|_,_,.fz q r,e=>.fz q (aF.cut r e)|_,_,.ref q,e=>.ref (iC.mp e)
theorem aF.cut:∀{vs:List V} {ws:List W},aF K m n' H vs ws->W.mh n ws=true->aF K m n H vs ws
 |_,_,.nil,_=>.nil
 |_,_,.cons q r,e=>by
  have e:(W.lt n _&&W.mh n _)=true:=e;rw[bJ]at e;exact .cons (aI.cut q e.1) (aF.cut r e.2)
end
theorem aK.cut{m':Nat->ah}{n1:Nat}{H':Hp}:∀{vs us:List (Key×V)} {ws:List (Key×W)},aK K m n' H vs ws->aK K m' n H' us ws->aK K m n H vs ws|_,_,_,.nil,_=>.nil|_,_,_,.cons q r,.cons q2 r2=>.cons (q.cut q2.fO) (aK.cut (n1:=n1) r r2)
theorem OO{lo:Nat}(r:Rel K m h H):Rel K m ⟨h.n,lo,h.os⟩ H:=⟨r.obj,r.inj,r.len⟩
theorem OP{w w2:W}{h1 h2:VH}{v:V}{Q:VK}(r:Rel K m h H)(s:bO m h.n H m' h1.n H')(r1:Rel K m' h1 H')(q:aI K m' h1.n H' v w)(g:fN ⟨h.n,h.n,h.os⟩ h1)(e:leave h w h1=.ok w2 h2)(k:aL K m h.n H w2 h2 Q):Q v H':=by
 unfold leave at e;split at e;rename_i hc;cases e;rw[bJ]at hc;have hlo:=lu hc.1;refine k v H' m' ⟨aZ _,s.same,λi a b=>absurd b (jH.mpr a),λi j a b=>absurd b (jH.mpr a),s.tup,s.bC,s.keep⟩ ⟨λi hi=>?_,λi j hi hj=>r1.inj i j (di hi s.le) (di hj s.le),r.len⟩ (q.cut hc.2);have hg:h1.get i=h.get i:=g.2.2 i hi (di hi hlo);obtain⟨o,p1,p2⟩:=r1.obj i (di hi s.le);rw[hg]at p1;refine⟨o,p1,?_⟩;have p3:=r.at_ p1;cases o with
 |lst ws=>
  obtain⟨vs,a1,a2⟩:=p2;obtain⟨us,b1,b2⟩:=p3;exact⟨vs,a1,a2.cut b2.fO⟩
 |dk ws=>
  obtain⟨vs,a1,a2⟩:=p2;obtain⟨us,b1,b2⟩:=p3;exact⟨vs,a1,aK.cut (n1:=0) a2 b2⟩
 |dm ws=>
  obtain⟨vs,a1,a2⟩:=p2;obtain⟨us,b1,b2⟩:=p3;exact⟨vs,a1,aK.cut (n1:=0) a2 b2⟩
 cases e;exact k v H' m' s (OO r1) q
theorem XA{N:List Str}{vs:List V}{ws:List W}(q:aF K m n H vs ws):Fr K m n H (L2.start N vs) (ws.map aB++bI (N.length-ws.length) aC):=by
 unfold L2.start;refine⟨by simp[q.length],λi w e=>?_⟩;by_cases hi:i<ws.length;rw[uW (by simpa using hi)]at e;rw[uW (by simpa[q.length]using hi)];rw[dS]at e ⊢;cases z:ws[i]? with
 |none=>rw[z]at e;cases e
 |some w'=>
  rw[z]at e;cases e;obtain⟨v,h1,h2⟩:=q.get z;exact⟨v,by rw[h1];rfl,h2⟩
 rw[oq (by simpa using jH.mp hi)]at e;rw[De]at e;split at e<;>cases e
end
theorem Ip{F:Nat->Option Fn}{k idx:Nat}{ws:List W}{h h':VH}{w:W}{fn:Fn}(hF:F idx=aB fn)(e:run F k idx ws h=.ok w h'):ws.length=fn.ps:=by
 cases k with
 |zero=>cases e
 |succ k=>
  simp only[run,hF]at e;split at e;rename_i hl;exact zg hl;cases e
theorem OQ{P:ai}{w:aj}{K:aH}{mg:Str->Option aa}{base:az}{F:Nat->Option Fn}{k idx:Nat}{fn:Fn}{x qual:Str}{st:aq}{f:ah}{fd:au}{N ps:List Str}(hF:F idx=aB fn)(Fu:pB K x qual st f fd)(S:dB N ps (jJ st))
 (hn:fn.n=N.length) (hp:fn.ps=ps.length)
 (hbody:∀(cdv:aa)(A:ak)(outer:List Env)(s:af)(H:Hp)(E:XK),dw k (A.deeper (envOfC qual (jJ st) s.heap.objs.size f cdv))->rR (kg l6 P w K mg base N qual (jJ st) f cdv A outer s H E).yk (An st) (exs (run F k) fn.body)) :
 fH P w K mg base l6 (k+1) f fd ps (oY K ps.length (run F (k+1) idx)):=by
 refine Fu.ok S (λvs H Q E h=>h.1) λcdv A outer s H vs Q E hr qf=>?_;refine⟨_,hbody cdv A outer s H E hr,?_⟩;obtain⟨hl,h,m,ws,w2,h2,r,q,e,k2⟩:=qf;have hws:=Ip hF e;simp only[run,hF]at e;split at e;refine bF e λfl h1 e1 e2=>?_;have g:=Ih (Ii F k) _ _ _ _ _ e1;have hN:fn.n-fn.ps=N.length-ws.length:=by rw[hn,hws]
 rw[hN]at e1;refine⟨_,⟨h.n,h.n,h.os⟩,m,fl,h1,XA q,OO r,e1,λH' m' s' r'=>?_⟩;cases fl with|nx ρ=>exact λσ' f'=>OP r s' r' .aP g e2 k2|rt w3=>exact λv q3=>OP r s' r' q3 g e2 k2|bk _=>cases e2|ct _=>cases e2
 cases e
theorem OR{P:ai}{w:aj}{K:aH}{mg:Str->Option aa}{base:az}{F:Nat->Option Fn}{idx:Nat}{f:ah}{fd:au}{ps:List Str}:fH P w K mg base l6 0 f fd ps (oY K ps.length (run F 0 idx)):=
 ⟨λvs H Q E h=>h.1,λA outer s H args us vs Q E hr he hb hv hs=>by obtain⟨_,h,m,ws,w2,h2,r,q,e,k2⟩:=hs;cases e⟩
noncomputable def gw(K:aH)(x:Str):Option ah:=(match PySem.W.nsIn K mainGlobals x with|some (aB (.ref f))=>aB f|_=>aC)
theorem OS{K:aH}{x:Str}{f:ah}(h:gw K x=aB f):PySem.W.nsIn K mainGlobals x=aB (aB (.ref f)):=by unfold gw at h;split at h;rename_i g e;cases h;exact e;cases h
section
variable{X:Cx}{K:aH}{m:Nat->ah}{n:Nat}{H:Hp}
theorem OT:∀{ws:List W} {ks:List Int} {vs:List V},aY lH ws=aB ks->aF K m n H vs ws->vs=ks.map .int
 |[],_,_,e,.nil=>by cases e;rfl
 |w::ws,ks,_,e,.cons q qs=>by
  simp only[aY]at e;cases w<;>simp only[lH]at e<;>try cases e
  rename_i i;cases z:aY lH ws with
  |none=>rw[z]at e;cases e
  |some ks'=>
   rw[z]at e;cases e;cases q;rw[OT z qs];rfl
theorem OU:∀{ws:List W} {dj:List (List Int)} {vs:List V},aY tupI ws=aB dj->aF K m n H vs ws->TK K H vs dj
 |[],_,_,e,.nil=>by cases e;exact .nil
 |w::ws,dj,_,e,.cons q qs=>by
  simp only[aY]at e;cases w<;>simp only[tupI]at e<;>try cases e
  rename_i us;cases z1:aY lH us with
  |none=>rw[z1]at e;cases e
  |some ks=>
   rw[z1]at e;cases z:aY tupI ws with
   |none=>rw[z]at e;cases e
   |some ks'=>
    rw[z]at e;cases e;cases q with|tup sq rs=>exact .cons (by rw[<-OT z1 rs];exact sq) (OU z qs)
theorem XC{e:ao}{fa:FE}{p p2 pos pos2:Pos}(hu:X.A.units+8<cLine)(hc:X.calm)(hg:Gl X "len")(hm:X.mg "len" = aC)(nt:Gl X "set")(hm2:X.mg "set" = aC)(he:SE X e fa)(hs:gU e) :
 SE X (.Call (.Name "len" p) [.Call (.Name "set" p2) [e] [] pos2] [] pos) (jf (iu fa kJ) jw):=
 (Vu hu hc hg hm nt hm2 he (by rw[fM hs];rfl)).imp λσ H Q z9=>z9.el λρ h m w h' f r e k=>by
   refine bF e λy h1 e1 e2=>?_;refine bF e1 λx h2 e3 e4=>?_;cases e4;refine(.mk f r e3 λv H1 m1 s1 r1 q1=>?_);dsimp only at e2;unfold jw at e2;split at e2;rename_i ws heq;cases heq;obtain⟨e5,rfl⟩:=of_ok e2;cases z:aY tupI ws with
   |none=>rw[z]at e5;cases e5
   |some dj=>
    rw[z]at e5;cases z2:yr dj with
    |none=>rw[Dt,z2]at e5;cases e5
    |some n=>
     rw[Dt,z2]at e5;cases e5;cases q1 with|tup sq rs=>exact⟨_,_,dj,n,rfl,sq,OU z rs,z2,k _ H1 m1 s1 r1 (.int n)⟩
   cases e2
end
end RF
namespace L2
open PySem PySem.Spec PyProof.Rows
theorem OV:∀{vs:List V} {us:List aa},Vals vs us->Vals (cM vs) (cM us)|_,_,.nil=>.nil|_,_,.cons p .nil=>.cons p .nil|_,_,.cons p (.cons _ r)=>.cons p (OV r)
theorem OW{α β:Type}{f:α->Option β}{g:α->β}:∀{l:List α},(∀x∈l,f x=aB (g x))->l.filterMap f=l.map g
 |[],_=>rfl
 |x::r,h=>by
  rw[uX,h x fT,fm,OW λy hy=>h y (fE _ hy)]
theorem BI(us:List aa)(c:Nat)(hc:c<=1){lo:Option Int}(hlo:lo=if c=0 then aC else aB 1):slicePick us.toArray lo aC (aB 2)=(cM (us.drop c)).toArray:=by
 have hb:sliceBounds lo aC (aB 2) us.length=(((min c us.length:Nat):Int),(us.length:Int),2):=by
  subst hlo;match c,hc with|0,_=>simp[sliceBounds]|1,_=>simp[sliceBounds];lia
 unfold slicePick;rw[dR,hb];congr 1;have hr:sliceRange ((min c us.length:Nat):Int) (us.length:Int) 2=(List.range ((us.length-c+1)/2)).map λ(k:Nat)=>c+2*k:=by
  unfold sliceRange;have Iq:(if(2:Int)>0 then(if((min c us.length:Nat):Int)< (us.length:Int)then((us.length:Int)- ((min c us.length:Nat):Int)+2-1)/2 else 0)else(if((min c us.length:Nat):Int)> (us.length:Int)then(((min c us.length:Nat):Int)- (us.length:Int)-2-1)/ (-2)else 0)).toNat=(us.length-c+1)/2:=by rw[if_pos (by decide)];split<;>lia
  show(List.range (if(2:Int)>0 then(if((min c us.length:Nat):Int)< (us.length:Int)then((us.length:Int)- ((min c us.length:Nat):Int)+2-1)/2 else 0)else(if((min c us.length:Nat):Int)> (us.length:Int)then(((min c us.length:Nat):Int)- (us.length:Int)-2-1)/ (-2)else 0)).toNat).map _=_;rw[Iq];refine List.map_congr_left λk hk=>?_;have:=lV.mp hk;lia
 rw[hr,List.filterMap_map];have hlen:(us.drop c).length=us.length-c:=xS;refine List.ext_getElem? λi=>?_;rw[Ej,List.getElem?_drop];rw[OW (g:=λk=>us.getD (c+2*k) .none) λk hk=>by
  have:=lV.mp hk;show us.toArray[c+2*k]?=_;rw[List.getElem?_toArray,pX,dh (by lia)];rfl]
 rw[dS];by_cases hi:i< (us.length-c+1)/2;rw[xQ hi,ly,pX,dh (by lia)];rfl;rw[iL (by rw[nT];lia),iL (by lia)];rfl
section
variable{X:Cx}{e k:ao}{lo:Option ao}{te:TE}{tl tk:TO}{pos p2:Pos}
theorem XD(he:PE X e te)(hl:PO X lo tl)(hk:PO X (aB k) tk):PE X (.Subscript e (.Slice lo aC (aB k) p2) pos) (λσ H Q=>te σ H λx H1=>tl σ H1 λl H2=>tk σ H2 λo H3=>∃a xs c,x=.ref a/\c<=1/\l=(if c=0 then aC else aB 1)/\o=aB 2/\cR X.K H3 a xs/\∀p,H3 p=aC->Q (.ref p) (upd H3 p (.lst (cM (xs.drop c))))):=by intro pins s σ H Q I h;refine Subscript_ (bf (he pins s σ H _ I h) λv s1 z9=>z9.el λx H1 I1 r1 q1=>?_);refine wpAny_Slice ?_;refine bf (hl pins s1 σ H1 _ I1 q1) λvl s2 bQ=>?_;obtain⟨l,H2,I2,pl,q2⟩:=bQ;rw[evalPart_none];refine bH ?_;refine bf (hk pins s2 σ H2 _ I2 q2) λvk s3 bQ=>?_;obtain⟨o,H3,I3,pk,q3⟩:=bQ;obtain⟨a,xs,c,rfl,hc,rfl,rfl,hx,q⟩:=q3;cases r1;have I4:Inv X pins σ H3 {s3 with heap:=s3.heap.push {cls:=.type "slice",data:=.fields #[vl,.none,vk]}}:=I3.kept (t':=s3.toks) λb ob q=>cy _ q;obtain⟨its,r,ht,hz⟩:=I4.list hx;have hlen:=r.length;show wpAny (model X.prog X.w) X.A (subscriptTail e (.Slice lo aC (aB k) p2) (.ref a) (.ref s3.heap.objs.size)) (EP X pins σ Q) X.xe {s3 with heap:=s3.heap.push {cls:=.type "slice",data:=.fields #[vl,.none,vk]}};refine tail_any (ops:=[.ref a,.ref s3.heap.objs.size]) ht.isList.typeIs slot_list_getitem.lookup ?_ (by with_unfolding_all rfl);refine wpAny_getItem_list_slice ht.isList (Heap.IsSliceOf.new ..) pl .none pk (by decide) ?_ (by rw[dR]<;>lia);rw[BI its c hc rfl];refine⟨.ref _,_,I4.laid (t':=s3.toks) (o:=.lst (cM (xs.drop c))) (λb ob q=>cy _ q) (aZ _) ?_,rfl,q _ (I4.hok.fresh (aZ _))⟩;refine⟨?_,_,0,OV (r.drop c),iI _ rfl⟩;rw[NG,xS];lia
end
theorem OX:∀{ls:List Int} {us:List aa},Vals (ls.map .int) us->IntsAre us ls|[],_,.nil=>.nil|x::r,_,.cons ⟨t,e⟩ h=>by subst e;exact .cons x t (OX h)
section
variable{X:Cx}
noncomputable def XE:V->List V->Hp->VK->Prop:=λx vs H Q=>∃a b kvs more,x=.ref a/\vs=[.ref b]/\a≠b/\H a=aB (.dK kvs)/\H b=aB (.dK more)/\kvs.length+more.length<=sizeLine/\Q .aP (upd H a (.dK (qg kvs more)))
theorem XF:GD X "dict.update" XE:=by intro pins s σ H x vs v us Q I rx rv h;obtain⟨a,b,kvs,more,rfl,rfl,hne,hA,hB,hz,q⟩:=h;cases rx;obtain⟨u,rfl,ru⟩:=rv.one;cases ru;obtain⟨z1,hd1,XG,BJ,OY⟩:=kr I.hok hA;obtain⟨z2,hd2,XH,BK,dd2⟩:=kr I.hok hB;refine call_meetsIn PySem.F.slot_dict_update OY.typeIs PySem.F.entry_dict_update (PySem.F.args_dict_update_2 _ _) (meets_dict_update (iM X.prog X.w) a b hne hd2) ⟨XG,XH,OY,dd2,by rw[<-yd BJ,<-yd BK];exact hz,λh' nh _ hs=>?_⟩;have he:∃q,h'.get? a=aB q:=let⟨q,_,_,hq,_⟩:=nh;⟨q,hq⟩;exact⟨.aP,_,Ay I (by rw[hA];exact True.intro) hs he (D8 (gJ (Hi more kvs) hz) hd1 (KV.merge BK BJ) nh),rfl,q⟩
end
section
variable{X:Cx}
theorem XI(hc:X.calm):b9 X (.builtin "max") (λxs H Q=>∃(p:ah) (ns:List Int),xs=[.ref p]/\cR X.K H p (ns.map .int)/\0<ns.length/\∀M,M∈ns->(∀a∈ns,a<=M)->Q (.int M) H):=by
 intro pins s σ H xs us Q I r h;obtain⟨p,ns,rfl,hq,hne,q⟩:=h;obtain⟨u,rfl,ru⟩:=vals1 r;cases ru;obtain⟨its,rv,pl,hz⟩:=I.list hq;have hL:s.heap.IsList p its.toArray:=pl.isList;have hi:=OX rv;obtain⟨ys,hx⟩:=hi.allInts.items;have hl':s.heap.IsList p (intItems ys):=hx▸hL;have hns:ns=ys.toList.map (·.1):=by rw[<-nums_intItems,<-hx];exact(show numsOf its.toArray.toList=ns from hi.numsOf).symm
 have hsz:0<ys.size:=by rw[hns,bx,yc]at hne;exact hne
 refine max_intList (I.ok.hd hc) hl' hsz λv h' tk hv hk=>?_;obtain⟨t,rfl⟩:=intItems_at hv;obtain⟨h1,h2⟩:=argBest_gt (numAt ys) (ys.size-1);refine⟨.int _,H,I.kept (t':=tk) hk,⟨_,rfl⟩,q _ ?_ λa ha=>?_⟩;rw[hns,numAt_eq];exact getD_mem (by rw[bx,yc];lia);rw[hns]at ha;obtain⟨j,hj,rfl⟩:=mem_getD ha;rw[bx,yc]at hj;rw[<-numAt_eq];exact h2 j (by lia)
end
end L2
namespace RF
open PySem PySem.Spec PyProof.Rows L2
section
variable{K:aH}{m:Nat->ah}{h:VH}{H:Hp}
theorem XJ{a:ah}{u:HO}(e:H a=aB u):upd H a u=H:=by funext b;by_cases z:b=a;subst z;rw[fG,e];rw[bP z]
theorem Rel.Ir(r:Rel K m h H){i:Nat}{kvs:List (Key×W)}(g:h.get i=aB (.dm kvs)):Rel K m (h.set i (.dk kvs)) H:=by
 obtain⟨vs,p1,p2⟩:=r.dm g;obtain⟨_,r'⟩:=r.write (i:=i) (o:=.dk kvs) (u:=.dK vs) (bU g) p1 (λ_ z=>nomatch z) (λ_ _ z=>nomatch z) λst=>⟨vs,.inl fG,p2.stp st⟩
 rw[XJ p1]at r';exact r'
theorem aL.BL{Q:VK}(k:aL K m h.n H (.ref h.n) (h.new (.dm [])) Q)(r:Rel K m h H){p:ah}(hp:H p=aC):Q (.ref p) (upd H p (.dK [])):=by obtain⟨st,r'⟩:=r.alloc (o:=.dm []) (u:=.dK []) hp (λ_ z=>nomatch z) (λst=>⟨[],fG,.nil⟩);refine k _ _ _ st r' ?_;have:aI K (λi=>if i=h.n then p else m i) (h.n+1) (upd H p (.dK [])) (.ref ((λi=>if i=h.n then p else m i) h.n)) (.ref h.n):=.ref (fY _);simp only[bY]at this;exact this
end
section
variable{X:Cx}{e o a k:ao}{lo:Option ao}{fa fo:FE}{pos p2:Pos}
theorem XM:SE X (.Dict [] [] pos) (jf kJ vS):=Uj.imp λσ H Q z9 p hp=>z9.el λρ h m w h' f r e k=>by
 cases e;exact aL.BL k r hp
theorem XN(he:SE X e fa):SE X e (jf (iu fa kJ) nA):=he.imp λσ H Q z9=>z9.el λρ h m w h' f r e k=>by
 refine bF e λy h1 e1 e2=>?_;refine bF e1 λx h2 e3 e4=>?_;cases e4;refine(.mk f r e3 λv H1 m1 s1 r1 q1=>?_);dsimp only at e2;unfold nA at e2;split at e2;rename_i i heq;cases heq;split at e2;rename_i kvs g;cases e2;exact k v H1 m1 s1 (r1.Ir g) q1;cases e2;cases e2
theorem XO{apos:Pos}(ho:SE X o fo)(he:SE X e fa)(hb:Bj o)(hs:gU e)(hl:(apos.endLine==pos.line)) :
 SE X (.Call (.Attribute o "update" apos) [e] [] pos) (HN .update fo (iu fa kJ)):=by
 refine(tW (X:=X) PySem.F.plainAttrs_dict PySem.F.slot_dict_update PySem.F.type_dict_update XF ho (yo he Ab (fM hs)) (HM hb) ?_ hl (fM hs) rfl).imp λσ H Q z9=>z9.el λρ h m w h' f r e k=>?_;rw[fM hs];rfl;refine bF e λx h1 e1 e2=>?_;split at e2;rename_i hk;refine bF e2 λy h2 e3 e4=>?_;refine bF e3 λz h3 e5 e6=>?_;cases e6;refine(.mk f r e1 λv H1 m1 s1 r1 q1=>?_);cases x<;>try cases hk
 rename_i i;simp only[kI]at hk;split at hk;rename_i XQ g;cases q1;obtain⟨tY,p1,_⟩:=r1.dm g;refine⟨.inr (.inr (.inl ⟨rfl,.inl ⟨tY,p1⟩⟩)),ρ,h1,m1,z,h2,f.stp s1,r1,e5,λv2 H2 m2 s2 r2 q2=>?_⟩;cases z<;>try cases e4
 rename_i j;simp only[jW]at e4;unfold oU at e4;split at e4;rename_i kvs more ga gb;split at e4;cases e4;rename_i hab;split at e4;rename_i hz;cases e4;cases q2;obtain⟨va,a1,a2⟩:=r2.dm ga;obtain⟨vb,b1,b2⟩:=r2.dm gb;have hne:m2 i≠m2 j:=λz=>hab (by rw[r2.inj _ _ (bU ga) (bU gb) z];exact Nat.beq_refl _);have hmi:m1 i=m2 i:=(s2.same i (bU g)).symm;have hz':va.length+vb.length<=sizeLine:=by rw[a2.length,b2.length,uV];have:=qS.mp hz;lia
 refine⟨m1 i,m2 j,va,vb,rfl,rfl,by rw[hmi];exact hne,by rw[hmi];exact a1,b1,hz',?_⟩;obtain⟨st,r'⟩:=r2.write (i:=i) (o:=.dm (El kvs more)) (u:=.dK (qg va vb)) (bU ga) a1 (λ_ z=>nomatch z) (λ_ _ z=>nomatch z) λst=>⟨_,fG,aK.merge (b2.stp st) (a2.stp st)⟩
 rw[hmi];exact k _ _ _ ((s1.trans s2).trans st) r' .aP;cases e4;cases e4;cases hk;cases e2
theorem aF.cM{K:aH}{m:Nat->ah}{n:Nat}{H:Hp}:∀{vs:List V} {ws:List W},aF K m n H vs ws->aF K m n H (L2.cM vs) (L2.cM ws)|_,_,.nil=>.nil|_,_,.cons q .nil=>.cons q .nil|_,_,.cons q (.cons _ r)=>.cons q r.cM
theorem aF.uq{K:aH}{m:Nat->ah}{n:Nat}{H:Hp}:∀(c:Nat) {vs:List V} {ws:List W},aF K m n H vs ws->aF K m n H (vs.drop c) (ws.drop c)|0,_,_,q=>q|c+1,_,_,.nil=>.nil|c+1,_,_,.cons _ r=>r.uq c
theorem XR{w:W}{c:Nat}(h:rO w=aB c):c<=1/\((w=.aP/\c=0)\/(w=.int 1/\c=1)):=by unfold rO at h;split at h;cases h;exact⟨by decide,.inl ⟨rfl,rfl⟩⟩;split at h;rename_i q;cases h;subst q;exact⟨by decide,.inr ⟨rfl,rfl⟩⟩;cases h;cases h
end
section
variable{X:Cx}{a k:ao}{lo:Option ao}{x y z:E}{bl:Bool}{cl:Call}{pos p2:Pos}
theorem XS(ha:SE X a (ev cl x))(hl:PO X lo (je X.K bl (ev cl y)))(hk:SE X k (ev cl z))(hy:(bl=false/\y=.cst .aP)\/(bl=true/\y=.cst (.int 1))):SE X (.Subscript a (.Slice lo aC (aB k) p2) pos) (ev cl (.bi .st2 (.cons x (.cons y (.cons z .nil))))):=
 (XD ha hl (N8 hk)).imp λσ H Q z9=>z9.el λρ h m w h' f r e k=>by
   refine bF e λw0 h1 e1 e2=>?_;refine bF e1 λw1 h2 e3 e4=>?_;refine bF e4 λw2 h3 e5 e6=>?_;refine bF e5 λw3 h4 e7 e8=>?_;refine bF e8 λw4 h5 e9 vY=>?_;refine bF e9 λw5 h6 nY XT=>?_;refine bF XT λw6 h7 XU XW=>?_;cases XU;cases XW;cases vY;cases e6;have ur:nB [w1,w3,w5] h1=.ok w h':=e2;clear e2;unfold nB at ur;split at ur;rename_i i l kk heq;cases heq;split at ur;rename_i ws c g hc;split at ur;rename_i hk2;subst hk2;cases ur;obtain⟨hc1,hc2⟩:=XR hc;refine .mk f r e3 λv1 H1 m1 s1 r1 q1=>?_;have hp:fB bl w3=aB (if c=0 then aC else aB 1):=by rcases hy with⟨rfl,rfl⟩|⟨rfl,rfl⟩;cases e7;rcases hc2 with⟨_,rfl⟩|⟨z,_⟩;rfl;cases z;cases e7;rcases hc2 with⟨z,_⟩|⟨_,rfl⟩;cases z;rfl
   refine .mk (f.stp s1) r1 e7 hp λH2 m2 s2 r2=>?_;refine .mk ((f.stp s1).stp s2) r2 nY rfl λH3 m3 s3 r3=>?_;cases(q1.stp s2).stp s3;obtain⟨vs,g1,g2⟩:=r3.lst g;refine⟨_,vs,c,rfl,hc1,rfl,rfl,cR.of g1,λp hp=>?_⟩;exact aL.list (λv' H' m' s' r' q'=>k v' H' m' (((s1.trans s2).trans s3).trans s') r' q') r3 (g2.uq c).cM hp;cases ur;cases ur;cases ur
end
set_option genInjectivity false in
structure CC where
 N:List Str
 names:List (Str×NameKind)
 uu:Bool
noncomputable def pC:List Str->Str->Nat->Option Nat|[],_,_=>aC|y::r,x,i=>if y==x then aB i else pC r x (i+1)
theorem OZ:∀{N:List Str} {x:Str} {k i:Nat},pC N x k=aB i->∃j,i=k+j/\N[j]?=aB x
 |[],_,_,_,e=>by cases e
 |y::r,x,k,i,e=>by
  unfold pC at e;split at e;rename_i h;cases e;exact⟨0,rfl,by simpa using h⟩;obtain⟨j,h1,h2⟩:=OZ e;exact⟨j+1,by lia,by simpa using h2⟩
theorem Iu{N:List Str}{x:Str}{i:Nat}(e:pC N x 0=aB i):N[i]?=aB x:=by obtain⟨j,h1,h2⟩:=OZ e;rw[show i=j by lia];exact h2
noncomputable def rT:Option NameKind->Bool|some .local|some .cell|some .free=>true|_=>false
noncomputable def rV(all:Bool):Option NameKind->Bool|some .local=>true|some .cell=>all|_=>false
noncomputable def okN(x:Str):Bool:=!(x==("__debug__" : Str)) && !(x==("__classdict__" : Str)) && !(x==("__name__" : Str)) && !(x==("" : Str))
theorem XX{x:Str}(h:okN x):x≠"":=by unfold okN at h;simp only[bJ,vc]at h;exact λz=>by rw[z]at h;simp at h
theorem yG{x:Str}(h:okN x):(x==("__debug__" : Str))=false/\(x==("__classdict__" : Str))=false/\x≠"__name__":=by unfold okN at h;simp only[bJ,vc]at h;exact⟨h.1.1.1,h.1.1.2,λz=>by rw[z]at h;simp at h⟩
noncomputable def pD(K:aH):Nat->aa->Option W
 |0,_=>aC
 |n+1,v=>match v with
  |.none=>aB .aP
  |.bool b=>aB (.bl b)
  |.int i _=>aB (.int i)
  |.str x _=>aB (.str x)
  |.ref a=>(match K.lookup a with
   |some o=>(match o.cls,o.dict,o.data with
    |.type t,aC,.seq its _=>if t == "tuple" && Nat.ble its.size 1000 then(aY (pD K n) its.toList).map .tup else aC
    |_,_,_=>aC)
   |none=>aC)
  |_=>aC
theorem O0{K:aH}{f:aa->Option W}(ih:∀v w,f v=aB w->∃x,RelV x v/\∀m n H,aI K m n H x w):∀{us:List aa} {ws:List W},aY f us=aB ws->∃xs,Vals xs us/\∀m n H,aF K m n H xs ws
 |[],_,e=>by cases e;exact⟨[],.nil,λ_ _ _=>.nil⟩
 |u::us,ws,e=>by
  unfold aY at e;split at e;rename_i b hb;split at e;rename_i bs BN;cases e;obtain⟨x,h1,h2⟩:=ih u b hb;obtain⟨xs,h3,h4⟩:=O0 ih BN;exact⟨x::xs,.cons h1 h3,λm n H=>.cons (h2 m n H) (h4 m n H)⟩;cases e;cases e
theorem O1{K:aH}:∀(n:Nat) (v:aa) (w:W),pD K n v=aB w->∃x,RelV x v/\∀m n H,aI K m n H x w
 |0,_,_,e=>by cases e
 |n+1,v,w,e=>by
  unfold pD at e;split at e;cases e;exact⟨.aP,rfl,λ_ _ _=>.aP⟩;cases e;exact⟨.bl _,rfl,λ_ _ _=>.bl _⟩;cases e;exact⟨.int _,⟨_,rfl⟩,λ_ _ _=>.int _⟩;cases e;exact⟨.str _,⟨_,rfl⟩,λ_ _ _=>.str _⟩;rename_i a;split at e;rename_i o ho;split at e;rename_i t its nn hc XY hd;split at e;rename_i hz;rw[bJ]at hz;have ht:t = "tuple":=by simpa using hz.1
  subst ht;cases z:aY (pD K n) its.toList with
  |none=>rw[z]at e;cases e
  |some ws=>
   rw[z]at e;cases e;obtain⟨xs,h3,h4⟩:=O0 (O1 n) z;exact⟨.ref a,rfl,λm n H=>.tup (.inr ⟨o,its,nn,ho,hc,XY,hd,tM (M3 (lu hz.2)),h3⟩) (h4 m n H)⟩
  cases e;cases e;cases e;cases e
noncomputable def cL(f:ao->Option E):List ao->Option E
 |[]=>aB .nil
 |e::es=>match f e,cL f es with
  |some a,aB r=>aB (.cons a r)
  |_,_=>aC
noncomputable def fnAt(K:aH)(x:Str):Option (ah×Obj×au):=match gw K x with
 |some f=>(match K.lookup f with
  |some o=>(match o.data with
   |.func fd=>aB (f,o,fd)
   |_=>aC)
  |none=>aC)
 |none=>aC
noncomputable def wg:Arguments->Option (List Arg)|⟨[],args,aC,[],[],aC,_⟩=>aB args|_=>aC
noncomputable def isNone:aa->Bool|.none=>true|_=>false
noncomputable def Ez:Data->Bool
 |.seq xs _=>(match xs.toList with
  |[v]=>isNone v
  |_=>false)
 |_=>false
noncomputable def gz(K:aH):aa->Bool
 |.ref t=>(match K.lookup t with
  |some o=>Ez o.data
  |none=>false)
 |_=>false
noncomputable def Iv(K:aH)(x:Str)(n:Nat):Bool:=match fnAt K x with|some (_,_,fd)=>gz K fd.defaults&&Nat.beq (n+1) fd.params.args.length|none=>false
noncomputable def gW(K:aH)(x:Str):Bool:=match fnAt K x with|some (_,_,fd)=>gz K fd.defaults|none=>false
theorem XZ{K:aH}{x:Str}{n:Nat}(h:Iv K x n):gW K x=true:=by unfold Iv at h;unfold gW;split at h;rw[bJ]at h;exact h.1;cases h
noncomputable def nH:E->E|.nil=>.cons (.cst .aP) .nil|.cons a r=>.cons a (nH r)|e=>e
noncomputable def mq:E->Bool|.nil=>true|.cons _ r=>mq r|_=>false
theorem X0{cl:Call}:∀{a:E},mq a=true->∀(ρ:En) (h:VH),ev cl (nH a) ρ h=(ev cl a ρ h).bind λy h=>match y with|.tup ys=>.ok (.tup (ys++[.aP])) h|_=>.no:=by
 intro a;induction a with
 |nil=>intro _ ρ h;rfl
 |cons x r _ ih=>
  intro ha ρ h;have ih:=ih ha;simp only[nH,ev];cases ev cl x ρ h with
  |no=>rfl
  |ex _ _=>rfl
  |ok w h1=>
   show Res.bind (ev cl (nH r) ρ h1) _=Res.bind (Res.bind (ev cl r ρ h1) _) _;rw[ih];cases ev cl r ρ h1 with|no=>rfl|ex _ _=>rfl|ok y h2=>cases y<;>rfl
 |_=>intro ha;cases ha
theorem O2{f:ao->Option E}:∀{es:List ao} {a:E},cL f es=aB a->mq a=true
 |[],_,h=>by cases h;rfl
 |e::es,a,h=>by
  unfold cL at h;split at h;rename_i x r h1 h2;cases h;show mq r=true;exact O2 h2;cases h
noncomputable def EA(f:ao->Option E):List (Option ao)->List ao->Option E
 |[],[]=>aB .nil
 |some k::ks,v::vs=>match f k,f v,EA f ks vs with
  |some a,aB b,aB r=>aB (.cons a (.cons b r))
  |_,_,_=>aC
 |_,_=>aC
noncomputable def cB(and:Bool)(f:ao->Option E):List ao->Option E
 |[]=>aC
 |[a]=>f a
 |a::b::r=>match f a,cB and f (b::r)with
  |some x,aB y=>aB (if and then .and x y else .or x y)
  |_,_=>aC
noncomputable def cO(f:ao->Option E):Option ao->Option (Bool×E)|none=>aB (false,.cst .aP)|some e=>(f e).map λc=>(true,c)
noncomputable def wj(K:aH)(C:CC)(x:Str):Bool:=C.names.lookup x==aB .globalImplicit&& (match PySem.W.nsIn K mainGlobals x with|some aC=>true|_=>false)
noncomputable def wk(x:Str):Option Ty:=
 if x==("int" : Str)then aB .int else if x==("bool" : Str)then aB .bool else if x==("tuple" : Str)then aB .tuple else if x==("list" : Str)then aB .list else if x==("str" : Str)then aB .str else if x==("dict" : Str)then aB .dict else aC
noncomputable def X3(f:Str)(args:List ao):Option ao:=if f==("list" : Str)then(match args with|[.Call (.Name g _) [a] [] _]=>if g==("range" : Str)then aB a else aC|_=>aC)else aC
noncomputable def wm(f:Str)(args:List ao):Option ao:=if f==("len" : Str)then(match args with|[.Call (.Name g _) [a] [] _]=>if g==("set" : Str)then aB a else aC|_=>aC)else aC
noncomputable def wo(x:Str):Option Bi:=
 if x==("len" : Str)then aB .len else if x==("list" : Str)then aB .list else if x==("tuple" : Str)then aB .tuple else if x==("int" : Str)then aB .int else if x==("abs" : Str)then aB .abs else if x==("max" : Str)then aB .max else if x==("min" : Str)then aB .min else if x==("all" : Str)then aB .all else aC
noncomputable def O3:ao->Bool|.Tuple ..=>true|_=>false
noncomputable def wu:Kd->ao->Bool|.lE,t=>O3 t|.zip,t=>O3 t|_,_=>true
noncomputable def gX(C:CC):ao->Option Nat|.Name x _=>if okN x&&rV C.uu (C.names.lookup x)then pC C.N x 0 else aC|_=>aC
noncomputable def wz(C:CC):ao->Option Tg
 |.Name x p=>(gX C (.Name x p)).map .one
 |.Tuple [e,.Tuple es _ _] _ _=>(match aY (gX C) es,gX C e with
  |some is,aB j=>aB (.AV j is)
  |_,_=>aC)
 |.Tuple es _ _=>(aY (gX C) es).map .many
 |_=>aC
noncomputable def ownOf(sc:ay):List Str:=(sc.names.filter λy=>(y.2 == .local||y.2 == .cell) && !(y.1==(".0" : Str))).map (·.1)
noncomputable def eX(sc:ay):List Str:=(sc.names.filter λy=>y.2 == .free).map (·.1)
noncomputable def pF(C:CC)(sc:ay)(ix:List Nat):Bool:=
 decide (sc.kind=.function)&&sc.names.all (λy=>decide (y.2=.cell->sc.names.lookup y.1=aB .cell))&&sc.names.all (λy=>decide (y.2=.free->sc.names.lookup y.1=aB .free))&&sc.names.all (λy=>decide (y.2=.local->sc.names.lookup y.1=aB .local)) &&
 (ownOf sc).all (λx=>decide (sc.names.lookup x=aB .local\/sc.names.lookup x=aB .cell))&&sc.names.all (λy=>decide (y.2=.free->C.names.lookup y.1=aB .cell\/C.names.lookup y.1=aB .free))&&decide (ix.length=(eX sc).length) &&
 ((List.range (eX sc).length).all λk=>match(eX sc)[k]?,ix[k]? with|some x,aB j=>decide (C.N[j]?=aB x)&&decide (sc.names.lookup x=aB .free)|_,_=>false)&&decide (ownOf sc++eX sc).Nodup
noncomputable def ji(sc:ay):CC:=⟨ownOf sc++eX sc,sc.names,true⟩
noncomputable def wA(bl:Bool)(l:E):Bool:=match l with
 |.cst w=>(match w with
  |.aP=>!bl
  |.int i=>bl&&decide (i=1)
  |_=>false)
 |_=>false
theorem X4{bl:Bool}{l:E}(h:wA bl l):(bl=false/\l=.cst .aP)\/(bl=true/\l=.cst (.int 1)):=by unfold wA at h;split at h;split at h;exact .inl ⟨by simpa using h,rfl⟩;rw[bJ,fS]at h;obtain⟨h1,rfl⟩:=h;exact .inr ⟨h1,rfl⟩;cases h;cases h
noncomputable def X5(x:Str):Bool:=x==("rockers" : Str)
noncomputable def O4(C:CC)(x:Str):Bool:=X5 x&& (pC C.N ("doors" : Str) 0).isNone
mutual
noncomputable def cE(K:aH)(T:List Str):Nat->CC->ao->Option E
 |0,_,_=>aC
 |n+1,C,e=>match e with
  |.Name x _=>if okN x then(if rT (C.names.lookup x)then(pC C.N x 0).map .var
   else if C.names.lookup x==aB .globalImplicit then(match PySem.W.nsIn K mainGlobals x with|some (aB v)=>(pD K 8 v).map .cst|_=>aC)else aC)else aC
  |.Constant c _ _=>(match c with
   |.int i=>aB (.cst (.int i))
   |.bool b=>aB (.cst (.bl b))
   |.none=>aB (.cst .aP)
   |.str x=>aB (.cst (.str x))
   |_=>aC)
  |.Tuple es _ _=>(cL (cE K T n C) es).map .tup
  |.List es _=>(cL (cE K T n C) es).map .lst
  |.Dict ks vs _=>(match ks with
   |[]=>(match vs with
    |[]=>aB (.bi .HB .nil)
    |_::_=>aC)
   |k::ks=>if Nat.ble (k::ks).length 15&&Nat.beq (k::ks).length vs.length&& (k::ks).all (·.isSome)then(EA (cE K T n C) (k::ks) vs).map .HC else aC)
  |.BinOp a O b _=>(match A5 O,cE K T n C a,cE K T n C b with
   |some o,aB x,aB y=>aB (.op o x y)
   |_,_,_=>aC)
  |.UnaryOp o a _=>(match o with
   |.Not=>(cE K T n C a).map .not
   |.USub=>(cE K T n C a).map .neg
   |_=>aC)
  |.BoolOp o es _=>(match o with
   |.And=>cB true (cE K T n C) es
   |.Or=>cB false (cE K T n C) es)
  |.Compare a Os bs _=>(match Os,bs with
   |[O],[b]=>if qi b then(match gT O,cE K T n C a,cE K T n C b with
   |some c,aB x,aB y=>aB (.cmp c x y)
   |_,_,_=>aC)else aC
   |[O,O'],[b,c]=>if qi c then(match gT O,gT O',cE K T n C a,cE K T n C b,cE K T n C c with
   |some o,aB o',aB x,aB y,aB z=>aB (.qh o o' x y z)
   |_,_,_,_,_=>aC)else aC
   |_,_=>aC)
  |.IfExp c a b _=>(match cT K T n C c,cE K T n C a,cE K T n C b with
   |some z,aB x,aB y=>aB (.ite z x y)
   |_,_,_=>aC)
  |.Subscript a b _=>(match b with
   |.Slice lo hi st _=>(match st with
    |none=>(match cE K T n C a,cO (cE K T n C) lo,cO (cE K T n C) hi with
   |some x,aB (bl,l),aB (bh,u)=>aB (.slc x bl l bh u)
   |_,_,_=>aC)
    |some s=>(match hi with
     |none=>(match cE K T n C a,cO (cE K T n C) lo,cE K T n C s with
      |some x,aB (bl,l),aB y=>if wA bl l then aB (.bi .st2 (.cons x (.cons l (.cons y .nil))))else aC
      |_,_,_=>aC)
     |some _=>aC))
   |b=>if BC b then(match cE K T n C a,cE K T n C b with
   |some x,aB y=>aB (.idx x y)
   |_,_=>aC)else aC)
  |.Call fn args kw pos=>(match kw with
   |[]=>(match fn with
    |.Name f _=>if okN f&&C.names.lookup f==aB .globalImplicit then(match PySem.W.nsIn K mainGlobals f with
     |some aC=>if f==("isinstance" : Str)then(match args with
      |[a,.Name t _]=>(match wk t,cE K T n C a with
       |some ty,aB x=>if okN t&&wj K C t then aB (.oS ty x)else aC
       |_,_=>aC)
      |_=>aC)
      else(match wm f args with
       |some a=>if okN "set" && wj K C "set"then(cE K T n C a).map λx=>.bi .ki (.cons x .nil)else aC
       |none=>match wo f,args with
       |some b,_::_=>(cL (cE K T n C) args).map (.bi b)
       |_,_=>aC)
     |some (aB _)=>(match pC T f 0 with
      |some i=>if Iv K f args.length && !args.isEmpty then(cL (cE K T n C) args).map (λa=>.call i (nH a))else(cL (cE K T n C) args).map (.call i)
      |none=>aC)
     |none=>aC)else aC
    |.Attribute o Iw ap=>if Bj o&& (ap.endLine==pos.line)then(match cE K T n C o,args with
     |some x,[a]=>if Iw==("append" : Str)then(cE K T n C a).map λy=>.mt .append x (.cons y .nil)else if Iw==("update" : Str)then(cE K T n C a).map λy=>.mt .update x (.cons y .nil)else aC
     |some x,[a,b]=>if Iw==("get" : Str)then(match cE K T n C a,cE K T n C b with
      |some y,aB z=>aB (.mt .get x (.cons y (.cons z .nil)))
      |_,_=>aC)else aC
     |_,_=>aC)else aC
    |_=>aC)
   |_=>aC)
  |.ListComp elt gs sc _=>(match gs with
   |[g]=>(match g with
    |⟨tg,iter,ifs,0⟩=>(match aY (λx=>pC C.N x 0) (eX sc)with
     |some ix=>if pF C sc ix then(match cW K T n C iter,wz (ji sc) tg,(match ifs with|[]=>aB (.cst (.bl true))|[c]=>cT K T n (ji sc) c|_=>aC),cE K T n (ji sc) elt with
      |some (kd,a),aB t,aB c,aB e=>if wu kd tg then aB (.lc kd a t (ownOf sc).length ix c e)else aC
      |_,_,_,_=>aC)else aC
     |none=>aC)
    |_=>aC)
   |[g,g2]=>(match g with
    |⟨tg,iter,ifs,0⟩=>(match g2 with
     |⟨gP,bA,dH,0⟩=>(match aY (λx=>pC C.N x 0) (eX sc)with
      |some ix=>if pF C sc ix then(match cW K T n C iter,wz (ji sc) tg,(match ifs with|[]=>aB (E.cst (.bl true))|[c]=>cT K T n (ji sc) c|_=>aC),cE K T n (ji sc) elt with
       |some (kd,a),aB t,aB c,aB e=>if wu kd tg then(match cW K T n (ji sc) bA,wz (ji sc) gP,(match dH with|[]=>aB (E.cst (.bl true))|[c]=>cT K T n (ji sc) c|_=>aC)with
        |some (iU,a2),aB t2,aB c2=>if wu iU gP then aB (.yt kd a t (ownOf sc).length ix c iU a2 t2 c2 e)else aC
        |_,_,_=>aC)else aC
       |_,_,_,_=>aC)else aC
      |none=>aC)
     |_=>aC)
    |_=>aC)
   |_=>aC)
  |.DictComp ek nG gs sc _=>(match gs with
   |[g]=>(match g with
    |⟨tg,iter,ifs,0⟩=>(match aY (λx=>pC C.N x 0) (eX sc)with
     |some ix=>if pF C sc ix then(match cW K T n C iter,wz (ji sc) tg,(match ifs with|[]=>aB (.cst (.bl true))|[c]=>cT K T n (ji sc) c|_=>aC),cE K T n (ji sc) ek,cE K T n (ji sc) nG with
      |some (kd,a),aB t,aB c,aB e,aB v=>if wu kd tg then aB (.dc kd a t (ownOf sc).length ix c e v)else aC
      |_,_,_,_,_=>aC)else aC
     |none=>aC)
    |_=>aC)
   |_=>aC)
  |_=>aC
noncomputable def cT(K:aH)(T:List Str):Nat->CC->ao->Option E
 |0,_,_=>aC
 |n+1,C,e=>match e with
  |.Compare a Os bs _=>(match Os,bs with
   |[O],[b]=>if qi b then(match gT O,cE K T n C a,cE K T n C b with
   |some c,aB x,aB y=>aB (.cmp c x y)
   |_,_,_=>aC)else aC
   |[O,O'],[b,c]=>if qi c then(match gT O,gT O',cE K T n C a,cE K T n C b,cE K T n C c with
   |some o,aB o',aB x,aB y,aB z=>aB (.qh o o' x y z)
   |_,_,_,_,_=>aC)else aC
   |_,_=>aC)
  |.UnaryOp o a _=>(match o with
   |.Not=>(cT K T n C a).map .not
   |_=>aC)
  |.BoolOp o es _=>(match o with
   |.And=>cB true (cT K T n C) es
   |.Or=>cB false (cT K T n C) es)
  |.Name x p=>(cE K T n C (.Name x p)).map .k9
  |.Call f as ks p=>(cE K T n C (.Call f as ks p)).map .k9
  |.Subscript a b p=>(cE K T n C (.Subscript a b p)).map .k9
  |_=>aC
noncomputable def cW(K:aH)(T:List Str):Nat->CC->ao->Option (Kd×E)
 |0,_,_=>aC
 |n+1,C,e=>match e with
  |.Call (.Name f p) args [] pos=>if f==("range" : Str)then(if wj K C f then(match args with
   |[a]=>(cE K T n C a).map λx=>(.bR,.cons x .nil)
   |[a,b]=>(match cE K T n C a,cE K T n C b with
    |some x,aB y=>aB (.gQ,.cons x (.cons y .nil))
    |_,_=>aC)
   |_=>aC)else aC)
   else if f==("enumerate" : Str)then(if wj K C f then(match args with|[a]=>(cE K T n C a).map λx=>(.lE,x)|_=>aC)else aC)
   else if f==("zip" : Str)then(if wj K C f then(match args with
    |[a,b]=>(match cE K T n C a,cE K T n C b with
     |some x,aB y=>aB (.zip,.cons x (.cons y .nil))
     |_,_=>aC)
    |_=>aC)else aC)
   else(cE K T n C (.Call (.Name f p) args [] pos)).map λx=>(.seq,x)
  |.Set ..=>aC
  |.Name x p=>(cE K T n C (.Name x p)).map λc=>if O4 C x then(.keys,.bi .bC (.cons c .nil))else(.seq,c)
  |e=>(cE K T n C e).map λx=>(.seq,x)
end
noncomputable def pG(f:aq->Option S):List aq->Option S
 |[]=>aB .skip
 |s::r=>match f s,pG f r with
  |some a,aB b=>aB (.seq a b)
  |_,_=>aC
noncomputable def cS(K:aH)(T:List Str)(d:Nat):Nat->CC->aq->Option S
 |0,_,_=>aC
 |n+1,C,s=>match s with
  |.Pass _=>aB .skip
  |.Break _=>aB .brk
  |.Continue _=>aB .cnt
  |.Raise ..=>aB .no
  |.Return r _=>(match r with
   |none=>aB (.ret (.cst .aP))
   |some e=>(cE K T d C e).map .ret)
  |.Expr e _=>if Eu e then(cE K T d C e).map .expr else aC
  |.Assign l e _=>(match l with
   |[t]=>(match t with
    |.Name x p=>(match gX C (.Name x p),cE K T d C e with
    |some i,aB c=>aB (.set i c)
    |_,_=>aC)
    |.Tuple ts _ _=>if pA e then(match aY (gX C) ts,cE K T d C e with
    |some is,aB c=>aB (.yu is c)
    |_,_=>aC)else aC
    |.Subscript o i _=>if BC i then(match cE K T d C o,cE K T d C i,cE K T d C e with
    |some x,aB y,aB z=>aB (.put x y z)
    |_,_,_=>aC)else aC
    |_=>aC)
   |_=>aC)
  |.AugAssign t O e _=>(match t with
   |.Name x p=>(match gX C (.Name x p),rS O,cE K T d C e with
    |some i,aB o,aB c=>aB (.aug i o c)
    |_,_,_=>aC)
   |_=>aC)
  |.If c a b _=>(match cT K T d C c,pG (cS K T d n C) a,pG (cS K T d n C) b with
   |some z,aB x,aB y=>aB (.ite z x y)
   |_,_,_=>aC)
  |.For tg it b el _=>(match el with
   |[]=>(match cW K T d C it,wz C tg,pG (cS K T d n C) b with
    |some (kd,a),aB t,aB x=>if wu kd tg then aB (.for kd a t x)else aC
    |_,_,_=>aC)
   |_=>aC)
  |.While c b el _=>(match el with
   |[]=>(match cT K T d C c,pG (cS K T d n C) b with
    |some z,aB x=>aB (.yw z x)
    |_,_=>aC)
   |_=>aC)
  |_=>aC
structure iw(X:Cx)(C:CC)(T:List Str)(F:Nat->Option Fn)(k:Nat):Prop where
 hN:X.N=C.N
 nd:C.N.Nodup
 vis:∀x,rT (C.names.lookup x)=true->yh X.env.scope x
 loc:∀x,rV C.uu (C.names.lookup x)=true->Loc X.env.scope x/\(X.fn x=true\/X.env.scope.names.lookup x=aB .local)
 gl:∀x,C.names.lookup x=aB .globalImplicit->Gl X x
 cf:∀x,(C.names.lookup x=aB .cell\/C.names.lookup x=aB .free)->X.env.kindOf x=aB .cell\/X.env.kindOf x=aB .free
 calm:X.calm=true
 room:dw k X.A
 xe:X.xe=λ_ _=>False
 O5:X.env.scope.kind=.function
 BO:∀x v,PySem.W.nsIn X.K mainGlobals x=aB (aB v)->X.mg x=aB v
 Iz:∀x,PySem.W.nsIn X.K mainGlobals x=aB aC->X.mg x=aC
 fns:∀(i:Nat)(x:Str),T[i]?=aB x->x≠""->∃f fd ps fn,gw X.K x=aB f/\fH X.prog X.w X.K X.mg X.base l6 k f fd ps (oY X.K ps.length (run F k i))/\PySem.W.keepIn X.K (.ref f)=true/\Binds X.K fd ps []/\F i=aB fn/\fn.ps=ps.length/\(gW X.K x=true->Binds X.K fd ps [.none])
section
variable{X:Cx}{C:CC}{T:List Str}{F:Nat->Option Fn}{k:Nat}
theorem iw.BP(O:iw X C T F k):X.A.units+65<cLine:=by have:=O.room.un;lia
theorem iw.u2(O:iw X C T F k):X.A.units+2<cLine:=zh (Dn (by decide:2<=64) _) O.room.units
theorem iw.u1(O:iw X C T F k):X.A.units+1<cLine:=zh (Dn (by decide:1<=64) _) O.room.units
theorem BQ(O:iw X C T F k){x:Str}(h:wj X.K C x):Gl X x/\X.mg x=aC:=by unfold wj at h;rw[bJ]at h;refine⟨O.gl x (by simpa using h.1),O.Iz x ?_⟩;have h2:=h.2;split at h2;assumption;cases h2
theorem kL(O:iw X C T F k){e:ao}{i:Nat}(h:gX C e=aB i):lJ X e i:=by unfold gX at h;split at h;split at h;rename_i hc;rw[bJ]at hc;obtain⟨h1,h2⟩:=O.loc _ hc.2;exact⟨_,_,rfl,by rw[O.hN];exact Iu h,h1,h2⟩;cases h;cases h
theorem EB(O:iw X C T F k):∀{es:List ao} {is:List Nat},aY (gX C) es=aB is->Paired (lJ X) es is
 |[],_,h=>by cases h;exact .nil
 |e::es,is,h=>by
  unfold aY at h;split at h;rename_i b hb;split at h;rename_i bs BN;cases h;exact .cons (kL O hb) (EB O BN);cases h;cases h
theorem kM(O:iw X C T F k){e:ao}{t:Tg}(h:wz C e=aB t):PG X e (cu X.K t):=by
 unfold wz at h;split at h;rename_i x p;cases z:gX C (.Name x p)with
 |none=>rw[z]at h;cases h
 |some i=>
  rw[z]at h;cases h;obtain⟨x',p',e,h1,h2,h3⟩:=kL O z;cases e;exact Ot (O.hN▸O.nd) h1 h2 h3
 split at h;rename_i is j z z2;cases h;obtain⟨x',p',e,h1,h2,h3⟩:=kL O z2;exact WK O.calm (O.hN▸O.nd) (EB O z) ⟨x',p',e,h1,h2,h3⟩;cases h;rename_i es kx p _;cases z:aY (gX C) es with|none=>rw[z]at h;cases h|some is=>rw[z]at h;cases h;exact HU O.calm (O.hN▸O.nd) (EB O z)
 cases h
theorem jy{f:ao->Option E}{cl:Call}(ih:∀e c,f e=aB c->SE X e (ev cl c)/\gU e):∀{es:List ao} {c:E},cL f es=aB c->SA X es (ev cl c)/\es.all gU=true
 |[],_,h=>by cases h;exact⟨Eo,rfl⟩
 |e::es,c,h=>by
  unfold cL at h;split at h;rename_i a r ha hr;cases h;obtain⟨h1,h2⟩:=ih e a ha;obtain⟨h3,h4⟩:=jy ih hr;exact⟨yy h1 h3 (fM h2),by rw[nU,h2,h4];rfl⟩;cases h
theorem O6{f:ao->Option E}{cl:Call}{pos:Pos}(ih:∀e c,f e=aB c->SE X e (ev cl c)/\gU e):∀{ks:List (Option ao)} {vs:List ao} {c:E},EA f ks vs=aB c->Bk X pos ks vs (ev cl c)
 |[],[],_,h=>by cases h;exact Wl
 |[],_::_,_,h=>by cases h
 |none::_,_,_,h=>by cases h
 |some _::_,[],_,h=>by cases h
 |some a::ks,v::vs,c,h=>by
  unfold EA at h;split at h;rename_i x y r hx hy hr;cases h;exact Wm (ih _ _ hx).1 (ih _ _ hy).1 (O6 ih hr);cases h
theorem mw{f:ao->Option E}{cl:Call}{pos:Pos}(ih:∀e c,f e=aB c->SE X e (ev cl c)/\gU e):∀{es:List ao} {c:E},(cB true f es=aB c->SE X (.BoolOp .And es pos) (ev cl c))/\(cB false f es=aB c->SE X (.BoolOp .Or es pos) (ev cl c))
 |[],_=>⟨(λh=>nomatch h),(λh=>nomatch h)⟩
 |[a],c=>⟨λh=>N6 (ih a c h).1,λh=>N6 (ih a c h).1⟩
 |a::b::r,c=>by
  refine⟨λh=>?_,λh=>?_⟩;unfold cB at h;split at h;rename_i x y hx hy;cases h;exact VU (ih a x hx).1 ((mw ih).1 hy);cases h;unfold cB at h;split at h;rename_i x y hx hy;cases h;exact Bb (ih a x hx).1 ((mw ih).2 hy);cases h
theorem EC{f:ao->Option E}{cl:Call}{pos:Pos}(ih:∀e c,f e=aB c->ST X e (ev cl c)):∀{es:List ao} {c:E},(cB true f es=aB c->SW X (.BoolOp .And es pos) (ev cl c))/\(cB false f es=aB c->SW X (.BoolOp .Or es pos) (ev cl c))
 |[],_=>⟨(λh=>nomatch h),(λh=>nomatch h)⟩
 |[a],c=>⟨λh=>N5 (ih a c h),λh=>N5 (ih a c h)⟩
 |a::b::r,c=>by
  refine⟨λh=>?_,λh=>?_⟩;unfold cB at h;split at h;rename_i x y hx hy;cases h;exact VT (ih a x hx) ((EC ih).1 hy);cases h;unfold cB at h;split at h;rename_i x y hx hy;cases h;exact Ba (ih a x hx) ((EC ih).2 hy);cases h
theorem pH{f:ao->Option E}{cl:Call}(ih:∀e c,f e=aB c->SE X e (ev cl c)/\gU e){o:Option ao}{b:Bool}{c:E}(h:cO f o=aB (b,c)):PO X o (je X.K b (ev cl c)):=by
 unfold cO at h;split at h;cases h;exact V2;rename_i e;cases z:f e with|none=>rw[z]at h;cases h|some c'=>rw[z]at h;cases h;exact N8 (ih _ _ z).1
theorem X6{x:Str}{t:Ty}(h:wk x=aB t):bootBuiltins x=aB (.type (rP t)):=by unfold wk at h;split at h;rename_i e;cases h;rw[show x = "int" by simpa using e];exact PyProof.Rows.boot_int;split at h;rename_i e;cases h;rw[show x = "bool" by simpa using e];decide +kernel;split at h;rename_i e;cases h;rw[show x = "tuple" by simpa using e];exact PyProof.Rows.boot_tuple;split at h;rename_i e;cases h;rw[show x = "list" by simpa using e];exact PyProof.Rows.boot_list;split at h;rename_i e;cases h;rw[show x = "str" by simpa using e];decide +kernel;split at h;rename_i e;cases h;rw[show x = "dict" by simpa using e];decide +kernel;cases h
theorem BR{x:Str}{b:Bi}{e:ao}{es:List ao}{fa:FE}{p pos:Pos}(h:wo x=aB b)(hg:Gl X x)(hm:X.mg x=aC)(hn:okN x)(hc:X.calm)(ha:SA X (e::es) fa)(hs:(e::es).all gU):SE X (.Call (.Name x p) (e::es) [] pos) (jf fa (mj b)):=by
 obtain⟨n1,_,n2⟩:=yG hn;unfold wo at h;split at h;rename_i z;cases h;have z:x = "len":=by simpa using z
 subst z;exact Bg Tp V5 hg hm PySem.boot_len ha hs n2 n1;split at h;rename_i z;cases h;have z:x = "list":=by simpa using z
 subst z;exact HL Tq V6 hg hm PyProof.Rows.boot_list ha hs n2 n1;split at h;rename_i z;cases h;have z:x = "tuple":=by simpa using z
 subst z;exact HL Tr V7 hg hm PyProof.Rows.boot_tuple ha hs n2 n1;split at h;rename_i z;cases h;have z:x = "int":=by simpa using z
 subst z;exact HL SN V8 hg hm PyProof.Rows.boot_int ha hs n2 n1;split at h;rename_i z;cases h;have z:x = "abs":=by simpa using z
 subst z;exact Bg SJ V9 hg hm (by decide +kernel) ha hs n2 n1;split at h;rename_i z;cases h;have z:x = "max":=by simpa using z
 subst z;exact Bg ((SK hc).or (XI hc)) Wa hg hm (by decide +kernel) ha hs n2 n1;split at h;rename_i z;cases h;have z:x = "min":=by simpa using z
 subst z;exact Bg (SM hc) Wb hg hm (by decide +kernel) ha hs n2 n1;split at h;rename_i z;cases h;have z:x = "all":=by simpa using z
 subst z;exact Bg (U1 hc) Wc hg hm (by decide +kernel) ha hs n2 n1;cases h
theorem X7{b:ao}(h:BC b):GC b:=λo i=>by cases b<;>first|rfl|cases h
end
section
variable{X:Cx}{C:CC}{T:List Str}{F:Nat->Option Fn}{k:Nat}
theorem uv{env:Env}{kd:NameKind}(hk:kd≠.free):∀{l:List (Str×NameKind)} {x:Str},l.lookup x=aB kd->
 (l.map λ(n,k)=>if(k==NameKind.free&&env.scope.kind == .function&&env.kindOf n==aB .cell)then(n,NameKind.cell)else(n,k)).lookup x=aB kd
 |[],_,h=>by cases h
 |(n,j)::r,x,h=>by
  rw[fm];simp only[gG]at h;by_cases hx:(x==n)=true;simp only[hx]at h;cases h;have:(kd==NameKind.free)=false:=by simpa using hk
  simp only[this,xX,fF,eG,gG,hx];have hx':(x==n)=false:=by simpa using hx
  simp only[hx']at h;have ih:=uv (env:=env) hk (l:=r) (x:=x) h;by_cases hc':(j==NameKind.free&&env.scope.kind == .function&&env.kindOf n==aB .cell)=true;simp only[hc',bY,gG,hx'];exact ih;have hcf:(j==NameKind.free&&env.scope.kind == .function&&env.kindOf n==aB .cell)=false:=by simpa using hc'
  simp only[hcf,fF,eG,gG,hx'];exact ih
theorem ED(O:iw X C T F k){sc:ay}{ix:List Nat}(h:pF C sc ix):aV X (ownOf sc) (eX sc) ix sc/\(ownOf sc++eX sc).Nodup:=by
 unfold pF at h;simp only[bJ,fS,fX]at h;obtain⟨⟨⟨⟨⟨⟨⟨⟨h1,h2⟩,h2'⟩,h3⟩,h4⟩,h5⟩,h6⟩,h7⟩,h8⟩:=h;refine⟨⟨h1,h2,h3,h4,h2',λy hy e=>O.cf _ (h5 y hy e),λq x e=>?_,h6⟩,h8⟩;have hk:q< (eX sc).length:=(i7.mp e).1;have:=h7 q (lV.mpr hk);rw[e]at this;cases z:ix[q]? with
 |none=>rw[z]at this;cases this
 |some j=>
  rw[z]at this;simp only[bJ,fS]at this;exact⟨j,rfl,by rw[O.hN];exact this.1,this.2⟩
theorem uw(O:iw X C T F k){sc:ay}{ix:List Nat}(h:pF C sc ix)(D:ah)(s₀:af)(H₀:Hp)(ex:List ah):iw (X.comp (ownOf sc++eX sc) sc D s₀ H₀ ex) (ji sc) T F k:=by
 obtain⟨S,nd⟩:=ED O h;refine⟨rfl,nd,λx hx=>?_,λx hx=>?_,λx hx=>?_,λx hx=>?_,O.calm,O.room,rfl,S.kind,O.BO,O.Iz,O.fns⟩;have hx:rT (sc.names.lookup x)=true:=hx;cases z:sc.names.lookup x with
 |none=>rw[z]at hx;cases hx
 |some kd=>
  cases kd with
  | «local»=>exact .inl (uv (by decide) z)
  |cell=>exact .inr (.inl (uv (by decide) z))
  |free=>
   have:=DU (env:=X.env) O.O5 z;by_cases hc:X.env.kindOf x=aB .cell;rw[if_pos hc]at this;exact .inr (.inl this);rw[if_neg hc]at this;exact .inr (.inr this)
  |globalExplicit=>rw[z]at hx;cases hx
  |globalImplicit=>rw[z]at hx;cases hx
 have hx:rV true (sc.names.lookup x)=true:=hx;cases z:sc.names.lookup x with
 |none=>rw[z]at hx;cases hx
 |some kd=>
  cases kd with| «local»=>exact⟨.inl (uv (by decide) z),.inr (uv (by decide) z)⟩|cell=>exact⟨.inr (uv (by decide) z),.inl (by show(sc.names.lookup x==aB NameKind.cell)=true;rw[z];rfl)⟩|free=>rw[z]at hx;cases hx|globalExplicit=>rw[z]at hx;cases hx|globalImplicit=>rw[z]at hx;cases hx
 exact uv (by decide) hx;have hx:sc.names.lookup x=aB .cell\/sc.names.lookup x=aB .free:=hx;rcases hx with z|z
 exact .inl (uv (by decide) z);have:=DU (env:=X.env) O.O5 z;by_cases hc:X.env.kindOf x=aB .cell;rw[if_pos hc]at this;exact .inl this;rw[if_neg hc]at this;exact .inr this
end
theorem map_some{α β:Type}{o:Option α}{f:α->β}{b:β}(h:o.map f=aB b):∃a,o=aB a/\b=f a:=by
 cases o with|none=>cases h|some a=>cases h;exact⟨a,rfl,rfl⟩
structure lN(X:Cx)(C:CC)(T:List Str)(F:Nat->Option Fn)(k n:Nat):Prop where
 e:∀e c,cE X.K T n C e=aB c->SE X e (ev (run F k) c)/\gU e=true
 t:∀e c,cT X.K T n C e=aB c->ST X e (ev (run F k) c)
 w:∀e kd c tg,cW X.K T n C e=aB (kd,c)->wu kd tg=true->PI X tg e (bW X.K kd (ev (run F k) c))/\∀x,foldedSetIterable e X.env x=pure x
section
variable{X:Cx}{C:CC}{T:List Str}{F:Nat->Option Fn}{k n:Nat}
theorem BS(O:iw X C T F k)(ih:lN X C T F k n)(e:ao)(c:E)(h:cT X.K T (n+1) C e=aB c):ST X e (ev (run F k) c):=by unfold cT at h;split at h;split at h;split at h;rename_i hs;split at h;rename_i h1 h2 h3;cases h;exact VN O.BP h1 hs (ih.e _ _ h2).1 (ih.e _ _ h3).1;cases h;cases h;split at h;rename_i hs;split at h;rename_i h1 h2 h3 h4 h5;cases h;exact VQ O.BP h1 h2 hs (ih.e _ _ h3).1 (ih.e _ _ h4).1 (ih.e _ _ h5).1;cases h;cases h;cases h;split at h;obtain⟨a,h1,rfl⟩:=map_some h;exact VR (ih.t _ _ h1);cases h;split at h;exact((EC ih.t).1 h).pt;exact((EC ih.t).2 h).pt;obtain⟨a,h1,rfl⟩:=map_some h;exact HJ (ih.e _ _ h1).1 λ_=>rfl;obtain⟨a,h1,rfl⟩:=map_some h;exact HJ (ih.e _ _ h1).1 λ_=>rfl;obtain⟨a,h1,rfl⟩:=map_some h;exact HJ (ih.e _ _ h1).1 λ_=>rfl;cases h
theorem BU{e:ao}(h:∀a b c,e≠.Set a b c){env:Env}:∀x,foldedSetIterable e env x=pure x:=by intro x;cases e<;>first|rfl|exact absurd rfl (h _ _ _)
theorem BV(O:iw X C T F k)(ih:lN X C T F k n)(e:ao)(kd:Kd)(c:E)(tg:ao)(h:cW X.K T (n+1) C e=aB (kd,c))(hw:wu kd tg):PI X tg e (bW X.K kd (ev (run F k) c))/\∀x,foldedSetIterable e X.env x=pure x:=by
 unfold cW at h;split at h;rename_i f p args pos;refine⟨?_,λx=>rfl⟩;split at h;rename_i hf;have hf:f = "range":=by simpa using hf
 subst hf;split at h;rename_i ha;obtain⟨g1,g2⟩:=BQ O ha;split at h;rename_i a;obtain⟨x,h1,h2⟩:=map_some h;cases h2;obtain⟨h3,h4⟩:=ih.e _ _ h1;exact Wu (yy h3 Eo (fM h4)) h4 g1 g2;rename_i a b;split at h;rename_i x y h1 h2;cases h;obtain⟨h3,h4⟩:=ih.e _ _ h1;obtain⟨h5,h6⟩:=ih.e _ _ h2;exact Wv (yy h3 (yy h5 Eo (fM h6)) (fM h4)) h4 h6 g1 g2;cases h;cases h;cases h;split at h;rename_i hf;have hf:f = "enumerate":=by simpa using hf
 subst hf;split at h;rename_i ha;obtain⟨g1,g2⟩:=BQ O ha;split at h;rename_i a;obtain⟨x,h1,h2⟩:=map_some h;cases h2;obtain⟨h3,h4⟩:=ih.e _ _ h1;cases tg<;>first|exact WE h3 h4 g1 g2|cases hw
 cases h;cases h;split at h;rename_i hf;have hf:f = "zip":=by simpa using hf
 subst hf;split at h;rename_i ha;obtain⟨g1,g2⟩:=BQ O ha;split at h;rename_i a b;split at h;rename_i x y h1 h2;cases h;obtain⟨h3,h4⟩:=ih.e _ _ h1;obtain⟨h5,h6⟩:=ih.e _ _ h2;cases tg<;>first|exact WI (yy h3 (yy h5 Eo (fM h6)) (fM h4)) h4 h6 g1 g2|cases hw
 cases h;cases h;cases h;obtain⟨x,h1,h2⟩:=map_some h;cases h2;exact HR (ih.e _ _ h1).1;cases h;rename_i nm _;obtain⟨x,h1,h2⟩:=map_some h;by_cases hcn:O4 C nm=true;simp only[hcn,bY]at h2;cases h2;exact⟨Wz (XN (ih.e _ _ h1).1),λx=>rfl⟩;simp only[hcn,eG]at h2;cases h2;exact⟨HR (ih.e _ _ h1).1,λx=>rfl⟩;rename_i hns hnm;obtain⟨x,h1,h2⟩:=map_some h;cases h2;exact⟨HR (ih.e _ _ h1).1,BU (by first|exact hns|(intro a b c z;exact hns a b c z))⟩
end
theorem X8{f:Str}{args:List ao}{a:ao}(h:wm f args=aB a):∃p pos,f = "len"/\args=[.Call (.Name "set" p) [a] [] pos]:=by unfold wm at h;split at h;rename_i hf;split at h;split at h;rename_i hg;cases h;simp only[tG]at hg;subst hg;exact⟨_,_,by simpa using hf,rfl⟩;cases h;cases h;cases h
section
variable{X:Cx}{C:CC}{T:List Str}{F:Nat->Option Fn}{k n:Nat}
theorem Yb(O:iw X C T F k){x:Str}{p:Pos}{c:E}(h:cE X.K T (n+1) C (.Name x p)=aB c):SE X (.Name x p) (ev (run F k) c):=by simp only[cE]at h;split at h;rename_i hn;obtain⟨n1,n2,n3⟩:=yG hn;split at h;rename_i hv;obtain⟨i,h1,rfl⟩:=map_some h;exact Vy (by rw[O.hN];exact Iu h1) (O.vis x hv) n1 n2;split at h;rename_i hg;split at h;rename_i v hv;obtain⟨w,h1,rfl⟩:=map_some h;obtain⟨y,h2,h3⟩:=O1 8 v w h1;exact A1 (RA (O.gl x (by simpa using hg)) (O.BO x v hv) h2 n1) h3;cases h;cases h;cases h
theorem Yc(O:iw X C T F k)(ih:lN X C T F k n){f:Str}{p pos:Pos}{args:List ao}{c:E}(h:cE X.K T (n+1) C (.Call (.Name f p) args [] pos)=aB c):SE X (.Call (.Name f p) args [] pos) (ev (run F k) c):=by
 simp only[cE]at h;split at h;rename_i hn;rw[bJ]at hn;have hg:=O.gl f (by simpa using hn.2);split at h;rename_i hm;have hm:=O.Iz f hm;split at h;rename_i hf;have hf:f = "isinstance":=by simpa using hf
 subst hf;split at h;rename_i a t pt;split at h;rename_i ty x h1 h2;split at h;rename_i hc;cases h;rw[bJ]at hc;obtain⟨g1,g2⟩:=BQ O hc.2;obtain⟨h3,h4⟩:=ih.e _ _ h2;obtain⟨n1,n2,n3⟩:=yG hc.1;exact Wf ty h3 h4 hg hm g1 g2 (X6 h1) n3 n1;cases h;cases h;cases h;split at h;rename_i a hl;split at h;rename_i hc;rw[bJ]at hc;obtain⟨x,h1,rfl⟩:=map_some h;obtain⟨h2,h3⟩:=ih.e _ _ h1;obtain⟨g1,g2⟩:=BQ O hc.2;obtain⟨p2,pos2,rfl,rfl⟩:=X8 hl;exact XC (zh (Dn (by decide:8<=65) _) O.BP) O.calm hg hm g1 g2 h2 h3;cases h;split at h;rename_i b e es hb _;obtain⟨a,h1,rfl⟩:=map_some h;obtain⟨h2,h3⟩:=jy ih.e h1;exact BR hb hg hm hn.1 O.calm h2 h3;cases h;rename_i v hv;split at h;rename_i i hi;obtain⟨fa,fd,ps,fn,q1,q2,q3,q4,q5,q6,q7⟩:=O.fns i f (Iu hi) (XX hn.1);have q1:=OS q1;split at h;rename_i IA;rw[bJ]at IA;obtain⟨a,h1,rfl⟩:=map_some h;obtain⟨h2,h3⟩:=jy ih.e h1;have hl:∀ws h w h',run F k i ws h=.ok w h'->ws.length=ps.length:=λws h w h' e=>by rw[Ip q5 e,q6]
 have hev:ev (run F k) (.call i (nH a))=jf (ev (run F k) a) (λws h=>run F k i (ws++[.aP]) h):=by
  funext ρ h;simp only[ev,X0 (O2 h1)];show Res.bind (Res.bind (ev (run F k) a ρ h) _) _=Res.bind (ev (run F k) a ρ h) _;cases ev (run F k) a ρ h with|no=>rfl|ex _ _=>rfl|ok y h2=>cases y<;>rfl
 rw[hev];cases args with|nil=>cases IA.2|cons e es=>exact Wr q2 O.room hg (O.BO f _ q1) q3 (q7 (XZ IA.1)) h2 h3 (yG hn.1).1 hl
 obtain⟨a,h1,rfl⟩:=map_some h;obtain⟨h2,h3⟩:=jy ih.e h1;have hl:∀ws h w h',run F k i ws h=.ok w h'->ws.length=ps.length:=λws h w h' e=>by rw[Ip q5 e,q6]
 cases args with
 |nil=>
  simp only[cL]at h1;cases h1;exact Wq q2 O.room hg (O.BO f _ q1) q3 q4 (yG hn.1).1 hl
 |cons e es=>exact Wo q2 O.room hg (O.BO f _ q1) q3 q4 h2 h3 (yG hn.1).1 hl
 cases h;cases h;cases h
theorem Yd(O:iw X C T F k)(ih:lN X C T F k n){o:ao}{m:Str}{ap pos:Pos}{args:List ao}{c:E}(h:cE X.K T (n+1) C (.Call (.Attribute o m ap) args [] pos)=aB c):SE X (.Call (.Attribute o m ap) args [] pos) (ev (run F k) c):=by
 simp only[cE]at h;split at h;rename_i hn;rw[bJ]at hn;split at h;rename_i x a hx;split at h;rename_i hm;have hm:m = "append":=by simpa using hm
 subst hm;obtain⟨y,h1,rfl⟩:=map_some h;obtain⟨h2,h3⟩:=ih.e _ _ h1;exact Wj (ih.e _ _ hx).1 h2 hn.1 h3 hn.2;split at h;rename_i hm;have hm:m = "update":=by simpa using hm
 subst hm;obtain⟨y,h1,rfl⟩:=map_some h;obtain⟨h2,h3⟩:=ih.e _ _ h1;exact XO (ih.e _ _ hx).1 h2 hn.1 h3 hn.2;cases h;rename_i x a b hx;split at h;rename_i hm;have hm:m = "get":=by simpa using hm
 subst hm;split at h;rename_i y z h1 h2;cases h;obtain⟨h3,h4⟩:=ih.e _ _ h1;obtain⟨h5,h6⟩:=ih.e _ _ h2;exact Wk O.u1 (ih.e _ _ hx).1 h3 h5 hn.1 h4 h6 hn.2;cases h;cases h;cases h;cases h
theorem EE{ow fr:List Str}{sc:ay}{ifs:List ao}{c:E}(O:∀D s₀ H₀ ex,lN (X.comp (ow++fr) sc D s₀ H₀ ex) (ji sc) T F k n)
 (h:(match ifs with|[]=>aB (E.cst (.bl true))|[c]=>cT X.K T n (ji sc) c|_=>aC)=aB c) (D:ah) (s₀:af) (H₀:Hp) (ex:List ah):iQ (X.comp (ow++fr) sc D s₀ H₀ ex) ifs (cP X.K (ev (run F k) c)):=by
 split at h;cases h;exact λpins s σ H Q I z9=>z9.el λρ h m b h' f r e q=>by
  cases e;exact TZ pins s σ H Q I (q H m .refl r)
 exact T3 ((O D s₀ H₀ ex).t _ _ h);cases h
theorem O7(O:iw X C T F k)(ih:lN X C T F k n)(jX:∀{sc:ay} {ix:List Nat},pF C sc ix=true->∀D s₀ H₀ ex,lN (X.comp (ownOf sc++eX sc) sc D s₀ H₀ ex) (ji sc) T F k n)
 {elt tg iter:ao} {ifs:List ao} {sc:ay} {pos:Pos} {c:E} (h:cE X.K T (n+1) C (.ListComp elt [⟨tg,iter,ifs,0⟩] sc pos)=aB c) :
 ∃kd a t ix cc ce,c=.lc kd a t (ownOf sc).length ix cc ce/\aV X (ownOf sc) (eX sc) ix sc/\PI X tg iter (bW X.K kd (ev (run F k) a))/\(∀D s₀ H₀ ex,PG (X.comp (ownOf sc++eX sc) sc D s₀ H₀ ex) tg (cu X.K t))/\
  (∀D s₀ H₀ ex,iQ (X.comp (ownOf sc++eX sc) sc D s₀ H₀ ex) ifs (cP X.K (ev (run F k) cc)))/\(∀D s₀ H₀ ex,PE (X.comp (ownOf sc++eX sc) sc D s₀ H₀ ex) elt (eF X.K (ev (run F k) ce)))/\∀x,foldedSetIterable iter X.env x=pure x:=by
 simp only[cE]at h;split at h
 .rename_i ix hix
  split at h
  .rename_i hc
   split at h
   .rename_i kd a t cc ce h1 h2 h3 h4
    split at h
    case isFalse=>cases h
    rename_i hw;cases h;obtain⟨w1,w2⟩:=ih.w _ _ _ tg h1 hw;exact⟨kd,a,t,ix,cc,ce,rfl,(ED O hc).1,w1,λD s₀ H₀ ex=>kM (uw O hc D s₀ H₀ ex) h2,EE (jX hc) h3,λD s₀ H₀ ex=>((jX hc D s₀ H₀ ex).e _ _ h4).1,w2⟩
   cases h
  cases h
 cases h
theorem O8(O:iw X C T F k)(ih:lN X C T F k n)(jX:∀{sc:ay} {ix:List Nat},pF C sc ix=true->∀D s₀ H₀ ex,lN (X.comp (ownOf sc++eX sc) sc D s₀ H₀ ex) (ji sc) T F k n)
 {elt tg iter gP bA:ao} {ifs dH:List ao} {sc:ay} {pos:Pos} {c:E} (h:cE X.K T (n+1) C (.ListComp elt [⟨tg,iter,ifs,0⟩,⟨gP,bA,dH,0⟩] sc pos)=aB c) :
 ∃kd a t ix cc iU a2 t2 yH ce,c=.yt kd a t (ownOf sc).length ix cc iU a2 t2 yH ce/\aV X (ownOf sc) (eX sc) ix sc/\PI X tg iter (bW X.K kd (ev (run F k) a))/\(∀D s₀ H₀ ex,PG (X.comp (ownOf sc++eX sc) sc D s₀ H₀ ex) tg (cu X.K t))/\
  (∀D s₀ H₀ ex,iQ (X.comp (ownOf sc++eX sc) sc D s₀ H₀ ex) ifs (cP X.K (ev (run F k) cc)))/\
  (∀D s₀ H₀ ex,PI (X.comp (ownOf sc++eX sc) sc D s₀ H₀ ex) gP bA (bW X.K iU (ev (run F k) a2)))/\(∀D s₀ H₀ ex,PG (X.comp (ownOf sc++eX sc) sc D s₀ H₀ ex) gP (cu X.K t2))/\
  (∀D s₀ H₀ ex,iQ (X.comp (ownOf sc++eX sc) sc D s₀ H₀ ex) dH (cP X.K (ev (run F k) yH)))/\(∀D s₀ H₀ ex,PE (X.comp (ownOf sc++eX sc) sc D s₀ H₀ ex) elt (eF X.K (ev (run F k) ce)))/\
  (∀x,foldedSetIterable iter X.env x=pure x)/\∀D s₀ H₀ ex x,foldedSetIterable bA (X.comp (ownOf sc++eX sc) sc D s₀ H₀ ex).env x=pure x:=by
 simp only[cE]at h;split at h
 .rename_i ix hix
  split at h
  .rename_i hc
   split at h
   .rename_i kd a t cc ce h1 h2 h3 h4
    split at h
    case isFalse=>cases h
    rename_i hw;split at h
    .rename_i iU a2 t2 yH h5 h6 h7
     split at h
     case isFalse=>cases h
     rename_i O9;cases h;obtain⟨w1,w2⟩:=ih.w _ _ _ tg h1 hw;exact⟨kd,a,t,ix,cc,iU,a2,t2,yH,ce,rfl,(ED O hc).1,w1,λD s₀ H₀ ex=>kM (uw O hc D s₀ H₀ ex) h2,EE (jX hc) h3,λD s₀ H₀ ex=>((jX hc D s₀ H₀ ex).w _ _ _ gP h5 O9).1,λD s₀ H₀ ex=>kM (uw O hc D s₀ H₀ ex) h6,EE (jX hc) h7,
      λD s₀ H₀ ex=>((jX hc D s₀ H₀ ex).e _ _ h4).1,w2,λD s₀ H₀ ex=>((jX hc D s₀ H₀ ex).w _ _ _ gP h5 O9).2⟩
    cases h
   cases h
  cases h
 cases h
theorem Pa(O:iw X C T F k)(ih:lN X C T F k n)(jX:∀{sc:ay} {ix:List Nat},pF C sc ix=true->∀D s₀ H₀ ex,lN (X.comp (ownOf sc++eX sc) sc D s₀ H₀ ex) (ji sc) T F k n)
 {ek nG tg iter:ao} {ifs:List ao} {sc:ay} {pos:Pos} {c:E} (h:cE X.K T (n+1) C (.DictComp ek nG [⟨tg,iter,ifs,0⟩] sc pos)=aB c) :
 ∃kd a t ix cc ce cv,c=.dc kd a t (ownOf sc).length ix cc ce cv/\aV X (ownOf sc) (eX sc) ix sc/\PI X tg iter (bW X.K kd (ev (run F k) a))/\(∀D s₀ H₀ ex,PG (X.comp (ownOf sc++eX sc) sc D s₀ H₀ ex) tg (cu X.K t))/\
  (∀D s₀ H₀ ex,iQ (X.comp (ownOf sc++eX sc) sc D s₀ H₀ ex) ifs (cP X.K (ev (run F k) cc)))/\(∀D s₀ H₀ ex,PE (X.comp (ownOf sc++eX sc) sc D s₀ H₀ ex) ek (eF X.K (ev (run F k) ce)))/\
  (∀D s₀ H₀ ex,PE (X.comp (ownOf sc++eX sc) sc D s₀ H₀ ex) nG (eF X.K (ev (run F k) cv)))/\∀x,foldedSetIterable iter X.env x=pure x:=by
 simp only[cE]at h;split at h
 .rename_i ix hix
  split at h
  .rename_i hc
   split at h
   .rename_i kd a t cc ce cv h1 h2 h3 h4 h5
    split at h
    case isFalse=>cases h
    rename_i hw;cases h;obtain⟨w1,w2⟩:=ih.w _ _ _ tg h1 hw;exact⟨kd,a,t,ix,cc,ce,cv,rfl,(ED O hc).1,w1,λD s₀ H₀ ex=>kM (uw O hc D s₀ H₀ ex) h2,EE (jX hc) h3,λD s₀ H₀ ex=>((jX hc D s₀ H₀ ex).e _ _ h4).1,λD s₀ H₀ ex=>((jX hc D s₀ H₀ ex).e _ _ h5).1,w2⟩
   cases h
  cases h
 cases h
theorem BW(O:iw X C T F k)(ih:lN X C T F k n)(jX:∀{sc:ay} {ix:List Nat},pF C sc ix=true->∀D s₀ H₀ ex,lN (X.comp (ownOf sc++eX sc) sc D s₀ H₀ ex) (ji sc) T F k n)
 (e:ao) (c:E) (h:cE X.K T (n+1) C e=aB c):SE X e (ev (run F k) c)/\gU e=true:=by
 have h0:=h;unfold cE at h;split at h;exact⟨Yb O h0,rfl⟩;refine⟨?_,rfl⟩;split at h;cases h;exact Vz;cases h;exact A2;cases h;exact VA;cases h;exact VB;cases h;obtain⟨a,h1,rfl⟩:=map_some h;exact⟨VC (jy ih.e h1).1,rfl⟩;obtain⟨a,h1,rfl⟩:=map_some h;exact⟨VD (jy ih.e h1).1,rfl⟩;refine⟨?_,rfl⟩;split at h;split at h;cases h;exact XM;cases h;split at h;rename_i hc;simp only[bJ]at hc;obtain⟨a,h1,rfl⟩:=map_some h;exact Wn O.u2 (O6 ih.e h1) hc.2 (zg hc.1.2) (by simp) (lu hc.1.1);cases h;refine⟨?_,rfl⟩;split at h;rename_i h1 h2 h3;cases h;exact A4 (A6 h1) (VI _) (ih.e _ _ h2).1 (ih.e _ _ h3).1;cases h;split at h;obtain⟨a,h1,rfl⟩:=map_some h;exact⟨VS (ih.e _ _ h1).1,rfl⟩;obtain⟨a,h1,rfl⟩:=map_some h;exact⟨VY (ih.e _ _ h1).1,rfl⟩;cases h;split at h;exact⟨(mw ih.e).1 h,rfl⟩;exact⟨(mw ih.e).2 h,rfl⟩;split at h;refine⟨?_,rfl⟩;split at h;rename_i hs;split at h;rename_i h1 h2 h3;cases h;exact VM O.BP h1 hs (ih.e _ _ h2).1 (ih.e _ _ h3).1;cases h;cases h;refine⟨?_,rfl⟩;split at h;rename_i hs;split at h;rename_i h1 h2 h3 h4 h5;cases h;exact VP O.BP h1 h2 hs (ih.e _ _ h3).1 (ih.e _ _ h4).1 (ih.e _ _ h5).1;cases h;cases h;cases h;refine⟨?_,rfl⟩;split at h;rename_i h1 h2 h3;cases h;exact VW (ih.t _ _ h1) (ih.e _ _ h2).1 (ih.e _ _ h3).1;cases h;split at h;split at h;refine⟨?_,rfl⟩;split at h;rename_i h1 h2 h3;cases h;exact V4 (ih.e _ _ h1).1 (pH ih.e h2) (pH ih.e h3);cases h;split at h;refine⟨?_,rfl⟩;split at h;rename_i x bl l y h1 h2 h3;split at h;rename_i hb;cases h;exact XS (ih.e _ _ h1).1 (pH ih.e h2) (ih.e _ _ h3).1 (X4 hb);cases h;cases h;cases h;refine⟨?_,rfl⟩;split at h;rename_i hs;split at h;rename_i h1 h2;cases h;exact V1 O.u2 (ih.e _ _ h1).1 (ih.e _ _ h2).1 (X7 hs);cases h;cases h;split at h;split at h;exact⟨Yc O ih h0,rfl⟩;exact⟨Yd O ih h0,rfl⟩;cases h;cases h;split at h;split at h;refine⟨?_,rfl⟩;obtain⟨kd,a,t,ix,cc,ce,rfl,S,w1,w2,w3,w4,w5⟩:=O7 O ih jX h0;exact BA S O.calm w1 w2 w3 w4 w5;cases h;split at h;split at h;refine⟨?_,rfl⟩;obtain⟨kd,a,t,ix,cc,iU,a2,t2,yH,ce,rfl,S,w1,w2,w3,v1,v2,v3,w4,w5,v5⟩:=O8 O ih jX h0;exact W9 S O.calm w1 w2 w3 v1 v2 v3 w4 w5 v5;cases h;cases h;cases h;split at h;split at h;refine⟨?_,rfl⟩;obtain⟨kd,a,t,ix,cc,ce,cv,rfl,S,w1,w2,w3,w4,w6,w5⟩:=Pa O ih jX h0;exact BB S O.calm w1 w2 w3 w4 w6 w5;cases h;cases h;cases h
end
theorem qj{T:List Str}{F:Nat->Option Fn}{k:Nat}:∀(n:Nat) {X:Cx} {C:CC},iw X C T F k->lN X C T F k n
 |0,_,_,_=>⟨(λe c h=>nomatch h),(λe c h=>nomatch h),(λe kd c tg h _=>nomatch h)⟩
 |n+1,X,C,O=>by
  have ih:=qj n O;have jX:∀{sc:ay}{ix:List Nat},pF C sc ix=true->∀D s₀ H₀ ex,lN (X.comp (ownOf sc++eX sc) sc D s₀ H₀ ex) (ji sc) T F k n:=λhc D s₀ H₀ ex=>qj n (uw O hc D s₀ H₀ ex);exact⟨BW O ih jX,BS O ih,BV O ih⟩
section
variable{X:Cx}{C:CC}{T:List Str}{F:Nat->Option Fn}{k d:Nat}
theorem wB{f:aq->Option S}{cl:Call}(ih:∀st c,f st=aB c->SS X st (exs cl c)):∀{sts:List aq} {c:S},pG f sts=aB c->rR X sts (exs cl c)
 |[],_,h=>by cases h;exact WY
 |s::r,c,h=>by
  unfold pG at h;split at h;rename_i a b ha hb;cases h;exact W3 (ih s a ha) (wB ih hb);cases h
theorem Ye{K:aH}{T:List Str}{n:Nat}{C:CC}{elt:ao}{gs:List Comprehension}{sc:ay}{lp:Pos}{c:E}(h:cE K T (n+1) C (.ListComp elt gs sc lp)=aB c):(∃tg iter ifs,gs=[⟨tg,iter,ifs,0⟩])\/∃tg iter ifs gP bA dH,gs=[⟨tg,iter,ifs,0⟩,⟨gP,bA,dH,0⟩]:=by simp only[cE]at h;split at h;rename_i g;split at h;exact .inl ⟨_,_,_,rfl⟩;cases h;rename_i g g2;split at h;split at h;exact .inr ⟨_,_,_,_,_,_,rfl⟩;cases h;cases h;cases h
theorem Yg{K:aH}{T:List Str}{n:Nat}{C:CC}{ek ev:ao}{gs:List Comprehension}{sc:ay}{lp:Pos}{c:E}(h:cE K T (n+1) C (.DictComp ek ev gs sc lp)=aB c):∃tg iter ifs,gs=[⟨tg,iter,ifs,0⟩]:=by simp only[cE]at h;split at h;rename_i g;split at h;exact⟨_,_,_,rfl⟩;cases h;cases h
theorem Yh(O:iw X C T F k){x:Str}{p pos:Pos}{e:ao}{i:Nat}{c:E}(hi:gX C (.Name x p)=aB i)(h:cE X.K T d C e=aB c):SS X (.Assign [.Name x p] e pos) (exs (run F k) (.set i c)):=by
 obtain⟨x',p',ex,h1,h2,h3⟩:=kL O hi;cases ex;have nd:X.N.Nodup:=O.hN▸O.nd;have Sd:=qj (T:=T) (F:=F) (k:=k) d O;by_cases hc:Eu e=true;exact Ik nd h1 h2 h3 (Sd.e _ _ h).1 (OG hc);cases d with
 |zero=>cases h
 |succ n=>
  cases e with
  |ListComp elt gs sc lp=>
   have sw:∃b:Bool,swapsWith (.ListComp elt gs sc lp) (aB (.Name x p)) pos.line X.env=pure b:=⟨_,rfl⟩
   obtain⟨b,hb⟩:=sw;cases b with
   |false=>exact Ik nd h1 h2 h3 (Sd.e _ _ h).1 hb
   |true=>
    rcases Ye h with⟨tg,iter,ifs,rfl⟩|⟨tg,iter,ifs,gP,bA,dH,rfl⟩;obtain⟨kd,a,t,ix,cc,ce,rfl,S,w1,w2,w3,w4,w5⟩:=O7 O (qj n O) (λhc D s₀ H₀ ex=>qj n (uw O hc D s₀ H₀ ex)) h;exact W8 nd h1 h2 h3 S O.calm w1 w2 w3 w4 hb w5;obtain⟨kd,a,t,ix,cc,iU,a2,t2,yH,ce,rfl,S,w1,w2,w3,v1,v2,v3,w4,w5,v5⟩:=O8 O (qj n O) (λhc D s₀ H₀ ex=>qj n (uw O hc D s₀ H₀ ex)) h;exact Xa nd h1 h2 h3 S O.calm w1 w2 w3 v1 v2 v3 w4 hb w5 v5
  |SetComp _ _ _ _=>unfold cE at h;cases h
  |DictComp ek nG gs sc lp=>
   have sw:∃b:Bool,swapsWith (.DictComp ek nG gs sc lp) (aB (.Name x p)) pos.line X.env=pure b:=⟨_,rfl⟩
   obtain⟨b,hb⟩:=sw;cases b with
   |false=>exact Ik nd h1 h2 h3 (Sd.e _ _ h).1 hb
   |true=>
    obtain⟨tg,iter,ifs,rfl⟩:=Yg h;obtain⟨kd,a,t,ix,cc,ce,cv,rfl,S,w1,w2,w3,w4,w6,w5⟩:=Pa O (qj n O) (λhc D s₀ H₀ ex=>qj n (uw O hc D s₀ H₀ ex)) h;exact Xb nd h1 h2 h3 S O.calm w1 w2 w3 w4 w6 hb w5
  |_=>exact absurd rfl hc
theorem pI(O:iw X C T F k):∀(n:Nat) (st:aq) (c:S),cS X.K T d n C st=aB c->SS X st (exs (run F k) c)
 |0,_,_,h=>by cases h
 |n+1,st,c,h=>by
  have nd:X.N.Nodup:=O.hN▸O.nd;have Sd:=qj (T:=T) (F:=F) (k:=k) d O;have ih:=pI O n;have hp:PassesOwn (model X.prog X.w) X.A X.env X.xe:=by rw[O.xe];exact PassesOwn.never
  unfold cS at h;split at h;cases h;exact WZ;cases h;exact W0;cases h;exact W2;cases h;exact By;split at h;cases h;exact W7;obtain⟨a,h1,rfl⟩:=map_some h;exact W6 (Sd.e _ _ h1).1;split at h;rename_i hc;obtain⟨a,h1,rfl⟩:=map_some h;exact W5 (Sd.e _ _ h1).1 hc;cases h;split at h;split at h;split at h;rename_i i a h1 h2;cases h;exact Yh O h1 h2;cases h;split at h;rename_i ht;split at h;rename_i h1 h2;cases h;exact Xe O.calm nd (EB O h1) (Sd.e _ _ h2).1 ht;cases h;cases h;split at h;rename_i hs;split at h;rename_i h1 h2 h3;cases h;exact Xk O.u2 (Sd.e _ _ h1).1 (Sd.e _ _ h2).1 (Sd.e _ _ h3).1 hs;cases h;cases h;cases h;cases h;split at h;split at h;rename_i h1 h2 h3;cases h;obtain⟨x',p',ex,a1,a2,a3⟩:=kL O h1;cases ex;exact Xo h2 nd a1 a2 a3 (Sd.e _ _ h3).1;cases h;cases h;split at h;rename_i h1 h2 h3;cases h;exact Xq (Sd.t _ _ h1) (wB ih h2) (wB ih h3);cases h
  .rename_i tg it b el pos
   split at h
   .split at h
    .rename_i h1 h2 h3
     split at h
     case isFalse=>cases h
     rename_i hw;cases h;obtain⟨w1,w2⟩:=Sd.w _ _ _ tg h1 hw;exact Xu hp O.calm w1 (kM O h2) (wB ih h3) w2
    cases h
   cases h
  split at h;split at h;rename_i h1 h2;cases h;exact Xv hp (Sd.t _ _ h1) (wB ih h2);cases h;cases h;cases h
end
noncomputable def IB:FuncBody->Option (List aq)|.stmts b=>aB b|_=>aC
theorem Yi{d:Data}(h:Ez d):∃n,d=.seq #[.none] n:=by
 cases d with
 |seq xs n=>
  obtain⟨l⟩:=xs;unfold Ez at h;simp only[]at h;split at h;rename_i v;cases v<;>first|exact⟨n,rfl⟩|cases h
  cases h
 |_=>cases h
theorem Yj{K:aH}{v:aa}(h:gz K v):∃t o n,v=.ref t/\K.lookup t=aB o/\o.data=.seq #[.none] n:=by
 cases v with
 |ref t=>
  have h:(match K.lookup t with|some o=>Ez o.data|none=>false)=true:=h;cases e:K.lookup t with
  |none=>rw[e]at h;cases h
  |some o=>
   rw[e]at h;obtain⟨n,q⟩:=Yi h;exact⟨t,o,n,rfl,e,q⟩
 |_=>cases h
noncomputable def wC(ps:List Str)(sc:ay):List Str:=ps++(sc.names.filter λy=>(y.2 == .local||y.2 == .cell) && !(ps.contains y.1)).map (·.1)
noncomputable def EF(N ps:List Str)(sc:ay):Bool:=
 decide (sc.kind=.function) && !sc.isCoroutine && !sc.isGenerator&&decide N.Nodup&&decide (N.take ps.length=ps)&&ps.all (λx=>decide (sc.names.lookup x=aB .local\/sc.names.lookup x=aB .cell))&&sc.names.all (λy=>decide (y.2≠.free))&&decide ps.Nodup
theorem Yk{N ps:List Str}{sc:ay}(h:EF N ps sc):dB N ps sc/\ps.Nodup:=by unfold EF at h;simp only[bJ,fS,fX,vc]at h;obtain⟨⟨⟨⟨⟨⟨⟨h1,h2⟩,h3⟩,h4⟩,h5⟩,h6⟩,h7⟩,h8⟩:=h;exact⟨⟨h1,h2,h3,h4,h5,h6,h7⟩,h8⟩
noncomputable def jj(x:Str):Str:=x
noncomputable def cF(K:aH)(T:List Str)(d n:Nat)(x:Str):Option Fn:=match fnAt K x with
 |some (f,o,fd)=>(match wg fd.params,IB fd.body with
  |some args,aB body=>if fd.name==jj x&&fd.qualname==x&&Nat.beq fd.globals mainGlobals&&fd.closure.isEmpty&& (isNone fd.defaults||gz K fd.defaults && !args.isEmpty)&&Nat.beq fd.builtins builtinsNs&&PySem.W.codeIn K fd.code x&&PySem.W.keepIn K (.ref f) &&
   EF (wC (args.map (·.arg)) fd.scope) (args.map (·.arg)) fd.scope then
   (pG (cS K T d n ⟨wC (args.map (·.arg)) fd.scope,fd.scope.names,true⟩) body).map λb=>⟨(args.map (·.arg)).length,(wC (args.map (·.arg)) fd.scope).length,b⟩
   else aC
  |_,_=>aC)
 |none=>aC
theorem Yl{fd:au}{x:Str}{args:List Arg}{body:List aq}(c1:(fd.name==jj x))(c2:(fd.qualname==x))(c3:Nat.beq fd.globals mainGlobals)(c4:fd.closure.isEmpty)(c6:Nat.beq fd.builtins builtinsNs)(ha:wg fd.params=aB args)(hb:IB fd.body=aB body) :
 ∃dx,fd=PySem.W.fnOf (jj x) x ⟨[],args,aC,[],[],aC,dx⟩ body fd.scope fd.defaults fd.kwdefaults fd.doc fd.pyModule fd.annotations fd.code fd.closureTuple:=by
 obtain⟨nm,qn,pr,bd,sc,gl,cl,df,kd,dc,pm,an,cdv,ct,bu⟩:=fd;have e1:nm=jj x:=by simpa using c1
 have e2:qn=x:=by simpa using c2
 have e3:gl=mainGlobals:=zg c3;have e4:cl=[]:=by simpa using c4
 have e6:bu=builtinsNs:=zg c6;have e7:bd=.stmts body:=by
  cases bd with|stmts b'=>cases hb;rfl|expr _=>cases hb
 obtain⟨dx,e8⟩:∃dx,pr=⟨[],args,aC,[],[],aC,dx⟩:=by unfold wg at ha;split at ha;cases ha;rename_i z;exact⟨_,z⟩;cases ha
 exact⟨dx,by rw[e1,e2,e3,e4,e6,e7,e8]⟩
theorem Ym{K:aH}{x:Str}{fd:au}{args:List Arg}{body:List aq}{dx:List ao}{sc:ay}{df kd dc pm:aa}{an:Option ah}{cdv ct:aa}{b:Bool}(e:fd=PySem.W.fnOf (jj x) x ⟨[],args,aC,[],[],aC,dx⟩ body sc df kd dc pm an cdv ct)(nd:(args.map (·.arg)).Nodup)
 (hb:b=gz K df) (c5:(isNone df||gz K df && !args.isEmpty)):Binds K fd (args.map (·.arg)) []/\(b=true->Binds K fd (args.map (·.arg)) [.none])/\(b=false->∀us:List aa,us.length=(args.map (·.arg)).length->bindArgs fd ⟨us,[]⟩=pure ((args.map (·.arg)).zip us)):=by
 subst e hb;rw[p5,bJ]at c5;rcases c5 with c5|⟨c5,c0⟩
 have e5:df=.none:=by cases df<;>first|rfl|cases c5
 subst e5;exact⟨.all λus hl=>OJ hl nd,(λz=>nomatch z),λ_ us hl=>OJ hl nd⟩;obtain⟨t,o,n,rfl,hk,hd⟩:=Yj c5;rw[c5];obtain⟨qs,z,BX⟩:∃qs z,args.map (·.arg)=qs++[z]:=by rcases List.eq_nil_or_concat (args.map (·.arg))with q|⟨l,b,q⟩;rw[List.map_eq_nil_iff.mp q]at c0;cases c0;exact⟨l,b,by rw[q,List.concat_eq_append]⟩
 have IC:=nd;rw[BX]at IC;refine⟨λs us hK hl=>?_,λ_ s us hK hl=>?_,λz=>nomatch z⟩;rw[oA]at hl ⊢;rw[BX]at hl ⊢;exact Xx BX IC (hK _ _ hk) hd hl;rw[BX]at hl ⊢;exact Xy BX IC (hK _ _ hk) hd (by rw[fU,fU]at hl;simpa using hl)
theorem Yn{K:aH}{x:Str}{f:ah}{o:Obj}{fd:au}(h:fnAt K x=aB (f,o,fd)):gw K x=aB f/\∃oc od sl,K.lookup f=aB ⟨oc,od,.func fd,sl⟩:=by unfold fnAt at h;split at h;rename_i f' hn;split at h;rename_i o' ho;split at h;rename_i fd' hd;cases h;refine⟨hn,o.cls,o.dict,o.slots,?_⟩;rw[<-hd];exact ho;cases h;cases h;cases h
theorem Yo{K:aH}{T:List Str}{d n:Nat}{x:Str}{fn:Fn}:∀(f:ah) (o:Obj) (fd:au) (args:List Arg) (body:List aq) (b:S),fnAt K x=aB (f,o,fd)->wg fd.params=aB args->IB fd.body=aB body->(fd.name==jj x&&fd.qualname==x&&Nat.beq fd.globals mainGlobals&&fd.closure.isEmpty&& (isNone fd.defaults||gz K fd.defaults && !args.isEmpty)&&Nat.beq fd.builtins builtinsNs&&PySem.W.codeIn K fd.code x&&PySem.W.keepIn K (.ref f) &&
 EF (wC (args.map (·.arg)) fd.scope) (args.map (·.arg)) fd.scope)=true->pG (cS K T d n ⟨wC (args.map (·.arg)) fd.scope,fd.scope.names,true⟩) body=aB b->fn=⟨(args.map (·.arg)).length,(wC (args.map (·.arg)) fd.scope).length,b⟩->∃f fd st ps N,gw K x=aB f/\pB K (jj x) x st f fd/\dB N ps (jJ st)/\fn.n=N.length/\fn.ps=ps.length/\(Binds K fd ps []/\(gW K x=true->Binds K fd ps [.none])/\(gW K x=false->∀us:List aa,us.length=ps.length->bindArgs fd ⟨us,[]⟩=pure (ps.zip us)))/\
 pG (cS K T d n ⟨N,(jJ st).names,true⟩) (An st)=aB fn.body/\∃o' fd' args,fnAt K x=aB (f,o',fd')/\wg fd'.params=aB args/\ps=args.map (·.arg):=by
 intro f o fd args body b hf ha hb hc h1 e;rw[bJ,bJ,bJ,bJ,bJ,bJ,bJ,bJ]at hc;obtain⟨⟨⟨⟨⟨⟨⟨⟨c1,c2⟩,c3⟩,c4⟩,c5⟩,c6⟩,c7⟩,c8⟩,c9⟩:=hc;obtain⟨S,nd⟩:=Yk c9;obtain⟨hn,oc,od,sl,lk⟩:=Yn hf;obtain⟨dx,ef⟩:=Yl c1 c2 c3 c4 c6 ha hb;have hh:gW K x=gz K fd.defaults:=by unfold gW;rw[hf]
 exact⟨f,fd,.FunctionDef (jj x) ⟨[],args,aC,[],[],aC,dx⟩ body [] aC [] fd.scope aC (jj x) ⟨0,0,0,0⟩,args.map (·.arg),wC (args.map (·.arg)) fd.scope,hn,⟨⟨oc,od,_,_,_,_,_,fd.code,_,sl,ef,lk,c7⟩,c8⟩,S,by rw[e],by rw[e],Ym ef nd hh c5,by rw[e];exact h1,o,fd,args,hf,ha,rfl⟩
theorem pJ{K:aH}{T:List Str}{d n:Nat}{x:Str}{fn:Fn}(h:cF K T d n x=aB fn):∃f fd st ps N,gw K x=aB f/\pB K (jj x) x st f fd/\dB N ps (jJ st)/\fn.n=N.length/\fn.ps=ps.length/\(Binds K fd ps []/\(gW K x=true->Binds K fd ps [.none])/\(gW K x=false->∀us:List aa,us.length=ps.length->bindArgs fd ⟨us,[]⟩=pure (ps.zip us)))/\
 pG (cS K T d n ⟨N,(jJ st).names,true⟩) (An st)=aB fn.body/\∃o' fd' args,fnAt K x=aB (f,o',fd')/\wg fd'.params=aB args/\ps=args.map (·.arg):=by
 unfold cF at h;split at h;rename_i f o fd hf;split at h;rename_i args body ha hb;split at h;rename_i hc;obtain⟨b,h1,e⟩:=map_some h;exact Yo f o fd args body b hf ha hb hc h1 e;cases h;cases h;cases h
theorem EG{α β:Type}{f:α->Option β}:∀{l:List α} {r:List β},aY f l=aB r->∀(i:Nat) (a:α),l[i]?=aB a->∃b,r[i]?=aB b/\f a=aB b
 |[],_,_,i,a,e=>by simp at e
 |x::l,r,h,i,a,e=>by
  unfold aY at h;split at h;rename_i b hb;split at h;rename_i bs BN;cases h;cases i with
  |zero=>simp at e;subst e;exact⟨b,rfl,hb⟩
  |succ i=>
   obtain⟨c,h1,h2⟩:=EG BN i a (by simpa using e);exact⟨c,by simpa using h1,h2⟩
  cases h;cases h
noncomputable def ID(K:aH)(T:List Str)(d n:Nat)(x:Str):Option Fn:=if x==("" : Str)then aB ⟨0,0,.no⟩else cF K T d n x
theorem IE{K:aH}{T:List Str}{d n:Nat}{x:Str}{fn:Fn}(h:ID K T d n x=aB fn)(hx:x≠""):cF K T d n x=aB fn:=by unfold ID at h;rw[if_neg (by simpa using hx)]at h;exact h
noncomputable def jz(K:aH)(T:List Str)(d n:Nat):Option (List Fn):=aY (ID K T d n) T
theorem Pb{P:ai}{w:aj}{K:aH}{mg:Str->Option aa}{base:az}{T:List Str}{Fs:List Fn}{k:Nat}(KX:K.In base)(G:base.Ns mainGlobals mg){x:Str}{st:aq}{f:ah}{N ps:List Str}(S:dB N ps (jJ st))
 (H0:∀(i:Nat)(x:Str),T[i]?=aB x->x≠""->∃f fd ps fn,gw K x=aB f/\fH P w K mg base l6 k f fd ps (oY K ps.length (run (λi=>Fs[i]?) k i))/\PySem.W.keepIn K (.ref f)=true/\Binds K fd ps []/\Fs[i]?=aB fn/\fn.ps=ps.length/\(gW K x=true->Binds K fd ps [.none]))
 (cdv:aa) (A:ak) (outer:List Env) (s:af) (H:Hp) (E:XK) (hr:dw k (A.deeper (envOfC x (jJ st) s.heap.objs.size f cdv))):iw (kg l6 P w K mg base N x (jJ st) f cdv A outer s H E).yk ⟨N,(jJ st).names,true⟩ T (λi=>Fs[i]?) k:=by
 refine⟨rfl,S.nd,λy hy=>?_,λy hy=>?_,λy hy=>hy,λy hy=>hy,rfl,hr,rfl,S.kind,λy v hv=>PySem.W.mg_of KX G hv,λy hv=>PySem.W.mg_none_of KX G hv,H0⟩;have hy:rT ((jJ st).names.lookup y)=true:=hy;cases z:(jJ st).names.lookup y with
 |none=>rw[z]at hy;cases hy
 |some kd=>cases kd<;>first|exact .inl z|exact .inr (.inl z)|exact .inr (.inr z)|(rw[z]at hy;cases hy)
 have hy:rV true ((jJ st).names.lookup y)=true:=hy;cases z:(jJ st).names.lookup y with
 |none=>rw[z]at hy;cases hy
 |some kd=>cases kd<;>first|exact⟨.inl z,.inl rfl⟩|exact⟨.inr z,.inl rfl⟩|(rw[z]at hy;cases hy)
theorem Yp{P:ai}{w:aj}{K:aH}{mg:Str->Option aa}{base:az}{T:List Str}{d n:Nat}{Fs:List Fn}(hP:jz K T d n=aB Fs)(KX:K.In base)(G:base.Ns mainGlobals mg)(k:Nat):∀(j:Nat),j<=k->∀(i:Nat) (x:Str),T[i]?=aB x->x≠""->
 ∃f fd ps fn,gw K x=aB f/\fH P w K mg base l6 j f fd ps (oY K ps.length (run (λi=>Fs[i]?) j i))/\PySem.W.keepIn K (.ref f)=true/\Binds K fd ps []/\Fs[i]?=aB fn/\fn.ps=ps.length/\(gW K x=true->Binds K fd ps [.none]):=by
 induction k with
 |zero=>
  intro j hj i x e hx;have:j=0:=Nat.le_zero.mp hj;subst this;obtain⟨fn,h1,h2⟩:=EG hP i x e;obtain⟨f,fd,st,ps,N,a1,a2,a3,a4,a5,a6,a7,_⟩:=pJ (IE h2 hx);exact⟨f,fd,ps,fn,a1,OR,a2.kp,a6.1,h1,a5,a6.2.1⟩
 |succ k ih=>
  intro j hj i x e hx;by_cases hjk:j<=k;exact ih j hjk i x e hx;have:j=k+1:=by lia
  subst this;obtain⟨fn,h1,h2⟩:=EG hP i x e;obtain⟨f,fd,st,ps,N,a1,a2,a3,a4,a5,a6,a7,_⟩:=pJ (IE h2 hx);exact⟨f,fd,ps,fn,a1,OQ (F:=λi=>Fs[i]?) h1 a2 a3 a4 a5 λcdv A outer s H E hr=>wB (pI (Pb KX G a3 (λj y hj hy=>ih k (aZ _) j y hj hy) cdv A outer s H E hr) n) a7,a2.kp,a6.1,h1,a5,a6.2.1⟩
noncomputable def BY:Res W->Bool|.ok (.bl true) _=>true|_=>false
noncomputable def says(K:aH)(T:List Str)(d n k i:Nat)(ns:List Int):Bool:=match jz K T d n with|some Fs=>BY (run (λi=>Fs[i]?) k i [.fz (ns.map .int)] ⟨0,0,[]⟩)|none=>false
theorem Yq{r:Res W}(h:BY r):∃h',r=.ok (.bl true) h':=by
 cases r with
 |no=>cases h
 |ex _ _=>cases h
 |ok w h'=>cases w<;>first|(rename_i b;cases b<;>first|exact⟨h',rfl⟩|cases h)|cases h
theorem Pc{K:aH}{m:Nat->ah}{n:Nat}{H:Hp}:∀(ns:List Int),aF K m n H (ns.map V.int) (ns.map W.int)|[]=>.nil|i::r=>.cons (.int i) (Pc r)
theorem Pe{K:aH}{T:List Str}{d n k i:Nat}{ns:List Int}(h:says K T d n k i ns):∃Fs h',jz K T d n=aB Fs/\run (λi=>Fs[i]?) k i [.fz (ns.map .int)] ⟨0,0,[]⟩=.ok (.bl true) h':=by unfold says at h;split at h;rename_i Fs hF;obtain⟨h',e⟩:=Yq h;exact⟨Fs,h',hF,e⟩;cases h
theorem Yr{K:aH}{T:List Str}{d n k i:Nat}{ns:List Int}{Fs:List Fn}(hP:jz K T d n=aB Fs)(h:BY (run (λi=>Fs[i]?) k i [.fz (ns.map .int)] ⟨0,0,[]⟩)):says K T d n k i ns=true:=by unfold says;rw[hP];exact h
noncomputable def pK(K:aH)(x:Str):Bool:=match fnAt K x with
 |some (_,_,fd)=>(match wg fd.params with
  |some [a]=>a.arg==("_law_script" : Str) && !(gz K fd.defaults)
  |_=>false)
 |none=>false
theorem Ys{l:PySem.W.OpenLaw}{q:ai}{loose:List Str}{XP:(Str->Option aa)->az->Prop}{YP:aj->az->Prop}{dr:DefRec}{K:Params->aH}(T:List Str)(d n k i:Nat)(hn:l.most=aB 63)(hdf:dr.params.defaults=[])(hr:dw k callerA)
 (hY:∀(w:aj)(h:az),YP w h->(K w.params).In h) (hT:T[i]?=aB dr.name) (hne:dr.name≠"") (hS:∀(w:aj)(ns:List Int),ns.length<=63->says (K w.params) T d n k i ns) (hL:∀w:aj,pK (K w.params) dr.name) :
 PySem.W.WalkO q loose XP YP l.row.toRowW dr [] (λf vs=>PySem.call f vs):=by
 have any:∀w:aj,∃Fs,jz (K w.params) T d n=aB Fs:=λw=>let⟨Fs,_,h,_⟩:=Pe (hS w [] (j8 _));⟨Fs,h⟩;refine L2.TN (n:=63) (k:=k) (x:="_law_script") (CX:=λ_=>l6) (sp:=λw=>oY (K w.params) 1 (run (λj=>(Classical.choose (any w))[j]?) k i)) hn (by decide) hdf hr hY ?_ ?_ λ_ _ _ _ _ z=>z;intro w mg fa h KX G hmg;have hP:=Classical.choose_spec (any w);obtain⟨fn',h1,h2⟩:=EG hP i _ hT;obtain⟨f',fd',st,ps',N,a1,a2,a3,a4,a5,a6,a7,o',Yt,args,a8,a9,IF⟩:=pJ (IE h2 hne);have hps:ps'=[("_law_script" : Str)]:=by
  have hl:=hL w;unfold pK at hl;rw[a8]at hl;simp only[a9]at hl;cases args with
  |nil=>cases hl
  |cons z zs=>
   cases zs with
   |nil=>
    rw[bJ]at hl;have hl:z.arg = "_law_script":=by simpa using hl.1
    rw[IF,fm,hl];rfl
   |cons _ _=>cases hl
 have hnd:gW (K w.params) dr.name=false:=by have hl:=hL w;unfold pK at hl;rw[a8]at hl;unfold gW;rw[a8];simp only[a9]at hl;split at hl;rw[bJ]at hl;simpa using hl.2;cases hl
 have e:=PySem.W.mg_of KX G (OS a1);rw[hmg]at e;cases e;subst hps;refine⟨fd',λs u=>.of_eq (a6.2.2 hnd [u] rfl),λbase KB GB=>?_⟩;cases k with|zero=>exact OR|succ k=>exact OQ (F:=λj=>(Classical.choose (any w))[j]?) h1 a2 a3 a4 a5 λcdv A outer s H E hr=>wB (pI (Pb KB GB a3 (λj y hj hy=>Yp hP KB GB k k (aZ _) j y hj hy) cdv A outer s H E hr) n) a7
 intro w H a ns hl hO hQ;obtain⟨Fs,h',e1,e2⟩:=Pe (hS w ns hl);have hP:=Classical.choose_spec (any w);rw[hP]at e1;cases e1;refine⟨rfl,⟨0,0,[]⟩,λ_=>0,_,_,h',⟨λi hi=>absurd hi (xY _),λi j hi=>absurd hi (xY _),rfl⟩,.cons (.fz ?_ (Pc ns)) .nil,e2,λv H' m' _ _ q=>by cases q;rfl⟩;rcases hQ with(q|⟨o,q⟩)|q
 rcases hO a with z|⟨o,xs,z⟩;rw[z]at q;cases q;rw[z]at q;cases q;exact .inl ⟨o,q⟩;exact .inr q
section
open E renaming var->v,cons->c,cst->k,nil->n,call->f,idx->x,cmp->p,bi->b,op->o,not->z,and->a,or->r,k9->t,oS->i,slc->l,lst->m,lc->u,neg->y,mt->w
open S renaming seq->q,skip->s,ret->e,set->d,yu->g,expr->h,put->j
noncomputable def wD:Fn:=⟨1,1,(q (e (a (i .int (v 0)) (z (i .bool (v 0))))) s)⟩
noncomputable def BZ:Fn:=⟨3,3,(q (e (a (f 0 (c (v 0) n)) (.qh .le .le (v 1) (v 0) (v 2)))) s)⟩
noncomputable def EH:Fn:=⟨2,2,(q (.ite (p .eq (b .len (c (v 0) n)) (k (.int 0))) (q (e (o .add (o .mul (k (.int 7)) (v 1)) (k (.int 3)))) s) s) (q (e (b .abs (c (x (v 0) (o .mod (v 1) (b .len (c (v 0) n)))) n))) s))⟩
noncomputable def ux:E:=(p .ge (b .abs (c (v 0) n)) (o .pow (k (.int 10)) (k (.int 18))))
noncomputable def uy:E:=(b .abs (c (v 0) n))
noncomputable def B0:Fn:=⟨1,1,(q (e (m (c (v 0) (c (u .seq (v 0) (.one 0) 1 [] ux uy) (c (k (.int 0)) (c (k (.int 0)) n)))))) s)⟩
noncomputable def IG:Fn:=⟨3,4,(q (d 3 (o .mod (o .pow (o .add (o .mul (o .add (o .mod (f 2 (c (v 0) (c (v 1) n))) (k (.int 1000003))) (k (.int 5))) (o .add (v 1) (k (.int 2)))) (o .mul (k (.int 7919)) (v 1))) (k (.int 5))) (k (.int 2147483647)))) (q (e (o .mod (o .fdiv (v 3) (k (.int 13))) (v 2))) s))⟩
noncomputable def B3:E:=(p .lt (x (v 0) (k (.int 2))) (b .len (c (x (v 0) (k (.int 1))) n)))
noncomputable def wF:S:=(q (d 2 (x (x (v 0) (k (.int 1))) (x (v 0) (k (.int 2))))) (q (.ite (p .gt (v 2) (k (.int 0))) (q (j (x (v 0) (k (.int 1))) (x (v 0) (k (.int 2))) (o .fdiv (v 2) (v 1))) (q (e (o .mod (v 2) (v 1))) s)) s) (q (j (v 0) (k (.int 2)) (o .add (x (v 0) (k (.int 2))) (k (.int 1)))) s)))
noncomputable def rW:Fn:=⟨2,3,(q (.yw B3 wF) (q (j (v 0) (k (.int 3)) (o .add (x (v 0) (k (.int 3))) (k (.int 1)))) (q (e (f 4 (c (x (v 0) (k (.int 0))) (c (x (v 0) (k (.int 3))) (c (v 1) n))))) s)))⟩
noncomputable def rY:Fn:=⟨3,3,(q (e (a (i .tuple (v 0)) (.qh .le .le (v 1) (b .len (c (v 0) n)) (v 2)))) s)⟩
noncomputable def EJ:S:=(q (.ite (z (t (f 1 (c (v 5) (c (v 3) (c (v 4) n)))))) (q (e (k (.bl false))) s) s) s)
noncomputable def B4:Fn:=⟨5,6,(q (.ite (z (t (f 6 (c (v 0) (c (v 1) (c (v 2) n)))))) (q (e (k (.bl false))) s) s) (q (.«for» .seq (v 0) (.one 5) EJ) (q (e (k (.bl true))) s)))⟩
noncomputable def EK:S:=(q (.ite (z (t (f 11 (c (v 3) (c (v 2) n))))) (q (e (k (.bl false))) s) s) s)
noncomputable def II:Fn:=⟨3,4,(q (.ite (z (t (f 6 (c (v 0) (c (v 1) (c (v 1) n)))))) (q (e (k (.bl false))) s) s) (q (.«for» .seq (v 0) (.one 3) EK) (q (e (k (.bl true))) s)))⟩
noncomputable def EL:S:=(q (.ite (z (t (f 6 (c (v 2) (c (v 1) (c (v 1) n)))))) (q (e (k (.bl false))) s) s) s)
noncomputable def IJ:Fn:=⟨2,3,(q (.ite (z (t (f 6 (c (v 0) (c (k (.int 0)) (c (k (.int 60)) n)))))) (q (e (k (.bl false))) s) s) (q (.«for» .seq (v 0) (.one 2) EL) (q (e (k (.bl true))) s)))⟩
noncomputable def wG:Fn:=⟨1,6,(q (.ite (z (t (f 6 (c (v 0) (c (k (.int 5)) (c (k (.int 5)) n)))))) (q (e (k (.bl false))) s) s) (q (g [1,2,3,4,5] (v 0)) (q (.ite (r (z (t (f 1 (c (v 1) (c (k (.int 1)) (c (k (.int 40)) n)))))) (z (t (f 1 (c (v 2) (c (k (.int 0)) (c (k (.int 8)) n))))))) (q (e (k (.bl false))) s) s) (q (.ite (z (t (f 7 (c (v 4) (c (k (.int 1)) (c (k (.int 4)) (c (k (.int 0)) (c (o .sub (v 1) (k (.int 1))) n)))))))) (q (e (k (.bl false))) s) s) (q (e (a (f 9 (c (v 3) (c (v 1) n))) (f 8 (c (v 5) (c (v 1) (c (b .len (c (v 4) n)) n)))))) s)))))⟩
noncomputable def rZ:Fn:=⟨2,4,(q (.ite (z (t (f 6 (c (v 0) (c (k (.int 2)) (c (k (.int 2)) n)))))) (q (e (k (.bl false))) s) s) (q (g [2,3] (v 0)) (q (e (a (f 1 (c (v 2) (c (k (.int 0)) (c (k (.int 99)) n)))) (f 12 (c (v 3) (c (v 1) n))))) s)))⟩
noncomputable def wH:Fn:=⟨2,2,(q (e (r (p .AU (v 0) (k .aP)) (f 1 (c (v 0) (c (k (.int 0)) (c (o .sub (v 1) (k (.int 1))) n)))))) s)⟩
noncomputable def se:Fn:=⟨2,4,(q (.ite (z (t (f 6 (c (v 0) (c (k (.int 2)) (c (k (.int 2)) n)))))) (q (e (k (.bl false))) s) s) (q (g [2,3] (v 0)) (q (e (a (f 1 (c (v 2) (c (k (.int 0)) (c (o .sub (v 1) (k (.int 1))) n)))) (f 1 (c (v 3) (c (k (.int 0)) (c (k (.int 1)) n)))))) s)))⟩
noncomputable def EM:S:=(q (.ite (z (t (f 15 (c (v 7) (c (v 6) (c (v 1) (c (v 2) n))))))) (q .no s) s) s)
noncomputable def EN:S:=(q (.«for» .lE (v 5) (.many [6,7]) EM) s)
noncomputable def wI:Fn:=⟨1,8,(q (.ite (z (t (f 10 (c (v 0) n)))) (q .no s) s) (q (g [1,2,3] (l (v 0) false (k .aP) true (k (.int 3)))) (q (.«for» .lE (v 3) (.many [4,5]) EN) s)))⟩
noncomputable def wJ:Fn:=⟨4,4,(q (.ite (r (p .eq (v 0) (k (.str (bN "x")))) (t (f 13 (c (v 0) (c (v 3) n))))) (q (e (.qh .lt .lt (k (.int 0)) (v 1) (o .sub (v 2) (k (.int 1))))) s) s) (q (.ite (p .eq (v 0) (k (.str (bN "<")))) (q (e (p .gt (v 1) (k (.int 0)))) s) s) (q (.ite (p .eq (v 0) (k (.str (bN ">")))) (q (e (p .lt (v 1) (o .sub (v 2) (k (.int 1))))) s) s) (q (e (r (p .eq (v 0) (k (.str (bN ".")))) (p .eq (v 0) (k (.str (bN "s")))))) s))))⟩
noncomputable def uz:E:=(p .lt (v 3) (v 0))
noncomputable def EO:S:=(q (.aug 2 .add (k (.int 1))) (q (.aug 3 .mul (k (.int 2))) s))
noncomputable def wK:Fn:=⟨2,4,(q (.ite (r (z (t (f 1 (c (v 0) (c (k (.int 1)) (c (k (.int 1000000000)) n)))))) (z (t (f 1 (c (v 1) (c (k (.int 1)) (c (k (.int 4)) n))))))) (q .no s) s) (q (d 2 (k (.int 0))) (q (d 3 (v 1)) (q (.yw uz EO) (q (e (v 2)) s)))))⟩
noncomputable def ER:E:=(w .get (v 1) (c (v 0) (c (k (.str (bN "."))) n)))
noncomputable def sf:Fn:=⟨2,2,(q (e (b .tuple (c (u .bR (c (v 0) n) (.one 0) 1 [1] (k (.bl true)) ER) n))) s)⟩
noncomputable def wL:Fn:=⟨2,2,(q (e (m (c (f 33 (c (v 0) (c (v 1) n))) (c (f 33 (c (v 0) (c (.dc .keys (b .bC (c (v 1) n)) (.one 0) 1 [] (k (.bl true)) (o .add (v 0) (k (.int 1))) (k (.str (bN "<")))) n))) n)))) s)⟩
noncomputable def IK:S:=(q (h (w .append (v 2) (c (o .mod (v 0) (k (.int 2))) n))) (q (.aug 0 .fdiv (k (.int 2))) s))
noncomputable def sj:Fn:=⟨2,4,(q (d 2 (m n)) (q (.«for» .bR (c (v 1) n) (.one 3) IK) (q (e (b .tuple (c (v 2) n))) s)))⟩
noncomputable def ES:E:=(b .max (c (o .sub (v 1) (v 0)) (c (o .sub (v 2) (v 1)) n)))
noncomputable def IL:S:=(q (d 5 (.dc .seq (v 2) (.many [0,1,2]) 3 [4] (p .gt (o .sub (v 1) (v 3)) (v 0)) (o .sub (v 1) (v 3)) (k (.str (bN "<"))))) (q (h (w .update (v 5) (c (.dc .seq (v 2) (.many [0,1,2]) 3 [4] (p .lt (o .add (v 1) (v 3)) (v 2)) (o .add (v 1) (v 3)) (k (.str (bN ">")))) n))) (q (h (w .append (v 3) (c (f 33 (c (v 0) (c (v 5) n))) n))) s)))
noncomputable def wM:Fn:=⟨3,6,(q (d 3 (m (c (f 33 (c (v 0) (c (.dc .seq (v 2) (.many [0,1,2]) 3 [1] (k (.bl true)) (v 1) (.tup (c (v 3) (c (k (.int 0)) n)))) n))) n))) (q (.«for» .gQ (c (k (.int 1)) (c (b .max (c (u .seq (v 2) (.many [0,1,2]) 3 [] (k (.bl true)) ES) n)) n)) (.one 4) IL) (q (e (v 3)) s)))⟩
noncomputable def Pf:E:=(.tup (c (v 0) (c (o .fdiv (o .add (v 0) (v 1)) (k (.int 2))) (c (v 1) n))))
noncomputable def wN:Fn:=⟨1,1,(q (e (u .zip (c (b .st2 (c (v 0) (c (k .aP) (c (k (.int 2)) n)))) (c (b .st2 (c (v 0) (c (k (.int 1)) (c (k (.int 2)) n)))) n)) (.many [0,1]) 2 [] (k (.bl true)) Pf)) s)⟩
noncomputable def Pg:E:=(f 71 (c (v 0) (c (v 1) (c (v 2) n))))
noncomputable def sr:Fn:=⟨1,3,(q (.ite (r (z (t (f 6 (c (v 0) (c (k (.int 1)) (c (k (.int 16)) n)))))) (z (t (f 6 (c (x (v 0) (k (.int 0))) (c (k (.int 1)) (c (k (.int 4)) n))))))) (q (e (k (.bl false))) s) s) (q (d 1 (b .len (c (v 0) n))) (q (d 2 (b .len (c (x (v 0) (k (.int 0))) n))) (q (e (a (p .le (o .mul (v 1) (v 2)) (k (.int 16))) (b .all (c (u .seq (v 0) (.one 0) 1 [2,1] (k (.bl true)) Pg) n)))) s))))⟩
noncomputable def su:Fn:=⟨2,4,(q (.ite (z (t (f 6 (c (v 0) (c (k (.int 2)) (c (k (.int 2)) n)))))) (q (e (k (.bl false))) s) s) (q (g [2,3] (v 0)) (q (e (a (f 1 (c (v 2) (c (k (.int 0)) (c (k (.int 99)) n)))) (f 1 (c (v 3) (c (k (.int 0)) (c (o .sub (v 1) (k (.int 1))) n)))))) s)))⟩
noncomputable def Ph:E:=(f 70 (c (v 0) (c (v 1) n)))
noncomputable def sy:Fn:=⟨3,3,(q (e (a (f 6 (c (v 0) (c (v 1) (c (v 1) n)))) (b .all (c (u .seq (v 0) (.one 0) 1 [2] (k (.bl true)) Ph) n)))) s)⟩
noncomputable def Pj:E:=(v 1)
noncomputable def wO:Fn:=⟨2,2,(q (e (o .add (u .seq (v 1) (.many [0,1,2]) 3 [] (k (.bl true)) Pj) (l (v 0) true (o .mul (k (.int 2)) (b .len (c (v 1) n))) false (k .aP)))) s)⟩
noncomputable def Pk:E:=(o .add (o .mul (k (.int 2)) (o .add (o .mul (v 1) (v 2)) (v 0))) (k (.int 1)))
noncomputable def IM:E:=(u .bR (c (v 1) n) (.one 0) 1 [0,1] (k (.bl true)) Pk)
noncomputable def IP:E:=(f 68 (c (v 0) n))
noncomputable def wQ:E:=(v 0)
noncomputable def yI:E:=(v 1)
noncomputable def IQ:E:=(f 72 (c (v 0) (c (v 1) n)))
noncomputable def B5:S:=(q (d 7 (u .seq (v 4) (.one 0) 1 [] (k (.bl true)) IP)) (q (d 5 (o .add (f 67 (c (v 3) (c (v 6) (c (.yt .seq (v 7) (.one 0) 2 [] (k (.bl true)) .seq wQ (.one 1) (k (.bl true)) yI) n)))) (v 5))) (q (d 4 (u .zip (c (v 4) (c (v 7) n)) (.many [0,1]) 2 [] (k (.bl true)) IQ)) s)))
noncomputable def Pn:E:=(x (v 0) (k (.int 0)))
noncomputable def sA:Fn:=⟨2,9,(q (d 2 (f 32 (c (v 0) (c (k (.int 1)) n)))) (q (d 3 (o .add (o .mul (o .mul (k (.int 2)) (v 0)) (v 1)) (k (.int 1)))) (q (d 4 (u .bR (c (v 1) n) (.one 0) 1 [0] (k (.bl true)) IM)) (q (d 5 (m n)) (q (.«for» .bR (c (v 2) n) (.one 6) B5) (q (d 8 (b .tuple (c (u .seq (v 4) (.one 0) 1 [] (k (.bl true)) Pn) n))) (q (e (.tup (c (v 3) (c (v 2) (c (b .tuple (c (v 5) n)) (c (v 8) (c (o .mul (.tup (c (k (.tup [(.int 0),(.int 0)])) n)) (v 3)) n))))))) s)))))))⟩
noncomputable def ET:E:=(p .le (o .mul (v 1) (v 0)) (k (.int 16)))
noncomputable def IS:E:=(.tup (c (v 1) (c (v 0) n)))
noncomputable def EU:S:=(q (d 1 (o .add (v 1) (u .gQ (c (k (.int 1)) (c (k (.int 5)) n)) (.one 0) 1 [2] ET IS))) s)
noncomputable def IT:E:=(.tup (c (f 5 (c (v 1) (c (v 2) n))) (c (f 5 (c (v 1) (c (v 3) n))) n)))
noncomputable def IU:S:=(q (h (w .append (v 5) (c (b .tuple (c (u .bR (c (v 3) n) (.one 0) 1 [0,4,2] (k (.bl true)) IT) n)) n))) s)
noncomputable def mz:Fn:=⟨1,7,(q (d 1 (m n)) (q (.«for» .gQ (c (k (.int 1)) (c (k (.int 17)) n)) (.one 2) EU) (q (g [2,3] (x (v 1) (f 5 (c (v 0) (c (b .len (c (v 1) n)) n))))) (q (d 4 (x (m (c (k (.int 2)) (c (k (.int 3)) (c (k (.int 100)) n)))) (f 5 (c (v 0) (c (k (.int 3)) n))))) (q (d 5 (m n)) (q (.«for» .bR (c (v 2) n) (.one 6) IU) (q (e (b .tuple (c (v 5) n))) s)))))))⟩
noncomputable def eN:Fn:=⟨4,7,(q (.ite (t (i .tuple (v 0))) (q (g [4,5] (v 0)) (q (d 6 (x (v 2) (v 4))) (q (.ite (p .ne (v 4) (v 3)) (q (j (v 2) (v 4) (o .sub (k (.int 1)) (v 6))) s) s) (q (e (.ite (p .eq (v 6) (v 5)) (k (.int (-1))) (k (.int 1)))) s)))) s) (q (.ite (p .eq (v 0) (k (.str (bN "s")))) (q (e (k .aP)) s) s) (q (.ite (p .eq (v 0) (k (.str (bN "x")))) (q (e (v 1)) s) s) (q (.ite (p .eq (v 0) (k (.str (bN ".")))) (q (e (k (.int 0))) s) s) (q (e (.ite (p .eq (v 0) (k (.str (bN "<")))) (k (.int (-1))) (k (.int 1)))) s)))))⟩
noncomputable def B6:S:=(q (d 10 (x (v 9) (v 4))) (q (d 8 (f 173 (c (v 10) (c (v 8) (c (v 7) (c (v 3) n)))))) (q (.ite (p .AU (v 8) (k .aP)) (q .brk s) s) (q (.ite (a (t (i .tuple (v 10))) (p .ne (x (v 10) (k (.int 0))) (v 3))) (q (h (w .append (v 6) (c (x (v 10) (k (.int 0))) n))) s) s) (q (.aug 4 .add (v 8)) (q (h (w .append (v 5) (c (v 4) n))) s))))))
noncomputable def mC:Fn:=⟨4,11,(q (d 4 (x (x (v 0) (k (.int 3))) (v 2))) (q (d 5 (m (c (v 4) n))) (q (d 6 (m n)) (q (d 7 (b .list (c (v 1) n))) (q (d 8 (k (.int 0))) (q (.«for» .seq (x (v 0) (k (.int 2))) (.one 9) B6) (q (e (.tup (c (b .tuple (c (v 5) n)) (c (b .tuple (c (v 6) n)) (c (b .tuple (c (v 7) n)) n))))) s)))))))⟩
noncomputable def IV:E:=(f 41 (c (v 0) (c (v 1) n)))
noncomputable def IW:E:=(k (.tup [(.int 0),(.int 0)]))
noncomputable def EV:E:=(b .HB n)
noncomputable def EW:S:=(q (.ite (p .ne (v 19) (x (x (v 6) (v 15)) (v 9))) (q (j (x (v 10) (v 9)) (v 7) (.tup (c (v 9) (c (o .sub (k (.int 1)) (v 19)) n)))) s) s) s)
noncomputable def EX:S:=(q (g [16,17,18] (f 174 (c (v 1) (c (v 11) (c (v 13) (c (k .aP) n)))))) (q (d 7 (x (v 16) (y (k (.int 1))))) (q (j (v 8) (v 7) (.tup (c (v 14) (c (k (.int 0)) n)))) (q (.«for» .lE (v 18) (.many [9,19]) EW) s))))
noncomputable def B7:S:=(q (.«for» .lE (v 12) (.AV 13 [14,15]) EX) s)
noncomputable def EY:S:=(q (.aug 4 .add (b .tuple (c (f 36 (c (v 2) (c (v 20) n))) n))) s)
noncomputable def mD:Fn:=⟨1,21,(q (.ite (z (t (f 69 (c (v 0) n)))) (q .no s) s) (q (d 1 (f 77 (c (b .len (c (v 0) n)) (c (b .len (c (x (v 0) (k (.int 0))) n)) n)))) (q (g [2,3,4,5] (l (v 1) false (k .aP) true (k (.int 4)))) (q (d 6 (b .tuple (c (u .bR (c (b .len (c (v 0) n)) n) (.one 0) 1 [3] (k (.bl true)) IV) n))) (q (d 8 (u .bR (c (v 2) n) (.one 0) 1 [] (k (.bl true)) IW)) (q (d 10 (u .bR (c (v 3) n) (.one 0) 1 [] (k (.bl true)) EV)) (q (.«for» .zip (c (v 6) (c (v 0) n)) (.many [11,12]) B7) (q (.«for» .seq (v 10) (.one 20) EY) (q (e (.tup (c (.tup (c (v 2) (c (v 3) (c (v 4) (c (v 5) (c (b .tuple (c (v 8) n)) n)))))) (c (v 6) n)))) s)))))))))⟩
noncomputable def kN:Fn:=⟨3,3,(q (e (a (i .int (v 0)) (a (z (i .bool (v 0))) (.qh .le .le (v 1) (v 0) (v 2))))) s)⟩
noncomputable def EZ:E:=(p .lt (v 2) (v 0))
noncomputable def E1:S:=(q (d 2 (o .mul (k (.int 2)) (v 2))) (q (d 1 (o .add (v 1) (k (.int 1)))) s))
noncomputable def jA:Fn:=⟨1,3,(q (d 1 (k (.int 0))) (q (d 2 (k (.int 1))) (q (.yw EZ E1) (q (e (v 1)) s))))⟩
noncomputable def iV:Fn:=⟨4,4,(q (.ite (t (i .tuple (v 0))) (q (.ite (r (p .ne (b .len (c (v 0) n)) (k (.int 2))) (r (z (t (f 102 (c (x (v 0) (k (.int 0))) (c (k (.int 0)) (c (o .sub (v 3) (k (.int 1))) n)))))) (z (t (f 102 (c (x (v 0) (k (.int 1))) (c (k (.int 0)) (c (k (.int 1)) n)))))))) (q (e (k (.bl false))) s) s) s) (q (.ite (r (z (t (i .str (v 0)))) (p .Ek (v 0) (.tup (c (k (.str (bN "."))) (c (k (.str (bN "<"))) (c (k (.str (bN ">"))) (c (k (.str (bN "x"))) (c (k (.str (bN "s"))) n)))))))) (q (e (k (.bl false))) s) s) s)) (q (.ite (r (p .eq (v 0) (k (.str (bN ".")))) (p .eq (v 0) (k (.str (bN "s"))))) (q (e (k (.bl true))) s) s) (q (e (a (r (p .gt (v 1) (k (.int 0))) (p .eq (v 0) (k (.str (bN ">"))))) (r (p .lt (v 1) (o .sub (v 2) (k (.int 1)))) (p .eq (v 0) (k (.str (bN "<"))))))) s)))⟩
noncomputable def Po:E:=(f 155 (c (x (v 2) (v 0)) (c (v 0) (c (v 3) (c (v 1) n)))))
noncomputable def E2:S:=(q (.ite (r (z (t (i .tuple (v 6)))) (p .ne (b .len (c (v 6) n)) (v 1))) (q (e (k (.bl false))) s) s) (q (.ite (z (t (b .all (c (u .bR (c (v 1) n) (.one 0) 1 [2,6,1] (k (.bl true)) Po) n)))) (q (e (k (.bl false))) s) s) s))
noncomputable def E3:S:=(q (.ite (r (z (t (i .tuple (v 7)))) (r (p .ne (b .len (c (v 7) n)) (k (.int 2))) (z (t (f 102 (c (x (v 7) (k (.int 0))) (c (k (.int 0)) (c (k (.int 99)) n)))))))) (q (e (k (.bl false))) s) s) (q (.ite (a (p .oR (x (v 7) (k (.int 1))) (k .aP)) (z (t (f 102 (c (x (v 7) (k (.int 1))) (c (k (.int 0)) (c (o .sub (b .len (c (v 4) n)) (k (.int 1))) n))))))) (q (e (k (.bl false))) s) s) s))
noncomputable def Pp:E:=(f 102 (c (v 0) (c (k (.int 0)) (c (o .sub (v 1) (k (.int 1))) n))))
noncomputable def kO:Fn:=⟨1,8,(q (.ite (r (z (t (i .tuple (v 0)))) (p .ne (b .len (c (v 0) n)) (k (.int 5)))) (q (e (k (.bl false))) s) s) (q (g [1,2,3,4,5] (v 0)) (q (.ite (r (z (t (f 102 (c (v 1) (c (k (.int 1)) (c (k (.int 40)) n)))))) (z (t (f 102 (c (v 2) (c (k (.int 0)) (c (k (.int 8)) n))))))) (q (e (k (.bl false))) s) s) (q (.ite (r (z (t (i .tuple (v 3)))) (r (p .gt (b .len (c (v 3) n)) (k (.int 60))) (r (z (t (i .tuple (v 5)))) (p .ne (b .len (c (v 5) n)) (v 1))))) (q (e (k (.bl false))) s) s) (q (.ite (r (z (t (i .tuple (v 4)))) (z (.qh .le .le (k (.int 1)) (b .len (c (v 4) n)) (k (.int 4))))) (q (e (k (.bl false))) s) s) (q (.«for» .seq (v 3) (.one 6) E2) (q (.«for» .seq (v 5) (.one 7) E3) (q (e (b .all (c (u .seq (v 4) (.one 0) 1 [1] (k (.bl true)) Pp) n))) s))))))))⟩
noncomputable def IX:E:=(f 102 (c (v 0) (c (k (.int 0)) (c (k (.int 1)) n))))
noncomputable def IY:S:=(q (.ite (r (z (t (i .tuple (v 3)))) (p .ne (b .len (c (v 3) n)) (v 2))) (q (e (k (.bl false))) s) s) (q (.ite (z (t (b .all (c (u .seq (v 3) (.one 0) 1 [] (k (.bl true)) IX) n)))) (q (e (k (.bl false))) s) s) s))
noncomputable def E4:Fn:=⟨3,4,(q (.ite (r (z (t (i .tuple (v 0)))) (r (p .ne (b .len (c (v 0) n)) (v 1)) (p .ne (b .ki (c (v 0) n)) (v 1)))) (q (e (k (.bl false))) s) s) (q (.«for» .seq (v 0) (.one 3) IY) (q (e (k (.bl true))) s)))⟩
noncomputable def IZ:E:=(f 102 (c (x (v 0) (k (.int 1))) (c (k (.int 0)) (c (k (.int 0)) n))))
noncomputable def E5:Fn:=⟨1,6,(q (d 1 (f 3 (c (v 0) n))) (q (d 2 (f 113 (c (v 1) n))) (q (d 3 (f 187 (c (v 2) n))) (q (.ite (r (z (t (i .tuple (v 3)))) (r (p .ne (b .len (c (v 3) n)) (k (.int 2))) (z (t (f 152 (c (x (v 3) (k (.int 0))) n)))))) (q (e (k (.bl false))) s) s) (q (g [4,5] (v 3)) (q (.ite (r (p .ne (x (v 4) (k (.int 1))) (f 149 (c (b .len (c (v 2) n)) n))) (p .ne (b .len (c (x (v 4) (k (.int 3))) n)) (b .len (c (x (v 2) (k (.int 0))) n)))) (q (e (k (.bl false))) s) s) (q (.ite (r (z (t (b .all (c (u .seq (x (v 4) (k (.int 4))) (.one 0) 1 [] (k (.bl true)) IZ) n)))) (p .oR (f 14 (c (v 4) n)) (k .aP))) (q (e (k (.bl false))) s) s) (q (e (a (f 700 (c (v 5) (c (b .len (c (v 2) n)) (c (x (v 4) (k (.int 1))) n)))) (p .eq (f 187 (c (v 2) n)) (v 3)))) s))))))))⟩
noncomputable def gY:Fn:=⟨0,0,.no⟩
end
noncomputable def fin(h:VH)(r:Res Fl):Res W:=r.bind λfl h'=>match fl with|.nx _=>leave h .aP h'|.rt w=>leave h w h'|_=>.no
theorem dW{F:Nat->Option Fn}{k f:Nat}{fn:Fn}{ws:List W}{h:VH}(hF:F f=aB fn)(hl:ws.length=fn.ps) :
 run F (k+1) f ws h=fin h (exs (run F k) fn.body (ws.map aB++bI (fn.n-fn.ps) aC) ⟨h.n,h.n,h.os⟩):=by
 simp only[run,hF];rw[if_pos (by rw[hl];exact Nat.beq_refl _)];rfl
theorem Pq{h:VH}{w:W}{h':VH}(h1:h.n<=h'.lo)(h2:W.lt h.n w):leave h w h'=.ok w h:=by unfold leave;rw[if_pos (by rw[bJ];exact⟨qS.mpr h1,h2⟩)]
theorem dF{h h':VH}{w:W}(h1:h.n<=h'.lo)(h2:W.lt h.n w):fin h (.ok (.rt w) h')=.ok w h:=Pq h1 h2
theorem Yu{h h':VH}{ρ:En}(h1:h.n<=h'.lo):fin h (.ok (.nx ρ) h')=.ok .aP h:=Pq h1 (by simp only[W.lt])
@[simp] theorem aD {α β:Type} {a:α} {h:VH} {f:α->VH->Res β}:(Res.ok a h).bind f=f a h:=rfl
@[simp] theorem I0 {α β:Type} {f:α->VH->Res β}:(Res.no:Res α).bind f=.no:=rfl
@[simp] theorem cA {α:Type} {a:α} {h:VH}:Res.of (aB a) h=.ok a h:=rfl
@[simp] theorem Ja {α:Type} {h:VH}:Res.of (aC:Option α) h=.no:=rfl
@[simp] theorem Jb {n:Nat}:W.lt n .aP=true:=by simp only[W.lt]
@[simp] theorem Pr {n:Nat} {b:Bool}:W.lt n (.bl b)=true:=by simp only[W.lt]
@[simp] theorem lt_int {n:Nat} {b:Int}:W.lt n (.int b)=true:=by simp only[W.lt]
@[simp] theorem lt_str {n:Nat} {b:Str}:W.lt n (.str b)=true:=by simp only[W.lt]
@[simp] theorem lO {n:Nat} {b:List W}:W.lt n (.tup b)=W.mh n b:=by simp only[W.lt]
@[simp] theorem E6 {n:Nat}:W.mh n []=true:=by simp only[W.mh]
@[simp] theorem iX {n:Nat} {b:W} {r:List W}:W.mh n (b::r)=(W.lt n b&&W.mh n r):=by simp only[W.mh]
@[simp] theorem wR:((Ty.int==Ty.int):Bool)=true:=rfl
@[simp] theorem uA:((Ty.int==Ty.bool):Bool)=false:=rfl
@[simp] theorem sC:((Ty.int==Ty.tuple):Bool)=false:=rfl
@[simp] theorem uB:((Ty.int==Ty.list):Bool)=false:=rfl
@[simp] theorem wU:((Ty.int==Ty.str):Bool)=false:=rfl
@[simp] theorem uC:((Ty.int==Ty.dict):Bool)=false:=rfl
@[simp] theorem uD:((Ty.bool==Ty.int):Bool)=false:=rfl
@[simp] theorem sD:((Ty.bool==Ty.bool):Bool)=true:=rfl
@[simp] theorem qk:((Ty.bool==Ty.tuple):Bool)=false:=rfl
@[simp] theorem sE:((Ty.bool==Ty.list):Bool)=false:=rfl
@[simp] theorem uE:((Ty.bool==Ty.str):Bool)=false:=rfl
@[simp] theorem sF:((Ty.bool==Ty.dict):Bool)=false:=rfl
@[simp] theorem sG:((Ty.tuple==Ty.int):Bool)=false:=rfl
@[simp] theorem ql:((Ty.tuple==Ty.bool):Bool)=false:=rfl
@[simp] theorem eO:((Ty.tuple==Ty.tuple):Bool)=true:=rfl
@[simp] theorem qm:((Ty.tuple==Ty.list):Bool)=false:=rfl
@[simp] theorem sH:((Ty.tuple==Ty.str):Bool)=false:=rfl
@[simp] theorem qo:((Ty.tuple==Ty.dict):Bool)=false:=rfl
@[simp] theorem uF:((Ty.list==Ty.int):Bool)=false:=rfl
@[simp] theorem sI:((Ty.list==Ty.bool):Bool)=false:=rfl
@[simp] theorem qp:((Ty.list==Ty.tuple):Bool)=false:=rfl
@[simp] theorem sJ:((Ty.list==Ty.list):Bool)=true:=rfl
@[simp] theorem uG:((Ty.list==Ty.str):Bool)=false:=rfl
@[simp] theorem sL:((Ty.list==Ty.dict):Bool)=false:=rfl
@[simp] theorem wV:((Ty.str==Ty.int):Bool)=false:=rfl
@[simp] theorem uH:((Ty.str==Ty.bool):Bool)=false:=rfl
@[simp] theorem sM:((Ty.str==Ty.tuple):Bool)=false:=rfl
@[simp] theorem uI:((Ty.str==Ty.list):Bool)=false:=rfl
@[simp] theorem wW:((Ty.str==Ty.str):Bool)=true:=rfl
@[simp] theorem uJ:((Ty.str==Ty.dict):Bool)=false:=rfl
@[simp] theorem uK:((Ty.dict==Ty.int):Bool)=false:=rfl
@[simp] theorem sN:((Ty.dict==Ty.bool):Bool)=false:=rfl
@[simp] theorem qq:((Ty.dict==Ty.tuple):Bool)=false:=rfl
@[simp] theorem sO:((Ty.dict==Ty.list):Bool)=false:=rfl
@[simp] theorem uL:((Ty.dict==Ty.str):Bool)=false:=rfl
@[simp] theorem sP:((Ty.dict==Ty.dict):Bool)=true:=rfl
@[simp] theorem E7 {t:Ty} {h:VH}:ck t h .aP=aB false:=rfl
@[simp] theorem Jc {t:Ty} {h:VH} {b:Bool}:ck t h (.bl b)=aB (t == .int||t == .bool):=rfl
@[simp] theorem E8 {t:Ty} {h:VH} {i:Int}:ck t h (.int i)=aB (t == .int):=rfl
@[simp] theorem E9 {t:Ty} {h:VH} {x:Str}:ck t h (.str x)=aB (t == .str):=rfl
@[simp] theorem mE {t:Ty} {h:VH} {x:List W}:ck t h (.tup x)=aB (t == .tuple):=rfl
@[simp] theorem cX {h:VH} {l i:Nat}:VH.get ⟨h.n,l,h.os⟩ i=h.get i:=by unfold VH.get;rfl
@[simp] theorem pL {h:VH} {b:Bool}:nu h (.bl b)=aB b:=rfl
noncomputable def forL(tg:W->VH->En->Option En)(b:FS):List W->En->VH->Res Fl
 |[],ρ,h=>.ok (.nx ρ) h
 |w::r,ρ,h=>match tg w h ρ with
  |none=>.no
  |some ρ=>(b ρ h).bind λfl h=>match fl with
   |.nx ρ=>forL tg b r ρ h
   |.ct ρ=>forL tg b r ρ h
   |.bk ρ=>.ok (.nx ρ) h
   |.rt w=>.ok (.rt w) h
noncomputable def uM(tg:W->VH->En->Option En)(c e:FE):List W->En->VH->Res (List W)
 |[],_,h=>.ok [] h
 |w::r,ρ,h=>match tg w h ρ with
  |none=>.no
  |some ρ=>(c ρ h).bind λb h=>match b with
   |.bl true=>(e ρ h).bind λy h=>(uM tg c e r ρ h).bind λys h=>.ok (y::ys) h
   |.bl false=>uM tg c e r ρ h
   |_=>.no
theorem bind_assoc{α β γ:Type}{r:Res α}{f:α->VH->Res β}{g:β->VH->Res γ}:(r.bind f).bind g=r.bind λa h=>(f a h).bind g:=by cases r<;>rfl
theorem Jd{nx:Nat->VH->Option (Option W)}{tg:W->VH->En->Option En}{b:FS}{ws:List W}(hx:∀i h,nx i h=aB ws[i]?):∀(fu i:Nat) (ρ:En) (h:VH),i<=ws.length->ws.length<fu+i->dX nx tg b fu i ρ h=forL tg b (ws.drop i) ρ h
 |0,i,ρ,h,hi,hl=>by lia
 |fu+1,i,ρ,h,hi,hl=>by
  simp only[dX,hx];cases q:ws[i]? with
  |none=>
   rw[zb (ou.mp q)];rfl
  |some w=>
   obtain⟨hi,e⟩:=i7.mp q;rw[yZ hi,e];simp only[forL];cases tg w h ρ with
   |none=>rfl
   |some ρ'=>
    simp only;congr 1;funext fl h1;cases fl<;>simp only[Jd hx fu (i+1) _ _ hi (by lia)]
theorem Je{nx:Nat->VH->Option (Option W)}{tg:W->VH->En->Option En}{c e:FE}{ws:List W}(hx:∀i h,nx i h=aB ws[i]?):∀(fu i:Nat) (ρ:En) (h:VH) (acc:List W),i<=ws.length->ws.length<fu+i->
 gF nx tg c e fu i ρ h acc=(uM tg c e (ws.drop i) ρ h).bind λys h=>.ok (acc.reverse++ys) h
 |0,i,ρ,h,acc,hi,hl=>by lia
 |fu+1,i,ρ,h,acc,hi,hl=>by
  simp only[gF,hx];cases q:ws[i]? with
  |none=>
   rw[zb (ou.mp q)];simp[uM]
  |some w=>
   obtain⟨hi,ee⟩:=i7.mp q;rw[yZ hi,ee];simp only[uM];cases tg w h ρ with
   |none=>rfl
   |some ρ'=>
    simp only[bind_assoc];congr 1;funext bv h1;cases bv<;>try rfl
    rename_i bb;cases bb with
    |true=>
     simp only[bind_assoc];congr 1;funext y h2;rw[Je hx fu (i+1) _ _ _ hi (by lia)];congr 1;funext ys h3;simp
    |false=>simp only[Je hx fu (i+1) _ _ _ hi (by lia)]
theorem B8{ws:List W}{tg:W->VH->En->Option En}{b:FS}{ρ:En}{h:VH}(hl:ws.length<1000000):dX (aW .seq (.tup ws)) tg b fuel 0 ρ h=forL tg b ws ρ h:=by have:=Jd (nx:=aW .seq (.tup ws)) (tg:=tg) (b:=b) (ws:=ws) (λi h=>rfl) fuel 0 ρ h (j8 _) (by simpa[fuel]using hl);simpa using this
noncomputable def cY:Nat->List W->List W|_,[]=>[]|i,w::r=>.tup [.int i,w]::cY (i+1) r
theorem Pu:∀(ws:List W) (i j:Nat),(cY j ws)[i]?=(ws[i]?).map λw=>.tup [.int ((j+i:Nat):Int),w]
 |[],i,j=>by simp[cY]
 |w::r,0,j=>by simp[cY]
 |w::r,i+1,j=>by
  simp only[cY,pY];rw[Pu r i (j+1)];congr 1;funext w;rw[show j+1+i=j+ (i+1) by lia]
theorem Pw:∀(ws:List W) (j:Nat),(cY j ws).length=ws.length|[],_=>rfl|_::r,j=>by simp[cY,Pw r]
theorem Px{ws:List W}{tg:W->VH->En->Option En}{b:FS}{ρ:En}{h:VH}(hl:ws.length<1000000):dX (aW .lE (.tup ws)) tg b fuel 0 ρ h=forL tg b (cY 0 ws) ρ h:=by have:=Jd (nx:=aW .lE (.tup ws)) (tg:=tg) (b:=b) (ws:=cY 0 ws) (λi h=>by rw[Pu];simp[aW,aR]) fuel 0 ρ h (j8 _) (by simpa[fuel,Pw]using hl);simpa using this
noncomputable def isInt:W->Bool|.int _=>true|_=>false
noncomputable def Kn(h:VH)(w:W):Prop:=ck .int h w≠aC
theorem eS{h:VH}{l:Nat}{w:W}:Kn ⟨h.n,l,h.os⟩ w↔Kn h w:=by unfold Kn;cases w<;>simp[ck]
structure CoreA(F:Nat->Option Fn):Prop where
 f0:F 0=aB wD
 f1:F 1=aB BZ
 f6:F 6=aB rY
 f7:F 7=aB B4
section
variable{F:Nat->Option Fn}(C:CoreA F)
include C
theorem Yv{k:Nat}{h:VH}{w:W}(hw:Kn h w):run F (k+1) 0 [w] h=.ok (.bl (isInt w)) h:=by
 rw[dW C.f0 rfl];cases w<;>try(simp[wD,exs,ev,isInt,dF];done)
 exact absurd rfl hw;rename_i i;unfold Kn at hw;simp only[ck]at hw;cases g:h.get i with
 |none=>rw[g]at hw;exact absurd rfl hw
 |some o=>cases o<;>first|(simp[wD,exs,ev,isInt,dF,ck,g];done)|(simp[g]at hw)
noncomputable def within(w:W)(lo hi:Int):Bool:=match w with|.int i=>decide (lo<=i)&&decide (i<=hi)|_=>false
theorem wX{k:Nat}{h:VH}{w:W}{lo hi:Int}(hw:Kn h w):run F (k+2) 1 [w,.int lo,.int hi] h=.ok (.bl (within w lo hi)) h:=by rw[dW C.f1 rfl];have e:=Yv C (k:=k) (h:=⟨h.n,h.n,h.os⟩) (w:=w) (eS.mpr hw);cases w<;>simp[BZ,exs,ev,e,isInt,within,dF,bE,gS];rename_i i;by_cases h1:lo<=i<;>simp[h1,dF]
noncomputable def eT(w:W)(lo hi:Int):Bool:=match w with|.tup ws=>decide (lo<=ws.length)&&decide ((ws.length:Int)<=hi)|_=>false
theorem wY{k:Nat}{h:VH}{w:W}{lo hi:Int}(hw:Kn h w):run F (k+1) 6 [w,.int lo,.int hi] h=.ok (.bl (eT w lo hi)) h:=by
 rw[dW C.f6 rfl];cases w<;>try(simp[rY,exs,ev,eT,dF];done)
 rename_i ws;simp[rY,exs,ev,eT,dF,bE,gS,mj,iB,aR];by_cases h1:lo<=ws.length<;>simp[h1,dF];exact absurd rfl hw;rename_i i;unfold Kn at hw;simp only[ck]at hw;cases g:h.get i with
 |none=>rw[g]at hw;exact absurd rfl hw
 |some o=>cases o<;>first|(simp[rY,exs,ev,eT,dF,ck,g];done)|(simp[g]at hw)
theorem uN{k:Nat}{h:VH}{t a b:W}{lo hi:Int}:∀(ws:List W) (x:Option W),(∀w∈ws,Kn h w)->∃y,forL (bw (.one 5)) (exs (run F (k+2)) EJ) ws [aB t,aB a,aB b,aB (.int lo),aB (.int hi),x] h =
 if ws.all (within · lo hi)then .ok (.nx [aB t,aB a,aB b,aB (.int lo),aB (.int hi),y]) h else .ok (.rt (.bl false)) h
 |[],x,_=>⟨x,by simp[forL]⟩
 |w::r,x,hk=>by
  obtain⟨y,e⟩:=uN (t:=t) (a:=a) (b:=b) (k:=k) (lo:=lo) (hi:=hi) r (aB w) λz hz=>hk z (fE _ hz);refine⟨y,?_⟩;have e1:=wX C (k:=k) (lo:=lo) (hi:=hi) (hk w fT);have eb:exs (run F (k+2)) EJ [aB t,aB a,aB b,aB (.int lo),aB (.int hi),aB w] h=if within w lo hi then .ok (.nx [aB t,aB a,aB b,aB (.int lo),aB (.int hi),aB w]) h else .ok (.rt (.bl false)) h:=by cases q:within w lo hi<;>simp[EJ,exs,ev,e1,q]
  simp only[forL,bw,List.set,eb];cases q:within w lo hi<;>simp[q,e]
noncomputable def wZ(w:W)(a b lo hi:Int):Bool:=match w with|.tup ws=>eT w a b&&ws.all (within · lo hi)|_=>false
theorem Yw{k:Nat}{h:VH}{w:W}{a b lo hi:Int}(hw:Kn h w)(hp:∀ws,w=.tup ws->ws.length<1000000/\∀x∈ws,Kn h x):run F (k+3) 7 [w,.int a,.int b,.int lo,.int hi] h=.ok (.bl (wZ w a b lo hi)) h:=by
 rw[dW C.f7 rfl];have e1:=wY C (k:=k+1) (h:=⟨h.n,h.n,h.os⟩) (w:=w) (lo:=a) (hi:=b) (eS.mpr hw);cases q:eT w a b with
 |false=>
  have:wZ w a b lo hi=false:=by cases w<;>simp[wZ,q]
  simp[B4,exs,ev,e1,q,this,dF]
 |true=>
  cases w<;>try(simp[eT]at q;done)
  rename_i ws;obtain⟨hl,hk⟩:=hp ws rfl;obtain⟨y,e2⟩:=uN C (k:=k) (h:=⟨h.n,h.n,h.os⟩) (t:=.tup ws) (a:=.int a) (b:=.int b) (lo:=lo) (hi:=hi) ws aC λx hx=>eS.mpr (hk x hx);have e3:wZ (.tup ws) a b lo hi=ws.all (within · lo hi):=by simp[wZ,q]
  rw[e3];cases q2:ws.all (within · lo hi)with|true=>simp[B4,exs,ev,e1,q,B8 hl,e2,q2,dF]|false=>simp[B4,exs,ev,e1,q,B8 hl,e2,q2,dF]
end
noncomputable def eY:Nat->W->Bool
 |0,_=>false
 |n+1,w=>match w with
  |.aP=>true
  |.bl _=>true
  |.int _=>true
  |.str x=>PyData.strOk x
  |.tup ws=>ws.all (eY n)
  |_=>false
theorem Py{f:W->Option aA}{p:W->Bool}{n:Nat}(h:∀w,p w=true->∃d,f w=aB d/\d.canLay0=true/\d.depth<=n):∀ws:List W,ws.all p=true->∃ds,aY f ws=aB ds/\PyData.canLayAll0 ds=true/\PyData.depthAll ds<=n
 |[],_=>⟨[],rfl,rfl,j8 _⟩
 |w::r,e=>by
  rw[nU,bJ]at e;obtain⟨d,h1,h2,h3⟩:=h w e.1;obtain⟨ds,h4,h5,h6⟩:=Py h r e.2;refine⟨d::ds,by simp[aY,h1,h4],?_,?_⟩;show(d.canLay0&&PyData.canLayAll0 ds)=true;rw[h2,h5];rfl;show max d.depth (PyData.depthAll ds)<=n;lia
theorem Jf(h:VH):∀(n:Nat) (w:W),eY n w=true->∃d,toD h n w=aB d/\d.canLay0=true/\d.depth<=n
 |0,_,e=>by cases e
 |n+1,w,e=>by
  cases w<;>simp only[eY]at e<;>try(cases e;done)
  exact⟨.none,rfl,rfl,j8 _⟩;exact⟨.bool _,rfl,rfl,j8 _⟩;exact⟨.int _,rfl,rfl,j8 _⟩;exact⟨.str _,rfl,e,j8 _⟩;obtain⟨ds,h1,h2,h3⟩:=Py (Jf h n) _ e;exact⟨.tuple ds,by simp[toD,h1],h2,by show PyData.depthAll ds+1<=n+1;lia⟩
mutual
theorem Pz:∀d:aA,d.canLay0=true->PyData.eqv d d=true
 |.none,_=>rfl
 |.bool b,_=>by simp[PyData.eqv]
 |.int i,_=>by simp[PyData.eqv]
 |.str x,_=>by simp[PyData.eqv]
 |.list xs,h=>by
  simp only[PyData.eqv];exact Jg xs h
 |.tuple xs,h=>by
  simp only[PyData.eqv];exact Jg xs h
 |.dict _,h=>by cases h
theorem Jg:∀ds:List aA,PyData.canLayAll0 ds=true->PyData.eqvAll ds ds=true
 |[],_=>rfl
 |d::ds,h=>by
  have h:(d.canLay0&&PyData.canLayAll0 ds)=true:=h;rw[bJ]at h;simp only[PyData.eqvAll,Pz d h.1,Jg ds h.2,Bool.and_self]
end
theorem Yx{h:VH}{w:W}(p:eY 24 w):dD h w w=aB true:=by
 obtain⟨d,h1,h2,h3⟩:=Jf h 24 w p;have hs:SeqAt.shaped d=true:=by unfold SeqAt.shaped;rw[h2,Bool.true_and,fS];lia
 unfold dD;rw[h1];simp[hs,Pz d h2]
noncomputable def jY(w:W)(x:Str):Bool:=match w with|.str y=>y==x|_=>false
theorem pN{h:VH}{w:W}{x:Str}(p:eY 24 w)(hx:PyData.strOk x):dD h w (.str x)=aB (jY w x):=by
 obtain⟨d,h1,h2,h3⟩:=Jf h 24 w p;have hs:SeqAt.shaped d=true:=by unfold SeqAt.shaped;rw[h2,Bool.true_and,fS];lia
 have hs2:SeqAt.shaped (.str x)=true:=by unfold SeqAt.shaped;show(PyData.strOk x&&_)=true;rw[hx];rfl
 unfold dD;rw[h1];have h4:toD h 24 (.str x)=aB (.str x):=rfl;rw[h4];simp only[hs,hs2,Bool.and_self,bY];cases w<;>simp only[toD]at h1<;>try(cases h1;done)
 cases h1;simp[jY,PyData.eqv];cases h1;simp[jY,PyData.eqv];cases h1;simp[jY,PyData.eqv];cases h1;simp[jY,PyData.eqv];obtain⟨ds,h5,h6⟩:=Option.map_eq_some_iff.mp h1;subst h6;simp[jY,PyData.eqv];simp[eY]at p;simp[eY]at p
theorem Fb{n:Nat}{ws:List W}:eY (n+1) (.tup ws)=ws.all (eY n):=rfl
theorem Jh{h:VH}{n:Nat}{w:W}(p:eY n w):Kn h w:=by
 unfold Kn;cases n with|zero=>cases p|succ n=>cases w<;>simp[eY,ck]at p ⊢
structure pO(F:Nat->Option Fn):Prop extends CoreA F where
 f8:F 8=aB II
 f9:F 9=aB IJ
 Yy:F 10=aB wG
 Yz:F 11=aB rZ
 YA:F 12=aB wH
 YB:F 13=aB se
 YC:F 14=aB wI
 YD:F 15=aB wJ
theorem YE:cV .aP=true:=rfl
noncomputable def sQ(w:W)(n:Int):Bool:=cV w||within w 0 (n-1)
noncomputable def door(w:W)(n:Int):Bool:=match w with|.tup [a,b]=>within a 0 99&&sQ b n|_=>false
noncomputable def n9(w:W)(g:Int):Bool:=match w with|.tup [a,b]=>within a 0 (g-1)&&within b 0 1|_=>false
noncomputable def jk(w:W)(c wd g:Int):Bool:=
 if jY w "x" || n9 w g then decide (0<c)&&decide (c<wd-1)else if jY w "<"then decide (0<c)else if jY w ">"then decide (c<wd-1)else jY w "." || jY w "s"
section
variable{F:Nat->Option Fn}(C:pO F)
include C
theorem YF{k:Nat}{h:VH}{w:W}{n:Int}(hw:Kn h w):run F (k+3) 12 [w,.int n] h=.ok (.bl (sQ w n)) h:=by rw[dW C.YA rfl];have e:=wX C.toCoreA (k:=k) (h:=⟨h.n,h.n,h.os⟩) (w:=w) (lo:=0) (hi:=n-1) (eS.mpr hw);cases q:cV w<;>simp[wH,exs,ev,e,bE,YE,q,sQ,dF,iA,gE]
theorem YG{k:Nat}{h:VH}{w:W}{n:Int}(hw:Kn h w)(hp:∀a b,w=.tup [a,b]->Kn h a/\Kn h b):run F (k+4) 11 [w,.int n] h=.ok (.bl (door w n)) h:=by
 rw[dW C.Yz rfl];have e1:=wY C.toCoreA (k:=k+2) (h:=⟨h.n,h.n,h.os⟩) (w:=w) (lo:=2) (hi:=2) (eS.mpr hw);cases q:eT w 2 2 with
 |false=>
  have:door w n=false:=by cases w<;>simp[door];rename_i ws;rcases ws with _|⟨a,_|⟨b,_|_⟩⟩<;>simp[eT]at q ⊢
  simp[rZ,exs,ev,e1,q,this,dF]
 |true=>
  cases w<;>try(simp[eT]at q;done)
  rename_i ws;have hl:ws.length=2:=by simp[eT]at q;lia
  rcases ws with _|⟨a,_|⟨b,_|_⟩⟩<;>simp at hl;obtain⟨ka,kb⟩:=hp a b rfl;have e2:=wX C.toCoreA (k:=k+1) (h:=⟨h.n,h.n,h.os⟩) (w:=a) (lo:=0) (hi:=99) (eS.mpr ka);have e3:=YF C (k:=k) (h:=⟨h.n,h.n,h.os⟩) (w:=b) (n:=n) (eS.mpr kb);cases q2:within a 0 99<;>simp[rZ,exs,ev,e1,q,e2,e3,q2,door,dF,bw,aR,lI]
theorem YH{k:Nat}{h:VH}{w:W}{n:Int}(hw:Kn h w)(hp:∀a b,w=.tup [a,b]->Kn h a/\Kn h b):run F (k+3) 13 [w,.int n] h=.ok (.bl (n9 w n)) h:=by
 rw[dW C.YB rfl];have e1:=wY C.toCoreA (k:=k+1) (h:=⟨h.n,h.n,h.os⟩) (w:=w) (lo:=2) (hi:=2) (eS.mpr hw);cases q:eT w 2 2 with
 |false=>
  have:n9 w n=false:=by cases w<;>simp[n9];rename_i ws;rcases ws with _|⟨a,_|⟨b,_|_⟩⟩<;>simp[eT]at q ⊢
  simp[se,exs,ev,e1,q,this,dF]
 |true=>
  cases w<;>try(simp[eT]at q;done)
  rename_i ws;have hl:ws.length=2:=by simp[eT]at q;lia
  rcases ws with _|⟨a,_|⟨b,_|_⟩⟩<;>simp at hl;obtain⟨ka,kb⟩:=hp a b rfl;have e2:=wX C.toCoreA (k:=k) (h:=⟨h.n,h.n,h.os⟩) (w:=a) (lo:=0) (hi:=n-1) (eS.mpr ka);have e3:=wX C.toCoreA (k:=k) (h:=⟨h.n,h.n,h.os⟩) (w:=b) (lo:=0) (hi:=1) (eS.mpr kb);cases q2:within a 0 (n-1)<;>simp[se,exs,ev,e1,q,e2,e3,q2,n9,dF,bw,aR,lI,iA,gE]
omit C in
theorem Ji:PyData.strOk (Str.ofString "x")=true:=by decide +kernel
omit C in
theorem Jj:PyData.strOk (Str.ofString "<")=true:=by decide +kernel
omit C in
theorem Jk:PyData.strOk (Str.ofString ">")=true:=by decide +kernel
omit C in
theorem Jl:PyData.strOk (Str.ofString ".")=true:=by decide +kernel
omit C in
theorem Jm:PyData.strOk (Str.ofString "s")=true:=by decide +kernel
theorem YI{k:Nat}{h:VH}{w:W}{c wd g:Int}(p:eY 24 w):run F (k+4) 15 [w,.int c,.int wd,.int g] h=.ok (.bl (jk w c wd g)) h:=by
 rw[dW C.YD rfl];have hp:∀a b,w=.tup [a,b]->Kn ⟨h.n,h.n,h.os⟩ a/\Kn ⟨h.n,h.n,h.os⟩ b:=λa b e=>by
  subst e;have p:eY (23+1) (.tup [a,b])=true:=p;rw[Fb,nU,nU,bJ,bJ]at p;exact⟨Jh p.1,Jh p.2.1⟩
 have e1:=YH C (k:=k) (h:=⟨h.n,h.n,h.os⟩) (w:=w) (n:=g) (Jh p) hp;have sx:=pN (h:=⟨h.n,h.n,h.os⟩) (x:=Str.ofString "x") p Ji;have sl:=pN (h:=⟨h.n,h.n,h.os⟩) (x:=Str.ofString "<") p Jj;have sg:=pN (h:=⟨h.n,h.n,h.os⟩) (x:=Str.ofString ">") p Jk;have sd:=pN (h:=⟨h.n,h.n,h.os⟩) (x:=Str.ofString ".") p Jl;have ss:=pN (h:=⟨h.n,h.n,h.os⟩) (x:=Str.ofString "s") p Jm;unfold jk;cases q1:jY w (Str.ofString "x")<;>cases q2:n9 w g<;>cases q3:jY w (Str.ofString "<")<;>cases q4:jY w (Str.ofString ">")<;>cases q5:jY w (Str.ofString ".")<;>by_cases h1:0<c<;>
  simp[wJ,exs,ev,bE,gS,sx,sl,sg,sd,ss,e1,iA,gE,q1,q2,q3,q4,q5,h1,dF]
theorem PB{k:Nat}{h:VH}{t a:W}{n:Int}:∀(ws:List W) (x:Option W),(∀w∈ws,Kn h w/\∀a b,w=.tup [a,b]->Kn h a/\Kn h b)->∃y,forL (bw (.one 3)) (exs (run F (k+4)) EK) ws [aB t,aB a,aB (.int n),x] h =
 if ws.all (door · n)then .ok (.nx [aB t,aB a,aB (.int n),y]) h else .ok (.rt (.bl false)) h
 |[],x,_=>⟨x,by simp[forL]⟩
 |w::r,x,hk=>by
  obtain⟨y,e⟩:=PB (t:=t) (a:=a) (k:=k) (n:=n) r (aB w) λz hz=>hk z (fE _ hz);refine⟨y,?_⟩;obtain⟨k1,k2⟩:=hk w fT;have e1:=YG C (k:=k) (n:=n) k1 k2;have eb:exs (run F (k+4)) EK [aB t,aB a,aB (.int n),aB w] h=if door w n then .ok (.nx [aB t,aB a,aB (.int n),aB w]) h else .ok (.rt (.bl false)) h:=by cases q:door w n<;>simp[EK,exs,ev,e1,q]
  simp only[forL,bw,List.set,eb];cases q:door w n<;>simp[q,e]
theorem YJ{k:Nat}{h:VH}{ws:List W}{wd n:Int}(hl:ws.length=wd)(hz:ws.length<1000000)(hd:∀w∈ws,door w n):run F (k+5) 8 [.tup ws,.int wd,.int n] h=.ok (.bl true) h:=by
 rw[dW C.f8 rfl];have e1:=wY C.toCoreA (k:=k+3) (h:=⟨h.n,h.n,h.os⟩) (w:=.tup ws) (lo:=wd) (hi:=wd) (by unfold Kn;simp);have q:eT (.tup ws) wd wd=true:=by simp[eT,hl]
 have kn:∀w∈ws,Kn ⟨h.n,h.n,h.os⟩ w/\∀a b,w=.tup [a,b]->Kn ⟨h.n,h.n,h.os⟩ a/\Kn ⟨h.n,h.n,h.os⟩ b:=λw hw=>by
  have:=hd w hw;cases w<;>simp only[door]at this<;>try(cases this;done)
  rename_i us;refine⟨by unfold Kn;simp,λa b e=>?_⟩;cases e;simp only[bJ]at this;obtain⟨h1,h2⟩:=this;refine⟨?_,?_⟩;cases a<;>simp[within]at h1;unfold Kn;simp;unfold sQ at h2;cases b<;>simp[within,cV]at h2;unfold Kn;simp;unfold Kn;simp
 obtain⟨y,e2⟩:=PB C (k:=k) (h:=⟨h.n,h.n,h.os⟩) (t:=.tup ws) (a:=.int wd) (n:=n) ws aC kn;have ha:ws.all (door · n)=true:=fX.mpr hd;simp[II,exs,ev,e1,q,B8 hz,e2,ha,dF]
theorem PC{k:Nat}{h:VH}{t:W}{wd:Int}:∀(ws:List W) (x:Option W),(∀w∈ws,∃us,w=.tup us/\us.length=wd)->∃y,forL (bw (.one 2)) (exs (run F (k+1)) EL) ws [aB t,aB (.int wd),x] h=.ok (.nx [aB t,aB (.int wd),y]) h
 |[],x,_=>⟨x,by simp[forL]⟩
 |w::r,x,hk=>by
  obtain⟨y,e⟩:=PC (h:=h) (t:=t) (k:=k) (wd:=wd) r (aB w) λz hz=>hk z (fE _ hz);refine⟨y,?_⟩;obtain⟨us,rfl,hl⟩:=hk w fT;have e1:=wY C.toCoreA (k:=k) (h:=h) (w:=.tup us) (lo:=wd) (hi:=wd) (by unfold Kn;simp);have q:eT (.tup us) wd wd=true:=by simp[eT,hl]
  have eb:exs (run F (k+1)) EL [aB t,aB (.int wd),aB (.tup us)] h=.ok (.nx [aB t,aB (.int wd),aB (.tup us)]) h:=by simp[EL,exs,ev,e1,q]
  simp only[forL,bw,List.set,eb,aD,e]
theorem YK{k:Nat}{h:VH}{ws:List W}{wd:Int}(hl:ws.length<=60)(hd:∀w∈ws,∃us,w=.tup us/\us.length=wd):run F (k+2) 9 [.tup ws,.int wd] h=.ok (.bl true) h:=by
 rw[dW C.f9 rfl];have e1:=wY C.toCoreA (k:=k) (h:=⟨h.n,h.n,h.os⟩) (w:=.tup ws) (lo:=0) (hi:=60) (by unfold Kn;simp);have q:eT (.tup ws) 0 60=true:=by simp[eT];lia
 obtain⟨y,e2⟩:=PC C (k:=k) (h:=⟨h.n,h.n,h.os⟩) (t:=.tup ws) (wd:=wd) ws aC hd;simp[IJ,exs,ev,e1,q,B8 (show ws.length<1000000 by lia),e2,dF]
end
structure Bd where
 wd:Int
 gr:Int
 rows:List (List W)
 fd:List W
 dr:List W
noncomputable def Bd.w(B:Bd):W:=.tup [.int B.wd,.int B.gr,.tup (B.rows.map .tup),.tup B.fd,.tup B.dr]
noncomputable def cH(wd g:Int):Int->List W->Prop|_,[]=>True|c,w::r=>jk w c wd g=true/\cH wd g (c+1) r
structure Bd.Ok(B:Bd):Prop where
 w1:1<=B.wd
 w2:B.wd<=40
 g1:0<=B.gr
 g2:B.gr<=8
 r1:B.rows.length<=60
 r2:∀r∈B.rows,(r.length:Int)=B.wd/\cH B.wd B.gr 0 r
 f1:1<=B.fd.length
 f2:B.fd.length<=4
 f3:∀f∈B.fd,within f 0 (B.wd-1)=true
 d1:(B.dr.length:Int)=B.wd
 d2:∀d∈B.dr,door d B.fd.length=true
structure Bd.PD(B:Bd):Prop where
 w1:1<=B.wd
 w2:B.wd<=40
 g1:0<=B.gr
 g2:B.gr<=8
 r1:B.rows.length<=60
 r2:∀r∈B.rows,(r.length:Int)=B.wd
 f1:1<=B.fd.length
 f2:B.fd.length<=4
 f3:∀f∈B.fd,within f 0 (B.wd-1)=true
 d1:(B.dr.length:Int)=B.wd
 d2:∀d∈B.dr,door d B.fd.length=true
theorem Bd.Ok.YL{B:Bd}(b:B.Ok):B.PD:=⟨b.w1,b.w2,b.g1,b.g2,b.r1,λr hr=>(b.r2 r hr).1,b.f1,b.f2,b.f3,b.d1,b.d2⟩
theorem YM{w:W}{g:Int}(h:n9 w g)(n:Nat):eY (n+2) w=true:=by
 cases w<;>simp only[n9]at h<;>try(cases h;done)
 rename_i us;rcases us with _|⟨a,_|⟨b,_|_⟩⟩<;>simp at h
 obtain⟨h1,h2⟩:=h;cases a<;>simp[within]at h1;cases b<;>simp[within]at h2;rfl
theorem yJ{w:W}{x:Str}(h:jY w x):w=.str x:=by cases w<;>simp[jY]at h;rw[h]
theorem PF{w:W}{c wd g:Int}(h:jk w c wd g)(n:Nat):eY (n+2) w=true:=by
 have st:∀x:Str,PyData.strOk x=true->jY w x=true->eY (n+2) w=true:=λx hx e=>by rw[yJ e];exact hx
 unfold jk at h;split at h;rename_i q;rw[p5]at q;rcases q with q|q
 exact st _ (by decide +kernel) q;exact YM q n;split at h;rename_i q;exact st _ (by decide +kernel) q;split at h;rename_i q;exact st _ (by decide +kernel) q;rw[p5]at h;rcases h with q|q
 exact st _ (by decide +kernel) q;exact st _ (by decide +kernel) q
section
variable{F:Nat->Option Fn}(C:pO F)
include C
theorem YN{k:Nat}{h:VH}{B:Bd}(b:B.PD):run F (k+6) 10 [B.w] h=.ok (.bl true) h:=by
 rw[dW C.Yy rfl];have e1:=wY C.toCoreA (k:=k+4) (h:=⟨h.n,h.n,h.os⟩) (w:=B.w) (lo:=5) (hi:=5) (by unfold Kn Bd.w;simp);have q1:eT B.w 5 5=true:=by simp[eT,Bd.w]
 have e2:=wX C.toCoreA (k:=k+3) (h:=⟨h.n,h.n,h.os⟩) (w:=.int B.wd) (lo:=1) (hi:=40) (by unfold Kn;simp);have q2:within (.int B.wd) 1 40=true:=by simp[within,b.w1,b.w2]
 have e3:=wX C.toCoreA (k:=k+3) (h:=⟨h.n,h.n,h.os⟩) (w:=.int B.gr) (lo:=0) (hi:=8) (by unfold Kn;simp);have q3:within (.int B.gr) 0 8=true:=by simp[within,b.g1,b.g2]
 have kf:∀x∈B.fd,Kn ⟨h.n,h.n,h.os⟩ x:=λx hx=>by
  have:=b.f3 x hx;cases x<;>simp[within]at this;unfold Kn;simp
 have hf:=b.f2;have e4:=Yw C.toCoreA (k:=k+2) (h:=⟨h.n,h.n,h.os⟩) (w:=.tup B.fd) (a:=1) (b:=4) (lo:=0) (hi:=B.wd-1) (by unfold Kn;simp) (λws e=>by cases e;exact⟨by lia,kf⟩);have q4:wZ (.tup B.fd) 1 4 0 (B.wd-1)=true:=by have h1:=b.f1;simp only[wZ,eT,bJ,fS];exact⟨⟨by lia,by lia⟩,fX.mpr b.f3⟩
 have e5:=YK C (k:=k+3) (h:=⟨h.n,h.n,h.os⟩) (ws:=B.rows.map .tup) (wd:=B.wd) (by rw[bx];exact b.r1) (λw hw=>by
  obtain⟨r,hr,e⟩:=iH.mp hw;exact⟨r,e.symm,b.r2 r hr⟩)
 have hd:=b.d1;have YO:=b.w2;have e6:=YJ C (k:=k) (h:=⟨h.n,h.n,h.os⟩) (ws:=B.dr) (wd:=B.wd) (n:=B.fd.length) hd (by lia) b.d2;unfold Bd.w at e1 q1 ⊢;simp[wG,exs,ev,e1,q1,e2,q2,e3,q3,e4,q4,e5,e6,dF,bw,aR,lI,iA,gE,mj,iB]
theorem YQ{k:Nat}{h:VH}{B:Bd}(b:B.Ok):run F (k+6) 10 [B.w] h=.ok (.bl true) h:=YN C b.YL
theorem PJ{k:Nat}{h:VH}{t rs pl:W}{wd g r0:Int}:∀(ws:List W) (c:Int) (j:Nat) (x y:Option W),c=j->cH wd g c ws->∃x' y',forL (bw (.many [6,7])) (exs (run F (k+4)) EM) (cY j ws) [aB t,aB (.int wd),aB (.int g),aB rs,aB (.int r0),aB pl,x,y] h =
 .ok (.nx [aB t,aB (.int wd),aB (.int g),aB rs,aB (.int r0),aB pl,x',y']) h
 |[],c,j,x,y,_,_=>⟨x,y,by simp[forL,cY]⟩
 |w::r,c,j,x,y,hc,ho=>by
  obtain⟨h1,h2⟩:=ho;obtain⟨x',y',e⟩:=PJ (h:=h) (t:=t) (rs:=rs) (pl:=pl) (k:=k) (wd:=wd) (g:=g) (r0:=r0) r (c+1) (j+1) (aB (.int j)) (aB w) (by rw[hc];push_cast;rfl) h2;refine⟨x',y',?_⟩;have e1:=YI C (k:=k) (h:=h) (c:=j) (wd:=wd) (g:=g) (PF h1 22);rw[<-hc,h1]at e1;have eb:exs (run F (k+4)) EM [aB t,aB (.int wd),aB (.int g),aB rs,aB (.int r0),aB pl,aB (.int j),aB w] h=.ok (.nx [aB t,aB (.int wd),aB (.int g),aB rs,aB (.int r0),aB pl,aB (.int j),aB w]) h:=by rw[hc]at e1;simp[EM,exs,ev,e1]
  simp only[forL,cY,bw,aR,lI,List.set,eb,aD,e]
theorem PK{k:Nat}{h:VH}{t rs:W}{wd g:Int}:∀(ws:List (List W)) (j:Nat) (x y z u:Option W),(∀r∈ws,(r.length:Int)<1000000/\cH wd g 0 r)->∃x' y' z' u',forL (bw (.many [4,5])) (exs (run F (k+4)) EN) (cY j (ws.map .tup)) [aB t,aB (.int wd),aB (.int g),aB rs,x,y,z,u] h =
 .ok (.nx [aB t,aB (.int wd),aB (.int g),aB rs,x',y',z',u']) h
 |[],j,x,y,z,u,_=>⟨x,y,z,u,by simp[forL,cY]⟩
 |w::r,j,x,y,z,u,ho=>by
  obtain⟨h1,h2⟩:=ho w fT;obtain⟨z1,u1,e1⟩:=PJ C (k:=k) (h:=h) (t:=t) (rs:=rs) (pl:=.tup w) (wd:=wd) (g:=g) (r0:=j) w 0 0 z u rfl h2;obtain⟨x',y',z',u',e⟩:=PK (h:=h) (t:=t) (rs:=rs) (k:=k) (wd:=wd) (g:=g) r (j+1) (aB (.int j)) (aB (.tup w)) z1 u1 λq hq=>ho q (fE _ hq);refine⟨x',y',z',u',?_⟩;have eb:exs (run F (k+4)) EN [aB t,aB (.int wd),aB (.int g),aB rs,aB (.int j),aB (.tup w),z,u] h=.ok (.nx [aB t,aB (.int wd),aB (.int g),aB rs,aB (.int j),aB (.tup w),z1,u1]) h:=by simp[EN,exs,ev,Px (show w.length<1000000 by lia),e1]
  simp only[forL,fm,cY,bw,aR,lI,List.set,eb,aD,e]
theorem YR{k:Nat}{h:VH}{B:Bd}(b:B.Ok):run F (k+7) 14 [B.w] h=.ok .aP h:=by
 rw[dW C.YC rfl];have e1:=YQ C (k:=k) (h:=⟨h.n,h.n,h.os⟩) b;have YO:=b.w2;have h60:=b.r1;obtain⟨x',y',z',u',e2⟩:=PK C (k:=k+2) (h:=⟨h.n,h.n,h.os⟩) (t:=B.w) (rs:=.tup (B.rows.map .tup)) (wd:=B.wd) (g:=B.gr) B.rows 0 aC aC aC aC λr hr=>⟨by have:=(b.r2 r hr).1;lia,(b.r2 r hr).2⟩
 unfold Bd.w at e1 e2 ⊢;simp[wI,exs,ev,e1,Yu,bw,aR,lI,fB,iR,HT.bK,Px (show(B.rows.map W.tup).length<1000000 by rw[bx];lia),e2]
end
structure mF(F:Nat->Option Fn):Prop where
 f2:F 2=aB EH
 f3:F 3=aB B0
 f4:F 4=aB IG
 f5:F 5=aB rW
theorem zdt{h:VH}{i j:Int}:dD h (.int i) (.int j)=aB (decide (i=j)):=by unfold dD;simp only[toD];show aB (i==j)=_;by_cases q:i=j<;>simp[q]
theorem Jo{i:Int}(h1:-(2 ^ 63)<=i)(h2:i<2 ^ 63):kE i=true:=by unfold kE;simp only[bJ,fS];lia
theorem pP{h:VH}{i:Nat}{o o0:VO}(g:h.get i=aB o0):(h.set i o).get i=aB o:=by have hi:=bU g;unfold VH.get at g;rw[if_pos (iC.mpr hi)]at g;have hl:=(i7.mp g).1;unfold VH.get VH.set;simp only[if_pos (iC.mpr hi)];rw[xP hl]
theorem yK{h:VH}{i j:Nat}{o o0:VO}(g:h.get i=aB o0)(hj:j≠i):(h.set i o).get j=h.get j:=nZ (bU g) hj
structure Dk(h:VH)(d c:Nat)(b:Nat):Prop where
 ne:d≠c
 st:∃(ns cells:List Int) (p q:Int),h.get d=aB (.lst [.fz (ns.map .int),.ref c,.int p,.int q])/\h.get c=aB (.lst (cells.map .int))/\(∀x∈cells,(0:Int)<=x)/\0<=p/\0<=q/\q<=b/\cells.length<=63
theorem Dk.mono{h:VH}{d c b b':Nat}(D:Dk h d c b)(hb:b<=b'):Dk h d c b':=by obtain⟨ne,ns,cells,p,q,a1,a2,a3,a4,a5,a6,a7⟩:=D;exact⟨ne,ns,cells,p,q,a1,a2,a3,a4,a5,by lia,a7⟩
structure B9(h h':VH)(d c:Nat):Prop where
 le:h.n<=h'.n
 get:∀i o,i≠d->i≠c->h.get i=aB o->h'.get i=aB o
theorem Jp(i:Int):(if i<0 then -i else i)=(i.natAbs:Int):=by split<;>lia
section
variable{F:Nat->Option Fn}(C:mF F)
include C
theorem cell{k:Nat}{h:VH}{ns:List Int}{j:Int}(hj:0<=j):∃r,run F (k+1) 2 [.fz (ns.map .int),.int j] h=.ok (.int r) h/\0<=r:=by
 rw[dW C.f2 rfl];cases ns with
 |nil=>
  refine⟨7*j+3,?_,by lia⟩;simp[EH,exs,ev,mj,iB,aR,bE,zdt,iA,gE,Jo,dF]
 |cons n0 sR=>
  have hl:(0:Int)< ((n0::sR).length:Int):=by simp only[cG];lia
  have hm1:=Dz j (show((n0::sR).length:Int)≠0 by lia);have hm2:=Dy j hl;obtain⟨m,hm⟩:=ya hm1;have hml:m< (n0::sR).length:=by lia
  have ha:fV (List.map W.int (n0::sR)) (j % ((n0::sR).length:Int))=aB (.int ((n0::sR)[m])):=by rw[hm];exact nX (by rw[dS,dh hml];rfl)
  have hb:¬(((sR.length:Int)+1)=0):=by lia
  have hp:(0:Int)< (sR.length:Int)+1:=by lia
  refine⟨(((n0::sR)[m]).natAbs:Int),?_,by lia⟩;simp only[cG,Int.natCast_add,Int.cast_ofNat_Int,fm]at ha;simp[EH,exs,ev,mj,iB,aR,bE,zdt,iA,gE,dF,cz,lF,hb,hp,ha,Jp]
theorem mixed{k:Nat}{h:VH}{ns:List Int}{j m:Int}(hj:0<=j)(hj2:j<=1000000000)(hm:0<m):∃r,run F (k+2) 4 [.fz (ns.map .int),.int j,.int m] h=.ok (.int r) h/\0<=r/\r<m:=by
 rw[dW C.f4 rfl];obtain⟨c,e1,hc⟩:=cell C (k:=k) (h:=⟨h.n,h.n,h.os⟩) (ns:=ns) hj;have h1:=Dz c (show(1000003:Int)≠0 by decide);have h2:=Dy c (show(0:Int)<1000003 by decide);generalize hx:c % 1000003=x at h1 h2;have s1:kE (x+5)=true:=Jo (by lia) (by lia);have s2:kE 7919=true:=Jo (by decide) (by decide);have hb:(x+5)* (j+2)<=1000008*1000000002:=Int.mul_le_mul (by lia) (by lia) (by lia) (by lia);have hb0:0<=(x+5)* (j+2):=Int.mul_nonneg (by lia) (by lia);generalize hy:(x+5)* (j+2)=y at hb hb0;have hn:(y+7919*j).natAbs<2 ^ 64:=by lia
 refine⟨(y+7919*j) ^ 5 % 2147483647/13 % m,?_,Dz _ (by lia),Dy _ hm⟩;have hn':(y+7919*j).natAbs<18446744073709551616:=by lia
 simp[IG,exs,ev,e1,iA,gE,hx,s1,s2,hy,hn',hm,dF]
theorem PL{k:Nat}{d c:Nat}{m q:Int}{ns:List Int}(hdc:d≠c)(hm:0<m)(hm2:m<1073741824):∀(n f:Nat) (g:VH) (x:Option W) (cells:List Int) (p:Int),n<f->(cells.length:Int)-p<=n->0<=p->(∀y∈cells,(0:Int)<=y)->
 g.get d=aB (.lst [.fz (ns.map .int),.ref c,.int p,.int q])->g.get c=aB (.lst (cells.map .int))->
 ∃(g':VH) (cells':List Int) (p':Int),0<=p'/\(∀y∈cells',(0:Int)<=y)/\cells'.length=cells.length/\g'.get d=aB (.lst [.fz (ns.map .int),.ref c,.int p',.int q])/\g'.get c=aB (.lst (cells'.map .int))/\g'.n=g.n/\(∀i,i≠d->i≠c->g'.get i=g.get i)/\
  ((∃r,dz (ev (run F (k+2)) B3) (exs (run F (k+2)) wF) f [aB (.ref d),aB (.int m),x] g=.ok (.rt (.int r)) g'/\0<=r/\r<m)\/∃y,dz (ev (run F (k+2)) B3) (exs (run F (k+2)) wF) f [aB (.ref d),aB (.int m),x] g=.ok (.nx [aB (.ref d),aB (.int m),y]) g')
 |n,0,g,x,cells,p,hf,_,_,_,_,_=>by lia
 |n,f+1,g,x,cells,p,hf,hn,hp,hnn,gd,gc=>by
  have ec:ev (run F (k+2)) B3 [aB (.ref d),aB (.int m),x] g=.ok (.bl (decide (p<cells.length))) g:=by simp[B3,ev,cz,gd,fV,jd,mj,iB,aR,gc,bE,gS]
  by_cases hlt:p<cells.length;obtain⟨pn,rfl⟩:=ya hp;have hpl:pn<cells.length:=by lia
  have hat:fV (cells.map W.int) (pn:Int)=aB (.int cells[pn]):=nX (by rw[dS,dh hpl];rfl);by_cases hpos:0<cells[pn];refine⟨g.set c (.lst ((cells.set pn (cells[pn]/m)).map .int)),cells.set pn (cells[pn]/m),pn,hp,?_,by simp,?_,pP gc,rfl,λi _ hi=>yK gc hi,.inl ⟨cells[pn] % m,?_,Dz _ (by lia),Dy _ hm⟩⟩;intro y hy;rcases Dd hy with hy|rfl
  exact hnn y hy;exact Int.ediv_nonneg (by lia) (by lia);rw[yK gc hdc];exact gd;have hix:jd (cells.map W.int).length (pn:Int)=aB pn:=by unfold jd;rw[if_pos (by lia),if_pos (by rw[bx];lia)];simp
  have eb:exs (run F (k+2)) wF [aB (.ref d),aB (.int m),x] g=.ok (.rt (.int (cells[pn] % m))) (g.set c (.lst ((cells.set pn (cells[pn]/m)).map .int))):=by have h2:fV [W.fz (ns.map .int),.ref c,.int pn,.int q] 2=aB (.int pn):=rfl;have h1:fV [W.fz (ns.map .int),.ref c,.int pn,.int q] 1=aB (.ref c):=rfl;simp[wF,exs,ev,cz,gd,h1,h2,gc,hat,bE,gS,hpos,iA,gE,hm,hm2]at hix ⊢;simp[hix,hm,List.map_set]
  simp[dz,ec,hlt,eb];have gs:(g.set d (.lst [.fz (ns.map .int),.ref c,.int ((pn:Int)+1),.int q])).get c=aB (.lst (cells.map .int)):=by rw[yK gd (eV hdc)];exact gc
  cases n with
  |zero=>lia
  |succ n=>
   obtain⟨g',cells',p',a1,a2,a3,a4,a5,a6,a7,a8⟩:=PL (k:=k) hdc hm hm2 n f (g.set d (.lst [.fz (ns.map .int),.ref c,.int ((pn:Int)+1),.int q])) (aB (.int cells[pn])) cells (pn+1) (by lia) (by lia) (by lia) hnn (pP gd) gs;have eb:exs (run F (k+2)) wF [aB (.ref d),aB (.int m),x] g=.ok (.nx [aB (.ref d),aB (.int m),aB (.int cells[pn])]) (g.set d (.lst [.fz (ns.map .int),.ref c,.int ((pn:Int)+1),.int q])):=by have h2:fV [W.fz (ns.map .int),.ref c,.int pn,.int q] 2=aB (.int pn):=rfl;have h1:fV [W.fz (ns.map .int),.ref c,.int pn,.int q] 1=aB (.ref c):=rfl;have h3:jd 4 2=aB 2:=rfl;simp[wF,exs,ev,cz,gd,h1,h2,h3,gc,hat,bE,gS,hpos,iA,gE]
   refine⟨g',cells',p',a1,a2,a3,a4,a5,a6,λi h1 h2=>by rw[a7 i h1 h2,yK gd h1],?_⟩;rcases a8 with⟨r,e,h3⟩|⟨y,e⟩
   exact .inl ⟨r,by simp[dz,ec,hlt,eb,e],h3⟩;exact .inr ⟨y,by simp[dz,ec,hlt,eb,e]⟩
  exact⟨g,cells,p,hp,hnn,rfl,gd,gc,rfl,λ_ _ _=>rfl,.inr ⟨x,by simp[dz,ec,hlt]⟩⟩
omit C in
theorem YS{h h':VH}{w:W}(g:fN ⟨h.n,h.n,h.os⟩ h'):∃h2,leave h w h'=.ok w h2/\h.n<=h2.n/\∀i,i<h.n->h2.get i=h'.get i:=by
 unfold leave;split;rename_i q;rw[bJ]at q;have hlo:=lu q.1;exact⟨h,rfl,aZ _,λi hi=>by
  rw[g.2.2 i hi (di hi hlo)];exact cX.symm⟩
 exact⟨_,rfl,g.1,λi hi=>cX⟩
theorem take{k:Nat}{h:VH}{d c b:Nat}{m:Int}(D:Dk h d c b)(hb:b<1000000000)(hm:0<m)(hm2:m<1073741824):∃r h',run F (k+3) 5 [.ref d,.int m] h=.ok (.int r) h'/\0<=r/\r<m/\Dk h' d c (b+1)/\B9 h h' d c:=by
 rw[dW C.f5 rfl];obtain⟨hne,ns,cells,p,q,gd,gc,hnn,hp,hq,hqb,hl⟩:=D;have YT:VH.get ⟨h.n,h.n,h.os⟩ d=aB (.lst [.fz (ns.map .int),.ref c,.int p,.int q]):=by rw[cX];exact gd
 have YU:VH.get ⟨h.n,h.n,h.os⟩ c=aB (.lst (cells.map .int)):=by rw[cX];exact gc
 obtain⟨g',cells',p',a1,a2,a3,a4,a5,a6,a7,a8⟩:=PL C (k:=k) hne hm hm2 63 fuel ⟨h.n,h.n,h.os⟩ aC cells p (by decide) (by lia) hp hnn YT YU;have key:∀(g2:VH)(r:Int)(iY:List Int)(p2 q2:Int),exs (run F (k+2)) rW.body [aB (.ref d),aB (.int m),aC] ⟨h.n,h.n,h.os⟩=.ok (.rt (.int r)) g2->0<=r->r<m->0<=p2->0<=q2->q2<=b+1->iY.length<=63->(∀y∈iY,(0:Int)<=y)->
  g2.get d=aB (.lst [.fz (ns.map .int),.ref c,.int p2,.int q2])->g2.get c=aB (.lst (iY.map .int))->(∀i,i<h.n->i≠d->i≠c->g2.get i=h.get i)->
  ∃r h',fin h (exs (run F (k+2)) rW.body ([W.ref d,W.int m].map aB++bI (rW.n-rW.ps) aC) ⟨h.n,h.n,h.os⟩)=.ok (.int r) h'/\0<=r/\r<m/\Dk h' d c (b+1)/\B9 h h' d c:=by
  intro g2 r iY p2 q2 e r1 r2 b1 b2 b3 b4 b5 b6 b7 b8;obtain⟨h2,e2,hn2,nt⟩:=YS (w:=.int r) (Ih (Ii F (k+2)) _ _ _ _ _ e);refine⟨r,h2,?_,r1,r2,⟨hne,ns,iY,p2,q2,?_,?_,b5,b1,b2,by lia,b4⟩,⟨hn2,λi o h1 h3 e3=>?_⟩⟩;show fin h (exs (run F (k+2)) rW.body [aB (.ref d),aB (.int m),aC] ⟨h.n,h.n,h.os⟩)=_;rw[e];exact e2;rw[nt d (bU gd)];exact b6;rw[nt c (bU gc)];exact b7;rw[nt i (bU e3),b8 i (bU e3) h1 h3];exact e3
 rcases a8 with⟨r,e,r1,r2⟩|⟨y,e⟩;refine key g' r cells' p' q ?_ r1 r2 a1 hq (by lia) (by lia) a2 a4 a5 λi hi h1 h2=>by rw[a7 i h1 h2,cX]
 simp[rW,exs,e];obtain⟨r,e2,r1,r2⟩:=mixed C (k:=k) (h:=g'.set d (.lst [.fz (ns.map .int),.ref c,.int p',.int (q+1)])) (ns:=ns) (j:=q+1) (m:=m) (by lia) (by lia) hm;refine key (g'.set d (.lst [.fz (ns.map .int),.ref c,.int p',.int (q+1)])) r cells' p' (q+1) ?_ r1 r2 a1 (by lia) (by lia) (by lia) a2 (pP a4) (by rw[yK a4 (eV hne)];exact a5) λi hi h1 h2=>by rw[yK a4 h1,a7 i h1 h2,cX]
 have h3:fV [W.fz (ns.map .int),.ref c,.int p',.int q] 3=aB (.int q):=rfl;have h30:fV [W.fz (ns.map .int),.ref c,.int p',.int (q+1)] 3=aB (.int (q+1)):=rfl;have YV:fV [W.fz (ns.map .int),.ref c,.int p',.int (q+1)] 0=aB (.fz (ns.map .int)):=rfl;have YW:jd 4 3=aB 3:=rfl;have hs:=pP (o:=.lst [.fz (ns.map .int),.ref c,.int p',.int (q+1)]) a4;simp[rW,exs,e,ev,cz,a4,h3,iA,gE,YW,hs,h30,YV,e2]
end
theorem bq{cl:Call}{a b:S}{ρ ρ':En}{h h':VH}(e:exs cl a ρ h=.ok (.nx ρ') h'):exs cl (.seq a b) ρ h=exs cl b ρ' h':=by simp only[exs,e,aD]
theorem jB{cl:Call}{a b:S}{ρ:En}{w:W}{h h':VH}(e:exs cl a ρ h=.ok (.rt w) h'):exs cl (.seq a b) ρ h=.ok (.rt w) h':=by simp only[exs,e,aD]
@[simp] theorem Ca {cl:Call} {ρ:En} {h:VH}:exs cl .skip ρ h=.ok (.nx ρ) h:=rfl
theorem Dk.new{h:VH}{d c b:Nat}{o:VO}(D:Dk h d c b):Dk (h.new o) d c b:=by obtain⟨ne,ns,cells,p,q,a1,a2,a3⟩:=D;exact⟨ne,ns,cells,p,q,by rw[iD (bU a1)];exact a1,by rw[iD (bU a2)];exact a2,a3⟩
theorem Dk.lo{h:VH}{d c b l:Nat}(D:Dk h d c b):Dk ⟨h.n,l,h.os⟩ d c b:=by obtain⟨ne,ns,cells,p,q,a1,a2,a3⟩:=D;exact⟨ne,ns,cells,p,q,by rw[cX];exact a1,by rw[cX];exact a2,a3⟩
theorem Cb{cl:Call}{a b:E}{ρ:En}{h:VH}{x y:Bool}(ea:ev cl a ρ h=.ok (.bl x) h)(eb:ev cl b ρ h=.ok (.bl y) h):ev cl (.and a b) ρ h=.ok (.bl (x&&y)) h:=by rw[ev,ea,aD];cases x;rfl;exact eb
theorem xg{cl:Call}{a b:E}{ρ:En}{h:VH}{x y:Bool}(ea:ev cl a ρ h=.ok (.bl x) h)(eb:ev cl b ρ h=.ok (.bl y) h):ev cl (.or a b) ρ h=.ok (.bl (x||y)) h:=by rw[ev,ea,aD];cases x;exact eb;rfl
noncomputable abbrev dP:Str:=Str.ofString "."
noncomputable abbrev fP:Str:=Str.ofString "<"
noncomputable abbrev jZ:Str:=Str.ofString ">"
noncomputable abbrev sX:Str:=Str.ofString "x"
noncomputable abbrev sS:Str:=Str.ofString "s"
theorem xh{cl:Call}:ev cl (.cst (.bl true))=λ_ h=>.ok (.bl true) h:=rfl
theorem nJ{n:Nat}(h:n<=1000000):Nat.ble n big=true:=qS.mpr (gJ h (by decide))
theorem xj{n:Nat}(h:n<=1000000):Nat.blt n big=true:=iC.mpr (zh h (by decide))
theorem PN{cl:Call}{i l:Nat}{x:E}{ρ:En}{h h1:VH}{w:W}{acc xm:List W}(nK:ρ[i]?=aB (aB (.ref l)))(g0:h.get l=aB (.lst xm))(e:ev cl x ρ h=.ok w h1)(g:h1.get l=aB (.lst acc))(hl:acc.length<=1000000) :
 ev cl (.mt .append (.var i) (.cons x .nil)) ρ h=.ok .aP (h1.set l (.lst (acc++[w]))):=by
 have hk:kI .append h (.ref l)=true:=by simp only[kI,g0]
 have hm:jW .append (.ref l) [w] h1=.ok .aP (h1.set l (.lst (acc++[w]))):=by simp only[jW,g];rw[if_pos (xj hl)]
 simp only[ev,nK,vf,cA,aD,hk,bY,e,hm]
theorem YX{w:W}{g:Int}(h:n9 w g):∃a b:Int,w=.tup [.int a,.int b]/\0<=a/\a<g/\0<=b/\b<2:=by
 cases w<;>simp only[n9]at h<;>try(cases h;done)
 rename_i us;rcases us with _|⟨a,_|⟨b,_|_⟩⟩<;>simp at h
 obtain⟨h1,h2⟩:=h;cases a<;>simp[within]at h1;cases b<;>simp[within]at h2;exact⟨_,_,rfl,by lia,by lia,by lia,by lia⟩
theorem YY{wd g g':Int}{f:W->W}(hf:∀w c,jk w c wd g=true->jk (f w) c wd g'):∀{ws:List W} {c:Int},cH wd g c ws->cH wd g' c (ws.map f)|[],_,_=>trivial|_::_,_,⟨h1,h2⟩=>⟨hf _ _ h1,YY hf h2⟩
theorem YZ{w:W}{n:Int}(h:door w n):∃(a:Int) (b:W),w=.tup [.int a,b]/\0<=a/\a<=99/\(b=.aP\/∃i:Int,b=.int i/\0<=i/\i<n):=by
 cases w<;>simp only[door]at h<;>try(cases h;done)
 rename_i us;rcases us with _|⟨a,_|⟨b,_|_⟩⟩<;>simp at h
 obtain⟨h1,h2⟩:=h;cases a<;>simp[within]at h1;unfold sQ at h2;cases b<;>simp[within,cV]at h2;exact⟨_,_,rfl,h1.1,h1.2,.inl rfl⟩;exact⟨_,_,rfl,h1.1,h1.2,.inr ⟨_,rfl,by lia,by lia⟩⟩
theorem PR{wd g:Int}{n:Nat}:∀{ws:List W} {c:Int},cH wd g c ws->ws.all (eY (n+2))=true|[],_,_=>rfl|_::_,_,⟨h1,h2⟩=>by rw[nU,PF h1,PR h2];rfl
theorem PU{B:Bd}(b:B.Ok)(n:Nat):eY (n+6) B.w=true:=by
 have h1:(B.rows.map W.tup).all (eY (n+4))=true:=by rw[fX];intro w hw;obtain⟨r,hr,rfl⟩:=iH.mp hw;exact PR (n:=n+1) (b.r2 r hr).2
 have h2:B.fd.all (eY (n+4))=true:=by rw[fX];intro w hw;have:=b.f3 w hw;cases w<;>simp[within]at this;rfl
 have h3:B.dr.all (eY (n+4))=true:=by rw[fX];intro w hw;obtain⟨a,c,rfl,_,_,h⟩:=YZ (b.d2 w hw);rcases h with rfl|⟨i,rfl,_⟩<;>rfl
 show(eY (n+5) (.int B.wd)&& (eY (n+5) (.int B.gr)&& (eY (n+5) (.tup (B.rows.map .tup))&& (eY (n+5) (.tup B.fd)&& (eY (n+5) (.tup B.dr)&&true)))))=true;rw[Fb,Fb,Fb,h1,h2,h3];rfl
theorem Y0{B:Bd}(b:B.Ok):eY 24 B.w=true:=PU b 18
noncomputable def cJ(w:W)(hd:Int)(ls:List Int):Option (Int×List Int×List Int):=match w with|.tup [.int g,.int s]=>aB (if ls.getD g.toNat 0=s then -1 else 1,[g],ls.set g.toNat (1-ls.getD g.toNat 0))|.str x=>if x==sS then aC else if x==sX then aB (hd,[],ls)else if x==dP then aB (0,[],ls)else aB (if x==fP then -1 else 1,[],ls)|_=>aC
noncomputable def cK(r:List W)(c:Int):W:=(r[c.toNat]?).getD .aP
structure Fa where
 cs:List Int
 ts:List Int
 ls:List Int
 st:Bool
noncomputable def bg:List (List W)->Int->Int->List Int->Fa
 |[],_,_,ls=>⟨[],[],ls,false⟩
 |r::rs,c,hd,ls=>match cJ (cK r c) hd ls with
  |none=>⟨[],[],ls,true⟩
  |some (d,t,l)=>⟨(c+d):: (bg rs (c+d) d l).cs,t++(bg rs (c+d) d l).ts,(bg rs (c+d) d l).ls,(bg rs (c+d) d l).st⟩
noncomputable def gA:Int->List Int->Int|c,[]=>c|_,x::r=>gA x r
noncomputable def iE(ls:List Int):Prop:=∀x∈ls,x=0\/x=1
theorem Cc{w:W}{c wd g:Int}(h:jk w c wd g):(w=.str sX/\0<c/\c<wd-1)\/(w=.str fP/\0<c)\/(w=.str jZ/\c<wd-1)\/w=.str dP\/w=.str sS\/∃a b:Nat,w=.tup [.int a,.int b]/\(a:Int)<g/\b<2/\0<c/\c<wd-1:=by
 unfold jk at h;split at h;rename_i q;rw[bJ,fS,fS]at h;rw[p5]at q;rcases q with q|q
 exact .inl ⟨yJ q,h⟩;obtain⟨a,b,rfl,h1,h2,h3,h4⟩:=YX q;obtain⟨a,rfl⟩:=ya h1;obtain⟨b,rfl⟩:=ya h3;exact .inr (.inr (.inr (.inr (.inr ⟨a,b,rfl,h2,by lia,h⟩))));split at h;rename_i q;exact .inr (.inl ⟨yJ q,by simpa using h⟩);split at h;rename_i q;exact .inr (.inr (.inl ⟨yJ q,by simpa using h⟩));rw[p5]at h;rcases h with q|q
 exact .inr (.inr (.inr (.inl (yJ q))));exact .inr (.inr (.inr (.inr (.inl (yJ q)))))
theorem Jq{hd:Int}{ls:List Int}:cJ (.str sX) hd ls=aB (hd,[],ls):=rfl
theorem Jr{hd:Int}{ls:List Int}:cJ (.str fP) hd ls=aB (-1,[],ls):=rfl
theorem Js{hd:Int}{ls:List Int}:cJ (.str jZ) hd ls=aB (1,[],ls):=rfl
theorem Jt{hd:Int}{ls:List Int}:cJ (.str dP) hd ls=aB (0,[],ls):=rfl
theorem Ju{hd:Int}{ls:List Int}:cJ (.str sS) hd ls=aC:=rfl
theorem Jv{hd:Int}{ls:List Int}{a b:Nat}:cJ (.tup [.int a,.int b]) hd ls=aB (if ls.getD a 0=b then -1 else 1,[(a:Int)],ls.set a (1-ls.getD a 0)):=rfl
theorem Y3{ls:List Int}(h:iE ls)(a:Nat):ls.getD a 0=0\/ls.getD a 0=1:=by
 rw[pX];cases q:ls[a]? with|none=>exact .inl rfl|some x=>exact h x (mR q)
theorem PV{w:W}{c wd g hd:Int}{ls:List Int}(h:jk w c wd g)(c0:0<=c)(c1:c<wd)(h1:-1<=hd)(h2:hd<=1)(b:iE ls){d:Int}{t l:List Int}(e:cJ w hd ls=aB (d,t,l)):-1<=d/\d<=1/\0<=c+d/\c+d<wd/\l.length=ls.length/\iE l/\t.length<=1:=by rcases Cc h with⟨rfl,h3,h4⟩|⟨rfl,h3⟩|⟨rfl,h3⟩|rfl|rfl|⟨p,q,rfl,h3,h4,h5,h6⟩;rw[Jq]at e;cases e;exact⟨h1,h2,by lia,by lia,rfl,b,by simp⟩;rw[Jr]at e;cases e;exact⟨by lia,by lia,by lia,by lia,rfl,b,by simp⟩;rw[Js]at e;cases e;exact⟨by lia,by lia,by lia,by lia,rfl,b,by simp⟩;rw[Jt]at e;cases e;exact⟨by lia,by lia,by lia,by lia,rfl,b,by simp⟩;rw[Ju]at e;cases e;rw[Jv]at e;cases e;refine⟨by split<;>lia,by split<;>lia,by split<;>lia,by split<;>lia,by simp,λx hx=>?_,by simp⟩;rcases Dd hx with hx|rfl;exact b x hx;rcases Y3 b p with q|q<;>rw[q]<;>lia
noncomputable def yL(wd g:Int)(rs:List (List W)):Prop:=∀r∈rs,(r.length:Int)=wd/\cH wd g 0 r
theorem Jw{wd g:Int}:∀{ws:List W} {c:Int} (i:Nat) {w:W},cH wd g c ws->ws[i]?=aB w->jk w (c+i) wd g=true
 |[],_,_,_,_,e=>by simp at e
 |x::r,c,0,w,⟨h1,h2⟩,e=>by
  simp at e;subst e;simpa using h1
 |x::r,c,i+1,w,⟨h1,h2⟩,e=>by
  have:=Jw i h2 (by simpa using e);rw[show c+ ((i+1:Nat):Int)=c+1+i by push_cast;lia];exact this
theorem Cd{wd g c:Int}{r:List W}(h:(r.length:Int)=wd/\cH wd g 0 r)(c0:0<=c)(c1:c<wd):r[c.toNat]?=aB (cK r c)/\jk (cK r c) c wd g=true:=by
 obtain⟨n,rfl⟩:=ya c0;have hn:n<r.length:=by lia
 have e:r[n]?=aB r[n]:=dh hn;have e2:cK r n=r[n]:=by unfold cK;rw[vg,e];rfl
 rw[e2,vg];refine⟨e,?_⟩;have:=Jw n h.2 e;simpa using this
structure Fa.Ok(q:Fa)(wd:Int)(c:Int)(m n:Nat):Prop where
 l1:q.ls.length=n
 l2:iE q.ls
 c1:∀x∈q.cs,0<=x/\x<wd
 c2:q.cs.length<=m
 c3:q.st=false->q.cs.length=m
 c5:q.st=true->q.cs.length<m
 c4:0<=gA c q.cs/\gA c q.cs<wd
 t1:q.ts.length<=m
theorem PX{wd g:Int}:∀(rs:List (List W)) (c hd:Int) (ls:List Int),yL wd g rs->0<=c->c<wd->-1<=hd->hd<=1->iE ls->(bg rs c hd ls).Ok wd c rs.length ls.length
 |[],c,hd,ls,_,c0,c1,_,_,b=>⟨rfl,b,by simp[bg],by simp[bg],by simp[bg],by simp[bg],⟨c0,c1⟩,by simp[bg]⟩
 |r::rs,c,hd,ls,ok,c0,c1,h1,h2,b=>by
  obtain⟨_,hm⟩:=Cd (ok r fT) c0 c1;unfold bg;cases e:cJ (cK r c) hd ls with
  |none=>exact⟨rfl,b,by simp,by simp,by simp,by simp,⟨c0,c1⟩,by simp⟩
  |some q=>
   obtain⟨d,t,l⟩:=q;obtain⟨a1,a2,a3,a4,a5,a6,a7⟩:=PV hm c0 c1 h1 h2 b e;have ih:=PX rs (c+d) d l (λr hr=>ok r (fE _ hr)) a3 a4 a1 a2 a6;refine⟨ih.l1.trans a5,ih.l2,λx hx=>?_,?_,λh=>?_,λh=>?_,ih.c4,?_⟩;rcases gH.mp hx with rfl|hx;exact⟨a3,a4⟩;exact ih.c1 x hx;simp only[cG];have:=ih.c2;lia;simp only[cG];have:=ih.c3 h;lia;simp only[cG];have:=ih.c5 h;lia;simp only[cG,fU];have:=ih.t1;lia
theorem Y4{r:List W}{rs:List (List W)}{c hd:Int}{ls:List Int}(e:cJ (cK r c) hd ls=aC):bg (r::rs) c hd ls=⟨[],[],ls,true⟩:=by unfold bg;rw[e]
theorem Y5{r:List W}{rs:List (List W)}{c hd d:Int}{ls t l:List Int}(e:cJ (cK r c) hd ls=aB (d,t,l)):bg (r::rs) c hd ls=⟨(c+d):: (bg rs (c+d) d l).cs,t++(bg rs (c+d) d l).ts,(bg rs (c+d) d l).ls,(bg rs (c+d) d l).st⟩:=by rw[bg,e]
noncomputable def st3(h:VH)(gs:List VO)(c t l:List W):VH:=⟨h.n+3+gs.length,h.n,gs++(.lst l :: .lst t :: .lst c::h.os)⟩
theorem xo{h:VH}{gs:List VO}{c t l:List W}:(st3 h gs c t l).get h.n=aB (.lst c):=by unfold st3 VH.get;rw[if_pos (iC.mpr (by show h.n<h.n+3+gs.length;lia))];show(gs++(.lst l :: .lst t :: .lst c::h.os))[h.n+3+gs.length-1-h.n]?=_;rw[oq (by lia),show h.n+3+gs.length-1-h.n-gs.length=2 by lia];rfl
theorem xq{h:VH}{gs:List VO}{c t l:List W}:(st3 h gs c t l).get (h.n+1)=aB (.lst t):=by unfold st3 VH.get;rw[if_pos (iC.mpr (by show h.n+1<h.n+3+gs.length;lia))];show(gs++(.lst l :: .lst t :: .lst c::h.os))[h.n+3+gs.length-1- (h.n+1)]?=_;rw[oq (by lia),show h.n+3+gs.length-1- (h.n+1)-gs.length=1 by lia];rfl
theorem Ce{h:VH}{gs:List VO}{c t l:List W}:(st3 h gs c t l).get (h.n+2)=aB (.lst l):=by unfold st3 VH.get;rw[if_pos (iC.mpr (by show h.n+2<h.n+3+gs.length;lia))];show(gs++(.lst l :: .lst t :: .lst c::h.os))[h.n+3+gs.length-1- (h.n+2)]?=_;rw[oq (by lia),show h.n+3+gs.length-1- (h.n+2)-gs.length=0 by lia];rfl
theorem PY{a b:Nat}(h:b<=a):Nat.blt a b=false:=by
 cases q:Nat.blt a b with|false=>rfl|true=>have:=iC.mp q;lia
theorem Y6{h:VH}{gs:List VO}{c t l c':List W}:(st3 h gs c t l).set h.n (.lst c')=st3 h gs c' t l:=by unfold st3 VH.set;simp only[PY (aZ h.n)];rw[List.set_append_right _ _ (by lia),show h.n+3+gs.length-1-h.n-gs.length=2 by lia];rfl
theorem Y7{h:VH}{gs:List VO}{c t l t':List W}:(st3 h gs c t l).set (h.n+1) (.lst t')=st3 h gs c t' l:=by unfold st3 VH.set;simp only[PY (p9 h.n)];rw[List.set_append_right _ _ (by lia),show h.n+3+gs.length-1- (h.n+1)-gs.length=1 by lia];rfl
theorem iF{h:VH}{x y:Str}(hx:PyData.strOk x)(hy:PyData.strOk y):dD h (.str x) (.str y)=aB (x==y):=by rw[pN (x:=y) (by exact hx) hy];rfl
@[simp] theorem Jx {h:VH}:dD h (.str sX) (.str (bN "x"))=aB true:=(iF (by decide +kernel) (by decide +kernel)).trans (by decide +kernel)
@[simp] theorem Fc {h:VH}:dD h (.str sX) (.str (bN "<"))=aB false:=(iF (by decide +kernel) (by decide +kernel)).trans (by decide +kernel)
@[simp] theorem Fd {h:VH}:dD h (.str sX) (.str (bN ">"))=aB false:=(iF (by decide +kernel) (by decide +kernel)).trans (by decide +kernel)
@[simp] theorem Cf {h:VH}:dD h (.str sX) (.str (bN "."))=aB false:=(iF (by decide +kernel) (by decide +kernel)).trans (by decide +kernel)
@[simp] theorem Jy {h:VH}:dD h (.str sX) (.str (bN "s"))=aB false:=(iF (by decide +kernel) (by decide +kernel)).trans (by decide +kernel)
@[simp] theorem Fe {h:VH}:dD h (.str fP) (.str (bN "x"))=aB false:=(iF (by decide +kernel) (by decide +kernel)).trans (by decide +kernel)
@[simp] theorem Cg {h:VH}:dD h (.str fP) (.str (bN "<"))=aB true:=(iF (by decide +kernel) (by decide +kernel)).trans (by decide +kernel)
@[simp] theorem Ci {h:VH}:dD h (.str fP) (.str (bN ">"))=aB false:=(iF (by decide +kernel) (by decide +kernel)).trans (by decide +kernel)
@[simp] theorem yM {h:VH}:dD h (.str fP) (.str (bN "."))=aB false:=(iF (by decide +kernel) (by decide +kernel)).trans (by decide +kernel)
@[simp] theorem Ff {h:VH}:dD h (.str fP) (.str (bN "s"))=aB false:=(iF (by decide +kernel) (by decide +kernel)).trans (by decide +kernel)
@[simp] theorem Fg {h:VH}:dD h (.str jZ) (.str (bN "x"))=aB false:=(iF (by decide +kernel) (by decide +kernel)).trans (by decide +kernel)
@[simp] theorem Cj {h:VH}:dD h (.str jZ) (.str (bN "<"))=aB false:=(iF (by decide +kernel) (by decide +kernel)).trans (by decide +kernel)
@[simp] theorem Ck {h:VH}:dD h (.str jZ) (.str (bN ">"))=aB true:=(iF (by decide +kernel) (by decide +kernel)).trans (by decide +kernel)
@[simp] theorem yN {h:VH}:dD h (.str jZ) (.str (bN "."))=aB false:=(iF (by decide +kernel) (by decide +kernel)).trans (by decide +kernel)
@[simp] theorem Fi {h:VH}:dD h (.str jZ) (.str (bN "s"))=aB false:=(iF (by decide +kernel) (by decide +kernel)).trans (by decide +kernel)
@[simp] theorem Cm {h:VH}:dD h (.str dP) (.str (bN "x"))=aB false:=(iF (by decide +kernel) (by decide +kernel)).trans (by decide +kernel)
@[simp] theorem yO {h:VH}:dD h (.str dP) (.str (bN "<"))=aB false:=(iF (by decide +kernel) (by decide +kernel)).trans (by decide +kernel)
@[simp] theorem yP {h:VH}:dD h (.str dP) (.str (bN ">"))=aB false:=(iF (by decide +kernel) (by decide +kernel)).trans (by decide +kernel)
@[simp] theorem xr {h:VH}:dD h (.str dP) (.str (bN "."))=aB true:=(iF (by decide +kernel) (by decide +kernel)).trans (by decide +kernel)
@[simp] theorem Cn {h:VH}:dD h (.str dP) (.str (bN "s"))=aB false:=(iF (by decide +kernel) (by decide +kernel)).trans (by decide +kernel)
@[simp] theorem Jz {h:VH}:dD h (.str sS) (.str (bN "x"))=aB false:=(iF (by decide +kernel) (by decide +kernel)).trans (by decide +kernel)
@[simp] theorem Fj {h:VH}:dD h (.str sS) (.str (bN "<"))=aB false:=(iF (by decide +kernel) (by decide +kernel)).trans (by decide +kernel)
@[simp] theorem Fo {h:VH}:dD h (.str sS) (.str (bN ">"))=aB false:=(iF (by decide +kernel) (by decide +kernel)).trans (by decide +kernel)
@[simp] theorem Co {h:VH}:dD h (.str sS) (.str (bN "."))=aB false:=(iF (by decide +kernel) (by decide +kernel)).trans (by decide +kernel)
@[simp] theorem JA {h:VH}:dD h (.str sS) (.str (bN "s"))=aB true:=(iF (by decide +kernel) (by decide +kernel)).trans (by decide +kernel)
theorem Y8{h0:VH}{gs:List VO}{c t l l':List W}{w:W}:leave (st3 h0 gs c t l) w (VH.set ⟨(st3 h0 gs c t l).n,(st3 h0 gs c t l).n,(st3 h0 gs c t l).os⟩ (h0.n+2) (.lst l'))=.ok w (st3 h0 gs c t l'):=by
 have hb:Nat.blt (h0.n+2) (h0.n+3+gs.length)=true:=iC.mpr (by lia);have hn:Nat.ble (h0.n+3+gs.length) (h0.n+2)=false:=by
  cases q:Nat.ble (h0.n+3+gs.length) (h0.n+2)with|false=>rfl|true=>have:=lu q;lia
 have hl:Nat.ble h0.n (h0.n+2)=true:=qS.mpr (by lia);unfold leave VH.set st3;simp only[hb,bY,hn,xX,hl];rw[if_neg (by simp),List.set_append_right _ _ (by lia),show h0.n+3+gs.length-1- (h0.n+2)-gs.length=0 by lia];rfl
theorem Y9{ls:List Int}{a:Nat}(h:a<ls.length):fV (ls.map W.int) (a:Int)=aB (.int (ls.getD a 0)):=
 nX (by rw[dS,dh h,pX,dh h];rfl)
theorem PZ{n a:Nat}(h:a<n):jd n (a:Int)=aB a:=by unfold jd;rw[if_pos (by lia),if_pos (by lia)];simp
theorem Za{cl:Call}{a b:S}{ρ ρ':En}{h h':VH}(e:exs cl a ρ h=.ok (.bk ρ') h'):exs cl (.seq a b) ρ h=.ok (.bk ρ') h':=by simp only[exs,e,aD]
theorem P0{wd g c:Int}{r:List W}(ok:(r.length:Int)=wd/\cH wd g 0 r)(c0:0<=c)(c1:c<wd):fV r c=aB (cK r c):=by have:=(Cd ok c0 c1).1;obtain⟨n,rfl⟩:=ya c0;rw[vg]at this;exact nX this
noncomputable def iW(ls:List Int):W:=.tup (ls.map .int)
theorem Cq{n:Nat}{ls:List Int}:W.lt n (iW ls)=true:=by
 unfold iW;rw[lO];induction ls with|nil=>simp|cons x r ih=>rw[fm,iX,ih,lt_int];rfl
theorem Bd.Ok.xu{B:Bd}(b:B.Ok){f:Nat}(hf:f<B.fd.length):∃c:Int,B.fd[f]?=aB (.int c)/\0<=c/\c<B.wd:=by
 have h:=b.f3 _ (kZ hf);have e:B.fd[f]?=aB B.fd[f]:=dh hf;generalize B.fd[f]=w at h e;cases w<;>simp only[within]at h<;>try(cases h;done)
 rename_i c;rw[bJ,fS,fS]at h;exact⟨c,e,h.1,by lia⟩
noncomputable def Bd.col(B:Bd)(f:Nat):Int:=match B.fd[f]? with|some (.int c)=>c|_=>0
theorem Bd.Ok.col{B:Bd}(b:B.Ok){f:Nat}(hf:f<B.fd.length):B.fd[f]?=aB (.int (B.col f))/\0<=B.col f/\B.col f<B.wd:=by
 obtain⟨c,e,h⟩:=b.xu hf;have:B.col f=c:=by unfold Bd.col;rw[e]
 rw[this];exact⟨e,h⟩
noncomputable def Bd.dY(B:Bd)(ls:List Int)(f:Nat):Fa:=bg B.rows (B.col f) 0 ls
theorem Bd.Ok.rows{B:Bd}(b:B.Ok){ls:List Int}(hl:(ls.length:Int)=B.gr):yL B.wd (ls.length:Int) B.rows:=by rw[hl];exact b.r2
theorem Bd.Ok.dY{B:Bd}(b:B.Ok){ls:List Int}{f:Nat}(hf:f<B.fd.length)(hl:(ls.length:Int)=B.gr)(bi:iE ls):(B.dY ls f).Ok B.wd (B.col f) B.rows.length ls.length:=
 PX _ _ _ _ (b.rows hl) (b.col hf).2.1 (b.col hf).2.2 (by decide) (by decide) bi
noncomputable def sU(B:Bd)(ls:List Int)(f:Nat):W:=.tup [iW (B.col f:: (B.dY ls f).cs),iW (B.dY ls f).ts,iW (B.dY ls f).ls]
theorem Zb{B:Bd}{ls:List Int}{f n:Nat}:W.lt n (sU B ls f)=true:=by unfold sU;simp[Cq]
theorem JB{cl:Call}{i l:Nat}{ρ:En}{h:VH}{ws:List W}(nK:ρ[i]?=aB (aB (.ref l)))(g:h.get l=aB (.lst ws)):ev cl (.bi .tuple (.cons (.var i) .nil)) ρ h=.ok (.tup ws) h:=by simp only[ev,nK,vf,cA,aD,mj,vR,aR,g,ly]
theorem JC{cl:Call}{a b c:E}{ρ:En}{h:VH}{x y z:W}(ea:ev cl a ρ h=.ok x h)(eb:ev cl b ρ h=.ok y h)(ec:ev cl c ρ h=.ok z h):ev cl (.tup (.cons a (.cons b (.cons c .nil)))) ρ h=.ok (.tup [x,y,z]) h:=by rw[ev,ev,ea,aD,ev,eb,aD,ev,ec,aD,ev];rfl
theorem P4:∀(cs:List Int) (c:Int),(c::cs)[cs.length]?=aB (gA c cs)
 |[],c=>rfl
 |x::r,c=>by
  rw[cG,pY];exact P4 r x
theorem Zc{cs:List Int}{c:Int}:fV ((c::cs).map W.int) (-1)=aB (.int (gA c cs)):=by
 have e:jd ((c::cs).map W.int).length (-1)=aB cs.length:=by unfold jd;rw[if_neg (by decide),bx,cG,if_pos (by lia)];congr 1;lia
 unfold fV;rw[e,Dt,dS,P4];rfl
theorem Zd{h:VH}{p q:Int}{x:Str}(hx:PyData.strOk x):dD h (.tup [.int p,.int q]) (.str x)=aB false:=by rw[pN (x:=x) rfl hx];rfl
noncomputable abbrev Kv:=List (L2.Key×W)
noncomputable def cC(w:Nat)(kvs:Kv):List W:=(List.range w).map λ(i:Nat)=>(aS kvs (.inl (i:Int))).getD (.str dP)
noncomputable def fQ:List Int->List (Int×Int×Int)|a::b::r=>(a,(a+b)/2,b)::fQ r|_=>[]
noncomputable def oh(cs:List Int)(aM:List (Int×Int×Int)):List Int:=aM.map (λf=>f.2.1)++cs.drop (2*aM.length)
noncomputable def pQ(g:Int)(aM:List (Int×Int×Int)):Kv:=aM.foldl (λkv f=>bB kv (.inl f.2.1) (.tup [.int g,.int 0])) []
noncomputable def qt(s:Int)(aM:List (Int×Int×Int)):Kv:=aM.foldl (λkv f=>if f.1<f.2.1-s then bB kv (.inl (f.2.1-s)) (.str fP)else kv) []
noncomputable def uO(s:Int)(aM:List (Int×Int×Int)):Kv:=aM.foldl (λkv f=>if f.2.1+s<f.2.2 then bB kv (.inl (f.2.1+s)) (.str jZ)else kv) []
noncomputable def yQ(kvs more:Kv):Kv:=more.foldl (λacc kv=>bB acc kv.1 kv.2) kvs
noncomputable def gap(f:Int×Int×Int):Int:=if f.2.2-f.2.1>f.2.1-f.1 then f.2.2-f.2.1 else f.2.1-f.1
noncomputable def sV:Int->List Int->Int|x,[]=>x|x,y::r=>sV (if y>x then y else x) r
noncomputable def gZ:List (Int×Int×Int)->Int|[]=>0|f::r=>sV (gap f) (r.map gap)
noncomputable def Cr(w:Nat)(aM:List (Int×Int×Int))(i:Nat):List W:=cC w (yQ (qt ((i:Int)+1) aM) (uO ((i:Int)+1) aM))
noncomputable def Cs(w:Nat)(g:Int)(aM:List (Int×Int×Int)):List (List W):=cC w (pQ g aM):: (List.range (gZ aM-1).toNat).map λi=>Cr w aM i
noncomputable def jC(w:Nat):Nat->Nat->List (List Int)->List (List W)->List (List W)×List (List Int)|0,_,lanes,rows=>(rows,lanes)|n+1,g,lanes,rows=>jC w n (g+1) (List.zipWith oh lanes (lanes.map fQ)) (Cs w g (lanes.map fQ).flatten++rows)
noncomputable def mG(S P:Nat):List (List Int):=(List.range P).map λ(f:Nat)=>(List.range S).map λ(s:Nat)=>2* ((f:Int)*S+s)+1
noncomputable def aU(S:Nat):Nat:=if S<=1 then 0 else if S<=2 then 1 else if S<=4 then 2 else if S<=8 then 3 else 4
noncomputable def bz(S P:Nat):Nat:=2*S*P+1
noncomputable def aQ(S P:Nat):List (List W):=(jC (bz S P) (aU S) 0 (mG S P) []).1
noncomputable def kP:List Int->Int|x::_=>x|[]=>0
noncomputable def aX(S P:Nat):List Int:=(jC (bz S P) (aU S) 0 (mG S P) []).2.map kP
noncomputable def aT(S P:Nat):Bd:=⟨bz S P,aU S,aQ S P,(aX S P).map .int,bI (bz S P) (.tup [.int 0,.int 0])⟩
noncomputable def aO:Int->Nat->List Int|_,0=>[]|z,n+1=>z % 2::aO (z/2) n
noncomputable def iG(S f s:Nat):Int:=2* ((f:Int)*S+s)+1
noncomputable def Fp(wd g:Int):Int->List W->Bool|_,[]=>true|c,w::r=>jk w c wd g&&Fp wd g (c+1) r
theorem P5{wd g:Int}:∀{c:Int} {r:List W},Fp wd g c r=true->cH wd g c r
 |_,[],_=>trivial
 |c,w::r,h=>by
  simp only[Fp,bJ]at h;exact⟨h.1,P5 h.2⟩
noncomputable def xw:Nat->List (List Int)->Bool|0,lanes=>lanes.all λl=>!l.isEmpty|n+1,lanes=>!(lanes.map fQ).flatten.isEmpty&&xw n (List.zipWith oh lanes (lanes.map fQ))
noncomputable def Ct(S P:Nat):Bool:=
 (aQ S P).length<=60&& (aQ S P).all (λr=>r.length==bz S P&&Fp (bz S P) (aU S) 0 r)
 && (aX S P).length==P&& (aX S P).all (λc=>decide (0<=c)&&decide (c<=(bz S P:Int)-1))&&xw (aU S) (mG S P)
noncomputable def jQ(S P:Nat):Bool:=(List.range P).all λf=>(List.range S).all λs=>
 match bg (aQ S P) ((aX S P).getD f 0) 0 (aO s (aU S))with|⟨cs,_,_,st⟩=>!st&&cs.length==(aQ S P).length&&gA ((aX S P).getD f 0) cs==iG S f s
noncomputable def lP:List (Nat×Nat):=(List.range 16).flatMap λs=>((List.range 4).filter λp=>decide ((s+1)* (p+1)<=16)).map λp=>(s+1,p+1)
theorem Ze:(lP.all λx=>Ct x.1 x.2)=true:=by decide +kernel
theorem Zf:(lP.all λx=>jQ x.1 x.2)=true:=by decide +kernel
theorem Cu{S P:Nat}(s1:1<=S)(p1:1<=P)(p4:P<=4)(sp:S*P<=16):(S,P)∈lP:=by
 have gV:S<=16:=gJ (by calc S=S*1:=(Nat.mul_one S).symm
  _<=S*P:=Nat.mul_le_mul_left _ p1) sp
 refine List.mem_flatMap.mpr ⟨S-1,lV.mpr (by lia),iH.mpr ⟨P-1,List.mem_filter.mpr ⟨lV.mpr (by lia),?_⟩,?_⟩⟩;rw[Dp s1,Dp p1];exact kY sp;rw[Dp s1,Dp p1]
structure Shape(S P:Nat):Prop where
 s1:1<=S
 p1:1<=P
 p4:P<=4
 sp:S*P<=16
section
variable{S P:Nat}
theorem Shape.Ct(h:Shape S P):Ct S P=true:=fX.mp Ze _ (Cu h.s1 h.p1 h.p4 h.sp)
theorem Shape.jQ(h:Shape S P):jQ S P=true:=fX.mp Zf _ (Cu h.s1 h.p1 h.p4 h.sp)
theorem Shape.gV(h:Shape S P):S<=16:=gJ (by calc S=S*1:=(Nat.mul_one S).symm
 _<=S*P:=Nat.mul_le_mul_left _ h.p1) h.sp
theorem Shape.wd(h:Shape S P):bz S P<=33:=by have:=h.sp;unfold bz;rw[Nat.mul_assoc];lia
theorem sW:aU S<=4:=by unfold aU;split<;> (try split)<;> (try split)<;> (try split)<;>lia
theorem Shape.rows(h:Shape S P):yL (bz S P) (aU S) (aQ S P)/\(aQ S P).length<=60/\(aX S P).length=P/\(∀c∈aX S P,0<=c/\c<=(bz S P:Int)-1)/\xw (aU S) (mG S P)=true:=by have q:=h.Ct;simp only[RF.Ct,bJ,fS,fX,tG]at q;obtain⟨⟨⟨⟨q1,q2⟩,q3⟩,q4⟩,q5⟩:=q;refine⟨λr hr=>⟨by rw[(q2 r hr).1],P5 (q2 r hr).2⟩,q1,q3,λc hc=>?_,q5⟩;exact q4 c hc
theorem Shape.ok(h:Shape S P):(aT S P).Ok:=by
 obtain⟨r,r1,f1,f2,_⟩:=h.rows;have w:=h.wd;refine⟨?_,?_,?_,?_,r1,r,?_,?_,?_,?_,?_⟩;show(1:Int)<=(bz S P:Nat)
 unfold bz;lia;show((bz S P:Nat):Int)<=40;lia;exact Int.natCast_nonneg _;have:=sW (S:=S);show((aU S:Nat):Int)<=8;lia;show 1<=((aX S P).map W.int).length;rw[bx,f1];exact h.p1;show((aX S P).map W.int).length<=4;rw[bx,f1];exact h.p4;intro f hf;obtain⟨c,hc,rfl⟩:=iH.mp hf;have:=f2 c hc;show(decide (0<=c)&&decide (c<=(bz S P:Int)-1))=true;rw[kY this.1,kY this.2];rfl;show((bI (bz S P) _).length:Int)=_;rw[tK];rfl;intro d hd;rw[za hd];show(within (.int 0) 0 99&&sQ (.int 0) _)=true;have:1<=(aT S P).fd.length:=by show 1<=((aX S P).map W.int).length;rw[bx,f1];exact h.p1
 simp only[within,sQ,bJ,fS,cV];simp;lia
theorem qw:∀{z:Int} {n:Nat},(aO z n).length=n|_,0=>rfl|z,n+1=>by rw[aO,cG,qw]
theorem yR:∀{n:Nat} {z:Int},iE (aO z n)
 |0,_=>λx h=>by cases h
 |n+1,z=>λx h=>by
  rcases gH.mp h with rfl|h;exact Int.emod_two_eq z;exact yR x h
theorem Shape.col(h:Shape S P){f:Nat}(hf:f<P):(aT S P).col f=(aX S P).getD f 0:=by
 have l:=h.rows.2.2.1;have e:(aX S P)[f]?=aB ((aX S P)[f]'(by rw[l];exact hf)):=dh _;unfold Bd.col;show(match((aX S P).map W.int)[f]? with|some (.int c)=>c|_=>0)=_
 rw[dS,e,pX,e];rfl
theorem Shape.dY(h:Shape S P){f s:Nat}(hf:f<P)(hs:s<S):((aT S P).dY (aO s (aU S)) f).st=false/\((aT S P).dY (aO s (aU S)) f).cs.length=(aQ S P).length/\
 gA ((aT S P).col f) ((aT S P).dY (aO s (aU S)) f).cs=iG S f s:=by
 have q:=fX.mp (fX.mp h.jQ f (lV.mpr hf)) s (lV.mpr hs);unfold Bd.dY;rw[h.col hf];show(bg (aQ S P) ((aX S P).getD f 0) 0 (aO s (aU S))).st=false/\(bg (aQ S P) ((aX S P).getD f 0) 0 (aO s (aU S))).cs.length=_/\gA _ (bg (aQ S P) ((aX S P).getD f 0) 0 (aO s (aU S))).cs=_;generalize bg (aQ S P) ((aX S P).getD f 0) 0 (aO s (aU S))=Fa at q;obtain⟨cs,ts,ls,st⟩:=Fa;simp only[bJ,vc,tG]at q;exact⟨q.1.1,q.1.2,q.2⟩
end
theorem P6{k k':L2.Key}{w:W}:∀{kv:Kv},aS (kv.map λx=>if x.1=k then(x.1,w)else x) k'=if k'=k then(if(kv.any λx=>decide (x.1=k))=true then aB w else aC)else aS kv k'
 |[]=>by simp[aS]
 |x::r=>by
  have ih:=P6 (k:=k) (k':=k') (w:=w) (kv:=r);unfold aS at ih ⊢;rw[fm,oB,oB,xW];by_cases e:x.1=k;by_cases e':k'=k;subst e';simp[e];have:¬x.1=k':=λq=>e' (by rw[<-q,e]);rw[if_neg e']at ih;simp[e,e',this];simp at ih;have h2:¬k=k':=λq=>e' q.symm;simpa[e,h2]using ih;by_cases e':k'=k;subst e';have e3:decide (x.1=k')=false:=jn e;rw[e3,Bool.false_or,if_neg e];rw[if_pos rfl]at ih ⊢;rw[<-ih];simp only[e3];rw[if_neg e']at ih;by_cases e2:x.1=k';simp[e,e2,e'];simp[e,e2,e'];simpa using ih
theorem Zg{k k':L2.Key}{w:W}{kv:Kv}(h:¬(kv.any λx=>decide (x.1=k))):aS (kv++[(k,w)]) k'=if k'=k then aB w else aS kv k':=by
 unfold aS;rw[List.find?_append];by_cases e:k'=k;subst e;have:kv.find? (λx=>decide (x.1=k'))=aC:=by rw[List.find?_eq_none];intro x hx q;exact h (Dh.mpr ⟨x,hx,q⟩)
 rw[this];simp;have h2:¬k=k':=λq=>e q.symm;rw[if_neg e];simp[h2]
theorem JD{k k':L2.Key}{w:W}{kv:Kv}:aS (bB kv k w) k'=if k'=k then aB w else aS kv k':=by unfold bB;split;rename_i h;rw[P6,if_pos h];rename_i h;exact Zg h
theorem JE{k:L2.Key}{w:W}{kv:Kv}:(bB kv k w).length<=kv.length+1:=by unfold bB;split;rw[bx];exact p9 _;rw[fU];exact aZ _
structure Ev where
 c:Int
 n:Int
 b:List Int
 t:List Int
noncomputable def bL(g:Nat)(kv:Kv)(e:Ev):Kv:=if e.b.getD g 0=e.t.getD g 0 then kv else bB kv (.inl e.c) (.tup [.int g,.int (1-e.b.getD g 0)])
noncomputable def eU(g:Nat)(es:List Ev):Kv:=es.foldl (bL g) []
noncomputable def cZ(d:List W)(e:Ev):List W:=d.set e.c.toNat (.tup [.int e.n,.int 0])
theorem P7{g:Nat}{kv:Kv}{e:Ev}{c:Int}(h:e.c≠c):aS (bL g kv e) (.inl c)=aS kv (.inl c):=by unfold bL;split;rfl;rw[JD,if_neg];intro q;exact h (DF q).symm
theorem JF{g:Nat}{c:Int}:∀{es:List Ev} {kv:Kv},(∀e∈es,e.c≠c)->aS (es.foldl (bL g) kv) (.inl c)=aS kv (.inl c)
 |[],_,_=>rfl
 |e::r,kv,h=>by
  rw[lU,JF λx hx=>h x (fE _ hx),P7 (h e fT)]
theorem P8{g:Nat}{e:Ev}:∀{es:List Ev} {kv:Kv},e∈es->(es.map Ev.c).Nodup->aS kv (.inl e.c)=aC->aS (es.foldl (bL g) kv) (.inl e.c)=if e.b.getD g 0=e.t.getD g 0 then aC else aB (.tup [.int g,.int (1-e.b.getD g 0)])
 |x::r,kv,h,nd,q=>by
  rw[fm,u5]at nd;rw[lU];rcases gH.mp h with rfl|h
  rw[JF λy hy q=>nd.1 (iH.mpr ⟨y,hy,q⟩)];unfold bL;split;exact q;rw[JD,if_pos rfl];have:x.c≠e.c:=λq=>nd.1 (iH.mpr ⟨e,h,q.symm⟩);exact P8 h nd.2 (by rw[P7 this];exact q)
theorem JG:∀{es:List Ev} {d:List W},(es.foldl cZ d).length=d.length|[],_=>rfl|e::r,d=>by rw[lU,JG,cZ,xT]
noncomputable def j5(kv:Kv):Kv:=kv.foldl (λacc x=>match x.1 with|.inl i=>bB acc (.inl (i+1)) (.str fP)|.inr _=>acc) []
noncomputable def keyed(kv:Kv)(c:Int):Bool:=kv.any λx=>decide (x.1=.inl c)
theorem Zh{kv:Kv}{c:Int}:(aS kv (.inl c)).isSome=keyed kv c:=by unfold aS keyed;rw[Option.isSome_map,Bool.eq_iff_iff,List.find?_isSome,Dh]
theorem JH{c:Int}:∀{kv acc:Kv},aS (kv.foldl (λacc x=>match x.1 with
 |.inl i=>bB acc (.inl (i+1)) (.str fP)
 |.inr _=>acc) acc) (.inl c)=if keyed kv (c-1)=true then aB (.str fP)else aS acc (.inl c)
 |[],acc=>rfl
 |(.inl i,w)::r,acc=>by
  rw[lU,JH];have hk:keyed ((.inl i,w)::r) (c-1)=(decide ((.inl i:L2.Key)=.inl (c-1))||keyed r (c-1)):=rfl;rw[hk];show(if keyed r (c-1)=true then aB (W.str fP)else aS (bB acc (.inl (i+1)) (.str fP)) (.inl c))=_;rw[JD];by_cases h:keyed r (c-1)=true;simp[h];by_cases h2:i=c-1;subst h2;simp[h];have h3:¬(c=i+1):=by lia
  have h4:¬(.inl c:L2.Key)=.inl (i+1):=λq=>h3 (DF q);have h5:¬(.inl i:L2.Key)=.inl (c-1):=λq=>h2 (DF q);rw[if_neg h,if_neg h4];simp[h,h5]
 |(.inr s,w)::r,acc=>by
  rw[lU,JH];have hk:keyed ((.inr s,w)::r) (c-1)=(decide ((.inr s:L2.Key)=.inl (c-1))||keyed r (c-1)):=rfl;rw[hk];have:¬(.inr s:L2.Key)=.inl (c-1):=λq=>nomatch q
  simp[this]
theorem Zi{kv:Kv}{c:Int}:aS (j5 kv) (.inl c)=if(aS kv (.inl (c-1))).isSome=true then aB (.str fP)else aC:=by unfold j5;rw[JH,Zh];rfl
theorem Zj{kv:Kv}:(j5 kv).length<=kv.length:=by
 have:∀(kv acc:Kv),(kv.foldl (λacc x=>match x.1 with
  |.inl i=>bB acc (.inl (i+1)) (.str fP)
  |.inr _=>acc) acc).length<=acc.length+kv.length:=by
  intro kv;induction kv with
  |nil=>intro acc;exact aZ _
  |cons x r ih=>
   intro acc;rw[lU,cG];refine gJ (ih _) ?_;obtain⟨k,w⟩:=x;cases k with
   |inl i=>
    have:=JE (k:=.inl (i+1)) (w:=.str fP) (kv:=acc);show(bB acc _ _).length+_<=_;lia
   |inr s=>show acc.length+_<=_;lia
 refine gJ (this kv []) ?_;simp
theorem Cv{w:Nat}{kv:Kv}:(cC w kv).length=w:=by unfold cC;rw[bx,nT]
theorem P9{wd g:Int}:∀{ws:List W} {c:Int},(∀i (hi:i<ws.length),jk ws[i] (c+i) wd g=true)->cH wd g c ws
 |[],_,_=>trivial
 |x::r,c,h=>⟨by have:=h 0 (Nat.succ_pos _);rw[show c+ ((0:Nat):Int)=c from Int.add_zero c]at this;exact this,P9 λi hi=>by
  have:=h (i+1) (by simpa using hi);rw[show c+1+ (i:Int)=c+ ((i+1:Nat):Int) by push_cast;lia];simpa using this⟩
theorem Qa{w:Nat}{g:Int}{kv:Kv}(h:∀c:Int,0<=c->c<w->jk ((aS kv (.inl c)).getD (.str dP)) c w g):cH w g 0 (cC w kv):=by
 refine P9 λi hi=>?_;rw[Cv]at hi;have:(cC w kv)[i]'(by rw[Cv];exact hi)=(aS kv (.inl (i:Int))).getD (.str dP):=by simp[cC]
 rw[this,Int.zero_add];exact h _ (Int.natCast_nonneg _) (by lia)
structure kQ(N G:Nat)(es:List Ev):Prop where
 nd:(es.map Ev.c).Nodup
 odd:∀e∈es,∃i:Nat,i<N/\e.c=2* (i:Int)+1
 bl:∀e∈es,e.b.length=G
 tl:∀e∈es,e.t.length=G
 bb:∀e∈es,iE e.b
 tb:∀e∈es,iE e.t
section
variable{N G:Nat}{es:List Ev}
theorem kQ.look(h:kQ N G es){e:Ev}(he:e∈es)(g:Nat):aS (eU g es) (.inl e.c)=if e.b.getD g 0=e.t.getD g 0 then aC else aB (.tup [.int g,.int (1-e.b.getD g 0)]):=P8 he h.nd rfl
theorem kQ.Cw(h:kQ N G es){c:Int}(hc:∀e∈es,e.c≠c)(g:Nat):aS (eU g es) (.inl c)=aC:=by unfold eU;rw[JF hc];rfl
noncomputable def cg(w:Nat)(es:List Ev)(g:Nat):List (List W):=[cC w (eU g es),cC w (j5 (eU g es))]
theorem JI{c wd g:Int}:jk (.str dP) c wd g=true:=rfl
theorem kQ.xx(h:kQ N G es){w:Nat}(hw:w=2*N+1):yL w G ((List.range' 0 G).flatMap (cg w es)):=by
 intro r hr;obtain⟨g,hg,hr⟩:=List.mem_flatMap.mp hr;have hg:=(Df.mp hg).2;rcases gH.mp hr with rfl|hr
 refine⟨by rw[Cv],Qa λc c0 c1=>?_⟩;by_cases q:∃e∈es,e.c=c;obtain⟨e,he,rfl⟩:=q;obtain⟨i,hi,ec⟩:=h.odd e he;rw[h.look he];split;exact JI;have hb:=h.bb e he _ (kZ (show g<e.b.length by rw[h.bl e he];lia));have hb2:e.b.getD g 0=e.b[g]'(by rw[h.bl e he];lia):=by rw[pX,dh (by rw[h.bl e he];lia)];rfl
 rw[<-hb2]at hb;have hrk:n9 (.tup [.int g,.int (1-e.b.getD g 0)]) G=true:=by simp only[n9,within,bJ,fS];lia
 show jk (.tup [.int g,.int (1-e.b.getD g 0)]) e.c w G=true;unfold jk;rw[hrk,Bool.or_true,if_pos rfl,kY (show 0<e.c by lia),kY (show e.c< (w:Int)-1 by lia)];rfl;rw[h.Cw λe he z=>q ⟨e,he,z⟩];exact JI;rw[mS.mp hr];refine⟨by rw[Cv],Qa λc c0 c1=>?_⟩;rw[Zi];split;rename_i z;by_cases q:∃e∈es,e.c=c-1;obtain⟨e,he,ec⟩:=q;obtain⟨i,hi,e2⟩:=h.odd e he;show decide (0<c)=true;exact kY (by lia);rw[h.Cw λe he z=>q ⟨e,he,z⟩]at z;cases z;exact JI
noncomputable def pR(S P:Nat)(es:List Ev):List (List W):=aQ S P++(List.range' 0 (aU S)).flatMap (cg (bz S P) es)
theorem Qc{S P:Nat}(sh:Shape S P)(h:kQ (S*P) (aU S) es):yL (bz S P) (aU S) (pR S P es):=by
 intro r hr;rcases uZ.mp hr with hr|hr
 exact sh.rows.1 r hr;exact h.xx (by unfold bz;rw[Nat.mul_assoc]) r hr
end
structure xy(S P:Nat)(M:List (List (Int×Int))):Prop where
 l:M.length=S
 r:∀row∈M,row.length=P
 p:∀row∈M,∀x∈row,0<=x.1/\x.1<=99/\0<=x.2/\x.2<S
noncomputable def lQ(S P s f:Nat)(x:Int×Int):Ev:=⟨iG S f s,x.1,((aT S P).dY (aO s (aU S)) f).ls,aO x.2 (aU S)⟩
noncomputable def dg(S P s:Nat):Nat->List (Int×Int)->List Ev|_,[]=>[]|f,x::r=>lQ S P s f x::dg S P s (f+1) r
noncomputable def bS(S P:Nat):Nat->List (List (Int×Int))->List Ev|_,[]=>[]|s,x::r=>dg S P s 0 x++bS S P (s+1) r
section
variable{S P:Nat}
theorem Fq{s:Nat}{e:Ev}:∀{f:Nat} {row:List (Int×Int)},e∈dg S P s f row->∃i x,row[i]?=aB x/\e=lQ S P s (f+i) x
 |f,x::r,h=>by
  rcases gH.mp h with rfl|h;exact⟨0,x,rfl,rfl⟩;obtain⟨i,y,h1,h2⟩:=Fq h;exact⟨i+1,y,h1,by rw[h2,show f+1+i=f+ (i+1) by lia]⟩
theorem Ft{e:Ev}:∀{s:Nat} {M:List (List (Int×Int))},e∈bS S P s M->∃j i row x,M[j]?=aB row/\row[i]?=aB x/\e=lQ S P (s+j) i x
 |s,row::M,h=>by
  rcases uZ.mp h with h|h;obtain⟨i,x,h1,h2⟩:=Fq h;exact⟨0,i,row,x,rfl,h1,by rw[h2,jo];rfl⟩;obtain⟨j,i,JJ,x,h0,h1,h2⟩:=Ft h;exact⟨j+1,i,JJ,x,h0,h1,by rw[h2,show s+1+j=s+ (j+1) by lia]⟩
theorem Qd{f f' s s':Nat}(h:s<S)(h':s'<S)(e:iG S f s=iG S f' s'):f=f'/\s=s':=by
 unfold iG at e;have e2:S*f+s=S*f'+s':=by
  have:((S*f+s:Nat):Int)=((S*f'+s':Nat):Int):=by push_cast;rw[yb (S:Int) f,yb (S:Int) f'];lia
  lia
 have a:(S*f+s) % S=s:=by rw[Nat.mul_add_mod,Nat.mod_eq_of_lt h]
 have b:(S*f'+s') % S=s':=by rw[Nat.mul_add_mod,Nat.mod_eq_of_lt h']
 have es:s=s':=by rw[<-a,e2,b]
 subst es;refine⟨?_,rfl⟩;have:S*f=S*f':=by lia
 exact Nat.eq_of_mul_eq_mul_left (by lia) this
theorem Qe{s:Nat}(hs:s<S):∀{f:Nat} {row:List (Int×Int)},((dg S P s f row).map Ev.c).Nodup
 |_,[]=>List.nodup_nil
 |f,x::r=>by
  rw[dg,fm,u5];refine⟨λh=>?_,Qe hs⟩;obtain⟨e,he,ec⟩:=iH.mp h;obtain⟨i,y,h1,rfl⟩:=Fq he;have:=(Qd hs hs ec).1;lia
theorem Qf:∀{s:Nat} {M:List (List (Int×Int))},s+M.length<=S->((bS S P s M).map Ev.c).Nodup
 |_,[],_=>List.nodup_nil
 |s,row::M,h=>by
  rw[cG]at h;rw[bS,ig,List.nodup_append];refine⟨Qe (by lia),Qf (by lia),λa ha b hb ab=>?_⟩;obtain⟨e,he,rfl⟩:=iH.mp ha;obtain⟨e2,Hg,rfl⟩:=iH.mp hb;obtain⟨i,y,h1,rfl⟩:=Fq he;obtain⟨j,i2,r2,y2,h2,h3,rfl⟩:=Ft Hg;have hj:j<M.length:=(i7.mp h2).1;have:=(Qd (by lia) (by lia) ab).2;lia
theorem Qg{M:List (List (Int×Int))}(sh:Shape S P)(m:xy S P M):kQ (S*P) (aU S) (bS S P 0 M):=by
 have key:∀e∈bS S P 0 M,∃s f x,s<S/\f<P/\e=lQ S P s f x:=λe he=>by
  obtain⟨j,i,row,x,h1,h2,h3⟩:=Ft he;have hj:=(i7.mp h1).1;have hi:=(i7.mp h2).1;rw[m.l]at hj;rw[m.r row (mR h1)]at hi;exact⟨j,i,x,hj,hi,by rw[h3,jo]⟩
 have Qh:∀s f,s<S->f<P->((aT S P).dY (aO s (aU S)) f).ls.length=aU S/\iE ((aT S P).dY (aO s (aU S)) f).ls:=λs f hs hf=>by
  have hf':f< (aT S P).fd.length:=by show f< ((aX S P).map W.int).length;rw[bx,sh.rows.2.2.1];exact hf
  have q:=sh.ok.dY (ls:=aO s (aU S)) (f:=f) hf' (by rw[qw];rfl) yR;exact⟨by rw[q.l1,qw],q.l2⟩
 refine⟨Qf (by rw[m.l];lia),λe he=>?_,λe he=>?_,λe he=>?_,λe he=>?_,λe he=>?_⟩;obtain⟨s,f,x,hs,hf,rfl⟩:=key e he;refine⟨f*S+s,?_,?_⟩;calc f*S+s<f*S+S:=by lia
  _=(f+1)*S:=by rw[Nat.add_mul,Nat.one_mul]
  _<=P*S:=Nat.mul_le_mul_right _ hf
  _=S*P:=Nat.mul_comm _ _
 show iG S f s=_;unfold iG
 push_cast;rfl;obtain⟨s,f,x,hs,hf,rfl⟩:=key e he;exact(Qh s f hs hf).1;obtain⟨s,f,x,hs,hf,rfl⟩:=key e he;exact qw;obtain⟨s,f,x,hs,hf,rfl⟩:=key e he;exact(Qh s f hs hf).2;obtain⟨s,f,x,hs,hf,rfl⟩:=key e he;exact yR
noncomputable def mH(S P:Nat)(M:List (List (Int×Int))):List W:=(bS S P 0 M).foldl cZ (bI (bz S P) (.tup [.int 0,.int 0]))
noncomputable def kR(S P:Nat)(M:List (List (Int×Int))):Bd:=⟨bz S P,aU S,pR S P (bS S P 0 M),(aX S P).map .int,mH S P M⟩
end
structure g9(F:Nat->Option Fn):Prop where
 JK:F 173=aB eN
 JL:F 174=aB mC
theorem uP{cl:Call}{i:Nat}{ρ:En}{h:VH}{x:W}(e:ρ[i]?=aB (aB x)):ev cl (.var i) ρ h=.ok x h:=by rw[ev,e];rfl
theorem Cy{cl:Call}{a b:E}{ρ:En}{h h1 h2:VH}{x y z:W}(ea:ev cl a ρ h=.ok x h1)(eb:ev cl b ρ h1=.ok y h2)(e:cz h2 x y=aB z):ev cl (.idx a b) ρ h=.ok z h2:=by rw[ev,ea,aD,eb,aD,e];rfl
theorem Cz{cl:Call}{i:Nat}{a:E}{ρ:En}{h h1:VH}{x:W}(ea:ev cl a ρ h=.ok x h1):exs cl (.set i a) ρ h=.ok (.nx (ρ.set i (aB x))) h1:=by rw[exs,ea];rfl
theorem JM{h:VH}{x:W}{r:List W}:cz h (.tup (x::r)) (.int 0)=aB x:=nX (j:=0) (xs:=x::r) rfl
theorem JN{h:VH}{i:Int}:dD h (.int i) .aP=aB false:=rfl
section
variable{F:Nat->Option Fn}(C:g9 F)
include C
theorem Zk{k:Nat}{h0:VH}{gs:List VO}{cs ts:List W}{ls:List Int}{w:W}{c wd hd:Int}(hm:jk w c wd (ls.length:Int)) :
 run F (k+1) 173 [w,.int hd,.ref (h0.n+2),.aP] (st3 h0 gs cs ts (ls.map .int))=match cJ w hd ls with
  |none=>.ok .aP (st3 h0 gs cs ts (ls.map .int))
  |some (d,_,l)=>.ok (.int d) (st3 h0 gs cs ts (l.map .int)):=by
 rw[dW C.JK rfl];rcases Cc hm with⟨rfl,h3,h4⟩|⟨rfl,h3⟩|⟨rfl,h3⟩|rfl|rfl|⟨p,q,rfl,h3,h4,h5,h6⟩
 rw[Jq];simp[eN,exs,ev,bE,dF];rw[Jr];simp[eN,exs,ev,bE,dF];rw[Js];simp[eN,exs,ev,bE,dF];rw[Jt];simp[eN,exs,ev,bE,dF];rw[Ju];simp[eN,exs,ev,bE,dF];rw[Jv];have hp:p<ls.length:=by lia
 have e1:=Y9 hp;have g:VH.get ⟨(st3 h0 gs cs ts (ls.map .int)).n,(st3 h0 gs cs ts (ls.map .int)).n,(st3 h0 gs cs ts (ls.map .int)).os⟩ (h0.n+2)=aB (.lst (ls.map .int)):=by rw[cX];exact Ce
 have e2:jd (ls.map W.int).length (p:Int)=aB p:=PZ (by rw[bx];exact hp);have e3:exs (run F k) eN.body [aB (.tup [.int p,.int q]),aB (.int hd),aB (.ref (h0.n+2)),aB .aP,aC,aC,aC] ⟨(st3 h0 gs cs ts (ls.map .int)).n,(st3 h0 gs cs ts (ls.map .int)).n,(st3 h0 gs cs ts (ls.map .int)).os⟩=.ok (.rt (.int (if ls.getD p 0=q then -1 else 1))) (VH.set ⟨(st3 h0 gs cs ts (ls.map .int)).n,(st3 h0 gs cs ts (ls.map .int)).n,(st3 h0 gs cs ts (ls.map .int)).os⟩ (h0.n+2) (.lst ((ls.set p (1-ls.getD p 0)).map .int))):=by
  rw[List.map_set];generalize ls.getD p 0=y at e1 ⊢;by_cases z:y=(q:Int)
  simp only[eN,exs,ev,bw,aR,lI,vf,pY,xO,cA,aD,mE,ly,pL,eO,uY,qP,cz,g,e1,iA,gE,e2,bE,zdt,JN,Bool.not_false,z,decide_true,bY];simp only[eN,exs,ev,bw,aR,lI,vf,pY,xO,cA,aD,mE,ly,pL,eO,uY,qP,cz,g,e1,iA,gE,e2,bE,zdt,JN,Bool.not_false,z,decide_false,eG]
 show fin _ (exs (run F k) eN.body [aB (.tup [.int p,.int q]),aB (.int hd),aB (.ref (h0.n+2)),aB .aP,aC,aC,aC] _)=_;rw[e3];exact Y8
theorem Zl{k:Nat}{h0:VH}{b l f:W}{r:List W}{c wd hd:Int}{cs ts:List W}{ls:List Int}{y:Option W}(ok:(r.length:Int)=wd/\cH wd (ls.length:Int) 0 r)(c0:0<=c)(c1:c<wd)(hc:cs.length<=1000)(ht:ts.length<=1000) :
 exs (run F (k+1)) B6 [aB b,aB l,aB f,aB .aP,aB (.int c),aB (.ref h0.n),aB (.ref (h0.n+1)),aB (.ref (h0.n+2)),aB (.int hd),aB (.tup r),y] (st3 h0 [] cs ts (ls.map .int))=match cJ (cK r c) hd ls with
  |none=>.ok (.bk [aB b,aB l,aB f,aB .aP,aB (.int c),aB (.ref h0.n),aB (.ref (h0.n+1)),aB (.ref (h0.n+2)),aB .aP,aB (.tup r),aB (cK r c)]) (st3 h0 [] cs ts (ls.map .int))
  |some (d,t,l')=>.ok (.nx [aB b,aB l,aB f,aB .aP,aB (.int (c+d)),aB (.ref h0.n),aB (.ref (h0.n+1)),aB (.ref (h0.n+2)),aB (.int d),aB (.tup r),aB (cK r c)]) (st3 h0 [] (cs++[.int (c+d)]) (ts++t.map .int) (l'.map .int)):=by
 obtain⟨_,hm⟩:=Cd ok c0 c1;have e0:=P0 ok c0 c1;generalize cK r c=w at hm e0 ⊢;have e1:=Zk C (k:=k) (h0:=h0) (gs:=[]) (cs:=cs) (ts:=ts) (hd:=hd) hm;unfold B6;rw[bq (ρ':=[aB b,aB l,aB f,aB .aP,aB (.int c),aB (.ref h0.n),aB (.ref (h0.n+1)),aB (.ref (h0.n+2)),aB (.int hd),aB (.tup r),aB w]) (h':=st3 h0 [] cs ts (ls.map .int)) (Cz (Cy (x:=.tup r) (y:=.int c) (uP rfl) (uP rfl) e0))];have key:∀(d:Int)(l':List Int)(t:List Int),cJ w hd ls=aB (d,t,l')->exs (run F (k+1)) (.seq (.ite (.and (.k9 (.oS .tuple (.var 10))) (.cmp .ne (.idx (.var 10) (.cst (.int (0)))) (.var 3))) (.seq (.expr (.mt .append (.var 6) (.cons (.idx (.var 10) (.cst (.int (0)))) .nil))) .skip) .skip) (.seq (.aug 4 .add (.var 8)) (.seq (.expr (.mt .append (.var 5) (.cons (.var 4) .nil))) .skip))) [aB b,aB l,aB f,aB .aP,aB (.int c),aB (.ref h0.n),aB (.ref (h0.n+1)),aB (.ref (h0.n+2)),aB (.int d),aB (.tup r),aB w] (st3 h0 [] cs ts (l'.map .int))=.ok (.nx [aB b,aB l,aB f,aB .aP,aB (.int (c+d)),aB (.ref h0.n),aB (.ref (h0.n+1)),aB (.ref (h0.n+2)),aB (.int d),aB (.tup r),aB w]) (st3 h0 [] (cs++[.int (c+d)]) (ts++t.map .int) (l'.map .int)):=by
  intro d l' t es;have fin:∀ts':List W,exs (run F (k+1)) (.seq (.aug 4 .add (.var 8)) (.seq (.expr (.mt .append (.var 5) (.cons (.var 4) .nil))) .skip)) [aB b,aB l,aB f,aB .aP,aB (.int c),aB (.ref h0.n),aB (.ref (h0.n+1)),aB (.ref (h0.n+2)),aB (.int d),aB (.tup r),aB w] (st3 h0 [] cs ts' (l'.map .int))=.ok (.nx [aB b,aB l,aB f,aB .aP,aB (.int (c+d)),aB (.ref h0.n),aB (.ref (h0.n+1)),aB (.ref (h0.n+2)),aB (.int d),aB (.tup r),aB w]) (st3 h0 [] (cs++[.int (c+d)]) ts' (l'.map .int)):=by intro ts';rw[bq (ρ':=[aB b,aB l,aB f,aB .aP,aB (.int (c+d)),aB (.ref h0.n),aB (.ref (h0.n+1)),aB (.ref (h0.n+2)),aB (.int d),aB (.tup r),aB w]) (h':=st3 h0 [] cs ts' (l'.map .int)) rfl];have ea:=PN (cl:=run F (k+1)) (i:=5) (l:=h0.n) (x:=.var 4) (ρ:=[aB b,aB l,aB f,aB .aP,aB (.int (c+d)),aB (.ref h0.n),aB (.ref (h0.n+1)),aB (.ref (h0.n+2)),aB (.int d),aB (.tup r),aB w]) (h:=st3 h0 [] cs ts' (l'.map .int)) (h1:=st3 h0 [] cs ts' (l'.map .int)) (w:=.int (c+d)) (acc:=cs) (xm:=cs) rfl xo (by simp[ev]) xo (by lia);rw[Y6]at ea;simp only[exs,ea,aD]
  rcases Cc hm with⟨rfl,h3,h4⟩|⟨rfl,h3⟩|⟨rfl,h3⟩|rfl|rfl|⟨p,q,rfl,h3,h4,h5,h6⟩;rw[Jq]at es;cases es;rw[bq (ρ':=[aB b,aB l,aB f,aB .aP,aB (.int c),aB (.ref h0.n),aB (.ref (h0.n+1)),aB (.ref (h0.n+2)),aB (.int hd),aB (.tup r),aB (.str sX)]) (h':=st3 h0 [] cs ts (ls.map .int)) rfl,fin];simp;rw[Jr]at es;cases es;rw[bq (ρ':=[aB b,aB l,aB f,aB .aP,aB (.int c),aB (.ref h0.n),aB (.ref (h0.n+1)),aB (.ref (h0.n+2)),aB (.int (-1)),aB (.tup r),aB (.str fP)]) (h':=st3 h0 [] cs ts (ls.map .int)) rfl,fin];simp;rw[Js]at es;cases es;rw[bq (ρ':=[aB b,aB l,aB f,aB .aP,aB (.int c),aB (.ref h0.n),aB (.ref (h0.n+1)),aB (.ref (h0.n+2)),aB (.int 1),aB (.tup r),aB (.str jZ)]) (h':=st3 h0 [] cs ts (ls.map .int)) rfl,fin];simp;rw[Jt]at es;cases es;rw[bq (ρ':=[aB b,aB l,aB f,aB .aP,aB (.int c),aB (.ref h0.n),aB (.ref (h0.n+1)),aB (.ref (h0.n+2)),aB (.int 0),aB (.tup r),aB (.str dP)]) (h':=st3 h0 [] cs ts (ls.map .int)) rfl,fin];simp;rw[Ju]at es;cases es;rw[Jv]at es;cases es;have ea:=PN (cl:=run F (k+1)) (i:=6) (l:=h0.n+1) (x:=.idx (.var 10) (.cst (.int 0))) (ρ:=[aB b,aB l,aB f,aB .aP,aB (.int c),aB (.ref h0.n),aB (.ref (h0.n+1)),aB (.ref (h0.n+2)),aB (.int (if ls.getD p 0=q then -1 else 1)),aB (.tup r),aB (.tup [.int p,.int q])]) (h:=st3 h0 [] cs ts ((ls.set p (1-ls.getD p 0)).map .int)) (h1:=st3 h0 [] cs ts ((ls.set p (1-ls.getD p 0)).map .int)) (w:=.int p) (acc:=ts) (xm:=ts) rfl xq (by simp[ev,cz];rfl) xq (by lia);rw[Y7]at ea;have eb:exs (run F (k+1)) (.ite (.and (.k9 (.oS .tuple (.var 10))) (.cmp .ne (.idx (.var 10) (.cst (.int (0)))) (.var 3))) (.seq (.expr (.mt .append (.var 6) (.cons (.idx (.var 10) (.cst (.int (0)))) .nil))) .skip) .skip) [aB b,aB l,aB f,aB .aP,aB (.int c),aB (.ref h0.n),aB (.ref (h0.n+1)),aB (.ref (h0.n+2)),aB (.int (if ls.getD p 0=q then -1 else 1)),aB (.tup r),aB (.tup [.int p,.int q])] (st3 h0 [] cs ts ((ls.set p (1-ls.getD p 0)).map .int))=.ok (.nx [aB b,aB l,aB f,aB .aP,aB (.int c),aB (.ref h0.n),aB (.ref (h0.n+1)),aB (.ref (h0.n+2)),aB (.int (if ls.getD p 0=q then -1 else 1)),aB (.tup r),aB (.tup [.int p,.int q])]) (st3 h0 [] cs (ts++[.int p]) ((ls.set p (1-ls.getD p 0)).map .int)):=by
   rw[exs];have e5:ev (run F (k+1)) (.and (.k9 (.oS .tuple (.var 10))) (.cmp .ne (.idx (.var 10) (.cst (.int (0)))) (.var 3))) [aB b,aB l,aB f,aB .aP,aB (.int c),aB (.ref h0.n),aB (.ref (h0.n+1)),aB (.ref (h0.n+2)),aB (.int (if ls.getD p 0=q then -1 else 1)),aB (.tup r),aB (.tup [.int p,.int q])] (st3 h0 [] cs ts ((ls.set p (1-ls.getD p 0)).map .int))=.ok (.bl true) (st3 h0 [] cs ts ((ls.set p (1-ls.getD p 0)).map .int)):=by simp[ev,JM,bE,JN]
   rw[e5,aD];simp only[exs,ea,aD]
  rw[bq eb,fin];rfl
 cases es:cJ w hd ls with
 |none=>
  rw[es]at e1;rw[bq (ρ':=[aB b,aB l,aB f,aB .aP,aB (.int c),aB (.ref h0.n),aB (.ref (h0.n+1)),aB (.ref (h0.n+2)),aB .aP,aB (.tup r),aB w]) (h':=st3 h0 [] cs ts (ls.map .int)) (by simp only[exs,ev,vf,pY,xO,cA,aD,e1,uY,qP])];exact Za rfl
 |some q=>
  obtain⟨d,t,l'⟩:=q;rw[es]at e1;rw[bq (ρ':=[aB b,aB l,aB f,aB .aP,aB (.int c),aB (.ref h0.n),aB (.ref (h0.n+1)),aB (.ref (h0.n+2)),aB (.int d),aB (.tup r),aB w]) (h':=st3 h0 [] cs ts (l'.map .int)) (by simp only[exs,ev,vf,pY,xO,cA,aD,e1,uY,qP])];rw[bq (ρ':=[aB b,aB l,aB f,aB .aP,aB (.int c),aB (.ref h0.n),aB (.ref (h0.n+1)),aB (.ref (h0.n+2)),aB (.int d),aB (.tup r),aB w]) (h':=st3 h0 [] cs ts (l'.map .int)) rfl];exact key d l' t es
theorem Qi{k:Nat}{h0:VH}{b l f:W}{wd:Int}:∀(rs:List (List W)) (c hd:Int) (cs ts:List W) (ls:List Int) (x y:Option W),yL wd (ls.length:Int) rs->0<=c->c<wd->-1<=hd->hd<=1->iE ls->cs.length+rs.length<=1000->ts.length+rs.length<=1000->
 ∃c' hd' x' y',forL (bw (.one 9)) (exs (run F (k+1)) B6) (rs.map .tup) [aB b,aB l,aB f,aB .aP,aB (.int c),aB (.ref h0.n),aB (.ref (h0.n+1)),aB (.ref (h0.n+2)),aB (.int hd),x,y] (st3 h0 [] cs ts (ls.map .int)) =
  .ok (.nx [aB b,aB l,aB f,aB .aP,c',aB (.ref h0.n),aB (.ref (h0.n+1)),aB (.ref (h0.n+2)),hd',x',y']) (st3 h0 [] (cs++(bg rs c hd ls).cs.map .int) (ts++(bg rs c hd ls).ts.map .int) ((bg rs c hd ls).ls.map .int))
 |[],c,hd,cs,ts,ls,x,y,_,_,_,_,_,_,_,_=>⟨aB (.int c),aB (.int hd),x,y,by simp[forL,bg]⟩
 |r::rs,c,hd,cs,ts,ls,x,y,ok,c0,c1,h1,h2,bi,hc,ht=>by
  have hc':cs.length+rs.length+1<=1000:=by rw[cG]at hc;lia
  have ht':ts.length+rs.length+1<=1000:=by rw[cG]at ht;lia
  have eb:=Zl C (k:=k) (h0:=h0) (b:=b) (l:=l) (f:=f) (hd:=hd) (cs:=cs) (ts:=ts) (y:=y) (ok r fT) c0 c1 (by lia) (by lia);obtain⟨_,hm⟩:=Cd (ok r fT) c0 c1;cases e:cJ (cK r c) hd ls with
  |none=>
   rw[e]at eb;rw[Y4 e];refine⟨aB (.int c),aB .aP,aB (.tup r),aB (cK r c),?_⟩;simp only[fm,forL,bw,uY,qP,eb,aD,u7,oA]
  |some q=>
   obtain⟨d,t,l'⟩:=q;rw[e]at eb;obtain⟨a1,a2,a3,a4,a5,a6,a7⟩:=PV hm c0 c1 h1 h2 bi e;obtain⟨c',hd',x',y',ih⟩:=Qi (k:=k) (h0:=h0) (b:=b) (l:=l) (f:=f) rs (c+d) d (cs++[.int (c+d)]) (ts++t.map .int) l' (aB (.tup r)) (aB (cK r c)) (λr hr=>by rw[a5];exact ok r (fE _ hr)) a3 a4 a1 a2 a6 (by simp only[fU,zc];lia) (by simp only[fU,bx];lia);rw[Y5 e];refine⟨c',hd',x',y',?_⟩;simp only[fm,forL,bw,uY,qP,eb,aD,ih,ig,ze,List.singleton_append]
theorem Zm{k:Nat}{h:VH}{B:Bd}{ls:List Int}{f:Nat}(b:B.Ok)(hf:f<B.fd.length)(hl:(ls.length:Int)=B.gr)(bi:iE ls):run F (k+2) 174 [B.w,iW ls,.int f,.aP] h=.ok (sU B ls f) h:=by
 rw[dW C.JL rfl];obtain⟨e0,c0,c1⟩:=b.col hf;have hr:=b.r1;obtain⟨c',hd',x',y',el⟩:=Qi C (k:=k) (h0:=h) (b:=B.w) (l:=iW ls) (f:=.int f) B.rows (B.col f) 0 [.int (B.col f)] [] ls aC aC (b.rows hl) c0 c1 (by decide) (by decide) bi (by rw[zc];lia) (by rw[Dj];lia);have e1:fV B.fd (f:Int)=aB (.int (B.col f)):=nX e0;have i3:fV [W.int B.wd,.int B.gr,.tup (B.rows.map .tup),.tup B.fd,.tup B.dr] 3=aB (.tup B.fd):=rfl;have i2:fV [W.int B.wd,.int B.gr,.tup (B.rows.map .tup),.tup B.fd,.tup B.dr] 2=aB (.tup (B.rows.map .tup)):=rfl;have hz:(B.rows.map W.tup).length<1000000:=by rw[bx];lia
 have eb:exs (run F (k+1)) mC.body [aB B.w,aB (iW ls),aB (.int f),aB .aP,aC,aC,aC,aC,aC,aC,aC] ⟨h.n,h.n,h.os⟩=.ok (.rt (sU B ls f)) (st3 h [] (([.int (B.col f)]:List W)++(bg B.rows (B.col f) 0 ls).cs.map .int) (([]:List W)++(bg B.rows (B.col f) 0 ls).ts.map .int) ((bg B.rows (B.col f) 0 ls).ls.map .int)):=by
  show exs (run F (k+1)) (.seq _ _) _ _=_;rw[bq (ρ':=[aB B.w,aB (iW ls),aB (.int f),aB .aP,aB (.int (B.col f)),aC,aC,aC,aC,aC,aC]) (h':=⟨h.n,h.n,h.os⟩) (by unfold Bd.w;simp[exs,ev,cz,i3,e1])];rw[bq (ρ':=[aB B.w,aB (iW ls),aB (.int f),aB .aP,aB (.int (B.col f)),aB (.ref h.n),aC,aC,aC,aC,aC]) (h':=VH.new ⟨h.n,h.n,h.os⟩ (.lst [.int (B.col f)])) (by simp[exs,ev])];rw[bq (ρ':=[aB B.w,aB (iW ls),aB (.int f),aB .aP,aB (.int (B.col f)),aB (.ref h.n),aB (.ref (h.n+1)),aC,aC,aC,aC]) (h':=VH.new (VH.new ⟨h.n,h.n,h.os⟩ (.lst [.int (B.col f)])) (.lst [])) (by simp[exs,ev,VH.new])];rw[bq (ρ':=[aB B.w,aB (iW ls),aB (.int f),aB .aP,aB (.int (B.col f)),aB (.ref h.n),aB (.ref (h.n+1)),aB (.ref (h.n+2)),aC,aC,aC]) (h':=st3 h [] [.int (B.col f)] [] (ls.map .int)) (by unfold iW;simp[exs,ev,VH.new,mj,kG,aR,st3])];rw[bq (ρ':=[aB B.w,aB (iW ls),aB (.int f),aB .aP,aB (.int (B.col f)),aB (.ref h.n),aB (.ref (h.n+1)),aB (.ref (h.n+2)),aB (.int 0),aC,aC]) (h':=st3 h [] [.int (B.col f)] [] (ls.map .int)) (by simp[exs,ev])];have ei:ev (run F (k+1)) (.idx (.var 0) (.cst (.int (2)))) [aB B.w,aB (iW ls),aB (.int f),aB .aP,aB (.int (B.col f)),aB (.ref h.n),aB (.ref (h.n+1)),aB (.ref (h.n+2)),aB (.int 0),aC,aC] (st3 h [] [.int (B.col f)] [] (ls.map .int))=.ok (.tup (B.rows.map .tup)) (st3 h [] [.int (B.col f)] [] (ls.map .int)):=by unfold Bd.w;simp[ev,cz,i2]
  have ef:=B8 (tg:=bw (.one 9)) (b:=exs (run F (k+1)) B6) (ρ:=[aB B.w,aB (iW ls),aB (.int f),aB .aP,aB (.int (B.col f)),aB (.ref h.n),aB (.ref (h.n+1)),aB (.ref (h.n+2)),aB (.int 0),aC,aC]) (h:=st3 h [] [.int (B.col f)] [] (ls.map .int)) hz;rw[el]at ef;refine(bq (by rw[exs,ei,aD,ef])).trans ?_;have et:=JC (cl:=run F (k+1)) (JB (i:=5) (ρ:=[aB B.w,aB (iW ls),aB (.int f),aB .aP,c',aB (.ref h.n),aB (.ref (h.n+1)),aB (.ref (h.n+2)),hd',x',y']) rfl (xo (h:=h) (gs:=[]) (c:=([.int (B.col f)]:List W)++(bg B.rows (B.col f) 0 ls).cs.map .int) (t:=([]:List W)++(bg B.rows (B.col f) 0 ls).ts.map .int) (l:=(bg B.rows (B.col f) 0 ls).ls.map .int))) (JB (i:=6) rfl xq) (JB (i:=7) rfl Ce);simp only[exs,et,aD];rfl
 show fin h (exs (run F (k+1)) mC.body [aB B.w,aB (iW ls),aB (.int f),aB .aP,aC,aC,aC,aC,aC,aC,aC] ⟨h.n,h.n,h.os⟩)=_;rw[eb];exact dF (aZ _) Zb
end
theorem Qj{n:Nat}:∀{ws:List W},(∀w∈ws,W.lt n w=true)->W.mh n ws=true|[],_=>by simp|w::r,h=>by rw[iX,h w fT,Qj λw hw=>h w (fE _ hw)];rfl
section
variable{F:Nat->Option Fn}
theorem Qk{m:Nat}:∀(n:Nat) (w:W),eY n w=true->W.lt m w=true
 |0,_,e=>by cases e
 |n+1,w,e=>by
  cases w<;>simp only[eY]at e<;>try(cases e;done)
  simp;simp;simp;simp;rw[lO];exact Qj λw hw=>Qk n w (fX.mp e w hw)
end
section
variable{F:Nat->Option Fn}(C:mF F)
include C
theorem Ql{k:Nat}:∀(ns:List Int) (x:Option W) (h:VH),∃cells:List Int,uM (bw (.one 0)) (ev (run F k) ux) (ev (run F k) uy) (ns.map .int) [x] h=.ok (cells.map .int) h/\(∀y∈cells,(0:Int)<=y)/\cells.length<=ns.length
 |[],x,h=>⟨[],rfl,(λy hy=>by cases hy),aZ _⟩
 |n::ns,x,h=>by
  obtain⟨cells,e,h1,h2⟩:=Ql (k:=k) ns (aB (.int n)) h;have G2:((10:Int).natAbs<2 ^ 64):=by decide
  have ec:ev (run F k) ux [aB (.int n)] h=.ok (.bl (decide (1000000000000000000<=(n.natAbs:Int)))) h:=by simp[ux,ev,mj,lF,iA,gE,bE,gS,Jp]
  have ee:ev (run F k) uy [aB (.int n)] h=.ok (.int (n.natAbs:Int)) h:=by simp[uy,ev,mj,lF,Jp]
  by_cases q:1000000000000000000<=(n.natAbs:Int)
  refine⟨(n.natAbs:Int)::cells,?_,λy hy=>?_,by rw[cG,cG];lia⟩;simp only[uM,fm,bw,List.set,ec,aD,q,decide_true,ee,e];rcases gH.mp hy with rfl|hy
  lia;exact h1 y hy;refine⟨cells,?_,h1,by rw[cG];lia⟩;simp only[uM,fm,bw,List.set,ec,aD,q,decide_false,e]
theorem JO{k:Nat}{h:VH}{ns:List Int}(hl:ns.length<=63):∃h',run F (k+1) 3 [.fz (ns.map .int)] h=.ok (.ref (h.n+1)) h'/\Dk h' (h.n+1) h.n 0:=by
 rw[dW C.f3 rfl];obtain⟨cells,e,h1,h2⟩:=Ql C (k:=k) ns aC ⟨h.n,h.n,h.os⟩;have l:=Je (nx:=aW .seq (.fz (ns.map .int))) (tg:=bw (.one 0)) (c:=ev (run F k) ux) (e:=ev (run F k) uy) (ws:=ns.map .int) (λi h=>rfl) fuel 0 [aC] ⟨h.n,h.n,h.os⟩ [] (j8 _) (by rw[bx];unfold fuel;lia);rw[List.drop_zero,e]at l;have l:gF (aW .seq (.fz (ns.map .int))) (bw (.one 0)) (ev (run F k) ux) (ev (run F k) uy) fuel 0 [aC] ⟨h.n,h.n,h.os⟩ []=.ok (cells.map .int) ⟨h.n,h.n,h.os⟩:=l;have q:ev (run F k) (.lc .seq (.var 0) (.one 0) 1 [] ux uy) [aB (.fz (ns.map .int))] ⟨h.n,h.n,h.os⟩=.ok (.ref h.n) (VH.new ⟨h.n,h.n,h.os⟩ (.lst (cells.map .int))):=by rw[ev];have:ev (run F k) (.var 0) [aB (.fz (ns.map .int))] ⟨h.n,h.n,h.os⟩=.ok (.fz (ns.map .int)) ⟨h.n,h.n,h.os⟩:=rfl;rw[this,aD];show(gF (aW .seq (.fz (ns.map .int))) (bw (.one 0)) (ev (run F k) ux) (ev (run F k) uy) fuel 0 [aC] ⟨h.n,h.n,h.os⟩ []).bind _=_;rw[l,aD,if_pos (nJ (by rw[bx];lia))]
 let sY:VH:=VH.new ⟨h.n,h.n,h.os⟩ (.lst (cells.map .int));let o:VO:=.lst [.fz (ns.map .int),.ref h.n,.int 0,.int 0];have eb:exs (run F k) B0.body [aB (.fz (ns.map .int))] ⟨h.n,h.n,h.os⟩=.ok (.rt (.ref (h.n+1))) (sY.new o):=by simp only[B0,exs,ev,aD,cA,xO,vf]at q ⊢;rw[q];rfl
 refine⟨⟨h.n+2,if Nat.ble h.lo h.n then h.lo else h.n,(sY.new o).os⟩,?_,?_⟩;show fin h (exs (run F k) B0.body [aB (.fz (ns.map .int))] ⟨h.n,h.n,h.os⟩)=_;rw[eb];show leave h (.ref (h.n+1)) (sY.new o)=_;unfold leave;rw[if_neg (by
  rw[bJ];intro z;have:=z.2;simp only[W.lt]at this;have:=iC.mp this;lia)]
 rfl;refine⟨by lia,ns,cells,0,0,?_,?_,h1,by lia,by lia,by lia,by lia⟩;show VH.get ⟨(sY.new o).n,_,(sY.new o).os⟩ (h.n+1)=_;rw[cX];exact dU (h:=sY);show VH.get ⟨(sY.new o).n,_,(sY.new o).os⟩ h.n=_;rw[cX,iD (h:=sY) (by show h.n<h.n+1;lia)];exact dU (h:=⟨h.n,h.n,h.os⟩)
end
theorem fk{cl:Call}{o:Op}{a b:E}{ρ:En}{h h1 h2:VH}{x y:W}{r:Res W}(ea:ev cl a ρ h=.ok x h1)(eb:ev cl b ρ h1=.ok y h2)(e:iA o x y h2=r):ev cl (.op o a b) ρ h=r:=by rw[ev,ea,aD,eb,aD,e]
theorem dZ{cl:Call}{a:E}{ρ:En}{h h1:VH}{x:W}(ea:ev cl a ρ h=.ok x h1):exs cl (.ret a) ρ h=.ok (.rt x) h1:=by rw[exs,ea,aD]
theorem bX{cl:Call}{i:Nat}{a:E}{ρ:En}{h h1:VH}{x:W}(ea:ev cl a ρ h=.ok x h1):exs cl (.set i a) ρ h=.ok (.nx (ρ.set i (aB x))) h1:=by rw[exs,ea,aD]
theorem aE{cl:Call}{i:Nat}{ρ:En}{h:VH}{x:W}(e:ρ[i]?=aB (aB x)):ev cl (.var i) ρ h=.ok x h:=by rw[ev,e];rfl
theorem dM{cl:Call}{a b:E}{ρ:En}{h h1 h2:VH}{x y z:W}(ea:ev cl a ρ h=.ok x h1)(eb:ev cl b ρ h1=.ok y h2)(e:cz h2 x y=aB z):ev cl (.idx a b) ρ h=.ok z h2:=by rw[ev,ea,aD,eb,aD,e];rfl
theorem dN{cl:Call}{a:E}{ρ:En}{h h1:VH}{x:W}{ws:List W}(ea:ev cl a ρ h=.ok x h1)(e:aR h1 x=aB ws):ev cl (.bi .len (.cons a .nil)) ρ h=.ok (.int ws.length) h1:=by rw[ev,ev,ea,aD,ev,aD];show iB [x] h1=_;simp only[iB,e,cA]
theorem sZ{cl:Call}{ρ:En}{h h1 h':VH}{n:Nat}{a:E}{x w:W}(ea:ev cl a ρ h=.ok x h1)(e:cl n [x] h1=.ok w h'):ev cl (.call n (.cons a .nil)) ρ h=.ok w h':=by rw[ev,ev,ea,aD,ev];exact e
theorem mJ{cl:Call}{ρ:En}{h h1 h2 h':VH}{n:Nat}{a b:E}{x y w:W}(ea:ev cl a ρ h=.ok x h1)(eb:ev cl b ρ h1=.ok y h2)(e:cl n [x,y] h2=.ok w h'):ev cl (.call n (.cons a (.cons b .nil))) ρ h=.ok w h':=by rw[ev,ev,ea,aD,ev,eb,aD,ev];exact e
theorem nL{cl:Call}{ρ:En}{h h1 h2 h3 h':VH}{n:Nat}{a b c:E}{x y z w:W}(ea:ev cl a ρ h=.ok x h1)(eb:ev cl b ρ h1=.ok y h2)(ec:ev cl c ρ h2=.ok z h3)(e:cl n [x,y,z] h3=.ok w h'):ev cl (.call n (.cons a (.cons b (.cons c .nil)))) ρ h=.ok w h':=by rw[ev,ev,ea,aD,ev,eb,aD,ev,ec,aD,ev];exact e
theorem Zn{cl:Call}{ρ:En}{h h1 h2 h3 h4 h':VH}{n:Nat}{a b c d:E}{x y z u w:W}(ea:ev cl a ρ h=.ok x h1)(eb:ev cl b ρ h1=.ok y h2)(ec:ev cl c ρ h2=.ok z h3)(ed:ev cl d ρ h3=.ok u h4)(e:cl n [x,y,z,u] h4=.ok w h'):ev cl (.call n (.cons a (.cons b (.cons c (.cons d .nil))))) ρ h=.ok w h':=by rw[ev,ev,ea,aD,ev,eb,aD,ev,ec,aD,ev,ed,aD,ev];exact e
theorem jD{cl:Call}{a b:E}{ρ:En}{h h1 h2:VH}{x y:W}(ea:ev cl a ρ h=.ok x h1)(eb:ev cl b ρ h1=.ok y h2):ev cl (.tup (.cons a (.cons b .nil))) ρ h=.ok (.tup [x,y]) h2:=by rw[ev,ev,ea,aD,ev,eb,aD,ev];rfl
theorem CA{cl:Call}{a b c:E}{ρ:En}{h h1 h2 h3:VH}{x y z:W}(ea:ev cl a ρ h=.ok x h1)(eb:ev cl b ρ h1=.ok y h2)(ec:ev cl c ρ h2=.ok z h3):ev cl (.tup (.cons a (.cons b (.cons c .nil)))) ρ h=.ok (.tup [x,y,z]) h3:=by rw[ev,ev,ea,aD,ev,eb,aD,ev,ec,aD,ev];rfl
theorem uQ{cl:Call}{a b c d e:E}{ρ:En}{h h1 h2 h3 h4 h5:VH}{x y z u v:W}(ea:ev cl a ρ h=.ok x h1)(eb:ev cl b ρ h1=.ok y h2)(ec:ev cl c ρ h2=.ok z h3)(ed:ev cl d ρ h3=.ok u h4)(ee:ev cl e ρ h4=.ok v h5):ev cl (.tup (.cons a (.cons b (.cons c (.cons d (.cons e .nil)))))) ρ h=.ok (.tup [x,y,z,u,v]) h5:=by rw[ev,ev,ea,aD,ev,eb,aD,ev,ec,aD,ev,ed,aD,ev,ee,aD,ev];rfl
theorem nM{nx:Nat->VH->Option (Option W)}{tg:W->VH->En->Option En}{b:FS}{n:Nat}{I:Nat->En->VH->Prop}
 (go:∀i ρ h,i<n->I i ρ h->∃w dJ pS h2,nx i h=aB (aB w)/\tg w h ρ=aB dJ/\b dJ h=.ok (.nx pS) h2/\I (i+1) pS h2)
 (stop:∀ρ h,I n ρ h->nx n h=aB aC) :
 ∀(m i fu:Nat)(ρ:En)(h:VH),i+m=n->m<fu->I i ρ h->∃ρ' h',dX nx tg b fu i ρ h=.ok (.nx ρ') h'/\I n ρ' h'
 |_,_,0,_,_,_,hf,_=>by lia
 |0,i,fu+1,ρ,h,hi,_,hI=>by
  obtain rfl:i=n:=by lia
  refine⟨ρ,h,?_,hI⟩;simp only[dX,stop ρ h hI]
 |m+1,i,fu+1,ρ,h,hi,hf,hI=>by
  obtain⟨w,dJ,pS,h2,e1,e2,e3,lK⟩:=go i ρ h (by lia) hI;obtain⟨ρ',h',e4,xA⟩:=nM go stop m (i+1) fu pS h2 (by lia) (by lia) lK;refine⟨ρ',h',?_,xA⟩;simp only[dX,e1,e2,e3,aD,e4]
theorem Qm{nx:Nat->VH->Option (Option W)}{tg:W->VH->En->Option En}{e:FE}{n:Nat}{I:Nat->En->VH->List W->Prop}
 (go:∀i ρ h acc,i<n->I i ρ h acc->∃w dJ y h2,nx i h=aB (aB w)/\tg w h ρ=aB dJ/\e dJ h=.ok y h2/\I (i+1) dJ h2 (acc++[y]))
 (stop:∀ρ h acc,I n ρ h acc->nx n h=aB aC) :
 ∀(m i fu:Nat)(ρ:En)(h:VH)(acc:List W),i+m=n->m<fu->I i ρ h acc->∃ys ρ' h',gF nx tg (λ_ h=>.ok (.bl true) h) e fu i ρ h acc.reverse=.ok ys h'/\I n ρ' h' ys
 |_,_,0,_,_,_,_,hf,_=>by lia
 |0,i,fu+1,ρ,h,acc,hi,_,hI=>by
  obtain rfl:i=n:=by lia
  refine⟨acc,ρ,h,?_,hI⟩;simp only[gF,stop ρ h acc hI,List.reverse_reverse]
 |m+1,i,fu+1,ρ,h,acc,hi,hf,hI=>by
  obtain⟨w,dJ,y,h2,e1,e2,e3,lK⟩:=go i ρ h acc (by lia) hI;obtain⟨ys,ρ',h',e4,xA⟩:=Qm go stop m (i+1) fu dJ h2 (acc++[y]) (by lia) (by lia) lK;refine⟨ys,ρ',h',?_,xA⟩;rw[List.reverse_append]at e4;simp only[gF,e1,e2,aD,e3];exact e4
theorem Fv{nx:Nat->VH->Option (Option W)}{tg:W->VH->En->Option En}{c e v:FE}{n:Nat}{I:Nat->En->VH->Kv->Prop}
 (go:∀i ρ h acc,i<n->I i ρ h acc->∃w dJ t h1,nx i h=aB (aB w)/\tg w h ρ=aB dJ/\c dJ h=.ok (.bl t) h1/\
   ((t=true/\∃x k y h2 h3,e dJ h1=.ok x h2/\v dJ h2=.ok y h3/\nv x=aB k/\Nat.blt acc.length big=true/\I (i+1) dJ h3 (bB acc k y))\/(t=false/\I (i+1) dJ h1 acc)))
 (stop:∀ρ h acc,I n ρ h acc->nx n h=aB aC) :
 ∀(m i fu:Nat)(ρ:En)(h:VH)(acc:Kv),i+m=n->m<fu->I i ρ h acc->∃ys ρ' h',jM nx tg c e v fu i ρ h acc=.ok ys h'/\I n ρ' h' ys
 |_,_,0,_,_,_,_,hf,_=>by lia
 |0,i,fu+1,ρ,h,acc,hi,_,hI=>by
  obtain rfl:i=n:=by lia
  refine⟨acc,ρ,h,?_,hI⟩;simp only[jM,stop ρ h acc hI]
 |m+1,i,fu+1,ρ,h,acc,hi,hf,hI=>by
  obtain⟨w,dJ,t,h1,e1,e2,e3,q⟩:=go i ρ h acc (by lia) hI;rcases q with⟨rfl,x,k,y,h2,h3,e4,e5,e6,e7,lK⟩|⟨rfl,lK⟩
  .obtain⟨ys,ρ',h',e8,xA⟩:=Fv go stop m (i+1) fu dJ h3 _ (by lia) (by lia) lK
   refine⟨ys,ρ',h',?_,xA⟩;simp only[jM,e1,e2,e3,aD,e4,e5,e6,e7,bY,e8]
  .obtain⟨ys,ρ',h',e8,xA⟩:=Fv go stop m (i+1) fu dJ h1 _ (by lia) (by lia) lK
   refine⟨ys,ρ',h',?_,xA⟩;simp only[jM,e1,e2,e3,aD,e8]
theorem lR{nx:Nat->VH->Option (Option W)}{tg:W->VH->En->Option En}{e:FE}{n:Nat}{I:Nat->En->VH->List W->Prop}
 (go:∀i ρ h acc,i<n->I i ρ h acc->∃w dJ y h2,nx i h=aB (aB w)/\tg w h ρ=aB dJ/\e dJ h=.ok y h2/\I (i+1) dJ h2 (acc++[y]))
 (stop:∀ρ h acc,I n ρ h acc->nx n h=aB aC) {ρ:En} {h:VH} (hn:n<1000000) (hI:I 0 ρ h []):∃ys ρ' h',gF nx tg (λ_ h=>.ok (.bl true) h) e fuel 0 ρ h []=.ok ys h'/\I n ρ' h' ys:=
 Qm go stop n 0 fuel ρ h [] (jo _) hn hI
theorem i9{n i:Nat}{h:VH}(hn:n<1000000):aW .bR (.tup [.int n]) i h=aB (if i<n then aB (.int (i:Int))else aC):=by
 have hf:fits (n:Int)=true:=by unfold fits;simp;lia
 show(if fits (n:Int)then aB (if decide ((i:Int)<n)then aB (W.int (0+i))else aC)else aC)=_;rw[if_pos hf,Int.zero_add];by_cases q:i<n;rw[if_pos q,kY (by lia)];rfl;rw[if_neg q,jn (by lia)];rfl
theorem Qn{h h':VH}{w:W}(hw:W.lt h.n w=false):∃h2,fin h (.ok (.rt w) h')=.ok w h2/\h2.n=h'.n/\(∀i,h2.get i=h'.get i)/\h2.lo=min h.lo h'.lo:=by refine⟨⟨h'.n,if Nat.ble h.lo h'.lo then h.lo else h'.lo,h'.os⟩,?_,rfl,λi=>rfl,?_⟩;show leave h w h'=_;unfold leave;rw[hw,Bool.and_false];rfl;show(if Nat.ble h.lo h'.lo then h.lo else h'.lo)=_;by_cases q:h.lo<=h'.lo;rw[if_pos (qS.mpr q)];lia;rw[if_neg (λz=>q (qS.mp z))];lia
theorem Fw{i n:Nat}(h:n<=i):W.lt n (.ref i)=false:=by show Nat.blt i n=false;rw[<-Bool.not_eq_true,iC];lia
section
variable{cl:Call}{ρ:En}{h h1 h2 h3 h':VH}{a b r:E}
theorem aN{x:W}{xs:List W}(ea:ev cl a ρ h=.ok x h1)(er:ev cl r ρ h1=.ok (.tup xs) h2):ev cl (.cons a r) ρ h=.ok (.tup (x::xs)) h2:=by rw[ev,ea,aD,er];rfl
theorem bG:ev cl .nil ρ h=.ok (.tup []) h:=by rw[ev]
theorem aG{w:W}:ev cl (.cst w) ρ h=.ok w h:=by rw[ev]
theorem fJ{ys:List W}(ea:ev cl a ρ h=.ok (.tup ys) h1)(hl:Nat.ble ys.length 1000):ev cl (.lst a) ρ h=.ok (.ref h1.n) (h1.new (.lst ys)):=by rw[ev,ea,aD];show(if Nat.ble ys.length 1000=true then _ else _)=_;rw[if_pos hl]
theorem CB{ys:List W}(ea:ev cl a ρ h=.ok (.tup ys) h1)(hl:Nat.ble ys.length 1000):ev cl (.tup a) ρ h=.ok (.tup ys) h1:=by rw[ev,ea,aD];show(if Nat.ble ys.length 1000=true then _ else _)=_;rw[if_pos hl]
theorem CD{ys:List W}{n:Nat}{w:W}(ea:ev cl a ρ h=.ok (.tup ys) h1)(e:cl n ys h1=.ok w h'):ev cl (.call n a) ρ h=.ok w h':=by rw[ev,ea,aD];exact e
theorem tu{x:W}{ws:List W}(ea:ev cl a ρ h=.ok x h1)(e:aR h1 x=aB ws):ev cl (.bi .tuple (.cons a .nil)) ρ h=.ok (.tup ws) h1:=by rw[ev,aN ea bG,aD];show vR [x] h1=_;simp only[vR,e,cA]
theorem pT{k:Kd}{t:Tg}{ow:Nat}{ix:List Nat}{x:W}{ys:List W}(ea:ev cl a ρ h=.ok x h1)(el:gF (aW k x) (bw t) (λ_ h=>.ok (.bl true) h) (ev cl b) fuel 0 (inner ow ix ρ) h1 []=.ok ys h2)(hy:ys.length<=1000000) :
 ev cl (.lc k a t ow ix (.cst (.bl true)) b) ρ h=.ok (.ref h2.n) (h2.new (.lst ys)):=by
 rw[ev,ea,aD,xh,el,aD,if_pos (nJ hy)]
theorem ez{k:Kd}{t:Tg}{x:W}{s:S}(ea:ev cl a ρ h=.ok x h1):exs cl (.«for» k a t s) ρ h=dX (aW k x) (bw t) (exs cl s) fuel 0 ρ h1:=by rw[exs,ea,aD]
end
noncomputable def Pv(w:W):Prop:=∀n,W.lt n w=true
theorem Pv.tup{ws:List W}(h:∀w∈ws,Pv w):Pv (.tup ws):=λn=>by
 rw[lO];induction ws with
 |nil=>rfl
 |cons a r ih=>
  rw[iX,h a (fT ..),ih λw hw=>h w (fE _ hw)];rfl
theorem Pv.int{i:Int}:Pv (.int i):=λ_=>lt_int
theorem Pv.str{i:Str}:Pv (.str i):=λ_=>lt_str
structure ia(F:Nat->Option Fn):Prop where
 f0:F 0=aB wD
 f1:F 1=aB BZ
 f6:F 6=aB rY
section
variable{F:Nat->Option Fn}(C:ia F)
include C
theorem Zo{k:Nat}{h:VH}{w:W}(hw:Kn h w):run F (k+1) 0 [w] h=.ok (.bl (isInt w)) h:=by
 rw[dW C.f0 rfl];cases w<;>try(simp[wD,exs,ev,isInt,dF];done)
 exact absurd rfl hw;rename_i i;unfold Kn at hw;simp only[ck]at hw;cases g:h.get i with
 |none=>rw[g]at hw;exact absurd rfl hw
 |some o=>cases o<;>first|(simp[wD,exs,ev,isInt,dF,ck,g];done)|(simp[g]at hw)
theorem Fx{k:Nat}{h:VH}{w:W}{lo hi:Int}(hw:Kn h w):run F (k+2) 1 [w,.int lo,.int hi] h=.ok (.bl (within w lo hi)) h:=by rw[dW C.f1 rfl];have e:=Zo C (k:=k) (h:=⟨h.n,h.n,h.os⟩) (w:=w) (eS.mpr hw);cases w<;>simp[BZ,exs,ev,e,isInt,within,dF,bE,gS];rename_i i;by_cases h1:lo<=i<;>simp[h1,dF]
theorem Fy{k:Nat}{h:VH}{w:W}{lo hi:Int}(hw:Kn h w):run F (k+1) 6 [w,.int lo,.int hi] h=.ok (.bl (eT w lo hi)) h:=by
 rw[dW C.f6 rfl];cases w<;>try(simp[rY,exs,ev,eT,dF];done)
 rename_i ws;simp[rY,exs,ev,eT,dF,bE,gS,mj,iB,aR];by_cases h1:lo<=ws.length<;>simp[h1,dF];exact absurd rfl hw;rename_i i;unfold Kn at hw;simp only[ck]at hw;cases g:h.get i with
 |none=>rw[g]at hw;exact absurd rfl hw
 |some o=>cases o<;>first|(simp[rY,exs,ev,eT,dF,ck,g];done)|(simp[g]at hw)
end
structure oj(F:Nat->Option Fn):Prop where
 f32:F 32=aB wK
 Zp:F 33=aB sf
 Zq:F 36=aB wL
 Zr:F 41=aB sj
 Zs:F 67=aB wM
 Zt:F 68=aB wN
 Zu:F 69=aB sr
 Zv:F 70=aB su
 Zw:F 71=aB sy
 Zx:F 72=aB wO
 Zy:F 77=aB sA
 JP:F 187=aB mD
noncomputable def Zz(h:VH)(p:Nat)(kvs:Kv):Prop:=h.get p=aB (.dm kvs)\/h.get p=aB (.dk kvs)
section
variable{F:Nat->Option Fn}(C:oj F)
include C
theorem mK{k p n:Nat}{h:VH}{kvs:Kv}(g:Zz h p kvs)(hv:∀kv∈kvs,Pv kv.2)(hn:n<1000):run F (k+1) 33 [.int n,.ref p] h=.ok (.tup (cC n kvs)) h:=by
 have look:∀i:Int,ev (run F k) ER [aB (.int i),aB (.ref p)] ⟨h.n,h.n,h.os⟩=.ok ((aS kvs (.inl i)).getD (.str dP)) ⟨h.n,h.n,h.os⟩:=λi=>by
  have hk:kI .get ⟨h.n,h.n,h.os⟩ (.ref p)=true:=by rcases g with g|g<;> (have g1:VH.get ⟨h.n,h.n,h.os⟩ p=_:=g)<;>simp only[kI,g1]
  have hm:jW .get (.ref p) [.int i,.str (bN ".")] ⟨h.n,h.n,h.os⟩=.ok ((aS kvs (.inl i)).getD (.str (bN "."))) ⟨h.n,h.n,h.os⟩:=by rcases g with g|g<;> (have g1:VH.get ⟨h.n,h.n,h.os⟩ p=_:=g)<;>simp only[jW,g1,nv]
  unfold ER;rw[ev,aE (x:=.ref p) rfl,aD,if_pos hk,aN (aE (x:=.int i) rfl) (aN aG bG),aD];exact hm
 obtain⟨ys,ρ',h',e1,hI⟩:=lR (nx:=aW .bR (.tup [.int n])) (tg:=bw (.one 0)) (e:=ev (run F k) ER) (n:=n)
  (I:=λi ρ h1 acc=>(∃x,ρ=[x,aB (.ref p)])/\h1=⟨h.n,h.n,h.os⟩/\acc=(List.range i).map λ(i:Nat)=>(aS kvs (.inl (i:Int))).getD (.str dP))
  (λi ρ h1 acc hi hI=>by
    obtain⟨⟨x,rfl⟩,rfl,rfl⟩:=hI;refine⟨.int (i:Int),[aB (.int i),aB (.ref p)],_,_,?_,rfl,look i,⟨_,rfl⟩,rfl,?_⟩;rw[i9 (by lia),if_pos hi];rw[xV,ig];rfl)
  (λρ h1 acc hI=>by rw[i9 (by lia),if_neg (fZ _)])
  (ρ:=inner 1 [1] [aB (.int n),aB (.ref p)]) (h:=⟨h.n,h.n,h.os⟩) (by lia) ⟨⟨aC,rfl⟩,rfl,rfl⟩
 obtain⟨_,rfl,rfl⟩:=hI;rw[dW C.Zp rfl];have eb:exs (run F k) sf.body [aB (.int n),aB (.ref p)] ⟨h.n,h.n,h.os⟩=.ok (.rt (.tup (cC n kvs))) (VH.new ⟨h.n,h.n,h.os⟩ (.lst (cC n kvs))):=by
  refine jB (dZ (tu (pT (aN (aE (x:=.int n) rfl) bG) e1 ?_) ?_));rw[Cv];lia;show(match VH.get _ _ with|some (.lst ws)=>aB ws|_=>aC)=_
  rw[dU]
 show fin h (exs (run F k) sf.body [aB (.int n),aB (.ref p)] ⟨h.n,h.n,h.os⟩)=_;rw[eb];refine dF (aZ _) (Pv.tup (λw hw=>?_) _);obtain⟨i,_,rfl⟩:=iH.mp hw;cases q:aS kvs (.inl (i:Int))with
 |none=>exact Pv.str
 |some v=>
  unfold aS at q;obtain⟨kv,q1,rfl⟩:=Option.map_eq_some_iff.mp q;exact hv kv (List.mem_of_find?_eq_some q1)
end
noncomputable def jl(kvs:Kv):Prop:=∀kv∈kvs,(∃i,kv.1=.inl i)/\Pv kv.2
theorem jl.put{kvs:Kv}{i:Int}{w:W}(h:jl kvs)(p:Pv w):jl (bB kvs (.inl i) w):=by
 unfold bB;split;intro kv hk;obtain⟨x,hx,rfl⟩:=iH.mp hk;split;exact⟨(h x hx).1,p⟩;exact h x hx;intro kv hk;rcases uZ.mp hk with hk|hk
 exact h kv hk;rw[mS.mp hk];exact⟨⟨i,rfl⟩,p⟩
theorem jl.nil:jl []:=λ_ h=>by cases h
theorem jl.v{kvs:Kv}(h:jl kvs):∀kv∈kvs,Pv kv.2:=λkv hk=>(h kv hk).2
theorem ZC{kvs:Kv}:jl (j5 kvs):=by
 have:∀(kv acc:Kv),jl acc->jl (kv.foldl (λacc x=>match x.1 with
  |.inl i=>bB acc (.inl (i+1)) (.str fP)
  |.inr _=>acc) acc):=by
  intro kv;induction kv with
  |nil=>intro acc h;exact h
  |cons x r ih=>
   intro acc h;rw[lU];refine ih _ ?_;obtain⟨k,w⟩:=x;cases k with|inl i=>exact h.put Pv.str|inr s=>exact h
 exact this kvs [] .nil
theorem ZD{kvs:Kv}{i:Int}{w:W}:j5 (kvs++[(.inl i,w)])=bB (j5 kvs) (.inl (i+1)) (.str fP):=by unfold j5;rw[Dg];rfl
section
variable{F:Nat->Option Fn}(C:oj F)
include C
theorem ZE{k p n:Nat}{h:VH}{kvs:Kv}(g:h.get p=aB (.dm kvs))(ok:jl kvs)(hl:kvs.length<=1000)(hn:n<1000) :
 ∃i h',run F (k+2) 36 [.int n,.ref p] h=.ok (.ref i) h'/\h'.get i=aB (.lst [.tup (cC n kvs),.tup (cC n (j5 kvs))])/\h.n<=i/\h.n<=h'.n/\(∀j,j<h.n->j≠p->h'.get j=h.get j)/\min h.lo p<=h'.lo:=by
 have g0:VH.get ⟨h.n,h.n,h.os⟩ p=aB (.dm kvs):=g;have hp:p<h.n:=bU g;have eA:=mK C (k:=k) (p:=p) (n:=n) (h:=⟨h.n,h.n,h.os⟩) (.inl g0) ok.v hn;generalize hk1:VH.set ⟨h.n,h.n,h.os⟩ p (.dk kvs)=k1;have g1:k1.get p=aB (.dk kvs):=by rw[<-hk1];exact pP g0
 have n1:k1.n=h.n:=by rw[<-hk1];rfl
 obtain⟨ys,ρ',h',e1,hI⟩:=Fv (nx:=aW .keys (.ref p)) (tg:=bw (.one 0)) (c:=λ_ h=>.ok (.bl true) h) (e:=ev (run F (k+1)) (.op .add (.var 0) (.cst (.int (1))))) (v:=ev (run F (k+1)) (.cst (.str fP))) (n:=kvs.length)
  (I:=λi ρ h1 acc=>(∃x,ρ=[x])/\h1=k1/\acc=j5 (kvs.take i))
  (λi ρ h1 acc hi hI=>by
    obtain⟨⟨x,rfl⟩,rfl,rfl⟩:=hI;have hx:=dh hi;obtain⟨⟨j,hj⟩,_⟩:=ok _ (kZ hi);refine⟨.int j,[aB (.int j)],true,h1,?_,rfl,rfl,.inl ⟨rfl,.int (j+1),.inl (j+1),.str fP,h1,h1,?_,aG,rfl,?_,⟨_,rfl⟩,rfl,?_⟩⟩;simp only[aW,g1,hx,hj,vU];exact fk (aE rfl) aG rfl;have:=Zj (kv:=kvs.take i);rw[qQ]at this;exact xj (by lia);rw[pZ,hx];have e5:kvs[i]=(.inl j,kvs[i].2):=by rw[<-hj]
    show _=j5 (kvs.take i++[kvs[i]]);rw[e5,ZD])
  (λρ h1 acc hI=>by
    obtain⟨_,rfl,rfl⟩:=hI;simp only[aW,g1,iL (aZ _),Nat.beq_refl,bY])
  kvs.length 0 fuel [aC] k1 [] (jo _) (show _<1000000 by lia) ⟨⟨aC,rfl⟩,rfl,rfl⟩
 obtain⟨_,rfl,rfl⟩:=hI;rw[oz]at e1;have eB:=mK C (k:=k) (p:=h'.n) (n:=n) (h:=h'.new (.dm (j5 kvs))) (.inl dU) ZC.v hn;have ZF:ev (run F (k+1)) (.bi .bC (.cons (.var 1) .nil)) [aB (.int n),aB (.ref p)] ⟨h.n,h.n,h.os⟩=.ok (.ref p) h':=by rw[ev,aN (aE (x:=.ref p) rfl) bG,aD];show nA [.ref p] _=_;simp only[nA,g0,hk1]
 have JQ:ev (run F (k+1)) (.dc .keys (.bi .bC (.cons (.var 1) .nil)) (.one 0) 1 [] (.cst (.bl true)) (.op .add (.var 0) (.cst (.int (1)))) (.cst (.str fP))) [aB (.int n),aB (.ref p)] ⟨h.n,h.n,h.os⟩=.ok (.ref h'.n) (h'.new (.dm (j5 kvs))):=by rw[ev,ZF,aD,xh];show((jM _ _ _ _ _ fuel 0 [aC] h' []).bind _)=_;rw[e1,aD]
 have eb:exs (run F (k+1)) wL.body [aB (.int n),aB (.ref p)] ⟨h.n,h.n,h.os⟩=.ok (.rt (.ref (h'.n+1))) ((h'.new (.dm (j5 kvs))).new (.lst [.tup (cC n kvs),.tup (cC n (j5 kvs))])):=
  jB (dZ (fJ (aN (mJ (aE rfl) (aE rfl) eA) (aN (mJ (aE rfl) JQ eB) bG)) rfl))
 rw[dW C.Zq rfl];obtain⟨h2,e2,n2,G,lo2⟩:=Qn (h:=h) (h':=(h'.new (.dm (j5 kvs))).new (.lst [.tup (cC n kvs),.tup (cC n (j5 kvs))])) (w:=.ref (h'.n+1)) (Fw (by lia));refine⟨h'.n+1,h2,?_,?_,by lia,?_,λj hj hne=>?_,?_⟩;rw[<-e2];exact nR (fin h) eb;rw[G];exact dU;rw[n2];show h.n<=h'.n+1+1;lia;rw[G,iD (show j< (h'.new (.dm (j5 kvs))).n by show j<h'.n+1;lia),iD (by lia),<-hk1];exact nZ (h:=⟨h.n,h.n,h.os⟩) hp hne;rw[lo2];show _<=min h.lo h'.lo;rw[<-hk1];show _<=min h.lo (if Nat.blt p h.n then p else h.n);rw[if_pos (iC.mpr hp)];exact aZ _
end
structure Gm(h h':VH):Prop where
 le:h.n<=h'.n
 lo:min h.lo h.n<=h'.lo
 get:∀j,j<h.n->h'.get j=h.get j
theorem Gm.refl{h:VH}:Gm h h:=⟨aZ _,Nat.min_le_left _ _,λ_ _=>rfl⟩
theorem Gm.trans{a b c:VH}(x:Gm a b)(y:Gm b c):Gm a c:=⟨gJ x.le y.le,by
 have:=x.lo;have:=y.lo;have:=x.le;lia,λj hj=>by rw[y.get j (di hj x.le),x.get j hj]⟩
theorem Gm.new{h h':VH}{o:VO}(x:Gm h h'):Gm h (h'.new o):=⟨Nat.le_succ_of_le x.le,x.lo,λj hj=>by rw[iD (di hj x.le),x.get j hj]⟩
theorem Gm.set{h h':VH}{o:VO}{a:Nat}(x:Gm h h')(ha:h.n<=a)(hb:a<h'.n):Gm h (h'.set a o):=⟨x.le,by
 have:=x.lo;show _<=if Nat.blt a h'.lo then a else h'.lo
 split<;>lia,λj hj=>by rw[nZ hb (by lia),x.get j hj]⟩
theorem JR{h h':VH}{w:W}(hw:W.lt h.n w=false)(x:Gm ⟨h.n,h.n,h.os⟩ h'):∃h2,fin h (.ok (.rt w) h')=.ok w h2/\Gm h h2/\∀i,h2.get i=h'.get i:=by obtain⟨h2,e,n2,G,l2⟩:=Qn (h':=h') hw;refine⟨h2,e,⟨by rw[n2];exact x.le,?_,λj hj=>by rw[G,x.get j hj];rfl⟩,G⟩;have:=x.lo;have e2:(⟨h.n,h.n,h.os⟩:VH).lo=h.n:=rfl;have e3:(⟨h.n,h.n,h.os⟩:VH).n=h.n:=rfl;rw[l2];rw[e2,e3]at this;lia
theorem xB{h h':VH}{w:W}(p:Pv w)(x:Gm ⟨h.n,h.n,h.os⟩ h'):fin h (.ok (.rt w) h')=.ok w h:=dF (by
 have:=x.lo;have e2:(⟨h.n,h.n,h.os⟩:VH).lo=h.n:=rfl;have e3:(⟨h.n,h.n,h.os⟩:VH).n=h.n:=rfl;rw[e2,e3]at this;lia) (p _)
theorem uR{a i:Nat}{h:VH}{ws:List W}(g:h.get a=aB (.lst ws)):aW .seq (.ref a) i h=aB ws[i]?:=by simp only[aW,aR,g,ly]
theorem om{a:Nat}{h:VH}{ws:List W}(g:h.get a=aB (.lst ws)):aR h (.ref a)=aB ws:=by simp only[aR,g]
noncomputable def fW(f:Int×Int×Int):W:=.tup [.int f.1,.int f.2.1,.int f.2.2]
section
variable{F:Nat->Option Fn}(C:oj F)
include C
theorem ZG{k s:Nat}{h:VH}{z:Int}(hs:s<1000):run F (k+1) 41 [.int z,.int s] h=.ok (iW (aO z s)) h:=by
 have half:∀(i:Nat)(y:Int),aO y (i+1)=aO y i++[(y/2 ^ i) % 2]:=by
  intro i;induction i with
  |zero=>intro y;simp[aO]
  |succ n ih=>
   intro y;rw[aO,ih (y/2),aO,qR];rw[Int.ediv_ediv_of_nonneg (by decide:(0:Int)<=2),show(2:Int)*2 ^ n=2 ^ (n+1) by rw[DA,yb]]
 obtain⟨ρ',h',e1,hI⟩:=nM (nx:=aW .bR (.tup [.int s])) (tg:=bw (.one 3)) (b:=exs (run F k) IK) (n:=s)
  (I:=λi ρ h1=>(∃x,ρ=[aB (.int (z/2 ^ i)),aB (.int s),aB (.ref h.n),x])/\Gm ⟨h.n,h.n,h.os⟩ h1/\h1.get h.n=aB (.lst ((aO z i).map .int)))
  (λi ρ h1 hi hI=>by
    obtain⟨⟨x,rfl⟩,w1,g1⟩:=hI;have hlt:=bU g1;refine⟨.int (i:Int),[aB (.int (z/2 ^ i)),aB (.int s),aB (.ref h.n),aB (.int (i:Int))],[aB (.int (z/2 ^ (i+1))),aB (.int s),aB (.ref h.n),aB (.int (i:Int))],h1.set h.n (.lst ((aO z (i+1)).map .int)),?_,rfl,?_,⟨_,rfl⟩,w1.set (aZ _) hlt,pP g1⟩;rw[i9 (by lia),if_pos hi];unfold IK;have ea:ev (run F k) (.mt .append (.var 2) (.cons (.op .mod (.var 0) (.cst (.int 2))) .nil)) [aB (.int (z/2 ^ i)),aB (.int s),aB (.ref h.n),aB (.int (i:Int))] h1=.ok .aP (h1.set h.n (.lst ((aO z (i+1)).map .int))):=by
     have hk:kI .append h1 (.ref h.n)=true:=by simp only[kI,g1]
     rw[ev,aE (x:=.ref h.n) rfl,aD,if_pos hk,aN (fk (r:=.ok (.int ((z/2 ^ i) % 2)) h1) (aE rfl) aG rfl) bG,aD];show jW .append (.ref h.n) [.int ((z/2 ^ i) % 2)] h1=_;simp only[jW,g1];rw[if_pos (xj (by rw[bx,qw];lia)),half,ig];rfl
    refine(bq (ρ':=[aB (.int (z/2 ^ i)),aB (.int s),aB (.ref h.n),aB (.int (i:Int))]) (h':=h1.set h.n (.lst ((aO z (i+1)).map .int))) (by rw[exs,ea,aD])).trans ?_;refine(bq (ρ':=[aB (.int (z/2 ^ (i+1))),aB (.int s),aB (.ref h.n),aB (.int (i:Int))]) (h':=h1.set h.n (.lst ((aO z (i+1)).map .int))) ?_).trans (by rw[exs]);rw[exs];show((ev (run F k) (.cst (.int 2)) _ _).bind _)=_;rw[aG,aD];show Res.ok (Fl.nx [aB (.int (z/2 ^ i/2)),aB (.int s),aB (.ref h.n),aB (.int (i:Int))]) _=_;rw[Int.ediv_ediv_of_nonneg (Int.pow_nonneg (by decide)),show(2:Int) ^ i*2=2 ^ (i+1)from(DA 2 i).symm])
  (λρ h1 hI=>by rw[i9 (by lia),if_neg (fZ _)])
  s 0 fuel [aB (.int z),aB (.int s),aB (.ref h.n),aC] (VH.new ⟨h.n,h.n,h.os⟩ (.lst [])) (jo _) (show _<1000000 by lia)
  ⟨⟨aC,by simp⟩,Gm.refl.new,dU⟩
 obtain⟨⟨x,rfl⟩,w1,g1⟩:=hI;rw[dW C.Zr rfl];have eb:exs (run F k) sj.body [aB (.int z),aB (.int s),aC,aC] ⟨h.n,h.n,h.os⟩=.ok (.rt (iW (aO z s))) h':=by refine(bq (bX (x:=.ref h.n) (h1:=VH.new ⟨h.n,h.n,h.os⟩ (.lst [])) (fJ bG rfl))).trans ?_;refine(bq ((ez (aN (aE (x:=.int s) rfl) bG)).trans e1)).trans ?_;exact jB (dZ (tu (aE rfl) (om g1)))
 show fin h (exs (run F k) sj.body [aB (.int z),aB (.int s),aC,aC] ⟨h.n,h.n,h.os⟩)=_;rw[eb];refine xB (Pv.tup λw hw=>?_) w1;obtain⟨i,_,rfl⟩:=iH.mp hw;exact Pv.int
end
theorem ZH{ws:List W}{k:Nat}(h:k<=ws.length):iR ws (aB (k:Int)) aC=ws.drop k:=by unfold iR;rw[HT.oJ,HT.rD,Nat.min_eq_left h];exact List.take_of_length_le (by rw[xS];lia)
noncomputable def FA(cs:List Int)(i:Nat):Int×Int×Int:=(cs.getD (2*i) 0,(cs.getD (2*i) 0+cs.getD (2*i+1) 0)/2,cs.getD (2*i+1) 0)
theorem FD:∀cs:List Int,(fQ cs).length=cs.length/2
 |[]=>rfl
 |[_]=>by simp[fQ]
 |a::b::r=>by
  rw[fQ,cG,FD r,cG,cG];lia
theorem Qo:∀(cs:List Int) (i:Nat),i<cs.length/2->(fQ cs)[i]?=aB (FA cs i)
 |[],i,h=>by simp at h
 |[_],i,h=>by simp at h
 |a::b::r,0,h=>rfl
 |a::b::r,i+1,h=>by
  have:=Qo r i (by rw[cG,cG]at h;lia);rw[fQ,pY,this];unfold FA;rw[show 2* (i+1)=2*i+1+1 by lia];rfl
theorem ZJ{cs:List Int}{i:Nat}(h:i<cs.length/2):(fQ cs).take (i+1)=(fQ cs).take i++[FA cs i]:=by rw[pZ,Qo cs i h];rfl
section
variable{F:Nat->Option Fn}(C:oj F)
include C
theorem ZK{k a:Nat}{h:VH}{cs:List Int}(g:h.get a=aB (.lst (cs.map .int)))(hl:cs.length<1000) :
 ∃i h',run F (k+1) 68 [.ref a] h=.ok (.ref i) h'/\h'.get i=aB (.lst ((fQ cs).map fW))/\h.n<=i/\Gm h h':=by
 have ha:=bU g;let k0:VH:=⟨h.n,h.n,h.os⟩
 have g0:k0.get a=aB (.lst (cs.map .int)):=g;let k1:=k0.new (.lst (cM (cs.map W.int)));have g1:k1.get a=aB (.lst (cs.map .int)):=by rw[show k1.get a=k0.get a from iD ha];exact g0
 let k2:=k1.new (.lst (cM ((cs.map W.int).drop 1)));have ga:k2.get h.n=aB (.lst (cM (cs.map W.int))):=by rw[show k2.get h.n=k1.get h.n from iD (fY _)];exact dU (h:=k0)
 have gb:k2.get (h.n+1)=aB (.lst (cM ((cs.map W.int).drop 1))):=dU (h:=k1);have nx:∀i:Nat,aW .zip (.tup [.ref h.n,.ref (h.n+1)]) i k2=aB (if i<cs.length/2 then aB (.tup [.int (cs.getD (2*i) 0),.int (cs.getD (2*i+1) 0)])else aC):=λi=>by
  simp only[aW,aR,ga,gb];rw[Ej,Ej,List.getElem?_drop,dS,dS,Nat.add_comm 1];by_cases q:i<cs.length/2;rw[if_pos q,dh (show 2*i<cs.length by lia),dh (show 2*i+1<cs.length by lia),pX,pX,dh (show 2*i<cs.length by lia),dh (show 2*i+1<cs.length by lia)];rfl;rw[if_neg q,iL (show cs.length<=2*i+1 by lia)];cases(Option.map W.int cs[2*i]?)<;>rfl
 obtain⟨ys,ρ',h',e1,hI⟩:=lR (nx:=aW .zip (.tup [.ref h.n,.ref (h.n+1)])) (tg:=bw (.many [0,1])) (e:=ev (run F k) Pf) (n:=cs.length/2)
  (I:=λi ρ h1 acc=>(∃x y,ρ=[x,y])/\h1=k2/\acc=((fQ cs).take i).map fW)
  (λi ρ h1 acc hi hI=>by
    obtain⟨⟨x,y,rfl⟩,rfl,rfl⟩:=hI;refine⟨.tup [.int (cs.getD (2*i) 0),.int (cs.getD (2*i+1) 0)],[aB (.int (cs.getD (2*i) 0)),aB (.int (cs.getD (2*i+1) 0))],fW (FA cs i),_,?_,rfl,?_,⟨_,_,rfl⟩,rfl,?_⟩;rw[nx,if_pos hi];exact CA (aE rfl) (fk (fk (aE rfl) (aE rfl) rfl) aG rfl) (aE rfl);rw[ZJ hi,ig];rfl)
  (λρ h1 acc hI=>by rw[hI.2.1,nx,if_neg (fZ _)])
  (ρ:=inner 2 [] [aB (.ref a)]) (h:=k2) (by lia) ⟨⟨aC,aC,rfl⟩,rfl,rfl⟩
 obtain⟨_,rfl,rfl⟩:=hI;rw[<-FD,oz]at e1;have es:∀(e:E)(l:W)(c:Nat)(hh:VH)(q:hh.get a=aB (.lst (cs.map .int))),ev (run F k) e [aB (.ref a)] hh=.ok l hh->rO l=aB c->ev (run F k) (.bi .st2 (.cons (.var 0) (.cons e (.cons (.cst (.int 2)) .nil)))) [aB (.ref a)] hh=.ok (.ref hh.n) (hh.new (.lst (cM ((cs.map W.int).drop c)))):=λe l c hh q e1 e2=>by
  rw[ev,aN (aE (x:=.ref a) rfl) (aN e1 (aN aG bG)),aD];show nB [.ref a,l,.int 2] hh=_;simp only[nB,q,e2,bY]
 rw[dW C.Zt rfl];have eb:exs (run F k) wN.body [aB (.ref a)] ⟨h.n,h.n,h.os⟩=.ok (.rt (.ref k2.n)) (k2.new (.lst ((fQ cs).map fW))):=by refine jB (dZ (pT (aN (h1:=k1) (es _ .aP 0 k0 g0 aG rfl) (aN (h1:=k2) (es _ (.int 1) 1 k1 g1 aG rfl) bG)) e1 ?_));rw[bx,FD];lia
 obtain⟨h2,e2,w2,G⟩:=JR (h:=h) (h':=k2.new (.lst ((fQ cs).map fW))) (w:=.ref k2.n) (Fw (show h.n<=h.n+1+1 by lia)) (((Gm.refl.new).new).new);refine⟨k2.n,h2,?_,by rw[G];exact dU,show h.n<=h.n+1+1 by lia,w2⟩;rw[<-e2];exact nR (fin h) eb
theorem ZL{k a f:Nat}{h:VH}{cs:List Int}{aM:List (Int×Int×Int)}(g:h.get a=aB (.lst (cs.map .int)))(gf:h.get f=aB (.lst (aM.map fW)))(hl:cs.length<1000)(hf:aM.length<1000)(hfc:2*aM.length<=cs.length) :
 ∃i h',run F (k+1) 72 [.ref a,.ref f] h=.ok (.ref i) h'/\h'.get i=aB (.lst ((oh cs aM).map .int))/\h.n<=i/\Gm h h':=by
 have ha:=bU g;have hf':=bU gf;let k0:VH:=⟨h.n,h.n,h.os⟩
 have g0:k0.get f=aB (.lst (aM.map fW)):=gf;obtain⟨ys,ρ',h',e1,hI⟩:=lR (nx:=aW .seq (.ref f)) (tg:=bw (.many [0,1,2])) (e:=ev (run F k) Pj) (n:=aM.length)
  (I:=λi ρ h1 acc=>(∃x y z,ρ=[x,y,z])/\h1=k0/\acc=(aM.take i).map λq=>W.int q.2.1)
  (λi ρ h1 acc hi hI=>by
    obtain⟨⟨x,y,z,rfl⟩,rfl,rfl⟩:=hI;have hx:=dh hi;refine⟨fW aM[i],[aB (.int aM[i].1),aB (.int aM[i].2.1),aB (.int aM[i].2.2)],.int aM[i].2.1,k0,?_,rfl,aE rfl,⟨_,_,_,rfl⟩,rfl,?_⟩;rw[uR g0,dS,hx];rfl;rw[pZ,hx,ig];rfl)
  (λρ h1 acc hI=>by rw[hI.2.1,uR g0,iL (by rw[bx];exact aZ _)])
  (ρ:=inner 3 [] [aB (.ref a),aB (.ref f)]) (h:=k0) (by lia) ⟨⟨aC,aC,aC,rfl⟩,rfl,rfl⟩
 obtain⟨_,rfl,rfl⟩:=hI;rw[oz]at e1;let k1:=k0.new (.lst (aM.map λq=>W.int q.2.1));have ga:k1.get a=aB (.lst (cs.map .int)):=by rw[show k1.get a=k0.get a from iD ha];exact g
 have CF:k1.get f=aB (.lst (aM.map fW)):=by rw[show k1.get f=k0.get f from iD hf'];exact g0
 let k2:=k1.new (.lst ((cs.map W.int).drop (2*aM.length)));have JS:ev (run F k) (.slc (.var 0) true (.op .mul (.cst (.int 2)) (.bi .len (.cons (.var 1) .nil))) false (.cst .aP)) [aB (.ref a),aB (.ref f)] k1=.ok (.ref k1.n) k2:=by rw[ev,aE (x:=.ref a) rfl,aD,fk (r:=.ok (.int (2* (aM.length:Int))) k1) aG (dN (aE (x:=.ref f) rfl) (om CF)) (by rw[bx];rfl),aD,aG,aD];show kF (.ref a) (aB (2* (aM.length:Int))) aC k1=_;simp only[kF,ga];show Res.ok (W.ref k1.n) (k1.new (.lst (iR (cs.map W.int) (aB (2* (aM.length:Int))) aC)))=_;rw[show(2* (aM.length:Int))=((2*aM.length:Nat):Int) by push_cast;rfl,ZH (by rw[bx];exact hfc)]
 rw[dW C.Zx rfl];have eb:exs (run F k) wO.body [aB (.ref a),aB (.ref f)] ⟨h.n,h.n,h.os⟩=.ok (.rt (.ref k2.n)) (k2.new (.lst ((oh cs aM).map .int))):=by
  refine jB (dZ (fk (h1:=k1) (h2:=k2) (x:=.ref h.n) (y:=.ref k1.n) (pT (aE (x:=.ref f) rfl) e1 (by rw[bx];lia)) JS ?_));have g3:k2.get h.n=aB (.lst (aM.map λq=>W.int q.2.1)):=by rw[show k2.get h.n=k1.get h.n from iD (fY _)];exact dU (h:=k0)
  have g4:k2.get k1.n=aB (.lst ((cs.map W.int).drop (2*aM.length))):=dU (h:=k1);have:oh cs aM=(aM.map λq=>q.2.1)++cs.drop (2*aM.length):=rfl;rw[this,ig,Dl,List.map_drop];simp only[iA,g3,g4,AW];rw[if_pos (nJ (by rw[bx,xS,bx];lia))];rfl
 obtain⟨h2,e2,w2,G⟩:=JR (h:=h) (h':=k2.new (.lst ((oh cs aM).map .int))) (w:=.ref k2.n) (Fw (show h.n<=h.n+1+1 by lia)) (((Gm.refl.new).new).new);refine⟨k2.n,h2,?_,by rw[G];exact dU,show h.n<=h.n+1+1 by lia,w2⟩;rw[<-e2];exact nR (fin h) eb
end
theorem Qp:∀ls:List Int,aY iZ (ls.map .int)=aB ls|[]=>rfl|x::r=>by simp only[fm,aY,iZ,Qp r]
noncomputable def lS(p:Int×Int×Int->Bool)(kk:Int×Int×Int->Int)(w:W)(aM:List (Int×Int×Int)):Kv:=aM.foldl (λkv x=>if p x=true then bB kv (.inl (kk x)) w else kv) []
theorem Qq{p:Int×Int×Int->Bool}{kk:Int×Int×Int->Int}{w:W}{aM:List (Int×Int×Int)}{x:Int×Int×Int}:lS p kk w (aM++[x])=if p x=true then bB (lS p kk w aM) (.inl (kk x)) w else lS p kk w aM:=by unfold lS;rw[Dg];rfl
theorem FF{p:Int×Int×Int->Bool}{kk:Int×Int×Int->Int}{w:W}(pw:Pv w)(aM:List (Int×Int×Int)):jl (lS p kk w aM)/\(lS p kk w aM).length<=aM.length:=by
 have:∀(l:List (Int×Int×Int))(acc:Kv),jl acc->jl (l.foldl (λkv x=>if p x=true then bB kv (.inl (kk x)) w else kv) acc)/\(l.foldl (λkv x=>if p x=true then bB kv (.inl (kk x)) w else kv) acc).length<=acc.length+l.length:=by
  intro l;induction l with
  |nil=>intro acc h;exact⟨h,aZ _⟩
  |cons x r ih=>
   intro acc h;rw[lU,cG];by_cases q:p x=true;rw[if_pos q];obtain⟨h1,h2⟩:=ih _ (h.put (i:=kk x) pw);have:=JE (k:=.inl (kk x)) (w:=w) (kv:=acc);exact⟨h1,gJ h2 (by rw[<-Nat.add_assoc,Nat.add_right_comm];exact Nat.add_le_add_right this _)⟩;rw[if_neg q];obtain⟨h1,h2⟩:=ih _ h;exact⟨h1,gJ h2 (Dn (p9 _) _)⟩
 obtain⟨h1,h2⟩:=this aM [] .nil;exact⟨h1,by simpa[lS]using h2⟩
theorem Qs{g:Int}{aM:List (Int×Int×Int)}:pQ g aM=lS (λ_=>true) (λx=>x.2.1) (.tup [.int g,.int 0]) aM:=by unfold pQ lS;simp
theorem Qt{s:Int}{aM:List (Int×Int×Int)}:qt s aM=lS (λx=>decide (x.1<x.2.1-s)) (λx=>x.2.1-s) (.str fP) aM:=by unfold qt lS;simp
theorem Qu{s:Int}{aM:List (Int×Int×Int)}:uO s aM=lS (λx=>decide (x.2.1+s<x.2.2)) (λx=>x.2.1+s) (.str jZ) aM:=by unfold uO lS;simp
theorem Qv:∀{b a:Kv},jl a->jl b->jl (yQ a b)
 |[],a,h,_=>h
 |x::r,a,h,h2=>by
  obtain⟨⟨i,hi⟩,p⟩:=h2 x fT;unfold yQ;rw[lU,hi];exact Qv (h.put p) λy hy=>h2 y (fE _ hy)
theorem Qw:∀(r:List Int) (x:Int),dI x r=sV x r|[],_=>rfl|y::r,x=>by rw[dI,sV,Qw r]
theorem JT{cl:Call}{c e v:E}{f:Nat}{h:VH}{s:Option W}{aM:List (Int×Int×Int)}(g:h.get f=aB (.lst (aM.map fW)))(hl:aM.length<=1000){p:Int×Int×Int->Bool}{kk:Int×Int×Int->Int}{w:W}(pw:Pv w)
 (hc:∀x:Int×Int×Int,ev cl c [aB (.int x.1),aB (.int x.2.1),aB (.int x.2.2),s] h=.ok (.bl (p x)) h)
 (he:∀x:Int×Int×Int,ev cl e [aB (.int x.1),aB (.int x.2.1),aB (.int x.2.2),s] h=.ok (.int (kk x)) h)
 (hv:∀x:Int×Int×Int,ev cl v [aB (.int x.1),aB (.int x.2.1),aB (.int x.2.2),s] h=.ok w h) :
 jM (aW .seq (.ref f)) (bw (.many [0,1,2])) (ev cl c) (ev cl e) (ev cl v) fuel 0 [aC,aC,aC,s] h []=.ok (lS p kk w aM) h:=by
 obtain⟨ys,ρ',h',e1,hI⟩:=Fv (nx:=aW .seq (.ref f)) (tg:=bw (.many [0,1,2])) (c:=ev cl c) (e:=ev cl e) (v:=ev cl v) (n:=aM.length)
  (I:=λi ρ h1 acc=>(∃x y z,ρ=[x,y,z,s])/\h1=h/\acc=lS p kk w (aM.take i))
  (λi ρ h1 acc hi hI=>by
    obtain⟨⟨x,y,z,rfl⟩,rfl,rfl⟩:=hI;have hx:=dh hi;have ht:aM.take (i+1)=aM.take i++[aM[i]]:=by rw[pZ,hx];rfl
    refine⟨fW aM[i],[aB (.int aM[i].1),aB (.int aM[i].2.1),aB (.int aM[i].2.2),s],p aM[i],h1,?_,rfl,hc _,?_⟩;rw[uR g,dS,hx];rfl;cases q:p aM[i]with
    |true=>
     refine .inl ⟨rfl,.int (kk aM[i]),.inl (kk aM[i]),w,h1,h1,he _,hv _,rfl,?_,⟨_,_,_,rfl⟩,rfl,?_⟩;have:=(FF (p:=p) (kk:=kk) pw (aM.take i)).2;rw[qQ]at this;exact xj (by lia);rw[ht,Qq,if_pos q]
    |false=>
     refine .inr ⟨rfl,⟨_,_,_,rfl⟩,rfl,?_⟩;rw[ht,Qq,if_neg (by rw[q];exact u9)])
  (λρ h1 acc hI=>by rw[hI.2.1,uR g,iL (by rw[bx];exact aZ _)])
  aM.length 0 fuel [aC,aC,aC,s] h [] (jo _) (show _<1000000 by lia) ⟨⟨aC,aC,aC,rfl⟩,rfl,rfl⟩
 obtain⟨_,rfl,rfl⟩:=hI;rw[oz]at e1;exact e1
theorem CG{b:Int}{i:Nat}{h:VH}(h0:1<=b)(h1:b<=1000000):aW .gQ (.tup [.int 1,.int b]) i h=aB (if i< (b-1).toNat then aB (.int (1+ (i:Int)))else aC):=by
 have hf:(fits 1&&fits b)=true:=by unfold fits;simp;lia
 show(if fits 1&&fits b then aB (if decide ((i:Int)<b-1)then aB (W.int (1+i))else aC)else aC)=_;rw[if_pos hf];by_cases q:i< (b-1).toNat
 rw[if_pos q,kY (by lia)];rfl;rw[if_neg q,jn (by lia)];rfl
section
variable{F:Nat->Option Fn}(C:oj F)
include C
theorem ZM{k f n:Nat}{g:Int}{h:VH}{aM:List (Int×Int×Int)}(gf:h.get f=aB (.lst (aM.map fW)))(hl:aM.length<=400)(hne:aM≠[])(hn:n<1000)(m1:1<=gZ aM)(m2:gZ aM<=400) :
 ∃i h',run F (k+2) 67 [.int n,.int g,.ref f] h=.ok (.ref i) h'/\h'.get i=aB (.lst ((Cs n g aM).map .tup))/\h.n<=i/\Gm h h':=by
 have hf':=bU gf;let k0:VH:=⟨h.n,h.n,h.os⟩
 have g0:k0.get f=aB (.lst (aM.map fW)):=gf;let k1:=k0.new (.dm (pQ g aM));have pM:Pv (.tup [.int g,.int 0]):=Pv.tup λw hw=>by
  rcases gH.mp hw with rfl|hw;exact Pv.int;rw[mS.mp hw];exact Pv.int
 have e1:ev (run F (k+1)) (.dc .seq (.var 2) (.many [0,1,2]) 3 [1] (.cst (.bl true)) (.var 1) (.tup (.cons (.var 3) (.cons (.cst (.int (0))) .nil)))) [aB (.int n),aB (.int g),aB (.ref f),aC,aC,aC] k0=.ok (.ref h.n) k1:=by rw[ev,aE (x:=.ref f) rfl,aD];show((jM _ _ _ _ _ fuel 0 [aC,aC,aC,aB (.int g)] k0 []).bind _)=_;rw[JT (p:=λ_=>true) (kk:=λx=>x.2.1) (w:=.tup [.int g,.int 0]) g0 (by lia) pM (λx=>aG) (λx=>aE rfl) (λx=>jD (aE rfl) aG),aD,<-Qs]
 have FG:jl (pQ g aM):=by rw[Qs];exact(FF pM aM).1
 have r1:=mK C (k:=k) (p:=h.n) (n:=n) (h:=k1) (.inl dU) FG.v hn;let k2:=k1.new (.lst [.tup (cC n (pQ g aM))]);have w2:Gm k0 k2:=(Gm.refl.new).new;have Qx:k2.get f=aB (.lst (aM.map fW)):=by rw[w2.get f hf'];exact g0
 obtain⟨ys,ρ',h',e3,hI⟩:=lR (nx:=aW .seq (.ref f)) (tg:=bw (.many [0,1,2])) (e:=ev (run F (k+1)) ES) (n:=aM.length)
  (I:=λi ρ h1 acc=>(∃x y z,ρ=[x,y,z])/\h1=k2/\acc=(aM.take i).map λq=>W.int (gap q))
  (λi ρ h1 acc hi hI=>by
    obtain⟨⟨x,y,z,rfl⟩,rfl,rfl⟩:=hI;have hx:=dh hi;refine⟨fW aM[i],[aB (.int aM[i].1),aB (.int aM[i].2.1),aB (.int aM[i].2.2)],.int (gap aM[i]),k2,?_,rfl,?_,⟨_,_,_,rfl⟩,rfl,?_⟩;rw[uR Qx,dS,hx];rfl;unfold ES;rw[ev,aN (fk (r:=.ok (.int (aM[i].2.1-aM[i].1)) k2) (aE rfl) (aE rfl) rfl) (aN (fk (r:=.ok (.int (aM[i].2.2-aM[i].2.1)) k2) (aE rfl) (aE rfl) rfl) bG),aD];rfl;rw[pZ,hx,ig];rfl)
  (λρ h1 acc hI=>by rw[hI.2.1,uR Qx,iL (by rw[bx];exact aZ _)])
  (ρ:=inner 3 [] [aB (.int n),aB (.int g),aB (.ref f),aB (.ref k1.n),aC,aC]) (h:=k2) (by lia) ⟨⟨aC,aC,aC,rfl⟩,rfl,rfl⟩
 obtain⟨_,rfl,rfl⟩:=hI;rw[oz]at e3;let k3:=k2.new (.lst (aM.map λq=>W.int (gap q)));have g3:k3.get k2.n=aB (.lst (aM.map λq=>W.int (gap q))):=dU;have ZN:ev (run F (k+1)) (.bi .max (.cons (.lc .seq (.var 2) (.many [0,1,2]) 3 [] (.cst (.bl true)) ES) .nil)) [aB (.int n),aB (.int g),aB (.ref f),aB (.ref k1.n),aC,aC] k2=.ok (.int (gZ aM)) k3:=by
  rw[ev,aN (pT (aE (x:=.ref f) rfl) e3 (by rw[bx];lia)) bG,aD];show ny [.ref k2.n] k3=_;obtain⟨x,r,rfl⟩:∃x r,aM=x::r:=by
   cases aM with|nil=>exact absurd rfl hne|cons x r=>exact⟨x,r,rfl⟩
  have:(x::r).map (λq=>W.int (gap q))=(gap x::r.map gap).map W.int:=by simp
  rw[this]at g3;have hm:aY iZ ((gap x::r.map gap).map W.int)=aB (gap x::r.map gap):=Qp _;simp only[ny,g3,hm];rw[Qw];rfl
 have w3:Gm k0 k3:=w2.new;have JU:k3.get k1.n=aB (.lst ([cC n (pQ g aM)].map .tup)):=by rw[show k3.get k1.n=k2.get k1.n from iD (fY _)];exact dU (h:=k1)
 obtain⟨Ex,k4,e4,hI⟩:=nM (nx:=aW .gQ (.tup [.int 1,.int (gZ aM)])) (tg:=bw (.one 4)) (b:=exs (run F (k+1)) IL) (n:=(gZ aM-1).toNat)
  (I:=λi ρ h1=>(∃x y,ρ=[aB (.int n),aB (.int g),aB (.ref f),aB (.ref k1.n),x,y])/\Gm k0 h1/\h1.get k1.n=aB (.lst ((cC n (pQ g aM):: (List.range i).map λi=>Cr n aM i).map .tup)))
  (λi ρ h1 hi hI=>by
    obtain⟨⟨x,y,rfl⟩,w1,g1⟩:=hI;have hlt:=bU g1;have CF:h1.get f=aB (.lst (aM.map fW)):=by rw[w1.get f hf'];exact g0
    have Qy:=FF (p:=λx=>decide (x.1<x.2.1- (1+ (i:Int)))) (kk:=λx=>x.2.1- (1+ (i:Int))) (w:=.str fP) Pv.str aM;have Qz:=FF (p:=λx=>decide (x.2.1+ (1+ (i:Int))<x.2.2)) (kk:=λx=>x.2.1+ (1+ (i:Int))) (w:=.str jZ) Pv.str aM;rw[<-Qt]at Qy;rw[<-Qu]at Qz;let a1:=h1.new (.dm (qt (1+ (i:Int)) aM));let a2:=a1.new (.dm (uO (1+ (i:Int)) aM));let a3:=a2.set h1.n (.dm (yQ (qt (1+ (i:Int)) aM) (uO (1+ (i:Int)) aM)));have ZO:a1.get f=aB (.lst (aM.map fW)):=by rw[show a1.get f=h1.get f from iD (bU CF)];exact CF
    have d1:exs (run F (k+1)) (.set 5 (.dc .seq (.var 2) (.many [0,1,2]) 3 [4] (.cmp .gt (.op .sub (.var 1) (.var 3)) (.var 0)) (.op .sub (.var 1) (.var 3)) (.cst (.str fP)))) [aB (.int n),aB (.int g),aB (.ref f),aB (.ref k1.n),aB (.int (1+ (i:Int))),y] h1=.ok (.nx [aB (.int n),aB (.int g),aB (.ref f),aB (.ref k1.n),aB (.int (1+ (i:Int))),aB (.ref h1.n)]) a1:=by refine(bX (x:=.ref h1.n) (h1:=a1) ?_);rw[ev,aE (x:=.ref f) rfl,aD];show((jM _ _ _ _ _ fuel 0 [aC,aC,aC,aB (.int (1+ (i:Int)))] h1 []).bind _)=_;rw[JT (p:=λx=>decide (x.1<x.2.1- (1+ (i:Int)))) (kk:=λx=>x.2.1- (1+ (i:Int))) (w:=.str fP) CF (by lia) Pv.str (λx=>?_) (λx=>fk (aE rfl) (aE rfl) rfl) (λx=>aG),aD,<-Qt];rw[ev,fk (r:=.ok (.int (x.2.1- (1+ (i:Int)))) h1) (aE rfl) (aE rfl) rfl,aD,aE (x:=.int x.1) rfl,aD];rfl
    have d2:ev (run F (k+1)) (.mt .update (.var 5) (.cons (.dc .seq (.var 2) (.many [0,1,2]) 3 [4] (.cmp .lt (.op .add (.var 1) (.var 3)) (.var 2)) (.op .add (.var 1) (.var 3)) (.cst (.str jZ))) .nil)) [aB (.int n),aB (.int g),aB (.ref f),aB (.ref k1.n),aB (.int (1+ (i:Int))),aB (.ref h1.n)] a1=.ok .aP a3:=by
     have ga:a1.get h1.n=aB (.dm (qt (1+ (i:Int)) aM)):=dU;have hk:kI .update a1 (.ref h1.n)=true:=by simp only[kI,ga]
     have JQ:ev (run F (k+1)) (.dc .seq (.var 2) (.many [0,1,2]) 3 [4] (.cmp .lt (.op .add (.var 1) (.var 3)) (.var 2)) (.op .add (.var 1) (.var 3)) (.cst (.str jZ))) [aB (.int n),aB (.int g),aB (.ref f),aB (.ref k1.n),aB (.int (1+ (i:Int))),aB (.ref h1.n)] a1=.ok (.ref a1.n) a2:=by rw[ev,aE (x:=.ref f) rfl,aD];show((jM _ _ _ _ _ fuel 0 [aC,aC,aC,aB (.int (1+ (i:Int)))] a1 []).bind _)=_;rw[JT (p:=λx=>decide (x.2.1+ (1+ (i:Int))<x.2.2)) (kk:=λx=>x.2.1+ (1+ (i:Int))) (w:=.str jZ) ZO (by lia) Pv.str (λx=>?_) (λx=>fk (aE rfl) (aE rfl) rfl) (λx=>aG),aD,<-Qu];rw[ev,fk (r:=.ok (.int (x.2.1+ (1+ (i:Int)))) a1) (aE rfl) (aE rfl) rfl,aD,aE (x:=.int x.2.2) rfl,aD];rfl
     rw[ev,aE (x:=.ref h1.n) rfl,aD,if_pos hk,aN JQ bG,aD];show oU h1.n a1.n a2=_;have gx:a2.get h1.n=aB (.dm (qt (1+ (i:Int)) aM)):=by rw[show a2.get h1.n=a1.get h1.n from iD (fY _)];exact ga
     have gy:a2.get a1.n=aB (.dm (uO (1+ (i:Int)) aM)):=dU;have nb:Nat.beq h1.n a1.n=false:=by rw[<-Bool.not_eq_true,Nat.beq_eq];show ¬h1.n=h1.n+1;lia
     simp only[oU,gx,gy,nb];rw[if_neg u9,if_pos (qS.mpr (by lia))];rfl
    have FH:a3.get h1.n=aB (.dm (yQ (qt (1+ (i:Int)) aM) (uO (1+ (i:Int)) aM))):=by refine pP (o0:=.dm (qt (1+ (i:Int)) aM)) ?_;rw[show a2.get h1.n=a1.get h1.n from iD (fY _)];exact dU
    have r4:=mK C (k:=k) (p:=h1.n) (n:=n) (h:=a3) (.inl FH) (Qv Qy.1 Qz.1).v hn;have wa:Gm h1 a3:=((Gm.refl.new).new).set (aZ _) (show h1.n<h1.n+1+1 by lia);have JV:a3.get k1.n=aB (.lst ((cC n (pQ g aM):: (List.range i).map λi=>Cr n aM i).map .tup)):=by rw[wa.get _ hlt];exact g1
    refine⟨.int (1+ (i:Int)),[aB (.int n),aB (.int g),aB (.ref f),aB (.ref k1.n),aB (.int (1+ (i:Int))),y],[aB (.int n),aB (.int g),aB (.ref f),aB (.ref k1.n),aB (.int (1+ (i:Int))),aB (.ref h1.n)],a3.set k1.n (.lst ((cC n (pQ g aM):: (List.range (i+1)).map λi=>Cr n aM i).map .tup)),?_,rfl,?_,⟨_,_,rfl⟩,?_,pP JV⟩;rw[CG m1 (by lia),if_pos hi];unfold IL;refine(bq d1).trans ?_;refine(bq (ρ':=[aB (.int n),aB (.int g),aB (.ref f),aB (.ref k1.n),aB (.int (1+ (i:Int))),aB (.ref h1.n)]) (h':=a3) (by rw[exs,d2,aD])).trans ?_;refine(bq (ρ':=[aB (.int n),aB (.int g),aB (.ref f),aB (.ref k1.n),aB (.int (1+ (i:Int))),aB (.ref h1.n)]) (h':=a3.set k1.n (.lst ((cC n (pQ g aM):: (List.range (i+1)).map λi=>Cr n aM i).map .tup))) ?_).trans (by rw[exs]);have hk:kI .append a3 (.ref k1.n)=true:=by simp only[kI,JV]
    rw[exs,ev,aE (x:=.ref k1.n) rfl,aD,if_pos hk,aN (mJ (aE rfl) (aE rfl) r4) bG,aD];show((jW .append (.ref k1.n) [.tup (cC n (yQ (qt (1+ (i:Int)) aM) (uO (1+ (i:Int)) aM)))] a3).bind _)=_;simp only[jW,JV];rw[if_pos (xj (by simp;lia)),aD,xV,ig,<-qR,ig];rw[show(1:Int)+i=(i:Int)+1 from zm _ _];rfl;exact(w1.trans wa).set (show h.n<=h.n+1 from p9 _) (di hlt wa.le))
  (λρ h1 hI=>by rw[CG m1 (by lia),if_neg (fZ _)])
  (gZ aM-1).toNat 0 fuel [aB (.int n),aB (.int g),aB (.ref f),aB (.ref k1.n),aC,aC] k3 (jo _) (show _<1000000 by lia) ⟨⟨_,_,rfl⟩,w3,JU⟩
 obtain⟨⟨x4,x5,rfl⟩,w4,g4⟩:=hI;rw[dW C.Zs rfl];have eb:exs (run F (k+1)) wM.body [aB (.int n),aB (.int g),aB (.ref f),aC,aC,aC] ⟨h.n,h.n,h.os⟩=.ok (.rt (.ref k1.n)) k4:=by refine(bq (bX (x:=.ref k1.n) (h1:=k2) (fJ (aN (mJ (aE rfl) e1 r1) bG) rfl))).trans ?_;refine(bq ((ez (aN aG (aN ZN bG))).trans e4)).trans ?_;exact jB (dZ (aE rfl))
 obtain⟨h2,e5,w5,G⟩:=JR (h:=h) (h':=k4) (w:=.ref k1.n) (Fw (show h.n<=h.n+1 by lia)) w4;refine⟨k1.n,h2,?_,by rw[G];exact g4,show h.n<=h.n+1 by lia,w5⟩;rw[<-e5];exact nR (fin h) eb
end
theorem ZP{w:W}(h:eY 24 w):Pv w:=λn=>Qk 24 _ h
theorem CH{B:Bd}(b:B.Ok):Pv B.w:=ZP (Y0 b)
structure LL{X:Type}(enc:X->W)(h:VH)(rs:List Nat)(ls:List (List X)):Prop where
 len:rs.length=ls.length
 at_:∀(i r:Nat)(l:List X),rs[i]?=aB r->ls[i]?=aB l->h.get r=aB (.lst (l.map enc))
theorem LL.gm{X:Type}{enc:X->W}{h h':VH}{rs:List Nat}{ls:List (List X)}(L:LL enc h rs ls)(g:Gm h h'):LL enc h' rs ls:=⟨L.len,λi r l h1 h2=>by
 have:=L.at_ i r l h1 h2;rw[g.get r (bU this)];exact this⟩
theorem LL.nil{X:Type}{enc:X->W}{h:VH}:LL enc h [] ([]:List (List X)):=⟨rfl,λi r l h1 _=>by cases h1⟩
theorem LL.snoc{X:Type}{enc:X->W}{h:VH}{rs:List Nat}{ls:List (List X)}{r:Nat}{l:List X}(L:LL enc h rs ls)(g:h.get r=aB (.lst (l.map enc))):LL enc h (rs++[r]) (ls++[l]):=⟨by rw[fU,fU,L.len];rfl,λi q m h1 h2=>by
 by_cases hi:i<rs.length;rw[uW hi]at h1;rw[uW (by rw[<-L.len];exact hi)]at h2;exact L.at_ i q m h1 h2;rw[oq (by lia)]at h1;rw[oq (by rw[<-L.len];lia),<-L.len]at h2;cases z:i-rs.length with
 |zero=>
  rw[z]at h1 h2;cases h1;cases h2;exact g
 |succ n=>rw[z]at h1;cases h1⟩
theorem yS{h:VH}{a i:Nat}{rs:List Nat}(g:h.get a=aB (.lst (rs.map .ref))):aW .seq (.ref a) i h=aB ((rs[i]?).map .ref):=by rw[uR g,dS]
noncomputable def uS:Nat->Nat->List (List Int)->Bool
 |0,nr,lanes=>(lanes.all λl=>!l.isEmpty)&&decide (nr<=1000)
 |n+1,nr,lanes=>!(lanes.map fQ).flatten.isEmpty&&decide (1<=gZ (lanes.map fQ).flatten)&&decide (gZ (lanes.map fQ).flatten<=400)&&decide ((lanes.map fQ).flatten.length<=400)
  && (lanes.all λl=>decide (l.length<1000))&&decide (nr<=1000)&&uS n (nr+1+ (gZ (lanes.map fQ).flatten-1).toNat) (List.zipWith oh lanes (lanes.map fQ))
theorem ZQ:(lP.all λx=>uS (aU x.1) 0 (mG x.1 x.2))=true:=by decide +kernel
theorem Shape.uS{S P:Nat}(h:Shape S P):uS (aU S) 0 (mG S P)=true:=fX.mp ZQ _ (Cu h.s1 h.p1 h.p4 h.sp)
noncomputable def jm(s:Int):Nat->Int->Int->Int|0,_,g=>g|n+1,r,g=>if r<s then jm s n (r*2) (g+1)else g
theorem QA:((List.range 17).all λS=>decide (jm (S:Int) 5 1 0=(aU S:Int))&&decide (S<=2 ^ 5))=true:=by decide +kernel
theorem QB{cl:Call}{s ff:Int}{h:VH}:∀(n fu:Nat) (r g:Int),s<=r*2 ^ n->n<fu->∃r',dz (ev cl uz) (exs cl EO) fu [aB (.int s),aB (.int ff),aB (.int g),aB (.int r)] h=.ok (.nx [aB (.int s),aB (.int ff),aB (.int (jm s n r g)),aB (.int r')]) h
 |0,fu+1,r,g,hs,_=>by
  refine⟨r,?_⟩;have ec:ev cl uz [aB (.int s),aB (.int ff),aB (.int g),aB (.int r)] h=.ok (.bl false) h:=by unfold uz;rw[ev,aE (x:=.int r) rfl,aD,aE (x:=.int s) rfl,aD];show Res.ok (W.bl (decide (r<s))) h=_;rw[jn (by simp at hs;lia)]
  simp only[dz,ec,aD,jm]
 |n+1,fu+1,r,g,hs,hf=>by
  by_cases q:r<s;have ec:ev cl uz [aB (.int s),aB (.int ff),aB (.int g),aB (.int r)] h=.ok (.bl true) h:=by unfold uz;rw[ev,aE (x:=.int r) rfl,aD,aE (x:=.int s) rfl,aD];show Res.ok (W.bl (decide (r<s))) h=_;rw[kY q]
  have eb:exs cl EO [aB (.int s),aB (.int ff),aB (.int g),aB (.int r)] h=.ok (.nx [aB (.int s),aB (.int ff),aB (.int (g+1)),aB (.int (r*2))]) h:=by unfold EO;refine(bq (ρ':=[aB (.int s),aB (.int ff),aB (.int (g+1)),aB (.int r)]) (h':=h) ?_).trans ?_;rw[exs];rfl;refine(bq (ρ':=[aB (.int s),aB (.int ff),aB (.int (g+1)),aB (.int (r*2))]) (h':=h) ?_).trans (by rw[exs]);rw[exs];show(((Res.of ((if kE r||kE 2 then aB (r*2)else aC).map W.int) h)).bind _)=_;rw[if_pos (by rw[show kE 2=true from by decide,Bool.or_true])];rfl
  obtain⟨r',e⟩:=QB (cl:=cl) (s:=s) (ff:=ff) (h:=h) n fu (r*2) (g+1) (by rw[Int.mul_assoc,show(2:Int)*2 ^ n=2 ^ (n+1) by rw[DA,yb]];exact hs) (by lia);refine⟨r',?_⟩;simp only[dz,ec,aD,eb,e,jm,if_pos q];refine⟨r,?_⟩;have ec:ev cl uz [aB (.int s),aB (.int ff),aB (.int g),aB (.int r)] h=.ok (.bl false) h:=by unfold uz;rw[ev,aE (x:=.int r) rfl,aD,aE (x:=.int s) rfl,aD];show Res.ok (W.bl (decide (r<s))) h=_;rw[jn q]
  simp only[dz,ec,aD,jm,if_neg q]
theorem ZR{F:Nat->Option Fn}(A:ia F)(C:oj F){k S:Nat}{h:VH}(h1:1<=S)(h2:S<=16):run F (k+3) 32 [.int S,.int 1] h=.ok (.int (aU S:Int)) h:=by
 rw[dW C.f32 rfl];have e1:=Fx A (k:=k) (h:=⟨h.n,h.n,h.os⟩) (w:=.int S) (lo:=1) (hi:=1000000000) (by simp[Kn,ck]);have e2:=Fx A (k:=k) (h:=⟨h.n,h.n,h.os⟩) (w:=.int 1) (lo:=1) (hi:=4) (by simp[Kn,ck]);have w1:within (.int S) 1 1000000000=true:=by simp[within];lia
 have w2:within (.int 1) 1 4=true:=by decide
 rw[w1]at e1;rw[w2]at e2;have hq:=fX.mp QA S (lV.mpr (by lia));rw[bJ,fS,fS]at hq;obtain⟨r',e3⟩:=QB (cl:=run F (k+2)) (s:=S) (ff:=1) (h:=⟨h.n,h.n,h.os⟩) 5 fuel 1 0 (by lia) (by decide);rw[hq.1]at e3;simp[wK,exs,ev,e1,e2,e3,dF]
theorem QC{nx:Nat->VH->Option (Option W)}{e:FE}{h:VH}{ws:List W}{x:W}{tl:En}{f:W->W}(hx:∀i,nx i h=aB ws[i]?)(he:∀w∈ws,e (aB x::aB w::tl) h=.ok (f w) h) :
 ∀(fu i:Nat)(b:Option W)(acc:List W),i<=ws.length->ws.length<fu+i->∃b',jx nx (bw (.one 1)) (λ_ h=>.ok (.bl true) h) e fu i (aB x::b::tl) h acc=.ok (aB x::b'::tl,((ws.drop i).map f).reverse++acc) h
 |0,i,b,acc,hi,hl=>by lia
 |fu+1,i,b,acc,hi,hl=>by
  cases q:ws[i]? with
  |none=>
   rw[zb (ou.mp q)];exact⟨b,by simp only[jx,hx,q];rfl⟩
  |some w=>
   obtain⟨hi,ee⟩:=i7.mp q;obtain⟨b',ih⟩:=QC hx he fu (i+1) (aB w) (f w::acc) hi (by lia);refine⟨b',?_⟩;simp only[jx,hx,q,bw,uY,qP,aD,he w (mR q),ih];rw[yZ hi,ee];simp
theorem QD{nx:Nat->VH->Option (Option W)}{k8:En->VH->List W->Res (En×List W)}{h:VH}{ws:List W}{tl:En}{g:W->List W}(hx:∀i,nx i h=aB ws[i]?)
 (hi:∀x∈ws,∀(b:Option W)(acc:List W),∃b',k8 (aB x::b::tl) h acc=.ok (aB x::b'::tl,(g x).reverse++acc) h) :
 ∀(fu i:Nat)(a b:Option W)(acc:List W),i<=ws.length->ws.length<fu+i->lg nx (bw (.one 0)) (λ_ h=>.ok (.bl true) h) k8 fu i (a::b::tl) h acc=.ok (acc.reverse++(ws.drop i).flatMap g) h
 |0,i,a,b,acc,hi,hl=>by lia
 |fu+1,i,a,b,acc,hi',hl=>by
  cases q:ws[i]? with
  |none=>
   rw[zb (ou.mp q)];simp only[lg,hx,q];simp
  |some w=>
   obtain⟨hil,ee⟩:=i7.mp q;obtain⟨b',e1⟩:=hi w (mR q) b acc;simp only[lg,hx,q,bw,qP,aD,e1];rw[QD hx hi fu (i+1) (aB w) b' ((g w).reverse++acc) hil (by lia),yZ hil,ee];simp
theorem JW{nx:Nat->VH->Option (Option W)}{c e:FE}{h:VH}{ws:List W}{tl:En}{p:W->Bool}{f:W->W}(hx:∀i,nx i h=aB ws[i]?)(hc:∀w∈ws,c (aB w::tl) h=.ok (.bl (p w)) h)(he:∀w∈ws,e (aB w::tl) h=.ok (f w) h) :
 ∀(fu i:Nat)(a:Option W)(acc:List W),i<=ws.length->ws.length<fu+i->gF nx (bw (.one 0)) c e fu i (a::tl) h acc=.ok (acc.reverse++((ws.drop i).filter p).map f) h
 |0,i,a,acc,hi,hl=>by lia
 |fu+1,i,a,acc,hi,hl=>by
  cases q:ws[i]? with
  |none=>
   rw[zb (ou.mp q)];simp only[gF,hx,q];simp
  |some w=>
   obtain⟨hi,ee⟩:=i7.mp q;have hm:=mR q;simp only[gF,hx,q,bw,qP,hc w hm,aD];rw[yZ hi,ee];cases z:p w with
   |true=>
    simp only[he w hm,aD];rw[JW hx hc he fu (i+1) (aB w) (f w::acc) hi (by lia)];simp[z]
   |false=>
    rw[JW hx hc he fu (i+1) (aB w) acc hi (by lia)];simp[z]
theorem FI{n:Nat}(h:n<=100000):kE (n:Int)=true:=by unfold kE;simp;lia
theorem lT{h:VH}{i:Int}{j:Int}(s:kE i=true\/kE j):iA .mul (.int i) (.int j) h=.ok (.int (i*j)) h:=by show Res.of ((if kE i||kE j then aB (i*j)else aC).map W.int) h=_;rw[if_pos (by rcases s with s|s<;>rw[s]<;>simp)];rfl
theorem LL.take_snoc{X:Type}{enc:X->W}{h:VH}{rs:List Nat}{ls:List (List X)}{r i:Nat}{l:List X}(L:LL enc h rs (ls.take i))(hl:ls[i]?=aB l)(g:h.get r=aB (.lst (l.map enc))):LL enc h (rs++[r]) (ls.take (i+1)):=by rw[pZ,hl];exact L.snoc g
section
variable{F:Nat->Option Fn}(C:oj F)
include C
omit C in
theorem ZT{cl:Call}{S P:Nat}{h:VH}{r2 r3 r4 r5 r6 r7 r8:Option W}(hS:S<=16)(hP:P<=4) :
 ∃a h' rs,ev cl (.lc .bR (.cons (.var 1) .nil) (.one 0) 1 [0] (.cst (.bl true)) IM) [aB (.int S),aB (.int P),r2,r3,r4,r5,r6,r7,r8] h=.ok (.ref a) h'/\h.n<=a/\Gm h h'/\h'.get a=aB (.lst (rs.map .ref))/\LL W.int h' rs (mG S P):=by
 have hlen:(mG S P).length=P:=by unfold mG;rw[bx,nT]
 obtain⟨ys,ρ',h',e1,hI⟩:=lR (nx:=aW .bR (.tup [.int P])) (tg:=bw (.one 0)) (e:=ev cl IM) (n:=P)
  (I:=λi ρ h1 acc=>(∃x,ρ=[x,aB (.int S)])/\Gm h h1/\∃rs,acc=rs.map W.ref/\LL W.int h1 rs ((mG S P).take i))
  (λi ρ h1 acc hi hI=>by
    obtain⟨⟨x,rfl⟩,w1,rs,rfl,L⟩:=hI;obtain⟨ys,pS,h2,e2,lK⟩:=lR (nx:=aW .bR (.tup [.int S])) (tg:=bw (.one 0)) (e:=ev cl Pk) (n:=S)
     (I:=λj ρ h2 acc=>(∃x,ρ=[x,aB (.int (i:Int)),aB (.int S)])/\h2=h1/\acc=((List.range j).map λ(s:Nat)=>(2* ((i:Int)*S+s)+1)).map W.int)
     (λj ρ h2 acc hj hI=>by
       obtain⟨⟨x,rfl⟩,rfl,rfl⟩:=hI;refine⟨.int (j:Int),[aB (.int (j:Int)),aB (.int (i:Int)),aB (.int S)],.int (2* ((i:Int)*S+j)+1),h2,?_,rfl,?_,⟨_,rfl⟩,rfl,?_⟩;rw[i9 (by lia),if_pos hj];exact fk (fk aG (fk (fk (aE rfl) (aE rfl) (lT (.inl (FI (by lia))))) (aE rfl) rfl) (lT (.inl (by decide)))) aG rfl;rw[xV,ig,ig];rfl)
     (λρ h2 acc hI=>by rw[i9 (by lia),if_neg (fZ _)])
     (ρ:=inner 1 [0,1] [aB (.int (i:Int)),aB (.int S)]) (h:=h1) (by lia) ⟨⟨aC,rfl⟩,rfl,rfl⟩
    obtain⟨_,rfl,rfl⟩:=lK;refine⟨.int (i:Int),[aB (.int (i:Int)),aB (.int S)],.ref h2.n,_,?_,rfl,pT (aN (aE rfl) bG) e2 (by simp;lia),⟨_,rfl⟩,w1.new,rs++[h2.n],by rw[ig];rfl,?_⟩;rw[i9 (by lia),if_pos hi];refine(L.gm Gm.refl.new).take_snoc (l:=(List.range S).map λ(s:Nat)=>2* ((i:Int)*S+s)+1) ?_ dU;unfold mG;rw[dS,xQ hi];rfl)
  (λρ h1 acc hI=>by rw[i9 (by lia),if_neg (fZ _)])
  (ρ:=inner 1 [0] [aB (.int S),aB (.int P),r2,r3,r4,r5,r6,r7,r8]) (h:=h) (by lia) ⟨⟨aC,rfl⟩,.refl,[],rfl,LL.nil⟩
 obtain⟨_,w1,rs,rfl,L⟩:=hI;rw[List.take_of_length_le (Nat.le_of_eq hlen)]at L;have hl2:=L.len;exact⟨h'.n,_,rs,pT (aN (aE rfl) bG) e1 (by rw[bx];lia),w1.le,w1.new,dU,L.gm Gm.refl.new⟩
theorem ZU{k a:Nat}{h:VH}{rs:List Nat}{lanes:List (List Int)}{ρ:En}(ga:h.get a=aB (.lst (rs.map .ref)))(L:LL W.int h rs lanes)(hl:lanes.length<=4)(hs:∀l∈lanes,l.length<1000)(nK:ρ[4]?=aB (aB (.ref a))) :
 ∃b h' fs,ev (run F (k+1)) (.lc .seq (.var 4) (.one 0) 1 [] (.cst (.bl true)) IP) ρ h=.ok (.ref b) h'/\h.n<=b/\Gm h h'/\h'.get b=aB (.lst (fs.map .ref))/\LL fW h' fs (lanes.map fQ):=by
 have hlen:=L.len;obtain⟨ys,ρ',h',e1,hI⟩:=lR (nx:=aW .seq (.ref a)) (tg:=bw (.one 0)) (e:=ev (run F (k+1)) IP) (n:=lanes.length)
  (I:=λi ρ h1 acc=>(∃x,ρ=[x])/\Gm h h1/\∃fs,acc=fs.map W.ref/\LL fW h1 fs ((lanes.map fQ).take i))
  (λi ρ h1 acc hi hI=>by
    obtain⟨⟨x,rfl⟩,w1,fs,rfl,Lf⟩:=hI;have hr:=dh (show i<rs.length by lia);have hx:=dh hi;have gr:=L.at_ i _ _ hr hx;have JX:h1.get rs[i]=aB (.lst (lanes[i].map .int)):=by rw[w1.get _ (bU gr)];exact gr
    obtain⟨j,h2,e2,g2,_,w2⟩:=ZK C (k:=k) JX (hs _ (kZ hi));refine⟨.ref rs[i],[aB (.ref rs[i])],.ref j,h2,?_,rfl,sZ (aE rfl) e2,⟨_,rfl⟩,w1.trans w2,fs++[j],by rw[ig];rfl,?_⟩;rw[yS (by rw[w1.get _ (bU ga)];exact ga),hr];rfl;exact(Lf.gm w2).take_snoc (by rw[dS,hx];rfl) g2)
  (λρ h1 acc hI=>by rw[yS (by rw[hI.2.1.get _ (bU ga)];exact ga),iL (by lia)];rfl)
  (ρ:=inner 1 [] ρ) (h:=h) (by lia) ⟨⟨aC,rfl⟩,.refl,[],rfl,LL.nil⟩
 obtain⟨_,w1,fs,rfl,Lf⟩:=hI;rw[show(lanes.map fQ).take lanes.length=lanes.map fQ by rw[<-bx (f:=fQ),oz]]at Lf;have hl2:=Lf.len;rw[bx]at hl2;exact⟨h'.n,_,fs,pT (aE nK) e1 (by rw[bx];lia),w1.le,w1.new,dU,Lf.gm Gm.refl.new⟩
omit C in
theorem ZV{cl:Call}{b:Nat}{h:VH}{fs:List Nat}{aM:List (List (Int×Int×Int))}{ρ:En}(gb:h.get b=aB (.lst (fs.map .ref)))(L:LL fW h fs aM)(hl:aM.length<=4)(hs:aM.flatten.length<=400)(nK:ρ[7]?=aB (aB (.ref b))) :
 ev cl (.yt .seq (.var 7) (.one 0) 2 [] (.cst (.bl true)) .seq wQ (.one 1) (.cst (.bl true)) yI) ρ h=.ok (.ref h.n) (h.new (.lst (aM.flatten.map fW))):=by
 have hlen:=L.len;have hg:∀i,(hi:i<fs.length)->aR h (.ref fs[i])=aB ((aM[i]'(by lia)).map fW):=λi hi=>om (L.at_ i _ _ (dh hi) (dh (by lia)));have hin:∀x∈fs.map W.ref,∀(bb:Option W)(acc:List W),∃b',(λρ h acc=>(ev cl wQ ρ h).bind λy h=>jx (aW .seq y) (bw (.one 1)) (λ_ h=>.ok (.bl true) h) (ev cl yI) fuel 0 ρ h acc) (aB x::bb :: []) h acc=.ok (aB x::b' :: [],((aR h x).getD []).reverse++acc) h:=λx hx bb acc=>by
  obtain⟨r,hr,rfl⟩:=iH.mp hx;obtain⟨i,hi,rfl⟩:=List.getElem_of_mem hr;have e:=hg i hi;have hlt:((aM[i]'(by lia)).map fW).length<1000000:=by have:(aM[i]'(by lia)).length<=aM.flatten.length:=(List.sublist_flatten_of_mem (kZ (by lia))).length_le;rw[bx];lia
  obtain⟨b',e2⟩:=QC (nx:=aW .seq (.ref fs[i])) (e:=ev cl yI) (h:=h) (ws:=(aM[i]'(by lia)).map fW) (x:=.ref fs[i]) (tl:=[]) (f:=id) (λj=>by simp only[aW,e,ly]) (λw hw=>aE rfl) fuel 0 bb acc (j8 _) hlt;refine⟨b',?_⟩;show((ev cl wQ [aB (.ref fs[i]),bb] h).bind _)=_;rw[show ev cl wQ [aB (.ref fs[i]),bb] h=.ok (.ref fs[i]) h from aE rfl,aD,e2,e];simp
 have eo:=QD (k8:=λρ h acc=>(ev cl wQ ρ h).bind λy h=>jx (aW .seq y) (bw (.one 1)) (λ_ h=>.ok (.bl true) h) (ev cl yI) fuel 0 ρ h acc) (nx:=aW .seq (.ref b)) (tl:=[]) (g:=λx=>(aR h x).getD []) (ws:=fs.map W.ref) (h:=h) (λi=>uR gb) hin fuel 0 aC aC [] (j8 _) (by rw[bx];show _<1000000;lia);have CI:∀(fs:List Nat)(aM:List (List (Int×Int×Int))),LL fW h fs aM->(fs.map W.ref).flatMap (λx=>(aR h x).getD [])=aM.flatten.map fW:=by
  intro fs;induction fs with
  |nil=>
   intro aM L;have:=L.len;cases aM with|nil=>rfl|cons x r=>simp at this
  |cons x r ih=>
   intro aM L;cases aM with
   |nil=>have:=L.len;simp at this
   |cons y s=>
    have:=L.at_ 0 x y rfl rfl;rw[fm,List.flatMap_cons,tL,ig,om this,ih s ⟨by have:=L.len;simpa using this,λi r l h1 h2=>L.at_ (i+1) r l (by simpa using h1) (by simpa using h2)⟩];rfl
 rw[List.drop_zero,List.reverse_nil,xU,CI fs aM L]at eo;rw[ev,aE nK,aD,xh];show((lg (aW .seq (.ref b)) (bw (.one 0)) (λ_ h=>.ok (.bl true) h) (λρ h acc=>(ev cl wQ ρ h).bind λy h=>jx (aW .seq y) (bw (.one 1)) (λ_ h=>.ok (.bl true) h) (ev cl yI) fuel 0 ρ h acc) fuel 0 [aC,aC] h []).bind _)=_;rw[eo,aD,if_pos (nJ (by rw[bx];lia))]
theorem ZW{k a b:Nat}{h:VH}{rs fs:List Nat}{lanes:List (List Int)}{aM:List (List (Int×Int×Int))}{ρ:En}(ga:h.get a=aB (.lst (rs.map .ref)))(gb:h.get b=aB (.lst (fs.map .ref)))(L:LL W.int h rs lanes)(Lf:LL fW h fs aM)(hl:lanes.length<=4)(hlf:aM.length=lanes.length)(hs:∀l∈lanes,l.length<1000)(hf:∀i (h1:i<lanes.length),2* (aM[i]'(by lia)).length<=lanes[i].length)(nK:ρ[4]?=aB (aB (.ref a)))(JY:ρ[7]?=aB (aB (.ref b))) :
 ∃c h' ss,ev (run F (k+1)) (.lc .zip (.cons (.var 4) (.cons (.var 7) .nil)) (.many [0,1]) 2 [] (.cst (.bl true)) IQ) ρ h=.ok (.ref c) h'/\h.n<=c/\Gm h h'/\h'.get c=aB (.lst (ss.map .ref))/\LL W.int h' ss (List.zipWith oh lanes aM):=by
 have hlen:=L.len;have hlen2:=Lf.len;have hz:(List.zipWith oh lanes aM).length=lanes.length:=by rw[List.length_zipWith];lia
 have nx:∀(i:Nat)(h1:VH),Gm h h1->aW .zip (.tup [.ref a,.ref b]) i h1=aB (match rs[i]?,fs[i]? with
  |some x,aB y=>aB (.tup [.ref x,.ref y])
  |_,_=>aC):=λi h1 w1=>by
  have g1:h1.get a=aB (.lst (rs.map .ref)):=by rw[w1.get _ (bU ga)];exact ga
  have g2:h1.get b=aB (.lst (fs.map .ref)):=by rw[w1.get _ (bU gb)];exact gb
  simp only[aW,aR,g1,g2,dS];cases rs[i]?<;>cases fs[i]?<;>rfl
 obtain⟨ys,ρ',h',e1,hI⟩:=lR (nx:=aW .zip (.tup [.ref a,.ref b])) (tg:=bw (.many [0,1])) (e:=ev (run F (k+1)) IQ) (n:=lanes.length)
  (I:=λi ρ h1 acc=>(∃x y,ρ=[x,y])/\Gm h h1/\∃ss,acc=ss.map W.ref/\LL W.int h1 ss ((List.zipWith oh lanes aM).take i))
  (λi ρ h1 acc hi hI=>by
    obtain⟨⟨x,y,rfl⟩,w1,ss,rfl,Ls⟩:=hI;have hr:=dh (show i<rs.length by lia);have hq:=dh (show i<fs.length by lia);have hx:=dh hi;have hy:=dh (show i<aM.length by lia);have gr:=L.at_ i _ _ hr hx;have gq:=Lf.at_ i _ _ hq hy;have JX:h1.get rs[i]=aB (.lst (lanes[i].map .int)):=by rw[w1.get _ (bU gr)];exact gr
    have ZX:h1.get fs[i]=aB (.lst (aM[i].map fW)):=by rw[w1.get _ (bU gq)];exact gq
    have hs1:=hs _ (kZ hi);have hf1:=hf i hi;obtain⟨j,h2,e2,g2,_,w2⟩:=ZL C (k:=k) JX ZX hs1 (by lia) hf1;refine⟨.tup [.ref rs[i],.ref fs[i]],[aB (.ref rs[i]),aB (.ref fs[i])],.ref j,h2,?_,rfl,mJ (aE rfl) (aE rfl) e2,⟨_,_,rfl⟩,w1.trans w2,ss++[j],by rw[ig];rfl,?_⟩;rw[nx i h1 w1,hr,hq];refine(Ls.gm w2).take_snoc ?_ g2;rw[List.getElem?_zipWith,hx,hy])
  (λρ h1 acc hI=>by rw[nx _ h1 hI.2.1,iL (by lia)])
  (ρ:=inner 2 [] ρ) (h:=h) (by lia) ⟨⟨aC,aC,rfl⟩,.refl,[],rfl,LL.nil⟩
 obtain⟨_,w1,ss,rfl,Ls⟩:=hI;rw[show(List.zipWith oh lanes aM).take lanes.length=List.zipWith oh lanes aM by rw[<-hz,oz]]at Ls;have hl2:=Ls.len;exact⟨h'.n,_,ss,pT (aN (aE nK) (aN (aE JY) bG)) e1 (by rw[bx];lia),w1.le,w1.new,dU,Ls.gm Gm.refl.new⟩
end
structure xC(w G:Nat)(k0:VH)(S P:Nat)(i:Nat)(ρ:En)(h:VH):Prop where
 ex:∃(a r:Nat) (rs:List Nat) (lanes:List (List Int)) (rows:List (List W)) (x6 x7:Option W),
  ρ=[aB (.int S),aB (.int P),aB (.int G),aB (.int w),aB (.ref a),aB (.ref r),x6,x7,aC]/\Gm k0 h/\h.get a=aB (.lst (rs.map .ref))/\LL W.int h rs lanes/\
  h.get r=aB (.lst (rows.map .tup))/\lanes.length=P/\uS (G-i) rows.length lanes=true/\jC w (G-i) i lanes rows=jC w G 0 (mG S P) []
theorem CJ{x:W}{n:Nat}{h:VH}(hn:n<=1000):iA .mul (.tup [x]) (.int n) h=.ok (.tup (bI n x)) h:=by
 have hf:(fits (n:Int)&&Nat.ble ([x].length* ((n:Nat):Int).toNat) big)=true:=by rw[bJ];refine⟨?_,nJ ?_⟩;unfold fits;simp;lia;simp;lia
 show Res.of ((if(fits (n:Int)&&Nat.ble ([x].length* ((n:Nat):Int).toNat) big)=true then aB (bI ((n:Nat):Int).toNat [x]).flatten else aC).map W.tup) h=_;rw[if_pos hf,vg,List.flatten_replicate_singleton];rfl
theorem QE{w:Nat}{g:Int}{aM:List (Int×Int×Int)}:(Cs w g aM).length=1+ (gZ aM-1).toNat:=by unfold Cs;rw[cG,bx,nT];lia
section
variable{F:Nat->Option Fn}(A:ia F)(C:oj F)
include C
theorem ZY{k w G S P:Nat}{k0:VH}(hw:w<1000)(hP:P<=4){i:Nat}{ρ:En}{h:VH}(hi:i<G)(I:xC w G k0 S P i ρ h) :
 ∃pS h2,exs (run F (k+2)) B5 (ρ.set 6 (aB (.int (i:Int)))) h=.ok (.nx pS) h2/\xC w G k0 S P (i+1) pS h2:=by
 obtain⟨a,r,rs,lanes,rows,x6,x7,rfl,w0,ga,L,gr,hl,ok,hp⟩:=I;rw[show G-i=(G- (i+1))+1 by lia]at ok hp;simp only[uS,bJ,fS,fX,vc,List.isEmpty_eq_false_iff]at ok;obtain⟨⟨⟨⟨⟨⟨o1,o2⟩,o3⟩,o4⟩,o5⟩,o6⟩,o7⟩:=ok;rw[jC]at hp;show ∃pS h2,exs (run F (k+2)) B5 [aB (.int S),aB (.int P),aB (.int G),aB (.int w),aB (.ref a),aB (.ref r),aB (.int (i:Int)),x7,aC] h=_/\_;obtain⟨b,h1,fs,e1,hb,w1,gb,Lf⟩:=ZU C (k:=k+1) (ρ:=[aB (.int S),aB (.int P),aB (.int G),aB (.int w),aB (.ref a),aB (.ref r),aB (.int (i:Int)),x7,aC]) ga L (by lia) o5 rfl;have e2:=ZV (cl:=run F (k+2)) (ρ:=[aB (.int S),aB (.int P),aB (.int G),aB (.int w),aB (.ref a),aB (.ref r),aB (.int (i:Int)),aB (.ref b),aC]) gb Lf (by rw[bx];lia) o4 rfl;obtain⟨d,h3,e3,g3,hd,w3⟩:=ZM C (k:=k) (g:=(i:Int)) (h:=h1.new (.lst ((lanes.map fQ).flatten.map fW))) (f:=h1.n) dU o4 o1 hw o2 o3;have QF:Gm h h3:=w1.new.trans w3;have FJ:h3.get r=aB (.lst (rows.map .tup)):=by rw[QF.get _ (bU gr)];exact gr
 let h4:=h3.new (.lst ((Cs w i (lanes.map fQ).flatten++rows).map .tup));have JZ:Gm h h4:=QF.new;have ZZ:h4.get a=aB (.lst (rs.map .ref)):=by rw[JZ.get _ (bU ga)];exact ga
 have QG:Gm h1 h4:=(Gm.refl.new.trans w3).new;have Z0:h4.get b=aB (.lst (fs.map .ref)):=by rw[QG.get _ (bU gb)];exact gb
 obtain⟨c,h5,ss,e5,hc,w5,gc,Ls⟩:=ZW C (k:=k+1) (ρ:=[aB (.int S),aB (.int P),aB (.int G),aB (.int w),aB (.ref a),aB (.ref h3.n),aB (.int (i:Int)),aB (.ref b),aC]) ZZ Z0 (L.gm JZ) (Lf.gm QG) (by lia) (by rw[bx]) o5 (λj hj=>by rw[List.getElem_map,FD];lia) rfl rfl;refine⟨[aB (.int S),aB (.int P),aB (.int G),aB (.int w),aB (.ref c),aB (.ref h3.n),aB (.int (i:Int)),aB (.ref b),aC],h5,?_,⟨c,h3.n,ss,_,_,_,_,rfl,w0.trans (JZ.trans w5),gc,Ls,?_,?_,?_,hp⟩⟩;unfold B5;refine(bq (bX e1)).trans ?_;refine(bq (ρ':=[aB (.int S),aB (.int P),aB (.int G),aB (.int w),aB (.ref a),aB (.ref h3.n),aB (.int (i:Int)),aB (.ref b),aC]) (h':=h4) ?_).trans ?_;refine bX (x:=.ref h3.n) (h1:=h4) (fk (nL (aE rfl) (aE rfl) e2 e3) (aE rfl) ?_);simp only[iA,g3,FJ,AW];rw[if_pos (nJ (by rw[bx,bx,QE];lia)),<-ig];exact(bq (bX e5)).trans (by rw[exs];rfl);rw[w5.get _ (show h3.n<h3.n+1 from fY _)];exact dU;rw[List.length_zipWith,bx];lia;rw[fU,QE,show 1+ (gZ (lanes.map fQ).flatten-1).toNat+rows.length=rows.length+1+ (gZ (lanes.map fQ).flatten-1).toNat by lia];exact o7
include A
theorem Z1{k S P:Nat}{h:VH}(sh:Shape S P):run F (k+5) 77 [.int S,.int P] h=.ok (aT S P).w h:=by
 have gV:=sh.gV;have Z2:=sh.wd;have Z3:=ZR A C (k:=k+1) (h:=⟨h.n,h.n,h.os⟩) sh.s1 gV;obtain⟨a,k1,rs,e4,ha,w1,ga,L⟩:=ZT (cl:=run F (k+4)) (S:=S) (P:=P) (h:=⟨h.n,h.n,h.os⟩) (r2:=aB (.int (aU S:Int))) (r3:=aB (.int (bz S P:Int))) (r4:=aC) (r5:=aC) (r6:=aC) (r7:=aC) (r8:=aC) gV sh.p4;let k2:=k1.new (.lst []);obtain⟨ρ3,k3,e5,I⟩:=nM (nx:=aW .bR (.tup [.int (aU S)])) (tg:=bw (.one 6)) (b:=exs (run F (k+4)) B5) (n:=aU S)
  (I:=xC (bz S P) (aU S) ⟨h.n,h.n,h.os⟩ S P)
  (λi ρ h1 hi hI=>by
    obtain⟨pS,h2,e,lK⟩:=ZY C (k:=k+2) (by lia) sh.p4 hi hI;refine⟨.int (i:Int),_,pS,h2,?_,rfl,e,lK⟩;rw[i9 (by have:=sW (S:=S);lia),if_pos hi])
  (λρ h1 hI=>by rw[i9 (by have:=sW (S:=S);lia),if_neg (fZ _)])
  (aU S) 0 fuel [aB (.int S),aB (.int P),aB (.int (aU S:Int)),aB (.int (bz S P:Int)),aB (.ref a),aB (.ref k1.n),aC,aC,aC] k2 (jo _) (show _<1000000 by have:=sW (S:=S);lia)
  ⟨a,k1.n,rs,mG S P,[],aC,aC,rfl,w1.new,by rw[show k2.get a=k1.get a from iD (bU ga)];exact ga,L.gm Gm.refl.new,dU,by unfold mG;rw[bx,nT],sh.uS,rfl⟩
 obtain⟨a2,r2,J0,lanes,rows,x6,x7,rfl,w3,FH,L3,FJ,hl3,J4,hp3⟩:=I;rw[Nat.sub_self]at J4 hp3;simp only[uS,bJ,fS,fX,vc,List.isEmpty_eq_false_iff]at J4;have hR:aQ S P=rows:=by unfold aQ;rw[<-hp3];rfl
 have hF:aX S P=lanes.map kP:=by unfold aX;rw[<-hp3];rfl
 have hlen:=L3.len;have p4:=sh.p4;obtain⟨ys,ρ',h',e6,hI⟩:=lR (nx:=aW .seq (.ref a2)) (tg:=bw (.one 0)) (e:=ev (run F (k+4)) Pn) (n:=lanes.length)
  (I:=λi ρ h1 acc=>(∃x,ρ=[x])/\h1=k3/\acc=((lanes.map kP).take i).map W.int)
  (λi ρ h1 acc hi hI=>by
    obtain⟨⟨x,rfl⟩,rfl,rfl⟩:=hI;have hr:=dh (show i<J0.length by lia);have hx:=dh hi;have gr:=L3.at_ i _ _ hr hx;have hne:=J4.1 _ (kZ hi);refine⟨.ref J0[i],[aB (.ref J0[i])],.int (kP lanes[i]),h1,?_,rfl,?_,⟨_,rfl⟩,rfl,?_⟩;rw[yS FH,hr];rfl;refine dM (aE rfl) aG ?_;generalize lanes[i]=l at gr hne;obtain⟨x,r,rfl⟩:∃x r,l=x::r:=by
     cases l with|nil=>exact absurd rfl hne|cons x r=>exact⟨x,r,rfl⟩
    simp only[cz,gr];exact nX (j:=0) rfl;rw[pZ,dS,hx,ig];rfl)
  (λρ h1 acc hI=>by rw[hI.2.1,yS FH,iL (by lia)];rfl)
  (ρ:=inner 1 [] [aB (.int S),aB (.int P),aB (.int (aU S:Int)),aB (.int (bz S P:Int)),aB (.ref a2),aB (.ref r2),x6,x7,aC]) (h:=k3) (by lia) ⟨⟨aC,rfl⟩,rfl,rfl⟩
 obtain⟨_,rfl,rfl⟩:=hI;rw[<-bx (f:=kP),oz,<-hF]at e6;have QH:(h'.new (.lst ((aX S P).map W.int))).get r2=aB (.lst (rows.map .tup)):=by rw[iD (bU FJ)];exact FJ
 rw[<-hR]at QH;have hbody:exs (run F (k+4)) sA.body [aB (.int S),aB (.int P),aC,aC,aC,aC,aC,aC,aC] ⟨h.n,h.n,h.os⟩=.ok (.rt (aT S P).w) (h'.new (.lst ((aX S P).map W.int))):=by
  refine(bq (bX (mJ (aE rfl) aG Z3))).trans ?_;refine(bq (bX (x:=.int (bz S P:Int)) (h1:=⟨h.n,h.n,h.os⟩) (fk (fk (fk aG (aE rfl) (lT (.inl (by decide)))) (aE rfl) (lT (.inr (FI (by lia))))) aG ?_))).trans ?_;show Res.ok (W.int (2* (S:Int)*P+1)) _=_;unfold bz
  push_cast;rfl;refine(bq (bX e4)).trans ?_;refine(bq (bX (x:=.ref k1.n) (h1:=k2) (fJ bG rfl))).trans ?_;refine(bq ((ez (aN (aE rfl) bG)).trans e5)).trans ?_;refine(bq (bX (x:=.tup ((aX S P).map W.int)) (tu (pT (aE rfl) e6 (by rw[bx,hF,bx];lia)) (om dU)))).trans ?_;refine jB (dZ (uQ (aE rfl) (aE rfl) (tu (aE rfl) (om QH)) (aE rfl) (fk (CB (aN aG bG) rfl) (aE rfl) ?_)));exact CJ (by lia)
 rw[dW C.Zy rfl];show fin h (exs (run F (k+4)) sA.body [aB (.int S),aB (.int P),aC,aC,aC,aC,aC,aC,aC] ⟨h.n,h.n,h.os⟩)=_;rw[hbody];exact xB (CH sh.ok) w3.new
end
noncomputable def bT(x:Int×Int):W:=.tup [.int x.1,.int x.2]
noncomputable def bM(r:List (Int×Int)):W:=.tup (r.map bT)
noncomputable def mW(M:List (List (Int×Int))):W:=.tup (M.map bM)
theorem FL{x:Int×Int}:Pv (bT x):=Pv.tup λw hw=>by
 rcases gH.mp hw with rfl|hw;exact Pv.int;rw[mS.mp hw];exact Pv.int
theorem FN{h:VH}{ws:List W}:Kn h (.tup ws):=by simp[Kn,ck]
theorem QI{h:VH}{i:Int}:Kn h (.int i):=by simp[Kn,ck]
theorem J5:∀n,aY uc (bI n (W.bl true))=aB (bI n true)|0=>rfl|n+1=>by simp only[qM,aY,uc,J5 n]
theorem CL{cl:Call}{ρ:En}{h:VH}{ws:List W}{x:W}{a e:E}{ix:List Nat}{tl:En}(ea:ev cl a ρ h=.ok (.tup ws) h)(hl:ws.length<1000)(hin:inner 1 ix ρ=aC::tl)
 (he:∀w∈ws,ev cl e (aB w::tl) h=.ok (.bl true) h):∃h',ev cl (.bi .all (.cons (.lc .seq a (.one 0) 1 ix (.cst (.bl true)) e) .nil)) ρ h=.ok (.bl true) h'/\Gm h h':=by
 obtain⟨ys,ρ',h',e1,hI⟩:=lR (nx:=aW .seq (.tup ws)) (tg:=bw (.one 0)) (e:=ev cl e) (n:=ws.length)
  (I:=λi ρ h1 acc=>(∃x,ρ=x::tl)/\h1=h/\acc=bI i (W.bl true))
  (λi ρ h1 acc hi hI=>by
    obtain⟨⟨x,rfl⟩,rfl,rfl⟩:=hI;have hx:=dh hi;refine⟨ws[i],aB ws[i]::tl,.bl true,h1,?_,rfl,he _ (kZ hi),⟨_,rfl⟩,rfl,?_⟩;simp only[aW,aR,ly,hx];rw[<-List.replicate_succ'])
  (λρ h1 acc hI=>by simp only[aW,aR,ly,iL (aZ _)])
  (ρ:=inner 1 ix ρ) (h:=h) (by lia) ⟨⟨aC,hin⟩,rfl,rfl⟩
 obtain⟨_,rfl,rfl⟩:=hI;refine⟨_,?_,Gm.refl.new (o:=.lst (bI ws.length (W.bl true)))⟩;rw[ev,aN (pT ea e1 (by rw[tK];lia)) bG,aD];show kH [.ref h'.n] _=_;have g:(h'.new (.lst (bI ws.length (W.bl true)))).get h'.n=aB (.lst (bI ws.length (W.bl true))):=dU;simp only[kH,g,J5,ly,cA];have ha:(bI ws.length true).all id=true:=fX.mpr λb hb=>za hb;rw[ha]
theorem pU{cl:Call}{ρ:En}{h h1:VH}{a:E}{b:Bool}(ea:ev cl a ρ h=.ok (.bl b) h1):ev cl (.not (.k9 a)) ρ h=.ok (.bl (!b)) h1:=by rw[ev,ev,ea,aD];cases b<;>rfl
section
variable{F:Nat->Option Fn}(A:ia F)(C:oj F)
include A C
theorem Z4{k S:Nat}{h:VH}{x:Int×Int}(h1:0<=x.1/\x.1<=99)(h2:0<=x.2/\x.2<S):run F (k+3) 70 [bT x,.int S] h=.ok (.bl true) h:=by
 have e6:=Fy A (k:=k+1) (h:=⟨h.n,h.n,h.os⟩) (w:=bT x) (lo:=2) (hi:=2) FN;have e1:=Fx A (k:=k) (h:=⟨h.n,h.n,h.os⟩) (w:=.int x.1) (lo:=0) (hi:=99) QI;have e2:=Fx A (k:=k) (h:=⟨h.n,h.n,h.os⟩) (w:=.int x.2) (lo:=0) (hi:=(S:Int)-1) QI;rw[show eT (bT x) 2 2=true from rfl]at e6;rw[show within (.int x.1) 0 99=true by simp[within];lia]at e1;rw[show within (.int x.2) 0 ((S:Int)-1)=true by simp[within];lia]at e2;rw[dW C.Zv rfl];have eb:exs (run F (k+2)) su.body [aB (bT x),aB (.int S),aC,aC] ⟨h.n,h.n,h.os⟩=.ok (.rt (.bl true)) ⟨h.n,h.n,h.os⟩:=by refine(bq (ρ':=[aB (bT x),aB (.int S),aC,aC]) (h':=⟨h.n,h.n,h.os⟩) ?_).trans ?_;rw[exs,pU (nL (aE rfl) aG aG e6),aD];show exs _ .skip _ _=_;rw[exs];refine(bq (ρ':=[aB (bT x),aB (.int S),aB (.int x.1),aB (.int x.2)]) (h':=⟨h.n,h.n,h.os⟩) ?_).trans ?_;rw[exs,aE (x:=bT x) rfl,aD];rfl;refine jB (dZ ?_);rw[ev,nL (aE rfl) aG aG e1,aD];exact nL (aE rfl) aG (fk (aE rfl) aG rfl) e2
 show fin h (exs (run F (k+2)) su.body [aB (bT x),aB (.int S),aC,aC] ⟨h.n,h.n,h.os⟩)=_;rw[eb];exact dF (aZ _) rfl
theorem Z5{k S P:Nat}{h:VH}{r:List (Int×Int)}(hl:r.length=P)(hP:P<=4)(hx:∀x∈r,0<=x.1/\x.1<=99/\0<=x.2/\x.2<S):run F (k+4) 71 [bM r,.int P,.int S] h=.ok (.bl true) h:=by
 have e6:=Fy A (k:=k+2) (h:=⟨h.n,h.n,h.os⟩) (w:=bM r) (lo:=P) (hi:=P) FN;rw[show eT (bM r) P P=true by simp[eT,bM,hl]]at e6;obtain⟨h',e7,w7⟩:=CL (cl:=run F (k+3)) (ρ:=[aB (bM r),aB (.int P),aB (.int S)]) (h:=⟨h.n,h.n,h.os⟩) (ws:=r.map bT) (x:=.aP) (a:=.var 0) (e:=Ph) (ix:=[2]) (tl:=[aB (.int S)]) (aE rfl) (by rw[bx];lia) rfl (λw hw=>by
  obtain⟨x,hm,rfl⟩:=iH.mp hw;obtain⟨a1,a2,a3,a4⟩:=hx x hm;exact mJ (aE rfl) (aE rfl) (Z4 A C ⟨a1,a2⟩ ⟨a3,a4⟩))
 rw[dW C.Zw rfl];have eb:exs (run F (k+3)) sy.body [aB (bM r),aB (.int P),aB (.int S)] ⟨h.n,h.n,h.os⟩=.ok (.rt (.bl true)) h':=by refine jB (dZ ?_);rw[ev,nL (aE rfl) (aE rfl) (aE rfl) e6,aD];exact e7
 show fin h (exs (run F (k+3)) sy.body [aB (bM r),aB (.int P),aB (.int S)] ⟨h.n,h.n,h.os⟩)=_;rw[eb];exact xB (λ_=>rfl) w7
theorem Z6{k S P:Nat}{h:VH}{M:List (List (Int×Int))}(sh:Shape S P)(m:xy S P M):run F (k+5) 69 [mW M] h=.ok (.bl true) h:=by
 have gV:=sh.gV;have p4:=sh.p4;have sp:=sh.sp;have s1:=sh.s1;have p1:=sh.p1;obtain⟨r0,M',rfl⟩:∃r M',M=r::M':=by
  cases M with|nil=>have:=m.l;simp at this;lia|cons r M'=>exact⟨r,M',rfl⟩
 have l0:=m.r r0 fT;have lM:=m.l;have e6:=Fy A (k:=k+3) (h:=⟨h.n,h.n,h.os⟩) (w:=mW (r0::M')) (lo:=1) (hi:=16) FN;have e7:=Fy A (k:=k+3) (h:=⟨h.n,h.n,h.os⟩) (w:=bM r0) (lo:=1) (hi:=4) FN;rw[show eT (mW (r0::M')) 1 16=true by simp[eT,mW];simp at lM;lia]at e6;rw[show eT (bM r0) 1 4=true by simp[eT,bM];lia]at e7;have i0:∀g:VH,cz g (mW (r0::M')) (.int 0)=aB (bM r0):=λg=>JM;obtain⟨h',e8,w8⟩:=CL (cl:=run F (k+4)) (ρ:=[aB (mW (r0::M')),aB (.int S),aB (.int P)]) (h:=⟨h.n,h.n,h.os⟩) (ws:=(r0::M').map bM) (x:=.aP) (a:=.var 0) (e:=Pg) (ix:=[2,1]) (tl:=[aB (.int P),aB (.int S)]) (aE rfl) (by rw[bx];lia) rfl (λw hw=>by
  obtain⟨x,hm,rfl⟩:=iH.mp hw;exact nL (aE rfl) (aE rfl) (aE rfl) (Z5 A C (m.r x hm) p4 (m.p x hm)))
 rw[dW C.Zu rfl];have eb:exs (run F (k+4)) sr.body [aB (mW (r0::M')),aC,aC] ⟨h.n,h.n,h.os⟩=.ok (.rt (.bl true)) h':=by
  refine(bq (ρ':=[aB (mW (r0::M')),aC,aC]) (h':=⟨h.n,h.n,h.os⟩) ?_).trans ?_;rw[exs,xg (x:=false) (y:=false) (pU (nL (aE rfl) aG aG e6)) (pU (nL (dM (aE rfl) aG (i0 _)) aG aG e7)),aD];show exs _ .skip _ _=_;rw[exs];refine(bq (bX (x:=.int (S:Int)) (dN (ws:=(r0::M').map bM) (aE rfl) rfl |>.trans (by rw[bx,lM])))).trans ?_;refine(bq (bX (x:=.int (P:Int)) (dN (ws:=r0.map bT) (dM (aE rfl) aG (i0 _)) rfl |>.trans (by rw[bx,l0])))).trans ?_;refine jB (dZ ?_);have ec:ev (run F (k+4)) (.cmp .le (.op .mul (.var 1) (.var 2)) (.cst (.int (16)))) [aB (mW (r0::M')),aB (.int S),aB (.int P)] ⟨h.n,h.n,h.os⟩=.ok (.bl true) ⟨h.n,h.n,h.os⟩:=by rw[ev,fk (aE rfl) (aE rfl) (lT (.inl (FI (by lia)))),aD,aG,aD];show Res.ok (W.bl (decide ((S:Int)* (P:Int)<=16))) _=_;rw[kY (by have:=Int.ofNat_le.mpr sp;rwa [Int.natCast_mul]at this)]
  show ev (run F (k+4)) (.and _ _) [aB (mW (r0::M')),aB (.int S),aB (.int P)] ⟨h.n,h.n,h.os⟩=_;rw[ev,ec,aD];exact e8
 show fin h (exs (run F (k+4)) sr.body [aB (mW (r0::M')),aC,aC] ⟨h.n,h.n,h.os⟩)=_;rw[eb];exact xB (λ_=>rfl) w8
end
structure St(k0:VH)(D R:Nat)(rs:List Nat):Prop where
 d:k0.n<=D
 r:k0.n<=R
 ro:∀x∈rs,k0.n<=x
 dr:D≠R
 dn:D∉rs
 rn:R∉rs
 nd:rs.Nodup
structure DI(k0:VH)(D R:Nat)(rs:List Nat)(ds:List W)(K:Nat->Kv)(h:VH):Prop where
 gm:Gm k0 h
 d:h.get D=aB (.lst ds)
 r:h.get R=aB (.lst (rs.map .ref))
 k:∀(g r:Nat),rs[g]?=aB r->h.get r=aB (.dm (K g))
section
variable{k0 h:VH}{D R:Nat}{rs:List Nat}{ds:List W}{K:Nat->Kv}
theorem DI.door(s:St k0 D R rs)(I:DI k0 D R rs ds K h)(ds':List W):DI k0 D R rs ds' K (h.set D (.lst ds')):=by have hD:=bU I.d;refine⟨I.gm.set s.d hD,pP I.d,?_,λg r e=>?_⟩;rw[nZ hD (eV s.dr)];exact I.r;rw[nZ hD (λz=>s.dn (z▸mR e))];exact I.k g r e
theorem DI.put(s:St k0 D R rs)(I:DI k0 D R rs ds K h){g r:Nat}(e:rs[g]?=aB r)(kv:Kv):DI k0 D R rs ds (λj=>if j=g then kv else K j) (h.set r (.dm kv)):=by have hr:=bU (I.k g r e);have hm:=mR e;refine⟨I.gm.set (s.ro r hm) hr,?_,?_,λj q e2=>?_⟩;rw[nZ hr (λz=>s.dn (by rw[z];exact hm))];exact I.d;rw[nZ hr (λz=>s.rn (by rw[z];exact hm))];exact I.r;by_cases z:j=g;subst z;rw[e]at e2;cases e2;rw[if_pos rfl];exact pP (I.k j r e);rw[if_neg z,nZ hr (λy=>z ?_)];exact I.k j q e2;obtain⟨h1,h2⟩:=i7.mp e;obtain⟨h3,h4⟩:=i7.mp e2;exact(List.getElem_inj s.nd).mp (by rw[h4,h2,y])
theorem DI.same(I:DI k0 D R rs ds K h){K':Nat->Kv}(e:∀g,g<rs.length->K g=K' g):DI k0 D R rs ds K' h:=⟨I.gm,I.d,I.r,λg r q=>by rw[<-e g (i7.mp q).1];exact I.k g r q⟩
noncomputable abbrev cD(m p w g rows fd st:W)(x7:Option W)(D:Nat)(x9:Option W)(R:Nat)(jE ic iy iz jR gB gC ja fR iK:Option W):En:=
 [aB m,aB p,aB w,aB g,aB rows,aB fd,aB st,x7,aB (.ref D),x9,aB (.ref R),jE,ic,iy,iz,jR,gB,gC,ja,fR,iK]
theorem Z7{cl:Call}{m p w gg rows fd:W}{x9 jE ic iy iz gB gC fR iK:Option W}{G:Nat}{sts:List (List Int)}{e:Ev}{nx:Nat}(s:St k0 D R rs)(I:DI k0 D R rs ds K h)(hrs:rs.length=G)(hbl:e.b.length=G)(htl:e.t.length=G)(hst:sts[nx]?=aB e.t)(hK:∀g,(K g).length<=500)(hG:G<=8) :
 ∃Z8 J6 h',exs cl (.«for» .lE (.var 18) (.many [9,19]) EW) (cD m p w gg rows fd (.tup (sts.map iW)) (aB (.int e.c)) D x9 R jE ic iy iz (aB (.int nx)) gB gC (aB (iW e.b)) fR iK) h=.ok (.nx (cD m p w gg rows fd (.tup (sts.map iW)) (aB (.int e.c)) D Z8 R jE ic iy iz (aB (.int nx)) gB gC (aB (iW e.b)) J6 iK)) h'/\DI k0 D R rs ds (λg=>bL g (K g) e) h':=by
 obtain⟨ρ',h',e1,hI⟩:=nM (nx:=aW .lE (iW e.b)) (tg:=bw (.many [9,19])) (b:=exs cl EW) (n:=G)
  (I:=λi ρ h1=>(∃x9 fR,ρ=cD m p w gg rows fd (.tup (sts.map iW)) (aB (.int e.c)) D x9 R jE ic iy iz (aB (.int nx)) gB gC (aB (iW e.b)) fR iK)/\DI k0 D R rs ds (λg=>if g<i then bL g (K g) e else K g) h1)
  (λi ρ h1 hi hI=>by
    obtain⟨⟨y9,j6,rfl⟩,I1⟩:=hI;have hb:=dh (show i<e.b.length by lia);have ht:=dh (show i<e.t.length by lia);have hr:=dh (show i<rs.length by lia);have gr:=I1.k i _ hr;rw[if_neg (fZ _)]at gr;have db:e.b.getD i 0=e.b[i]:=by rw[pX,hb];rfl
    have dt:e.t.getD i 0=e.t[i]:=by rw[pX,ht];rfl
    let dJ:=cD m p w gg rows fd (.tup (sts.map iW)) (aB (.int e.c)) D (aB (.int (i:Int))) R jE ic iy iz (aB (.int nx)) gB gC (aB (iW e.b)) (aB (.int e.b[i])) iK;have ec:ev cl (.cmp .ne (.var 19) (.idx (.idx (.var 6) (.var 15)) (.var 9))) dJ h1=.ok (.bl (!decide (e.b[i]=e.t[i]))) h1:=by
     have q1:ev cl (.idx (.idx (.var 6) (.var 15)) (.var 9)) dJ h1=.ok (.int e.t[i]) h1:=by refine dM (dM (z:=iW e.t) (aE (x:=.tup (sts.map iW)) rfl) (aE (x:=.int nx) rfl) ?_) (aE (x:=.int (i:Int)) rfl) ?_;exact nX (by rw[dS,hst];rfl);exact nX (by rw[dS,ht];rfl)
     rw[ev,aE (x:=.int e.b[i]) rfl,aD,q1,aD];simp only[bE,zdt,ly,cA]
    refine⟨.tup [.int (i:Int),.int e.b[i]],dJ,dJ,if e.b[i]=e.t[i]then h1 else h1.set rs[i] (.dm (bL i (K i) e)),?_,rfl,?_,⟨_,_,rfl⟩,?_⟩;show aB (((e.b.map W.int)[i]?).map λw=>W.tup [.int i,w])=_;rw[dS,hb];rfl;unfold EW;by_cases q:e.b[i]=e.t[i];rw[if_pos q];rw[kY q]at ec;refine(bq (ρ':=dJ) (h':=h1) ?_).trans (by rw[exs]);rw[exs,ec,aD];show exs cl .skip dJ h1=_;rw[exs];rw[if_neg q];rw[jn q]at ec;refine(bq (ρ':=dJ) (h':=h1.set rs[i] (.dm (bL i (K i) e))) ?_).trans (by rw[exs]);rw[exs,ec,aD];show exs cl (.seq (.put (.idx (.var 10) (.var 9)) (.var 7) (.tup (.cons (.var 9) (.cons (.op .sub (.cst (.int (1))) (.var 19)) .nil)))) .skip) dJ h1=_;refine(bq (ρ':=dJ) (h':=h1.set rs[i] (.dm (bL i (K i) e))) ?_).trans (by rw[exs]);have J7:ev cl (.tup (.cons (.var 9) (.cons (.op .sub (.cst (.int (1))) (.var 19)) .nil))) dJ h1=.ok (.tup [.int (i:Int),.int (1-e.b[i])]) h1:=jD (aE rfl) (fk aG (aE rfl) rfl);have Z9:ev cl (.idx (.var 10) (.var 9)) dJ h1=.ok (.ref rs[i]) h1:=by refine dM (aE (x:=.ref R) rfl) (aE (x:=.int (i:Int)) rfl) ?_;simp only[cz,I1.r];exact nX (by rw[dS,hr];rfl)
    rw[exs,J7,aD,Z9,aD,aE (x:=.int e.c) rfl,aD];simp only[gr,oV];rw[if_pos (xj (by have:=hK i;lia))];congr 2;unfold bL;rw[db,dt,if_neg q];by_cases q:e.b[i]=e.t[i];rw[if_pos q];refine I1.same λg hg=>?_;by_cases z:g<i;rw[if_pos z,if_pos (by lia)];rw[if_neg z];by_cases z2:g=i;subst z2;rw[if_pos (fY _)];unfold bL;rw[db,dt,if_pos q];rw[if_neg (by lia)];rw[if_neg q];refine(I1.put s hr (bL i (K i) e)).same λg hg=>?_;by_cases z2:g=i;subst z2;rw[if_pos rfl,if_pos (fY _)];rw[if_neg z2];by_cases z:g<i;rw[if_pos z,if_pos (by lia)];rw[if_neg z,if_neg (by lia)])
  (λρ h1 hI=>by
    show aB (((e.b.map W.int)[G]?).map λw=>W.tup [.int G,w])=_;rw[iL (by rw[bx];lia)];rfl)
  G 0 fuel (cD m p w gg rows fd (.tup (sts.map iW)) (aB (.int e.c)) D x9 R jE ic iy iz (aB (.int nx)) gB gC (aB (iW e.b)) fR iK) h (jo _) (show _<1000000 by lia) ⟨⟨_,_,rfl⟩,I.same λg _=>by rw[if_neg (xY _)]⟩
 obtain⟨⟨y9,j6,rfl⟩,I2⟩:=hI;refine⟨y9,j6,h',(ez (aE rfl)).trans e1,I2.same λg hg=>?_⟩;rw[if_pos (by lia)]
end
theorem zpb{g:Nat}{kv:Kv}{e:Ev}:(bL g kv e).length<=kv.length+1:=by unfold bL;split;exact p9 _;exact JE
theorem J8{g:Nat}:∀{es:List Ev} {kv:Kv},(es.foldl (bL g) kv).length<=kv.length+es.length
 |[],_=>aZ _
 |e::r,kv=>by
  rw[lU,cG];have h1:=J8 (g:=g) (es:=r) (kv:=bL g kv e);have h2:=zpb (g:=g) (kv:=kv) (e:=e);exact gJ h1 (by rw[<-Nat.add_assoc,Nat.add_right_comm];exact Nat.add_le_add_right h2 _)
theorem zl8{g:Nat}{es:List Ev}{e:Ev}:eU g (es++[e])=bL g (eU g es) e:=by unfold eU;rw[Dg];rfl
theorem zpc{es:List Ev}{e:Ev}{d:List W}:(es++[e]).foldl cZ d=cZ (es.foldl cZ d) e:=by rw[Dg];rfl
theorem QJ{S P s:Nat}{x:Int×Int}:∀{f:Nat} {A:List (Int×Int)},dg S P s f (A++[x])=dg S P s f A++[lQ S P s (f+A.length) x]
 |f,[]=>rfl
 |f,y::A=>by
  rw[qR,dg,dg,QJ,cG,qR,show f+1+A.length=f+ (A.length+1) by lia]
theorem QK{S P:Nat}{x:List (Int×Int)}:∀{s:Nat} {A:List (List (Int×Int))},bS S P s (A++[x])=bS S P s A++dg S P (s+A.length) 0 x
 |s,[]=>by simp[bS]
 |s,y::A=>by
  rw[qR,bS,bS,QK,cG,ze,show s+1+A.length=s+ (A.length+1) by lia]
theorem J9{S P s:Nat}:∀{f:Nat} {A:List (Int×Int)},(dg S P s f A).length=A.length|_,[]=>rfl|f,x::r=>by rw[dg,cG,J9,cG]
theorem J'{S P:Nat}:∀{s:Nat} {A:List (List (Int×Int))},(∀r∈A,r.length=P)->(bS S P s A).length=A.length*P
 |_,[],_=>by simp[bS]
 |s,x::r,h=>by
  rw[bS,fU,J9,J' λy hy=>h y (fE _ hy),h x fT,cG,Nat.add_mul];lia
noncomputable def EI(k0:VH)(D R:Nat)(rs:List Nat)(w:Nat)(es:List Ev)(h:VH):Prop:=DI k0 D R rs (es.foldl cZ (bI w (.tup [.int 0,.int 0]))) (λg=>eU g es) h
section
variable{F:Nat->Option Fn}(Y:g9 F)
include Y
theorem zyt{k:Nat}{k0 h:VH}{D R:Nat}{rs:List Nat}{S P:Nat}{es:List Ev}{m fd:W}{x7 x9 ic gB gC ja fR iK:Option W}{s f:Nat}{x:Int×Int}(sh:Shape S P)(st:St k0 D R rs)(hrs:rs.length=aU S)(hs:s<S)(hf:f<P)(hx:0<=x.2/\x.2<S)(hes:es.length<=400)(I:EI k0 D R rs (bz S P) es h) :
 ∃y7 y9 nN nO nP j6 h',exs (run F (k+2)) EX (cD m (aT S P).w (.int (bz S P)) (.int (aU S)) (.tup ((aQ S P).map .tup)) fd (.tup (((List.range S).map λ(s:Nat)=>aO s (aU S)).map iW)) x7 D x9 R (aB (iW (aO s (aU S)))) ic (aB (.int f)) (aB (.int x.1)) (aB (.int x.2)) gB gC ja fR iK) h =
  .ok (.nx (cD m (aT S P).w (.int (bz S P)) (.int (aU S)) (.tup ((aQ S P).map .tup)) fd (.tup (((List.range S).map λ(s:Nat)=>aO s (aU S)).map iW)) y7 D y9 R (aB (iW (aO s (aU S)))) ic (aB (.int f)) (aB (.int x.1)) (aB (.int x.2)) nN nO nP j6 iK)) h'/\EI k0 D R rs (bz S P) (es++[lQ S P s f x]) h':=by
 have hf':f< (aT S P).fd.length:=by show f< ((aX S P).map W.int).length;rw[bx,sh.rows.2.2.1];exact hf
 obtain⟨p1,p2,p3⟩:=sh.dY hf hs;have q:=sh.ok.dY (ls:=aO s (aU S)) (f:=f) hf' (by rw[qw];rfl) yR;have wd:=sh.wd;have hG:=sW (S:=S);have CM:0<=iG S f s/\iG S f s<bz S P:=by have:=q.c4;rw[p3]at this;exact this
 let e:=lQ S P s f x;have Ka:=Zm Y (k:=k) (h:=h) sh.ok hf' (by rw[qw];rfl) (yR (n:=aU S) (z:=s));let cs:=((aT S P).dY (aO s (aU S)) f).cs;let ts:=((aT S P).dY (aO s (aU S)) f).ts;have hl:((aT S P).dY (aO s (aU S)) f).ls.length=aU S:=by rw[q.l1,qw]
 let ds:=es.foldl cZ (bI (bz S P) (W.tup [.int 0,.int 0]));have hdl:ds.length=bz S P:=by show(es.foldl cZ _).length=_;rw[JG,tK]
 have I1:=DI.door st I (cZ ds e);obtain⟨nx,QL⟩:∃nx:Nat,x.2=nx:=⟨x.2.toNat,by lia⟩
 have hst:((List.range S).map λ(s:Nat)=>aO s (aU S))[nx]?=aB e.t:=by rw[dS,xQ (by lia)];show aB (aO (nx:Int) (aU S))=aB (aO x.2 (aU S));rw[QL]
 obtain⟨y9,j6,h',e5,I2⟩:=Z7 (cl:=run F (k+2)) (m:=m) (p:=(aT S P).w) (w:=.int (bz S P)) (gg:=.int (aU S)) (rows:=.tup ((aQ S P).map .tup)) (fd:=fd) (x9:=x9) (jE:=aB (iW (aO s (aU S)))) (ic:=ic) (iy:=aB (.int f)) (iz:=aB (.int x.1)) (gB:=aB (iW ((aT S P).col f::cs))) (gC:=aB (iW ts)) (fR:=fR) (iK:=iK) (e:=e) (nx:=nx) st I1 hrs hl qw hst (λg=>by
  have:=J8 (g:=g) (es:=es) (kv:=[]);show(es.foldl (bL g) []).length<=500;have h0:([]:Kv).length=0:=rfl;lia) (by lia)
 rw[<-QL]at e5;refine⟨aB (.int e.c),y9,aB (iW ((aT S P).col f::cs)),aB (iW ts),aB (iW e.b),j6,h',?_,?_⟩;unfold EX;refine(bq (ρ':=cD m (aT S P).w (.int (bz S P)) (.int (aU S)) (.tup ((aQ S P).map .tup)) fd (.tup (((List.range S).map λ(s:Nat)=>aO s (aU S)).map iW)) x7 D x9 R (aB (iW (aO s (aU S)))) ic (aB (.int f)) (aB (.int x.1)) (aB (.int x.2)) (aB (iW ((aT S P).col f::cs))) (aB (iW ts)) (aB (iW e.b)) fR iK) (h':=h) ?_).trans ?_;rw[exs,Zn (aE rfl) (aE rfl) (aE rfl) aG Ka,aD];rfl;refine(bq (bX (x:=.int e.c) (h1:=h) (dM (aE rfl) (y:=.int (-1)) (h2:=h) (by rw[ev,aG,aD]) ?_))).trans ?_;show fV (((aT S P).col f::cs).map W.int) (-1)=_;rw[Zc];show aB (W.int (gA _ _))=aB (W.int (iG S f s));rw[p3];refine(bq (ρ':=cD m (aT S P).w (.int (bz S P)) (.int (aU S)) (.tup ((aQ S P).map .tup)) fd (.tup (((List.range S).map λ(s:Nat)=>aO s (aU S)).map iW)) (aB (.int e.c)) D x9 R (aB (iW (aO s (aU S)))) ic (aB (.int f)) (aB (.int x.1)) (aB (.int x.2)) (aB (iW ((aT S P).col f::cs))) (aB (iW ts)) (aB (iW e.b)) fR iK) (h':=h.set D (.lst (cZ ds e))) ?_).trans ?_;have J7:∀ρ:En,ρ[14]?=aB (aB (.int x.1))->ev (run F (k+2)) (.tup (.cons (.var 14) (.cons (.cst (.int (0))) .nil))) ρ h=.ok (.tup [.int x.1,.int 0]) h:=λρ nK=>jD (aE nK) aG;have hix:jd ds.length e.c=aB e.c.toNat:=by have:e.c=((e.c.toNat:Nat):Int):=(Int.toNat_of_nonneg CM.1).symm;rw[this,PZ (by rw[hdl];have:=CM.2;have h9:e.c=iG S f s:=rfl;lia)];rfl
 have gD:h.get D=aB (.lst ds):=I.d;rw[exs,J7 _ rfl,aD,aE (x:=.ref D) rfl,aD,aE (x:=.int e.c) rfl,aD];simp only[gD,hix];rfl;exact(bq e5).trans (by rw[exs]);unfold EI;rw[zpc];refine I2.same λg _=>?_;rw[zl8]
end
noncomputable def bD(S:Nat):List (List Int):=(List.range S).map λ(s:Nat)=>aO s (aU S)
section
variable{F:Nat->Option Fn}(Y:g9 F)
include Y
theorem zl9{k:Nat}{k0 h:VH}{D R:Nat}{rs:List Nat}{S P:Nat}{es:List Ev}{m fd:W}{row:List (Int×Int)}{x7 x9 iy iz jR gB gC ja fR iK:Option W}{s:Nat}(sh:Shape S P)(st:St k0 D R rs)(hrs:rs.length=aU S)(hs:s<S)(nQ:row.length=P)(hx:∀x∈row,0<=x.2/\x.2<S)(hes:es.length<=300)(I:EI k0 D R rs (bz S P) es h) :
 ∃y7 y9 qx qy qz nN nO nP j6 h',exs (run F (k+2)) B7 (cD m (aT S P).w (.int (bz S P)) (.int (aU S)) (.tup ((aQ S P).map .tup)) fd (.tup ((bD S).map iW)) x7 D x9 R (aB (iW (aO s (aU S)))) (aB (bM row)) iy iz jR gB gC ja fR iK) h =
  .ok (.nx (cD m (aT S P).w (.int (bz S P)) (.int (aU S)) (.tup ((aQ S P).map .tup)) fd (.tup ((bD S).map iW)) y7 D y9 R (aB (iW (aO s (aU S)))) (aB (bM row)) qx qy qz nN nO nP j6 iK)) h'/\EI k0 D R rs (bz S P) (es++dg S P s 0 row) h':=by
 have p4:=sh.p4;obtain⟨ρ',h',e1,hI⟩:=nM (nx:=aW .lE (bM row)) (tg:=bw (.AV 13 [14,15])) (b:=exs (run F (k+2)) EX) (n:=row.length)
  (I:=λj ρ h1=>(∃x7 x9 iy iz jR gB gC ja fR,ρ=cD m (aT S P).w (.int (bz S P)) (.int (aU S)) (.tup ((aQ S P).map .tup)) fd (.tup ((bD S).map iW)) x7 D x9 R (aB (iW (aO s (aU S)))) (aB (bM row)) iy iz jR gB gC ja fR iK)/\EI k0 D R rs (bz S P) (es++dg S P s 0 (row.take j)) h1)
  (λj ρ h1 hj hI=>by
    obtain⟨⟨z7,z9,QM,QN,QO,Kc,Ke,Kf,Kg,rfl⟩,I1⟩:=hI;have QS:=dh hj;have ht:row.take (j+1)=row.take j++[row[j]]:=by rw[pZ,QS];rfl
    obtain⟨y7,y9,nN,nO,nP,j6,h2,e2,I2⟩:=zyt Y (k:=k) (m:=m) (fd:=fd) (x7:=z7) (x9:=z9) (ic:=aB (bM row)) (gB:=Kc) (gC:=Ke) (ja:=Kf) (fR:=Kg) (iK:=iK) (f:=j) (x:=row[j]) sh st hrs hs (by lia) (hx _ (kZ hj)) (by
     rw[fU,J9,qQ];lia) I1
    refine⟨.tup [.int j,bT row[j]],_,_,h2,?_,rfl,e2,⟨_,_,_,_,_,_,_,_,_,rfl⟩,?_⟩;show aB (((row.map bT)[j]?).map λw=>W.tup [.int j,w])=_;rw[dS,QS];rfl;rw[ht,QJ,<-ze,qQ,jo,Nat.min_eq_left (tM hj)];exact I2)
  (λρ h1 hI=>by
    show aB (((row.map bT)[row.length]?).map λw=>W.tup [.int row.length,w])=_;rw[iL (by rw[bx];exact aZ _)];rfl)
  row.length 0 fuel (cD m (aT S P).w (.int (bz S P)) (.int (aU S)) (.tup ((aQ S P).map .tup)) fd (.tup ((bD S).map iW)) x7 D x9 R (aB (iW (aO s (aU S)))) (aB (bM row)) iy iz jR gB gC ja fR iK) h (jo _) (show _<1000000 by lia)
  ⟨⟨_,_,_,_,_,_,_,_,_,rfl⟩,by rw[List.take_zero,dg,oA];exact I⟩
 obtain⟨⟨y7,y9,qx,qy,qz,nN,nO,nP,j6,rfl⟩,I2⟩:=hI;rw[oz]at I2;refine⟨y7,y9,qx,qy,qz,nN,nO,nP,j6,h',?_,I2⟩;unfold B7;exact(bq ((ez (aE rfl)).trans e1)).trans (by rw[exs])
theorem zma{k:Nat}{k0 h:VH}{D R:Nat}{rs:List Nat}{S P:Nat}{fd:W}{M:List (List (Int×Int))}(sh:Shape S P)(mo:xy S P M)(st:St k0 D R rs)(hrs:rs.length=aU S)(I:EI k0 D R rs (bz S P) [] h) :
 ∃y7 y9 CN CO qx qy qz nN nO nP j6 h',exs (run F (k+2)) (.«for» .zip (.cons (.var 6) (.cons (.var 0) .nil)) (.many [11,12]) B7) (cD (mW M) (aT S P).w (.int (bz S P)) (.int (aU S)) (.tup ((aQ S P).map .tup)) fd (.tup ((bD S).map iW)) aC D aC R aC aC aC aC aC aC aC aC aC aC) h =
  .ok (.nx (cD (mW M) (aT S P).w (.int (bz S P)) (.int (aU S)) (.tup ((aQ S P).map .tup)) fd (.tup ((bD S).map iW)) y7 D y9 R CN CO qx qy qz nN nO nP j6 aC)) h'/\EI k0 D R rs (bz S P) (bS S P 0 M) h':=by
 have gV:=sh.gV;have lM:=mo.l;have sp:=sh.sp;have nx:∀(i:Nat)(h:VH),aW .zip (.tup [.tup ((bD S).map iW),mW M]) i h=aB (match(bD S)[i]?,M[i]? with
  |some a,aB b=>aB (.tup [iW a,bM b])
  |_,_=>aC):=λi h=>by
  show aB (match((bD S).map iW)[i]?,(M.map bM)[i]? with|some a,aB b=>aB (W.tup [a,b])|_,_=>aC)=_
  rw[dS,dS];cases(bD S)[i]?<;>cases M[i]?<;>rfl
 have hst:∀i,i<S->(bD S)[i]?=aB (aO i (aU S)):=λi hi=>by
  unfold bD;rw[dS,xQ hi];rfl
 obtain⟨ρ',h',e1,hI⟩:=nM (nx:=aW .zip (.tup [.tup ((bD S).map iW),mW M])) (tg:=bw (.many [11,12])) (b:=exs (run F (k+2)) B7) (n:=S)
  (I:=λi ρ h1=>(∃x7 x9 jE ic iy iz jR gB gC ja fR,ρ=cD (mW M) (aT S P).w (.int (bz S P)) (.int (aU S)) (.tup ((aQ S P).map .tup)) fd (.tup ((bD S).map iW)) x7 D x9 R jE ic iy iz jR gB gC ja fR aC)/\EI k0 D R rs (bz S P) (bS S P 0 (M.take i)) h1)
  (λi ρ h1 hi hI=>by
    obtain⟨⟨z7,z9,z11,z12,QM,QN,QO,Kc,Ke,Kf,Kg,rfl⟩,I1⟩:=hI;have hm:=dh (show i<M.length by lia);have ht:M.take (i+1)=M.take i++[M[i]]:=by rw[pZ,hm];rfl
    have hmem:M[i]∈M:=kZ _;have hlen:(bS S P 0 (M.take i)).length<=300:=by rw[J' (P:=P) λr hr=>mo.r r (List.mem_of_mem_take hr),qQ];have:min i M.length*P<=S*P:=Nat.mul_le_mul_right _ (by lia);lia
    obtain⟨y7,y9,qx,qy,qz,nN,nO,nP,j6,h2,e2,I2⟩:=zl9 Y (k:=k) (m:=mW M) (fd:=fd) (row:=M[i]) (x7:=z7) (x9:=z9) (iy:=QM) (iz:=QN) (jR:=QO) (gB:=Kc) (gC:=Ke) (ja:=Kf) (fR:=Kg) (iK:=aC) sh st hrs hi (mo.r _ hmem) (λx hx=>(mo.p _ hmem x hx).2.2) hlen I1;refine⟨.tup [iW (aO i (aU S)),bM M[i]],_,_,h2,?_,rfl,e2,⟨_,_,_,_,_,_,_,_,_,_,_,rfl⟩,?_⟩;rw[nx,hst i hi,hm];rw[ht,QK,qQ,jo,Nat.min_eq_left (by lia)];exact I2)
  (λρ h1 hI=>by
    rw[nx,iL (show M.length<=S by lia)];cases(bD S)[S]?<;>rfl)
  S 0 fuel (cD (mW M) (aT S P).w (.int (bz S P)) (.int (aU S)) (.tup ((aQ S P).map .tup)) fd (.tup ((bD S).map iW)) aC D aC R aC aC aC aC aC aC aC aC aC aC) h (jo _) (show _<1000000 by lia)
  ⟨⟨_,_,_,_,_,_,_,_,_,_,_,rfl⟩,by rw[List.take_zero];exact I⟩
 obtain⟨⟨y7,y9,CN,CO,qx,qy,qz,nN,nO,nP,j6,rfl⟩,I2⟩:=hI;rw[show M.take S=M by rw[<-lM,oz]]at I2;exact⟨y7,y9,CN,CO,qx,qy,qz,nN,nO,nP,j6,h',(ez (aN (aE rfl) (aN (aE rfl) bG))).trans e1,I2⟩
end
theorem zuz{xs ys:List W}{h:VH}(hne:xs≠[])(hl:xs.length+ys.length<=1000000):vQ .add (.tup xs) (.tup ys) h=.ok (.tup (xs++ys)) h:=by
 cases xs with
 |nil=>exact absurd rfl hne
 |cons x r=>
  show(if Nat.ble ((x::r).length+ys.length) big=true then Res.ok (W.tup (x::r++ys)) h else .no)=_;rw[if_pos (nJ hl)]
theorem zrb:(lP.all λx=>(aU x.1==0) || !(aQ x.1 x.2).isEmpty)=true:=by decide +kernel
theorem zrc{g:Nat}{es:List Ev}:jl (eU g es):=by
 have:∀(es:List Ev)(kv:Kv),jl kv->jl (es.foldl (bL g) kv):=by
  intro es;induction es with
  |nil=>intro kv h;exact h
  |cons e r ih=>
   intro kv h;rw[lU];refine ih _ ?_;unfold bL;split;exact h;exact h.put (FL (x:=((g:Int),1-e.b.getD g 0)))
 exact this es [] .nil
theorem zyu{w:W}{c wd g:Int}(h:jk w c wd g):Pv w:=by rcases Cc h with⟨rfl,_⟩|⟨rfl,_⟩|⟨rfl,_⟩|rfl|rfl|⟨a,b,rfl,_⟩;exact Pv.str;exact Pv.str;exact Pv.str;exact Pv.str;exact Pv.str;exact FL (x:=((a:Int),(b:Int)))
theorem zrd{wd g:Int}{c:Int}{r:List W}(h:cH wd g c r):Pv (.tup r):=Pv.tup λw hw=>by
 obtain⟨i,hi,rfl⟩:=List.getElem_of_mem hw;exact zyu (Jw i h (dh hi))
section
variable{F:Nat->Option Fn}(A:CoreA F)(C:oj F)(Y:g9 F)
include C
theorem zu0{k:Nat}{k0 h:VH}{D R:Nat}{rs:List Nat}{S P:Nat}{es:List Ev}{m p fd sv:W}{x7 x9 jE ic iy iz jR gB gC ja fR:Option W}(sh:Shape S P)(st:St k0 D R rs)(hrs:rs.length=aU S)(hes:es.length<=400)(I:EI k0 D R rs (bz S P) es h) :
 ∃FO h',exs (run F (k+2)) (.«for» .seq (.var 10) (.one 20) EY) (cD m p (.int (bz S P)) (.int (aU S)) (.tup ((aQ S P).map .tup)) fd sv x7 D x9 R jE ic iy iz jR gB gC ja fR aC) h =
  .ok (.nx (cD m p (.int (bz S P)) (.int (aU S)) (.tup ((pR S P es).map .tup)) fd sv x7 D x9 R jE ic iy iz jR gB gC ja fR FO)) h'/\Gm k0 h'/\h'.get D=aB (.lst (es.foldl cZ (bI (bz S P) (.tup [.int 0,.int 0])))):=by
 have wd:=sh.wd;have hG:=sW (S:=S);have hr60:=sh.rows.2.1;obtain⟨ρ',h',e1,hI⟩:=nM (nx:=aW .seq (.ref R)) (tg:=bw (.one 20)) (b:=exs (run F (k+2)) EY) (n:=aU S)
  (I:=λi ρ h1=>(∃iK,ρ=cD m p (.int (bz S P)) (.int (aU S)) (.tup ((aQ S P++(List.range' 0 i).flatMap (cg (bz S P) es)).map .tup)) fd sv x7 D x9 R jE ic iy iz jR gB gC ja fR iK)/\Gm k0 h1/\
    h1.get D=aB (.lst (es.foldl cZ (bI (bz S P) (.tup [.int 0,.int 0]))))/\h1.get R=aB (.lst (rs.map .ref))/\∀(g r:Nat),i<=g->rs[g]?=aB r->h1.get r=aB (.dm (eU g es)))
  (λi ρ h1 hi hI=>by
    obtain⟨⟨z20,rfl⟩,w1,gD,gR,gk⟩:=hI;have hr:=dh (show i<rs.length by lia);have hm:rs[i]∈rs:=kZ _;have gi:=gk i _ (aZ _) hr;have hlen:=J8 (g:=i) (es:=es) (kv:=[]);have h0:([]:Kv).length=0:=rfl;obtain⟨j,h2,e2,g2,hj,n2,o2,lo2⟩:=ZE C (k:=k) (n:=bz S P) (h:=h1) (p:=rs[i]) gi zrc (show(es.foldl (bL i) []).length<=1000 by lia) (by lia);have hD:=bU gD;have hR:=bU gR;have hne:(aQ S P++(List.range' 0 i).flatMap (cg (bz S P) es)).map W.tup≠[]:=by
     have:=fX.mp zrb _ (Cu sh.s1 sh.p1 sh.p4 sh.sp);simp only[p5,tG,vc,List.isEmpty_eq_false_iff]at this;rcases this with this|this
     exact absurd this (by show ¬aU S=0;lia);intro z;rw[List.map_eq_nil_iff,List.append_eq_nil_iff]at z;exact this z.1
    have hle:((aQ S P++(List.range' 0 i).flatMap (cg (bz S P) es)).map W.tup).length<=1000:=by
     rw[bx,fU];have:((List.range' 0 i).flatMap (cg (bz S P) es)).length=i*2:=by
      rw[List.length_flatMap];have:(List.range' 0 i).map (λg=>(cg (bz S P) es g).length)=bI i 2:=by apply List.ext_getElem?;intro j;rw[dS,De];by_cases q:j<i;rw[if_pos q,List.getElem?_range' q];rfl;rw[if_neg q,iL (by rw[xR];lia)];rfl
      rw[this,List.sum_replicate_nat]
     lia
    have nQ:aQ S P++(List.range' 0 (i+1)).flatMap (cg (bz S P) es)=(aQ S P++(List.range' 0 i).flatMap (cg (bz S P) es))++cg (bz S P) es i:=by rw[List.range'_concat,List.flatMap_append,<-ze];simp
    refine⟨.ref rs[i],cD m p (.int (bz S P)) (.int (aU S)) (.tup ((aQ S P++(List.range' 0 i).flatMap (cg (bz S P) es)).map .tup)) fd sv x7 D x9 R jE ic iy iz jR gB gC ja fR (aB (.ref rs[i])),cD m p (.int (bz S P)) (.int (aU S)) (.tup ((aQ S P++(List.range' 0 (i+1)).flatMap (cg (bz S P) es)).map .tup)) fd sv x7 D x9 R jE ic iy iz jR gB gC ja fR (aB (.ref rs[i])),h2,?_,rfl,?_,⟨_,rfl⟩,?_,?_,?_,?_⟩;rw[yS gR,hr];rfl;unfold EY;refine(bq (ρ':=cD m p (.int (bz S P)) (.int (aU S)) (.tup ((aQ S P++(List.range' 0 (i+1)).flatMap (cg (bz S P) es)).map .tup)) fd sv x7 D x9 R jE ic iy iz jR gB gC ja fR (aB (.ref rs[i]))) (h':=h2) ?_).trans (by rw[exs]);have et:ev (run F (k+2)) (.bi .tuple (.cons (.call 36 (.cons (.var 2) (.cons (.var 20) .nil))) .nil)) (cD m p (.int (bz S P)) (.int (aU S)) (.tup ((aQ S P++(List.range' 0 i).flatMap (cg (bz S P) es)).map .tup)) fd sv x7 D x9 R jE ic iy iz jR gB gC ja fR (aB (.ref rs[i]))) h1=.ok (.tup ((cg (bz S P) es i).map .tup)) h2:=
     tu (mJ (aE rfl) (aE rfl) e2) (om g2)
    rw[exs];show((ev (run F (k+2)) (.bi .tuple (.cons (.call 36 (.cons (.var 2) (.cons (.var 20) .nil))) .nil)) _ h1).bind _)=_;rw[et,aD,zuz hne (by rw[bx (as:=cg (bz S P) es i)];show _+2<=_;lia),aD,<-ig,<-nQ];rfl;refine⟨gJ w1.le n2,?_,λq hq=>?_⟩;have:=w1.lo;have:=st.ro _ hm;lia;rw[o2 q (di hq w1.le) (λz=>by have:=st.ro _ hm;lia),w1.get q hq];rw[o2 D hD (λz=>st.dn (by rw[z];exact hm))];exact gD;rw[o2 R hR (λz=>st.rn (by rw[z];exact hm))];exact gR;intro g r hg hgr;have gg:=gk g r (by lia) hgr;rw[o2 r (bU gg) (λz=>?_)];exact gg;obtain⟨q1,q2⟩:=i7.mp hgr;have:=(List.getElem_inj st.nd (h₀:=q1) (h₁:=show i<rs.length by lia)).mp (by rw[q2,z]);lia)
  (λρ h1 hI=>by rw[yS hI.2.2.2.1,iL (by lia)];rfl)
  (aU S) 0 fuel (cD m p (.int (bz S P)) (.int (aU S)) (.tup ((aQ S P).map .tup)) fd sv x7 D x9 R jE ic iy iz jR gB gC ja fR aC) h (jo _) (show _<1000000 by lia)
  ⟨⟨aC,by rw[show List.range' 0 0=[]from rfl,List.flatMap_nil,oA]⟩,I.gm,I.d,I.r,λg r _ e=>I.k g r e⟩
 obtain⟨⟨FO,rfl⟩,w2,gD,_,_⟩:=hI;exact⟨FO,h',(ez (aE rfl)).trans e1,w2,gD⟩
end
section
variable{F:Nat->Option Fn}(A:ia F)(C:oj F)(Y:g9 F)
include A C Y
theorem zfj{k S P:Nat}{h:VH}{M:List (List (Int×Int))}(sh:Shape S P)(mo:xy S P M):run F (k+6) 187 [mW M] h=.ok (.tup [(kR S P M).w,.tup ((bD S).map iW)]) h:=by
 have gV:=sh.gV;have s1:=sh.s1;have p1:=sh.p1;have p4:=sh.p4;have sp:=sh.sp;have wd:=sh.wd;have hG:=sW (S:=S);obtain⟨r0,M',rfl⟩:∃r M',M=r::M':=by
  cases M with|nil=>have:=mo.l;simp at this;lia|cons r M'=>exact⟨r,M',rfl⟩
 generalize hM:r0::M'=M at mo;have l0:r0.length=P:=mo.r r0 (hM▸fT);have lM:=mo.l;have i0:∀g:VH,cz g (mW M) (.int 0)=aB (bM r0):=λg=>by rw[<-hM];exact JM
 let k0:VH:=⟨h.n,h.n,h.os⟩
 have e69:=Z6 A C (k:=k) (h:=k0) sh mo;have e77:=Z1 A C (k:=k) (h:=k0) sh;obtain⟨ys,ρ',h',e1,hI⟩:=lR (nx:=aW .bR (.tup [.int S])) (tg:=bw (.one 0)) (e:=ev (run F (k+5)) IV) (n:=S)
  (I:=λi ρ h1 acc=>(∃x,ρ=[x,aB (.int (aU S))])/\h1=k0/\acc=((List.range i).map λ(s:Nat)=>aO s (aU S)).map iW)
  (λi ρ h1 acc hi hI=>by
    obtain⟨⟨x,rfl⟩,rfl,rfl⟩:=hI;refine⟨.int (i:Int),[aB (.int (i:Int)),aB (.int (aU S))],iW (aO i (aU S)),_,?_,rfl,mJ (aE rfl) (aE rfl) (ZG C (k:=k+4) (by lia)),⟨_,rfl⟩,rfl,?_⟩;rw[i9 (by lia),if_pos hi];rw[xV,ig,ig];rfl)
  (λρ h1 acc hI=>by rw[i9 (by lia),if_neg (fZ _)])
  (ρ:=[aC,aB (.int (aU S))]) (h:=k0) (by lia) ⟨⟨aC,rfl⟩,rfl,rfl⟩
 obtain⟨_,rfl,rfl⟩:=hI;let k1:=k0.new (.lst ((bD S).map iW));obtain⟨ys,ρ',h',e2,hI⟩:=lR (nx:=aW .bR (.tup [.int (bz S P)])) (tg:=bw (.one 0)) (e:=ev (run F (k+5)) IW) (n:=bz S P)
  (I:=λi ρ h1 acc=>(∃x,ρ=[x])/\h1=k1/\acc=bI i (W.tup [.int 0,.int 0]))
  (λi ρ h1 acc hi hI=>by
    obtain⟨⟨x,rfl⟩,rfl,rfl⟩:=hI;refine⟨.int (i:Int),[aB (.int (i:Int))],.tup [.int 0,.int 0],_,?_,rfl,aG,⟨_,rfl⟩,rfl,?_⟩;rw[i9 (by lia),if_pos hi];rw[<-List.replicate_succ'])
  (λρ h1 acc hI=>by rw[i9 (by lia),if_neg (fZ _)])
  (ρ:=[aC]) (h:=k1) (by lia) ⟨⟨aC,rfl⟩,rfl,rfl⟩
 obtain⟨_,rfl,rfl⟩:=hI;let k2:=k1.new (.lst (bI (bz S P) (W.tup [.int 0,.int 0])));obtain⟨ys,ρ',h',e3,hI⟩:=lR (nx:=aW .bR (.tup [.int (aU S)])) (tg:=bw (.one 0)) (e:=ev (run F (k+5)) EV) (n:=aU S)
  (I:=λi ρ h1 acc=>(∃x,ρ=[x])/\Gm k2 h1/\h1.n=k2.n+i/\acc=(List.range' k2.n i).map W.ref/\∀j,j<i->h1.get (k2.n+j)=aB (.dm []))
  (λi ρ h1 acc hi hI=>by
    obtain⟨⟨x,rfl⟩,w1,n1,rfl,g1⟩:=hI;refine⟨.int (i:Int),[aB (.int (i:Int))],.ref h1.n,h1.new (.dm []),?_,rfl,?_,⟨_,rfl⟩,w1.new,?_,?_,λj hj=>?_⟩;rw[i9 (by lia),if_pos hi];unfold EV;rw[ev,bG,aD];rfl;show h1.n+1=_;lia;rw[List.range'_concat,ig,n1,Nat.one_mul];rfl;by_cases q:j=i;subst q;rw[<-n1];exact dU;rw[iD (by lia)];exact g1 j (by lia))
  (λρ h1 acc hI=>by rw[i9 (by lia),if_neg (fZ _)])
  (ρ:=[aC]) (h:=k2) (by lia) ⟨⟨aC,rfl⟩,.refl,rfl,rfl,λj hj=>absurd hj (xY _)⟩
 obtain⟨_,w3,n3,rfl,g3⟩:=hI;let k3:=h'.new (.lst ((List.range' k2.n (aU S)).map W.ref));have hn2:k2.n=h.n+1+1:=rfl;have st:St k0 k1.n h'.n (List.range' k2.n (aU S)):=by have hk1:k1.n=h.n+1:=rfl;have hk0:k0.n=h.n:=rfl;refine⟨by lia,by lia,λx hx=>?_,by lia,λz=>?_,λz=>?_,List.nodup_range'⟩;have:=(Df.mp hx).1;lia;have:=(Df.mp z).1;lia;have:=(Df.mp z).2;lia
 have w02:Gm k0 k2:=(Gm.refl.new).new;have gD:k3.get k1.n=aB (.lst (bI (bz S P) (W.tup [.int 0,.int 0]))):=by rw[show k3.get k1.n=h'.get k1.n from iD (by have hk1:k1.n=h.n+1:=rfl;lia),w3.get k1.n (fY _)];exact dU (h:=k1)
 have I:EI k0 k1.n h'.n (List.range' k2.n (aU S)) (bz S P) [] k3:=by
  refine⟨(w02.trans w3).new,gD,dU,λg r e=>?_⟩;have hg:g<aU S:=by have:=(i7.mp e).1;rw[xR]at this;exact this
  rw[List.getElem?_range' hg]at e;cases e;rw[Nat.one_mul,show k3.get (k2.n+g)=h'.get (k2.n+g)from iD (by lia)];exact g3 g hg
 have hev:(bS S P 0 M).length<=400:=by rw[J' mo.r,lM];lia
 obtain⟨y7,y9,CN,CO,qx,qy,qz,nN,nO,nP,j6,k4,e4,I4⟩:=zma Y (k:=k+3) (fd:=.tup ((aX S P).map .int)) sh mo st (by rw[xR]) I;obtain⟨FO,k5,e5,w5,gD5⟩:=zu0 C (k:=k+3) (m:=mW M) (p:=(aT S P).w) (fd:=.tup ((aX S P).map .int)) (sv:=.tup ((bD S).map iW)) (x7:=y7) (x9:=y9) (jE:=CN) (ic:=CO) (iy:=qx) (iz:=qy) (jR:=qz) (gB:=nN) (gC:=nO) (ja:=nP) (fR:=j6) sh st (by rw[xR]) hev I4;have els:ev (run F (k+5)) (.lc .bR (.cons (.bi .len (.cons (.var 0) .nil)) .nil) (.one 0) 1 [3] (.cst (.bl true)) IV) [aB (mW M),aB (aT S P).w,aB (.int (bz S P)),aB (.int (aU S)),aB (.tup ((aQ S P).map .tup)),aB (.tup ((aX S P).map .int)),aC,aC,aC,aC,aC,aC,aC,aC,aC,aC,aC,aC,aC,aC,aC] k0=.ok (.ref k0.n) k1:=by
  have xD:ev (run F (k+5)) (.bi .len (.cons (.var 0) .nil)) [aB (mW M),aB (aT S P).w,aB (.int (bz S P)),aB (.int (aU S)),aB (.tup ((aQ S P).map .tup)),aB (.tup ((aX S P).map .int)),aC,aC,aC,aC,aC,aC,aC,aC,aC,aC,aC,aC,aC,aC,aC] k0=.ok (.int S) k0:=
   dN (ws:=M.map bM) (aE (x:=mW M) rfl) rfl |>.trans (by rw[bx,lM])
  rw[ev,aN xD bG,aD,xh];show((gF _ _ _ _ fuel 0 [aC,aB (.int (aU S))] k0 []).bind _)=_;rw[e1,aD,if_pos (nJ (by rw[bx,bx,nT];lia))];rfl
 have eld:ev (run F (k+5)) (.lc .bR (.cons (.var 2) .nil) (.one 0) 1 [] (.cst (.bl true)) IW) [aB (mW M),aB (aT S P).w,aB (.int (bz S P)),aB (.int (aU S)),aB (.tup ((aQ S P).map .tup)),aB (.tup ((aX S P).map .int)),aB (.tup ((bD S).map iW)),aC,aC,aC,aC,aC,aC,aC,aC,aC,aC,aC,aC,aC,aC] k1=.ok (.ref k1.n) k2:=by rw[ev,aN (aE (x:=.int (bz S P)) rfl) bG,aD,xh];show((gF _ _ _ _ fuel 0 [aC] k1 []).bind _)=_;rw[e2,aD,if_pos (nJ (by rw[tK];lia))]
 have elr:ev (run F (k+5)) (.lc .bR (.cons (.var 3) .nil) (.one 0) 1 [] (.cst (.bl true)) EV) [aB (mW M),aB (aT S P).w,aB (.int (bz S P)),aB (.int (aU S)),aB (.tup ((aQ S P).map .tup)),aB (.tup ((aX S P).map .int)),aB (.tup ((bD S).map iW)),aC,aB (.ref k1.n),aC,aC,aC,aC,aC,aC,aC,aC,aC,aC,aC,aC] k2=.ok (.ref h'.n) k3:=by rw[ev,aN (aE (x:=.int (aU S)) rfl) bG,aD,xh];show((gF _ _ _ _ fuel 0 [aC] k2 []).bind _)=_;rw[e3,aD,if_pos (nJ (by rw[bx,xR];lia))]
 have eb:exs (run F (k+5)) mD.body [aB (mW M),aC,aC,aC,aC,aC,aC,aC,aC,aC,aC,aC,aC,aC,aC,aC,aC,aC,aC,aC,aC] ⟨h.n,h.n,h.os⟩=.ok (.rt (.tup [(kR S P M).w,.tup ((bD S).map iW)])) k5:=by
  refine(bq (ρ':=[aB (mW M),aC,aC,aC,aC,aC,aC,aC,aC,aC,aC,aC,aC,aC,aC,aC,aC,aC,aC,aC,aC]) (h':=k0) ?_).trans ?_;rw[exs,pU (sZ (aE rfl) e69),aD];show exs _ .skip _ _=_;rw[exs];refine(bq (bX (x:=(aT S P).w) (h1:=k0) (mJ (x:=.int S) (y:=.int P) (h1:=k0) (h2:=k0) ?_ ?_ e77))).trans ?_;exact dN (ws:=M.map bM) (aE (x:=mW M) rfl) rfl |>.trans (by rw[bx,lM])
  exact dN (ws:=r0.map bT) (dM (aE (x:=mW M) rfl) aG (i0 _)) rfl |>.trans (by rw[bx,l0])
  refine(bq (ρ':=[aB (mW M),aB (aT S P).w,aB (.int (bz S P)),aB (.int (aU S)),aB (.tup ((aQ S P).map .tup)),aB (.tup ((aX S P).map .int)),aC,aC,aC,aC,aC,aC,aC,aC,aC,aC,aC,aC,aC,aC,aC]) (h':=k0) ?_).trans ?_;have JS:ev (run F (k+5)) (.slc (.var 1) false (.cst .aP) true (.cst (.int (4)))) [aB (mW M),aB (aT S P).w,aC,aC,aC,aC,aC,aC,aC,aC,aC,aC,aC,aC,aC,aC,aC,aC,aC,aC,aC] k0=.ok (.tup [.int (bz S P),.int (aU S),.tup ((aQ S P).map .tup),.tup ((aX S P).map .int)]) k0:=by rw[ev,aE (x:=(aT S P).w) rfl,aD,aG,aD,aG,aD];rfl
  show exs (run F (k+5)) (.yu [2,3,4,5] _) [aB (mW M),aB (aT S P).w,aC,aC,aC,aC,aC,aC,aC,aC,aC,aC,aC,aC,aC,aC,aC,aC,aC,aC,aC] k0=_;rw[exs,JS,aD];rfl;refine(bq (bX (x:=.tup ((bD S).map iW)) (h1:=k1) (tu (x:=.ref k0.n) (h1:=k1) els (om dU)))).trans ?_;refine(bq (bX (x:=.ref k1.n) (h1:=k2) eld)).trans ?_;refine(bq (bX (x:=.ref h'.n) (h1:=k3) elr)).trans ?_;refine(bq e4).trans ?_;refine(bq e5).trans ?_;refine jB (dZ (jD (uQ (aE rfl) (aE rfl) (aE rfl) (aE rfl) (tu (aE rfl) (om gD5))) (aE rfl)))
 have ok:=Qg sh mo;have pv:Pv (.tup [(kR S P M).w,.tup ((bD S).map iW)]):=by
  refine Pv.tup λw hw=>?_;rcases gH.mp hw with rfl|hw
  refine Pv.tup λw hw=>?_;simp only[gH,Di,or_false]at hw;rcases hw with rfl|rfl|rfl|rfl|rfl
  exact Pv.int;exact Pv.int;refine Pv.tup λw hw=>?_;obtain⟨r,hr,rfl⟩:=iH.mp hw;exact zrd (Qc sh ok r hr).2;refine Pv.tup λw hw=>?_;obtain⟨r,hr,rfl⟩:=iH.mp hw;exact Pv.int;refine Pv.tup λw hw=>?_;have:∀(es:List Ev)(d:List W),(∀w∈d,Pv w)->∀w∈es.foldl cZ d,Pv w:=by
   intro es;induction es with
   |nil=>intro d h;exact h
   |cons e r ih=>
    intro d h;rw[lU];refine ih _ λw hw=>?_;rcases Dd hw with hw|rfl
    exact h w hw;exact FL (x:=(e.n,0))
  exact this _ _ (λw hw=>by rw[za hw];exact FL (x:=(0,0))) w hw;rw[mS.mp hw];refine Pv.tup λw hw=>?_;obtain⟨r,hr,rfl⟩:=iH.mp hw;refine Pv.tup λw hw=>?_;obtain⟨r,hr,rfl⟩:=iH.mp hw;exact Pv.int
 rw[dW C.JP rfl];show fin h (exs (run F (k+5)) mD.body [aB (mW M),aC,aC,aC,aC,aC,aC,aC,aC,aC,aC,aC,aC,aC,aC,aC,aC,aC,aC,aC,aC] ⟨h.n,h.n,h.os⟩)=_;rw[eb];exact xB pv w5
end
noncomputable def kT(x:Nat×Nat):W:=.tup [.int x.1,.int x.2]
noncomputable def bV(i:Nat):List (Nat×Nat):=((List.range 4).filter λp=>decide ((i+1)* (p+1)<=16)).map λp=>(i+1,p+1)
theorem zmb:lP=(List.range 16).flatMap bV:=rfl
theorem zpd:(lP.all λx=>decide (1<=x.1)&&decide (1<=x.2)&&decide (x.2<=4)&&decide (x.1*x.2<=16))=true:=by decide +kernel
theorem QT:lP.length=33:=by decide +kernel
theorem zre{x:Nat×Nat}(h:x∈lP):Shape x.1 x.2:=by have:=fX.mp zpd x h;simp only[bJ,fS]at this;exact⟨this.1.1.1,this.1.1.2,this.1.2,this.2⟩
theorem QU{h h':VH}{w:W}:∃h2,fin h (.ok (.rt w) h')=.ok w h2:=by show ∃h2,leave h w h'=.ok w h2;unfold leave;split<;>exact⟨_,rfl⟩
theorem zrf{cl:Call}{ρ:En}{h:VH}{i:Nat}(hi:i<16)(nK:inner 1 [2] ρ=[aC,aB (.int (1+ (i:Int)))]) :
 ev cl (.lc .gQ (.cons (.cst (.int (1))) (.cons (.cst (.int (5))) .nil)) (.one 0) 1 [2] ET IS) ρ h=.ok (.ref h.n) (h.new (.lst ((bV i).map kT))):=by
 have nx:∀j,aW .gQ (.tup [.int 1,.int 5]) j h=aB (((List.range 4).map λ(p:Nat)=>W.int (1+ (p:Int)))[j]?):=λj=>by
  rw[CG (by decide) (by decide),dS];by_cases q:j<4;rw[if_pos (by show j<4;exact q),xQ q];rfl;rw[if_neg (by show ¬j<4;exact q),iL (by rw[nT];lia)];rfl
 have Kh:∀p:Nat,p<4->ev cl (.op .mul (.var 1) (.var 0)) [aB (.int (1+ (p:Int))),aB (.int (1+ (i:Int)))] h=.ok (.int ((1+ (i:Int))* (1+ (p:Int)))) h:=λp hp=>
  fk (aE rfl) (aE rfl) (lT (.inl (by rw[show(1:Int)+i=((1+i:Nat):Int) by push_cast;rfl];exact FI (by lia))))
 have e:=JW (nx:=aW .gQ (.tup [.int 1,.int 5])) (c:=ev cl ET) (e:=ev cl IS) (h:=h) (ws:=(List.range 4).map λ(p:Nat)=>W.int (1+ (p:Int))) (tl:=[aB (.int (1+ (i:Int)))])
  (p:=λw=>match w with|.int p=>decide ((1+ (i:Int))*p<=16)|_=>false) (f:=λw=>.tup [.int (1+ (i:Int)),w]) nx
  (λw hw=>by
    obtain⟨p,hp,rfl⟩:=iH.mp hw;unfold ET;rw[ev,Kh p (lV.mp hp),aD,aG,aD];rfl)
  (λw hw=>by
    exact jD (aE rfl) (aE rfl)) fuel 0 aC [] (j8 _) (by rw[bx,nT];decide)
 rw[ev,aN aG (aN aG bG),aD,nK];rw[e,aD];have nQ:([]:List W).reverse++((((List.range 4).map λ(p:Nat)=>W.int (1+ (p:Int))).drop 0).filter (λw=>match w with
  |.int p=>decide ((1+ (i:Int))*p<=16)
  |_=>false)).map (λw=>W.tup [.int (1+ (i:Int)),w])=(bV i).map kT:=by
  rw[List.reverse_nil,xU,List.drop_zero,List.filter_map,Dl];unfold bV;rw[Dl];have hf:(List.range 4).filter ((λw=>match w with
   |W.int p=>decide ((1+ (i:Int))*p<=16)
   |_=>false)∘λ(p:Nat)=>W.int (1+ (p:Int)))=(List.range 4).filter λp=>decide ((i+1)* (p+1)<=16):=by
   refine List.filter_congr λp _=>?_;show decide ((1+ (i:Int))* (1+ (p:Int))<=16)=decide ((i+1)* (p+1)<=16);rw[show(1+ (i:Int))* (1+ (p:Int))=(((i+1)* (p+1):Nat):Int) by push_cast;rw[zm 1 (i:Int),zm 1 (p:Int)]];exact decide_eq_decide.mpr (by lia)
  rw[hf];refine List.map_congr_left λp _=>?_;show W.tup [.int (1+ (i:Int)),.int (1+ (p:Int))]=W.tup [.int ((i+1:Nat):Int),.int ((p+1:Nat):Int)]
  push_cast;rw[zm 1 (i:Int),zm 1 (p:Int)]
 rw[nQ,if_pos (nJ ?_)];unfold bV;rw[bx,bx];refine gJ (List.length_filter_le _ _) ?_;rw[nT];decide
theorem CP(n:Nat):(bV n).length<=4:=by unfold bV;rw[bx];refine gJ (List.length_filter_le _ _) ?_;rw[nT];exact aZ _
theorem QV:∀i,((List.range i).map λj=>(bV j).length).sum<=i*4
 |0=>aZ _
 |n+1=>by
  have ih:=QV n;have:=CP n;rw[xV,ig,List.sum_append];simp;lia
theorem Kl{xs ys:List W}{h:VH}{i j:Nat}(gi:h.get i=aB (.lst xs))(gj:h.get j=aB (.lst ys))(hl:xs.length+ys.length<=1000000):iA .add (.ref i) (.ref j) h=.ok (.ref h.n) (h.new (.lst (xs++ys))):=by simp only[iA,gi,gj,AW];rw[if_pos (nJ hl)]
theorem mL{h:VH}{d c b:Nat}(D:Dk h d c b):d<h.n/\c<h.n:=by obtain⟨_,ns,cells,p,q,a1,a2,_⟩:=D;exact⟨bU a1,bU a2⟩
theorem zyv{h:VH}{d c b:Nat}{x:Nat}{o:VO}(D:Dk h d c b)(hx:x<h.n)(h1:x≠d)(h2:x≠c):Dk (h.set x o) d c b:=by obtain⟨ne,ns,cells,p,q,a1,a2,a3⟩:=D;exact⟨ne,ns,cells,p,q,by rw[nZ hx (eV h1)];exact a1,by rw[nZ hx (eV h2)];exact a2,a3⟩
section
variable{F:Nat->Option Fn}(T:mF F)(tw:F 113=aB mz)
theorem zjq{cl:Call}{d c b:Nat}{h:VH}(D:Dk h d c b):∃a x2 h',exs cl (.«for» .gQ (.cons (.cst (.int (1))) (.cons (.cst (.int (17))) .nil)) (.one 2) EU) [aB (.ref d),aB (.ref h.n),aC,aC,aC,aC,aC] (h.new (.lst []))=.ok (.nx [aB (.ref d),aB (.ref a),x2,aC,aC,aC,aC]) h'/\h'.get a=aB (.lst (lP.map kT))/\a≠d/\a≠c/\Dk h' d c b:=by
 obtain⟨l1,l2⟩:=mL D;obtain⟨ρ',h',e1,hI⟩:=nM (nx:=aW .gQ (.tup [.int 1,.int 17])) (tg:=bw (.one 2)) (b:=exs cl EU) (n:=16)
  (I:=λi ρ h1=>∃a x2,ρ=[aB (.ref d),aB (.ref a),x2,aC,aC,aC,aC]/\h1.get a=aB (.lst (((List.range i).flatMap bV).map kT))/\a≠d/\a≠c/\Dk h1 d c b)
  (λi ρ h1 hi hI=>by
    obtain⟨a,x2,rfl,g1,n1,n2,D1⟩:=hI;obtain⟨m1,m2⟩:=mL D1;let h2:=h1.new (.lst ((bV i).map kT));have g2:h2.get a=aB (.lst (((List.range i).flatMap bV).map kT)):=by rw[show h2.get a=h1.get a from iD (bU g1)];exact g1
    have g3:h2.get h1.n=aB (.lst ((bV i).map kT)):=dU;have hle:(((List.range i).flatMap bV).map kT).length<=500:=by rw[bx,List.length_flatMap];have:=QV i;lia
    have hle2:((bV i).map kT).length<=4:=by unfold bV;rw[bx,bx];refine gJ (List.length_filter_le _ _) ?_;rw[nT];exact aZ _
    refine⟨.int (1+ (i:Int)),[aB (.ref d),aB (.ref a),aB (.int (1+ (i:Int))),aC,aC,aC,aC],[aB (.ref d),aB (.ref h2.n),aB (.int (1+ (i:Int))),aC,aC,aC,aC],h2.new (.lst (((List.range (i+1)).flatMap bV).map kT)),?_,rfl,?_,⟨h2.n,_,rfl,dU,?_,?_,D1.new.new⟩⟩;rw[CG (by decide) (by decide),if_pos (by show i<16;exact hi)];unfold EU;refine(bq (bX (x:=.ref h2.n) (h1:=h2.new (.lst (((List.range (i+1)).flatMap bV).map kT))) (fk (aE (x:=.ref a) rfl) (zrf hi rfl) ?_))).trans (by rw[exs];rfl);have nQ:((List.range (i+1)).flatMap bV).map kT=((List.range i).flatMap bV).map kT++(bV i).map kT:=by rw[xV,List.flatMap_append,ig];simp
    rw[nQ];exact Kl g2 g3 (by lia);show h1.n+1≠d;lia;show h1.n+1≠c;lia)
  (λρ h1 hI=>by rw[CG (by decide) (by decide),if_neg (by show ¬16<16;lia)])
  16 0 fuel [aB (.ref d),aB (.ref h.n),aC,aC,aC,aC,aC] (h.new (.lst [])) (jo _) (by decide) ⟨h.n,aC,rfl,dU,by lia,by lia,D.new⟩
 obtain⟨a,x2,rfl,g,n1,n2,D2⟩:=hI;rw[<-zmb]at g;exact⟨a,x2,h',(ez (aN aG (aN aG bG))).trans e1,g,n1,n2,D2⟩
include T tw
theorem zhl{k d c b:Nat}{h:VH}(D:Dk h d c b)(hb:b<1000):∃S P M h',run F (k+4) 113 [.ref d] h=.ok (mW M) h'/\Shape S P/\xy S P M:=by
 have D0:Dk ⟨h.n,h.n,h.os⟩ d c b:=D.lo;obtain⟨a,x2,h1,e1,ga,na,nc,D1⟩:=zjq (cl:=run F (k+3)) D0;obtain⟨r,h2,e2,r0,r1,D2,K2⟩:=take T (k:=k) (m:=33) D1 (by lia) (by decide) (by decide);have ga2:h2.get a=aB (.lst (lP.map kT)):=K2.get a _ na nc ga;obtain⟨rn,rfl⟩:∃n:Nat,r=n:=⟨r.toNat,by lia⟩
 have hrn:rn<lP.length:=by rw[QT];lia
 obtain⟨⟨S,P⟩,hx⟩:∃x,lP[rn]?=aB x:=⟨_,dh hrn⟩
 have sh:Shape S P:=zre (mR hx);have gV:=sh.gV;have s1:=sh.s1;have p1:=sh.p1;have p4:=sh.p4;let h2':=h2.new (.lst [.int 2,.int 3,.int 100]);obtain⟨r',h3,e3,q0,q1,D3,K3⟩:=take T (k:=k) (m:=3) (h:=h2') D2.new (by lia) (by decide) (by decide);obtain⟨l1,l2⟩:=mL D2;have gn:h3.get h2.n=aB (.lst [.int 2,.int 3,.int 100]):=K3.get h2.n _ (by lia) (by lia) dU;obtain⟨nm,en,n0,n1⟩:∃nm:Int,cz h3 (.ref h2.n) (.int r')=aB (.int nm)/\1<=nm/\nm<=100:=by
  simp only[cz,gn];have:r'=0\/r'=1\/r'=2:=by lia
  rcases this with rfl|rfl|rfl;exact⟨2,rfl,by decide,by decide⟩;exact⟨3,rfl,by decide,by decide⟩;exact⟨100,rfl,by decide,by decide⟩
 obtain⟨l3,l4⟩:=mL D3;obtain⟨Ex,h4,e4,hI⟩:=nM (nx:=aW .bR (.tup [.int S])) (tg:=bw (.one 6)) (b:=exs (run F (k+3)) IU) (n:=S)
  (I:=λi ρ h'=>∃x6 Mi,ρ=[aB (.ref d),aB (.ref a),aB (.int S),aB (.int P),aB (.int nm),aB (.ref h3.n),x6]/\h'.get h3.n=aB (.lst (Mi.map bM))/\Mi.length=i/\(∀row∈Mi,row.length=P/\∀x∈row,0<=x.1/\x.1<=99/\0<=x.2/\x.2< (S:Int))/\Dk h' d c (b+2+8*i))
  (λi ρ h' hi hI=>by
    obtain⟨x6,Mi,rfl,g1,li,ok,D4⟩:=hI;obtain⟨ys,jN,h5,e5,hI5⟩:=lR (nx:=aW .bR (.tup [.int P])) (tg:=bw (.one 0)) (e:=ev (run F (k+3)) IT) (n:=P)
     (I:=λj ρ h5 acc=>∃x row,ρ=[x,aB (.ref d),aB (.int nm),aB (.int S)]/\acc=row.map bT/\row.length=j/\(∀x∈row,0<=x.1/\x.1<=99/\0<=x.2/\x.2< (S:Int))/\h5.get h3.n=aB (.lst (Mi.map bM))/\Dk h5 d c (b+2+8*i+2*j))
     (λj ρ h5 acc hj hI=>by
       obtain⟨x,row,rfl,rfl,lj,Km,g5,D5⟩:=hI;obtain⟨u,h6,e6,u0,u1,D6,K6⟩:=take T (k:=k) (m:=nm) (h:=h5) D5 (by lia) (by lia) (by lia);obtain⟨v,h7,e7,v0,v1,D7,K7⟩:=take T (k:=k) (m:=(S:Int)) (h:=h6) D6 (by lia) (by lia) (by lia);refine⟨.int (j:Int),[aB (.int (j:Int)),aB (.ref d),aB (.int nm),aB (.int S)],bT (u,v),h7,?_,rfl,jD (mJ (aE rfl) (aE rfl) e6) (mJ (aE rfl) (aE rfl) e7),_,row++[(u,v)],rfl,by rw[ig];rfl,by rw[fU,lj];rfl,λy hy=>?_,K7.get _ _ (by lia) (by lia) (K6.get _ _ (by lia) (by lia) g5),?_⟩;rw[i9 (by lia),if_pos hj];rcases uZ.mp hy with hy|hy;exact Km y hy;rw[mS.mp hy];exact⟨u0,by show u<=99;lia,v0,v1⟩;exact D7.mono (by lia))
     (λρ h5 acc hI=>by rw[i9 (by lia),if_neg (fZ _)])
     (ρ:=[aC,aB (.ref d),aB (.int nm),aB (.int S)]) (h:=h') (by lia) ⟨aC,[],rfl,rfl,rfl,λ_ h=>(by cases h),g1,D4.mono (by lia)⟩
    obtain⟨_,row,rfl,rfl,lr,Km,g5,D5⟩:=hI5;let h6:=h5.new (.lst (row.map bT));have g6:h6.get h3.n=aB (.lst (Mi.map bM)):=by rw[show h6.get h3.n=h5.get h3.n from iD (bU g5)];exact g5
    refine⟨.int (i:Int),[aB (.ref d),aB (.ref a),aB (.int S),aB (.int P),aB (.int nm),aB (.ref h3.n),aB (.int (i:Int))],[aB (.ref d),aB (.ref a),aB (.int S),aB (.int P),aB (.int nm),aB (.ref h3.n),aB (.int (i:Int))],h6.set h3.n (.lst ((Mi++[row]).map bM)),?_,rfl,?_,_,Mi++[row],rfl,pP g6,by rw[fU,li];rfl,λy hy=>?_,?_⟩;rw[i9 (by lia),if_pos hi];unfold IU;refine(bq (ρ':=[aB (.ref d),aB (.ref a),aB (.int S),aB (.int P),aB (.int nm),aB (.ref h3.n),aB (.int (i:Int))]) (h':=h6.set h3.n (.lst ((Mi++[row]).map bM))) ?_).trans (by rw[exs]);have elc:ev (run F (k+3)) (.lc .bR (.cons (.var 3) .nil) (.one 0) 1 [0,4,2] (.cst (.bl true)) IT) [aB (.ref d),aB (.ref a),aB (.int S),aB (.int P),aB (.int nm),aB (.ref h3.n),aB (.int (i:Int))] h'=.ok (.ref h5.n) h6:=by rw[ev,aN (aE (x:=.int P) rfl) bG,aD,xh];show((gF _ _ _ _ fuel 0 [aC,aB (.ref d),aB (.int nm),aB (.int S)] h' []).bind _)=_;rw[e5,aD,if_pos (nJ (by rw[bx];lia))]
    have hk:kI .append h' (.ref h3.n)=true:=by simp only[kI,g1]
    rw[exs,ev,aE (x:=.ref h3.n) rfl,aD,if_pos hk,aN (tu elc (om dU)) bG,aD];show((jW .append (.ref h3.n) [.tup (row.map bT)] h6).bind _)=_;simp only[jW,g6];rw[if_pos (xj (by rw[bx];lia)),aD,ig];rfl;rcases uZ.mp hy with hy|hy
    exact ok y hy;rw[mS.mp hy];exact⟨lr,Km⟩;exact(zyv D5.new (bU g6) (by lia) (by lia)).mono (by lia))
  (λρ h' hI=>by rw[i9 (by lia),if_neg (fZ _)])
  S 0 fuel [aB (.ref d),aB (.ref a),aB (.int S),aB (.int P),aB (.int nm),aB (.ref h3.n),aC] (h3.new (.lst [])) (jo _) (show _<1000000 by lia) ⟨aC,[],rfl,dU,rfl,λ_ h=>(by cases h),D3.new.mono (by lia)⟩
 obtain⟨x6,M,rfl,gM,lM,FG,D4⟩:=hI;have eb:exs (run F (k+3)) mz.body [aB (.ref d),aC,aC,aC,aC,aC,aC] ⟨h.n,h.n,h.os⟩=.ok (.rt (mW M)) h4:=by
  refine(bq (bX (x:=.ref h.n) (h1:=VH.new ⟨h.n,h.n,h.os⟩ (.lst [])) (fJ bG rfl))).trans ?_;refine(bq e1).trans ?_;refine(bq (ρ':=[aB (.ref d),aB (.ref a),aB (.int S),aB (.int P),aC,aC,aC]) (h':=h2) ?_).trans ?_;have xD:ev (run F (k+3)) (.bi .len (.cons (.var 1) .nil)) [aB (.ref d),aB (.ref a),x2,aC,aC,aC,aC] h1=.ok (.int 33) h1:=
   dN (ws:=lP.map kT) (aE (x:=.ref a) rfl) (om ga) |>.trans (by rw[bx,QT];rfl)
  have Ko:ev (run F (k+3)) (.idx (.var 1) (.call 5 (.cons (.var 0) (.cons (.bi .len (.cons (.var 1) .nil)) .nil)))) [aB (.ref d),aB (.ref a),x2,aC,aC,aC,aC] h1=.ok (kT (S,P)) h2:=by refine dM (aE (x:=.ref a) rfl) (mJ (aE (x:=.ref d) rfl) xD e2) ?_;simp only[cz,ga2];exact nX (by rw[dS,hx];rfl)
  rw[exs,Ko,aD];rfl;refine(bq (bX (x:=.int nm) (h1:=h3) (dM (x:=.ref h2.n) (y:=.int r') (fJ (aN aG (aN aG (aN aG bG))) rfl) (mJ (aE (x:=.ref d) rfl) aG e3) en))).trans ?_;refine(bq (bX (x:=.ref h3.n) (h1:=h3.new (.lst [])) (fJ bG rfl))).trans ?_;refine(bq ((ez (aN (aE (x:=.int S) rfl) bG)).trans e4)).trans ?_;exact jB (dZ (tu (aE rfl) (om gM)))
 rw[dW tw rfl];obtain⟨h5,e5⟩:=QU (h:=h) (h':=h4) (w:=mW M);refine⟨S,P,M,h5,?_,sh,lM,λrow hr=>(FG row hr).1,λrow hr=>(FG row hr).2⟩;rw[<-e5];exact nR (fin h) eb
end
theorem j7{cl:Call}{c:E}{b:S}{ρ:En}{h h1:VH}(e:ev cl c ρ h=.ok (.bl false) h1):exs cl (.ite c b .skip) ρ h=.ok (.nx ρ) h1:=by rw[exs,e,aD];show exs _ .skip _ _=_;rw[exs]
theorem jS{cl:Call}{a b:E}{ρ:En}{h h1:VH}(ea:ev cl a ρ h=.ok (.bl false) h1):ev cl (.or a b) ρ h=ev cl b ρ h1:=by rw[ev,ea,aD]
theorem QW{cl:Call}{a b:E}{ρ:En}{h h1:VH}(ea:ev cl a ρ h=.ok (.bl true) h1):ev cl (.and a b) ρ h=ev cl b ρ h1:=by rw[ev,ea,aD]
theorem anF{cl:Call}{a b:E}{ρ:En}{h h1:VH}(ea:ev cl a ρ h=.ok (.bl false) h1):ev cl (.and a b) ρ h=.ok (.bl false) h1:=by rw[ev,ea,aD]
theorem jF{cl:Call}{c:Cp}{a b:E}{ρ:En}{h h1 h2:VH}{x y:W}{r:Bool}(ea:ev cl a ρ h=.ok x h1)(eb:ev cl b ρ h1=.ok y h2)(e:bE c h2 x y=aB r):ev cl (.cmp c a b) ρ h=.ok (.bl r) h2:=by rw[ev,ea,aD,eb,aD,e];rfl
theorem tB{cl:Call}{a:E}{ρ:En}{h h1:VH}{ws:List W}(ea:ev cl a ρ h=.ok (.tup ws) h1):ev cl (.not (.k9 (.oS .tuple a))) ρ h=.ok (.bl false) h1:=by refine pU (b:=true) ?_;rw[ev,ea,aD];rfl
theorem pV{cl:Call}{a b:E}{ρ:En}{h h1 h2:VH}{i:Int}(ea:ev cl a ρ h=.ok (.int i) h1)(eb:ev cl b ρ h1=.ok (.int i) h2):ev cl (.cmp .ne a b) ρ h=.ok (.bl false) h2:=by refine jF ea eb ?_;simp only[bE,zdt,decide_true];rfl
theorem yT{x:Str}(hx:PyData.strOk x):SeqAt.shaped (.str x)=true:=by unfold SeqAt.shaped;show(PyData.strOk x&&_)=true;rw[hx];rfl
theorem Kp{h:VH}{x a b c d e:Str}(hx:PyData.strOk x)(ha:PyData.strOk a)(hb:PyData.strOk b)(hc:PyData.strOk c)(hd:PyData.strOk d)(he:PyData.strOk e):ua h (.str x) (.tup [.str a,.str b,.str c,.str d,.str e])=aB (a==x|| (b==x|| (c==x|| (d==x||e==x)))):=by simp[ua,aR,toD,aY,yT hx,yT ha,yT hb,yT hc,yT hd,yT he,gv,PyData.eqv]
section
variable{F:Nat->Option Fn}(eu:F 102=aB kN)(jT:F 155=aB iV)(tD:F 149=aB jA)
include eu
theorem mO{k:Nat}{h:VH}{i lo hi:Int}(h1:lo<=i)(h2:i<=hi):run F (k+1) 102 [.int i,.int lo,.int hi] h=.ok (.bl true) h:=by rw[dW eu rfl];simp[kN,exs,ev,dF,bE,gS,h1,h2]
theorem yU{k:Nat}{ρ:En}{h:VH}{a b c:E}{i lo hi:Int}(ea:ev (run F (k+1)) a ρ h=.ok (.int i) h)(eb:ev (run F (k+1)) b ρ h=.ok (.int lo) h)(ec:ev (run F (k+1)) c ρ h=.ok (.int hi) h)(h1:lo<=i)(h2:i<=hi) :
 ev (run F (k+1)) (.not (.k9 (.call 102 (.cons a (.cons b (.cons c .nil)))))) ρ h=.ok (.bl false) h:=pU (b:=true) (nL ea eb ec (mO eu h1 h2))
include jT
theorem zu1{k:Nat}{h:VH}{w:W}{c wd g:Int}(m:jk w c wd g):run F (k+2) 155 [w,.int c,.int wd,.int g] h=.ok (.bl true) h:=by
 rw[dW jT rfl];have st:∀x:Str,(x=sX/\0<c/\c<wd-1)\/(x=fP/\0<c)\/(x=jZ/\c<wd-1)\/x=dP\/x=sS->exs (run F (k+1)) iV.body [aB (.str x),aB (.int c),aB (.int wd),aB (.int g)] ⟨h.n,h.n,h.os⟩=.ok (.rt (.bl true)) ⟨h.n,h.n,h.os⟩:=λx hx=>by
  have hin:∀h0:VH,ua h0 (.str x) (.tup [.str (bN "."),.str (bN "<"),.str (bN ">"),.str (bN "x"),.str (bN "s")])=aB true:=λh0=>by
   rw[Kp (by rcases hx with⟨rfl,_⟩|⟨rfl,_⟩|⟨rfl,_⟩|rfl|rfl<;>decide +kernel) (by decide +kernel) (by decide +kernel) (by decide +kernel) (by decide +kernel) (by decide +kernel)];rcases hx with⟨rfl,_⟩|⟨rfl,_⟩|⟨rfl,_⟩|rfl|rfl<;>decide +kernel
  have q1:∀h0:VH,dD h0 (.str x) (.str (bN "."))=aB (x==dP):=λh0=>pN (by rcases hx with⟨rfl,_⟩|⟨rfl,_⟩|⟨rfl,_⟩|rfl|rfl<;>decide +kernel) (by decide +kernel);have q2:∀h0:VH,dD h0 (.str x) (.str (bN "s"))=aB (x==sS):=λh0=>pN (by rcases hx with⟨rfl,_⟩|⟨rfl,_⟩|⟨rfl,_⟩|rfl|rfl<;>decide +kernel) (by decide +kernel);have q3:∀h0:VH,dD h0 (.str x) (.str (bN "<"))=aB (x==fP):=λh0=>pN (by rcases hx with⟨rfl,_⟩|⟨rfl,_⟩|⟨rfl,_⟩|rfl|rfl<;>decide +kernel) (by decide +kernel);have q4:∀h0:VH,dD h0 (.str x) (.str (bN ">"))=aB (x==jZ):=λh0=>pN (by rcases hx with⟨rfl,_⟩|⟨rfl,_⟩|⟨rfl,_⟩|rfl|rfl<;>decide +kernel) (by decide +kernel);have z:(x==dP||x==sS)=true\/((x==dP||x==sS)=false/\((decide (0<c)||x==jZ)&& (decide (c<wd-1)||x==fP))):=by rcases hx with⟨rfl,a,b⟩|⟨rfl,a⟩|⟨rfl,a⟩|rfl|rfl;exact .inr ⟨by decide +kernel,by simp[a,b]⟩;exact .inr ⟨by decide +kernel,by simp[a]⟩;exact .inr ⟨by decide +kernel,by simp[a]⟩;exact .inl (by decide +kernel);exact .inl (by decide +kernel)
  generalize hb1:(x==dP)=b1 at q1 z;generalize hb2:(x==sS)=b2 at q2 z;generalize NP:(x==fP)=b3 at q3 z;generalize hb4:(x==jZ)=b4 at q4 z;refine(bq (ρ':=[aB (.str x),aB (.int c),aB (.int wd),aB (.int g)]) (h':=⟨h.n,h.n,h.os⟩) ?_).trans ?_;have e1:ev (run F (k+1)) (.k9 (.oS .tuple (.var 0))) [aB (.str x),aB (.int c),aB (.int wd),aB (.int g)] ⟨h.n,h.n,h.os⟩=.ok (.bl false) ⟨h.n,h.n,h.os⟩:=by rw[ev,ev,aE (x:=.str x) rfl,aD];rfl
  show exs (run F (k+1)) (.ite _ _ _) _ _=_;rw[exs,e1,aD];show exs (run F (k+1)) (.seq _ _) _ _=_;refine(bq (j7 ?_)).trans (by rw[exs]);refine(jS (h1:=⟨h.n,h.n,h.os⟩) (pU (b:=true) ?_)).trans ?_;rw[ev,aE (x:=.str x) rfl,aD];rfl;refine jF (x:=.str x) (aE rfl) (CB (aN aG (aN aG (aN aG (aN aG (aN aG bG))))) rfl) ?_;simp only[bE,hin];rfl;have c1:ev (run F (k+1)) (.or (.cmp .eq (.var 0) (.cst (.str (bN ".")))) (.cmp .eq (.var 0) (.cst (.str (bN "s"))))) [aB (.str x),aB (.int c),aB (.int wd),aB (.int g)] ⟨h.n,h.n,h.os⟩=.ok (.bl (b1||b2)) ⟨h.n,h.n,h.os⟩:=
   xg (jF (aE (x:=.str x) rfl) aG (q1 ⟨h.n,h.n,h.os⟩)) (jF (aE (x:=.str x) rfl) aG (q2 ⟨h.n,h.n,h.os⟩))
  rcases z with z|⟨z,z2⟩;rw[z]at c1;refine jB ?_;rw[exs,c1,aD];exact jB (dZ aG);rw[z]at c1;refine(bq (j7 c1)).trans (jB (dZ ?_));rw[<-z2];refine Cb (xg (jF (aE (x:=.int c) rfl) aG rfl) (jF (aE (x:=.str x) rfl) aG (q4 ⟨h.n,h.n,h.os⟩))) (xg (jF (aE (x:=.int c) rfl) (fk (aE (x:=.int wd) rfl) aG rfl) rfl) (jF (aE (x:=.str x) rfl) aG (q3 ⟨h.n,h.n,h.os⟩)))
 have Kq:exs (run F (k+1)) iV.body [aB w,aB (.int c),aB (.int wd),aB (.int g)] ⟨h.n,h.n,h.os⟩=.ok (.rt (.bl true)) ⟨h.n,h.n,h.os⟩:=by
  rcases Cc m with⟨rfl,a,b⟩|⟨rfl,a⟩|⟨rfl,a⟩|rfl|rfl|⟨p,q,rfl,h3,h4,h5,h6⟩;exact st _ (.inl ⟨rfl,a,b⟩);exact st _ (.inr (.inl ⟨rfl,a⟩));exact st _ (.inr (.inr (.inl ⟨rfl,a⟩)));exact st _ (.inr (.inr (.inr (.inl rfl))));exact st _ (.inr (.inr (.inr (.inr rfl))));refine(bq (ρ':=[aB (.tup [.int p,.int q]),aB (.int c),aB (.int wd),aB (.int g)]) (h':=⟨h.n,h.n,h.os⟩) ?_).trans ?_;have e1:ev (run F (k+1)) (.k9 (.oS .tuple (.var 0))) [aB (.tup [.int p,.int q]),aB (.int c),aB (.int wd),aB (.int g)] ⟨h.n,h.n,h.os⟩=.ok (.bl true) ⟨h.n,h.n,h.os⟩:=by rw[ev,ev,aE (x:=.tup [.int p,.int q]) rfl,aD];rfl
  show exs (run F (k+1)) (.ite _ _ _) _ _=_;rw[exs,e1,aD];show exs (run F (k+1)) (.seq _ _) _ _=_;refine(bq (j7 ?_)).trans (by rw[exs]);refine(jS (pV (i:=2) (dN (ws:=[.int p,.int q]) (aE rfl) rfl) aG)).trans ?_;refine(jS (yU eu (i:=p) (lo:=0) (hi:=g-1) (dM (aE (x:=.tup [.int p,.int q]) rfl) aG rfl) aG (fk (aE (x:=.int g) rfl) aG rfl) (by lia) (by lia))).trans ?_;exact yU eu (i:=q) (lo:=0) (hi:=1) (dM (aE (x:=.tup [.int p,.int q]) rfl) aG rfl) aG aG (by lia) (by lia);have n1:∀x:Str,PyData.strOk x=true->∀h0:VH,dD h0 (.tup [.int (p:Int),.int (q:Int)]) (.str x)=aB false:=λx hx h0=>Zd hx;have c2:ev (run F (k+1)) (.or (.cmp .eq (.var 0) (.cst (.str (bN ".")))) (.cmp .eq (.var 0) (.cst (.str (bN "s"))))) [aB (.tup [.int p,.int q]),aB (.int c),aB (.int wd),aB (.int g)] ⟨h.n,h.n,h.os⟩=.ok (.bl (false||false)) ⟨h.n,h.n,h.os⟩:=
   xg (jF (aE (x:=.tup [.int p,.int q]) rfl) aG (n1 (bN ".") (by decide +kernel) ⟨h.n,h.n,h.os⟩)) (jF (aE (x:=.tup [.int p,.int q]) rfl) aG (n1 (bN "s") (by decide +kernel) ⟨h.n,h.n,h.os⟩))
  refine(bq (j7 c2)).trans (jB (dZ ?_));have:=Cb (cl:=run F (k+1)) (xg (jF (cl:=run F (k+1)) (h:=⟨h.n,h.n,h.os⟩) (ρ:=[aB (.tup [.int p,.int q]),aB (.int c),aB (.int wd),aB (.int g)]) (c:=.gt) (a:=.var 1) (b:=.cst (.int 0)) (aE (x:=.int c) rfl) aG rfl) (jF (c:=.eq) (a:=.var 0) (b:=.cst (.str (bN ">"))) (aE (x:=.tup [.int p,.int q]) rfl) aG (n1 (bN ">") (by decide +kernel) ⟨h.n,h.n,h.os⟩)))
   (xg (jF (c:=.lt) (a:=.var 1) (b:=.op .sub (.var 2) (.cst (.int 1))) (aE (x:=.int c) rfl) (fk (aE (x:=.int wd) rfl) aG rfl) rfl) (jF (c:=.eq) (a:=.var 0) (b:=.cst (.str (bN "<"))) (aE (x:=.tup [.int p,.int q]) rfl) aG (n1 (bN "<") (by decide +kernel) ⟨h.n,h.n,h.os⟩)))
  refine this.trans ?_;simp[h5,h6]
 show fin h (exs (run F (k+1)) iV.body [aB w,aB (.int c),aB (.int wd),aB (.int g)] ⟨h.n,h.n,h.os⟩)=_;rw[Kq];exact dF (aZ _) rfl
end
section
theorem QX{cl:Call}{s:Int}{h:VH}:∀(n fu:Nat) (r g:Int),s<=r*2 ^ n->n<fu->∃r',dz (ev cl EZ) (exs cl E1) fu [aB (.int s),aB (.int g),aB (.int r)] h=.ok (.nx [aB (.int s),aB (.int (jm s n r g)),aB (.int r')]) h
 |n,0,r,g,_,hf=>by lia
 |n,fu+1,r,g,hs,hf=>by
  have ec:ev cl EZ [aB (.int s),aB (.int g),aB (.int r)] h=.ok (.bl (decide (r<s))) h:=by unfold EZ;exact jF (aE (x:=.int r) rfl) (aE (x:=.int s) rfl) rfl
  by_cases q:r<s;obtain⟨n,rfl⟩:∃m,n=m+1:=⟨n-1,by
   have:n≠0:=λz=>by
    subst z;rw[Int.pow_zero,Int.mul_one]at hs;lia
   lia⟩
  have eb:exs cl E1 [aB (.int s),aB (.int g),aB (.int r)] h=.ok (.nx [aB (.int s),aB (.int (g+1)),aB (.int (r*2))]) h:=by unfold E1;refine(bq (bX (x:=.int (r*2)) (fk (x:=.int 2) (y:=.int r) aG (aE rfl) ?_))).trans ((bq (bX (x:=.int (g+1)) (fk (x:=.int g) (y:=.int 1) (aE rfl) aG rfl))).trans (by rw[exs];rfl));rw[yb r 2];exact lT (.inl (by decide))
  obtain⟨r',e⟩:=QX (cl:=cl) (s:=s) (h:=h) n fu (r*2) (g+1) (by rw[Int.mul_assoc,show(2:Int)*2 ^ n=2 ^ (n+1) by rw[DA,yb]];exact hs) (by lia);refine⟨r',?_⟩;rw[kY q]at ec;simp only[dz,ec,aD,eb,e,jm,if_pos q];refine⟨r,?_⟩;rw[jn q]at ec;have hd:jm s n r g=g:=by cases n<;>simp[jm,q]
  simp only[dz,ec,aD,hd]
theorem zrg{F:Nat->Option Fn}(tD:F 149=aB jA){k S:Nat}{h:VH}(h2:S<=16):run F (k+1) 149 [.int S] h=.ok (.int (aU S:Int)) h:=by
 rw[dW tD rfl];have hq:=fX.mp QA S (lV.mpr (by lia));rw[bJ,fS,fS]at hq;obtain⟨r',e3⟩:=QX (cl:=run F k) (s:=S) (h:=⟨h.n,h.n,h.os⟩) 5 fuel 1 0 (by lia) (by decide);rw[hq.1]at e3;have eb:exs (run F k) jA.body [aB (.int S),aC,aC] ⟨h.n,h.n,h.os⟩=.ok (.rt (.int (aU S:Int))) ⟨h.n,h.n,h.os⟩:=by refine(bq (bX (x:=.int 0) aG)).trans ((bq (bX (x:=.int 1) aG)).trans ?_);refine(bq (ρ':=[aB (.int S),aB (.int (aU S:Int)),aB (.int r')]) (h':=⟨h.n,h.n,h.os⟩) ?_).trans (jB (dZ (aE rfl)));rw[exs];exact e3
 show fin h (exs (run F k) jA.body [aB (.int S),aC,aC] ⟨h.n,h.n,h.os⟩)=_;rw[eb];exact dF (aZ _) rfl
end
theorem zu2{cl:Call}{ρ:En}{h:VH}{n:Nat}{a e:E}{ix:List Nat}{tl:En}(ea:ev cl a ρ h=.ok (.int (n:Int)) h)(hl:n<1000)(hin:inner 1 ix ρ=aC::tl)
 (he:∀i:Nat,i<n->ev cl e (aB (.int (i:Int))::tl) h=.ok (.bl true) h):∃h',ev cl (.bi .all (.cons (.lc .bR (.cons a .nil) (.one 0) 1 ix (.cst (.bl true)) e) .nil)) ρ h=.ok (.bl true) h'/\Gm h h':=by
 obtain⟨ys,ρ',h',e1,hI⟩:=lR (nx:=aW .bR (.tup [.int n])) (tg:=bw (.one 0)) (e:=ev cl e) (n:=n)
  (I:=λi ρ h1 acc=>(∃x,ρ=x::tl)/\h1=h/\acc=bI i (W.bl true))
  (λi ρ h1 acc hi hI=>by
    obtain⟨⟨x,rfl⟩,rfl,rfl⟩:=hI;refine⟨.int (i:Int),aB (.int (i:Int))::tl,.bl true,h1,?_,rfl,he _ hi,⟨_,rfl⟩,rfl,?_⟩;rw[i9 (by lia),if_pos hi];rw[<-List.replicate_succ'])
  (λρ h1 acc hI=>by rw[i9 (by lia),if_neg (fZ _)])
  (ρ:=inner 1 ix ρ) (h:=h) (by lia) ⟨⟨aC,hin⟩,rfl,rfl⟩
 obtain⟨_,rfl,rfl⟩:=hI;refine⟨_,?_,Gm.refl.new (o:=.lst (bI n (W.bl true)))⟩;rw[ev,aN (pT (aN ea bG) e1 (by rw[tK];lia)) bG,aD];show kH [.ref h'.n] _=_;have g:(h'.new (.lst (bI n (W.bl true)))).get h'.n=aB (.lst (bI n (W.bl true))):=dU;simp only[kH,g,J5,ly,cA];have ha:(bI n true).all id=true:=fX.mpr λb hb=>za hb;rw[ha]
theorem Kr{w:W}{lo hi:Int}(h:within w lo hi):∃i,w=.int i/\lo<=i/\i<=hi:=by
 cases w<;>simp only[within]at h<;>try(cases h;done)
 rw[bJ,fS,fS]at h;exact⟨_,rfl,h⟩
theorem FP{ws:List W}{i:Nat}{h:VH}:aW .seq (.tup ws) i h=aB ws[i]?:=rfl
noncomputable abbrev dQ(B:Bd)(x6 x7:Option W):En:=[aB B.w,aB (.int B.wd),aB (.int B.gr),aB (.tup (B.rows.map .tup)),aB (.tup B.fd),aB (.tup B.dr),x6,x7]
section
variable{F:Nat->Option Fn}(eu:F 102=aB kN)(jT:F 155=aB iV)(tE:F 152=aB kO)
include eu jT
theorem zyw{k:Nat}{h:VH}{B:Bd}{r:List W}{x6:Option W}(b:B.Ok)(hr:r∈B.rows):∃h',exs (run F (k+2)) E2 (dQ B (aB (.tup r)) x6) h=.ok (.nx (dQ B (aB (.tup r)) x6)) h'/\Gm h h':=by
 have ok:=b.r2 r hr;have w1:=b.w1;have w2:=b.w2;obtain⟨n,hn⟩:∃n:Nat,B.wd=n:=⟨B.wd.toNat,by lia⟩
 obtain⟨h',e1,g1⟩:=zu2 (cl:=run F (k+2)) (ρ:=dQ B (aB (.tup r)) x6) (h:=h) (n:=n) (a:=.var 1) (e:=Po) (ix:=[2,6,1]) (tl:=[aB (.int B.gr),aB (.tup r),aB (.int B.wd)]) (by rw[<-hn];exact aE rfl) (by lia) rfl (λi hi=>by
  obtain⟨_,hm⟩:=Cd ok (show(0:Int)<=i by lia) (by lia);have e0:=P0 ok (show(0:Int)<=i by lia) (by lia);exact CD (aN (dM (x:=.tup r) (y:=.int i) (aE rfl) (aE rfl) e0) (aN (aE rfl) (aN (aE rfl) (aN (aE rfl) bG)))) (zu1 eu jT hm))
 refine⟨h',?_,g1⟩;unfold E2;refine(bq (j7 (h1:=h) ((jS (h1:=h) (tB (ws:=r) (aE rfl))).trans (pV (i:=B.wd) ?_ (aE rfl))))).trans ((bq (j7 (pU e1))).trans (by rw[exs]));exact(dN (ws:=r) (aE rfl) rfl).trans (by rw[ok.1])
omit jT in
theorem zu3{k:Nat}{h:VH}{B:Bd}{d:W}{x6:Option W}(b:B.Ok)(hd:d∈B.dr):exs (run F (k+2)) E3 (dQ B x6 (aB d)) h=.ok (.nx (dQ B x6 (aB d))) h:=by
 have f1:=b.f1;have dd:=b.d2 d hd;cases d<;>simp only[door]at dd<;>try(cases dd;done)
 rename_i us;rcases us with _|⟨a,_|⟨c,_|_⟩⟩<;>simp only[]at dd<;>try(cases dd;done)
 rw[bJ]at dd;obtain⟨i,rfl,i0,i1⟩:=Kr dd.1;have s1:exs (run F (k+2)) (.ite (.or (.not (.k9 (.oS .tuple (.var 7)))) (.or (.cmp .ne (.bi .len (.cons (.var 7) .nil)) (.cst (.int (2)))) (.not (.k9 (.call 102 (.cons (.idx (.var 7) (.cst (.int (0)))) (.cons (.cst (.int (0))) (.cons (.cst (.int (99))) .nil)))))))) (.seq (.ret (.cst (.bl false))) .skip) .skip) (dQ B x6 (aB (.tup [.int i,c]))) h=.ok (.nx (dQ B x6 (aB (.tup [.int i,c])))) h:=
  j7 ((jS (h1:=h) (tB (ws:=[.int i,c]) (aE rfl))).trans ((jS (h1:=h) (pV (i:=2) (dN (ws:=[.int i,c]) (aE rfl) rfl) aG)).trans (yU (k:=k+1) eu (i:=i) (lo:=0) (hi:=99) (dM (aE (x:=.tup [.int i,c]) rfl) aG rfl) aG aG i0 i1)))
 unfold E3;refine(bq s1).trans ((bq (j7 (h1:=h) ?_)).trans (by rw[exs]));have ei:ev (run F (k+2)) (.idx (.var 7) (.cst (.int (1)))) (dQ B x6 (aB (.tup [.int i,c]))) h=.ok c h:=dM (aE (x:=.tup [.int i,c]) rfl) aG rfl;have df:=dd.2;unfold sQ at df;cases c with
 |aP=>exact anF (jF ei aG rfl)
 |int j=>
  rw[show cV (.int j)=false from rfl,Bool.false_or]at df;obtain⟨j',hj,j0,j1⟩:=Kr df;cases hj;exact(QW (jF ei aG rfl)).trans (yU (k:=k+1) eu (i:=j) (lo:=0) (hi:=(B.fd.length:Int)-1) ei aG (fk (dN (ws:=B.fd) (aE rfl) rfl) aG rfl) j0 j1)
 |_=>simp[cV,within]at df
include tE
theorem zu4{k:Nat}{h:VH}{B:Bd}(b:B.Ok):run F (k+3) 152 [B.w] h=.ok (.bl true) h:=by
 have w1:=b.w1;have w2:=b.w2;have g1:=b.g1;have g2:=b.g2;have r1:=b.r1;have f1:=b.f1;have f2:=b.f2;have d1:=b.d1;let k0:VH:=⟨h.n,h.n,h.os⟩
 obtain⟨ρ',h1,e1,hI⟩:=nM (nx:=aW .seq (.tup (B.rows.map .tup))) (tg:=bw (.one 6)) (b:=exs (run F (k+2)) E2) (n:=B.rows.length)
  (I:=λi ρ h1=>(∃x6,ρ=dQ B x6 aC)/\Gm k0 h1)
  (λi ρ h1 hi hI=>by
    obtain⟨⟨x6,rfl⟩,w⟩:=hI;obtain⟨h2,e2,w2⟩:=zyw eu jT (k:=k) (h:=h1) (x6:=aC) b (kZ hi);exact⟨.tup B.rows[i],_,_,h2,by rw[FP,dS,dh hi];rfl,rfl,e2,⟨_,rfl⟩,w.trans w2⟩)
  (λρ h1 hI=>by rw[FP,iL (by rw[bx];exact aZ _)])
  B.rows.length 0 fuel (dQ B aC aC) k0 (jo _) (show _<1000000 by lia) ⟨⟨aC,rfl⟩,.refl⟩
 obtain⟨⟨x6,rfl⟩,w1'⟩:=hI;obtain⟨ρ',h2,e2,hI⟩:=nM (nx:=aW .seq (.tup B.dr)) (tg:=bw (.one 7)) (b:=exs (run F (k+2)) E3) (n:=B.dr.length)
  (I:=λi ρ h2=>(∃x7,ρ=dQ B x6 x7)/\h2=h1)
  (λi ρ h2 hi hI=>by
    obtain⟨⟨x7,rfl⟩,rfl⟩:=hI;exact⟨B.dr[i],_,_,h2,by rw[FP,dh hi],rfl,zu3 eu b (kZ hi),⟨_,rfl⟩,rfl⟩)
  (λρ h1 hI=>by rw[FP,iL (aZ _)])
  B.dr.length 0 fuel (dQ B x6 aC) h1 (jo _) (show _<1000000 by lia) ⟨⟨aC,rfl⟩,rfl⟩
 obtain⟨⟨x7,rfl⟩,rfl⟩:=hI;obtain⟨h3,e3,w3⟩:=CL (cl:=run F (k+2)) (ρ:=dQ B x6 x7) (h:=h2) (ws:=B.fd) (x:=.aP) (a:=.var 4) (e:=Pp) (ix:=[1]) (tl:=[aB (.int B.wd)]) (aE rfl) (by lia) rfl (λw hw=>by
  obtain⟨i,rfl,i0,i1⟩:=Kr (b.f3 w hw);exact nL (aE rfl) aG (fk (aE (x:=.int B.wd) rfl) aG rfl) (mO eu i0 i1))
 have eb:exs (run F (k+2)) kO.body [aB B.w,aC,aC,aC,aC,aC,aC,aC] k0=.ok (.rt (.bl true)) h3:=by
  refine(bq (j7 (h1:=k0) ((jS (h1:=k0) (tB (ws:=[.int B.wd,.int B.gr,.tup (B.rows.map .tup),.tup B.fd,.tup B.dr]) (aE rfl))).trans (pV (i:=5) (dN (ws:=[.int B.wd,.int B.gr,.tup (B.rows.map .tup),.tup B.fd,.tup B.dr]) (aE rfl) rfl) aG)))).trans ?_;refine(bq (ρ':=dQ B aC aC) (h':=k0) ?_).trans ?_;rw[exs,aE (x:=B.w) rfl,aD];rfl;refine(bq (j7 (h1:=k0) (ρ:=dQ B aC aC) ((jS (h1:=k0) (yU (k:=k+1) eu (aE rfl) aG aG w1 w2)).trans (yU (k:=k+1) eu (aE rfl) aG aG g1 g2)))).trans ?_;have hgt:ev (run F (k+2)) (.cmp .gt (.bi .len (.cons (.var 3) .nil)) (.cst (.int (60)))) (dQ B aC aC) k0=.ok (.bl false) k0:=
   jF (dN (ws:=B.rows.map .tup) (aE rfl) rfl) aG (by show aB (decide ((60:Int)< ((B.rows.map W.tup).length:Int)))=_;rw[bx,jn (by lia)])
  refine(bq (j7 (h1:=k0) (ρ:=dQ B aC aC) ((jS (h1:=k0) (tB (ws:=B.rows.map .tup) (aE rfl))).trans ((jS (h1:=k0) hgt).trans ((jS (h1:=k0) (tB (ws:=B.dr) (aE rfl))).trans (pV (i:=B.wd) ((dN (ws:=B.dr) (aE rfl) rfl).trans (by rw[d1])) (aE rfl))))))).trans ?_;have hch:ev (run F (k+2)) (.not (.qh .le .le (.cst (.int (1))) (.bi .len (.cons (.var 4) .nil)) (.cst (.int (4))))) (dQ B aC aC) k0=.ok (.bl false) k0:=by
   have el:ev (run F (k+2)) (.bi .len (.cons (.var 4) .nil)) (dQ B aC aC) k0=.ok (.int (B.fd.length:Int)) k0:=dN (ws:=B.fd) (aE rfl) rfl;have c1:(1:Int)<=B.fd.length:=by lia
   have c2:(B.fd.length:Int)<=4:=by lia
   rw[ev,ev,aG,aD,el,aD];simp[ev,bE,gS,c1,c2]
  refine(bq (j7 (h1:=k0) (ρ:=dQ B aC aC) ((jS (h1:=k0) (tB (ws:=B.fd) (aE rfl))).trans hch))).trans ?_;refine(bq ((ez (aE rfl)).trans e1)).trans ?_;refine(bq ((ez (aE rfl)).trans e2)).trans ?_;exact jB (dZ e3)
 rw[dW tE rfl];show fin h (exs (run F (k+2)) kO.body [aB B.w,aC,aC,aC,aC,aC,aC,aC] k0)=_;rw[eb];exact xB (λ_=>rfl) (w1'.trans w3)
end
theorem zrh:(lP.all λx=>decide ((aQ x.1 x.2).length+2*aU x.1<=60))=true:=by decide +kernel
theorem QY{Pd:W->Prop}:∀{es:List Ev} {d:List W},(∀w∈d,Pd w)->(∀e∈es,Pd (.tup [.int e.n,.int 0]))->∀w∈es.foldl cZ d,Pd w
 |[],d,h,_=>h
 |e::r,d,h,he=>by
  rw[lU];refine QY (λw hw=>?_) λx hx=>he x (fE _ hx);rcases Dd hw with hw|rfl
  exact h w hw;exact he e fT
theorem QZ{S P:Nat}{M:List (List (Int×Int))}(mo:xy S P M):∀d∈mH S P M,∃n:Int,d=.tup [.int n,.int 0]/\0<=n/\n<=99:=
 QY (λw hw=>⟨0,za hw,by decide,by decide⟩) λe he=>by
  obtain⟨j,i,row,x,h1,h2,rfl⟩:=Ft he;have:=mo.p row (mR h1) x (mR h2);exact⟨x.1,rfl,this.1,this.2.1⟩
theorem Q0{w:Nat}{es:List Ev}:∀l:List Nat,(l.map λg=>(cg w es g).length).sum=l.length*2
 |[]=>rfl
 |a::r=>by
  rw[fm,List.sum_cons,Q0 r,cG];show 2+_=_;lia
theorem zu5{S P:Nat}{M:List (List (Int×Int))}(sh:Shape S P)(mo:xy S P M):(kR S P M).Ok:=by
 obtain⟨r,r1,f1,f2,_⟩:=sh.rows;have w:=sh.wd;have p1:=sh.p1;have ok:=Qg sh mo;have fr:=fX.mp zrh _ (Cu sh.s1 sh.p1 sh.p4 sh.sp);rw[fS]at fr;refine⟨?_,?_,?_,?_,?_,Qc sh ok,?_,?_,?_,?_,?_⟩;show(1:Int)<=(bz S P:Nat)
 unfold bz;lia;show((bz S P:Nat):Int)<=40;lia;exact Int.natCast_nonneg _;have:=sW (S:=S);show((aU S:Nat):Int)<=8;lia;show(aQ S P++(List.range' 0 (aU S)).flatMap (cg (bz S P) (bS S P 0 M))).length<=60;rw[fU,List.length_flatMap,Q0,xR];lia;show 1<=((aX S P).map W.int).length;rw[bx,f1];exact sh.p1;show((aX S P).map W.int).length<=4;rw[bx,f1];exact sh.p4;intro f hf;obtain⟨c,hc,rfl⟩:=iH.mp hf;have:=f2 c hc;show(decide (0<=c)&&decide (c<=(bz S P:Int)-1))=true;rw[kY this.1,kY this.2];rfl;show((mH S P M).length:Int)=(bz S P:Nat)
 unfold mH;rw[JG,tK];intro d hd;obtain⟨n,rfl,n0,n1⟩:=QZ mo d hd;show door (.tup [.int n,.int 0]) (((aX S P).map W.int).length:Int)=true;rw[bx,f1];simp[door,within,sQ,cV];lia
theorem zyx:((List.range 17).all λn=>decide (L2.yr (bD n)=aB (n:Int)))=true:=by decide +kernel
theorem zri{S:Nat}(h:S<=16):L2.yr (bD S)=aB (S:Int):=kX (fX.mp zyx S (lV.mpr (by lia)))
theorem Q2:∀ls:List Int,aY lH (ls.map W.int)=aB ls|[]=>rfl|x::r=>by simp only[fm,aY,lH,Q2 r]
theorem Q3:∀dj:List (List Int),aY tupI (dj.map iW)=aB dj
 |[]=>rfl
 |x::r=>by
  have e:tupI (iW x)=aB x:=Q2 x;simp only[fm,aY,e,Q3 r]
theorem i0{h:VH}{xs:List W}{w:W}(e:xs[0]?=aB w):cz h (.tup xs) (.int 0)=aB w:=nX (j:=0) e
structure FQ(F:Nat->Option Fn):Prop where
 b:pO F
 c:oj F
 y:g9 F
 t:mF F
 eu:F 102=aB kN
 tw:F 113=aB mz
 tD:F 149=aB jA
 tE:F 152=aB kO
 jT:F 155=aB iV
 Ks:F 700=aB E4
 Ku:F 701=aB E5
theorem FQ.a3{F:Nat->Option Fn}(C:FQ F):ia F:=⟨C.b.f0,C.b.f1,C.b.f6⟩
section
variable{F:Nat->Option Fn}(C:FQ F)
include C
theorem CQ{k S:Nat}{h:VH}(h2:S<=16):run F (k+2) 700 [.tup ((bD S).map iW),.int (S:Int),.int (aU S:Int)] h=.ok (.bl true) h:=by
 rw[dW C.Ks rfl];let k0:VH:=⟨h.n,h.n,h.os⟩
 let cl:=run F (k+1);let ρ (x:Option W):En:=[aB (.tup ((bD S).map iW)),aB (.int (S:Int)),aB (.int (aU S:Int)),x]
 have ls:((bD S).map iW).length=S:=by unfold bD;rw[bx,bx,nT]
 have e1:ev cl (.bi .ki (.cons (.var 0) .nil)) (ρ aC) k0=.ok (.int (S:Int)) k0:=by rw[ev,aN (aE (x:=.tup ((bD S).map iW)) rfl) bG,aD];show jw [.tup ((bD S).map iW)] k0=_;unfold jw;simp only[Q3,Dt,zri h2];rfl
 obtain⟨ρ',h',e4,hI⟩:=nM (nx:=aW .seq (.tup ((bD S).map iW))) (tg:=bw (.one 3)) (b:=exs cl IY) (n:=S)
  (I:=λi dJ h1=>(∃x,dJ=ρ x)/\Gm k0 h1)
  (λi dJ h1 hi hI=>by
    obtain⟨⟨x,rfl⟩,G⟩:=hI;let l:=aO (i:Int) (aU S);have hls:∀w∈l.map W.int,ev cl IX (aB w:: ([]:En)) h1=.ok (.bl true) h1:=λw hw=>by
     obtain⟨i,hi,rfl⟩:=iH.mp hw;have:=yR i hi;exact nL (aE rfl) aG aG (mO (k:=k) C.eu (by lia) (by lia))
    have lG:l.length=aU S:=qw;obtain⟨h7,e7,g7⟩:=CL (cl:=cl) (ρ:=ρ (aB (iW l))) (h:=h1) (ws:=l.map .int) (x:=.aP) (a:=.var 3) (e:=IX) (ix:=[]) (tl:=[]) (aE rfl) (by rw[bx,lG];have:=sW (S:=S);lia) rfl hls;refine⟨iW l,ρ (aB (iW l)),ρ (aB (iW l)),h7,?_,rfl,?_,⟨_,rfl⟩,G.trans g7⟩;show aB (((bD S).map iW)[i]?)=_;unfold bD;rw[Dl,dS,xQ hi];rfl;unfold IY;refine(bq (j7 (h1:=h1) ((jS (h1:=h1) (tB (ws:=l.map .int) (aE rfl))).trans (pV (i:=(aU S:Int)) ((dN (ws:=l.map .int) (aE (x:=iW l) rfl) rfl).trans (by rw[bx,lG])) (aE rfl))))).trans ?_;exact(bq (j7 (pU e7))).trans (by rw[exs]))
  (λdJ h1 hI=>by
    show aB (((bD S).map iW)[S]?)=_;rw[iL (by lia)])
  S 0 fuel (ρ aC) k0 (jo _) (show _<1000000 by lia) ⟨⟨aC,rfl⟩,Gm.refl⟩
 obtain⟨⟨x,rfl⟩,G⟩:=hI;have eb:exs cl E4.body [aB (.tup ((bD S).map iW)),aB (.int (S:Int)),aB (.int (aU S:Int)),aC] k0=.ok (.rt (.bl true)) h':=by refine(bq (j7 (h1:=k0) ((jS (h1:=k0) (tB (ws:=(bD S).map iW) (aE rfl))).trans ((jS (h1:=k0) (pV (i:=(S:Int)) ((dN (ws:=(bD S).map iW) (aE (x:=.tup ((bD S).map iW)) rfl) rfl).trans (by rw[ls])) (aE rfl))).trans (pV (i:=(S:Int)) e1 (aE rfl)))))).trans ?_;refine(bq ((ez (x:=.tup ((bD S).map iW)) (aE rfl)).trans e4)).trans ?_;exact jB (dZ aG)
 show fin h (exs cl E4.body [aB (.tup ((bD S).map iW)),aB (.int (S:Int)),aB (.int (aU S:Int)),aC] k0)=_;rw[eb];exact xB (λn=>rfl) G
theorem CS{ns:List Int}(hl:ns.length<=63):BY (run F 30 701 [.fz (ns.map .int)] ⟨0,0,[]⟩)=true:=by
 rw[show(30:Nat)=29+1 from rfl,dW C.Ku rfl];obtain⟨h1,e1,D1⟩:=JO C.t (k:=28) (h:=⟨0,0,[]⟩) hl;generalize hsc:W.fz (ns.map .int)=sc at *;obtain⟨S,P,M,h2,e2,sh,mo⟩:=zhl C.t C.tw (k:=25) D1 (by decide);have e3:=λh=>zfj C.a3 C.c C.y (k:=23) (h:=h) sh mo;have gV:=sh.gV;have p4:=sh.p4;have lM:=mo.l;have ok:=zu5 sh mo;generalize hB:kR S P M=B at *;let sts:W:=.tup ((bD S).map iW);let fd:W:=.tup [B.w,sts];let dk:W:=.ref (0+1);obtain⟨r0,hr0,lr0⟩:∃r0,M[0]?=aB r0/\r0.length=P:=by
  have h0:0<M.length:=by have:=sh.s1;lia
  exact⟨_,dh h0,mo.r _ (kZ h0)⟩
 have hM0:(M.map bM)[0]?=aB (bM r0):=by rw[dS,hr0];rfl
 have hdr:∀w∈B.dr,ev (run F 29) IZ (aB w:: ([]:En)) h2=.ok (.bl true) h2:=λw hw=>by
  rw[<-hB]at hw;obtain⟨z,rfl,_,_⟩:=QZ mo w hw;exact nL (dM (x:=.tup [.int z,.int 0]) (aE rfl) aG rfl) aG aG (mO (k:=28) C.eu (by decide) (by decide))
 let ρ:En:=[aB sc,aB dk,aB (mW M),aB fd,aB B.w,aB sts]
 obtain⟨h6,e6,g6⟩:=CL (cl:=run F 29) (ρ:=ρ) (h:=h2) (ws:=B.dr) (x:=.aP) (a:=.idx (.var 4) (.cst (.int 4))) (e:=IZ) (ix:=[]) (tl:=[]) (dM (aE (x:=B.w) rfl) aG rfl) (by have:=ok.d1;have:=ok.w2;lia) rfl hdr;have hp:eY 24 fd=true:=by
  show([B.w,sts].all (eY 23))=true;rw[nU,nU,bJ,bJ];refine⟨PU ok 17,?_,rfl⟩;show(((bD S).map iW).all (eY 22))=true;exact fX.mpr λw hw=>by
   obtain⟨l,_,rfl⟩:=iH.mp hw;show((l.map W.int).all (eY 21))=true;exact fX.mpr λw hw=>by
    obtain⟨i,_,rfl⟩:=iH.mp hw;rfl
 have hgr:B.gr=(aU S:Int):=by rw[<-hB];rfl
 have hfl:B.fd.length=P:=by rw[<-hB];show((aX S P).map W.int).length=P;rw[bx];exact sh.rows.2.2.1
 have eM:∀{h:VH},ev (run F 29) (.bi .len (.cons (.var 2) .nil)) ρ h=.ok (.int (S:Int)) h:=λ{h}=>(dN (x:=mW M) (ws:=M.map bM) (aE rfl) rfl).trans (by rw[bx,lM]);have eg:∀{h:VH},ev (run F 29) (.idx (.var 4) (.cst (.int (1)))) ρ h=.ok (.int (aU S:Int)) h:=λ{h}=>by rw[<-hgr];exact dM (x:=B.w) (aE rfl) aG rfl
 have e7:=CQ C (k:=27) (S:=S) (h:=h6) gV;have e8:=e3 h6;have eb:exs (run F 29) E5.body [aB sc,aC,aC,aC,aC,aC] ⟨0,0,[]⟩=.ok (.rt (.bl true)) h6:=by
  refine(bq (bX (h1:=h1) (x:=dk) (sZ (aE rfl) e1))).trans ?_;refine(bq (bX (h1:=h2) (x:=mW M) (sZ (aE rfl) e2))).trans ?_;refine(bq (bX (h1:=h2) (x:=fd) (sZ (aE rfl) (e3 h2)))).trans ?_;refine(bq (j7 (h1:=h2) (ρ:=[aB sc,aB dk,aB (mW M),aB fd,aC,aC]) ((jS (h1:=h2) (tB (ws:=[B.w,sts]) (aE rfl))).trans ((jS (h1:=h2) (pV (i:=2) (dN (ws:=[B.w,sts]) (aE rfl) rfl) aG)).trans (pU (b:=true) (sZ (dM (x:=fd) (aE rfl) aG rfl) (zu4 (k:=26) C.eu C.jT C.tE ok))))))).trans ?_;refine(bq (ρ':=ρ) (h':=h2) ?_).trans ?_;show exs (run F 29) (.yu [4,5] (.var 3)) _ h2=_;rw[exs,aE (x:=fd) rfl,aD];rfl;refine(bq (j7 (h1:=h2) ((jS (h1:=h2) (pV (i:=(aU S:Int)) eg (sZ eM (zrg (k:=28) C.tD gV)))).trans
   (pV (i:=(P:Int)) ((dN (ws:=B.fd) (dM (x:=B.w) (aE rfl) aG rfl) rfl).trans (by rw[hfl])) ((dN (x:=bM r0) (ws:=r0.map bT) (dM (x:=mW M) (y:=.int 0) (aE rfl) aG (i0 hM0)) rfl).trans (by rw[bx,lr0])))))).trans ?_
  refine(bq (j7 (h1:=h6) ((jS (h1:=h6) (pU e6)).trans (jF (x:=.aP) (y:=.aP) (sZ (x:=B.w) (aE rfl) (YR C.b (k:=22) ok)) aG rfl)))).trans ?_;refine jB (dZ ((QW (h1:=h6) (nL (x:=sts) (y:=.int (S:Int)) (z:=.int (aU S:Int)) (aE rfl) eM eg e7)).trans ?_));exact jF (x:=fd) (y:=fd) (h1:=h6) (sZ (aE (x:=mW M) rfl) e8) (aE rfl) (Yx hp)
 show BY (fin ⟨0,0,[]⟩ (exs (run F 29) E5.body [aB sc,aC,aC,aC,aC,aC] ⟨0,0,[]⟩))=true;rw[eb];obtain⟨h9,e9⟩:=QU (h:=⟨0,0,[]⟩) (h':=h6) (w:=.bl true);rw[e9];rfl
end
end RF
namespace HD
open PySem PySem.W PySem.Calls PyProof.Rows
noncomputable section
noncomputable def p:ai:=PySem.Challenge.pw_ballrockers_k52_machine_boards
noncomputable abbrev S(x:String):Str:=Str.ofString x
noncomputable abbrev U(x:String)(t:Tok):aa:=Value.str (S x) t
noncomputable abbrev R(a:ah):aa:=Value.ref a
noncomputable abbrev I(i:Int)(t:Tok):aa:=Value.int i t
noncomputable abbrev E(P:Params)(x:String)(t:Tok)(v:aa):DictEntry:=DictEntry.mk (PyData.keyHash P (S x)) (Value.str (S x) t) v
noncomputable abbrev N(o:Obj)(l r:BT):BT:=BT.node o l r
noncomputable abbrev Z:BT:=BT.nil
noncomputable abbrev L(o:Obj):BT:=BT.node o Z Z
noncomputable abbrev Y(c:String)(d:Data):Obj:=Obj.mk (Value.type c) aC d #[]
noncomputable abbrev X(d:Data):Obj:=Obj.mk Value.none aC d #[]
noncomputable def xE(l:List aq)(i:Nat):aq:=l.getD i (Stmt.Pass ⟨0,0,0,0⟩)
noncomputable def Q4:aq->List aq|.FunctionDef _ _ b _ _ _ _ _ _ _=>b|.ClassDef _ _ _ b _ _ _ _ _ _ _=>b|_=>[]
noncomputable def Q5:aq->Arguments|.FunctionDef _ a _ _ _ _ _ _ _ _=>a|_=>⟨[],[],aC,[],[],aC,[]⟩
noncomputable def Q6:aq->ay|.FunctionDef _ _ _ _ _ _ s _ _ _=>s|_=>p.main.scope
noncomputable def fb(i:Nat):List aq:=Q4 (xE p.main.body i)
noncomputable def fa(i:Nat):Arguments:=Q5 (xE p.main.body i)
noncomputable def fs(i:Nat):ay:=Q6 (xE p.main.body i)
noncomputable def cb(i j:Nat):List aq:=Q4 (xE (fb i) j)
noncomputable def ca(i j:Nat):Arguments:=Q5 (xE (fb i) j)
noncomputable def cs(i j:Nat):ay:=Q6 (xE (fb i) j)
noncomputable abbrev O:aa:=Value.none
noncomputable abbrev J(i:Int):aa:=Value.int i 0
noncomputable abbrev V(t:Tok):aa:=Value.str (S "/claim/cut.py") t
noncomputable abbrev A(l:Array aa):Data:=Data.fields l
noncomputable abbrev B(f:au):Data:=Data.func f
noncomputable abbrev G(x:String)(i:Nat)(g:ah)(c:List (Str×ah))(d k o m:aa)(n:Option ah)(cd ct:aa)(b:ah):au:=FuncData.mk (S x) (S x) (fa i) (FuncBody.stmts (fb i)) (fs i) g c d k o m n cd ct b
section
variable(P:Params)
noncomputable def N0:Nat:=4872
noncomputable def lo:List Str:=[S "MOST_STANDS",S "fallen",S "heading_behind"]
noncomputable def keep:List Nat:=[1,2,3,4,5,7,8,9,10,12,13,14,15,16,17,18,19,20,21,22,23,24,26,27,29,30,31,33,34,35,39,40,41,42,43,44,45,46,47,48,49,51,52,53,54,55,56,57,58,59,60,61]
noncomputable def life:Life:=(Life.mk [] [] [] 0 [] [] false #[] [] 0 false false false 0 [2000,10,10] false 0 true [] [] 0 false)
noncomputable def m0:Nat:=11
noncomputable def ann:Option aa:=(aB (R 6))
noncomputable def env:Env:={scope:=p.main.scope,locals:=mainNs,globals:=mainNs,cells:=[],code:=(R 13),frame:=aB 14}
noncomputable def bd:List aq:=behindTheImports p
noncomputable def cd:Code:=Code.body bd env
noncomputable def fr:List Frame:=[topFrame (Pos.mk 0 0 0 0)]
noncomputable abbrev qC(n:String)(t:Nat)(l k:Int)(r m:Nat):Obj:=Y "code" (A #[U n t,U n (t+1),V (t+2),J l,J k,J 0,J 0,J 3,R r,Value.bool true,J 181,R (r+1),O,R (r+2),R (r+3),R (r+4),J (Int.ofNat m),J l,V (m+1)])
noncomputable abbrev qD(n:String)(t:Nat)(l k:Int)(r m:Nat):Obj:=Y "code" (A #[U n t,U n (t+1),V (t+2),J l,J k,J 0,J 0,J 3,R r,Value.bool true,J 181,R (r+1),O,O,O,R (r+2),J (Int.ofNat m),J l,V (m+1)])
noncomputable def qU:Nat->List String->List aa|_,[]=>[]|t,x::r=>U x t::qU (t+1) r
noncomputable abbrev qT(t:Nat)(l:List String):Obj:=Y "tuple" (Data.seq (qU t l).toArray 0)
noncomputable abbrev qF(n:String)(i:Nat)(u:aa)(r:ah):Obj:=Y "function" (B (G n i 3 [] O O O u aC (R r) O 0))
noncomputable abbrev qG(n:String)(i:Nat):Obj:=X (B (G n i 0 [] O O O O aC O O 0))
noncomputable def qJ:List (Int×Nat)->List aa|[]=>[]|(a,b)::r=>J a::J 0::R b::qJ r
noncomputable def qO:List Obj->List Obj|x::_::r=>x::qO r|x=>x
noncomputable def qE:List Obj->List Obj|_::y::r=>y::qE r|_=>[]
noncomputable def qB:Nat->List Obj->BT|f+1,x::r=>N x (qB f (qO r)) (qB f (qE r))|_,_=>Z
 def a0:=(Y "tuple" (Data.seq #[] 0))
 def a1:=(X (A #[]))
 def a2:=(Y "code" (A #[(U "<module>" 182),(U "<module>" 183),(V 184),(J 1),(J 0),(J 0),(J 0),(J 0),(R 11),(Value.bool false),(J 181),(R 12),O,O,O,O,(J 185),(J 1),(V 186)]))
 def a3:=(Obj.mk (Value.type "frame") aC Data.plain #[(aB (R 13)),(aB (R 3)),(aB (R 3)),aC,(aB (U "__main__" 164)),aC,(aB (R 0))])
 def ha:az:=Heap.mk (Array.mk [(boot_o_0 P),(boot_o_1 P),(boot_o_2 P),(boot_o_3 P),(boot_o_4 P),(boot_o_5 P),(boot_o_6 P),(boot_o_7 P),(boot_o_8 P),(boot_o_9 P),(boot_o_10 P),a0,a1,a2,a3]) (Life.mk [] [] [] 0 [] [] false #[] [] 0 false false false 0 [2000,10,10] false 0 true [] [] 0 false)
noncomputable def sa(w:aj)(os:av):af:=⟨ha w.params,(Array.mk []),(Drawn.mk 0 0 0 0),187,os⟩
theorem uT{w:aj}{n:Nat}{s s':SharedT}{l:List aq}{pos pos':Pos}(h:PySem.W.Fast.tw10110043849684766642 PySem.W.Fast.tw14364793385576792824 p w m0 ann 1 n s (piecesOf l env cd pos fr)=aB (.next,s',cd,pos')) :
 segRun treeTable p w m0 ann 1 n s.abs (piecesOf l env cd pos fr)=aB (.next,s'.abs,cd,pos'):=
 segRun_of (by rw[PySem.W.Fast.te10110043849684766642,Du];exact h)
theorem CT{w:aj}{n:Nat}{s s':af}{pos:Pos}(h:PySem.W.Fast.tw15667345088766844465 PySem.W.Fast.tw14364793385576792824 p w m0 ann n s (topStub p)=aB (s',⟨PySem.W.Fast.tw11892475500146522536 PySem.W.Fast.tw14364793385576792824 cd,cd,pos,fr⟩)) :
 topGo treeTable p w m0 ann n s (topStub p)=aB (s',⟨denote treeTable cd,cd,pos,fr⟩):=by
 rw[PySem.W.Fast.te15667345088766844465,Du,PySem.W.Fast.te11892475500146522536];exact h
theorem zu6{w:aj}{n:Nat}{s s':af}{pos pos':Pos}(h:PySem.W.Fast.tw14374325043358763698 PySem.W.Fast.tw14364793385576792824 p w m0 ann 1 n s (blockOf bd env cd pos fr)=aB (.next,s',cd,pos')) :
 segRun treeTable p w m0 ann 1 n s (blockOf bd env cd pos fr)=aB (.next,s',cd,pos'):=by
 rw[PySem.W.Fast.te14374325043358763698,Du];exact h
theorem CU{w:aj}{n:Nat}{s s':af}{pos:Pos}(h:PySem.W.Fast.tw14082659384304107361 PySem.W.Fast.tw14364793385576792824 p w m0 ann n s ⟨doneF .next,cd,pos,fr⟩=aB s') :
 topRun treeTable p w m0 ann n s ⟨doneF .next,cd,pos,fr⟩=aB s':=by
 rw[PySem.W.Fast.te14082659384304107361,Du];exact h
set_option maxHeartbeats 0 in
theorem pre(w:aj)(os:av):topGo treeTable p w m0 ann 12 ⟨boot_heap w.params,Array.mk [],boot_drawn,boot_toks,os⟩ (topStub p)=aB (sa w os,⟨denote treeTable cd,cd,(Pos.mk 0 0 0 0),fr⟩):=CT (by kernel_rfl)
 def Q7:List Obj:=[(boot_o_0 P),(boot_o_1 P),(boot_o_2 P),(boot_o_3 P),(boot_o_4 P),(boot_o_5 P),(boot_o_6 P),(boot_o_7 P),(boot_o_8 P),(boot_o_9 P),(boot_o_10 P),a0,a1,a2,a3]
 def tb:=qB 20 (Q7 P)
noncomputable def sb(w:aj)(os:av):SharedT:=⟨tb w.params,15,life,(Array.mk []),(Drawn.mk 0 0 0 0),187,os⟩
set_option maxHeartbeats 0 in
theorem block(w:aj)(os:av):segRun treeTable p w m0 ann 1 1 (sa w os) (blockOf bd env cd (Pos.mk 0 0 0 0) fr)=aB (.next,(sb w os).abs,cd,(Pos.mk 0 0 0 0)):=zu6 (by kernel_rfl)
 def Q8:=[(E P "__doc__" 166 O),(E P "__package__" 167 O),(E P "__loader__" 168 (Value.builtin "__main__.__loader__#opaque")),(E P "__spec__" 169 O),(E P "__annotations__" 170 (R 6)),(E P "__builtins__" 171 (R 4)),(E P "__file__" 173 (V 172)),(E P "__cached__" 174 O),(E P "BoardError" 206 (R 24)),(E P "NoBoard" 222 (R 37)),(E P "Fault" 249 (R 56)),(E P "NoNumber" 265 (R 68)),(E P "NoMachine" 281 (R 80)),(E P "is_whole" 290 (R 89)),(E P "is_whole_within" 299 (R 96)),(E P "is_tuple_within" 308 (R 103)),(E P "are_wholes_within" 320 (R 110)),(E P "MOST_COLUMNS" 324 (I 40 323)),(E P "MOST_ROWS" 326 (I 60 325)),(E P "MOST_GROUPS" 328 (I 8 327)),(E P "MOST_FEEDERS" 330 (I 4 329)),(E P "MOST_NAME" 332 (I 99 331)),(E P "look_at_board" 346 (R 117)),(E P "is_board_but_for_places" 358 (R 124)),(E P "are_rows" 367 (R 131)),(E P "are_doors" 377 (R 138)),(E P "is_door" 387 (R 145)),(E P "is_feeder_or_none" 395 (R 152)),(E P "may_stand" 405 (R 159))]
 def a4:=Y "dict" (Data.dict ((E P "__name__" 165 (U "ballrockers.boards" 321))::Q8 P).toArray 30)
 def Q9:List (Int×Nat):=[(2,20),(4,33),(6,45),(11,64),(13,76),(16,88),(18,95),(20,102),(22,109),(35,116),(43,123),(52,130),(59,137),(66,144),(71,151),(73,158)]
 def a5:=X (A (qJ Q9).toArray)
 def a6:=(Y "tuple" (Data.seq #[(Value.type "ValueError")] 0))
 def a7:=(Y "builtin_function_or_method" (A #[(Value.builtin "type.__prepare__"),(Value.type "type")]))
 def a8:=(Y "dict" (Data.dict #[(E P "__module__" 196 (U "ballrockers.errors" 187)),(E P "__qualname__" 198 (U "BoardError" 197)),(E P "__firstlineno__" 200 (I 2 199)),(E P "__static_attributes__" 201 (R 22))] 4))
 def a9:=(Y "code" (A #[(U "BoardError" 191),(U "BoardError" 192),(V 193),(J 2),(J 0),(J 0),(J 0),(J 0),(R 18),(Value.bool false),(J 181),(R 19),O,O,O,O,(J 194),(J 2),(V 195)]))
 def IF:=(Obj.mk (Value.type "frame") aC Data.plain #[(aB (R 20)),(aB (R 3)),(aB (R 17)),aC,(aB (U "ballrockers.errors" 187)),aC,(aB (R 0))])
 def a11:=(Y "dict" (Data.dict #[(E P "__module__" 196 (U "ballrockers.errors" 187)),(E P "__firstlineno__" 200 (I 2 199)),(E P "__static_attributes__" 201 (R 22)),(E P "__weakref__" 203 (R 25)),(E P "__doc__" 204 O)] 3))
 def a12:=(Obj.mk (Value.type "type") aC (Data.cls (ClassData.mk (S "BoardError") [(Value.type "ValueError")] [(R 24),(Value.type "ValueError"),(Value.type "Exception"),(Value.type "BaseException"),(Value.type "object")] 23 (S "BoardError") true [] [(R 37),(R 56),(R 68),(R 80)] false aC false)) #[(aB (R 15)),aC,(aB (U "BoardError" 189)),(aB (U "BoardError" 197)),(aB (Value.builtin "ValueError.__new__")),(aB (Value.bool true))])
 def a13:=(Y "getset_descriptor" (A #[(U "__weakref__" 202),(R 24),(Value.builtin "ExceptionGroup.__weakref__"),O]))
 def a14:=(Y "super" (A #[(R 24),(R 24),(R 24)]))
 def a15:=(Y "builtin_function_or_method" (A #[(Value.builtin "object.__init_subclass__"),(R 24)]))
 def FT:=(Y "tuple" (Data.seq #[(R 24)] 0))
 def a17:=(Y "dict" (Data.dict #[(E P "__module__" 214 (U "ballrockers.errors" 187)),(E P "__qualname__" 216 (U "NoBoard" 215)),(E P "__firstlineno__" 218 (I 4 217)),(E P "__static_attributes__" 219 (R 35))] 4))
 def a18:=(Y "code" (A #[(U "NoBoard" 209),(U "NoBoard" 210),(V 211),(J 4),(J 0),(J 0),(J 0),(J 0),(R 31),(Value.bool false),(J 181),(R 32),O,O,O,O,(J 212),(J 4),(V 213)]))
 def a19:=(Obj.mk (Value.type "frame") aC Data.plain #[(aB (R 33)),(aB (R 3)),(aB (R 30)),aC,(aB (U "ballrockers.errors" 187)),aC,(aB (R 0))])
 def a20:=(Y "dict" (Data.dict #[(E P "__module__" 214 (U "ballrockers.errors" 187)),(E P "__firstlineno__" 218 (I 4 217)),(E P "__static_attributes__" 219 (R 35)),(E P "__doc__" 220 O)] 2))
 def a21:=(Obj.mk (Value.type "type") aC (Data.cls (ClassData.mk (S "NoBoard") [(R 24)] [(R 37),(R 24),(Value.type "ValueError"),(Value.type "Exception"),(Value.type "BaseException"),(Value.type "object")] 36 (S "NoBoard") true [] [] false aC false)) #[(aB (R 28)),aC,(aB (U "NoBoard" 207)),(aB (U "NoBoard" 215)),(aB (Value.builtin "ValueError.__new__")),(aB (Value.bool true))])
 def a22:=(Y "super" (A #[(R 37),(R 37),(R 37)]))
 def a23:=(Y "builtin_function_or_method" (A #[(Value.builtin "object.__init_subclass__"),(R 37)]))
 def a24:=(Y "dict" (Data.dict #[(E P "__module__" 230 (U "ballrockers.errors" 187)),(E P "__qualname__" 232 (U "Fault" 231)),(E P "__firstlineno__" 234 (I 6 233)),(E P "__init__" 243 (R 53)),(E P "__static_attributes__" 246 (R 54))] 5))
 def a25:=(X (A #[(J 8),(J 4),(R 52)]))
 def a26:=(Y "code" (A #[(U "Fault" 225),(U "Fault" 226),(V 227),(J 6),(J 0),(J 0),(J 0),(J 0),(R 43),(Value.bool false),(J 181),(R 44),O,O,O,O,(J 228),(J 6),(V 229)]))
 def a27:=(Obj.mk (Value.type "frame") aC Data.plain #[(aB (R 45)),(aB (R 3)),(aB (R 42)),aC,(aB (U "ballrockers.errors" 187)),aC,(aB (R 0))])
 def a28:=qT 238 ["self","row","column"]
 def a29:=(X (B (FuncData.mk (S "__init__") (S "Fault.__init__") (ca 3 0) (FuncBody.stmts (cb 3 0)) (cs 3 0) 0 [] O O O O aC O O 0)))
 def a30:=(Y "code" (A #[(U "__init__" 235),(U "Fault.__init__" 236),(V 237),(J 8),(J 3),(J 0),(J 0),(J 3),(R 47),(Value.bool true),(J 181),(R 48),O,(R 49),(R 50),(R 51),(J 241),(J 8),(V 242)]))
 def a31:=(Y "function" (B (FuncData.mk (S "__init__") (S "Fault.__init__") (ca 3 0) (FuncBody.stmts (cb 3 0)) (cs 3 0) 3 [] O O O (U "ballrockers.errors" 187) aC (R 52) O 0)))
 def a32:=qT 244 ["column","row"]
 def a33:=(Y "dict" (Data.dict #[(E P "__module__" 230 (U "ballrockers.errors" 187)),(E P "__firstlineno__" 234 (I 6 233)),(E P "__init__" 243 (R 53)),(E P "__static_attributes__" 246 (R 54)),(E P "__doc__" 247 O)] 2))
 def a34:=(Obj.mk (Value.type "type") aC (Data.cls (ClassData.mk (S "Fault") [(R 24)] [(R 56),(R 24),(Value.type "ValueError"),(Value.type "Exception"),(Value.type "BaseException"),(Value.type "object")] 55 (S "Fault") true [] [] false aC false)) #[(aB (R 40)),aC,(aB (U "Fault" 223)),(aB (U "Fault" 231)),(aB (Value.builtin "ValueError.__new__")),(aB (Value.bool true))])
 def a35:=(Y "super" (A #[(R 56),(R 56),(R 56)]))
 def a36:=(Y "builtin_function_or_method" (A #[(Value.builtin "object.__init_subclass__"),(R 56)]))
 def a37:=(Y "dict" (Data.dict #[(E P "__module__" 257 (U "ballrockers.errors" 187)),(E P "__qualname__" 259 (U "NoNumber" 258)),(E P "__firstlineno__" 261 (I 11 260)),(E P "__static_attributes__" 262 (R 66))] 4))
 def a38:=(Y "code" (A #[(U "NoNumber" 252),(U "NoNumber" 253),(V 254),(J 11),(J 0),(J 0),(J 0),(J 0),(R 62),(Value.bool false),(J 181),(R 63),O,O,O,O,(J 255),(J 11),(V 256)]))
 def a39:=(Obj.mk (Value.type "frame") aC Data.plain #[(aB (R 64)),(aB (R 3)),(aB (R 61)),aC,(aB (U "ballrockers.errors" 187)),aC,(aB (R 0))])
 def a40:=(Y "dict" (Data.dict #[(E P "__module__" 257 (U "ballrockers.errors" 187)),(E P "__firstlineno__" 261 (I 11 260)),(E P "__static_attributes__" 262 (R 66)),(E P "__doc__" 263 O)] 2))
 def a41:=(Obj.mk (Value.type "type") aC (Data.cls (ClassData.mk (S "NoNumber") [(R 24)] [(R 68),(R 24),(Value.type "ValueError"),(Value.type "Exception"),(Value.type "BaseException"),(Value.type "object")] 67 (S "NoNumber") true [] [] false aC false)) #[(aB (R 59)),aC,(aB (U "NoNumber" 250)),(aB (U "NoNumber" 258)),(aB (Value.builtin "ValueError.__new__")),(aB (Value.bool true))])
 def a42:=(Y "super" (A #[(R 68),(R 68),(R 68)]))
 def a43:=(Y "builtin_function_or_method" (A #[(Value.builtin "object.__init_subclass__"),(R 68)]))
 def a44:=(Y "dict" (Data.dict #[(E P "__module__" 273 (U "ballrockers.errors" 187)),(E P "__qualname__" 275 (U "NoMachine" 274)),(E P "__firstlineno__" 277 (I 13 276)),(E P "__static_attributes__" 278 (R 78))] 4))
 def a45:=(Y "code" (A #[(U "NoMachine" 268),(U "NoMachine" 269),(V 270),(J 13),(J 0),(J 0),(J 0),(J 0),(R 74),(Value.bool false),(J 181),(R 75),O,O,O,O,(J 271),(J 13),(V 272)]))
 def a46:=(Obj.mk (Value.type "frame") aC Data.plain #[(aB (R 76)),(aB (R 3)),(aB (R 73)),aC,(aB (U "ballrockers.errors" 187)),aC,(aB (R 0))])
 def a47:=(Y "dict" (Data.dict #[(E P "__module__" 273 (U "ballrockers.errors" 187)),(E P "__firstlineno__" 277 (I 13 276)),(E P "__static_attributes__" 278 (R 78)),(E P "__doc__" 279 O)] 2))
 def a48:=(Obj.mk (Value.type "type") aC (Data.cls (ClassData.mk (S "NoMachine") [(R 24)] [(R 80),(R 24),(Value.type "ValueError"),(Value.type "Exception"),(Value.type "BaseException"),(Value.type "object")] 79 (S "NoMachine") true [] [] false aC false)) #[(aB (R 71)),aC,(aB (U "NoMachine" 266)),(aB (U "NoMachine" 274)),(aB (Value.builtin "ValueError.__new__")),(aB (Value.bool true))])
 def a49:=(Y "super" (A #[(R 80),(R 80),(R 80)]))
 def a50:=(Y "builtin_function_or_method" (A #[(Value.builtin "object.__init_subclass__"),(R 80)]))
 def a51:=qT 287 ["thing"]
 def a52:=qG "is_whole" 7
 def a53:=qC "is_whole" 284 16 1 83 288
 def tF:=U "ballrockers.whole" 282
 def a54:=qF "is_whole" 7 tF 88
 def a55:=qT 294 ["thing","low","high"]
 def a56:=qG "is_whole_within" 8
 def a57:=qC "is_whole_within" 291 18 3 90 297
 def a58:=qF "is_whole_within" 8 tF 95
 def a59:=qT 303 ["thing","fewest","most"]
 def a60:=qG "is_tuple_within" 9
 def a61:=qC "is_tuple_within" 300 20 3 97 306
 def a62:=qF "is_tuple_within" 9 tF 102
 def a63:=qT 312 ["thing","fewest","most","low","high","number"]
 def a64:=qG "are_wholes_within" 10
 def a65:=qC "are_wholes_within" 309 22 5 104 318
 def a66:=qF "are_wholes_within" 10 tF 109
 def a67:=qT 336 ["board","width","groups","rows","row","places","column","piece"]
 def a68:=qG "look_at_board" 17
 def a69:=qC "look_at_board" 333 35 1 111 344
 def kU:=U "ballrockers.boards" 321
 def a70:=qF "look_at_board" 17 kU 116
 def a71:=qT 350 ["board","width","groups","rows","feeders","doors"]
 def a72:=qG "is_board_but_for_places" 18
 def a73:=qC "is_board_but_for_places" 347 43 1 118 356
 def a74:=qF "is_board_but_for_places" 18 kU 123
 def a75:=qT 362 ["thing","width","places"]
 def a76:=qG "are_rows" 19
 def a77:=qC "are_rows" 359 52 2 125 365
 def a78:=qF "are_rows" 19 kU 130
 def a79:=qT 371 ["thing","width","feeders","door"]
 def a80:=qG "are_doors" 20
 def a81:=qC "are_doors" 368 59 3 132 375
 def a82:=qF "are_doors" 20 kU 137
 def a83:=qT 381 ["thing","feeders","name","call"]
 def a84:=qG "is_door" 21
 def a85:=qC "is_door" 378 66 2 139 385
 def a86:=qF "is_door" 21 kU 144
 def a87:=qT 391 ["thing","feeders"]
 def a88:=qG "is_feeder_or_none" 22
 def a89:=qC "is_feeder_or_none" 388 71 2 146 393
 def a90:=qF "is_feeder_or_none" 22 kU 151
 def a91:=qT 399 ["piece","column","width","groups"]
 def a92:=qG "may_stand" 23
 def a93:=qC "may_stand" 396 73 4 153 403
 def a94:=qF "may_stand" 23 kU 158
 def Ra:List Obj:=((Q7 P).set 3 (a4 P)).set 12 a5++[a6,a7,(a8 P),a0,a1,a9,IF,a0,(a11 P),a12,a13,a14,a15,FT,a7,(a17 P),a0,a1,a18,a19,a0,(a20 P),a21,a22,a23,FT,a7,(a24 P),a0,a25,a26,a27,a0,a1,a28,a0,a29,a30,a31,a32,(a33 P),a34,a35,a36,FT,a7,(a37 P),a0,a1,a38,a39,a0,(a40 P),a41,a42,a43,FT,a7,(a44 P),a0,a1,a45,a46,a0,(a47 P),a48,a49,a50,a0,a1,a51,a0,a52,a53,a54,a0,a1,a55,a0,a56,a57,a58,a0,a1,a59,a0,a60,a61,a62,a0,a1,a63,a0,a64,a65,a66,a0,a1,a67,a0,a68,a69,a70,a0,a1,a71,a0,a72,a73,a74,a0,a1,a75,a0,a76,a77,a78,a0,a1,a79,a0,a80,a81,a82,a0,a1,a83,a0,a84,a85,a86,a0,a1,a87,a0,a88,a89,a90,a0,a1,a91,a0,a92,a93,a94]
 def t0:=qB 20 (Ra P)
noncomputable def s0(w:aj)(os:av):SharedT:=⟨t0 w.params,160,life,(Array.mk []),(Drawn.mk 0 0 0 0),406,os⟩
noncomputable def jg:List aq:=(bd.drop 0).take 24
set_option maxHeartbeats 0 in
theorem Kw(w:aj)(os:av):segRun treeTable p w m0 ann 1 1497 (sb w os).abs (piecesOf jg env cd (Pos.mk 0 0 0 0) fr)=aB (.next,(s0 w os).abs,cd,(Pos.mk 73 0 80 39)):=uT (by kernel_rfl)
 def Ky:=(Q8 P++[(E P "is_rocker" 415 (R 166)),(E P "MOST_STANDS" 421 (I 1000000000 420)),(E P "least_groups" 431 (R 173)),(E P "row_of" 439 (R 178)),(E P "turning_rows" 445 (R 183)),(E P "binary" 455 (R 190)),(E P "LEFT" 460 (I (-1) 459)),(E P "STRAIGHT" 462 (I 0 461)),(E P "RIGHT" 464 (I 1 463)),(E P "fallen" 481 (R 198)),(E P "heading_behind" 494 (R 206)),(E P "MOST_STATES" 498 (I 16 497)),(E P "MOST_TOGETHER" 500 (I 16 499)),(E P "PLAIN_DOOR" 503 (R 207)),(E P "machine_board" 509 (R 212)),(E P "is_machine" 515 (R 217)),(E P "is_state" 521 (R 222)),(E P "is_pair" 531 (R 229)),(E P "parting_board" 537 (R 234)),(E P "forks_of" 543 (R 239)),(E P "joined_columns" 549 (R 244)),(E P "fork_rows" 555 (R 249)),(E P "_law_cell" 565 (R 256)),(E P "_law_mixed" 575 (R 263)),(E P "_law_deck" 581 (R 268)),(E P "_law_take" 590 (R 275)),(E P "_law_machine" 596 (R 280)),(E P "_law_number" 605 (R 287)),(E P "_law_is_piece" 615 (R 294)),(E P "_law_is_board" 621 (R 299)),(E P "_law_groups" 630 (R 306)),(E P "_law_are_states" 636 (R 311)),(E P "law" 642 (R 316))])
 def a95:=Y "dict" (Data.dict ((E P "__name__" 165 (U "law_ballrockers_k52_machine_boards" 556))::Ky P).toArray 63)
 def Kz:List (Int×Nat):=Q9++[(81,165),(88,172),(98,177),(100,182),(102,189),(112,197),(128,205),(146,211),(165,216),(171,221),(173,228),(178,233),(189,238),(191,243),(193,248),(201,255),(205,262),(208,267),(210,274),(219,279),(229,286),(231,293),(240,298),(261,305),(268,310),(277,315)]
 def a96:=X (A (qJ Kz).toArray)
 def a97:=qT 409 ["thing","groups","group","side"]
 def a98:=qG "is_rocker" 24
 def a99:=qC "is_rocker" 406 81 2 160 413
 def KA:=qF "is_rocker" 24 kU 165
 def KC:=qT 425 ["stands","feeders","groups","reached"]
 def KD:=qG "least_groups" 27
 def KG:=qC "least_groups" 422 88 2 167 429
 def KH:=qF "least_groups" 27 (U "ballrockers.groups" 416) 172
 def KI:=qG "row_of" 29
 def KJ:=qD "row_of" 434 98 2 174 437
 def xF:=U "ballrockers.making" 432
 def KL:=qF "row_of" 29 xF 177
 def KN:=qG "turning_rows" 30
 def KO:=qD "turning_rows" 440 100 2 179 443
 def KP:=qF "turning_rows" 30 xF 182
 def KQ:=qT 449 ["number","size","found","at"]
 def KR:=qG "binary" 31
 def KS:=qC "binary" 446 102 2 184 453
 def KU:=qF "binary" 31 xF 189
 def CV:=(Y "tuple" (Data.seq #[O] 0))
 def KW:=qT 468 ["board","leans","feeder","fault","column","columns","turned","leaning","heading","places","piece"]
 def KY:=qG "fallen" 36
 def KZ:=qC "fallen" 465 112 4 192 479
 def K0:=(Y "function" (B (G "fallen" 36 3 [] (R 191) O O (U "ballrockers.ways" 456) aC (R 197) O 0)))
 def K1:=qT 485 ["piece","heading","leaning","fault","group","side","lean"]
 def K4:=qG "heading_behind" 37
 def K5:=qC "heading_behind" 482 128 4 200 492
 def K8:=(Y "function" (B (G "heading_behind" 37 3 [] (R 199) O O (U "ballrockers.ways" 456) aC (R 205) O 0)))
 def K9:=(Y "tuple" (Data.seq #[(I 0 501),(I 0 502)] 0))
 def La:=qG "machine_board" 42
 def Lb:=qD "machine_board" 504 146 1 208 507
 def kW:=U "ballrockers.machines" 495
 def Lc:=qF "machine_board" 42 kW 211
 def Ld:=qG "is_machine" 43
 def Le:=qD "is_machine" 510 165 1 213 513
 def Lg:=qF "is_machine" 43 kW 216
 def Lh:=qG "is_state" 44
 def Li:=qD "is_state" 516 171 3 218 519
 def Lj:=qF "is_state" 44 kW 221
 def Lk:=qT 525 ["thing","states","name","following"]
 def Ll:=qG "is_pair" 45
 def Lm:=qC "is_pair" 522 173 2 223 529
 def Ln:=qF "is_pair" 45 kW 228
 def Lo:=qG "parting_board" 46
 def Lp:=qD "parting_board" 532 178 2 230 535
 def Lq:=qF "parting_board" 46 kW 233
 def Lr:=qG "forks_of" 47
 def Lu:=qD "forks_of" 538 189 1 235 541
 def Lv:=qF "forks_of" 47 kW 238
 def Lw:=qG "joined_columns" 48
 def Lx:=qD "joined_columns" 544 191 2 240 547
 def Ly:=qF "joined_columns" 48 kW 243
 def Lz:=qG "fork_rows" 49
 def LA:=qD "fork_rows" 550 193 3 245 553
 def LB:=qF "fork_rows" 49 kW 248
 def LC:=qT 561 ["_law_script","_law_k"]
 def LD:=qG "_law_cell" 51
 def LF:=qC "_law_cell" 558 201 2 250 563
 def i6:=U "law_ballrockers_k52_machine_boards" 556
 def LG:=qF "_law_cell" 51 i6 255
 def LH:=qT 569 ["_law_script","_law_k","_law_many","_law_number_here"]
 def LI:=qG "_law_mixed" 52
 def LJ:=qC "_law_mixed" 566 205 3 257 573
 def LK:=qF "_law_mixed" 52 i6 262
 def LM:=qG "_law_deck" 53
 def LN:=qD "_law_deck" 576 208 1 264 579
 def LO:=qF "_law_deck" 53 i6 267
 def LP:=qT 585 ["_law_deck_here","_law_many","_law_cell_here"]
 def LQ:=qG "_law_take" 54
 def LR:=qC "_law_take" 582 210 2 269 588
 def LS:=qF "_law_take" 54 i6 274
 def LU:=qG "_law_machine" 55
 def LV:=qD "_law_machine" 591 219 1 276 594
 def LW:=qF "_law_machine" 55 i6 279
 def LX:=qT 600 ["_law_thing","_law_low","_law_high"]
 def LY:=qG "_law_number" 56
 def LZ:=qC "_law_number" 597 229 3 281 603
 def L0:=qF "_law_number" 56 i6 286
 def L1:=qT 609 ["_law_piece","_law_column","_law_width","_law_groups_here"]
 def L4:=qG "_law_is_piece" 57
 def L5:=qC "_law_is_piece" 606 231 4 288 613
 def L6:=qF "_law_is_piece" 57 i6 293
 def L7:=qG "_law_is_board" 58
 def L8:=qD "_law_is_board" 616 240 1 295 619
 def Ma:=qF "_law_is_board" 58 i6 298
 def Mb:=qT 625 ["_law_many","_law_groups_here","_law_leans"]
 def Mc:=qG "_law_groups" 59
 def Me:=qC "_law_groups" 622 261 1 300 628
 def Mf:=qF "_law_groups" 59 i6 305
 def Mg:=qG "_law_are_states" 60
 def Mh:=qD "_law_are_states" 631 268 3 307 634
 def Mj:=qF "_law_are_states" 60 i6 310
 def Mk:=qG "law" 61
 def Ml:=qD "law" 637 277 1 312 640
 def Mm:=qF "law" 61 i6 315
 def Mn:List Obj:=((Ra P).set 3 (a95 P)).set 12 a96++[a0,a1,a97,a0,a98,a99,KA,a0,a1,KC,a0,KD,KG,KH,a0,a1,KI,KJ,KL,a0,a1,KN,KO,KP,a0,a1,KQ,a0,KR,KS,KU,CV,a0,a1,KW,a0,KY,KZ,K0,CV,a0,a1,K1,a0,K4,K5,K8,K9,a0,a1,La,Lb,Lc,a0,a1,Ld,Le,Lg,a0,a1,Lh,Li,Lj,a0,a1,Lk,a0,Ll,Lm,Ln,a0,a1,Lo,Lp,Lq,a0,a1,Lr,Lu,Lv,a0,a1,Lw,Lx,Ly,a0,a1,Lz,LA,LB,a0,a1,LC,a0,LD,LF,LG,a0,a1,LH,a0,LI,LJ,LK,a0,a1,LM,LN,LO,a0,a1,LP,a0,LQ,LR,LS,a0,a1,LU,LV,LW,a0,a1,LX,a0,LY,LZ,L0,a0,a1,L1,a0,L4,L5,L6,a0,a1,L7,L8,Ma,a0,a1,Mb,a0,Mc,Me,Mf,a0,a1,Mg,Mh,Mj,a0,a1,Mk,Ml,Mm]
 def t1:=qB 20 (Mn P)
noncomputable def s1(w:aj)(os:av):SharedT:=⟨t1 w.params,317,life,(Array.mk []),(Drawn.mk 0 0 0 0),643,os⟩
noncomputable def st1:List aq:=(bd.drop 24).take 38
set_option maxHeartbeats 0 in
theorem Mp(w:aj)(os:av):segRun treeTable p w m0 ann 1 878 (s0 w os).abs (piecesOf st1 env cd (Pos.mk 73 0 80 39) fr)=aB (.next,(s1 w os).abs,cd,(Pos.mk 277 0 288 129)):=uT (by kernel_rfl)
 def hz:az:=Heap.mk (Array.mk (Mn P)) (Life.mk [] [] [] 0 [] [] false #[] [] 0 false false false 0 [2000,10,10] false 0 true [] [] 0 false)
noncomputable def sz(w:aj)(os:av):af:=⟨hz w.params,(Array.mk []),(Drawn.mk 0 0 0 0),643,os⟩
set_option maxHeartbeats 0 in
theorem fin(w:aj)(os:av):topRun treeTable p w m0 ann 2 (s1 w os).abs ⟨doneF .next,cd,(Pos.mk 277 0 288 129),fr⟩=aB (sz w os):=CU (by kernel_rfl)
 def as:List ah:=[2,3,15,22,23,24,25,28,35,36,37,40,47,49,50,52,53,54,55,56,59,66,67,68,71,78,79,80,83,85,86,88,89,90,92,93,95,96,97,99,100,102,103,104,106,107,109,110,111,113,114,116,117,118,120,121,123,124,125,127,128,130,131,132,134,135,137,138,139,141,142,144,145,146,148,149,151,152,153,155,156,158,159,160,162,163,165,166,167,169,170,172,173,174,177,178,179,182,183,184,186,187,189,190,191,192,194,195,197,198,199,200,202,203,205,206,207,208,211,212,213,216,217,218,221,222,223,225,226,228,229,230,233,234,235,238,239,240,243,244,245,248,249,250,252,253,255,256,257,259,260,262,263,264,267,268,269,271,272,274,275,276,279,280,281,283,284,286,287,288,290,291,293,294,295,298,299,300,302,303,305,306,307,310,311,312,315,316]
 def K:Frag:=as.map λi=>(i,(Mn P).getD i a0)
noncomputable def M0:Nat:=(12+ (1+ (1497+ (878+2))))
theorem CW:bd=jg++(st1++([])):=by kernel_rfl
theorem rest(w:aj)(os:av):topRun treeTable p w m0 ann (1497+ (878+ (2))) (sb w os).abs (restOf bd env cd (Pos.mk 0 0 0 0) fr)=aB (sz w os):=by rw[show restOf bd env cd (Pos.mk 0 0 0 0) fr=restOf (jg++(st1++([]))) env cd (Pos.mk 0 0 0 0) fr from nR (λb=>restOf b env cd (Pos.mk 0 0 0 0) fr) CW];exact(piece_app (Kw w os) (piece_app (Mp w os) (piece_nil (fin w os))))
theorem run(w:aj)(os:av):topRun treeTable p w m0 ann M0 ⟨boot_heap w.params,Array.mk [],boot_drawn,boot_toks,os⟩ (topStub p)=aB (sz w os):=
 go_top (pre w os) (piece_block (block w os) (rest w os))
noncomputable def pW:Nat:=61
noncomputable def zyy:Pos:=(Pos.mk 277 0 288 129)
noncomputable def q:ai:={p with main:={p.main with body:=keep.map (xE p.main.body)}}
theorem CY:∀P,as=(K P).map (·.1):=λ_=>by kernel_rfl
noncomputable def H:Hook:=kHook K as CY
noncomputable def Xt(s:af):Bool:=xlAt q [] s&&recOk [] s
theorem zyz(w:aj)(os:av):(staticsOk (importedModules p.main.body) (boot_heap w.params) (hz w.params)&&namesBound p (hz w.params)&&gensDone (sz w os)&&laidKept (boot_heap w.params) (hz w.params))=true:=by rw[PySem.W.Fast.te5923862056798008813];kernel_rfl
theorem zy0(w:aj)(os:av):seen ((recsOf q).map (·.name)) (ownsOf q) [] {sz w os with gens:=#[]}=expectedOf q:=by rw[PySem.W.Fast.te5160383126252970620,PySem.W.R.mapR_eq,PySem.W.Fast.te3399658132070893891,PySem.W.Fast.te5991557255702980513];kernel_rfl
theorem CZ(w:aj)(os:av):(sz w os).heap.bltView=bltViewBooted:=by kernel_rfl
theorem zy1(w:aj)(os:av):((sz w os).heap.keysOk (looseW q lo) ((recsOf q).map (·.name)) ((litsOf q).map (·.1)) ((clssOf q (looseW q lo)).map (·.name))&& (sz w os).heap.accountedOkI (importedModules p.main.body)&& (sz w os).heap.isNs mainGlobals&& (sz w os).heap.isNs builtinsNs&&tablesOk q (sz w os).heap&&Xt (sz w os)&& (if true=true then(sz w os).gens.size==0 else !leftWithCleanup (sz w os).gens))=true:=by rw[PySem.W.Fast.te10880121769531294198,PySem.W.Fast.te821141287760084731,PySem.W.R.mapR_eq,PySem.W.Fast.te3399658132070893891,PySem.W.Fast.te7409074990110511671,PySem.W.Fast.te13664370479719496447,PySem.W.Fast.te14722251495701143533,PySem.W.Fast.te10994771534591457954,PySem.W.Fast.te5923862056798008813];kernel_rfl
theorem zy2(w:aj)(os:av):tabsOk q (sz w os)=true:=by rw[PySem.W.Fast.te479339242167458305];kernel_rfl
theorem C0(w:aj)(os:av):pinSeenD q (drecsOf q) (sz w os)=pinGoodD (drecsOf q):=by rw[PySem.W.Fast.te16090120013241838585,PySem.W.Fast.te3247288618530077131];kernel_rfl
theorem C1(w:aj)(os:av):plainSeenE q (looseW q lo) (sz w os)=plainGoodE q (looseW q lo):=by rw[PySem.W.Fast.te2386780881361962483,PySem.W.Fast.te821141287760084731];kernel_rfl
theorem C2(w:aj)(os:av):plainSeenD q lo (sz w os)=plainGoodD q lo:=by rw[PySem.W.Fast.te11698064438423848299];kernel_rfl
theorem zy3(w:aj)(os:av):wideSeen q (sz w os)=wideGood q:=by rw[PySem.W.Fast.te7317090234206586261];kernel_rfl
theorem C3(w:aj)(os:av):clsSeenW q lo (sz w os)=clsGoodW q lo:=by rw[PySem.W.Fast.te7369524293546568484];kernel_rfl
theorem zy4(w:aj)(os:av):as.map (sz w os).heap.get?=(K w.params).map λp=>aB p.2:=by kernel_rfl
theorem left:LeftO p q lo Xt (Hook.obs H) (Hook.val H) N0 true:=
 LeftO.of_pieces (H₀:=boot_heap) (H₁:=hz) (boot_open (by kernel_rfl) (by kernel_rfl) (λs=>by kernel_rfl)) (λw=>by kernel_rfl) run (by kernel_rfl)
  (λw=>funext λos=>looks_pair (zyz w os) (looks_pair
    (looks_pair (zy0 w os) (looks_pair (CZ w os) (looks_pair (zy1 w os) (looks_pair (zy2 w os) (looks_pair (C0 w os) (looks_pair (C1 w os) (looks_pair (C2 w os) (looks_pair (zy3 w os) (C3 w os)))))))))
    (zy4 w os)))
noncomputable def df:DefRec:=⟨S "law",fa pW,fb pW,fs pW,zyy⟩
theorem C4:defOf q (S "law")=aB (df,[]):=by kernel_rfl
theorem holds(l:OpenLaw)(hp:l.prog=p)(hn:l.name=S "law")(ok:l.wellSaid)(hch:(chainsOk q&&opensWell p&& (frees l.row.toRowW&&l.row.within.isEmpty)))(hb:l.row.toRowW.prog.bare)(hw:l.row.toRowW.promised)
 (hwr:(!l.row.writes||l.row.records.isEmpty)) (hk:p.theDef (S "law")=aB (df.params,df.body,df.scope)) (hkw:kwWritten? df.params.kwonlyargs df.params.kw_defaults=aB [])
 (call:WalkO q lo (XL q []) (Hook.says H) l.row.toRowW df [] λf vs=>PySem.call f vs):l.Holds:=
 holds_law ok λsaid=>PySem.W.holds_open (q:=q) (loose:=lo) (Xt:=Xt) (XP:=XL q []) (Yf:=Hook.obs H) (Ya:=Hook.val H) (YP:=Hook.says H) (N:=N0) (r:=l.row) (by have h:l.row.toRowW.prog=p:=hp;show LeftO l.row.toRowW.prog q lo Xt (Hook.obs H) (Hook.val H) N0 true;rw[h];exact left) (Hook.of H) (Hook.keeps H) (λs e=>xl_of s (Bool.and_eq_true_iff.mp e).1) XL.keeps
  (by show defOf q l.name=_;rw[hn];exact C4) (by show l.prog.theDef l.name=_;rw[hp,hn];exact hk) hkw (λs e=>recFacts_of (Bool.and_eq_true_iff.mp e).2) hwr said (by have h:l.row.toRowW.prog=p:=hp;rw[h];exact hch) hb hw call
end
end
end HD
namespace RF
noncomputable def Rb:List PySem.Str:=(["is_whole","is_whole_within","_law_cell","_law_deck","_law_mixed","_law_take","is_tuple_within","are_wholes_within","are_doors","are_rows","is_board_but_for_places","is_door","is_feeder_or_none","is_rocker","look_at_board","may_stand"]++bI 16 "" ++ ["least_groups","row_of"]++bI 2 "" ++ ["turning_rows"]++bI 4 "" ++ ["binary"]++bI 25 "" ++ ["fork_rows","forks_of","is_machine","is_pair","is_state","joined_columns"]++bI 4 "" ++ ["parting_board"]++bI 24 "" ++ ["_law_number"]++bI 10 "" ++ ["_law_machine"]++bI 35 "" ++ ["_law_groups"]++bI 2 "" ++ ["_law_is_board"]++bI 2 "" ++ ["_law_is_piece"]++bI 17 "" ++ ["heading_behind","fallen"]++bI 12 "" ++ ["machine_board"]++bI 512 "" ++ ["_law_are_states","law"]).map bN
noncomputable def Rc:List Fn:=[wD,BZ,EH,B0,IG,rW,rY,B4,II,IJ,wG,rZ,wH,se,wI,wJ]++bI 16 gY++[wK,sf]++bI 2 gY++[wL]++bI 4 gY++[sj]++bI 25 gY++[wM,wN,sr,su,sy,wO]++bI 4 gY++[sA]++bI 24 gY++[kN]++bI 10 gY++[mz]++bI 35 gY++[jA]++bI 2 gY++[kO]++bI 2 gY++[iV]++bI 17 gY++[eN,mC]++bI 12 gY++[mD]++bI 512 gY++[E4,E5]
theorem c52:FQ λi=>Rc[i]?:=by repeat' (first|rfl|constructor)
end RF
set_option maxHeartbeats 0 in
theorem RF.Mq(P:PySem.Params):RF.jz (HD.K P) RF.Rb 60 60=aB RF.Rc:=by kernel_rfl
open PySem PySem.W PyProof.Rows
set_option maxRecDepth 100000 in
set_option maxHeartbeats 0 in
theorem PySem.Challenge.cw_ballrockers_k52_machine_boards_holds : PySem.Challenge.rw_ballrockers_k52_machine_boards.Holds := by
 refine HD.holds _ rfl rfl RF.pa52 (by kernel_rfl) ⟨rfl,rfl,rfl,rfl,rfl,by decide +kernel⟩ ?hw rfl (by kernel_rfl) (by kernel_rfl) ?call
 (case hw=>w_witness2)
 refine RF.Ys RF.Rb 60 60 30 701 rfl (by kernel_rfl) ⟨rfl,by decide,by decide⟩ (λw h Y=>PySem.W.kIn_of Y) (by kernel_rfl) (by decide +kernel) ?b ?c
 (case c=>intro w;kernel_rfl)
 (case b=>
   intro w ns hl
   exact RF.Yr (RF.Mq _) (RF.CS RF.c52 hl))
