import PyProof.Rows.All
import Wide.All
import OpenK.AllK
import Wide.FinOn
import Lean
import PyProof.EqAt
import PyProof.EqKinds
import PyProof.TupleCall
import KE.KUnpack
import PySem.Challenge.RW_ballrockers_k24_word_papers
set_option Elab.async false
set_option linter.all false
set_option genSizeOf false
set_option maxRecDepth 100000
set_option maxHeartbeats 0 in
theorem RF.pa24:PySem.Challenge.rw_ballrockers_k24_word_papers.wellSaid=true:=by kernel_rfl
def vaz:=@decide_eq_false
def va0:=@decide_eq_true_eq
def vbg:=@decide_eq_true
def vbi:=@of_decide_eq_true
def vbl:=@if_false
def vbm:=@if_true
def vdu:=@congrArg
def vdw:=@or_false
open PySem renaming wpAny_bind->vaa,wpAny_pure->vag,wpAny_callSpecial?_slot->vbr,wpAny_newObj_type->vbu,wpAny_field->vbw,wpAny_truthy_bool->vby,wpAny_call_entry->vb6,wpAny_seqItems->vcj,wpAny_pyIter_tuple->vco,wpAny_holding->vc1,wpAny_setField_rec->vc2,wpAny_passesOwn->vc8,wpAny_pyIter_list->vc9,mem_of_lookup->vdb,wpAny_mono->vdf,wpAny_specialOf->vdn,wpAny_Call_Name_kw->vd2,sizeLine_eq->vd7,wpAny_isInstance->vec,wpAny_forIn_list->ved,call_meets->ven,wpAny_rule->veo,wpAny_standAt->vep,wpAny_onRaise->ver,wpAny_typeOf->vet,wpAny_letGo->vew
open Bool renaming and_eq_true->vab,false_eq_true->vap,false_and->vb3,not_true->vck,or_eq_true->vcn,true_and->vdd,not_false->vdh,false_ne_true->vdk,and_false->vdt,and_self->vd5
open Nat renaming le_refl->vac,lt_of_lt_of_le->vak,le_of_ble_eq_true->va9,ne_of_lt->vbd,le_trans->vbe,zero_le->vbk,lt_of_le_of_lt->vbv,lt_succ_self->vbx,zero_add->vb2,not_lt->vch,ne_of_gt->vcl,lt_irrefl->vcr,le_add_right->vde,eq_of_beq_eq_true->vdo,le_succ->vdy,add_le_add_left->vdz,ble_eq->vd1,le_of_lt->veb,min_eq_left->vem,add_assoc->ves
open List renaming length_map->vad,length_append->vaf,mem_cons_of_mem->vai,length_cons->vaj,mem_cons_self->vam,map_cons->van,size_toArray->vao,set_cons_zero->vaq,getElem?_cons_succ->vas,mem_singleton->vat,set_cons_succ->vau,getElem?_eq_getElem->vav,getElem?_cons_zero->vaw,mem_cons->vax,length_singleton->va1,getElem?_eq_some_iff->va3,mem_append_right->va6,lookup_cons->va8,getElem?_append_right->vbb,append_nil->vbc,getElem?_map->vbf,getElem?_eq_none_iff->vbh,mem_append->vbj,find?_cons->vbo,all_eq_true->vbp,not_mem_nil->vbq,replicate_succ->vbs,getD_eq_getElem?_getD->vbz,zip_cons_cons->vb0,mem_map->vb1,nil_append->vb4,map_append->vb5,cons_append->vb7,mem_of_getElem?->vcb,map_nil->vcc,getElem_mem->vcd,getElem?_set_self->vce,filterMap_cons->vcf,flatten_cons->vcg,getElem?_append_left->vci,length_nil->vcm,length_drop->vcp,mem_append_left->vcq,all_cons->vcs,nodup_append->vcu,length_set->vcx,length_take->vcz,filter_cons->vc0,getElem?_eq_none->vc3,length_filter_le->vc4,drop_eq_getElem_cons->vc5,drop_zero->vc6,getElem?_set_ne->vc7,append_assoc->vda,length_reverse->vdc,forIn_nil->vdg,drop_eq_nil_of_le->vdj,nodup_cons->vdl,forIn_cons->vdm,set_append_right->vdp,reverse_cons->vdq,length_dropLast->vds,reverse_nil->vdx,length_zipWith->vd0,of_mem_zip->vd3,mem_range->vea,map_take->vef,mem_filter->veg,take_left'->vej,drop_left'->vek,any_cons->veq
open PySem.Heap renaming get?_push_of_some->vae,lt_size->vay,get?_push_size->va2,size_push->vct
open Option renaming map_some->vah,join_some->va4
open Int renaming eq_ofNat_of_zero_le->va5,toNat_natCast->vb9,emod_lt_of_pos->vd6,emod_nonneg->vel,ofNat_le->vev
open PyProof.Rows renaming slot_tuple_getitem->va7,callWith_type1->vcw
open PySem.AutoSeq1 renaming wpAny_loadPart'->vba
open Option.some renaming inj->vbn,injEq->vd9
open PySem.W renaming kia_one->vbt
open PySem.W.Fast renaming te14364793385576792824->vb8
open Ne renaming symm->vca
open Array renaming length_toList->vcv
open PySem.F renaming slot_tuple_iterator_next->vcy,slot_NoneType_hash->vdr,slot_tuple_mul->vdv,slot_tuple_hash->vd8,slot_zip_next->veh,slot_tuple_eq->vei
open PySem.SeqAt renaming canLay_of_shaped->vdi
open List.cons renaming injEq->vd4
open PySem.Paired renaming length->vee
open LawfulMonad renaming pure_bind->veu
namespace L2
open PySem PySem.Spec PyProof.Rows
noncomputable abbrev Key:=Sum Int Str
noncomputable def keyIs:Key->Value->Bool
 |.inl k,v=>Value.isInt k v
 |.inr x,v=>Value.isStrOf x v
noncomputable def keyH(w:World):Key->Int
 |.inl k=>hashInt k
 |.inr x=>hashStr w x
theorem za0:∀{k:Key} {v:Value},keyIs k v=true->(∃i t,k=Sum.inl i/\v=Value.int i t)\/(∃x t,k=Sum.inr x/\v=Value.str x t)
 |.inl i,v,h=>by
  obtain⟨t,e⟩:=Value.isInt_shape (k:=i) (v:=v) h
  exact .inl ⟨i,t,rfl,e⟩
 |.inr x,v,h=>by
  obtain⟨t,e⟩:=Value.isStrOf_shape (x:=x) (v:=v) h
  exact .inr ⟨x,t,rfl,e⟩
theorem zmv(i:Int)(t:Tok):keyIs (.inl i) (.int i t)=true:=by simp[keyIs,Value.isInt]
theorem zmw(x:Str)(t:Tok):keyIs (.inr x) (.str x t)=true:=by simp[keyIs,Value.isStrOf]
theorem zvx(a b:Int):decide ((Sum.inl a:Key)=Sum.inl b)=(a==b):=by
 by_cases e:a=b
 .subst e;simp
 .have h:¬(Sum.inl a:Key)=Sum.inl b:=λq=>e (Sum.inl.inj q)
  rw[vaz h]
  exact(beq_eq_false_iff_ne.mpr e).symm
theorem zvy(a b:Str):decide ((Sum.inr a:Key)=Sum.inr b)=decide (a=b):=by
 by_cases e:a=b
 .subst e;simp
 .have h:¬(Sum.inr a:Key)=Sum.inr b:=λq=>e (Sum.inr.inj q)
  rw[vaz h,vaz e]
theorem zvz(a:Int)(b:Str):decide ((Sum.inl a:Key)=Sum.inr b)=false:=vaz (λq=>nomatch q)
theorem zv0(a:Str)(b:Int):decide ((Sum.inr a:Key)=Sum.inl b)=false:=vaz (λq=>nomatch q)
noncomputable def za6(prog:Program)(w:World):PySem.KeyKind prog w Key where
 is:=keyIs
 hash:=keyH w
 inj:=λv a b ha hb=>by
  rcases za0 ha with⟨i,t,rfl,rfl⟩|⟨x,t,rfl,rfl⟩
  .rcases za0 hb with⟨j,u,rfl,e⟩|⟨y,u,rfl,e⟩
   .injection e with e1 _;rw[e1]
   .exact nomatch e
  .rcases za0 hb with⟨j,u,rfl,e⟩|⟨y,u,rfl,e⟩
   .exact nomatch e
   .injection e with e1 _;rw[e1]
 byValue:=λk v h=>by
  rcases za0 h with⟨i,t,rfl,rfl⟩|⟨x,t,rfl,rfl⟩<;>rfl
 pyHash:=λhv h=>by
  rcases za0 hv with⟨i,t,rfl,rfl⟩|⟨x,t,rfl,rfl⟩
  .exact wpAny_pyHash_int h
  .exact wpAny_pyHash_str h
 eqBool:=λhu hv h=>by
  rcases za0 hu with⟨i,t,rfl,rfl⟩|⟨x,t,rfl,rfl⟩
  .rcases za0 hv with⟨j,u,rfl,rfl⟩|⟨y,u,rfl,rfl⟩
   .rw[zvx]at h;exact wpAny_eqBool_int h
   .rw[zvz]at h;exact SeqAt.EqAt.int_str i t y u _ _ _ _ h
  .rcases za0 hv with⟨j,u,rfl,rfl⟩|⟨y,u,rfl,rfl⟩
   .rw[zv0]at h;exact SeqAt.EqAt.str_int x t j u _ _ _ _ h
   .rw[zvy]at h;exact wpAny_eqBool_str h
 «strs»:=λk x t v h=>by
  rcases za0 h with⟨i,u,rfl,e⟩|⟨y,u,rfl,e⟩
  .exact nomatch e
  .injection e with e1 _
   subst e1
   cases v<;>rfl
theorem zjo(prog:Program)(w:World)(i:Int)(t:Tok):(za6 prog w).is (.inl i) (.int i t)=true:=zmv i t
theorem zjp(prog:Program)(w:World)(x:Str)(t:Tok):(za6 prog w).is (.inr x) (.str x t)=true:=zmw x t
inductive V where
 |non|bl (b:Bool)|int (i:Int)|str (x:Str)|byt (b:Array UInt8)|flt (b:UInt64)|ref (a:Addr)|ty (n:String)
 deriving DecidableEq
noncomputable def RelV:V->Value->Prop
 |.non,u=>u=Value.none
 |.bl b,u=>u=Value.bool b
 |.int i,u=>∃t,u=Value.int i t
 |.str x,u=>∃t,u=Value.str x t
 |.byt b,u=>∃t,u=Value.bytes b t
 |.flt b,u=>∃t,u=Value.float b t
 |.ref a,u=>u=Value.ref a
 |.ty n,u=>u=Value.type n
noncomputable abbrev Vals:List V->List Value->Prop:=Paired RelV
theorem Vals.length(r:Vals xs us):xs.length=us.length:=vee r
theorem Vals.get:∀{xs:List V} {us:List Value} {i:Nat} {x:V},Vals xs us->xs[i]?=some x->∃u,us[i]?=some u/\RelV x u
 |_,_,_,_,.nil,e=>by simp at e
 |_,_,0,_,.cons r _,e=>by simp at e;subst e;exact⟨_,rfl,r⟩
 |_,_,i+1,x,.cons _ t,e=>by
  obtain⟨u,h1,h2⟩:=Vals.get (i:=i) (x:=x) t (by simpa using e)
  exact⟨u,by simpa using h1,h2⟩
theorem Vals.set(r:RelV x u):∀{xs:List V} {us:List Value} (i:Nat),Vals xs us->Vals (xs.set i x) (us.set i u)
 |_,_,_,.nil=>.nil
 |_,_,0,.cons _ t=>.cons r t
 |_,_,i+1,.cons q t=>.cons q (Vals.set r i t)
theorem Vals.append:∀{xs ys:List V} {us ws:List Value},Vals xs us->Vals ys ws->Vals (xs++ys) (us++ws)
 |_,_,_,_,.nil,s=>s
 |_,_,_,_,.cons r t,s=>.cons r (Vals.append t s)
theorem Vals.take:∀{xs:List V} {us:List Value} (n:Nat),Vals xs us->Vals (xs.take n) (us.take n)
 |_,_,0,_=>.nil
 |_,_,_+1,.nil=>.nil
 |_,_,n+1,.cons r t=>.cons r (Vals.take n t)
theorem Vals.drop:∀{xs:List V} {us:List Value} (n:Nat),Vals xs us->Vals (xs.drop n) (us.drop n)
 |_,_,0,r=>r
 |_,_,_+1,.nil=>.nil
 |_,_,n+1,.cons _ t=>Vals.drop n t
noncomputable def RelO:Option V->Option Value->Prop
 |some v,some u=>RelV v u
 |none,none=>True
 |_,_=>False
noncomputable def KV{κ:Type}:List (κ×V)->List (κ×Value)->Prop:=Paired λ(p:κ×V) (q:κ×Value)=>p.1=q.1/\RelV p.2 q.2
noncomputable def kV:Key->V
 |.inl i=>.int i
 |.inr x=>.str x
inductive HO where
 /-- a list -/
 |lst (xs:List V)
 /-- a tuple (never changes) -/
 |tup (xs:List V)
 /-- a dict whose keys are ints and texts;one whose keys are tuples of ints and texts (the empty one is both) -/
 |dK (kvs:List (Key×V))|dT (kvs:List (List Key×V))
 /-- a set of ints: its members,its size -/
 |set (S:Int->Bool) (n:Nat)
 /-- an instance of the class at C,its dict at dx,its attributes -/
 |ins (C dx:Addr) (fs:List (Str×V))
 /-- the dict of the instance at x -/
 |own (x:Addr)
 /-- the dict of an exception -/
 |xd (fs:List (Str×V))
 /-- a bound method,f of x -/
 |met (f x:Addr)
 /-- a range object lo,lo+1,.. below hi -/
 |rng (lo hi:Int)
 /-- a thing that is known to the object (the script;a dict while a loop walks it): read,never written while it is so -/
 |frz (o:Obj) (u:HO)
 /-- a code object's table -/
 |tbl (ps:Array Value)
 /-- any other thing,by what is true of its one object (a def of one's own: SetO a S n:=HO.ext λh=>..) -/
 |ext (φ:Heap->Prop)
noncomputable abbrev Hp:=Addr->Option HO
noncomputable def upd(H:Hp)(a:Addr)(o:HO):Hp:=λb=>if b=a then some o else H b
theorem zat{a:Addr}:upd H a o a=some o:=by unfold upd;rw[if_pos rfl]
theorem zai{a b:Addr}(h:b≠a):upd H a o b=H b:=by unfold upd;rw[if_neg h]
theorem ne_of{H:Hp}{a b:Addr}{o u:HO}(h:H a=some o)(h':H b=some u)(d:o≠u):a≠b:=by
 intro e;subst e;rw[h]at h';exact d (vbn h')
theorem zae{H:Hp}{a b:Addr}{o:HO}(h:H a=some o)(h':H b=none):a≠b:=by
 intro e;subst e;rw[h]at h';cases h'
noncomputable def zbj(h:Heap)(a:Addr)(items:Array Value):Prop:=∃o,h.get? a=some o/\o.cls=.type "tuple"/\(∃n,o.data=.seq items n)/\o.dict=none
theorem zbj.tup{a:Addr}{items:Array Value}(x:zbj h a items):IsTup h a items:=let⟨o,e,c,d,_⟩:=x;⟨o,e,c,d⟩
theorem zbj.lt{a:Addr}{items:Array Value}(x:zbj h a items):a<h.objs.size:=x.tup.lt
theorem zbj.new(h:Heap)(items:Array Value):zbj (h.push {cls:=.type "tuple",data:=.seq items}) h.objs.size items:=⟨_,va2 _ rfl,rfl,⟨_,rfl⟩,rfl⟩
section
variable(P:Program)(w:World)
noncomputable def ObjOk(H:Hp)(h:Heap)(a:Addr):HO->Prop
 |.lst xs=>xs.length<=sizeLine/\∃(its:List Value) (n:Nat),Vals xs its/\h.get? a=some {cls:=.type "list",data:=.seq its.toArray n}
 |.tup xs=>xs.length<=sizeLine/\∃its:List Value,Vals xs its/\zbj h a its.toArray
 |.dK kvs=>kvs.length<=sizeLine/\(a==sysModules)=false/\∃vs,KV kvs vs/\h.DictOf (za6 P w) a vs
 |.dT kvs=>kvs.length<=sizeLine/\(a==sysModules)=false/\∃xs:List (List Key×Addr×Value),
  Paired (λ(p:List Key×V)(q:List Key×Addr×Value)=>p.1=q.1/\H q.2.1=some (.tup (p.1.map kV))/\RelV p.2 q.2.2) kvs xs/\
  ∃o es ep,h.get? a=some o/\o.ExactDict/\o.data=.dict es ep/\es.toList=xs.map (entryOfKey (tupleKind (za6 P w)))/\(xs.map (·.1)).Nodup
 |.set S n=>h.SetOf (intKind P w) a S n
 |.ins C dx fs=>H dx=some (.own a)/\fs.length<=1000/\dx≠a/\h.get? a=some (PySem.W.instObj C dx)/\
  ∃mA,h.Ns1 dx mA/\(∀f,RelO (fs.lookup f) (mA f))/\PySem.Within mA (fs.map (·.1))
 |.own _=>∃o,h.get? a=some o
 |.xd fs=>∃mA,h.Ns1 a mA/\∀f,RelO (fs.lookup f) (mA f)
 |.rng lo hi=>∃t u v,h.get? a=some {cls:=.type "range",data:=.fields #[.int lo t,.int hi u,.int 1 v]}
 |.frz o u=>h.get? a=some o/\ObjOk H h a u
 |.tbl ps=>h.get? a=some {cls:=.none,data:=.fields ps}
 |.met f x=>h.get? a=some (PySem.W.methodObj (.ref f) (.ref x))
 |.ext φ=>φ h/\(∃o,h.get? a=some o)/\∀h1 h2:Heap,φ h1->(∀o,h1.get? a=some o->h2.get? a=some o)->φ h2
noncomputable def HOk(H:Hp)(h:Heap):Prop:=∀a o,H a=some o->ObjOk P w H h a o
end
section
variable{P:Program}{w:World}{H H':Hp}{h h':Heap}{a:Addr}{o:HO}
theorem ObjOk.lt(x:ObjOk P w H h a o):a<h.objs.size:=by
 cases o with
 |lst xs=>obtain⟨_,_,_,_,e⟩:=x;exact vay e
 |tup xs=>obtain⟨_,_,_,p⟩:=x;exact p.lt
 |dK kvs=>obtain⟨_,_,_,_,o,_,_,e,_⟩:=x;exact vay e
 |dT kvs=>obtain⟨_,_,_,_,o,_,_,e,_⟩:=x;exact vay e
 |set S n=>obtain⟨o,_,_,_,e,_⟩:=x;exact vay e
 |ins C dx fs=>obtain⟨_,_,_,e,_⟩:=x;exact vay e
 |own y=>obtain⟨_,e⟩:=x;exact vay e
 |xd fs=>obtain⟨_,⟨_,_,_,e,_⟩,_⟩:=x;exact vay e
 |rng lo hi=>obtain⟨_,_,_,e⟩:=x;exact vay e
 |frz ob u=>obtain⟨e,_⟩:=x;exact vay e
 |tbl ps=>exact vay (show h.get? a=some _ from x)
 |met f y=>exact vay (show h.get? a=some _ from x)
 |ext φ=>obtain⟨_,⟨_,e⟩,_⟩:=x;exact vay e
theorem Paired.mapP{α β:Type}{F G:α->β->Prop}:∀{l₁:List α} {l₂:List β},Paired F l₁ l₂->(∀a b,F a b->G a b)->Paired G l₁ l₂
 |_,_,.nil,_=>.nil
 |_,_,.cons r t,f=>.cons (f _ _ r) (Paired.mapP t f)
theorem ObjOk.stay(x:ObjOk P w H h a o)(k:∀b u,(b=a\/H b=some (.own a))->h.get? b=some u->h'.get? b=some u)
 (ho:∀b,H b=some (.own a)->H' b=some (.own a)) (ht:∀b xs,H b=some (.tup xs)->H' b=some (.tup xs)):ObjOk P w H' h' a o:=by
 induction o with
 |lst xs=>obtain⟨z,its,n,r,e⟩:=x;exact⟨z,its,n,r,k _ _ (.inl rfl) e⟩
 |tup xs=>obtain⟨z,its,r,ob,e,c⟩:=x;exact⟨z,its,r,ob,k _ _ (.inl rfl) e,c⟩
 |dK kvs=>obtain⟨z,y,vs,r,ob,es,ep,e,c⟩:=x;exact⟨z,y,vs,r,ob,es,ep,k _ _ (.inl rfl) e,c⟩
 |dT kvs=>
  obtain⟨z,y,xs,r,ob,es,ep,e,c⟩:=x
  exact⟨z,y,xs,Paired.mapP r λp q z=>⟨z.1,ht _ _ z.2.1,z.2.2⟩,ob,es,ep,k _ _ (.inl rfl) e,c⟩
 |set S n=>obtain⟨ob,es,ep,t,e,c⟩:=x;exact⟨ob,es,ep,t,k _ _ (.inl rfl) e,c⟩
 |ins C dx fs=>
  obtain⟨d,z,ne,e,mA,⟨od,es,ep,e2,c⟩,r⟩:=x
  exact⟨ho _ d,z,ne,k _ _ (.inl rfl) e,mA,⟨od,es,ep,k _ _ (.inr d) e2,c⟩,r⟩
 |own y=>obtain⟨ob,e⟩:=x;exact⟨ob,k _ _ (.inl rfl) e⟩
 |xd fs=>obtain⟨mA,⟨od,es,ep,e,c⟩,r⟩:=x;exact⟨mA,⟨od,es,ep,k _ _ (.inl rfl) e,c⟩,r⟩
 |rng lo hi=>obtain⟨t,u,v,e⟩:=x;exact⟨t,u,v,k _ _ (.inl rfl) e⟩
 |frz ob u ih=>obtain⟨e,q⟩:=x;exact⟨k _ _ (.inl rfl) e,ih q⟩
 |tbl ps=>
  have e:h.get? a=some {cls:=.none,data:=.fields ps}:=x
  show h'.get? a=some {cls:=.none,data:=.fields ps}
  exact k a _ (.inl rfl) e
 |met f y=>
  have e:h.get? a=some (PySem.W.methodObj (.ref f) (.ref y)):=x
  show h'.get? a=some (PySem.W.methodObj (.ref f) (.ref y))
  exact k a _ (.inl rfl) e
 |ext φ=>obtain⟨p,⟨o,e⟩,st⟩:=x;exact⟨st _ _ p λo q=>k _ _ (.inl rfl) q,⟨o,k _ _ (.inl rfl) e⟩,st⟩
theorem HOk.lt(x:HOk P w H h)(e:H a=some o):a<h.objs.size:=(x a o e).lt
theorem HOk.fresh(x:HOk P w H h)(e:h.objs.size<=a):H a=none:=by
 cases q:H a with
 |none=>rfl
 |some u=>exact absurd (vak (x.lt q) e) (vcr _)
theorem HOk.kept(x:HOk P w H h)(k:∀b u,h.get? b=some u->h'.get? b=some u):HOk P w H h':=λa o e=>
 (x a o e).stay (λb u _ q=>k b u q) (λ_ q=>q) λ_ _ q=>q
theorem HOk.laid(x:HOk P w H h)(k:∀b u,h.get? b=some u->h'.get? b=some u)(hp:h.objs.size<=a)(new:ObjOk P w (upd H a o) h' a o):HOk P w (upd H a o) h':=λb u e=>by
 have hn:=x.fresh hp
 by_cases hb:b=a
 .subst hb;rw[zat]at e;cases e;exact new
 .rw[zai hb]at e
  exact(x b u e).stay (λc v _ q=>k c v q) (λc q=>by rw[zai (zae q hn)];exact q) λc xs q=>by rw[zai (zae q hn)];exact q
end
noncomputable def Rd(H:Hp)(a:Addr)(u:HO):Prop:=H a=some u\/∃o,H a=some (.frz o u)
theorem Rd.ok{a:Addr}(r:Rd H a u)(x:HOk P w H h):ObjOk P w H h a u:=by
 rcases r with r|⟨o,r⟩
 .exact x a u r
 .obtain⟨_,q⟩:=x a _ r
  exact q
noncomputable def Mut:Option HO->Prop
 |some (.lst _)=>True
 |some (.dK _)=>True
 |some (.dT _)=>True
 |some (.set _ _)=>True
 |some (.ins _ _ _)=>True
 |some (.ext _)=>True
 |_=>False
section
variable{P:Program}{w:World}{H:Hp}{h h':Heap}{x e:Addr}{o':HO}
theorem HOk.write(ok:HOk P w H h)(mu:Mut (H x))(he:e=x\/H e=some (.own x))(k:∀b u,b≠e->h.get? b=some u->h'.get? b=some u)(heo:∃u,h'.get? e=some u)
 (new:ObjOk P w (upd H x o') h' x o'):HOk P w (upd H x o') h':=λb u q=>by
 have nown:∀c y,H c=some (.own y)->c≠x:=λc y r z=>by subst z;rw[r]at mu;exact mu
 have ntup:∀c xs,H c=some (.tup xs)->c≠x:=λc xs r z=>by subst z;rw[r]at mu;exact mu
 by_cases hb:b=x
 .subst hb;rw[zat]at q;cases q;exact new
 .rw[zai hb]at q
  by_cases hbe:b=e
  .have q':H b=some (.own x):=by
    rcases he with z|z
    .exact absurd (hbe.trans z) hb
    .rw[hbe];exact z
   rw[q]at q';cases q'
   obtain⟨v,hv⟩:=heo
   exact⟨v,by rw[hbe];exact hv⟩
  .refine(ok b u q).stay (λc v hc r=>k c v ?_ r) (λc r=>by rw[zai (nown c b r)];exact r) λc xs r=>by rw[zai (ntup c xs r)];exact r
   rcases hc with rfl|hc
   .exact hbe
   .rintro rfl
    rcases he with z|z
    .exact nown c b hc z
    .rw[hc]at z;cases z;exact hb rfl
end
structure Un(fs ex:List Addr)(H H':Hp)(h h':Heap):Prop where
 keep:∀b o,h.get? b=some o->H b=none->b∉fs->b∉ex->h'.get? b=some o
 slot:∀b o,h.get? b=some o->H b=none->b∈fs->b∉ex->∃sl,h'.get? b=some {o with slots:=sl}
 free:∀b o,h.get? b=some o->H b=none->b∉ex->H' b=none
 there:∀b o,h.get? b=some o->b∉ex->∃o',h'.get? b=some o'
 tups:∀b xs,H b=some (.tup xs)->H' b=some (.tup xs)
 frzs:∀b o u,H b=some (.frz o u)->H' b=some (.frz o u)
 tbls:∀b ps,H b=some (.tbl ps)->∃more,H' b=some (.tbl (ps++more))
section
variable{fs fs' ex ex':List Addr}{H H1 H2:Hp}{h h1 h2 h':Heap}{a x e:Addr}{o:HO}
theorem Un.any(u:Un fs ex H H1 h h1){b:Addr}(q:h.get? b=some ob)(n:H b=none)(hx:b∉ex):∃sl,h1.get? b=some {ob with slots:=sl}:=by
 by_cases hb:b∈fs
 .exact u.slot b ob q n hb hx
 .exact⟨ob.slots,u.keep b ob q n hb hx⟩
theorem Un.kept(k:∀b u,h.get? b=some u->h'.get? b=some u):Un fs ex H H h h':=
 ⟨λb ob q _ _ _=>k b ob q,λb ob q _ _ _=>⟨ob.slots,k b ob q⟩,λ_ _ _ n _=>n,λb ob q _=>⟨ob,k b ob q⟩,λ_ _ q=>q,λ_ _ _ q=>q,λ_ ps q=>⟨#[],by rw[q];simp⟩⟩
theorem Un.refl:Un fs ex H H h h:=Un.kept λ_ _ q=>q
theorem Un.laid(k:∀b u,h.get? b=some u->h'.get? b=some u)(hp:h.objs.size<=a)(hn:H a=none):Un fs ex H (upd H a o) h h' where
 keep:=λb u q _ _ _=>k b u q
 slot:=λb u q _ _ _=>⟨u.slots,k b u q⟩
 free:=λb u q n _=>by rw[zai (vbd (vak (vay q) hp))];exact n
 there:=λb u q _=>⟨u,k b u q⟩
 tups:=λb xs q=>by rw[zai (zae q hn)];exact q
 frzs:=λb u xs q=>by rw[zai (zae q hn)];exact q
 tbls:=λb ps q=>⟨#[],by rw[zai (zae q hn),q];simp⟩
theorem Un.write(mu:Mut (H x))(he:e=x\/H e=some (.own x))(k:∀b u,b≠e->h.get? b=some u->h'.get? b=some u)(heo:∃u,h'.get? e=some u):Un fs ex H (upd H x o) h h':=by
 have hx:∀b,H b=none->b≠x:=λb n z=>by subst z;rw[n]at mu;exact mu
 have hb:∀b,H b=none->b≠e:=λb n z=>by
  subst z
  rcases he with r|r
  .exact hx b n r
  .rw[n]at r;cases r
 have hm:∀b u,H b=some u->¬Mut (some u)->b≠x:=λb u q nm z=>by subst z;rw[q]at mu;exact nm mu
 refine⟨λb u q n _ _=>k b u (hb b n) q,λb u q n _ _=>⟨u.slots,k b u (hb b n) q⟩,λb u q n _=>by rw[zai (hx b n)];exact n,λb u q _=>?_,
  λb xs q=>by rw[zai (hm b _ q λz=>z)];exact q,λb u xs q=>by rw[zai (hm b _ q λz=>z)];exact q,λb ps q=>⟨#[],by rw[zai (hm b _ q λz=>z),q];simp⟩⟩
 by_cases hbe:b=e
 .subst hbe;exact heo
 .exact⟨u,k b u hbe q⟩
end
noncomputable def trk(h:Heap)(H:Hp):List Addr:=(List.range h.objs.size).filter λa=>(H a).isSome
noncomputable def hidT(h:Heap)(H:Hp):Heap:=PySem.W.hideAll h (trk h H)
theorem zmx(h:Heap)(H:Hp):(hidT h H).objs.size=h.objs.size:=PySem.W.hideAll_size _ _
theorem zp5{b:Addr}(e:h.get? b=some o)(n:H b=none):(hidT h H).get? b=some o:=
 PySem.W.hideAll_get _ e λhm=>by
  have q:(H b).isSome=true:=(veg.mp hm).2
  rw[n]at q;simp at q
theorem ztj{b:Addr}(e:(hidT h H).get? b=some o):h.get? b=some o/\H b=none:=by
 have e':h.get? b=some o:=PySem.W.of_hideAll (trk h H) e
 refine⟨e',?_⟩
 cases q:H b with
 |none=>rfl
 |some x=>
  have hm:b∈trk h H:=veg.mpr ⟨vea.mpr (vay e'),by simp[q]⟩
  have z:(hidT h H).get? b=none:=PySem.W.hideAll_none (trk h H) hm
  rw[z]at e;cases e
structure Mod(K:PySem.W.Frag)(mg:Str->Option Value)(base:Heap):Prop where
 kin:K.In base
 glob:base.Ns mainGlobals mg
 blt:∃mb,base.Ns builtinsNs mb/\∀x:Str,x≠"__name__"->mb x=bootBuiltins x
 nolimit:base.NoLimit
set_option genInjectivity false in
structure Cx where
 prog:Program
 w:World
 K:PySem.W.Frag
 mg:Str->Option Value
 base:Heap
 A:Around
 N:List Str
 s₀:Shared
 H₀:Hp
 env:Env
 outer:List Env
 stack:List Env
 ex:List Addr
 fn:Str->Bool
 calm:Bool
 pn:List (Addr×Obj)
 xe:Value->Shared->Prop
noncomputable def frs(l:List Env):List Addr:=l.filterMap (·.frame)
noncomputable abbrev Cx.fs(X:Cx):List Addr:=frs X.outer
noncomputable def Vis(sc:Scope)(x:Str):Prop:=sc.names.lookup x=some .local\/sc.names.lookup x=some .cell\/sc.names.lookup x=some .free
noncomputable def Loc(sc:Scope)(x:Str):Prop:=sc.names.lookup x=some .local\/sc.names.lookup x=some .cell
noncomputable def Look(env:Env)(h:Heap)(m:Str->Option Value)(x:Str)(u:Value):Prop:=
 (env.kindOf x=some .local/\m x=some u)\/((env.kindOf x=some .cell\/env.kindOf x=some .free)/\∃c,env.cells.lookup x=some c/\h.IsCell c (some u))
structure Cx.Ok(X:Cx):Prop where
 mod:Mod X.K X.mg X.base
 kind:X.env.scope.kind=.function
 glob:X.env.globals=mainGlobals
 blt:X.env.builtins=builtinsNs
 above:X.s₀.heap.objs.size<=X.env.locals
 inj:∀x y c,X.env.cells.lookup x=some c->X.env.cells.lookup y=some c->x=y
 has:∀x,(X.env.kindOf x=some .cell\/X.env.kindOf x=some .free)->∃c,X.env.cells.lookup x=some c
 cab:∀x c,X.fn x=true->X.env.cells.lookup x=some c->X.s₀.heap.objs.size<=c
 hd:X.calm=true->X.A.handled=none
 frames:X.A.frames=some X.stack
 stk:X.stack=X.outer\/(X.stack=X.env::X.outer/\X.env.frame=some X.env.locals)
 exf:∀b∈X.ex,b≠X.env.locals/\∀x c,X.env.cells.lookup x=some c->c≠b
 bs:∀b o,X.base.get? b=some o->X.s₀.heap.get? b=some o/\X.H₀ b=none
 bsz:X.base.objs.size<=X.s₀.heap.objs.size
 noex:∀b o,X.base.get? b=some o->b∉X.ex
 exfs:∀b∈X.ex,b∉X.fs
 funs:X.s₀.heap.FunFrames X.base X.outer
 frf:∀b∈X.fs,X.H₀ b=none
structure Inv(X:Cx)(pins:List (Addr×Obj))(σ:List (Option V))(H:Hp)(s:Shared):Prop where
 ok:X.Ok
 os:s.os=X.s₀.os
 bare:AllBare s.gens
 base:Un X.fs X.ex X.H₀ H X.s₀.heap s.heap
 loc:∃m,s.heap.Ns X.env.locals m/\∀(i:Nat)(x:Str)(v:V),X.N[i]?=some x->σ[i]?=some (some v)->Vis X.env.scope x->∃u,RelV v u/\Look X.env s.heap m x u
 cell:∀x c,X.env.cells.lookup x=some c->∃v,s.heap.IsCell c v
 free:H X.env.locals=none
 freeC:∀x c,X.env.cells.lookup x=some c->H c=none
 pin:∀p∈X.pn++pins,s.heap.get? p.1=some p.2/\H p.1=none/\p.1≠X.env.locals/\p.1∉X.fs/\∀v,p.2.data≠.cell v
 hok:HOk X.prog X.w H s.heap
 len:σ.length=X.N.length
section
variable{X:Cx}{pins:List (Addr×Obj)}{σ:List (Option V)}{H H':Hp}{s:Shared}{h':Heap}
theorem Cx.Ok.nofr(ok:X.Ok){b:Addr}(e:X.base.get? b=some o):b∉X.fs:=λhb=>by
 have:=(ok.funs.mem hb).1
 rw[e]at this;cases this
theorem Inv.bs(I:Inv X pins σ H s):∀b o,X.base.get? b=some o->s.heap.get? b=some o/\H b=none:=λb o e=>
 ⟨I.base.keep b o (I.ok.bs b o e).1 (I.ok.bs b o e).2 (I.ok.nofr e) (I.ok.noex b o e),I.base.free b o (I.ok.bs b o e).1 (I.ok.bs b o e).2 (I.ok.noex b o e)⟩
theorem Inv.bk(I:Inv X pins σ H s):∀b o,X.base.get? b=some o->s.heap.get? b=some o:=λb o e=>(I.bs b o e).1
theorem Inv.mod(I:Inv X pins σ H s):Mod X.K X.mg X.base:=I.ok.mod
theorem Inv.kIn(I:Inv X pins σ H s):X.K.In s.heap:=I.ok.mod.kin.keeps I.bk
theorem Inv.lt(I:Inv X pins σ H s):X.env.locals<s.heap.objs.size:=let⟨_,hn,_⟩:=I.loc;hn.lt
theorem Inv.sz(I:Inv X pins σ H s):X.s₀.heap.objs.size<=s.heap.objs.size:=vbe I.ok.above (veb I.lt)
theorem Inv.nofs(I:Inv X pins σ H s){a:Addr}(h:s.heap.objs.size<=a):a∉X.fs:=λhb=>by
 obtain⟨_,o,ho,_⟩:=I.ok.funs.mem hb
 exact absurd (vak (vay ho) (vbe I.sz h)) (vcr _)
theorem Inv.cne(I:Inv X pins σ H s):∀x c,X.env.cells.lookup x=some c->c≠X.env.locals:=λx c e z=>by
 obtain⟨v,o,ho,hd⟩:=I.cell x c e
 obtain⟨m,⟨o',es,ep,ho',hd',_⟩,_⟩:=I.loc
 rw[z,ho']at ho;cases ho;rw[hd']at hd;cases hd
theorem Inv.funs(I:Inv X pins σ H s):s.heap.FunFrames X.base X.outer:=by
 have all:∀(l:List Env),(∀b∈frs l,b∈X.fs)->X.s₀.heap.FunFrames X.base l->s.heap.FunFrames X.base l:=by
  intro l
  induction l with
  |nil=>intro _ _;trivial
  |cons env r ih=>
   intro hs hl
   obtain⟨hk,⟨L,o,hf,hn,ho,hd⟩,hr⟩:=hl
   have hL:L∈X.fs:=hs L (by unfold frs;rw[vcf,hf];exact vam)
   obtain⟨sl,e⟩:=I.base.slot L o ho (I.ok.frf L hL) hL λz=>I.ok.exfs L z hL
   exact⟨hk,⟨L,_,hf,hn,e,hd⟩,ih (λb hb=>hs b (by unfold frs;rw[vcf,hf];exact vai _ hb)) hr⟩
 exact all X.outer (λ_ hb=>hb) I.ok.funs
theorem Inv.stack(I:Inv X pins σ H s):s.heap.FunFrames X.base X.stack:=by
 rcases I.ok.stk with e|⟨e,hf⟩
 .rw[e];exact I.funs
 .rw[e]
  obtain⟨m,hn,_⟩:=I.loc
  refine .cons (by rw[I.ok.kind];decide) hf hn ?_ I.funs
  exact Heap.get?_none_of_le (vbe I.ok.bsz I.ok.above)
theorem Inv.stkSub(I:Inv X pins σ H s):∀b∈frs X.stack,b∈X.env.locals::X.fs:=λb hb=>by
 rcases I.ok.stk with e|⟨e,hf⟩
 .rw[e]at hb;exact vai _ hb
 .rw[e]at hb
  unfold frs at hb
  rw[vcf,hf]at hb
  exact hb
theorem Inv.stkFree(I:Inv X pins σ H s):∀b∈frs X.stack,H b=none:=λb hb=>by
 rcases vax.mp (I.stkSub b hb)with e|hb
 .rw[e];exact I.free
 .obtain⟨_,o,ho,_⟩:=I.ok.funs.mem hb
  exact I.base.free b o ho (I.ok.frf b hb) λz=>I.ok.exfs b z hb
theorem Inv.step{g':Array GenState}{t':Nat}{d':Drawn}{ch:List Addr}(I:Inv X pins σ H s)
 (hch:∀b∈ch,(b∈X.ex\/X.s₀.heap.objs.size<=b)/\b≠X.env.locals/\(∀x c,X.env.cells.lookup x=some c->c≠b)/\∀p∈X.pn++pins,p.1≠b)
 (keep:∀b o,b≠X.env.locals->b∉X.fs->b∉ch->s.heap.get? b=some o->H b=none->h'.get? b=some o)
 (slot:∀b o,b≠X.env.locals->b∈X.fs->b∉ch->s.heap.get? b=some o->H b=none->∃sl,h'.get? b=some {o with slots:=sl}) (free:∀b o,b∉ch->s.heap.get? b=some o->H b=none->H' b=none)
 (there:∀b o,b∉ch->s.heap.get? b=some o->∃o',h'.get? b=some o')
 (tups:∀b xs,H b=some (.tup xs)->H' b=some (.tup xs)) (frzs:∀b o u,H b=some (.frz o u)->H' b=some (.frz o u)) (tbls:∀b ps,H b=some (.tbl ps)->∃more,H' b=some (.tbl (ps++more)))
 (ns:∀m,s.heap.Ns X.env.locals m->h'.Ns X.env.locals m) (hok:HOk X.prog X.w H' h') (hg:AllBare g') :
 Inv X pins σ H' {s with heap:=h',gens:=g',drawn:=d',toks:=t'}:=by
 have neL:∀b o,X.s₀.heap.get? b=some o->b≠X.env.locals:=λb o e=>vbd (vak (vay e) I.ok.above)
 have neC:∀b o,X.s₀.heap.get? b=some o->b∉X.ex->b∉ch:=λb o e hx hb=>by
  rcases(hch b hb).1 with z|z
  .exact hx z
  .exact absurd (vak (vay e) z) (vcr _)
 have cellK:∀x c,X.env.cells.lookup x=some c->∀v,s.heap.IsCell c v->h'.IsCell c v:=λx c e v hq0=>by
  obtain⟨o,ho,hd⟩:=hq0
  have nch:c∉ch:=λz=>(hch c z).2.2.1 x c e rfl
  by_cases hc:c∈X.fs
  .obtain⟨sl,q⟩:=slot c o (I.cne x c e) hc nch ho (I.freeC x c e)
   exact⟨_,q,hd⟩
  .exact⟨o,keep c o (I.cne x c e) hc nch ho (I.freeC x c e),hd⟩
 refine⟨I.ok,I.os,hg,⟨λb o e n hb hx=>?_,λb o e n hb hx=>?_,λb o e n hx=>?_,λb o e hx=>?_,λb xs e=>tups b xs (I.base.tups b xs e),λb o xs e=>frzs b o xs (I.base.frzs b o xs e),λb ps e=>?_⟩,?_,λx c e=>?_,?_,λx c e=>?_,λp hp=>?_,hok,I.len⟩
 .exact keep b o (neL b o e) hb (neC b o e hx) (I.base.keep b o e n hb hx) (I.base.free b o e n hx)
 .obtain⟨sl,e1⟩:=I.base.slot b o e n hb hx
  obtain⟨sl',e2⟩:=slot b _ (neL b o e) hb (neC b o e hx) e1 (I.base.free b o e n hx)
  exact⟨sl',e2⟩
 .obtain⟨o',e1⟩:=I.base.there b o e hx
  exact free b o' (neC b o e hx) e1 (I.base.free b o e n hx)
 .obtain⟨o',e1⟩:=I.base.there b o e hx
  exact there b o' (neC b o e hx) e1
 .obtain⟨m1,e1⟩:=I.base.tbls b ps e
  obtain⟨m2,e2⟩:=tbls b _ e1
  exact⟨m1++m2,by rw[e2,Array.append_assoc]⟩
 .obtain⟨m,hn,hl⟩:=I.loc
  refine⟨m,ns m hn,λi x v e1 e2 e3=>?_⟩
  obtain⟨u,r,l⟩:=hl i x v e1 e2 e3
  refine⟨u,r,?_⟩
  rcases l with l|⟨k,c,e,z⟩
  .exact .inl l
  .exact .inr ⟨k,c,e,cellK x c e _ z⟩
 .obtain⟨v,z⟩:=I.cell x c e
  exact⟨v,cellK x c e v z⟩
 .obtain⟨m,⟨o,_,_,ho,_⟩,_⟩:=I.loc
  exact free _ o (λz=>(hch _ z).2.1 rfl) ho I.free
 .obtain⟨v,o,ho,hd⟩:=I.cell x c e
  exact free c o (λz=>(hch c z).2.2.1 x c e rfl) ho (I.freeC x c e)
 .obtain⟨e,n,ne,nf,d⟩:=I.pin p hp
  have nch:p.1∉ch:=λz=>(hch p.1 z).2.2.2 p hp rfl
  exact⟨keep p.1 p.2 ne nf nch e n,free p.1 p.2 nch e n,ne,nf,d⟩
theorem Inv.un{t':Nat}(I:Inv X pins σ H s)(u:Un X.fs [] H H' s.heap h')(hok:HOk X.prog X.w H' h'):Inv X pins σ H' {s with heap:=h',toks:=t'}:=by
 obtain⟨m,⟨o,es,ep,ho,r⟩,_⟩:=id I.loc
 obtain⟨sl,hL⟩:=u.any ho I.free (by simp)
 exact I.step (g':=s.gens) (d':=s.drawn) (ch:=[]) (λ_ z=>nomatch z) (λb o _ hb _ e n=>u.keep b o e n hb (by simp)) (λb o _ hb _ e n=>u.slot b o e n hb (by simp)) (λb o _ e n=>u.free b o e n (by simp)) (λb o _ e=>u.there b o e (by simp)) u.tups u.frzs u.tbls (λm' hm=>by
  obtain⟨o',es',ep',ho',r'⟩:=hm
  rw[ho]at ho';cases ho'
  exact⟨_,es',ep',hL,r'⟩) hok I.bare
theorem Inv.call{g':Array GenState}{t':Nat}{d':Drawn}{ch:List Addr}(I:Inv X pins σ H s)(u:Un (frs X.stack) ch H H' s.heap h')(hok:HOk X.prog X.w H' h')(hg:AllBare g')
 (hch:∀b∈ch,(b∈X.ex\/X.s₀.heap.objs.size<=b)/\b≠X.env.locals/\(∀x c,X.env.cells.lookup x=some c->c≠b)/\∀p∈X.pn++pins,p.1≠b) :
 Inv X pins σ H' {s with heap:=h',gens:=g',drawn:=d',toks:=t'}:=by
 obtain⟨m,⟨o,es,ep,ho,r⟩,_⟩:=id I.loc
 obtain⟨sl,hL⟩:=u.any ho I.free λz=>(hch _ z).2.1 rfl
 exact I.step (ch:=ch) hch (λb o hL hb hc e n=>u.keep b o e n (λz=>(vax.mp (I.stkSub b z)).elim hL hb) hc) (λb o _ _ hc e n=>u.any e n hc) (λb o hc e n=>u.free b o e n hc) (λb o hc e=>u.there b o e hc) u.tups u.frzs u.tbls (λm' hm=>by
  obtain⟨o',es',ep',ho',r'⟩:=hm
  rw[ho]at ho';cases ho'
  exact⟨_,es',ep',hL,r'⟩) hok hg
theorem Inv.turned{t':Nat}{it:Addr}(I:Inv X pins σ H s)(k:∀b o,b≠it->s.heap.get? b=some o->h'.get? b=some o)(hn:H it=none)(hL:it≠X.env.locals)
 (h1:it∈X.ex\/X.s₀.heap.objs.size<=it) (h2:∀x c,X.env.cells.lookup x=some c->c≠it) (h3:∀p∈X.pn++pins,p.1≠it):Inv X pins σ H {s with heap:=h',toks:=t'}:=by
 have nit:∀b u,H b=some u->b≠it:=λb u e z=>by rw[z,hn]at e;cases e
 refine I.step (g':=s.gens) (d':=s.drawn) (ch:=[it]) (λb hb=>?_) (λb o _ _ hc e _=>k b o (λz=>hc (by simp[z])) e) (λb o _ _ hc e _=>⟨o.slots,k b o (λz=>hc (by simp[z])) e⟩) (λ_ _ _ _ n=>n)
  (λb o hc e=>⟨o,k b o (λz=>hc (by simp[z])) e⟩) (λ_ _ e=>e) (λ_ _ _ e=>e) (λb ps e=>⟨#[],by rw[e];simp⟩) (λm hm=>?_) (λb u e=>?_) I.bare
 .have e:b=it:=by simpa using hb
  subst e
  exact⟨h1,hL,h2,h3⟩
 .obtain⟨o,es,ep,ho,r⟩:=hm
  exact⟨o,es,ep,k _ o (vca hL) ho,r⟩
 .refine(I.hok b u e).stay (λc v hc q=>k c v ?_ q) (λ_ q=>q) λ_ _ q=>q
  rcases hc with z|z
  .rw[z];exact nit b u e
  .exact nit c _ z
theorem Inv.tok(I:Inv X pins σ H s)(t:Nat):Inv X pins σ H {s with toks:=t}:=I.un (h':=s.heap) (t':=t) Un.refl I.hok
theorem Inv.kept{t':Nat}(I:Inv X pins σ H s)(k:∀b u,s.heap.get? b=some u->h'.get? b=some u):Inv X pins σ H {s with heap:=h',toks:=t'}:=I.un (Un.kept k) (I.hok.kept k)
theorem Inv.laid{a:Addr}{t':Nat}(I:Inv X pins σ H s)(k:∀b u,s.heap.get? b=some u->h'.get? b=some u)(hp:s.heap.objs.size<=a)(new:ObjOk X.prog X.w (upd H a o) h' a o) :
 Inv X pins σ (upd H a o) {s with heap:=h',toks:=t'}:=I.un (Un.laid k hp (I.hok.fresh hp)) (I.hok.laid k hp new)
theorem Inv.write{x e:Addr}{o:HO}{t':Nat}(I:Inv X pins σ H s)(mu:Mut (H x))(he:e=x\/H e=some (.own x))(k:∀b u,b≠e->s.heap.get? b=some u->h'.get? b=some u)(heo:∃u,h'.get? e=some u)
 (new:ObjOk X.prog X.w (upd H x o) h' x o):Inv X pins σ (upd H x o) {s with heap:=h',toks:=t'}:=I.un (Un.write mu he k heo) (I.hok.write mu he k heo new)
theorem Inv.pins_of(I:Inv X pins σ H s)(h:∀p∈pins',s.heap.get? p.1=some p.2/\H p.1=none/\p.1≠X.env.locals/\p.1∉X.fs/\∀v,p.2.data≠.cell v):Inv X pins' σ H s:=
 ⟨I.ok,I.os,I.bare,I.base,I.loc,I.cell,I.free,I.freeC,λp hp=>(vbj.mp hp).elim (λz=>I.pin p (vcq _ z)) (h p),I.hok,I.len⟩
theorem zkp{N:List Str}(hN:N.Nodup){i j:Nat}{x:Str}(a:N[i]?=some x)(b:N[j]?=some x):i=j:=by
 obtain⟨h1,e1⟩:=va3.mp a
 obtain⟨h2,e2⟩:=va3.mp b
 exact(List.getElem_inj hN).mp (e1.trans e2.symm)
theorem zhz{M:Model}{A:Around}{E:Value->Shared->Prop}{i:Nat}{x:Str}{Q:Unit->Shared->Prop}(I:Inv X pins σ H s)(hN:X.N.Nodup)(hi:X.N[i]?=some x)(hx:Loc X.env.scope x)(r:RelV v u)
 (h:∀s',Inv X pins (σ.set i (some v)) H s'->(∃a,Heap.SameBut a s.heap s'.heap/\(a=X.env.locals\/X.env.cells.lookup x=some a))->Q () s') (hf:X.fn x=true\/X.env.scope.names.lookup x=some .local:=by first|exact .inl rfl|exact .inr rfl|assumption):wpAny M A (storeName X.env x u) Q E s:=by
 obtain⟨m,hn,hl⟩:=id I.loc
 have hcls:(X.env.scope.kind == .class|| (X.env.scope.kind == .module&&X.env.locals != X.env.globals))=false:=by rw[I.ok.kind];rfl
 have hiσ:i<σ.length:=by rw[I.len];exact(va3.mp hi).1
 have cne:=I.cne
 have tracked:∀{a:Addr}{h':Heap},(∃o,s.heap.get? a=some o/\H a=none)->Heap.SameBut a s.heap h'->HOk X.prog X.w H h':=λ{a h'} ha hs b ob e=>by
  obtain⟨_,_,hfree⟩:=ha
  refine(I.hok b ob e).stay (λc w' hc q=>(hs.2 c ?_).trans q) (λ_ q=>q) λ_ _ q=>q
  rintro rfl
  rcases hc with rfl|hc
  .rw[hfree]at e;cases e
  .rw[hfree]at hc;cases hc
 rcases hx with hk|hk
 .refine wpAny_storeName_local hk hn (λh' hn' hs=>?_) hcls
  obtain⟨oL,_,_,hoL,_⟩:=id hn
  refine h _ ⟨I.ok,I.os,I.bare,⟨λb o e n hb hx=>?_,λb o e n hb hx=>?_,I.base.free,λb o e hx=>?_,I.base.tups,I.base.frzs,I.base.tbls⟩,⟨_,hn',λj y v' e1 e2 e3=>?_⟩,λy c e=>?_,I.free,I.freeC,λp hp=>?_,tracked ⟨oL,hoL,I.free⟩ hs,by simpa using I.len⟩ ⟨_,hs,.inl rfl⟩
  .exact(hs.2 b (vbd (vak (vay e) I.ok.above))).trans (I.base.keep b o e n hb hx)
  .obtain⟨sl,e1⟩:=I.base.slot b o e n hb hx
   exact⟨sl,(hs.2 b (vbd (vak (vay e) I.ok.above))).trans e1⟩
  .obtain⟨o',e1⟩:=I.base.there b o e hx
   exact⟨o',(hs.2 b (vbd (vak (vay e) I.ok.above))).trans e1⟩
  .by_cases hj:j=i
   .subst hj
    rw[hi]at e1;cases e1
    rw[vce hiσ]at e2
    cases e2
    exact⟨u,r,.inl ⟨hk,by simp⟩⟩
   .rw[vc7 (vca hj)]at e2
    obtain⟨u',r',q⟩:=hl j y v' e1 e2 e3
    refine⟨u',r',?_⟩
    rcases q with⟨k,e⟩|⟨k,c,e,z⟩
    .refine .inl ⟨k,?_⟩
     have:y≠x:=λe=>hj (zkp hN e1 (e▸hi))
     simp[this,e]
    .exact .inr ⟨k,c,e,z.sameBut hs (cne y c e)⟩
  .obtain⟨w',z⟩:=I.cell y c e
   exact⟨w',z.sameBut hs (cne y c e)⟩
  .obtain⟨e,n,ne,nf,d⟩:=I.pin p hp
   exact⟨(hs.2 p.1 ne).trans e,n,ne,nf,d⟩
 .have hfn:X.fn x=true:=by
   rcases hf with z|z
   .exact z
   .rw[z]at hk;cases hk
  obtain⟨c,hc⟩:=I.ok.has x (.inl hk)
  obtain⟨w',z⟩:=I.cell x c hc
  refine wpAny_storeName_cell I.ok.kind hk hc z (λh' hc' hs=>?_)
  obtain⟨oc,hoc,hocd⟩:=id z
  refine h {s with heap:=h'} ⟨I.ok,I.os,I.bare,⟨λb o e n hb hx=>?_,λb o e n hb hx=>?_,I.base.free,λb o e hx=>?_,I.base.tups,I.base.frzs,I.base.tbls⟩,⟨m,hn.sameBut hs (vca (cne x c hc)),λj y v' e1 e2 e3=>?_⟩,λy c' e=>?_,I.free,I.freeC,λp hp=>?_,tracked ⟨oc,hoc,I.freeC x c hc⟩ hs,by simpa using I.len⟩ ⟨c,hs,.inr hc⟩
  .exact(hs.2 b (vbd (vak (vay e) (I.ok.cab x c hfn hc)))).trans (I.base.keep b o e n hb hx)
  .obtain⟨sl,e1⟩:=I.base.slot b o e n hb hx
   exact⟨sl,(hs.2 b (vbd (vak (vay e) (I.ok.cab x c hfn hc)))).trans e1⟩
  .obtain⟨o',e1⟩:=I.base.there b o e hx
   exact⟨o',(hs.2 b (vbd (vak (vay e) (I.ok.cab x c hfn hc)))).trans e1⟩
  .by_cases hj:j=i
   .subst hj
    rw[hi]at e1;cases e1
    rw[vce hiσ]at e2
    cases e2
    exact⟨u,r,.inr ⟨.inl hk,c,hc,hc'⟩⟩
   .rw[vc7 (vca hj)]at e2
    obtain⟨u',r',q⟩:=hl j y v' e1 e2 e3
    refine⟨u',r',?_⟩
    rcases q with q|⟨k,c',e,z'⟩
    .exact .inl q
    .refine .inr ⟨k,c',e,z'.sameBut hs ?_⟩
     rintro rfl
     exact hj (zkp hN e1 (I.ok.inj _ _ _ e hc▸hi))
  .by_cases hcc:c'=c
   .subst hcc;exact⟨_,hc'⟩
   .obtain⟨w2,z2⟩:=I.cell y c' e
    exact⟨w2,z2.sameBut hs hcc⟩
  .obtain⟨e,n,ne,nf,d⟩:=I.pin p hp
   refine⟨(hs.2 p.1 ?_).trans e,n,ne,nf,d⟩
   intro q
   rw[q,hoc]at e
   have q':oc=p.2:=vbn e
   exact d w' (by rw[<-q'];exact hocd)
theorem zgw{M:Model}{A:Around}{E:Value->Shared->Prop}{i:Nat}{x:Str}{Q:Unit->Shared->Prop}(I:Inv X pins σ H s)(hN:X.N.Nodup)(hi:X.N[i]?=some x)(hx:Loc X.env.scope x)(r:RelV v u)
 (h:∀s',Inv X pins (σ.set i (some v)) H s'->Q () s') (hf:X.fn x=true\/X.env.scope.names.lookup x=some .local:=by first|exact .inl rfl|exact .inr rfl|assumption):wpAny M A (storeName X.env x u) Q E s:=
 zhz I hN hi hx r (λs' I' _=>h s' I') hf
theorem Inv.call'{ch:List Addr}(I:Inv X pins σ H s)(ho:s'.os=s.os)(u:Un (frs X.stack) ch H H' s.heap s'.heap)(hok:HOk X.prog X.w H' s'.heap)(hg:AllBare s'.gens)
 (hch:∀b∈ch,(b∈X.ex\/X.s₀.heap.objs.size<=b)/\b≠X.env.locals/\(∀x c,X.env.cells.lookup x=some c->c≠b)/\∀p∈X.pn++pins,p.1≠b):Inv X pins σ H' s':=by
 obtain⟨h',g',d',t',o'⟩:=s'
 have e:o'=s.os:=ho
 subst e
 exact I.call (g':=g') (t':=t') (d':=d') u hok hg hch
end
noncomputable abbrev XK:=Value->Option Addr->Hp->Prop
noncomputable abbrev St:=List (Option V)
noncomputable abbrev VK:=V->Hp->Prop
noncomputable abbrev TE:=St->Hp->VK->Prop
noncomputable abbrev TT:=St->Hp->(Bool->Hp->Prop)->Prop
noncomputable abbrev TA:=St->Hp->(List V->Hp->Prop)->Prop
set_option genInjectivity false in
structure Ends where
 nx:St->Hp->Prop
 rt:VK
 bk:St->Hp->Prop:=λ_ _=>False
 ct:St->Hp->Prop:=λ_ _=>False
noncomputable abbrev TS:=Ends->St->Hp->Prop
noncomputable def EP(X:Cx)(pins:List (Addr×Obj))(σ:St)(Q:VK)(u:Value)(s':Shared):Prop:=∃v H',Inv X pins σ H' s'/\RelV v u/\Q v H'
noncomputable def TP(X:Cx)(pins:List (Addr×Obj))(σ:St)(Q:Bool->Hp->Prop)(b:Bool)(s':Shared):Prop:=∃H',Inv X pins σ H' s'/\Q b H'
noncomputable def AP(X:Cx)(pins:List (Addr×Obj))(σ:St)(Q:List V->Hp->Prop)(us:List Value)(s':Shared):Prop:=∃vs H',Inv X pins σ H' s'/\Vals vs us/\Q vs H'
theorem EP.el{σ:St}{P:Prop}(q:EP X pins σ Q u s')(k:∀v H',Inv X pins σ H' s'->RelV v u->Q v H'->P):P:=by
 obtain⟨v,H',a,b,c⟩:=q
 exact k v H' a b c
theorem TP.el{σ:St}{Q:Bool->Hp->Prop}{b:Bool}{P:Prop}(q:TP X pins σ Q b s')(k:∀H',Inv X pins σ H' s'->Q b H'->P):P:=by
 obtain⟨H',a,c⟩:=q
 exact k H' a c
theorem AP.el{σ:St}{Q:List V->Hp->Prop}{P:Prop}(q:AP X pins σ Q us s')(k:∀vs H',Inv X pins σ H' s'->Vals vs us->Q vs H'->P):P:=by
 obtain⟨v,H',a,b,c⟩:=q
 exact k v H' a b c
noncomputable def SP(X:Cx)(pins:List (Addr×Obj))(D:Ends)(f:Flow)(s':Shared):Prop:=
 match f with
 |.next=>∃σ' H',Inv X pins σ' H' s'/\D.nx σ' H'
 |.brk=>∃σ' H',Inv X pins σ' H' s'/\D.bk σ' H'
 |.cont=>∃σ' H',Inv X pins σ' H' s'/\D.ct σ' H'
 |.ret u=>∃v σ' H',Inv X pins σ' H' s'/\RelV v u/\D.rt v H'
noncomputable def PE(X:Cx)(e:Expr)(t:TE):Prop:=
 ∀(pins:List (Addr×Obj))(s:Shared)(σ:St)(H:Hp)(Q:VK),Inv X pins σ H s->t σ H Q->wpAny (model X.prog X.w) X.A (eval e X.env) (EP X pins σ Q) X.xe s
noncomputable def PT(X:Cx)(e:Expr)(t:TT):Prop:=
 ∀(pins:List (Addr×Obj))(s:Shared)(σ:St)(H:Hp)(Q:Bool->Hp->Prop),Inv X pins σ H s->t σ H Q->wpAny (model X.prog X.w) X.A (isTrue e X.env (eval e X.env)) (TP X pins σ Q) X.xe s
noncomputable def PW(X:Cx)(e:Expr)(t:TT):Prop:=
 ∀(whole:Sem Value)(pins:List (Addr×Obj))(s:Shared)(σ:St)(H:Hp)(Q:Bool->Hp->Prop),Inv X pins σ H s->t σ H Q->wpAny (model X.prog X.w) X.A (isTrue e X.env whole) (TP X pins σ Q) X.xe s
theorem PW.pt(h:PW X e t):PT X e t:=h _
noncomputable def PA(X:Cx)(es:List Expr)(t:TA):Prop:=
 ∀(pos:Pos)(pins:List (Addr×Obj))(s:Shared)(σ:St)(H:Hp)(Q:List V->Hp->Prop),Inv X pins σ H s->t σ H Q->wpAny (model X.prog X.w) X.A (spliced (backTo pos (starEach es X.env))) (AP X pins σ Q) X.xe s
noncomputable def PS(X:Cx)(st:Stmt)(t:TS):Prop:=
 ∀(pins:List (Addr×Obj))(s:Shared)(σ:St)(H:Hp)(D:Ends),Inv X pins σ H s->t D σ H->wpAny (model X.prog X.w) X.A (exec st X.env) (SP X pins D) X.xe s
noncomputable def PSs(X:Cx)(st:List Stmt)(t:TS):Prop:=
 ∀(pins:List (Addr×Obj))(s:Shared)(σ:St)(H:Hp)(D:Ends),Inv X pins σ H s->t D σ H->wpAny (model X.prog X.w) X.A (execs st X.env) (SP X pins D) X.xe s
theorem thn{α:Type}{t:Sem α}{Q Q':α->Shared->Prop}{M:Model}(h:wpAny M A t Q E s)(hQ:∀a s,Q a s->Q' a s):wpAny M A t Q' E s:=vdf h hQ λ_ _ x=>x
section
variable{X:Cx}
noncomputable def tVar(i:Nat):TE:=λσ H Q=>∃v,σ[i]?=some (some v)/\Q v H
noncomputable def tC(v:V):TE:=λ_ H Q=>Q v H
theorem zv1{i:Nat}{x:Str}(hN:X.N[i]?=some x)(hv:Vis X.env.scope x)(hd:(x==("__debug__" : Str))=false:=by decide)(hcd:(x==("__classdict__" : Str))=false:=by decide):PE X (.Name x pos) (tVar i):=by
 intro pins s σ H Q I h
 obtain⟨v,e,h⟩:=h
 obtain⟨m,hn,hl⟩:=I.loc
 obtain⟨u,r,l⟩:=hl i x v hN e hv
 have fin:EP X pins σ Q u s:=⟨v,H,I,r,h⟩
 rcases l with⟨hk,hm⟩|⟨hk,c,hc,hcell⟩
 .exact wpAny_Name (wpAny_loadName_local I.ok.kind hk hn hm fin) hd
 .rcases hk with hk|hk
  .exact wpAny_Name (wpAny_loadName_cell I.ok.kind hk hc hcell fin) hd
  .exact wpAny_Name (wpAny_loadName_free I.ok.kind hk hc hcell fin hcd) hd
theorem zv2{i j pos}:PE X (.Constant (.int i) j pos) (tC (.int i)):=λ_ _ _ H _ I h=>wpAny_Constant_int ⟨.int i,H,I.tok _,⟨_,rfl⟩,h⟩
theorem pe_bl{b j pos}:PE X (.Constant (.bool b) j pos) (tC (.bl b)):=λ_ _ _ H _ I h=>Constant_bool ⟨.bl b,H,I,rfl,h⟩
theorem zv3{j pos}:PE X (.Constant .none j pos) (tC .non):=λ_ _ _ H _ I h=>Constant_none ⟨.non,H,I,rfl,h⟩
theorem zv4{x j pos}:PE X (.Constant (.str x) j pos) (tC (.str x)):=λ_ _ _ H _ I h=>Calls.Constant_str ⟨.str x,H,I.tok _,⟨_,rfl⟩,h⟩
noncomputable def Gl(X:Cx)(x:Str):Prop:=X.env.kindOf x=some .globalImplicit
theorem zjq{E:Value->Shared->Prop}{σ:St}{x:Str}{pos:Pos}(I:Inv X pins σ H s)(hg:Gl X x)(hm:X.mg x=some u)(h:Q u s)
 (hd:(x==("__debug__" : Str))=false:=by decide):wpAny (model X.prog X.w) X.A (eval (.Name x pos) X.env) Q E s:=
 Calls.Name_function_global I.ok.kind hg (Calls.loadGlobal_global (by rw[I.ok.glob];exact I.mod.glob.keeps I.bk) hm h) hd
theorem zfx{E:Value->Shared->Prop}{σ:St}{x:Str}{pos:Pos}(I:Inv X pins σ H s)(hg:Gl X x)(hm:X.mg x=none)(hv:bootBuiltins x=some u)(h:Q u s)
 (hn:x≠"__name__":=by decide) (hd:(x==("__debug__" : Str))=false:=by decide):wpAny (model X.prog X.w) X.A (eval (.Name x pos) X.env) Q E s:=by
 obtain⟨mb,h1,h2⟩:=I.mod.blt
 exact Calls.Name_function_global I.ok.kind hg (Calls.loadGlobal_builtin (by rw[I.ok.glob];exact I.mod.glob.keeps I.bk) hm (by rw[I.ok.blt];exact h1.keeps I.bk) ((h2 x hn).trans hv) h) hd
theorem ztk{x:Str}(hg:Gl X x)(hm:X.mg x=some u)(r:RelV v u)(hd:(x==("__debug__" : Str))=false:=by decide):PE X (.Name x pos) (tC v):=
 λ_ _ _ H _ I h=>zjq I hg hm ⟨v,H,I,r,h⟩ hd
theorem ztl{x:Str}(hg:Gl X x)(hm:X.mg x=none)(hv:bootBuiltins x=some u)(r:RelV v u)(hn:x≠"__name__":=by decide)(hd:(x==("__debug__" : Str))=false:=by decide):PE X (.Name x pos) (tC v):=
 λ_ _ _ H _ I h=>zfx I hg hm hv ⟨v,H,I,r,h⟩ hn hd
variable{a b:Expr}{ta tb:TE}{pos:Pos}
variable{tA tB':TT}{rest:List Expr}
noncomputable def tAnd(t u:TT):TT:=λσ H Q=>t σ H λc H1=>if c=true then u σ H1 Q else Q false H1
noncomputable def tOr(t u:TT):TT:=λσ H Q=>t σ H λc H1=>if c=true then Q true H1 else u σ H1 Q
noncomputable def tNot(t:TT):TT:=λσ H Q=>t σ H λc H1=>Q (!c) H1
theorem ztm(ha:PT X a tA):PW X (.BoolOp .And [a] pos) tA:=by
 intro wh pins s σ H Q I h
 refine isTrue_and (thn (ha pins s σ H Q I h) λc s1 e=>?_)
 cases c with
 |true=>exact isTrue_and_nil e
 |false=>exact e
theorem zv5(ha:PT X a tA):PW X (.BoolOp .Or [a] pos) tA:=by
 intro wh pins s σ H Q I h
 refine isTrue_or (thn (ha pins s σ H Q I h) λc s1 e=>?_)
 cases c with
 |false=>exact isTrue_or_nil e
 |true=>exact e
theorem zv6(ha:PT X a tA)(hb:PW X (.BoolOp .And (b::rest) pos) tB'):PW X (.BoolOp .And (a::b::rest) pos) (tAnd tA tB'):=by
 intro wh pins s σ H Q I h
 refine isTrue_and (thn (ha pins s σ H _ I h) λc s1 z9=>z9.el λH1 I1 q1=>?_)
 cases c with
 |true=>exact hb wh pins s1 σ H1 Q I1 q1
 |false=>exact⟨H1,I1,q1⟩
theorem pw_or(ha:PT X a tA)(hb:PW X (.BoolOp .Or (b::rest) pos) tB'):PW X (.BoolOp .Or (a::b::rest) pos) (tOr tA tB'):=by
 intro wh pins s σ H Q I h
 refine isTrue_or (thn (ha pins s σ H _ I h) λc s1 z9=>z9.el λH1 I1 q1=>?_)
 cases c with
 |true=>exact⟨H1,I1,q1⟩
 |false=>exact hb wh pins s1 σ H1 Q I1 q1
theorem zv7(ha:PT X a tA):PT X (.UnaryOp .Not a pos) (tNot tA):=by
 intro pins s σ H Q I h
 exact isTrue_not (ha pins s σ H (λc H1=>Q (!c) H1) I h)
noncomputable def tAndV(ta tb:TE):TE:=λσ H Q=>ta σ H λx H1=>∃c,x=.bl c/\if c=true then tb σ H1 Q else Q (.bl false) H1
noncomputable def tOrV(ta tb:TE):TE:=λσ H Q=>ta σ H λx H1=>∃c,x=.bl c/\if c=true then Q (.bl true) H1 else tb σ H1 Q
noncomputable def tNotV(ta:TE):TE:=λσ H Q=>ta σ H λx H1=>∃c,x=.bl c/\Q (.bl (!c)) H1
theorem zv8{op}(h:PE X a t):PE X (.BoolOp op [a] pos) t:=λpins s σ H Q I hw=>BoolOp_one (h pins s σ H Q I hw)
theorem zv9(ha:PE X a ta)(hb:PE X (.BoolOp .And (b::rest) pos) tb):PE X (.BoolOp .And (a::b::rest) pos) (tAndV ta tb):=by
 intro pins s σ H Q I h
 refine BoolOp_and (thn (ha pins s σ H _ I h) λv s1 z9=>z9.el λx H1 I1 r1 q1=>?_)
 obtain⟨c,rfl,q1⟩:=q1
 cases r1
 refine vby ?_
 cases c with
 |true=>exact hb pins s1 σ H1 Q I1 q1
 |false=>exact⟨.bl false,H1,I1,rfl,q1⟩
theorem pe_or(ha:PE X a ta)(hb:PE X (.BoolOp .Or (b::rest) pos) tb):PE X (.BoolOp .Or (a::b::rest) pos) (tOrV ta tb):=by
 intro pins s σ H Q I h
 refine BoolOp_or (thn (ha pins s σ H _ I h) λv s1 z9=>z9.el λx H1 I1 r1 q1=>?_)
 obtain⟨c,rfl,q1⟩:=q1
 cases r1
 refine vby ?_
 cases c with
 |false=>exact hb pins s1 σ H1 Q I1 q1
 |true=>exact⟨.bl true,H1,I1,rfl,q1⟩
theorem zwa(ha:PE X a ta):PE X (.UnaryOp .Not a pos) (tNotV ta):=by
 intro pins s σ H Q I h
 refine UnaryOp_ (thn (ha pins s σ H _ I h) λv s1 z9=>z9.el λx H1 I1 r1 q1=>?_)
 obtain⟨c,rfl,q1⟩:=q1
 cases r1
 exact not_of (vby ⟨.bl (!c),H1,I1,rfl,q1⟩)
noncomputable def tIf(t:TT)(ta tb:TE):TE:=λσ H Q=>t σ H λc H1=>if c=true then ta σ H1 Q else tb σ H1 Q
theorem zp6(hc:PT X c tA)(ha:PE X a ta)(hb:PE X b tb):PE X (.IfExp c a b pos) (tIf tA ta tb):=by
 intro pins s σ H Q I h
 refine wpAny_IfExp (thn (hc pins s σ H _ I h) λd s1 z9=>z9.el λH1 I1 q1=>?_)
 cases d with
 |true=>exact ha pins s1 σ H1 Q I1 q1
 |false=>exact hb pins s1 σ H1 Q I1 q1
end
noncomputable def SqL(K:PySem.W.Frag)(H:Hp)(a:Addr)(xs:List V):Prop:=
 Rd H a (.lst xs)\/
  ∃(o:Obj) (its:Array Value) (n:Nat),K.lookup a=some o/\o.cls=.type "list"/\o.dict=none/\o.data=.seq its n/\its.size<=sizeLine/\Vals xs its.toList
noncomputable def SqT(K:PySem.W.Frag)(H:Hp)(a:Addr)(xs:List V):Prop:=
 Rd H a (.tup xs)\/
  ∃(o:Obj) (its:Array Value) (n:Nat),K.lookup a=some o/\o.cls=.type "tuple"/\o.dict=none/\o.data=.seq its n/\its.size<=sizeLine/\Vals xs its.toList
noncomputable def absV:Value->Option V
 |.none=>some .non
 |.bool b=>some (.bl b)
 |.int i _=>some (.int i)
 |.str x _=>some (.str x)
 |.bytes b _=>some (.byt b)
 |.float b _=>some (.flt b)
 |.ref a=>some (.ref a)
 |.type n=>some (.ty n)
 |_=>none
theorem RelV.abs(r:RelV x u):absV u=some x:=by
 cases x with
 |non=>cases r;rfl
 |bl _=>cases r;rfl
 |int _=>obtain⟨t,rfl⟩:=r;rfl
 |str _=>obtain⟨t,rfl⟩:=r;rfl
 |byt _=>obtain⟨t,rfl⟩:=r;rfl
 |flt _=>obtain⟨t,rfl⟩:=r;rfl
 |ref _=>cases r;rfl
 |ty _=>cases r;rfl
theorem RelV.inj(r:RelV x u)(q:RelV y u):x=y:=vbn (r.abs.symm.trans q.abs)
theorem Vals.inj:∀{xs ys:List V} {us:List Value},Vals xs us->Vals ys us->xs=ys
 |_,_,_,.nil,.nil=>rfl
 |_,_,_,.cons r t,.cons r' t'=>by rw[r.inj r',Vals.inj t t']
section
variable{X:Cx}{pins:List (Addr×Obj)}{σ:St}{H:Hp}{s:Shared}{a:Addr}{xs ys:List V}
theorem SqL.of{K:PySem.W.Frag}(h:H a=some (.lst xs)):SqL K H a xs:=.inl (.inl h)
theorem SqT.of{K:PySem.W.Frag}(h:H a=some (.tup xs)):SqT K H a xs:=.inl (.inl h)
theorem Inv.list(I:Inv X pins σ H s)(h:SqL X.K H a xs):∃its:List Value,Vals xs its/\PlainL s.heap a its.toArray/\xs.length<=sizeLine:=by
 rcases h with h|⟨o,its,n,hk,hc,hd,hs,hz,r⟩
 .obtain⟨z,its,n,r,e⟩:=h.ok I.hok
  exact⟨its,r,⟨_,n,e,rfl,rfl,rfl⟩,z⟩
 .refine⟨its.toList,r,⟨o,n,I.kIn a o hk,hc,hd,by simpa using hs⟩,?_⟩
  have e:=r.length
  simp only[vcv]at e
  omega
theorem Inv.tupleD(I:Inv X pins σ H s)(h:SqT X.K H a xs):∃its:List Value,Vals xs its/\zbj s.heap a its.toArray/\xs.length<=sizeLine:=by
 rcases h with h|⟨o,its,n,hk,hc,hd,hs,hz,r⟩
 .obtain⟨z,its,r,p⟩:=h.ok I.hok
  exact⟨its,r,p,z⟩
 .refine⟨its.toList,r,⟨o,I.kIn a o hk,hc,⟨n,by simpa using hs⟩,hd⟩,?_⟩
  have e:=r.length
  simp only[vcv]at e
  omega
theorem Inv.tuple(I:Inv X pins σ H s)(h:SqT X.K H a xs):∃its:List Value,Vals xs its/\IsTup s.heap a its.toArray/\xs.length<=sizeLine:=by
 obtain⟨its,r,p,z⟩:=I.tupleD h
 exact⟨its,r,p.tup,z⟩
theorem Inv.list_inj(I:Inv X pins σ H s)(h:SqL X.K H a xs)(h':SqL X.K H a ys):xs=ys:=by
 obtain⟨its,r,⟨o,n,e,_,_,d⟩,_⟩:=I.list h
 obtain⟨its',r',⟨o',n',e',_,_,d'⟩,_⟩:=I.list h'
 rw[e]at e';cases e'
 rw[d]at d'
 injection d' with d1 _
 have:its=its':=by simpa using vdu Array.toList d1
 subst this
 exact r.inj r'
theorem Inv.tuple_inj(I:Inv X pins σ H s)(h:SqT X.K H a xs)(h':SqT X.K H a ys):xs=ys:=by
 obtain⟨its,r,⟨o,e,_,n,d⟩,_⟩:=I.tuple h
 obtain⟨its',r',⟨o',e',_,n',d'⟩,_⟩:=I.tuple h'
 rw[e]at e';cases e'
 rw[d]at d'
 injection d' with d1 _
 have:its=its':=by simpa using vdu Array.toList d1
 subst this
 exact r.inj r'
end
noncomputable abbrev Cx.wish(X:Cx)(E:Value->Shared->Prop):Cx:={X with xe:=E}
noncomputable abbrev Cx.nox(X:Cx):Cx:=X.wish λ_ _=>False
theorem Cx.Ok.wish{X:Cx}(ok:X.Ok)(E:Value->Shared->Prop):(X.wish E).Ok:=
 ⟨ok.mod,ok.kind,ok.glob,ok.blt,ok.above,ok.inj,ok.has,ok.cab,ok.hd,ok.frames,ok.stk,ok.exf,ok.bs,ok.bsz,ok.noex,ok.exfs,ok.funs,ok.frf⟩
theorem Cx.Ok.unwish{X:Cx}{E:Value->Shared->Prop}(ok:(X.wish E).Ok):X.Ok:=
 ⟨ok.mod,ok.kind,ok.glob,ok.blt,ok.above,ok.inj,ok.has,ok.cab,ok.hd,ok.frames,ok.stk,ok.exf,ok.bs,ok.bsz,ok.noex,ok.exfs,ok.funs,ok.frf⟩
section
variable{X:Cx}{pins:List (Addr×Obj)}{σ:St}{H:Hp}{s:Shared}{E:Value->Shared->Prop}
theorem Inv.wish(I:Inv X pins σ H s)(E:Value->Shared->Prop):Inv (X.wish E) pins σ H s:=⟨I.ok.wish E,I.os,I.bare,I.base,I.loc,I.cell,I.free,I.freeC,I.pin,I.hok,I.len⟩
theorem Inv.unwish(I:Inv (X.wish E) pins σ H s):Inv X pins σ H s:=⟨I.ok.unwish,I.os,I.bare,I.base,I.loc,I.cell,I.free,I.freeC,I.pin,I.hok,I.len⟩
theorem SP.unwish{D:Ends}{f:Flow}(h:SP (X.wish E) pins D f s'):SP X pins D f s':=by
 cases f with
 |next=>obtain⟨σ',H',I,q⟩:=h;exact⟨σ',H',I.unwish,q⟩
 |brk=>obtain⟨σ',H',I,q⟩:=h;exact⟨σ',H',I.unwish,q⟩
 |cont=>obtain⟨σ',H',I,q⟩:=h;exact⟨σ',H',I.unwish,q⟩
 |ret u=>obtain⟨v,σ',H',I,r,q⟩:=h;exact⟨v,σ',H',I.unwish,r,q⟩
theorem PSs.nox{st:List Stmt}{t:TS}(h:PSs X.nox st t):PSs X st t:=λpins s σ H D I hw=>
 vdf (h pins s σ H D (I.wish _) hw) (λ_ _ q=>q.unwish) λ_ _ z=>False.elim z
end
section
variable{X:Cx}{st:Stmt}{rest:List Stmt}{t u:TS}{e:Expr}{te:TE}{pos:Pos}
noncomputable def tNext:TS:=λD σ H=>D.nx σ H
noncomputable def tSeq(t u:TS):TS:=λD σ H=>t {D with nx:=u D} σ H
theorem ztn:PSs X [] tNext:=λ_ _ σ H _ I h=>wpAny_execs_nil ⟨σ,H,I,h⟩
theorem zp7(h1:PS X st t)(h2:PSs X rest u):PSs X (st::rest) (tSeq t u):=by
 intro pins s σ H D I h
 refine wpAny_execs_cons (thn (h1 pins s σ H {D with nx:=u D} I h) λf s1 q=>?_)
 cases f with
 |next=>
  obtain⟨σ',H',I',q⟩:=q
  exact h2 pins s1 σ' H' D I' q
 |ret v=>exact q
 |brk=>exact q
 |cont=>exact q
noncomputable def zwb:TS:=λD σ H=>D.bk σ H
noncomputable def tCont:TS:=λD σ H=>D.ct σ H
theorem zto:PS X (.Pass pos) tNext:=λ_ _ σ H _ I h=>wpAny_Pass ⟨σ,H,I,h⟩
theorem zp8:PS X (.Break pos) zwb:=λ_ _ σ H _ I h=>wpAny_Break ⟨σ,H,I,h⟩
theorem zjr:PS X (.Continue pos) tCont:=λ_ _ σ H _ I h=>wpAny_Continue ⟨σ,H,I,h⟩
theorem Inv.quiet{σ:St}(I:Inv X pins σ H s):interactive X.env=false:=by simp[interactive,I.ok.kind]
noncomputable def tDrop(te:TE):TS:=λD σ H=>te σ H λ_ H1=>D.nx σ H1
theorem ztp(he:PE X e te)(hs:swapsWith e none pos.line X.env=pure false:=by rfl):PS X (.Expr e pos) (tDrop te):=by
 intro pins s σ H D I h
 exact wpAny_Expr_any (thn (he pins s σ H _ I h) λv s1 z9=>z9.el λx H1 I1 r1 q1=>⟨σ,H1,I1,q1⟩) I.quiet hs
noncomputable def tRet(te:TE):TS:=λD σ H=>te σ H D.rt
theorem zwc(he:PE X e te):PS X (.Return (some e) pos) (tRet te):=by
 intro pins s σ H D I h
 exact wpAny_Return_some (thn (he pins s σ H _ I h) λv s1 z9=>z9.el λx H1 I1 r1 q1=>⟨x,σ,H1,I1,r1,q1⟩)
noncomputable def tRetN:TS:=λD _ H=>D.rt .non H
theorem ztq:PS X (.Return none pos) tRetN:=λ_ _ σ H _ I h=>wpAny_Return_none ⟨.non,σ,H,I,rfl,h⟩
noncomputable def tIfS(c:TT)(t u:TS):TS:=λD σ H=>c σ H λb H1=>if b=true then t D σ H1 else u D σ H1
theorem ps_if(hc:PT X c tc)(ha:PSs X a t)(hb:PSs X b u):PS X (.If c a b pos) (tIfS tc t u):=by
 intro pins s σ H D I h
 refine wpAny_If (thn (hc pins s σ H _ I h) λd s1 z9=>z9.el λH1 I1 q1=>?_)
 cases d with
 |true=>exact ha pins s1 σ H1 D I1 q1
 |false=>exact hb pins s1 σ H1 D I1 q1
noncomputable def zwd:TS:=λ_ _ _=>False
theorem zp9:PS X st zwd:=λ_ _ _ _ _ _ h=>h.elim
end
noncomputable abbrev TG:=V->St->Hp->(St->Hp->Prop)->Prop
noncomputable abbrev TGs:=List V->St->Hp->(St->Hp->Prop)->Prop
noncomputable def PG(X:Cx)(target:Expr)(t:TG):Prop:=
 ∀(pins:List (Addr×Obj))(s:Shared)(σ:St)(H:Hp)(v:V)(u:Value)(Q:St->Hp->Prop),Inv X pins σ H s->RelV v u->t v σ H Q->
  wpAny (model X.prog X.w) X.A (assign target X.env u) (λ_ s'=>∃σ' H',Inv X pins σ' H' s'/\Q σ' H') X.xe s
noncomputable def PGs(X:Cx)(ts:List Expr)(t:TGs):Prop:=
 ∀(pins:List (Addr×Obj))(s:Shared)(σ:St)(H:Hp)(vs:List V)(us:List Value)(Q:St->Hp->Prop),Inv X pins σ H s->Vals vs us->t vs σ H Q->
  wpAny (model X.prog X.w) X.A (assignInOrder ((assignEach ts X.env).map (·.2)) us) (λ_ s'=>∃σ' H',Inv X pins σ' H' s'/\Q σ' H') X.xe s
noncomputable abbrev TSet:=V->V->V->Hp->(Hp->Prop)->Prop
noncomputable def PSet(X:Cx)(t:TSet):Prop:=
 ∀(pins:List (Addr×Obj))(s:Shared)(σ:St)(H:Hp)(o i v:V)(ov iv u:Value)(Q:Hp->Prop),Inv X pins σ H s->RelV o ov->RelV i iv->RelV v u->t o i v H Q->
  wpAny (model X.prog X.w) X.A (setItem ov iv u) (λ_ s'=>∃H',Inv X pins σ H' s'/\Q H') X.xe s
noncomputable abbrev TIp:=V->V->Hp->VK->Prop
noncomputable def PIp(X:Cx)(op:Operator)(t:TIp):Prop:=
 ∀(pins:List (Addr×Obj))(s:Shared)(σ:St)(H:Hp)(x y:V)(v u:Value)(Q:VK),Inv X pins σ H s->RelV x v->RelV y u->t x y H Q->
  wpAny (model X.prog X.w) X.A (inplaceOp op v u) (EP X pins σ Q) X.xe s
section
variable{X:Cx}{pos:Pos}
noncomputable def gName(i:Nat):TG:=λv σ H Q=>Q (σ.set i (some v)) H
theorem zmy{i:Nat}{x:Str}(hN:X.N.Nodup)(hi:X.N[i]?=some x)(hx:Loc X.env.scope x)(hf:X.fn x=true\/X.env.scope.names.lookup x=some .local:=by first|exact .inl rfl|exact .inr rfl|assumption):PG X (.Name x pos) (gName i):=by
 intro pins s σ H v u Q I r h
 exact wpAny_assign_Name (zgw I hN hi hx r (λs' I'=>⟨_,H,I',h⟩) hf)
noncomputable def gNil:TGs:=λvs σ H Q=>vs=[]/\Q σ H
noncomputable def gCons(t:TG)(u:TGs):TGs:=λvs σ H Q=>∃v r,vs=v::r/\t v σ H λσ' H'=>u r σ' H' Q
theorem zmz:PGs X [] gNil:=by
 intro pins s σ H vs us Q I r h
 obtain⟨e,h⟩:=h
 subst e
 cases r
 exact assignInOrder_nil ⟨σ,H,I,h⟩
theorem zgx(h1:PG X e t)(h2:PGs X es u)
 (hs:(assignEach (e::es) X.env).map (·.2)=assign e X.env:: (assignEach es X.env).map (·.2):=by rfl):PGs X (e::es) (gCons t u):=by
 intro pins s σ H vs us Q I r h
 obtain⟨v,vr,e1,h⟩:=h
 subst e1
 cases r with
 |cons r rr=>
  rw[hs]
  refine assignInOrder_cons (thn (h1 pins s σ H _ _ _ I r h) λ_ s1 hq0=>?_)
  obtain⟨σ1,H1,I1,q1⟩:=hq0
  exact h2 pins s1 σ1 H1 _ _ Q I1 rr q1
noncomputable def gTup(K:PySem.W.Frag)(n:Nat)(t:TGs):TG:=λv σ H Q=>∃a xs,v=.ref a/\SqT K H a xs/\xs.length=n/\t xs σ H Q
theorem zr8{k:Nat}{n:Nat}(hc:X.calm=true)(h:PGs X es t)
 (hn:(assignEach es X.env).length=n:=by rfl) (hst:(assignEach es X.env).findIdx? (·.1)=none:=by rfl):PG X (.Tuple es k pos) (gTup X.K n t):=by
 intro pins s σ H v u Q I r hw
 obtain⟨a,xs,e1,hq,hl,hw⟩:=hw
 subst e1
 cases r
 obtain⟨its,rv,ht,hz⟩:=I.tuple hq
 refine assign_Tuple_tuple (I.ok.hd hc) ht (by simp[hn,<-hl,rv.length]) hst λh' hx=>?_
 have I1:Inv X pins σ H {s with heap:=h'}:=I.kept (t':=s.toks) λb o e=>hx b o (vbd (vay e)) e
 exact h pins _ σ H xs _ Q I1 (by simpa using rv) hw
noncomputable def gSub(to ti:TE)(t:TSet):TG:=λv σ H Q=>to σ H λo H1=>ti σ H1 λi H2=>t o i v H2 λH3=>Q σ H3
theorem zm0{t:TSet}(ho:PE X o to)(hi:PE X i ti)(hs:PSet X t)
 (ha:∀v,assign (.Subscript o i pos) X.env v=(do
   let ov <-holding [v] (eval o X.env)
   let iv <-holding [v,ov] (eval i X.env)
   standAt pos
   holding [v,ov,iv] (setItem ov iv v)
   release [v,ov,iv] []):=by intro _;rfl):PG X (.Subscript o i pos) (gSub to ti t):=by
 intro pins s σ H v u Q I r h
 rw[ha]
 refine vaa (vc1 (thn (ho pins s σ H _ I h) λov s1 z9=>z9.el λx H1 I1 r1 q1=>?_))
 refine vaa (vc1 (thn (hi pins s1 σ H1 _ I1 q1) λiv s2 z9=>z9.el λy H2 I2 r2 q2=>?_))
 refine vaa (vep (vaa (vc1 (thn (hs pins s2 σ H2 x y v ov iv u _ I2 r1 r2 r q2) λ_ s3 hq0=>?_))))
 obtain⟨H3,I3,q3⟩:=hq0
 exact wpAny_release ⟨σ,H3,I3,q3⟩
noncomputable def tAsg(te:TE)(g:TG):TS:=λD σ H=>te σ H λx H1=>g x σ H1 D.nx
theorem zm1(he:PE X e te)(hg:PG X tg g)(hs:swapsWithSole [tg] e pos.line X.env=pure false:=by rfl)(hw:swappedStores [tg] e X.env=pure none:=by rfl)
 (h1:(assignEach [tg] X.env).map (·.2)=[assign tg X.env]:=by rfl):PS X (.Assign [tg] e pos) (tAsg te g):=by
 intro pins s σ H D I h
 refine wpAny_Assign_stores (thn (he pins s σ H _ I h) λv s1 z9=>z9.el λx H1 I1 r1 q1=>?_) hs hw
 rw[h1]
 exact thn (hg pins s1 σ H1 x v _ I1 r1 q1) λ_ s2 q=>q
theorem zwe{i:Nat}{x:Str}(hN:X.N.Nodup)(hi:X.N[i]?=some x)(hx:Loc X.env.scope x)(he:PE X e te)(hs:swapsWith e (some (.Name x pos')) pos.line X.env=pure false:=by rfl)(hf:X.fn x=true\/X.env.scope.names.lookup x=some .local:=by first|exact .inl rfl|exact .inr rfl|assumption) :
 PS X (.Assign [.Name x pos'] e pos) (tAsg te (gName i)):=by
 intro pins s σ H D I h
 refine wpAny_Assign_Name (thn (he pins s σ H _ I h) λv s1 z9=>z9.el λy H1 I1 r1 q1=>?_) hs
 exact zgw I1 hN hi hx r1 (λs2 I2=>⟨_,H1,I2,q1⟩) hf
noncomputable def tAug(i:Nat)(te:TE)(ti:TIp):TS:=λD σ H=>∃x,σ[i]?=some (some x)/\te σ H λy H1=>ti x y H1 λz H2=>D.nx (σ.set i (some z)) H2
theorem zwf{i:Nat}{x:Str}{op:Operator}{ti:TIp}{pos':Pos}(hN:X.N.Nodup)(hi:X.N[i]?=some x)(hx:Loc X.env.scope x)(he:PE X e te)(ho:PIp X op ti)(hf:X.fn x=true\/X.env.scope.names.lookup x=some .local:=by first|exact .inl rfl|exact .inr rfl|assumption) :
 PS X (.AugAssign (.Name x pos') op e pos) (tAug i te ti):=by
 intro pins s σ H D I h
 obtain⟨v,e1,h⟩:=h
 obtain⟨m,hn,hl⟩:=I.loc
 have vis:Vis X.env.scope x:=by rcases hx with k|k;exact .inl k;exact .inr (.inl k)
 obtain⟨u,r,l⟩:=hl i x v hi e1 vis
 refine wpAny_AugAssign_Name ?_
 have go:wpAny (model X.prog X.w) X.A (eval e X.env) (λw s₂=>wpAny (model X.prog X.w) X.A (inplaceOp op u w) (λr s₃=>wpAny (model X.prog X.w) X.A (storeName X.env x r) (λ_=>SP X pins D .next) X.xe s₃) X.xe s₂) X.xe s:=by
  refine thn (he pins s σ H _ I h) λw s1 z9=>z9.el λy H1 I1 r1 q1=>?_
  refine thn (ho pins s1 σ H1 v y u w _ I1 r r1 q1) λz s2 z9=>z9.el λzv H2 I2 r2 q2=>?_
  exact zgw I2 hN hi hx r2 (λs3 I3=>⟨_,H2,I3,q2⟩) hf
 rcases l with⟨hk,hm⟩|⟨hk,c,hc,hcell⟩
 .exact wpAny_loadName_local I.ok.kind hk hn hm go
 .rcases hk with hk|hk
  .exact wpAny_loadName_cell I.ok.kind hk hc hcell go
  .rcases hx with k|k
   .have:X.env.scope.names.lookup x=some .free:=hk
    rw[k]at this;cases this
   .have:X.env.scope.names.lookup x=some .free:=hk
    rw[k]at this;cases this
noncomputable def ipI(f:Int->Int->Int):TIp:=λx y H Q=>∃i j,x=.int i/\y=.int j/\Q (.int (f i j)) H
theorem zwg:PIp X .Add (ipI λi j=>i+j):=by
 intro pins s σ H x y v u Q I r1 r2 h
 obtain⟨i,j,e1,e2,q⟩:=h
 subst e1;subst e2
 obtain⟨t,rfl⟩:=r1
 obtain⟨t',rfl⟩:=r2
 exact iadd_int ⟨.int _,H,I.tok _,⟨_,rfl⟩,q⟩
end
section
variable{X:Cx}{pos:Pos}
noncomputable def zwh(c:TT)(tb:TS):TS:=λD σ H=>∃W:Nat->St->Hp->Prop,(∃m,W m σ H)/\∀m σ H,W m σ H->
 c σ H λb H1=>if b=true then ∃N:St->Hp->Prop,(∀σ' H',N σ' H'->∃m',m'<m/\W m' σ' H')/\tb {D with nx:=N,ct:=N,bk:=D.nx} σ H1 else D.nx σ H1
theorem zqa(hp:PassesOwn (model X.prog X.w) X.A X.env X.xe)(hc:PT X c tc)(hb:PSs X body tb):PS X (.While c body [] pos) (zwh tc tb):=by
 intro pins s σ H D I h
 obtain⟨W,⟨m0,w0⟩,turn⟩:=h
 refine wpAny_While (codeAny_whileLoop (λn s'=>∃σ' H',Inv X pins σ' H' s'/\W n σ' H') ?_ m0 ⟨σ,H,I,w0⟩)
 rintro n s1 ⟨σ1,H1,I1,w1⟩
 refine vc8 hp (thn (hc pins s1 σ1 H1 _ I1 (turn n σ1 H1 w1)) λb s2 z9=>z9.el λH2 I2 q2=>?_)
 cases b with
 |true=>
  obtain⟨N,hN,q2⟩:=q2
  rw[if_pos rfl]
  refine vc8 hp (thn (hb pins s2 σ1 H2 _ I2 q2) λf s3 q3=>?_)
  cases f with
  |next=>
   obtain⟨σ3,H3,I3,n3⟩:=q3
   obtain⟨m',hm,w3⟩:=hN σ3 H3 n3
   exact⟨m',hm,σ3,H3,I3,w3⟩
  |cont=>
   obtain⟨σ3,H3,I3,n3⟩:=q3
   obtain⟨m',hm,w3⟩:=hN σ3 H3 n3
   exact⟨m',hm,σ3,H3,I3,w3⟩
  |brk=>exact q3
  |ret v=>exact q3
 |false=>
  rw[if_neg vdk]
  exact wpAny_execs_nil ⟨σ1,H2,I2,q2⟩
end
set_option genInjectivity false in
structure It where
 go:Nat->Hp->Prop
 yld:Nat->Hp->V->Hp->Prop
 stop:Nat->Hp->Prop
noncomputable def FpOk(X:Cx)(pins:List (Addr×Obj))(H:Hp)(b:Addr):Prop:=
 H b=none/\b≠X.env.locals/\b∉X.fs/\(b∈X.ex\/X.s₀.heap.objs.size<=b)/\(∀x c,X.env.cells.lookup x=some c->c≠b)/\∀p∈X.pn++pins,p.1≠b
theorem Inv.fpOk{σ:St}{b:Addr}(I:Inv X pins σ H s)(hb:s.heap.objs.size<=b)(hn:H' b=none):FpOk X pins H' b:=by
 refine⟨hn,vcl (vak I.lt hb),I.nofs hb,.inr (vbe I.sz hb),λx c e z=>?_,λp hp z=>?_⟩
 .obtain⟨v,q⟩:=I.cell x c e
  exact absurd (vak q.lt (by rw[z];exact hb)) (vcr _)
 .exact absurd (vak (vay (I.pin p hp).1) (by rw[z];exact hb)) (vcr _)
structure Turn(P:Program)(w:World)(K:PySem.W.Frag)(tg:Expr)(J:It)(fp:List Addr)(it:Addr)(tn:Nat->Heap->Prop):Prop where
 mem:it∈fp
 obj:∀i h,tn i h->∀b∈fp,∃o,h.get? b=some o/\∀v,o.data≠.cell v
 keep:∀i h h',tn i h->(∀b∈fp,∀o,h.get? b=some o->h'.get? b=some o)->tn i h'
 item:∀(X:Cx),X.prog=P->X.w=w->X.K=K->X.calm=true->∀(i:Nat)(pins:List (Addr×Obj))(s:Shared)(σ:St)(H:Hp)(E:Value->Shared->Prop),Inv X pins σ H s->(∀b∈fp,FpOk X pins H b)->tn i s.heap->J.go i H->
  wpAny (model P w) X.A (pyNext (.ref it)) (λr s1=>∃u,r=some u/\
   wpAny (model P w) X.A (letOwnedTupleGo tg (.ref it) u) (λ_ s2=>∃x H',Inv X pins σ H' s2/\RelV x u/\J.yld i H x H'/\tn (i+1) s2.heap/\∀b∈fp,H' b=none) E s1) E s
 done:∀(X:Cx),X.prog=P->X.w=w->X.K=K->X.calm=true->∀(i:Nat)(pins:List (Addr×Obj))(s:Shared)(σ:St)(H:Hp)(E:Value->Shared->Prop),Inv X pins σ H s->(∀b∈fp,FpOk X pins H b)->tn i s.heap->J.stop i H->
  wpAny (model P w) X.A (pyNext (.ref it)) (λr s1=>r=none/\Inv X pins σ H s1) E s
 self:∀(A:Around)(i:Nat)(s:Shared)(Q:Value->Shared->Prop)(E:Value->Shared->Prop),tn i s.heap->Q (.ref it) s->wpAny (model P w) A (pyIter (.ref it)) Q E s
noncomputable abbrev TI:=St->Hp->(It->Hp->Prop)->Prop
noncomputable def PIE(X:Cx)(pins:List (Addr×Obj))(σ:St)(tg:Expr)(R:It->Hp->Prop)(itv:Value)(s2:Shared):Prop:=
 ∃(it:Addr) (fp:List Addr) (tn:Nat->Heap->Prop) (J:It) (H':Hp),itv=.ref it/\Inv X pins σ H' s2/\Turn X.prog X.w X.K tg J fp it tn/\tn 0 s2.heap/\(∀b∈fp,FpOk X pins H' b)/\R J H'
noncomputable def PI(X:Cx)(tg iter:Expr)(wi:TI):Prop:=
 ∀(pins:List (Addr×Obj))(s:Shared)(σ:St)(H:Hp)(R:It->Hp->Prop),Inv X pins σ H s->wi σ H R->
  wpAny (model X.prog X.w) X.A (eval iter X.env) (λv s1=>wpAny (model X.prog X.w) X.A (pyIter v) (PIE X pins σ tg R) X.xe s1) X.xe s
theorem go_of{M:Model}{A:Around}{E:Value->Shared->Prop}{tg:Expr}{it:Addr}{u:Value}{n:String}{vs:Array Value}{Q:Unit->Shared->Prop}(ho:s.heap.get? it=some o)(hc:o.cls=.type n)(hd:o.data=.fields vs)
 (hn:["enumerate","zip","dict_itemiterator","dict_reverseitemiterator","odict_iterator","itertools.zip_longest","itertools.pairwise"].contains n=false) (hQ:Q () s):wpAny M A (letOwnedTupleGo tg (.ref it) u) Q E s:=by
 unfold letOwnedTupleGo
 cases tg<;>first
  |exact vag hQ
  |(cases u<;>first
     |exact vag hQ
     |(refine vaa (wpAny_load ho ?_)
       rw[hc,hd]
       show wpAny M A (if(["enumerate","zip","dict_itemiterator","dict_reverseitemiterator","odict_iterator","itertools.zip_longest","itertools.pairwise"].contains n&&vs[0]? == some (rawInt _))=true then _ else _) Q E s
       rw[if_neg (by intro h;rw[hn,vb3]at h;cases h)]
       exact vag hQ))
noncomputable def Itl(K:PySem.W.Frag)(a:Addr):It:=
 ⟨λi H=>∃xs x,SqL K H a xs/\xs[i]?=some x,λi H x H'=>H'=H/\∀xs,SqL K H a xs->xs[i]?=some x,λi H=>∃xs,SqL K H a xs/\xs.length<=i⟩
noncomputable def Itt(K:PySem.W.Frag)(a:Addr):It:=
 ⟨λi H=>∃xs x,SqT K H a xs/\xs[i]?=some x,λi H x H'=>H'=H/\∀xs,SqT K H a xs->xs[i]?=some x,λi H=>∃xs,SqT K H a xs/\xs.length<=i⟩
noncomputable def Itr(lo:Int)(n:Nat):It:=⟨λi _=>i<n,λi H x H'=>H'=H/\x=.int (lo+i),λi _=>n<=i⟩
theorem zm2{P:Program}{w:World}{K:PySem.W.Frag}{tg:Expr}(a it:Addr):Turn P w K tg (Itl K a) [it] it (λi h=>h.IsListIter it a i)where
 mem:=by simp
 obj:=λi h st b hb=>by
  have e:b=it:=by simpa using hb
  subst e
  obtain⟨o,e,c,d⟩:=st
  exact⟨o,e,λv z=>by rw[d]at z;cases z⟩
 keep:=λi h h' st k=>st.at λo e=>k it (by simp) o e
 item:=by
  intro X hP hw hK hc i pins s σ H E I hf st hg
  subst hP hw hK
  obtain⟨xs,x,hq,hx⟩:=hg
  obtain⟨its,rv,p,hz⟩:=I.list hq
  obtain⟨u,hu,ru⟩:=rv.get hx
  obtain⟨f0,f1,f2,f3,f4,f5⟩:=hf it (by simp)
  refine wpAny_pyNext_list_item st p.isList (x:=u) (by simpa using hu) λh' st' sb=>?_
  have I1:Inv X pins σ H {s with heap:=h'}:=I.turned (t':=s.toks) (λb o hb e=>(sb.2 b hb).trans e) f0 f1 f3 f4 f5
  obtain⟨o,e,c,d⟩:=id st'
  exact⟨u,rfl,go_of (s:={s with heap:=h'}) e c d (by decide) ⟨x,H,I1,ru,⟨rfl,λys hy=>by rw[I.list_inj hy hq];exact hx⟩,st',λb hb=>(hf b hb).1⟩⟩
 done:=by
  intro X hP hw hK hc i pins s σ H E I hf st hg
  subst hP hw hK
  obtain⟨xs,hq,hx⟩:=hg
  obtain⟨its,rv,p,hz⟩:=I.list hq
  obtain⟨f0,f1,f2,f3,f4,f5⟩:=hf it (by simp)
  have hl:=rv.length
  exact wpAny_pyNext_list_end (I.ok.hd hc) st p.isList (by simp;omega) λh' eb=>⟨rfl,I.turned (t':=s.toks) (λb o hb e=>eb b o hb e) f0 f1 f3 f4 f5⟩
 self:=λ_ _ _ _ _ st h=>wpAny_pyIter_listiter st h
theorem zl2{P:Program}{w:World}{K:PySem.W.Frag}{tg:Expr}(a it:Addr):Turn P w K tg (Itt K a) [it] it (λi h=>h.IsTupleIter it a i)where
 mem:=by simp
 obj:=λi h st b hb=>by
  have e:b=it:=by simpa using hb
  subst e
  obtain⟨o,e,c,d⟩:=st
  exact⟨o,e,λv z=>by rw[d]at z;cases z⟩
 keep:=λi h h' st k=>st.at λo e=>k it (by simp) o e
 item:=by
  intro X hP hw hK hc i pins s σ H E I hf st hg
  subst hP hw hK
  obtain⟨xs,x,hq,hx⟩:=hg
  obtain⟨its,rv,p,hz⟩:=I.tuple hq
  obtain⟨u,hu,ru⟩:=rv.get hx
  obtain⟨f0,f1,f2,f3,f4,f5⟩:=hf it (by simp)
  refine wpAny_pyNext_tuple_item st (show s.heap.IsTuple a its.toArray from p) (x:=u) (by simpa using hu) λh' st' sb=>?_
  have I1:Inv X pins σ H {s with heap:=h'}:=I.turned (t':=s.toks) (λb o hb e=>(sb.2 b hb).trans e) f0 f1 f3 f4 f5
  obtain⟨o,e,c,d⟩:=id st'
  exact⟨u,rfl,go_of (s:={s with heap:=h'}) e c d (by decide) ⟨x,H,I1,ru,⟨rfl,λys hy=>by rw[I.tuple_inj hy hq];exact hx⟩,st',λb hb=>(hf b hb).1⟩⟩
 done:=by
  intro X hP hw hK hc i pins s σ H E I hf st hg
  subst hP hw hK
  obtain⟨xs,hq,hx⟩:=hg
  obtain⟨its,rv,p,hz⟩:=I.tuple hq
  obtain⟨f0,f1,f2,f3,f4,f5⟩:=hf it (by simp)
  have hl:=rv.length
  exact wpAny_pyNext_tuple_end (I.ok.hd hc) st (show s.heap.IsTuple a its.toArray from p) (by simp;omega) λh' eb=>⟨rfl,I.turned (t':=s.toks) (λb o hb e=>eb b o hb e) f0 f1 f3 f4 f5⟩
 self:=λ_ _ _ _ _ st h=>wpAny_pyIter_tupleiter st h
theorem zl3{P:Program}{w:World}{K:PySem.W.Frag}{tg:Expr}(it:Addr)(lo:Int)(n:Nat):Turn P w K tg (Itr lo n) [it] it (λi h=>IsRangeIter h it (lo+ (i:Nat)*1) ((n:Int)- (i:Nat)) 1)where
 mem:=by simp
 obj:=λi h st b hb=>by
  have e:b=it:=by simpa using hb
  subst e
  exact⟨_,st,λv z=>by
   have z':Data.fields _=Data.cell v:=z
   cases z'⟩
 keep:=λi h h' st k=>k it (by simp) _ st
 item:=by
  intro X hP hw hK hc i pins s σ H E I hf st hg
  subst hP hw hK
  obtain⟨f0,f1,f2,f3,f4,f5⟩:=hf it (by simp)
  have W:=Walks.range (prog:=X.prog) (w:=X.w) (I.ok.hd hc) it lo 1 n
  refine W.item i s _ _ hg st λv h' tk hv st' kk=>?_
  obtain⟨t,rfl⟩:=hv
  have I1:Inv X pins σ H {s with heap:=h',toks:=tk}:=I.turned (λb o hb e=>kk b o (by simpa using hb) e) f0 f1 f3 f4 f5
  refine⟨_,rfl,go_of (s:={s with heap:=h',toks:=tk}) (n:="range_iterator") st' rfl rfl (by decide) ⟨.int (lo+i),H,I1,⟨t,?_⟩,⟨rfl,rfl⟩,st',λb hb=>(hf b hb).1⟩⟩
  rw[Int.mul_one]
 done:=by
  intro X hP hw hK hc i pins s σ H E I hf st hg
  subst hP hw hK
  obtain⟨f0,f1,f2,f3,f4,f5⟩:=hf it (by simp)
  exact wpAny_pyNext_range_end (I.ok.hd hc) st (by have:n<=i:=hg;omega) λh' eb=>⟨rfl,I.turned (t':=s.toks) (λb o hb e=>eb b o hb e) f0 f1 f3 f4 f5⟩
 self:=λ_ _ _ _ _ st h=>wpAny_pyIter_rangeiter st h
section
variable{X:Cx}{tg:Expr}
noncomputable def iList(K:PySem.W.Frag)(tl:TE):TI:=λσ H R=>tl σ H λx H1=>∃a,x=.ref a/\(∃xs,SqL K H1 a xs)/\R (Itl K a) H1
noncomputable def iTup(K:PySem.W.Frag)(tl:TE):TI:=λσ H R=>tl σ H λx H1=>∃a,x=.ref a/\(∃xs,SqT K H1 a xs)/\R (Itt K a) H1
theorem zm3{l:Expr}{tl:TE}(hl:PE X l tl):PI X tg l (iList X.K tl):=by
 intro pins s σ H R I h
 refine thn (hl pins s σ H _ I h) λv s1 z9=>z9.el λx H1 I1 r1 q1=>?_
 obtain⟨a,e,⟨xs,hq⟩,q⟩:=q1
 subst e
 cases r1
 obtain⟨its,rv,p,hz⟩:=I1.list hq
 refine vc9 p.isList ?_
 refine⟨s1.heap.objs.size,[s1.heap.objs.size],_,_,H1,rfl,I1.kept (t':=s1.toks) λb o e=>vae _ e,zm2 a _,⟨_,va2 _ rfl,rfl,rfl⟩,λb hb=>?_,q⟩
 have e:b=s1.heap.objs.size:=by simpa using hb
 subst e
 exact I1.fpOk (vac _) (I1.hok.fresh (vac _))
theorem zwi{l:Expr}{tl:TE}(hl:PE X l tl):PI X tg l (iTup X.K tl):=by
 intro pins s σ H R I h
 refine thn (hl pins s σ H _ I h) λv s1 z9=>z9.el λx H1 I1 r1 q1=>?_
 obtain⟨a,e,⟨xs,hq⟩,q⟩:=q1
 subst e
 cases r1
 obtain⟨its,rv,p,hz⟩:=I1.tuple hq
 refine vco (show s1.heap.IsTuple a its.toArray from p) ?_
 refine⟨s1.heap.objs.size,[s1.heap.objs.size],_,_,H1,rfl,I1.kept (t':=s1.toks) λb o e=>vae _ e,zl2 a _,⟨_,va2 _ rfl,rfl,rfl⟩,λb hb=>?_,q⟩
 have e:b=s1.heap.objs.size:=by simpa using hb
 subst e
 exact I1.fpOk (vac _) (I1.hok.fresh (vac _))
theorem zqb{σ:St}{R:It->Hp->Prop}{E:Value->Shared->Prop}{lo hi:Int}{t u v:Tok}{tk:Nat}(I:Inv X pins σ H s)(h1:-(2 ^ 62)<=lo)(h2:lo<2 ^ 62)(h3:-(2 ^ 62)<=hi)(h4:hi<2 ^ 62)
 (q:R (Itr lo (hi-lo).toNat) H):wpAny (model X.prog X.w) X.A (pyIter (.ref s.heap.objs.size)) (PIE X pins σ tg R) E {s with heap:=s.heap.push {cls:=.type "range",data:=.fields #[.int lo t,.int hi u,.int 1 v]},toks:=tk}:=by
 refine wpAny_pyIter_range (IsRange.new ..) (small_one h1 h2 h3 h4) ?_
 have I1:Inv X pins σ H {s with heap:=s.heap.push {cls:=.type "range",data:=.fields #[.int lo t,.int hi u,.int 1 v]},toks:=tk}:=I.kept λb o e=>vae _ e
 refine⟨(s.heap.push {cls:=.type "range",data:=.fields #[.int lo t,.int hi u,.int 1 v]}).objs.size,[(s.heap.push {cls:=.type "range",data:=.fields #[.int lo t,.int hi u,.int 1 v]}).objs.size],_,_,H,rfl,
  I1.kept (t':=tk) λb o e=>vae _ e,zl3 _ lo (hi-lo).toNat,?_,λb hb=>?_,q⟩
 .have e1:lo+ ((0:Nat):Int)*1=lo:=by simp
  have e2:(((hi-lo).toNat:Nat):Int)- ((0:Nat):Int)=Builtin.Range.rangeSize lo hi 1:=by rw[rangeSize_one];split<;>omega
  show IsRangeIter _ _ (lo+ ((0:Nat):Int)*1) ((((hi-lo).toNat:Nat):Int)- ((0:Nat):Int)) 1
  rw[e1,e2]
  exact va2 _ rfl
 .have e:b=(s.heap.push {cls:=.type "range",data:=.fields #[.int lo t,.int hi u,.int 1 v]}).objs.size:=by simpa using hb
  subst e
  exact I1.fpOk (vac _) (I1.hok.fresh (vac _))
noncomputable def iRng1(ta:TA):TI:=λσ H R=>ta σ H λvs H1=>∃j:Int,vs=[.int j]/\-(2 ^ 62)<=j/\j<2 ^ 62/\R (Itr 0 j.toNat) H1
theorem zm4(hg:Gl X "range")(hm:X.mg "range" = none)(ha:PA X [a] ta)(hs:starEach [a] X.env=[(false,eval a X.env)]:=by rfl):PI X tg (.Call (.Name "range" p) [a] [] pos) (iRng1 ta):=by
 intro pins s σ H R I h
 refine Call_ (zfx I hg hm boot_range (vcw (thn (ha pos pins s σ H _ I h) λus s1 z9=>z9.el λvs H1 I1 r1 q1=>?_) hs rfl))
 obtain⟨j,e,q1,q2,q⟩:=q1
 subst e
 cases r1 with
 |cons r rr=>
  cases rr
  obtain⟨t,rfl⟩:=r
  exact call_range_1 (zqb I1 (by omega) (by omega) q1 q2 (by simpa using q))
noncomputable def tFor(wi:TI)(g:TG)(tb:TS):TS:=λD σ H=>wi σ H λJ H1=>∃W:Nat->Nat->St->Hp->Prop,(∃m,W 0 m σ H1)/\∀i m σ H,W i m σ H->
 (J.stop i H/\D.nx σ H)\/(J.go i H/\∃N:St->Hp->Prop,(∀σ' H',N σ' H'->∃m',m'<m/\W (i+1) m' σ' H')/\∀x H',J.yld i H x H'->g x σ H' λσ2 H2=>tb {D with nx:=N,ct:=N,bk:=D.nx} σ2 H2)
noncomputable def zh0(fp:List Addr)(h:Heap):List (Addr×Obj):=fp.filterMap λb=>(h.get? b).map λo=>(b,o)
theorem zcj{fp:List Addr}{b:Addr}(hb:b∈fp)(e:h.get? b=some o):(b,o)∈zh0 fp h:=List.mem_filterMap.mpr ⟨b,hb,by rw[e];rfl⟩
theorem zm5{fp:List Addr}{p:Addr×Obj}(hp:p∈zh0 fp h):p.1∈fp/\h.get? p.1=some p.2:=by
 obtain⟨b,hb,e⟩:=List.mem_filterMap.mp hp
 cases q:h.get? b with
 |none=>rw[q]at e;cases e
 |some o=>
  rw[q]at e
  have e':(b,o)=p:=vbn e
  subst e'
  exact⟨hb,q⟩
theorem Inv.pinned{σ:St}{fp:List Addr}(I:Inv X pins σ H s)(hf:∀b∈fp,FpOk X pins H b)(ho:∀b∈fp,∃o,s.heap.get? b=some o/\∀v,o.data≠.cell v):Inv X (pins++zh0 fp s.heap) σ H s:=
 I.pins_of λp hp=>(vbj.mp hp).elim (λz=>I.pin p (va6 _ z)) λz=>by
  obtain⟨hb,e⟩:=zm5 z
  obtain⟨f0,f1,f2,_⟩:=hf p.1 hb
  obtain⟨o,e',d⟩:=ho p.1 hb
  rw[e]at e';cases e'
  exact⟨e,f0,f1,f2,d⟩
theorem Inv.unpinned{σ:St}(I:Inv X (pins++pl) σ H s):Inv X pins σ H s:=I.pins_of λp hp=>I.pin p (va6 _ (vcq _ hp))
theorem zwj{wi:TI}{pos:Pos}(hp:PassesOwn (model X.prog X.w) X.A X.env X.xe)(hc:X.calm=true)(hi:PI X tg iter wi)(hg:PG X tg g)(hb:PSs X body tb)
 (hs:∀x,foldedSetIterable iter X.env x=pure x:=by intro _;rfl):PS X (.For tg iter body [] pos) (tFor wi g tb):=by
 intro pins s σ H D I h
 refine wpAny_For (thn (hi pins s σ H _ I h) λv s1 h1=>thn h1 λitv s2 h2=>?_) hs
 obtain⟨it,fp,tn,J,H2,e,I2,T,st2,f2,W,⟨m0,w0⟩,turn⟩:=h2
 subst e
 have stat:∀{H':Hp},(∀b∈fp,H' b=none)->∀b∈fp,FpOk X pins H' b:=λhn b hb=>⟨hn b hb,(f2 b hb).2⟩
 refine codeAny_forLoop_any (λn s'=>∃i σ' H',Inv X pins σ' H' s'/\tn i s'.heap/\(∀b∈fp,H' b=none)/\W i n σ' H') ?_ m0 ⟨0,σ,H2,I2,st2,λb hb=>(f2 b hb).1,w0⟩
 rintro n s3 ⟨i,σ3,H3,I3,st3,fr3,w3⟩
 rcases turn i n σ3 H3 w3 with⟨stop,qn⟩|⟨go,N,hN,step⟩
 .refine vc8 hp (thn (T.done X rfl rfl rfl hc i pins s3 σ3 H3 X.xe I3 (stat fr3) st3 stop) λr s4 hq0=>?_)
  obtain⟨hr,I4⟩:=hq0
  subst hr
  exact wpAny_execs_nil ⟨σ3,H3,I4,qn⟩
 .refine vc8 hp (thn (T.item X rfl rfl rfl hc i pins s3 σ3 H3 X.xe I3 (stat fr3) st3 go) λr s4 hq0=>?_)
  obtain⟨u,hr,h4⟩:=hq0
  subst hr
  refine vc8 hp (thn h4 λ_ s5 hq0=>?_)
  obtain⟨x,H5,I5,r5,y5,st5,fr5⟩:=hq0
  have I5':=I5.pinned (stat fr5) (T.obj _ _ st5)
  refine vc8 hp (thn (hg _ s5 σ3 H5 x u _ I5' r5 (step x H5 y5)) λ_ s6 hq0=>?_)
  obtain⟨σ6,H6,I6,q6⟩:=hq0
  refine vc8 hp (thn (hb _ s6 σ6 H6 _ I6 q6) λf s7 q7=>?_)
  have again:∀{σ7:St}{H7:Hp},Inv X (pins++zh0 fp s5.heap) σ7 H7 s7->N σ7 H7->∃m,m<n/\∃i σ' H',Inv X pins σ' H' s7/\tn i s7.heap/\(∀b∈fp,H' b=none)/\W i m σ' H':=λ{σ7 H7} I7 n7=>by
   obtain⟨m',hm,w7⟩:=hN σ7 H7 n7
   refine⟨m',hm,i+1,σ7,H7,I7.unpinned,T.keep _ _ _ st5 λb hb o e=>(I7.pin (b,o) (va6 _ (va6 _ (zcj hb e)))).1,λb hb=>?_,w7⟩
   obtain⟨o,e,d⟩:=T.obj _ _ st5 b hb
   exact(I7.pin (b,o) (va6 _ (va6 _ (zcj hb e)))).2.1
  cases f with
  |next=>obtain⟨σ7,H7,I7,n7⟩:=q7;exact again I7 n7
  |cont=>obtain⟨σ7,H7,I7,n7⟩:=q7;exact again I7 n7
  |brk=>obtain⟨σ7,H7,I7,q7⟩:=q7;exact⟨σ7,H7,I7.unpinned,q7⟩
  |ret v=>obtain⟨x7,σ7,H7,I7,r7,q7⟩:=q7;exact⟨x7,σ7,H7,I7.unpinned,r7,q7⟩
end
noncomputable abbrev R2:=V->V->Hp->VK->Prop
noncomputable def OpR(X:Cx)(f:Value->Value->Sem Value)(r:R2):Prop:=
 ∀(pins:List (Addr×Obj))(s:Shared)(σ:St)(H:Hp)(x y:V)(v u:Value)(Q:VK),Inv X pins σ H s->RelV x v->RelV y u->r x y H Q->
  wpAny (model X.prog X.w) X.A (f v u) (EP X pins σ Q) X.xe s
noncomputable def UnR(X:Cx)(f:Value->Sem Value)(r:V->Hp->VK->Prop):Prop:=
 ∀(pins:List (Addr×Obj))(s:Shared)(σ:St)(H:Hp)(x:V)(v:Value)(Q:VK),Inv X pins σ H s->RelV x v->r x H Q->
  wpAny (model X.prog X.w) X.A (f v) (EP X pins σ Q) X.xe s
noncomputable def CallR(X:Cx)(f:Value)(r:List V->Hp->VK->Prop):Prop:=
 ∀(pins:List (Addr×Obj))(s:Shared)(σ:St)(H:Hp)(xs:List V)(us:List Value)(Q:VK),Inv X pins σ H s->Vals xs us->r xs H Q->
  wpAny (model X.prog X.w) X.A (call f us) (EP X pins σ Q) X.xe s
noncomputable def TruR(X:Cx)(r:V->Hp->(Bool->Hp->Prop)->Prop):Prop:=
 ∀(pins:List (Addr×Obj))(s:Shared)(σ:St)(H:Hp)(x:V)(v:Value)(Q:Bool->Hp->Prop),Inv X pins σ H s->RelV x v->r x H Q->
  wpAny (model X.prog X.w) X.A (truthy v) (TP X pins σ Q) X.xe s
noncomputable def tOp(r:R2)(ta tb:TE):TE:=λσ H Q=>ta σ H λx H1=>tb σ H1 λy H2=>r x y H2 Q
noncomputable def tUn(r:V->Hp->VK->Prop)(ta:TE):TE:=λσ H Q=>ta σ H λx H1=>r x H1 Q
noncomputable def rI(C:Int->Int->Prop)(g:Int->Int->V):R2:=λx y H Q=>∃i j,x=.int i/\y=.int j/\C i j/\Q (g i j) H
noncomputable def rI0(g:Int->Int->V):R2:=λx y H Q=>∃i j,x=.int i/\y=.int j/\Q (g i j) H
noncomputable def rU(g:Int->V):V->Hp->VK->Prop:=λx H Q=>∃i,x=.int i/\Q (g i) H
section
variable{X:Cx}{a b c:Expr}{ta tb tc:TE}{pos:Pos}
theorem binT(ha:PE X a ta)(hb:PE X b tb){σ:St}{R:V->V->Hp->Prop}(I:Inv X pins σ H s)
 (h:ta σ H λx H1=>tb σ H1 λy H2=>R x y H2) {Q:Value->Shared->Prop} {f:Value->Value->Sem Value}
 (hf:∀v u s2 x y H2,Inv X pins σ H2 s2->RelV x v->RelV y u->R x y H2->wpAny (model X.prog X.w) X.A (f v u) Q X.xe s2) :
 wpAny (model X.prog X.w) X.A (eval a X.env) (λv s₁=>wpAny (model X.prog X.w) X.A (eval b X.env) (λu s₂=>wpAny (model X.prog X.w) X.A (f v u) Q X.xe s₂) X.xe s₁) X.xe s:=by
 refine thn (ha pins s σ H _ I h) λv s1 z9=>z9.el λx H1 I1 r1 q1=>?_
 refine thn (hb pins s1 σ H1 _ I1 q1) λu s2 z9=>z9.el λy H2 I2 r2 q2=>?_
 exact hf v u s2 x y H2 I2 r1 r2 q2
theorem pe_op{op:Operator}{r:R2}(ho:OpR X (binaryOp op) r)(ha:PE X a ta)(hb:PE X b tb):PE X (.BinOp a op b pos) (tOp r ta tb):=by
 intro pins s σ H Q I h
 exact wpAny_BinOp (binT ha hb I h λv u s2 x y H2 I2 rx ry q=>ho pins s2 σ H2 x y v u Q I2 rx ry q)
theorem pe_un{op:UnaryOp}{r:V->Hp->VK->Prop}(ho:UnR X (unaryOp op) r)(ha:PE X a ta):PE X (.UnaryOp op a pos) (tUn r ta):=by
 intro pins s σ H Q I h
 exact UnaryOp_ (thn (ha pins s σ H _ I h) λv s1 z9=>z9.el λx H1 I1 r1 q1=>ho pins s1 σ H1 x v Q I1 r1 q1)
theorem opI{f:Value->Value->Sem Value}{C:Int->Int->Prop}{g:Int->Int->Int}
 (rule:∀(i j:Int)(t u:Tok)(s:Shared)(Q:Value->Shared->Prop)(E:Value->Shared->Prop),C i j->Q (.int (g i j) s.toks) {s with toks:=s.toks+1}->wpAny (model X.prog X.w) X.A (f (.int i t) (.int j u)) Q E s) :
 OpR X f (rI C λi j=>.int (g i j)):=by
 intro pins s σ H x y v u Q I rx ry h
 obtain⟨i,j,rfl,rfl,hc,q⟩:=h
 obtain⟨t,rfl⟩:=rx
 obtain⟨t',rfl⟩:=ry
 exact rule i j t t' s _ _ hc ⟨.int (g i j),H,I.tok _,⟨_,rfl⟩,q⟩
theorem opI0{f:Value->Value->Sem Value}{g:Int->Int->Int}
 (rule:∀(i j:Int)(t u:Tok)(s:Shared)(Q:Value->Shared->Prop)(E:Value->Shared->Prop),Q (.int (g i j) s.toks) {s with toks:=s.toks+1}->wpAny (model X.prog X.w) X.A (f (.int i t) (.int j u)) Q E s) :
 OpR X f (rI0 λi j=>.int (g i j)):=by
 intro pins s σ H x y v u Q I rx ry h
 obtain⟨i,j,rfl,rfl,q⟩:=h
 obtain⟨t,rfl⟩:=rx
 obtain⟨t',rfl⟩:=ry
 exact rule i j t t' s _ _ ⟨.int (g i j),H,I.tok _,⟨_,rfl⟩,q⟩
theorem opB0{f:Value->Value->Sem Value}{g:Int->Int->Bool}
 (rule:∀(i j:Int)(t u:Tok)(s:Shared)(Q:Value->Shared->Prop)(E:Value->Shared->Prop),Q (.bool (g i j)) s->wpAny (model X.prog X.w) X.A (f (.int i t) (.int j u)) Q E s) :
 OpR X f (rI0 λi j=>.bl (g i j)):=by
 intro pins s σ H x y v u Q I rx ry h
 obtain⟨i,j,rfl,rfl,q⟩:=h
 obtain⟨t,rfl⟩:=rx
 obtain⟨t',rfl⟩:=ry
 exact rule i j t t' s _ _ ⟨.bl (g i j),H,I,rfl,q⟩
noncomputable def CDiv(i j:Int):Prop:=0<j/\j<1073741824
noncomputable def CPow(i j:Int):Prop:=0<=j/\j<=1000000/\i.natAbs<2 ^ 64
noncomputable def CMul(i j:Int):Prop:=(-(2 ^ 64)<i/\i<2 ^ 64)\/(-(2 ^ 64)<j/\j<2 ^ 64)
theorem CMul.ok{i j:Int}(h:CMul i j):IntMulOk i j:=by
 rcases h with⟨h1,h2⟩|⟨h1,h2⟩
 .exact .of_left (intBits_le_64 h1 h2)
 .exact .of_right (intBits_le_64 h1 h2)
theorem zwk:OpR X (binaryOp .Add) (rI0 λi j=>.int (i+j)):=opI0 λ_ _ _ _ _ _ _ q=>add_int q
theorem zwl:OpR X (binaryOp .Sub) (rI0 λi j=>.int (i-j)):=opI0 λ_ _ _ _ _ _ _ q=>sub_int q
theorem zwm:OpR X (binaryOp .Mult) (rI CMul λi j=>.int (i*j)):=opI λ_ _ _ _ _ _ _ hc q=>mul_int q hc.ok
theorem ztr:OpR X (binaryOp .FloorDiv) (rI CDiv λi j=>.int (i/j)):=opI λi j _ _ _ _ _ hc q=>by
 have h1:(0:Int)<j:=hc.1
 have h2:j<1073741824:=hc.2
 exact floordiv_int (by omega) (by rw[Int.fdiv_eq_ediv_of_nonneg i (by omega)];exact q) (.inl (PyProof.noPylong_small (by omega)))
theorem zwn:OpR X (binaryOp .Mod) (rI (λ_ j=>0<j) λi j=>.int (i % j)):=opI λi j _ _ _ _ _ hc q=>by
 have h1:(0:Int)<j:=hc
 exact mod_int' (by omega) (by rw[Int.fmod_eq_emod_of_nonneg i (by omega)];exact q)
theorem zwo:OpR X (binaryOp .Pow) (rI CPow λi j=>.int (i ^ j.toNat)):=opI λ_ _ _ _ _ _ _ hc q=>pow_int_small hc.1 hc.2.1 hc.2.2 q
theorem unI{f:Value->Sem Value}{g:Int->Int}
 (rule:∀(i:Int)(t:Tok)(s:Shared)(Q:Value->Shared->Prop)(E:Value->Shared->Prop),Q (.int (g i) s.toks) {s with toks:=s.toks+1}->wpAny (model X.prog X.w) X.A (f (.int i t)) Q E s) :
 UnR X f (rU λi=>.int (g i)):=by
 intro pins s σ H x v Q I rx h
 obtain⟨i,rfl,q⟩:=h
 obtain⟨t,rfl⟩:=rx
 exact rule i t s _ _ ⟨.int (g i),H,I.tok _,⟨_,rfl⟩,q⟩
theorem zwp:UnR X (unaryOp .USub) (rU λi=>.int (-i)):=unI λ_ _ _ _ _ q=>neg_int q
end
section
variable{X:Cx}{a b c:Expr}{ta tb tc:TE}{pos:Pos}
theorem zr9{σ:St}{k k':Bool}(I:Inv X pins σ H s)(q:Q (.bl k) H)(e:k=k'):EP X pins σ Q (.bool k') s:=by
 subst e
 exact⟨.bl k,H,I,rfl,q⟩
theorem op_lt:OpR X (compareOp .Lt) (rI0 λi j=>.bl (decide (i<j))):=opB0 λ_ _ _ _ _ _ _ q=>lt_int q
theorem op_le:OpR X (compareOp .LtE) (rI0 λi j=>.bl (decide (i<=j))):=opB0 λ_ _ _ _ _ _ _ q=>le_int q
theorem op_gt:OpR X (compareOp .Gt) (rI0 λi j=>.bl (decide (j<i))):=opB0 λ_ _ _ _ _ _ _ q=>gt_int q
theorem op_ge:OpR X (compareOp .GtE) (rI0 λi j=>.bl (decide (j<=i))):=opB0 λ_ _ _ _ _ _ _ q=>ge_int q
theorem zwq:OpR X (compareOp .Is) (λx y H Q=>y=.non/\Q (.bl (decide (x=.non))) H):=by
 intro pins s σ H x y v u Q I rx ry h
 obtain⟨rfl,q⟩:=h
 cases ry
 refine is_none_gen (zr9 I q ?_)
 cases x<;>first
  |(cases rx;rfl)
  |(obtain⟨t,rfl⟩:=rx;rfl)
theorem zts:OpR X (compareOp .IsNot) (λx y H Q=>y=.non/\Q (.bl (!decide (x=.non))) H):=by
 intro pins s σ H x y v u Q I rx ry h
 obtain⟨rfl,q⟩:=h
 cases ry
 refine isnot_none_gen (zr9 I q ?_)
 cases x<;>first
  |(cases rx;rfl)
  |(obtain⟨t,rfl⟩:=rx;rfl)
theorem OpR.or{f:Value->Value->Sem Value}{r r':R2}(h:OpR X f r)(h':OpR X f r'):OpR X f (λx y H Q=>r x y H Q\/r' x y H Q):=by
 intro pins s σ H x y v u Q I rx ry q
 rcases q with q|q
 .exact h pins s σ H x y v u Q I rx ry q
 .exact h' pins s σ H x y v u Q I rx ry q
theorem ztt{op:CmpOp}{r:R2}(ho:OpR X (compareOp op) r)(ha:PE X a ta)(hb:PE X b tb)(hm:behindInMarks op b=false):PE X (.Compare a [op] [b] pos) (tOp r ta tb):=by
 intro pins s σ H Q I h
 exact wpAny_Compare1 (binT ha hb I h λv u s2 x y H2 I2 rx ry q=>ho pins s2 σ H2 x y v u Q I2 rx ry q) hm
noncomputable def tTest(t:TE):TT:=λσ H Q=>t σ H λx H'=>∃k,x=.bl k/\Q k H'
theorem ztu{op:CmpOp}{r:R2}(ho:OpR X (compareOp op) r)(ha:PE X a ta)(hb:PE X b tb)(hm:behindInMarks op b=false):PT X (.Compare a [op] [b] pos) (tTest (tOp r ta tb)):=by
 intro pins s σ H Q I h
 refine wpAny_isTrue_Compare1 (thn (ha pins s σ H _ I h) λv s1 z9=>z9.el λx H1 I1 r1 q1=>thn (hb pins s1 σ H1 _ I1 q1) λu s2 z9=>z9.el λy H2 I2 r2 q2=>
  thn (ho pins s2 σ H2 x y v u _ I2 r1 r2 q2) λc s3 z9=>z9.el λz H3 I3 r3 ⟨k,e,q3⟩=>?_) hm
 subst e
 cases r3
 exact vby ⟨H3,I3,q3⟩
noncomputable def zm6(r r':R2)(ta tb tc:TE):TE:=λσ H Q=>ta σ H λx H1=>tb σ H1 λy H2=>r x y H2 λz H3=>∃k,z=.bl k/\
 (if k=true then tc σ H3 λw' H4=>r' y w' H4 Q else Q (.bl false) H3)
theorem zqc{op op':CmpOp}{r r':R2}(ho:OpR X (compareOp op) r)(ho':OpR X (compareOp op') r')(ha:PE X a ta)(hb:PE X b tb)(hc:PE X c tc)
 (hm:lastMarks [op,op'] [b,c]=false:=by with_unfolding_all rfl):PE X (.Compare a [op,op'] [b,c] pos) (zm6 r r' ta tb tc):=by
 intro pins s σ H Q I h
 refine Compare_chain (thn (ha pins s σ H _ I h) λv s1 z9=>z9.el λx H1 I1 r1 q1=>chain_link (thn (hb pins s1 σ H1 _ I1 q1) λu s2 z9=>z9.el λy H2 I2 r2 q2=>
  thn (ho pins s2 σ H2 x y v u _ I2 r1 r2 q2) λd s3 z9=>z9.el λz H3 I3 r3 ⟨k,e,q3⟩=>?_)) hm
 subst e
 cases r3
 refine vby ?_
 cases k with
 |false=>exact ite_ff ⟨.bl false,H3,I3,rfl,q3⟩
 |true=>exact ite_tt (chain_last (thn (hc pins s3 σ H3 _ I3 q3) λw' s4 z9=>z9.el λz' H4 I4 r4 q4=>ho' pins s4 σ H4 y z' u w' Q I4 r2 r4 q4))
theorem zqd{op op':CmpOp}{r r':R2}(ho:OpR X (compareOp op) r)(ho':OpR X (compareOp op') r')(ha:PE X a ta)(hb:PE X b tb)(hc:PE X c tc)
 (hm:lastMarks [op,op'] [b,c]=false:=by with_unfolding_all rfl):PT X (.Compare a [op,op'] [b,c] pos) (tTest (zm6 r r' ta tb tc)):=by
 intro pins s σ H Q I h
 refine isTrue_chain (thn (ha pins s σ H _ I h) λv s1 z9=>z9.el λx H1 I1 r1 q1=>test_link (thn (hb pins s1 σ H1 _ I1 q1) λu s2 z9=>z9.el λy H2 I2 r2 q2=>
  thn (ho pins s2 σ H2 x y v u _ I2 r1 r2 q2) λd s3 z9=>z9.el λz H3 I3 r3 ⟨k,e,q3⟩=>?_)) hm
 subst e
 cases r3
 refine vby ?_
 cases k with
 |false=>
  obtain⟨k',e',q'⟩:=q3
  cases e'
  exact ite_ff ⟨H3,I3,q'⟩
 |true=>
  refine ite_tt (test_last (thn (hc pins s3 σ H3 _ I3 q3) λw' s4 z9=>z9.el λz' H4 I4 r4 q4=>thn (ho' pins s4 σ H4 y z' u w' _ I4 r2 r4 q4) λd' s5 z9=>z9.el λz2 H5 I5 r5 hq0=>?_))
  obtain⟨k2,e2,q5⟩:=hq0
  subst e2
  cases r5
  exact vby ⟨H5,I5,q5⟩
noncomputable def TruV(K:PySem.W.Frag)(x:V)(H:Hp)(k:Bool):Prop:=
 match x with
 |.non=>k=false
 |.bl b=>k=b
 |.int i=>k=(i != 0)
 |.str y=>y.length<=sizeLine/\k=((y.length:Int) != 0)
 |.byt y=>y.size<=sizeLine/\k=((y.size:Int) != 0)
 |.ref p=>(∃xs,SqL K H p xs/\k=!xs.isEmpty)\/(∃xs,SqT K H p xs/\k=!xs.isEmpty)\/∃kvs,H p=some (.dK kvs)/\k=!kvs.isEmpty
 |_=>False
theorem zl4{κ:Type}{kvs:List (κ×V)}{vs:List (κ×Value)}(r:KV kvs vs):(!vs.isEmpty)=!kvs.isEmpty:=by
 cases r<;>rfl
theorem zfy(r:Vals xs its):(!its.toArray.isEmpty)=!xs.isEmpty:=by
 cases r<;>simp
theorem zh6:(sizeLine:Nat)<2 ^ 63:=by rw[vd7];decide
theorem zwr:TruR X (λx H Q=>∃k,TruV X.K x H k/\Q k H):=by
 intro pins s σ H x v Q I rx h
 obtain⟨k,e,q⟩:=h
 have hl:=zh6
 have hs:sizeLine=16777216:=vd7
 cases x with
 |non=>
  cases rx
  have e':k=false:=e
  subst e'
  exact truthy_none ⟨H,I,q⟩
 |bl b=>
  cases rx
  have e':k=b:=e
  subst e'
  exact vby ⟨H,I,q⟩
 |int i=>
  obtain⟨t,rfl⟩:=rx
  have e':k=(i != 0):=e
  subst e'
  exact PySem.P.truthy_int ⟨H,I,q⟩
 |str y=>
  obtain⟨t,rfl⟩:=rx
  obtain⟨hy,e'⟩:y.length<=sizeLine/\k=((y.length:Int) != 0):=e
  subst e'
  exact PySem.P.truthy_str (by omega) ⟨H,I.tok _,q⟩
 |byt y=>
  obtain⟨t,rfl⟩:=rx
  obtain⟨hy,e'⟩:y.size<=sizeLine/\k=((y.size:Int) != 0):=e
  subst e'
  exact PySem.W.truthy_bytes (by omega) ⟨H,I.tok _,q⟩
 |ref p=>
  cases rx
  have e':(∃xs,SqL X.K H p xs/\k=!xs.isEmpty)\/(∃xs,SqT X.K H p xs/\k=!xs.isEmpty)\/∃kvs,H p=some (.dK kvs)/\k=!kvs.isEmpty:=e
  rcases e' with⟨xs,hx,e'⟩|⟨xs,hx,e'⟩|⟨kvs,hx,e'⟩
  .subst e'
   obtain⟨its,r,pl,hz⟩:=I.list hx
   have hlen:=r.length
   exact wpAny_truthy_list pl.isList (by simp only[vao];omega) ⟨H,I.tok _,by rw[zfy r];exact q⟩
  .subst e'
   obtain⟨its,r,pl,hz⟩:=I.tuple hx
   have hlen:=r.length
   exact truthy_tuple pl (by simp only[vao];omega) ⟨H,I.tok _,by rw[zfy r];exact q⟩
  .subst e'
   obtain⟨hz,hS,vs,r,m⟩:kvs.length<=sizeLine/\(p==sysModules)=false/\∃vs,KV kvs vs/\s.heap.DictOf (za6 X.prog X.w) p vs:=I.hok p _ hx
   have hlen:kvs.length=vs.length:=vee r
   exact wpAny_truthy_dict hS m (by omega) ⟨H,I.tok _,by rw[zl4 r];exact q⟩
 |_=>exact(show False from e).elim
theorem zqe(ha:PE X a ta)(he:∀whole,isTrue a X.env whole=(do let v <-whole;standAt a.pos;holding [v] (truthy v))) :
 PT X a (λσ H Q=>ta σ H λx H'=>∃k,TruV X.K x H' k/\Q k H'):=by
 intro pins s σ H Q I h
 exact isTrue_plain (thn (ha pins s σ H _ I h) λv s1 z9=>z9.el λx H1 I1 r1 q1=>zwr pins s1 σ H1 x v Q I1 r1 q1) (he _)
theorem vals1(r:Vals [x] us):∃u,us=[u]/\RelV x u:=by
 cases r with
 |cons r1 r2=>cases r2;exact⟨_,rfl,r1⟩
theorem vals2(r:Vals [x,y] us):∃u w',us=[u,w']/\RelV x u/\RelV y w':=by
 cases r with
 |cons r1 r2=>
  cases r2 with
  |cons r3 r4=>cases r4;exact⟨_,_,rfl,r1,r3⟩
theorem zqf:CallR X (.builtin "abs") (λxs H Q=>∃i,xs=[.int i]/\Q (.int (if i<0 then -i else i)) H):=by
 intro pins s σ H xs us Q I r h
 obtain⟨i,rfl,q⟩:=h
 obtain⟨u,rfl,t,rfl⟩:=vals1 r
 exact call_abs_int λu tk=>⟨.int (if i<0 then -i else i),H,I.tok _,⟨_,rfl⟩,q⟩
theorem zm7(hc:X.calm=true):CallR X (.builtin "min") (λxs H Q=>∃i j,xs=[.int i,.int j]/\Q (.int (if j<i then j else i)) H):=by
 intro pins s σ H xs us Q I r h
 obtain⟨i,j,rfl,q⟩:=h
 obtain⟨u,w',rfl,⟨t,rfl⟩,⟨t',rfl⟩⟩:=vals2 r
 refine min_two_ints (I.ok.hd hc) λh' tk k=>⟨_,H,I.kept k,?_,q⟩
 by_cases hj:j<i
 .rw[if_pos hj,if_pos hj];exact⟨_,rfl⟩
 .rw[if_neg hj,if_neg hj];exact⟨_,rfl⟩
theorem zm8:CallR X (.type "int") (λxs H Q=>(∃i,xs=[.int i]/\Q (.int i) H)\/∃k,xs=[.bl k]/\Q (.int (if k then 1 else 0)) H):=by
 intro pins s σ H xs us Q I r h
 rcases h with⟨i,rfl,q⟩|⟨k,rfl,q⟩
 .obtain⟨u,rfl,t,rfl⟩:=vals1 r
  exact call_int_int ⟨.int i,H,I,⟨_,rfl⟩,q⟩
 .obtain⟨u,rfl,r1⟩:=vals1 r
  cases r1
  exact call_int_bool ⟨.int (if k then 1 else 0),H,I.tok _,⟨_,rfl⟩,q⟩
end
structure ObjM(h:Heap)(x dx C:Addr)(mA:Str->Option Value):Prop where
 obj:h.get? x=some (PySem.W.instObj C dx)
 ns:h.Ns1 dx mA
 ne:dx≠x
theorem zm9{h:Heap}{dx:Addr}{mA:Str->Option Value}(n:h.Ns1 dx mA):∃od,h.get? dx=some od/\∀name,PySem.W.lookIn name od=some (mA name):=by
 obtain⟨o,es,ep,ho,hd,hk,_,hm⟩:=n
 refine⟨o,ho,λname=>?_⟩
 have e:=hm name
 unfold nsFind findBy at e
 rw[<-Array.find?_toList]at e
 unfold PySem.W.lookIn
 rw[hd]
 dsimp only
 split
 .rename_i y q
  rw[q]at e
  exact vdu some e
 .rename_i q
  rw[q]at e
  have a:es.toList.any (·.refKey)=false:=by
   rw[List.any_eq_false]
   intro y hy
   obtain⟨z,t,hkey⟩:=hk y (Array.mem_toList_iff.mp hy)
   simp[DictEntry.refKey,hkey]
  have a':¬es.toList.any (·.refKey)=true:=by rw[a];exact vdk
  rw[if_neg a']
  exact vdu some e
theorem ObjM.look{x dx C:Addr}{mA:Str->Option Value}(I:ObjM h x dx C mA):∃od,PySem.W.InstAt h x (PySem.W.instObj C dx) C (some od)/\∀name,PySem.W.lookIn name od=some (mA name):=
 let⟨od,ho,hl⟩:=zm9 I.ns
 ⟨od,⟨I.obj,rfl,rfl,ho⟩,hl⟩
theorem RelO.some_of{o:Option Value}(r:RelO (some v) o):∃u,o=some u/\RelV v u:=by
 cases o with
 |none=>exact(show False from r).elim
 |some u=>exact⟨u,rfl,r⟩
section
variable{P:Program}{w:World}{H H':Hp}{h h':Heap}{a C dx:Addr}{fs fs':List (Str×V)}
theorem ztv(hok:HOk P w H h)(e:H a=some (.ins C dx fs)):∃mA,ObjM h a dx C mA/\(∀f,RelO (fs.lookup f) (mA f))/\PySem.Within mA (fs.map (·.1))/\fs.length<=1000/\H dx=some (.own a):=by
 obtain⟨d,z,ne,ob,mA,n,r,q⟩:=(show ObjOk P w H h a (.ins C dx fs)from hok a _ e)
 exact⟨mA,⟨ob,n,ne⟩,r,q,z,d⟩
end
structure Cls(K:PySem.W.Frag)(C:Addr):Prop where
 pg:PySem.W.plainGet K C Str.empty=true
 hd:PySem.W.hasDictIn K C=true
 po:PySem.W.plainOver K C=true
 sa:PySem.W.findIn K (.ref C) "__setattr__" = some (some (.builtin "object.__setattr__"))
theorem Cls.get{K:PySem.W.Frag}{C:Addr}(c:Cls K C)(f:Str):PySem.W.plainGet K C f=true:=c.pg
section
variable{X:Cx}{pins:List (Addr×Obj)}{σ:St}{H:Hp}{s:Shared}{A:Around}{E:Value->Shared->Prop}{Q:Value->Shared->Prop}{c:Value}{b:Bool}
inductive TyOf(K:PySem.W.Frag)(H:Hp):V->Value->Prop where
 |non:TyOf K H .non (.type "NoneType")
 |bl (x:Bool):TyOf K H (.bl x) (.type "bool")
 |int (i:Int):TyOf K H (.int i) (.type "int")
 |str (x:Str):TyOf K H (.str x) (.type "str")
 |flt (x:UInt64):TyOf K H (.flt x) (.type "float")
 |lst {a:Addr} {xs:List V} (e:H a=some (.lst xs)):TyOf K H (.ref a) (.type "list")
 |frz {a:Addr} {o:Obj} {xs:List V} (e:H a=some (.frz o (.lst xs))):TyOf K H (.ref a) (.type "list")
 |tup {a:Addr} {xs:List V} (e:H a=some (.tup xs)):TyOf K H (.ref a) (.type "tuple")
 |dK {a:Addr} {kvs:List (Key×V)} (e:H a=some (.dK kvs)):TyOf K H (.ref a) (.type "dict")
 |dT {a:Addr} {kvs:List (List Key×V)} (e:H a=some (.dT kvs)):TyOf K H (.ref a) (.type "dict")
 |ins {a C dx:Addr} {fs:List (Str×V)} (e:H a=some (.ins C dx fs)) (cl:Cls K C) (ha:PySem.W.findIn K (.ref C) "__class__" = some (some (.builtin "object.__class__")))
   (hn:PySem.W.specialIn K (.builtin "object.__class__") "__get__" = some (some (.builtin "getset_descriptor.__get__"))) (htk:PySem.W.takesIn K (.builtin "object.__class__")=some true)
   (hm:PySem.W.mroIn K C (.type "object")=some true):TyOf K H (.ref a) (.ref C)
theorem zna(I:Inv X pins σ H s)(rx:RelV x u)(ty:TyOf X.K H x t)(e:PySem.W.kitOne X.K t c=some b)(h:∀tk,Q (.bool b) {s with toks:=tk}) :
 wpAny (model X.prog X.w) A (call (.builtin "isinstance") [u,c]) Q E s:=by
 cases ty with
 |non=>cases(show u=Value.none from rx);exact vbt PySem.W.kitx_none I.kIn True.intro e (λz=>nomatch z) h
 |bl y=>cases(show u=Value.bool y from rx);exact vbt PySem.W.kitx_bool I.kIn True.intro e (λz=>nomatch z) h
 |int i=>obtain⟨t,q⟩:=(show ∃t,u=Value.int i t from rx);cases q;exact vbt PySem.W.kitx_int I.kIn True.intro e (λz=>nomatch z) h
 |str y=>obtain⟨t,q⟩:=(show ∃t,u=Value.str y t from rx);cases q;exact vbt PySem.W.kitx_str I.kIn True.intro e (λz=>nomatch z) h
 |flt y=>obtain⟨t,q⟩:=(show ∃t,u=Value.float y t from rx);cases q;exact vbt PySem.W.kitx_float I.kIn True.intro e (λz=>nomatch z) h
 | @lst a xs ea=>
  cases(show u=Value.ref a from rx)
  obtain⟨_,_,n,_,h1⟩:=(show ObjOk X.prog X.w H s.heap a (.lst xs)from I.hok a _ ea)
  exact vbt PySem.W.kitx_list I.kIn ⟨_,h1,rfl⟩ e (λz=>nomatch z) h
 | @frz a ob xs ea=>
  cases(show u=Value.ref a from rx)
  obtain⟨_,_,_,n,_,h1⟩:=(show ObjOk X.prog X.w H s.heap a (.frz ob (.lst xs))from I.hok a _ ea)
  exact vbt PySem.W.kitx_list I.kIn ⟨_,h1,rfl⟩ e (λz=>nomatch z) h
 | @tup a xs ea=>
  cases(show u=Value.ref a from rx)
  obtain⟨_,_,_,p⟩:=(show ObjOk X.prog X.w H s.heap a (.tup xs)from I.hok a _ ea)
  obtain⟨o,h1,h2,_⟩:=p
  exact vbt PySem.W.kitx_tuple I.kIn ⟨o,h1,h2⟩ e (λz=>nomatch z) h
 | @dK a kvs ea=>
  cases(show u=Value.ref a from rx)
  obtain⟨_,_,vs,_,p⟩:=(show ObjOk X.prog X.w H s.heap a (.dK kvs)from I.hok a _ ea)
  obtain⟨o,es,ep,h1,h2,_⟩:=p
  exact vbt PySem.W.kitx_dict I.kIn ⟨o,h1,h2.1⟩ e (λz=>nomatch z) h
 | @dT a kvs ea=>
  cases(show u=Value.ref a from rx)
  obtain⟨_,_,xs,_,o,es,ep,h1,h2,_⟩:=(show ObjOk X.prog X.w H s.heap a (.dT kvs)from I.hok a _ ea)
  exact vbt PySem.W.kitx_dict I.kIn ⟨o,h1,h2.1⟩ e (λz=>nomatch z) h
 | @ins a C dx fs ea cl ha hn htk hm=>
  cases(show u=Value.ref a from rx)
  obtain⟨mA,O,_⟩:=ztv I.hok ea
  obtain⟨od,J,_⟩:=O.look
  exact vbt (PySem.W.kitx_own (cl.get _) cl.hd ha hn htk hm) I.kIn J e (λz=>nomatch z) h
end
structure Room(k:Nat)(A:Around):Prop where
 hd:A.handled=none
 dp:A.depth+3*k+5<recursionLimit
 un:A.units+16*k+200<cLine
theorem Room.deeper{k:Nat}(r:Room (k+1) A)(env:Env):Room k (A.deeper env):=
 ⟨r.hd,by have:=r.dp;show A.depth+1+3*k+5<_;omega,by have:=r.un;show A.units+3+16*k+200<_;omega⟩
theorem Room.depth{k:Nat}(r:Room k A):A.depth<recursionLimit:=by have:=r.dp;omega
theorem Room.units{k:Nat}(r:Room k A):A.units+64<cLine:=by have:=r.un;omega
noncomputable def tNil:TA:=λ_ H Q=>Q [] H
noncomputable def tCons(ta:TE)(tr:TA):TA:=λσ H Q=>ta σ H λx H1=>tr σ H1 λxs H2=>Q (x::xs) H2
section
variable{X:Cx}{e:Expr}{es:List Expr}{te:TE}{t:TA}{pos:Pos}
theorem zkq:PA X [] tNil:=λ_ _ _ _ H Q I h=>Calls.spliced_nil ⟨[],H,I,.nil,h⟩
theorem zey(ha:PE X e te)(hr:PA X es t)(hs:starEach (e::es) X.env=(false,eval e X.env)::starEach es X.env:=by rfl):PA X (e::es) (tCons te t):=by
 intro pos pins s σ H Q I h
 rw[hs]
 show wpAny _ _ (spliced ((false,eval e X.env)::backTo pos (starEach es X.env))) _ _ s
 refine Calls.spliced_cons (thn (ha pins s σ H _ I h) λu s1 z9=>z9.el λx H1 I1 r1 q1=>?_)
 exact thn (hr pos pins s1 σ H1 _ I1 q1) λus s2 z9=>z9.el λxs H2 I2 r2 q2=>⟨x::xs,H2,I2,.cons r1 r2,q2⟩
noncomputable def tTup(t:TA):TE:=λσ H Q=>t σ H λxs H1=>xs.length<=sizeLine/\∀p,H1 p=none->Q (.ref p) (upd H1 p (.tup xs))
noncomputable def tLst(t:TA):TE:=λσ H Q=>t σ H λxs H1=>xs.length<=sizeLine/\∀p,H1 p=none->Q (.ref p) (upd H1 p (.lst xs))
theorem zws{x1}(h:PA X es t):PE X (.Tuple es x1 pos) (tTup t):=by
 intro pins s σ H Q I hq
 refine wpAny_Tuple_spliced (thn (h pos pins s σ H _ I hq) λus s1 z9=>z9.el λxs H1 I1 r ⟨z,q⟩=>⟨by rw[<-r.length];exact z,?_⟩)
 have hf:H1 s1.heap.objs.size=none:=I1.hok.fresh (vac _)
 refine⟨.ref s1.heap.objs.size,upd H1 s1.heap.objs.size (.tup xs),I1.laid (t':=s1.toks) (λb u e=>vae _ e) (vac _) ?_,rfl,q _ hf⟩
 exact⟨z,us,r,zbj.new _ _⟩
theorem zwt(h:PA X es t):PE X (.List es pos) (tLst t):=by
 intro pins s σ H Q I hq
 refine wpAny_List_spliced (thn (h pos pins s σ H _ I hq) λus s1 z9=>z9.el λxs H1 I1 r ⟨z,q⟩=>⟨by rw[<-r.length];exact z,?_⟩)
 have hf:H1 s1.heap.objs.size=none:=I1.hok.fresh (vac _)
 refine⟨.ref s1.heap.objs.size,upd H1 s1.heap.objs.size (.lst xs),I1.laid (t':=s1.toks) (λb u e=>vae _ e) (vac _) ?_,rfl,q _ hf⟩
 exact⟨z,us,0,r,va2 _ rfl⟩
end
noncomputable abbrev Sp:=List V->Hp->VK->XK->Prop
noncomputable abbrev CXT:=List Env->Hp->Shared->XK->Value->Shared->Prop
structure Env0(P:Program)(w:World)(K:PySem.W.Frag)(mg:Str->Option Value)(base:Heap)(A:Around)(outer:List Env)(s:Shared)(H:Hp):Prop where
 frames:A.frames=some outer
 mod:Mod K mg base
 bs:∀b o,base.get? b=some o->s.heap.get? b=some o/\H b=none
 bsz:base.objs.size<=s.heap.objs.size
 funs:s.heap.FunFrames base outer
 frf:∀b∈frs outer,H b=none
 hok:HOk P w H s.heap
 bare:AllBare s.gens
noncomputable def CE(outer:List Env)(P:Program)(w:World)(H:Hp)(s:Shared)(Q:VK)(u:Value)(s':Shared):Prop:=
 ∃v H',s'.os=s.os/\AllBare s'.gens/\Un (frs outer) [] H H' s.heap s'.heap/\HOk P w H' s'.heap/\RelV v u/\Q v H'
noncomputable def CR(CX:CXT)(outer:List Env)(P:Program)(w:World)(H:Hp)(s:Shared)(Q:VK)(E:XK)(r:Result)(s':Shared):Prop:=
 match r with
 |.ok (.ret u)=>CE outer P w H s Q u s'
 |.ok _=>False
 |.error e=>CX outer H s E e s'
structure FnOk(P:Program)(w:World)(K:PySem.W.Frag)(mg:Str->Option Value)(base:Heap)(CX:CXT)(k:Nat)(f:Addr)(fd:FuncData)(ps:List Str)(sp:Sp):Prop where
 len:∀vs H Q E,sp vs H Q E->vs.length=ps.length
 run:∀(A:Around)(outer:List Env)(s:Shared)(H:Hp)(args:Args)(us:List Value)(vs:List V)(Q:VK)(E:XK),Room k A->Env0 P w K mg base A outer s H->BindsTo s fd args (ps.zip us)->Vals vs us->sp vs H Q E->
  codeAny (model P w) A (.call (.ref f) args) (CR CX outer P w H s Q E) s
section
variable{X:Cx}{pins:List (Addr×Obj)}{σ:St}{H:Hp}{s s':Shared}
theorem Inv.env0(I:Inv X pins σ H s):Env0 X.prog X.w X.K X.mg X.base X.A X.stack s H:=
 ⟨I.ok.frames,I.ok.mod,I.bs,vbe I.ok.bsz I.sz,I.stack,I.stkFree,I.hok,I.bare⟩
theorem Inv.after(I:Inv X pins σ H s)(h:CE X.stack X.prog X.w H s Q u s'):EP X pins σ Q u s':=by
 obtain⟨v,H',os,bare,un,hok,r,q⟩:=h
 obtain⟨hh,g,d,t,os'⟩:=s'
 obtain rfl:os'=s.os:=os
 exact⟨v,H',I.call (h':=hh) (g':=g) (d':=d) (t':=t) (ch:=[]) un hok bare (λb z=>absurd z (by simp)),r,q⟩
end
noncomputable def tCall(sp:Sp)(dvs:List V)(E:XK)(t:TA):TE:=λσ H Q=>t σ H λvs H1=>sp (vs++dvs) H1 Q E
noncomputable def Binds(K:PySem.W.Frag)(fd:FuncData)(ps:List Str)(ds:List Value):Prop:=
 ∀(s:Shared)(us:List Value),K.In s.heap->(us++ds).length=ps.length->BindsTo s fd ⟨us,[]⟩ (ps.zip (us++ds))
theorem Binds.all{K:PySem.W.Frag}{fd:FuncData}{ps:List Str}(h:∀us:List Value,us.length=ps.length->bindArgs fd ⟨us,[]⟩=pure (ps.zip us)):Binds K fd ps []:=λs us _ hl=>by
 rw[vbc]at hl ⊢
 exact .of_eq (h us hl)
noncomputable def zkr(CX:CXT)(X:Cx)(E:XK):Prop:=∀(pins:List (Addr×Obj)) (σ:St) (H:Hp) (s:Shared) (e:Value) (s':Shared),Inv X pins σ H s->CX X.stack H s E e s'->X.xe e s'
section
variable{X:Cx}{CX:CXT}{k:Nat}{f C:Addr}{fd:FuncData}{ps:List Str}{sp:Sp}{dvs:List V}{ds:List Value}{E:XK}{x m:Str}{p pos apos:Pos}{e o:Expr}{es:List Expr}{ta:TE}{t:TA}
theorem zsa{pins:List (Addr×Obj)}{σ:St}{H:Hp}{s:Shared}{Q:VK}{us:List Value}{vs:List V}(F:FnOk X.prog X.w X.K X.mg X.base CX k f fd ps sp)(hr:Room k X.A)(hb:Binds X.K fd ps ds)(hd:Vals dvs ds)(hx:zkr CX X E)
 (I:Inv X pins σ H s) (r:Vals vs us) (h:sp (vs++dvs) H Q E):wpAny (model X.prog X.w) X.A (call (.ref f) us) (EP X pins σ Q) X.xe s:=by
 have r2:Vals (vs++dvs) (us++ds):=r.append hd
 have hl:(us++ds).length=ps.length:=by rw[<-r2.length];exact F.len _ _ _ _ h
 refine wpAny_call (codeAny_mono (F.run X.A X.stack s H ⟨us,[]⟩ (us++ds) (vs++dvs) Q E hr I.env0 (hb s us I.kIn hl) r2 h) λr s' hq=>?_)
 cases r with
 |error e=>exact hx pins σ H s e s' I hq
 |ok fl=>
  cases fl with
  |ret u=>exact I.after hq
  |next=>exact False.elim hq
  |brk=>exact False.elim hq
  |cont=>exact False.elim hq
theorem znb(F:FnOk X.prog X.w X.K X.mg X.base CX k f fd ps sp)(hr:Room k X.A)(hg:Gl X x)(hm:X.mg x=some (.ref f))(hk:PySem.W.keepIn X.K (.ref f)=true)(hb:Binds X.K fd ps ds)(hd:Vals dvs ds)(hx:zkr CX X E)
 (ha:PA X (e::es) t) (hdb:(x==("__debug__" : Str))=false:=by decide) (he:starEach (e::es) X.env=(false,eval e X.env)::starEach es X.env:=by rfl) (hpl:(backTo pos (starEach es X.env)).any (·.1)=false:=by rfl) :
 PE X (.Call (.Name x p) (e::es) [] pos) (tCall sp dvs E t):=by
 intro pins s σ H Q I h
 refine vd2 (zjq I hg hm ?_ hdb)
 refine PySem.W.callWith_K (h₀:=X.base) I.ok.mod.kin hk (thn (ha pos pins s σ H _ I h) λus s1 z9=>z9.el λvs H1 I1 r q=>⟨I1.kIn,?_⟩) he hpl
 exact zsa F hr hb hd hx I1 r q
theorem zqg(F:FnOk X.prog X.w X.K X.mg X.base CX k f fd ps sp)(hr:Room k X.A)(hg:Gl X x)(hm:X.mg x=some (.ref f))(hk:PySem.W.keepIn X.K (.ref f)=true)(hb:Binds X.K fd ps ds)(hd:Vals dvs ds)(hx:zkr CX X E)
 (hdb:(x==("__debug__" : Str))=false:=by decide):PE X (.Call (.Name x p) [] [] pos) (tCall sp dvs E tNil):=by
 intro pins s σ H Q I h
 refine vd2 (zjq I hg hm ?_ hdb)
 exact PySem.W.callWith_K0 I.kIn hk (zsa (us:=[]) F hr hb hd hx I .nil h)
end
structure FnScope(N P:List Str)(sc:Scope):Prop where
 kind:sc.kind=.function
 co:sc.isCoroutine=false
 gen:sc.isGenerator=false
 nd:N.Nodup
 pre:N.take P.length=P
 par:∀x∈P,sc.names.lookup x=some .local\/sc.names.lookup x=some .cell
 nofree:∀y∈sc.names,y.2≠.free
theorem zh7{kindOf:Str->Option NameKind}{x:Str}:∀{binds:List (Str×Value)} {m:Str->Option Value},(∀v,(x,v)∉binds)->bindL kindOf binds m x=m x
 |[],_,_=>rfl
 |(n,v)::r,m,h=>by
  unfold bindL
  rw[zh7 λw hw=>h w (vai _ hw)]
  split
  .have:x≠n:=by rintro rfl;exact h v vam
   simp[this]
  .rfl
theorem zh8{kindOf:Str->Option NameKind}{x:Str}:∀{binds:List (Str×Value)} {m:Str->Option Value},(∀v,(x,v)∉binds)->bindC kindOf binds m x=m x
 |[],_,_=>rfl
 |(n,v)::r,m,h=>by
  unfold bindC
  rw[zh8 λw hw=>h w (vai _ hw)]
  split
  .rfl
  .have:x≠n:=by rintro rfl;exact h v vam
   simp[this]
theorem zh9{kindOf:Str->Option NameKind}{x:Str}:∀{P:List Str} {vs:List Value} {i:Nat} {m:Str->Option Value},P.Nodup->P[i]?=some x->vs[i]?=some v->kindOf x=some .local->
 bindL kindOf (P.zip vs) m x=some v
 |[],_,_,_,_,h,_,_=>by simp at h
 |_::_,[],_,_,_,_,h,_=>by simp at h
 |p::P,w::vs,0,m,nd,h1,h2,hk=>by
  simp at h1 h2;subst h1;subst h2
  show bindL kindOf ((p,w)::P.zip vs) m p=_
  unfold bindL
  rw[zh7 λv hv=>(vdl.mp nd).1 (vd3 hv).1,if_pos hk]
  simp
 |p::P,w::vs,i+1,m,nd,h1,h2,hk=>by
  show bindL kindOf ((p,w)::P.zip vs) m x=_
  unfold bindL
  exact zh9 (i:=i) (vdl.mp nd).2 (by simpa using h1) (by simpa using h2) hk
theorem zia{kindOf:Str->Option NameKind}{x:Str}:∀{P:List Str} {vs:List Value} {i:Nat} {m:Str->Option Value},P.Nodup->P[i]?=some x->vs[i]?=some v->kindOf x≠some .local->
 bindC kindOf (P.zip vs) m x=some v
 |[],_,_,_,_,h,_,_=>by simp at h
 |_::_,[],_,_,_,_,h,_=>by simp at h
 |p::P,w::vs,0,m,nd,h1,h2,hk=>by
  simp at h1 h2;subst h1;subst h2
  show bindC kindOf ((p,w)::P.zip vs) m p=_
  unfold bindC
  rw[zh8 λv hv=>(vdl.mp nd).1 (vd3 hv).1,if_neg hk]
  simp
 |p::P,w::vs,i+1,m,nd,h1,h2,hk=>by
  show bindC kindOf ((p,w)::P.zip vs) m x=_
  unfold bindC
  exact zia (i:=i) (vdl.mp nd).2 (by simpa using h1) (by simpa using h2) hk
noncomputable def start(N:List Str)(vs:List V):St:=vs.map some++List.replicate (N.length-vs.length) none
noncomputable def cxOf(CX:CXT)(P:Program)(w:World)(K:PySem.W.Frag)(mg:Str->Option Value)(base:Heap)(N:List Str)(qual:Str)(scope:Scope)(f:Addr)(cd:Value)(A:Around)(outer:List Env)(s:Shared)(H:Hp)(E:XK):Cx where
 prog:=P
 w:=w
 K:=K
 mg:=mg
 base:=base
 A:=A.deeper (envOfC qual scope s.heap.objs.size f cd)
 N:=N
 s₀:=s
 H₀:=H
 env:=envOfC qual scope s.heap.objs.size f cd
 outer:=outer
 stack:=envOfC qual scope s.heap.objs.size f cd::outer
 ex:=[]
 calm:=true
 fn:=λ_=>true
 pn:=[]
 xe:=λe s'=>wpAny (model P w) (A.deeper (envOfC qual scope s.heap.objs.size f cd)) (leaving (envOfC qual scope s.heap.objs.size f cd) e) (λ_ s''=>CX outer H s E e s'') (λe' s''=>CX outer H s E e' s'') s'
theorem zks{sc:Scope}{n:Nat}{x:Str}(h:sc.names.lookup x=some .cell):∃c,(cellsFrom n sc.names []).lookup x=some c:=by
 have q:=PySem.W.cellsFrom_some sc.names n [] (.inl h)
 exact Option.isSome_iff_exists.mp q
theorem znc{CX:CXT}{P:Program}{w:World}{K:PySem.W.Frag}{mg:Str->Option Value}{base:Heap}{N ps:List Str}{qual:Str}{scope:Scope}{f:Addr}{cd:Value}{A:Around}{outer:List Env}{s s1:Shared}{H:Hp}{E:XK}{us:List Value}{vs:List V}
 (S:FnScope N ps scope) (hd:A.handled=none) (e0:Env0 P w K mg base A outer s H) (hl:vs.length=ps.length) (r:Vals vs us)
 (x:InCallC s s.heap.objs.size (bindL (envOfC qual scope s.heap.objs.size f cd).kindOf (ps.zip us) λ_=>none) (cellsFrom (s.heap.objs.size+1) scope.names []) (bindC (envOfC qual scope s.heap.objs.size f cd).kindOf (ps.zip us) λ_=>none) s1) :
 Inv (cxOf CX P w K mg base N qual scope f cd A outer s H E) [] (start N vs) H s1:=by
 have hpl:ps.length<=N.length:=by have:=vdu List.length S.pre;rw[vcz]at this;omega
 obtain⟨h1,tk,rfl,hk⟩:=x.done
 have noA:∀b:Addr,b∉(cxOf CX P w K mg base N qual scope f cd A outer s H E).ex:=λb z=>absurd (show b∈([]:List Addr)from z) (by simp)
 refine⟨⟨e0.mod,S.kind,rfl,rfl,vac _,λy z c h1 h2=>?_,λy hy=>?_,λy c _ h=>?_,λ_=>hd,Around.frames_deeper e0.frames,.inr ⟨rfl,rfl⟩,λb z=>absurd z (noA b),e0.bs,e0.bsz,λb _ _=>noA b,λb z=>absurd z (noA b),e0.funs,e0.frf⟩,
  rfl,e0.bare,Un.kept hk,⟨_,x.toInCall.ns,λi y v h1 h2 h3=>?_⟩,λy c h=>⟨_,x.cell y c h⟩,e0.hok.fresh (vac _),λy c h=>?_,λp hp=>absurd (show p∈([]:List (Addr×Obj))from hp) (by simp),e0.hok.kept hk,?_⟩
 .exact name_of_addr x.apart (vdb h1) (vdb h2)
 .have hy:scope.names.lookup y=some .cell\/scope.names.lookup y=some .free:=hy
  rcases hy with hy|hy
  .exact zks hy
  .exact absurd rfl (S.nofree _ (vdb hy))
 .exact veb (x.above y c (vdb h))
 .have hi:i<vs.length:=by
   unfold start at h2
   by_cases hi:i<vs.length
   .exact hi
   .rw[vbb (by simpa using hi)]at h2
    rw[List.getElem?_replicate]at h2
    split at h2<;>cases h2
  have ha:vs[i]?=some v:=by
   unfold start at h2
   rw[vci (by simpa using hi),vbf]at h2
   cases e:vs[i]? with
   |none=>rw[e]at h2;cases h2
   |some a=>rw[e]at h2;cases h2;rfl
  obtain⟨u,hu,rv⟩:=r.get ha
  have hp:ps[i]?=some y:=by
   rw[<-S.pre,List.getElem?_take_of_lt (by omega)];exact h1
  have ndP:ps.Nodup:=by rw[<-S.pre];exact S.nd.sublist (List.take_sublist _ _)
  refine⟨u,rv,?_⟩
  rcases S.par y (vcb hp)with k|k
  .exact .inl ⟨k,zh9 ndP hp hu k⟩
  .obtain⟨c,e⟩:=zks (n:=s.heap.objs.size+1) k
   refine .inr ⟨.inl k,c,e,?_⟩
   have q:=x.cell y c e
   rw[zia ndP hp hu (by show scope.names.lookup y≠_;rw[k];decide)]at q
   exact q
 .exact e0.hok.fresh (veb (x.above y c (vdb h)))
 .unfold start
  show _=N.length
  rw[vaf,vad,List.length_replicate]
  omega
theorem fn_of{CX:CXT}{P:Program}{w:World}{K:PySem.W.Frag}{mg:Str->Option Value}{base:Heap}{k:Nat}{f:Addr}{name qual:Str}{params:Arguments}{body:List Stmt}{scope:Scope}{dV kV doc pm cdv ct oc:Value}{an od:Option Addr}
 {osl:Array (Option Value)} {N ps:List Str} {sp:Sp} (lk:K.lookup f=some ⟨oc,od,.func (PySem.W.fnOf name qual params body scope dV kV doc pm an cdv ct),osl⟩) (hcd:PySem.W.codeIn K cdv qual=true) (S:FnScope N ps scope)
 (len:∀vs H Q E,sp vs H Q E->vs.length=ps.length)
 (hbody:∀(A:Around)(outer:List Env)(s:Shared)(H:Hp)(vs:List V)(Q:VK)(E:XK),Room k (A.deeper (envOfC qual scope s.heap.objs.size f cdv))->sp vs H Q E->
   ∃t,PSs (cxOf CX P w K mg base N qual scope f cdv A outer s H E) body t/\t {nx:=λ_ H'=>Q .non H',rt:=Q} (start N vs) H) :
 FnOk P w K mg base CX (k+1) f (PySem.W.fnOf name qual params body scope dV kV doc pm an cdv ct) ps sp:=by
 refine⟨len,λA outer s H args us vs Q E hr e0 hb r hsp=>?_⟩
 have hl:=len _ _ _ _ hsp
 have KX:K.In s.heap:=e0.mod.kin.keeps λb o e=>(e0.bs b o e).1
 have lim:s.heap.NoLimit:=e0.mod.nolimit.keeps λb o e=>(e0.bs b o e).1
 have hkind:∀y∈ps.zip us,scope.names.lookup y.1=some .local\/(scope.names.lookup y.1=some .cell/\((cellsFrom (s.heap.objs.size+1) scope.names []).lookup y.1).isSome=true):=λhq0 hy=>by
  obtain⟨n,v⟩:=hq0
  rcases S.par n (vd3 hy).1 with q|q
  .exact .inl q
  .exact .inr ⟨q,PySem.W.cellsFrom_some _ _ _ (.inl q)⟩
 refine codeAny_call_function hr.depth (KX _ _ lk) rfl S.co S.gen rfl (PySem.W.codeRec_of KX hcd) (hb _ _ _ _ ?_)
 refine wpAny_newFunctionEnv_cells S.kind hkind λenv he s1 x=>?_
 subst he
 refine⟨lim.keeps x.toInCall.keep,codeAny_func ?_⟩
 obtain⟨t,ht,hq⟩:=hbody A outer s H vs Q E (hr.deeper _) hsp
 have I:Inv (cxOf CX P w K mg base N qual scope f cdv A outer s H E) [] (start N vs) H s1:=znc S hr.hd e0 hl r x
 refine vdf (ht [] s1 (start N vs) H _ I hq) (λfl s' hs=>?_) λe s' hs=>hs
 have fin:∀{σ':St}{H':Hp}{v:V}{u:Value},Inv (cxOf CX P w K mg base N qual scope f cdv A outer s H E) [] σ' H' s'->RelV v u->Q v H'->CE outer P w H s Q u s':=
  λ{σ' H' v u} J rv q=>⟨v,H',J.os,J.bare,J.base,J.hok,rv,q⟩
 cases fl with
 |ret u=>
  obtain⟨v,σ',H',J,rv,q⟩:=hs
  exact fin J rv q
 |next=>
  obtain⟨σ',H',J,q⟩:=hs
  exact fin (v:=V.non) (u:=Value.none) J rfl q
 |brk=>
  obtain⟨_,_,_,q⟩:=hs
  exact False.elim q
 |cont=>
  obtain⟨_,_,_,q⟩:=hs
  exact False.elim q
section
variable{X:Cx}{x:Str}{p pos:Pos}{e:Expr}{es:List Expr}{t:TA}{id T:String}{r:List V->Hp->VK->Prop}
noncomputable def tCB(r:List V->Hp->VK->Prop)(t:TA):TE:=λσ H Q=>t σ H λvs H1=>r vs H1 Q
theorem zkt(hc:CallR X (.builtin id) r)(hg:Gl X x)(hm:X.mg x=none)(hv:bootBuiltins x=some (.builtin id))(ha:PA X (e::es) t)(hn:x≠"__name__":=by decide)(hdb:(x==("__debug__" : Str))=false:=by decide)
 (he:starEach (e::es) X.env=(false,eval e X.env)::starEach es X.env:=by rfl) (hpl:(backTo pos (starEach es X.env)).any (·.1)=false:=by rfl):PE X (.Call (.Name x p) (e::es) [] pos) (tCB r t):=by
 intro pins s σ H Q I h
 refine vd2 (zfx I hg hm hv ?_ hn hdb)
 exact PyProof.Rows.callWith_builtin1 (thn (ha pos pins s σ H _ I h) λus s1 z9=>z9.el λvs H1 I1 r1 q1=>hc pins s1 σ H1 vs us Q I1 r1 q1) he hpl
theorem znd(hc:CallR X (.type T) r)(hg:Gl X x)(hm:X.mg x=none)(hv:bootBuiltins x=some (.type T))(ha:PA X (e::es) t)(hn:x≠"__name__":=by decide)(hdb:(x==("__debug__" : Str))=false:=by decide)
 (he:starEach (e::es) X.env=(false,eval e X.env)::starEach es X.env:=by rfl) (hpl:(backTo pos (starEach es X.env)).any (·.1)=false:=by rfl):PE X (.Call (.Name x p) (e::es) [] pos) (tCB r t):=by
 intro pins s σ H Q I h
 refine vd2 (zfx I hg hm hv ?_ hn hdb)
 exact vcw (thn (ha pos pins s σ H _ I h) λus s1 z9=>z9.el λvs H1 I1 r1 q1=>hc pins s1 σ H1 vs us Q I1 r1 q1) he hpl
end
end L2
namespace HT
open PySem PyProof.Rows
section
variable{prog:Program}{w:World}{A:Around}{E:Value->Shared->Prop}{s:Shared}
theorem cat_tup{t b:Addr}{Q:Value->Shared->Prop}(ht:IsTup s.heap t vs.toArray)(hb:IsTup s.heap b ws.toArray)(hv:vs≠[])
 (h1:ws=[]->Q (.ref t) s) (h2:ws≠[]->Q (.ref s.heap.objs.size) {s with heap:=s.heap.push {cls:=.type "tuple",data:=.seq (vs++ws).toArray}})
 (hsz:vs.length+ws.length<=sizeLine):wpAny (model prog w) A (binaryOp .Add (.ref t) (.ref b)) Q E s:=by
 obtain⟨⟨cls,dd,data,sl⟩,ho,hc,n,hd⟩:=id ht
 obtain⟨⟨cls2,dd2,data2,sl2⟩,ho2,hc2,n2,hd2⟩:=id hb
 simp only at hc hd hc2 hd2
 subst hc hd hc2 hd2
 have e:vs.toArray++ws.toArray=(vs++ws).toArray:=by simp
 by_cases hw:ws=[]
 .exact concat_meets ⟨_,ho,rfl⟩ ⟨_,ho2,rfl⟩ noFill_tuple_add seq_tuple_add PySem.F.slot_tuple_add PySem.F.entry_tuple_add (PySem.F.args_tuple_add_2 _ _)
   (tuple_addW1 t b vs.toArray ws.toArray n n2 dd dd2 sl sl2 (by simpa using hv) (by simp[hw])) ⟨ho,ho2,h1 hw⟩
 .refine concat_meets ⟨_,ho,rfl⟩ ⟨_,ho2,rfl⟩ noFill_tuple_add seq_tuple_add PySem.F.slot_tuple_add PySem.F.entry_tuple_add (PySem.F.args_tuple_add_2 _ _)
   (tuple_addW2 t b vs.toArray ws.toArray n n2 dd dd2 sl sl2 (by simpa using hv) (by simpa using hw) (by rw[vao,vao];exact hsz)) ⟨ho,ho2,?_⟩
  rw[e]
  exact h2 hw
noncomputable def sIx(n d:Nat):Option Int->Nat
 |none=>d
 |some v=>if v<0 then(v+ (n:Int)).toNat else min v.toNat n
theorem sIx_none(n d:Nat):sIx n d none=d:=rfl
theorem sIx_nat(n d k:Nat):sIx n d (some (k:Int))=min k n:=by
 show(if(k:Int)<0 then((k:Int)+ (n:Int)).toNat else min (k:Int).toNat n)=min k n
 rw[if_neg (by omega),vb9]
theorem zwu(n d:Nat)(hd:d<=n)(o:Option Int):sIx n d o<=n:=by
 cases o with
 |none=>exact hd
 |some v=>
  show(if v<0 then(v+ (n:Int)).toNat else min v.toNat n)<=n
  by_cases hv:v<0
  .rw[if_pos hv];omega
  .rw[if_neg hv];exact Nat.min_le_right _ _
theorem zne(v:Int)(n d:Nat):(if v<0 then max (v+ (n:Int)) 0 else min v (n:Int))=((sIx n d (some v):Nat):Int):=by
 show(if v<0 then max (v+ (n:Int)) 0 else min v (n:Int))=(((if v<0 then(v+ (n:Int)).toNat else min v.toNat n):Nat):Int)
 by_cases hv:v<0
 .simp only[if_pos hv];omega
 .simp only[if_neg hv];omega
theorem zl5(lo hi:Option Int)(n:Nat):Builtin.Slice.sliceAdjust lo hi 1 (n:Int)=(((sIx n 0 lo:Nat):Int),((sIx n n hi:Nat):Int)):=by
 have h1:¬((1:Int)<0):=by omega
 unfold Builtin.Slice.sliceAdjust
 simp only[h1,vbl]
 refine Prod.ext ?_ ?_
 .cases lo with
  |none=>rfl
  |some v=>exact zne v n 0
 .cases hi with
  |none=>rfl
  |some v=>exact zne v n n
theorem zl6(i j:Nat):Builtin.Slice.slicePlaces (i:Int) (j:Int) 1=j-i:=by
 unfold Builtin.Slice.slicePlaces
 have h1:(1:Int)>0:=by omega
 simp only[h1,vbm,Int.ediv_one]
 split<;>omega
theorem zbt{o:Option Int}{Q:Option Int->Shared->Prop}(p:IsPart v o)(h:Q o s):wpAny (model prog w) A (Builtin.Slice.slicePartIndex v) Q E s:=by
 cases p with
 |none=>exact slicePart_none h
 |int i t=>exact slicePart_int h
theorem zb6{sl:Addr}{lo hi:Option Int}{n:Nat}{Q:Int×Int×Nat->Shared->Prop}(hs:s.heap.IsSliceOf sl vl vu .none)(pl:IsPart vl lo)(pu:IsPart vu hi)
 (h:Q (((sIx n 0 lo:Nat):Int),1,sIx n n hi-sIx n 0 lo) s):wpAny (model prog w) A (Builtin.Slice.sliceApplied (.ref sl) (pure (n:Int))) Q E s:=by
 obtain⟨os,hos,hcs,hds⟩:=id hs
 unfold Builtin.Slice.sliceApplied Builtin.Slice.sliceFields
 refine vaa (vaa (vbw hos hds (x:=vl) rfl (vaa (vbw hos hds (x:=vu) rfl (vaa (vbw hos hds (x:=.none) rfl (vag ?_)))))))
 refine vaa (slicePart_none ?_)
 show wpAny _ _ (if((1:Int)==0)=true then _ else _) _ _ s
 rw[if_neg (by decide)]
 refine vaa (zbt pl (vaa (zbt pu (vaa (vag ?_)))))
 show wpAny _ _ (match Builtin.Slice.sliceAdjust lo hi 1 (n:Int)with|(lo,hi)=>pure (lo,(1:Int),Builtin.Slice.slicePlaces lo hi 1)) _ _ s
 rw[zl5 lo hi n]
 show wpAny _ _ (pure (((sIx n 0 lo:Nat):Int),(1:Int),Builtin.Slice.slicePlaces ((sIx n 0 lo:Nat):Int) ((sIx n n hi:Nat):Int) 1)) _ _ s
 rw[zl6]
 exact vag h
theorem zqh(xs:Array Value)(i k:Nat):((List.range k).filterMap λ(m:Nat)=>xs[((i:Int)+ (m:Int)*1).toNat]?).toArray=((xs.toList.drop i).take k).toArray:=by
 have e:(λ(m:Nat)=>xs[((i:Int)+ (m:Int)*1).toNat]?)=λm=>xs[i+m]?:=by
  funext m
  have:((i:Int)+ (m:Int)*1).toNat=i+m:=by omega
  rw[this]
 rw[e]
 have:=pick_run xs i k
 rw[List.filterMap_map]at this
 have e2:((λx=>xs[x]?)∘λx=>i+x)=λm=>xs[i+m]?:=rfl
 rw[e2]at this
 rw[this]
theorem getItem_tuple_cut{t sl:Addr}{items:Array Value}{lo hi:Option Int}{Q:Value->Shared->Prop}(ht:IsTup s.heap t items)(hs:s.heap.IsSliceOf sl vl vu .none)(pl:IsPart vl lo)(pu:IsPart vu hi)
 (hw:¬(sIx items.size 0 lo=0/\sIx items.size items.size hi=items.size))
 (h:Q (.ref s.heap.objs.size) {s with heap:=s.heap.push {cls:=.type "tuple",data:=.seq ((items.toList.drop (sIx items.size 0 lo)).take (sIx items.size items.size hi-sIx items.size 0 lo)).toArray}})
 (hsz:items.size<=sizeLine):wpAny (model prog w) A (getItem (.ref t) (.ref sl)) Q E s:=by
 have htake:sizeOk (.seq ((items.toList.drop (sIx items.size 0 lo)).take (sIx items.size items.size hi-sIx items.size 0 lo)).toArray):=by
  show((items.toList.drop (sIx items.size 0 lo)).take (sIx items.size items.size hi-sIx items.size 0 lo)).toArray.size<=sizeLine
  rw[vao,vcz,vcp,vcv]
  omega
 have hj:sIx items.size items.size hi<=items.size:=zwu _ _ (vac _) hi
 obtain⟨os,hos,hcs,hds⟩:=id hs
 have hTs:s.TypeIs (.ref sl) "slice":=⟨os,hos,hcs⟩
 unfold getItem
 try with_reducible refine vc1 ?_
 first|refine vaa (vag ?_)|skip
 refine vaa (wpAny_sequenceKey ht.typeIs (by decide) ?_)
 refine vaa (vbr (name:=Str.ofString "__getitem__") ht.typeIs va7
  (vb6 va7 ht.typeIs entry_tuple_getitem ?_ (args_tuple_getitem _ _)))
 show wpAny _ _ (Builtin.Tuple.tupleItemsOf (.ref t) >>= _) _ _ s
 refine vaa (tupleItemsOf_ ht ?_)
 refine vaa (vet hTs ?_)
 rw[if_pos (by decide)]
 refine vaa (zb6 hs pl pu ?_)
 have hno:¬((((sIx items.size 0 lo:Nat):Int)==0&& (1:Int)==1&& (sIx items.size items.size hi-sIx items.size 0 lo)==items.size)=true):=by
  intro q
  rw[vab,vab]at q
  have q1:((sIx items.size 0 lo:Nat):Int)=0:=eq_of_beq q.1.1
  have q2:sIx items.size items.size hi-sIx items.size 0 lo=items.size:=eq_of_beq q.2
  exact hw ⟨by omega,by omega⟩
 show wpAny _ _ (if(((sIx items.size 0 lo:Nat):Int)==0&& (1:Int)==1&& (sIx items.size items.size hi-sIx items.size 0 lo)==items.size)=true then _ else _) _ _ s
 rw[if_neg hno,zqh]
 first
  |exact vaa (m:=Builtin.Tuple.tupleExact _) (vbu (vag ⟨_,rfl,vag h⟩) htake)
  |exact vaa (m:=Builtin.Tuple.tupleExact _) (vbu (vaa (vag (vag ⟨_,rfl,vag h⟩))) htake)
  |exact vaa (vaa (m:=Builtin.Tuple.tupleExact _) (vbu (vag (vag ⟨_,rfl,vag h⟩)) htake))
  |exact vaa (vaa (m:=Builtin.Tuple.tupleExact _) (vbu (vag ⟨_,rfl,vag h⟩) htake))
end
end HT
namespace L2
open PySem PySem.Spec PyProof.Rows
noncomputable abbrev TO:=St->Hp->(Option Int->Hp->Prop)->Prop
noncomputable def PO(X:Cx)(e:Option Expr)(t:TO):Prop:=
 ∀(pins:List (Addr×Obj))(s:Shared)(σ:St)(H:Hp)(Q:Option Int->Hp->Prop),Inv X pins σ H s->t σ H Q->
  wpAny (model X.prog X.w) X.A (evalPart e X.env) (λu s'=>∃o H',Inv X pins σ H' s'/\IsPart u o/\Q o H') X.xe s
noncomputable def ztw:TO:=λ_ H Q=>Q none H
noncomputable def tPart(t:TE):TO:=λσ H Q=>t σ H λx H1=>∃i,x=.int i/\Q (some i) H1
section
variable{X:Cx}{e:Expr}{te:TE}{lo hi:Option Expr}{tl th:TO}{pos p2:Pos}
theorem ztx:PO X none ztw:=by
 intro pins s σ H Q I h
 rw[evalPart_none]
 exact vag ⟨none,H,I,.none,h⟩
theorem zty(h:PE X e te):PO X (some e) (tPart te):=by
 intro pins s σ H Q I hw
 rw[evalPart_some]
 refine thn (h pins s σ H _ I hw) λu s1 z9=>z9.el λx H1 I1 r1 q1=>?_
 obtain⟨i,rfl,q⟩:=q1
 obtain⟨t,rfl⟩:=r1
 exact⟨some i,H1,I1,.int i t,q⟩
noncomputable def SlR(X:Cx)(r:V->Option Int->Option Int->Hp->VK->Prop):Prop:=
 ∀(pins:List (Addr×Obj))(s:Shared)(σ:St)(H:Hp)(x:V)(v vl vu:Value)(lo hi:Option Int)(sl:Addr)(Q:VK),Inv X pins σ H s->RelV x v->s.heap.IsSliceOf sl vl vu .none->IsPart vl lo->IsPart vu hi->r x lo hi H Q->
  ∃T id,typeLookup (.type T) "__getitem__" = pure (some (.builtin id))/\s.TypeIs v T/\wpAny (model X.prog X.w) X.A (getItem v (.ref sl)) (EP X pins σ Q) X.xe s
theorem SlR.or{r r':V->Option Int->Option Int->Hp->VK->Prop}(h:SlR X r)(h':SlR X r'):SlR X (λx lo hi H Q=>r x lo hi H Q\/r' x lo hi H Q):=by
 intro pins s σ H x v vl vu lo hi sl Q I rx hs pl pu q
 rcases q with q|q
 .exact h pins s σ H x v vl vu lo hi sl Q I rx hs pl pu q
 .exact h' pins s σ H x v vl vu lo hi sl Q I rx hs pl pu q
noncomputable def tSl(r:V->Option Int->Option Int->Hp->VK->Prop)(te:TE)(tl th:TO):TE:=λσ H Q=>te σ H λx H1=>tl σ H1 λl H2=>th σ H2 λu H3=>r x l u H3 Q
theorem zqi{r:V->Option Int->Option Int->Hp->VK->Prop}(hr:SlR X r)(he:PE X e te)(hl:PO X lo tl)(hu:PO X hi th):PE X (.Subscript e (.Slice lo hi none p2) pos) (tSl r te tl th):=by
 intro pins s σ H Q I h
 refine Subscript_ (thn (he pins s σ H _ I h) λv s1 z9=>z9.el λx H1 I1 r1 q1=>?_)
 refine wpAny_Slice (thn (hl pins s1 σ H1 _ I1 q1) λvl s2 ⟨l,H2,I2,pl,q2⟩=>thn (hu pins s2 σ H2 _ I2 q2) λvu s3 hq0=>?_)
 obtain⟨u,H3,I3,pu,q3⟩:=hq0
 rw[evalPart_none]
 refine vag ?_
 have I4:Inv X pins σ H3 {s3 with heap:=s3.heap.push {cls:=.type "slice",data:=.fields #[vl,vu,.none]}}:=I3.kept (t':=s3.toks) λb ob q=>vae _ q
 obtain⟨T,id,hT,ht,hg⟩:=hr pins {s3 with heap:=s3.heap.push {cls:=.type "slice",data:=.fields #[vl,vu,.none]}} σ H3 x v vl vu l u s3.heap.objs.size Q I4 r1 (Heap.IsSliceOf.new ..) pl pu q3
 show wpAny (model X.prog X.w) X.A (subscriptTail e (.Slice lo hi none p2) v (.ref s3.heap.objs.size)) (EP X pins σ Q) X.xe {s3 with heap:=s3.heap.push {cls:=.type "slice",data:=.fields #[vl,vu,.none]}}
 exact tail_any (ops:=[.ref s3.heap.objs.size,v]) ht hT hg (by with_unfolding_all rfl)
noncomputable def cutV(xs:List V)(lo hi:Option Int):List V:=(xs.drop (HT.sIx xs.length 0 lo)).take (HT.sIx xs.length xs.length hi-HT.sIx xs.length 0 lo)
theorem zez(xs:List V)(lo hi:Option Int):(cutV xs lo hi).length<=xs.length:=by
 unfold cutV
 rw[vcz,vcp]
 omega
noncomputable def rSlT(K:PySem.W.Frag):V->Option Int->Option Int->Hp->VK->Prop:=λx lo hi H Q=>∃a xs,x=.ref a/\SqT K H a xs/\
 ¬(HT.sIx xs.length 0 lo=0/\HT.sIx xs.length xs.length hi=xs.length)/\∀p,H p=none->Q (.ref p) (upd H p (.tup (cutV xs lo hi)))
theorem zwv:SlR X (rSlT X.K):=by
 intro pins s σ H x v vl vu lo hi sl Q I rx hs pl pu h
 obtain⟨a,xs,rfl,hx,hw,q⟩:=h
 cases rx
 obtain⟨its,r,ht,hz⟩:=I.tuple hx
 have hlen:its.toArray.size=xs.length:=by rw[vao];exact r.length.symm
 refine⟨"tuple",_,va7.lookup,ht.typeIs,?_⟩
 refine HT.getItem_tuple_cut ht hs pl pu (by rw[hlen];exact hw) ?_ (by rw[hlen];exact hz)
 rw[hlen]
 refine⟨.ref s.heap.objs.size,_,I.laid (t':=s.toks) (o:=.tup (cutV xs lo hi)) (λb ob q=>vae _ q) (vac _) ?_,rfl,q _ (I.hok.fresh (vac _))⟩
 exact⟨vbe (zez xs lo hi) hz,_,(r.drop (HT.sIx xs.length 0 lo)).take (HT.sIx xs.length xs.length hi-HT.sIx xs.length 0 lo),zbj.new _ _⟩
noncomputable def rCatT(K:PySem.W.Frag):R2:=λx y H Q=>∃a b xs ys,x=.ref a/\y=.ref b/\SqT K H a xs/\SqT K H b ys/\xs≠[]/\xs.length+ys.length<=sizeLine/\
 (ys=[]->Q (.ref a) H)/\(ys≠[]->∀p,H p=none->Q (.ref p) (upd H p (.tup (xs++ys))))
theorem Vals.nil_iff(r:Vals xs us):us=[]↔xs=[]:=by
 cases r with
 |nil=>simp
 |cons _ _=>simp
theorem ztz:OpR X (binaryOp .Add) (rCatT X.K):=by
 intro pins s σ H x y v u Q I rx ry h
 obtain⟨a,b,xs,ys,rfl,rfl,ha,hb,hx,hz,q1,q2⟩:=h
 cases rx
 cases ry
 obtain⟨its,r1,p1,_⟩:=I.tuple ha
 obtain⟨its2,r2,p2,_⟩:=I.tuple hb
 refine HT.cat_tup p1 p2 (λz=>hx (r1.nil_iff.mp z)) (λz=>⟨.ref a,H,I,rfl,q1 (r2.nil_iff.mp z)⟩) (λz=>?_) (by rw[<-r1.length,<-r2.length];exact hz)
 refine⟨.ref s.heap.objs.size,_,I.laid (t':=s.toks) (o:=.tup (xs++ys)) (λb ob q=>vae _ q) (vac _) ?_,rfl,q2 (λw=>z (r2.nil_iff.mpr w)) _ (I.hok.fresh (vac _))⟩
 exact⟨by rw[vaf];exact hz,_,r1.append r2,zbj.new _ _⟩
end
noncomputable def ixN(n:Nat)(i:Int):Option Nat:=if 0<=i then(if i<n then some i.toNat else none)else if -(n:Int)<=i then some (i+n).toNat else none
noncomputable def atI{α:Type}(xs:List α)(i:Int):Option α:=(ixN xs.length i).bind λj=>xs[j]?
theorem znf{n:Nat}{i:Int}{j:Nat}(h:ixN n i=some j):seqIndex? i n=some j/\j<n/\-(n:Int)<=i/\i<n:=by
 unfold ixN at h
 by_cases h0:0<=i
 .rw[if_pos h0]at h
  by_cases h1:i<n
  .rw[if_pos h1]at h
   have e:i.toNat=j:=vbn h
   exact⟨by rw[seqIndex_of h0 h1,e],by omega,by omega,h1⟩
  .rw[if_neg h1]at h;cases h
 .rw[if_neg h0]at h
  by_cases h1:-(n:Int)<=i
  .rw[if_pos h1]at h
   have e:(i+n).toNat=j:=vbn h
   exact⟨by rw[seqIndex_neg (by omega) h1,e],by omega,h1,by omega⟩
  .rw[if_neg h1]at h;cases h
theorem zng{α:Type}{xs:List α}{i:Int}{v:α}(h:atI xs i=some v):∃j,seqIndex? i xs.length=some j/\xs[j]?=some v/\j<xs.length/\-(xs.length:Int)<=i/\i<xs.length:=by
 unfold atI at h
 cases e:ixN xs.length i with
 |none=>rw[e]at h;cases h
 |some j=>
  rw[e]at h
  obtain⟨h1,h2,h3,h4⟩:=znf e
  exact⟨j,h1,h,h2,h3,h4⟩
theorem zbg{α:Type}{xs:List α}{j:Nat}{v:α}(h:xs[j]?=some v):atI xs (j:Int)=some v:=by
 have hj:j<xs.length:=(va3.mp h).1
 have e:ixN xs.length (j:Int)=some j:=by
  unfold ixN
  rw[if_pos (by omega),if_pos (by omega)];simp
 unfold atI;rw[e];exact h
theorem zqj{α:Type}(xs:List α)(v:α):atI (xs++[v]) (-1)=some v:=by
 have hl:(xs++[v]).length=xs.length+1:=by simp
 have e:ixN (xs++[v]).length (-1)=some xs.length:=by
  unfold ixN
  rw[hl,if_neg (by decide),if_pos (by omega)]
  congr 1
  omega
 unfold atI
 rw[e]
 show(xs++[v])[xs.length]?=some v
 simp
noncomputable def zjs(b:Expr):Prop:=∀o i,subscripted b false o i=operate [o,i] (getItem o i)
noncomputable def IxR(X:Cx)(r:R2):Prop:=
 ∀(value slice:Expr)(pins:List (Addr×Obj))(s:Shared)(σ:St)(H:Hp)(x y:V)(v u:Value)(Q:VK),Inv X pins σ H s->RelV x v->RelV y u->r x y H Q->
  subscripted slice false v u=operate [v,u] (getItem v u)->wpAny (model X.prog X.w) X.A (subscriptTail value slice v u) (EP X pins σ Q) X.xe s
noncomputable def MtR(X:Cx)(id:String)(r:V->List V->Hp->VK->Prop):Prop:=
 ∀(pins:List (Addr×Obj))(s:Shared)(σ:St)(H:Hp)(x:V)(xs:List V)(v:Value)(us:List Value)(Q:VK),Inv X pins σ H s->RelV x v->Vals xs us->r x xs H Q->
  wpAny (model X.prog X.w) X.A (call (.builtin id) (v::us)) (EP X pins σ Q) X.xe s
section
variable{X:Cx}{a b:Expr}{ta tb:TE}{pos:Pos}
theorem IxR.or{r r':R2}(h:IxR X r)(h':IxR X r'):IxR X (λx y H Q=>r x y H Q\/r' x y H Q):=by
 intro value slice pins s σ H x y v u Q I rx ry q hs
 rcases q with q|q
 .exact h value slice pins s σ H x y v u Q I rx ry q hs
 .exact h' value slice pins s σ H x y v u Q I rx ry q hs
theorem pe_ix{r:R2}(hr:IxR X r)(ha:PE X a ta)(hb:PE X b tb)(hs:zjs b):PE X (.Subscript a b pos) (tOp r ta tb):=by
 intro pins s σ H Q I h
 exact Subscript_ (binT ha hb I h λv u s2 x y H2 I2 rx ry q=>hr a b pins s2 σ H2 x y v u Q I2 rx ry q (hs _ _))
noncomputable def rIxL(K:PySem.W.Frag):R2:=λx y H Q=>∃p xs i v,x=.ref p/\y=.int i/\SqL K H p xs/\atI xs i=some v/\Q v H
noncomputable def rIxT(K:PySem.W.Frag):R2:=λx y H Q=>∃p xs i v,x=.ref p/\y=.int i/\SqT K H p xs/\atI xs i=some v/\Q v H
theorem zt0:IxR X (rIxL X.K):=by
 intro value slice pins s σ H x y v u Q I rx ry h hs
 obtain⟨p,xs,i,z,rfl,rfl,hq,he,q⟩:=h
 cases rx
 obtain⟨t,rfl⟩:=ry
 obtain⟨its,r,pl,hz⟩:=I.list hq
 obtain⟨j,h1,h2,h3,h4,h5⟩:=zng he
 obtain⟨w,ew,rw'⟩:=r.get h2
 have hl:=r.length
 have hn:=zh6
 have fin:EP X pins σ Q w s:=⟨z,H,I,rw',q⟩
 by_cases h0:0<=i
 .have hj:i.toNat=j:=by
   rw[seqIndex_of h0 h5]at h1
   exact vbn h1
  exact item_listR pl.isList h0 (by omega) (by rw[hj];simpa using ew) fin hs
 .have hj:(i+ (its.toArray.size:Int)).toNat=j:=by
   rw[seqIndex_neg (by omega) h4]at h1
   rw[vao,<-hl]
   exact vbn h1
  exact subscriptTail_builtinR (x:=w) pl.isList.typeIs slot_list_getitem.lookup
   (wpAny_getItem_list_neg (Q:=λr s'=>r=w/\EP X pins σ Q r s') pl.isList (by omega) (by rw[vao]<;>omega) (by omega) (by rw[hj];simpa using ew) ⟨rfl,fin⟩) hs
theorem zww:IxR X (rIxT X.K):=by
 intro value slice pins s σ H x y v u Q I rx ry h hs
 obtain⟨p,xs,i,z,rfl,rfl,hq,he,q⟩:=h
 cases rx
 obtain⟨t,rfl⟩:=ry
 obtain⟨its,r,pl,hz⟩:=I.tuple hq
 obtain⟨j,h1,h2,h3,h4,h5⟩:=zng he
 obtain⟨w,ew,rw'⟩:=r.get h2
 have hl:=r.length
 have hn:=zh6
 have fin:EP X pins σ Q w s:=⟨z,H,I,rw',q⟩
 exact subscriptTail_builtinR (x:=w) pl.typeIs slot_tuple_getitem.lookup
  (getItem_tuple (j:=j) (Q:=λr s'=>r=w/\EP X pins σ Q r s') pl (by omega) (by omega) (by rw[vao,<-hl];exact h1) (by simpa using ew) ⟨rfl,fin⟩) hs
theorem zl7(its:List Value)(n j:Nat)(u:Value):Obj.mapSeq (·.setIfInBounds j u) {cls:=.type "list",data:=.seq its.toArray n} ={cls:=.type "list",data:=.seq (its.set j u).toArray n}:=by
 simp[Obj.mapSeq]
theorem Inv.lst{σ:St}{p:Addr}(I:Inv X pins σ H s)(h:H p=some (.lst xs)) :
 ∃(its:List Value) (n:Nat),Vals xs its/\s.heap.get? p=some {cls:=.type "list",data:=.seq its.toArray n}/\xs.length<=sizeLine:=by
 obtain⟨z,its,n,r,e⟩:=I.hok p _ h
 exact⟨its,n,r,e,z⟩
theorem Inv.lstUpd{σ:St}{p:Addr}{xs ys:List V}{its its':List Value}{n n':Nat}{f:Obj->Obj}(I:Inv X pins σ H s)(h:H p=some (.lst xs))
 (ho:s.heap.get? p=some {cls:=.type "list",data:=.seq its.toArray n}) (hf:f {cls:=.type "list",data:=.seq its.toArray n} ={cls:=.type "list",data:=.seq its'.toArray n'}) (r:Vals ys its') (hz:ys.length<=sizeLine) (t:Nat) :
 Inv X pins σ (upd H p (.lst ys)) {s with heap:=s.heap.update p f,toks:=t}:=by
 have e:(s.heap.update p f).get? p=some {cls:=.type "list",data:=.seq its'.toArray n'}:=by
  rw[Heap.get?_update_self f ho (by rw[hf]<;>rfl),hf]
 refine I.write (x:=p) (e:=p) (by rw[h];trivial) (.inl rfl) (λb u hb q=>(Heap.get?_update_other _ _ (vca hb)).trans q) ⟨_,e⟩ ?_
 exact⟨hz,its',n',r,e⟩
noncomputable def rSetL:V->V->V->Hp->(Hp->Prop)->Prop:=λo i v H Q=>∃p xs k j,o=.ref p/\i=.int k/\H p=some (.lst xs)/\ixN xs.length k=some j/\Q (upd H p (.lst (xs.set j v)))
theorem zgy:PSet X rSetL:=by
 intro pins s σ H o i v ov iv u Q I ro ri rv h
 obtain⟨p,xs,k,j,rfl,rfl,hp,hj,q⟩:=h
 cases ro
 obtain⟨t,rfl⟩:=ri
 obtain⟨its,n,r,ho,hz⟩:=I.lst hp
 obtain⟨h1,h2,h3,h4⟩:=znf hj
 have hl:=r.length
 have hn:=zh6
 have I':Inv X pins σ (upd H p (.lst (xs.set j v))) {s with heap:=s.heap.update p (Obj.mapSeq (·.setIfInBounds j u))}:=
  I.lstUpd hp ho (zl7 its n j u) (r.set rv j) (by rw[vcx];exact hz) s.toks
 by_cases h0:0<=k
 .have hk:k.toNat=j:=by
   rw[seqIndex_of h0 h4]at h1
   exact vbn h1
  exact PySem.W.ki_setAt ho h0 (by omega) (by rw[vao,<-hl];exact h4) (by rw[hk];exact⟨_,I',q⟩)
 .have hk:(k+ (its.toArray.size:Int)).toNat=j:=by
   rw[seqIndex_neg (by omega) h3]at h1
   rw[vao,<-hl]
   exact vbn h1
  exact PySem.W.ki_setBack ho (by omega) (by rw[vao,<-hl];exact h3) (by omega) (by rw[hk];exact⟨_,I',q⟩)
theorem zib(lo hi:Option Int)(n:Nat):(sliceBounds lo hi none n).1=((HT.sIx n 0 lo:Nat):Int)/\(sliceBounds lo hi none n).2.1=((HT.sIx n n hi:Nat):Int)/\(sliceBounds lo hi none n).2.2=1:=by
 refine⟨?_,?_,rfl⟩
 .cases lo with
  |none=>simp[sliceBounds,HT.sIx]
  |some i=>
   simp only[sliceBounds,HT.sIx,Option.getD_none,show(1:Int)>0 by decide,vbm]
   by_cases h:i<0
   .simp only[h,vbm]<;>omega
   .simp only[h,vbl]<;>omega
 .cases hi with
  |none=>simp[sliceBounds,HT.sIx]
  |some i=>
   simp only[sliceBounds,HT.sIx,Option.getD_none,show(1:Int)>0 by decide,vbm]
   by_cases h:i<0
   .simp only[h,vbm]<;>omega
   .simp only[h,vbl]<;>omega
theorem zgz(its:List Value)(lo hi:Option Int):slicePick its.toArray lo hi none=((its.drop (HT.sIx its.length 0 lo)).take (HT.sIx its.length its.length hi-HT.sIx its.length 0 lo)).toArray:=by
 obtain⟨h1,h2,h3⟩:=zib lo hi its.toArray.size
 unfold slicePick
 rw[h1,h2,h3]
 simp only[sliceRange_one,pick_run,vao]<;>rfl
noncomputable def rSlL(K:PySem.W.Frag):V->Option Int->Option Int->Hp->VK->Prop:=λx lo hi H Q=>∃a xs,x=.ref a/\SqL K H a xs/\∀p,H p=none->Q (.ref p) (upd H p (.lst (cutV xs lo hi)))
theorem zt1:SlR X (rSlL X.K):=by
 intro pins s σ H x v vl vu lo hi sl Q I rx hs pl pu h
 obtain⟨a,xs,rfl,hx,q⟩:=h
 cases rx
 obtain⟨its,r,ht,hz⟩:=I.list hx
 have hlen:=r.length
 refine⟨"list",_,slot_list_getitem.lookup,ht.isList.typeIs,?_⟩
 refine wpAny_getItem_list_slice ht.isList hs pl pu .none (by simp) ?_ (by rw[vao]<;>omega)
 rw[zgz,<-hlen]
 refine⟨.ref s.heap.objs.size,_,I.laid (t':=s.toks) (o:=.lst (cutV xs lo hi)) (λb ob q=>vae _ q) (vac _) ?_,rfl,q _ (I.hok.fresh (vac _))⟩
 exact⟨vbe (zez xs lo hi) hz,_,0,(r.drop (HT.sIx xs.length 0 lo)).take (HT.sIx xs.length xs.length hi-HT.sIx xs.length 0 lo),va2 _ rfl⟩
theorem zic:CallR X (.builtin "len") (λxs H Q=>∃p ys,xs=[.ref p]/\(SqL X.K H p ys\/SqT X.K H p ys)/\Q (.int ys.length) H):=by
 intro pins s σ H xs us Q I r h
 obtain⟨p,ys,rfl,hq,q⟩:=h
 obtain⟨u,rfl,rx⟩:=vals1 r
 cases rx
 have hn:=zh6
 rcases hq with hq|hq
 .obtain⟨its,r',pl,hz⟩:=I.list hq
  have hlen:=r'.length
  exact Calls.call_len_list pl.isList (by simp only[vao]<;>omega) ⟨.int ys.length,H,I.tok _,⟨s.toks+1,by rw[vao,hlen]⟩,q⟩
 .obtain⟨its,r',pl,hz⟩:=I.tuple hq
  have hlen:=r'.length
  exact len_tuple pl (by simp only[vao]<;>omega) ⟨.int ys.length,H,I.tok _,⟨s.toks+1,by rw[vao,hlen]⟩,q⟩
theorem CallR.or{r r':List V->Hp->VK->Prop}(h:CallR X f r)(h':CallR X f r'):CallR X f (λxs H Q=>r xs H Q\/r' xs H Q):=by
 intro pins s σ H xs us Q I rs q
 rcases q with q|q
 .exact h pins s σ H xs us Q I rs q
 .exact h' pins s σ H xs us Q I rs q
theorem zid:CallR X (.type "list") (λxs H Q=>∃p ys,xs=[.ref p]/\(SqL X.K H p ys\/SqT X.K H p ys)/\∀l,H l=none->Q (.ref l) (upd H l (.lst ys))):=by
 intro pins s σ H xs us Q I r h
 obtain⟨p,ys,rfl,hq,q⟩:=h
 obtain⟨u,rfl,rx⟩:=vals1 r
 cases rx
 have fin:∀(its:List Value),Vals ys its->ys.length<=sizeLine->∀(h':Heap)(c':Nat),(∀b o',s.heap.get? b=some o'->h'.get? b=some o')->
  h'.get? s.heap.objs.size=some {cls:=.type "list",dict:=none,data:=.seq its.toArray c',slots:=#[]}->EP X pins σ Q (.ref s.heap.objs.size) {s with heap:=h'}:=λits r' hz h' c' kp e=>
  ⟨.ref s.heap.objs.size,_,I.laid (t':=s.toks) kp (vac _) (show ObjOk X.prog X.w _ h' _ (.lst ys)from⟨hz,its,c',r',e⟩),rfl,q _ (I.hok.fresh (vac _))⟩
 rcases hq with hq|hq
 .obtain⟨its,r',pl,hz⟩:=I.list hq
  have hlen:=r'.length
  obtain⟨o,ho,hc,n,hd⟩:=pl.isList
  exact call_list_seq p (.inl rfl) ho hc hd (λh' c' kp e=>fin its r' hz h' c' kp e) (by simp only[vao]<;>omega)
 .obtain⟨its,r',pl,hz⟩:=I.tuple hq
  have hlen:=r'.length
  obtain⟨o,ho,hc,n,hd⟩:=pl
  exact call_list_seq p (.inr rfl) ho hc hd (λh' c' kp e=>fin its r' hz h' c' kp e) (by simp only[vao]<;>omega)
theorem zg0:CallR X (.type "tuple") (λxs H Q=>∃p ys,xs=[.ref p]/\((SqL X.K H p ys/\∀l,H l=none->Q (.ref l) (upd H l (.tup ys)))\/(SqT X.K H p ys/\Q (.ref p) H))):=by
 intro pins s σ H xs us Q I r h
 obtain⟨p,ys,rfl,h⟩:=h
 obtain⟨u,rfl,rx⟩:=vals1 r
 cases rx
 rcases h with⟨hq,q⟩|⟨hq,q⟩
 .obtain⟨its,r',pl,hz⟩:=I.list hq
  have hlen:=r'.length
  refine call_tuple_list pl.isList (λh' kp=>?_) (by simp only[vao]<;>omega)
  have I1:Inv X pins σ H {s with heap:=h'}:=I.kept (t':=s.toks) kp
  have I2:Inv X pins σ (upd H h'.objs.size (.tup ys)) {s with heap:=h'.push {cls:=.type "tuple",data:=.seq its.toArray}}:=
   I1.laid (t':=s.toks) (λb o e=>vae _ e) (vac _) (show ObjOk X.prog X.w _ _ _ (.tup ys)from⟨hz,its,r',zbj.new _ _⟩)
  exact⟨.ref h'.objs.size,_,I2,rfl,q _ (I1.hok.fresh (vac _))⟩
 .obtain⟨its,r',pl,hz⟩:=I.tuple hq
  exact call_tuple_same pl ⟨.ref p,H,I,rfl,q⟩
noncomputable def tyV(K:PySem.W.Frag)(T:String)(x:V)(H:Hp):Prop:=match x with
 |.str _=>T = "str"
 |.int _=>T = "int"
 |.ref p=>(T = "list"/\∃xs,SqL K H p xs)\/(T = "tuple"/\∃xs,SqT K H p xs)\/
  (T = "dict"/\((∃kvs,H p=some (.dK kvs))\/∃kvs,H p=some (.dT kvs)))\/(T = "set"/\∃S n,H p=some (.set S n))
 |_=>False
theorem zwx{σ:St}{T:String}(I:Inv X pins σ H s)(r:RelV x v)(ty:tyV X.K T x H) :
 s.TypeIs v T/\∀a,v=.ref a->∃ob,s.heap.get? a=some ob/\ob.dict=none:=by
 cases x with
 |str z=>
  obtain⟨t,rfl⟩:=r
  cases(show T = "str"from ty)
  exact⟨typeIs_str s z t,λ_ e=>nomatch e⟩
 |int i=>
  obtain⟨t,rfl⟩:=r
  cases(show T = "int"from ty)
  exact⟨typeIs_int s i t,λ_ e=>nomatch e⟩
 |ref p=>
  cases r
  rcases ty with⟨rfl,xs,hq⟩|⟨rfl,xs,hq⟩|⟨rfl,hk⟩|⟨rfl,S,n,hk⟩
  .obtain⟨its,_,pl,_⟩:=I.list hq
   refine⟨pl.isList.typeIs,λa e=>?_⟩
   cases e
   obtain⟨o,n,e,c,hd,_⟩:=pl
   exact⟨o,e,hd⟩
  .obtain⟨its,_,⟨o,h1,h2,_,h3⟩,_⟩:=I.tupleD hq
   refine⟨⟨o,h1,h2⟩,λa e=>?_⟩
   cases e
   exact⟨o,h1,h3⟩
  .have z:∃o,s.heap.get? p=some o/\o.ExactDict:=by
    rcases hk with⟨kvs,hk⟩|⟨kvs,hk⟩
    .obtain⟨_,_,_,_,o,_,_,e,ex,_⟩:=I.hok p _ hk
     exact⟨o,e,ex⟩
    .obtain⟨_,_,_,_,o,_,_,e,ex,_⟩:=I.hok p _ hk
     exact⟨o,e,ex⟩
   obtain⟨o,e,ex⟩:=z
   refine⟨⟨o,e,ex.1⟩,λa e2=>?_⟩
   cases e2
   exact⟨o,e,ex.2.1⟩
  .obtain⟨o,_,_,_,e,ex,_⟩:=I.hok p _ hk
   refine⟨⟨o,e,ex.1⟩,λa e2=>?_⟩
   cases e2
   exact⟨o,e,ex.2.1⟩
 |_=>exact False.elim ty
noncomputable def tBM(K:PySem.W.Frag)(T:String)(r:V->List V->Hp->VK->Prop)(to:TE)(t:TA):TE:=λσ H Q=>to σ H λx H1=>tyV K T x H1/\t σ H1 λxs H2=>r x xs H2 Q
variable{o e:Expr}{es:List Expr}{to:TE}{t:TA}{name:Str}{apos cpos:Pos}{T id:String}{r:V->List V->Hp->VK->Prop}
theorem pe_bm(pa:PlainAttrs T)(slot:Slot T name id)(hty:typeOf (.builtin id)=pure (.type "method_descriptor"))(hm:MtR X id r)(ho:PE X o to)(ha:PA X (e::es) t)
 (hbase:attributeBase o name X.env (eval o X.env)=eval o X.env:=by rfl)
 (hfew:((backTo cpos (starEach (e::es) X.env)).all (λx=>!x.1)&& (backToKw cpos (keywordEach [] X.env)).all (λx=>x.1.isSome)
   && decide ((e::es).length+ ([]:List Keyword).length+ (if([]:List Keyword).isEmpty then 0 else 1)<30))=true:=by rfl)
 (hline:(apos.endLine==cpos.line)=true:=by rfl) (hs:starEach (e::es) X.env=(false,eval e X.env)::starEach es X.env:=by rfl) (hplain:(backTo cpos (starEach es X.env)).any (·.1)=false:=by rfl) :
 PE X (.Call (.Attribute o name apos) (e::es) [] cpos) (tBM X.K T r to t):=by
 intro pins s σ H Q I h
 refine wpAny_Call_method_late hbase hfew hline rfl (thn (ho pins s σ H _ I h) λv s1 z9=>z9.el λx H1 I1 r1 hq0=>?_)
 obtain⟨ty,q1⟩:=hq0
 obtain⟨h1,h2⟩:=zwx I1 r1 ty
 refine⟨T,id,pa,slot,hty,h1,h2,?_⟩
 have hA:=ha cpos pins s1 σ H1 _ I1 q1
 rw[hs]at hA ⊢
 refine Calls.callWith_builtin (by show(false|| (backTo cpos (starEach es X.env)).any (·.1))=false;rw[hplain]<;>rfl) (Calls.evalArgs_plain ?_)
 exact thn hA λus s2 z9=>z9.el λvs H2 I2 r2 q2=>hm pins s2 σ H2 x vs v us Q I2 r1 r2 q2
/- xs.append(e),list.index on a module's tuple .. are MtR facts of 06m -/
end
noncomputable def MtM(X:Cx)(id:String)(r:V->List V->Hp->VK->Prop):Prop:=
 ∀(pins:List (Addr×Obj))(s:Shared)(σ:St)(H:Hp)(x:V)(xs:List V)(v:Value)(us:List Value)(Q:VK),Inv X pins σ H s->RelV x v->Vals xs us->r x xs H Q->
  wpAny (model X.prog X.w) X.A (call (.builtin id) (v::us)) (EP X pins σ Q) X.xe s
theorem Vals.one:∀{x:V} {us:List Value},Vals [x] us->∃u,us=[u]/\RelV x u
 |_,_,.cons r .nil=>⟨_,rfl,r⟩
theorem Vals.reverse(h:Vals xs us):Vals xs.reverse us.reverse:=by
 induction h with
 |nil=>exact .nil
 |cons r t ih=>rw[vdq,vdq];exact Vals.append ih (.cons r .nil)
theorem Vals.rep(h:Vals xs us):∀k:Nat,Vals (List.replicate k xs).flatten (List.replicate k us).flatten
 |0=>.nil
 |k+1=>by
  rw[vbs,vbs,vcg,vcg]
  exact Vals.append h (Vals.rep h k)
theorem zie(its:List Value):∀(k:Nat) (acc:List Value),
 List.foldl (λx1 x2=>x1++x2) acc.toArray (List.replicate k its.toArray)=(acc++(List.replicate k its).flatten).toArray
 |0,acc=>by simp
 |k+1,acc=>by
  have e:acc.toArray++its.toArray=(acc++its).toArray:=by simp
  have e2:(acc++its)++(List.replicate k its).flatten=acc++(List.replicate (k+1) its).flatten:=by
   rw[vbs,vcg,vda]
  rw[<-e2,<-zie its k (acc++its),<-e,vbs,List.foldl_cons]
section
variable{X:Cx}{pins:List (Addr×Obj)}{σ:St}{H:Hp}{s:Shared}{l b:Addr}{xs ys zs:List V}
theorem Inv.lset{its its':List Value}{n:Nat}{f:Array Value->Array Value}{t':Nat}(I:Inv X pins σ H s)(hH:H l=some (.lst xs))
 (e:s.heap.get? l=some {cls:=.type "list",data:=.seq its.toArray n}) (hf:f its.toArray=its'.toArray) (hv:Vals ys its') (hz:ys.length<=sizeLine) :
 Inv X pins σ (upd H l (.lst ys)) {s with heap:=s.heap.update l (Obj.mapSeq f),toks:=t'}:=by
 have q:=PySem.IsL.update e f
 rw[hf]at q
 refine I.write (x:=l) (e:=l) (by rw[hH];exact trivial) (.inl rfl) (λb' u hb hu=>(Heap.get?_update_other s.heap (Obj.mapSeq f) (vca hb)).trans hu) ⟨_,q⟩ ?_
 exact⟨hz,its',_,hv,q⟩
theorem Inv.lnew{t':Nat}(I:Inv X pins σ H s)(hv:Vals ys its)(hz:ys.length<=sizeLine) :
 Inv X pins σ (upd H s.heap.objs.size (.lst ys)) {s with heap:=s.heap.push {cls:=.type "list",data:=.seq its.toArray},toks:=t'}:=
 I.laid (λ_ _ q=>vae _ q) (vac _) ⟨hz,its,0,hv,va2 _ rfl⟩
theorem Inv.fresh(I:Inv X pins σ H s):H s.heap.objs.size=none:=I.hok.fresh (vac _)
theorem Inv.lstM(I:Inv X pins σ H s)(hH:H l=some (.lst xs)):xs.length<=sizeLine/\∃(its:List Value) (n:Nat),Vals xs its/\xs.length=its.length/\s.heap.get? l=some {cls:=.type "list",data:=.seq its.toArray n}:=by
 obtain⟨z,its,n,r,e⟩:=I.hok l _ hH
 exact⟨z,its,n,r,r.length,e⟩
theorem zqk{n:Nat}(h:n<=sizeLine):Builtin.List.listTooLong n=false:=by
 unfold Builtin.List.listTooLong
 exact vaz (by omega)
end
section
variable{X:Cx}
noncomputable def zt2:V->List V->Hp->VK->Prop:=λx vs H Q=>∃l xs y,x=.ref l/\vs=[y]/\H l=some (.lst xs)/\xs.length<sizeLine/\Q .non (upd H l (.lst (xs++[y])))
theorem zif:MtM X "list.append" zt2:=by
 intro pins s σ H x vs v us Q I rx rv h
 obtain⟨l,xs,y,rfl,rfl,hH,hz,q⟩:=h
 cases rx
 obtain⟨u,rfl,ru⟩:=rv.one
 obtain⟨z,its,n,r,hl,e⟩:=I.lstM hH
 refine ven F.slot_list_append ⟨_,e,rfl⟩ F.entry_list_append (F.args_list_append_2 _ _) (PySem.list_append l its.toArray n u (by rw[vao];omega)) ⟨e,?_⟩
 refine⟨.non,_,I.lset (its':=its++[u]) hH e (by simp) (r.append (.cons ru .nil)) ?_,rfl,q⟩
 rw[vaf,va1]
 omega
noncomputable def zt3:V->List V->Hp->VK->Prop:=λx vs H Q=>∃l b xs zs,x=.ref l/\vs=[.ref b]/\H l=some (.lst xs)/\H b=some (.lst zs)/\xs.length+zs.length<=sizeLine/\Q .non (upd H l (.lst (xs++zs)))
theorem zwy:MtM X "list.extend" zt3:=by
 intro pins s σ H x vs v us Q I rx rv h
 obtain⟨l,b,xs,zs,rfl,rfl,hH,hB,hz,q⟩:=h
 cases rx
 obtain⟨u,rfl,ru⟩:=rv.one
 cases ru
 obtain⟨z,its,n,r,hl,e⟩:=I.lstM hH
 obtain⟨z2,its2,n2,r2,hl2,e2⟩:=I.lstM hB
 have hsz:its.toArray.size+its2.toArray.size<=sizeLine:=by rw[vao,vao];omega
 have hlong:¬(!its.toArray.isEmpty&&Builtin.List.listTooLong (its.toArray.size+its2.toArray.size))=true:=by
  rw[zqk hsz,vdt]
  exact vdk
 refine ven F.slot_list_extend ⟨_,e,rfl⟩ F.entry_list_extend (F.args_list_extend_2 _ _)
  (AutoSeq1.list_extend_list_list_0 l its.toArray n b its2.toArray n2 hlong (by rw[vao];omega) (by omega)) ⟨e,e2,?_⟩
 refine⟨.non,_,I.lset (its':=its++its2) hH e (by simp) (r.append r2) ?_,rfl,q⟩
 rw[vaf]
 omega
noncomputable def rCat:R2:=λx y H Q=>∃l b xs zs,x=.ref l/\y=.ref b/\H l=some (.lst xs)/\H b=some (.lst zs)/\xs.length+zs.length<=sizeLine/\∀p,H p=none->Q (.ref p) (upd H p (.lst (xs++zs)))
theorem zwz:OpR X (binaryOp .Add) rCat:=by
 intro pins s σ H x y v u Q I rx ry h
 obtain⟨l,b,xs,zs,rfl,rfl,hH,hB,hz,q⟩:=h
 cases rx
 cases ry
 obtain⟨z,its,n,r,hl,e⟩:=I.lstM hH
 obtain⟨z2,its2,n2,r2,hl2,e2⟩:=I.lstM hB
 refine PySem.P.add_list e e2 ?_ (by rw[vao,vao];omega)
 have ea:its.toArray++its2.toArray=(its++its2).toArray:=by simp
 rw[ea]
 exact⟨.ref _,_,I.lnew (t':=s.toks) (r.append r2) (by rw[vaf];omega),rfl,q _ I.fresh⟩
theorem znh{α:Type}(xs:List α)(k:Nat):(List.replicate k xs).flatten.length=k*xs.length:=by
 induction k with
 |zero=>simp
 |succ k ih=>rw[vbs,vcg,vaf,ih,Nat.succ_mul,Nat.add_comm]
end
end L2
namespace Att
open PySem PySem.W PySem.Calls PyProof.Rows
theorem ze0{P:Params}:∀(ns:List Int) (vs:List Value),WellAll P h vs (ns.map WData.int)->IntsAre vs ns:=by
 intro ns
 induction ns with
 |nil=>
  intro vs w
  rw[vcc]at w
  cases w
  exact .nil
 |cons n ns ih=>
  intro vs w
  rw[van]at w
  cases w with
  |cons a b=>
   cases a
   exact .cons _ _ (ih _ b)
theorem zni{l:OpenLaw}{n:Nat}(hn:l.most=some n){P:Params}{h:Heap}{args:List WData}{vals:List Value}
 (hpre:l.row.toRowW.claim.pre args=true) (hwl:WellAll P h vals args) :
 ∃a vs ns,vals=[Value.ref a]/\args=[WData.list (ns.map WData.int)]/\h.get? a=some {cls:=.type "list",data:=.seq vs.toArray}/\IntsAre vs ns/\ns.length<=n:=by
 have hsh:WShape.hasAll [] args [.list .int]=true:=(pre_splitW hpre).1
 have hc:l.pre.holds [] {args:=args}=true:=(pre_splitW hpre).2
 obtain⟨d,r,rfl,h1,h2⟩:=hasAllW_cons hsh
 obtain rfl:=hasAllW_nil h2
 obtain⟨xs,rfl,h3⟩:=hasW_list h1
 obtain⟨ns,rfl⟩:=items_int h3
 have hlen:ns.length<=n:=by
  unfold OpenLaw.pre at hc
  have h4:(WTm.not (.lt (.lit (.int (n:Int))) (.len (.arg 0)))).holds [] {args:=[.list (ns.map .int)]}=true:=by
   have h4:=(holds_andW hc).1
   rw[hn]at h4
   exact h4
  have h5:=condW_of h4 (w_not (w_lt w_lit (w_len_list (w_arg rfl))))
  rw[vad]at h5
  refine Nat.le_of_not_lt λq=>?_
  have q':(n:Int)< ((ns.length:Nat):Int):=by omega
  first
   |(rw[vbg q']at h5;exact absurd h5 (by decide))
   |(simp at h5;omega)
 cases hwl with
 |cons w1 w2=>
  cases w2
  cases w1 with
  |list ho hall=>exact⟨_,_,ns,rfl,rfl,ho,ze0 ns _ hall,hlen⟩
theorem znj(l:OpenLaw)(args:List WData):l.row.toRowW.claim.post args (.bool true) args=true:=
 postW_of (r:=l.row.toRowW) (X:=(true==true))
  (show WShape.has [] (.bool true) .bool=true by first|rfl|decide|simp[WShape.has,WShape.arms,WShape.armsAll])
  (show(WTm.eq .res (.lit (.bool true))).value [] {args:=args,res:=some (.bool true),after:=args}=some (.bool (true==true))from w_eq_bool (w_res rfl) w_lit) rfl
theorem attach_call{l:OpenLaw}{n:Nat}{q:Program}{loose:List Str}{XP:(Str->Option Value)->Heap->Prop}{YP:World->Heap->Prop}{d:DefRec}
 (hn:l.most=some n) (hdf:d.params.defaults=[])
 (call:∀(w:World)(s₀ s₁:Shared)(mg mb:Str->Option Value)(fa:Addr)(o:Obj)(pm cd doc:Value)(a:Addr)(vs:List Value)(ns:List Int),
   Ground q loose [] XP w s₀ mg mb s₁.heap->YP w s₁.heap->
   s₁.heap.get? fa=some o->o.data=.func (docDef d.name d.params d.body d.scope pm cd doc)->s₁.heap.CodeRec cd d.name->mg d.name=some (.ref fa)->
   s₁.heap.get? a=some {cls:=.type "list",data:=.seq vs.toArray}->IntsAre vs ns->ns.length<=n->s₁.gens = #[]->
   codeAny (model l.prog w) callerA (.call (.ref fa) ⟨[.ref a],[]⟩) (λr s'=>r=.ok (.ret (.bool true))/\OldK s₁.heap s'.heap/\s'.os=s₁.os/\AllBare s'.gens) s₁) :
 WalkO q loose XP YP l.row.toRowW d [] (λf vs=>PySem.call f vs):=by
 intro w s₀ s₁ mg mb G Y fa o pm cd doc dV kV ho hd hcd hD hmg hg args vals as hpre hlay hrd hwl hlo
 obtain rfl:dV=.none:=Dflts.none hD hdf
 obtain rfl:kV=.none:=Dflts.noKw hD
 obtain⟨a,vs,ns,rfl,rfl,hobj,hints,hlen⟩:=zni hn hpre hwl
 refine enter_call (codeAny_mono (call w s₀ s₁ mg mb fa o pm cd doc a vs ns G Y ho (fd_plain hd) hcd hmg hobj hints hlen hg) λr s' hq=>?_)
 obtain⟨rfl,h2,h3,h4⟩:=hq
 exact⟨.inl ⟨.bool true,.bool true,[],rfl,λ_=>rfl,.bool true,znj l _,λ_=>⟨List.Pairwise.nil,λ_ hm=>(nomatch hm)⟩⟩,h2,h3,h4⟩
end Att
namespace L2
open PySem PySem.Spec PyProof.Rows
theorem zig:∀{vs:List Value} {ns:List Int},IntsAre vs ns->Vals (ns.map V.int) vs
 |_,_,.nil=>.nil
 |_,_,.cons n t h=>.cons ⟨t,rfl⟩ (zig h)
noncomputable def Only(H:Hp):Prop:=∀b,H b=none\/∃o xs,H b=some (.frz o (.lst xs))
theorem zql{P:Program}{w:World}{K:PySem.W.Frag}{mg mb:Str->Option Value}{CX:CXT}{k:Nat}{fa a:Addr}{fd:FuncData}{x:Str}{sp:Sp}{s₁:Shared}{vs:List Value}{ns:List Int}
 (KX:K.In s₁.heap) (hns:s₁.heap.Ns mainGlobals mg) (hb:s₁.heap.Ns builtinsNs mb) (hbb:∀x:Str,x≠"__name__"->mb x=bootBuiltins x) (hlim:s₁.heap.NoLimit) (hg:s₁.gens = #[])
 (ha:s₁.heap.get? a=some {cls:=.type "list",data:=.seq vs.toArray}) (hi:IntsAre vs ns) (hl:ns.length<=sizeLine) (hr:Room k callerA)
 (F:∀base:Heap,K.In base->base.Ns mainGlobals mg->FnOk P w K mg base CX k fa fd [x] sp) (hbind:∀(s:Shared)(u:Value),BindsTo s fd ⟨[u],[]⟩ [(x,u)])
 (hsp:∀H:Hp,Only H->SqL K H a (ns.map V.int)->sp [.ref a] H (λv _=>v=.bl true) λ_ _ _=>False)
 (hCX:∀H e s',CX [] H s₁ (λ_ _ _=>False) e s'->False) :
 codeAny (model P w) callerA (.call (.ref fa) ⟨[.ref a],[]⟩) (λr s'=>r=.ok (.ret (.bool true))/\OldK s₁.heap s'.heap/\s'.os=s₁.os/\AllBare s'.gens) s₁:=by
 have rv:=zig hi
 have lenV:=hi.length
 have core:∀H:Hp,Only H->SqL K H a (ns.map V.int)->HOk P w H s₁.heap->(∀b,H b≠none->b=a)->(H a≠none->K.lookup a=none)->
  codeAny (model P w) callerA (.call (.ref fa) ⟨[.ref a],[]⟩) (λr s'=>r=.ok (.ret (.bool true))/\OldK s₁.heap s'.heap/\s'.os=s₁.os/\AllBare s'.gens) s₁:=by
  intro H hO hS hok hA hK
  have base_of:∀{b:Addr}{o:Obj},s₁.heap.get? b=some o->H b=none->(hidT s₁.heap H).get? b=some o:=λe n=>zp5 e n
  have noA:∀{b:Addr}{o:Obj}{es:Array DictEntry}{ep:Nat},s₁.heap.get? b=some o->o.data=.dict es ep->H b=none:=λ{b o es ep} e d=>by
   cases q:H b with
   |none=>rfl
   |some u=>
    have e':b=a:=hA b (by rw[q];simp)
    subst e'
    rw[ha]at e;cases e
    have d':Data.seq vs.toArray _=Data.dict es ep:=d
    cases d'
  have nsK:∀{b:Addr}{m:Str->Option Value},s₁.heap.Ns b m->(hidT s₁.heap H).Ns b m:=λ{b m}⟨o,es,ep,e,d,r⟩=>⟨o,es,ep,base_of e (noA e d),d,r⟩
  have hKb:K.In (hidT s₁.heap H):=λb o e=>base_of (KX b o e) (by
   cases q:H b with
   |none=>rfl
   |some u=>
    have e':b=a:=hA b (by rw[q];simp)
    subst e'
    rw[hK (by rw[q];simp)]at e;cases e)
  have hM:Mod K mg (hidT s₁.heap H):=⟨hKb,nsK hns,⟨mb,nsK hb,hbb⟩,let⟨mc,h1,h2⟩:=hlim;⟨mc,nsK h1,h2⟩⟩
  have e0:Env0 P w K mg (hidT s₁.heap H) callerA [] s₁ H:=⟨rfl,hM,λb o e=>ztj e,Nat.le_of_eq (zmx _ _),trivial,λb hb=>absurd (show b∈([]:List Addr)from hb) (by simp),hok,.of_eq hg⟩
  refine codeAny_mono ((F _ hKb (nsK hns)).run callerA [] s₁ H ⟨[.ref a],[]⟩ [.ref a] [.ref a] _ _ hr e0 (hbind s₁ (.ref a)) (.cons rfl .nil) (hsp H hO hS)) λr s' h=>?_
  cases r with
  |error e=>exact(hCX H e s' h).elim
  |ok fl=>
   cases fl with
   |next=>exact False.elim h
   |brk=>exact False.elim h
   |cont=>exact False.elim h
   |ret u=>
    obtain⟨v,H',os,bare,un,hok',r',q⟩:=h
    have q':v=.bl true:=q
    subst q'
    obtain rfl:u=Value.bool true:=r'
    refine⟨rfl,OldK.of_keep λb o e=>?_,os,bare⟩
    cases q:H b with
    |none=>exact un.keep b o e q (by intro z;exact absurd (show b∈([]:List Addr)from z) (by simp)) (by simp)
    |some u=>
     rcases hO b with z|⟨ob,xs,z⟩
     .rw[q]at z;cases z
     .have z2:=un.frzs b ob _ z
      obtain⟨e1,_⟩:=hok b _ z
      obtain⟨e2,_⟩:=hok' b _ z2
      rw[e]at e1;cases e1
      exact e2
 cases hk:K.lookup a with
 |some o=>
  have e:=KX a o hk
  rw[ha]at e
  cases e
  refine core (λ_=>none) (λ_=>.inl rfl) (.inr ⟨_,vs.toArray,_,hk,rfl,rfl,rfl,by rw[vao,lenV];exact hl,by simpa using rv⟩) (λb u z=>by have z':(none:Option HO)=some u:=z;cases z') (λb z=>absurd rfl z) λz=>absurd rfl z
 |none=>
  refine core (λb=>if b=a then some (.frz {cls:=.type "list",data:=.seq vs.toArray} (.lst (ns.map V.int)))else none) (λb=>?_) (.inl (.inr ⟨{cls:=.type "list",data:=.seq vs.toArray},if_pos rfl⟩)) (λb u z=>?_) (λb z=>?_) λ_=>hk
  .by_cases hb:b=a
   .exact .inr ⟨_,_,if_pos hb⟩
   .exact .inl (if_neg hb)
  .by_cases hb:b=a
   .have z':=(if_pos hb).symm.trans z
    cases z'
    subst hb
    exact⟨ha,by rw[vad];exact hl,vs,_,rv,ha⟩
   .have z':=(if_neg hb).symm.trans z
    cases z'
  .by_cases hb:b=a
   .exact hb
   .exact absurd (if_neg hb) z
theorem zt4{l:PySem.W.OpenLaw}{n k:Nat}{q:Program}{loose:List Str}{XP:(Str->Option Value)->Heap->Prop}{YP:World->Heap->Prop}{d:DefRec}{K:Params->PySem.W.Frag}{CX:World->CXT}{sp:World->Sp}{x:Str}
 (hn:l.most=some n) (hn2:n<=sizeLine) (hdf:d.params.defaults=[]) (hr:Room k callerA)
 (hY:∀(w:World)(h:Heap),YP w h->(K w.params).In h)
 (F:∀(w:World)(mg:Str->Option Value)(fa:Addr)(h:Heap),(K w.params).In h->h.Ns mainGlobals mg->mg d.name=some (.ref fa)->
   ∃fd:FuncData,(∀(s:Shared)(u:Value),BindsTo s fd ⟨[u],[]⟩ [(x,u)])/\
    ∀base:Heap,(K w.params).In base->base.Ns mainGlobals mg->FnOk l.prog w (K w.params) mg base (CX w) k fa fd [x] (sp w))
 (hsp:∀(w:World)(H:Hp)(a:Addr)(ns:List Int),ns.length<=n->Only H->SqL (K w.params) H a (ns.map V.int)->sp w [.ref a] H (λv _=>v=.bl true) λ_ _ _=>False)
 (hCX:∀(w:World)(H:Hp)(s:Shared)(e:Value)(s':Shared),CX w [] H s (λ_ _ _=>False) e s'->False) :
 PySem.W.WalkO q loose XP YP l.row.toRowW d [] (λf vs=>PySem.call f vs):=by
 refine Att.attach_call hn hdf λw s₀ s₁ mg mb fa o pm cd doc a vs ns G Y ho hd hcd hmg hobj hints hlen hg=>?_
 have KX:=hY w _ Y
 obtain⟨fd,hb,hF⟩:=F w mg fa _ KX G.T.g hmg
 exact zql KX G.T.g G.T.b G.T.builtins G.T.nolimit hg hobj hints (vbe hlen hn2) hr hF hb (λH hO hS=>hsp w H a ns hlen hO hS) λH e s'=>hCX w H s₁ e s'
noncomputable def zt5(s:Stmt):Arguments:=match s with
 |.FunctionDef _ a _ _ _ _ _ _ _ _=>a
 |_=>{posonlyargs:=[],args:=[],vararg:=none,kwonlyargs:=[],kw_defaults:=[],kwarg:=none,defaults:=[]}
noncomputable def ze1(s:Stmt):List Stmt:=match s with
 |.FunctionDef _ _ b _ _ _ _ _ _ _=>b
 |_=>[]
noncomputable def zav(s:Stmt):Scope:=match s with
 |.FunctionDef _ _ _ _ _ _ sc _ _ _=>sc
 |_=>{kind:=.function,names:=[],isGenerator:=false,isCoroutine:=false}
noncomputable abbrev CX0:CXT:=λ_ _ _ _ _ _=>False
noncomputable abbrev E0:XK:=λ_ _ _=>False
theorem pass0:zkr CX0 X E0:=λ_ _ _ _ _ _ _ h=>h.elim
theorem zih{n:Nat}(h:n<=1000):n<sizeLine:=vbv h (by decide)
noncomputable def zb7(cells:List (Str×Addr)):List (Str×NameKind)->List (Str×Addr)->List (Str×Addr)
 |[],cs=>cs
 |(n,k)::r,cs=>zb7 cells r (if k == .free then(match cells.lookup n with|some c=>(n,c)::cs|none=>cs)else cs)
theorem zc5(hf:∀y∈scope.names,y.2=.free->∃c,env.cells.lookup y.1=some c):closureFor scope env=pure (zb7 env.cells scope.names []):=by
 have go:∀(l:List (Str×NameKind))(cs:List (Str×Addr)),(∀y∈l,y.2=.free->∃c,env.cells.lookup y.1=some c)->
  (forIn l cs λ(x:Str×NameKind)(r:List (Str×Addr))=>(match x with
    |(name,kind)=>if(kind==NameKind.free)=true then(do let a <-cellOf env name;pure (ForInStep.yield ((name,a)::r)))else pure (ForInStep.yield r):Sem (ForInStep (List (Str×Addr)))))=(pure (zb7 env.cells l cs):Sem (List (Str×Addr))):=by
  intro l
  induction l with
  |nil=>intro cs _;rfl
  |cons x r ih=>
   intro cs h
   obtain⟨n,k⟩:=x
   rw[vdm]
   by_cases hk:(k==NameKind.free)=true
   .have hk':k=.free:=by simpa using hk
    obtain⟨c,hc⟩:=h (n,k) vam hk'
    have hc':env.cells.lookup n=some c:=hc
    simp only[hk,vbm,cellOf,hc',zb7]
    exact ih _ λy hy=>h y (vai _ hy)
   .have hk':(k==NameKind.free)=false:=by simpa using hk
    simp only[hk',vap,vbl,zb7]
    exact ih _ λy hy=>h y (vai _ hy)
 have e:=go scope.names [] hf
 unfold closureFor
 refine Eq.trans (vdu (λt=>t >>= λcs=>pure cs) e) ?_
 rfl
theorem zfz{cells:List (Str×Addr)}:∀(l:List (Str×NameKind)) (cs:List (Str×Addr)),(∀x c,cs.lookup x=some c->cells.lookup x=some c)->∀x c,(zb7 cells l cs).lookup x=some c->cells.lookup x=some c
 |[],cs,h=>h
 |(n,k)::r,cs,h=>zfz r _ λx c e=>by
  by_cases hk:(k==NameKind.free)=true
  .simp only[hk,vbm]at e
   cases hc:cells.lookup n with
   |none=>rw[hc]at e;exact h x c e
   |some d=>
    rw[hc]at e
    simp only[va8]at e
    by_cases hx:(x==n)=true
    .simp only[hx]at e
     cases e
     rw[show x=n by simpa using hx];exact hc
    .have hx':(x==n)=false:=by simpa using hx
     simp only[hx']at e
     exact h x c e
  .have hk':(k==NameKind.free)=false:=by simpa using hk
   simp only[hk',vap,vbl]at e
   exact h x c e
theorem ze2{cells:List (Str×Addr)}{x:Str}{c:Addr}(hc:cells.lookup x=some c):∀(l:List (Str×NameKind)) (cs:List (Str×Addr)),cs.lookup x=some c->(zb7 cells l cs).lookup x=some c
 |[],cs,h=>h
 |(n,k)::r,cs,h=>ze2 hc r _ (by
  by_cases hk:(k==NameKind.free)=true
  .simp only[hk,vbm]
   cases hn:cells.lookup n with
   |none=>exact h
   |some d=>
    simp only[va8]
    by_cases hx:(x==n)=true
    .have:x=n:=by simpa using hx
     subst this
     rw[hc]at hn;cases hn
     simp
    .have hx':(x==n)=false:=by simpa using hx
     simp only[hx'];exact h
  .have hk':(k==NameKind.free)=false:=by simpa using hk
   simp only[hk',vap,vbl]
   exact h)
theorem zdr{cells:List (Str×Addr)}{x:Str}{c:Addr}(hc:cells.lookup x=some c):∀(l:List (Str×NameKind)) (cs:List (Str×Addr)),(x,NameKind.free)∈l->(zb7 cells l cs).lookup x=some c
 |[],cs,h=>by cases h
 |(n,k)::r,cs,h=>by
  rcases vax.mp h with e|e
  .cases e
   refine ze2 hc r _ ?_
   rw[hc]
   simp[va8]
  .exact zdr hc r _ e
noncomputable abbrev Cx.comp(X:Cx)(N:List Str)(scope:Scope)(C:Addr)(s₀:Shared)(H₀:Hp)(ex:List Addr):Cx:=
 {X with N:=N,s₀:=s₀,H₀:=H₀,env:=compEnvC scope (zb7 X.env.cells scope.names []) C X.env,outer:=X.stack,stack:=X.stack,ex:=ex,fn:=λ_=>false,pn:=[],xe:=λ_ _=>False}
structure CompScope(X:Cx)(ow fr:List Str)(ix:List Nat)(scope:Scope):Prop where
 kind:scope.kind=.function
 nocell:∀y∈scope.names,y.2≠.cell
 names:∀y∈scope.names,y.2=.local->scope.names.lookup y.1=some .local
 own:∀x∈ow,scope.names.lookup x=some .local
 free:∀y∈scope.names,y.2=.free->X.env.kindOf y.1=some .cell\/X.env.kindOf y.1=some .free
 at_:∀(k:Nat)(x:Str),fr[k]?=some x->∃j,ix[k]?=some j/\X.N[j]?=some x/\scope.names.lookup x=some .free
 len:ix.length=fr.length
noncomputable def cσ(ow fr:List Str)(ix:List Nat)(σ:St):St:=ow.map (λ_=>none)++ix.map λj=>(σ[j]?).join
theorem zf0{x:Str}{k:NameKind}:∀{l:List (Str×NameKind)},l.lookup x=some k->(x,k)∈l
 |[],h=>by cases h
 |(n,j)::r,h=>by
  simp only[va8]at h
  by_cases hx:(x==n)=true
  .simp only[hx]at h
   cases h
   rw[show x=n by simpa using hx];exact vam
  .have hx':(x==n)=false:=by simpa using hx
   simp only[hx']at h
   exact vai _ (zf0 h)
theorem zb8{env:Env}:∀{l:List (Str×NameKind)} {x:Str} {k:NameKind},
 (l.map λ(n,k)=>if(k==NameKind.free&&env.scope.kind == .function&&env.kindOf n==some .cell)then(n,NameKind.cell)else(n,k)).lookup x=some k->k≠.local->(∀y∈l,y.2≠.cell)->k=.cell\/k=.free->(x,NameKind.free)∈l
 |[],x,k,h,_,_,_=>by cases h
 |(n,j)::r,x,k,h,hk,hc,hh=>by
  have ih:=@zb8 env r x k
  rw[van]at h
  by_cases hc':(j==NameKind.free&&env.scope.kind == .function&&env.kindOf n==some .cell)=true
  .simp only[hc',vbm,va8]at h
   have hj:j=.free:=by
    simp only[vab,beq_iff_eq]at hc'
    exact hc'.1.1
   by_cases hx:(x==n)=true
   .rw[show x=n by simpa using hx,hj];exact vam
   .have hx':(x==n)=false:=by simpa using hx
    simp only[hx']at h
    exact vai _ (ih h hk (λy hy=>hc y (vai _ hy)) hh)
  .have hcf:(j==NameKind.free&&env.scope.kind == .function&&env.kindOf n==some .cell)=false:=by simpa using hc'
   simp only[hcf,vap,vbl,va8]at h
   by_cases hx:(x==n)=true
   .simp only[hx]at h
    cases h
    rcases hh with z|z
    .exact absurd z (hc _ vam)
    .rw[show x=n by simpa using hx,z];exact vam
   .have hx':(x==n)=false:=by simpa using hx
    simp only[hx']at h
    exact vai _ (ih h hk (λy hy=>hc y (vai _ hy)) hh)
theorem zbs{env:Env}(hkf:env.scope.kind=.function):∀{l:List (Str×NameKind)} {x:Str},l.lookup x=some .free->
 (l.map λ(n,k)=>if(k==NameKind.free&&env.scope.kind == .function&&env.kindOf n==some .cell)then(n,NameKind.cell)else(n,k)).lookup x=some (if env.kindOf x=some .cell then .cell else .free)
 |[],x,h=>by cases h
 |(n,j)::r,x,h=>by
  have ih:=@zbs env hkf r x
  rw[van]
  simp only[va8]at h
  by_cases hx:(x==n)=true
  .simp only[hx]at h
   cases h
   have e:x=n:=by simpa using hx
   subst e
   by_cases hq:env.kindOf x=some .cell
   .simp[hkf,hq,va8]
   .simp[hq,va8]
  .have hx':(x==n)=false:=by simpa using hx
   simp only[hx']at h
   by_cases hc':(j==NameKind.free&&env.scope.kind == .function&&env.kindOf n==some .cell)=true
   .simp only[hc',vbm,va8,hx'];exact ih h
   .have hcf:(j==NameKind.free&&env.scope.kind == .function&&env.kindOf n==some .cell)=false:=by simpa using hc'
    simp only[hcf,vap,vbl,va8,hx'];exact ih h
section
variable{X:Cx}{pins:List (Addr×Obj)}{σ:St}{H:Hp}{s:Shared}{ow fr:List Str}{ix:List Nat}{scope:Scope}{fp:List Addr}
theorem zqm(S:CompScope X ow fr ix scope)(I:Inv X pins σ H s)(hfp:∀b∈fp,FpOk X pins H b)(hlt:∀b∈fp,b<s.heap.objs.size){h':Heap}{tk:Nat}{m:Str->Option Value}(hn:h'.Ns s.heap.objs.size m)(hk:∀b o,s.heap.get? b=some o->h'.get? b=some o) :
 Inv (X.comp (ow++fr) scope s.heap.objs.size s H fp) [] (cσ ow fr ix σ) H {s with heap:=h',toks:=tk}:=by
 have sub:=zfz (cells:=X.env.cells) scope.names [] (λx c e=>by cases e)
 have kf:=I.ok.kind
 have ncell:∀x c,X.env.cells.lookup x=some c->c≠s.heap.objs.size:=λx c e z=>by
  obtain⟨v,q⟩:=I.cell x c e
  exact absurd q.lt (by rw[z];exact vcr _)
 have hasC:∀x,(x,NameKind.free)∈scope.names->∃c,(zb7 X.env.cells scope.names []).lookup x=some c/\X.env.cells.lookup x=some c:=λx hx=>by
  obtain⟨c,hc⟩:=I.ok.has x (S.free _ hx rfl)
  exact⟨c,zdr hc _ _ hx,hc⟩
 refine⟨⟨I.ok.mod,?_,I.ok.glob,I.ok.blt,vac _,λx y c a b=>I.ok.inj x y c (sub x c a) (sub y c b),λx hx=>?_,λx c e=>?_,I.ok.hd,I.ok.frames,.inl rfl,λb hb=>?_,λb o e=>?_,?_,λb o e hb=>?_,λb hb hz=>?_,I.stack,λb hb=>I.stkFree b hb⟩,
  rfl,I.bare,Un.kept hk,⟨m,hn,λi x v e1 e2 e3=>?_⟩,λx c e=>?_,I.hok.fresh (vac _),λx c e=>I.freeC x c (sub x c e),λp hp=>?_,I.hok.kept hk,?_⟩
 .exact S.kind
 .have hx':(relabel scope X.env).names.lookup x=some .cell\/(relabel scope X.env).names.lookup x=some .free:=hx
  have hm:(x,NameKind.free)∈scope.names:=by
   rcases hx' with z|z
   .exact zb8 (env:=X.env) z (by decide) S.nocell (.inl rfl)
   .exact zb8 (env:=X.env) z (by decide) S.nocell (.inr rfl)
  obtain⟨c,hc,_⟩:=hasC x hm
  exact⟨c,hc⟩
 .cases e
 .obtain⟨f0,f1,f2,f3,f4,f5⟩:=hfp b hb
  refine⟨λz=>?_,λx c e=>f4 x c (sub x c e)⟩
  have q:=hlt b hb
  rw[z]at q
  exact absurd q (vcr _)
 .exact⟨(I.bs b o e).1,(I.bs b o e).2⟩
 .exact vbe I.ok.bsz I.sz
 .obtain⟨f0,f1,f2,f3,f4,f5⟩:=hfp b hb
  rcases f3 with z|z
  .exact I.ok.noex b o e z
  .exact absurd (vak (vay (I.ok.bs b o e).1) z) (vcr _)
 .obtain⟨f0,f1,f2,f3,f4,f5⟩:=hfp b hb
  rcases vax.mp (I.stkSub b hz)with z|z
  .exact f1 z
  .exact f2 z
 .have hlen:ow.length<=i:=by
   by_cases hi:i<ow.length
   .unfold cσ at e2
    rw[vci (by simpa using hi),vbf]at e2
    cases q:ow[i]? with
    |none=>rw[q]at e2;cases e2
    |some y=>rw[q]at e2;cases e2
   .omega
  have e1':fr[i-ow.length]?=some x:=by
   have e1:(ow++fr)[i]?=some x:=e1
   rw[vbb hlen]at e1
   exact e1
  have e2':(ix.map λj=>(σ[j]?).join)[i-ow.length]?=some (some v):=by
   unfold cσ at e2
   rw[vbb (by simpa using hlen)]at e2
   simpa using e2
  obtain⟨j,hj,hN,hl⟩:=S.at_ _ _ e1'
  rw[vbf,hj]at e2'
  have e2'':(σ[j]?).join=some v:=vbn e2'
  have hσ:σ[j]?=some (some v):=by
   cases q:σ[j]? with
   |none=>rw[q]at e2'';cases e2''
   |some o=>rw[q]at e2'';cases o with
    |none=>cases e2''
    |some w=>cases e2'';rfl
  obtain⟨m0,hm0,hl0⟩:=I.loc
  have hmem:=zf0 hl
  have hkf:=S.free _ hmem rfl
  have hvis:Vis X.env.scope x:=hkf.elim (λz=>.inr (.inl z)) λz=>.inr (.inr z)
  obtain⟨u,ru,lk⟩:=hl0 j x v hN hσ hvis
  refine⟨u,ru,.inr ?_⟩
  have hcell:∃c,X.env.cells.lookup x=some c/\s.heap.IsCell c (some u):=by
   rcases lk with⟨z,_⟩|⟨_,c,e,z⟩
   .rcases hkf with q|q
    .rw[show X.env.kindOf x=some .local from z]at q;cases q
    .rw[show X.env.kindOf x=some .local from z]at q;cases q
   .exact⟨c,e,z⟩
  obtain⟨c,hc,o,ho,hd⟩:=hcell
  refine⟨?_,c,zdr hc _ _ hmem,o,hk _ _ ho,hd⟩
  show(relabel scope X.env).names.lookup x=some .cell\/(relabel scope X.env).names.lookup x=some .free
  have q:=zbs (env:=X.env) kf hl
  by_cases z:X.env.kindOf x=some .cell
  .rw[if_pos z]at q;exact .inl q
  .rw[if_neg z]at q;exact .inr q
 .obtain⟨v,q⟩:=I.cell x c (sub x c e)
  obtain⟨o,ho,hd⟩:=q
  exact⟨v,o,hk _ _ ho,hd⟩
 .cases(show p∈([]:List (Addr×Obj))from hp)
 .show(cσ ow fr ix σ).length=(ow++fr).length
  unfold cσ
  rw[vaf,vad,vad,vaf,S.len]
end
theorem znk{α:Type}{M:Model}{t:Sem α}{Q:α->Shared->Prop}(h:wpAny M A t Q (λ_ _=>False) s):wpAny M A t Q E s:=vdf h (λ_ _ q=>q) λ_ _ z=>z.elim
noncomputable abbrev noX:Value->Shared->Prop:=λ_ _=>False
noncomputable abbrev znl(ifs:List Expr)(env:Env):Sem Bool:=forIn ifs true λc r=>if r=true then do let ok <-isTrue c env (eval c env);pure (ForInStep.yield ok)else pure (ForInStep.yield r)
theorem zcp{prog:Program}{w:World}{A:Around}{R:Result->Shared->Prop}{s:Shared}{elt target iter:Expr}{ifs:List Expr}{scope:Scope}{pos:Pos}{it acc:Value}{env:Env}(I:Nat->Shared->Prop)
 (turn:∀n s,I n s->wpAny (model prog w) A (pyNext it) (λr s₁=>match r with
   |none=>R (.ok .next) s₁
   |some v=>wpAny (model prog w) A (letOwnedTupleGo target it v) (λ_ s₀=>wpAny (model prog w) A (assign target env v) (λ_ s₂=>
    wpAny (model prog w) A (znl ifs env) (λok s₃=>
     if ok=true then wpAny (model prog w) A (eval elt env) (λx s₄=>
      wpAny (model prog w) A (call (.builtin "list.append") [acc,x]) (λ_ s₅=>∃m,m<n/\I m s₅) noX s₄) noX s₃
     else ∃m,m<n/\I m s₃) noX s₂) noX s₀) noX s₁) noX s)
 (n:Nat) (h:I n s) :
 codeAny (model prog w) A (.compLoop (.ListComp elt [⟨target,iter,ifs,0⟩] scope pos) 0 it acc env) R s:=by
 refine codeAny_loop rfl I (λn s hI=>?_) n h
 show wpAny _ A ((compTurn (.ListComp elt [⟨target,iter,ifs,0⟩] scope pos) 0 it acc env).onRaise (λx=>do noteFrame x env;theTreesLotGoes x)) _ _ s
 refine wpAny_noted (znk ?_)
 rw[compTurn_list]
 refine vaa (vep (vaa (vdf (turn n s hI) (λr s₁ h₁=>?_) λ_ _ h'=>h')))
 cases r with
 |none=>exact vag h₁
 |some v=>
  refine vaa (vdf h₁ (λ_ s₀ h₀=>?_) λ_ _ h'=>h')
  refine vaa (vdf h₀ (λ_ s₂ h₂=>vaa (vdf h₂ (λok s₃ h₃=>?_) λ_ _ h'=>h')) λ_ _ h'=>h')
  cases ok with
  |true=>
   simp only[vbm]at h₃ ⊢
   exact vaa (vaa (vdf h₃ (λx s₄ h₄=>vaa (vdf h₄ (λ_ s₅ h₅=>vag (vag ⟨rfl,h₅⟩)) λ_ _ h'=>h')) λ_ _ h'=>h'))
  |false=>
   simp only[vap,vbl]at h₃ ⊢
   exact vag ⟨rfl,h₃⟩
noncomputable def PTs(X:Cx)(ifs:List Expr)(t:TT):Prop:=
 ∀(pins:List (Addr×Obj))(s:Shared)(σ:St)(H:Hp)(Q:Bool->Hp->Prop),Inv X pins σ H s->t σ H Q->wpAny (model X.prog X.w) X.A (znl ifs X.env) (TP X pins σ Q) X.xe s
noncomputable def tYes:TT:=λ_ H Q=>Q true H
theorem zt6:PTs X [] tYes:=λpins s σ H Q I h=>wpAny_tests_nil ⟨H,I,h⟩
theorem zt7(h:PT X c t):PTs X [c] t:=λpins s σ H Q I q=>wpAny_tests_one (h pins s σ H Q I q)
noncomputable def tLC(K:PySem.W.Frag)(f:St->St)(wi:TI)(g:TG)(tc:TT)(te:TE):TE:=λσ H Q=>wi σ H λJ H1=>∀D,H1 D=none->K.lookup D=none->
 ∃W:Nat->Nat->St->Hp->List V->Prop,(∃m,W 0 m (f σ) (upd H1 D (.lst [])) [])/\∀i m σ' H' ys,W i m σ' H' ys->H' D=some (.lst ys)/\
  ((J.stop i H'/\Q (.ref D) H')\/(J.go i H'/\∀x H2,J.yld i H' x H2->g x σ' H2 λσ2 H3=>tc σ2 H3 λb H4=>
    if b=true then te σ2 H4 λy H5=>H5 D=some (.lst ys)/\ys.length<sizeLine/\∃m',m'<m/\W (i+1) m' σ2 (upd H5 D (.lst (ys++[y]))) (ys++[y])
    else ∃m',m'<m/\W (i+1) m' σ2 H4 ys))
section
variable{X:Cx}{ow fr:List Str}{ix:List Nat}{scope:Scope}{tg iter elt:Expr}{ifs:List Expr}{pos:Pos}{wi:TI}{g:TG}{tc:TT}{te:TE}
theorem zf1{pins:List (Addr×Obj)}{s:Shared}{σ:St}{Q:VK}{RR:Value->Addr->Result->Shared->Prop}(S:CompScope X ow fr ix scope)(hc:X.calm=true)
 (hg:∀C s₀ H₀ ex,PG (X.comp (ow++fr) scope C s₀ H₀ ex) tg g) (ht:∀C s₀ H₀ ex,PTs (X.comp (ow++fr) scope C s₀ H₀ ex) ifs tc) (he:∀C s₀ H₀ ex,PE (X.comp (ow++fr) scope C s₀ H₀ ex) elt te)
 {itv:Value} {E:Value->Shared->Prop}
 (h:PIE X pins σ tg (λJ H1=>∀D,H1 D=none->X.K.lookup D=none->
   ∃W:Nat->Nat->St->Hp->List V->Prop,(∃m,W 0 m (cσ ow fr ix σ) (upd H1 D (.lst [])) [])/\∀i m σ' H' ys,W i m σ' H' ys->H' D=some (.lst ys)/\
    ((J.stop i H'/\Q (.ref D) H')\/(J.go i H'/\∀x H2,J.yld i H' x H2->g x σ' H2 λσ2 H3=>tc σ2 H3 λb H4=>
      if b=true then te σ2 H4 λy H5=>H5 D=some (.lst ys)/\ys.length<sizeLine/\∃m',m'<m/\W (i+1) m' σ2 (upd H5 D (.lst (ys++[y]))) (ys++[y])
      else ∃m',m'<m/\W (i+1) m' σ2 H4 ys))) itv s)
 (fin:∀D C H' s' m,FpOk X pins H' C->s'.heap.Ns C m->(∀h'',Heap.SameBut C s'.heap h''->Inv X pins σ H' {s' with heap:=h''})->Q (.ref D) H'->RR (.ref D) C (.ok .next) s') :
 wpAny (model X.prog X.w) X.A (newList []) (λacc s₃=>wpAny (model X.prog X.w) X.A (newFunctionEnv scope X.env.globals (zb7 X.env.cells scope.names []) [] X.env.qual none .none (some X.env)) (λcenv s₄=>
  codeAny (model X.prog X.w) X.A (.compStart (.ListComp elt [⟨tg,iter,ifs,0⟩] scope pos) 0 itv acc {cenv with scope:=relabel scope X.env}) (RR acc cenv.locals) s₄) E s₃) E s:=by
 obtain⟨it,fp,tn,J,H1,e,I1,T,st1,f1,hq⟩:=h
 subst e
 have hD:H1 s.heap.objs.size=none:=I1.hok.fresh (vac _)
 have hKD:X.K.lookup s.heap.objs.size=none:=by
  cases e:X.K.lookup s.heap.objs.size with
  |none=>rfl
  |some o=>exact absurd (vay (I1.kIn _ _ e)) (vcr _)
 obtain⟨W,⟨m0,w0⟩,turn⟩:=hq _ hD hKD
 have I3:Inv X pins σ (upd H1 s.heap.objs.size (.lst [])) {s with heap:=s.heap.push {cls:=.type "list",dict:=none,data:=.seq ([]:List Value).toArray}}:=
  I1.laid (t':=s.toks) (o:=.lst []) (λb u q=>vae _ q) (vac _) ⟨vbk _,[],0,.nil,va2 _ rfl⟩
 have hlt1:∀b∈fp,b<s.heap.objs.size:=λb hb=>by
  obtain⟨o,ho,_⟩:=T.obj _ _ st1 b hb
  exact vay ho
 have f3:∀b∈fp,FpOk X pins (upd H1 s.heap.objs.size (.lst [])) b:=λb hb=>⟨by rw[zai (vbd (hlt1 b hb))];exact(f1 b hb).1,(f1 b hb).2⟩
 refine vbu (wpAny_newFunctionEnv S.nocell (by intro y hy;simp at hy) (λh₁ hns hsb=>?_) S.kind)
 dsimp only at hns hsb ⊢
 generalize hS3:({s with heap:=s.heap.push {cls:=.type "list",dict:=none,data:=.seq ([]:List Value).toArray}}:Shared)=s3 at I3
 have hh3:s3.heap=s.heap.push {cls:=.type "list",dict:=none,data:=.seq ([]:List Value).toArray}:=by rw[<-hS3]
 rw[<-hh3]at hns hsb ⊢
 have hk:∀b o,s3.heap.get? b=some o->h₁.get? b=some o:=λb o e=>hsb.extBut b o (vbd (vay e)) (vae _ e)
 have hlt3:∀b∈fp,b<s3.heap.objs.size:=λb hb=>by rw[hh3,vct];exact Nat.lt_succ_of_lt (hlt1 b hb)
 have J3:=zqm S I3 f3 hlt3 (tk:=s.toks) hns hk
 have st3:tn 0 h₁:=T.keep _ _ _ st1 λb hb o e=>hk b o (by rw[hh3];exact vae _ e)
 have ex3:∀b∈fp,(X.comp (ow++fr) scope s3.heap.objs.size s3 (upd H1 s.heap.objs.size (.lst [])) fp).Ok->∀{H':Hp},H' b=none->FpOk (X.comp (ow++fr) scope s3.heap.objs.size s3 (upd H1 s.heap.objs.size (.lst [])) fp) [] H' b:=λb hb ok H' hn=>
  ⟨hn,(ok.exf b hb).1,ok.exfs b hb,.inl hb,(ok.exf b hb).2,λp hp=>by cases(show p∈([]:List (Addr×Obj))from hp)⟩
 have back:∀{σ':St}{H':Hp}{s':Shared},Inv (X.comp (ow++fr) scope s3.heap.objs.size s3 (upd H1 s.heap.objs.size (.lst [])) fp) [] σ' H' s'->∀h'',Heap.SameBut s3.heap.objs.size s'.heap h''->Inv X pins σ H' {s' with heap:=h''}:=λ{σ' H' s'} I' h'' hs=>by
  have neC:∀b o,s3.heap.get? b=some o->b≠s3.heap.objs.size:=λb o e=>vbd (vay e)
  have un:Un (frs X.stack) fp (upd H1 s.heap.objs.size (.lst [])) H' s3.heap h'':=
   ⟨λb o e n hb hx=>(hs.2 b (neC b o e)).trans (I'.base.keep b o e n hb hx),λb o e n hb hx=>by
    obtain⟨sl,q⟩:=I'.base.slot b o e n hb hx
    exact⟨sl,(hs.2 b (neC b o e)).trans q⟩,I'.base.free,λb o e hx=>by
    obtain⟨o',q⟩:=I'.base.there b o e hx
    exact⟨o',(hs.2 b (neC b o e)).trans q⟩,I'.base.tups,I'.base.frzs,I'.base.tbls⟩
  have hok:HOk X.prog X.w H' h'':=λb ob e=>by
   refine(I'.hok b ob e).stay (λc w' hcc q=>(hs.2 c ?_).trans q) (λ_ q=>q) λ_ _ q=>q
   rintro rfl
   have hfree:=I'.free
   rcases hcc with rfl|hcc
   .rw[show H' s3.heap.objs.size=none from hfree]at e;cases e
   .rw[show H' s3.heap.objs.size=none from hfree]at hcc;cases hcc
  have hos:s'.os=s3.os:=I'.os
  exact I3.call' (s':={s' with heap:=h''}) (ch:=fp) hos un hok I'.bare λb hb=>by
   obtain⟨_,a1,a2,a3,a4,a5⟩:=f1 b hb
   exact⟨a3,a1,a4,a5⟩
 have loop:∀s4:Shared,Inv (X.comp (ow++fr) scope s3.heap.objs.size s3 (upd H1 s.heap.objs.size (.lst [])) fp) [] (cσ ow fr ix σ) (upd H1 s.heap.objs.size (.lst [])) s4->tn 0 s4.heap->
  codeAny (model X.prog X.w) X.A (.compLoop (.ListComp elt [⟨tg,iter,ifs,0⟩] scope pos) 0 (.ref it) (.ref s.heap.objs.size) (X.comp (ow++fr) scope s3.heap.objs.size s3 (upd H1 s.heap.objs.size (.lst [])) fp).env)
   (RR (.ref s.heap.objs.size) s3.heap.objs.size) s4:=by
  intro s4 I4 st4
  refine zcp (λn s'=>∃i σ' H' ys,Inv (X.comp (ow++fr) scope s3.heap.objs.size s3 (upd H1 s.heap.objs.size (.lst [])) fp) [] σ' H' s'/\tn i s'.heap/\(∀b∈fp,H' b=none)/\W i n σ' H' ys) ?_ m0 ⟨0,_,_,[],I4,st4,λb hb=>(f3 b hb).1,w0⟩
  rintro n s5 ⟨i,σ5,H5,ys,I5,st5,fr5,w5⟩
  obtain⟨hDl,alt⟩:=turn i n σ5 H5 ys w5
  rcases alt with⟨stop,q⟩|⟨go,step⟩
  .refine thn (T.done (X.comp (ow++fr) scope s3.heap.objs.size s3 (upd H1 s.heap.objs.size (.lst [])) fp) rfl rfl rfl hc i [] s5 σ5 H5 noX I5 (λb hb=>ex3 b hb I5.ok (fr5 b hb)) st5 stop) λr s6 hq0=>?_
   obtain⟨hr,I6⟩:=hq0
   subst hr
   obtain⟨m6,hn6,_⟩:=I6.loc
   exact fin _ _ H5 s6 m6 (I3.fpOk (vac _) I6.free) hn6 (back I6) q
  .refine thn (T.item (X.comp (ow++fr) scope s3.heap.objs.size s3 (upd H1 s.heap.objs.size (.lst [])) fp) rfl rfl rfl hc i [] s5 σ5 H5 noX I5 (λb hb=>ex3 b hb I5.ok (fr5 b hb)) st5 go) λr s6 hq0=>?_
   obtain⟨u,hr,h6⟩:=hq0
   subst hr
   refine thn h6 λ_ s7 hq0=>?_
   obtain⟨x,H7,I7,r7,y7,st7,fr7⟩:=hq0
   have I7':=I7.pinned (λb hb=>ex3 b hb I7.ok (fr7 b hb)) (T.obj _ _ st7)
   have again:∀{σ8:St}{H8:Hp}{s8:Shared}{zs:List V}{m':Nat},Inv (X.comp (ow++fr) scope s3.heap.objs.size s3 (upd H1 s.heap.objs.size (.lst [])) fp) ([]++zh0 fp s7.heap) σ8 H8 s8->m'<n->W (i+1) m' σ8 H8 zs->
    ∃m,m<n/\∃i σ' H' ys,Inv (X.comp (ow++fr) scope s3.heap.objs.size s3 (upd H1 s.heap.objs.size (.lst [])) fp) [] σ' H' s8/\tn i s8.heap/\(∀b∈fp,H' b=none)/\W i m σ' H' ys:=λ{σ8 H8 s8 zs m'} I8 hm w8=>by
    refine⟨m',hm,i+1,σ8,H8,zs,I8.unpinned,T.keep _ _ _ st7 λb hb o e=>(I8.pin (b,o) (va6 _ (va6 _ (zcj hb e)))).1,λb hb=>?_,w8⟩
    obtain⟨o,e,d⟩:=T.obj _ _ st7 b hb
    exact(I8.pin (b,o) (va6 _ (va6 _ (zcj hb e)))).2.1
   refine thn (hg _ _ _ _ _ s7 σ5 H7 x u _ I7' r7 (step x H7 y7)) λ_ s8 hq0=>?_
   obtain⟨σ8,H8,I8,q8⟩:=hq0
   refine thn (ht _ _ _ _ _ s8 σ8 H8 _ I8 q8) λok s9 z9=>z9.el λH9 I9 q9=>?_
   cases ok with
   |false=>
    simp only[vap,vbl]at q9 ⊢
    obtain⟨m',hm,w9⟩:=q9
    exact again I9 hm w9
   |true=>
    simp only[vbm]at q9 ⊢
    refine thn (he _ _ _ _ _ s9 σ8 H9 _ I9 q9) λy s10 hq0=>?_
    obtain⟨vy,H10,I10,ry,hD10,hz,m',hm,w10⟩:=hq0
    refine thn (zif _ s10 σ8 H10 (.ref s.heap.objs.size) [vy] (.ref s.heap.objs.size) [y] (λv H'=>H'=upd H10 s.heap.objs.size (.lst (ys++[vy]))) I10 rfl (.cons ry .nil) ⟨_,ys,vy,rfl,rfl,hD10,hz,rfl⟩) λ_ s11 hq0=>?_
    obtain⟨v11,H11,I11,_,e11⟩:=hq0
    subst e11
    exact again I11 hm w10
 have J3':Inv (X.comp (ow++fr) scope s3.heap.objs.size s3 (upd H1 s.heap.objs.size (.lst [])) fp) [] (cσ ow fr ix σ) (upd H1 s.heap.objs.size (.lst [])) {s with heap:=h₁,toks:=s.toks}:=by
  rw[<-hS3]at J3 ⊢
  exact J3
 exact codeAny_compStart_list (loop _ J3' st3) (T.self _ 0 _ _ _ st3 (loop _ J3' st3))
theorem pe_lc(S:CompScope X ow fr ix scope)(hc:X.calm=true)(hi:PI X tg iter wi)
 (hg:∀C s₀ H₀ ex,PG (X.comp (ow++fr) scope C s₀ H₀ ex) tg g) (ht:∀C s₀ H₀ ex,PTs (X.comp (ow++fr) scope C s₀ H₀ ex) ifs tc) (he:∀C s₀ H₀ ex,PE (X.comp (ow++fr) scope C s₀ H₀ ex) elt te)
 (hs:∀x,foldedSetIterable iter X.env x=pure x:=by intro _;rfl):PE X (.ListComp elt [⟨tg,iter,ifs,0⟩] scope pos) (tLC X.K (cσ ow fr ix) wi g tc te):=by
 intro pins s σ H Q I h
 rw[eval_ListComp]
 refine wpAny_comprehension_free (use:=none) rfl hs (zc5 λy hy e=>I.ok.has _ (S.free y hy e)) S.kind S.names (thn (hi pins s σ H _ I h) λv s1 h1=>thn h1 λitv s2 h2=>?_)
 exact zf1 (RR:=λacc C=>compPost (model X.prog X.w) X.A X.xe none (EP X pins σ Q) acc C) S hc hg ht he h2 λD C H' s' m _ hn hI q=>⟨m,hn,λh'' hs''=>⟨.ref D,H',hI h'' hs'',rfl,q⟩⟩
theorem zqn{i:Nat}{y:Str}{py spos:Pos}(hN:X.N.Nodup)(hiy:X.N[i]?=some y)(hy:Loc X.env.scope y)(S:CompScope X ow fr ix scope)(hc:X.calm=true)(hi:PI X tg iter wi)
 (hg:∀C s₀ H₀ ex,PG (X.comp (ow++fr) scope C s₀ H₀ ex) tg g) (ht:∀C s₀ H₀ ex,PTs (X.comp (ow++fr) scope C s₀ H₀ ex) ifs tc) (he:∀C s₀ H₀ ex,PE (X.comp (ow++fr) scope C s₀ H₀ ex) elt te)
 (hsw:swapsWith (.ListComp elt [⟨tg,iter,ifs,0⟩] scope pos) (some (.Name y py)) spos.line X.env=pure true:=by rfl)
 (hf:X.fn y=true\/X.env.scope.names.lookup y=some .local:=by first|exact .inl rfl|exact .inr rfl|assumption)
 (hs:∀x,foldedSetIterable iter X.env x=pure x:=by intro _;rfl):PS X (.Assign [.Name y py] (.ListComp elt [⟨tg,iter,ifs,0⟩] scope pos) spos) (tAsg (tLC X.K (cσ ow fr ix) wi g tc te) (gName i)):=by
 intro pins s σ H D I h
 rw[exec_Assign_Name_used _ _ _ _ hsw]
 refine vaa (vep (vaa ?_))
 show wpAny _ X.A (do let _ <-comprehension (.ListComp elt [⟨tg,iter,ifs,0⟩] scope pos) scope X.env _ (newList []) false (eval iter X.env) (some (assign (.Name y py) X.env))) _ _ s
 refine vaa (vdf (wpAny_comprehension_free (use:=some (assign (.Name y py) X.env)) (Q:=λ_ s'=>SP X pins D .next s') rfl hs (zc5 λy hy e=>I.ok.has _ (S.free y hy e)) S.kind S.names
  (thn (hi pins s σ H _ I h) λv s1 h1=>thn h1 λitv s2 h2=>?_)) (λ_ s' hq=>vag (vag hq)) λ_ _ e=>e)
 refine zf1 (Q:=λx H1=>gName i x σ H1 D.nx) (RR:=λacc C=>compPost (model X.prog X.w) X.A X.xe (some (assign (.Name y py) X.env)) (λ_ s'=>SP X pins D .next s') acc C) S hc hg ht he h2 λd C H' s' m hC hn hI q=>?_
 show wpAny _ X.A (assign (.Name y py) X.env (.ref d)) _ _ _
 have I':Inv X pins σ H' s':=by
  have z:=hI s'.heap (.refl ..)
  exact z
 refine wpAny_assign_Name (zhz I' hN hiy hy (v:=.ref d) rfl (λs'' I'' ⟨a,hsb,ha⟩=>?_) hf)
 obtain⟨c0,c1,c2,c3,c4,c5⟩:=hC
 have hCa:C≠a:=by
  rcases ha with rfl|ha
  .exact c1
  .exact λz=>c4 _ _ ha z.symm
 refine⟨m,hn.sameBut hsb hCa,λh'' hs''=>⟨_,H',I''.turned (t':=s''.toks) (it:=C) (λb o hb e=>(hs''.2 b hb).trans e) c0 c1 c3 c4 c5,q⟩⟩
end
end L2
set_option maxHeartbeats 4000000
namespace L2
open PySem PySem.Spec PyProof.Rows
mutual
inductive Rp(K:PySem.W.Frag)(M:Addr->Prop)(H:Hp):V->PyData->Prop
 |non:Rp K M H .non .none
 |bl (b:Bool):Rp K M H (.bl b) (.bool b)
 |int (i:Int):Rp K M H (.int i) (.int i)
 |str (x:Str):Rp K M H (.str x) (.str x)
 |tup {a:Addr} {xs:List V} {ds:List PyData}:SqT K H a xs->¬M a->Rps K M H xs ds->Rp K M H (.ref a) (.tuple ds)
 |lst {a:Addr} {xs:List V} {ds:List PyData}:SqL K H a xs->¬M a->Rps K M H xs ds->Rp K M H (.ref a) (.list ds)
inductive Rps(K:PySem.W.Frag)(M:Addr->Prop)(H:Hp):List V->List PyData->Prop
 |nil:Rps K M H [] []
 |cons {x:V} {d:PyData} {xs:List V} {ds:List PyData}:Rp K M H x d->Rps K M H xs ds->Rps K M H (x::xs) (d::ds)
end
section
variable{X:Cx}{pins:List (Addr×Obj)}{σ:St}{H:Hp}{s:Shared}{M:Addr->Prop}
mutual
theorem Rp.reads(I:Inv X pins σ H s):∀{x:V} {d:PyData} {u:Value},Rp X.K M H x d->RelV x u->∃as,Reads s.heap u d as
 |_,_,_,.non,r=>by cases r;exact⟨_,.none⟩
 |_,_,_,.bl b,r=>by cases r;exact⟨_,.bool b⟩
 |_,_,_,.int i,r=>by obtain⟨t,rfl⟩:=r;exact⟨_,.int i t⟩
 |_,_,_,.str x,r=>by obtain⟨t,rfl⟩:=r;exact⟨_,.str x t⟩
 |_,_,_,.tup h n rr,r=>by
  cases r
  obtain⟨its,rv,p,_⟩:=I.tuple h
  obtain⟨o,ho,hc,m,hd⟩:=p
  obtain⟨as,ra⟩:=Rps.reads I rr rv
  exact⟨_,.tuple ho hc hd (by simpa using ra)⟩
 |_,_,_,.lst h n rr,r=>by
  cases r
  obtain⟨its,rv,p,_⟩:=I.list h
  obtain⟨o,m,ho,hc,_,hd⟩:=p
  obtain⟨as,ra⟩:=Rps.reads I rr rv
  exact⟨_,.list ho hc hd (by simpa using ra)⟩
theorem Rps.reads(I:Inv X pins σ H s):∀{xs:List V} {ds:List PyData} {us:List Value},Rps X.K M H xs ds->Vals xs us->∃as,ReadsAll s.heap us ds as
 |_,_,_,.nil,.nil=>⟨_,.nil⟩
 |_,_,_,.cons r t,.cons q v=>by
  obtain⟨as,h1⟩:=Rp.reads I r q
  obtain⟨bs,h2⟩:=Rps.reads I t v
  exact⟨_,.cons h1 h2⟩
end
noncomputable def rEqD(K:PySem.W.Frag):R2:=λx y H Q=>∃d e,Rp K (λ_=>False) H x d/\Rp K (λ_=>False) H y e/\SeqAt.shaped d=true/\SeqAt.shaped e=true/\Q (.bl (PyData.eqv d e)) H
noncomputable def rNeD(K:PySem.W.Frag):R2:=λx y H Q=>∃d e,Rp K (λ_=>False) H x d/\Rp K (λ_=>False) H y e/\SeqAt.shaped d=true/\SeqAt.shaped e=true/\Q (.bl (!PyData.eqv d e)) H
theorem zw0(hu:X.A.units+64<cLine):OpR X (compareOp .Eq) (rEqD X.K):=by
 intro pins s σ H x y v u Q I rx ry h
 obtain⟨d,e,r1,r2,s1,s2,q⟩:=h
 obtain⟨as,ra⟩:=r1.reads I rx
 obtain⟨bs,rb⟩:=r2.reads I ry
 exact PyProof.Rows.eq_dataH ra rb s1 s2 hu ⟨.bl _,H,I,rfl,q⟩
theorem zw1(hu:X.A.units+64<cLine):OpR X (compareOp .NotEq) (rNeD X.K):=by
 intro pins s σ H x y v u Q I rx ry h
 obtain⟨d,e,r1,r2,s1,s2,q⟩:=h
 obtain⟨as,ra⟩:=r1.reads I rx
 obtain⟨bs,rb⟩:=r2.reads I ry
 exact PyProof.Rows.ne_dataH ra rb s1 s2 hu ⟨.bl _,H,I,rfl,q⟩
end
section
variable{prog:Program}{w:World}{A:Around}{E:Value->Shared->Prop}{s:Shared}
theorem zf2{I t:Addr}{k:Nat}{its:Array Value}{Q:Value->Shared->Prop}(hi:s.heap.IsTupleIter I t k)(ht:s.heap.IsTuple t its)(hy:its[k]?=some y)
 (q:∀g,g.IsTupleIter I t (k+1)->Heap.SameBut I s.heap g->Q y {s with heap:=g}):wpAny (model prog w) A (Builtin.SmallTypes.nextOf (.ref I)) Q E s:=by
 obtain⟨oi,e1,e2,e3⟩:=id hi
 obtain⟨ot,e4,_,kt,e5⟩:=ht
 unfold Builtin.SmallTypes.nextOf
 refine vaa (vbr (name:=Str.ofString "__next__") hi.typeIs vcy (vb6 vcy hi.typeIs F.entry_tuple_iterator_next ?_ (F.args_tuple_iterator_next_1 _)))
 show wpAny _ _ (field (.ref I) 0 >>= _) _ _ s
 refine vaa (vbw e1 e3 (x:=.ref t) rfl ?_)
 show wpAny _ _ (if(Value.ref t==Value.none)=true then _ else _) _ _ s
 rw[if_neg (show ¬((Value.ref t==Value.none)=true)from λz=>nomatch z)]
 show wpAny _ _ (field (.ref I) 1 >>= _) _ _ s
 refine vaa (vbw e1 e3 (x:=.int k 0) rfl ?_)
 show wpAny _ _ (seqItems? (.ref t) >>= _) _ _ s
 refine vaa (vcj e4 e5 ?_)
 simp only[vb9,hy]
 refine vaa (wpAny_setField e1 e3 (by simp) (vag ⟨y,rfl,vag (q _ ?_ (Heap.SameBut.update ..))⟩))
 refine⟨_,Heap.get?_update_self _ e1 (Obj.isFreed_of_fields (Obj.data_mapFields e3 _)),(Obj.cls_mapFields ..).trans e2,?_⟩
 rw[Obj.data_mapFields e3]
 simp[rawInt]
theorem ze3{I t:Addr}{k:Nat}{its:Array Value}{Q:Value->Shared->Prop}(hA:A.handled=none)(hi:s.heap.IsTupleIter I t k)(ht:s.heap.IsTuple t its)(hy:its[k]?=none)
 (q:∀g e,Heap.ExtBut I s.heap g->(∃o,g.get? e=some o/\o.cls=.type "StopIteration")->E (.ref e) {s with heap:=g}):wpAny (model prog w) A (Builtin.SmallTypes.nextOf (.ref I)) Q E s:=by
 obtain⟨oi,e1,e2,e3⟩:=id hi
 obtain⟨ot,e4,_,kt,e5⟩:=ht
 unfold Builtin.SmallTypes.nextOf
 refine vaa (vbr (name:=Str.ofString "__next__") hi.typeIs vcy (vb6 vcy hi.typeIs F.entry_tuple_iterator_next ?_ (F.args_tuple_iterator_next_1 _)))
 show wpAny _ _ (field (.ref I) 0 >>= _) _ _ s
 refine vaa (vbw e1 e3 (x:=.ref t) rfl ?_)
 show wpAny _ _ (if(Value.ref t==Value.none)=true then _ else _) _ _ s
 rw[if_neg (show ¬((Value.ref t==Value.none)=true)from λz=>nomatch z)]
 show wpAny _ _ (field (.ref I) 1 >>= _) _ _ s
 refine vaa (vbw e1 e3 (x:=.int k 0) rfl ?_)
 show wpAny _ _ (seqItems? (.ref t) >>= _) _ _ s
 refine vaa (vcj e4 e5 ?_)
 simp only[vb9,hy]
 refine vaa (veo (vaa (wpAny_setField e1 e3 (by simp) ?_)))
 show wpAny _ _ (newExc (.type "StopIteration") [] >>= _) _ _ _
 refine vaa ?_
 simp only[newExc,newTuple]
 refine vaa (vbu ?_ (by size_fits))
 refine vaa (m:=firstArgMember _ _) (wpAny_of_eq (a:=Value.none) (by first|rfl|(simp only[firstArgMember];rfl)) ?_)
 refine vbu ?_ (by size_fits)
 simp only[raiseNew]
 refine vaa (wpAny_handled ?_)
 first|rw[show A.in1.handled=none from hA]|rw[hA]
 refine vaa (vag (wpAny_throw ?_))
 exact q _ _ (((Heap.SameBut.update ..).extBut.push _).push _) ⟨_,va2 _ rfl,rfl⟩
end
theorem zku{h h':Heap}{a:Addr}{its:Array Value}(x:h.IsTuple a its)(e:∀o,h.get? a=some o->h'.get? a=some o):h'.IsTuple a its:=let⟨o,ho,r⟩:=x;⟨o,e _ ho,r⟩
theorem zw2{prog:Program}{w:World}{A:Around}(hA:A.handled=none)(I t:Addr)(hne:t≠I)(its:Array Value) :
 Draws prog w A I [I,t] its.size (λi v=>its[i]?=some v) (λi h=>h.IsTupleIter I t i/\h.IsTuple t its)where
 live:=λ_ _ st=>let⟨o,ho,_⟩:=st.1;⟨o,ho⟩
 frame:=λ_ _ _ st hk=>⟨st.1.at λo e=>hk I (by simp) o e,zku st.2 λo e=>hk t (by simp) o e⟩
 item:=λi s Q E hi st q=>zf2 st.1 st.2 (y:=its[i]) (by simp[hi]) λg a b=>q _ g s.toks (by simp[hi]) ⟨a,st.2.extBut b.extBut hne⟩ b
 done:=λs Q E st q=>ze3 hA st.1 st.2 (by simp) q
theorem zjt(l:Addr)(its:Array Value)(n:Nat)(dc:Option Addr)(sl:Array (Option Value)) :
 Meets (Builtin.«enumerate.__new__» ⟨[.type "enumerate",.ref l],[]⟩) (λ_ R s=>s.heap.get? l=some {cls:=.type "tuple",dict:=dc,data:=.seq its n,slots:=sl}/\
  R (.ok (.ret (.ref (s.heap.push {cls:=.type "tuple_iterator",data:=.fields #[.ref l,.int 0 0]}).objs.size)))
   {s with heap:=(s.heap.push {cls:=.type "tuple_iterator",data:=.fields #[.ref l,.int 0 0]}).push {cls:=.type "enumerate",data:=.fields #[.none,.bool false,.ref s.heap.objs.size,rawInt 0,.none,.none]}}):=
 .of_wp λprog w A R s h=>by
  obtain⟨hp,g,d,tk,os⟩:=s
  obtain⟨e,h⟩:=h
  have hsub:=sub_enumerate
  have hT:Heap.IsTuple (Shared.heap ⟨hp,g,d,tk,os⟩) l its:=⟨_,e,rfl,n,rfl⟩
  wp_walk using vba e
  refine wpAny_stack_any λst=>vag ?_
  split
  .rename_i c _ _ _ _ _
   cases(c==Value.type "enumerate")<;> (wp_walk using vba e,vco hT;exact⟨_,rfl,h⟩)
  .wp_walk using vba e,vco hT
   exact⟨_,rfl,h⟩
theorem zl8{prog:Program}{w:World}{A:Around}{E:Value->Shared->Prop}{l:Addr}{its:Array Value}{Q:Value->Shared->Prop}(hL:s.heap.IsTuple l its)
 (h:∀g,IsEnum g (s.heap.objs.size+1) s.heap.objs.size 0 .none->g.IsTupleIter s.heap.objs.size l 0->g.objs.size=s.heap.objs.size+2->(∀b o,s.heap.get? b=some o->g.get? b=some o)->Q (.ref (s.heap.objs.size+1)) {s with heap:=g}) :
 wpAny (model prog w) A (call (.type "enumerate") [.ref l]) Q E s:=by
 obtain⟨⟨c,dc,dt,sl⟩,e1,e2,n,e3⟩:=hL
 replace e2:c=.type "tuple":=e2
 replace e3:dt=.seq its n:=e3
 subst e2 e3
 refine callType_new F.called_enumerate (by decide) (F.typeCall_enumerate_1 _) (F.newCall_enumerate_1 _) (λobj=>F.args_object_init_2 obj _) F.entry_enumerate_new (zjt l its n dc sl) ⟨e1,?_⟩
 have hz:(s.heap.push {cls:=.type "tuple_iterator",data:=.fields #[.ref l,.int 0 0]}).objs.size=s.heap.objs.size+1:=vct ..
 show _/\_
 rw[hz]
 have he:IsEnum ((s.heap.push {cls:=.type "tuple_iterator",data:=.fields #[.ref l,.int 0 0]}).push {cls:=.type "enumerate",data:=.fields #[.none,.bool false,.ref s.heap.objs.size,rawInt 0,.none,.none]}) (s.heap.objs.size+1) s.heap.objs.size 0 .none:=by
  rw[<-hz]
  exact va2 _ rfl
 exact⟨⟨_,he,rfl⟩,h _ he ⟨_,vae _ (va2 _ rfl),rfl,rfl⟩ (by rw[vct,hz]) λb o x=>vae _ (vae _ x)⟩
noncomputable def IteT(K:PySem.W.Frag)(a:Addr):It:=
 ⟨λi H=>∃xs x,SqT K H a xs/\xs[i]?=some x,λi H x H'=>∃T v,x=.ref T/\H T=none/\H'=upd H T (.tup [.int i,v])/\∀xs,SqT K H a xs->xs[i]?=some v,λi H=>∃xs,SqT K H a xs/\xs.length<=i⟩
theorem zl9{P:Program}{w:World}{K:PySem.W.Frag}{elts:List Expr}{kx:Nat}{tp:Pos}(a e it:Addr)(hei:e≠it)(hae:a≠e)(hai:a≠it) :
 Turn P w K (.Tuple elts kx tp) (IteT K a) [e,it] e (λi h=>(∃old,IsEnum h e it i old)/\h.IsTupleIter it a i)where
 mem:=by simp
 obj:=λi h st b hb=>by
  obtain⟨⟨old,he⟩,o,ho,hc,hd⟩:=st
  rcases vax.mp hb with rfl|hb
  .exact⟨_,he,λv z=>by
    have z':Data.fields _=Data.cell v:=z
    cases z'⟩
  .have e':b=it:=by simpa using hb
   subst e'
   exact⟨o,ho,λv z=>by rw[hd]at z;cases z⟩
 keep:=λi h h' st k=>by
  obtain⟨⟨old,he⟩,st⟩:=st
  exact⟨⟨old,k e (by simp) _ he⟩,st.at λo q=>k it (by simp) o q⟩
 item:=by
  intro X hP hw hK hc i pins s σ H E I hf st hg
  subst hP hw hK
  obtain⟨xs,x,hq,hx⟩:=hg
  obtain⟨⟨old,he⟩,st⟩:=st
  obtain⟨its,rv,p,hz⟩:=I.tuple hq
  obtain⟨u,hu,ru⟩:=rv.get hx
  have hd:X.A.in1.handled=none:=I.ok.hd hc
  have p:s.heap.IsTuple a its.toArray:=p
  refine wpAny_pyNext_enum_itemD (zw2 hd it a hai its.toArray) he ⟨st,p⟩ (by
   have:i<its.length:=by
    rw[<-rv.length]
    exact(va3.mp hx).1
   simpa using this) hei (by simp[hei,vca hae]) λx' h1 tk hx' ho hit hT hsz hk=>?_
  obtain rfl:u=x':=by
   have:its[i]?=some x':=by simpa using hx'
   rw[hu]at this
   cases this;rfl
  refine⟨_,rfl,wpAny_letOwnedTupleGo_enum ho λh2 he2 hs2=>?_⟩
  have hTn:H s.heap.objs.size=none:=I.hok.fresh (vac _)
  have hTe:s.heap.objs.size≠e:=vcl (vay he)
  have hTi:s.heap.objs.size≠it:=by
   obtain⟨o,q,_⟩:=st
   exact vcl (vay q)
  have hs2:Heap.SameBut e h1 h2:=hs2
  have kk:∀b o,b≠e->b≠it->s.heap.get? b=some o->h2.get? b=some o:=λb o h1 h2 q=>(hs2.2 b h1).trans (hk b o h1 h2 q)
  have f0:=λb hb=>(hf b hb).1
  have nE:∀b o,H b=some o->b≠e/\b≠it:=λb o q=>⟨λz=>(by rw[z,f0 e (by simp)]at q;cases q),λz=>(by rw[z,f0 it (by simp)]at q;cases q)⟩
  have hT2:h2.get? s.heap.objs.size=some {cls:=.type "tuple",data:=.seq #[.int i tk,u]}:=(hs2.2 _ hTe).trans hT
  have I2:Inv X pins σ (upd H s.heap.objs.size (.tup [.int i,x])) {s with heap:=h2,gens:=s.gens,drawn:=s.drawn,toks:=tk+1}:=by
   refine I.step (ch:=[e,it]) (λb hb=>?_) (λb o _ _ hc e1 _=>kk b o (λz=>hc (by simp[z])) (λz=>hc (by simp[z])) e1) (λb o _ _ hc e1 _=>⟨o.slots,kk b o (λz=>hc (by simp[z])) (λz=>hc (by simp[z])) e1⟩)
    (λb o hc e1 n=>by rw[zai (vbd (vay e1))];exact n) (λb o hc e1=>⟨o,kk b o (λz=>hc (by simp[z])) (λz=>hc (by simp[z])) e1⟩)
    (λb ys q=>by rw[zai (zae q hTn)];exact q) (λb o u q=>by rw[zai (zae q hTn)];exact q) (λb ps q=>⟨#[],by rw[zai (zae q hTn),q];simp⟩) (λm hm=>?_) (λb ob q=>?_) I.bare
   .obtain⟨_,a1,a2,a3,a4,a5⟩:=hf b hb
    exact⟨a3,a1,a4,a5⟩
   .obtain⟨o,es,ep,ho',r⟩:=hm
    exact⟨o,es,ep,kk _ o (vca (hf e (by simp)).2.1) (vca (hf it (by simp)).2.1) ho',r⟩
   .by_cases hb:b=s.heap.objs.size
    .subst hb
     rw[zat]at q;cases q
     exact⟨by show 2<=sizeLine;decide,[.int i tk,u],.cons ⟨_,rfl⟩ (.cons ru .nil),⟨_,hT2,rfl,⟨_,rfl⟩,rfl⟩⟩
    .rw[zai hb]at q
     refine(I.hok b ob q).stay (λc v hc z=>kk c v ?_ ?_ z) (λc z=>by rw[zai (zae z hTn)];exact z) λc ys z=>by rw[zai (zae z hTn)];exact z
     .rcases hc with rfl|hc
      .exact(nE c ob q).1
      .exact(nE c _ hc).1
     .rcases hc with rfl|hc
      .exact(nE c ob q).2
      .exact(nE c _ hc).2
  refine⟨.ref s.heap.objs.size,_,I2,rfl,⟨_,x,rfl,hTn,rfl,λys hy=>by rw[I.tuple_inj hy hq];exact hx⟩,⟨⟨u,by simpa using he2⟩,hit.1.at λo q=>(hs2.2 it (vca hei)).trans q⟩,λb hb=>?_⟩
  rw[zai ?_]
  .exact f0 b hb
  .rcases vax.mp hb with rfl|hb
   .exact vca hTe
   .have e':b=it:=by simpa using hb
    subst e'
    exact vca hTi
 done:=by
  intro X hP hw hK hc i pins s σ H E I hf st hg
  subst hP hw hK
  obtain⟨xs,hq,hx⟩:=hg
  obtain⟨⟨old,he⟩,st⟩:=st
  obtain⟨its,rv,p,hz⟩:=I.tuple hq
  obtain⟨f0,f1,f2,f3,f4,f5⟩:=hf it (by simp)
  have hl:=rv.length
  have hd:X.A.in1.handled=none:=I.ok.hd hc
  have p:s.heap.IsTuple a its.toArray:=p
  refine PySem.wpAny_pyNext_enum_endD (n:=0) (P:=λ_ _=>True) (St:=λ_ h=>h.IsTupleIter it a i/\h.IsTuple a its.toArray) (fp:=[it,a]) ⟨?_,?_,?_,?_⟩ he ⟨st,p⟩ λh' eb=>⟨rfl,I.turned (t':=s.toks) (λb o hb q=>eb b o hb q) f0 f1 f3 f4 f5⟩
  .exact λ_ _ st=>let⟨o,ho,_⟩:=st.1;⟨o,ho⟩
  .exact λ_ _ _ st hk=>⟨st.1.at λo e=>hk it (by simp) o e,zku st.2 λo e=>hk a (by simp) o e⟩
  .exact λj s' Q' E' hj=>absurd hj (Nat.not_lt_zero _)
  .exact λs' Q' E' st' q'=>ze3 hd st'.1 st'.2 (by simp;omega) q'
 self:=λ_ _ _ _ _ st h=>by
  obtain⟨⟨old,he⟩,_⟩:=st
  exact wpAny_pyIter_enum he h
section
variable{κ:Type}[DecidableEq κ]
noncomputable def valV(kvs:List (κ×V))(k:κ):Option V:=(kvs.find? λkv=>decide (kv.1=k)).map (·.2)
noncomputable def putK(kvs:List (κ×V))(k:κ)(v:V):List (κ×V):=
 if(kvs.any λkv=>decide (kv.1=k))=true then kvs.map (λkv=>if kv.1=k then(kv.1,v)else kv)else kvs++[(k,v)]
theorem zg1{p:κ×V}{r:List (κ×V)}{k:κ}(e:p.1=k):valV (p::r) k=some p.2:=by simp[valV,vbo,e]
theorem zei{p:κ×V}{r:List (κ×V)}{k:κ}(e:¬p.1=k):valV (p::r) k=valV r k:=by simp[valV,vbo,e]
theorem zju(kvs:List (κ×V))(k:κ)(v:V):(putK kvs k v).length<=kvs.length+1:=by
 unfold putK
 split
 .rw[vad];omega
 .rw[vaf,vaj,vcm];omega
theorem KV.val{kvs:List (κ×V)}{vs:List (κ×Value)}(r:KV kvs vs)(k:κ):RelO (valV kvs k) (valueAt vs k):=by
 unfold KV at r
 induction r with
 |nil=>exact True.intro
 | @cons p q ps qs h t ih=>
  obtain⟨h1,h2⟩:=h
  by_cases e:p.1=k
  .have e':q.1=k:=h1.symm.trans e
   have b:valueAt (q::qs) k=some q.2:=by simp[valueAt,vbo,e']
   rw[zg1 e,b];exact h2
  .have e':¬q.1=k:=λz=>e (h1.trans z)
   have b:valueAt (q::qs) k=valueAt qs k:=by simp[valueAt,vbo,e']
   rw[zei e,b];exact ih
theorem KV.any{kvs:List (κ×V)}{vs:List (κ×Value)}(r:KV kvs vs)(k:κ):(kvs.any λkv=>decide (kv.1=k))=vs.any λkv=>decide (kv.1=k):=by
 unfold KV at r
 induction r with
 |nil=>rfl
 |cons h t ih=>rw[veq,veq,ih,h.1]
theorem KV.repl{kvs:List (κ×V)}{vs:List (κ×Value)}(r:KV kvs vs)(k:κ)(ry:RelV y u) :
 KV (kvs.map λkv=>if kv.1=k then(kv.1,y)else kv) (vs.map λkv=>if kv.1=k then(kv.1,u)else kv):=by
 unfold KV at r ⊢
 induction r with
 |nil=>exact .nil
 | @cons p q ps qs h t ih=>
  rw[van,van]
  refine .cons ?_ ih
  obtain⟨h1,h2⟩:=h
  by_cases e:p.1=k
  .rw[if_pos e,if_pos (h1.symm.trans e)];exact⟨h1,ry⟩
  .rw[if_neg e,if_neg (λz=>e (h1.trans z))];exact⟨h1,h2⟩
theorem KV.put{kvs:List (κ×V)}{vs:List (κ×Value)}(r:KV kvs vs)(k:κ)(ry:RelV y u):KV (putK kvs k y) (stored vs k u):=by
 unfold putK stored
 rw[r.any k]
 by_cases e:(vs.any λkv=>decide (kv.1=k))=true
 .rw[if_pos e,if_pos e];exact r.repl k ry
 .rw[if_neg e,if_neg e];exact Paired.snoc r ⟨rfl,ry⟩
end
theorem kV_is{k:Key}(r:RelV (kV k) u):(za6 P w).is k u=true:=by
 cases k with
 |inl i=>obtain⟨t,e⟩:=(show ∃t,u=Value.int i t from r);subst e;exact zjo P w i t
 |inr x=>obtain⟨t,e⟩:=(show ∃t,u=Value.str x t from r);subst e;exact zjp P w x t
theorem zii:∀{ks:List Key} {us:List Value},Vals (ks.map kV) us->ItemsAre (za6 P w) ks us
 |[],_,r=>by rw[vcc]at r;cases r;exact .nil
 |k::ks,_,r=>by
  rw[van]at r
  cases r with
  |cons h t=>exact .cons (kV_is h) (zii t)
noncomputable abbrev KT(H:Hp):List (List Key×V)->List (List Key×Addr×Value)->Prop:=Paired λp q=>p.1=q.1/\H q.2.1=some (.tup (p.1.map kV))/\RelV p.2 q.2.2
theorem KT.val{kvs:List (List Key×V)}{xs:List (List Key×Addr×Value)}(r:KT H kvs xs)(k:List Key):RelO (valV kvs k) ((atKey xs k).map (·.2)):=by
 induction r with
 |nil=>exact True.intro
 | @cons p q ps qs h t ih=>
  obtain⟨h1,_,h2⟩:=h
  by_cases e:p.1=k
  .have e':q.1=k:=h1.symm.trans e
   have b:atKey (q::qs) k=some q.2:=by simp[atKey,vbo,e']
   rw[zg1 e,b];exact h2
  .have e':¬q.1=k:=λz=>e (h1.trans z)
   have b:atKey (q::qs) k=atKey qs k:=by simp[atKey,vbo,e']
   rw[zei e,b];exact ih
section
variable{P:Program}{w:World}{H:Hp}{h:Heap}{a:Addr}
theorem rd_of(ok:HOk P w H h)(e:Rd H a u):ObjOk P w H h a u:=e.ok ok
theorem dk_rd{kvs:List (Key×V)}(ok:HOk P w H h)(e:Rd H a (.dK kvs)):kvs.length<=sizeLine/\(a==sysModules)=false/\∃vs,KV kvs vs/\h.DictOf (za6 P w) a vs:=
 show ObjOk P w H h a (.dK kvs)from rd_of ok e
theorem dk_of{kvs:List (Key×V)}(ok:HOk P w H h)(e:H a=some (.dK kvs)):kvs.length<=sizeLine/\(a==sysModules)=false/\∃vs,KV kvs vs/\h.DictOf (za6 P w) a vs:=dk_rd ok (.inl e)
theorem zsb{ks:List Key}(ok:HOk P w H h)(e:H a=some (.tup (ks.map kV))):(tupleKind (za6 P w)).is h ks a:=by
 obtain⟨_,its,r,o,h1,h2,⟨n,h3⟩,_⟩:=(show ObjOk P w H h a (.tup (ks.map kV))from ok a _ e)
 exact⟨o,its.toArray,n,h1,h2,h3,by simpa using zii r⟩
theorem dt_rd{kvs:List (List Key×V)}(ok:HOk P w H h)(e:Rd H a (.dT kvs)):kvs.length<=sizeLine/\(a==sysModules)=false/\
 ∃xs,KT H kvs xs/\h.DictOfH (tupleKind (za6 P w)) a xs:=by
 obtain⟨z,y,xs,r,o,es,ep,h1,h2,h3,h4,h5⟩:=(show ObjOk P w H h a (.dT kvs)from rd_of ok e)
 refine⟨z,y,xs,r,o,es,ep,h1,h2,h3,h4,λx hx=>?_,h5⟩
 have all:∀{l:List (List Key×V)}{m:List (List Key×Addr×Value)},KT H l m->∀x∈m,(tupleKind (za6 P w)).is h x.1 x.2.1:=by
  intro l m q
  induction q with
  |nil=>intro x hx;exact nomatch hx
  | @cons p q ps qs hq t ih=>
   intro x hx
   rcases vax.mp hx with e|hx
   .subst e
    exact zsb ok (by rw[<-hq.1];exact hq.2.1)
   .exact ih x hx
 exact all r x hx
end
noncomputable def DGet(H:Hp)(a:Addr)(y:V)(r:Option V):Prop:=
 (∃kvs k,Rd H a (.dK kvs)/\y=kV k/\r=valV kvs k)\/∃kvs k b,Rd H a (.dT kvs)/\y=.ref b/\H b=some (.tup (k.map kV))/\r=valV kvs k
section
variable{X:Cx}{pins:List (Addr×Obj)}{σ:St}{H:Hp}{s:Shared}{a:Addr}{y v:V}{u r:Value}{o:Option V}{A:Around}{E:Value->Shared->Prop}
theorem Inv.big(I:Inv X pins σ H s):sysModules<s.heap.objs.size:=by
 have h:mainGlobals<s.heap.objs.size:=(I.mod.glob.keeps I.bk).lt
 exact Nat.lt_trans (by decide) h
theorem znm(hu:A.units+1<cLine)(I:Inv X pins σ H s)(g:DGet H a y (some v))(ry:RelV y u)(h:∀w' s',Inv X pins σ H s'->RelV v w'->Q w' s') :
 wpAny (model X.prog X.w) A (getItem (.ref a) u) Q E s:=by
 rcases g with⟨kvs,k,e,ey,l⟩|⟨kvs,k,b,e,ey,eb,l⟩
 .subst ey
  obtain⟨z,hd,vs,rel,dd⟩:=dk_rd I.hok e
  obtain⟨w',hw,rw'⟩:=RelO.some_of (v:=v) (o:=valueAt vs k) (by rw[l];exact rel.val k)
  exact wpAny_getItem_of (kV_is ry) dd.mapOf hw (h w' _ (I.tok _) rw')
 .subst ey
  cases(show u=Value.ref b from ry)
  obtain⟨z,hd,xs,rel,dd⟩:=dt_rd I.hok e
  obtain⟨w',hw,rw'⟩:=RelO.some_of (v:=v) (o:=(atKey xs k).map (·.2)) (by rw[l];exact rel.val k)
  obtain⟨p,hp,hp2⟩:=Option.map_eq_some_iff.mp hw
  refine wpAny_getItem_heap (tupleKind_room_in1 hu) (zsb I.hok eb) dd hp ?_
  rw[hp2]
  exact h w' _ (I.tok _) rw'
theorem zjv{t':Nat}(I:Inv X pins σ H s)(mu:Mut (H a))(hs:Heap.SameBut a s.heap h')(he:∃q,h'.get? a=some q)(new:ObjOk X.prog X.w (upd H a ob) h' a ob) :
 Inv X pins σ (upd H a ob) {s with heap:=h',toks:=t'}:=
 I.write (x:=a) (e:=a) mu (.inl rfl) (λb q hb z=>(hs.2 b hb).trans z) he new
theorem zw3{H':Hp}{kvs:List (Key×V)}{vs:List (Key×Value)}(z:kvs.length<=sizeLine)(hd:(a==sysModules)=false)(rel:KV kvs vs)(dd:h'.DictOf (za6 P w) a vs) :
 ObjOk P w H' h' a (.dK kvs):=⟨z,hd,vs,rel,dd⟩
end
theorem zjw{σ:St}{a:Addr}{o:Option V}(I:Inv X pins σ H s)(g:DGet H a y o):s.TypeIs (.ref a) "dict":=by
 rcases g with⟨kvs,k,e,_,_⟩|⟨kvs,k,b,e,_,_,_⟩
 .obtain⟨_,_,vs,_,dd⟩:=dk_rd I.hok e
  exact dd.typeIs
 .obtain⟨_,_,xs,_,dd⟩:=dt_rd I.hok e
  exact dd.typeIs
theorem zkv(h:Heap)(hb:sysModules<h.objs.size):ObjOk P w H (h.push {cls:=.type "dict",data:=.dict #[]}) h.objs.size (.dK []):=
 ⟨vbk _,beq_eq_false_iff_ne.mpr (vca (vbd hb)),[],.nil,Heap.DictOf.new h⟩
noncomputable def zw4:TE:=λ_ H Q=>∀p,H p=none->Q (.ref p) (upd H p (.dK []))
section
variable{X:Cx}{pos:Pos}
theorem zqo:PE X (.Dict [] [] pos) zw4:=λpins s σ H Q I h=>
 wpAny_Dict_empty ⟨.ref s.heap.objs.size,_,I.laid (a:=s.heap.objs.size) (o:=.dK []) (t':=s.toks) (λ_ _ q=>vae _ q) (vac _) (zkv s.heap I.big),rfl,h _ (I.hok.fresh (vac _))⟩
end
noncomputable def zkw:List (TE×TE)->St->Hp->(List (V×V)->Hp->Prop)->Prop
 |[],_,H,Q=>Q [] H
 |(tk,tv)::r,σ,H,Q=>tk σ H λx H1=>tv σ H1 λy H2=>zkw r σ H2 λps H3=>Q ((x,y)::ps) H3
noncomputable abbrev VV:List (V×V)->List (Value×Value)->Prop:=Paired λp q=>RelV p.1 q.1/\RelV p.2 q.2
noncomputable def PPs(X:Cx)(pos:Pos)(keys:List (Option Expr))(values:List Expr)(trs:List (TE×TE)):Prop:=
 ∀(pins:List (Addr×Obj))(s:Shared)(σ:St)(H:Hp)(Q:List (V×V)->Hp->Prop),Inv X pins σ H s->zkw trs σ H Q->
  wpAny (model X.prog X.w) X.A (evalPairs (pairTrees keys values X.env pos)) (λvs s'=>∃ps H',Inv X pins σ H' s'/\VV ps vs/\Q ps H') X.xe s
theorem zt8:PPs X pos [] [] []:=λpins s σ H Q I h=>pairTrees_nil_walk ⟨[],H,I,.nil,h⟩
theorem zqp{ks:List (Option Expr)}{trs:List (TE×TE)}(hk:PE X k tk)(hv:PE X v tv)(hr:PPs X pos ks vs trs) :
 PPs X pos (some k::ks) (v::vs) ((tk,tv)::trs):=λpins s σ H Q I h=>
 pairTrees_cons_walk (thn (hk pins s σ H _ I h) λu s1 z9=>z9.el λx H1 I1 rx q1=>thn (hv pins s1 σ H1 _ I1 q1) λw2 s2 z9=>z9.el λy H2 I2 ry q2=>
  thn (hr pins s2 σ H2 _ I2 q2) λws s3 ⟨ps,H3,I3,rel,q3⟩=>⟨(x,y)::ps,H3,I3,.cons ⟨rx,ry⟩ rel,q3⟩)
noncomputable def zd8(kvs more:List (Key×V)):List (Key×V):=more.foldl (λacc kv=>putK acc kv.1 kv.2) kvs
theorem KV.merge:∀{more:List (Key×V)} {rs:List (Key×Value)} {kvs:List (Key×V)} {vs:List (Key×Value)},KV more rs->KV kvs vs->KV (zd8 kvs more) (merged vs rs):=by
 intro more rs kvs vs r
 unfold KV at r
 induction r generalizing kvs vs with
 |nil=>intro q;exact q
 | @cons p q ps qs h t ih=>
  intro r0
  have e:KV (putK kvs p.1 p.2) (stored vs q.1 q.2):=by
   have:=r0.put p.1 h.2
   rw[<-h.1];exact this
  exact ih e
theorem zc6:∀(more kvs:List (Key×V)),(zd8 kvs more).length<=kvs.length+more.length
 |[],kvs=>by show kvs.length<=kvs.length+0;omega
 |p::r,kvs=>by
  have h1:=zc6 r (putK kvs p.1 p.2)
  have h2:=zju kvs p.1 p.2
  show(zd8 (putK kvs p.1 p.2) r).length<=_
  rw[vaj];omega
theorem zf3:∀{kvs:List (Key×V)} {ws:List (Value×Value)},VV (kvs.map λkv=>(kV kv.1,kv.2)) ws->∃rs,Carries (za6 P w) ws rs/\KV kvs rs
 |[],_,r=>by rw[vcc]at r;cases r;exact⟨[],True.intro,.nil⟩
 |p::kvs,_,r=>by
  rw[van]at r
  cases r with
  | @cons a b as bs h t=>
   obtain⟨rs,c,q⟩:=zf3 (P:=P) (w:=w) t
   obtain⟨b1,b2⟩:=b
   exact⟨(p.1,b2)::rs,⟨kV_is h.1,rfl,c⟩,.cons ⟨rfl,h.2⟩ q⟩
theorem zg2:fillsNumberSlot (.type "tuple") "mul" = pure false:=
 PySem.fillsNumberSlot_seq (id:="tuple.__mul__") (r:=some (.builtin "tuple.__rmul__")) vdv.lookup (by decide +kernel) F.slot_tuple_rmul.lookup (by decide +kernel)
theorem znn:seqRepeat? (.type "tuple")=pure (some (.builtin "tuple.__mul__")):=by
 unfold seqRepeat?
 rw[PySem.seqSlot_of (T:="tuple") (name:="__mul__") (id:="tuple.__mul__") vdv.lookup (by decide +kernel),PySem.seqSlot_of (T:="tuple") (name:="__rmul__") (id:="tuple.__rmul__") F.slot_tuple_rmul.lookup (by decide +kernel)]
 rfl
theorem zqq(k:Int)(t:Tok)(l:Addr)(its:Array Value)(n:Nat)(dd:Option Addr)(sl:Array (Option Value)) :
 Meets (Builtin.«int.__rmul__» ⟨[.int k t,.ref l],[]⟩) (λ_ R s=>s.heap.get? l=some {cls:=.type "tuple",dict:=dd,data:=.seq its n,slots:=sl}/\R (.ok (.ret Value.notImplemented)) s):=
 .of_wp λprog w A R s h=>by
  obtain⟨hp,g,d,tk,os⟩:=s
  obtain⟨e,h⟩:=h
  wp_walk using vba e
  exact⟨_,rfl,h⟩
theorem zqr(l:Addr)(its:Array Value)(n:Nat)(dd:Option Addr)(sl:Array (Option Value))(k:Int)(t:Tok)(h1:¬(decide (k < -(2 ^ 63))||decide (k>=2 ^ 63))=true)(h2:(its.isEmpty||k==1)=true) :
 Meets (Builtin.«tuple.__mul__» ⟨[.ref l,.int k t],[]⟩) (λ_ R s=>s.heap.get? l=some {cls:=.type "tuple",dict:=dd,data:=.seq its n,slots:=sl}/\R (.ok (.ret (.ref l))) s):=
 .of_wp λprog w A R s h=>by
  obtain⟨hp,g,d,tk,os⟩:=s
  obtain⟨e,h⟩:=h
  have f1:=AutoSeq1.idx_int
  wp_walk using vba e
  refine wpAny_ite ?_
  rw[if_neg h1]
  wp_walk using vba e
  exact⟨_,rfl,h⟩
theorem zqs(l:Addr)(its:Array Value)(n:Nat)(dd:Option Addr)(sl:Array (Option Value))(k:Int)(t:Tok)(h1:¬(decide (k < -(2 ^ 63))||decide (k>=2 ^ 63))=true)(h2:¬(its.isEmpty||k==1)=true)(h3:(decide (k<=0)||its.isEmpty)=true) :
 Meets (Builtin.«tuple.__mul__» ⟨[.ref l,.int k t],[]⟩) (λ_ R s=>s.heap.get? l=some {cls:=.type "tuple",dict:=dd,data:=.seq its n,slots:=sl}/\R (.ok (.ret (.ref s.heap.objs.size))) {s with heap:=s.heap.push {cls:=.type "tuple",data:=.seq #[]}}):=
 .of_wp λprog w A R s h=>by
  obtain⟨hp,g,d,tk,os⟩:=s
  obtain⟨e,h⟩:=h
  have f1:=AutoSeq1.idx_int
  wp_walk using vba e
  refine wpAny_ite ?_
  rw[if_neg h1]
  wp_walk using vba e
  exact⟨_,rfl,h⟩
theorem zqt(l:Addr)(its:Array Value)(n:Nat)(dd:Option Addr)(sl:Array (Option Value))(k:Int)(t:Tok)(h1:¬(decide (k < -(2 ^ 63))||decide (k>=2 ^ 63))=true)(h2:¬(its.isEmpty||k==1)=true)(h3:¬(decide (k<=0)||its.isEmpty)=true)
 (h4:¬(its.size*k> (2 ^ 63-1)/8)) (h5:¬Builtin.Tuple.tupleTooMany (its.size*k)=true) (h6:((List.replicate k.toNat its).foldl (· ++ ·) #[]).size<=sizeLine) :
 Meets (Builtin.«tuple.__mul__» ⟨[.ref l,.int k t],[]⟩) (λ_ R s=>s.heap.get? l=some {cls:=.type "tuple",dict:=dd,data:=.seq its n,slots:=sl}/\R (.ok (.ret (.ref s.heap.objs.size))) {s with heap:=s.heap.push {cls:=.type "tuple",data:=.seq ((List.replicate k.toNat its).foldl (· ++ ·) #[])}}):=
 .of_wp λprog w A R s h=>by
  obtain⟨hp,g,d,tk,os⟩:=s
  obtain⟨e,h⟩:=h
  have f1:=AutoSeq1.idx_int
  wp_walk using vba e
  refine wpAny_ite ?_
  rw[if_neg h1]
  wp_walk using vba e
  refine wpAny_ite ?_
  rw[if_neg h4]
  wp_walk using vba e
  exact⟨_,rfl,h⟩
section
variable{X:Cx}
noncomputable def rRepT(K:PySem.W.Frag):R2:=λx y H Q=>∃a k xs,x=.ref a/\y=.int k/\SqT K H a xs/\-(2 ^ 62)<=k/\k<2 ^ 62/\xs.length*k.toNat<=sizeLine/\
 ((xs.isEmpty||k==1)=true->Q (.ref a) H)/\((xs.isEmpty||k==1)=false->∀p,H p=none->Q (.ref p) (upd H p (.tup (List.replicate k.toNat xs).flatten)))
theorem ze4(r:Vals xs us):us.toArray.isEmpty=xs.isEmpty:=by
 cases r<;>rfl
theorem zt9:OpR X (binaryOp .Mult) (rRepT X.K):=by
 intro pins s σ H x y v u Q I rx ry h
 obtain⟨a,k,xs,rfl,rfl,ha,k1,k2,hz,q1,q2⟩:=h
 cases rx
 obtain⟨t,rfl⟩:=ry
 obtain⟨its,r,p,_⟩:=I.tuple ha
 obtain⟨⟨c,dd,dt,sl⟩,e1,e2,n,e3⟩:=p
 replace e2:c=.type "tuple":=e2
 replace e3:dt=.seq its.toArray n:=e3
 subst e2 e3
 have hl:xs.length=its.length:=r.length
 have h1:¬(decide (k < -(2 ^ 63))||decide (k>=2 ^ 63))=true:=by
  simp only[vcn,va0]
  omega
 refine wpAny_binaryOp_repeat_ref (T:="tuple") (U:="int") (by decide) ⟨_,e1,rfl⟩ (λs'=>typeIs_int s' k t) zg2 F.fills_int_mul F.slot_int_rmul znn F.slot_int_index.lookup
  (ven F.slot_int_rmul (typeIs_int s k t) F.entry_int_rmul (F.args_int_rmul_2 _ _) (zqq k t a its.toArray n dd sl) ⟨e1,rfl,⟨_,e1,rfl⟩,?_⟩)
 by_cases h2:(its.toArray.isEmpty||k==1)=true
 .refine ven vdv ⟨_,e1,rfl⟩ F.entry_tuple_mul (F.args_tuple_mul_2 _ _) (zqr a its.toArray n dd sl k t h1 h2) ⟨e1,?_⟩
  exact⟨.ref a,H,I,rfl,q1 (by rw[<-ze4 r];exact h2)⟩
 .have q2:=q2 (by rw[<-ze4 r];simpa using h2)
  by_cases h3:(decide (k<=0)||its.toArray.isEmpty)=true
  .have hk:k.toNat=0:=by
    have:its.toArray.isEmpty=false:=by
     cases q:its.toArray.isEmpty with
     |false=>rfl
     |true=>rw[q]at h2;exact absurd rfl h2
    rw[this,Bool.or_false,va0]at h3
    omega
   refine ven vdv ⟨_,e1,rfl⟩ F.entry_tuple_mul (F.args_tuple_mul_2 _ _) (zqs a its.toArray n dd sl k t h1 h2 h3) ⟨e1,?_⟩
   rw[hk]at q2
   exact⟨.ref s.heap.objs.size,_,I.laid (t':=s.toks) (o:=.tup []) (λb ob q=>vae _ q) (vac _) ⟨vbk _,[],.nil,zbj.new _ _⟩,rfl,q2 _ (I.hok.fresh (vac _))⟩
  .have hk:0<k:=by
    simp only[vcn,va0,not_or]at h3
    omega
   have hkn:((k.toNat:Nat):Int)=k:=Int.toNat_of_nonneg (by omega)
   have hmul:(its.toArray.size:Int)*k=((xs.length*k.toNat:Nat):Int):=by
    rw[vao,<-hl,Int.natCast_mul,hkn]
   have hsl:(sizeLine:Nat)=16777216:=rfl
   have fl:(List.replicate k.toNat its.toArray).foldl (· ++ ·) #[]=(List.replicate k.toNat its).flatten.toArray:=by
    have:=zie its k.toNat []
    rw[vb4]at this
    exact this
   refine ven vdv ⟨_,e1,rfl⟩ F.entry_tuple_mul (F.args_tuple_mul_2 _ _) (zqt a its.toArray n dd sl k t h1 h2 h3 (by rw[hmul];omega) (by
    unfold Builtin.Tuple.tupleTooMany
    rw[hmul,va0]
    omega) (by rw[fl,vao,znh,Nat.mul_comm,<-hl];exact hz)) ⟨e1,?_⟩
   rw[fl]
   exact⟨.ref s.heap.objs.size,_,I.laid (t':=s.toks) (o:=.tup (List.replicate k.toNat xs).flatten) (λb ob q=>vae _ q) (vac _) ⟨by rw[znh,Nat.mul_comm];exact hz,_,r.rep k.toNat,zbj.new _ _⟩,rfl,q2 _ (I.hok.fresh (vac _))⟩
noncomputable def zsc(K:PySem.W.Frag):R2:=λx y H Q=>∃a b ys,x=.ref a/\y=.ref b/\SqT K H a []/\SqT K H b ys/\Q (.ref b) H
theorem zqu:OpR X (binaryOp .Add) (zsc X.K):=by
 intro pins s σ H x y v u Q I rx ry h
 obtain⟨a,b,ys,rfl,rfl,ha,hb,q⟩:=h
 cases rx
 cases ry
 obtain⟨its,r1,p1,_⟩:=I.tuple ha
 obtain⟨its2,r2,p2,_⟩:=I.tuple hb
 cases r1
 obtain⟨⟨c,dd,dt,sl⟩,e1,e2,n,e3⟩:=p1
 obtain⟨⟨c2,dd2,dt2,sl2⟩,f1,f2,n2,f3⟩:=p2
 replace e2:c=.type "tuple":=e2
 replace e3:dt=.seq ([]:List Value).toArray n:=e3
 replace f2:c2=.type "tuple":=f2
 replace f3:dt2=.seq its2.toArray n2:=f3
 subst e2 e3 f2 f3
 exact concat_meets ⟨_,e1,rfl⟩ ⟨_,f1,rfl⟩ noFill_tuple_add seq_tuple_add PySem.F.slot_tuple_add PySem.F.entry_tuple_add (PySem.F.args_tuple_add_2 _ _) (tuple_addW0 a b ([]:List Value).toArray its2.toArray n n2 dd dd2 sl sl2 rfl) ⟨e1,f1,⟨.ref b,H,I,rfl,q⟩⟩
noncomputable def anyEq(ds:List PyData)(d:PyData):Bool:=ds.any λe=>PyData.eqv e d
noncomputable def rInD(K:PySem.W.Frag)(neg:Bool):R2:=λx y H Q=>∃p xs ds d,y=.ref p/\(SqL K H p xs\/SqT K H p xs)/\Rps K (λ_=>False) H xs ds/\Rp K (λ_=>False) H x d/\ds.all SeqAt.shaped=true/\SeqAt.shaped d=true/\Q (.bl (if neg then !anyEq ds d else anyEq ds d)) H
theorem zb9:∀{us:List Value} {ds:List PyData} {as:List Addr} {i:Nat} {u:Value},ReadsAll h us ds as->us[i]?=some u->∃d bs,ds[i]?=some d/\Reads h u d bs
 |_,_,_,i,u,.nil,e=>by simp at e
 |_,_,_,0,u,.cons r _,e=>by simp at e;subst e;exact⟨_,_,rfl,r⟩
 |_,_,_,i+1,u,.cons _ rs,e=>by
  obtain⟨d,bs,h1,h2⟩:=zb9 rs (by simpa using e)
  exact⟨d,bs,by simpa using h1,h2⟩
open Classical in
noncomputable def eqOf(us:List Value)(ds:List PyData)(d:PyData)(u:Value):Bool:=decide (∃(i:Nat) (e:PyData),us[i]?=some u/\ds[i]?=some e/\PyData.eqv e d=true)
open Classical in
theorem zej:eqOf us ds d u=true↔∃(i:Nat) (e:PyData),us[i]?=some u/\ds[i]?=some e/\PyData.eqv e d=true:=by
 unfold eqOf
 exact decide_eq_true_iff
theorem zek{us:List Value}{ds:List PyData}{d:PyData}(hl:us.length=ds.length):us.any (eqOf us ds d)=anyEq ds d:=by
 cases q:anyEq ds d with
 |true=>
  unfold anyEq at q
  rw[List.any_eq_true]at q
  obtain⟨e,h1,h2⟩:=q
  obtain⟨i,hi,h3⟩:=List.mem_iff_getElem.mp h1
  rw[List.any_eq_true]
  refine⟨us[i]'(by omega),vcd _,?_⟩
  rw[zej]
  exact⟨i,e,by simp,by rw[vav hi,h3],h2⟩
 |false=>
  unfold anyEq at q
  rw[List.any_eq_false]at q ⊢
  intro u hu z
  rw[zej]at z
  obtain⟨i,e,h1,h2,h3⟩:=z
  exact q e (vcb h2) h3
theorem zca:∀{us:List Value} {ds:List PyData} {as:List Addr},ReadsAll h us ds as->us.length=ds.length
 |_,_,_,.nil=>rfl
 |_,_,_,.cons _ r=>by rw[vaj,vaj,zca r]
theorem zg3{as bs:List Addr}(hu:A.units+64<cLine)(ra:ReadsAll s.heap us ds as)(rb:Reads s.heap v d bs)(s1:ds.all SeqAt.shaped=true)(s2:SeqAt.shaped d=true) :
 ∀u∈us,SeqAt.EqAt A s u v (eqOf us ds d u):=by
 intro u hm
 have sh:∀(i:Nat)(e:PyData),ds[i]?=some e->SeqAt.shaped e=true:=λi e q=>vbp.mp s1 e (vcb q)
 cases q:eqOf us ds d u with
 |true=>
  rw[zej]at q
  obtain⟨i,e,h1,h2,h3⟩:=q
  obtain⟨e',cs,h4,h5⟩:=zb9 ra h1
  rw[h2]at h4;cases h4
  have:=SeqAt.eqAt_reads e d A s u v cs bs h5 rb (vdi (sh i e h2)) (vdi s2) (SeqAt.room_of_shaped (sh i e h2) hu)
  rw[h3]at this;exact this
 |false=>
  obtain⟨i,hi,h1⟩:=List.mem_iff_getElem.mp hm
  have h1:us[i]?=some u:=by rw[vav hi,h1]
  obtain⟨e,cs,h4,h5⟩:=zb9 ra h1
  have h3:PyData.eqv e d=false:=by
   cases z:PyData.eqv e d with
   |false=>rfl
   |true=>
    rw[zej.mpr ⟨i,e,h1,h4,z⟩]at q
    cases q
  have:=SeqAt.eqAt_reads e d A s u v cs bs h5 rb (vdi (sh i e h4)) (vdi s2) (SeqAt.room_of_shaped (sh i e h4) hu)
  rw[h3]at this;exact this
theorem zw5(hu:X.A.in1.units+64<cLine):OpR X (compareOp .In) (rInD X.K false):=by
 intro pins s σ H x y v u Q I rx ry h
 obtain⟨p,xs,ds,d,rfl,hq,r1,r2,s1,s2,q⟩:=h
 cases ry
 obtain⟨bs,rb⟩:=r2.reads I rx
 rcases hq with hq|hq
 .obtain⟨its,r,pl,hz⟩:=I.list hq
  obtain⟨as,ra⟩:=r1.reads I r
  refine SeqAt.in_listAt (eqOf its ds d) pl.isList (λw hw=>zg3 hu ra rb s1 s2 w (by simpa using hw)) ⟨.bl _,H,I,rfl,?_⟩
  rw[show its.toArray.any (eqOf its ds d)=its.any (eqOf its ds d) by simp,zek (zca ra)]
  exact q
 .obtain⟨its,r,pl,hz⟩:=I.tuple hq
  obtain⟨as,ra⟩:=r1.reads I r
  refine SeqAt.in_tupleAt (eqOf its ds d) pl (λw hw=>zg3 hu ra rb s1 s2 w (by simpa using hw)) ⟨.bl _,H,I,rfl,?_⟩
  rw[show its.toArray.any (eqOf its ds d)=its.any (eqOf its ds d) by simp,zek (zca ra)]
  exact q
theorem zno(hu:X.A.in1.units+64<cLine):OpR X (compareOp .NotIn) (rInD X.K true):=by
 intro pins s σ H x y v u Q I rx ry h
 obtain⟨p,xs,ds,d,rfl,hq,r1,r2,s1,s2,q⟩:=h
 cases ry
 obtain⟨bs,rb⟩:=r2.reads I rx
 rcases hq with hq|hq
 .obtain⟨its,r,pl,hz⟩:=I.list hq
  obtain⟨as,ra⟩:=r1.reads I r
  refine SeqAt.notIn_listAt (eqOf its ds d) pl.isList (λw hw=>zg3 hu ra rb s1 s2 w (by simpa using hw)) ⟨.bl _,H,I,rfl,?_⟩
  rw[show its.toArray.any (eqOf its ds d)=its.any (eqOf its ds d) by simp,zek (zca ra)]
  exact q
 .obtain⟨its,r,pl,hz⟩:=I.tuple hq
  obtain⟨as,ra⟩:=r1.reads I r
  refine SeqAt.notIn_tupleAt (eqOf its ds d) pl (λw hw=>zg3 hu ra rb s1 s2 w (by simpa using hw)) ⟨.bl _,H,I,rfl,?_⟩
  rw[show its.toArray.any (eqOf its ds d)=its.any (eqOf its ds d) by simp,zek (zca ra)]
  exact q
end
end L2
namespace HT
open PySem PySem.Spec PyProof.Rows
section
variable{prog:Program}{w:World}{A:Around}{E:Value->Shared->Prop}{s:Shared}
theorem getItem_tuple_whole{t sl:Addr}{items:Array Value}{lo hi:Option Int}{Q:Value->Shared->Prop}(ht:IsTup s.heap t items)(hs:s.heap.IsSliceOf sl vl vu .none)(pl:IsPart vl lo)(pu:IsPart vu hi)
 (hw:sIx items.size 0 lo=0/\sIx items.size items.size hi=items.size)
 (h:Q (.ref t) s):wpAny (model prog w) A (getItem (.ref t) (.ref sl)) Q E s:=by
 obtain⟨os,hos,hcs,hds⟩:=id hs
 have hTs:s.TypeIs (.ref sl) "slice":=⟨os,hos,hcs⟩
 unfold getItem
 try with_reducible refine vc1 ?_
 first|refine vaa (vag ?_)|skip
 refine vaa (wpAny_sequenceKey ht.typeIs (by decide) ?_)
 refine vaa (vbr (name:=Str.ofString "__getitem__") ht.typeIs va7
  (vb6 va7 ht.typeIs entry_tuple_getitem ?_ (args_tuple_getitem _ _)))
 show wpAny _ _ (Builtin.Tuple.tupleItemsOf (.ref t) >>= _) _ _ s
 refine vaa (tupleItemsOf_ ht ?_)
 refine vaa (vet hTs ?_)
 rw[if_pos (by decide)]
 refine vaa (zb6 hs pl pu ?_)
 have hyes:((((sIx items.size 0 lo:Nat):Int)==0&& (1:Int)==1&& (sIx items.size items.size hi-sIx items.size 0 lo)==items.size)=true):=by
  rw[hw.1,hw.2];simp
 show wpAny _ _ (if(((sIx items.size 0 lo:Nat):Int)==0&& (1:Int)==1&& (sIx items.size items.size hi-sIx items.size 0 lo)==items.size)=true then _ else _) _ _ s
 rw[if_pos hyes]
 unfold Builtin.Tuple.tupleIsExact
 refine vaa (vaa (vet ht.typeIs (vag ?_)))
 rw[if_pos (by decide)]
 refine vaa (veo ?_)
 exact vag ⟨_,rfl,vag h⟩
end
end HT
namespace L2
open PySem PySem.Spec PyProof.Rows
variable{X:Cx}
noncomputable def rSlW(K:PySem.W.Frag):V->Option Int->Option Int->Hp->VK->Prop:=λx lo hi H Q=>∃a xs,x=.ref a/\SqT K H a xs/\
 (HT.sIx xs.length 0 lo=0/\HT.sIx xs.length xs.length hi=xs.length)/\Q (.ref a) H
theorem zua:SlR X (rSlW X.K):=by
 intro pins s σ H x v vl vu lo hi sl Q I rx hs pl pu h
 obtain⟨a,xs,rfl,hx,hw,q⟩:=h
 cases rx
 obtain⟨its,r,ht,hz⟩:=I.tuple hx
 have hlen:its.toArray.size=xs.length:=by rw[vao];exact r.length.symm
 refine⟨"tuple",_,va7.lookup,ht.typeIs,?_⟩
 refine HT.getItem_tuple_whole ht hs pl pu (by rw[hlen];exact hw) ?_
 exact⟨.ref a,_,I,rfl,q⟩
noncomputable def rSlA(K:PySem.W.Frag):V->Option Int->Option Int->Hp->VK->Prop:=λx lo hi H Q=>(rSlT K x lo hi H Q\/rSlW K x lo hi H Q)\/rSlL K x lo hi H Q
theorem zw6:SlR X (rSlA X.K):=(zwv.or zua).or zt1
noncomputable def ZI(b:Bool)(h:Heap)(I l:Addr)(k:Nat):Prop:=match b with|true=>h.IsTupleIter I l k|false=>h.IsListIter I l k
noncomputable def ZS(b:Bool)(h:Heap)(l:Addr)(xs:Array Value):Prop:=match b with|true=>h.IsTuple l xs|false=>h.IsList l xs
noncomputable def zName(b:Bool):String:=match b with|true=>"tuple_iterator" |false=>"list_iterator"
noncomputable def zIt(b:Bool)(l:Addr):Obj:={cls:=.type (zName b),data:=.fields #[.ref l,.int 0 0]}
theorem ZI.ex{b:Bool}{I l c:Addr}{k:Nat}(x:ZI b h I l k)(s:Heap.ExtBut c h h')(n:I≠c):ZI b h' I l k:=by
 cases b
 .exact Heap.IsListIter.extBut x s n
 .exact Heap.IsTupleIter.extBut x s n
theorem ZS.ex{b:Bool}{l c:Addr}{xs:Array Value}(x:ZS b h l xs)(s:Heap.ExtBut c h h')(n:l≠c):ZS b h' l xs:=by
 cases b
 .exact Heap.IsList.extBut x s n
 .exact Heap.IsTuple.extBut x s n
theorem ZI.mv{b:Bool}{I l:Addr}{k:Nat}(x:ZI b h I l k)(e:∀o,h.get? I=some o->h'.get? I=some o):ZI b h' I l k:=by
 cases b
 .exact Heap.IsListIter.at x e
 .exact Heap.IsTupleIter.at x e
theorem ZI.ob{b:Bool}{I l:Addr}{k:Nat}(x:ZI b h I l k):∃o,h.get? I=some o/\∀v,o.data≠.cell v:=by
 cases b
 .obtain⟨o,h1,h2,h3⟩:=x;exact⟨o,h1,λv z=>by rw[h3]at z;cases z⟩
 .obtain⟨o,h1,h2,h3⟩:=x;exact⟨o,h1,λv z=>by rw[h3]at z;cases z⟩
theorem ZS.lt{b:Bool}{l:Addr}{xs:Array Value}(x:ZS b h l xs):l<h.objs.size:=by
 cases b<;> (obtain⟨o,h1,_⟩:=x;exact vay h1)
theorem ZS.push{b:Bool}{l:Addr}{xs:Array Value}(x:ZS b h l xs)(o:Obj):ZS b (h.push o) l xs:=by
 cases b
 .exact Heap.IsList.push x o
 .exact Heap.IsTuple.push x o
section
variable{prog:Program}{w:World}{A:Around}{E:Value->Shared->Prop}{s:Shared}
theorem znp{b:Bool}{I l:Addr}{k:Nat}{xs:Array Value}{Q:Value->Shared->Prop}(hi:ZI b s.heap I l k)(hl:ZS b s.heap l xs)(hy:xs[k]?=some y)
 (q:∀g,ZI b g I l (k+1)->Heap.SameBut I s.heap g->Q y {s with heap:=g}):wpAny (model prog w) A (Builtin.SmallTypes.nextOf (.ref I)) Q E s:=by
 cases b
 .exact wpAny_nextOf_list_item hi hl hy q
 .exact zf2 hi hl hy q
theorem z_end{b:Bool}{I l:Addr}{k:Nat}{xs:Array Value}{Q:Value->Shared->Prop}(hA:A.handled=none)(hi:ZI b s.heap I l k)(hl:ZS b s.heap l xs)(hy:xs[k]?=none)
 (q:∀g e,Heap.ExtBut I s.heap g->(∃o,g.get? e=some o/\o.cls=.type "StopIteration")->E (.ref e) {s with heap:=g}):wpAny (model prog w) A (Builtin.SmallTypes.nextOf (.ref I)) Q E s:=by
 cases b
 .exact wpAny_nextOf_list_end hA hi hl hy q
 .exact ze3 hA hi hl hy q
structure ZA(z TI TO i1 i2 l1 l2:Addr):Prop where
 a1:TI≠z/\TO≠z/\i1≠z/\i2≠z
 a2:TI≠TO/\TI≠i1/\TI≠i2/\TO≠i1/\TO≠i2/\i1≠i2
 a3:l1≠z/\l1≠TO/\l1≠i1/\l1≠i2
 a4:l2≠z/\l2≠TO/\l2≠i1/\l2≠i2
theorem zw7{n l1 l2:Nat}(h1:l1<n)(h2:l2<n):ZA (n+4) (n+2) (n+3) n (n+1) l1 l2:=by
 have e:∀{a b:Nat},(a<b\/b<a)->a≠b:=λh=>h.elim vbd vcl
 refine⟨⟨?_,?_,?_,?_⟩,⟨?_,?_,?_,?_,?_,?_⟩,⟨?_,?_,?_,?_⟩,?_,?_,?_,?_⟩<;>exact e (by omega)
theorem zub{b c:Bool}{z TI TO i1 i2 l1 l2:Addr}{k:Nat}{xs ys:Array Value}{x y p q:Value}{Q:Value->Shared->Prop}(D:ZA z TI TO i1 i2 l1 l2)
 (hz:IsZip s.heap z TI TO .none) (hTI:IsPair s.heap TI (.ref i1) (.ref i2)) (hTO:IsPair s.heap TO p q)
 (h1:ZI b s.heap i1 l1 k) (h2:ZI c s.heap i2 l2 k) (hl1:ZS b s.heap l1 xs) (hl2:ZS c s.heap l2 ys) (hx:xs[k]?=some x) (hy:ys[k]?=some y)
 (hQ:∀h',IsZip h' z TI TO (rawInt s.heap.objs.size)->IsPair h' TO x y->ZI b h' i1 l1 (k+1)->ZI c h' i2 l2 (k+1)->IsPair h' s.heap.objs.size x y->h'.objs.size=s.heap.objs.size+1->
   (∀c o,c≠z->c≠TO->c≠i1->c≠i2->s.heap.get? c=some o->h'.get? c=some o)->Q (.ref s.heap.objs.size) {s with heap:=h'}) :
 wpAny (model prog w) A (Builtin.«zip.__next__» ⟨[.ref z],[]⟩) (λfin s'=>∃v,fin=.done (.ret v)/\Q v s') E s:=by
 obtain⟨⟨d1,d2,d3,d4⟩,⟨d5,d6,d7,d8,d9,d10⟩,⟨d11,d12,d13,d14⟩,d15,d16,d17,d18⟩:=D
 show wpAny _ _ (field (.ref z) 2 >>= _) _ _ _;refine vaa (vbw hz rfl (x:=.bool false) rfl ?_)
 show wpAny _ _ (field (.ref z) 3 >>= _) _ _ _;refine vaa (vbw hz rfl (x:=.ref TI) rfl (vaa (vcj hTI rfl ?_)))
 show wpAny _ _ (Builtin.SmallTypes.ownedTupleIsFree (.ref z) >>= _) _ _ _;refine vaa ?_;unfold Builtin.SmallTypes.ownedTupleIsFree
 refine vaa (vbw hz rfl (x:=.none) rfl (vag ?_));simp only[vbm]
 refine vaa (veo (vaa (vbw hz rfl (x:=.ref TO) rfl (vaa (vc2 hz (by simp) λg1 z1 s1=>?_)))))
 replace z1:IsZip g1 z TI TO .ellipsis:=z1
 refine vaa ?_;simp only[List.zipIdx_cons,List.zipIdx_nil,vdm,vdg]
 refine vaa (vaa (ver ?_));show wpAny _ _ (Builtin.SmallTypes.nextOf (.ref i1) >>= _) _ _ _
 refine vaa (znp (h1.ex s1.extBut d3) (hl1.ex s1.extBut d11) hx λg2 y1 s2=>vag ?_)
 have t2:IsPair g2 TO p q:=s2.extBut _ _ d8 (s1.extBut _ _ d2 hTO)
 refine vaa (vcj t2 rfl (vaa (wpAny_updateSeq_pair t2 λg3 t3 s3=>?_)))
 replace t3:IsPair g3 TO x q:=t3
 refine vaa (vew (vag (vaa (vaa (ver ?_)))));show wpAny _ _ (Builtin.SmallTypes.nextOf (.ref i2) >>= _) _ _ _
 refine vaa (znp (((h2.ex s1.extBut d4).ex s2.extBut (vca d10)).ex s3.extBut (vca d9)) (((hl2.ex s1.extBut d15).ex s2.extBut d17).ex s3.extBut d16) hy λg4 y2 s4=>vag ?_)
 have t4:IsPair g4 TO x q:=s4.extBut _ _ d9 t3
 refine vaa (vcj t4 rfl (vaa (wpAny_updateSeq_pair t4 λg5 t5 s5=>?_)))
 replace t5:IsPair g5 TO x y:=t5
 refine vaa (vew (vag (vag (vaa (vcj t5 rfl (vaa (wpAny_newTuple ?_)))))))
 have hsz:g5.objs.size=s.heap.objs.size:=by rw[s5.1,s4.1,s3.1,s2.1,s1.1]
 have z5:IsZip g5 z TI TO .ellipsis:=s5.extBut _ _ (vca d2) (s4.extBut _ _ (vca d4) (s3.extBut _ _ (vca d2) (s2.extBut _ _ (vca d3) z1)))
 have k5:∀c o,c≠z->c≠TO->c≠i1->c≠i2->s.heap.get? c=some o->g5.get? c=some o:=λc o c1 c2 c3 c4 e=>s5.extBut _ _ c2 (s4.extBut _ _ c4 (s3.extBut _ _ c2 (s2.extBut _ _ c3 (s1.extBut _ _ c1 e))))
 have i15:ZI b g5 i1 l1 (k+1):=((y1.ex s3.extBut (vca d8)).ex s4.extBut d10).ex s5.extBut (vca d8)
 have i25:ZI c g5 i2 l2 (k+1):=y2.ex s5.extBut (vca d9)
 have zlt:z<g5.objs.size:=vay z5
 show wpAny _ _ (Builtin.SmallTypes.ownedTupleHandOut (.ref z) (.ref g5.objs.size) >>= _) _ _ _;refine vaa ?_;unfold Builtin.SmallTypes.ownedTupleHandOut
 have z6:IsZip (g5.push {cls:=.type "tuple",data:=.seq #[x,y]}) z TI TO .ellipsis:=vae _ z5
 refine vaa (vc2 z6 (by simp) λg7 z7 s7=>?_)
 replace z7:IsZip g7 z TI TO (rawInt g5.objs.size):=z7
 refine vc2 z7 (by simp) λg8 z8 s8=>?_
 replace z8:IsZip g8 z TI TO (rawInt g5.objs.size):=z8
 have up:∀c o,c≠z->g5.get? c=some o->g8.get? c=some o:=λc o c1 e=>s8.extBut _ _ c1 (s7.extBut _ _ c1 (vae _ e))
 have p8:IsPair g8 g5.objs.size x y:=s8.extBut _ _ (vcl zlt) (s7.extBut _ _ (vcl zlt) (va2 _ rfl))
 have n8:g8.objs.size=g5.objs.size+1:=by rw[s8.1,s7.1,vct]
 rw[hsz]at z8 p8 n8
 refine vag ⟨_,rfl,?_⟩;show Q (.ref g5.objs.size) _;rw[hsz]
 exact hQ g8 z8 (up _ _ d2 t5) (i15.mv λo e=>up _ o d3 e) (i25.mv λo e=>up _ o d4 e) p8 n8 λc o c1 c2 c3 c4 e=>up c o c1 (k5 c o c1 c2 c3 c4 e)
theorem zw8{b c:Bool}{z TI TO i1 i2 l1 l2:Addr}{k:Nat}{xs ys:Array Value}{p q:Value}{Q:Fin->Shared->Prop}(hA:A.handled=none)(D:ZA z TI TO i1 i2 l1 l2)
 (hz:IsZip s.heap z TI TO .none) (hTI:IsPair s.heap TI (.ref i1) (.ref i2)) (hTO:IsPair s.heap TO p q)
 (h1:ZI b s.heap i1 l1 k) (h2:ZI c s.heap i2 l2 k) (hl1:ZS b s.heap l1 xs) (hl2:ZS c s.heap l2 ys) (he:xs[k]?=none\/ys[k]?=none)
 (hE:∀h' e,(∀c o,c≠z->c≠TO->c≠i1->c≠i2->s.heap.get? c=some o->h'.get? c=some o)->(∃o,h'.get? e=some o/\o.cls=.type "StopIteration")->E (.ref e) {s with heap:=h'}) :
 wpAny (model prog w) A (Builtin.«zip.__next__» ⟨[.ref z],[]⟩) Q E s:=by
 obtain⟨⟨d1,d2,d3,d4⟩,⟨d5,d6,d7,d8,d9,d10⟩,⟨d11,d12,d13,d14⟩,d15,d16,d17,d18⟩:=D
 show wpAny _ _ (field (.ref z) 2 >>= _) _ _ _;refine vaa (vbw hz rfl (x:=.bool false) rfl ?_)
 show wpAny _ _ (field (.ref z) 3 >>= _) _ _ _;refine vaa (vbw hz rfl (x:=.ref TI) rfl (vaa (vcj hTI rfl ?_)))
 show wpAny _ _ (Builtin.SmallTypes.ownedTupleIsFree (.ref z) >>= _) _ _ _;refine vaa ?_;unfold Builtin.SmallTypes.ownedTupleIsFree
 refine vaa (vbw hz rfl (x:=.none) rfl (vag ?_));simp only[vbm]
 refine vaa (veo (vaa (vbw hz rfl (x:=.ref TO) rfl (vaa (vc2 hz (by simp) λg1 z1 s1=>?_)))))
 replace z1:IsZip g1 z TI TO .ellipsis:=z1
 refine vaa ?_;simp only[List.zipIdx_cons,List.zipIdx_nil,vdm,vdg]
 refine vaa (vaa (ver ?_));show wpAny _ _ (Builtin.SmallTypes.nextOf (.ref i1) >>= _) _ _ _
 cases hx:xs[k]? with
 |none=>
  refine vaa (z_end hA (h1.ex s1.extBut d3) (hl1.ex s1.extBut d11) hx λg2 e s2 hs=>?_)
  obtain⟨oe,hoe,hce⟩:=hs
  have z2:IsZip g2 z TI TO .ellipsis:=s2 _ _ (vca d3) z1
  have nez:e≠z:=λx=>by subst x;rw[z2]at hoe;cases hoe;simp at hce
  exact vc2 z2 (by simp) λg3 _ s3=>hE g3 e (λc o c1 _ c3 _ x=>s3.extBut _ _ c1 (s2 _ _ c3 (s1.extBut _ _ c1 x))) ⟨oe,s3.extBut _ _ nez hoe,hce⟩
 |some x=>
  have hy:ys[k]?=none:=by rcases he with h|h;rw[hx]at h;cases h;exact h
  refine vaa (znp (h1.ex s1.extBut d3) (hl1.ex s1.extBut d11) hx λg2 y1 s2=>vag ?_)
  have t2:IsPair g2 TO p q:=s2.extBut _ _ d8 (s1.extBut _ _ d2 hTO)
  refine vaa (vcj t2 rfl (vaa (wpAny_updateSeq_pair t2 λg3 t3 s3=>?_)))
  refine vaa (vew (vag (vaa (vaa (ver ?_)))));show wpAny _ _ (Builtin.SmallTypes.nextOf (.ref i2) >>= _) _ _ _
  refine vaa (z_end hA (((h2.ex s1.extBut d4).ex s2.extBut (vca d10)).ex s3.extBut (vca d9)) (((hl2.ex s1.extBut d15).ex s2.extBut d17).ex s3.extBut d16) hy λg4 e s4 hs=>?_)
  obtain⟨oe,hoe,hce⟩:=hs
  have z4:IsZip g4 z TI TO .ellipsis:=s4 _ _ (vca d4) (s3.extBut _ _ (vca d2) (s2.extBut _ _ (vca d3) z1))
  have nez:e≠z:=λx=>by subst x;rw[z4]at hoe;cases hoe;simp at hce
  exact vc2 z4 (by simp) λg5 _ s5=>hE g5 e (λc o c1 c2 c3 c4 x=>s5.extBut _ _ c1 (s4 _ _ c4 (s3.extBut _ _ c2 (s2.extBut _ _ c3 (s1.extBut _ _ c1 x))))) ⟨oe,s5.extBut _ _ nez hoe,hce⟩
theorem zuc{b c:Bool}{z TI TO i1 i2 l1 l2:Addr}{k:Nat}{xs ys:Array Value}{x y p q:Value}{Q:Option Value->Shared->Prop}(D:ZA z TI TO i1 i2 l1 l2)
 (hz:IsZip s.heap z TI TO .none) (hTI:IsPair s.heap TI (.ref i1) (.ref i2)) (hTO:IsPair s.heap TO p q)
 (h1:ZI b s.heap i1 l1 k) (h2:ZI c s.heap i2 l2 k) (hl1:ZS b s.heap l1 xs) (hl2:ZS c s.heap l2 ys) (hx:xs[k]?=some x) (hy:ys[k]?=some y)
 (hQ:∀h',IsZip h' z TI TO (rawInt s.heap.objs.size)->IsPair h' TO x y->ZI b h' i1 l1 (k+1)->ZI c h' i2 l2 (k+1)->IsPair h' s.heap.objs.size x y->h'.objs.size=s.heap.objs.size+1->
   (∀c o,c≠z->c≠TO->c≠i1->c≠i2->s.heap.get? c=some o->h'.get? c=some o)->Q (some (.ref s.heap.objs.size)) {s with heap:=h'}):wpAny (model prog w) A (pyNext (.ref z)) Q E s:=by
 have hT:s.TypeIs (.ref z) "zip":=⟨_,hz,rfl⟩
 unfold pyNext
 exact vaa (wpAny_attempt (vbr (name:=Str.ofString "__next__") hT veh (vb6 veh hT F.entry_zip_next (zub D hz hTI hTO h1 h2 hl1 hl2 hx hy λh' a1 a2 a3 a4 a5 a6 a7=>vag (hQ h' a1 a2 a3 a4 a5 a6 a7)) (F.args_zip_next_1 _))))
theorem zw9{b c:Bool}{z TI TO i1 i2 l1 l2:Addr}{k:Nat}{xs ys:Array Value}{p q:Value}{Q:Option Value->Shared->Prop}(hA:A.in1.handled=none)(D:ZA z TI TO i1 i2 l1 l2)
 (hz:IsZip s.heap z TI TO .none) (hTI:IsPair s.heap TI (.ref i1) (.ref i2)) (hTO:IsPair s.heap TO p q)
 (h1:ZI b s.heap i1 l1 k) (h2:ZI c s.heap i2 l2 k) (hl1:ZS b s.heap l1 xs) (hl2:ZS c s.heap l2 ys) (he:xs[k]?=none\/ys[k]?=none)
 (hQ:∀h',(∀c o,c≠z->c≠TO->c≠i1->c≠i2->s.heap.get? c=some o->h'.get? c=some o)->Q none {s with heap:=h'}):wpAny (model prog w) A (pyNext (.ref z)) Q E s:=by
 have hT:s.TypeIs (.ref z) "zip":=⟨_,hz,rfl⟩
 unfold pyNext
 refine vaa (wpAny_attempt (vbr (name:=Str.ofString "__next__") hT veh (vb6 veh hT F.entry_zip_next (zw8 hA D hz hTI hTO h1 h2 hl1 hl2 he λh' e hk hs=>?_) (F.args_zip_next_1 _))))
 obtain⟨o,ho,hc⟩:=hs
 exact vaa (vec (T:="StopIteration") (b:=true) ⟨o,ho,hc⟩ isSubtype_stop (vag (hQ _ hk)))
noncomputable def zh1(h:Heap)(b:Bool)(l1:Addr):Heap:=h.push (zIt b l1)
noncomputable def zh2(h:Heap)(b c:Bool)(l1 l2:Addr):Heap:=(zh1 h b l1).push (zIt c l2)
noncomputable def zh3(h:Heap)(b c:Bool)(l1 l2:Addr):Heap:=(zh2 h b c l1 l2).push {cls:=.type "tuple",data:=.seq #[.ref h.objs.size,.ref (zh1 h b l1).objs.size]}
noncomputable def zh4(h:Heap)(b c:Bool)(l1 l2:Addr):Heap:=(zh3 h b c l1 l2).push {cls:=.type "tuple",data:=.seq #[.none,.none]}
noncomputable def zh5(h:Heap)(b c:Bool)(l1 l2:Addr):Heap:=(zh4 h b c l1 l2).push {cls:=.type "zip",data:=.fields #[.none,.bool false,.bool false,.ref (zh2 h b c l1 l2).objs.size,.ref (zh3 h b c l1 l2).objs.size]}
theorem zqv(b c:Bool)(l1 l2:Addr)(xs ys:Array Value):Meets (Builtin.«zip.__new__» ⟨[.type "zip",.ref l1,.ref l2],[]⟩) (λ_ R s=>ZS b s.heap l1 xs/\ZS c s.heap l2 ys/\
 R (.ok (.ret (.ref (zh4 s.heap b c l1 l2).objs.size))) {s with heap:=zh5 s.heap b c l1 l2}):=
 .of_wp λprog w A R s h=>by
  obtain⟨hp,g,d,tk,os⟩:=s;obtain⟨m1,m2,h⟩:=h
  have hsub:=sub_zip
  have e1:ZS b (Shared.heap ⟨hp,g,d,tk,os⟩) l1 xs:=m1
  have e2:ZS c (Shared.heap ⟨hp.push (zIt b l1),g,d,tk,os⟩) l2 ys:=m2.push _
  cases b<;>cases c
  .have q1:Heap.IsList (Shared.heap ⟨hp,g,d,tk,os⟩) l1 xs:=e1
   have q2:Heap.IsList (Shared.heap ⟨hp.push {cls:=.type "list_iterator",data:=.fields #[.ref l1,.int 0 0]},g,d,tk,os⟩) l2 ys:=e2
   wp_walk using vc9 q1,vc9 q2
   exact⟨_,rfl,h⟩
  .have q1:Heap.IsList (Shared.heap ⟨hp,g,d,tk,os⟩) l1 xs:=e1
   have q2:Heap.IsTuple (Shared.heap ⟨hp.push {cls:=.type "list_iterator",data:=.fields #[.ref l1,.int 0 0]},g,d,tk,os⟩) l2 ys:=e2
   wp_walk using vc9 q1,vco q2
   exact⟨_,rfl,h⟩
  .have q1:Heap.IsTuple (Shared.heap ⟨hp,g,d,tk,os⟩) l1 xs:=e1
   have q2:Heap.IsList (Shared.heap ⟨hp.push {cls:=.type "tuple_iterator",data:=.fields #[.ref l1,.int 0 0]},g,d,tk,os⟩) l2 ys:=e2
   wp_walk using vco q1,vc9 q2
   exact⟨_,rfl,h⟩
  .have q1:Heap.IsTuple (Shared.heap ⟨hp,g,d,tk,os⟩) l1 xs:=e1
   have q2:Heap.IsTuple (Shared.heap ⟨hp.push {cls:=.type "tuple_iterator",data:=.fields #[.ref l1,.int 0 0]},g,d,tk,os⟩) l2 ys:=e2
   wp_walk using vco q1,vco q2
   exact⟨_,rfl,h⟩
theorem zsd{b:Bool}{l:Addr}{a:Addr}(e:h.get? a=some (zIt b l)):ZI b h a l 0:=by
 cases b<;>exact⟨_,e,rfl,rfl⟩
theorem zud{b c:Bool}{l1 l2:Addr}{xs ys:Array Value}{Q:Value->Shared->Prop}(m1:ZS b s.heap l1 xs)(m2:ZS c s.heap l2 ys)
 (h:∀h',IsZip h' (s.heap.objs.size+4) (s.heap.objs.size+2) (s.heap.objs.size+3) .none->IsPair h' (s.heap.objs.size+2) (.ref s.heap.objs.size) (.ref (s.heap.objs.size+1))->
   IsPair h' (s.heap.objs.size+3) .none .none->ZI b h' s.heap.objs.size l1 0->ZI c h' (s.heap.objs.size+1) l2 0->h'.objs.size=s.heap.objs.size+5->
   (∀c o,s.heap.get? c=some o->h'.get? c=some o)->Q (.ref (s.heap.objs.size+4)) {s with heap:=h'}):wpAny (model prog w) A (call (.type "zip") [.ref l1,.ref l2]) Q E s:=by
 refine callType_new F.called_zip (by decide) (F.typeCall_zip_2 _ _) (F.newCall_zip_2 _ _) (λobj=>F.args_object_init_3 obj _ _) F.entry_zip_new (zqv b c l1 l2 xs ys) ⟨m1,m2,?_⟩
 have n1:(zh1 s.heap b l1).objs.size=s.heap.objs.size+1:=vct ..
 have n2:(zh2 s.heap b c l1 l2).objs.size=s.heap.objs.size+2:=by unfold zh2;rw[vct,n1]
 have n3:(zh3 s.heap b c l1 l2).objs.size=s.heap.objs.size+3:=by unfold zh3;rw[vct,n2]
 have n4:(zh4 s.heap b c l1 l2).objs.size=s.heap.objs.size+4:=by unfold zh4;rw[vct,n3]
 have n5:(zh5 s.heap b c l1 l2).objs.size=s.heap.objs.size+5:=by unfold zh5;rw[vct,n4]
 have g5:(zh5 s.heap b c l1 l2).get? (zh4 s.heap b c l1 l2).objs.size=some _:=va2 _ rfl
 have g4:(zh5 s.heap b c l1 l2).get? (zh3 s.heap b c l1 l2).objs.size=some _:=vae _ (va2 _ rfl)
 have g3:(zh5 s.heap b c l1 l2).get? (zh2 s.heap b c l1 l2).objs.size=some _:=vae _ (vae _ (va2 _ rfl))
 have g2:(zh5 s.heap b c l1 l2).get? (zh1 s.heap b l1).objs.size=some _:=vae _ (vae _ (vae _ (va2 _ rfl)))
 have g1:(zh5 s.heap b c l1 l2).get? s.heap.objs.size=some _:=vae _ (vae _ (vae _ (vae _ (va2 _ rfl))))
 show _/\_
 rw[n2,n3,n4]at g5
 rw[n1,n2]at g3
 rw[n3]at g4
 rw[n1]at g2
 rw[n4]
 exact⟨⟨_,g5,rfl⟩,h _ g5 g3 g4 (zsd g1) (zsd g2) n5 λc o x=>vae _ (vae _ (vae _ (vae _ (vae _ x))))⟩
end
noncomputable def SqB(b:Bool)(K:PySem.W.Frag)(H:Hp)(a:Addr)(xs:List V):Prop:=match b with|true=>SqT K H a xs|false=>SqL K H a xs
theorem zf4{b:Bool}{σ:St}{a:Addr}(I:Inv X pins σ H s)(h:SqB b X.K H a xs):∃its:List Value,Vals xs its/\ZS b s.heap a its.toArray/\xs.length<=sizeLine:=by
 cases b
 .obtain⟨its,r,p,z⟩:=I.list h
  exact⟨its,r,p.isList,z⟩
 .exact I.tuple h
theorem znq{b:Bool}{σ:St}{a:Addr}(I:Inv X pins σ H s)(h:SqB b X.K H a xs)(h':SqB b X.K H a ys):xs=ys:=by
 cases b
 .exact I.list_inj h h'
 .exact I.tuple_inj h h'
noncomputable def IteZ(K:PySem.W.Frag)(b c:Bool)(a1 a2:Addr):It:=
 ⟨λi H=>∃xs ys x y,SqB b K H a1 xs/\SqB c K H a2 ys/\xs[i]?=some x/\ys[i]?=some y,
  λi H v H'=>∃T x y,v=.ref T/\H T=none/\H'=upd H T (.tup [x,y])/\(∀xs,SqB b K H a1 xs->xs[i]?=some x)/\∀ys,SqB c K H a2 ys->ys[i]?=some y,
  λi H=>∃xs ys,SqB b K H a1 xs/\SqB c K H a2 ys/\(xs.length<=i\/ys.length<=i)⟩
theorem Inv.turnedZ{σ:St}{t':Nat}{fp:List Addr}(I:Inv X pins σ H s)(hf:∀b∈fp,FpOk X pins H b)(kk:∀b o,b∉fp->s.heap.get? b=some o->h2.get? b=some o) :
 Inv X pins σ H {s with heap:=h2,toks:=t'}:=by
 have f0:=λb hb=>(hf b hb).1
 have nE:∀b o,H b=some o->b∉fp:=λb o q z=>by rw[f0 b z]at q;cases q
 refine I.step (g':=s.gens) (d':=s.drawn) (ch:=fp) (λb hb=>?_) (λb o _ _ hc e1 _=>kk b o hc e1) (λb o _ _ hc e1 _=>⟨o.slots,kk b o hc e1⟩) (λ_ _ _ _ n=>n) (λb o hc e1=>⟨o,kk b o hc e1⟩)
  (λ_ _ q=>q) (λ_ _ _ q=>q) (λb ps q=>⟨#[],by rw[q];simp⟩) (λm hm=>?_) (λb ob q=>?_) I.bare
 .obtain⟨_,a1,a2,a3,a4,a5⟩:=hf b hb
  exact⟨a3,a1,a4,a5⟩
 .obtain⟨o,es,ep,ho',r⟩:=hm
  exact⟨o,es,ep,kk _ o (λz=>(hf _ z).2.1 rfl) ho',r⟩
 .refine(I.hok b ob q).stay (λc v hc z=>kk c v ?_ z) (λ_ z=>z) λ_ _ z=>z
  rcases hc with rfl|hc
  .exact nE c ob q
  .exact nE c _ hc
theorem Inv.turnedT{σ:St}{fp:List Addr}{xs:List V}{us:List Value}(I:Inv X pins σ H s)(hf:∀b∈fp,FpOk X pins H b)(kk:∀b o,b∉fp->s.heap.get? b=some o->h2.get? b=some o)
 (hT:h2.get? s.heap.objs.size=some {cls:=.type "tuple",data:=.seq us.toArray}) (hv:Vals xs us) (hz:xs.length<=sizeLine):Inv X pins σ (upd H s.heap.objs.size (.tup xs)) {s with heap:=h2}:=by
 have hTn:H s.heap.objs.size=none:=I.hok.fresh (vac _)
 have f0:=λb hb=>(hf b hb).1
 have nE:∀b o,H b=some o->b∉fp:=λb o q z=>by rw[f0 b z]at q;cases q
 refine I.step (g':=s.gens) (d':=s.drawn) (ch:=fp) (λb hb=>?_) (λb o _ _ hc e1 _=>kk b o hc e1) (λb o _ _ hc e1 _=>⟨o.slots,kk b o hc e1⟩) (λb o hc e1 n=>by rw[zai (vbd (vay e1))];exact n) (λb o hc e1=>⟨o,kk b o hc e1⟩)
  (λb ys q=>by rw[zai (zae q hTn)];exact q) (λb o u q=>by rw[zai (zae q hTn)];exact q) (λb ps q=>⟨#[],by rw[zai (zae q hTn),q];simp⟩) (λm hm=>?_) (λb ob q=>?_) I.bare
 .obtain⟨_,a1,a2,a3,a4,a5⟩:=hf b hb
  exact⟨a3,a1,a4,a5⟩
 .obtain⟨o,es,ep,ho',r⟩:=hm
  exact⟨o,es,ep,kk _ o (λz=>(hf _ z).2.1 rfl) ho',r⟩
 .by_cases hb:b=s.heap.objs.size
  .subst hb
   rw[zat]at q;cases q
   exact⟨hz,us,hv,⟨_,hT,rfl,⟨_,rfl⟩,rfl⟩⟩
  .rw[zai hb]at q
   refine(I.hok b ob q).stay (λc v hc z=>kk c v ?_ z) (λc z=>by rw[zai (zae z hTn)];exact z) λc ys z=>by rw[zai (zae z hTn)];exact z
   rcases hc with rfl|hc
   .exact nE c ob q
   .exact nE c _ hc
theorem zqw{P:Program}{w:World}{K:PySem.W.Frag}{elts:List Expr}{kx:Nat}{tp:Pos}{b c:Bool}(a1 a2 z TI TO i1 i2:Addr)(D:ZA z TI TO i1 i2 a1 a2) :
 Turn P w K (.Tuple elts kx tp) (IteZ K b c a1 a2) [z,TI,TO,i1,i2] z (λi h=>IsZip h z TI TO .none/\IsPair h TI (.ref i1) (.ref i2)/\(∃p q,IsPair h TO p q)/\ZI b h i1 a1 i/\ZI c h i2 a2 i)where
 mem:=by simp
 obj:=λi h st d hd=>by
  obtain⟨hz,hTI,⟨p,q,hTO⟩,h1,h2⟩:=st
  simp only[vax,vbq,vdw]at hd
  rcases hd with rfl|rfl|rfl|rfl|rfl
  .exact⟨_,hz,λv z=>by
    have z':Data.fields _=Data.cell v:=z
    cases z'⟩
  .exact⟨_,hTI,λv z=>by
    have z':Data.seq _ _=Data.cell v:=z
    cases z'⟩
  .exact⟨_,hTO,λv z=>by
    have z':Data.seq _ _=Data.cell v:=z
    cases z'⟩
  .exact h1.ob
  .exact h2.ob
 keep:=λi h h' st k=>by
  obtain⟨hz,hTI,⟨p,q,hTO⟩,h1,h2⟩:=st
  exact⟨k z (by simp) _ hz,k TI (by simp) _ hTI,⟨p,q,k TO (by simp) _ hTO⟩,h1.mv λo e=>k i1 (by simp) o e,h2.mv λo e=>k i2 (by simp) o e⟩
 item:=by
  intro X hP hw hK hc i pins s σ H E I hf st hg
  subst hP hw hK
  obtain⟨xs,ys,x,y,q1,q2,hx,hy⟩:=hg
  obtain⟨hz,hTI,⟨p,q,hTO⟩,h1,h2⟩:=st
  obtain⟨its,rv,m1,_⟩:=zf4 I q1
  obtain⟨jts,rw',m2,_⟩:=zf4 I q2
  obtain⟨u,hu,ru⟩:=rv.get hx
  obtain⟨v,hv,rv'⟩:=rw'.get hy
  refine zuc D hz hTI hTO h1 h2 m1 m2 (x:=u) (y:=v) (by simpa using hu) (by simpa using hv) λg b1 b2 b3 b4 b5 b6 b7=>⟨_,rfl,wpAny_letOwnedTupleGo_zip b1 λg2 c1 c2=>?_⟩
  obtain⟨⟨d1,d2,d3,d4⟩,⟨d5,d6,d7,d8,d9,d10⟩,_,_⟩:=D
  have c2:Heap.SameBut z g g2:=c2
  have zlt:s.heap.objs.size≠z:=vcl (vay hz)
  have kk:∀d o,d∉[z,TI,TO,i1,i2]->s.heap.get? d=some o->g2.get? d=some o:=λd o hd e=>(c2.2 d λx=>hd (by simp[x])).trans (b7 d o (λx=>hd (by simp[x])) (λx=>hd (by simp[x])) (λx=>hd (by simp[x])) (λx=>hd (by simp[x])) e)
  have hT:g2.get? s.heap.objs.size=some {cls:=.type "tuple",data:=.seq [u,v].toArray}:=(c2.2 _ zlt).trans b5
  have I2:=Inv.turnedT (xs:=[x,y]) I hf kk hT (.cons ru (.cons rv' .nil)) (by show 2<=sizeLine;decide)
  have hTn:H s.heap.objs.size=none:=I.hok.fresh (vac _)
  refine⟨.ref s.heap.objs.size,_,I2,rfl,⟨_,x,y,rfl,hTn,rfl,λzs hzs=>by rw[znq I hzs q1];exact hx,λzs hzs=>by rw[znq I hzs q2];exact hy⟩,
   ⟨c1,(c2.2 TI d1).trans (b7 TI _ d1 d5 d6 d7 hTI),⟨u,v,(c2.2 TO d2).trans b2⟩,b3.mv λo e=>(c2.2 i1 d3).trans e,b4.mv λo e=>(c2.2 i2 d4).trans e⟩,λd hd=>?_⟩
  rw[zai ?_]
  .exact(hf d hd).1
  .intro e
   obtain⟨o,ho⟩:∃o,s.heap.get? d=some o:=by
    simp only[vax,vbq,vdw]at hd
    rcases hd with rfl|rfl|rfl|rfl|rfl
    .exact⟨_,hz⟩
    .exact⟨_,hTI⟩
    .exact⟨_,hTO⟩
    .exact let⟨o,h,_⟩:=h1.ob;⟨o,h⟩
    .exact let⟨o,h,_⟩:=h2.ob;⟨o,h⟩
   exact vbd (vay ho) e
 done:=by
  intro X hP hw hK hc i pins s σ H E I hf st hg
  subst hP hw hK
  obtain⟨xs,ys,q1,q2,hl⟩:=hg
  obtain⟨hz,hTI,⟨p,q,hTO⟩,h1,h2⟩:=st
  obtain⟨its,rv,m1,_⟩:=zf4 I q1
  obtain⟨jts,rw',m2,_⟩:=zf4 I q2
  have l1:=rv.length
  have l2:=rw'.length
  exact zw9 (I.ok.hd hc) D hz hTI hTO h1 h2 m1 m2 (hl.imp (λh=>by simp;omega) λh=>by simp;omega) λg hk=>⟨rfl,Inv.turnedZ (t':=s.toks) I hf λd o hd e=>hk d o (λx=>hd (by simp[x])) (λx=>hd (by simp[x])) (λx=>hd (by simp[x])) (λx=>hd (by simp[x])) e⟩
 self:=λ_ _ _ _ _ st h=>wpAny_pyIter_zip st.1 h
theorem zqx{bs:List Bool}(r:Vals (bs.map .bl) its)(i:Nat)(h:its[i]?=some v):∃b,bs[i]?=some b/\v=.bool b:=by
 have hl:=r.length
 rw[vad]at hl
 obtain⟨hi,_⟩:=va3.mp h
 have hb:bs[i]?=some bs[i]:=vav (by omega)
 obtain⟨u,hu,ru⟩:=r.get (i:=i) (x:=.bl bs[i]) (by rw[vbf,hb];rfl)
 rw[h]at hu;cases hu
 exact⟨_,hb,ru⟩
theorem znr(bs:List Bool):((List.range bs.length).all λi=>(bs[i]?).getD true)=bs.all id:=by
 rw[Bool.eq_iff_iff,vbp,vbp]
 refine⟨λh b hb=>?_,λh i hi=>?_⟩
 .obtain⟨i,hi,rfl⟩:=List.getElem_of_mem hb
  have:=h i (vea.mpr hi)
  rw[vav hi]at this
  exact this
 .have hi':=vea.mp hi
  rw[vav hi']
  exact h _ (vcd hi')
section
variable{X:Cx}
theorem zqy(hc:X.calm=true):CallR X (.builtin "all") (λxs H Q=>∃(p:Addr) (bs:List Bool),xs=[.ref p]/\SqL X.K H p (bs.map .bl)/\Q (.bl (bs.all id)) H):=by
 intro pins s σ H xs us Q I r h
 obtain⟨p,bs,rfl,hq,q⟩:=h
 obtain⟨u,rfl,ru⟩:=vals1 r
 cases ru
 obtain⟨its,rv,pl,hz⟩:=I.list hq
 have hL:s.heap.IsList p its.toArray:=pl.isList
 have hlt:p<s.heap.objs.size:=by obtain⟨_,e,_⟩:=hL;exact vay e
 have hd:X.A.in1.handled=none:=I.ok.hd hc
 have hlen:its.toArray.size=bs.length:=by rw[vao,<-rv.length,vad]
 refine call_all_walk (vc9 hL ⟨s.heap.objs.size,[s.heap.objs.size,p],[s.heap.objs.size],its.toArray.size,_,_,λi=>(bs[i]?).getD true,rfl,Walks.list (A:=X.A.in1) hd _ p (vbd hlt) its.toArray,?_,?_,?_⟩)
 .exact⟨⟨_,va2 _ rfl,rfl,rfl⟩,hL.push _⟩
 .intro i v s' Q' E' hP hQ
  obtain⟨b,e,rfl⟩:=zqx rv i (by simpa using hP)
  simp only[e,Option.getD_some]at hQ
  exact vby hQ
 .intro h' tk hk
  rw[hlen,znr]
  refine⟨.bl (bs.all id),H,I.kept (t':=tk) λb o e=>hk b o (λhm=>?_) (vae _ e),rfl,q⟩
  rw[vat.mp hm]at e
  exact vcr _ (vay e)
end
noncomputable def oIs:Option Int->Value->Bool
 |none,.none=>true
 |some i,v=>Value.isInt i v
 |none,_=>false
noncomputable def oHash:Option Int->Int
 |none=>0xFCA86420
 |some i=>hashInt i
theorem za9:∀{k:Option Int} {v:Value},oIs k v=true->(k=none/\v=.none)\/∃i t,k=some i/\v=.int i t
 |none,v,h=>by cases v<;>first|exact .inl ⟨rfl,rfl⟩|cases h
 |some i,v,h=>by
  obtain⟨t,e⟩:=Value.isInt_shape (k:=i) (v:=v) h
  exact .inr ⟨i,t,rfl,e⟩
theorem zns{Q:Int->Shared->Prop}(h:Q 0xFCA86420 {s with toks:=s.toks+1}):wpAny (model prog w) A (PySem.pyHash .none) Q E s:=by
 have hT:s.TypeIs .none "NoneType":=rfl
 unfold pyHash
 refine vaa (wpAny_cRoomFor_or (.inl rfl) ?_)
 refine vaa (vdn hT vdr.lookup ?_)
 show wpAny _ _ (if(some (Value.builtin "NoneType.__hash__")==some Value.none)=true then _ else _) Q E s
 rw[if_neg (by rw[beq_builtin_none];exact vdk)]
 refine vaa (vdn hT vdr.lookup ?_)
 show wpAny _ _ (callSpecialIfBoundUnlessNone? .none "__hash__" _ >>= _) Q E s
 refine vaa (wpAny_callSpecialIfBoundUnlessNone?_slot hT vdr
  (vb6 vdr hT F.entry_NoneType_hash
    (show wpAny _ _ (do ret (<-mkInt 0xFCA86420)) _ _ s from wpAny_ret_mkInt ?_) (F.args_NoneType_hash_1 _)))
 show wpAny _ _ (if(decide (-(2:Int) ^ 63<=0xFCA86420)&&decide ((0xFCA86420:Int)<2 ^ 63))=true then _ else _) Q E _
 rw[if_pos (by decide)]
 exact vag h
noncomputable def oKind(prog:Program)(w:World):KeyKind prog w (Option Int)where
 is:=oIs
 hash:=oHash
 inj:=λv a b ha hb=>by
  rcases za9 ha with⟨rfl,rfl⟩|⟨i,t,rfl,rfl⟩
  .rcases za9 hb with⟨rfl,_⟩|⟨j,u,rfl,e⟩
   .rfl
   .cases e
  .rcases za9 hb with⟨rfl,e⟩|⟨j,u,rfl,e⟩
   .cases e
   .cases e;rfl
 byValue:=λk v h=>by
  rcases za9 h with⟨rfl,rfl⟩|⟨i,t,rfl,rfl⟩<;>rfl
 pyHash:=λhv h=>by
  rcases za9 hv with⟨rfl,rfl⟩|⟨i,t,rfl,rfl⟩
  .exact zns h
  .exact wpAny_pyHash_int h
 eqBool:=λ{A E s a b u v Q} hu hv h=>by
  rcases za9 hu with⟨rfl,rfl⟩|⟨i,t,rfl,rfl⟩
  .rcases za9 hv with⟨rfl,rfl⟩|⟨j,u,rfl,rfl⟩
   .exact SeqAt.EqAt.same (A:=A) (s:=s) .none prog w E Q (by simpa using h)
   .exact SeqAt.EqAt.none_int (A:=A) (s:=s) j u prog w E Q (by simpa using h)
  .rcases za9 hv with⟨rfl,rfl⟩|⟨j,u,rfl,rfl⟩
   .exact SeqAt.EqAt.int_none (A:=A) (s:=s) i t prog w E Q (by simpa using h)
   .refine wpAny_eqBool_int ?_
    by_cases e:i=j
    .subst e;simpa using h
    .have e':(i==j)=false:=by simpa using e
     rw[e'];simpa[e]using h
 «strs»:=λk x t v h=>by
  rcases za9 h with⟨_,e⟩|⟨i,t,_,e⟩<;>cases e
noncomputable abbrev DK:=List Int×Option Int
section
variable(prog:Program)(w:World)
noncomputable def IsDK(h:Heap)(k:DK)(a:Addr):Prop:=∃o n b v,h.get? a=some o/\o.cls=.type "tuple"/\o.data=.seq #[.ref b,v] n/\IsTupleKey (intKind prog w) h k.1 b/\oIs k.2 v=true
noncomputable def znt(k:DK):Int:=reduceHash (Builtin.Tuple.tupleHashOf [tupleKeyHash (intKind prog w) k.1,oHash k.2])
variable{prog w}
theorem IsDK.typeIs{s:Shared}{k:DK}{a:Addr}(x:IsDK prog w s.heap k a):s.TypeIs (.ref a) "tuple":=let⟨o,_,_,_,ho,hc,_⟩:=x;⟨o,ho,hc⟩
theorem IsDK.inj{a:Addr}{x y:DK}(hx:IsDK prog w h x a)(hy:IsDK prog w h y a):x=y:=by
 obtain⟨o,n,b,v,ho,_,hd,hi,hv⟩:=hx
 obtain⟨o',n',b',v',ho',_,hd',hi',hv'⟩:=hy
 obtain rfl:o=o':=vbn (ho.symm.trans ho')
 rw[hd]at hd'
 injection hd' with h1 _
 have h2:=vdu Array.toList h1
 simp only[vd4,and_true,Value.ref.injEq]at h2
 obtain⟨rfl,rfl⟩:=h2
 exact Prod.ext (hi.inj hi') ((oKind prog w).inj _ _ _ hv hv')
theorem IsDK.keeps{k:DK}{a d:Addr}{es ep}(x:IsDK prog w h k a)(ho:h.get? d=some o)(hd:o.data=.dict es ep)(hs:Heap.SameBut d h h'):IsDK prog w h' k a:=by
 obtain⟨o',n,b,v,ho',hc,hd',hi,hv⟩:=x
 have hne:a≠d:=by
  rintro rfl
  obtain rfl:o'=o:=vbn (ho'.symm.trans ho)
  rw[hd]at hd';exact nomatch hd'
 exact⟨o',n,b,v,(hs.2 a hne).trans ho',hc,hd',hi.keeps ho hd hs,hv⟩
variable{A:Around}{E:Value->Shared->Prop}{s:Shared}
theorem znu{k:DK}{a:Addr}{Q:Int->Shared->Prop}(hu:A.units+1<cLine)(hk:IsDK prog w s.heap k a)(h:Q (znt prog w k) {s with toks:=s.toks+ (k.1.length+3)}) :
 wpAny (model prog w) A (pyHash (.ref a)) Q E s:=by
 have hT:=hk.typeIs
 obtain⟨o,n,b,v,ho,_,hd,hi,hv⟩:=hk
 unfold pyHash
 refine vaa (wpAny_cRoomFor_or (.inr (by omega)) ?_)
 refine vaa (vdn hT vd8.lookup ?_)
 show wpAny _ _ (if(some (Value.builtin "tuple.__hash__")==some Value.none)=true then _ else _) Q E s
 rw[if_neg (by rw[beq_builtin_none];exact vdk)]
 refine vaa (vdn hT vd8.lookup ?_)
 show wpAny _ _ (callSpecialIfBoundUnlessNone? (.ref a) "__hash__" _ >>= _) Q E s
 refine vaa (wpAny_callSpecialIfBoundUnlessNone?_slot hT vd8 (vb6 vd8 hT F.entry_tuple_hash ?_ (F.args_tuple_hash_1 _)))
 show wpAny _ _ (Builtin.Tuple.tupleItemsOf (.ref a) >>= _) _ _ s
 refine vaa (wpAny_tupleItemsOf ho hd ?_)
 refine vaa ?_
 rw[<-Array.forIn_toList]
 refine ved _
  (λrest (acc:Array Int) s'=>(rest=[.ref b,v]/\acc.toList=[]/\s'=s)\/(rest=[v]/\acc.toList=[tupleKeyHash (intKind prog w) k.1]/\s' ={s with toks:=s.toks+ (k.1.length+1)})\/(rest=[]/\acc.toList=[tupleKeyHash (intKind prog w) k.1,oHash k.2]/\s' ={s with toks:=s.toks+ (k.1.length+1)+1}))
  _ ?_ ?_ _ _ (.inl ⟨rfl,rfl,rfl⟩)
 .rintro x rest acc s' (⟨e,ha,rfl⟩|⟨e,ha,rfl⟩|⟨e,_⟩)
  .cases e
   refine vaa (wpAny_pyHash_tuple hu hi ?_)
   first
    |exact vag (.inr (.inl ⟨rfl,by simp[ha],rfl⟩))
    |exact vaa (vag (vag (.inr (.inl ⟨rfl,by simp[ha],rfl⟩))))
  .cases e
   refine vaa ((oKind prog w).pyHash (k:=k.2) hv ?_)
   first
    |exact vag (.inr (.inr ⟨rfl,by simp[ha];rfl,rfl⟩))
    |exact vaa (vag (vag (.inr (.inr ⟨rfl,by simp[ha];rfl,rfl⟩))))
  .cases e
 .rintro acc s' (⟨e,_⟩|⟨e,_⟩|⟨_,ha,rfl⟩)
  .cases e
  .cases e
  .show wpAny _ _ (retInt (Builtin.Tuple.tupleHashOf acc.toList)) _ _ _
   rw[ha]
   refine wpAny_ret_mkInt ?_
   show wpAny _ _ (if(decide (-(2:Int) ^ 63<=Builtin.Tuple.tupleHashOf [tupleKeyHash (intKind prog w) k.1,oHash k.2])&&decide (Builtin.Tuple.tupleHashOf [tupleKeyHash (intKind prog w) k.1,oHash k.2]<2 ^ 63))=true then _ else _) Q E _
   unfold znt reduceHash at h
   by_cases hr:(decide (-(2:Int) ^ 63<=Builtin.Tuple.tupleHashOf [tupleKeyHash (intKind prog w) k.1,oHash k.2])&&decide (Builtin.Tuple.tupleHashOf [tupleKeyHash (intKind prog w) k.1,oHash k.2]<2 ^ 63))=true
   .rw[if_pos hr]
    rw[if_pos hr]at h
    exact vag (by simpa[ves]using h)
   .rw[if_neg hr]
    rw[if_neg hr]at h
    exact vaa (veo (vag (by simpa[ves]using h)))
theorem zma{x y:DK}{a b:Addr}{P:Fin->Shared->Prop}(hu:A.units<cLine)(hx:IsDK prog w s.heap x a)(hy:IsDK prog w s.heap y b)(h:P (.done (.ret (.bool (decide (x=y))))) s) :
 wpAny (model prog w) A (Builtin.«tuple.__eq__» ⟨[.ref a,.ref b],[]⟩) P E s:=by
 have hTb:=hy.typeIs
 obtain⟨oa,na,a1,v1,hoa,_,hda,hia,hva⟩:=hx
 obtain⟨ob,nb,b1,v2,hob,_,hdb,hib,hvb⟩:=hy
 show wpAny _ _ (isInstance (.ref b) (.type "tuple") >>= _) _ _ s
 refine vaa (vec hTb isSubtype_tuple_tuple ?_)
 simp only[vck,vap,vbl]
 refine vaa (wpAny_tupleItemsOf hoa hda ?_)
 refine vaa (wpAny_tupleItemsOf hob hdb ?_)
 refine vaa ?_
 refine ved _
  (λrest r s'=>r.1=none/\s'=s/\((rest=[(Value.ref a1,Value.ref b1),(v1,v2)])\/(rest=[(v1,v2)]/\x.1=y.1)\/(rest=[]/\x=y)))
  _ ?_ ?_ _ _ ⟨rfl,rfl,.inl rfl⟩
 .rintro⟨u,v⟩ rest r s' ⟨hr,rfl,e|⟨e,hxy⟩|⟨e,_⟩⟩
  .cases e
   refine vaa (wpAny_eqBool_tuple hu hia hib ?_)
   by_cases hk:x.1=y.1
   .rw[vbg hk]
    simp only[vck,vap,vbl]
    exact vag ⟨rfl,rfl,.inr (.inl ⟨(by first|rfl|trivial),hk⟩)⟩
   .rw[vaz hk]
    simp only[vdh,vbm]
    have hf:decide (x=y)=false:=vaz λz=>hk (by rw[z])
    rw[hf]at h
    exact vaa (vag (vag (vag h)))
  .cases e
   refine vaa ((oKind prog w).eqBool (a:=x.2) (b:=y.2) hva hvb ?_)
   by_cases hk:x.2=y.2
   .rw[vbg hk]
    simp only[vck,vap,vbl]
    exact vag ⟨rfl,rfl,.inr (.inr ⟨(by first|rfl|trivial),Prod.ext hxy hk⟩)⟩
   .rw[vaz hk]
    simp only[vdh,vbm]
    have hf:decide (x=y)=false:=vaz λz=>hk (by rw[z])
    rw[hf]at h
    exact vaa (vag (vag (vag h)))
  .cases e
 .rintro⟨r1,r2⟩ s' ⟨hr,rfl,e|⟨e,_⟩|⟨_,e⟩⟩
  .cases e
  .cases e
  .simp only at hr
   subst hr
   refine vag ?_
   rw[vbg e]at h
   exact h
theorem znv{x y:DK}{a b:Addr}{Q:Bool->Shared->Prop}(hu:A.units+1<cLine)(hx:IsDK prog w s.heap x a)(hy:IsDK prog w s.heap y b)(h:Q (decide (x=y)) s) :
 wpAny (model prog w) A (eqBool (.ref a) (.ref b)) Q E s:=by
 unfold eqBool
 try with_reducible refine vc1 ?_
 show wpAny _ _ (if(Value.ref a==Value.ref b)=true then _ else _) Q E s
 by_cases hab:(Value.ref a==Value.ref b)=true
 .rw[if_pos hab]
  have e:a=b:=by have:=eq_of_beq hab;injection this
  subst e
  obtain rfl:=hx.inj hy
  exact vaa (veo (vag (by simpa using h)))
 .rw[if_neg hab]
  exact vaa (wpAny_richCompare_same_room (op:=.Eq) hx.typeIs hy.typeIs vei
   (vb6 vei hx.typeIs F.entry_tuple_eq (zma hu hx hy ⟨_,rfl,(λe=>nomatch e),vby h⟩) (F.args_tuple_eq_2 _ _)) (by omega))
theorem zjx{n:Nat}{a:Addr}{Q:Bool->Shared->Prop}(hk:IsTupleKey (intKind prog w) s.heap ks a)(h:Q true s):wpAny (model prog w) A (eqIsQuiet (n+1) (.ref a)) Q E s:=by
 have hT:=hk.typeIs
 obtain⟨o,items,m,ho,_,hd,hi⟩:=hk
 unfold eqIsQuiet
 refine vaa (vdn hT vei.lookup ?_)
 show wpAny _ _ (isInstance (.ref a) (.type "tuple") >>= _) _ _ s
 refine vaa (vec hT isSubtype_tuple_tuple ?_)
 simp only[vck,vap,vbl]
 refine vaa (vcj ho hd ?_)
 refine vaa ?_
 show wpAny _ _ (forIn items _ _) _ _ s
 rw[<-Array.forIn_toList]
 refine ved _ (λrest r s'=>r.1=none/\s'=s/\∀v∈rest,carriedByValue v=true) _ ?_ ?_ _ _ ⟨rfl,rfl,hi.byValue⟩
 .rintro v rest r s' ⟨hr,rfl,hall⟩
  rw[eqIsQuiet_byValue _ (hall v vam)]
  refine vaa (vag ?_)
  simp only[vck,vap,vbl]
  exact vag ⟨rfl,rfl,λu hu'=>hall u (vai _ hu')⟩
 .rintro⟨r1,r2⟩ s' ⟨hr,rfl,_⟩
  simp only at hr
  subst hr
  exact vag h
theorem zqz{k:DK}{a:Addr}{Q:Bool->Shared->Prop}(hk:IsDK prog w s.heap k a)(h:Q true s):wpAny (model prog w) A (eqIsQuiet 8 (.ref a)) Q E s:=by
 have hT:=hk.typeIs
 obtain⟨o,n,b,v,ho,_,hd,hi,hv⟩:=hk
 unfold eqIsQuiet
 refine vaa (vdn hT vei.lookup ?_)
 show wpAny _ _ (isInstance (.ref a) (.type "tuple") >>= _) _ _ s
 refine vaa (vec hT isSubtype_tuple_tuple ?_)
 simp only[vck,vap,vbl]
 refine vaa (vcj ho hd ?_)
 refine vaa ?_
 show wpAny _ _ (forIn #[.ref b,v] _ _) _ _ s
 rw[<-Array.forIn_toList]
 refine ved _ (λrest r s'=>r.1=none/\s'=s/\(rest=[.ref b,v]\/rest=[v]\/rest=[])) _ ?_ ?_ _ _ ⟨rfl,rfl,.inl rfl⟩
 .rintro u rest r s' ⟨hr,rfl,e|e|e⟩
  .cases e
   refine vaa (zjx hi ?_)
   simp only[vck,vap,vbl]
   exact vag ⟨rfl,rfl,.inr (.inl (by first|rfl|trivial))⟩
  .cases e
   rw[eqIsQuiet_byValue _ ((oKind prog w).byValue _ _ hv)]
   refine vaa (vag ?_)
   simp only[vck,vap,vbl]
   exact vag ⟨rfl,rfl,.inr (.inr (by first|rfl|trivial))⟩
  .cases e
 .rintro⟨r1,r2⟩ s' ⟨hr,rfl,_⟩
  simp only at hr
  subst hr
  exact vag h
end
noncomputable def dKind(prog:Program)(w:World):HeapKind prog w DK where
 is:=IsDK prog w
 hash:=znt prog w
 draws:=λk=>k.1.length+3
 room:=λA=>A.units+1<cLine
 inj:=λhx hy=>hx.inj hy
 keeps:=λx ho hd hs=>x.keeps ho hd hs
 pyHash:=λhu hk h=>znu hu hk h
 eqBool:=λhu hx hy h=>znv hu hx hy h
 quiet:=λhk h=>zqz hk h
noncomputable def dkh(k:DK):Int:=reduceHash (Builtin.Tuple.tupleHashOf [reduceHash (Builtin.Tuple.tupleHashOf (k.1.map hashInt)),oHash k.2])
noncomputable def ovV:Option Int->V
 |none=>.non
 |some i=>.int i
noncomputable abbrev DX:=List (DK×Addr×V)
noncomputable abbrev dtP(xs:DX)(us:List (DK×Addr×Value)):Prop:=Paired (λ(p:DK×Addr×V) (q:DK×Addr×Value)=>p.1=q.1/\p.2.1=q.2.1/\RelV p.2.2 q.2.2) xs us
noncomputable def dtF(xs:DX)(a:Addr)(h:Heap):Prop:=xs.length<=sizeLine/\(a==sysModules)=false/\(xs.map (·.1)).Nodup/\∃us,dtP xs us/\∃o es ep,h.get? a=some o/\o.ExactDict/\o.data=.dict es ep/\es.toList=us.map λx=>⟨dkh x.1,.ref x.2.1,x.2.2⟩
noncomputable def dtH(xs:DX)(a:Addr):HO:=.ext (dtF xs a)
theorem zse{a:Addr}(e:dtF xs a h):ObjOk P w H h a (dtH xs a):=by
 refine⟨e,?_,?_⟩
 .obtain⟨_,_,_,us,_,o,_,_,h1,_⟩:=e
  exact⟨o,h1⟩
 .rintro h1 h2 ⟨a1,a2,a3,us,a4,o,es,ep,b1,b2⟩ k
  exact⟨a1,a2,a3,us,a4,o,es,ep,k o b1,b2⟩
theorem zsf{a:Addr}(ok:HOk P w H h)(e:H a=some (dtH xs a)):dtF xs a h:=(ok a _ e).1
noncomputable def KeyAt(K:PySem.W.Frag)(H:Hp)(k:DK)(b:Addr):Prop:=∃c,SqT K H b [.ref c,ovV k.2]/\SqT K H c (k.1.map .int)
noncomputable def DT(K:PySem.W.Frag)(H:Hp)(a:Addr)(xs:DX):Prop:=(H a=some (dtH xs a)/\∀p∈xs,KeyAt K H p.1 p.2.1)\/(xs=[]/\Rd H a (.dK []))
noncomputable def findX(xs:DX)(k:DK):Option (Addr×V):=(xs.find? λx=>decide (x.1=k)).map (·.2)
noncomputable def putX(xs:DX)(k:DK)(b:Addr)(v:V):DX:=if(findX xs k).isSome then xs.map (λx=>if x.1=k then(x.1,x.2.1,v)else x)else xs++[(k,b,v)]
theorem zel{us:List (DK×Addr×Value)}(r:dtP xs us)(k:DK):(findX xs k=none/\atKey us k=none)\/∃p q,findX xs k=some p/\atKey us k=some q/\RelV p.2 q.2:=by
 induction r with
 |nil=>exact .inl ⟨rfl,rfl⟩
 | @cons p q ps qs h t ih=>
  obtain⟨h1,h2,h3⟩:=h
  by_cases e:p.1=k
  .refine .inr ⟨p.2,q.2,?_,?_,h3⟩
   .simp[findX,vbo,e]
   .simp[atKey,vbo,h1.symm.trans e]
  .have e':¬q.1=k:=λz=>e (h1.trans z)
   have b1:findX (p::ps) k=findX ps k:=by simp[findX,vbo,e]
   have b2:atKey (q::qs) k=atKey qs k:=by simp[atKey,vbo,e']
   rw[b1,b2];exact ih
theorem zue{us:List (DK×Addr×Value)}(r:dtP xs us)(k:DK)(b:Addr)(rv:RelV v u):dtP (putX xs k b v) (storedH us k b u):=by
 unfold putX storedH
 have e:(findX xs k).isSome=(atKey us k).isSome:=by
  rcases zel r k with⟨h1,h2⟩|⟨p,q,h1,h2,_⟩<;> (rw[h1,h2];rfl)
 rw[e]
 by_cases z:(atKey us k).isSome=true
 .rw[if_pos z,if_pos z]
  clear e z
  induction r with
  |nil=>exact .nil
  | @cons p q ps qs h t ih=>
   rw[van,van]
   refine .cons ?_ ih
   obtain⟨h1,h2,h3⟩:=h
   unfold putAt
   by_cases e:p.1=k
   .rw[if_pos e,if_pos (h1.symm.trans e)];exact⟨h1,h2,rv⟩
   .rw[if_neg e,if_neg (λz=>e (h1.trans z))];exact⟨h1,h2,h3⟩
 .rw[if_neg z,if_neg z]
  exact Paired.snoc r ⟨rfl,rfl,rv⟩
theorem zuf(xs:DX)(k:DK)(b:Addr)(v:V):(putX xs k b v).length<=xs.length+1:=by
 unfold putX
 split
 .rw[vad];omega
 .rw[vaf];exact vac _
section
variable{X:Cx}{pins:List (Addr×Obj)}{σ:St}{H:Hp}{s:Shared}{a b:Addr}{k:DK}{xs:DX}{v:V}{r:Value}{A:Around}{E:Value->Shared->Prop}
theorem zkx:∀{ls:List Int} {us:List Value},Vals (ls.map .int) us->ItemsAre (intKind X.prog X.w) ls us
 |[],_,.nil=>.nil
 |x::ls,_,.cons h t=>by
  obtain⟨t',rfl⟩:=h
  exact .cons (by show Value.isInt x (.int x t')=true;simp[Value.isInt]) (zkx t)
theorem KeyAt.is(I:Inv X pins σ H s)(h:KeyAt X.K H k b):IsDK X.prog X.w s.heap k b:=by
 obtain⟨c,h1,h2⟩:=h
 obtain⟨its,r1,⟨o,e1,e2,n,e3⟩,_⟩:=I.tuple h1
 obtain⟨its2,r2,⟨o2,f1,f2,n2,f3⟩,_⟩:=I.tuple h2
 cases r1 with
 | @cons _ u0 _ us0 q1 q2=>
  cases q2 with
  | @cons _ u1 _ us1 q3 q4=>
   cases q4
   have q1:u0=.ref c:=q1
   subst q1
   refine⟨o,n,c,u1,e1,e2,e3,⟨o2,its2.toArray,n2,f1,f2,f3,zkx r2⟩,?_⟩
   cases z:k.2 with
   |none=>rw[z]at q3;cases q3;rfl
   |some i=>rw[z]at q3;obtain⟨t,rfl⟩:=q3;show Value.isInt i (.int i t)=true;simp[Value.isInt]
theorem DT.dict(I:Inv X pins σ H s)(h:DT X.K H a xs):xs.length<=sizeLine/\(a==sysModules)=false/\∃us,dtP xs us/\s.heap.DictOfH (dKind X.prog X.w) a us:=by
 rcases h with⟨e,hk⟩|⟨rfl,e⟩
 .obtain⟨a1,a2,a3,us,a4,o,es,ep,b1,b2,b3,b4⟩:=zsf I.hok e
  refine⟨a1,a2,us,a4,o,es,ep,b1,b2,b3,b4,?_,?_⟩
  .intro x hx
   have:∃p∈xs,p.1=x.1/\p.2.1=x.2.1:=by
    clear a1 a3 b4 hk e
    induction a4 with
    |nil=>cases hx
    | @cons p q ps qs h t ih=>
     rcases vax.mp hx with rfl|hx
     .exact⟨p,vam,h.1,h.2.1⟩
     .obtain⟨p',h1,h2⟩:=ih hx
      exact⟨p',vai _ h1,h2⟩
   obtain⟨p,hp,h1,h2⟩:=this
   have:=KeyAt.is I (hk p hp)
   rw[h1,h2]at this
   exact this
  .have:us.map (·.1)=xs.map (·.1):=by
    clear a1 a3 b4 hk e
    induction a4 with
    |nil=>rfl
    | @cons p q ps qs h t ih=>rw[van,van,ih,h.1]
   rw[this];exact a3
 .obtain⟨z,y,vs,r,o,es,ep,b1,b2,b3,b4,b5,b6⟩:=dk_rd I.hok e
  cases r
  refine⟨vbk _,y,[],.nil,o,es,ep,b1,b2,b3,?_,(λx hx=>nomatch hx),List.nodup_nil⟩
  generalize es.toList=l at b5 ⊢
  cases b5
  rfl
theorem zxa{p:Addr×V}(hu:A.units+2<cLine)(I:Inv X pins σ H s)(d:DT X.K H a xs)(kk:KeyAt X.K H k b)(g:findX xs k=some p)(h:∀w' s',Inv X pins σ H s'->RelV p.2 w'->Q w' s') :
 wpAny (model X.prog X.w) A (getItem (.ref a) (.ref b)) Q E s:=by
 obtain⟨_,_,us,r,dd⟩:=d.dict I
 rcases zel r k with⟨h1,_⟩|⟨p',q,h1,h2,h3⟩
 .rw[g]at h1;cases h1
 .rw[g]at h1;cases h1
  exact wpAny_getItem_heap (knd:=dKind X.prog X.w) (by show A.in1.units+1<cLine;exact hu) (kk.is I) dd h2 (h _ _ (I.tok _) h3)
theorem dt_in(hu:A.units+2<cLine)(I:Inv X pins σ H s)(d:DT X.K H a xs)(kk:KeyAt X.K H k b)(h:∀s',Inv X pins σ H s'->Q (.bool (findX xs k).isSome) s') :
 wpAny (model X.prog X.w) A (compareOp .In (.ref b) (.ref a)) Q E s:=by
 obtain⟨_,y,us,r,dd⟩:=d.dict I
 have e:(findX xs k).isSome=(atKey us k).isSome:=by
  rcases zel r k with⟨h1,h2⟩|⟨p,q,h1,h2,_⟩<;> (rw[h1,h2];rfl)
 refine wpAny_in_heap (knd:=dKind X.prog X.w) (by show A.in1.units+1<cLine;exact hu) (kk.is I) y dd ?_
 rw[<-e]
 exact h _ (I.tok _)
theorem zq0(hu:A.units+2<cLine)(I:Inv X pins σ H s)(d:DT X.K H a xs)(kk:KeyAt X.K H k b)(h:∀s',Inv X pins σ H s'->Q (.bool (!(findX xs k).isSome)) s') :
 wpAny (model X.prog X.w) A (compareOp .NotIn (.ref b) (.ref a)) Q E s:=by
 obtain⟨_,y,us,r,dd⟩:=d.dict I
 have e:(findX xs k).isSome=(atKey us k).isSome:=by
  rcases zel r k with⟨h1,h2⟩|⟨p,q,h1,h2,_⟩<;> (rw[h1,h2];rfl)
 refine wpAny_notIn_heap (knd:=dKind X.prog X.w) (by show A.in1.units+1<cLine;exact hu) (kk.is I) y dd ?_
 rw[<-e]
 exact h _ (I.tok _)
theorem zxb{Q:Unit->Shared->Prop}(hu:A.units+2<cLine)(I:Inv X pins σ H s)(d:DT X.K H a xs)(mu:Mut (H a))(kk:KeyAt X.K H k b)(hz:xs.length<sizeLine)(rv:RelV v r)(h:∀s',Inv X pins σ (upd H a (dtH (putX xs k b v) a)) s'->Q () s') :
 wpAny (model X.prog X.w) A (setItem (.ref a) (.ref b) r) Q E s:=by
 obtain⟨_,y,us,rl,dd⟩:=d.dict I
 refine wpAny_setItem_heap (knd:=dKind X.prog X.w) (hsz:=by rw[<-vee rl];omega) (by show A.in1.units+1<cLine;exact hu) (kk.is I) dd λh' dd' hs=>h _ ?_
 obtain⟨q,es,ep,hq,h2,h3,h4,_,h5⟩:=dd'
 have pr:=zue rl k b rv
 refine zjv I mu hs ⟨q,hq⟩ (zse ⟨?_,y,?_,_,pr,q,es,ep,hq,h2,h3,h4⟩)
 .have:=zuf xs k b v;omega
 .have:(putX xs k b v).map (·.1)=(storedH us k b r).map (·.1):=by
   generalize putX xs k b v=ys at pr
   generalize storedH us k b r=zs at pr
   clear h4 h5
   induction pr with
   |nil=>rfl
   | @cons p q ps qs h t ih=>rw[van,van,ih,h.1]
  rw[this];exact h5
end
end L2
namespace L2
open PySem PySem.Spec PyProof.Rows PySem.W
open AutoSeq1 (wpAny_loadPart')
noncomputable def DE(h:Heap)(d:Addr)(es:Array DictEntry)(ep:Nat):Prop:=∃o,h.get? d=some o/\o.ExactDict/\o.data=.dict es ep
theorem DE.ty{s:Shared}{d:Addr}{es:Array DictEntry}{ep:Nat}(x:DE s.heap d es ep):s.TypeIs (.ref d) "dict":=let⟨o,a,b,_⟩:=x;⟨o,a,b.1⟩
section
variable{prog:Program}{w:World}{A:Around}{E:Value->Shared->Prop}{s:Shared}{d it:Addr}{es:Array DictEntry}{ep i:Nat}
theorem zxc{Q:Value->Shared->Prop}(hd:(d==sysModules)=false)(hm:DE s.heap d es ep)(hf:(es.size:Int)<2 ^ 63)(h:∀t tk,Q (.int es.size t) {s with toks:=tk}) :
 wpAny (model prog w) A (call (.builtin "len") [.ref d]) Q E s:=by
 refine Calls.call_function_entry kind_len plain_len entry_len (args_len1 _) ?_
 unfold Builtin.«len»
 refine vaa (m:=oneArg "len" _) (vag ?_)
 have M:MeetsIn prog w (Builtin.«dict.__len__» ⟨[.ref d],[]⟩) (λ_ R s=>DE s.heap d es ep/\R (.ok (.ret (.int es.size s.toks))) {s with toks:=s.toks+1}):=
  .of_wp λA R s hq0=>by
   obtain⟨⟨o,a,b,c⟩,h⟩:=hq0
   show wpAny _ _ (dictSize d >>= _) _ _ s
   unfold dictSize
   exact vaa (vaa (wpAny_dictEntries a c (vag (vaa (wpAny_pendingCount_other hd (wpAny_ret_mkInt h))))))
 refine vaa (m:=callSpecial? (.ref d) (Str.ofString "__len__")) (vbr (name:=Str.ofString "__len__") hm.ty F.slot_dict_len
  (call_meetsIn F.slot_dict_len hm.ty F.entry_dict_len (F.args_dict_len_1 _) M ⟨hm,?_⟩))
 refine vaa (vc1 (vag (vaa (vew ?_))))
 show wpAny _ _ (if((es.size:Nat):Int)<0 then _ else _) _ _ _
 rw[if_neg (by omega)]
 show wpAny _ _ (if((es.size:Nat):Int)>=2 ^ 63 then _ else _) _ _ _
 rw[if_neg (by omega)]
 exact vaa (wpAny_mkInt (vag ⟨_,rfl,h _ _⟩))
end
end L2
namespace L2
open PySem PySem.Spec PyProof.Rows PySem.W
section
variable{X:Cx}{pins:List (Addr×Obj)}{σ:St}{H:Hp}{s:Shared}{a b:Addr}{k:DK}{xs:DX}
theorem DT.de(I:Inv X pins σ H s)(h:DT X.K H a xs):∃(es:Array DictEntry) (ep:Nat),DE s.heap a es ep/\es.size=xs.length/\∀(i:Nat) (p:DK×Addr×V),xs[i]?=some p->∃e:DictEntry,es[i]?=some e/\e.key=Value.ref p.2.1:=by
 obtain⟨g1,_,us,r,o,es,ep,b1,b2,b3,b4,g2⟩:=h.dict I
 clear h g1 g2
 refine⟨es,ep,⟨o,b1,b2,b3⟩,?_,λi p hp=>?_⟩
 .rw[<-vcv,b4,vad,vee r]
 .have:∃q,us[i]?=some q/\p.2.1=q.2.1:=by
   clear b4
   revert i
   induction r with
   |nil=>intro i hp;simp at hp
   | @cons p0 q0 ps qs h t ih=>
    intro i hp
    cases i with
    |zero=>simp at hp;subst hp;exact⟨q0,rfl,h.2.1⟩
    |succ i=>exact ih i (by simpa using hp)
  obtain⟨q,h1,h2⟩:=this
  refine⟨⟨dkh q.1,.ref q.2.1,q.2.2⟩,?_,by rw[h2]⟩
  rw[<-Array.getElem?_toList,b4,vbf,h1];rfl
noncomputable def rInX(K:PySem.W.Frag)(neg:Bool):R2:=λx y H Q=>∃a b xs k,y=.ref a/\x=.ref b/\DT K H a xs/\KeyAt K H k b/\Q (.bl (if neg then !(findX xs k).isSome else(findX xs k).isSome)) H
theorem zxd(hu:X.A.units+2<cLine):OpR X (compareOp .In) (rInX X.K false):=by
 intro pins s σ H x y v u Q I rx ry h
 obtain⟨a,b,xs,k,rfl,rfl,d,kk,q⟩:=h
 cases rx;cases ry
 exact dt_in hu I d kk λs' I'=>⟨.bl _,H,I',rfl,q⟩
theorem znw(hu:X.A.units+2<cLine):OpR X (compareOp .NotIn) (rInX X.K true):=by
 intro pins s σ H x y v u Q I rx ry h
 obtain⟨a,b,xs,k,rfl,rfl,d,kk,q⟩:=h
 cases rx;cases ry
 exact zq0 hu I d kk λs' I'=>⟨.bl _,H,I',rfl,q⟩
theorem DT.typeIs(I:Inv X pins σ H s)(h:DT X.K H a xs):s.TypeIs (.ref a) "dict":=let⟨_,_,d,_⟩:=h.de I;d.ty
noncomputable def rIxX(K:PySem.W.Frag):R2:=λx y H Q=>∃a b xs k p,x=.ref a/\y=.ref b/\DT K H a xs/\KeyAt K H k b/\findX xs k=some p/\Q p.2 H
theorem ix_dt(hu:X.A.units+2<cLine):IxR X (rIxX X.K):=by
 intro value slice pins s σ H x y v u Q I rx ry q hs
 obtain⟨a,b,xs,k,p,rfl,rfl,d,kk,g,q⟩:=q
 cases rx;cases ry
 exact tail_any (d.typeIs I) PySem.F.slot_dict_getitem.lookup (zxa hu I d kk g λw' s3 I3 rw'=>⟨p.2,H,I3,rw',q⟩) hs
noncomputable def rSetX(K:PySem.W.Frag):V->V->V->Hp->(Hp->Prop)->Prop:=λo i v H Q=>∃a b xs k,o=.ref a/\i=.ref b/\DT K H a xs/\Mut (H a)/\KeyAt K H k b/\xs.length<sizeLine/\Q (upd H a (dtH (putX xs k b v) a))
theorem zxe(hu:X.A.units+2<cLine):PSet X (rSetX X.K):=by
 intro pins s σ H o i v ov iv u Q I ro ri rv h
 obtain⟨a,b,xs,k,rfl,rfl,d,mu,kk,hz,q⟩:=h
 cases ro;cases ri
 exact zxb hu I d mu kk hz rv λs' I'=>⟨_,I',q⟩
theorem PSet.or{t t':V->V->V->Hp->(Hp->Prop)->Prop}(h:PSet X t)(h':PSet X t'):PSet X (λo i v H Q=>t o i v H Q\/t' o i v H Q):=by
 intro pins s σ H o i v ov iv u Q I ro ri rv q
 rcases q with q|q
 .exact h pins s σ H o i v ov iv u Q I ro ri rv q
 .exact h' pins s σ H o i v ov iv u Q I ro ri rv q
theorem znx:CallR X (.builtin "len") (λys H Q=>∃a xs,ys=[.ref a]/\DT X.K H a xs/\Q (.int xs.length) H):=by
 intro pins s σ H ys us Q I r h
 obtain⟨a,xs,rfl,d,q⟩:=h
 obtain⟨u,rfl,rx⟩:=vals1 r
 cases rx
 obtain⟨es,ep,de,hz,_⟩:=d.de I
 obtain⟨hl,hd,_⟩:=d.dict I
 refine zxc hd de (by rw[hz];have:=vd7;omega) λt tk=>⟨.int xs.length,H,I.tok _,⟨t,by rw[hz]⟩,q⟩
noncomputable def zxf(K:PySem.W.Frag)(trs:List (TE×TE)):TE:=λσ H Q=>∀p,H p=none->zkw trs σ (upd H p (.dK [])) λps H2=>H2 p=some (.dK [])/\((∃kvs:List (Key×V),ps=kvs.map (λkv=>(kV kv.1,kv.2))/\kvs.length<=15/\Q (.ref p) (upd H2 p (.dK (zd8 [] kvs))))\/
 ∃b k v,ps=[(.ref b,v)]/\KeyAt K H2 k b/\Q (.ref p) (upd H2 p (dtH [(k,b,v)] p)))
theorem zq1{keys:List (Option Expr)}{trs:List (TE×TE)}(hu:X.A.units+2<cLine)(h:PPs X pos keys values trs)(hall:keys.all (·.isSome)=true)(hl:keys.length=values.length)(h0:keys≠[])
 (h15:keys.length<=15):PE X (.Dict keys values pos) (zxf X.K trs):=by
 intro pins s σ H Q I q
 have hn:=I.hok.fresh (vac s.heap.objs.size)
 have I1:=I.laid (a:=s.heap.objs.size) (o:=.dK []) (h':=s.heap.push {cls:=.type "dict",data:=.dict #[]}) (t':=s.toks) (λ_ _ q=>vae _ q) (vac _) (zkv s.heap I.big)
 refine wpAny_Dict_any hall hl h0 h15 (thn (h pins _ σ _ _ I1 (q _ hn)) λws s2 hq0=>?_)
 obtain⟨ps,H2,I2,rel,e,q2⟩:=hq0
 unfold storeAll
 rcases q2 with⟨kvs,ep,lk,q2⟩|⟨b,k,v,ep,kk,q2⟩
 .subst ep
  obtain⟨rs,c,rk⟩:=zf3 (P:=X.prog) (w:=X.w) rel
  obtain⟨z,hd,vs0,r0,dd⟩:=dk_of I2.hok e
  cases r0
  have hr:rs.length=kvs.length:=(vee rk).symm
  refine wpAny_storeAll (knd:=za6 X.prog X.w) ws rs [] s2 _ c dd (by rw[vcm,vd7];omega) λh' dd' hs=>⟨.ref s.heap.objs.size,_,?_,rfl,q2⟩
  have hz:(zd8 [] kvs).length<=sizeLine:=by
   have h1:=zc6 kvs []
   rw[vcm]at h1
   rw[vd7];omega
  have he:∃q,h'.get? s.heap.objs.size=some q:=let⟨q,_,_,hq,_⟩:=dd';⟨q,hq⟩
  exact zjv I2 (by rw[e];exact True.intro) hs he (zw3 hz hd (rk.merge .nil) dd')
 .subst ep
  cases rel with
  | @cons p0 w0 ps0 ws0 rp rr=>
   cases rr
   obtain⟨w1,w2⟩:=w0
   obtain⟨r1,r2⟩:=rp
   cases r1
   have d:DT X.K H2 s.heap.objs.size []:=.inr ⟨rfl,.inl e⟩
   obtain⟨_,y,us,rl,dd⟩:=d.dict I2
   cases rl
   rw[vdm]
   refine vaa (vaa (wpAny_dictSet_heap (knd:=dKind X.prog X.w) (hsz:=by simp) (by show X.A.units+1<cLine;omega) (kk.is I2) dd λh' dd' hs=>vag ?_))
   show wpAny _ _ (pure _) _ _ _
   refine vag ⟨.ref s.heap.objs.size,_,?_,rfl,q2⟩
   obtain⟨q,es,ep,hq,h2,h3,h4,_,h5⟩:=dd'
   refine zjv I2 (by rw[e];exact True.intro) hs ⟨q,hq⟩ (zse ⟨by rw[vd7];exact Nat.le_add_left 1 16777215,y,by simp,[(k,b,w2)],.cons ⟨rfl,rfl,r2⟩ .nil,q,es,ep,hq,h2,h3,h4⟩)
end
end L2
namespace L2
open PySem PySem.Spec PyProof.Rows PySem.SeqAt PySem.AutoSeq1 PySem.Calls
noncomputable def DTo(H:Hp)(a:Addr):Prop:=(∃kvs,Rd H a (.dK kvs))\/∃xs,H a=some (dtH xs a)
section
variable{X:Cx}{pins:List (Addr×Obj)}{σ:St}{H:Hp}{s:Shared}
theorem DTo.obj(I:Inv X pins σ H s){a:Addr}(d:DTo H a):∃o es ep,s.heap.get? a=some o/\o.cls=.type "dict"/\o.data=.dict es ep:=by
 rcases d with⟨kvs,rd⟩|⟨xs,e⟩
 .obtain⟨_,_,_,_,o,es,ep,h1,h2,h3,_⟩:=dk_rd I.hok rd
  exact⟨o,es,ep,h1,h2.1,h3⟩
 .obtain⟨_,_,_,_,_,o,es,ep,h1,h2,h3,_⟩:=zsf I.hok e
  exact⟨o,es,ep,h1,h2.1,h3⟩
end
end L2
namespace RF
open PySem
inductive W where
 |non|bl (b:Bool)|int (i:Int)|str (x:Str)|tup (ws:List W)|fz (ws:List W)|ref (i:Nat)
mutual
noncomputable def W.lt(n:Nat):W->Bool
 |.tup ws=>W.lts n ws
 |.fz ws=>W.lts n ws
 |.ref i=>Nat.blt i n
 |_=>true
noncomputable def W.lts(n:Nat):List W->Bool
 |[]=>true
 |w::ws=>W.lt n w&&W.lts n ws
end
inductive VO where
 |lst (ws:List W)|dk (kvs:List (L2.Key×W))|dt (ks ws:List W)
structure VH where
 n:Nat
 lo:Nat
 os:List VO
noncomputable def VH.get(h:VH)(i:Nat):Option VO:=if Nat.blt i h.n then h.os[h.n-1-i]? else none
noncomputable def VH.set(h:VH)(i:Nat)(o:VO):VH:=⟨h.n,if Nat.blt i h.lo then i else h.lo,h.os.set (h.n-1-i) o⟩
noncomputable def VH.new(h:VH)(o:VO):VH:=⟨h.n+1,h.lo,o::h.os⟩
inductive Res(α:Type)where
 |ok (a:α) (h:VH)|ex (x:W) (h:VH)|no
noncomputable def Res.bind{α β:Type}(r:Res α)(f:α->VH->Res β):Res β:=match r with
 |.ok a h=>f a h
 |.ex x h=>.ex x h
 |.no=>.no
noncomputable def Res.of{α:Type}(o:Option α)(h:VH):Res α:=match o with
 |some a=>.ok a h
 |none=>.no
inductive Op where
 |add|sub|mul|fdiv|mod|shl|pow
 deriving DecidableEq
inductive Cp where
 |eq|ne|lt|le|gt|ge|isn|notn|inn|nin
 deriving DecidableEq
inductive Ty where
 |int|bool|tuple|list|str|dict
 deriving DecidableEq
inductive Bi where
 |len|list|tuple|int|abs|max|min|all|lrng|rev
 deriving DecidableEq
inductive Mt where
 |append
 deriving DecidableEq
inductive Kd where
 |seq|rng1|enm|zip
 deriving DecidableEq
inductive Tg where
 |one (i:Nat)|many (is:List Nat)
 deriving DecidableEq
inductive E where
 |var (i:Nat)|cst (w:W)
 |nil|cons (a r:E)
 |tup (a:E)|lst (a:E)|dsp (a:E)
 |op (o:Op) (a b:E)|neg (a:E)
 |cmp (c:Cp) (a b:E)|chn (c d:Cp) (a b e:E)
 |not (a:E)|and (a b:E)|or (a b:E)|tru (a:E)|ite (c a b:E)
 |idx (a b:E)|slc (a:E) (bl:Bool) (lo:E) (bh:Bool) (hi:E)
 |call (f:Nat) (a:E)|bi (b:Bi) (a:E)|isi (t:Ty) (a:E)|mt (m:Mt) (o a:E)
 |lc (k:Kd) (a:E) (t:Tg) (ow:Nat) (ix:List Nat) (c e:E)
inductive S where
 |skip|seq (a b:S)|set (i:Nat) (e:E)|unp (is:List Nat) (e:E)|aug (i:Nat) (o:Op) (e:E)
 |put (o i v:E)|sw (o i p j v:E)|ite (c:E) (a b:S)|ret (e:E)|expr (e:E)|brk|cnt
 |for (k:Kd) (a:E) (t:Tg) (b:S)|whl (c:E) (b:S)|no
noncomputable abbrev En:=List (Option W)
inductive Fl where
 |nx (ρ:En)|rt (w:W)|bk (ρ:En)|ct (ρ:En)
noncomputable def mapO{α β:Type}(f:α->Option β):List α->Option (List β)
 |[]=>some []
 |a::r=>match f a with
  |some b=>(match mapO f r with
   |some bs=>some (b::bs)
   |none=>none)
  |none=>none
noncomputable def toD(h:VH):Nat->W->Option PyData
 |0,_=>none
 |n+1,w=>match w with
  |.non=>some .none
  |.bl b=>some (.bool b)
  |.int i=>some (.int i)
  |.str x=>some (.str x)
  |.tup ws=>(mapO (toD h n) ws).map .tuple
  |.fz ws=>(mapO (toD h n) ws).map .list
  |.ref i=>match h.get i with
   |some (.lst ws)=>(mapO (toD h n) ws).map .list
   |_=>none
noncomputable def eqW(h:VH)(x y:W):Option Bool:=
 match toD h 24 x,toD h 24 y with
 |some d,some e=>if SeqAt.shaped d&&SeqAt.shaped e then some (PyData.eqv d e)else none
 |_,_=>none
noncomputable def big:Nat:=16777216
noncomputable def zbk(i:Int):Bool:=decide (-(2 ^ 64)<i)&&decide (i<2 ^ 64)
noncomputable def opI:Op->Int->Int->Option Int
 |.add,i,j=>some (i+j)
 |.sub,i,j=>some (i-j)
 |.mul,i,j=>if zbk i||zbk j then some (i*j)else none
 |.fdiv,i,j=>if decide (0<j)&&decide (j<1073741824)then some (i/j)else none
 |.mod,i,j=>if decide (0<j)then some (i % j)else none
 |.shl,i,j=>if decide (0<=j)&&decide (j<=1000000)&&decide (i.natAbs<2 ^ 64)then some (i*2 ^ j.toNat)else none
 |.pow,i,j=>if decide (0<=j)&&decide (j<=1000000)&&decide (i.natAbs<2 ^ 64)then some (i ^ j.toNat)else none
noncomputable def opT:Op->List W->List W->Option (List W)
 |.add,xs,ys=>if Nat.ble (xs.length+ys.length) big then some (xs++ys)else none
 |_,_,_=>none
noncomputable def opL:Op->List W->List W->Option (List W)
 |.add,xs,ys=>if Nat.ble (xs.length+ys.length) big then some (xs++ys)else none
 |_,_,_=>none
noncomputable def fits(i:Int):Bool:=decide (-(2 ^ 62)<=i)&&decide (i<2 ^ 62)
noncomputable def repW(o:Op)(xs:List W)(k:Int):Option (List W):=match o with
 |.mul=>if fits k&&Nat.ble (xs.length*k.toNat) big then some (List.replicate k.toNat xs).flatten else none
 |_=>none
noncomputable def opW(o:Op)(x y:W)(h:VH):Res W:=match x,y with
 |.int i,.int j=>.of ((opI o i j).map .int) h
 |.tup xs,.tup ys=>.of ((opT o xs ys).map .tup) h
 |.tup xs,.int k=>.of ((repW o xs k).map .tup) h
 |.ref i,.ref j=>match h.get i,h.get j with
  |some (.lst xs),some (.lst ys)=>(match opL o xs ys with
   |some zs=>.ok (.ref h.n) (h.new (.lst zs))
   |none=>.no)
  |_,_=>.no
 |_,_=>.no
noncomputable def ipW(o:Op)(x y:W)(h:VH):Res W:=match x,y with
 |.int i,.int j=>(match o with
  |.add=>.ok (.int (i+j)) h
  |_=>.no)
 |_,_=>.no
noncomputable def eqY(h:VH)(x y:W):Option Bool:=eqW h x y
theorem eqYs:∀x y:W,eqY h x y=eqW h x y:=λ_ _=>rfl
noncomputable def cmpI:Cp->Int->Int->Option Bool
 |.lt,i,j=>some (decide (i<j))
 |.le,i,j=>some (decide (i<=j))
 |.gt,i,j=>some (decide (j<i))
 |.ge,i,j=>some (decide (j<=i))
 |_,_,_=>none
noncomputable def isNon:W->Bool
 |.non=>true
 |_=>false
noncomputable def seqW(h:VH):W->Option (List W)
 |.tup ws=>some ws
 |.fz ws=>some ws
 |.ref i=>match h.get i with
  |some (.lst ws)=>some ws
  |_=>none
 |_=>none
noncomputable def intD:W->Option Int
 |.int i=>some i
 |_=>none
noncomputable def keyD:W->Option L2.DK
 |.tup [.tup ws,.non]=>(mapO intD ws).map λis=>(is,none)
 |.tup [.tup ws,.int i]=>(mapO intD ws).map λis=>(is,some i)
 |_=>none
noncomputable def lookD:List W->List W->L2.DK->Option W
 |k::ks,w::ws,d=>if keyD k=some d then some w else lookD ks ws d
 |_,_,_=>none
noncomputable def inD(h:VH)(x y:W):Option Bool:=match y with
 |.ref a=>(match h.get a,keyD x with
  |some (.dt ks ws),some k=>some (lookD ks ws k).isSome
  |_,_=>none)
 |_=>none
noncomputable def idxD(h:VH)(a:Nat)(y:W):Option W:=match h.get a,keyD y with
 |some (.dt ks ws),some k=>lookD ks ws k
 |_,_=>none
noncomputable def keysD(h:VH)(x:W):Option (List W):=match x with
 |.ref a=>(match h.get a with
  |some (.dt ks _)=>some ks
  |_=>none)
 |_=>none
noncomputable def inW(h:VH)(x y:W):Option Bool:=match seqW h y,toD h 24 x with
 |some ws,some d=>(match mapO (toD h 24) ws with
  |some ds=>if ds.all SeqAt.shaped&&SeqAt.shaped d then some (L2.anyEq ds d)else none
  |none=>none)
 |_,_=>inD h x y
noncomputable def cmpW(c:Cp)(h:VH)(x y:W):Option Bool:=match c with
 |.inn=>inW h x y
 |.nin=>(inW h x y).map (!·)
 |.eq=>eqY h x y
 |.ne=>(eqW h x y).map (!·)
 |.isn=>if isNon y then some (isNon x)else none
 |.notn=>if isNon y then some (!isNon x)else none
 |c=>match x,y with
  |.int i,.int j=>cmpI c i j
  |_,_=>none
noncomputable def truW(h:VH):W->Option Bool
 |.bl b=>some b
 |.int i=>some (i != 0)
 |.non=>some false
 |.tup ws=>some (!ws.isEmpty)
 |.ref i=>match h.get i with
  |some (.lst ws)=>some (!ws.isEmpty)
  |_=>none
 |_=>none
noncomputable def keyW:W->Option L2.Key
 |.int i=>some (.inl i)
 |.str x=>some (.inr x)
 |_=>none
noncomputable def lookK(kvs:List (L2.Key×W))(k:L2.Key):Option W:=(kvs.find? λkv=>decide (kv.1=k)).map (·.2)
noncomputable def putKW(kvs:List (L2.Key×W))(k:L2.Key)(w:W):List (L2.Key×W):=
 if(kvs.any λkv=>decide (kv.1=k))=true then kvs.map (λkv=>if kv.1=k then(kv.1,w)else kv)else kvs++[(k,w)]
noncomputable def idxW(h:VH)(x y:W):Option W:=match x,y with
 |.tup ws,.int i=>L2.atI ws i
 |.fz ws,.int i=>L2.atI ws i
 |.ref a,.int i=>(match h.get a with
  |some (.lst ws)=>L2.atI ws i
  |some (.dk kvs)=>lookK kvs (.inl i)
  |_=>none)
 |.ref a,.str x=>(match h.get a with
  |some (.dk kvs)=>lookK kvs (.inr x)
  |_=>none)
 |.ref a,y=>idxD h a y
 |_,_=>none
noncomputable def partW(b:Bool)(w:W):Option (Option Int):=match b,w with
 |false,_=>some none
 |true,.int i=>some (some i)
 |_,_=>none
noncomputable def cutW(ws:List W)(lo hi:Option Int):List W:=(ws.drop (HT.sIx ws.length 0 lo)).take (HT.sIx ws.length ws.length hi-HT.sIx ws.length 0 lo)
noncomputable def slcW(x:W)(l u:Option Int)(h:VH):Res W:=match x with
 |.tup ws=>.ok (.tup (cutW ws l u)) h
 |.ref i=>(match h.get i with
  |some (.lst ws)=>.ok (.ref h.n) (h.new (.lst (cutW ws l u)))
  |_=>.no)
 |_=>.no
@[simp] theorem slcW_tup {ws:List W} {l u:Option Int} {h:VH}:slcW (.tup ws) l u h=.ok (.tup (cutW ws l u)) h:=rfl
noncomputable def tyIs:Ty->VH->W->Option Bool
 |t,_,.non=>some false
 |t,_,.bl _=>some (t == .int||t == .bool)
 |t,_,.int _=>some (t == .int)
 |t,_,.str _=>some (t == .str)
 |t,_,.tup _=>some (t == .tuple)
 |_,_,.fz _=>none
 |t,h,.ref i=>match h.get i with
  |some (.lst _)=>some (t == .list)
  |some (.dk _)=>some (t == .dict)
  |some (.dt _ _)=>some (t == .dict)
  |_=>none
noncomputable def lenW(xs:List W)(h:VH):Res W:=match xs with
 |[x]=>.of (match seqW h x with
  |some ws=>some (.int ws.length)
  |none=>(keysD h x).map λks=>.int ks.length) h
 |_=>.no
noncomputable def listW(xs:List W)(h:VH):Res W:=match xs with
 |[x]=>(match seqW h x with
  |some ws=>.ok (.ref h.n) (h.new (.lst ws))
  |none=>.no)
 |_=>.no
noncomputable def ze5(xs:List W)(h:VH):Res W:=match xs with
 |[x]=>.of (match seqW h x with
  |some ws=>some (.tup ws)
  |none=>none) h
 |_=>.no
noncomputable def intW(xs:List W)(h:VH):Res W:=match xs with
 |[.int i]=>.ok (.int i) h
 |[.bl b]=>.ok (.int (if b then 1 else 0)) h
 |_=>.no
noncomputable def absW(xs:List W)(h:VH):Res W:=match xs with
 |[.int i]=>.ok (.int (if i<0 then -i else i)) h
 |_=>.no
noncomputable def maxW(xs:List W)(h:VH):Res W:=match xs with
 |[.int i,.int j]=>.ok (.int (if j>i then j else i)) h
 |_=>.no
noncomputable def minW(xs:List W)(h:VH):Res W:=match xs with
 |[.int i,.int j]=>.ok (.int (if j<i then j else i)) h
 |_=>.no
noncomputable def setL(l j w:W)(h:VH):Res W:=match l,j with
 |.ref a,.int i=>(match h.get a with
  |some (.lst ws)=>(match L2.ixN ws.length i with
   |some k=>.ok .non (h.set a (.lst (ws.set k w)))
   |none=>.no)
  |_=>.no)
 |_,_=>.no
noncomputable def two:W->Option (W×W)
 |.tup [x,y]=>some (x,y)
 |_=>none
noncomputable def blW:W->Option Bool
 |.bl b=>some b
 |_=>none
noncomputable def allW(xs:List W)(h:VH):Res W:=match xs with
 |[.ref i]=>(match h.get i with
  |some (.lst ws)=>.of ((mapO blW ws).map λbs=>.bl (bs.all id)) h
  |_=>.no)
 |_=>.no
noncomputable def ints0(j:Nat):List W:=(List.range' 0 j).map λ(i:Nat)=>W.int (0+ (i:Int))
noncomputable def lrngW(xs:List W)(h:VH):Res W:=match xs with
 |[.int i]=>if decide (0<=i)&&Nat.ble i.toNat big then .ok (.ref h.n) (h.new (.lst (ints0 i.toNat)))else .no
 |_=>.no
noncomputable def revW(xs:List W)(h:VH):Res W:=match xs with
 |[.tup ws,.int (-1)]=>.ok (.tup ws.reverse) h
 |_=>.no
noncomputable def biW(b:Bi)(xs:List W)(h:VH):Res W:=match b with
 |.abs=>absW xs h
 |.max=>maxW xs h
 |.min=>minW xs h
 |.all=>allW xs h
 |.lrng=>lrngW xs h
 |.rev=>revW xs h
 |.len=>lenW xs h
 |.list=>listW xs h
 |.tuple=>ze5 xs h
 |.int=>intW xs h
noncomputable def mtW(m:Mt)(o:W)(xs:List W)(h:VH):Res W:=match m,o,xs with
 |.append,.ref i,[x]=>(match h.get i with
  |some (.lst ws)=>if Nat.blt ws.length big then .ok .non (h.set i (.lst (ws++[x])))else .no
  |_=>.no)
 |_,_,_=>.no
noncomputable def zij(m:Mt)(h:VH)(o:W):Bool:=match m,o with
 |.append,.ref i=>(match h.get i with
  |some (.lst _)=>true
  |_=>false)
 |_,_=>false
noncomputable def nxt(k:Kd)(x:W)(i:Nat)(h:VH):Option (Option W):=match k with
 |.seq=>(seqW h x).map λws=>ws[i]?
 |.enm=>(match x with
  |.tup ws=>some ((ws[i]?).map λw=>.tup [.int i,w])
  |_=>none)
 |.zip=>(match x with
  |.tup [u,v]=>(match seqW h u,seqW h v with
   |some ws,some zs=>some (match ws[i]?,zs[i]? with
    |some a,some b=>some (.tup [a,b])
    |_,_=>none)
   |_,_=>none)
  |_=>none)
 |.rng1=>(match x with
  |.tup [.int j]=>if fits j then some (if decide ((i:Int)<j)then some (.int (0+i))else none)else none
  |_=>none)
noncomputable def zaz:List Nat->List W->En->Option En
 |[],[],ρ=>some ρ
 |i::is,w::ws,ρ=>zaz is ws (ρ.set i (some w))
 |_,_,_=>none
noncomputable def tgW(t:Tg)(w:W)(h:VH)(ρ:En):Option En:=match t with
 |.one i=>some (ρ.set i (some w))
 |.many is=>match seqW h w with
  |some ws=>zaz is ws ρ
  |none=>none
noncomputable def fuel:Nat:=1000000
noncomputable def inner(ow:Nat)(ix:List Nat)(ρ:En):En:=List.replicate ow none++ix.map λj=>(ρ[j]?).join
noncomputable def lcG(nx:Nat->VH->Option (Option W))(tg:W->VH->En->Option En)(c:En->VH->Res W)(e:En->VH->Res W):Nat->Nat->En->VH->List W->Res (List W)
 |0,_,_,_,_=>.no
 |f+1,i,ρ,h,acc=>match nx i h with
  |none=>.no
  |some none=>.ok acc.reverse h
  |some (some w)=>match tg w h ρ with
   |none=>.no
   |some ρ=>(c ρ h).bind λb h=>match b with
    |.bl true=>(e ρ h).bind λy h=>lcG nx tg c e f (i+1) ρ h (y::acc)
    |.bl false=>lcG nx tg c e f (i+1) ρ h acc
    |_=>.no
noncomputable def forG(nx:Nat->VH->Option (Option W))(tg:W->VH->En->Option En)(b:En->VH->Res Fl):Nat->Nat->En->VH->Res Fl
 |0,_,_,_=>.no
 |f+1,i,ρ,h=>match nx i h with
  |none=>.no
  |some none=>.ok (.nx ρ) h
  |some (some w)=>match tg w h ρ with
   |none=>.no
   |some ρ=>(b ρ h).bind λfl h=>match fl with
    |.nx ρ=>forG nx tg b f (i+1) ρ h
    |.ct ρ=>forG nx tg b f (i+1) ρ h
    |.bk ρ=>.ok (.nx ρ) h
    |.rt w=>.ok (.rt w) h
noncomputable def whlG(c:En->VH->Res W)(b:En->VH->Res Fl):Nat->En->VH->Res Fl
 |0,_,_=>.no
 |f+1,ρ,h=>(c ρ h).bind λt h=>match t with
  |.bl false=>.ok (.nx ρ) h
  |.bl true=>(b ρ h).bind λfl h=>match fl with
   |.nx ρ=>whlG c b f ρ h
   |.ct ρ=>whlG c b f ρ h
   |.bk ρ=>.ok (.nx ρ) h
   |.rt w=>.ok (.rt w) h
  |_=>.no
noncomputable def zcb:List W->Option (List (L2.Key×W))
 |[]=>some []
 |k::v::r=>match keyW k with
  |some k=>(match zcb r with
   |some kvs=>some ((k,v)::kvs)
   |none=>none)
  |none=>none
 |_=>none
noncomputable def zky(kvs more:List (L2.Key×W)):List (L2.Key×W):=more.foldl (λacc kv=>putKW acc kv.1 kv.2) kvs
noncomputable def dkO:List (L2.Key×W)->VO
 |[]=>.dt [] []
 |kvs=>.dk (zky [] kvs)
noncomputable def dspD(ys:List W)(h:VH):Res W:=match ys with
 |[k,w]=>(match keyD k with
  |some _=>.ok (.ref h.n) (h.new (.dt [k] [w]))
  |none=>.no)
 |_=>.no
noncomputable def putD(ρ:En)(a:Nat)(y w:W)(h:VH):Res Fl:=match h.get a,keyD y with
 |some (.dt ks ws),some k=>if(lookD ks ws k).isNone&&Nat.blt ks.length big then .ok (.nx ρ) (h.set a (.dt (ks++[y]) (ws++[w])))else .no
 |_,_=>.no
noncomputable abbrev Call:=Nat->List W->VH->Res W
noncomputable def ev(cl:Call):E->En->VH->Res W
 |.var i,ρ,h=>.of (ρ[i]?).join h
 |.cst w,_,h=>.ok w h
 |.nil,_,h=>.ok (.tup []) h
 |.cons a r,ρ,h=>(ev cl a ρ h).bind λx h=>(ev cl r ρ h).bind λy h=>match y with
  |.tup ys=>.ok (.tup (x::ys)) h
  |_=>.no
 |.tup a,ρ,h=>(ev cl a ρ h).bind λy h=>match y with
  |.tup ys=>if Nat.ble ys.length 1000 then .ok (.tup ys) h else .no
  |_=>.no
 |.lst a,ρ,h=>(ev cl a ρ h).bind λy h=>match y with
  |.tup ys=>if Nat.ble ys.length 1000 then .ok (.ref h.n) (h.new (.lst ys))else .no
  |_=>.no
 |.dsp a,ρ,h=>(ev cl a ρ h).bind λy h=>match y with
  |.tup ys=>(match zcb ys with
   |some kvs=>if Nat.ble kvs.length 15 then .ok (.ref h.n) (h.new (dkO kvs))else .no
   |none=>dspD ys h)
  |_=>.no
 |.op o a b,ρ,h=>(ev cl a ρ h).bind λx h=>(ev cl b ρ h).bind λy h=>opW o x y h
 |.neg a,ρ,h=>(ev cl a ρ h).bind λx h=>match x with
  |.int i=>.ok (.int (-i)) h
  |_=>.no
 |.cmp c a b,ρ,h=>(ev cl a ρ h).bind λx h=>(ev cl b ρ h).bind λy h=>.of ((cmpW c h x y).map .bl) h
 |.chn c d a b e,ρ,h=>(ev cl a ρ h).bind λx h=>(ev cl b ρ h).bind λy h=>match cmpW c h x y with
  |some true=>(ev cl e ρ h).bind λz h=>.of ((cmpW d h y z).map .bl) h
  |some false=>.ok (.bl false) h
  |none=>.no
 |.not a,ρ,h=>(ev cl a ρ h).bind λx h=>match x with
  |.bl b=>.ok (.bl (!b)) h
  |_=>.no
 |.and a b,ρ,h=>(ev cl a ρ h).bind λx h=>match x with
  |.bl true=>ev cl b ρ h
  |.bl false=>.ok (.bl false) h
  |_=>.no
 |.or a b,ρ,h=>(ev cl a ρ h).bind λx h=>match x with
  |.bl true=>.ok (.bl true) h
  |.bl false=>ev cl b ρ h
  |_=>.no
 |.tru a,ρ,h=>(ev cl a ρ h).bind λx h=>.of ((truW h x).map .bl) h
 |.ite c a b,ρ,h=>(ev cl c ρ h).bind λx h=>match x with
  |.bl true=>ev cl a ρ h
  |.bl false=>ev cl b ρ h
  |_=>.no
 |.idx a b,ρ,h=>(ev cl a ρ h).bind λx h=>(ev cl b ρ h).bind λy h=>.of (idxW h x y) h
 |.slc a bl lo bh hi,ρ,h=>(ev cl a ρ h).bind λx h=>(ev cl lo ρ h).bind λl h=>(ev cl hi ρ h).bind λu h=>match partW bl l,partW bh u with
  |some l,some u=>slcW x l u h
  |_,_=>.no
 |.call f a,ρ,h=>(ev cl a ρ h).bind λy h=>match y with
  |.tup ys=>cl f ys h
  |_=>.no
 |.bi b a,ρ,h=>(ev cl a ρ h).bind λy h=>match y with
  |.tup ys=>biW b ys h
  |_=>.no
 |.isi t a,ρ,h=>(ev cl a ρ h).bind λx h=>.of ((tyIs t h x).map .bl) h
 |.mt m o a,ρ,h=>(ev cl o ρ h).bind λx h=>if zij m h x then(ev cl a ρ h).bind λy h=>match y with
  |.tup ys=>mtW m x ys h
  |_=>.no
  else .no
 |.lc k a t ow ix c e,ρ,h=>(ev cl a ρ h).bind λx h=>(lcG (nxt k x) (tgW t) (ev cl c) (ev cl e) fuel 0 (inner ow ix ρ) h []).bind λys h=>if Nat.ble ys.length big then .ok (.ref h.n) (h.new (.lst ys))else .no
noncomputable def exs(cl:Call):S->En->VH->Res Fl
 |.skip,ρ,h=>.ok (.nx ρ) h
 |.seq a b,ρ,h=>(exs cl a ρ h).bind λfl h=>match fl with
  |.nx ρ=>exs cl b ρ h
  |fl=>.ok fl h
 |.set i e,ρ,h=>(ev cl e ρ h).bind λw h=>.ok (.nx (ρ.set i (some w))) h
 |.unp is e,ρ,h=>(ev cl e ρ h).bind λw h=>.of ((tgW (.many is) w h ρ).map .nx) h
 |.aug i o e,ρ,h=>match(ρ[i]?).join with
  |some x=>(ev cl e ρ h).bind λy h=>(ipW o x y h).bind λz h=>.ok (.nx (ρ.set i (some z))) h
  |none=>.no
 |.put o i v,ρ,h=>(ev cl v ρ h).bind λw h=>(ev cl o ρ h).bind λx h=>(ev cl i ρ h).bind λy h=>match x,y with
  |.ref a,.int j=>(match h.get a with
   |some (.lst ws)=>(match L2.ixN ws.length j with
    |some k=>.ok (.nx ρ) (h.set a (.lst (ws.set k w)))
    |none=>.no)
   |_=>.no)
  |.ref a,y=>putD ρ a y w h
  |_,_=>.no
 |.sw o i p j v,ρ,h=>(ev cl v ρ h).bind λw h=>(Res.of (two w) h).bind λz h=>(ev cl o ρ h).bind λa h=>(ev cl i ρ h).bind λb h=>(setL a b z.1 h).bind λ_ h=>(ev cl p ρ h).bind λc h=>(ev cl j ρ h).bind λd h=>(setL c d z.2 h).bind λ_ h=>.ok (.nx ρ) h
 |.ite c a b,ρ,h=>(ev cl c ρ h).bind λx h=>match x with
  |.bl true=>exs cl a ρ h
  |.bl false=>exs cl b ρ h
  |_=>.no
 |.ret e,ρ,h=>(ev cl e ρ h).bind λw h=>.ok (.rt w) h
 |.expr e,ρ,h=>(ev cl e ρ h).bind λ_ h=>.ok (.nx ρ) h
 |.brk,ρ,h=>.ok (.bk ρ) h
 |.cnt,ρ,h=>.ok (.ct ρ) h
 |.for k a t b,ρ,h=>(ev cl a ρ h).bind λx h=>forG (nxt k x) (tgW t) (exs cl b) fuel 0 ρ h
 |.whl c b,ρ,h=>whlG (ev cl c) (exs cl b) fuel ρ h
 |.no,_,_=>.no
structure Fn where
 ps:Nat
 n:Nat
 body:S
noncomputable def leave(h:VH)(w:W)(h':VH):Res W:=
 if Nat.ble h.n h'.lo&&W.lt h.n w then .ok w h else .ok w ⟨h'.n,if Nat.ble h.lo h'.lo then h.lo else h'.lo,h'.os⟩
noncomputable def run(F:Nat->Option Fn):Nat->Call
 |0,_,_,_=>.no
 |k+1,f,ws,h=>match F f with
  |some fn=>if Nat.beq ws.length fn.ps then
   (exs (run F k) fn.body (ws.map some++List.replicate (fn.n-fn.ps) none) ⟨h.n,h.n,h.os⟩).bind λfl h'=>match fl with
     |.nx _=>leave h .non h'
     |.rt w=>leave h w h'
     |_=>.no
   else .no
  |none=>.no
open L2 PyProof.Rows PySem.Spec
noncomputable def Fz(K:PySem.W.Frag)(H:Hp)(a:Addr)(xs:List V):Prop:=
 (∃o,H a=some (.frz o (.lst xs)))\/∃(o:Obj) (its:Array Value) (n:Nat),K.lookup a=some o/\o.cls=.type "list"/\o.dict=none/\o.data=.seq its n/\its.size<=sizeLine/\Vals xs its.toList
theorem Fz.sq{K:PySem.W.Frag}{H:Hp}{a:Addr}{xs:List V}(h:Fz K H a xs):SqL K H a xs:=h.elim (λ⟨o,q⟩=>.inl (.inr ⟨o,q⟩)) .inr
mutual
inductive VRep(K:PySem.W.Frag)(m:Nat->Addr)(n:Nat)(H:Hp):V->W->Prop
 |non:VRep K m n H .non .non
 |bl (b:Bool):VRep K m n H (.bl b) (.bl b)
 |int (i:Int):VRep K m n H (.int i) (.int i)
 |str (x:Str):VRep K m n H (.str x) (.str x)
 |tup {a:Addr} {vs:List V} {ws:List W}:SqT K H a vs->VReps K m n H vs ws->VRep K m n H (.ref a) (.tup ws)
 |fz {a:Addr} {vs:List V} {ws:List W}:Fz K H a vs->VReps K m n H vs ws->VRep K m n H (.ref a) (.fz ws)
 |ref {i:Nat}:i<n->VRep K m n H (.ref (m i)) (.ref i)
inductive VReps(K:PySem.W.Frag)(m:Nat->Addr)(n:Nat)(H:Hp):List V->List W->Prop
 |nil:VReps K m n H [] []
 |cons {v:V} {w:W} {vs:List V} {ws:List W}:VRep K m n H v w->VReps K m n H vs ws->VReps K m n H (v::vs) (w::ws)
end
inductive KReps(K:PySem.W.Frag)(m:Nat->Addr)(n:Nat)(H:Hp):List (Key×V)->List (Key×W)->Prop
 |nil:KReps K m n H [] []
 |cons {k:Key} {v:V} {w:W} {vs:List (Key×V)} {ws:List (Key×W)}:VRep K m n H v w->KReps K m n H vs ws->KReps K m n H ((k,v)::vs) ((k,w)::ws)
noncomputable def ORep(K:PySem.W.Frag)(m:Nat->Addr)(n:Nat)(H:Hp)(a:Addr):VO->Prop
 |.lst ws=>∃vs,H a=some (.lst vs)/\VReps K m n H vs ws
 |.dk kvs=>∃kv,Rd H a (.dK kv)/\KReps K m n H kv kvs
 |.dt ks ws=>∃xs:DX,(H a=some (dtH xs a)\/(xs=[]/\H a=some (.dK [])))/\mapO keyD ks=some (xs.map (·.1))/\VReps K m n H (xs.map λx=>.ref x.2.1) ks/\VReps K m n H (xs.map λx=>x.2.2) ws
structure Rel(K:PySem.W.Frag)(m:Nat->Addr)(h:VH)(H:Hp):Prop where
 obj:∀i,i<h.n->∃o,h.get i=some o/\ORep K m h.n H (m i) o
 inj:∀i j,i<h.n->j<h.n->m i=m j->i=j
 len:h.os.length=h.n
structure Stp(m:Nat->Addr)(n:Nat)(H:Hp)(m':Nat->Addr)(n':Nat)(H':Hp):Prop where
 le:n<=n'
 same:∀i,i<n->m' i=m i
 new:∀i,n<=i->i<n'->H (m' i)=none
 apart:∀i j,n<=i->i<n'->j<n->m' i≠m' j
 tup:∀b vs,H b=some (.tup vs)->H' b=some (.tup vs)
 frz:∀b o u,H b=some (.frz o u)->H' b=some (.frz o u)
 keep:∀b o,(∀i,i<n->m i≠b)->H b=some o->H' b=some o
section
variable{K:PySem.W.Frag}{m m' m1 m2:Nat->Addr}{n n' n1 n2:Nat}{h h':VH}{H H' H1 H2:Hp}
theorem Stp.refl:Stp m n H m n H:=⟨vac _,λ_ _=>rfl,λi a b=>absurd b (vch.mpr a),λi j a b=>absurd b (vch.mpr a),λ_ _ q=>q,λ_ _ _ q=>q,λ_ _ _ q=>q⟩
theorem Stp.trans(a:Stp m n H m1 n1 H1)(b:Stp m1 n1 H1 m2 n2 H2):Stp m n H m2 n2 H2 where
 le:=vbe a.le b.le
 same:=λi hi=>(b.same i (vak hi a.le)).trans (a.same i hi)
 new:=λi hi hi2=>by
  by_cases hc:i<n1
  .rw[b.same i hc];exact a.new i hi hc
  .have hc:=vch.mp hc
   cases q:H (m2 i)with
   |none=>rfl
   |some o=>
    have q1:H1 (m2 i)=none:=b.new i hc hi2
    rw[a.keep _ o (λj hj z=>b.apart i j hc hi2 (vak hj a.le) ((b.same j (vak hj a.le)).trans ((a.same j hj).trans z)).symm) q]at q1
    cases q1
 apart:=λi j hi hi2 hj=>by
  by_cases hc:i<n1
  .rw[b.same i hc,b.same j (vak hj a.le)];exact a.apart i j hi hc hj
  .exact b.apart i j (vch.mp hc) hi2 (vak hj a.le)
 tup:=λc vs q=>b.tup c vs (a.tup c vs q)
 frz:=λc o u q=>b.frz c o u (a.frz c o u q)
 keep:=λc o hc q=>b.keep c o (λi hi=>by
  by_cases hl:i<n
  .rw[a.same i hl];exact hc i hl
  .intro z
   have:=a.new i (vch.mp hl) hi
   rw[z,q]at this;cases this) (a.keep c o hc q)
theorem Stp.sqT{a:Addr}(s:Stp m n H m' n' H')(q:SqT K H a vs):SqT K H' a vs:=by
 rcases q with(q|⟨o,q⟩)|q
 .exact .inl (.inl (s.tup _ _ q))
 .exact .inl (.inr ⟨o,s.frz _ _ _ q⟩)
 .exact .inr q
theorem Stp.fz{a:Addr}(s:Stp m n H m' n' H')(q:Fz K H a vs):Fz K H' a vs:=by
 rcases q with⟨o,q⟩|q
 .exact .inl ⟨o,s.frz _ _ _ q⟩
 .exact .inr q
mutual
theorem VRep.stp(s:Stp m n H m' n' H'):∀{v:V} {w:W},VRep K m n H v w->VRep K m' n' H' v w
 |_,_,.non=>.non
 |_,_,.bl b=>.bl b
 |_,_,.int b=>.int b
 |_,_,.str b=>.str b
 |_,_,.tup q r=>.tup (s.sqT q) (VReps.stp s r)
 |_,_,.fz q r=>.fz (s.fz q) (VReps.stp s r)
 |_,_,.ref (i:=i) q=>by rw[<-s.same i q];exact .ref (vak q s.le)
theorem VReps.stp(s:Stp m n H m' n' H'):∀{vs:List V} {ws:List W},VReps K m n H vs ws->VReps K m' n' H' vs ws
 |_,_,.nil=>.nil
 |_,_,.cons q r=>.cons (VRep.stp s q) (VReps.stp s r)
end
theorem KReps.stp(s:Stp m n H m' n' H'):∀{vs:List (Key×V)} {ws:List (Key×W)},KReps K m n H vs ws->KReps K m' n' H' vs ws
 |_,_,.nil=>.nil
 |_,_,.cons q r=>.cons (q.stp s) (KReps.stp s r)
theorem VReps.length:∀{vs:List V} {ws:List W},VReps K m n H vs ws->vs.length=ws.length
 |_,_,.nil=>rfl
 |_,_,.cons _ r=>by rw[vaj,vaj,VReps.length r]
theorem VReps.get:∀{vs:List V} {ws:List W} {i:Nat} {w:W},VReps K m n H vs ws->ws[i]?=some w->∃v,vs[i]?=some v/\VRep K m n H v w
 |_,_,_,_,.nil,e=>by simp at e
 |_,_,0,_,.cons q _,e=>by simp at e;subst e;exact⟨_,rfl,q⟩
 |_,_,i+1,w,.cons _ r,e=>by
  obtain⟨v,h1,h2⟩:=VReps.get (i:=i) (w:=w) r (by simpa using e)
  exact⟨v,by simpa using h1,h2⟩
theorem VReps.append:∀{vs us:List V} {ws zs:List W},VReps K m n H vs ws->VReps K m n H us zs->VReps K m n H (vs++us) (ws++zs)
 |_,_,_,_,.nil,r=>r
 |_,_,_,_,.cons q r,t=>.cons q (VReps.append r t)
theorem VReps.drop:∀(k:Nat) {vs:List V} {ws:List W},VReps K m n H vs ws->VReps K m n H (vs.drop k) (ws.drop k)
 |0,_,_,r=>r
 |_+1,_,_,.nil=>.nil
 |k+1,_,_,.cons _ r=>VReps.drop k r
theorem VReps.take:∀(k:Nat) {vs:List V} {ws:List W},VReps K m n H vs ws->VReps K m n H (vs.take k) (ws.take k)
 |0,_,_,r=>.nil
 |_+1,_,_,.nil=>.nil
 |k+1,_,_,.cons q r=>.cons q (VReps.take k r)
theorem VReps.set(q:VRep K m n H v w):∀(k:Nat) {vs:List V} {ws:List W},VReps K m n H vs ws->VReps K m n H (vs.set k v) (ws.set k w)
 |_,_,_,.nil=>.nil
 |0,_,_,.cons _ r=>.cons q r
 |k+1,_,_,.cons p r=>.cons p (VReps.set q k r)
theorem ORep.stp{a:Addr}(s:Stp m n H m' n' H')(e:H' a=H a)(q:ORep K m n H a o):ORep K m' n' H' a o:=by
 cases o with
 |lst ws=>obtain⟨vs,h1,h2⟩:=q;exact⟨vs,e.trans h1,h2.stp s⟩
 |dk ws=>obtain⟨vs,h1,h2⟩:=q;exact⟨vs,h1.imp (λz=>e.trans z) λ⟨o,z⟩=>⟨o,e.trans z⟩,h2.stp s⟩
 |dt ks ws=>obtain⟨xs,h1,h0,h2,h3⟩:=q;exact⟨xs,h1.imp (λz=>e.trans z) λ⟨o,z⟩=>⟨o,e.trans z⟩,h0,h2.stp s,h3.stp s⟩
theorem ORep.some{a:Addr}(q:ORep K m n H a o):∃u,H a=some u:=by
 cases o with
 |lst ws=>obtain⟨vs,h1,h2⟩:=q;exact⟨_,h1⟩
 |dk ws=>
  obtain⟨vs,h1,h2⟩:=q
  rcases h1 with h1|⟨o,h1⟩<;>exact⟨_,h1⟩
 |dt ks ws=>
  obtain⟨xs,h1,_⟩:=q
  rcases h1 with h1|⟨_,h1⟩<;>exact⟨_,h1⟩
theorem zao{i j:Nat}:Nat.blt i j=true↔i<j:=by
 unfold Nat.blt;rw[vd1];exact Iff.rfl
theorem zaq{i:Nat}(q:h.get i=some o):i<h.n:=by
 unfold VH.get at q
 split at q
 .rename_i z;exact zao.mp z
 .cases q
theorem Rel.at_(r:Rel K m h H){i:Nat}(q:h.get i=some o):ORep K m h.n H (m i) o:=by
 obtain⟨o',h1,h2⟩:=r.obj i (zaq q)
 rw[q]at h1;cases h1;exact h2
theorem Rel.lst(r:Rel K m h H){i:Nat}(q:h.get i=some (.lst ws)):∃vs,H (m i)=some (.lst vs)/\VReps K m h.n H vs ws:=r.at_ q
theorem Rel.dk(r:Rel K m h H){i:Nat}{ws:List (Key×W)}(q:h.get i=some (.dk ws)):∃vs,Rd H (m i) (.dK vs)/\KReps K m h.n H vs ws:=r.at_ q
theorem Rel.dt(r:Rel K m h H){i:Nat}(q:h.get i=some (.dt ks ws)):∃xs:DX,(H (m i)=some (dtH xs (m i))\/(xs=[]/\H (m i)=some (.dK [])))/\mapO keyD ks=some (xs.map (·.1))/\VReps K m h.n H (xs.map λx=>.ref x.2.1) ks/\VReps K m h.n H (xs.map λx=>x.2.2) ws:=r.at_ q
theorem zah{i:Nat}(hi:i<h.n):(h.new o).get i=h.get i:=by
 unfold VH.get VH.new
 have h1:Nat.blt i (h.n+1)=true:=zao.mpr (Nat.lt_succ_of_lt hi)
 have h2:Nat.blt i h.n=true:=zao.mpr hi
 simp only[h1,h2,vbm]
 have:h.n+1-1-i=(h.n-1-i)+1:=by omega
 rw[this];rfl
theorem zal:(h.new o).get h.n=some o:=by
 unfold VH.get VH.new
 have h1:Nat.blt h.n (h.n+1)=true:=zao.mpr (vbx _)
 simp only[h1,vbm]
 have:h.n+1-1-h.n=0:=by omega
 rw[this];rfl
theorem Rel.alloc(r:Rel K m h H){p:Addr}{o:VO}(hp:H p=none)(hu:∀t,u≠.tup t)
 (ho:Stp m h.n H (λi=>if i=h.n then p else m i) (h.n+1) (upd H p u)->ORep K (λi=>if i=h.n then p else m i) (h.n+1) (upd H p u) p o) :
 Stp m h.n H (λi=>if i=h.n then p else m i) (h.n+1) (upd H p u)/\Rel K (λi=>if i=h.n then p else m i) (h.new o) (upd H p u):=by
 have tr:∀i,i<h.n->m i≠p:=λi hi z=>by
  obtain⟨o',_,h2⟩:=r.obj i hi
  obtain⟨u',h3⟩:=h2.some
  rw[z,hp]at h3;cases h3
 have st:Stp m h.n H (λi=>if i=h.n then p else m i) (h.n+1) (upd H p u):=by
  refine⟨vdy _,λi hi=>by simp only[if_neg (vbd hi)],λi hi hi2=>?_,λi j hi hi2 hj=>?_,λb vs q=>?_,λb o u q=>?_,λb o _ q=>?_⟩
  .have:i=h.n:=by omega
   subst this;simp only[vbm];exact hp
  .have:i=h.n:=by omega
   subst this;simp only[vbm,if_neg (vbd hj)];exact(tr j hj).symm
  .rw[zai (zae q hp)];exact q
  .rw[zai (zae q hp)];exact q
  .rw[zai (zae q hp)];exact q
 refine⟨st,⟨λi hi=>?_,λi j hi hj z=>?_,?_⟩⟩
 .have hi:i<h.n+1:=hi
  by_cases e:i=h.n
  .subst e;exact⟨o,zal,by simp only[vbm];exact ho st⟩
  .have hl:i<h.n:=by omega
   obtain⟨o',h1,h2⟩:=r.obj i hl
   refine⟨o',(zah hl).trans h1,?_⟩
   simp only[if_neg e]
   exact ORep.stp st (zai (tr i hl)) h2
 .have hi:i<h.n+1:=hi
  have hj:j<h.n+1:=hj
  by_cases e:i=h.n
  .by_cases e2:j=h.n
   .omega
   .simp only[if_pos e,if_neg e2]at z
    exact absurd z.symm (tr j (by omega))
  .by_cases e2:j=h.n
   .simp only[if_neg e,if_pos e2]at z
    exact absurd z (tr i (by omega))
   .simp only[if_neg e,if_neg e2]at z
    exact r.inj i j (by omega) (by omega) z
 .show(o::h.os).length=h.n+1
  rw[vaj,r.len]
theorem zik(r:Rel K m h H){i:Nat}(hi:i<h.n):(h.set i o).get i=some o:=by
 unfold VH.get VH.set
 have h1:Nat.blt i h.n=true:=zao.mpr hi
 simp only[h1,vbm]
 rw[vce]
 rw[r.len];omega
theorem zds{i j:Nat}(hi:i<h.n)(hj:j≠i):(h.set i o).get j=h.get j:=by
 unfold VH.get VH.set
 by_cases h1:j<h.n
 .have h2:Nat.blt j h.n=true:=zao.mpr h1
  simp only[h2,vbm]
  rw[vc7]
  omega
 .have h2:Nat.blt j h.n=false:=by
   cases q:Nat.blt j h.n with
   |false=>rfl
   |true=>exact absurd (zao.mp q) h1
  simp only[h2,vap,vbl]
theorem Rel.write(r:Rel K m h H){i:Nat}{u u0:HO}(hi:i<h.n)(h0:H (m i)=some u0)(hn:∀t,u0≠.tup t)(hf:∀o t,u0≠.frz o t)
 (ho:Stp m h.n H m h.n (upd H (m i) u)->ORep K m h.n (upd H (m i) u) (m i) o) :
 Stp m h.n H m h.n (upd H (m i) u)/\Rel K m (h.set i o) (upd H (m i) u):=by
 have st:Stp m h.n H m h.n (upd H (m i) u):=by
  refine⟨vac _,λ_ _=>rfl,λj a b=>absurd b (vch.mpr a),λj k a b=>absurd b (vch.mpr a),λb vs q=>?_,λb o t q=>?_,λb o nb q=>?_⟩
  .rw[zai (ne_of q h0 (λz=>hn vs z.symm))];exact q
  .rw[zai (ne_of q h0 (λz=>hf o t z.symm))];exact q
  .rw[zai (nb i hi).symm];exact q
 refine⟨st,⟨λj hj=>?_,λa b ha hb=>r.inj a b ha hb,?_⟩⟩
 .have hj:j<h.n:=hj
  by_cases e:j=i
  .subst e;exact⟨o,zik r hj,ho st⟩
  .obtain⟨o',h1,h2⟩:=r.obj j hj
   exact⟨o',(zds hi e).trans h1,ORep.stp st (zai λz=>e (r.inj j i hj hi z)) h2⟩
 .show(h.os.set _ o).length=h.n
  rw[vcx,r.len]
theorem Rel.more(r:Rel K m h H){p:Addr}(hp:H p=none):Stp m h.n H m h.n (upd H p u)/\Rel K m h (upd H p u):=by
 have st:Stp m h.n H m h.n (upd H p u):=by
  refine⟨vac _,λ_ _=>rfl,λj a b=>absurd b (vch.mpr a),λj k a b=>absurd b (vch.mpr a),λb vs q=>?_,λb o t q=>?_,λb o nb q=>?_⟩
  .rw[zai (zae q hp)];exact q
  .rw[zai (zae q hp)];exact q
  .rw[zai (zae q hp)];exact q
 refine⟨st,⟨λj hj=>?_,r.inj,r.len⟩⟩
 obtain⟨o',h1,h2⟩:=r.obj j hj
 obtain⟨u',h3⟩:=h2.some
 exact⟨o',h1,ORep.stp st (zai (zae h3 hp)) h2⟩
end
theorem zug{α β:Type}{r:Res α}{f:α->VH->Res β}{b:β}(q:r.bind f=.ok b h'):∃a h1,r=.ok a h1/\f a h1=.ok b h':=by
 cases r with
 |ok a h=>exact⟨a,h,rfl,q⟩
 |ex x h=>cases q
 |no=>cases q
theorem zac{α β:Type}{r:Res α}{f:α->VH->Res β}{w:β}{P:Prop}(e:r.bind f=.ok w h')(k:∀x h1,r=.ok x h1->f x h1=.ok w h'->P):P:=by
 obtain⟨x,h1,a,b⟩:=zug e
 exact k x h1 a b
theorem of_ok{α:Type}{o:Option α}{a:α}(q:Res.of o h=.ok a h'):o=some a/\h'=h:=by
 cases o with
 |none=>cases q
 |some b=>cases q;exact⟨rfl,rfl⟩
structure Fr(K:PySem.W.Frag)(m:Nat->Addr)(n:Nat)(H:Hp)(σ:L2.St)(ρ:En):Prop where
 len:σ.length=ρ.length
 val:∀(i:Nat)(w:W),ρ[i]?=some (some w)->∃v,σ[i]?=some (some v)/\VRep K m n H v w
noncomputable abbrev FE:=En->VH->Res W
noncomputable abbrev FS:=En->VH->Res Fl
noncomputable def lft(K:PySem.W.Frag)(f:FE):TE:=λσ H Q=>∃ρ h m w h',Fr K m h.n H σ ρ/\Rel K m h H/\f ρ h=.ok w h'/\
 ∀v H' m',Stp m h.n H m' h'.n H'->Rel K m' h' H'->VRep K m' h'.n H' v w->Q v H'
noncomputable def lftT(K:PySem.W.Frag)(f:FE):TT:=λσ H Q=>∃ρ h m b h',Fr K m h.n H σ ρ/\Rel K m h H/\f ρ h=.ok (.bl b) h'/\
 ∀H' m',Stp m h.n H m' h'.n H'->Rel K m' h' H'->Q b H'
noncomputable def lftA(K:PySem.W.Frag)(f:FE):TA:=λσ H Q=>∃ρ h m ws h',Fr K m h.n H σ ρ/\Rel K m h H/\f ρ h=.ok (.tup ws) h'/\
 ∀vs H' m',Stp m h.n H m' h'.n H'->Rel K m' h' H'->VReps K m' h'.n H' vs ws->Q vs H'
section
variable{K:PySem.W.Frag}{m:Nat->Addr}{σ:L2.St}{H:Hp}{P:Prop}{fa:FE}{ρ:En}{h h':VH}
theorem lft.el(q:lft K fa σ H Q)(k:∀ρ h m w h',Fr K m h.n H σ ρ->Rel K m h H->fa ρ h=.ok w h'->(∀v H' m',Stp m h.n H m' h'.n H'->Rel K m' h' H'->VRep K m' h'.n H' v w->Q v H')->P):P:=by
 obtain⟨ρ,h,m,w,h',f,r,e,k'⟩:=q
 exact k ρ h m w h' f r e k'
theorem lft.mk(f:Fr K m h.n H σ ρ)(r:Rel K m h H)(e:fa ρ h=.ok w h')(k:∀v H' m',Stp m h.n H m' h'.n H'->Rel K m' h' H'->VRep K m' h'.n H' v w->Q v H'):lft K fa σ H Q:=⟨ρ,h,m,w,h',f,r,e,k⟩
theorem lftT.el{Q:Bool->Hp->Prop}(q:lftT K fa σ H Q)(k:∀ρ h m b h',Fr K m h.n H σ ρ->Rel K m h H->fa ρ h=.ok (.bl b) h'->(∀H' m',Stp m h.n H m' h'.n H'->Rel K m' h' H'->Q b H')->P):P:=by
 obtain⟨ρ,h,m,w,h',f,r,e,k'⟩:=q
 exact k ρ h m w h' f r e k'
theorem lftT.mk{Q:Bool->Hp->Prop}{b:Bool}(f:Fr K m h.n H σ ρ)(r:Rel K m h H)(e:fa ρ h=.ok (.bl b) h')(k:∀H' m',Stp m h.n H m' h'.n H'->Rel K m' h' H'->Q b H'):lftT K fa σ H Q:=⟨ρ,h,m,b,h',f,r,e,k⟩
theorem lftA.el{Q:List V->Hp->Prop}(q:lftA K fa σ H Q)(k:∀ρ h m ws h',Fr K m h.n H σ ρ->Rel K m h H->fa ρ h=.ok (.tup ws) h'->(∀vs H' m',Stp m h.n H m' h'.n H'->Rel K m' h' H'->VReps K m' h'.n H' vs ws->Q vs H')->P):P:=by
 obtain⟨ρ,h,m,w,h',f,r,e,k'⟩:=q
 exact k ρ h m w h' f r e k'
theorem lftA.mk{Q:List V->Hp->Prop}(f:Fr K m h.n H σ ρ)(r:Rel K m h H)(e:fa ρ h=.ok (.tup ws) h')(k:∀vs H' m',Stp m h.n H m' h'.n H'->Rel K m' h' H'->VReps K m' h'.n H' vs ws->Q vs H'):lftA K fa σ H Q:=⟨ρ,h,m,ws,h',f,r,e,k⟩
end
noncomputable abbrev SE(X:Cx)(e:Expr)(f:FE):Prop:=PE X e (lft X.K f)
noncomputable abbrev ST(X:Cx)(e:Expr)(f:FE):Prop:=PT X e (lftT X.K f)
noncomputable abbrev SW(X:Cx)(e:Expr)(f:FE):Prop:=PW X e (lftT X.K f)
noncomputable abbrev SA(X:Cx)(es:List Expr)(f:FE):Prop:=PA X es (lftA X.K f)
theorem _root_.L2.PE.imp(h:PE X e t)(k:∀σ H Q,t' σ H Q->t σ H Q):PE X e t':=λpins s σ H Q I q=>h pins s σ H Q I (k σ H Q q)
theorem _root_.L2.PT.imp(h:PT X e t)(k:∀σ H Q,t' σ H Q->t σ H Q):PT X e t':=λpins s σ H Q I q=>h pins s σ H Q I (k σ H Q q)
theorem _root_.L2.PW.imp(h:PW X e t)(k:∀σ H Q,t' σ H Q->t σ H Q):PW X e t':=λwh pins s σ H Q I q=>h wh pins s σ H Q I (k σ H Q q)
theorem _root_.L2.PA.imp(h:PA X es t)(k:∀σ H Q,t' σ H Q->t σ H Q):PA X es t':=λp pins s σ H Q I q=>h p pins s σ H Q I (k σ H Q q)
theorem _root_.L2.PS.imp{st:Stmt}(h:PS X st t)(k:∀D σ H,t' D σ H->t D σ H):PS X st t':=λpins s σ H D I q=>h pins s σ H D I (k D σ H q)
theorem _root_.L2.PSs.imp{X:Cx}{st:List Stmt}{t t':TS}(h:PSs X st t)(k:∀D σ H,t' D σ H->t D σ H):PSs X st t':=λpins s σ H D I q=>h pins s σ H D I (k D σ H q)
section
variable{K:PySem.W.Frag}{m m':Nat->Addr}{n n':Nat}{h h':VH}{H H':Hp}{σ:L2.St}{ρ:En}
theorem Fr.stp(f:Fr K m n H σ ρ)(s:Stp m n H m' n' H'):Fr K m' n' H' σ ρ:=⟨f.len,λi w e=>let⟨v,h1,h2⟩:=f.val i w e;⟨v,h1,h2.stp s⟩⟩
theorem Fr.set(f:Fr K m n H σ ρ)(q:VRep K m n H v w)(i:Nat):Fr K m n H (σ.set i (some v)) (ρ.set i (some w)):=by
 refine⟨by rw[vcx,vcx];exact f.len,λj w' e=>?_⟩
 by_cases hj:i=j
 .subst hj
  by_cases hl:i<ρ.length
  .rw[vce hl]at e
   cases e
   exact⟨v,by rw[vce (by rw[f.len];exact hl)],q⟩
  .rw[vc3 (by rw[vcx];omega)]at e;cases e
 .rw[vc7 hj]at e
  obtain⟨v',h1,h2⟩:=f.val j w' e
  exact⟨v',by rw[vc7 hj];exact h1,h2⟩
noncomputable def Wants(K:PySem.W.Frag)(m:Nat->Addr)(n:Nat)(H:Hp)(w:W)(h':VH)(Q:VK):Prop:=∀v H' m',Stp m n H m' h'.n H'->Rel K m' h' H'->VRep K m' h'.n H' v w->Q v H'
theorem Wants.here(k:Wants K m h.n H w h Q)(r:Rel K m h H)(q:VRep K m h.n H v w):Q v H:=k v H m .refl r q
theorem Wants.list(k:Wants K m h.n H (.ref h.n) (h.new (.lst ws)) Q)(r:Rel K m h H)(q:VReps K m h.n H vs ws){p:Addr}(hp:H p=none):Q (.ref p) (upd H p (.lst vs)):=by
 obtain⟨st,r'⟩:=r.alloc (o:=.lst ws) (u:=.lst vs) hp (λ_ z=>nomatch z) (λst=>⟨vs,zat,q.stp st⟩)
 refine k _ _ _ st r' ?_
 have:VRep K (λi=>if i=h.n then p else m i) (h.n+1) (upd H p (.lst vs)) (.ref ((λi=>if i=h.n then p else m i) h.n)) (.ref h.n):=.ref (vbx _)
 simp only[vbm]at this
 exact this
theorem Wants.dictD(k:Wants K m h.n H (.ref h.n) (h.new (.dt ks ws)) Q)(r:Rel K m h H){p:Addr}(hp:H p=none)(hu:u=dtH xs p\/(xs=[]/\u=.dK []))(q0:mapO keyD ks=some (xs.map (·.1)))(q1:VReps K m h.n H (xs.map λx=>.ref x.2.1) ks)(q2:VReps K m h.n H (xs.map λx=>x.2.2) ws):Q (.ref p) (upd H p u):=by
 obtain⟨st,r'⟩:=r.alloc (o:=.dt ks ws) (u:=u) hp (λt z=>by rcases hu with e|⟨_,e⟩<;> (rw[e]at z;exact nomatch z)) (λst=>⟨xs,hu.imp (λe=>by rw[zat,e]) λ⟨a,e⟩=>⟨a,by rw[zat,e]⟩,q0,q1.stp st,q2.stp st⟩)
 refine k _ _ _ st r' ?_
 have:VRep K (λi=>if i=h.n then p else m i) (h.n+1) (upd H p u) (.ref ((λi=>if i=h.n then p else m i) h.n)) (.ref h.n):=.ref (vbx _)
 simp only[vbm]at this
 exact this
theorem Wants.tuple(k:Wants K m h.n H (.tup ws) h Q)(r:Rel K m h H)(q:VReps K m h.n H vs ws){p:Addr}(hp:H p=none):Q (.ref p) (upd H p (.tup vs)):=by
 obtain⟨st,r'⟩:=r.more (u:=.tup vs) hp
 exact k _ _ _ st r' (.tup (SqT.of zat) (q.stp st))
theorem zsg{fa:FE}{g:W->VH->Res W}{G:V->Hp->VK->Prop}
 (hG:∀(m:Nat->Addr)(h:VH)(H:Hp)(v:V)(x w:W)(h':VH)(Q:VK),Rel K m h H->VRep K m h.n H v x->g x h=.ok w h'->Wants K m h.n H w h' Q->G v H Q) {Q:VK}
 (q:lft K (λρ h=>(fa ρ h).bind λx h=>g x h) σ H Q):lft K fa σ H λv H1=>G v H1 Q:=by
 refine q.el λρ h m w h' f r e k=>?_
 refine zac e λx h1 e1 e2=>?_
 exact(.mk f r e1 λv H1 m1 s1 r1 q1=>hG m1 h1 H1 v x w h' Q r1 q1 e2 λv' H' m' s' r' q'=>k v' H' m' (s1.trans s') r' q')
theorem zg4{fa fb:FE}{g:W->W->VH->Res W}{G:V->V->Hp->VK->Prop}
 (hG:∀(m:Nat->Addr)(h:VH)(H:Hp)(v u:V)(x y w:W)(h':VH)(Q:VK),Rel K m h H->VRep K m h.n H v x->VRep K m h.n H u y->g x y h=.ok w h'->Wants K m h.n H w h' Q->G v u H Q) {Q:VK}
 (q:lft K (λρ h=>(fa ρ h).bind λx h=>(fb ρ h).bind λy h=>g x y h) σ H Q):lft K fa σ H λv H1=>lft K fb σ H1 λu H2=>G v u H2 Q:=by
 refine q.el λρ h m w h' f r e k=>?_
 refine zac e λx h1 e1 e2=>?_
 refine zac e2 λy h2 e3 e4=>?_
 refine(.mk f r e1 λv H1 m1 s1 r1 q1=>(.mk (f.stp s1) r1 e3 λu H2 m2 s2 r2 q2=>?_))
 exact hG m2 h2 H2 v u x y w h' Q r2 (q1.stp s2) q2 e4 λv' H' m' s' r' q'=>k v' H' m' ((s1.trans s2).trans s') r' q'
theorem zdt{fa:FE}{g:List W->VH->Res W}{G:List V->Hp->VK->Prop}
 (hG:∀(m:Nat->Addr)(h:VH)(H:Hp)(vs:List V)(xs:List W)(w:W)(h':VH)(Q:VK),Rel K m h H->VReps K m h.n H vs xs->g xs h=.ok w h'->Wants K m h.n H w h' Q->G vs H Q) {Q:VK}
 (q:lft K (λρ h=>(fa ρ h).bind λy h=>match y with|.tup ys=>g ys h|_=>.no) σ H Q):lftA K fa σ H λvs H1=>G vs H1 Q:=by
 refine q.el λρ h m w h' f r e k=>?_
 refine zac e λx h1 e1 e2=>?_
 cases x with
 |tup ys=>exact(.mk f r e1 λvs H1 m1 s1 r1 q1=>hG m1 h1 H1 vs ys w h' Q r1 q1 e2 λv' H' m' s' r' q'=>k v' H' m' (s1.trans s') r' q')
 |_=>cases e2
theorem zkz{Q:Bool->Hp->Prop}(q:lftT K f σ H Q):lft K f σ H λx H'=>∃k,x=.bl k/\Q k H':=by
 refine q.el λρ h m b h' f r e k=>?_
 exact(.mk f r e λv H' m' s' r' q'=>by cases q';exact⟨b,rfl,k H' m' s' r'⟩)
end
section
variable{X:Cx}{a b c e:Expr}{es:List Expr}{fa fb fc:FE}{pos:Pos}
theorem zxg{i:Nat}{x:Str}(hN:X.N[i]?=some x)(hv:Vis X.env.scope x)(hd:(x==("__debug__" : Str))=false)(hcd:(x==("__classdict__" : Str))=false):SE X (.Name x pos) (λρ h=>.of (ρ[i]?).join h):=
 (zv1 hN hv hd hcd).imp λσ H Q z9=>z9.el λρ h m w h' f r e k=>by
   obtain⟨e1,e2⟩:=of_ok e
   subst e2
   have e3:ρ[i]?=some (some w):=by
    cases q:ρ[i]? with
    |none=>rw[q]at e1;cases e1
    |some o=>rw[q]at e1;rw[<-e1];rfl
   obtain⟨v,h1,h2⟩:=f.val i w e3
   exact⟨v,h1,k v H m .refl r h2⟩
theorem zil(h:PE X e (tC v))(hv:∀m n H,VRep X.K m n H v w):SE X e (λ_ h=>.ok w h):=
 h.imp λσ H Q z9=>z9.el λρ h m w h' f r e k=>by cases e;exact k v H m .refl r (hv m h.n H)
theorem zxh{i j pos}:SE X (.Constant (.int i) j pos) (λ_ h=>.ok (.int i) h):=zil zv2 λ_ _ _=>.int i
theorem se_bl{i j pos}:SE X (.Constant (.bool i) j pos) (λ_ h=>.ok (.bl i) h):=zil pe_bl λ_ _ _=>.bl i
theorem zxi{j pos}:SE X (.Constant .none j pos) (λ_ h=>.ok .non h):=zil zv3 λ_ _ _=>.non
theorem zxj{i j pos}:SE X (.Constant (.str i) j pos) (λ_ h=>.ok (.str i) h):=zil zv4 λ_ _ _=>.str i
theorem zny:SA X [] (λ_ h=>.ok (.tup []) h):=zkq.imp λσ H Q z9=>z9.el λρ h m ws h' f r e k=>by cases e;exact k [] H m .refl r .nil
theorem zg5(ha:SE X e fa)(hr:SA X es fb)(hs:starEach (e::es) X.env=(false,eval e X.env)::starEach es X.env) :
 SA X (e::es) (λρ h=>(fa ρ h).bind λx h=>(fb ρ h).bind λy h=>match y with|.tup ys=>.ok (.tup (x::ys)) h|_=>.no):=
 (zey ha hr hs).imp λσ H Q z9=>z9.el λρ h m ws h' f r e k=>by
   refine zac e λx h1 e1 e2=>?_
   refine zac e2 λy h2 e3 e4=>?_
   cases y with
   |tup ys=>
    cases e4
    exact(.mk f r e1 λv H1 m1 s1 r1 q1=>(.mk (f.stp s1) r1 e3 λvs H2 m2 s2 r2 q2=>k _ H2 m2 (s1.trans s2) r2 (.cons (q1.stp s2) q2)))
   |_=>cases e4
theorem zsh{k:Nat}(h:Nat.ble k 1000=true):k<=sizeLine:=veb (zih (va9 h))
theorem zxk{x1:Nat}(ha:SA X es fa):SE X (.Tuple es x1 pos) (λρ h=>(fa ρ h).bind λy h=>match y with|.tup ys=>(if Nat.ble ys.length 1000 then .ok (.tup ys) h else .no)|_=>.no):=
 (zws ha).imp λσ H Q q=>zdt (g:=λys h=>if Nat.ble ys.length 1000 then .ok (.tup ys) h else .no) (G:=λxs H1 Q=>xs.length<=sizeLine/\∀p,H1 p=none->Q (.ref p) (upd H1 p (.tup xs)))
   (λm h H vs xs w h' Q r q e k=>by
     split at e
     .rename_i hl
      cases e
      exact⟨by rw[q.length];exact zsh hl,λp hp=>Wants.tuple k r q hp⟩
     .cases e) q
theorem zxl(ha:SA X es fa):SE X (.List es pos) (λρ h=>(fa ρ h).bind λy h=>match y with|.tup ys=>(if Nat.ble ys.length 1000 then .ok (.ref h.n) (h.new (.lst ys))else .no)|_=>.no):=
 (zwt ha).imp λσ H Q q=>zdt (g:=λys h=>if Nat.ble ys.length 1000 then .ok (.ref h.n) (h.new (.lst ys))else .no) (G:=λxs H1 Q=>xs.length<=sizeLine/\∀p,H1 p=none->Q (.ref p) (upd H1 p (.lst xs)))
   (λm h H vs xs w h' Q r q e k=>by
     split at e
     .rename_i hl
      cases e
      exact⟨by rw[q.length];exact zsh hl,λp hp=>Wants.list k r q hp⟩
     .cases e) q
noncomputable def OpV(K:PySem.W.Frag)(r:R2)(g:W->W->VH->Res W):Prop:=∀(m:Nat->Addr) (h:VH) (H:Hp) (v u:V) (x y w:W) (h':VH) (Q:VK),Rel K m h H->VRep K m h.n H v x->VRep K m h.n H u y->g x y h=.ok w h'->Wants K m h.n H w h' Q->r v u H Q
theorem se_op{O:Operator}{r:R2}{g:W->W->VH->Res W}(ho:OpR X (binaryOp O) r)(hg:OpV X.K r g)(ha:SE X a fa)(hb:SE X b fb):SE X (.BinOp a O b pos) (λρ h=>(fa ρ h).bind λx h=>(fb ρ h).bind λy h=>g x y h):=
 (pe_op ho ha hb).imp λσ H Q q=>zg4 (G:=r) hg q
noncomputable def opOf:Operator->Option Op
 |.Add=>some .add|.Sub=>some .sub|.Mult=>some .mul|.FloorDiv=>some .fdiv|.Mod=>some .mod|.Pow=>some .pow
 |_=>none
noncomputable def cI:Op->Int->Int->Prop
 |.mul=>CMul|.fdiv=>CDiv|.mod=>λ_ j=>0<j|.shl=>CPow|.pow=>CPow
 |_=>λ_ _=>True
noncomputable def gI:Op->Int->Int->Int
 |.add=>(· + ·)|.sub=>(· - ·)|.mul=>(· * ·)|.fdiv=>(· / ·)|.mod=>(· % ·)|.shl=>λi j=>i*2 ^ j.toNat|.pow=>λi j=>i ^ j.toNat
noncomputable def rX(K:PySem.W.Frag):Op->R2
 |.add=>λx y H Q=>rCatT K x y H Q\/zsc K x y H Q\/rCat x y H Q
 |.mul=>λx y H Q=>rRepT K x y H Q
 |_=>λ_ _ _ _=>False
noncomputable def rB(K:PySem.W.Frag)(o:Op):R2:=λx y H Q=>rI (cI o) (λi j=>.int (gI o i j)) x y H Q\/rX K o x y H Q
theorem zdu{f:Value->Value->Sem Value}{r r':R2}(h:OpR X f r)(k:∀x y H Q,r' x y H Q->r x y H Q):OpR X f r':=λpins s σ H x y v u Q I rx ry q=>h pins s σ H x y v u Q I rx ry (k _ _ _ _ q)
theorem op_ok{O:Operator}(e:opOf O=some o):OpR X (binaryOp O) (rB X.K o):=by
 have tr:∀{g:Int->Int->V}{x y H Q},rI (λ_ _=>True) g x y H Q->rI0 g x y H Q:=λ⟨i,j,h1,h2,_,h3⟩=>⟨i,j,h1,h2,h3⟩
 cases O<;>cases e
 .exact zdu (zwk.or (ztz.or (zqu.or zwz))) λx y H Q q=>q.elim (λz=>.inl (tr z)) .inr
 .exact zdu zwl λx y H Q q=>q.elim (λz=>tr z) λz=>z.elim
 .exact zdu (zwm.or zt9) λx y H Q q=>q
 .exact zdu zwn λx y H Q q=>q.elim id λz=>z.elim
 .exact zdu zwo λx y H Q q=>q.elim id λz=>z.elim
 .exact zdu ztr λx y H Q q=>q.elim id λz=>z.elim
theorem ze6{i:Int}(h:zbk i=true):-(2 ^ 64)<i/\i<2 ^ 64:=by
 unfold zbk at h
 rw[vab]at h
 exact⟨vbi h.1,vbi h.2⟩
theorem zxm{i j z:Int}(e:opI o i j=some z):cI o i j/\z=gI o i j:=by
 cases o<;>simp only[opI]at e
 .cases e;exact⟨trivial,rfl⟩
 .cases e;exact⟨trivial,rfl⟩
 .split at e
  .rename_i hc
   cases e
   rw[vcn]at hc
   exact⟨hc.elim (λq=>.inl (ze6 q)) (λq=>.inr (ze6 q)),rfl⟩
  .cases e
 .split at e
  .rename_i hc
   cases e
   rw[vab]at hc
   exact⟨⟨vbi hc.1,vbi hc.2⟩,rfl⟩
  .cases e
 .split at e
  .rename_i hc
   cases e
   exact⟨(vbi hc:0<j),rfl⟩
  .cases e
 .split at e
  .rename_i hc
   cases e
   rw[vab,vab]at hc
   exact⟨⟨vbi hc.1.1,vbi hc.1.2,vbi hc.2⟩,rfl⟩
  .cases e
 .split at e
  .rename_i hc
   cases e
   rw[vab,vab]at hc
   exact⟨⟨vbi hc.1.1,vbi hc.1.2,vbi hc.2⟩,rfl⟩
  .cases e
theorem zjy{i:Int}(h:fits i=true):-(2 ^ 62)<=i/\i<2 ^ 62:=by
 unfold fits at h
 rw[vab]at h
 exact⟨vbi h.1,vbi h.2⟩
theorem zuh{k:Int}(e:repW o xs k=some zs):o=.mul/\(-(2 ^ 62)<=k/\k<2 ^ 62)/\xs.length*k.toNat<=sizeLine/\zs=(List.replicate k.toNat xs).flatten:=by
 unfold repW at e
 split at e
 .split at e
  .rename_i hc
   cases e
   rw[vab]at hc
   exact⟨rfl,zjy hc.1,va9 hc.2,rfl⟩
  .cases e
 .cases e
theorem VReps.rep{K:PySem.W.Frag}{m:Nat->Addr}{n:Nat}{H:Hp}{vs:List V}{ws:List W}(q:VReps K m n H vs ws):∀k:Nat,VReps K m n H (List.replicate k vs).flatten (List.replicate k ws).flatten
 |0=>.nil
 |k+1=>by
  rw[vbs,vbs,vcg,vcg]
  exact q.append (VReps.rep q k)
theorem zjz{K:PySem.W.Frag}{m:Nat->Addr}{n:Nat}{H:Hp}{vs:List V}{ws:List W}(q:VReps K m n H vs ws):vs.isEmpty=ws.isEmpty:=by cases q<;>rfl
theorem zq2{k:Int}(h:(ws.isEmpty||k==1)=true):(List.replicate k.toNat ws).flatten=ws:=by
 rw[vcn]at h
 rcases h with h|h
 .have:ws=[]:=by simpa using h
  subst this
  induction k.toNat with
  |zero=>rfl
  |succ j ih=>rw[vbs,vcg,ih];rfl
 .have:k=1:=by simpa using h
  subst this
  show(List.replicate 1 ws).flatten=ws
  simp
theorem zxn{K:PySem.W.Frag}(o:Op):OpV K (rB K o) (opW o):=by
 intro m h H v u x y w h' Q r qv qu e k
 unfold opW at e
 split at e
 .rename_i i j
  obtain⟨e,rfl⟩:=of_ok e
  cases qv;cases qu
  cases q:opI o i j with
  |none=>rw[q]at e;cases e
  |some z=>
   rw[q]at e;cases e
   obtain⟨h1,rfl⟩:=zxm q
   exact .inl ⟨i,j,rfl,rfl,h1,Wants.here k r (.int _)⟩
 .rename_i xs ys
  obtain⟨e,rfl⟩:=of_ok e
  cases q:opT o xs ys with
  |none=>rw[q]at e;cases e
  |some zs=>
   rw[q]at e;cases e
   cases o<;>simp only[opT]at q
   split at q
   .rename_i hc
    cases q
    cases qv with
    |tup qa ra=>
     cases qu with
     |tup qb rb=>
      rename_i a va b vb
      have hl:=va9 hc
      cases xs with
      |nil=>
       cases ra
       exact .inr (.inr (.inl ⟨a,b,vb,rfl,rfl,qa,qb,Wants.here k r (.tup qb rb)⟩))
      |cons x0 xs0=>
       refine .inr (.inl ⟨a,b,va,vb,rfl,rfl,qa,qb,λz=>?_,by rw[ra.length,rb.length];exact hl,λz=>?_,λ_ p hp=>Wants.tuple k r (ra.append rb) hp⟩)
       .subst z;cases ra
       .subst z;cases rb
        rw[vbc]at k
        exact Wants.here k r (.tup qa ra)
   .cases q
   all_goals cases q
 .rename_i xs kk
  obtain⟨e,rfl⟩:=of_ok e
  cases q:repW o xs kk with
  |none=>rw[q]at e;cases e
  |some zs=>
   rw[q]at e;cases e
   obtain⟨rfl,⟨k1,k2⟩,hz,rfl⟩:=zuh q
   cases qu
   cases qv with
   |tup qa ra=>
    rename_i a va
    refine .inr ⟨a,kk,va,rfl,rfl,qa,k1,k2,by rw[ra.length];exact hz,λz=>?_,λz p hp=>Wants.tuple k r (ra.rep _) hp⟩
    rw[zjz ra]at z
    rw[zq2 z]at k
    exact Wants.here k r (.tup qa ra)
 .rename_i i j
  split at e
  .rename_i xs ys hx hy
   split at e
   .rename_i zs q
    cases e
    cases o<;>simp only[opL]at q
    split at q
    .rename_i hc
     cases q
     obtain⟨va,pa,ra⟩:=r.lst hx
     obtain⟨vb,pb,rb⟩:=r.lst hy
     cases qv;cases qu
     exact .inr (.inr (.inr ⟨m i,m j,va,vb,rfl,rfl,pa,pb,by rw[ra.length,rb.length];exact va9 hc,λp hp=>Wants.list k r (ra.append rb) hp⟩))
    .cases q
    all_goals cases q
   .cases e
  .cases e
 .cases e
end
section
variable{K:PySem.W.Frag}{m:Nat->Addr}{h:VH}{H:Hp}
theorem zim{f:W->Option PyData}(ih:∀(w:W) (d:PyData) (v:V),f w=some d->VRep K m h.n H v w->Rp K (λ_=>False) H v d):∀{ws:List W} {ds:List PyData} {vs:List V},mapO f ws=some ds->VReps K m h.n H vs ws->Rps K (λ_=>False) H vs ds
 |[],ds,_,e,.nil=>by cases e;exact .nil
 |w::ws,ds,_,e,.cons q r=>by
  unfold mapO at e
  split at e
  .rename_i d hd
   split at e
   .rename_i bs hb
    cases e
    exact .cons (ih w d _ hd q) (zim ih hb r)
   .cases e
  .cases e
theorem rp_of(r:Rel K m h H):∀(n:Nat) (w:W) (d:PyData) (v:V),toD h n w=some d->VRep K m h.n H v w->Rp K (λ_=>False) H v d
 |0,_,_,_,e,_=>by cases e
 |n+1,w,d,v,e,q=>by
  cases q with
  |non=>cases e;exact .non
  |bl b=>cases e;exact .bl b
  |int b=>cases e;exact .int b
  |str b=>cases e;exact .str b
  | @tup a vs ws sq rs=>
   simp only[toD]at e
   cases z:mapO (toD h n) ws with
   |none=>rw[z]at e;cases e
   |some ds=>rw[z]at e;cases e;exact .tup sq (λz=>z) (zim (rp_of r n) z rs)
  | @fz a vs ws sq rs=>
   simp only[toD]at e
   cases z:mapO (toD h n) ws with
   |none=>rw[z]at e;cases e
   |some ds=>rw[z]at e;cases e;exact .lst sq.sq (λz=>z) (zim (rp_of r n) z rs)
  | @ref i hi=>
   simp only[toD]at e
   cases g:h.get i with
   |none=>rw[g]at e;cases e
   |some o=>
    rw[g]at e
    cases o with
    |dk _=>cases e
    |dt _ _=>cases e
    |lst ws=>
     obtain⟨vs,h1,h2⟩:=r.lst g
     simp only at e
     cases z:mapO (toD h n) ws with
     |none=>rw[z]at e;cases e
     |some ds=>rw[z]at e;cases e;exact .lst (SqL.of h1) (λz=>z) (zim (rp_of r n) z h2)
theorem zxo{a:Addr}(h:H a=some (dtH xs a)\/(xs=[]/\H a=some (.dK []))):DTo H a:=h.elim (λz=>.inr ⟨_,z⟩) λz=>.inl ⟨_,.inl z.2⟩
theorem zsi(r:Rel K m h H){b:Bool}(e:eqW h x y=some b)(qv:VRep K m h.n H v x)(qu:VRep K m h.n H u y) :
 ∃d e',Rp K (λ_=>False) H v d/\Rp K (λ_=>False) H u e'/\SeqAt.shaped d=true/\SeqAt.shaped e'=true/\b=PyData.eqv d e':=by
 unfold eqW at e
 split at e
 .rename_i d e' h1 h2
  split at e
  .rename_i hc
   cases e
   rw[vab]at hc
   exact⟨d,e',rp_of r _ _ _ _ h1 qv,rp_of r _ _ _ _ h2 qu,hc.1,hc.2,rfl⟩
  .cases e
 .cases e
end
theorem zdv{K:PySem.W.Frag}{m:Nat->Addr}{h:VH}{H:Hp}{v:V}{w:W}{ws:List W}(r:Rel K m h H)(q:VRep K m h.n H v w)(e:seqW h w=some ws):∃p vs,v=.ref p/\(SqL K H p vs\/SqT K H p vs)/\VReps K m h.n H vs ws:=by
 cases q<;>try cases e
 .exact⟨_,_,rfl,.inr ‹_›,‹_›⟩
 .rename_i q _;exact⟨_,_,rfl,.inl q.sq,‹_›⟩
 .rename_i i hi
  simp only[seqW]at e
  cases g:h.get i with
  |none=>rw[g]at e;cases e
  |some o=>
   rw[g]at e
   cases o with
   |dk _=>cases e
   |dt _ _=>cases e
   |lst ws=>
    cases e
    obtain⟨vs,h1,h2⟩:=r.lst g
    exact⟨_,vs,rfl,.inl (SqL.of h1),h2⟩
theorem zj0{K:PySem.W.Frag}{m:Nat->Addr}{n:Nat}{H:Hp}:∀{vs:List V} {ws:List W} {is:List Int},VReps K m n H vs ws->mapO intD ws=some is->vs=is.map .int
 |_,_,_,.nil,e=>by cases e;rfl
 |_,_,_,.cons (w:=w) q r,e=>by
  simp only[mapO]at e
  cases q<;>try cases e
  rename_i i _ ws _
  simp only[intD]at e
  cases z:mapO intD ws with
  |none=>rw[z]at e;cases e
  |some js=>rw[z]at e;cases e;rw[van,zj0 r z]
theorem ze7{K:PySem.W.Frag}{m:Nat->Addr}{n:Nat}{H:Hp}{v:V}{w:W}{k:DK}(q:VRep K m n H v w)(e:keyD w=some k):∃b,v=.ref b/\KeyAt K H k b:=by
 unfold keyD at e
 split at e
 .rename_i ws
  cases z:mapO intD ws with
  |none=>rw[z]at e;cases e
  |some is=>
   rw[z]at e;cases e
   cases q with
   | @tup b vs _ sq rs=>
    cases rs with
    |cons q1 rs=>
     cases rs with
     |cons q2 rs=>
      cases rs;cases q2
      cases q1 with
      | @tup c us _ sq1 rs1=>
       refine⟨b,rfl,c,sq,?_⟩
       rw[<-zj0 rs1 z];exact sq1
 .rename_i ws i
  cases z:mapO intD ws with
  |none=>rw[z]at e;cases e
  |some is=>
   rw[z]at e;cases e
   cases q with
   | @tup b vs _ sq rs=>
    cases rs with
    |cons q1 rs=>
     cases rs with
     |cons q2 rs=>
      cases rs;cases q2
      cases q1 with
      | @tup c us _ sq1 rs1=>
       refine⟨b,rfl,c,sq,?_⟩
       rw[<-zj0 rs1 z];exact sq1
 .cases e
theorem dt_ok{K:PySem.W.Frag}{m:Nat->Addr}{n:Nat}{H:Hp}:∀{xs:DX} {ks:List W},mapO keyD ks=some (xs.map (·.1))->VReps K m n H (xs.map λx=>.ref x.2.1) ks->∀p∈xs,KeyAt K H p.1 p.2.1
 |[],_,_,_,p,hp=>nomatch hp
 |x::xs,ks,e,r,p,hp=>by
  rw[van]at r
  obtain⟨w,ks,rfl,q,r⟩:∃w ks',ks=w::ks'/\VRep K m n H (.ref x.2.1) w/\VReps K m n H (xs.map λx=>.ref x.2.1) ks':=by cases r with|cons q r=>exact⟨_,_,rfl,q,r⟩
  simp only[mapO]at e
  cases z:keyD w with
  |none=>rw[z]at e;cases e
  |some k=>
   rw[z]at e
   simp only at e
   cases z2:mapO keyD ks with
   |none=>rw[z2]at e;cases e
   |some js=>
    rw[z2]at e
    simp only[van,vd9,vd4]at e
    rcases vax.mp hp with rfl|hp
    .obtain⟨b,e1,e2⟩:=ze7 q z
     cases e1
     rw[<-e.1];exact e2
    .exact dt_ok (by rw[z2,e.2]) r p hp
theorem dt_DT{K:PySem.W.Frag}{m:Nat->Addr}{n:Nat}{H:Hp}{a:Addr}{xs:DX}{ks:List W}(h:H a=some (dtH xs a)\/(xs=[]/\H a=some (.dK [])))(e:mapO keyD ks=some (xs.map (·.1)))(q:VReps K m n H (xs.map λx=>.ref x.2.1) ks):DT K H a xs:=
 h.imp (λz=>⟨z,dt_ok e q⟩) λ⟨z,y⟩=>⟨z,.inl y⟩
theorem zg6{K:PySem.W.Frag}{m:Nat->Addr}{n:Nat}{H:Hp}:∀{xs:DX} {ks ws:List W} (k:DK),mapO keyD ks=some (xs.map (·.1))->VReps K m n H (xs.map λx=>x.2.2) ws->(findX xs k=none/\lookD ks ws k=none)\/∃p w,findX xs k=some p/\lookD ks ws k=some w/\VRep K m n H p.2 w
 |[],ks,ws,k,e,r=>by
  cases ks with
  |nil=>exact .inl ⟨rfl,by unfold lookD;rfl⟩
  |cons c ks=>
   simp only[mapO]at e
   split at e
   .split at e<;>cases e
   .cases e
 |x::xs,ks,ws,k,e,r=>by
  rw[van]at r
  obtain⟨w,ws,rfl,q,r⟩:∃w ws',ws=w::ws'/\VRep K m n H x.2.2 w/\VReps K m n H (xs.map λx=>x.2.2) ws':=by cases r with|cons q r=>exact⟨_,_,rfl,q,r⟩
  cases ks with
  |nil=>cases e
  |cons c ks=>
   simp only[mapO]at e
   cases z:keyD c with
   |none=>rw[z]at e;cases e
   |some k'=>
    rw[z]at e
    simp only at e
    cases z2:mapO keyD ks with
    |none=>rw[z2]at e;cases e
    |some js=>
     rw[z2]at e
     simp only[van,vd9,vd4]at e
     unfold lookD
     rw[z,e.1]
     by_cases y:x.1=k
     .rw[if_pos (by rw[y])]
      exact .inr ⟨x.2,w,by simp[findX,vbo,y],rfl,q⟩
     .rw[if_neg (λz=>y (vbn z))]
      have:findX (x::xs) k=findX xs k:=by simp[findX,vbo,y]
      rw[this]
      exact zg6 k (by rw[z2,e.2]) r
theorem zsj{K:PySem.W.Frag}{m:Nat->Addr}{h:VH}{H:Hp}(r:Rel K m h H){x y:W}{v u:V}{b:Bool}(e:inD h x y=some b)(qv:VRep K m h.n H v x)(qu:VRep K m h.n H u y) :
 ∃a c xs k,u=.ref a/\v=.ref c/\DT K H a xs/\KeyAt K H k c/\b=(findX xs k).isSome:=by
 unfold inD at e
 split at e
 .rename_i i
  split at e
  .rename_i ks ws k g hk
   cases e
   cases qu
   obtain⟨xs,p1,p2,p3,p4⟩:=r.dt g
   obtain⟨c,rfl,kk⟩:=ze7 qv hk
   refine⟨m i,c,xs,k,rfl,rfl,dt_DT p1 p2 p3,kk,?_⟩
   rcases zg6 k p2 p4 with⟨z1,z2⟩|⟨p,w,z1,z2,_⟩<;> (rw[z1,z2];rfl)
  .cases e
 .cases e
theorem zsk{K:PySem.W.Frag}{m:Nat->Addr}{h:VH}{H:Hp}(r:Rel K m h H){x y:W}{v u:V}{b:Bool}(e:inW h x y=some b)(qv:VRep K m h.n H v x)(qu:VRep K m h.n H u y) :
 (∃p vs ds d,u=.ref p/\(SqL K H p vs\/SqT K H p vs)/\Rps K (λ_=>False) H vs ds/\Rp K (λ_=>False) H v d/\ds.all SeqAt.shaped=true/\SeqAt.shaped d=true/\b=anyEq ds d)\/inD h x y=some b:=by
 unfold inW at e
 split at e
 .rename_i ws d h1 h2
  split at e
  .rename_i ds h3
   split at e
   .rename_i hc
    cases e
    rw[vab]at hc
    obtain⟨p,vs,rfl,h4,h5⟩:=zdv r qu h1
    exact .inl ⟨p,vs,ds,d,rfl,h4,zim (rp_of r 24) h3 h5,rp_of r _ _ _ _ h2 qv,hc.1,hc.2,rfl⟩
   .cases e
  .cases e
 .exact .inr e
noncomputable def cpOf:CmpOp->Option Cp
 |.Eq=>some .eq|.NotEq=>some .ne|.Lt=>some .lt|.LtE=>some .le|.Gt=>some .gt|.GtE=>some .ge|.Is=>some .isn|.IsNot=>some .notn|.In=>some .inn|.NotIn=>some .nin
noncomputable def rC(K:PySem.W.Frag):Cp->R2
 |.eq=>rEqD K
 |.ne=>rNeD K
 |.lt=>rI0 λi j=>.bl (decide (i<j))
 |.le=>rI0 λi j=>.bl (decide (i<=j))
 |.gt=>rI0 λi j=>.bl (decide (j<i))
 |.ge=>rI0 λi j=>.bl (decide (j<=i))
 |.isn=>λx y H Q=>y=.non/\Q (.bl (decide (x=.non))) H
 |.notn=>λx y H Q=>y=.non/\Q (.bl (!decide (x=.non))) H
 |.inn=>λx y H Q=>rInD K false x y H Q\/rInX K false x y H Q
 |.nin=>λx y H Q=>rInD K true x y H Q\/rInX K true x y H Q
noncomputable def zcq:Expr->Bool
 |.Set ..=>false
 |_=>true
theorem zj1{op:CmpOp}(h:zcq b=true):behindInMarks op b=false:=by
 cases b<;>first|rfl|cases h
section
variable{X:Cx}{a b c e:Expr}{es:List Expr}{fa fb fc:FE}{pos:Pos}
theorem zf5(hu:X.A.units+65<cLine){O:CmpOp}{c:Cp}(e:cpOf O=some c):OpR X (compareOp O) (rC X.K c):=by
 cases O<;>cases e
 .exact zw0 (by omega)
 .exact zw1 (by omega)
 .exact op_lt
 .exact op_le
 .exact op_gt
 .exact op_ge
 .exact zwq
 .exact zts
 .exact(zw5 (by show X.A.units+1+64<cLine;omega)).or (zxd (by omega))
 .exact(zno (by show X.A.units+1+64<cLine;omega)).or (znw (by omega))
theorem zem{K:PySem.W.Frag}{m:Nat->Addr}{n:Nat}{H:Hp}{v:V}{w:W}(q:VRep K m n H v w):isNon w=decide (v=.non):=by
 cases q<;>simp[isNon]
theorem zg7{K:PySem.W.Frag}(c:Cp):OpV K (rC K c) (λx y h=>.of ((cmpW c h x y).map .bl) h):=by
 intro m h H v u x y w h' Q r qv qu e k
 obtain⟨e,rfl⟩:=of_ok e
 cases z:cmpW c h' x y with
 |none=>rw[z]at e;cases e
 |some b=>
  rw[z]at e;cases e
  have fin:Q (.bl b) H:=Wants.here k r (.bl b)
  unfold cmpW at z
  split at z
  .rcases zsk r z qv qu with⟨p,vs,ds,d,h1,h2,h3,h4,h5,h6,rfl⟩|z3
   .exact .inl ⟨p,vs,ds,d,h1,h2,h3,h4,h5,h6,fin⟩
   .obtain⟨a,c,xs,dk,h1,h2,h3,h4,rfl⟩:=zsj r z3 qv qu
    exact .inr ⟨a,c,xs,dk,h1,h2,h3,h4,fin⟩
  .cases z2:inW h' x y with
   |none=>rw[z2]at z;cases z
   |some b2=>
    rw[z2]at z;cases z
    rcases zsk r z2 qv qu with⟨p,vs,ds,d,h1,h2,h3,h4,h5,h6,rfl⟩|z3
    .exact .inl ⟨p,vs,ds,d,h1,h2,h3,h4,h5,h6,fin⟩
    .obtain⟨a,c,xs,dk,h1,h2,h3,h4,rfl⟩:=zsj r z3 qv qu
     exact .inr ⟨a,c,xs,dk,h1,h2,h3,h4,fin⟩
  .obtain⟨d,e',h1,h2,h3,h4,rfl⟩:=zsi r z qv qu
   exact⟨d,e',h1,h2,h3,h4,fin⟩
  .cases z2:eqW h' x y with
   |none=>rw[z2]at z;cases z
   |some b2=>
    rw[z2]at z;cases z
    obtain⟨d,e',h1,h2,h3,h4,rfl⟩:=zsi r z2 qv qu
    exact⟨d,e',h1,h2,h3,h4,fin⟩
  .split at z
   .rename_i hn
    cases z
    have:=zem qu
    rw[hn]at this
    refine⟨vbi this.symm,?_⟩
    rw[<-zem qv];exact fin
   .cases z
  .split at z
   .rename_i hn
    cases z
    have:=zem qu
    rw[hn]at this
    refine⟨vbi this.symm,?_⟩
    rw[<-zem qv];exact fin
   .cases z
  .split at z
   .rename_i i j
    cases qv;cases qu
    cases c<;>simp only[cmpI]at z<;>cases z<;>exact⟨i,j,rfl,rfl,fin⟩
   .cases z
theorem zxp(hu:X.A.units+65<cLine){O:CmpOp}{c:Cp}(e:cpOf O=some c)(hs:zcq b=true)(ha:SE X a fa)(hb:SE X b fb) :
 SE X (.Compare a [O] [b] pos) (λρ h=>(fa ρ h).bind λx h=>(fb ρ h).bind λy h=>.of ((cmpW c h x y).map .bl) h):=
 (ztt (zf5 hu e) ha hb (zj1 hs)).imp λσ H Q q=>zg4 (G:=rC X.K c) (zg7 c) q
theorem zxq(hu:X.A.units+65<cLine){O:CmpOp}{c:Cp}(e:cpOf O=some c)(hs:zcq b=true)(ha:SE X a fa)(hb:SE X b fb) :
 ST X (.Compare a [O] [b] pos) (λρ h=>(fa ρ h).bind λx h=>(fb ρ h).bind λy h=>.of ((cmpW c h x y).map .bl) h):=
 (ztu (zf5 hu e) ha hb (zj1 hs)).imp λσ H Q q=>zg4 (G:=rC X.K c) (zg7 c) (zkz q)
theorem lm2{O O':CmpOp}(h:zcq b=true):lastMarks [O,O'] [a,b]=false:=zj1 h
theorem zin{K:PySem.W.Frag}{c1 c2:Cp}{σ:L2.St}{H:Hp}{Q:VK}
 (q:lft K (λρ h=>(fa ρ h).bind λx h=>(fb ρ h).bind λy h=>match cmpW c1 h x y with
   |some true=>(fc ρ h).bind λz h=>.of ((cmpW c2 h y z).map .bl) h
   |some false=>.ok (.bl false) h
   |none=>.no) σ H Q):zm6 (rC K c1) (rC K c2) (lft K fa) (lft K fb) (lft K fc) σ H Q:=by
 refine q.el λρ h m w h' f r e k=>?_
 refine zac e λx h1 e1 e2=>?_
 refine zac e2 λy h2 e3 e4=>?_
 refine(.mk f r e1 λv H1 m1 s1 r1 q1=>(.mk (f.stp s1) r1 e3 λu H2 m2 s2 r2 q2=>?_))
 have f2:=(f.stp s1).stp s2
 have k2:Wants K m2 h2.n H2 w h' Q:=λv' H' m' s' r' q'=>k v' H' m' ((s1.trans s2).trans s') r' q'
 cases z:cmpW c1 h2 x y with
 |none=>rw[z]at e4;cases e4
 |some b=>
  rw[z]at e4
  refine zg7 c1 m2 h2 H2 v u x y (.bl b) h2 _ r2 (q1.stp s2) q2 (by show Res.of ((cmpW c1 h2 x y).map W.bl) h2=_;rw[z];rfl) λv3 H3 m3 s3 r3 q3=>?_
  cases q3
  refine⟨b,rfl,?_⟩
  cases b with
  |true=>
   refine zac e4 λz' h4 e5 e6=>?_
   rw[if_pos rfl]
   refine⟨ρ,h2,m3,z',h4,f2.stp s3,r3,e5,λv4 H4 m4 s4 r4 q4=>?_⟩
   exact zg7 c2 m4 h4 H4 u v4 y z' w h' Q r4 ((q2.stp s3).stp s4) q4 e6 λv' H' m' s' r' q'=>k2 v' H' m' ((s3.trans s4).trans s') r' q'
  |false=>
   cases e4
   simp only[vap,vbl]
   exact k2 _ H3 m3 s3 r3 (.bl false)
theorem zxr(hu:X.A.units+65<cLine){O O':CmpOp}(e:cpOf O=some c1)(e':cpOf O'=some c2)(hs:zcq c=true)(ha:SE X a fa)(hb:SE X b fb)(hc:SE X c fc) :
 SE X (.Compare a [O,O'] [b,c] pos) (λρ h=>(fa ρ h).bind λx h=>(fb ρ h).bind λy h=>match cmpW c1 h x y with
  |some true=>(fc ρ h).bind λz h=>.of ((cmpW c2 h y z).map .bl) h
  |some false=>.ok (.bl false) h
  |none=>.no):=(zqc (zf5 hu e) (zf5 hu e') ha hb hc (lm2 hs)).imp λσ H Q q=>zin q
theorem zxs(hu:X.A.units+65<cLine){O O':CmpOp}(e:cpOf O=some c1)(e':cpOf O'=some c2)(hs:zcq c=true)(ha:SE X a fa)(hb:SE X b fb)(hc:SE X c fc) :
 ST X (.Compare a [O,O'] [b,c] pos) (λρ h=>(fa ρ h).bind λx h=>(fb ρ h).bind λy h=>match cmpW c1 h x y with
  |some true=>(fc ρ h).bind λz h=>.of ((cmpW c2 h y z).map .bl) h
  |some false=>.ok (.bl false) h
  |none=>.no):=(zqd (zf5 hu e) (zf5 hu e') ha hb hc (lm2 hs)).imp λσ H Q q=>zin (zkz q)
noncomputable abbrev gNot(fa:FE):FE:=λρ h=>(fa ρ h).bind λx h=>match x with|.bl b=>.ok (.bl (!b)) h|_=>.no
noncomputable abbrev gAnd(fa fb:FE):FE:=λρ h=>(fa ρ h).bind λx h=>match x with|.bl true=>fb ρ h|.bl false=>.ok (.bl false) h|_=>.no
noncomputable abbrev gOr(fa fb:FE):FE:=λρ h=>(fa ρ h).bind λx h=>match x with|.bl true=>.ok (.bl true) h|.bl false=>fb ρ h|_=>.no
noncomputable abbrev gIte(fa fb fc:FE):FE:=λρ h=>(fa ρ h).bind λx h=>match x with|.bl true=>fb ρ h|.bl false=>fc ρ h|_=>.no
variable{rest:List Expr}
theorem zxt(ha:ST X a fa):ST X (.UnaryOp .Not a pos) (gNot fa):=(zv7 ha).imp λσ H Q z9=>z9.el λρ h m b h' f r e k=>by
 refine zac e λx h1 e1 e2=>?_
 cases x<;>try cases e2
 rename_i b
 exact(.mk f r e1 λH' m' s' r'=>k H' m' s' r')
theorem zxu(ha:SE X a fa):SE X (.UnaryOp .Not a pos) (gNot fa):=(zwa ha).imp λσ H Q z9=>z9.el λρ h m b h' f r e k=>by
 refine zac e λx h1 e1 e2=>?_
 cases x<;>try cases e2
 rename_i b
 exact(.mk f r e1 λv H' m' s' r' q=>by cases q;exact⟨b,rfl,k _ H' m' s' r' (.bl _)⟩)
theorem zsl{op:BoolOp}(ha:ST X a fa):SW X (.BoolOp op [a] pos) fa:=by
 cases op
 .exact ztm ha
 .exact zv5 ha
theorem zxv(ha:ST X a fa)(hb:SW X (.BoolOp .And (b::rest) pos) fb):SW X (.BoolOp .And (a::b::rest) pos) (gAnd fa fb):=(zv6 ha hb).imp λσ H Q z9=>z9.el λρ h m b h' f r e k=>by
 refine zac e λx h1 e1 e2=>?_
 cases x<;>try cases e2
 rename_i c
 refine(.mk f r e1 λH1 m1 s1 r1=>?_)
 cases c with
 |true=>rw[if_pos rfl];exact(.mk (f.stp s1) r1 e2 λH' m' s' r'=>k H' m' (s1.trans s') r')
 |false=>cases e2;simp only[vap,vbl];exact k H1 m1 s1 r1
theorem sw_or(ha:ST X a fa)(hb:SW X (.BoolOp .Or (b::rest) pos) fb):SW X (.BoolOp .Or (a::b::rest) pos) (gOr fa fb):=(pw_or ha hb).imp λσ H Q z9=>z9.el λρ h m b h' f r e k=>by
 refine zac e λx h1 e1 e2=>?_
 cases x<;>try cases e2
 rename_i c
 refine(.mk f r e1 λH1 m1 s1 r1=>?_)
 cases c with
 |true=>cases e2;rw[if_pos rfl];exact k H1 m1 s1 r1
 |false=>simp only[vap,vbl];exact(.mk (f.stp s1) r1 e2 λH' m' s' r'=>k H' m' (s1.trans s') r')
theorem zsm{op:BoolOp}(ha:SE X a fa):SE X (.BoolOp op [a] pos) fa:=zv8 ha
theorem zxw(ha:SE X a fa)(hb:SE X (.BoolOp .And (b::rest) pos) fb):SE X (.BoolOp .And (a::b::rest) pos) (gAnd fa fb):=(zv9 ha hb).imp λσ H Q z9=>z9.el λρ h m w h' f r e k=>by
 refine zac e λx h1 e1 e2=>?_
 cases x<;>try cases e2
 rename_i c
 refine(.mk f r e1 λv H1 m1 s1 r1 q1=>?_)
 cases q1
 refine⟨c,rfl,?_⟩
 cases c with
 |true=>rw[if_pos rfl];exact(.mk (f.stp s1) r1 e2 λv H' m' s' r' q'=>k v H' m' (s1.trans s') r' q')
 |false=>cases e2;simp only[vap,vbl];exact k _ H1 m1 s1 r1 (.bl false)
theorem se_or(ha:SE X a fa)(hb:SE X (.BoolOp .Or (b::rest) pos) fb):SE X (.BoolOp .Or (a::b::rest) pos) (gOr fa fb):=(pe_or ha hb).imp λσ H Q z9=>z9.el λρ h m w h' f r e k=>by
 refine zac e λx h1 e1 e2=>?_
 cases x<;>try cases e2
 rename_i c
 refine(.mk f r e1 λv H1 m1 s1 r1 q1=>?_)
 cases q1
 refine⟨c,rfl,?_⟩
 cases c with
 |true=>cases e2;rw[if_pos rfl];exact k _ H1 m1 s1 r1 (.bl true)
 |false=>simp only[vap,vbl];exact(.mk (f.stp s1) r1 e2 λv H' m' s' r' q'=>k v H' m' (s1.trans s') r' q')
theorem zxx(hc:ST X c fc)(ha:SE X a fa)(hb:SE X b fb):SE X (.IfExp c a b pos) (gIte fc fa fb):=(zp6 hc ha hb).imp λσ H Q z9=>z9.el λρ h m w h' f r e k=>by
 refine zac e λx h1 e1 e2=>?_
 cases x<;>try cases e2
 rename_i c
 refine(.mk f r e1 λH1 m1 s1 r1=>?_)
 cases c with
 |true=>rw[if_pos rfl];exact(.mk (f.stp s1) r1 e2 λv H' m' s' r' q'=>k v H' m' (s1.trans s') r' q')
 |false=>simp only[vap,vbl];exact(.mk (f.stp s1) r1 e2 λv H' m' s' r' q'=>k v H' m' (s1.trans s') r' q')
theorem zd9{K:PySem.W.Frag}{m:Nat->Addr}{n:Nat}{H:Hp}{vs:List V}{ws:List W}(q:VReps K m n H vs ws):vs.isEmpty=ws.isEmpty:=by cases q<;>rfl
theorem zui{K:PySem.W.Frag}{m:Nat->Addr}{h:VH}{H:Hp}{v:V}{w:W}{b:Bool}(r:Rel K m h H)(q:VRep K m h.n H v w)(e:truW h w=some b):TruV K v H b:=by
 cases q with
 |non=>cases e;rfl
 |bl x=>cases e;rfl
 |int i=>cases e;rfl
 |str x=>cases e
 |fz _ _=>cases e
 |tup sq rs=>cases e;exact .inr (.inl ⟨_,sq,by rw[zd9 rs]⟩)
 | @ref i hi=>
  simp only[truW]at e
  cases g:h.get i with
  |none=>rw[g]at e;cases e
  |some o=>
   rw[g]at e
   cases o with
   |dk _=>cases e
   |dt _ _=>cases e
   |lst ws=>
    cases e
    obtain⟨vs,h1,h2⟩:=r.lst g
    exact .inl ⟨vs,SqL.of h1,by rw[zd9 h2]⟩
theorem znz(ha:SE X a fa)(he:∀whole,isTrue a X.env whole=(do let v <-whole;standAt a.pos;holding [v] (truthy v))) :
 ST X a (λρ h=>(fa ρ h).bind λx h=>.of ((truW h x).map .bl) h):=(zqe ha he).imp λσ H Q z9=>z9.el λρ h m b h' f r e k=>by
 refine zac e λx h1 e1 e2=>?_
 obtain⟨e2,rfl⟩:=of_ok e2
 cases z:truW h' x with
 |none=>rw[z]at e2;cases e2
 |some c=>
  rw[z]at e2;cases e2
  exact(.mk f r e1 λv H' m' s' r' q=>⟨b,zui r' q z,k H' m' s' r'⟩)
theorem zxy(ha:SE X a fa):SE X (.UnaryOp .USub a pos) (λρ h=>(fa ρ h).bind λx h=>match x with|.int i=>.ok (.int (-i)) h|_=>.no):=
 (pe_un zwp ha).imp λσ H Q q=>zsg (g:=λx h=>match x with|.int i=>.ok (.int (-i)) h|_=>.no) (G:=rU λi=>.int (-i)) (λm h H v x w h' Q r q e k=>by
   cases q<;>try cases e
   rename_i i
   exact⟨i,rfl,Wants.here k r (.int _)⟩) q
end
section
variable{K:PySem.W.Frag}{m m0:Nat->Addr}{n n0:Nat}{h:VH}{H H0:Hp}
theorem Rel.adopt(r:Rel K m h H){p:Addr}{u u0:HO}(hp:∀i,i<h.n->m i≠p)(hu:H p=some u0)(ht:∀t,u0≠.tup t)(hf:∀o t,u0≠.frz o t)(s:Stp m0 n0 H0 m h.n H)(h0:H0 p=none)
 (ho:Stp m h.n H (λi=>if i=h.n then p else m i) (h.n+1) (upd H p u)\/True->(∀{v:V}{w:W},VRep K m h.n H v w->VRep K (λi=>if i=h.n then p else m i) (h.n+1) (upd H p u) v w)->ORep K (λi=>if i=h.n then p else m i) (h.n+1) (upd H p u) p o) :
 Stp m0 n0 H0 (λi=>if i=h.n then p else m i) (h.n+1) (upd H p u)/\Rel K (λi=>if i=h.n then p else m i) (h.new o) (upd H p u):=by
 have kt:∀b vs,H b=some (.tup vs)->upd H p u b=some (.tup vs):=λb vs q=>by rw[zai (ne_of q hu λz=>ht vs z.symm)];exact q
 have kf:∀b o t,H b=some (.frz o t)->upd H p u b=some (.frz o t):=λb o t q=>by rw[zai (ne_of q hu λz=>hf o t z.symm)];exact q
 have mv:∀{v:V}{w:W},VRep K m h.n H v w->VRep K (λi=>if i=h.n then p else m i) (h.n+1) (upd H p u) v w:=by
  intro v w q
  have st:Stp m h.n (λb=>if b=p then none else H b) (λi=>if i=h.n then p else m i) (h.n+1) (upd H p u):=by
   refine⟨vdy _,λi hi=>by simp only[if_neg (vbd hi)],λi hi hi2=>?_,λi j hi hi2 hj=>?_,λb vs q=>?_,λb o t q=>?_,λb o _ q=>?_⟩
   .have:i=h.n:=by omega
    subst this;simp only[vbm]
   .have:i=h.n:=by omega
    subst this;simp only[vbm,if_neg (vbd hj)];exact(hp j hj).symm
   .split at q
    .cases q
    .exact kt b vs q
   .split at q
    .cases q
    .exact kf b o t q
   .split at q
    .cases q
    .rename_i z;rw[zai z];exact q
  refine VRep.stp st ?_
  have back:∀{a vs},SqT K H a vs->SqT K (λb=>if b=p then none else H b) a vs:=by
   intro a vs q
   rcases q with(q|⟨o,q⟩)|q
   .exact .inl (.inl (by simp only[if_neg (ne_of q hu λz=>ht vs z.symm)];exact q))
   .exact .inl (.inr ⟨o,by simp only[if_neg (ne_of q hu λz=>hf o _ z.symm)];exact q⟩)
   .exact .inr q
  have backf:∀{a vs},Fz K H a vs->Fz K (λb=>if b=p then none else H b) a vs:=by
   intro a vs q
   rcases q with⟨o,q⟩|q
   .exact .inl ⟨o,by simp only[if_neg (ne_of q hu λz=>hf o _ z.symm)];exact q⟩
   .exact .inr q
  exact(VRep.rec (K:=K) (m:=m) (n:=h.n) (H:=H) (motive_1:=λv w _=>VRep K m h.n (λb=>if b=p then none else H b) v w) (motive_2:=λvs ws _=>VReps K m h.n (λb=>if b=p then none else H b) vs ws)
   .non .bl .int .str (λsq _ ih=>.tup (back sq) ih) (λsq _ ih=>.fz (backf sq) ih) (λhi=>.ref hi) .nil (λ_ _ i1 i2=>.cons i1 i2) q)
 refine⟨⟨Nat.le_succ_of_le s.le,λi hi=>?_,λi hi hi2=>?_,λi j hi hi2 hj=>?_,λb vs q=>kt b vs (s.tup b vs q),λb o t q=>kf b o t (s.frz b o t q),λb o nb q=>?_⟩,⟨λi hi=>?_,λi j hi hj z=>?_,?_⟩⟩
 .have:=s.le
  simp only[if_neg (show i≠h.n by omega)];exact s.same i hi
 .by_cases e:i=h.n
  .subst e;simp only[vbm];exact h0
  .simp only[if_neg e];exact s.new i hi (by omega)
 .have:=s.le
  simp only[if_neg (show j≠h.n by omega)]
  by_cases e:i=h.n
  .subst e;simp only[vbm];exact(hp j (by omega)).symm
  .simp only[if_neg e];exact s.apart i j hi (by omega) hj
 .rw[zai (zae q h0)];exact s.keep b o nb q
 .have hi:i<h.n+1:=hi
  by_cases e:i=h.n
  .subst e;exact⟨o,zal,by simp only[vbm];exact ho (.inr trivial) mv⟩
  .have hl:i<h.n:=by omega
   obtain⟨o',h1,h2⟩:=r.obj i hl
   refine⟨o',(zah hl).trans h1,?_⟩
   simp only[if_neg e]
   have eq:upd H p u (m i)=H (m i):=zai (hp i hl)
   cases o' with
   |lst ws=>
    obtain⟨vs,q1,q2⟩:=h2
    exact⟨vs,eq.trans q1,VReps.rec (K:=K) (m:=m) (n:=h.n) (H:=H) (motive_1:=λv w _=>VRep K m h.n H v w) (motive_2:=λvs ws _=>VReps K (λi=>if i=h.n then p else m i) (h.n+1) (upd H p u) vs ws)
     .non .bl .int .str (λsq q _=>.tup sq q) (λsq q _=>.fz sq q) (λhi=>.ref hi) .nil (λq _ _ i2=>.cons (mv q) i2) q2⟩
   |dk ws=>
    obtain⟨vs,q1,q2⟩:=h2
    have go:∀{vs:List (Key×V)}{ws:List (Key×W)},KReps K m h.n H vs ws->KReps K (λi=>if i=h.n then p else m i) (h.n+1) (upd H p u) vs ws:=by
     intro vs ws q2
     induction q2 with
     |nil=>exact .nil
     |cons q _ ih=>exact .cons (mv q) ih
    exact⟨vs,q1.imp (λz=>eq.trans z) λ⟨o,z⟩=>⟨o,eq.trans z⟩,go q2⟩
   |dt ks ws=>
    obtain⟨xs,q1,q0,q2,q3⟩:=h2
    have go:∀{vs:List V}{ws:List W},VReps K m h.n H vs ws->VReps K (λi=>if i=h.n then p else m i) (h.n+1) (upd H p u) vs ws:=λq2=>
     VReps.rec (K:=K) (m:=m) (n:=h.n) (H:=H) (motive_1:=λv w _=>VRep K m h.n H v w) (motive_2:=λvs ws _=>VReps K (λi=>if i=h.n then p else m i) (h.n+1) (upd H p u) vs ws)
      .non .bl .int .str (λsq q _=>.tup sq q) (λsq q _=>.fz sq q) (λhi=>.ref hi) .nil (λq _ _ i2=>.cons (mv q) i2) q2
    exact⟨xs,q1.imp (λz=>eq.trans z) λ⟨o,z⟩=>⟨o,eq.trans z⟩,q0,go q2,go q3⟩
 .have hi:i<h.n+1:=hi
  have hj:j<h.n+1:=hj
  by_cases e:i=h.n
  .by_cases e2:j=h.n
   .omega
   .simp only[if_pos e,if_neg e2]at z
    exact absurd z.symm (hp j (by omega))
  .by_cases e2:j=h.n
   .simp only[if_neg e,if_pos e2]at z
    exact absurd z (hp i (by omega))
   .simp only[if_neg e,if_neg e2]at z
    exact r.inj i j (by omega) (by omega) z
 .show(o::h.os).length=h.n+1
  rw[vaj,r.len]
theorem VReps.map{m':Nat->Addr}{n':Nat}{H':Hp}(mv:∀{v:V} {w:W},VRep K m n H v w->VRep K m' n' H' v w):∀{vs:List V} {ws:List W},VReps K m n H vs ws->VReps K m' n' H' vs ws
 |_,_,.nil=>.nil
 |_,_,.cons q r=>.cons (mv q) (VReps.map mv r)
theorem KReps.map{m':Nat->Addr}{n':Nat}{H':Hp}(mv:∀{v:V} {w:W},VRep K m n H v w->VRep K m' n' H' v w):∀{vs:List (Key×V)} {ws:List (Key×W)},KReps K m n H vs ws->KReps K m' n' H' vs ws
 |_,_,.nil=>.nil
 |_,_,.cons q r=>.cons (mv q) (KReps.map mv r)
theorem KReps.look(k:Key):∀{vs:List (Key×V)} {ws:List (Key×W)},KReps K m n H vs ws->(valV vs k=none/\lookK ws k=none)\/∃v w,valV vs k=some v/\lookK ws k=some w/\VRep K m n H v w
 |_,_,.nil=>.inl ⟨rfl,rfl⟩
 |_,_,.cons (k:=k') (v:=v) (w:=w) q r=>by
  by_cases e:k'=k
  .refine .inr ⟨v,w,zg1 (p:=(k',v)) e,?_,q⟩
   unfold lookK;rw[vbo];simp[e]
  .rcases KReps.look k r with⟨a,b⟩|⟨v',w',a,b,c⟩
   .refine .inl ⟨(zei (p:=(k',v)) e).trans a,?_⟩
    unfold lookK at b ⊢;rw[vbo];simp only[vaz e];exact b
   .refine .inr ⟨v',w',(zei (p:=(k',v)) e).trans a,?_,c⟩
    unfold lookK at b ⊢;rw[vbo];simp only[vaz e];exact b
theorem KReps.any(k:Key):∀{vs:List (Key×V)} {ws:List (Key×W)},KReps K m n H vs ws->(vs.any λkv=>decide (kv.1=k))=(ws.any λkv=>decide (kv.1=k))
 |_,_,.nil=>rfl
 |_,_,.cons q r=>by rw[veq,veq,KReps.any k r]
theorem KReps.repl(q:VRep K m n H v w)(k:Key):∀{vs:List (Key×V)} {ws:List (Key×W)},KReps K m n H vs ws->KReps K m n H (vs.map λkv=>if kv.1=k then(kv.1,v)else kv) (ws.map λkv=>if kv.1=k then(kv.1,w)else kv)
 |_,_,.nil=>.nil
 |_,_,.cons (k:=k') p r=>by
  rw[van,van]
  by_cases e:k'=k
  .simp only[if_pos e];exact .cons q (KReps.repl q k r)
  .simp only[if_neg e];exact .cons p (KReps.repl q k r)
theorem KReps.snoc(q:VRep K m n H v w)(k:Key):∀{vs:List (Key×V)} {ws:List (Key×W)},KReps K m n H vs ws->KReps K m n H (vs++[(k,v)]) (ws++[(k,w)])
 |_,_,.nil=>.cons q .nil
 |_,_,.cons p r=>.cons p (KReps.snoc q k r)
theorem KReps.put(q:VRep K m n H v w)(k:Key){vs:List (Key×V)}{ws:List (Key×W)}(r:KReps K m n H vs ws):KReps K m n H (putK vs k v) (putKW ws k w):=by
 unfold putK putKW
 rw[r.any k]
 split
 .exact r.repl q k
 .exact r.snoc q k
theorem KReps.merge{vs:List (Key×V)}{ws:List (Key×W)}(q:KReps K m n H vs ws):∀{va:List (Key×V)} {wa:List (Key×W)},KReps K m n H va wa->KReps K m n H (zd8 va vs) (zky wa ws):=by
 induction q with
 |nil=>exact λa=>a
 |cons q r ih=>exact λa=>ih (a.put q _)
theorem KReps.length:∀{vs:List (Key×V)} {ws:List (Key×W)},KReps K m n H vs ws->vs.length=ws.length
 |_,_,.nil=>rfl
 |_,_,.cons _ r=>by rw[vaj,vaj,KReps.length r]
theorem zuj{k:Key}(q:VRep K m n H v w)(e:keyW w=some k):v=kV k:=by
 cases q<;>cases e<;>rfl
theorem zg8{i:Int}(q:VReps K m n H vs ws)(e:atI ws i=some w):∃v,atI vs i=some v/\VRep K m n H v w:=by
 unfold atI at e ⊢
 rw[q.length]
 cases z:ixN ws.length i with
 |none=>rw[z]at e;cases e
 |some j=>
  rw[z]at e
  exact q.get e
end
noncomputable def rIdx(K:PySem.W.Frag):R2:=λx y H Q=>rIxL K x y H Q\/rIxT K x y H Q\/(∃a v,x=.ref a/\DGet H a y (some v)/\Q v H)\/rIxX K x y H Q
section
variable{X:Cx}{a b c e o:Expr}{es:List Expr}{fa fb fc fo:FE}{pos:Pos}
theorem zuk(hu:X.A.units+1<cLine):IxR X (λx y H Q=>∃a v,x=.ref a/\DGet H a y (some v)/\Q v H):=by
 intro value slice pins s σ H x y v u Q I rx ry q hs
 obtain⟨a,v',rfl,g,q⟩:=q
 obtain rfl:v=Value.ref a:=rx
 exact tail_any (zjw I g) PySem.F.slot_dict_getitem.lookup (znm hu I g ry λw' s3 I3 rw'=>⟨v',H,I3,rw',q⟩) hs
theorem ix_ok(hu:X.A.units+2<cLine):IxR X (rIdx X.K):=zt0.or (zww.or ((zuk (by omega)).or (ix_dt hu)))
theorem zul{K:PySem.W.Frag}:OpV K (rIdx K) (λx y h=>.of (idxW h x y) h):=by
 intro m h H v u x y w h' Q r qv qu e0 k
 obtain⟨e,e1⟩:=of_ok e0
 clear e0
 subst e1
 unfold idxW at e
 split at e
 .cases qv with
  |tup sq rs=>
   cases qu
   obtain⟨v',h1,h2⟩:=zg8 rs e
   exact .inr (.inl ⟨_,_,_,v',rfl,rfl,sq,h1,Wants.here k r h2⟩)
 .cases qv with
  |fz sq rs=>
   cases qu
   obtain⟨v',h1,h2⟩:=zg8 rs e
   exact .inl ⟨_,_,_,v',rfl,rfl,sq.sq,h1,Wants.here k r h2⟩
 .rename_i i j
  cases qv;cases qu
  cases g:h'.get i with
  |none=>rw[g]at e;cases e
  |some ob=>
   rw[g]at e
   cases ob with
   |lst ws=>
    obtain⟨vs,p1,p2⟩:=r.lst g
    obtain⟨v',h1,h2⟩:=zg8 p2 e
    exact .inl ⟨_,_,_,v',rfl,rfl,SqL.of p1,h1,Wants.here k r h2⟩
   |dk ws=>
    have e:lookK ws (.inl j)=some w:=e
    obtain⟨vs,p1,p2⟩:=r.dk g
    rcases p2.look (.inl j)with⟨_,z⟩|⟨v',w',z1,z2,z3⟩
    .rw[z]at e;cases e
    .rw[z2]at e;cases e
     exact .inr (.inr (.inl ⟨_,v',rfl,by rw[<-z1];exact .inl ⟨vs,.inl j,p1,rfl,rfl⟩,Wants.here k r z3⟩))
   |dt _ _=>cases e
 .rename_i i j
  cases qv;cases qu
  cases g:h'.get i with
  |none=>rw[g]at e;cases e
  |some ob=>
   rw[g]at e
   cases ob with
   |lst ws=>cases e
   |dk ws=>
    have e:lookK ws (.inr j)=some w:=e
    obtain⟨vs,p1,p2⟩:=r.dk g
    rcases p2.look (.inr j)with⟨_,z⟩|⟨v',w',z1,z2,z3⟩
    .rw[z]at e;cases e
    .rw[z2]at e;cases e
     exact .inr (.inr (.inl ⟨_,v',rfl,by rw[<-z1];exact .inl ⟨vs,.inr j,p1,rfl,rfl⟩,Wants.here k r z3⟩))
   |dt _ _=>cases e
 .rename_i i _ _
  cases qv
  unfold idxD at e
  split at e
  .rename_i ks ws dk g hk
   obtain⟨xs,p1,p2,p3,p4⟩:=r.dt g
   obtain⟨c,rfl,kk⟩:=ze7 qu hk
   rcases zg6 dk p2 p4 with⟨_,z2⟩|⟨p,w',z1,z2,z3⟩
   .rw[z2]at e;cases e
   .rw[z2]at e;cases e
    exact .inr (.inr (.inr ⟨_,c,xs,dk,p,rfl,rfl,dt_DT p1 p2 p3,kk,z1,Wants.here k r z3⟩))
  .cases e
 .cases e
theorem zxz(hu:X.A.units+2<cLine)(ha:SE X a fa)(hb:SE X b fb)(hs:zjs b):SE X (.Subscript a b pos) (λρ h=>(fa ρ h).bind λx h=>(fb ρ h).bind λy h=>.of (idxW h x y) h):=
 (pe_ix (ix_ok hu) ha hb hs).imp λσ H Q q=>zg4 (G:=rIdx X.K) zul q
noncomputable def lftO(K:PySem.W.Frag)(b:Bool)(f:FE):TO:=λσ H Q=>∃ρ h m w o h',Fr K m h.n H σ ρ/\Rel K m h H/\f ρ h=.ok w h'/\partW b w=some o/\∀H' m',Stp m h.n H m' h'.n H'->Rel K m' h' H'->Q o H'
theorem lftO.el{K:PySem.W.Frag}{σ:L2.St}{H:Hp}{P:Prop}{b:Bool}{fa:FE}{Q:Option Int->Hp->Prop}(q:lftO K b fa σ H Q)(k:∀ρ h m w o h',Fr K m h.n H σ ρ->Rel K m h H->fa ρ h=.ok w h'->partW b w=some o->(∀H' m',Stp m h.n H m' h'.n H'->Rel K m' h' H'->Q o H')->P):P:=by
 obtain⟨ρ,h,m,w,o,h',f,r,e,ep,k'⟩:=q
 exact k ρ h m w o h' f r e ep k'
theorem lftO.mk{K:PySem.W.Frag}{σ:L2.St}{H:Hp}{m:Nat->Addr}{ρ:En}{h h':VH}{w:W}{o:Option Int}{b:Bool}{fa:FE}{Q:Option Int->Hp->Prop}(f:Fr K m h.n H σ ρ)(r:Rel K m h H)(e:fa ρ h=.ok w h')(ep:partW b w=some o)(k:∀H' m',Stp m h.n H m' h'.n H'->Rel K m' h' H'->Q o H'):lftO K b fa σ H Q:=⟨ρ,h,m,w,o,h',f,r,e,ep,k⟩
theorem zum{w:W}:PO X none (lftO X.K false (λ_ h=>.ok w h)):=λpins s σ H Q I z9=>z9.el λρ h m w o h' f r e ep k=>by
 cases e
 have:o=none:=by
  unfold partW at ep
  cases ep;rfl
 subst this
 exact ztx pins s σ H Q I (k H m .refl r)
theorem zn0(ha:SE X e fa):PO X (some e) (lftO X.K true fa):=λpins s σ H Q I z9=>z9.el λρ h m w o h' f r e ep k=>by
 refine zty ha pins s σ H Q I (.mk f r e λv H' m' s' r' q=>?_)
 cases q<;>cases ep
 exact⟨_,rfl,k H' m' s' r'⟩
theorem zk0{K:PySem.W.Frag}{m:Nat->Addr}{n:Nat}{H:Hp}{vs:List V}{ws:List W}(q:VReps K m n H vs ws)(lo hi:Option Int):VReps K m n H (cutV vs lo hi) (cutW ws lo hi):=by
 unfold cutV cutW
 rw[q.length]
 exact(q.drop _).take _
theorem zmb{lo hi:Option Int}(h:HT.sIx ws.length 0 lo=0/\HT.sIx ws.length ws.length hi=ws.length):cutW ws lo hi=ws:=by
 unfold cutW
 rw[h.1,h.2]
 simp
theorem zx0{lo hi:Option Expr}{fl fh:FE}{p2:Pos}{bl bh:Bool}(ha:SE X a fa)(hl:PO X lo (lftO X.K bl fl))(hh:PO X hi (lftO X.K bh fh)) :
 SE X (.Subscript a (.Slice lo hi none p2) pos) (λρ h=>(fa ρ h).bind λx h=>(fl ρ h).bind λl h=>(fh ρ h).bind λu h=>match partW bl l,partW bh u with
 |some l,some u=>slcW x l u h
 |_,_=>.no):=
 (zqi zw6 ha hl hh).imp λσ H Q z9=>z9.el λρ h m w h' f r e k=>by
   refine zac e λx h1 e1 e2=>?_
   refine zac e2 λl h2 e3 e4=>?_
   refine zac e4 λu h3 e5 e6=>?_
   split at e6
   .rename_i l' u' pl pu
    refine(.mk f r e1 λv H1 m1 s1 r1 q1=>(.mk (f.stp s1) r1 e3 pl λH2 m2 s2 r2=>(.mk ((f.stp s1).stp s2) r2 e5 pu λH3 m3 s3 r3=>?_)))
    have q3:=(q1.stp s2).stp s3
    have kk:Wants X.K m3 h3.n H3 w h' Q:=λv' H' m' s' r' q'=>k v' H' m' (((s1.trans s2).trans s3).trans s') r' q'
    unfold slcW at e6
    split at e6
    .rename_i ws
     cases e6
     cases q3 with
     | @tup a vs _ sq rs=>
      by_cases hw:HT.sIx vs.length 0 l'=0/\HT.sIx vs.length vs.length u'=vs.length
      .refine .inl (.inr ⟨_,_,rfl,sq,hw,?_⟩)
       have hw':=hw
       rw[rs.length]at hw'
       rw[zmb hw']at kk
       exact Wants.here kk r3 (.tup sq rs)
      .exact .inl (.inl ⟨_,_,rfl,sq,hw,λp hp=>Wants.tuple kk r3 (zk0 rs l' u') hp⟩)
    .rename_i i
     cases q3
     cases g:h3.get i with
     |none=>rw[g]at e6;cases e6
     |some ob=>
      rw[g]at e6
      cases ob with
      |lst ws=>
       cases e6
       obtain⟨vs,p1,p2⟩:=r3.lst g
       exact .inr ⟨_,_,rfl,SqL.of p1,λp hp=>Wants.list kk r3 (zk0 p2 l' u') hp⟩
      |dk ws=>cases e6
      |dt _ _=>cases e6
    .cases e6
   .cases e6
end
noncomputable def za4:Expr->Bool
 |.Starred ..=>false
 |_=>true
theorem zap(h:za4 e=true):starEach (e::es) env=(false,eval e env)::starEach es env:=by
 cases e<;>first|rfl|cases h
theorem zc7:∀{es:List Expr},es.all za4=true->(backTo pos (starEach es env)).any (·.1)=false
 |[],_=>rfl
 |e::es,h=>by
  rw[vcs,vab]at h
  rw[zap h.1]
  show(false|| (backTo pos (starEach es env)).any (·.1))=false
  rw[zc7 h.2];rfl
noncomputable abbrev aNil:FE:=λ_ h=>.ok (.tup []) h
noncomputable abbrev aCons(fa fb:FE):FE:=λρ h=>(fa ρ h).bind λx h=>(fb ρ h).bind λy h=>match y with|.tup ys=>.ok (.tup (x::ys)) h|_=>.no
section
variable{X:Cx}{a b c e o:Expr}{es:List Expr}{fa fb fc fo:FE}{pos p:Pos}{x:Str}
noncomputable abbrev gArg(fa:FE)(g:List W->VH->Res W):FE:=λρ h=>(fa ρ h).bind λy h=>match y with|.tup ys=>g ys h|_=>.no
noncomputable def CallV(K:PySem.W.Frag)(r:List V->Hp->VK->Prop)(g:List W->VH->Res W):Prop:=∀(m:Nat->Addr) (h:VH) (H:Hp) (vs:List V) (xs:List W) (w:W) (h':VH) (Q:VK),Rel K m h H->VReps K m h.n H vs xs->g xs h=.ok w h'->Wants K m h.n H w h' Q->r vs H Q
theorem zen{id:String}{r:List V->Hp->VK->Prop}{g:List W->VH->Res W}(hc:CallR X (.builtin id) r)(hv:CallV X.K r g)(hg:Gl X x)(hm:X.mg x=none)(hb:bootBuiltins x=some (.builtin id))(ha:SA X (e::es) fa)(hs:(e::es).all za4=true)
 (hn:x≠"__name__") (hdb:(x==("__debug__" : Str))=false):SE X (.Call (.Name x p) (e::es) [] pos) (gArg fa g):=by
 rw[vcs,vab]at hs
 exact(zkt hc hg hm hb ha hn hdb (zap hs.1) (zc7 hs.2)).imp λσ H Q q=>zdt hv q
theorem ze8{T:String}{r:List V->Hp->VK->Prop}{g:List W->VH->Res W}(hc:CallR X (.type T) r)(hv:CallV X.K r g)(hg:Gl X x)(hm:X.mg x=none)(hb:bootBuiltins x=some (.type T))(ha:SA X (e::es) fa)(hs:(e::es).all za4=true)
 (hn:x≠"__name__") (hdb:(x==("__debug__" : Str))=false):SE X (.Call (.Name x p) (e::es) [] pos) (gArg fa g):=by
 rw[vcs,vab]at hs
 exact(znd hc hg hm hb ha hn hdb (zap hs.1) (zc7 hs.2)).imp λσ H Q q=>zdt hv q
theorem reps1{K:PySem.W.Frag}{m:Nat->Addr}{n:Nat}{H:Hp}{vs:List V}{w:W}(q:VReps K m n H vs [w]):∃v,vs=[v]/\VRep K m n H v w:=by
 cases q with|cons q r=>cases r;exact⟨_,rfl,q⟩
theorem zx1{K:PySem.W.Frag}:CallV K (λxs H Q=>(∃p ys,xs=[.ref p]/\(SqL K H p ys\/SqT K H p ys)/\Q (.int ys.length) H)\/∃a ys,xs=[.ref a]/\DT K H a ys/\Q (.int ys.length) H) lenW:=by
 intro m h H vs xs w h' Q r q e k
 unfold lenW at e
 split at e<;>try cases e
 rename_i x
 obtain⟨v,rfl,q1⟩:=reps1 q
 obtain⟨e,rfl⟩:=of_ok e
 cases z:seqW h' x with
 |none=>
  rw[z]at e
  simp only[keysD]at e
  cases q1<;>try cases e
  rename_i i _ _
  cases g:h'.get i with
  |none=>simp[g]at e
  |some ob=>
   cases ob with
   |lst _=>simp[g]at e
   |dk _=>simp[g]at e
   |dt ks ws=>
    simp only[g,vah,vd9]at e
    subst e
    obtain⟨xs,p1,p2,p3,p4⟩:=r.dt g
    have:=p3.length
    rw[vad]at this
    exact .inr ⟨_,xs,rfl,dt_DT p1 p2 p3,by rw[this];exact Wants.here k r (.int _)⟩
 |some ws=>
  rw[z]at e;cases e
  obtain⟨p,us,rfl,h1,h2⟩:=zdv r q1 z
  exact .inl ⟨p,us,rfl,h1,by rw[h2.length];exact Wants.here k r (.int _)⟩
theorem zun{K:PySem.W.Frag}:CallV K (λxs H Q=>∃p ys,xs=[.ref p]/\(SqL K H p ys\/SqT K H p ys)/\∀l,H l=none->Q (.ref l) (upd H l (.lst ys))) listW:=by
 intro m h H vs xs w h' Q r q e k
 unfold listW at e
 split at e<;>try cases e
 rename_i x
 obtain⟨v,rfl,q1⟩:=reps1 q
 cases z:seqW h x with
 |none=>rw[z]at e;cases e
 |some ws=>
  rw[z]at e;cases e
  obtain⟨p,us,rfl,h1,h2⟩:=zdv r q1 z
  exact⟨p,us,rfl,h1,λl hl=>Wants.list k r h2 hl⟩
theorem zq3{K:PySem.W.Frag}:CallV K (λxs H Q=>∃p ys,xs=[.ref p]/\((SqL K H p ys/\∀l,H l=none->Q (.ref l) (upd H l (.tup ys)))\/(SqT K H p ys/\Q (.ref p) H))) ze5:=by
 intro m h H vs xs w h' Q r q e k
 unfold ze5 at e
 split at e<;>try cases e
 rename_i x
 obtain⟨v,rfl,q1⟩:=reps1 q
 obtain⟨e,rfl⟩:=of_ok e
 cases z:seqW h' x with
 |none=>rw[z]at e;cases e
 |some ws=>
  rw[z]at e;cases e
  obtain⟨p,us,rfl,h1,h2⟩:=zdv r q1 z
  rcases h1 with h1|h1
  .exact⟨p,us,rfl,.inl ⟨h1,λl hl=>Wants.tuple k r h2 hl⟩⟩
  .exact⟨p,us,rfl,.inr ⟨h1,Wants.here k r (.tup h1 h2)⟩⟩
theorem zx2{K:PySem.W.Frag}:CallV K (λxs H Q=>(∃i,xs=[.int i]/\Q (.int i) H)\/∃k,xs=[.bl k]/\Q (.int (if k then 1 else 0)) H) intW:=by
 intro m h H vs xs w h' Q r q e k
 unfold intW at e
 split at e<;>try cases e
 .obtain⟨v,rfl,q1⟩:=reps1 q
  cases q1
  exact .inl ⟨_,rfl,Wants.here k r (.int _)⟩
 .obtain⟨v,rfl,q1⟩:=reps1 q
  cases q1
  exact .inr ⟨_,rfl,Wants.here k r (.int _)⟩
theorem zx3{K:PySem.W.Frag}:CallV K (λxs H Q=>∃i,xs=[.int i]/\Q (.int (if i<0 then -i else i)) H) absW:=by
 intro m h H vs xs w h' Q r q e k
 unfold absW at e
 split at e<;>try cases e
 obtain⟨v,rfl,q1⟩:=reps1 q
 cases q1
 exact⟨_,rfl,Wants.here k r (.int _)⟩
theorem reps2{K:PySem.W.Frag}{m:Nat->Addr}{n:Nat}{H:Hp}{vs:List V}{w z:W}(q:VReps K m n H vs [w,z]):∃v u,vs=[v,u]/\VRep K m n H v w/\VRep K m n H u z:=by
 cases q with|cons q r=>obtain⟨u,rfl,h⟩:=reps1 r;exact⟨_,_,rfl,q,h⟩
theorem zx4{K:PySem.W.Frag}:CallV K (λxs H Q=>∃i j,xs=[.int i,.int j]/\Q (.int (if j<i then j else i)) H) minW:=by
 intro m h H vs xs w h' Q r q e k
 unfold minW at e
 split at e<;>try cases e
 obtain⟨v,u,rfl,q1,q2⟩:=reps2 q
 cases q1;cases q2
 exact⟨_,_,rfl,Wants.here k r (.int _)⟩
theorem zk1{K:PySem.W.Frag}{m:Nat->Addr}{n:Nat}{H:Hp}:∀{vs:List V} {ws:List W} {bs:List Bool},VReps K m n H vs ws->mapO blW ws=some bs->vs=bs.map .bl
 |_,_,bs,.nil,e=>by cases e;rfl
 |_,_,bs,.cons (w:=w) (ws:=ws) q r,e=>by
  unfold mapO at e
  cases z:blW w with
  |none=>rw[z]at e;cases e
  |some b=>
   rw[z]at e
   cases z2:mapO blW ws with
   |none=>rw[z2]at e;cases e
   |some cs=>
    rw[z2]at e;cases e
    unfold blW at z
    split at z<;>cases z
    cases q
    rw[zk1 r z2];rfl
theorem zx5{K:PySem.W.Frag}:CallV K (λxs H Q=>∃(p:Addr) (bs:List Bool),xs=[.ref p]/\SqL K H p (bs.map .bl)/\Q (.bl (bs.all id)) H) allW:=by
 intro m h H vs xs w h' Q r q e k
 unfold allW at e
 split at e<;>try cases e
 rename_i i
 split at e<;>try cases e
 rename_i ws g
 obtain⟨v,rfl,q1⟩:=reps1 q
 obtain⟨e,rfl⟩:=of_ok e
 cases z:mapO blW ws with
 |none=>rw[z]at e;cases e
 |some bs=>
  rw[z]at e;cases e
  cases q1
  obtain⟨us,p1,p2⟩:=r.lst g
  refine⟨_,bs,rfl,?_,Wants.here k r (.bl _)⟩
  rw[<-zk1 p2 z]
  exact .inl (.inl p1)
noncomputable def tyN:Ty->String
 |.int=>"int" |.bool=>"bool" |.tuple=>"tuple" |.list=>"list" |.str=>"str" |.dict=>"dict"
noncomputable def rIsi(K:PySem.W.Frag)(n:String):List V->Hp->VK->Prop:=λxs H Q=>∃x b,xs=[x,.ty n]/\((∃t,TyOf K H x t/\PySem.W.kitOne K t (.type n)=some b)\/(∃a vs,x=.ref a/\SqT K H a vs/\PySem.W.kitOne K (.type "tuple") (.type n)=some b)\/∃a,x=.ref a/\DTo H a/\PySem.W.kitOne K (.type "dict") (.type n)=some b)/\Q (.bl b) H
theorem zq4(n:String):CallR X (.builtin "isinstance") (rIsi X.K n):=by
 intro pins s σ H xs us Q I r h
 obtain⟨x,b,rfl,hi,q⟩:=h
 obtain⟨u,u2,rfl,rx,rc⟩:=vals2 r
 obtain rfl:u2=Value.type n:=rc
 rcases hi with⟨t,ty,e⟩|⟨a,vs,rfl,sq,e⟩|⟨a,rfl,rd,e⟩
 .exact zna I rx ty e λtk=>⟨.bl b,H,I.tok _,rfl,q⟩
 .obtain rfl:u=Value.ref a:=rx
  obtain⟨its,_,p,_⟩:=I.tuple sq
  obtain⟨o,h1,h2,_⟩:=p
  exact vbt PySem.W.kitx_tuple I.kIn ⟨o,h1,h2⟩ e (λz=>nomatch z) λtk=>⟨.bl b,H,I.tok _,rfl,q⟩
 .obtain rfl:u=Value.ref a:=rx
  obtain⟨o,_,_,h1,h2,_⟩:=rd.obj I
  exact vbt PySem.W.kitx_dict I.kIn ⟨o,h1,h2⟩ e (λz=>nomatch z) λtk=>⟨.bl b,H,I.tok _,rfl,q⟩
theorem zx6{K:PySem.W.Frag}(t:Ty){m:Nat->Addr}{h:VH}{H:Hp}{v:V}{x:W}{b:Bool}(r:Rel K m h H)(q:VRep K m h.n H v x)(e:tyIs t h x=some b) :
 (∃t',TyOf K H v t'/\PySem.W.kitOne K t' (.type (tyN t))=some b)\/(∃a vs,v=.ref a/\SqT K H a vs/\PySem.W.kitOne K (.type "tuple") (.type (tyN t))=some b)\/∃a,v=.ref a/\DTo H a/\PySem.W.kitOne K (.type "dict") (.type (tyN t))=some b:=by
 cases q with
 |non=>cases e;refine .inl ⟨_,.non,?_⟩;cases t<;>rfl
 |bl x=>cases e;refine .inl ⟨_,.bl x,?_⟩;cases t<;>rfl
 |int x=>cases e;refine .inl ⟨_,.int x,?_⟩;cases t<;>rfl
 |str x=>cases e;refine .inl ⟨_,.str x,?_⟩;cases t<;>rfl
 |tup sq rs=>cases e;refine .inr (.inl ⟨_,_,rfl,sq,?_⟩);cases t<;>rfl
 |fz _ _=>cases e
 | @ref i hi=>
  simp only[tyIs]at e
  cases g:h.get i with
  |none=>rw[g]at e;cases e
  |some o=>
   rw[g]at e
   cases o with
   |lst ws=>
    cases e
    obtain⟨vs,h1,h2⟩:=r.lst g
    refine .inl ⟨_,.lst h1,?_⟩;cases t<;>rfl
   |dk ws=>
    cases e
    obtain⟨vs,h1,h2⟩:=r.dk g
    refine .inr (.inr ⟨_,rfl,.inl ⟨_,h1⟩,?_⟩);cases t<;>rfl
   |dt _ _=>
    cases e
    obtain⟨xs,p1,_⟩:=r.dt g
    refine .inr (.inr ⟨_,rfl,zxo p1,?_⟩);cases t<;>rfl
theorem zx7(t:Ty){T:Str}{p2:Pos}(ha:SE X e fa)(hs:za4 e=true)(hg:Gl X "isinstance")(hm:X.mg "isinstance" = none)(hgT:Gl X T)(hmT:X.mg T=none)(hbT:bootBuiltins T=some (.type (tyN t)))(hn:T≠"__name__")(hd:(T==("__debug__" : Str))=false) :
 SE X (.Call (.Name "isinstance" p) [e,.Name T p2] [] pos) (λρ h=>(fa ρ h).bind λx h=>.of ((tyIs t h x).map .bl) h):=by
 have hT:PE X (.Name T p2) (tC (.ty (tyN t))):=ztl hgT hmT hbT rfl hn hd
 refine(zkt (zq4 (tyN t)) hg hm PyProof.Rows.boot_isinstance (zey ha (zey hT zkq) (zap hs)) (by decide) (by decide) (zap hs) rfl).imp λσ H Q q=>?_
 refine zsg (g:=λx h=>.of ((tyIs t h x).map .bl) h) (G:=λv H1 Q=>rIsi X.K (tyN t) [v,.ty (tyN t)] H1 Q) (λm h H v x w h' Q r q e k=>?_) q
 obtain⟨e,rfl⟩:=of_ok e
 cases z:tyIs t h' x with
 |none=>rw[z]at e;cases e
 |some b=>
  rw[z]at e;cases e
  exact⟨v,b,rfl,zx6 t r q z,Wants.here k r (.bl b)⟩
noncomputable def zj2:Expr->Bool
 |.Name .. |.Subscript ..=>true
 |_=>false
theorem zuo{m:Str}(h:zj2 o=true):attributeBase o m env (eval o env)=eval o env:=by
 cases o<;>first|rfl|cases h
noncomputable abbrev gMt(m:Mt)(fo fa:FE):FE:=λρ h=>(fo ρ h).bind λx h=>if zij m h x then(fa ρ h).bind λy h=>match y with|.tup ys=>mtW m x ys h|_=>.no else .no
theorem zn1(ho:SE X o fo)(he:SE X e fa)(hb:zj2 o=true)(hs:za4 e=true)(hl:(apos.endLine==pos.line)=true) :
 SE X (.Call (.Attribute o "append" apos) [e] [] pos) (gMt .append fo (aCons fa aNil)):=by
 refine(pe_bm (X:=X) PySem.F.plainAttrs_list PySem.F.slot_list_append PySem.F.type_list_append zif ho (zey he zkq (zap hs)) (zuo hb) ?_ hl (zap hs) rfl).imp λσ H Q z9=>z9.el λρ h m w h' f r e k=>?_
 .rw[zap hs];rfl
 .refine zac e λx h1 e1 e2=>?_
  split at e2
  .rename_i hk
   refine zac e2 λy h2 e3 e4=>?_
   refine zac e3 λz h3 e5 e6=>?_
   cases e6
   refine(.mk f r e1 λv H1 m1 s1 r1 q1=>?_)
   cases x<;>try cases hk
   rename_i i
   simp only[zij]at hk
   cases g:h1.get i with
   |none=>rw[g]at hk;cases hk
   |some ob=>
    rw[g]at hk
    cases ob with
    |dk _=>cases hk
    |dt _ _=>cases hk
    |lst ws0=>
     cases q1
     obtain⟨vs0,p1,_⟩:=r1.lst g
     refine⟨.inl ⟨rfl,vs0,SqL.of p1⟩,ρ,h1,m1,z,h2,f.stp s1,r1,e5,λv2 H2 m2 s2 r2 q2=>?_⟩
     simp only[mtW]at e4
     cases g2:h2.get i with
     |none=>rw[g2]at e4;cases e4
     |some ob=>
      rw[g2]at e4
      cases ob with
      |dk _=>cases e4
      |dt _ _=>cases e4
      |lst ws=>
       simp only at e4
       split at e4
       .rename_i hz
        cases e4
        obtain⟨vs,p2,p3⟩:=r2.lst g2
        have hmi:m1 i=m2 i:=(s2.same i (zaq g)).symm
        refine⟨m1 i,vs,v2,rfl,rfl,by rw[hmi];exact p2,by rw[p3.length];exact zao.mp hz,?_⟩
        obtain⟨st,r'⟩:=r2.write (i:=i) (o:=.lst (ws++[z])) (u:=.lst (vs++[v2])) (zaq g2) p2 (λ_ z=>nomatch z) (λ_ _ z=>nomatch z) λst=>⟨vs++[v2],zat,(p3.stp st).append (.cons (q2.stp st) .nil)⟩
        rw[hmi]
        exact k .non _ m2 ((s1.trans s2).trans st) r' .non
       .cases e4
  .cases e2
end
section
variable{K:PySem.W.Frag}{m m' m1:Nat->Addr}{n n' n1:Nat}{h h':VH}{H H' H1:Hp}
mutual
theorem VRep.mono(hn:n<=n')(hm:∀i,i<n->m' i=m i)(kt:∀b vs,H b=some (.tup vs)->H' b=some (.tup vs))(kf:∀b o u,H b=some (.frz o u)->H' b=some (.frz o u)):∀{v:V} {w:W},VRep K m n H v w->VRep K m' n' H' v w
 |_,_,.non=>.non
 |_,_,.bl b=>.bl b
 |_,_,.int b=>.int b
 |_,_,.str b=>.str b
 |_,_,.tup q r=>.tup (by
  rcases q with(q|⟨o,q⟩)|q
  .exact .inl (.inl (kt _ _ q))
  .exact .inl (.inr ⟨o,kf _ _ _ q⟩)
  .exact .inr q) (VReps.mono hn hm kt kf r)
 |_,_,.fz q r=>.fz (by
  rcases q with⟨o,q⟩|q
  .exact .inl ⟨o,kf _ _ _ q⟩
  .exact .inr q) (VReps.mono hn hm kt kf r)
 |_,_,.ref (i:=i) q=>by rw[<-hm i q];exact .ref (vak q hn)
theorem VReps.mono(hn:n<=n')(hm:∀i,i<n->m' i=m i)(kt:∀b vs,H b=some (.tup vs)->H' b=some (.tup vs))(kf:∀b o u,H b=some (.frz o u)->H' b=some (.frz o u)):∀{vs:List V} {ws:List W},VReps K m n H vs ws->VReps K m' n' H' vs ws
 |_,_,.nil=>.nil
 |_,_,.cons q r=>.cons (VRep.mono hn hm kt kf q) (VReps.mono hn hm kt kf r)
end
theorem Rel.side(r:Rel K m h H){D:Addr}{u u0:HO}(hu:H D=some u0)(ht:∀t,u0≠.tup t)(hf:∀o t,u0≠.frz o t)(ho:∀i,i<h.n->m i≠D)(s:Stp m1 n1 H1 m h.n H)(h0:H1 D=none) :
 Stp m1 n1 H1 m h.n (upd H D u)/\Rel K m h (upd H D u)/\∀{v:V}{w:W},VRep K m h.n H v w->VRep K m h.n (upd H D u) v w:=by
 have kt:∀b vs,H b=some (.tup vs)->upd H D u b=some (.tup vs):=λb vs q=>by rw[zai (ne_of q hu λz=>ht vs z.symm)];exact q
 have kf:∀b o t,H b=some (.frz o t)->upd H D u b=some (.frz o t):=λb o t q=>by rw[zai (ne_of q hu λz=>hf o t z.symm)];exact q
 have mv:∀{v:V}{w:W},VRep K m h.n H v w->VRep K m h.n (upd H D u) v w:=λq=>q.mono (vac _) (λ_ _=>rfl) kt kf
 refine⟨⟨s.le,s.same,s.new,s.apart,λb vs q=>kt b vs (s.tup b vs q),λb o t q=>kf b o t (s.frz b o t q),λb o nb q=>by rw[zai (zae q h0)];exact s.keep b o nb q⟩,⟨λi hi=>?_,r.inj,r.len⟩,mv⟩
 obtain⟨o,h1,h2⟩:=r.obj i hi
 have eq:upd H D u (m i)=H (m i):=zai (ho i hi)
 refine⟨o,h1,?_⟩
 cases o with
 |lst ws=>obtain⟨vs,q1,q2⟩:=h2;exact⟨vs,eq.trans q1,q2.map mv⟩
 |dk ws=>obtain⟨vs,q1,q2⟩:=h2;exact⟨vs,q1.imp (λz=>eq.trans z) λ⟨o,z⟩=>⟨o,eq.trans z⟩,q2.map mv⟩
 |dt ks ws=>obtain⟨xs,q1,q0,q2,q3⟩:=h2;exact⟨xs,q1.imp (λz=>eq.trans z) λ⟨o,z⟩=>⟨o,eq.trans z⟩,q0,q2.map mv,q3.map mv⟩
theorem Rel.out(r:Rel K m h H){p:Addr}(hp:H p=none):∀i,i<h.n->m i≠p:=λi hi z=>by
 obtain⟨o',_,h2⟩:=r.obj i hi
 obtain⟨u',h3⟩:=h2.some
 rw[z,hp]at h3;cases h3
theorem Stp.out(s:Stp m n H m' n' H'){p:Addr}(hp:∀i,i<n->m i≠p)(hu:H p=some u):∀i,i<n'->m' i≠p:=λi hi z=>by
 by_cases hl:i<n
 .exact hp i hl ((s.same i hl).symm.trans z)
 .have:=s.new i (vch.mp hl) hi
  rw[z,hu]at this;cases this
end
inductive PReps(K:PySem.W.Frag)(m:Nat->Addr)(n:Nat)(H:Hp):List (V×V)->List W->Prop
 |nil:PReps K m n H [] []
 |cons {k v:V} {a b:W} {ps:List (V×V)} {ws:List W}:VRep K m n H k a->VRep K m n H v b->PReps K m n H ps ws->PReps K m n H ((k,v)::ps) (a::b::ws)
noncomputable def lftP(K:PySem.W.Frag)(f:FE)(σ:L2.St)(H:Hp)(Q:List (V×V)->Hp->Prop):Prop:=∃ρ h m ws h',Fr K m h.n H σ ρ/\Rel K m h H/\f ρ h=.ok (.tup ws) h'/\
 ∀ps H' m',Stp m h.n H m' h'.n H'->Rel K m' h' H'->PReps K m' h'.n H' ps ws->Q ps H'
theorem lftP.el{K:PySem.W.Frag}{σ:L2.St}{H:Hp}{P:Prop}{fa:FE}{Q:List (V×V)->Hp->Prop}(q:lftP K fa σ H Q)(k:∀ρ h m ws h',Fr K m h.n H σ ρ->Rel K m h H->fa ρ h=.ok (.tup ws) h'->(∀ps H' m',Stp m h.n H m' h'.n H'->Rel K m' h' H'->PReps K m' h'.n H' ps ws->Q ps H')->P):P:=by
 obtain⟨ρ,h,m,w,h',f,r,e,k'⟩:=q
 exact k ρ h m w h' f r e k'
theorem lftP.mk{K:PySem.W.Frag}{σ:L2.St}{H:Hp}{m:Nat->Addr}{ρ:En}{h h':VH}{ws:List W}{fa:FE}{Q:List (V×V)->Hp->Prop}(f:Fr K m h.n H σ ρ)(r:Rel K m h H)(e:fa ρ h=.ok (.tup ws) h')(k:∀ps H' m',Stp m h.n H m' h'.n H'->Rel K m' h' H'->PReps K m' h'.n H' ps ws->Q ps H'):lftP K fa σ H Q:=⟨ρ,h,m,ws,h',f,r,e,k⟩
noncomputable def SPs(X:Cx)(pos:Pos)(keys:List (Option Expr))(values:List Expr)(f:FE):Prop:=∃trs,PPs X pos keys values trs/\∀σ H Q,lftP X.K f σ H Q->zkw trs σ H Q
section
variable{X:Cx}{a b c e o:Expr}{es:List Expr}{fa fb fc fo fr:FE}{pos p:Pos}{x:Str}
theorem zup:SPs X pos [] [] aNil:=⟨[],zt8,λσ H Q z9=>z9.el λρ h m ws h' f r e k=>by cases e;exact k [] H m .refl r .nil⟩
theorem zq5{ks:List (Option Expr)}{vs:List Expr}(ha:SE X a fa)(hb:SE X b fb)(hr:SPs X pos ks vs fr):SPs X pos (some a::ks) (b::vs) (aCons fa (aCons fb fr)):=by
 obtain⟨trs,h1,h2⟩:=hr
 refine⟨_,zqp ha hb h1,λσ H Q z9=>z9.el λρ h m ws h' f r e k=>?_⟩
 refine zac e λx h3 e1 e2=>?_
 refine zac e2 λy h4 e3 e4=>?_
 refine zac e3 λx2 h5 e5 e6=>?_
 refine zac e6 λy2 h6 e7 e8=>?_
 cases y2<;>try cases e8
 cases e4
 rename_i ys
 exact(.mk f r e1 λv H1 m1 s1 r1 q1=>(.mk (f.stp s1) r1 e5 λv2 H2 m2 s2 r2 q2=>h2 σ H2 _ (.mk ((f.stp s1).stp s2) r2 e7 λps H3 m3 s3 r3 q3=>
  k _ H3 m3 ((s1.trans s2).trans s3) r3 (.cons ((q1.stp s2).stp s3) (q2.stp s3) q3))))
theorem zk2{K:PySem.W.Frag}{m:Nat->Addr}{n:Nat}{H:Hp}:∀{ps:List (V×V)} {ws:List W} {kws:List (Key×W)},PReps K m n H ps ws->zcb ws=some kws->∃kvs:List (Key×V),ps=kvs.map (λkv=>(kV kv.1,kv.2))/\KReps K m n H kvs kws
 |_,_,_,.nil,e=>by cases e;exact⟨[],rfl,.nil⟩
 |_,_,_,.cons (a:=a) (v:=v) q1 q2 r,e=>by
  simp only[zcb]at e
  split at e
  .rename_i k hk
   split at e
   .rename_i kvs hp
    cases e
    obtain⟨kv,rfl,r'⟩:=zk2 r hp
    refine⟨(k,v)::kv,?_,.cons q2 r'⟩
    rw[van,zuj q1 hk]
   .cases e
  .cases e
noncomputable abbrev gDsp(f:FE):FE:=λρ h=>(f ρ h).bind λy h=>match y with
 |.tup ys=>(match zcb ys with
  |some kvs=>if Nat.ble kvs.length 15 then .ok (.ref h.n) (h.new (dkO kvs))else .no
  |none=>dspD ys h)
 |_=>.no
theorem zx8{K:PySem.W.Frag}{m:Nat->Addr}{n:Nat}{H:Hp}{ps:List (V×V)}{a b:W}(q:PReps K m n H ps [a,b]):∃k v,ps=[(k,v)]/\VRep K m n H k a/\VRep K m n H v b:=by
 cases q with|cons q1 q2 r=>cases r;exact⟨_,_,rfl,q1,q2⟩
theorem zx9(hu:X.A.units+2<cLine){keys:List (Option Expr)}{values:List Expr}(hp:SPs X pos keys values fa)(hall:keys.all (·.isSome)=true)(hl:keys.length=values.length)(h0:keys≠[])(h15:keys.length<=15):SE X (.Dict keys values pos) (gDsp fa):=by
 obtain⟨trs,h1,h2⟩:=hp
 refine(zq1 hu h1 hall hl h0 h15).imp λσ H Q z9 p hp=>z9.el λρ h m w h' f r e k=>?_
 refine zac e λy h3 e1 e2=>?_
 cases y<;>try cases e2
 rename_i ys
 obtain⟨st0,r0⟩:=r.more (u:=.dK []) hp
 refine h2 σ _ _ (.mk (f.stp st0) r0 e1 λps H2 m2 s2 r2 q2=>?_)
 have hout:=s2.out (r.out hp) zat
 have hD:H2 p=some (.dK []):=s2.keep p _ (r.out hp) zat
 refine⟨hD,?_⟩
 have e2:(match zcb ys with
  |some kvs=>if Nat.ble kvs.length 15 then Res.ok (W.ref h3.n) (h3.new (dkO kvs))else .no
  |none=>dspD ys h3)=.ok w h':=e2
 cases hk:zcb ys with
 |none=>
  rw[hk]at e2
  have e5:dspD ys h3=.ok w h':=e2
  clear e2
  try(rename_i e00;clear e00)
  unfold dspD at e5
  split at e5
  .rename_i kw vw
   split at e5
   .rename_i dk hd
    cases e5
    obtain⟨kv,vv,rfl,q3,q4⟩:=zx8 q2
    obtain⟨b,rfl,kk⟩:=ze7 q3 hd
    refine .inr ⟨b,dk,vv,rfl,kk,?_⟩
    obtain⟨st,r'⟩:=r2.adopt (o:=.dt [kw] [vw]) (u:=dtH [(dk,b,vv)] p) hout hD (λ_ z=>nomatch z) (λ_ _ z=>nomatch z) (st0.trans s2) hp λ_ mv=>⟨[(dk,b,vv)],.inl zat,by simp[mapO,hd],.cons (mv q3) .nil,.cons (mv q4) .nil⟩
    refine k _ _ _ st r' ?_
    have:VRep X.K (λi=>if i=h3.n then p else m2 i) (h3.n+1) (upd H2 p (dtH [(dk,b,vv)] p)) (.ref ((λi=>if i=h3.n then p else m2 i) h3.n)) (.ref h3.n):=.ref (vbx _)
    simp only[vbm]at this
    exact this
   .cases e5
  .cases e5
 |some kws=>
  rw[hk]at e2
  have e2:(if Nat.ble kws.length 15 then Res.ok (W.ref h3.n) (h3.new (dkO kws))else .no)=.ok w h':=e2
  by_cases hz:Nat.ble kws.length 15=true
  .rw[if_pos hz]at e2
   cases e2
   obtain⟨kvs,e3,q3⟩:=zk2 q2 hk
   refine .inl ⟨kvs,e3,by rw[q3.length];exact va9 hz,?_⟩
   obtain⟨st,r'⟩:=r2.adopt (o:=dkO kws) (u:=.dK (zd8 [] kvs)) hout hD (λ_ z=>nomatch z) (λ_ _ z=>nomatch z) (st0.trans s2) hp λ_ mv=>by
    cases kws with
    |nil=>cases q3;exact⟨[],.inr ⟨rfl,zat⟩,rfl,.nil,.nil⟩
    |cons k1 kws=>exact⟨_,.inl zat,(q3.merge .nil).map mv⟩
   refine k _ _ _ st r' ?_
   have:VRep X.K (λi=>if i=h3.n then p else m2 i) (h3.n+1) (upd H2 p (.dK (zd8 [] kvs))) (.ref ((λi=>if i=h3.n then p else m2 i) h3.n)) (.ref h3.n):=.ref (vbx _)
   simp only[vbm]at this
   exact this
  .rw[if_neg hz]at e2;cases e2
theorem zuq:SE X (.Dict [] [] pos) (gDsp aNil):=zqo.imp λσ H Q z9 p hp=>z9.el λρ h m w h' f r e k=>by
 cases e
 exact Wants.dictD (ks:=[]) (ws:=[]) (xs:=[]) k r hp (.inr ⟨rfl,rfl⟩) rfl .nil .nil
noncomputable def spV(K:PySem.W.Frag)(np:Nat)(g:List W->VH->Res W):Sp:=λvs H Q _=>vs.length=np/\∃h m ws w h',Rel K m h H/\VReps K m h.n H vs ws/\g ws h=.ok w h'/\Wants K m h.n H w h' Q
theorem zur{k:Nat}{f:Addr}{ps:List Str}{g:List W->VH->Res W}(F:FnOk X.prog X.w X.K X.mg X.base CX0 k f fd ps (spV X.K ps.length g))(hr:Room k X.A)(hg:Gl X x)(hm:X.mg x=some (.ref f))(hk:PySem.W.keepIn X.K (.ref f)=true)
 (hb:Binds X.K fd ps []) (ha:SA X (e::es) fa) (hs:(e::es).all za4=true) (hdb:(x==("__debug__" : Str))=false) (hn:∀ws h w h',g ws h=.ok w h'->ws.length=ps.length):SE X (.Call (.Name x p) (e::es) [] pos) (gArg fa g):=by
 rw[vcs,vab]at hs
 refine(znb F hr hg hm hk hb .nil pass0 ha hdb (zap hs.1) (zc7 hs.2)).imp λσ H Q q=>zdt (G:=λvs H1 Q=>spV X.K ps.length g (vs++[]) H1 Q E0) (λm h H vs xs w h' Q r q e k=>?_) q
 rw[vbc]
 exact⟨by rw[q.length];exact hn _ _ _ _ e,h,m,xs,w,h',r,q,e,k⟩
theorem zq6{k:Nat}{f:Addr}{ps:List Str}{g:List W->VH->Res W}(F:FnOk X.prog X.w X.K X.mg X.base CX0 k f fd ps (spV X.K ps.length g))(hr:Room k X.A)(hg:Gl X x)(hm:X.mg x=some (.ref f))(hk:PySem.W.keepIn X.K (.ref f)=true)
 (hb:Binds X.K fd ps []) (hdb:(x==("__debug__" : Str))=false) (hn:∀ws h w h',g ws h=.ok w h'->ws.length=ps.length):SE X (.Call (.Name x p) [] [] pos) (gArg aNil g):=by
 refine(zqg F hr hg hm hk hb .nil pass0 hdb).imp λσ H Q z9=>z9.el λρ h m w h' f r e k=>?_
 exact⟨hn _ _ _ _ e,h,m,[],w,h',r,.nil,e,k⟩
theorem zq7{k:Nat}{f:Addr}{ps:List Str}{g:List W->VH->Res W}(F:FnOk X.prog X.w X.K X.mg X.base CX0 k f fd ps (spV X.K ps.length g))(hr:Room k X.A)(hg:Gl X x)(hm:X.mg x=some (.ref f))(hk:PySem.W.keepIn X.K (.ref f)=true)
 (hb:Binds X.K fd ps [.none]) (ha:SA X (e::es) fa) (hs:(e::es).all za4=true) (hdb:(x==("__debug__" : Str))=false) (hn:∀ws h w h',g ws h=.ok w h'->ws.length=ps.length):SE X (.Call (.Name x p) (e::es) [] pos) (gArg fa λws h=>g (ws++[.non]) h):=by
 rw[vcs,vab]at hs
 refine(znb F hr hg hm hk hb (dvs:=[V.non]) (.cons rfl .nil) pass0 ha hdb (zap hs.1) (zc7 hs.2)).imp λσ H Q q=>zdt (G:=λvs H1 Q=>spV X.K ps.length g (vs++[V.non]) H1 Q E0) (λm h H vs xs w h' Q r q e k=>?_) q
 have q':VReps X.K m h.n H (vs++[V.non]) (xs++[W.non]):=q.append (.cons .non .nil)
 exact⟨by rw[q'.length];exact hn _ _ _ _ e,h,m,xs++[W.non],w,h',r,q',e,k⟩
noncomputable def ItOk(K:PySem.W.Frag)(nx:Nat->VH->Option (Option W))(J:It)(P:(Nat->Addr)->Nat->Hp->Prop):Prop:=
 (∀m n H m' n' H',n<=n'->(∀i,i<n->m' i=m i)->(∀b vs,H b=some (.tup vs)->H' b=some (.tup vs))->(∀b o u,H b=some (.frz o u)->H' b=some (.frz o u))->P m n H->P m' n' H')/\
 ∀m h H,Rel K m h H->P m h.n H->∀i,(∀w,nx i h=some (some w)->J.go i H/\∀y H3,J.yld i H y H3->Stp m h.n H m h.n H3/\Rel K m h H3/\VRep K m h.n H3 y w)/\(nx i h=some none->J.stop i H)
noncomputable def lftI(K:PySem.W.Frag)(kd:Kd)(f:FE):TI:=λσ H R=>∃ρ h m x h',Fr K m h.n H σ ρ/\Rel K m h H/\f ρ h=.ok x h'/\(∃o,nxt kd x 0 h'=some o)/\
 ∀J P H' m',Stp m h.n H m' h'.n H'->Rel K m' h' H'->ItOk K (nxt kd x) J P->P m' h'.n H'->R J H'
theorem lftI.el{K:PySem.W.Frag}{σ:L2.St}{H:Hp}{P:Prop}{kd:Kd}{fa:FE}{R}(q:lftI K kd fa σ H R)(k:∀ρ h m x h',Fr K m h.n H σ ρ->Rel K m h H->fa ρ h=.ok x h'->∀o,nxt kd x 0 h'=some o->(∀J P H' m',Stp m h.n H m' h'.n H'->Rel K m' h' H'->ItOk K (nxt kd x) J P->P m' h'.n H'->R J H')->P):P:=by
 obtain⟨ρ,h,m,w,h',f,r,e,⟨o,eo⟩,k'⟩:=q
 exact k ρ h m w h' f r e o eo k'
theorem lftI.mk{K:PySem.W.Frag}{σ:L2.St}{H:Hp}{m:Nat->Addr}{ρ:En}{h h':VH}{x:W}{kd:Kd}{fa:FE}{R}(f:Fr K m h.n H σ ρ)(r:Rel K m h H)(e:fa ρ h=.ok x h')(eo:∃o,nxt kd x 0 h'=some o)(k:∀J P H' m',Stp m h.n H m' h'.n H'->Rel K m' h' H'->ItOk K (nxt kd x) J P->P m' h'.n H'->R J H'):lftI K kd fa σ H R:=⟨ρ,h,m,x,h',f,r,e,eo,k⟩
theorem zg9{K:PySem.W.Frag}{H H':Hp}{a:Addr}{vs:List V}(kt:∀b vs,H b=some (.tup vs)->H' b=some (.tup vs))(kf:∀b o u,H b=some (.frz o u)->H' b=some (.frz o u))(q:SqT K H a vs):SqT K H' a vs:=by
 rcases q with(q|⟨o,q⟩)|q
 .exact .inl (.inl (kt _ _ q))
 .exact .inl (.inr ⟨o,kf _ _ _ q⟩)
 .exact .inr q
theorem zn2{K:PySem.W.Frag}{H H':Hp}{a:Addr}{vs:List V}(kf:∀b o u,H b=some (.frz o u)->H' b=some (.frz o u))(q:Fz K H a vs):Fz K H' a vs:=by
 rcases q with⟨o,q⟩|q
 .exact .inl ⟨o,kf _ _ _ q⟩
 .exact .inr q
theorem zf6{ws:List W}{h:VH}{x:W}{i:Nat}{o:Option W}(e:seqW h x=some ws)(q:nxt .seq x i h=some o):ws[i]?=o:=by
 simp only[nxt,e]at q
 cases q;rfl
theorem zya{K:PySem.W.Frag}{a:Addr}{vs:List V}{ws:List W}:ItOk K (nxt .seq (.tup ws)) (Itt K a) (λm n H=>SqT K H a vs/\VReps K m n H vs ws):=by
 refine⟨λm n H m' n' H' hn hm kt kf ⟨q1,q2⟩=>⟨zg9 kt kf q1,q2.mono hn hm kt kf⟩,λm h H r ⟨q1,q2⟩ i=>⟨λw e=>?_,λe=>?_⟩⟩
 .have e:=zf6 (ws:=ws) rfl e
  obtain⟨v,h1,h2⟩:=q2.get e
  refine⟨⟨vs,v,q1,h1⟩,λy H3 ⟨e3,y3⟩=>?_⟩
  subst e3
  have:=y3 vs q1
  rw[h1]at this;cases this
  exact⟨.refl,r,h2⟩
 .have e:=zf6 (ws:=ws) rfl e
  exact⟨vs,q1,by rw[q2.length];exact vbh.mp e⟩
theorem it_fz{K:PySem.W.Frag}{a:Addr}{vs:List V}{ws:List W}:ItOk K (nxt .seq (.fz ws)) (Itl K a) (λm n H=>Fz K H a vs/\VReps K m n H vs ws):=by
 refine⟨λm n H m' n' H' hn hm kt kf ⟨q1,q2⟩=>⟨zn2 kf q1,q2.mono hn hm kt kf⟩,λm h H r ⟨q1,q2⟩ i=>⟨λw e=>?_,λe=>?_⟩⟩
 .have e:=zf6 (ws:=ws) rfl e
  obtain⟨v,h1,h2⟩:=q2.get e
  refine⟨⟨vs,v,q1.sq,h1⟩,λy H3 ⟨e3,y3⟩=>?_⟩
  subst e3
  have:=y3 vs q1.sq
  rw[h1]at this;cases this
  exact⟨.refl,r,h2⟩
 .have e:=zf6 (ws:=ws) rfl e
  exact⟨vs,q1.sq,by rw[q2.length];exact vbh.mp e⟩
theorem zyb{K:PySem.W.Frag}{a:Addr}{l:Nat}:ItOk K (nxt .seq (.ref l)) (Itl K a) (λm n H=>l<n/\a=m l):=by
 refine⟨λm n H m' n' H' hn hm kt kf ⟨q1,q2⟩=>⟨vak q1 hn,by rw[hm l q1];exact q2⟩,λm h H r ⟨q1,q2⟩ i=>?_⟩
 subst q2
 cases g:h.get l with
 |none=>exact⟨λw e=>by simp[nxt,seqW,g]at e,λe=>by simp[nxt,seqW,g]at e⟩
 |some o=>
  cases o with
  |dk _=>exact⟨λw e=>by simp[nxt,seqW,g]at e,λe=>by simp[nxt,seqW,g]at e⟩
  |dt _ _=>exact⟨λw e=>by simp[nxt,seqW,g]at e,λe=>by simp[nxt,seqW,g]at e⟩
  |lst ws=>
   have hs:seqW h (.ref l)=some ws:=by simp[seqW,g]
   obtain⟨vs,p1,p2⟩:=r.lst g
   refine⟨λw e=>?_,λe=>?_⟩
   .have e:=zf6 hs e
    obtain⟨v,h1,h2⟩:=p2.get e
    refine⟨⟨vs,v,SqL.of p1,h1⟩,λy H3 ⟨e3,y3⟩=>?_⟩
    subst e3
    have:=y3 vs (SqL.of p1)
    rw[h1]at this;cases this
    exact⟨.refl,r,h2⟩
   .have e:=zf6 hs e
    exact⟨vs,SqL.of p1,by rw[p2.length];exact vbh.mp e⟩
theorem zyc{K:PySem.W.Frag}{kd:Kd}{x:W}{lo:Int}{k:Nat}(hx:∀i h,nxt kd x i h=some (if i<k then some (.int (lo+i))else none)):ItOk K (nxt kd x) (Itr lo k) (λ_ _ _=>True):=by
 refine⟨λ_ _ _ _ _ _ _ _ _ _ _=>trivial,λm h H r _ i=>⟨λw e=>?_,λe=>?_⟩⟩
 .rw[hx]at e
  split at e
  .rename_i hi
   cases e
   refine⟨hi,λy H3 ⟨e3,y3⟩=>?_⟩
   subst e3 y3
   exact⟨.refl,r,.int _⟩
  .cases e
 .rw[hx]at e
  split at e
  .cases e
  .rename_i hi
   exact vch.mp hi
theorem zsn{tg:Expr}(ha:SE X e fa):PI X tg e (lftI X.K .seq fa):=λpins s σ H R I z9=>z9.el λρ h m x h' f r ee o en k=>by
 have hs:∃ws,seqW h' x=some ws:=by
  cases z:seqW h' x with
  |none=>simp[nxt,z]at en
  |some ws=>exact⟨ws,rfl⟩
 obtain⟨ws,hs⟩:=hs
 cases x<;>try cases hs
 .exact zwi ha pins s σ H R I (.mk f r ee λv H' m' s' r' q=>by
   cases q with
   |tup sq rs=>exact⟨_,rfl,⟨_,sq⟩,k _ _ H' m' s' r' zya ⟨sq,rs⟩⟩)
 .exact zm3 ha pins s σ H R I (.mk f r ee λv H' m' s' r' q=>by
   cases q with
   |fz sq rs=>exact⟨_,rfl,⟨_,sq.sq⟩,k _ _ H' m' s' r' it_fz ⟨sq,rs⟩⟩)
 .rename_i l
  exact zm3 ha pins s σ H R I (.mk f r ee λv H' m' s' r' q=>by
   obtain⟨p,vs,e1,e2,e3⟩:=zdv r' q hs
   cases q with
   |ref hi=>
    cases g:h'.get l with
    |none=>simp[seqW,g]at hs
    |some ob=>
     cases ob with
     |dk _=>simp[seqW,g]at hs
     |dt _ _=>simp[seqW,g]at hs
     |lst ws'=>
      obtain⟨vs',p1,_⟩:=r'.lst g
      exact⟨_,rfl,⟨_,SqL.of p1⟩,k _ _ H' m' s' r' zyb ⟨hi,rfl⟩⟩)
theorem zus{tg:Expr}(ha:SA X [e] fa)(hs:za4 e=true)(hg:Gl X "range")(hm:X.mg "range" = none):PI X tg (.Call (.Name "range" p) [e] [] pos) (lftI X.K .rng1 fa):=λpins s σ H R I z9=>z9.el λρ h m x h' f r ee o en k=>by
 simp only[nxt]at en
 split at en
 .rename_i j
  split at en
  .rename_i hf
   refine zm4 hg hm ha (zap hs) pins s σ H R I (.mk f r ee λvs H' m' s' r' q=>?_)
   obtain⟨v,rfl,q1⟩:=reps1 q
   cases q1
   refine⟨_,rfl,(zjy hf).1,(zjy hf).2,k _ _ H' m' s' r' (zyc λi h=>?_) trivial⟩
   simp only[nxt,hf,vbm]
   split<;>split<;>first|rfl|(exfalso;simp at *;omega)
  .cases en
 .cases en
theorem zq8{elts:List Expr}{kx:Nat}{tp:Pos}(hg:Gl X "enumerate")(hm:X.mg "enumerate" = none)(hv:bootBuiltins "enumerate" = some (.type "enumerate"))(ha:PA X [l] ta)(hs:starEach [l] X.env=[(false,eval l X.env)]) :
 PI X (.Tuple elts kx tp) (.Call (.Name "enumerate" p) [l] [] pos) (λσ H R=>ta σ H λvs H1=>∃a,vs=[.ref a]/\(∃xs,SqT X.K H1 a xs)/\R (IteT X.K a) H1):=by
 intro pins s σ H R I h
 refine Call_ (zfx I hg hm hv (vcw (thn (ha pos pins s σ H _ I h) λus s1 ⟨vs,H1,I1,r1,q1⟩=>?_) hs rfl))
 obtain⟨a,e,⟨xs,hq⟩,q⟩:=q1
 subst e
 obtain⟨u,rfl,ru⟩:=vals1 r1
 cases ru
 obtain⟨its,rv,pl,hz⟩:=I1.tuple hq
 have pl:s1.heap.IsTuple a its.toArray:=pl
 have hlt:a<s1.heap.objs.size:=by obtain⟨o,q,_⟩:=pl;exact vay q
 refine zl8 pl λh' he hit hsz kk=>wpAny_pyIter_enum he ?_
 have hf:∀b,s1.heap.objs.size<=b->FpOk X pins H1 b:=λb hb=>I1.fpOk hb (I1.hok.fresh hb)
 refine⟨s1.heap.objs.size+1,[s1.heap.objs.size+1,s1.heap.objs.size],_,_,H1,rfl,I1.kept (t':=s1.toks) kk,zl9 a _ _ (vcl (vbx _)) (vbd (Nat.lt_succ_of_lt hlt)) (vbd hlt),⟨⟨_,he⟩,hit⟩,λb hb=>hf b ?_,q⟩
 rcases vax.mp hb with rfl|hb
 .exact vdy _
 .have e':b=s1.heap.objs.size:=by simpa using hb
  rw[e'];exact vac _
theorem zso{ws:List W}{h:VH}{i:Nat}{o:Option W}(q:nxt .enm (.tup ws) i h=some o):o=(ws[i]?).map λw=>.tup [.int i,w]:=by
 cases q;rfl
theorem zut{K:PySem.W.Frag}{a:Addr}{vs:List V}{ws:List W}:ItOk K (nxt .enm (.tup ws)) (IteT K a) (λm n H=>SqT K H a vs/\VReps K m n H vs ws):=by
 refine⟨λm n H m' n' H' hn hm kt kf ⟨q1,q2⟩=>⟨zg9 kt kf q1,q2.mono hn hm kt kf⟩,λm h H r ⟨q1,q2⟩ i=>⟨λw e=>?_,λe=>?_⟩⟩
 .have e:=zso (ws:=ws) e
  cases z:ws[i]? with
  |none=>rw[z]at e;cases e
  |some w0=>
   rw[z]at e;cases e
   obtain⟨v,h1,h2⟩:=q2.get z
   refine⟨⟨vs,v,q1,h1⟩,λy H3 ⟨T,v3,e1,e2,e3,y3⟩=>?_⟩
   subst e1 e3
   have:=y3 vs q1
   rw[h1]at this;cases this
   obtain⟨st,r'⟩:=r.more (u:=.tup [.int i,v]) e2
   exact⟨st,r',.tup (SqT.of zat) (.cons (.int _) (.cons (h2.stp st) .nil))⟩
 .have e:=zso (ws:=ws) e
  cases z:ws[i]? with
  |some w0=>rw[z]at e;cases e
  |none=>exact⟨vs,q1,by rw[q2.length];exact vbh.mp z⟩
theorem zn3:bootBuiltins "enumerate" = some (.type "enumerate"):=by decide +kernel
theorem zyd(ha:SE X e fa)(hs:za4 e=true):PA X [e] (λσ H Q=>lft X.K fa σ H λv H1=>Q [v] H1):=λp pins s σ H Q I q=>by
 refine zey ha zkq (zap hs) p pins s σ H Q I ?_
 refine q.el λρ h m w h' f r ee k=>?_
 exact(.mk f r ee λv H' m' s' r' q'=>k v H' m' s' r' q')
theorem zye{elts:List Expr}{kx:Nat}{tp:Pos}(ha:SE X e fa)(hs0:za4 e=true)(hg:Gl X "enumerate")(hm:X.mg "enumerate" = none):PI X (.Tuple elts kx tp) (.Call (.Name "enumerate" p) [e] [] pos) (lftI X.K .enm fa):=λpins s σ H R I z9=>z9.el λρ h m x h' f r ee o en k=>by
 cases x with
 |tup ws=>exact zq8 hg hm zn3 (zyd ha hs0) (zap hs0) pins s σ H R I ⟨ρ,h,m,_,h',f,r,ee,λv H' m' s' r' q=>by
  cases q with
  |tup sq rs=>exact⟨_,rfl,⟨_,sq⟩,k _ _ H' m' s' r' zut ⟨sq,rs⟩⟩⟩
 |_=>cases en
theorem zyf{elts:List Expr}{kx:Nat}{tp:Pos}(hg:Gl X "zip")(hm:X.mg "zip" = none)(ha:PA X [l,l2] ta)(hs:starEach [l,l2] X.env=[(false,eval l X.env),(false,eval l2 X.env)])(hs2:starEach [l2] X.env=[(false,eval l2 X.env)]) :
 PI X (.Tuple elts kx tp) (.Call (.Name "zip" p) [l,l2] [] pos) (λσ H R=>ta σ H λvs H1=>∃b c a1 a2,vs=[.ref a1,.ref a2]/\(∃xs,SqB b X.K H1 a1 xs)/\(∃ys,SqB c X.K H1 a2 ys)/\R (IteZ X.K b c a1 a2) H1):=by
 intro pins s σ H R I h
 refine Call_ (zfx I hg hm PyProof.Rows.boot_zip (vcw (thn (ha pos pins s σ H _ I h) λus s1 ⟨vs,H1,I1,r1,q1⟩=>?_) (by rw[hs,hs2]) (by rw[hs2];rfl)))
 obtain⟨b,c,a1,a2,e,⟨xs,hq⟩,⟨ys,hr⟩,q⟩:=q1
 subst e
 cases r1 with
 |cons r rr=>
  cases rr with
  |cons r' rr=>
   cases rr
   cases r
   cases r'
   obtain⟨its,_,pl,_⟩:=zf4 I1 hq
   obtain⟨jts,_,pl2,_⟩:=zf4 I1 hr
   refine zud pl pl2 λh' e1 e2 e3 e4 e5 hsz kk=>wpAny_pyIter_zip e1 ?_
   have hf:∀b,s1.heap.objs.size<=b->FpOk X pins H1 b:=λb hb=>I1.fpOk hb (I1.hok.fresh hb)
   refine⟨s1.heap.objs.size+4,_,_,_,H1,rfl,I1.kept (t':=s1.toks) kk,zqw a1 a2 _ _ _ _ _ (zw7 pl.lt pl2.lt),⟨e1,e2,⟨_,_,e3⟩,e4,e5⟩,λb hb=>hf b ?_,q⟩
   simp only[vax,vbq,vdw]at hb
   rcases hb with rfl|rfl|rfl|rfl|rfl
   .exact vde _ _
   .exact vde _ _
   .exact vde _ _
   .exact vac _
   .exact vde _ _
noncomputable def Src(K:PySem.W.Frag)(b:Bool)(a:Addr)(u:W)(P:(Nat->Addr)->Nat->Hp->Prop):Prop:=
 (∀m n H m' n' H',n<=n'->(∀i,i<n->m' i=m i)->(∀b vs,H b=some (.tup vs)->H' b=some (.tup vs))->(∀b o u,H b=some (.frz o u)->H' b=some (.frz o u))->P m n H->P m' n' H')/\
 ∀m h H ws,Rel K m h H->P m h.n H->seqW h u=some ws->∃vs,SqB b K H a vs/\VReps K m h.n H vs ws
theorem zsp{K:PySem.W.Frag}{m:Nat->Addr}{h:VH}{H:Hp}{v:V}{u:W}{ws:List W}(r:Rel K m h H)(q:VRep K m h.n H v u)(e:seqW h u=some ws):∃b a P,v=.ref a/\Src K b a u P/\P m h.n H/\∃xs,SqB b K H a xs:=by
 cases q with
 |non=>cases e
 |bl b=>cases e
 |int b=>cases e
 |str b=>cases e
 |tup sq rs=>exact⟨true,_,λm n H=>SqT K H _ _/\VReps K m n H _ _,rfl,⟨λm n H m' n' H' hn hm kt kf ⟨q1,q2⟩=>⟨zg9 kt kf q1,q2.mono hn hm kt kf⟩,λm h H ws _ ⟨q1,q2⟩ z=>by cases z;exact⟨_,q1,q2⟩⟩,⟨sq,rs⟩,_,sq⟩
 |fz sq rs=>exact⟨false,_,λm n H=>Fz K H _ _/\VReps K m n H _ _,rfl,⟨λm n H m' n' H' hn hm kt kf ⟨q1,q2⟩=>⟨zn2 kf q1,q2.mono hn hm kt kf⟩,λm h H ws _ ⟨q1,q2⟩ z=>by cases z;exact⟨_,q1.sq,q2⟩⟩,⟨sq,rs⟩,_,sq.sq⟩
 |ref hi=>
  rename_i l
  have key:∀m (h:VH) H ws,Rel K m h H->seqW h (.ref l)=some ws->∃vs,H (m l)=some (.lst vs)/\VReps K m h.n H vs ws:=λm h H ws r z=>by
   cases g:h.get l with
   |none=>simp[seqW,g]at z
   |some o=>
    cases o with
    |dk _=>simp[seqW,g]at z
    |dt _ _=>simp[seqW,g]at z
    |lst ws'=>
     have:ws'=ws:=by simpa[seqW,g]using z
     subst this
     exact r.lst g
  obtain⟨vs,p1,_⟩:=key m h H ws r e
  refine⟨false,_,λm' n _=>l<n/\m l=m' l,rfl,⟨λm1 n H m' n' H' hn hm kt kf ⟨q1,q2⟩=>⟨vak q1 hn,by rw[hm l q1];exact q2⟩,λm1 h H ws r' ⟨q1,q2⟩ z=>?_⟩,⟨hi,rfl⟩,vs,SqL.of p1⟩
  obtain⟨vs,g1,g2⟩:=key m1 h H ws r' z
  rw[q2]
  exact⟨vs,SqL.of g1,g2⟩
theorem zn4{u v:W}{h:VH}{i:Nat}{o:Option W}(q:nxt .zip (.tup [u,v]) i h=some o):∃ws zs,seqW h u=some ws/\seqW h v=some zs/\o=(match ws[i]?,zs[i]? with|some a,some b=>some (.tup [a,b])|_,_=>none):=by
 simp only[nxt]at q
 split at q
 .rename_i ws zs h1 h2
  cases q
  exact⟨ws,zs,h1,h2,rfl⟩
 .cases q
theorem zyg{K:PySem.W.Frag}{b c:Bool}{a1 a2:Addr}{u v:W}{P1 P2:(Nat->Addr)->Nat->Hp->Prop}(s1:Src K b a1 u P1)(s2:Src K c a2 v P2):ItOk K (nxt .zip (.tup [u,v])) (IteZ K b c a1 a2) (λm n H=>P1 m n H/\P2 m n H):=by
 refine⟨λm n H m' n' H' hn hm kt kf ⟨q1,q2⟩=>⟨s1.1 m n H m' n' H' hn hm kt kf q1,s2.1 m n H m' n' H' hn hm kt kf q2⟩,λm h H r ⟨q1,q2⟩ i=>⟨λw e=>?_,λe=>?_⟩⟩
 .obtain⟨ws,zs,e1,e2,e3⟩:=zn4 e
  obtain⟨xs,g1,g2⟩:=s1.2 m h H ws r q1 e1
  obtain⟨ys,g3,g4⟩:=s2.2 m h H zs r q2 e2
  cases z1:ws[i]? with
  |none=>rw[z1]at e3;cases e3
  |some w1=>
   cases z2:zs[i]? with
   |none=>rw[z1,z2]at e3;cases e3
   |some w2=>
    rw[z1,z2]at e3;cases e3
    obtain⟨v1,k1,k2⟩:=g2.get z1
    obtain⟨v2,k3,k4⟩:=g4.get z2
    refine⟨⟨xs,ys,v1,v2,g1,g3,k1,k3⟩,λy H3 ⟨T,x3,y3,f1,f2,f3,f4,f5⟩=>?_⟩
    subst f1 f3
    have t1:=f4 xs g1
    have t2:=f5 ys g3
    rw[k1]at t1;cases t1
    rw[k3]at t2;cases t2
    obtain⟨st,r'⟩:=r.more (u:=.tup [v1,v2]) f2
    exact⟨st,r',.tup (SqT.of zat) (.cons (k2.stp st) (.cons (k4.stp st) .nil))⟩
 .obtain⟨ws,zs,e1,e2,e3⟩:=zn4 e
  obtain⟨xs,g1,g2⟩:=s1.2 m h H ws r q1 e1
  obtain⟨ys,g3,g4⟩:=s2.2 m h H zs r q2 e2
  refine⟨xs,ys,g1,g3,?_⟩
  cases z1:ws[i]? with
  |none=>exact .inl (by rw[g2.length];exact vbh.mp z1)
  |some w1=>
   cases z2:zs[i]? with
   |none=>exact .inr (by rw[g4.length];exact vbh.mp z2)
   |some w2=>rw[z1,z2]at e3;cases e3
theorem zyh{elts:List Expr}{kx:Nat}{tp:Pos}(ha:SA X [a,b] fa)(hs:za4 a=true)(hs2:za4 b=true)(hg:Gl X "zip")(hm:X.mg "zip" = none):PI X (.Tuple elts kx tp) (.Call (.Name "zip" p) [a,b] [] pos) (lftI X.K .zip fa):=λpins s σ H R I z9=>z9.el λρ h m x h' f r ee o en k=>by
 have hx:∃u v,x=.tup [u,v]:=by
  simp only[nxt]at en
  split at en
  .exact⟨_,_,rfl⟩
  .cases en
 obtain⟨u,v,rfl⟩:=hx
 obtain⟨ws,zs,e1,e2,_⟩:=zn4 en
 refine zyf hg hm ha (by rw[zap hs,zap hs2];rfl) (zap hs2) pins s σ H R I (.mk f r ee λvs H' m' s' r' q=>?_)
 obtain⟨v1,v2,rfl,q1,q2⟩:=reps2 q
 obtain⟨b1,a1,P1,rfl,o1,p1,x1⟩:=zsp r' q1 e1
 obtain⟨b2,a2,P2,rfl,o2,p2,x2⟩:=zsp r' q2 e2
 exact⟨b1,b2,a1,a2,rfl,x1,x2,k _ _ H' m' s' r' (zyg o1 o2) ⟨p1,p2⟩⟩
end
section
variable{X:Cx}{a b c e o:Expr}{es:List Expr}{fa fb fc fo fr:FE}{pos p:Pos}{x:Str}
noncomputable def lftG(K:PySem.W.Frag)(t:Tg):TG:=λv σ H Q=>∃ρ h m w ρ',Fr K m h.n H σ ρ/\Rel K m h H/\VRep K m h.n H v w/\tgW t w h ρ=some ρ'/\∀σ',Fr K m h.n H σ' ρ'->Q σ' H
theorem lftG.el{K:PySem.W.Frag}{v:V}{σ:L2.St}{H:Hp}{P:Prop}{tg:Tg}{Q}(q:lftG K tg v σ H Q)(k:∀ρ h m w ρ',Fr K m h.n H σ ρ->Rel K m h H->VRep K m h.n H v w->tgW tg w h ρ=some ρ'->(∀σ',Fr K m h.n H σ' ρ'->Q σ' H)->P):P:=by
 obtain⟨ρ,h,m,w,h',f,r,e,eo,k'⟩:=q
 exact k ρ h m w h' f r e eo k'
theorem lftG.mk{K:PySem.W.Frag}{v:V}{σ:L2.St}{H:Hp}{m:Nat->Addr}{ρ ρ':En}{h:VH}{w:W}{tg:Tg}{Q}(f:Fr K m h.n H σ ρ)(r:Rel K m h H)(e:VRep K m h.n H v w)(eo:tgW tg w h ρ=some ρ')(k:∀σ',Fr K m h.n H σ' ρ'->Q σ' H):lftG K tg v σ H Q:=⟨ρ,h,m,w,ρ',f,r,e,eo,k⟩
theorem zyi{i:Nat}(hN:X.N.Nodup)(hi:X.N[i]?=some x)(hx:Loc X.env.scope x)(hf:X.fn x=true\/X.env.scope.names.lookup x=some .local):PG X (.Name x pos) (lftG X.K (.one i)):=λpins s σ H v u Q I ru z9=>z9.el λρ h m w ρ' f r q e k=>by
 cases e
 exact zmy hN hi hx hf pins s σ H v u Q I ru (k _ (f.set q i))
noncomputable def NmOk(X:Cx)(e:Expr)(i:Nat):Prop:=∃x p,e=.Name x p/\X.N[i]?=some x/\Loc X.env.scope x/\(X.fn x=true\/X.env.scope.names.lookup x=some .local)
noncomputable def lftGs(K:PySem.W.Frag)(is:List Nat):TGs:=λvs σ H Q=>∃ρ m n ws ρ',Fr K m n H σ ρ/\VReps K m n H vs ws/\zaz is ws ρ=some ρ'/\∀σ',Fr K m n H σ' ρ'->Q σ' H
theorem zsq(hN:X.N.Nodup):∀{es:List Expr} {is:List Nat},Paired (NmOk X) es is->PGs X es (lftGs X.K is)/\(assignEach es X.env).length=es.length/\(assignEach es X.env).findIdx? (·.1)=none
 |_,_,.nil=>by
  refine⟨λpins s σ H vs us Q I ru ⟨ρ,m,n,ws,ρ',f,q,e,k⟩=>?_,rfl,rfl⟩
  cases ws with
  |nil=>cases e;cases q;exact zmz pins s σ H [] us Q I ru ⟨rfl,k _ f⟩
  |cons _ _=>cases e
 |e::es,i::is,.cons ⟨x,p,he,hi,hx,hf⟩ t=>by
  subst he
  obtain⟨h1,h2,h3⟩:=zsq hN t
  refine⟨λpins s σ H vs us Q I ru ⟨ρ,m,n,ws,ρ',f,q,e,k⟩=>?_,?_,?_⟩
  .cases q with
   |nil=>cases e
   |cons q qs=>
    exact zgx (zmy hN hi hx hf) h1 rfl pins s σ H _ us Q I ru ⟨_,_,rfl,ρ.set i (some _),m,n,_,ρ',f.set q i,qs,e,k⟩
  .show(assignEach es X.env).length+1=es.length+1
   rw[h2]
  .show List.findIdx? _ ((false,_)::assignEach es X.env)=none
   rw[List.findIdx?_cons,h3];rfl
theorem zf7:∀{is:List Nat} {ws:List W} {ρ ρ':En},zaz is ws ρ=some ρ'->ws.length=is.length
 |[],[],_,_,_=>rfl
 |[],_::_,_,_,e=>by cases e
 |_::_,[],_,_,e=>by cases e
 |_::_,_::_,_,_,e=>by
  rw[vaj,vaj,zf7 (by simpa only[zaz]using e)]
theorem zyj{n k:Nat}(hc:X.calm=true)(h:PGs X es t)(hn:(assignEach es X.env).length=n)(hst:(assignEach es X.env).findIdx? (·.1)=none) :
 PG X (.Tuple es k pos) (λv σ H Q=>∃a xs,v=.ref a/\SqL X.K H a xs/\xs.length=n/\t xs σ H Q):=by
 intro pins s σ H v u Q I r hw
 obtain⟨a,xs,rfl,hq,hl,hw⟩:=hw
 cases r
 obtain⟨its,rv,ht,hz⟩:=I.list hq
 rw[assign_Tuple]
 refine vaa (vep ?_)
 unfold unpack
 have hsz:(assignEach es X.env).length=its.toArray.size:=by rw[hn,<-hl,rv.length,vao]
 rw[hst,hsz]
 refine vaa (vc1 (PySem.W.kun_itemsOf (I.ok.hd hc) ht.isList λh' hx=>?_))
 have I1:Inv X pins σ H {s with heap:=h'}:=I.kept (t':=s.toks) λb o e=>hx b o (vbd (vay e)) e
 exact h pins _ σ H xs _ Q I1 (by simpa using rv) hw
theorem zn5{is:List Nat}{k:Nat}(hc:X.calm=true)(hN:X.N.Nodup)(hs:Paired (NmOk X) es is):PG X (.Tuple es k pos) (lftG X.K (.many is)):=λpins s σ H v u Q I ru z9=>z9.el λρ h m w ρ' f r q e k=>by
 obtain⟨h1,h2,h3⟩:=zsq hN hs
 simp only[tgW]at e
 cases z:seqW h w with
 |none=>rw[z]at e;cases e
 |some ws=>
  rw[z]at e
  have e:zaz is ws ρ=some ρ':=e
  obtain⟨p,vs,rfl,hq,qs⟩:=zdv r q z
  have hl:vs.length=es.length:=by rw[qs.length,zf7 e,hs.length]
  rcases hq with hq|hq
  .exact zyj hc h1 h2 h3 pins s σ H _ u Q I ru ⟨p,vs,rfl,hq,hl,ρ,m,h.n,ws,ρ',f,qs,e,k⟩
  .exact zr8 hc h1 h2 h3 pins s σ H _ u Q I ru ⟨p,vs,rfl,hq,hl,ρ,m,h.n,ws,ρ',f,qs,e,k⟩
theorem zq9{K:PySem.W.Frag}{m:Nat->Addr}{n:Nat}{H:Hp}{σ:L2.St}{ρ:En}{ow fr:List Str}{ix:List Nat}(f:Fr K m n H σ ρ):Fr K m n H (cσ ow fr ix σ) (inner ow.length ix ρ):=by
 unfold cσ inner
 refine⟨by simp,λi w e=>?_⟩
 by_cases hi:i<ow.length
 .rw[vci (by simpa using hi)]at e
  rw[List.getElem?_replicate]at e
  split at e<;>cases e
 .rw[vbb (by simpa using vch.mp hi)]at e
  rw[vbb (by simpa using vch.mp hi)]
  simp only[List.length_replicate,vad]at e ⊢
  rw[vbf]at e ⊢
  cases z:ix[i-ow.length]? with
  |none=>rw[z]at e;cases e
  |some j=>
   rw[z]at e
   simp only[vah,vd9]at e ⊢
   have e3:ρ[j]?=some (some w):=by
    cases q:ρ[j]? with
    |none=>rw[q]at e;cases e
    |some o=>rw[q]at e;rw[<-e];rfl
   obtain⟨v,h1,h2⟩:=f.val j w e3
   exact⟨v,by rw[h1];rfl,h2⟩
theorem zj3{nx:Nat->VH->Option (Option W)}{tg:W->VH->En->Option En}{c e:FE}:∀{f i:Nat} {ρ:En} {h:VH} {acc ys:List W} {h':VH},lcG nx tg c e f i ρ h acc=.ok ys h'->acc.length<=ys.length
 |0,_,_,_,_,_,_,q=>by cases q
 |f+1,i,ρ,h,acc,ys,h',q=>by
  simp only[lcG]at q
  split at q
  .cases q
  .cases q;simp
  .split at q
   .cases q
   .refine zac q λb h1 e1 e2=>?_
    split at e2
    .refine zac e2 λy h2 e3 e4=>?_
     have:=zj3 e4
     rw[vaj]at this
     omega
    .exact zj3 e2
    .cases e2
theorem zyk{nx:Nat->VH->Option (Option W)}{tg:W->VH->En->Option En}{c e:FE}{f i:Nat}{ρ:En}{h:VH}{acc ys:List W}{h':VH}(q:lcG nx tg c e (f+1) i ρ h acc=.ok ys h'):∃o,nx i h=some o:=by
 simp only[lcG]at q
 split at q
 .cases q
 .exact⟨_,by assumption⟩
 .exact⟨_,by assumption⟩
theorem zra{H:Hp}{a:Addr}{o:HO}(h:H a=some o):upd H a o=H:=by
 funext b
 unfold upd
 split
 .rename_i e;rw[e,h]
 .rfl
noncomputable abbrev gLc(kd:Kd)(fa:FE)(t:Tg)(ow:Nat)(ix:List Nat)(fc fe:FE):FE:=λρ h=>(fa ρ h).bind λx h=>(lcG (nxt kd x) (tgW t) fc fe fuel 0 (inner ow ix ρ) h []).bind λys h=>if Nat.ble ys.length big then .ok (.ref h.n) (h.new (.lst ys))else .no
theorem lc_ok{K:PySem.W.Frag}{kd:Kd}{t:Tg}{ow fr:List Str}{ix:List Nat}{fe:FE}{σ:L2.St}{H:Hp}{Q:VK}(q:lft K (gLc kd fa t ow.length ix fc fe) σ H Q):tLC K (cσ ow fr ix) (lftI K kd fa) (lftG K t) (lftT K fc) (lft K fe) σ H Q:=by
 refine q.el λρ h m w h' f r e k=>?_
 refine zac e λx h1 e1 e2=>?_
 refine zac e2 λys h2 e3 e4=>?_
 split at e4
 case isFalse=>cases e4
 rename_i hz
 cases e4
 have hz:=va9 hz
 refine(.mk f r e1 ?_ λJ P H1 m1 s1 r1 J1 p1 D hD hK=>?_)
 .exact zyk (f:=999999) e3
 obtain⟨st0,r0⟩:=r1.more (u:=.lst []) hD
 have p0:=J1.1 m1 h1.n H1 m1 h1.n (upd H1 D (.lst [])) (vac _) (λ_ _=>rfl) (λb vs q=>st0.tup b vs q) (λb o u q=>st0.frz b o u q) p1
 refine⟨λi fl σ' H' vs=>∃ρ' h3 m3 acc,lcG (nxt kd x) (tgW t) fc fe fl i ρ' h3 acc=.ok ys h2/\Fr K m3 h3.n H' σ' ρ'/\Rel K m3 h3 H'/\H' D=some (.lst vs)/\VReps K m3 h3.n H' vs acc.reverse/\(∀i,i<h3.n->m3 i≠D)/\Stp m1 h1.n H1 m3 h3.n H'/\P m3 h3.n H',
  ⟨fuel,inner ow.length ix ρ,h1,m1,[],e3,zq9 ((f.stp s1).stp st0),r0,zat,.nil,r1.out hD,st0,p0⟩,?_⟩
 rintro i fl σ' H' vs ⟨ρ',h3,m3,acc,e5,f3,r3,d3,q3,o3,s3,p3⟩
 refine⟨d3,?_⟩
 cases fl with
 |zero=>cases e5
 |succ fl=>
  simp only[lcG]at e5
  obtain⟨j1,j2⟩:=J1.2 m3 h3 H' r3 p3 i
  split at e5
  .cases e5
  .rename_i hn
   cases e5
   refine .inl ⟨j2 hn,?_⟩
   obtain⟨st,r'⟩:=r3.adopt (o:=.lst acc.reverse) (u:=.lst vs) o3 d3 (λ_ z=>nomatch z) (λ_ _ z=>nomatch z) (s1.trans s3) (by
    cases z:H D with
    |none=>rfl
    |some o=>
     have:=s1.keep D o (λi hi z2=>(r1.out hD) i (vak hi s1.le) ((s1.same i hi).trans z2)) z
     rw[hD]at this;cases this) λ_ mv=>⟨_,zat,q3.map mv⟩
   rw[zra d3]at st r'
   refine k _ _ _ st r' ?_
   have:VRep K (λi=>if i=h2.n then D else m3 i) (h2.n+1) H' (.ref ((λi=>if i=h2.n then D else m3 i) h2.n)) (.ref h2.n):=.ref (vbx _)
   simp only[vbm]at this
   exact this
  .rename_i w hn
   obtain⟨j3,j4⟩:=j1 w hn
   refine .inr ⟨j3,λy H4 hy=>?_⟩
   obtain⟨s4,r4,q4⟩:=j4 y H4 hy
   split at e5
   .cases e5
   .rename_i ρ5 ht
    refine⟨ρ',h3,m3,w,ρ5,f3.stp s4,r4,q4,ht,λσ5 f5=>?_⟩
    refine zac e5 λbv h6 e6 e7=>?_
    have d4:H4 D=some (.lst vs):=s4.keep D _ o3 d3
    have s14:=s3.trans s4
    have p4:=J1.1 m3 h3.n H' m3 h3.n H4 (vac _) (λ_ _=>rfl) (λb vs q=>s4.tup b vs q) (λb o u q=>s4.frz b o u q) p3
    cases bv<;>try cases e7
    rename_i bb
    refine⟨ρ5,h3,m3,bb,h6,f5,r4,e6,λH6 m6 s6 r6=>?_⟩
    have o6:=s6.out o3 d4
    have d6:H6 D=some (.lst vs):=s6.keep D _ o3 d4
    have p6:=J1.1 m3 h3.n H4 m6 h6.n H6 s6.le s6.same (λb vs q=>s6.tup b vs q) (λb o u q=>s6.frz b o u q) p4
    cases bb with
    |false=>
     simp only[vap,vbl]
     exact⟨fl,vbx _,ρ5,h6,m6,acc,e7,f5.stp s6,r6,d6,(q3.stp s4).stp s6,o6,s14.trans s6,p6⟩
    |true=>
     simp only[vbm]
     refine zac e7 λy7 h7 e8 e9=>?_
     refine⟨ρ5,h6,m6,y7,h7,f5.stp s6,r6,e8,λv7 H7 m7 s7 r7 q7=>?_⟩
     have o7:=s7.out o6 d6
     have d7:H7 D=some (.lst vs):=s7.keep D _ o6 d6
     have p7:=J1.1 m6 h6.n H6 m7 h7.n H7 s7.le s7.same (λb vs q=>s7.tup b vs q) (λb o u q=>s7.frz b o u q) p6
     have q37:=((q3.stp s4).stp s6).stp s7
     have hlen:=zj3 e9
     rw[vaj]at hlen
     refine⟨d7,?_,fl,vbx _,ρ5,h7,m7,y7::acc,e9,?_⟩
     .rw[q37.length,vdc]
      have:big=sizeLine:=rfl
      omega
     .obtain⟨st8,r8,mv⟩:=r7.side (u:=.lst (vs++[v7])) d7 (λ_ z=>nomatch z) (λ_ _ z=>nomatch z) o7 ((s14.trans s6).trans s7) hD
      have kt:∀b us,H7 b=some (.tup us)->upd H7 D (.lst (vs++[v7])) b=some (.tup us):=λb us q=>by rw[zai (ne_of q d7 λz=>nomatch z)];exact q
      have kf:∀b o u,H7 b=some (.frz o u)->upd H7 D (.lst (vs++[v7])) b=some (.frz o u):=λb o u q=>by rw[zai (ne_of q d7 λz=>nomatch z)];exact q
      refine⟨⟨(f5.stp s6).len,λi w e=>let⟨v,h1,h2⟩:=((f5.stp s6).stp s7).val i w e;⟨v,h1,mv h2⟩⟩,r8,zat,?_,o7,st8,J1.1 m7 h7.n H7 m7 h7.n _ (vac _) (λ_ _=>rfl) kt kf p7⟩
      rw[vdq]
      exact(q37.map mv).append (.cons (mv q7) .nil)
end
noncomputable def Grow(h h':VH):Prop:=h.n<=h'.n/\h'.lo<=h.lo/\∀i,i<h.n->i<h'.lo->h'.get i=h.get i
theorem Grow.refl:Grow h h:=⟨vac _,vac _,λ_ _ _=>rfl⟩
theorem Grow.trans(a:Grow h h1)(b:Grow h1 h2):Grow h h2:=⟨vbe a.1 b.1,vbe b.2.1 a.2.1,λi hi hl=>(b.2.2 i (vak hi a.1) hl).trans (a.2.2 i hi (vak hl b.2.1))⟩
theorem Grow.new:Grow h (h.new o):=⟨vdy _,vac _,λi hi _=>zah hi⟩
theorem Grow.set{i:Nat}(hi:i<h.n):Grow h (h.set i o):=by
 refine⟨vac _,?_,λj hj hl=>zds hi ?_⟩
 .show(if Nat.blt i h.lo then i else h.lo)<=h.lo
  split
  .rename_i q;exact veb (zao.mp q)
  .exact vac _
 .have hl:j< (if Nat.blt i h.lo then i else h.lo):=hl
  split at hl
  .omega
  .rename_i q
   intro z
   rw[z]at hl
   exact q (zao.mpr hl)
noncomputable def Gr{α:Type}(r:Res α)(h:VH):Prop:=∀a h',r=.ok a h'->Grow h h'
section
variable{α β:Type}{h:VH}
theorem Gr.ok{a:α}:Gr (Res.ok a h) h:=λ_ _ e=>by cases e;exact .refl
theorem Gr.no:Gr (Res.no:Res α) h:=λ_ _ e=>by cases e
theorem Gr.of{o:Option α}:Gr (Res.of o h) h:=λ_ _ e=>by cases o with|none=>cases e|some a=>cases e;exact .refl
theorem Gr.new{a:α}:Gr (Res.ok a (h.new o)) h:=λ_ _ e=>by cases e;exact .new
theorem Gr.set{a:α}{i:Nat}(g:h.get i=some o'):Gr (Res.ok a (h.set i o)) h:=λ_ _ e=>by cases e;exact .set (zaq g)
theorem Gr.bind{r:Res α}{f:α->VH->Res β}(a:Gr r h)(b:∀x h1,Gr (f x h1) h1):Gr (r.bind f) h:=λy h' e=>by
 cases r with
 |ok x h1=>exact(a x h1 rfl).trans (b x h1 y h' e)
 |ex _ _=>cases e
 |no=>cases e
end
theorem gr_op:Gr (opW o x y h) h:=by
 unfold opW
 split
 .exact .of
 .exact .of
 .exact .of
 .split
  .split
   .exact .new
   .exact .no
  .exact .no
 .exact .no
theorem gr_ip:Gr (ipW o x y h) h:=by
 unfold ipW
 split
 .split
  .exact .ok
  .exact .no
 .exact .no
theorem zyl{l u:Option Int}:Gr (slcW x l u h) h:=by
 unfold slcW
 split
 .exact .ok
 .split
  .exact .new
  .exact .no
 .exact .no
theorem gr_bi{b:Bi}:Gr (biW b xs h) h:=by
 cases b<;>simp only[biW]
 .unfold lenW;split<;>first|exact .of|exact .no
 .unfold listW
  split
  .split
   .exact .new
   .exact .no
  .exact .no
 .unfold ze5;split<;>first|exact .of|exact .no
 .unfold intW;split<;>first|exact .ok|exact .no
 .unfold absW;split<;>first|exact .ok|exact .no
 .unfold maxW;split<;>first|exact .ok|exact .no
 .unfold minW;split<;>first|exact .ok|exact .no
 .unfold allW
  split
  .split
   .exact .of
   .exact .no
  .exact .no
 .unfold lrngW
  split
  .split
   .exact .new
   .exact .no
  .exact .no
 .unfold revW;split<;>first|exact .ok|exact .no
theorem zn6:Gr (setL l j w h) h:=by
 unfold setL
 split
 .split
  .split
   .rename_i g _ _ _;exact .set g
   .exact .no
  .exact .no
 .exact .no
theorem gr_mt{m:Mt}:Gr (mtW m o xs h) h:=by
 unfold mtW
 split
 .split
  .split
   .rename_i g _;exact .set g
   .exact .no
  .exact .no
 .exact .no
theorem gr_lc{nx:Nat->VH->Option (Option W)}{tg:W->VH->En->Option En}{c e:En->VH->Res W}(hc:∀ρ h,Gr (c ρ h) h)(he:∀ρ h,Gr (e ρ h) h):∀(f i:Nat) (ρ:En) (h:VH) (acc:List W),Gr (lcG nx tg c e f i ρ h acc) h
 |0,_,_,_,_=>.no
 |f+1,i,ρ,h,acc=>by
  simp only[lcG]
  split
  .exact .no
  .exact .ok
  .split
   .exact .no
   .refine .bind (hc _ _) λb h1=>?_
    split
    .exact .bind (he _ _) λy h2=>gr_lc hc he f _ _ _ _
    .exact gr_lc hc he f _ _ _ _
    .exact .no
theorem zn7{nx:Nat->VH->Option (Option W)}{tg:W->VH->En->Option En}{b:En->VH->Res Fl}(hb:∀ρ h,Gr (b ρ h) h):∀(f i:Nat) (ρ:En) (h:VH),Gr (forG nx tg b f i ρ h) h
 |0,_,_,_=>.no
 |f+1,i,ρ,h=>by
  simp only[forG]
  split
  .exact .no
  .exact .ok
  .split
   .exact .no
   .refine .bind (hb _ _) λfl h1=>?_
    split
    .exact zn7 hb f _ _ _
    .exact zn7 hb f _ _ _
    .exact .ok
    .exact .ok
theorem zn8{c:En->VH->Res W}{b:En->VH->Res Fl}(hc:∀ρ h,Gr (c ρ h) h)(hb:∀ρ h,Gr (b ρ h) h):∀(f:Nat) (ρ:En) (h:VH),Gr (whlG c b f ρ h) h
 |0,_,_=>.no
 |f+1,ρ,h=>by
  simp only[whlG]
  refine .bind (hc _ _) λt h1=>?_
  split
  .exact .ok
  .refine .bind (hb _ _) λfl h2=>?_
   split
   .exact zn8 hc hb f _ _
   .exact zn8 hc hb f _ _
   .exact .ok
   .exact .ok
  .exact .no
section
variable{cl:Call}
theorem gr_ev(hcl:∀f ws h,Gr (cl f ws h) h):∀(e:E) (ρ:En) (h:VH),Gr (ev cl e ρ h) h:=by
 intro e
 induction e with
 |var i=>intro ρ h;exact .of
 |cst w=>intro ρ h;exact .ok
 |nil=>intro ρ h;exact .ok
 |cons a r i1 i2=>intro ρ h;simp only[ev];refine .bind (i1 _ _) λx h1=>.bind (i2 _ _) λy h2=>?_;split<;>first|exact .ok|exact .no
 |tup a i1=>intro ρ h;simp only[ev];refine .bind (i1 _ _) λx h1=>?_;split<;>first|(split<;>first|exact .ok|exact .no)|exact .no
 |lst a i1=>intro ρ h;simp only[ev];refine .bind (i1 _ _) λx h1=>?_;split<;>first|(split<;>first|exact .new|exact .no)|exact .no
 |dsp a i1=>
  intro ρ h;simp only[ev];refine .bind (i1 _ _) λx h1=>?_
  split
  .split
   .split
    .exact .new
    .exact .no
   .unfold dspD
    split
    .split
     .exact .new
     .exact .no
    .exact .no
  .exact .no
 |op o a b i1 i2=>intro ρ h;simp only[ev];exact .bind (i1 _ _) λx h1=>.bind (i2 _ _) λy h2=>gr_op
 |neg a i1=>intro ρ h;simp only[ev];refine .bind (i1 _ _) λx h1=>?_;split<;>first|exact .ok|exact .no
 |cmp c a b i1 i2=>intro ρ h;simp only[ev];exact .bind (i1 _ _) λx h1=>.bind (i2 _ _) λy h2=>.of
 |chn c d a b e i1 i2 i3=>
  intro ρ h;simp only[ev];refine .bind (i1 _ _) λx h1=>.bind (i2 _ _) λy h2=>?_
  split
  .exact .bind (i3 _ _) λz h3=>.of
  .exact .ok
  .exact .no
 |not a i1=>intro ρ h;simp only[ev];refine .bind (i1 _ _) λx h1=>?_;split<;>first|exact .ok|exact .no
 |and a b i1 i2=>intro ρ h;simp only[ev];refine .bind (i1 _ _) λx h1=>?_;split<;>first|exact i2 _ _|exact .ok|exact .no
 |or a b i1 i2=>intro ρ h;simp only[ev];refine .bind (i1 _ _) λx h1=>?_;split<;>first|exact i2 _ _|exact .ok|exact .no
 |tru a i1=>intro ρ h;simp only[ev];exact .bind (i1 _ _) λx h1=>.of
 |ite c a b i1 i2 i3=>
  intro ρ h;simp only[ev];refine .bind (i1 _ _) λx h1=>?_
  split
  .exact i2 _ _
  .exact i3 _ _
  .exact .no
 |idx a b i1 i2=>intro ρ h;simp only[ev];exact .bind (i1 _ _) λx h1=>.bind (i2 _ _) λy h2=>.of
 |slc a bl lo bh hi i1 i2 i3=>
  intro ρ h;simp only[ev];refine .bind (i1 _ _) λx h1=>.bind (i2 _ _) λy h2=>.bind (i3 _ _) λz h3=>?_
  split
  .exact zyl
  .exact .no
 |call f a i1=>intro ρ h;simp only[ev];refine .bind (i1 _ _) λx h1=>?_;split<;>first|exact hcl _ _ _|exact .no
 |bi b a i1=>intro ρ h;simp only[ev];refine .bind (i1 _ _) λx h1=>?_;split<;>first|exact gr_bi|exact .no
 |isi t a i1=>intro ρ h;simp only[ev];exact .bind (i1 _ _) λx h1=>.of
 |mt m o a i1 i2=>
  intro ρ h;simp only[ev];refine .bind (i1 _ _) λx h1=>?_
  split
  .refine .bind (i2 _ _) λy h2=>?_
   split<;>first|exact gr_mt|exact .no
  .exact .no
 |lc k a t ow ix c e i1 i2 i3=>
  intro ρ h;simp only[ev]
  refine .bind (i1 _ _) λx h1=>.bind (gr_lc i2 i3 _ _ _ _ _) λys h2=>?_
  split
  .exact .new
  .exact .no
theorem zio(hcl:∀f ws h,Gr (cl f ws h) h):∀(s:S) (ρ:En) (h:VH),Gr (exs cl s ρ h) h:=by
 have ge:=gr_ev hcl
 intro s
 induction s with
 |skip=>intro ρ h;exact .ok
 |seq a b i1 i2=>intro ρ h;simp only[exs];refine .bind (i1 _ _) λfl h1=>?_;split<;>first|exact i2 _ _|exact .ok
 |set i e=>intro ρ h;simp only[exs];exact .bind (ge _ _ _) λw h1=>.ok
 |unp is e=>intro ρ h;simp only[exs];exact .bind (ge _ _ _) λw h1=>.of
 |aug i o e=>
  intro ρ h;simp only[exs]
  split
  .exact .bind (ge _ _ _) λy h1=>.bind gr_ip λz h2=>.ok
  .exact .no
 |put o i v=>
  intro ρ h;simp only[exs]
  refine .bind (ge _ _ _) λw h1=>.bind (ge _ _ _) λx h2=>.bind (ge _ _ _) λy h3=>?_
  split
  .split
   .split
    .rename_i g _ _ _;exact .set g
    .exact .no
   .exact .no
  .unfold putD
   split
   .split
    .rename_i g _ _;exact .set g
    .exact .no
   .exact .no
  .exact .no
 |sw o i p j v=>
  intro ρ h;simp only[exs]
  exact .bind (ge _ _ _) λw h1=>.bind .of λz h2=>.bind (ge _ _ _) λa h3=>.bind (ge _ _ _) λb h4=>.bind zn6 λ_ h5=>.bind (ge _ _ _) λa h3=>.bind (ge _ _ _) λb h4=>.bind zn6 λ_ h5=>.ok
 |ite c a b i1 i2=>
  intro ρ h;simp only[exs];refine .bind (ge _ _ _) λx h1=>?_
  split
  .exact i1 _ _
  .exact i2 _ _
  .exact .no
 |ret e=>intro ρ h;simp only[exs];exact .bind (ge _ _ _) λw h1=>.ok
 |expr e=>intro ρ h;simp only[exs];exact .bind (ge _ _ _) λw h1=>.ok
 |brk=>intro ρ h;exact .ok
 |cnt=>intro ρ h;exact .ok
 | «for» k a t b i1=>intro ρ h;simp only[exs];exact .bind (ge _ _ _) λx h1=>zn7 i1 _ _ _ _
 |whl c b i1=>intro ρ h;simp only[exs];exact zn8 (ge c) i1 _ _ _
 |no=>intro ρ h;exact .no
end
theorem ziq(F:Nat->Option Fn):∀(k f:Nat) (ws:List W) (h:VH),Gr (run F k f ws h) h
 |0,_,_,_=>.no
 |k+1,f,ws,h=>by
  intro a h' e
  simp only[run]at e
  split at e
  .rename_i fn hf
   split at e
   .rename_i hl
    generalize hr:exs (run F k) fn.body (ws.map some++List.replicate (fn.n-fn.ps) none) ⟨h.n,h.n,h.os⟩=r at e
    have g:=zio (ziq F k) fn.body (ws.map some++List.replicate (fn.n-fn.ps) none) ⟨h.n,h.n,h.os⟩
    rw[hr]at g
    have lv:∀w h1,Grow ⟨h.n,h.n,h.os⟩ h1->leave h w h1=.ok a h'->Grow h h':=by
     intro w h1 g1 e1
     unfold leave at e1
     split at e1
     .cases e1;exact .refl
     .cases e1
      refine⟨g1.1,?_,λi hi hlo=>?_⟩
      .show(if Nat.ble h.lo h1.lo then h.lo else h1.lo)<=h.lo
       split
       .exact vac _
       .rename_i q
        exact Nat.le_of_not_le λz=>q (vd1.mpr z)
      .have hlo:i< (if Nat.ble h.lo h1.lo then h.lo else h1.lo):=hlo
       have hh:i<h1.lo:=by
        split at hlo
        .rename_i q;exact vak hlo (va9 q)
        .exact hlo
       exact g1.2.2 i hi hh
    cases r with
    |no=>cases e
    |ex _ _=>cases e
    |ok fl h1=>
     have g1:=g fl h1 rfl
     simp only[Res.bind]at e
     split at e
     .exact lv _ _ g1 e
     .exact lv _ _ g1 e
     .cases e
   .cases e
  .cases e
noncomputable def FlOk(K:PySem.W.Frag)(m:Nat->Addr)(n:Nat)(H:Hp)(D:Ends):Fl->Prop
 |.nx ρ=>∀σ,Fr K m n H σ ρ->D.nx σ H
 |.bk ρ=>∀σ,Fr K m n H σ ρ->D.bk σ H
 |.ct ρ=>∀σ,Fr K m n H σ ρ->D.ct σ H
 |.rt w=>∀v,VRep K m n H v w->D.rt v H
noncomputable def lftS(K:PySem.W.Frag)(f:FS):TS:=λD σ H=>∃ρ h m fl h',Fr K m h.n H σ ρ/\Rel K m h H/\f ρ h=.ok fl h'/\∀H' m',Stp m h.n H m' h'.n H'->Rel K m' h' H'->FlOk K m' h'.n H' D fl
theorem lftS.el{K:PySem.W.Frag}{D:Ends}{σ:L2.St}{H:Hp}{P:Prop}{fa:FS}(q:lftS K fa D σ H)(k:∀ρ h m fl h',Fr K m h.n H σ ρ->Rel K m h H->fa ρ h=.ok fl h'->(∀H' m',Stp m h.n H m' h'.n H'->Rel K m' h' H'->FlOk K m' h'.n H' D fl)->P):P:=by
 obtain⟨ρ,h,m,w,h',f,r,e,k'⟩:=q
 exact k ρ h m w h' f r e k'
theorem lftS.mk{K:PySem.W.Frag}{D:Ends}{σ:L2.St}{H:Hp}{m:Nat->Addr}{ρ:En}{h h':VH}{fl:Fl}{fa:FS}(f:Fr K m h.n H σ ρ)(r:Rel K m h H)(e:fa ρ h=.ok fl h')(k:∀H' m',Stp m h.n H m' h'.n H'->Rel K m' h' H'->FlOk K m' h'.n H' D fl):lftS K fa D σ H:=⟨ρ,h,m,fl,h',f,r,e,k⟩
noncomputable abbrev SS(X:Cx)(st:Stmt)(f:FS):Prop:=PS X st (lftS X.K f)
noncomputable abbrev SSs(X:Cx)(st:List Stmt)(f:FS):Prop:=PSs X st (lftS X.K f)
section
variable{X:Cx}{a b c e o:Expr}{es:List Expr}{fa fb fc fo fr:FE}{pos p:Pos}{x:Str}{st:Stmt}{sts:List Stmt}{ga gb:FS}
noncomputable abbrev gSkip:FS:=λρ h=>.ok (.nx ρ) h
noncomputable abbrev gSeq(ga gb:FS):FS:=λρ h=>(ga ρ h).bind λfl h=>match fl with|.nx ρ=>gb ρ h|fl=>.ok fl h
theorem zuu:SSs X [] gSkip:=ztn.imp λD σ H z9=>z9.el λρ h m fl h' f r e k=>by cases e;exact k H m .refl r σ f
theorem zuv:SS X (.Pass pos) gSkip:=zto.imp λD σ H z9=>z9.el λρ h m fl h' f r e k=>by cases e;exact k H m .refl r σ f
theorem zym:SS X (.Break pos) (λρ h=>.ok (.bk ρ) h):=zp8.imp λD σ H z9=>z9.el λρ h m fl h' f r e k=>by cases e;exact k H m .refl r σ f
theorem zyn:SS X (.Continue pos) (λρ h=>.ok (.ct ρ) h):=zjr.imp λD σ H z9=>z9.el λρ h m fl h' f r e k=>by cases e;exact k H m .refl r σ f
theorem zrb(h1:SS X st ga)(h2:SSs X sts gb):SSs X (st::sts) (gSeq ga gb):=(zp7 h1 h2).imp λD σ H z9=>z9.el λρ h m fl h' f r e k=>by
 refine zac e λfl1 h1 e1 e2=>?_
 refine(.mk f r e1 λH1 m1 s1 r1=>?_)
 cases fl1 with
 |nx ρ1=>exact λσ1 f1=>⟨ρ1,h1,m1,fl,h',f1,r1,e2,λH' m' s' r'=>k H' m' (s1.trans s') r'⟩
 |bk ρ1=>cases e2;exact k H1 m1 s1 r1
 |ct ρ1=>cases e2;exact k H1 m1 s1 r1
 |rt w=>cases e2;exact k H1 m1 s1 r1
theorem ss_no:SS X st (λ_ _=>.no):=zp9.imp λD σ H z9=>z9.el λρ h m fl h' f r e k=>by cases e
noncomputable def zk3:Expr->Bool
 |.ListComp .. |.SetComp .. |.DictComp ..=>false
 |_=>true
theorem zk4{t:Option Expr}{l:Nat}(h:zk3 e=true):swapsWith e t l env=pure false:=by
 cases e<;>first|rfl|cases h
theorem zuw(he:SE X e fa)(hs:zk3 e=true):SS X (.Expr e pos) (λρ h=>(fa ρ h).bind λ_ h=>.ok (.nx ρ) h):=(ztp he (zk4 hs)).imp λD σ H z9=>z9.el λρ h m fl h' f r e k=>by
 refine zac e λw h1 e1 e2=>?_
 cases e2
 exact(.mk f r e1 λv H1 m1 s1 r1 q1=>k H1 m1 s1 r1 σ (f.stp s1))
theorem zyo(he:SE X e fa):SS X (.Return (some e) pos) (λρ h=>(fa ρ h).bind λw h=>.ok (.rt w) h):=(zwc he).imp λD σ H z9=>z9.el λρ h m fl h' f r e k=>by
 refine zac e λw h1 e1 e2=>?_
 cases e2
 exact(.mk f r e1 λv H1 m1 s1 r1 q1=>k H1 m1 s1 r1 v q1)
theorem zux:SS X (.Return none pos) (λρ h=>(Res.ok W.non h).bind λw h=>.ok (.rt w) h):=ztq.imp λD σ H z9=>z9.el λρ h m fl h' f r e k=>by
 cases e
 exact k H m .refl r .non .non
noncomputable abbrev gSet(i:Nat)(fa:FE):FS:=λρ h=>(fa ρ h).bind λw h=>.ok (.nx (ρ.set i (some w))) h
theorem zsr{K:PySem.W.Frag}{i:Nat}{D:Ends}{σ:L2.St}{H:Hp}(q:lftS K (gSet i fa) D σ H):lft K fa σ H λv H1=>gName i v σ H1 D.nx:=by
 refine q.el λρ h m fl h' f r e k=>?_
 refine zac e λw h1 e1 e2=>?_
 cases e2
 exact(.mk f r e1 λv H1 m1 s1 r1 q1=>k H1 m1 s1 r1 _ ((f.stp s1).set q1 i))
theorem zss{i:Nat}{pos':Pos}(hN:X.N.Nodup)(hi:X.N[i]?=some x)(hx:Loc X.env.scope x)(hf:X.fn x=true\/X.env.scope.names.lookup x=some .local)(he:SE X e fa)
 (hs:swapsWith e (some (.Name x pos')) pos.line X.env=pure false):SS X (.Assign [.Name x pos'] e pos) (gSet i fa):=(zwe hN hi hx he hs hf).imp λD σ H q=>zsr q
theorem zrc{i:Nat}{pos' lp:Pos}{ow fr:List Str}{ix:List Nat}{scope:Scope}{tg iter elt:Expr}{ifs:List Expr}{kd:Kd}{t:Tg}{fe:FE}(hN:X.N.Nodup)(hi:X.N[i]?=some x)(hx:Loc X.env.scope x)(hf:X.fn x=true\/X.env.scope.names.lookup x=some .local)
 (S:CompScope X ow fr ix scope) (hc:X.calm=true) (hI:PI X tg iter (lftI X.K kd fa)) (hg:∀C s₀ H₀ ex,PG (X.comp (ow++fr) scope C s₀ H₀ ex) tg (lftG X.K t)) (ht:∀C s₀ H₀ ex,PTs (X.comp (ow++fr) scope C s₀ H₀ ex) ifs (lftT X.K fc))
 (he:∀C s₀ H₀ ex,PE (X.comp (ow++fr) scope C s₀ H₀ ex) elt (lft X.K fe)) (hsw:swapsWith (.ListComp elt [⟨tg,iter,ifs,0⟩] scope lp) (some (.Name x pos')) pos.line X.env=pure true) (hs:∀x,foldedSetIterable iter X.env x=pure x) :
 SS X (.Assign [.Name x pos'] (.ListComp elt [⟨tg,iter,ifs,0⟩] scope lp) pos) (gSet i (gLc kd fa t ow.length ix fc fe)):=
 (zqn hN hi hx S hc hI hg ht he hsw hf hs).imp λD σ H q=>lc_ok (zsr q)
theorem se_lc{lp:Pos}{ow fr:List Str}{ix:List Nat}{scope:Scope}{tg iter elt:Expr}{ifs:List Expr}{kd:Kd}{t:Tg}{fe:FE}
 (S:CompScope X ow fr ix scope) (hc:X.calm=true) (hI:PI X tg iter (lftI X.K kd fa)) (hg:∀C s₀ H₀ ex,PG (X.comp (ow++fr) scope C s₀ H₀ ex) tg (lftG X.K t)) (ht:∀C s₀ H₀ ex,PTs (X.comp (ow++fr) scope C s₀ H₀ ex) ifs (lftT X.K fc))
 (he:∀C s₀ H₀ ex,PE (X.comp (ow++fr) scope C s₀ H₀ ex) elt (lft X.K fe)) (hs:∀x,foldedSetIterable iter X.env x=pure x) :
 SE X (.ListComp elt [⟨tg,iter,ifs,0⟩] scope lp) (gLc kd fa t ow.length ix fc fe):=(pe_lc S hc hI hg ht he hs).imp λσ H Q q=>lc_ok q
noncomputable def noTup:Expr->Bool
 |.Tuple ..=>false
 |_=>true
theorem zir{k:Nat}{l:Nat}:swapsWithSole [.Tuple es k p] e l env=pure false:=by
 cases e<;>rfl
theorem zmc{k:Nat}(h:noTup e=true):swappedStores [.Tuple es k p] e env=pure none:=by
 cases e<;>first|rfl|cases h
theorem zyp{is:List Nat}{k:Nat}(hc:X.calm=true)(hN:X.N.Nodup)(hs:Paired (NmOk X) es is)(he:SE X e fa)(ht:noTup e=true) :
 SS X (.Assign [.Tuple es k p] e pos) (λρ h=>(fa ρ h).bind λw h=>.of ((tgW (.many is) w h ρ).map .nx) h):=(zm1 he (zn5 hc hN hs) zir (zmc ht) rfl).imp λD σ H z9=>z9.el λρ h m fl h' f r e k=>by
 refine zac e λw h1 e1 e2=>?_
 obtain⟨e2,e3⟩:=of_ok e2
 subst e3
 cases z:tgW (.many is) w h' ρ with
 |none=>rw[z]at e2;cases e2
 |some ρ'=>
  rw[z]at e2;cases e2
  exact(.mk f r e1 λv H1 m1 s1 r1 q1=>(.mk (f.stp s1) r1 q1 z λσ' f'=>k H1 m1 s1 r1 σ' f'))
noncomputable def zb1:Expr->Bool
 |.Slice ..=>false
 |_=>true
theorem zdw(h:zb1 i=true)(v:Value):assign (.Subscript o i p) env v=(do
 let ov <-holding [v] (eval o env)
 let iv <-holding [v,ov] (eval i env)
 standAt p
 holding [v,ov,iv] (setItem ov iv v)
 release [v,ov,iv] []):=by
 cases i<;>first|rfl|cases h
noncomputable abbrev gPut(fo fi fv:FE):FS:=λρ h=>(fv ρ h).bind λw h=>(fo ρ h).bind λx h=>(fi ρ h).bind λy h=>match x,y with
 |.ref a,.int j=>(match h.get a with
  |some (.lst ws)=>(match L2.ixN ws.length j with
   |some k=>.ok (.nx ρ) (h.set a (.lst (ws.set k w)))
   |none=>.no)
  |_=>.no)
 |.ref a,y=>putD ρ a y w h
 |_,_=>.no
theorem zn9{l:Nat}:swapsWithSole [.Subscript o i p] e l env=pure false:=by
 cases e<;>rfl
theorem zj4:swappedStores [.Subscript o i p] e env=pure none:=by
 cases e<;>rfl
theorem zis{α β:Type}{f:α->Option β}:∀{as:List α} {bs:List β} {a:α} {b:β},mapO f as=some bs->f a=some b->mapO f (as++[a])=some (bs++[b])
 |[],_,_,_,e,h=>by cases e;simp[mapO,h]
 |x::as,bs,a,b,e,h=>by
  simp only[mapO]at e
  cases z:f x with
  |none=>rw[z]at e;cases e
  |some y=>
   rw[z]at e
   simp only at e
   cases z2:mapO f as with
   |none=>rw[z2]at e;cases e
   |some ys=>
    rw[z2]at e;cases e
    rw[vb7]
    simp only[mapO,z,zis z2 h,vb7]
theorem zyq(hu:X.A.units+2<cLine)(ho:SE X o fo)(hi:SE X a fa)(hv:SE X e fb)(hs:zb1 a=true):SS X (.Assign [.Subscript o a p] e pos) (gPut fo fa fb):=
 (zm1 hv (zm0 ho hi (zgy.or (zxe hu)) (zdw hs)) zn9 zj4 rfl).imp λD σ H z9=>z9.el λρ h m fl h' f r e k=>by
   refine zac e λw h1 e1 e2=>?_
   refine zac e2 λx h2 e3 e4=>?_
   refine zac e4 λy h3 e5 e6=>?_
   refine(.mk f r e1 λv H1 m1 s1 r1 q1=>(.mk (f.stp s1) r1 e3 λvo H2 m2 s2 r2 q2=>(.mk ((f.stp s1).stp s2) r2 e5 λvi H3 m3 s3 r3 q3=>?_)))
   split at e6
   .rename_i l j
    split at e6
    .rename_i ws g
     split at e6
     .rename_i kk hk
      cases e6
      cases q3
      have q2':=q2.stp s3
      cases q2'
      obtain⟨vs,p1,p2⟩:=r3.lst g
      refine .inl ⟨m3 l,vs,j,kk,rfl,rfl,p1,by rw[p2.length];exact hk,?_⟩
      have qv:=((q1.stp s2).stp s3)
      obtain⟨st,r'⟩:=r3.write (i:=l) (o:=.lst (ws.set kk w)) (u:=.lst (vs.set kk v)) (zaq g) p1 (λ_ z=>nomatch z) (λ_ _ z=>nomatch z) λst=>⟨_,zat,VReps.set (qv.stp st) kk (p2.stp st)⟩
      exact k _ m3 (((s1.trans s2).trans s3).trans st) r' σ ((((f.stp s1).stp s2).stp s3).stp st)
     .cases e6
    .cases e6
   .rename_i l _
    unfold putD at e6
    split at e6
    .rename_i ks ws dk g hd
     split at e6
     .rename_i hc
      cases e6
      rw[vab]at hc
      have q2':=q2.stp s3
      cases q2'
      obtain⟨xs,p1,p2,p3,p4⟩:=r3.dt g
      obtain⟨b,rfl,kk⟩:=ze7 q3 hd
      have hl:=p3.length
      rw[vad]at hl
      have hlt:xs.length<sizeLine:=by rw[hl,vd7];exact zao.mp hc.2
      have qv:=((q1.stp s2).stp s3)
      have hf:findX xs dk=none:=by
       rcases zg6 dk p2 p4 with⟨z,_⟩|⟨p,w',z,z2,_⟩
       .exact z
       .rw[z2]at hc;exact absurd hc.1 (by simp)
      have hp:putX xs dk b v=xs++[(dk,b,v)]:=by unfold putX;rw[hf];rfl
      obtain⟨u0,hu0,hn,hff,hmu⟩:∃u0:HO,H3 (m3 l)=some u0/\(∀t,u0≠HO.tup t)/\(∀o t,u0≠HO.frz o t)/\Mut (some u0):=by
       rcases p1 with p1|⟨_,p1⟩
       .exact⟨_,p1,(λ_ z=>nomatch z),(λ_ _ z=>nomatch z),True.intro⟩
       .exact⟨_,p1,(λ_ z=>nomatch z),(λ_ _ z=>nomatch z),True.intro⟩
      refine .inr ⟨m3 l,b,xs,dk,rfl,rfl,dt_DT p1 p2 p3,by rw[hu0];exact hmu,kk,hlt,?_⟩
      obtain⟨st,r'⟩:=r3.write (i:=l) (o:=.dt (ks++[y]) (ws++[w])) (u:=dtH (putX xs dk b v) (m3 l)) (zaq g) hu0 hn hff λst=>by
       rw[hp]at st ⊢
       refine⟨xs++[(dk,b,v)],.inl zat,?_,?_,?_⟩
       .rw[vb5,zis p2 hd];rfl
       .rw[vb5];exact(p3.stp st).append (.cons (q3.stp st) .nil)
       .rw[vb5];exact(p4.stp st).append (.cons (qv.stp st) .nil)
      exact k _ m3 (((s1.trans s2).trans s3).trans st) r' σ ((((f.stp s1).stp s2).stp s3).stp st)
     .cases e6
    .cases e6
   .cases e6
theorem zit{k:Nat}:swappedStores [.Tuple [.Subscript o i p1,.Subscript o2 i2 p2] k p] e env=pure none:=by
 cases e<;>try rfl
 simp only[swappedStores]
 split
 .rfl
 .split<;>rfl
noncomputable abbrev gSw(fo fi fp fj fv:FE):FS:=λρ h=>(fv ρ h).bind λw h=>(Res.of (two w) h).bind λz h=>(fo ρ h).bind λa h=>(fi ρ h).bind λb h=>(setL a b z.1 h).bind λ_ h=>(fp ρ h).bind λc h=>(fj ρ h).bind λd h=>(setL c d z.2 h).bind λ_ h=>.ok (.nx ρ) h
theorem zoa{K:PySem.W.Frag}{m:Nat->Addr}{h h':VH}{H:Hp}{l j w y:W}{vl vj vw:V}(r:Rel K m h H)(ql:VRep K m h.n H vl l)(qj:VRep K m h.n H vj j)(qw:VRep K m h.n H vw w)(e:setL l j w h=.ok y h'){Q:Hp->Prop}
 (k:∀H',Stp m h.n H m h'.n H'->Rel K m h' H'->Q H'):rSetL vl vj vw H Q:=by
 unfold setL at e
 split at e
 .rename_i l j
  split at e
  .rename_i ws g
   split at e
   .rename_i kk hk
    cases e
    cases qj
    cases ql
    obtain⟨vs,p1,p2⟩:=r.lst g
    refine⟨m l,vs,j,kk,rfl,rfl,p1,by rw[p2.length];exact hk,?_⟩
    obtain⟨st,r'⟩:=r.write (i:=l) (o:=.lst (ws.set kk w)) (u:=.lst (vs.set kk vw)) (zaq g) p1 (λ_ z=>nomatch z) (λ_ _ z=>nomatch z) λst=>⟨_,zat,VReps.set (qw.stp st) kk (p2.stp st)⟩
    exact k _ st r'
   .cases e
  .cases e
 .cases e
theorem ss_sw{o2 a2:Expr}{fo2 fa2:FE}{p1 p2:Pos}{k:Nat}(hc:X.calm=true)(ho:SE X o fo)(hi:SE X a fa)(ho2:SE X o2 fo2)(hi2:SE X a2 fa2)(hv:SE X e fb)(hs:zb1 a=true)(hs2:zb1 a2=true) :
 SS X (.Assign [.Tuple [.Subscript o a p1,.Subscript o2 a2 p2] k p] e pos) (gSw fo fa fo2 fa2 fb):=
 (zm1 hv (zr8 hc (zgx (zm0 ho hi zgy (zdw hs)) (zgx (zm0 ho2 hi2 zgy (zdw hs2)) zmz))) zir zit rfl).imp λD σ H z9=>z9.el λρ h m fl h' f r e k=>by
   refine zac e λw h1 e1 e2=>?_
   refine zac e2 λz h1' e3 e4=>?_
   obtain⟨e3,rfl⟩:=of_ok e3
   refine zac e4 λx h2 e5 e6=>?_
   refine zac e6 λy h3 e7 e8=>?_
   refine zac e8 λ_ h4 e9 e10=>?_
   refine zac e10 λx2 h5 e11 e12=>?_
   refine zac e12 λy2 h6 e13 e14=>?_
   refine zac e14 λ_ h7 e15 e16=>?_
   cases e16
   obtain⟨wx,wy⟩:=z
   unfold two at e3
   split at e3
   .cases e3
    refine(.mk f r e1 λv H1 m1 s1 r1 q1=>?_)
    cases q1 with
    | @tup c vs _ sq rs=>
     cases rs with
     |cons qx rs=>
      cases rs with
      |cons qy rs=>
       cases rs
       refine⟨c,_,rfl,sq,rfl,_,_,rfl,?_⟩
       refine(.mk (f.stp s1) r1 e5 λvo H2 m2 s2 r2 q2=>(.mk ((f.stp s1).stp s2) r2 e7 λvi H3 m3 s3 r3 q3=>?_))
       refine zoa r3 (q2.stp s3) q3 ((qx.stp s2).stp s3) e9 λH4 s4 r4=>?_
       refine⟨_,_,rfl,?_⟩
       refine(.mk ((((f.stp s1).stp s2).stp s3).stp s4) r4 e11 λvo2 H5 m5 s5 r5 q5=>(.mk (((((f.stp s1).stp s2).stp s3).stp s4).stp s5) r5 e13 λvi2 H6 m6 s6 r6 q6=>?_))
       refine zoa r6 (q5.stp s6) q6 (((((qy.stp s2).stp s3).stp s4).stp s5).stp s6) e15 λH7 s7 r7=>?_
       exact⟨rfl,k H7 m6 ((((((s1.trans s2).trans s3).trans s4).trans s5).trans s6).trans s7) r7 σ (((((((f.stp s1).stp s2).stp s3).stp s4).stp s5).stp s6).stp s7)⟩
   .cases e3
noncomputable def ipOf:Operator->Option Op
 |.Add=>some .add
 |_=>none
noncomputable def rIp:Op->R2
 |.add=>ipI λi j=>i+j
 |_=>λ_ _ _ _=>False
theorem ip_ok{O:Operator}{o:Op}(e:ipOf O=some o):PIp X O (rIp o):=by
 cases O<;>cases e
 exact zwg
theorem zyr{K:PySem.W.Frag}{O:Operator}{o:Op}(e:ipOf O=some o):OpV K (rIp o) (ipW o):=by
 intro m h H v u x y w h' Q r qv qu e2 k
 unfold ipW at e2
 split at e2
 .rename_i i j
  cases qv;cases qu
  split at e2
  .cases e2;exact⟨i,j,rfl,rfl,Wants.here k r (.int _)⟩
  .cases e2
 .cases e2
noncomputable abbrev gAug(i:Nat)(o:Op)(fa:FE):FS:=λρ h=>match(ρ[i]?).join with
 |some x=>(fa ρ h).bind λy h=>(ipW o x y h).bind λz h=>.ok (.nx (ρ.set i (some z))) h
 |none=>.no
theorem zys{i:Nat}{pos':Pos}{O:Operator}{o:Op}(eo:ipOf O=some o)(hN:X.N.Nodup)(hi:X.N[i]?=some x)(hx:Loc X.env.scope x)(hf:X.fn x=true\/X.env.scope.names.lookup x=some .local)(he:SE X e fa) :
 SS X (.AugAssign (.Name x pos') O e pos) (gAug i o fa):=(zwf hN hi hx he (ip_ok eo) hf).imp λD σ H z9=>z9.el λρ h m fl h' f r e k=>by
 have e:gAug i o fa ρ h=.ok fl h':=e
 simp only[gAug]at e
 cases z:(ρ[i]?).join with
 |none=>rw[z]at e;cases e
 |some x=>
  rw[z]at e
  simp only at e
  refine zac e λy h1 e1 e2=>?_
  refine zac e2 λw h2 e3 e4=>?_
  cases e4
  have e5:ρ[i]?=some (some x):=by
   cases q:ρ[i]? with
   |none=>rw[q]at z;cases z
   |some o=>rw[q]at z;rw[<-z];rfl
  obtain⟨v,p1,p2⟩:=f.val i x e5
  refine⟨v,p1,ρ,h,m,y,h1,f,r,e1,λu H1 m1 s1 r1 q1=>zyr eo m1 h1 H1 v u x y w h' _ r1 (p2.stp s1) q1 e3 λv' H' m' s' r' q'=>?_⟩
  exact k H' m' (s1.trans s') r' _ (((f.stp s1).stp s').set q' i)
noncomputable abbrev gIf(fc:FE)(ga gb:FS):FS:=λρ h=>(fc ρ h).bind λx h=>match x with|.bl true=>ga ρ h|.bl false=>gb ρ h|_=>.no
variable{sa sb:List Stmt}
theorem zyt(hc:ST X c fc)(ha:SSs X sa ga)(hb:SSs X sb gb):SS X (.If c sa sb pos) (gIf fc ga gb):=(ps_if hc ha hb).imp λD σ H z9=>z9.el λρ h m fl h' f r e k=>by
 refine zac e λx h1 e1 e2=>?_
 cases x<;>try cases e2
 rename_i c
 refine(.mk f r e1 λH1 m1 s1 r1=>?_)
 cases c with
 |true=>rw[if_pos rfl];exact(.mk (f.stp s1) r1 e2 λH' m' s' r'=>k H' m' (s1.trans s') r')
 |false=>simp only[vap,vbl];exact(.mk (f.stp s1) r1 e2 λH' m' s' r'=>k H' m' (s1.trans s') r')
theorem zuy{nx:Nat->VH->Option (Option W)}{tg:W->VH->En->Option En}{f i:Nat}{ρ:En}{fl:Fl}(q:forG nx tg g (f+1) i ρ h=.ok fl h'):∃o,nx i h=some o:=by
 simp only[forG]at q
 split at q
 .cases q
 .exact⟨_,by assumption⟩
 .exact⟨_,by assumption⟩
noncomputable abbrev gFor(kd:Kd)(fa:FE)(t:Tg)(g:FS):FS:=λρ h=>(fa ρ h).bind λx h=>forG (nxt kd x) (tgW t) g fuel 0 ρ h
theorem zyu{K:PySem.W.Frag}{kd:Kd}{t:Tg}{D:Ends}{σ:L2.St}{H:Hp}(q:lftS K (gFor kd fa t ga) D σ H):tFor (lftI K kd fa) (lftG K t) (lftS K ga) D σ H:=by
 refine q.el λρ h m fl h' f r e k=>?_
 refine zac e λx h1 e1 e2=>?_
 refine(.mk f r e1 (zuy (f:=999999) e2) λJ P H1 m1 s1 r1 J1 p1=>?_)
 refine⟨λi fu σ' H'=>∃ρ' h3 m3,forG (nxt kd x) (tgW t) ga fu i ρ' h3=.ok fl h'/\Fr K m3 h3.n H' σ' ρ'/\Rel K m3 h3 H'/\Stp m1 h1.n H1 m3 h3.n H'/\P m3 h3.n H',⟨fuel,ρ,h1,m1,e2,f.stp s1,r1,.refl,p1⟩,?_⟩
 rintro i fu σ' H' ⟨ρ',h3,m3,e3,f3,r3,s3,p3⟩
 cases fu with
 |zero=>cases e3
 |succ fu=>
  simp only[forG]at e3
  obtain⟨j1,j2⟩:=J1.2 m3 h3 H' r3 p3 i
  split at e3
  .cases e3
  .rename_i hn
   cases e3
   exact .inl ⟨j2 hn,k H' m3 (s1.trans s3) r3 σ' f3⟩
  .rename_i w hn
   obtain⟨j3,j4⟩:=j1 w hn
   split at e3
   .cases e3
   .rename_i ρ4 ht
    refine zac e3 λfl5 h5 e5 e6=>?_
    refine .inr ⟨j3,λσ6 H6=>∃ρ6 m6,forG (nxt kd x) (tgW t) ga fu (i+1) ρ6 h5=.ok fl h'/\Fr K m6 h5.n H6 σ6 ρ6/\Rel K m6 h5 H6/\Stp m1 h1.n H1 m6 h5.n H6/\P m6 h5.n H6,λσ6 H6 ⟨ρ6,m6,a1,a2,a3,a4,a5⟩=>⟨fu,vbx _,ρ6,h5,m6,a1,a2,a3,a4,a5⟩,λy H4 hy=>?_⟩
    obtain⟨s4,r4,q4⟩:=j4 y H4 hy
    refine⟨ρ',h3,m3,w,ρ4,f3.stp s4,r4,q4,ht,λσ5 f5=>⟨ρ4,h3,m3,fl5,h5,f5,r4,e5,λH6 m6 s6 r6=>?_⟩⟩
    have p4:=J1.1 m3 h3.n H' m3 h3.n H4 (vac _) (λ_ _=>rfl) (λb vs q=>s4.tup b vs q) (λb o u q=>s4.frz b o u q) p3
    have p6:=J1.1 m3 h3.n H4 m6 h5.n H6 s6.le s6.same (λb vs q=>s6.tup b vs q) (λb o u q=>s6.frz b o u q) p4
    have s16:=(s3.trans s4).trans s6
    cases fl5 with
    |nx ρ6=>exact λσ6 f6=>⟨ρ6,m6,e6,f6,r6,s16,p6⟩
    |ct ρ6=>exact λσ6 f6=>⟨ρ6,m6,e6,f6,r6,s16,p6⟩
    |bk ρ6=>cases e6;exact λσ6 f6=>k H6 m6 (s1.trans s16) r6 σ6 f6
    |rt w6=>cases e6;exact λv6 q6=>k H6 m6 (s1.trans s16) r6 v6 q6
theorem zyv(hp:PassesOwn (model X.prog X.w) X.A X.env X.xe)(hc:X.calm=true)(hI:PI X tg iter (lftI X.K kd fa))(hg:PG X tg (lftG X.K t))(hb:SSs X sa ga)(hs:∀x,foldedSetIterable iter X.env x=pure x) :
 SS X (.For tg iter sa [] pos) (gFor kd fa t ga):=(zwj hp hc hI hg hb hs).imp λD σ H q=>zyu q
theorem zyw(hp:PassesOwn (model X.prog X.w) X.A X.env X.xe)(hc:ST X c fc)(hb:SSs X sa ga):SS X (.While c sa [] pos) (λρ h=>whlG fc ga fuel ρ h):=(zqa hp hc hb).imp λD σ H z9=>z9.el λρ h m fl h' f r e k=>by
 refine⟨λfu σ' H'=>∃ρ' h3 m3,whlG fc ga fu ρ' h3=.ok fl h'/\Fr X.K m3 h3.n H' σ' ρ'/\Rel X.K m3 h3 H'/\Stp m h.n H m3 h3.n H',⟨fuel,ρ,h,m,e,f,r,.refl⟩,?_⟩
 rintro fu σ' H' ⟨ρ',h3,m3,e3,f3,r3,s3⟩
 cases fu with
 |zero=>cases e3
 |succ fu=>
  simp only[whlG]at e3
  refine zac e3 λx h4 e4 e5=>?_
  cases x<;>try cases e5
  rename_i b
  refine⟨ρ',h3,m3,b,h4,f3,r3,e4,λH4 m4 s4 r4=>?_⟩
  cases b with
  |false=>cases e5;simp only[vap,vbl];exact k H4 m4 (s3.trans s4) r4 σ' (f3.stp s4)
  |true=>
   simp only[vbm]
   refine zac e5 λfl5 h5 e6 e7=>?_
   refine⟨λσ6 H6=>∃ρ6 m6,whlG fc ga fu ρ6 h5=.ok fl h'/\Fr X.K m6 h5.n H6 σ6 ρ6/\Rel X.K m6 h5 H6/\Stp m h.n H m6 h5.n H6,λσ6 H6 ⟨ρ6,m6,a1,a2,a3,a4⟩=>⟨fu,vbx _,ρ6,h5,m6,a1,a2,a3,a4⟩,?_⟩
   refine⟨ρ',h4,m4,fl5,h5,f3.stp s4,r4,e6,λH6 m6 s6 r6=>?_⟩
   have s16:=(s3.trans s4).trans s6
   cases fl5 with
   |nx ρ6=>exact λσ6 f6=>⟨ρ6,m6,e7,f6,r6,s16⟩
   |ct ρ6=>exact λσ6 f6=>⟨ρ6,m6,e7,f6,r6,s16⟩
   |bk ρ6=>cases e7;exact λσ6 f6=>k H6 m6 s16 r6 σ6 f6
   |rt w6=>cases e7;exact λv6 q6=>k H6 m6 s16 r6 v6 q6
end
theorem zc8{n:Str}:∀{ps:List Str} {us:List Value},us.length=ps.length->n∈ps->((ps.zip us).lookup n).isSome=true
 |[],_,_,h=>by cases h
 |p::ps,[],hl,_=>by cases hl
 |p::ps,u::us,hl,h=>by
  rw[vb0,va8]
  by_cases e:(n==p)=true
  .rw[e];rfl
  .have e':(n==p)=false:=by simpa using e
   rw[e']
   refine zc8 (by simpa using hl) ?_
   rcases vax.mp h with z|z
   .rw[z]at e';simp at e'
   .exact z
theorem zrd{n:Str}{p:Str}{ps:List Str}(h:n≠p):((p,u)::ps.zip us).lookup n=(ps.zip us).lookup n:=by
 rw[va8]
 have e':(n==p)=false:=by simpa using h
 rw[e']
theorem zk5{α β:Type}{f g:α->Option β}:∀{l:List α},(∀a∈l,f a=g a)->l.filterMap f=l.filterMap g
 |[],_=>rfl
 |a::r,h=>by
  rw[vcf,vcf,h a vam,zk5 λb hb=>h b (vai _ hb)]
theorem zha:∀{ps:List Str} {us:List Value},us.length=ps.length->ps.Nodup->ps.filterMap (λn=>((ps.zip us).lookup n).map (n,·))=ps.zip us
 |[],_,_,_=>rfl
 |p::ps,[],hl,_=>by cases hl
 |p::ps,u::us,hl,hn=>by
  obtain⟨h1,h2⟩:=vdl.mp hn
  rw[vb0,vcf]
  have e:((p,u)::ps.zip us).lookup p=some u:=by rw[va8];simp
  rw[e]
  simp only[vah]
  congr 1
  have ih:=zha (ps:=ps) (us:=us) (by simpa using hl) h2
  refine Eq.trans ?_ ih
  exact zk5 λn hn'=>by
   have hne:n≠p:=λz=>h1 (by rw[<-z];exact hn')
   rw[zrd hne]
theorem zf8{x qual:Str}{args:List Arg}{body:List Stmt}{sc:Scope}{kV doc pm:Value}{an:Option Addr}{cdv ct:Value}{df:List Expr}(hl:us.length=(args.map (·.arg)).length)(hn:(args.map (·.arg)).Nodup) :
 bindArgs (PySem.W.fnOf x qual ⟨[],args,none,[],[],none,df⟩ body sc .none kV doc pm an cdv ct) ⟨us,[]⟩=pure ((args.map (·.arg)).zip us):=by
 have hs:seqItems? Value.none=pure none:=rfl
 have hm:((args.map (·.arg)).filter λn=>(((args.map (·.arg)).zip us).lookup n).isNone)=[]:=by
  rw[List.filter_eq_nil_iff]
  intro n hn'
  have:=zc8 hl hn'
  cases q:((args.map (·.arg)).zip us).lookup n with
  |none=>rw[q]at this;cases this
  |some v=>simp
 unfold bindArgs
 simp only[PySem.W.fnOf,vcc,vb4,vbc,hs,veu]
 have hg:¬(us.length> (args.map (·.arg)).length):=by omega
 have h0:(#[]:Array Value).toList=[]:=rfl
 simp only[Option.getD_none,h0,vdg,veu,List.drop_nil,vcm,Nat.sub_zero,List.take_length,hm,List.isEmpty_nil,vck,List.drop_length,List.zip_nil_right,List.zip_nil_left,vaz hg,vb3,vap,vbl,zha hl hn]
theorem ziu{z:Str}:∀{qs:List Str} {us:List Value},us.length=qs.length->(qs++[z]).zip us=qs.zip us
 |[],[],_=>rfl
 |[],_::_,h=>by cases h
 |_::_,[],h=>by cases h
 |q::qs,u::us,h=>by
  rw[vb7,vb0,vb0,ziu (by simpa using h)]
theorem zhb{z:Str}:∀{qs:List Str} {us:List Value},us.length=qs.length->(qs++[z]).zip (us++[v])=qs.zip us++[(z,v)]
 |[],[],_=>rfl
 |[],_::_,h=>by cases h
 |_::_,[],h=>by cases h
 |q::qs,u::us,h=>by
  rw[vb7,vb7,vb0,vb0,zhb (by simpa using h),vb7]
theorem zob{z:Str}:∀{qs:List Str} {us:List Value},z∉qs->(qs.zip us).lookup z=none
 |[],_,_=>rfl
 |_::_,[],_=>rfl
 |q::qs,u::us,h=>by
  rw[vb0,va8]
  have e':(z==q)=false:=by simpa using(λe=>h (by rw[e];exact vam))
  rw[e']
  exact zob λe=>h (vai _ e)
section
variable{x qual:Str}{args:List Arg}{df:List Expr}{body:List Stmt}{sc:Scope}{kV doc pm:Value}{an:Option Addr}{cdv ct:Value}{t:Addr}{o:Obj}{n:Nat}{s:Shared}{us:List Value}{qs:List Str}{z:Str}
theorem zst(qs:List Str)(z:Str):List.drop ([Value.none].length- (qs++[z]).length) [Value.none]=[Value.none]:=by
 rw[vaf,va1,va1,show 1- (qs.length+1)=0 by omega];rfl
theorem len_d(qs:List Str)(z:Str):(qs++[z]).length - [Value.none].length=qs.length:=by simp
theorem zmd(ha:args.map (·.arg)=qs++[z])(hn:(qs++[z]).Nodup)(ho:s.heap.get? t=some o)(hd:o.data=.seq #[.none] n)(hl:us.length=(qs++[z]).length) :
 BindsTo s (PySem.W.fnOf x qual ⟨[],args,none,[],[],none,df⟩ body sc (.ref t) kV doc pm an cdv ct) ⟨us,[]⟩ ((qs++[z]).zip us):=by
 apply BindsTo.of_defaults (items:=#[.none]) (n:=n) rfl ho hd
 .unfold bindArgs
  simp only[PySem.W.fnOf,vcc,vb4,vbc,vdg,veu,ha]
  rfl
 .have hm:(qs.filter λn=>(((qs++[z]).zip us).lookup n).isNone)=[]:=by
   rw[List.filter_eq_nil_iff]
   intro n hn'
   have:=zc8 (n:=n) hl (vcq _ hn')
   cases q:((qs++[z]).zip us).lookup n with
   |none=>rw[q]at this;cases this
   |some v=>simp
  have hz:(((qs++[z]).zip us).lookup z).isNone=false:=by
   have:=zc8 (n:=z) hl (va6 _ (vat.mpr rfl))
   cases q:((qs++[z]).zip us).lookup z with
   |none=>rw[q]at this;cases this
   |some v=>rfl
  have hg:¬(us.length> (qs++[z]).length):=by omega
  simp only[Option.getD_some,zst,len_d,vej,List.take_left,List.drop_left,vek,hm,vaz hg,vb3,vap,vbl,List.isEmpty_nil,vck,vb0,List.zip_nil_right,vdm,vdg,hz,veu,zha hl hn]
theorem zme(ha:args.map (·.arg)=qs++[z])(hn:(qs++[z]).Nodup)(ho:s.heap.get? t=some o)(hd:o.data=.seq #[.none] n)(hl:us.length=qs.length) :
 BindsTo s (PySem.W.fnOf x qual ⟨[],args,none,[],[],none,df⟩ body sc (.ref t) kV doc pm an cdv ct) ⟨us,[]⟩ ((qs++[z]).zip (us++[.none])):=by
 apply BindsTo.of_defaults (items:=#[.none]) (n:=n) rfl ho hd
 .unfold bindArgs
  simp only[PySem.W.fnOf,vcc,vb4,vbc,vdg,veu,ha]
  rfl
 .have hm:(qs.filter λn=>((qs.zip us).lookup n).isNone)=[]:=by
   rw[List.filter_eq_nil_iff]
   intro n hn'
   have:=zc8 (n:=n) hl hn'
   cases q:(qs.zip us).lookup n with
   |none=>rw[q]at this;cases this
   |some v=>simp
  have hzq:z∉qs:=λh=>(vcu.mp hn).2.2 z h z (vat.mpr rfl) rfl
  have hz:((qs.zip us).lookup z).isNone=true:=by rw[zob hzq];rfl
  have hg:¬(us.length> (qs++[z]).length):=by rw[vaf];omega
  have hl2:(us++[Value.none]).length=(qs++[z]).length:=by rw[vaf,vaf,hl];rfl
  have ha2:=zha hl2 hn
  rw[zhb hl]at ha2
  simp only[Option.getD_some,zst,len_d,ziu hl,zhb hl,vej,List.take_left,List.drop_left,vek,hm,vaz hg,vb3,vap,vbl,List.isEmpty_nil,vck,vb0,List.zip_nil_right,vdm,vdg,hz,vbm,veu,ha2]
end
structure FunD(K:PySem.W.Frag)(x qual:Str)(st:Stmt)(f:Addr)(fd:FuncData):Prop where
 ex:∃(oc:Value) (od:Option Addr) (dV kV doc pm:Value) (an:Option Addr) (cdv ct:Value) (osl:Array (Option Value)),fd=PySem.W.fnOf x qual (zt5 st) (ze1 st) (zav st) dV kV doc pm an cdv ct/\K.lookup f=some ⟨oc,od,.func fd,osl⟩/\PySem.W.codeIn K cdv qual=true
 kp:PySem.W.keepIn K (.ref f)=true
theorem FunD.ok{P:Program}{w:World}{K:PySem.W.Frag}{mg:Str->Option Value}{base:Heap}{x qual:Str}{st:Stmt}{f:Addr}{fd:FuncData}{N ps:List Str}{k:Nat}{sp:Sp}(F:FunD K x qual st f fd)(S:FnScope N ps (zav st))(len:∀vs H Q E,sp vs H Q E->vs.length=ps.length)
 (hbody:∀(cdv:Value)(A:Around)(outer:List Env)(s:Shared)(H:Hp)(vs:List V)(Q:VK)(E:XK),Room k (A.deeper (envOfC qual (zav st) s.heap.objs.size f cdv))->sp vs H Q E->∃t,PSs (cxOf CX0 P w K mg base N qual (zav st) f cdv A outer s H E).nox (ze1 st) t/\t {nx:=λ_ H'=>Q .non H',rt:=Q} (start N vs) H):FnOk P w K mg base CX0 (k+1) f fd ps sp:=
 let⟨_,_,_,_,_,_,_,cdv,_,_,e,lk,hcd⟩:=F.ex
 by subst e;exact fn_of lk hcd S len λA outer s H vs Q E hr hsp=>let⟨t,h,q⟩:=hbody cdv A outer s H vs Q E hr hsp;⟨t,h.nox,q⟩
section
variable{K:PySem.W.Frag}{m m':Nat->Addr}{n n':Nat}{h h':VH}{H H':Hp}
mutual
theorem VRep.refsLt:∀{v:V} {w:W},VRep K m n H v w->W.lt n w=true
 |_,_,.non=>rfl
 |_,_,.bl _=>rfl
 |_,_,.int _=>rfl
 |_,_,.str _=>rfl
 |_,_,.tup _ r=>VReps.refsLt r
 |_,_,.fz _ r=>VReps.refsLt r
 |_,_,.ref q=>zao.mpr q
theorem VReps.refsLt:∀{vs:List V} {ws:List W},VReps K m n H vs ws->W.lts n ws=true
 |_,_,.nil=>rfl
 |_,_,.cons q r=>by
  show(W.lt n _&&W.lts n _)=true
  rw[VRep.refsLt q,VReps.refsLt r];rfl
end
mutual
theorem VRep.cut:∀{v:V} {w:W},VRep K m n' H v w->W.lt n w=true->VRep K m n H v w
 |_,_,.non,_=>.non
 |_,_,.bl b,_=>.bl b
 |_,_,.int b,_=>.int b
 |_,_,.str b,_=>.str b
 |_,_,.tup q r,e=>.tup q (VReps.cut r e)
 |_,_,.fz q r,e=>.fz q (VReps.cut r e)
 |_,_,.ref q,e=>.ref (zao.mp e)
theorem VReps.cut:∀{vs:List V} {ws:List W},VReps K m n' H vs ws->W.lts n ws=true->VReps K m n H vs ws
 |_,_,.nil,_=>.nil
 |_,_,.cons q r,e=>by
  have e:(W.lt n _&&W.lts n _)=true:=e
  rw[vab]at e
  exact .cons (VRep.cut q e.1) (VReps.cut r e.2)
end
theorem KReps.cut{m':Nat->Addr}{n1:Nat}:∀{vs us:List (Key×V)} {ws:List (Key×W)},KReps K m n' H vs ws->KReps K m' n H' us ws->KReps K m n H vs ws
 |_,_,_,.nil,_=>.nil
 |_,_,_,.cons q r,.cons q2 r2=>.cons (q.cut q2.refsLt) (KReps.cut (n1:=n1) r r2)
theorem zsu{lo:Nat}(r:Rel K m h H):Rel K m ⟨h.n,lo,h.os⟩ H:=⟨r.obj,r.inj,r.len⟩
theorem zk6(r:Rel K m h H)(s:Stp m h.n H m' h1.n H')(r1:Rel K m' h1 H')(q:VRep K m' h1.n H' v w)(g:Grow ⟨h.n,h.n,h.os⟩ h1)(e:leave h w h1=.ok w2 h2)(k:Wants K m h.n H w2 h2 Q):Q v H':=by
 unfold leave at e
 split at e
 .rename_i hc
  cases e
  rw[vab]at hc
  have hlo:=va9 hc.1
  refine k v H' m' ⟨vac _,s.same,λi a b=>absurd b (vch.mpr a),λi j a b=>absurd b (vch.mpr a),s.tup,s.frz,s.keep⟩ ⟨λi hi=>?_,λi j hi hj=>r1.inj i j (vak hi s.le) (vak hj s.le),r.len⟩ (q.cut hc.2)
  have hg:h1.get i=h.get i:=g.2.2 i hi (vak hi hlo)
  obtain⟨o,p1,p2⟩:=r1.obj i (vak hi s.le)
  rw[hg]at p1
  refine⟨o,p1,?_⟩
  have p3:=r.at_ p1
  cases o with
  |lst ws=>
   obtain⟨vs,a1,a2⟩:=p2
   obtain⟨us,b1,b2⟩:=p3
   exact⟨vs,a1,a2.cut b2.refsLt⟩
  |dk ws=>
   obtain⟨vs,a1,a2⟩:=p2
   obtain⟨us,b1,b2⟩:=p3
   exact⟨vs,a1,KReps.cut (n1:=0) a2 b2⟩
  |dt ks ws=>
   obtain⟨xs,a1,a0,a2,a3⟩:=p2
   obtain⟨us,b1,b0,b2,b3⟩:=p3
   exact⟨xs,a1,a0,a2.cut b2.refsLt,a3.cut b3.refsLt⟩
 .cases e
  exact k v H' m' s (zsu r1) q
theorem zre{N:List Str}(q:VReps K m n H vs ws):Fr K m n H (L2.start N vs) (ws.map some++List.replicate (N.length-ws.length) none):=by
 unfold L2.start
 refine⟨by simp[q.length],λi w e=>?_⟩
 by_cases hi:i<ws.length
 .rw[vci (by simpa using hi)]at e
  rw[vci (by simpa[q.length]using hi)]
  rw[vbf]at e ⊢
  cases z:ws[i]? with
  |none=>rw[z]at e;cases e
  |some w'=>
   rw[z]at e
   cases e
   obtain⟨v,h1,h2⟩:=q.get z
   exact⟨v,by rw[h1];rfl,h2⟩
 .rw[vbb (by simpa using vch.mp hi)]at e
  rw[List.getElem?_replicate]at e
  split at e<;>cases e
end
theorem zj5{k idx:Nat}(hF:F idx=some fn)(e:run F k idx ws h=.ok w h'):ws.length=fn.ps:=by
 cases k with
 |zero=>cases e
 |succ k=>
  simp only[run,hF]at e
  split at e
  .rename_i hl;exact vdo hl
  .cases e
theorem zsv{P:Program}{w:World}{K:PySem.W.Frag}{mg:Str->Option Value}{base:Heap}{F:Nat->Option Fn}{k idx:Nat}{fn:Fn}{x qual:Str}{st:Stmt}{f:Addr}{fd:FuncData}{N ps:List Str}(hF:F idx=some fn)(Fu:FunD K x qual st f fd)(S:FnScope N ps (zav st))
 (hn:fn.n=N.length) (hp:fn.ps=ps.length)
 (hbody:∀(cdv:Value)(A:Around)(outer:List Env)(s:Shared)(H:Hp)(E:XK),Room k (A.deeper (envOfC qual (zav st) s.heap.objs.size f cdv))->SSs (cxOf CX0 P w K mg base N qual (zav st) f cdv A outer s H E).nox (ze1 st) (exs (run F k) fn.body)) :
 FnOk P w K mg base CX0 (k+1) f fd ps (spV K ps.length (run F (k+1) idx)):=by
 refine Fu.ok S (λvs H Q E h=>h.1) λcdv A outer s H vs Q E hr hsp=>?_
 refine⟨_,hbody cdv A outer s H E hr,?_⟩
 obtain⟨hl,h,m,ws,w2,h2,r,q,e,k2⟩:=hsp
 have hws:=zj5 hF e
 simp only[run,hF]at e
 split at e
 .refine zac e λfl h1 e1 e2=>?_
  have g:=zio (ziq F k) _ _ _ _ _ e1
  have hN:fn.n-fn.ps=N.length-ws.length:=by rw[hn,hws]
  rw[hN]at e1
  refine⟨_,⟨h.n,h.n,h.os⟩,m,fl,h1,zre q,zsu r,e1,λH' m' s' r'=>?_⟩
  cases fl with
  |nx ρ=>exact λσ' f'=>zk6 r s' r' .non g e2 k2
  |rt w3=>exact λv q3=>zk6 r s' r' q3 g e2 k2
  |bk _=>cases e2
  |ct _=>cases e2
 .cases e
theorem zoc{P:Program}{w:World}{K:PySem.W.Frag}{mg:Str->Option Value}{base:Heap}{F:Nat->Option Fn}{idx:Nat}{f:Addr}{fd:FuncData}{ps:List Str}:FnOk P w K mg base CX0 0 f fd ps (spV K ps.length (run F 0 idx)):=
 ⟨λvs H Q E h=>h.1,λA outer s H args us vs Q E hr he hb hv hs=>by obtain⟨_,h,m,ws,w2,h2,r,q,e,k2⟩:=hs;cases e⟩
noncomputable def refAt(K:PySem.W.Frag)(x:Str):Option Addr:=(match PySem.W.nsIn K mainGlobals x with
 |some (some (.ref f))=>some f
 |_=>none)
theorem zk7{K:PySem.W.Frag}{x:Str}{f:Addr}(h:refAt K x=some f):PySem.W.nsIn K mainGlobals x=some (some (.ref f)):=by
 unfold refAt at h
 split at h
 .rename_i g e;cases h;exact e
 .cases h
end RF
namespace HT
open PySem PySem.Spec PyProof.Rows
section
variable{prog:Program}{w:World}{A:Around}{E:Value->Shared->Prop}{s:Shared}
theorem zmf(n:Nat):Builtin.Slice.slicePlaces ((n:Int)-1) (-1) (-1)=n:=by
 unfold Builtin.Slice.slicePlaces
 have h1:¬((-1:Int)>0):=by omega
 simp only[h1,vbl]
 show(if((n:Int)-1) > -1 then(((n:Int)-1) - -1-1)/ (- -1)+1 else 0).toNat=n
 rw[show(- (-1:Int))=1 from rfl,Int.ediv_one]
 split<;>omega
theorem zeh{sl:Addr}{n:Nat}{Q:Int×Int×Nat->Shared->Prop}(hs:s.heap.IsSliceOf sl .none .none vk)(pk:IsPart vk (some (-1)))
 (h:Q ((n:Int)-1,-1,n) s):wpAny (model prog w) A (Builtin.Slice.sliceApplied (.ref sl) (pure (n:Int))) Q E s:=by
 obtain⟨os,hos,hcs,hds⟩:=id hs
 unfold Builtin.Slice.sliceApplied Builtin.Slice.sliceFields
 refine vaa (vaa (vbw hos hds (x:=.none) rfl (vaa (vbw hos hds (x:=.none) rfl (vaa (vbw hos hds (x:=vk) rfl (vag ?_)))))))
 refine vaa (zbt pk ?_)
 show wpAny _ _ (if((-1:Int)==0)=true then _ else _) _ _ s
 rw[if_neg (by decide)]
 refine vaa (zbt .none (vaa (zbt .none (vaa (vag ?_)))))
 show wpAny _ _ (pure ((n:Int)-1,(-1:Int),Builtin.Slice.slicePlaces ((n:Int)-1) (-1) (-1))) _ _ s
 rw[zmf]
 exact vag h
theorem zrf(xs:Array Value):((List.range xs.size).filterMap λ(m:Nat)=>xs[(((xs.size:Int)-1)+ (m:Int)* (-1)).toNat]?).toArray=xs.toList.reverse.toArray:=by
 congr 1
 have e:∀(l:List Value),((List.range l.length).filterMap λ(m:Nat)=>l[(((l.length:Int)-1)+ (m:Int)* (-1)).toNat]?)=l.reverse:=by
  intro l
  refine List.ext_getElem? λi=>?_
  have hm:((List.range l.length).filterMap λ(m:Nat)=>l[(((l.length:Int)-1)+ (m:Int)* (-1)).toNat]?)=(List.range l.length).map λ(m:Nat)=>l.getD (l.length-1-m) .none:=by
   have key:∀ms:List Nat,(∀m∈ms,m<l.length)->(ms.filterMap λ(m:Nat)=>l[(((l.length:Int)-1)+ (m:Int)* (-1)).toNat]?)=ms.map λ(m:Nat)=>l.getD (l.length-1-m) .none:=by
    intro ms
    induction ms with
    |nil=>intro _;rfl
    |cons m r ih=>
     intro h
     have hm:=h m vam
     have e1:l[(((l.length:Int)-1)+ (m:Int)* (-1)).toNat]?=some (l.getD (l.length-1-m) .none):=by
      rw[show(((l.length:Int)-1)+ (m:Int)* (-1)).toNat=l.length-1-m by omega,vbz,vav (by omega)]
      rfl
     rw[vcf,e1,van,ih λx hx=>h x (vai _ hx)]
   exact key _ λm hm=>vea.mp hm
  rw[hm,vbf]
  by_cases hi:i<l.length
  .rw[List.getElem?_range hi,List.getElem?_reverse hi,vah,vbz,vav (by omega)]
   rfl
  .rw[vc3 (by rw[List.length_range];omega),vc3 (by rw[vdc];omega)]
   rfl
 have:=e xs.toList
 simp only[vcv,Array.getElem?_toList]at this
 exact this
theorem getItem_tuple_rev{t sl:Addr}{items:Array Value}{Q:Value->Shared->Prop}(ht:IsTup s.heap t items)(hs:s.heap.IsSliceOf sl .none .none vk)(pk:IsPart vk (some (-1)))
 (h:Q (.ref s.heap.objs.size) {s with heap:=s.heap.push {cls:=.type "tuple",data:=.seq items.toList.reverse.toArray}})
 (hsz:items.size<=sizeLine):wpAny (model prog w) A (getItem (.ref t) (.ref sl)) Q E s:=by
 have htake:sizeOk (.seq items.toList.reverse.toArray):=by
  show items.toList.reverse.toArray.size<=sizeLine
  rw[vao,vdc,vcv]
  exact hsz
 obtain⟨os,hos,hcs,hds⟩:=id hs
 have hTs:s.TypeIs (.ref sl) "slice":=⟨os,hos,hcs⟩
 unfold getItem
 try with_reducible refine vc1 ?_
 first|refine vaa (vag ?_)|skip
 refine vaa (wpAny_sequenceKey ht.typeIs (by decide) ?_)
 refine vaa (vbr (name:=Str.ofString "__getitem__") ht.typeIs va7
  (vb6 va7 ht.typeIs entry_tuple_getitem ?_ (args_tuple_getitem _ _)))
 show wpAny _ _ (Builtin.Tuple.tupleItemsOf (.ref t) >>= _) _ _ s
 refine vaa (tupleItemsOf_ ht ?_)
 refine vaa (vet hTs ?_)
 rw[if_pos (by decide)]
 refine vaa (zeh hs pk ?_)
 have hno:¬((((items.size:Int)-1)==0&& (-1:Int)==1&&items.size==items.size)=true):=by
  intro q
  rw[vab,vab]at q
  exact absurd q.1.2 (by decide)
 show wpAny _ _ (if(((items.size:Int)-1)==0&& (-1:Int)==1&&items.size==items.size)=true then _ else _) _ _ s
 rw[if_neg hno,zrf]
 first
  |exact vaa (m:=Builtin.Tuple.tupleExact _) (vbu (vag ⟨_,rfl,vag h⟩) htake)
  |exact vaa (m:=Builtin.Tuple.tupleExact _) (vbu (vaa (vag (vag ⟨_,rfl,vag h⟩))) htake)
  |exact vaa (vaa (m:=Builtin.Tuple.tupleExact _) (vbu (vag (vag ⟨_,rfl,vag h⟩)) htake))
  |exact vaa (vaa (m:=Builtin.Tuple.tupleExact _) (vbu (vag ⟨_,rfl,vag h⟩) htake))
end
end HT
namespace L2
open PySem PySem.Spec PyProof.Rows
section
variable{X:Cx}{e k:Expr}{te:TE}{tk:TO}{pos p2:Pos}
theorem zyx(he:PE X e te)(hk:PO X (some k) tk):PE X (.Subscript e (.Slice none none (some k) p2) pos) (λσ H Q=>te σ H λx H1=>tk σ H1 λo H2=>∃a xs,x=.ref a/\o=some (-1)/\SqT X.K H2 a xs/\∀p,H2 p=none->Q (.ref p) (upd H2 p (.tup xs.reverse))):=by
 intro pins s σ H Q I h
 refine Subscript_ (thn (he pins s σ H _ I h) λv s1 z9=>z9.el λx H1 I1 r1 q1=>?_)
 refine wpAny_Slice ?_
 rw[evalPart_none]
 refine vag (vag ?_)
 refine thn (hk pins s1 σ H1 _ I1 q1) λvk s2 hq0=>?_
 obtain⟨o,H2,I2,pk,q2⟩:=hq0
 obtain⟨a,xs,rfl,rfl,hx,q⟩:=q2
 cases r1
 have I4:Inv X pins σ H2 {s2 with heap:=s2.heap.push {cls:=.type "slice",data:=.fields #[.none,.none,vk]}}:=I2.kept (t':=s2.toks) λb ob q=>vae _ q
 obtain⟨its,r,ht,hz⟩:=I4.tuple hx
 have hlen:its.toArray.size=xs.length:=by rw[vao];exact r.length.symm
 show wpAny (model X.prog X.w) X.A (subscriptTail e (.Slice none none (some k) p2) (.ref a) (.ref s2.heap.objs.size)) (EP X pins σ Q) X.xe {s2 with heap:=s2.heap.push {cls:=.type "slice",data:=.fields #[.none,.none,vk]}}
 refine tail_any (ops:=[.ref a,.ref s2.heap.objs.size]) ht.typeIs va7.lookup ?_ (by with_unfolding_all rfl)
 refine HT.getItem_tuple_rev ht (Heap.IsSliceOf.new ..) pk ?_ (by rw[hlen];exact hz)
 refine⟨.ref _,_,I4.laid (t':=s2.toks) (o:=.tup xs.reverse) (λb ob q=>vae _ q) (vac _) ?_,rfl,q _ (I4.hok.fresh (vac _))⟩
 exact⟨by rw[vdc];exact hz,_,r.reverse,zbj.new _ _⟩
end
end L2
namespace RF
open PySem PySem.Spec PyProof.Rows L2
section
variable{X:Cx}{a k:Expr}{x y:E}{cl:Call}{pos p2:Pos}
theorem VReps.rev{K:PySem.W.Frag}{m:Nat->Addr}{n:Nat}{H:Hp}:∀{vs:List V} {ws:List W},VReps K m n H vs ws->VReps K m n H vs.reverse ws.reverse
 |_,_,.nil=>.nil
 |_,_,.cons q r=>by
  rw[vdq,vdq]
  exact r.rev.append (.cons q .nil)
theorem zyy(ha:SE X a (ev cl x))(hk:SE X k (ev cl y)):SE X (.Subscript a (.Slice none none (some k) p2) pos) (ev cl (.bi .rev (.cons x (.cons y .nil)))):=
 (zyx ha (zn0 hk)).imp λσ H Q z9=>z9.el λρ h m w h' f r e k=>by
   refine zac e λz h1 e1 e2=>?_
   refine zac e1 λu h2 e3 e4=>?_
   refine zac e4 λu2 h3 e5 e6=>?_
   refine zac e5 λu3 h4 e7 e8=>?_
   refine zac e8 λu4 h5 e9 e10=>?_
   cases e9
   cases e10
   cases e6
   have e2:revW [u,u3] h1=.ok w h':=e2
   unfold revW at e2
   split at e2
   .rename_i ws hq
    cases hq
    cases e2
    refine(.mk f r e3 λv H1 m1 s1 r1 q1=>(.mk (f.stp s1) r1 e7 rfl λH2 m2 s2 r2=>?_))
    cases q1.stp s2 with
    | @tup a vs _ sq rs=>
     exact⟨_,_,rfl,rfl,sq,λp hp=>Wants.tuple (λv' H' m' s' r' q'=>k v' H' m' ((s1.trans s2).trans s') r' q') r2 rs.rev hp⟩
   .cases e2
end
set_option genInjectivity false in
structure CC where
 N:List Str
 names:List (Str×NameKind)
 fnAll:Bool
noncomputable def zea:List Str->Str->Nat->Option Nat
 |[],_,_=>none
 |y::r,x,i=>if y==x then some i else zea r x (i+1)
theorem ziv:∀{N:List Str} {x:Str} {k i:Nat},zea N x k=some i->∃j,i=k+j/\N[j]?=some x
 |[],_,_,_,e=>by cases e
 |y::r,x,k,i,e=>by
  unfold zea at e
  split at e
  .rename_i h
   cases e
   exact⟨0,rfl,by simpa using h⟩
  .obtain⟨j,h1,h2⟩:=ziv e
   exact⟨j+1,by omega,by simpa using h2⟩
theorem zod{N:List Str}{x:Str}{i:Nat}(e:zea N x 0=some i):N[i]?=some x:=by
 obtain⟨j,h1,h2⟩:=ziv e
 rw[show i=j by omega];exact h2
noncomputable def visK:Option NameKind->Bool
 |some .local|some .cell|some .free=>true
 |_=>false
noncomputable def locK(all:Bool):Option NameKind->Bool
 |some .local=>true
 |some .cell=>all
 |_=>false
noncomputable def okN(x:Str):Bool:=!(x==("__debug__" : Str)) && !(x==("__classdict__" : Str)) && !(x==("__name__" : Str)) && !(x==("" : Str))
theorem zyz{x:Str}(h:okN x=true):x≠"":=by
 unfold okN at h
 simp only[vab,Bool.not_eq_true']at h
 exact λz=>by rw[z]at h;simp at h
theorem zf9{x:Str}(h:okN x=true):(x==("__debug__" : Str))=false/\(x==("__classdict__" : Str))=false/\x≠"__name__":=by
 unfold okN at h
 simp only[vab,Bool.not_eq_true']at h
 exact⟨h.1.1.1,h.1.1.2,λz=>by rw[z]at h;simp at h⟩
noncomputable def cstW(K:PySem.W.Frag):Nat->Value->Option W
 |0,_=>none
 |n+1,v=>match v with
  |.none=>some .non
  |.bool b=>some (.bl b)
  |.int i _=>some (.int i)
  |.str x _=>some (.str x)
  |.ref a=>(match K.lookup a with
   |some o=>(match o.cls,o.dict,o.data with
    |.type t,none,.seq its _=>if t == "tuple" && Nat.ble its.size 1000 then(mapO (cstW K n) its.toList).map .tup else none
    |_,_,_=>none)
   |none=>none)
  |_=>none
theorem zoe{K:PySem.W.Frag}{f:Value->Option W}(ih:∀v w,f v=some w->∃x,RelV x v/\∀m n H,VRep K m n H x w):∀{us:List Value} {ws:List W},mapO f us=some ws->∃xs,Vals xs us/\∀m n H,VReps K m n H xs ws
 |[],_,e=>by cases e;exact⟨[],.nil,λ_ _ _=>.nil⟩
 |u::us,ws,e=>by
  unfold mapO at e
  split at e
  .rename_i b hb
   split at e
   .rename_i bs hbs
    cases e
    obtain⟨x,h1,h2⟩:=ih u b hb
    obtain⟨xs,h3,h4⟩:=zoe ih hbs
    exact⟨x::xs,.cons h1 h3,λm n H=>.cons (h2 m n H) (h4 m n H)⟩
   .cases e
  .cases e
theorem zsw{K:PySem.W.Frag}:∀(n:Nat) (v:Value) (w:W),cstW K n v=some w->∃x,RelV x v/\∀m n H,VRep K m n H x w
 |0,_,_,e=>by cases e
 |n+1,v,w,e=>by
  unfold cstW at e
  split at e
  .cases e;exact⟨.non,rfl,λ_ _ _=>.non⟩
  .cases e;exact⟨.bl _,rfl,λ_ _ _=>.bl _⟩
  .cases e;exact⟨.int _,⟨_,rfl⟩,λ_ _ _=>.int _⟩
  .cases e;exact⟨.str _,⟨_,rfl⟩,λ_ _ _=>.str _⟩
  .rename_i a
   split at e
   .rename_i o ho
    split at e
    .rename_i t its nn hc hdd hd
     split at e
     .rename_i hz
      rw[vab]at hz
      have ht:t = "tuple":=by simpa using hz.1
      subst ht
      cases z:mapO (cstW K n) its.toList with
      |none=>rw[z]at e;cases e
      |some ws=>
       rw[z]at e
       cases e
       obtain⟨xs,h3,h4⟩:=zoe (zsw n) z
       exact⟨.ref a,rfl,λm n H=>.tup (.inr ⟨o,its,nn,ho,hc,hdd,hd,veb (zih (va9 hz.2)),h3⟩) (h4 m n H)⟩
     .cases e
    .cases e
   .cases e
  .cases e
noncomputable def cL(f:Expr->Option E):List Expr->Option E
 |[]=>some .nil
 |e::es=>match f e,cL f es with
  |some a,some r=>some (.cons a r)
  |_,_=>none
noncomputable def fnAt(K:PySem.W.Frag)(x:Str):Option (Addr×Obj×FuncData):=match refAt K x with
 |some f=>(match K.lookup f with
  |some o=>(match o.data with
   |.func fd=>some (f,o,fd)
   |_=>none)
  |none=>none)
 |none=>none
noncomputable def zbl:Arguments->Option (List Arg)
 |⟨[],args,none,[],[],none,_⟩=>some args
 |_=>none
noncomputable def isNone:Value->Bool
 |.none=>true
 |_=>false
noncomputable def zhc:Data->Bool
 |.seq xs _=>(match xs.toList with
  |[v]=>isNone v
  |_=>false)
 |_=>false
noncomputable def noneD(K:PySem.W.Frag):Value->Bool
 |.ref t=>(match K.lookup t with
  |some o=>zhc o.data
  |none=>false)
 |_=>false
noncomputable def ze9(K:PySem.W.Frag)(x:Str)(n:Nat):Bool:=match fnAt K x with
 |some (_,_,fd)=>noneD K fd.defaults&&Nat.beq (n+1) fd.params.args.length
 |none=>false
noncomputable def hasD(K:PySem.W.Frag)(x:Str):Bool:=match fnAt K x with
 |some (_,_,fd)=>noneD K fd.defaults
 |none=>false
theorem zmg{K:PySem.W.Frag}{x:Str}{n:Nat}(h:ze9 K x n=true):hasD K x=true:=by
 unfold ze9 at h
 unfold hasD
 split at h
 .rw[vab]at h;exact h.1
 .cases h
noncomputable def padE:E->E
 |.nil=>.cons (.cst .non) .nil
 |.cons a r=>.cons a (padE r)
 |e=>e
noncomputable def argsE:E->Bool
 |.nil=>true
 |.cons _ r=>argsE r
 |_=>false
theorem zy0:∀{a:E},argsE a=true->∀(ρ:En) (h:VH),ev cl (padE a) ρ h=(ev cl a ρ h).bind λy h=>match y with|.tup ys=>.ok (.tup (ys++[.non])) h|_=>.no:=by
 intro a
 induction a with
 |nil=>intro _ ρ h;rfl
 |cons x r _ ih=>
  intro ha ρ h
  have ih:=ih ha
  simp only[padE,ev]
  cases ev cl x ρ h with
  |no=>rfl
  |ex _ _=>rfl
  |ok w h1=>
   show Res.bind (ev cl (padE r) ρ h1) _=Res.bind (Res.bind (ev cl r ρ h1) _) _
   rw[ih]
   cases ev cl r ρ h1 with
   |no=>rfl
   |ex _ _=>rfl
   |ok y h2=>cases y<;>rfl
 |_=>intro ha;cases ha
theorem zof{f:Expr->Option E}:∀{es:List Expr} {a:E},cL f es=some a->argsE a=true
 |[],_,h=>by cases h;rfl
 |e::es,a,h=>by
  unfold cL at h
  split at h
  .rename_i x r h1 h2
   cases h
   show argsE r=true
   exact zof h2
  .cases h
noncomputable def cPs(f:Expr->Option E):List (Option Expr)->List Expr->Option E
 |[],[]=>some .nil
 |some k::ks,v::vs=>match f k,f v,cPs f ks vs with
  |some a,some b,some r=>some (.cons a (.cons b r))
  |_,_,_=>none
 |_,_=>none
noncomputable def cB(and:Bool)(f:Expr->Option E):List Expr->Option E
 |[]=>none
 |[a]=>f a
 |a::b::r=>match f a,cB and f (b::r)with
  |some x,some y=>some (if and then .and x y else .or x y)
  |_,_=>none
noncomputable def cO(f:Expr->Option E):Option Expr->Option (Bool×E)
 |none=>some (false,.cst .non)
 |some e=>(f e).map λc=>(true,c)
noncomputable def zga(K:PySem.W.Frag)(C:CC)(x:Str):Bool:=C.names.lookup x==some .globalImplicit&& (match PySem.W.nsIn K mainGlobals x with|some none=>true|_=>false)
noncomputable def tyOf(x:Str):Option Ty:=
 if x==("int" : Str)then some .int else if x==("bool" : Str)then some .bool else if x==("tuple" : Str)then some .tuple else if x==("list" : Str)then some .list else if x==("str" : Str)then some .str else if x==("dict" : Str)then some .dict else none
noncomputable def lrOf(f:Str)(args:List Expr):Option Expr:=if f==("list" : Str)then(match args with
 |[.Call (.Name g _) [a] [] _]=>if g==("range" : Str)then some a else none
 |_=>none)else none
noncomputable def biOf(x:Str):Option Bi:=
 if x==("len" : Str)then some .len else if x==("list" : Str)then some .list else if x==("tuple" : Str)then some .tuple else if x==("int" : Str)then some .int else if x==("abs" : Str)then some .abs else if x==("min" : Str)then some .min else if x==("all" : Str)then some .all else none
noncomputable def zsx:Expr->Bool
 |.Tuple ..=>true
 |_=>false
noncomputable def okW:Kd->Expr->Bool
 |.enm,t=>zsx t
 |.zip,t=>zsx t
 |_,_=>true
noncomputable def nmIx(C:CC):Expr->Option Nat
 |.Name x _=>if okN x&&locK C.fnAll (C.names.lookup x)then zea C.N x 0 else none
 |_=>none
noncomputable def cTg(C:CC):Expr->Option Tg
 |.Name x p=>(nmIx C (.Name x p)).map .one
 |.Tuple es _ _=>(mapO (nmIx C) es).map .many
 |_=>none
noncomputable def ownOf(sc:Scope):List Str:=(sc.names.filter λy=>y.2 == .local && !(y.1==(".0" : Str))).map (·.1)
noncomputable def zbf(sc:Scope):List Str:=(sc.names.filter λy=>y.2 == .free).map (·.1)
noncomputable def zfa(C:CC)(sc:Scope)(ix:List Nat):Bool:=
 decide (sc.kind=.function)&&sc.names.all (λy=>decide (y.2≠.cell))&&sc.names.all (λy=>decide (y.2=.local->sc.names.lookup y.1=some .local)) &&
 (ownOf sc).all (λx=>decide (sc.names.lookup x=some .local))&&sc.names.all (λy=>decide (y.2=.free->C.names.lookup y.1=some .cell\/C.names.lookup y.1=some .free))&&decide (ix.length=(zbf sc).length) &&
 ((List.range (zbf sc).length).all λk=>match(zbf sc)[k]?,ix[k]? with
   |some x,some j=>decide (C.N[j]?=some x)&&decide (sc.names.lookup x=some .free)
   |_,_=>false)&&decide (ownOf sc++zbf sc).Nodup
noncomputable def inC(sc:Scope):CC:=⟨ownOf sc++zbf sc,sc.names,false⟩
mutual
noncomputable def cE(K:PySem.W.Frag)(T:List Str):Nat->CC->Expr->Option E
 |0,_,_=>none
 |n+1,C,e=>match e with
  |.Name x _=>if okN x then(if visK (C.names.lookup x)then(zea C.N x 0).map .var
   else if C.names.lookup x==some .globalImplicit then(match PySem.W.nsIn K mainGlobals x with
    |some (some v)=>(cstW K 8 v).map .cst
    |_=>none)else none)else none
  |.Constant c _ _=>(match c with
   |.int i=>some (.cst (.int i))
   |.bool b=>some (.cst (.bl b))
   |.none=>some (.cst .non)
   |.str x=>some (.cst (.str x))
   |_=>none)
  |.Tuple es _ _=>(cL (cE K T n C) es).map .tup
  |.List es _=>(cL (cE K T n C) es).map .lst
  |.Dict ks vs _=>if Nat.ble ks.length 15&&Nat.beq ks.length vs.length&&ks.all (·.isSome)then(cPs (cE K T n C) ks vs).map .dsp else none
  |.BinOp a O b _=>(match opOf O,cE K T n C a,cE K T n C b with
   |some o,some x,some y=>some (.op o x y)
   |_,_,_=>none)
  |.UnaryOp o a _=>(match o with
   |.Not=>(cE K T n C a).map .not
   |.USub=>(cE K T n C a).map .neg
   |_=>none)
  |.BoolOp o es _=>(match o with
   |.And=>cB true (cE K T n C) es
   |.Or=>cB false (cE K T n C) es)
  |.Compare a Os bs _=>(match Os,bs with
   |[O],[b]=>if zcq b then(match cpOf O,cE K T n C a,cE K T n C b with
   |some c,some x,some y=>some (.cmp c x y)
   |_,_,_=>none)else none
   |[O,O'],[b,c]=>if zcq c then(match cpOf O,cpOf O',cE K T n C a,cE K T n C b,cE K T n C c with
   |some o,some o',some x,some y,some z=>some (.chn o o' x y z)
   |_,_,_,_,_=>none)else none
   |_,_=>none)
  |.IfExp c a b _=>(match cT K T n C c,cE K T n C a,cE K T n C b with
   |some z,some x,some y=>some (.ite z x y)
   |_,_,_=>none)
  |.Subscript a b _=>(match b with
   |.Slice lo hi st _=>(match st with
    |none=>(match cE K T n C a,cO (cE K T n C) lo,cO (cE K T n C) hi with
   |some x,some (bl,l),some (bh,u)=>some (.slc x bl l bh u)
   |_,_,_=>none)
    |some s=>(match lo,hi with
     |none,none=>(match cE K T n C a,cE K T n C s with
      |some x,some y=>some (.bi .rev (.cons x (.cons y .nil)))
      |_,_=>none)
     |_,_=>none))
   |b=>if zb1 b then(match cE K T n C a,cE K T n C b with
   |some x,some y=>some (.idx x y)
   |_,_=>none)else none)
  |.Call fn args kw pos=>(match kw with
   |[]=>(match fn with
    |.Name f _=>if okN f&&C.names.lookup f==some .globalImplicit then(match PySem.W.nsIn K mainGlobals f with
     |some none=>if f==("isinstance" : Str)then(match args with
      |[a,.Name t _]=>(match tyOf t,cE K T n C a with
       |some ty,some x=>if okN t&&zga K C t then some (.isi ty x)else none
       |_,_=>none)
      |_=>none)
      else(match biOf f,args with
       |some b,_::_=>(cL (cE K T n C) args).map (.bi b)
       |_,_=>none)
     |some (some _)=>(match zea T f 0 with
      |some i=>if ze9 K f args.length && !args.isEmpty then(cL (cE K T n C) args).map (λa=>.call i (padE a))else(cL (cE K T n C) args).map (.call i)
      |none=>none)
     |none=>none)else none
    |.Attribute o mth ap=>if zj2 o&& (ap.endLine==pos.line)then(match cE K T n C o,args with
     |some x,[a]=>if mth==("append" : Str)then(cE K T n C a).map λy=>.mt .append x (.cons y .nil)else none
     |_,_=>none)else none
    |_=>none)
   |_=>none)
  |.ListComp elt gs sc _=>(match gs with
   |[⟨tg,iter,ifs,0⟩]=>(match mapO (λx=>zea C.N x 0) (zbf sc)with
    |some ix=>if zfa C sc ix then(match cW K T n C iter,cTg (inC sc) tg,(match ifs with|[]=>some (.cst (.bl true))|[c]=>cT K T n (inC sc) c|_=>none),cE K T n (inC sc) elt with
     |some (kd,a),some t,some c,some e=>if okW kd tg then some (.lc kd a t (ownOf sc).length ix c e)else none
     |_,_,_,_=>none)else none
    |none=>none)
   |_=>none)
  |_=>none
noncomputable def cT(K:PySem.W.Frag)(T:List Str):Nat->CC->Expr->Option E
 |0,_,_=>none
 |n+1,C,e=>match e with
  |.Compare a Os bs _=>(match Os,bs with
   |[O],[b]=>if zcq b then(match cpOf O,cE K T n C a,cE K T n C b with
   |some c,some x,some y=>some (.cmp c x y)
   |_,_,_=>none)else none
   |[O,O'],[b,c]=>if zcq c then(match cpOf O,cpOf O',cE K T n C a,cE K T n C b,cE K T n C c with
   |some o,some o',some x,some y,some z=>some (.chn o o' x y z)
   |_,_,_,_,_=>none)else none
   |_,_=>none)
  |.UnaryOp o a _=>(match o with
   |.Not=>(cT K T n C a).map .not
   |_=>none)
  |.BoolOp o es _=>(match o with
   |.And=>cB true (cT K T n C) es
   |.Or=>cB false (cT K T n C) es)
  |.Name x p=>(cE K T n C (.Name x p)).map .tru
  |.Call f as ks p=>(cE K T n C (.Call f as ks p)).map .tru
  |.Subscript a b p=>(cE K T n C (.Subscript a b p)).map .tru
  |_=>none
noncomputable def cW(K:PySem.W.Frag)(T:List Str):Nat->CC->Expr->Option (Kd×E)
 |0,_,_=>none
 |n+1,C,e=>match e with
  |.Call (.Name f p) args [] pos=>if f==("range" : Str)then(if zga K C f then(match args with
   |[a]=>(cE K T n C a).map λx=>(.rng1,.cons x .nil)
   |_=>none)else none)
   else if f==("enumerate" : Str)then(if zga K C f then(match args with
    |[a]=>(cE K T n C a).map λx=>(.enm,x)
    |_=>none)else none)
   else if f==("zip" : Str)then(if zga K C f then(match args with
    |[a,b]=>(match cE K T n C a,cE K T n C b with
     |some x,some y=>some (.zip,.cons x (.cons y .nil))
     |_,_=>none)
    |_=>none)else none)
   else(cE K T n C (.Call (.Name f p) args [] pos)).map λx=>(.seq,x)
  |.Set ..=>none
  |e=>(cE K T n C e).map λx=>(.seq,x)
end
noncomputable def cSs(f:Stmt->Option S):List Stmt->Option S
 |[]=>some .skip
 |s::r=>match f s,cSs f r with
  |some a,some b=>some (.seq a b)
  |_,_=>none
noncomputable def subs2:List Expr->Option ((Expr×Expr×Pos)× (Expr×Expr×Pos))
 |[.Subscript o i p,.Subscript o2 i2 p2]=>some ((o,i,p),(o2,i2,p2))
 |_=>none
noncomputable def cSw(c:Expr->Option E)(ts:List Expr)(e:Expr):Option S:=match subs2 ts with
 |some (a,b)=>if zb1 a.2.1&&zb1 b.2.1 then(match c a.1,c a.2.1,c b.1,c b.2.1,c e with
  |some x,some y,some u,some v,some z=>some (.sw x y u v z)
  |_,_,_,_,_=>none)else none
 |none=>none
noncomputable def cS(K:PySem.W.Frag)(T:List Str)(d:Nat):Nat->CC->Stmt->Option S
 |0,_,_=>none
 |n+1,C,s=>match s with
  |.Pass _=>some .skip
  |.Break _=>some .brk
  |.Continue _=>some .cnt
  |.Raise ..=>some .no
  |.Return r _=>(match r with
   |none=>some (.ret (.cst .non))
   |some e=>(cE K T d C e).map .ret)
  |.Expr e _=>if zk3 e then(cE K T d C e).map .expr else none
  |.Assign l e _=>(match l with
   |[t]=>(match t with
    |.Name x p=>(match nmIx C (.Name x p),cE K T d C e with
    |some i,some c=>some (.set i c)
    |_,_=>none)
    |.Tuple ts _ _=>if noTup e then(match mapO (nmIx C) ts,cE K T d C e with
    |some is,some c=>some (.unp is c)
    |_,_=>none)else cSw (cE K T d C) ts e
    |.Subscript o i _=>if zb1 i then(match cE K T d C o,cE K T d C i,cE K T d C e with
    |some x,some y,some z=>some (.put x y z)
    |_,_,_=>none)else none
    |_=>none)
   |_=>none)
  |.AugAssign t O e _=>(match t with
   |.Name x p=>(match nmIx C (.Name x p),ipOf O,cE K T d C e with
    |some i,some o,some c=>some (.aug i o c)
    |_,_,_=>none)
   |_=>none)
  |.If c a b _=>(match cT K T d C c,cSs (cS K T d n C) a,cSs (cS K T d n C) b with
   |some z,some x,some y=>some (.ite z x y)
   |_,_,_=>none)
  |.For tg it b el _=>(match el with
   |[]=>(match cW K T d C it,cTg C tg,cSs (cS K T d n C) b with
    |some (kd,a),some t,some x=>if okW kd tg then some (.for kd a t x)else none
    |_,_,_=>none)
   |_=>none)
  |.While c b el _=>(match el with
   |[]=>(match cT K T d C c,cSs (cS K T d n C) b with
    |some z,some x=>some (.whl z x)
    |_,_=>none)
   |_=>none)
  |_=>none
structure XOk(X:Cx)(C:CC)(T:List Str)(F:Nat->Option Fn)(k:Nat):Prop where
 hN:X.N=C.N
 nd:C.N.Nodup
 vis:∀x,visK (C.names.lookup x)=true->Vis X.env.scope x
 loc:∀x,locK C.fnAll (C.names.lookup x)=true->Loc X.env.scope x/\(X.fn x=true\/X.env.scope.names.lookup x=some .local)
 gl:∀x,C.names.lookup x=some .globalImplicit->Gl X x
 cf:∀x,(C.names.lookup x=some .cell\/C.names.lookup x=some .free)->X.env.kindOf x=some .cell\/X.env.kindOf x=some .free
 calm:X.calm=true
 room:Room k X.A
 xe:X.xe=λ_ _=>False
 kfn:X.env.scope.kind=.function
 mgs:∀x v,PySem.W.nsIn X.K mainGlobals x=some (some v)->X.mg x=some v
 mgn:∀x,PySem.W.nsIn X.K mainGlobals x=some none->X.mg x=none
 fns:∀(i:Nat)(x:Str),T[i]?=some x->x≠""->∃f fd ps fn,refAt X.K x=some f/\FnOk X.prog X.w X.K X.mg X.base CX0 k f fd ps (spV X.K ps.length (run F k i))/\PySem.W.keepIn X.K (.ref f)=true/\Binds X.K fd ps []/\F i=some fn/\fn.ps=ps.length/\(hasD X.K x=true->Binds X.K fd ps [.none])
section
variable{X:Cx}{C:CC}{T:List Str}{F:Nat->Option Fn}{k:Nat}
theorem XOk.u65(O:XOk X C T F k):X.A.units+65<cLine:=by have:=O.room.un;omega
theorem XOk.u2(O:XOk X C T F k):X.A.units+2<cLine:=vbv (vdz (by decide:2<=64) _) O.room.units
theorem zc9(O:XOk X C T F k){x:Str}(h:zga X.K C x=true):Gl X x/\X.mg x=none:=by
 unfold zga at h
 rw[vab]at h
 refine⟨O.gl x (by simpa using h.1),O.mgn x ?_⟩
 have h2:=h.2
 split at h2
 .assumption
 .cases h2
theorem nm_ok(O:XOk X C T F k){i:Nat}(h:nmIx C e=some i):NmOk X e i:=by
 unfold nmIx at h
 split at h
 .split at h
  .rename_i hc
   rw[vab]at hc
   obtain⟨h1,h2⟩:=O.loc _ hc.2
   exact⟨_,_,rfl,by rw[O.hN];exact zod h,h1,h2⟩
  .cases h
 .cases h
theorem zog(O:XOk X C T F k):∀{es:List Expr} {is:List Nat},mapO (nmIx C) es=some is->Paired (NmOk X) es is
 |[],_,h=>by cases h;exact .nil
 |e::es,is,h=>by
  unfold mapO at h
  split at h
  .rename_i b hb
   split at h
   .rename_i bs hbs
    cases h
    exact .cons (nm_ok O hb) (zog O hbs)
   .cases h
  .cases h
theorem tg_ok(O:XOk X C T F k)(h:cTg C e=some t):PG X e (lftG X.K t):=by
 unfold cTg at h
 split at h
 .rename_i x p
  cases z:nmIx C (.Name x p)with
  |none=>rw[z]at h;cases h
  |some i=>
   rw[z]at h;cases h
   obtain⟨x',p',e,h1,h2,h3⟩:=nm_ok O z
   cases e
   exact zyi (O.hN▸O.nd) h1 h2 h3
 .rename_i es kx p
  cases z:mapO (nmIx C) es with
  |none=>rw[z]at h;cases h
  |some is=>rw[z]at h;cases h;exact zn5 O.calm (O.hN▸O.nd) (zog O z)
 .cases h
theorem cL_ok{f:Expr->Option E}(ih:∀e c,f e=some c->SE X e (ev cl c)/\za4 e=true):∀{es:List Expr} {c:E},cL f es=some c->SA X es (ev cl c)/\es.all za4=true
 |[],_,h=>by cases h;exact⟨zny,rfl⟩
 |e::es,c,h=>by
  unfold cL at h
  split at h
  .rename_i a r ha hr
   cases h
   obtain⟨h1,h2⟩:=ih e a ha
   obtain⟨h3,h4⟩:=cL_ok ih hr
   exact⟨zg5 h1 h3 (zap h2),by rw[vcs,h2,h4];rfl⟩
  .cases h
theorem zsy{f:Expr->Option E}(ih:∀e c,f e=some c->SE X e (ev cl c)/\za4 e=true):∀{ks:List (Option Expr)} {vs:List Expr} {c:E},cPs f ks vs=some c->SPs X pos ks vs (ev cl c)
 |[],[],_,h=>by cases h;exact zup
 |[],_::_,_,h=>by cases h
 |none::_,_,_,h=>by cases h
 |some _::_,[],_,h=>by cases h
 |some a::ks,v::vs,c,h=>by
  unfold cPs at h
  split at h
  .rename_i x y r hx hy hr
   cases h
   exact zq5 (ih _ _ hx).1 (ih _ _ hy).1 (zsy ih hr)
  .cases h
theorem cB_ok{f:Expr->Option E}(ih:∀e c,f e=some c->SE X e (ev cl c)/\za4 e=true):∀{es:List Expr} {c:E},(cB true f es=some c->SE X (.BoolOp .And es pos) (ev cl c))/\(cB false f es=some c->SE X (.BoolOp .Or es pos) (ev cl c))
 |[],_=>⟨(λh=>nomatch h),(λh=>nomatch h)⟩
 |[a],c=>⟨λh=>zsm (ih a c h).1,λh=>zsm (ih a c h).1⟩
 |a::b::r,c=>by
  refine⟨λh=>?_,λh=>?_⟩
  .unfold cB at h
   split at h
   .rename_i x y hx hy
    cases h
    exact zxw (ih a x hx).1 ((cB_ok ih).1 hy)
   .cases h
  .unfold cB at h
   split at h
   .rename_i x y hx hy
    cases h
    exact se_or (ih a x hx).1 ((cB_ok ih).2 hy)
   .cases h
theorem zk8{f:Expr->Option E}(ih:∀e c,f e=some c->ST X e (ev cl c)):∀{es:List Expr} {c:E},(cB true f es=some c->SW X (.BoolOp .And es pos) (ev cl c))/\(cB false f es=some c->SW X (.BoolOp .Or es pos) (ev cl c))
 |[],_=>⟨(λh=>nomatch h),(λh=>nomatch h)⟩
 |[a],c=>⟨λh=>zsl (ih a c h),λh=>zsl (ih a c h)⟩
 |a::b::r,c=>by
  refine⟨λh=>?_,λh=>?_⟩
  .unfold cB at h
   split at h
   .rename_i x y hx hy
    cases h
    exact zxv (ih a x hx) ((zk8 ih).1 hy)
   .cases h
  .unfold cB at h
   split at h
   .rename_i x y hx hy
    cases h
    exact sw_or (ih a x hx) ((zk8 ih).2 hy)
   .cases h
theorem cO_ok{f:Expr->Option E}(ih:∀e c,f e=some c->SE X e (ev cl c)/\za4 e=true){o:Option Expr}{b:Bool}(h:cO f o=some (b,c)):PO X o (lftO X.K b (ev cl c)):=by
 unfold cO at h
 split at h
 .cases h;exact zum
 .rename_i e
  cases z:f e with
  |none=>rw[z]at h;cases h
  |some c'=>rw[z]at h;cases h;exact zn0 (ih _ _ z).1
theorem zuz{x:Str}{t:Ty}(h:tyOf x=some t):bootBuiltins x=some (.type (tyN t)):=by
 unfold tyOf at h
 split at h
 .rename_i e;cases h;rw[show x = "int" by simpa using e];exact PyProof.Rows.boot_int
 split at h
 .rename_i e;cases h;rw[show x = "bool" by simpa using e];decide +kernel
 split at h
 .rename_i e;cases h;rw[show x = "tuple" by simpa using e];exact PyProof.Rows.boot_tuple
 split at h
 .rename_i e;cases h;rw[show x = "list" by simpa using e];exact PyProof.Rows.boot_list
 split at h
 .rename_i e;cases h;rw[show x = "str" by simpa using e];decide +kernel
 split at h
 .rename_i e;cases h;rw[show x = "dict" by simpa using e];decide +kernel
 .cases h
theorem bi_ok{x:Str}{b:Bi}(h:biOf x=some b)(hg:Gl X x)(hm:X.mg x=none)(hn:okN x=true)(hc:X.calm=true)(ha:SA X (e::es) fa)(hs:(e::es).all za4=true):SE X (.Call (.Name x p) (e::es) [] pos) (gArg fa (biW b)):=by
 obtain⟨n1,_,n2⟩:=zf9 hn
 unfold biOf at h
 split at h
 .rename_i z
  cases h
  have z:x = "len":=by simpa using z
  subst z
  exact zen (zic.or znx) zx1 hg hm PySem.boot_len ha hs n2 n1
 split at h
 .rename_i z
  cases h
  have z:x = "list":=by simpa using z
  subst z
  exact ze8 zid zun hg hm PyProof.Rows.boot_list ha hs n2 n1
 split at h
 .rename_i z
  cases h
  have z:x = "tuple":=by simpa using z
  subst z
  exact ze8 zg0 zq3 hg hm PyProof.Rows.boot_tuple ha hs n2 n1
 split at h
 .rename_i z
  cases h
  have z:x = "int":=by simpa using z
  subst z
  exact ze8 zm8 zx2 hg hm PyProof.Rows.boot_int ha hs n2 n1
 split at h
 .rename_i z
  cases h
  have z:x = "abs":=by simpa using z
  subst z
  exact zen zqf zx3 hg hm (by decide +kernel) ha hs n2 n1
 split at h
 .rename_i z
  cases h
  have z:x = "min":=by simpa using z
  subst z
  exact zen (zm7 hc) zx4 hg hm (by decide +kernel) ha hs n2 n1
 split at h
 .rename_i z
  cases h
  have z:x = "all":=by simpa using z
  subst z
  exact zen (zqy hc) zx5 hg hm (by decide +kernel) ha hs n2 n1
 .cases h
theorem zmh(h:zb1 b=true):zjs b:=λo i=>by cases b<;>first|rfl|cases h
end
section
variable{X:Cx}{C:CC}{T:List Str}{F:Nat->Option Fn}{k:Nat}
theorem za7{env:Env}{kd:NameKind}(hk:kd≠.free):∀{l:List (Str×NameKind)} {x:Str},l.lookup x=some kd->
 (l.map λ(n,k)=>if(k==NameKind.free&&env.scope.kind == .function&&env.kindOf n==some .cell)then(n,NameKind.cell)else(n,k)).lookup x=some kd
 |[],_,h=>by cases h
 |(n,j)::r,x,h=>by
  rw[van]
  simp only[va8]at h
  by_cases hx:(x==n)=true
  .simp only[hx]at h
   cases h
   have:(kd==NameKind.free)=false:=by simpa using hk
   simp only[this,vb3,vap,vbl,va8,hx]
  .have hx':(x==n)=false:=by simpa using hx
   simp only[hx']at h
   have ih:=za7 (env:=env) hk (l:=r) (x:=x) h
   by_cases hc':(j==NameKind.free&&env.scope.kind == .function&&env.kindOf n==some .cell)=true
   .simp only[hc',vbm,va8,hx'];exact ih
   .have hcf:(j==NameKind.free&&env.scope.kind == .function&&env.kindOf n==some .cell)=false:=by simpa using hc'
    simp only[hcf,vap,vbl,va8,hx'];exact ih
theorem zgb(O:XOk X C T F k){ix:List Nat}(h:zfa C sc ix=true):CompScope X (ownOf sc) (zbf sc) ix sc/\(ownOf sc++zbf sc).Nodup:=by
 unfold zfa at h
 simp only[vab,va0,vbp]at h
 obtain⟨⟨⟨⟨⟨⟨⟨h1,h2⟩,h3⟩,h4⟩,h5⟩,h6⟩,h7⟩,h8⟩:=h
 refine⟨⟨h1,h2,h3,h4,λy hy e=>O.cf _ (h5 y hy e),λq x e=>?_,h6⟩,h8⟩
 have hk:q< (zbf sc).length:=(va3.mp e).1
 have:=h7 q (vea.mpr hk)
 rw[e]at this
 cases z:ix[q]? with
 |none=>rw[z]at this;cases this
 |some j=>
  rw[z]at this
  simp only[vab,va0]at this
  exact⟨j,rfl,by rw[O.hN];exact this.1,this.2⟩
theorem zj6(O:XOk X C T F k){ix:List Nat}(h:zfa C sc ix=true)(D:Addr)(s₀:Shared)(H₀:Hp)(ex:List Addr):XOk (X.comp (ownOf sc++zbf sc) sc D s₀ H₀ ex) (inC sc) T F k:=by
 obtain⟨S,nd⟩:=zgb O h
 refine⟨rfl,nd,λx hx=>?_,λx hx=>?_,λx hx=>?_,λx hx=>?_,O.calm,O.room,rfl,S.kind,O.mgs,O.mgn,O.fns⟩
 .have hx:visK (sc.names.lookup x)=true:=hx
  cases z:sc.names.lookup x with
  |none=>rw[z]at hx;cases hx
  |some kd=>
   cases kd with
   | «local»=>exact .inl (za7 (by decide) z)
   |cell=>exact .inr (.inl (za7 (by decide) z))
   |free=>
    have:=zbs (env:=X.env) O.kfn z
    by_cases hc:X.env.kindOf x=some .cell
    .rw[if_pos hc]at this;exact .inr (.inl this)
    .rw[if_neg hc]at this;exact .inr (.inr this)
   |globalExplicit=>rw[z]at hx;cases hx
   |globalImplicit=>rw[z]at hx;cases hx
 .have hx:locK false (sc.names.lookup x)=true:=hx
  cases z:sc.names.lookup x with
  |none=>rw[z]at hx;cases hx
  |some kd=>
   cases kd with
   | «local»=>exact⟨.inl (za7 (by decide) z),.inr (za7 (by decide) z)⟩
   |cell=>rw[z]at hx;cases hx
   |free=>rw[z]at hx;cases hx
   |globalExplicit=>rw[z]at hx;cases hx
   |globalImplicit=>rw[z]at hx;cases hx
 .exact za7 (by decide) hx
 .have hx:sc.names.lookup x=some .cell\/sc.names.lookup x=some .free:=hx
  rcases hx with z|z
  .exact .inl (za7 (by decide) z)
  .have:=zbs (env:=X.env) O.kfn z
   by_cases hc:X.env.kindOf x=some .cell
   .rw[if_pos hc]at this;exact .inl this
   .rw[if_neg hc]at this;exact .inr this
end
theorem map_some{α β:Type}{o:Option α}{f:α->β}{b:β}(h:o.map f=some b):∃a,o=some a/\b=f a:=by
 cases o with
 |none=>cases h
 |some a=>cases h;exact⟨a,rfl,rfl⟩
structure Snd(X:Cx)(C:CC)(T:List Str)(F:Nat->Option Fn)(k n:Nat):Prop where
 e:∀e c,cE X.K T n C e=some c->SE X e (ev (run F k) c)/\za4 e=true
 t:∀e c,cT X.K T n C e=some c->ST X e (ev (run F k) c)
 w:∀e kd c tg,cW X.K T n C e=some (kd,c)->okW kd tg=true->PI X tg e (lftI X.K kd (ev (run F k) c))/\∀x,foldedSetIterable e X.env x=pure x
section
variable{X:Cx}{C:CC}{T:List Str}{F:Nat->Option Fn}{k n:Nat}
theorem snd_t(O:XOk X C T F k)(ih:Snd X C T F k n)(e:Expr)(c:E)(h:cT X.K T (n+1) C e=some c):ST X e (ev (run F k) c):=by
 unfold cT at h
 split at h
 .split at h
  .split at h
   .rename_i hs
    split at h
    .rename_i h1 h2 h3
     cases h
     exact zxq O.u65 h1 hs (ih.e _ _ h2).1 (ih.e _ _ h3).1
    .cases h
   .cases h
  .split at h
   .rename_i hs
    split at h
    .rename_i h1 h2 h3 h4 h5
     cases h
     exact zxs O.u65 h1 h2 hs (ih.e _ _ h3).1 (ih.e _ _ h4).1 (ih.e _ _ h5).1
    .cases h
   .cases h
  .cases h
 .split at h
  .obtain⟨a,h1,rfl⟩:=map_some h
   exact zxt (ih.t _ _ h1)
  .cases h
 .split at h
  .exact((zk8 ih.t).1 h).pt
  .exact((zk8 ih.t).2 h).pt
 .obtain⟨a,h1,rfl⟩:=map_some h
  exact znz (ih.e _ _ h1).1 λ_=>rfl
 .obtain⟨a,h1,rfl⟩:=map_some h
  exact znz (ih.e _ _ h1).1 λ_=>rfl
 .obtain⟨a,h1,rfl⟩:=map_some h
  exact znz (ih.e _ _ h1).1 λ_=>rfl
 .cases h
theorem noSet(h:∀a b c,e≠.Set a b c):∀x,foldedSetIterable e env x=pure x:=by
 intro x
 cases e<;>first|rfl|exact absurd rfl (h _ _ _)
theorem snd_w(O:XOk X C T F k)(ih:Snd X C T F k n)(e:Expr)(kd:Kd)(c:E)(tg:Expr)(h:cW X.K T (n+1) C e=some (kd,c))(hw:okW kd tg=true):PI X tg e (lftI X.K kd (ev (run F k) c))/\∀x,foldedSetIterable e X.env x=pure x:=by
 unfold cW at h
 split at h
 .rename_i f p args pos
  refine⟨?_,λx=>rfl⟩
  split at h
  .rename_i hf
   have hf:f = "range":=by simpa using hf
   subst hf
   split at h
   .rename_i ha
    obtain⟨g1,g2⟩:=zc9 O ha
    split at h
    .rename_i a
     obtain⟨x,h1,h2⟩:=map_some h
     cases h2
     obtain⟨h3,h4⟩:=ih.e _ _ h1
     exact zus (zg5 h3 zny (zap h4)) h4 g1 g2
    .cases h
   .cases h
  .split at h
   .rename_i hf
    have hf:f = "enumerate":=by simpa using hf
    subst hf
    split at h
    .rename_i ha
     obtain⟨g1,g2⟩:=zc9 O ha
     split at h
     .rename_i a
      obtain⟨x,h1,h2⟩:=map_some h
      cases h2
      obtain⟨h3,h4⟩:=ih.e _ _ h1
      cases tg<;>first|exact zye h3 h4 g1 g2|cases hw
     .cases h
    .cases h
   .split at h
    .rename_i hf
     have hf:f = "zip":=by simpa using hf
     subst hf
     split at h
     .rename_i ha
      obtain⟨g1,g2⟩:=zc9 O ha
      split at h
      .rename_i a b
       split at h
       .rename_i x y h1 h2
        cases h
        obtain⟨h3,h4⟩:=ih.e _ _ h1
        obtain⟨h5,h6⟩:=ih.e _ _ h2
        cases tg<;>first|exact zyh (zg5 h3 (zg5 h5 zny (zap h6)) (zap h4)) h4 h6 g1 g2|cases hw
       .cases h
      .cases h
     .cases h
    .obtain⟨x,h1,h2⟩:=map_some h
     cases h2
     exact zsn (ih.e _ _ h1).1
 .cases h
 .rename_i hns
  obtain⟨x,h1,h2⟩:=map_some h
  cases h2
  exact⟨zsn (ih.e _ _ h1).1,noSet (by first|exact hns|(intro a b c z;exact hns a b c z))⟩
end
section
variable{X:Cx}{C:CC}{T:List Str}{F:Nat->Option Fn}{k n:Nat}
theorem zrg(O:XOk X C T F k){x:Str}(h:cE X.K T (n+1) C (.Name x p)=some c):SE X (.Name x p) (ev (run F k) c):=by
 simp only[cE]at h
 split at h
 .rename_i hn
  obtain⟨n1,n2,n3⟩:=zf9 hn
  split at h
  .rename_i hv
   obtain⟨i,h1,rfl⟩:=map_some h
   exact zxg (by rw[O.hN];exact zod h1) (O.vis x hv) n1 n2
  .split at h
   .rename_i hg
    split at h
    .rename_i v hv
     obtain⟨w,h1,rfl⟩:=map_some h
     obtain⟨y,h2,h3⟩:=zsw 8 v w h1
     exact zil (ztk (O.gl x (by simpa using hg)) (O.mgs x v hv) h2 n1) h3
    .cases h
   .cases h
 .cases h
theorem zrh(O:XOk X C T F k)(ih:Snd X C T F k n){f:Str}(h:cE X.K T (n+1) C (.Call (.Name f p) args [] pos)=some c):SE X (.Call (.Name f p) args [] pos) (ev (run F k) c):=by
 simp only[cE]at h
 split at h
 .rename_i hn
  rw[vab]at hn
  have hg:=O.gl f (by simpa using hn.2)
  split at h
  .rename_i hm
   have hm:=O.mgn f hm
   split at h
   .rename_i hf
    have hf:f = "isinstance":=by simpa using hf
    subst hf
    split at h
    .rename_i a t pt
     split at h
     .rename_i ty x h1 h2
      split at h
      .rename_i hc
       cases h
       rw[vab]at hc
       obtain⟨g1,g2⟩:=zc9 O hc.2
       obtain⟨h3,h4⟩:=ih.e _ _ h2
       obtain⟨n1,n2,n3⟩:=zf9 hc.1
       exact zx7 ty h3 h4 hg hm g1 g2 (zuz h1) n3 n1
      .cases h
     .cases h
    .cases h
   .split at h
    .rename_i b e es hb
     obtain⟨a,h1,rfl⟩:=map_some h
     obtain⟨h2,h3⟩:=cL_ok ih.e h1
     exact bi_ok hb hg hm hn.1 O.calm h2 h3
    .cases h
  .rename_i v hv
   split at h
   .rename_i i hi
    obtain⟨fa,fd,ps,fn,q1,q2,q3,q4,q5,q6,q7⟩:=O.fns i f (zod hi) (zyz hn.1)
    have q1:=zk7 q1
    split at h
    .rename_i hlv
     rw[vab]at hlv
     obtain⟨a,h1,rfl⟩:=map_some h
     obtain⟨h2,h3⟩:=cL_ok ih.e h1
     have hl:∀ws h w h',run F k i ws h=.ok w h'->ws.length=ps.length:=λws h w h' e=>by rw[zj5 q5 e,q6]
     have hev:ev (run F k) (.call i (padE a))=gArg (ev (run F k) a) (λws h=>run F k i (ws++[.non]) h):=by
      funext ρ h
      simp only[ev,zy0 (zof h1)]
      show Res.bind (Res.bind (ev (run F k) a ρ h) _) _=Res.bind (ev (run F k) a ρ h) _
      cases ev (run F k) a ρ h with
      |no=>rfl
      |ex _ _=>rfl
      |ok y h2=>cases y<;>rfl
     rw[hev]
     cases args with
     |nil=>cases hlv.2
     |cons e es=>exact zq7 q2 O.room hg (O.mgs f _ q1) q3 (q7 (zmg hlv.1)) h2 h3 (zf9 hn.1).1 hl
    obtain⟨a,h1,rfl⟩:=map_some h
    obtain⟨h2,h3⟩:=cL_ok ih.e h1
    have hl:∀ws h w h',run F k i ws h=.ok w h'->ws.length=ps.length:=λws h w h' e=>by rw[zj5 q5 e,q6]
    cases args with
    |nil=>
     simp only[cL]at h1
     cases h1
     exact zq6 q2 O.room hg (O.mgs f _ q1) q3 q4 (zf9 hn.1).1 hl
    |cons e es=>exact zur q2 O.room hg (O.mgs f _ q1) q3 q4 h2 h3 (zf9 hn.1).1 hl
   .cases h
  .cases h
 .cases h
theorem zri(O:XOk X C T F k)(ih:Snd X C T F k n){m:Str}(h:cE X.K T (n+1) C (.Call (.Attribute o m ap) args [] pos)=some c):SE X (.Call (.Attribute o m ap) args [] pos) (ev (run F k) c):=by
 simp only[cE]at h
 split at h
 .rename_i hn
  rw[vab]at hn
  split at h
  .rename_i x a hx
   split at h
   .rename_i hm
    have hm:m = "append":=by simpa using hm
    subst hm
    obtain⟨y,h1,rfl⟩:=map_some h
    obtain⟨h2,h3⟩:=ih.e _ _ h1
    exact zn1 (ih.e _ _ hx).1 h2 hn.1 h3 hn.2
   .cases h
  .cases h
 .cases h
theorem zy1{ow fr:List Str}{ifs:List Expr}{c:E}(O:∀D s₀ H₀ ex,Snd (X.comp (ow++fr) sc D s₀ H₀ ex) (inC sc) T F k n)
 (h:(match ifs with|[]=>some (E.cst (.bl true))|[c]=>cT X.K T n (inC sc) c|_=>none)=some c) (D:Addr) (s₀:Shared) (H₀:Hp) (ex:List Addr):PTs (X.comp (ow++fr) sc D s₀ H₀ ex) ifs (lftT X.K (ev (run F k) c)):=by
 split at h
 .cases h
  exact λpins s σ H Q I z9=>z9.el λρ h m b h' f r e q=>by
   cases e
   exact zt6 pins s σ H Q I (q H m .refl r)
 .exact zt7 ((O D s₀ H₀ ex).t _ _ h)
 .cases h
theorem zsz(O:XOk X C T F k)(ih:Snd X C T F k n)(ihc:∀{sc:Scope} {ix:List Nat},zfa C sc ix=true->∀D s₀ H₀ ex,Snd (X.comp (ownOf sc++zbf sc) sc D s₀ H₀ ex) (inC sc) T F k n)
 {elt tg iter:Expr} {ifs:List Expr} {sc:Scope} {pos:Pos} {c:E} (h:cE X.K T (n+1) C (.ListComp elt [⟨tg,iter,ifs,0⟩] sc pos)=some c) :
 ∃kd a t ix cc ce,c=.lc kd a t (ownOf sc).length ix cc ce/\CompScope X (ownOf sc) (zbf sc) ix sc/\PI X tg iter (lftI X.K kd (ev (run F k) a))/\(∀D s₀ H₀ ex,PG (X.comp (ownOf sc++zbf sc) sc D s₀ H₀ ex) tg (lftG X.K t))/\
  (∀D s₀ H₀ ex,PTs (X.comp (ownOf sc++zbf sc) sc D s₀ H₀ ex) ifs (lftT X.K (ev (run F k) cc)))/\(∀D s₀ H₀ ex,PE (X.comp (ownOf sc++zbf sc) sc D s₀ H₀ ex) elt (lft X.K (ev (run F k) ce)))/\∀x,foldedSetIterable iter X.env x=pure x:=by
 simp only[cE]at h
 split at h
 .rename_i ix hix
  split at h
  .rename_i hc
   split at h
   .rename_i kd a t cc ce h1 h2 h3 h4
    split at h
    case isFalse=>cases h
    rename_i hw
    cases h
    obtain⟨w1,w2⟩:=ih.w _ _ _ tg h1 hw
    exact⟨kd,a,t,ix,cc,ce,rfl,(zgb O hc).1,w1,λD s₀ H₀ ex=>tg_ok (zj6 O hc D s₀ H₀ ex) h2,zy1 (ihc hc) h3,λD s₀ H₀ ex=>((ihc hc D s₀ H₀ ex).e _ _ h4).1,w2⟩
   .cases h
  .cases h
 .cases h
theorem snd_e(O:XOk X C T F k)(ih:Snd X C T F k n)(ihc:∀{sc:Scope} {ix:List Nat},zfa C sc ix=true->∀D s₀ H₀ ex,Snd (X.comp (ownOf sc++zbf sc) sc D s₀ H₀ ex) (inC sc) T F k n)
 (e:Expr) (c:E) (h:cE X.K T (n+1) C e=some c):SE X e (ev (run F k) c)/\za4 e=true:=by
 have h0:=h
 unfold cE at h
 split at h
 .exact⟨zrg O h0,rfl⟩
 .refine⟨?_,rfl⟩
  split at h
  .cases h;exact zxh
  .cases h;exact se_bl
  .cases h;exact zxi
  .cases h;exact zxj
  .cases h
 .obtain⟨a,h1,rfl⟩:=map_some h
  exact⟨zxk (cL_ok ih.e h1).1,rfl⟩
 .obtain⟨a,h1,rfl⟩:=map_some h
  exact⟨zxl (cL_ok ih.e h1).1,rfl⟩
 .refine⟨?_,rfl⟩
  rename_i ks vs pos
  split at h
  .rename_i hc
   simp only[vab]at hc
   obtain⟨a,h1,rfl⟩:=map_some h
   cases ks with
   |nil=>
    cases vs with
    |nil=>simp only[cPs]at h1;cases h1;exact zuq
    |cons _ _=>cases h1
   |cons q ks=>exact zx9 O.u2 (zsy ih.e h1) hc.2 (vdo hc.1.2) (by simp) (va9 hc.1.1)
  .cases h
 .refine⟨?_,rfl⟩
  split at h
  .rename_i h1 h2 h3
   cases h
   exact se_op (op_ok h1) (zxn _) (ih.e _ _ h2).1 (ih.e _ _ h3).1
  .cases h
 .split at h
  .obtain⟨a,h1,rfl⟩:=map_some h
   exact⟨zxu (ih.e _ _ h1).1,rfl⟩
  .obtain⟨a,h1,rfl⟩:=map_some h
   exact⟨zxy (ih.e _ _ h1).1,rfl⟩
  .cases h
 .split at h
  .exact⟨(cB_ok ih.e).1 h,rfl⟩
  .exact⟨(cB_ok ih.e).2 h,rfl⟩
 .split at h
  .refine⟨?_,rfl⟩
   split at h
   .rename_i hs
    split at h
    .rename_i h1 h2 h3
     cases h
     exact zxp O.u65 h1 hs (ih.e _ _ h2).1 (ih.e _ _ h3).1
    .cases h
   .cases h
  .refine⟨?_,rfl⟩
   split at h
   .rename_i hs
    split at h
    .rename_i h1 h2 h3 h4 h5
     cases h
     exact zxr O.u65 h1 h2 hs (ih.e _ _ h3).1 (ih.e _ _ h4).1 (ih.e _ _ h5).1
    .cases h
   .cases h
  .cases h
 .refine⟨?_,rfl⟩
  split at h
  .rename_i h1 h2 h3
   cases h
   exact zxx (ih.t _ _ h1) (ih.e _ _ h2).1 (ih.e _ _ h3).1
  .cases h
 .split at h
  .split at h
   .refine⟨?_,rfl⟩
    split at h
    .rename_i h1 h2 h3
     cases h
     exact zx0 (ih.e _ _ h1).1 (cO_ok ih.e h2) (cO_ok ih.e h3)
    .cases h
   .split at h
    .refine⟨?_,rfl⟩
     split at h
     .rename_i h1 h2
      cases h
      exact zyy (ih.e _ _ h1).1 (ih.e _ _ h2).1
     .cases h
    .cases h
  .refine⟨?_,rfl⟩
   split at h
   .rename_i hs
    split at h
    .rename_i h1 h2
     cases h
     exact zxz O.u2 (ih.e _ _ h1).1 (ih.e _ _ h2).1 (zmh hs)
    .cases h
   .cases h
 .split at h
  .split at h
   .exact⟨zrh O ih h0,rfl⟩
   .exact⟨zri O ih h0,rfl⟩
   .cases h
  .cases h
 .split at h
  .refine⟨?_,rfl⟩
   obtain⟨kd,a,t,ix,cc,ce,rfl,S,w1,w2,w3,w4,w5⟩:=zsz O ih ihc h0
   exact se_lc S O.calm w1 w2 w3 w4 w5
  .cases h
 .cases h
end
theorem zgc{T:List Str}{F:Nat->Option Fn}{k:Nat}:∀(n:Nat) {X:Cx} {C:CC},XOk X C T F k->Snd X C T F k n
 |0,_,_,_=>⟨(λe c h=>nomatch h),(λe c h=>nomatch h),(λe kd c tg h _=>nomatch h)⟩
 |n+1,X,C,O=>by
  have ih:=zgc n O
  have ihc:∀{sc:Scope}{ix:List Nat},zfa C sc ix=true->∀D s₀ H₀ ex,Snd (X.comp (ownOf sc++zbf sc) sc D s₀ H₀ ex) (inC sc) T F k n:=λhc D s₀ H₀ ex=>zgc n (zj6 O hc D s₀ H₀ ex)
  exact⟨snd_e O ih ihc,snd_t O ih,snd_w O ih⟩
section
variable{X:Cx}{C:CC}{T:List Str}{F:Nat->Option Fn}{k d:Nat}
theorem zct{f:Stmt->Option S}(ih:∀st c,f st=some c->SS X st (exs cl c)):∀{sts:List Stmt} {c:S},cSs f sts=some c->SSs X sts (exs cl c)
 |[],_,h=>by cases h;exact zuu
 |s::r,c,h=>by
  unfold cSs at h
  split at h
  .rename_i a b ha hb
   cases h
   exact zrb (ih s a ha) (zct ih hb)
  .cases h
theorem zy2{K:PySem.W.Frag}{T:List Str}{n:Nat}{C:CC}{elt:Expr}{gs:List Comprehension}{sc:Scope}{lp:Pos}{c:E}(h:cE K T (n+1) C (.ListComp elt gs sc lp)=some c):∃tg iter ifs,gs=[⟨tg,iter,ifs,0⟩]:=by
 match gs,h with
 |[],h=>cases(show(none:Option E)=some c from h)
 |[⟨tg,iter,ifs,0⟩],_=>exact⟨tg,iter,ifs,rfl⟩
 |[⟨_,_,_,.ofNat (k+1)⟩],h=>cases(show(none:Option E)=some c from h)
 |[⟨_,_,_,.negSucc k⟩],h=>cases(show(none:Option E)=some c from h)
 |⟨_,_,_,0⟩::_::_,h=>cases(show(none:Option E)=some c from h)
 |⟨_,_,_,.ofNat (k+1)⟩::_::_,h=>cases(show(none:Option E)=some c from h)
 |⟨_,_,_,.negSucc k⟩::_::_,h=>cases(show(none:Option E)=some c from h)
theorem zu0(O:XOk X C T F k){x:Str}{p pos:Pos}{e:Expr}{i:Nat}{c:E}(hi:nmIx C (.Name x p)=some i)(h:cE X.K T d C e=some c):SS X (.Assign [.Name x p] e pos) (exs (run F k) (.set i c)):=by
 obtain⟨x',p',ex,h1,h2,h3⟩:=nm_ok O hi
 cases ex
 have nd:X.N.Nodup:=O.hN▸O.nd
 have Sd:=zgc (T:=T) (F:=F) (k:=k) d O
 by_cases hc:zk3 e=true
 .exact zss nd h1 h2 h3 (Sd.e _ _ h).1 (zk4 hc)
 .cases d with
  |zero=>cases h
  |succ n=>
   cases e with
   |ListComp elt gs sc lp=>
    have sw:∃b:Bool,swapsWith (.ListComp elt gs sc lp) (some (.Name x p)) pos.line X.env=pure b:=⟨_,rfl⟩
    obtain⟨b,hb⟩:=sw
    cases b with
    |false=>exact zss nd h1 h2 h3 (Sd.e _ _ h).1 hb
    |true=>
     obtain⟨tg,iter,ifs,rfl⟩:=zy2 h
     obtain⟨kd,a,t,ix,cc,ce,rfl,S,w1,w2,w3,w4,w5⟩:=zsz O (zgc n O) (λhc D s₀ H₀ ex=>zgc n (zj6 O hc D s₀ H₀ ex)) h
     exact zrc nd h1 h2 h3 S O.calm w1 w2 w3 w4 hb w5
   |SetComp _ _ _ _=>unfold cE at h;cases h
   |DictComp _ _ _ _ _=>unfold cE at h;cases h
   |_=>exact absurd rfl hc
theorem snd_s(O:XOk X C T F k):∀(n:Nat) (st:Stmt) (c:S),cS X.K T d n C st=some c->SS X st (exs (run F k) c)
 |0,_,_,h=>by cases h
 |n+1,st,c,h=>by
  have nd:X.N.Nodup:=O.hN▸O.nd
  have Sd:=zgc (T:=T) (F:=F) (k:=k) d O
  have ih:=snd_s O n
  have hp:PassesOwn (model X.prog X.w) X.A X.env X.xe:=by rw[O.xe];exact PassesOwn.never
  unfold cS at h
  split at h
  .cases h;exact zuv
  .cases h;exact zym
  .cases h;exact zyn
  .cases h;exact ss_no
  .split at h
   .cases h;exact zux
   .obtain⟨a,h1,rfl⟩:=map_some h
    exact zyo (Sd.e _ _ h1).1
  .split at h
   .rename_i hc
    obtain⟨a,h1,rfl⟩:=map_some h
    exact zuw (Sd.e _ _ h1).1 hc
   .cases h
  .split at h
   .split at h
    .split at h
     .rename_i i a h1 h2
      cases h
      exact zu0 O h1 h2
     .cases h
    .split at h
     .rename_i ht
      split at h
      .rename_i h1 h2
       cases h
       exact zyp O.calm nd (zog O h1) (Sd.e _ _ h2).1 ht
      .cases h
     .unfold cSw at h
      split at h
      .rename_i a b hab
       split at h
       .rename_i hs
        rw[vab]at hs
        split at h
        .rename_i h1 h2 h3 h4 h5
         cases h
         obtain⟨o,i,p⟩:=a
         obtain⟨o2,i2,p2⟩:=b
         unfold subs2 at hab
         split at hab
         .cases hab
          exact ss_sw O.calm (Sd.e _ _ h1).1 (Sd.e _ _ h2).1 (Sd.e _ _ h3).1 (Sd.e _ _ h4).1 (Sd.e _ _ h5).1 hs.1 hs.2
         .cases hab
        .cases h
       .cases h
      .cases h
    .split at h
     .rename_i hs
      split at h
      .rename_i h1 h2 h3
       cases h
       exact zyq O.u2 (Sd.e _ _ h1).1 (Sd.e _ _ h2).1 (Sd.e _ _ h3).1 hs
      .cases h
     .cases h
    .cases h
   .cases h
  .split at h
   .split at h
    .rename_i h1 h2 h3
     cases h
     obtain⟨x',p',ex,a1,a2,a3⟩:=nm_ok O h1
     cases ex
     exact zys h2 nd a1 a2 a3 (Sd.e _ _ h3).1
    .cases h
   .cases h
  .split at h
   .rename_i h1 h2 h3
    cases h
    exact zyt (Sd.t _ _ h1) (zct ih h2) (zct ih h3)
   .cases h
  .rename_i tg it b el pos
   split at h
   .split at h
    .rename_i h1 h2 h3
     split at h
     case isFalse=>cases h
     rename_i hw
     cases h
     obtain⟨w1,w2⟩:=Sd.w _ _ _ tg h1 hw
     exact zyv hp O.calm w1 (tg_ok O h2) (zct ih h3) w2
    .cases h
   .cases h
  .split at h
   .split at h
    .rename_i h1 h2
     cases h
     exact zyw hp (Sd.t _ _ h1) (zct ih h2)
    .cases h
   .cases h
  .cases h
end
noncomputable def zj7:FuncBody->Option (List Stmt)
 |.stmts b=>some b
 |_=>none
theorem zmi{d:Data}(h:zhc d=true):∃n,d=.seq #[.none] n:=by
 cases d with
 |seq xs n=>
  obtain⟨l⟩:=xs
  unfold zhc at h
  simp only[]at h
  split at h
  .rename_i v
   cases v<;>first|exact⟨n,rfl⟩|cases h
  .cases h
 |_=>cases h
theorem zrj{K:PySem.W.Frag}{v:Value}(h:noneD K v=true):∃t o n,v=.ref t/\K.lookup t=some o/\o.data=.seq #[.none] n:=by
 cases v with
 |ref t=>
  have h:(match K.lookup t with|some o=>zhc o.data|none=>false)=true:=h
  cases e:K.lookup t with
  |none=>rw[e]at h;cases h
  |some o=>
   rw[e]at h
   obtain⟨n,q⟩:=zmi h
   exact⟨t,o,n,rfl,e,q⟩
 |_=>cases h
noncomputable def zcu(ps:List Str)(sc:Scope):List Str:=ps++(sc.names.filter λy=>(y.2 == .local||y.2 == .cell) && !(ps.contains y.1)).map (·.1)
noncomputable def zhd(N ps:List Str)(sc:Scope):Bool:=
 decide (sc.kind=.function) && !sc.isCoroutine && !sc.isGenerator&&decide N.Nodup&&decide (N.take ps.length=ps)&&ps.all (λx=>decide (sc.names.lookup x=some .local\/sc.names.lookup x=some .cell))&&sc.names.all (λy=>decide (y.2≠.free))&&decide ps.Nodup
theorem zmj{N ps:List Str}(h:zhd N ps sc=true):FnScope N ps sc/\ps.Nodup:=by
 unfold zhd at h
 simp only[vab,va0,vbp,Bool.not_eq_true']at h
 obtain⟨⟨⟨⟨⟨⟨⟨h1,h2⟩,h3⟩,h4⟩,h5⟩,h6⟩,h7⟩,h8⟩:=h
 exact⟨⟨h1,h2,h3,h4,h5,h6,h7⟩,h8⟩
noncomputable def nmOf(x:Str):Str:=x
noncomputable def cF(K:PySem.W.Frag)(T:List Str)(d n:Nat)(x:Str):Option Fn:=match fnAt K x with
 |some (f,o,fd)=>(match zbl fd.params,zj7 fd.body with
  |some args,some body=>if fd.name==nmOf x&&fd.qualname==x&&Nat.beq fd.globals mainGlobals&&fd.closure.isEmpty&& (isNone fd.defaults||noneD K fd.defaults && !args.isEmpty)&&Nat.beq fd.builtins builtinsNs&&PySem.W.codeIn K fd.code x&&PySem.W.keepIn K (.ref f) &&
   zhd (zcu (args.map (·.arg)) fd.scope) (args.map (·.arg)) fd.scope then
   (cSs (cS K T d n ⟨zcu (args.map (·.arg)) fd.scope,fd.scope.names,true⟩) body).map λb=>⟨(args.map (·.arg)).length,(zcu (args.map (·.arg)) fd.scope).length,b⟩
   else none
  |_,_=>none)
 |none=>none
theorem zu1{x:Str}{args:List Arg}(c1:(fd.name==nmOf x)=true)(c2:(fd.qualname==x)=true)(c3:Nat.beq fd.globals mainGlobals=true)(c4:fd.closure.isEmpty=true)(c6:Nat.beq fd.builtins builtinsNs=true)(ha:zbl fd.params=some args)(hb:zj7 fd.body=some body) :
 ∃dx,fd=PySem.W.fnOf (nmOf x) x ⟨[],args,none,[],[],none,dx⟩ body fd.scope fd.defaults fd.kwdefaults fd.doc fd.pyModule fd.annotations fd.code fd.closureTuple:=by
 obtain⟨nm,qn,pr,bd,sc,gl,cl,df,kd,dc,pm,an,cdv,ct,bu⟩:=fd
 have e1:nm=nmOf x:=by simpa using c1
 have e2:qn=x:=by simpa using c2
 have e3:gl=mainGlobals:=vdo c3
 have e4:cl=[]:=by simpa using c4
 have e6:bu=builtinsNs:=vdo c6
 have e7:bd=.stmts body:=by
  cases bd with
  |stmts b'=>cases hb;rfl
  |expr _=>cases hb
 obtain⟨dx,e8⟩:∃dx,pr=⟨[],args,none,[],[],none,dx⟩:=by
  unfold zbl at ha
  split at ha
  .cases ha;rename_i z;exact⟨_,z⟩
  .cases ha
 exact⟨dx,by rw[e1,e2,e3,e4,e6,e7,e8]⟩
theorem zrk{K:PySem.W.Frag}{x:Str}{fd:FuncData}{args:List Arg}{body:List Stmt}{dx:List Expr}{sc:Scope}{df kd dc pm:Value}{an:Option Addr}{cdv ct:Value}{b:Bool}(e:fd=PySem.W.fnOf (nmOf x) x ⟨[],args,none,[],[],none,dx⟩ body sc df kd dc pm an cdv ct)(nd:(args.map (·.arg)).Nodup)
 (hb:b=noneD K df) (c5:(isNone df||noneD K df && !args.isEmpty)=true):Binds K fd (args.map (·.arg)) []/\(b=true->Binds K fd (args.map (·.arg)) [.none])/\(b=false->∀us:List Value,us.length=(args.map (·.arg)).length->bindArgs fd ⟨us,[]⟩=pure ((args.map (·.arg)).zip us)):=by
 subst e hb
 rw[vcn,vab]at c5
 rcases c5 with c5|⟨c5,c0⟩
 .have e5:df=.none:=by cases df<;>first|rfl|cases c5
  subst e5
  exact⟨.all λus hl=>zf8 hl nd,(λz=>nomatch z),λ_ us hl=>zf8 hl nd⟩
 .obtain⟨t,o,n,rfl,hk,hd⟩:=zrj c5
  rw[c5]
  obtain⟨qs,z,hqz⟩:∃qs z,args.map (·.arg)=qs++[z]:=by
   rcases List.eq_nil_or_concat (args.map (·.arg))with q|⟨l,b,q⟩
   .rw[List.map_eq_nil_iff.mp q]at c0;cases c0
   .exact⟨l,b,by rw[q,List.concat_eq_append]⟩
  have nd':=nd
  rw[hqz]at nd'
  refine⟨λs us hK hl=>?_,λ_ s us hK hl=>?_,λz=>nomatch z⟩
  .rw[vbc]at hl ⊢
   rw[hqz]at hl ⊢
   exact zmd hqz nd' (hK _ _ hk) hd hl
  .rw[hqz]at hl ⊢
   exact zme hqz nd' (hK _ _ hk) hd (by rw[vaf,vaf]at hl;simpa using hl)
theorem zoh{K:PySem.W.Frag}{x:Str}{f:Addr}{o:Obj}{fd:FuncData}(h:fnAt K x=some (f,o,fd)):refAt K x=some f/\∃oc od sl,K.lookup f=some ⟨oc,od,.func fd,sl⟩:=by
 unfold fnAt at h
 split at h
 .rename_i f' hn
  split at h
  .rename_i o' ho
   split at h
   .rename_i fd' hd
    cases h
    refine⟨hn,o.cls,o.dict,o.slots,?_⟩
    rw[<-hd];exact ho
   .cases h
  .cases h
 .cases h
theorem zy3{K:PySem.W.Frag}{T:List Str}{d n:Nat}{x:Str}{fn:Fn}:∀(f:Addr) (o:Obj) (fd:FuncData) (args:List Arg) (body:List Stmt) (b:S),fnAt K x=some (f,o,fd)->zbl fd.params=some args->zj7 fd.body=some body->(fd.name==nmOf x&&fd.qualname==x&&Nat.beq fd.globals mainGlobals&&fd.closure.isEmpty&& (isNone fd.defaults||noneD K fd.defaults && !args.isEmpty)&&Nat.beq fd.builtins builtinsNs&&PySem.W.codeIn K fd.code x&&PySem.W.keepIn K (.ref f) &&
 zhd (zcu (args.map (·.arg)) fd.scope) (args.map (·.arg)) fd.scope)=true->cSs (cS K T d n ⟨zcu (args.map (·.arg)) fd.scope,fd.scope.names,true⟩) body=some b->fn=⟨(args.map (·.arg)).length,(zcu (args.map (·.arg)) fd.scope).length,b⟩->∃f fd st ps N,refAt K x=some f/\FunD K (nmOf x) x st f fd/\FnScope N ps (zav st)/\fn.n=N.length/\fn.ps=ps.length/\(Binds K fd ps []/\(hasD K x=true->Binds K fd ps [.none])/\(hasD K x=false->∀us:List Value,us.length=ps.length->bindArgs fd ⟨us,[]⟩=pure (ps.zip us)))/\
 cSs (cS K T d n ⟨N,(zav st).names,true⟩) (ze1 st)=some fn.body/\∃o' fd' args,fnAt K x=some (f,o',fd')/\zbl fd'.params=some args/\ps=args.map (·.arg):=by
 intro f o fd args body b hf ha hb hc h1 e
 rw[vab,vab,vab,vab,vab,vab,vab,vab]at hc
 obtain⟨⟨⟨⟨⟨⟨⟨⟨c1,c2⟩,c3⟩,c4⟩,c5⟩,c6⟩,c7⟩,c8⟩,c9⟩:=hc
 obtain⟨S,nd⟩:=zmj c9
 obtain⟨hn,oc,od,sl,lk⟩:=zoh hf
 obtain⟨dx,ef⟩:=zu1 c1 c2 c3 c4 c6 ha hb
 have hh:hasD K x=noneD K fd.defaults:=by unfold hasD;rw[hf]
 exact⟨f,fd,.FunctionDef (nmOf x) ⟨[],args,none,[],[],none,dx⟩ body [] none [] fd.scope none (nmOf x) ⟨0,0,0,0⟩,args.map (·.arg),zcu (args.map (·.arg)) fd.scope,hn,⟨⟨oc,od,_,_,_,_,_,fd.code,_,sl,ef,lk,c7⟩,c8⟩,S,by rw[e],by rw[e],zrk ef nd hh c5,by rw[e];exact h1,o,fd,args,hf,ha,rfl⟩
theorem cF_ok{K:PySem.W.Frag}{T:List Str}{d n:Nat}{x:Str}{fn:Fn}(h:cF K T d n x=some fn):∃f fd st ps N,refAt K x=some f/\FunD K (nmOf x) x st f fd/\FnScope N ps (zav st)/\fn.n=N.length/\fn.ps=ps.length/\(Binds K fd ps []/\(hasD K x=true->Binds K fd ps [.none])/\(hasD K x=false->∀us:List Value,us.length=ps.length->bindArgs fd ⟨us,[]⟩=pure (ps.zip us)))/\
 cSs (cS K T d n ⟨N,(zav st).names,true⟩) (ze1 st)=some fn.body/\∃o' fd' args,fnAt K x=some (f,o',fd')/\zbl fd'.params=some args/\ps=args.map (·.arg):=by
 unfold cF at h
 split at h
 .rename_i f o fd hf
  split at h
  .rename_i args body ha hb
   split at h
   .rename_i hc
    obtain⟨b,h1,e⟩:=map_some h
    exact zy3 f o fd args body b hf ha hb hc h1 e
   .cases h
  .cases h
 .cases h
theorem zeo{α β:Type}{f:α->Option β}:∀{l:List α} {r:List β},mapO f l=some r->∀(i:Nat) (a:α),l[i]?=some a->∃b,r[i]?=some b/\f a=some b
 |[],_,_,i,a,e=>by simp at e
 |x::l,r,h,i,a,e=>by
  unfold mapO at h
  split at h
  .rename_i b hb
   split at h
   .rename_i bs hbs
    cases h
    cases i with
    |zero=>simp at e;subst e;exact⟨b,rfl,hb⟩
    |succ i=>
     obtain⟨c,h1,h2⟩:=zeo hbs i a (by simpa using e)
     exact⟨c,by simpa using h1,h2⟩
   .cases h
  .cases h
noncomputable def cF0(K:PySem.W.Frag)(T:List Str)(d n:Nat)(x:Str):Option Fn:=if x==("" : Str)then some ⟨0,0,.no⟩else cF K T d n x
theorem zoi{K:PySem.W.Frag}{T:List Str}{d n:Nat}{x:Str}{fn:Fn}(h:cF0 K T d n x=some fn)(hx:x≠""):cF K T d n x=some fn:=by
 unfold cF0 at h
 rw[if_neg (by simpa using hx)]at h
 exact h
noncomputable def cProg(K:PySem.W.Frag)(T:List Str)(d n:Nat):Option (List Fn):=mapO (cF0 K T d n) T
theorem zoj{P:Program}{w:World}{K:PySem.W.Frag}{mg:Str->Option Value}{base:Heap}{T:List Str}{Fs:List Fn}{k:Nat}(KX:K.In base)(G:base.Ns mainGlobals mg){x:Str}{st:Stmt}{f:Addr}{N ps:List Str}(S:FnScope N ps (zav st))
 (H0:∀(i:Nat)(x:Str),T[i]?=some x->x≠""->∃f fd ps fn,refAt K x=some f/\FnOk P w K mg base CX0 k f fd ps (spV K ps.length (run (λi=>Fs[i]?) k i))/\PySem.W.keepIn K (.ref f)=true/\Binds K fd ps []/\Fs[i]?=some fn/\fn.ps=ps.length/\(hasD K x=true->Binds K fd ps [.none]))
 (cdv:Value) (A:Around) (outer:List Env) (s:Shared) (H:Hp) (E:XK) (hr:Room k (A.deeper (envOfC x (zav st) s.heap.objs.size f cdv))):XOk (cxOf CX0 P w K mg base N x (zav st) f cdv A outer s H E).nox ⟨N,(zav st).names,true⟩ T (λi=>Fs[i]?) k:=by
 refine⟨rfl,S.nd,λy hy=>?_,λy hy=>?_,λy hy=>hy,λy hy=>hy,rfl,hr,rfl,S.kind,λy v hv=>PySem.W.mg_of KX G hv,λy hv=>PySem.W.mg_none_of KX G hv,H0⟩
 .have hy:visK ((zav st).names.lookup y)=true:=hy
  cases z:(zav st).names.lookup y with
  |none=>rw[z]at hy;cases hy
  |some kd=>cases kd<;>first|exact .inl z|exact .inr (.inl z)|exact .inr (.inr z)|(rw[z]at hy;cases hy)
 .have hy:locK true ((zav st).names.lookup y)=true:=hy
  cases z:(zav st).names.lookup y with
  |none=>rw[z]at hy;cases hy
  |some kd=>cases kd<;>first|exact⟨.inl z,.inl rfl⟩|exact⟨.inr z,.inl rfl⟩|(rw[z]at hy;cases hy)
theorem zu2{P:Program}{w:World}{K:PySem.W.Frag}{mg:Str->Option Value}{base:Heap}{T:List Str}{d n:Nat}{Fs:List Fn}(hP:cProg K T d n=some Fs)(KX:K.In base)(G:base.Ns mainGlobals mg)(k:Nat):∀(j:Nat),j<=k->∀(i:Nat) (x:Str),T[i]?=some x->x≠""->
 ∃f fd ps fn,refAt K x=some f/\FnOk P w K mg base CX0 j f fd ps (spV K ps.length (run (λi=>Fs[i]?) j i))/\PySem.W.keepIn K (.ref f)=true/\Binds K fd ps []/\Fs[i]?=some fn/\fn.ps=ps.length/\(hasD K x=true->Binds K fd ps [.none]):=by
 induction k with
 |zero=>
  intro j hj i x e hx
  have:j=0:=Nat.le_zero.mp hj
  subst this
  obtain⟨fn,h1,h2⟩:=zeo hP i x e
  obtain⟨f,fd,st,ps,N,a1,a2,a3,a4,a5,a6,a7,_⟩:=cF_ok (zoi h2 hx)
  exact⟨f,fd,ps,fn,a1,zoc,a2.kp,a6.1,h1,a5,a6.2.1⟩
 |succ k ih=>
  intro j hj i x e hx
  by_cases hjk:j<=k
  .exact ih j hjk i x e hx
  .have:j=k+1:=by omega
   subst this
   obtain⟨fn,h1,h2⟩:=zeo hP i x e
   obtain⟨f,fd,st,ps,N,a1,a2,a3,a4,a5,a6,a7,_⟩:=cF_ok (zoi h2 hx)
   exact⟨f,fd,ps,fn,a1,zsv (F:=λi=>Fs[i]?) h1 a2 a3 a4 a5 λcdv A outer s H E hr=>zct (snd_s (zoj KX G a3 (λj y hj hy=>ih k (vac _) j y hj hy) cdv A outer s H E hr) n) a7,a2.kp,a6.1,h1,a5,a6.2.1⟩
noncomputable def zck:Res W->Bool
 |.ok (.bl true) _=>true
 |_=>false
noncomputable def says(K:PySem.W.Frag)(T:List Str)(d n k i:Nat)(ns:List Int):Bool:=match cProg K T d n with
 |some Fs=>zck (run (λi=>Fs[i]?) k i [.fz (ns.map .int)] ⟨0,0,[]⟩)
 |none=>false
theorem zj8{r:Res W}(h:zck r=true):∃h',r=.ok (.bl true) h':=by
 cases r with
 |no=>cases h
 |ex _ _=>cases h
 |ok w h'=>cases w<;>first|(rename_i b;cases b<;>first|exact⟨h',rfl⟩|cases h)|cases h
theorem zgd{K:PySem.W.Frag}{m:Nat->Addr}{n:Nat}{H:Hp}:∀(ns:List Int),VReps K m n H (ns.map V.int) (ns.map W.int)
 |[]=>.nil
 |i::r=>.cons (.int i) (zgd r)
theorem zok{K:PySem.W.Frag}{T:List Str}{d n k i:Nat}{ns:List Int}(h:says K T d n k i ns=true):∃Fs h',cProg K T d n=some Fs/\run (λi=>Fs[i]?) k i [.fz (ns.map .int)] ⟨0,0,[]⟩=.ok (.bl true) h':=by
 unfold says at h
 split at h
 .rename_i Fs hF
  obtain⟨h',e⟩:=zj8 h
  exact⟨Fs,h',hF,e⟩
 .cases h
theorem zu3{K:PySem.W.Frag}{T:List Str}{d n k i:Nat}{ns:List Int}{Fs:List Fn}(hP:cProg K T d n=some Fs)(h:zck (run (λi=>Fs[i]?) k i [.fz (ns.map .int)] ⟨0,0,[]⟩)=true):says K T d n k i ns=true:=by
 unfold says
 rw[hP]
 exact h
noncomputable def lawOk(K:PySem.W.Frag)(x:Str):Bool:=match fnAt K x with
 |some (_,_,fd)=>(match zbl fd.params with
  |some [a]=>a.arg==("_law_script" : Str) && !(noneD K fd.defaults)
  |_=>false)
 |none=>false
theorem zrl{l:PySem.W.OpenLaw}{q:Program}{loose:List Str}{XP:(Str->Option Value)->Heap->Prop}{YP:World->Heap->Prop}{dr:DefRec}{K:Params->PySem.W.Frag}(T:List Str)(d n k i:Nat)(hn:l.most=some 63)(hdf:dr.params.defaults=[])(hr:Room k callerA)
 (hY:∀(w:World)(h:Heap),YP w h->(K w.params).In h) (hT:T[i]?=some dr.name) (hne:dr.name≠"") (hS:∀(w:World)(ns:List Int),ns.length<=63->says (K w.params) T d n k i ns=true) (hL:∀w:World,lawOk (K w.params) dr.name=true) :
 PySem.W.WalkO q loose XP YP l.row.toRowW dr [] (λf vs=>PySem.call f vs):=by
 have any:∀w:World,∃Fs,cProg (K w.params) T d n=some Fs:=λw=>let⟨Fs,_,h,_⟩:=zok (hS w [] (vbk _));⟨Fs,h⟩
 refine L2.zt4 (n:=63) (k:=k) (x:="_law_script") (CX:=λ_=>CX0) (sp:=λw=>spV (K w.params) 1 (run (λj=>(Classical.choose (any w))[j]?) k i)) hn (by decide) hdf hr hY ?_ ?_ λ_ _ _ _ _ z=>z
 .intro w mg fa h KX G hmg
  have hP:=Classical.choose_spec (any w)
  obtain⟨fn',h1,h2⟩:=zeo hP i _ hT
  obtain⟨f',fd',st,ps',N,a1,a2,a3,a4,a5,a6,a7,o',fd'',args,a8,a9,a10⟩:=cF_ok (zoi h2 hne)
  have hps:ps'=[("_law_script" : Str)]:=by
   have hl:=hL w
   unfold lawOk at hl
   rw[a8]at hl
   simp only[a9]at hl
   cases args with
   |nil=>cases hl
   |cons z zs=>
    cases zs with
    |nil=>
     rw[vab]at hl
     have hl:z.arg = "_law_script":=by simpa using hl.1
     rw[a10,van,hl];rfl
    |cons _ _=>cases hl
  have hnd:hasD (K w.params) dr.name=false:=by
   have hl:=hL w
   unfold lawOk at hl
   rw[a8]at hl
   unfold hasD
   rw[a8]
   simp only[a9]at hl
   split at hl
   .rw[vab]at hl
    simpa using hl.2
   .cases hl
  have e:=PySem.W.mg_of KX G (zk7 a1)
  rw[hmg]at e
  cases e
  subst hps
  refine⟨fd',λs u=>.of_eq (a6.2.2 hnd [u] rfl),λbase KB GB=>?_⟩
  cases k with
  |zero=>exact zoc
  |succ k=>exact zsv (F:=λj=>(Classical.choose (any w))[j]?) h1 a2 a3 a4 a5 λcdv A outer s H E hr=>zct (snd_s (zoj KB GB a3 (λj y hj hy=>zu2 hP KB GB k k (vac _) j y hj hy) cdv A outer s H E hr) n) a7
 .intro w H a ns hl hO hQ
  obtain⟨Fs,h',e1,e2⟩:=zok (hS w ns hl)
  have hP:=Classical.choose_spec (any w)
  rw[hP]at e1
  cases e1
  refine⟨rfl,⟨0,0,[]⟩,λ_=>0,_,_,h',⟨λi hi=>absurd hi (Nat.not_lt_zero _),λi j hi=>absurd hi (Nat.not_lt_zero _),rfl⟩,.cons (.fz ?_ (zgd ns)) .nil,e2,λv H' m' _ _ q=>by cases q;rfl⟩
  rcases hQ with(q|⟨o,q⟩)|q
  .rcases hO a with z|⟨o,xs,z⟩
   .rw[z]at q;cases q
   .rw[z]at q;cases q
  .exact .inl ⟨o,q⟩
  .exact .inr q
noncomputable def fn0:Fn:=⟨1,1,(.seq (.ret (.and (.isi .int (.var 0)) (.not (.isi .bool (.var 0))))) .skip)⟩
noncomputable def fn1:Fn:=⟨3,3,(.seq (.ret (.and (.call 0 (.cons (.var 0) .nil)) (.chn .le .le (.var 1) (.var 0) (.var 2)))) .skip)⟩
noncomputable def fn2:Fn:=⟨2,2,(.seq (.ite (.cmp .eq (.bi .len (.cons (.var 0) .nil)) (.cst (.int (0)))) (.seq (.ret (.op .add (.op .mul (.cst (.int (7))) (.var 1)) (.cst (.int (3))))) .skip) .skip) (.seq (.ret (.bi .abs (.cons (.idx (.var 0) (.op .mod (.var 1) (.bi .len (.cons (.var 0) .nil)))) .nil))) .skip))⟩
noncomputable def zeb:E:=(.cmp .ge (.bi .abs (.cons (.var 0) .nil)) (.op .pow (.cst (.int (10))) (.cst (.int (18)))))
noncomputable def zec:E:=(.bi .abs (.cons (.var 0) .nil))
noncomputable def fn3:Fn:=⟨1,1,(.seq (.ret (.lst (.cons (.var 0) (.cons (.lc .seq (.var 0) (.one 0) 1 [] zeb zec) (.cons (.cst (.int (0))) (.cons (.cst (.int (0))) .nil)))))) .skip)⟩
noncomputable def fn4:Fn:=⟨3,4,(.seq (.set 3 (.op .mod (.op .pow (.op .add (.op .mul (.op .add (.op .mod (.call 2 (.cons (.var 0) (.cons (.var 1) .nil))) (.cst (.int (1000003)))) (.cst (.int (5)))) (.op .add (.var 1) (.cst (.int (2))))) (.op .mul (.cst (.int (7919))) (.var 1))) (.cst (.int (5)))) (.cst (.int (2147483647))))) (.seq (.ret (.op .mod (.op .fdiv (.var 3) (.cst (.int (13)))) (.var 2))) .skip))⟩
noncomputable def ziw:E:=(.cmp .lt (.idx (.var 0) (.cst (.int (2)))) (.bi .len (.cons (.idx (.var 0) (.cst (.int (1)))) .nil)))
noncomputable def zfb:S:=(.seq (.set 2 (.idx (.idx (.var 0) (.cst (.int (1)))) (.idx (.var 0) (.cst (.int (2)))))) (.seq (.ite (.cmp .gt (.var 2) (.cst (.int (0)))) (.seq (.put (.idx (.var 0) (.cst (.int (1)))) (.idx (.var 0) (.cst (.int (2)))) (.op .fdiv (.var 2) (.var 1))) (.seq (.ret (.op .mod (.var 2) (.var 1))) .skip)) .skip) (.seq (.put (.var 0) (.cst (.int (2))) (.op .add (.idx (.var 0) (.cst (.int (2)))) (.cst (.int (1))))) .skip)))
noncomputable def fn5:Fn:=⟨2,3,(.seq (.whl ziw zfb) (.seq (.put (.var 0) (.cst (.int (3))) (.op .add (.idx (.var 0) (.cst (.int (3)))) (.cst (.int (1))))) (.seq (.ret (.call 4 (.cons (.idx (.var 0) (.cst (.int (0)))) (.cons (.idx (.var 0) (.cst (.int (3)))) (.cons (.var 1) .nil))))) .skip)))⟩
noncomputable def fn6:Fn:=⟨3,3,(.seq (.ret (.and (.isi .tuple (.var 0)) (.chn .le .le (.var 1) (.bi .len (.cons (.var 0) .nil)) (.var 2)))) .skip)⟩
noncomputable def zk9:S:=(.seq (.ite (.not (.tru (.call 1 (.cons (.var 5) (.cons (.var 3) (.cons (.var 4) .nil)))))) (.seq (.ret (.cst (.bl false))) .skip) .skip) .skip)
noncomputable def fn7:Fn:=⟨5,6,(.seq (.ite (.not (.tru (.call 6 (.cons (.var 0) (.cons (.var 1) (.cons (.var 2) .nil)))))) (.seq (.ret (.cst (.bl false))) .skip) .skip) (.seq (.«for» .seq (.var 0) (.one 5) zk9) (.seq (.ret (.cst (.bl true))) .skip)))⟩
noncomputable def zla:S:=(.seq (.ite (.not (.tru (.call 11 (.cons (.var 3) (.cons (.var 2) .nil))))) (.seq (.ret (.cst (.bl false))) .skip) .skip) .skip)
noncomputable def fn8:Fn:=⟨3,4,(.seq (.ite (.not (.tru (.call 6 (.cons (.var 0) (.cons (.var 1) (.cons (.var 1) .nil)))))) (.seq (.ret (.cst (.bl false))) .skip) .skip) (.seq (.«for» .seq (.var 0) (.one 3) zla) (.seq (.ret (.cst (.bl true))) .skip)))⟩
noncomputable def zlb:S:=(.seq (.ite (.not (.tru (.call 6 (.cons (.var 2) (.cons (.var 1) (.cons (.var 1) .nil)))))) (.seq (.ret (.cst (.bl false))) .skip) .skip) .skip)
noncomputable def fn9:Fn:=⟨2,3,(.seq (.ite (.not (.tru (.call 6 (.cons (.var 0) (.cons (.cst (.int (0))) (.cons (.cst (.int (60))) .nil)))))) (.seq (.ret (.cst (.bl false))) .skip) .skip) (.seq (.«for» .seq (.var 0) (.one 2) zlb) (.seq (.ret (.cst (.bl true))) .skip)))⟩
noncomputable def fn10:Fn:=⟨1,6,(.seq (.ite (.not (.tru (.call 6 (.cons (.var 0) (.cons (.cst (.int (5))) (.cons (.cst (.int (5))) .nil)))))) (.seq (.ret (.cst (.bl false))) .skip) .skip) (.seq (.unp [1,2,3,4,5] (.var 0)) (.seq (.ite (.or (.not (.tru (.call 1 (.cons (.var 1) (.cons (.cst (.int (1))) (.cons (.cst (.int (40))) .nil)))))) (.not (.tru (.call 1 (.cons (.var 2) (.cons (.cst (.int (0))) (.cons (.cst (.int (8))) .nil))))))) (.seq (.ret (.cst (.bl false))) .skip) .skip) (.seq (.ite (.not (.tru (.call 7 (.cons (.var 4) (.cons (.cst (.int (1))) (.cons (.cst (.int (4))) (.cons (.cst (.int (0))) (.cons (.op .sub (.var 1) (.cst (.int (1)))) .nil)))))))) (.seq (.ret (.cst (.bl false))) .skip) .skip) (.seq (.ret (.and (.call 9 (.cons (.var 3) (.cons (.var 1) .nil))) (.call 8 (.cons (.var 5) (.cons (.var 1) (.cons (.bi .len (.cons (.var 4) .nil)) .nil)))))) .skip)))))⟩
noncomputable def fn11:Fn:=⟨2,4,(.seq (.ite (.not (.tru (.call 6 (.cons (.var 0) (.cons (.cst (.int (2))) (.cons (.cst (.int (2))) .nil)))))) (.seq (.ret (.cst (.bl false))) .skip) .skip) (.seq (.unp [2,3] (.var 0)) (.seq (.ret (.and (.call 1 (.cons (.var 2) (.cons (.cst (.int (0))) (.cons (.cst (.int (99))) .nil)))) (.call 12 (.cons (.var 3) (.cons (.var 1) .nil))))) .skip)))⟩
noncomputable def fn12:Fn:=⟨2,2,(.seq (.ret (.or (.cmp .isn (.var 0) (.cst .non)) (.call 1 (.cons (.var 0) (.cons (.cst (.int (0))) (.cons (.op .sub (.var 1) (.cst (.int (1)))) .nil)))))) .skip)⟩
noncomputable def fn13:Fn:=⟨2,4,(.seq (.ite (.not (.tru (.call 6 (.cons (.var 0) (.cons (.cst (.int (2))) (.cons (.cst (.int (2))) .nil)))))) (.seq (.ret (.cst (.bl false))) .skip) .skip) (.seq (.unp [2,3] (.var 0)) (.seq (.ret (.and (.call 1 (.cons (.var 2) (.cons (.cst (.int (0))) (.cons (.op .sub (.var 1) (.cst (.int (1)))) .nil)))) (.call 1 (.cons (.var 3) (.cons (.cst (.int (0))) (.cons (.cst (.int (1))) .nil)))))) .skip)))⟩
noncomputable def zhe:S:=(.seq (.ite (.not (.tru (.call 15 (.cons (.var 7) (.cons (.var 6) (.cons (.var 1) (.cons (.var 2) .nil))))))) (.seq .no .skip) .skip) .skip)
noncomputable def zhf:S:=(.seq (.«for» .enm (.var 5) (.many [6,7]) zhe) .skip)
noncomputable def fn14:Fn:=⟨1,8,(.seq (.ite (.not (.tru (.call 10 (.cons (.var 0) .nil)))) (.seq .no .skip) .skip) (.seq (.unp [1,2,3] (.slc (.var 0) false (.cst .non) true (.cst (.int (3))))) (.seq (.«for» .enm (.var 3) (.many [4,5]) zhf) .skip)))⟩
noncomputable def fn15:Fn:=⟨4,4,(.seq (.ite (.or (.cmp .eq (.var 0) (.cst (.str (PySem.Str.ofString "x")))) (.tru (.call 13 (.cons (.var 0) (.cons (.var 3) .nil))))) (.seq (.ret (.chn .lt .lt (.cst (.int (0))) (.var 1) (.op .sub (.var 2) (.cst (.int (1)))))) .skip) .skip) (.seq (.ite (.cmp .eq (.var 0) (.cst (.str (PySem.Str.ofString "<")))) (.seq (.ret (.cmp .gt (.var 1) (.cst (.int (0))))) .skip) .skip) (.seq (.ite (.cmp .eq (.var 0) (.cst (.str (PySem.Str.ofString ">")))) (.seq (.ret (.cmp .lt (.var 1) (.op .sub (.var 2) (.cst (.int (1)))))) .skip) .skip) (.seq (.ret (.or (.cmp .eq (.var 0) (.cst (.str (PySem.Str.ofString ".")))) (.cmp .eq (.var 0) (.cst (.str (PySem.Str.ofString "s")))))) .skip))))⟩
noncomputable def fn21:Fn:=⟨4,6,(.seq (.set 4 (.call 5 (.cons (.var 0) (.cons (.cst (.int (10))) .nil)))) (.seq (.set 5 (.idx (.lst (.cons (.cst (.str (PySem.Str.ofString "."))) (.cons (.cst (.str (PySem.Str.ofString "<"))) (.cons (.cst (.str (PySem.Str.ofString ">"))) (.cons (.cst (.str (PySem.Str.ofString "x"))) (.cons (.cst (.str (PySem.Str.ofString "."))) (.cons (.cst (.str (PySem.Str.ofString "."))) .nil))))))) (.bi .min (.cons (.var 4) (.cons (.cst (.int (5))) .nil))))) (.seq (.ite (.and (.cmp .gt (.var 4) (.cst (.int (4)))) (.cmp .gt (.var 3) (.cst (.int (0))))) (.seq (.set 5 (.tup (.cons (.call 5 (.cons (.var 0) (.cons (.var 3) .nil))) (.cons (.call 5 (.cons (.var 0) (.cons (.cst (.int (2))) .nil))) .nil)))) .skip) .skip) (.seq (.ite (.and (.cmp .eq (.var 4) (.cst (.int (4)))) (.cmp .eq (.call 5 (.cons (.var 0) (.cons (.cst (.int (4))) .nil))) (.cst (.int (0))))) (.seq (.ret (.cst (.str (PySem.Str.ofString "s")))) .skip) .skip) (.seq (.ite (.or (.and (.cmp .eq (.var 1) (.cst (.int (0)))) (.cmp .nin (.var 5) (.tup (.cons (.cst (.str (PySem.Str.ofString "."))) (.cons (.cst (.str (PySem.Str.ofString ">"))) .nil))))) (.and (.cmp .eq (.var 1) (.op .sub (.var 2) (.cst (.int (1))))) (.cmp .nin (.var 5) (.tup (.cons (.cst (.str (PySem.Str.ofString "."))) (.cons (.cst (.str (PySem.Str.ofString "<"))) .nil)))))) (.seq (.ret (.idx (.lst (.cons (.cst (.str (PySem.Str.ofString ">"))) (.cons (.cst (.str (PySem.Str.ofString "<"))) (.cons (.cst (.str (PySem.Str.ofString "."))) .nil)))) (.bi .min (.cons (.op .add (.bi .int (.cons (.cmp .gt (.var 1) (.cst (.int (0)))) .nil)) (.op .mul (.cst (.int (2))) (.bi .int (.cons (.cmp .eq (.var 2) (.cst (.int (1)))) .nil)))) (.cons (.cst (.int (2))) .nil))))) .skip) .skip) (.seq (.ret (.var 5)) .skip))))))⟩
noncomputable def fn23:Fn:=⟨2,4,(.seq (.set 2 (.idx (.lst (.cons (.call 5 (.cons (.var 0) (.cons (.cst (.int (3))) .nil))) (.cons (.call 5 (.cons (.var 0) (.cons (.cst (.int (100))) .nil))) .nil))) (.bi .int (.cons (.cmp .eq (.call 5 (.cons (.var 0) (.cons (.cst (.int (4))) .nil))) (.cst (.int (0)))) .nil)))) (.seq (.set 3 (.call 5 (.cons (.var 0) (.cons (.var 1) .nil)))) (.seq (.ite (.cmp .eq (.call 5 (.cons (.var 0) (.cons (.cst (.int (8))) .nil))) (.cst (.int (0)))) (.seq (.ret (.tup (.cons (.var 2) (.cons (.cst .non) .nil)))) .skip) .skip) (.seq (.ret (.tup (.cons (.var 2) (.cons (.var 3) .nil)))) .skip))))⟩
noncomputable def zhg:E:=(.call 21 (.cons (.var 1) (.cons (.var 0) (.cons (.var 3) (.cons (.var 2) .nil)))))
noncomputable def fn25:Fn:=⟨3,3,(.seq (.ret (.bi .tuple (.cons (.lc .rng1 (.cons (.var 1) .nil) (.one 0) 1 [0,2,1] (.cst (.bl true)) zhg) .nil))) .skip)⟩
noncomputable def zol:E:=(.call 25 (.cons (.var 1) (.cons (.var 3) (.cons (.var 2) .nil))))
noncomputable def zom:E:=(.call 5 (.cons (.var 1) (.cons (.var 2) .nil)))
noncomputable def zon:E:=(.call 23 (.cons (.var 1) (.cons (.bi .len (.cons (.var 2) .nil)) .nil)))
noncomputable def fn26:Fn:=⟨4,9,(.seq (.set 4 (.op .add (.cst (.int (1))) (.call 5 (.cons (.var 0) (.cons (.var 1) .nil))))) (.seq (.set 5 (.call 5 (.cons (.var 0) (.cons (.op .add (.var 3) (.cst (.int (1)))) .nil)))) (.seq (.set 6 (.lc .rng1 (.cons (.call 5 (.cons (.var 0) (.cons (.op .add (.var 2) (.cst (.int (1)))) .nil))) .nil) (.one 0) 1 [0,5,4] (.cst (.bl true)) zol)) (.seq (.set 7 (.bi .tuple (.cons (.lc .rng1 (.cons (.op .add (.cst (.int (1))) (.call 5 (.cons (.var 0) (.cons (.cst (.int (4))) .nil)))) .nil) (.one 0) 1 [0,4] (.cst (.bl true)) zom) .nil))) (.seq (.set 8 (.bi .tuple (.cons (.lc .rng1 (.cons (.var 4) .nil) (.one 0) 1 [0,7] (.cst (.bl true)) zon) .nil))) (.seq (.ret (.tup (.cons (.var 4) (.cons (.var 5) (.cons (.bi .tuple (.cons (.var 6) .nil)) (.cons (.var 7) (.cons (.var 8) .nil))))))) .skip))))))⟩
noncomputable def fin(h:VH)(r:Res Fl):Res W:=r.bind λfl h'=>match fl with
 |.nx _=>leave h .non h'
 |.rt w=>leave h w h'
 |_=>.no
theorem zaf{k f:Nat}{h:VH}(hF:F f=some fn)(hl:ws.length=fn.ps) :
 run F (k+1) f ws h=fin h (exs (run F k) fn.body (ws.map some++List.replicate (fn.n-fn.ps) none) ⟨h.n,h.n,h.os⟩):=by
 simp only[run,hF]
 rw[if_pos (by rw[hl];exact Nat.beq_refl _)]
 rfl
theorem zge(h1:h.n<=h'.lo)(h2:W.lt h.n w=true):leave h w h'=.ok w h:=by
 unfold leave
 rw[if_pos (by rw[vab];exact⟨vd1.mpr h1,h2⟩)]
theorem zaj(h1:h.n<=h'.lo)(h2:W.lt h.n w=true):fin h (.ok (.rt w) h')=.ok w h:=zge h1 h2
theorem zs0{ρ:En}(h1:h.n<=h'.lo):fin h (.ok (.nx ρ) h')=.ok .non h:=zge h1 (by simp only[W.lt])
@[simp] theorem bindok {α β:Type} {a:α} {h:VH} {f:α->VH->Res β}:(Res.ok a h).bind f=f a h:=rfl
@[simp] theorem bindno {α β:Type} {f:α->VH->Res β}:(Res.no:Res α).bind f=.no:=rfl
@[simp] theorem ofsome {α:Type} {a:α} {h:VH}:Res.of (some a) h=.ok a h:=rfl
@[simp] theorem ofnone {α:Type} {h:VH}:Res.of (none:Option α) h=.no:=rfl
@[simp] theorem lt_non {n:Nat}:W.lt n .non=true:=by simp only[W.lt]
@[simp] theorem lt_bl {n:Nat} {b:Bool}:W.lt n (.bl b)=true:=by simp only[W.lt]
@[simp] theorem lt_int {n:Nat} {b:Int}:W.lt n (.int b)=true:=by simp only[W.lt]
@[simp] theorem lt_str {n:Nat} {b:Str}:W.lt n (.str b)=true:=by simp only[W.lt]
@[simp] theorem lt_tup {n:Nat} {b:List W}:W.lt n (.tup b)=W.lts n b:=by simp only[W.lt]
@[simp] theorem lts_nil {n:Nat}:W.lts n []=true:=by simp only[W.lts]
@[simp] theorem lts_cons {n:Nat} {b:W} {r:List W}:W.lts n (b::r)=(W.lt n b&&W.lts n r):=by simp only[W.lts]
@[simp] theorem ty_int_int:((Ty.int==Ty.int):Bool)=true:=rfl
@[simp] theorem ty_int_bool:((Ty.int==Ty.bool):Bool)=false:=rfl
@[simp] theorem ty_int_tuple:((Ty.int==Ty.tuple):Bool)=false:=rfl
@[simp] theorem ty_int_list:((Ty.int==Ty.list):Bool)=false:=rfl
@[simp] theorem ty_int_str:((Ty.int==Ty.str):Bool)=false:=rfl
@[simp] theorem ty_int_dict:((Ty.int==Ty.dict):Bool)=false:=rfl
@[simp] theorem ty_bool_int:((Ty.bool==Ty.int):Bool)=false:=rfl
@[simp] theorem ty_bool_bool:((Ty.bool==Ty.bool):Bool)=true:=rfl
@[simp] theorem ty_bool_tuple:((Ty.bool==Ty.tuple):Bool)=false:=rfl
@[simp] theorem ty_bool_list:((Ty.bool==Ty.list):Bool)=false:=rfl
@[simp] theorem ty_bool_str:((Ty.bool==Ty.str):Bool)=false:=rfl
@[simp] theorem ty_bool_dict:((Ty.bool==Ty.dict):Bool)=false:=rfl
@[simp] theorem ty_tuple_int:((Ty.tuple==Ty.int):Bool)=false:=rfl
@[simp] theorem ty_tuple_bool:((Ty.tuple==Ty.bool):Bool)=false:=rfl
@[simp] theorem ty_tuple_tuple:((Ty.tuple==Ty.tuple):Bool)=true:=rfl
@[simp] theorem ty_tuple_list:((Ty.tuple==Ty.list):Bool)=false:=rfl
@[simp] theorem ty_tuple_str:((Ty.tuple==Ty.str):Bool)=false:=rfl
@[simp] theorem ty_tuple_dict:((Ty.tuple==Ty.dict):Bool)=false:=rfl
@[simp] theorem ty_list_int:((Ty.list==Ty.int):Bool)=false:=rfl
@[simp] theorem ty_list_bool:((Ty.list==Ty.bool):Bool)=false:=rfl
@[simp] theorem ty_list_tuple:((Ty.list==Ty.tuple):Bool)=false:=rfl
@[simp] theorem ty_list_list:((Ty.list==Ty.list):Bool)=true:=rfl
@[simp] theorem ty_list_str:((Ty.list==Ty.str):Bool)=false:=rfl
@[simp] theorem ty_list_dict:((Ty.list==Ty.dict):Bool)=false:=rfl
@[simp] theorem ty_str_int:((Ty.str==Ty.int):Bool)=false:=rfl
@[simp] theorem ty_str_bool:((Ty.str==Ty.bool):Bool)=false:=rfl
@[simp] theorem ty_str_tuple:((Ty.str==Ty.tuple):Bool)=false:=rfl
@[simp] theorem ty_str_list:((Ty.str==Ty.list):Bool)=false:=rfl
@[simp] theorem ty_str_str:((Ty.str==Ty.str):Bool)=true:=rfl
@[simp] theorem ty_str_dict:((Ty.str==Ty.dict):Bool)=false:=rfl
@[simp] theorem ty_dict_int:((Ty.dict==Ty.int):Bool)=false:=rfl
@[simp] theorem ty_dict_bool:((Ty.dict==Ty.bool):Bool)=false:=rfl
@[simp] theorem ty_dict_tuple:((Ty.dict==Ty.tuple):Bool)=false:=rfl
@[simp] theorem ty_dict_list:((Ty.dict==Ty.list):Bool)=false:=rfl
@[simp] theorem ty_dict_str:((Ty.dict==Ty.str):Bool)=false:=rfl
@[simp] theorem ty_dict_dict:((Ty.dict==Ty.dict):Bool)=true:=rfl
@[simp] theorem isi_non {t:Ty} {h:VH}:tyIs t h .non=some false:=rfl
@[simp] theorem isi_bl {t:Ty} {h:VH} {b:Bool}:tyIs t h (.bl b)=some (t == .int||t == .bool):=rfl
@[simp] theorem isi_int {t:Ty} {h:VH} {i:Int}:tyIs t h (.int i)=some (t == .int):=rfl
@[simp] theorem isi_str {t:Ty} {h:VH} {x:Str}:tyIs t h (.str x)=some (t == .str):=rfl
@[simp] theorem isi_tup {t:Ty} {h:VH} {x:List W}:tyIs t h (.tup x)=some (t == .tuple):=rfl
@[simp] theorem get_lo {h:VH} {l i:Nat}:VH.get ⟨h.n,l,h.os⟩ i=h.get i:=by unfold VH.get;rfl
@[simp] theorem tru_bl {h:VH} {b:Bool}:truW h (.bl b)=some b:=rfl
noncomputable def forL(tg:W->VH->En->Option En)(b:FS):List W->En->VH->Res Fl
 |[],ρ,h=>.ok (.nx ρ) h
 |w::r,ρ,h=>match tg w h ρ with
  |none=>.no
  |some ρ=>(b ρ h).bind λfl h=>match fl with
   |.nx ρ=>forL tg b r ρ h
   |.ct ρ=>forL tg b r ρ h
   |.bk ρ=>.ok (.nx ρ) h
   |.rt w=>.ok (.rt w) h
noncomputable def lcL(tg:W->VH->En->Option En)(c e:FE):List W->En->VH->Res (List W)
 |[],_,h=>.ok [] h
 |w::r,ρ,h=>match tg w h ρ with
  |none=>.no
  |some ρ=>(c ρ h).bind λb h=>match b with
   |.bl true=>(e ρ h).bind λy h=>(lcL tg c e r ρ h).bind λys h=>.ok (y::ys) h
   |.bl false=>lcL tg c e r ρ h
   |_=>.no
theorem zgf{α β γ:Type}{r:Res α}{f:α->VH->Res β}{g:β->VH->Res γ}:(r.bind f).bind g=r.bind λa h=>(f a h).bind g:=by cases r<;>rfl
theorem zda{nx:Nat->VH->Option (Option W)}{tg:W->VH->En->Option En}{b:FS}{ws:List W}(hx:∀i h,nx i h=some ws[i]?):∀(fu i:Nat) (ρ:En) (h:VH),i<=ws.length->ws.length<fu+i->forG nx tg b fu i ρ h=forL tg b (ws.drop i) ρ h
 |0,i,ρ,h,hi,hl=>by omega
 |fu+1,i,ρ,h,hi,hl=>by
  simp only[forG,hx]
  cases q:ws[i]? with
  |none=>
   rw[vdj (vbh.mp q)]
   rfl
  |some w=>
   obtain⟨hi,e⟩:=va3.mp q
   rw[vc5 hi,e]
   simp only[forL]
   cases tg w h ρ with
   |none=>rfl
   |some ρ'=>
    simp only
    congr 1
    funext fl h1
    cases fl<;>simp only[zda hx fu (i+1) _ _ hi (by omega)]
theorem zdb{nx:Nat->VH->Option (Option W)}{tg:W->VH->En->Option En}{c e:FE}{ws:List W}(hx:∀i h,nx i h=some ws[i]?):∀(fu i:Nat) (ρ:En) (h:VH) (acc:List W),i<=ws.length->ws.length<fu+i->
 lcG nx tg c e fu i ρ h acc=(lcL tg c e (ws.drop i) ρ h).bind λys h=>.ok (acc.reverse++ys) h
 |0,i,ρ,h,acc,hi,hl=>by omega
 |fu+1,i,ρ,h,acc,hi,hl=>by
  simp only[lcG,hx]
  cases q:ws[i]? with
  |none=>
   rw[vdj (vbh.mp q)]
   simp[lcL]
  |some w=>
   obtain⟨hi,ee⟩:=va3.mp q
   rw[vc5 hi,ee]
   simp only[lcL]
   cases tg w h ρ with
   |none=>rfl
   |some ρ'=>
    simp only[zgf]
    congr 1
    funext bv h1
    cases bv<;>try rfl
    rename_i bb
    cases bb with
    |true=>
     simp only[zgf]
     congr 1
     funext y h2
     rw[zdb hx fu (i+1) _ _ _ hi (by omega)]
     congr 1
     funext ys h3
     simp
    |false=>simp only[zdb hx fu (i+1) _ _ _ hi (by omega)]
theorem zcv{ws:List W}{tg:W->VH->En->Option En}{b:FS}{ρ:En}{h:VH}(hl:ws.length<1000000):forG (nxt .seq (.tup ws)) tg b fuel 0 ρ h=forL tg b ws ρ h:=by
 have:=zda (nx:=nxt .seq (.tup ws)) (tg:=tg) (b:=b) (ws:=ws) (λi h=>rfl) fuel 0 ρ h (vbk _) (by simpa[fuel]using hl)
 simpa using this
noncomputable def enumW:Nat->List W->List W
 |_,[]=>[]
 |i,w::r=>.tup [.int i,w]::enumW (i+1) r
theorem zix:∀(ws:List W) (i j:Nat),(enumW j ws)[i]?=(ws[i]?).map λw=>.tup [.int ((j+i:Nat):Int),w]
 |[],i,j=>by simp[enumW]
 |w::r,0,j=>by simp[enumW]
 |w::r,i+1,j=>by
  simp only[enumW,vas]
  rw[zix r i (j+1)]
  congr 1
  funext w
  rw[show j+1+i=j+ (i+1) by omega]
theorem ziy:∀(ws:List W) (j:Nat),(enumW j ws).length=ws.length
 |[],_=>rfl
 |_::r,j=>by simp[enumW,ziy r]
theorem zlc{ws:List W}{tg:W->VH->En->Option En}{b:FS}{ρ:En}{h:VH}(hl:ws.length<1000000):forG (nxt .enm (.tup ws)) tg b fuel 0 ρ h=forL tg b (enumW 0 ws) ρ h:=by
 have:=zda (nx:=nxt .enm (.tup ws)) (tg:=tg) (b:=b) (ws:=enumW 0 ws) (λi h=>by rw[zix];simp[nxt,seqW]) fuel 0 ρ h (vbk _) (by simpa[fuel,ziy]using hl)
 simpa using this
noncomputable def zan(a:Int):Nat->List W
 |0=>[]
 |n+1=>.int a::zan (a+1) n
theorem zdx:∀(n i:Nat) (a:Int),(zan a n)[i]?=if i<n then some (.int (a+i))else none
 |0,i,a=>by simp[zan]
 |n+1,0,a=>by simp[zan]
 |n+1,i+1,a=>by
  simp only[zan,vas]
  rw[zdx n i (a+1)]
  by_cases q:i<n
  .rw[if_pos q,if_pos (by omega)]
   congr 2
   push_cast
   omega
  .rw[if_neg q,if_neg (by omega)]
theorem zdy:∀(n:Nat) (a:Int),(zan a n).length=n
 |0,_=>rfl
 |n+1,a=>by simp[zan,zdy n]
theorem zoo{n:Nat}{tg:W->VH->En->Option En}{b:FS}{ρ:En}{h:VH}(hl:n<1000000):forG (nxt .rng1 (.tup [.int n])) tg b fuel 0 ρ h=forL tg b (zan 0 n) ρ h:=by
 have hf:fits (n:Int)=true:=by simp[fits];omega
 have:=zda (nx:=nxt .rng1 (.tup [.int n])) (tg:=tg) (b:=b) (ws:=zan 0 n) (λi h=>by rw[zdx];simp[nxt,hf]) fuel 0 ρ h (vbk _) (by simpa[fuel,zdy]using hl)
 simpa using this
theorem zy4{n:Nat}{tg:W->VH->En->Option En}{c e:FE}{ρ:En}{h:VH}(hl:n<1000000):lcG (nxt .rng1 (.tup [.int n])) tg c e fuel 0 ρ h []=lcL tg c e (zan 0 n) ρ h:=by
 have hf:fits (n:Int)=true:=by simp[fits];omega
 have:=zdb (nx:=nxt .rng1 (.tup [.int n])) (tg:=tg) (c:=c) (e:=e) (ws:=zan 0 n) (λi h=>by rw[zdx];simp[nxt,hf]) fuel 0 ρ h [] (vbk _) (by simpa[fuel,zdy]using hl)
 rw[this]
 simp only[vc6,vdx,vb4]
 cases lcL tg c e (zan 0 n) ρ h<;>rfl
noncomputable def isInt:W->Bool
 |.int _=>true
 |_=>false
noncomputable def Kn(h:VH)(w:W):Prop:=tyIs .int h w≠none
theorem kn_lo{l:Nat}:Kn ⟨h.n,l,h.os⟩ w↔Kn h w:=by
 unfold Kn
 cases w<;>simp[tyIs]
structure CoreA(F:Nat->Option Fn):Prop where
 f0:F 0=some fn0
 f1:F 1=some fn1
 f6:F 6=some fn6
 f7:F 7=some fn7
section
variable{F:Nat->Option Fn}(C:CoreA F)
include C
theorem zrm{k:Nat}(hw:Kn h w):run F (k+1) 0 [w] h=.ok (.bl (isInt w)) h:=by
 rw[zaf C.f0 rfl]
 cases w<;>try(simp[fn0,exs,ev,isInt,zaj];done)
 .exact absurd rfl hw
 .rename_i i
  unfold Kn at hw
  simp only[tyIs]at hw
  cases g:h.get i with
  |none=>rw[g]at hw;exact absurd rfl hw
  |some o=>cases o<;>first|(simp[fn0,exs,ev,isInt,zaj,tyIs,g];done)|(simp[g]at hw)
noncomputable def within(w:W)(lo hi:Int):Bool:=match w with
 |.int i=>decide (lo<=i)&&decide (i<=hi)
 |_=>false
theorem zay{k:Nat}{lo hi:Int}(hw:Kn h w):run F (k+2) 1 [w,.int lo,.int hi] h=.ok (.bl (within w lo hi)) h:=by
 rw[zaf C.f1 rfl]
 have e:=zrm C (k:=k) (h:=⟨h.n,h.n,h.os⟩) (w:=w) (kn_lo.mpr hw)
 cases w<;>simp[fn1,exs,ev,e,isInt,within,zaj,cmpW,eqYs,cmpI]
 rename_i i
 by_cases h1:lo<=i<;>simp[h1,zaj]
noncomputable def zar(w:W)(lo hi:Int):Bool:=match w with
 |.tup ws=>decide (lo<=ws.length)&&decide ((ws.length:Int)<=hi)
 |_=>false
theorem zam{k:Nat}{lo hi:Int}(hw:Kn h w):run F (k+1) 6 [w,.int lo,.int hi] h=.ok (.bl (zar w lo hi)) h:=by
 rw[zaf C.f6 rfl]
 cases w<;>try(simp[fn6,exs,ev,zar,zaj];done)
 .rename_i ws
  simp[fn6,exs,ev,zar,zaj,cmpW,eqYs,cmpI,biW,lenW,seqW]
  by_cases h1:lo<=ws.length<;>simp[h1,zaj]
 .exact absurd rfl hw
 .rename_i i
  unfold Kn at hw
  simp only[tyIs]at hw
  cases g:h.get i with
  |none=>rw[g]at hw;exact absurd rfl hw
  |some o=>cases o<;>first|(simp[fn6,exs,ev,zar,zaj,tyIs,g];done)|(simp[g]at hw)
theorem loop7{k:Nat}{lo hi:Int}:∀(ws:List W) (x:Option W),(∀w∈ws,Kn h w)->∃y,forL (tgW (.one 5)) (exs (run F (k+2)) zk9) ws [some t,some a,some b,some (.int lo),some (.int hi),x] h =
 if ws.all (within · lo hi)then .ok (.nx [some t,some a,some b,some (.int lo),some (.int hi),y]) h else .ok (.rt (.bl false)) h
 |[],x,_=>⟨x,by simp[forL]⟩
 |w::r,x,hk=>by
  obtain⟨y,e⟩:=loop7 (t:=t) (a:=a) (b:=b) (k:=k) (lo:=lo) (hi:=hi) r (some w) λz hz=>hk z (vai _ hz)
  refine⟨y,?_⟩
  have e1:=zay C (k:=k) (lo:=lo) (hi:=hi) (hk w vam)
  have eb:exs (run F (k+2)) zk9 [some t,some a,some b,some (.int lo),some (.int hi),some w] h=if within w lo hi then .ok (.nx [some t,some a,some b,some (.int lo),some (.int hi),some w]) h else .ok (.rt (.bl false)) h:=by
   cases q:within w lo hi<;>simp[zk9,exs,ev,e1,q]
  simp only[forL,tgW,List.set,eb]
  cases q:within w lo hi<;>simp[q,e]
noncomputable def zdc(w:W)(a b lo hi:Int):Bool:=match w with
 |.tup ws=>zar w a b&&ws.all (within · lo hi)
 |_=>false
theorem zbu{k:Nat}{a b lo hi:Int}(hw:Kn h w)(hp:∀ws,w=.tup ws->ws.length<1000000/\∀x∈ws,Kn h x):run F (k+3) 7 [w,.int a,.int b,.int lo,.int hi] h=.ok (.bl (zdc w a b lo hi)) h:=by
 rw[zaf C.f7 rfl]
 have e1:=zam C (k:=k+1) (h:=⟨h.n,h.n,h.os⟩) (w:=w) (lo:=a) (hi:=b) (kn_lo.mpr hw)
 cases q:zar w a b with
 |false=>
  have:zdc w a b lo hi=false:=by cases w<;>simp[zdc,q]
  simp[fn7,exs,ev,e1,q,this,zaj]
 |true=>
  cases w<;>try(simp[zar]at q;done)
  rename_i ws
  obtain⟨hl,hk⟩:=hp ws rfl
  obtain⟨y,e2⟩:=loop7 C (k:=k) (h:=⟨h.n,h.n,h.os⟩) (t:=.tup ws) (a:=.int a) (b:=.int b) (lo:=lo) (hi:=hi) ws none λx hx=>kn_lo.mpr (hk x hx)
  have e3:zdc (.tup ws) a b lo hi=ws.all (within · lo hi):=by simp[zdc,q]
  rw[e3]
  cases q2:ws.all (within · lo hi)with
  |true=>simp[fn7,exs,ev,e1,q,zcv hl,e2,q2,zaj]
  |false=>simp[fn7,exs,ev,e1,q,zcv hl,e2,q2,zaj]
end
noncomputable def za2:Nat->W->Bool
 |0,_=>false
 |n+1,w=>match w with
  |.non=>true
  |.bl _=>true
  |.int _=>true
  |.str x=>PyData.strOk x
  |.tup ws=>ws.all (za2 n)
  |_=>false
theorem zld{f:W->Option PyData}{p:W->Bool}{n:Nat}(h:∀w,p w=true->∃d,f w=some d/\d.canLay0=true/\d.depth<=n):∀ws:List W,ws.all p=true->∃ds,mapO f ws=some ds/\PyData.canLayAll0 ds=true/\PyData.depthAll ds<=n
 |[],_=>⟨[],rfl,rfl,vbk _⟩
 |w::r,e=>by
  rw[vcs,vab]at e
  obtain⟨d,h1,h2,h3⟩:=h w e.1
  obtain⟨ds,h4,h5,h6⟩:=zld h r e.2
  refine⟨d::ds,by simp[mapO,h1,h4],?_,?_⟩
  .show(d.canLay0&&PyData.canLayAll0 ds)=true
   rw[h2,h5];rfl
  .show max d.depth (PyData.depthAll ds)<=n
   omega
theorem zcc(h:VH):∀(n:Nat) (w:W),za2 n w=true->∃d,toD h n w=some d/\d.canLay0=true/\d.depth<=n
 |0,_,e=>by cases e
 |n+1,w,e=>by
  cases w<;>simp only[za2]at e<;>try(cases e;done)
  .exact⟨.none,rfl,rfl,vbk _⟩
  .exact⟨.bool _,rfl,rfl,vbk _⟩
  .exact⟨.int _,rfl,rfl,vbk _⟩
  .exact⟨.str _,rfl,e,vbk _⟩
  .obtain⟨ds,h1,h2,h3⟩:=zld (zcc h n) _ e
   exact⟨.tuple ds,by simp[toD,h1],h2,by show PyData.depthAll ds+1<=n+1;omega⟩
mutual
theorem zle:∀d:PyData,d.canLay0=true->PyData.eqv d d=true
 |.none,_=>rfl
 |.bool b,_=>by simp[PyData.eqv]
 |.int i,_=>by simp[PyData.eqv]
 |.str x,_=>by simp[PyData.eqv]
 |.list xs,h=>by
  simp only[PyData.eqv]
  exact zcw xs h
 |.tuple xs,h=>by
  simp only[PyData.eqv]
  exact zcw xs h
 |.dict _,h=>by cases h
theorem zcw:∀ds:List PyData,PyData.canLayAll0 ds=true->PyData.eqvAll ds ds=true
 |[],_=>rfl
 |d::ds,h=>by
  have h:(d.canLay0&&PyData.canLayAll0 ds)=true:=h
  rw[vab]at h
  simp only[PyData.eqvAll,zle d h.1,zcw ds h.2,vd5]
end
theorem zzr(p:za2 24 w=true):eqW h w w=some true:=by
 obtain⟨d,h1,h2,h3⟩:=zcc h 24 w p
 have hs:SeqAt.shaped d=true:=by
  unfold SeqAt.shaped
  rw[h2,vdd,va0];omega
 unfold eqW
 rw[h1]
 simp[hs,zle d h2]
noncomputable def isS(w:W)(x:Str):Bool:=match w with
 |.str y=>y==x
 |_=>false
theorem zcx{x:Str}(p:za2 24 w=true)(hx:PyData.strOk x=true):eqW h w (.str x)=some (isS w x):=by
 obtain⟨d,h1,h2,h3⟩:=zcc h 24 w p
 have hs:SeqAt.shaped d=true:=by
  unfold SeqAt.shaped
  rw[h2,vdd,va0];omega
 have hs2:SeqAt.shaped (.str x)=true:=by
  unfold SeqAt.shaped
  show(PyData.strOk x&&_)=true
  rw[hx];rfl
 unfold eqW
 rw[h1]
 have h4:toD h 24 (.str x)=some (.str x):=rfl
 rw[h4]
 simp only[hs,hs2,vd5,vbm]
 cases w<;>simp only[toD]at h1<;>try(cases h1;done)
 .cases h1;simp[isS,PyData.eqv]
 .cases h1;simp[isS,PyData.eqv]
 .cases h1;simp[isS,PyData.eqv]
 .cases h1;simp[isS,PyData.eqv]
 .obtain⟨ds,h5,h6⟩:=Option.map_eq_some_iff.mp h1
  subst h6
  simp[isS,PyData.eqv]
 .simp[za2]at p
 .simp[za2]at p
theorem ziz{n:Nat}:za2 (n+1) (.tup ws)=ws.all (za2 n):=rfl
theorem zhh{n:Nat}(p:za2 n w=true):Kn h w:=by
 unfold Kn
 cases n with
 |zero=>cases p
 |succ n=>cases w<;>simp[za2,tyIs]at p ⊢
structure CoreB(F:Nat->Option Fn):Prop extends CoreA F where
 f8:F 8=some fn8
 f9:F 9=some fn9
 f10:F 10=some fn10
 f11:F 11=some fn11
 f12:F 12=some fn12
 f13:F 13=some fn13
 f14:F 14=some fn14
 f15:F 15=some fn15
theorem zbm:isNon .non=true:=rfl
noncomputable def fon(w:W)(n:Int):Bool:=isNon w||within w 0 (n-1)
noncomputable def door(w:W)(n:Int):Bool:=match w with
 |.tup [a,b]=>within a 0 99&&fon b n
 |_=>false
noncomputable def zbv(w:W)(g:Int):Bool:=match w with
 |.tup [a,b]=>within a 0 (g-1)&&within b 0 1
 |_=>false
noncomputable def zak(w:W)(c wd g:Int):Bool:=
 if isS w "x" || zbv w g then decide (0<c)&&decide (c<wd-1)else if isS w "<"then decide (0<c)else if isS w ">"then decide (c<wd-1)else isS w "." || isS w "s"
section
variable{F:Nat->Option Fn}(C:CoreB F)
include C
theorem zbw{k:Nat}{n:Int}(hw:Kn h w):run F (k+3) 12 [w,.int n] h=.ok (.bl (fon w n)) h:=by
 rw[zaf C.f12 rfl]
 have e:=zay C.toCoreA (k:=k) (h:=⟨h.n,h.n,h.os⟩) (w:=w) (lo:=0) (hi:=n-1) (kn_lo.mpr hw)
 cases q:isNon w<;>simp[fn12,exs,ev,e,cmpW,eqYs,zbm,q,fon,zaj,opW,opI]
theorem zu4{k:Nat}{n:Int}(hw:Kn h w)(hp:∀a b,w=.tup [a,b]->Kn h a/\Kn h b):run F (k+4) 11 [w,.int n] h=.ok (.bl (door w n)) h:=by
 rw[zaf C.f11 rfl]
 have e1:=zam C.toCoreA (k:=k+2) (h:=⟨h.n,h.n,h.os⟩) (w:=w) (lo:=2) (hi:=2) (kn_lo.mpr hw)
 cases q:zar w 2 2 with
 |false=>
  have:door w n=false:=by
   cases w<;>simp[door]
   rename_i ws
   rcases ws with _|⟨a,_|⟨b,_|_⟩⟩<;>simp[zar]at q ⊢
  simp[fn11,exs,ev,e1,q,this,zaj]
 |true=>
  cases w<;>try(simp[zar]at q;done)
  rename_i ws
  have hl:ws.length=2:=by simp[zar]at q;omega
  rcases ws with _|⟨a,_|⟨b,_|_⟩⟩<;>simp at hl
  obtain⟨ka,kb⟩:=hp a b rfl
  have e2:=zay C.toCoreA (k:=k+1) (h:=⟨h.n,h.n,h.os⟩) (w:=a) (lo:=0) (hi:=99) (kn_lo.mpr ka)
  have e3:=zbw C (k:=k) (h:=⟨h.n,h.n,h.os⟩) (w:=b) (n:=n) (kn_lo.mpr kb)
  cases q2:within a 0 99<;>simp[fn11,exs,ev,e1,q,e2,e3,q2,door,zaj,tgW,seqW,zaz]
theorem zop{k:Nat}{n:Int}(hw:Kn h w)(hp:∀a b,w=.tup [a,b]->Kn h a/\Kn h b):run F (k+3) 13 [w,.int n] h=.ok (.bl (zbv w n)) h:=by
 rw[zaf C.f13 rfl]
 have e1:=zam C.toCoreA (k:=k+1) (h:=⟨h.n,h.n,h.os⟩) (w:=w) (lo:=2) (hi:=2) (kn_lo.mpr hw)
 cases q:zar w 2 2 with
 |false=>
  have:zbv w n=false:=by
   cases w<;>simp[zbv]
   rename_i ws
   rcases ws with _|⟨a,_|⟨b,_|_⟩⟩<;>simp[zar]at q ⊢
  simp[fn13,exs,ev,e1,q,this,zaj]
 |true=>
  cases w<;>try(simp[zar]at q;done)
  rename_i ws
  have hl:ws.length=2:=by simp[zar]at q;omega
  rcases ws with _|⟨a,_|⟨b,_|_⟩⟩<;>simp at hl
  obtain⟨ka,kb⟩:=hp a b rfl
  have e2:=zay C.toCoreA (k:=k) (h:=⟨h.n,h.n,h.os⟩) (w:=a) (lo:=0) (hi:=n-1) (kn_lo.mpr ka)
  have e3:=zay C.toCoreA (k:=k) (h:=⟨h.n,h.n,h.os⟩) (w:=b) (lo:=0) (hi:=1) (kn_lo.mpr kb)
  cases q2:within a 0 (n-1)<;>simp[fn13,exs,ev,e1,q,e2,e3,q2,zbv,zaj,tgW,seqW,zaz,opW,opI]
theorem zoq{k:Nat}{c wd g:Int}(p:za2 24 w=true):run F (k+4) 15 [w,.int c,.int wd,.int g] h=.ok (.bl (zak w c wd g)) h:=by
 rw[zaf C.f15 rfl]
 have hp:∀a b,w=.tup [a,b]->Kn ⟨h.n,h.n,h.os⟩ a/\Kn ⟨h.n,h.n,h.os⟩ b:=λa b e=>by
  subst e
  have p:za2 (23+1) (.tup [a,b])=true:=p
  rw[ziz,vcs,vcs,vab,vab]at p
  exact⟨zhh p.1,zhh p.2.1⟩
 have e1:=zop C (k:=k) (h:=⟨h.n,h.n,h.os⟩) (w:=w) (n:=g) (zhh p) hp
 have sx:=zcx (h:=⟨h.n,h.n,h.os⟩) (x:=Str.ofString "x") p (by decide +kernel)
 have sl:=zcx (h:=⟨h.n,h.n,h.os⟩) (x:=Str.ofString "<") p (by decide +kernel)
 have sg:=zcx (h:=⟨h.n,h.n,h.os⟩) (x:=Str.ofString ">") p (by decide +kernel)
 have sd:=zcx (h:=⟨h.n,h.n,h.os⟩) (x:=Str.ofString ".") p (by decide +kernel)
 have ss:=zcx (h:=⟨h.n,h.n,h.os⟩) (x:=Str.ofString "s") p (by decide +kernel)
 unfold zak
 cases q1:isS w (Str.ofString "x")<;>cases q2:zbv w g<;>cases q3:isS w (Str.ofString "<")<;>cases q4:isS w (Str.ofString ">")<;>cases q5:isS w (Str.ofString ".")<;>by_cases h1:0<c<;>
  simp[fn15,exs,ev,cmpW,eqYs,cmpI,sx,sl,sg,sd,ss,e1,opW,opI,q1,q2,q3,q4,q5,h1,zaj]
theorem zcr{k:Nat}{n:Int}:∀(ws:List W) (x:Option W),(∀w∈ws,Kn h w/\∀a b,w=.tup [a,b]->Kn h a/\Kn h b)->∃y,forL (tgW (.one 3)) (exs (run F (k+4)) zla) ws [some t,some a,some (.int n),x] h =
 if ws.all (door · n)then .ok (.nx [some t,some a,some (.int n),y]) h else .ok (.rt (.bl false)) h
 |[],x,_=>⟨x,by simp[forL]⟩
 |w::r,x,hk=>by
  obtain⟨y,e⟩:=zcr (t:=t) (a:=a) (k:=k) (n:=n) r (some w) λz hz=>hk z (vai _ hz)
  refine⟨y,?_⟩
  obtain⟨k1,k2⟩:=hk w vam
  have e1:=zu4 C (k:=k) (n:=n) k1 k2
  have eb:exs (run F (k+4)) zla [some t,some a,some (.int n),some w] h=if door w n then .ok (.nx [some t,some a,some (.int n),some w]) h else .ok (.rt (.bl false)) h:=by
   cases q:door w n<;>simp[zla,exs,ev,e1,q]
  simp only[forL,tgW,List.set,eb]
  cases q:door w n<;>simp[q,e]
theorem zor{k:Nat}{wd n:Int}(hl:ws.length=wd)(hz:ws.length<1000000)(hd:∀w∈ws,door w n=true):run F (k+5) 8 [.tup ws,.int wd,.int n] h=.ok (.bl true) h:=by
 rw[zaf C.f8 rfl]
 have e1:=zam C.toCoreA (k:=k+3) (h:=⟨h.n,h.n,h.os⟩) (w:=.tup ws) (lo:=wd) (hi:=wd) (by unfold Kn;simp)
 have q:zar (.tup ws) wd wd=true:=by simp[zar,hl]
 have kn:∀w∈ws,Kn ⟨h.n,h.n,h.os⟩ w/\∀a b,w=.tup [a,b]->Kn ⟨h.n,h.n,h.os⟩ a/\Kn ⟨h.n,h.n,h.os⟩ b:=λw hw=>by
  have:=hd w hw
  cases w<;>simp only[door]at this<;>try(cases this;done)
  rename_i us
  refine⟨by unfold Kn;simp,λa b e=>?_⟩
  cases e
  simp only[vab]at this
  obtain⟨h1,h2⟩:=this
  refine⟨?_,?_⟩
  .cases a<;>simp[within]at h1
   unfold Kn;simp
  .unfold fon at h2
   cases b<;>simp[within,isNon]at h2
   .unfold Kn;simp
   .unfold Kn;simp
 obtain⟨y,e2⟩:=zcr C (k:=k) (h:=⟨h.n,h.n,h.os⟩) (t:=.tup ws) (a:=.int wd) (n:=n) ws none kn
 have ha:ws.all (door · n)=true:=vbp.mpr hd
 simp[fn8,exs,ev,e1,q,zcv hz,e2,ha,zaj]
theorem zdd{k:Nat}{wd:Int}:∀(ws:List W) (x:Option W),(∀w∈ws,∃us,w=.tup us/\us.length=wd)->∃y,forL (tgW (.one 2)) (exs (run F (k+1)) zlb) ws [some t,some (.int wd),x] h=.ok (.nx [some t,some (.int wd),y]) h
 |[],x,_=>⟨x,by simp[forL]⟩
 |w::r,x,hk=>by
  obtain⟨y,e⟩:=zdd (h:=h) (t:=t) (k:=k) (wd:=wd) r (some w) λz hz=>hk z (vai _ hz)
  refine⟨y,?_⟩
  obtain⟨us,rfl,hl⟩:=hk w vam
  have e1:=zam C.toCoreA (k:=k) (h:=h) (w:=.tup us) (lo:=wd) (hi:=wd) (by unfold Kn;simp)
  have q:zar (.tup us) wd wd=true:=by simp[zar,hl]
  have eb:exs (run F (k+1)) zlb [some t,some (.int wd),some (.tup us)] h=.ok (.nx [some t,some (.int wd),some (.tup us)]) h:=by
   simp[zlb,exs,ev,e1,q]
  simp only[forL,tgW,List.set,eb,bindok,e]
theorem zrn{k:Nat}{wd:Int}(hl:ws.length<=60)(hd:∀w∈ws,∃us,w=.tup us/\us.length=wd):run F (k+2) 9 [.tup ws,.int wd] h=.ok (.bl true) h:=by
 rw[zaf C.f9 rfl]
 have e1:=zam C.toCoreA (k:=k) (h:=⟨h.n,h.n,h.os⟩) (w:=.tup ws) (lo:=0) (hi:=60) (by unfold Kn;simp)
 have q:zar (.tup ws) 0 60=true:=by simp[zar];omega
 obtain⟨y,e2⟩:=zdd C (k:=k) (h:=⟨h.n,h.n,h.os⟩) (t:=.tup ws) (wd:=wd) ws none hd
 simp[fn9,exs,ev,e1,q,zcv (show ws.length<1000000 by omega),e2,zaj]
end
structure Bd where
 wd:Int
 gr:Int
 rows:List (List W)
 fd:List W
 dr:List W
noncomputable def Bd.w(B:Bd):W:=.tup [.int B.wd,.int B.gr,.tup (B.rows.map .tup),.tup B.fd,.tup B.dr]
noncomputable def rowOk(wd g:Int):Int->List W->Prop
 |_,[]=>True
 |c,w::r=>zak w c wd g=true/\rowOk wd g (c+1) r
structure Bd.Ok(B:Bd):Prop where
 w1:1<=B.wd
 w2:B.wd<=40
 g1:0<=B.gr
 g2:B.gr<=8
 r1:B.rows.length<=60
 r2:∀r∈B.rows,(r.length:Int)=B.wd/\rowOk B.wd B.gr 0 r
 f1:1<=B.fd.length
 f2:B.fd.length<=4
 f3:∀f∈B.fd,within f 0 (B.wd-1)=true
 d1:(B.dr.length:Int)=B.wd
 d2:∀d∈B.dr,door d B.fd.length=true
structure Bd.Ok0(B:Bd):Prop where
 w1:1<=B.wd
 w2:B.wd<=40
 g1:0<=B.gr
 g2:B.gr<=8
 r1:B.rows.length<=60
 r2:∀r∈B.rows,(r.length:Int)=B.wd
 f1:1<=B.fd.length
 f2:B.fd.length<=4
 f3:∀f∈B.fd,within f 0 (B.wd-1)=true
 d1:(B.dr.length:Int)=B.wd
 d2:∀d∈B.dr,door d B.fd.length=true
theorem Bd.Ok.ok0{B:Bd}(b:B.Ok):B.Ok0:=⟨b.w1,b.w2,b.g1,b.g2,b.r1,λr hr=>(b.r2 r hr).1,b.f1,b.f2,b.f3,b.d1,b.d2⟩
theorem zi0{g:Int}(h:zbv w g=true)(n:Nat):za2 (n+2) w=true:=by
 cases w<;>simp only[zbv]at h<;>try(cases h;done)
 rename_i us
 rcases us with _|⟨a,_|⟨b,_|_⟩⟩<;>simp at h
 obtain⟨h1,h2⟩:=h
 cases a<;>simp[within]at h1
 cases b<;>simp[within]at h2
 rfl
theorem zgg{x:Str}(h:isS w x=true):w=.str x:=by
 cases w<;>simp[isS]at h
 rw[h]
theorem zfv{c wd g:Int}(h:zak w c wd g=true)(n:Nat):za2 (n+2) w=true:=by
 have st:∀x:Str,PyData.strOk x=true->isS w x=true->za2 (n+2) w=true:=λx hx e=>by rw[zgg e];exact hx
 unfold zak at h
 split at h
 .rename_i q
  rw[vcn]at q
  rcases q with q|q
  .exact st _ (by decide +kernel) q
  .exact zi0 q n
 .split at h
  .rename_i q;exact st _ (by decide +kernel) q
  .split at h
   .rename_i q;exact st _ (by decide +kernel) q
   .rw[vcn]at h
    rcases h with q|q
    .exact st _ (by decide +kernel) q
    .exact st _ (by decide +kernel) q
section
variable{F:Nat->Option Fn}(C:CoreB F)
include C
theorem zos{k:Nat}{h:VH}{B:Bd}(b:B.Ok0):run F (k+6) 10 [B.w] h=.ok (.bl true) h:=by
 rw[zaf C.f10 rfl]
 have e1:=zam C.toCoreA (k:=k+4) (h:=⟨h.n,h.n,h.os⟩) (w:=B.w) (lo:=5) (hi:=5) (by unfold Kn Bd.w;simp)
 have q1:zar B.w 5 5=true:=by simp[zar,Bd.w]
 have e2:=zay C.toCoreA (k:=k+3) (h:=⟨h.n,h.n,h.os⟩) (w:=.int B.wd) (lo:=1) (hi:=40) (by unfold Kn;simp)
 have q2:within (.int B.wd) 1 40=true:=by simp[within,b.w1,b.w2]
 have e3:=zay C.toCoreA (k:=k+3) (h:=⟨h.n,h.n,h.os⟩) (w:=.int B.gr) (lo:=0) (hi:=8) (by unfold Kn;simp)
 have q3:within (.int B.gr) 0 8=true:=by simp[within,b.g1,b.g2]
 have kf:∀x∈B.fd,Kn ⟨h.n,h.n,h.os⟩ x:=λx hx=>by
  have:=b.f3 x hx
  cases x<;>simp[within]at this
  unfold Kn;simp
 have hf:=b.f2
 have e4:=zbu C.toCoreA (k:=k+2) (h:=⟨h.n,h.n,h.os⟩) (w:=.tup B.fd) (a:=1) (b:=4) (lo:=0) (hi:=B.wd-1) (by unfold Kn;simp) (λws e=>by cases e;exact⟨by omega,kf⟩)
 have q4:zdc (.tup B.fd) 1 4 0 (B.wd-1)=true:=by
  have h1:=b.f1
  simp only[zdc,zar,vab,va0]
  exact⟨⟨by omega,by omega⟩,vbp.mpr b.f3⟩
 have e5:=zrn C (k:=k+3) (h:=⟨h.n,h.n,h.os⟩) (ws:=B.rows.map .tup) (wd:=B.wd) (by rw[vad];exact b.r1) (λw hw=>by
  obtain⟨r,hr,e⟩:=vb1.mp hw
  exact⟨r,e.symm,b.r2 r hr⟩)
 have hd:=b.d1
 have h40:=b.w2
 have e6:=zor C (k:=k) (h:=⟨h.n,h.n,h.os⟩) (ws:=B.dr) (wd:=B.wd) (n:=B.fd.length) hd (by omega) b.d2
 unfold Bd.w at e1 q1 ⊢
 simp[fn10,exs,ev,e1,q1,e2,q2,e3,q3,e4,q4,e5,e6,zaj,tgW,seqW,zaz,opW,opI,biW,lenW]
theorem zro{k:Nat}{h:VH}{B:Bd}(b:B.Ok):run F (k+6) 10 [B.w] h=.ok (.bl true) h:=zos C b.ok0
theorem zot{k:Nat}{wd g r0:Int}:∀(ws:List W) (c:Int) (j:Nat) (x y:Option W),c=j->rowOk wd g c ws->∃x' y',forL (tgW (.many [6,7])) (exs (run F (k+4)) zhe) (enumW j ws) [some t,some (.int wd),some (.int g),some rs,some (.int r0),some pl,x,y] h =
 .ok (.nx [some t,some (.int wd),some (.int g),some rs,some (.int r0),some pl,x',y']) h
 |[],c,j,x,y,_,_=>⟨x,y,by simp[forL,enumW]⟩
 |w::r,c,j,x,y,hc,ho=>by
  obtain⟨h1,h2⟩:=ho
  obtain⟨x',y',e⟩:=zot (h:=h) (t:=t) (rs:=rs) (pl:=pl) (k:=k) (wd:=wd) (g:=g) (r0:=r0) r (c+1) (j+1) (some (.int j)) (some w) (by rw[hc];push_cast;rfl) h2
  refine⟨x',y',?_⟩
  have e1:=zoq C (k:=k) (h:=h) (c:=j) (wd:=wd) (g:=g) (zfv h1 22)
  rw[<-hc,h1]at e1
  have eb:exs (run F (k+4)) zhe [some t,some (.int wd),some (.int g),some rs,some (.int r0),some pl,some (.int j),some w] h=.ok (.nx [some t,some (.int wd),some (.int g),some rs,some (.int r0),some pl,some (.int j),some w]) h:=by
   rw[hc]at e1
   simp[zhe,exs,ev,e1]
  simp only[forL,enumW,tgW,seqW,zaz,List.set,eb,bindok,e]
theorem zlf{k:Nat}{wd g:Int}:∀(ws:List (List W)) (j:Nat) (x y z u:Option W),(∀r∈ws,(r.length:Int)<1000000/\rowOk wd g 0 r)->∃x' y' z' u',forL (tgW (.many [4,5])) (exs (run F (k+4)) zhf) (enumW j (ws.map .tup)) [some t,some (.int wd),some (.int g),some rs,x,y,z,u] h =
 .ok (.nx [some t,some (.int wd),some (.int g),some rs,x',y',z',u']) h
 |[],j,x,y,z,u,_=>⟨x,y,z,u,by simp[forL,enumW]⟩
 |w::r,j,x,y,z,u,ho=>by
  obtain⟨h1,h2⟩:=ho w vam
  obtain⟨z1,u1,e1⟩:=zot C (k:=k) (h:=h) (t:=t) (rs:=rs) (pl:=.tup w) (wd:=wd) (g:=g) (r0:=j) w 0 0 z u rfl h2
  obtain⟨x',y',z',u',e⟩:=zlf (h:=h) (t:=t) (rs:=rs) (k:=k) (wd:=wd) (g:=g) r (j+1) (some (.int j)) (some (.tup w)) z1 u1 λq hq=>ho q (vai _ hq)
  refine⟨x',y',z',u',?_⟩
  have eb:exs (run F (k+4)) zhf [some t,some (.int wd),some (.int g),some rs,some (.int j),some (.tup w),z,u] h=.ok (.nx [some t,some (.int wd),some (.int g),some rs,some (.int j),some (.tup w),z1,u1]) h:=by
   simp[zhf,exs,ev,zlc (show w.length<1000000 by omega),e1]
  simp only[forL,van,enumW,tgW,seqW,zaz,List.set,eb,bindok,e]
theorem zhi{k:Nat}{h:VH}{B:Bd}(b:B.Ok):run F (k+7) 14 [B.w] h=.ok .non h:=by
 rw[zaf C.f14 rfl]
 have e1:=zro C (k:=k) (h:=⟨h.n,h.n,h.os⟩) b
 have h40:=b.w2
 have h60:=b.r1
 obtain⟨x',y',z',u',e2⟩:=zlf C (k:=k+2) (h:=⟨h.n,h.n,h.os⟩) (t:=B.w) (rs:=.tup (B.rows.map .tup)) (wd:=B.wd) (g:=B.gr) B.rows 0 none none none none λr hr=>⟨by have:=(b.r2 r hr).1;omega,(b.r2 r hr).2⟩
 unfold Bd.w at e1 e2 ⊢
 simp[fn14,exs,ev,e1,zs0,tgW,seqW,zaz,partW,cutW,HT.sIx,zlc (show(B.rows.map W.tup).length<1000000 by rw[vad];omega),e2]
end
structure CoreD(F:Nat->Option Fn):Prop where
 f2:F 2=some fn2
 f3:F 3=some fn3
 f4:F 4=some fn4
 f5:F 5=some fn5
theorem zau{i j:Int}:eqW h (.int i) (.int j)=some (decide (i=j)):=by
 unfold eqW
 simp only[toD]
 show some (i==j)=_
 by_cases q:i=j<;>simp[q]
theorem zde{i:Int}(h1:-(2 ^ 63)<=i)(h2:i<2 ^ 63):zbk i=true:=by
 unfold zbk
 simp only[vab,va0]
 omega
theorem zax{h:VH}{i:Nat}{o o0:VO}(g:h.get i=some o0):(h.set i o).get i=some o:=by
 have hi:=zaq g
 unfold VH.get at g
 rw[if_pos (zao.mpr hi)]at g
 have hl:=(va3.mp g).1
 unfold VH.get VH.set
 simp only[if_pos (zao.mpr hi)]
 rw[vce hl]
theorem zag{h:VH}{i j:Nat}{o o0:VO}(g:h.get i=some o0)(hj:j≠i):(h.set i o).get j=h.get j:=zds (zaq g) hj
structure Dk(h:VH)(d c:Nat)(b:Nat):Prop where
 ne:d≠c
 st:∃(ns cells:List Int) (p q:Int),h.get d=some (.lst [.fz (ns.map .int),.ref c,.int p,.int q])/\h.get c=some (.lst (cells.map .int))/\(∀x∈cells,(0:Int)<=x)/\0<=p/\0<=q/\q<=b/\cells.length<=63
theorem Dk.mono{d c b b':Nat}(D:Dk h d c b)(hb:b<=b'):Dk h d c b':=by
 obtain⟨ne,ns,cells,p,q,a1,a2,a3,a4,a5,a6,a7⟩:=D
 exact⟨ne,ns,cells,p,q,a1,a2,a3,a4,a5,by omega,a7⟩
structure Keep(h h':VH)(d c:Nat):Prop where
 le:h.n<=h'.n
 get:∀i o,i≠d->i≠c->h.get i=some o->h'.get i=some o
theorem Keep.refl{d c:Nat}:Keep h h d c:=⟨vac _,λ_ _ _ _ e=>e⟩
theorem Keep.trans{d c:Nat}(a:Keep h h1 d c)(b:Keep h1 h2 d c):Keep h h2 d c:=⟨vbe a.le b.le,λi o h1 h2 e=>b.get i o h1 h2 (a.get i o h1 h2 e)⟩
theorem zdz(i:Int):(if i<0 then -i else i)=(i.natAbs:Int):=by
 split<;>omega
section
variable{F:Nat->Option Fn}(C:CoreD F)
include C
theorem cell{k:Nat}{h:VH}{ns:List Int}{j:Int}(hj:0<=j):∃r,run F (k+1) 2 [.fz (ns.map .int),.int j] h=.ok (.int r) h/\0<=r:=by
 rw[zaf C.f2 rfl]
 cases ns with
 |nil=>
  refine⟨7*j+3,?_,by omega⟩
  simp[fn2,exs,ev,biW,lenW,seqW,cmpW,eqYs,zau,opW,opI,zde,zaj]
 |cons n0 ns0=>
  have hl:(0:Int)< ((n0::ns0).length:Int):=by simp only[vaj];omega
  have hm1:=vel j (show((n0::ns0).length:Int)≠0 by omega)
  have hm2:=vd6 j hl
  obtain⟨m,hm⟩:=va5 hm1
  have hml:m< (n0::ns0).length:=by omega
  have ha:atI (List.map W.int (n0::ns0)) (j % ((n0::ns0).length:Int))=some (.int ((n0::ns0)[m])):=by
   rw[hm]
   exact zbg (by rw[vbf,vav hml];rfl)
  have hb:¬(((ns0.length:Int)+1)=0):=by omega
  have hp:(0:Int)< (ns0.length:Int)+1:=by omega
  refine⟨(((n0::ns0)[m]).natAbs:Int),?_,by omega⟩
  simp only[vaj,Int.natCast_add,Int.cast_ofNat_Int,van]at ha
  simp[fn2,exs,ev,biW,lenW,seqW,cmpW,eqYs,zau,opW,opI,zaj,idxW,absW,hb,hp,ha,zdz]
theorem mixed{k:Nat}{h:VH}{ns:List Int}{j m:Int}(hj:0<=j)(hj2:j<=1000000000)(hm:0<m):∃r,run F (k+2) 4 [.fz (ns.map .int),.int j,.int m] h=.ok (.int r) h/\0<=r/\r<m:=by
 rw[zaf C.f4 rfl]
 obtain⟨c,e1,hc⟩:=cell C (k:=k) (h:=⟨h.n,h.n,h.os⟩) (ns:=ns) hj
 have h1:=vel c (show(1000003:Int)≠0 by decide)
 have h2:=vd6 c (show(0:Int)<1000003 by decide)
 generalize hx:c % 1000003=x at h1 h2
 have s1:zbk (x+5)=true:=zde (by omega) (by omega)
 have s2:zbk 7919=true:=zde (by decide) (by decide)
 have hb:(x+5)* (j+2)<=1000008*1000000002:=Int.mul_le_mul (by omega) (by omega) (by omega) (by omega)
 have hb0:0<=(x+5)* (j+2):=Int.mul_nonneg (by omega) (by omega)
 generalize hy:(x+5)* (j+2)=y at hb hb0
 have hn:(y+7919*j).natAbs<2 ^ 64:=by omega
 refine⟨(y+7919*j) ^ 5 % 2147483647/13 % m,?_,vel _ (by omega),vd6 _ hm⟩
 have hn':(y+7919*j).natAbs<18446744073709551616:=by omega
 simp[fn4,exs,ev,e1,opW,opI,hx,s1,s2,hy,hn',hm,zaj]
theorem zi1{k:Nat}{d c:Nat}{m q:Int}{ns:List Int}(hdc:d≠c)(hm:0<m)(hm2:m<1073741824):∀(n f:Nat) (g:VH) (x:Option W) (cells:List Int) (p:Int),n<f->(cells.length:Int)-p<=n->0<=p->(∀y∈cells,(0:Int)<=y)->
 g.get d=some (.lst [.fz (ns.map .int),.ref c,.int p,.int q])->g.get c=some (.lst (cells.map .int))->
 ∃(g':VH) (cells':List Int) (p':Int),0<=p'/\(∀y∈cells',(0:Int)<=y)/\cells'.length=cells.length/\g'.get d=some (.lst [.fz (ns.map .int),.ref c,.int p',.int q])/\g'.get c=some (.lst (cells'.map .int))/\g'.n=g.n/\(∀i,i≠d->i≠c->g'.get i=g.get i)/\
  ((∃r,whlG (ev (run F (k+2)) ziw) (exs (run F (k+2)) zfb) f [some (.ref d),some (.int m),x] g=.ok (.rt (.int r)) g'/\0<=r/\r<m)\/∃y,whlG (ev (run F (k+2)) ziw) (exs (run F (k+2)) zfb) f [some (.ref d),some (.int m),x] g=.ok (.nx [some (.ref d),some (.int m),y]) g')
 |n,0,g,x,cells,p,hf,_,_,_,_,_=>by omega
 |n,f+1,g,x,cells,p,hf,hn,hp,hnn,gd,gc=>by
  have ec:ev (run F (k+2)) ziw [some (.ref d),some (.int m),x] g=.ok (.bl (decide (p<cells.length))) g:=by
   simp[ziw,ev,idxW,gd,atI,ixN,biW,lenW,seqW,gc,cmpW,eqYs,cmpI]
  by_cases hlt:p<cells.length
  .obtain⟨pn,rfl⟩:=va5 hp
   have hpl:pn<cells.length:=by omega
   have hat:atI (cells.map W.int) (pn:Int)=some (.int cells[pn]):=zbg (by rw[vbf,vav hpl];rfl)
   by_cases hpos:0<cells[pn]
   .refine⟨g.set c (.lst ((cells.set pn (cells[pn]/m)).map .int)),cells.set pn (cells[pn]/m),pn,hp,?_,by simp,?_,zax gc,rfl,λi _ hi=>zag gc hi,.inl ⟨cells[pn] % m,?_,vel _ (by omega),vd6 _ hm⟩⟩
    .intro y hy
     rcases List.mem_or_eq_of_mem_set hy with hy|rfl
     .exact hnn y hy
     .exact Int.ediv_nonneg (by omega) (by omega)
    .rw[zag gc hdc];exact gd
    .have hix:ixN (cells.map W.int).length (pn:Int)=some pn:=by
      unfold ixN
      rw[if_pos (by omega),if_pos (by rw[vad];omega)];simp
     have eb:exs (run F (k+2)) zfb [some (.ref d),some (.int m),x] g=.ok (.rt (.int (cells[pn] % m))) (g.set c (.lst ((cells.set pn (cells[pn]/m)).map .int))):=by
      have h2:atI [W.fz (ns.map .int),.ref c,.int pn,.int q] 2=some (.int pn):=rfl
      have h1:atI [W.fz (ns.map .int),.ref c,.int pn,.int q] 1=some (.ref c):=rfl
      simp[zfb,exs,ev,idxW,gd,h1,h2,gc,hat,cmpW,eqYs,cmpI,hpos,opW,opI,hm,hm2]at hix ⊢
      simp[hix,hm,List.map_set]
     simp[whlG,ec,hlt,eb]
   .have gs:(g.set d (.lst [.fz (ns.map .int),.ref c,.int ((pn:Int)+1),.int q])).get c=some (.lst (cells.map .int)):=by rw[zag gd (vca hdc)];exact gc
    cases n with
    |zero=>omega
    |succ n=>
     obtain⟨g',cells',p',a1,a2,a3,a4,a5,a6,a7,a8⟩:=zi1 (k:=k) hdc hm hm2 n f (g.set d (.lst [.fz (ns.map .int),.ref c,.int ((pn:Int)+1),.int q])) (some (.int cells[pn])) cells (pn+1) (by omega) (by omega) (by omega) hnn (zax gd) gs
     have eb:exs (run F (k+2)) zfb [some (.ref d),some (.int m),x] g=.ok (.nx [some (.ref d),some (.int m),some (.int cells[pn])]) (g.set d (.lst [.fz (ns.map .int),.ref c,.int ((pn:Int)+1),.int q])):=by
      have h2:atI [W.fz (ns.map .int),.ref c,.int pn,.int q] 2=some (.int pn):=rfl
      have h1:atI [W.fz (ns.map .int),.ref c,.int pn,.int q] 1=some (.ref c):=rfl
      have h3:ixN 4 2=some 2:=rfl
      simp[zfb,exs,ev,idxW,gd,h1,h2,h3,gc,hat,cmpW,eqYs,cmpI,hpos,opW,opI]
     refine⟨g',cells',p',a1,a2,a3,a4,a5,a6,λi h1 h2=>by rw[a7 i h1 h2,zag gd h1],?_⟩
     rcases a8 with⟨r,e,h3⟩|⟨y,e⟩
     .exact .inl ⟨r,by simp[whlG,ec,hlt,eb,e],h3⟩
     .exact .inr ⟨y,by simp[whlG,ec,hlt,eb,e]⟩
  .exact⟨g,cells,p,hp,hnn,rfl,gd,gc,rfl,λ_ _ _=>rfl,.inr ⟨x,by simp[whlG,ec,hlt]⟩⟩
omit C in
theorem zfc(g:Grow ⟨h.n,h.n,h.os⟩ h'):∃h2,leave h w h'=.ok w h2/\h.n<=h2.n/\∀i,i<h.n->h2.get i=h'.get i:=by
 unfold leave
 split
 .rename_i q
  rw[vab]at q
  have hlo:=va9 q.1
  exact⟨h,rfl,vac _,λi hi=>by
   rw[g.2.2 i hi (vak hi hlo)]
   exact get_lo.symm⟩
 .exact⟨_,rfl,g.1,λi hi=>get_lo⟩
theorem take{k:Nat}{h:VH}{d c b:Nat}{m:Int}(D:Dk h d c b)(hb:b<1000000000)(hm:0<m)(hm2:m<1073741824):∃r h',run F (k+3) 5 [.ref d,.int m] h=.ok (.int r) h'/\0<=r/\r<m/\Dk h' d c (b+1)/\Keep h h' d c:=by
 rw[zaf C.f5 rfl]
 obtain⟨hne,ns,cells,p,q,gd,gc,hnn,hp,hq,hqb,hl⟩:=D
 have gd0:VH.get ⟨h.n,h.n,h.os⟩ d=some (.lst [.fz (ns.map .int),.ref c,.int p,.int q]):=by rw[get_lo];exact gd
 have gc0:VH.get ⟨h.n,h.n,h.os⟩ c=some (.lst (cells.map .int)):=by rw[get_lo];exact gc
 obtain⟨g',cells',p',a1,a2,a3,a4,a5,a6,a7,a8⟩:=zi1 C (k:=k) hne hm hm2 63 fuel ⟨h.n,h.n,h.os⟩ none cells p (by decide) (by omega) hp hnn gd0 gc0
 have key:∀(g2:VH)(r:Int)(cells2:List Int)(p2 q2:Int),exs (run F (k+2)) fn5.body [some (.ref d),some (.int m),none] ⟨h.n,h.n,h.os⟩=.ok (.rt (.int r)) g2->0<=r->r<m->0<=p2->0<=q2->q2<=b+1->cells2.length<=63->(∀y∈cells2,(0:Int)<=y)->
  g2.get d=some (.lst [.fz (ns.map .int),.ref c,.int p2,.int q2])->g2.get c=some (.lst (cells2.map .int))->(∀i,i<h.n->i≠d->i≠c->g2.get i=h.get i)->
  ∃r h',fin h (exs (run F (k+2)) fn5.body ([W.ref d,W.int m].map some++List.replicate (fn5.n-fn5.ps) none) ⟨h.n,h.n,h.os⟩)=.ok (.int r) h'/\0<=r/\r<m/\Dk h' d c (b+1)/\Keep h h' d c:=by
  intro g2 r cells2 p2 q2 e r1 r2 b1 b2 b3 b4 b5 b6 b7 b8
  obtain⟨h2,e2,hn2,hg2⟩:=zfc (w:=.int r) (zio (ziq F (k+2)) _ _ _ _ _ e)
  refine⟨r,h2,?_,r1,r2,⟨hne,ns,cells2,p2,q2,?_,?_,b5,b1,b2,by omega,b4⟩,⟨hn2,λi o h1 h3 e3=>?_⟩⟩
  .show fin h (exs (run F (k+2)) fn5.body [some (.ref d),some (.int m),none] ⟨h.n,h.n,h.os⟩)=_
   rw[e]
   exact e2
  .rw[hg2 d (zaq gd)];exact b6
  .rw[hg2 c (zaq gc)];exact b7
  .rw[hg2 i (zaq e3),b8 i (zaq e3) h1 h3];exact e3
 rcases a8 with⟨r,e,r1,r2⟩|⟨y,e⟩
 .refine key g' r cells' p' q ?_ r1 r2 a1 hq (by omega) (by omega) a2 a4 a5 λi hi h1 h2=>by rw[a7 i h1 h2,get_lo]
  simp[fn5,exs,e]
 .obtain⟨r,e2,r1,r2⟩:=mixed C (k:=k) (h:=g'.set d (.lst [.fz (ns.map .int),.ref c,.int p',.int (q+1)])) (ns:=ns) (j:=q+1) (m:=m) (by omega) (by omega) hm
  refine key (g'.set d (.lst [.fz (ns.map .int),.ref c,.int p',.int (q+1)])) r cells' p' (q+1) ?_ r1 r2 a1 (by omega) (by omega) (by omega) a2 (zax a4) (by rw[zag a4 (vca hne)];exact a5) λi hi h1 h2=>by rw[zag a4 h1,a7 i h1 h2,get_lo]
  have h3:atI [W.fz (ns.map .int),.ref c,.int p',.int q] 3=some (.int q):=rfl
  have h30:atI [W.fz (ns.map .int),.ref c,.int p',.int (q+1)] 3=some (.int (q+1)):=rfl
  have h00:atI [W.fz (ns.map .int),.ref c,.int p',.int (q+1)] 0=some (.fz (ns.map .int)):=rfl
  have h33:ixN 4 3=some 3:=rfl
  have hs:=zax (o:=.lst [.fz (ns.map .int),.ref c,.int p',.int (q+1)]) a4
  simp[fn5,exs,e,ev,idxW,a4,h3,opW,opI,h33,hs,h30,h00,e2]
end
theorem zaa{ρ ρ':En}(e:exs cl a ρ h=.ok (.nx ρ') h'):exs cl (.seq a b) ρ h=exs cl b ρ' h':=by
 simp only[exs,e,bindok]
theorem zab{ρ:En}(e:exs cl a ρ h=.ok (.rt w) h'):exs cl (.seq a b) ρ h=.ok (.rt w) h':=by
 simp only[exs,e,bindok]
@[simp] theorem exs_skip {cl:Call} {ρ:En} {h:VH}:exs cl .skip ρ h=.ok (.nx ρ) h:=rfl
theorem Dk.new{d c b:Nat}(D:Dk h d c b):Dk (h.new o) d c b:=by
 obtain⟨ne,ns,cells,p,q,a1,a2,a3⟩:=D
 exact⟨ne,ns,cells,p,q,by rw[zah (zaq a1)];exact a1,by rw[zah (zaq a2)];exact a2,a3⟩
theorem Keep.new{d c:Nat}(K:Keep h h' d c):Keep h (h'.new o) d c:=⟨Nat.le_succ_of_le K.le,λi o' h1 h2 e=>by
 have:=K.get i o' h1 h2 e
 rw[zah (zaq this)];exact this⟩
theorem Dk.lo{d c b l:Nat}(D:Dk h d c b):Dk ⟨h.n,l,h.os⟩ d c b:=by
 obtain⟨ne,ns,cells,p,q,a1,a2,a3⟩:=D
 exact⟨ne,ns,cells,p,q,by rw[get_lo];exact a1,by rw[get_lo];exact a2,a3⟩
theorem zbh{cl:Call}{d c b:Nat}{fl:Fl}{ρ:En}{k:Nat}(e:exs (run F k) body ρ ⟨h.n,h.n,h.os⟩=.ok (.rt w) h')(D0:Dk h d c 0\/∃b,Dk h d c b)(D:Dk h' d c b)(K:Keep ⟨h.n,h.n,h.os⟩ h' d c) :
 ∃h2,fin h (exs (run F k) body ρ ⟨h.n,h.n,h.os⟩)=.ok w h2/\Dk h2 d c b/\Keep h h2 d c:=by
 obtain⟨h2,e2,hn2,hg2⟩:=zfc (w:=w) (zio (ziq F k) _ _ _ _ _ e)
 have hd:d<h.n/\c<h.n:=by
  rcases D0 with⟨_,ns,cells,p,q,a1,a2,_⟩|⟨b,_,ns,cells,p,q,a1,a2,_⟩<;>exact⟨zaq a1,zaq a2⟩
 refine⟨h2,by rw[e];exact e2,?_,⟨hn2,λi o h1 h3 e3=>?_⟩⟩
 .obtain⟨ne,ns,cells,p,q,a1,a2,a3⟩:=D
  exact⟨ne,ns,cells,p,q,by rw[hg2 d hd.1];exact a1,by rw[hg2 c hd.2];exact a2,a3⟩
 .rw[hg2 i (zaq e3)]
  exact K.get i o h1 h3 (by rw[get_lo];exact e3)
theorem andB{ρ:En}{x y:Bool}(ea:ev cl a ρ h=.ok (.bl x) h)(eb:ev cl b ρ h=.ok (.bl y) h):ev cl (.and a b) ρ h=.ok (.bl (x&&y)) h:=by
 rw[ev,ea,bindok]
 cases x
 .rfl
 .exact eb
theorem orB{ρ:En}{x y:Bool}(ea:ev cl a ρ h=.ok (.bl x) h)(eb:ev cl b ρ h=.ok (.bl y) h):ev cl (.or a b) ρ h=.ok (.bl (x||y)) h:=by
 rw[ev,ea,bindok]
 cases x
 .exact eb
 .rfl
structure CoreP(F:Nat->Option Fn):Prop extends CoreD F where
 f21:F 21=some fn21
 f23:F 23=some fn23
 f25:F 25=some fn25
noncomputable abbrev sDot:Str:=Str.ofString "."
noncomputable abbrev sLt:Str:=Str.ofString "<"
noncomputable abbrev sGt:Str:=Str.ofString ">"
noncomputable abbrev sX:Str:=Str.ofString "x"
noncomputable abbrev sS:Str:=Str.ofString "s"
theorem zou{c wd g:Int}:zak (.str sDot) c wd g=true:=rfl
theorem may_s{c wd g:Int}:zak (.str sS) c wd g=true:=rfl
theorem zs1{c wd g:Int}(h:0<c):zak (.str sLt) c wd g=true:=by
 have:zak (.str sLt) c wd g=decide (0<c):=rfl
 rw[this];simpa using h
theorem zs2{c wd g:Int}(h:c<wd-1):zak (.str sGt) c wd g=true:=by
 have:zak (.str sGt) c wd g=decide (c<wd-1):=rfl
 rw[this];simpa using h
theorem may_x{c wd g:Int}(h:0<c)(h2:c<wd-1):zak (.str sX) c wd g=true:=by
 have:zak (.str sX) c wd g=(decide (0<c)&&decide (c<wd-1)):=rfl
 rw[this];simp[h,h2]
theorem zy5{c wd g a b:Int}(a0:0<=a)(a1:a<g)(b0:0<=b)(b1:b<2)(h:0<c)(h2:c<wd-1):zak (.tup [.int a,.int b]) c wd g=true:=by
 have h3:zbv (.tup [.int a,.int b]) g=true:=by
  simp only[zbv,within,vab,va0]
  omega
 unfold zak
 rw[h3,Bool.or_true,if_pos rfl]
 simp[h,h2]
inductive Raw(g:Int):W->Prop
 |dot:Raw g (.str sDot)
 |lt:Raw g (.str sLt)
 |gt:Raw g (.str sGt)
 |x:Raw g (.str sX)
 |rk {a b:Int}:0<=a->a<g->0<=b->b<2->Raw g (.tup [.int a,.int b])
theorem zba{x y z:Str}(hx:PyData.strOk x=true)(hy:PyData.strOk y=true)(hz:PyData.strOk z=true):inW h (.str x) (.tup [.str y,.str z])=some (y==x||z==x):=by
 have sx:SeqAt.shaped (.str x)=true:=by unfold SeqAt.shaped;show(PyData.strOk x&&_)=true;rw[hx];rfl
 have sy:SeqAt.shaped (.str y)=true:=by unfold SeqAt.shaped;show(PyData.strOk y&&_)=true;rw[hy];rfl
 have sz:SeqAt.shaped (.str z)=true:=by unfold SeqAt.shaped;show(PyData.strOk z&&_)=true;rw[hz];rfl
 simp[inW,seqW,toD,mapO,sx,sy,sz,anyEq,PyData.eqv]
theorem zhj{a b:Int}{y z:Str}(hy:PyData.strOk y=true)(hz:PyData.strOk z=true):inW h (.tup [.int a,.int b]) (.tup [.str y,.str z])=some false:=by
 have sy:SeqAt.shaped (.str y)=true:=by unfold SeqAt.shaped;show(PyData.strOk y&&_)=true;rw[hy];rfl
 have sz:SeqAt.shaped (.str z)=true:=by unfold SeqAt.shaped;show(PyData.strOk z&&_)=true;rw[hz];rfl
 have st:SeqAt.shaped (.tuple [.int a,.int b])=true:=rfl
 simp[inW,seqW,toD,mapO,sy,sz,st,anyEq,PyData.eqv]
noncomputable def pCond:E:=(.or (.and (.cmp .eq (.var 1) (.cst (.int (0)))) (.cmp .nin (.var 5) (.tup (.cons (.cst (.str sDot)) (.cons (.cst (.str sGt)) .nil))))) (.and (.cmp .eq (.var 1) (.op .sub (.var 2) (.cst (.int (1))))) (.cmp .nin (.var 5) (.tup (.cons (.cst (.str sDot)) (.cons (.cst (.str sLt)) .nil))))))
noncomputable def pIdx:E:=(.idx (.lst (.cons (.cst (.str sGt)) (.cons (.cst (.str sLt)) (.cons (.cst (.str sDot)) .nil)))) (.bi .min (.cons (.op .add (.bi .int (.cons (.cmp .gt (.var 1) (.cst (.int (0)))) .nil)) (.op .mul (.cst (.int (2))) (.bi .int (.cons (.cmp .eq (.var 2) (.cst (.int (1)))) .nil)))) (.cons (.cst (.int (2))) .nil))))
noncomputable def pTail:S:=(.seq (.ite pCond (.seq (.ret pIdx) .skip) .skip) (.seq (.ret (.var 5)) .skip))
section
variable{F:Nat->Option Fn}(C:CoreP F)
include C
theorem piece{k:Nat}{d c b:Nat}{co wd g:Int}(D:Dk h d c b)(hb:b+5<1000000000)(h0:0<=co)(h1:co<wd)(g0:0<=g)(g1:g<=8) :
 ∃w h',run F (k+4) 21 [.ref d,.int co,.int wd,.int g] h=.ok w h'/\zak w co wd g=true/\Dk h' d c (b+5)/\Keep h h' d c:=by
 rw[zaf C.f21 rfl]
 have D0:Dk ⟨h.n,h.n,h.os⟩ d c b:=D.lo
 have tail:∀(w5:W)(lot:Int)(h3:VH),Raw g w5->∃w h4,exs (run F (k+3)) pTail
  [some (.ref d),some (.int co),some (.int wd),some (.int g),some (.int lot),some w5] h3=.ok (.rt w) h4/\zak w co wd g=true/\(h4=h3\/∃o,h4=h3.new o):=by
  intro w5 lot h3 R
  have two:zbk 2=true:=zde (by decide) (by decide)
  have i0:atI [W.str sGt,.str sLt,.str sDot] 0=some (.str sGt):=rfl
  have i1:atI [W.str sGt,.str sLt,.str sDot] 1=some (.str sLt):=rfl
  have i2:atI [W.str sGt,.str sLt,.str sDot] 2=some (.str sDot):=rfl
  have eC:∀(b1 b2:Bool),inW h3 w5 (.tup [.str sDot,.str sGt])=some b1->inW h3 w5 (.tup [.str sDot,.str sLt])=some b2->ev (run F (k+3)) pCond [some (.ref d),some (.int co),some (.int wd),some (.int g),some (.int lot),some w5] h3=.ok (.bl ((decide (co=0) && !b1)|| (decide (co=wd-1) && !b2))) h3:=by
   intro b1 b2 n1 n2
   refine orB (andB ?_ ?_) (andB ?_ ?_)
   .simp only[ev,va4,vas,vaw,ofsome,bindok,cmpW,eqYs,zau,vah]
   .simp[ev,cmpW,eqYs,n1]
   .simp only[ev,va4,vas,vaw,ofsome,bindok,cmpW,eqYs,zau,vah,opW,opI]
   .simp[ev,cmpW,eqYs,n2]
  have fin1:∀(b1 b2:Bool),inW h3 w5 (.tup [.str sDot,.str sGt])=some b1->inW h3 w5 (.tup [.str sDot,.str sLt])=some b2->(co≠0\/b1=true)->(co≠wd-1\/b2=true)->zak w5 co wd g=true->∃w h4,exs (run F (k+3)) pTail
   [some (.ref d),some (.int co),some (.int wd),some (.int g),some (.int lot),some w5] h3=.ok (.rt w) h4/\zak w co wd g=true/\(h4=h3\/∃o,h4=h3.new o):=by
   intro b1 b2 n1 n2 o1 o2 hm
   refine⟨w5,h3,?_,hm,.inl rfl⟩
   have cond:=eC b1 b2 n1 n2
   rw[show((decide (co=0) && !b1)|| (decide (co=wd-1) && !b2))=false by rcases o1 with z|z<;>rcases o2 with z'|z'<;>simp[z,z']]at cond
   unfold pTail
   rw[exs,exs,cond,bindok]
   simp[exs,ev]
  have fin2:∀(b1 b2:Bool),inW h3 w5 (.tup [.str sDot,.str sGt])=some b1->inW h3 w5 (.tup [.str sDot,.str sLt])=some b2->((co=0/\b1=false)\/(co=wd-1/\b2=false))->∃w h4,exs (run F (k+3)) pTail
   [some (.ref d),some (.int co),some (.int wd),some (.int g),some (.int lot),some w5] h3=.ok (.rt w) h4/\zak w co wd g=true/\(h4=h3\/∃o,h4=h3.new o):=by
   intro b1 b2 n1 n2 o
   have cond:ev (run F (k+3)) pCond [some (.ref d),some (.int co),some (.int wd),some (.int g),some (.int lot),some w5] h3=.ok (.bl true) h3:=by
    rw[eC b1 b2 n1 n2,show((decide (co=0) && !b1)|| (decide (co=wd-1) && !b2))=true by rcases o with⟨z,z'⟩|⟨z,z'⟩<;>simp[z,z']]
   have r1:∀(x:Str)(j:Int),(if(2:Int)< (if 0<co then 1 else 0)+2* (if wd=1 then 1 else 0)then 2 else(if 0<co then 1 else 0)+2* (if wd=1 then 1 else 0))=j->atI [W.str sGt,.str sLt,.str sDot] j=some (.str x)->ev (run F (k+3)) pIdx [some (.ref d),some (.int co),some (.int wd),some (.int g),some (.int lot),some w5] h3=.ok (.str x) (h3.new (.lst [W.str sGt,.str sLt,.str sDot])):=by
    intro x j hj ha
    have hg:=zal (h:=h3) (o:=.lst [W.str sGt,.str sLt,.str sDot])
    by_cases c0:0<co<;>by_cases c1:wd=1<;>simp[c0,c1]at hj<;>subst hj<;>simp[pIdx,ev,cmpW,eqYs,cmpI,zau,opW,opI,two,biW,intW,minW,idxW,hg,ha,c0,c1]
   have fin:∀x:Str,ev (run F (k+3)) pIdx [some (.ref d),some (.int co),some (.int wd),some (.int g),some (.int lot),some w5] h3=.ok (.str x) (h3.new (.lst [W.str sGt,.str sLt,.str sDot]))->zak (.str x) co wd g=true->
    ∃w h4,exs (run F (k+3)) pTail [some (.ref d),some (.int co),some (.int wd),some (.int g),some (.int lot),some w5] h3=.ok (.rt w) h4/\zak w co wd g=true/\(h4=h3\/∃o,h4=h3.new o):=
    λx e hm=>⟨.str x,h3.new (.lst [W.str sGt,.str sLt,.str sDot]),by simp only[pTail,exs,cond,bindok,e],hm,.inr ⟨_,rfl⟩⟩
   by_cases w1:wd=1
   .exact fin sDot (r1 sDot 2 (by rw[if_neg (by omega:¬0<co)];simp[w1]) i2) zou
   .by_cases c0:co=0
    .exact fin sGt (r1 sGt 0 (by rw[if_neg (by omega:¬0<co)];simp[w1]) i0) (zs2 (by omega))
    .exact fin sLt (r1 sLt 1 (by rw[if_pos (by omega:0<co)];simp[w1]) i1) (zs1 (by omega))
  have d1:(sDot==sLt)=false:=by decide +kernel
  have d2:(sGt==sLt)=false:=by decide +kernel
  have d3:(sDot==sGt)=false:=by decide +kernel
  have d4:(sLt==sGt)=false:=by decide +kernel
  have d5:(sDot==sX)=false:=by decide +kernel
  have d6:(sGt==sX)=false:=by decide +kernel
  have d7:(sLt==sX)=false:=by decide +kernel
  have k1:PyData.strOk sDot=true:=by decide +kernel
  have k2:PyData.strOk sLt=true:=by decide +kernel
  have k3:PyData.strOk sGt=true:=by decide +kernel
  have k4:PyData.strOk sX=true:=by decide +kernel
  cases R with
  |dot=>exact fin1 true true (by rw[zba k1 k1 k3];simp) (by rw[zba k1 k1 k2];simp) (.inr rfl) (.inr rfl) zou
  |lt=>
   by_cases c0:co=0
   .exact fin2 false true (by rw[zba k2 k1 k3,d1,d2];rfl) (by rw[zba k2 k1 k2];simp) (.inl ⟨c0,rfl⟩)
   .exact fin1 false true (by rw[zba k2 k1 k3,d1,d2];rfl) (by rw[zba k2 k1 k2];simp) (.inl c0) (.inr rfl) (zs1 (by omega))
  |gt=>
   by_cases c0:co=wd-1
   .exact fin2 true false (by rw[zba k3 k1 k3];simp) (by rw[zba k3 k1 k2,d3,d4];rfl) (.inr ⟨c0,rfl⟩)
   .exact fin1 true false (by rw[zba k3 k1 k3];simp) (by rw[zba k3 k1 k2,d3,d4];rfl) (.inr rfl) (.inl c0) (zs2 (by omega))
  |x=>
   by_cases c0:co=0\/co=wd-1
   .exact fin2 false false (by rw[zba k4 k1 k3,d5,d6];rfl) (by rw[zba k4 k1 k2,d5,d7];rfl) (c0.elim (λz=>.inl ⟨z,rfl⟩) λz=>.inr ⟨z,rfl⟩)
   .exact fin1 false false (by rw[zba k4 k1 k3,d5,d6];rfl) (by rw[zba k4 k1 k2,d5,d7];rfl) (.inl (by omega)) (.inl (by omega)) (may_x (by omega) (by omega))
  |rk a0 a1 b0 b1=>
   by_cases c0:co=0\/co=wd-1
   .exact fin2 false false (zhj k1 k3) (zhj k1 k2) (c0.elim (λz=>.inl ⟨z,rfl⟩) λz=>.inr ⟨z,rfl⟩)
   .exact fin1 false false (zhj k1 k3) (zhj k1 k2) (.inl (by omega)) (.inl (by omega)) (zy5 a0 a1 b0 b1 (by omega) (by omega))
 obtain⟨lot,h1',e1,l0,l1,D1,K1⟩:=take C.toCoreD (k:=k) (m:=10) D0 (by omega) (by decide) (by decide)
 have done:∀(w5:W)(h3:VH),Raw g w5->Dk h3 d c (b+5)->Keep ⟨h.n,h.n,h.os⟩ h3 d c->exs (run F (k+3)) fn21.body [some (.ref d),some (.int co),some (.int wd),some (.int g),none,none] ⟨h.n,h.n,h.os⟩=exs (run F (k+3)) pTail [some (.ref d),some (.int co),some (.int wd),some (.int g),some (.int lot),some w5] h3->
  ∃w h',fin h (exs (run F (k+3)) fn21.body [some (.ref d),some (.int co),some (.int wd),some (.int g),none,none] ⟨h.n,h.n,h.os⟩)=.ok w h'/\zak w co wd g=true/\Dk h' d c (b+5)/\Keep h h' d c:=by
  intro w5 h3 R D3 K3 e
  obtain⟨w,h4,e4,hm,hh⟩:=tail w5 lot h3 R
  have D4:Dk h4 d c (b+5)/\Keep ⟨h.n,h.n,h.os⟩ h4 d c:=by
   rcases hh with rfl|⟨o,rfl⟩
   .exact⟨D3,K3⟩
   .exact⟨D3.new,K3.new⟩
  obtain⟨h5,e5,D5,K5⟩:=zbh (cl:=run F (k+3)) (fl:=.nx []) (e.trans e4) (.inr ⟨b,D⟩) D4.1 D4.2
  exact⟨w,h5,e5,hm,D5,K5⟩
 have hg1:=zal (h:=h1') (o:=.lst [W.str sDot,.str sLt,.str sGt,.str sX,.str sDot,.str sDot])
 have two:∀(x:Str)(j:Int),(if(5:Int)<lot then 5 else lot)=j->atI [W.str sDot,.str sLt,.str sGt,.str sX,.str sDot,.str sDot] j=some (.str x)->∀rest:S,exs (run F (k+3)) (.seq (.set 4 (.call 5 (.cons (.var 0) (.cons (.cst (.int (10))) .nil)))) (.seq (.set 5 (.idx (.lst (.cons (.cst (.str sDot)) (.cons (.cst (.str sLt)) (.cons (.cst (.str sGt)) (.cons (.cst (.str sX)) (.cons (.cst (.str sDot)) (.cons (.cst (.str sDot)) .nil))))))) (.bi .min (.cons (.var 4) (.cons (.cst (.int (5))) .nil))))) rest)) [some (.ref d),some (.int co),some (.int wd),some (.int g),none,none] ⟨h.n,h.n,h.os⟩ =
  exs (run F (k+3)) rest [some (.ref d),some (.int co),some (.int wd),some (.int g),some (.int lot),some (.str x)] (h1'.new (.lst [W.str sDot,.str sLt,.str sGt,.str sX,.str sDot,.str sDot])):=by
  intro x j hj ha rest
  refine(zaa (ρ':=[some (.ref d),some (.int co),some (.int wd),some (.int g),some (.int lot),none]) (h':=h1') (by simp[exs,ev,e1])).trans ?_
  refine zaa ?_
  by_cases q:(5:Int)<lot
  .rw[if_pos q]at hj
   subst hj
   simp[exs,ev,biW,minW,q,idxW,hg1,ha]
  .rw[if_neg q]at hj
   subst hj
   simp[exs,ev,biW,minW,q,idxW,hg1,ha]
 have low:∀(x:Str),lot<=3->atI [W.str sDot,.str sLt,.str sGt,.str sX,.str sDot,.str sDot] lot=some (.str x)->Raw g (.str x)->_:=λx hl ha R=>done (.str x) (h1'.new (.lst [W.str sDot,.str sLt,.str sGt,.str sX,.str sDot,.str sDot])) R (D1.new.mono (by omega)) K1.new (by
  refine(two x lot (if_neg (by omega)) ha _).trans ?_
  have n1:¬(4<lot):=by omega
  have n2:¬(lot=4):=by omega
  refine(zaa (ρ':=[some (.ref d),some (.int co),some (.int wd),some (.int g),some (.int lot),some (.str x)]) (h':=h1'.new (.lst [W.str sDot,.str sLt,.str sGt,.str sX,.str sDot,.str sDot])) (by simp[exs,ev,cmpW,eqYs,cmpI,n1])).trans ?_
  refine(zaa (ρ':=[some (.ref d),some (.int co),some (.int wd),some (.int g),some (.int lot),some (.str x)]) (h':=h1'.new (.lst [W.str sDot,.str sLt,.str sGt,.str sX,.str sDot,.str sDot])) (by simp[exs,ev,cmpW,eqYs,zau,n2])).trans ?_
  rfl)
 by_cases l4:lot<=3
 .have:lot=0\/lot=1\/lot=2\/lot=3:=by omega
  rcases this with z|z|z|z
  .exact low sDot l4 (by rw[z];rfl) .dot
  .exact low sLt l4 (by rw[z];rfl) .lt
  .exact low sGt l4 (by rw[z];rfl) .gt
  .exact low sX l4 (by rw[z];rfl) .x
 .by_cases l5:lot=4
  ·-- a blind place,or nothing
   obtain⟨r4,h4,e4,_,_,D4,K4⟩:=take C.toCoreD (k:=k) (m:=4) (D1.new (o:=.lst [W.str sDot,.str sLt,.str sGt,.str sX,.str sDot,.str sDot])) (by omega) (by decide) (by decide)
   have n1:¬(4<lot):=by omega
   have s3:∀rest:S,exs (run F (k+3)) (.seq (.ite (.and (.cmp .gt (.var 4) (.cst (.int (4)))) (.cmp .gt (.var 3) (.cst (.int (0))))) (.seq (.set 5 (.tup (.cons (.call 5 (.cons (.var 0) (.cons (.var 3) .nil))) (.cons (.call 5 (.cons (.var 0) (.cons (.cst (.int (2))) .nil))) .nil)))) .skip) .skip) rest) [some (.ref d),some (.int co),some (.int wd),some (.int g),some (.int lot),some (.str sDot)] (h1'.new (.lst [W.str sDot,.str sLt,.str sGt,.str sX,.str sDot,.str sDot]))=exs (run F (k+3)) rest [some (.ref d),some (.int co),some (.int wd),some (.int g),some (.int lot),some (.str sDot)] (h1'.new (.lst [W.str sDot,.str sLt,.str sGt,.str sX,.str sDot,.str sDot])):=λrest=>zaa (by simp[exs,ev,cmpW,eqYs,cmpI,n1])
   by_cases r0:r4=0
   .obtain⟨h5,e5,D5,K5⟩:=zbh (cl:=run F (k+3)) (fl:=.nx []) (w:=.str sS) (body:=fn21.body) (ρ:=[some (.ref d),some (.int co),some (.int wd),some (.int g),none,none]) (F:=F) (k:=k+3) (h:=h) (h':=h4) (b:=b+5) ((two sDot 4 (by rw[l5];rfl) rfl _).trans ((s3 _).trans (zab (by simp[exs,ev,cmpW,eqYs,zau,l5,e4,r0])))) (.inr ⟨b,D⟩) (D4.mono (by omega)) (K1.new.trans K4)
    exact⟨_,h5,e5,may_s,D5,K5⟩
   .exact done (.str sDot) h4 .dot (D4.mono (by omega)) (K1.new.trans K4) ((two sDot 4 (by rw[l5];rfl) rfl _).trans ((s3 _).trans (zaa (by simp[exs,ev,cmpW,eqYs,zau,l5,e4,r0]))))
  ·-- a zbv,if there are groups
   have n1:4<lot:=by omega
   have n2:¬(lot=4):=by omega
   have ha:∃j:Int,(if(5:Int)<lot then 5 else lot)=j/\atI [W.str sDot,.str sLt,.str sGt,.str sX,.str sDot,.str sDot] j=some (.str sDot):=⟨5,by split<;>omega,rfl⟩
   obtain⟨j,hj,ha⟩:=ha
   by_cases hg:0<g
   .obtain⟨ra,h4,e4,a0,a1,D4,K4⟩:=take C.toCoreD (k:=k) (m:=g) (D1.new (o:=.lst [W.str sDot,.str sLt,.str sGt,.str sX,.str sDot,.str sDot])) (by omega) hg (by omega)
    obtain⟨rb,h5,e5,b0,b1,D5,K5⟩:=take C.toCoreD (k:=k) (m:=2) D4 (by omega) (by decide) (by decide)
    exact done (.tup [.int ra,.int rb]) h5 (.rk a0 a1 b0 b1) (D5.mono (by omega)) ((K1.new.trans K4).trans K5) ((two sDot j hj ha _).trans ((zaa (ρ':=[some (.ref d),some (.int co),some (.int wd),some (.int g),some (.int lot),some (.tup [.int ra,.int rb])]) (h':=h5) (by simp[exs,ev,cmpW,eqYs,cmpI,n1,hg,e4,e5])).trans (zaa (by simp[exs,ev,cmpW,eqYs,zau,n2]))))
   .exact done (.str sDot) (h1'.new (.lst [W.str sDot,.str sLt,.str sGt,.str sX,.str sDot,.str sDot])) .dot (D1.new.mono (by omega)) K1.new ((two sDot j hj ha _).trans ((zaa (ρ':=[some (.ref d),some (.int co),some (.int wd),some (.int g),some (.int lot),some (.str sDot)]) (h':=h1'.new (.lst [W.str sDot,.str sLt,.str sGt,.str sX,.str sDot,.str sDot])) (by simp[exs,ev,cmpW,eqYs,cmpI,n1,hg])).trans (zaa (by simp[exs,ev,cmpW,eqYs,zau,n2]))))
end
noncomputable def allF(P:Int->W->Prop):Int->List W->Prop
 |_,[]=>True
 |a,w::r=>P a w/\allF P (a+1) r
theorem zdf{P:W->Prop}:∀{ws:List W} {a:Int},allF (λ_ w=>P w) a ws->∀w∈ws,P w
 |[],_,_,w,h=>by cases h
 |x::r,a,⟨h1,h2⟩,w,h=>by
  rcases vax.mp h with rfl|h
  .exact h1
  .exact zdf h2 w h
theorem zd0{P:Int->W->Prop}{d c m lim:Nat}(hs:∀(i:Int) (h:VH) (b:Nat),0<=i->i<lim->Dk h d c b->b+m<1000000000->∃w h',ev cl e (some (.int i)::tl) h=.ok w h'/\P i w/\Dk h' d c (b+m)/\Keep h h' d c) :
 ∀(n:Nat)(a:Int)(x:Option W)(h:VH)(b:Nat),0<=a->a+n<=lim->Dk h d c b->b+m*n<1000000000->
  ∃ws h',lcL (tgW (.one 0)) (λ_ h=>.ok (.bl true) h) (ev cl e) (zan a n) (x::tl) h=.ok ws h'/\allF P a ws/\ws.length=n/\Dk h' d c (b+m*n)/\Keep h h' d c
 |0,a,x,h,b,_,_,D,_=>⟨[],h,rfl,trivial,rfl,by simpa using D,.refl⟩
 |n+1,a,x,h,b,ha,hl,D,hb=>by
  have e1:m* (n+1)=m*n+m:=Nat.mul_succ m n
  obtain⟨w,h1,e2,p1,D1,K1⟩:=hs a h b ha (by omega) D (by omega)
  obtain⟨ws,h2,e3,p2,l2,D2,K2⟩:=zd0 hs n (a+1) (some (.int a)) h1 (b+m) (by omega) (by omega) D1 (by omega)
  refine⟨w::ws,h2,?_,⟨p1,p2⟩,by rw[vaj,l2],D2.mono (by omega),K1.trans K2⟩
  simp only[zan,lcL,tgW,List.set,ev,bindok,e2,e3]
theorem zcy{n:Nat}(h:n<=1000000):Nat.ble n big=true:=vd1.mpr (vbe h (by decide))
theorem zs3{ρ:En}{n ow:Nat}{ix:List Nat}(ea:ev cl a ρ h=.ok (.tup [.int n]) h1)(hn:n<1000000)(el:lcL (tgW (.one 0)) (λ_ h=>.ok (.bl true) h) (ev cl e) (zan 0 n) (inner ow ix ρ) h1=.ok ys h2)(hy:ys.length<=1000000) :
 ev cl (.lc .rng1 a (.one 0) ow ix (.cst (.bl true)) e) ρ h=.ok (.ref h2.n) (h2.new (.lst ys)):=by
 have l:=zy4 (n:=n) (tg:=tgW (.one 0)) (c:=λ_ h=>.ok (.bl true) h) (e:=ev cl e) (ρ:=inner ow ix ρ) (h:=h1) hn
 rw[el]at l
 have q:ev cl (.lc .rng1 a (.one 0) ow ix (.cst (.bl true)) e) ρ h=(ev cl a ρ h).bind λx h=>(lcG (nxt .rng1 x) (tgW (.one 0)) (ev cl (.cst (.bl true))) (ev cl e) fuel 0 (inner ow ix ρ) h []).bind λys h=>if Nat.ble ys.length big then .ok (.ref h.n) (h.new (.lst ys))else .no:=by rw[ev]
 rw[q,ea,bindok]
 show(lcG (nxt .rng1 (.tup [.int n])) (tgW (.one 0)) (λ_ h=>.ok (.bl true) h) (ev cl e) fuel 0 (inner ow ix ρ) h1 []).bind _=_
 rw[l,bindok,if_pos (zcy hy)]
theorem zgh{ρ:En}{i:Nat}(e:ev cl x ρ h=.ok (.ref i) h1)(g:h1.get i=some (.lst ys)):ev cl (.bi .tuple (.cons x .nil)) ρ h=.ok (.tup ys) h1:=by
 simp only[ev,e,bindok,biW,ze5,seqW,g,vah,ofsome]
theorem zlg{ρ:En}{n ow:Nat}{ix:List Nat}(ea:ev cl a ρ h=.ok (.tup [.int n]) h1)(hn:n<1000000)(el:lcL (tgW (.one 0)) (λ_ h=>.ok (.bl true) h) (ev cl e) (zan 0 n) (inner ow ix ρ) h1=.ok ys h2)(hy:ys.length<=1000000) :
 ev cl (.bi .tuple (.cons (.lc .rng1 a (.one 0) ow ix (.cst (.bl true)) e) .nil)) ρ h=.ok (.tup ys) (h2.new (.lst ys)):=zgh (zs3 ea hn el hy) zal
theorem zgi{wd g:Int}:∀{ws:List W} {c:Int},allF (λi w=>zak w i wd g=true) c ws->rowOk wd g c ws
 |[],_,_=>trivial
 |_::_,_,⟨h1,h2⟩=>⟨h1,zgi h2⟩
section
variable{F:Nat->Option Fn}(C:CoreP F)
include C
theorem row{k:Nat}{d c b:Nat}{wd:Nat}{g:Int}(D:Dk h d c b)(hb:b+200<1000000000)(h1:wd<=40)(g0:0<=g)(g1:g<=8) :
 ∃ws h',run F (k+5) 25 [.ref d,.int wd,.int g] h=.ok (.tup ws) h'/\ws.length=wd/\rowOk wd g 0 ws/\Dk h' d c (b+200)/\Keep h h' d c:=by
 rw[zaf C.f25 rfl]
 have D0:Dk ⟨h.n,h.n,h.os⟩ d c b:=D.lo
 obtain⟨ws,h2,e2,p2,l2,D2,K2⟩:=zd0 (cl:=run F (k+4)) (P:=λi w=>zak w i wd g=true) (e:=zhg) (tl:=[some (.ref d),some (.int g),some (.int wd)]) (m:=5) (lim:=wd) (λi h b h0 hl D hb=>by
  obtain⟨w,h',e,a1,a2,a3⟩:=piece C (k:=k) (co:=i) (wd:=wd) (g:=g) D hb h0 hl g0 g1
  exact⟨w,h',by simp[zhg,ev,e],a1,a2,a3⟩) wd 0 none ⟨h.n,h.n,h.os⟩ b (by omega) (by omega) D0 (by omega)
 have e3:=zlg (cl:=run F (k+4)) (a:=.cons (.var 1) .nil) (ρ:=[some (.ref d),some (.int wd),some (.int g)]) (h:=⟨h.n,h.n,h.os⟩) (ow:=1) (ix:=[0,2,1]) (e:=zhg) (by simp[ev]) (by omega) e2 (by omega)
 obtain⟨h5,e5,D5,K5⟩:=zbh (cl:=run F (k+4)) (fl:=.nx []) (w:=.tup ws) (body:=fn25.body) (ρ:=[some (.ref d),some (.int wd),some (.int g)]) (F:=F) (k:=k+4) (h:=h) (h':=h2.new (.lst ws)) (by simp only[fn25,exs,e3,bindok]) (.inr ⟨b,D⟩) (D2.new.mono (show _<=b+200 by omega)) K2.new
 exact⟨ws,h5,e5,l2,zgi p2,D5,K5⟩
theorem zmk{k:Nat}{d c b:Nat}{nf:Int}(D:Dk h d c b)(hb:b+5<1000000000)(n0:1<=nf)(n1:nf<=4) :
 ∃w h',run F (k+4) 23 [.ref d,.int nf] h=.ok w h'/\door w nf=true/\Dk h' d c (b+5)/\Keep h h' d c:=by
 rw[zaf C.f23 rfl]
 have D0:Dk ⟨h.n,h.n,h.os⟩ d c b:=D.lo
 obtain⟨r1,h1,e1,a1,b1,D1,K1⟩:=take C.toCoreD (k:=k) (m:=3) D0 (by omega) (by decide) (by decide)
 obtain⟨r2,h2,e2,a2,b2,D2,K2⟩:=take C.toCoreD (k:=k) (m:=100) D1 (by omega) (by decide) (by decide)
 have hg:=zal (h:=h2) (o:=.lst [.int r1,.int r2])
 obtain⟨r3,h3,e3,a3,b3,D3,K3⟩:=take C.toCoreD (k:=k) (m:=4) (D2.new (o:=.lst [.int r1,.int r2])) (by omega) (by decide) (by decide)
 obtain⟨r4,h4,e4,a4,b4,D4,K4⟩:=take C.toCoreD (k:=k) (m:=nf) D3 (by omega) (by omega) (by omega)
 obtain⟨r5,h5,e5,a5,b5,D5,K5⟩:=take C.toCoreD (k:=k) (m:=8) D4 (by omega) (by decide) (by decide)
 obtain⟨_,ns,cells,p,q,gd,gc,_⟩:=D2
 have hg3:h3.get h2.n=some (.lst [.int r1,.int r2]):=K3.get _ _ (vcl (zaq gd)) (vcl (zaq gc)) hg
 have KK:Keep ⟨h.n,h.n,h.os⟩ h5 d c:=((((K1.trans K2).new (o:=.lst [.int r1,.int r2])).trans K3).trans K4).trans K5
 have nm:∃x:Int,0<=x/\x<=99/\exs (run F (k+3)) (.set 2 (.idx (.lst (.cons (.call 5 (.cons (.var 0) (.cons (.cst (.int (3))) .nil))) (.cons (.call 5 (.cons (.var 0) (.cons (.cst (.int (100))) .nil))) .nil))) (.bi .int (.cons (.cmp .eq (.call 5 (.cons (.var 0) (.cons (.cst (.int (4))) .nil))) (.cst (.int (0)))) .nil)))) [some (.ref d),some (.int nf),none,none] ⟨h.n,h.n,h.os⟩=.ok (.nx [some (.ref d),some (.int nf),some (.int x),none]) h3:=by
  have i0:atI [W.int r1,.int r2] 0=some (.int r1):=rfl
  have i1:atI [W.int r1,.int r2] 1=some (.int r2):=rfl
  by_cases z:r3=0
  .exact⟨r2,a2,by omega,by simp[exs,ev,e1,e2,e3,cmpW,eqYs,zau,z,biW,intW,idxW,hg3,i1]⟩
  .exact⟨r1,a1,by omega,by simp[exs,ev,e1,e2,e3,cmpW,eqYs,zau,z,biW,intW,idxW,hg3,i0]⟩
 obtain⟨x,x0,x1,ex⟩:=nm
 have e6:exs (run F (k+3)) (.set 3 (.call 5 (.cons (.var 0) (.cons (.var 1) .nil)))) [some (.ref d),some (.int nf),some (.int x),none] h3=.ok (.nx [some (.ref d),some (.int nf),some (.int x),some (.int r4)]) h4:=by simp[exs,ev,e4]
 have hd:∀w:W,w=.tup [.int x,.non]\/w=.tup [.int x,.int r4]->door w nf=true:=by
  intro w hw
  rcases hw with rfl|rfl
  .simp[door,within,fon,isNon,x0,x1]
  .simp only[door,within,fon,isNon,vab,va0,Bool.false_or]
   omega
 have body:∃w,exs (run F (k+3)) fn23.body [some (.ref d),some (.int nf),none,none] ⟨h.n,h.n,h.os⟩=.ok (.rt w) h5/\door w nf=true:=by
  by_cases z:r5=0
  .exact⟨.tup [.int x,.non],(zaa ex).trans ((zaa e6).trans (by simp[exs,ev,e5,cmpW,eqYs,zau,z])),hd _ (.inl rfl)⟩
  .exact⟨.tup [.int x,.int r4],(zaa ex).trans ((zaa e6).trans (by simp[exs,ev,e5,cmpW,eqYs,zau,z])),hd _ (.inr rfl)⟩
 obtain⟨w,eb,hw⟩:=body
 obtain⟨h6,e7,D6,K6⟩:=zbh (cl:=run F (k+3)) (fl:=.nx []) eb (.inr ⟨b,D⟩) (D5.mono (show _<=b+5 by omega)) KK
 exact⟨w,h6,e7,hw,D6,K6⟩
theorem zu5{k:Nat}{d c wd n b:Nat}{g:Int}{x:Option W}(D:Dk h d c b)(hb:b+200*n<1000000000)(h1:wd<=40)(g0:0<=g)(g1:g<=8) :
 ∃(rs:List (List W)) (h':VH),lcL (tgW (.one 0)) (λ_ h=>.ok (.bl true) h) (ev (run F (k+5)) (.call 25 (.cons (.var 1) (.cons (.var 3) (.cons (.var 2) .nil))))) (zan 0 n) [x,some (.ref d),some (.int g),some (.int wd)] h=.ok (rs.map .tup) h'/\rs.length=n/\(∀r∈rs,(r.length:Int)=wd/\rowOk wd g 0 r)/\Dk h' d c (b+200*n)/\Keep h h' d c:=by
 obtain⟨ws,h',e,p,l,D',K'⟩:=zd0 (cl:=run F (k+5)) (P:=λ_ w=>∃r,w=.tup r/\(r.length:Int)=wd/\rowOk wd g 0 r) (e:=.call 25 (.cons (.var 1) (.cons (.var 3) (.cons (.var 2) .nil)))) (tl:=[some (.ref d),some (.int g),some (.int wd)]) (m:=200) (lim:=n) (λi h b _ _ D hb=>by
  obtain⟨ws,h',e,a1,a2,a3,a4⟩:=row C (k:=k) (wd:=wd) (g:=g) D hb h1 g0 g1
  exact⟨.tup ws,h',by simp[ev,e],⟨ws,rfl,by omega,a2⟩,a3,a4⟩) n 0 x h b (by omega) (by omega) D hb
 replace p:=zdf p
 have hr:∃rs:List (List W),ws=rs.map .tup/\∀r∈rs,(r.length:Int)=wd/\rowOk wd g 0 r:=by
  clear e l
  induction ws with
  |nil=>exact⟨[],rfl,λr hr=>by cases hr⟩
  |cons w ws ih=>
   obtain⟨rs,e1,e2⟩:=ih λw hw=>p w (vai _ hw)
   obtain⟨r,e3,e4⟩:=p w vam
   refine⟨r::rs,by rw[e3,e1];rfl,λq hq=>?_⟩
   rcases vax.mp hq with rfl|hq
   .exact e4
   .exact e2 q hq
 obtain⟨rs,rfl,hrs⟩:=hr
 exact⟨rs,h',e,by rw[<-l,vad],hrs,D',K'⟩
theorem zml{k:Nat}{d c wd n b:Nat}{x:Option W}(D:Dk h d c b)(hb:b+1*n<1000000000)(h0:1<=wd)(h1:wd<=40) :
 ∃(fs:List W) (h':VH),lcL (tgW (.one 0)) (λ_ h=>.ok (.bl true) h) (ev (run F (k+3)) (.call 5 (.cons (.var 1) (.cons (.var 2) .nil)))) (zan 0 n) [x,some (.ref d),some (.int wd)] h=.ok fs h'/\fs.length=n/\(∀f∈fs,within f 0 ((wd:Int)-1)=true)/\Dk h' d c (b+1*n)/\Keep h h' d c:=by
 obtain⟨ws,h',e,p,l,D',K'⟩:=zd0 (cl:=run F (k+3)) (P:=λ_ w=>within w 0 ((wd:Int)-1)=true) (e:=.call 5 (.cons (.var 1) (.cons (.var 2) .nil))) (tl:=[some (.ref d),some (.int wd)]) (m:=1) (lim:=n) (λi h b _ _ D hb=>by
  obtain⟨r,h',e,a1,a2,a3,a4⟩:=take C.toCoreD (k:=k) (m:=wd) D (by omega) (by omega) (by omega)
  exact⟨.int r,h',by simp[ev,e],by simp only[within,vab,va0];omega,a3,a4⟩) n 0 x h b (by omega) (by omega) D hb
 exact⟨ws,h',e,l,zdf p,D',K'⟩
theorem zrp{k:Nat}{d c n b:Nat}{x:Option W}(D:Dk h d c b)(hb:b+5*n<1000000000)(h0:1<=fs.length)(h1:fs.length<=4) :
 ∃(ds:List W) (h':VH),lcL (tgW (.one 0)) (λ_ h=>.ok (.bl true) h) (ev (run F (k+4)) (.call 23 (.cons (.var 1) (.cons (.bi .len (.cons (.var 2) .nil)) .nil)))) (zan 0 n) [x,some (.ref d),some (.tup fs)] h=.ok ds h'/\ds.length=n/\(∀w∈ds,door w fs.length=true)/\Dk h' d c (b+5*n)/\Keep h h' d c:=by
 obtain⟨ws,h',e,p,l,D',K'⟩:=zd0 (cl:=run F (k+4)) (P:=λ_ w=>door w fs.length=true) (e:=.call 23 (.cons (.var 1) (.cons (.bi .len (.cons (.var 2) .nil)) .nil))) (tl:=[some (.ref d),some (.tup fs)]) (m:=5) (lim:=n) (λi h b _ _ D hb=>by
  obtain⟨w,h',e,a1,a2,a3⟩:=zmk C (k:=k) (nf:=fs.length) D hb (by omega) (by omega)
  exact⟨w,h',by simp[ev,e,biW,lenW,seqW],a1,a2,a3⟩) n 0 x h b (by omega) (by omega) D hb
 exact⟨ws,h',e,l,zdf p,D',K'⟩
end
structure CoreQ(F:Nat->Option Fn):Prop extends CoreP F where
 f26:F 26=some fn26
theorem lb{b n k:Nat}(hb:b+n<1000000000)(h:k<=n):b+k<1000000000:=by omega
theorem bd0{m:Int}(h:m<=60):m+1<1073741824:=by omega
theorem bd1{t m:Int}(a:0<=t)(b:t<m)(h:m<=40):∃n:Nat,1+t=n/\1<=n/\n<=40/\(n:Int)<=m:=⟨(1+t).toNat,by omega,by omega,by omega,by omega⟩
theorem bd3{b c n k m:Nat}(h:n<=m):b+c+k*n<=b+ (c+k*m):=by
 rw[ves]
 exact vdz (vdz (Nat.mul_le_mul_left k h) c) b
section
variable{F:Nat->Option Fn}(C:CoreQ F)
include C
theorem zfd{k:Nat}{d c b:Nat}{mw mr mg:Int}(D:Dk h d c b)(hb:b+13000<1000000000)(w0:1<=mw)(w1:mw<=40)(r0:0<=mr)(r1:mr<=60)(g0:0<=mg)(g1:mg<=8) :
 ∃B h',run F (k+6) 26 [.ref d,.int mw,.int mr,.int mg] h=.ok (Bd.w B) h'/\B.Ok/\B.wd<=mw/\B.gr<=mg/\(B.rows.length:Int)<=mr/\Dk h' d c (b+13000)/\Keep h h' d c:=by
 rw[zaf C.f26 rfl]
 have D0:Dk ⟨h.n,h.n,h.os⟩ d c b:=D.lo
 obtain⟨t1,h1,e1,a1,b1,D1,K1⟩:=take C.toCoreD (k:=k+2) (m:=mw) D0 (lb (k:=0) hb (by decide)) (Int.lt_of_lt_of_le (by decide) w0) (Int.lt_of_le_of_lt w1 (by decide))
 obtain⟨wd,hwd,wd1,wd2,wd3⟩:=bd1 a1 b1 w1
 obtain⟨gr,h2,e2,a2,b2,D2,K2⟩:=take C.toCoreD (k:=k+2) (m:=mg+1) D1 (lb (k:=1) hb (by decide)) (Int.lt_add_one_of_le g0) (bd0 (Int.le_trans g1 (by decide)))
 have b2:=Int.le_of_lt_add_one b2
 have g2:=Int.le_trans b2 g1
 obtain⟨t3,h3,e3,a3,b3,D3,K3⟩:=take C.toCoreD (k:=k+2) (m:=mr+1) D2 (lb (k:=2) hb (by decide)) (Int.lt_add_one_of_le r0) (bd0 r1)
 obtain⟨nr,hnr⟩:=va5 a3
 have nr1:(nr:Int)<=mr:=hnr▸Int.le_of_lt_add_one b3
 have nr2:nr<=60:=vev.mp (Int.le_trans nr1 r1)
 obtain⟨rs,h4,e4,l4,p4,D4,K4⟩:=zu5 C.toCoreP (k:=k) (n:=nr) (wd:=wd) (g:=gr) (x:=none) D3 (vbv (bd3 (c:=3) nr2) (lb hb (by decide))) wd2 a2 g2
 have D4:=D4.mono (bd3 (c:=3) nr2)
 have D4':=D4.new (o:=.lst (rs.map .tup))
 obtain⟨t5,h5,e5,a5,b5,D5,K5⟩:=take C.toCoreD (k:=k+2) (m:=4) D4' (lb hb (by decide)) (by decide) (by decide)
 obtain⟨nf,hnf,nf1,_,nf2⟩:=bd1 a5 b5 (by decide)
 have nf2:=vev.mp nf2
 obtain⟨fs,h6,e6,l6,p6,D6,K6⟩:=zml C.toCoreP (k:=k+2) (n:=nf) (wd:=wd) (x:=none) D5 (vbv (bd3 (c:=12004) nf2) (lb hb (by decide))) wd1 wd2
 have D6:=D6.mono (bd3 (c:=12004) nf2)
 have D6':=D6.new (o:=.lst fs)
 obtain⟨ds,h7,e7,l7,p7,D7,K7⟩:=zrp C.toCoreP (k:=k+1) (n:=wd) (fs:=fs) (x:=none) D6' (vbv (bd3 (c:=12008) wd2) (lb hb (by decide))) (l6▸nf1) (l6▸nf2)
 obtain⟨hne,ns,cells,p,q,gd,gc,_⟩:=D4
 have gl:(h7.new (.lst ds)).get h4.n=some (.lst (rs.map .tup)):=by
  have n1:h4.n≠d:=vcl (zaq gd)
  have n2:h4.n≠c:=vcl (zaq gc)
  have q1:=K5.get h4.n _ n1 n2 zal
  have q2:=K6.get h4.n _ n1 n2 q1
  have q3:(h6.new (.lst fs)).get h4.n=some (.lst (rs.map .tup)):=by rw[zah (zaq q2)];exact q2
  have q4:=K7.get h4.n _ n1 n2 q3
  rw[zah (zaq q4)];exact q4
 have s1:exs (run F (k+5)) (.set 4 (.op .add (.cst (.int (1))) (.call 5 (.cons (.var 0) (.cons (.var 1) .nil))))) [some (.ref d),some (.int mw),some (.int mr),some (.int mg),none,none,none,none,none] ⟨h.n,h.n,h.os⟩=.ok (.nx [some (.ref d),some (.int mw),some (.int mr),some (.int mg),some (.int wd),none,none,none,none]) h1:=by
  simp[exs,ev,e1,opW,opI,hwd]
 have s2:exs (run F (k+5)) (.set 5 (.call 5 (.cons (.var 0) (.cons (.op .add (.var 3) (.cst (.int (1)))) .nil)))) [some (.ref d),some (.int mw),some (.int mr),some (.int mg),some (.int wd),none,none,none,none] h1=.ok (.nx [some (.ref d),some (.int mw),some (.int mr),some (.int mg),some (.int wd),some (.int gr),none,none,none]) h2:=by
  simp[exs,ev,e2,opW,opI]
 have s3:=zs3 (cl:=run F (k+5)) (a:=.cons (.call 5 (.cons (.var 0) (.cons (.op .add (.var 2) (.cst (.int (1)))) .nil))) .nil) (ρ:=[some (.ref d),some (.int mw),some (.int mr),some (.int mg),some (.int wd),some (.int gr),none,none,none]) (h:=h2) (h1:=h3) (n:=nr) (ow:=1) (ix:=[0,5,4]) (by simp[ev,opW,opI,e3,hnr]) (vbv nr2 (by decide)) e4 (by rw[vad,l4];exact vbe nr2 (by decide))
 have s4:=zlg (cl:=run F (k+5)) (a:=.cons (.op .add (.cst (.int (1))) (.call 5 (.cons (.var 0) (.cons (.cst (.int (4))) .nil)))) .nil) (ρ:=[some (.ref d),some (.int mw),some (.int mr),some (.int mg),some (.int wd),some (.int gr),some (.ref h4.n),none,none]) (h:=h4.new (.lst (rs.map .tup))) (h1:=h5) (n:=nf) (ow:=1) (ix:=[0,4]) (by simp[ev,opW,opI,e5,hnf]) (vbv nf2 (by decide)) e6 (by rw[l6];exact vbe nf2 (by decide))
 have s5:=zlg (cl:=run F (k+5)) (a:=.cons (.var 4) .nil) (ρ:=[some (.ref d),some (.int mw),some (.int mr),some (.int mg),some (.int wd),some (.int gr),some (.ref h4.n),some (.tup fs),none]) (h:=h6.new (.lst fs)) (h1:=h6.new (.lst fs)) (n:=wd) (ow:=1) (ix:=[0,7]) (by simp[ev]) (vbv wd2 (by decide)) e7 (by rw[l7];exact vbe wd2 (by decide))
 have body:exs (run F (k+5)) fn26.body [some (.ref d),some (.int mw),some (.int mr),some (.int mg),none,none,none,none,none] ⟨h.n,h.n,h.os⟩=.ok (.rt (Bd.w ⟨wd,gr,rs,fs,ds⟩)) (h7.new (.lst ds)):=by
  refine(zaa s1).trans ((zaa s2).trans ?_)
  refine(zaa (ρ':=[some (.ref d),some (.int mw),some (.int mr),some (.int mg),some (.int wd),some (.int gr),some (.ref h4.n),none,none]) (h':=h4.new (.lst (rs.map .tup))) (by unfold zol;simp only[exs,s3,bindok];rfl)).trans ?_
  refine(zaa (ρ':=[some (.ref d),some (.int mw),some (.int mr),some (.int mg),some (.int wd),some (.int gr),some (.ref h4.n),some (.tup fs),none]) (h':=h6.new (.lst fs)) (by unfold zom;simp only[exs,s4,bindok];rfl)).trans ?_
  refine(zaa (ρ':=[some (.ref d),some (.int mw),some (.int mr),some (.int mg),some (.int wd),some (.int gr),some (.ref h4.n),some (.tup fs),some (.tup ds)]) (h':=h7.new (.lst ds)) (by unfold zon;simp only[exs,s5,bindok];rfl)).trans ?_
  simp[exs,ev,biW,ze5,seqW,gl,Bd.w]
 have KK:Keep ⟨h.n,h.n,h.os⟩ (h7.new (.lst ds)) d c:=((((((K1.trans K2).trans K3).trans K4).new.trans K5).trans K6).new.trans K7).new
 obtain⟨h8,e8,D8,K8⟩:=zbh (cl:=run F (k+5)) (fl:=.nx []) body (.inr ⟨b,D⟩) (D7.new.mono (vbe (bd3 (c:=12008) wd2) (vdz (show _<=13000 by decide) b))) KK
 refine⟨⟨wd,gr,rs,fs,ds⟩,h8,e8,⟨vev.mpr wd1,vev.mpr wd2,a2,g2,by show rs.length<=60;rw[l4];exact nr2,p4,by show 1<=fs.length;rw[l6];exact nf1,by show fs.length<=4;rw[l6];exact nf2,p6,vdu _ l7,p7⟩,wd3,b2,by show(rs.length:Int)<=mr;rw[l4];exact nr1,D8,K8⟩
end
structure Gw(h h':VH):Prop where
 le:h.n<=h'.n
 lo:h'.lo=h.lo
 get:∀i o,h.get i=some o->h'.get i=some o
theorem zrq{n:Nat}(g:Gw ⟨h.n,h.n,h.os⟩ h')(hw:∀m,W.lt m w=true):fin h (.ok (.rt w) h')=.ok w h:=zaj (by rw[g.lo];exact vac _) (hw _)
theorem zov{n:Nat}(h:n<=1000000):Nat.blt n big=true:=zao.mpr (vbv h (by decide))
theorem zs4(hl:xs.length+ys.length<=1000000):opW .add (.tup xs) (.tup ys) h=.ok (.tup (xs++ys)) h:=by
 have:opT .add xs ys=some (xs++ys):=if_pos (zcy hl)
 simp only[opW,this,vah,ofsome]
theorem zlh{i j:Nat}(hi:h.get i=some (.lst xs))(hj:h.get j=some (.lst ys))(hl:xs.length+ys.length<=1000000):opW .add (.ref i) (.ref j) h=.ok (.ref h.n) (h.new (.lst (xs++ys))):=by
 have:opL .add xs ys=some (xs++ys):=if_pos (zcy hl)
 simp only[opW,hi,hj,this]
theorem zbb{i l:Nat}{ρ:En}(hρ:ρ[i]?=some (some (.ref l)))(g0:h.get l=some (.lst acc0))(e:ev cl x ρ h=.ok w h1)(g:h1.get l=some (.lst acc))(hl:acc.length<=1000000) :
 ev cl (.mt .append (.var i) (.cons x .nil)) ρ h=.ok .non (h1.set l (.lst (acc++[w]))):=by
 have hk:zij .append h (.ref l)=true:=by simp only[zij,g0]
 have hm:mtW .append (.ref l) [w] h1=.ok .non (h1.set l (.lst (acc++[w]))):=by
  simp only[mtW,g]
  rw[if_pos (zov hl)]
 simp only[ev,hρ,va4,ofsome,bindok,hk,vbm,e,hm]
theorem zj9{g:Int}(h:zbv w g=true):∃a b:Int,w=.tup [.int a,.int b]/\0<=a/\a<g/\0<=b/\b<2:=by
 cases w<;>simp only[zbv]at h<;>try(cases h;done)
 rename_i us
 rcases us with _|⟨a,_|⟨b,_|_⟩⟩<;>simp at h
 obtain⟨h1,h2⟩:=h
 cases a<;>simp[within]at h1
 cases b<;>simp[within]at h2
 exact⟨_,_,rfl,by omega,by omega,by omega,by omega⟩
theorem zfe{n:Int}(h:door w n=true):∃(a:Int) (b:W),w=.tup [.int a,b]/\0<=a/\a<=99/\(b=.non\/∃i:Int,b=.int i/\0<=i/\i<n):=by
 cases w<;>simp only[door]at h<;>try(cases h;done)
 rename_i us
 rcases us with _|⟨a,_|⟨b,_|_⟩⟩<;>simp at h
 obtain⟨h1,h2⟩:=h
 cases a<;>simp[within]at h1
 unfold fon at h2
 cases b<;>simp[within,isNon]at h2
 .exact⟨_,_,rfl,h1.1,h1.2,.inl rfl⟩
 .exact⟨_,_,rfl,h1.1,h1.2,.inr ⟨_,rfl,by omega,by omega⟩⟩
noncomputable def stepP(w:W)(hd:Int)(ls:List Int):Option (Int×List Int×List Int):=match w with
 |.tup [.int g,.int s]=>some (if ls.getD g.toNat 0=s then -1 else 1,[g],ls.set g.toNat (1-ls.getD g.toNat 0))
 |.str x=>if x==sS then none else if x==sX then some (hd,[],ls)else if x==sDot then some (0,[],ls)else some (if x==sLt then -1 else 1,[],ls)
 |_=>none
noncomputable def colAt(r:List W)(c:Int):W:=(r[c.toNat]?).getD .non
structure Fa where
 cs:List Int
 ts:List Int
 ls:List Int
 st:Bool
noncomputable def fallP:List (List W)->Int->Int->List Int->Fa
 |[],_,_,ls=>⟨[],[],ls,false⟩
 |r::rs,c,hd,ls=>match stepP (colAt r c) hd ls with
  |none=>⟨[],[],ls,true⟩
  |some (d,t,l)=>⟨(c+d):: (fallP rs (c+d) d l).cs,t++(fallP rs (c+d) d l).ts,(fallP rs (c+d) d l).ls,(fallP rs (c+d) d l).st⟩
noncomputable def lastC:Int->List Int->Int
 |c,[]=>c
 |_,x::r=>lastC x r
noncomputable def Bits(ls:List Int):Prop:=∀x∈ls,x=0\/x=1
theorem zdg{c wd g:Int}(h:zak w c wd g=true):(w=.str sX/\0<c/\c<wd-1)\/(w=.str sLt/\0<c)\/(w=.str sGt/\c<wd-1)\/w=.str sDot\/w=.str sS\/∃a b:Nat,w=.tup [.int a,.int b]/\(a:Int)<g/\b<2/\0<c/\c<wd-1:=by
 unfold zak at h
 split at h
 .rename_i q
  rw[vab,va0,va0]at h
  rw[vcn]at q
  rcases q with q|q
  .exact .inl ⟨zgg q,h⟩
  .obtain⟨a,b,rfl,h1,h2,h3,h4⟩:=zj9 q
   obtain⟨a,rfl⟩:=va5 h1
   obtain⟨b,rfl⟩:=va5 h3
   exact .inr (.inr (.inr (.inr (.inr ⟨a,b,rfl,h2,by omega,h⟩))))
 .split at h
  .rename_i q;exact .inr (.inl ⟨zgg q,by simpa using h⟩)
  .split at h
   .rename_i q;exact .inr (.inr (.inl ⟨zgg q,by simpa using h⟩))
   .rw[vcn]at h
    rcases h with q|q
    .exact .inr (.inr (.inr (.inl (zgg q))))
    .exact .inr (.inr (.inr (.inr (.inl (zgg q)))))
theorem zli{hd:Int}:stepP (.str sX) hd ls=some (hd,[],ls):=rfl
theorem zhk{hd:Int}:stepP (.str sLt) hd ls=some (-1,[],ls):=rfl
theorem zhl{hd:Int}:stepP (.str sGt) hd ls=some (1,[],ls):=rfl
theorem zep{hd:Int}:stepP (.str sDot) hd ls=some (0,[],ls):=rfl
theorem zlj{hd:Int}:stepP (.str sS) hd ls=none:=rfl
theorem zhm{hd:Int}{a b:Nat}:stepP (.tup [.int a,.int b]) hd ls=some (if ls.getD a 0=b then -1 else 1,[(a:Int)],ls.set a (1-ls.getD a 0)):=rfl
theorem zrr(h:Bits ls)(a:Nat):ls.getD a 0=0\/ls.getD a 0=1:=by
 rw[vbz]
 cases q:ls[a]? with
 |none=>exact .inl rfl
 |some x=>exact h x (vcb q)
theorem zka{c wd g hd:Int}(h:zak w c wd g=true)(c0:0<=c)(c1:c<wd)(h1:-1<=hd)(h2:hd<=1)(b:Bits ls){d:Int}(e:stepP w hd ls=some (d,t,l)):-1<=d/\d<=1/\0<=c+d/\c+d<wd/\l.length=ls.length/\Bits l/\t.length<=1:=by
 rcases zdg h with⟨rfl,h3,h4⟩|⟨rfl,h3⟩|⟨rfl,h3⟩|rfl|rfl|⟨p,q,rfl,h3,h4,h5,h6⟩
 .rw[zli]at e;cases e;exact⟨h1,h2,by omega,by omega,rfl,b,by simp⟩
 .rw[zhk]at e;cases e;exact⟨by omega,by omega,by omega,by omega,rfl,b,by simp⟩
 .rw[zhl]at e;cases e;exact⟨by omega,by omega,by omega,by omega,rfl,b,by simp⟩
 .rw[zep]at e;cases e;exact⟨by omega,by omega,by omega,by omega,rfl,b,by simp⟩
 .rw[zlj]at e;cases e
 .rw[zhm]at e;cases e
  refine⟨by split<;>omega,by split<;>omega,by split<;>omega,by split<;>omega,by simp,λx hx=>?_,by simp⟩
  rcases List.mem_or_eq_of_mem_set hx with hx|rfl
  .exact b x hx
  .rcases zrr b p with q|q<;>rw[q]<;>omega
noncomputable def zi2(wd g:Int)(rs:List (List W)):Prop:=∀r∈rs,(r.length:Int)=wd/\rowOk wd g 0 r
theorem zlk{wd g:Int}:∀{ws:List W} {c:Int} (i:Nat) {w:W},rowOk wd g c ws->ws[i]?=some w->zak w (c+i) wd g=true
 |[],_,_,_,_,e=>by simp at e
 |x::r,c,0,w,⟨h1,h2⟩,e=>by
  simp at e;subst e;simpa using h1
 |x::r,c,i+1,w,⟨h1,h2⟩,e=>by
  have:=zlk i h2 (by simpa using e)
  rw[show c+ ((i+1:Nat):Int)=c+1+i by push_cast;omega]
  exact this
theorem zgj{wd g c:Int}(h:(r.length:Int)=wd/\rowOk wd g 0 r)(c0:0<=c)(c1:c<wd):r[c.toNat]?=some (colAt r c)/\zak (colAt r c) c wd g=true:=by
 obtain⟨n,rfl⟩:=va5 c0
 have hn:n<r.length:=by omega
 have e:r[n]?=some r[n]:=vav hn
 have e2:colAt r n=r[n]:=by
  unfold colAt
  rw[vb9,e];rfl
 rw[e2,vb9]
 refine⟨e,?_⟩
 have:=zlk n h.2 e
 simpa using this
structure Fa.Ok(q:Fa)(wd:Int)(c:Int)(m n:Nat):Prop where
 l1:q.ls.length=n
 l2:Bits q.ls
 c1:∀x∈q.cs,0<=x/\x<wd
 c2:q.cs.length<=m
 c3:q.st=false->q.cs.length=m
 c5:q.st=true->q.cs.length<m
 c4:0<=lastC c q.cs/\lastC c q.cs<wd
 t1:q.ts.length<=m
theorem zow{wd g:Int}:∀(rs:List (List W)) (c hd:Int) (ls:List Int),zi2 wd g rs->0<=c->c<wd->-1<=hd->hd<=1->Bits ls->(fallP rs c hd ls).Ok wd c rs.length ls.length
 |[],c,hd,ls,_,c0,c1,_,_,b=>⟨rfl,b,by simp[fallP],by simp[fallP],by simp[fallP],by simp[fallP],⟨c0,c1⟩,by simp[fallP]⟩
 |r::rs,c,hd,ls,ok,c0,c1,h1,h2,b=>by
  obtain⟨_,hm⟩:=zgj (ok r vam) c0 c1
  unfold fallP
  cases e:stepP (colAt r c) hd ls with
  |none=>exact⟨rfl,b,by simp,by simp,by simp,by simp,⟨c0,c1⟩,by simp⟩
  |some q=>
   obtain⟨d,t,l⟩:=q
   obtain⟨a1,a2,a3,a4,a5,a6,a7⟩:=zka hm c0 c1 h1 h2 b e
   have ih:=zow rs (c+d) d l (λr hr=>ok r (vai _ hr)) a3 a4 a1 a2 a6
   refine⟨ih.l1.trans a5,ih.l2,λx hx=>?_,?_,λh=>?_,λh=>?_,ih.c4,?_⟩
   .rcases vax.mp hx with rfl|hx
    .exact⟨a3,a4⟩
    .exact ih.c1 x hx
   .simp only[vaj];have:=ih.c2;omega
   .simp only[vaj];have:=ih.c3 h;omega
   .simp only[vaj];have:=ih.c5 h;omega
   .simp only[vaj,vaf];have:=ih.t1;omega
theorem zi3{rs:List (List W)}{c hd:Int}(e:stepP (colAt r c) hd ls=none):fallP (r::rs) c hd ls=⟨[],[],ls,true⟩:=by
 unfold fallP
 rw[e]
theorem zi4{rs:List (List W)}{c hd d:Int}(e:stepP (colAt r c) hd ls=some (d,t,l)):fallP (r::rs) c hd ls=⟨(c+d):: (fallP rs (c+d) d l).cs,t++(fallP rs (c+d) d l).ts,(fallP rs (c+d) d l).ls,(fallP rs (c+d) d l).st⟩:=by
 rw[fallP,e]
noncomputable def st3(h:VH)(gs:List VO)(c t l:List W):VH:=⟨h.n+3+gs.length,h.n,gs++(.lst l :: .lst t :: .lst c::h.os)⟩
theorem st_c:(st3 h gs c t l).get h.n=some (.lst c):=by
 unfold st3 VH.get
 rw[if_pos (zao.mpr (by show h.n<h.n+3+gs.length;omega))]
 show(gs++(.lst l :: .lst t :: .lst c::h.os))[h.n+3+gs.length-1-h.n]?=_
 rw[vbb (by omega),show h.n+3+gs.length-1-h.n-gs.length=2 by omega]
 rfl
theorem st_t:(st3 h gs c t l).get (h.n+1)=some (.lst t):=by
 unfold st3 VH.get
 rw[if_pos (zao.mpr (by show h.n+1<h.n+3+gs.length;omega))]
 show(gs++(.lst l :: .lst t :: .lst c::h.os))[h.n+3+gs.length-1- (h.n+1)]?=_
 rw[vbb (by omega),show h.n+3+gs.length-1- (h.n+1)-gs.length=1 by omega]
 rfl
theorem st_l:(st3 h gs c t l).get (h.n+2)=some (.lst l):=by
 unfold st3 VH.get
 rw[if_pos (zao.mpr (by show h.n+2<h.n+3+gs.length;omega))]
 show(gs++(.lst l :: .lst t :: .lst c::h.os))[h.n+3+gs.length-1- (h.n+2)]?=_
 rw[vbb (by omega),show h.n+3+gs.length-1- (h.n+2)-gs.length=0 by omega]
 rfl
theorem zbx{a b:Nat}(h:b<=a):Nat.blt a b=false:=by
 cases q:Nat.blt a b with
 |false=>rfl
 |true=>have:=zao.mp q;omega
theorem zox:(st3 h gs c t l).set h.n (.lst c')=st3 h gs c' t l:=by
 unfold st3 VH.set
 simp only[zbx (vac h.n)]
 rw[vdp _ _ (by omega),show h.n+3+gs.length-1-h.n-gs.length=2 by omega]
 rfl
theorem zoy:(st3 h gs c t l).set (h.n+1) (.lst t')=st3 h gs c t' l:=by
 unfold st3 VH.set
 simp only[zbx (vdy h.n)]
 rw[vdp _ _ (by omega),show h.n+3+gs.length-1- (h.n+1)-gs.length=1 by omega]
 rfl
theorem zu6:(st3 h gs c t l).set (h.n+2) (.lst l')=st3 h gs c t l':=by
 unfold st3 VH.set
 simp only[zbx (show h.n<=h.n+2 by omega)]
 rw[vdp _ _ (by omega),show h.n+3+gs.length-1- (h.n+2)-gs.length=0 by omega]
 rfl
theorem zoz:(st3 h gs c t l).new o=st3 h (o::gs) c t l:=by
 unfold st3 VH.new
 simp only[vaj,vb7]
 rw[show h.n+3+gs.length+1=h.n+3+ (gs.length+1) by omega]
noncomputable def fn17:Fn:=⟨2,2,(.seq (.ret (.call 7 (.cons (.var 0) (.cons (.var 1) (.cons (.var 1) (.cons (.cst (.int (0))) (.cons (.cst (.int (1))) .nil))))))) .skip)⟩
noncomputable def zhn:E:=(.call 5 (.cons (.var 1) (.cons (.cst (.int (2))) .nil)))
noncomputable def fn20:Fn:=⟨2,2,(.seq (.ret (.bi .tuple (.cons (.lc .rng1 (.cons (.var 1) .nil) (.one 0) 1 [0] (.cst (.bl true)) zhn) .nil))) .skip)⟩
noncomputable def fn27:Fn:=⟨2,4,(.seq (.expr (.call 14 (.cons (.var 0) .nil))) (.seq (.ite (.not (.tru (.call 6 (.cons (.var 1) (.cons (.cst (.int (2))) (.cons (.cst (.int (2))) .nil)))))) (.seq (.ret (.cst (.bl false))) .skip) .skip) (.seq (.unp [2,3] (.var 1)) (.seq (.ret (.and (.call 17 (.cons (.var 2) (.cons (.idx (.var 0) (.cst (.int (1)))) .nil))) (.call 12 (.cons (.var 3) (.cons (.bi .len (.cons (.idx (.var 0) (.cst (.int (3)))) .nil)) .nil))))) .skip))))⟩
noncomputable def fn29:Fn:=⟨2,2,(.seq (.ite (.not (.tru (.call 27 (.cons (.var 0) (.cons (.var 1) .nil))))) (.seq .no .skip) .skip) .skip)⟩
noncomputable def zd1:S:=(.seq (.set 8 (.idx (.var 7) (.idx (.var 4) (.neg (.cst (.int (1))))))) (.seq (.ite (.cmp .eq (.var 8) (.cst (.str (PySem.Str.ofString "s")))) (.seq (.ret (.lst (.cons (.bi .tuple (.cons (.var 4) .nil)) (.cons (.bi .tuple (.cons (.var 5) .nil)) (.cons (.bi .tuple (.cons (.var 1) .nil)) (.cons (.cst (.bl true)) .nil)))))) .skip) .skip) (.seq (.ite (.or (.cmp .eq (.var 8) (.cst (.str (PySem.Str.ofString ".")))) (.or (.cmp .eq (.var 8) (.cst (.str (PySem.Str.ofString "<")))) (.cmp .eq (.var 8) (.cst (.str (PySem.Str.ofString ">")))))) (.seq (.set 6 (.idx (.dsp (.cons (.cst (.str (PySem.Str.ofString "."))) (.cons (.cst (.int (0))) (.cons (.cst (.str (PySem.Str.ofString "<"))) (.cons (.neg (.cst (.int (1)))) (.cons (.cst (.str (PySem.Str.ofString ">"))) (.cons (.cst (.int (1))) .nil))))))) (.var 8))) .skip) (.seq (.ite (.cmp .ne (.var 8) (.cst (.str (PySem.Str.ofString "x")))) (.seq (.set 6 (.op .sub (.cst (.int (1))) (.op .mul (.cst (.int (2))) (.bi .int (.cons (.cmp .eq (.idx (.var 1) (.idx (.var 8) (.cst (.int (0))))) (.idx (.var 8) (.cst (.int (1))))) .nil))))) (.seq (.expr (.mt .append (.var 5) (.cons (.idx (.var 8) (.cst (.int (0)))) .nil))) (.seq (.put (.var 1) (.idx (.var 8) (.cst (.int (0)))) (.op .sub (.cst (.int (1))) (.idx (.var 1) (.idx (.var 8) (.cst (.int (0))))))) .skip))) .skip) .skip)) (.seq (.expr (.mt .append (.var 4) (.cons (.op .add (.idx (.var 4) (.neg (.cst (.int (1))))) (.var 6)) .nil))) .skip))))
noncomputable def fn38:Fn:=⟨3,9,(.seq (.set 3 (.idx (.idx (.var 0) (.cst (.int (3)))) (.var 2))) (.seq (.set 4 (.lst (.cons (.var 3) .nil))) (.seq (.set 5 (.lst .nil)) (.seq (.set 1 (.bi .list (.cons (.var 1) .nil))) (.seq (.set 6 (.cst (.int (0)))) (.seq (.«for» .seq (.idx (.var 0) (.cst (.int (2)))) (.one 7) zd1) (.seq (.ret (.lst (.cons (.bi .tuple (.cons (.var 4) .nil)) (.cons (.bi .tuple (.cons (.var 5) .nil)) (.cons (.bi .tuple (.cons (.var 1) .nil)) (.cons (.cst (.bl false)) .nil)))))) .skip)))))))⟩
noncomputable def fn39:Fn:=⟨2,2,(.seq (.ret (.and (.isi .int (.var 0)) (.and (.not (.isi .bool (.var 0))) (.cmp .eq (.var 0) (.var 1))))) .skip)⟩
noncomputable def zff:E:=(.call 59 (.cons (.var 0) (.cons (.var 1) .nil)))
noncomputable def fn59:Fn:=⟨2,2,(.seq (.ite (.tru (.isi .tuple (.var 1))) (.seq (.ite (.not (.tru (.call 6 (.cons (.var 0) (.cons (.bi .len (.cons (.var 1) .nil)) (.cons (.bi .len (.cons (.var 1) .nil)) .nil)))))) (.seq (.ret (.cst (.bl false))) .skip) .skip) (.seq (.ret (.bi .all (.cons (.lc .zip (.cons (.var 0) (.cons (.var 1) .nil)) (.many [0,1]) 2 [] (.cst (.bl true)) zff) .nil))) .skip)) .skip) (.seq (.ret (.and (.not (.isi .bool (.var 0))) (.cmp .eq (.var 0) (.var 1)))) .skip))⟩
noncomputable def zkb:E:=(.call 92 (.cons (.var 0) (.cons (.var 1) .nil)))
noncomputable def fn92:Fn:=⟨2,2,(.seq (.ite (.tru (.isi .tuple (.var 1))) (.seq (.ite (.or (.not (.tru (.isi .tuple (.var 0)))) (.cmp .ne (.bi .len (.cons (.var 0) .nil)) (.bi .len (.cons (.var 1) .nil)))) (.seq (.ret (.cst (.bl false))) .skip) .skip) (.seq (.ret (.bi .all (.cons (.lc .zip (.cons (.var 0) (.cons (.var 1) .nil)) (.many [0,1]) 2 [] (.cst (.bl true)) zkb) .nil))) .skip)) .skip) (.seq (.ite (.cmp .isn (.var 1) (.cst .non)) (.seq (.ret (.cmp .isn (.var 0) (.cst .non))) .skip) .skip) (.seq (.ret (.call 39 (.cons (.var 0) (.cons (.var 1) .nil)))) .skip)))⟩
noncomputable def fn93:Fn:=⟨2,4,(.seq (.set 2 (.call 20 (.cons (.var 0) (.cons (.idx (.var 1) (.cst (.int (1)))) .nil)))) (.seq (.set 3 (.call 5 (.cons (.var 0) (.cons (.bi .len (.cons (.idx (.var 1) (.cst (.int (3)))) .nil)) .nil)))) (.seq (.ite (.cmp .eq (.call 5 (.cons (.var 0) (.cons (.cst (.int (12))) .nil))) (.cst (.int (7)))) (.seq (.ret (.tup (.cons (.var 2) (.cons (.cst .non) .nil)))) .skip) .skip) (.seq (.ret (.tup (.cons (.var 2) (.cons (.var 3) .nil)))) .skip))))⟩
noncomputable def fn99:Fn:=⟨1,2,(.seq (.set 1 (.call 5 (.cons (.var 0) (.cons (.cst (.int (8))) .nil)))) (.seq (.ite (.cmp .eq (.var 1) (.cst (.int (0)))) (.seq (.ret (.call 26 (.cons (.var 0) (.cons (.cst (.int (40))) (.cons (.cst (.int (60))) (.cons (.cst (.int (8))) .nil)))))) .skip) .skip) (.seq (.ite (.cmp .eq (.var 1) (.cst (.int (1)))) (.seq (.ret (.call 26 (.cons (.var 0) (.cons (.cst (.int (6))) (.cons (.cst (.int (12))) (.cons (.cst (.int (6))) .nil)))))) .skip) .skip) (.seq (.ret (.call 26 (.cons (.var 0) (.cons (.cst (.int (9))) (.cons (.cst (.int (8))) (.cons (.cst (.int (4))) .nil)))))) .skip))))⟩
noncomputable def zbi:E:=(.cmp .notn (.idx (.idx (.var 2) (.neg (.cst (.int (1))))) (.cst (.int (1)))) (.cst .non))
noncomputable def za1:S:=(.seq (.unp [5,6] (.call 117 (.cons (.var 0) (.cons (.idx (.var 2) (.neg (.cst (.int (1))))) .nil)))) (.seq (.expr (.mt .append (.var 4) (.cons (.var 5) .nil))) (.seq (.ite (.cmp .inn (.var 6) (.var 3)) (.seq (.ret (.lst (.cons (.var 2) (.cons (.var 4) (.cons (.idx (.var 3) (.var 6)) .nil))))) .skip) .skip) (.seq (.put (.var 3) (.var 6) (.bi .len (.cons (.var 2) .nil))) (.seq (.expr (.mt .append (.var 2) (.cons (.var 6) .nil))) .skip)))))
noncomputable def fn112:Fn:=⟨2,7,(.seq (.set 2 (.lst (.cons (.var 1) .nil))) (.seq (.set 3 (.dsp (.cons (.var 1) (.cons (.cst (.int (0))) .nil)))) (.seq (.set 4 (.lst .nil)) (.seq (.whl zbi za1) (.seq (.ret (.lst (.cons (.var 2) (.cons (.var 4) (.cons (.cst .non) .nil))))) .skip)))))⟩
noncomputable def fn117:Fn:=⟨2,8,(.seq (.unp [2,3,4,5] (.call 38 (.cons (.var 0) (.cons (.idx (.var 1) (.cst (.int (0)))) (.cons (.idx (.var 1) (.cst (.int (1)))) .nil))))) (.seq (.ite (.tru (.var 5)) (.seq (.ret (.tup (.cons (.cst .non) (.cons (.tup (.cons (.var 4) (.cons (.cst .non) .nil))) .nil)))) .skip) .skip) (.seq (.unp [6,7] (.idx (.idx (.var 0) (.cst (.int (4)))) (.idx (.var 2) (.neg (.cst (.int (1))))))) (.seq (.ret (.tup (.cons (.var 6) (.cons (.tup (.cons (.var 4) (.cons (.var 7) .nil))) .nil)))) .skip))))⟩
noncomputable def fn132:Fn:=⟨1,3,(.seq (.set 1 (.call 99 (.cons (.var 0) .nil))) (.seq (.set 2 (.call 93 (.cons (.var 0) (.cons (.var 1) .nil)))) (.seq (.ite (.cmp .gt (.op .mul (.bi .len (.cons (.idx (.call 112 (.cons (.var 1) (.cons (.var 2) .nil))) (.cst (.int (0)))) .nil)) (.bi .len (.cons (.idx (.var 1) (.cst (.int (2)))) .nil))) (.cst (.int (6000)))) (.seq (.set 1 (.call 26 (.cons (.var 0) (.cons (.cst (.int (9))) (.cons (.cst (.int (8))) (.cons (.cst (.int (4))) .nil)))))) (.seq (.set 2 (.call 93 (.cons (.var 0) (.cons (.var 1) .nil)))) .skip)) .skip) (.seq (.ret (.lst (.cons (.var 1) (.cons (.var 2) .nil)))) .skip))))⟩
noncomputable def fn173:Fn:=⟨4,7,(.seq (.ite (.tru (.isi .tuple (.var 0))) (.seq (.unp [4,5] (.var 0)) (.seq (.set 6 (.idx (.var 2) (.var 4))) (.seq (.ite (.cmp .ne (.var 4) (.var 3)) (.seq (.put (.var 2) (.var 4) (.op .sub (.cst (.int (1))) (.var 6))) .skip) .skip) (.seq (.ret (.ite (.cmp .eq (.var 6) (.var 5)) (.cst (.int (-1))) (.cst (.int (1))))) .skip)))) .skip) (.seq (.ite (.cmp .eq (.var 0) (.cst (.str (PySem.Str.ofString "s")))) (.seq (.ret (.cst .non)) .skip) .skip) (.seq (.ite (.cmp .eq (.var 0) (.cst (.str (PySem.Str.ofString "x")))) (.seq (.ret (.var 1)) .skip) .skip) (.seq (.ite (.cmp .eq (.var 0) (.cst (.str (PySem.Str.ofString ".")))) (.seq (.ret (.cst (.int (0)))) .skip) .skip) (.seq (.ret (.ite (.cmp .eq (.var 0) (.cst (.str (PySem.Str.ofString "<")))) (.cst (.int (-1))) (.cst (.int (1))))) .skip)))))⟩
noncomputable def zdh:S:=(.seq (.set 10 (.idx (.var 9) (.var 4))) (.seq (.set 8 (.call 173 (.cons (.var 10) (.cons (.var 8) (.cons (.var 7) (.cons (.var 3) .nil)))))) (.seq (.ite (.cmp .isn (.var 8) (.cst .non)) (.seq .brk .skip) .skip) (.seq (.ite (.and (.tru (.isi .tuple (.var 10))) (.cmp .ne (.idx (.var 10) (.cst (.int (0)))) (.var 3))) (.seq (.expr (.mt .append (.var 6) (.cons (.idx (.var 10) (.cst (.int (0)))) .nil))) .skip) .skip) (.seq (.aug 4 .add (.var 8)) (.seq (.expr (.mt .append (.var 5) (.cons (.var 4) .nil))) .skip))))))
noncomputable def fn174:Fn:=⟨4,11,(.seq (.set 4 (.idx (.idx (.var 0) (.cst (.int (3)))) (.var 2))) (.seq (.set 5 (.lst (.cons (.var 4) .nil))) (.seq (.set 6 (.lst .nil)) (.seq (.set 7 (.bi .list (.cons (.var 1) .nil))) (.seq (.set 8 (.cst (.int (0)))) (.seq (.«for» .seq (.idx (.var 0) (.cst (.int (2)))) (.one 9) zdh) (.seq (.ret (.tup (.cons (.bi .tuple (.cons (.var 5) .nil)) (.cons (.bi .tuple (.cons (.var 6) .nil)) (.cons (.bi .tuple (.cons (.var 7) .nil)) .nil))))) .skip)))))))⟩
noncomputable def fn175:Fn:=⟨4,8,(.seq (.unp [4,5,6] (.call 174 (.cons (.var 0) (.cons (.var 1) (.cons (.var 2) (.cons (.var 3) .nil)))))) (.seq (.set 7 (.ite (.cmp .gt (.bi .len (.cons (.var 4) .nil)) (.bi .len (.cons (.idx (.var 0) (.cst (.int (2)))) .nil))) (.idx (.var 4) (.neg (.cst (.int (1))))) (.cst .non))) (.seq (.ret (.tup (.cons (.var 7) (.cons (.var 6) .nil)))) .skip)))⟩
noncomputable def fn176:Fn:=⟨4,7,(.seq (.unp [4,5] (.call 175 (.cons (.var 0) (.cons (.var 1) (.cons (.var 2) (.cons (.var 3) .nil)))))) (.seq (.set 6 (.ite (.cmp .isn (.var 4) (.cst .non)) (.cst (.tup [.non,.non])) (.idx (.idx (.var 0) (.cst (.int (4)))) (.var 4)))) (.seq (.ret (.tup (.cons (.var 6) (.cons (.var 5) .nil)))) .skip)))⟩
noncomputable def fn182:Fn:=⟨2,6,(.seq (.unp [2,3] (.var 1)) (.seq (.ite (.cmp .isn (.var 3) (.cst .non)) (.seq (.ret (.cst .non)) .skip) .skip) (.seq (.unp [4,5] (.call 176 (.cons (.var 0) (.cons (.var 2) (.cons (.var 3) (.cons (.cst .non) .nil)))))) (.seq (.ret (.tup (.cons (.var 5) (.cons (.idx (.var 4) (.cst (.int (1)))) .nil)))) .skip))))⟩
noncomputable def zb2:E:=(.and (.tru (.var 0)) (.cmp .eq (.idx (.var 0) (.neg (.cst (.int (1))))) (.idx (.var 1) (.neg (.cst (.int (1)))))))
noncomputable def zcl:S:=(.seq (.set 0 (.slc (.var 0) false (.cst .non) true (.neg (.cst (.int (1)))))) (.seq (.set 1 (.op .add (.slc (.var 1) true (.neg (.cst (.int (1)))) false (.cst .non)) (.slc (.var 1) false (.cst .non) true (.neg (.cst (.int (1))))))) .skip))
noncomputable def fn194:Fn:=⟨2,2,(.seq (.whl zb2 zcl) (.seq (.ret (.tup (.cons (.var 0) (.cons (.var 1) .nil)))) .skip))⟩
noncomputable def zdi:E:=(.or (.cmp .ne (.op .mod (.bi .len (.cons (.var 0) .nil)) (.var 1)) (.cst (.int (0)))) (.cmp .ne (.op .mul (.slc (.var 0) false (.cst .non) true (.var 1)) (.op .fdiv (.bi .len (.cons (.var 0) .nil)) (.var 1))) (.var 0)))
noncomputable def zcm:S:=(.seq (.aug 1 .add (.cst (.int (1)))) .skip)
noncomputable def fn197:Fn:=⟨1,2,(.seq (.set 1 (.cst (.int (1)))) (.seq (.whl zdi zcm) (.seq (.ret (.slc (.var 0) false (.cst .non) true (.var 1))) .skip)))⟩
noncomputable def zdj:E:=(.cmp .notn (.var 1) (.cst .non))
noncomputable def zeq:E:=(.idx (.call 176 (.cons (.var 2) (.cons (.var 0) (.cons (.var 1) (.cons (.cst .non) .nil))))) (.cst (.int (0))))
noncomputable def zdk:E:=(.cmp .notn (.var 0) (.cst .non))
noncomputable def zer:E:=(.var 0)
noncomputable def fn200:Fn:=⟨2,6,(.seq (.unp [2,3] (.var 1)) (.seq (.set 4 (.lc .seq (.var 2) (.many [0,1]) 2 [0] zdj zeq)) (.seq (.set 5 (.bi .tuple (.cons (.lc .seq (.var 4) (.many [0,1]) 2 [] zdk zer) .nil))) (.seq (.ite (.cmp .isn (.var 3) (.cst .non)) (.seq (.ret (.tup (.cons (.var 5) (.cons (.tup .nil) .nil)))) .skip) .skip) (.seq (.ret (.call 194 (.cons (.slc (.var 5) false (.cst .non) true (.var 3)) (.cons (.call 197 (.cons (.slc (.var 5) true (.var 3) false (.cst .non)) .nil)) .nil)))) .skip)))))⟩
noncomputable def zaw:S:=(.seq (.ite (.or (.cmp .isn (.var 6) (.cst .non)) (.or (.cmp .inn (.var 6) (.var 5)) (.not (.tru (.call 59 (.cons (.var 7) (.cons (.var 6) .nil))))))) (.seq (.ret (.cst (.bl false))) .skip) .skip) (.seq (.put (.var 5) (.var 6) (.bi .len (.cons (.var 5) .nil))) (.seq (.set 6 (.call 182 (.cons (.var 0) (.cons (.var 6) .nil)))) .skip)))
noncomputable def fn204:Fn:=⟨3,8,(.seq (.expr (.call 29 (.cons (.var 0) (.cons (.var 1) .nil)))) (.seq (.ite (.or (.not (.tru (.call 6 (.cons (.var 2) (.cons (.cst (.int (2))) (.cons (.cst (.int (2))) .nil)))))) (.not (.tru (.isi .tuple (.idx (.var 2) (.cst (.int (0)))))))) (.seq (.ret (.cst (.bl false))) .skip) .skip) (.seq (.unp [3,4] (.var 2)) (.seq (.set 5 (.dsp .nil)) (.seq (.set 6 (.var 1)) (.seq (.«for» .seq (.var 3) (.one 7) zaw) (.seq (.ite (.cmp .isn (.var 6) (.cst .non)) (.seq (.ret (.cmp .isn (.var 4) (.cst .non))) .skip) .skip) (.seq (.ret (.and (.cmp .inn (.var 6) (.var 5)) (.call 59 (.cons (.var 4) (.cons (.idx (.var 5) (.var 6)) .nil))))) .skip))))))))⟩
noncomputable def fn269:Fn:=⟨4,4,(.seq (.ret (.and (.call 204 (.cons (.var 0) (.cons (.var 1) (.cons (.var 2) .nil)))) (.call 59 (.cons (.var 3) (.cons (.call 200 (.cons (.var 0) (.cons (.var 2) .nil))) .nil))))) .skip)⟩
theorem eqS{x y:Str}(hx:PyData.strOk x=true)(hy:PyData.strOk y=true):eqW h (.str x) (.str y)=some (x==y):=by
 rw[zcx (x:=y) (by exact hx) hy];rfl
@[simp] theorem eq_X_X {h:VH}:eqW h (.str sX) (.str (PySem.Str.ofString "x"))=some true:=(eqS (by decide +kernel) (by decide +kernel)).trans (by decide +kernel)
@[simp] theorem eq_X_Lt {h:VH}:eqW h (.str sX) (.str (PySem.Str.ofString "<"))=some false:=(eqS (by decide +kernel) (by decide +kernel)).trans (by decide +kernel)
@[simp] theorem eq_X_Gt {h:VH}:eqW h (.str sX) (.str (PySem.Str.ofString ">"))=some false:=(eqS (by decide +kernel) (by decide +kernel)).trans (by decide +kernel)
@[simp] theorem eq_X_Dot {h:VH}:eqW h (.str sX) (.str (PySem.Str.ofString "."))=some false:=(eqS (by decide +kernel) (by decide +kernel)).trans (by decide +kernel)
@[simp] theorem eq_X_S {h:VH}:eqW h (.str sX) (.str (PySem.Str.ofString "s"))=some false:=(eqS (by decide +kernel) (by decide +kernel)).trans (by decide +kernel)
@[simp] theorem eq_Lt_X {h:VH}:eqW h (.str sLt) (.str (PySem.Str.ofString "x"))=some false:=(eqS (by decide +kernel) (by decide +kernel)).trans (by decide +kernel)
@[simp] theorem eq_Lt_Lt {h:VH}:eqW h (.str sLt) (.str (PySem.Str.ofString "<"))=some true:=(eqS (by decide +kernel) (by decide +kernel)).trans (by decide +kernel)
@[simp] theorem eq_Lt_Gt {h:VH}:eqW h (.str sLt) (.str (PySem.Str.ofString ">"))=some false:=(eqS (by decide +kernel) (by decide +kernel)).trans (by decide +kernel)
@[simp] theorem eq_Lt_Dot {h:VH}:eqW h (.str sLt) (.str (PySem.Str.ofString "."))=some false:=(eqS (by decide +kernel) (by decide +kernel)).trans (by decide +kernel)
@[simp] theorem eq_Lt_S {h:VH}:eqW h (.str sLt) (.str (PySem.Str.ofString "s"))=some false:=(eqS (by decide +kernel) (by decide +kernel)).trans (by decide +kernel)
@[simp] theorem eq_Gt_X {h:VH}:eqW h (.str sGt) (.str (PySem.Str.ofString "x"))=some false:=(eqS (by decide +kernel) (by decide +kernel)).trans (by decide +kernel)
@[simp] theorem eq_Gt_Lt {h:VH}:eqW h (.str sGt) (.str (PySem.Str.ofString "<"))=some false:=(eqS (by decide +kernel) (by decide +kernel)).trans (by decide +kernel)
@[simp] theorem eq_Gt_Gt {h:VH}:eqW h (.str sGt) (.str (PySem.Str.ofString ">"))=some true:=(eqS (by decide +kernel) (by decide +kernel)).trans (by decide +kernel)
@[simp] theorem eq_Gt_Dot {h:VH}:eqW h (.str sGt) (.str (PySem.Str.ofString "."))=some false:=(eqS (by decide +kernel) (by decide +kernel)).trans (by decide +kernel)
@[simp] theorem eq_Gt_S {h:VH}:eqW h (.str sGt) (.str (PySem.Str.ofString "s"))=some false:=(eqS (by decide +kernel) (by decide +kernel)).trans (by decide +kernel)
@[simp] theorem eq_Dot_X {h:VH}:eqW h (.str sDot) (.str (PySem.Str.ofString "x"))=some false:=(eqS (by decide +kernel) (by decide +kernel)).trans (by decide +kernel)
@[simp] theorem eq_Dot_Lt {h:VH}:eqW h (.str sDot) (.str (PySem.Str.ofString "<"))=some false:=(eqS (by decide +kernel) (by decide +kernel)).trans (by decide +kernel)
@[simp] theorem eq_Dot_Gt {h:VH}:eqW h (.str sDot) (.str (PySem.Str.ofString ">"))=some false:=(eqS (by decide +kernel) (by decide +kernel)).trans (by decide +kernel)
@[simp] theorem eq_Dot_Dot {h:VH}:eqW h (.str sDot) (.str (PySem.Str.ofString "."))=some true:=(eqS (by decide +kernel) (by decide +kernel)).trans (by decide +kernel)
@[simp] theorem eq_Dot_S {h:VH}:eqW h (.str sDot) (.str (PySem.Str.ofString "s"))=some false:=(eqS (by decide +kernel) (by decide +kernel)).trans (by decide +kernel)
@[simp] theorem eq_S_X {h:VH}:eqW h (.str sS) (.str (PySem.Str.ofString "x"))=some false:=(eqS (by decide +kernel) (by decide +kernel)).trans (by decide +kernel)
@[simp] theorem eq_S_Lt {h:VH}:eqW h (.str sS) (.str (PySem.Str.ofString "<"))=some false:=(eqS (by decide +kernel) (by decide +kernel)).trans (by decide +kernel)
@[simp] theorem eq_S_Gt {h:VH}:eqW h (.str sS) (.str (PySem.Str.ofString ">"))=some false:=(eqS (by decide +kernel) (by decide +kernel)).trans (by decide +kernel)
@[simp] theorem eq_S_Dot {h:VH}:eqW h (.str sS) (.str (PySem.Str.ofString "."))=some false:=(eqS (by decide +kernel) (by decide +kernel)).trans (by decide +kernel)
@[simp] theorem eq_S_S {h:VH}:eqW h (.str sS) (.str (PySem.Str.ofString "s"))=some true:=(eqS (by decide +kernel) (by decide +kernel)).trans (by decide +kernel)
theorem zrs:leave (st3 h0 gs c t l) w (VH.set ⟨(st3 h0 gs c t l).n,(st3 h0 gs c t l).n,(st3 h0 gs c t l).os⟩ (h0.n+2) (.lst l'))=.ok w (st3 h0 gs c t l'):=by
 have hb:Nat.blt (h0.n+2) (h0.n+3+gs.length)=true:=zao.mpr (by omega)
 have hn:Nat.ble (h0.n+3+gs.length) (h0.n+2)=false:=by
  cases q:Nat.ble (h0.n+3+gs.length) (h0.n+2)with
  |false=>rfl
  |true=>have:=va9 q;omega
 have hl:Nat.ble h0.n (h0.n+2)=true:=vd1.mpr (by omega)
 unfold leave VH.set st3
 simp only[hb,vbm,hn,vb3,hl]
 rw[if_neg (by simp),vdp _ _ (by omega),show h0.n+3+gs.length-1- (h0.n+2)-gs.length=0 by omega]
 rfl
theorem zs5{ls:List Int}{a:Nat}(h:a<ls.length):atI (ls.map W.int) (a:Int)=some (.int (ls.getD a 0)):=
 zbg (by rw[vbf,vav h,vbz,vav h];rfl)
theorem zo0{n a:Nat}(h:a<n):ixN n (a:Int)=some a:=by
 unfold ixN
 rw[if_pos (by omega),if_pos (by omega)];simp
theorem zmm{ρ ρ':En}(e:exs cl a ρ h=.ok (.bk ρ') h'):exs cl (.seq a b) ρ h=.ok (.bk ρ') h':=by
 simp only[exs,e,bindok]
theorem zs6{wd g c:Int}(ok:(r.length:Int)=wd/\rowOk wd g 0 r)(c0:0<=c)(c1:c<wd):atI r c=some (colAt r c):=by
 have:=(zgj ok c0 c1).1
 obtain⟨n,rfl⟩:=va5 c0
 rw[vb9]at this
 exact zbg this
noncomputable def iW(ls:List Int):W:=.tup (ls.map .int)
theorem iW_lt{n:Nat}:W.lt n (iW ls)=true:=by
 unfold iW
 rw[lt_tup]
 induction ls with
 |nil=>simp
 |cons x r ih=>rw[van,lts_cons,ih,lt_int];rfl
theorem Bd.Ok.feeder{B:Bd}(b:B.Ok){f:Nat}(hf:f<B.fd.length):∃c:Int,B.fd[f]?=some (.int c)/\0<=c/\c<B.wd:=by
 have h:=b.f3 _ (vcd hf)
 have e:B.fd[f]?=some B.fd[f]:=vav hf
 generalize B.fd[f]=w at h e
 cases w<;>simp only[within]at h<;>try(cases h;done)
 rename_i c
 rw[vab,va0,va0]at h
 exact⟨c,e,h.1,by omega⟩
noncomputable def Bd.col(B:Bd)(f:Nat):Int:=match B.fd[f]? with
 |some (.int c)=>c
 |_=>0
theorem Bd.Ok.col{B:Bd}(b:B.Ok){f:Nat}(hf:f<B.fd.length):B.fd[f]?=some (.int (B.col f))/\0<=B.col f/\B.col f<B.wd:=by
 obtain⟨c,e,h⟩:=b.feeder hf
 have:B.col f=c:=by unfold Bd.col;rw[e]
 rw[this];exact⟨e,h⟩
noncomputable def Bd.fall(B:Bd)(ls:List Int)(f:Nat):Fa:=fallP B.rows (B.col f) 0 ls
theorem Bd.Ok.rows{B:Bd}(b:B.Ok){ls:List Int}(hl:(ls.length:Int)=B.gr):zi2 B.wd (ls.length:Int) B.rows:=by
 rw[hl];exact b.r2
theorem Bd.Ok.fall{B:Bd}(b:B.Ok){ls:List Int}{f:Nat}(hf:f<B.fd.length)(hl:(ls.length:Int)=B.gr)(bi:Bits ls):(B.fall ls f).Ok B.wd (B.col f) B.rows.length ls.length:=
 zow _ _ _ _ (b.rows hl) (b.col hf).2.1 (b.col hf).2.2 (by decide) (by decide) bi
noncomputable def wayW(B:Bd)(ls:List Int)(f:Nat):W:=.tup [iW (B.col f:: (B.fall ls f).cs),iW (B.fall ls f).ts,iW (B.fall ls f).ls]
theorem zu7{f n:Nat}:W.lt n (wayW B ls f)=true:=by
 unfold wayW
 simp[iW_lt]
theorem zcz{i l:Nat}{ρ:En}(hρ:ρ[i]?=some (some (.ref l)))(g:h.get l=some (.lst ws)):ev cl (.bi .tuple (.cons (.var i) .nil)) ρ h=.ok (.tup ws) h:=by
 simp only[ev,hρ,va4,ofsome,bindok,biW,ze5,seqW,g,vah]
theorem tup3{ρ:En}(ea:ev cl a ρ h=.ok x h)(eb:ev cl b ρ h=.ok y h)(ec:ev cl c ρ h=.ok z h):ev cl (.tup (.cons a (.cons b (.cons c .nil)))) ρ h=.ok (.tup [x,y,z]) h:=by
 rw[ev,ev,ea,bindok,ev,eb,bindok,ev,ec,bindok,ev]
 rfl
theorem zll:∀(cs:List Int) (c:Int),(c::cs)[cs.length]?=some (lastC c cs)
 |[],c=>rfl
 |x::r,c=>by
  rw[vaj,vas]
  exact zll r x
theorem zo1{c:Int}:atI ((c::cs).map W.int) (-1)=some (.int (lastC c cs)):=by
 have e:ixN ((c::cs).map W.int).length (-1)=some cs.length:=by
  unfold ixN
  rw[if_neg (by decide),vad,vaj,if_pos (by omega)]
  congr 1
  omega
 unfold atI
 rw[e,Option.bind_some,vbf,zll]
 rfl
noncomputable def Bd.door(B:Bd)(c:Int):W:=(B.dr[c.toNat]?).getD .non
theorem Bd.Ok.door{B:Bd}(b:B.Ok){c:Int}(c0:0<=c)(c1:c<B.wd):atI B.dr c=some (B.door c)/\RF.door (B.door c) B.fd.length=true:=by
 obtain⟨n,rfl⟩:=va5 c0
 have hd:=b.d1
 have hn:n<B.dr.length:=by omega
 have e:B.dr[n]?=some B.dr[n]:=vav hn
 have e2:B.door n=B.dr[n]:=by
  unfold Bd.door
  rw[vb9,e];rfl
 rw[e2]
 exact⟨zbg e,b.d2 _ (vcd hn)⟩
noncomputable def outD(B:Bd)(ls:List Int)(f:Nat):W:=if(B.fall ls f).st then .tup [.non,.non]else B.door (lastC (B.col f) (B.fall ls f).cs)
theorem tup2{ρ:En}(ea:ev cl a ρ h=.ok x h)(eb:ev cl b ρ h=.ok y h):ev cl (.tup (.cons a (.cons b .nil))) ρ h=.ok (.tup [x,y]) h:=by
 rw[ev,ev,ea,bindok,ev,eb,bindok,ev]
 rfl
theorem zo2{g:Int}(hl:(ls.length:Int)=g)(b:Bits ls):zdc (iW ls) g g 0 1=true:=by
 unfold iW zdc zar
 simp only[vad,vab,va0,vbp]
 refine⟨⟨by omega,by omega⟩,λw hw=>?_⟩
 obtain⟨x,hx,rfl⟩:=vb1.mp hw
 rcases b x hx with rfl|rfl<;>rfl
noncomputable def zy6(w:W):W:=match w with
 |.tup [n,_]=>n
 |_=>.non
noncomputable def nameP(B:Bd)(ls:List Int)(f:Nat):W:=zy6 (outD B ls f)
theorem zi5{f:Nat}(b:B.Ok)(hf:f<B.fd.length)(hl:(ls.length:Int)=B.gr)(bi:Bits ls):∃y,outD B ls f=.tup [nameP B ls f,y]/\(nameP B ls f=.non\/∃i:Int,nameP B ls f=.int i):=by
 unfold nameP outD
 cases z:(B.fall ls f).st with
 |true=>exact⟨.non,rfl,.inl rfl⟩
 |false=>
  have q:=b.fall hf hl bi
  obtain⟨a1,a2⟩:=b.door q.c4.1 q.c4.2
  obtain⟨a,y,e,_,_,_⟩:=zfe a2
  refine⟨y,?_,.inr ⟨a,?_⟩⟩
  .rw[if_neg (by simp),e];rfl
  .rw[if_neg (by simp),e];rfl
theorem zo3{f:Nat}(b:B.Ok)(hf:f<B.fd.length)(hl:(ls.length:Int)=B.gr)(bi:Bits ls)(n:Nat):W.lt n (nameP B ls f)=true:=by
 obtain⟨_,_,e|⟨i,e⟩⟩:=zi5 b hf hl bi<;>rw[e]<;>simp
noncomputable def dirD:List (Key×W):=[(.inr sDot,.int 0),(.inr sLt,.int (-1)),(.inr sGt,.int 1)]
theorem zo4:zky [] [(.inr sDot,.int 0),(.inr sLt,.int (-1)),(.inr sGt,.int 1)]=dirD:=by rfl
theorem zu8:lookK dirD (.inr sDot)=some (.int 0):=by rfl
theorem zy7:lookK dirD (.inr sLt)=some (.int (-1)):=by rfl
theorem zy8:lookK dirD (.inr sGt)=some (.int 1):=by rfl
noncomputable abbrev dspE:E:=.dsp (.cons (.cst (.str (PySem.Str.ofString "."))) (.cons (.cst (.int (0))) (.cons (.cst (.str (PySem.Str.ofString "<"))) (.cons (.neg (.cst (.int (1)))) (.cons (.cst (.str (PySem.Str.ofString ">"))) (.cons (.cst (.int (1))) .nil))))))
theorem zy9{ρ:En}:ev cl dspE ρ h=.ok (.ref h.n) (h.new (.dk dirD)):=by
 simp only[dspE,ev,bindok,zcb,keyW]
 rw[if_pos (by decide)]
 show Res.ok _ (h.new (.dk (zky [] _)))=_
 rw[zo4]
theorem zo5{h:VH}{o:VO}:(h.new o).get h.n=some o:=by
 unfold VH.get VH.new
 rw[if_pos (zao.mpr (by show h.n<h.n+1;omega))]
 show(o::h.os)[h.n+1-1-h.n]?=_
 rw[show h.n+1-1-h.n=0 by omega]
 rfl
theorem zza{cl:Call}{ρ:En}{h:VH}{x:Str}{d:Int}(hρ:ρ[8]?=some (some (.str x)))(e:lookK dirD (.inr x)=some (.int d)):ev cl (.idx dspE (.var 8)) ρ h=.ok (.int d) (h.new (.dk dirD)):=by
 rw[ev,zy9,bindok,ev,hρ]
 show(Res.of (idxW (h.new (.dk dirD)) (.ref h.n) (.str x)) (h.new (.dk dirD)))=_
 unfold idxW
 simp only[zo5,e]
 rfl
theorem zby{p q:Int}{x:Str}(hx:PyData.strOk x=true):eqW h (.tup [.int p,.int q]) (.str x)=some false:=by
 rw[zcx (x:=x) rfl hx];rfl
noncomputable def endE(st:Bool):E:=.lst (.cons (.bi .tuple (.cons (.var 4) .nil)) (.cons (.bi .tuple (.cons (.var 5) .nil)) (.cons (.bi .tuple (.cons (.var 1) .nil)) (.cons (.cst (.bl st)) .nil))))
theorem zs7{cl:Call}{st:Bool}{ρ:En}{gs:List VO}{cs ts ls:List W}(r4:ρ[4]?=some (some (.ref h0.n)))(r5:ρ[5]?=some (some (.ref (h0.n+1))))(r1:ρ[1]?=some (some (.ref (h0.n+2)))) :
 ev cl (endE st) ρ (st3 h0 gs cs ts ls)=.ok (.ref (h0.n+3+gs.length)) (st3 h0 (.lst [.tup cs,.tup ts,.tup ls,.bl st]::gs) cs ts ls):=by
 unfold endE
 rw[ev,ev,zcz r4 st_c,bindok,ev,zcz r5 st_t,bindok,ev,zcz r1 st_l,bindok,ev,ev,bindok,ev]
 simp only[bindok]
 rw[if_pos (by rfl),zoz]
 rfl
theorem zi6{cl:Call}{h0:VH}{gs:List VO}{cs ts ls:List W}{b l f:W}{a r:W}{w:W}{c d:Int}(hc:atI cs (-1)=some (.int c))(hl:cs.length<=1000000) :
 exs cl (.seq (.expr (.mt .append (.var 4) (.cons (.op .add (.idx (.var 4) (.neg (.cst (.int (1))))) (.var 6)) .nil))) .skip) [some b,some l,some f,some a,some (.ref h0.n),some (.ref (h0.n+1)),some (.int d),some r,some w] (st3 h0 gs cs ts ls)=.ok (.nx [some b,some l,some f,some a,some (.ref h0.n),some (.ref (h0.n+1)),some (.int d),some r,some w]) (st3 h0 gs (cs++[.int (c+d)]) ts ls):=by
 have g:=st_c (h:=h0) (gs:=gs) (c:=cs) (t:=ts) (l:=ls)
 have ea:=zbb (cl:=cl) (i:=4) (l:=h0.n) (x:=.op .add (.idx (.var 4) (.neg (.cst (.int (1))))) (.var 6)) (ρ:=[some b,some l,some f,some a,some (.ref h0.n),some (.ref (h0.n+1)),some (.int d),some r,some w]) (h:=st3 h0 gs cs ts ls) (h1:=st3 h0 gs cs ts ls) (w:=.int (c+d)) (acc:=cs) (acc0:=cs) rfl g (by simp only[ev,va4,vas,vaw,ofsome,bindok,idxW,g,hc,opW,opI,vah]) g hl
 rw[zox]at ea
 simp only[exs,ea,bindok]
noncomputable abbrev sE:E:=.cst (.str (PySem.Str.ofString "s"))
noncomputable def midS:S:=(.ite (.or (.cmp .eq (.var 8) (.cst (.str (PySem.Str.ofString ".")))) (.or (.cmp .eq (.var 8) (.cst (.str (PySem.Str.ofString "<")))) (.cmp .eq (.var 8) (.cst (.str (PySem.Str.ofString ">")))))) (.seq (.set 6 (.idx dspE (.var 8))) .skip) (.seq (.ite (.cmp .ne (.var 8) (.cst (.str (PySem.Str.ofString "x")))) (.seq (.set 6 (.op .sub (.cst (.int (1))) (.op .mul (.cst (.int (2))) (.bi .int (.cons (.cmp .eq (.idx (.var 1) (.idx (.var 8) (.cst (.int (0))))) (.idx (.var 8) (.cst (.int (1))))) .nil))))) (.seq (.expr (.mt .append (.var 5) (.cons (.idx (.var 8) (.cst (.int (0)))) .nil))) (.seq (.put (.var 1) (.idx (.var 8) (.cst (.int (0)))) (.op .sub (.cst (.int (1))) (.idx (.var 1) (.idx (.var 8) (.cst (.int (0))))))) .skip))) .skip) .skip))
theorem zkc{cl:Call}{h0:VH}{gs:List VO}{cs ts ls:List W}{b l f a r:W}{hd d:Int}{x:Str}(e1:(.str x:W)=.str sDot\/(.str x:W)=.str sLt\/(.str x:W)=.str sGt)(e:lookK dirD (.inr x)=some (.int d)) :
 exs cl midS [some b,some l,some f,some a,some (.ref h0.n),some (.ref (h0.n+1)),some (.int hd),some r,some (.str x)] (st3 h0 gs cs ts ls)=.ok (.nx [some b,some l,some f,some a,some (.ref h0.n),some (.ref (h0.n+1)),some (.int d),some r,some (.str x)]) (st3 h0 (.dk dirD::gs) cs ts ls):=by
 have ed:=zza (cl:=cl) (ρ:=[some b,some l,some f,some a,some (.ref h0.n),some (.ref (h0.n+1)),some (.int hd),some r,some (.str x)]) (h:=st3 h0 gs cs ts ls) rfl e
 rw[zoz]at ed
 have ec:ev cl (.or (.cmp .eq (.var 8) (.cst (.str (PySem.Str.ofString ".")))) (.or (.cmp .eq (.var 8) (.cst (.str (PySem.Str.ofString "<")))) (.cmp .eq (.var 8) (.cst (.str (PySem.Str.ofString ">")))))) [some b,some l,some f,some a,some (.ref h0.n),some (.ref (h0.n+1)),some (.int hd),some r,some (.str x)] (st3 h0 gs cs ts ls)=.ok (.bl true) (st3 h0 gs cs ts ls):=by
  rcases e1 with e1|e1|e1<;>rw[e1]<;>simp[ev,cmpW,eqYs]
 unfold midS
 rw[exs,ec,bindok]
 simp only[exs,ed,bindok,vau,vaq]
theorem mid_x{cl:Call}{h0:VH}{gs:List VO}{cs ts ls:List W}{b l f a r:W}{hd:Int} :
 exs cl midS [some b,some l,some f,some a,some (.ref h0.n),some (.ref (h0.n+1)),some (.int hd),some r,some (.str sX)] (st3 h0 gs cs ts ls)=.ok (.nx [some b,some l,some f,some a,some (.ref h0.n),some (.ref (h0.n+1)),some (.int hd),some r,some (.str sX)]) (st3 h0 gs cs ts ls):=by
 simp[midS,exs,ev,cmpW,eqYs]
theorem zzb{cl:Call}{h0:VH}{gs:List VO}{cs ts:List W}{ls:List Int}{b f a r:W}{hd:Int}{p q:Nat}(hp:p<ls.length)(ht:ts.length<=1000000) :
 exs cl midS [some b,some (.ref (h0.n+2)),some f,some a,some (.ref h0.n),some (.ref (h0.n+1)),some (.int hd),some r,some (.tup [.int p,.int q])] (st3 h0 gs cs ts (ls.map .int))=.ok (.nx [some b,some (.ref (h0.n+2)),some f,some a,some (.ref h0.n),some (.ref (h0.n+1)),some (.int (if ls.getD p 0=q then -1 else 1)),some r,some (.tup [.int p,.int q])]) (st3 h0 gs cs (ts++[.int p]) ((ls.set p (1-ls.getD p 0)).map .int)):=by
 have e1:=zs5 hp
 have e2:ixN (ls.map W.int).length (p:Int)=some p:=zo0 (by rw[vad];exact hp)
 have i0:atI [W.int p,.int q] 0=some (.int p):=rfl
 have i1:atI [W.int p,.int q] 1=some (.int q):=rfl
 have n1:∀h,eqW h (.tup [.int (p:Int),.int (q:Int)]) (.str (PySem.Str.ofString "."))=some false:=λh=>zby (by decide +kernel)
 have n2:∀h,eqW h (.tup [.int (p:Int),.int (q:Int)]) (.str (PySem.Str.ofString "<"))=some false:=λh=>zby (by decide +kernel)
 have n3:∀h,eqW h (.tup [.int (p:Int),.int (q:Int)]) (.str (PySem.Str.ofString ">"))=some false:=λh=>zby (by decide +kernel)
 have n4:∀h,eqW h (.tup [.int (p:Int),.int (q:Int)]) (.str (PySem.Str.ofString "x"))=some false:=λh=>zby (by decide +kernel)
 have g:=st_l (h:=h0) (gs:=gs) (c:=cs) (t:=ts) (l:=ls.map .int)
 have s1:exs cl (.set 6 (.op .sub (.cst (.int (1))) (.op .mul (.cst (.int (2))) (.bi .int (.cons (.cmp .eq (.idx (.var 1) (.idx (.var 8) (.cst (.int (0))))) (.idx (.var 8) (.cst (.int (1))))) .nil))))) [some b,some (.ref (h0.n+2)),some f,some a,some (.ref h0.n),some (.ref (h0.n+1)),some (.int hd),some r,some (.tup [.int p,.int q])] (st3 h0 gs cs ts (ls.map .int))=.ok (.nx [some b,some (.ref (h0.n+2)),some f,some a,some (.ref h0.n),some (.ref (h0.n+1)),some (.int (if ls.getD p 0=q then -1 else 1)),some r,some (.tup [.int p,.int q])]) (st3 h0 gs cs ts (ls.map .int)):=by
  generalize ls.getD p 0=y at e1 ⊢
  have sm:zbk 2=true:=by decide
  by_cases z:y=(q:Int)
  .simp only[exs,ev,va4,vas,vaw,ofsome,bindok,idxW,i0,i1,g,e1,cmpW,eqYs,zau,z,decide_true,vbm,vah,biW,intW,opW,opI,sm,Bool.true_or,vau,vaq]
   rfl
  .simp only[exs,ev,va4,vas,vaw,ofsome,bindok,idxW,i0,i1,g,e1,cmpW,eqYs,zau,z,decide_false,vbl,vah,biW,intW,opW,opI,sm,Bool.true_or,vau,vaq]
   rfl
 generalize hy:(if ls.getD p 0=(q:Int)then(-1:Int)else 1)=dd at s1 ⊢
 have ea:=zbb (cl:=cl) (i:=5) (l:=h0.n+1) (x:=.idx (.var 8) (.cst (.int 0))) (ρ:=[some b,some (.ref (h0.n+2)),some f,some a,some (.ref h0.n),some (.ref (h0.n+1)),some (.int dd),some r,some (.tup [.int p,.int q])]) (h:=st3 h0 gs cs ts (ls.map .int)) (h1:=st3 h0 gs cs ts (ls.map .int)) (w:=.int p) (acc:=ts) (acc0:=ts) rfl st_t (by simp only[ev,va4,vas,vaw,ofsome,bindok,idxW,i0]) st_t ht
 rw[zoy]at ea
 have g2:=st_l (h:=h0) (gs:=gs) (c:=cs) (t:=ts++[.int p]) (l:=ls.map .int)
 have s3:exs cl (.put (.var 1) (.idx (.var 8) (.cst (.int (0)))) (.op .sub (.cst (.int (1))) (.idx (.var 1) (.idx (.var 8) (.cst (.int (0))))))) [some b,some (.ref (h0.n+2)),some f,some a,some (.ref h0.n),some (.ref (h0.n+1)),some (.int dd),some r,some (.tup [.int p,.int q])] (st3 h0 gs cs (ts++[.int p]) (ls.map .int))=.ok (.nx [some b,some (.ref (h0.n+2)),some f,some a,some (.ref h0.n),some (.ref (h0.n+1)),some (.int dd),some r,some (.tup [.int p,.int q])]) (st3 h0 gs cs (ts++[.int p]) ((ls.set p (1-ls.getD p 0)).map .int)):=by
  simp only[exs,ev,va4,vas,vaw,ofsome,bindok,idxW,i0,g2,e1,opW,opI,vah,e2,zu6,List.map_set]
 unfold midS
 have ec:ev cl (.or (.cmp .eq (.var 8) (.cst (.str (PySem.Str.ofString ".")))) (.or (.cmp .eq (.var 8) (.cst (.str (PySem.Str.ofString "<")))) (.cmp .eq (.var 8) (.cst (.str (PySem.Str.ofString ">")))))) [some b,some (.ref (h0.n+2)),some f,some a,some (.ref h0.n),some (.ref (h0.n+1)),some (.int hd),some r,some (.tup [.int p,.int q])] (st3 h0 gs cs ts (ls.map .int))=.ok (.bl false) (st3 h0 gs cs ts (ls.map .int)):=by
  simp[ev,cmpW,eqYs,n1,n2,n3]
 have ed:ev cl (.cmp .ne (.var 8) (.cst (.str (PySem.Str.ofString "x")))) [some b,some (.ref (h0.n+2)),some f,some a,some (.ref h0.n),some (.ref (h0.n+1)),some (.int hd),some r,some (.tup [.int p,.int q])] (st3 h0 gs cs ts (ls.map .int))=.ok (.bl true) (st3 h0 gs cs ts (ls.map .int)):=by
  simp[ev,cmpW,eqYs,n4]
 rw[exs,ec,bindok]
 simp only
 have s0:exs cl (.ite (.cmp .ne (.var 8) (.cst (.str (PySem.Str.ofString "x")))) (.seq (.set 6 (.op .sub (.cst (.int (1))) (.op .mul (.cst (.int (2))) (.bi .int (.cons (.cmp .eq (.idx (.var 1) (.idx (.var 8) (.cst (.int (0))))) (.idx (.var 8) (.cst (.int (1))))) .nil))))) (.seq (.expr (.mt .append (.var 5) (.cons (.idx (.var 8) (.cst (.int (0)))) .nil))) (.seq (.put (.var 1) (.idx (.var 8) (.cst (.int (0)))) (.op .sub (.cst (.int (1))) (.idx (.var 1) (.idx (.var 8) (.cst (.int (0))))))) .skip))) .skip) [some b,some (.ref (h0.n+2)),some f,some a,some (.ref h0.n),some (.ref (h0.n+1)),some (.int hd),some r,some (.tup [.int p,.int q])] (st3 h0 gs cs ts (ls.map .int))=.ok (.nx [some b,some (.ref (h0.n+2)),some f,some a,some (.ref h0.n),some (.ref (h0.n+1)),some (.int dd),some r,some (.tup [.int p,.int q])]) (st3 h0 gs cs (ts++[.int p]) ((ls.set p (1-ls.getD p 0)).map .int)):=by
  rw[exs,ed,bindok]
  simp only
  rw[zaa s1,zaa (ρ':=[some b,some (.ref (h0.n+2)),some f,some a,some (.ref h0.n),some (.ref (h0.n+1)),some (.int dd),some r,some (.tup [.int p,.int q])]) (h':=st3 h0 gs cs (ts++[.int p]) (ls.map .int)) (by rw[exs,ea,bindok]),zaa s3]
  rfl
 rw[zaa s0]
 rfl
structure CoreL(F:Nat->Option Fn):Prop where
 f38:F 38=some fn38
theorem zmn:zd1=.seq (.set 8 (.idx (.var 7) (.idx (.var 4) (.neg (.cst (.int (1))))))) (.seq (.ite (.cmp .eq (.var 8) sE) (.seq (.ret (endE true)) .skip) .skip) (.seq midS (.seq (.expr (.mt .append (.var 4) (.cons (.op .add (.idx (.var 4) (.neg (.cst (.int (1))))) (.var 6)) .nil))) .skip))):=rfl
theorem zu9:fn38=⟨3,9,.seq (.set 3 (.idx (.idx (.var 0) (.cst (.int (3)))) (.var 2))) (.seq (.set 4 (.lst (.cons (.var 3) .nil))) (.seq (.set 5 (.lst .nil)) (.seq (.set 1 (.bi .list (.cons (.var 1) .nil))) (.seq (.set 6 (.cst (.int (0)))) (.seq (.«for» .seq (.idx (.var 0) (.cst (.int (2)))) (.one 7) zd1) (.seq (.ret (endE false)) .skip))))))⟩:=rfl
theorem zzc{cl:Call}{h0:VH}{gs:List VO}{b f a:W}{c wd hd:Int}{y:Option W}(ok:(r.length:Int)=wd/\rowOk wd (ls.length:Int) 0 r)(c0:0<=c)(c1:c<wd)(hc:cs.length<=1000)(ht:ts.length<=1000)(hlast:atI cs (-1)=some (.int c)) :
 ∃gs',exs cl zd1 [some b,some (.ref (h0.n+2)),some f,some a,some (.ref h0.n),some (.ref (h0.n+1)),some (.int hd),some (.tup r),y] (st3 h0 gs cs ts (ls.map .int))=match stepP (colAt r c) hd ls with
  |none=>.ok (.rt (.ref (h0.n+3+gs.length))) (st3 h0 (.lst [.tup cs,.tup ts,iW ls,.bl true]::gs) cs ts (ls.map .int))
  |some (d,t,l')=>.ok (.nx [some b,some (.ref (h0.n+2)),some f,some a,some (.ref h0.n),some (.ref (h0.n+1)),some (.int d),some (.tup r),some (colAt r c)]) (st3 h0 gs' (cs++[.int (c+d)]) (ts++t.map .int) (l'.map .int)):=by
 obtain⟨_,hm⟩:=zgj ok c0 c1
 have e0:=zs6 ok c0 c1
 generalize colAt r c=w at hm e0 ⊢
 have g:=st_c (h:=h0) (gs:=gs) (c:=cs) (t:=ts) (l:=ls.map .int)
 have s1:exs cl (.set 8 (.idx (.var 7) (.idx (.var 4) (.neg (.cst (.int (1))))))) [some b,some (.ref (h0.n+2)),some f,some a,some (.ref h0.n),some (.ref (h0.n+1)),some (.int hd),some (.tup r),y] (st3 h0 gs cs ts (ls.map .int))=.ok (.nx [some b,some (.ref (h0.n+2)),some f,some a,some (.ref h0.n),some (.ref (h0.n+1)),some (.int hd),some (.tup r),some w]) (st3 h0 gs cs ts (ls.map .int)):=by
  simp only[exs,ev,va4,vas,vaw,ofsome,bindok,idxW,g,hlast,e0,vau,vaq]
 have no:∀_:Unit,eqW (st3 h0 gs cs ts (ls.map .int)) w (.str sS)=some false->exs cl (.ite (.cmp .eq (.var 8) sE) (.seq (.ret (endE true)) .skip) .skip) [some b,some (.ref (h0.n+2)),some f,some a,some (.ref h0.n),some (.ref (h0.n+1)),some (.int hd),some (.tup r),some w] (st3 h0 gs cs ts (ls.map .int))=.ok (.nx [some b,some (.ref (h0.n+2)),some f,some a,some (.ref h0.n),some (.ref (h0.n+1)),some (.int hd),some (.tup r),some w]) (st3 h0 gs cs ts (ls.map .int)):=by
  intro _ e
  simp only[exs,ev,va4,vas,vaw,ofsome,bindok,cmpW,eqYs,e,vah]
 rw[zmn,zaa s1]
 rcases zdg hm with⟨rfl,h3,h4⟩|⟨rfl,h3⟩|⟨rfl,h3⟩|rfl|rfl|⟨p,q,rfl,h3,h4,h5,h6⟩
 .refine⟨gs,?_⟩
  rw[zli,zaa (no () eq_X_S),zaa mid_x,zi6 hlast (by omega)]
  simp
 .refine⟨.dk dirD::gs,?_⟩
  rw[zhk,zaa (no () eq_Lt_S),zaa (zkc (.inr (.inl rfl)) zy7),zi6 hlast (by omega)]
  simp
 .refine⟨.dk dirD::gs,?_⟩
  rw[zhl,zaa (no () eq_Gt_S),zaa (zkc (.inr (.inr rfl)) zy8),zi6 hlast (by omega)]
  simp
 .refine⟨.dk dirD::gs,?_⟩
  rw[zep,zaa (no () eq_Dot_S),zaa (zkc (.inl rfl) zu8),zi6 hlast (by omega)]
  simp
 .refine⟨gs,?_⟩
  rw[zlj]
  have ee:=zs7 (cl:=cl) (st:=true) (ρ:=[some b,some (.ref (h0.n+2)),some f,some a,some (.ref h0.n),some (.ref (h0.n+1)),some (.int hd),some (.tup r),some (.str sS)]) (h0:=h0) (gs:=gs) (cs:=cs) (ts:=ts) (ls:=ls.map .int) rfl rfl rfl
  refine zab ?_
  have ec:ev cl (.cmp .eq (.var 8) sE) [some b,some (.ref (h0.n+2)),some f,some a,some (.ref h0.n),some (.ref (h0.n+1)),some (.int hd),some (.tup r),some (.str sS)] (st3 h0 gs cs ts (ls.map .int))=.ok (.bl true) (st3 h0 gs cs ts (ls.map .int)):=by
   simp only[ev,va4,vas,vaw,ofsome,bindok,cmpW,eqYs,eq_S_S,vah]
  rw[exs,ec,bindok]
  simp only[exs,ee,bindok]
  rfl
 .refine⟨gs,?_⟩
  rw[zhm,zaa (no () (zby (by decide +kernel))),zaa (zzb (by omega) (by omega)),zi6 hlast (by omega)]
  rfl
theorem zs8{cl:Call}{h0:VH}{b f a:W}{wd:Int}:∀(rs:List (List W)) (c hd:Int) (gs:List VO) (cs ts:List W) (ls:List Int) (x y:Option W),zi2 wd (ls.length:Int) rs->0<=c->c<wd->-1<=hd->hd<=1->Bits ls->cs.length+rs.length<=1000->ts.length+rs.length<=1000->atI cs (-1)=some (.int c)->
 ∃gs' hd' x' y',forL (tgW (.one 7)) (exs cl zd1) (rs.map .tup) [some b,some (.ref (h0.n+2)),some f,some a,some (.ref h0.n),some (.ref (h0.n+1)),some (.int hd),x,y] (st3 h0 gs cs ts (ls.map .int)) =
  if(fallP rs c hd ls).st then .ok (.rt (.ref (h0.n+3+gs'.length))) (st3 h0 (.lst [.tup (cs++(fallP rs c hd ls).cs.map .int),.tup (ts++(fallP rs c hd ls).ts.map .int),iW (fallP rs c hd ls).ls,.bl true]::gs') (cs++(fallP rs c hd ls).cs.map .int) (ts++(fallP rs c hd ls).ts.map .int) ((fallP rs c hd ls).ls.map .int))
  else .ok (.nx [some b,some (.ref (h0.n+2)),some f,some a,some (.ref h0.n),some (.ref (h0.n+1)),hd',x',y']) (st3 h0 gs' (cs++(fallP rs c hd ls).cs.map .int) (ts++(fallP rs c hd ls).ts.map .int) ((fallP rs c hd ls).ls.map .int))
 |[],c,hd,gs,cs,ts,ls,x,y,_,_,_,_,_,_,_,_,_=>⟨gs,some (.int hd),x,y,by simp[forL,fallP]⟩
 |r::rs,c,hd,gs,cs,ts,ls,x,y,ok,c0,c1,h1,h2,bi,hc,ht,hlast=>by
  have hc':cs.length+rs.length+1<=1000:=by rw[vaj]at hc;omega
  have ht':ts.length+rs.length+1<=1000:=by rw[vaj]at ht;omega
  obtain⟨gs1,eb⟩:=zzc (cl:=cl) (h0:=h0) (gs:=gs) (b:=b) (f:=f) (a:=a) (hd:=hd) (cs:=cs) (ts:=ts) (y:=y) (ok r vam) c0 c1 (by omega) (by omega) hlast
  obtain⟨_,hm⟩:=zgj (ok r vam) c0 c1
  cases e:stepP (colAt r c) hd ls with
  |none=>
   rw[e]at eb
   rw[zi3 e]
   refine⟨gs,some (.int hd),x,y,?_⟩
   simp only[van,forL,tgW,vau,vaq,eb,bindok,vcc,vbc,vbm]
  |some q=>
   obtain⟨d,t,l'⟩:=q
   rw[e]at eb
   obtain⟨a1,a2,a3,a4,a5,a6,a7⟩:=zka hm c0 c1 h1 h2 bi e
   obtain⟨gs',hd',x',y',ih⟩:=zs8 (cl:=cl) (h0:=h0) (b:=b) (f:=f) (a:=a) rs (c+d) d gs1 (cs++[.int (c+d)]) (ts++t.map .int) l' (some (.tup r)) (some (colAt r c)) (λr hr=>by rw[a5];exact ok r (vai _ hr)) a3 a4 a1 a2 a6 (by simp only[vaf,va1];omega) (by simp only[vaf,vad];omega) (zqj _ _)
   rw[zi4 e]
   refine⟨gs',hd',x',y',?_⟩
   simp only[van,forL,tgW,vau,vaq,eb,bindok,ih,vb5,vda,List.singleton_append]
theorem zzd{i:Nat}(hi:i<h.n):(st3 h gs c t l).get i=h.get i:=by
 unfold st3 VH.get
 rw[if_pos (zao.mpr (by show i<h.n+3+gs.length;omega)),if_pos (zao.mpr hi)]
 show(gs++(.lst l :: .lst t :: .lst c::h.os))[h.n+3+gs.length-1-i]?=_
 rw[vbb (by omega),show h.n+3+gs.length-1-i-gs.length=(h.n-1-i)+3 by omega]
 rfl
theorem zze:(st3 h (o::gs) c t l).get (h.n+3+gs.length)=some o:=by
 rw[<-zoz]
 exact zo5
section
variable{F:Nat->Option Fn}(C:CoreL F)
include C
theorem zrt{k:Nat}{h:VH}{B:Bd}{ls:List Int}{f:Nat}{c:Int}(hlo:h.lo<=h.n)(hf:B.fd[f]?=some (.int c))(c0:0<=c)(c1:c<B.wd)(hr:zi2 B.wd (ls.length:Int) B.rows)(h60:B.rows.length<=60)(bi:Bits ls) :
 ∃i h',run F (k+1) 38 [B.w,iW ls,.int f] h=.ok (.ref i) h'/\h'.get i=some (.lst [iW (c:: (fallP B.rows c 0 ls).cs),iW (fallP B.rows c 0 ls).ts,iW (fallP B.rows c 0 ls).ls,.bl (fallP B.rows c 0 ls).st])/\Gw h h':=by
 rw[zaf C.f38 rfl]
 have e1:atI B.fd (f:Int)=some (.int c):=zbg hf
 have i3:atI [W.int B.wd,.int B.gr,.tup (B.rows.map .tup),.tup B.fd,.tup B.dr] 3=some (.tup B.fd):=rfl
 have i2:atI [W.int B.wd,.int B.gr,.tup (B.rows.map .tup),.tup B.fd,.tup B.dr] 2=some (.tup (B.rows.map .tup)):=rfl
 have hz:(B.rows.map W.tup).length<1000000:=by rw[vad];omega
 obtain⟨gs,hd',x',y',el⟩:=zs8 (cl:=run F k) (h0:=h) (b:=B.w) (f:=.int f) (a:=.int c) B.rows c 0 [] [.int c] [] ls none none hr c0 c1 (by decide) (by decide) bi (by rw[va1];omega) (by rw[vcm];omega) rfl
 have key:exs (run F k) fn38.body [some B.w,some (iW ls),some (.int f),none,none,none,none,none,none] ⟨h.n,h.n,h.os⟩=.ok (.rt (.ref (h.n+3+gs.length))) (st3 h (.lst [iW (c:: (fallP B.rows c 0 ls).cs),iW (fallP B.rows c 0 ls).ts,iW (fallP B.rows c 0 ls).ls,.bl (fallP B.rows c 0 ls).st]::gs) (([.int c]:List W)++(fallP B.rows c 0 ls).cs.map .int) (([]:List W)++(fallP B.rows c 0 ls).ts.map .int) ((fallP B.rows c 0 ls).ls.map .int)):=by
  rw[zu9]
  show exs (run F k) (.seq _ _) _ _=_
  rw[zaa (ρ':=[some B.w,some (iW ls),some (.int f),some (.int c),none,none,none,none,none]) (h':=⟨h.n,h.n,h.os⟩) (by unfold Bd.w;simp[exs,ev,idxW,i3,e1])]
  rw[zaa (ρ':=[some B.w,some (iW ls),some (.int f),some (.int c),some (.ref h.n),none,none,none,none]) (h':=VH.new ⟨h.n,h.n,h.os⟩ (.lst [.int c])) (by simp[exs,ev])]
  rw[zaa (ρ':=[some B.w,some (iW ls),some (.int f),some (.int c),some (.ref h.n),some (.ref (h.n+1)),none,none,none]) (h':=VH.new (VH.new ⟨h.n,h.n,h.os⟩ (.lst [.int c])) (.lst [])) (by simp[exs,ev,VH.new])]
  rw[zaa (ρ':=[some B.w,some (.ref (h.n+2)),some (.int f),some (.int c),some (.ref h.n),some (.ref (h.n+1)),none,none,none]) (h':=st3 h [] [.int c] [] (ls.map .int)) (by unfold iW;simp[exs,ev,VH.new,biW,listW,seqW,st3])]
  rw[zaa (ρ':=[some B.w,some (.ref (h.n+2)),some (.int f),some (.int c),some (.ref h.n),some (.ref (h.n+1)),some (.int 0),none,none]) (h':=st3 h [] [.int c] [] (ls.map .int)) (by simp[exs,ev])]
  have ei:ev (run F k) (.idx (.var 0) (.cst (.int (2)))) [some B.w,some (.ref (h.n+2)),some (.int f),some (.int c),some (.ref h.n),some (.ref (h.n+1)),some (.int 0),none,none] (st3 h [] [.int c] [] (ls.map .int))=.ok (.tup (B.rows.map .tup)) (st3 h [] [.int c] [] (ls.map .int)):=by
   unfold Bd.w;simp[ev,idxW,i2]
  have ef:=zcv (tg:=tgW (.one 7)) (b:=exs (run F k) zd1) (ρ:=[some B.w,some (.ref (h.n+2)),some (.int f),some (.int c),some (.ref h.n),some (.ref (h.n+1)),some (.int 0),none,none]) (h:=st3 h [] [.int c] [] (ls.map .int)) hz
  rw[el]at ef
  cases z:(fallP B.rows c 0 ls).st with
  |true=>
   rw[z]at ef
   refine(zab (by rw[exs,ei,bindok,ef];rfl)).trans ?_
   rfl
  |false=>
   rw[z]at ef
   refine(zaa (by rw[exs,ei,bindok,ef];rfl)).trans ?_
   have ee:=zs7 (cl:=run F k) (st:=false) (ρ:=[some B.w,some (.ref (h.n+2)),some (.int f),some (.int c),some (.ref h.n),some (.ref (h.n+1)),hd',x',y']) (h0:=h) (gs:=gs) (cs:=([.int c]:List W)++(fallP B.rows c 0 ls).cs.map .int) (ts:=([]:List W)++(fallP B.rows c 0 ls).ts.map .int) (ls:=(fallP B.rows c 0 ls).ls.map .int) rfl rfl rfl
   simp only[exs,ee,bindok]
   rfl
 show ∃i h',fin h (exs (run F k) fn38.body [some B.w,some (iW ls),some (.int f),none,none,none,none,none,none] ⟨h.n,h.n,h.os⟩)=.ok (.ref i) h'/\_/\_
 rw[key]
 generalize (([.int c]:List W)++(fallP B.rows c 0 ls).cs.map .int)=c1'
 generalize (([]:List W)++(fallP B.rows c 0 ls).ts.map .int)=t1'
 generalize ((fallP B.rows c 0 ls).ls.map W.int)=l1'
 generalize W.bl (fallP B.rows c 0 ls).st=s1'
 refine⟨h.n+3+gs.length,⟨h.n+3+ (gs.length+1),h.lo,(.lst [iW (c:: (fallP B.rows c 0 ls).cs),iW (fallP B.rows c 0 ls).ts,iW (fallP B.rows c 0 ls).ls,s1']::gs)++(.lst l1' :: .lst t1' :: .lst c1'::h.os)⟩,?_,?_,?_,rfl,?_⟩
 .show leave _ _ _=_
  unfold leave
  rw[if_neg (by rw[W.lt,zbx (by omega)];simp)]
  show Res.ok _ ⟨_,if Nat.ble h.lo h.n then h.lo else h.n,_⟩=_
  rw[if_pos (vd1.mpr hlo)]
  rfl
 .exact(get_lo (h:=st3 h (.lst [iW (c:: (fallP B.rows c 0 ls).cs),iW (fallP B.rows c 0 ls).ts,iW (fallP B.rows c 0 ls).ls,s1']::gs) c1' t1' l1')).trans zze
 .show h.n<=h.n+3+ (gs.length+1);omega
 .intro i o e
  exact((get_lo (h:=st3 h (.lst [iW (c:: (fallP B.rows c 0 ls).cs),iW (fallP B.rows c 0 ls).ts,iW (fallP B.rows c 0 ls).ls,s1']::gs) c1' t1' l1')).trans (zzd (zaq e))).trans e
end
theorem zs9{n:Nat}:∀{ws:List W},(∀w∈ws,W.lt n w=true)->W.lts n ws=true
 |[],_=>by simp
 |w::r,h=>by rw[lts_cons,h w vam,zs9 λw hw=>h w (vai _ hw)];rfl
section
variable{F:Nat->Option Fn}(C:CoreD F)
include C
theorem zgk{k:Nat}:∀(ns:List Int) (x:Option W) (h:VH),∃cells:List Int,lcL (tgW (.one 0)) (ev (run F k) zeb) (ev (run F k) zec) (ns.map .int) [x] h=.ok (cells.map .int) h/\(∀y∈cells,(0:Int)<=y)/\cells.length<=ns.length
 |[],x,h=>⟨[],rfl,(λy hy=>by cases hy),vac _⟩
 |n::ns,x,h=>by
  obtain⟨cells,e,h1,h2⟩:=zgk (k:=k) ns (some (.int n)) h
  have s10:((10:Int).natAbs<2 ^ 64):=by decide
  have ec:ev (run F k) zeb [some (.int n)] h=.ok (.bl (decide (1000000000000000000<=(n.natAbs:Int)))) h:=by
   simp[zeb,ev,biW,absW,opW,opI,cmpW,eqYs,cmpI,zdz]
  have ee:ev (run F k) zec [some (.int n)] h=.ok (.int (n.natAbs:Int)) h:=by
   simp[zec,ev,biW,absW,zdz]
  by_cases q:1000000000000000000<=(n.natAbs:Int)
  .refine⟨(n.natAbs:Int)::cells,?_,λy hy=>?_,by rw[vaj,vaj];omega⟩
   .simp only[lcL,van,tgW,List.set,ec,bindok,q,decide_true,ee,e]
   .rcases vax.mp hy with rfl|hy
    .omega
    .exact h1 y hy
  .refine⟨cells,?_,h1,by rw[vaj];omega⟩
   simp only[lcL,van,tgW,List.set,ec,bindok,q,decide_false,e]
theorem deck{k:Nat}{h:VH}{ns:List Int}(hl:ns.length<=63):∃h',run F (k+1) 3 [.fz (ns.map .int)] h=.ok (.ref (h.n+1)) h'/\Dk h' (h.n+1) h.n 0:=by
 rw[zaf C.f3 rfl]
 obtain⟨cells,e,h1,h2⟩:=zgk C (k:=k) ns none ⟨h.n,h.n,h.os⟩
 have l:=zdb (nx:=nxt .seq (.fz (ns.map .int))) (tg:=tgW (.one 0)) (c:=ev (run F k) zeb) (e:=ev (run F k) zec) (ws:=ns.map .int) (λi h=>rfl) fuel 0 [none] ⟨h.n,h.n,h.os⟩ [] (vbk _) (by rw[vad];unfold fuel;omega)
 rw[vc6,e]at l
 have l:lcG (nxt .seq (.fz (ns.map .int))) (tgW (.one 0)) (ev (run F k) zeb) (ev (run F k) zec) fuel 0 [none] ⟨h.n,h.n,h.os⟩ []=.ok (cells.map .int) ⟨h.n,h.n,h.os⟩:=l
 have q:ev (run F k) (.lc .seq (.var 0) (.one 0) 1 [] zeb zec) [some (.fz (ns.map .int))] ⟨h.n,h.n,h.os⟩=.ok (.ref h.n) (VH.new ⟨h.n,h.n,h.os⟩ (.lst (cells.map .int))):=by
  rw[ev]
  have:ev (run F k) (.var 0) [some (.fz (ns.map .int))] ⟨h.n,h.n,h.os⟩=.ok (.fz (ns.map .int)) ⟨h.n,h.n,h.os⟩:=rfl
  rw[this,bindok]
  show(lcG (nxt .seq (.fz (ns.map .int))) (tgW (.one 0)) (ev (run F k) zeb) (ev (run F k) zec) fuel 0 [none] ⟨h.n,h.n,h.os⟩ []).bind _=_
  rw[l,bindok,if_pos (zcy (by rw[vad];omega))]
 let h1':VH:=VH.new ⟨h.n,h.n,h.os⟩ (.lst (cells.map .int))
 let o:VO:=.lst [.fz (ns.map .int),.ref h.n,.int 0,.int 0]
 have eb:exs (run F k) fn3.body [some (.fz (ns.map .int))] ⟨h.n,h.n,h.os⟩=.ok (.rt (.ref (h.n+1))) (h1'.new o):=by
  simp only[fn3,exs,ev,bindok,ofsome,vaw,va4]at q ⊢
  rw[q]
  rfl
 refine⟨⟨h.n+2,if Nat.ble h.lo h.n then h.lo else h.n,(h1'.new o).os⟩,?_,?_⟩
 .show fin h (exs (run F k) fn3.body [some (.fz (ns.map .int))] ⟨h.n,h.n,h.os⟩)=_
  rw[eb]
  show leave h (.ref (h.n+1)) (h1'.new o)=_
  unfold leave
  rw[if_neg (by
   rw[vab]
   intro z
   have:=z.2
   simp only[W.lt]at this
   have:=zao.mp this
   omega)]
  rfl
 .refine⟨by omega,ns,cells,0,0,?_,?_,h1,by omega,by omega,by omega,by omega⟩
  .show VH.get ⟨(h1'.new o).n,_,(h1'.new o).os⟩ (h.n+1)=_
   rw[get_lo]
   exact zal (h:=h1')
  .show VH.get ⟨(h1'.new o).n,_,(h1'.new o).os⟩ h.n=_
   rw[get_lo,zah (h:=h1') (by show h.n<h.n+1;omega)]
   exact zal (h:=⟨h.n,h.n,h.os⟩)
end
noncomputable def zipW(ws zs:List W):List W:=List.zipWith (λa b=>W.tup [a,b]) ws zs
theorem zru(i:Nat)(h:VH):nxt .zip (.tup [.tup ws,.tup zs]) i h=some (zipW ws zs)[i]?:=by
 simp only[nxt,seqW,zipW,List.getElem?_zipWith]
 cases ws[i]?<;>cases zs[i]?<;>rfl
theorem zkd{ρ:En}{ow:Nat}{ix:List Nat}(ea:ev cl a ρ h=.ok (.tup [.tup ws,.tup zs]) h1)(hn:(zipW ws zs).length<1000000)(el:lcL (tgW t) (λ_ h=>.ok (.bl true) h) (ev cl e) (zipW ws zs) (inner ow ix ρ) h1=.ok ys h2)(hy:ys.length<=1000000) :
 ev cl (.lc .zip a t ow ix (.cst (.bl true)) e) ρ h=.ok (.ref h2.n) (h2.new (.lst ys)):=by
 have l:=zdb (nx:=nxt .zip (.tup [.tup ws,.tup zs])) (tg:=tgW t) (c:=λ_ h=>.ok (.bl true) h) (e:=ev cl e) (ws:=zipW ws zs) (λi h=>zru i h) fuel 0 (inner ow ix ρ) h1 [] (vbk _) (by simpa[fuel]using hn)
 rw[vc6,el]at l
 have q:ev cl (.lc .zip a t ow ix (.cst (.bl true)) e) ρ h=(ev cl a ρ h).bind λx h=>(lcG (nxt .zip x) (tgW t) (ev cl (.cst (.bl true))) (ev cl e) fuel 0 (inner ow ix ρ) h []).bind λys h=>if Nat.ble ys.length big then .ok (.ref h.n) (h.new (.lst ys))else .no:=by rw[ev]
 rw[q,ea,bindok]
 show(lcG (nxt .zip (.tup [.tup ws,.tup zs])) (tgW t) (λ_ h=>.ok (.bl true) h) (ev cl e) fuel 0 (inner ow ix ρ) h1 []).bind _=_
 rw[l]
 show(if Nat.ble ([].reverse++ys).length big then _ else _)=_
 rw[vdx,vb4,if_pos (zcy hy)]
theorem opE{ρ:En}{r:Res W}(ea:ev cl a ρ h=.ok x h1)(eb:ev cl b ρ h1=.ok y h2)(e:opW o x y h2=r):ev cl (.op o a b) ρ h=r:=by
 rw[ev,ea,bindok,eb,bindok,e]
theorem retE{ρ:En}(ea:ev cl a ρ h=.ok x h1):exs cl (.ret a) ρ h=.ok (.rt x) h1:=by
 rw[exs,ea,bindok]
theorem setE{i:Nat}{ρ:En}(ea:ev cl a ρ h=.ok x h1):exs cl (.set i a) ρ h=.ok (.nx (ρ.set i (some x))) h1:=by
 rw[exs,ea,bindok]
theorem varE{i:Nat}{ρ:En}(e:ρ[i]?=some (some x)):ev cl (.var i) ρ h=.ok x h:=by
 rw[ev,e];rfl
theorem idxE{ρ:En}(ea:ev cl a ρ h=.ok x h1)(eb:ev cl b ρ h1=.ok y h2)(e:idxW h2 x y=some z):ev cl (.idx a b) ρ h=.ok z h2:=by
 rw[ev,ea,bindok,eb,bindok,e];rfl
theorem lenE{ρ:En}(ea:ev cl a ρ h=.ok x h1)(e:seqW h1 x=some ws):ev cl (.bi .len (.cons a .nil)) ρ h=.ok (.int ws.length) h1:=by
 rw[ev,ev,ea,bindok,ev,bindok]
 show lenW [x] h1=_
 simp only[lenW,e,ofsome]
theorem zgl{ρ:En}{n:Nat}(ea:ev cl a ρ h=.ok x h1)(e:cl n [x] h1=.ok w h'):ev cl (.call n (.cons a .nil)) ρ h=.ok w h':=by
 rw[ev,ev,ea,bindok,ev]
 exact e
theorem zas{ρ:En}{n:Nat}(ea:ev cl a ρ h=.ok x h1)(eb:ev cl b ρ h1=.ok y h2)(e:cl n [x,y] h2=.ok w h'):ev cl (.call n (.cons a (.cons b .nil))) ρ h=.ok w h':=by
 rw[ev,ev,ea,bindok,ev,eb,bindok,ev]
 exact e
theorem zed{ρ:En}{n:Nat}(ea:ev cl a ρ h=.ok x h1)(eb:ev cl b ρ h1=.ok y h2)(ec:ev cl c ρ h2=.ok z h3)(e:cl n [x,y,z] h3=.ok w h'):ev cl (.call n (.cons a (.cons b (.cons c .nil)))) ρ h=.ok w h':=by
 rw[ev,ev,ea,bindok,ev,eb,bindok,ev,ec,bindok,ev]
 exact e
theorem zgm{ρ:En}{n:Nat}(ea:ev cl a ρ h=.ok x h1)(eb:ev cl b ρ h1=.ok y h2)(ec:ev cl c ρ h2=.ok z h3)(ed:ev cl d ρ h3=.ok u h4)(e:cl n [x,y,z,u] h4=.ok w h'):ev cl (.call n (.cons a (.cons b (.cons c (.cons d .nil))))) ρ h=.ok w h':=by
 rw[ev,ev,ea,bindok,ev,eb,bindok,ev,ec,bindok,ev,ed,bindok,ev]
 exact e
theorem tup2E{ρ:En}(ea:ev cl a ρ h=.ok x h1)(eb:ev cl b ρ h1=.ok y h2):ev cl (.tup (.cons a (.cons b .nil))) ρ h=.ok (.tup [x,y]) h2:=by
 rw[ev,ev,ea,bindok,ev,eb,bindok,ev];rfl
theorem tup3E{ρ:En}(ea:ev cl a ρ h=.ok x h1)(eb:ev cl b ρ h1=.ok y h2)(ec:ev cl c ρ h2=.ok z h3):ev cl (.tup (.cons a (.cons b (.cons c .nil)))) ρ h=.ok (.tup [x,y,z]) h3:=by
 rw[ev,ev,ea,bindok,ev,eb,bindok,ev,ec,bindok,ev];rfl
noncomputable def optW:Option Nat->W
 |none=>.non
 |some f=>.int f
noncomputable def callO(B:Bd)(ls:List Int)(f:Nat):Option Nat:=match outD B ls f with
 |.tup [_,.int i]=>some i.toNat
 |_=>none
theorem zcd{f:Nat}(b:B.Ok)(hf:f<B.fd.length)(hl:(ls.length:Int)=B.gr)(bi:Bits ls):outD B ls f=.tup [nameP B ls f,optW (callO B ls f)]/\∀g,callO B ls f=some g->g<B.fd.length:=by
 have q:=b.fall hf hl bi
 unfold callO nameP
 by_cases z:(B.fall ls f).st=true
 .have:outD B ls f=.tup [.non,.non]:=by unfold outD;rw[if_pos z]
  rw[this]
  exact⟨rfl,λg h=>by cases h⟩
 .have e:outD B ls f=B.door (lastC (B.col f) (B.fall ls f).cs):=by unfold outD;rw[if_neg z]
  obtain⟨_,d2⟩:=b.door q.c4.1 q.c4.2
  obtain⟨x,y,de,_,_,hy⟩:=zfe d2
  rw[e,de]
  rcases hy with rfl|⟨i,rfl,i0,i1⟩
  .exact⟨rfl,λg h=>by cases h⟩
  .refine⟨?_,λg h=>?_⟩
   .show W.tup [.int x,.int i]=.tup [.int x,.int (i.toNat:Int)]
    rw[Int.toNat_of_nonneg i0]
   .have h:some i.toNat=some g:=h
    cases h
    omega
theorem zo6(n:Nat)(h:∀w∈ws,w=.non\/∃i:Int,w=.int i):W.lts n ws=true:=zs9 λw hw=>by
 rcases h w hw with rfl|⟨i,rfl⟩<;>simp
theorem zo7{n:Nat}{fo:Option Nat}:W.lt n (optW fo)=true:=by cases fo<;>simp[optW]
theorem slcE{cl:Call}{a lo hi:E}{bl bh:Bool}{ρ:En}{h h1 h2 h3 h4:VH}{x l u w:W}{l' u':Option Int}(ea:ev cl a ρ h=.ok x h1)(el:ev cl lo ρ h1=.ok l h2)(eu:ev cl hi ρ h2=.ok u h3)(pl:partW bl l=some l')(pu:partW bh u=some u')(e:slcW x l' u' h3=.ok w h4):ev cl (.slc a bl lo bh hi) ρ h=.ok w h4:=by
 rw[ev,ea,bindok,el,bindok,eu,bindok,pl,pu]
 exact e
theorem lst2E{ρ:En}(ea:ev cl a ρ h=.ok x h1)(eb:ev cl b ρ h1=.ok y h2):ev cl (.lst (.cons a (.cons b .nil))) ρ h=.ok (.ref h2.n) (h2.new (.lst [x,y])):=by
 rw[ev,ev,ea,bindok,ev,eb,bindok,ev];rfl
theorem iteF{ρ:En}(e:ev cl c ρ h=.ok (.bl false) h1):exs cl (.ite c a b) ρ h=exs cl b ρ h1:=by
 rw[exs,e];rfl
theorem iteT{ρ:En}(e:ev cl c ρ h=.ok (.bl true) h1):exs cl (.ite c a b) ρ h=exs cl a ρ h1:=by
 rw[exs,e];rfl
theorem truE{ρ:En}{b:Bool}(e:ev cl a ρ h=.ok (.bl b) h1):ev cl (.tru a) ρ h=.ok (.bl b) h1:=by
 rw[ev,e,bindok];rfl
theorem exprE{ρ:En}(ea:ev cl a ρ h=.ok x h1):exs cl (.expr a) ρ h=.ok (.nx ρ) h1:=by
 rw[exs,ea,bindok]
theorem zlm{n:Nat}:za2 (n+2) (iW ls)=true:=by
 unfold iW
 rw[ziz,vbp]
 intro w hw
 obtain⟨x,_,rfl⟩:=vb1.mp hw
 rfl
theorem zo8{P:Int->Prop}:∀{ws:List W},(∀w∈ws,∃x:Int,w=.int x/\P x)->∃xs:List Int,ws=xs.map .int/\∀x∈xs,P x
 |[],_=>⟨[],rfl,by simp⟩
 |w::r,h=>by
  obtain⟨x,rfl,hx⟩:=h w vam
  obtain⟨xs,rfl,hs⟩:=zo8 λw hw=>h w (vai _ hw)
  refine⟨x::xs,rfl,λy hy=>?_⟩
  rcases vax.mp hy with rfl|hy
  .exact hx
  .exact hs y hy
section
variable{F:Nat->Option Fn}(C:CoreD F)
include C
theorem zke{k:Nat}{d c b g:Nat}(f20:F 20=some fn20)(D:Dk h d c b)(hb:b+10<1000000000)(hg:g<=8) :
 ∃ls h',run F (k+4) 20 [.ref d,.int g] h=.ok (iW ls) h'/\ls.length=g/\Bits ls/\Dk h' d c (b+10)/\Keep h h' d c:=by
 rw[zaf f20 rfl]
 have D0:Dk ⟨h.n,h.n,h.os⟩ d c b:=D.lo
 obtain⟨ws,h2,e2,p2,l2,D2,K2⟩:=zd0 (cl:=run F (k+3)) (P:=λ_ w=>∃x:Int,w=.int x/\(x=0\/x=1)) (e:=zhn) (tl:=[some (.ref d)]) (m:=1) (lim:=g) (λi h b h0 hl D hb=>by
  obtain⟨r,h',e,r0,r1,D',K'⟩:=take C (k:=k) (m:=2) D (by omega) (by decide) (by decide)
  exact⟨.int r,h',by simp[zhn,ev,e],⟨r,rfl,by omega⟩,D',K'⟩) g 0 none ⟨h.n,h.n,h.os⟩ b (by omega) (by omega) D0 (by omega)
 obtain⟨ls,rfl,hbits⟩:=zo8 (zdf p2)
 have e3:=zlg (cl:=run F (k+3)) (a:=.cons (.var 1) .nil) (ρ:=[some (.ref d),some (.int g)]) (h:=⟨h.n,h.n,h.os⟩) (ow:=1) (ix:=[0]) (e:=zhn) (by simp[ev]) (by omega) e2 (by rw[l2];omega)
 obtain⟨h5,e5,D5,K5⟩:=zbh (cl:=run F (k+3)) (fl:=.nx []) (w:=iW ls) (body:=fn20.body) (ρ:=[some (.ref d),some (.int g)]) (F:=F) (k:=k+3) (h:=h) (h':=h2.new (.lst (ls.map .int))) (by simp only[fn20,exs,e3,bindok];rfl) (.inr ⟨b,D⟩) (D2.new.mono (show _<=b+10 by omega)) K2.new
 exact⟨ls,h5,e5,by rw[vad]at l2;exact l2,hbits,D5,K5⟩
end
structure CoreY1(F:Nat->Option Fn):Prop where
 f173:F 173=some fn173
 f174:F 174=some fn174
structure CoreY0(F:Nat->Option Fn):Prop where
 f173:F 173=some fn173
 f174:F 174=some fn174
 f175:F 175=some fn175
theorem varE0{i:Nat}{ρ:En}(e:ρ[i]?=some (some x)):ev cl (.var i) ρ h=.ok x h:=by
 rw[ev,e];rfl
theorem idxE0{ρ:En}(ea:ev cl a ρ h=.ok x h1)(eb:ev cl b ρ h1=.ok y h2)(e:idxW h2 x y=some z):ev cl (.idx a b) ρ h=.ok z h2:=by
 rw[ev,ea,bindok,eb,bindok,e];rfl
theorem setE0{i:Nat}{ρ:En}(ea:ev cl a ρ h=.ok x h1):exs cl (.set i a) ρ h=.ok (.nx (ρ.set i (some x))) h1:=by
 rw[exs,ea];rfl
theorem zo9:idxW h (.tup (x::r)) (.int 0)=some x:=zbg (j:=0) (xs:=x::r) rfl
theorem zho{i:Int}:eqW h (.int i) .non=some false:=rfl
section
variable{F:Nat->Option Fn}(C:CoreY1 F)
include C
theorem zrv{k:Nat}{h0:VH}{gs:List VO}{cs ts:List W}{c wd hd:Int}(hm:zak w c wd (ls.length:Int)=true) :
 run F (k+1) 173 [w,.int hd,.ref (h0.n+2),.non] (st3 h0 gs cs ts (ls.map .int))=match stepP w hd ls with
  |none=>.ok .non (st3 h0 gs cs ts (ls.map .int))
  |some (d,_,l)=>.ok (.int d) (st3 h0 gs cs ts (l.map .int)):=by
 rw[zaf C.f173 rfl]
 rcases zdg hm with⟨rfl,h3,h4⟩|⟨rfl,h3⟩|⟨rfl,h3⟩|rfl|rfl|⟨p,q,rfl,h3,h4,h5,h6⟩
 .rw[zli];simp[fn173,exs,ev,cmpW,eqYs,zaj]
 .rw[zhk];simp[fn173,exs,ev,cmpW,eqYs,zaj]
 .rw[zhl];simp[fn173,exs,ev,cmpW,eqYs,zaj]
 .rw[zep];simp[fn173,exs,ev,cmpW,eqYs,zaj]
 .rw[zlj];simp[fn173,exs,ev,cmpW,eqYs,zaj]
 .rw[zhm]
  have hp:p<ls.length:=by omega
  have e1:=zs5 hp
  have g:VH.get ⟨(st3 h0 gs cs ts (ls.map .int)).n,(st3 h0 gs cs ts (ls.map .int)).n,(st3 h0 gs cs ts (ls.map .int)).os⟩ (h0.n+2)=some (.lst (ls.map .int)):=by rw[get_lo];exact st_l
  have e2:ixN (ls.map W.int).length (p:Int)=some p:=zo0 (by rw[vad];exact hp)
  have e3:exs (run F k) fn173.body [some (.tup [.int p,.int q]),some (.int hd),some (.ref (h0.n+2)),some .non,none,none,none] ⟨(st3 h0 gs cs ts (ls.map .int)).n,(st3 h0 gs cs ts (ls.map .int)).n,(st3 h0 gs cs ts (ls.map .int)).os⟩=.ok (.rt (.int (if ls.getD p 0=q then -1 else 1))) (VH.set ⟨(st3 h0 gs cs ts (ls.map .int)).n,(st3 h0 gs cs ts (ls.map .int)).n,(st3 h0 gs cs ts (ls.map .int)).os⟩ (h0.n+2) (.lst ((ls.set p (1-ls.getD p 0)).map .int))):=by
   rw[List.map_set]
   generalize ls.getD p 0=y at e1 ⊢
   by_cases z:y=(q:Int)
   .simp only[fn173,exs,ev,tgW,seqW,zaz,va4,vas,vaw,ofsome,bindok,isi_tup,vah,tru_bl,ty_tuple_tuple,vau,vaq,idxW,g,e1,opW,opI,e2,cmpW,eqYs,zau,zho,vdh,z,decide_true,vbm]
   .simp only[fn173,exs,ev,tgW,seqW,zaz,va4,vas,vaw,ofsome,bindok,isi_tup,vah,tru_bl,ty_tuple_tuple,vau,vaq,idxW,g,e1,opW,opI,e2,cmpW,eqYs,zau,zho,vdh,z,decide_false,vbl]
  show fin _ (exs (run F k) fn173.body [some (.tup [.int p,.int q]),some (.int hd),some (.ref (h0.n+2)),some .non,none,none,none] _)=_
  rw[e3]
  exact zrs
theorem zva{k:Nat}{h0:VH}{b l f:W}{c wd hd:Int}{y:Option W}(ok:(r.length:Int)=wd/\rowOk wd (ls.length:Int) 0 r)(c0:0<=c)(c1:c<wd)(hc:cs.length<=1000)(ht:ts.length<=1000) :
 exs (run F (k+1)) zdh [some b,some l,some f,some .non,some (.int c),some (.ref h0.n),some (.ref (h0.n+1)),some (.ref (h0.n+2)),some (.int hd),some (.tup r),y] (st3 h0 [] cs ts (ls.map .int))=match stepP (colAt r c) hd ls with
  |none=>.ok (.bk [some b,some l,some f,some .non,some (.int c),some (.ref h0.n),some (.ref (h0.n+1)),some (.ref (h0.n+2)),some .non,some (.tup r),some (colAt r c)]) (st3 h0 [] cs ts (ls.map .int))
  |some (d,t,l')=>.ok (.nx [some b,some l,some f,some .non,some (.int (c+d)),some (.ref h0.n),some (.ref (h0.n+1)),some (.ref (h0.n+2)),some (.int d),some (.tup r),some (colAt r c)]) (st3 h0 [] (cs++[.int (c+d)]) (ts++t.map .int) (l'.map .int)):=by
 obtain⟨_,hm⟩:=zgj ok c0 c1
 have e0:=zs6 ok c0 c1
 generalize colAt r c=w at hm e0 ⊢
 have e1:=zrv C (k:=k) (h0:=h0) (gs:=[]) (cs:=cs) (ts:=ts) (hd:=hd) hm
 unfold zdh
 rw[zaa (ρ':=[some b,some l,some f,some .non,some (.int c),some (.ref h0.n),some (.ref (h0.n+1)),some (.ref (h0.n+2)),some (.int hd),some (.tup r),some w]) (h':=st3 h0 [] cs ts (ls.map .int)) (setE0 (idxE0 (x:=.tup r) (y:=.int c) (varE0 rfl) (varE0 rfl) e0))]
 have key:∀(d:Int)(l':List Int)(t:List Int),stepP w hd ls=some (d,t,l')->exs (run F (k+1)) (.seq (.ite (.and (.tru (.isi .tuple (.var 10))) (.cmp .ne (.idx (.var 10) (.cst (.int (0)))) (.var 3))) (.seq (.expr (.mt .append (.var 6) (.cons (.idx (.var 10) (.cst (.int (0)))) .nil))) .skip) .skip) (.seq (.aug 4 .add (.var 8)) (.seq (.expr (.mt .append (.var 5) (.cons (.var 4) .nil))) .skip))) [some b,some l,some f,some .non,some (.int c),some (.ref h0.n),some (.ref (h0.n+1)),some (.ref (h0.n+2)),some (.int d),some (.tup r),some w] (st3 h0 [] cs ts (l'.map .int))=.ok (.nx [some b,some l,some f,some .non,some (.int (c+d)),some (.ref h0.n),some (.ref (h0.n+1)),some (.ref (h0.n+2)),some (.int d),some (.tup r),some w]) (st3 h0 [] (cs++[.int (c+d)]) (ts++t.map .int) (l'.map .int)):=by
  intro d l' t es
  have fin:∀ts':List W,exs (run F (k+1)) (.seq (.aug 4 .add (.var 8)) (.seq (.expr (.mt .append (.var 5) (.cons (.var 4) .nil))) .skip)) [some b,some l,some f,some .non,some (.int c),some (.ref h0.n),some (.ref (h0.n+1)),some (.ref (h0.n+2)),some (.int d),some (.tup r),some w] (st3 h0 [] cs ts' (l'.map .int))=.ok (.nx [some b,some l,some f,some .non,some (.int (c+d)),some (.ref h0.n),some (.ref (h0.n+1)),some (.ref (h0.n+2)),some (.int d),some (.tup r),some w]) (st3 h0 [] (cs++[.int (c+d)]) ts' (l'.map .int)):=by
   intro ts'
   rw[zaa (ρ':=[some b,some l,some f,some .non,some (.int (c+d)),some (.ref h0.n),some (.ref (h0.n+1)),some (.ref (h0.n+2)),some (.int d),some (.tup r),some w]) (h':=st3 h0 [] cs ts' (l'.map .int)) rfl]
   have ea:=zbb (cl:=run F (k+1)) (i:=5) (l:=h0.n) (x:=.var 4) (ρ:=[some b,some l,some f,some .non,some (.int (c+d)),some (.ref h0.n),some (.ref (h0.n+1)),some (.ref (h0.n+2)),some (.int d),some (.tup r),some w]) (h:=st3 h0 [] cs ts' (l'.map .int)) (h1:=st3 h0 [] cs ts' (l'.map .int)) (w:=.int (c+d)) (acc:=cs) (acc0:=cs) rfl st_c (by simp[ev]) st_c (by omega)
   rw[zox]at ea
   simp only[exs,ea,bindok]
  rcases zdg hm with⟨rfl,h3,h4⟩|⟨rfl,h3⟩|⟨rfl,h3⟩|rfl|rfl|⟨p,q,rfl,h3,h4,h5,h6⟩
  .rw[zli]at es;cases es
   rw[zaa (ρ':=[some b,some l,some f,some .non,some (.int c),some (.ref h0.n),some (.ref (h0.n+1)),some (.ref (h0.n+2)),some (.int hd),some (.tup r),some (.str sX)]) (h':=st3 h0 [] cs ts (ls.map .int)) rfl,fin];simp
  .rw[zhk]at es;cases es
   rw[zaa (ρ':=[some b,some l,some f,some .non,some (.int c),some (.ref h0.n),some (.ref (h0.n+1)),some (.ref (h0.n+2)),some (.int (-1)),some (.tup r),some (.str sLt)]) (h':=st3 h0 [] cs ts (ls.map .int)) rfl,fin];simp
  .rw[zhl]at es;cases es
   rw[zaa (ρ':=[some b,some l,some f,some .non,some (.int c),some (.ref h0.n),some (.ref (h0.n+1)),some (.ref (h0.n+2)),some (.int 1),some (.tup r),some (.str sGt)]) (h':=st3 h0 [] cs ts (ls.map .int)) rfl,fin];simp
  .rw[zep]at es;cases es
   rw[zaa (ρ':=[some b,some l,some f,some .non,some (.int c),some (.ref h0.n),some (.ref (h0.n+1)),some (.ref (h0.n+2)),some (.int 0),some (.tup r),some (.str sDot)]) (h':=st3 h0 [] cs ts (ls.map .int)) rfl,fin];simp
  .rw[zlj]at es;cases es
  .rw[zhm]at es;cases es
   have ea:=zbb (cl:=run F (k+1)) (i:=6) (l:=h0.n+1) (x:=.idx (.var 10) (.cst (.int 0))) (ρ:=[some b,some l,some f,some .non,some (.int c),some (.ref h0.n),some (.ref (h0.n+1)),some (.ref (h0.n+2)),some (.int (if ls.getD p 0=q then -1 else 1)),some (.tup r),some (.tup [.int p,.int q])]) (h:=st3 h0 [] cs ts ((ls.set p (1-ls.getD p 0)).map .int)) (h1:=st3 h0 [] cs ts ((ls.set p (1-ls.getD p 0)).map .int)) (w:=.int p) (acc:=ts) (acc0:=ts) rfl st_t (by simp[ev,idxW];rfl) st_t (by omega)
   rw[zoy]at ea
   have eb:exs (run F (k+1)) (.ite (.and (.tru (.isi .tuple (.var 10))) (.cmp .ne (.idx (.var 10) (.cst (.int (0)))) (.var 3))) (.seq (.expr (.mt .append (.var 6) (.cons (.idx (.var 10) (.cst (.int (0)))) .nil))) .skip) .skip) [some b,some l,some f,some .non,some (.int c),some (.ref h0.n),some (.ref (h0.n+1)),some (.ref (h0.n+2)),some (.int (if ls.getD p 0=q then -1 else 1)),some (.tup r),some (.tup [.int p,.int q])] (st3 h0 [] cs ts ((ls.set p (1-ls.getD p 0)).map .int))=.ok (.nx [some b,some l,some f,some .non,some (.int c),some (.ref h0.n),some (.ref (h0.n+1)),some (.ref (h0.n+2)),some (.int (if ls.getD p 0=q then -1 else 1)),some (.tup r),some (.tup [.int p,.int q])]) (st3 h0 [] cs (ts++[.int p]) ((ls.set p (1-ls.getD p 0)).map .int)):=by
    rw[exs]
    have e5:ev (run F (k+1)) (.and (.tru (.isi .tuple (.var 10))) (.cmp .ne (.idx (.var 10) (.cst (.int (0)))) (.var 3))) [some b,some l,some f,some .non,some (.int c),some (.ref h0.n),some (.ref (h0.n+1)),some (.ref (h0.n+2)),some (.int (if ls.getD p 0=q then -1 else 1)),some (.tup r),some (.tup [.int p,.int q])] (st3 h0 [] cs ts ((ls.set p (1-ls.getD p 0)).map .int))=.ok (.bl true) (st3 h0 [] cs ts ((ls.set p (1-ls.getD p 0)).map .int)):=by simp[ev,zo9,cmpW,eqYs,zho]
    rw[e5,bindok]
    simp only[exs,ea,bindok]
   rw[zaa eb,fin]
   rfl
 cases es:stepP w hd ls with
 |none=>
  rw[es]at e1
  rw[zaa (ρ':=[some b,some l,some f,some .non,some (.int c),some (.ref h0.n),some (.ref (h0.n+1)),some (.ref (h0.n+2)),some .non,some (.tup r),some w]) (h':=st3 h0 [] cs ts (ls.map .int)) (by simp only[exs,ev,va4,vas,vaw,ofsome,bindok,e1,vau,vaq])]
  exact zmm rfl
 |some q=>
  obtain⟨d,t,l'⟩:=q
  rw[es]at e1
  rw[zaa (ρ':=[some b,some l,some f,some .non,some (.int c),some (.ref h0.n),some (.ref (h0.n+1)),some (.ref (h0.n+2)),some (.int d),some (.tup r),some w]) (h':=st3 h0 [] cs ts (l'.map .int)) (by simp only[exs,ev,va4,vas,vaw,ofsome,bindok,e1,vau,vaq])]
  rw[zaa (ρ':=[some b,some l,some f,some .non,some (.int c),some (.ref h0.n),some (.ref (h0.n+1)),some (.ref (h0.n+2)),some (.int d),some (.tup r),some w]) (h':=st3 h0 [] cs ts (l'.map .int)) rfl]
  exact key d l' t es
theorem zgn{k:Nat}{h0:VH}{b l f:W}{wd:Int}:∀(rs:List (List W)) (c hd:Int) (cs ts:List W) (ls:List Int) (x y:Option W),zi2 wd (ls.length:Int) rs->0<=c->c<wd->-1<=hd->hd<=1->Bits ls->cs.length+rs.length<=1000->ts.length+rs.length<=1000->
 ∃c' hd' x' y',forL (tgW (.one 9)) (exs (run F (k+1)) zdh) (rs.map .tup) [some b,some l,some f,some .non,some (.int c),some (.ref h0.n),some (.ref (h0.n+1)),some (.ref (h0.n+2)),some (.int hd),x,y] (st3 h0 [] cs ts (ls.map .int)) =
  .ok (.nx [some b,some l,some f,some .non,c',some (.ref h0.n),some (.ref (h0.n+1)),some (.ref (h0.n+2)),hd',x',y']) (st3 h0 [] (cs++(fallP rs c hd ls).cs.map .int) (ts++(fallP rs c hd ls).ts.map .int) ((fallP rs c hd ls).ls.map .int))
 |[],c,hd,cs,ts,ls,x,y,_,_,_,_,_,_,_,_=>⟨some (.int c),some (.int hd),x,y,by simp[forL,fallP]⟩
 |r::rs,c,hd,cs,ts,ls,x,y,ok,c0,c1,h1,h2,bi,hc,ht=>by
  have hc':cs.length+rs.length+1<=1000:=by rw[vaj]at hc;omega
  have ht':ts.length+rs.length+1<=1000:=by rw[vaj]at ht;omega
  have eb:=zva C (k:=k) (h0:=h0) (b:=b) (l:=l) (f:=f) (hd:=hd) (cs:=cs) (ts:=ts) (y:=y) (ok r vam) c0 c1 (by omega) (by omega)
  obtain⟨_,hm⟩:=zgj (ok r vam) c0 c1
  cases e:stepP (colAt r c) hd ls with
  |none=>
   rw[e]at eb
   rw[zi3 e]
   refine⟨some (.int c),some .non,some (.tup r),some (colAt r c),?_⟩
   simp only[van,forL,tgW,vau,vaq,eb,bindok,vcc,vbc]
  |some q=>
   obtain⟨d,t,l'⟩:=q
   rw[e]at eb
   obtain⟨a1,a2,a3,a4,a5,a6,a7⟩:=zka hm c0 c1 h1 h2 bi e
   obtain⟨c',hd',x',y',ih⟩:=zgn (k:=k) (h0:=h0) (b:=b) (l:=l) (f:=f) rs (c+d) d (cs++[.int (c+d)]) (ts++t.map .int) l' (some (.tup r)) (some (colAt r c)) (λr hr=>by rw[a5];exact ok r (vai _ hr)) a3 a4 a1 a2 a6 (by simp only[vaf,va1];omega) (by simp only[vaf,vad];omega)
   rw[zi4 e]
   refine⟨c',hd',x',y',?_⟩
   simp only[van,forL,tgW,vau,vaq,eb,bindok,ih,vb5,vda,List.singleton_append]
theorem zvb{k:Nat}{f:Nat}(b:B.Ok)(hf:f<B.fd.length)(hl:(ls.length:Int)=B.gr)(bi:Bits ls):run F (k+2) 174 [B.w,iW ls,.int f,.non] h=.ok (wayW B ls f) h:=by
 rw[zaf C.f174 rfl]
 obtain⟨e0,c0,c1⟩:=b.col hf
 have hr:=b.r1
 obtain⟨c',hd',x',y',el⟩:=zgn C (k:=k) (h0:=h) (b:=B.w) (l:=iW ls) (f:=.int f) B.rows (B.col f) 0 [.int (B.col f)] [] ls none none (b.rows hl) c0 c1 (by decide) (by decide) bi (by rw[va1];omega) (by rw[vcm];omega)
 have e1:atI B.fd (f:Int)=some (.int (B.col f)):=zbg e0
 have i3:atI [W.int B.wd,.int B.gr,.tup (B.rows.map .tup),.tup B.fd,.tup B.dr] 3=some (.tup B.fd):=rfl
 have i2:atI [W.int B.wd,.int B.gr,.tup (B.rows.map .tup),.tup B.fd,.tup B.dr] 2=some (.tup (B.rows.map .tup)):=rfl
 have hz:(B.rows.map W.tup).length<1000000:=by rw[vad];omega
 have eb:exs (run F (k+1)) fn174.body [some B.w,some (iW ls),some (.int f),some .non,none,none,none,none,none,none,none] ⟨h.n,h.n,h.os⟩=.ok (.rt (wayW B ls f)) (st3 h [] (([.int (B.col f)]:List W)++(fallP B.rows (B.col f) 0 ls).cs.map .int) (([]:List W)++(fallP B.rows (B.col f) 0 ls).ts.map .int) ((fallP B.rows (B.col f) 0 ls).ls.map .int)):=by
  show exs (run F (k+1)) (.seq _ _) _ _=_
  rw[zaa (ρ':=[some B.w,some (iW ls),some (.int f),some .non,some (.int (B.col f)),none,none,none,none,none,none]) (h':=⟨h.n,h.n,h.os⟩) (by unfold Bd.w;simp[exs,ev,idxW,i3,e1])]
  rw[zaa (ρ':=[some B.w,some (iW ls),some (.int f),some .non,some (.int (B.col f)),some (.ref h.n),none,none,none,none,none]) (h':=VH.new ⟨h.n,h.n,h.os⟩ (.lst [.int (B.col f)])) (by simp[exs,ev])]
  rw[zaa (ρ':=[some B.w,some (iW ls),some (.int f),some .non,some (.int (B.col f)),some (.ref h.n),some (.ref (h.n+1)),none,none,none,none]) (h':=VH.new (VH.new ⟨h.n,h.n,h.os⟩ (.lst [.int (B.col f)])) (.lst [])) (by simp[exs,ev,VH.new])]
  rw[zaa (ρ':=[some B.w,some (iW ls),some (.int f),some .non,some (.int (B.col f)),some (.ref h.n),some (.ref (h.n+1)),some (.ref (h.n+2)),none,none,none]) (h':=st3 h [] [.int (B.col f)] [] (ls.map .int)) (by unfold iW;simp[exs,ev,VH.new,biW,listW,seqW,st3])]
  rw[zaa (ρ':=[some B.w,some (iW ls),some (.int f),some .non,some (.int (B.col f)),some (.ref h.n),some (.ref (h.n+1)),some (.ref (h.n+2)),some (.int 0),none,none]) (h':=st3 h [] [.int (B.col f)] [] (ls.map .int)) (by simp[exs,ev])]
  have ei:ev (run F (k+1)) (.idx (.var 0) (.cst (.int (2)))) [some B.w,some (iW ls),some (.int f),some .non,some (.int (B.col f)),some (.ref h.n),some (.ref (h.n+1)),some (.ref (h.n+2)),some (.int 0),none,none] (st3 h [] [.int (B.col f)] [] (ls.map .int))=.ok (.tup (B.rows.map .tup)) (st3 h [] [.int (B.col f)] [] (ls.map .int)):=by
   unfold Bd.w;simp[ev,idxW,i2]
  have ef:=zcv (tg:=tgW (.one 9)) (b:=exs (run F (k+1)) zdh) (ρ:=[some B.w,some (iW ls),some (.int f),some .non,some (.int (B.col f)),some (.ref h.n),some (.ref (h.n+1)),some (.ref (h.n+2)),some (.int 0),none,none]) (h:=st3 h [] [.int (B.col f)] [] (ls.map .int)) hz
  rw[el]at ef
  refine(zaa (by rw[exs,ei,bindok,ef])).trans ?_
  have et:=tup3 (cl:=run F (k+1)) (zcz (i:=5) (ρ:=[some B.w,some (iW ls),some (.int f),some .non,c',some (.ref h.n),some (.ref (h.n+1)),some (.ref (h.n+2)),hd',x',y']) rfl (st_c (h:=h) (gs:=[]) (c:=([.int (B.col f)]:List W)++(fallP B.rows (B.col f) 0 ls).cs.map .int) (t:=([]:List W)++(fallP B.rows (B.col f) 0 ls).ts.map .int) (l:=(fallP B.rows (B.col f) 0 ls).ls.map .int))) (zcz (i:=6) rfl st_t) (zcz (i:=7) rfl st_l)
  simp only[exs,et,bindok]
  rfl
 show fin h (exs (run F (k+1)) fn174.body [some B.w,some (iW ls),some (.int f),some .non,none,none,none,none,none,none,none] ⟨h.n,h.n,h.os⟩)=_
 rw[eb]
 exact zaj (vac _) zu7
end
section
variable{F:Nat->Option Fn}(C:CoreY0 F)
include C
theorem zvc{k:Nat}{f:Nat}(b:B.Ok)(hf:f<B.fd.length)(hl:(ls.length:Int)=B.gr)(bi:Bits ls):run F (k+2) 174 [B.w,iW ls,.int f,.non] h=.ok (wayW B ls f) h:=zvb ⟨C.f173,C.f174⟩ b hf hl bi
noncomputable def downW(B:Bd)(ls:List Int)(f:Nat):W:=if(B.fall ls f).st then .non else .int (lastC (B.col f) (B.fall ls f).cs)
theorem zmo{k:Nat}{f:Nat}(b:B.Ok)(hf:f<B.fd.length)(hl:(ls.length:Int)=B.gr)(bi:Bits ls):run F (k+3) 175 [B.w,iW ls,.int f,.non] h=.ok (.tup [downW B ls f,iW (B.fall ls f).ls]) h:=by
 rw[zaf C.f175 rfl]
 have e1:=zvc C (k:=k) (h:=⟨h.n,h.n,h.os⟩) b hf hl bi
 have q:=b.fall hf hl bi
 have i2:atI [W.int B.wd,.int B.gr,.tup (B.rows.map .tup),.tup B.fd,.tup B.dr] 2=some (.tup (B.rows.map .tup)):=rfl
 have e2:exs (run F (k+2)) (.unp [4,5,6] (.call 174 (.cons (.var 0) (.cons (.var 1) (.cons (.var 2) (.cons (.var 3) .nil)))))) [some B.w,some (iW ls),some (.int f),some .non,none,none,none,none] ⟨h.n,h.n,h.os⟩=.ok (.nx [some B.w,some (iW ls),some (.int f),some .non,some (iW (B.col f:: (B.fall ls f).cs)),some (iW (B.fall ls f).ts),some (iW (B.fall ls f).ls),none]) ⟨h.n,h.n,h.os⟩:=by
  simp only[exs,ev,va4,vas,vaw,ofsome,bindok,e1,wayW,tgW,seqW,zaz,vau,vaq,vah]
 have e3:ev (run F (k+2)) (.cmp .gt (.bi .len (.cons (.var 4) .nil)) (.bi .len (.cons (.idx (.var 0) (.cst (.int (2)))) .nil))) [some B.w,some (iW ls),some (.int f),some .non,some (iW (B.col f:: (B.fall ls f).cs)),some (iW (B.fall ls f).ts),some (iW (B.fall ls f).ls),none] ⟨h.n,h.n,h.os⟩=.ok (.bl (!(B.fall ls f).st)) ⟨h.n,h.n,h.os⟩:=by
  have:decide ((B.rows.length:Int)< ((B.fall ls f).cs.length:Int)+1)=!(B.fall ls f).st:=by
   cases z:(B.fall ls f).st with
   |true=>have:=q.c5 z;exact vaz (by omega)
   |false=>have:=q.c3 z;exact vbg (by omega)
  unfold Bd.w iW
  simp[ev,biW,lenW,seqW,idxW,i2,cmpW,eqYs,cmpI,this]
 have el:=zo1 (cs:=(B.fall ls f).cs) (c:=B.col f)
 show fin h (exs (run F (k+2)) (.seq (.unp [4,5,6] (.call 174 (.cons (.var 0) (.cons (.var 1) (.cons (.var 2) (.cons (.var 3) .nil)))))) _) [some B.w,some (iW ls),some (.int f),some .non,none,none,none,none] ⟨h.n,h.n,h.os⟩)=_
 rw[zaa e2]
 have e4:ev (run F (k+2)) (.idx (.var 4) (.neg (.cst (.int (1))))) [some B.w,some (iW ls),some (.int f),some .non,some (iW (B.col f:: (B.fall ls f).cs)),some (iW (B.fall ls f).ts),some (iW (B.fall ls f).ls),none] ⟨h.n,h.n,h.os⟩=.ok (.int (lastC (B.col f) (B.fall ls f).cs)) ⟨h.n,h.n,h.os⟩:=by
  unfold iW
  simp only[ev,va4,vas,vaw,ofsome,bindok,idxW,el]
 have e5:exs (run F (k+2)) (.set 7 (.ite (.cmp .gt (.bi .len (.cons (.var 4) .nil)) (.bi .len (.cons (.idx (.var 0) (.cst (.int (2)))) .nil))) (.idx (.var 4) (.neg (.cst (.int (1))))) (.cst .non))) [some B.w,some (iW ls),some (.int f),some .non,some (iW (B.col f:: (B.fall ls f).cs)),some (iW (B.fall ls f).ts),some (iW (B.fall ls f).ls),none] ⟨h.n,h.n,h.os⟩=.ok (.nx [some B.w,some (iW ls),some (.int f),some .non,some (iW (B.col f:: (B.fall ls f).cs)),some (iW (B.fall ls f).ts),some (iW (B.fall ls f).ls),some (downW B ls f)]) ⟨h.n,h.n,h.os⟩:=by
  unfold downW
  rw[exs,ev,e3]
  cases z:(B.fall ls f).st with
  |true=>rfl
  |false=>simp only[vdh,bindok,e4];rfl
 rw[zaa e5]
 simp only[exs]
 rw[tup2 (x:=downW B ls f) (y:=iW (B.fall ls f).ls) rfl rfl]
 refine zaj (vac _) ?_
 unfold downW
 split<;>simp[iW_lt]
end
noncomputable abbrev Stn:=List Int×Option Nat
noncomputable def stW(s:Stn):W:=.tup [iW s.1,optW s.2]
noncomputable def dkS(s:Stn):DK:=(s.1,s.2.map λ(f:Nat)=>(f:Int))
theorem zhp:∀ls:List Int,mapO intD (ls.map .int)=some ls
 |[]=>rfl
 |x::ls=>by
  have h:=zhp ls
  rw[van]
  unfold mapO
  simp only[intD,h]
theorem zfg(s:Stn):keyD (stW s)=some (dkS s):=by
 obtain⟨ls,fo⟩:=s
 cases fo with
 |none=>simp[stW,iW,optW,keyD,zhp,dkS]
 |some f=>simp[stW,iW,optW,keyD,zhp,dkS]
theorem zvd(h:dkS s=dkS t):s=t:=by
 obtain⟨ls,fo⟩:=s
 obtain⟨ms,go⟩:=t
 unfold dkS at h
 have h1:=vdu Prod.fst h
 have h2:=vdu Prod.snd h
 simp only at h1 h2
 subst h1
 cases fo<;>cases go<;>simp at h2 ⊢
 omega
theorem zta{n:Nat}:W.lt n (stW s)=true:=by
 unfold stW
 simp[iW_lt,zo7]
noncomputable def GoodS(B:Bd)(s:Stn):Prop:=(s.1.length:Int)=B.gr/\Bits s.1/\∀f,s.2=some f->f<B.fd.length
noncomputable def nextS(B:Bd)(s:Stn):Option Stn:=match s.2 with
 |none=>none
 |some f=>some ((B.fall s.1 f).ls,callO B s.1 f)
theorem za5(b:B.Ok)(h:GoodS B s)(e:nextS B s=some t):GoodS B t:=by
 obtain⟨ls,fo⟩:=s
 obtain⟨hl,bi,hf⟩:=h
 cases fo with
 |none=>cases e
 |some f=>
  cases e
  have hf:=hf f rfl
  have q:=b.fall hf hl bi
  exact⟨by rw[q.l1];exact hl,q.l2,(zcd b hf hl bi).2⟩
noncomputable def posS(s:Stn):Nat->List Stn->Option Nat
 |_,[]=>none
 |i,x::xs=>if x=s then some i else posS s (i+1) xs
theorem zb3:∀{xs:List Stn} {i:Nat},posS s i xs=none->s∉xs
 |[],_,_=>λh=>nomatch h
 |x::xs,i,e=>by
  unfold posS at e
  split at e
  .cases e
  .rename_i hx
   intro h
   rcases vax.mp h with rfl|h
   .exact hx rfl
   .exact zb3 e h
theorem zbn(a:Int)(n:Nat):zan a (n+1)=.int a::zan (a+1) n:=rfl
theorem zhq:∀(xs:List Stn) (i:Nat),lookD (xs.map stW) (zan (i:Int) xs.length) (dkS s)=(posS s i xs).map λ(n:Nat)=>.int (n:Int)
 |[],i=>by unfold lookD posS;rfl
 |x::xs,i=>by
  rw[van,vaj,zbn]
  unfold lookD posS
  rw[zfg]
  by_cases e:x=s
  .rw[if_pos (by rw[e]),if_pos e];rfl
  .rw[if_neg (λz=>e (zvd (vbn z))),if_neg e]
   have:=zhq (s:=s) xs (i+1)
   rw[show((i:Int)+1)=((i+1:Nat):Int) by omega]
   exact this
theorem zd2:∀(n:Nat) (a:Int),zan a n++[.int (a+n)]=zan a (n+1)
 |0,a=>by show [W.int (a+0)]=[W.int a];rw[Int.add_zero]
 |n+1,a=>by
  rw[zbn,zbn a (n+1),vb7]
  have:=zd2 n (a+1)
  rw[show a+ ((n+1:Nat):Int)=a+1+ (n:Int) by omega,this]
noncomputable def everP(B:Bd):Nat->List Stn->Option Stn->List Stn×Option Nat
 |0,seen,_=>(seen,none)
 |_+1,seen,none=>(seen,none)
 |n+1,seen,some s=>match posS s 0 seen with
  |some i=>(seen,some i)
  |none=>everP B n (seen++[s]) (nextS B s)
theorem zpa{α:Type}[DecidableEq α]:∀{l m:List α},l.Nodup->(∀x∈l,x∈m)->l.length<=m.length
 |[],m,_,_=>vbk _
 |x::l,m,nd,h=>by
  have hx:=h x vam
  obtain⟨h1,h2⟩:=vdl.mp nd
  have:=zpa (m:=m.erase x) h2 λy hy=>(List.mem_erase_of_ne (show y≠x from λz=>h1 (z▸hy))).mpr (h y (vai _ hy))
  rw[List.length_erase_of_mem hx]at this
  have:0<m.length:=List.length_pos_of_mem hx
  rw[vaj];omega
noncomputable def zc0:Nat->List (List Int)
 |0=>[[]]
 |n+1=>(zc0 n).map (0 :: ·)++(zc0 n).map (1 :: ·)
theorem zfh:∀n,(zc0 n).length=2 ^ n
 |0=>rfl
 |n+1=>by
  unfold zc0
  rw[vaf,vad,vad,zfh n,Nat.pow_succ];omega
theorem zfi:∀{ls:List Int},Bits ls->ls∈zc0 ls.length
 |[],_=>vat.mpr rfl
 |x::ls,b=>by
  have:=zfi (ls:=ls) λy hy=>b y (vai _ hy)
  rw[vaj]
  unfold zc0
  rcases b x vam with rfl|rfl
  .exact vcq _ (vb1.mpr ⟨ls,this,rfl⟩)
  .exact va6 _ (vb1.mpr ⟨ls,this,rfl⟩)
noncomputable def zfj(fs:List (Option Nat)):List (List Int)->List Stn
 |[]=>[]
 |l::ls=>fs.map (λf=>(l,f))++zfj fs ls
theorem zgo(fs:List (Option Nat)):∀ls,(zfj fs ls).length=ls.length*fs.length
 |[]=>by simp[zfj]
 |l::ls=>by
  unfold zfj
  rw[vaf,vad,zgo fs ls,vaj,Nat.add_mul];omega
theorem zgp{fs:List (Option Nat)}{f:Option Nat}(hf:f∈fs):∀{ls},l∈ls->(l,f)∈zfj fs ls
 |x::ls,h=>by
  unfold zfj
  rcases vax.mp h with rfl|h
  .exact vcq _ (vb1.mpr ⟨f,hf,rfl⟩)
  .exact va6 _ (zgp hf h)
theorem few{B:Bd}(b:B.Ok){xs:List Stn}(nd:xs.Nodup)(g:∀s∈xs,GoodS B s):xs.length<=1280:=by
 have h:=zpa (m:=zfj [none,some 0,some 1,some 2,some 3] (zc0 B.gr.toNat)) nd λs hs=>by
  obtain⟨hl,bi,hf⟩:=g s hs
  obtain⟨ls,fo⟩:=s
  have e:B.gr.toNat=ls.length:=by simp only at hl;omega
  refine zgp ?_ (by rw[e];exact zfi bi)
  cases fo with
  |none=>simp
  |some f=>
   have:=hf f rfl
   have:=b.f2
   have:f=0\/f=1\/f=2\/f=3:=by omega
   rcases this with rfl|rfl|rfl|rfl<;>simp
 rw[zgo,zfh]at h
 have h8:B.gr.toNat<=8:=by have:=b.g2;omega
 have:2 ^ B.gr.toNat<=2 ^ 8:=Nat.pow_le_pow_right (by decide) h8
 have e5:([none,some 0,some 1,some 2,some 3]:List (Option Nat)).length=5:=rfl
 rw[e5]at h
 omega
theorem zd3(b:B.Ok):∀(n:Nat) (xs:List Stn) (c:Option Stn),xs.Nodup->(∀s∈xs,GoodS B s)->(∀s,c=some s->GoodS B s)->(everP B n xs c).1.Nodup/\∀s∈(everP B n xs c).1,GoodS B s
 |0,xs,c,nd,g,_=>⟨nd,g⟩
 |n+1,xs,none,nd,g,_=>⟨nd,g⟩
 |n+1,xs,some s,nd,g,gc=>by
  unfold everP
  split
  .exact⟨nd,g⟩
  .rename_i e
   have hs:=zb3 e
   refine zd3 b n (xs++[s]) (nextS B s) ?_ ?_ λt ht=>za5 b (gc s rfl) ht
   .rw[vcu]
    exact⟨nd,by simp,λa ha b hb=>by rw[vat.mp hb];exact λz=>hs (z▸ha)⟩
   .intro t ht
    rcases vbj.mp ht with ht|ht
    .exact g t ht
    .rw[vat.mp ht];exact gc s rfl
structure CoreE0(F:Nat->Option Fn):Prop extends CoreY0 F where
 f17:F 17=some fn17
 f27:F 27=some fn27
 f29:F 29=some fn29
 f176:F 176=some fn176
 f182:F 182=some fn182
section
variable{F:Nat->Option Fn}(C:CoreE0 F)
include C
theorem zi7{k:Nat}{f:Nat}(b:B.Ok)(hf:f<B.fd.length)(hl:(ls.length:Int)=B.gr)(bi:Bits ls):run F (k+4) 176 [B.w,iW ls,.int f,.non] h=.ok (.tup [outD B ls f,iW (B.fall ls f).ls]) h:=by
 rw[zaf C.f176 rfl]
 have e1:=zmo C.toCoreY0 (k:=k) (h:=⟨h.n,h.n,h.os⟩) b hf hl bi
 have q:=b.fall hf hl bi
 obtain⟨a1,a2⟩:=b.door q.c4.1 q.c4.2
 have e2:exs (run F (k+3)) (.unp [4,5] (.call 175 (.cons (.var 0) (.cons (.var 1) (.cons (.var 2) (.cons (.var 3) .nil)))))) [some B.w,some (iW ls),some (.int f),some .non,none,none,none] ⟨h.n,h.n,h.os⟩=.ok (.nx [some B.w,some (iW ls),some (.int f),some .non,some (downW B ls f),some (iW (B.fall ls f).ls),none]) ⟨h.n,h.n,h.os⟩:=by
  simp only[exs,ev,va4,vas,vaw,ofsome,bindok,e1,tgW,seqW,zaz,vau,vaq,vah]
 have i4:idxW ⟨h.n,h.n,h.os⟩ B.w (.int 4)=some (.tup B.dr):=rfl
 have e3:ev (run F (k+3)) (.ite (.cmp .isn (.var 4) (.cst .non)) (.cst (.tup [.non,.non])) (.idx (.idx (.var 0) (.cst (.int (4)))) (.var 4))) [some B.w,some (iW ls),some (.int f),some .non,some (downW B ls f),some (iW (B.fall ls f).ls),none] ⟨h.n,h.n,h.os⟩=.ok (outD B ls f) ⟨h.n,h.n,h.os⟩:=by
  unfold downW outD
  cases z:(B.fall ls f).st with
  |true=>simp[ev,cmpW,eqYs,isNon]
  |false=>
   have i5:idxW ⟨h.n,h.n,h.os⟩ (.tup B.dr) (.int (lastC (B.col f) (B.fall ls f).cs))=some (B.door (lastC (B.col f) (B.fall ls f).cs)):=a1
   simp[ev,cmpW,eqYs,isNon,i4,i5]
 show fin h (exs (run F (k+3)) fn176.body [some B.w,some (iW ls),some (.int f),some .non,none,none,none] ⟨h.n,h.n,h.os⟩)=_
 have eb:exs (run F (k+3)) fn176.body [some B.w,some (iW ls),some (.int f),some .non,none,none,none] ⟨h.n,h.n,h.os⟩=.ok (.rt (.tup [outD B ls f,iW (B.fall ls f).ls])) ⟨h.n,h.n,h.os⟩:=by
  refine(zaa e2).trans ?_
  refine(zaa (setE e3)).trans ?_
  exact zab (retE (tup2E (varE rfl) (varE rfl)))
 rw[eb]
 refine zaj (vac _) ?_
 obtain⟨oe,_⟩:=zcd b hf hl bi
 rw[oe]
 simp[iW_lt,zo7,zo3 b hf hl bi]
noncomputable def nextW(B:Bd)(s:Stn):W:=match nextS B s with
 |none=>.non
 |some t=>stW t
omit C in
theorem zrw{n:Nat}:W.lt n (nextW B s)=true:=by
 unfold nextW
 split
 .simp
 .exact zta
theorem zee{k:Nat}(b:B.Ok)(g:GoodS B s):run F (k+5) 182 [B.w,stW s] h=.ok (nextW B s) h:=by
 rw[zaf C.f182 rfl]
 obtain⟨ls,fo⟩:=s
 obtain⟨hl,bi,hf⟩:=g
 have e1:exs (run F (k+4)) (.unp [2,3] (.var 1)) [some B.w,some (stW (ls,fo)),none,none,none,none] ⟨h.n,h.n,h.os⟩=.ok (.nx [some B.w,some (stW (ls,fo)),some (iW ls),some (optW fo),none,none]) ⟨h.n,h.n,h.os⟩:=by
  simp only[stW,exs,ev,va4,vas,vaw,ofsome,bindok,tgW,seqW,zaz,vau,vaq,vah]
 show fin h (exs (run F (k+4)) fn182.body [some B.w,some (stW (ls,fo)),none,none,none,none] ⟨h.n,h.n,h.os⟩)=_
 have eb:exs (run F (k+4)) fn182.body [some B.w,some (stW (ls,fo)),none,none,none,none] ⟨h.n,h.n,h.os⟩=.ok (.rt (nextW B (ls,fo))) ⟨h.n,h.n,h.os⟩:=by
  refine(zaa e1).trans ?_
  cases fo with
  |none=>
   refine zab ?_
   rw[iteT (h1:=⟨h.n,h.n,h.os⟩) (by simp[ev,cmpW,eqYs,isNon,optW])]
   exact zab (retE (by simp[ev,nextW,nextS]))
  |some f=>
   have hf:=hf f rfl
   obtain⟨oe,og⟩:=zcd b hf hl bi
   have e2:=zi7 C (k:=k) (h:=⟨h.n,h.n,h.os⟩) b hf hl bi
   refine(zaa (ρ':=[some B.w,some (stW (ls,some f)),some (iW ls),some (optW (some f)),none,none]) (h':=⟨h.n,h.n,h.os⟩) ?_).trans ?_
   .rw[iteF (h1:=⟨h.n,h.n,h.os⟩) (by simp[ev,cmpW,eqYs,isNon,optW])];rfl
   have e3:exs (run F (k+4)) (.unp [4,5] (.call 176 (.cons (.var 0) (.cons (.var 2) (.cons (.var 3) (.cons (.cst .non) .nil)))))) [some B.w,some (stW (ls,some f)),some (iW ls),some (optW (some f)),none,none] ⟨h.n,h.n,h.os⟩=.ok (.nx [some B.w,some (stW (ls,some f)),some (iW ls),some (optW (some f)),some (outD B ls f),some (iW (B.fall ls f).ls)]) ⟨h.n,h.n,h.os⟩:=by
    have e2':run F (k+4) 176 [B.w,iW ls,optW (some f),.non] ⟨h.n,h.n,h.os⟩=.ok (.tup [outD B ls f,iW (B.fall ls f).ls]) ⟨h.n,h.n,h.os⟩:=e2
    simp only[exs,ev,va4,vas,vaw,ofsome,bindok,e2',tgW,seqW,zaz,vau,vaq,vah]
   refine(zaa e3).trans (zab (retE ?_))
   have e4:ev (run F (k+4)) (.idx (.var 4) (.cst (.int (1)))) [some B.w,some (stW (ls,some f)),some (iW ls),some (optW (some f)),some (outD B ls f),some (iW (B.fall ls f).ls)] ⟨h.n,h.n,h.os⟩=.ok (optW (callO B ls f)) ⟨h.n,h.n,h.os⟩:=by
    refine idxE (varE rfl) rfl ?_
    rw[oe];rfl
   exact tup2E (varE rfl) e4
 rw[eb]
 exact zaj (vac _) zrw
end
section
variable{F:Nat->Option Fn}(C:CoreE0 F)(B':CoreB F)
include C B'
theorem zfw{k:Nat}(b:B.Ok)(g:GoodS B s):run F (k+9) 29 [B.w,stW s] h=.ok .non h:=by
 obtain⟨ls,fo⟩:=s
 obtain⟨hl,bi,hf⟩:=g
 have hg:=b.g2
 have w0:∀h:VH,run F (k+7) 17 [iW ls,.int B.gr] h=.ok (.bl true) h:=by
  intro h
  rw[zaf C.f17 rfl]
  have e:=zbu B'.toCoreA (k:=k+3) (h:=⟨h.n,h.n,h.os⟩) (w:=iW ls) (a:=B.gr) (b:=B.gr) (lo:=0) (hi:=1) (by unfold Kn iW;simp) (λws e=>by
   cases e
   refine⟨by rw[vad];simp only at hl;omega,λx hx=>?_⟩
   obtain⟨y,_,rfl⟩:=vb1.mp hx
   unfold Kn;simp)
  rw[zo2 hl bi]at e
  simp[fn17,exs,ev,e,zaj]
 have wf:∀h:VH,run F (k+7) 12 [optW fo,.int B.fd.length] h=.ok (.bl true) h:=by
  intro h
  rw[zbw B' (k:=k+4) (w:=optW fo) (n:=B.fd.length) (by cases fo<;> (unfold Kn optW;simp))]
  have:fon (optW fo) B.fd.length=true:=by
   cases fo with
   |none=>rfl
   |some f=>
    have:=hf f rfl
    simp only[optW,fon,isNon,within,Bool.false_or,vab,va0]
    omega
  rw[this]
 have w1:∀h:VH,run F (k+8) 27 [B.w,.tup [iW ls,optW fo]] h=.ok (.bl true) h:=by
  intro h
  rw[zaf C.f27 rfl]
  have e:=zhi B' (k:=k) (h:=⟨h.n,h.n,h.os⟩) b
  have e6:=zam B'.toCoreA (k:=k+6) (h:=⟨h.n,h.n,h.os⟩) (w:=.tup [iW ls,optW fo]) (lo:=2) (hi:=2) (by unfold Kn;simp)
  have t6:zar (.tup [iW ls,optW fo]) 2 2=true:=rfl
  rw[t6]at e6
  have i1:idxW ⟨h.n,h.n,h.os⟩ B.w (.int 1)=some (.int B.gr):=rfl
  have i3:idxW ⟨h.n,h.n,h.os⟩ B.w (.int 3)=some (.tup B.fd):=rfl
  have eb:exs (run F (k+7)) fn27.body [some B.w,some (.tup [iW ls,optW fo]),none,none] ⟨h.n,h.n,h.os⟩=.ok (.rt (.bl true)) ⟨h.n,h.n,h.os⟩:=by
   refine(zaa (ρ':=[some B.w,some (.tup [iW ls,optW fo]),none,none]) (h':=⟨h.n,h.n,h.os⟩) (by simp[exs,ev,e])).trans ?_
   refine(zaa (ρ':=[some B.w,some (.tup [iW ls,optW fo]),none,none]) (h':=⟨h.n,h.n,h.os⟩) (by simp[exs,ev,e6])).trans ?_
   refine(zaa (ρ':=[some B.w,some (.tup [iW ls,optW fo]),some (iW ls),some (optW fo)]) (h':=⟨h.n,h.n,h.os⟩) (by simp[exs,ev,tgW,seqW,zaz])).trans ?_
   refine zab (retE ?_)
   rw[ev,zas (varE rfl) (idxE (varE rfl) rfl i1) (w0 _),bindok]
   exact zas (varE rfl) (lenE (idxE (varE rfl) rfl i3) rfl) (wf _)
  show fin h (exs (run F (k+7)) fn27.body [some B.w,some (.tup [iW ls,optW fo]),none,none] ⟨h.n,h.n,h.os⟩)=_
  rw[eb]
  exact zaj (vac _) (by simp)
 rw[zaf C.f29 rfl]
 have w2:run F (k+8) 27 [B.w,stW (ls,fo)] ⟨h.n,h.n,h.os⟩=.ok (.bl true) ⟨h.n,h.n,h.os⟩:=w1 _
 simp[fn29,exs,ev,w2,zs0]
end
noncomputable def stD(h:VH)(xs:List Stn):VH:=⟨h.n+1,h.n,.dt (xs.map stW) (zan 0 xs.length)::h.os⟩
theorem zce:(stD h xs).get h.n=some (.dt (xs.map stW) (zan 0 xs.length)):=zal (h:=h)
theorem zpb:(stD h xs).set h.n (.dt (xs.map stW++[stW s]) (zan 0 xs.length++[.int xs.length]))=stD h (xs++[s]):=by
 have e:=zd2 xs.length 0
 rw[Int.zero_add]at e
 unfold VH.set stD
 simp only[zbx (vac h.n),vb5,van,vcc,vaf,vaj,vcm,e]
 have:h.n+1-1-h.n=0:=by omega
 rw[this];rfl
noncomputable def optS:Option Stn->W
 |none=>.non
 |some s=>stW s
theorem zi8:nextW B s=optS (nextS B s):=by
 unfold nextW optS
 cases nextS B s<;>rfl
noncomputable def backW:Option Nat->W
 |none=>.non
 |some i=>.int (i:Int)
theorem in_st{a:Nat}(g:h.get a=some (.dt (xs.map stW) (zan 0 xs.length))):inW h (stW s) (.ref a)=some (posS s 0 xs).isSome:=by
 have e:seqW h (.ref a)=none:=by simp[seqW,g]
 have:lookD (xs.map stW) (zan 0 xs.length) (dkS s)=_:=zhq (s:=s) xs 0
 unfold inW
 rw[e]
 simp only[inD,g,zfg,this]
 cases posS s 0 xs<;>rfl
theorem ztb{a:Nat}{i:Nat}(g:h.get a=some (.dt (xs.map stW) (zan 0 xs.length)))(e:posS s 0 xs=some i):idxW h (.ref a) (stW s)=some (.int (i:Int)):=by
 have:lookD (xs.map stW) (zan 0 xs.length) (dkS s)=_:=zhq (s:=s) xs 0
 show idxD h a (stW s)=_
 simp only[idxD,g,zfg,this,e];rfl
theorem zpc{cl:Call}{ρ:En}{h:VH}{i a:Nat}{xs:List Stn}(hρ:ρ[i]?=some (some (.ref a)))(g:h.get a=some (.dt (xs.map stW) (zan 0 xs.length))):ev cl (.bi .len (.cons (.var i) .nil)) ρ h=.ok (.int xs.length) h:=by
 have e:seqW h (.ref a)=none:=by simp[seqW,g]
 have hv:ev cl (.cons (.var i) .nil) ρ h=.ok (.tup [.ref a]) h:=by
  rw[ev,varE hρ,bindok,ev];rfl
 rw[ev,hv,bindok]
 show lenW [.ref a] h=_
 simp only[lenW,e,keysD,g,vah,ofsome,vad]
theorem putE{ρ:En}{a:Nat}(ev1:ev cl v ρ h=.ok w h1)(ev2:ev cl o ρ h1=.ok (.ref a) h2)(ev3:ev cl i ρ h2=.ok (stW s) h3)(g:h3.get a=some (.dt (xs.map stW) (zan 0 xs.length)))(hn:posS s 0 xs=none)(hl:xs.length<=100000) :
 exs cl (.put o i v) ρ h=.ok (.nx ρ) (h3.set a (.dt (xs.map stW++[stW s]) (zan 0 xs.length++[w]))):=by
 have:lookD (xs.map stW) (zan 0 xs.length) (dkS s)=_:=zhq (s:=s) xs 0
 rw[hn]at this
 rw[exs,ev1,bindok,ev2,bindok,ev3,bindok]
 show putD ρ a (stW s) w h3=_
 have hb:Nat.blt (xs.map stW).length big=true:=zov (by rw[vad];omega)
 simp only[putD,g,zfg,this,hb]
 rfl
theorem zpd:isNon (stW s)=false:=rfl
structure CoreX(F:Nat->Option Fn):Prop extends CoreL F where
 f112:F 112=some fn112
 f117:F 117=some fn117
section
variable{F:Nat->Option Fn}(C:CoreX F)
include C
theorem zrx{k:Nat}{h:VH}{f:Nat}(b:B.Ok)(hf:f<B.fd.length)(hl:(ls.length:Int)=B.gr)(bi:Bits ls) :
 run F (k+2) 117 [B.w,stW (ls,some f)] h=.ok (.tup [nameP B ls f,stW ((B.fall ls f).ls,callO B ls f)]) h:=by
 rw[zaf C.f117 rfl]
 obtain⟨c1,c2,c3⟩:=b.col hf
 obtain⟨i,h1,e1,g1,w1⟩:=zrt C.toCoreL (k:=k) (h:=⟨h.n,h.n,h.os⟩) (B:=B) (ls:=ls) (vac _) c1 c2 c3 (b.rows hl) b.r1 bi
 have q:=b.fall hf hl bi
 obtain⟨oe,og⟩:=zcd b hf hl bi
 have e2:exs (run F (k+1)) (.unp [2,3,4,5] (.call 38 (.cons (.var 0) (.cons (.idx (.var 1) (.cst (.int (0)))) (.cons (.idx (.var 1) (.cst (.int (1)))) .nil))))) [some B.w,some (stW (ls,some f)),none,none,none,none,none,none] ⟨h.n,h.n,h.os⟩ =
  .ok (.nx [some B.w,some (stW (ls,some f)),some (iW (B.col f:: (B.fall ls f).cs)),some (iW (B.fall ls f).ts),some (iW (B.fall ls f).ls),some (.bl (B.fall ls f).st),none,none]) h1:=by
  have e3:=zed (cl:=run F (k+1)) (ρ:=[some B.w,some (stW (ls,some f)),none,none,none,none,none,none]) (h:=⟨h.n,h.n,h.os⟩) (n:=38) (a:=.var 0) (b:=.idx (.var 1) (.cst (.int (0)))) (c:=.idx (.var 1) (.cst (.int (1)))) (varE rfl) (idxE (varE rfl) rfl (show idxW _ (stW (ls,some f)) (.int 0)=some (iW ls)from rfl)) (idxE (varE rfl) rfl (show idxW _ (stW (ls,some f)) (.int 1)=some (.int f)from rfl)) e1
  rw[exs,e3,bindok]
  simp only[tgW,seqW,g1,zaz,vau,vaq,vah,ofsome]
  rfl
 show fin h (exs (run F (k+1)) fn117.body [some B.w,some (stW (ls,some f)),none,none,none,none,none,none] ⟨h.n,h.n,h.os⟩)=_
 have hb:exs (run F (k+1)) fn117.body [some B.w,some (stW (ls,some f)),none,none,none,none,none,none] ⟨h.n,h.n,h.os⟩=.ok (.rt (.tup [nameP B ls f,stW ((B.fall ls f).ls,callO B ls f)])) h1:=by
  refine(zaa e2).trans ?_
  cases z:(B.fall ls f).st with
  |true=>
   have ho:outD B ls f=.tup [.non,.non]:=by unfold outD;rw[if_pos z]
   rw[ho]at oe
   simp only[W.tup.injEq,vd4,and_true]at oe
   obtain⟨o1,o2⟩:=oe
   refine zab ?_
   rw[iteT (h1:=h1) (by simp[ev,truW])]
   refine(zab (w:=.tup [.non,.tup [iW (B.fall ls f).ls,.non]]) (h':=h1) (retE (tup2E (h1:=h1) rfl (tup2E (varE rfl) rfl)))).trans ?_
   rw[<-o1]
   unfold stW
   rw[<-o2]
  |false=>
   have ho:outD B ls f=B.door (lastC (B.col f) (B.fall ls f).cs):=by unfold outD;rw[z];rfl
   obtain⟨a1,a2⟩:=b.door q.c4.1 q.c4.2
   refine(zaa (ρ':=[some B.w,some (stW (ls,some f)),some (iW (B.col f:: (B.fall ls f).cs)),some (iW (B.fall ls f).ts),some (iW (B.fall ls f).ls),some (.bl false),none,none]) (h':=h1) ?_).trans ?_
   .rw[iteF (h1:=h1) (by simp[ev,truW])];rfl
   have el:=zo1 (cs:=(B.fall ls f).cs) (c:=B.col f)
   have e4:ev (run F (k+1)) (.idx (.idx (.var 0) (.cst (.int (4)))) (.idx (.var 2) (.neg (.cst (.int (1)))))) [some B.w,some (stW (ls,some f)),some (iW (B.col f:: (B.fall ls f).cs)),some (iW (B.fall ls f).ts),some (iW (B.fall ls f).ls),some (.bl false),none,none] h1=.ok (.tup [nameP B ls f,optW (callO B ls f)]) h1:=by
    rw[<-oe,ho]
    exact idxE (idxE (varE rfl) rfl (show idxW h1 B.w (.int 4)=some (.tup B.dr)from rfl)) (idxE (varE rfl) rfl (show idxW h1 (iW (B.col f:: (B.fall ls f).cs)) (.int (-1))=_ from el)) a1
   refine(zaa (ρ':=[some B.w,some (stW (ls,some f)),some (iW (B.col f:: (B.fall ls f).cs)),some (iW (B.fall ls f).ts),some (iW (B.fall ls f).ls),some (.bl false),some (nameP B ls f),some (optW (callO B ls f))]) (h':=h1) ?_).trans ?_
   .rw[exs,e4,bindok]
    simp only[tgW,seqW,zaz,vau,vaq,vah,ofsome]
   .exact zab (retE (tup2E (varE rfl) (tup2E (varE rfl) (varE rfl))))
 rw[hb]
 exact zrq (n:=0) w1 λm=>by
  have h1:=zta (n:=m) (s:=((B.fall ls f).ls,callO B ls f))
  have h2:=zo3 b hf hl bi m
  simp[h1,h2]
noncomputable def stE(h:VH)(xs:List Stn)(ns:List W):VH:=⟨h.n+3,h.n,.lst ns :: .dt (xs.map stW) (zan 0 xs.length) :: .lst (xs.map stW)::h.os⟩
omit C in
theorem stE_s:(stE h xs ns).get h.n=some (.lst (xs.map stW)):=by
 unfold VH.get stE
 rw[if_pos (zao.mpr (show h.n<h.n+3 by omega)),show h.n+3-1-h.n=2 by omega];rfl
omit C in
theorem stE_d:(stE h xs ns).get (h.n+1)=some (.dt (xs.map stW) (zan 0 xs.length)):=by
 unfold VH.get stE
 rw[if_pos (zao.mpr (show h.n+1<h.n+3 by omega)),show h.n+3-1- (h.n+1)=1 by omega];rfl
omit C in
theorem stE_n:(stE h xs ns).get (h.n+2)=some (.lst ns):=by
 unfold VH.get stE
 rw[if_pos (zao.mpr (show h.n+2<h.n+3 by omega)),show h.n+3-1- (h.n+2)=0 by omega];rfl
omit C in
theorem zry:(stE h xs ns).set (h.n+2) (.lst ms)=stE h xs ms:=by
 unfold VH.set stE
 simp only[zbx (show h.n<=h.n+2 by omega)]
 rw[show h.n+3-1- (h.n+2)=0 by omega];rfl
omit C in
theorem zve:(((stE h xs ns).set (h.n+1) (.dt (xs.map stW++[stW s]) (zan 0 xs.length++[.int xs.length]))).set h.n (.lst (xs.map stW++[stW s])))=stE h (xs++[s]) ns:=by
 have e:=zd2 xs.length 0
 rw[Int.zero_add]at e
 unfold VH.set stE
 simp only[zbx (show h.n<=h.n+1 by omega),vap,vbl,zbx (vac h.n),vb5,van,vcc,vaf,vaj,vcm,e]
 rw[show h.n+3-1- (h.n+1)=1 by omega,show h.n+3-1-h.n=2 by omega];rfl
omit C in
theorem zln:((stE h xs ns).set (h.n+1) o).get h.n=some (.lst (xs.map stW)):=by
 rw[zag stE_d (by omega)];exact stE_s
omit C in
theorem zpe(e:xs.getLast?=some s){ρ:En}(hρ:ρ[2]?=some (some (.ref h.n))):ev cl (.idx (.var 2) (.neg (.cst (.int (1))))) ρ (stE h xs ns)=.ok (stW s) (stE h xs ns):=by
 refine idxE (varE hρ) rfl ?_
 have hl:xs.length≠0:=λz=>by rw[List.length_eq_zero_iff.mp z]at e;cases e
 have:atI (xs.map stW) (-1)=some (stW s):=by
  unfold atI ixN
  rw[vad,if_neg (by decide),if_pos (by omega)]
  rw[List.getLast?_eq_getElem?]at e
  show(xs.map stW)[((xs.length:Int) + -1).toNat]?=_
  rw[show((xs.length:Int) + -1).toNat=xs.length-1 by omega,vbf,e];rfl
 simp only[idxW,stE_s]
 exact this
end
theorem zvf{i:Nat}(hi:i<h.n):(stE h xs ns).get i=h.get i:=by
 unfold VH.get stE
 rw[if_pos (zao.mpr (show i<h.n+3 by omega)),if_pos (zao.mpr hi),show h.n+3-1-i=(h.n-1-i)+3 by omega];rfl
theorem zmp(n:Nat):everP B (n+1) [] (some s)=everP B n [s] (nextS B s):=rfl
structure Gx(h h':VH):Prop where
 le:h.n<=h'.n
 lo:h.lo=h.n->h'.lo=h.n
 get:∀i o,h.get i=some o->h'.get i=some o
noncomputable def nestN:Nat->W->Bool
 |_,.int _=>true
 |_,.non=>true
 |n+1,.tup ws=>Nat.ble ws.length 5000&&ws.all (nestN n)
 |_,_=>false
theorem allE{ρ:En}{j:Nat}{n:Nat}(ea:ev cl a ρ h=.ok (.ref j) h1)(g:h1.get j=some (.lst (List.replicate n (.bl true)))):ev cl (.bi .all (.cons a .nil)) ρ h=.ok (.bl true) h1:=by
 have hm:mapO blW (List.replicate n (W.bl true))=some (List.replicate n true):=by
  clear g
  induction n with
  |zero=>rfl
  |succ n ih=>simp only[vbs,mapO,blW,ih]
 have ha:(List.replicate n true).all id=true:=by
  rw[vbp];intro x hx;exact(List.mem_replicate.mp hx).2
 rw[ev,ev,ea,bindok,ev,bindok,bindok]
 show allW [.ref j] h1=_
 simp only[allW,g,hm,vah,ha,ofsome]
theorem zpf:∀(ws:List W) (x y:Option W) (h:VH),(∀w∈ws,∀h,ev cl e [some w,some w] h=.ok (.bl true) h)->lcL (tgW (.many [0,1])) (λ_ h=>.ok (.bl true) h) (ev cl e) (zipW ws ws) [x,y] h=.ok (List.replicate ws.length (.bl true)) h
 |[],x,y,h,_=>rfl
 |a::ws,x,y,h,hs=>by
  have e1:=hs a vam h
  have e2:=zpf (e:=e) ws (some a) (some a) h λw hw=>hs w (vai _ hw)
  show lcL _ _ _ (.tup [a,a]::zipW ws ws) _ _=_
  simp only[lcL,tgW,seqW,zaz,List.set,bindok,e1,e2];rfl
structure CoreM(F:Nat->Option Fn):Prop where
 f39:F 39=some fn39
 f92:F 92=some fn92
noncomputable def seg(f:Nat->Int):Nat->Nat->List Int
 |_,0=>[]
 |a,n+1=>f a::seg f (a+1) n
theorem zbc(f:Nat->Int):∀(n a:Nat),(seg f a n).length=n
 |0,_=>rfl
 |n+1,a=>by rw[seg,vaj,zbc f n]
theorem zcf(f:Nat->Int):∀(m n a:Nat),seg f a (m+n)=seg f a m++seg f (a+m) n
 |0,n,a=>by rw[vb2];rfl
 |m+1,n,a=>by
  rw[show m+1+n=(m+n)+1 by omega,seg,seg,vb7,zcf f m n (a+1),show a+1+m=a+ (m+1) by omega]
theorem zbz{f g:Nat->Int}:∀{n a b:Nat},(∀j,j<n->f (a+j)=g (b+j))->seg f a n=seg g b n
 |0,_,_,_=>rfl
 |n+1,a,b,h=>by
  rw[seg,seg,show f a=g b from h 0 (by omega)]
  rw[zbz (n:=n) (a:=a+1) (b:=b+1) λj hj=>by
   have:=h (j+1) (by omega)
   rw[show a+1+j=a+ (j+1) by omega,show b+1+j=b+ (j+1) by omega];exact this]
theorem zpg{f g:Nat->Int}:∀{n a b:Nat},seg f a n=seg g b n->∀j,j<n->f (a+j)=g (b+j)
 |0,_,_,_,j,hj=>by omega
 |n+1,a,b,h,j,hj=>by
  rw[seg,seg,vd4]at h
  cases j with
  |zero=>exact h.1
  |succ j=>
   have:=zpg h.2 j (by omega)
   rw[show a+1+j=a+ (j+1) by omega,show b+1+j=b+ (j+1) by omega]at this;exact this
theorem zkf(f:Nat->Int):∀(n a j:Nat),j<n->(seg f a n)[j]?=some (f (a+j))
 |0,_,_,h=>by omega
 |n+1,a,0,_=>rfl
 |n+1,a,j+1,h=>by
  rw[seg,vas,zkf f n (a+1) j (by omega),show a+1+j=a+ (j+1) by omega]
theorem zlo(f:Nat->Int)(a n:Nat):seg f a (n+1)=seg f a n++[f (a+n)]:=zcf f n 1 a
theorem zdl(f:Nat->Int){a m n:Nat}(h:m<=n):(seg f a n).take m=seg f a m:=by
 obtain⟨k,rfl⟩:=Nat.le.dest h
 rw[zcf,vej (zbc f m a)]
theorem zhr(f:Nat->Int){a m n:Nat}(h:m<=n):(seg f a n).drop m=seg f (a+m) (n-m):=by
 obtain⟨k,rfl⟩:=Nat.le.dest h
 rw[zcf,vek (zbc f m a),show m+k-m=k by omega]
noncomputable def Prd(g:Nat->Int)(s:Nat):Prop:=∀j,g (j+s)=g j
theorem zi9{g:Nat->Int}{s:Nat}(h:Prd g s):∀k j,g (j+s*k)=g j
 |0,j=>by rw[Nat.mul_zero];rfl
 |k+1,j=>by rw[Nat.mul_succ,<-ves,h,zi9 h k]
theorem ztc{g:Nat->Int}{s:Nat}(h:Prd g s)(j:Nat):g (j % s)=g j:=by
 have:=zi9 h (j/s) (j % s)
 rw[Nat.mod_add_div]at this;exact this.symm
theorem pr_of{g:Nat->Int}{R s:Nat}(hR:Prd g R)(h0:0<R)(hs:s ∣ R)(h:∀j,j<R->g j=g (j % s)):Prd g s:=by
 have key:∀j,g j=g (j % s):=λj=>by
  rw[<-ztc hR j,h _ (Nat.mod_lt _ h0),Nat.mod_mod_of_dvd _ hs]
 intro j
 rw[key (j+s),Nat.add_mod_right,<-key j]
theorem zvg{g:Nat->Int}{R s:Nat}(hR:Prd g R)(h0:0<R)(h:∀j,j<R->g j=g (j+s)):Prd g s:=by
 intro j
 have e1:=h _ (Nat.mod_lt j h0)
 rw[ztc hR j]at e1
 have e2:=zi9 hR (j/R) (j % R+s)
 rw[show j % R+s+R* (j/R)=j+s by have:=Nat.mod_add_div j R;omega]at e2
 rw[e2,<-e1]
theorem zph{p:Nat->Prop}:∀n,p n->∃m,p m/\m<=n/\∀k,k<m->¬p k:=by
 intro n
 induction n using Nat.strongRecOn with
 |_ n ih=>
  intro hn
  by_cases h:∃k,k<n/\p k
  .obtain⟨k,h1,h2⟩:=h
   obtain⟨m,a,b,c⟩:=ih k h1 h2
   exact⟨m,a,by omega,c⟩
  .exact⟨n,hn,vac _,λk hk hp=>h ⟨k,hk,hp⟩⟩
structure Least(g:Nat->Int)(R q:Nat):Prop where
 q0:1<=q
 q1:q<=R
 pr:Prd g q
 no:∀s,1<=s->s<q->¬Prd g s
 dv:q ∣ R
theorem zrz{g:Nat->Int}{R:Nat}(hR:Prd g R)(h0:1<=R):∃q,Least g R q:=by
 obtain⟨q,⟨h1,h2⟩,h3,h4⟩:=zph (p:=λs=>1<=s/\Prd g s) R ⟨h0,hR⟩
 refine⟨q,h1,h3,h2,λs a b c=>h4 s b ⟨a,c⟩,?_⟩
 apply Nat.dvd_of_mod_eq_zero
 by_cases hz:R % q=0
 .exact hz
 .refine absurd ⟨by omega,λj=>?_⟩ (h4 (R % q) (Nat.mod_lt _ (by omega)))
  have e:=zi9 h2 (R/q) (j+R % q)
  rw[show j+R % q+q* (R/q)=j+R by have:=Nat.mod_add_div R q;omega,hR]at e
  exact e.symm
theorem zkg(g:Nat->Int){s:Nat}(h:Prd g s):∀k,(List.replicate k (seg g 0 s)).flatten=seg g 0 (k*s)
 |0=>by rw[Nat.zero_mul];rfl
 |k+1=>by
  rw[vbs,vcg,zkg g h k,show(k+1)*s=s+k*s by rw[Nat.add_mul];omega,zcf]
  congr 1
  exact zbz λj _=>by rw[vb2,vb2,show s+j=j+s by omega,h]
theorem ztd{g:Nat->Int}{R s:Nat}(hR:Prd g R)(h0:1<=R)(hs:s ∣ R)(s0:1<=s):(List.replicate (R/s) (seg g 0 s)).flatten=seg g 0 R↔Prd g s:=by
 have hm:R/s*s=R:=Nat.div_mul_cancel hs
 have e1:seg g 0 s=seg (λj=>g (j % s)) 0 s:=zbz λj hj=>by rw[vb2,Nat.mod_eq_of_lt hj]
 have p:Prd (λj=>g (j % s)) s:=λj=>by show g ((j+s) % s)=g (j % s);rw[Nat.add_mod_right]
 constructor
 .intro h
  rw[e1,zkg _ p,hm]at h
  exact pr_of hR (by omega) hs λj hj=>by
   have:=zpg h j hj
   rw[vb2]at this;exact this.symm
 .intro h
  rw[zkg _ h,hm]
noncomputable def leadP(f:Nat->Int)(q:Nat):Nat->Nat
 |0=>0
 |n+1=>if f n=f (n+q)then leadP f q n else n+1
theorem zhs(f:Nat->Int)(q:Nat):∀n,leadP f q n<=n
 |0=>vac _
 |n+1=>by
  unfold leadP
  split
  .have:=zhs f q n;omega
  .exact vac _
theorem zja(f:Nat->Int)(q:Nat):∀n j,leadP f q n<=j->j<n->f j=f (j+q)
 |0,j,_,h=>by omega
 |n+1,j,h1,h2=>by
  unfold leadP at h1
  split at h1
  .rename_i e
   by_cases z:j=n
   .rw[z];exact e
   .exact zja f q n j h1 (by omega)
  .omega
theorem zfk(f:Nat->Int)(q:Nat){i:Nat}:∀n,i<=n->(∀j,i<=j->j<n->f j=f (j+q))->leadP f q n=leadP f q i
 |0,h,_=>by rw[show i=0 by omega]
 |n+1,h,e=>by
  by_cases z:i=n+1
  .rw[z]
  .rw[leadP,if_pos (e n (by omega) (by omega)),zfk f q n (by omega) λj a b=>e j a (by omega)]
noncomputable def zad(v:List Int)(i R n:Nat):Int:=if n<i then v.getD n 0 else v.getD (i+ (n-i) % R) 0
theorem zdm(v:List Int)(i R:Nat):Prd (λj=>zad v i R (i+j)) R:=λj=>by
 show zad v i R (i+ (j+R))=zad v i R (i+j)
 unfold zad
 rw[if_neg (by omega),if_neg (by omega),show i+ (j+R)-i=j+R by omega,show i+j-i=j by omega,Nat.add_mod_right]
theorem zd4{i R:Nat}(h:v.length=i+R):seg (zad v i R) 0 (i+R)=v:=by
 apply List.ext_getElem?
 intro j
 by_cases hj:j<i+R
 .rw[zkf _ _ _ _ hj,vb2,vav (by omega)]
  unfold zad
  split
  .rw[vbz,vav (by omega)];rfl
  .rw[Nat.mod_eq_of_lt (by omega),show i+ (j-i)=j by omega,vbz,vav (by omega)];rfl
 .rw[vc3 (by rw[zbc];omega),vc3 (by omega)]
theorem zc1{i R:Nat}(h:v.length=i+R)(k:Nat):seg (zad v i R) (i+R*k) R=v.drop i:=by
 rw[show v.drop i=(seg (zad v i R) 0 (i+R)).drop i by rw[zd4 h],zhr _ (by omega),vb2,show i+R-i=R by omega]
 exact zbz λj _=>by
  have:=zi9 (zdm v i R) k j
  rw[show i+R*k+j=i+ (j+R*k) by omega];exact this
theorem zkh{i R:Nat}(h:v.length=i+R):seg (zad v i R) 0 (i+R+R+R+R)=v++v.drop i++v.drop i++v.drop i:=by
 have e1:=zc1 h 1
 have e2:=zc1 h 2
 have e3:=zc1 h 3
 rw[zcf,zcf,zcf,zd4 h]
 simp only[vb2]
 rw[show i+R=i+R*1 by omega,e1,show i+R*1+R=i+R*2 by omega,e2,show i+R*2+R=i+R*3 by omega,e3]
theorem zlp{i R q:Nat}(h0:1<=R):leadP (zad v i R) q (i+R+q)<=i↔Prd (λj=>zad v i R (i+j)) q:=by
 constructor
 .intro h
  exact zvg (zdm v i R) (by omega) λj hj=>by
   have:=zja (zad v i R) q (i+R+q) (i+j) (by omega) (by omega)
   rw[show i+ (j+q)=i+j+q by omega];exact this
 .intro h
  rw[zfk _ q (i:=i) (i+R+q) (by omega) λj a b=>by
   have:=h (j-i)
   simp only at this
   rw[show i+ (j-i+q)=j+q by omega,show i+ (j-i)=j by omega]at this
   exact this.symm]
  exact zhs _ q i
theorem zr0{i R q:Nat}(h:Prd (λj=>zad v i R (i+j)) q):leadP (zad v i R) q (i+R+q)=leadP (zad v i R) q i:=
 zfk _ q (i:=i) (i+R+q) (by omega) λj a b=>by
  have:=h (j-i)
  simp only at this
  rw[show i+ (j-i+q)=j+q by omega,show i+ (j-i)=j by omega]at this
  exact this.symm
noncomputable def nmS(B:Bd)(s:Stn):W:=match s.2 with
 |none=>.non
 |some f=>nameP B s.1 f
noncomputable def nmL(B:Bd)(xs:List Stn):List W:=xs.dropLast.map (nmS B)
theorem zfl{α:Type}:∀{xs:List α} {x:α},xs.getLast?=some x->xs.dropLast++[x]=xs
 |[],_,h=>by cases h
 |[y],x,h=>by cases h;rfl
 |y::z::xs,x,h=>by
  have:=zfl (xs:=z::xs) (x:=x) (by simpa using h)
  rw[List.dropLast_cons₂,vb7,this]
theorem zvh{f:Nat}(h:xs.getLast?=some (ls,some f)):nmL B xs++[nameP B ls f]=xs.map (nmS B):=by
 have e:xs.dropLast++[(ls,some f)]=xs:=zfl h
 unfold nmL
 conv=>rhs;rw[<-e]
 rw[vb5];rfl
theorem zvi:nmL B (xs++[t])=xs.map (nmS B):=by
 unfold nmL
 rw[List.dropLast_concat]
section
variable{F:Nat->Option Fn}(C:CoreX F)
include C
theorem zjb{k:Nat}{h:VH}{s0:W}(b:B.Ok):∀(n fu:Nat) (xs:List Stn) (s:Stn) (x y:Option W),n<fu->1281<=n+xs.length->xs.Nodup->(∀s∈xs,GoodS B s)->xs.getLast?=some s->
 ∃x' y',(whlG (ev (run F (k+2)) zbi) (exs (run F (k+2)) za1) fu [some B.w,some s0,some (.ref h.n),some (.ref (h.n+1)),some (.ref (h.n+2)),x,y] (stE h xs (nmL B xs))=.ok (.nx [some B.w,some s0,some (.ref h.n),some (.ref (h.n+1)),some (.ref (h.n+2)),x',y']) (stE h (everP B n xs (nextS B s)).1 (nmL B (everP B n xs (nextS B s)).1))/\(everP B n xs (nextS B s)).2=none)\/
  ∃i,(everP B n xs (nextS B s)).2=some i/\whlG (ev (run F (k+2)) zbi) (exs (run F (k+2)) za1) fu [some B.w,some s0,some (.ref h.n),some (.ref (h.n+1)),some (.ref (h.n+2)),x,y] (stE h xs (nmL B xs))=.ok (.rt (.ref (h.n+3))) ((stE h (everP B n xs (nextS B s)).1 ((everP B n xs (nextS B s)).1.map (nmS B))).new (.lst [.ref h.n,.ref (h.n+2),.int (i:Int)]))
 |n,0,xs,s,x,y,hn,_,_,_,_=>by omega
 |0,fu+1,xs,s,x,y,_,hN,nd,g,_=>by have:=few b nd g;omega
 |n+1,fu+1,xs,s,x,y,hn,hN,nd,g,hs=>by
  obtain⟨ls,fo⟩:=s
  have hmem:(ls,fo)∈xs:=List.mem_of_getLast? hs
  obtain⟨hl,bi,hf⟩:=g _ hmem
  have hfew:=few b nd g
  have e0:ev (run F (k+2)) (.idx (.idx (.var 2) (.neg (.cst (.int (1))))) (.cst (.int (1)))) [some B.w,some s0,some (.ref h.n),some (.ref (h.n+1)),some (.ref (h.n+2)),x,y] (stE h xs (nmL B xs))=.ok (optW fo) (stE h xs (nmL B xs)):=idxE (zpe hs rfl) rfl rfl
  have ec:ev (run F (k+2)) zbi [some B.w,some s0,some (.ref h.n),some (.ref (h.n+1)),some (.ref (h.n+2)),x,y] (stE h xs (nmL B xs))=.ok (.bl (!isNon (optW fo))) (stE h xs (nmL B xs)):=by
   unfold zbi
   rw[ev,e0,bindok]
   simp[ev,cmpW,eqYs,zbm]
  cases fo with
  |none=>
   refine⟨x,y,.inl ⟨?_,rfl⟩⟩
   rw[whlG,ec,bindok];rfl
  |some f=>
   have hf:=hf f rfl
   have gt:GoodS B ((B.fall ls f).ls,callO B ls f):=za5 b (s:=(ls,some f)) ⟨hl,bi,λ_ e=>by cases e;exact hf⟩ rfl
   have e1:=zrx C (k:=k) (h:=stE h xs (nmL B xs)) b hf hl bi
   generalize ht:((B.fall ls f).ls,callO B ls f)=t at e1 gt
   have hnx:nextS B (ls,some f)=some t:=by rw[<-ht];rfl
   have e2:exs (run F (k+2)) (.unp [5,6] (.call 117 (.cons (.var 0) (.cons (.idx (.var 2) (.neg (.cst (.int (1))))) .nil)))) [some B.w,some s0,some (.ref h.n),some (.ref (h.n+1)),some (.ref (h.n+2)),x,y] (stE h xs (nmL B xs))=.ok (.nx [some B.w,some s0,some (.ref h.n),some (.ref (h.n+1)),some (.ref (h.n+2)),some (nameP B ls f),some (stW t)]) (stE h xs (nmL B xs)):=by
    rw[exs,zas (varE rfl) (zpe hs rfl) e1,bindok]
    simp only[tgW,seqW,zaz,vau,vaq,vah,ofsome]
   have e3:=zbb (cl:=run F (k+2)) (i:=4) (l:=h.n+2) (x:=.var 5) (ρ:=[some B.w,some s0,some (.ref h.n),some (.ref (h.n+1)),some (.ref (h.n+2)),some (nameP B ls f),some (stW t)]) (h:=stE h xs (nmL B xs)) (h1:=stE h xs (nmL B xs)) (w:=nameP B ls f) (acc:=nmL B xs) (acc0:=nmL B xs) rfl stE_n rfl stE_n (by unfold nmL;rw[vad,vds];omega)
   rw[zry,zvh hs]at e3
   have hin:=in_st (s:=t) (stE_d (h:=h) (xs:=xs) (ns:=xs.map (nmS B)))
   have e4:ev (run F (k+2)) (.cmp .inn (.var 6) (.var 3)) [some B.w,some s0,some (.ref h.n),some (.ref (h.n+1)),some (.ref (h.n+2)),some (nameP B ls f),some (stW t)] (stE h xs (xs.map (nmS B)))=.ok (.bl (posS t 0 xs).isSome) (stE h xs (xs.map (nmS B))):=by
    simp[ev,cmpW,eqYs,hin]
   rw[hnx]
   cases hp:posS t 0 xs with
   |some i=>
    have hev:everP B (n+1) xs (some t)=(xs,some i):=by simp only[everP,hp]
    rw[hev]
    refine⟨x,y,.inr ⟨i,rfl,?_⟩⟩
    rw[hp]at e4
    have eb:exs (run F (k+2)) za1 [some B.w,some s0,some (.ref h.n),some (.ref (h.n+1)),some (.ref (h.n+2)),x,y] (stE h xs (nmL B xs))=.ok (.rt (.ref (h.n+3))) ((stE h xs (xs.map (nmS B))).new (.lst [.ref h.n,.ref (h.n+2),.int (i:Int)])):=by
     unfold za1
     refine(zaa e2).trans ?_
     refine(zaa (exprE e3)).trans ?_
     refine zab ?_
     rw[iteT e4]
     refine zab (retE ?_)
     have e5:ev (run F (k+2)) (.idx (.var 3) (.var 6)) [some B.w,some s0,some (.ref h.n),some (.ref (h.n+1)),some (.ref (h.n+2)),some (nameP B ls f),some (stW t)] (stE h xs (xs.map (nmS B)))=.ok (.int (i:Int)) (stE h xs (xs.map (nmS B))):=idxE (varE rfl) (varE rfl) (ztb stE_d hp)
     rw[ev,ev,varE (x:=.ref h.n) rfl,bindok,ev,varE (x:=.ref (h.n+2)) rfl,bindok,ev,e5,bindok,ev]
     rfl
    rw[whlG,ec]
    show Res.bind (exs (run F (k+2)) za1 _ _) _=_
    rw[eb];rfl
   |none=>
    rw[hp]at e4
    have hev:everP B (n+1) xs (some t)=everP B n (xs++[t]) (nextS B t):=by simp only[everP,hp]
    rw[hev]
    have eb:exs (run F (k+2)) za1 [some B.w,some s0,some (.ref h.n),some (.ref (h.n+1)),some (.ref (h.n+2)),x,y] (stE h xs (nmL B xs))=.ok (.nx [some B.w,some s0,some (.ref h.n),some (.ref (h.n+1)),some (.ref (h.n+2)),some (nameP B ls f),some (stW t)]) (stE h (xs++[t]) (xs.map (nmS B))):=by
     unfold za1
     refine(zaa e2).trans ?_
     refine(zaa (exprE e3)).trans ?_
     refine(zaa (ρ':=[some B.w,some s0,some (.ref h.n),some (.ref (h.n+1)),some (.ref (h.n+2)),some (nameP B ls f),some (stW t)]) (h':=stE h xs (xs.map (nmS B))) ?_).trans ?_
     .rw[iteF e4];rfl
     have e6:=putE (cl:=run F (k+2)) (o:=.var 3) (i:=.var 6) (v:=.bi .len (.cons (.var 2) .nil)) (ρ:=[some B.w,some s0,some (.ref h.n),some (.ref (h.n+1)),some (.ref (h.n+2)),some (nameP B ls f),some (stW t)]) (h:=stE h xs (xs.map (nmS B))) (a:=h.n+1) (w:=.int xs.length) (xs:=xs) (s:=t)
      (by
        have:=lenE (cl:=run F (k+2)) (a:=.var 2) (ρ:=[some B.w,some s0,some (.ref h.n),some (.ref (h.n+1)),some (.ref (h.n+2)),some (nameP B ls f),some (stW t)]) (h:=stE h xs (xs.map (nmS B))) (x:=.ref h.n) (ws:=xs.map stW) (varE rfl) (by simp only[seqW,stE_s])
        rw[vad]at this
        exact this) (varE rfl) (varE rfl) stE_d hp (by omega)
     refine(zaa e6).trans ?_
     have e7:=zbb (cl:=run F (k+2)) (i:=2) (l:=h.n) (x:=.var 6) (ρ:=[some B.w,some s0,some (.ref h.n),some (.ref (h.n+1)),some (.ref (h.n+2)),some (nameP B ls f),some (stW t)]) (h:=(stE h xs (xs.map (nmS B))).set (h.n+1) (.dt (xs.map stW++[stW t]) (zan 0 xs.length++[.int xs.length]))) (h1:=(stE h xs (xs.map (nmS B))).set (h.n+1) (.dt (xs.map stW++[stW t]) (zan 0 xs.length++[.int xs.length]))) (w:=stW t) (acc:=xs.map stW) (acc0:=xs.map stW) rfl zln rfl zln (by rw[vad];omega)
     rw[zve]at e7
     exact(zaa (exprE e7)).trans rfl
    obtain⟨x',y',ih⟩:=zjb (k:=k) (h:=h) (s0:=s0) b n fu (xs++[t]) t (some (nameP B ls f)) (some (stW t)) (by omega) (by rw[vaf,va1];omega)
     (by
       rw[vcu]
       exact⟨nd,by simp,λa ha b hb=>by rw[vat.mp hb];exact λz=>zb3 hp (z▸ha)⟩)
     (λu hu=>by
       rcases vbj.mp hu with hu|hu
       .exact g u hu
       .rw[vat.mp hu];exact gt) (by simp)
    rw[zvi]at ih
    have hw:whlG (ev (run F (k+2)) zbi) (exs (run F (k+2)) za1) (fu+1) [some B.w,some s0,some (.ref h.n),some (.ref (h.n+1)),some (.ref (h.n+2)),x,y] (stE h xs (nmL B xs))=whlG (ev (run F (k+2)) zbi) (exs (run F (k+2)) za1) fu [some B.w,some s0,some (.ref h.n),some (.ref (h.n+1)),some (.ref (h.n+2)),some (nameP B ls f),some (stW t)] (stE h (xs++[t]) (xs.map (nmS B))):=by
     rw[whlG,ec]
     show Res.bind (exs (run F (k+2)) za1 _ _) _=_
     rw[eb];rfl
    rw[hw]
    exact⟨x',y',ih⟩
theorem zjc{k:Nat}{h:VH}(b:B.Ok)(g:GoodS B s) :
 ∃i a c h',run F (k+3) 112 [B.w,stW s] h=.ok (.ref i) h'/\h'.get i=some (.lst [.ref a,.ref c,backW (everP B 1280 [s] (nextS B s)).2])/\h'.get a=some (.lst ((everP B 1280 [s] (nextS B s)).1.map stW))/\
  h'.get c=some (.lst (if(everP B 1280 [s] (nextS B s)).2=none then nmL B (everP B 1280 [s] (nextS B s)).1 else(everP B 1280 [s] (nextS B s)).1.map (nmS B)))/\h.n<=a/\h.n<=c/\Gx h h':=by
 rw[zaf C.f112 rfl]
 obtain⟨x',y',hl⟩:=zjb C (k:=k) (h:=h) (s0:=stW s) b 1280 fuel [s] s none none (by decide) (show 1281<=1280+1 by decide) (by simp) (λt ht=>by rw[vat.mp ht];exact g) rfl
 generalize everP B 1280 [s] (nextS B s)=E at hl ⊢
 have e1:exs (run F (k+2)) (.set 3 (.dsp (.cons (.var 1) (.cons (.cst (.int (0))) .nil)))) [some B.w,some (stW s),some (.ref h.n),none,none,none,none] (VH.new ⟨h.n,h.n,h.os⟩ (.lst [stW s]))=.ok (.nx [some B.w,some (stW s),some (.ref h.n),some (.ref (h.n+1)),none,none,none]) ((VH.new ⟨h.n,h.n,h.os⟩ (.lst [stW s])).new (.dt [stW s] [.int 0])):=by
  have hk:zcb [stW s,.int 0]=none:=rfl
  have hd:dspD [stW s,.int 0] (VH.new ⟨h.n,h.n,h.os⟩ (.lst [stW s]))=.ok (.ref (h.n+1)) ((VH.new ⟨h.n,h.n,h.os⟩ (.lst [stW s])).new (.dt [stW s] [.int 0])):=by
   simp only[dspD,zfg];rfl
  have ha:ev (run F (k+2)) (.cons (.var 1) (.cons (.cst (.int (0))) .nil)) [some B.w,some (stW s),some (.ref h.n),none,none,none,none] (VH.new ⟨h.n,h.n,h.os⟩ (.lst [stW s]))=.ok (.tup [stW s,.int 0]) (VH.new ⟨h.n,h.n,h.os⟩ (.lst [stW s])):=rfl
  have hz:ev (run F (k+2)) (.dsp (.cons (.var 1) (.cons (.cst (.int (0))) .nil))) [some B.w,some (stW s),some (.ref h.n),none,none,none,none] (VH.new ⟨h.n,h.n,h.os⟩ (.lst [stW s]))=dspD [stW s,.int 0] (VH.new ⟨h.n,h.n,h.os⟩ (.lst [stW s])):=by
   rw[ev,ha,bindok]
   simp only[hk]
  exact setE (hz.trans hd)
 have key:exs (run F (k+2)) fn112.body [some B.w,some (stW s),none,none,none,none,none] ⟨h.n,h.n,h.os⟩=.ok (.rt (.ref (h.n+3))) ((stE h E.1 (if E.2=none then nmL B E.1 else E.1.map (nmS B))).new (.lst [.ref h.n,.ref (h.n+2),backW E.2])):=by
  refine(zaa (ρ':=[some B.w,some (stW s),some (.ref h.n),none,none,none,none]) (h':=VH.new ⟨h.n,h.n,h.os⟩ (.lst [stW s])) ?_).trans ?_
  .exact setE (by rw[ev,ev,varE (x:=stW s) rfl,bindok,ev,bindok];rfl)
  refine(zaa e1).trans ?_
  refine(zaa (ρ':=[some B.w,some (stW s),some (.ref h.n),some (.ref (h.n+1)),some (.ref (h.n+2)),none,none]) (h':=stE h [s] (nmL B [s])) ?_).trans ?_
  .rfl
  rcases hl with⟨hl,he⟩|⟨i,he,hl⟩
  .refine(zaa (show exs (run F (k+2)) (.whl zbi za1) _ _=_ from hl)).trans ?_
   rw[he,if_pos rfl]
   exact zab (retE (by
    rw[ev,ev,varE (x:=.ref h.n) rfl,bindok,ev,varE (x:=.ref (h.n+2)) rfl,bindok,ev,ev,bindok,ev]
    rfl))
  .rw[he,if_neg (by simp)]
   exact zab (show exs (run F (k+2)) (.whl zbi za1) _ _=_ from hl)
 generalize (if E.2=none then nmL B E.1 else E.1.map (nmS B))=ns' at key ⊢
 show ∃i a c h',fin h (exs (run F (k+2)) fn112.body [some B.w,some (stW s),none,none,none,none,none] ⟨h.n,h.n,h.os⟩)=.ok (.ref i) h'/\_
 rw[key]
 have hlt:W.lt h.n (.ref (h.n+3))=false:=by show Nat.blt (h.n+3) h.n=false;exact zbx (by omega)
 have hlv:leave h (.ref (h.n+3)) ((stE h E.1 ns').new (.lst [.ref h.n,.ref (h.n+2),backW E.2]))=.ok (.ref (h.n+3)) ⟨h.n+4,if Nat.ble h.lo h.n then h.lo else h.n,((stE h E.1 ns').new (.lst [.ref h.n,.ref (h.n+2),backW E.2])).os⟩:=by
  unfold leave
  rw[hlt,vdt]
  rfl
 refine⟨h.n+3,h.n,h.n+2,_,hlv,?_,?_,?_,vac _,vde _ _,⟨vde _ _,λe=>?_,λi o e=>?_⟩⟩
 .exact(get_lo (h:=(stE h E.1 ns').new (.lst [.ref h.n,.ref (h.n+2),backW E.2]))).trans zal
 .exact(get_lo (h:=(stE h E.1 ns').new (.lst [.ref h.n,.ref (h.n+2),backW E.2]))).trans ((zah (show h.n<h.n+3 by omega)).trans stE_s)
 .exact(get_lo (h:=(stE h E.1 ns').new (.lst [.ref h.n,.ref (h.n+2),backW E.2]))).trans ((zah (show h.n+2<h.n+3 by omega)).trans stE_n)
 .show(if Nat.ble h.lo h.n then h.lo else h.n)=h.n
  rw[e];split<;>rfl
 .have hi:=zaq e
  exact(get_lo (h:=(stE h E.1 ns').new (.lst [.ref h.n,.ref (h.n+2),backW E.2]))).trans ((zah (show i<h.n+3 by omega)).trans ((zvf hi).trans e))
end
theorem zpi{nx:Nat->VH->Option (Option W)}{c e:FE}{h:VH}{ws:List W}{tl:En}{p:W->Bool}{f:W->W}(hx:∀i,nx i h=some ws[i]?)(hc:∀w∈ws,c (some w::tl) h=.ok (.bl (p w)) h)(he:∀w∈ws,e (some w::tl) h=.ok (f w) h) :
 ∀(fu i:Nat)(a:Option W)(acc:List W),i<=ws.length->ws.length<fu+i->lcG nx (tgW (.one 0)) c e fu i (a::tl) h acc=.ok (acc.reverse++((ws.drop i).filter p).map f) h
 |0,i,a,acc,hi,hl=>by omega
 |fu+1,i,a,acc,hi,hl=>by
  cases q:ws[i]? with
  |none=>
   rw[vdj (vbh.mp q)]
   simp only[lcG,hx,q];simp
  |some w=>
   obtain⟨hi,ee⟩:=va3.mp q
   have hm:=vcb q
   simp only[lcG,hx,q,tgW,vaq,hc w hm,bindok]
   rw[vc5 hi,ee]
   cases z:p w with
   |true=>
    simp only[he w hm,bindok]
    rw[zpi hx hc he fu (i+1) (some w) (f w::acc) hi (by omega)]
    simp[z]
   |false=>
    rw[zpi hx hc he fu (i+1) (some w) acc hi (by omega)]
    simp[z]
theorem zlq{n:Nat}:∀ls:List Int,mapO (toD h (n+1)) (ls.map W.int)=some (ls.map PyData.int)
 |[]=>rfl
 |x::r=>by simp only[van,mapO,zlq r];rfl
theorem zpj{n:Nat}:toD h (n+1) (.tup ws)=(mapO (toD h n) ws).map .tuple:=rfl
theorem zte{n:Nat}:toD h (n+2) (iW ls)=some (.tuple (ls.map .int)):=by
 unfold iW
 rw[zpj,zlq,vah]
theorem zlr:∀ls ms:List Int,PyData.eqvAll (ls.map .int) (ms.map .int)=decide (ls=ms)
 |[],[]=>rfl
 |[],_::_=>rfl
 |_::_,[]=>rfl
 |x::r,y::s=>by
  simp only[van,PyData.eqvAll,PyData.eqv,zlr r s]
  by_cases a:x=y<;>by_cases b:r=s<;>simp[a,b]
theorem zjd(p:za2 24 w=true)(e:toD h 24 w=some d):SeqAt.shaped d=true:=by
 obtain⟨d',h1,h2,h3⟩:=zcc h 24 w p
 rw[e]at h1;cases h1
 unfold SeqAt.shaped
 rw[h2,vdd,va0];omega
theorem zpk(p:za2 24 w=true)(p':za2 24 w'=true)(e:toD h 24 w=some d)(e':toD h 24 w'=some d'):eqW h w w'=some (PyData.eqv d d'):=by
 unfold eqW
 rw[e,e']
 simp[zjd p e,zjd p' e']
theorem zzf:eqW h (iW a) (iW b)=some (decide (a=b)):=by
 rw[zpk zlm zlm zte zte]
 simp only[PyData.eqv,zlr]
theorem zfm{k:Nat}(h:k<=ws.length):cutW ws none (some (k:Int))=ws.take k:=by
 unfold cutW
 rw[HT.sIx_none,HT.sIx_nat,vc6,vem h,Nat.sub_zero]
theorem zki{k:Nat}(h:k<=ws.length):cutW ws (some (k:Int)) none=ws.drop k:=by
 unfold cutW
 rw[HT.sIx_none,HT.sIx_nat,vem h]
 exact List.take_of_length_le (by rw[vcp];omega)
theorem zvj{k m:Nat}(h:k+m<=ws.length):cutW ws (some (k:Int)) (some ((k+m:Nat):Int))=(ws.drop k).take m:=by
 unfold cutW
 rw[HT.sIx_nat,HT.sIx_nat,vem h,vem (show k<=ws.length by omega),show k+m-k=m by omega]
theorem zht:cutW (ws++[w]) none (some (-1))=ws:=by
 unfold cutW HT.sIx
 have:((-1:Int)+ ((ws++[w]).length:Int)).toNat=ws.length:=by rw[vaf,va1];omega
 simp only[if_pos (show(-1:Int)<0 by decide),this,vc6,Nat.sub_zero]
 exact vej rfl
theorem zr1:cutW (ws++[w]) (some (-1)) none=[w]:=by
 unfold cutW HT.sIx
 have:((-1:Int)+ ((ws++[w]).length:Int)).toNat=ws.length:=by rw[vaf,va1];omega
 simp only[if_pos (show(-1:Int)<0 by decide),this]
 rw[vek rfl]
 exact List.take_of_length_le (by rw[vaf,va1];simp)
theorem zpl:atI (ws++[w]) (-1)=some w:=by
 unfold atI ixN
 rw[if_neg (by decide),if_pos (by rw[vaf,va1];omega)]
 show(ws++[w])[(((ws++[w]).length:Int) + -1).toNat]?=_
 rw[show(((ws++[w]).length:Int) + -1).toNat=ws.length by rw[vaf,va1];omega]
 simp
theorem zd5{x:Int}:iW (xs++[x])=.tup (xs.map .int++[.int x]):=by unfold iW;rw[vb5];rfl
theorem zmq{m:Nat}(h:m<=5000):fits (m:Int)=true:=by
 unfold fits
 rw[vab,va0,va0]
 omega
theorem orF{ρ:En}(ea:ev cl a ρ h=.ok (.bl false) h1):ev cl (.or a b) ρ h=ev cl b ρ h1:=by rw[ev,ea,bindok]
theorem orT{ρ:En}(ea:ev cl a ρ h=.ok (.bl true) h1):ev cl (.or a b) ρ h=.ok (.bl true) h1:=by rw[ev,ea,bindok]
structure CoreF(F:Nat->Option Fn):Prop where
 f194:F 194=some fn194
 f197:F 197=some fn197
section
variable{F:Nat->Option Fn}(C:CoreF F)
include C
omit C in
theorem zgq{f:Nat->Int}{q:Nat}(hq5:q<=5000):∀(a fu:Nat),a<fu->whlG (ev cl zb2) (exs cl zcl) fu [some (iW (seg f 0 a)),some (iW (seg f a (q+1)))] h=.ok (.nx [some (iW (seg f 0 (leadP f (q+1) a))),some (iW (seg f (leadP f (q+1) a) (q+1)))]) h
 |a,0,hf=>by omega
 |0,fu+1,_=>by
  have ec:ev cl zb2 [some (iW (seg f 0 0)),some (iW (seg f 0 (q+1)))] h=.ok (.bl false) h:=by
   simp[zb2,ev,truW,seg,iW]
  rw[whlG,ec,bindok];rfl
 |a+1,fu+1,hf=>by
  have s1:seg f 0 (a+1)=seg f 0 a++[f a]:=by rw[zlo,vb2]
  have s2:seg f (a+1) (q+1)=seg f (a+1) q++[f (a+ (q+1))]:=by rw[zlo,show a+1+q=a+ (q+1) by omega]
  have e1:ev cl (.tru (.var 0)) [some (iW (seg f 0 (a+1))),some (iW (seg f (a+1) (q+1)))] h=.ok (.bl true) h:=by
   rw[ev,varE (x:=iW (seg f 0 (a+1))) rfl,bindok,s1,zd5]
   simp[truW]
  have e2:ev cl (.cmp .eq (.idx (.var 0) (.neg (.cst (.int (1))))) (.idx (.var 1) (.neg (.cst (.int (1)))))) [some (iW (seg f 0 (a+1))),some (iW (seg f (a+1) (q+1)))] h=.ok (.bl (decide (f a=f (a+ (q+1))))) h:=by
   have i1:ev cl (.idx (.var 0) (.neg (.cst (.int (1))))) [some (iW (seg f 0 (a+1))),some (iW (seg f (a+1) (q+1)))] h=.ok (.int (f a)) h:=idxE (varE rfl) rfl (by rw[s1,zd5];exact zpl)
   have i2:ev cl (.idx (.var 1) (.neg (.cst (.int (1))))) [some (iW (seg f 0 (a+1))),some (iW (seg f (a+1) (q+1)))] h=.ok (.int (f (a+ (q+1)))) h:=idxE (varE rfl) rfl (by rw[s2,zd5];exact zpl)
   rw[ev,i1,bindok,i2,bindok]
   simp only[cmpW,eqYs,zau,vah,ofsome]
  have ec:ev cl zb2 [some (iW (seg f 0 (a+1))),some (iW (seg f (a+1) (q+1)))] h=.ok (.bl (decide (f a=f (a+ (q+1))))) h:=by
   unfold zb2
   rw[ev,e1,bindok]
   exact e2
  by_cases z:f a=f (a+ (q+1))
  .rw[vbg z]at ec
   have eb:exs cl zcl [some (iW (seg f 0 (a+1))),some (iW (seg f (a+1) (q+1)))] h=.ok (.nx [some (iW (seg f 0 a)),some (iW (seg f a (q+1)))]) h:=by
    unfold zcl
    have v0:ev cl (.slc (.var 0) false (.cst .non) true (.neg (.cst (.int (1))))) [some (iW (seg f 0 (a+1))),some (iW (seg f (a+1) (q+1)))] h=.ok (iW (seg f 0 a)) h:=slcE (varE rfl) rfl rfl rfl rfl (by rw[s1,zd5,slcW_tup,zht];rfl)
    refine(zaa (setE v0)).trans ?_
    have v1:ev cl (.slc (.var 1) true (.neg (.cst (.int (1)))) false (.cst .non)) [some (iW (seg f 0 a)),some (iW (seg f (a+1) (q+1)))] h=.ok (.tup [.int (f (a+ (q+1)))]) h:=slcE (varE rfl) rfl rfl rfl rfl (by rw[s2,zd5,slcW_tup,zr1])
    have v2:ev cl (.slc (.var 1) false (.cst .non) true (.neg (.cst (.int (1))))) [some (iW (seg f 0 a)),some (iW (seg f (a+1) (q+1)))] h=.ok (iW (seg f (a+1) q)) h:=slcE (varE rfl) rfl rfl rfl rfl (by rw[s2,zd5,slcW_tup,zht];rfl)
    have hq:opW .add (.tup [.int (f (a+ (q+1)))]) (iW (seg f (a+1) q)) h=.ok (iW (seg f a (q+1))) h:=by
     have:iW (seg f a (q+1))=.tup ([.int (f (a+ (q+1)))]++(seg f (a+1) q).map .int):=by rw[<-z];rfl
     rw[this]
     exact zs4 (by rw[vad,zbc,va1];omega)
    exact(zaa (setE (opE v1 v2 hq))).trans rfl
   rw[whlG,ec,bindok]
   show Res.bind (exs cl zcl _ _) _=_
   rw[eb,bindok]
   show whlG _ _ fu _ _=_
   rw[zgq hq5 a fu (by omega),leadP,if_pos z]
  .rw[vaz z]at ec
   rw[whlG,ec,bindok,leadP,if_neg z]
theorem zr2{k:Nat}{f:Nat->Int}{q a:Nat}(q0:1<=q)(hq:q<=5000)(ha:a<=5000):run F (k+1) 194 [iW (seg f 0 a),iW (seg f a q)] h=.ok (.tup [iW (seg f 0 (leadP f q a)),iW (seg f (leadP f q a) q)]) h:=by
 obtain⟨q,rfl⟩:∃p,q=p+1:=⟨q-1,by omega⟩
 rw[zaf C.f194 rfl]
 have e1:=zgq (cl:=run F k) (f:=f) (q:=q) (h:=⟨h.n,h.n,h.os⟩) (by omega) a fuel (by have:fuel=1000000:=rfl;omega)
 have eb:exs (run F k) fn194.body [some (iW (seg f 0 a)),some (iW (seg f a (q+1)))] ⟨h.n,h.n,h.os⟩=.ok (.rt (.tup [iW (seg f 0 (leadP f (q+1) a)),iW (seg f (leadP f (q+1) a) (q+1))])) ⟨h.n,h.n,h.os⟩:=by
  refine(zaa (show exs (run F k) (.whl zb2 zcl) _ _=_ from e1)).trans ?_
  exact zab (retE (tup2E (varE rfl) (varE rfl)))
 show fin h (exs (run F k) fn194.body [some (iW (seg f 0 a)),some (iW (seg f a (q+1)))] ⟨h.n,h.n,h.os⟩)=_
 rw[eb]
 exact zaj (vac _) (by simp[iW_lt])
omit C in
theorem zje{g:Nat->Int}{R s:Nat}(hR:Prd g R)(R0:1<=R)(R1:R<=5000)(s0:1<=s)(s1:s<=R):ev cl zdi [some (iW (seg g 0 R)),some (.int (s:Int))] h=.ok (.bl (!decide (s ∣ R/\(List.replicate (R/s) (seg g 0 s)).flatten=seg g 0 R))) h:=by
 have el:ev cl (.bi .len (.cons (.var 0) .nil)) [some (iW (seg g 0 R)),some (.int (s:Int))] h=.ok (.int (R:Int)) h:=by
  have:=lenE (cl:=cl) (a:=.var 0) (ρ:=[some (iW (seg g 0 R)),some (.int (s:Int))]) (h:=h) (x:=iW (seg g 0 R)) (ws:=(seg g 0 R).map .int) (varE rfl) rfl
  rw[vad,zbc]at this
  exact this
 have hm:opW .mod (.int (R:Int)) (.int (s:Int)) h=.ok (.int ((R % s:Nat):Int)) h:=by
  have:opI .mod (R:Int) (s:Int)=some ((R % s:Nat):Int):=by
   simp only[opI]
   rw[if_pos (by simp;omega)];rfl
  simp only[opW,this,vah,ofsome]
 have hd:opW .fdiv (.int (R:Int)) (.int (s:Int)) h=.ok (.int ((R/s:Nat):Int)) h:=by
  have:opI .fdiv (R:Int) (s:Int)=some ((R/s:Nat):Int):=by
   simp only[opI]
   rw[if_pos (by simp;omega)];rfl
  simp only[opW,this,vah,ofsome]
 have e1:ev cl (.cmp .ne (.op .mod (.bi .len (.cons (.var 0) .nil)) (.var 1)) (.cst (.int (0)))) [some (iW (seg g 0 R)),some (.int (s:Int))] h=.ok (.bl (!decide (R % s=0))) h:=by
  rw[ev,opE el (varE rfl) hm,bindok,ev,bindok]
  have hdd:decide (((R % s:Nat):Int)=0)=decide (R % s=0):=decide_eq_decide.mpr (by omega)
  simp only[cmpW,eqYs,zau,vah,ofsome,hdd]
 unfold zdi
 by_cases z:R % s=0
 .rw[vbg z]at e1
  rw[orF e1]
  have hs:s ∣ R:=Nat.dvd_of_mod_eq_zero z
  have hmul:R/s*s=R:=Nat.div_mul_cancel hs
  have e2:ev cl (.slc (.var 0) false (.cst .non) true (.var 1)) [some (iW (seg g 0 R)),some (.int (s:Int))] h=.ok (iW (seg g 0 s)) h:=slcE (varE rfl) rfl (varE rfl) rfl rfl (by
   show slcW (iW (seg g 0 R)) none (some (s:Int)) h=_
   unfold iW
   rw[slcW_tup,zfm (by rw[vad,zbc];exact s1),<-vef,zdl _ s1])
  have e3:opW .mul (iW (seg g 0 s)) (.int ((R/s:Nat):Int)) h=.ok (iW (List.replicate (R/s) (seg g 0 s)).flatten) h:=by
   have:repW .mul ((seg g 0 s).map .int) ((R/s:Nat):Int)=some ((List.replicate (R/s) (seg g 0 s)).flatten.map .int):=by
    simp only[repW]
    have hf:fits ((R/s:Nat):Int)=true:=zmq (vbe (Nat.div_le_self _ _) R1)
    have hb:Nat.ble (((seg g 0 s).map W.int).length* ((R/s:Nat):Int).toNat) big=true:=zcy (by rw[vad,zbc,vb9,Nat.mul_comm,hmul];omega)
    rw[hf,hb,vb9]
    simp[List.map_flatten]
   unfold iW
   simp only[opW,this,vah,ofsome]
  rw[ev,opE e2 (opE el (varE rfl) hd) e3,bindok,varE (x:=iW (seg g 0 R)) rfl,bindok]
  have hdd:decide ((List.replicate (R/s) (seg g 0 s)).flatten=seg g 0 R)=decide (s ∣ R/\(List.replicate (R/s) (seg g 0 s)).flatten=seg g 0 R):=decide_eq_decide.mpr ⟨λa=>⟨hs,a⟩,λa=>a.2⟩
  simp only[cmpW,eqYs,zzf,vah,ofsome,hdd]
 .rw[vaz z]at e1
  rw[orT e1]
  have:¬(s ∣ R/\(List.replicate (R/s) (seg g 0 s)).flatten=seg g 0 R):=λa=>z (Nat.mod_eq_zero_of_dvd a.1)
  rw[vaz this]
  rfl
omit C in
theorem zjf{g:Nat->Int}{R q:Nat}(hR:Prd g R)(R0:1<=R)(R1:R<=5000)(L:Least g R q):∀(n s fu:Nat),n<fu->s+n=q->1<=s->whlG (ev cl zdi) (exs cl zcm) fu [some (iW (seg g 0 R)),some (.int (s:Int))] h=.ok (.nx [some (iW (seg g 0 R)),some (.int (q:Int))]) h
 |n,s,0,h1,_,_=>by omega
 |0,s,fu+1,h1,h2,h3=>by
  have hs:s=q:=by omega
  subst hs
  have ec:=zje (cl:=cl) (h:=h) hR R0 R1 h3 L.q1
  rw[vbg ⟨L.dv,(ztd hR R0 L.dv h3).mpr L.pr⟩]at ec
  rw[whlG,ec,bindok];rfl
 |n+1,s,fu+1,h1,h2,h3=>by
  have q1:=L.q1
  have ec:=zje (cl:=cl) (h:=h) hR R0 R1 h3 (show s<=R by omega)
  rw[vaz (λa=>L.no s h3 (by omega) ((ztd hR R0 a.1 h3).mp a.2))]at ec
  have eb:exs cl zcm [some (iW (seg g 0 R)),some (.int (s:Int))] h=.ok (.nx [some (iW (seg g 0 R)),some (.int ((s+1:Nat):Int))]) h:=by
   simp[zcm,exs,ev,ipW]
  rw[whlG,ec,bindok]
  show Res.bind (exs cl zcm _ _) _=_
  rw[eb,bindok]
  exact zjf hR R0 R1 L n (s+1) fu (by omega) (by omega) (by omega)
theorem zhu{k:Nat}{g:Nat->Int}{R q:Nat}(hR:Prd g R)(R0:1<=R)(R1:R<=5000)(L:Least g R q):run F (k+1) 197 [iW (seg g 0 R)] h=.ok (iW (seg g 0 q)) h:=by
 rw[zaf C.f197 rfl]
 have q0:=L.q0
 have q1:=L.q1
 have e1:=zjf (cl:=run F k) (h:=⟨h.n,h.n,h.os⟩) hR R0 R1 L (q-1) 1 fuel (by have:fuel=1000000:=rfl;omega) (by omega) (by omega)
 have eb:exs (run F k) fn197.body [some (iW (seg g 0 R)),none] ⟨h.n,h.n,h.os⟩=.ok (.rt (iW (seg g 0 q))) ⟨h.n,h.n,h.os⟩:=by
  refine(zaa (setE rfl)).trans ?_
  refine(zaa (show exs (run F k) (.whl zdi zcm) _ _=_ from e1)).trans ?_
  exact zab (retE (slcE (varE rfl) rfl (varE rfl) rfl rfl (by
   show slcW (iW (seg g 0 R)) none (some (q:Int)) _=_
   unfold iW
   rw[slcW_tup,zfm (by rw[vad,zbc];exact q1),<-vef,zdl _ q1])))
 show fin h (exs (run F k) fn197.body [some (iW (seg g 0 R)),none] ⟨h.n,h.n,h.os⟩)=_
 rw[eb]
 exact zaj (vac _) iW_lt
end
structure CoreH(F:Nat->Option Fn):Prop where
 f59:F 59=some fn59
 f204:F 204=some fn204
theorem zvk:eqW h .non .non=some true:=rfl
section
variable{F:Nat->Option Fn}(C:CoreH F)(A:CoreA F)
include C A
omit C in
theorem zzg{k:Nat}:run F (k+1) 6 [.tup ws,.int ws.length,.int ws.length] h=.ok (.bl true) h:=by
 rw[zam A (by unfold Kn;simp)]
 simp[zar]
theorem zvl:∀(n:Nat) {k:Nat} {h:VH} {w:W},nestN n w=true->run F (k+n+2) 59 [w,w] h=.ok (.bl true) h:=by
 have hint:∀{k:Nat}{h:VH}{i:Int},run F (k+2) 59 [.int i,.int i] h=.ok (.bl true) h:=by
  intro k h i
  rw[zaf C.f59 rfl]
  simp[fn59,exs,ev,truW,cmpW,eqYs,zau,zaj]
 have hnon:∀{k:Nat}{h:VH},run F (k+2) 59 [.non,.non] h=.ok (.bl true) h:=by
  intro k h
  rw[zaf C.f59 rfl]
  simp[fn59,exs,ev,truW,cmpW,eqYs,zvk,zaj]
 intro n
 induction n with
 |zero=>
  intro k h w hw
  cases w<;>simp only[nestN]at hw<;>first|exact hint|exact hnon|cases hw
 |succ n ih=>
  intro k h w hw
  cases w<;>simp only[nestN]at hw<;>first|(exact hint (k:=k+n+1))|(exact hnon (k:=k+n+1))|(cases hw;done)|skip
  rename_i ws
  rw[vab]at hw
  have hlen:=va9 hw.1
  have hall:=vbp.mp hw.2
  rw[show k+ (n+1)+2=(k+n+2)+1 by omega,zaf C.f59 rfl]
  have hz:(zipW ws ws).length<1000000:=by unfold zipW;rw[vd0];omega
  have e1:=zpf (cl:=run F (k+n+2)) (e:=zff) ws none none ⟨h.n,h.n,h.os⟩ λw hw h=>zas (varE rfl) (varE rfl) (ih (k:=k) (hall w hw))
  have e2:=zkd (cl:=run F (k+n+2)) (a:=.cons (.var 0) (.cons (.var 1) .nil)) (ρ:=[some (.tup ws),some (.tup ws)]) (h:=⟨h.n,h.n,h.os⟩) (h1:=⟨h.n,h.n,h.os⟩) (ow:=2) (ix:=[]) (e:=zff) (t:=.many [0,1]) rfl hz e1 (by rw[List.length_replicate];omega)
  have e3:=allE e2 zal
  have el:ev (run F (k+n+2)) (.bi .len (.cons (.var 1) .nil)) [some (.tup ws),some (.tup ws)] ⟨h.n,h.n,h.os⟩=.ok (.int ws.length) ⟨h.n,h.n,h.os⟩:=lenE (varE rfl) rfl
  have e4:ev (run F (k+n+2)) (.not (.tru (.call 6 (.cons (.var 0) (.cons (.bi .len (.cons (.var 1) .nil)) (.cons (.bi .len (.cons (.var 1) .nil)) .nil)))))) [some (.tup ws),some (.tup ws)] ⟨h.n,h.n,h.os⟩=.ok (.bl false) ⟨h.n,h.n,h.os⟩:=by
   rw[ev,truE (zed (varE rfl) el el (zzg A (k:=k+n+1)))];rfl
  have e5:ev (run F (k+n+2)) (.tru (.isi .tuple (.var 1))) [some (.tup ws),some (.tup ws)] ⟨h.n,h.n,h.os⟩=.ok (.bl true) ⟨h.n,h.n,h.os⟩:=by
   simp[ev,truW]
  have eb:exs (run F (k+n+2)) fn59.body [some (.tup ws),some (.tup ws)] ⟨h.n,h.n,h.os⟩=.ok (.rt (.bl true)) (VH.new ⟨h.n,h.n,h.os⟩ (.lst (List.replicate ws.length (.bl true)))):=by
   refine zab ?_
   rw[iteT e5]
   refine(zaa (ρ':=[some (.tup ws),some (.tup ws)]) (h':=⟨h.n,h.n,h.os⟩) ?_).trans (zab (retE e3))
   rw[iteF e4];rfl
  show fin h (exs (run F (k+n+2)) fn59.body [some (.tup ws),some (.tup ws)] ⟨h.n,h.n,h.os⟩)=_
  rw[eb]
  exact zaj (vac _) (by simp)
end
theorem zr3(s:Stn)(hl:s.1.length<=5000)(n:Nat):nestN (n+2) (stW s)=true:=by
 obtain⟨ls,fo⟩:=s
 have h1:nestN (n+1) (iW ls)=true:=by
  unfold iW nestN
  rw[vab,vbp]
  refine⟨vd1.mpr (by rw[vad];exact hl),λw hw=>?_⟩
  obtain⟨i,_,rfl⟩:=vb1.mp hw
  cases n<;>rfl
 have h2:nestN (n+1) (optW fo)=true:=by cases fo<;>rfl
 unfold stW
 show(Nat.ble 2 5000 && [iW ls,optW fo].all (nestN (n+1)))=true
 simp[h1,h2]
section
variable{F:Nat->Option Fn}(C:CoreH F)(A:CoreA F)(Y:CoreE0 F)(B':CoreB F)
include C A Y B'
omit B' in
theorem zd6{k:Nat}{h:VH}{s0 p st bk:W}(b:B.Ok):∀(n:Nat) (xs:List Stn) (c:Option Stn) (x:Option W),1281<=n+xs.length->xs.Nodup->(∀s∈xs,GoodS B s)->(∀s,c=some s->GoodS B s)->
 ∃rest c' x',(everP B n xs c).1=xs++rest/\forL (tgW (.one 7)) (exs (run F (k+5)) zaw) (rest.map stW) [some B.w,some s0,some p,some st,some bk,some (.ref h.n),some (optS c),x] (stD h xs)=.ok (.nx [some B.w,some s0,some p,some st,some bk,some (.ref h.n),some (optS c'),x']) (stD h (everP B n xs c).1)/\
  ((c'=none/\(everP B n xs c).2=none)\/∃s i,c'=some s/\(everP B n xs c).2=some i/\posS s 0 (everP B n xs c).1=some i)
 |0,xs,c,x,hN,nd,g,_=>by have:=few b nd g;omega
 |n+1,xs,none,x,hN,nd,g,gc=>⟨[],none,x,(vbc _).symm,rfl,.inl ⟨rfl,rfl⟩⟩
 |n+1,xs,some s,x,hN,nd,g,gc=>by
  cases hp:posS s 0 xs with
  |some i=>
   have hev:everP B (n+1) xs (some s)=(xs,some i):=by simp only[everP,hp]
   rw[hev]
   exact⟨[],some s,x,(vbc _).symm,rfl,.inr ⟨s,i,rfl,rfl,hp⟩⟩
  |none=>
   have hev:everP B (n+1) xs (some s)=everP B n (xs++[s]) (nextS B s):=by simp only[everP,hp]
   rw[hev]
   have hfew:=few b nd g
   have gs:=gc s rfl
   obtain⟨rest,c',x',h1,ih,hc'⟩:=zd6 (k:=k) (h:=h) (s0:=s0) (p:=p) (st:=st) (bk:=bk) b n (xs++[s]) (nextS B s) (some (stW s)) (by rw[vaf,va1];omega)
    (by
      rw[vcu]
      exact⟨nd,by simp,λa ha b hb=>by rw[vat.mp hb];exact λz=>zb3 hp (z▸ha)⟩)
    (λt ht=>by
      rcases vbj.mp ht with ht|ht
      .exact g t ht
      .rw[vat.mp ht];exact gs) (λt ht=>za5 b gs ht)
   refine⟨s::rest,c',x',by rw[h1,vda];rfl,?_,hc'⟩
   have hin:=in_st (s:=s) (zce (h:=h) (xs:=xs))
   have hlen:s.1.length<=5000:=by have:=gs.1;have:=b.g2;omega
   have hj:=zvl C A 2 (k:=k+1) (h:=stD h xs) (zr3 s hlen 0)
   have ec:ev (run F (k+5)) (.or (.cmp .isn (.var 6) (.cst .non)) (.or (.cmp .inn (.var 6) (.var 5)) (.not (.tru (.call 59 (.cons (.var 7) (.cons (.var 6) .nil))))))) [some B.w,some s0,some p,some st,some bk,some (.ref h.n),some (optS (some s)),some (stW s)] (stD h xs)=.ok (.bl false) (stD h xs):=by
    rw[orF (h1:=stD h xs) (by simp[ev,cmpW,eqYs,zbm,optS,zpd]),orF (h1:=stD h xs) (by simp[ev,cmpW,eqYs,optS,hin,hp]),ev,truE (zas (x:=stW s) (y:=stW s) (varE rfl) (varE rfl) hj)]
    rfl
   have e1:=putE (cl:=run F (k+5)) (o:=.var 5) (i:=.var 6) (v:=.bi .len (.cons (.var 5) .nil)) (ρ:=[some B.w,some s0,some p,some st,some bk,some (.ref h.n),some (optS (some s)),some (stW s)]) (h:=stD h xs) (a:=h.n) (xs:=xs) (s:=s) (zpc rfl zce) (varE rfl) (varE rfl) zce hp (by omega)
   rw[zpb]at e1
   have e2:=zee Y (k:=k) (h:=stD h (xs++[s])) b gs
   rw[zi8]at e2
   have eb:exs (run F (k+5)) zaw [some B.w,some s0,some p,some st,some bk,some (.ref h.n),some (optS (some s)),some (stW s)] (stD h xs)=.ok (.nx [some B.w,some s0,some p,some st,some bk,some (.ref h.n),some (optS (nextS B s)),some (stW s)]) (stD h (xs++[s])):=by
    unfold zaw
    refine(zaa ((iteF ec).trans rfl)).trans ?_
    refine(zaa e1).trans ?_
    refine(zaa (setE (zas (varE rfl) (varE rfl) e2))).trans ?_
    rfl
   rw[van]
   simp only[forL,tgW,vau,vaq,eb,bindok]
   exact ih
end
theorem ztf:∀{xs:List Stn} {i j:Nat},posS s j xs=some i->j<=i/\i<j+xs.length
 |[],_,_,h=>by cases h
 |x::xs,i,j,h=>by
  unfold posS at h
  split at h
  .cases h;rw[vaj];omega
  .have:=ztf h;rw[vaj];omega
theorem zpm:∀{xs:List Stn} {i j:Nat},posS s j xs=some i->s∈xs
 |[],_,_,h=>by cases h
 |x::xs,i,j,h=>by
  unfold posS at h
  split at h
  .rename_i e;rw[e];exact vam
  .exact vai _ (zpm h)
theorem zjg:∀(n:Nat) (xs:List Stn) (c:Option Stn) {i:Nat},(everP B n xs c).2=some i->i< (everP B n xs c).1.length
 |0,xs,c,i,h=>by cases h
 |n+1,xs,none,i,h=>by cases h
 |n+1,xs,some s,i,h=>by
  cases hp:posS s 0 xs with
  |some j=>
   have hev:everP B (n+1) xs (some s)=(xs,some j):=by simp only[everP,hp]
   rw[hev]at h ⊢
   cases h
   have:=ztf hp
   show i<xs.length
   omega
  |none=>
   have hev:everP B (n+1) xs (some s)=everP B n (xs++[s]) (nextS B s):=by simp only[everP,hp]
   rw[hev]at h ⊢
   exact zjg n _ _ h
theorem zgr:∀(n:Nat) (xs:List Stn) (c:Option Stn) {i:Nat},(∀x∈xs,nextS B x=c\/∃y∈xs,nextS B x=some y)->(everP B n xs c).2=some i->∀x∈(everP B n xs c).1,∃y∈(everP B n xs c).1,nextS B x=some y
 |0,xs,c,i,_,h=>by cases h
 |n+1,xs,none,i,_,h=>by cases h
 |n+1,xs,some s,i,hc,h=>by
  cases hp:posS s 0 xs with
  |some j=>
   have hev:everP B (n+1) xs (some s)=(xs,some j):=by simp only[everP,hp]
   rw[hev]at h ⊢
   intro x hx
   rcases hc x hx with e|e
   .exact⟨s,zpm hp,e⟩
   .exact e
  |none=>
   have hev:everP B (n+1) xs (some s)=everP B n (xs++[s]) (nextS B s):=by simp only[everP,hp]
   rw[hev]at h ⊢
   refine zgr n _ _ (λx hx=>?_) h
   rcases vbj.mp hx with hx|hx
   .rcases hc x hx with e|⟨y,hy,e⟩
    .exact .inr ⟨s,va6 _ (vat.mpr rfl),e⟩
    .exact .inr ⟨y,vcq _ hy,e⟩
   .rw[vat.mp hx];exact .inl rfl
theorem zjh(b:B.Ok):∀(n:Nat) (xs:List Stn) (s:Stn),1281<=n+xs.length->xs.Nodup->(∀s∈xs,GoodS B s)->xs.getLast?=some s->(everP B n xs (nextS B s)).2=none->∃t,(everP B n xs (nextS B s)).1.getLast?=some t/\t.2=none
 |0,xs,s,hN,nd,g,_,_=>by have:=few b nd g;omega
 |n+1,xs,s,hN,nd,g,hs,h=>by
  obtain⟨ls,fo⟩:=s
  cases fo with
  |none=>exact⟨_,hs,rfl⟩
  |some f=>
   have gs:=g _ (List.mem_of_getLast? hs)
   have gt:GoodS B ((B.fall ls f).ls,callO B ls f):=za5 b gs rfl
   generalize ht:((B.fall ls f).ls,callO B ls f)=t at gt
   have hnx:nextS B (ls,some f)=some t:=by rw[<-ht];rfl
   rw[hnx]at h ⊢
   cases hp:posS t 0 xs with
   |some j=>
    have hev:everP B (n+1) xs (some t)=(xs,some j):=by simp only[everP,hp]
    rw[hev]at h;cases h
   |none=>
    have hev:everP B (n+1) xs (some t)=everP B n (xs++[t]) (nextS B t):=by simp only[everP,hp]
    rw[hev]at h ⊢
    exact zjh b n (xs++[t]) t (by rw[vaf,va1];omega)
     (by
       rw[vcu]
       exact⟨nd,by simp,λa ha b hb=>by rw[vat.mp hb];exact λz=>zb3 hp (z▸ha)⟩)
     (λu hu=>by
       rcases vbj.mp hu with hu|hu
       .exact g u hu
       .rw[vat.mp hu];exact gt) (by simp) h
theorem zpn{f:Nat}(b:B.Ok)(hf:f<B.fd.length)(hl:(ls.length:Int)=B.gr)(bi:Bits ls):(∃i:Int,nameP B ls f=.int i)\/callO B ls f=none:=by
 have q:=b.fall hf hl bi
 by_cases z:(B.fall ls f).st=true
 .right
  have:outD B ls f=.tup [.non,.non]:=by unfold outD;rw[if_pos z]
  unfold callO;rw[this]
 .left
  have e:outD B ls f=B.door (lastC (B.col f) (B.fall ls f).cs):=by unfold outD;rw[if_neg z]
  obtain⟨_,d2⟩:=b.door q.c4.1 q.c4.2
  obtain⟨x,y,de,_⟩:=zfe d2
  unfold nameP
  rw[e,de]
  exact⟨x,rfl⟩
theorem zpo{B:Bd}(b:B.Ok){xs:List Stn}(g:∀s∈xs,GoodS B s)(ch:∀x∈xs,∃y∈xs,nextS B x=some y):∃v:List Int,xs.map (nmS B)=v.map .int:=by
 have key:∀s∈xs,∃i:Int,nmS B s=.int i:=by
  intro s hs
  obtain⟨y,hy,e⟩:=ch s hs
  obtain⟨ls,fo⟩:=s
  cases fo with
  |none=>cases e
  |some f=>
   obtain⟨hl,bi,hf⟩:=g _ hs
   rcases zpn b (hf f rfl) hl bi with h|h
   .exact h
   .obtain⟨z,hz,e2⟩:=ch y hy
    cases e
    unfold nextS at e2
    simp only[h]at e2
    cases e2
 clear ch g
 induction xs with
 |nil=>exact⟨[],rfl⟩
 |cons s xs ih=>
  obtain⟨i,hi⟩:=key s vam
  obtain⟨v,hv⟩:=ih λt ht=>key t (vai _ ht)
  exact⟨i::v,by rw[van,van,hi,hv]⟩
noncomputable def nnW(w:W):Bool:=!isNon w
theorem zef:∀(xs:List Stn),((xs.filter λs=>s.2.isSome).filter λs=>nnW (nmS B s)).map (nmS B)=(xs.map (nmS B)).filter nnW
 |[]=>rfl
 |s::xs=>by
  have ih:=zef (B:=B) xs
  obtain⟨ls,fo⟩:=s
  cases fo with
  |none=>
   have e:nnW (nmS B (ls,none))=false:=rfl
   rw[van,vc0,vc0,e]
   exact ih
  |some f=>
   rw[van,vc0,if_pos (show((ls,some f):Stn).2.isSome=true from rfl),vc0,vc0]
   split
   .rw[van,ih]
   .exact ih
theorem zmr(v:List Int):(v.map W.int).filter nnW=v.map .int:=by
 induction v with
 |nil=>rfl
 |cons i v ih=>rw[van,vc0,if_pos (show nnW (.int i)=true from rfl),ih]
theorem zkj(h:xs.getLast?=some t)(ht:t.2=none):(nmL B xs).filter nnW=(xs.map (nmS B)).filter nnW:=by
 have e:=zfl h
 unfold nmL
 conv=>rhs;rw[<-e]
 rw[vb5,List.filter_append]
 have:nmS B t=.non:=by unfold nmS;rw[ht]
 rw[van,this]
 show _=_++[]
 rw[vbc]
theorem zes{α:Type}{nx:Nat->VH->Option (Option W)}{c e:En->VH->Res W}{u:α->W}{tl:En}{p:α->Bool}{f:α->W}{zs:List α}(hx:∀i,nx i h=some ((zs.map u)[i]?))
 (ht:∀z∈zs,∃a b,u z=.tup [a,b]/\c (some a::some b::tl) h=.ok (.bl (p z)) h/\(p z=true->e (some a::some b::tl) h=.ok (f z) h)) :
 ∀(fu i:Nat)(x y:Option W)(acc:List W),i<=zs.length->zs.length<fu+i->lcG nx (tgW (.many [0,1])) c e fu i (x::y::tl) h acc=.ok (acc.reverse++((zs.drop i).filter p).map f) h
 |0,i,x,y,acc,hi,hl=>by omega
 |fu+1,i,x,y,acc,hi,hl=>by
  cases q:zs[i]? with
  |none=>
   rw[vdj (vbh.mp q)]
   have hn:(zs.map u)[i]?=none:=by rw[vbf,q];rfl
   rw[lcG,hx,hn]
   simp
  |some z=>
   obtain⟨hi,ee⟩:=va3.mp q
   obtain⟨a,b,hu,hc,he⟩:=ht z (vcb q)
   have hn:(zs.map u)[i]?=some (.tup [a,b]):=by rw[vbf,q,<-hu];rfl
   rw[lcG,hx,hn]
   simp only[tgW,seqW,zaz,vaq,vau,hc,bindok]
   rw[vc5 hi,ee,vc0]
   cases w:p z with
   |true=>
    simp only[he w,bindok]
    rw[zes hx ht fu (i+1) (some a) (some b) (f z::acc) hi (by omega)]
    simp
   |false=>
    simp only[vap,vbl]
    exact zes hx ht fu (i+1) (some a) (some b) acc hi (by omega)
structure CoreO(F:Nat->Option Fn):Prop extends CoreF F,CoreH F,CoreE0 F where
 f200:F 200=some fn200
 f269:F 269=some fn269
noncomputable def outS(B:Bd)(s:Stn):W:=match s.2 with
 |none=>.non
 |some f=>outD B s.1 f
noncomputable def papW(E:List Stn×Option Nat):W:=.tup [.tup (E.1.map stW),backW E.2]
theorem zkk{ρ:En}{ow:Nat}{ix:List Nat}(ea:ev cl a ρ h=.ok x h1)(el:lcG (nxt .seq x) (tgW t) (ev cl c) (ev cl e) fuel 0 (inner ow ix ρ) h1 []=.ok ys h2)(hy:ys.length<=1000000):ev cl (.lc .seq a t ow ix c e) ρ h=.ok (.ref h2.n) (h2.new (.lst ys)):=by
 rw[ev,ea,bindok,el,bindok,if_pos (zcy hy)]
section
variable{F:Nat->Option Fn}(C:CoreO F)
include C
theorem zji{k:Nat}{h:VH}{E:List Stn×Option Nat}(b:B.Ok)(g:∀s∈E.1,GoodS B s)(hlen:E.1.length<=1280) :
 ∃x,exs (run F (k+4)) (.seq (.unp [2,3] (.var 1)) (.seq (.set 4 (.lc .seq (.var 2) (.many [0,1]) 2 [0] zdj zeq)) (.seq (.set 5 (.bi .tuple (.cons (.lc .seq (.var 4) (.many [0,1]) 2 [] zdk zer) .nil))) .skip))) [some B.w,some (papW E),none,none,none,none] ⟨h.n,h.n,h.os⟩=.ok (.nx [some B.w,some (papW E),some (.tup (E.1.map stW)),some (backW E.2),x,some (.tup ((E.1.map (nmS B)).filter nnW))]) ((VH.new ⟨h.n,h.n,h.os⟩ (.lst ((E.1.filter λs=>s.2.isSome).map (outS B)))).new (.lst ((E.1.map (nmS B)).filter nnW))):=by
 have hf:fuel=1000000:=rfl
 have l1:=zes (nx:=nxt .seq (.tup (E.1.map stW))) (c:=ev (run F (k+4)) zdj) (e:=ev (run F (k+4)) zeq) (h:=⟨h.n,h.n,h.os⟩) (u:=stW) (tl:=[some B.w]) (p:=λs:Stn=>s.2.isSome) (f:=outS B) (zs:=E.1) (λi=>rfl) (λs hs=>by
  obtain⟨ls,fo⟩:=s
  obtain⟨hl,bi,hf⟩:=g _ hs
  refine⟨iW ls,optW fo,rfl,by cases fo<;>simp[zdj,ev,cmpW,eqYs,isNon,optW],λhp=>?_⟩
  cases fo with
  |none=>cases hp
  |some f=>
   have e:=zi7 C.toCoreE0 (k:=k) (h:=⟨h.n,h.n,h.os⟩) b (hf f rfl) hl bi
   exact idxE (zgm (varE rfl) (varE rfl) (varE rfl) rfl e) rfl rfl) fuel 0 none none [] (vbk _) (by omega)
 rw[vc6,vdx,vb4]at l1
 have e1:=zkk (cl:=run F (k+4)) (a:=.var 2) (c:=zdj) (e:=zeq) (t:=.many [0,1]) (ρ:=[some B.w,some (papW E),some (.tup (E.1.map stW)),some (backW E.2),none,none]) (h:=⟨h.n,h.n,h.os⟩) (ow:=2) (ix:=[0]) (varE rfl) l1 (by rw[vad];have:=vc4 (λs:Stn=>s.2.isSome) E.1;omega)
 generalize hds:(E.1.filter λs=>s.2.isSome)=zs at e1 ⊢
 have gz:(VH.new ⟨h.n,h.n,h.os⟩ (.lst (zs.map (outS B)))).get h.n=some (.lst (zs.map (outS B))):=zal (h:=⟨h.n,h.n,h.os⟩)
 have hz:zs.length<=1280:=by rw[<-hds];have:=vc4 (λs:Stn=>s.2.isSome) E.1;omega
 have l2:=zes (nx:=nxt .seq (.ref h.n)) (c:=ev (run F (k+4)) zdk) (e:=ev (run F (k+4)) zer) (h:=VH.new ⟨h.n,h.n,h.os⟩ (.lst (zs.map (outS B)))) (u:=outS B) (tl:=[]) (p:=λs:Stn=>nnW (nmS B s)) (f:=nmS B) (zs:=zs) (λi=>by simp only[nxt,seqW,gz];rfl) (λs hs=>by
  rw[<-hds]at hs
  obtain⟨hs,hp⟩:=veg.mp hs
  obtain⟨ls,fo⟩:=s
  obtain⟨hl,bi,hf⟩:=g _ hs
  cases fo with
  |none=>cases hp
  |some f=>
   obtain⟨oe,_⟩:=zcd b (hf f rfl) hl bi
   refine⟨nameP B ls f,optW (callO B ls f),oe,?_,λ_=>rfl⟩
   simp[zdk,ev,cmpW,eqYs,zbm,nnW,nmS]) fuel 0 none none [] (vbk _) (by omega)
 rw[vc6,vdx,vb4,<-hds,zef,hds]at l2
 have hN:((E.1.map (nmS B)).filter nnW).length<=1000000:=by have:=vc4 nnW (E.1.map (nmS B));rw[vad]at this;omega
 have e2:=zkk (cl:=run F (k+4)) (a:=.var 4) (c:=zdk) (e:=zer) (t:=.many [0,1]) (ρ:=[some B.w,some (papW E),some (.tup (E.1.map stW)),some (backW E.2),some (.ref h.n),none]) (h:=VH.new ⟨h.n,h.n,h.os⟩ (.lst (zs.map (outS B)))) (ow:=2) (ix:=[]) (varE rfl) l2 hN
 refine⟨some (.ref h.n),?_⟩
 refine(zaa (ρ':=[some B.w,some (papW E),some (.tup (E.1.map stW)),some (backW E.2),none,none]) (h':=⟨h.n,h.n,h.os⟩) rfl).trans ?_
 refine(zaa (setE e1)).trans ?_
 refine(zaa (setE (zgh e2 zal))).trans ?_
 rfl
omit C in
theorem zjj{ρ ρ':En}(e:exs cl (.seq a (.seq b (.seq c .skip))) ρ h=.ok (.nx ρ') h'):exs cl (.seq a (.seq b (.seq c d))) ρ h=exs cl d ρ' h':=by
 simp only[exs]at e ⊢
 cases h1:exs cl a ρ h with
 |no=>rw[h1]at e;cases e
 |ex x g=>rw[h1]at e;cases e
 |ok fl g=>
  rw[h1,bindok]at e
  rw[bindok]
  cases fl with
  |nx ρ1=>
   simp only at e ⊢
   cases h2:exs cl b ρ1 g with
   |no=>rw[h2]at e;cases e
   |ex x g=>rw[h2]at e;cases e
   |ok fl g=>
    rw[h2,bindok]at e
    rw[bindok]
    cases fl with
    |nx ρ2=>
     simp only at e ⊢
     cases h3:exs cl c ρ2 g with
     |no=>rw[h3]at e;cases e
     |ex x g=>rw[h3]at e;cases e
     |ok fl g=>
      rw[h3,bindok]at e
      rw[bindok]
      cases fl with
      |nx ρ3=>cases e;rfl
      |_=>cases e
    |_=>cases e
  |_=>cases e
theorem zpp{k:Nat}{h:VH}{E:List Stn×Option Nat}(b:B.Ok)(g:∀s∈E.1,GoodS B s)(hlen:E.1.length<=1280)(hE:E.2=none)(hlt:∀n,W.lts n ((E.1.map (nmS B)).filter nnW)=true) :
 run F (k+5) 200 [B.w,papW E] h=.ok (.tup [.tup ((E.1.map (nmS B)).filter nnW),.tup []]) h:=by
 rw[zaf C.f200 rfl]
 obtain⟨x,e1⟩:=zji C (k:=k) (h:=h) b g hlen
 have eb:exs (run F (k+4)) fn200.body [some B.w,some (papW E),none,none,none,none] ⟨h.n,h.n,h.os⟩=.ok (.rt (.tup [.tup ((E.1.map (nmS B)).filter nnW),.tup []])) ((VH.new ⟨h.n,h.n,h.os⟩ (.lst ((E.1.filter λs=>s.2.isSome).map (outS B)))).new (.lst ((E.1.map (nmS B)).filter nnW))):=by
  refine(zjj e1).trans ?_
  refine zab ?_
  refine(iteT (h1:=(VH.new ⟨h.n,h.n,h.os⟩ (.lst ((E.1.filter λs=>s.2.isSome).map (outS B)))).new (.lst ((E.1.map (nmS B)).filter nnW))) (by rw[hE];rfl)).trans ?_
  exact zab (retE (tup2E (varE rfl) rfl))
 show fin h (exs (run F (k+4)) fn200.body [some B.w,some (papW E),none,none,none,none] ⟨h.n,h.n,h.os⟩)=_
 rw[eb]
 exact zaj (vac _) (by simp[hlt])
theorem zpq{k:Nat}{h:VH}{E:List Stn×Option Nat}{i q:Nat}(b:B.Ok)(g:∀s∈E.1,GoodS B s)(hlen:E.1.length<=1280)(hE:E.2=some i)(hv:E.1.map (nmS B)=v.map .int)(hi:i<v.length)(L:Least (λj=>zad v i (v.length-i) (i+j)) (v.length-i) q) :
 run F (k+5) 200 [B.w,papW E] h=.ok (.tup [iW (seg (zad v i (v.length-i)) 0 (leadP (zad v i (v.length-i)) q i)),iW (seg (zad v i (v.length-i)) (leadP (zad v i (v.length-i)) q i) q)]) h:=by
 rw[zaf C.f200 rfl]
 obtain⟨x,e1⟩:=zji C (k:=k) (h:=h) b g hlen
 rw[hv,zmr]at e1
 have hvl:v.length=E.1.length:=by have:=vdu List.length hv;rw[vad,vad]at this;exact this.symm
 generalize hR:v.length-i=R at *
 have hvR:v.length=i+R:=by omega
 have hseg:=zd4 hvR
 generalize hh2:(VH.new ⟨h.n,h.n,h.os⟩ (.lst ((E.1.filter λs=>s.2.isSome).map (outS B)))).new (.lst (v.map .int))=h2 at e1
 have t1:v.take i=seg (zad v i R) 0 i:=by
  have:=zdl (zad v i R) (a:=0) (show i<=i+R by omega)
  rw[hseg]at this;exact this
 have t2:v.drop i=seg (λj=>zad v i R (i+j)) 0 R:=by
  have:=zhr (zad v i R) (a:=0) (show i<=i+R by omega)
  rw[hseg,show i+R-i=R by omega]at this
  rw[this]
  exact zbz λj _=>by rw[vb2,vb2]
 have t3:seg (λj=>zad v i R (i+j)) 0 q=seg (zad v i R) i q:=zbz λj _=>by rw[vb2]
 have e2:=zhu C.toCoreF (k:=k+3) (h:=h2) (zdm v i R) (by omega) (by omega) L
 rw[t3]at e2
 have q0:=L.q0
 have q1:=L.q1
 have e3:=zr2 C.toCoreF (k:=k+3) (h:=h2) (f:=zad v i R) (a:=i) q0 (by omega) (by omega)
 have eb:exs (run F (k+4)) fn200.body [some B.w,some (papW E),none,none,none,none] ⟨h.n,h.n,h.os⟩=.ok (.rt (.tup [iW (seg (zad v i R) 0 (leadP (zad v i R) q i)),iW (seg (zad v i R) (leadP (zad v i R) q i) q)])) h2:=by
  refine(zjj e1).trans ?_
  refine(zaa (ρ':=[some B.w,some (papW E),some (.tup (E.1.map stW)),some (backW E.2),x,some (.tup (v.map .int))]) (h':=h2) ?_).trans ?_
  .exact(iteF (h1:=h2) (by rw[hE];rfl)).trans rfl
  .refine zab (retE ?_)
   have s1:ev (run F (k+4)) (.slc (.var 5) false (.cst .non) true (.var 3)) [some B.w,some (papW E),some (.tup (E.1.map stW)),some (backW E.2),x,some (.tup (v.map .int))] h2=.ok (iW (seg (zad v i R) 0 i)) h2:=slcE (varE rfl) rfl (varE rfl) rfl (show partW true (backW E.2)=some (some (i:Int)) by rw[hE];rfl) (by
    rw[slcW_tup,zfm (by rw[vad];omega),<-vef,t1];rfl)
   have s2:ev (run F (k+4)) (.slc (.var 5) true (.var 3) false (.cst .non)) [some B.w,some (papW E),some (.tup (E.1.map stW)),some (backW E.2),x,some (.tup (v.map .int))] h2=.ok (iW (seg (λj=>zad v i R (i+j)) 0 R)) h2:=slcE (varE rfl) (varE rfl) rfl (show partW true (backW E.2)=some (some (i:Int)) by rw[hE];rfl) rfl (by
    rw[slcW_tup,zki (by rw[vad];omega),<-List.map_drop,t2];rfl)
   exact zas s1 (zgl s2 e2) e3
 show fin h (exs (run F (k+4)) fn200.body [some B.w,some (papW E),none,none,none,none] ⟨h.n,h.n,h.os⟩)=_
 rw[eb]
 refine zaj ?_ (by simp[iW_lt])
 rw[<-hh2];exact vac _
end
noncomputable def zb4:E:=(.cmp .notn (.var 0) (.cst .non))
noncomputable def zc2:E:=(.var 0)
noncomputable def zbo:E:=(.cmp .gt (.call 332 (.cons (.var 5) (.cons (.var 6) (.cons (.op .add (.var 3) (.bi .len (.cons (.var 4) .nil))) .nil)))) (.var 3))
noncomputable def zbd:S:=(.seq (.set 6 (.op .add (.var 6) (.cst (.int (1))))) .skip)
noncomputable def zcn:Fn:=⟨1,8,(.seq (.unp [1,2,3] (.var 0)) (.seq (.ite (.cmp .isn (.var 3) (.cst .non)) (.seq (.ret (.tup (.cons (.bi .tuple (.cons (.lc .seq (.var 2) (.one 0) 1 [] zb4 zc2) .nil)) (.cons (.tup .nil) .nil)))) .skip) .skip) (.seq (.set 4 (.slc (.var 2) true (.var 3) false (.cst .non))) (.seq (.set 5 (.op .add (.op .add (.op .add (.var 2) (.var 4)) (.var 4)) (.var 4))) (.seq (.set 6 (.cst (.int (1)))) (.seq (.whl zbo zbd) (.seq (.set 7 (.call 332 (.cons (.var 5) (.cons (.var 6) (.cons (.op .add (.var 3) (.bi .len (.cons (.var 4) .nil))) .nil))))) (.seq (.ret (.tup (.cons (.bi .tuple (.cons (.slc (.var 5) false (.cst .non) true (.var 7)) .nil)) (.cons (.bi .tuple (.cons (.slc (.var 5) true (.var 7) true (.op .add (.var 7) (.var 6))) .nil)) .nil)))) .skip))))))))⟩
noncomputable def zbe:S:=(.seq (.ite (.cmp .ne (.idx (.var 0) (.var 4)) (.idx (.var 0) (.op .add (.var 4) (.var 1)))) (.seq (.set 3 (.op .add (.var 4) (.cst (.int (1))))) .skip) .skip) .skip)
noncomputable def zet:Fn:=⟨3,5,(.seq (.set 3 (.cst (.int (0)))) (.seq (.«for» .rng1 (.cons (.op .add (.var 2) (.var 1)) .nil) (.one 4) zbe) (.seq (.ret (.var 3)) .skip)))⟩
structure C22(F:Nat->Option Fn):Prop where
 o:CoreO F
 f323:F 323=some zcn
 f332:F 332=some zet
theorem ztg{f:Nat->Int}{l N j:Nat}(g:h.get l=some (.lst ((seg f 0 N).map .int)))(hj:j<N):idxW h (.ref l) (.int (j:Int))=some (.int (f j)):=by
 simp only[idxW,g]
 exact zbg (by rw[vbf,zkf f N 0 j hj,vb2];rfl)
theorem zjk{f:Nat->Int}{l N q:Nat}(g:h.get l=some (.lst ((seg f 0 N).map .int))):∀(m a:Nat) (x:Option W),a+m+q<=N->∃x',forL (tgW (.one 4)) (exs cl zbe) (zan (a:Int) m) [some (.ref l),some (.int (q:Int)),some mo,some (.int (leadP f q a:Nat)),x] h=.ok (.nx [some (.ref l),some (.int (q:Int)),some mo,some (.int (leadP f q (a+m):Nat)),x']) h
 |0,a,x,_=>⟨x,rfl⟩
 |m+1,a,x,hN=>by
  obtain⟨x',ih⟩:=zjk (cl:=cl) (q:=q) (mo:=mo) g m (a+1) (some (.int (a:Int))) (by omega)
  refine⟨x',?_⟩
  have i1:ev cl (.idx (.var 0) (.var 4)) [some (.ref l),some (.int (q:Int)),some mo,some (.int (leadP f q a:Nat)),some (.int (a:Int))] h=.ok (.int (f a)) h:=idxE (varE rfl) (varE rfl) (ztg g (by omega))
  have i2:ev cl (.idx (.var 0) (.op .add (.var 4) (.var 1))) [some (.ref l),some (.int (q:Int)),some mo,some (.int (leadP f q a:Nat)),some (.int (a:Int))] h=.ok (.int (f (a+q))) h:=idxE (varE rfl) (opE (varE rfl) (varE rfl) (show opW .add (.int (a:Int)) (.int (q:Int)) h=.ok (.int ((a+q:Nat):Int)) h from rfl)) (ztg g (by omega))
  have ec:ev cl (.cmp .ne (.idx (.var 0) (.var 4)) (.idx (.var 0) (.op .add (.var 4) (.var 1)))) [some (.ref l),some (.int (q:Int)),some mo,some (.int (leadP f q a:Nat)),some (.int (a:Int))] h=.ok (.bl (!decide (f a=f (a+q)))) h:=by
   rw[ev,i1,bindok,i2,bindok]
   simp only[cmpW,eqYs,zau,vah,ofsome]
  have eb:exs cl zbe [some (.ref l),some (.int (q:Int)),some mo,some (.int (leadP f q a:Nat)),some (.int (a:Int))] h=.ok (.nx [some (.ref l),some (.int (q:Int)),some mo,some (.int (leadP f q (a+1):Nat)),some (.int (a:Int))]) h:=by
   unfold zbe
   by_cases z:f a=f (a+q)
   .rw[vbg z]at ec
    rw[leadP,if_pos z]
    exact(zaa ((iteF ec).trans rfl)).trans rfl
   .rw[vaz z]at ec
    rw[leadP,if_neg z]
    exact(zaa ((iteT ec).trans ((zaa (setE (opE (varE rfl) rfl (show opW .add (.int (a:Int)) (.int 1) h=.ok (.int ((a+1:Nat):Int)) h from rfl)))).trans rfl))).trans rfl
  show forL _ _ (.int (a:Int)::zan ((a:Int)+1) m) _ _=_
  simp only[forL,tgW,vau,vaq,eb,bindok]
  rw[show a+ (m+1)=a+1+m by omega]
  exact ih
section
variable{F:Nat->Option Fn}(C:C22 F)
include C
theorem zls{k:Nat}{f:Nat->Int}{l N q m:Nat}(g:h.get l=some (.lst ((seg f 0 N).map .int)))(hN:m+q+q<=N)(h5:N<=100000):run F (k+1) 332 [.ref l,.int (q:Int),.int (m:Int)] h=.ok (.int (leadP f q (m+q):Nat)) h:=by
 rw[zaf C.f332 rfl]
 have g':VH.get ⟨h.n,h.n,h.os⟩ l=some (.lst ((seg f 0 N).map .int)):=by rw[get_lo];exact g
 obtain⟨x',e1⟩:=zjk (cl:=run F k) (q:=q) (mo:=.int (m:Int)) g' (m+q) 0 none (by omega)
 rw[vb2]at e1
 have er:=zoo (n:=m+q) (tg:=tgW (.one 4)) (b:=exs (run F k) zbe) (ρ:=[some (.ref l),some (.int (q:Int)),some (.int (m:Int)),some (.int ((0:Nat):Int)),none]) (h:=⟨h.n,h.n,h.os⟩) (by omega)
 have eb:exs (run F k) zet.body [some (.ref l),some (.int (q:Int)),some (.int (m:Int)),none,none] ⟨h.n,h.n,h.os⟩=.ok (.rt (.int (leadP f q (m+q):Nat))) ⟨h.n,h.n,h.os⟩:=by
  refine(zaa (setE rfl)).trans ?_
  refine(zaa (ρ':=[some (.ref l),some (.int (q:Int)),some (.int (m:Int)),some (.int (leadP f q (m+q):Nat)),x']) (h':=⟨h.n,h.n,h.os⟩) ?_).trans (zab (retE (varE rfl)))
  have ea:ev (run F k) (.cons (.op .add (.var 2) (.var 1)) .nil) [some (.ref l),some (.int (q:Int)),some (.int (m:Int)),some (.int ((0:Nat):Int)),none] ⟨h.n,h.n,h.os⟩=.ok (.tup [.int ((m+q:Nat):Int)]) ⟨h.n,h.n,h.os⟩:=rfl
  show exs (run F k) (.«for» .rng1 (.cons (.op .add (.var 2) (.var 1)) .nil) (.one 4) zbe) [some (.ref l),some (.int (q:Int)),some (.int (m:Int)),some (.int ((0:Nat):Int)),none] ⟨h.n,h.n,h.os⟩=_
  rw[exs,ea,bindok,er]
  exact e1
 show fin h (exs (run F k) zet.body [some (.ref l),some (.int (q:Int)),some (.int (m:Int)),none,none] ⟨h.n,h.n,h.os⟩)=_
 rw[eb]
 exact zaj (vac _) (by simp)
theorem zms{k:Nat}{a c l:Nat}(g1:h.get l=some (.lst [.ref a,.ref c,.non]))(g2:h.get c=some (.lst ns))(hl:ns.length<=5000)(hlt:∀n,W.lts n (ns.filter nnW)=true):run F (k+2) 323 [.ref l] h=.ok (.tup [.tup (ns.filter nnW),.tup []]) h:=by
 rw[zaf C.f323 rfl]
 have g1':VH.get ⟨h.n,h.n,h.os⟩ l=some (.lst [.ref a,.ref c,.non]):=by rw[get_lo];exact g1
 have g2':VH.get ⟨h.n,h.n,h.os⟩ c=some (.lst ns):=by rw[get_lo];exact g2
 have l1:=zpi (nx:=nxt .seq (.ref c)) (c:=ev (run F (k+1)) zb4) (e:=ev (run F (k+1)) zc2) (h:=⟨h.n,h.n,h.os⟩) (ws:=ns) (tl:=[]) (p:=nnW) (f:=id) (λi=>by simp only[nxt,seqW,g2'];rfl) (λw _=>by simp[zb4,ev,cmpW,eqYs,zbm,nnW]) (λw _=>rfl) fuel 0 none [] (vbk _) (by have:fuel=1000000:=rfl;omega)
 rw[vc6,vdx,vb4,List.map_id]at l1
 have e1:=zkk (cl:=run F (k+1)) (a:=.var 2) (c:=zb4) (e:=zc2) (t:=.one 0) (ρ:=[some (.ref l),some (.ref a),some (.ref c),some .non,none,none,none,none]) (h:=⟨h.n,h.n,h.os⟩) (ow:=1) (ix:=[]) (varE rfl) l1 (by have:=vc4 nnW ns;omega)
 have eb:exs (run F (k+1)) zcn.body [some (.ref l),none,none,none,none,none,none,none] ⟨h.n,h.n,h.os⟩=.ok (.rt (.tup [.tup (ns.filter nnW),.tup []])) (VH.new ⟨h.n,h.n,h.os⟩ (.lst (ns.filter nnW))):=by
  refine(zaa (ρ':=[some (.ref l),some (.ref a),some (.ref c),some .non,none,none,none,none]) (h':=⟨h.n,h.n,h.os⟩) ?_).trans ?_
  .rw[exs,varE (x:=.ref l) rfl,bindok]
   simp only[tgW,seqW,g1',zaz,vau,vaq,vah,ofsome]
  refine zab ?_
  refine(iteT (h1:=⟨h.n,h.n,h.os⟩) rfl).trans ?_
  exact zab (retE (tup2E (zgh e1 (zal (h:=⟨h.n,h.n,h.os⟩))) rfl))
 show fin h (exs (run F (k+1)) zcn.body [some (.ref l),none,none,none,none,none,none,none] ⟨h.n,h.n,h.os⟩)=_
 rw[eb]
 exact zaj (vac _) (by simp[hlt])
end
theorem zkl{c:Nat}{l u:Option Int}(g:h.get c=some (.lst ws)):slcW (.ref c) l u h=.ok (.ref h.n) (h.new (.lst (cutW ws l u))):=by
 simp only[slcW,g]
section
variable{F:Nat->Option Fn}(C:C22 F)
include C
theorem zpr{k:Nat}{i R q l5 l4:Nat}{w0 w1 w2:W}{x7:Option W}(g5:h.get l5=some (.lst ((seg (zad v i R) 0 (i+R+R+R+R)).map .int)))(g4:h.get l4=some (.lst ((v.drop i).map .int)))(hv:v.length=i+R)(R0:1<=R)(h5:v.length<=5000)(L:Least (λj=>zad v i R (i+j)) R q) :
 ∀(n s fu:Nat),n<fu->s+n=q->1<=s->whlG (ev (run F (k+1)) zbo) (exs (run F (k+1)) zbd) fu [some w0,some w1,some w2,some (.int (i:Int)),some (.ref l4),some (.ref l5),some (.int (s:Int)),x7] h=.ok (.nx [some w0,some w1,some w2,some (.int (i:Int)),some (.ref l4),some (.ref l5),some (.int (q:Int)),x7]) h:=by
 have q1:=L.q1
 have ecs:∀s:Nat,1<=s->s<=R->ev (run F (k+1)) zbo [some w0,some w1,some w2,some (.int (i:Int)),some (.ref l4),some (.ref l5),some (.int (s:Int)),x7] h=.ok (.bl (decide (i<leadP (zad v i R) s (i+R+s)))) h:=by
  intro s s0 s1
  have e1:=zls C (k:=k) (f:=zad v i R) (h:=h) (l:=l5) (q:=s) (m:=i+R) g5 (by omega) (by omega)
  have el:ev (run F (k+1)) (.bi .len (.cons (.var 4) .nil)) [some w0,some w1,some w2,some (.int (i:Int)),some (.ref l4),some (.ref l5),some (.int (s:Int)),x7] h=.ok (.int (R:Int)) h:=by
   have:=lenE (cl:=run F (k+1)) (a:=.var 4) (ρ:=[some w0,some w1,some w2,some (.int (i:Int)),some (.ref l4),some (.ref l5),some (.int (s:Int)),x7]) (h:=h) (x:=.ref l4) (ws:=(v.drop i).map .int) (varE rfl) (by simp only[seqW,g4])
   rw[vad,vcp,show v.length-i=R by omega]at this
   exact this
  have e2:ev (run F (k+1)) (.call 332 (.cons (.var 5) (.cons (.var 6) (.cons (.op .add (.var 3) (.bi .len (.cons (.var 4) .nil))) .nil)))) [some w0,some w1,some w2,some (.int (i:Int)),some (.ref l4),some (.ref l5),some (.int (s:Int)),x7] h=.ok (.int (leadP (zad v i R) s (i+R+s):Nat)) h:=zed (varE rfl) (varE rfl) (opE (varE rfl) el (show opW .add (.int (i:Int)) (.int (R:Int)) h=.ok (.int ((i+R:Nat):Int)) h from rfl)) e1
  unfold zbo
  rw[ev,e2,bindok,varE (x:=.int (i:Int)) rfl,bindok]
  have hd:decide ((i:Int)< (leadP (zad v i R) s (i+R+s):Nat))=decide (i<leadP (zad v i R) s (i+R+s)):=decide_eq_decide.mpr (by omega)
  simp only[cmpW,eqYs,cmpI,vah,ofsome,hd]
 intro n
 induction n with
 |zero=>
  intro s fu hf hs s0
  obtain⟨fu,rfl⟩:∃m,fu=m+1:=⟨fu-1,by omega⟩
  have:s=q:=by omega
  subst this
  have ec:=ecs s s0 q1
  rw[vaz (by have:=(zlp (v:=v) (i:=i) (q:=s) R0).mpr L.pr;omega)]at ec
  rw[whlG,ec,bindok]
 |succ n ih=>
  intro s fu hf hs s0
  obtain⟨fu,rfl⟩:∃m,fu=m+1:=⟨fu-1,by omega⟩
  have ec:=ecs s s0 (by omega)
  rw[vbg (Nat.lt_of_not_le λz=>L.no s s0 (by omega) ((zlp R0).mp z))]at ec
  have eb:exs (run F (k+1)) zbd [some w0,some w1,some w2,some (.int (i:Int)),some (.ref l4),some (.ref l5),some (.int (s:Int)),x7] h=.ok (.nx [some w0,some w1,some w2,some (.int (i:Int)),some (.ref l4),some (.ref l5),some (.int ((s+1:Nat):Int)),x7]) h:=by
   unfold zbd
   exact(zaa (setE (opE (varE rfl) rfl (show opW .add (.int (s:Int)) (.int 1) h=.ok (.int ((s+1:Nat):Int)) h from rfl)))).trans rfl
  rw[whlG,ec,bindok]
  show Res.bind (exs (run F (k+1)) zbd _ _) _=_
  rw[eb,bindok]
  exact ih (s+1) fu (by omega) (by omega) (by omega)
theorem zmt{k:Nat}{a c l i R q:Nat}(g1:h.get l=some (.lst [.ref a,.ref c,.int (i:Int)]))(g2:h.get c=some (.lst (v.map .int)))(hv:v.length=i+R)(R0:1<=R)(h5:v.length<=5000)(L:Least (λj=>zad v i R (i+j)) R q) :
 run F (k+2) 323 [.ref l] h=.ok (.tup [iW (seg (zad v i R) 0 (leadP (zad v i R) q i)),iW (seg (zad v i R) (leadP (zad v i R) q i) q)]) h:=by
 rw[zaf C.f323 rfl]
 have g1':VH.get ⟨h.n,h.n,h.os⟩ l=some (.lst [.ref a,.ref c,.int (i:Int)]):=by rw[get_lo];exact g1
 have g2':VH.get ⟨h.n,h.n,h.os⟩ c=some (.lst (v.map .int)):=by rw[get_lo];exact g2
 have hc:=zaq g2
 have q0:=L.q0
 have q1:=L.q1
 have hr:(v.drop i).length=R:=by rw[vcp];omega
 have s4:ev (run F (k+1)) (.slc (.var 2) true (.var 3) false (.cst .non)) [some (.ref l),some (.ref a),some (.ref c),some (.int (i:Int)),none,none,none,none] ⟨h.n,h.n,h.os⟩=.ok (.ref h.n) (VH.new ⟨h.n,h.n,h.os⟩ (.lst ((v.drop i).map .int))):=slcE (varE rfl) (varE rfl) rfl rfl rfl (by
  rw[zkl g2',zki (by rw[vad];omega),<-List.map_drop])
 generalize hh1:VH.new ⟨h.n,h.n,h.os⟩ (.lst ((v.drop i).map .int))=h1 at s4
 have n1:h1.n=h.n+1:=by rw[<-hh1];rfl
 have lo1:h1.lo=h.n:=by rw[<-hh1];rfl
 have gc1:h1.get c=some (.lst (v.map .int)):=by rw[<-hh1];exact(zah (h:=⟨h.n,h.n,h.os⟩) hc).trans g2'
 have g41:h1.get h.n=some (.lst ((v.drop i).map .int)):=by rw[<-hh1];exact zal (h:=⟨h.n,h.n,h.os⟩)
 have o1:=zlh (h:=h1) gc1 g41 (by rw[vad,vad,hr];omega)
 have g42:(h1.new (.lst (v.map .int++(v.drop i).map .int))).get h.n=some (.lst ((v.drop i).map .int)):=(zah (by omega)).trans g41
 have o2:=zlh (h:=h1.new (.lst (v.map .int++(v.drop i).map .int))) (i:=h1.n) zal g42 (by rw[vaf,vad,vad,hr];omega)
 generalize hh2:h1.new (.lst (v.map .int++(v.drop i).map .int))=h2 at o1 o2 g42
 have n2:h2.n=h.n+2:=by rw[<-hh2];show h1.n+1=_;omega
 have lo2:h2.lo=h.n:=by rw[<-hh2];exact lo1
 have g43:(h2.new (.lst (v.map .int++(v.drop i).map .int++(v.drop i).map .int))).get h.n=some (.lst ((v.drop i).map .int)):=(zah (by omega)).trans g42
 have o3:=zlh (h:=h2.new (.lst (v.map .int++(v.drop i).map .int++(v.drop i).map .int))) (i:=h2.n) zal g43 (by rw[vaf,vaf,vad,vad,hr];omega)
 generalize hh3:h2.new (.lst (v.map .int++(v.drop i).map .int++(v.drop i).map .int))=h3 at o2 o3 g43
 have n3:h3.n=h.n+3:=by rw[<-hh3];show h2.n+1=_;omega
 have lo3:h3.lo=h.n:=by rw[<-hh3];exact lo2
 have hlong:(v.map W.int++(v.drop i).map .int++(v.drop i).map .int++(v.drop i).map .int)=(seg (zad v i R) 0 (i+R+R+R+R)).map .int:=by
  rw[zkh hv];simp only[vb5]
 rw[hlong]at o3
 have g44:(h3.new (.lst ((seg (zad v i R) 0 (i+R+R+R+R)).map .int))).get h.n=some (.lst ((v.drop i).map .int)):=(zah (by omega)).trans g43
 have g54:(h3.new (.lst ((seg (zad v i R) 0 (i+R+R+R+R)).map .int))).get h3.n=some (.lst ((seg (zad v i R) 0 (i+R+R+R+R)).map .int)):=zal
 generalize hh4:h3.new (.lst ((seg (zad v i R) 0 (i+R+R+R+R)).map .int))=h4 at o3 g44 g54
 have n4:h4.n=h.n+4:=by rw[<-hh4];show h3.n+1=_;omega
 have lo4:h4.lo=h.n:=by rw[<-hh4];exact lo3
 have s5:ev (run F (k+1)) (.op .add (.op .add (.op .add (.var 2) (.var 4)) (.var 4)) (.var 4)) [some (.ref l),some (.ref a),some (.ref c),some (.int (i:Int)),some (.ref h.n),none,none,none] h1=.ok (.ref h3.n) h4:=opE (opE (opE (varE rfl) (varE rfl) o1) (varE rfl) o2) (varE rfl) o3
 have ew:=zpr C (k:=k) (h:=h4) (w0:=.ref l) (w1:=.ref a) (w2:=.ref c) (x7:=none) g54 g44 hv R0 h5 L (q-1) 1 fuel (by have:fuel=1000000:=rfl;omega) (by omega) (by omega)
 have e7:=zls C (k:=k) (f:=zad v i R) (h:=h4) (l:=h3.n) (q:=q) (m:=i+R) g54 (by omega) (by omega)
 rw[zr0 L.pr]at e7
 have hA:=zhs (zad v i R) q i
 generalize leadP (zad v i R) q i=A at e7 hA ⊢
 have el:ev (run F (k+1)) (.bi .len (.cons (.var 4) .nil)) [some (.ref l),some (.ref a),some (.ref c),some (.int (i:Int)),some (.ref h.n),some (.ref h3.n),some (.int (q:Int)),none] h4=.ok (.int (R:Int)) h4:=by
  have:=lenE (cl:=run F (k+1)) (a:=.var 4) (ρ:=[some (.ref l),some (.ref a),some (.ref c),some (.int (i:Int)),some (.ref h.n),some (.ref h3.n),some (.int (q:Int)),none]) (h:=h4) (x:=.ref h.n) (ws:=(v.drop i).map .int) (varE rfl) (by simp only[seqW,g44])
  rw[vad,hr]at this
  exact this
 have t1:cutW ((seg (zad v i R) 0 (i+R+R+R+R)).map .int) none (some (A:Int))=(seg (zad v i R) 0 A).map .int:=by
  rw[zfm (by rw[vad,zbc];omega),<-vef,zdl _ (by omega)]
 have t2:cutW ((seg (zad v i R) 0 (i+R+R+R+R)).map .int) (some (A:Int)) (some ((A+q:Nat):Int))=(seg (zad v i R) A q).map .int:=by
  rw[zvj (by rw[vad,zbc];omega),<-List.map_drop,<-vef,zhr _ (by omega),vb2,zdl _ (by omega)]
 have s8:ev (run F (k+1)) (.slc (.var 5) false (.cst .non) true (.var 7)) [some (.ref l),some (.ref a),some (.ref c),some (.int (i:Int)),some (.ref h.n),some (.ref h3.n),some (.int (q:Int)),some (.int (A:Int))] h4=.ok (.ref h4.n) (h4.new (.lst ((seg (zad v i R) 0 A).map .int))):=slcE (varE rfl) rfl (varE rfl) rfl rfl (by rw[zkl g54,t1])
 have g55:(h4.new (.lst ((seg (zad v i R) 0 A).map .int))).get h3.n=some (.lst ((seg (zad v i R) 0 (i+R+R+R+R)).map .int)):=(zah (by omega)).trans g54
 have s9:ev (run F (k+1)) (.slc (.var 5) true (.var 7) true (.op .add (.var 7) (.var 6))) [some (.ref l),some (.ref a),some (.ref c),some (.int (i:Int)),some (.ref h.n),some (.ref h3.n),some (.int (q:Int)),some (.int (A:Int))] (h4.new (.lst ((seg (zad v i R) 0 A).map .int)))=.ok (.ref (h4.n+1)) ((h4.new (.lst ((seg (zad v i R) 0 A).map .int))).new (.lst ((seg (zad v i R) A q).map .int))):=slcE (varE rfl) (varE rfl) (opE (varE rfl) (varE rfl) (show opW .add (.int (A:Int)) (.int (q:Int)) _=.ok (.int ((A+q:Nat):Int)) _ from rfl)) rfl rfl (by rw[zkl g55,t2];rfl)
 have eb:exs (run F (k+1)) zcn.body [some (.ref l),none,none,none,none,none,none,none] ⟨h.n,h.n,h.os⟩=.ok (.rt (.tup [iW (seg (zad v i R) 0 A),iW (seg (zad v i R) A q)])) ((h4.new (.lst ((seg (zad v i R) 0 A).map .int))).new (.lst ((seg (zad v i R) A q).map .int))):=by
  refine(zaa (ρ':=[some (.ref l),some (.ref a),some (.ref c),some (.int (i:Int)),none,none,none,none]) (h':=⟨h.n,h.n,h.os⟩) ?_).trans ?_
  .rw[exs,varE (x:=.ref l) rfl,bindok]
   simp only[tgW,seqW,g1',zaz,vau,vaq,vah,ofsome]
  refine(zaa (ρ':=[some (.ref l),some (.ref a),some (.ref c),some (.int (i:Int)),none,none,none,none]) (h':=⟨h.n,h.n,h.os⟩) ((iteF (h1:=⟨h.n,h.n,h.os⟩) rfl).trans rfl)).trans ?_
  refine(zaa (setE s4)).trans ?_
  refine(zaa (setE s5)).trans ?_
  refine(zaa (setE rfl)).trans ?_
  refine(zaa (show exs (run F (k+1)) (.whl zbo zbd) _ _=_ from ew)).trans ?_
  refine(zaa (setE (zed (varE rfl) (varE rfl) (opE (varE rfl) el (show opW .add (.int (i:Int)) (.int (R:Int)) h4=.ok (.int ((i+R:Nat):Int)) h4 from rfl)) e7))).trans ?_
  exact zab (retE (tup2E (zgh s8 zal) (zgh s9 (zal (h:=h4.new (.lst ((seg (zad v i R) 0 A).map .int)))))))
 show fin h (exs (run F (k+1)) zcn.body [some (.ref l),none,none,none,none,none,none,none] ⟨h.n,h.n,h.os⟩)=_
 rw[eb]
 refine zaj ?_ (by simp[iW_lt])
 show h.n<=h4.lo
 omega
end
noncomputable def leq(x t:W):Bool:=match x,t with
 |.int i,.int j=>decide (i=j)
 |.non,.non=>true
 |_,_=>false
noncomputable def isBlW:W->Bool
 |.bl _=>true
 |_=>false
noncomputable def zb0:W->Bool
 |.tup _=>true
 |_=>false
mutual
noncomputable def weq(x:W):W->Bool
 |.tup ts=>(match x with
  |.tup xs=>weqs xs ts
  |_=>false)
 |t=>leq x t
noncomputable def weqs:List W->List W->Bool
 |[],[]=>true
 |x::xs,t::ts=>weq x t&&weqs xs ts
 |_,_=>false
end
theorem zb5:∀{xs ts:List W},weqs xs ts=true->xs.length=ts.length
 |[],[],_=>rfl
 |[],_::_,e=>by simp only[weqs]at e;cases e
 |_::_,[],e=>by simp only[weqs]at e;cases e
 |x::xs,t::ts,e=>by
  simp only[weqs,vab]at e
  rw[vaj,vaj,zb5 e.2]
noncomputable def zipB(xs ts:List W):List Bool:=List.zipWith weq xs ts
theorem zhv:∀{xs ts:List W},xs.length=ts.length->(zipB xs ts).all id=weqs xs ts
 |[],[],_=>rfl
 |x::xs,t::ts,e=>by
  simp only[zipB,List.zipWith_cons_cons,vcs,weqs,id]
  rw[show(List.zipWith weq xs ts).all id=weqs xs ts from zhv (by simpa using e)]
theorem zps:∀bs:List Bool,mapO blW (bs.map .bl)=some bs
 |[]=>rfl
 |b::bs=>by simp only[van,mapO,blW,zps bs]
theorem allB{ρ:En}{j:Nat}{bs:List Bool}(ea:ev cl a ρ h=.ok (.ref j) h1)(g:h1.get j=some (.lst (bs.map .bl))):ev cl (.bi .all (.cons a .nil)) ρ h=.ok (.bl (bs.all id)) h1:=by
 rw[ev,ev,ea,bindok,ev,bindok,bindok]
 show allW [.ref j] h1=_
 simp only[allW,g,zps,vah,ofsome]
theorem zpt:∀(xs ts:List W) (x y:Option W),(∀p∈xs.zip ts,ev cl e [some p.1,some p.2] h=.ok (.bl (weq p.1 p.2)) h)->lcL (tgW (.many [0,1])) (λ_ h=>.ok (.bl true) h) (ev cl e) (zipW xs ts) [x,y] h=.ok ((zipB xs ts).map .bl) h
 |[],_,x,y,_=>rfl
 |_::_,[],x,y,_=>rfl
 |a::xs,t::ts,x,y,hs=>by
  have e1:=hs (a,t) vam
  have e2:=zpt (e:=e) (h:=h) xs ts (some a) (some t) λp hp=>hs p (vai _ hp)
  show lcL _ _ _ (.tup [a,t]::zipW xs ts) _ _=_
  simp only[lcL,tgW,seqW,zaz,List.set,bindok,e1,e2];rfl
theorem zlu:(zipB xs ts).length<=xs.length:=by unfold zipB;rw[vd0];exact Nat.min_le_left _ _
theorem zcs:Kn h (.tup ws):=by unfold Kn;simp
theorem zgs(k:Kn h x):tyIs .tuple h x=some (zb0 x):=by
 cases x with
 |ref i=>
  unfold Kn at k
  simp only[tyIs]at k ⊢
  cases g:h.get i with
  |none=>rw[g]at k;exact absurd rfl k
  |some o=>rw[g]at k;cases o<;>first|rfl|exact absurd rfl k
 |fz _=>exact absurd rfl k
 |_=>rfl
theorem zfn(k:Kn h x):tyIs .bool h x=some (isBlW x):=by
 cases x with
 |ref i=>
  unfold Kn at k
  simp only[tyIs]at k ⊢
  cases g:h.get i with
  |none=>rw[g]at k;exact absurd rfl k
  |some o=>rw[g]at k;cases o<;>first|rfl|exact absurd rfl k
 |fz _=>exact absurd rfl k
 |_=>rfl
theorem zmu(k:Kn h x):tyIs .int h x=some (isInt x||isBlW x):=by
 cases x with
 |ref i=>
  unfold Kn at k
  simp only[tyIs]at k ⊢
  cases g:h.get i with
  |none=>rw[g]at k;exact absurd rfl k
  |some o=>rw[g]at k;cases o<;>first|rfl|exact absurd rfl k
 |fz _=>exact absurd rfl k
 |_=>rfl
noncomputable def leaf:W->Bool
 |.int _=>true
 |.non=>true
 |_=>false
noncomputable def T0(h:VH)(x:W):Prop:=Kn h x/\(isBlW x=false->∀t,leaf t=true->eqY h x t=some (leq x t))
section
variable{F:Nat->Option Fn}(C:CoreH F)(A:CoreA F)
include C A
omit A in
theorem zdn{k:Nat}(hx:T0 h x)(ht:leaf t=true):run F (k+1) 59 [x,t] h=.ok (.bl (leq x t)) h:=by
 rw[zaf C.f59 rfl]
 have hx':Kn ⟨h.n,h.n,h.os⟩ x:=kn_lo.mpr hx.1
 have e1:ev (run F k) (.tru (.isi .tuple (.var 1))) [some x,some t] ⟨h.n,h.n,h.os⟩=.ok (.bl false) ⟨h.n,h.n,h.os⟩:=by
  cases t<;>first|(cases ht;done)|simp[ev,truW]
 have e2:ev (run F k) (.isi .bool (.var 0)) [some x,some t] ⟨h.n,h.n,h.os⟩=.ok (.bl (isBlW x)) ⟨h.n,h.n,h.os⟩:=by
  rw[ev,varE rfl,bindok,zfn hx'];rfl
 have eb:exs (run F k) fn59.body [some x,some t] ⟨h.n,h.n,h.os⟩=.ok (.rt (.bl (leq x t))) ⟨h.n,h.n,h.os⟩:=by
  refine(zaa ((iteF e1).trans rfl)).trans (zab (retE ?_))
  rw[ev,ev,e2,bindok]
  cases z:isBlW x with
  |true=>
   cases x<;>cases z
   rfl
  |false=>
   simp only[vdh,bindok]
   rw[ev,varE rfl,bindok,varE rfl,bindok]
   have:eqY ⟨h.n,h.n,h.os⟩ x t=some (leq x t):=hx.2 z t ht
   simp only[cmpW,this,vah,ofsome]
 show fin h (exs (run F k) fn59.body [some x,some t] ⟨h.n,h.n,h.os⟩)=_
 rw[eb]
 exact zaj (vac _) (by simp)
theorem zeu{k:Nat}(hx:Kn h x)(hl:∀xs,x=.tup xs->xs.length<5000/\(xs.length=ts.length->∀p∈xs.zip ts,run F (k+1) 59 [p.1,p.2] ⟨h.n,h.n,h.os⟩=.ok (.bl (weq p.1 p.2)) ⟨h.n,h.n,h.os⟩)) :
 run F (k+2) 59 [x,.tup ts] h=.ok (.bl (weq x (.tup ts))) h:=by
 rw[zaf C.f59 rfl]
 have hx':Kn ⟨h.n,h.n,h.os⟩ x:=kn_lo.mpr hx
 have e5:ev (run F (k+1)) (.tru (.isi .tuple (.var 1))) [some x,some (.tup ts)] ⟨h.n,h.n,h.os⟩=.ok (.bl true) ⟨h.n,h.n,h.os⟩:=by
  simp[ev,truW]
 have el:ev (run F (k+1)) (.bi .len (.cons (.var 1) .nil)) [some x,some (.tup ts)] ⟨h.n,h.n,h.os⟩=.ok (.int ts.length) ⟨h.n,h.n,h.os⟩:=lenE (varE rfl) rfl
 have e4:ev (run F (k+1)) (.not (.tru (.call 6 (.cons (.var 0) (.cons (.bi .len (.cons (.var 1) .nil)) (.cons (.bi .len (.cons (.var 1) .nil)) .nil)))))) [some x,some (.tup ts)] ⟨h.n,h.n,h.os⟩=.ok (.bl (!(zar x ts.length ts.length))) ⟨h.n,h.n,h.os⟩:=by
  rw[ev,truE (zed (varE rfl) el el (zam A (k:=k) hx'))];rfl
 have hend:∀h',h.n<=h'.lo->fin h (.ok (.rt (.bl (weq x (.tup ts)))) h')=.ok (.bl (weq x (.tup ts))) h:=λh' z=>zaj z (by simp)
 show fin h (exs (run F (k+1)) fn59.body [some x,some (.tup ts)] ⟨h.n,h.n,h.os⟩)=_
 by_cases z:zar x ts.length ts.length=true
 .rw[z]at e4
  cases x<;>simp only[zar]at z<;>try(cases z;done)
  rename_i xs
  obtain⟨h5,hp⟩:=hl xs rfl
  have hlen:xs.length=ts.length:=by
   simp only[vab,va0]at z;omega
  have hz:(zipW xs ts).length<1000000:=by unfold zipW;rw[vd0];omega
  have e1:=zpt (cl:=run F (k+1)) (e:=zff) (h:=⟨h.n,h.n,h.os⟩) xs ts none none λp hp'=>zas (varE rfl) (varE rfl) (hp hlen p hp')
  have e2:=zkd (cl:=run F (k+1)) (a:=.cons (.var 0) (.cons (.var 1) .nil)) (ρ:=[some (.tup xs),some (.tup ts)]) (h:=⟨h.n,h.n,h.os⟩) (h1:=⟨h.n,h.n,h.os⟩) (ow:=2) (ix:=[]) (e:=zff) (t:=.many [0,1]) rfl hz e1 (by rw[vad];have:=zlu (xs:=xs) (ts:=ts);omega)
  have e3:=allB e2 zal
  rw[zhv hlen]at e3
  have eb:exs (run F (k+1)) fn59.body [some (.tup xs),some (.tup ts)] ⟨h.n,h.n,h.os⟩=.ok (.rt (.bl (weqs xs ts))) (VH.new ⟨h.n,h.n,h.os⟩ (.lst ((zipB xs ts).map .bl))):=by
   refine zab ?_
   rw[iteT e5]
   exact(zaa ((iteF e4).trans rfl)).trans (zab (retE e3))
  rw[eb]
  have:weq (.tup xs) (.tup ts)=weqs xs ts:=by simp only[weq]
  rw[<-this]
  exact hend _ (vac _)
 .have z':zar x ts.length ts.length=false:=by simpa using z
  rw[z']at e4
  have hw:weq x (.tup ts)=false:=by
   cases x<;>simp only[weq]
   rename_i xs
   cases q:weqs xs ts with
   |false=>rfl
   |true=>
    have:=zb5 q
    exact absurd (show zar (.tup xs) ts.length ts.length=true by simp[zar,this]) z
  have eb:exs (run F (k+1)) fn59.body [some x,some (.tup ts)] ⟨h.n,h.n,h.os⟩=.ok (.rt (.bl false)) ⟨h.n,h.n,h.os⟩:=by
   refine zab ?_
   rw[iteT e5]
   refine zab ((iteT e4).trans ?_)
   exact zab (retE rfl)
  rw[eb,<-hw]
  exact hend _ (vac _)
end
noncomputable def T1(h:VH)(x:W):Prop:=Kn h x/\∀ws,x=.tup ws->ws.length<5000/\∀y∈ws,T0 h y
noncomputable def T2(h:VH)(x:W):Prop:=Kn h x/\∀ws,x=.tup ws->ws.length<5000/\∀a b,ws=[a,b]->T1 h a/\T0 h b
noncomputable def T3(h:VH)(x:W):Prop:=Kn h x/\∀ws,x=.tup ws->ws.length<5000/\∀y∈ws,T2 h y
noncomputable def T4(h:VH)(x:W):Prop:=Kn h x/\∀ws,x=.tup ws->ws.length<5000/\∀a b,ws=[a,b]->T3 h a/\Kn h b/\(zb0 a=true->T0 h b)
theorem T0.lo{l:Nat}(t:T0 h x):T0 ⟨h.n,l,h.os⟩ x:=⟨kn_lo.mpr t.1,λz u hu=>t.2 z u hu⟩
theorem T1.lo{l:Nat}(t:T1 h x):T1 ⟨h.n,l,h.os⟩ x:=⟨kn_lo.mpr t.1,λws e=>⟨(t.2 ws e).1,λy hy=>((t.2 ws e).2 y hy).lo⟩⟩
theorem zev{f:Option Nat}:leaf (optW f)=true:=by cases f<;>rfl
theorem zdo{f:Option Nat}:leaf (backW f)=true:=by cases f<;>rfl
theorem zdp(h:leaf t=true):weq x t=leq x t:=by cases t<;>first|(cases h;done)|simp only[weq]
theorem zr4{xs:List W}{ls:List Int}{p:W×W}(hp:p∈xs.zip (ls.map .int)):p.1∈xs/\leaf p.2=true:=by
 obtain⟨a,b⟩:=p
 obtain⟨h1,h2⟩:=vd3 hp
 obtain⟨i,_,rfl⟩:=vb1.mp h2
 exact⟨h1,rfl⟩
section
variable{F:Nat->Option Fn}(C:CoreH F)(A:CoreA F)
include C A
theorem just1{k:Nat}{h:VH}{x:W}{ls:List Int}(t:T1 h x):run F (k+2) 59 [x,iW ls] h=.ok (.bl (weq x (iW ls))) h:=
 zeu C A t.1 λxs e=>⟨(t.2 xs e).1,λ_ p hp=>by
  obtain⟨h1,h2⟩:=zr4 hp
  rw[zdp h2]
  exact zdn C ((t.2 xs e).2 _ h1).lo h2⟩
theorem just2{k:Nat}(t:T2 h x):run F (k+3) 59 [x,stW s] h=.ok (.bl (weq x (stW s))) h:=
 zeu C A t.1 λxs e=>⟨(t.2 xs e).1,λhl p hp=>by
  match xs,e,hl,hp with
  |[a,b],e,_,hp=>
   obtain⟨ta,tb⟩:=(t.2 _ e).2 a b rfl
   rcases vax.mp hp with rfl|hp
   .exact just1 C A ta.lo
   .rcases vax.mp hp with rfl|hp
    .show run F (k+1+1) 59 [b,optW s.2] _=.ok (.bl (weq b (optW s.2))) _
     rw[zdp zev]
     exact zdn C tb.lo zev
    .cases hp⟩
end
section
variable{F:Nat->Option Fn}(C:CoreM F)
include C
theorem zr5{k:Nat}{j:Int}(hx:Kn h x):run F (k+1) 39 [x,.int j] h=.ok (.bl (leq x (.int j))) h:=by
 rw[zaf C.f39 rfl]
 have hx':Kn ⟨h.n,h.n,h.os⟩ x:=kn_lo.mpr hx
 have e1:ev (run F k) (.isi .int (.var 0)) [some x,some (.int j)] ⟨h.n,h.n,h.os⟩=.ok (.bl (isInt x||isBlW x)) ⟨h.n,h.n,h.os⟩:=by
  rw[ev,varE rfl,bindok,zmu hx'];rfl
 have e2:ev (run F k) (.isi .bool (.var 0)) [some x,some (.int j)] ⟨h.n,h.n,h.os⟩=.ok (.bl (isBlW x)) ⟨h.n,h.n,h.os⟩:=by
  rw[ev,varE rfl,bindok,zfn hx'];rfl
 have eb:exs (run F k) fn39.body [some x,some (.int j)] ⟨h.n,h.n,h.os⟩=.ok (.rt (.bl (leq x (.int j)))) ⟨h.n,h.n,h.os⟩:=by
  refine zab (retE ?_)
  rw[ev,e1,bindok]
  cases x with
  |int i=>
   show ev (run F k) (.and (.not (.isi .bool (.var 0))) (.cmp .eq (.var 0) (.var 1))) _ _=_
   rw[ev,ev,e2,bindok]
   simp only[isBlW,vdh,bindok]
   rw[ev,varE rfl,bindok,varE rfl,bindok]
   simp only[cmpW,eqYs,zau,vah,ofsome,leq]
  |bl b=>
   show ev (run F k) (.and (.not (.isi .bool (.var 0))) (.cmp .eq (.var 0) (.var 1))) _ _=_
   rw[ev,ev,e2,bindok]
   rfl
  |_=>rfl
 show fin h (exs (run F k) fn39.body [some x,some (.int j)] ⟨h.n,h.n,h.os⟩)=_
 rw[eb]
 exact zaj (vac _) (by simp)
theorem zpu{k:Nat}(hx:Kn h x)(ht:leaf t=true):run F (k+2) 92 [x,t] h=.ok (.bl (leq x t)) h:=by
 rw[zaf C.f92 rfl]
 have e1:ev (run F (k+1)) (.tru (.isi .tuple (.var 1))) [some x,some t] ⟨h.n,h.n,h.os⟩=.ok (.bl false) ⟨h.n,h.n,h.os⟩:=by
  cases t<;>first|(cases ht;done)|simp[ev,truW]
 have eb:exs (run F (k+1)) fn92.body [some x,some t] ⟨h.n,h.n,h.os⟩=.ok (.rt (.bl (leq x t))) ⟨h.n,h.n,h.os⟩:=by
  refine(zaa ((iteF e1).trans rfl)).trans ?_
  cases t with
  |non=>
   refine zab ?_
   rw[iteT (h1:=⟨h.n,h.n,h.os⟩) (by simp[ev,cmpW,isNon])]
   refine zab (retE ?_)
   have:leq x .non=isNon x:=by cases x<;>rfl
   rw[this]
   simp[ev,cmpW,isNon]
  |int j=>
   refine(zaa ((iteF (h1:=⟨h.n,h.n,h.os⟩) (by simp[ev,cmpW,isNon])).trans rfl)).trans (zab (retE ?_))
   exact zas (varE rfl) (varE rfl) (zr5 C (kn_lo.mpr hx))
  |_=>cases ht
 show fin h (exs (run F (k+1)) fn92.body [some x,some t] ⟨h.n,h.n,h.os⟩)=_
 rw[eb]
 exact zaj (vac _) (by simp)
theorem zlv{k:Nat}(hx:Kn h x)(hl:∀xs,x=.tup xs->xs.length<5000/\(xs.length=ts.length->∀p∈xs.zip ts,run F (k+1) 92 [p.1,p.2] ⟨h.n,h.n,h.os⟩=.ok (.bl (weq p.1 p.2)) ⟨h.n,h.n,h.os⟩)) :
 run F (k+2) 92 [x,.tup ts] h=.ok (.bl (weq x (.tup ts))) h:=by
 rw[zaf C.f92 rfl]
 have hx':Kn ⟨h.n,h.n,h.os⟩ x:=kn_lo.mpr hx
 have e5:ev (run F (k+1)) (.tru (.isi .tuple (.var 1))) [some x,some (.tup ts)] ⟨h.n,h.n,h.os⟩=.ok (.bl true) ⟨h.n,h.n,h.os⟩:=by
  simp[ev,truW]
 have e6:ev (run F (k+1)) (.not (.tru (.isi .tuple (.var 0)))) [some x,some (.tup ts)] ⟨h.n,h.n,h.os⟩=.ok (.bl (!(zb0 x))) ⟨h.n,h.n,h.os⟩:=by
  rw[ev,truE (b:=zb0 x) (h1:=⟨h.n,h.n,h.os⟩) (by rw[ev,varE rfl,bindok,zgs hx'];rfl)];rfl
 have hfalse:ev (run F (k+1)) (.or (.not (.tru (.isi .tuple (.var 0)))) (.cmp .ne (.bi .len (.cons (.var 0) .nil)) (.bi .len (.cons (.var 1) .nil)))) [some x,some (.tup ts)] ⟨h.n,h.n,h.os⟩=.ok (.bl true) ⟨h.n,h.n,h.os⟩->weq x (.tup ts)=false->
  exs (run F (k+1)) fn92.body [some x,some (.tup ts)] ⟨h.n,h.n,h.os⟩=.ok (.rt (.bl (weq x (.tup ts)))) ⟨h.n,h.n,h.os⟩:=λe4 hw=>by
  rw[hw]
  refine zab ?_
  rw[iteT e5]
  exact zab ((iteT e4).trans (zab (retE rfl)))
 have hend:∀h',h.n<=h'.lo->fin h (.ok (.rt (.bl (weq x (.tup ts)))) h')=.ok (.bl (weq x (.tup ts))) h:=λh' z=>zaj z (by simp)
 show fin h (exs (run F (k+1)) fn92.body [some x,some (.tup ts)] ⟨h.n,h.n,h.os⟩)=_
 cases hxx:zb0 x with
 |false=>
  rw[hxx]at e6
  have hw:weq x (.tup ts)=false:=by cases x<;>first|rfl|(cases hxx;done)|simp only[weq]
  rw[hfalse (orT e6) hw]
  exact hend _ (vac _)
 |true=>
  cases x<;>try(cases hxx;done)
  rename_i xs
  have e7:ev (run F (k+1)) (.cmp .ne (.bi .len (.cons (.var 0) .nil)) (.bi .len (.cons (.var 1) .nil))) [some (.tup xs),some (.tup ts)] ⟨h.n,h.n,h.os⟩=.ok (.bl (!decide ((xs.length:Int)=ts.length))) ⟨h.n,h.n,h.os⟩:=by
   rw[ev,lenE (x:=.tup xs) (ws:=xs) (varE rfl) rfl,bindok,lenE (x:=.tup ts) (ws:=ts) (varE rfl) rfl,bindok]
   simp only[cmpW,zau,vah,ofsome]
  by_cases z:xs.length=ts.length
  .obtain⟨h5,hp⟩:=hl xs rfl
   rw[vbg (show(xs.length:Int)=ts.length by omega)]at e7
   have hz:(zipW xs ts).length<1000000:=by unfold zipW;rw[vd0];omega
   have e1:=zpt (cl:=run F (k+1)) (e:=zkb) (h:=⟨h.n,h.n,h.os⟩) xs ts none none λp hp'=>zas (varE rfl) (varE rfl) (hp z p hp')
   have e2:=zkd (cl:=run F (k+1)) (a:=.cons (.var 0) (.cons (.var 1) .nil)) (ρ:=[some (.tup xs),some (.tup ts)]) (h:=⟨h.n,h.n,h.os⟩) (h1:=⟨h.n,h.n,h.os⟩) (ow:=2) (ix:=[]) (e:=zkb) (t:=.many [0,1]) rfl hz e1 (by rw[vad];have:=zlu (xs:=xs) (ts:=ts);omega)
   have e3:=allB e2 zal
   rw[zhv z]at e3
   have eb:exs (run F (k+1)) fn92.body [some (.tup xs),some (.tup ts)] ⟨h.n,h.n,h.os⟩=.ok (.rt (.bl (weqs xs ts))) (VH.new ⟨h.n,h.n,h.os⟩ (.lst ((zipB xs ts).map .bl))):=by
    refine zab ?_
    rw[iteT e5]
    exact(zaa ((iteF ((orF e6).trans e7)).trans rfl)).trans (zab (retE e3))
   rw[eb]
   have:weq (.tup xs) (.tup ts)=weqs xs ts:=by simp only[weq]
   rw[<-this]
   exact hend _ (vac _)
  .rw[vaz (show ¬(xs.length:Int)=ts.length by omega)]at e7
   have hw:weq (.tup xs) (.tup ts)=false:=by
    simp only[weq]
    cases q:weqs xs ts with
    |false=>rfl
    |true=>exact absurd (zb5 q) z
   rw[hfalse ((orF e6).trans e7) hw]
   exact hend _ (vac _)
end
theorem zfo{l d c:Nat}:Keep h ⟨h.n,l,h.os⟩ d c:=⟨vac _,λ_ _ _ _ e=>by rw[get_lo];exact e⟩
theorem zlw{d c:Nat}:Keep h (stD h xs) d c:=⟨vdy _,λi o _ _ e=>by
 have hi:=zaq e
 have:(stD h xs).get i=h.get i:=zah (h:=⟨h.n,h.n,h.os⟩) (o:=.dt (xs.map stW) (zan 0 xs.length)) hi
 rw[this];exact e⟩
theorem zvm:leq x .non=isNon x:=by cases x<;>rfl
noncomputable abbrev e204:E:=.or (.cmp .isn (.var 6) (.cst .non)) (.or (.cmp .inn (.var 6) (.var 5)) (.not (.tru (.call 59 (.cons (.var 7) (.cons (.var 6) .nil))))))
noncomputable abbrev V8(B:Bd)(s p st bk:W)(n:Nat)(c:Option Stn)(x:Option W):En:=[some B.w,some s,some p,some st,some bk,some (.ref n),some (optS c),x]
section
variable{F:Nat->Option Fn}(C:CoreH F)(A:CoreA F)(Y:CoreE0 F)(B':CoreB F)
include C A Y B'
omit B' in
theorem zeg{k:Nat}{s0 p st bk:W}{d' c':Nat}(b:B.Ok):∀(ts:List W) (n:Nat) (xs:List Stn) (c:Option Stn) (x:Option W),(∀y∈ts,∀h2,Keep h h2 d' c'->T2 h2 y)->1281<=n+xs.length->xs.Nodup->(∀s∈xs,GoodS B s)->(∀s,c=some s->GoodS B s)->
 ∃rest,(everP B n xs c).1=xs++rest/\
  ((weqs ts (rest.map stW)=false/\∃ys,forL (tgW (.one 7)) (exs (run F (k+5)) zaw) ts (V8 B s0 p st bk h.n c x) (stD h xs)=.ok (.rt (.bl false)) (stD h ys))\/
  ∃r1 r2 n' co x',rest=r1++r2/\weqs ts (r1.map stW)=true/\everP B n xs c=everP B n' (xs++r1) co/\1281<=n'+ (xs++r1).length/\(xs++r1).Nodup/\(∀s∈xs++r1,GoodS B s)/\(∀s,co=some s->GoodS B s)/\
   forL (tgW (.one 7)) (exs (run F (k+5)) zaw) ts (V8 B s0 p st bk h.n c x) (stD h xs)=.ok (.nx (V8 B s0 p st bk h.n co x')) (stD h (xs++r1)))
 |[],n,xs,c,x,hT,hN,nd,g,gc=>by
  obtain⟨rest,hr⟩:∃rest,(everP B n xs c).1=xs++rest:=by
   obtain⟨rest,_,_,h1,_⟩:=zd6 C A Y (k:=k) (h:=h) (s0:=s0) (p:=p) (st:=st) (bk:=bk) b n xs c x hN nd g gc
   exact⟨rest,h1⟩
  refine⟨rest,hr,.inr ⟨[],rest,n,c,x,rfl,by simp only[vcc,weqs],by rw[vbc],by rw[vbc];exact hN,by rw[vbc];exact nd,by rw[vbc];exact g,gc,?_⟩⟩
  rw[vbc];rfl
 |y::ts,0,xs,c,x,hT,hN,nd,g,gc=>by have:=few b nd g;omega
 |y::ts,n+1,xs,none,x,hT,hN,nd,g,gc=>by
  refine⟨[],(vbc _).symm,.inl ⟨by simp only[vcc,weqs],xs,?_⟩⟩
  have ec:ev (run F (k+5)) e204 (V8 B s0 p st bk h.n none (some y)) (stD h xs)=.ok (.bl true) (stD h xs):=orT (by simp[ev,cmpW,isNon,optS])
  have eb:exs (run F (k+5)) zaw (V8 B s0 p st bk h.n none (some y)) (stD h xs)=.ok (.rt (.bl false)) (stD h xs):=by
   unfold zaw
   exact zab ((iteT ec).trans (zab (retE rfl)))
  simp only[forL,tgW,vau,vaq,eb,bindok]
 |y::ts,n+1,xs,some s,x,hT,hN,nd,g,gc=>by
  have hin:=in_st (s:=s) (zce (h:=h) (xs:=xs))
  have n1:ev (run F (k+5)) (.cmp .isn (.var 6) (.cst .non)) (V8 B s0 p st bk h.n (some s) (some y)) (stD h xs)=.ok (.bl false) (stD h xs):=by simp[ev,cmpW,zbm,optS,zpd]
  cases hp:posS s 0 xs with
  |some i=>
   have hev:everP B (n+1) xs (some s)=(xs,some i):=by simp only[everP,hp]
   rw[hev]
   refine⟨[],(vbc _).symm,.inl ⟨by simp only[vcc,weqs],xs,?_⟩⟩
   have ec:ev (run F (k+5)) e204 (V8 B s0 p st bk h.n (some s) (some y)) (stD h xs)=.ok (.bl true) (stD h xs):=by
    rw[orF n1]
    exact orT (by simp[ev,cmpW,optS,hin,hp])
   have eb:exs (run F (k+5)) zaw (V8 B s0 p st bk h.n (some s) (some y)) (stD h xs)=.ok (.rt (.bl false)) (stD h xs):=by
    unfold zaw
    exact zab ((iteT ec).trans (zab (retE rfl)))
   simp only[forL,tgW,vau,vaq,eb,bindok]
  |none=>
   have hev:everP B (n+1) xs (some s)=everP B n (xs++[s]) (nextS B s):=by simp only[everP,hp]
   rw[hev]
   have hfew:=few b nd g
   have gs:=gc s rfl
   have hN2:1281<=n+ (xs++[s]).length:=by rw[vaf,va1];omega
   have nd2:(xs++[s]).Nodup:=by
    rw[vcu]
    exact⟨nd,by simp,λa ha b hb=>by rw[vat.mp hb];exact λz=>zb3 hp (z▸ha)⟩
   have g2:∀t∈xs++[s],GoodS B t:=λt ht=>by
    rcases vbj.mp ht with ht|ht
    .exact g t ht
    .rw[vat.mp ht];exact gs
   have hj:=just2 C A (k:=k+2) (h:=stD h xs) (s:=s) (hT y vam _ zlw)
   have ec:ev (run F (k+5)) e204 (V8 B s0 p st bk h.n (some s) (some y)) (stD h xs)=.ok (.bl (!weq y (stW s))) (stD h xs):=by
    rw[orF n1,orF (h1:=stD h xs) (by simp[ev,cmpW,optS,hin,hp]),ev,truE (zas (x:=y) (y:=stW s) (varE rfl) (varE rfl) hj)]
    rfl
   obtain⟨rest,h1,ih⟩:=zeg (k:=k) (h:=h) (s0:=s0) (p:=p) (st:=st) (bk:=bk) (d':=d') (c':=c') b ts n (xs++[s]) (nextS B s) (some y) (λz hz=>hT z (vai _ hz)) hN2 nd2 g2 (λt ht=>za5 b gs ht)
   refine⟨s::rest,by rw[h1,vda];rfl,?_⟩
   cases hw:weq y (stW s)with
   |false=>
    rw[hw]at ec
    refine .inl ⟨by simp only[van,weqs,hw,vb3],xs,?_⟩
    have eb:exs (run F (k+5)) zaw (V8 B s0 p st bk h.n (some s) (some y)) (stD h xs)=.ok (.rt (.bl false)) (stD h xs):=by
     unfold zaw
     exact zab ((iteT ec).trans (zab (retE rfl)))
    simp only[forL,tgW,vau,vaq,eb,bindok]
   |true=>
    rw[hw]at ec
    have e1:=putE (cl:=run F (k+5)) (o:=.var 5) (i:=.var 6) (v:=.bi .len (.cons (.var 5) .nil)) (ρ:=(V8 B s0 p st bk h.n (some s) (some y))) (h:=stD h xs) (a:=h.n) (xs:=xs) (s:=s) (zpc rfl zce) (varE rfl) (varE rfl) zce hp (by omega)
    rw[zpb]at e1
    have e2:=zee Y (k:=k) (h:=stD h (xs++[s])) b gs
    rw[zi8]at e2
    have eb:exs (run F (k+5)) zaw (V8 B s0 p st bk h.n (some s) (some y)) (stD h xs)=.ok (.nx (V8 B s0 p st bk h.n (nextS B s) (some y))) (stD h (xs++[s])):=by
     unfold zaw
     refine(zaa ((iteF ec).trans rfl)).trans ?_
     refine(zaa e1).trans ?_
     refine(zaa (setE (zas (varE rfl) (varE rfl) e2))).trans ?_
     rfl
    have hf:forL (tgW (.one 7)) (exs (run F (k+5)) zaw) (y::ts) (V8 B s0 p st bk h.n (some s) x) (stD h xs)=forL (tgW (.one 7)) (exs (run F (k+5)) zaw) ts (V8 B s0 p st bk h.n (nextS B s) (some y)) (stD h (xs++[s])):=by
     simp only[forL,tgW,vau,vaq,eb,bindok]
    rw[hf]
    rcases ih with⟨i1,i2⟩|⟨r1,r2,n',co,x',i1,i2,i3,i4,i5,i6,i7,i8⟩
    .exact .inl ⟨by simp only[van,weqs,hw,vdd];exact i1,i2⟩
    .have ha:xs++s::r1=xs++[s]++r1:=by rw[vda];rfl
     refine .inr ⟨s::r1,r2,n',co,x',by rw[i1];rfl,by simp only[van,weqs,hw,vdd];exact i2,?_⟩
     rw[ha]
     exact⟨i3,i4,i5,i6,i7,i8⟩
theorem zvn{k:Nat}{d' c':Nat}(b:B.Ok)(g:GoodS B s)(hT:∀h2,Keep h h2 d' c'->T4 h2 x) :
 run F (k+10) 204 [B.w,stW s,x] h=.ok (.bl (weq x (.tup [.tup ((everP B 1281 [] (some s)).1.map stW),backW (everP B 1281 [] (some s)).2]))) h:=by
 rw[zaf C.f204 rfl]
 have e0:=zfw Y B' (k:=k) (h:=⟨h.n,h.n,h.os⟩) b g
 have T:=hT _ (zfo (l:=h.n))
 have e6:=zam A (k:=k+8) (h:=⟨h.n,h.n,h.os⟩) (w:=x) (lo:=2) (hi:=2) T.1
 have e7:ev (run F (k+9)) (.not (.tru (.call 6 (.cons (.var 2) (.cons (.cst (.int (2))) (.cons (.cst (.int (2))) .nil)))))) [some B.w,some (stW s),some x,none,none,none,none,none] ⟨h.n,h.n,h.os⟩=.ok (.bl (!(zar x 2 2))) ⟨h.n,h.n,h.os⟩:=by
  rw[ev,truE (zed (x:=x) (y:=.int 2) (z:=.int 2) (varE rfl) rfl rfl e6)];rfl
 have hno:ev (run F (k+9)) (.or (.not (.tru (.call 6 (.cons (.var 2) (.cons (.cst (.int (2))) (.cons (.cst (.int (2))) .nil)))))) (.not (.tru (.isi .tuple (.idx (.var 2) (.cst (.int (0)))))))) [some B.w,some (stW s),some x,none,none,none,none,none] ⟨h.n,h.n,h.os⟩=.ok (.bl true) ⟨h.n,h.n,h.os⟩->
  exs (run F (k+9)) fn204.body [some B.w,some (stW s),some x,none,none,none,none,none] ⟨h.n,h.n,h.os⟩=.ok (.rt (.bl false)) ⟨h.n,h.n,h.os⟩:=λec=>by
  refine(zaa (exprE (zas (varE rfl) (varE rfl) e0))).trans ?_
  exact zab ((iteT ec).trans (zab (retE rfl)))
 have hend:∀(v:Bool) h',h.n<=h'.lo->fin h (.ok (.rt (.bl v)) h')=.ok (.bl v) h:=λv h' z=>zaj z (by simp)
 show fin h (exs (run F (k+9)) fn204.body [some B.w,some (stW s),some x,none,none,none,none,none] ⟨h.n,h.n,h.os⟩)=_
 by_cases z:zar x 2 2=true
 case neg=>
  have z':zar x 2 2=false:=by simpa using z
  rw[z']at e7
  rw[hno (orT e7),hend _ _ (vac _)]
  have:weq x (.tup [.tup ((everP B 1281 [] (some s)).1.map stW),backW (everP B 1281 [] (some s)).2])=false:=by
   cases x<;>simp only[weq]
   rename_i xs
   cases q:weqs xs _ with
   |false=>rfl
   |true=>
    have hl:xs.length=2:=zb5 q
    exact absurd (show zar (.tup xs) 2 2=true by simp[zar,hl]) z
  rw[this]
 case pos=>
  rw[z]at e7
  obtain⟨a,bk,rfl⟩:∃a bk,x=.tup [a,bk]:=by
   cases x<;>simp only[zar]at z<;>try(cases z;done)
   rename_i xs
   simp only[vab,va0]at z
   match xs,z with
   |[],z=>simp at z
   |[a],z=>simp at z
   |[a,c],_=>exact⟨a,c,rfl⟩
   |a::c::e::r,z=>simp only[vaj]at z;omega
  obtain⟨Ta,Tb,Tab⟩:=(T.2 _ rfl).2 a bk rfl
  have e8:ev (run F (k+9)) (.not (.tru (.isi .tuple (.idx (.var 2) (.cst (.int (0))))))) [some B.w,some (stW s),some (.tup [a,bk]),none,none,none,none,none] ⟨h.n,h.n,h.os⟩=.ok (.bl (!(zb0 a))) ⟨h.n,h.n,h.os⟩:=by
   rw[ev,truE (b:=zb0 a) (h1:=⟨h.n,h.n,h.os⟩) (by rw[ev,idxE (x:=.tup [a,bk]) (y:=.int 0) (z:=a) (varE rfl) rfl rfl,bindok,zgs Ta.1];rfl)];rfl
  cases hat:zb0 a with
  |false=>
   rw[hat]at e8
   rw[hno ((orF e7).trans e8),hend _ _ (vac _)]
   have:weq (.tup [a,bk]) (.tup [.tup ((everP B 1281 [] (some s)).1.map stW),backW (everP B 1281 [] (some s)).2])=false:=by
    simp only[weq,weqs]
    cases a<;>first|(cases hat;done)|simp only[weq,vb3]
   rw[this]
  |true=>
   rw[hat]at e8
   cases a<;>try(cases hat;done)
   rename_i ts
   obtain⟨nd,gd⟩:=zd3 b 1281 [] (some s) List.nodup_nil (λ_ h=>nomatch h) (λt ht=>by cases ht;exact g)
   have hts:ts.length<5000:=(Ta.2 _ rfl).1
   obtain⟨rest,hr,hl⟩:=zeg C A Y (k:=k+4) (h:=h) (s0:=stW s) (p:=.tup [.tup ts,bk]) (st:=.tup ts) (bk:=bk) (d':=d') (c':=c') b ts 1281 [] (some s) none
    (λy hy h2 K2=>(((hT h2 K2).2 _ rfl).2 _ _ rfl).1.2 _ rfl |>.2 y hy) (by decide) List.nodup_nil (λ_ h=>nomatch h) (λt ht=>by cases ht;exact g)
   rw[vb4]at hr
   have e1:exs (run F (k+9)) (.set 5 (.dsp .nil)) [some B.w,some (stW s),some (.tup [.tup ts,bk]),some (.tup ts),some bk,none,none,none] ⟨h.n,h.n,h.os⟩=.ok (.nx [some B.w,some (stW s),some (.tup [.tup ts,bk]),some (.tup ts),some bk,some (.ref h.n),none,none]) (stD h []):=by
    simp only[exs,ev,bindok,zcb]
    rw[if_pos (by decide)]
    rfl
   have efor:exs (run F (k+9)) (.«for» .seq (.var 3) (.one 7) zaw) (V8 B (stW s) (.tup [.tup ts,bk]) (.tup ts) bk h.n (some s) none) (stD h [])=forL (tgW (.one 7)) (exs (run F (k+4+5)) zaw) ts (V8 B (stW s) (.tup [.tup ts,bk]) (.tup ts) bk h.n (some s) none) (stD h []):=by
    rw[exs,varE (x:=.tup ts) rfl,bindok,zcv (by omega)]
   have estart:∀r,exs (run F (k+9)) (.seq (.«for» .seq (.var 3) (.one 7) zaw) (.seq (.ite (.cmp .isn (.var 6) (.cst .non)) (.seq (.ret (.cmp .isn (.var 4) (.cst .non))) .skip) .skip) (.seq (.ret (.and (.cmp .inn (.var 6) (.var 5)) (.call 59 (.cons (.var 4) (.cons (.idx (.var 5) (.var 6)) .nil))))) .skip))) (V8 B (stW s) (.tup [.tup ts,bk]) (.tup ts) bk h.n (some s) none) (stD h [])=r->
    exs (run F (k+9)) fn204.body [some B.w,some (stW s),some (.tup [.tup ts,bk]),none,none,none,none,none] ⟨h.n,h.n,h.os⟩=r:=λr e=>by
    refine(zaa (exprE (zas (varE rfl) (varE rfl) e0))).trans ?_
    refine(zaa ((iteF ((orF e7).trans e8)).trans rfl)).trans ?_
    refine(zaa (ρ':=[some B.w,some (stW s),some (.tup [.tup ts,bk]),some (.tup ts),some bk,none,none,none]) (h':=⟨h.n,h.n,h.os⟩) rfl).trans ?_
    refine(zaa e1).trans ?_
    exact(zaa (setE (varE rfl))).trans e
   rcases hl with⟨hw,ys,hl⟩|⟨r1,r2,n',co,x',hrr,hw,hev,hN,nd1,g1,gc,hl⟩
   .rw[estart _ (zab (efor.trans hl)),hend _ _ (vac _)]
    simp only[weq,weqs,hr,hw,vb3]
   .rw[vb4]at hev hN nd1 g1 hl
    have hlen:=few b nd1 g1
    cases co with
    |none=>
     have hE:everP B 1281 [] (some s)=(r1,none):=by
      rw[hev];cases n'<;>rfl
     have hr1:rest=r1:=by rw[<-hr,hE]
     have eb:=estart (.ok (.rt (.bl (isNon bk))) (stD h r1)) (by
      refine(zaa (efor.trans hl)).trans (zab ?_)
      rw[iteT (h1:=stD h r1) (by simp[ev,cmpW,isNon,optS])]
      exact zab (retE (by simp[ev,cmpW,isNon])))
     rw[eb,hend _ _ (vac _),hE]
     simp only[weq,weqs,hw,backW,vdd,Bool.and_true,zvm]
    |some t=>
     have hin:=in_st (s:=t) (zce (h:=h) (xs:=r1))
     have hi1:ev (run F (k+9)) (.cmp .isn (.var 6) (.cst .non)) (V8 B (stW s) (.tup [.tup ts,bk]) (.tup ts) bk h.n (some t) x') (stD h r1)=.ok (.bl false) (stD h r1):=by simp[ev,cmpW,zbm,optS,zpd]
     have hi2:ev (run F (k+9)) (.cmp .inn (.var 6) (.var 5)) (V8 B (stW s) (.tup [.tup ts,bk]) (.tup ts) bk h.n (some t) x') (stD h r1)=.ok (.bl (posS t 0 r1).isSome) (stD h r1):=by simp[ev,cmpW,optS,hin]
     obtain⟨m,rfl⟩:∃m,n'=m+1:=by
      cases n' with
      |zero=>omega
      |succ m=>exact⟨m,rfl⟩
     cases hp:posS t 0 r1 with
     |none=>
      rw[hp]at hi2
      have eb:=estart (.ok (.rt (.bl false)) (stD h r1)) (by
       refine(zaa (efor.trans hl)).trans ?_
       refine(zaa ((iteF hi1).trans rfl)).trans (zab (retE ?_))
       rw[ev,hi2];rfl)
      rw[eb,hend _ _ (vac _)]
      have hgt:r1.length<rest.length:=by
       have h2:everP B 1281 [] (some s)=everP B m (r1++[t]) (nextS B t):=by rw[hev];simp only[everP,hp]
       obtain⟨rest2,_,_,h3,_⟩:=zd6 C A Y (k:=k) (h:=h) (s0:=stW s) (p:=bk) (st:=bk) (bk:=bk) b m (r1++[t]) (nextS B t) none (by rw[vaf,va1];omega)
        (by
          rw[vcu]
          exact⟨nd1,by simp,λa ha b hb=>by rw[vat.mp hb];exact λz=>zb3 hp (z▸ha)⟩)
        (λu hu=>by
          rcases vbj.mp hu with hu|hu
          .exact g1 u hu
          .rw[vat.mp hu];exact gc t rfl) (λu hu=>za5 b (gc t rfl) hu)
       rw[<-hr,h2,h3,vaf,vaf,va1];omega
      have hwf:weqs ts (rest.map stW)=false:=by
       cases q:weqs ts (rest.map stW)with
       |false=>rfl
       |true=>
        have:=zb5 q
        have:=zb5 hw
        rw[vad]at *
        omega
      simp only[weq,weqs,hr,hwf,vb3]
     |some i=>
      rw[hp]at hi2
      have hE:everP B 1281 [] (some s)=(r1,some i):=by rw[hev];simp only[everP,hp]
      have hr1:rest=r1:=by rw[<-hr,hE]
      have Tk:T0 (stD h r1) bk:=(((hT _ (zlw (xs:=r1))).2 _ rfl).2 _ _ rfl).2.2 rfl
      have hj:=zdn C (k:=k+8) (h:=stD h r1) (x:=bk) (t:=.int (i:Int)) Tk rfl
      have eb:=estart (.ok (.rt (.bl (leq bk (.int (i:Int))))) (stD h r1)) (by
       refine(zaa (efor.trans hl)).trans ?_
       refine(zaa ((iteF hi1).trans rfl)).trans (zab (retE ?_))
       rw[ev,hi2,bindok]
       exact zas (x:=bk) (varE rfl) (idxE (varE rfl) (varE rfl) (ztb zce hp)) hj)
      rw[eb,hend _ _ (vac _),hE]
      simp only[weq,weqs,hw,backW,vdd,Bool.and_true]
end
mutual
theorem lt_up{m n:Nat}(h:m<=n):∀w:W,W.lt m w=true->W.lt n w=true
 |.tup ws,e=>by simp only[W.lt]at e ⊢;exact zpv h ws e
 |.fz ws,e=>by simp only[W.lt]at e ⊢;exact zpv h ws e
 |.ref i,e=>by
  simp only[W.lt]at e ⊢
  exact zao.mpr (vak (zao.mp e) h)
 |.non,_=>by simp
 |.bl _,_=>by simp
 |.int _,_=>by simp
 |.str _,_=>by simp
theorem zpv{m n:Nat}(h:m<=n):∀ws:List W,W.lts m ws=true->W.lts n ws=true
 |[],_=>by simp
 |w::ws,e=>by
  simp only[W.lts,vab]at e ⊢
  exact⟨lt_up h w e.1,zpv h ws e.2⟩
end
theorem zpw{n:Nat}(hw:W.lt n w=false):∀{ws:List W},w∈ws->W.lts n ws=false
 |x::ws,h=>by
  simp only[W.lts]
  rcases vax.mp h with rfl|h
  .rw[hw];rfl
  .rw[zpw hw h,vdt]
theorem zco{n:Nat}(hw:W.lt n w=false)(h:w∈ws):W.lt n (.tup ws)=false:=by simp only[W.lt];exact zpw hw h
theorem zcg{d c:Nat}:Keep h ((h.new o).set h.n o') d c:=⟨vdy _,λi x _ _ e=>by
 have hi:=zaq e
 rw[zag zal (by omega),zah hi]
 exact e⟩
noncomputable def Gd(d c:Nat)(T:VH->W->Prop)(n:Nat)(h:VH)(w:W):Prop:=(∀h2,T h2 w)\/(W.lt n w=false/\∀h2,Keep h h2 d c->T h2 w)
section
variable{d c n:Nat}{T T':VH->W->Prop}{h h1:VH}{w:W}
theorem Gd.keep(g:Gd d c T n h w)(K:Keep h h1 d c):Gd d c T n h1 w:=g.imp id λz=>⟨z.1,λh2 k=>z.2 h2 (K.trans k)⟩
theorem Gd.all(g:Gd d c T n h w):∀h2,Keep h h2 d c->T h2 w:=g.elim (λz h2 _=>z h2) λz=>z.2
theorem Gd.le{m:Nat}(g:Gd d c T n h w)(hm:m<=n):Gd d c T m h w:=g.imp id λz=>⟨by
 cases q:W.lt m w with
 |false=>rfl
 |true=>rw[lt_up hm w q]at z;exact absurd z.1 (by simp),z.2⟩
theorem Gd.into{f:W->W}(g:Gd d c T n h w)(hf:∀h,T h w->T' h (f w))(hl:W.lt n w=false->W.lt n (f w)=false):Gd d c T' n h (f w):=
 g.imp (λz h2=>hf h2 (z h2)) λz=>⟨hl z.1,λh2 k=>hf h2 (z.2 h2 k)⟩
end
theorem fin17{d c b b0:Nat}{ρ:En}{k:Nat}{T:VH->W->Prop}(e:exs (run F k) body ρ ⟨h.n,h.n,h.os⟩=.ok (.rt w) h')(D0:Dk h d c b0)(D:Dk h' d c b)(K:Keep ⟨h.n,h.n,h.os⟩ h' d c)(G:Gd d c T h.n h' w) :
 ∃h2,fin h (exs (run F k) body ρ ⟨h.n,h.n,h.os⟩)=.ok w h2/\Dk h2 d c b/\Keep h h2 d c/\Gd d c T h.n h2 w:=by
 obtain⟨h2,e2,D2,K2⟩:=zbh (cl:=run F k) (fl:=.nx []) e (.inr ⟨_,D0⟩) D K
 refine⟨h2,e2,D2,K2,?_⟩
 rcases G with G|⟨G1,G2⟩
 .exact .inl G
 .refine .inr ⟨G1,λh3 K3=>G2 h3 ?_⟩
  rw[e]at e2
  have e2:leave h w h'=.ok w h2:=e2
  unfold leave at e2
  rw[G1,vdt]at e2
  cases e2
  exact(zfo (h:=h') (l:=if Nat.ble h.lo h'.lo then h.lo else h'.lo)).trans K3
noncomputable def consL:List E->E
 |[]=>.nil
 |a::r=>.cons a (consL r)
noncomputable def El(cl:Call)(d c b:Nat)(ρ:En)(h0:VH)(P:VH->W->Prop)(a:E):Prop:=∀h1,Keep h0 h1 d c->Dk h1 d c b->∃w h2,ev cl a ρ h1=.ok w h2/\Dk h2 d c b/\Keep h1 h2 d c/\P h2 w
section
variable{cl:Call}{d c b n:Nat}{ρ:En}{h0 h1 h2 h:VH}{T:VH->W->Prop}{a x:E}{w:W}{i j l:Nat}
theorem consE(ea:ev cl a ρ h=.ok w h1)(er:ev cl r ρ h1=.ok (.tup xs) h2):ev cl (.cons a r) ρ h=.ok (.tup (w::xs)) h2:=by
 rw[ev,ea,bindok,er,bindok]
theorem lstE(ea:ev cl a ρ h=.ok (.tup xs) h1)(hx:xs.length<=1000):ev cl (.lst a) ρ h=.ok (.ref h1.n) (h1.new (.lst xs)):=by
 rw[ev,ea,bindok]
 exact if_pos (vd1.mpr hx)
theorem zlx:∀(as:List E),(∀a∈as,El cl d c b ρ h0 (Gd d c T n) a)->∀h1,Keep h0 h1 d c->Dk h1 d c b->
 ∃ws h2,ev cl (consL as) ρ h1=.ok (.tup ws) h2/\Dk h2 d c b/\Keep h1 h2 d c/\ws.length=as.length/\∀w∈ws,Gd d c T n h2 w
 |[],_,h1,_,D=>⟨[],h1,rfl,D,.refl,rfl,λ_ h=>nomatch h⟩
 |a::as,hs,h1,K,D=>by
  obtain⟨w,h2,e1,D1,K1,p⟩:=hs a vam h1 K D
  obtain⟨ws,h3,e2,D2,K2,hl,ps⟩:=zlx as (λa ha=>hs a (vai _ ha)) h2 (K.trans K1) D1
  refine⟨w::ws,h3,consE e1 e2,D2,K1.trans K2,by rw[vaj,vaj,hl],λy hy=>?_⟩
  rcases vax.mp hy with rfl|hy
  .exact p.keep K2
  .exact ps y hy
theorem Dk.ne_new(D:Dk h d c b)(hl:h.n<=l):l≠d/\l≠c:=by
 obtain⟨_,ns,cells,p,q,a1,a2,_⟩:=D
 have:=zaq a1
 have:=zaq a2
 exact⟨by omega,by omega⟩
theorem zkm(as:List E)(hs:∀a∈as,El cl d c b ρ h (Gd d c T n) a)(D:Dk h d c b)(hz:as.length<=1000):∃l ws h',exs cl (.set i (.lst (consL as))) ρ h=.ok (.nx (ρ.set i (some (.ref l)))) h'/\h'.get l=some (.lst ws)/\h.n<=l/\Dk h' d c b/\Keep h h' d c/\ws.length=as.length/\(∀w∈ws,Gd d c T n h' w)/\∀o,∀w∈ws,Gd d c T n (h'.set l o) w:=by
 obtain⟨ws,h2,e,D2,K2,hl,ps⟩:=zlx as hs h .refl D
 exact⟨h2.n,ws,h2.new (.lst ws),setE (lstE e (by rw[hl];exact hz)),zal,K2.le,D2.new,K2.new,hl,λw hw=>(ps w hw).keep (Keep.new .refl),λo w hw=>(ps w hw).keep zcg⟩
theorem zfp(as:List E)(hs:∀a∈as,El cl d c b ρ h (Gd d c T n) a)(D:Dk h d c b)(hρ:ρ[i]?=some (some (.ref l)))(g:h.get l=some (.lst ws0))(hl:l≠d/\l≠c)(h0:∀w∈ws0,Gd d c T n h w)(hz:ws0.length+as.length<=1000) :
 ∃l ws h',exs cl (.set i (.op .add (.var i) (.lst (consL as)))) ρ h=.ok (.nx (ρ.set i (some (.ref l)))) h'/\h'.get l=some (.lst ws)/\h.n<=l/\Dk h' d c b/\Keep h h' d c/\ws.length=ws0.length+as.length/\(∀w∈ws,Gd d c T n h' w)/\∀o,∀w∈ws,Gd d c T n (h'.set l o) w:=by
 obtain⟨ws,h2,e,D2,K2,hle,ps⟩:=zlx as hs h .refl D
 have K3:Keep h (h2.new (.lst ws)) d c:=K2.new
 have g3:(h2.new (.lst ws)).get l=some (.lst ws0):=K3.get l _ hl.1 hl.2 g
 have e3:opW .add (.ref l) (.ref h2.n) (h2.new (.lst ws))=.ok (.ref (h2.n+1)) ((h2.new (.lst ws)).new (.lst (ws0++ws))):=by
  have hb:Nat.ble (ws0.length+ws.length) big=true:=vd1.mpr (by rw[hle];exact vbe hz (by decide))
  simp only[opW,g3,zal,opL,hb,vbm]
  rfl
 refine⟨h2.n+1,ws0++ws,(h2.new (.lst ws)).new (.lst (ws0++ws)),setE (opE (varE hρ) (lstE e (by omega)) e3),zal,?_,D2.new.new,K3.new,by rw[vaf,hle],λw hw=>?_,λo w hw=>?_⟩
 .have:=K2.le;omega
 .rcases vbj.mp hw with hw|hw
  .exact(h0 w hw).keep K3.new
  .exact(ps w hw).keep ((Keep.new .refl).new)
 .rcases vbj.mp hw with hw|hw
  .exact(h0 w hw).keep (K3.trans zcg)
  .exact(ps w hw).keep ((Keep.new .refl).trans zcg)
theorem za3(e:∀h1,ev cl a ρ h1=.ok w h1)(t:∀h2,T h2 w):El cl d c b ρ h0 (Gd d c T n) a:=λh1 _ D=>⟨w,h1,e h1,D,.refl,.inl t⟩
theorem zly(hn:n<=h0.n)(e:∀h1,Keep h0 h1 d c->ev cl a ρ h1=.ok (.ref h1.n) (h1.new o))(t:∀i h2,h2.get i=some o->T h2 (.ref i)):El cl d c b ρ h0 (Gd d c T n) a:=λh1 K D=>by
 refine⟨.ref h1.n,h1.new o,e h1 K,D.new,Keep.new .refl,.inr ⟨?_,λh2 k=>t _ _ (k.get _ _ (D.ne_new (vac _)).1 (D.ne_new (vac _)).2 zal)⟩⟩
 simp only[W.lt]
 exact zbx (vbe hn K.le)
end
section
variable{F:Nat->Option Fn}(Q:CoreD F)
include Q
theorem pick{k i l d c b:Nat}{ρ:En}(hρ:ρ[i]?=some (some (.ref l)))(h0:ρ[0]?=some (some (.ref d)))(g:h.get l=some (.lst ws))(hl:l≠d/\l≠c)(D:Dk h d c b)(hb:b<1000000000)(hz:0<ws.length)(hz2:ws.length<=5000) :
 ∃w h',ev (run F (k+3)) (.idx (.var i) (.call 5 (.cons (.var 0) (.cons (.bi .len (.cons (.var i) .nil)) .nil)))) ρ h=.ok w h'/\w∈ws/\Dk h' d c (b+1)/\Keep h h' d c:=by
 obtain⟨r,h1,e1,r0,r1,D1,K1⟩:=take Q (k:=k) (m:=(ws.length:Int)) D hb (by omega) (by omega)
 obtain⟨j,rfl⟩:=va5 r0
 have hj:j<ws.length:=by omega
 have g1:=K1.get l _ hl.1 hl.2 g
 have es:ws[j]?=some ws[j]:=vav hj
 refine⟨ws[j],h1,?_,vcd hj,D1,K1⟩
 refine idxE (varE hρ) (zas (varE h0) (lenE (ws:=ws) (varE hρ) (by simp only[seqW,g])) e1) ?_
 simp only[idxW,g1]
 exact zbg es
end
theorem zlz(hx:leaf x=true)(ht:leaf t=true):eqY h x t=some (leq x t):=by
 cases x<;>first|(cases hx;done)|skip
 .cases t<;>first|(cases ht;done)|rfl
 .cases t<;>first|(cases ht;done)|skip
  .rfl
  .simp only[eqYs,zau,leq]
theorem za8(hx:leaf x=true):T0 h x:=⟨by cases x<;>first|(cases hx;done)|(unfold Kn;simp),λ_ t ht=>zlz hx ht⟩
theorem t0_bl{b:Bool}:T0 h (.bl b):=⟨by unfold Kn;simp,λz=>nomatch z⟩
theorem zzh{x:Str}(hx:PyData.strOk x=true):T0 h (.str x):=⟨by unfold Kn;simp,λ_ t ht=>by
 have hs:SeqAt.shaped (.str x)=true:=by
  unfold SeqAt.shaped
  rw[show PyData.canLay0 (.str x)=true from hx];rfl
 cases t<;>first|(cases ht;done)|skip
 all_goals
  simp only[eqYs]
  unfold eqW
  simp only[toD,hs,vdd]
  rfl⟩
theorem zvo(hx:leaf x=true):T0 h (.tup [x]):=⟨zcs,λ_ t ht=>by
 cases x<;>first|(cases hx;done)|skip
 all_goals cases t<;>first|(cases ht;done)|rfl⟩
theorem zjl{i:Nat}(g:h.get i=some (.lst ws)):Kn h (.ref i):=by unfold Kn;simp[tyIs,g]
theorem zvp{i:Nat}(g:h.get i=some (.dt [] [])):Kn h (.ref i):=by unfold Kn;simp[tyIs,g]
structure C17b(F:Nat->Option Fn):Prop where
 e:CoreE0 F
 hh:CoreH F
 x:CoreX F
 m:CoreM F
 q:CoreQ F
 b:CoreB F
 f20:F 20=some fn20
 f93:F 93=some fn93
 f99:F 99=some fn99
 f132:F 132=some fn132
theorem dsp0{ρ:En}:ev cl (.dsp .nil) ρ h=.ok (.ref h.n) (h.new (.dt [] [])):=by
 simp only[ev,bindok,zcb]
 rw[if_pos (by decide)]
 rfl
section
variable{F:Nat->Option Fn}{d c:Nat}
theorem zvq(hl:ws.length<5000)(hi:∀w∈ws,leaf w=true):T1 h (.tup ws):=⟨zcs,λws' e=>by
 cases e
 exact⟨hl,λz hz=>za8 (hi z hz)⟩⟩
theorem zfq(hx:Kn h x)(ht:zb0 x=false):T1 h x:=⟨hx,λws e=>by subst e;cases ht⟩
theorem t1_iW(hl:ls.length<=8):T1 h (iW ls):=zvq (by rw[vad];omega) λw hw=>by
 obtain⟨i,_,rfl⟩:=vb1.mp hw;rfl
theorem zvr(ta:T1 h a)(tb:T0 h b):T2 h (.tup [a,b]):=⟨zcs,λws e=>by
 cases e
 refine⟨by simp,λa' b' e=>?_⟩
 cases e
 exact⟨ta,tb⟩⟩
theorem zjm{ρ:En}(e:ev cl a ρ h=.ok (.tup ws) h):ev cl (.bi .list (.cons a .nil)) ρ h=.ok (.ref h.n) (h.new (.lst ws)):=by
 rw[ev,consE e rfl,bindok];rfl
theorem zhw{ls:List Int}{w:W}(h:w∈ls.map W.int):leaf w=true:=by
 obtain⟨i,_,rfl⟩:=vb1.mp h;rfl
end
theorem Dk.gx{d c b:Nat}(D:Dk h d c b)(g:∀i o,h.get i=some o->h'.get i=some o):Dk h' d c b:=by
 obtain⟨ne,ns,cells,p,q,a1,a2,a3⟩:=D
 exact⟨ne,ns,cells,p,q,g _ _ a1,g _ _ a2,a3⟩
theorem Dk.lt{d c b:Nat}(D:Dk h d c b):d<h.n/\c<h.n:=by
 obtain⟨ne,ns,cells,p,q,a1,a2,a3⟩:=D
 exact⟨zaq a1,zaq a2⟩
theorem zgt{i j:Nat}(g:h.get i=some (.lst ws))(e:ws[j]?=some w):idxW h (.ref i) (.int (j:Int))=some w:=by
 simp only[idxW,g]
 exact zbg e
theorem zpx{l:Nat}(hl:h.n<=l):∃h2,fin h (.ok (.rt (.ref l)) h')=.ok (.ref l) h2/\h2.n=h'.n/\∀i,h2.get i=h'.get i:=by
 have hlt:W.lt h.n (.ref l)=false:=by show Nat.blt l h.n=false;exact zbx hl
 refine⟨⟨h'.n,if Nat.ble h.lo h'.lo then h.lo else h'.lo,h'.os⟩,?_,rfl,λi=>get_lo⟩
 show leave h (.ref l) h'=_
 unfold leave;rw[hlt,vdt];rfl
section
variable{F:Nat->Option Fn}(C:C17b F)
include C
theorem zfr{k:Nat}{d c bb:Nat}(b:B.Ok)(D:Dk h d c bb)(hb:bb+20<1000000000) :
 ∃s h',run F (k+5) 93 [.ref d,B.w] h=.ok (stW s) h'/\GoodS B s/\Dk h' d c (bb+20)/\Keep h h' d c:=by
 rw[zaf C.f93 rfl]
 obtain⟨g,hg⟩:=va5 b.g1
 have hg8:g<=8:=by have:=b.g2;omega
 have hf1:=b.f1
 have hf4:=b.f2
 have D0:Dk ⟨h.n,h.n,h.os⟩ d c bb:=D.lo
 obtain⟨ls,h1,e1,l1,b1,D1,K1⟩:=zke C.q.toCoreD (k:=k) (g:=g) C.f20 D0 (by omega) hg8
 obtain⟨r,h2,e2,r0,r1,D2,K2⟩:=take C.q.toCoreD (k:=k+1) (m:=(B.fd.length:Int)) D1 (by omega) (by omega) (by omega)
 obtain⟨f,rfl⟩:=va5 r0
 obtain⟨t,h3,e3,t0,t1,D3,K3⟩:=take C.q.toCoreD (k:=k+1) (m:=12) D2 (by omega) (by omega) (by omega)
 have i1:idxW ⟨h.n,h.n,h.os⟩ B.w (.int 1)=some (.int B.gr):=rfl
 have i3:idxW h1 B.w (.int 3)=some (.tup B.fd):=rfl
 have ec:ev (run F (k+4)) (.cmp .eq (.call 5 (.cons (.var 0) (.cons (.cst (.int (12))) .nil))) (.cst (.int (7)))) [some (.ref d),some B.w,some (iW ls),some (.int f)] h2=.ok (.bl (decide (t=7))) h3:=by
  rw[ev,zas (x:=.ref d) (y:=.int 12) (varE rfl) rfl e3,bindok,ev,bindok]
  simp only[cmpW,eqYs,zau,vah,ofsome]
 have eb:exs (run F (k+4)) fn93.body [some (.ref d),some B.w,none,none] ⟨h.n,h.n,h.os⟩=.ok (.rt (stW (ls,if t=7 then none else some f))) h3:=by
  refine(zaa (setE (zas (varE rfl) (idxE (varE rfl) rfl i1) (by rw[hg];exact e1)))).trans ?_
  refine(zaa (setE (zas (varE rfl) (lenE (ws:=B.fd) (idxE (varE rfl) rfl i3) rfl) e2))).trans ?_
  by_cases z:t=7
  .rw[if_pos z]
   rw[vbg z]at ec
   refine zab ?_
   refine(iteT ec).trans ?_
   exact zab (retE (tup2E (varE rfl) rfl))
  .rw[if_neg z]
   rw[vaz z]at ec
   refine(zaa (ρ':=[some (.ref d),some B.w,some (iW ls),some (.int f)]) (h':=h3) ?_).trans (zab (retE (tup2E (varE rfl) (varE rfl))))
   exact(iteF ec).trans rfl
 obtain⟨h5,e5,D5,K5⟩:=zbh (cl:=run F (k+4)) (fl:=.nx []) (h:=h) eb (.inr ⟨bb,D⟩) (D3.mono (show _<=bb+20 by omega)) ((K1.trans K2).trans K3)
 refine⟨_,h5,e5,⟨by show(ls.length:Int)=B.gr;omega,b1,λf' e=>?_⟩,D5,K5⟩
 have e:(if t=7 then none else some f)=some f':=e
 split at e
 .cases e
 .cases e;omega
theorem zpy{k:Nat}{d c bb:Nat}(D:Dk h d c bb)(hb:bb+14000<1000000000) :
 ∃B h',run F (k+7) 99 [.ref d] h=.ok (Bd.w B) h'/\B.Ok/\Dk h' d c (bb+14000)/\Keep h h' d c:=by
 rw[zaf C.f99 rfl]
 have D0:Dk ⟨h.n,h.n,h.os⟩ d c bb:=D.lo
 obtain⟨t,h1,e1,t0,t1,D1,K1⟩:=take C.q.toCoreD (k:=k+3) (m:=8) D0 (by omega) (by omega) (by omega)
 have es:exs (run F (k+6)) (.set 1 (.call 5 (.cons (.var 0) (.cons (.cst (.int (8))) .nil)))) [some (.ref d),none] ⟨h.n,h.n,h.os⟩=.ok (.nx [some (.ref d),some (.int t)]) h1:=setE (zas (varE rfl) rfl e1)
 have ec:∀j:Int,ev (run F (k+6)) (.cmp .eq (.var 1) (.cst (.int j))) [some (.ref d),some (.int t)] h1=.ok (.bl (decide (t=j))) h1:=λj=>by
  simp[ev,cmpW,eqYs,zau]
 obtain⟨mw,mr,mg,hw1,hw2,hr1,hr2,hg1,hg2,hx⟩:∃mw mr mg:Int,1<=mw/\mw<=40/\0<=mr/\mr<=60/\0<=mg/\mg<=8/\∀w h2,run F (k+6) 26 [.ref d,.int mw,.int mr,.int mg] h1=.ok w h2->exs (run F (k+6)) fn99.body [some (.ref d),none] ⟨h.n,h.n,h.os⟩=.ok (.rt w) h2:=by
  by_cases z:t=0
  .refine⟨40,60,8,by decide,by decide,by decide,by decide,by decide,by decide,λw h2 e=>?_⟩
   refine(zaa es).trans (zab ?_)
   rw[iteT (by rw[ec,vbg z])]
   exact zab (retE (zgm (varE rfl) rfl rfl rfl e))
  .by_cases z1:t=1
   .refine⟨6,12,6,by decide,by decide,by decide,by decide,by decide,by decide,λw h2 e=>?_⟩
    refine(zaa es).trans ?_
    refine(zaa (ρ':=[some (.ref d),some (.int t)]) (h':=h1) (by rw[iteF (by rw[ec,vaz z])];rfl)).trans (zab ?_)
    rw[iteT (by rw[ec,vbg z1])]
    exact zab (retE (zgm (varE rfl) rfl rfl rfl e))
   .refine⟨9,8,4,by decide,by decide,by decide,by decide,by decide,by decide,λw h2 e=>?_⟩
    refine(zaa es).trans ?_
    refine(zaa (ρ':=[some (.ref d),some (.int t)]) (h':=h1) (by rw[iteF (by rw[ec,vaz z])];rfl)).trans ?_
    refine(zaa (ρ':=[some (.ref d),some (.int t)]) (h':=h1) (by rw[iteF (by rw[ec,vaz z1])];rfl)).trans (zab ?_)
    exact retE (zgm (varE rfl) rfl rfl rfl e)
 obtain⟨B,h2,e2,b,_,_,_,D2,K2⟩:=zfd C.q (k:=k) (mw:=mw) (mr:=mr) (mg:=mg) D1 (by omega) hw1 hw2 hr1 hr2 hg1 hg2
 obtain⟨h5,e5,D5,K5⟩:=zbh (cl:=run F (k+6)) (fl:=.nx []) (h:=h) (hx _ _ e2) (.inr ⟨bb,D⟩) (D2.mono (show _<=bb+14000 by omega)) (K1.trans K2)
 exact⟨B,h5,e5,b,D5,K5⟩
theorem near{k:Nat}{d c bb:Nat}(D:Dk h d c bb)(hb:bb+40000<1000000000) :
 ∃B s l h',run F (k+8) 132 [.ref d] h=.ok (.ref l) h'/\h'.get l=some (.lst [Bd.w B,stW s])/\B.Ok/\GoodS B s/\h.n<=l/\Dk h' d c (bb+40000)/\Keep h h' d c:=by
 rw[zaf C.f132 rfl]
 have D0:Dk ⟨h.n,h.n,h.os⟩ d c bb:=D.lo
 obtain⟨B,h1,e1,b,D1,K1⟩:=zpy C (k:=k) D0 (by omega)
 obtain⟨s,h2,e2,gs,D2,K2⟩:=zfr C (k:=k+2) b D1 (by omega)
 obtain⟨i,a,c',h3,e3,g1,g2,_,hna,_,G⟩:=zjc C.x (k:=k+4) (h:=h2) b gs
 obtain⟨nd,gd⟩:=zd3 b 1280 [s] (nextS B s) (by simp) (λt ht=>by rw[vat.mp ht];exact gs) (λt ht=>za5 b gs ht)
 generalize everP B 1280 [s] (nextS B s)=E at *
 have hfew:=few b nd gd
 have D3:=D2.gx G.get
 have K3:Keep h2 h3 d c:=⟨G.le,λi o _ _ e=>G.get i o e⟩
 have hr:=b.r1
 have el:ev (run F (k+7)) (.bi .len (.cons (.idx (.call 112 (.cons (.var 1) (.cons (.var 2) .nil))) (.cst (.int (0)))) .nil)) [some (.ref d),some B.w,some (stW s)] h2=.ok (.int (E.1.length:Int)) h3:=by
  have:=lenE (cl:=run F (k+7)) (a:=.idx (.call 112 (.cons (.var 1) (.cons (.var 2) .nil))) (.cst (.int (0)))) (ρ:=[some (.ref d),some B.w,some (stW s)]) (h:=h2) (h1:=h3) (x:=.ref a) (ws:=E.1.map stW) (idxE (zas (varE rfl) (varE rfl) e3) rfl (zgt (j:=0) g1 rfl)) (by simp only[seqW,g2])
  rw[vad]at this
  exact this
 have er:ev (run F (k+7)) (.bi .len (.cons (.idx (.var 1) (.cst (.int (2)))) .nil)) [some (.ref d),some B.w,some (stW s)] h3=.ok (.int (B.rows.length:Int)) h3:=by
  have:=lenE (cl:=run F (k+7)) (a:=.idx (.var 1) (.cst (.int (2)))) (ρ:=[some (.ref d),some B.w,some (stW s)]) (h:=h3) (h1:=h3) (x:=.tup (B.rows.map .tup)) (ws:=B.rows.map .tup) (idxE (varE rfl) rfl rfl) rfl
  rw[vad]at this
  exact this
 have em:opW .mul (.int (E.1.length:Int)) (.int (B.rows.length:Int)) h3=.ok (.int ((E.1.length:Int)* (B.rows.length:Int))) h3:=by
  have hs:zbk (E.1.length:Int)=true:=zde (by omega) (by omega)
  simp only[opW,opI,hs,Bool.true_or,vbm,vah,ofsome]
 have ec:ev (run F (k+7)) (.cmp .gt (.op .mul (.bi .len (.cons (.idx (.call 112 (.cons (.var 1) (.cons (.var 2) .nil))) (.cst (.int (0)))) .nil)) (.bi .len (.cons (.idx (.var 1) (.cst (.int (2)))) .nil))) (.cst (.int (6000)))) [some (.ref d),some B.w,some (stW s)] h2=.ok (.bl (decide ((6000:Int)< (E.1.length:Int)* (B.rows.length:Int)))) h3:=by
  rw[ev,opE el er em,bindok,ev,bindok]
  simp only[cmpW,eqYs,cmpI,vah,ofsome]
 obtain⟨hd3,hc3⟩:=D3.lt
 have hdn:d<h.n/\c<h.n:=D.lt
 by_cases z:(6000:Int)< (E.1.length:Int)* (B.rows.length:Int)
 .rw[vbg z]at ec
  obtain⟨B2,h4,e4,b2,_,_,_,D4,K4⟩:=zfd C.q (k:=k+1) (mw:=9) (mr:=8) (mg:=4) D3 (by omega) (by omega) (by omega) (by omega) (by omega) (by omega) (by omega)
  obtain⟨s2,h5,e5,gs2,D5,K5⟩:=zfr C (k:=k+2) b2 D4 (by omega)
  have eb:exs (run F (k+7)) fn132.body [some (.ref d),none,none] ⟨h.n,h.n,h.os⟩=.ok (.rt (.ref h5.n)) (h5.new (.lst [B2.w,stW s2])):=by
   refine(zaa (setE (zgl (varE rfl) e1))).trans ?_
   refine(zaa (setE (zas (varE rfl) (varE rfl) e2))).trans ?_
   refine(zaa (ρ':=[some (.ref d),some B2.w,some (stW s2)]) (h':=h5) ?_).trans ?_
   .refine(iteT ec).trans ?_
    refine(zaa (setE (zgm (varE rfl) rfl rfl rfl e4))).trans ?_
    exact(zaa (setE (zas (varE rfl) (varE rfl) e5))).trans rfl
   .exact zab (retE (lst2E (varE rfl) (varE rfl)))
  have Kall:Keep ⟨h.n,h.n,h.os⟩ (h5.new (.lst [B2.w,stW s2])) d c:=((((K1.trans K2).trans K3).trans K4).trans K5).new
  have hle:h.n<=h5.n:=((((K1.trans K2).trans K3).trans K4).trans K5).le
  obtain⟨h6,e6,n6,g6⟩:=zpx (h:=h) (h':=h5.new (.lst [B2.w,stW s2])) hle
  refine⟨B2,s2,h5.n,h6,?_,(g6 _).trans zal,b2,gs2,hle,?_,⟨by rw[n6];exact Kall.le,λi o x y e=>by rw[g6];exact Kall.get i o x y (by rw[get_lo];exact e)⟩⟩
  .show fin h (exs (run F (k+7)) fn132.body [some (.ref d),none,none] ⟨h.n,h.n,h.os⟩)=_
   rw[eb];exact e6
  .exact(D5.new.gx (h':=h6) λi o e=>by rw[g6];exact e).mono (by omega)
 .rw[vaz z]at ec
  have eb:exs (run F (k+7)) fn132.body [some (.ref d),none,none] ⟨h.n,h.n,h.os⟩=.ok (.rt (.ref h3.n)) (h3.new (.lst [B.w,stW s])):=by
   refine(zaa (setE (zgl (varE rfl) e1))).trans ?_
   refine(zaa (setE (zas (varE rfl) (varE rfl) e2))).trans ?_
   refine(zaa (ρ':=[some (.ref d),some B.w,some (stW s)]) (h':=h3) ((iteF ec).trans rfl)).trans ?_
   exact zab (retE (lst2E (varE rfl) (varE rfl)))
  have Kall:Keep ⟨h.n,h.n,h.os⟩ (h3.new (.lst [B.w,stW s])) d c:=((K1.trans K2).trans K3).new
  have hle:h.n<=h3.n:=((K1.trans K2).trans K3).le
  obtain⟨h6,e6,n6,g6⟩:=zpx (h:=h) (h':=h3.new (.lst [B.w,stW s])) hle
  refine⟨B,s,h3.n,h6,?_,(g6 _).trans zal,b,gs,hle,?_,⟨by rw[n6];exact Kall.le,λi o x y e=>by rw[g6];exact Kall.get i o x y (by rw[get_lo];exact e)⟩⟩
  .show fin h (exs (run F (k+7)) fn132.body [some (.ref d),none,none] ⟨h.n,h.n,h.os⟩)=_
   rw[eb];exact e6
  .exact(D3.new.gx (h':=h6) λi o e=>by rw[g6];exact e).mono (by omega)
end
theorem t2_st(h8:s.1.length<=8):T2 h (stW s):=zvr (t1_iW h8) (za8 zev)
theorem zvs(hx:Kn h x)(ht:zb0 x=false):T3 h x:=⟨hx,λws e=>by subst e;cases ht⟩
theorem zth(hl:ws.length<5000)(hs:∀w∈ws,T2 h w):T3 h (.tup ws):=⟨zcs,λws' e=>by cases e;exact⟨hl,hs⟩⟩
theorem zbp(hx:leaf x=true):Kn h x:=(za8 (h:=h) hx).1
theorem tup1V{ρ:En}(e:ev cl a ρ h=.ok x h1):ev cl (.tup (.cons a .nil)) ρ h=.ok (.tup [x]) h1:=by
 rw[ev,consE e rfl,bindok];rfl
theorem zpz{l j:Nat}(g:h.get l=some (.lst ws))(hj:j<ws.length):setL (.ref l) (.int (j:Int)) w h=.ok .non (h.set l (.lst (ws.set j w))):=by
 have e:ixN ws.length (j:Int)=some j:=by
  unfold ixN
  rw[if_pos (by omega),if_pos (by omega)];rfl
 simp only[setL,g,e]
theorem addV{ρ:En}(ea:ev cl a ρ h=.ok (.tup xs) h)(eb:ev cl b ρ h=.ok (.tup ys) h1)(hl:xs.length+ys.length<=1000000):ev cl (.op .add a b) ρ h=.ok (.tup (xs++ys)) h1:=opE ea eb (zs4 hl)
theorem zp0{ws:List W}{w x:W}{j:Nat}(h:w∈ws.set j x):w∈ws\/w=x:=List.mem_or_eq_of_mem_set h
theorem zfs(ta:T3 h a)(kb:Kn h b)(tb:zb0 a=true->T0 h b):T4 h (.tup [a,b]):=⟨zcs,λws e=>by
 cases e
 refine⟨by simp,λa' b' e=>?_⟩
 cases e
 exact⟨ta,kb,tb⟩⟩
theorem zkn(hx:Kn h x)(ht:zb0 x=false):T4 h x:=⟨hx,λws e=>by subst e;cases ht⟩
theorem t4_no(hl:ws.length<5000)(h2:ws.length≠2):T4 h (.tup ws):=⟨zcs,λws' e=>by
 cases e
 exact⟨hl,λa b e=>by subst e;exact absurd rfl h2⟩⟩
section
variable{F:Nat->Option Fn}(C:C22 F)
include C
theorem zp1(b:B.Ok)(g:GoodS B s):∃xs ys:List W,(∀w∈xs,leaf w=true)/\(∀w∈ys,leaf w=true)/\xs.length<=1280/\ys.length<=1280/\(∀(k:Nat) (h:VH),run F (k+5) 200 [B.w,papW (everP B 1280 [s] (nextS B s))] h=.ok (.tup [.tup xs,.tup ys]) h)/\
 ∀(k:Nat)(h:VH)(l a c:Nat),h.get l=some (.lst [.ref a,.ref c,backW (everP B 1280 [s] (nextS B s)).2])->h.get c=some (.lst (if(everP B 1280 [s] (nextS B s)).2=none then nmL B (everP B 1280 [s] (nextS B s)).1 else(everP B 1280 [s] (nextS B s)).1.map (nmS B)))->run F (k+2) 323 [.ref l] h=.ok (.tup [.tup xs,.tup ys]) h:=by
 obtain⟨nd,gd⟩:=zd3 b 1280 [s] (nextS B s) (by simp) (λt ht=>by rw[vat.mp ht];exact g) (λt ht=>za5 b g ht)
 have hlast:=zjh b 1280 [s] s (show 1281<=1280+1 by decide) (by simp) (λt ht=>by rw[vat.mp ht];exact g) rfl
 have hback:=λi=>zjg (B:=B) 1280 [s] (nextS B s) (i:=i)
 have hch:=λi=>zgr (B:=B) 1280 [s] (nextS B s) (i:=i) (λx hx=>by rw[vat.mp hx];exact .inl rfl)
 generalize everP B 1280 [s] (nextS B s)=E at *
 have hfew:=few b nd gd
 cases hE:E.2 with
 |none=>
  obtain⟨t,ht,ht2⟩:=hlast hE
  have hn:∀w∈(E.1.map (nmS B)).filter nnW,w=.non\/∃i:Int,w=.int i:=by
   intro w hw
   obtain⟨hw,_⟩:=veg.mp hw
   obtain⟨u,hu,rfl⟩:=vb1.mp hw
   obtain⟨ls,fo⟩:=u
   cases fo with
   |none=>exact .inl rfl
   |some f=>
    obtain⟨hl,bi,hf⟩:=gd _ hu
    obtain⟨_,_,h3⟩:=zi5 b (hf f rfl) hl bi
    exact h3
  have hlts:=λn=>zo6 n hn
  have hlen:((E.1.map (nmS B)).filter nnW).length<=1280:=by have:=vc4 nnW (E.1.map (nmS B));rw[vad]at this;omega
  refine⟨(E.1.map (nmS B)).filter nnW,[],λw hw=>?_,(λ_ z=>nomatch z),hlen,by decide,λk h=>zpp C.o b gd hfew hE hlts,λk h l a c g1 g2=>?_⟩
  .rcases hn w hw with rfl|⟨i,rfl⟩<;>rfl
  .rw[if_pos rfl]at g2
   have e:=zkj (B:=B) ht ht2
   have:=zms C (k:=k) g1 g2 (by unfold nmL;rw[vad,vds];omega) (by rw[e];exact hlts)
   rw[e]at this
   exact this
 |some i=>
  obtain⟨v,hv⟩:=zpo b gd (hch i hE)
  have hvl:v.length=E.1.length:=by have:=vdu List.length hv;rw[vad,vad]at this;exact this.symm
  have hi:i<v.length:=by rw[hvl];exact hback i hE
  obtain⟨q,L⟩:=zrz (zdm v i (v.length-i)) (by omega)
  have q1:=L.q1
  have hA:=zhs (zad v i (v.length-i)) q i
  refine⟨(seg (zad v i (v.length-i)) 0 (leadP (zad v i (v.length-i)) q i)).map .int,(seg (zad v i (v.length-i)) (leadP (zad v i (v.length-i)) q i) q).map .int,λw hw=>zhw hw,λw hw=>zhw hw,by rw[vad,zbc];omega,by rw[vad,zbc];omega,λk h=>zpq C.o b gd hfew hE hv hi L,λk h l a c g1 g2=>?_⟩
  .rw[if_neg (by simp),hv]at g2
   exact zmt C (k:=k) g1 g2 (by omega) (by omega) (by omega) L
end
noncomputable def qb0:List E:=[.tup (.cons (.op .add (.var 2) (.var 3)) (.cons (.var 3) .nil)),.tup (.cons (.op .add (.var 2) (.slc (.var 3) false (.cst .non) true (.cst (.int (1))))) (.cons (.op .add (.slc (.var 3) true (.cst (.int (1))) false (.cst .non)) (.slc (.var 3) false (.cst .non) true (.cst (.int (1))))) .nil)),.tup (.cons (.var 2) (.cons (.op .add (.var 3) (.var 3)) .nil))]
noncomputable def qb1:List E:=[.tup (.cons (.var 3) (.cons (.var 2) .nil)),.tup (.cons (.var 2) (.cons (.var 3) (.cons (.tup .nil) .nil))),.tup (.cons (.op .add (.var 2) (.var 3)) (.cons (.tup .nil) .nil))]
noncomputable def qb2:List E:=[.tup (.cons (.slc (.var 2) false (.cst .non) true (.neg (.cst (.int (1))))) (.cons (.op .add (.slc (.var 2) true (.neg (.cst (.int (1)))) false (.cst .non)) (.slc (.var 3) false (.cst .non) true (.neg (.cst (.int (1)))))) .nil)),.lst (.cons (.var 2) (.cons (.var 3) .nil)),.tup (.cons (.var 2) .nil)]
noncomputable def qb3:List E:=[.cst .non,.cst (.int (0)),.cst (.str (PySem.Str.ofString "word")),.dsp .nil,.tup .nil,.tup (.cons (.cst .non) (.cons (.cst .non) .nil)),.tup (.cons (.bi .list (.cons (.var 2) .nil)) (.cons (.var 3) .nil)),.tup (.cons (.tup .nil) (.cons (.var 3) .nil))]
noncomputable def zdq:Fn:=⟨2,6,(.seq (.unp [2,3] (.var 1)) (.seq (.set 4 (.call 5 (.cons (.var 0) (.cons (.cst (.int (6))) .nil)))) (.seq (.ite (.cmp .lt (.var 4) (.cst (.int (2)))) (.seq (.ret (.tup (.cons (.call 701 (.cons (.var 0) (.cons (.var 2) .nil))) (.cons (.var 3) .nil)))) .skip) .skip) (.seq (.ite (.cmp .lt (.var 4) (.cst (.int (4)))) (.seq (.ret (.tup (.cons (.var 2) (.cons (.call 701 (.cons (.var 0) (.cons (.var 3) .nil))) .nil)))) .skip) .skip) (.seq (.set 5 (.lst (consL qb0))) (.seq (.set 5 (.op .add (.var 5) (.lst (consL qb1)))) (.seq (.set 5 (.op .add (.var 5) (.lst (consL qb2)))) (.seq (.set 5 (.op .add (.var 5) (.lst (consL qb3)))) (.seq (.expr (.mt .append (.var 5) (.cons (.tup (.cons (.tup .nil) (.cons (.op .add (.var 2) (.var 3)) .nil))) .nil))) (.seq (.ret (.idx (.var 5) (.call 5 (.cons (.var 0) (.cons (.bi .len (.cons (.var 5) .nil)) .nil))))) .skip))))))))))⟩
noncomputable def qa0:List E:=[.op .add (.op .add (.slc (.var 1) false (.cst .non) true (.var 2)) (.tup (.cons (.var 4) .nil))) (.slc (.var 1) true (.op .add (.var 2) (.cst (.int (1)))) false (.cst .non)),.op .add (.op .add (.slc (.var 1) false (.cst .non) true (.var 2)) (.tup (.cons (.var 4) .nil))) (.slc (.var 1) true (.var 2) false (.cst .non)),.op .add (.slc (.var 1) false (.cst .non) true (.var 2)) (.slc (.var 1) true (.op .add (.var 2) (.cst (.int (1)))) false (.cst .non))]
noncomputable def qa1:List E:=[.op .add (.var 1) (.var 1),.op .add (.slc (.var 1) true (.cst (.int (1))) false (.cst .non)) (.slc (.var 1) false (.cst .non) true (.cst (.int (1)))),.bi .list (.cons (.var 1) .nil),.bi .rev (.cons (.var 1) (.cons (.neg (.cst (.int (1)))) .nil)),.tup .nil,.cst .non]
noncomputable def qa2:List E:=[.tup (.cons (.var 1) .nil),.op .add (.var 1) (.tup (.cons (.cst .non) .nil))]
noncomputable abbrev o701:E:=.idx (.lst (.cons (.call 5 (.cons (.var 0) (.cons (.cst (.int (100))) .nil))) (.cons (.cst (.int (0))) (.cons (.cst (.int (1))) (.cons (.cst (.bl true)) (.cons (.cst .non) (.cons (.cst (.str (PySem.Str.ofString "0"))) (.cons (.tup (.cons (.cst (.int (0))) .nil)) (.cons (.neg (.cst (.int (1)))) (.cons (.cst (.int (100))) (.cons (.cst (.bl false)) .nil))))))))))) (.call 5 (.cons (.var 0) (.cons (.cst (.int (10))) .nil)))
noncomputable abbrev i701:S:=.ite (.and (.cmp .lt (.var 2) (.bi .len (.cons (.var 1) .nil))) (.cmp .lt (.var 3) (.bi .len (.cons (.var 1) .nil)))) (.seq (.set 6 (.bi .list (.cons (.var 1) .nil))) (.seq (.sw (.var 6) (.var 2) (.var 6) (.var 3) (.tup (.cons (.idx (.var 6) (.var 3)) (.cons (.idx (.var 6) (.var 2)) .nil)))) (.seq (.expr (.mt .append (.var 5) (.cons (.bi .tuple (.cons (.var 6) .nil)) .nil))) (.seq (.expr (.mt .append (.var 5) (.cons (.op .add (.op .add (.slc (.var 1) false (.cst .non) true (.var 2)) (.tup (.cons (.cmp .eq (.idx (.var 1) (.var 2)) (.cst (.int (1)))) .nil))) (.slc (.var 1) true (.op .add (.var 2) (.cst (.int (1)))) false (.cst .non))) .nil))) .skip)))) .skip
noncomputable def zhx:Fn:=⟨2,7,(.seq (.set 2 (.call 5 (.cons (.var 0) (.cons (.op .add (.bi .len (.cons (.var 1) .nil)) (.cst (.int (1)))) .nil)))) (.seq (.set 3 (.call 5 (.cons (.var 0) (.cons (.op .add (.bi .len (.cons (.var 1) .nil)) (.cst (.int (1)))) .nil)))) (.seq (.set 4 o701) (.seq (.set 5 (.lst (consL qa0))) (.seq (.set 5 (.op .add (.var 5) (.lst (consL qa1)))) (.seq (.set 5 (.op .add (.var 5) (.lst (consL qa2)))) (.seq i701 (.seq (.ret (.idx (.var 5) (.call 5 (.cons (.var 0) (.cons (.bi .len (.cons (.var 5) .nil)) .nil))))) .skip))))))))⟩
noncomputable def zew:Fn:=⟨5,6,(.seq (.set 5 (.call 269 (.cons (.var 0) (.cons (.var 1) (.cons (.var 2) (.cons (.var 3) .nil)))))) (.seq (.ret (.and (.isi .bool (.var 5)) (.cmp .eq (.var 5) (.var 4)))) .skip))⟩
noncomputable def zbq:S:=(.seq (.set 8 (.call 700 (.cons (.var 1) (.cons (.var 6) .nil)))) (.seq (.ite (.not (.tru (.call 702 (.cons (.var 2) (.cons (.var 3) (.cons (.var 5) (.cons (.var 8) (.cons (.call 92 (.cons (.var 8) (.cons (.var 6) .nil))) .nil)))))))) (.seq (.ret (.cst (.bl false))) .skip) .skip) .skip))
noncomputable def zbr:S:=(.seq (.set 9 (.tup (.cons (.call 701 (.cons (.var 1) (.cons (.idx (.var 6) (.cst (.int (0)))) .nil))) (.cons (.call 701 (.cons (.var 1) (.cons (.idx (.var 6) (.cst (.int (1)))) .nil))) .nil)))) (.seq (.ite (.not (.tru (.call 702 (.cons (.var 2) (.cons (.var 3) (.cons (.var 5) (.cons (.var 9) (.cons (.call 92 (.cons (.var 9) (.cons (.var 6) .nil))) .nil)))))))) (.seq (.ret (.cst (.bl false))) .skip) .skip) .skip))
noncomputable def zc3:S:=(.seq (.ite (.not (.tru (.call 702 (.cons (.var 2) (.cons (.var 3) (.cons (.var 11) (.cons (.var 6) (.cons (.cst (.bl false)) .nil)))))))) (.seq (.ret (.cst (.bl false))) .skip) .skip) .skip)
noncomputable def zc4:S:=(.seq (.ite (.not (.tru (.call 702 (.cons (.var 2) (.cons (.var 3) (.cons (.tup (.cons (.var 12) (.cons (.idx (.var 5) (.cst (.int (1)))) .nil))) (.cons (.var 6) (.cons (.cst (.bl false)) .nil)))))))) (.seq (.ret (.cst (.bl false))) .skip) .skip) .skip)
noncomputable def qc0:List E:=[.cst .non,.tup (.cons (.idx (.var 5) (.cst (.int (0)))) .nil),.tup (.cons (.idx (.var 5) (.cst (.int (0)))) (.cons (.neg (.cst (.int (1)))) .nil)),.bi .list (.cons (.var 5) .nil),.tup (.cons (.bi .list (.cons (.idx (.var 5) (.cst (.int (0)))) .nil)) (.cons (.idx (.var 5) (.cst (.int (1)))) .nil)),.cst (.str (PySem.Str.ofString "paper"))]
noncomputable abbrev i703:S:=.ite (.cmp .gt (.bi .len (.cons (.idx (.var 5) (.cst (.int (0)))) .nil)) (.cst (.int (1)))) (.seq (.«for» .seq (.lst (.cons (.slc (.idx (.var 5) (.cst (.int (0)))) true (.cst (.int (1))) false (.cst .non)) (.cons (.slc (.idx (.var 5) (.cst (.int (0)))) false (.cst .non) true (.neg (.cst (.int (1))))) (.cons (.op .add (.idx (.var 5) (.cst (.int (0)))) (.slc (.idx (.var 5) (.cst (.int (0)))) false (.cst .non) true (.cst (.int (1))))) .nil)))) (.one 12) zc4) .skip) .skip
noncomputable def zex:Fn:=⟨1,13,(.seq (.set 1 (.call 3 (.cons (.var 0) .nil))) (.seq (.unp [2,3] (.call 132 (.cons (.var 1) .nil))) (.seq (.set 4 (.call 112 (.cons (.var 2) (.cons (.var 3) .nil)))) (.seq (.set 5 (.tup (.cons (.bi .tuple (.cons (.idx (.var 4) (.cst (.int (0)))) .nil)) (.cons (.idx (.var 4) (.cst (.int (2)))) .nil)))) (.seq (.set 6 (.call 323 (.cons (.var 4) .nil))) (.seq (.ite (.not (.tru (.call 702 (.cons (.var 2) (.cons (.var 3) (.cons (.var 5) (.cons (.var 6) (.cons (.cst (.bl true)) .nil)))))))) (.seq (.ret (.cst (.bl false))) .skip) .skip) (.seq (.«for» .rng1 (.cons (.cst (.int (24))) .nil) (.one 7) zbq) (.seq (.«for» .rng1 (.cons (.cst (.int (6))) .nil) (.one 7) zbr) (.seq (.set 10 (.lst (consL qc0))) (.seq (.«for» .seq (.op .add (.var 10) (.lst (.cons (.tup (.cons (.tup .nil) (.cons (.idx (.var 5) (.cst (.int (1)))) .nil))) .nil))) (.one 11) zc3) (.seq i703 (.seq (.ret (.call 702 (.cons (.var 2) (.cons (.var 3) (.cons (.var 5) (.cons (.var 6) (.cons (.cst (.bl true)) .nil))))))) .skip))))))))))))⟩
structure C24(F:Nat->Option Fn):Prop extends C17b F where
 w:C22 F
 f700:F 700=some zdq
 f701:F 701=some zhx
 f702:F 702=some zew
 f703:F 703=some zex
theorem zch:∀{ws:List W},(∀w∈ws,weq w w=true)->weqs ws ws=true
 |[],_=>by simp only[weqs]
 |w::ws,h=>by simp only[weqs,h w vam,zch λx hx=>h x (vai _ hx),vd5]
theorem zjn(h:leaf w=true):weq w w=true:=by
 cases w<;>first|(cases h;done)|simp[weq,leq]
noncomputable def U2(h:VH)(x:W):Prop:=Kn h x/\∀ws,x=.tup ws->ws.length<5000/\∀a b,ws=[a,b]->T1 h a/\T1 h b
theorem zci(ta:T1 h a)(tb:T1 h b):U2 h (.tup [a,b]):=⟨zcs,λws e=>by
 cases e
 refine⟨by simp,λa' b' e=>?_⟩
 cases e
 exact⟨ta,tb⟩⟩
theorem u2_no(hl:ws.length<5000)(h2:ws.length≠2):U2 h (.tup ws):=⟨zcs,λws' e=>by
 cases e
 exact⟨hl,λa b e=>by subst e;exact absurd rfl h2⟩⟩
theorem zft(hx:Kn h x)(ht:zb0 x=false):U2 h x:=⟨hx,λws e=>by subst e;cases ht⟩
theorem zl0{xs ts:List W}{p:W×W}(ht:∀t∈ts,leaf t=true)(hp:p∈xs.zip ts):p.1∈xs/\leaf p.2=true:=by
 obtain⟨a,b⟩:=p
 obtain⟨h1,h2⟩:=vd3 hp
 exact⟨h1,ht _ h2⟩
noncomputable abbrev wW(xs ys:List W):W:=.tup [.tup xs,.tup ys]
section
variable{F:Nat->Option Fn}(C:C24 F){k:Nat}{h:VH}{x:W}{ts us:List W}(ht:∀t∈ts,leaf t=true)(hu:∀t∈us,leaf t=true)
include C
include ht in
theorem justL(t:T1 h x):run F (k+2) 59 [x,.tup ts] h=.ok (.bl (weq x (.tup ts))) h:=
 zeu C.hh C.b.toCoreA t.1 λxs e=>⟨(t.2 xs e).1,λ_ p hp=>by
  obtain⟨h1,h2⟩:=zl0 ht hp
  rw[zdp h2]
  exact zdn C.hh ((t.2 xs e).2 _ h1).lo h2⟩
include ht in
theorem sameL(t:T1 h x):run F (k+3) 92 [x,.tup ts] h=.ok (.bl (weq x (.tup ts))) h:=
 zlv C.m t.1 λxs e=>⟨(t.2 xs e).1,λ_ p hp=>by
  obtain⟨h1,h2⟩:=zl0 ht hp
  rw[zdp h2]
  exact zpu C.m (kn_lo.mpr ((t.2 xs e).2 _ h1).1) h2⟩
include ht hu in
theorem justU(t:U2 h x):run F (k+3) 59 [x,wW ts us] h=.ok (.bl (weq x (wW ts us))) h:=
 zeu C.hh C.b.toCoreA t.1 λxs e=>⟨(t.2 xs e).1,λhl p hp=>by
  match xs,e,hl,hp with
  |[a,b],e,_,hp=>
   obtain⟨ta,tb⟩:=(t.2 _ e).2 a b rfl
   rcases vax.mp hp with rfl|hp
   .exact justL C ht ta.lo
   .rcases vax.mp hp with rfl|hp
    .exact justL C hu tb.lo
    .cases hp⟩
include ht hu in
theorem sameU(t:U2 h x):run F (k+4) 92 [x,wW ts us] h=.ok (.bl (weq x (wW ts us))) h:=
 zlv C.m t.1 λxs e=>⟨(t.2 xs e).1,λhl p hp=>by
  match xs,e,hl,hp with
  |[a,b],e,_,hp=>
   obtain⟨ta,tb⟩:=(t.2 _ e).2 a b rfl
   rcases vax.mp hp with rfl|hp
   .exact sameL C ht ta.lo
   .rcases vax.mp hp with rfl|hp
    .exact sameL C hu tb.lo
    .cases hp⟩
end
noncomputable def PT(n:Nat)(ws:List W):Prop:=ws.length<=n/\∀w∈ws,∀h,T0 h w
theorem PT.t1{n:Nat}(p:PT n ws)(hn:n<5000)(h:VH):T1 h (.tup ws):=⟨zcs,λws' e=>by
 cases e
 exact⟨vbv p.1 hn,λw hw=>p.2 w hw h⟩⟩
theorem PT.app{n m:Nat}(p:PT n ws)(q:PT m zs):PT (n+m) (ws++zs):=⟨by rw[vaf];exact Nat.add_le_add p.1 q.1,λw hw=>(vbj.mp hw).elim (p.2 w) (q.2 w)⟩
theorem zvt{l u:Option Int}(h:w∈cutW ws l u):w∈ws:=List.mem_of_mem_drop (List.mem_of_mem_take h)
theorem PT.cut{n:Nat}{l u:Option Int}(p:PT n ws):PT n (cutW ws l u):=⟨by
 unfold cutW
 rw[vcz,vcp]
 have:=p.1
 omega,λw hw=>p.2 w (zvt hw)⟩
theorem PT.one(t:∀h,T0 h w):PT 1 [w]:=⟨vac _,λx hx=>by rw[vat.mp hx];exact t⟩
theorem PT.nil:PT 0 []:=⟨vac _,λ_ z=>nomatch z⟩
theorem PT.leaf{n:Nat}(hn:ws.length<=n)(h:∀w∈ws,leaf w=true):PT n ws:=⟨hn,λw hw _=>za8 (h w hw)⟩
noncomputable def Pe(cl:Call)(ρ:En)(n:Nat)(e:E):Prop:=∃ws,PT n ws/\∀h,ev cl e ρ h=.ok (.tup ws) h
section
variable{cl:Call}{ρ:En}{n m:Nat}{a b x lo hi:E}{bl bh:Bool}{l u w:W}{l' u':Option Int}
theorem Pe.var{i:Nat}(h:ρ[i]?=some (some (.tup ws)))(p:PT n ws):Pe cl ρ n (.var i):=⟨ws,p,λ_=>varE h⟩
theorem Pe.add(p:Pe cl ρ n a)(q:Pe cl ρ m b)(hn:n+m<=1000000):Pe cl ρ (n+m) (.op .add a b):=by
 obtain⟨ws,p1,p2⟩:=p
 obtain⟨zs,q1,q2⟩:=q
 exact⟨ws++zs,p1.app q1,λh=>addV (p2 h) (q2 h) (vbe (Nat.add_le_add p1.1 q1.1) hn)⟩
theorem Pe.slc(p:Pe cl ρ n a)(el:∀h,ev cl lo ρ h=.ok l h)(eu:∀h,ev cl hi ρ h=.ok u h)(pl:partW bl l=some l')(pu:partW bh u=some u'):Pe cl ρ n (.slc a bl lo bh hi):=by
 obtain⟨ws,p1,p2⟩:=p
 exact⟨_,p1.cut,λh=>slcE (p2 h) (el h) (eu h) pl pu slcW_tup⟩
theorem Pe.one(e:∀h,ev cl x ρ h=.ok w h)(t:∀h,T0 h w):Pe cl ρ 1 (.tup (.cons x .nil)):=⟨[w],.one t,λh=>tup1V (e h)⟩
theorem Pe.nil:Pe cl ρ 0 (.tup .nil):=⟨[],.nil,λ_=>rfl⟩
variable{d c bb N:Nat}{h0:VH}
theorem Pe.el(p:Pe cl ρ n a)(hn:n<5000):El cl d c bb ρ h0 (Gd d c T1 N) a:=by
 obtain⟨ws,p1,p2⟩:=p
 exact za3 p2 (p1.t1 hn)
theorem Pe.el2(p:Pe cl ρ n a)(q:Pe cl ρ m b)(hn:n<5000)(hm:m<5000):El cl d c bb ρ h0 (Gd d c U2 N) (.tup (.cons a (.cons b .nil))):=by
 obtain⟨ws,p1,p2⟩:=p
 obtain⟨zs,q1,q2⟩:=q
 exact za3 (λh=>tup2E (p2 h) (q2 h)) λh=>zci (p1.t1 hn h) (q1.t1 hm h)
end
noncomputable abbrev w701(r:Int):List W:=[.int r,.int 0,.int 1,.bl true,.non,.str (PySem.Str.ofString "0"),.tup [.int 0],.int (-1),.int 100,.bl false]
noncomputable abbrev R24(d:Nat)(WS:List W)(a t:Nat)(o l s:Option W):En:=[some (.ref d),some (.tup WS),some (.int (a:Int)),some (.int (t:Int)),o,l,s]
theorem revV{ρ:En}{i:Nat}(hi:ρ[i]?=some (some (.tup ws))):ev cl (.bi .rev (.cons (.var i) (.cons (.neg (.cst (.int (1)))) .nil))) ρ h=.ok (.tup ws.reverse) h:=by
 rw[ev,consE (varE hi) (consE (w:=.int (-1)) rfl rfl),bindok];rfl
section
variable{F:Nat->Option Fn}(C:C24 F){d c:Nat}
include C
theorem odd24{k b:Nat}{ρ:En}(h0:ρ[0]?=some (some (.ref d)))(D:Dk h d c b)(hb:b+2<1000000000):∃w h',ev (run F (k+3)) o701 ρ h=.ok w h'/\(∀h2,T0 h2 w)/\Dk h' d c (b+2)/\Keep h h' d c:=by
 obtain⟨r,h1,e1,_,_,D1,K1⟩:=take C.q.toCoreD (k:=k) (m:=100) D (by omega) (by omega) (by omega)
 have el:=lstE (cl:=run F (k+3)) (ρ:=ρ) (consE (zas (a:=.var 0) (b:=.cst (.int (100))) (x:=.ref d) (y:=.int 100) (varE h0) rfl e1) (show ev (run F (k+3)) (.cons (.cst (.int (0))) (.cons (.cst (.int (1))) (.cons (.cst (.bl true)) (.cons (.cst .non) (.cons (.cst (.str (PySem.Str.ofString "0"))) (.cons (.tup (.cons (.cst (.int (0))) .nil)) (.cons (.neg (.cst (.int (1)))) (.cons (.cst (.int (100))) (.cons (.cst (.bl false)) .nil))))))))) ρ h1=.ok (.tup [.int 0,.int 1,.bl true,.non,.str (PySem.Str.ofString "0"),.tup [.int 0],.int (-1),.int 100,.bl false]) h1 from rfl)) (by simp)
 obtain⟨r2,h2,e2,r0,r1,D2,K2⟩:=take C.q.toCoreD (k:=k) (m:=10) (D1.new (o:=.lst (w701 r))) (by omega) (by omega) (by omega)
 obtain⟨j,rfl⟩:=va5 r0
 have hj:j<10:=by omega
 have hne:=D1.ne_new (vac _)
 have g2:=K2.get _ _ hne.1 hne.2 (zal (h:=h1))
 have hl:j< (w701 r).length:=hj
 refine⟨_,h2,idxE el (zas (varE h0) rfl e2) (zgt g2 (vav hl)),?_,D2,(K1.new).trans K2⟩
 have hm:=vcd hl
 generalize (w701 r)[j]=w at *
 simp only[vax,vbq,vdw]at hm
 rcases hm with rfl|rfl|rfl|rfl|rfl|rfl|rfl|rfl|rfl|rfl
 .exact λ_=>za8 rfl
 .exact λ_=>za8 rfl
 .exact λ_=>za8 rfl
 .exact λ_=>t0_bl
 .exact λ_=>za8 rfl
 .exact λ_=>zzh (by decide +kernel)
 .exact λ_=>zvo rfl
 .exact λ_=>za8 rfl
 .exact λ_=>za8 rfl
 .exact λ_=>t0_bl
theorem zhy{k b:Nat}(D:Dk h d c b)(hb:b+20<1000000000)(hl:WS.length<=1280)(hf:∀w∈WS,leaf w=true)(hT:∀h,T0 h (.tup WS)):∃w h',run F (k+4) 701 [.ref d,.tup WS] h=.ok w h'/\Dk h' d c (b+5)/\Keep h h' d c/\Gd d c T1 h.n h' w:=by
 rw[zaf C.f701 rfl]
 have D0:Dk ⟨h.n,h.n,h.os⟩ d c b:=D.lo
 have pW:PT 1280 WS:=.leaf hl hf
 obtain⟨r,h1,e1,r0,r1,D1,K1⟩:=take C.q.toCoreD (k:=k) (m:=((WS.length+1:Nat):Int)) D0 (by omega) (by omega) (by omega)
 obtain⟨a,rfl⟩:=va5 r0
 obtain⟨r,h2,e2,r0,r1,D2,K2⟩:=take C.q.toCoreD (k:=k) (m:=((WS.length+1:Nat):Int)) D1 (by omega) (by omega) (by omega)
 obtain⟨t,rfl⟩:=va5 r0
 have elen:∀(h1:VH)(ρ:En),ρ[1]?=some (some (.tup WS))->ev (run F (k+3)) (.op .add (.bi .len (.cons (.var 1) .nil)) (.cst (.int (1)))) ρ h1=.ok (.int ((WS.length+1:Nat):Int)) h1:=λh1 ρ hρ=>opE (lenE (ws:=WS) (varE hρ) rfl) rfl rfl
 obtain⟨o,h3,e3,to,D3,K3⟩:=odd24 C (k:=k) (ρ:=R24 d WS a t none none none) rfl D2 (by omega)
 have hn3:h.n<=h3.n:=((K1.trans K2).trans K3).le
 have vW:∀{o l s},Pe (run F (k+3)) (R24 d WS a t o l s) 1280 (.var 1):=Pe.var rfl pW
 have pre:∀{o l s},Pe (run F (k+3)) (R24 d WS a t o l s) 1280 (.slc (.var 1) false (.cst .non) true (.var 2)):=vW.slc (λ_=>rfl) (λ_=>varE rfl) rfl rfl
 have suf:∀{o l s},Pe (run F (k+3)) (R24 d WS a t o l s) 1280 (.slc (.var 1) true (.op .add (.var 2) (.cst (.int (1)))) false (.cst .non)):=vW.slc (l:=.int ((a:Int)+1)) (λ_=>opE (varE rfl) rfl rfl) (λ_=>rfl) rfl rfl
 obtain⟨l4,w4,h4,e4,g4,hl4,D4,K4,n4,p4,_⟩:=zkm (cl:=run F (k+3)) (i:=5) (ρ:=R24 d WS a t (some o) none none) (T:=T1) (n:=h.n) qa0 (λe he=>by
  simp only[qa0,vax,vbq,vdw]at he
  rcases he with rfl|rfl|rfl
  .exact((pre.add (.one (λ_=>varE rfl) to) (by decide)).add suf (by decide)).el (by decide)
  .exact((pre.add (.one (λ_=>varE rfl) to) (by decide)).add (vW.slc (λ_=>varE rfl) (λ_=>rfl) rfl rfl) (by decide)).el (by decide)
  .exact(pre.add suf (by decide)).el (by decide)) D3 (by decide)
 obtain⟨l5,w5,h5,e5,g5,hl5,D5,K5,n5,p5,_⟩:=zfp (cl:=run F (k+3)) (i:=5) (l:=l4) (ρ:=R24 d WS a t (some o) (some (.ref l4)) none) (T:=T1) (n:=h.n) (ws0:=w4) qa1 (λe he=>by
  simp only[qa1,vax,vbq,vdw]at he
  rcases he with rfl|rfl|rfl|rfl|rfl|rfl
  .exact(vW.add vW (by decide)).el (by decide)
  .exact((vW.slc (l:=.int 1) (λ_=>rfl) (λ_=>rfl) rfl rfl).add (vW.slc (u:=.int 1) (λ_=>rfl) (λ_=>rfl) rfl rfl) (by decide)).el (by decide)
  .exact zly (vbe hn3 K4.le) (λh1 _=>zjm (varE rfl)) λi h2 g=>zfq (zjl g) rfl
  .exact za3 (λ_=>revV rfl) (PT.t1 (n:=1280) ⟨by rw[vdc];exact hl,λw hw=>pW.2 w (List.mem_reverse.mp hw)⟩ (by decide))
  .exact Pe.nil.el (by decide)
  .exact za3 (λ_=>rfl) λ_=>zfq (x:=.non) (zbp rfl) rfl) D4 rfl g4 (D3.ne_new hl4) p4 (by rw[n4];decide)
 obtain⟨l6,w6,h6,e6,g6,hl6,D6,K6,n6,p6,q6⟩:=zfp (cl:=run F (k+3)) (i:=5) (l:=l5) (ρ:=R24 d WS a t (some o) (some (.ref l5)) none) (T:=T1) (n:=h.n) (ws0:=w5) qa2 (λe he=>by
  simp only[qa2,vax,vbq,vdw]at he
  rcases he with rfl|rfl
  .exact(Pe.one (λ_=>varE rfl) hT).el (by decide)
  .exact(vW.add (.one (w:=.non) (λ_=>rfl) λ_=>za8 rfl) (by decide)).el (by decide)) D5 rfl g5 (D4.ne_new hl5) p5 (by rw[n5,n4];decide)
 have hl6d:=D5.ne_new hl6
 have h6l:=zaq g6
 have hlen6:w6.length=11:=by rw[n6,n5,n4];rfl
 have K06:Keep ⟨h.n,h.n,h.os⟩ h6 d c:=((((K1.trans K2).trans K3).trans K4).trans K5).trans K6
 have K05:Keep ⟨h.n,h.n,h.os⟩ h5 d c:=(((K1.trans K2).trans K3).trans K4).trans K5
 have eL:∀(h1:VH)(l s:Option W),ev (run F (k+3)) (.bi .len (.cons (.var 1) .nil)) (R24 d WS a t (some o) l s) h1=.ok (.int (WS.length:Int)) h1:=λh1 l s=>lenE (ws:=WS) (varE rfl) rfl
 have ec:ev (run F (k+3)) (.and (.cmp .lt (.var 2) (.bi .len (.cons (.var 1) .nil))) (.cmp .lt (.var 3) (.bi .len (.cons (.var 1) .nil)))) (R24 d WS a t (some o) (some (.ref l6)) none) h6=.ok (.bl (decide ((a:Int)<WS.length)&&decide ((t:Int)<WS.length))) h6:=by
  refine andB ?_ ?_
  .rw[ev,varE rfl,bindok,eL,bindok]
   simp only[cmpW,cmpI,vah,ofsome]
  .rw[ev,varE rfl,bindok,eL,bindok]
   simp only[cmpW,cmpI,vah,ofsome]
 obtain⟨s',ws,h7,e7,g7,D7,K7,n7,n7',p7⟩:∃s' ws h7,exs (run F (k+3)) i701 (R24 d WS a t (some o) (some (.ref l6)) none) h6=.ok (.nx (R24 d WS a t (some o) (some (.ref l6)) s')) h7/\h7.get l6=some (.lst ws)/\Dk h7 d c (b+1+1+2)/\Keep ⟨h.n,h.n,h.os⟩ h7 d c/\0<ws.length/\ws.length<=100/\∀w∈ws,Gd d c T1 h.n h7 w:=by
  by_cases z:(a:Int)<WS.length/\(t:Int)<WS.length
  .rw[vbg z.1,vbg z.2]at ec
   have ha:a<WS.length:=by omega
   have htl:t<WS.length:=by omega
   have hat:=vav ha
   have htt:=vav htl
   have g3:(h6.new (.lst WS)).get h6.n=some (.lst WS):=zal
   have g4':((h6.new (.lst WS)).set h6.n (.lst (WS.set a WS[t]))).get h6.n=some (.lst (WS.set a WS[t])):=zax g3
   have hl4':t< (WS.set a WS[t]).length:=by rw[vcx];exact htl
   have hsw:∀w∈(WS.set a WS[t]).set t WS[a],w∈WS:=λw hw=>by
    rcases zp0 hw with hw|rfl
    .rcases zp0 hw with hw|rfl
     .exact hw
     .exact vcd htl
    .exact vcd ha
   have hlsw:((WS.set a WS[t]).set t WS[a]).length=WS.length:=by rw[vcx,vcx]
   have esw:exs (run F (k+3)) (.sw (.var 6) (.var 2) (.var 6) (.var 3) (.tup (.cons (.idx (.var 6) (.var 3)) (.cons (.idx (.var 6) (.var 2)) .nil)))) (R24 d WS a t (some o) (some (.ref l6)) (some (.ref h6.n))) (h6.new (.lst WS))=.ok (.nx (R24 d WS a t (some o) (some (.ref l6)) (some (.ref h6.n)))) (((h6.new (.lst WS)).set h6.n (.lst (WS.set a WS[t]))).set h6.n (.lst ((WS.set a WS[t]).set t WS[a]))):=by
    rw[exs,tup2E (idxE (x:=.ref h6.n) (y:=.int (t:Int)) (varE rfl) (varE rfl) (zgt g3 htt)) (idxE (x:=.ref h6.n) (y:=.int (a:Int)) (varE rfl) (varE rfl) (zgt g3 hat)),bindok,show two (.tup [WS[t],WS[a]])=some (WS[t],WS[a])from rfl,ofsome,bindok,
     varE (x:=.ref h6.n) rfl,bindok,varE (x:=.int (a:Int)) rfl,bindok,zpz g3 ha,bindok,varE (x:=.ref h6.n) rfl,bindok,varE (x:=.int (t:Int)) rfl,bindok,zpz g4' hl4',bindok]
   have g5':(((h6.new (.lst WS)).set h6.n (.lst (WS.set a WS[t]))).set h6.n (.lst ((WS.set a WS[t]).set t WS[a]))).get h6.n=some (.lst ((WS.set a WS[t]).set t WS[a])):=zax g4'
   have oth:∀i,i<h6.n->(((h6.new (.lst WS)).set h6.n (.lst (WS.set a WS[t]))).set h6.n (.lst ((WS.set a WS[t]).set t WS[a]))).get i=h6.get i:=λi hi=>by
    rw[zag g4' (by omega),zag g3 (by omega),zah hi]
   have hle7:h6.n<=(((h6.new (.lst WS)).set h6.n (.lst (WS.set a WS[t]))).set h6.n (.lst ((WS.set a WS[t]).set t WS[a]))).n:=vdy _
   have pS:PT 1280 ((WS.set a WS[t]).set t WS[a]):=⟨by omega,λw hw=>pW.2 w (hsw w hw)⟩
   generalize (WS.set a WS[t]).set t WS[a]=SW at *
   generalize ((h6.new (.lst WS)).set h6.n (.lst (WS.set a WS[t]))).set h6.n (.lst SW)=g7 at *
   have gl:g7.get l6=some (.lst w6):=(oth l6 h6l).trans g6
   have a1:=zbb (cl:=run F (k+3)) (i:=5) (l:=l6) (x:=.bi .tuple (.cons (.var 6) .nil)) (ρ:=R24 d WS a t (some o) (some (.ref l6)) (some (.ref h6.n))) (h:=g7) (h1:=g7) (w:=.tup SW) (acc:=w6) (acc0:=w6) rfl gl (zcz rfl g5') gl (by rw[hlen6];decide)
   have gl2:=zax (o:=.lst (w6++[.tup SW])) gl
   obtain⟨zs,z1,z2⟩:Pe (run F (k+3)) (R24 d WS a t (some o) (some (.ref l6)) (some (.ref h6.n))) (1280+1+1280) (.op .add (.op .add (.slc (.var 1) false (.cst .non) true (.var 2)) (.tup (.cons (.cmp .eq (.idx (.var 1) (.var 2)) (.cst (.int (1)))) .nil))) (.slc (.var 1) true (.op .add (.var 2) (.cst (.int (1)))) false (.cst .non))):=by
    refine(pre.add (.one (w:=.bl (leq WS[a] (.int 1))) (λh1=>?_) λ_=>t0_bl) (by decide)).add suf (by decide)
    rw[ev,idxE (x:=.tup WS) (y:=.int (a:Int)) (varE rfl) (varE rfl) (show atI WS (a:Int)=_ from zbg hat),bindok,ev,bindok]
    simp only[cmpW,zlz (h:=h1) (hf _ (vcd ha)) (show leaf (.int 1)=true from rfl),vah,ofsome]
   have a2:=zbb (cl:=run F (k+3)) (i:=5) (l:=l6) (ρ:=R24 d WS a t (some o) (some (.ref l6)) (some (.ref h6.n))) (h1:=g7.set l6 (.lst (w6++[.tup SW]))) (acc:=w6++[.tup SW]) (acc0:=w6++[.tup SW]) rfl gl2 (z2 _) gl2 (by rw[vaf,hlen6];simp)
   have gl3:=zax (o:=.lst (w6++[.tup SW]++[.tup zs])) gl2
   have oth2:∀i,i≠l6->i<h6.n->((g7.set l6 (.lst (w6++[.tup SW]))).set l6 (.lst (w6++[.tup SW]++[.tup zs]))).get i=h6.get i:=λi hi hn=>by
    rw[zag gl2 hi,zag gl hi];exact oth i hn
   have hne:=D5.ne_new hl6
   refine⟨some (.ref h6.n),w6++[.tup SW]++[.tup zs],(g7.set l6 (.lst (w6++[.tup SW]))).set l6 (.lst (w6++[.tup SW]++[.tup zs])),?_,gl3,?_,?_,by simp,by simp[hlen6],λw hw=>?_⟩
   .rw[iteT ec]
    exact(zaa (setE (zjm (varE rfl)))).trans ((zaa esw).trans ((zaa (exprE a1)).trans ((zaa (exprE a2)).trans rfl)))
   .obtain⟨ne,ns,cells,p,q,b1,b2,b3⟩:=D6
    exact⟨ne,ns,cells,p,q,by rw[oth2 d (λz=>hne.1 z.symm) (zaq b1)];exact b1,by rw[oth2 c (λz=>hne.2 z.symm) (zaq b2)];exact b2,b3⟩
   .exact⟨vbe K06.le hle7,λi x x1 x2 e=>by
     have hi5:=zaq (K05.get i x x1 x2 e)
     rw[oth2 i (by omega) (by have:=K6.le;omega)]
     exact K06.get i x x1 x2 e⟩
   .rcases vbj.mp hw with hw|hw
    .rcases vbj.mp hw with hw|hw
     .refine(q6 (.lst (w6++[.tup SW]++[.tup zs])) w hw).keep ⟨hle7,λi x _ _ e=>?_⟩
      by_cases hi:i=l6
      .subst hi
       rw[zax g6]at e
       rw[gl3];exact e
      .rw[zag g6 hi]at e
       rw[oth2 i hi (zaq e)];exact e
     .rw[vat.mp hw];exact .inl (pS.t1 (by decide))
    .rw[vat.mp hw];exact .inl (z1.t1 (by decide))
  .have zz:(decide ((a:Int)<WS.length)&&decide ((t:Int)<WS.length))=false:=by
    cases q:(decide ((a:Int)<WS.length)&&decide ((t:Int)<WS.length))with
    |false=>rfl
    |true=>simp only[vab,va0]at q;exact absurd q z
   rw[zz]at ec
   exact⟨none,w6,h6,(iteF ec).trans rfl,g6,D6,K06,by omega,by omega,p6⟩
 obtain⟨w,h8,e8,hw,D8,K8⟩:=pick C.q.toCoreD (k:=k) (i:=5) (ρ:=R24 d WS a t (some o) (some (.ref l6)) s') rfl rfl g7 hl6d D7 (by omega) n7 (by omega)
 have eb:exs (run F (k+3)) zhx.body [some (.ref d),some (.tup WS),none,none,none,none,none] ⟨h.n,h.n,h.os⟩=.ok (.rt w) h8:=by
  refine(zaa (setE (zas (varE rfl) (elen _ _ rfl) e1))).trans ?_
  refine(zaa (setE (zas (varE rfl) (elen _ _ rfl) e2))).trans ?_
  refine(zaa (setE e3)).trans ((zaa e4).trans ((zaa e5).trans ((zaa e6).trans ((zaa e7).trans (zab (retE e8))))))
 obtain⟨h9,q1,q2,q3⟩:=fin17 (T:=T1) eb D D8 (K7.trans K8) ((p7 w hw).keep K8)
 exact⟨w,h9,q1,q2,q3⟩
end
theorem zl1(hf:∀w∈xs,leaf w=true):T0 h (.tup xs):=⟨zcs,λ_ t ht=>by
 have hp:za2 24 (.tup xs)=true:=by
  show xs.all (za2 23)=true
  rw[vbp]
  intro w hw
  have:=hf w hw
  cases w<;>first|(cases this;done)|rfl
 obtain⟨d,e1,_⟩:=zcc h 24 _ hp
 have e0:=e1
 rw[zpj]at e0
 cases z:mapO (toD h 23) xs with
 |none=>rw[z]at e0;cases e0
 |some ds=>
  rw[z]at e0
  cases e0
  have e2:eqY h (.tup xs) t=eqW h (.tup xs) t:=rfl
  rw[e2]
  cases t<;>first|(cases ht;done)|skip
  .rw[zpk (d':=.none) hp rfl e1 rfl];rfl
  .rename_i i
   rw[zpk (d':=.int i) hp rfl e1 rfl];rfl⟩
noncomputable abbrev Q24(d:Nat)(xs ys:List W)(t:Int)(l:Option W):En:=[some (.ref d),some (wW xs ys),some (.tup xs),some (.tup ys),some (.int t),l]
section
variable{F:Nat->Option Fn}(C:C24 F){d c:Nat}{xs ys:List W}(hx:xs.length<=1280)(hy:ys.length<=1280)(fx:∀w∈xs,leaf w=true)(fy:∀w∈ys,leaf w=true)
include C hx hy fx fy
theorem zzi{k b:Nat}(D:Dk h d c b)(hb:b+40<1000000000):∃w h',run F (k+5) 700 [.ref d,wW xs ys] h=.ok w h'/\Dk h' d c (b+6)/\Keep h h' d c/\Gd d c U2 h.n h' w:=by
 rw[zaf C.f700 rfl]
 have D0:Dk ⟨h.n,h.n,h.os⟩ d c b:=D.lo
 have pX:PT 1280 xs:=.leaf hx fx
 have pY:PT 1280 ys:=.leaf hy fy
 obtain⟨t,h1,e1,t0,t1,D1,K1⟩:=take C.q.toCoreD (k:=k+1) (m:=6) D0 (by omega) (by omega) (by omega)
 have es:exs (run F (k+4)) (.set 4 (.call 5 (.cons (.var 0) (.cons (.cst (.int (6))) .nil)))) [some (.ref d),some (wW xs ys),some (.tup xs),some (.tup ys),none,none] ⟨h.n,h.n,h.os⟩=.ok (.nx (Q24 d xs ys t none)) h1:=setE (zas (varE rfl) rfl e1)
 have eu:exs (run F (k+4)) (.unp [2,3] (.var 1)) [some (.ref d),some (wW xs ys),none,none,none,none] ⟨h.n,h.n,h.os⟩=.ok (.nx [some (.ref d),some (wW xs ys),some (.tup xs),some (.tup ys),none,none]) ⟨h.n,h.n,h.os⟩:=rfl
 have ec:∀j:Int,ev (run F (k+4)) (.cmp .lt (.var 4) (.cst (.int j))) (Q24 d xs ys t none) h1=.ok (.bl (decide (t<j))) h1:=λj=>by
  rw[ev,varE rfl,bindok,ev,bindok]
  simp only[cmpW,cmpI,vah,ofsome]
 by_cases z:t<2
 .have c2:=ec 2
  rw[vbg z]at c2
  obtain⟨y,h2,e2,D2,K2,G2⟩:=zhy C (k:=k) D1 (by omega) hx fx λ_=>zl1 fx
  have eb:exs (run F (k+4)) zdq.body [some (.ref d),some (wW xs ys),none,none,none,none] ⟨h.n,h.n,h.os⟩=.ok (.rt (.tup [y,.tup ys])) h2:=by
   refine(zaa eu).trans ((zaa es).trans (zab ?_))
   rw[iteT c2]
   exact zab (retE (tup2E (zas (varE rfl) (varE rfl) e2) (varE rfl)))
  obtain⟨h3,q1,q2,q3⟩:=fin17 (T:=U2) eb D D2 (K1.trans K2) ((G2.le K1.le).into (f:=λy=>.tup [y,.tup ys]) (λh t=>zci t (pY.t1 (by decide) h)) λe=>zco e (by simp))
  exact⟨_,h3,q1,q2.mono (by omega),q3⟩
 .have c2:=ec 2
  rw[vaz z]at c2
  by_cases z4:t<4
  .have c4:=ec 4
   rw[vbg z4]at c4
   obtain⟨y,h2,e2,D2,K2,G2⟩:=zhy C (k:=k) D1 (by omega) hy fy λ_=>zl1 fy
   have eb:exs (run F (k+4)) zdq.body [some (.ref d),some (wW xs ys),none,none,none,none] ⟨h.n,h.n,h.os⟩=.ok (.rt (.tup [.tup xs,y])) h2:=by
    refine(zaa eu).trans ((zaa es).trans ((zaa ((iteF c2).trans rfl)).trans (zab ?_)))
    rw[iteT c4]
    exact zab (retE (tup2E (varE rfl) (zas (varE rfl) (varE rfl) e2)))
   obtain⟨h3,q1,q2,q3⟩:=fin17 (T:=U2) eb D D2 (K1.trans K2) ((G2.le K1.le).into (f:=λy=>.tup [.tup xs,y]) (λh t=>zci (pX.t1 (by decide) h) t) λe=>zco e (by simp))
   exact⟨_,h3,q1,q2.mono (by omega),q3⟩
  .have c4:=ec 4
   rw[vaz z4]at c4
   have vX:∀{l},Pe (run F (k+4)) (Q24 d xs ys t l) 1280 (.var 2):=Pe.var rfl pX
   have vY:∀{l},Pe (run F (k+4)) (Q24 d xs ys t l) 1280 (.var 3):=Pe.var rfl pY
   have XY:∀{l},Pe (run F (k+4)) (Q24 d xs ys t l) 2560 (.op .add (.var 2) (.var 3)):=vX.add vY (by decide)
   have y1:∀{l},Pe (run F (k+4)) (Q24 d xs ys t l) 1280 (.slc (.var 3) false (.cst .non) true (.cst (.int (1)))):=vY.slc (u:=.int 1) (λ_=>rfl) (λ_=>rfl) rfl rfl
   obtain⟨l2,w2,h2,e2,g2,hl2,D2,K2,n2,p2,_⟩:=zkm (cl:=run F (k+4)) (i:=5) (ρ:=Q24 d xs ys t none) (T:=U2) (n:=h.n) qb0 (λe he=>by
    simp only[qb0,vax,vbq,vdw]at he
    rcases he with rfl|rfl|rfl
    .exact XY.el2 vY (by decide) (by decide)
    .exact(vX.add y1 (by decide)).el2 ((vY.slc (l:=.int 1) (λ_=>rfl) (λ_=>rfl) rfl rfl).add y1 (by decide)) (by decide) (by decide)
    .exact vX.el2 (vY.add vY (by decide)) (by decide) (by decide)) D1 (by decide)
   obtain⟨l3,w3,h3,e3,g3,hl3,D3,K3,n3,p3,_⟩:=zfp (cl:=run F (k+4)) (i:=5) (l:=l2) (ρ:=Q24 d xs ys t (some (.ref l2))) (T:=U2) (n:=h.n) (ws0:=w2) qb1 (λe he=>by
    simp only[qb1,vax,vbq,vdw]at he
    rcases he with rfl|rfl|rfl
    .exact vY.el2 vX (by decide) (by decide)
    .exact za3 (λ_=>tup3E (varE rfl) (varE rfl) rfl) λ_=>u2_no (by simp) (by simp)
    .exact XY.el2 Pe.nil (by decide) (by decide)) D2 rfl g2 (D1.ne_new hl2) p2 (by rw[n2];decide)
   obtain⟨l4,w4,h4,e4,g4,hl4,D4,K4,n4,p4,_⟩:=zfp (cl:=run F (k+4)) (i:=5) (l:=l3) (ρ:=Q24 d xs ys t (some (.ref l3))) (T:=U2) (n:=h.n) (ws0:=w3) qb2 (λe he=>by
    simp only[qb2,vax,vbq,vdw]at he
    rcases he with rfl|rfl|rfl
    .exact(vX.slc (u:=.int (-1)) (λ_=>rfl) (λ_=>rfl) rfl rfl).el2 ((vX.slc (l:=.int (-1)) (λ_=>rfl) (λ_=>rfl) rfl rfl).add (vY.slc (u:=.int (-1)) (λ_=>rfl) (λ_=>rfl) rfl rfl) (by decide)) (by decide) (by decide)
    .exact zly ((K1.trans K2).trans K3).le (λh1 _=>lst2E (varE rfl) (varE rfl)) λi h2 g=>zft (zjl g) rfl
    .exact za3 (λ_=>tup1V (varE rfl)) λ_=>u2_no (by simp) (by simp)) D3 rfl g3 (D2.ne_new hl3) p3 (by rw[n3,n2];decide)
   obtain⟨l5,w5,h5,e5,g5,hl5,D5,K5,n5,_,p5⟩:=zfp (cl:=run F (k+4)) (i:=5) (l:=l4) (ρ:=Q24 d xs ys t (some (.ref l4))) (T:=U2) (n:=h.n) (ws0:=w4) qb3 (λe he=>by
    simp only[qb3,vax,vbq,vdw]at he
    have hle:=(((K1.trans K2).trans K3).trans K4).le
    rcases he with rfl|rfl|rfl|rfl|rfl|rfl|rfl|rfl
    .exact za3 (λ_=>rfl) λ_=>zft (x:=.non) (zbp rfl) rfl
    .exact za3 (λ_=>rfl) λ_=>zft (x:=.int 0) (zbp rfl) rfl
    .exact za3 (λ_=>rfl) λ_=>zft (by unfold Kn;simp) rfl
    .exact zly hle (λh1 _=>dsp0) λi h2 g=>zft (zvp g) rfl
    .exact za3 (λ_=>rfl) λ_=>u2_no (ws:=[]) (by simp) (by simp)
    .exact za3 (λ_=>tup2E rfl rfl) λh2=>zci (zfq (x:=.non) (zbp rfl) rfl) (zfq (x:=.non) (zbp rfl) rfl)
    .intro h6 K D
     exact⟨_,_,tup2E (zjm (varE rfl)) (varE rfl),D.new,Keep.new .refl,.inr ⟨zco (w:=.ref h6.n) (by simp only[W.lt];exact zbx (vbe hle K.le)) (by simp),λh7 K7=>zci (zfq (zjl (K7.get _ _ (D.ne_new (vac _)).1 (D.ne_new (vac _)).2 zal)) rfl) (pY.t1 (by decide) h7)⟩⟩
    .exact Pe.nil.el2 vY (by decide) (by decide)) D4 rfl g4 (D3.ne_new hl4) p4 (by rw[n4,n3,n2];decide)
   have hn5:w5.length=17:=by rw[n5,n4,n3,n2];rfl
   have hne:=D4.ne_new hl5
   obtain⟨zs,z1,z2⟩:=XY (l:=some (.ref l5))
   have a6:=zbb (cl:=run F (k+4)) (i:=5) (l:=l5) (x:=.tup (.cons (.tup .nil) (.cons (.op .add (.var 2) (.var 3)) .nil))) (ρ:=Q24 d xs ys t (some (.ref l5))) (h:=h5) (h1:=h5) (w:=.tup [.tup [],.tup zs]) (acc:=w5) (acc0:=w5) rfl g5 (tup2E rfl (z2 h5)) g5 (by omega)
   have g6:=zax (o:=.lst (w5++[.tup [.tup [],.tup zs]])) g5
   have K6:Keep h4 (h5.set l5 (.lst (w5++[.tup [.tup [],.tup zs]]))) d c:=⟨K5.le,λi x x1 x2 e=>by
    have:=zaq e
    rw[zag g5 (by omega)];exact K5.get i x x1 x2 e⟩
   have D6:Dk (h5.set l5 (.lst (w5++[.tup [.tup [],.tup zs]]))) d c (b+1):=by
    obtain⟨ne,ns,cells,p,q,b1,b2,b3⟩:=D5
    exact⟨ne,ns,cells,p,q,by rw[zag g5 (λz=>hne.1 z.symm)];exact b1,by rw[zag g5 (λz=>hne.2 z.symm)];exact b2,b3⟩
   obtain⟨w,h7,e7,hw,D7,K7⟩:=pick C.q.toCoreD (k:=k+1) (i:=5) (ρ:=Q24 d xs ys t (some (.ref l5))) rfl rfl g6 hne D6 (by omega) (by simp) (by simp[hn5])
   have G7:Gd d c U2 h.n h7 w:=by
    rcases vbj.mp hw with hw|hw
    .exact(p5 _ w hw).keep K7
    .rw[vat.mp hw]
     exact .inl λh2=>zci (PT.nil.t1 (by decide) h2) (z1.t1 (by decide) h2)
   have eb:exs (run F (k+4)) zdq.body [some (.ref d),some (wW xs ys),none,none,none,none] ⟨h.n,h.n,h.os⟩=.ok (.rt w) h7:=by
    refine(zaa eu).trans ((zaa es).trans ((zaa ((iteF c2).trans rfl)).trans ((zaa ((iteF c4).trans rfl)).trans ?_)))
    exact(zaa e2).trans ((zaa e3).trans ((zaa e4).trans ((zaa e5).trans ((zaa (exprE a6)).trans (zab (retE e7))))))
   obtain⟨h8,q1,q2,q3⟩:=fin17 (T:=U2) eb D D7 ((((K1.trans K2).trans K3).trans K4).trans (K6.trans K7)) G7
   exact⟨w,h8,q1,q2.mono (by omega),q3⟩
end
theorem zgu{ρ:En}{n:Nat}(ea:ev cl a ρ h=.ok x h1)(eb:ev cl b ρ h1=.ok y h2)(ec:ev cl c ρ h2=.ok z h3)(ed:ev cl d ρ h3=.ok u h4)(ee:ev cl e ρ h4=.ok v h5)(er:cl n [x,y,z,u,v] h5=.ok w h'):ev cl (.call n (.cons a (.cons b (.cons c (.cons d (.cons e .nil)))))) ρ h=.ok w h':=by
 rw[ev,consE ea (consE eb (consE ec (consE ed (consE ee rfl)))),bindok]
 exact er
theorem zzj:weq (stW s) (stW s)=true:=by
 have h1:weqs (s.1.map W.int) (s.1.map W.int)=true:=zch λw hw=>zjn (zhw hw)
 simp only[stW,iW,weq,weqs,h1,zjn (zev (f:=s.2)),vd5]
theorem zr6{E:List Stn×Option Nat}:weq (papW E) (papW E)=true:=by
 have h1:weqs (E.1.map stW) (E.1.map stW)=true:=zch λw hw=>by
  obtain⟨t,_,rfl⟩:=vb1.mp hw
  exact zzj
 simp only[papW,weq,weqs,h1,zjn (zdo (f:=E.2)),vd5]
section
variable{F:Nat->Option Fn}(C:C24 F){d c:Nat}{xs ys:List W}{B:Bd}{s:Stn}(b:B.Ok)(g:GoodS B s)(fx:∀w∈xs,leaf w=true)(fy:∀w∈ys,leaf w=true)
include C b g
theorem zp2{k:Nat}(hT:∀h2,Keep h h2 d c->T4 h2 x):run F (k+10) 204 [B.w,stW s,x] h=.ok (.bl (weq x (papW (everP B 1280 [s] (nextS B s))))) h:=by
 have e:=zvn C.hh C.b.toCoreA C.e C.b (k:=k) (h:=h) b g hT
 rw[zmp]at e
 exact e
theorem zvu{k:Nat}:run F (k+10) 204 [B.w,stW s,papW (everP B 1280 [s] (nextS B s))] h=.ok (.bl true) h:=by
 obtain⟨nd,gd⟩:=zd3 b 1280 [s] (nextS B s) (by simp) (λt ht=>by rw[vat.mp ht];exact g) (λt ht=>za5 b g ht)
 have e:=zp2 C b g (k:=k) (h:=h) (d:=0) (c:=0) (x:=papW (everP B 1280 [s] (nextS B s))) λh2 _=>zfs (zth (by rw[vad];have:=few b nd gd;omega) λw hw=>by
  obtain⟨t,ht,rfl⟩:=vb1.mp hw
  exact t2_st (by have:=(gd t ht).1;have:=b.g2;omega)) (zbp zdo) λ_=>za8 zdo
 rw[zr6]at e
 exact e
omit b g in
theorem is24{k:Nat}{v:Bool}(e1:run F (k+11) 269 [B.w,stW s,p,x] ⟨h.n,h.n,h.os⟩=.ok (.bl v) ⟨h.n,h.n,h.os⟩):run F (k+12) 702 [B.w,stW s,p,x,.bl v] h=.ok (.bl true) h:=by
 rw[zaf C.f702 rfl]
 have eb:exs (run F (k+11)) zew.body [some B.w,some (stW s),some p,some x,some (.bl v),none] ⟨h.n,h.n,h.os⟩=.ok (.rt (.bl true)) ⟨h.n,h.n,h.os⟩:=by
  refine(zaa (setE (zgm (varE rfl) (varE rfl) (varE rfl) (varE rfl) e1))).trans (zab (retE (andB (x:=true) rfl ?_)))
  rw[ev,varE (x:=.bl v) rfl,bindok,varE (x:=.bl v) rfl,bindok]
  cases v<;>rfl
 show fin h (exs (run F (k+11)) zew.body [some B.w,some (stW s),some p,some x,some (.bl v),none] ⟨h.n,h.n,h.os⟩)=_
 rw[eb]
 exact zaj (vac _) (by simp)
include fx fy in
theorem isA{k:Nat}(hw:∀(k:Nat) (h:VH),run F (k+5) 200 [B.w,papW (everP B 1280 [s] (nextS B s))] h=.ok (wW xs ys) h)(hT:∀h2,Keep h h2 d c->U2 h2 x):run F (k+12) 702 [B.w,stW s,papW (everP B 1280 [s] (nextS B s)),x,.bl (weq x (wW xs ys))] h=.ok (.bl true) h:=by
 refine is24 C ?_
 rw[zaf C.w.o.f269 rfl]
 have hT':=hT _ ((zfo (l:=h.n)).trans (zfo (l:=h.n)))
 have eb:exs (run F (k+10)) fn269.body [some B.w,some (stW s),some (papW (everP B 1280 [s] (nextS B s))),some x] ⟨h.n,h.n,h.os⟩=.ok (.rt (.bl (weq x (wW xs ys)))) ⟨h.n,h.n,h.os⟩:=by
  refine zab (retE ?_)
  rw[ev,zed (varE rfl) (varE rfl) (varE rfl) (zvu C b g (k:=k)),bindok]
  exact zas (varE rfl) (zas (varE rfl) (varE rfl) (hw (k+5) _)) (justU C fx fy (k:=k+7) hT')
 show fin ⟨h.n,h.n,h.os⟩ (exs (run F (k+10)) fn269.body [some B.w,some (stW s),some (papW (everP B 1280 [s] (nextS B s))),some x] ⟨h.n,h.n,h.os⟩)=_
 rw[eb]
 exact zaj (vac _) (by simp)
theorem isB24{k:Nat}(hT:∀h2,Keep h h2 d c->T4 h2 p)(hw:weq p (papW (everP B 1280 [s] (nextS B s)))=false):run F (k+12) 702 [B.w,stW s,p,x,.bl false] h=.ok (.bl true) h:=by
 refine is24 C ?_
 rw[zaf C.w.o.f269 rfl]
 have e:=zp2 C b g (k:=k) (h:=⟨h.n,h.n,h.os⟩) (d:=d) (c:=c) λh2 K=>hT h2 (zfo.trans K)
 rw[hw]at e
 have eb:exs (run F (k+10)) fn269.body [some B.w,some (stW s),some p,some x] ⟨h.n,h.n,h.os⟩=.ok (.rt (.bl false)) ⟨h.n,h.n,h.os⟩:=by
  refine zab (retE ?_)
  rw[ev,zed (varE rfl) (varE rfl) (varE rfl) e,bindok]
 show fin ⟨h.n,h.n,h.os⟩ (exs (run F (k+10)) fn269.body [some B.w,some (stW s),some p,some x] ⟨h.n,h.n,h.os⟩)=_
 rw[eb]
 exact zaj (vac _) (by simp)
end
noncomputable abbrev L24(ns:List Int)(B:Bd)(s:Stn)(i:Nat)(E:List Stn×Option Nat)(xs ys:List W)(x7 x8 x9 x10 x11 x12:Option W):En:=[some (.fz (ns.map .int)),some (.ref 1),some B.w,some (stW s),some (.ref i),some (papW E),some (wW xs ys),x7,x8,x9,x10,x11,x12]
section
variable{F:Nat->Option Fn}(C:C24 F){ns:List Int}{xs ys:List W}{B:Bd}{s:Stn}{i:Nat}{E:List Stn×Option Nat}(b:B.Ok)(g:GoodS B s)(hE:everP B 1280 [s] (nextS B s)=E)(hx:xs.length<=1280)(hy:ys.length<=1280)(fx:∀w∈xs,leaf w=true)(fy:∀w∈ys,leaf w=true)
 (hw:∀(k:Nat)(h:VH),run F (k+5) 200 [B.w,papW (everP B 1280 [s] (nextS B s))] h=.ok (wW xs ys) h)
include C b g hE hx hy fx fy hw
theorem zp3{k:Nat}:∀(n:Nat) (j:Int) (bb:Nat) (x7 x8:Option W) (h:VH),Dk h 1 0 bb->bb+12*n+100<1000000000->∃x7' x8' h',forL (tgW (.one 7)) (exs (run F (k+12)) zbq) (zan j n) (L24 ns B s i E xs ys x7 x8 x9 x10 x11 x12) h=.ok (.nx (L24 ns B s i E xs ys x7' x8' x9 x10 x11 x12)) h'/\Dk h' 1 0 (bb+12*n)/\Keep h h' 1 0
 |0,j,bb,x7,x8,h,D,_=>⟨x7,x8,h,rfl,D,.refl⟩
 |n+1,j,bb,x7,x8,h,D,hb=>by
  obtain⟨w,h1,e1,D1,K1,G1⟩:=zzi C hx hy fx fy (k:=k+7) D (by omega)
  have e2:=isA C b g fx fy (k:=k) (h:=h1) (d:=1) (c:=0) hw G1.all
  have e3:=sameU C fx fy (k:=k+8) (h:=h1) (G1.all h1 .refl)
  rw[hE]at e2
  obtain⟨x7',x8',h2,e4,D2,K2⟩:=zp3 (k:=k) (x9:=x9) (x10:=x10) (x11:=x11) (x12:=x12) n (j+1) (bb+12) (some (.int j)) (some w) h1 (D1.mono (by omega)) (by omega)
  refine⟨x7',x8',h2,?_,D2.mono (by omega),K1.trans K2⟩
  have eb:exs (run F (k+12)) zbq (L24 ns B s i E xs ys (some (.int j)) x8 x9 x10 x11 x12) h=.ok (.nx (L24 ns B s i E xs ys (some (.int j)) (some w) x9 x10 x11 x12)) h1:=by
   unfold zbq
   refine(zaa (setE (zas (varE rfl) (varE rfl) e1))).trans ?_
   refine(zaa ((iteF (h1:=h1) ?_).trans rfl)).trans rfl
   rw[ev,truE (zgu (varE rfl) (varE rfl) (varE rfl) (varE rfl) (zas (varE rfl) (varE rfl) e3) e2)];rfl
  rw[zbn]
  simp only[forL,tgW,vau,vaq,eb,bindok]
  exact e4
theorem zp4{k:Nat}:∀(n:Nat) (j:Int) (bb:Nat) (x7 x9:Option W) (h:VH),Dk h 1 0 bb->bb+12*n+100<1000000000->∃x7' x9' h',forL (tgW (.one 7)) (exs (run F (k+12)) zbr) (zan j n) (L24 ns B s i E xs ys x7 x8 x9 x10 x11 x12) h=.ok (.nx (L24 ns B s i E xs ys x7' x8 x9' x10 x11 x12)) h'/\Dk h' 1 0 (bb+12*n)/\Keep h h' 1 0
 |0,j,bb,x7,x9,h,D,_=>⟨x7,x9,h,rfl,D,.refl⟩
 |n+1,j,bb,x7,x9,h,D,hb=>by
  obtain⟨w,h1,e1,D1,K1,G1⟩:=zhy C (k:=k+8) D (by omega) hx fx λ_=>zl1 fx
  obtain⟨v,h2,e2,D2,K2,G2⟩:=zhy C (k:=k+8) D1 (by omega) hy fy λ_=>zl1 fy
  have hU:∀h3,Keep h2 h3 1 0->U2 h3 (.tup [w,v]):=λh3 K=>zci (G1.all h3 (K2.trans K)) (G2.all h3 K)
  have e3:=isA C b g fx fy (k:=k) (h:=h2) (d:=1) (c:=0) hw hU
  have e4:=sameU C fx fy (k:=k+8) (h:=h2) (hU h2 .refl)
  rw[hE]at e3
  obtain⟨x7',x9',h3,e5,D3,K3⟩:=zp4 (k:=k) (x8:=x8) (x10:=x10) (x11:=x11) (x12:=x12) n (j+1) (bb+12) (some (.int j)) (some (.tup [w,v])) h2 (D2.mono (by omega)) (by omega)
  refine⟨x7',x9',h3,?_,D3.mono (by omega),(K1.trans K2).trans K3⟩
  have eb:exs (run F (k+12)) zbr (L24 ns B s i E xs ys (some (.int j)) x8 x9 x10 x11 x12) h=.ok (.nx (L24 ns B s i E xs ys (some (.int j)) x8 (some (.tup [w,v])) x10 x11 x12)) h2:=by
   unfold zbr
   refine(zaa (setE (tup2E (zas (varE rfl) (idxE (x:=wW xs ys) (y:=.int 0) (varE rfl) rfl rfl) e1) (zas (varE rfl) (idxE (x:=wW xs ys) (y:=.int 1) (varE rfl) rfl rfl) e2)))).trans ?_
   refine(zaa ((iteF (h1:=h2) ?_).trans rfl)).trans rfl
   rw[ev,truE (zgu (varE rfl) (varE rfl) (varE rfl) (varE rfl) (zas (varE rfl) (varE rfl) e4) e3)];rfl
  rw[zbn]
  simp only[forL,tgW,vau,vaq,eb,bindok]
  exact e5
end
theorem zd7{nx:Nat->VH->Option (Option W)}{tg:W->VH->En->Option En}{bd:En->VH->Res Fl}{R:Option W->En}{h:VH}{ws:List W}(hn:∀i,nx i h=some ws[i]?)(ht:∀w x,tg w h (R x)=some (R (some w)))(hb:∀w∈ws,bd (R (some w)) h=.ok (.nx (R (some w))) h):∀(fu i:Nat) (x:Option W),i<=ws.length->ws.length<fu+i->∃x',forG nx tg bd fu i (R x) h=.ok (.nx (R x')) h
 |0,i,x,h0,hi=>by omega
 |fu+1,i,x,h0,hi=>by
  cases z:ws[i]? with
  |none=>exact⟨x,by rw[forG,hn,z]⟩
  |some w=>
   have:=(va3.mp z).1
   obtain⟨x',e⟩:=zd7 hn ht hb fu (i+1) (some w) this (by omega)
   refine⟨x',?_⟩
   rw[forG,hn,z]
   simp only[ht,hb w (vcb z),bindok]
   exact e
theorem zgv:∀(n:Nat) (xs:List Stn) (c:Option Stn),0<xs.length->0< (everP B n xs c).1.length
 |0,xs,c,h=>h
 |n+1,xs,none,h=>h
 |n+1,xs,some s,h=>by
  unfold everP
  split
  .exact h
  .exact zgv n (xs++[s]) (nextS B s) (by rw[vaf];omega)
theorem zfu(h:xs.length≠ts.length):weqs xs ts=false:=by
 cases q:weqs xs ts with
 |false=>rfl
 |true=>exact absurd (zb5 q) h
theorem zko{E:List Stn×Option Nat}(h:weq a (.tup (E.1.map stW))=false):weq (.tup [a,o]) (papW E)=false:=by
 simp only[papW,weq,weqs]at h ⊢
 rw[h,vb3]
theorem zr7{E:List Stn×Option Nat}(h:weq o (backW E.2)=false):weq (.tup [a,o]) (papW E)=false:=by
 have e:weq (.tup [a,o]) (papW E)=weqs [a,o] [.tup (E.1.map stW),backW E.2]:=by
  unfold papW
  rw[weq]
 rw[e,weqs.eq_2,weqs.eq_2,h,vb3,vdt]
theorem zvv{i:Nat}:weq (.ref i) (.tup ts)=false:=by simp only[weq]
noncomputable abbrev w3(E:List Stn×Option Nat):List W:=[.tup ((E.1.map stW).drop 1),.tup (E.1.map stW).dropLast,.tup (E.1.map stW++(E.1.map stW).take 1)]
theorem for_n{cl:Call}{t:Tg}{b:S}{ρ:En}{h:VH}{n:Nat}(hn:n<1000000):exs cl (.«for» .rng1 (.cons (.cst (.int (n:Int))) .nil) t b) ρ h=forL (tgW t) (exs cl b) (zan 0 n) ρ h:=by
 rw[exs,show ev cl (.cons (.cst (.int (n:Int))) .nil) ρ h=.ok (.tup [.int (n:Int)]) h from rfl,bindok,zoo hn]
section
variable{F:Nat->Option Fn}(C:C24 F)
include C
theorem law24{ns:List Int}(hl:ns.length<=63):zck (run F 30 703 [.fz (ns.map .int)] ⟨0,0,[]⟩)=true:=by
 rw[show(30:Nat)=29+1 from rfl,zaf C.f703 rfl]
 obtain⟨h1,e1,D1⟩:=deck C.q.toCoreD (k:=28) (h:=⟨0,0,[]⟩) hl
 obtain⟨B,s,l2,h2,e2,g2,b,gs,hl2,D2,K2⟩:=near C.toC17b (k:=21) D1 (by omega)
 obtain⟨i,a,c',h3,e3,g3,g3',g3'',hna,hnc,G⟩:=zjc C.x (k:=26) (h:=h2) b gs
 obtain⟨nd,gd⟩:=zd3 b 1280 [s] (nextS B s) (by simp) (λt ht=>by rw[vat.mp ht];exact gs) (λt ht=>za5 b gs ht)
 have hpos:=zgv (B:=B) 1280 [s] (nextS B s) (by simp)
 obtain⟨xs,ys,fx,fy,hx,hy,hw,hd⟩:=zp1 C.w b gs
 have e4:=hd 27 h3 i a c' g3 g3''
 have hr:∀h,run F 29 702 [B.w,stW s,papW (everP B 1280 [s] (nextS B s)),wW xs ys,.bl true] h=.ok (.bl true) h:=λh=>by
  have:=isA C b gs fx fy (k:=17) (h:=h) (d:=1) (c:=0) (x:=wW xs ys) hw λh2 _=>zci ((PT.leaf hx fx).t1 (by decide) h2) ((PT.leaf hy fy).t1 (by decide) h2)
  have hs:weq (wW xs ys) (wW xs ys)=true:=by simp only[wW,weq,weqs,zch λw hw=>zjn (fx w hw),zch λw hw=>zjn (fy w hw),vd5]
  rw[hs]at this
  exact this
 have D3:=D2.gx G.get
 obtain⟨y7,y8,h5,e5,D5,K5⟩:=zp3 C (ns:=ns) (i:=i) b gs rfl hx hy fx fy hw (k:=17) (x9:=none) (x10:=none) (x11:=none) (x12:=none) 24 0 _ none none h3 D3 (by omega)
 obtain⟨z7,y9,h6,e6,D6,K6⟩:=zp4 C (ns:=ns) (i:=i) b gs rfl hx hy fx fy hw (k:=17) (x8:=y8) (x10:=none) (x11:=none) (x12:=none) 6 0 _ y7 none h5 D5 (by omega)
 have hb:=λ(p:W)(h:VH)=>isB24 C b gs (k:=17) (h:=h) (d:=1) (c:=0) (p:=p) (x:=wW xs ys)
 generalize hEE:everP B 1280 [s] (nextS B s)=E at *
 have hfew:=few b nd gd
 have hT2:∀h2,∀w∈E.1.map stW,T2 h2 w:=λh2 w hw=>by
  obtain⟨t,ht,rfl⟩:=vb1.mp hw
  exact t2_st (by have:=(gd t ht).1;have:=b.g2;omega)
 have hbk:leaf (backW E.2)=true:=zdo
 have hWl:(E.1.map stW).length=E.1.length:=vad _
 have hT3:∀{ws:List W},ws.length<5000->(∀w∈ws,w∈E.1.map stW)->∀h2,T3 h2 (.tup ws):=λhl hs h2=>zth hl λw hw=>hT2 h2 w (hs w hw)
 have hbk1:weq (.int (-1)) (backW E.2)=false:=by
  rw[zdp hbk]
  cases E.2 with
  |none=>rfl
  |some n=>simp only[backW,leq,decide_eq_false_iff_not];omega
 have e0:∀(x7 x8 x9 x10 x11 x12:Option W)(h:VH),ev (run F 29) (.idx (.var 5) (.cst (.int (0)))) (L24 ns B s i E xs ys x7 x8 x9 x10 x11 x12) h=.ok (.tup (E.1.map stW)) h:=λ_ _ _ _ _ _ h=>idxE (x:=papW E) (y:=.int 0) (varE rfl) rfl rfl
 have e9:∀(x7 x8 x9 x10 x11 x12:Option W)(h:VH),ev (run F 29) (.idx (.var 5) (.cst (.int (1)))) (L24 ns B s i E xs ys x7 x8 x9 x10 x11 x12) h=.ok (backW E.2) h:=λ_ _ _ _ _ _ h=>idxE (x:=papW E) (y:=.int 1) (varE rfl) rfl rfl
 let bad:VH->W->Prop:=λh p=>T4 h p/\weq p (papW E)=false
 obtain⟨l7,w7,h7,e7,g7,hl7,D7,K7,n7,p7,_⟩:=zkm (cl:=run F 29) (i:=10) (ρ:=L24 ns B s i E xs ys z7 y8 y9 none none none) (T:=bad) (n:=0) qc0 (λe he=>by
  simp only[qc0,vax,vbq,vdw]at he
  rcases he with rfl|rfl|rfl|rfl|rfl|rfl
  .exact za3 (w:=.non) (λ_=>rfl) λ_=>⟨zkn (zbp rfl) rfl,by simp only[papW,weq]⟩
  .exact za3 (λh=>tup1V (e0 _ _ _ _ _ _ h)) λ_=>⟨t4_no (by simp) (by simp),by simp only[papW,weq];exact zfu (by simp)⟩
  .exact za3 (w:=.tup [.tup (E.1.map stW),.int (-1)]) (λh=>tup2E (e0 _ _ _ _ _ _ h) rfl) λh2=>⟨zfs (hT3 (by omega) (λ_ z=>z) h2) (zbp rfl) λ_=>za8 rfl,zr7 hbk1⟩
  .exact zly (vbk _) (λh _=>zjm (varE rfl)) λi h2 g=>⟨zkn (zjl g) rfl,by simp only[papW,weq]⟩
  .intro h6 K D
   exact⟨_,_,tup2E (zjm (e0 _ _ _ _ _ _ h6)) (e9 _ _ _ _ _ _ _),D.new,Keep.new .refl,.inr ⟨zco (w:=.ref h6.n) (by simp only[W.lt];exact zbx (vbk _)) (by simp),λh7 K7=>⟨zfs (zvs (zjl (K7.get _ _ (D.ne_new (vac _)).1 (D.ne_new (vac _)).2 zal)) rfl) (zbp hbk) (λz=>nomatch z),zko zvv⟩⟩⟩
  .exact za3 (λ_=>rfl) λ_=>⟨zkn (by unfold Kn;simp) rfl,by simp only[papW,weq]⟩) D6 (by decide)
 obtain⟨ws8,h8,e8,D8,K8,n8,p8⟩:=zlx (cl:=run F 29) (ρ:=L24 ns B s i E xs ys z7 y8 y9 (some (.ref l7)) none none) (h0:=h7) (T:=bad) (n:=0) [.tup (.cons (.tup .nil) (.cons (.idx (.var 5) (.cst (.int (1)))) .nil))] (λe he=>by
  rw[vat.mp he]
  exact za3 (λh=>tup2E rfl (e9 _ _ _ _ _ _ h)) λh2=>⟨zfs (hT3 (ws:=[]) (by simp) (λ_ z=>nomatch z) h2) (zbp hbk) λ_=>za8 hbk,zko (by simp only[weq];exact zfu (by rw[hWl,vcm];omega))⟩) h7 .refl D7
 have K8':Keep h7 (h8.new (.lst ws8)) 1 0:=K8.new
 have g8:=K8'.get l7 _ (D6.ne_new hl7).1 (D6.ne_new hl7).2 g7
 have ea:ev (run F 29) (.op .add (.var 10) (.lst (.cons (.tup (.cons (.tup .nil) (.cons (.idx (.var 5) (.cst (.int (1)))) .nil))) .nil))) (L24 ns B s i E xs ys z7 y8 y9 (some (.ref l7)) none none) h7=.ok (.ref (h8.n+1)) ((h8.new (.lst ws8)).new (.lst (w7++ws8))):=opE (varE rfl) (lstE e8 (by rw[n8];decide)) (zlh g8 zal (by rw[n7,n8];decide))
 have g10:((h8.new (.lst ws8)).new (.lst (w7++ws8))).get (h8.n+1)=some (.lst (w7++ws8)):=zal (h:=h8.new (.lst ws8))
 have D10:Dk ((h8.new (.lst ws8)).new (.lst (w7++ws8))) 1 0 _:=D8.new.new
 have p10:∀w∈w7++ws8,Gd 1 0 bad 0 ((h8.new (.lst ws8)).new (.lst (w7++ws8))) w:=λw hw=>by
  rcases vbj.mp hw with hw|hw
  .exact(p7 w hw).keep K8'.new
  .exact(p8 w hw).keep ((Keep.new .refl).new)
 have n10:(w7++ws8).length=7:=by rw[vaf,n7,n8];rfl
 generalize (h8.new (.lst ws8)).new (.lst (w7++ws8))=h10 at *
 generalize w7++ws8=w10 at *
 obtain⟨y11,f11⟩:=zd7 (nx:=nxt .seq (.ref (h8.n+1))) (tg:=tgW (.one 11)) (bd:=exs (run F 29) zc3) (R:=λx=>L24 ns B s i E xs ys z7 y8 y9 (some (.ref l7)) x none) (h:=h10) (ws:=w10) (λi=>by simp only[nxt,seqW,g10,vah]) (λw x=>rfl) (λw hw=>by
  have hq:=(p10 w hw).all
  have e:=hb w h10 (λh2 K=>(hq h2 K).1) (hq h10 .refl).2
  unfold zc3
  refine(zaa ((iteF (h1:=h10) ?_).trans rfl)).trans rfl
  rw[ev,truE (zgu (v:=.bl false) (varE rfl) (varE rfl) (varE rfl) (varE rfl) rfl e)];rfl) fuel 0 none (vbk _) (by rw[n10];decide)
 obtain⟨y12,h13,f13⟩:∃y12 h13,exs (run F 29) i703 (L24 ns B s i E xs ys z7 y8 y9 (some (.ref l7)) y11 none) h10=.ok (.nx (L24 ns B s i E xs ys z7 y8 y9 (some (.ref l7)) y11 y12)) h13:=by
  have ec:ev (run F 29) (.cmp .gt (.bi .len (.cons (.idx (.var 5) (.cst (.int (0)))) .nil)) (.cst (.int (1)))) (L24 ns B s i E xs ys z7 y8 y9 (some (.ref l7)) y11 none) h10=.ok (.bl (decide ((1:Int)<E.1.length))) h10:=by
   rw[ev,lenE (ws:=E.1.map stW) (e0 _ _ _ _ _ _ h10) rfl,bindok,ev,bindok,hWl]
   simp only[cmpW,cmpI,vah,ofsome]
  by_cases z:(1:Int)<E.1.length
  .rw[vbg z]at ec
   have h1l:1<=(E.1.map stW).length:=by omega
   have hne:E.1.map stW≠[]:=λq=>by rw[q]at h1l;simp at h1l
   have x1:ev (run F 29) (.slc (.idx (.var 5) (.cst (.int (0)))) true (.cst (.int (1))) false (.cst .non)) (L24 ns B s i E xs ys z7 y8 y9 (some (.ref l7)) y11 none) h10=.ok (.tup ((E.1.map stW).drop 1)) h10:=by
    refine slcE (l:=.int ((1:Nat):Int)) (e0 _ _ _ _ _ _ h10) rfl rfl rfl rfl ?_
    rw[slcW_tup,zki h1l]
   have x2:ev (run F 29) (.slc (.idx (.var 5) (.cst (.int (0)))) false (.cst .non) true (.neg (.cst (.int (1))))) (L24 ns B s i E xs ys z7 y8 y9 (some (.ref l7)) y11 none) h10=.ok (.tup (E.1.map stW).dropLast) h10:=by
    refine slcE (u:=.int (-1)) (e0 _ _ _ _ _ _ h10) rfl rfl rfl rfl ?_
    have:=List.dropLast_concat_getLast hne
    rw[slcW_tup]
    conv=>lhs;rw[<-this]
    rw[zht]
   have x3:ev (run F 29) (.op .add (.idx (.var 5) (.cst (.int (0)))) (.slc (.idx (.var 5) (.cst (.int (0)))) false (.cst .non) true (.cst (.int (1))))) (L24 ns B s i E xs ys z7 y8 y9 (some (.ref l7)) y11 none) h10=.ok (.tup (E.1.map stW++(E.1.map stW).take 1)) h10:=by
    refine addV (e0 _ _ _ _ _ _ h10) (slcE (u:=.int ((1:Nat):Int)) (e0 _ _ _ _ _ _ h10) rfl rfl rfl rfl ?_) (by rw[vcz];omega)
    rw[slcW_tup,zfm h1l]
   have el:=lstE (consE x1 (consE x2 (consE x3 (show ev (run F 29) .nil _ h10=.ok (.tup []) h10 from rfl)))) (by simp)
   have g11:(h10.new (.lst (w3 E))).get h10.n=some (.lst (w3 E)):=zal
   have hws:∀w∈(w3 E),(∀h2,T3 h2 w)/\weq w (.tup (E.1.map stW))=false:=λw hw=>by
    simp only[vax,vbq,vdw]at hw
    rcases hw with rfl|rfl|rfl
    .exact⟨hT3 (by rw[vcp];omega) λw hw=>List.mem_of_mem_drop hw,by simp only[weq];exact zfu (by rw[vcp];omega)⟩
    .exact⟨hT3 (by rw[vds];omega) λw hw=>List.mem_of_mem_take (by rw[<-List.dropLast_eq_take];exact hw),by simp only[weq];exact zfu (by rw[vds];omega)⟩
    .exact⟨hT3 (by rw[vaf,vcz];omega) λw hw=>(vbj.mp hw).elim id List.mem_of_mem_take,by simp only[weq];exact zfu (by rw[vaf,vcz];omega)⟩
   obtain⟨y12,f12⟩:=zd7 (nx:=nxt .seq (.ref h10.n)) (tg:=tgW (.one 12)) (bd:=exs (run F 29) zc4) (R:=λx=>L24 ns B s i E xs ys z7 y8 y9 (some (.ref l7)) y11 x) (h:=h10.new (.lst (w3 E))) (ws:=(w3 E)) (λi=>by simp only[nxt,seqW,g11,vah]) (λw x=>rfl) (λw hw=>by
    obtain⟨q1,q2⟩:=hws w hw
    have e:=hb (.tup [w,backW E.2]) (h10.new (.lst (w3 E))) (λh2 _=>zfs (q1 h2) (zbp hbk) λ_=>za8 hbk) (zko q2)
    unfold zc4
    refine(zaa ((iteF (h1:=_) ?_).trans rfl)).trans rfl
    rw[ev,truE (zgu (v:=.bl false) (varE rfl) (varE rfl) (tup2E (varE rfl) (e9 _ _ _ _ _ _ _)) (varE rfl) rfl e)];rfl) fuel 0 none (vbk _) (show 3<fuel+0 by decide)
   refine⟨y12,h10.new (.lst (w3 E)),(iteT ec).trans ((zaa (ρ':=L24 ns B s i E xs ys z7 y8 y9 (some (.ref l7)) y11 y12) (h':=h10.new (.lst (w3 E))) ?_).trans rfl)⟩
   rw[exs,el,bindok]
   exact f12
  .rw[vaz z]at ec
   exact⟨none,h10,(iteF ec).trans rfl⟩
 have f4:exs (run F 29) (.«for» .rng1 (.cons (.cst (.int (24))) .nil) (.one 7) zbq) (L24 ns B s i E xs ys none none none none none none) h3=.ok (.nx (L24 ns B s i E xs ys y7 y8 none none none none)) h5:=by
  exact(for_n (n:=24) (by decide)).trans e5
 have f5:exs (run F 29) (.«for» .rng1 (.cons (.cst (.int (6))) .nil) (.one 7) zbr) (L24 ns B s i E xs ys y7 y8 none none none none) h5=.ok (.nx (L24 ns B s i E xs ys z7 y8 y9 none none none)) h6:=by
  exact(for_n (n:=6) (by decide)).trans e6
 have eb:exs (run F 29) zex.body [some (.fz (ns.map .int)),none,none,none,none,none,none,none,none,none,none,none,none] ⟨0,0,[]⟩=.ok (.rt (.bl true)) h13:=by
  refine(zaa (setE (h1:=h1) (x:=.ref 1) (zgl (varE rfl) e1))).trans ?_
  refine(zaa (ρ':=[some (.fz (ns.map .int)),some (.ref 1),some B.w,some (stW s),none,none,none,none,none,none,none,none,none]) (h':=h2) ?_).trans ?_
  .rw[exs,zgl (x:=.ref 1) (varE rfl) e2,bindok]
   simp only[tgW,seqW,g2,zaz,List.set,vah,ofsome]
  refine(zaa (setE (zas (varE rfl) (varE rfl) e3))).trans ?_
  refine(zaa (setE (tup2E (zgh (idxE (x:=.ref i) (y:=.int 0) (varE rfl) rfl (zgt (j:=0) g3 rfl)) g3') (idxE (x:=.ref i) (y:=.int 2) (varE rfl) rfl (zgt (j:=2) g3 rfl))))).trans ?_
  refine(zaa (setE (zgl (varE rfl) e4))).trans ?_
  refine(zaa ((iteF (h1:=h3) ?_).trans rfl)).trans ?_
  .rw[ev,truE (zgu (v:=.bl true) (varE rfl) (varE rfl) (varE rfl) (varE rfl) rfl (hr h3))];rfl
  refine(zaa f4).trans ((zaa f5).trans ((zaa e7).trans ?_))
  refine(zaa (ρ':=L24 ns B s i E xs ys z7 y8 y9 (some (.ref l7)) y11 none) (h':=h10) ?_).trans ((zaa f13).trans (zab (retE ?_)))
  .show exs (run F 29) _ (L24 ns B s i E xs ys z7 y8 y9 (some (.ref l7)) none none) h7=_
   rw[exs,ea,bindok]
   exact f11
  .exact zgu (v:=.bl true) (varE rfl) (varE rfl) (varE rfl) (varE rfl) rfl (hr h13)
 show zck (fin ⟨0,0,[]⟩ (exs (run F 29) zex.body [some (.fz (ns.map .int)),none,none,none,none,none,none,none,none,none,none,none,none] ⟨0,0,[]⟩))=true
 rw[eb]
 obtain⟨h21,e21,_⟩:=zfc (h:=⟨0,0,[]⟩) (w:=.bl true) (zio (ziq F 29) _ _ ⟨0,0,[]⟩ _ _ eb)
 show zck (leave ⟨0,0,[]⟩ (.bl true) h13)=true
 rw[e21]
 rfl
end
end RF
namespace HD
open PySem PySem.W PySem.Calls PyProof.Rows
noncomputable section
noncomputable def p:Program:=PySem.Challenge.pw_ballrockers_k24_word_papers
noncomputable abbrev S(x:String):Str:=Str.ofString x
noncomputable abbrev U(x:String)(t:Tok):Value:=Value.str (S x) t
noncomputable abbrev R(a:Addr):Value:=Value.ref a
noncomputable abbrev I(i:Int)(t:Tok):Value:=Value.int i t
noncomputable abbrev E(P:Params)(x:String)(t:Tok)(v:Value):DictEntry:=DictEntry.mk (PyData.keyHash P (S x)) (Value.str (S x) t) v
noncomputable abbrev N(o:Obj)(l r:BT):BT:=BT.node o l r
noncomputable abbrev Z:BT:=BT.nil
noncomputable abbrev L(o:Obj):BT:=BT.node o Z Z
noncomputable abbrev Y(c:String)(d:Data):Obj:=Obj.mk (Value.type c) none d #[]
noncomputable abbrev X(d:Data):Obj:=Obj.mk Value.none none d #[]
noncomputable def atN(l:List Stmt)(i:Nat):Stmt:=l.getD i (Stmt.Pass ⟨0,0,0,0⟩)
noncomputable def fbS:Stmt->List Stmt
 |.FunctionDef _ _ b _ _ _ _ _ _ _=>b
 |.ClassDef _ _ _ b _ _ _ _ _ _ _=>b
 |_=>[]
noncomputable def faS:Stmt->Arguments
 |.FunctionDef _ a _ _ _ _ _ _ _ _=>a
 |_=>⟨[],[],none,[],[],none,[]⟩
noncomputable def fsS:Stmt->Scope
 |.FunctionDef _ _ _ _ _ _ s _ _ _=>s
 |_=>p.main.scope
noncomputable def fb(i:Nat):List Stmt:=fbS (atN p.main.body i)
noncomputable def fa(i:Nat):Arguments:=faS (atN p.main.body i)
noncomputable def fs(i:Nat):Scope:=fsS (atN p.main.body i)
noncomputable def cb(i j:Nat):List Stmt:=fbS (atN (fb i) j)
noncomputable def ca(i j:Nat):Arguments:=faS (atN (fb i) j)
noncomputable def cs(i j:Nat):Scope:=fsS (atN (fb i) j)
noncomputable abbrev O:Value:=Value.none
noncomputable abbrev J(i:Int):Value:=Value.int i 0
noncomputable abbrev V(t:Tok):Value:=Value.str (S "/claim/cut.py") t
noncomputable abbrev A(l:Array Value):Data:=Data.fields l
noncomputable abbrev B(f:FuncData):Data:=Data.func f
noncomputable abbrev G(x:String)(i:Nat)(g:Addr)(c:List (Str×Addr))(d k o m:Value)(n:Option Addr)(cd ct:Value)(b:Addr):FuncData:=FuncData.mk (S x) (S x) (fa i) (FuncBody.stmts (fb i)) (fs i) g c d k o m n cd ct b
section
variable(P:Params)
noncomputable def N0:Nat:=5268
noncomputable def lo:List Str:=[S "fallen",S "heading_behind",S "come_down",S "come_out"]
noncomputable def keep:List Nat:=[1,2,3,4,6,7,8,9,10,12,13,14,15,16,17,18,19,20,21,22,23,24,25,26,27,29,30,31,32,38,39,41,42,43,44,46,47,48,49,50,51,52,53,54,55,56,57,58,59,60,61,62,63,64,65,66,67,68]
noncomputable def life:Life:=(Life.mk [] [] [] 0 [] [] false #[] [] 0 false false false 0 [2000,10,10] false 0 true [] [] 0 false)
noncomputable def m0:Nat:=11
noncomputable def ann:Option Value:=(some (R 6))
noncomputable def env:Env:={scope:=p.main.scope,locals:=mainNs,globals:=mainNs,cells:=[],code:=(R 13),frame:=some 14}
noncomputable def bd:List Stmt:=behindTheImports p
noncomputable def cd:Code:=Code.body bd env
noncomputable def fr:List Frame:=[topFrame (Pos.mk 0 0 0 0)]
noncomputable abbrev qC(n:String)(t:Nat)(l k:Int)(r m:Nat):Obj:=Y "code" (A #[U n t,U n (t+1),V (t+2),J l,J k,J 0,J 0,J 3,R r,Value.bool true,J 181,R (r+1),O,R (r+2),R (r+3),R (r+4),J (Int.ofNat m),J l,V (m+1)])
noncomputable abbrev qD(n:String)(t:Nat)(l k:Int)(r m:Nat):Obj:=Y "code" (A #[U n t,U n (t+1),V (t+2),J l,J k,J 0,J 0,J 3,R r,Value.bool true,J 181,R (r+1),O,O,O,R (r+2),J (Int.ofNat m),J l,V (m+1)])
noncomputable def qU:Nat->List String->List Value
 |_,[]=>[]
 |t,x::r=>U x t::qU (t+1) r
noncomputable abbrev qT(t:Nat)(l:List String):Obj:=Y "tuple" (Data.seq (qU t l).toArray 0)
noncomputable abbrev qF(n:String)(i:Nat)(u:Value)(r:Addr):Obj:=Y "function" (B (G n i 3 [] O O O u none (R r) O 0))
noncomputable abbrev qG(n:String)(i:Nat):Obj:=X (B (G n i 0 [] O O O O none O O 0))
noncomputable def qJ:List (Int×Nat)->List Value
 |[]=>[]
 |(a,b)::r=>J a::J 0::R b::qJ r
noncomputable def qO:List Obj->List Obj
 |x::_::r=>x::qO r
 |x=>x
noncomputable def qE:List Obj->List Obj
 |_::y::r=>y::qE r
 |_=>[]
noncomputable def qB:Nat->List Obj->BT
 |f+1,x::r=>N x (qB f (qO r)) (qB f (qE r))
 |_,_=>Z
 def a0:=(Y "tuple" (Data.seq #[] 0))
 def a1:=(X (A #[]))
 abbrev qN(n:String)(i t:Nat)(l k:Int)(r:Nat)(u:Value):List Obj:=[a0,a1,qG n i,qD n t l k r (t+3),qF n i u (r+3)]
 abbrev qM(n:String)(i t:Nat)(s:List String)(l k:Int)(r:Nat)(u:Value):List Obj:=[a0,a1,qT (t+3) s,a0,qG n i,qC n t l k r (t+3+s.length),qF n i u (r+5)]
 def a2:=(Y "code" (A #[(U "<module>" 182),(U "<module>" 183),(V 184),(J 1),(J 0),(J 0),(J 0),(J 0),(R 11),(Value.bool false),(J 181),(R 12),O,O,O,O,(J 185),(J 1),(V 186)]))
 def a3:=(Obj.mk (Value.type "frame") none Data.plain #[(some (R 13)),(some (R 3)),(some (R 3)),none,(some (U "__main__" 164)),none,(some (R 0))])
 def ha:Heap:=Heap.mk (Array.mk [(boot_o_0 P),(boot_o_1 P),(boot_o_2 P),(boot_o_3 P),(boot_o_4 P),(boot_o_5 P),(boot_o_6 P),(boot_o_7 P),(boot_o_8 P),(boot_o_9 P),(boot_o_10 P),a0,a1,a2,a3]) (Life.mk [] [] [] 0 [] [] false #[] [] 0 false false false 0 [2000,10,10] false 0 true [] [] 0 false)
noncomputable def sa(w:World)(os:OsState):Shared:=⟨ha w.params,(Array.mk []),(Drawn.mk 0 0 0 0),187,os⟩
theorem seg_q{w:World}{n:Nat}{s s':SharedT}{l:List Stmt}{pos pos':Pos}(h:PySem.W.Fast.tw10110043849684766642 PySem.W.Fast.tw14364793385576792824 p w m0 ann 1 n s (piecesOf l env cd pos fr)=some (.next,s',cd,pos')) :
 segRun treeTable p w m0 ann 1 n s.abs (piecesOf l env cd pos fr)=some (.next,s'.abs,cd,pos'):=
 segRun_of (by rw[PySem.W.Fast.te10110043849684766642,vb8];exact h)
theorem pre_q{w:World}{n:Nat}{s s':Shared}{pos:Pos}(h:PySem.W.Fast.tw15667345088766844465 PySem.W.Fast.tw14364793385576792824 p w m0 ann n s (topStub p)=some (s',⟨PySem.W.Fast.tw11892475500146522536 PySem.W.Fast.tw14364793385576792824 cd,cd,pos,fr⟩)) :
 topGo treeTable p w m0 ann n s (topStub p)=some (s',⟨denote treeTable cd,cd,pos,fr⟩):=by
 rw[PySem.W.Fast.te15667345088766844465,vb8,PySem.W.Fast.te11892475500146522536];exact h
theorem zvw{w:World}{n:Nat}{s s':Shared}{pos pos':Pos}(h:PySem.W.Fast.tw14374325043358763698 PySem.W.Fast.tw14364793385576792824 p w m0 ann 1 n s (blockOf bd env cd pos fr)=some (.next,s',cd,pos')) :
 segRun treeTable p w m0 ann 1 n s (blockOf bd env cd pos fr)=some (.next,s',cd,pos'):=by
 rw[PySem.W.Fast.te14374325043358763698,vb8];exact h
theorem fin_q{w:World}{n:Nat}{s s':Shared}{pos:Pos}(h:PySem.W.Fast.tw14082659384304107361 PySem.W.Fast.tw14364793385576792824 p w m0 ann n s ⟨doneF .next,cd,pos,fr⟩=some s') :
 topRun treeTable p w m0 ann n s ⟨doneF .next,cd,pos,fr⟩=some s':=by
 rw[PySem.W.Fast.te14082659384304107361,vb8];exact h
set_option maxHeartbeats 0 in
theorem pre(w:World)(os:OsState):topGo treeTable p w m0 ann 12 ⟨boot_heap w.params,Array.mk [],boot_drawn,boot_toks,os⟩ (topStub p)=some (sa w os,⟨denote treeTable cd,cd,(Pos.mk 0 0 0 0),fr⟩):=pre_q (by kernel_rfl)
 def vtb:List Obj:=[(boot_o_0 P),(boot_o_1 P),(boot_o_2 P),(boot_o_3 P),(boot_o_4 P),(boot_o_5 P),(boot_o_6 P),(boot_o_7 P),(boot_o_8 P),(boot_o_9 P),(boot_o_10 P),a0,a1,a2,a3]
 def tb:=qB 20 (vtb P)
noncomputable def sb(w:World)(os:OsState):SharedT:=⟨tb w.params,15,life,(Array.mk []),(Drawn.mk 0 0 0 0),187,os⟩
set_option maxHeartbeats 0 in
theorem block(w:World)(os:OsState):segRun treeTable p w m0 ann 1 1 (sa w os) (blockOf bd env cd (Pos.mk 0 0 0 0) fr)=some (.next,(sb w os).abs,cd,(Pos.mk 0 0 0 0)):=zvw (by kernel_rfl)
 def ea4:=[(E P "__doc__" 166 O),(E P "__package__" 167 O),(E P "__loader__" 168 (Value.builtin "__main__.__loader__#opaque")),(E P "__spec__" 169 O),(E P "__annotations__" 170 (R 6)),(E P "__builtins__" 171 (R 4)),(E P "__file__" 173 (V 172)),(E P "__cached__" 174 O),(E P "BoardError" 206 (R 24)),(E P "NoBoard" 222 (R 37)),(E P "Fault" 249 (R 56)),(E P "NoStand" 265 (R 68)),(E P "is_whole" 274 (R 77)),(E P "is_whole_within" 283 (R 84)),(E P "is_tuple_within" 292 (R 91)),(E P "are_wholes_within" 304 (R 98)),(E P "is_just" 310 (R 103)),(E P "MOST_COLUMNS" 314 (I 40 313)),(E P "MOST_ROWS" 316 (I 60 315)),(E P "MOST_GROUPS" 318 (I 8 317)),(E P "MOST_FEEDERS" 320 (I 4 319)),(E P "MOST_NAME" 322 (I 99 321)),(E P "look_at_board" 336 (R 110)),(E P "is_stand" 346 (R 117)),(E P "look_at_stand" 354 (R 124)),(E P "is_board_but_for_places" 366 (R 131)),(E P "are_rows" 375 (R 138)),(E P "are_doors" 385 (R 145)),(E P "is_door" 395 (R 152)),(E P "is_feeder_or_none" 403 (R 159)),(E P "may_stand" 413 (R 166)),(E P "is_rocker" 423 (R 173)),(E P "are_leans" 431 (R 180)),(E P "LEFT" 436 (I (-1) 435)),(E P "STRAIGHT" 438 (I 0 437)),(E P "RIGHT" 440 (I 1 439)),(E P "NO_DOOR" 441 (R 181))]
 def a4:=Y "dict" (Data.dict ((E P "__name__" 165 (U "ballrockers.ways" 432))::ea4 P).toArray 38)
 def ja5:List (Int×Nat):=[(2,20),(4,33),(6,45),(11,64),(14,76),(16,83),(18,90),(20,97),(27,102),(39,109),(47,116),(53,123),(56,130),(65,137),(72,144),(79,151),(84,158),(86,165),(94,172),(99,179)]
 def a5:=X (A (qJ ja5).toArray)
 def a6:=(Y "tuple" (Data.seq #[(Value.type "ValueError")] 0))
 def a7:=(Y "builtin_function_or_method" (A #[(Value.builtin "type.__prepare__"),(Value.type "type")]))
 def a8:=(Y "dict" (Data.dict #[(E P "__module__" 196 (U "ballrockers.errors" 187)),(E P "__qualname__" 198 (U "BoardError" 197)),(E P "__firstlineno__" 200 (I 2 199)),(E P "__static_attributes__" 201 (R 22))] 4))
 def a9:=(Y "code" (A #[(U "BoardError" 191),(U "BoardError" 192),(V 193),(J 2),(J 0),(J 0),(J 0),(J 0),(R 18),(Value.bool false),(J 181),(R 19),O,O,O,O,(J 194),(J 2),(V 195)]))
 def a10:=(Obj.mk (Value.type "frame") none Data.plain #[(some (R 20)),(some (R 3)),(some (R 17)),none,(some (U "ballrockers.errors" 187)),none,(some (R 0))])
 def a11:=(Y "dict" (Data.dict #[(E P "__module__" 196 (U "ballrockers.errors" 187)),(E P "__firstlineno__" 200 (I 2 199)),(E P "__static_attributes__" 201 (R 22)),(E P "__weakref__" 203 (R 25)),(E P "__doc__" 204 O)] 3))
 def qR(l:List Nat):Obj:=(Obj.mk (Value.type "type") none (Data.cls (ClassData.mk (S "BoardError") [(Value.type "ValueError")] [(R 24),(Value.type "ValueError"),(Value.type "Exception"),(Value.type "BaseException"),(Value.type "object")] 23 (S "BoardError") true [] (l.map λi=>R i) false none false)) #[(some (R 15)),none,(some (U "BoardError" 189)),(some (U "BoardError" 197)),(some (Value.builtin "ValueError.__new__")),(some (Value.bool true))])
 def a12:=qR [37,56,68]
 def a13:=(Y "getset_descriptor" (A #[(U "__weakref__" 202),(R 24),(Value.builtin "ExceptionGroup.__weakref__"),O]))
 def a14:=(Y "super" (A #[(R 24),(R 24),(R 24)]))
 def a15:=(Y "builtin_function_or_method" (A #[(Value.builtin "object.__init_subclass__"),(R 24)]))
 def a16:=(Y "tuple" (Data.seq #[(R 24)] 0))
 def a24:=(Y "dict" (Data.dict #[(E P "__module__" 230 (U "ballrockers.errors" 187)),(E P "__qualname__" 232 (U "Fault" 231)),(E P "__firstlineno__" 234 (I 6 233)),(E P "__init__" 243 (R 53)),(E P "__static_attributes__" 246 (R 54))] 5))
 def a25:=(X (A #[(J 8),(J 4),(R 52)]))
 def a26:=(Y "code" (A #[(U "Fault" 225),(U "Fault" 226),(V 227),(J 6),(J 0),(J 0),(J 0),(J 0),(R 43),(Value.bool false),(J 181),(R 44),O,O,O,O,(J 228),(J 6),(V 229)]))
 def a27:=(Obj.mk (Value.type "frame") none Data.plain #[(some (R 45)),(some (R 3)),(some (R 42)),none,(some (U "ballrockers.errors" 187)),none,(some (R 0))])
 def a28:=qT 238 ["self","row","column"]
 def a29:=(X (B (FuncData.mk (S "__init__") (S "Fault.__init__") (ca 3 0) (FuncBody.stmts (cb 3 0)) (cs 3 0) 0 [] O O O O none O O 0)))
 def a30:=(Y "code" (A #[(U "__init__" 235),(U "Fault.__init__" 236),(V 237),(J 8),(J 3),(J 0),(J 0),(J 3),(R 47),(Value.bool true),(J 181),(R 48),O,(R 49),(R 50),(R 51),(J 241),(J 8),(V 242)]))
 def a31:=(Y "function" (B (FuncData.mk (S "__init__") (S "Fault.__init__") (ca 3 0) (FuncBody.stmts (cb 3 0)) (cs 3 0) 3 [] O O O (U "ballrockers.errors" 187) none (R 52) O 0)))
 def a32:=qT 244 ["column","row"]
 def a33:=(Y "dict" (Data.dict #[(E P "__module__" 230 (U "ballrockers.errors" 187)),(E P "__firstlineno__" 234 (I 6 233)),(E P "__init__" 243 (R 53)),(E P "__static_attributes__" 246 (R 54)),(E P "__doc__" 247 O)] 2))
 def a34:=(Obj.mk (Value.type "type") none (Data.cls (ClassData.mk (S "Fault") [(R 24)] [(R 56),(R 24),(Value.type "ValueError"),(Value.type "Exception"),(Value.type "BaseException"),(Value.type "object")] 55 (S "Fault") true [] [] false none false)) #[(some (R 40)),none,(some (U "Fault" 223)),(some (U "Fault" 231)),(some (Value.builtin "ValueError.__new__")),(some (Value.bool true))])
 def a35:=(Y "super" (A #[(R 56),(R 56),(R 56)]))
 def a36:=(Y "builtin_function_or_method" (A #[(Value.builtin "object.__init_subclass__"),(R 56)]))
 def u266:=U "ballrockers.whole" 266
 def u311:=U "ballrockers.boards" 311
 def a107:=(Y "tuple" (Data.seq #[O,O] 0))
 def qK(n:String)(t:Nat)(l:Int)(b:Nat):List Obj:=[a16,a7,Y "dict" (Data.dict #[E P "__module__" (t+7) (U "ballrockers.errors" 187),E P "__qualname__" (t+9) (U n (t+8)),E P "__firstlineno__" (t+11) (I l (t+10)),E P "__static_attributes__" (t+12) (R (b+7))] 4),a0,a1,Y "code" (A #[U n (t+2),U n (t+3),V (t+4),J l,J 0,J 0,J 0,J 0,R (b+3),Value.bool false,J 181,R (b+4),O,O,O,O,J (Int.ofNat (t+5)),J l,V (t+6)]),Obj.mk (Value.type "frame") none Data.plain #[some (R (b+5)),some (R 3),some (R (b+2)),none,some (U "ballrockers.errors" 187),none,some (R 0)],a0,Y "dict" (Data.dict #[E P "__module__" (t+7) (U "ballrockers.errors" 187),E P "__firstlineno__" (t+11) (I l (t+10)),E P "__static_attributes__" (t+12) (R (b+7)),E P "__doc__" (t+13) O] 2),Obj.mk (Value.type "type") none (Data.cls (ClassData.mk (S n) [R 24] [R (b+9),R 24,Value.type "ValueError",Value.type "Exception",Value.type "BaseException",Value.type "object"] (b+8) (S n) true [] [] false none false)) #[some (R b),none,some (U n t),some (U n (t+8)),some (Value.builtin "ValueError.__new__"),some (Value.bool true)],Y "super" (A #[R (b+9),R (b+9),R (b+9)]),Y "builtin_function_or_method" (A #[Value.builtin "object.__init_subclass__",R (b+9)])]
 def vt0:List Obj:=((vtb P).set 3 (a4 P)).set 12 a5++([a6,a7,(a8 P),a0,a1,a9,a10,a0,(a11 P),a12,a13,a14,a15]++(qK P "NoBoard" 207 4 28++([a16,a7,(a24 P),a0,a25,a26,a27,a0,a1,a28,a0,a29,a30,a31,a32,(a33 P),a34,a35,a36]++(qK P "NoStand" 250 11 59++(qM "is_whole" 6 268 ["thing"] 14 1 71 u266++(qM "is_whole_within" 7 275 ["thing","low","high"] 16 3 78 u266++(qM "is_tuple_within" 8 284 ["thing","fewest","most"] 18 3 85 u266++(qM "are_wholes_within" 9 293 ["thing","fewest","most","low","high","number"] 20 5 92 u266++(qN "is_just" 10 305 27 2 99 u266++(qM "look_at_board" 17 323 ["board","width","groups","rows","row","places","column","piece"] 39 1 104 u311++(qM "is_stand" 18 337 ["board","thing","leans","feeder"] 47 2 111 u311++(qM "look_at_stand" 19 347 ["board","thing"] 53 2 118 u311++(qM "is_board_but_for_places" 20 355 ["board","width","groups","rows","feeders","doors"] 56 1 125 u311++(qM "are_rows" 21 367 ["thing","width","places"] 65 2 132 u311++(qM "are_doors" 22 376 ["thing","width","feeders","door"] 72 3 139 u311++(qM "is_door" 23 386 ["thing","feeders","name","call"] 79 2 146 u311++(qM "is_feeder_or_none" 24 396 ["thing","feeders"] 84 2 153 u311++(qM "may_stand" 25 404 ["piece","column","width","groups"] 86 4 160 u311++(qM "is_rocker" 26 414 ["thing","groups","group","side"] 94 2 167 u311++(qM "are_leans" 27 424 ["thing","groups"] 99 2 174 u311++([a107])))))))))))))))))))))
 def t0:=qB 20 (vt0 P)
noncomputable def s0(w:World)(os:OsState):SharedT:=⟨t0 w.params,182,life,(Array.mk []),(Drawn.mk 0 0 0 0),442,os⟩
noncomputable def st0:List Stmt:=(bd.drop 0).take 33
set_option maxHeartbeats 0 in
theorem seg0(w:World)(os:OsState):segRun treeTable p w m0 ann 1 1485 (sb w os).abs (piecesOf st0 env cd (Pos.mk 0 0 0 0) fr)=some (.next,(s0 w os).abs,cd,(Pos.mk 105 0 105 7)):=seg_q (by kernel_rfl)
 def ea108 := (ea4 P ++ [(E P "fallen" 458 (R 189)), (E P "heading_behind" 471 (R 197)), (E P "come_down" 485 (R 205)), (E P "come_out" 498 (R 213)), (E P "for_ever_holds" 514 (R 220)), (E P "stand_behind" 526 (R 227)), (E P "word_holds" 538 (R 234)), (E P "word_of" 544 (R 239)), (E P "shortest_turn" 552 (R 246)), (E P "drawn_in" 560 (R 253)), (E P "_law_cell" 570 (R 260)), (E P "_law_mixed" 580 (R 267)), (E P "_law_deck" 586 (R 272)), (E P "_law_take" 595 (R 279)), (E P "_law_piece" 607 (R 286)), (E P "_law_row" 613 (R 291)), (E P "_law_door" 623 (R 298)), (E P "_law_board" 629 (R 303)), (E P "_law_leans" 635 (R 308)), (E P "_law_fall" 650 (R 315)), (E P "_law_number" 658 (R 322)), (E P "_law_step" 672 (R 329)), (E P "_law_ever" 685 (R 336)), (E P "_law_stand" 695 (R 343)), (E P "_law_same" 701 (R 348)), (E P "_law_any_board" 709 (R 355)), (E P "_law_lead" 720 (R 362)), (E P "_law_doors" 726 (R 367)), (E P "_law_bent_names" 739 (R 374)), (E P "_law_bent" 751 (R 381)), (E P "_law_is" 763 (R 388)), (E P "_law_near" 772 (R 395)), (E P "law" 791 (R 402))])
 def a108:=Y "dict" (Data.dict ((E P "__name__" 165 (U "law_ballrockers_k24_word_papers" 561))::ea108 P).toArray 71)
 def ja109:List (Int×Nat):=ja5++[(106,188),(122,196),(136,204),(140,212),(145,219),(160,226),(167,233),(169,238),(176,245),(181,252),(187,259),(191,266),(194,271),(196,278),(205,285),(215,290),(217,297),(223,302),(230,307),(232,314),(250,321),(252,328),(258,335),(270,342),(276,347),(284,354),(291,361),(297,366),(308,373),(321,380),(334,387),(337,394),(344,401)]
 def a109:=X (A (qJ ja109).toArray)
 def a110:=(Y "tuple" (Data.seq #[O] 0))
 def a111:=qT 445 ["board","leans","feeder","fault","column","columns","turned","leaning","heading","places","piece"]
 def a112:=qG "fallen" 33
 def a113:=qC "fallen" 442 106 4 183 456
 def a114:=(Y "function" (B (G "fallen" 33 3 [] (R 182) O O (U "ballrockers.ways" 432) none (R 188) O 0)))
 def a115:=qT 462 ["piece","heading","leaning","fault","group","side","lean"]
 def a116:=qG "heading_behind" 34
 def a117:=qC "heading_behind" 459 122 4 191 469
 def a118:=(Y "function" (B (G "heading_behind" 34 3 [] (R 190) O O (U "ballrockers.ways" 432) none (R 196) O 0)))
 def a119:=qT 475 ["board","leans","feeder","fault","columns","turned","behind","column"]
 def a120:=qG "come_down" 35
 def a121:=qC "come_down" 472 136 4 199 483
 def a122:=(Y "function" (B (G "come_down" 35 3 [] (R 198) O O (U "ballrockers.ways" 432) none (R 204) O 0)))
 def a123:=qT 489 ["board","leans","feeder","fault","column","behind","door"]
 def a124:=qG "come_out" 36
 def a125:=qC "come_out" 486 140 4 207 496
 def a126:=(Y "function" (B (G "come_out" 36 3 [] (R 206) O O (U "ballrockers.ways" 432) none (R 212) O 0)))
 def a127:=qT 504 ["board","stand","paper","stands","back","numbers","coming","thing"]
 def a128 := qG "for_ever_holds" 38
 def a129 := qC "for_ever_holds" 501 145 3 214 512
 def a130 := qF "for_ever_holds" 38 (U "ballrockers.ever" 499) 219
 def a131:=qT 518 ["board","stand","leans","feeder","door","behind"]
 def a132:=qG "stand_behind" 39
 def a133:=qC "stand_behind" 515 160 2 221 524
 def a134:=qF "stand_behind" 39 (U "ballrockers.ever" 499) 226
 def u527:=U "ballrockers.words" 527
 def u561:=U "law_ballrockers_k24_word_papers" 561
 def vt1 : List Obj := ((vt0 P).set 3 (a108 P)).set 12 a109 ++ ([a110, a0, a1, a111, a0, a112, a113, a114, a110, a0, a1, a115, a0, a116, a117, a118, a110, a0, a1, a119, a0, a120, a121, a122, a110, a0, a1, a123, a0, a124, a125, a126, a0, a1, a127, a0, a128, a129, a130, a0, a1, a131, a0, a132, a133, a134] ++ (qM "word_holds" 41 529 ["board", "stand", "paper", "word"] 167 4 228 u527 ++ (qN "word_of" 42 539 169 2 235 u527 ++ (qM "shortest_turn" 43 545 ["names", "size"] 176 1 240 u527 ++ (qM "drawn_in" 44 553 ["lead", "turn"] 181 2 247 u527 ++ (qM "_law_cell" 46 563 ["_law_script", "_law_k"] 187 2 254 u561 ++ (qM "_law_mixed" 47 571 ["_law_script", "_law_k", "_law_many", "_law_number_here"] 191 3 261 u561 ++ (qN "_law_deck" 48 581 194 1 268 u561 ++ (qM "_law_take" 49 587 ["_law_deck_here", "_law_many", "_law_cell_here"] 196 2 273 u561 ++ (qM "_law_piece" 50 596 ["_law_deck_here", "_law_column", "_law_width", "_law_groups", "_law_pick", "_law_piece_here"] 205 4 280 u561 ++ (qN "_law_row" 51 608 215 3 287 u561 ++ (qM "_law_door" 52 614 ["_law_deck_here", "_law_feeders", "_law_name", "_law_call"] 217 2 292 u561 ++ (qN "_law_board" 53 624 223 4 299 u561 ++ (qN "_law_leans" 54 630 230 2 304 u561) ++ (qM "_law_fall" 55 636 ["_law_board_here", "_law_leans_here", "_law_feeder", "_law_column", "_law_columns", "_law_turned", "_law_came", "_law_row_here", "_law_piece_here"] 232 3 309 u561 ++ (qM "_law_number" 56 651 ["_law_found", "_law_due"] 250 2 316 u561 ++ (qM "_law_step" 57 659 ["_law_board_here", "_law_stand_here", "_law_columns", "_law_turned", "_law_leans_here", "_law_is_stuck", "_law_name", "_law_call"] 252 2 323 u561 ++ (qM "_law_ever" 58 673 ["_law_board_here", "_law_stand_here", "_law_stands", "_law_numbers", "_law_names", "_law_name", "_law_behind"] 258 2 330 u561 ++ (qM "_law_stand" 59 686 ["_law_deck_here", "_law_board_here", "_law_leans_here", "_law_feeder"] 270 2 337 u561 ++ (qN "_law_same" 60 696 276 2 344 u561 ++ (qM "_law_any_board" 61 702 ["_law_deck_here", "_law_kind"] 284 1 349 u561 ++ (qM "_law_lead" 62 710 ["_law_names", "_law_many", "_law_most", "_law_found", "_law_place"] 291 3 356 u561 ++ (qN "_law_doors" 63 721 297 1 363 u561 ++ (qM "_law_bent_names" 64 727 ["_law_deck_here", "_law_names", "_law_at", "_law_to", "_law_odd", "_law_some", "_law_swapped"] 308 2 368 u561 ++ (qM "_law_bent" 65 740 ["_law_deck_here", "_law_word", "_law_ahead", "_law_names", "_law_pick", "_law_some"] 321 2 375 u561 ++ (qM "_law_is" 66 752 ["_law_board_here", "_law_stand_here", "_law_paper", "_law_word", "_law_due", "_law_found"] 334 5 382 u561 ++ (qM "_law_near" 67 764 ["_law_deck_here", "_law_board_here", "_law_stand_here"] 337 1 389 u561 ++ (qM "law" 68 773 ["_law_script", "_law_deck_here", "_law_board_here", "_law_stand_here", "_law_ever_here", "_law_paper", "_law_right", "_law_turn", "_law_bent_here", "_law_twice", "_law_nones", "_law_none", "_law_stands"] 344 1 396 u561)))))))))))))))))))))))))))
 def t1:=qB 20 (vt1 P)
noncomputable def s1(w:World)(os:OsState):SharedT:=⟨t1 w.params,403,life,(Array.mk []),(Drawn.mk 0 0 0 0),792,os⟩
noncomputable def st1:List Stmt:=(bd.drop 33).take 36
set_option maxHeartbeats 0 in
theorem seg1(w:World)(os:OsState):segRun treeTable p w m0 ann 1 1088 (s0 w os).abs (piecesOf st1 env cd (Pos.mk 105 0 105 7) fr)=some (.next,(s1 w os).abs,cd,(Pos.mk 344 0 368 82)):=seg_q (by kernel_rfl)
 def hz:Heap:=Heap.mk (Array.mk (vt1 P)) (Life.mk [] [] [] 0 [] [] false #[] [] 0 false false false 0 [2000,10,10] false 0 true [] [] 0 false)
noncomputable def sz(w:World)(os:OsState):Shared:=⟨hz w.params,(Array.mk []),(Drawn.mk 0 0 0 0),792,os⟩
set_option maxHeartbeats 0 in
theorem fin(w:World)(os:OsState):topRun treeTable p w m0 ann 2 (s1 w os).abs ⟨doneF .next,cd,(Pos.mk 344 0 368 82),fr⟩=some (sz w os):=fin_q (by kernel_rfl)
 def as:List Addr:=[2,3,15,22,23,24,25,28,35,36,37,40,47,49,50,52,53,54,55,56,59,66,67,68,71,73,74,76,77,78,80,81,83,84,85,87,88,90,91,92,94,95,97,98,99,102,103,104,106,107,109,110,111,113,114,116,117,118,120,121,123,124,125,127,128,130,131,132,134,135,137,138,139,141,142,144,145,146,148,149,151,152,153,155,156,158,159,160,162,163,165,166,167,169,170,172,173,174,176,177,179,180,181,182,183,185,186,188,189,190,191,193,194,196,197,198,199,201,202,204,205,206,207,209,210,212,213,214,216,217,219,220,221,223,224,226,227,228,230,231,233,234,235,238,239,240,242,243,245,246,247,249,250,252,253,254,256,257,259,260,261,263,264,266,267,268,271,272,273,275,276,278,279,280,282,283,285,286,287,290,291,292,294,295,297,298,299,302,303,304,307,308,309,311,312,314,315,316,318,319,321,322,323,325,326,328,329,330,332,333,335,336,337,339,340,342,343,344,347,348,349,351,352,354,355,356,358,359,361,362,363,366,367,368,370,371,373,374,375,377,378,380,381,382,384,385,387,388,389,391,392,394,395,396,398,399,401,402]
 def K:Frag:=as.map λi=>(i,(vt1 P).getD i a0)
noncomputable def M0:Nat:=(12+ (1+ (1485+ (1088+2))))
theorem bd_is:bd=st0++(st1++([])):=by kernel_rfl
theorem rest(w:World)(os:OsState):topRun treeTable p w m0 ann (1485+ (1088+ (2))) (sb w os).abs (restOf bd env cd (Pos.mk 0 0 0 0) fr)=some (sz w os):=by
 rw[show restOf bd env cd (Pos.mk 0 0 0 0) fr=restOf (st0++(st1++([]))) env cd (Pos.mk 0 0 0 0) fr from vdu (λb=>restOf b env cd (Pos.mk 0 0 0 0) fr) bd_is]
 exact(piece_app (seg0 w os) (piece_app (seg1 w os) (piece_nil (fin w os))))
theorem run(w:World)(os:OsState):topRun treeTable p w m0 ann M0 ⟨boot_heap w.params,Array.mk [],boot_drawn,boot_toks,os⟩ (topStub p)=some (sz w os):=
 go_top (pre w os) (piece_block (block w os) (rest w os))
noncomputable def lawAt:Nat:=68
noncomputable def zzk:Pos:=(Pos.mk 344 0 368 82)
noncomputable def q:Program:={p with main:={p.main with body:=keep.map (atN p.main.body)}}
theorem as_is:∀P,as=(K P).map (·.1):=λ_=>by kernel_rfl
noncomputable def H:Hook:=kHook K as as_is
noncomputable def Xt(s:Shared):Bool:=xlAt q [] s&&recOk [] s
theorem zzl(w:World)(os:OsState):(staticsOk (importedModules p.main.body) (boot_heap w.params) (hz w.params)&&namesBound p (hz w.params)&&gensDone (sz w os)&&laidKept (boot_heap w.params) (hz w.params))=true:=by
 rw[PySem.W.Fast.te5923862056798008813];kernel_rfl
theorem zzm(w:World)(os:OsState):seen ((recsOf q).map (·.name)) (ownsOf q) [] {sz w os with gens:=#[]}=expectedOf q:=by
 rw[PySem.W.Fast.te5160383126252970620,PySem.W.R.mapR_eq,PySem.W.Fast.te3399658132070893891,PySem.W.Fast.te5991557255702980513];kernel_rfl
theorem l_blt(w:World)(os:OsState):(sz w os).heap.bltView=bltViewBooted:=by kernel_rfl
theorem zzn(w:World)(os:OsState):((sz w os).heap.keysOk (looseW q lo) ((recsOf q).map (·.name)) ((litsOf q).map (·.1)) ((clssOf q (looseW q lo)).map (·.name))&& (sz w os).heap.accountedOkI (importedModules p.main.body)&& (sz w os).heap.isNs mainGlobals&& (sz w os).heap.isNs builtinsNs&&tablesOk q (sz w os).heap&&Xt (sz w os)&& (if true=true then(sz w os).gens.size==0 else !leftWithCleanup (sz w os).gens))=true:=by
 rw[PySem.W.Fast.te10880121769531294198,PySem.W.Fast.te821141287760084731,PySem.W.R.mapR_eq,PySem.W.Fast.te3399658132070893891,PySem.W.Fast.te7409074990110511671,PySem.W.Fast.te13664370479719496447,PySem.W.Fast.te14722251495701143533,PySem.W.Fast.te10994771534591457954,PySem.W.Fast.te5923862056798008813];kernel_rfl
theorem zzo(w:World)(os:OsState):tabsOk q (sz w os)=true:=by rw[PySem.W.Fast.te479339242167458305];kernel_rfl
theorem l_pin(w:World)(os:OsState):pinSeenD q (drecsOf q) (sz w os)=pinGoodD (drecsOf q):=by rw[PySem.W.Fast.te16090120013241838585,PySem.W.Fast.te3247288618530077131];kernel_rfl
theorem l_plE(w:World)(os:OsState):plainSeenE q (looseW q lo) (sz w os)=plainGoodE q (looseW q lo):=by rw[PySem.W.Fast.te2386780881361962483,PySem.W.Fast.te821141287760084731];kernel_rfl
theorem l_plD(w:World)(os:OsState):plainSeenD q lo (sz w os)=plainGoodD q lo:=by rw[PySem.W.Fast.te11698064438423848299];kernel_rfl
theorem zzp(w:World)(os:OsState):wideSeen q (sz w os)=wideGood q:=by rw[PySem.W.Fast.te7317090234206586261];kernel_rfl
theorem l_cls(w:World)(os:OsState):clsSeenW q lo (sz w os)=clsGoodW q lo:=by rw[PySem.W.Fast.te7369524293546568484];kernel_rfl
theorem zzq(w:World)(os:OsState):as.map (sz w os).heap.get?=(K w.params).map λp=>some p.2:=by kernel_rfl
theorem left:LeftO p q lo Xt (Hook.obs H) (Hook.val H) N0 true:=
 LeftO.of_pieces (H₀:=boot_heap) (H₁:=hz) (boot_open (by kernel_rfl) (by kernel_rfl) (λs=>by kernel_rfl)) (λw=>by kernel_rfl) run (by kernel_rfl)
  (λw=>funext λos=>looks_pair (zzl w os) (looks_pair
    (looks_pair (zzm w os) (looks_pair (l_blt w os) (looks_pair (zzn w os) (looks_pair (zzo w os) (looks_pair (l_pin w os) (looks_pair (l_plE w os) (looks_pair (l_plD w os) (looks_pair (zzp w os) (l_cls w os)))))))))
    (zzq w os)))
noncomputable def df:DefRec:=⟨S "law",fa lawAt,fb lawAt,fs lawAt,zzk⟩
theorem df_is:defOf q (S "law")=some (df,[]):=by kernel_rfl
theorem holds(l:OpenLaw)(hp:l.prog=p)(hn:l.name=S "law")(ok:l.wellSaid=true)(hch:(chainsOk q&&opensWell p&& (frees l.row.toRowW&&l.row.within.isEmpty))=true)(hb:l.row.toRowW.prog.bare)(hw:l.row.toRowW.promised)
 (hwr:(!l.row.writes||l.row.records.isEmpty)=true) (hk:p.theDef (S "law")=some (df.params,df.body,df.scope)) (hkw:kwWritten? df.params.kwonlyargs df.params.kw_defaults=some [])
 (call:WalkO q lo (XL q []) (Hook.says H) l.row.toRowW df [] λf vs=>PySem.call f vs):l.Holds:=
 holds_law ok λsaid=>PySem.W.holds_open (q:=q) (loose:=lo) (Xt:=Xt) (XP:=XL q []) (Yf:=Hook.obs H) (Ya:=Hook.val H) (YP:=Hook.says H) (N:=N0) (r:=l.row) (by have h:l.row.toRowW.prog=p:=hp;show LeftO l.row.toRowW.prog q lo Xt (Hook.obs H) (Hook.val H) N0 true;rw[h];exact left) (Hook.of H) (Hook.keeps H) (λs e=>xl_of s (Bool.and_eq_true_iff.mp e).1) XL.keeps
  (by show defOf q l.name=_;rw[hn];exact df_is) (by show l.prog.theDef l.name=_;rw[hp,hn];exact hk) hkw (λs e=>recFacts_of (Bool.and_eq_true_iff.mp e).2) hwr said (by have h:l.row.toRowW.prog=p:=hp;rw[h];exact hch) hb hw call
end
end
end HD
namespace RF
noncomputable def T24 : List PySem.Str := (["is_whole", "is_whole_within", "_law_cell", "_law_deck", "_law_mixed", "_law_take", "is_tuple_within", "are_wholes_within", "are_doors", "are_rows", "is_board_but_for_places", "is_door", "is_feeder_or_none", "is_rocker", "look_at_board", "may_stand"] ++ List.replicate 1 "" ++ ["are_leans"] ++ List.replicate 2 "" ++ ["_law_leans", "_law_piece"] ++ List.replicate 1 "" ++ ["_law_door"] ++ List.replicate 1 "" ++ ["_law_row", "_law_board", "is_stand"] ++ List.replicate 1 "" ++ ["look_at_stand"] ++ List.replicate 8 "" ++ ["_law_fall", "_law_number"] ++ List.replicate 19 "" ++ ["is_just"] ++ List.replicate 32 "" ++ ["_law_same", "_law_stand"] ++ List.replicate 5 "" ++ ["_law_any_board"] ++ List.replicate 12 "" ++ ["_law_ever"] ++ List.replicate 4 "" ++ ["_law_step"] ++ List.replicate 14 "" ++ ["_law_near"] ++ List.replicate 40 "" ++ ["heading_behind", "fallen", "come_down", "come_out"] ++ List.replicate 5 "" ++ ["stand_behind"] ++ List.replicate 11 "" ++ ["drawn_in"] ++ List.replicate 2 "" ++ ["shortest_turn"] ++ List.replicate 2 "" ++ ["word_of"] ++ List.replicate 3 "" ++ ["for_ever_holds"] ++ List.replicate 64 "" ++ ["word_holds"] ++ List.replicate 53 "" ++ ["_law_doors"] ++ List.replicate 8 "" ++ ["_law_lead"] ++ List.replicate 367 "" ++ ["_law_bent", "_law_bent_names", "_law_is", "law"]).map PySem.Str.ofString
noncomputable def fnNo:Fn:=⟨0,0,.no⟩
noncomputable def zti:List Fn:=[fn0,fn1,fn2,fn3,fn4,fn5,fn6,fn7,fn8,fn9,fn10,fn11,fn12,fn13,fn14,fn15]++List.replicate 1 fnNo++[fn17]++List.replicate 2 fnNo++[fn20,fn21]++List.replicate 1 fnNo++[fn23]++List.replicate 1 fnNo++[fn25,fn26,fn27]++List.replicate 1 fnNo++[fn29]++List.replicate 8 fnNo++[fn38,fn39]++List.replicate 19 fnNo++[fn59]++List.replicate 32 fnNo++[fn92,fn93]++List.replicate 5 fnNo++[fn99]++List.replicate 12 fnNo++[fn112]++List.replicate 4 fnNo++[fn117]++List.replicate 14 fnNo++[fn132]++List.replicate 40 fnNo++[fn173,fn174,fn175,fn176]++List.replicate 5 fnNo++[fn182]++List.replicate 11 fnNo++[fn194]++List.replicate 2 fnNo++[fn197]++List.replicate 2 fnNo++[fn200]++List.replicate 3 fnNo++[fn204]++List.replicate 64 fnNo++[fn269]++List.replicate 53 fnNo++[zcn]++List.replicate 8 fnNo++[zet]++List.replicate 367 fnNo++[zdq,zhx,zew,zex]
theorem c24:C24 λi=>zti[i]?:=by repeat' (first|rfl|constructor)
end RF
set_option maxHeartbeats 0 in
theorem RF.pb24(P:PySem.Params):RF.cProg (HD.K P) RF.T24 60 60=some RF.zti:=by kernel_rfl
open PySem PySem.W PyProof.Rows
set_option maxRecDepth 100000 in
set_option maxHeartbeats 0 in
theorem PySem.Challenge.cw_ballrockers_k24_word_papers_holds : PySem.Challenge.rw_ballrockers_k24_word_papers.Holds := by
 refine HD.holds _ rfl rfl RF.pa24 (by kernel_rfl) ⟨rfl,rfl,rfl,rfl,rfl,by decide +kernel⟩ ?hw rfl (by kernel_rfl) (by kernel_rfl) ?call
 (case hw=>w_witness2)
 refine RF.zrl RF.T24 60 60 30 703 rfl (by kernel_rfl) ⟨rfl,by decide,by decide⟩ (λw h Y=>PySem.W.kIn_of Y) (by kernel_rfl) (by decide +kernel) ?b ?c
 (case c=>intro w;kernel_rfl)
 (case b=>
   intro w ns hl
   exact RF.zu3 (RF.pb24 _) (RF.law24 RF.c24 hl))
